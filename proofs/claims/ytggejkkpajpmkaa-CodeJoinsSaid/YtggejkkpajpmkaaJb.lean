import Derived.Test.YtggejkkpajpmkaaCt
/- The law CodeJoins: its cases. -/
namespace Go.Proofs.Ytggejkkpajpmkaa
open Go.RowKit Go.Lib

set_option maxRecDepth 100000 in
set_option maxHeartbeats 4000000 in
theorem joins_21 (A : Option Addr) (n cap : Nat) (l : List Vl) (A' : Option Addr) (m cap' : Nat) (l' : List Vl) (k i : Int) (s : ByteArray) (k' i' : Int) (s' : ByteArray) (w : World) (h : Inp w A n l) (h' : Inp w A' m l') (hi : In64 i) (hs : s.size ≤ maxLen) (hi' : In64 i') (hs' : s'.size ≤ maxLen)
    (S S' : ByteArray) (hS : S = ⟨(valO k i (fewS s)).toArray⟩) (hS' : S' = ⟨(valO k' i' (fewS s')).toArray⟩) (h1 : (S.toList == S'.toList) = false) (h2 : S'.size ≤ S.size) (e1 : rowE (fewL l) = 1) :
    Calls Try.prog 5 #[.agg #[.slice A n cap, .slice A' m cap', .int .i64 k, .int .i64 i, .string s, .int .i64 k', .int .i64 i', .string s']] w fun e w' => e = .returned (.bool true) ∧ Below w.heap.size w w' := by
  have H := Lib.hid h
  have H' := Lib.hid h'
  have HX := Lib.hid (And.intro hi (And.intro hs (And.intro hi' hs')))
  have HV := Lib.hid (show ∀ W : World, Calls Try.prog 12 #[.agg #[.int .i64 k, .int .i64 i, .string (fewS s)]] W fun e w' => e = .returned (.string S) ∧ Below W.heap.size W w' from fun W => by rw [hS]; exact value_any k i (fewS s) W hi)
  have HV' := Lib.hid (show ∀ W : World, Calls Try.prog 12 #[.agg #[.int .i64 k', .int .i64 i', .string (fewS s')]] W fun e w' => e = .returned (.string S') ∧ Below W.heap.size W w' from fun W => by rw [hS']; exact value_any k' i' (fewS s') W hi')
  clear h h' hi hs hi' hs' hS hS'
  go_enter Try.func5, Try.ntmps5
  go_wp2
  refine detM_begin [.val (.pointer (some ⟨w.heap.size, 0, none⟩)), .val (.slice A n cap), .rel (OwnF (fewL l)), .val (.pointer (some ⟨w.heap.size, 1, none⟩)), .val (.slice A' m cap'), .rel (OwnF (fewL l')), .val (.pointer (some ⟨w.heap.size, 2, none⟩)), .val (.agg #[.int .i64 k, .int .i64 i, .string s]), .val (.pointer (some ⟨w.heap.size, 5, none⟩)), .val (.agg #[.int .i64 k', .int .i64 i', .string s']), .rel newR, .rel newR, .pure, .pure] 14 16 (by kernel_rfl) (by kernel_rfl) ?_
  refine detM_val 0 (by kernel_rfl) rfl rfl (yields_of rfl fun w1 hb1 => ?_) ?_
  · have hc1 := bcellD hb1
    clear hb1
    go_simp
    exact Det1_same
  simp only [Act.put]
  refine detM_val 1 (by kernel_rfl) rfl rfl (yields_of rfl fun w1 hb1 => ?_) ?_
  · have hc1 := bcellD hb1
    clear hb1
    go_simp
    exact Det1_same
  simp only [Act.put]
  refine detM_rel 2 (by kernel_rfl) rfl rfl (yields_rel (by rfl) (ownF_lasting _) fun w1 hw1 => ?_) ?_
  · have hb1 := hw1.below
    have hv1 := Lib.hid ((H.out.vals.keep ((((Below.refl w.heap.size w).alloc (Nat.le_refl _) _).drew).trans (hb1.mono (by simp)))).more (show w.heap.size ≤ w1.heap.size by have := hb1.size; simp at this; omega))
    clear hw1 hb1
    go_simp
    exact few_made H.out.len hv1.out H.out.short
  rintro v1 F1 w1 hw1
  have o1 : OwnF (fewL l) v1 F1 w1 := (hw1.ents _ List.mem_cons_self).1
  obtain ⟨A1, c1, rfl, -, -, -⟩ := Vals.of_own o1.1
  clear hw1 o1
  simp only [Act.put]
  refine detM_val 3 (by kernel_rfl) rfl rfl (yields_of rfl fun w1 hb1 => ?_) ?_
  · have hc1 := bcellD hb1
    clear hb1
    go_simp
    exact Det1_same
  simp only [Act.put]
  refine detM_val 4 (by kernel_rfl) rfl rfl (yields_of rfl fun w1 hb1 => ?_) ?_
  · have hc1 := bcellD hb1
    clear hb1
    go_simp
    exact Det1_same
  simp only [Act.put]
  refine detM_rel 5 (by kernel_rfl) rfl rfl (yields_rel (by rfl) (ownF_lasting _) fun w1 hw1 => ?_) ?_
  · have hb1 := hw1.below
    have hv1 := Lib.hid ((H'.out.vals.keep ((((Below.refl w.heap.size w).alloc (Nat.le_refl _) _).drew).trans (hb1.mono (by simp)))).more (show w.heap.size ≤ w1.heap.size by have := hb1.size; simp at this; omega))
    clear hw1 hb1
    go_simp
    exact few_made H'.out.len hv1.out H'.out.short
  rintro v2 F2 w1 hw1
  have o2 : OwnF (fewL l') v2 F2 w1 := (hw1.ents _ List.mem_cons_self).1
  obtain ⟨A2, c2, rfl, -, -, -⟩ := Vals.of_own o2.1
  clear hw1 o2
  simp only [Act.put]
  refine detM_val 6 (by kernel_rfl) rfl rfl (yields_of rfl fun w1 hb1 => ?_) ?_
  · have hc1 := bcellD hb1
    clear hb1
    go_simp
    exact Det1_same
  simp only [Act.put]
  refine detM_val 7 (by kernel_rfl) rfl rfl (yields_of rfl fun w1 hb1 => ?_) ?_
  · have hc1 := bcellD hb1
    clear hb1
    go_simp
    exact Det1_same
  simp only [Act.put]
  refine detM_rel 10 (by kernel_rfl) rfl rfl (yields_rel (by rfl) newR_lasting fun w1 hw1 => ?_) ?_
  · clear hw1
    go_simp
    exact newR_made
  rintro v5 F5 w1 hw1
  obtain ⟨b5, rfl, rfl, -⟩ := (hw1.ents _ List.mem_cons_self).1
  clear hw1
  simp only [Act.put]
  refine detM_rel 11 (by kernel_rfl) rfl rfl (yields_rel (by rfl) newR_lasting fun w1 hw1 => ?_) ?_
  · clear hw1
    go_simp
    exact newR_made
  rintro v6 F6 w1 hw1
  obtain ⟨b6, rfl, rfl, -⟩ := (hw1.ents _ List.mem_cons_self).1
  clear hw1
  simp only [Act.put]
  refine detM_pure 12 (.slice A1 (fewL l).length c1) (by kernel_rfl) rfl rfl rfl (fun w1 => ?_) ?_
  · go_simp
  simp only [Act.put]
  refine detM_pure 13 (.slice A2 (fewL l').length c2) (by kernel_rfl) rfl rfl rfl (fun w1 => ?_) ?_
  · go_simp
  simp only [Act.put]
  refine detM_leaf 8 9 14 15 (by kernel_rfl) rfl rfl rfl rfl rfl rfl rfl rfl rfl rfl rfl rfl rfl rfl (fun w1 hb1 => ?_) (fun w1 hb1 => ?_) fun w1 hw1 => ?_
  · have hc1 := bcellD hb1
    clear hb1
    go_simp
  · have hc1 := bcellD hb1
    clear hb1
    simp only [Act.put]
    go_simp
  have e6 := hw1.ents _ List.mem_cons_self
  have e5 := hw1.ents _ (List.mem_cons_of_mem _ List.mem_cons_self)
  have e2 := hw1.ents _ (List.mem_cons_of_mem _ (List.mem_cons_of_mem _ List.mem_cons_self))
  have e1 := hw1.ents _ (List.mem_cons_of_mem _ (List.mem_cons_of_mem _ (List.mem_cons_of_mem _ List.mem_cons_self)))
  have ap := hw1.apart
  simp only [List.pairwise_cons, List.mem_cons, List.not_mem_nil, or_false, forall_eq_or_imp, forall_eq] at ap
  have B6 := (newR_at e6.1)
  have B5 := (newR_at e5.1)
  have d65 : b6 ≠ b5 := ap.1.1
  have o1 := e1.1.1
  have o2 := e2.1.1
  have n15 : (Value.slice A1 (fewL l).length c1).ownBlock ≠ some b5 := fun q => ap.2.1.2 (e1.1.2 b5 q)
  have n16 : (Value.slice A1 (fewL l).length c1).ownBlock ≠ some b6 := fun q => ap.1.2.2 (e1.1.2 b6 q)
  have n25 : (Value.slice A2 (fewL l').length c2).ownBlock ≠ some b5 := fun q => ap.2.1.1 (e2.1.2 b5 q)
  have n26 : (Value.slice A2 (fewL l').length c2).ownBlock ≠ some b6 := fun q => ap.1.2.1 (e2.1.2 b6 q)
  have n5 : w.heap.size ≤ b5 := by have := (e5.2.2 b5 List.mem_cons_self).1; simp at this; omega
  have n6 : w.heap.size ≤ b6 := by have := (e6.2.2 b6 List.mem_cons_self).1; simp at this; omega
  have n5' := (e5.2.2 b5 List.mem_cons_self).1
  have hb0 := hw1.below
  have hb1 : Below w.heap.size w w1 := (((Below.refl w.heap.size w).alloc (Nat.le_refl _) _).drew).trans (hw1.below.mono (by simp))
  have HH := Lib.hid (And.intro o1 (And.intro o2 (And.intro B5 (And.intro B6 (And.intro hb1 hb0)))))
  have HN := Lib.hid (And.intro n15 (And.intro n16 (And.intro n25 n26)))
  have k5 := B5.1.k
  have i5 := B5.1.i
  have s5 := B5.1.s
  have k6 := B6.1.k
  have i6 := B6.1.i
  have s6 := B6.1.s
  have z5 := B5.2
  have z6 := B6.2
  have HZ := Lib.hid n5'
  clear hw1 e1 e2 e5 e6 ap o1 o2 n15 n16 n25 n26 B5 B6 hb1 hb0 n5'
  simp only [Act.put]
  refine ⟨?w1, ?w2, ?hb, ?k0, ?k1, ?k2, ?m0, ?hQ⟩
  case k0 => go_simp; exact rfl
  case k1 => go_simp
  case k2 => go_simp
  case m0 => go_simp; exact rfl
  case hb =>
    exact cSet3 HZ.out HH.out.2.2.2.2.2 _ _ _
  go_upto_region 2 with (fail)
  refine wp_gen (fun W => Below w.heap.size w W ∧ At3 W b5 k i s ∧ At3 W b6 k' i' s' ∧ W.ownsRow 0 24 3 (Value.slice A1 (fewL l).length c1) (fewL l).length (cellsOf (fewL l)) ∧ W.ownsRow 0 24 3 (Value.slice A2 (fewL l').length c2) (fewL l').length (cellsOf (fewL l'))) ⟨?_, ?_, ?_, ?_, ?_⟩ ?_
  · have hb1 := HH.out.2.2.2.2.1
    repeat (first | (with_reducible exact Below.refl _ _) | ((with_reducible refine cSet3 ?_ ?_ _ _ _); (· ((try simp) <;> omega))) | (with_reducible refine Below.drew ?_) | ((with_reducible refine cAlloc ?_ ?_ _); (· ((try simp) <;> omega))) | ((with_reducible refine cOn (by assumption) ?_ ?_); (· ((try simp) <;> omega))))
  · have B5 := HH.out.2.2.1.1
    have B6 := HH.out.2.2.2.1.1
    exact (B5.set_same _ _ _).set_other d65 _ _ _
  · have B6 := HH.out.2.2.2.1.1
    exact (Box.of (B6.set_other (Ne.symm d65) _ _ _)).set _ _ _
  · exact own_set' HN.out.2.1 (own_set' HN.out.2.1 (own_set' HN.out.2.1 (own_set' HN.out.1 (own_set' HN.out.1 (own_set' HN.out.1 HH.out.1)))))
  · exact own_set' HN.out.2.2.2 (own_set' HN.out.2.2.2 (own_set' HN.out.2.2.2 (own_set' HN.out.2.2.1 (own_set' HN.out.2.2.1 (own_set' HN.out.2.2.1 HH.out.2.1)))))
  rintro W ⟨hB, A5, A6, ho1, ho2⟩
  clear HH HN HZ k5 i5 s5 k6 i6 s6 z5 z6

  have hv1 : Vals W W.heap.size A1 (fewL l).length (fewL l) := by
    obtain ⟨_, _, e, h, -, -⟩ := Vals.of_own ho1
    injection e with e
    rw [e]; exact h
  have hv2 : Vals W W.heap.size A2 (fewL l').length (fewL l') := by
    obtain ⟨_, _, e, h, -, -⟩ := Vals.of_own ho2
    injection e with e
    rw [e]; exact h
  have HW := Lib.hid (And.intro hB (And.intro A5 (And.intro A6 (And.intro ho1 (And.intro ho2 (And.intro hv1 hv2))))))
  have hWs := hB.size
  clear hB A5 A6 ho1 ho2 hv1 hv2
  go_wp2_with (first
    | (go_at_call_of 10 (Value.slice A1 (fewL l).length c1); refine (row_any A1 (fewL l).length c1 (fewL l) _ (by have := few_len l; omega) HW.out.2.2.2.2.2.1 (few_i64 H.out.i64)).mono ?_; rintro e w1 ⟨rfl, hb1⟩; have HH1 := Lib.hid hb1; have hs1 := hb1.size; clear hb1)
    | (go_at_call_of 10 (Value.slice A2 (fewL l').length c2); refine (row_any A2 (fewL l').length c2 (fewL l') _ (by have := few_len l'; omega) ((HW.out.2.2.2.2.2.2.keep HH1.out).more hs1) (few_i64 H'.out.i64)).mono ?_; rintro e w2 ⟨rfl, hb2⟩; have HH2 := Lib.hid (And.intro (HH1.out.trans (hb2.mono hs1)) (And.intro (own_below (own_below HW.out.2.2.2.1 HH1.out (Nat.le_refl _)) hb2 (Nat.le_refl _)) (own_below (own_below HW.out.2.2.2.2.1 HH1.out (Nat.le_refl _)) hb2 (Nat.le_refl _)))); have hs2 := hb2.size; clear hb2)
    | (at_builtin; refine append_row rfl _ _ rfl W.heap.size _ _ [] (fewL l) rfl rfl (lit_row w2 _ (by omega)) (HH2.out.2.1.alloc _) (by have := few_len l; simp; omega) (by simp; omega) ?_))
  intro v3 w3 ho3' hg3
  have ho3 : w3.ownsRow W.heap.size 24 3 v3 (fewL l).length (cellsOf (fewL l)) := ho3'
  have hb3 : Below W.heap.size W w3 := (HH2.out.1.alloc (by omega) _).grown hg3 (by simp; omega) fun g hg' => ((lit_row w2 W.heap.size (by omega)).lt g hg').1
  have ho23 := (HH2.out.2.2.alloc (.cells #[] 24)).kept hg3 (.inr fun q => by
    have h1 : w2.heap.size < W.heap.size := (HW.out.2.2.2.2.1.lt _ q).2
    omega)
  have HH3 := Lib.hid (And.intro ho3 (And.intro ho23 hb3))
  have hs3 := hb3.size
  clear ho3' ho3 hg3 ho23 hb3
  go_wp2_with (at_builtin; refine append_row rfl _ _ rfl W.heap.size _ _ (fewL l) (fewL l') rfl rfl HH3.out.1 HH3.out.2.1 (by have := few_len l; have := few_len l'; omega) (by omega) ?_)
  intro v4 w4 ho4 hg4
  have hb4 : Below W.heap.size W w4 := HH3.out.2.2.grown hg4 (by omega) fun g hg' => (HH3.out.1.lt g hg').1
  obtain ⟨n4, hn4⟩ : ∃ x, x = (fewL l).length + (fewL l').length := ⟨_, rfl⟩
  rw [← hn4] at ho4
  have n4le : n4 ≤ 1000 := by have := few_len l; have := few_len l'; omega
  clear hn4
  obtain ⟨A4, c4, rfl, hv4, -, -⟩ := Vals.of_own ho4
  have HH4 := Lib.hid (And.intro hv4 hb4)
  have hs4 := hb4.size
  clear ho4 hg4 hv4 hb4
  go_wp2_with (go_at_call_of 10 (Value.slice A4 n4 c4); refine (row_any A4 n4 c4 (fewL l ++ fewL l') _ n4le HH4.out.1 (i64_app (few_i64 H.out.i64) (few_i64 H'.out.i64))).mono ?_; rintro e w5 ⟨rfl, hb5⟩; have HH5 := Lib.hid (HH4.out.2.trans (hb5.mono hs4)); have hs5 := hb5.size; clear hb5)
  refine wp_gen (fun X => Below W.heap.size W X) HH5.out ?_
  intro W7 hb7
  have q5 := HW.out.2.1.later hb7
  have q6 := HW.out.2.2.1.later hb7
  have k5 := q5.k
  have i5 := q5.i
  have s5 := q5.s
  have l5 := q5.lt
  have k6 := q6.k
  have i6 := q6.i
  have s6 := q6.s
  have l6 := q6.lt
  have HH7 := Lib.hid (HW.out.1.trans (hb7.mono hWs))
  have hs7 := hb7.size
  clear HH1 HH2 HH3 HH4 HH5 q5 q6 hb7
  refine detL_begin [.val (.agg #[.int .i64 k, .int .i64 i, .string s]), .val (.agg #[.int .i64 k, .int .i64 i, .string (fewS s)]), .val (.string S), .val (.agg #[.int .i64 k', .int .i64 i', .string s']), .val (.agg #[.int .i64 k', .int .i64 i', .string (fewS s')]), .val (.string S'), .val (.string S), .val (.string S')] 8 (by kernel_rfl) ?_
  refine detL_val (by kernel_rfl) (yields_of rfl fun w1 hb1 => ?_) ?_
  · have hc1 := bcellD hb1
    clear hb1
    go_simp
    exact Det1_same
  simp only [Act.put, List.setIfInBounds_toArray, List.set_cons_zero, List.set_cons_succ]
  refine detL_val (by kernel_rfl) (yields_of rfl fun w1 hb1 => ?_) ?_
  · have hc1 := bcellD hb1
    clear hb1
    go_simp
    exact Det1_enter (few_any k i s _ HX.out.2.1)
  simp only [Act.put, List.setIfInBounds_toArray, List.set_cons_zero, List.set_cons_succ]
  refine detL_val (by kernel_rfl) (yields_of rfl fun w1 hb1 => ?_) ?_
  · have hc1 := bcellD hb1
    clear hb1
    go_simp
    exact Det1_enter (HV.out _)
  simp only [Act.put, List.setIfInBounds_toArray, List.set_cons_zero, List.set_cons_succ]
  refine detL_val (by kernel_rfl) (yields_of rfl fun w1 hb1 => ?_) ?_
  · have hc1 := bcellD hb1
    clear hb1
    go_simp
    exact Det1_same
  simp only [Act.put, List.setIfInBounds_toArray, List.set_cons_zero, List.set_cons_succ]
  refine detL_val (by kernel_rfl) (yields_of rfl fun w1 hb1 => ?_) ?_
  · have hc1 := bcellD hb1
    clear hb1
    go_simp
    exact Det1_enter (few_any k' i' s' _ HX.out.2.2.2)
  simp only [Act.put, List.setIfInBounds_toArray, List.set_cons_zero, List.set_cons_succ]
  refine detL_val (by kernel_rfl) (yields_of rfl fun w1 hb1 => ?_) ?_
  · have hc1 := bcellD hb1
    clear hb1
    go_simp
    exact Det1_enter (HV'.out _)
  simp only [Act.put, List.setIfInBounds_toArray, List.set_cons_zero, List.set_cons_succ]
  refine detL_val (by kernel_rfl) (yields_of rfl fun w1 hb1 => ?_) ?_
  · have hc1 := bcellD hb1
    clear hb1
    go_simp
    exact Det1_same
  simp only [Act.put, List.setIfInBounds_toArray, List.set_cons_zero, List.set_cons_succ]
  refine detL_val (by kernel_rfl) (yields_of rfl fun w1 hb1 => ?_) ?_
  · have hc1 := bcellD hb1
    clear hb1
    go_simp
    exact Det1_same
  simp only [Act.put, List.setIfInBounds_toArray, List.set_cons_zero, List.set_cons_succ]
  refine detL_done (by kernel_rfl) fun w8 hw8 => ?_
  have HH8 := Lib.hid hw8.below
  clear hw8
  go_wp2_with (go_at_call 16; refine (awake2_any _).mono ?_; rintro e w9 ⟨rfl, hb9⟩)
  go_ret
  refine ⟨rfl, ?_⟩
  have hs8 := HH8.out.size
  simp at hs8
  exact (HH7.out.drew.trans (HH8.out.mono (by simp; omega))).trans (hb9.mono (by omega))

set_option maxRecDepth 100000 in
set_option maxHeartbeats 4000000 in
theorem joins_22 (A : Option Addr) (n cap : Nat) (l : List Vl) (A' : Option Addr) (m cap' : Nat) (l' : List Vl) (k i : Int) (s : ByteArray) (k' i' : Int) (s' : ByteArray) (w : World) (h : Inp w A n l) (h' : Inp w A' m l') (hi : In64 i) (hs : s.size ≤ maxLen) (hi' : In64 i') (hs' : s'.size ≤ maxLen)
    (S S' : ByteArray) (hS : S = ⟨(valO k i (fewS s)).toArray⟩) (hS' : S' = ⟨(valO k' i' (fewS s')).toArray⟩) (h1 : (S.toList == S'.toList) = false) (h2 : S'.size ≤ S.size) (e1 : rowE (fewL l) = 0) (e2 : rowE (fewL l') = 1) :
    Calls Try.prog 5 #[.agg #[.slice A n cap, .slice A' m cap', .int .i64 k, .int .i64 i, .string s, .int .i64 k', .int .i64 i', .string s']] w fun e w' => e = .returned (.bool true) ∧ Below w.heap.size w w' := by
  have H := Lib.hid h
  have H' := Lib.hid h'
  have HX := Lib.hid (And.intro hi (And.intro hs (And.intro hi' hs')))
  have HV := Lib.hid (show ∀ W : World, Calls Try.prog 12 #[.agg #[.int .i64 k, .int .i64 i, .string (fewS s)]] W fun e w' => e = .returned (.string S) ∧ Below W.heap.size W w' from fun W => by rw [hS]; exact value_any k i (fewS s) W hi)
  have HV' := Lib.hid (show ∀ W : World, Calls Try.prog 12 #[.agg #[.int .i64 k', .int .i64 i', .string (fewS s')]] W fun e w' => e = .returned (.string S') ∧ Below W.heap.size W w' from fun W => by rw [hS']; exact value_any k' i' (fewS s') W hi')
  clear h h' hi hs hi' hs' hS hS'
  go_enter Try.func5, Try.ntmps5
  go_wp2
  refine detM_begin [.val (.pointer (some ⟨w.heap.size, 0, none⟩)), .val (.slice A n cap), .rel (OwnF (fewL l)), .val (.pointer (some ⟨w.heap.size, 1, none⟩)), .val (.slice A' m cap'), .rel (OwnF (fewL l')), .val (.pointer (some ⟨w.heap.size, 2, none⟩)), .val (.agg #[.int .i64 k, .int .i64 i, .string s]), .val (.pointer (some ⟨w.heap.size, 5, none⟩)), .val (.agg #[.int .i64 k', .int .i64 i', .string s']), .rel newR, .rel newR, .pure, .pure] 14 16 (by kernel_rfl) (by kernel_rfl) ?_
  refine detM_val 0 (by kernel_rfl) rfl rfl (yields_of rfl fun w1 hb1 => ?_) ?_
  · have hc1 := bcellD hb1
    clear hb1
    go_simp
    exact Det1_same
  simp only [Act.put]
  refine detM_val 1 (by kernel_rfl) rfl rfl (yields_of rfl fun w1 hb1 => ?_) ?_
  · have hc1 := bcellD hb1
    clear hb1
    go_simp
    exact Det1_same
  simp only [Act.put]
  refine detM_rel 2 (by kernel_rfl) rfl rfl (yields_rel (by rfl) (ownF_lasting _) fun w1 hw1 => ?_) ?_
  · have hb1 := hw1.below
    have hv1 := Lib.hid ((H.out.vals.keep ((((Below.refl w.heap.size w).alloc (Nat.le_refl _) _).drew).trans (hb1.mono (by simp)))).more (show w.heap.size ≤ w1.heap.size by have := hb1.size; simp at this; omega))
    clear hw1 hb1
    go_simp
    exact few_made H.out.len hv1.out H.out.short
  rintro v1 F1 w1 hw1
  have o1 : OwnF (fewL l) v1 F1 w1 := (hw1.ents _ List.mem_cons_self).1
  obtain ⟨A1, c1, rfl, -, -, -⟩ := Vals.of_own o1.1
  clear hw1 o1
  simp only [Act.put]
  refine detM_val 3 (by kernel_rfl) rfl rfl (yields_of rfl fun w1 hb1 => ?_) ?_
  · have hc1 := bcellD hb1
    clear hb1
    go_simp
    exact Det1_same
  simp only [Act.put]
  refine detM_val 4 (by kernel_rfl) rfl rfl (yields_of rfl fun w1 hb1 => ?_) ?_
  · have hc1 := bcellD hb1
    clear hb1
    go_simp
    exact Det1_same
  simp only [Act.put]
  refine detM_rel 5 (by kernel_rfl) rfl rfl (yields_rel (by rfl) (ownF_lasting _) fun w1 hw1 => ?_) ?_
  · have hb1 := hw1.below
    have hv1 := Lib.hid ((H'.out.vals.keep ((((Below.refl w.heap.size w).alloc (Nat.le_refl _) _).drew).trans (hb1.mono (by simp)))).more (show w.heap.size ≤ w1.heap.size by have := hb1.size; simp at this; omega))
    clear hw1 hb1
    go_simp
    exact few_made H'.out.len hv1.out H'.out.short
  rintro v2 F2 w1 hw1
  have o2 : OwnF (fewL l') v2 F2 w1 := (hw1.ents _ List.mem_cons_self).1
  obtain ⟨A2, c2, rfl, -, -, -⟩ := Vals.of_own o2.1
  clear hw1 o2
  simp only [Act.put]
  refine detM_val 6 (by kernel_rfl) rfl rfl (yields_of rfl fun w1 hb1 => ?_) ?_
  · have hc1 := bcellD hb1
    clear hb1
    go_simp
    exact Det1_same
  simp only [Act.put]
  refine detM_val 7 (by kernel_rfl) rfl rfl (yields_of rfl fun w1 hb1 => ?_) ?_
  · have hc1 := bcellD hb1
    clear hb1
    go_simp
    exact Det1_same
  simp only [Act.put]
  refine detM_rel 10 (by kernel_rfl) rfl rfl (yields_rel (by rfl) newR_lasting fun w1 hw1 => ?_) ?_
  · clear hw1
    go_simp
    exact newR_made
  rintro v5 F5 w1 hw1
  obtain ⟨b5, rfl, rfl, -⟩ := (hw1.ents _ List.mem_cons_self).1
  clear hw1
  simp only [Act.put]
  refine detM_rel 11 (by kernel_rfl) rfl rfl (yields_rel (by rfl) newR_lasting fun w1 hw1 => ?_) ?_
  · clear hw1
    go_simp
    exact newR_made
  rintro v6 F6 w1 hw1
  obtain ⟨b6, rfl, rfl, -⟩ := (hw1.ents _ List.mem_cons_self).1
  clear hw1
  simp only [Act.put]
  refine detM_pure 12 (.slice A1 (fewL l).length c1) (by kernel_rfl) rfl rfl rfl (fun w1 => ?_) ?_
  · go_simp
  simp only [Act.put]
  refine detM_pure 13 (.slice A2 (fewL l').length c2) (by kernel_rfl) rfl rfl rfl (fun w1 => ?_) ?_
  · go_simp
  simp only [Act.put]
  refine detM_leaf 8 9 14 15 (by kernel_rfl) rfl rfl rfl rfl rfl rfl rfl rfl rfl rfl rfl rfl rfl rfl (fun w1 hb1 => ?_) (fun w1 hb1 => ?_) fun w1 hw1 => ?_
  · have hc1 := bcellD hb1
    clear hb1
    go_simp
  · have hc1 := bcellD hb1
    clear hb1
    simp only [Act.put]
    go_simp
  have e6 := hw1.ents _ List.mem_cons_self
  have e5 := hw1.ents _ (List.mem_cons_of_mem _ List.mem_cons_self)
  have e2 := hw1.ents _ (List.mem_cons_of_mem _ (List.mem_cons_of_mem _ List.mem_cons_self))
  have e1 := hw1.ents _ (List.mem_cons_of_mem _ (List.mem_cons_of_mem _ (List.mem_cons_of_mem _ List.mem_cons_self)))
  have ap := hw1.apart
  simp only [List.pairwise_cons, List.mem_cons, List.not_mem_nil, or_false, forall_eq_or_imp, forall_eq] at ap
  have B6 := (newR_at e6.1)
  have B5 := (newR_at e5.1)
  have d65 : b6 ≠ b5 := ap.1.1
  have o1 := e1.1.1
  have o2 := e2.1.1
  have n15 : (Value.slice A1 (fewL l).length c1).ownBlock ≠ some b5 := fun q => ap.2.1.2 (e1.1.2 b5 q)
  have n16 : (Value.slice A1 (fewL l).length c1).ownBlock ≠ some b6 := fun q => ap.1.2.2 (e1.1.2 b6 q)
  have n25 : (Value.slice A2 (fewL l').length c2).ownBlock ≠ some b5 := fun q => ap.2.1.1 (e2.1.2 b5 q)
  have n26 : (Value.slice A2 (fewL l').length c2).ownBlock ≠ some b6 := fun q => ap.1.2.1 (e2.1.2 b6 q)
  have n5 : w.heap.size ≤ b5 := by have := (e5.2.2 b5 List.mem_cons_self).1; simp at this; omega
  have n6 : w.heap.size ≤ b6 := by have := (e6.2.2 b6 List.mem_cons_self).1; simp at this; omega
  have n5' := (e5.2.2 b5 List.mem_cons_self).1
  have hb0 := hw1.below
  have hb1 : Below w.heap.size w w1 := (((Below.refl w.heap.size w).alloc (Nat.le_refl _) _).drew).trans (hw1.below.mono (by simp))
  have HH := Lib.hid (And.intro o1 (And.intro o2 (And.intro B5 (And.intro B6 (And.intro hb1 hb0)))))
  have HN := Lib.hid (And.intro n15 (And.intro n16 (And.intro n25 n26)))
  have k5 := B5.1.k
  have i5 := B5.1.i
  have s5 := B5.1.s
  have k6 := B6.1.k
  have i6 := B6.1.i
  have s6 := B6.1.s
  have z5 := B5.2
  have z6 := B6.2
  have HZ := Lib.hid n5'
  clear hw1 e1 e2 e5 e6 ap o1 o2 n15 n16 n25 n26 B5 B6 hb1 hb0 n5'
  simp only [Act.put]
  refine ⟨?w1, ?w2, ?hb, ?k0, ?k1, ?k2, ?m0, ?hQ⟩
  case k0 => go_simp; exact rfl
  case k1 => go_simp
  case k2 => go_simp
  case m0 => go_simp; exact rfl
  case hb =>
    exact cSet3 HZ.out HH.out.2.2.2.2.2 _ _ _
  go_upto_region 2 with (fail)
  refine wp_gen (fun W => Below w.heap.size w W ∧ At3 W b5 k i s ∧ At3 W b6 k' i' s' ∧ W.ownsRow 0 24 3 (Value.slice A1 (fewL l).length c1) (fewL l).length (cellsOf (fewL l)) ∧ W.ownsRow 0 24 3 (Value.slice A2 (fewL l').length c2) (fewL l').length (cellsOf (fewL l'))) ⟨?_, ?_, ?_, ?_, ?_⟩ ?_
  · have hb1 := HH.out.2.2.2.2.1
    repeat (first | (with_reducible exact Below.refl _ _) | ((with_reducible refine cSet3 ?_ ?_ _ _ _); (· ((try simp) <;> omega))) | (with_reducible refine Below.drew ?_) | ((with_reducible refine cAlloc ?_ ?_ _); (· ((try simp) <;> omega))) | ((with_reducible refine cOn (by assumption) ?_ ?_); (· ((try simp) <;> omega))))
  · have B5 := HH.out.2.2.1.1
    have B6 := HH.out.2.2.2.1.1
    exact (B5.set_same _ _ _).set_other d65 _ _ _
  · have B6 := HH.out.2.2.2.1.1
    exact (Box.of (B6.set_other (Ne.symm d65) _ _ _)).set _ _ _
  · exact own_set' HN.out.2.1 (own_set' HN.out.2.1 (own_set' HN.out.2.1 (own_set' HN.out.1 (own_set' HN.out.1 (own_set' HN.out.1 HH.out.1)))))
  · exact own_set' HN.out.2.2.2 (own_set' HN.out.2.2.2 (own_set' HN.out.2.2.2 (own_set' HN.out.2.2.1 (own_set' HN.out.2.2.1 (own_set' HN.out.2.2.1 HH.out.2.1)))))
  rintro W ⟨hB, A5, A6, ho1, ho2⟩
  clear HH HN HZ k5 i5 s5 k6 i6 s6 z5 z6

  have hv1 : Vals W W.heap.size A1 (fewL l).length (fewL l) := by
    obtain ⟨_, _, e, h, -, -⟩ := Vals.of_own ho1
    injection e with e
    rw [e]; exact h
  have hv2 : Vals W W.heap.size A2 (fewL l').length (fewL l') := by
    obtain ⟨_, _, e, h, -, -⟩ := Vals.of_own ho2
    injection e with e
    rw [e]; exact h
  have HW := Lib.hid (And.intro hB (And.intro A5 (And.intro A6 (And.intro ho1 (And.intro ho2 (And.intro hv1 hv2))))))
  have hWs := hB.size
  clear hB A5 A6 ho1 ho2 hv1 hv2
  go_wp2_with (first
    | (go_at_call_of 10 (Value.slice A1 (fewL l).length c1); refine (row_any A1 (fewL l).length c1 (fewL l) _ (by have := few_len l; omega) HW.out.2.2.2.2.2.1 (few_i64 H.out.i64)).mono ?_; rintro e w1 ⟨rfl, hb1⟩; have HH1 := Lib.hid hb1; have hs1 := hb1.size; clear hb1)
    | (go_at_call_of 10 (Value.slice A2 (fewL l').length c2); refine (row_any A2 (fewL l').length c2 (fewL l') _ (by have := few_len l'; omega) ((HW.out.2.2.2.2.2.2.keep HH1.out).more hs1) (few_i64 H'.out.i64)).mono ?_; rintro e w2 ⟨rfl, hb2⟩; have HH2 := Lib.hid (And.intro (HH1.out.trans (hb2.mono hs1)) (And.intro (own_below (own_below HW.out.2.2.2.1 HH1.out (Nat.le_refl _)) hb2 (Nat.le_refl _)) (own_below (own_below HW.out.2.2.2.2.1 HH1.out (Nat.le_refl _)) hb2 (Nat.le_refl _)))); have hs2 := hb2.size; clear hb2)
    | (at_builtin; refine append_row rfl _ _ rfl W.heap.size _ _ [] (fewL l) rfl rfl (lit_row w2 _ (by omega)) (HH2.out.2.1.alloc _) (by have := few_len l; simp; omega) (by simp; omega) ?_))
  intro v3 w3 ho3' hg3
  have ho3 : w3.ownsRow W.heap.size 24 3 v3 (fewL l).length (cellsOf (fewL l)) := ho3'
  have hb3 : Below W.heap.size W w3 := (HH2.out.1.alloc (by omega) _).grown hg3 (by simp; omega) fun g hg' => ((lit_row w2 W.heap.size (by omega)).lt g hg').1
  have ho23 := (HH2.out.2.2.alloc (.cells #[] 24)).kept hg3 (.inr fun q => by
    have h1 : w2.heap.size < W.heap.size := (HW.out.2.2.2.2.1.lt _ q).2
    omega)
  have HH3 := Lib.hid (And.intro ho3 (And.intro ho23 hb3))
  have hs3 := hb3.size
  clear ho3' ho3 hg3 ho23 hb3
  go_wp2_with (at_builtin; refine append_row rfl _ _ rfl W.heap.size _ _ (fewL l) (fewL l') rfl rfl HH3.out.1 HH3.out.2.1 (by have := few_len l; have := few_len l'; omega) (by omega) ?_)
  intro v4 w4 ho4 hg4
  have hb4 : Below W.heap.size W w4 := HH3.out.2.2.grown hg4 (by omega) fun g hg' => (HH3.out.1.lt g hg').1
  obtain ⟨n4, hn4⟩ : ∃ x, x = (fewL l).length + (fewL l').length := ⟨_, rfl⟩
  rw [← hn4] at ho4
  have n4le : n4 ≤ 1000 := by have := few_len l; have := few_len l'; omega
  clear hn4
  obtain ⟨A4, c4, rfl, hv4, -, -⟩ := Vals.of_own ho4
  have HH4 := Lib.hid (And.intro hv4 hb4)
  have hs4 := hb4.size
  clear ho4 hg4 hv4 hb4
  go_wp2_with (go_at_call_of 10 (Value.slice A4 n4 c4); refine (row_any A4 n4 c4 (fewL l ++ fewL l') _ n4le HH4.out.1 (i64_app (few_i64 H.out.i64) (few_i64 H'.out.i64))).mono ?_; rintro e w5 ⟨rfl, hb5⟩; have HH5 := Lib.hid (HH4.out.2.trans (hb5.mono hs4)); have hs5 := hb5.size; clear hb5)
  refine wp_gen (fun X => Below W.heap.size W X) HH5.out ?_
  intro W7 hb7
  have q5 := HW.out.2.1.later hb7
  have q6 := HW.out.2.2.1.later hb7
  have k5 := q5.k
  have i5 := q5.i
  have s5 := q5.s
  have l5 := q5.lt
  have k6 := q6.k
  have i6 := q6.i
  have s6 := q6.s
  have l6 := q6.lt
  have HH7 := Lib.hid (HW.out.1.trans (hb7.mono hWs))
  have hs7 := hb7.size
  clear HH1 HH2 HH3 HH4 HH5 q5 q6 hb7
  refine detL_begin [.val (.agg #[.int .i64 k, .int .i64 i, .string s]), .val (.agg #[.int .i64 k, .int .i64 i, .string (fewS s)]), .val (.string S), .val (.agg #[.int .i64 k', .int .i64 i', .string s']), .val (.agg #[.int .i64 k', .int .i64 i', .string (fewS s')]), .val (.string S'), .val (.string S), .val (.string S')] 8 (by kernel_rfl) ?_
  refine detL_val (by kernel_rfl) (yields_of rfl fun w1 hb1 => ?_) ?_
  · have hc1 := bcellD hb1
    clear hb1
    go_simp
    exact Det1_same
  simp only [Act.put, List.setIfInBounds_toArray, List.set_cons_zero, List.set_cons_succ]
  refine detL_val (by kernel_rfl) (yields_of rfl fun w1 hb1 => ?_) ?_
  · have hc1 := bcellD hb1
    clear hb1
    go_simp
    exact Det1_enter (few_any k i s _ HX.out.2.1)
  simp only [Act.put, List.setIfInBounds_toArray, List.set_cons_zero, List.set_cons_succ]
  refine detL_val (by kernel_rfl) (yields_of rfl fun w1 hb1 => ?_) ?_
  · have hc1 := bcellD hb1
    clear hb1
    go_simp
    exact Det1_enter (HV.out _)
  simp only [Act.put, List.setIfInBounds_toArray, List.set_cons_zero, List.set_cons_succ]
  refine detL_val (by kernel_rfl) (yields_of rfl fun w1 hb1 => ?_) ?_
  · have hc1 := bcellD hb1
    clear hb1
    go_simp
    exact Det1_same
  simp only [Act.put, List.setIfInBounds_toArray, List.set_cons_zero, List.set_cons_succ]
  refine detL_val (by kernel_rfl) (yields_of rfl fun w1 hb1 => ?_) ?_
  · have hc1 := bcellD hb1
    clear hb1
    go_simp
    exact Det1_enter (few_any k' i' s' _ HX.out.2.2.2)
  simp only [Act.put, List.setIfInBounds_toArray, List.set_cons_zero, List.set_cons_succ]
  refine detL_val (by kernel_rfl) (yields_of rfl fun w1 hb1 => ?_) ?_
  · have hc1 := bcellD hb1
    clear hb1
    go_simp
    exact Det1_enter (HV'.out _)
  simp only [Act.put, List.setIfInBounds_toArray, List.set_cons_zero, List.set_cons_succ]
  refine detL_val (by kernel_rfl) (yields_of rfl fun w1 hb1 => ?_) ?_
  · have hc1 := bcellD hb1
    clear hb1
    go_simp
    exact Det1_same
  simp only [Act.put, List.setIfInBounds_toArray, List.set_cons_zero, List.set_cons_succ]
  refine detL_val (by kernel_rfl) (yields_of rfl fun w1 hb1 => ?_) ?_
  · have hc1 := bcellD hb1
    clear hb1
    go_simp
    exact Det1_same
  simp only [Act.put, List.setIfInBounds_toArray, List.set_cons_zero, List.set_cons_succ]
  refine detL_done (by kernel_rfl) fun w8 hw8 => ?_
  have HH8 := Lib.hid hw8.below
  clear hw8
  go_wp2_with (go_at_call 16; refine (awake2_any _).mono ?_; rintro e w9 ⟨rfl, hb9⟩)
  go_ret
  refine ⟨rfl, ?_⟩
  have hs8 := HH8.out.size
  simp at hs8
  exact (HH7.out.drew.trans (HH8.out.mono (by simp; omega))).trans (hb9.mono (by omega))

set_option maxRecDepth 100000 in
set_option maxHeartbeats 4000000 in
theorem joins_23 (A : Option Addr) (n cap : Nat) (l : List Vl) (A' : Option Addr) (m cap' : Nat) (l' : List Vl) (k i : Int) (s : ByteArray) (k' i' : Int) (s' : ByteArray) (w : World) (h : Inp w A n l) (h' : Inp w A' m l') (hi : In64 i) (hs : s.size ≤ maxLen) (hi' : In64 i') (hs' : s'.size ≤ maxLen)
    (S S' : ByteArray) (hS : S = ⟨(valO k i (fewS s)).toArray⟩) (hS' : S' = ⟨(valO k' i' (fewS s')).toArray⟩) (h1 : (S.toList == S'.toList) = false) (h2 : S'.size ≤ S.size) (e1 : rowE (fewL l) = 0) (e2 : rowE (fewL l') = 0) (e3 : rowE (fewL l ++ fewL l') = 1) :
    Calls Try.prog 5 #[.agg #[.slice A n cap, .slice A' m cap', .int .i64 k, .int .i64 i, .string s, .int .i64 k', .int .i64 i', .string s']] w fun e w' => e = .returned (.bool true) ∧ Below w.heap.size w w' := by
  have H := Lib.hid h
  have H' := Lib.hid h'
  have HX := Lib.hid (And.intro hi (And.intro hs (And.intro hi' hs')))
  have HV := Lib.hid (show ∀ W : World, Calls Try.prog 12 #[.agg #[.int .i64 k, .int .i64 i, .string (fewS s)]] W fun e w' => e = .returned (.string S) ∧ Below W.heap.size W w' from fun W => by rw [hS]; exact value_any k i (fewS s) W hi)
  have HV' := Lib.hid (show ∀ W : World, Calls Try.prog 12 #[.agg #[.int .i64 k', .int .i64 i', .string (fewS s')]] W fun e w' => e = .returned (.string S') ∧ Below W.heap.size W w' from fun W => by rw [hS']; exact value_any k' i' (fewS s') W hi')
  clear h h' hi hs hi' hs' hS hS'
  go_enter Try.func5, Try.ntmps5
  go_wp2
  refine detM_begin [.val (.pointer (some ⟨w.heap.size, 0, none⟩)), .val (.slice A n cap), .rel (OwnF (fewL l)), .val (.pointer (some ⟨w.heap.size, 1, none⟩)), .val (.slice A' m cap'), .rel (OwnF (fewL l')), .val (.pointer (some ⟨w.heap.size, 2, none⟩)), .val (.agg #[.int .i64 k, .int .i64 i, .string s]), .val (.pointer (some ⟨w.heap.size, 5, none⟩)), .val (.agg #[.int .i64 k', .int .i64 i', .string s']), .rel newR, .rel newR, .pure, .pure] 14 16 (by kernel_rfl) (by kernel_rfl) ?_
  refine detM_val 0 (by kernel_rfl) rfl rfl (yields_of rfl fun w1 hb1 => ?_) ?_
  · have hc1 := bcellD hb1
    clear hb1
    go_simp
    exact Det1_same
  simp only [Act.put]
  refine detM_val 1 (by kernel_rfl) rfl rfl (yields_of rfl fun w1 hb1 => ?_) ?_
  · have hc1 := bcellD hb1
    clear hb1
    go_simp
    exact Det1_same
  simp only [Act.put]
  refine detM_rel 2 (by kernel_rfl) rfl rfl (yields_rel (by rfl) (ownF_lasting _) fun w1 hw1 => ?_) ?_
  · have hb1 := hw1.below
    have hv1 := Lib.hid ((H.out.vals.keep ((((Below.refl w.heap.size w).alloc (Nat.le_refl _) _).drew).trans (hb1.mono (by simp)))).more (show w.heap.size ≤ w1.heap.size by have := hb1.size; simp at this; omega))
    clear hw1 hb1
    go_simp
    exact few_made H.out.len hv1.out H.out.short
  rintro v1 F1 w1 hw1
  have o1 : OwnF (fewL l) v1 F1 w1 := (hw1.ents _ List.mem_cons_self).1
  obtain ⟨A1, c1, rfl, -, -, -⟩ := Vals.of_own o1.1
  clear hw1 o1
  simp only [Act.put]
  refine detM_val 3 (by kernel_rfl) rfl rfl (yields_of rfl fun w1 hb1 => ?_) ?_
  · have hc1 := bcellD hb1
    clear hb1
    go_simp
    exact Det1_same
  simp only [Act.put]
  refine detM_val 4 (by kernel_rfl) rfl rfl (yields_of rfl fun w1 hb1 => ?_) ?_
  · have hc1 := bcellD hb1
    clear hb1
    go_simp
    exact Det1_same
  simp only [Act.put]
  refine detM_rel 5 (by kernel_rfl) rfl rfl (yields_rel (by rfl) (ownF_lasting _) fun w1 hw1 => ?_) ?_
  · have hb1 := hw1.below
    have hv1 := Lib.hid ((H'.out.vals.keep ((((Below.refl w.heap.size w).alloc (Nat.le_refl _) _).drew).trans (hb1.mono (by simp)))).more (show w.heap.size ≤ w1.heap.size by have := hb1.size; simp at this; omega))
    clear hw1 hb1
    go_simp
    exact few_made H'.out.len hv1.out H'.out.short
  rintro v2 F2 w1 hw1
  have o2 : OwnF (fewL l') v2 F2 w1 := (hw1.ents _ List.mem_cons_self).1
  obtain ⟨A2, c2, rfl, -, -, -⟩ := Vals.of_own o2.1
  clear hw1 o2
  simp only [Act.put]
  refine detM_val 6 (by kernel_rfl) rfl rfl (yields_of rfl fun w1 hb1 => ?_) ?_
  · have hc1 := bcellD hb1
    clear hb1
    go_simp
    exact Det1_same
  simp only [Act.put]
  refine detM_val 7 (by kernel_rfl) rfl rfl (yields_of rfl fun w1 hb1 => ?_) ?_
  · have hc1 := bcellD hb1
    clear hb1
    go_simp
    exact Det1_same
  simp only [Act.put]
  refine detM_rel 10 (by kernel_rfl) rfl rfl (yields_rel (by rfl) newR_lasting fun w1 hw1 => ?_) ?_
  · clear hw1
    go_simp
    exact newR_made
  rintro v5 F5 w1 hw1
  obtain ⟨b5, rfl, rfl, -⟩ := (hw1.ents _ List.mem_cons_self).1
  clear hw1
  simp only [Act.put]
  refine detM_rel 11 (by kernel_rfl) rfl rfl (yields_rel (by rfl) newR_lasting fun w1 hw1 => ?_) ?_
  · clear hw1
    go_simp
    exact newR_made
  rintro v6 F6 w1 hw1
  obtain ⟨b6, rfl, rfl, -⟩ := (hw1.ents _ List.mem_cons_self).1
  clear hw1
  simp only [Act.put]
  refine detM_pure 12 (.slice A1 (fewL l).length c1) (by kernel_rfl) rfl rfl rfl (fun w1 => ?_) ?_
  · go_simp
  simp only [Act.put]
  refine detM_pure 13 (.slice A2 (fewL l').length c2) (by kernel_rfl) rfl rfl rfl (fun w1 => ?_) ?_
  · go_simp
  simp only [Act.put]
  refine detM_leaf 8 9 14 15 (by kernel_rfl) rfl rfl rfl rfl rfl rfl rfl rfl rfl rfl rfl rfl rfl rfl (fun w1 hb1 => ?_) (fun w1 hb1 => ?_) fun w1 hw1 => ?_
  · have hc1 := bcellD hb1
    clear hb1
    go_simp
  · have hc1 := bcellD hb1
    clear hb1
    simp only [Act.put]
    go_simp
  have e6 := hw1.ents _ List.mem_cons_self
  have e5 := hw1.ents _ (List.mem_cons_of_mem _ List.mem_cons_self)
  have e2 := hw1.ents _ (List.mem_cons_of_mem _ (List.mem_cons_of_mem _ List.mem_cons_self))
  have e1 := hw1.ents _ (List.mem_cons_of_mem _ (List.mem_cons_of_mem _ (List.mem_cons_of_mem _ List.mem_cons_self)))
  have ap := hw1.apart
  simp only [List.pairwise_cons, List.mem_cons, List.not_mem_nil, or_false, forall_eq_or_imp, forall_eq] at ap
  have B6 := (newR_at e6.1)
  have B5 := (newR_at e5.1)
  have d65 : b6 ≠ b5 := ap.1.1
  have o1 := e1.1.1
  have o2 := e2.1.1
  have n15 : (Value.slice A1 (fewL l).length c1).ownBlock ≠ some b5 := fun q => ap.2.1.2 (e1.1.2 b5 q)
  have n16 : (Value.slice A1 (fewL l).length c1).ownBlock ≠ some b6 := fun q => ap.1.2.2 (e1.1.2 b6 q)
  have n25 : (Value.slice A2 (fewL l').length c2).ownBlock ≠ some b5 := fun q => ap.2.1.1 (e2.1.2 b5 q)
  have n26 : (Value.slice A2 (fewL l').length c2).ownBlock ≠ some b6 := fun q => ap.1.2.1 (e2.1.2 b6 q)
  have n5 : w.heap.size ≤ b5 := by have := (e5.2.2 b5 List.mem_cons_self).1; simp at this; omega
  have n6 : w.heap.size ≤ b6 := by have := (e6.2.2 b6 List.mem_cons_self).1; simp at this; omega
  have n5' := (e5.2.2 b5 List.mem_cons_self).1
  have hb0 := hw1.below
  have hb1 : Below w.heap.size w w1 := (((Below.refl w.heap.size w).alloc (Nat.le_refl _) _).drew).trans (hw1.below.mono (by simp))
  have HH := Lib.hid (And.intro o1 (And.intro o2 (And.intro B5 (And.intro B6 (And.intro hb1 hb0)))))
  have HN := Lib.hid (And.intro n15 (And.intro n16 (And.intro n25 n26)))
  have k5 := B5.1.k
  have i5 := B5.1.i
  have s5 := B5.1.s
  have k6 := B6.1.k
  have i6 := B6.1.i
  have s6 := B6.1.s
  have z5 := B5.2
  have z6 := B6.2
  have HZ := Lib.hid n5'
  clear hw1 e1 e2 e5 e6 ap o1 o2 n15 n16 n25 n26 B5 B6 hb1 hb0 n5'
  simp only [Act.put]
  refine ⟨?w1, ?w2, ?hb, ?k0, ?k1, ?k2, ?m0, ?hQ⟩
  case k0 => go_simp; exact rfl
  case k1 => go_simp
  case k2 => go_simp
  case m0 => go_simp; exact rfl
  case hb =>
    exact cSet3 HZ.out HH.out.2.2.2.2.2 _ _ _
  go_upto_region 2 with (fail)
  refine wp_gen (fun W => Below w.heap.size w W ∧ At3 W b5 k i s ∧ At3 W b6 k' i' s' ∧ W.ownsRow 0 24 3 (Value.slice A1 (fewL l).length c1) (fewL l).length (cellsOf (fewL l)) ∧ W.ownsRow 0 24 3 (Value.slice A2 (fewL l').length c2) (fewL l').length (cellsOf (fewL l'))) ⟨?_, ?_, ?_, ?_, ?_⟩ ?_
  · have hb1 := HH.out.2.2.2.2.1
    repeat (first | (with_reducible exact Below.refl _ _) | ((with_reducible refine cSet3 ?_ ?_ _ _ _); (· ((try simp) <;> omega))) | (with_reducible refine Below.drew ?_) | ((with_reducible refine cAlloc ?_ ?_ _); (· ((try simp) <;> omega))) | ((with_reducible refine cOn (by assumption) ?_ ?_); (· ((try simp) <;> omega))))
  · have B5 := HH.out.2.2.1.1
    have B6 := HH.out.2.2.2.1.1
    exact (B5.set_same _ _ _).set_other d65 _ _ _
  · have B6 := HH.out.2.2.2.1.1
    exact (Box.of (B6.set_other (Ne.symm d65) _ _ _)).set _ _ _
  · exact own_set' HN.out.2.1 (own_set' HN.out.2.1 (own_set' HN.out.2.1 (own_set' HN.out.1 (own_set' HN.out.1 (own_set' HN.out.1 HH.out.1)))))
  · exact own_set' HN.out.2.2.2 (own_set' HN.out.2.2.2 (own_set' HN.out.2.2.2 (own_set' HN.out.2.2.1 (own_set' HN.out.2.2.1 (own_set' HN.out.2.2.1 HH.out.2.1)))))
  rintro W ⟨hB, A5, A6, ho1, ho2⟩
  clear HH HN HZ k5 i5 s5 k6 i6 s6 z5 z6

  have hv1 : Vals W W.heap.size A1 (fewL l).length (fewL l) := by
    obtain ⟨_, _, e, h, -, -⟩ := Vals.of_own ho1
    injection e with e
    rw [e]; exact h
  have hv2 : Vals W W.heap.size A2 (fewL l').length (fewL l') := by
    obtain ⟨_, _, e, h, -, -⟩ := Vals.of_own ho2
    injection e with e
    rw [e]; exact h
  have HW := Lib.hid (And.intro hB (And.intro A5 (And.intro A6 (And.intro ho1 (And.intro ho2 (And.intro hv1 hv2))))))
  have hWs := hB.size
  clear hB A5 A6 ho1 ho2 hv1 hv2
  go_wp2_with (first
    | (go_at_call_of 10 (Value.slice A1 (fewL l).length c1); refine (row_any A1 (fewL l).length c1 (fewL l) _ (by have := few_len l; omega) HW.out.2.2.2.2.2.1 (few_i64 H.out.i64)).mono ?_; rintro e w1 ⟨rfl, hb1⟩; have HH1 := Lib.hid hb1; have hs1 := hb1.size; clear hb1)
    | (go_at_call_of 10 (Value.slice A2 (fewL l').length c2); refine (row_any A2 (fewL l').length c2 (fewL l') _ (by have := few_len l'; omega) ((HW.out.2.2.2.2.2.2.keep HH1.out).more hs1) (few_i64 H'.out.i64)).mono ?_; rintro e w2 ⟨rfl, hb2⟩; have HH2 := Lib.hid (And.intro (HH1.out.trans (hb2.mono hs1)) (And.intro (own_below (own_below HW.out.2.2.2.1 HH1.out (Nat.le_refl _)) hb2 (Nat.le_refl _)) (own_below (own_below HW.out.2.2.2.2.1 HH1.out (Nat.le_refl _)) hb2 (Nat.le_refl _)))); have hs2 := hb2.size; clear hb2)
    | (at_builtin; refine append_row rfl _ _ rfl W.heap.size _ _ [] (fewL l) rfl rfl (lit_row w2 _ (by omega)) (HH2.out.2.1.alloc _) (by have := few_len l; simp; omega) (by simp; omega) ?_))
  intro v3 w3 ho3' hg3
  have ho3 : w3.ownsRow W.heap.size 24 3 v3 (fewL l).length (cellsOf (fewL l)) := ho3'
  have hb3 : Below W.heap.size W w3 := (HH2.out.1.alloc (by omega) _).grown hg3 (by simp; omega) fun g hg' => ((lit_row w2 W.heap.size (by omega)).lt g hg').1
  have ho23 := (HH2.out.2.2.alloc (.cells #[] 24)).kept hg3 (.inr fun q => by
    have h1 : w2.heap.size < W.heap.size := (HW.out.2.2.2.2.1.lt _ q).2
    omega)
  have HH3 := Lib.hid (And.intro ho3 (And.intro ho23 hb3))
  have hs3 := hb3.size
  clear ho3' ho3 hg3 ho23 hb3
  go_wp2_with (at_builtin; refine append_row rfl _ _ rfl W.heap.size _ _ (fewL l) (fewL l') rfl rfl HH3.out.1 HH3.out.2.1 (by have := few_len l; have := few_len l'; omega) (by omega) ?_)
  intro v4 w4 ho4 hg4
  have hb4 : Below W.heap.size W w4 := HH3.out.2.2.grown hg4 (by omega) fun g hg' => (HH3.out.1.lt g hg').1
  obtain ⟨n4, hn4⟩ : ∃ x, x = (fewL l).length + (fewL l').length := ⟨_, rfl⟩
  rw [← hn4] at ho4
  have n4le : n4 ≤ 1000 := by have := few_len l; have := few_len l'; omega
  clear hn4
  obtain ⟨A4, c4, rfl, hv4, -, -⟩ := Vals.of_own ho4
  have HH4 := Lib.hid (And.intro hv4 hb4)
  have hs4 := hb4.size
  clear ho4 hg4 hv4 hb4
  go_wp2_with (go_at_call_of 10 (Value.slice A4 n4 c4); refine (row_any A4 n4 c4 (fewL l ++ fewL l') _ n4le HH4.out.1 (i64_app (few_i64 H.out.i64) (few_i64 H'.out.i64))).mono ?_; rintro e w5 ⟨rfl, hb5⟩; have HH5 := Lib.hid (HH4.out.2.trans (hb5.mono hs4)); have hs5 := hb5.size; clear hb5)
  refine wp_gen (fun X => Below W.heap.size W X) HH5.out ?_
  intro W7 hb7
  have q5 := HW.out.2.1.later hb7
  have q6 := HW.out.2.2.1.later hb7
  have k5 := q5.k
  have i5 := q5.i
  have s5 := q5.s
  have l5 := q5.lt
  have k6 := q6.k
  have i6 := q6.i
  have s6 := q6.s
  have l6 := q6.lt
  have HH7 := Lib.hid (HW.out.1.trans (hb7.mono hWs))
  have hs7 := hb7.size
  clear HH1 HH2 HH3 HH4 HH5 q5 q6 hb7
  refine detL_begin [.val (.agg #[.int .i64 k, .int .i64 i, .string s]), .val (.agg #[.int .i64 k, .int .i64 i, .string (fewS s)]), .val (.string S), .val (.agg #[.int .i64 k', .int .i64 i', .string s']), .val (.agg #[.int .i64 k', .int .i64 i', .string (fewS s')]), .val (.string S'), .val (.string S), .val (.string S')] 8 (by kernel_rfl) ?_
  refine detL_val (by kernel_rfl) (yields_of rfl fun w1 hb1 => ?_) ?_
  · have hc1 := bcellD hb1
    clear hb1
    go_simp
    exact Det1_same
  simp only [Act.put, List.setIfInBounds_toArray, List.set_cons_zero, List.set_cons_succ]
  refine detL_val (by kernel_rfl) (yields_of rfl fun w1 hb1 => ?_) ?_
  · have hc1 := bcellD hb1
    clear hb1
    go_simp
    exact Det1_enter (few_any k i s _ HX.out.2.1)
  simp only [Act.put, List.setIfInBounds_toArray, List.set_cons_zero, List.set_cons_succ]
  refine detL_val (by kernel_rfl) (yields_of rfl fun w1 hb1 => ?_) ?_
  · have hc1 := bcellD hb1
    clear hb1
    go_simp
    exact Det1_enter (HV.out _)
  simp only [Act.put, List.setIfInBounds_toArray, List.set_cons_zero, List.set_cons_succ]
  refine detL_val (by kernel_rfl) (yields_of rfl fun w1 hb1 => ?_) ?_
  · have hc1 := bcellD hb1
    clear hb1
    go_simp
    exact Det1_same
  simp only [Act.put, List.setIfInBounds_toArray, List.set_cons_zero, List.set_cons_succ]
  refine detL_val (by kernel_rfl) (yields_of rfl fun w1 hb1 => ?_) ?_
  · have hc1 := bcellD hb1
    clear hb1
    go_simp
    exact Det1_enter (few_any k' i' s' _ HX.out.2.2.2)
  simp only [Act.put, List.setIfInBounds_toArray, List.set_cons_zero, List.set_cons_succ]
  refine detL_val (by kernel_rfl) (yields_of rfl fun w1 hb1 => ?_) ?_
  · have hc1 := bcellD hb1
    clear hb1
    go_simp
    exact Det1_enter (HV'.out _)
  simp only [Act.put, List.setIfInBounds_toArray, List.set_cons_zero, List.set_cons_succ]
  refine detL_val (by kernel_rfl) (yields_of rfl fun w1 hb1 => ?_) ?_
  · have hc1 := bcellD hb1
    clear hb1
    go_simp
    exact Det1_same
  simp only [Act.put, List.setIfInBounds_toArray, List.set_cons_zero, List.set_cons_succ]
  refine detL_val (by kernel_rfl) (yields_of rfl fun w1 hb1 => ?_) ?_
  · have hc1 := bcellD hb1
    clear hb1
    go_simp
    exact Det1_same
  simp only [Act.put, List.setIfInBounds_toArray, List.set_cons_zero, List.set_cons_succ]
  refine detL_done (by kernel_rfl) fun w8 hw8 => ?_
  have HH8 := Lib.hid hw8.below
  clear hw8
  go_wp2_with (go_at_call 16; refine (awake2_any _).mono ?_; rintro e w9 ⟨rfl, hb9⟩)
  go_ret
  refine ⟨rfl, ?_⟩
  have hs8 := HH8.out.size
  simp at hs8
  exact (HH7.out.drew.trans (HH8.out.mono (by simp; omega))).trans (hb9.mono (by omega))

set_option maxRecDepth 100000 in
set_option maxHeartbeats 4000000 in
theorem joins_24 (A : Option Addr) (n cap : Nat) (l : List Vl) (A' : Option Addr) (m cap' : Nat) (l' : List Vl) (k i : Int) (s : ByteArray) (k' i' : Int) (s' : ByteArray) (w : World) (h : Inp w A n l) (h' : Inp w A' m l') (hi : In64 i) (hs : s.size ≤ maxLen) (hi' : In64 i') (hs' : s'.size ≤ maxLen)
    (S S' : ByteArray) (hS : S = ⟨(valO k i (fewS s)).toArray⟩) (hS' : S' = ⟨(valO k' i' (fewS s')).toArray⟩) (h1 : (S.toList == S'.toList) = false) (h2 : S'.size ≤ S.size) (e1 : rowE (fewL l) = 0) (e2 : rowE (fewL l') = 0) (e3 : rowE (fewL l ++ fewL l') = 0) (e4 : rowS (fewL l ++ fewL l') = rowS (fewL l) ++ rowS (fewL l')) :
    Calls Try.prog 5 #[.agg #[.slice A n cap, .slice A' m cap', .int .i64 k, .int .i64 i, .string s, .int .i64 k', .int .i64 i', .string s']] w fun e w' => e = .returned (.bool true) ∧ Below w.heap.size w w' := by
  have H := Lib.hid h
  have H' := Lib.hid h'
  have HX := Lib.hid (And.intro hi (And.intro hs (And.intro hi' hs')))
  have HV := Lib.hid (show ∀ W : World, Calls Try.prog 12 #[.agg #[.int .i64 k, .int .i64 i, .string (fewS s)]] W fun e w' => e = .returned (.string S) ∧ Below W.heap.size W w' from fun W => by rw [hS]; exact value_any k i (fewS s) W hi)
  have HV' := Lib.hid (show ∀ W : World, Calls Try.prog 12 #[.agg #[.int .i64 k', .int .i64 i', .string (fewS s')]] W fun e w' => e = .returned (.string S') ∧ Below W.heap.size W w' from fun W => by rw [hS']; exact value_any k' i' (fewS s') W hi')
  clear h h' hi hs hi' hs' hS hS'
  have z1 := row_size l
  have z2 := row_size l'
  go_enter Try.func5, Try.ntmps5
  go_wp2
  refine detM_begin [.val (.pointer (some ⟨w.heap.size, 0, none⟩)), .val (.slice A n cap), .rel (OwnF (fewL l)), .val (.pointer (some ⟨w.heap.size, 1, none⟩)), .val (.slice A' m cap'), .rel (OwnF (fewL l')), .val (.pointer (some ⟨w.heap.size, 2, none⟩)), .val (.agg #[.int .i64 k, .int .i64 i, .string s]), .val (.pointer (some ⟨w.heap.size, 5, none⟩)), .val (.agg #[.int .i64 k', .int .i64 i', .string s']), .rel newR, .rel newR, .pure, .pure] 14 16 (by kernel_rfl) (by kernel_rfl) ?_
  refine detM_val 0 (by kernel_rfl) rfl rfl (yields_of rfl fun w1 hb1 => ?_) ?_
  · have hc1 := bcellD hb1
    clear hb1
    go_simp
    exact Det1_same
  simp only [Act.put]
  refine detM_val 1 (by kernel_rfl) rfl rfl (yields_of rfl fun w1 hb1 => ?_) ?_
  · have hc1 := bcellD hb1
    clear hb1
    go_simp
    exact Det1_same
  simp only [Act.put]
  refine detM_rel 2 (by kernel_rfl) rfl rfl (yields_rel (by rfl) (ownF_lasting _) fun w1 hw1 => ?_) ?_
  · have hb1 := hw1.below
    have hv1 := Lib.hid ((H.out.vals.keep ((((Below.refl w.heap.size w).alloc (Nat.le_refl _) _).drew).trans (hb1.mono (by simp)))).more (show w.heap.size ≤ w1.heap.size by have := hb1.size; simp at this; omega))
    clear hw1 hb1
    go_simp
    exact few_made H.out.len hv1.out H.out.short
  rintro v1 F1 w1 hw1
  have o1 : OwnF (fewL l) v1 F1 w1 := (hw1.ents _ List.mem_cons_self).1
  obtain ⟨A1, c1, rfl, -, -, -⟩ := Vals.of_own o1.1
  clear hw1 o1
  simp only [Act.put]
  refine detM_val 3 (by kernel_rfl) rfl rfl (yields_of rfl fun w1 hb1 => ?_) ?_
  · have hc1 := bcellD hb1
    clear hb1
    go_simp
    exact Det1_same
  simp only [Act.put]
  refine detM_val 4 (by kernel_rfl) rfl rfl (yields_of rfl fun w1 hb1 => ?_) ?_
  · have hc1 := bcellD hb1
    clear hb1
    go_simp
    exact Det1_same
  simp only [Act.put]
  refine detM_rel 5 (by kernel_rfl) rfl rfl (yields_rel (by rfl) (ownF_lasting _) fun w1 hw1 => ?_) ?_
  · have hb1 := hw1.below
    have hv1 := Lib.hid ((H'.out.vals.keep ((((Below.refl w.heap.size w).alloc (Nat.le_refl _) _).drew).trans (hb1.mono (by simp)))).more (show w.heap.size ≤ w1.heap.size by have := hb1.size; simp at this; omega))
    clear hw1 hb1
    go_simp
    exact few_made H'.out.len hv1.out H'.out.short
  rintro v2 F2 w1 hw1
  have o2 : OwnF (fewL l') v2 F2 w1 := (hw1.ents _ List.mem_cons_self).1
  obtain ⟨A2, c2, rfl, -, -, -⟩ := Vals.of_own o2.1
  clear hw1 o2
  simp only [Act.put]
  refine detM_val 6 (by kernel_rfl) rfl rfl (yields_of rfl fun w1 hb1 => ?_) ?_
  · have hc1 := bcellD hb1
    clear hb1
    go_simp
    exact Det1_same
  simp only [Act.put]
  refine detM_val 7 (by kernel_rfl) rfl rfl (yields_of rfl fun w1 hb1 => ?_) ?_
  · have hc1 := bcellD hb1
    clear hb1
    go_simp
    exact Det1_same
  simp only [Act.put]
  refine detM_rel 10 (by kernel_rfl) rfl rfl (yields_rel (by rfl) newR_lasting fun w1 hw1 => ?_) ?_
  · clear hw1
    go_simp
    exact newR_made
  rintro v5 F5 w1 hw1
  obtain ⟨b5, rfl, rfl, -⟩ := (hw1.ents _ List.mem_cons_self).1
  clear hw1
  simp only [Act.put]
  refine detM_rel 11 (by kernel_rfl) rfl rfl (yields_rel (by rfl) newR_lasting fun w1 hw1 => ?_) ?_
  · clear hw1
    go_simp
    exact newR_made
  rintro v6 F6 w1 hw1
  obtain ⟨b6, rfl, rfl, -⟩ := (hw1.ents _ List.mem_cons_self).1
  clear hw1
  simp only [Act.put]
  refine detM_pure 12 (.slice A1 (fewL l).length c1) (by kernel_rfl) rfl rfl rfl (fun w1 => ?_) ?_
  · go_simp
  simp only [Act.put]
  refine detM_pure 13 (.slice A2 (fewL l').length c2) (by kernel_rfl) rfl rfl rfl (fun w1 => ?_) ?_
  · go_simp
  simp only [Act.put]
  refine detM_leaf 8 9 14 15 (by kernel_rfl) rfl rfl rfl rfl rfl rfl rfl rfl rfl rfl rfl rfl rfl rfl (fun w1 hb1 => ?_) (fun w1 hb1 => ?_) fun w1 hw1 => ?_
  · have hc1 := bcellD hb1
    clear hb1
    go_simp
  · have hc1 := bcellD hb1
    clear hb1
    simp only [Act.put]
    go_simp
  have e6 := hw1.ents _ List.mem_cons_self
  have e5 := hw1.ents _ (List.mem_cons_of_mem _ List.mem_cons_self)
  have e2 := hw1.ents _ (List.mem_cons_of_mem _ (List.mem_cons_of_mem _ List.mem_cons_self))
  have e1 := hw1.ents _ (List.mem_cons_of_mem _ (List.mem_cons_of_mem _ (List.mem_cons_of_mem _ List.mem_cons_self)))
  have ap := hw1.apart
  simp only [List.pairwise_cons, List.mem_cons, List.not_mem_nil, or_false, forall_eq_or_imp, forall_eq] at ap
  have B6 := (newR_at e6.1)
  have B5 := (newR_at e5.1)
  have d65 : b6 ≠ b5 := ap.1.1
  have o1 := e1.1.1
  have o2 := e2.1.1
  have n15 : (Value.slice A1 (fewL l).length c1).ownBlock ≠ some b5 := fun q => ap.2.1.2 (e1.1.2 b5 q)
  have n16 : (Value.slice A1 (fewL l).length c1).ownBlock ≠ some b6 := fun q => ap.1.2.2 (e1.1.2 b6 q)
  have n25 : (Value.slice A2 (fewL l').length c2).ownBlock ≠ some b5 := fun q => ap.2.1.1 (e2.1.2 b5 q)
  have n26 : (Value.slice A2 (fewL l').length c2).ownBlock ≠ some b6 := fun q => ap.1.2.1 (e2.1.2 b6 q)
  have n5 : w.heap.size ≤ b5 := by have := (e5.2.2 b5 List.mem_cons_self).1; simp at this; omega
  have n6 : w.heap.size ≤ b6 := by have := (e6.2.2 b6 List.mem_cons_self).1; simp at this; omega
  have n5' := (e5.2.2 b5 List.mem_cons_self).1
  have hb0 := hw1.below
  have hb1 : Below w.heap.size w w1 := (((Below.refl w.heap.size w).alloc (Nat.le_refl _) _).drew).trans (hw1.below.mono (by simp))
  have HH := Lib.hid (And.intro o1 (And.intro o2 (And.intro B5 (And.intro B6 (And.intro hb1 hb0)))))
  have HN := Lib.hid (And.intro n15 (And.intro n16 (And.intro n25 n26)))
  have k5 := B5.1.k
  have i5 := B5.1.i
  have s5 := B5.1.s
  have k6 := B6.1.k
  have i6 := B6.1.i
  have s6 := B6.1.s
  have z5 := B5.2
  have z6 := B6.2
  have HZ := Lib.hid n5'
  clear hw1 e1 e2 e5 e6 ap o1 o2 n15 n16 n25 n26 B5 B6 hb1 hb0 n5'
  simp only [Act.put]
  refine ⟨?w1, ?w2, ?hb, ?k0, ?k1, ?k2, ?m0, ?hQ⟩
  case k0 => go_simp; exact rfl
  case k1 => go_simp
  case k2 => go_simp
  case m0 => go_simp; exact rfl
  case hb =>
    exact cSet3 HZ.out HH.out.2.2.2.2.2 _ _ _
  go_upto_region 2 with (fail)
  refine wp_gen (fun W => Below w.heap.size w W ∧ At3 W b5 k i s ∧ At3 W b6 k' i' s' ∧ W.ownsRow 0 24 3 (Value.slice A1 (fewL l).length c1) (fewL l).length (cellsOf (fewL l)) ∧ W.ownsRow 0 24 3 (Value.slice A2 (fewL l').length c2) (fewL l').length (cellsOf (fewL l'))) ⟨?_, ?_, ?_, ?_, ?_⟩ ?_
  · have hb1 := HH.out.2.2.2.2.1
    repeat (first | (with_reducible exact Below.refl _ _) | ((with_reducible refine cSet3 ?_ ?_ _ _ _); (· ((try simp) <;> omega))) | (with_reducible refine Below.drew ?_) | ((with_reducible refine cAlloc ?_ ?_ _); (· ((try simp) <;> omega))) | ((with_reducible refine cOn (by assumption) ?_ ?_); (· ((try simp) <;> omega))))
  · have B5 := HH.out.2.2.1.1
    have B6 := HH.out.2.2.2.1.1
    exact (B5.set_same _ _ _).set_other d65 _ _ _
  · have B6 := HH.out.2.2.2.1.1
    exact (Box.of (B6.set_other (Ne.symm d65) _ _ _)).set _ _ _
  · exact own_set' HN.out.2.1 (own_set' HN.out.2.1 (own_set' HN.out.2.1 (own_set' HN.out.1 (own_set' HN.out.1 (own_set' HN.out.1 HH.out.1)))))
  · exact own_set' HN.out.2.2.2 (own_set' HN.out.2.2.2 (own_set' HN.out.2.2.2 (own_set' HN.out.2.2.1 (own_set' HN.out.2.2.1 (own_set' HN.out.2.2.1 HH.out.2.1)))))
  rintro W ⟨hB, A5, A6, ho1, ho2⟩
  clear HH HN HZ k5 i5 s5 k6 i6 s6 z5 z6

  have hv1 : Vals W W.heap.size A1 (fewL l).length (fewL l) := by
    obtain ⟨_, _, e, h, -, -⟩ := Vals.of_own ho1
    injection e with e
    rw [e]; exact h
  have hv2 : Vals W W.heap.size A2 (fewL l').length (fewL l') := by
    obtain ⟨_, _, e, h, -, -⟩ := Vals.of_own ho2
    injection e with e
    rw [e]; exact h
  have HW := Lib.hid (And.intro hB (And.intro A5 (And.intro A6 (And.intro ho1 (And.intro ho2 (And.intro hv1 hv2))))))
  have hWs := hB.size
  clear hB A5 A6 ho1 ho2 hv1 hv2
  go_wp2_with (first
    | (go_at_call_of 10 (Value.slice A1 (fewL l).length c1); refine (row_any A1 (fewL l).length c1 (fewL l) _ (by have := few_len l; omega) HW.out.2.2.2.2.2.1 (few_i64 H.out.i64)).mono ?_; rintro e w1 ⟨rfl, hb1⟩; have HH1 := Lib.hid hb1; have hs1 := hb1.size; clear hb1)
    | (go_at_call_of 10 (Value.slice A2 (fewL l').length c2); refine (row_any A2 (fewL l').length c2 (fewL l') _ (by have := few_len l'; omega) ((HW.out.2.2.2.2.2.2.keep HH1.out).more hs1) (few_i64 H'.out.i64)).mono ?_; rintro e w2 ⟨rfl, hb2⟩; have HH2 := Lib.hid (And.intro (HH1.out.trans (hb2.mono hs1)) (And.intro (own_below (own_below HW.out.2.2.2.1 HH1.out (Nat.le_refl _)) hb2 (Nat.le_refl _)) (own_below (own_below HW.out.2.2.2.2.1 HH1.out (Nat.le_refl _)) hb2 (Nat.le_refl _)))); have hs2 := hb2.size; clear hb2)
    | (at_builtin; refine append_row rfl _ _ rfl W.heap.size _ _ [] (fewL l) rfl rfl (lit_row w2 _ (by omega)) (HH2.out.2.1.alloc _) (by have := few_len l; simp; omega) (by simp; omega) ?_))
  intro v3 w3 ho3' hg3
  have ho3 : w3.ownsRow W.heap.size 24 3 v3 (fewL l).length (cellsOf (fewL l)) := ho3'
  have hb3 : Below W.heap.size W w3 := (HH2.out.1.alloc (by omega) _).grown hg3 (by simp; omega) fun g hg' => ((lit_row w2 W.heap.size (by omega)).lt g hg').1
  have ho23 := (HH2.out.2.2.alloc (.cells #[] 24)).kept hg3 (.inr fun q => by
    have h1 : w2.heap.size < W.heap.size := (HW.out.2.2.2.2.1.lt _ q).2
    omega)
  have HH3 := Lib.hid (And.intro ho3 (And.intro ho23 hb3))
  have hs3 := hb3.size
  clear ho3' ho3 hg3 ho23 hb3
  go_wp2_with (at_builtin; refine append_row rfl _ _ rfl W.heap.size _ _ (fewL l) (fewL l') rfl rfl HH3.out.1 HH3.out.2.1 (by have := few_len l; have := few_len l'; omega) (by omega) ?_)
  intro v4 w4 ho4 hg4
  have hb4 : Below W.heap.size W w4 := HH3.out.2.2.grown hg4 (by omega) fun g hg' => (HH3.out.1.lt g hg').1
  obtain ⟨n4, hn4⟩ : ∃ x, x = (fewL l).length + (fewL l').length := ⟨_, rfl⟩
  rw [← hn4] at ho4
  have n4le : n4 ≤ 1000 := by have := few_len l; have := few_len l'; omega
  clear hn4
  obtain ⟨A4, c4, rfl, hv4, -, -⟩ := Vals.of_own ho4
  have HH4 := Lib.hid (And.intro hv4 hb4)
  have hs4 := hb4.size
  clear ho4 hg4 hv4 hb4
  go_wp2_with (go_at_call_of 10 (Value.slice A4 n4 c4); refine (row_any A4 n4 c4 (fewL l ++ fewL l') _ n4le HH4.out.1 (i64_app (few_i64 H.out.i64) (few_i64 H'.out.i64))).mono ?_; rintro e w5 ⟨rfl, hb5⟩; have HH5 := Lib.hid (HH4.out.2.trans (hb5.mono hs4)); have hs5 := hb5.size; clear hb5)
  refine wp_gen (fun X => Below W.heap.size W X) HH5.out ?_
  intro W7 hb7
  have q5 := HW.out.2.1.later hb7
  have q6 := HW.out.2.2.1.later hb7
  have k5 := q5.k
  have i5 := q5.i
  have s5 := q5.s
  have l5 := q5.lt
  have k6 := q6.k
  have i6 := q6.i
  have s6 := q6.s
  have l6 := q6.lt
  have HH7 := Lib.hid (HW.out.1.trans (hb7.mono hWs))
  have hs7 := hb7.size
  clear HH1 HH2 HH3 HH4 HH5 q5 q6 hb7
  refine detL_begin [.val (.agg #[.int .i64 k, .int .i64 i, .string s]), .val (.agg #[.int .i64 k, .int .i64 i, .string (fewS s)]), .val (.string S), .val (.agg #[.int .i64 k', .int .i64 i', .string s']), .val (.agg #[.int .i64 k', .int .i64 i', .string (fewS s')]), .val (.string S'), .val (.string S), .val (.string S')] 8 (by kernel_rfl) ?_
  refine detL_val (by kernel_rfl) (yields_of rfl fun w1 hb1 => ?_) ?_
  · have hc1 := bcellD hb1
    clear hb1
    go_simp
    exact Det1_same
  simp only [Act.put, List.setIfInBounds_toArray, List.set_cons_zero, List.set_cons_succ]
  refine detL_val (by kernel_rfl) (yields_of rfl fun w1 hb1 => ?_) ?_
  · have hc1 := bcellD hb1
    clear hb1
    go_simp
    exact Det1_enter (few_any k i s _ HX.out.2.1)
  simp only [Act.put, List.setIfInBounds_toArray, List.set_cons_zero, List.set_cons_succ]
  refine detL_val (by kernel_rfl) (yields_of rfl fun w1 hb1 => ?_) ?_
  · have hc1 := bcellD hb1
    clear hb1
    go_simp
    exact Det1_enter (HV.out _)
  simp only [Act.put, List.setIfInBounds_toArray, List.set_cons_zero, List.set_cons_succ]
  refine detL_val (by kernel_rfl) (yields_of rfl fun w1 hb1 => ?_) ?_
  · have hc1 := bcellD hb1
    clear hb1
    go_simp
    exact Det1_same
  simp only [Act.put, List.setIfInBounds_toArray, List.set_cons_zero, List.set_cons_succ]
  refine detL_val (by kernel_rfl) (yields_of rfl fun w1 hb1 => ?_) ?_
  · have hc1 := bcellD hb1
    clear hb1
    go_simp
    exact Det1_enter (few_any k' i' s' _ HX.out.2.2.2)
  simp only [Act.put, List.setIfInBounds_toArray, List.set_cons_zero, List.set_cons_succ]
  refine detL_val (by kernel_rfl) (yields_of rfl fun w1 hb1 => ?_) ?_
  · have hc1 := bcellD hb1
    clear hb1
    go_simp
    exact Det1_enter (HV'.out _)
  simp only [Act.put, List.setIfInBounds_toArray, List.set_cons_zero, List.set_cons_succ]
  refine detL_val (by kernel_rfl) (yields_of rfl fun w1 hb1 => ?_) ?_
  · have hc1 := bcellD hb1
    clear hb1
    go_simp
    exact Det1_same
  simp only [Act.put, List.setIfInBounds_toArray, List.set_cons_zero, List.set_cons_succ]
  refine detL_val (by kernel_rfl) (yields_of rfl fun w1 hb1 => ?_) ?_
  · have hc1 := bcellD hb1
    clear hb1
    go_simp
    exact Det1_same
  simp only [Act.put, List.setIfInBounds_toArray, List.set_cons_zero, List.set_cons_succ]
  refine detL_done (by kernel_rfl) fun w8 hw8 => ?_
  have HH8 := Lib.hid hw8.below
  clear hw8
  go_wp2_with (go_at_call 16; refine (awake2_any _).mono ?_; rintro e w9 ⟨rfl, hb9⟩)
  go_ret
  refine ⟨rfl, ?_⟩
  have hs8 := HH8.out.size
  simp at hs8
  exact (HH7.out.drew.trans (HH8.out.mono (by simp; omega))).trans (hb9.mono (by omega))

end Go.Proofs.Ytggejkkpajpmkaa

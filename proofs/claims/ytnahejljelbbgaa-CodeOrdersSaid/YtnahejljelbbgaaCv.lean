import Derived.Test.YtnahejljelbbgaaCu
/- Which row is first: the document's own Order. -/
namespace Go.Proofs.Ytnahejljelbbgaa
open Go.RowKit Go.Lib

theorem ordL_split (k : Nat) : ∀ (l m : List Vl), l.length = m.length → (∀ j x y, j < k → l[j]? = some x → m[j]? = some y → ordV x y = 0) → ordL l m = ordL (l.drop k) (m.drop k) := by
  induction k with
  | zero => intro l m _ _; rfl
  | succ k ih =>
    intro l m hl h
    cases l with
    | nil => cases m with
      | nil => rfl
      | cons _ _ => simp at hl
    | cons x l => cases m with
      | nil => simp at hl
      | cons y m =>
        have h0 := h 0 x y (by omega) rfl rfl
        rw [ordL, if_pos h0, List.drop_succ_cons, List.drop_succ_cons]
        exact ih l m (by simpa using hl) fun j a b hj ha hb => h (j + 1) a b (by omega) (by simpa using ha) (by simpa using hb)

set_option maxRecDepth 100000 in
set_option maxHeartbeats 8000000 in
theorem order_rows (A : Option Addr) (n cap : Nat) (l : List Vl) (A' : Option Addr) (cap' : Nat) (l' : List Vl) (w : World) (hn : n ≤ 1000) (hv : Vals w w.heap.size A n l) (hv' : Vals w w.heap.size A' n l') (hs : Short l) (hs' : Short l') :
    Calls Try.prog 7 #[.slice A n cap, .slice A' n cap'] w fun e w' => e = .returned (.int .i64 (ordL l l')) ∧ Below w.heap.size w w' := by
  have HV := Lib.hid hv
  have HV' := Lib.hid hv'
  have HL := Lib.hid (And.intro hv.1 hv'.1)
  have HS := Lib.hid (And.intro hs hs')
  clear hv hv' hs hs'
  go_enter Try.func7, Try.ntmps7
  go_wp2
  go_loopw [5, 6] (fun i _ wr => ∃ k : Nat, k ≤ n ∧ i = .int .i64 k ∧ Below w.heap.size w wr ∧ Hid (∀ j x y, j < k → l[j]? = some x → l'[j]? = some y → ordV x y = 0)) (fun i _ _ => n - (intOf i).toNat)
  case atStart => exact ⟨0, by omega, rfl, Below.refl _ _, fun j x y hj => absurd hj (by omega)⟩
  case round =>
    obtain ⟨k, hk, rfl, hb, HT⟩ := hrel
    have hbs := hb.size
    by_cases hlt0 : k < n
    · have hlt1 := hlt0
      have hkn : ((k : Nat) : Int) < (n : Int) := by omega
      obtain ⟨xa, x, rfl, hx, hA, hB0⟩ := HV.out.at_ hlt0
      have hA' := hA.keep hb (by rw [add_block]; exact hB0)
      have c0k := hA'.k
      have c0i := hA'.i
      have c0s := hA'.s
      have HX0 := Lib.hid hx
      have HA0 : Hid (VlAt wr (xa.add (k * 3)) x ∧ (xa.add (k * 3)).block < wr.heap.size) := ⟨hA', by rw [add_block]; omega⟩
      clear hx hA hA'
      obtain ⟨ya, y, rfl, hx, hA, hB1⟩ := HV'.out.at_ hlt1
      have hA' := hA.keep hb (by rw [add_block]; exact hB1)
      have c1k := hA'.k
      have c1i := hA'.i
      have c1s := hA'.s
      have HX1 := Lib.hid hx
      have HA1 : Hid (VlAt wr (ya.add (k * 3)) y ∧ (ya.add (k * 3)).block < wr.heap.size) := ⟨hA', by rw [add_block]; omega⟩
      clear hx hA hA'
      obtain ⟨o, ho⟩ : ∃ o, o = ordV x y := ⟨_, rfl⟩
      have HO := Lib.hid (fun (W : World) => (show Calls Try.prog 9 #[.agg #[.int .i64 x.k, .int .i64 x.i, .string x.s], .agg #[.int .i64 y.k, .int .i64 y.i, .string y.s]] W fun e w' => e = .returned (.int .i64 o) ∧ Below W.heap.size W w' from ho ▸ rorder_any x.k x.i x.s y.k y.i y.s W (HS.out.1 x (List.mem_of_getElem? HX0.out)) (HS.out.2 y (List.mem_of_getElem? HX1.out))))
      have HD := Lib.hid (ordL_split k l l' (by have := HL.out; omega) HT.out)
      have HE := Lib.hid (And.intro (drop_at HX0.out) (drop_at HX1.out))
      by_cases ho0 : o = 0
      · subst ho0
        have HZ := Lib.hid (show ∀ j x y, j < k + 1 → l[j]? = some x → l'[j]? = some y → ordV x y = 0 from fun j a b hj ha hb => by
          by_cases hjk : j = k
          · subst hjk
            rw [HX0.out] at ha
            rw [HX1.out] at hb
            rw [← Option.some.inj ha, ← Option.some.inj hb, ← ho]
          · exact HT.out j a b (by omega) ha hb)
        clear ho
        go_wp2
        refine detL_begin [.val (.slice (some xa) n cap), .val (.int .i64 k), .val (.pointer (some (xa.add (k * 3)))), .val (.agg #[.int .i64 x.k, .int .i64 x.i, .string x.s]), .val (.slice (some ya) n cap'), .val (.int .i64 k), .val (.pointer (some (ya.add (k * 3)))), .val (.agg #[.int .i64 y.k, .int .i64 y.i, .string y.s]), .val (.int .i64 0)] 9 (by kernel_rfl) ?_
        refine detL_val (by kernel_rfl) (yields_of rfl fun w1 hb1 => ?_) ?_
        · have hc1 := bcellD hb1
          clear hb1
          go_simp
          exact Det1_same
        simp only [Act.put, List.setIfInBounds_toArray, List.set_cons_zero, List.set_cons_succ]
        refine detL_val (by kernel_rfl) (yields_of rfl fun w1 hb1 => ?_) ?_
        · have hc1 := bcellD hb1
          clear hb1
          go_simp
          exact Det1_same
        simp only [Act.put, List.setIfInBounds_toArray, List.set_cons_zero, List.set_cons_succ]
        refine detL_val (by kernel_rfl) (yields_of rfl fun w1 hb1 => ?_) ?_
        · have hc1 := bcellD hb1
          clear hb1
          go_simp
          exact Det1_same
        simp only [Act.put, List.setIfInBounds_toArray, List.set_cons_zero, List.set_cons_succ]
        refine detL_val (by kernel_rfl) (yields_of rfl fun w1 hb1 => ?_) ?_
        · have hc1 := bcellD hb1
          have hv1 := HA0.out.1.det hb1 HA0.out.2; have d1 := hv1.k; have d2 := hv1.i; have d3 := hv1.s; clear hv1
          clear hb1
          go_simp
          exact Det1_same
        simp only [Act.put, List.setIfInBounds_toArray, List.set_cons_zero, List.set_cons_succ]
        refine detL_val (by kernel_rfl) (yields_of rfl fun w1 hb1 => ?_) ?_
        · have hc1 := bcellD hb1
          clear hb1
          go_simp
          exact Det1_same
        simp only [Act.put, List.setIfInBounds_toArray, List.set_cons_zero, List.set_cons_succ]
        refine detL_val (by kernel_rfl) (yields_of rfl fun w1 hb1 => ?_) ?_
        · have hc1 := bcellD hb1
          clear hb1
          go_simp
          exact Det1_same
        simp only [Act.put, List.setIfInBounds_toArray, List.set_cons_zero, List.set_cons_succ]
        refine detL_val (by kernel_rfl) (yields_of rfl fun w1 hb1 => ?_) ?_
        · have hc1 := bcellD hb1
          clear hb1
          go_simp
          exact Det1_same
        simp only [Act.put, List.setIfInBounds_toArray, List.set_cons_zero, List.set_cons_succ]
        refine detL_val (by kernel_rfl) (yields_of rfl fun w1 hb1 => ?_) ?_
        · have hc1 := bcellD hb1
          have hv1 := HA1.out.1.det hb1 HA1.out.2; have d1 := hv1.k; have d2 := hv1.i; have d3 := hv1.s; clear hv1
          clear hb1
          go_simp
          exact Det1_same
        simp only [Act.put, List.setIfInBounds_toArray, List.set_cons_zero, List.set_cons_succ]
        refine detL_val (by kernel_rfl) (yields_of rfl fun w1 hb1 => ?_) ?_
        · have hc1 := bcellD hb1
          clear hb1
          go_simp
          exact Det1_enter (HO.out _)
        simp only [Act.put, List.setIfInBounds_toArray, List.set_cons_zero, List.set_cons_succ]
        refine detL_tail rfl (by kernel_rfl) fun w1 hw1 => ?_
        have hb1 := hw1.below
        clear hw1
        go_wp2
        go_roundw
        case rel => exact ⟨k + 1, by omega, by go_num, hb.drew.trans (hb1.mono hbs), HZ.out⟩
        case measure => simp [intOf]; omega
      · have HR := Lib.hid (show ordL l l' = o by
          rw [HD.out, HE.out.1, HE.out.2, ordL, ← ho, if_neg ho0])
        clear ho
        go_wp2
        refine detL_begin [.val (.slice (some xa) n cap), .val (.int .i64 k), .val (.pointer (some (xa.add (k * 3)))), .val (.agg #[.int .i64 x.k, .int .i64 x.i, .string x.s]), .val (.slice (some ya) n cap'), .val (.int .i64 k), .val (.pointer (some (ya.add (k * 3)))), .val (.agg #[.int .i64 y.k, .int .i64 y.i, .string y.s]), .val (.int .i64 o)] 9 (by kernel_rfl) ?_
        refine detL_val (by kernel_rfl) (yields_of rfl fun w1 hb1 => ?_) ?_
        · have hc1 := bcellD hb1
          clear hb1
          go_simp
          exact Det1_same
        simp only [Act.put, List.setIfInBounds_toArray, List.set_cons_zero, List.set_cons_succ]
        refine detL_val (by kernel_rfl) (yields_of rfl fun w1 hb1 => ?_) ?_
        · have hc1 := bcellD hb1
          clear hb1
          go_simp
          exact Det1_same
        simp only [Act.put, List.setIfInBounds_toArray, List.set_cons_zero, List.set_cons_succ]
        refine detL_val (by kernel_rfl) (yields_of rfl fun w1 hb1 => ?_) ?_
        · have hc1 := bcellD hb1
          clear hb1
          go_simp
          exact Det1_same
        simp only [Act.put, List.setIfInBounds_toArray, List.set_cons_zero, List.set_cons_succ]
        refine detL_val (by kernel_rfl) (yields_of rfl fun w1 hb1 => ?_) ?_
        · have hc1 := bcellD hb1
          have hv1 := HA0.out.1.det hb1 HA0.out.2; have d1 := hv1.k; have d2 := hv1.i; have d3 := hv1.s; clear hv1
          clear hb1
          go_simp
          exact Det1_same
        simp only [Act.put, List.setIfInBounds_toArray, List.set_cons_zero, List.set_cons_succ]
        refine detL_val (by kernel_rfl) (yields_of rfl fun w1 hb1 => ?_) ?_
        · have hc1 := bcellD hb1
          clear hb1
          go_simp
          exact Det1_same
        simp only [Act.put, List.setIfInBounds_toArray, List.set_cons_zero, List.set_cons_succ]
        refine detL_val (by kernel_rfl) (yields_of rfl fun w1 hb1 => ?_) ?_
        · have hc1 := bcellD hb1
          clear hb1
          go_simp
          exact Det1_same
        simp only [Act.put, List.setIfInBounds_toArray, List.set_cons_zero, List.set_cons_succ]
        refine detL_val (by kernel_rfl) (yields_of rfl fun w1 hb1 => ?_) ?_
        · have hc1 := bcellD hb1
          clear hb1
          go_simp
          exact Det1_same
        simp only [Act.put, List.setIfInBounds_toArray, List.set_cons_zero, List.set_cons_succ]
        refine detL_val (by kernel_rfl) (yields_of rfl fun w1 hb1 => ?_) ?_
        · have hc1 := bcellD hb1
          have hv1 := HA1.out.1.det hb1 HA1.out.2; have d1 := hv1.k; have d2 := hv1.i; have d3 := hv1.s; clear hv1
          clear hb1
          go_simp
          exact Det1_same
        simp only [Act.put, List.setIfInBounds_toArray, List.set_cons_zero, List.set_cons_succ]
        refine detL_val (by kernel_rfl) (yields_of rfl fun w1 hb1 => ?_) ?_
        · have hc1 := bcellD hb1
          clear hb1
          go_simp
          exact Det1_enter (HO.out _)
        simp only [Act.put, List.setIfInBounds_toArray, List.set_cons_zero, List.set_cons_succ]
        refine detL_tail rfl (by kernel_rfl) fun w1 hw1 => ?_
        have hb1 := hw1.below
        clear hw1
        go_wp2
        go_ret
        exact ⟨ret_int HR.out.symm, hb.drew.trans (hb1.mono hbs)⟩
    · have HR := Lib.hid (show ordL l l' = 0 by
        rw [ordL_split k l l' (by have := HL.out; omega) HT.out, List.drop_of_length_le (by have := HL.out; omega), List.drop_of_length_le (by have := HL.out; omega)]
        rfl)
      go_wp2
      go_ret
      exact ⟨ret_int HR.out.symm, hb⟩
end Go.Proofs.Ytnahejljelbbgaa

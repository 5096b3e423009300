import Derived.Test.YtmhkmliebhbkdaaGreatX17

/- The document's SameRows, of the same rows. (The first part is taken out of code/XCh.) -/
namespace Go.Proofs.YtmhkmliebhbkdaaGreat
open Go.RowKit Go.Lib

theorem VlAt.det {W W' : World} {a : Addr} {x : Vl} (h : VlAt W a x) (hb : Below W.drew.heap.size W.drew W') (hB : a.block < W.heap.size) : VlAt W' a x :=
  ⟨(hb.cell (p := a) hB).trans h.k, (hb.cell (p := ⟨a.block, _, none⟩) hB).trans h.i, (hb.cell (p := ⟨a.block, _, none⟩) hB).trans h.s⟩

def sameV (x y : Vl) : Bool := decide (x.k = y.k) && (decide (x.i = y.i) && decide (x.s.toList = y.s.toList))
def sameL : List Vl → List Vl → Bool
  | [], [] => true
  | x :: l, y :: m => sameV x y && sameL l m
  | _, _ => false
theorem sameV_iff (x y : Vl) : sameV x y = true ↔ x = y := by
  unfold sameV
  simp only [Bool.and_eq_true, decide_eq_true_eq]
  constructor
  · rintro ⟨h1, h2, h3⟩
    rw [toList_data, toList_data] at h3
    cases x; cases y
    simp only at h1 h2 h3
    subst h1 h2
    rw [show _ = _ from ByteArray.ext (Array.toList_inj.1 h3)]
  · rintro rfl; exact ⟨rfl, rfl, rfl⟩
theorem sameL_iff : ∀ (l m : List Vl), sameL l m = true ↔ l = m
  | [], [] => by simp [sameL]
  | [], _ :: _ => by simp [sameL]
  | _ :: _, [] => by simp [sameL]
  | x :: l, y :: m => by
    simp only [sameL, Bool.and_eq_true, sameV_iff, sameL_iff l m, List.cons.injEq]
theorem sameL_len {l m : List Vl} (h : l.length ≠ m.length) : sameL l m = false := by
  cases hs : sameL l m with
  | false => rfl
  | true => exact absurd (congrArg List.length ((sameL_iff l m).1 hs)) h
theorem sameL_split (k : Nat) (l m : List Vl) (h : l.take k = m.take k) : sameL l m = sameL (l.drop k) (m.drop k) := by
  have e : ∀ a b : Bool, (a = true ↔ b = true) → a = b := fun a b h => by cases a <;> cases b <;> simp_all
  apply e
  rw [sameL_iff, sameL_iff]
  constructor
  · rintro rfl; rfl
  · intro h2
    rw [← List.take_append_drop k l, ← List.take_append_drop k m, h, h2]

set_option maxRecDepth 100000 in
set_option maxHeartbeats 8000000 in
theorem same_any (A : Option Addr) (n cap : Nat) (l : List Vl) (A' : Option Addr) (m cap' : Nat) (l' : List Vl) (w : World) (hn : n ≤ 1000) (hm : m ≤ 1000) (hv : Vals w w.heap.size A n l) (hv' : Vals w w.heap.size A' m l') :
    Calls Tryz.prog 37 #[.slice A n cap, .slice A' m cap'] w fun e w' => e = .returned (.bool (sameL l l')) ∧ Below w.heap.size w w' := by
  have HV := Lib.hid hv
  have HV' := Lib.hid hv'
  have HL := Lib.hid (And.intro hv.1 hv'.1)
  clear hv hv'
  by_cases hnm : n = m
  · subst hnm
    go_enter Tryz.func37, Tryz.ntmps37
    go_wp2
    go_loopw [5] (fun i wr => ∃ k : Nat, k ≤ n ∧ i = .int .i64 k ∧ Below w.heap.size w wr ∧ Hid (l.take k = l'.take k)) (fun i _ => n - (intOf i).toNat)
    case atStart => exact ⟨0, by omega, rfl, Below.refl _ _, by show _ = _; simp⟩
    case round =>
      obtain ⟨k, hk, rfl, hb, HT⟩ := hrel
      have hbs := hb.size
      by_cases hlt0 : k < n
      · have hlt1 := hlt0
        have hkn : ((k : Nat) : Int) < (n : Int) := by omega
        obtain ⟨xa, x, rfl, hx, hA, hB0⟩ := HV.out.at_ hlt0
        have hA' := hA.keep hb (by rw [add_block]; exact hB0)
        have c0k := hA'.k
        have c0i := hA'.i
        have c0s := hA'.s
        have HX0 := Lib.hid hx
        have HA0 : Hid (VlAt wr (xa.add (k * 3)) x ∧ (xa.add (k * 3)).block < wr.heap.size) := ⟨hA', by rw [add_block]; omega⟩
        clear hx hA hA'
        obtain ⟨ya, y, rfl, hx, hA, hB1⟩ := HV'.out.at_ hlt1
        have hA' := hA.keep hb (by rw [add_block]; exact hB1)
        have c1k := hA'.k
        have c1i := hA'.i
        have c1s := hA'.s
        have HX1 := Lib.hid hx
        have HA1 : Hid (VlAt wr (ya.add (k * 3)) y ∧ (ya.add (k * 3)).block < wr.heap.size) := ⟨hA', by rw [add_block]; omega⟩
        clear hx hA hA'
        have hDX := Lib.hid (drop_at HX0.out)
        have hDY := Lib.hid (drop_at HX1.out)
        cases hs : sameV x y with
        | true =>
          obtain rfl := (sameV_iff x y).1 hs
          clear hs
          go_wp2
          refine detL_begin [.val (.slice (some xa) n cap), .val (.int .i64 k), .val (.pointer (some (xa.add (k * 3)))), .val (.agg #[.int .i64 x.k, .int .i64 x.i, .string x.s]), .val (.slice (some ya) n cap'), .val (.int .i64 k), .val (.pointer (some (ya.add (k * 3)))), .val (.agg #[.int .i64 x.k, .int .i64 x.i, .string x.s]), .val (.bool false)] 9 (by kernel_rfl) ?_
          refine detL_val (by kernel_rfl) (yields_of rfl fun w1 hb1 => ?_) ?_
          · have hc1 := bcellD hb1
            clear hb1
            go_simp
            exact Det1_same
          simp only [Act.put, List.setIfInBounds_toArray, List.set_cons_zero, List.set_cons_succ]
          refine detL_val (by kernel_rfl) (yields_of rfl fun w1 hb1 => ?_) ?_
          · have hc1 := bcellD hb1
            clear hb1
            go_simp
            exact Det1_same
          simp only [Act.put, List.setIfInBounds_toArray, List.set_cons_zero, List.set_cons_succ]
          refine detL_val (by kernel_rfl) (yields_of rfl fun w1 hb1 => ?_) ?_
          · have hc1 := bcellD hb1
            clear hb1
            go_simp
            exact Det1_same
          simp only [Act.put, List.setIfInBounds_toArray, List.set_cons_zero, List.set_cons_succ]
          refine detL_val (by kernel_rfl) (yields_of rfl fun w1 hb1 => ?_) ?_
          · have hc1 := bcellD hb1
            have hv1 := HA0.out.1.det hb1 HA0.out.2; have d1 := hv1.k; have d2 := hv1.i; have d3 := hv1.s; clear hv1
            clear hb1
            go_simp
            exact Det1_same
          simp only [Act.put, List.setIfInBounds_toArray, List.set_cons_zero, List.set_cons_succ]
          refine detL_val (by kernel_rfl) (yields_of rfl fun w1 hb1 => ?_) ?_
          · have hc1 := bcellD hb1
            clear hb1
            go_simp
            exact Det1_same
          simp only [Act.put, List.setIfInBounds_toArray, List.set_cons_zero, List.set_cons_succ]
          refine detL_val (by kernel_rfl) (yields_of rfl fun w1 hb1 => ?_) ?_
          · have hc1 := bcellD hb1
            clear hb1
            go_simp
            exact Det1_same
          simp only [Act.put, List.setIfInBounds_toArray, List.set_cons_zero, List.set_cons_succ]
          refine detL_val (by kernel_rfl) (yields_of rfl fun w1 hb1 => ?_) ?_
          · have hc1 := bcellD hb1
            clear hb1
            go_simp
            exact Det1_same
          simp only [Act.put, List.setIfInBounds_toArray, List.set_cons_zero, List.set_cons_succ]
          refine detL_val (by kernel_rfl) (yields_of rfl fun w1 hb1 => ?_) ?_
          · have hc1 := bcellD hb1
            have hv1 := HA1.out.1.det hb1 HA1.out.2; have d1 := hv1.k; have d2 := hv1.i; have d3 := hv1.s; clear hv1
            clear hb1
            go_simp
            exact Det1_same
          simp only [Act.put, List.setIfInBounds_toArray, List.set_cons_zero, List.set_cons_succ]
          refine detL_val (by kernel_rfl) (yields_of rfl fun w1 hb1 => ?_) ?_
          · have hc1 := bcellD hb1
            clear hb1
            go_simp
            exact Det1_same
          simp only [Act.put, List.setIfInBounds_toArray, List.set_cons_zero, List.set_cons_succ]
          refine detL_done (by kernel_rfl) fun w1 hw1 => ?_
          have hb1 := hw1.below
          clear hw1
          go_wp2
          go_roundw
          case rel => exact ⟨k + 1, by omega, by go_num, hb.drew.trans (hb1.mono hbs), by show _ = _; rw [take_snoc' HX0.out, take_snoc' HX1.out, HT.out]⟩
          case measure => simp [intOf]; omega
        | false =>
          have hR := Lib.hid (show sameL l l' = false by rw [sameL_split k l l' HT.out, hDX.out, hDY.out, sameL, hs, Bool.false_and])
          have hne : ¬ (x.k = y.k ∧ x.i = y.i ∧ x.s.toList = y.s.toList) := by
            rintro ⟨h1, h2, h3⟩
            rw [show sameV x y = true by unfold sameV; rw [h1, h2, h3]; simp] at hs
            cases hs
          clear hs
          by_cases h1 : x.k = y.k
          · by_cases h2 : x.i = y.i
            · have h3 : ¬ x.s.toList = y.s.toList := fun h => hne ⟨h1, h2, h⟩
              clear hne
              go_wp2
              refine detL_begin [.val (.slice (some xa) n cap), .val (.int .i64 k), .val (.pointer (some (xa.add (k * 3)))), .val (.agg #[.int .i64 x.k, .int .i64 x.i, .string x.s]), .val (.slice (some ya) n cap'), .val (.int .i64 k), .val (.pointer (some (ya.add (k * 3)))), .val (.agg #[.int .i64 y.k, .int .i64 y.i, .string y.s]), .val (.bool true)] 9 (by kernel_rfl) ?_
              refine detL_val (by kernel_rfl) (yields_of rfl fun w1 hb1 => ?_) ?_
              · have hc1 := bcellD hb1
                clear hb1
                go_simp
                exact Det1_same
              simp only [Act.put, List.setIfInBounds_toArray, List.set_cons_zero, List.set_cons_succ]
              refine detL_val (by kernel_rfl) (yields_of rfl fun w1 hb1 => ?_) ?_
              · have hc1 := bcellD hb1
                clear hb1
                go_simp
                exact Det1_same
              simp only [Act.put, List.setIfInBounds_toArray, List.set_cons_zero, List.set_cons_succ]
              refine detL_val (by kernel_rfl) (yields_of rfl fun w1 hb1 => ?_) ?_
              · have hc1 := bcellD hb1
                clear hb1
                go_simp
                exact Det1_same
              simp only [Act.put, List.setIfInBounds_toArray, List.set_cons_zero, List.set_cons_succ]
              refine detL_val (by kernel_rfl) (yields_of rfl fun w1 hb1 => ?_) ?_
              · have hc1 := bcellD hb1
                have hv1 := HA0.out.1.det hb1 HA0.out.2; have d1 := hv1.k; have d2 := hv1.i; have d3 := hv1.s; clear hv1
                clear hb1
                go_simp
                exact Det1_same
              simp only [Act.put, List.setIfInBounds_toArray, List.set_cons_zero, List.set_cons_succ]
              refine detL_val (by kernel_rfl) (yields_of rfl fun w1 hb1 => ?_) ?_
              · have hc1 := bcellD hb1
                clear hb1
                go_simp
                exact Det1_same
              simp only [Act.put, List.setIfInBounds_toArray, List.set_cons_zero, List.set_cons_succ]
              refine detL_val (by kernel_rfl) (yields_of rfl fun w1 hb1 => ?_) ?_
              · have hc1 := bcellD hb1
                clear hb1
                go_simp
                exact Det1_same
              simp only [Act.put, List.setIfInBounds_toArray, List.set_cons_zero, List.set_cons_succ]
              refine detL_val (by kernel_rfl) (yields_of rfl fun w1 hb1 => ?_) ?_
              · have hc1 := bcellD hb1
                clear hb1
                go_simp
                exact Det1_same
              simp only [Act.put, List.setIfInBounds_toArray, List.set_cons_zero, List.set_cons_succ]
              refine detL_val (by kernel_rfl) (yields_of rfl fun w1 hb1 => ?_) ?_
              · have hc1 := bcellD hb1
                have hv1 := HA1.out.1.det hb1 HA1.out.2; have d1 := hv1.k; have d2 := hv1.i; have d3 := hv1.s; clear hv1
                clear hb1
                go_simp
                exact Det1_same
              simp only [Act.put, List.setIfInBounds_toArray, List.set_cons_zero, List.set_cons_succ]
              refine detL_val (by kernel_rfl) (yields_of rfl fun w1 hb1 => ?_) ?_
              · have hc1 := bcellD hb1
                clear hb1
                go_simp
                exact Det1_same
              simp only [Act.put, List.setIfInBounds_toArray, List.set_cons_zero, List.set_cons_succ]
              refine detL_done (by kernel_rfl) fun w1 hw1 => ?_
              have hb1 := hw1.below
              clear hw1
              go_wp2
              go_ret
              exact ⟨ret_bool hR.out.symm, hb.drew.trans (hb1.mono hbs)⟩
            · clear hne
              go_wp2
              refine detL_begin [.val (.slice (some xa) n cap), .val (.int .i64 k), .val (.pointer (some (xa.add (k * 3)))), .val (.agg #[.int .i64 x.k, .int .i64 x.i, .string x.s]), .val (.slice (some ya) n cap'), .val (.int .i64 k), .val (.pointer (some (ya.add (k * 3)))), .val (.agg #[.int .i64 y.k, .int .i64 y.i, .string y.s]), .val (.bool true)] 9 (by kernel_rfl) ?_
              refine detL_val (by kernel_rfl) (yields_of rfl fun w1 hb1 => ?_) ?_
              · have hc1 := bcellD hb1
                clear hb1
                go_simp
                exact Det1_same
              simp only [Act.put, List.setIfInBounds_toArray, List.set_cons_zero, List.set_cons_succ]
              refine detL_val (by kernel_rfl) (yields_of rfl fun w1 hb1 => ?_) ?_
              · have hc1 := bcellD hb1
                clear hb1
                go_simp
                exact Det1_same
              simp only [Act.put, List.setIfInBounds_toArray, List.set_cons_zero, List.set_cons_succ]
              refine detL_val (by kernel_rfl) (yields_of rfl fun w1 hb1 => ?_) ?_
              · have hc1 := bcellD hb1
                clear hb1
                go_simp
                exact Det1_same
              simp only [Act.put, List.setIfInBounds_toArray, List.set_cons_zero, List.set_cons_succ]
              refine detL_val (by kernel_rfl) (yields_of rfl fun w1 hb1 => ?_) ?_
              · have hc1 := bcellD hb1
                have hv1 := HA0.out.1.det hb1 HA0.out.2; have d1 := hv1.k; have d2 := hv1.i; have d3 := hv1.s; clear hv1
                clear hb1
                go_simp
                exact Det1_same
              simp only [Act.put, List.setIfInBounds_toArray, List.set_cons_zero, List.set_cons_succ]
              refine detL_val (by kernel_rfl) (yields_of rfl fun w1 hb1 => ?_) ?_
              · have hc1 := bcellD hb1
                clear hb1
                go_simp
                exact Det1_same
              simp only [Act.put, List.setIfInBounds_toArray, List.set_cons_zero, List.set_cons_succ]
              refine detL_val (by kernel_rfl) (yields_of rfl fun w1 hb1 => ?_) ?_
              · have hc1 := bcellD hb1
                clear hb1
                go_simp
                exact Det1_same
              simp only [Act.put, List.setIfInBounds_toArray, List.set_cons_zero, List.set_cons_succ]
              refine detL_val (by kernel_rfl) (yields_of rfl fun w1 hb1 => ?_) ?_
              · have hc1 := bcellD hb1
                clear hb1
                go_simp
                exact Det1_same
              simp only [Act.put, List.setIfInBounds_toArray, List.set_cons_zero, List.set_cons_succ]
              refine detL_val (by kernel_rfl) (yields_of rfl fun w1 hb1 => ?_) ?_
              · have hc1 := bcellD hb1
                have hv1 := HA1.out.1.det hb1 HA1.out.2; have d1 := hv1.k; have d2 := hv1.i; have d3 := hv1.s; clear hv1
                clear hb1
                go_simp
                exact Det1_same
              simp only [Act.put, List.setIfInBounds_toArray, List.set_cons_zero, List.set_cons_succ]
              refine detL_val (by kernel_rfl) (yields_of rfl fun w1 hb1 => ?_) ?_
              · have hc1 := bcellD hb1
                clear hb1
                go_simp
                exact Det1_same
              simp only [Act.put, List.setIfInBounds_toArray, List.set_cons_zero, List.set_cons_succ]
              refine detL_done (by kernel_rfl) fun w1 hw1 => ?_
              have hb1 := hw1.below
              clear hw1
              go_wp2
              go_ret
              exact ⟨ret_bool hR.out.symm, hb.drew.trans (hb1.mono hbs)⟩
          · clear hne
            go_wp2
            refine detL_begin [.val (.slice (some xa) n cap), .val (.int .i64 k), .val (.pointer (some (xa.add (k * 3)))), .val (.agg #[.int .i64 x.k, .int .i64 x.i, .string x.s]), .val (.slice (some ya) n cap'), .val (.int .i64 k), .val (.pointer (some (ya.add (k * 3)))), .val (.agg #[.int .i64 y.k, .int .i64 y.i, .string y.s]), .val (.bool true)] 9 (by kernel_rfl) ?_
            refine detL_val (by kernel_rfl) (yields_of rfl fun w1 hb1 => ?_) ?_
            · have hc1 := bcellD hb1
              clear hb1
              go_simp
              exact Det1_same
            simp only [Act.put, List.setIfInBounds_toArray, List.set_cons_zero, List.set_cons_succ]
            refine detL_val (by kernel_rfl) (yields_of rfl fun w1 hb1 => ?_) ?_
            · have hc1 := bcellD hb1
              clear hb1
              go_simp
              exact Det1_same
            simp only [Act.put, List.setIfInBounds_toArray, List.set_cons_zero, List.set_cons_succ]
            refine detL_val (by kernel_rfl) (yields_of rfl fun w1 hb1 => ?_) ?_
            · have hc1 := bcellD hb1
              clear hb1
              go_simp
              exact Det1_same
            simp only [Act.put, List.setIfInBounds_toArray, List.set_cons_zero, List.set_cons_succ]
            refine detL_val (by kernel_rfl) (yields_of rfl fun w1 hb1 => ?_) ?_
            · have hc1 := bcellD hb1
              have hv1 := HA0.out.1.det hb1 HA0.out.2; have d1 := hv1.k; have d2 := hv1.i; have d3 := hv1.s; clear hv1
              clear hb1
              go_simp
              exact Det1_same
            simp only [Act.put, List.setIfInBounds_toArray, List.set_cons_zero, List.set_cons_succ]
            refine detL_val (by kernel_rfl) (yields_of rfl fun w1 hb1 => ?_) ?_
            · have hc1 := bcellD hb1
              clear hb1
              go_simp
              exact Det1_same
            simp only [Act.put, List.setIfInBounds_toArray, List.set_cons_zero, List.set_cons_succ]
            refine detL_val (by kernel_rfl) (yields_of rfl fun w1 hb1 => ?_) ?_
            · have hc1 := bcellD hb1
              clear hb1
              go_simp
              exact Det1_same
            simp only [Act.put, List.setIfInBounds_toArray, List.set_cons_zero, List.set_cons_succ]
            refine detL_val (by kernel_rfl) (yields_of rfl fun w1 hb1 => ?_) ?_
            · have hc1 := bcellD hb1
              clear hb1
              go_simp
              exact Det1_same
            simp only [Act.put, List.setIfInBounds_toArray, List.set_cons_zero, List.set_cons_succ]
            refine detL_val (by kernel_rfl) (yields_of rfl fun w1 hb1 => ?_) ?_
            · have hc1 := bcellD hb1
              have hv1 := HA1.out.1.det hb1 HA1.out.2; have d1 := hv1.k; have d2 := hv1.i; have d3 := hv1.s; clear hv1
              clear hb1
              go_simp
              exact Det1_same
            simp only [Act.put, List.setIfInBounds_toArray, List.set_cons_zero, List.set_cons_succ]
            refine detL_val (by kernel_rfl) (yields_of rfl fun w1 hb1 => ?_) ?_
            · have hc1 := bcellD hb1
              clear hb1
              go_simp
              exact Det1_same
            simp only [Act.put, List.setIfInBounds_toArray, List.set_cons_zero, List.set_cons_succ]
            refine detL_done (by kernel_rfl) fun w1 hw1 => ?_
            have hb1 := hw1.below
            clear hw1
            go_wp2
            go_ret
            exact ⟨ret_bool hR.out.symm, hb.drew.trans (hb1.mono hbs)⟩
      · have hR := Lib.hid (show sameL l l' = true by
          rw [sameL_iff]
          have h1 := HT.out
          rwa [List.take_of_length_le (by have := HL.out.1; omega), List.take_of_length_le (by have := HL.out.2; omega)] at h1)
        go_wp2
        go_ret
        exact ⟨ret_bool hR.out.symm, hb⟩
  · have hR := Lib.hid (show sameL l l' = false from sameL_len (by have := HL.out.1; have := HL.out.2; omega))
    have hnm' : ¬ (n : Int) = (m : Int) := by omega
    go_enter Tryz.func37, Tryz.ntmps37
    go_wp2
    go_ret
    exact ⟨ret_bool hR.out.symm, Below.refl _ _⟩

set_option maxRecDepth 100000 in
set_option maxHeartbeats 4000000 in
theorem sameRows_eq (X Y : Nat → Prop) (A : Option Addr) (n c : Nat) (A2 : Option Addr) (c2 : Nat) (rows : List (List Vl)) (w : World) (h1 : RowsAt w X A n rows) (h2 : RowsAt w Y A2 n rows) :
    Calls Tryz.prog 16 #[.slice A n c, .slice A2 n c2] w fun e w' => e = .returned (.bool true) ∧ Below w.heap.size w w' := by
  have H1 := Lib.hid h1
  have H2 := Lib.hid h2
  have hn1 := h1.2.1
  have HL := Lib.hid h1.1
  clear h1 h2
  go_enter Tryz.func16, Tryz.ntmps16
  go_wp2_with (fail)
  go_loopw [5] (fun iv wr => ∃ j : Nat, iv = .int .i64 j ∧ j ≤ n ∧ Hid (Below w.heap.size w wr)) (fun iv _ => n - (intOf iv).toNat)
  case atStart => exact ⟨0, rfl, by omega, Lib.hid (Below.refl _ _)⟩
  case round =>
    obtain ⟨j, rfl, hj, HB⟩ := hrel
    by_cases hlt : j < n
    · have hjl : j < rows.length := by rw [HL.out]; exact hlt
      obtain ⟨a, D, m, cd, e, hc, g1, g2, g3, _⟩ := (H1.out.below HB.out).2.2 j hjl
      subst e
      obtain ⟨a2, D2, m2, cd2, e, hc2, k1, k2, k3, _⟩ := (H2.out.below HB.out).2.2 j hjl
      subst e
      have hl1 := World.block_lt_of_cell? wr _ hc
      have hl2 := World.block_lt_of_cell? wr _ hc2
      have HCC := Lib.hid (And.intro hc hc2)
      have HSA : Hid (∀ W, Below wr.heap.size wr W → Calls Tryz.prog 37 #[.slice D m cd, .slice D2 m2 cd2] W fun e w' => e = .returned (.bool true) ∧ Below W.heap.size W w') := Lib.hid fun W hW => by
        have h := same_any D m cd rows[j] D2 m2 cd2 rows[j] W g2 k2 (g3.below hW) (k3.below hW)
        rw [(sameL_iff _ _).2 rfl] at h
        exact h
      clear hc hc2 g1 g2 g3 k1 k2 k3
      go_upto_region 6 with (fail)
      refine detL_begin [.val (.slice (some a) n c), .val (.int .i64 j), .val (.pointer (some (a.add j))), .val (.slice D m cd), .val (.slice (some a2) n c2), .val (.int .i64 j), .val (.pointer (some (a2.add j))), .val (.slice D2 m2 cd2), .val (.bool true), .val (.bool false)] 10 (by kernel_rfl) ?_
      refine detL_val (by kernel_rfl) (yields_of rfl fun w5 hb5 => ?_) ?_
      · have hc5 := bcellD hb5
        have HBx := Lib.hid hb5
        clear hb5
        go_simp
        exact Det1_same
      simp only [Act.put, List.setIfInBounds_toArray, List.set_cons_zero, List.set_cons_succ]
      refine detL_val (by kernel_rfl) (yields_of rfl fun w5 hb5 => ?_) ?_
      · have hc5 := bcellD hb5
        have HBx := Lib.hid hb5
        clear hb5
        go_simp
        exact Det1_same
      simp only [Act.put, List.setIfInBounds_toArray, List.set_cons_zero, List.set_cons_succ]
      refine detL_val (by kernel_rfl) (yields_of rfl fun w5 hb5 => ?_) ?_
      · have hc5 := bcellD hb5
        have HBx := Lib.hid hb5
        clear hb5
        go_simp
        exact Det1_same
      simp only [Act.put, List.setIfInBounds_toArray, List.set_cons_zero, List.set_cons_succ]
      refine detL_val (by kernel_rfl) (yields_of rfl fun w5 hb5 => ?_) ?_
      · have hc5 := bcellD hb5
        have HBx := Lib.hid hb5
        have m1 := (HBx.out.cell (p := a.add j) hl1).trans HCC.out.1
        clear hb5
        go_simp
        exact Det1_same
      simp only [Act.put, List.setIfInBounds_toArray, List.set_cons_zero, List.set_cons_succ]
      refine detL_val (by kernel_rfl) (yields_of rfl fun w5 hb5 => ?_) ?_
      · have hc5 := bcellD hb5
        have HBx := Lib.hid hb5
        clear hb5
        go_simp
        exact Det1_same
      simp only [Act.put, List.setIfInBounds_toArray, List.set_cons_zero, List.set_cons_succ]
      refine detL_val (by kernel_rfl) (yields_of rfl fun w5 hb5 => ?_) ?_
      · have hc5 := bcellD hb5
        have HBx := Lib.hid hb5
        clear hb5
        go_simp
        exact Det1_same
      simp only [Act.put, List.setIfInBounds_toArray, List.set_cons_zero, List.set_cons_succ]
      refine detL_val (by kernel_rfl) (yields_of rfl fun w5 hb5 => ?_) ?_
      · have hc5 := bcellD hb5
        have HBx := Lib.hid hb5
        clear hb5
        go_simp
        exact Det1_same
      simp only [Act.put, List.setIfInBounds_toArray, List.set_cons_zero, List.set_cons_succ]
      refine detL_val (by kernel_rfl) (yields_of rfl fun w5 hb5 => ?_) ?_
      · have hc5 := bcellD hb5
        have HBx := Lib.hid hb5
        have m1 := (HBx.out.cell (p := a2.add j) hl2).trans HCC.out.2
        clear hb5
        go_simp
        exact Det1_same
      simp only [Act.put, List.setIfInBounds_toArray, List.set_cons_zero, List.set_cons_succ]
      refine detL_val (by kernel_rfl) (yields_of rfl fun w5 hb5 => ?_) ?_
      · have hc5 := bcellD hb5
        have HBx := Lib.hid hb5
        clear hb5
        go_simp
        exact Det1_enter (HSA.out _ ((Below.refl _ _).drew.trans HBx.out))
      simp only [Act.put, List.setIfInBounds_toArray, List.set_cons_zero, List.set_cons_succ]
      refine detL_val (by kernel_rfl) (yields_of rfl fun w5 hb5 => ?_) ?_
      · have hc5 := bcellD hb5
        have HBx := Lib.hid hb5
        clear hb5
        go_simp
        exact Det1_same
      simp only [Act.put, List.setIfInBounds_toArray, List.set_cons_zero, List.set_cons_succ]
      refine detL_done (by kernel_rfl) fun w6 hw6 => ?_
      have HB6 : Hid (Below w.heap.size w w6) := HB.out.trans (((Below.refl _ _).drew.trans hw6.below).mono HB.out.size)
      clear hw6
      go_wp2
      go_roundw
      case rel => exact ⟨j + 1, by go_num, by omega, HB6⟩
      case measure => simp [intOf]; omega
    · go_wp2_with (fail)
      go_ret
      exact ⟨rfl, HB.out⟩
end Go.Proofs.YtmhkmliebhbkdaaGreat

/- The law's Few of a table with rows: what its parts leave. -/
namespace Go.Proofs.YtmhkmliebhbkdaaGreat
open Go.RowKit Go.Lib

theorem few_le14 (l : List Vl) : (fewL l).length ≤ 14 := by
  unfold fewL
  simp only [List.length_map, List.length_take]
  omega
/-- Rows that come in. -/
def RowsIn (W : World) (A : Option Addr) (n : Nat) (rows : List (List Vl)) : Prop :=
  rows.length = n ∧ n ≤ maxLen ∧ ∀ j (h : j < rows.length), ∃ a D m c, A = some a ∧ W.cell? (a.add j) = some (.slice D m c) ∧ m ≤ maxLen ∧ Vals W W.heap.size D m rows[j] ∧ ∀ x ∈ rows[j], x.s.size ≤ maxLen
theorem RowsIn.below {W W' : World} {A : Option Addr} {n : Nat} {rows : List (List Vl)} (h : RowsIn W A n rows) (hb : Below W.heap.size W W') : RowsIn W' A n rows :=
  ⟨h.1, h.2.1, fun j hj => by
    obtain ⟨a, D, m, c, e, hc, h1, h2, h3⟩ := h.2.2 j hj
    exact ⟨a, D, m, c, e, (hb.cell (World.block_lt_of_cell? W _ hc)).trans hc, h1, h2.below hb, h3⟩⟩
theorem relSize : (Tryz.prog.info? 34).map (·.size) = some 12 := by kernel_rfl
theorem rel_one (nm : ByteArray) (A : Option Addr) (n c : Nat) (key : Int) (U : Option Addr) (m cu : Nat) (R : Option Addr) (p cr : Nat) (op : ByteArray) (k i : Int) (vs s : ByteArray) (B : Option Addr) (q d : Nat) (Ar : Option Addr) (nr ca : Nat) : (#[.string nm, .slice A n c, .int .i64 key, .slice U m cu, .slice R p cr, .string op, .int .i64 k, .int .i64 i, .string vs, .string s, .slice B q d, .slice Ar nr ca] : Array Value).all (·.oneCell') = true := by simp [Value.oneCell']
/-- A row, cut. -/
def vfR (B0 : Nat) (row : List Vl) (u : Value) (F : List Nat) (w : World) : Prop := F = [] ∧ ∃ D m c, u = .slice D m c ∧ nilOk D m c ∧ m ≤ 14 ∧ Vals w w.heap.size D m (fewL row) ∧ ∀ a', D = some a' → m = 0 ∨ B0 ≤ a'.block
theorem vfR_lasting {B0 : Nat} {row : List Vl} : ∀ u F, Lasting (vfR B0 row u F) := by
  rintro u F w w' hb ⟨h0, D, m, c, h1, h2, h3, h4, h5⟩
  exact ⟨h0, D, m, c, h1, h2, h3, h4.below hb, h5⟩
theorem vfR_enter {P : Program} {w : World} {f : FuncId} {args : Array Value} {B0 : Nat} {row : List Vl} (h : Calls P f args w fun e w' => ∃ v, e = .returned v ∧ w'.ownsRow w.heap.size 26 3 v (fewL row).length (cellsOf (fewL row)) ∧ Below w.heap.size w w') (hb0 : B0 ≤ w.heap.size) : Rel1 P (vfR B0 row) w (.ok (.enter f args) w) :=
  Calls.mono h fun e w' ⟨v, h1, h2, hb⟩ => by
    obtain ⟨D, c, rfl, k1, k2⟩ := slice_form h2
    obtain ⟨A, cap, e', k3, _⟩ := Vals.of_own h2
    injection e' with e1 _ _
    subst e1
    refine ⟨_, [], h1, ⟨rfl, D, _, c, rfl, k1, few_le14 row, k3, fun a' e => .inr ?_⟩, (fun b hb' => by cases hb'), hb⟩
    obtain ⟨g, cur, rfl, hg, _⟩ := k2 a' e
    exact Nat.le_trans hb0 hg
/-- A slice of one such row. -/
def nsR (B0 : Nat) (row : List Vl) (u : Value) (F : List Nat) (w : World) : Prop := ∃ b D m c, F = [b] ∧ u = .slice (some ⟨b, 0, none⟩) 1 1 ∧ w.heap[b]? = some (.cells #[.slice D m c] 47 (0, 0)) ∧ nilOk D m c ∧ m ≤ 14 ∧ Vals w w.heap.size D m (fewL row) ∧ ∀ a', D = some a' → m = 0 ∨ B0 ≤ a'.block
theorem nsR_lasting {B0 : Nat} {row : List Vl} : ∀ u F, Lasting (nsR B0 row u F) := by
  rintro u F w w' hb ⟨b, D, m, c, h1, h2, h3, h4, h5, h6, h7⟩
  exact ⟨b, D, m, c, h1, h2, (hb.block b (lt_of_block h3)).trans h3, h4, h5, h6.below hb, h7⟩
theorem nsR_made {P : Program} {w : World} {B0 : Nat} {row : List Vl} {D : Option Addr} {m c : Nat} (h : vfR B0 row (.slice D m c) [] w) : Rel1 P (nsR B0 row) w (.ok (.value (.slice (some ⟨w.heap.size, 0, none⟩) 1 1)) (w.alloc (.cells #[.slice D m c] 47))) := by
  obtain ⟨_, D', m', c', e, h2, h3, h4, h5⟩ := h
  injection e with e1 e2 e3
  subst e1 e2 e3
  exact ⟨[w.heap.size], ⟨_, D, m, c, rfl, rfl, alloc_at rfl _, h2, h3, h4.below ((Below.refl _ _).alloc (Nat.le_refl _) _), h5⟩, by simp, (Below.refl _ _).alloc (Nat.le_refl _) _⟩
/-- Rows that have come out so far. -/
def Rws (w1 W : World) (v : Value) (j : Nat) (rows : List (List Vl)) : Prop := ∃ ss : List Value, W.ownsRow w1.heap.size 47 1 v j ss ∧ rows.length = j ∧ ∀ q (h : q < rows.length), ∃ D m c, ss[q]? = some (.slice D m c) ∧ nilOk D m c ∧ m ≤ 14 ∧ Vals W W.heap.size D m rows[q] ∧ ∀ a', D = some a' → m = 0 ∨ (w1.heap.size ≤ a'.block ∧ v.ownBlock ≠ some a'.block)
theorem Rws.snoc {w1 W W' : World} {v v' : Value} {j : Nat} {rows : List (List Vl)} {ss : List Value} {r : List Vl} {D : Option Addr} {m c : Nat} (hss : ss.length = j) (hl : rows.length = j) (hat : ∀ q (h : q < rows.length), ∃ D m c, ss[q]? = some (.slice D m c) ∧ nilOk D m c ∧ m ≤ 14 ∧ Vals W W.heap.size D m rows[q] ∧ ∀ a', D = some a' → m = 0 ∨ (w1.heap.size ≤ a'.block ∧ v.ownBlock ≠ some a'.block))
    (ho : W'.ownsRow w1.heap.size 47 1 v' (j + 1) (ss ++ [.slice D m c])) (hg : W.grownBy W' v.ownBlock) (hw : v'.ownBlock = v.ownBlock ∨ v'.ownBlock = some W.heap.size) (g1 : nilOk D m c) (g2 : m ≤ 14) (g3 : Vals W W.heap.size D m r) (g4 : ∀ a', D = some a' → m = 0 ∨ (w1.heap.size ≤ a'.block ∧ v.ownBlock ≠ some a'.block)) : Rws w1 W' v' (j + 1) (rows ++ [r]) := by
  have keep : ∀ (D : Option Addr) (m : Nat) (row : List Vl), Vals W W.heap.size D m row → (∀ a', D = some a' → m = 0 ∨ (w1.heap.size ≤ a'.block ∧ v.ownBlock ≠ some a'.block)) → Vals W' W'.heap.size D m row ∧ ∀ a', D = some a' → m = 0 ∨ (w1.heap.size ≤ a'.block ∧ v'.ownBlock ≠ some a'.block) := fun D m row hv hx => by
    refine ⟨hv.same hg.size fun a e => ?_, fun a e => ?_⟩
    · rcases hv.in_ e with h0 | h0
      · exact .inl h0
      · exact (hx a e).imp id fun k => hg.block _ h0 (fun e' => k.2 e'.symm)
    · rcases hv.in_ e with h0 | h0
      · exact .inl h0
      · refine (hx a e).imp id fun k => ⟨k.1, ?_⟩
        rcases hw with h | h
        · rw [h]; exact k.2
        · rw [h]
          intro e'
          injection e' with e'
          omega
  refine ⟨ss ++ [.slice D m c], ho, by simp; omega, fun q hq => ?_⟩
  by_cases h : q < rows.length
  · obtain ⟨D', m', c', e, k1, k2, k3, k4⟩ := hat q h
    obtain ⟨n1, n2⟩ := keep D' m' _ k3 k4
    refine ⟨D', m', c', ?_, k1, k2, ?_, n2⟩
    · rw [List.getElem?_append_left (by omega)]
      exact e
    · rw [List.getElem_append_left h]
      exact n1
  · have hq' : q = rows.length := by rw [List.length_append] at hq; simp at hq; omega
    subst hq'
    obtain ⟨n1, n2⟩ := keep D m _ g3 g4
    refine ⟨D, m, c, ?_, g1, g2, ?_, n2⟩
    · rw [List.getElem?_append_right (by omega), hss, hl]
      simp
    · rw [List.getElem_append_right (by omega)]
      simpa using n1
/-- What Few answers: a table and its rows, from B on. -/
def RelR (W : World) (B1 : Nat) (v : Value) (rows0 : List (List Vl)) : Prop := ∃ (nm' : ByteArray) (A' : Option Addr) (n' c' : Nat) (key' : Int) (U' : Option Addr) (m' cu' : Nat) (R' : Option Addr) (p' cr' : Nat) (op' : ByteArray) (k' i' : Int) (vs' s' : ByteArray) (B' : Option Addr) (q' d' : Nat) (cols' : List Cl) (us' : List Int) (rs' : List Rf) (l' : List Ex) (Ar : Option Addr) (nr ca : Nat) (rows : List (List Vl)), v = .agg #[.string nm', .slice A' n' c', .int .i64 key', .slice U' m' cu', .slice R' p' cr', .string op', .int .i64 k', .int .i64 i', .string vs', .string s', .slice B' q' d', .slice Ar nr ca] ∧ TbS W nm' A' n' c' key' U' m' cu' R' p' cr' op' k' i' vs' s' B' q' d' cols' us' rs' l' (fun b => B1 ≤ b) 14 ∧ (∀ a, A' = some a → n' = 0 ∨ B1 ≤ a.block) ∧ (∀ a, U' = some a → m' = 0 ∨ B1 ≤ a.block) ∧ (∀ a, R' = some a → p' = 0 ∨ B1 ≤ a.block) ∧
  nilOk Ar nr ca ∧ nr ≤ 201 ∧ RowsAt W (fun b => b < B1) Ar nr rows ∧ (∀ a, Ar = some a → nr = 0 ∨ B1 ≤ a.block) ∧ okT (.mk op' ⟨k', i', vs'⟩ s' l') ∧ rows = (rows0.take nr).map fewL
end Go.Proofs.YtmhkmliebhbkdaaGreat

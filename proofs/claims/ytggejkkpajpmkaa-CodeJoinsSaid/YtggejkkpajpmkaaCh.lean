import Derived.Test.YtggejkkpajpmkaaCg
/- Same rows; which row is first: the document's own. -/
namespace Go.Proofs.Ytggejkkpajpmkaa
open Go.RowKit Go.Lib

theorem VlAt.det {W W' : World} {a : Addr} {x : Vl} (h : VlAt W a x) (hb : Below W.drew.heap.size W.drew W') (hB : a.block < W.heap.size) : VlAt W' a x :=
  ⟨(hb.cell (p := a) hB).trans h.k, (hb.cell (p := ⟨a.block, _, none⟩) hB).trans h.i, (hb.cell (p := ⟨a.block, _, none⟩) hB).trans h.s⟩

def sameV (x y : Vl) : Bool := decide (x.k = y.k) && (decide (x.i = y.i) && decide (x.s.toList = y.s.toList))
def sameL : List Vl → List Vl → Bool
  | [], [] => true
  | x :: l, y :: m => sameV x y && sameL l m
  | _, _ => false
theorem sameV_iff (x y : Vl) : sameV x y = true ↔ x = y := by
  unfold sameV
  simp only [Bool.and_eq_true, decide_eq_true_eq]
  constructor
  · rintro ⟨h1, h2, h3⟩
    rw [toList_data, toList_data] at h3
    cases x; cases y
    simp only at h1 h2 h3
    subst h1 h2
    rw [show _ = _ from ByteArray.ext (Array.toList_inj.1 h3)]
  · rintro rfl; exact ⟨rfl, rfl, rfl⟩
theorem sameL_iff : ∀ (l m : List Vl), sameL l m = true ↔ l = m
  | [], [] => by simp [sameL]
  | [], _ :: _ => by simp [sameL]
  | _ :: _, [] => by simp [sameL]
  | x :: l, y :: m => by
    simp only [sameL, Bool.and_eq_true, sameV_iff, sameL_iff l m, List.cons.injEq]
theorem sameL_len {l m : List Vl} (h : l.length ≠ m.length) : sameL l m = false := by
  cases hs : sameL l m with
  | false => rfl
  | true => exact absurd (congrArg List.length ((sameL_iff l m).1 hs)) h
theorem sameL_split (k : Nat) (l m : List Vl) (h : l.take k = m.take k) : sameL l m = sameL (l.drop k) (m.drop k) := by
  have e : ∀ a b : Bool, (a = true ↔ b = true) → a = b := fun a b h => by cases a <;> cases b <;> simp_all
  apply e
  rw [sameL_iff, sameL_iff]
  constructor
  · rintro rfl; rfl
  · intro h2
    rw [← List.take_append_drop k l, ← List.take_append_drop k m, h, h2]

def ordV (x y : Vl) : Int := ordN x.k x.i x.s y.k y.i y.s
def ordL : List Vl → List Vl → Int
  | [], [] => 0
  | [], _ :: _ => -1
  | _ :: _, [] => 1
  | x :: l, y :: m => if ordV x y = 0 then ordL l m else ordV x y

set_option maxRecDepth 100000 in
set_option maxHeartbeats 8000000 in
theorem same_any (A : Option Addr) (n cap : Nat) (l : List Vl) (A' : Option Addr) (m cap' : Nat) (l' : List Vl) (w : World) (hn : n ≤ 1000) (hm : m ≤ 1000) (hv : Vals w w.heap.size A n l) (hv' : Vals w w.heap.size A' m l') :
    Calls Try.prog 15 #[.slice A n cap, .slice A' m cap'] w fun e w' => e = .returned (.bool (sameL l l')) ∧ Below w.heap.size w w' := by
  have HV := Lib.hid hv
  have HV' := Lib.hid hv'
  have HL := Lib.hid (And.intro hv.1 hv'.1)
  clear hv hv'
  by_cases hnm : n = m
  · subst hnm
    go_enter Try.func15, Try.ntmps15
    go_wp2
    go_loopw [5] (fun i wr => ∃ k : Nat, k ≤ n ∧ i = .int .i64 k ∧ Below w.heap.size w wr ∧ Hid (l.take k = l'.take k)) (fun i _ => n - (intOf i).toNat)
    case atStart => exact ⟨0, by omega, rfl, Below.refl _ _, by show _ = _; simp⟩
    case round =>
      obtain ⟨k, hk, rfl, hb, HT⟩ := hrel
      have hbs := hb.size
      by_cases hlt0 : k < n
      · have hlt1 := hlt0
        have hkn : ((k : Nat) : Int) < (n : Int) := by omega
        obtain ⟨xa, x, rfl, hx, hA, hB0⟩ := HV.out.at_ hlt0
        have hA' := hA.keep hb (by rw [add_block]; exact hB0)
        have c0k := hA'.k
        have c0i := hA'.i
        have c0s := hA'.s
        have HX0 := Lib.hid hx
        have HA0 : Hid (VlAt wr (xa.add (k * 3)) x ∧ (xa.add (k * 3)).block < wr.heap.size) := ⟨hA', by rw [add_block]; omega⟩
        clear hx hA hA'
        obtain ⟨ya, y, rfl, hx, hA, hB1⟩ := HV'.out.at_ hlt1
        have hA' := hA.keep hb (by rw [add_block]; exact hB1)
        have c1k := hA'.k
        have c1i := hA'.i
        have c1s := hA'.s
        have HX1 := Lib.hid hx
        have HA1 : Hid (VlAt wr (ya.add (k * 3)) y ∧ (ya.add (k * 3)).block < wr.heap.size) := ⟨hA', by rw [add_block]; omega⟩
        clear hx hA hA'
        have hDX := Lib.hid (drop_at HX0.out)
        have hDY := Lib.hid (drop_at HX1.out)
        cases hs : sameV x y with
        | true =>
          obtain rfl := (sameV_iff x y).1 hs
          clear hs
          go_wp2
          refine detL_begin [.val (.slice (some xa) n cap), .val (.int .i64 k), .val (.pointer (some (xa.add (k * 3)))), .val (.agg #[.int .i64 x.k, .int .i64 x.i, .string x.s]), .val (.slice (some ya) n cap'), .val (.int .i64 k), .val (.pointer (some (ya.add (k * 3)))), .val (.agg #[.int .i64 x.k, .int .i64 x.i, .string x.s]), .val (.bool false)] 9 (by kernel_rfl) ?_
          refine detL_val (by kernel_rfl) (yields_of rfl fun w1 hb1 => ?_) ?_
          · have hc1 := bcellD hb1
            clear hb1
            go_simp
            exact Det1_same
          simp only [Act.put, List.setIfInBounds_toArray, List.set_cons_zero, List.set_cons_succ]
          refine detL_val (by kernel_rfl) (yields_of rfl fun w1 hb1 => ?_) ?_
          · have hc1 := bcellD hb1
            clear hb1
            go_simp
            exact Det1_same
          simp only [Act.put, List.setIfInBounds_toArray, List.set_cons_zero, List.set_cons_succ]
          refine detL_val (by kernel_rfl) (yields_of rfl fun w1 hb1 => ?_) ?_
          · have hc1 := bcellD hb1
            clear hb1
            go_simp
            exact Det1_same
          simp only [Act.put, List.setIfInBounds_toArray, List.set_cons_zero, List.set_cons_succ]
          refine detL_val (by kernel_rfl) (yields_of rfl fun w1 hb1 => ?_) ?_
          · have hc1 := bcellD hb1
            have hv1 := HA0.out.1.det hb1 HA0.out.2; have d1 := hv1.k; have d2 := hv1.i; have d3 := hv1.s; clear hv1
            clear hb1
            go_simp
            exact Det1_same
          simp only [Act.put, List.setIfInBounds_toArray, List.set_cons_zero, List.set_cons_succ]
          refine detL_val (by kernel_rfl) (yields_of rfl fun w1 hb1 => ?_) ?_
          · have hc1 := bcellD hb1
            clear hb1
            go_simp
            exact Det1_same
          simp only [Act.put, List.setIfInBounds_toArray, List.set_cons_zero, List.set_cons_succ]
          refine detL_val (by kernel_rfl) (yields_of rfl fun w1 hb1 => ?_) ?_
          · have hc1 := bcellD hb1
            clear hb1
            go_simp
            exact Det1_same
          simp only [Act.put, List.setIfInBounds_toArray, List.set_cons_zero, List.set_cons_succ]
          refine detL_val (by kernel_rfl) (yields_of rfl fun w1 hb1 => ?_) ?_
          · have hc1 := bcellD hb1
            clear hb1
            go_simp
            exact Det1_same
          simp only [Act.put, List.setIfInBounds_toArray, List.set_cons_zero, List.set_cons_succ]
          refine detL_val (by kernel_rfl) (yields_of rfl fun w1 hb1 => ?_) ?_
          · have hc1 := bcellD hb1
            have hv1 := HA1.out.1.det hb1 HA1.out.2; have d1 := hv1.k; have d2 := hv1.i; have d3 := hv1.s; clear hv1
            clear hb1
            go_simp
            exact Det1_same
          simp only [Act.put, List.setIfInBounds_toArray, List.set_cons_zero, List.set_cons_succ]
          refine detL_val (by kernel_rfl) (yields_of rfl fun w1 hb1 => ?_) ?_
          · have hc1 := bcellD hb1
            clear hb1
            go_simp
            exact Det1_same
          simp only [Act.put, List.setIfInBounds_toArray, List.set_cons_zero, List.set_cons_succ]
          refine detL_done (by kernel_rfl) fun w1 hw1 => ?_
          have hb1 := hw1.below
          clear hw1
          go_wp2
          go_roundw
          case rel => exact ⟨k + 1, by omega, by go_num, hb.drew.trans (hb1.mono hbs), by show _ = _; rw [take_snoc' HX0.out, take_snoc' HX1.out, HT.out]⟩
          case measure => simp [intOf]; omega
        | false =>
          have hR := Lib.hid (show sameL l l' = false by rw [sameL_split k l l' HT.out, hDX.out, hDY.out, sameL, hs, Bool.false_and])
          have hne : ¬ (x.k = y.k ∧ x.i = y.i ∧ x.s.toList = y.s.toList) := by
            rintro ⟨h1, h2, h3⟩
            rw [show sameV x y = true by unfold sameV; rw [h1, h2, h3]; simp] at hs
            cases hs
          clear hs
          by_cases h1 : x.k = y.k
          · by_cases h2 : x.i = y.i
            · have h3 : ¬ x.s.toList = y.s.toList := fun h => hne ⟨h1, h2, h⟩
              clear hne
              go_wp2
              refine detL_begin [.val (.slice (some xa) n cap), .val (.int .i64 k), .val (.pointer (some (xa.add (k * 3)))), .val (.agg #[.int .i64 x.k, .int .i64 x.i, .string x.s]), .val (.slice (some ya) n cap'), .val (.int .i64 k), .val (.pointer (some (ya.add (k * 3)))), .val (.agg #[.int .i64 y.k, .int .i64 y.i, .string y.s]), .val (.bool true)] 9 (by kernel_rfl) ?_
              refine detL_val (by kernel_rfl) (yields_of rfl fun w1 hb1 => ?_) ?_
              · have hc1 := bcellD hb1
                clear hb1
                go_simp
                exact Det1_same
              simp only [Act.put, List.setIfInBounds_toArray, List.set_cons_zero, List.set_cons_succ]
              refine detL_val (by kernel_rfl) (yields_of rfl fun w1 hb1 => ?_) ?_
              · have hc1 := bcellD hb1
                clear hb1
                go_simp
                exact Det1_same
              simp only [Act.put, List.setIfInBounds_toArray, List.set_cons_zero, List.set_cons_succ]
              refine detL_val (by kernel_rfl) (yields_of rfl fun w1 hb1 => ?_) ?_
              · have hc1 := bcellD hb1
                clear hb1
                go_simp
                exact Det1_same
              simp only [Act.put, List.setIfInBounds_toArray, List.set_cons_zero, List.set_cons_succ]
              refine detL_val (by kernel_rfl) (yields_of rfl fun w1 hb1 => ?_) ?_
              · have hc1 := bcellD hb1
                have hv1 := HA0.out.1.det hb1 HA0.out.2; have d1 := hv1.k; have d2 := hv1.i; have d3 := hv1.s; clear hv1
                clear hb1
                go_simp
                exact Det1_same
              simp only [Act.put, List.setIfInBounds_toArray, List.set_cons_zero, List.set_cons_succ]
              refine detL_val (by kernel_rfl) (yields_of rfl fun w1 hb1 => ?_) ?_
              · have hc1 := bcellD hb1
                clear hb1
                go_simp
                exact Det1_same
              simp only [Act.put, List.setIfInBounds_toArray, List.set_cons_zero, List.set_cons_succ]
              refine detL_val (by kernel_rfl) (yields_of rfl fun w1 hb1 => ?_) ?_
              · have hc1 := bcellD hb1
                clear hb1
                go_simp
                exact Det1_same
              simp only [Act.put, List.setIfInBounds_toArray, List.set_cons_zero, List.set_cons_succ]
              refine detL_val (by kernel_rfl) (yields_of rfl fun w1 hb1 => ?_) ?_
              · have hc1 := bcellD hb1
                clear hb1
                go_simp
                exact Det1_same
              simp only [Act.put, List.setIfInBounds_toArray, List.set_cons_zero, List.set_cons_succ]
              refine detL_val (by kernel_rfl) (yields_of rfl fun w1 hb1 => ?_) ?_
              · have hc1 := bcellD hb1
                have hv1 := HA1.out.1.det hb1 HA1.out.2; have d1 := hv1.k; have d2 := hv1.i; have d3 := hv1.s; clear hv1
                clear hb1
                go_simp
                exact Det1_same
              simp only [Act.put, List.setIfInBounds_toArray, List.set_cons_zero, List.set_cons_succ]
              refine detL_val (by kernel_rfl) (yields_of rfl fun w1 hb1 => ?_) ?_
              · have hc1 := bcellD hb1
                clear hb1
                go_simp
                exact Det1_same
              simp only [Act.put, List.setIfInBounds_toArray, List.set_cons_zero, List.set_cons_succ]
              refine detL_done (by kernel_rfl) fun w1 hw1 => ?_
              have hb1 := hw1.below
              clear hw1
              go_wp2
              go_ret
              exact ⟨ret_bool hR.out.symm, hb.drew.trans (hb1.mono hbs)⟩
            · clear hne
              go_wp2
              refine detL_begin [.val (.slice (some xa) n cap), .val (.int .i64 k), .val (.pointer (some (xa.add (k * 3)))), .val (.agg #[.int .i64 x.k, .int .i64 x.i, .string x.s]), .val (.slice (some ya) n cap'), .val (.int .i64 k), .val (.pointer (some (ya.add (k * 3)))), .val (.agg #[.int .i64 y.k, .int .i64 y.i, .string y.s]), .val (.bool true)] 9 (by kernel_rfl) ?_
              refine detL_val (by kernel_rfl) (yields_of rfl fun w1 hb1 => ?_) ?_
              · have hc1 := bcellD hb1
                clear hb1
                go_simp
                exact Det1_same
              simp only [Act.put, List.setIfInBounds_toArray, List.set_cons_zero, List.set_cons_succ]
              refine detL_val (by kernel_rfl) (yields_of rfl fun w1 hb1 => ?_) ?_
              · have hc1 := bcellD hb1
                clear hb1
                go_simp
                exact Det1_same
              simp only [Act.put, List.setIfInBounds_toArray, List.set_cons_zero, List.set_cons_succ]
              refine detL_val (by kernel_rfl) (yields_of rfl fun w1 hb1 => ?_) ?_
              · have hc1 := bcellD hb1
                clear hb1
                go_simp
                exact Det1_same
              simp only [Act.put, List.setIfInBounds_toArray, List.set_cons_zero, List.set_cons_succ]
              refine detL_val (by kernel_rfl) (yields_of rfl fun w1 hb1 => ?_) ?_
              · have hc1 := bcellD hb1
                have hv1 := HA0.out.1.det hb1 HA0.out.2; have d1 := hv1.k; have d2 := hv1.i; have d3 := hv1.s; clear hv1
                clear hb1
                go_simp
                exact Det1_same
              simp only [Act.put, List.setIfInBounds_toArray, List.set_cons_zero, List.set_cons_succ]
              refine detL_val (by kernel_rfl) (yields_of rfl fun w1 hb1 => ?_) ?_
              · have hc1 := bcellD hb1
                clear hb1
                go_simp
                exact Det1_same
              simp only [Act.put, List.setIfInBounds_toArray, List.set_cons_zero, List.set_cons_succ]
              refine detL_val (by kernel_rfl) (yields_of rfl fun w1 hb1 => ?_) ?_
              · have hc1 := bcellD hb1
                clear hb1
                go_simp
                exact Det1_same
              simp only [Act.put, List.setIfInBounds_toArray, List.set_cons_zero, List.set_cons_succ]
              refine detL_val (by kernel_rfl) (yields_of rfl fun w1 hb1 => ?_) ?_
              · have hc1 := bcellD hb1
                clear hb1
                go_simp
                exact Det1_same
              simp only [Act.put, List.setIfInBounds_toArray, List.set_cons_zero, List.set_cons_succ]
              refine detL_val (by kernel_rfl) (yields_of rfl fun w1 hb1 => ?_) ?_
              · have hc1 := bcellD hb1
                have hv1 := HA1.out.1.det hb1 HA1.out.2; have d1 := hv1.k; have d2 := hv1.i; have d3 := hv1.s; clear hv1
                clear hb1
                go_simp
                exact Det1_same
              simp only [Act.put, List.setIfInBounds_toArray, List.set_cons_zero, List.set_cons_succ]
              refine detL_val (by kernel_rfl) (yields_of rfl fun w1 hb1 => ?_) ?_
              · have hc1 := bcellD hb1
                clear hb1
                go_simp
                exact Det1_same
              simp only [Act.put, List.setIfInBounds_toArray, List.set_cons_zero, List.set_cons_succ]
              refine detL_done (by kernel_rfl) fun w1 hw1 => ?_
              have hb1 := hw1.below
              clear hw1
              go_wp2
              go_ret
              exact ⟨ret_bool hR.out.symm, hb.drew.trans (hb1.mono hbs)⟩
          · clear hne
            go_wp2
            refine detL_begin [.val (.slice (some xa) n cap), .val (.int .i64 k), .val (.pointer (some (xa.add (k * 3)))), .val (.agg #[.int .i64 x.k, .int .i64 x.i, .string x.s]), .val (.slice (some ya) n cap'), .val (.int .i64 k), .val (.pointer (some (ya.add (k * 3)))), .val (.agg #[.int .i64 y.k, .int .i64 y.i, .string y.s]), .val (.bool true)] 9 (by kernel_rfl) ?_
            refine detL_val (by kernel_rfl) (yields_of rfl fun w1 hb1 => ?_) ?_
            · have hc1 := bcellD hb1
              clear hb1
              go_simp
              exact Det1_same
            simp only [Act.put, List.setIfInBounds_toArray, List.set_cons_zero, List.set_cons_succ]
            refine detL_val (by kernel_rfl) (yields_of rfl fun w1 hb1 => ?_) ?_
            · have hc1 := bcellD hb1
              clear hb1
              go_simp
              exact Det1_same
            simp only [Act.put, List.setIfInBounds_toArray, List.set_cons_zero, List.set_cons_succ]
            refine detL_val (by kernel_rfl) (yields_of rfl fun w1 hb1 => ?_) ?_
            · have hc1 := bcellD hb1
              clear hb1
              go_simp
              exact Det1_same
            simp only [Act.put, List.setIfInBounds_toArray, List.set_cons_zero, List.set_cons_succ]
            refine detL_val (by kernel_rfl) (yields_of rfl fun w1 hb1 => ?_) ?_
            · have hc1 := bcellD hb1
              have hv1 := HA0.out.1.det hb1 HA0.out.2; have d1 := hv1.k; have d2 := hv1.i; have d3 := hv1.s; clear hv1
              clear hb1
              go_simp
              exact Det1_same
            simp only [Act.put, List.setIfInBounds_toArray, List.set_cons_zero, List.set_cons_succ]
            refine detL_val (by kernel_rfl) (yields_of rfl fun w1 hb1 => ?_) ?_
            · have hc1 := bcellD hb1
              clear hb1
              go_simp
              exact Det1_same
            simp only [Act.put, List.setIfInBounds_toArray, List.set_cons_zero, List.set_cons_succ]
            refine detL_val (by kernel_rfl) (yields_of rfl fun w1 hb1 => ?_) ?_
            · have hc1 := bcellD hb1
              clear hb1
              go_simp
              exact Det1_same
            simp only [Act.put, List.setIfInBounds_toArray, List.set_cons_zero, List.set_cons_succ]
            refine detL_val (by kernel_rfl) (yields_of rfl fun w1 hb1 => ?_) ?_
            · have hc1 := bcellD hb1
              clear hb1
              go_simp
              exact Det1_same
            simp only [Act.put, List.setIfInBounds_toArray, List.set_cons_zero, List.set_cons_succ]
            refine detL_val (by kernel_rfl) (yields_of rfl fun w1 hb1 => ?_) ?_
            · have hc1 := bcellD hb1
              have hv1 := HA1.out.1.det hb1 HA1.out.2; have d1 := hv1.k; have d2 := hv1.i; have d3 := hv1.s; clear hv1
              clear hb1
              go_simp
              exact Det1_same
            simp only [Act.put, List.setIfInBounds_toArray, List.set_cons_zero, List.set_cons_succ]
            refine detL_val (by kernel_rfl) (yields_of rfl fun w1 hb1 => ?_) ?_
            · have hc1 := bcellD hb1
              clear hb1
              go_simp
              exact Det1_same
            simp only [Act.put, List.setIfInBounds_toArray, List.set_cons_zero, List.set_cons_succ]
            refine detL_done (by kernel_rfl) fun w1 hw1 => ?_
            have hb1 := hw1.below
            clear hw1
            go_wp2
            go_ret
            exact ⟨ret_bool hR.out.symm, hb.drew.trans (hb1.mono hbs)⟩
      · have hR := Lib.hid (show sameL l l' = true by
          rw [sameL_iff]
          have h1 := HT.out
          rwa [List.take_of_length_le (by have := HL.out.1; omega), List.take_of_length_le (by have := HL.out.2; omega)] at h1)
        go_wp2
        go_ret
        exact ⟨ret_bool hR.out.symm, hb⟩
  · have hR := Lib.hid (show sameL l l' = false from sameL_len (by have := HL.out.1; have := HL.out.2; omega))
    have hnm' : ¬ (n : Int) = (m : Int) := by omega
    go_enter Try.func15, Try.ntmps15
    go_wp2
    go_ret
    exact ⟨ret_bool hR.out.symm, Below.refl _ _⟩

end Go.Proofs.Ytggejkkpajpmkaa

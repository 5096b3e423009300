import Derived.Test.YtmhkmliebhbkdaaGreatX20
import Derived.Test.YtmhkmliebhbkdaaGreatX27
import Derived.Test.YtmhkmliebhbkdaaGreatX12
import Derived.Test.YtmhkmliebhbkdaaGreatX19

/- The law's example. -/
namespace Go.Proofs.YtmhkmliebhbkdaaGreat
open Go.RowKit Go.Lib

theorem ints3 (w : World) (x y z : Int) (t : TypeId) : ∀ j (h : j < [x, y, z].length), (w.alloc (.cells #[.int .i64 x, .int .i64 y, .int .i64 z] t)).cell? ((⟨w.heap.size, 0, none⟩ : Addr).add j) = some (.int .i64 [x, y, z][j]) := fun j h => by
  have h : j < 3 := h
  rcases (show j = 0 ∨ j = 1 ∨ j = 2 by omega) with rfl | rfl | rfl <;> simp [go_sem, Addr.add]
def one7 (x : Int) : List Vl := [⟨1, x, ⟨#[]⟩⟩]
def lt7 : Ex := twoT ⟨#[60]⟩ (colT ⟨#[107]⟩) (litT ⟨1, 3, ⟨#[]⟩⟩)
theorem where7 : whereR [kN7] [one7 1, one7 2, one7 3] lt7 = ([one7 1, one7 2], 0) := by kernel_rfl
theorem rel7a : relI 1 ⟨#[116]⟩ 0 [kN7] [] [] (.mk ⟨#[]⟩ ⟨0, 0, ⟨#[]⟩⟩ ⟨#[]⟩ []) 3 [one7 1, one7 2, one7 3] = 0 := by kernel_rfl
theorem rel7b : relI 1 ⟨#[116]⟩ 0 [kN7] [] [] (.mk ⟨#[]⟩ ⟨0, 0, ⟨#[]⟩⟩ ⟨#[]⟩ []) 3 [one7 1, one7 2, one7 2] = 7 := by kernel_rfl
theorem table7 : tableB 1 ⟨#[116]⟩ 0 [kN7] [] [] (.mk ⟨#[]⟩ ⟨0, 0, ⟨#[]⟩⟩ ⟨#[]⟩ []) = true := by kernel_rfl
theorem find7 : idxP (firstP 0 ⟨1, 2, ⟨#[]⟩⟩) [one7 1, one7 2, one7 3] 0 = 1 := by kernel_rfl
theorem tr7 (W : World) {n : Nat} (hn : W.heap.size = n) : Tr (W.alloc (.cells #[.string ⟨#[99, 111, 108]⟩, .int .i64 0, .int .i64 0, .string ⟨#[]⟩, .string ⟨#[107]⟩, .slice none 0 0, .string ⟨#[108, 105, 116]⟩, .int .i64 1, .int .i64 3, .string ⟨#[]⟩, .string ⟨#[]⟩, .slice none 0 0] 29)) (fun _ => True) 1 lt7 (.slice (some ⟨n, 0, none⟩) 2 2) := by
  subst hn
  exact two_tr (x := colT ⟨#[107]⟩) (y := litT ⟨1, 3, ⟨#[]⟩⟩) ⟨#[60]⟩ (leaf_tr W _ 0 _ _ _ (by decide)) (leaf_tr W _ 0 _ _ _ (by decide)) trivial
theorem tbs7 {W : World} {b : Nat} (h : ColS W (some ⟨b, 0, none⟩) 1 [kN7]) : TbS W ⟨#[116]⟩ (some ⟨b, 0, none⟩) 1 1 0 none 0 0 none 0 0 ⟨#[]⟩ 0 0 ⟨#[]⟩ ⟨#[]⟩ none 0 0 [kN7] [] [] [] (fun _ => True) 0 where
  hcols := h
  cap := Nat.le_refl _
  hus := ⟨rfl, by unfold maxLen; omega, fun j hj => absurd hj (by simp)⟩
  hrs := ⟨rfl, by unfold maxLen; omega, fun j hj => absurd hj (by simp)⟩
  chk := leaf_tr W _ 0 _ _ _ (by decide)
  len := rfl
  hnm := by decide
  nc := fun y hy => by
    obtain rfl : y = kN7 := by simpa using hy
    decide
  nr := fun y hy => by cases hy
set_option maxRecDepth 100000 in
set_option maxHeartbeats 4000000 in
theorem awake7_any (w : World) : Calls Tryz.prog 17 #[] w fun e w' => e = .returned (.bool true) ∧ Below w.heap.size w w' := by
  go_enter Tryz.func17, Tryz.ntmps17
  go_upto_region 1 with (fail)
  go_upto_region 2 with (first
    | (go_at_call 38; (with_reducible refine (some_any ⟨w.heap.size, 0, none⟩ 3 3 [1, 2, 3] _ rfl (by omega) (ints3 w 1 2 3 _)).mono ?_); rintro e w1 ⟨b, RA, rc, rfl, k1, k2, k4, k3, hb1⟩; have H1 := Lib.hid (And.intro k1 (And.intro k2 (And.intro k3 (((Below.refl _ _).alloc (Nat.le_refl _) _).trans (hb1.mono (by simp)))))); clear k1 k2 k3 hb1))
  obtain ⟨a, rfl⟩ : ∃ a, RA = some a := by
    obtain ⟨a, _, _, _, e, _⟩ := H1.out.2.2.1.2.2 0 (by simp)
    exact ⟨a, e⟩
  refine wp_gen (fun W => (Below w.heap.size w W ∧ ColS W (some ⟨b, 0, none⟩) 1 [kN7] ∧ RowsAt W (fun _ => False) (some a) 3 [one7 1, one7 2, one7 3]) ∧ W.heap[w1.heap.size]? = some (.cells #[.string ⟨#[116]⟩, .slice (some ⟨b, 0, none⟩) 1 1, .int .i64 0, .slice none 0 0, .slice none 0 0, .string ⟨#[]⟩, .int .i64 0, .int .i64 0, .string ⟨#[]⟩, .string ⟨#[]⟩, .slice none 0 0, .slice (some a) 3 rc] 34 (0, 0))) (by
    have hb : Below w1.heap.size w1 (w1.alloc (.cells #[.string ⟨#[116]⟩, .slice (some ⟨b, 0, none⟩) 1 1, .int .i64 0, .slice none 0 0, .slice none 0 0, .string ⟨#[]⟩, .int .i64 0, .int .i64 0, .string ⟨#[]⟩, .string ⟨#[]⟩, .slice none 0 0, .slice (some a) 3 rc] 34)) := (Below.refl _ _).alloc (Nat.le_refl _) _
    exact ⟨⟨H1.out.2.2.2.alloc H1.out.2.2.2.size _, H1.out.1.below hb, H1.out.2.2.1.below hb⟩, alloc_at rfl _⟩) fun w2 hw2 => ?_
  have H2 := Lib.hid hw2
  have hz2 := lt_of_block hw2.2
  clear hw2 H1
  have HW2 : Hid (Below w2.heap.size w2 (w2.alloc (.cells #[.string ⟨#[99, 111, 108]⟩, .int .i64 0, .int .i64 0, .string ⟨#[]⟩, .string ⟨#[107]⟩, .slice none 0 0, .string ⟨#[108, 105, 116]⟩, .int .i64 1, .int .i64 3, .string ⟨#[]⟩, .string ⟨#[]⟩, .slice none 0 0] 29))) := Lib.hid ((Below.refl _ _).alloc (Nat.le_refl _) _)
  have HWH : Hid (Calls Tryz.prog 14 #[.agg #[.string ⟨#[116]⟩, .slice (some ⟨b, 0, none⟩) 1 1, .int .i64 0, .slice none 0 0, .slice none 0 0, .string ⟨#[]⟩, .int .i64 0, .int .i64 0, .string ⟨#[]⟩, .string ⟨#[]⟩, .slice none 0 0, .slice (some a) 3 rc], .agg #[.string ⟨#[60]⟩, .int .i64 0, .int .i64 0, .string ⟨#[]⟩, .string ⟨#[]⟩, .slice (some ⟨w2.heap.size, 0, none⟩) 2 2]] (w2.alloc (.cells #[.string ⟨#[99, 111, 108]⟩, .int .i64 0, .int .i64 0, .string ⟨#[]⟩, .string ⟨#[107]⟩, .slice none 0 0, .string ⟨#[108, 105, 116]⟩, .int .i64 1, .int .i64 3, .string ⟨#[]⟩, .string ⟨#[]⟩, .slice none 0 0] 29)) fun e w' => ∃ A' c', e = .returned (.tuple #[.slice A' 2 c', .int .i64 0]) ∧ RowsAt w' (fun _ => False) A' 2 [one7 1, one7 2] ∧ Below (w2.alloc (.cells #[.string ⟨#[99, 111, 108]⟩, .int .i64 0, .int .i64 0, .string ⟨#[]⟩, .string ⟨#[107]⟩, .slice none 0 0, .string ⟨#[108, 105, 116]⟩, .int .i64 1, .int .i64 3, .string ⟨#[]⟩, .string ⟨#[]⟩, .slice none 0 0] 29)).heap.size (w2.alloc (.cells #[.string ⟨#[99, 111, 108]⟩, .int .i64 0, .int .i64 0, .string ⟨#[]⟩, .string ⟨#[107]⟩, .slice none 0 0, .string ⟨#[108, 105, 116]⟩, .int .i64 1, .int .i64 3, .string ⟨#[]⟩, .string ⟨#[]⟩, .slice none 0 0] 29)) w') := Lib.hid (by
    refine Calls.mono (where_any ⟨#[116]⟩ (some ⟨b, 0, none⟩) 1 1 0 none 0 0 none 0 0 ⟨#[]⟩ 0 0 ⟨#[]⟩ ⟨#[]⟩ none 0 0 (some a) 3 rc [kN7] [one7 1, one7 2, one7 3] (fun _ => False) ⟨#[60]⟩ 0 0 ⟨#[]⟩ ⟨#[]⟩ (some ⟨w2.heap.size, 0, none⟩) 2 2 [colT ⟨#[107]⟩, litT ⟨1, 3, ⟨#[]⟩⟩] (fun _ => True) 1 _ (H2.out.1.2.1.below HW2.out) (fun e => by cases e) (H2.out.1.2.2.below HW2.out) (tr7 w2 rfl)) ?_
    rintro e w' ⟨A', n', c', he, h1, h2, h3⟩
    rw [show (Ex.mk ⟨#[60]⟩ ⟨0, 0, ⟨#[]⟩⟩ ⟨#[]⟩ [colT ⟨#[107]⟩, litT ⟨1, 3, ⟨#[]⟩⟩]) = lt7 from rfl, where7] at he h2
    obtain rfl : 2 = n' := h2.1
    exact ⟨A', c', he, h2, h3⟩)
  go_upto_region 3 with (first
    | (refine wpList_load_row rfl 34 (.tmp 1) rfl w1.heap.size rfl 34 #[.string ⟨#[116]⟩, .slice (some ⟨b, 0, none⟩) 1 1, .int .i64 0, .slice none 0 0, .slice none 0 0, .string ⟨#[]⟩, .int .i64 0, .int .i64 0, .string ⟨#[]⟩, .string ⟨#[]⟩, .slice none 0 0, .slice (some a) 3 rc] (0, 0) _ H2.out.2 Tryz.underlying34 rfl relSize ?_)
    | (go_at_call 14; (with_reducible refine HWH.out.mono ?_); rintro e w3 ⟨A3, c3, rfl, k1, hb3⟩; have H3 := Lib.hid (And.intro k1 (HW2.out.trans (hb3.mono HW2.out.size))); clear k1 hb3))
  refine wp_gen (fun W => (Below w.heap.size w W ∧ ColS W (some ⟨b, 0, none⟩) 1 [kN7] ∧ RowsAt W (fun _ => False) (some a) 3 [one7 1, one7 2, one7 3]) ∧ RowsAt W (fun _ => False) A3 2 [one7 1, one7 2] ∧ W.heap[w1.heap.size]? = some (.cells #[.string ⟨#[116]⟩, .slice (some ⟨b, 0, none⟩) 1 1, .int .i64 0, .slice none 0 0, .slice none 0 0, .string ⟨#[]⟩, .int .i64 0, .int .i64 0, .string ⟨#[]⟩, .string ⟨#[]⟩, .slice none 0 0, .slice (some a) 3 rc] 34 (0, 0))) ⟨⟨H2.out.1.1.trans (H3.out.2.mono H2.out.1.1.size), H2.out.1.2.1.below H3.out.2, H2.out.1.2.2.below H3.out.2⟩, H3.out.1, (H3.out.2.block _ hz2).trans H2.out.2⟩ fun w4 hw4 => ?_
  have H4 := Lib.hid hw4
  have g0 := Lib.cell_of_heap hw4.2.2 0
  have g1 := Lib.cell_of_heap hw4.2.2 1
  have g2 := Lib.cell_of_heap hw4.2.2 2
  have g3 := Lib.cell_of_heap hw4.2.2 3
  have g4 := Lib.cell_of_heap hw4.2.2 4
  have g5 := Lib.cell_of_heap hw4.2.2 5
  have g6 := Lib.cell_of_heap hw4.2.2 6
  have g7 := Lib.cell_of_heap hw4.2.2 7
  have g8 := Lib.cell_of_heap hw4.2.2 8
  have g9 := Lib.cell_of_heap hw4.2.2 9
  have g10 := Lib.cell_of_heap hw4.2.2 10
  have g11 := Lib.cell_of_heap hw4.2.2 11
  simp only [List.getElem?_toArray, List.getElem?_cons_zero, List.getElem?_cons_succ] at g0 g1 g2 g3 g4 g5 g6 g7 g8 g9 g10 g11
  have hz4 := lt_of_block hw4.2.2
  clear hw4 HWH HW2 H2 H3 hz2
  have hrc : 2 ≤ rc := by omega
  have HA2 : Hid (RowsAt w4 (fun _ => False) (some a) 2 [one7 1, one7 2]) := Lib.hid ⟨rfl, by omega, fun j hj => by
    have hj' : j < 2 := hj
    obtain ⟨a', D, m, c, e, h1, h2, h3, h4, h5⟩ := H4.out.1.2.2.2.2 j (by show j < 3; omega)
    refine ⟨a', D, m, c, e, h1, h2, h3, ?_, h5⟩
    rcases (show j = 0 ∨ j = 1 by omega) with rfl | rfl <;> exact h4⟩
  have HSR : Hid (∀ W, Below w4.heap.size w4 W → Calls Tryz.prog 16 #[.slice A3 2 c3, .slice (some a) 2 rc] W fun e w' => e = .returned (.bool true) ∧ Below W.heap.size W w') := Lib.hid fun W hW => sameRows_eq (fun _ => False) (fun _ => False) A3 2 c3 (some a) rc [one7 1, one7 2] W (H4.out.2.1.below hW) (HA2.out.below hW)
  have HFD : Hid (∀ W, Below w4.heap.size w4 W → Calls Tryz.prog 39 #[.agg #[.string ⟨#[116]⟩, .slice (some ⟨b, 0, none⟩) 1 1, .int .i64 0, .slice none 0 0, .slice none 0 0, .string ⟨#[]⟩, .int .i64 0, .int .i64 0, .string ⟨#[]⟩, .string ⟨#[]⟩, .slice none 0 0, .slice (some a) 3 rc], .agg #[.int .i64 1, .int .i64 2, .string ⟨#[]⟩]] W fun e w' => e = .returned (.int .i64 1) ∧ Below W.heap.size W w') := Lib.hid fun W hW => by
    have h := find_any ⟨#[116]⟩ (some ⟨b, 0, none⟩) 1 1 0 none 0 0 none 0 0 ⟨#[]⟩ 0 0 ⟨#[]⟩ ⟨#[]⟩ none 0 0 (some a) 3 rc [kN7] [] [] [] (fun _ => True) 0 [one7 1, one7 2, one7 3] (fun _ => False) ⟨1, 2, ⟨#[]⟩⟩ 0 W rfl (tbs7 (H4.out.1.2.1.below hW)) (H4.out.1.2.2.below hW) table7
    rw [find7] at h
    exact h
  have HCA : Hid (∀ W, Below w4.heap.size w4 W → Calls Tryz.prog 40 #[.agg #[.string ⟨#[116]⟩, .slice (some ⟨b, 0, none⟩) 1 1, .int .i64 0, .slice none 0 0, .slice none 0 0, .string ⟨#[]⟩, .int .i64 0, .int .i64 0, .string ⟨#[]⟩, .string ⟨#[]⟩, .slice none 0 0, .slice (some a) 3 rc]] W fun e w' => e = .returned (.int .i64 0) ∧ Below W.heap.size W w') := Lib.hid fun W hW => by
    have h := rcheck_any ⟨#[116]⟩ (some ⟨b, 0, none⟩) 1 1 0 none 0 0 none 0 0 ⟨#[]⟩ 0 0 ⟨#[]⟩ ⟨#[]⟩ none 0 0 (some a) 3 rc [kN7] [] [] [] (fun _ => True) 0 [one7 1, one7 2, one7 3] (fun _ => False) 0 W rfl (tbs7 (H4.out.1.2.1.below hW)) (H4.out.1.2.2.below hW)
    rw [rel7a] at h
    exact h
  have HCB : Hid (∀ (W : World) (b2 rc2 : Nat) (RA : Option Addr), ColS W (some ⟨b2, 0, none⟩) 1 [kN7] → RowsAt W (fun _ => False) RA 3 [one7 1, one7 2, one7 2] → Calls Tryz.prog 40 #[.agg #[.string ⟨#[116]⟩, .slice (some ⟨b2, 0, none⟩) 1 1, .int .i64 0, .slice none 0 0, .slice none 0 0, .string ⟨#[]⟩, .int .i64 0, .int .i64 0, .string ⟨#[]⟩, .string ⟨#[]⟩, .slice none 0 0, .slice RA 3 rc2]] W fun e w' => e = .returned (.int .i64 7) ∧ Below W.heap.size W w') := Lib.hid fun W b2 rc2 RA hc hr => by
    have h := rcheck_any ⟨#[116]⟩ (some ⟨b2, 0, none⟩) 1 1 0 none 0 0 none 0 0 ⟨#[]⟩ 0 0 ⟨#[]⟩ ⟨#[]⟩ none 0 0 RA 3 rc2 [kN7] [] [] [] (fun _ => True) 0 [one7 1, one7 2, one7 2] (fun _ => False) 0 W rfl (tbs7 hc) hr
    rw [rel7b] at h
    exact h
  go_wp2_with (first
    | (go_at_call 16; (with_reducible refine (HSR.out _ (Below.refl _ _)).mono ?_); rintro e w5 ⟨rfl, hb5⟩; have HB5 := Lib.hid hb5; have hc5 := (bcell hb5).1; have hy5 := hb5.size; have hz5 : w1.heap.size < w5.heap.size := (by omega); clear hb5)
    | (go_at_call 39; (with_reducible refine (HFD.out _ HB5.out).mono ?_); rintro e w6 ⟨rfl, hb6⟩; have HB6 := Lib.hid (HB5.out.trans (hb6.mono HB5.out.size)); have hc6 := (bcell hb6).1; have hy6 := hb6.size; have hz6 : w1.heap.size < w6.heap.size := (by omega); clear hb6)
    | (go_at_call 40; (with_reducible refine (HCA.out _ HB6.out).mono ?_); rintro e w7 ⟨rfl, hb7⟩; have HB7 := Lib.hid (HB6.out.trans (hb7.mono HB6.out.size)); clear hb7)
    | (go_at_call 38; (with_reducible refine (some_any ⟨w7.heap.size, 0, none⟩ 3 3 [1, 2, 2] _ rfl (by omega) (ints3 w7 1 2 2 _)).mono ?_); rintro e w8 ⟨b2, RA2, rc2, rfl, k1, k2, k4, k3, hb8⟩; have H8 := Lib.hid (And.intro k1 (And.intro k3 ((HB7.out.alloc HB7.out.size _).trans (hb8.mono (by have := HB7.out.size; simp; omega))))); clear k1 k2 k3 k4 hb8)
    | (go_at_call 40; (with_reducible refine (HCB.out _ _ _ _ H8.out.1 H8.out.2.1).mono ?_); rintro e w9 ⟨rfl, hb9⟩; have HB9 := Lib.hid (H8.out.2.2.trans (hb9.mono H8.out.2.2.size)); clear hb9))
  go_ret
  exact ⟨rfl, H4.out.1.1.trans (HB9.out.mono H4.out.1.1.size)⟩
end Go.Proofs.YtmhkmliebhbkdaaGreat

/- Over rows that fit, a condition is TRUE, FALSE or NULL; whether two lists of rows are the same is told. -/
namespace Go.Proofs.YtmhkmliebhbkdaaGreat
open Go.RowKit Go.Lib

/-- What Where's having no error tells. -/
theorem where_ok {cols : List Cl} {rows : List (List Vl)} {t : Ex} (hop : ¬ t.op.toList = []) (h : (whereR cols rows t).2 = 0) : mayT t = true ∧ (∃ ty, typF cols 12 t = (ty, 0) ∧ (ty = 3 ∨ ty = 0)) ∧ (whereR cols rows t).1 = rows.filter fun r => trueB (evalF cols r 12 t) := by
  unfold whereR at h ⊢
  rw [if_neg hop] at h ⊢
  have hm : (typT cols t).2 = 0 → mayT t = true ∧ typT cols t = typF cols 12 t := fun h => by
    unfold typT at h ⊢
    split at h
    · exact ⟨by assumption, by rw [if_pos (by assumption)]⟩
    · simp at h
  split at h
  · rename_i h0
    obtain ⟨h1, h2⟩ := hm h0
    split at h
    · rename_i hty
      refine ⟨h1, ⟨(typT cols t).1, ?_, hty⟩, ?_⟩
      · rw [← h2]
        exact Prod.ext rfl h0
      · rw [if_pos h0, if_pos hty]
        unfold evalT
        simp only [h1, if_true]
    · simp at h
  · rename_i h0
    exact absurd h h0
end Go.Proofs.YtmhkmliebhbkdaaGreat

/- The law RelTruths. -/
namespace Go.Proofs.YtmhkmliebhbkdaaGreat
open Go.RowKit Go.Lib

theorem det1_load_row {P : Program} {o : Oper} {a : Act} {w : World} (ty : TypeId) (x : Operand) (ho : o.op = .load ty x)
    (g : Nat) (hx : a.eval x = .pointer (some ⟨g, 0, none⟩)) (t : TypeId) (cs : Array Value) (fr : Nat × Nat) (d : TypeDesc) (hg : w.heap[g]? = some (.cells cs t fr))
    (hu : P.underlying ty = some d) (hd : (match d with | .struct _ | .array _ _ => true | _ => false) = true) (hi : (P.info? ty).map (·.size) = some cs.size) : Det1 P (.agg cs) w ((execOp a.eval o).run P w) := by
  unfold execOp
  simp only [ho, hx, Instr.loadAt, Instr.sureAddr, Sem.run_bind, Sem.run_pure, Result.andThen_ok, run_loadVar_row w g t ty cs fr d hg hu hd hi]
  exact Det1_same
theorem exSize7 : (Tryz.prog.info? 29).map (·.size) = some 6 := by kernel_rfl
theorem ex_one7 (o : ByteArray) (k i : Int) (vs s : ByteArray) (A : Option Addr) (n c : Nat) : (#[.string o, .int .i64 k, .int .i64 i, .string vs, .string s, .slice A n c] : Array Value).all (·.oneCell') = true := by simp [Value.oneCell']
def slcR (rows : List (List Vl)) (u : Value) (F : List Nat) (w : World) : Prop := F = [] ∧ ∃ A n c, u = .slice A n c ∧ RowsAt w (fun _ => False) A n rows
theorem RowsAt.row7 {W : World} {g B1 : Nat} {A : Option Addr} {n : Nat} {rows : List (List Vl)} (h : RowsAt W (fun b => b < B1) A n rows) (hA : ∀ a, A = some a → n = 0 ∨ B1 ≤ a.block) (hg : g < B1) (cs : Array Value) : RowsAt (W.setRow g cs) (fun b => b < B1) A n rows :=
  ⟨h.1, h.2.1, fun j hj => by
    obtain ⟨a, D, m, c, e, hc, h1, h2, h3, h4⟩ := h.2.2 j hj
    have hn := h.1
    refine ⟨a, D, m, c, e, ?_, h1, h2, ?_, h4⟩
    · rcases hA a e with h0 | h0
      · omega
      · exact (World.cell?_of_block (w := W) (a := a.add j) (setRow_other _ _ _ _ (by rw [add_block]; omega))).trans hc
    · exact h3.same (by rw [setRow_size]; exact Nat.le_refl _) fun a' e' => (h4 a' e').imp id fun k => setRow_other _ _ _ _ (by omega)⟩
theorem slcR.len {rows : List (List Vl)} {A : Option Addr} {n c : Nat} {F : List Nat} {w : World} (h : slcR rows (.slice A n c) F w) : rows.length = n ∧ RowsAt w (fun _ => False) A n rows := by
  obtain ⟨_, A', n', c', e, h2⟩ := h
  injection e with e1 e2 e3
  subst e1 e2 e3
  exact ⟨h2.1, h2⟩
end Go.Proofs.YtmhkmliebhbkdaaGreat

/- The law RelParts. -/
namespace Go.Proofs.YtmhkmliebhbkdaaGreat
open Go.RowKit Go.Lib

theorem RelR.below {W W' : World} {B1 : Nat} {v : Value} {rows0 : List (List Vl)} (h : RelR W B1 v rows0) (hb : Below W.heap.size W W') : RelR W' B1 v rows0 := by
  obtain ⟨nm', A', n', c', key', U', m', cu', R', p', cr', op', k', i', vs', s', B', q', d', cols', us', rs', l', Ar', nr', ca', rows', e, t1, t2, t3, t4, t5, t6, t7, t8, t9, t10⟩ := h
  exact ⟨nm', A', n', c', key', U', m', cu', R', p', cr', op', k', i', vs', s', B', q', d', cols', us', rs', l', Ar', nr', ca', rows', e, t1.below hb, t2, t3, t4, t5, t6, t7.below hb, t8, t9, t10⟩
theorem RelR.less {W : World} {B1 B2 : Nat} {v : Value} {rows0 : List (List Vl)} (h : RelR W B1 v rows0) (hb : B2 ≤ B1) : RelR W B2 v rows0 := by
  obtain ⟨nm', A', n', c', key', U', m', cu', R', p', cr', op', k', i', vs', s', B', q', d', cols', us', rs', l', Ar', nr', ca', rows', e, t1, t2, t3, t4, t5, t6, t7, t8, t9, t10⟩ := h
  exact ⟨nm', A', n', c', key', U', m', cu', R', p', cr', op', k', i', vs', s', B', q', d', cols', us', rs', l', Ar', nr', ca', rows', e, ⟨t1.hcols, t1.cap, t1.hus, t1.hrs, t1.chk.keep (fun _ _ _ => rfl) (fun b hb' _ => Nat.le_trans hb hb'), t1.len, t1.hnm, t1.nc, t1.nr⟩, fun a e => (t2 a e).imp id (Nat.le_trans hb), fun a e => (t3 a e).imp id (Nat.le_trans hb), fun a e => (t4 a e).imp id (Nat.le_trans hb), t5, t6, t7.any (fun b _ h => Nat.lt_of_lt_of_le h hb), fun a e => (t8 a e).imp id (Nat.le_trans hb), t9, t10⟩
theorem relR_at {W : World} {B1 : Nat} {rows0 : List (List Vl)} {nm' : ByteArray} {A' : Option Addr} {n' c' : Nat} {key' : Int} {U' : Option Addr} {m' cu' : Nat} {R' : Option Addr} {p' cr' : Nat} {op' : ByteArray} {k' i' : Int} {vs' s' : ByteArray} {B' : Option Addr} {q' d' : Nat} {Ar' : Option Addr} {nr' ca' : Nat} (h : RelR W B1 (.agg #[.string nm', .slice A' n' c', .int .i64 key', .slice U' m' cu', .slice R' p' cr', .string op', .int .i64 k', .int .i64 i', .string vs', .string s', .slice B' q' d', .slice Ar' nr' ca']) rows0) : ∃ (cols' : List Cl) (us' : List Int) (rs' : List Rf) (l' : List Ex) (rows' : List (List Vl)), TbS W nm' A' n' c' key' U' m' cu' R' p' cr' op' k' i' vs' s' B' q' d' cols' us' rs' l' (fun b => B1 ≤ b) 14 ∧ (∀ a, A' = some a → n' = 0 ∨ B1 ≤ a.block) ∧ (∀ a, U' = some a → m' = 0 ∨ B1 ≤ a.block) ∧ (∀ a, R' = some a → p' = 0 ∨ B1 ≤ a.block) ∧ nilOk Ar' nr' ca' ∧ RowsAt W (fun b => b < B1) Ar' nr' rows' ∧ (∀ a, Ar' = some a → nr' = 0 ∨ B1 ≤ a.block) ∧ okT (.mk op' ⟨k', i', vs'⟩ s' l') ∧ rows' = (rows0.take nr').map fewL := by
  obtain ⟨nm2, A2, n2, c2, key2, U2, m2, cu2, R2, p2, cr2, op2, k2, i2, vs2, s2, B2, q2, d2, cols2, us2, rs2, l2, Ar2, nr2, ca2, rows2, h1, t1, t2, t3, t4, t5, t6, t7, t8, t9, t10⟩ := h
  injection h1 with e
  simp only [Array.mk.injEq, List.cons.injEq, Value.string.injEq, Value.int.injEq, Value.slice.injEq, true_and, and_true] at e
  obtain ⟨e1, ⟨e2, e3, e4⟩, e5, ⟨e6, e7, e8⟩, ⟨e9, e10, e11⟩, e12, e13, e14, e15, e16, ⟨e17, e18, e19⟩, e20, e21, e22⟩ := e
  subst e1 e2 e3 e4 e5 e6 e7 e8 e9 e10 e11 e12 e13 e14 e15 e16 e17 e18 e19 e20 e21 e22
  exact ⟨cols2, us2, rs2, l2, rows2, t1, t2, t3, t4, t5, t7, t8, t9, t10⟩
def relRl (B0 : Nat) (rows0 : List (List Vl)) (v : Value) (F : List Nat) (w : World) : Prop := F = [] ∧ RelR w B0 v rows0
theorem relRl_lasting {B0 : Nat} {rows0 : List (List Vl)} : ∀ u F, Lasting (relRl B0 rows0 u F) := fun _ _ _ _ hb h => ⟨h.1, h.2.below hb⟩
theorem relRl_enter {P : Program} {w : World} {f : FuncId} {args : Array Value} {B0 : Nat} {rows0 : List (List Vl)} (h : Calls P f args w fun e w' => (∃ v, e = .returned v ∧ RelR w' w.heap.size v rows0) ∧ Below w.heap.size w w') (hb0 : B0 ≤ w.heap.size) : Rel1 P (relRl B0 rows0) w (.ok (.enter f args) w) :=
  Calls.mono h fun e w' ⟨⟨v, h1, h2⟩, hb⟩ => ⟨v, [], h1, ⟨rfl, h2.less hb0⟩, (fun b hb' => by cases hb'), hb⟩
/-- A slice of one row. -/
def nsX (row : List Vl) (u : Value) (F : List Nat) (w : World) : Prop := ∃ b D m c, F = [b] ∧ u = .slice (some ⟨b, 0, none⟩) 1 1 ∧ w.heap[b]? = some (.cells #[.slice D m c] 47 (0, 0)) ∧ nilOk D m c ∧ m ≤ 1000 ∧ Vals w w.heap.size D m row
theorem nsX.rows {w : World} {row : List Vl} {b : Nat} {F : List Nat} (h : nsX row (.slice (some ⟨b, 0, none⟩) 1 1) F w) : RowsAt w (fun _ => False) (some ⟨b, 0, none⟩) 1 [row] := by
  obtain ⟨b', D, m, c, _, e, h3, h4, h5, h6⟩ := h
  injection e with e
  injection e with e
  injection e with e
  subst e
  refine ⟨rfl, by omega, fun j hj => ?_⟩
  obtain rfl : j = 0 := by have : j < 1 := hj; omega
  refine ⟨_, D, m, c, rfl, ?_, h4, h5, h6, fun _ _ => .inr (fun h => h)⟩
  rw [show (⟨b, 0, none⟩ : Addr).add 0 = ⟨b, 0, none⟩ from rfl]
  exact (Lib.cell_of_heap h3 0).trans rfl
end Go.Proofs.YtmhkmliebhbkdaaGreat

/- The law RelBoth. -/
namespace Go.Proofs.YtmhkmliebhbkdaaGreat
open Go.RowKit Go.Lib

theorem says_2 (v : Vl) : trueB v = decide (saysN v.k v.i v.s = 2) := (is_2_iff v.k v.i v.s).symm
theorem true_tri (m : Int) : trueB (triV m) = decide (m = 2) := by
  unfold trueB triV triK triI
  by_cases h1 : m = 1
  · subst h1
    simp
  · by_cases h2 : m = 2
    · subst h2
      simp [nilBytes]
    · simp [h1, h2]
theorem true_and7 (x y : Vl) : trueB (andV x y) = (trueB x && trueB y) := by
  unfold andV
  rw [true_tri, says_2, says_2]
  have h1 := saysN_bd x.k x.i x.s
  have h2 := saysN_bd y.k y.i y.s
  generalize saysN x.k x.i x.s = p at h1 ⊢
  generalize saysN y.k y.i y.s = q at h2 ⊢
  unfold minN
  rw [Bool.eq_iff_iff]
  simp only [decide_eq_true_eq, Bool.and_eq_true]
  split <;> omega
theorem true_or7 (x y : Vl) : trueB (orV x y) = (trueB x || trueB y) := by
  unfold orV
  rw [true_tri, says_2, says_2]
  have h1 := saysN_bd x.k x.i x.s
  have h2 := saysN_bd y.k y.i y.s
  generalize saysN x.k x.i x.s = p at h1 ⊢
  generalize saysN y.k y.i y.s = q at h2 ⊢
  unfold maxN
  rw [Bool.eq_iff_iff]
  simp only [decide_eq_true_eq, Bool.or_eq_true]
  split <;> omega
theorem count_or (p q : List Vl → Bool) : ∀ (rows : List (List Vl)), (rows.filter fun r => p r || q r).length + (rows.filter fun r => p r && q r).length = (rows.filter p).length + (rows.filter q).length
  | [] => rfl
  | x :: l => by
    have h := count_or p q l
    simp only [List.filter_cons]
    cases hp : p x <;> cases hq : q x <;> simp <;> omega
/-- Over both, and over one of both. -/
theorem both_rows {cols : List Cl} {rows : List (List Vl)} {e g : Ex} (he : ¬ e.op.toList = []) (hg : ¬ g.op.toList = []) (h1 : (whereR cols rows e).2 = 0) (h2 : (whereR cols (whereR cols rows e).1 g).2 = 0) (h3 : (whereR cols rows (twoT ⟨#[97, 110, 100]⟩ e g)).2 = 0) (h4 : (whereR cols rows (twoT ⟨#[111, 114]⟩ e g)).2 = 0) (h5 : (whereR cols rows g).2 = 0) :
    (whereR cols (whereR cols rows e).1 g).1 = (whereR cols rows (twoT ⟨#[97, 110, 100]⟩ e g)).1 ∧ (whereR cols rows (twoT ⟨#[111, 114]⟩ e g)).1.length + (whereR cols rows (twoT ⟨#[97, 110, 100]⟩ e g)).1.length = (whereR cols rows e).1.length + (whereR cols rows g).1.length := by
  obtain ⟨m1, _, e1⟩ := where_ok he h1
  obtain ⟨m2, _, e2⟩ := where_ok hg h2
  obtain ⟨m3, _, e3⟩ := where_ok (t := twoT ⟨#[97, 110, 100]⟩ e g) (by show ¬ (⟨#[97, 110, 100]⟩ : ByteArray).toList = []; rw [toList_data]; simp) h3
  obtain ⟨m4, _, e4⟩ := where_ok (t := twoT ⟨#[111, 114]⟩ e g) (by show ¬ (⟨#[111, 114]⟩ : ByteArray).toList = []; rw [toList_data]; simp) h4
  obtain ⟨m5, _, e5⟩ := where_ok hg h5
  have ta : (⟨#[97, 110, 100]⟩ : ByteArray).toList = [97, 110, 100] := by rw [toList_data]
  have tor : (⟨#[111, 114]⟩ : ByteArray).toList = [111, 114] := by rw [toList_data]
  have v3 : ∀ r, trueB (evalF cols r 12 (twoT ⟨#[97, 110, 100]⟩ e g)) = (trueB (evalF cols r 12 e) && trueB (evalF cols r 12 g)) := fun r => by
    rw [two_val cols r _ e g m3 (by rw [ta]; decide) (by rw [ta]; decide), ta]
    exact true_and7 _ _
  have v4 : ∀ r, trueB (evalF cols r 12 (twoT ⟨#[111, 114]⟩ e g)) = (trueB (evalF cols r 12 e) || trueB (evalF cols r 12 g)) := fun r => by
    rw [two_val cols r _ e g m4 (by rw [tor]; decide) (by rw [tor]; decide), tor]
    exact true_or7 _ _
  rw [e2, e3, e4, e5, e1]
  simp only [v3, v4]
  refine ⟨?_, count_or _ _ rows⟩
  rw [List.filter_filter]
  congr 1
  funext r
  exact Bool.and_comm _ _
end Go.Proofs.YtmhkmliebhbkdaaGreat

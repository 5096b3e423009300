import Derived.Test.YtmhkmliebhbkdaaGreatW21
import Derived.Test.YtmhkmliebhbkdaaGreatW28
import Derived.Test.YtmhkmliebhbkdaaGreatW12
import Derived.Test.YtmhkmliebhbkdaaGreatW20

/- The law's example. -/
namespace Go.Proofs.YtmhkmliebhbkdaaGreat
open Go.RowKit Go.Lib

theorem ints3 (w : World) (x y z : Int) (t : TypeId) : ∀ j (h : j < [x, y, z].length), (w.alloc (.cells #[.int .i64 x, .int .i64 y, .int .i64 z] t)).cell? ((⟨w.heap.size, 0, none⟩ : Addr).add j) = some (.int .i64 [x, y, z][j]) := fun j h => by
  have h : j < 3 := h
  rcases (show j = 0 ∨ j = 1 ∨ j = 2 by omega) with rfl | rfl | rfl <;> simp [go_sem, Addr.add]
def one7 (x : Int) : List Vl := [⟨1, x, ⟨#[]⟩⟩]
def lt7 : Ex := twoT ⟨#[60]⟩ (colT ⟨#[107]⟩) (litT ⟨1, 3, ⟨#[]⟩⟩)
theorem where7 : whereR [kN7] [one7 1, one7 2, one7 3] lt7 = ([one7 1, one7 2], 0) := by kernel_rfl
theorem rel7a : relI 1 ⟨#[116]⟩ 0 [kN7] [] [] (.mk ⟨#[]⟩ ⟨0, 0, ⟨#[]⟩⟩ ⟨#[]⟩ []) 3 [one7 1, one7 2, one7 3] = 0 := by kernel_rfl
theorem rel7b : relI 1 ⟨#[116]⟩ 0 [kN7] [] [] (.mk ⟨#[]⟩ ⟨0, 0, ⟨#[]⟩⟩ ⟨#[]⟩ []) 3 [one7 1, one7 2, one7 2] = 7 := by kernel_rfl
theorem table7 : tableB 1 ⟨#[116]⟩ 0 [kN7] [] [] (.mk ⟨#[]⟩ ⟨0, 0, ⟨#[]⟩⟩ ⟨#[]⟩ []) = true := by kernel_rfl
theorem find7 : idxP (firstP 0 ⟨1, 2, ⟨#[]⟩⟩) [one7 1, one7 2, one7 3] 0 = 1 := by kernel_rfl
theorem tr7 (W : World) {n : Nat} (hn : W.heap.size = n) : Tr (W.alloc (.cells #[.string ⟨#[99, 111, 108]⟩, .int .i64 0, .int .i64 0, .string ⟨#[]⟩, .string ⟨#[107]⟩, .slice none 0 0, .string ⟨#[108, 105, 116]⟩, .int .i64 1, .int .i64 3, .string ⟨#[]⟩, .string ⟨#[]⟩, .slice none 0 0] 29)) (fun _ => True) 1 lt7 (.slice (some ⟨n, 0, none⟩) 2 2) := by
  subst hn
  exact two_tr (x := colT ⟨#[107]⟩) (y := litT ⟨1, 3, ⟨#[]⟩⟩) ⟨#[60]⟩ (leaf_tr W _ 0 _ _ _ (by decide)) (leaf_tr W _ 0 _ _ _ (by decide)) trivial
theorem tbs7 {W : World} {b : Nat} (h : ColS W (some ⟨b, 0, none⟩) 1 [kN7]) : TbS W ⟨#[116]⟩ (some ⟨b, 0, none⟩) 1 1 0 none 0 0 none 0 0 ⟨#[]⟩ 0 0 ⟨#[]⟩ ⟨#[]⟩ none 0 0 [kN7] [] [] [] (fun _ => True) 0 where
  hcols := h
  cap := Nat.le_refl _
  hus := ⟨rfl, by unfold maxLen; omega, fun j hj => absurd hj (by simp)⟩
  hrs := ⟨rfl, by unfold maxLen; omega, fun j hj => absurd hj (by simp)⟩
  chk := leaf_tr W _ 0 _ _ _ (by decide)
  len := rfl
  hnm := by decide
  nc := fun y hy => by
    obtain rfl : y = kN7 := by simpa using hy
    decide
  nr := fun y hy => by cases hy
set_option maxRecDepth 100000 in
set_option maxHeartbeats 4000000 in
theorem awake7_any (w : World) : Calls Tryz.prog 17 #[] w fun e w' => e = .returned (.bool true) ∧ Below w.heap.size w w' := by
  go_enter Tryz.func17, Tryz.ntmps17
  go_upto_region 1 with (fail)
  go_upto_region 2 with (first
    | (go_at_call 38; (with_reducible refine (some_any ⟨w.heap.size, 0, none⟩ 3 3 [1, 2, 3] _ rfl (by omega) (ints3 w 1 2 3 _)).mono ?_); rintro e w1 ⟨b, RA, rc, rfl, k1, k2, k4, k3, hb1⟩; have H1 := Lib.hid (And.intro k1 (And.intro k2 (And.intro k3 (((Below.refl _ _).alloc (Nat.le_refl _) _).trans (hb1.mono (by simp)))))); clear k1 k2 k3 hb1))
  obtain ⟨a, rfl⟩ : ∃ a, RA = some a := by
    obtain ⟨a, _, _, _, e, _⟩ := H1.out.2.2.1.2.2 0 (by simp)
    exact ⟨a, e⟩
  refine wp_gen (fun W => (Below w.heap.size w W ∧ ColS W (some ⟨b, 0, none⟩) 1 [kN7] ∧ RowsAt W (fun _ => False) (some a) 3 [one7 1, one7 2, one7 3]) ∧ W.heap[w1.heap.size]? = some (.cells #[.string ⟨#[116]⟩, .slice (some ⟨b, 0, none⟩) 1 1, .int .i64 0, .slice none 0 0, .slice none 0 0, .string ⟨#[]⟩, .int .i64 0, .int .i64 0, .string ⟨#[]⟩, .string ⟨#[]⟩, .slice none 0 0, .slice (some a) 3 rc] 34 (0, 0))) (by
    have hb : Below w1.heap.size w1 (w1.alloc (.cells #[.string ⟨#[116]⟩, .slice (some ⟨b, 0, none⟩) 1 1, .int .i64 0, .slice none 0 0, .slice none 0 0, .string ⟨#[]⟩, .int .i64 0, .int .i64 0, .string ⟨#[]⟩, .string ⟨#[]⟩, .slice none 0 0, .slice (some a) 3 rc] 34)) := (Below.refl _ _).alloc (Nat.le_refl _) _
    exact ⟨⟨H1.out.2.2.2.alloc H1.out.2.2.2.size _, H1.out.1.below hb, H1.out.2.2.1.below hb⟩, alloc_at rfl _⟩) fun w2 hw2 => ?_
  have H2 := Lib.hid hw2
  have hz2 := lt_of_block hw2.2
  clear hw2 H1
  have HW2 : Hid (Below w2.heap.size w2 (w2.alloc (.cells #[.string ⟨#[99, 111, 108]⟩, .int .i64 0, .int .i64 0, .string ⟨#[]⟩, .string ⟨#[107]⟩, .slice none 0 0, .string ⟨#[108, 105, 116]⟩, .int .i64 1, .int .i64 3, .string ⟨#[]⟩, .string ⟨#[]⟩, .slice none 0 0] 29))) := Lib.hid ((Below.refl _ _).alloc (Nat.le_refl _) _)
  have HWH : Hid (Calls Tryz.prog 14 #[.agg #[.string ⟨#[116]⟩, .slice (some ⟨b, 0, none⟩) 1 1, .int .i64 0, .slice none 0 0, .slice none 0 0, .string ⟨#[]⟩, .int .i64 0, .int .i64 0, .string ⟨#[]⟩, .string ⟨#[]⟩, .slice none 0 0, .slice (some a) 3 rc], .agg #[.string ⟨#[60]⟩, .int .i64 0, .int .i64 0, .string ⟨#[]⟩, .string ⟨#[]⟩, .slice (some ⟨w2.heap.size, 0, none⟩) 2 2]] (w2.alloc (.cells #[.string ⟨#[99, 111, 108]⟩, .int .i64 0, .int .i64 0, .string ⟨#[]⟩, .string ⟨#[107]⟩, .slice none 0 0, .string ⟨#[108, 105, 116]⟩, .int .i64 1, .int .i64 3, .string ⟨#[]⟩, .string ⟨#[]⟩, .slice none 0 0] 29)) fun e w' => ∃ A' c', e = .returned (.tuple #[.slice A' 2 c', .int .i64 0]) ∧ RowsAt w' (fun _ => False) A' 2 [one7 1, one7 2] ∧ Below (w2.alloc (.cells #[.string ⟨#[99, 111, 108]⟩, .int .i64 0, .int .i64 0, .string ⟨#[]⟩, .string ⟨#[107]⟩, .slice none 0 0, .string ⟨#[108, 105, 116]⟩, .int .i64 1, .int .i64 3, .string ⟨#[]⟩, .string ⟨#[]⟩, .slice none 0 0] 29)).heap.size (w2.alloc (.cells #[.string ⟨#[99, 111, 108]⟩, .int .i64 0, .int .i64 0, .string ⟨#[]⟩, .string ⟨#[107]⟩, .slice none 0 0, .string ⟨#[108, 105, 116]⟩, .int .i64 1, .int .i64 3, .string ⟨#[]⟩, .string ⟨#[]⟩, .slice none 0 0] 29)) w') := Lib.hid (by
    refine Calls.mono (where_any ⟨#[116]⟩ (some ⟨b, 0, none⟩) 1 1 0 none 0 0 none 0 0 ⟨#[]⟩ 0 0 ⟨#[]⟩ ⟨#[]⟩ none 0 0 (some a) 3 rc [kN7] [one7 1, one7 2, one7 3] (fun _ => False) ⟨#[60]⟩ 0 0 ⟨#[]⟩ ⟨#[]⟩ (some ⟨w2.heap.size, 0, none⟩) 2 2 [colT ⟨#[107]⟩, litT ⟨1, 3, ⟨#[]⟩⟩] (fun _ => True) 1 _ (H2.out.1.2.1.below HW2.out) (fun e => by cases e) (H2.out.1.2.2.below HW2.out) (tr7 w2 rfl)) ?_
    rintro e w' ⟨A', n', c', he, h1, h2, h3⟩
    rw [show (Ex.mk ⟨#[60]⟩ ⟨0, 0, ⟨#[]⟩⟩ ⟨#[]⟩ [colT ⟨#[107]⟩, litT ⟨1, 3, ⟨#[]⟩⟩]) = lt7 from rfl, where7] at he h2
    obtain rfl : 2 = n' := h2.1
    exact ⟨A', c', he, h2, h3⟩)
  go_upto_region 3 with (first
    | (refine wpList_load_row rfl 34 (.tmp 1) rfl w1.heap.size rfl 34 #[.string ⟨#[116]⟩, .slice (some ⟨b, 0, none⟩) 1 1, .int .i64 0, .slice none 0 0, .slice none 0 0, .string ⟨#[]⟩, .int .i64 0, .int .i64 0, .string ⟨#[]⟩, .string ⟨#[]⟩, .slice none 0 0, .slice (some a) 3 rc] (0, 0) _ H2.out.2 Tryz.underlying34 rfl relSize ?_)
    | (go_at_call 14; (with_reducible refine HWH.out.mono ?_); rintro e w3 ⟨A3, c3, rfl, k1, hb3⟩; have H3 := Lib.hid (And.intro k1 (HW2.out.trans (hb3.mono HW2.out.size))); clear k1 hb3))
  refine wp_gen (fun W => (Below w.heap.size w W ∧ ColS W (some ⟨b, 0, none⟩) 1 [kN7] ∧ RowsAt W (fun _ => False) (some a) 3 [one7 1, one7 2, one7 3]) ∧ RowsAt W (fun _ => False) A3 2 [one7 1, one7 2] ∧ W.heap[w1.heap.size]? = some (.cells #[.string ⟨#[116]⟩, .slice (some ⟨b, 0, none⟩) 1 1, .int .i64 0, .slice none 0 0, .slice none 0 0, .string ⟨#[]⟩, .int .i64 0, .int .i64 0, .string ⟨#[]⟩, .string ⟨#[]⟩, .slice none 0 0, .slice (some a) 3 rc] 34 (0, 0))) ⟨⟨H2.out.1.1.trans (H3.out.2.mono H2.out.1.1.size), H2.out.1.2.1.below H3.out.2, H2.out.1.2.2.below H3.out.2⟩, H3.out.1, (H3.out.2.block _ hz2).trans H2.out.2⟩ fun w4 hw4 => ?_
  have H4 := Lib.hid hw4
  have g0 := Lib.cell_of_heap hw4.2.2 0
  have g1 := Lib.cell_of_heap hw4.2.2 1
  have g2 := Lib.cell_of_heap hw4.2.2 2
  have g3 := Lib.cell_of_heap hw4.2.2 3
  have g4 := Lib.cell_of_heap hw4.2.2 4
  have g5 := Lib.cell_of_heap hw4.2.2 5
  have g6 := Lib.cell_of_heap hw4.2.2 6
  have g7 := Lib.cell_of_heap hw4.2.2 7
  have g8 := Lib.cell_of_heap hw4.2.2 8
  have g9 := Lib.cell_of_heap hw4.2.2 9
  have g10 := Lib.cell_of_heap hw4.2.2 10
  have g11 := Lib.cell_of_heap hw4.2.2 11
  simp only [List.getElem?_toArray, List.getElem?_cons_zero, List.getElem?_cons_succ] at g0 g1 g2 g3 g4 g5 g6 g7 g8 g9 g10 g11
  have hz4 := lt_of_block hw4.2.2
  clear hw4 HWH HW2 H2 H3 hz2
  have hrc : 2 ≤ rc := by omega
  have HA2 : Hid (RowsAt w4 (fun _ => False) (some a) 2 [one7 1, one7 2]) := Lib.hid ⟨rfl, by omega, fun j hj => by
    have hj' : j < 2 := hj
    obtain ⟨a', D, m, c, e, h1, h2, h3, h4, h5⟩ := H4.out.1.2.2.2.2 j (by show j < 3; omega)
    refine ⟨a', D, m, c, e, h1, h2, h3, ?_, h5⟩
    rcases (show j = 0 ∨ j = 1 by omega) with rfl | rfl <;> exact h4⟩
  have HSR : Hid (∀ W, Below w4.heap.size w4 W → Calls Tryz.prog 16 #[.slice A3 2 c3, .slice (some a) 2 rc] W fun e w' => e = .returned (.bool true) ∧ Below W.heap.size W w') := Lib.hid fun W hW => sameRows_eq (fun _ => False) (fun _ => False) A3 2 c3 (some a) rc [one7 1, one7 2] W (H4.out.2.1.below hW) (HA2.out.below hW)
  have HFD : Hid (∀ W, Below w4.heap.size w4 W → Calls Tryz.prog 39 #[.agg #[.string ⟨#[116]⟩, .slice (some ⟨b, 0, none⟩) 1 1, .int .i64 0, .slice none 0 0, .slice none 0 0, .string ⟨#[]⟩, .int .i64 0, .int .i64 0, .string ⟨#[]⟩, .string ⟨#[]⟩, .slice none 0 0, .slice (some a) 3 rc], .agg #[.int .i64 1, .int .i64 2, .string ⟨#[]⟩]] W fun e w' => e = .returned (.int .i64 1) ∧ Below W.heap.size W w') := Lib.hid fun W hW => by
    have h := find_any ⟨#[116]⟩ (some ⟨b, 0, none⟩) 1 1 0 none 0 0 none 0 0 ⟨#[]⟩ 0 0 ⟨#[]⟩ ⟨#[]⟩ none 0 0 (some a) 3 rc [kN7] [] [] [] (fun _ => True) 0 [one7 1, one7 2, one7 3] (fun _ => False) ⟨1, 2, ⟨#[]⟩⟩ 0 W rfl (tbs7 (H4.out.1.2.1.below hW)) (H4.out.1.2.2.below hW) table7
    rw [find7] at h
    exact h
  have HCA : Hid (∀ W, Below w4.heap.size w4 W → Calls Tryz.prog 40 #[.agg #[.string ⟨#[116]⟩, .slice (some ⟨b, 0, none⟩) 1 1, .int .i64 0, .slice none 0 0, .slice none 0 0, .string ⟨#[]⟩, .int .i64 0, .int .i64 0, .string ⟨#[]⟩, .string ⟨#[]⟩, .slice none 0 0, .slice (some a) 3 rc]] W fun e w' => e = .returned (.int .i64 0) ∧ Below W.heap.size W w') := Lib.hid fun W hW => by
    have h := rcheck_any ⟨#[116]⟩ (some ⟨b, 0, none⟩) 1 1 0 none 0 0 none 0 0 ⟨#[]⟩ 0 0 ⟨#[]⟩ ⟨#[]⟩ none 0 0 (some a) 3 rc [kN7] [] [] [] (fun _ => True) 0 [one7 1, one7 2, one7 3] (fun _ => False) 0 W rfl (tbs7 (H4.out.1.2.1.below hW)) (H4.out.1.2.2.below hW)
    rw [rel7a] at h
    exact h
  have HCB : Hid (∀ (W : World) (b2 rc2 : Nat) (RA : Option Addr), ColS W (some ⟨b2, 0, none⟩) 1 [kN7] → RowsAt W (fun _ => False) RA 3 [one7 1, one7 2, one7 2] → Calls Tryz.prog 40 #[.agg #[.string ⟨#[116]⟩, .slice (some ⟨b2, 0, none⟩) 1 1, .int .i64 0, .slice none 0 0, .slice none 0 0, .string ⟨#[]⟩, .int .i64 0, .int .i64 0, .string ⟨#[]⟩, .string ⟨#[]⟩, .slice none 0 0, .slice RA 3 rc2]] W fun e w' => e = .returned (.int .i64 7) ∧ Below W.heap.size W w') := Lib.hid fun W b2 rc2 RA hc hr => by
    have h := rcheck_any ⟨#[116]⟩ (some ⟨b2, 0, none⟩) 1 1 0 none 0 0 none 0 0 ⟨#[]⟩ 0 0 ⟨#[]⟩ ⟨#[]⟩ none 0 0 RA 3 rc2 [kN7] [] [] [] (fun _ => True) 0 [one7 1, one7 2, one7 2] (fun _ => False) 0 W rfl (tbs7 hc) hr
    rw [rel7b] at h
    exact h
  go_wp2_with (first
    | (go_at_call 16; (with_reducible refine (HSR.out _ (Below.refl _ _)).mono ?_); rintro e w5 ⟨rfl, hb5⟩; have HB5 := Lib.hid hb5; have hc5 := (bcell hb5).1; have hy5 := hb5.size; have hz5 : w1.heap.size < w5.heap.size := (by omega); clear hb5)
    | (go_at_call 39; (with_reducible refine (HFD.out _ HB5.out).mono ?_); rintro e w6 ⟨rfl, hb6⟩; have HB6 := Lib.hid (HB5.out.trans (hb6.mono HB5.out.size)); have hc6 := (bcell hb6).1; have hy6 := hb6.size; have hz6 : w1.heap.size < w6.heap.size := (by omega); clear hb6)
    | (go_at_call 40; (with_reducible refine (HCA.out _ HB6.out).mono ?_); rintro e w7 ⟨rfl, hb7⟩; have HB7 := Lib.hid (HB6.out.trans (hb7.mono HB6.out.size)); clear hb7)
    | (go_at_call 38; (with_reducible refine (some_any ⟨w7.heap.size, 0, none⟩ 3 3 [1, 2, 2] _ rfl (by omega) (ints3 w7 1 2 2 _)).mono ?_); rintro e w8 ⟨b2, RA2, rc2, rfl, k1, k2, k4, k3, hb8⟩; have H8 := Lib.hid (And.intro k1 (And.intro k3 ((HB7.out.alloc HB7.out.size _).trans (hb8.mono (by have := HB7.out.size; simp; omega))))); clear k1 k2 k3 k4 hb8)
    | (go_at_call 40; (with_reducible refine (HCB.out _ _ _ _ H8.out.1 H8.out.2.1).mono ?_); rintro e w9 ⟨rfl, hb9⟩; have HB9 := Lib.hid (H8.out.2.2.trans (hb9.mono H8.out.2.2.size)); clear hb9))
  go_ret
  exact ⟨rfl, H4.out.1.1.trans (HB9.out.mono H4.out.1.1.size)⟩
end Go.Proofs.YtmhkmliebhbkdaaGreat

/- Over rows that fit, a condition is TRUE, FALSE or NULL; whether two lists of rows are the same is told. -/
namespace Go.Proofs.YtmhkmliebhbkdaaGreat
open Go.RowKit Go.Lib

def Tri (v : Vl) : Prop := v = ⟨3, 1, ⟨#[]⟩⟩ ∨ v = ⟨3, 0, ⟨#[]⟩⟩ ∨ v = ⟨0, 0, ⟨#[]⟩⟩
theorem emp_of {s : ByteArray} (h : s.toList.isEmpty = true) : s = ⟨#[]⟩ := bytes_of (l := []) (by simpa using h)
theorem tri_may {k i : Int} {s : ByteArray} (h : mayB k i s = true) (hk : k = 0 ∨ k = 3) : Tri ⟨k, i, s⟩ := by
  rcases hk with rfl | rfl
  · unfold mayB at h
    rw [if_pos rfl] at h
    simp only [Bool.and_eq_true, decide_eq_true_eq] at h
    obtain ⟨rfl, h2⟩ := h
    rw [emp_of h2]
    exact .inr (.inr rfl)
  · unfold mayB at h
    rw [if_neg (by decide), if_neg (by decide), if_neg (by decide), if_pos rfl] at h
    simp only [Bool.and_eq_true, Bool.or_eq_true, decide_eq_true_eq] at h
    obtain ⟨h2, h3⟩ := h
    rw [emp_of h2]
    rcases h3 with rfl | rfl
    · exact .inr (.inl rfl)
    · exact .inl rfl
theorem tri_triV (m : Int) : Tri (triV m) := by
  unfold triV triK triI Tri
  by_cases h1 : m = 1
  · subst h1
    exact .inr (.inr rfl)
  · by_cases h2 : m = 2
    · subst h2
      exact .inl rfl
    · rw [if_neg h1, if_neg h2]
      exact .inr (.inl rfl)
theorem tri_b (b : Bool) : Tri ⟨3, b2i b, ⟨#[]⟩⟩ := by
  cases b
  · exact .inr (.inl rfl)
  · exact .inl rfl
theorem tri_eq (x y : Vl) : Tri (eqV x y) := by
  unfold eqV
  split
  · exact tri_b _
  · exact .inr (.inr rfl)
theorem tri_less (x y : Vl) : Tri (lessV x y) := by
  unfold lessV
  split
  · exact tri_b _
  · exact .inr (.inr rfl)
theorem parts_num {op : List UInt8} {rs : List (Int × Int)} {ty : Int} (ho : op = [43] ∨ op = [45]) (h : partsI op rs = (ty, 0)) : ty = 1 := by
  unfold partsI at h
  split at h
  · rename_i r hf
    have h1 := List.find?_some hf
    have h2 : r.2 = 0 := congrArg Prod.snd h
    simp [h2] at h1
  · unfold madeI at h
    rw [if_neg (by rcases ho with rfl | rfl <;> decide), if_pos ho] at h
    split at h
    · exact (congrArg Prod.fst h).symm
    · have h2 := congrArg Prod.snd h
      simp at h2
theorem tri_eval {cols : List Cl} {row : List Vl} {t : Ex} {ty : Int} (hm : mayT t = true) (ht : typF cols 12 t = (ty, 0)) (hty : ty = 3 ∨ ty = 0) (hl : row.length = cols.length) (h1 : ∀ j (h : j < row.length), mayB row[j].k row[j].i row[j].s = true) (h2 : ∀ j (h : j < row.length) (g : j < cols.length), row[j].k = 0 ∨ row[j].k = cols[j].t) : Tri (evalF cols row 12 t) := by
  have hw : fmT t = true := (wf_may hm).1
  have hf : fmB t.op t.x.k t.x.i t.x.s t.s t.l.length = true := hw
  rcases fm_cases hf with h | h | ⟨hn, h⟩ | ⟨hn, h⟩
  · rw [evalF_lit h]
    rw [typF_lit h] at ht
    have hk : t.x.k = ty := congrArg Prod.fst ht
    unfold fmB at hf
    rw [if_pos h] at hf
    unfold fmLit at hf
    simp only [Bool.and_eq_true] at hf
    exact tri_may hf.1 (by
      rcases hty with e | e
      · exact .inr (hk.trans e)
      · exact .inl (hk.trans e))
  · rw [evalF_col h]
    rw [typF_col h] at ht
    unfold colTy at ht
    unfold colV
    split at ht
    · rename_i hp
      rw [if_pos hp]
      rcases plF_bd (nm := t.s) cols 0 (Int.le_refl 0) with g | ⟨g1, g2⟩
      · omega
      · have hpl : (plF t.s cols 0).toNat < cols.length := by omega
        have hpr : (plF t.s cols 0).toNat < row.length := by omega
        rw [List.getElem?_eq_getElem hpr]
        rw [List.getElem?_eq_getElem hpl] at ht
        have hk : (cols[(plF t.s cols 0).toNat]).t = ty := congrArg Prod.fst ht
        exact tri_may (h1 _ hpr) (by
          rcases h2 _ hpr hpl with e | e
          · exact .inl e
          · rcases hty with g | g
            · exact .inr (e.trans (hk.trans g))
            · exact .inl (e.trans (hk.trans g)))
    · have h2 := congrArg Prod.snd ht
      simp at h2
  · obtain ⟨y, hy⟩ := len_one hn
    rcases h with h | h
    · rw [evalF_op h (by decide) (by decide), hy]
      exact tri_triV _
    · rw [evalF_op h (by decide) (by decide), hy]
      exact tri_b _
  · obtain ⟨y, z, hy⟩ := len_two hn
    rcases h with h | h | h | h | h | h
    · rw [evalF_op h (by decide) (by decide), hy]
      exact tri_triV _
    · rw [evalF_op h (by decide) (by decide), hy]
      exact tri_triV _
    · rw [evalF_op h (by decide) (by decide), hy]
      exact tri_eq _ _
    · rw [evalF_op h (by decide) (by decide), hy]
      exact tri_less _ _
    · rw [typF_op h (by decide) (by decide)] at ht
      have := parts_num (.inl rfl) ht
      omega
    · rw [typF_op h (by decide) (by decide)] at ht
      have := parts_num (.inr rfl) ht
      omega
def b2n (b : Bool) : Nat := if b then 1 else 0
theorem one_of {v : Vl} (h : Tri v) : b2n (trueB v) + b2n (trueB (notV v)) + b2n (trueB (isnV v)) = 1 := by
  rcases h with rfl | rfl | rfl <;> kernel_rfl
theorem count3 (p q r : List Vl → Bool) : ∀ (rows : List (List Vl)), (∀ x ∈ rows, b2n (p x) + b2n (q x) + b2n (r x) = 1) → (rows.filter p).length + (rows.filter q).length + (rows.filter r).length = rows.length
  | [], _ => rfl
  | x :: l, h => by
    have h1 := h x List.mem_cons_self
    have h2 := count3 p q r l fun y hy => h y (List.mem_cons_of_mem _ hy)
    simp only [List.filter_cons]
    unfold b2n at h1
    cases hp : p x <;> cases hq : q x <;> cases hr : r x <;> simp [hp, hq, hr] at h1 ⊢ <;> omega
/-- What Where's having no error tells. -/
theorem where_ok {cols : List Cl} {rows : List (List Vl)} {t : Ex} (hop : ¬ t.op.toList = []) (h : (whereR cols rows t).2 = 0) : mayT t = true ∧ (∃ ty, typF cols 12 t = (ty, 0) ∧ (ty = 3 ∨ ty = 0)) ∧ (whereR cols rows t).1 = rows.filter fun r => trueB (evalF cols r 12 t) := by
  unfold whereR at h ⊢
  rw [if_neg hop] at h ⊢
  have hm : (typT cols t).2 = 0 → mayT t = true ∧ typT cols t = typF cols 12 t := fun h => by
    unfold typT at h ⊢
    split at h
    · exact ⟨by assumption, by rw [if_pos (by assumption)]⟩
    · simp at h
  split at h
  · rename_i h0
    obtain ⟨h1, h2⟩ := hm h0
    split at h
    · rename_i hty
      refine ⟨h1, ⟨(typT cols t).1, ?_, hty⟩, ?_⟩
      · rw [← h2]
        exact Prod.ext rfl h0
      · rw [if_pos h0, if_pos hty]
        unfold evalT
        simp only [h1, if_true]
    · simp at h
  · rename_i h0
    exact absurd h h0
theorem one_nul (cols : List Cl) (row : List Vl) (e : Ex) (h : mayT (oneT ⟨#[110, 117, 108, 108]⟩ e) = true) :
    evalF cols row 12 (oneT ⟨#[110, 117, 108, 108]⟩ e) = isnV (evalF cols row 12 e) := by
  have hw := wf_may h
  have he : wfF 11 e := hw.2 _ (by simp [oneT, Ex.l])
  rw [evalF_op (show (oneT ⟨#[110, 117, 108, 108]⟩ e).op.toList = [110, 117, 108, 108] by show (⟨#[110, 117, 108, 108]⟩ : ByteArray).toList = _; rw [toList_data]) (by decide) (by decide)]
  show opF [110, 117, 108, 108] [evalF cols row 11 e] = _
  rw [← evalF_mono cols row 11 e he]
  rfl
/-- TRUE, FALSE and NULL part rows that fit. -/
theorem parts_rows {n : Nat} {cols : List Cl} {key : Int} {us : List Int} {tc : Ex} {rows : List (List Vl)} {t : Ex} (hc : cols.length = n) (hg : ∀ r ∈ rows, FitF n cols key us tc r) (hop : ¬ t.op.toList = []) (h1 : (whereR cols rows t).2 = 0) (h2 : (whereR cols rows (oneT ⟨#[110, 111, 116]⟩ t)).2 = 0) (h3 : (whereR cols rows (oneT ⟨#[110, 117, 108, 108]⟩ t)).2 = 0) :
    (whereR cols rows t).1.length + (whereR cols rows (oneT ⟨#[110, 111, 116]⟩ t)).1.length + (whereR cols rows (oneT ⟨#[110, 117, 108, 108]⟩ t)).1.length = rows.length ∧ ∀ r ∈ (whereR cols rows t).1, r ∈ rows := by
  obtain ⟨m1, ⟨ty, g1, g2⟩, e1⟩ := where_ok hop h1
  obtain ⟨m2, _, e2⟩ := where_ok (t := oneT ⟨#[110, 111, 116]⟩ t) (by show ¬ (⟨#[110, 111, 116]⟩ : ByteArray).toList = []; rw [toList_data]; simp) h2
  obtain ⟨m3, _, e3⟩ := where_ok (t := oneT ⟨#[110, 117, 108, 108]⟩ t) (by show ¬ (⟨#[110, 117, 108, 108]⟩ : ByteArray).toList = []; rw [toList_data]; simp) h3
  rw [e1, e2, e3]
  refine ⟨count3 _ _ _ rows fun r hr => ?_, fun r hr => (List.mem_filter.1 hr).1⟩
  obtain ⟨_, f1, f2, f3⟩ := hg r hr
  rw [one_val cols r t m2, one_nul cols r t m3]
  exact one_of (tri_eval m1 g1 g2 (by omega) f2 f3)
set_option maxRecDepth 100000 in
set_option maxHeartbeats 4000000 in
theorem rsameRows_any (X Y : Nat → Prop) (A : Option Addr) (n c : Nat) (A2 : Option Addr) (n2 c2 : Nat) (rows rows2 : List (List Vl)) (w : World) (h1 : RowsAt w X A n rows) (h2 : RowsAt w Y A2 n2 rows2) :
    Calls Tryz.prog 16 #[.slice A n c, .slice A2 n2 c2] w fun e w' => RetB e ∧ Below w.heap.size w w' := by
  have H1 := Lib.hid h1
  have H2 := Lib.hid h2
  have hn1 := h1.2.1
  have HL := Lib.hid h1.1
  have HL2 := Lib.hid h2.1
  have hn2 := h2.2.1
  clear h1 h2
  by_cases hnn : n2 = n
  rotate_left
  · have hq : ((n : Int) != (n2 : Int)) = true := by simp; omega
    have hq2 : (n != n2) = true := by simp; omega
    go_enter Tryz.func16, Tryz.ntmps16
    go_wp2_with (fail)
    all_goals go_ret
    all_goals exact ⟨⟨_, rfl⟩, Below.refl _ _⟩
  have hnn2 : n = n2 := hnn.symm
  subst hnn2
  clear hnn
  go_enter Tryz.func16, Tryz.ntmps16
  go_wp2_with (fail)
  go_loopw [5] (fun iv wr => ∃ j : Nat, iv = .int .i64 j ∧ j ≤ n ∧ Hid (Below w.heap.size w wr)) (fun iv _ => n - (intOf iv).toNat)
  case atStart => exact ⟨0, rfl, by omega, Lib.hid (Below.refl _ _)⟩
  case round =>
    obtain ⟨j, rfl, hj, HB⟩ := hrel
    by_cases hlt : j < n
    · have hjl : j < rows.length := by rw [HL.out]; exact hlt
      have hjl2 : j < rows2.length := by rw [HL2.out]; exact hlt
      obtain ⟨a, D, m, cd, e, hc, g1, g2, g3, _⟩ := (H1.out.below HB.out).2.2 j hjl
      subst e
      obtain ⟨a2, D2, m2, cd2, e, hc2, k1, k2, k3, _⟩ := (H2.out.below HB.out).2.2 j hjl2
      subst e
      have hl1 := World.block_lt_of_cell? wr _ hc
      have hl2 := World.block_lt_of_cell? wr _ hc2
      have HCC := Lib.hid (And.intro hc hc2)
      have HSA : Hid (∀ W, Below wr.heap.size wr W → Calls Tryz.prog 37 #[.slice D m cd, .slice D2 m2 cd2] W fun e w' => e = .returned (.bool (sameL rows[j] rows2[j])) ∧ Below W.heap.size W w') := Lib.hid fun W hW => same_any D m cd rows[j] D2 m2 cd2 rows2[j] W g2 k2 (g3.below hW) (k3.below hW)
      clear hc hc2 g1 g2 g3 k1 k2 k3
      generalize sameL rows[j] rows2[j] = b at HSA
      cases b
      · go_upto_region 6 with (fail)
        refine detL_begin [.val (.slice (some a) n c), .val (.int .i64 j), .val (.pointer (some (a.add j))), .val (.slice D m cd), .val (.slice (some a2) n c2), .val (.int .i64 j), .val (.pointer (some (a2.add j))), .val (.slice D2 m2 cd2), .val (.bool false), .val (.bool true)] 10 (by kernel_rfl) ?_
        refine detL_val (by kernel_rfl) (yields_of rfl fun w5 hb5 => ?_) ?_
        · have HBx := Lib.hid hb5
          clear hb5
          go_simp
          exact Det1_same
        simp only [Act.put, List.setIfInBounds_toArray, List.set_cons_zero, List.set_cons_succ]
        refine detL_val (by kernel_rfl) (yields_of rfl fun w5 hb5 => ?_) ?_
        · have HBx := Lib.hid hb5
          clear hb5
          go_simp
          exact Det1_same
        simp only [Act.put, List.setIfInBounds_toArray, List.set_cons_zero, List.set_cons_succ]
        refine detL_val (by kernel_rfl) (yields_of rfl fun w5 hb5 => ?_) ?_
        · have HBx := Lib.hid hb5
          clear hb5
          go_simp
          exact Det1_same
        simp only [Act.put, List.setIfInBounds_toArray, List.set_cons_zero, List.set_cons_succ]
        refine detL_val (by kernel_rfl) (yields_of rfl fun w5 hb5 => ?_) ?_
        · have HBx := Lib.hid hb5
          have m0 := (hb5.cell (p := a.add j) hl1).trans HCC.out.1
          clear hb5
          go_simp
          exact Det1_same
        simp only [Act.put, List.setIfInBounds_toArray, List.set_cons_zero, List.set_cons_succ]
        refine detL_val (by kernel_rfl) (yields_of rfl fun w5 hb5 => ?_) ?_
        · have HBx := Lib.hid hb5
          clear hb5
          go_simp
          exact Det1_same
        simp only [Act.put, List.setIfInBounds_toArray, List.set_cons_zero, List.set_cons_succ]
        refine detL_val (by kernel_rfl) (yields_of rfl fun w5 hb5 => ?_) ?_
        · have HBx := Lib.hid hb5
          clear hb5
          go_simp
          exact Det1_same
        simp only [Act.put, List.setIfInBounds_toArray, List.set_cons_zero, List.set_cons_succ]
        refine detL_val (by kernel_rfl) (yields_of rfl fun w5 hb5 => ?_) ?_
        · have HBx := Lib.hid hb5
          clear hb5
          go_simp
          exact Det1_same
        simp only [Act.put, List.setIfInBounds_toArray, List.set_cons_zero, List.set_cons_succ]
        refine detL_val (by kernel_rfl) (yields_of rfl fun w5 hb5 => ?_) ?_
        · have HBx := Lib.hid hb5
          have m0 := (hb5.cell (p := a2.add j) hl2).trans HCC.out.2
          clear hb5
          go_simp
          exact Det1_same
        simp only [Act.put, List.setIfInBounds_toArray, List.set_cons_zero, List.set_cons_succ]
        refine detL_val (by kernel_rfl) (yields_of rfl fun w5 hb5 => ?_) ?_
        · have HBx := Lib.hid hb5
          clear hb5
          go_simp
          exact Det1_enter (HSA.out w5 ((Below.refl _ _).drew.trans HBx.out))
        simp only [Act.put, List.setIfInBounds_toArray, List.set_cons_zero, List.set_cons_succ]
        refine detL_val (by kernel_rfl) (yields_of rfl fun w5 hb5 => ?_) ?_
        · have HBx := Lib.hid hb5
          clear hb5
          go_simp
          exact Det1_same
        simp only [Act.put, List.setIfInBounds_toArray, List.set_cons_zero, List.set_cons_succ]
        refine detL_done (by kernel_rfl) fun w6 hw6 => ?_
        have H6 : Hid (Below w.heap.size w w6) := HB.out.trans (((Below.refl _ _).drew.trans hw6.below).mono HB.out.size)
        clear hw6
        go_wp2_with (fail)
        go_ret
        exact ⟨⟨_, rfl⟩, H6.out⟩
      · go_upto_region 6 with (fail)
        refine detL_begin [.val (.slice (some a) n c), .val (.int .i64 j), .val (.pointer (some (a.add j))), .val (.slice D m cd), .val (.slice (some a2) n c2), .val (.int .i64 j), .val (.pointer (some (a2.add j))), .val (.slice D2 m2 cd2), .val (.bool true), .val (.bool false)] 10 (by kernel_rfl) ?_
        refine detL_val (by kernel_rfl) (yields_of rfl fun w5 hb5 => ?_) ?_
        · have HBx := Lib.hid hb5
          clear hb5
          go_simp
          exact Det1_same
        simp only [Act.put, List.setIfInBounds_toArray, List.set_cons_zero, List.set_cons_succ]
        refine detL_val (by kernel_rfl) (yields_of rfl fun w5 hb5 => ?_) ?_
        · have HBx := Lib.hid hb5
          clear hb5
          go_simp
          exact Det1_same
        simp only [Act.put, List.setIfInBounds_toArray, List.set_cons_zero, List.set_cons_succ]
        refine detL_val (by kernel_rfl) (yields_of rfl fun w5 hb5 => ?_) ?_
        · have HBx := Lib.hid hb5
          clear hb5
          go_simp
          exact Det1_same
        simp only [Act.put, List.setIfInBounds_toArray, List.set_cons_zero, List.set_cons_succ]
        refine detL_val (by kernel_rfl) (yields_of rfl fun w5 hb5 => ?_) ?_
        · have HBx := Lib.hid hb5
          have m0 := (hb5.cell (p := a.add j) hl1).trans HCC.out.1
          clear hb5
          go_simp
          exact Det1_same
        simp only [Act.put, List.setIfInBounds_toArray, List.set_cons_zero, List.set_cons_succ]
        refine detL_val (by kernel_rfl) (yields_of rfl fun w5 hb5 => ?_) ?_
        · have HBx := Lib.hid hb5
          clear hb5
          go_simp
          exact Det1_same
        simp only [Act.put, List.setIfInBounds_toArray, List.set_cons_zero, List.set_cons_succ]
        refine detL_val (by kernel_rfl) (yields_of rfl fun w5 hb5 => ?_) ?_
        · have HBx := Lib.hid hb5
          clear hb5
          go_simp
          exact Det1_same
        simp only [Act.put, List.setIfInBounds_toArray, List.set_cons_zero, List.set_cons_succ]
        refine detL_val (by kernel_rfl) (yields_of rfl fun w5 hb5 => ?_) ?_
        · have HBx := Lib.hid hb5
          clear hb5
          go_simp
          exact Det1_same
        simp only [Act.put, List.setIfInBounds_toArray, List.set_cons_zero, List.set_cons_succ]
        refine detL_val (by kernel_rfl) (yields_of rfl fun w5 hb5 => ?_) ?_
        · have HBx := Lib.hid hb5
          have m0 := (hb5.cell (p := a2.add j) hl2).trans HCC.out.2
          clear hb5
          go_simp
          exact Det1_same
        simp only [Act.put, List.setIfInBounds_toArray, List.set_cons_zero, List.set_cons_succ]
        refine detL_val (by kernel_rfl) (yields_of rfl fun w5 hb5 => ?_) ?_
        · have HBx := Lib.hid hb5
          clear hb5
          go_simp
          exact Det1_enter (HSA.out w5 ((Below.refl _ _).drew.trans HBx.out))
        simp only [Act.put, List.setIfInBounds_toArray, List.set_cons_zero, List.set_cons_succ]
        refine detL_val (by kernel_rfl) (yields_of rfl fun w5 hb5 => ?_) ?_
        · have HBx := Lib.hid hb5
          clear hb5
          go_simp
          exact Det1_same
        simp only [Act.put, List.setIfInBounds_toArray, List.set_cons_zero, List.set_cons_succ]
        refine detL_done (by kernel_rfl) fun w6 hw6 => ?_
        have H6 : Hid (Below w.heap.size w w6) := HB.out.trans (((Below.refl _ _).drew.trans hw6.below).mono HB.out.size)
        clear hw6
        go_wp2_with (fail)
        go_roundw
        case rel => exact ⟨j + 1, by go_num, by omega, H6⟩
        case measure => simp [intOf]; omega
    · go_wp2_with (fail)
      go_ret
      exact ⟨⟨_, rfl⟩, HB.out⟩
end Go.Proofs.YtmhkmliebhbkdaaGreat

/- The law RelTruths. -/
namespace Go.Proofs.YtmhkmliebhbkdaaGreat
open Go.RowKit Go.Lib

theorem det1_load_row {P : Program} {o : Oper} {a : Act} {w : World} (ty : TypeId) (x : Operand) (ho : o.op = .load ty x)
    (g : Nat) (hx : a.eval x = .pointer (some ⟨g, 0, none⟩)) (t : TypeId) (cs : Array Value) (fr : Nat × Nat) (d : TypeDesc) (hg : w.heap[g]? = some (.cells cs t fr))
    (hu : P.underlying ty = some d) (hd : (match d with | .struct _ | .array _ _ => true | _ => false) = true) (hi : (P.info? ty).map (·.size) = some cs.size) : Det1 P (.agg cs) w ((execOp a.eval o).run P w) := by
  unfold execOp
  simp only [ho, hx, Instr.loadAt, Instr.sureAddr, Sem.run_bind, Sem.run_pure, Result.andThen_ok, run_loadVar_row w g t ty cs fr d hg hu hd hi]
  exact Det1_same
theorem exSize7 : (Tryz.prog.info? 29).map (·.size) = some 6 := by kernel_rfl
theorem ex_one7 (o : ByteArray) (k i : Int) (vs s : ByteArray) (A : Option Addr) (n c : Nat) : (#[.string o, .int .i64 k, .int .i64 i, .string vs, .string s, .slice A n c] : Array Value).all (·.oneCell') = true := by simp [Value.oneCell']
def slcR (rows : List (List Vl)) (u : Value) (F : List Nat) (w : World) : Prop := F = [] ∧ ∃ A n c, u = .slice A n c ∧ RowsAt w (fun _ => False) A n rows
theorem RowsAt.row7 {W : World} {g B1 : Nat} {A : Option Addr} {n : Nat} {rows : List (List Vl)} (h : RowsAt W (fun b => b < B1) A n rows) (hA : ∀ a, A = some a → n = 0 ∨ B1 ≤ a.block) (hg : g < B1) (cs : Array Value) : RowsAt (W.setRow g cs) (fun b => b < B1) A n rows :=
  ⟨h.1, h.2.1, fun j hj => by
    obtain ⟨a, D, m, c, e, hc, h1, h2, h3, h4⟩ := h.2.2 j hj
    have hn := h.1
    refine ⟨a, D, m, c, e, ?_, h1, h2, ?_, h4⟩
    · rcases hA a e with h0 | h0
      · omega
      · exact (World.cell?_of_block (w := W) (a := a.add j) (setRow_other _ _ _ _ (by rw [add_block]; omega))).trans hc
    · exact h3.same (by rw [setRow_size]; exact Nat.le_refl _) fun a' e' => (h4 a' e').imp id fun k => setRow_other _ _ _ _ (by omega)⟩
theorem slcR.len {rows : List (List Vl)} {A : Option Addr} {n c : Nat} {F : List Nat} {w : World} (h : slcR rows (.slice A n c) F w) : rows.length = n ∧ RowsAt w (fun _ => False) A n rows := by
  obtain ⟨_, A', n', c', e, h2⟩ := h
  injection e with e1 e2 e3
  subst e1 e2 e3
  exact ⟨h2.1, h2⟩
end Go.Proofs.YtmhkmliebhbkdaaGreat

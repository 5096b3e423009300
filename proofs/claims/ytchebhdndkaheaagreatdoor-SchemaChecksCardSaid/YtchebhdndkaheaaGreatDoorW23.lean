import Derived.Test.YtchebhdndkaheaaGreatDoorW22
import Derived.Test.YtchebhdndkaheaaGreatDoorW12
import Derived.Test.YtchebhdndkaheaaGreatDoorW14
import Derived.Test.YtchebhdndkaheaaGreatDoorW18
import Derived.Test.YtchebhdndkaheaaGreatDoorW06
import Derived.Test.YtchebhdndkaheaaGreatDoorW19
import Derived.Stop.LaidErr
import Derived.LaidLaws
import Derived.Test.YtchebhdndkaheaaGreatDoorW16
import Derived.ChangeMaps5

/- The chapter's examples of layer 6: awake. -/
namespace Go.Proofs.YtchebhdndkaheaaGreatDoor
open Go.RowKit Go.Lib

theorem vals_one (W : World) (t : TypeId) (k i : Int) (s : ByteArray) : Vals (W.alloc (.cells #[.int .i64 k, .int .i64 i, .string s] t)) (W.alloc (.cells #[.int .i64 k, .int .i64 i, .string s] t)).heap.size (some ⟨W.heap.size, 0, none⟩) 1 [⟨k, i, s⟩] := by
  refine ⟨rfl, fun j hj => ⟨_, rfl, ?_, by simp⟩⟩
  obtain rfl : j = 0 := by simp at hj; omega
  rw [show (⟨W.heap.size, 0, none⟩ : Addr).add (0 * 3) = ⟨W.heap.size, 0, none⟩ by simp [Addr.add]]
  exact ⟨by simp [go_sem], by simp [go_sem], by simp [go_sem]⟩
set_option maxRecDepth 100000 in
set_option maxHeartbeats 4000000 in
theorem awake6_any (w : World) (hl : LibE w) (ht : TyE w) :
    Calls Tryz.prog 9 #[] w fun e w' => e = .returned (.bool true) ∧ Below w.heap.size w w' := by
  have HL := Lib.hid hl
  have HT := Lib.hid ht
  clear hl ht
  go_enter Tryz.func9, Tryz.ntmps9
  go_upto_region 2 with (fail)
  refine wp_gen (fun W => Below w.heap.size w W ∧ ClAt W ⟨w.heap.size, 0, none⟩ kC) ⟨?e1, ?e2⟩ fun w0 hw0 => ?_
  case e1 => repeat (first | (with_reducible exact Below.refl _ _) | ((with_reducible refine cSet3 ?_ ?_ _ _ _); (· ((try simp) <;> omega))) | (with_reducible refine Below.drew ?_) | ((with_reducible refine cAlloc ?_ ?_ _); (· ((try simp) <;> omega))) | ((with_reducible refine cOn (by assumption) ?_ ?_); (· ((try simp) <;> omega))))
  case e2 => exact ⟨by simp [go_sem, kC], by simp [go_sem, kC], by simp [go_sem, kC]⟩
  have H0 := Lib.hid hw0
  have k0 := hw0.2.c0
  have k1 := hw0.2.c1
  have k2 := hw0.2.c2
  have hz0 := hw0.2.lt
  clear hw0
  have HOF : Hid (Calls Tryz.prog 21 #[.agg #[.string ⟨#[99, 114, 101, 97, 116, 101]⟩, .string ⟨#[116]⟩, .string ⟨#[]⟩, .slice none 0 0, .slice (some ⟨w0.heap.size, 0, none⟩) 1 1, .string ⟨#[107]⟩, .slice none 0 0, .slice none 0 0, .string ⟨#[60]⟩, .int .i64 0, .int .i64 0, .string ⟨#[]⟩, .string ⟨#[]⟩, .slice (some ⟨w0.heap.size + 1, 0, none⟩) 2 2, .slice none 0 0, .slice none 0 0, .string ⟨#[]⟩, .int .i64 0, .int .i64 0, .string ⟨#[]⟩, .string ⟨#[]⟩, .slice none 0 0, .string ⟨#[]⟩]] ((w0.alloc (.cells #[.string kC.n, .int .i64 kC.t, .bool kC.b] 43)).alloc (.cells #[.string ⟨#[99, 111, 108]⟩, .int .i64 0, .int .i64 0, .string ⟨#[]⟩, .string ⟨#[107]⟩, .slice none 0 0, .string ⟨#[108, 105, 116]⟩, .int .i64 1, .int .i64 5, .string ⟨#[]⟩, .string ⟨#[]⟩, .slice none 0 0] 29)) fun e w' => ∃ g c1 g2 c2, e = .returned (.tuple #[.agg #[.string ⟨#[116]⟩, .slice (some ⟨g, 0, none⟩) 1 c1, .int .i64 0, .slice none 0 0, .slice none 0 0, .string ⟨#[60]⟩, .int .i64 0, .int .i64 0, .string ⟨#[]⟩, .string ⟨#[]⟩, .slice (some ⟨g2, 0, none⟩) 2 c2], .int .i64 0]) ∧ TbS w' ⟨#[116]⟩ (some ⟨g, 0, none⟩) 1 c1 0 none 0 0 none 0 0 ⟨#[60]⟩ 0 0 ⟨#[]⟩ ⟨#[]⟩ (some ⟨g2, 0, none⟩) 2 c2 [kN] [] [] [colT ⟨#[107]⟩, litT ⟨1, 5, ⟨#[]⟩⟩] (fun _ => True) 2 ∧ Below ((w0.alloc (.cells #[.string kC.n, .int .i64 kC.t, .bool kC.b] 43)).alloc (.cells #[.string ⟨#[99, 111, 108]⟩, .int .i64 0, .int .i64 0, .string ⟨#[]⟩, .string ⟨#[107]⟩, .slice none 0 0, .string ⟨#[108, 105, 116]⟩, .int .i64 1, .int .i64 5, .string ⟨#[]⟩, .string ⟨#[]⟩, .slice none 0 0] 29)).heap.size ((w0.alloc (.cells #[.string kC.n, .int .i64 kC.t, .bool kC.b] 43)).alloc (.cells #[.string ⟨#[99, 111, 108]⟩, .int .i64 0, .int .i64 0, .string ⟨#[]⟩, .string ⟨#[107]⟩, .slice none 0 0, .string ⟨#[108, 105, 116]⟩, .int .i64 1, .int .i64 5, .string ⟨#[]⟩, .string ⟨#[]⟩, .slice none 0 0] 29)) w') := by
    have hs := H0.out.1.size
    have HB : Below w.heap.size w ((w0.alloc (.cells #[.string kC.n, .int .i64 kC.t, .bool kC.b] 43)).alloc (.cells #[.string ⟨#[99, 111, 108]⟩, .int .i64 0, .int .i64 0, .string ⟨#[]⟩, .string ⟨#[107]⟩, .slice none 0 0, .string ⟨#[108, 105, 116]⟩, .int .i64 1, .int .i64 5, .string ⟨#[]⟩, .string ⟨#[]⟩, .slice none 0 0] 29)) := (H0.out.1.alloc hs _).alloc (by simp; omega) _
    have hle : ∀ j u, leCells[j]? = some u → ((w0.alloc (.cells #[.string kC.n, .int .i64 kC.t, .bool kC.b] 43)).alloc (.cells #[.string ⟨#[99, 111, 108]⟩, .int .i64 0, .int .i64 0, .string ⟨#[]⟩, .string ⟨#[107]⟩, .slice none 0 0, .string ⟨#[108, 105, 116]⟩, .int .i64 1, .int .i64 5, .string ⟨#[]⟩, .string ⟨#[]⟩, .slice none 0 0] 29)).cell? ((⟨w0.heap.size + 1, 0, none⟩ : Addr).add j) = some u := newSl_cells (alloc_at (by simp) _)
    have hle2 : ∀ j u, leCells[j]? = some u → ((w0.alloc (.cells #[.string kC.n, .int .i64 kC.t, .bool kC.b] 43)).alloc (.cells #[.string ⟨#[99, 111, 108]⟩, .int .i64 0, .int .i64 0, .string ⟨#[]⟩, .string ⟨#[107]⟩, .slice none 0 0, .string ⟨#[108, 105, 116]⟩, .int .i64 1, .int .i64 5, .string ⟨#[]⟩, .string ⟨#[]⟩, .slice none 0 0] 29)).cell? ⟨w0.heap.size + 1, j, none⟩ = some u := fun j u hj => by
      have := hle j u hj
      rwa [show (⟨w0.heap.size + 1, 0, none⟩ : Addr).add j = ⟨w0.heap.size + 1, j, none⟩ by unfold Addr.add; split <;> simp_all] at this
    refine of_k (fun _ => True) ⟨w0.heap.size, 0, none⟩ 1 ⟨w0.heap.size + 1, 0, none⟩ 2 ((w0.alloc (.cells #[.string kC.n, .int .i64 kC.t, .bool kC.b] 43)).alloc (.cells #[.string ⟨#[99, 111, 108]⟩, .int .i64 0, .int .i64 0, .string ⟨#[]⟩, .string ⟨#[107]⟩, .slice none 0 0, .string ⟨#[108, 105, 116]⟩, .int .i64 1, .int .i64 5, .string ⟨#[]⟩, .string ⟨#[]⟩, .slice none 0 0] 29)) ⟨le_tr trivial hle2, HL.out.keep HB (Nat.le_refl _), HT.out.keep HB (Nat.le_refl _), ⟨rfl, by unfold maxLen; omega, fun j hj => ⟨_, rfl, ?_⟩⟩⟩ (by omega) hle
    obtain rfl : j = 0 := by simp at hj; omega
    rw [show (⟨w0.heap.size, 0, none⟩ : Addr).add (0 * 3) = ⟨w0.heap.size, 0, none⟩ by simp [Addr.add]]
    exact ⟨by simp [go_sem], by simp [go_sem], by simp [go_sem]⟩
  have HB0 : Hid (Below w.heap.size w ((w0.alloc (.cells #[.string kC.n, .int .i64 kC.t, .bool kC.b] 43)).alloc (.cells #[.string ⟨#[99, 111, 108]⟩, .int .i64 0, .int .i64 0, .string ⟨#[]⟩, .string ⟨#[107]⟩, .slice none 0 0, .string ⟨#[108, 105, 116]⟩, .int .i64 1, .int .i64 5, .string ⟨#[]⟩, .string ⟨#[]⟩, .slice none 0 0] 29))) := by
    have hs := H0.out.1.size
    exact (H0.out.1.alloc hs _).alloc (by simp; omega) _
  go_upto_region 3 with (first
    | (go_at_call 21; (with_reducible refine HOF.out.mono ?_); rintro e w1 ⟨g, c1, g2, c2, rfl, ht1, hb1⟩; have H1 := Lib.hid (And.intro ht1 (HB0.out.trans (hb1.mono HB0.out.size))); clear ht1 hb1 HOF k0 k1 k2; have hst : (w1.alloc (.cells #[.string ⟨#[]⟩, .slice none 0 0, .int .i64 0, .slice none 0 0, .slice none 0 0, .string ⟨#[]⟩, .int .i64 0, .int .i64 0, .string ⟨#[]⟩, .string ⟨#[]⟩, .slice none 0 0] 31)).heap[w1.heap.size]? = some (.cells #[.string ⟨#[]⟩, .slice none 0 0, .int .i64 0, .slice none 0 0, .slice none 0 0, .string ⟨#[]⟩, .int .i64 0, .int .i64 0, .string ⟨#[]⟩, .string ⟨#[]⟩, .slice none 0 0] 31 (0, 0)) := alloc_at rfl _)
    | (refine wpList_store_row rfl 31 (.tmp 2) (.tmp 15) rfl w1.heap.size #[.string ⟨#[116]⟩, .slice (some ⟨g, 0, none⟩) 1 c1, .int .i64 0, .slice none 0 0, .slice none 0 0, .string ⟨#[60]⟩, .int .i64 0, .int .i64 0, .string ⟨#[]⟩, .string ⟨#[]⟩, .slice (some ⟨g2, 0, none⟩) 2 c2] rfl rfl 31 _ hst tbSize rfl (tb_one _ _ _ _ _ _ _ _ _ _ _ _ _ _ _ _ _ _ _) ?_))
  have HNB : Below w1.heap.size w1 ((w1.alloc (.cells #[.string ⟨#[]⟩, .slice none 0 0, .int .i64 0, .slice none 0 0, .slice none 0 0, .string ⟨#[]⟩, .int .i64 0, .int .i64 0, .string ⟨#[]⟩, .string ⟨#[]⟩, .slice none 0 0] 31)).setRow w1.heap.size #[.string ⟨#[116]⟩, .slice (some ⟨g, 0, none⟩) 1 c1, .int .i64 0, .slice none 0 0, .slice none 0 0, .string ⟨#[60]⟩, .int .i64 0, .int .i64 0, .string ⟨#[]⟩, .string ⟨#[]⟩, .slice (some ⟨g2, 0, none⟩) 2 c2]) := below_row ((Below.refl _ _).alloc (Nat.le_refl _) _) _ (Nat.le_refl _)
  have KEEP : Hid (∀ W W' : World, (TbS W ⟨#[116]⟩ (some ⟨g, 0, none⟩) 1 c1 0 none 0 0 none 0 0 ⟨#[60]⟩ 0 0 ⟨#[]⟩ ⟨#[]⟩ (some ⟨g2, 0, none⟩) 2 c2 [kN] [] [] [colT ⟨#[107]⟩, litT ⟨1, 5, ⟨#[]⟩⟩] (fun _ => True) 2 ∧ Below w.heap.size w W ∧ W.heap[w1.heap.size]? = some (.cells #[.string ⟨#[116]⟩, .slice (some ⟨g, 0, none⟩) 1 c1, .int .i64 0, .slice none 0 0, .slice none 0 0, .string ⟨#[60]⟩, .int .i64 0, .int .i64 0, .string ⟨#[]⟩, .string ⟨#[]⟩, .slice (some ⟨g2, 0, none⟩) 2 c2] 31 (0, 0))) → Below W.heap.size W W' → (TbS W' ⟨#[116]⟩ (some ⟨g, 0, none⟩) 1 c1 0 none 0 0 none 0 0 ⟨#[60]⟩ 0 0 ⟨#[]⟩ ⟨#[]⟩ (some ⟨g2, 0, none⟩) 2 c2 [kN] [] [] [colT ⟨#[107]⟩, litT ⟨1, 5, ⟨#[]⟩⟩] (fun _ => True) 2 ∧ Below w.heap.size w W' ∧ W'.heap[w1.heap.size]? = some (.cells #[.string ⟨#[116]⟩, .slice (some ⟨g, 0, none⟩) 1 c1, .int .i64 0, .slice none 0 0, .slice none 0 0, .string ⟨#[60]⟩, .int .i64 0, .int .i64 0, .string ⟨#[]⟩, .string ⟨#[]⟩, .slice (some ⟨g2, 0, none⟩) 2 c2] 31 (0, 0)))) := Lib.hid fun W W' h hb => ⟨h.1.below hb, h.2.1.trans (hb.mono h.2.1.size), (hb.block _ (lt_of_block h.2.2)).trans h.2.2⟩
  refine wp_gen (fun W => TbS W ⟨#[116]⟩ (some ⟨g, 0, none⟩) 1 c1 0 none 0 0 none 0 0 ⟨#[60]⟩ 0 0 ⟨#[]⟩ ⟨#[]⟩ (some ⟨g2, 0, none⟩) 2 c2 [kN] [] [] [colT ⟨#[107]⟩, litT ⟨1, 5, ⟨#[]⟩⟩] (fun _ => True) 2 ∧ Below w.heap.size w W ∧ W.heap[w1.heap.size]? = some (.cells #[.string ⟨#[116]⟩, .slice (some ⟨g, 0, none⟩) 1 c1, .int .i64 0, .slice none 0 0, .slice none 0 0, .string ⟨#[60]⟩, .int .i64 0, .int .i64 0, .string ⟨#[]⟩, .string ⟨#[]⟩, .slice (some ⟨g2, 0, none⟩) 2 c2] 31 (0, 0))) ⟨H1.out.1.below HNB, H1.out.2.trans (HNB.mono H1.out.2.size), setRow_heap _ _ _ _ _ _ hst⟩ fun w2 hw2 => ?_
  have Hw2 := Lib.hid hw2
  clear hw2 HNB hst H1 H0 HB0 hz0
  have hbx := Hw2.out.2.2
  have b1 := Lib.cell_of_heap hbx 1
  simp only [List.getElem?_toArray, List.getElem?_cons_zero, List.getElem?_cons_succ] at b1
  have hd2 := lt_of_block hbx
  have gcl : w2.cell? ⟨g, 2, none⟩ = some (.bool true) := by
    obtain ⟨a', e, hA⟩ := Hw2.out.1.hcols.2.2 0 (by decide)
    injection e with e
    subst e
    rw [show (⟨g, 0, none⟩ : Addr).add (0 * 3) = ⟨g, 0, none⟩ by simp [Addr.add]] at hA
    exact hA.c2
  have gl : g < w2.heap.size := World.block_lt_of_cell? w2 _ gcl
  go_wp2_with (first
    | (refine wpList_load_row_on rfl 31 (.tmp 2) rfl w1.heap.size rfl 31 #[.string ⟨#[116]⟩, .slice (some ⟨g, 0, none⟩) 1 c1, .int .i64 0, .slice none 0 0, .slice none 0 0, .string ⟨#[60]⟩, .int .i64 0, .int .i64 0, .string ⟨#[]⟩, .string ⟨#[]⟩, .slice (some ⟨g2, 0, none⟩) 2 c2] (0, 0) _ hbx Tryz.underlying31 rfl tbSize ?_)
    | (have HQ3 := Lib.hid (fits_any ⟨#[116]⟩ (some ⟨g, 0, none⟩) 1 c1 0 none 0 0 none 0 0 ⟨#[60]⟩ 0 0 ⟨#[]⟩ ⟨#[]⟩ (some ⟨g2, 0, none⟩) 2 c2 [kN] [] [] [colT ⟨#[107]⟩, litT ⟨1, 5, ⟨#[]⟩⟩] (fun _ => True) 2 (some ⟨w4.heap.size, 0, none⟩) 1 1 [⟨1, 4, ⟨#[]⟩⟩] (by unfold maxLen; omega) (w4.alloc (.cells #[.int .i64 1, .int .i64 4, .string ⟨#[]⟩] 26)) (Hw4.out.1.below ((Below.refl _ _).alloc (Nat.le_refl _) _)) (vals_one _ _ _ _ _)); go_at_call 10; (with_reducible refine HQ3.out.mono ?_); rintro e w5 ⟨rfl, hb3⟩; rw [show fitsI 1 ⟨#[116]⟩ 0 [kN] [] [] (.mk ⟨#[60]⟩ ⟨0, 0, ⟨#[]⟩⟩ ⟨#[]⟩ [colT ⟨#[107]⟩, litT ⟨1, 5, ⟨#[]⟩⟩]) 1 [⟨1, 4, ⟨#[]⟩⟩] = 0 from fits_4]; have Hw5 := Lib.hid (KEEP.out _ _ Hw4.out (((Below.refl _ _).alloc (Nat.le_refl _) _).trans (hb3.mono (by simp)))); clear hb3 HQ3; have hbx := Hw5.out.2.2)
    | (have HQ2 := Lib.hid (fits_any ⟨#[116]⟩ (some ⟨g, 0, none⟩) 1 c1 0 none 0 0 none 0 0 ⟨#[60]⟩ 0 0 ⟨#[]⟩ ⟨#[]⟩ (some ⟨g2, 0, none⟩) 2 c2 [kN] [] [] [colT ⟨#[107]⟩, litT ⟨1, 5, ⟨#[]⟩⟩] (fun _ => True) 2 (some ⟨w3.heap.size, 0, none⟩) 1 1 [⟨1, 5, ⟨#[]⟩⟩] (by unfold maxLen; omega) (w3.alloc (.cells #[.int .i64 1, .int .i64 5, .string ⟨#[]⟩] 26)) (Hw3.out.1.below ((Below.refl _ _).alloc (Nat.le_refl _) _)) (vals_one _ _ _ _ _)); go_at_call 10; (with_reducible refine HQ2.out.mono ?_); rintro e w4 ⟨rfl, hb2⟩; rw [show fitsI 1 ⟨#[116]⟩ 0 [kN] [] [] (.mk ⟨#[60]⟩ ⟨0, 0, ⟨#[]⟩⟩ ⟨#[]⟩ [colT ⟨#[107]⟩, litT ⟨1, 5, ⟨#[]⟩⟩]) 1 [⟨1, 5, ⟨#[]⟩⟩] = 9 from fits_5]; have Hw4 := Lib.hid (KEEP.out _ _ Hw3.out (((Below.refl _ _).alloc (Nat.le_refl _) _).trans (hb2.mono (by simp)))); clear hb2 HQ2; have hbx := Hw4.out.2.2)
    | (have HQ1 := Lib.hid (fits_any ⟨#[116]⟩ (some ⟨g, 0, none⟩) 1 c1 0 none 0 0 none 0 0 ⟨#[60]⟩ 0 0 ⟨#[]⟩ ⟨#[]⟩ (some ⟨g2, 0, none⟩) 2 c2 [kN] [] [] [colT ⟨#[107]⟩, litT ⟨1, 5, ⟨#[]⟩⟩] (fun _ => True) 2 (some ⟨w2.heap.size, 0, none⟩) 1 1 [⟨0, 0, ⟨#[]⟩⟩] (by unfold maxLen; omega) (w2.alloc (.cells #[.int .i64 0, .int .i64 0, .string ⟨#[]⟩] 26)) (Hw2.out.1.below ((Below.refl _ _).alloc (Nat.le_refl _) _)) (vals_one _ _ _ _ _)); go_at_call 10; (with_reducible refine HQ1.out.mono ?_); rintro e w3 ⟨rfl, hb1⟩; rw [show fitsI 1 ⟨#[116]⟩ 0 [kN] [] [] (.mk ⟨#[60]⟩ ⟨0, 0, ⟨#[]⟩⟩ ⟨#[]⟩ [colT ⟨#[107]⟩, litT ⟨1, 5, ⟨#[]⟩⟩]) 1 [⟨0, 0, ⟨#[]⟩⟩] = 8 from fits_null]; have Hw3 := Lib.hid (KEEP.out _ _ Hw2.out (((Below.refl _ _).alloc (Nat.le_refl _) _).trans (hb1.mono (by simp)))); clear hb1 HQ1; have hbx := Hw3.out.2.2))
  go_ret
  exact ⟨rfl, Hw5.out.2.1⟩
end Go.Proofs.YtchebhdndkaheaaGreatDoor

/- Tables: what is wrong with a row, with and without a check; with NULL in a column's place. Plain facts. -/
namespace Go.Proofs.YtchebhdndkaheaaGreatDoor
open Go.RowKit Go.Lib

theorem checked_z (cols : List Cl) : checkedI cols zT = 0 := by
  unfold checkedI
  rw [if_pos (by kernel_rfl)]
theorem table_z {n : Nat} {nm : ByteArray} {key : Int} {cols : List Cl} {us : List Int} {rs : List Rf} {t : Ex} (h : tableB n nm key cols us rs t = true) : tableB n nm key cols us rs zT = true := by
  unfold tableB at h ⊢
  rw [checked_z]
  simp only [Bool.and_eq_true] at h ⊢
  exact ⟨h.1, h.2.1, h.2.2.1, h.2.2.2.1, by simp⟩
theorem may_z : mayT zT = false := by kernel_rfl
theorem eval_z (cols : List Cl) (row : List Vl) : evalT cols row zT = nulV := by
  unfold evalT
  rw [may_z, if_neg (by decide)]
theorem false_z (cols : List Cl) (row : List Vl) : falseB (evalT cols row zT) = false := by
  rw [eval_z]
  kernel_rfl
/-- With a check, and without. -/
theorem fits_check {n : Nat} {nm : ByteArray} {key : Int} {cols : List Cl} {us : List Int} {rs : List Rf} {t : Ex} (h : tableB n nm key cols us rs t = true) (m : Nat) (row : List Vl) :
    fitsI n nm key cols us rs t m row = if fitsI n nm key cols us rs zT m row = 0 then (if falseB (evalT cols row t) = true then 9 else 0) else fitsI n nm key cols us rs zT m row := by
  unfold fitsI
  rw [h, table_z h, if_pos rfl, if_pos rfl, false_z]
  by_cases h1 : m = n
  · rw [if_pos h1, if_pos h1]
    cases h2 : (row.any fun v => !mayB v.k v.i v.s) with
    | true => simp
    | false =>
      by_cases h3 : heldF cols row = 0
      · simp [h3]
      · simp [h3]
  · rw [if_neg h1, if_neg h1]
    simp
theorem held_null (y : Cl) : heldI y nulV = if y.b = true then (if y.t = 0 then 0 else 8) else 0 := by
  unfold heldI nulV
  by_cases hb : y.b = true
  · by_cases ht : y.t = 0
    · simp [hb, ht]
    · have : ¬ (0 : Int) = y.t := fun e => ht e.symm
      simp [hb, ht, this]
  · simp [hb]
theorem held_set : ∀ (cols : List Cl) (row : List Vl) (i : Nat) (h : i < cols.length), cols.length = row.length → heldF cols row = 0 → heldF cols (row.set i nulV) = heldI cols[i] nulV
  | [], row, i, h, _, _ => absurd h (by simp)
  | y :: l, [], i, h, hl, _ => by simp at hl
  | y :: l, v :: r, 0, h, hl, h0 => by
    have h1 : heldI y v = 0 ∧ heldF l r = 0 := by
      unfold heldF at h0
      by_cases e : heldI y v = 0
      · rw [if_pos e] at h0; exact ⟨e, h0⟩
      · rw [if_neg e] at h0; exact absurd h0 e
    show heldF (y :: l) (nulV :: r) = heldI y nulV
    unfold heldF
    by_cases e : heldI y nulV = 0
    · rw [if_pos e, h1.2, e]
    · rw [if_neg e]
  | y :: l, v :: r, i + 1, h, hl, h0 => by
    have h1 : heldI y v = 0 ∧ heldF l r = 0 := by
      unfold heldF at h0
      by_cases e : heldI y v = 0
      · rw [if_pos e] at h0; exact ⟨e, h0⟩
      · rw [if_neg e] at h0; exact absurd h0 e
    show heldF (y :: l) (v :: r.set i nulV) = heldI (l[i]'(by simpa using h)) nulV
    rw [heldF, if_pos h1.1]
    exact held_set l r i (by simpa using h) (by simpa using hl) h1.2
theorem may_null6 : mayB 0 0 ⟨#[]⟩ = true := by kernel_rfl
theorem unfit_t {y : Cl} (h : unfitB y = false) : y.t ≠ 0 := by
  intro e
  unfold unfitB at h
  rw [e] at h
  simp at h
/-- With NULL in a column's place. -/
theorem fits_null_at {n : Nat} {nm : ByteArray} {key : Int} {cols : List Cl} {us : List Int} {rs : List Rf} {t : Ex} {m : Nat} {row : List Vl} (hl : cols.length = n) (hr : row.length = m) (h : fitsI n nm key cols us rs t m row = 0) (i : Nat) (hi : i < cols.length) :
    fitsI n nm key cols us rs t m (row.set i nulV) = if cols[i].b = true then 8 else (if falseB (evalT cols (row.set i nulV) t) = true then 9 else 0) := by
  unfold fitsI at h ⊢
  cases ht : tableB n nm key cols us rs t with
  | false => rw [ht, if_neg (by decide)] at h; exact absurd h (by decide)
  | true =>
    rw [ht, if_pos rfl] at h
    rw [if_pos rfl]
    by_cases h1 : m = n
    · rw [if_pos h1] at h ⊢
      cases h2 : (row.any fun v => !mayB v.k v.i v.s) with
      | true => rw [h2, if_pos rfl] at h; exact absurd h (by decide)
      | false =>
        rw [h2, if_neg (by decide)] at h
        have h3 : ((row.set i nulV).any fun v => !mayB v.k v.i v.s) = false := by
          rw [List.any_eq_false] at h2 ⊢
          intro x hx
          rcases List.mem_or_eq_of_mem_set hx with hx | rfl
          · exact h2 x hx
          · show ¬ (!mayB nulV.k nulV.i nulV.s) = true
            rw [show mayB nulV.k nulV.i nulV.s = true from may_null6]
            decide
        rw [h3, if_neg (by decide)]
        have h4 : heldF cols row = 0 := by
          by_cases e : heldF cols row = 0
          · exact e
          · rw [if_neg e] at h; exact absurd h e
        rw [held_set cols row i hi (by omega) h4, held_null]
        have h5 : cols[i].t ≠ 0 := by
          have hu : unfitB cols[i] = false := by
            unfold tableB columnedB at ht
            simp only [Bool.and_eq_true, Bool.not_eq_true'] at ht
            have := List.any_eq_false.1 ht.2.1.2.2.1 cols[i] (List.getElem_mem hi)
            simpa using this
          exact unfit_t hu
        cases hb : cols[i].b with
        | true => rw [if_pos rfl, if_neg h5, if_neg (by decide), if_pos rfl]
        | false => simp
    · rw [if_neg h1] at h; exact absurd h (by decide)
end Go.Proofs.YtchebhdndkaheaaGreatDoor

/- The laws of layer 6: what their first rows leave. -/
namespace Go.Proofs.YtchebhdndkaheaaGreatDoor
open Go.RowKit Go.Lib

/-- A box that is written beside a table's memory. -/
theorem TbS.row {W : World} {nm : ByteArray} {A : Option Addr} {n c : Nat} {key : Int} {U : Option Addr} {m cu : Nat} {R : Option Addr} {p cr : Nat} {op : ByteArray} {k i : Int} {vs s : ByteArray} {B : Option Addr} {q d : Nat} {cols : List Cl} {us : List Int} {rs : List Rf} {l : List Ex} {B1 b0 N : Nat} (h : TbS W nm A n c key U m cu R p cr op k i vs s B q d cols us rs l (fun b => B1 ≤ b) N) (h1 : ∀ a, A = some a → n = 0 ∨ B1 ≤ a.block) (h2 : ∀ a, U = some a → m = 0 ∨ B1 ≤ a.block) (h3 : ∀ a, R = some a → p = 0 ∨ B1 ≤ a.block) (hb : b0 < B1) (X : Array Value) : TbS (W.setRow b0 X) nm A n c key U m cu R p cr op k i vs s B q d cols us rs l (fun _ => True) N := by
  have f : ∀ b, B1 ≤ b → (W.setRow b0 X).heap[b]? = W.heap[b]? := fun b hb' => setRow_other _ _ _ _ (by omega)
  refine ⟨h.hcols.same fun a e => (h1 a e).imp id fun k => f _ k, h.cap, h.hus.same2 fun a e => (h2 a e).imp id fun k => f _ k, ⟨h.hrs.1, h.hrs.2.1, fun j hj => ?_⟩, h.chk.keep (fun b hb' _ => f b hb') (fun _ _ _ => trivial), h.len, h.hnm, h.nc, h.nr⟩
  obtain ⟨a, e, hc⟩ := h.hrs.2.2 j hj
  rcases h3 a e with h0 | h0
  · have := h.hrs.1; omega
  · exact ⟨a, e, hc.keep (by rw [add_block]; exact f _ h0)⟩
theorem setRow_grown (W : World) (b : Nat) (X : Array Value) : W.grownBy (W.setRow b X) (some b) := ⟨rfl, rfl, rfl, by rw [setRow_size]; exact Nat.le_refl _, fun k _ hn => setRow_other _ _ _ _ (fun e => hn (by rw [e]))⟩
/-- The table in its box, what it reads as, the row. -/
structure Ls (w : World) (nm' : ByteArray) (A' : Option Addr) (n' c' : Nat) (key' : Int) (U' : Option Addr) (m' cu' : Nat) (R' : Option Addr) (p' cr' : Nat) (op' : ByteArray) (k' i' : Int) (vs' s' : ByteArray) (B' : Option Addr) (q' d' : Nat) (cols' : List Cl) (us' : List Int) (rs' : List Rf) (l' : List Ex) (D : Option Addr) (m2' cv' : Nat) (row' : List Vl) (W : World) : Prop where
  pl : Below w.heap.size w W
  box : W.heap[w.heap.size]? = some (.cells #[.string nm', .slice A' n' c', .int .i64 key', .slice U' m' cu', .slice R' p' cr', .string op', .int .i64 k', .int .i64 i', .string vs', .string s', .slice B' q' d'] 31 (0, 0))
  tb : TbS W nm' A' n' c' key' U' m' cu' R' p' cr' op' k' i' vs' s' B' q' d' cols' us' rs' l' (fun _ => True) 14
  own : W.ownsRow (w.heap.size + 1) 26 3 (.slice D m2' cv') m2' (cellsOf row')
theorem Ls.later {w W W' : World} {nm' : ByteArray} {A' : Option Addr} {n' c' : Nat} {key' : Int} {U' : Option Addr} {m' cu' : Nat} {R' : Option Addr} {p' cr' : Nat} {op' : ByteArray} {k' i' : Int} {vs' s' : ByteArray} {B' : Option Addr} {q' d' : Nat} {cols' : List Cl} {us' : List Int} {rs' : List Rf} {l' : List Ex} {D : Option Addr} {m2' cv' : Nat} {row' : List Vl} (h : Ls w nm' A' n' c' key' U' m' cu' R' p' cr' op' k' i' vs' s' B' q' d' cols' us' rs' l' D m2' cv' row' W) (hb : Below W.heap.size W W') : Ls w nm' A' n' c' key' U' m' cu' R' p' cr' op' k' i' vs' s' B' q' d' cols' us' rs' l' D m2' cv' row' W' :=
  ⟨h.pl.trans (hb.mono h.pl.size), (hb.block _ (lt_of_block h.box)).trans h.box, h.tb.below hb, h.own.kept (row := none) (grow_below hb none) (by cases h : (Value.slice D m2' cv').ownBlock with | none => exact .inl rfl | some _ => exact .inr (by simp))⟩
theorem Ls.vals {w W : World} {nm' : ByteArray} {A' : Option Addr} {n' c' : Nat} {key' : Int} {U' : Option Addr} {m' cu' : Nat} {R' : Option Addr} {p' cr' : Nat} {op' : ByteArray} {k' i' : Int} {vs' s' : ByteArray} {B' : Option Addr} {q' d' : Nat} {cols' : List Cl} {us' : List Int} {rs' : List Rf} {l' : List Ex} {D : Option Addr} {m2' cv' : Nat} {row' : List Vl} (h : Ls w nm' A' n' c' key' U' m' cu' R' p' cr' op' k' i' vs' s' B' q' d' cols' us' rs' l' D m2' cv' row' W) : Vals W W.heap.size D m2' row' := by
  obtain ⟨A, cap, e, h1, _⟩ := Vals.of_own h.own
  injection e with e1 _ _
  subst e1
  exact h1
theorem fewL_le (l : List Vl) : (fewL l).length ≤ 14 := by
  unfold fewL
  simp only [List.length_map, List.length_take]
  omega
/-- A value that is set to NULL in a row of one's own. -/
theorem vals_set {W : World} {B g cap m : Nat} {row : List Vl} (h : W.ownsRow B 26 3 (.slice (some ⟨g, 0, none⟩) m cap) m (cellsOf row)) (i : Nat) (hi : i < m) :
    Vals (((W.setCell ⟨g, i * 3, none⟩ (.int .i64 0)).setCell ⟨g, i * 3 + 1, none⟩ (.int .i64 0)).setCell ⟨g, i * 3 + 2, none⟩ (.string ⟨#[]⟩)) (((W.setCell ⟨g, i * 3, none⟩ (.int .i64 0)).setCell ⟨g, i * 3 + 1, none⟩ (.int .i64 0)).setCell ⟨g, i * 3 + 2, none⟩ (.string ⟨#[]⟩)).heap.size (some ⟨g, 0, none⟩) m (row.set i nulV) := by
  have hl : row.length = m := by have := h.1; rw [cells_len] at this; omega
  rcases h.2 with ⟨e, h0⟩ | ⟨g', cap', cur, e, hB, hg, hc, hm, hs, ht⟩
  · cases e
  injection e with e1 _ e3
  injection e1 with e1
  injection e1 with e1
  subst e1 e3
  have hgl := lt_of_block hg
  have hz := any_set6 (any_set6 (any_set6 hg (i * 3) (.int .i64 0)) (i * 3 + 1) (.int .i64 0)) (i * 3 + 2) (.string ⟨#[]⟩)
  have hsz : m * 3 ≤ cur.size := by rw [hs]; exact Nat.mul_le_mul_right _ hc
  refine ⟨by rw [List.length_set]; exact hl, fun j hj => ⟨_, rfl, ?_, by simpa [World.setCell] using hgl⟩⟩
  have hj' : j < row.length := by simpa using hj
  have hadd : (⟨g, 0, none⟩ : Addr).add (j * 3) = ⟨g, j * 3, none⟩ := by unfold Addr.add; split <;> simp_all
  rw [hadd, List.getElem_set]
  by_cases hji : i = j
  · subst hji
    rw [if_pos rfl]
    refine ⟨(Lib.cell_of_heap hz _).trans ?_, (Lib.cell_of_heap hz _).trans ?_, (Lib.cell_of_heap hz _).trans ?_⟩
    · try dsimp only
      rw [Array.getElem?_setIfInBounds_ne (by omega), Array.getElem?_setIfInBounds_ne (by omega), Array.getElem?_setIfInBounds_self_of_lt (by omega)]
      rfl
    · try dsimp only
      rw [Array.getElem?_setIfInBounds_ne (by omega), Array.getElem?_setIfInBounds_self_of_lt (by simp; omega)]
      rfl
    · try dsimp only
      rw [Array.getElem?_setIfInBounds_self_of_lt (by simp; omega)]
      rfl
  · rw [if_neg hji]
    obtain ⟨c0, c1, c2⟩ := cells_at row j hj'
    have o : ∀ q, q < 3 → (cur[j * 3 + q]?) = (cellsOf row)[j * 3 + q]? := fun q hq => (Lib.cell_of_heap hg _).symm.trans (h.cellAt (j * 3 + q) (by omega))
    refine ⟨(Lib.cell_of_heap hz _).trans ?_, (Lib.cell_of_heap hz _).trans ?_, (Lib.cell_of_heap hz _).trans ?_⟩
    · try dsimp only
      rw [Array.getElem?_setIfInBounds_ne (by omega), Array.getElem?_setIfInBounds_ne (by omega), Array.getElem?_setIfInBounds_ne (by omega)]
      exact (o 0 (by omega)).trans c0
    · try dsimp only
      rw [Array.getElem?_setIfInBounds_ne (by omega), Array.getElem?_setIfInBounds_ne (by omega), Array.getElem?_setIfInBounds_ne (by omega)]
      exact (o 1 (by omega)).trans c1
    · try dsimp only
      rw [Array.getElem?_setIfInBounds_ne (by omega), Array.getElem?_setIfInBounds_ne (by omega), Array.getElem?_setIfInBounds_ne (by omega)]
      exact (o 2 (by omega)).trans c2
end Go.Proofs.YtchebhdndkaheaaGreatDoor

/- The law SchemaNulls: its walk. -/
namespace Go.Proofs.YtchebhdndkaheaaGreatDoor
open Go.RowKit Go.Lib

theorem cl_at {W : World} {a : Addr} {n : Nat} {l : List Cl} (h : ColS W (some a) n l) {j : Nat} (hj : j < l.length) : ClAt W (a.add (j * 3)) l[j] := by
  obtain ⟨a', e, k⟩ := h.2.2 j hj
  injection e with e
  subst e
  exact k
theorem own_mono6 {W : World} {B B' : Nat} {t : TypeId} {sz n : Nat} {v : Value} {xs : List Value} (h : W.ownsRow B t sz v n xs) (hb : B' ≤ B) : W.ownsRow B' t sz v n xs :=
  ⟨h.1, h.2.imp id fun ⟨g, cap, cur, h1, h2, h3⟩ => ⟨g, cap, cur, h1, Nat.le_trans hb h2, h3⟩⟩
theorem TbIn.at_ {w W : World} {nm : ByteArray} {A : Option Addr} {n c : Nat} {key : Int} {U : Option Addr} {m cu : Nat} {R : Option Addr} {p cr : Nat} {op : ByteArray} {k i : Int} {vs s : ByteArray} {B : Option Addr} {q d : Nat} {cols : List Cl} {us : List Int} {rs : List Rf} (h : TbIn w nm A n c key U m cu R p cr op k i vs s B q d cols us rs) (hb : Below w.heap.size w W) : TbIn W nm A n c key U m cu R p cr op k i vs s B q d cols us rs :=
  ⟨h.hnm, h.hcols.below hb, h.nc, h.hus.below hb, h.hrs.below hb, h.nr, h.hop, h.hvs, h.hs, h.hi, InL.more hb.size (InL.keep hb h.chk)⟩
set_option maxRecDepth 100000 in
set_option maxHeartbeats 4000000 in
theorem law_snulls (nm : ByteArray) (A : Option Addr) (n c : Nat) (key : Int) (U : Option Addr) (m cu : Nat) (R : Option Addr) (p cr : Nat) (op : ByteArray) (k i : Int) (vs s : ByteArray) (B : Option Addr) (q d : Nat) (cols : List Cl) (us : List Int) (rs : List Rf) (D : Option Addr) (m2 cv : Nat) (row : List Vl) (x2 : Int) (w : World) (hl : LibE w) (ht : TyE w) (hT : TbIn w nm A n c key U m cu R p cr op k i vs s B q d cols us rs) (hm : m2 ≤ maxLen) (hv : Vals w w.heap.size D m2 row) (hvs : ∀ x ∈ row, x.s.size ≤ maxLen) (hx : 0 ≤ x2 ∧ x2 < 256) :
    Calls Tryz.prog 4 #[.agg #[.string nm, .slice A n c, .int .i64 key, .slice U m cu, .slice R p cr, .string op, .int .i64 k, .int .i64 i, .string vs, .string s, .slice B q d], .slice D m2 cv, .int .u8 x2] w fun e w' => e = .returned (.bool true) ∧ Below w.heap.size w w' := by
  have HT := Lib.hid hT
  have HA : Hid (∀ W, Below w.heap.size w W → Calls Tryz.prog 9 #[] W fun e w' => e = .returned (.bool true) ∧ Below W.heap.size W w') := Lib.hid fun W hb => awake6_any W (hl.keep hb (Nat.le_refl _)) (ht.keep hb (Nat.le_refl _))
  have HF2 : Hid (∀ W, Below w.heap.size w W → Calls Tryz.prog 6 #[.slice D m2 cv] W fun e w' => ∃ v, e = .returned v ∧ w'.ownsRow W.heap.size 26 3 v (fewL row).length (cellsOf (fewL row)) ∧ Below W.heap.size W w') := Lib.hid fun W hb => few2_any D m2 cv row W hm ((hv.keep hb).more hb.size) hvs
  clear hl ht hT hm hv hvs
  go_enter Tryz.func4, Tryz.ntmps4
  go_upto_region 1 with (fail)
  refine wp_gen (fun W => Below w.heap.size w W ∧ W.heap[w.heap.size]? = some (.cells #[.string nm, .slice A n c, .int .i64 key, .slice U m cu, .slice R p cr, .string op, .int .i64 k, .int .i64 i, .string vs, .string s, .slice B q d] 31 (0, 0))) ⟨(Below.refl _ _).alloc (Nat.le_refl _) _, alloc_at rfl _⟩ fun w0 hw0 => ?_
  have hbx := hw0.2
  have HB : Hid (Below w.heap.size w w0) := hw0.1
  have hz0 := lt_of_block hbx
  clear hw0
  go_upto_region 2 with (first
    | (refine wpList_load_row rfl 31 (.tmp 3) rfl w.heap.size rfl 31 #[.string nm, .slice A n c, .int .i64 key, .slice U m cu, .slice R p cr, .string op, .int .i64 k, .int .i64 i, .string vs, .string s, .slice B q d] (0, 0) _ hbx Tryz.underlying31 rfl tbSize ?_)
    | (go_at_call 5; (with_reducible refine (few6_any nm A n c key U m cu R p cr op k i vs s B q d cols us rs _ (HT.out.at_ HB.out)).mono ?_); rintro e w1 ⟨⟨v, rfl, htb⟩, hb1⟩; obtain ⟨nm', A', n', c', key', U', m', cu', R', p', cr', op', k', i', vs', s', B', q', d', cols', us', rs', l', rfl, ht1, f1, f2, f3⟩ := htb; have HT1 := Lib.hid (And.intro ht1 (And.intro f1 (And.intro f2 f3))); have HB1 := Lib.hid hb1; clear ht1 f1 f2 f3 hb1)
    | (go_at_call 6; (with_reducible refine (HF2.out _ (HB.out.trans (HB1.out.mono HB.out.size))).mono ?_); rintro e w2 ⟨v, rfl, hown, hb2⟩; obtain ⟨D', cv', rfl⟩ := own_form hown; have HO2 := Lib.hid hown; have HB2 := Lib.hid hb2; have hs1 := HB1.out.size; have hst : w2.heap[w.heap.size]? = some (.cells #[.string nm, .slice A n c, .int .i64 key, .slice U m cu, .slice R p cr, .string op, .int .i64 k, .int .i64 i, .string vs, .string s, .slice B q d] 31 (0, 0)) := (hb2.block _ (by omega)).trans ((HB1.out.block _ hz0).trans hbx); clear hown hb2)
    | (refine wpList_store_row rfl 31 (.tmp 3) (.tmp 11) rfl w.heap.size #[.string nm', .slice A' n' c', .int .i64 key', .slice U' m' cu', .slice R' p' cr', .string op', .int .i64 k', .int .i64 i', .string vs', .string s', .slice B' q' d'] rfl rfl 31 _ hst tbSize rfl (tb_one _ _ _ _ _ _ _ _ _ _ _ _ _ _ _ _ _ _ _) ?_))
  have hs2 := HB2.out.size
  have HLS : Hid (Ls w nm' A' n' c' key' U' m' cu' R' p' cr' op' k' i' vs' s' B' q' d' cols' us' rs' l' D' (fewL row).length cv' (fewL row) (w2.setRow w.heap.size #[.string nm', .slice A' n' c', .int .i64 key', .slice U' m' cu', .slice R' p' cr', .string op', .int .i64 k', .int .i64 i', .string vs', .string s', .slice B' q' d'])) := by
    refine ⟨below_row ((HB.out.trans (HB1.out.mono HB.out.size)).trans (HB2.out.mono (by omega))) _ (Nat.le_refl _), setRow_heap _ _ _ _ _ _ hst, (HT1.out.1.below HB2.out).row HT1.out.2.1 HT1.out.2.2.1 HT1.out.2.2.2 hz0 _, ?_⟩
    have ho := HO2.out.kept (setRow_grown w2 w.heap.size #[.string nm', .slice A' n' c', .int .i64 key', .slice U' m' cu', .slice R' p' cr', .string op', .int .i64 k', .int .i64 i', .string vs', .string s', .slice B' q' d']) (.inr (fun e => by have := own_geN HO2.out _ e; omega))
    exact own_mono6 ho (by omega)
  refine wp_gen (Ls w nm' A' n' c' key' U' m' cu' R' p' cr' op' k' i' vs' s' B' q' d' cols' us' rs' l' D' (fewL row).length cv' (fewL row)) HLS.out fun w3 hw3 => ?_
  have hM14 := fewL_le row
  obtain ⟨row', HR⟩ : ∃ r, Hid (fewL row = r) := ⟨_, Lib.hid rfl⟩
  rw [HR.out] at hw3 hM14 ⊢
  obtain ⟨M, HM⟩ : ∃ r, Hid (row'.length = r) := ⟨_, Lib.hid rfl⟩
  rw [HM.out] at hw3 hM14 ⊢
  have HS := Lib.hid hw3
  clear hw3 HLS hst HO2 hs1 hs2 HB2 HB1 HT1 hz0 hbx HB HF2 HT
  have hbx := HS.out.box
  have HFT : Hid (∀ W, Below w3.heap.size w3 W → Calls Tryz.prog 10 #[.agg #[.string nm', .slice A' n' c', .int .i64 key', .slice U' m' cu', .slice R' p' cr', .string op', .int .i64 k', .int .i64 i', .string vs', .string s', .slice B' q' d'], .slice D' M cv'] W fun e w' => e = .returned (.int .i64 (fitsI n' nm' key' cols' us' rs' (.mk op' ⟨k', i', vs'⟩ s' l') M row')) ∧ Below W.heap.size W w') := Lib.hid fun W hW =>
    fits_any nm' A' n' c' key' U' m' cu' R' p' cr' op' k' i' vs' s' B' q' d' cols' us' rs' l' (fun _ => True) 14 D' M cv' row' (by unfold maxLen; omega) W (HS.out.later hW).tb (HS.out.later hW).vals
  obtain ⟨F, HF⟩ : ∃ F, Hid (fitsI n' nm' key' cols' us' rs' (.mk op' ⟨k', i', vs'⟩ s' l') M row' = F) := ⟨_, Lib.hid rfl⟩
  by_cases h1 : F = 0
  · subst h1
    by_cases h2 : M = 0
    · have q2 : ((M : Int) == 0) = true := by simp [h2]
      clear h2
      go_wp2_with (first
        | (refine wpList_load_row rfl 31 (.tmp 3) rfl w.heap.size rfl 31 #[.string nm', .slice A' n' c', .int .i64 key', .slice U' m' cu', .slice R' p' cr', .string op', .int .i64 k', .int .i64 i', .string vs', .string s', .slice B' q' d'] (0, 0) _ hbx Tryz.underlying31 rfl tbSize ?_)
        | (go_at_call 10; (with_reducible refine (HFT.out _ (Below.refl _ _)).mono ?_); rintro e w4 ⟨rfl, hb4⟩; rw [HF.out]; have H4 := Lib.hid (HS.out.later hb4); clear hb4; have b1 := Lib.cell_of_heap H4.out.box 1; simp only [List.getElem?_toArray, List.getElem?_cons_zero, List.getElem?_cons_succ] at b1; have hl4 := lt_of_block H4.out.box)
        | (go_at_call 9; (with_reducible refine (HA.out _ H4.out.pl).mono ?_); rintro e w5 ⟨rfl, hb5⟩; have HB5 := Lib.hid (H4.out.pl.trans (hb5.mono H4.out.pl.size)); clear hb5))
      go_ret
      exact ⟨rfl, HB5.out⟩
    · by_cases h3 : M = n'
      · have q3 : ((M : Int) != (n' : Int)) = false := by simp [h3]
        have q2 : ((M : Int) == 0) = false := by simp [h2]
        have H3 := Lib.hid h3
        have H2 := Lib.hid h2
        clear h3 h2
        go_upto_region 4 with (first
          | (refine wpList_load_row rfl 31 (.tmp 3) rfl w.heap.size rfl 31 #[.string nm', .slice A' n' c', .int .i64 key', .slice U' m' cu', .slice R' p' cr', .string op', .int .i64 k', .int .i64 i', .string vs', .string s', .slice B' q' d'] (0, 0) _ hbx Tryz.underlying31 rfl tbSize ?_)
          | (go_at_call 10; (with_reducible refine (HFT.out _ (Below.refl _ _)).mono ?_); rintro e w4 ⟨rfl, hb4⟩; rw [HF.out]; have H4 := Lib.hid (HS.out.later hb4); clear hb4; have b1 := Lib.cell_of_heap H4.out.box 1; simp only [List.getElem?_toArray, List.getElem?_cons_zero, List.getElem?_cons_succ] at b1; have hl4 := lt_of_block H4.out.box))
        have hM0 := H2.out
        obtain ⟨g2, rfl, hg2⟩ : ∃ g2, D' = some ⟨g2, 0, none⟩ ∧ w.heap.size + 1 ≤ g2 := by
          rcases HS.out.own.2 with ⟨_, h0⟩ | ⟨g, cap, cur, e, hB, _⟩
          · exact absurd h0 hM0
          · injection e with e1 _ _
            exact ⟨g, e1, hB⟩
        obtain ⟨x, rfl⟩ := Int.eq_ofNat_of_zero_le hx.1
        have hx2 : x < 256 := by omega
        have HMO : x % M < M := Nat.mod_lt _ (by omega)
        obtain ⟨i0, hi, hz0, hz1, hz2⟩ := info_parts infoVal
        have HOw : Hid ((w4.alloc (.cells #[] 26)).ownsRow w4.heap.size 26 3 (.slice (some ⟨w4.heap.size, 0, none⟩) 0 0) 0 []) := ⟨rfl, .inr ⟨w4.heap.size, 0, #[], rfl, Nat.le_refl _, alloc_at rfl _, by omega, by unfold maxLen; omega, rfl, rfl⟩⟩
        go_upto_region 6 with (at_builtin; refine wpList_append_own _ rfl _ _ 32 rfl w4.heap.size 26 i0 _ 3 32 Tryz.underlying32 hi hz0 hz1 hz2 rfl (by decide) (.slice (some ⟨w4.heap.size, 0, none⟩) 0 0) 0 [] rfl HOw.out ⟨g2, 0, none⟩ M cv' (cellsOf row') rfl (by rw [cells_len, HM.out]) ?c1 ?c2 ?c3 ?c4 ?c5 ?_)
        case c1 =>
          intro j u hu
          have hjl : j < M * 3 := by
            have := (List.getElem?_eq_some_iff.1 hu).1
            rw [cells_len, HM.out] at this
            exact this
          rw [show (⟨g2, 0, none⟩ : Addr).add j = ⟨g2, j, none⟩ by unfold Addr.add; split <;> simp_all]
          exact (((Below.refl w4.heap.size w4).alloc (Nat.le_refl _) _).cell (p := ⟨g2, j, none⟩) (H4.out.own.lt g2 rfl).2).trans ((H4.out.own.cellAt j hjl).trans hu)
        case c2 => exact cells_one row'
        case c3 => unfold maxLen; omega
        case c4 => omega
        case c5 => simp
        intro v' w6 hown' hgrow _
        try rw [Nat.zero_add, List.nil_append] at hown'
        have HB46 : Hid (Below w4.heap.size w4 w6) := Lib.hid (below_own ((Below.refl _ _).alloc (Nat.le_refl _) _) (own_ge HOw.out) hgrow)
        obtain ⟨g3, c3, rfl, hg3, cur3, hgh⟩ : ∃ g3 c3, v' = .slice (some ⟨g3, 0, none⟩) M c3 ∧ w4.heap.size ≤ g3 ∧ ∃ cur, w6.heap[g3]? = some (.cells cur 26 (0, 0)) := by
          rcases hown'.2 with ⟨_, h0⟩ | ⟨g, cap, cur, e, hB, hg, _⟩
          · exact absurd h0 hM0
          · exact ⟨g, cap, e, hB, cur, hg⟩
        have HX := Lib.hid hown'
        have xf := Lib.frozen_of_heap hgh
        have xl := lt_of_block hgh
        have HG3 := Lib.hid hgh
        clear hown' hgrow hgh b1 hl4
        go_upto_region 6 with (fail)
        rw [show ((x : Int) % (M : Int)) = ((x % M : Nat) : Int) from (Int.natCast_emod x M).symm]
        obtain ⟨i1, HI⟩ : ∃ i1, Hid (x % M = i1) := ⟨_, Lib.hid rfl⟩
        rw [HI.out] at HMO ⊢
        have hil : i1 < row'.length := by rw [HM.out]; exact HMO
        obtain ⟨e0, e1, e2⟩ := cells_at row' i1 hil
        have y0 := (HX.out.cellAt (i1 * 3) (by omega)).trans e0
        have y1 := (HX.out.cellAt (i1 * 3 + 1) (by omega)).trans e1
        have y2 := (HX.out.cellAt (i1 * 3 + 2) (by omega)).trans e2
        clear e0 e1 e2
        go_upto_region 7 with (fail)
        refine wp_gen (fun W => Ls w nm' A' n' c' key' U' m' cu' R' p' cr' op' k' i' vs' s' B' q' d' cols' us' rs' l' (some ⟨g2, 0, none⟩) M cv' row' W ∧ Vals W W.heap.size (some ⟨g3, 0, none⟩) M (row'.set i1 nulV)) ⟨H4.out.later (((HB46.out.setCell (by show w4.heap.size ≤ g3; omega) _).setCell (by show w4.heap.size ≤ g3; omega) _).setCell (by show w4.heap.size ≤ g3; omega) _), vals_set HX.out i1 HMO⟩ fun w7 hw7 => ?_
        have H7 := Lib.hid hw7
        have hic : i1 < cols'.length := by
          have h3 := H3.out
          have hcl := H7.out.1.tb.hcols.1
          omega
        have hin : i1 < n' := by
          have h3 := H3.out
          omega
        have HFN : Hid (fitsI n' nm' key' cols' us' rs' (.mk op' ⟨k', i', vs'⟩ s' l') M (row'.set i1 nulV) = if cols'[i1].b = true then 8 else (if falseB (evalT cols' (row'.set i1 nulV) (.mk op' ⟨k', i', vs'⟩ s' l')) = true then 9 else 0)) := fits_null_at H7.out.1.tb.hcols.1 HM.out HF.out i1 hic
        have HFT2 := Lib.hid (fits_any nm' A' n' c' key' U' m' cu' R' p' cr' op' k' i' vs' s' B' q' d' cols' us' rs' l' (fun _ => True) 14 (some ⟨g3, 0, none⟩) M c3 (row'.set i1 nulV) (by unfold maxLen; omega) w7 H7.out.1.tb H7.out.2)
        have hbx := H7.out.1.box
        obtain ⟨V, HV⟩ : ∃ V, Hid (fitsI n' nm' key' cols' us' rs' (.mk op' ⟨k', i', vs'⟩ s' l') M (row'.set i1 nulV) = V) := ⟨_, Lib.hid rfl⟩
        rw [HV.out] at HFN
        obtain ⟨bb, HBB⟩ : ∃ b, Hid (cols'[i1].b = b) := ⟨_, Lib.hid rfl⟩
        obtain ⟨ff, HFF⟩ : ∃ b, Hid (falseB (evalT cols' (row'.set i1 nulV) (.mk op' ⟨k', i', vs'⟩ s' l')) = b) := ⟨_, Lib.hid rfl⟩
        rw [HBB.out, HFF.out] at HFN
        obtain ⟨a, hA', _⟩ := H7.out.1.tb.hcols.2.2 i1 hic
        subst hA'
        clear hw7 y0 y1 y2 xf xl HG3 HX HB46 HOw hi hz0 hz1 hz2 H4 hil hx hx2 hbx
        have hbx := H7.out.1.box
        cases bb with
        | true =>
          obtain rfl : V = 8 := by rw [HFN.out]; rfl
          go_wp2_with (first
            | (refine wpList_load_row rfl 31 (.tmp 3) rfl w.heap.size rfl 31 #[.string nm', .slice (some a) n' c', .int .i64 key', .slice U' m' cu', .slice R' p' cr', .string op', .int .i64 k', .int .i64 i', .string vs', .string s', .slice B' q' d'] (0, 0) _ hbx Tryz.underlying31 rfl tbSize ?_)
            | (go_at_call 10; (with_reducible refine HFT2.out.mono ?_); rintro e w8 ⟨rfl, hb8⟩; rw [HV.out]; have H4 := Lib.hid (H7.out.1.later hb8); clear hb8; have b1 := Lib.cell_of_heap H4.out.box 1; simp only [List.getElem?_toArray, List.getElem?_cons_zero, List.getElem?_cons_succ] at b1; have hl4 := lt_of_block H4.out.box; have hE := cl_at H4.out.tb.hcols hic; have z0 := hE.c0; have z1 := hE.c1; have z2 := hE.c2; rw [HBB.out] at z2; have hel := hE.lt; clear hE)
            | (go_at_call 9; (with_reducible refine (HA.out _ H4.out.pl).mono ?_); rintro e w5 ⟨rfl, hb5⟩; have HB5 := Lib.hid (H4.out.pl.trans (hb5.mono H4.out.pl.size)); clear hb5))
          go_ret
          exact ⟨rfl, HB5.out⟩
        | false =>
          cases ff with
          | true =>
            obtain rfl : V = 9 := by rw [HFN.out]; rfl
            go_wp2_with (first
              | (refine wpList_load_row rfl 31 (.tmp 3) rfl w.heap.size rfl 31 #[.string nm', .slice (some a) n' c', .int .i64 key', .slice U' m' cu', .slice R' p' cr', .string op', .int .i64 k', .int .i64 i', .string vs', .string s', .slice B' q' d'] (0, 0) _ hbx Tryz.underlying31 rfl tbSize ?_)
              | (go_at_call 10; (with_reducible refine HFT2.out.mono ?_); rintro e w8 ⟨rfl, hb8⟩; rw [HV.out]; have H4 := Lib.hid (H7.out.1.later hb8); clear hb8; have b1 := Lib.cell_of_heap H4.out.box 1; simp only [List.getElem?_toArray, List.getElem?_cons_zero, List.getElem?_cons_succ] at b1; have hl4 := lt_of_block H4.out.box; have hE := cl_at H4.out.tb.hcols hic; have z0 := hE.c0; have z1 := hE.c1; have z2 := hE.c2; rw [HBB.out] at z2; have hel := hE.lt; clear hE)
              | (go_at_call 9; (with_reducible refine (HA.out _ H4.out.pl).mono ?_); rintro e w5 ⟨rfl, hb5⟩; have HB5 := Lib.hid (H4.out.pl.trans (hb5.mono H4.out.pl.size)); clear hb5))
            go_ret
            exact ⟨rfl, HB5.out⟩
          | false =>
            obtain rfl : V = 0 := by rw [HFN.out]; rfl
            go_wp2_with (first
              | (refine wpList_load_row rfl 31 (.tmp 3) rfl w.heap.size rfl 31 #[.string nm', .slice (some a) n' c', .int .i64 key', .slice U' m' cu', .slice R' p' cr', .string op', .int .i64 k', .int .i64 i', .string vs', .string s', .slice B' q' d'] (0, 0) _ hbx Tryz.underlying31 rfl tbSize ?_)
              | (go_at_call 10; (with_reducible refine HFT2.out.mono ?_); rintro e w8 ⟨rfl, hb8⟩; rw [HV.out]; have H4 := Lib.hid (H7.out.1.later hb8); clear hb8; have b1 := Lib.cell_of_heap H4.out.box 1; simp only [List.getElem?_toArray, List.getElem?_cons_zero, List.getElem?_cons_succ] at b1; have hl4 := lt_of_block H4.out.box; have hE := cl_at H4.out.tb.hcols hic; have z0 := hE.c0; have z1 := hE.c1; have z2 := hE.c2; rw [HBB.out] at z2; have hel := hE.lt; clear hE)
              | (go_at_call 9; (with_reducible refine (HA.out _ H4.out.pl).mono ?_); rintro e w5 ⟨rfl, hb5⟩; have HB5 := Lib.hid (H4.out.pl.trans (hb5.mono H4.out.pl.size)); clear hb5))
            go_ret
            exact ⟨rfl, HB5.out⟩
      · have q1 : ((M : Int) != (n' : Int)) = true := by simp; omega
        have q2 : ((M : Int) == 0) = false := by simp [h2]
        clear h3 h2
        go_wp2_with (first
          | (refine wpList_load_row rfl 31 (.tmp 3) rfl w.heap.size rfl 31 #[.string nm', .slice A' n' c', .int .i64 key', .slice U' m' cu', .slice R' p' cr', .string op', .int .i64 k', .int .i64 i', .string vs', .string s', .slice B' q' d'] (0, 0) _ hbx Tryz.underlying31 rfl tbSize ?_)
          | (go_at_call 10; (with_reducible refine (HFT.out _ (Below.refl _ _)).mono ?_); rintro e w4 ⟨rfl, hb4⟩; rw [HF.out]; have H4 := Lib.hid (HS.out.later hb4); clear hb4; have b1 := Lib.cell_of_heap H4.out.box 1; simp only [List.getElem?_toArray, List.getElem?_cons_zero, List.getElem?_cons_succ] at b1; have hl4 := lt_of_block H4.out.box)
          | (go_at_call 9; (with_reducible refine (HA.out _ H4.out.pl).mono ?_); rintro e w5 ⟨rfl, hb5⟩; have HB5 := Lib.hid (H4.out.pl.trans (hb5.mono H4.out.pl.size)); clear hb5))
        go_ret
        exact ⟨rfl, HB5.out⟩
  · have q1 : (F != 0) = true := by simp [h1]
    go_wp2_with (first
      | (refine wpList_load_row rfl 31 (.tmp 3) rfl w.heap.size rfl 31 #[.string nm', .slice A' n' c', .int .i64 key', .slice U' m' cu', .slice R' p' cr', .string op', .int .i64 k', .int .i64 i', .string vs', .string s', .slice B' q' d'] (0, 0) _ hbx Tryz.underlying31 rfl tbSize ?_)
      | (go_at_call 10; (with_reducible refine (HFT.out _ (Below.refl _ _)).mono ?_); rintro e w4 ⟨rfl, hb4⟩; rw [HF.out]; have H4 := Lib.hid (HS.out.later hb4); clear hb4; have b1 := Lib.cell_of_heap H4.out.box 1; simp only [List.getElem?_toArray, List.getElem?_cons_zero, List.getElem?_cons_succ] at b1; have hl4 := lt_of_block H4.out.box)
      | (go_at_call 9; (with_reducible refine (HA.out _ H4.out.pl).mono ?_); rintro e w5 ⟨rfl, hb5⟩; have HB5 := Lib.hid (H4.out.pl.trans (hb5.mono H4.out.pl.size)); clear hb5))
    go_ret
    exact ⟨rfl, HB5.out⟩
end Go.Proofs.YtchebhdndkaheaaGreatDoor

/- What a row's condition on the listed variables says of the library's two errors. -/
namespace Go.Proofs.YtchebhdndkaheaaGreatDoor
open Go.RowKit Go.Lib

theorem es_star : "*" ++ "errors.errorString" = "*errors.errorString" := by decide
theorem es_row (u : TypeId) (h : Tryz.prog.typeName? 3 u = some "*errors.errorString") : u = 251 :=
  typeName_ptr_named (nm := "errors.errorString") (by rw [es_star]; kernel_rfl) (by kernel_rfl) (by decide) u (by rw [es_star]; exact h)
theorem errs_of {laid : List (String × DataW Unit)} {W : World} (h : laidMetH Tryz.prog laid W) (hp : (laid.all fun x => x.2.handleName?.isNone) = true) {x y z u : String × DataW Unit} {r : List (String × DataW Unit)}
    (hl : laid = x :: y :: z :: u :: ("strconv.ErrRange", Rows.laid_strconv_ErrRange) :: ("strconv.ErrSyntax", Rows.laid_strconv_ErrSyntax) :: r) : Errs W := by
  rw [MakeChecks.laidMetH_plain _ _ _ hp, hl] at h
  have h4 := h.tail.tail.tail.tail
  obtain ⟨a1, s1, hv1, _⟩ := laid_sentinel (g := 9) (ti := 167) (tp := 251) (te := 253) (ts := 9) h4 (by kernel_rfl) (by kernel_rfl) Tryz.underlying167 es_row Tryz.underlying251 Tryz.underlying253 rfl rfl Tryz.underlying9 (by kernel_rfl) (by kernel_rfl)
  obtain ⟨a2, s2, hv2, _⟩ := laid_sentinel (g := 8) (ti := 167) (tp := 251) (te := 253) (ts := 9) h4.tail (by kernel_rfl) (by kernel_rfl) Tryz.underlying167 es_row Tryz.underlying251 Tryz.underlying253 rfl rfl Tryz.underlying9 (by kernel_rfl) (by kernel_rfl)
  exact ⟨⟨_, _, by have := World.var?_cell (g := 8) (by kernel_rfl) hv2 0; simpa using this⟩, ⟨_, _, by have := World.var?_cell (g := 9) (by kernel_rfl) hv1 0; simpa using this⟩⟩
end Go.Proofs.YtchebhdndkaheaaGreatDoor

/- SchemaNulls: for every input the law returns true, and the input reads behind the call as it did. The row and its tied card. -/
namespace Go.Proofs.YtchebhdndkaheaaGreatDoor
open Go.ChangeShapes Go.WideShapes Go.ChangeAt Go.RowKit Go.ChangeMaps

theorem u8_wf6 {n : Int} (h : (Lit.int .u8 n).wf = true) : 0 ≤ n ∧ n < 256 := by
  simp only [Lit.wf, IntKind.min, IntKind.max, IntKind.signed, IntKind.bits, Bool.and_eq_true, decide_eq_true_eq, if_true] at h
  simp at h
  omega
theorem tyE_schemaNulls {W : World} (h : laidMetH Tryz.prog Rows.schemaNullsRow.laid W) : TyE W := by
  have h' : laidMet Tryz.prog Rows.schemaNullsRow.laid W := by
    rw [← MakeChecks.laidMetH_plain _ _ _ (by kernel_rfl)]
    exact h
  exact tyE_of_head h'.tail.tail.tail.tail.tail.tail
set_option maxRecDepth 100000 in
theorem schemaNulls_lifted (os : Os) (started : os.Started) (H : Type) (enc : TypeId × Value → H) :
    ReturnsInHanded {} Tryz.checked os 4 .any (fun w args => (Rows.schemaNullsSpec.pre enc Tryz.prog Tryz.f4 [] false w args ∧ laidMetH Tryz.prog Rows.schemaNullsRow.laid w) ∧ sizedMet enc Tryz.prog Tryz.f4 (OpenSpec.ofChange Rows.schemaNullsSpec) false w args)
      (Rows.schemaNullsSpec.post enc Tryz.prog Tryz.f4 false true false false) := by
  refine returns_laid_shaped (C := Tryz.checked) (X := fun w _ => laidMetH Tryz.prog Rows.schemaNullsRow.laid w) (fun _ _ _ hh h => h.of_heap hh) own started (by kernel_rfl) Tryz.func4
    (ChangeSpec.witness_shaped (enc := enc) (C := Tryz.checked) (os := os) (X := fun w _ => laidMetH Tryz.prog Rows.schemaNullsRow.laid w) false (World.laidAll Tryz.prog os Rows.schemaNullsRow.laid) #[.agg #[.string ⟨#[]⟩, .slice none 0 0, .int .i64 0, .slice none 0 0, .slice none 0 0, .string ⟨#[]⟩, .int .i64 0, .int .i64 0, .string ⟨#[]⟩, .string ⟨#[]⟩, .slice none 0 0], .slice none 0 0, .int .u8 0] 8 (World.laidAll_os _ _ _)
      (World.shaped_of_ZipB (by kernel_rfl) (by kernel_rfl)) (by kernel_rfl) (by kernel_rfl) (by kernel_rfl)
      (by rw [MakeChecks.laidMetH_plain _ _ _ (by kernel_rfl)]; exact laidMet_laidAll _ (by kernel_rfl) (by kernel_rfl))) ?_
  intro W base args ds gs before hval0 hW hL hsh
  have hval : ∀ (j : Nat) t v, Tryz.f4.params[j]? = some t → args[j]? = some v → Value.okWide Tryz.prog W .any base t v := hval0
  have hW' := hW
  have hlt : ∀ p ∈ before, p.block < W.heap.size := fun p hp => hW.lt p hp
  obtain ⟨p, q, hA0, hV, rfl, _, _⟩ := hW
  have hA : DataW.TrodAll enc Tryz.prog W 0 (fun _ => true) true Tryz.f4.params.toList args.toList ds p := hA0
  rw [Tryz.params4] at hA hval
  obtain ⟨v0, v1, v2, d0, d1, d2, p0, p1, p2, rfl, rfl, hp, h0, h1, h2⟩ := trodAll_three hA
  obtain ⟨rfl, rfl⟩ := trodVars_none hV
  obtain ⟨nm, A, n, c, key, U, m, cu, R, p, cr, op, k, i, vs, s, B, q, d, cols, us, rs, rfl, hT⟩ := open_table (hval 0 31 v0 rfl rfl) h0
  obtain ⟨D, m2, cv, row, rfl, hm, hv, hvs, _⟩ := open_vrow (hval 1 32 v1 rfl rfl) h1
  obtain ⟨x2, rfl, rfl, rfl, wx2⟩ := open_int Tryz.underlying5 (hval 2 5 v2 rfl rfl) h2
  obtain ⟨mx, hmx⟩ := maxLen_cell hsh
  have LE : LibE W := ⟨libs_of hL hmx (by kernel_rfl) rfl, errs_of hL (by kernel_rfl) rfl⟩
  have TY : TyE W := tyE_schemaNulls hL
  clear hA0 hval0
  simp only [List.append_nil] at hW' hlt
  subst hp
  refine (law_snulls nm A n c key U m cu R p cr op k i vs s B q d cols us rs D m2 cv row x2 W LE TY hT hm hv hvs (u8_wf6 wx2)).mono fun e W' ⟨he, hb⟩ => ?_
  subst he
  refine ⟨_, rfl, _, _, _, [], p0 ++ (p1 ++ []), [], hW', ?_, ?_, ?_, hb.frame _, fun h => by cases h⟩
  · exact trodAll_mk1 (shut_bool Tryz.underlying4 true)
  · exact trodAll_mk3 (Below.trod laidOutB_E readsTb rowTb h0 hb (fun x hx => hlt x (by simp [hx]))) (Below.trod laidOutB_E readsV rowV h1 hb (fun x hx => hlt x (by simp [hx]))) (shut_int Tryz.underlying5 wx2)
  · rfl

theorem schemaNulls_holds : Rows.SchemaNullsSaid :=
  OpenClaim.holds_of_wide 4 Tryz.f4 rfl rfl rfl rfl rfl rfl rfl ⟨rfl, rfl, rfl, rfl, rfl⟩ rfl rfl rfl rfl rfl (by kernel_rfl) Tryz.func4 (by kernel_rfl)
    (of_decide_eq_true (by kernel_rfl)) (by unfold Func.isWrapper; rw [if_neg (of_decide_eq_false (by kernel_rfl))]; exact ⟨rfl, rfl⟩)
    (fun os started H enc _ => schemaNulls_lifted os started H enc)

theorem schemaNulls_card : Rows.SchemaNullsCardSaid :=
  Claim7.holds_tied_plain_at .later [] _ _ _ _ schemaNulls_holds (fun _ h => by cases h) (by kernel_rfl) (fun _ h => by cases h) schemaNulls_row_tie rfl ⟨rfl, rfl⟩ (by kernel_rfl) rfl
    (fun f fn hf hfn => by
      obtain rfl : f = 4 := Option.some.inj ((show Tryz.prog.funcNamed "caddis/caddislaw06.SchemaNulls" = some 4 by kernel_rfl).symm.trans hf) |>.symm
      obtain rfl : fn = Tryz.f4 := (Option.some.inj (Tryz.func4.symm.trans hfn)).symm
      exact ⟨by kernel_rfl, fun j t ht => by
        rw [Tryz.params4] at ht
        have hm : t ∈ [31, 32, 5] := by simpa using Array.mem_of_getElem? ht
        have hall : ([31, 32, 5].all fun u => !Tryz.prog.wantsStandIn u) = true := by kernel_rfl
        exact (show Tryz.prog.wantsStandIn t = false by simpa using List.all_eq_true.1 hall t hm)⟩)
    (by kernel_rfl)
end Go.Proofs.YtchebhdndkaheaaGreatDoor

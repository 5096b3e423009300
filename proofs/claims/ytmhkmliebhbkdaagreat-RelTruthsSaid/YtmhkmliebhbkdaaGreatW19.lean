import Derived.Test.YtmhkmliebhbkdaaGreatW17
import Derived.Test.YtmhkmliebhbkdaaGreatW18
import Derived.Test.YtmhkmliebhbkdaaGreatW10

/- The law's table of rows of one number each. -/
namespace Go.Proofs.YtmhkmliebhbkdaaGreat
open Go.RowKit Go.Lib

theorem vfR_one {P : Program} {w : World} {B0 : Nat} {y : Int} (hb0 : B0 ≤ w.heap.size) : Rel1 P (vfR B0 [⟨1, y, ⟨#[]⟩⟩]) w (.ok (.value (.slice (some ⟨w.heap.size, 0, none⟩) 1 1)) (w.alloc (.cells #[.int .i64 1, .int .i64 y, .string ⟨#[]⟩] 26))) := by
  refine ⟨[], ⟨rfl, _, 1, 1, rfl, (fun e => by cases e), by omega, ⟨rfl, fun j hj => ⟨_, rfl, ?_, by simp⟩⟩, fun a' e => .inr (by injection e with e; subst e; exact hb0)⟩, (fun b hb => by cases hb), (Below.refl _ _).alloc (Nat.le_refl _) _⟩
  obtain rfl : j = 0 := by have : j < 1 := hj; omega
  rw [show (⟨w.heap.size, 0, none⟩ : Addr).add (0 * 3) = ⟨w.heap.size, 0, none⟩ by simp [Addr.add]]
  exact ⟨by simp [go_sem, fewL, Vl.few], by simp [go_sem, fewL, Vl.few], by simp [go_sem, fewL, Vl.few]; rfl⟩
def kN7 : Cl := ⟨⟨#[107]⟩, 1, true⟩
theorem Rws.room {w1 W : World} {A : Option Addr} {n c j : Nat} {rows : List (List Vl)} (h : Rws w1 W (.slice A n c) j rows) : n ≤ c := by
  obtain ⟨ss, ho, _⟩ := h
  rcases ho.2 with ⟨e, h0⟩ | ⟨g, cap, cur, e, hB, hg, hc, hm, hs, ht⟩
  · injection e with e1 e2 e3
    omega
  · injection e with e1 e2 e3
    omega
set_option maxRecDepth 100000 in
set_option maxHeartbeats 4000000 in
theorem some_any (a : Addr) (n cl : Nat) (xs : List Int) (w : World) (hl : xs.length = n) (hn : n ≤ 1000) (hx : ∀ j (h : j < xs.length), w.cell? (a.add j) = some (.int .i64 xs[j])) :
    Calls Tryz.prog 38 #[.slice (some a) n cl] w fun e w' => ∃ b RA rc, e = .returned (.agg #[.string ⟨#[116]⟩, .slice (some ⟨b, 0, none⟩) 1 1, .int .i64 0, .slice none 0 0, .slice none 0 0, .string ⟨#[]⟩, .int .i64 0, .int .i64 0, .string ⟨#[]⟩, .string ⟨#[]⟩, .slice none 0 0, .slice RA n rc]) ∧ ColS w' (some ⟨b, 0, none⟩) 1 [kN7] ∧ nilOk RA n rc ∧ n ≤ rc ∧ RowsAt w' (fun _ => False) RA n (xs.map fun x => [⟨1, x, ⟨#[]⟩⟩]) ∧ Below w.heap.size w w' := by
  have HX := Lib.hid hx
  have HL := Lib.hid hl
  clear hx hl
  go_enter Tryz.func38, Tryz.ntmps38
  go_upto_region 1 with (fail)
  have hst : (((w.alloc (.cells #[.string ⟨#[]⟩, .slice none 0 0, .int .i64 0, .slice none 0 0, .slice none 0 0, .string ⟨#[]⟩, .int .i64 0, .int .i64 0, .string ⟨#[]⟩, .string ⟨#[]⟩, .slice none 0 0, .slice none 0 0] 34)).alloc (.cells #[.string ⟨#[107]⟩, .int .i64 1, .bool true] 77)).alloc (.cells #[.string ⟨#[]⟩, .slice none 0 0, .int .i64 0, .slice none 0 0, .slice none 0 0, .string ⟨#[]⟩, .int .i64 0, .int .i64 0, .string ⟨#[]⟩, .string ⟨#[]⟩, .slice none 0 0, .slice none 0 0] 34)).heap[w.heap.size + 1 + 1]? = some (.cells #[.string ⟨#[]⟩, .slice none 0 0, .int .i64 0, .slice none 0 0, .slice none 0 0, .string ⟨#[]⟩, .int .i64 0, .int .i64 0, .string ⟨#[]⟩, .string ⟨#[]⟩, .slice none 0 0, .slice none 0 0] 34 (0, 0)) := alloc_at (by simp) _
  go_upto_region 2 with (refine wpList_store_row rfl 34 (.tmp 3) (.tmp 8) rfl (w.heap.size + 1 + 1) #[.string ⟨#[116]⟩, .slice (some ⟨w.heap.size + 1, 0, none⟩) 1 1, .int .i64 0, .slice none 0 0, .slice none 0 0, .string ⟨#[]⟩, .int .i64 0, .int .i64 0, .string ⟨#[]⟩, .string ⟨#[]⟩, .slice none 0 0, .slice none 0 0] rfl rfl 34 _ hst relSize rfl (rel_one _ _ _ _ _ _ _ _ _ _ _ _ _ _ _ _ _ _ _ _ _ _) ?_)
  refine wp_gen (fun W => Below w.heap.size w W ∧ W.heap[w.heap.size]? = some (.cells #[.string ⟨#[]⟩, .slice none 0 0, .int .i64 0, .slice none 0 0, .slice none 0 0, .string ⟨#[]⟩, .int .i64 0, .int .i64 0, .string ⟨#[]⟩, .string ⟨#[]⟩, .slice none 0 0, .slice none 0 0] 34 (0, 0)) ∧ W.heap[w.heap.size + 1]? = some (.cells #[.string ⟨#[107]⟩, .int .i64 1, .bool true] 77 (0, 0)) ∧ W.heap[w.heap.size + 1 + 1]? = some (.cells #[.string ⟨#[116]⟩, .slice (some ⟨w.heap.size + 1, 0, none⟩) 1 1, .int .i64 0, .slice none 0 0, .slice none 0 0, .string ⟨#[]⟩, .int .i64 0, .int .i64 0, .string ⟨#[]⟩, .string ⟨#[]⟩, .slice none 0 0, .slice none 0 0] 34 (0, 0))) ⟨below_row ((((Below.refl _ _).alloc (Nat.le_refl _) _).alloc (by simp) _).alloc (by simp; omega) _) _ (by omega), (setRow_other _ _ _ _ (by omega)).trans ((Below.heap_alloc _ _ _ (by simp; omega)).trans ((Below.heap_alloc _ _ _ (by simp)).trans (alloc_at rfl _))), (setRow_other _ _ _ _ (by omega)).trans ((Below.heap_alloc _ _ _ (by simp)).trans (alloc_at (by simp) _)), setRow_heap _ _ _ _ _ _ hst⟩ fun w2 hw2 => ?_
  have H2 := Lib.hid hw2
  have hd2 := lt_of_block hw2.2.2.2
  clear hw2 hst
  go_wp2_with (fail)
  go_loopw [4] (fun iv wr => ∃ (j : Nat) (RA : Option Addr) (rc : Nat), iv = .int .i64 j ∧ j ≤ n ∧ Hid ((Below w.heap.size w wr ∧ wr.heap[w.heap.size]? = some (.cells #[.string ⟨#[]⟩, .slice none 0 0, .int .i64 0, .slice none 0 0, .slice none 0 0, .string ⟨#[]⟩, .int .i64 0, .int .i64 0, .string ⟨#[]⟩, .string ⟨#[]⟩, .slice none 0 0, .slice none 0 0] 34 (0, 0)) ∧ wr.heap[w.heap.size + 1]? = some (.cells #[.string ⟨#[107]⟩, .int .i64 1, .bool true] 77 (0, 0)) ∧ wr.heap[w.heap.size + 1 + 1]? = some (.cells #[.string ⟨#[116]⟩, .slice (some ⟨w.heap.size + 1, 0, none⟩) 1 1, .int .i64 0, .slice none 0 0, .slice none 0 0, .string ⟨#[]⟩, .int .i64 0, .int .i64 0, .string ⟨#[]⟩, .string ⟨#[]⟩, .slice none 0 0, .slice RA j rc] 34 (0, 0))) ∧ w2.heap.size ≤ wr.heap.size ∧ Rws w2 wr (.slice RA j rc) j ((xs.take j).map fun x => fewL [⟨1, x, ⟨#[]⟩⟩]))) (fun iv _ => n - (intOf iv).toNat)
  case atStart => exact ⟨0, none, 0, rfl, by omega, Lib.hid ⟨H2.out, Nat.le_refl _, [], World.ownsRow_nil _ _ _ _, rfl, fun q hq => absurd hq (by simp)⟩⟩
  case round =>
    obtain ⟨j, RA, rc, rfl, hj, HS⟩ := hrel
    have hsz := HS.out.1.1.size
    have x11 := Lib.cell_of_heap HS.out.1.2.2.2 11
    simp only [List.getElem?_toArray, List.getElem?_cons_zero, List.getElem?_cons_succ] at x11
    have hzd := lt_of_block HS.out.1.2.2.2
    by_cases hlt : j < n
    · have hjl : j < xs.length := by rw [HL.out]; exact hlt
      have hc := HX.out j hjl
      have hc' := (HS.out.1.1.cell (World.block_lt_of_cell? w _ hc)).trans hc
      have hel := World.block_lt_of_cell? wr _ hc'
      have HE := Lib.hid hc'
      obtain ⟨y, HY⟩ : ∃ r, Hid (xs[j] = r) := ⟨_, Lib.hid rfl⟩
      rw [HY.out] at HE
      clear hc hc'
      go_upto_region 5 with (fail)
      refine detL_begin [.val (.pointer (some ⟨w.heap.size + 1 + 1, 11, none⟩)), .val (.slice RA j rc), .val (.slice (some a) n cl), .val (.int .i64 j), .val (.pointer (some (a.add j))), .val (.int .i64 y), .val (.agg #[.int .i64 1, .int .i64 y, .string ⟨#[]⟩]), .rel (vfR wr.heap.size [⟨1, y, ⟨#[]⟩⟩]), .rel (nsR wr.heap.size [⟨1, y, ⟨#[]⟩⟩])] 9 (by kernel_rfl) ?_
      refine detL_val (by kernel_rfl) (yields_of rfl fun w5 hb5 => ?_) ?_
      · have hc5 := bcellD hb5
        clear hb5
        go_simp
        exact Det1_same
      simp only [Act.put, List.setIfInBounds_toArray, List.set_cons_zero, List.set_cons_succ]
      refine detL_val (by kernel_rfl) (yields_of rfl fun w5 hb5 => ?_) ?_
      · have hc5 := bcellD hb5
        clear hb5
        go_simp
        exact Det1_same
      simp only [Act.put, List.setIfInBounds_toArray, List.set_cons_zero, List.set_cons_succ]
      refine detL_val (by kernel_rfl) (yields_of rfl fun w5 hb5 => ?_) ?_
      · have hc5 := bcellD hb5
        clear hb5
        go_simp
        exact Det1_same
      simp only [Act.put, List.setIfInBounds_toArray, List.set_cons_zero, List.set_cons_succ]
      refine detL_val (by kernel_rfl) (yields_of rfl fun w5 hb5 => ?_) ?_
      · have hc5 := bcellD hb5
        clear hb5
        go_simp
        exact Det1_same
      simp only [Act.put, List.setIfInBounds_toArray, List.set_cons_zero, List.set_cons_succ]
      refine detL_val (by kernel_rfl) (yields_of rfl fun w5 hb5 => ?_) ?_
      · have hc5 := bcellD hb5
        clear hb5
        go_simp
        exact Det1_same
      simp only [Act.put, List.setIfInBounds_toArray, List.set_cons_zero, List.set_cons_succ]
      refine detL_val (by kernel_rfl) (yields_of rfl fun w5 hb5 => ?_) ?_
      · have hc5 := bcellD hb5
        have m1 := (hb5.cell (p := a.add j) hel).trans HE.out
        clear hb5
        go_simp
        exact Det1_same
      simp only [Act.put, List.setIfInBounds_toArray, List.set_cons_zero, List.set_cons_succ]
      refine detL_val (by kernel_rfl) (yields_of rfl fun w5 hb5 => ?_) ?_
      · have hc5 := bcellD hb5
        clear hb5
        go_simp
        exact Det1_same
      simp only [Act.put, List.setIfInBounds_toArray, List.set_cons_zero, List.set_cons_succ]
      refine detL_rel (by kernel_rfl) (yields_rel (by rfl) vfR_lasting fun w5 hw5 => ?_) ?_
      · have hb5 := hw5.below
        have hc5 := bcellD hb5
        have HBx := Lib.hid hb5
        clear hb5 hw5
        go_simp
        exact vfR_one (((Below.refl _ _).drew.trans HBx.out : Below wr.heap.size wr w5).size)
      rintro v G7 w5 hw5
      have qq : vfR wr.heap.size [⟨1, y, ⟨#[]⟩⟩] v G7 w5 := (hw5.ents _ List.mem_cons_self).1
      clear hw5
      unfold vfR at qq
      obtain ⟨rfl, D7, m7, c7, rfl, -⟩ := qq
      simp only [Act.put, List.setIfInBounds_toArray, List.set_cons_zero, List.set_cons_succ]
      refine detL_rel (by kernel_rfl) (yields_rel (by rfl) nsR_lasting fun w5 hw5 => ?_) ?_
      · have hb5 := hw5.below
        have hc5 := bcellD hb5
        have HBx := Lib.hid hb5
        have q7 : vfR wr.heap.size [⟨1, y, ⟨#[]⟩⟩] (.slice D7 m7 c7) [] w5 := (hw5.ents _ (List.mem_filter.2 ⟨List.mem_cons_self, by first | kernel_rfl | simp [depB, Region.binds] | decide⟩)).1
        clear hb5 hw5
        go_simp
        exact nsR_made q7
      rintro v G8 w5 hw5
      have qq : nsR wr.heap.size [⟨1, y, ⟨#[]⟩⟩] v G8 w5 := (hw5.ents _ List.mem_cons_self).1
      clear hw5
      unfold nsR at qq
      obtain ⟨b5, D8, m8, c8, rfl, rfl, -⟩ := qq
      simp only [Act.put, List.setIfInBounds_toArray, List.set_cons_zero, List.set_cons_succ]
      refine detL_tail rfl (by kernel_rfl) fun w11 hw11 => ?_
      have q8 : nsR wr.heap.size [⟨1, y, ⟨#[]⟩⟩] (.slice (some ⟨b5, 0, none⟩) 1 1) [b5] w11 := (hw11.ents _ List.mem_cons_self).1
      have hbel : Below wr.heap.size wr w11 := (Below.refl _ _).drew.trans hw11.below
      clear hw11
      obtain ⟨b9, D9, m9, c9, e9, _, h9, k1, k2, k3, k4⟩ := q8
      obtain rfl : b5 = b9 := by injection e9
      have hs11 := hbel.size
      have hb11 := (hbel.block _ hzd).trans HS.out.1.2.2.2
      obtain ⟨ss, ho, hl, hat⟩ := HS.out.2.2.below hbel
      have hss : ss.length = j := by have := ho.1; omega
      have HO1 := Lib.hid ho
      have HAT := Lib.hid (And.intro hl hat)
      have HB1 := Lib.hid hbel
      have HX1 := Lib.hid hb11
      have HZ5 := Lib.hid h9
      have HK := Lib.hid (And.intro k1 (And.intro k2 (And.intro k3 k4)))
      have hl5 := lt_of_block h9
      clear hbel hb11 ho hl hat h9 k1 k2 k3 k4 x11 hel
      obtain ⟨i1, hi, hz0, hz1, hz2⟩ := info_parts infoVs
      go_wp2_with (at_builtin; refine wpList_append_kept rfl _ _ 32 rfl w2.heap.size 47 i1 _ 1 24 Tryz.underlying32 hi hz0 hz1 hz2 rfl (by decide) (.slice RA j rc) j ss rfl HO1.out ⟨b5, 0, none⟩ 1 1 [.slice D9 m9 c9] rfl rfl ?c1 ?c2 (by omega) ?c3 ?c4 ?c5 ?_)
      case c1 =>
        intro q u hq
        have := newSl_cells HZ5.out q u hq
        first
          | exact this
          | (rwa [show (⟨b5, 0, none⟩ : Addr).add q = ⟨b5, q, none⟩ by unfold Addr.add; split <;> simp_all] at this)
      case c2 => first | (intro u hu; simp at hu; subst hu; rfl) | rfl | simp [Value.oneCell']
      case c3 => unfold maxLen; omega
      case c4 => omega
      case c5 => have := HS.out.2.1; omega
      intro v' w6 hown' hgrow hwhere
      obtain ⟨RA', rc', rfl⟩ := own_form hown'
      have hne : ∀ q, (Value.slice RA j rc).ownBlock = some q → w2.heap.size ≤ q := own_geN HO1.out
      have F : ∀ q, q < w2.heap.size → w6.heap[q]? = wr.heap[q]? := fun q hq => (hgrow.block q (by have := HS.out.2.1; omega) (fun e => by have := hne _ e.symm; omega)).trans (HB1.out.block q (by have := HS.out.2.1; omega))
      have hw2w := H2.out.1.size
      have hs6 := hgrow.size
      have HBN : Hid (Below w.heap.size w w6 ∧ w6.heap[w.heap.size]? = some (.cells #[.string ⟨#[]⟩, .slice none 0 0, .int .i64 0, .slice none 0 0, .slice none 0 0, .string ⟨#[]⟩, .int .i64 0, .int .i64 0, .string ⟨#[]⟩, .string ⟨#[]⟩, .slice none 0 0, .slice none 0 0] 34 (0, 0)) ∧ w6.heap[w.heap.size + 1]? = some (.cells #[.string ⟨#[107]⟩, .int .i64 1, .bool true] 77 (0, 0)) ∧ w6.heap[w.heap.size + 1 + 1]? = some (.cells #[.string ⟨#[116]⟩, .slice (some ⟨w.heap.size + 1, 0, none⟩) 1 1, .int .i64 0, .slice none 0 0, .slice none 0 0, .string ⟨#[]⟩, .int .i64 0, .int .i64 0, .string ⟨#[]⟩, .string ⟨#[]⟩, .slice none 0 0, .slice RA j rc] 34 (0, 0))) := Lib.hid ⟨⟨hgrow.os.trans (HB1.out.os.trans HS.out.1.1.os), hgrow.tape.trans (HB1.out.tape.trans HS.out.1.1.tape), hgrow.output.trans (HB1.out.output.trans HS.out.1.1.output), by have := HS.out.2.1; omega, fun q hq => (F q (by omega)).trans (HS.out.1.1.block q hq)⟩, (F _ (by omega)).trans HS.out.1.2.1, (F _ (by omega)).trans HS.out.1.2.2.1, (F _ hd2).trans HS.out.1.2.2.2⟩
      have HRN : Hid (Rws w2 w6 (.slice RA' (j + 1) rc') (j + 1) (((xs.take j).map fun x => fewL [⟨1, x, ⟨#[]⟩⟩]) ++ [fewL [⟨1, y, ⟨#[]⟩⟩]])) := Lib.hid (Rws.snoc hss HAT.out.1 HAT.out.2 hown' hgrow hwhere HK.out.1 HK.out.2.1 HK.out.2.2.1 (fun a' e => (HK.out.2.2.2 a' e).imp id fun h => ⟨by have := HS.out.2.1; omega, fun e' => by
        obtain ⟨ss', ho', _⟩ := HS.out.2.2
        have := (ho'.lt _ e').2
        omega⟩))
      have bf := Lib.frozen_of_heap HBN.out.2.2.2
      have x11 := Lib.cell_of_heap HBN.out.2.2.2 11
      simp only [List.getElem?_toArray, List.getElem?_cons_zero, List.getElem?_cons_succ] at x11
      have hd6 := lt_of_block HBN.out.2.2.2
      clear hown' hgrow hwhere
      go_wp2_with (fail)
      go_roundw
      case rel => exact ⟨j + 1, RA', rc', by go_num, by omega, Lib.hid ⟨⟨HBN.out.1.setCell (by show w.heap.size ≤ w.heap.size + 1 + 1; omega) _, (Below.heap_setCell _ _ _ _ (by show w.heap.size ≠ w.heap.size + 1 + 1; omega)).trans HBN.out.2.1, (Below.heap_setCell _ _ _ _ (by show w.heap.size + 1 ≠ w.heap.size + 1 + 1; omega)).trans HBN.out.2.2.1, any_set6 HBN.out.2.2.2 11 _⟩, by have := HS.out.2.1; simp [World.setCell]; omega, by rw [List.take_succ_eq_append_getElem hjl, List.map_append, HY.out]; exact HRN.out.setd hd2 11 _⟩⟩
      case measure => simp [intOf]; omega
    · obtain rfl : j = n := by omega
      have hxt : xs.take j = xs := List.take_of_length_le (by have := HL.out; omega)
      go_upto_region 6 with (fail)
      have hbx := HS.out.1.2.2.2
      have hres := HS.out.1.2.1
      clear x11
      go_wp2_with (first
        | (refine wpList_load_row rfl 34 (.tmp 3) rfl (w.heap.size + 1 + 1) rfl 34 #[.string ⟨#[116]⟩, .slice (some ⟨w.heap.size + 1, 0, none⟩) 1 1, .int .i64 0, .slice none 0 0, .slice none 0 0, .string ⟨#[]⟩, .int .i64 0, .int .i64 0, .string ⟨#[]⟩, .string ⟨#[]⟩, .slice none 0 0, (.slice RA j rc)] (0, 0) _ hbx Tryz.underlying34 rfl relSize ?_)
        | (refine wpList_store_row rfl 34 (.tmp 2) (.tmp 26) rfl w.heap.size #[.string ⟨#[116]⟩, .slice (some ⟨w.heap.size + 1, 0, none⟩) 1 1, .int .i64 0, .slice none 0 0, .slice none 0 0, .string ⟨#[]⟩, .int .i64 0, .int .i64 0, .string ⟨#[]⟩, .string ⟨#[]⟩, .slice none 0 0, (.slice RA j rc)] rfl rfl 34 _ hres relSize rfl (rel_one _ _ _ _ _ _ _ _ _ _ _ _ _ _ _ _ _ _ _ _ _ _) ?_))
      have h2 := HS.out.2.2
      rw [hxt] at h2
      refine bodyPost_ret (results_cell_row rfl _ _ w.heap.size 34 #[.string ⟨#[116]⟩, .slice (some ⟨w.heap.size + 1, 0, none⟩) 1 1, .int .i64 0, .slice none 0 0, .slice none 0 0, .string ⟨#[]⟩, .int .i64 0, .int .i64 0, .string ⟨#[]⟩, .string ⟨#[]⟩, .slice none 0 0, (.slice RA j rc)] (0, 0) _ rfl (setRow_heap _ _ _ _ _ _ hres) Tryz.underlying34 rfl relSize) rfl ⟨w.heap.size + 1, RA, rc, rfl, ?_, h2.nil, h2.room, ?_, below_row HS.out.1.1 _ (Nat.le_refl _)⟩
      · have hk := (setRow_other wr w.heap.size _ #[.string ⟨#[116]⟩, .slice (some ⟨w.heap.size + 1, 0, none⟩) 1 1, .int .i64 0, .slice none 0 0, .slice none 0 0, .string ⟨#[]⟩, .int .i64 0, .int .i64 0, .string ⟨#[]⟩, .string ⟨#[]⟩, .slice none 0 0, (.slice RA j rc)] (by omega)).trans HS.out.1.2.2.1
        refine ⟨rfl, by unfold maxLen; omega, fun q hq => ⟨_, rfl, ?_⟩⟩
        obtain rfl : q = 0 := by have : q < 1 := hq; omega
        rw [show (⟨w.heap.size + 1, 0, none⟩ : Addr).add (0 * 3) = ⟨w.heap.size + 1, 0, none⟩ by simp [Addr.add]]
        exact ⟨(Lib.cell_of_heap hk 0).trans rfl, (Lib.cell_of_heap hk 1).trans rfl, (Lib.cell_of_heap hk 2).trans rfl⟩
      · exact h2.rows hn (fun b hb => setRow_other _ _ _ _ (by omega)) (fun _ _ h => h)
end Go.Proofs.YtmhkmliebhbkdaaGreat

/- The law's example. -/
namespace Go.Proofs.YtmhkmliebhbkdaaGreat
open Go.RowKit Go.Lib

theorem ints3 (w : World) (x y z : Int) (t : TypeId) : ∀ j (h : j < [x, y, z].length), (w.alloc (.cells #[.int .i64 x, .int .i64 y, .int .i64 z] t)).cell? ((⟨w.heap.size, 0, none⟩ : Addr).add j) = some (.int .i64 [x, y, z][j]) := fun j h => by
  have h : j < 3 := h
  rcases (show j = 0 ∨ j = 1 ∨ j = 2 by omega) with rfl | rfl | rfl <;> simp [go_sem, Addr.add]
def one7 (x : Int) : List Vl := [⟨1, x, ⟨#[]⟩⟩]
def lt7 : Ex := twoT ⟨#[60]⟩ (colT ⟨#[107]⟩) (litT ⟨1, 3, ⟨#[]⟩⟩)
theorem where7 : whereR [kN7] [one7 1, one7 2, one7 3] lt7 = ([one7 1, one7 2], 0) := by kernel_rfl
theorem rel7a : relI 1 ⟨#[116]⟩ 0 [kN7] [] [] (.mk ⟨#[]⟩ ⟨0, 0, ⟨#[]⟩⟩ ⟨#[]⟩ []) 3 [one7 1, one7 2, one7 3] = 0 := by kernel_rfl
theorem rel7b : relI 1 ⟨#[116]⟩ 0 [kN7] [] [] (.mk ⟨#[]⟩ ⟨0, 0, ⟨#[]⟩⟩ ⟨#[]⟩ []) 3 [one7 1, one7 2, one7 2] = 7 := by kernel_rfl
theorem table7 : tableB 1 ⟨#[116]⟩ 0 [kN7] [] [] (.mk ⟨#[]⟩ ⟨0, 0, ⟨#[]⟩⟩ ⟨#[]⟩ []) = true := by kernel_rfl
theorem find7 : idxP (firstP 0 ⟨1, 2, ⟨#[]⟩⟩) [one7 1, one7 2, one7 3] 0 = 1 := by kernel_rfl
theorem tr7 (W : World) {n : Nat} (hn : W.heap.size = n) : Tr (W.alloc (.cells #[.string ⟨#[99, 111, 108]⟩, .int .i64 0, .int .i64 0, .string ⟨#[]⟩, .string ⟨#[107]⟩, .slice none 0 0, .string ⟨#[108, 105, 116]⟩, .int .i64 1, .int .i64 3, .string ⟨#[]⟩, .string ⟨#[]⟩, .slice none 0 0] 29)) (fun _ => True) 1 lt7 (.slice (some ⟨n, 0, none⟩) 2 2) := by
  subst hn
  exact two_tr (x := colT ⟨#[107]⟩) (y := litT ⟨1, 3, ⟨#[]⟩⟩) ⟨#[60]⟩ (leaf_tr W _ 0 _ _ _ (by decide)) (leaf_tr W _ 0 _ _ _ (by decide)) trivial
theorem tbs7 {W : World} {b : Nat} (h : ColS W (some ⟨b, 0, none⟩) 1 [kN7]) : TbS W ⟨#[116]⟩ (some ⟨b, 0, none⟩) 1 1 0 none 0 0 none 0 0 ⟨#[]⟩ 0 0 ⟨#[]⟩ ⟨#[]⟩ none 0 0 [kN7] [] [] [] (fun _ => True) 0 where
  hcols := h
  cap := Nat.le_refl _
  hus := ⟨rfl, by unfold maxLen; omega, fun j hj => absurd hj (by simp)⟩
  hrs := ⟨rfl, by unfold maxLen; omega, fun j hj => absurd hj (by simp)⟩
  chk := leaf_tr W _ 0 _ _ _ (by decide)
  len := rfl
  hnm := by decide
  nc := fun y hy => by
    obtain rfl : y = kN7 := by simpa using hy
    decide
  nr := fun y hy => by cases hy
set_option maxRecDepth 100000 in
set_option maxHeartbeats 4000000 in
theorem awake7_any (w : World) : Calls Tryz.prog 17 #[] w fun e w' => e = .returned (.bool true) ∧ Below w.heap.size w w' := by
  go_enter Tryz.func17, Tryz.ntmps17
  go_upto_region 1 with (fail)
  go_upto_region 2 with (first
    | (go_at_call 38; (with_reducible refine (some_any ⟨w.heap.size, 0, none⟩ 3 3 [1, 2, 3] _ rfl (by omega) (ints3 w 1 2 3 _)).mono ?_); rintro e w1 ⟨b, RA, rc, rfl, k1, k2, k4, k3, hb1⟩; have H1 := Lib.hid (And.intro k1 (And.intro k2 (And.intro k3 (((Below.refl _ _).alloc (Nat.le_refl _) _).trans (hb1.mono (by simp)))))); clear k1 k2 k3 hb1))
  obtain ⟨a, rfl⟩ : ∃ a, RA = some a := by
    obtain ⟨a, _, _, _, e, _⟩ := H1.out.2.2.1.2.2 0 (by simp)
    exact ⟨a, e⟩
  refine wp_gen (fun W => (Below w.heap.size w W ∧ ColS W (some ⟨b, 0, none⟩) 1 [kN7] ∧ RowsAt W (fun _ => False) (some a) 3 [one7 1, one7 2, one7 3]) ∧ W.heap[w1.heap.size]? = some (.cells #[.string ⟨#[116]⟩, .slice (some ⟨b, 0, none⟩) 1 1, .int .i64 0, .slice none 0 0, .slice none 0 0, .string ⟨#[]⟩, .int .i64 0, .int .i64 0, .string ⟨#[]⟩, .string ⟨#[]⟩, .slice none 0 0, .slice (some a) 3 rc] 34 (0, 0))) (by
    have hb : Below w1.heap.size w1 (w1.alloc (.cells #[.string ⟨#[116]⟩, .slice (some ⟨b, 0, none⟩) 1 1, .int .i64 0, .slice none 0 0, .slice none 0 0, .string ⟨#[]⟩, .int .i64 0, .int .i64 0, .string ⟨#[]⟩, .string ⟨#[]⟩, .slice none 0 0, .slice (some a) 3 rc] 34)) := (Below.refl _ _).alloc (Nat.le_refl _) _
    exact ⟨⟨H1.out.2.2.2.alloc H1.out.2.2.2.size _, H1.out.1.below hb, H1.out.2.2.1.below hb⟩, alloc_at rfl _⟩) fun w2 hw2 => ?_
  have H2 := Lib.hid hw2
  have hz2 := lt_of_block hw2.2
  clear hw2 H1
  have HW2 : Hid (Below w2.heap.size w2 (w2.alloc (.cells #[.string ⟨#[99, 111, 108]⟩, .int .i64 0, .int .i64 0, .string ⟨#[]⟩, .string ⟨#[107]⟩, .slice none 0 0, .string ⟨#[108, 105, 116]⟩, .int .i64 1, .int .i64 3, .string ⟨#[]⟩, .string ⟨#[]⟩, .slice none 0 0] 29))) := Lib.hid ((Below.refl _ _).alloc (Nat.le_refl _) _)
  have HWH : Hid (Calls Tryz.prog 14 #[.agg #[.string ⟨#[116]⟩, .slice (some ⟨b, 0, none⟩) 1 1, .int .i64 0, .slice none 0 0, .slice none 0 0, .string ⟨#[]⟩, .int .i64 0, .int .i64 0, .string ⟨#[]⟩, .string ⟨#[]⟩, .slice none 0 0, .slice (some a) 3 rc], .agg #[.string ⟨#[60]⟩, .int .i64 0, .int .i64 0, .string ⟨#[]⟩, .string ⟨#[]⟩, .slice (some ⟨w2.heap.size, 0, none⟩) 2 2]] (w2.alloc (.cells #[.string ⟨#[99, 111, 108]⟩, .int .i64 0, .int .i64 0, .string ⟨#[]⟩, .string ⟨#[107]⟩, .slice none 0 0, .string ⟨#[108, 105, 116]⟩, .int .i64 1, .int .i64 3, .string ⟨#[]⟩, .string ⟨#[]⟩, .slice none 0 0] 29)) fun e w' => ∃ A' c', e = .returned (.tuple #[.slice A' 2 c', .int .i64 0]) ∧ RowsAt w' (fun _ => False) A' 2 [one7 1, one7 2] ∧ Below (w2.alloc (.cells #[.string ⟨#[99, 111, 108]⟩, .int .i64 0, .int .i64 0, .string ⟨#[]⟩, .string ⟨#[107]⟩, .slice none 0 0, .string ⟨#[108, 105, 116]⟩, .int .i64 1, .int .i64 3, .string ⟨#[]⟩, .string ⟨#[]⟩, .slice none 0 0] 29)).heap.size (w2.alloc (.cells #[.string ⟨#[99, 111, 108]⟩, .int .i64 0, .int .i64 0, .string ⟨#[]⟩, .string ⟨#[107]⟩, .slice none 0 0, .string ⟨#[108, 105, 116]⟩, .int .i64 1, .int .i64 3, .string ⟨#[]⟩, .string ⟨#[]⟩, .slice none 0 0] 29)) w') := Lib.hid (by
    refine Calls.mono (where_any ⟨#[116]⟩ (some ⟨b, 0, none⟩) 1 1 0 none 0 0 none 0 0 ⟨#[]⟩ 0 0 ⟨#[]⟩ ⟨#[]⟩ none 0 0 (some a) 3 rc [kN7] [one7 1, one7 2, one7 3] (fun _ => False) ⟨#[60]⟩ 0 0 ⟨#[]⟩ ⟨#[]⟩ (some ⟨w2.heap.size, 0, none⟩) 2 2 [colT ⟨#[107]⟩, litT ⟨1, 3, ⟨#[]⟩⟩] (fun _ => True) 1 _ (H2.out.1.2.1.below HW2.out) (fun e => by cases e) (H2.out.1.2.2.below HW2.out) (tr7 w2 rfl)) ?_
    rintro e w' ⟨A', n', c', he, h1, h2, h3⟩
    rw [show (Ex.mk ⟨#[60]⟩ ⟨0, 0, ⟨#[]⟩⟩ ⟨#[]⟩ [colT ⟨#[107]⟩, litT ⟨1, 3, ⟨#[]⟩⟩]) = lt7 from rfl, where7] at he h2
    obtain rfl : 2 = n' := h2.1
    exact ⟨A', c', he, h2, h3⟩)
  go_upto_region 3 with (first
    | (refine wpList_load_row rfl 34 (.tmp 1) rfl w1.heap.size rfl 34 #[.string ⟨#[116]⟩, .slice (some ⟨b, 0, none⟩) 1 1, .int .i64 0, .slice none 0 0, .slice none 0 0, .string ⟨#[]⟩, .int .i64 0, .int .i64 0, .string ⟨#[]⟩, .string ⟨#[]⟩, .slice none 0 0, .slice (some a) 3 rc] (0, 0) _ H2.out.2 Tryz.underlying34 rfl relSize ?_)
    | (go_at_call 14; (with_reducible refine HWH.out.mono ?_); rintro e w3 ⟨A3, c3, rfl, k1, hb3⟩; have H3 := Lib.hid (And.intro k1 (HW2.out.trans (hb3.mono HW2.out.size))); clear k1 hb3))
  refine wp_gen (fun W => (Below w.heap.size w W ∧ ColS W (some ⟨b, 0, none⟩) 1 [kN7] ∧ RowsAt W (fun _ => False) (some a) 3 [one7 1, one7 2, one7 3]) ∧ RowsAt W (fun _ => False) A3 2 [one7 1, one7 2] ∧ W.heap[w1.heap.size]? = some (.cells #[.string ⟨#[116]⟩, .slice (some ⟨b, 0, none⟩) 1 1, .int .i64 0, .slice none 0 0, .slice none 0 0, .string ⟨#[]⟩, .int .i64 0, .int .i64 0, .string ⟨#[]⟩, .string ⟨#[]⟩, .slice none 0 0, .slice (some a) 3 rc] 34 (0, 0))) ⟨⟨H2.out.1.1.trans (H3.out.2.mono H2.out.1.1.size), H2.out.1.2.1.below H3.out.2, H2.out.1.2.2.below H3.out.2⟩, H3.out.1, (H3.out.2.block _ hz2).trans H2.out.2⟩ fun w4 hw4 => ?_
  have H4 := Lib.hid hw4
  have g0 := Lib.cell_of_heap hw4.2.2 0
  have g1 := Lib.cell_of_heap hw4.2.2 1
  have g2 := Lib.cell_of_heap hw4.2.2 2
  have g3 := Lib.cell_of_heap hw4.2.2 3
  have g4 := Lib.cell_of_heap hw4.2.2 4
  have g5 := Lib.cell_of_heap hw4.2.2 5
  have g6 := Lib.cell_of_heap hw4.2.2 6
  have g7 := Lib.cell_of_heap hw4.2.2 7
  have g8 := Lib.cell_of_heap hw4.2.2 8
  have g9 := Lib.cell_of_heap hw4.2.2 9
  have g10 := Lib.cell_of_heap hw4.2.2 10
  have g11 := Lib.cell_of_heap hw4.2.2 11
  simp only [List.getElem?_toArray, List.getElem?_cons_zero, List.getElem?_cons_succ] at g0 g1 g2 g3 g4 g5 g6 g7 g8 g9 g10 g11
  have hz4 := lt_of_block hw4.2.2
  clear hw4 HWH HW2 H2 H3 hz2
  have hrc : 2 ≤ rc := by omega
  have HA2 : Hid (RowsAt w4 (fun _ => False) (some a) 2 [one7 1, one7 2]) := Lib.hid ⟨rfl, by omega, fun j hj => by
    have hj' : j < 2 := hj
    obtain ⟨a', D, m, c, e, h1, h2, h3, h4, h5⟩ := H4.out.1.2.2.2.2 j (by show j < 3; omega)
    refine ⟨a', D, m, c, e, h1, h2, h3, ?_, h5⟩
    rcases (show j = 0 ∨ j = 1 by omega) with rfl | rfl <;> exact h4⟩
  have HSR : Hid (∀ W, Below w4.heap.size w4 W → Calls Tryz.prog 16 #[.slice A3 2 c3, .slice (some a) 2 rc] W fun e w' => e = .returned (.bool true) ∧ Below W.heap.size W w') := Lib.hid fun W hW => sameRows_eq (fun _ => False) (fun _ => False) A3 2 c3 (some a) rc [one7 1, one7 2] W (H4.out.2.1.below hW) (HA2.out.below hW)
  have HFD : Hid (∀ W, Below w4.heap.size w4 W → Calls Tryz.prog 39 #[.agg #[.string ⟨#[116]⟩, .slice (some ⟨b, 0, none⟩) 1 1, .int .i64 0, .slice none 0 0, .slice none 0 0, .string ⟨#[]⟩, .int .i64 0, .int .i64 0, .string ⟨#[]⟩, .string ⟨#[]⟩, .slice none 0 0, .slice (some a) 3 rc], .agg #[.int .i64 1, .int .i64 2, .string ⟨#[]⟩]] W fun e w' => e = .returned (.int .i64 1) ∧ Below W.heap.size W w') := Lib.hid fun W hW => by
    have h := find_any ⟨#[116]⟩ (some ⟨b, 0, none⟩) 1 1 0 none 0 0 none 0 0 ⟨#[]⟩ 0 0 ⟨#[]⟩ ⟨#[]⟩ none 0 0 (some a) 3 rc [kN7] [] [] [] (fun _ => True) 0 [one7 1, one7 2, one7 3] (fun _ => False) ⟨1, 2, ⟨#[]⟩⟩ 0 W rfl (tbs7 (H4.out.1.2.1.below hW)) (H4.out.1.2.2.below hW) table7
    rw [find7] at h
    exact h
  have HCA : Hid (∀ W, Below w4.heap.size w4 W → Calls Tryz.prog 40 #[.agg #[.string ⟨#[116]⟩, .slice (some ⟨b, 0, none⟩) 1 1, .int .i64 0, .slice none 0 0, .slice none 0 0, .string ⟨#[]⟩, .int .i64 0, .int .i64 0, .string ⟨#[]⟩, .string ⟨#[]⟩, .slice none 0 0, .slice (some a) 3 rc]] W fun e w' => e = .returned (.int .i64 0) ∧ Below W.heap.size W w') := Lib.hid fun W hW => by
    have h := rcheck_any ⟨#[116]⟩ (some ⟨b, 0, none⟩) 1 1 0 none 0 0 none 0 0 ⟨#[]⟩ 0 0 ⟨#[]⟩ ⟨#[]⟩ none 0 0 (some a) 3 rc [kN7] [] [] [] (fun _ => True) 0 [one7 1, one7 2, one7 3] (fun _ => False) 0 W rfl (tbs7 (H4.out.1.2.1.below hW)) (H4.out.1.2.2.below hW)
    rw [rel7a] at h
    exact h
  have HCB : Hid (∀ (W : World) (b2 rc2 : Nat) (RA : Option Addr), ColS W (some ⟨b2, 0, none⟩) 1 [kN7] → RowsAt W (fun _ => False) RA 3 [one7 1, one7 2, one7 2] → Calls Tryz.prog 40 #[.agg #[.string ⟨#[116]⟩, .slice (some ⟨b2, 0, none⟩) 1 1, .int .i64 0, .slice none 0 0, .slice none 0 0, .string ⟨#[]⟩, .int .i64 0, .int .i64 0, .string ⟨#[]⟩, .string ⟨#[]⟩, .slice none 0 0, .slice RA 3 rc2]] W fun e w' => e = .returned (.int .i64 7) ∧ Below W.heap.size W w') := Lib.hid fun W b2 rc2 RA hc hr => by
    have h := rcheck_any ⟨#[116]⟩ (some ⟨b2, 0, none⟩) 1 1 0 none 0 0 none 0 0 ⟨#[]⟩ 0 0 ⟨#[]⟩ ⟨#[]⟩ none 0 0 RA 3 rc2 [kN7] [] [] [] (fun _ => True) 0 [one7 1, one7 2, one7 2] (fun _ => False) 0 W rfl (tbs7 hc) hr
    rw [rel7b] at h
    exact h
  go_wp2_with (first
    | (go_at_call 16; (with_reducible refine (HSR.out _ (Below.refl _ _)).mono ?_); rintro e w5 ⟨rfl, hb5⟩; have HB5 := Lib.hid hb5; have hc5 := (bcell hb5).1; have hy5 := hb5.size; have hz5 : w1.heap.size < w5.heap.size := (by omega); clear hb5)
    | (go_at_call 39; (with_reducible refine (HFD.out _ HB5.out).mono ?_); rintro e w6 ⟨rfl, hb6⟩; have HB6 := Lib.hid (HB5.out.trans (hb6.mono HB5.out.size)); have hc6 := (bcell hb6).1; have hy6 := hb6.size; have hz6 : w1.heap.size < w6.heap.size := (by omega); clear hb6)
    | (go_at_call 40; (with_reducible refine (HCA.out _ HB6.out).mono ?_); rintro e w7 ⟨rfl, hb7⟩; have HB7 := Lib.hid (HB6.out.trans (hb7.mono HB6.out.size)); clear hb7)
    | (go_at_call 38; (with_reducible refine (some_any ⟨w7.heap.size, 0, none⟩ 3 3 [1, 2, 2] _ rfl (by omega) (ints3 w7 1 2 2 _)).mono ?_); rintro e w8 ⟨b2, RA2, rc2, rfl, k1, k2, k4, k3, hb8⟩; have H8 := Lib.hid (And.intro k1 (And.intro k3 ((HB7.out.alloc HB7.out.size _).trans (hb8.mono (by have := HB7.out.size; simp; omega))))); clear k1 k2 k3 k4 hb8)
    | (go_at_call 40; (with_reducible refine (HCB.out _ _ _ _ H8.out.1 H8.out.2.1).mono ?_); rintro e w9 ⟨rfl, hb9⟩; have HB9 := Lib.hid (H8.out.2.2.trans (hb9.mono H8.out.2.2.size)); clear hb9))
  go_ret
  exact ⟨rfl, H4.out.1.1.trans (HB9.out.mono H4.out.1.1.size)⟩
end Go.Proofs.YtmhkmliebhbkdaaGreat

import Derived.Test.YtchebhdndkaheaaGreatDoorW14
import Derived.Test.YtchebhdndkaheaaGreatDoorW03
import Derived.Test.YtchebhdndkaheaaGreatDoorW12
import Derived.Stop.LaidErr
import Derived.LaidLaws
import Derived.Test.YtchebhdndkaheaaGreatDoorW10
import Derived.Test.YtchebhdndkaheaaGreatDoorW09
import Derived.ChangeMaps5

/- The law SchemaNulls: its walk. -/
namespace Go.Proofs.YtchebhdndkaheaaGreatDoor
open Go.RowKit Go.Lib

theorem cl_at {W : World} {a : Addr} {n : Nat} {l : List Cl} (h : ColS W (some a) n l) {j : Nat} (hj : j < l.length) : ClAt W (a.add (j * 3)) l[j] := by
  obtain ⟨a', e, k⟩ := h.2.2 j hj
  injection e with e
  subst e
  exact k
theorem own_mono6 {W : World} {B B' : Nat} {t : TypeId} {sz n : Nat} {v : Value} {xs : List Value} (h : W.ownsRow B t sz v n xs) (hb : B' ≤ B) : W.ownsRow B' t sz v n xs :=
  ⟨h.1, h.2.imp id fun ⟨g, cap, cur, h1, h2, h3⟩ => ⟨g, cap, cur, h1, Nat.le_trans hb h2, h3⟩⟩
theorem TbIn.at_ {w W : World} {nm : ByteArray} {A : Option Addr} {n c : Nat} {key : Int} {U : Option Addr} {m cu : Nat} {R : Option Addr} {p cr : Nat} {op : ByteArray} {k i : Int} {vs s : ByteArray} {B : Option Addr} {q d : Nat} {cols : List Cl} {us : List Int} {rs : List Rf} (h : TbIn w nm A n c key U m cu R p cr op k i vs s B q d cols us rs) (hb : Below w.heap.size w W) : TbIn W nm A n c key U m cu R p cr op k i vs s B q d cols us rs :=
  ⟨h.hnm, h.hcols.below hb, h.nc, h.hus.below hb, h.hrs.below hb, h.nr, h.hop, h.hvs, h.hs, h.hi, InL.more hb.size (InL.keep hb h.chk)⟩
set_option maxRecDepth 100000 in
set_option maxHeartbeats 4000000 in
theorem law_snulls (nm : ByteArray) (A : Option Addr) (n c : Nat) (key : Int) (U : Option Addr) (m cu : Nat) (R : Option Addr) (p cr : Nat) (op : ByteArray) (k i : Int) (vs s : ByteArray) (B : Option Addr) (q d : Nat) (cols : List Cl) (us : List Int) (rs : List Rf) (D : Option Addr) (m2 cv : Nat) (row : List Vl) (x2 : Int) (w : World) (hl : LibE w) (ht : TyE w) (hT : TbIn w nm A n c key U m cu R p cr op k i vs s B q d cols us rs) (hm : m2 ≤ maxLen) (hv : Vals w w.heap.size D m2 row) (hvs : ∀ x ∈ row, x.s.size ≤ maxLen) (hx : 0 ≤ x2 ∧ x2 < 256) :
    Calls Tryz.prog 4 #[.agg #[.string nm, .slice A n c, .int .i64 key, .slice U m cu, .slice R p cr, .string op, .int .i64 k, .int .i64 i, .string vs, .string s, .slice B q d], .slice D m2 cv, .int .u8 x2] w fun e w' => e = .returned (.bool true) ∧ Below w.heap.size w w' := by
  have HT := Lib.hid hT
  have HA : Hid (∀ W, Below w.heap.size w W → Calls Tryz.prog 9 #[] W fun e w' => e = .returned (.bool true) ∧ Below W.heap.size W w') := Lib.hid fun W hb => awake6_any W (hl.keep hb (Nat.le_refl _)) (ht.keep hb (Nat.le_refl _))
  have HF2 : Hid (∀ W, Below w.heap.size w W → Calls Tryz.prog 6 #[.slice D m2 cv] W fun e w' => ∃ v, e = .returned v ∧ w'.ownsRow W.heap.size 26 3 v (fewL row).length (cellsOf (fewL row)) ∧ Below W.heap.size W w') := Lib.hid fun W hb => few2_any D m2 cv row W hm ((hv.keep hb).more hb.size) hvs
  clear hl ht hT hm hv hvs
  go_enter Tryz.func4, Tryz.ntmps4
  go_upto_region 1 with (fail)
  refine wp_gen (fun W => Below w.heap.size w W ∧ W.heap[w.heap.size]? = some (.cells #[.string nm, .slice A n c, .int .i64 key, .slice U m cu, .slice R p cr, .string op, .int .i64 k, .int .i64 i, .string vs, .string s, .slice B q d] 31 (0, 0))) ⟨(Below.refl _ _).alloc (Nat.le_refl _) _, alloc_at rfl _⟩ fun w0 hw0 => ?_
  have hbx := hw0.2
  have HB : Hid (Below w.heap.size w w0) := hw0.1
  have hz0 := lt_of_block hbx
  clear hw0
  go_upto_region 2 with (first
    | (refine wpList_load_row rfl 31 (.tmp 3) rfl w.heap.size rfl 31 #[.string nm, .slice A n c, .int .i64 key, .slice U m cu, .slice R p cr, .string op, .int .i64 k, .int .i64 i, .string vs, .string s, .slice B q d] (0, 0) _ hbx Tryz.underlying31 rfl tbSize ?_)
    | (go_at_call 5; (with_reducible refine (few6_any nm A n c key U m cu R p cr op k i vs s B q d cols us rs _ (HT.out.at_ HB.out)).mono ?_); rintro e w1 ⟨⟨v, rfl, htb⟩, hb1⟩; obtain ⟨nm', A', n', c', key', U', m', cu', R', p', cr', op', k', i', vs', s', B', q', d', cols', us', rs', l', rfl, ht1, f1, f2, f3⟩ := htb; have HT1 := Lib.hid (And.intro ht1 (And.intro f1 (And.intro f2 f3))); have HB1 := Lib.hid hb1; clear ht1 f1 f2 f3 hb1)
    | (go_at_call 6; (with_reducible refine (HF2.out _ (HB.out.trans (HB1.out.mono HB.out.size))).mono ?_); rintro e w2 ⟨v, rfl, hown, hb2⟩; obtain ⟨D', cv', rfl⟩ := own_form hown; have HO2 := Lib.hid hown; have HB2 := Lib.hid hb2; have hs1 := HB1.out.size; have hst : w2.heap[w.heap.size]? = some (.cells #[.string nm, .slice A n c, .int .i64 key, .slice U m cu, .slice R p cr, .string op, .int .i64 k, .int .i64 i, .string vs, .string s, .slice B q d] 31 (0, 0)) := (hb2.block _ (by omega)).trans ((HB1.out.block _ hz0).trans hbx); clear hown hb2)
    | (refine wpList_store_row rfl 31 (.tmp 3) (.tmp 11) rfl w.heap.size #[.string nm', .slice A' n' c', .int .i64 key', .slice U' m' cu', .slice R' p' cr', .string op', .int .i64 k', .int .i64 i', .string vs', .string s', .slice B' q' d'] rfl rfl 31 _ hst tbSize rfl (tb_one _ _ _ _ _ _ _ _ _ _ _ _ _ _ _ _ _ _ _) ?_))
  have hs2 := HB2.out.size
  have HLS : Hid (Ls w nm' A' n' c' key' U' m' cu' R' p' cr' op' k' i' vs' s' B' q' d' cols' us' rs' l' D' (fewL row).length cv' (fewL row) (w2.setRow w.heap.size #[.string nm', .slice A' n' c', .int .i64 key', .slice U' m' cu', .slice R' p' cr', .string op', .int .i64 k', .int .i64 i', .string vs', .string s', .slice B' q' d'])) := by
    refine ⟨below_row ((HB.out.trans (HB1.out.mono HB.out.size)).trans (HB2.out.mono (by omega))) _ (Nat.le_refl _), setRow_heap _ _ _ _ _ _ hst, (HT1.out.1.below HB2.out).row HT1.out.2.1 HT1.out.2.2.1 HT1.out.2.2.2 hz0 _, ?_⟩
    have ho := HO2.out.kept (setRow_grown w2 w.heap.size #[.string nm', .slice A' n' c', .int .i64 key', .slice U' m' cu', .slice R' p' cr', .string op', .int .i64 k', .int .i64 i', .string vs', .string s', .slice B' q' d']) (.inr (fun e => by have := own_geN HO2.out _ e; omega))
    exact own_mono6 ho (by omega)
  refine wp_gen (Ls w nm' A' n' c' key' U' m' cu' R' p' cr' op' k' i' vs' s' B' q' d' cols' us' rs' l' D' (fewL row).length cv' (fewL row)) HLS.out fun w3 hw3 => ?_
  have hM14 := fewL_le row
  obtain ⟨row', HR⟩ : ∃ r, Hid (fewL row = r) := ⟨_, Lib.hid rfl⟩
  rw [HR.out] at hw3 hM14 ⊢
  obtain ⟨M, HM⟩ : ∃ r, Hid (row'.length = r) := ⟨_, Lib.hid rfl⟩
  rw [HM.out] at hw3 hM14 ⊢
  have HS := Lib.hid hw3
  clear hw3 HLS hst HO2 hs1 hs2 HB2 HB1 HT1 hz0 hbx HB HF2 HT
  have hbx := HS.out.box
  have HFT : Hid (∀ W, Below w3.heap.size w3 W → Calls Tryz.prog 10 #[.agg #[.string nm', .slice A' n' c', .int .i64 key', .slice U' m' cu', .slice R' p' cr', .string op', .int .i64 k', .int .i64 i', .string vs', .string s', .slice B' q' d'], .slice D' M cv'] W fun e w' => e = .returned (.int .i64 (fitsI n' nm' key' cols' us' rs' (.mk op' ⟨k', i', vs'⟩ s' l') M row')) ∧ Below W.heap.size W w') := Lib.hid fun W hW =>
    fits_any nm' A' n' c' key' U' m' cu' R' p' cr' op' k' i' vs' s' B' q' d' cols' us' rs' l' (fun _ => True) 14 D' M cv' row' (by unfold maxLen; omega) W (HS.out.later hW).tb (HS.out.later hW).vals
  obtain ⟨F, HF⟩ : ∃ F, Hid (fitsI n' nm' key' cols' us' rs' (.mk op' ⟨k', i', vs'⟩ s' l') M row' = F) := ⟨_, Lib.hid rfl⟩
  by_cases h1 : F = 0
  · subst h1
    by_cases h2 : M = 0
    · have q2 : ((M : Int) == 0) = true := by simp [h2]
      clear h2
      go_wp2_with (first
        | (refine wpList_load_row rfl 31 (.tmp 3) rfl w.heap.size rfl 31 #[.string nm', .slice A' n' c', .int .i64 key', .slice U' m' cu', .slice R' p' cr', .string op', .int .i64 k', .int .i64 i', .string vs', .string s', .slice B' q' d'] (0, 0) _ hbx Tryz.underlying31 rfl tbSize ?_)
        | (go_at_call 10; (with_reducible refine (HFT.out _ (Below.refl _ _)).mono ?_); rintro e w4 ⟨rfl, hb4⟩; rw [HF.out]; have H4 := Lib.hid (HS.out.later hb4); clear hb4; have b1 := Lib.cell_of_heap H4.out.box 1; simp only [List.getElem?_toArray, List.getElem?_cons_zero, List.getElem?_cons_succ] at b1; have hl4 := lt_of_block H4.out.box)
        | (go_at_call 9; (with_reducible refine (HA.out _ H4.out.pl).mono ?_); rintro e w5 ⟨rfl, hb5⟩; have HB5 := Lib.hid (H4.out.pl.trans (hb5.mono H4.out.pl.size)); clear hb5))
      go_ret
      exact ⟨rfl, HB5.out⟩
    · by_cases h3 : M = n'
      · have q3 : ((M : Int) != (n' : Int)) = false := by simp [h3]
        have q2 : ((M : Int) == 0) = false := by simp [h2]
        have H3 := Lib.hid h3
        have H2 := Lib.hid h2
        clear h3 h2
        go_upto_region 4 with (first
          | (refine wpList_load_row rfl 31 (.tmp 3) rfl w.heap.size rfl 31 #[.string nm', .slice A' n' c', .int .i64 key', .slice U' m' cu', .slice R' p' cr', .string op', .int .i64 k', .int .i64 i', .string vs', .string s', .slice B' q' d'] (0, 0) _ hbx Tryz.underlying31 rfl tbSize ?_)
          | (go_at_call 10; (with_reducible refine (HFT.out _ (Below.refl _ _)).mono ?_); rintro e w4 ⟨rfl, hb4⟩; rw [HF.out]; have H4 := Lib.hid (HS.out.later hb4); clear hb4; have b1 := Lib.cell_of_heap H4.out.box 1; simp only [List.getElem?_toArray, List.getElem?_cons_zero, List.getElem?_cons_succ] at b1; have hl4 := lt_of_block H4.out.box))
        have hM0 := H2.out
        obtain ⟨g2, rfl, hg2⟩ : ∃ g2, D' = some ⟨g2, 0, none⟩ ∧ w.heap.size + 1 ≤ g2 := by
          rcases HS.out.own.2 with ⟨_, h0⟩ | ⟨g, cap, cur, e, hB, _⟩
          · exact absurd h0 hM0
          · injection e with e1 _ _
            exact ⟨g, e1, hB⟩
        obtain ⟨x, rfl⟩ := Int.eq_ofNat_of_zero_le hx.1
        have hx2 : x < 256 := by omega
        have HMO : x % M < M := Nat.mod_lt _ (by omega)
        obtain ⟨i0, hi, hz0, hz1, hz2⟩ := info_parts infoVal
        have HOw : Hid ((w4.alloc (.cells #[] 26)).ownsRow w4.heap.size 26 3 (.slice (some ⟨w4.heap.size, 0, none⟩) 0 0) 0 []) := ⟨rfl, .inr ⟨w4.heap.size, 0, #[], rfl, Nat.le_refl _, alloc_at rfl _, by omega, by unfold maxLen; omega, rfl, rfl⟩⟩
        go_upto_region 6 with (at_builtin; refine wpList_append_own _ rfl _ _ 32 rfl w4.heap.size 26 i0 _ 3 32 Tryz.underlying32 hi hz0 hz1 hz2 rfl (by decide) (.slice (some ⟨w4.heap.size, 0, none⟩) 0 0) 0 [] rfl HOw.out ⟨g2, 0, none⟩ M cv' (cellsOf row') rfl (by rw [cells_len, HM.out]) ?c1 ?c2 ?c3 ?c4 ?c5 ?_)
        case c1 =>
          intro j u hu
          have hjl : j < M * 3 := by
            have := (List.getElem?_eq_some_iff.1 hu).1
            rw [cells_len, HM.out] at this
            exact this
          rw [show (⟨g2, 0, none⟩ : Addr).add j = ⟨g2, j, none⟩ by unfold Addr.add; split <;> simp_all]
          exact (((Below.refl w4.heap.size w4).alloc (Nat.le_refl _) _).cell (p := ⟨g2, j, none⟩) (H4.out.own.lt g2 rfl).2).trans ((H4.out.own.cellAt j hjl).trans hu)
        case c2 => exact cells_one row'
        case c3 => unfold maxLen; omega
        case c4 => omega
        case c5 => simp
        intro v' w6 hown' hgrow _
        try rw [Nat.zero_add, List.nil_append] at hown'
        have HB46 : Hid (Below w4.heap.size w4 w6) := Lib.hid (below_own ((Below.refl _ _).alloc (Nat.le_refl _) _) (own_ge HOw.out) hgrow)
        obtain ⟨g3, c3, rfl, hg3, cur3, hgh⟩ : ∃ g3 c3, v' = .slice (some ⟨g3, 0, none⟩) M c3 ∧ w4.heap.size ≤ g3 ∧ ∃ cur, w6.heap[g3]? = some (.cells cur 26 (0, 0)) := by
          rcases hown'.2 with ⟨_, h0⟩ | ⟨g, cap, cur, e, hB, hg, _⟩
          · exact absurd h0 hM0
          · exact ⟨g, cap, e, hB, cur, hg⟩
        have HX := Lib.hid hown'
        have xf := Lib.frozen_of_heap hgh
        have xl := lt_of_block hgh
        have HG3 := Lib.hid hgh
        clear hown' hgrow hgh b1 hl4
        go_upto_region 6 with (fail)
        rw [show ((x : Int) % (M : Int)) = ((x % M : Nat) : Int) from (Int.natCast_emod x M).symm]
        obtain ⟨i1, HI⟩ : ∃ i1, Hid (x % M = i1) := ⟨_, Lib.hid rfl⟩
        rw [HI.out] at HMO ⊢
        have hil : i1 < row'.length := by rw [HM.out]; exact HMO
        obtain ⟨e0, e1, e2⟩ := cells_at row' i1 hil
        have y0 := (HX.out.cellAt (i1 * 3) (by omega)).trans e0
        have y1 := (HX.out.cellAt (i1 * 3 + 1) (by omega)).trans e1
        have y2 := (HX.out.cellAt (i1 * 3 + 2) (by omega)).trans e2
        clear e0 e1 e2
        go_upto_region 7 with (fail)
        refine wp_gen (fun W => Ls w nm' A' n' c' key' U' m' cu' R' p' cr' op' k' i' vs' s' B' q' d' cols' us' rs' l' (some ⟨g2, 0, none⟩) M cv' row' W ∧ Vals W W.heap.size (some ⟨g3, 0, none⟩) M (row'.set i1 nulV)) ⟨H4.out.later (((HB46.out.setCell (by show w4.heap.size ≤ g3; omega) _).setCell (by show w4.heap.size ≤ g3; omega) _).setCell (by show w4.heap.size ≤ g3; omega) _), vals_set HX.out i1 HMO⟩ fun w7 hw7 => ?_
        have H7 := Lib.hid hw7
        have hic : i1 < cols'.length := by
          have h3 := H3.out
          have hcl := H7.out.1.tb.hcols.1
          omega
        have hin : i1 < n' := by
          have h3 := H3.out
          omega
        have HFN : Hid (fitsI n' nm' key' cols' us' rs' (.mk op' ⟨k', i', vs'⟩ s' l') M (row'.set i1 nulV) = if cols'[i1].b = true then 8 else (if falseB (evalT cols' (row'.set i1 nulV) (.mk op' ⟨k', i', vs'⟩ s' l')) = true then 9 else 0)) := fits_null_at H7.out.1.tb.hcols.1 HM.out HF.out i1 hic
        have HFT2 := Lib.hid (fits_any nm' A' n' c' key' U' m' cu' R' p' cr' op' k' i' vs' s' B' q' d' cols' us' rs' l' (fun _ => True) 14 (some ⟨g3, 0, none⟩) M c3 (row'.set i1 nulV) (by unfold maxLen; omega) w7 H7.out.1.tb H7.out.2)
        have hbx := H7.out.1.box
        obtain ⟨V, HV⟩ : ∃ V, Hid (fitsI n' nm' key' cols' us' rs' (.mk op' ⟨k', i', vs'⟩ s' l') M (row'.set i1 nulV) = V) := ⟨_, Lib.hid rfl⟩
        rw [HV.out] at HFN
        obtain ⟨bb, HBB⟩ : ∃ b, Hid (cols'[i1].b = b) := ⟨_, Lib.hid rfl⟩
        obtain ⟨ff, HFF⟩ : ∃ b, Hid (falseB (evalT cols' (row'.set i1 nulV) (.mk op' ⟨k', i', vs'⟩ s' l')) = b) := ⟨_, Lib.hid rfl⟩
        rw [HBB.out, HFF.out] at HFN
        obtain ⟨a, hA', _⟩ := H7.out.1.tb.hcols.2.2 i1 hic
        subst hA'
        clear hw7 y0 y1 y2 xf xl HG3 HX HB46 HOw hi hz0 hz1 hz2 H4 hil hx hx2 hbx
        have hbx := H7.out.1.box
        cases bb with
        | true =>
          obtain rfl : V = 8 := by rw [HFN.out]; rfl
          go_wp2_with (first
            | (refine wpList_load_row rfl 31 (.tmp 3) rfl w.heap.size rfl 31 #[.string nm', .slice (some a) n' c', .int .i64 key', .slice U' m' cu', .slice R' p' cr', .string op', .int .i64 k', .int .i64 i', .string vs', .string s', .slice B' q' d'] (0, 0) _ hbx Tryz.underlying31 rfl tbSize ?_)
            | (go_at_call 10; (with_reducible refine HFT2.out.mono ?_); rintro e w8 ⟨rfl, hb8⟩; rw [HV.out]; have H4 := Lib.hid (H7.out.1.later hb8); clear hb8; have b1 := Lib.cell_of_heap H4.out.box 1; simp only [List.getElem?_toArray, List.getElem?_cons_zero, List.getElem?_cons_succ] at b1; have hl4 := lt_of_block H4.out.box; have hE := cl_at H4.out.tb.hcols hic; have z0 := hE.c0; have z1 := hE.c1; have z2 := hE.c2; rw [HBB.out] at z2; have hel := hE.lt; clear hE)
            | (go_at_call 9; (with_reducible refine (HA.out _ H4.out.pl).mono ?_); rintro e w5 ⟨rfl, hb5⟩; have HB5 := Lib.hid (H4.out.pl.trans (hb5.mono H4.out.pl.size)); clear hb5))
          go_ret
          exact ⟨rfl, HB5.out⟩
        | false =>
          cases ff with
          | true =>
            obtain rfl : V = 9 := by rw [HFN.out]; rfl
            go_wp2_with (first
              | (refine wpList_load_row rfl 31 (.tmp 3) rfl w.heap.size rfl 31 #[.string nm', .slice (some a) n' c', .int .i64 key', .slice U' m' cu', .slice R' p' cr', .string op', .int .i64 k', .int .i64 i', .string vs', .string s', .slice B' q' d'] (0, 0) _ hbx Tryz.underlying31 rfl tbSize ?_)
              | (go_at_call 10; (with_reducible refine HFT2.out.mono ?_); rintro e w8 ⟨rfl, hb8⟩; rw [HV.out]; have H4 := Lib.hid (H7.out.1.later hb8); clear hb8; have b1 := Lib.cell_of_heap H4.out.box 1; simp only [List.getElem?_toArray, List.getElem?_cons_zero, List.getElem?_cons_succ] at b1; have hl4 := lt_of_block H4.out.box; have hE := cl_at H4.out.tb.hcols hic; have z0 := hE.c0; have z1 := hE.c1; have z2 := hE.c2; rw [HBB.out] at z2; have hel := hE.lt; clear hE)
              | (go_at_call 9; (with_reducible refine (HA.out _ H4.out.pl).mono ?_); rintro e w5 ⟨rfl, hb5⟩; have HB5 := Lib.hid (H4.out.pl.trans (hb5.mono H4.out.pl.size)); clear hb5))
            go_ret
            exact ⟨rfl, HB5.out⟩
          | false =>
            obtain rfl : V = 0 := by rw [HFN.out]; rfl
            go_wp2_with (first
              | (refine wpList_load_row rfl 31 (.tmp 3) rfl w.heap.size rfl 31 #[.string nm', .slice (some a) n' c', .int .i64 key', .slice U' m' cu', .slice R' p' cr', .string op', .int .i64 k', .int .i64 i', .string vs', .string s', .slice B' q' d'] (0, 0) _ hbx Tryz.underlying31 rfl tbSize ?_)
              | (go_at_call 10; (with_reducible refine HFT2.out.mono ?_); rintro e w8 ⟨rfl, hb8⟩; rw [HV.out]; have H4 := Lib.hid (H7.out.1.later hb8); clear hb8; have b1 := Lib.cell_of_heap H4.out.box 1; simp only [List.getElem?_toArray, List.getElem?_cons_zero, List.getElem?_cons_succ] at b1; have hl4 := lt_of_block H4.out.box; have hE := cl_at H4.out.tb.hcols hic; have z0 := hE.c0; have z1 := hE.c1; have z2 := hE.c2; rw [HBB.out] at z2; have hel := hE.lt; clear hE)
              | (go_at_call 9; (with_reducible refine (HA.out _ H4.out.pl).mono ?_); rintro e w5 ⟨rfl, hb5⟩; have HB5 := Lib.hid (H4.out.pl.trans (hb5.mono H4.out.pl.size)); clear hb5))
            go_ret
            exact ⟨rfl, HB5.out⟩
      · have q1 : ((M : Int) != (n' : Int)) = true := by simp; omega
        have q2 : ((M : Int) == 0) = false := by simp [h2]
        clear h3 h2
        go_wp2_with (first
          | (refine wpList_load_row rfl 31 (.tmp 3) rfl w.heap.size rfl 31 #[.string nm', .slice A' n' c', .int .i64 key', .slice U' m' cu', .slice R' p' cr', .string op', .int .i64 k', .int .i64 i', .string vs', .string s', .slice B' q' d'] (0, 0) _ hbx Tryz.underlying31 rfl tbSize ?_)
          | (go_at_call 10; (with_reducible refine (HFT.out _ (Below.refl _ _)).mono ?_); rintro e w4 ⟨rfl, hb4⟩; rw [HF.out]; have H4 := Lib.hid (HS.out.later hb4); clear hb4; have b1 := Lib.cell_of_heap H4.out.box 1; simp only [List.getElem?_toArray, List.getElem?_cons_zero, List.getElem?_cons_succ] at b1; have hl4 := lt_of_block H4.out.box)
          | (go_at_call 9; (with_reducible refine (HA.out _ H4.out.pl).mono ?_); rintro e w5 ⟨rfl, hb5⟩; have HB5 := Lib.hid (H4.out.pl.trans (hb5.mono H4.out.pl.size)); clear hb5))
        go_ret
        exact ⟨rfl, HB5.out⟩
  · have q1 : (F != 0) = true := by simp [h1]
    go_wp2_with (first
      | (refine wpList_load_row rfl 31 (.tmp 3) rfl w.heap.size rfl 31 #[.string nm', .slice A' n' c', .int .i64 key', .slice U' m' cu', .slice R' p' cr', .string op', .int .i64 k', .int .i64 i', .string vs', .string s', .slice B' q' d'] (0, 0) _ hbx Tryz.underlying31 rfl tbSize ?_)
      | (go_at_call 10; (with_reducible refine (HFT.out _ (Below.refl _ _)).mono ?_); rintro e w4 ⟨rfl, hb4⟩; rw [HF.out]; have H4 := Lib.hid (HS.out.later hb4); clear hb4; have b1 := Lib.cell_of_heap H4.out.box 1; simp only [List.getElem?_toArray, List.getElem?_cons_zero, List.getElem?_cons_succ] at b1; have hl4 := lt_of_block H4.out.box)
      | (go_at_call 9; (with_reducible refine (HA.out _ H4.out.pl).mono ?_); rintro e w5 ⟨rfl, hb5⟩; have HB5 := Lib.hid (H4.out.pl.trans (hb5.mono H4.out.pl.size)); clear hb5))
    go_ret
    exact ⟨rfl, HB5.out⟩
end Go.Proofs.YtchebhdndkaheaaGreatDoor

/- What a row's condition on the listed variables says of the library's two errors. -/
namespace Go.Proofs.YtchebhdndkaheaaGreatDoor
open Go.RowKit Go.Lib

theorem es_star : "*" ++ "errors.errorString" = "*errors.errorString" := by decide
theorem es_row (u : TypeId) (h : Tryz.prog.typeName? 3 u = some "*errors.errorString") : u = 251 :=
  typeName_ptr_named (nm := "errors.errorString") (by rw [es_star]; kernel_rfl) (by kernel_rfl) (by decide) u (by rw [es_star]; exact h)
theorem errs_of {laid : List (String × DataW Unit)} {W : World} (h : laidMetH Tryz.prog laid W) (hp : (laid.all fun x => x.2.handleName?.isNone) = true) {x y z u : String × DataW Unit} {r : List (String × DataW Unit)}
    (hl : laid = x :: y :: z :: u :: ("strconv.ErrRange", Rows.laid_strconv_ErrRange) :: ("strconv.ErrSyntax", Rows.laid_strconv_ErrSyntax) :: r) : Errs W := by
  rw [MakeChecks.laidMetH_plain _ _ _ hp, hl] at h
  have h4 := h.tail.tail.tail.tail
  obtain ⟨a1, s1, hv1, _⟩ := laid_sentinel (g := 9) (ti := 167) (tp := 251) (te := 253) (ts := 9) h4 (by kernel_rfl) (by kernel_rfl) Tryz.underlying167 es_row Tryz.underlying251 Tryz.underlying253 rfl rfl Tryz.underlying9 (by kernel_rfl) (by kernel_rfl)
  obtain ⟨a2, s2, hv2, _⟩ := laid_sentinel (g := 8) (ti := 167) (tp := 251) (te := 253) (ts := 9) h4.tail (by kernel_rfl) (by kernel_rfl) Tryz.underlying167 es_row Tryz.underlying251 Tryz.underlying253 rfl rfl Tryz.underlying9 (by kernel_rfl) (by kernel_rfl)
  exact ⟨⟨_, _, by have := World.var?_cell (g := 8) (by kernel_rfl) hv2 0; simpa using this⟩, ⟨_, _, by have := World.var?_cell (g := 9) (by kernel_rfl) hv1 0; simpa using this⟩⟩
end Go.Proofs.YtchebhdndkaheaaGreatDoor

/- SchemaNulls: for every input the law returns true, and the input reads behind the call as it did. The row and its tied card. -/
namespace Go.Proofs.YtchebhdndkaheaaGreatDoor
open Go.ChangeShapes Go.WideShapes Go.ChangeAt Go.RowKit Go.ChangeMaps

theorem u8_wf6 {n : Int} (h : (Lit.int .u8 n).wf = true) : 0 ≤ n ∧ n < 256 := by
  simp only [Lit.wf, IntKind.min, IntKind.max, IntKind.signed, IntKind.bits, Bool.and_eq_true, decide_eq_true_eq, if_true] at h
  simp at h
  omega
theorem tyE_schemaNulls {W : World} (h : laidMetH Tryz.prog Rows.schemaNullsRow.laid W) : TyE W := by
  have h' : laidMet Tryz.prog Rows.schemaNullsRow.laid W := by
    rw [← MakeChecks.laidMetH_plain _ _ _ (by kernel_rfl)]
    exact h
  exact tyE_of_head h'.tail.tail.tail.tail.tail.tail
set_option maxRecDepth 100000 in
theorem schemaNulls_lifted (os : Os) (started : os.Started) (H : Type) (enc : TypeId × Value → H) :
    ReturnsInHanded {} Tryz.checked os 4 .any (fun w args => (Rows.schemaNullsSpec.pre enc Tryz.prog Tryz.f4 [] false w args ∧ laidMetH Tryz.prog Rows.schemaNullsRow.laid w) ∧ sizedMet enc Tryz.prog Tryz.f4 (OpenSpec.ofChange Rows.schemaNullsSpec) false w args)
      (Rows.schemaNullsSpec.post enc Tryz.prog Tryz.f4 false true false false) := by
  refine returns_laid_shaped (C := Tryz.checked) (X := fun w _ => laidMetH Tryz.prog Rows.schemaNullsRow.laid w) (fun _ _ _ hh h => h.of_heap hh) own started (by kernel_rfl) Tryz.func4
    (ChangeSpec.witness_shaped (enc := enc) (C := Tryz.checked) (os := os) (X := fun w _ => laidMetH Tryz.prog Rows.schemaNullsRow.laid w) false (World.laidAll Tryz.prog os Rows.schemaNullsRow.laid) #[.agg #[.string ⟨#[]⟩, .slice none 0 0, .int .i64 0, .slice none 0 0, .slice none 0 0, .string ⟨#[]⟩, .int .i64 0, .int .i64 0, .string ⟨#[]⟩, .string ⟨#[]⟩, .slice none 0 0], .slice none 0 0, .int .u8 0] 8 (World.laidAll_os _ _ _)
      (World.shaped_of_ZipB (by kernel_rfl) (by kernel_rfl)) (by kernel_rfl) (by kernel_rfl) (by kernel_rfl)
      (by rw [MakeChecks.laidMetH_plain _ _ _ (by kernel_rfl)]; exact laidMet_laidAll _ (by kernel_rfl) (by kernel_rfl))) ?_
  intro W base args ds gs before hval0 hW hL hsh
  have hval : ∀ (j : Nat) t v, Tryz.f4.params[j]? = some t → args[j]? = some v → Value.okWide Tryz.prog W .any base t v := hval0
  have hW' := hW
  have hlt : ∀ p ∈ before, p.block < W.heap.size := fun p hp => hW.lt p hp
  obtain ⟨p, q, hA0, hV, rfl, _, _⟩ := hW
  have hA : DataW.TrodAll enc Tryz.prog W 0 (fun _ => true) true Tryz.f4.params.toList args.toList ds p := hA0
  rw [Tryz.params4] at hA hval
  obtain ⟨v0, v1, v2, d0, d1, d2, p0, p1, p2, rfl, rfl, hp, h0, h1, h2⟩ := trodAll_three hA
  obtain ⟨rfl, rfl⟩ := trodVars_none hV
  obtain ⟨nm, A, n, c, key, U, m, cu, R, p, cr, op, k, i, vs, s, B, q, d, cols, us, rs, rfl, hT⟩ := open_table (hval 0 31 v0 rfl rfl) h0
  obtain ⟨D, m2, cv, row, rfl, hm, hv, hvs, _⟩ := open_vrow (hval 1 32 v1 rfl rfl) h1
  obtain ⟨x2, rfl, rfl, rfl, wx2⟩ := open_int Tryz.underlying5 (hval 2 5 v2 rfl rfl) h2
  obtain ⟨mx, hmx⟩ := maxLen_cell hsh
  have LE : LibE W := ⟨libs_of hL hmx (by kernel_rfl) rfl, errs_of hL (by kernel_rfl) rfl⟩
  have TY : TyE W := tyE_schemaNulls hL
  clear hA0 hval0
  simp only [List.append_nil] at hW' hlt
  subst hp
  refine (law_snulls nm A n c key U m cu R p cr op k i vs s B q d cols us rs D m2 cv row x2 W LE TY hT hm hv hvs (u8_wf6 wx2)).mono fun e W' ⟨he, hb⟩ => ?_
  subst he
  refine ⟨_, rfl, _, _, _, [], p0 ++ (p1 ++ []), [], hW', ?_, ?_, ?_, hb.frame _, fun h => by cases h⟩
  · exact trodAll_mk1 (shut_bool Tryz.underlying4 true)
  · exact trodAll_mk3 (Below.trod laidOutB_E readsTb rowTb h0 hb (fun x hx => hlt x (by simp [hx]))) (Below.trod laidOutB_E readsV rowV h1 hb (fun x hx => hlt x (by simp [hx]))) (shut_int Tryz.underlying5 wx2)
  · rfl

theorem schemaNulls_holds : Rows.SchemaNullsSaid :=
  OpenClaim.holds_of_wide 4 Tryz.f4 rfl rfl rfl rfl rfl rfl rfl ⟨rfl, rfl, rfl, rfl, rfl⟩ rfl rfl rfl rfl rfl (by kernel_rfl) Tryz.func4 (by kernel_rfl)
    (of_decide_eq_true (by kernel_rfl)) (by unfold Func.isWrapper; rw [if_neg (of_decide_eq_false (by kernel_rfl))]; exact ⟨rfl, rfl⟩)
    (fun os started H enc _ => schemaNulls_lifted os started H enc)

theorem schemaNulls_card : Rows.SchemaNullsCardSaid :=
  Claim7.holds_tied_plain_at .later [] _ _ _ _ schemaNulls_holds (fun _ h => by cases h) (by kernel_rfl) (fun _ h => by cases h) schemaNulls_row_tie rfl ⟨rfl, rfl⟩ (by kernel_rfl) rfl
    (fun f fn hf hfn => by
      obtain rfl : f = 4 := Option.some.inj ((show Tryz.prog.funcNamed "caddis/caddislaw06.SchemaNulls" = some 4 by kernel_rfl).symm.trans hf) |>.symm
      obtain rfl : fn = Tryz.f4 := (Option.some.inj (Tryz.func4.symm.trans hfn)).symm
      exact ⟨by kernel_rfl, fun j t ht => by
        rw [Tryz.params4] at ht
        have hm : t ∈ [31, 32, 5] := by simpa using Array.mem_of_getElem? ht
        have hall : ([31, 32, 5].all fun u => !Tryz.prog.wantsStandIn u) = true := by kernel_rfl
        exact (show Tryz.prog.wantsStandIn t = false by simpa using List.all_eq_true.1 hall t hm)⟩)
    (by kernel_rfl)
end Go.Proofs.YtchebhdndkaheaaGreatDoor

import Derived.Test.YtmhkmliebhbkdaaGreatX24
import Derived.Test.YtmhkmliebhbkdaaGreatX11

/- The document's word on which tables may be. -/
namespace Go.Proofs.YtmhkmliebhbkdaaGreat
open Go.RowKit Go.Lib

/-- What the document asks of a table, as far as is wanted here. -/
def MayF (n : Nat) (key : Int) (us : List Int) (t : Ex) : Prop := 0 ≤ key ∧ key < n ∧ n ≤ 8 ∧ (∀ y ∈ us, 0 ≤ y ∧ y < n) ∧ (¬ t.op.toList = [] → frm 12 t)
set_option maxRecDepth 100000 in
set_option maxHeartbeats 4000000 in
theorem rmay6_any (nm : ByteArray) (A : Option Addr) (n c : Nat) (key : Int) (U : Option Addr) (m cu : Nat) (R : Option Addr) (p cr : Nat) (op : ByteArray) (k i : Int) (vs s : ByteArray) (B : Option Addr) (q d : Nat) (cols : List Cl) (us : List Int) (rs : List Rf) (l : List Ex) (P : Nat → Prop) (N : Nat) (w : World) (ht : TbS w nm A n c key U m cu R p cr op k i vs s B q d cols us rs l P N) (hk : okT (.mk op ⟨k, i, vs⟩ s l)) :
    Calls Tryz.prog 19 #[.agg #[.string nm, .slice A n c, .int .i64 key, .slice U m cu, .slice R p cr, .string op, .int .i64 k, .int .i64 i, .string vs, .string s, .slice B q d]] w fun e w' => RetP e (MayF n key us (.mk op ⟨k, i, vs⟩ s l)) ∧ Below w.heap.size w w' := by
  have HN := Lib.hid (fun W => rname5_any nm W ht.hnm)
  have HNN : Hid (∀ (y : Cl), y ∈ cols → ∀ W, Calls Tryz.prog 43 #[.string y.n] W fun e w' => RetB e ∧ Below W.heap.size W w') := Lib.hid fun y hy W => rname5_any y.n W (ht.nc y hy)
  have HNR : Hid (∀ (y : Rf), y ∈ rs → ∀ W, Calls Tryz.prog 43 #[.string y.t] W fun e w' => RetB e ∧ Below W.heap.size W w') := Lib.hid fun y hy W => rname5_any y.t W (ht.nr y hy)
  have HPL : Hid (∀ W nm', Below w.heap.size w W → Calls Tryz.prog 44 #[.slice A n c, .string nm'] W fun e w' => RetI e ∧ Below W.heap.size W w') := Lib.hid fun W nm' hW => rplace_any A n c cols nm' W (ht.hcols.below hW)
  have HCK : Hid (∀ W, Below w.heap.size w W → Calls Tryz.prog 45 #[.agg #[.string op, .int .i64 k, .int .i64 i, .string vs, .string s, .slice B q d], .slice A n c] W fun e w' => RetIP e (¬ ((.mk op ⟨k, i, vs⟩ s l) : Ex).op.toList = [] → frm 12 (.mk op ⟨k, i, vs⟩ s l)) ∧ Below W.heap.size W w') := Lib.hid fun W hW => rcheck6_any P A n c cols (.mk op ⟨k, i, vs⟩ s l) (.slice B q d) N W (ht.chk.below hW) hk (ht.hcols.below hW)
  have HC := Lib.hid ht.hcols
  have HU := Lib.hid ht.hus
  have HRS := Lib.hid ht.hrs
  have hn : n ≤ maxLen := ht.hcols.2.1
  have hm : m ≤ maxLen := ht.hus.2.1
  have hp : p ≤ maxLen := ht.hrs.2.1
  unfold maxLen at hn hm hp
  have HMF : Hid (0 ≤ key → key < n → n ≤ 8 → (∀ y ∈ us, 0 ≤ y ∧ y < n) → (¬ ((.mk op ⟨k, i, vs⟩ s l) : Ex).op.toList = [] → frm 12 (.mk op ⟨k, i, vs⟩ s l)) → MayF n key us (.mk op ⟨k, i, vs⟩ s l)) := Lib.hid fun a b c d e => ⟨a, b, c, d, e⟩
  generalize (¬ ((.mk op ⟨k, i, vs⟩ s l) : Ex).op.toList = [] → frm 12 (.mk op ⟨k, i, vs⟩ s l)) = fq at HCK HMF
  generalize MayF n key us (.mk op ⟨k, i, vs⟩ s l) = pp at HMF ⊢
  clear ht hk
  go_enter Tryz.func19, Tryz.ntmps19
  go_upto_region 1 with (fail)
  refine wp_gen (fun W => Below w.heap.size w W ∧ W.heap[w.heap.size]? = some (.cells #[.string nm, .slice A n c, .int .i64 key, .slice U m cu, .slice R p cr, .string op, .int .i64 k, .int .i64 i, .string vs, .string s, .slice B q d] 31 (0, 0))) ⟨(Below.refl _ _).alloc (Nat.le_refl _) _, alloc_at rfl _⟩ fun w0 hw0 => ?_
  have H0 := Lib.hid hw0
  have g0 := Lib.cell_of_heap hw0.2 0
  have g1 := Lib.cell_of_heap hw0.2 1
  have g2 := Lib.cell_of_heap hw0.2 2
  have g3 := Lib.cell_of_heap hw0.2 3
  have g4 := Lib.cell_of_heap hw0.2 4
  have g5 := Lib.cell_of_heap hw0.2 5
  have g6 := Lib.cell_of_heap hw0.2 6
  have g7 := Lib.cell_of_heap hw0.2 7
  have g8 := Lib.cell_of_heap hw0.2 8
  have g9 := Lib.cell_of_heap hw0.2 9
  have g10 := Lib.cell_of_heap hw0.2 10
  simp only [List.getElem?_toArray, List.getElem?_cons_zero, List.getElem?_cons_succ] at g0 g1 g2 g3 g4 g5 g6 g7 g8 g9 g10
  have hz0 := lt_of_block hw0.2
  clear hw0
  by_cases h1 : (n : Int) < 1
  · have d1 : decide ((n : Int) < 1) = true := decide_eq_true h1
    have hfa : True := trivial
    go_wp2_with (go_at_call 43; (with_reducible refine (HN.out _).mono ?_); rintro e w1 ⟨⟨z, rfl⟩, hb1⟩; have HB1 := Lib.hid (H0.out.1.trans (hb1.mono H0.out.1.size)); have hbx1 := (hb1.block _ hz0).trans H0.out.2; have hc1 := (bcell hb1).1; have hy1 := hb1.size; have hz1 : w.heap.size < w1.heap.size := (by omega); clear hb1; cases z)
    all_goals go_wp2_with (fail)
    all_goals go_ret
    all_goals exact ⟨⟨_, rfl, fun h => by first | (cases h; done) | (simp at h; done)⟩, HB1.out⟩
  have d1 : decide ((n : Int) < 1) = false := decide_eq_false h1
  by_cases h8 : (8 : Int) < n
  · have d8 : decide ((8 : Int) < n) = true := decide_eq_true h8
    have hfa : True := trivial
    go_wp2_with (go_at_call 43; (with_reducible refine (HN.out _).mono ?_); rintro e w1 ⟨⟨z, rfl⟩, hb1⟩; have HB1 := Lib.hid (H0.out.1.trans (hb1.mono H0.out.1.size)); have hbx1 := (hb1.block _ hz0).trans H0.out.2; have hc1 := (bcell hb1).1; have hy1 := hb1.size; have hz1 : w.heap.size < w1.heap.size := (by omega); clear hb1; cases z)
    all_goals go_wp2_with (fail)
    all_goals go_ret
    all_goals exact ⟨⟨_, rfl, fun h => by first | (cases h; done) | (simp at h; done)⟩, HB1.out⟩
  have d8 : decide ((8 : Int) < n) = false := decide_eq_false h8
  by_cases hk0 : key < 0
  · have dk : decide (key < 0) = true := decide_eq_true hk0
    have hfa : True := trivial
    go_wp2_with (go_at_call 43; (with_reducible refine (HN.out _).mono ?_); rintro e w1 ⟨⟨z, rfl⟩, hb1⟩; have HB1 := Lib.hid (H0.out.1.trans (hb1.mono H0.out.1.size)); have hbx1 := (hb1.block _ hz0).trans H0.out.2; have hc1 := (bcell hb1).1; have hy1 := hb1.size; have hz1 : w.heap.size < w1.heap.size := (by omega); clear hb1; cases z)
    all_goals go_wp2_with (fail)
    all_goals go_ret
    all_goals exact ⟨⟨_, rfl, fun h => by first | (cases h; done) | (simp at h; done)⟩, HB1.out⟩
  have dk : decide (key < 0) = false := decide_eq_false hk0
  by_cases hkn : (n : Int) ≤ key
  · have dn : decide ((n : Int) ≤ key) = true := decide_eq_true hkn
    have hfa : True := trivial
    go_wp2_with (go_at_call 43; (with_reducible refine (HN.out _).mono ?_); rintro e w1 ⟨⟨z, rfl⟩, hb1⟩; have HB1 := Lib.hid (H0.out.1.trans (hb1.mono H0.out.1.size)); have hbx1 := (hb1.block _ hz0).trans H0.out.2; have hc1 := (bcell hb1).1; have hy1 := hb1.size; have hz1 : w.heap.size < w1.heap.size := (by omega); clear hb1; cases z)
    all_goals go_wp2_with (fail)
    all_goals go_ret
    all_goals exact ⟨⟨_, rfl, fun h => by first | (cases h; done) | (simp at h; done)⟩, HB1.out⟩
  have dn : decide ((n : Int) ≤ key) = false := decide_eq_false hkn
  obtain ⟨k', rfl⟩ := Int.eq_ofNat_of_zero_le (show 0 ≤ key by omega)
  have dn2 : decide (n ≤ k') = false := decide_eq_false (by omega)
  have hkl : k' < cols.length := by have := HC.out.1; omega
  obtain ⟨a, rfl, hE⟩ := (HC.out.below H0.out.1).2.2 k' hkl
  have e2 := hE.c2
  have hal := hE.lt
  clear hE
  generalize (cols[k']).b = nn at e2
  have e2b : ∀ W, Below w0.heap.size w0 W → W.cell? ⟨(a.add (k' * 3)).block, (a.add (k' * 3)).off + 2, none⟩ = some (.bool nn) := fun W hW => (hW.cell (p := ⟨(a.add (k' * 3)).block, (a.add (k' * 3)).off + 2, none⟩) hal).trans e2
  have HE2 := Lib.hid e2b
  clear e2b
  cases nn
  · go_wp2_with (go_at_call 43; (with_reducible refine (HN.out _).mono ?_); rintro e w1 ⟨⟨z, rfl⟩, hb1⟩; have HB1 := Lib.hid (H0.out.1.trans (hb1.mono H0.out.1.size)); have hc1 := (bcell hb1).1; have hy1 := hb1.size; have hz1 : w.heap.size < w1.heap.size := (by omega); have m2 := HE2.out _ hb1; clear hb1; cases z)
    all_goals go_wp2_with (fail)
    all_goals go_ret
    all_goals exact ⟨⟨_, rfl, fun h => by first | (cases h; done) | (simp at h; done)⟩, HB1.out⟩
  go_wp2_with (go_at_call 43; (with_reducible refine (HN.out _).mono ?_); rintro e w1 ⟨⟨z, rfl⟩, hb1⟩; have HB1 := Lib.hid (H0.out.1.trans (hb1.mono H0.out.1.size)); have hbx1 := (hb1.block _ hz0).trans H0.out.2; have hc1 := (bcell hb1).1; have hy1 := hb1.size; have hz1 : w.heap.size < w1.heap.size := (by omega); have m2 := HE2.out _ hb1; clear hb1; cases z)
  · go_wp2_with (fail)
    go_ret
    exact ⟨⟨_, rfl, fun h => by first | (cases h; done) | (simp at h; done)⟩, HB1.out⟩
  go_upto_region 4 with (fail)
  refine wp_gen (fun W => Below w.heap.size w W ∧ W.heap[w.heap.size]? = some (.cells #[.string nm, .slice (some a) n c, .int .i64 k', .slice U m cu, .slice R p cr, .string op, .int .i64 k, .int .i64 i, .string vs, .string s, .slice B q d] 31 (0, 0))) ⟨HB1.out, hbx1⟩ fun w2 hw2 => ?_
  have H2 := Lib.hid hw2
  clear g0 g1 g2 g3 g4 g5 g6 g7 g8 g9 g10 hz0 hal e2 HE2
  clear hw2 hc1 hbx1 m2
  go_wp2_with (fail)
  go_loopw [4] (fun iv wr => ∃ j : Nat, iv = .int .i64 j ∧ j ≤ n ∧ Hid (Below w.heap.size w wr ∧ wr.heap[w.heap.size]? = some (.cells #[.string nm, .slice (some a) n c, .int .i64 k', .slice U m cu, .slice R p cr, .string op, .int .i64 k, .int .i64 i, .string vs, .string s, .slice B q d] 31 (0, 0)))) (fun iv _ => n - (intOf iv).toNat)
  case atStart => exact ⟨0, rfl, by omega, H2⟩
  case round =>
    obtain ⟨j, rfl, hj, HS⟩ := hrel
    have hbx := HS.out.2
    have g0 := Lib.cell_of_heap hbx 0
    have g1 := Lib.cell_of_heap hbx 1
    have g2 := Lib.cell_of_heap hbx 2
    have g3 := Lib.cell_of_heap hbx 3
    have g4 := Lib.cell_of_heap hbx 4
    have g5 := Lib.cell_of_heap hbx 5
    have g6 := Lib.cell_of_heap hbx 6
    have g7 := Lib.cell_of_heap hbx 7
    have g8 := Lib.cell_of_heap hbx 8
    have g9 := Lib.cell_of_heap hbx 9
    have g10 := Lib.cell_of_heap hbx 10
    simp only [List.getElem?_toArray, List.getElem?_cons_zero, List.getElem?_cons_succ] at g0 g1 g2 g3 g4 g5 g6 g7 g8 g9 g10
    have hz0 := lt_of_block hbx
    clear hbx
    by_cases hlt : j < n
    · have hjl : j < cols.length := by have := HC.out.1; omega
      obtain ⟨a', ea, hE⟩ := (HC.out.below HS.out.1).2.2 j hjl
      injection ea with ea
      subst ea
      have e0 := hE.c0
      have e1 := hE.c1
      have e2 := hE.c2
      have hal := hE.lt
      clear hE
      have HNY := Lib.hid (HNN.out cols[j] (List.getElem_mem hjl))
      generalize cols[j] = y at e0 e1 e2 HNY
      obtain ⟨yn, yt, yb⟩ := y
      dsimp only at e0 e1 e2 HNY
      obtain ⟨b1, hb1t⟩ : ∃ b, decide (yt < 1) = b := ⟨_, rfl⟩
      obtain ⟨b3, hb3t⟩ : ∃ b, decide ((3 : Int) < yt) = b := ⟨_, rfl⟩
      go_upto_region 8 with (fail)
      refine wp_gen (fun W => (Below w.heap.size w W ∧ W.heap[w.heap.size]? = some (.cells #[.string nm, .slice (some a) n c, .int .i64 k', .slice U m cu, .slice R p cr, .string op, .int .i64 k, .int .i64 i, .string vs, .string s, .slice B q d] 31 (0, 0))) ∧ W.heap[wr.heap.size]? = some (.cells #[.string yn, .int .i64 yt, .bool yb] 77 (0, 0))) ⟨⟨HS.out.1.alloc HS.out.1.size _, (Below.heap_alloc _ _ _ hz0).trans HS.out.2⟩, alloc_at rfl _⟩ fun w3 hw3 => ?_
      have H3 := Lib.hid hw3
      clear g0 g1 g2 g3 g4 g5 g6 g7 g8 g9 g10 hz0
      have g0 := Lib.cell_of_heap hw3.1.2 0
      have g1 := Lib.cell_of_heap hw3.1.2 1
      have g2 := Lib.cell_of_heap hw3.1.2 2
      have g3 := Lib.cell_of_heap hw3.1.2 3
      have g4 := Lib.cell_of_heap hw3.1.2 4
      have g5 := Lib.cell_of_heap hw3.1.2 5
      have g6 := Lib.cell_of_heap hw3.1.2 6
      have g7 := Lib.cell_of_heap hw3.1.2 7
      have g8 := Lib.cell_of_heap hw3.1.2 8
      have g9 := Lib.cell_of_heap hw3.1.2 9
      have g10 := Lib.cell_of_heap hw3.1.2 10
      simp only [List.getElem?_toArray, List.getElem?_cons_zero, List.getElem?_cons_succ] at g0 g1 g2 g3 g4 g5 g6 g7 g8 g9 g10
      have hz0 := lt_of_block hw3.1.2
      have c0 := Lib.cell_of_heap hw3.2 0
      have c1 := Lib.cell_of_heap hw3.2 1
      have c2 := Lib.cell_of_heap hw3.2 2
      simp only [List.getElem?_toArray, List.getElem?_cons_zero, List.getElem?_cons_succ] at c0 c1 c2
      have hz3 := lt_of_block hw3.2
      clear hw3
      cases b1 <;> cases b3
      rotate_left
      · go_wp2_with (go_at_call 43; (with_reducible refine (HNY.out _).mono ?_); rintro e w4 ⟨⟨z, rfl⟩, hb4⟩; have HB1 := Lib.hid (H3.out.1.1.trans (hb4.mono H3.out.1.1.size)); have hbx1 := (hb4.block _ hz0).trans H3.out.1.2; have hc4 := (bcell hb4).1; have hy4 := hb4.size; have hz4 : w.heap.size < w4.heap.size := (by omega); have hz5 : wr.heap.size < w4.heap.size := (by omega); clear hb4; cases z)
        all_goals go_wp2_with (fail)
        all_goals go_ret
        all_goals exact ⟨⟨_, rfl, fun h => by first | (cases h; done) | (simp at h; done)⟩, HB1.out⟩
      · go_wp2_with (go_at_call 43; (with_reducible refine (HNY.out _).mono ?_); rintro e w4 ⟨⟨z, rfl⟩, hb4⟩; have HB1 := Lib.hid (H3.out.1.1.trans (hb4.mono H3.out.1.1.size)); have hbx1 := (hb4.block _ hz0).trans H3.out.1.2; have hc4 := (bcell hb4).1; have hy4 := hb4.size; have hz4 : w.heap.size < w4.heap.size := (by omega); have hz5 : wr.heap.size < w4.heap.size := (by omega); clear hb4; cases z)
        all_goals go_wp2_with (fail)
        all_goals go_ret
        all_goals exact ⟨⟨_, rfl, fun h => by first | (cases h; done) | (simp at h; done)⟩, HB1.out⟩
      · go_wp2_with (go_at_call 43; (with_reducible refine (HNY.out _).mono ?_); rintro e w4 ⟨⟨z, rfl⟩, hb4⟩; have HB1 := Lib.hid (H3.out.1.1.trans (hb4.mono H3.out.1.1.size)); have hbx1 := (hb4.block _ hz0).trans H3.out.1.2; have hc4 := (bcell hb4).1; have hy4 := hb4.size; have hz4 : w.heap.size < w4.heap.size := (by omega); have hz5 : wr.heap.size < w4.heap.size := (by omega); clear hb4; cases z)
        all_goals go_wp2_with (fail)
        all_goals go_ret
        all_goals exact ⟨⟨_, rfl, fun h => by first | (cases h; done) | (simp at h; done)⟩, HB1.out⟩
      go_wp2_with (go_at_call 43; (with_reducible refine (HNY.out _).mono ?_); rintro e w4 ⟨⟨z, rfl⟩, hb4⟩; have HB1 := Lib.hid (H3.out.1.1.trans (hb4.mono H3.out.1.1.size)); have hbx1 := (hb4.block _ hz0).trans H3.out.1.2; have hc4 := (bcell hb4).1; have hy4 := hb4.size; have hz4 : w.heap.size < w4.heap.size := (by omega); have hz5 : wr.heap.size < w4.heap.size := (by omega); clear hb4; cases z)
      · go_wp2_with (fail)
        go_ret
        exact ⟨⟨_, rfl, fun h => by first | (cases h; done) | (simp at h; done)⟩, HB1.out⟩
      go_wp2_with (go_at_call 44; (with_reducible refine (HPL.out _ _ HB1.out).mono ?_); rintro e w5 ⟨⟨z, rfl⟩, hb5⟩; have HB5 := Lib.hid (And.intro (HB1.out.trans (hb5.mono HB1.out.size)) ((hb5.block _ hz4).trans hbx1)); clear hb5; obtain ⟨bp, hbp⟩ : ∃ b, (z != (j : Int)) = b := ⟨_, rfl⟩; cases bp)
      · go_wp2_with (fail)
        go_roundw
        case rel => exact ⟨j + 1, by go_num, by omega, HB5⟩
        case measure => simp [intOf]; omega
      · go_wp2_with (fail)
        go_ret
        exact ⟨⟨_, rfl, fun h => by first | (cases h; done) | (simp at h; done)⟩, HB5.out.1⟩
    go_upto_region 10 with (fail)
    refine wp_gen (fun W => Below w.heap.size w W ∧ W.heap[w.heap.size]? = some (.cells #[.string nm, .slice (some a) n c, .int .i64 k', .slice U m cu, .slice R p cr, .string op, .int .i64 k, .int .i64 i, .string vs, .string s, .slice B q d] 31 (0, 0))) HS.out fun w6 hw6 => ?_
    have H6 := Lib.hid hw6
    clear g0 g1 g2 g3 g4 g5 g6 g7 g8 g9 g10 hz0
    clear hw6
    have g0 := Lib.cell_of_heap H6.out.2 0
    have g1 := Lib.cell_of_heap H6.out.2 1
    have g2 := Lib.cell_of_heap H6.out.2 2
    have g3 := Lib.cell_of_heap H6.out.2 3
    have g4 := Lib.cell_of_heap H6.out.2 4
    have g5 := Lib.cell_of_heap H6.out.2 5
    have g6 := Lib.cell_of_heap H6.out.2 6
    have g7 := Lib.cell_of_heap H6.out.2 7
    have g8 := Lib.cell_of_heap H6.out.2 8
    have g9 := Lib.cell_of_heap H6.out.2 9
    have g10 := Lib.cell_of_heap H6.out.2 10
    simp only [List.getElem?_toArray, List.getElem?_cons_zero, List.getElem?_cons_succ] at g0 g1 g2 g3 g4 g5 g6 g7 g8 g9 g10
    have hz0 := lt_of_block H6.out.2
    go_wp2_with (fail)
    go_loopw [6] (fun iv wr => ∃ j : Nat, iv = .int .i64 j ∧ j ≤ m ∧ Hid ((Below w.heap.size w wr ∧ wr.heap[w.heap.size]? = some (.cells #[.string nm, .slice (some a) n c, .int .i64 k', .slice U m cu, .slice R p cr, .string op, .int .i64 k, .int .i64 i, .string vs, .string s, .slice B q d] 31 (0, 0))) ∧ ∀ q (h : q < us.length), q < j → 0 ≤ us[q] ∧ us[q] < n)) (fun iv _ => m - (intOf iv).toNat)
    case atStart => exact ⟨0, rfl, by omega, Lib.hid ⟨H6.out, fun q _ h => absurd h (by omega)⟩⟩
    case round =>
      rename World => wz
      obtain ⟨j2, rfl, hj2, HZ⟩ := hrel
      have hbz := HZ.out.1.2
      clear g0 g1 g2 g3 g4 g5 g6 g7 g8 g9 g10 hz0
      have g0 := Lib.cell_of_heap hbz 0
      have g1 := Lib.cell_of_heap hbz 1
      have g2 := Lib.cell_of_heap hbz 2
      have g3 := Lib.cell_of_heap hbz 3
      have g4 := Lib.cell_of_heap hbz 4
      have g5 := Lib.cell_of_heap hbz 5
      have g6 := Lib.cell_of_heap hbz 6
      have g7 := Lib.cell_of_heap hbz 7
      have g8 := Lib.cell_of_heap hbz 8
      have g9 := Lib.cell_of_heap hbz 9
      have g10 := Lib.cell_of_heap hbz 10
      simp only [List.getElem?_toArray, List.getElem?_cons_zero, List.getElem?_cons_succ] at g0 g1 g2 g3 g4 g5 g6 g7 g8 g9 g10
      have hz0 := lt_of_block hbz
      clear hbz
      by_cases hlt2 : j2 < m
      · have hjl : j2 < us.length := by have := HU.out.1; omega
        obtain ⟨a2, rfl, hE⟩ := (HU.out.below HZ.out.1.1).2.2 j2 hjl
        have e0 := hE
        simp only [Nat.mul_one] at e0
        have hal := World.block_lt_of_cell? _ _ hE
        clear hE
        obtain ⟨x, HXq⟩ : ∃ x, Hid (us[j2] = x) := ⟨_, Lib.hid rfl⟩
        rw [HXq.out] at e0
        by_cases hx0 : x < 0
        · have dx : decide (x < 0) = true := decide_eq_true hx0
          go_wp2_with (fail)
          go_ret
          exact ⟨⟨_, rfl, fun h => by first | (cases h; done) | (simp at h; done)⟩, HZ.out.1.1⟩
        have dx : decide (x < 0) = false := decide_eq_false hx0
        by_cases hxn : (n : Int) ≤ x
        · have dy : decide ((n : Int) ≤ x) = true := decide_eq_true hxn
          go_wp2_with (fail)
          go_ret
          exact ⟨⟨_, rfl, fun h => by first | (cases h; done) | (simp at h; done)⟩, HZ.out.1.1⟩
        have dy : decide ((n : Int) ≤ x) = false := decide_eq_false hxn
        go_wp2_with (fail)
        go_roundw
        case rel => exact ⟨j2 + 1, by go_num, by omega, Lib.hid ⟨HZ.out.1, fun q hq hlt => by
          by_cases e : q = j2
          · subst e
            rw [HXq.out]
            omega
          · exact HZ.out.2 q hq (by omega)⟩⟩
        case measure => simp [intOf]; omega
      have HUS : Hid (∀ y ∈ us, 0 ≤ y ∧ y < n) := Lib.hid fun y hy => by
        obtain ⟨q, hq, rfl⟩ := List.getElem_of_mem hy
        exact HZ.out.2 q hq (by have := HU.out.1; omega)
      go_upto_region 15 with (fail)
      refine wp_gen (fun W => Below w.heap.size w W ∧ W.heap[w.heap.size]? = some (.cells #[.string nm, .slice (some a) n c, .int .i64 k', .slice U m cu, .slice R p cr, .string op, .int .i64 k, .int .i64 i, .string vs, .string s, .slice B q d] 31 (0, 0))) HZ.out.1 fun w7 hw7 => ?_
      have H7 := Lib.hid hw7
      clear g0 g1 g2 g3 g4 g5 g6 g7 g8 g9 g10 hz0
      have g0 := Lib.cell_of_heap hw7.2 0
      have g1 := Lib.cell_of_heap hw7.2 1
      have g2 := Lib.cell_of_heap hw7.2 2
      have g3 := Lib.cell_of_heap hw7.2 3
      have g4 := Lib.cell_of_heap hw7.2 4
      have g5 := Lib.cell_of_heap hw7.2 5
      have g6 := Lib.cell_of_heap hw7.2 6
      have g7 := Lib.cell_of_heap hw7.2 7
      have g8 := Lib.cell_of_heap hw7.2 8
      have g9 := Lib.cell_of_heap hw7.2 9
      have g10 := Lib.cell_of_heap hw7.2 10
      simp only [List.getElem?_toArray, List.getElem?_cons_zero, List.getElem?_cons_succ] at g0 g1 g2 g3 g4 g5 g6 g7 g8 g9 g10
      have hz0 := lt_of_block hw7.2
      clear hw7
      go_wp2_with (fail)
      go_loopw [7] (fun iv wr => ∃ j : Nat, iv = .int .i64 j ∧ j ≤ p ∧ Hid (Below w.heap.size w wr ∧ wr.heap[w.heap.size]? = some (.cells #[.string nm, .slice (some a) n c, .int .i64 k', .slice U m cu, .slice R p cr, .string op, .int .i64 k, .int .i64 i, .string vs, .string s, .slice B q d] 31 (0, 0)))) (fun iv _ => p - (intOf iv).toNat)
      case atStart => exact ⟨0, rfl, by omega, H7⟩
      case round =>
        rename World => wy
        obtain ⟨j3, rfl, hj3, HY⟩ := hrel
        have hby := HY.out.2
        clear g0 g1 g2 g3 g4 g5 g6 g7 g8 g9 g10 hz0
        have g0 := Lib.cell_of_heap hby 0
        have g1 := Lib.cell_of_heap hby 1
        have g2 := Lib.cell_of_heap hby 2
        have g3 := Lib.cell_of_heap hby 3
        have g4 := Lib.cell_of_heap hby 4
        have g5 := Lib.cell_of_heap hby 5
        have g6 := Lib.cell_of_heap hby 6
        have g7 := Lib.cell_of_heap hby 7
        have g8 := Lib.cell_of_heap hby 8
        have g9 := Lib.cell_of_heap hby 9
        have g10 := Lib.cell_of_heap hby 10
        simp only [List.getElem?_toArray, List.getElem?_cons_zero, List.getElem?_cons_succ] at g0 g1 g2 g3 g4 g5 g6 g7 g8 g9 g10
        have hz0 := lt_of_block hby
        clear hby
        by_cases hlt3 : j3 < p
        · have hjl : j3 < rs.length := by have := HRS.out.1; omega
          obtain ⟨a2, rfl, hE⟩ := (HRS.out.below HY.out.1).2.2 j3 hjl
          have e0 := hE.c0
          have e1 := hE.c1
          have hal := World.block_lt_of_cell? _ _ e0
          clear hE
          have HNY := Lib.hid (HNR.out rs[j3] (List.getElem_mem hjl))
          generalize rs[j3] = y at e0 e1 HNY
          obtain ⟨yc, yt⟩ := y
          dsimp only at e0 e1 HNY
          obtain ⟨b1, hb1t⟩ : ∃ b, decide (yc < 0) = b := ⟨_, rfl⟩
          obtain ⟨b3, hb3t⟩ : ∃ b, decide ((n : Int) ≤ yc) = b := ⟨_, rfl⟩
          cases b1 <;> cases b3
          rotate_left
          · go_wp2_with (fail)
            go_ret
            exact ⟨⟨_, rfl, fun h => by first | (cases h; done) | (simp at h; done)⟩, HY.out.1⟩
          · go_wp2_with (fail)
            go_ret
            exact ⟨⟨_, rfl, fun h => by first | (cases h; done) | (simp at h; done)⟩, HY.out.1⟩
          · go_wp2_with (fail)
            go_ret
            exact ⟨⟨_, rfl, fun h => by first | (cases h; done) | (simp at h; done)⟩, HY.out.1⟩
          go_wp2_with (go_at_call 43; (with_reducible refine (HNY.out _).mono ?_); rintro e w8 ⟨⟨z, rfl⟩, hb8⟩; have HB8 := Lib.hid (And.intro (HY.out.1.trans (hb8.mono HY.out.1.size)) ((hb8.block _ hz0).trans HY.out.2)); clear hb8; cases z)
          · go_wp2_with (fail)
            go_ret
            exact ⟨⟨_, rfl, fun h => by first | (cases h; done) | (simp at h; done)⟩, HB8.out.1⟩
          · go_wp2_with (fail)
            go_roundw
            case rel => exact ⟨j3 + 1, by go_num, by omega, HB8⟩
            case measure => simp [intOf]; omega
        go_wp2_with (go_at_call 45; (with_reducible refine (HCK.out _ HY.out.1).mono ?_); rintro e w9 ⟨⟨z, rfl, hz⟩, hb9⟩; have HB9 := Lib.hid (And.intro (HY.out.1.trans (hb9.mono HY.out.1.size)) hz); clear hb9 hz)
        go_ret
        exact ⟨⟨_, rfl, fun h => HMF.out (by omega) (by omega) (by omega) HUS.out (HB9.out.2 (by simpa using h))⟩, HB9.out.1⟩
end Go.Proofs.YtmhkmliebhbkdaaGreat

/- The document's word on which rows fit a table. -/
namespace Go.Proofs.YtmhkmliebhbkdaaGreat
open Go.RowKit Go.Lib

/-- What is known of a row that fits. -/
def FitF (n : Nat) (cols : List Cl) (key : Int) (us : List Int) (t : Ex) (row : List Vl) : Prop := MayF n key us t ∧ row.length = n ∧ (∀ j (h : j < row.length), mayB row[j].k row[j].i row[j].s = true) ∧ ∀ j (h : j < row.length) (g : j < cols.length), row[j].k = 0 ∨ row[j].k = cols[j].t
set_option maxRecDepth 100000 in
set_option maxHeartbeats 4000000 in
theorem rfits6_any (nm : ByteArray) (A : Option Addr) (n c : Nat) (key : Int) (U : Option Addr) (m cu : Nat) (R : Option Addr) (p cr : Nat) (op : ByteArray) (k i : Int) (vs s : ByteArray) (B : Option Addr) (q d : Nat) (cols : List Cl) (us : List Int) (rs : List Rf) (l : List Ex) (P : Nat → Prop) (N : Nat) (D : Option Addr) (m2 cv : Nat) (row : List Vl) (w : World) (ht : TbS w nm A n c key U m cu R p cr op k i vs s B q d cols us rs l P N) (hk : okT (.mk op ⟨k, i, vs⟩ s l)) (hm2 : m2 ≤ 1000) (hv : Vals w w.heap.size D m2 row) (hok : ∀ x ∈ row, okV x) :
    Calls Tryz.prog 41 #[.agg #[.string nm, .slice A n c, .int .i64 key, .slice U m cu, .slice R p cr, .string op, .int .i64 k, .int .i64 i, .string vs, .string s, .slice B q d], .slice D m2 cv] w fun e w' => RetIP e (FitF n cols key us (.mk op ⟨k, i, vs⟩ s l) row) ∧ Below w.heap.size w w' := by
  have HMY : Hid (∀ W, Below w.heap.size w W → Calls Tryz.prog 19 #[.agg #[.string nm, .slice A n c, .int .i64 key, .slice U m cu, .slice R p cr, .string op, .int .i64 k, .int .i64 i, .string vs, .string s, .slice B q d]] W fun e w' => RetP e (MayF n key us (.mk op ⟨k, i, vs⟩ s l)) ∧ Below W.heap.size W w') := Lib.hid fun W hW => rmay6_any nm A n c key U m cu R p cr op k i vs s B q d cols us rs l P N W (ht.below hW) hk
  have HEV : Hid (frm 12 (.mk op ⟨k, i, vs⟩ s l) → ∀ W, Below w.heap.size w W → Calls Tryz.prog 36 #[.agg #[.string op, .int .i64 k, .int .i64 i, .string vs, .string s, .slice B q d], .slice A n c, .slice D m2 cv] W fun e w' => RetV e ∧ Below W.heap.size W w') := Lib.hid fun hf W hW => reval_any P A n c cols D m2 cv row hm2 hok 12 (.mk op ⟨k, i, vs⟩ s l) (.slice B q d) N W hf hk (ht.chk.below hW) (ht.hcols.below hW) ((hv.keep hW).more hW.size)
  have HI := Lib.hid (fun x y z W => is_f x y z W)
  have HC := Lib.hid ht.hcols
  have HV := Lib.hid hv
  have HVL := Lib.hid hv.1
  have HOK := Lib.hid hok
  have hn : n ≤ maxLen := ht.hcols.2.1
  unfold maxLen at hn
  have HFF : Hid (MayF n key us (.mk op ⟨k, i, vs⟩ s l) → row.length = n → (∀ j (h : j < row.length), mayB row[j].k row[j].i row[j].s = true) → (∀ j (h : j < row.length) (g : j < cols.length), row[j].k = 0 ∨ row[j].k = cols[j].t) → FitF n cols key us (.mk op ⟨k, i, vs⟩ s l) row) := Lib.hid fun a b c d => ⟨a, b, c, d⟩
  have HMF : Hid (MayF n key us (.mk op ⟨k, i, vs⟩ s l) → ¬ op.toList = [] → frm 12 (.mk op ⟨k, i, vs⟩ s l)) := Lib.hid fun h => h.2.2.2.2
  generalize MayF n key us (.mk op ⟨k, i, vs⟩ s l) = mf at HMY HFF HMF
  generalize frm 12 (.mk op ⟨k, i, vs⟩ s l) = ff at HEV HMF
  generalize FitF n cols key us (.mk op ⟨k, i, vs⟩ s l) row = pp at HFF ⊢
  clear ht hk hv hok
  go_enter Tryz.func41, Tryz.ntmps41
  go_upto_region 1 with (fail)
  refine wp_gen (fun W => Below w.heap.size w W ∧ W.heap[w.heap.size]? = some (.cells #[.string nm, .slice A n c, .int .i64 key, .slice U m cu, .slice R p cr, .string op, .int .i64 k, .int .i64 i, .string vs, .string s, .slice B q d] 31 (0, 0))) ⟨(Below.refl _ _).alloc (Nat.le_refl _) _, alloc_at rfl _⟩ fun w0 hw0 => ?_
  have H0 := Lib.hid hw0
  have g0 := Lib.cell_of_heap hw0.2 0
  have g1 := Lib.cell_of_heap hw0.2 1
  have g2 := Lib.cell_of_heap hw0.2 2
  have g3 := Lib.cell_of_heap hw0.2 3
  have g4 := Lib.cell_of_heap hw0.2 4
  have g5 := Lib.cell_of_heap hw0.2 5
  have g6 := Lib.cell_of_heap hw0.2 6
  have g7 := Lib.cell_of_heap hw0.2 7
  have g8 := Lib.cell_of_heap hw0.2 8
  have g9 := Lib.cell_of_heap hw0.2 9
  have g10 := Lib.cell_of_heap hw0.2 10
  simp only [List.getElem?_toArray, List.getElem?_cons_zero, List.getElem?_cons_succ] at g0 g1 g2 g3 g4 g5 g6 g7 g8 g9 g10
  have hz0 := lt_of_block hw0.2
  clear hw0
  by_cases hmn : m2 = n
  rotate_left
  · have dq : ((m2 : Int) != n) = true := by simp; omega
    go_wp2_with (go_at_call 19; (with_reducible refine (HMY.out _ H0.out.1).mono ?_); rintro e w1 ⟨⟨z, rfl, hz⟩, hb1⟩; have HB1 := Lib.hid (H0.out.1.trans (hb1.mono H0.out.1.size)); have hc1 := (bcell hb1).1; have hy1 := hb1.size; have hz1 : w.heap.size < w1.heap.size := (by omega); clear hb1 hz; cases z)
    all_goals go_wp2_with (fail)
    all_goals go_ret
    all_goals exact ⟨⟨_, rfl, fun h => by first | (cases h; done) | (simp at h; done) | (omega)⟩, HB1.out⟩
  have hmn2 : n = m2 := hmn.symm
  subst hmn2
  clear hmn
  go_upto_region 3 with (go_at_call 19; (with_reducible refine (HMY.out _ H0.out.1).mono ?_); rintro e w1 ⟨⟨z, rfl, hz⟩, hb1⟩; have HB1 := Lib.hid (And.intro (And.intro (H0.out.1.trans (hb1.mono H0.out.1.size)) ((hb1.block _ hz0).trans H0.out.2)) hz); have hc1 := (bcell hb1).1; have hy1 := hb1.size; have hz1 : w.heap.size < w1.heap.size := (by omega); clear hb1 hz; cases z)
  · go_wp2_with (fail)
    go_ret
    exact ⟨⟨_, rfl, fun h => by first | (cases h; done) | (simp at h; done) | (omega)⟩, HB1.out.1.1⟩
  have HMT : Hid mf := Lib.hid (HB1.out.2 (by first | exact rfl | trivial))
  refine wp_gen (fun W => Below w.heap.size w W ∧ W.heap[w.heap.size]? = some (.cells #[.string nm, .slice A n c, .int .i64 key, .slice U m cu, .slice R p cr, .string op, .int .i64 k, .int .i64 i, .string vs, .string s, .slice B q d] 31 (0, 0))) HB1.out.1 fun w2 hw2 => ?_
  have H2 := Lib.hid hw2
  clear g0 g1 g2 g3 g4 g5 g6 g7 g8 g9 g10 hz0
  have g0 := Lib.cell_of_heap hw2.2 0
  have g1 := Lib.cell_of_heap hw2.2 1
  have g2 := Lib.cell_of_heap hw2.2 2
  have g3 := Lib.cell_of_heap hw2.2 3
  have g4 := Lib.cell_of_heap hw2.2 4
  have g5 := Lib.cell_of_heap hw2.2 5
  have g6 := Lib.cell_of_heap hw2.2 6
  have g7 := Lib.cell_of_heap hw2.2 7
  have g8 := Lib.cell_of_heap hw2.2 8
  have g9 := Lib.cell_of_heap hw2.2 9
  have g10 := Lib.cell_of_heap hw2.2 10
  simp only [List.getElem?_toArray, List.getElem?_cons_zero, List.getElem?_cons_succ] at g0 g1 g2 g3 g4 g5 g6 g7 g8 g9 g10
  have hz0 := lt_of_block hw2.2
  clear hw2 HB1
  go_wp2_with (fail)
  go_loopw [5] (fun iv wr => ∃ j : Nat, iv = .int .i64 j ∧ j ≤ n ∧ Hid ((Below w.heap.size w wr ∧ wr.heap[w.heap.size]? = some (.cells #[.string nm, .slice A n c, .int .i64 key, .slice U m cu, .slice R p cr, .string op, .int .i64 k, .int .i64 i, .string vs, .string s, .slice B q d] 31 (0, 0))) ∧ ∀ q (h : q < row.length), q < j → mayB row[q].k row[q].i row[q].s = true)) (fun iv _ => n - (intOf iv).toNat)
  case atStart => exact ⟨0, rfl, by omega, Lib.hid ⟨H2.out, fun q _ h => absurd h (by omega)⟩⟩
  case round =>
    obtain ⟨j, rfl, hj, HS⟩ := hrel
    by_cases hlt : j < n
    · have hjl : j < row.length := by have := HVL.out; omega
      obtain ⟨a2, rfl, hx, hb2⟩ := HV.out.2 j hjl
      have hx6 := hx.keep (W' := wr) HS.out.1.1 (by rw [add_block]; exact hb2)
      have HMB := Lib.hid (rmay_any row[j].k row[j].i row[j].s wr (by have := (HOK.out row[j] (List.getElem_mem hjl)).2; unfold maxLen; omega))
      obtain ⟨mb, HMQ⟩ : ∃ b, Hid (mayB row[j].k row[j].i row[j].s = b) := ⟨_, Lib.hid rfl⟩
      rw [HMQ.out] at HMB
      have r0 := hx6.k
      have r1 := hx6.i
      have r2 := hx6.s
      have hrl : (a2.add (j * 3)).block < wr.heap.size := by rw [add_block]; have := HS.out.1.1.size; omega
      generalize row[j].k = rk at r0 HMB
      generalize row[j].i = ri at r1 HMB
      generalize row[j].s = rv at r2 HMB
      clear hx hx6
      cases mb
      · go_wp2_with (go_at_call 73; (with_reducible refine HMB.out.mono ?_); rintro e w3 ⟨rfl, hb3⟩; have HB3 := Lib.hid (HS.out.1.1.trans (hb3.mono HS.out.1.1.size)); clear hb3)
        go_ret
        exact ⟨⟨_, rfl, fun h => by first | (cases h; done) | (simp at h; done) | (omega)⟩, HB3.out⟩
      · have hzr := lt_of_block HS.out.1.2
        go_wp2_with (go_at_call 73; (with_reducible refine HMB.out.mono ?_); rintro e w3 ⟨rfl, hb3⟩; have HB3 := Lib.hid (And.intro (HS.out.1.1.trans (hb3.mono HS.out.1.1.size)) ((hb3.block _ hzr).trans HS.out.1.2)); clear hb3)
        go_roundw
        case rel => exact ⟨j + 1, by go_num, by omega, Lib.hid ⟨HB3.out, fun q hq hlt => by
          by_cases e : q = j
          · subst e
            exact HMQ.out
          · exact HS.out.2 q hq (by omega)⟩⟩
        case measure => simp [intOf]; omega
    have HAL : Hid (∀ q (h : q < row.length), mayB row[q].k row[q].i row[q].s = true) := Lib.hid fun q hq => HS.out.2 q hq (by have := HVL.out; omega)
    go_upto_region 8 with (fail)
    refine wp_gen (fun W => Below w.heap.size w W ∧ W.heap[w.heap.size]? = some (.cells #[.string nm, .slice A n c, .int .i64 key, .slice U m cu, .slice R p cr, .string op, .int .i64 k, .int .i64 i, .string vs, .string s, .slice B q d] 31 (0, 0))) HS.out.1 fun w4 hw4 => ?_
    have H4 := Lib.hid hw4
    clear g0 g1 g2 g3 g4 g5 g6 g7 g8 g9 g10 hz0
    clear hw4
    go_wp2_with (fail)
    go_loopw [6] (fun iv wr => ∃ j : Nat, iv = .int .i64 j ∧ j ≤ n ∧ Hid ((Below w.heap.size w wr ∧ wr.heap[w.heap.size]? = some (.cells #[.string nm, .slice A n c, .int .i64 key, .slice U m cu, .slice R p cr, .string op, .int .i64 k, .int .i64 i, .string vs, .string s, .slice B q d] 31 (0, 0))) ∧ ∀ q (h : q < row.length) (g : q < cols.length), q < j → row[q].k = 0 ∨ row[q].k = cols[q].t)) (fun iv _ => n - (intOf iv).toNat)
    case atStart => exact ⟨0, rfl, by omega, Lib.hid ⟨H4.out, fun q _ _ h => absurd h (by omega)⟩⟩
    case round =>
      clear HS
      rename_i wr0 _ _ _ _ _ _
      obtain ⟨j, rfl, hj, HS⟩ := hrel
      have hbx := HS.out.1.2
      have g0 := Lib.cell_of_heap hbx 0
      have g1 := Lib.cell_of_heap hbx 1
      have g2 := Lib.cell_of_heap hbx 2
      have g3 := Lib.cell_of_heap hbx 3
      have g4 := Lib.cell_of_heap hbx 4
      have g5 := Lib.cell_of_heap hbx 5
      have g6 := Lib.cell_of_heap hbx 6
      have g7 := Lib.cell_of_heap hbx 7
      have g8 := Lib.cell_of_heap hbx 8
      have g9 := Lib.cell_of_heap hbx 9
      have g10 := Lib.cell_of_heap hbx 10
      simp only [List.getElem?_toArray, List.getElem?_cons_zero, List.getElem?_cons_succ] at g0 g1 g2 g3 g4 g5 g6 g7 g8 g9 g10
      have hz0 := lt_of_block hbx
      clear hbx
      by_cases hlt : j < n
      · have hjl : j < row.length := by have := HVL.out; omega
        have hjc : j < cols.length := by have := HC.out.1; omega
        obtain ⟨a2, rfl, hx, hb2⟩ := HV.out.2 j hjl
        have hx6 := hx.keep (W' := wr) HS.out.1.1 (by rw [add_block]; exact hb2)
        obtain ⟨a, rfl, hE⟩ := (HC.out.below HS.out.1.1).2.2 j hjc
        have e1 := hE.c1
        have e2 := hE.c2
        have hal := hE.lt
        clear hE
        have HROW : Hid ((row[j].k = 0 ∨ row[j].k = cols[j].t) → ∀ q (h : q < row.length) (g : q < cols.length), q < j + 1 → row[q].k = 0 ∨ row[q].k = cols[q].t) := Lib.hid fun h q hq hg hlt => by
          by_cases e : q = j
          · subst e
            exact h
          · exact HS.out.2 q hq hg (by omega)
        generalize cols[j].t = ct at e1 HROW
        generalize cols[j].b = cb at e2
        generalize row[j] = r at hx6 HROW
        have r0 := hx6.k
        have hal2 : (a2.add (j * 3)).block < wr.heap.size := by rw [add_block]; have := HS.out.1.1.size; omega
        clear hx hx6
        by_cases hk0 : r.k = 0
        · have dk : (r.k == 0) = true := by simp [hk0]
          have dk2 : (r.k != 0) = false := by simp [hk0]
          have HR2 := Lib.hid (HROW.out (.inl hk0))
          clear hk0
          cases cb
          rotate_left
          · go_wp2_with (fail)
            go_ret
            exact ⟨⟨_, rfl, fun h => by first | (cases h; done) | (simp at h; done) | (omega)⟩, HS.out.1.1⟩
          go_upto_region 13 with (fail)
          refine detL_begin [.val (.slice (some a2) n cv), .val (.int .i64 j), .val (.pointer (some (a2.add (j * 3)))), .val (.pointer (some (a2.add (j * 3)))), .val (.int .i64 r.k), .val (.bool false), .val (.bool false), .val (undef), .val (undef), .val (undef), .val (undef), .val (undef), .val (undef), .val (undef), .val (undef), .val (undef), .val (undef), .val (undef), .val (undef), .val (.bool false)] 20 (by kernel_rfl) ?_
          refine detL_val (by kernel_rfl) (yields_of rfl fun w5 hb5 => ?_) ?_
          · have HBx := Lib.hid hb5
            clear hb5
            go_simp
            exact Det1_same
          simp only [Act.put, List.setIfInBounds_toArray, List.set_cons_zero, List.set_cons_succ]
          refine detL_val (by kernel_rfl) (yields_of rfl fun w5 hb5 => ?_) ?_
          · have HBx := Lib.hid hb5
            clear hb5
            go_simp
            exact Det1_same
          simp only [Act.put, List.setIfInBounds_toArray, List.set_cons_zero, List.set_cons_succ]
          refine detL_val (by kernel_rfl) (yields_of rfl fun w5 hb5 => ?_) ?_
          · have HBx := Lib.hid hb5
            clear hb5
            go_simp
            exact Det1_same
          simp only [Act.put, List.setIfInBounds_toArray, List.set_cons_zero, List.set_cons_succ]
          refine detL_val (by kernel_rfl) (yields_of rfl fun w5 hb5 => ?_) ?_
          · have HBx := Lib.hid hb5
            clear hb5
            go_simp
            exact Det1_same
          simp only [Act.put, List.setIfInBounds_toArray, List.set_cons_zero, List.set_cons_succ]
          refine detL_val (by kernel_rfl) (yields_of rfl fun w5 hb5 => ?_) ?_
          · have HBx := Lib.hid hb5
            have m0 := (hb5.cell (p := a2.add (j * 3)) hal2).trans r0
            clear hb5
            go_simp
            exact Det1_same
          simp only [Act.put, List.setIfInBounds_toArray, List.set_cons_zero, List.set_cons_succ]
          refine detL_val (by kernel_rfl) (yields_of rfl fun w5 hb5 => ?_) ?_
          · have HBx := Lib.hid hb5
            clear hb5
            go_simp
            exact Det1_same
          simp only [Act.put, List.setIfInBounds_toArray, List.set_cons_zero, List.set_cons_succ]
          refine detL_val (by kernel_rfl) (yields_of rfl fun w5 hb5 => ?_) ?_
          · have HBx := Lib.hid hb5
            clear hb5
            go_simp
            exact Det1_same
          simp only [Act.put, List.setIfInBounds_toArray, List.set_cons_zero, List.set_cons_succ]
          refine detL_val (by kernel_rfl) (yields_not rfl) ?_
          simp only [Act.put, List.setIfInBounds_toArray, List.set_cons_zero, List.set_cons_succ]
          refine detL_val (by kernel_rfl) (yields_not rfl) ?_
          simp only [Act.put, List.setIfInBounds_toArray, List.set_cons_zero, List.set_cons_succ]
          refine detL_val (by kernel_rfl) (yields_not rfl) ?_
          simp only [Act.put, List.setIfInBounds_toArray, List.set_cons_zero, List.set_cons_succ]
          refine detL_val (by kernel_rfl) (yields_not rfl) ?_
          simp only [Act.put, List.setIfInBounds_toArray, List.set_cons_zero, List.set_cons_succ]
          refine detL_val (by kernel_rfl) (yields_not rfl) ?_
          simp only [Act.put, List.setIfInBounds_toArray, List.set_cons_zero, List.set_cons_succ]
          refine detL_val (by kernel_rfl) (yields_not rfl) ?_
          simp only [Act.put, List.setIfInBounds_toArray, List.set_cons_zero, List.set_cons_succ]
          refine detL_val (by kernel_rfl) (yields_not rfl) ?_
          simp only [Act.put, List.setIfInBounds_toArray, List.set_cons_zero, List.set_cons_succ]
          refine detL_val (by kernel_rfl) (yields_not rfl) ?_
          simp only [Act.put, List.setIfInBounds_toArray, List.set_cons_zero, List.set_cons_succ]
          refine detL_val (by kernel_rfl) (yields_not rfl) ?_
          simp only [Act.put, List.setIfInBounds_toArray, List.set_cons_zero, List.set_cons_succ]
          refine detL_val (by kernel_rfl) (yields_not rfl) ?_
          simp only [Act.put, List.setIfInBounds_toArray, List.set_cons_zero, List.set_cons_succ]
          refine detL_val (by kernel_rfl) (yields_not rfl) ?_
          simp only [Act.put, List.setIfInBounds_toArray, List.set_cons_zero, List.set_cons_succ]
          refine detL_val (by kernel_rfl) (yields_not rfl) ?_
          simp only [Act.put, List.setIfInBounds_toArray, List.set_cons_zero, List.set_cons_succ]
          refine detL_val (by kernel_rfl) (yields_of rfl fun w5 hb5 => ?_) ?_
          · have HBx := Lib.hid hb5
            clear hb5
            go_simp
            exact Det1_same
          simp only [Act.put, List.setIfInBounds_toArray, List.set_cons_zero, List.set_cons_succ]
          refine detL_done (by kernel_rfl) fun w6 hw6 => ?_
          have hb6 : Below wr.heap.size wr w6 := (Below.refl _ _).drew.trans hw6.below
          have H6 := Lib.hid (show Below w.heap.size w w6 ∧ w6.heap[w.heap.size]? = some (.cells #[.string nm, .slice (some a) n c, .int .i64 key, .slice U m cu, .slice R p cr, .string op, .int .i64 k, .int .i64 i, .string vs, .string s, .slice B q d] 31 (0, 0)) from ⟨HS.out.1.1.trans (hb6.mono HS.out.1.1.size), (hb6.block _ hz0).trans HS.out.1.2⟩)
          clear hw6 hb6
          go_wp2_with (fail)
          go_roundw
          case rel => exact ⟨j + 1, by go_num, by omega, Lib.hid ⟨H6.out, HR2.out⟩⟩
          case measure => simp [intOf]; omega
        · have dk : (r.k == 0) = false := by simp [hk0]
          have dk2 : (r.k != 0) = true := by simp [hk0]
          by_cases hkt : r.k = ct
          · have dk3 : (r.k != ct) = false := by simp [hkt]
            have HR2 := Lib.hid (HROW.out (.inr hkt))
            clear hk0 hkt
            go_upto_region 13 with (fail)
            refine detL_begin [.val (.slice (some a2) n cv), .val (.int .i64 j), .val (.pointer (some (a2.add (j * 3)))), .val (.pointer (some (a2.add (j * 3)))), .val (.int .i64 r.k), .val (.bool true), .val (.bool true), .val (.slice (some a2) n cv), .val (.int .i64 j), .val (.pointer (some (a2.add (j * 3)))), .val (.pointer (some (a2.add (j * 3)))), .val (.int .i64 r.k), .val (.pointer (some ⟨w.heap.size, 1, none⟩)), .val (.slice (some a) n c), .val (.int .i64 j), .val (.pointer (some (a.add (j * 3)))), .val (.pointer (some ⟨(a.add (j * 3)).block, (a.add (j * 3)).off + 1, none⟩)), .val (.int .i64 ct), .val (.bool false), .val (.bool false)] 20 (by kernel_rfl) ?_
            refine detL_val (by kernel_rfl) (yields_of rfl fun w5 hb5 => ?_) ?_
            · have HBx := Lib.hid hb5
              clear hb5
              go_simp
              exact Det1_same
            simp only [Act.put, List.setIfInBounds_toArray, List.set_cons_zero, List.set_cons_succ]
            refine detL_val (by kernel_rfl) (yields_of rfl fun w5 hb5 => ?_) ?_
            · have HBx := Lib.hid hb5
              clear hb5
              go_simp
              exact Det1_same
            simp only [Act.put, List.setIfInBounds_toArray, List.set_cons_zero, List.set_cons_succ]
            refine detL_val (by kernel_rfl) (yields_of rfl fun w5 hb5 => ?_) ?_
            · have HBx := Lib.hid hb5
              clear hb5
              go_simp
              exact Det1_same
            simp only [Act.put, List.setIfInBounds_toArray, List.set_cons_zero, List.set_cons_succ]
            refine detL_val (by kernel_rfl) (yields_of rfl fun w5 hb5 => ?_) ?_
            · have HBx := Lib.hid hb5
              clear hb5
              go_simp
              exact Det1_same
            simp only [Act.put, List.setIfInBounds_toArray, List.set_cons_zero, List.set_cons_succ]
            refine detL_val (by kernel_rfl) (yields_of rfl fun w5 hb5 => ?_) ?_
            · have HBx := Lib.hid hb5
              have m0 := (hb5.cell (p := a2.add (j * 3)) hal2).trans r0
              clear hb5
              go_simp
              exact Det1_same
            simp only [Act.put, List.setIfInBounds_toArray, List.set_cons_zero, List.set_cons_succ]
            refine detL_val (by kernel_rfl) (yields_of rfl fun w5 hb5 => ?_) ?_
            · have HBx := Lib.hid hb5
              clear hb5
              go_simp
              exact Det1_same
            simp only [Act.put, List.setIfInBounds_toArray, List.set_cons_zero, List.set_cons_succ]
            refine detL_val (by kernel_rfl) (yields_of rfl fun w5 hb5 => ?_) ?_
            · have HBx := Lib.hid hb5
              clear hb5
              go_simp
              exact Det1_same
            simp only [Act.put, List.setIfInBounds_toArray, List.set_cons_zero, List.set_cons_succ]
            refine detL_val (by kernel_rfl) (yields_of rfl fun w5 hb5 => ?_) ?_
            · have HBx := Lib.hid hb5
              clear hb5
              go_simp
              exact Det1_same
            simp only [Act.put, List.setIfInBounds_toArray, List.set_cons_zero, List.set_cons_succ]
            refine detL_val (by kernel_rfl) (yields_of rfl fun w5 hb5 => ?_) ?_
            · have HBx := Lib.hid hb5
              clear hb5
              go_simp
              exact Det1_same
            simp only [Act.put, List.setIfInBounds_toArray, List.set_cons_zero, List.set_cons_succ]
            refine detL_val (by kernel_rfl) (yields_of rfl fun w5 hb5 => ?_) ?_
            · have HBx := Lib.hid hb5
              clear hb5
              go_simp
              exact Det1_same
            simp only [Act.put, List.setIfInBounds_toArray, List.set_cons_zero, List.set_cons_succ]
            refine detL_val (by kernel_rfl) (yields_of rfl fun w5 hb5 => ?_) ?_
            · have HBx := Lib.hid hb5
              clear hb5
              go_simp
              exact Det1_same
            simp only [Act.put, List.setIfInBounds_toArray, List.set_cons_zero, List.set_cons_succ]
            refine detL_val (by kernel_rfl) (yields_of rfl fun w5 hb5 => ?_) ?_
            · have HBx := Lib.hid hb5
              have m0 := (hb5.cell (p := a2.add (j * 3)) hal2).trans r0
              clear hb5
              go_simp
              exact Det1_same
            simp only [Act.put, List.setIfInBounds_toArray, List.set_cons_zero, List.set_cons_succ]
            refine detL_val (by kernel_rfl) (yields_of rfl fun w5 hb5 => ?_) ?_
            · have HBx := Lib.hid hb5
              clear hb5
              go_simp
              exact Det1_same
            simp only [Act.put, List.setIfInBounds_toArray, List.set_cons_zero, List.set_cons_succ]
            refine detL_val (by kernel_rfl) (yields_of rfl fun w5 hb5 => ?_) ?_
            · have HBx := Lib.hid hb5
              have m0 := (hb5.cell (p := ⟨w.heap.size, 1, none⟩) hz0).trans g1
              clear hb5
              go_simp
              exact Det1_same
            simp only [Act.put, List.setIfInBounds_toArray, List.set_cons_zero, List.set_cons_succ]
            refine detL_val (by kernel_rfl) (yields_of rfl fun w5 hb5 => ?_) ?_
            · have HBx := Lib.hid hb5
              clear hb5
              go_simp
              exact Det1_same
            simp only [Act.put, List.setIfInBounds_toArray, List.set_cons_zero, List.set_cons_succ]
            refine detL_val (by kernel_rfl) (yields_of rfl fun w5 hb5 => ?_) ?_
            · have HBx := Lib.hid hb5
              clear hb5
              go_simp
              exact Det1_same
            simp only [Act.put, List.setIfInBounds_toArray, List.set_cons_zero, List.set_cons_succ]
            refine detL_val (by kernel_rfl) (yields_of rfl fun w5 hb5 => ?_) ?_
            · have HBx := Lib.hid hb5
              clear hb5
              go_simp
              exact Det1_same
            simp only [Act.put, List.setIfInBounds_toArray, List.set_cons_zero, List.set_cons_succ]
            refine detL_val (by kernel_rfl) (yields_of rfl fun w5 hb5 => ?_) ?_
            · have HBx := Lib.hid hb5
              have m0 := (hb5.cell (p := ⟨(a.add (j * 3)).block, (a.add (j * 3)).off + 1, none⟩) hal).trans e1
              clear hb5
              go_simp
              exact Det1_same
            simp only [Act.put, List.setIfInBounds_toArray, List.set_cons_zero, List.set_cons_succ]
            refine detL_val (by kernel_rfl) (yields_of rfl fun w5 hb5 => ?_) ?_
            · have HBx := Lib.hid hb5
              clear hb5
              go_simp
              exact Det1_same
            simp only [Act.put, List.setIfInBounds_toArray, List.set_cons_zero, List.set_cons_succ]
            refine detL_val (by kernel_rfl) (yields_of rfl fun w5 hb5 => ?_) ?_
            · have HBx := Lib.hid hb5
              clear hb5
              go_simp
              exact Det1_same
            simp only [Act.put, List.setIfInBounds_toArray, List.set_cons_zero, List.set_cons_succ]
            refine detL_done (by kernel_rfl) fun w6 hw6 => ?_
            have hb6 : Below wr.heap.size wr w6 := (Below.refl _ _).drew.trans hw6.below
            have H6 := Lib.hid (show Below w.heap.size w w6 ∧ w6.heap[w.heap.size]? = some (.cells #[.string nm, .slice (some a) n c, .int .i64 key, .slice U m cu, .slice R p cr, .string op, .int .i64 k, .int .i64 i, .string vs, .string s, .slice B q d] 31 (0, 0)) from ⟨HS.out.1.1.trans (hb6.mono HS.out.1.1.size), (hb6.block _ hz0).trans HS.out.1.2⟩)
            clear hw6 hb6
            go_wp2_with (fail)
            go_roundw
            case rel => exact ⟨j + 1, by go_num, by omega, Lib.hid ⟨H6.out, HR2.out⟩⟩
            case measure => simp [intOf]; omega
          · have dk3 : (r.k != ct) = true := by simp [hkt]
            clear hk0 hkt
            go_upto_region 13 with (fail)
            refine detL_begin [.val (.slice (some a2) n cv), .val (.int .i64 j), .val (.pointer (some (a2.add (j * 3)))), .val (.pointer (some (a2.add (j * 3)))), .val (.int .i64 r.k), .val (.bool true), .val (.bool true), .val (.slice (some a2) n cv), .val (.int .i64 j), .val (.pointer (some (a2.add (j * 3)))), .val (.pointer (some (a2.add (j * 3)))), .val (.int .i64 r.k), .val (.pointer (some ⟨w.heap.size, 1, none⟩)), .val (.slice (some a) n c), .val (.int .i64 j), .val (.pointer (some (a.add (j * 3)))), .val (.pointer (some ⟨(a.add (j * 3)).block, (a.add (j * 3)).off + 1, none⟩)), .val (.int .i64 ct), .val (.bool true), .val (.bool true)] 20 (by kernel_rfl) ?_
            refine detL_val (by kernel_rfl) (yields_of rfl fun w5 hb5 => ?_) ?_
            · have HBx := Lib.hid hb5
              clear hb5
              go_simp
              exact Det1_same
            simp only [Act.put, List.setIfInBounds_toArray, List.set_cons_zero, List.set_cons_succ]
            refine detL_val (by kernel_rfl) (yields_of rfl fun w5 hb5 => ?_) ?_
            · have HBx := Lib.hid hb5
              clear hb5
              go_simp
              exact Det1_same
            simp only [Act.put, List.setIfInBounds_toArray, List.set_cons_zero, List.set_cons_succ]
            refine detL_val (by kernel_rfl) (yields_of rfl fun w5 hb5 => ?_) ?_
            · have HBx := Lib.hid hb5
              clear hb5
              go_simp
              exact Det1_same
            simp only [Act.put, List.setIfInBounds_toArray, List.set_cons_zero, List.set_cons_succ]
            refine detL_val (by kernel_rfl) (yields_of rfl fun w5 hb5 => ?_) ?_
            · have HBx := Lib.hid hb5
              clear hb5
              go_simp
              exact Det1_same
            simp only [Act.put, List.setIfInBounds_toArray, List.set_cons_zero, List.set_cons_succ]
            refine detL_val (by kernel_rfl) (yields_of rfl fun w5 hb5 => ?_) ?_
            · have HBx := Lib.hid hb5
              have m0 := (hb5.cell (p := a2.add (j * 3)) hal2).trans r0
              clear hb5
              go_simp
              exact Det1_same
            simp only [Act.put, List.setIfInBounds_toArray, List.set_cons_zero, List.set_cons_succ]
            refine detL_val (by kernel_rfl) (yields_of rfl fun w5 hb5 => ?_) ?_
            · have HBx := Lib.hid hb5
              clear hb5
              go_simp
              exact Det1_same
            simp only [Act.put, List.setIfInBounds_toArray, List.set_cons_zero, List.set_cons_succ]
            refine detL_val (by kernel_rfl) (yields_of rfl fun w5 hb5 => ?_) ?_
            · have HBx := Lib.hid hb5
              clear hb5
              go_simp
              exact Det1_same
            simp only [Act.put, List.setIfInBounds_toArray, List.set_cons_zero, List.set_cons_succ]
            refine detL_val (by kernel_rfl) (yields_of rfl fun w5 hb5 => ?_) ?_
            · have HBx := Lib.hid hb5
              clear hb5
              go_simp
              exact Det1_same
            simp only [Act.put, List.setIfInBounds_toArray, List.set_cons_zero, List.set_cons_succ]
            refine detL_val (by kernel_rfl) (yields_of rfl fun w5 hb5 => ?_) ?_
            · have HBx := Lib.hid hb5
              clear hb5
              go_simp
              exact Det1_same
            simp only [Act.put, List.setIfInBounds_toArray, List.set_cons_zero, List.set_cons_succ]
            refine detL_val (by kernel_rfl) (yields_of rfl fun w5 hb5 => ?_) ?_
            · have HBx := Lib.hid hb5
              clear hb5
              go_simp
              exact Det1_same
            simp only [Act.put, List.setIfInBounds_toArray, List.set_cons_zero, List.set_cons_succ]
            refine detL_val (by kernel_rfl) (yields_of rfl fun w5 hb5 => ?_) ?_
            · have HBx := Lib.hid hb5
              clear hb5
              go_simp
              exact Det1_same
            simp only [Act.put, List.setIfInBounds_toArray, List.set_cons_zero, List.set_cons_succ]
            refine detL_val (by kernel_rfl) (yields_of rfl fun w5 hb5 => ?_) ?_
            · have HBx := Lib.hid hb5
              have m0 := (hb5.cell (p := a2.add (j * 3)) hal2).trans r0
              clear hb5
              go_simp
              exact Det1_same
            simp only [Act.put, List.setIfInBounds_toArray, List.set_cons_zero, List.set_cons_succ]
            refine detL_val (by kernel_rfl) (yields_of rfl fun w5 hb5 => ?_) ?_
            · have HBx := Lib.hid hb5
              clear hb5
              go_simp
              exact Det1_same
            simp only [Act.put, List.setIfInBounds_toArray, List.set_cons_zero, List.set_cons_succ]
            refine detL_val (by kernel_rfl) (yields_of rfl fun w5 hb5 => ?_) ?_
            · have HBx := Lib.hid hb5
              have m0 := (hb5.cell (p := ⟨w.heap.size, 1, none⟩) hz0).trans g1
              clear hb5
              go_simp
              exact Det1_same
            simp only [Act.put, List.setIfInBounds_toArray, List.set_cons_zero, List.set_cons_succ]
            refine detL_val (by kernel_rfl) (yields_of rfl fun w5 hb5 => ?_) ?_
            · have HBx := Lib.hid hb5
              clear hb5
              go_simp
              exact Det1_same
            simp only [Act.put, List.setIfInBounds_toArray, List.set_cons_zero, List.set_cons_succ]
            refine detL_val (by kernel_rfl) (yields_of rfl fun w5 hb5 => ?_) ?_
            · have HBx := Lib.hid hb5
              clear hb5
              go_simp
              exact Det1_same
            simp only [Act.put, List.setIfInBounds_toArray, List.set_cons_zero, List.set_cons_succ]
            refine detL_val (by kernel_rfl) (yields_of rfl fun w5 hb5 => ?_) ?_
            · have HBx := Lib.hid hb5
              clear hb5
              go_simp
              exact Det1_same
            simp only [Act.put, List.setIfInBounds_toArray, List.set_cons_zero, List.set_cons_succ]
            refine detL_val (by kernel_rfl) (yields_of rfl fun w5 hb5 => ?_) ?_
            · have HBx := Lib.hid hb5
              have m0 := (hb5.cell (p := ⟨(a.add (j * 3)).block, (a.add (j * 3)).off + 1, none⟩) hal).trans e1
              clear hb5
              go_simp
              exact Det1_same
            simp only [Act.put, List.setIfInBounds_toArray, List.set_cons_zero, List.set_cons_succ]
            refine detL_val (by kernel_rfl) (yields_of rfl fun w5 hb5 => ?_) ?_
            · have HBx := Lib.hid hb5
              clear hb5
              go_simp
              exact Det1_same
            simp only [Act.put, List.setIfInBounds_toArray, List.set_cons_zero, List.set_cons_succ]
            refine detL_val (by kernel_rfl) (yields_of rfl fun w5 hb5 => ?_) ?_
            · have HBx := Lib.hid hb5
              clear hb5
              go_simp
              exact Det1_same
            simp only [Act.put, List.setIfInBounds_toArray, List.set_cons_zero, List.set_cons_succ]
            refine detL_done (by kernel_rfl) fun w6 hw6 => ?_
            have hb6 : Below wr.heap.size wr w6 := (Below.refl _ _).drew.trans hw6.below
            have H6 := Lib.hid (show Below w.heap.size w w6 ∧ w6.heap[w.heap.size]? = some (.cells #[.string nm, .slice (some a) n c, .int .i64 key, .slice U m cu, .slice R p cr, .string op, .int .i64 k, .int .i64 i, .string vs, .string s, .slice B q d] 31 (0, 0)) from ⟨HS.out.1.1.trans (hb6.mono HS.out.1.1.size), (hb6.block _ hz0).trans HS.out.1.2⟩)
            clear hw6 hb6
            go_wp2_with (fail)
            go_ret
            exact ⟨⟨_, rfl, fun h => by first | (cases h; done) | (simp at h; done) | (omega)⟩, H6.out.1⟩
      have HFI : Hid pp := Lib.hid (HFF.out HMT.out HVL.out HAL.out (fun q hq hg => HS.out.2 q hq hg (by have := HVL.out; omega)))
      by_cases hop : op.toList = []
      · go_wp2_with (fail)
        go_ret
        exact ⟨⟨_, rfl, fun _ => HFI.out⟩, HS.out.1.1⟩
      · have HEW := Lib.hid (HEV.out (HMF.out HMT.out hop))
        go_wp2_with (first
          | (go_at_call 36; (with_reducible refine (HEW.out _ HS.out.1.1).mono ?_); rintro e w7 ⟨⟨x, hx, rfl⟩, hb7⟩; have HB7 := Lib.hid (HS.out.1.1.trans (hb7.mono HS.out.1.1.size)); have hc7 := (bcell hb7).1; clear hb7 hx)
          | (go_at_call 35; (with_reducible refine (HI.out _ _ _ _).mono ?_); rintro e w8 ⟨rfl, hb8⟩; have HB8 := Lib.hid (HB7.out.trans (hb8.mono HB7.out.size)); clear hb8; generalize decide (saysN x.k x.i x.s = 0) = ib; cases ib))
        all_goals go_wp2_with (fail)
        all_goals go_ret
        all_goals exact ⟨⟨_, rfl, fun _ => HFI.out⟩, HB8.out⟩
end Go.Proofs.YtmhkmliebhbkdaaGreat

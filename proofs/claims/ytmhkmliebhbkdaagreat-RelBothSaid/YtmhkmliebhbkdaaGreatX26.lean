import Derived.Test.YtmhkmliebhbkdaaGreatX25

/- The document's key of a row; whether a value is in a column twice. -/
namespace Go.Proofs.YtmhkmliebhbkdaaGreat
open Go.RowKit Go.Lib

set_option maxRecDepth 100000 in
set_option maxHeartbeats 4000000 in
theorem rkey_any (nm : ByteArray) (A : Option Addr) (n c : Nat) (key : Int) (U : Option Addr) (m cu : Nat) (R : Option Addr) (p cr : Nat) (op : ByteArray) (k i : Int) (vs s : ByteArray) (B : Option Addr) (q d : Nat) (cols : List Cl) (us : List Int) (rs : List Rf) (l : List Ex) (P : Nat → Prop) (N : Nat) (D : Option Addr) (m2 cv : Nat) (row : List Vl) (w : World) (ht : TbS w nm A n c key U m cu R p cr op k i vs s B q d cols us rs l P N) (hk : okT (.mk op ⟨k, i, vs⟩ s l)) (hm2 : m2 ≤ 1000) (hv : Vals w w.heap.size D m2 row) (hok : ∀ x ∈ row, okV x) :
    Calls Tryz.prog 30 #[.agg #[.string nm, .slice A n c, .int .i64 key, .slice U m cu, .slice R p cr, .string op, .int .i64 k, .int .i64 i, .string vs, .string s, .slice B q d], .slice D m2 cv] w fun e w' => RetV e ∧ Below w.heap.size w w' := by
  have HMY : Hid (∀ W, Below w.heap.size w W → Calls Tryz.prog 19 #[.agg #[.string nm, .slice A n c, .int .i64 key, .slice U m cu, .slice R p cr, .string op, .int .i64 k, .int .i64 i, .string vs, .string s, .slice B q d]] W fun e w' => RetP e (0 ≤ key) ∧ Below W.heap.size W w') := Lib.hid fun W hW => Calls.mono (rmay6_any nm A n c key U m cu R p cr op k i vs s B q d cols us rs l P N W (ht.below hW) hk) fun e w' ⟨⟨z, h1, h2⟩, h3⟩ => ⟨⟨z, h1, fun h => (h2 h).1⟩, h3⟩
  have HV := Lib.hid hv
  have HVL := Lib.hid hv.1
  have HOK := Lib.hid hok
  clear ht hk hv hok
  go_enter Tryz.func30, Tryz.ntmps30
  go_upto_region 1 with (fail)
  refine wp_gen (fun W => Below w.heap.size w W ∧ W.heap[w.heap.size]? = some (.cells #[.string nm, .slice A n c, .int .i64 key, .slice U m cu, .slice R p cr, .string op, .int .i64 k, .int .i64 i, .string vs, .string s, .slice B q d] 31 (0, 0)) ∧ W.heap[w.heap.size + 1]? = some (.cells #[.int .i64 0, .int .i64 0, .string ⟨#[]⟩] 26 (0, 0))) ⟨((Below.refl _ _).alloc (Nat.le_refl _) _).alloc (by simp) _, (Below.heap_alloc _ _ _ (by simp)).trans (alloc_at rfl _), alloc_at (by simp) _⟩ fun w0 hw0 => ?_
  have H0 := Lib.hid hw0
  have g0 := Lib.cell_of_heap hw0.2.1 0
  have g1 := Lib.cell_of_heap hw0.2.1 1
  have g2 := Lib.cell_of_heap hw0.2.1 2
  have g3 := Lib.cell_of_heap hw0.2.1 3
  have g4 := Lib.cell_of_heap hw0.2.1 4
  have g5 := Lib.cell_of_heap hw0.2.1 5
  have g6 := Lib.cell_of_heap hw0.2.1 6
  have g7 := Lib.cell_of_heap hw0.2.1 7
  have g8 := Lib.cell_of_heap hw0.2.1 8
  have g9 := Lib.cell_of_heap hw0.2.1 9
  have g10 := Lib.cell_of_heap hw0.2.1 10
  simp only [List.getElem?_toArray, List.getElem?_cons_zero, List.getElem?_cons_succ] at g0 g1 g2 g3 g4 g5 g6 g7 g8 g9 g10
  have hz0 := lt_of_block hw0.2.1
  have hz0' := lt_of_block hw0.2.2
  clear hw0
  by_cases hkl : (m2 : Int) ≤ key
  · have dk : decide (key < (m2 : Int)) = false := decide_eq_false (by omega)
    go_wp2_with (first
      | (go_at_call 19; (with_reducible refine (HMY.out _ H0.out.1).mono ?_); rintro e w1 ⟨⟨z, rfl, hz⟩, hb1⟩; have HB1 := Lib.hid (And.intro (H0.out.1.trans (hb1.mono H0.out.1.size)) hz); have hres1 := (hb1.block _ hz0').trans H0.out.2.2; have hc1 := (bcell hb1).1; have hy1 := hb1.size; have hz1 : w.heap.size < w1.heap.size := (by omega); clear hb1 hz; cases z)
      | (refine wpList_store_row rfl 26 (.tmp 4) (.tmp 19) rfl (w.heap.size + 1) #[.int .i64 0, .int .i64 0, .string ⟨#[]⟩] rfl rfl 26 _ hres1 valSize rfl (val_one ⟨0, 0, ⟨#[]⟩⟩) ?_))
    all_goals
      refine bodyPost_ret (results_cell_row rfl _ _ (w.heap.size + 1) 26 #[.int .i64 0, .int .i64 0, .string ⟨#[]⟩] (0, 0) _ rfl (setRow_heap _ _ _ _ _ _ hres1) Tryz.underlying26 rfl valSize) rfl ⟨⟨nulV, ok_nul, rfl⟩, below_row HB1.out.1 _ (by omega)⟩
  by_cases hk0 : 0 ≤ key
  rotate_left
  · have dk : decide (key < (m2 : Int)) = true := decide_eq_true (by omega)
    go_wp2_with (first
      | (go_at_call 19; (with_reducible refine (HMY.out _ H0.out.1).mono ?_); rintro e w1 ⟨⟨z, rfl, hz⟩, hb1⟩; have HB1 := Lib.hid (And.intro (H0.out.1.trans (hb1.mono H0.out.1.size)) hz); have hres1 := (hb1.block _ hz0').trans H0.out.2.2; have hc1 := (bcell hb1).1; have hy1 := hb1.size; have hz1 : w.heap.size < w1.heap.size := (by omega); have HNG : Hid (¬ 0 ≤ key) := Lib.hid (by omega); clear hb1 hz; cases z; rotate_left; exact absurd (HB1.out.2 (by first | exact rfl | trivial)) HNG.out)
      | (refine wpList_store_row rfl 26 (.tmp 4) (.tmp 19) rfl (w.heap.size + 1) #[.int .i64 0, .int .i64 0, .string ⟨#[]⟩] rfl rfl 26 _ hres1 valSize rfl (val_one ⟨0, 0, ⟨#[]⟩⟩) ?_))
    skip
    refine bodyPost_ret (results_cell_row rfl _ _ (w.heap.size + 1) 26 #[.int .i64 0, .int .i64 0, .string ⟨#[]⟩] (0, 0) _ rfl (setRow_heap _ _ _ _ _ _ hres1) Tryz.underlying26 rfl valSize) rfl ⟨⟨nulV, ok_nul, rfl⟩, below_row HB1.out.1 _ (by omega)⟩
  obtain ⟨k', rfl⟩ := Int.eq_ofNat_of_zero_le hk0
  have dk : decide ((k' : Int) < (m2 : Int)) = true := decide_eq_true (by omega)
  have dk2 : decide (k' < m2) = true := decide_eq_true (by omega)
  have hkr : k' < row.length := by have := HVL.out; omega
  have hkm : k' < m2 := by omega
  obtain ⟨a2, rfl, hx, hb2⟩ := HV.out.2 k' hkr
  have HOKJ := Lib.hid (HOK.out row[k'] (List.getElem_mem hkr))
  have HXV := Lib.hid (And.intro hx hb2)
  generalize row[k'] = r at HXV HOKJ
  clear hx hb2 hkl
  go_wp2_with (first
    | (go_at_call 19; (with_reducible refine (HMY.out _ H0.out.1).mono ?_); rintro e w1 ⟨⟨z, rfl, hz⟩, hb1⟩; have HB1 := Lib.hid (And.intro (H0.out.1.trans (hb1.mono H0.out.1.size)) hz); have hres1 := (hb1.block _ hz0').trans H0.out.2.2; have hc1 := (bcell hb1).1; have hy1 := hb1.size; have hz1 : w.heap.size < w1.heap.size := (by omega); have hx6 := HXV.out.1.keep (W' := w1) (H0.out.1.trans (hb1.mono H0.out.1.size)) (by rw [add_block]; exact HXV.out.2); have r0 := hx6.k; have r1 := hx6.i; have r2 := hx6.s; have hrl : (a2.add (k' * 3)).block < w1.heap.size := (by rw [add_block]; have := HXV.out.2; have := H0.out.1.size; omega); clear hx6; clear hb1 hz; cases z)
    | (refine wpList_store_row rfl 26 (.tmp 4) (.tmp 19) rfl (w.heap.size + 1) #[.int .i64 0, .int .i64 0, .string ⟨#[]⟩] rfl rfl 26 _ hres1 valSize rfl (val_one ⟨0, 0, ⟨#[]⟩⟩) ?_)
    | (refine wpList_store_row rfl 26 (.tmp 4) (.tmp 18) rfl (w.heap.size + 1) #[.int .i64 r.k, .int .i64 r.i, .string r.s] rfl rfl 26 _ hres1 valSize rfl (val_one r) ?_))
  · skip
    refine bodyPost_ret (results_cell_row rfl _ _ (w.heap.size + 1) 26 #[.int .i64 0, .int .i64 0, .string ⟨#[]⟩] (0, 0) _ rfl (setRow_heap _ _ _ _ _ _ hres1) Tryz.underlying26 rfl valSize) rfl ⟨⟨nulV, ok_nul, rfl⟩, below_row HB1.out.1 _ (by omega)⟩
  · skip
    refine bodyPost_ret (results_cell_row rfl _ _ (w.heap.size + 1) 26 #[.int .i64 r.k, .int .i64 r.i, .string r.s] (0, 0) _ rfl (setRow_heap _ _ _ _ _ _ hres1) Tryz.underlying26 rfl valSize) rfl ⟨⟨r, HOKJ.out, rfl⟩, below_row HB1.out.1 _ (by omega)⟩

theorem eq_two7 (x y : Vl) : ∃ z, ∀ w, Sem.run Tryz.prog (binOp .eql 26 (.agg #[.int .i64 x.k, .int .i64 x.i, .string x.s]) (.agg #[.int .i64 y.k, .int .i64 y.i, .string y.s])) w = .ok (.bool z) w := ⟨sameV x y, fun w => by
  have h := run_equal_vl x y w
  unfold vlV at h
  show (binOp .eql 26 (.agg #[.int .i64 x.k, .int .i64 x.i, .string x.s]) (.agg #[.int .i64 y.k, .int .i64 y.i, .string y.s])).run Tryz.prog w = _
  simp only [binOp, Sem.run_bind, h, Result.andThen_ok, Sem.run_pure]⟩
set_option maxRecDepth 100000 in
set_option maxHeartbeats 4000000 in
theorem rtwice_any (k : Nat) (X : Nat → Prop) (A : Option Addr) (n c : Nat) (rows : List (List Vl)) (w : World) (hr : RowsAt w X A n rows) (hl : ∀ r ∈ rows, k < r.length) :
    Calls Tryz.prog 42 #[.slice A n c, .int .i64 k] w fun e w' => RetB e ∧ Below w.heap.size w w' := by
  have HR := Lib.hid hr
  have HL := Lib.hid hr.1
  have HLL := Lib.hid hl
  have hn1 := hr.2.1
  clear hr hl
  go_enter Tryz.func42, Tryz.ntmps42
  go_wp2_with (fail)
  go_loopw [5] (fun iv wr => ∃ j : Nat, iv = .int .i64 j ∧ j ≤ n ∧ Hid (Below w.heap.size w wr)) (fun iv _ => n - (intOf iv).toNat)
  case atStart => exact ⟨0, rfl, by omega, Lib.hid (Below.refl _ _)⟩
  case round =>
    obtain ⟨x, rfl, hx, HS⟩ := hrel
    by_cases hlt : x < n
    · have hxl : x < rows.length := by have := HL.out; omega
      go_wp2_with (fail)
      go_loopw [6] (fun iv wz => ∃ j : Nat, iv = .int .i64 j ∧ j ≤ x ∧ Hid (Below w.heap.size w wz)) (fun iv _ => x - (intOf iv).toNat)
      case atStart => exact ⟨0, rfl, by omega, HS⟩
      case round =>
        rename World => wz
        obtain ⟨y, rfl, hy, HZ⟩ := hrel
        by_cases hlt2 : y < x
        · have hyn : y < n := by omega
          have hyl : y < rows.length := by omega
          obtain ⟨a, D, mx, cx, e, hcx, _, g2, g3, _⟩ := (HR.out.below HZ.out).2.2 x hxl
          subst e
          obtain ⟨a', D', my, cy, e, hcy, _, q2, q3, _⟩ := (HR.out.below HZ.out).2.2 y hyl
          injection e with e
          subst e
          have hkx : k < rows[x].length := HLL.out _ (List.getElem_mem hxl)
          have hky : k < rows[y].length := HLL.out _ (List.getElem_mem hyl)
          obtain ⟨ax, rfl, hvx', hbx⟩ := g3.2 k hkx
          obtain ⟨ay, rfl, hvy', hby⟩ := q3.2 k hky
          have hmx : k < mx := by have := g3.1; omega
          have hmy : k < my := by have := q3.1; omega
          clear g3 q3
          generalize rows[x][k] = vx at hvx'
          generalize rows[y][k] = vy at hvy'
          have r0 := hvx'.k
          have r1 := hvx'.i
          have r2 := hvx'.s
          have t0 := hvy'.k
          have t1 := hvy'.i
          have t2 := hvy'.s
          have hvx : (ax.add (k * 3)).block < wz.heap.size := by rw [add_block]; exact hbx
          have hvy : (ay.add (k * 3)).block < wz.heap.size := by rw [add_block]; exact hby
          have hlx := World.block_lt_of_cell? _ _ hcx
          have hly := World.block_lt_of_cell? _ _ hcy
          obtain ⟨z, hzq⟩ := eq_two7 vx vy
          clear hvx' hvy' hkx hky
          by_cases hk0 : vx.k = 0
          · have dk2 : (vx.k != 0) = false := by simp [hk0]
            clear hk0
            go_upto_region 7 with (fail)
            refine detL_begin [.val (.slice (some a) n c), .val (.int .i64 x), .val (.pointer (some (a.add x))), .val (.slice (some ax) mx cx), .val (.int .i64 k), .val (.pointer (some (ax.add (k * 3)))), .val (.pointer (some (ax.add (k * 3)))), .val (.int .i64 vx.k), .val (.bool false), .val (.bool false), .val (undef), .val (undef), .val (undef), .val (undef), .val (undef), .val (undef), .val (undef), .val (undef), .val (undef), .val (undef), .val (undef), .val (undef), .val (undef), .val (undef), .val (undef), .val (.bool false)] 26 (by kernel_rfl) ?_
            refine detL_val (by kernel_rfl) (yields_of rfl fun w5 hb5 => ?_) ?_
            · have HBx := Lib.hid hb5
              clear hb5
              go_simp
              exact Det1_same
            simp only [Act.put, List.setIfInBounds_toArray, List.set_cons_zero, List.set_cons_succ]
            refine detL_val (by kernel_rfl) (yields_of rfl fun w5 hb5 => ?_) ?_
            · have HBx := Lib.hid hb5
              clear hb5
              go_simp
              exact Det1_same
            simp only [Act.put, List.setIfInBounds_toArray, List.set_cons_zero, List.set_cons_succ]
            refine detL_val (by kernel_rfl) (yields_of rfl fun w5 hb5 => ?_) ?_
            · have HBx := Lib.hid hb5
              clear hb5
              go_simp
              exact Det1_same
            simp only [Act.put, List.setIfInBounds_toArray, List.set_cons_zero, List.set_cons_succ]
            refine detL_val (by kernel_rfl) (yields_of rfl fun w5 hb5 => ?_) ?_
            · have HBx := Lib.hid hb5
              have m0 := (hb5.cell (p := a.add x) hlx).trans hcx
              clear hb5
              go_simp
              exact Det1_same
            simp only [Act.put, List.setIfInBounds_toArray, List.set_cons_zero, List.set_cons_succ]
            refine detL_val (by kernel_rfl) (yields_of rfl fun w5 hb5 => ?_) ?_
            · have HBx := Lib.hid hb5
              clear hb5
              go_simp
              exact Det1_same
            simp only [Act.put, List.setIfInBounds_toArray, List.set_cons_zero, List.set_cons_succ]
            refine detL_val (by kernel_rfl) (yields_of rfl fun w5 hb5 => ?_) ?_
            · have HBx := Lib.hid hb5
              clear hb5
              go_simp
              exact Det1_same
            simp only [Act.put, List.setIfInBounds_toArray, List.set_cons_zero, List.set_cons_succ]
            refine detL_val (by kernel_rfl) (yields_of rfl fun w5 hb5 => ?_) ?_
            · have HBx := Lib.hid hb5
              clear hb5
              go_simp
              exact Det1_same
            simp only [Act.put, List.setIfInBounds_toArray, List.set_cons_zero, List.set_cons_succ]
            refine detL_val (by kernel_rfl) (yields_of rfl fun w5 hb5 => ?_) ?_
            · have HBx := Lib.hid hb5
              have m0 := (hb5.cell (p := ax.add (k * 3)) hvx).trans r0
              clear hb5
              go_simp
              exact Det1_same
            simp only [Act.put, List.setIfInBounds_toArray, List.set_cons_zero, List.set_cons_succ]
            refine detL_val (by kernel_rfl) (yields_of rfl fun w5 hb5 => ?_) ?_
            · have HBx := Lib.hid hb5
              clear hb5
              go_simp
              exact Det1_same
            simp only [Act.put, List.setIfInBounds_toArray, List.set_cons_zero, List.set_cons_succ]
            refine detL_val (by kernel_rfl) (yields_of rfl fun w5 hb5 => ?_) ?_
            · have HBx := Lib.hid hb5
              clear hb5
              go_simp
              exact Det1_same
            simp only [Act.put, List.setIfInBounds_toArray, List.set_cons_zero, List.set_cons_succ]
            refine detL_val (by kernel_rfl) (yields_not rfl) ?_
            simp only [Act.put, List.setIfInBounds_toArray, List.set_cons_zero, List.set_cons_succ]
            refine detL_val (by kernel_rfl) (yields_not rfl) ?_
            simp only [Act.put, List.setIfInBounds_toArray, List.set_cons_zero, List.set_cons_succ]
            refine detL_val (by kernel_rfl) (yields_not rfl) ?_
            simp only [Act.put, List.setIfInBounds_toArray, List.set_cons_zero, List.set_cons_succ]
            refine detL_val (by kernel_rfl) (yields_not rfl) ?_
            simp only [Act.put, List.setIfInBounds_toArray, List.set_cons_zero, List.set_cons_succ]
            refine detL_val (by kernel_rfl) (yields_not rfl) ?_
            simp only [Act.put, List.setIfInBounds_toArray, List.set_cons_zero, List.set_cons_succ]
            refine detL_val (by kernel_rfl) (yields_not rfl) ?_
            simp only [Act.put, List.setIfInBounds_toArray, List.set_cons_zero, List.set_cons_succ]
            refine detL_val (by kernel_rfl) (yields_not rfl) ?_
            simp only [Act.put, List.setIfInBounds_toArray, List.set_cons_zero, List.set_cons_succ]
            refine detL_val (by kernel_rfl) (yields_not rfl) ?_
            simp only [Act.put, List.setIfInBounds_toArray, List.set_cons_zero, List.set_cons_succ]
            refine detL_val (by kernel_rfl) (yields_not rfl) ?_
            simp only [Act.put, List.setIfInBounds_toArray, List.set_cons_zero, List.set_cons_succ]
            refine detL_val (by kernel_rfl) (yields_not rfl) ?_
            simp only [Act.put, List.setIfInBounds_toArray, List.set_cons_zero, List.set_cons_succ]
            refine detL_val (by kernel_rfl) (yields_not rfl) ?_
            simp only [Act.put, List.setIfInBounds_toArray, List.set_cons_zero, List.set_cons_succ]
            refine detL_val (by kernel_rfl) (yields_not rfl) ?_
            simp only [Act.put, List.setIfInBounds_toArray, List.set_cons_zero, List.set_cons_succ]
            refine detL_val (by kernel_rfl) (yields_not rfl) ?_
            simp only [Act.put, List.setIfInBounds_toArray, List.set_cons_zero, List.set_cons_succ]
            refine detL_val (by kernel_rfl) (yields_not rfl) ?_
            simp only [Act.put, List.setIfInBounds_toArray, List.set_cons_zero, List.set_cons_succ]
            refine detL_val (by kernel_rfl) (yields_not rfl) ?_
            simp only [Act.put, List.setIfInBounds_toArray, List.set_cons_zero, List.set_cons_succ]
            refine detL_val (by kernel_rfl) (yields_of rfl fun w5 hb5 => ?_) ?_
            · have HBx := Lib.hid hb5
              clear hb5
              go_simp
              exact Det1_same
            simp only [Act.put, List.setIfInBounds_toArray, List.set_cons_zero, List.set_cons_succ]
            refine detL_done (by kernel_rfl) fun w6 hw6 => ?_
            have H6 : Hid (Below w.heap.size w w6) := HZ.out.trans (((Below.refl _ _).drew.trans hw6.below).mono HZ.out.size)
            clear hw6
            go_wp2_with (fail)
            go_roundw
            case rel => exact ⟨y + 1, by go_num, by omega, H6⟩
            case measure => simp [intOf]; omega
          · have dk2 : (vx.k != 0) = true := by simp [hk0]
            clear hk0
            go_upto_region 7 with (fail)
            refine detL_begin [.val (.slice (some a) n c), .val (.int .i64 x), .val (.pointer (some (a.add x))), .val (.slice (some ax) mx cx), .val (.int .i64 k), .val (.pointer (some (ax.add (k * 3)))), .val (.pointer (some (ax.add (k * 3)))), .val (.int .i64 vx.k), .val (.bool true), .val (.bool true), .val (.slice (some a) n c), .val (.int .i64 x), .val (.pointer (some (a.add x))), .val (.slice (some ax) mx cx), .val (.int .i64 k), .val (.pointer (some (ax.add (k * 3)))), .val (.agg #[.int .i64 vx.k, .int .i64 vx.i, .string vx.s]), .val (.slice (some a) n c), .val (.int .i64 y), .val (.pointer (some (a.add y))), .val (.slice (some ay) my cy), .val (.int .i64 k), .val (.pointer (some (ay.add (k * 3)))), .val (.agg #[.int .i64 vy.k, .int .i64 vy.i, .string vy.s]), .val (.bool z), .val (.bool z)] 26 (by kernel_rfl) ?_
            refine detL_val (by kernel_rfl) (yields_of rfl fun w5 hb5 => ?_) ?_
            · have HBx := Lib.hid hb5
              clear hb5
              go_simp
              exact Det1_same
            simp only [Act.put, List.setIfInBounds_toArray, List.set_cons_zero, List.set_cons_succ]
            refine detL_val (by kernel_rfl) (yields_of rfl fun w5 hb5 => ?_) ?_
            · have HBx := Lib.hid hb5
              clear hb5
              go_simp
              exact Det1_same
            simp only [Act.put, List.setIfInBounds_toArray, List.set_cons_zero, List.set_cons_succ]
            refine detL_val (by kernel_rfl) (yields_of rfl fun w5 hb5 => ?_) ?_
            · have HBx := Lib.hid hb5
              clear hb5
              go_simp
              exact Det1_same
            simp only [Act.put, List.setIfInBounds_toArray, List.set_cons_zero, List.set_cons_succ]
            refine detL_val (by kernel_rfl) (yields_of rfl fun w5 hb5 => ?_) ?_
            · have HBx := Lib.hid hb5
              have m0 := (hb5.cell (p := a.add x) hlx).trans hcx
              clear hb5
              go_simp
              exact Det1_same
            simp only [Act.put, List.setIfInBounds_toArray, List.set_cons_zero, List.set_cons_succ]
            refine detL_val (by kernel_rfl) (yields_of rfl fun w5 hb5 => ?_) ?_
            · have HBx := Lib.hid hb5
              clear hb5
              go_simp
              exact Det1_same
            simp only [Act.put, List.setIfInBounds_toArray, List.set_cons_zero, List.set_cons_succ]
            refine detL_val (by kernel_rfl) (yields_of rfl fun w5 hb5 => ?_) ?_
            · have HBx := Lib.hid hb5
              clear hb5
              go_simp
              exact Det1_same
            simp only [Act.put, List.setIfInBounds_toArray, List.set_cons_zero, List.set_cons_succ]
            refine detL_val (by kernel_rfl) (yields_of rfl fun w5 hb5 => ?_) ?_
            · have HBx := Lib.hid hb5
              clear hb5
              go_simp
              exact Det1_same
            simp only [Act.put, List.setIfInBounds_toArray, List.set_cons_zero, List.set_cons_succ]
            refine detL_val (by kernel_rfl) (yields_of rfl fun w5 hb5 => ?_) ?_
            · have HBx := Lib.hid hb5
              have m0 := (hb5.cell (p := ax.add (k * 3)) hvx).trans r0
              clear hb5
              go_simp
              exact Det1_same
            simp only [Act.put, List.setIfInBounds_toArray, List.set_cons_zero, List.set_cons_succ]
            refine detL_val (by kernel_rfl) (yields_of rfl fun w5 hb5 => ?_) ?_
            · have HBx := Lib.hid hb5
              clear hb5
              go_simp
              exact Det1_same
            simp only [Act.put, List.setIfInBounds_toArray, List.set_cons_zero, List.set_cons_succ]
            refine detL_val (by kernel_rfl) (yields_of rfl fun w5 hb5 => ?_) ?_
            · have HBx := Lib.hid hb5
              clear hb5
              go_simp
              exact Det1_same
            simp only [Act.put, List.setIfInBounds_toArray, List.set_cons_zero, List.set_cons_succ]
            refine detL_val (by kernel_rfl) (yields_of rfl fun w5 hb5 => ?_) ?_
            · have HBx := Lib.hid hb5
              clear hb5
              go_simp
              exact Det1_same
            simp only [Act.put, List.setIfInBounds_toArray, List.set_cons_zero, List.set_cons_succ]
            refine detL_val (by kernel_rfl) (yields_of rfl fun w5 hb5 => ?_) ?_
            · have HBx := Lib.hid hb5
              clear hb5
              go_simp
              exact Det1_same
            simp only [Act.put, List.setIfInBounds_toArray, List.set_cons_zero, List.set_cons_succ]
            refine detL_val (by kernel_rfl) (yields_of rfl fun w5 hb5 => ?_) ?_
            · have HBx := Lib.hid hb5
              clear hb5
              go_simp
              exact Det1_same
            simp only [Act.put, List.setIfInBounds_toArray, List.set_cons_zero, List.set_cons_succ]
            refine detL_val (by kernel_rfl) (yields_of rfl fun w5 hb5 => ?_) ?_
            · have HBx := Lib.hid hb5
              have m0 := (hb5.cell (p := a.add x) hlx).trans hcx
              clear hb5
              go_simp
              exact Det1_same
            simp only [Act.put, List.setIfInBounds_toArray, List.set_cons_zero, List.set_cons_succ]
            refine detL_val (by kernel_rfl) (yields_of rfl fun w5 hb5 => ?_) ?_
            · have HBx := Lib.hid hb5
              clear hb5
              go_simp
              exact Det1_same
            simp only [Act.put, List.setIfInBounds_toArray, List.set_cons_zero, List.set_cons_succ]
            refine detL_val (by kernel_rfl) (yields_of rfl fun w5 hb5 => ?_) ?_
            · have HBx := Lib.hid hb5
              clear hb5
              go_simp
              exact Det1_same
            simp only [Act.put, List.setIfInBounds_toArray, List.set_cons_zero, List.set_cons_succ]
            refine detL_val (by kernel_rfl) (yields_of rfl fun w5 hb5 => ?_) ?_
            · have HBx := Lib.hid hb5
              have m0 := (hb5.cell (p := ax.add (k * 3)) hvx).trans r0; have m1 := (hb5.cell (p := ⟨(ax.add (k * 3)).block, (ax.add (k * 3)).off + 1, none⟩) hvx).trans r1; have m2 := (hb5.cell (p := ⟨(ax.add (k * 3)).block, (ax.add (k * 3)).off + 2, none⟩) hvx).trans r2
              clear hb5
              go_simp
              exact Det1_same
            simp only [Act.put, List.setIfInBounds_toArray, List.set_cons_zero, List.set_cons_succ]
            refine detL_val (by kernel_rfl) (yields_of rfl fun w5 hb5 => ?_) ?_
            · have HBx := Lib.hid hb5
              clear hb5
              go_simp
              exact Det1_same
            simp only [Act.put, List.setIfInBounds_toArray, List.set_cons_zero, List.set_cons_succ]
            refine detL_val (by kernel_rfl) (yields_of rfl fun w5 hb5 => ?_) ?_
            · have HBx := Lib.hid hb5
              clear hb5
              go_simp
              exact Det1_same
            simp only [Act.put, List.setIfInBounds_toArray, List.set_cons_zero, List.set_cons_succ]
            refine detL_val (by kernel_rfl) (yields_of rfl fun w5 hb5 => ?_) ?_
            · have HBx := Lib.hid hb5
              clear hb5
              go_simp
              exact Det1_same
            simp only [Act.put, List.setIfInBounds_toArray, List.set_cons_zero, List.set_cons_succ]
            refine detL_val (by kernel_rfl) (yields_of rfl fun w5 hb5 => ?_) ?_
            · have HBx := Lib.hid hb5
              have m0 := (hb5.cell (p := a.add y) hly).trans hcy
              clear hb5
              go_simp
              exact Det1_same
            simp only [Act.put, List.setIfInBounds_toArray, List.set_cons_zero, List.set_cons_succ]
            refine detL_val (by kernel_rfl) (yields_of rfl fun w5 hb5 => ?_) ?_
            · have HBx := Lib.hid hb5
              clear hb5
              go_simp
              exact Det1_same
            simp only [Act.put, List.setIfInBounds_toArray, List.set_cons_zero, List.set_cons_succ]
            refine detL_val (by kernel_rfl) (yields_of rfl fun w5 hb5 => ?_) ?_
            · have HBx := Lib.hid hb5
              clear hb5
              go_simp
              exact Det1_same
            simp only [Act.put, List.setIfInBounds_toArray, List.set_cons_zero, List.set_cons_succ]
            refine detL_val (by kernel_rfl) (yields_of rfl fun w5 hb5 => ?_) ?_
            · have HBx := Lib.hid hb5
              have m0 := (hb5.cell (p := ay.add (k * 3)) hvy).trans t0; have m1 := (hb5.cell (p := ⟨(ay.add (k * 3)).block, (ay.add (k * 3)).off + 1, none⟩) hvy).trans t1; have m2 := (hb5.cell (p := ⟨(ay.add (k * 3)).block, (ay.add (k * 3)).off + 2, none⟩) hvy).trans t2
              clear hb5
              go_simp
              exact Det1_same
            simp only [Act.put, List.setIfInBounds_toArray, List.set_cons_zero, List.set_cons_succ]
            refine detL_val (by kernel_rfl) (yields_of rfl fun w5 hb5 => ?_) ?_
            · have HBx := Lib.hid hb5
              clear hb5
              go_simp
              exact Det1_same
            simp only [Act.put, List.setIfInBounds_toArray, List.set_cons_zero, List.set_cons_succ]
            refine detL_val (by kernel_rfl) (yields_of rfl fun w5 hb5 => ?_) ?_
            · have HBx := Lib.hid hb5
              clear hb5
              go_simp
              exact Det1_same
            simp only [Act.put, List.setIfInBounds_toArray, List.set_cons_zero, List.set_cons_succ]
            refine detL_done (by kernel_rfl) fun w6 hw6 => ?_
            have H6 : Hid (Below w.heap.size w w6) := HZ.out.trans (((Below.refl _ _).drew.trans hw6.below).mono HZ.out.size)
            clear hw6
            cases z
            · go_wp2_with (fail)
              go_roundw
              case rel => exact ⟨y + 1, by go_num, by omega, H6⟩
              case measure => simp [intOf]; omega
            · go_wp2_with (fail)
              go_ret
              exact ⟨⟨_, rfl⟩, H6.out⟩
        go_wp2_with (fail)
        go_roundw
        case rel => exact ⟨x + 1, by go_num, by omega, HZ⟩
        case measure => simp [intOf]; omega
    go_wp2_with (fail)
    go_ret
    exact ⟨⟨_, rfl⟩, HS.out⟩
end Go.Proofs.YtmhkmliebhbkdaaGreat

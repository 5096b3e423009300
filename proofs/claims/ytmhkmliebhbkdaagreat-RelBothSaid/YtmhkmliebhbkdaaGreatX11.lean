import Derived.Test.YtmhkmliebhbkdaaGreatX10

/- Tables: the first column, place, reference, value of which something is so. -/
namespace Go.Proofs.YtmhkmliebhbkdaaGreat
open Go.RowKit Go.Lib

/-- A table lies in the box b. -/
structure TbAt (W : World) (b : Nat) (nm : ByteArray) (A : Option Addr) (n c : Nat) (key : Int) (U : Option Addr) (m cu : Nat) (R : Option Addr) (p cr : Nat) (op : ByteArray) (k i : Int) (vs s : ByteArray) (B : Option Addr) (q d : Nat) : Prop where
  c0 : W.cell? ⟨b, 0, none⟩ = some (.string nm)
  c1 : W.cell? ⟨b, 1, none⟩ = some (.slice A n c)
  c2 : W.cell? ⟨b, 2, none⟩ = some (.int .i64 key)
  c3 : W.cell? ⟨b, 3, none⟩ = some (.slice U m cu)
  c4 : W.cell? ⟨b, 4, none⟩ = some (.slice R p cr)
  c5 : W.cell? ⟨b, 5, none⟩ = some (.string op)
  c6 : W.cell? ⟨b, 6, none⟩ = some (.int .i64 k)
  c7 : W.cell? ⟨b, 7, none⟩ = some (.int .i64 i)
  c8 : W.cell? ⟨b, 8, none⟩ = some (.string vs)
  c9 : W.cell? ⟨b, 9, none⟩ = some (.string s)
  c10 : W.cell? ⟨b, 10, none⟩ = some (.slice B q d)
theorem TbAt.lt {W : World} {b : Nat} {nm : ByteArray} {A : Option Addr} {n c : Nat} {key : Int} {U : Option Addr} {m cu : Nat} {R : Option Addr} {p cr : Nat} {op : ByteArray} {k i : Int} {vs s : ByteArray} {B : Option Addr} {q d : Nat} (h : TbAt W b nm A n c key U m cu R p cr op k i vs s B q d) : b < W.heap.size := World.block_lt_of_cell? W _ h.c0
theorem TbAt.below {W W' : World} {b : Nat} {nm : ByteArray} {A : Option Addr} {n c : Nat} {key : Int} {U : Option Addr} {m cu : Nat} {R : Option Addr} {p cr : Nat} {op : ByteArray} {k i : Int} {vs s : ByteArray} {B : Option Addr} {q d : Nat} (h : TbAt W b nm A n c key U m cu R p cr op k i vs s B q d) (hb : Below W.heap.size W W') : TbAt W' b nm A n c key U m cu R p cr op k i vs s B q d :=
  ⟨(hb.cell (p := ⟨b, 0, none⟩) h.lt).trans h.c0, (hb.cell (p := ⟨b, 1, none⟩) h.lt).trans h.c1, (hb.cell (p := ⟨b, 2, none⟩) h.lt).trans h.c2, (hb.cell (p := ⟨b, 3, none⟩) h.lt).trans h.c3, (hb.cell (p := ⟨b, 4, none⟩) h.lt).trans h.c4, (hb.cell (p := ⟨b, 5, none⟩) h.lt).trans h.c5, (hb.cell (p := ⟨b, 6, none⟩) h.lt).trans h.c6, (hb.cell (p := ⟨b, 7, none⟩) h.lt).trans h.c7, (hb.cell (p := ⟨b, 8, none⟩) h.lt).trans h.c8, (hb.cell (p := ⟨b, 9, none⟩) h.lt).trans h.c9, (hb.cell (p := ⟨b, 10, none⟩) h.lt).trans h.c10⟩

set_option maxRecDepth 100000 in
set_option maxHeartbeats 4000000 in
theorem pointed1_any (nm : ByteArray) (A : Option Addr) (n c : Nat) (key : Int) (U : Option Addr) (m cu : Nat) (R : Option Addr) (p cr : Nat) (op : ByteArray) (k i : Int) (vs s : ByteArray) (B : Option Addr) (q d : Nat) (x : Int) (b : Nat) (w : World) (hb : TbAt w b nm A n c key U m cu R p cr op k i vs s B q d) : Calls Tryz.prog 92 #[.int .i64 x, .pointer (some ⟨b, 0, none⟩)] w fun e w' => e = .returned (.bool (!(decide (0 ≤ x) && decide (x < n)))) ∧ Below w.heap.size w w' := by
  have hbl := hb.lt
  have c0 := hb.c0; have c1 := hb.c1; have c2 := hb.c2; have c3 := hb.c3; have c4 := hb.c4; have c5 := hb.c5; have c6 := hb.c6; have c7 := hb.c7; have c8 := hb.c8; have c9 := hb.c9; have c10 := hb.c10
  have HH := Lib.hid (fun W => has_any nm A n c key U m cu R p cr op k i vs s B q d x W)
  clear hb
  generalize (decide (0 ≤ x) && decide (x < n)) = z at HH ⊢
  go_enter Tryz.func92, Tryz.ntmps92
  go_wp2_with (go_at_call 90; refine (HH.out _).mono ?_; rintro e w1 ⟨rfl, hb1⟩)
  go_ret
  exact ⟨rfl, hb1⟩

/-- Does a reference say what there may not be? -/
def badRf (n : Nat) (y : Rf) : Bool := !(decide (0 ≤ y.c) && decide (y.c < n)) || !colB y.t
set_option maxRecDepth 100000 in
set_option maxHeartbeats 4000000 in
theorem pointed2_any (nm : ByteArray) (A : Option Addr) (n c : Nat) (key : Int) (U : Option Addr) (m cu : Nat) (R : Option Addr) (p cr : Nat) (op : ByteArray) (k i : Int) (vs s : ByteArray) (B : Option Addr) (q d : Nat) (y : Rf) (hs : y.t.size ≤ 100000) (b : Nat) (w : World) (hb : TbAt w b nm A n c key U m cu R p cr op k i vs s B q d) : Calls Tryz.prog 94 #[(.agg #[.int .i64 y.c, .string y.t]), .pointer (some ⟨b, 0, none⟩)] w fun e w' => e = .returned (.bool (badRf n y)) ∧ Below w.heap.size w w' := by
  obtain ⟨x, t⟩ := y
  have hbl := hb.lt
  have c0 := hb.c0; have c1 := hb.c1; have c2 := hb.c2; have c3 := hb.c3; have c4 := hb.c4; have c5 := hb.c5; have c6 := hb.c6; have c7 := hb.c7; have c8 := hb.c8; have c9 := hb.c9; have c10 := hb.c10
  have HH := Lib.hid (fun W => has_any nm A n c key U m cu R p cr op k i vs s B q d x W)
  have HN := Lib.hid (fun W => tnamed_any t hs W)
  unfold badRf
  dsimp only at HN ⊢
  clear hb hs
  generalize (decide (0 ≤ x) && decide (x < n)) = z at HH ⊢
  generalize colB t = z2 at HN ⊢
  cases z with
  | false =>
    rw [Bool.not_false, Bool.true_or]
    go_enter Tryz.func94, Tryz.ntmps94
    go_wp2_with (go_at_call 90; refine (HH.out _).mono ?_; rintro e w1 ⟨rfl, hb1⟩; have HB1 : Hid (Below w.heap.size w w1) := ((Below.refl _ _).alloc (Nat.le_refl _) _).trans (hb1.mono (by simp)); have hc1 := (bcell hb1).1; have hf1 := (bcell hb1).2; have hy1 := hb1.size; (try simp at hy1); have hz1_0 : w.heap.size < w1.heap.size := (by omega))
    go_ret
    exact ⟨rfl, HB1.out⟩
  | true =>
    rw [Bool.not_true, Bool.false_or]
    go_enter Tryz.func94, Tryz.ntmps94
    go_wp2_with (first | (go_at_call 90; refine (HH.out _).mono ?_; rintro e w1 ⟨rfl, hb1⟩; have HB1 : Hid (Below w.heap.size w w1) := ((Below.refl _ _).alloc (Nat.le_refl _) _).trans (hb1.mono (by simp)); have hc1 := (bcell hb1).1; have hf1 := (bcell hb1).2; have hy1 := hb1.size; (try simp at hy1); have hz1_0 : w.heap.size < w1.heap.size := (by omega)) | (go_at_call 55; refine (HN.out _).mono ?_; rintro e w2 ⟨rfl, hb2⟩; have HB2 : Hid (Below w.heap.size w w2) := HB1.out.trans (hb2.mono HB1.out.size); clear hb2))
    go_ret
    exact ⟨rfl, HB2.out⟩

set_option maxRecDepth 100000 in
set_option maxHeartbeats 4000000 in
theorem fits1_any (y : Vl) (w : World) : Calls Tryz.prog 123 #[.agg #[.int .i64 y.k, .int .i64 y.i, .string y.s]] w fun e w' => e = .returned (.bool (!mayB y.k y.i y.s)) ∧ Below w.heap.size w w' := by
  have HM := Lib.hid (fun W => may_any y.k y.i y.s W)
  generalize mayB y.k y.i y.s = z at HM ⊢
  go_enter Tryz.func123, Tryz.ntmps123
  go_wp2_with (go_at_call 124; refine (HM.out _).mono ?_; rintro e w1 ⟨rfl, hb1⟩; have HB1 : Hid (Below w.heap.size w w1) := ((Below.refl _ _).alloc (Nat.le_refl _) _).trans (hb1.mono (by simp)); clear hb1)
  go_ret
  exact ⟨rfl, HB1.out⟩

set_option maxRecDepth 100000 in
set_option maxHeartbeats 4000000 in
theorem index_unfit (A : Option Addr) (n cap : Nat) (l : List Cl) (f : Cl → Bool) (w : World) (hc : ColS w A n l) (hp : ∀ y ∈ l, ∀ W, Below w.heap.size w W → Calls Tryz.prog 88 #[(.agg #[.string y.n, .int .i64 y.t, .bool y.b])] W fun e w' => e = .returned (.bool (f y)) ∧ Below W.heap.size W w') :
    Calls Tryz.prog 130 #[.slice A n cap, .func (.func 88) #[] #[]] w fun e w' => e = .returned (.int .i64 (idxP f l 0)) ∧ Below w.heap.size w w' := by
  have HC := Lib.hid hc
  have HP := Lib.hid hp
  have HL := Lib.hid hc.1
  have hn : n ≤ maxLen := hc.2.1
  unfold maxLen at hn
  clear hc hp
  go_enter Tryz.func130, Tryz.ntmps130
  go_wp2_with (fail)
  go_loopw [8] (fun i wr => ∃ j : Nat, i = .int .i64 j ∧ j ≤ n ∧ Below w.heap.size w wr ∧ Hid (idxP f l 0 = idxP f (l.drop j) j)) (fun i _ => n - (intOf i).toNat)
  case atStart => exact ⟨0, rfl, by omega, Below.refl _ _, rfl⟩
  case round =>
    obtain ⟨j, rfl, hj, hbw, HI⟩ := hrel
    have hbs := hbw.size
    by_cases hlt : j < n
    · have hjl : j < l.length := by rw [HL.out]; exact hlt
      obtain ⟨a, rfl, hE⟩ := HC.out.2.2 j hjl
      have hE' := hE.keep (hbw.block _ hE.lt)
      have e0 := hE'.c0
      have e1 := hE'.c1
      have e2 := hE'.c2
      clear hE hE'
      have HD : Hid (l.drop j = l[j] :: l.drop (j + 1)) := List.drop_eq_getElem_cons hjl
      have HY := Lib.hid (HP.out l[j] (List.getElem_mem hjl))
      have HB := Lib.hid hbw
      clear hbw
      generalize l[j] = y at e0 e1 e2 HD HY
      have HI2 : Hid (idxP f l 0 = if f y = true then (j : Int) else idxP f (l.drop (j + 1)) ((j : Int) + 1)) := Lib.hid (by rw [HI.out, HD.out]; rfl)
      clear HI
      generalize f y = z at HY HI2
      cases z with
      | true =>
        go_wp2_with (go_at_call 88; refine (HY.out _ HB.out).mono ?_; rintro e w1 ⟨rfl, hb1⟩; have HB1 := Lib.hid ((HB.out).trans (hb1.mono hbs)); clear hb1)
        go_ret
        exact ⟨by rw [HI2.out]; simp, HB1.out⟩
      | false =>
        go_wp2_with (go_at_call 88; refine (HY.out _ HB.out).mono ?_; rintro e w1 ⟨rfl, hb1⟩; have HB1 := Lib.hid ((HB.out).trans (hb1.mono hbs)); clear hb1)
        go_roundw
        case rel => exact ⟨j + 1, by go_num, by omega, HB1.out, Lib.hid (by rw [HI2.out]; simp)⟩
        case measure => simp [intOf]; omega
    · have HB := Lib.hid hbw
      clear hbw
      go_wp2
      go_ret
      exact ⟨by rw [HI.out, List.drop_of_length_le (by have := HL.out; omega)]; rfl, HB.out⟩
set_option maxRecDepth 100000 in
set_option maxHeartbeats 4000000 in
theorem contains_unfit (A : Option Addr) (n cap : Nat) (l : List Cl) (f : Cl → Bool) (w : World) (hc : ColS w A n l) (hp : ∀ y ∈ l, ∀ W, Below w.heap.size w W → Calls Tryz.prog 88 #[(.agg #[.string y.n, .int .i64 y.t, .bool y.b])] W fun e w' => e = .returned (.bool (f y)) ∧ Below W.heap.size W w') :
    Calls Tryz.prog 87 #[.slice A n cap, .func (.func 88) #[] #[]] w fun e w' => e = .returned (.bool (l.any f)) ∧ Below w.heap.size w w' := by
  have H := Lib.hid (index_unfit A n cap l f w hc hp)
  have HE := Lib.hid (idxP_any f l 0 (by omega))
  clear hc hp
  generalize l.any f = z at HE ⊢
  generalize idxP f l 0 = y at H HE
  go_enter Tryz.func87, Tryz.ntmps87
  go_wp2_with (go_at_call 130; refine H.out.mono ?_; rintro e w1 ⟨rfl, hb1⟩)
  go_ret
  exact ⟨ret_bool HE.out, hb1⟩

set_option maxRecDepth 100000 in
set_option maxHeartbeats 4000000 in
theorem index_twice (A : Option Addr) (n cap : Nat) (l : List Cl) (f : Cl → Bool) (b : Nat) (w : World) (hc : ColS w A n l) (hp : ∀ y ∈ l, ∀ W, Below w.heap.size w W → Calls Tryz.prog 131 #[(.agg #[.string y.n, .int .i64 y.t, .bool y.b]), .pointer (some ⟨b, 0, none⟩)] W fun e w' => e = .returned (.bool (f y)) ∧ Below W.heap.size W w') :
    Calls Tryz.prog 130 #[.slice A n cap, .func (.func 131) #[] #[.pointer (some ⟨b, 0, none⟩)]] w fun e w' => e = .returned (.int .i64 (idxP f l 0)) ∧ Below w.heap.size w w' := by
  have HC := Lib.hid hc
  have HP := Lib.hid hp
  have HL := Lib.hid hc.1
  have hn : n ≤ maxLen := hc.2.1
  unfold maxLen at hn
  clear hc hp
  go_enter Tryz.func130, Tryz.ntmps130
  go_wp2_with (fail)
  go_loopw [8] (fun i wr => ∃ j : Nat, i = .int .i64 j ∧ j ≤ n ∧ Below w.heap.size w wr ∧ Hid (idxP f l 0 = idxP f (l.drop j) j)) (fun i _ => n - (intOf i).toNat)
  case atStart => exact ⟨0, rfl, by omega, Below.refl _ _, rfl⟩
  case round =>
    obtain ⟨j, rfl, hj, hbw, HI⟩ := hrel
    have hbs := hbw.size
    by_cases hlt : j < n
    · have hjl : j < l.length := by rw [HL.out]; exact hlt
      obtain ⟨a, rfl, hE⟩ := HC.out.2.2 j hjl
      have hE' := hE.keep (hbw.block _ hE.lt)
      have e0 := hE'.c0
      have e1 := hE'.c1
      have e2 := hE'.c2
      clear hE hE'
      have HD : Hid (l.drop j = l[j] :: l.drop (j + 1)) := List.drop_eq_getElem_cons hjl
      have HY := Lib.hid (HP.out l[j] (List.getElem_mem hjl))
      have HB := Lib.hid hbw
      clear hbw
      generalize l[j] = y at e0 e1 e2 HD HY
      have HI2 : Hid (idxP f l 0 = if f y = true then (j : Int) else idxP f (l.drop (j + 1)) ((j : Int) + 1)) := Lib.hid (by rw [HI.out, HD.out]; rfl)
      clear HI
      generalize f y = z at HY HI2
      cases z with
      | true =>
        go_wp2_with (go_at_call 131; refine (HY.out _ HB.out).mono ?_; rintro e w1 ⟨rfl, hb1⟩; have HB1 := Lib.hid ((HB.out).trans (hb1.mono hbs)); clear hb1)
        go_ret
        exact ⟨by rw [HI2.out]; simp, HB1.out⟩
      | false =>
        go_wp2_with (go_at_call 131; refine (HY.out _ HB.out).mono ?_; rintro e w1 ⟨rfl, hb1⟩; have HB1 := Lib.hid ((HB.out).trans (hb1.mono hbs)); clear hb1)
        go_roundw
        case rel => exact ⟨j + 1, by go_num, by omega, HB1.out, Lib.hid (by rw [HI2.out]; simp)⟩
        case measure => simp [intOf]; omega
    · have HB := Lib.hid hbw
      clear hbw
      go_wp2
      go_ret
      exact ⟨by rw [HI.out, List.drop_of_length_le (by have := HL.out; omega)]; rfl, HB.out⟩
set_option maxRecDepth 100000 in
set_option maxHeartbeats 4000000 in
theorem contains_twice (A : Option Addr) (n cap : Nat) (l : List Cl) (f : Cl → Bool) (b : Nat) (w : World) (hc : ColS w A n l) (hp : ∀ y ∈ l, ∀ W, Below w.heap.size w W → Calls Tryz.prog 131 #[(.agg #[.string y.n, .int .i64 y.t, .bool y.b]), .pointer (some ⟨b, 0, none⟩)] W fun e w' => e = .returned (.bool (f y)) ∧ Below W.heap.size W w') :
    Calls Tryz.prog 87 #[.slice A n cap, .func (.func 131) #[] #[.pointer (some ⟨b, 0, none⟩)]] w fun e w' => e = .returned (.bool (l.any f)) ∧ Below w.heap.size w w' := by
  have H := Lib.hid (index_twice A n cap l f b w hc hp)
  have HE := Lib.hid (idxP_any f l 0 (by omega))
  clear hc hp
  generalize l.any f = z at HE ⊢
  generalize idxP f l 0 = y at H HE
  go_enter Tryz.func87, Tryz.ntmps87
  go_wp2_with (go_at_call 130; refine H.out.mono ?_; rintro e w1 ⟨rfl, hb1⟩)
  go_ret
  exact ⟨ret_bool HE.out, hb1⟩

set_option maxRecDepth 100000 in
set_option maxHeartbeats 4000000 in
theorem index_places (A : Option Addr) (n cap : Nat) (l : List Int) (f : Int → Bool) (b : Nat) (w : World) (hc : IntS w A n l) (hp : ∀ y ∈ l, ∀ W, Below w.heap.size w W → Calls Tryz.prog 92 #[(.int .i64 y), .pointer (some ⟨b, 0, none⟩)] W fun e w' => e = .returned (.bool (f y)) ∧ Below W.heap.size W w') :
    Calls Tryz.prog 132 #[.slice A n cap, .func (.func 92) #[] #[.pointer (some ⟨b, 0, none⟩)]] w fun e w' => e = .returned (.int .i64 (idxP f l 0)) ∧ Below w.heap.size w w' := by
  have HC := Lib.hid hc
  have HP := Lib.hid hp
  have HL := Lib.hid hc.1
  have hn : n ≤ maxLen := hc.2.1
  unfold maxLen at hn
  clear hc hp
  go_enter Tryz.func132, Tryz.ntmps132
  go_wp2_with (fail)
  go_loopw [8] (fun i wr => ∃ j : Nat, i = .int .i64 j ∧ j ≤ n ∧ Below w.heap.size w wr ∧ Hid (idxP f l 0 = idxP f (l.drop j) j)) (fun i _ => n - (intOf i).toNat)
  case atStart => exact ⟨0, rfl, by omega, Below.refl _ _, rfl⟩
  case round =>
    obtain ⟨j, rfl, hj, hbw, HI⟩ := hrel
    have hbs := hbw.size
    by_cases hlt : j < n
    · have hjl : j < l.length := by rw [HL.out]; exact hlt
      obtain ⟨a, rfl, hE⟩ := HC.out.2.2 j hjl
      have e0 := (hbw.cell (World.block_lt_of_cell? w _ hE)).trans hE
      simp only [Nat.mul_one] at e0
      clear hE
      have HD : Hid (l.drop j = l[j] :: l.drop (j + 1)) := List.drop_eq_getElem_cons hjl
      have HY := Lib.hid (HP.out l[j] (List.getElem_mem hjl))
      have HB := Lib.hid hbw
      clear hbw
      generalize l[j] = y at e0 HD HY
      have HI2 : Hid (idxP f l 0 = if f y = true then (j : Int) else idxP f (l.drop (j + 1)) ((j : Int) + 1)) := Lib.hid (by rw [HI.out, HD.out]; rfl)
      clear HI
      generalize f y = z at HY HI2
      cases z with
      | true =>
        go_wp2_with (go_at_call 92; refine (HY.out _ HB.out).mono ?_; rintro e w1 ⟨rfl, hb1⟩; have HB1 := Lib.hid ((HB.out).trans (hb1.mono hbs)); clear hb1)
        go_ret
        exact ⟨by rw [HI2.out]; simp, HB1.out⟩
      | false =>
        go_wp2_with (go_at_call 92; refine (HY.out _ HB.out).mono ?_; rintro e w1 ⟨rfl, hb1⟩; have HB1 := Lib.hid ((HB.out).trans (hb1.mono hbs)); clear hb1)
        go_roundw
        case rel => exact ⟨j + 1, by go_num, by omega, HB1.out, Lib.hid (by rw [HI2.out]; simp)⟩
        case measure => simp [intOf]; omega
    · have HB := Lib.hid hbw
      clear hbw
      go_wp2
      go_ret
      exact ⟨by rw [HI.out, List.drop_of_length_le (by have := HL.out; omega)]; rfl, HB.out⟩
set_option maxRecDepth 100000 in
set_option maxHeartbeats 4000000 in
theorem contains_places (A : Option Addr) (n cap : Nat) (l : List Int) (f : Int → Bool) (b : Nat) (w : World) (hc : IntS w A n l) (hp : ∀ y ∈ l, ∀ W, Below w.heap.size w W → Calls Tryz.prog 92 #[(.int .i64 y), .pointer (some ⟨b, 0, none⟩)] W fun e w' => e = .returned (.bool (f y)) ∧ Below W.heap.size W w') :
    Calls Tryz.prog 91 #[.slice A n cap, .func (.func 92) #[] #[.pointer (some ⟨b, 0, none⟩)]] w fun e w' => e = .returned (.bool (l.any f)) ∧ Below w.heap.size w w' := by
  have H := Lib.hid (index_places A n cap l f b w hc hp)
  have HE := Lib.hid (idxP_any f l 0 (by omega))
  clear hc hp
  generalize l.any f = z at HE ⊢
  generalize idxP f l 0 = y at H HE
  go_enter Tryz.func91, Tryz.ntmps91
  go_wp2_with (go_at_call 132; refine H.out.mono ?_; rintro e w1 ⟨rfl, hb1⟩)
  go_ret
  exact ⟨ret_bool HE.out, hb1⟩

set_option maxRecDepth 100000 in
set_option maxHeartbeats 4000000 in
theorem index_refs (A : Option Addr) (n cap : Nat) (l : List Rf) (f : Rf → Bool) (b : Nat) (w : World) (hc : RfS w A n l) (hp : ∀ y ∈ l, ∀ W, Below w.heap.size w W → Calls Tryz.prog 94 #[(.agg #[.int .i64 y.c, .string y.t]), .pointer (some ⟨b, 0, none⟩)] W fun e w' => e = .returned (.bool (f y)) ∧ Below W.heap.size W w') :
    Calls Tryz.prog 133 #[.slice A n cap, .func (.func 94) #[] #[.pointer (some ⟨b, 0, none⟩)]] w fun e w' => e = .returned (.int .i64 (idxP f l 0)) ∧ Below w.heap.size w w' := by
  have HC := Lib.hid hc
  have HP := Lib.hid hp
  have HL := Lib.hid hc.1
  have hn : n ≤ maxLen := hc.2.1
  unfold maxLen at hn
  clear hc hp
  go_enter Tryz.func133, Tryz.ntmps133
  go_wp2_with (fail)
  go_loopw [8] (fun i wr => ∃ j : Nat, i = .int .i64 j ∧ j ≤ n ∧ Below w.heap.size w wr ∧ Hid (idxP f l 0 = idxP f (l.drop j) j)) (fun i _ => n - (intOf i).toNat)
  case atStart => exact ⟨0, rfl, by omega, Below.refl _ _, rfl⟩
  case round =>
    obtain ⟨j, rfl, hj, hbw, HI⟩ := hrel
    have hbs := hbw.size
    by_cases hlt : j < n
    · have hjl : j < l.length := by rw [HL.out]; exact hlt
      obtain ⟨a, rfl, hE⟩ := HC.out.2.2 j hjl
      have hE' := hE.keep (hbw.block _ hE.lt)
      have e0 := hE'.c0
      have e1 := hE'.c1
      clear hE hE'
      have HD : Hid (l.drop j = l[j] :: l.drop (j + 1)) := List.drop_eq_getElem_cons hjl
      have HY := Lib.hid (HP.out l[j] (List.getElem_mem hjl))
      have HB := Lib.hid hbw
      clear hbw
      generalize l[j] = y at e0 e1 HD HY
      have HI2 : Hid (idxP f l 0 = if f y = true then (j : Int) else idxP f (l.drop (j + 1)) ((j : Int) + 1)) := Lib.hid (by rw [HI.out, HD.out]; rfl)
      clear HI
      generalize f y = z at HY HI2
      cases z with
      | true =>
        go_wp2_with (go_at_call 94; refine (HY.out _ HB.out).mono ?_; rintro e w1 ⟨rfl, hb1⟩; have HB1 := Lib.hid ((HB.out).trans (hb1.mono hbs)); clear hb1)
        go_ret
        exact ⟨by rw [HI2.out]; simp, HB1.out⟩
      | false =>
        go_wp2_with (go_at_call 94; refine (HY.out _ HB.out).mono ?_; rintro e w1 ⟨rfl, hb1⟩; have HB1 := Lib.hid ((HB.out).trans (hb1.mono hbs)); clear hb1)
        go_roundw
        case rel => exact ⟨j + 1, by go_num, by omega, HB1.out, Lib.hid (by rw [HI2.out]; simp)⟩
        case measure => simp [intOf]; omega
    · have HB := Lib.hid hbw
      clear hbw
      go_wp2
      go_ret
      exact ⟨by rw [HI.out, List.drop_of_length_le (by have := HL.out; omega)]; rfl, HB.out⟩
set_option maxRecDepth 100000 in
set_option maxHeartbeats 4000000 in
theorem contains_refs (A : Option Addr) (n cap : Nat) (l : List Rf) (f : Rf → Bool) (b : Nat) (w : World) (hc : RfS w A n l) (hp : ∀ y ∈ l, ∀ W, Below w.heap.size w W → Calls Tryz.prog 94 #[(.agg #[.int .i64 y.c, .string y.t]), .pointer (some ⟨b, 0, none⟩)] W fun e w' => e = .returned (.bool (f y)) ∧ Below W.heap.size W w') :
    Calls Tryz.prog 93 #[.slice A n cap, .func (.func 94) #[] #[.pointer (some ⟨b, 0, none⟩)]] w fun e w' => e = .returned (.bool (l.any f)) ∧ Below w.heap.size w w' := by
  have H := Lib.hid (index_refs A n cap l f b w hc hp)
  have HE := Lib.hid (idxP_any f l 0 (by omega))
  clear hc hp
  generalize l.any f = z at HE ⊢
  generalize idxP f l 0 = y at H HE
  go_enter Tryz.func93, Tryz.ntmps93
  go_wp2_with (go_at_call 133; refine H.out.mono ?_; rintro e w1 ⟨rfl, hb1⟩)
  go_ret
  exact ⟨ret_bool HE.out, hb1⟩

set_option maxRecDepth 100000 in
set_option maxHeartbeats 4000000 in
theorem index_values (A : Option Addr) (n cap : Nat) (l : List Vl) (f : Vl → Bool) (w : World) (hc : Vals w w.heap.size A n l) (hm : n ≤ maxLen) (hp : ∀ y ∈ l, ∀ W, Below w.heap.size w W → Calls Tryz.prog 123 #[(.agg #[.int .i64 y.k, .int .i64 y.i, .string y.s])] W fun e w' => e = .returned (.bool (f y)) ∧ Below W.heap.size W w') :
    Calls Tryz.prog 151 #[.slice A n cap, .func (.func 123) #[] #[]] w fun e w' => e = .returned (.int .i64 (idxP f l 0)) ∧ Below w.heap.size w w' := by
  have HC := Lib.hid hc
  have HP := Lib.hid hp
  have HL := Lib.hid hc.1
  have hn : n ≤ maxLen := hm
  unfold maxLen at hn
  clear hc hp hm
  go_enter Tryz.func151, Tryz.ntmps151
  go_wp2_with (fail)
  go_loopw [8] (fun i wr => ∃ j : Nat, i = .int .i64 j ∧ j ≤ n ∧ Below w.heap.size w wr ∧ Hid (idxP f l 0 = idxP f (l.drop j) j)) (fun i _ => n - (intOf i).toNat)
  case atStart => exact ⟨0, rfl, by omega, Below.refl _ _, rfl⟩
  case round =>
    obtain ⟨j, rfl, hj, hbw, HI⟩ := hrel
    have hbs := hbw.size
    by_cases hlt : j < n
    · have hjl : j < l.length := by rw [HL.out]; exact hlt
      obtain ⟨a, rfl, hE, hEb⟩ := HC.out.2 j hjl
      have hE' := hE.keep hbw (by rw [add_block]; exact hEb)
      have e0 := hE'.k
      have e1 := hE'.i
      have e2 := hE'.s
      clear hE hE' hEb
      have HD : Hid (l.drop j = l[j] :: l.drop (j + 1)) := List.drop_eq_getElem_cons hjl
      have HY := Lib.hid (HP.out l[j] (List.getElem_mem hjl))
      have HB := Lib.hid hbw
      clear hbw
      generalize l[j] = y at e0 e1 e2 HD HY
      have HI2 : Hid (idxP f l 0 = if f y = true then (j : Int) else idxP f (l.drop (j + 1)) ((j : Int) + 1)) := Lib.hid (by rw [HI.out, HD.out]; rfl)
      clear HI
      generalize f y = z at HY HI2
      cases z with
      | true =>
        go_wp2_with (go_at_call 123; refine (HY.out _ HB.out).mono ?_; rintro e w1 ⟨rfl, hb1⟩; have HB1 := Lib.hid ((HB.out).trans (hb1.mono hbs)); clear hb1)
        go_ret
        exact ⟨by rw [HI2.out]; simp, HB1.out⟩
      | false =>
        go_wp2_with (go_at_call 123; refine (HY.out _ HB.out).mono ?_; rintro e w1 ⟨rfl, hb1⟩; have HB1 := Lib.hid ((HB.out).trans (hb1.mono hbs)); clear hb1)
        go_roundw
        case rel => exact ⟨j + 1, by go_num, by omega, HB1.out, Lib.hid (by rw [HI2.out]; simp)⟩
        case measure => simp [intOf]; omega
    · have HB := Lib.hid hbw
      clear hbw
      go_wp2
      go_ret
      exact ⟨by rw [HI.out, List.drop_of_length_le (by have := HL.out; omega)]; rfl, HB.out⟩
set_option maxRecDepth 100000 in
set_option maxHeartbeats 4000000 in
theorem contains_values (A : Option Addr) (n cap : Nat) (l : List Vl) (f : Vl → Bool) (w : World) (hc : Vals w w.heap.size A n l) (hm : n ≤ maxLen) (hp : ∀ y ∈ l, ∀ W, Below w.heap.size w W → Calls Tryz.prog 123 #[(.agg #[.int .i64 y.k, .int .i64 y.i, .string y.s])] W fun e w' => e = .returned (.bool (f y)) ∧ Below W.heap.size W w') :
    Calls Tryz.prog 122 #[.slice A n cap, .func (.func 123) #[] #[]] w fun e w' => e = .returned (.bool (l.any f)) ∧ Below w.heap.size w w' := by
  have H := Lib.hid (index_values A n cap l f w hc hm hp)
  have HE := Lib.hid (idxP_any f l 0 (by omega))
  clear hc hp hm
  generalize l.any f = z at HE ⊢
  generalize idxP f l 0 = y at H HE
  go_enter Tryz.func122, Tryz.ntmps122
  go_wp2_with (go_at_call 151; refine H.out.mono ?_; rintro e w1 ⟨rfl, hb1⟩)
  go_ret
  exact ⟨ret_bool HE.out, hb1⟩

end Go.Proofs.YtmhkmliebhbkdaaGreat

/- Tables: have two columns one name? -/
namespace Go.Proofs.YtmhkmliebhbkdaaGreat
open Go.RowKit Go.Lib

def twB (l : List Cl) : Nat → List Cl → Bool
  | _, [] => false
  | j, x :: r => (l.take j).any (fun y => y.n.toList == x.n.toList) || twB l (j + 1) r
/-- Have two columns one name? -/
def twiceB (l : List Cl) : Bool := twB l 0 l
theorem ColS.take {W : World} {A : Option Addr} {n : Nat} {l : List Cl} (h : ColS W A n l) {j : Nat} (hj : j ≤ n) : ColS W A j (l.take j) :=
  ⟨by rw [List.length_take, h.1]; omega, by have := h.2.1; omega, fun i hi => by
    have hil : i < l.length := by rw [List.length_take] at hi; omega
    rw [List.getElem_take]
    exact h.2.2 i hil⟩
set_option maxRecDepth 100000 in
set_option maxHeartbeats 4000000 in
theorem twice_any (A : Option Addr) (n c : Nat) (l : List Cl) (hcap : n ≤ c) (w : World) (hc : ColS w A n l) :
    Calls Tryz.prog 89 #[.slice A n c] w fun e w' => e = .returned (.bool (twiceB l)) ∧ Below w.heap.size w w' := by
  have HC := Lib.hid hc
  have HL := Lib.hid hc.1
  have hn := hc.2.1
  unfold maxLen at hn
  clear hc
  go_enter Tryz.func89, Tryz.ntmps89
  go_wp2_with (fail)
  go_loopw [7] (fun i wr => ∃ j : Nat, i = .int .i64 j ∧ j ≤ n ∧ Below w.heap.size w wr ∧ Hid (twiceB l = twB l j (l.drop j))) (fun i _ => n - (intOf i).toNat)
  case atStart => exact ⟨0, rfl, by omega, Below.refl _ _, rfl⟩
  case round =>
    obtain ⟨j, rfl, hj, hbw, HI⟩ := hrel
    have hbs := hbw.size
    by_cases hlt : j < n
    · have hjl : j < l.length := by rw [HL.out]; exact hlt
      obtain ⟨a, rfl, hE⟩ := HC.out.2.2 j hjl
      have hE' := hE.keep (hbw.block _ hE.lt)
      have e0 := hE'.c0
      have e1 := hE'.c1
      have e2 := hE'.c2
      clear hE hE'
      have HD : Hid (l.drop j = l[j] :: l.drop (j + 1)) := List.drop_eq_getElem_cons hjl
      have HB := Lib.hid hbw
      clear hbw
      generalize l[j] = x at e0 e1 e2 HD
      have HI2 : Hid (twiceB l = ((l.take j).any (fun y => y.n.toList == x.n.toList) || twB l (j + 1) (l.drop (j + 1)))) := Lib.hid (by rw [HI.out, HD.out]; rfl)
      clear HI
      have HT := Lib.hid (fun (W : World) (hW : Below w.heap.size w W) => HC.out.below hW)
      have HA : Hid (Below w.heap.size w (wr.alloc (.cells #[.string x.n, .int .i64 x.t, .bool x.b] 77))) := HB.out.alloc hbs _
      have HX : Hid (ClAt (wr.alloc (.cells #[.string x.n, .int .i64 x.t, .bool x.b] 77)) ⟨wr.heap.size, 0, none⟩ x) := ⟨by simp [go_sem], by simp [go_sem], by simp [go_sem]⟩
      have HXB : Hid (∀ W, Below (wr.alloc (.cells #[.string x.n, .int .i64 x.t, .bool x.b] 77)).heap.size (wr.alloc (.cells #[.string x.n, .int .i64 x.t, .bool x.b] 77)) W → ClAt W ⟨wr.heap.size, 0, none⟩ x) := fun W hW => HX.out.keep (hW.block _ (by simp))
      have HK := Lib.hid (contains_twice (some a) j c (l.take j) (fun y => y.n.toList == x.n.toList) wr.heap.size (wr.alloc (.cells #[.string x.n, .int .i64 x.t, .bool x.b] 77)) ((HC.out.below HA.out).take (by omega)) (fun y _ W hW => twice1_any y wr.heap.size x W (HXB.out W hW)))
      generalize ((l.take j).any fun y => y.n.toList == x.n.toList) = z at HK HI2
      clear HT HX HXB
      cases z with
      | true =>
        go_wp2_with (go_at_call 87; refine HK.out.mono ?_; rintro e w1 ⟨rfl, hb1⟩; have HB1 := Lib.hid (HA.out.trans (hb1.mono HA.out.size)); clear hb1)
        go_ret
        exact ⟨by rw [HI2.out]; rfl, HB1.out⟩
      | false =>
        go_wp2_with (go_at_call 87; refine HK.out.mono ?_; rintro e w1 ⟨rfl, hb1⟩; have HB1 := Lib.hid (HA.out.trans (hb1.mono HA.out.size)); clear hb1)
        go_roundw
        case rel => exact ⟨j + 1, by go_num, by omega, HB1.out, Lib.hid (by rw [HI2.out]; rfl)⟩
        case measure => simp [intOf]; omega
    · have HB := Lib.hid hbw
      clear hbw
      go_wp2_with (fail)
      go_ret
      exact ⟨by rw [HI.out, List.drop_of_length_le (by have := HL.out; omega)]; rfl, HB.out⟩

/-- May these be a table's columns? -/
def columnedB (n : Nat) (l : List Cl) : Bool := decide (1 ≤ n) && (decide (n ≤ 8) && (!l.any unfitB && !twiceB l))
set_option maxRecDepth 100000 in
set_option maxHeartbeats 4000000 in
theorem columned_any (A : Option Addr) (n c : Nat) (l : List Cl) (hcap : n ≤ c) (hsz : ∀ y ∈ l, y.n.size ≤ 100000) (w : World) (hc : ColS w A n l) :
    Calls Tryz.prog 56 #[.slice A n c] w fun e w' => e = .returned (.bool (columnedB n l)) ∧ Below w.heap.size w w' := by
  have HU := Lib.hid (contains_unfit A n c l unfitB w hc (fun y hy W _ => unfit_any y (hsz y hy) W))
  have HT := Lib.hid (fun (W : World) (hW : Below w.heap.size w W) => twice_any A n c l hcap W (hc.below hW))
  have hn := hc.2.1
  unfold maxLen at hn
  unfold columnedB
  clear hc hsz
  generalize l.any unfitB = z1 at HU ⊢
  generalize twiceB l = z2 at HT ⊢
  by_cases h1 : 1 ≤ n
  · have d1 : decide (1 ≤ n) = true := decide_eq_true h1
    have d2 : decide ((1 : Int) ≤ (n : Int)) = true := decide_eq_true (by omega)
    rw [d1, Bool.true_and]
    clear h1
    by_cases h3 : n ≤ 8
    · have d3 : decide (n ≤ 8) = true := decide_eq_true h3
      have d4 : decide ((n : Int) ≤ (8 : Int)) = true := decide_eq_true (by omega)
      rw [d3, Bool.true_and]
      clear h3
      cases z1 with
      | true =>
        rw [Bool.not_true, Bool.false_and]
        go_enter Tryz.func56, Tryz.ntmps56
        go_wp2_with (go_at_call 87; refine HU.out.mono ?_; rintro e w1 ⟨rfl, hb1⟩; have HB1 := Lib.hid hb1; clear hb1)
        go_ret
        exact ⟨rfl, HB1.out⟩
      | false =>
        rw [Bool.not_false, Bool.true_and]
        cases z2 with
        | true =>
          go_enter Tryz.func56, Tryz.ntmps56
          go_wp2_with (first | (go_at_call 87; refine HU.out.mono ?_; rintro e w1 ⟨rfl, hb1⟩; have HB1 := Lib.hid hb1; clear hb1) | (go_at_call 89; refine (HT.out _ HB1.out).mono ?_; rintro e w2 ⟨rfl, hb2⟩; have HB2 := Lib.hid (HB1.out.trans (hb2.mono HB1.out.size)); clear hb2))
          go_ret
          exact ⟨rfl, HB2.out⟩
        | false =>
          go_enter Tryz.func56, Tryz.ntmps56
          go_wp2_with (first | (go_at_call 87; refine HU.out.mono ?_; rintro e w1 ⟨rfl, hb1⟩; have HB1 := Lib.hid hb1; clear hb1) | (go_at_call 89; refine (HT.out _ HB1.out).mono ?_; rintro e w2 ⟨rfl, hb2⟩; have HB2 := Lib.hid (HB1.out.trans (hb2.mono HB1.out.size)); clear hb2))
          go_ret
          exact ⟨rfl, HB2.out⟩
    · have d3 : decide (n ≤ 8) = false := decide_eq_false h3
      have d4 : decide ((n : Int) ≤ (8 : Int)) = false := decide_eq_false (by omega)
      rw [d3, Bool.false_and]
      clear h3
      go_enter Tryz.func56, Tryz.ntmps56
      go_wp2_with (fail)
      go_ret
      exact ⟨rfl, Below.refl _ _⟩
  · have d1 : decide (1 ≤ n) = false := decide_eq_false h1
    have d2 : decide ((1 : Int) ≤ (n : Int)) = false := decide_eq_false (by omega)
    rw [d1, Bool.false_and]
    clear h1
    go_enter Tryz.func56, Tryz.ntmps56
    go_wp2_with (fail)
    go_ret
    exact ⟨rfl, Below.refl _ _⟩
end Go.Proofs.YtmhkmliebhbkdaaGreat

/- Tables: is there a check? -/
namespace Go.Proofs.YtmhkmliebhbkdaaGreat
open Go.RowKit Go.Lib

set_option maxRecDepth 100000 in
set_option maxHeartbeats 4000000 in
theorem efun_none (B : Option Addr) (q d : Nat) (w : World) : Calls Tryz.prog 134 #[.slice B q d, .slice none 0 0, .func (.func 95) #[] #[]] w fun e w' => e = .returned (.bool (decide (q = 0))) ∧ Below w.heap.size w w' := by
  by_cases h : q = 0
  · subst h
    rw [decide_eq_true rfl]
    go_enter Tryz.func134, Tryz.ntmps134
    go_wp2_with (fail)
    refine wp_loop_once ?_
    go_wp2_with (fail)
    go_ret
    exact ⟨rfl, Below.refl _ _⟩
  · rw [decide_eq_false h]
    have q1 : ((q : Int) == 0) = false := by simp [h]
    go_enter Tryz.func134, Tryz.ntmps134
    go_wp2_with (fail)
    go_ret
    exact ⟨rfl, Below.refl _ _⟩
/-- No expression. -/
def noneB (op : ByteArray) (k i : Int) (vs s : ByteArray) (q : Nat) : Bool := decide (op.toList = [] ∧ k = 0 ∧ i = 0 ∧ vs.toList = [] ∧ s.toList = [] ∧ q = 0)
set_option maxRecDepth 100000 in
set_option maxHeartbeats 4000000 in
theorem same_none (op : ByteArray) (k i : Int) (vs s : ByteArray) (B : Option Addr) (q d : Nat) (w : World) : Calls Tryz.prog 95 #[.agg #[.string op, .int .i64 k, .int .i64 i, .string vs, .string s, .slice B q d], .agg #[.string ⟨#[]⟩, .int .i64 0, .int .i64 0, .string ⟨#[]⟩, .string ⟨#[]⟩, .slice none 0 0]] w fun e w' => e = .returned (.bool (noneB op k i vs s q)) ∧ Below w.heap.size w w' := by
  obtain ⟨z, hz⟩ : ∃ z, noneB op k i vs s q = z := ⟨_, rfl⟩
  rw [hz]
  have HZ := Lib.hid hz
  have HQ := Lib.hid (fun W => efun_none B q d W)
  obtain ⟨y, hy⟩ : ∃ y, decide (q = 0) = y := ⟨_, rfl⟩
  rw [hy] at HQ
  have HY := Lib.hid hy
  clear hz hy
  go_enter Tryz.func95, Tryz.ntmps95
  go_wp2_with (go_at_call 134; (with_reducible refine (HQ.out _).mono ?_); rintro e w1 ⟨rfl, hb1⟩; have HB1 := Lib.hid hb1; clear hb1)
  all_goals go_ret
  all_goals first
    | exact ⟨congrArg (fun b => Ending.returned (Value.bool b)) (show y = z from by rw [← HZ.out, ← HY.out]; simp [noneB, *]), ((Below.refl _ _).alloc (Nat.le_refl _) _).trans (((Below.refl _ _).alloc (by simp) _).trans (HB1.out.mono (by simp; omega)))⟩
    | exact ⟨congrArg (fun b => Ending.returned (Value.bool b)) (show false = z from by rw [← HZ.out]; simp [noneB, *]), ((Below.refl _ _).alloc (Nat.le_refl _) _).trans ((Below.refl _ _).alloc (by simp) _)⟩
/-- What is wrong with a table's check. -/
def checkedI (cols : List Cl) (t : Ex) : Int := if noneB t.op t.x.k t.x.i t.x.s t.s t.l.length = true then 0 else if (typT cols t).2 = 0 then (if (typT cols t).1 = 3 ∨ (typT cols t).1 = 0 then 0 else 5) else (typT cols t).2
set_option maxRecDepth 100000 in
set_option maxHeartbeats 4000000 in
theorem checked_any (nm : ByteArray) (A : Option Addr) (n c : Nat) (key : Int) (U : Option Addr) (m cu : Nat) (R : Option Addr) (p cr : Nat) (op : ByteArray) (k i : Int) (vs s : ByteArray) (B : Option Addr) (q d : Nat) (l : List Ex) (hl : l.length = q) (cols : List Cl) (P : Nat → Prop) (N : Nat) (w : World) (hc : ColS w A n cols) (ht : Tr w P N (.mk op ⟨k, i, vs⟩ s l) (.slice B q d)) :
    Calls Tryz.prog 59 #[.agg #[.string nm, .slice A n c, .int .i64 key, .slice U m cu, .slice R p cr, .string op, .int .i64 k, .int .i64 i, .string vs, .string s, .slice B q d]] w fun e w' => e = .returned (.int .i64 (checkedI cols (.mk op ⟨k, i, vs⟩ s l))) ∧ Below w.heap.size w w' := by
  have HS := Lib.hid (fun W => same_none op k i vs s B q d W)
  have HT := Lib.hid (fun (W : World) (hW : Below w.heap.size w W) => etype_any A n c cols P N (.mk op ⟨k, i, vs⟩ s l) (.slice B q d) W (ht.below hW) (hc.below hW))
  have e0 : checkedI cols (.mk op ⟨k, i, vs⟩ s l) = if noneB op k i vs s q = true then 0 else if (typT cols (.mk op ⟨k, i, vs⟩ s l)).2 = 0 then (if (typT cols (.mk op ⟨k, i, vs⟩ s l)).1 = 3 ∨ (typT cols (.mk op ⟨k, i, vs⟩ s l)).1 = 0 then 0 else 5) else (typT cols (.mk op ⟨k, i, vs⟩ s l)).2 := by
    subst hl
    rfl
  rw [e0]
  unfold EVt at HT
  simp only [Ex.op, Ex.x, Ex.s] at HT
  clear e0 hc ht
  generalize noneB op k i vs s q = z at HS ⊢
  generalize typT cols (.mk op ⟨k, i, vs⟩ s l) = R at HT ⊢
  obtain ⟨t1, t2⟩ := R
  dsimp only at HT ⊢
  cases z with
  | true =>
    rw [if_pos rfl]
    go_enter Tryz.func59, Tryz.ntmps59
    go_wp2_with (go_at_call 95; (with_reducible refine (HS.out _).mono ?_); rintro e w1 ⟨rfl, hb1⟩; have HB1 : Hid (Below w.heap.size w w1) := ((Below.refl _ _).alloc (Nat.le_refl _) _).trans (hb1.mono (by simp)); have hc1 := (bcell hb1).1; have hf1 := (bcell hb1).2; have hy1 := hb1.size; (try simp at hy1); have hz1_0 : w.heap.size < w1.heap.size := (by omega))
    go_ret
    exact ⟨rfl, HB1.out⟩
  | false =>
    rw [if_neg (by decide)]
    by_cases h2 : t2 = 0
    · subst h2
      rw [if_pos rfl]
      by_cases h3 : t1 = 3
      · subst h3
        rw [if_pos (.inl rfl)]
        go_enter Tryz.func59, Tryz.ntmps59
        go_wp2_with (first | (go_at_call 95; (with_reducible refine (HS.out _).mono ?_); rintro e w1 ⟨rfl, hb1⟩; have HB1 : Hid (Below w.heap.size w w1) := ((Below.refl _ _).alloc (Nat.le_refl _) _).trans (hb1.mono (by simp)); have hc1 := (bcell hb1).1; have hf1 := (bcell hb1).2; have hy1 := hb1.size; (try simp at hy1); have hz1_0 : w.heap.size < w1.heap.size := (by omega)) | (go_at_call 32; (with_reducible refine (HT.out _ HB1.out).mono ?_); rintro e w2 ⟨rfl, hb2⟩; have HB2 : Hid (Below w.heap.size w w2) := HB1.out.trans (hb2.mono HB1.out.size); clear hb2))
        go_ret
        exact ⟨rfl, HB2.out⟩
      · by_cases h4 : t1 = 0
        · subst h4
          rw [if_pos (.inr rfl)]
          go_enter Tryz.func59, Tryz.ntmps59
          go_wp2_with (first | (go_at_call 95; (with_reducible refine (HS.out _).mono ?_); rintro e w1 ⟨rfl, hb1⟩; have HB1 : Hid (Below w.heap.size w w1) := ((Below.refl _ _).alloc (Nat.le_refl _) _).trans (hb1.mono (by simp)); have hc1 := (bcell hb1).1; have hf1 := (bcell hb1).2; have hy1 := hb1.size; (try simp at hy1); have hz1_0 : w.heap.size < w1.heap.size := (by omega)) | (go_at_call 32; (with_reducible refine (HT.out _ HB1.out).mono ?_); rintro e w2 ⟨rfl, hb2⟩; have HB2 : Hid (Below w.heap.size w w2) := HB1.out.trans (hb2.mono HB1.out.size); clear hb2))
          go_ret
          exact ⟨rfl, HB2.out⟩
        · rw [if_neg (by omega)]
          have q1 : (t1 != 3) = true := by simp [h3]
          have q2 : (t1 != 0) = true := by simp [h4]
          clear h3 h4
          go_enter Tryz.func59, Tryz.ntmps59
          go_wp2_with (first | (go_at_call 95; (with_reducible refine (HS.out _).mono ?_); rintro e w1 ⟨rfl, hb1⟩; have HB1 : Hid (Below w.heap.size w w1) := ((Below.refl _ _).alloc (Nat.le_refl _) _).trans (hb1.mono (by simp)); have hc1 := (bcell hb1).1; have hf1 := (bcell hb1).2; have hy1 := hb1.size; (try simp at hy1); have hz1_0 : w.heap.size < w1.heap.size := (by omega)) | (go_at_call 32; (with_reducible refine (HT.out _ HB1.out).mono ?_); rintro e w2 ⟨rfl, hb2⟩; have HB2 : Hid (Below w.heap.size w w2) := HB1.out.trans (hb2.mono HB1.out.size); clear hb2))
          go_ret
          exact ⟨rfl, HB2.out⟩
    · rw [if_neg h2]
      have q1 : (t2 == 0) = false := by simp [h2]
      clear h2
      go_enter Tryz.func59, Tryz.ntmps59
      go_wp2_with (first | (go_at_call 95; (with_reducible refine (HS.out _).mono ?_); rintro e w1 ⟨rfl, hb1⟩; have HB1 : Hid (Below w.heap.size w w1) := ((Below.refl _ _).alloc (Nat.le_refl _) _).trans (hb1.mono (by simp)); have hc1 := (bcell hb1).1; have hf1 := (bcell hb1).2; have hy1 := hb1.size; (try simp at hy1); have hz1_0 : w.heap.size < w1.heap.size := (by omega)) | (go_at_call 32; (with_reducible refine (HT.out _ HB1.out).mono ?_); rintro e w2 ⟨rfl, hb2⟩; have HB2 : Hid (Below w.heap.size w w2) := HB1.out.trans (hb2.mono HB1.out.size); clear hb2))
      go_ret
      exact ⟨rfl, HB2.out⟩
end Go.Proofs.YtmhkmliebhbkdaaGreat

/- Tables: which may be. -/
namespace Go.Proofs.YtmhkmliebhbkdaaGreat
open Go.RowKit Go.Lib

/-- A table's slices read as these. -/
structure TbS (W : World) (nm : ByteArray) (A : Option Addr) (n c : Nat) (key : Int) (U : Option Addr) (m cu : Nat) (R : Option Addr) (p cr : Nat) (op : ByteArray) (k i : Int) (vs s : ByteArray) (B : Option Addr) (q d : Nat) (cols : List Cl) (us : List Int) (rs : List Rf) (l : List Ex) (P : Nat → Prop) (N : Nat) : Prop where
  hcols : ColS W A n cols
  cap : n ≤ c
  hus : IntS W U m us
  hrs : RfS W R p rs
  chk : Tr W P N (.mk op ⟨k, i, vs⟩ s l) (.slice B q d)
  len : l.length = q
  hnm : nm.size ≤ 100000
  nc : ∀ y ∈ cols, y.n.size ≤ 100000
  nr : ∀ y ∈ rs, y.t.size ≤ 100000
theorem TbS.below {W W' : World} {nm : ByteArray} {A : Option Addr} {n c : Nat} {key : Int} {U : Option Addr} {m cu : Nat} {R : Option Addr} {p cr : Nat} {op : ByteArray} {k i : Int} {vs s : ByteArray} {B : Option Addr} {q d : Nat} {cols : List Cl} {us : List Int} {rs : List Rf} {l : List Ex} {P : Nat → Prop} {N : Nat} (h : TbS W nm A n c key U m cu R p cr op k i vs s B q d cols us rs l P N) (hb : Below W.heap.size W W') : TbS W' nm A n c key U m cu R p cr op k i vs s B q d cols us rs l P N :=
  ⟨h.hcols.below hb, h.cap, h.hus.below hb, h.hrs.below hb, h.chk.below hb, h.len, h.hnm, h.nc, h.nr⟩

/-- Is the key a column in which NULL may not be? -/
def keyedB (n : Nat) (key : Int) (l : List Cl) : Bool := (decide (0 ≤ key) && decide (key < n)) && ((l[key.toNat]?).map Cl.b).getD false
set_option maxRecDepth 100000 in
set_option maxHeartbeats 4000000 in
theorem keyed_any (nm : ByteArray) (A : Option Addr) (n c : Nat) (key : Int) (U : Option Addr) (m cu : Nat) (R : Option Addr) (p cr : Nat) (op : ByteArray) (k i : Int) (vs s : ByteArray) (B : Option Addr) (q d : Nat) (cols : List Cl) (w : World) (hc : ColS w A n cols) : Calls Tryz.prog 57 #[.agg #[.string nm, .slice A n c, .int .i64 key, .slice U m cu, .slice R p cr, .string op, .int .i64 k, .int .i64 i, .string vs, .string s, .slice B q d]] w fun e w' => e = .returned (.bool (keyedB n key cols)) ∧ Below w.heap.size w w' := by
  have HH := Lib.hid (fun W => has_any nm A n c key U m cu R p cr op k i vs s B q d key W)
  have hn := hc.2.1
  have hln := hc.1
  unfold maxLen at hn
  unfold keyedB
  by_cases h1 : 0 ≤ key ∧ key < n
  · obtain ⟨x, rfl⟩ := Int.eq_ofNat_of_zero_le h1.1
    have hx : x < cols.length := by omega
    obtain ⟨a, rfl, hE⟩ := hc.2.2 x hx
    have HE := Lib.hid hE
    have hal := hE.lt
    have e0 : decide ((0 : Int) ≤ (x : Int)) = true := decide_eq_true h1.1
    have e1 : decide ((x : Int) < (n : Int)) = true := decide_eq_true h1.2
    have hxn : x < n := by omega
    rw [e0, e1] at HH ⊢
    rw [Bool.and_self] at HH ⊢
    rw [Bool.true_and, Int.toNat_natCast, List.getElem?_eq_getElem hx, Option.map_some, Option.getD_some]
    clear hE hc h1 e0 e1
    generalize cols[x] = y at HE ⊢
    go_enter Tryz.func57, Tryz.ntmps57
    go_wp2_with (go_at_call 90; refine (HH.out _).mono ?_; rintro e w1 ⟨rfl, hb1⟩; have HB1 : Hid (Below w.heap.size w w1) := ((Below.refl _ _).alloc (Nat.le_refl _) _).trans (hb1.mono (by simp)); have HE1 := HE.out.keep (HB1.out.block _ hal); have g0 := HE1.c0; have g1 := HE1.c1; have g2 := HE1.c2; clear HE1; have hc1 := (bcell hb1).1; have hf1 := (bcell hb1).2; have hy1 := hb1.size; (try simp at hy1); have hz1_0 : w.heap.size < w1.heap.size := (by omega))
    go_ret
    exact ⟨rfl, HB1.out⟩
  · have e0 : (decide (0 ≤ key) && decide (key < n)) = false := by
      rcases (show ¬ 0 ≤ key ∨ ¬ key < n by omega) with h | h
      · rw [decide_eq_false h, Bool.false_and]
      · rw [decide_eq_false h, Bool.and_false]
    rw [e0] at HH ⊢
    rw [Bool.false_and]
    clear h1 e0 hc
    go_enter Tryz.func57, Tryz.ntmps57
    go_wp2_with (go_at_call 90; refine (HH.out _).mono ?_; rintro e w1 ⟨rfl, hb1⟩; have HB1 : Hid (Below w.heap.size w w1) := ((Below.refl _ _).alloc (Nat.le_refl _) _).trans (hb1.mono (by simp)); have hc1 := (bcell hb1).1; have hf1 := (bcell hb1).2; have hy1 := hb1.size; (try simp at hy1); have hz1_0 : w.heap.size < w1.heap.size := (by omega))
    go_ret
    exact ⟨rfl, HB1.out⟩

/-- Do the Uniques and Refs say what there may be? -/
def pointedB (n : Nat) (us : List Int) (rs : List Rf) : Bool := !(us.any fun x => !(decide (0 ≤ x) && decide (x < n))) && !rs.any (badRf n)
set_option maxRecDepth 100000 in
set_option maxHeartbeats 4000000 in
theorem pointed_any (nm : ByteArray) (A : Option Addr) (n c : Nat) (key : Int) (U : Option Addr) (m cu : Nat) (R : Option Addr) (p cr : Nat) (op : ByteArray) (k i : Int) (vs s : ByteArray) (B : Option Addr) (q d : Nat) (cols : List Cl) (us : List Int) (rs : List Rf) (l : List Ex) (P : Nat → Prop) (N : Nat) (w : World) (ht : TbS w nm A n c key U m cu R p cr op k i vs s B q d cols us rs l P N) : Calls Tryz.prog 58 #[.agg #[.string nm, .slice A n c, .int .i64 key, .slice U m cu, .slice R p cr, .string op, .int .i64 k, .int .i64 i, .string vs, .string s, .slice B q d]] w fun e w' => e = .returned (.bool (pointedB n us rs)) ∧ Below w.heap.size w w' := by
  have HA : Hid (TbAt (w.alloc (.cells #[.string nm, .slice A n c, .int .i64 key, .slice U m cu, .slice R p cr, .string op, .int .i64 k, .int .i64 i, .string vs, .string s, .slice B q d] 31)) w.heap.size nm A n c key U m cu R p cr op k i vs s B q d) := ⟨by simp [go_sem], by simp [go_sem], by simp [go_sem], by simp [go_sem], by simp [go_sem], by simp [go_sem], by simp [go_sem], by simp [go_sem], by simp [go_sem], by simp [go_sem], by simp [go_sem]⟩
  have H0 : Hid (Below w.heap.size w (w.alloc (.cells #[.string nm, .slice A n c, .int .i64 key, .slice U m cu, .slice R p cr, .string op, .int .i64 k, .int .i64 i, .string vs, .string s, .slice B q d] 31))) := (Below.refl _ _).alloc (Nat.le_refl _) _
  have HT := Lib.hid ht
  have HU := Lib.hid (contains_places U m cu us (fun x => !(decide (0 ≤ x) && decide (x < n))) w.heap.size (w.alloc (.cells #[.string nm, .slice A n c, .int .i64 key, .slice U m cu, .slice R p cr, .string op, .int .i64 k, .int .i64 i, .string vs, .string s, .slice B q d] 31)) (HT.out.hus.below H0.out) (fun x _ W hW => pointed1_any nm A n c key U m cu R p cr op k i vs s B q d x w.heap.size W (HA.out.below hW)))
  have HR : Hid (∀ W, Below (w.alloc (.cells #[.string nm, .slice A n c, .int .i64 key, .slice U m cu, .slice R p cr, .string op, .int .i64 k, .int .i64 i, .string vs, .string s, .slice B q d] 31)).heap.size (w.alloc (.cells #[.string nm, .slice A n c, .int .i64 key, .slice U m cu, .slice R p cr, .string op, .int .i64 k, .int .i64 i, .string vs, .string s, .slice B q d] 31)) W → Calls Tryz.prog 93 #[.slice R p cr, .func (.func 94) #[] #[.pointer (some ⟨w.heap.size, 0, none⟩)]] W fun e w' => e = .returned (.bool (rs.any (badRf n))) ∧ Below W.heap.size W w') :=
    fun W hW => contains_refs R p cr rs (badRf n) w.heap.size W ((HT.out.hrs.below H0.out).below hW) (fun x hx W' hW' => pointed2_any nm A n c key U m cu R p cr op k i vs s B q d x (HT.out.nr x hx) w.heap.size W' ((HA.out.below hW).below hW'))
  unfold pointedB
  clear ht HA H0 HT
  generalize (us.any fun x => !(decide (0 ≤ x) && decide (x < n))) = z1 at HU ⊢
  generalize rs.any (badRf n) = z2 at HR ⊢
  cases z1 with
  | true =>
    rw [Bool.not_true, Bool.false_and]
    go_enter Tryz.func58, Tryz.ntmps58
    go_wp2_with (go_at_call 91; refine HU.out.mono ?_; rintro e w1 ⟨rfl, hb1⟩; have HB1 : Hid (Below w.heap.size w w1) := ((Below.refl _ _).alloc (Nat.le_refl _) _).trans (hb1.mono (by simp)); have hc1 := (bcell hb1).1; have hf1 := (bcell hb1).2; have hy1 := hb1.size; (try simp at hy1); have hz1_0 : w.heap.size < w1.heap.size := (by omega))
    go_ret
    exact ⟨rfl, HB1.out⟩
  | false =>
    rw [Bool.not_false, Bool.true_and]
    go_enter Tryz.func58, Tryz.ntmps58
    go_wp2_with (first | (go_at_call 91; refine HU.out.mono ?_; rintro e w1 ⟨rfl, hb1⟩; have HB1 : Hid (Below w.heap.size w w1) := ((Below.refl _ _).alloc (Nat.le_refl _) _).trans (hb1.mono (by simp)); have hc1 := (bcell hb1).1; have hf1 := (bcell hb1).2; have hy1 := hb1.size; (try simp at hy1); have hz1_0 : w.heap.size < w1.heap.size := (by omega)) | (go_at_call 93; refine (HR.out _ (by first | exact hb1)).mono ?_; rintro e w2 ⟨rfl, hb2⟩; have HB2 : Hid (Below w.heap.size w w2) := HB1.out.trans (hb2.mono HB1.out.size); clear hb2))
    go_ret
    exact ⟨rfl, HB2.out⟩

/-- May a table be? -/
def tableB (n : Nat) (nm : ByteArray) (key : Int) (cols : List Cl) (us : List Int) (rs : List Rf) (t : Ex) : Bool :=
  colB nm && (columnedB n cols && (keyedB n key cols && (pointedB n us rs && decide (checkedI cols t = 0))))
set_option maxRecDepth 100000 in
set_option maxHeartbeats 4000000 in
theorem tmay6_any (nm : ByteArray) (A : Option Addr) (n c : Nat) (key : Int) (U : Option Addr) (m cu : Nat) (R : Option Addr) (p cr : Nat) (op : ByteArray) (k i : Int) (vs s : ByteArray) (B : Option Addr) (q d : Nat) (cols : List Cl) (us : List Int) (rs : List Rf) (l : List Ex) (P : Nat → Prop) (N : Nat) (w : World) (ht : TbS w nm A n c key U m cu R p cr op k i vs s B q d cols us rs l P N) : Calls Tryz.prog 27 #[.agg #[.string nm, .slice A n c, .int .i64 key, .slice U m cu, .slice R p cr, .string op, .int .i64 k, .int .i64 i, .string vs, .string s, .slice B q d]] w fun e w' => e = .returned (.bool (tableB n nm key cols us rs (.mk op ⟨k, i, vs⟩ s l))) ∧ Below w.heap.size w w' := by
  have HN := Lib.hid (fun W => tnamed_any nm ht.hnm W)
  have HC := Lib.hid (fun (W : World) (hW : Below w.heap.size w W) => columned_any A n c cols ht.cap ht.nc W (ht.hcols.below hW))
  have HK := Lib.hid (fun (W : World) (hW : Below w.heap.size w W) => keyed_any nm A n c key U m cu R p cr op k i vs s B q d cols W (ht.hcols.below hW))
  have HP := Lib.hid (fun (W : World) (hW : Below w.heap.size w W) => pointed_any nm A n c key U m cu R p cr op k i vs s B q d cols us rs l P N W (ht.below hW))
  have HX := Lib.hid (fun (W : World) (hW : Below w.heap.size w W) => checked_any nm A n c key U m cu R p cr op k i vs s B q d l ht.len cols P N W (ht.hcols.below hW) (ht.chk.below hW))
  unfold tableB
  clear ht
  generalize colB nm = z1 at HN ⊢
  generalize columnedB n cols = z2 at HC ⊢
  generalize keyedB n key cols = z3 at HK ⊢
  generalize pointedB n us rs = z4 at HP ⊢
  generalize checkedI cols (.mk op ⟨k, i, vs⟩ s l) = z5 at HX ⊢
  cases z1 with
  | false =>
    rw [Bool.false_and]
    go_enter Tryz.func27, Tryz.ntmps27
    go_wp2_with ((go_at_call 55; refine (HN.out _).mono ?_; rintro e w1 ⟨rfl, hb1⟩; have HB1 : Hid (Below w.heap.size w w1) := ((Below.refl _ _).alloc (Nat.le_refl _) _).trans (hb1.mono (by simp)); have hc1 := (bcell hb1).1; have hf1 := (bcell hb1).2; have hy1 := hb1.size; (try simp at hy1); have hz1_0 : w.heap.size < w1.heap.size := (by omega)))
    go_ret
    exact ⟨rfl, HB1.out⟩
  | true =>
    rw [Bool.true_and]
    cases z2 with
    | false =>
      rw [Bool.false_and]
      go_enter Tryz.func27, Tryz.ntmps27
      go_wp2_with (first | (go_at_call 55; refine (HN.out _).mono ?_; rintro e w1 ⟨rfl, hb1⟩; have HB1 : Hid (Below w.heap.size w w1) := ((Below.refl _ _).alloc (Nat.le_refl _) _).trans (hb1.mono (by simp)); have hc1 := (bcell hb1).1; have hf1 := (bcell hb1).2; have hy1 := hb1.size; (try simp at hy1); have hz1_0 : w.heap.size < w1.heap.size := (by omega)) | (go_at_call 56; refine (HC.out _ HB1.out).mono ?_; rintro e w2 ⟨rfl, hb2⟩; have HB2 : Hid (Below w.heap.size w w2) := HB1.out.trans (hb2.mono HB1.out.size); have hc2 := (bcell hb2).1; have hf2 := (bcell hb2).2; have hy2 := hb2.size; have hz2_0 : w.heap.size < w2.heap.size := (by omega); clear hb2))
      go_ret
      exact ⟨rfl, HB2.out⟩
    | true =>
      rw [Bool.true_and]
      cases z3 with
      | false =>
        rw [Bool.false_and]
        go_enter Tryz.func27, Tryz.ntmps27
        go_wp2_with (first | (go_at_call 55; refine (HN.out _).mono ?_; rintro e w1 ⟨rfl, hb1⟩; have HB1 : Hid (Below w.heap.size w w1) := ((Below.refl _ _).alloc (Nat.le_refl _) _).trans (hb1.mono (by simp)); have hc1 := (bcell hb1).1; have hf1 := (bcell hb1).2; have hy1 := hb1.size; (try simp at hy1); have hz1_0 : w.heap.size < w1.heap.size := (by omega)) | (go_at_call 56; refine (HC.out _ HB1.out).mono ?_; rintro e w2 ⟨rfl, hb2⟩; have HB2 : Hid (Below w.heap.size w w2) := HB1.out.trans (hb2.mono HB1.out.size); have hc2 := (bcell hb2).1; have hf2 := (bcell hb2).2; have hy2 := hb2.size; have hz2_0 : w.heap.size < w2.heap.size := (by omega); clear hb2) | (go_at_call 57; refine (HK.out _ HB2.out).mono ?_; rintro e w3 ⟨rfl, hb3⟩; have HB3 : Hid (Below w.heap.size w w3) := HB2.out.trans (hb3.mono HB2.out.size); have hc3 := (bcell hb3).1; have hf3 := (bcell hb3).2; have hy3 := hb3.size; have hz3_0 : w.heap.size < w3.heap.size := (by omega); clear hb3))
        go_ret
        exact ⟨rfl, HB3.out⟩
      | true =>
        rw [Bool.true_and]
        cases z4 with
        | false =>
          rw [Bool.false_and]
          go_enter Tryz.func27, Tryz.ntmps27
          go_wp2_with (first | (go_at_call 55; refine (HN.out _).mono ?_; rintro e w1 ⟨rfl, hb1⟩; have HB1 : Hid (Below w.heap.size w w1) := ((Below.refl _ _).alloc (Nat.le_refl _) _).trans (hb1.mono (by simp)); have hc1 := (bcell hb1).1; have hf1 := (bcell hb1).2; have hy1 := hb1.size; (try simp at hy1); have hz1_0 : w.heap.size < w1.heap.size := (by omega)) | (go_at_call 56; refine (HC.out _ HB1.out).mono ?_; rintro e w2 ⟨rfl, hb2⟩; have HB2 : Hid (Below w.heap.size w w2) := HB1.out.trans (hb2.mono HB1.out.size); have hc2 := (bcell hb2).1; have hf2 := (bcell hb2).2; have hy2 := hb2.size; have hz2_0 : w.heap.size < w2.heap.size := (by omega); clear hb2) | (go_at_call 57; refine (HK.out _ HB2.out).mono ?_; rintro e w3 ⟨rfl, hb3⟩; have HB3 : Hid (Below w.heap.size w w3) := HB2.out.trans (hb3.mono HB2.out.size); have hc3 := (bcell hb3).1; have hf3 := (bcell hb3).2; have hy3 := hb3.size; have hz3_0 : w.heap.size < w3.heap.size := (by omega); clear hb3) | (go_at_call 58; refine (HP.out _ HB3.out).mono ?_; rintro e w4 ⟨rfl, hb4⟩; have HB4 : Hid (Below w.heap.size w w4) := HB3.out.trans (hb4.mono HB3.out.size); have hc4 := (bcell hb4).1; have hf4 := (bcell hb4).2; have hy4 := hb4.size; have hz4_0 : w.heap.size < w4.heap.size := (by omega); clear hb4))
          go_ret
          exact ⟨rfl, HB4.out⟩
        | true =>
          rw [Bool.true_and]
          have e5 : (z5 == 0) = decide (z5 = 0) := by by_cases h : z5 = 0 <;> simp [h]
          generalize decide (z5 = 0) = y at e5 ⊢
          go_enter Tryz.func27, Tryz.ntmps27
          go_wp2_with (first | (go_at_call 55; refine (HN.out _).mono ?_; rintro e w1 ⟨rfl, hb1⟩; have HB1 : Hid (Below w.heap.size w w1) := ((Below.refl _ _).alloc (Nat.le_refl _) _).trans (hb1.mono (by simp)); have hc1 := (bcell hb1).1; have hf1 := (bcell hb1).2; have hy1 := hb1.size; (try simp at hy1); have hz1_0 : w.heap.size < w1.heap.size := (by omega)) | (go_at_call 56; refine (HC.out _ HB1.out).mono ?_; rintro e w2 ⟨rfl, hb2⟩; have HB2 : Hid (Below w.heap.size w w2) := HB1.out.trans (hb2.mono HB1.out.size); have hc2 := (bcell hb2).1; have hf2 := (bcell hb2).2; have hy2 := hb2.size; have hz2_0 : w.heap.size < w2.heap.size := (by omega); clear hb2) | (go_at_call 57; refine (HK.out _ HB2.out).mono ?_; rintro e w3 ⟨rfl, hb3⟩; have HB3 : Hid (Below w.heap.size w w3) := HB2.out.trans (hb3.mono HB2.out.size); have hc3 := (bcell hb3).1; have hf3 := (bcell hb3).2; have hy3 := hb3.size; have hz3_0 : w.heap.size < w3.heap.size := (by omega); clear hb3) | (go_at_call 58; refine (HP.out _ HB3.out).mono ?_; rintro e w4 ⟨rfl, hb4⟩; have HB4 : Hid (Below w.heap.size w w4) := HB3.out.trans (hb4.mono HB3.out.size); have hc4 := (bcell hb4).1; have hf4 := (bcell hb4).2; have hy4 := hb4.size; have hz4_0 : w.heap.size < w4.heap.size := (by omega); clear hb4) | (go_at_call 59; refine (HX.out _ HB4.out).mono ?_; rintro e w5 ⟨rfl, hb5⟩; have HB5 : Hid (Below w.heap.size w w5) := HB4.out.trans (hb5.mono HB4.out.size); have hc5 := (bcell hb5).1; have hf5 := (bcell hb5).2; have hy5 := hb5.size; have hz5_0 : w.heap.size < w5.heap.size := (by omega); clear hb5))
          go_ret
          exact ⟨by first | rfl | rw [e5], HB5.out⟩
end Go.Proofs.YtmhkmliebhbkdaaGreat

/- Tables: what is wrong with a row. -/
namespace Go.Proofs.YtmhkmliebhbkdaaGreat
open Go.RowKit Go.Lib

/-- What is wrong with a value in a column. -/
def heldI (y : Cl) (v : Vl) : Int := if v.k = y.t ∨ (v.k = 0 ∧ y.b = false) then 0 else if v.k = 0 then 8 else 5
set_option maxRecDepth 100000 in
set_option maxHeartbeats 4000000 in
theorem held6_any (y : Cl) (v : Vl) (w : World) : Calls Tryz.prog 125 #[.agg #[.string y.n, .int .i64 y.t, .bool y.b], .agg #[.int .i64 v.k, .int .i64 v.i, .string v.s]] w fun e w' => e = .returned (.int .i64 (heldI y v)) ∧ Below w.heap.size w w' := by
  obtain ⟨z, hz⟩ : ∃ z, heldI y v = z := ⟨_, rfl⟩
  rw [hz]
  have HZ := Lib.hid hz
  clear hz
  go_enter Tryz.func125, Tryz.ntmps125
  go_wp2_with (fail)
  all_goals go_ret
  all_goals exact ⟨congrArg (fun b => Ending.returned (Value.int .i64 b)) (show _ = z from by rw [← HZ.out]; clear HZ; first | (simp [heldI, *]; done) | simp_all [heldI]), ((Below.refl _ _).alloc (Nat.le_refl _) _).alloc (by simp) _⟩
def heldF : List Cl → List Vl → Int
  | y :: l, v :: r => if heldI y v = 0 then heldF l r else heldI y v
  | _, _ => 0
def evalT (cols : List Cl) (row : List Vl) (t : Ex) : Vl := if mayT t = true then evalF cols row 12 t else nulV
theorem evalT_any (A : Option Addr) (n c : Nat) (cols : List Cl) (A' : Option Addr) (m c' : Nat) (row : List Vl) (hm : m ≤ maxLen) (P : Nat → Prop) (N : Nat) (t : Ex) (u : Value) (w : World) (ht : Tr w P N t u) (hc : ColS w A n cols) (hv : Vals w w.heap.size A' m row) :
    Calls Tryz.prog 33 #[EVt t u, .slice A n c, .slice A' m c'] w fun e w' => e = .returned (.agg #[.int .i64 (evalT cols row t).k, .int .i64 (evalT cols row t).i, .string (evalT cols row t).s]) ∧ Below w.heap.size w w' := by
  unfold evalT
  cases h : mayT t with
  | true => rw [if_pos rfl]; exact eval_yes A n c cols A' m c' row hm P N t u w ht h hc hv
  | false => rw [if_neg (by decide)]; exact eval_no A n c A' m c' P N t u w ht h
end Go.Proofs.YtmhkmliebhbkdaaGreat

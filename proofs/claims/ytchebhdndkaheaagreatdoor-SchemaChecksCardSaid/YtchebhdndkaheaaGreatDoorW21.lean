import Derived.Test.YtchebhdndkaheaaGreatDoorW20
import Derived.Test.YtchebhdndkaheaaGreatDoorW12
import Derived.Test.YtchebhdndkaheaaGreatDoorW19

/- The chapter's example of layer 6: the table of its statement. -/
namespace Go.Proofs.YtchebhdndkaheaaGreatDoor
open Go.RowKit Go.Lib

set_option maxRecDepth 100000 in
set_option maxHeartbeats 4000000 in
theorem nn_cols (a : Addr) (n cap : Nat) (w : World) : Sem.run Tryz.prog (binOp .eql 22 (.slice (some a) n cap) (.slice none 0 0)) w = .ok (.bool false) w := by
  obtain ⟨b, o, f⟩ := a
  first | (simp [binOp, go_sem]; done) | kernel_rfl | rfl
set_option maxRecDepth 100000 in
set_option maxHeartbeats 4000000 in
theorem cclone_k (a : Addr) (cap : Nat) (w : World) (hc : ColS w (some a) 1 [kC]) : Calls Tryz.prog 63 #[.slice (some a) 1 cap] w fun e w' => ∃ g c, e = .returned (.slice (some ⟨g, 0, none⟩) 1 c) ∧ w.heap.size ≤ g ∧ 1 ≤ c ∧ (∃ cur, w'.heap[g]? = some (.cells cur 43 (0, 0))) ∧ ColS w' (some ⟨g, 0, none⟩) 1 [kC] ∧ Below w.heap.size w w' := by
  go_enter Tryz.func63, Tryz.ntmps63
  go_wp2_with (fail)
  rw [nn_cols]
  have HC := Lib.hid hc
  obtain ⟨i0, hi, hz0, hz1, hz2⟩ := info_parts infoCol
  have HOw : Hid ((w.alloc (.cells #[] 43)).ownsRow w.heap.size 43 3 (.slice (some ⟨w.heap.size, 0, none⟩) 0 0) 0 []) := ⟨rfl, .inr ⟨w.heap.size, 0, #[], rfl, Nat.le_refl _, alloc_at rfl _, by omega, by unfold maxLen; omega, rfl, rfl⟩⟩
  have HA : Hid (ClAt (w.alloc (.cells #[] 43)) a kC) := by
    obtain ⟨a', ea, h⟩ := (hc.below ((Below.refl _ _).alloc (Nat.le_refl _) (.cells #[] 43))).2.2 0 (by decide)
    injection ea with ea
    subst ea
    rw [show a.add (0 * 3) = a by simp [Addr.add]] at h
    exact h
  clear hc
  go_wp2_with (at_builtin; refine wpList_append_own _ rfl _ _ 22 rfl w.heap.size 43 i0 _ 3 32 Tryz.underlying22 hi hz0 hz1 hz2 rfl (by decide) (.slice (some ⟨w.heap.size, 0, none⟩) 0 0) 0 [] rfl HOw.out a 1 cap [.string ⟨#[107]⟩, .int .i64 1, .bool false] rfl rfl ?c1 ?c2 ?c3 ?c4 ?c5 ?_)
  case c1 =>
    intro q u hq
    match q with
    | 0 => simp at hq; subst hq; rw [show a.add 0 = a by simp [Addr.add]]; exact HA.out.c0
    | 1 => simp at hq; subst hq; have := HA.out.c1; rw [addE a 1 (by omega)]; exact this
    | 2 => simp at hq; subst hq; have := HA.out.c2; rw [addE a 2 (by omega)]; exact this
    | q + 3 => simp at hq
  case c2 => intro u hu; simp at hu; rcases hu with rfl | rfl | rfl <;> rfl
  case c3 => unfold maxLen; omega
  case c4 => omega
  case c5 => simp
  intro v' w2 hown hgrow hnil
  have HN2 := Lib.hid hown
  have HB2 : Hid (Below w.heap.size w w2) := below_own ((Below.refl _ _).alloc (Nat.le_refl _) _) (own_ge HOw.out) hgrow
  clear hown hgrow hnil
  obtain ⟨hlen, hcase⟩ := HN2.out
  rcases hcase with ⟨_, h00⟩ | ⟨r, cap', cur, rfl, hr0, hg, hcc, hm, hsz, ht⟩
  · omega
  have hcl : ∃ A c0, (.slice (some ⟨r, 0, none⟩) 1 cap' : Value) = .slice A 1 c0 ∧ ColS w2 A 1 [kC] ∧ ∀ a, A = some a → w.heap.size ≤ a.block := ColS.of_own (l := [kC]) HN2.out
  obtain ⟨A0, c0, e0, hC, _⟩ := hcl
  injection e0 with e1 _ e2
  subst e1 e2
  go_wp2_with (fail)
  go_ret
  exact ⟨r, cap', rfl, hr0, hcc, ⟨cur, hg⟩, hC, HB2.out⟩
end Go.Proofs.YtchebhdndkaheaaGreatDoor

/- The chapter's example of layer 6: a copy of k < 5. -/
namespace Go.Proofs.YtchebhdndkaheaaGreatDoor
open Go.RowKit Go.Lib

set_option maxRecDepth 100000 in
set_option maxHeartbeats 4000000 in
theorem nn_exprs (a : Addr) (n cap : Nat) (w : World) : Sem.run Tryz.prog (binOp .eql 27 (.slice (some a) n cap) (.slice none 0 0)) w = .ok (.bool false) w := by
  obtain ⟨b, o, f⟩ := a
  first | (simp [binOp, go_sem]; done) | kernel_rfl | rfl
set_option maxRecDepth 100000 in
set_option maxHeartbeats 4000000 in
theorem nil_exprs (w : World) : Sem.run Tryz.prog (binOp .eql 27 (.slice none 0 0) (.slice none 0 0)) w = .ok (.bool true) w := by
  first | (simp [binOp, go_sem]; done) | kernel_rfl | rfl
set_option maxRecDepth 100000 in
set_option maxHeartbeats 4000000 in
theorem xclone_nil (w : World) : Calls Tryz.prog 84 #[.slice none 0 0] w fun e w' => e = .returned (.slice none 0 0) ∧ Below w.heap.size w w' := by
  go_enter Tryz.func84, Tryz.ntmps84
  go_wp2_with (fail)
  try rw [nil_exprs]
  go_wp2_with (fail)
  go_ret
  exact ⟨rfl, Below.refl _ _⟩
set_option maxRecDepth 100000 in
set_option maxHeartbeats 4000000 in
theorem copied_leaf (op : ByteArray) (k i : Int) (vs s : ByteArray) (w : World) : Calls Tryz.prog 64 #[.agg #[.string op, .int .i64 k, .int .i64 i, .string vs, .string s, .slice none 0 0]] w fun e w' => e = .returned (.agg #[.string op, .int .i64 k, .int .i64 i, .string vs, .string s, .slice none 0 0]) ∧ Below w.heap.size w w' := by
  go_enter Tryz.func64, Tryz.ntmps64
  go_wp2_with (go_at_call 84; (with_reducible refine (xclone_nil _).mono ?_); rintro e w1 ⟨rfl, hb1⟩; have hy1 := hb1.size; (try simp at hy1); have hz1_0 : w.heap.size < w1.heap.size := (by omega); have hz1_1 : w.heap.size + 1 < w1.heap.size := (by omega); have EK : w1.heap[w.heap.size]? = some (.cells #[.string op, .int .i64 k, .int .i64 i, .string vs, .string s, .slice none 0 0] 29 (0, 0)) := (hb1.block w.heap.size (by simp; omega)).trans ((Below.heap_alloc _ _ _ (by simp)).trans (alloc_at rfl _)); have EZ : w1.heap[w.heap.size + 1]? = some (.cells #[.string ⟨#[]⟩, .int .i64 0, .int .i64 0, .string ⟨#[]⟩, .string ⟨#[]⟩, .slice none 0 0] 29 (0, 0)) := (hb1.block (w.heap.size + 1) (by simp)).trans (alloc_at (by simp) _); have k0 := Lib.cell_of_heap EK 0; have y0 := Lib.cell_of_heap EZ 0; have k1 := Lib.cell_of_heap EK 1; have y1 := Lib.cell_of_heap EZ 1; have k2 := Lib.cell_of_heap EK 2; have y2 := Lib.cell_of_heap EZ 2; have k3 := Lib.cell_of_heap EK 3; have y3 := Lib.cell_of_heap EZ 3; have k4 := Lib.cell_of_heap EK 4; have y4 := Lib.cell_of_heap EZ 4; have k5 := Lib.cell_of_heap EK 5; have y5 := Lib.cell_of_heap EZ 5; have kf := Lib.frozen_of_heap EK; have yf := Lib.frozen_of_heap EZ; simp only [List.getElem?_toArray, List.getElem?_cons_zero, List.getElem?_cons_succ] at k0 y0 k1 y1 k2 y2 k3 y3 k4 y4 k5 y5; have HB1 : Hid (Below w.heap.size w w1) := ((Below.refl _ _).alloc (Nat.le_refl _) _).trans (((Below.refl _ _).alloc (by simp) _).trans (hb1.mono (by simp; omega))); clear hb1 EK EZ)
  refine wp_loop_once ?_
  go_wp2_with (fail)
  refine bodyPost_ret (v := .agg #[.string op, .int .i64 k, .int .i64 i, .string vs, .string s, .slice none 0 0]) (by simp [results, Tryz.results64, go_sem, *]; done) rfl ⟨rfl, ?_⟩
  refine cSet1 (by simp) (cSet1 (by simp) (cSet1 (by simp) (cSet1 (by simp) (cSet1 (by simp) (cSet1 (by simp) (cSet1 (by simp) HB1.out _ _) _ _) _ _) _ _) _ _) _ _) _ _
theorem infoEx1 : (Tryz.prog.info? 29).map (fun i => (i.zero, i.size, i.bytes)) = some (some (.agg #[.string ⟨#[]⟩, .int .i64 0, .int .i64 0, .string ⟨#[]⟩, .string ⟨#[]⟩, .slice none 0 0]), 6, 88) := by kernel_rfl
/-- The cells of k and of 5. -/
def leCells : List Value := [.string ⟨#[99, 111, 108]⟩, .int .i64 0, .int .i64 0, .string ⟨#[]⟩, .string ⟨#[107]⟩, .slice none 0 0, .string ⟨#[108, 105, 116]⟩, .int .i64 1, .int .i64 5, .string ⟨#[]⟩, .string ⟨#[]⟩, .slice none 0 0]
set_option maxRecDepth 100000 in
set_option maxHeartbeats 4000000 in
theorem xclone_le (a : Addr) (cap : Nat) (w : World) (hc : ∀ j u, leCells[j]? = some u → w.cell? (a.add j) = some u) : Calls Tryz.prog 84 #[.slice (some a) 2 cap] w fun e w' => ∃ g c, e = .returned (.slice (some ⟨g, 0, none⟩) 2 c) ∧ w.heap.size ≤ g ∧ w'.ownsRow w.heap.size 29 6 (.slice (some ⟨g, 0, none⟩) 2 c) 2 leCells ∧ Below w.heap.size w w' := by
  have hal := World.block_lt_of_cell? w _ (hc 0 _ rfl)
  rw [add_block] at hal
  go_enter Tryz.func84, Tryz.ntmps84
  go_wp2_with (fail)
  rw [nn_exprs]
  have HC : Hid (∀ j u, leCells[j]? = some u → (w.alloc (.cells #[] 29)).cell? (a.add j) = some u) := fun j u h => (((Below.refl w.heap.size w).alloc (Nat.le_refl _) (.cells #[] 29)).cell (by rw [add_block]; exact hal)).trans (hc j u h)
  obtain ⟨i0, hi, hz0, hz1, hz2⟩ := info_parts infoEx1
  have HOw : Hid ((w.alloc (.cells #[] 29)).ownsRow w.heap.size 29 6 (.slice (some ⟨w.heap.size, 0, none⟩) 0 0) 0 []) := ⟨rfl, .inr ⟨w.heap.size, 0, #[], rfl, Nat.le_refl _, alloc_at rfl _, by omega, by unfold maxLen; omega, rfl, rfl⟩⟩
  clear hc
  go_wp2_with (at_builtin; refine wpList_append_own _ rfl _ _ 27 rfl w.heap.size 29 i0 _ 6 88 Tryz.underlying27 hi hz0 hz1 hz2 rfl (by decide) (.slice (some ⟨w.heap.size, 0, none⟩) 0 0) 0 [] rfl HOw.out a 2 cap leCells rfl rfl ?c1 ?c2 ?c3 ?c4 ?c5 ?_)
  case c1 => exact HC.out
  case c2 => intro u hu; simp [leCells] at hu; rcases hu with rfl | rfl | rfl | rfl | rfl | rfl | rfl | rfl | rfl | rfl <;> rfl
  case c3 => unfold maxLen; omega
  case c4 => omega
  case c5 => simp
  intro v' w2 hown hgrow hnil
  have HN2 := Lib.hid hown
  have HB2 : Hid (Below w.heap.size w w2) := below_own ((Below.refl _ _).alloc (Nat.le_refl _) _) (own_ge HOw.out) hgrow
  clear hown hgrow hnil
  obtain ⟨hlen, hcase⟩ := HN2.out
  rcases hcase with ⟨_, h00⟩ | ⟨r, cap', cur, rfl, hr0, _⟩
  · omega
  go_wp2_with (fail)
  go_ret
  exact ⟨r, cap', rfl, hr0, HN2.out, HB2.out⟩
end Go.Proofs.YtchebhdndkaheaaGreatDoor

/- The chapter's example of layer 6: where its only column is. -/
namespace Go.Proofs.YtchebhdndkaheaaGreatDoor
open Go.RowKit Go.Lib

set_option maxRecDepth 100000 in
set_option maxHeartbeats 4000000 in
theorem place1_any (y : Cl) (nm2 : ByteArray) (b : Nat) (w : World) (hb : w.cell? ⟨b, 0, none⟩ = some (.string nm2)) : Calls Tryz.prog 85 #[(.agg #[.string y.n, .int .i64 y.t, .bool y.b]), .pointer (some ⟨b, 0, none⟩)] w fun e w' => e = .returned (.bool (y.n.toList == nm2.toList)) ∧ Below w.heap.size w w' := by
  have hbl := World.block_lt_of_cell? w _ hb
  go_enter Tryz.func85, Tryz.ntmps85
  go_wp2_with (fail)
  go_ret
  exact ⟨rfl, (Below.refl _ _).alloc (Nat.le_refl _) _⟩
set_option maxRecDepth 100000 in
set_option maxHeartbeats 4000000 in
theorem index_plc (A : Option Addr) (n cap : Nat) (l : List Cl) (f : Cl → Bool) (b : Nat) (w : World) (hc : ColS w A n l) (hp : ∀ y ∈ l, ∀ W, Below w.heap.size w W → Calls Tryz.prog 85 #[(.agg #[.string y.n, .int .i64 y.t, .bool y.b]), .pointer (some ⟨b, 0, none⟩)] W fun e w' => e = .returned (.bool (f y)) ∧ Below W.heap.size W w') :
    Calls Tryz.prog 56 #[.slice A n cap, .func (.func 85) #[] #[.pointer (some ⟨b, 0, none⟩)]] w fun e w' => e = .returned (.int .i64 (idxP f l 0)) ∧ Below w.heap.size w w' := by
  have HC := Lib.hid hc
  have HP := Lib.hid hp
  have HL := Lib.hid hc.1
  have hn : n ≤ maxLen := hc.2.1
  unfold maxLen at hn
  clear hc hp
  go_enter Tryz.func56, Tryz.ntmps56
  go_wp2_with (fail)
  go_loopw [8] (fun i wr => ∃ j : Nat, i = .int .i64 j ∧ j ≤ n ∧ Below w.heap.size w wr ∧ Hid (idxP f l 0 = idxP f (l.drop j) j)) (fun i _ => n - (intOf i).toNat)
  case atStart => exact ⟨0, rfl, by omega, Below.refl _ _, rfl⟩
  case round =>
    obtain ⟨j, rfl, hj, hbw, HI⟩ := hrel
    have hbs := hbw.size
    by_cases hlt : j < n
    · have hjl : j < l.length := by rw [HL.out]; exact hlt
      obtain ⟨a, rfl, hE⟩ := HC.out.2.2 j hjl
      have hE' := hE.keep (hbw.block _ hE.lt)
      have e0 := hE'.c0
      have e1 := hE'.c1
      have e2 := hE'.c2
      clear hE hE'
      have HD : Hid (l.drop j = l[j] :: l.drop (j + 1)) := List.drop_eq_getElem_cons hjl
      have HY := Lib.hid (HP.out l[j] (List.getElem_mem hjl))
      have HB := Lib.hid hbw
      clear hbw
      generalize l[j] = y at e0 e1 e2 HD HY
      have HI2 : Hid (idxP f l 0 = if f y = true then (j : Int) else idxP f (l.drop (j + 1)) ((j : Int) + 1)) := Lib.hid (by rw [HI.out, HD.out]; rfl)
      clear HI
      generalize f y = z at HY HI2
      cases z with
      | true =>
        go_wp2_with (go_at_call 85; refine (HY.out _ HB.out).mono ?_; rintro e w1 ⟨rfl, hb1⟩; have HB1 := Lib.hid ((HB.out).trans (hb1.mono hbs)); clear hb1)
        go_ret
        exact ⟨by rw [HI2.out]; simp, HB1.out⟩
      | false =>
        go_wp2_with (go_at_call 85; refine (HY.out _ HB.out).mono ?_; rintro e w1 ⟨rfl, hb1⟩; have HB1 := Lib.hid ((HB.out).trans (hb1.mono hbs)); clear hb1)
        go_roundw
        case rel => exact ⟨j + 1, by go_num, by omega, HB1.out, Lib.hid (by rw [HI2.out]; simp)⟩
        case measure => simp [intOf]; omega
    · have HB := Lib.hid hbw
      clear hbw
      go_wp2
      go_ret
      exact ⟨by rw [HI.out, List.drop_of_length_le (by have := HL.out; omega)]; rfl, HB.out⟩
set_option maxRecDepth 100000 in
set_option maxHeartbeats 4000000 in
theorem tplace_k (nm : ByteArray) (A : Option Addr) (c : Nat) (key : Int) (U : Option Addr) (m cu : Nat) (R : Option Addr) (p cr : Nat) (op : ByteArray) (k i : Int) (vs s : ByteArray) (B : Option Addr) (q d : Nat) (w : World) (hc : ColS w A 1 [kC]) : Calls Tryz.prog 66 #[.agg #[.string nm, .slice A 1 c, .int .i64 key, .slice U m cu, .slice R p cr, .string op, .int .i64 k, .int .i64 i, .string vs, .string s, .slice B q d], .string ⟨#[107]⟩] w fun e w' => e = .returned (.int .i64 0) ∧ Below w.heap.size w w' := by
  have HB0 : Hid (Below w.heap.size w ((w.alloc (.cells #[.string nm, .slice A 1 c, .int .i64 key, .slice U m cu, .slice R p cr, .string op, .int .i64 k, .int .i64 i, .string vs, .string s, .slice B q d] 31)).alloc (.cells #[.string ⟨#[107]⟩] 9))) := ((Below.refl _ _).alloc (Nat.le_refl _) _).alloc (by simp) _
  have HK := Lib.hid (index_plc A 1 c [kC] (fun y => y.n.toList == (⟨#[107]⟩ : ByteArray).toList) (w.heap.size + 1) ((w.alloc (.cells #[.string nm, .slice A 1 c, .int .i64 key, .slice U m cu, .slice R p cr, .string op, .int .i64 k, .int .i64 i, .string vs, .string s, .slice B q d] 31)).alloc (.cells #[.string ⟨#[107]⟩] 9)) (hc.below HB0.out) (fun y _ W hW => place1_any y ⟨#[107]⟩ (w.heap.size + 1) W ((hW.cell (p := ⟨w.heap.size + 1, 0, none⟩) (by simp)).trans (by simp [go_sem]))))
  rw [show idxP (fun y : Cl => y.n.toList == (⟨#[107]⟩ : ByteArray).toList) [kC] 0 = 0 by unfold idxP; rw [if_pos (by show ((⟨#[107]⟩ : ByteArray).toList == (⟨#[107]⟩ : ByteArray).toList) = true; simp)]] at HK
  clear hc
  go_enter Tryz.func66, Tryz.ntmps66
  go_wp2_with (go_at_call 56; refine HK.out.mono ?_; rintro e w1 ⟨rfl, hb1⟩; have HB1 : Hid (Below w.heap.size w w1) := HB0.out.trans (hb1.mono (by simp; omega)); clear hb1)
  go_ret
  exact ⟨rfl, HB1.out⟩
set_option maxRecDepth 100000 in
set_option maxHeartbeats 4000000 in
theorem placed1_k (nm : ByteArray) (A : Option Addr) (c : Nat) (key : Int) (U : Option Addr) (m cu : Nat) (R : Option Addr) (p cr : Nat) (op : ByteArray) (k i : Int) (vs s : ByteArray) (B : Option Addr) (q d : Nat) (b b2 : Nat) (w : World) (hb : TbAt w b nm A 1 c key U m cu R p cr op k i vs s B q d) (hc : ColS w A 1 [kC]) : Calls Tryz.prog 65 #[.string ⟨#[107]⟩, .pointer (some ⟨b, 0, none⟩), .pointer (some ⟨b2, 0, none⟩)] w fun e w' => e = .returned (.int .i64 0) ∧ Below w.heap.size w w' := by
  have hbl := hb.lt
  have c0 := hb.c0; have c1 := hb.c1; have c2 := hb.c2; have c3 := hb.c3; have c4 := hb.c4; have c5 := hb.c5; have c6 := hb.c6; have c7 := hb.c7; have c8 := hb.c8; have c9 := hb.c9; have c10 := hb.c10
  have HK := Lib.hid (tplace_k nm A c key U m cu R p cr op k i vs s B q d w hc)
  clear hb hc
  go_enter Tryz.func65, Tryz.ntmps65
  go_wp2_with (go_at_call 66; refine HK.out.mono ?_; rintro e w1 ⟨rfl, hb1⟩; have HB1 := Lib.hid hb1; clear hb1)
  go_ret
  exact ⟨rfl, HB1.out⟩
end Go.Proofs.YtchebhdndkaheaaGreatDoor

/- The chapter's example of layer 6: a copy of k < 5. -/
namespace Go.Proofs.YtchebhdndkaheaaGreatDoor
open Go.RowKit Go.Lib

structure Cps (w : World) (g c : Nat) (W : World) : Prop where
  below : Below w.heap.size w W
  ne0 : w.heap.size + 1 < g
  gl : g < W.heap.size
  kf : ∀ o, W.frozen? ⟨w.heap.size, o, none⟩ = false
  yf : ∀ o, W.frozen? ⟨w.heap.size + 1, o, none⟩ = false
  gf : ∀ o, W.frozen? ⟨g, o, none⟩ = false
  k0 : W.cell? ⟨w.heap.size, 0, none⟩ = some (.string ⟨#[60]⟩)
  y0 : W.cell? ⟨w.heap.size + 1, 0, none⟩ = some (.string ⟨#[]⟩)
  k1 : W.cell? ⟨w.heap.size, 1, none⟩ = some (.int .i64 0)
  y1 : W.cell? ⟨w.heap.size + 1, 1, none⟩ = some (.int .i64 0)
  k2 : W.cell? ⟨w.heap.size, 2, none⟩ = some (.int .i64 0)
  y2 : W.cell? ⟨w.heap.size + 1, 2, none⟩ = some (.int .i64 0)
  k3 : W.cell? ⟨w.heap.size, 3, none⟩ = some (.string ⟨#[]⟩)
  y3 : W.cell? ⟨w.heap.size + 1, 3, none⟩ = some (.string ⟨#[]⟩)
  k4 : W.cell? ⟨w.heap.size, 4, none⟩ = some (.string ⟨#[]⟩)
  y4 : W.cell? ⟨w.heap.size + 1, 4, none⟩ = some (.string ⟨#[]⟩)
  k5 : W.cell? ⟨w.heap.size, 5, none⟩ = some (.slice (some ⟨g, 0, none⟩) 2 c)
  y5 : W.cell? ⟨w.heap.size + 1, 5, none⟩ = some (.slice none 0 0)
  g0 : W.cell? ⟨g, 0, none⟩ = some (.string ⟨#[99, 111, 108]⟩)
  g1 : W.cell? ⟨g, 1, none⟩ = some (.int .i64 0)
  g2 : W.cell? ⟨g, 2, none⟩ = some (.int .i64 0)
  g3 : W.cell? ⟨g, 3, none⟩ = some (.string ⟨#[]⟩)
  g4 : W.cell? ⟨g, 4, none⟩ = some (.string ⟨#[107]⟩)
  g5 : W.cell? ⟨g, 5, none⟩ = some (.slice none 0 0)
  g6 : W.cell? ⟨g, 6, none⟩ = some (.string ⟨#[108, 105, 116]⟩)
  g7 : W.cell? ⟨g, 7, none⟩ = some (.int .i64 1)
  g8 : W.cell? ⟨g, 8, none⟩ = some (.int .i64 5)
  g9 : W.cell? ⟨g, 9, none⟩ = some (.string ⟨#[]⟩)
  g10 : W.cell? ⟨g, 10, none⟩ = some (.string ⟨#[]⟩)
  g11 : W.cell? ⟨g, 11, none⟩ = some (.slice none 0 0)

theorem Cps.later {w W W' : World} {g c : Nat} (h : Cps w g c W) (hb : Below W.heap.size W W') : Cps w g c W' := by
  have h1 := h.gl
  have h2 := h.ne0
  have h3 := hb.size
  exact ⟨h.below.trans (hb.mono h.below.size), h.ne0, by omega, fun o => (hb.frozen (p := ⟨_, o, none⟩) (by show w.heap.size < _; omega)).trans (h.kf o), fun o => (hb.frozen (p := ⟨_, o, none⟩) (by show w.heap.size + 1 < _; omega)).trans (h.yf o), fun o => (hb.frozen (p := ⟨_, o, none⟩) h1).trans (h.gf o),
    (hb.cell (p := ⟨_, _, none⟩) (by show w.heap.size < _; omega)).trans h.k0,
    (hb.cell (p := ⟨_, _, none⟩) (by show w.heap.size + 1 < _; omega)).trans h.y0,
    (hb.cell (p := ⟨_, _, none⟩) (by show w.heap.size < _; omega)).trans h.k1,
    (hb.cell (p := ⟨_, _, none⟩) (by show w.heap.size + 1 < _; omega)).trans h.y1,
    (hb.cell (p := ⟨_, _, none⟩) (by show w.heap.size < _; omega)).trans h.k2,
    (hb.cell (p := ⟨_, _, none⟩) (by show w.heap.size + 1 < _; omega)).trans h.y2,
    (hb.cell (p := ⟨_, _, none⟩) (by show w.heap.size < _; omega)).trans h.k3,
    (hb.cell (p := ⟨_, _, none⟩) (by show w.heap.size + 1 < _; omega)).trans h.y3,
    (hb.cell (p := ⟨_, _, none⟩) (by show w.heap.size < _; omega)).trans h.k4,
    (hb.cell (p := ⟨_, _, none⟩) (by show w.heap.size + 1 < _; omega)).trans h.y4,
    (hb.cell (p := ⟨_, _, none⟩) (by show w.heap.size < _; omega)).trans h.k5,
    (hb.cell (p := ⟨_, _, none⟩) (by show w.heap.size + 1 < _; omega)).trans h.y5,
    (hb.cell (p := ⟨_, _, none⟩) (by show g < _; omega)).trans h.g0,
    (hb.cell (p := ⟨_, _, none⟩) (by show g < _; omega)).trans h.g1,
    (hb.cell (p := ⟨_, _, none⟩) (by show g < _; omega)).trans h.g2,
    (hb.cell (p := ⟨_, _, none⟩) (by show g < _; omega)).trans h.g3,
    (hb.cell (p := ⟨_, _, none⟩) (by show g < _; omega)).trans h.g4,
    (hb.cell (p := ⟨_, _, none⟩) (by show g < _; omega)).trans h.g5,
    (hb.cell (p := ⟨_, _, none⟩) (by show g < _; omega)).trans h.g6,
    (hb.cell (p := ⟨_, _, none⟩) (by show g < _; omega)).trans h.g7,
    (hb.cell (p := ⟨_, _, none⟩) (by show g < _; omega)).trans h.g8,
    (hb.cell (p := ⟨_, _, none⟩) (by show g < _; omega)).trans h.g9,
    (hb.cell (p := ⟨_, _, none⟩) (by show g < _; omega)).trans h.g10,
    (hb.cell (p := ⟨_, _, none⟩) (by show g < _; omega)).trans h.g11⟩
/-- A store that changes nothing. -/
theorem Cps.set {w W : World} {g c : Nat} (h : Cps w g c W) (o : Nat) (v : Value) (hv : W.cell? ⟨g, o, none⟩ = some v) : Cps w g c (W.setCell ⟨g, o, none⟩ v) := by
  have hne := h.ne0
  have hsz : (W.setCell ⟨g, o, none⟩ v).heap.size = W.heap.size := by simp [go_sem]
  have hx : ∀ (x : Addr) (u : Value), W.cell? x = some u → (W.setCell ⟨g, o, none⟩ v).cell? x = some u := by
    intro x u hu
    by_cases e : x = ⟨g, o, none⟩
    · subst e
      rw [World.cell?_setCell_same _ _ _ hv, ← hv, hu]
    · rw [World.cell?_setCell_other _ _ _ _ (Ne.symm e), hu]
  refine ⟨h.below.setCell (by show w.heap.size ≤ g; omega) v, h.ne0, by rw [hsz]; exact h.gl, fun o' => by rw [World.frozen?_setCell]; exact h.kf o', fun o' => by rw [World.frozen?_setCell]; exact h.yf o', fun o' => by rw [World.frozen?_setCell]; exact h.gf o',
    hx _ _ h.k0,
    hx _ _ h.y0,
    hx _ _ h.k1,
    hx _ _ h.y1,
    hx _ _ h.k2,
    hx _ _ h.y2,
    hx _ _ h.k3,
    hx _ _ h.y3,
    hx _ _ h.k4,
    hx _ _ h.y4,
    hx _ _ h.k5,
    hx _ _ h.y5,
    hx _ _ h.g0,
    hx _ _ h.g1,
    hx _ _ h.g2,
    hx _ _ h.g3,
    hx _ _ h.g4,
    hx _ _ h.g5,
    hx _ _ h.g6,
    hx _ _ h.g7,
    hx _ _ h.g8,
    hx _ _ h.g9,
    hx _ _ h.g10,
    hx _ _ h.g11⟩
theorem Cps.start {w W : World} {g c cap : Nat} {a : Addr} (hb : Below w.heap.size w W) (EK : W.heap[w.heap.size]? = some (.cells #[.string ⟨#[60]⟩, .int .i64 0, .int .i64 0, .string ⟨#[]⟩, .string ⟨#[]⟩, .slice (some a) 2 cap] 29 (0, 0))) (EZ : W.heap[w.heap.size + 1]? = some (.cells #[.string ⟨#[]⟩, .int .i64 0, .int .i64 0, .string ⟨#[]⟩, .string ⟨#[]⟩, .slice none 0 0] 29 (0, 0))) (hg : w.heap.size + 1 < g) (cur : Array Value) (HG : W.heap[g]? = some (.cells cur 29 (0, 0)))
    (hc : ∀ j u, leCells[j]? = some u → W.cell? ⟨g, j, none⟩ = some u) : Cps w g c (W.setCell ⟨w.heap.size, 5, none⟩ (.slice (some ⟨g, 0, none⟩) 2 c)) := by
  have hsz : (W.setCell ⟨w.heap.size, 5, none⟩ (.slice (some ⟨g, 0, none⟩) 2 c)).heap.size = W.heap.size := by simp [go_sem]
  refine ⟨hb.setCell (Nat.le_refl _) _, hg, by rw [hsz]; exact lt_of_block HG, fun o => by rw [World.frozen?_setCell]; exact Lib.frozen_of_heap EK o, fun o => by rw [World.frozen?_setCell]; exact Lib.frozen_of_heap EZ o, fun o => by rw [World.frozen?_setCell]; exact Lib.frozen_of_heap HG o,
    (World.cell?_setCell_other _ _ _ _ (by simp)).trans (by rw [Lib.cell_of_heap EK 0]; rfl),
    (World.cell?_setCell_other _ _ _ _ (by simp)).trans (by rw [Lib.cell_of_heap EZ 0]; rfl),
    (World.cell?_setCell_other _ _ _ _ (by simp)).trans (by rw [Lib.cell_of_heap EK 1]; rfl),
    (World.cell?_setCell_other _ _ _ _ (by simp)).trans (by rw [Lib.cell_of_heap EZ 1]; rfl),
    (World.cell?_setCell_other _ _ _ _ (by simp)).trans (by rw [Lib.cell_of_heap EK 2]; rfl),
    (World.cell?_setCell_other _ _ _ _ (by simp)).trans (by rw [Lib.cell_of_heap EZ 2]; rfl),
    (World.cell?_setCell_other _ _ _ _ (by simp)).trans (by rw [Lib.cell_of_heap EK 3]; rfl),
    (World.cell?_setCell_other _ _ _ _ (by simp)).trans (by rw [Lib.cell_of_heap EZ 3]; rfl),
    (World.cell?_setCell_other _ _ _ _ (by simp)).trans (by rw [Lib.cell_of_heap EK 4]; rfl),
    (World.cell?_setCell_other _ _ _ _ (by simp)).trans (by rw [Lib.cell_of_heap EZ 4]; rfl),
    World.cell?_setCell_same _ _ _ (u := .slice (some a) 2 cap) (by rw [Lib.cell_of_heap EK 5]; rfl),
    (World.cell?_setCell_other _ _ _ _ (by simp)).trans (by rw [Lib.cell_of_heap EZ 5]; rfl),
    (World.cell?_setCell_other _ _ _ _ (by simp)).trans (hc 0 _ rfl),
    (World.cell?_setCell_other _ _ _ _ (by simp)).trans (hc 1 _ rfl),
    (World.cell?_setCell_other _ _ _ _ (by simp)).trans (hc 2 _ rfl),
    (World.cell?_setCell_other _ _ _ _ (by simp)).trans (hc 3 _ rfl),
    (World.cell?_setCell_other _ _ _ _ (by simp)).trans (hc 4 _ rfl),
    (World.cell?_setCell_other _ _ _ _ (by simp)).trans (hc 5 _ rfl),
    (World.cell?_setCell_other _ _ _ _ (by simp)).trans (hc 6 _ rfl),
    (World.cell?_setCell_other _ _ _ _ (by simp)).trans (hc 7 _ rfl),
    (World.cell?_setCell_other _ _ _ _ (by simp)).trans (hc 8 _ rfl),
    (World.cell?_setCell_other _ _ _ _ (by simp)).trans (hc 9 _ rfl),
    (World.cell?_setCell_other _ _ _ _ (by simp)).trans (hc 10 _ rfl),
    (World.cell?_setCell_other _ _ _ _ (by simp)).trans (hc 11 _ rfl)⟩
set_option maxRecDepth 100000 in
set_option maxHeartbeats 4000000 in
theorem copied_le (a : Addr) (cap : Nat) (w : World) (hc : ∀ j u, leCells[j]? = some u → w.cell? (a.add j) = some u) : Calls Tryz.prog 64 #[.agg #[.string ⟨#[60]⟩, .int .i64 0, .int .i64 0, .string ⟨#[]⟩, .string ⟨#[]⟩, .slice (some a) 2 cap]] w fun e w' => ∃ g c, e = .returned (.agg #[.string ⟨#[60]⟩, .int .i64 0, .int .i64 0, .string ⟨#[]⟩, .string ⟨#[]⟩, .slice (some ⟨g, 0, none⟩) 2 c]) ∧ w.heap.size ≤ g ∧ (∀ j u, leCells[j]? = some u → w'.cell? ⟨g, j, none⟩ = some u) ∧ Below w.heap.size w w' := by
  have hal := World.block_lt_of_cell? w _ (hc 0 _ rfl)
  rw [add_block] at hal
  have HB0 : Hid (Below w.heap.size w ((w.alloc (.cells #[.string ⟨#[60]⟩, .int .i64 0, .int .i64 0, .string ⟨#[]⟩, .string ⟨#[]⟩, .slice (some a) 2 cap] 29)).alloc (.cells #[.string ⟨#[]⟩, .int .i64 0, .int .i64 0, .string ⟨#[]⟩, .string ⟨#[]⟩, .slice none 0 0] 29))) := ((Below.refl _ _).alloc (Nat.le_refl _) _).alloc (by simp) _
  have HK := Lib.hid (xclone_le a cap ((w.alloc (.cells #[.string ⟨#[60]⟩, .int .i64 0, .int .i64 0, .string ⟨#[]⟩, .string ⟨#[]⟩, .slice (some a) 2 cap] 29)).alloc (.cells #[.string ⟨#[]⟩, .int .i64 0, .int .i64 0, .string ⟨#[]⟩, .string ⟨#[]⟩, .slice none 0 0] 29)) (fun j u h => (HB0.out.cell (by rw [add_block]; exact hal)).trans (hc j u h)))
  clear hc
  go_enter Tryz.func64, Tryz.ntmps64
  go_wp2_with (go_at_call 84; (with_reducible refine HK.out.mono ?_); rintro e w1 ⟨g, c, rfl, hg, hown, hb1⟩; have hy1 := hb1.size; (try simp at hy1); have hz1_0 : w.heap.size < w1.heap.size := (by omega); have hg' : w.heap.size + 1 < g := (by simp at hg; omega); have EK : w1.heap[w.heap.size]? = some (.cells #[.string ⟨#[60]⟩, .int .i64 0, .int .i64 0, .string ⟨#[]⟩, .string ⟨#[]⟩, .slice (some a) 2 cap] 29 (0, 0)) := (hb1.block w.heap.size (by simp; omega)).trans ((Below.heap_alloc _ _ _ (by simp)).trans (alloc_at rfl _)); have EZ : w1.heap[w.heap.size + 1]? = some (.cells #[.string ⟨#[]⟩, .int .i64 0, .int .i64 0, .string ⟨#[]⟩, .string ⟨#[]⟩, .slice none 0 0] 29 (0, 0)) := (hb1.block (w.heap.size + 1) (by simp)).trans (alloc_at (by simp) _); have HB1 : Hid (Below w.heap.size w w1) := HB0.out.trans (hb1.mono (by simp; omega)); have k5 := Lib.cell_of_heap EK 5; have kf := Lib.frozen_of_heap EK; simp only [List.getElem?_toArray, List.getElem?_cons_zero, List.getElem?_cons_succ] at k5; have HH := Lib.hid (And.intro hown (And.intro EK EZ)); clear hb1 hown EK EZ hg)
  have hown := HH.out.1
  have hcells : ∀ j u, leCells[j]? = some u → w1.cell? ⟨g, j, none⟩ = some u := fun j u h => (hown.cellAt j (by have := (List.getElem?_eq_some_iff.1 h).1; simpa [leCells] using this)).trans h
  rcases hown.2 with ⟨hv, _⟩ | ⟨g', cap', cur, hv, _, hgh, _⟩
  · cases hv
  obtain rfl : g = g' := by injection hv with hv _ _; injection hv with hv; injection hv
  refine wp_gen (Cps w g c) (Cps.start HB1.out HH.out.2.1 HH.out.2.2 hg' cur hgh hcells) fun w0 hw0 => ?_
  have HW := Lib.hid hw0
  clear hw0 hcells hown hv hgh k5 kf HH HB1 HK
  go_loopw [12] (fun iv wr => ∃ j : Nat, j ≤ 2 ∧ iv = .int .i64 j ∧ Hid (Cps w g c wr)) (fun iv _ => 2 - (intOf iv).toNat)
  case atStart => exact ⟨0, by omega, rfl, HW⟩
  case round =>
    obtain ⟨j, hj, rfl, HX⟩ := hrel
    have k0 := HX.out.k0; have y0 := HX.out.y0; have k1 := HX.out.k1; have y1 := HX.out.y1; have k2 := HX.out.k2; have y2 := HX.out.y2; have k3 := HX.out.k3; have y3 := HX.out.y3; have k4 := HX.out.k4; have y4 := HX.out.y4; have k5 := HX.out.k5; have y5 := HX.out.y5; have g0 := HX.out.g0; have g1 := HX.out.g1; have g2 := HX.out.g2; have g3 := HX.out.g3; have g4 := HX.out.g4; have g5 := HX.out.g5; have g6 := HX.out.g6; have g7 := HX.out.g7; have g8 := HX.out.g8; have g9 := HX.out.g9; have g10 := HX.out.g10; have g11 := HX.out.g11; have kf := HX.out.kf; have yf := HX.out.yf; have gf := HX.out.gf; have gl := HX.out.gl; have ne0 := HX.out.ne0
    rcases (show j = 0 ∨ j = 1 ∨ j = 2 by omega) with rfl | rfl | rfl
    · clear hj
      have HA : Hid (Below wr.heap.size wr (wr.alloc (.cells #[.string ⟨#[99, 111, 108]⟩, .int .i64 0, .int .i64 0, .string ⟨#[]⟩, .string ⟨#[107]⟩, .slice none 0 0] 29)).drew) := ((Below.refl _ _).alloc (Nat.le_refl _) _).drew
      go_upto_region 5 with (fail)
      refine detL_begin [.val (.pointer (some ⟨w.heap.size, 5, none⟩)), .val (.slice (some ⟨g, 0, none⟩) 2 c), .val (.int .i64 0), .val (.agg #[.string ⟨#[99, 111, 108]⟩, .int .i64 0, .int .i64 0, .string ⟨#[]⟩, .string ⟨#[107]⟩, .slice none 0 0]), .val (.agg #[.string ⟨#[99, 111, 108]⟩, .int .i64 0, .int .i64 0, .string ⟨#[]⟩, .string ⟨#[107]⟩, .slice none 0 0]), .val (.pointer (some ⟨g, 0, none⟩))] 6 (by kernel_rfl) ?_
      refine detL_val (by kernel_rfl) (yields_of rfl fun w1 hb1 => ?_) ?_
      · have hc1 := bcellD hb1
        clear hb1
        go_simp
        exact Det1_same
      simp only [Act.put, List.setIfInBounds_toArray, List.set_cons_zero, List.set_cons_succ]
      refine detL_val (by kernel_rfl) (yields_of rfl fun w1 hb1 => ?_) ?_
      · have hc1 := bcellD hb1
        have z5 := (HX.out.later (HA.out.trans (hb1.mono (by simp)))).k5
        have z6 := HX.out.k5
        clear hb1
        go_simp
        exact Det1_same
      simp only [Act.put, List.setIfInBounds_toArray, List.set_cons_zero, List.set_cons_succ]
      refine detL_val (by kernel_rfl) (yields_of rfl fun w1 hb1 => ?_) ?_
      · have hc1 := bcellD hb1
        clear hb1
        go_simp
        exact Det1_same
      simp only [Act.put, List.setIfInBounds_toArray, List.set_cons_zero, List.set_cons_succ]
      refine detL_val (by kernel_rfl) (yields_of rfl fun w1 hb1 => ?_) ?_
      · have hc1 := bcellD hb1
        clear hb1
        go_simp
        exact Det1_same
      simp only [Act.put, List.setIfInBounds_toArray, List.set_cons_zero, List.set_cons_succ]
      refine detL_val (by kernel_rfl) (yields_of rfl fun w1 hb1 => ?_) ?_
      · have hc1 := bcellD hb1
        clear hb1
        go_simp
        exact Det1_enter (copied_leaf _ _ _ _ _ _)
      simp only [Act.put, List.setIfInBounds_toArray, List.set_cons_zero, List.set_cons_succ]
      refine detL_val (by kernel_rfl) (yields_of rfl fun w1 hb1 => ?_) ?_
      · have hc1 := bcellD hb1
        clear hb1
        go_simp
        exact Det1_same
      simp only [Act.put, List.setIfInBounds_toArray, List.set_cons_zero, List.set_cons_succ]
      refine detL_tail rfl (by kernel_rfl) fun w1 hw1 => ?_
      have X0 : Cps w g c w1 := HX.out.later (HA.out.trans (hw1.below.mono (by simp)))
      have HX1 := Lib.hid X0
      clear hw1 X0
      clear k0 y0 k1 y1 k2 y2 k3 y3 k4 y4 k5 y5 g0 g1 g2 g3 g4 g5 g6 g7 g8 g9 g10 g11 kf yf gf gl
      have k0 := HX1.out.k0; have y0 := HX1.out.y0; have k1 := HX1.out.k1; have y1 := HX1.out.y1; have k2 := HX1.out.k2; have y2 := HX1.out.y2; have k3 := HX1.out.k3; have y3 := HX1.out.y3; have k4 := HX1.out.k4; have y4 := HX1.out.y4; have k5 := HX1.out.k5; have y5 := HX1.out.y5; have g0 := HX1.out.g0; have g1 := HX1.out.g1; have g2 := HX1.out.g2; have g3 := HX1.out.g3; have g4 := HX1.out.g4; have g5 := HX1.out.g5; have g6 := HX1.out.g6; have g7 := HX1.out.g7; have g8 := HX1.out.g8; have g9 := HX1.out.g9; have g10 := HX1.out.g10; have g11 := HX1.out.g11; have kf := HX1.out.kf; have yf := HX1.out.yf; have gf := HX1.out.gf; have gl := HX1.out.gl
      go_wp2_with (fail)
      have X0 := HX1.out
      clear k0 y0 k1 y1 k2 y2 k3 y3 k4 y4 k5 y5 g0 g1 g2 g3 g4 g5 g6 g7 g8 g9 g10 g11 kf yf gf gl
      have X1 := X0.set _ _ X0.g0
      have X2 := X1.set _ _ X1.g1
      have X3 := X2.set _ _ X2.g2
      have X4 := X3.set _ _ X3.g3
      have X5 := X4.set _ _ X4.g4
      have X6 := X5.set _ _ X5.g5
      have HX6 := Lib.hid X6
      clear X0 X1 X2 X3 X4 X5 X6
      go_roundw
      case rel => exact ⟨1, by omega, rfl, HX6⟩
      case measure => simp [intOf]
    · clear hj
      have HA : Hid (Below wr.heap.size wr (wr.alloc (.cells #[.string ⟨#[108, 105, 116]⟩, .int .i64 1, .int .i64 5, .string ⟨#[]⟩, .string ⟨#[]⟩, .slice none 0 0] 29)).drew) := ((Below.refl _ _).alloc (Nat.le_refl _) _).drew
      go_upto_region 5 with (fail)
      refine detL_begin [.val (.pointer (some ⟨w.heap.size, 5, none⟩)), .val (.slice (some ⟨g, 0, none⟩) 2 c), .val (.int .i64 1), .val (.agg #[.string ⟨#[108, 105, 116]⟩, .int .i64 1, .int .i64 5, .string ⟨#[]⟩, .string ⟨#[]⟩, .slice none 0 0]), .val (.agg #[.string ⟨#[108, 105, 116]⟩, .int .i64 1, .int .i64 5, .string ⟨#[]⟩, .string ⟨#[]⟩, .slice none 0 0]), .val (.pointer (some ⟨g, 6, none⟩))] 6 (by kernel_rfl) ?_
      refine detL_val (by kernel_rfl) (yields_of rfl fun w1 hb1 => ?_) ?_
      · have hc1 := bcellD hb1
        clear hb1
        go_simp
        exact Det1_same
      simp only [Act.put, List.setIfInBounds_toArray, List.set_cons_zero, List.set_cons_succ]
      refine detL_val (by kernel_rfl) (yields_of rfl fun w1 hb1 => ?_) ?_
      · have hc1 := bcellD hb1
        have z5 := (HX.out.later (HA.out.trans (hb1.mono (by simp)))).k5
        have z6 := HX.out.k5
        clear hb1
        go_simp
        exact Det1_same
      simp only [Act.put, List.setIfInBounds_toArray, List.set_cons_zero, List.set_cons_succ]
      refine detL_val (by kernel_rfl) (yields_of rfl fun w1 hb1 => ?_) ?_
      · have hc1 := bcellD hb1
        clear hb1
        go_simp
        exact Det1_same
      simp only [Act.put, List.setIfInBounds_toArray, List.set_cons_zero, List.set_cons_succ]
      refine detL_val (by kernel_rfl) (yields_of rfl fun w1 hb1 => ?_) ?_
      · have hc1 := bcellD hb1
        clear hb1
        go_simp
        exact Det1_same
      simp only [Act.put, List.setIfInBounds_toArray, List.set_cons_zero, List.set_cons_succ]
      refine detL_val (by kernel_rfl) (yields_of rfl fun w1 hb1 => ?_) ?_
      · have hc1 := bcellD hb1
        clear hb1
        go_simp
        exact Det1_enter (copied_leaf _ _ _ _ _ _)
      simp only [Act.put, List.setIfInBounds_toArray, List.set_cons_zero, List.set_cons_succ]
      refine detL_val (by kernel_rfl) (yields_of rfl fun w1 hb1 => ?_) ?_
      · have hc1 := bcellD hb1
        clear hb1
        go_simp
        exact Det1_same
      simp only [Act.put, List.setIfInBounds_toArray, List.set_cons_zero, List.set_cons_succ]
      refine detL_tail rfl (by kernel_rfl) fun w1 hw1 => ?_
      have X0 : Cps w g c w1 := HX.out.later (HA.out.trans (hw1.below.mono (by simp)))
      have HX1 := Lib.hid X0
      clear hw1 X0
      clear k0 y0 k1 y1 k2 y2 k3 y3 k4 y4 k5 y5 g0 g1 g2 g3 g4 g5 g6 g7 g8 g9 g10 g11 kf yf gf gl
      have k0 := HX1.out.k0; have y0 := HX1.out.y0; have k1 := HX1.out.k1; have y1 := HX1.out.y1; have k2 := HX1.out.k2; have y2 := HX1.out.y2; have k3 := HX1.out.k3; have y3 := HX1.out.y3; have k4 := HX1.out.k4; have y4 := HX1.out.y4; have k5 := HX1.out.k5; have y5 := HX1.out.y5; have g0 := HX1.out.g0; have g1 := HX1.out.g1; have g2 := HX1.out.g2; have g3 := HX1.out.g3; have g4 := HX1.out.g4; have g5 := HX1.out.g5; have g6 := HX1.out.g6; have g7 := HX1.out.g7; have g8 := HX1.out.g8; have g9 := HX1.out.g9; have g10 := HX1.out.g10; have g11 := HX1.out.g11; have kf := HX1.out.kf; have yf := HX1.out.yf; have gf := HX1.out.gf; have gl := HX1.out.gl
      go_wp2_with (fail)
      have X0 := HX1.out
      clear k0 y0 k1 y1 k2 y2 k3 y3 k4 y4 k5 y5 g0 g1 g2 g3 g4 g5 g6 g7 g8 g9 g10 g11 kf yf gf gl
      have X1 := X0.set _ _ X0.g6
      have X2 := X1.set _ _ X1.g7
      have X3 := X2.set _ _ X2.g8
      have X4 := X3.set _ _ X3.g9
      have X5 := X4.set _ _ X4.g10
      have X6 := X5.set _ _ X5.g11
      have HX6 := Lib.hid X6
      clear X0 X1 X2 X3 X4 X5 X6
      go_roundw
      case rel => exact ⟨2, by omega, rfl, HX6⟩
      case measure => simp [intOf]
    · clear hj
      go_wp2_with (fail)
      refine bodyPost_ret (v := .agg #[.string ⟨#[60]⟩, .int .i64 0, .int .i64 0, .string ⟨#[]⟩, .string ⟨#[]⟩, .slice (some ⟨g, 0, none⟩) 2 c]) (by simp [results, Tryz.results64, go_sem, *]; done) rfl ⟨g, c, rfl, by omega, ?_, ?_⟩
      · intro j u h
        have hz : w.heap.size + 1 ≠ g := by omega
        have : wr.cell? ⟨g, j, none⟩ = some u := by
          have hj : j < 12 := by have := (List.getElem?_eq_some_iff.1 h).1; simpa [leCells] using this
          match j, hj, h with
          | 0, _, h => simp [leCells] at h; rw [← h]; exact HX.out.g0
          | 1, _, h => simp [leCells] at h; rw [← h]; exact HX.out.g1
          | 2, _, h => simp [leCells] at h; rw [← h]; exact HX.out.g2
          | 3, _, h => simp [leCells] at h; rw [← h]; exact HX.out.g3
          | 4, _, h => simp [leCells] at h; rw [← h]; exact HX.out.g4
          | 5, _, h => simp [leCells] at h; rw [← h]; exact HX.out.g5
          | 6, _, h => simp [leCells] at h; rw [← h]; exact HX.out.g6
          | 7, _, h => simp [leCells] at h; rw [← h]; exact HX.out.g7
          | 8, _, h => simp [leCells] at h; rw [← h]; exact HX.out.g8
          | 9, _, h => simp [leCells] at h; rw [← h]; exact HX.out.g9
          | 10, _, h => simp [leCells] at h; rw [← h]; exact HX.out.g10
          | 11, _, h => simp [leCells] at h; rw [← h]; exact HX.out.g11
        iterate 6 rw [World.cell?_setCell_far _ _ _ _ (by simpa using hz)]
        exact this
      · exact cSet1 (by simp) (cSet1 (by simp) (cSet1 (by simp) (cSet1 (by simp) (cSet1 (by simp) (cSet1 (by simp) HX.out.below _ _) _ _) _ _) _ _) _ _) _ _
end Go.Proofs.YtchebhdndkaheaaGreatDoor

/- The chapter's example of layer 6: its table may be; what is wrong with the three rows. -/
namespace Go.Proofs.YtchebhdndkaheaaGreatDoor
open Go.RowKit Go.Lib

def kN : Cl := ⟨⟨#[107]⟩, 1, true⟩
theorem twice_k : twiceB [kC] = false := by kernel_rfl
theorem checked_k : checkedI [kC] leT = 0 := by kernel_rfl
theorem fits_null : fitsI 1 ⟨#[116]⟩ 0 [kN] [] [] leT 1 [⟨0, 0, ⟨#[]⟩⟩] = 8 := by kernel_rfl
theorem fits_5 : fitsI 1 ⟨#[116]⟩ 0 [kN] [] [] leT 1 [⟨1, 5, ⟨#[]⟩⟩] = 9 := by kernel_rfl
theorem fits_4 : fitsI 1 ⟨#[116]⟩ 0 [kN] [] [] leT 1 [⟨1, 4, ⟨#[]⟩⟩] = 0 := by kernel_rfl
end Go.Proofs.YtchebhdndkaheaaGreatDoor

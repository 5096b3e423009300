import Derived.Test.YtmgcmiflbjhakaaGreatDoorW15
import Derived.Test.YtmgcmiflbjhakaaGreatDoorW13
import Derived.LoopTactic

/- The type of the chapter's example: a + TRUE is none. -/
namespace Go.Proofs.YtmgcmiflbjhakaaGreatDoor
open Go.RowKit Go.Lib

theorem infoInt : (Tryz.prog.info? 3).map (fun i => (i.zero, i.size, i.bytes)) = some (some (.int .i64 0), 1, 8) := by kernel_rfl
set_option maxRecDepth 100000 in
set_option maxHeartbeats 1600000 in
theorem alike_11 (w : World) : Calls Tryz.prog 170 #[.int .i64 1, .int .i64 1] w fun e w' => e = .returned (.bool true) ∧ Below w.heap.size w w' := by
  go_enter Tryz.func170, Tryz.ntmps170
  go_wp2_with (fail)
  go_ret
  exact ⟨rfl, Below.refl _ _⟩
set_option maxRecDepth 100000 in
set_option maxHeartbeats 1600000 in
theorem all1_11 (b : Nat) (w : World) (hb : w.cell? ⟨b, 0, none⟩ = some (.int .i64 1)) : Calls Tryz.prog 221 #[.int .i64 1, .pointer (some ⟨b, 0, none⟩)] w fun e w' => e = .returned (.bool false) ∧ Below w.heap.size w w' := by
  go_enter Tryz.func221, Tryz.ntmps221
  go_wp2_with (go_at_call 170; refine (alike_11 _).mono ?_; rintro e w1 ⟨rfl, hb1⟩)
  go_ret
  exact ⟨rfl, hb1⟩
set_option maxRecDepth 100000 in
set_option maxHeartbeats 1600000 in
theorem alike_31 (w : World) : Calls Tryz.prog 170 #[.int .i64 3, .int .i64 1] w fun e w' => e = .returned (.bool false) ∧ Below w.heap.size w w' := by
  go_enter Tryz.func170, Tryz.ntmps170
  go_wp2_with (fail)
  go_ret
  exact ⟨rfl, Below.refl _ _⟩
set_option maxRecDepth 100000 in
set_option maxHeartbeats 1600000 in
theorem all1_31 (b : Nat) (w : World) (hb : w.cell? ⟨b, 0, none⟩ = some (.int .i64 1)) : Calls Tryz.prog 221 #[.int .i64 3, .pointer (some ⟨b, 0, none⟩)] w fun e w' => e = .returned (.bool true) ∧ Below w.heap.size w w' := by
  go_enter Tryz.func221, Tryz.ntmps221
  go_wp2_with (go_at_call 170; refine (alike_31 _).mono ?_; rintro e w1 ⟨rfl, hb1⟩)
  go_ret
  exact ⟨rfl, hb1⟩

set_option maxRecDepth 100000 in
set_option maxHeartbeats 4000000 in
theorem indexI_any (g c b : Nat) (w : World) (h0 : w.cell? ⟨g, 0, none⟩ = some (.int .i64 1)) (h1 : w.cell? ⟨g, 1, none⟩ = some (.int .i64 3)) (hb : w.cell? ⟨b, 0, none⟩ = some (.int .i64 1)) :
    Calls Tryz.prog 253 #[.slice (some ⟨g, 0, none⟩) 2 c, .func (.func 221) #[] #[.pointer (some ⟨b, 0, none⟩)]] w fun e w' => e = .returned (.int .i64 1) ∧ Below w.heap.size w w' := by
  have hgl := World.block_lt_of_cell? w _ h0
  have hbl := World.block_lt_of_cell? w _ hb
  have HB := Lib.hid (And.intro h0 (And.intro h1 hb))
  clear h0 h1 hb
  go_enter Tryz.func253, Tryz.ntmps253
  go_wp2_with (fail)
  go_loopw [8] (fun i wr => ∃ j : Nat, i = .int .i64 j ∧ j < 2 ∧ Below w.heap.size w wr) (fun i _ => 2 - (intOf i).toNat)
  case atStart => exact ⟨0, rfl, by omega, Below.refl _ _⟩
  case round =>
    obtain ⟨j, rfl, hj, hbw⟩ := hrel
    have hbs := hbw.size
    have c0 : wr.cell? ⟨g, 0, none⟩ = some (.int .i64 1) := (hbw.cell (p := ⟨g, 0, none⟩) hgl).trans HB.out.1
    have c1 : wr.cell? ⟨g, 1, none⟩ = some (.int .i64 3) := (hbw.cell (p := ⟨g, 1, none⟩) hgl).trans HB.out.2.1
    have cb : Hid (wr.cell? ⟨b, 0, none⟩ = some (.int .i64 1)) := (hbw.cell (p := ⟨b, 0, none⟩) hbl).trans HB.out.2.2
    have hj2 : j = 0 ∨ j = 1 := by omega
    clear hj
    rcases hj2 with rfl | rfl
    · go_wp2_with (go_at_call 221; refine (all1_11 b _ cb.out).mono ?_; rintro e w2 ⟨rfl, hb2⟩; have HB2 := Lib.hid hb2; clear hb2)
      go_roundw
      case rel => exact ⟨1, rfl, by omega, hbw.trans (HB2.out.mono hbs)⟩
      case measure => simp [intOf]
    · go_wp2_with (go_at_call 221; refine (all1_31 b _ cb.out).mono ?_; rintro e w2 ⟨rfl, hb2⟩; have HB2 := Lib.hid hb2; clear hb2)
      go_ret
      exact ⟨rfl, hbw.trans (HB2.out.mono hbs)⟩

set_option maxRecDepth 100000 in
set_option maxHeartbeats 1600000 in
theorem containsI_any (g c b : Nat) (w : World) (h0 : w.cell? ⟨g, 0, none⟩ = some (.int .i64 1)) (h1 : w.cell? ⟨g, 1, none⟩ = some (.int .i64 3)) (hb : w.cell? ⟨b, 0, none⟩ = some (.int .i64 1)) :
    Calls Tryz.prog 220 #[.slice (some ⟨g, 0, none⟩) 2 c, .func (.func 221) #[] #[.pointer (some ⟨b, 0, none⟩)]] w fun e w' => e = .returned (.bool true) ∧ Below w.heap.size w w' := by
  have HB := Lib.hid (And.intro h0 (And.intro h1 hb))
  clear h0 h1 hb
  go_enter Tryz.func220, Tryz.ntmps220
  go_wp2_with (go_at_call 253; refine (indexI_any g c b _ HB.out.1 HB.out.2.1 HB.out.2.2).mono ?_; rintro e w1 ⟨rfl, hb1⟩)
  go_ret
  exact ⟨rfl, hb1⟩

set_option maxRecDepth 100000 in
set_option maxHeartbeats 1600000 in
theorem all_13 (g c : Nat) (w : World) (h0 : w.cell? ⟨g, 0, none⟩ = some (.int .i64 1)) (h1 : w.cell? ⟨g, 1, none⟩ = some (.int .i64 3)) :
    Calls Tryz.prog 169 #[.slice (some ⟨g, 0, none⟩) 2 c, .int .i64 1] w fun e w' => e = .returned (.bool false) ∧ Below w.heap.size w w' := by
  have hgl := World.block_lt_of_cell? w _ h0
  have HB := Lib.hid (And.intro h0 h1)
  clear h0 h1
  go_enter Tryz.func169, Tryz.ntmps169
  go_wp2_with (go_at_call 220; refine (containsI_any g c _ _ ((((Below.refl w.heap.size w).alloc (Nat.le_refl _) _).cell (p := ⟨g, 0, none⟩) hgl).trans HB.out.1) ((((Below.refl w.heap.size w).alloc (Nat.le_refl _) _).cell (p := ⟨g, 1, none⟩) hgl).trans HB.out.2) (by simp [go_sem])).mono ?_; rintro e w1 ⟨rfl, hb1⟩)
  go_ret
  exact ⟨rfl, ((Below.refl _ _).alloc (Nat.le_refl _) _).trans (hb1.mono (by simp))⟩

set_option maxRecDepth 100000 in
set_option maxHeartbeats 1600000 in
theorem made_13 (g c : Nat) (w : World) (h0 : w.cell? ⟨g, 0, none⟩ = some (.int .i64 1)) (h1 : w.cell? ⟨g, 1, none⟩ = some (.int .i64 3)) :
    Calls Tryz.prog 96 #[.string ⟨#[43]⟩, .slice (some ⟨g, 0, none⟩) 2 c] w fun e w' => e = .returned (.tuple #[.int .i64 0, .int .i64 5]) ∧ Below w.heap.size w w' := by
  have HB := Lib.hid (And.intro h0 h1)
  clear h0 h1
  go_enter Tryz.func96, Tryz.ntmps96
  go_wp2_with (go_at_call 169; refine (all_13 g c _ HB.out.1 HB.out.2).mono ?_; rintro e w1 ⟨rfl, hb1⟩)
  go_ret2
  exact ⟨rfl, hb1⟩

set_option maxRecDepth 100000 in
set_option maxHeartbeats 1600000 in
theorem typ_lit (k i : Int) (vs s : ByteArray) (B : Option Addr) (q d : Nat) (A : Option Addr) (n c : Nat) (w : World) :
    Calls Tryz.prog 51 #[.agg #[.string ⟨#[108, 105, 116]⟩, .int .i64 k, .int .i64 i, .string vs, .string s, .slice B q d], .slice A n c] w fun e w' => e = .returned (.tuple #[.int .i64 k, .int .i64 0]) ∧ Below w.heap.size w w' := by
  go_enter Tryz.func51, Tryz.ntmps51
  go_wp2_with (fail)
  go_ret2
  exact ⟨rfl, (Below.refl _ _).alloc (Nat.le_refl _) _⟩

set_option maxRecDepth 100000 in
set_option maxHeartbeats 1600000 in
theorem typ_col (k i : Int) (vs s : ByteArray) (B : Option Addr) (q d : Nat) (a : Addr) (c : Nat) (y : Cl) (w : World) (hc : ColS w (some a) 1 [y]) (hn : (y.n.toList == s.toList) = true) :
    Calls Tryz.prog 51 #[.agg #[.string ⟨#[99, 111, 108]⟩, .int .i64 k, .int .i64 i, .string vs, .string s, .slice B q d], .slice (some a) 1 c] w fun e w' => e = .returned (.tuple #[.int .i64 y.t, .int .i64 0]) ∧ Below w.heap.size w w' := by
  have HC := Lib.hid hc
  have HN : Hid (plF s [y] 0 = 0) := by show _ = _; unfold plF; rw [if_pos hn]
  obtain ⟨a', ea, hA⟩ := hc.2.2 0 (by simp)
  have hA : ClAt w a y := by
    injection ea with ea
    subst ea
    have e : a.add (0 * 3) = a := by unfold Addr.add; simp
    rw [e] at hA
    exact hA
  have HA := Lib.hid hA
  have hal := hA.lt
  clear hc hn ea hA
  go_enter Tryz.func51, Tryz.ntmps51
  go_wp2_with (go_at_call 95; refine (place_any (some a) 1 c [y] s _ (HC.out.below ((Below.refl _ _).alloc (Nat.le_refl _) _))).mono ?_; rintro e w1 ⟨rfl, hb1⟩; rw [HN.out]; have HB1 : Hid (Below w.heap.size w w1) := ((Below.refl _ _).alloc (Nat.le_refl _) _).trans (hb1.mono (by simp)); have HA1 := HA.out.keep (HB1.out.block _ hal); have c0 := HA1.c0; have c1 := HA1.c1; clear HA1 hb1)
  go_ret2
  exact ⟨rfl, HB1.out⟩

structure Boxt (w : World) (op : ByteArray) (W : World) : Prop where
  below : Below w.heap.size w W
  e0 : W.cell? ⟨w.heap.size, 0, none⟩ = some (.string op)
theorem Boxt.lt {w W : World} {op : ByteArray} (h : Boxt w op W) : w.heap.size < W.heap.size := World.block_lt_of_cell? _ _ h.e0
theorem Boxt.later {w W W' : World} {op : ByteArray} (h : Boxt w op W) (hb : Below W.heap.size W W') : Boxt w op W' :=
  ⟨h.below.trans (hb.mono h.below.size), (hb.cell (p := ⟨_, _, none⟩) h.lt).trans h.e0⟩

set_option maxRecDepth 100000 in
set_option maxHeartbeats 4000000 in
theorem typ_parts (op : ByteArray) (k i : Int) (vs s : ByteArray) (B : Option Addr) (p d : Nat) (hp : p ≤ 1000) (hp1 : 1 ≤ p) (l : List Ex) (ty : Ex → Int) (ra rb : Int) (A : Option Addr) (n c : Nat) (P : Nat → Prop) (M : Nat) (w : World)
    (h1 : (op.toList == [108, 105, 116]) = false) (h2 : (op.toList == [99, 111, 108]) = false) (hS : Sl w P M l (.slice B p d)) (hl : l.length = p)
    (hrec : ∀ (t : Ex) (u : Value) (M : Nat) (W : World), t ∈ l → Tr W P M t u → Below w.heap.size w W → Calls Tryz.prog 51 #[EVt t u, .slice A n c] W fun e w' => e = .returned (.tuple #[.int .i64 (ty t), .int .i64 0]) ∧ Below W.heap.size W w')
    (hdo : ∀ (g cap : Nat) (W : World), W.ownsRow w.heap.size 3 1 (.slice (some ⟨g, 0, none⟩) p cap) p (l.map fun t => .int .i64 (ty t)) → Calls Tryz.prog 96 #[.string op, .slice (some ⟨g, 0, none⟩) p cap] W fun e w' => e = .returned (.tuple #[.int .i64 ra, .int .i64 rb]) ∧ Below W.heap.size W w') :
    Calls Tryz.prog 51 #[.agg #[.string op, .int .i64 k, .int .i64 i, .string vs, .string s, .slice B p d], .slice A n c] w fun e w' => e = .returned (.tuple #[.int .i64 ra, .int .i64 rb]) ∧ Below w.heap.size w w' := by
  obtain ⟨i0, hi, hz0, hz1, hz2⟩ := info_parts infoInt
  have HS := Lib.hid hS
  have HL := Lib.hid hl
  have HR := Lib.hid hrec
  have HO := Lib.hid hdo
  clear hS hl hrec hdo
  go_enter Tryz.func51, Tryz.ntmps51
  go_wp2_with (fail)
  refine wp_gen (Boxt w op) ⟨(Below.refl _ _).alloc (Nat.le_refl _) _, by simp [go_sem]⟩ fun w0 hw0 => ?_
  have HW := Lib.hid hw0
  have hwl := hw0.lt
  clear hw0
  go_loopw [7, 35] (fun v iv wr => ∃ j : Nat, j ≤ p ∧ iv = .int .i64 j ∧ Below w0.heap.size w0 wr ∧ wr.ownsRow w0.heap.size 3 1 v j ((l.take j).map fun t => .int .i64 (ty t))) (fun _ iv _ => p - (intOf iv).toNat)
  case atStart => exact ⟨0, by omega, rfl, Below.refl _ _, World.ownsRow_nil _ _ _ _⟩
  case round =>
    obtain ⟨j, hj, rfl, hb, hown⟩ := hrel
    have hbs := hb.size
    have HX := Lib.hid (HW.out.later hb)
    have e3 := HX.out.e0
    have hzz0 : w.heap.size < wr.heap.size := by omega
    by_cases hlt : j < p
    · have hjl : j < l.length := by rw [HL.out]; exact hlt
      obtain ⟨a, u', M', hBa, hPa, hE, hTr, _⟩ := HS.out.at_ hjl
      obtain ⟨A2, cap', hu, _⟩ := hTr.form
      obtain ⟨n', hn'⟩ : ∃ n', n' = l[j].l.length := ⟨_, rfl⟩
      rw [← hn'] at hu
      clear hn'
      subst hu hBa
      have hE' := hE.keep (HX.out.below.block _ hE.lt)
      have HT' := Lib.hid (hTr.below HX.out.below)
      have HMem := Lib.hid (List.getElem_mem hjl)
      have HTk : Hid (((l.take (j + 1)).map fun t => Value.int .i64 (ty t)) = ((l.take j).map fun t => Value.int .i64 (ty t)) ++ [.int .i64 (ty l[j])]) := by rw [take_snoc' (List.getElem?_eq_getElem hjl), List.map_append]; rfl
      have c0 := hE'.c0
      have c1 := hE'.c1
      have c2 := hE'.c2
      have c3 := hE'.c3
      have c4 := hE'.c4
      have c5 := hE'.c5
      clear hE hE' hTr
      generalize l[j] = y at c0 c1 c2 c3 c4 c5 HT' HMem HTk
      go_wp2_with (first
        | (go_at_call 51; refine (HR.out y _ M' _ HMem.out (HT'.out.below ((Below.refl _ _).alloc (Nat.le_refl _) _)) ((HX.out.below).alloc (HX.out.below.size) _)).mono ?_; rintro e w1 ⟨rfl, hb1⟩; have hown1 := (World.ownsRow.alloc hown _).kept (row := none) ⟨hb1.os, hb1.tape, hb1.output, hb1.size, fun q hq _ => hb1.block q hq⟩ (by cases h : Value.ownBlock _ with | none => exact .inl rfl | some _ => exact .inr (by simp)); have HB1 : Hid (Below w0.heap.size w0 w1) := (hb.alloc hbs _).trans (hb1.mono (by simp; omega)); have hs1 := hb1.size; (try simp at hs1); clear hb1 hown)
        | (at_builtin; refine wpList_append_own _ rfl _ _ 116 rfl w0.heap.size 3 i0 (.int .i64 0) 1 8 Tryz.underlying116 hi hz0 hz1 hz2 rfl (by decide) _ _ _ rfl (World.ownsRow.alloc hown1 _) ⟨w1.heap.size, 0, none⟩ 1 1 [.int .i64 (ty y)] rfl rfl ?c1 ?c2 ?c3 ?c4 ?c5 ?_))
      case c1 =>
        intro q u hq
        match q with
        | 0 => simp at hq; subst hq; simp [Addr.add, go_sem]
        | q + 1 => simp at hq
      case c2 => intro u hu; simp at hu; subst hu; rfl
      case c3 => unfold maxLen; omega
      case c4 => omega
      case c5 => simp; omega
      intro v' w2 hown' hgrow _
      have hs := HB1.out.size
      have hb2 : Below w0.heap.size w0 w2 := (HB1.out.alloc (by omega) _).grown hgrow (by simp; omega) fun g hg' => (hown1.lt g hg').1
      have hown2 : w2.ownsRow w0.heap.size 3 1 v' (j + 1) ((l.take (j + 1)).map fun t => .int .i64 (ty t)) := by
        rw [HTk.out]
        first | exact hown' | (rw [List.map_take]; exact hown')
      have HO2 := Lib.hid hown2
      clear hown' hown1 hown2 hgrow
      go_wp2_with (fail)
      go_roundw
      case rel => exact ⟨j + 1, by omega, by go_num, hb2, HO2.out⟩
      case measure => simp [intOf]; omega
    · obtain rfl : p = j := by omega
      have hall : l.take p = l := List.take_of_length_le (by rw [HL.out]; exact Nat.le_refl _)
      rw [hall] at hown
      have HOw : Hid (wr.ownsRow w.heap.size 3 1 _ p (l.map fun t => .int .i64 (ty t))) := own_mono hown HW.out.below.size
      clear hall
      rcases hown.2 with ⟨_, h0⟩ | ⟨g, cap, cur, rfl, _, _, _, _, _, _⟩
      · omega
      clear hown
      go_wp2_with (go_at_call 96; refine (HO.out g cap wr HOw.out).mono ?_; rintro e w1 ⟨rfl, hb1⟩; have HB1 := Lib.hid hb1; clear hb1)
      go_ret2
      exact ⟨rfl, HX.out.below.trans (HB1.out.mono (HX.out.below.size))⟩

/-- The chapter's third example: a column of numbers and TRUE have no sum. -/
theorem typ_aw (P : Nat → Prop) (M : Nat) (t1 t2 : Ex) (B : Option Addr) (d : Nat) (a : Addr) (c : Nat) (y : Cl) (w : World) (hS : Sl w P M [t1, t2] (.slice B 2 d)) (hc : ColS w (some a) 1 [y]) (h1 : t1.op = ⟨#[99, 111, 108]⟩) (h2 : t2.op = ⟨#[108, 105, 116]⟩) (hn : (y.n.toList == t1.s.toList) = true) (hy : y.t = 1) (hk : t2.x.k = 3) :
    Calls Tryz.prog 51 #[.agg #[.string ⟨#[43]⟩, .int .i64 0, .int .i64 0, .string ⟨#[]⟩, .string ⟨#[]⟩, .slice B 2 d], .slice (some a) 1 c] w fun e w' => e = .returned (.tuple #[.int .i64 0, .int .i64 5]) ∧ Below w.heap.size w w' := by
  refine typ_parts ⟨#[43]⟩ 0 0 _ _ B 2 d (by omega) (by omega) [t1, t2] (fun t => if t.op = ⟨#[99, 111, 108]⟩ then 1 else 3) 0 5 (some a) 1 c P M w (by rw [toList_data]; decide) (by rw [toList_data]; decide) hS rfl (fun t u M W ht hT hb => ?_) (fun g cap W hown => ?_)
  · obtain ⟨C, q, rfl, _⟩ := hT.form
    simp only [List.mem_cons, List.not_mem_nil, or_false] at ht
    rcases ht with rfl | rfl
    · rw [if_pos h1]
      unfold EVt
      rw [h1, ← hy]
      exact typ_col _ _ _ _ _ _ _ a c y W (hc.below hb) hn
    · rw [if_neg (by rw [h2]; decide), ← hk]
      unfold EVt
      rw [h2]
      exact typ_lit _ _ _ _ _ _ _ _ _ _ W
  · have e : [t1, t2].map (fun t => Value.int .i64 (if t.op = ⟨#[99, 111, 108]⟩ then 1 else 3)) = [.int .i64 1, .int .i64 3] := by
      show [_, _] = _
      dsimp only
      rw [if_pos h1, if_neg (by rw [h2]; decide)]
    rw [e] at hown
    refine made_13 g cap W ?_ ?_
    · exact hown.cellAt 0 (by omega)
    · exact hown.cellAt 1 (by omega)
end Go.Proofs.YtmgcmiflbjhakaaGreatDoor

/- Which expressions may be, plain; names are no values. -/
namespace Go.Proofs.YtmgcmiflbjhakaaGreatDoor
open Go.RowKit Go.Lib

theorem within_leaf {d : Nat} {t : Ex} {m : Int} (hf : fmT t = true) (hl : t.l = []) (hm : 1 ≤ m) : withinF (d + 1) t m = (true, m - 1) := by
  conv => lhs; unfold withinF
  rw [if_neg (by omega), if_pos hf, hl]
  rfl
theorem within_no {d : Nat} {t : Ex} {m : Int} (hf : fmT t = false) : withinF (d + 1) t m = (false, m - 1) := by
  conv => lhs; unfold withinF
  split
  · rfl
  · rw [if_neg (by rw [hf]; decide)]
theorem within_one {d : Nat} {op : ByteArray} {x : Ex} {m m1 : Int} {b : Bool} (hf : fmT (oneT op x) = true) (hm : 1 ≤ m) (h1 : withinF d x (m - 1) = (b, m1)) : withinF (d + 1) (oneT op x) m = (b, m1) := by
  conv => lhs; unfold withinF
  rw [if_neg (by omega), if_pos hf]
  show partsF (withinF d) [x] (m - 1) = _
  unfold partsF
  rw [h1]
  cases b <;> rfl
theorem within_two {d : Nat} {op : ByteArray} {x y : Ex} {m m1 m2 : Int} (hf : fmT (twoT op x y) = true) (hm : 1 ≤ m) (h1 : withinF d x (m - 1) = (true, m1)) (h2 : withinF d y m1 = (true, m2)) : withinF (d + 1) (twoT op x y) m = (true, m2) := by
  conv => lhs; unfold withinF
  rw [if_neg (by omega), if_pos hf]
  show partsF (withinF d) [x, y] (m - 1) = _
  unfold partsF
  rw [h1, if_pos rfl]
  show partsF (withinF d) [y] m1 = _
  unfold partsF
  rw [h2]
  rfl
theorem nil_l : (⟨#[]⟩ : ByteArray).toList = [] := nilBytes
theorem zero_v : zeroB 0 0 ⟨#[]⟩ = true := by unfold zeroB nilB; rw [nil_l]; rfl
theorem fm_litT (x : Vl) (h : mayB x.k x.i x.s = true) : fmT (litT x) = true := by
  unfold fmT
  show fmB ⟨#[108, 105, 116]⟩ x.k x.i x.s ⟨#[]⟩ 0 = true
  rw [fm_lit (by rw [toList_data])]
  unfold fmLit nilB
  rw [h, nil_l]
  rfl
theorem fm_colT (s : ByteArray) : fmT (colT s) = (nameB s && !resB s) := by
  unfold fmT
  show fmB ⟨#[99, 111, 108]⟩ 0 0 ⟨#[]⟩ s 0 = _
  rw [fm_col (by rw [toList_data])]
  unfold fmCol
  rw [zero_v]
  simp
theorem fm_notT (x : Ex) : fmT (oneT ⟨#[110, 111, 116]⟩ x) = true := by
  unfold fmT
  show fmB ⟨#[110, 111, 116]⟩ 0 0 ⟨#[]⟩ ⟨#[]⟩ 1 = true
  rw [fm_one (.inl (by rw [toList_data]))]
  unfold fmOne nilB
  rw [zero_v, nil_l]
  rfl
theorem fm_nullT (x : Ex) : fmT (oneT ⟨#[110, 117, 108, 108]⟩ x) = true := by
  unfold fmT
  show fmB ⟨#[110, 117, 108, 108]⟩ 0 0 ⟨#[]⟩ ⟨#[]⟩ 1 = true
  rw [fm_one (.inr (by rw [toList_data]))]
  unfold fmOne nilB
  rw [zero_v, nil_l]
  rfl
theorem fm_two {op : ByteArray} {k i : Int} {vs s : ByteArray} {n : Nat} (h : op.toList ∈ [[97, 110, 100], [111, 114], [61], [60], [43], [45]]) : fmB op k i vs s n = fmTwo k i vs s n := by
  simp only [List.mem_cons, List.not_mem_nil, or_false] at h
  rcases h with h | h | h | h | h | h <;> simp [fmB, h]
theorem fm_twoT (op : ByteArray) (x y : Ex) (h : op.toList ∈ [[97, 110, 100], [111, 114], [61], [60], [43], [45]]) : fmT (twoT op x y) = true := by
  unfold fmT
  show fmB op 0 0 ⟨#[]⟩ ⟨#[]⟩ 2 = true
  rw [fm_two h]
  unfold fmTwo nilB
  rw [zero_v, nil_l]
  rfl
theorem fm_zT : fmT zT = false := by
  unfold fmT
  show fmB ⟨#[]⟩ 0 0 ⟨#[]⟩ ⟨#[]⟩ 0 = false
  simp [fmB, nil_l]
theorem may_col (s : ByteArray) : mayT (colT s) = (nameB s && !resB s) := by
  unfold mayT
  cases h : nameB s && !resB s with
  | true => rw [within_leaf (by rw [fm_colT, h]) rfl (by omega)]
  | false => rw [within_no (by rw [fm_colT, h])]
theorem may_notz : mayT (oneT ⟨#[110, 111, 116]⟩ zT) = false := by
  unfold mayT
  rw [within_one (fm_notT _) (by omega) (within_no (d := 10) fm_zT)]

/-- No name is a value's text, but three. -/
theorem name_no {s : ByteArray} (h : nameB s = true) (h1 : s.data.toList ≠ [84, 82, 85, 69]) (h2 : s.data.toList ≠ [70, 65, 76, 83, 69]) (h3 : s.data.toList ≠ [78, 85, 76, 76]) (k i : Int) (S : ByteArray) (_ : In64 i) (hm : mayB k i S = true) : txtO k i S ≠ s.data.toList := by
  unfold nameB at h
  rw [kmay_is (p := letB) (q := parB) (fun _ h => let_par h)] at h
  generalize s.data.toList = l at h h1 h2 h3
  cases l with
  | nil => simp at h
  | cons c r =>
    have hc : letB c = true := by
      simp at h
      exact h.2.2
    have hr : (97 ≤ c.toNat ∧ c.toNat ≤ 122) ∨ (65 ≤ c.toNat ∧ c.toNat ≤ 90) := by simpa [letB] using hc
    intro e
    cases four k i S hm with
    | null _ _ _ ht => exact h3 (e.symm.trans ht)
    | num _ _ ht => exact itoa_no (by rintro rfl; simp at hr) (by omega) (ht.symm.trans e)
    | text _ _ _ _ ht =>
      have := ht.symm.trans e
      injection this with h0 _
      subst h0
      simp at hr
    | no _ _ _ ht => exact h2 (e.symm.trans ht)
    | yes _ _ _ ht => exact h1 (e.symm.trans ht)

theorem isz (x : ByteArray) : isB ⟨0, ⟨#[]⟩⟩ x = false := by simp [isB]
theorem nx_last {x : List Tn} {n : Nat} (h : n = x.length) (f : Bool) : Nx x n f ⟨0, ⟨#[]⟩⟩ := by
  cases f with
  | true => exact .inl ⟨rfl, rfl⟩
  | false => exact .inr (.inl ⟨rfl, h, rfl⟩)
theorem nx_failed {x : List Tn} {n : Nat} : Nx x n true ⟨0, ⟨#[]⟩⟩ := .inl ⟨rfl, rfl⟩
theorem nx_at {x : List Tn} {n : Nat} {t : Tn} (h : x[n]? = some t) (hm : tmayB t.k t.s = true) (hs : t.s.size ≤ 100000) : Nx x n false t := .inr (.inr ⟨rfl, h, hm, hs⟩)

/-- One token that begins an expression, and nothing behind. -/
theorem run_one (A : Option Addr) (c : Nat) (s : ByteArray) (t : Ex) (f2 : Bool) (hs : s.size ≤ 100000) (hm : tmayB 1 s = true) (h1 : isB ⟨1, s⟩ ⟨#[78, 79, 84]⟩ = false) (h2 : isB ⟨1, s⟩ ⟨#[40]⟩ = false) (h3 : isB ⟨1, s⟩ ⟨#[45]⟩ = false)
    (hw : ∀ g W, Pz W g A c [⟨1, s⟩] 1 0 false → Calls Tryz.prog 228 #[.pointer (some ⟨g, 0, none⟩), .string s] W (Res W g A c [⟨1, s⟩] 0 (fun _ => False) t 1 0 f2)) (g : Nat) (W : World) (hz : Pz W g A c [⟨1, s⟩] 0 0 false) :
    Calls Tryz.prog 42 #[.pointer (some ⟨g, 0, none⟩)] W (Res W g A c [⟨1, s⟩] 0 (fun _ => False) t 1 0 f2) := by
  have hx : Nx [⟨1, s⟩] 0 false ⟨1, s⟩ := nx_at rfl hm hs
  have hx1 : Nx [⟨1, s⟩] 1 f2 ⟨0, ⟨#[]⟩⟩ := nx_last rfl f2
  refine por_any (N := 0) g A c [⟨1, s⟩] 0 0 false t t 1 1 f2 f2 W hz (fun W hz => ?_) (fun Q W u _ hz ht => orFrom_n g A c [⟨1, s⟩] 1 0 f2 _ Q t u W hz (by simp) hx1 ht (isz _) (isz _))
  refine pnot_any (N := 0) g A c [⟨1, s⟩] 0 0 false ⟨1, s⟩ t t 1 1 f2 f2 W hz (by simp) hx h1 (fun W hz => ?_) (fun Q W u _ hz ht => cmpFrom_n g A c [⟨1, s⟩] 1 0 f2 _ Q t u W hz (by simp) hx1 ht (isz _) (isz _) (isz _) (isz _) (isz _))
  refine atom_plain g A c [⟨1, s⟩] 0 0 false ⟨1, s⟩ t 1 f2 W hz (by simp) hx h2 (fun W hz => ?_)
  exact plain_word g A c [⟨1, s⟩] 0 0 false s t 1 f2 W hz (by simp) (by omega) hx h3 hs (fun W hz => hw g W hz)

/-- NOT alone. -/
theorem run_not (A : Option Addr) (c : Nat) (g : Nat) (W : World) (hz : Pz W g A c [⟨1, ⟨#[78, 79, 84]⟩⟩] 0 0 false) (hm : tmayB 1 ⟨#[78, 79, 84]⟩ = true) :
    Calls Tryz.prog 42 #[.pointer (some ⟨g, 0, none⟩)] W (Res W g A c [⟨1, ⟨#[78, 79, 84]⟩⟩] 1 (fun _ => False) zT 2 0 true) := by
  have hx : Nx [⟨1, ⟨#[78, 79, 84]⟩⟩] 0 false ⟨1, ⟨#[78, 79, 84]⟩⟩ := nx_at rfl hm (by decide)
  have hx1 : Nx [⟨1, ⟨#[78, 79, 84]⟩⟩] 1 false ⟨0, ⟨#[]⟩⟩ := nx_last rfl false
  have hx2 : Nx [⟨1, ⟨#[78, 79, 84]⟩⟩] 2 true ⟨0, ⟨#[]⟩⟩ := nx_failed
  refine por_any (N := 1) g A c _ 0 0 false zT zT 2 2 true true W hz (fun W hz => ?_) (fun Q W u _ hz ht => orFrom_n g A c _ 2 0 true _ Q zT u W hz (by simp) hx2 ht (isz _) (isz _))
  refine pnot_bad (N := 0) g A c _ 0 0 false _ zT 2 true W hz (by simp) (by omega) (by omega) hx (by simp [isB]) may_notz (fun W hz => ?_)
  refine pnot_any (N := 0) g A c _ 1 1 false _ zT zT 2 2 true true W hz (by simp) hx1 (isz _) (fun W hz => ?_) (fun Q W u _ hz ht => cmpFrom_n g A c _ 2 1 true _ Q zT u W hz (by simp) hx2 ht (isz _) (isz _) (isz _) (isz _) (isz _))
  refine atom_plain g A c _ 1 1 false _ zT 2 true W hz (by simp) hx1 (isz _) (fun W hz => ?_)
  exact plain_zero g A c _ 1 1 false W hz (by simp) (by omega) hx1
end Go.Proofs.YtmgcmiflbjhakaaGreatDoor

/- The chapter's first example is parsed. -/
namespace Go.Proofs.YtmgcmiflbjhakaaGreatDoor
open Go.RowKit Go.Lib

def L7 : List Tn := [⟨1, ⟨#[97]⟩⟩, ⟨4, ⟨#[61]⟩⟩, ⟨2, ⟨#[49]⟩⟩, ⟨1, ⟨#[79, 82]⟩⟩, ⟨1, ⟨#[98]⟩⟩, ⟨1, ⟨#[73, 83]⟩⟩, ⟨1, ⟨#[78, 85, 76, 76]⟩⟩]
theorem l7 : L7.length ≤ 100000 := by decide
theorem nx0 : Nx L7 0 false (⟨1, ⟨#[97]⟩⟩ : Tn) := nx_at rfl (by decide) (by decide)
theorem nx1 : Nx L7 1 false (⟨4, ⟨#[61]⟩⟩ : Tn) := nx_at rfl (by decide) (by decide)
theorem nx2 : Nx L7 2 false (⟨2, ⟨#[49]⟩⟩ : Tn) := nx_at rfl (by decide) (by decide)
theorem nx3 : Nx L7 3 false (⟨1, ⟨#[79, 82]⟩⟩ : Tn) := nx_at rfl (by decide) (by decide)
theorem nx4 : Nx L7 4 false (⟨1, ⟨#[98]⟩⟩ : Tn) := nx_at rfl (by decide) (by decide)
theorem nx5 : Nx L7 5 false (⟨1, ⟨#[73, 83]⟩⟩ : Tn) := nx_at rfl (by decide) (by decide)
theorem nx6 : Nx L7 6 false (⟨1, ⟨#[78, 85, 76, 76]⟩⟩ : Tn) := nx_at rfl (by decide) (by decide)
theorem nx7 : Nx L7 7 false ⟨0, ⟨#[]⟩⟩ := nx_last rfl false
def eqT : Ex := twoT ⟨#[61]⟩ (colT ⟨#[97]⟩) (litT ⟨1, 1, ⟨#[]⟩⟩)
def isT : Ex := oneT ⟨#[110, 117, 108, 108]⟩ (colT ⟨#[98]⟩)
def orT : Ex := twoT ⟨#[111, 114]⟩ eqT isT
theorem res_no {s : ByteArray} (h : (resW.contains s.data.toList) = false) : resB s = false := by unfold resB; rw [toList_data]; exact h
theorem fm_a : fmT (colT ⟨#[97]⟩) = true := by rw [fm_colT, show nameB ⟨#[97]⟩ = true by decide, res_no (by decide)]; rfl
theorem fm_b : fmT (colT ⟨#[98]⟩) = true := by rw [fm_colT, show nameB ⟨#[98]⟩ = true by decide, res_no (by decide)]; rfl
theorem fm_1 : fmT (litT ⟨1, 1, ⟨#[]⟩⟩) = true := fm_litT _ (may_int 1)
theorem w_a (d : Nat) (m : Int) (h : 1 ≤ m) : withinF (d + 1) (colT ⟨#[97]⟩) m = (true, m - 1) := within_leaf fm_a rfl h
theorem w_b (d : Nat) (m : Int) (h : 1 ≤ m) : withinF (d + 1) (colT ⟨#[98]⟩) m = (true, m - 1) := within_leaf fm_b rfl h
theorem w_1 (d : Nat) (m : Int) (h : 1 ≤ m) : withinF (d + 1) (litT ⟨1, 1, ⟨#[]⟩⟩) m = (true, m - 1) := within_leaf fm_1 rfl h
theorem w_eq (d : Nat) (m : Int) (h : 3 ≤ m) : withinF (d + 2) eqT m = (true, m - 1 - 1 - 1) := within_two (fm_twoT _ _ _ (by rw [toList_data]; decide)) (by omega) (w_a d (m - 1) (by omega)) (w_1 d (m - 1 - 1) (by omega))
theorem w_is (d : Nat) (m : Int) (h : 2 ≤ m) : withinF (d + 2) isT m = (true, m - 1 - 1) := within_one (fm_nullT _) (by omega) (w_b d (m - 1) (by omega))
theorem may_a : mayT (colT ⟨#[97]⟩) = true := by unfold mayT; rw [w_a 11 60 (by omega)]
theorem may_b : mayT (colT ⟨#[98]⟩) = true := by unfold mayT; rw [w_b 11 60 (by omega)]
theorem may_eq : mayT eqT = true := by unfold mayT; rw [w_eq 10 60 (by omega)]
theorem may_is' : mayT isT = true := by unfold mayT; rw [w_is 10 60 (by omega)]
theorem may_or : mayT orT = true := by
  unfold mayT
  rw [show withinF 12 orT 60 = (true, 60 - 1 - 1 - 1 - 1 - 1 - 1) from within_two (fm_twoT _ _ _ (by rw [toList_data]; decide)) (by omega) (w_eq 9 (60 - 1) (by omega)) (w_is 9 (60 - 1 - 1 - 1 - 1) (by omega))]

theorem run_aw (A : Option Addr) (c : Nat) (g : Nat) (W : World) (hz : Pz W g A c L7 0 0 false) :
    Calls Tryz.prog 42 #[.pointer (some ⟨g, 0, none⟩)] W (Res W g A c L7 2 (fun _ => False) orT 7 0 false) := by
  refine por_any (N := 1) g A c L7 0 0 false eqT orT 3 7 false false W hz (fun W hz => ?_) (fun Q W u hQ hz ht => ?_)
  · -- a = 1
    refine pnot_any (N := 0) g A c L7 0 0 false (⟨1, ⟨#[97]⟩⟩ : Tn) (colT ⟨#[97]⟩) eqT 1 3 false false W hz l7 nx0 (by unfold isB; simp only [toList_data]; decide) (fun W hz => ?_) (fun Q W u hQ hz ht => ?_)
    · refine atom_plain g A c L7 0 0 false (⟨1, ⟨#[97]⟩⟩ : Tn) _ 1 false W hz l7 nx0 (by unfold isB; simp only [toList_data]; decide) (fun W hz => ?_)
      exact plain_word g A c L7 0 0 false ⟨#[97]⟩ _ 1 false W hz l7 (by omega) nx0 (by unfold isB; simp only [toList_data]; decide) (by decide) (fun W hz => word_col g A c L7 1 0 false ⟨#[97]⟩ W hz (name_no (by decide) (by decide) (by decide) (by decide)) (by decide) may_a)
    · refine cmpFrom_eq g A c L7 1 0 false (⟨4, ⟨#[61]⟩⟩ : Tn) Q (colT ⟨#[97]⟩) (litT ⟨1, 1, ⟨#[]⟩⟩) u 3 false W hz l7 (by omega) (by omega) nx1 ht hQ (by unfold isB; simp only [toList_data]; decide) (by unfold isB; simp only [toList_data]; decide) (by unfold isB; simp only [toList_data]; decide) may_eq (fun W hz => ?_)
      refine psum_any (N := 0) g A c L7 2 1 false _ _ 3 3 false false W hz (fun W hz => ?_) (fun Q W u hQ hz ht => sumFrom_n g A c L7 3 1 false (⟨1, ⟨#[79, 82]⟩⟩ : Tn) Q _ u W hz l7 nx3 ht (by unfold isB; simp only [toList_data]; decide) (by unfold isB; simp only [toList_data]; decide))
      refine atom_plain g A c L7 2 1 false (⟨2, ⟨#[49]⟩⟩ : Tn) _ 3 false W hz l7 nx2 (by unfold isB; simp only [toList_data]; decide) (fun W hz => ?_)
      exact plain_num g A c L7 2 1 false ⟨#[49]⟩ _ 3 false W hz l7 (by omega) nx2 (by unfold isB; simp only [toList_data]; decide) (by decide) (fun W hz => number_ok g A c L7 3 1 false ⟨#[49]⟩ 1 W hz (by decide) (by decide))
  · refine orFrom_one g A c L7 3 0 false (⟨1, ⟨#[79, 82]⟩⟩ : Tn) ⟨0, ⟨#[]⟩⟩ Q eqT orT u 7 false W hz l7 (by omega) nx3 (by unfold isB; simp only [toList_data]; decide) (by unfold isB; simp only [toList_data]; decide) nx7 (isz _) ht hQ (fun Q W u hQ hz ht => ?_)
    refine joined_and g A c L7 4 0 false Q eqT isT u 7 false W hz (by omega) ht hQ may_or (fun W hz => ?_)
    refine pand_any (N := 1) g A c L7 4 1 false isT isT 7 7 false false W hz (fun W hz => ?_) (fun Q W u hQ hz ht => andFrom_n g A c L7 7 1 false ⟨0, ⟨#[]⟩⟩ Q _ u W hz l7 nx7 ht (isz _))
    refine pnot_any (N := 0) g A c L7 4 1 false (⟨1, ⟨#[98]⟩⟩ : Tn) (colT ⟨#[98]⟩) isT 5 7 false false W hz l7 nx4 (by unfold isB; simp only [toList_data]; decide) (fun W hz => ?_) (fun Q W u hQ hz ht => ?_)
    · refine atom_plain g A c L7 4 1 false (⟨1, ⟨#[98]⟩⟩ : Tn) _ 5 false W hz l7 nx4 (by unfold isB; simp only [toList_data]; decide) (fun W hz => ?_)
      exact plain_word g A c L7 4 1 false ⟨#[98]⟩ _ 5 false W hz l7 (by omega) nx4 (by unfold isB; simp only [toList_data]; decide) (by decide) (fun W hz => word_col g A c L7 5 1 false ⟨#[98]⟩ W hz (name_no (by decide) (by decide) (by decide) (by decide)) (by decide) may_b)
    · exact cmpFrom_is g A c L7 5 1 false (⟨1, ⟨#[73, 83]⟩⟩ : Tn) (⟨1, ⟨#[78, 85, 76, 76]⟩⟩ : Tn) Q (colT ⟨#[98]⟩) u W hz l7 (by omega) nx5 ht hQ (by unfold isB; simp only [toList_data]; decide) (by unfold isB; simp only [toList_data]; decide) (by unfold isB; simp only [toList_data]; decide) (by unfold isB; simp only [toList_data]; decide) (by unfold isB; simp only [toList_data]; decide) nx6 (by unfold isB; simp only [toList_data]; decide) may_is'
end Go.Proofs.YtmgcmiflbjhakaaGreatDoor

/- The chapter's examples: awake. -/
namespace Go.Proofs.YtmgcmiflbjhakaaGreatDoor
open Go.RowKit Go.Lib

theorem two_tr {W : World} {R : Nat → Prop} {N : Nat} {x y : Ex} {B B2 : Option Addr} {p q p2 q2 : Nat} (op : ByteArray) (h : Tr W R N x (.slice B p q)) (k : Tr W R N y (.slice B2 p2 q2)) (hr : R W.heap.size) :
    Tr (W.alloc (.cells #[.string x.op, .int .i64 x.x.k, .int .i64 x.x.i, .string x.x.s, .string x.s, .slice B p q, .string y.op, .int .i64 y.x.k, .int .i64 y.x.i, .string y.x.s, .string y.s, .slice B2 p2 q2] 26)) R (N + 1) (twoT op x y) (.slice (some ⟨W.heap.size, 0, none⟩) 2 2) := by
  have hb : Below W.heap.size W (W.alloc (.cells #[.string x.op, .int .i64 x.x.k, .int .i64 x.x.i, .string x.x.s, .string x.s, .slice B p q, .string y.op, .int .i64 y.x.k, .int .i64 y.x.i, .string y.x.s, .string y.s, .slice B2 p2 q2] 26)) := (Below.refl _ _).alloc (Nat.le_refl _) _
  refine ⟨by show (⟨#[]⟩ : ByteArray).size ≤ 100000; decide, some ⟨W.heap.size, 0, none⟩, 2, rfl, by simp [twoT, Ex.l, maxLen], fun j hj => ?_⟩
  have hj : j < 2 := hj
  rcases (show j = 0 ∨ j = 1 by omega) with rfl | rfl
  · refine ⟨_, .slice B p q, rfl, hr, ?_, h.1, (h.below hb).2⟩
    have e : (⟨W.heap.size, 0, none⟩ : Addr).add (0 * 6) = ⟨W.heap.size, 0, none⟩ := by unfold Addr.add; simp
    rw [e]
    refine ⟨?_, ?_, ?_, ?_, ?_, ?_⟩ <;> (rw [Lib.cell_of_heap (alloc_at rfl _)]; rfl)
  · refine ⟨_, .slice B2 p2 q2, rfl, hr, ?_, k.1, (k.below hb).2⟩
    have e : (⟨W.heap.size, 0, none⟩ : Addr).add (1 * 6) = ⟨W.heap.size, 6, none⟩ := by unfold Addr.add; simp
    rw [e]
    refine ⟨?_, ?_, ?_, ?_, ?_, ?_⟩ <;> (rw [Lib.cell_of_heap (alloc_at rfl _)]; rfl)

def plT (x : Vl) : Ex := twoT ⟨#[43]⟩ (colT ⟨#[97]⟩) (litT x)
theorem may_pl (x : Vl) (h : mayB x.k x.i x.s = true) : mayT (plT x) = true := by
  unfold mayT
  rw [show withinF 12 (plT x) 60 = (true, 60 - 1 - 1 - 1) from within_two (fm_twoT _ _ _ (by rw [toList_data]; decide)) (by omega) (w_a 10 (60 - 1) (by omega)) (within_leaf (fm_litT x h) rfl (by omega))]
theorem tr_pl (W : World) {n : Nat} (hn : W.heap.size = n) (x : Vl) : Tr (W.alloc (.cells #[.string ⟨#[99, 111, 108]⟩, .int .i64 0, .int .i64 0, .string ⟨#[]⟩, .string ⟨#[97]⟩, .slice none 0 0, .string ⟨#[108, 105, 116]⟩, .int .i64 x.k, .int .i64 x.i, .string x.s, .string ⟨#[]⟩, .slice none 0 0] 26)) (fun _ => True) 1 (plT x) (.slice (some ⟨n, 0, none⟩) 2 2) := by
  subst hn
  exact two_tr (x := colT ⟨#[97]⟩) (y := litT x) ⟨#[43]⟩ (leaf_tr W _ 0 _ _ _ (by decide)) (leaf_tr W _ 0 _ _ _ (by decide)) trivial
def cA : Cl := ⟨⟨#[97]⟩, 1, false⟩
theorem col_A {W : World} {b : Nat} (h : W.heap[b]? = some (.cells #[.string ⟨#[97]⟩, .int .i64 1, .bool false] 67 (0, 0))) : ColS W (some ⟨b, 0, none⟩) 1 [cA] := by
  refine ⟨rfl, by unfold maxLen; omega, fun j hj => ?_⟩
  have hj : j < 1 := hj
  obtain rfl : j = 0 := by omega
  refine ⟨_, rfl, ?_⟩
  have e : (⟨b, 0, none⟩ : Addr).add (0 * 3) = ⟨b, 0, none⟩ := by unfold Addr.add; simp
  rw [e]
  refine ⟨?_, ?_, ?_⟩ <;> (rw [Lib.cell_of_heap h]; rfl)
theorem row_A (W : World) {n : Nat} (h : W.heap.size = n) (x : Vl) : Vals (W.alloc (.cells #[.int .i64 x.k, .int .i64 x.i, .string x.s] 23)) (n + 1) (some ⟨n, 0, none⟩) 1 [x] := by
  refine ⟨rfl, fun j hj => ?_⟩
  have hj : j < 1 := hj
  obtain rfl : j = 0 := by omega
  refine ⟨_, rfl, ?_, Nat.lt_succ_self _⟩
  have e : (⟨n, 0, none⟩ : Addr).add (0 * 3) = ⟨n, 0, none⟩ := by unfold Addr.add; simp
  rw [e]
  refine ⟨?_, ?_, ?_⟩ <;> (rw [Lib.cell_of_heap (alloc_at h _)]; rfl)
theorem eval_aw : evalF [cA] [⟨1, 9223372036854775807, ⟨#[]⟩⟩] 12 (plT ⟨1, 1, ⟨#[]⟩⟩) = nulV := by
  rw [evalF_op (show (plT ⟨1, 1, ⟨#[]⟩⟩).op.toList = [43] by show (⟨#[43]⟩ : ByteArray).toList = _; rw [toList_data]) (by decide) (by decide)]
  show opF [43] [evalF [cA] [⟨1, 9223372036854775807, ⟨#[]⟩⟩] 11 (colT ⟨#[97]⟩), evalF [cA] [⟨1, 9223372036854775807, ⟨#[]⟩⟩] 11 (litT ⟨1, 1, ⟨#[]⟩⟩)] = _
  rw [evalF_col (show (colT ⟨#[97]⟩).op.toList = [99, 111, 108] by show (⟨#[99, 111, 108]⟩ : ByteArray).toList = _; rw [toList_data]), evalF_lit (show (litT ⟨1, 1, ⟨#[]⟩⟩).op.toList = [108, 105, 116] by show (⟨#[108, 105, 116]⟩ : ByteArray).toList = _; rw [toList_data])]
  have hp : plF ⟨#[97]⟩ [cA] 0 = 0 := by unfold plF; rw [if_pos (by show ((⟨#[97]⟩ : ByteArray).toList == (⟨#[97]⟩ : ByteArray).toList) = true; simp)]
  have e : colV [cA] [⟨1, 9223372036854775807, ⟨#[]⟩⟩] (colT ⟨#[97]⟩).s = ⟨1, 9223372036854775807, ⟨#[]⟩⟩ := by
    show colV [cA] _ ⟨#[97]⟩ = _
    unfold colV
    rw [hp]
    rfl
  rw [e]
  show plusV ⟨1, 9223372036854775807, ⟨#[]⟩⟩ ⟨1, 1, ⟨#[]⟩⟩ = nulV
  unfold plusV
  have hn : numsB 1 9223372036854775807 ⟨#[]⟩ 1 1 ⟨#[]⟩ = true := by unfold numsB hK; rw [may_int, may_int]; rfl
  rw [if_pos hn, if_pos (show badPlus 9223372036854775807 1 = true by kernel_rfl)]

set_option maxRecDepth 100000 in
set_option maxHeartbeats 4000000 in
theorem type_aw (b b2 : Nat) (w : World) (P : Nat → Prop) (c c2 : Nat) (ht : Tr w P 1 (plT ⟨3, 1, ⟨#[]⟩⟩) (.slice (some ⟨b, 0, none⟩) 2 c)) (hc : ColS w (some ⟨b2, 0, none⟩) 1 [cA]) :
    Calls Tryz.prog 35 #[.agg #[.string ⟨#[43]⟩, .int .i64 0, .int .i64 0, .string ⟨#[]⟩, .string ⟨#[]⟩, .slice (some ⟨b, 0, none⟩) 2 c], .slice (some ⟨b2, 0, none⟩) 1 c2] w fun e w' => e = .returned (.tuple #[.int .i64 0, .int .i64 5]) ∧ Below w.heap.size w w' := by
  have HT := Lib.hid (And.intro ht hc)
  have HM : Hid (∀ W, Tr W P 1 (plT ⟨3, 1, ⟨#[]⟩⟩) (.slice (some ⟨b, 0, none⟩) 2 c) → Calls Tryz.prog 12 #[.agg #[.string ⟨#[43]⟩, .int .i64 0, .int .i64 0, .string ⟨#[]⟩, .string ⟨#[]⟩, .slice (some ⟨b, 0, none⟩) 2 c]] W fun e w' => e = .returned (.bool true) ∧ Below W.heap.size W w') := fun W h => by
    have := emay_any P 1 (plT ⟨3, 1, ⟨#[]⟩⟩) (.slice (some ⟨b, 0, none⟩) 2 c) W h
    rw [may_pl _ may_true] at this
    exact this
  clear ht hc
  go_enter Tryz.func35, Tryz.ntmps35
  go_wp2_with (first
    | (go_at_call 12; refine (HM.out _ (HT.out.1.below ((Below.refl _ _).alloc (Nat.le_refl _) _))).mono ?_; rintro e w1 ⟨rfl, hb1⟩; have hc1 := (bcell hb1).1; have hf1 := (bcell hb1).2; have hy1 := hb1.size; (try simp at hy1); have hz1_0 : w.heap.size < w1.heap.size := (by omega); have HB1 : Hid (Below w.heap.size w w1) := ((Below.refl _ _).alloc (Nat.le_refl _) _).trans (hb1.mono (by simp)))
    | (go_at_call 51; refine (typ_aw P 1 (colT ⟨#[97]⟩) (litT ⟨3, 1, ⟨#[]⟩⟩) _ c ⟨b2, 0, none⟩ c2 cA _ ((HT.out.1.below HB1.out).2) (HT.out.2.below HB1.out) rfl rfl (by simp [cA, colT, Ex.s]) rfl rfl).mono ?_; rintro e w2 ⟨rfl, hb2⟩; have HB2 : Hid (Below w.heap.size w w2) := HB1.out.trans (hb2.mono (by omega))))
  go_ret2
  exact ⟨rfl, HB2.out⟩

theorem tok_7 (w : World) : ∀ j (h : j < L7.length), ∃ a, some (⟨w.heap.size, 0, none⟩ : Addr) = some a ∧ TnAt (w.alloc (.cells #[.int .i64 1, .string ⟨#[97]⟩, .int .i64 4, .string ⟨#[61]⟩, .int .i64 2, .string ⟨#[49]⟩, .int .i64 1, .string ⟨#[79, 82]⟩, .int .i64 1, .string ⟨#[98]⟩, .int .i64 1, .string ⟨#[73, 83]⟩, .int .i64 1, .string ⟨#[78, 85, 76, 76]⟩] 48)) (a.add (j * 2)) L7[j] := fun j hj => by
  have hj : j < 7 := hj
  refine ⟨_, rfl, ?_⟩
  rcases (show j = 0 ∨ j = 1 ∨ j = 2 ∨ j = 3 ∨ j = 4 ∨ j = 5 ∨ j = 6 by omega) with rfl | rfl | rfl | rfl | rfl | rfl | rfl
  · have e : (⟨w.heap.size, 0, none⟩ : Addr).add (0 * 2) = ⟨w.heap.size, 0, none⟩ := by unfold Addr.add; simp
    rw [e]
    exact ⟨by rw [Lib.cell_of_heap (alloc_at rfl _)]; rfl, by rw [Lib.cell_of_heap (alloc_at rfl _)]; rfl⟩
  · have e : (⟨w.heap.size, 0, none⟩ : Addr).add (1 * 2) = ⟨w.heap.size, 2, none⟩ := by unfold Addr.add; simp
    rw [e]
    exact ⟨by rw [Lib.cell_of_heap (alloc_at rfl _)]; rfl, by rw [Lib.cell_of_heap (alloc_at rfl _)]; rfl⟩
  · have e : (⟨w.heap.size, 0, none⟩ : Addr).add (2 * 2) = ⟨w.heap.size, 4, none⟩ := by unfold Addr.add; simp
    rw [e]
    exact ⟨by rw [Lib.cell_of_heap (alloc_at rfl _)]; rfl, by rw [Lib.cell_of_heap (alloc_at rfl _)]; rfl⟩
  · have e : (⟨w.heap.size, 0, none⟩ : Addr).add (3 * 2) = ⟨w.heap.size, 6, none⟩ := by unfold Addr.add; simp
    rw [e]
    exact ⟨by rw [Lib.cell_of_heap (alloc_at rfl _)]; rfl, by rw [Lib.cell_of_heap (alloc_at rfl _)]; rfl⟩
  · have e : (⟨w.heap.size, 0, none⟩ : Addr).add (4 * 2) = ⟨w.heap.size, 8, none⟩ := by unfold Addr.add; simp
    rw [e]
    exact ⟨by rw [Lib.cell_of_heap (alloc_at rfl _)]; rfl, by rw [Lib.cell_of_heap (alloc_at rfl _)]; rfl⟩
  · have e : (⟨w.heap.size, 0, none⟩ : Addr).add (5 * 2) = ⟨w.heap.size, 10, none⟩ := by unfold Addr.add; simp
    rw [e]
    exact ⟨by rw [Lib.cell_of_heap (alloc_at rfl _)]; rfl, by rw [Lib.cell_of_heap (alloc_at rfl _)]; rfl⟩
  · have e : (⟨w.heap.size, 0, none⟩ : Addr).add (6 * 2) = ⟨w.heap.size, 12, none⟩ := by unfold Addr.add; simp
    rw [e]
    exact ⟨by rw [Lib.cell_of_heap (alloc_at rfl _)]; rfl, by rw [Lib.cell_of_heap (alloc_at rfl _)]; rfl⟩

set_option maxRecDepth 100000 in
set_option maxHeartbeats 4000000 in
theorem awake4_any (w : World) (hL : LibE w) :
    Calls Tryz.prog 13 #[] w fun e w' => e = .returned (.bool true) ∧ Below w.heap.size w w' := by
  have HL := Lib.hid hL
  clear hL
  go_enter Tryz.func13, Tryz.ntmps13
  go_wp2_with (first
    | (go_at_call 24; refine (parse_ok (N := 2) (some ⟨w.heap.size, 0, none⟩) 7 L7 orT 7 _ (tok_7 w) (HL.out.keep ((Below.refl _ _).alloc (Nat.le_refl _) _) (Nat.le_refl _)) (run_aw _ _)).mono ?_; rintro e w1 ⟨u1, rfl, ht1, hb1⟩; obtain ⟨B1, q1, hu, _⟩ := ht1.form; have hu : u1 = .slice B1 2 q1 := hu; subst hu; rw [show EVt orT (.slice B1 2 q1) = .agg #[.string ⟨#[111, 114]⟩, .int .i64 0, .int .i64 0, .string ⟨#[]⟩, .string ⟨#[]⟩, .slice B1 2 q1] from rfl]; have hc1 := (bcell hb1).1; have hf1 := (bcell hb1).2; have hy1 := hb1.size; (try simp at hy1); have hz1_0 : w.heap.size < w1.heap.size := (by omega); have HB1 : Hid (Below w.heap.size w w1) := ((Below.refl _ _).alloc (Nat.le_refl _) _).trans (hb1.mono (by simp)))
    | (go_at_call 14; refine (eval_yes (some ⟨_,0,none⟩) 1 1 [cA] (some ⟨_,0,none⟩) 1 1 [⟨1,9223372036854775807,⟨#[]⟩⟩] (by unfold maxLen; omega) (fun _ => True) 1 (plT ⟨1,1,⟨#[]⟩⟩) _ _ ?_ (may_pl _ (may_int 1)) ?_ ?_).mono ?_; (· exact ((tr_pl _ (by simp) ⟨1,1,⟨#[]⟩⟩).below ((Below.refl _ _).alloc (Nat.le_refl _) _))); (· exact (((((col_A (alloc_at (by simp) _)).below ((Below.refl _ _).alloc (Nat.le_refl _) _)).below ((Below.refl _ _).alloc (Nat.le_refl _) _)).below ((Below.refl _ _).alloc (Nat.le_refl _) _)).below ((Below.refl _ _).alloc (Nat.le_refl _) _))); (· exact ((row_A _ (by simp) ⟨1,9223372036854775807,⟨#[]⟩⟩).more (by simp))); rintro e w2 ⟨rfl, hb2⟩; rw [eval_aw]; (simp only [nulV]); have hc2 := (bcell hb2).1; have hf2 := (bcell hb2).2; have hy2 := hb2.size; (try simp at hy2); have hz2_0 : w1.heap.size < w2.heap.size := (by omega); have hz2_1 : w1.heap.size + 1 < w2.heap.size := (by omega); have hz2_2 : w1.heap.size + 1 + 1 < w2.heap.size := (by omega); have hz2_3 : w1.heap.size + 1 + 1 + 1 < w2.heap.size := (by omega); have HB2 : Hid (Below w.heap.size w w2) := HB1.out.trans (((((((((Below.refl _ _).alloc (Nat.le_refl _) _).alloc (by simp <;> omega) _).alloc (by simp <;> omega) _).alloc (by simp <;> omega) _).alloc (by simp <;> omega) _).alloc (by simp <;> omega) _).trans (hb2.mono (by simp <;> omega))).mono (by omega)); have HC : Hid (ColS w2 (some ⟨w1.heap.size + 1, 0, none⟩) 1 [cA]) := (((((col_A (alloc_at (by simp) _)).below ((Below.refl _ _).alloc (Nat.le_refl _) _)).below ((Below.refl _ _).alloc (Nat.le_refl _) _)).below ((Below.refl _ _).alloc (Nat.le_refl _) _)).below ((Below.refl _ _).alloc (Nat.le_refl _) _)).below (hb2.mono (by simp <;> omega)); have HE2 : Hid (w2.heap[w1.heap.size]? = some (.cells #[.string ⟨#[111, 114]⟩, .int .i64 0, .int .i64 0, .string ⟨#[]⟩, .string ⟨#[]⟩, .slice B1 2 q1] 26 (0, 0))) := (hb2.block _ (by simp <;> omega)).trans (((((((((Below.refl _ _).alloc (by simp <;> omega) _).alloc (by simp <;> omega) _).alloc (by simp <;> omega) _).alloc (by simp <;> omega) _).alloc (by simp <;> omega) _) : Below (w1.heap.size + 1) (w1.alloc (.cells #[.string ⟨#[111, 114]⟩, .int .i64 0, .int .i64 0, .string ⟨#[]⟩, .string ⟨#[]⟩, .slice B1 2 q1] 26 (0, 0))) _).block _ (by omega)).trans (alloc_at rfl _)))
    | (go_at_call 35; refine (type_aw _ _ _ (fun _ => True) 2 1 (tr_pl _ (by simp) ⟨3,1,⟨#[]⟩⟩) ((HC.out.below ((Below.refl _ _).alloc (Nat.le_refl _) _)).below ((Below.refl _ _).alloc (Nat.le_refl _) _))).mono ?_; rintro e w3 ⟨rfl, hb3⟩; have hc3 := (bcell hb3).1; have hf3 := (bcell hb3).2; have hy3 := hb3.size; (try simp at hy3); have hz3_0 : w2.heap.size < w3.heap.size := (by omega); have hz3 : w1.heap.size < w3.heap.size := (by omega); have HB3 : Hid (Below w.heap.size w w3) := HB2.out.trans (((((Below.refl _ _).alloc (Nat.le_refl _) _).alloc (by simp <;> omega) _).trans (hb3.mono (by simp <;> omega))).mono (by omega))); have e3 := (hb3.block w1.heap.size (by simp <;> omega)).trans ((((((Below.refl _ _).alloc (Nat.le_refl _) _).alloc (by simp <;> omega) _ : Below w2.heap.size w2 _)).block _ (by omega)).trans HE2.out); have v3 := (hb3.block w2.heap.size (by simp <;> omega)).trans ((((Below.refl _ _).alloc (by simp <;> omega) _ : Below (w2.heap.size + 1) (w2.alloc (.cells #[.int .i64 0, .int .i64 0, .string ⟨#[]⟩] 23 (0, 0))) _).block _ (by omega)).trans (alloc_at rfl _)); clear hc3 hf3; have k0 := Lib.cell_of_heap e3 0; have k5 := Lib.cell_of_heap e3 5; have kf := Lib.frozen_of_heap e3; have y0 := Lib.cell_of_heap v3 0; have y1 := Lib.cell_of_heap v3 1; have y2 := Lib.cell_of_heap v3 2; have yf := Lib.frozen_of_heap v3; clear e3 v3; simp only [List.getElem?_toArray, List.getElem?_cons_zero, List.getElem?_cons_succ] at k0 k5 y0 y1 y2)
  go_ret
  exact ⟨rfl, HB3.out⟩
end Go.Proofs.YtmgcmiflbjhakaaGreatDoor

/- What one, its NOT, and both come to: plain facts. -/
namespace Go.Proofs.YtmgcmiflbjhakaaGreatDoor
open Go.RowKit Go.Lib

theorem evalF_mono (cols : List Cl) (row : List Vl) : ∀ (d : Nat) (t : Ex), wfF d t → evalF cols row (d + 1) t = evalF cols row d t
  | 0, _, h => h.elim
  | d + 1, t, h => by
    have e : t.l.map (evalF cols row (d + 1)) = t.l.map (evalF cols row d) := List.map_congr_left fun y hy => evalF_mono cols row d y (h.2 y hy)
    conv => lhs; unfold evalF
    conv => rhs; unfold evalF
    rw [e]
theorem says_not (x : Vl) : saysN (notV x).k (notV x).i (notV x).s = 2 - saysN x.k x.i x.s := by
  have := saysN_bd x.k x.i x.s
  exact says_tri _ (by omega) (by omega)
theorem or_not (x : Vl) : saysN (orV x (notV x)).k (orV x (notV x)).i (orV x (notV x)).s ≠ 0 := by
  have := saysN_bd x.k x.i x.s
  have hn := says_not x
  rw [show saysN (orV x (notV x)).k (orV x (notV x)).i (orV x (notV x)).s = maxN (saysN x.k x.i x.s) (saysN (notV x).k (notV x).i (notV x).s) from says_tri _ (max_bd (saysN_bd _ _ _) (saysN_bd _ _ _)).1 (max_bd (saysN_bd _ _ _) (saysN_bd _ _ _)).2, hn]
  unfold maxN
  split <;> omega
theorem and_not (x : Vl) : saysN (andV x (notV x)).k (andV x (notV x)).i (andV x (notV x)).s ≠ 2 := by
  have := saysN_bd x.k x.i x.s
  have hn := says_not x
  rw [show saysN (andV x (notV x)).k (andV x (notV x)).i (andV x (notV x)).s = minN (saysN x.k x.i x.s) (saysN (notV x).k (notV x).i (notV x).s) from says_tri _ (min_bd (saysN_bd _ _ _) (saysN_bd _ _ _)).1 (min_bd (saysN_bd _ _ _) (saysN_bd _ _ _)).2, hn]
  unfold minN
  split <;> omega
theorem is_null (x : Vl) : saysN (isnV x).k (isnV x).i (isnV x).s ≠ 2 ∨ orV x (notV x) = nulV := by
  by_cases h : hK x.k x.i x.s = 0
  · refine .inr ?_
    have hs : saysN x.k x.i x.s = 1 := by
      refine saysN_1 fun h3 hl => ?_
      unfold hK at h
      constructor <;> (rintro hi; rw [show mayB x.k x.i x.s = true by unfold mayB; simp [h3, hi, hl]] at h; simp at h; omega)
    have hn := says_not x
    rw [hs] at hn
    unfold orV
    rw [hs, hn]
    rfl
  · refine .inl ?_
    have e : (isnV x).i = 0 := by
      show b2i (hK x.k x.i x.s == 0) = 0
      have : (hK x.k x.i x.s == 0) = false := by simpa using h
      rw [this]
      rfl
    rw [saysN_0 (show (isnV x).k = 3 from rfl) e (by show (⟨#[]⟩ : ByteArray).toList = []; rw [toList_data])]
    omega

/-- What the three come to, held against what one comes to. -/
theorem truths_val (cols : List Cl) (row : List Vl) (e : Ex) (h1 : mayT (twoT ⟨#[111, 114]⟩ e (oneT ⟨#[110, 111, 116]⟩ e)) = true) :
    evalF cols row 12 (twoT ⟨#[111, 114]⟩ e (oneT ⟨#[110, 111, 116]⟩ e)) = orV (evalF cols row 11 e) (notV (evalF cols row 11 e)) ∧
    evalF cols row 12 (twoT ⟨#[97, 110, 100]⟩ e (oneT ⟨#[110, 111, 116]⟩ e)) = andV (evalF cols row 11 e) (notV (evalF cols row 11 e)) ∧
    evalF cols row 12 (oneT ⟨#[110, 117, 108, 108]⟩ e) = isnV (evalF cols row 11 e) := by
  have hw := wf_may h1
  have hn : wfF 11 (oneT ⟨#[110, 111, 116]⟩ e) := hw.2 _ (by simp [twoT, Ex.l])
  have he : wfF 10 e := hn.2 _ (by simp [oneT, Ex.l])
  have hN : evalF cols row 11 (oneT ⟨#[110, 111, 116]⟩ e) = notV (evalF cols row 11 e) := by
    rw [evalF_op (show (oneT ⟨#[110, 111, 116]⟩ e).op.toList = [110, 111, 116] by show (⟨#[110, 111, 116]⟩ : ByteArray).toList = _; rw [toList_data]) (by decide) (by decide)]
    show opF [110, 111, 116] [evalF cols row 10 e] = _
    rw [← evalF_mono cols row 10 e he]
    rfl
  refine ⟨?_, ?_, ?_⟩
  · rw [evalF_op (show (twoT ⟨#[111, 114]⟩ e (oneT ⟨#[110, 111, 116]⟩ e)).op.toList = [111, 114] by show (⟨#[111, 114]⟩ : ByteArray).toList = _; rw [toList_data]) (by decide) (by decide)]
    show opF [111, 114] [evalF cols row 11 e, evalF cols row 11 (oneT ⟨#[110, 111, 116]⟩ e)] = _
    rw [hN]
    rfl
  · rw [evalF_op (show (twoT ⟨#[97, 110, 100]⟩ e (oneT ⟨#[110, 111, 116]⟩ e)).op.toList = [97, 110, 100] by show (⟨#[97, 110, 100]⟩ : ByteArray).toList = _; rw [toList_data]) (by decide) (by decide)]
    show opF [97, 110, 100] [evalF cols row 11 e, evalF cols row 11 (oneT ⟨#[110, 111, 116]⟩ e)] = _
    rw [hN]
    rfl
  · rw [evalF_op (show (oneT ⟨#[110, 117, 108, 108]⟩ e).op.toList = [110, 117, 108, 108] by show (⟨#[110, 117, 108, 108]⟩ : ByteArray).toList = _; rw [toList_data]) (by decide) (by decide)]
    rfl
end Go.Proofs.YtmgcmiflbjhakaaGreatDoor

/- The law's Cols: columns come out. -/
namespace Go.Proofs.YtmgcmiflbjhakaaGreatDoor
open Go.RowKit Go.Lib

def Cl.cells (x : Cl) : List Value := [.string x.n, .int .i64 x.t, .bool x.b]
def ccellsOf (l : List Cl) : List Value := l.flatMap Cl.cells
theorem ccells_len (l : List Cl) : (ccellsOf l).length = l.length * 3 := by
  induction l with
  | nil => rfl
  | cons x l ih => simp only [ccellsOf, List.flatMap_cons, List.length_append] at ih ⊢; rw [ih]; simp [Cl.cells]; omega
theorem ccells_snoc (l : List Cl) (x : Cl) : ccellsOf (l ++ [x]) = ccellsOf l ++ x.cells := by simp [ccellsOf]
theorem ccells_at (l : List Cl) : ∀ j (h : j < l.length), (ccellsOf l)[j * 3]? = some (.string l[j].n) ∧ (ccellsOf l)[j * 3 + 1]? = some (.int .i64 l[j].t) ∧ (ccellsOf l)[j * 3 + 2]? = some (.bool l[j].b) := by
  induction l with
  | nil => intro j h; simp at h
  | cons x l ih =>
    intro j h
    cases j with
    | zero => simp [ccellsOf, Cl.cells]
    | succ j =>
      have := ih j (by simpa using h)
      have e : ccellsOf (x :: l) = x.cells ++ ccellsOf l := by simp [ccellsOf]
      have hl : x.cells.length = 3 := rfl
      rw [e]
      refine ⟨?_, ?_, ?_⟩
      · rw [List.getElem?_append_right (by rw [hl]; omega), hl, show (j + 1) * 3 - 3 = j * 3 by omega]; exact this.1
      · rw [List.getElem?_append_right (by rw [hl]; omega), hl, show (j + 1) * 3 + 1 - 3 = j * 3 + 1 by omega]; exact this.2.1
      · rw [List.getElem?_append_right (by rw [hl]; omega), hl, show (j + 1) * 3 + 2 - 3 = j * 3 + 2 by omega]; exact this.2.2
theorem ccells_one (l : List Cl) : ∀ u ∈ ccellsOf l, u.oneCell' = true := by
  intro u hu
  simp only [ccellsOf, List.mem_flatMap, Cl.cells] at hu
  obtain ⟨x, _, hx⟩ := hu
  simp at hx
  rcases hx with rfl | rfl | rfl <;> rfl
theorem ColS.of_own {W : World} {B : Nat} {v : Value} {l : List Cl} {n : Nat} (h : W.ownsRow B 67 3 v n (ccellsOf l)) : ∃ A cap, v = .slice A n cap ∧ ColS W A n l ∧ ∀ a, A = some a → B ≤ a.block := by
  have hl : l.length = n := by have := h.1; rw [ccells_len] at this; omega
  rcases h.2 with ⟨rfl, h0⟩ | ⟨g, cap, cur, rfl, hB, hg, hc, hm, hs, ht⟩
  · subst h0
    exact ⟨none, 0, rfl, ⟨hl, by unfold maxLen; omega, fun j hj => absurd hj (by omega)⟩, fun a e => by cases e⟩
  · refine ⟨_, cap, rfl, ⟨hl, Nat.le_trans hc hm, fun j hj => ⟨_, rfl, ?_⟩⟩, fun a e => by injection e with e; subst e; exact hB⟩
    have hadd : (⟨g, 0, none⟩ : Addr).add (j * 3) = ⟨g, j * 3, none⟩ := by unfold Addr.add; split <;> simp_all
    obtain ⟨c0, c1, c2⟩ := ccells_at l j hj
    rw [hadd]
    exact ⟨(h.cellAt (j * 3) (by omega)).trans c0, (h.cellAt (j * 3 + 1) (by omega)).trans c1, (h.cellAt (j * 3 + 2) (by omega)).trans c2⟩
theorem ColS.keep {W W' : World} {A : Option Addr} {n : Nat} {l : List Cl} (h : ColS W A n l) (hk : ∀ a, A = some a → W'.heap[a.block]? = W.heap[a.block]?) : ColS W' A n l :=
  ⟨h.1, h.2.1, fun j hj => by obtain ⟨a, e, hc⟩ := h.2.2 j hj; exact ⟨a, e, hc.keep (by rw [add_block]; exact hk a e)⟩⟩
theorem Vals.stay {W W' : World} {B : Nat} {A : Option Addr} {n : Nat} {l : List Vl} (h : Vals W B A n l) (hk : ∀ a, A = some a → W'.heap[a.block]? = W.heap[a.block]?) : Vals W' B A n l :=
  ⟨h.1, fun j hj => by
    obtain ⟨a, e, h1, h2⟩ := h.2 j hj
    have hb : W'.heap[(a.add (j * 3)).block]? = W.heap[(a.add (j * 3)).block]? := by rw [add_block]; exact hk a e
    exact ⟨a, e, ⟨(World.cell?_of_block (w := W) (a := a.add (j * 3)) hb).trans h1.k, (World.cell?_of_block (w := W) (a := ⟨(a.add (j * 3)).block, _, none⟩) hb).trans h1.i, (World.cell?_of_block (w := W) (a := ⟨(a.add (j * 3)).block, _, none⟩) hb).trans h1.s⟩, h2⟩⟩
theorem Vals.own {W : World} {B : Nat} {v : Value} {l : List Vl} {n : Nat} (h : W.ownsRow B 23 3 v n (cellsOf l)) : ∃ A cap, v = .slice A n cap ∧ Vals W W.heap.size A n l ∧ n ≤ cap ∧ cap ≤ maxLen ∧ ∀ a, A = some a → B ≤ a.block := by
  obtain ⟨A, cap, rfl, h1, h2, h3⟩ := Vals.of_own h
  refine ⟨A, cap, rfl, h1, h2, h3, fun a e => ?_⟩
  subst e
  rcases h.2 with ⟨h0, _⟩ | ⟨g, cap', cur, hv, hB, _⟩
  · cases h0
  · injection hv with hv _ _
    injection hv with hv
    subst hv
    exact hB
theorem infoCol : (Tryz.prog.info? 67).map (fun i => (i.zero, i.size, i.bytes)) = some (some (.agg #[.string ⟨#[]⟩, .int .i64 0, .bool false]), 3, 32) := by kernel_rfl
theorem new_ccells {W : World} {n : Nat} {t : TypeId} {x : Cl} (h : W.heap.size = n) : ∀ j u, x.cells[j]? = some u → (W.alloc (.cells #[.string x.n, .int .i64 x.t, .bool x.b] t)).cell? ((⟨n, 0, none⟩ : Addr).add j) = some u := by
  subst h
  intro j u h
  match j with
  | 0 => simp [Cl.cells] at h; subst h; simp [Addr.add, go_sem]
  | 1 => simp [Cl.cells] at h; subst h; simp [Addr.add, go_sem]
  | 2 => simp [Cl.cells] at h; subst h; simp [Addr.add, go_sem]
  | j + 3 => simp [Cl.cells] at h
theorem crow_below {B : Nat} {w W W' : World} {n : Nat} {xs : List Value} {v : Value} {o : Obj} (hb : Below B w W) (hB : B ≤ w.heap.size) (hown : W.ownsRow B 67 3 v n xs) (hg : (W.alloc o).grownBy W' v.ownBlock) : Below B w W' := by
  have hs := hb.size
  exact (hb.alloc (by omega) o).grown hg (by simp; omega) fun g hg' => (hown.lt g hg').1
/-- Some columns of the call's own. -/
def OwnC (W : World) (B : Nat) (v : Value) (k : Nat) : Prop := ∃ cs : List Cl, W.ownsRow B 67 3 v k (ccellsOf cs)
theorem OwnC.snoc {W : World} {B : Nat} {v : Value} {k : Nat} {cs : List Cl} {x : Cl} (h : W.ownsRow B 67 3 v (k + 1) (ccellsOf cs ++ x.cells)) : OwnC W B v (k + 1) := ⟨cs ++ [x], by rw [ccells_snoc]; exact h⟩

set_option maxRecDepth 100000 in
set_option maxHeartbeats 4000000 in
theorem cols_any (A : Option Addr) (n cap : Nat) (l : List Cl) (w : World) (hc : ColS w A n l) (hsz : ∀ x ∈ l, x.n.size ≤ maxLen) :
    Calls Tryz.prog 10 #[.slice A n cap] w fun e w' => (∃ A' n' c' cs, e = .returned (.slice A' n' c') ∧ ColS w' A' n' cs ∧ ∀ a, A' = some a → w.heap.size ≤ a.block) ∧ Below w.heap.size w w' := by
  have hn := hc.2.1
  unfold maxLen at hn
  have hll := hc.1
  obtain ⟨i0, hi, hz0, hz1, hz2⟩ := info_parts infoCol
  have HS := Lib.hid (And.intro hc hsz)
  clear hc hsz
  have HL := Lib.hid hll
  clear hll
  go_enter Tryz.func10, Tryz.ntmps10
  go_wp2
  go_loopw [3, 4] (fun v i wr => ∃ k : Nat, k ≤ n ∧ k ≤ 9 ∧ i = .int .i64 k ∧ Below w.heap.size w wr ∧ OwnC wr w.heap.size v k) (fun _ i _ => n - (intOf i).toNat)
  case atStart => exact ⟨0, by omega, by omega, rfl, Below.refl _ _, [], World.ownsRow_nil _ _ _ _⟩
  case round =>
    obtain ⟨k, hk, hk9, rfl, hb, hown⟩ := hrel
    have hbs := hb.size
    by_cases hlt : k < n
    · by_cases h9 : k < 9
      · have hd1 : decide ((k : Int) < 9) = true := decide_eq_true (by omega)
        obtain ⟨cs, hown⟩ := hown
        obtain ⟨a, rfl, hA⟩ := HS.out.1.2.2 k (by rw [HL.out]; exact hlt)
        obtain ⟨x, hx⟩ : ∃ x, x = l[k]'(by rw [HL.out]; exact hlt) := ⟨_, rfl⟩
        rw [← hx] at hA
        have hxs : x.n.size ≤ 9223372036854775807 := (HS.out.2 x (by rw [hx]; exact List.getElem_mem _))
        have hA' := hA.keep (hb.block _ hA.lt)
        have ck := hA'.c0
        have ci := hA'.c1
        have ct := hA'.c2
        have HX := Lib.hid hxs
        clear hx hA hA'
        by_cases h20 : 20 < x.n.size
        · have hd2 : decide (20 < (x.n.size : Int)) = true := decide_eq_true (by omega)
          go_wp2_with (at_builtin; refine wpList_append_own _ rfl _ _ 27 rfl w.heap.size 67 i0 _ 3 32 Tryz.underlying27 hi hz0 hz1 hz2 rfl (by decide) _ _ _ rfl (World.ownsRow.alloc (World.ownsRow.alloc hown _) _) ⟨wr.heap.size + 1, 0, none⟩ 1 1 (Cl.cells ⟨x.n.extract 0 20, x.t, x.b⟩) rfl rfl ?e1 ?e2 ?e3 ?e4 ?e5 ?_)
          case e1 => exact new_ccells (x := ⟨x.n.extract 0 20, x.t, x.b⟩) (by simp)
          case e2 => intro u hu; exact ccells_one [⟨x.n.extract 0 20, x.t, x.b⟩] u (by simpa [ccellsOf] using hu)
          case e3 => unfold maxLen; omega
          case e4 => omega
          case e5 => simp; omega
          intro v' w2 hown' hgrow _
          have hb2 := crow_below (hb.alloc hbs _) (Nat.le_refl _) (World.ownsRow.alloc hown _) hgrow
          have HO := Lib.hid (OwnC.snoc hown')
          clear hown' hown hgrow
          go_wp2
          go_roundw
          case rel => exact ⟨k + 1, by omega, by omega, by go_num, hb2, HO.out⟩
          case measure => simp [intOf]; omega
        · have hd2 : decide (20 < (x.n.size : Int)) = false := decide_eq_false (by omega)
          go_wp2_with (at_builtin; refine wpList_append_own _ rfl _ _ 27 rfl w.heap.size 67 i0 _ 3 32 Tryz.underlying27 hi hz0 hz1 hz2 rfl (by decide) _ _ _ rfl (World.ownsRow.alloc (World.ownsRow.alloc hown _) _) ⟨wr.heap.size + 1, 0, none⟩ 1 1 (Cl.cells ⟨x.n, x.t, x.b⟩) rfl rfl ?g1 ?g2 ?g3 ?g4 ?g5 ?_)
          case g1 => exact new_ccells (x := ⟨x.n, x.t, x.b⟩) (by simp)
          case g2 => intro u hu; exact ccells_one [⟨x.n, x.t, x.b⟩] u (by simpa [ccellsOf] using hu)
          case g3 => unfold maxLen; omega
          case g4 => omega
          case g5 => simp; omega
          intro v' w2 hown' hgrow _
          have hb2 := crow_below (hb.alloc hbs _) (Nat.le_refl _) (World.ownsRow.alloc hown _) hgrow
          have HO := Lib.hid (OwnC.snoc hown')
          clear hown' hown hgrow
          go_wp2
          go_roundw
          case rel => exact ⟨k + 1, by omega, by omega, by go_num, hb2, HO.out⟩
          case measure => simp [intOf]; omega
      · have hd1 : decide ((k : Int) < 9) = false := decide_eq_false (by omega)
        obtain ⟨cs, hown⟩ := hown
        have HO := Lib.hid hown
        clear hown
        go_wp2
        go_ret
        obtain ⟨A', c', rfl, hC⟩ := ColS.of_own HO.out
        exact ⟨⟨_, _, _, _, rfl, hC⟩, hb⟩
    · obtain ⟨cs, hown⟩ := hown
      have HO := Lib.hid hown
      clear hown
      go_wp2
      go_ret
      obtain ⟨A', c', rfl, hC⟩ := ColS.of_own HO.out
      exact ⟨⟨_, _, _, _, rfl, hC⟩, hb⟩
end Go.Proofs.YtmgcmiflbjhakaaGreatDoor

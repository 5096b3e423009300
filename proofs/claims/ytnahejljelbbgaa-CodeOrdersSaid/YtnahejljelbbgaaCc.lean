import Derived.Test.YtnahejljelbbgaaCb
import Derived.Deep.Cut
/- The octets of a value: code.Value. -/
namespace Go.Proofs.Ytnahejljelbbgaa
open Go.RowKit Go.Lib

/-- A value's octets. -/
def valO (k i : Int) (s : ByteArray) : List UInt8 :=
  if mayB k i s then (if k = 1 then [1] ++ be8 (i + 9223372036854775808) else if k = 2 then [2] ++ s.data.toList ++ [0] else if k = 3 then [3] ++ [UInt8.ofNat i.toNat] else [0]) else [0]

theorem Oct.form {W : World} {B : Nat} {v : Value} {L : List UInt8} (h : Oct W B v L) (hne : L ≠ []) : ∃ g cap, v = .slice (some ⟨g, 0, none⟩) L.length cap ∧ B ≤ g ∧ g < W.heap.size ∧ ∀ j, j < L.length → W.cell? ⟨g, 0 + j, none⟩ = some (.int .u8 ((L.map fun b => (b.toNat : Int)).getD j 0)) := by
  have hl : 0 < L.length := List.length_pos_iff.2 hne
  rcases h.2 with ⟨_, h0⟩ | ⟨g, cap, cur, hv, hB, hg, hc, hm, hs, ht⟩
  · omega
  · subst hv
    refine ⟨g, cap, rfl, hB, (Array.getElem?_eq_some_iff.1 hg).1, fun j hj => ?_⟩
    have h' : W.ownsRow B 5 1 (.slice (some ⟨g, 0, none⟩) L.length cap) L.length (byteCells L) := h
    rw [Nat.zero_add, h'.cellAt j (by omega)]
    simp [byteCells, hj]
theorem str_nums (L : List UInt8) : strOfNums (L.map fun b => (b.toNat : Int)) = ⟨L.toArray⟩ := by
  unfold strOfNums
  congr 1
  rw [List.map_map]
  have : ((fun n : Int => UInt8.ofNat n.toNat) ∘ fun b : UInt8 => (b.toNat : Int)) = id := by
    funext b
    simp
  first | (rw [this]; simp) | simp [this]
/-- What owns octets is turned into their string. -/
theorem Oct.conv {W : World} {B : Nat} {v : Value} {L : List UInt8} (h : Oct W B v L) (hne : L ≠ []) : (convert 38 9 v).run Try.prog W = .ok (.string ⟨L.toArray⟩) W := by
  obtain ⟨g, cap, rfl, _, _, hc⟩ := h.form hne
  have := run_convert_bytes_arg (P := Try.prog) W 38 5 Try.underlying38 Try.underlying5 g 0 L.length cap (L.map fun b => (b.toNat : Int)) (by simp) hc 9 Try.underlying9
  rw [str_nums] at this
  exact this
theorem Oct.lit {W : World} {B g : Nat} {b : UInt8} {x : Int} (hg : g = W.heap.size) (hB : B ≤ W.heap.size) (hx : (b.toNat : Int) = x) : Oct (W.alloc (.cells #[.int .u8 x] 5)) B (.slice (some ⟨g, 0, none⟩) 1 1) [b] := by
  subst hx hg
  exact World.ownsRow_lit W #[.int .u8 b.toNat] 1 hB (by unfold maxLen; omega) rfl
theorem Oct.app {W W' : World} {B : Nat} {v : Value} {l r : List UInt8} {n : Nat} {xs : List Value} (h : W'.ownsRow B 5 1 v (l.length + n) (byteCells l ++ xs)) (hn : n = r.length) (hx : xs = byteCells r) : Oct W' B v (l ++ r) := by
  unfold Oct
  rw [byteCells_app, List.length_append]
  subst hn hx
  exact h
theorem str_below {B : Nat} {W W' : World} {l : List UInt8} {v : Value} (hB : B ≤ W.heap.size) (hown : Oct W B v l) (hg : W.grownBy W' v.ownBlock) : Below B W W' :=
  (Below.refl B W).grown hg hB fun g hg' => (hown.lt g hg').1

set_option maxRecDepth 100000 in
set_option maxHeartbeats 4000000 in
theorem value_f (k i : Int) (s : ByteArray) (w : World) (hi : In64 i) (hm : mayB k i s = false) :
    Calls Try.prog 8 #[.agg #[.int .i64 k, .int .i64 i, .string s]] w fun e w' => e = .returned (.string ⟨([0]).toArray⟩) ∧ Below w.heap.size w w' := by
  have HM := Lib.hid hm
  have HI := Lib.hid hi
  clear hm hi
  go_enter Try.func8, Try.ntmps8
  go_upto_region 4 with (go_at_call 16; refine (may_f _ _ _ _ HM.out).mono ?_; rintro e w1 ⟨rfl, hb1⟩; have hc1 := (bcell hb1).1; have hf1 := (bcell hb1).2; have hy1 := hb1.size; (try simp at hy1); have hz1_0 : w.heap.size < w1.heap.size := (by omega))
  refine wp_gen (fun W => Below w.heap.size w W ∧ At3 W w.heap.size (0) (0) ⟨#[]⟩ ∧ Oct W (w.heap.size + 1) (.slice (some ⟨w1.heap.size, 0, none⟩) 1 1) [0] ∧ w.heap.size + 1 ≤ W.heap.size) ⟨?_, ?_, ?_, ?_⟩ ?_
  · repeat (first | (with_reducible exact Below.refl _ _) | ((with_reducible refine cSet3 ?_ ?_ _ _ _); (· ((try simp) <;> omega))) | (with_reducible refine Below.drew ?_) | ((with_reducible refine cAlloc ?_ ?_ _); (· ((try simp) <;> omega))) | ((with_reducible refine cOn (by assumption) ?_ ?_); (· ((try simp) <;> omega))))
  · have a0 : At3 w1 w.heap.size k i s := At3.later (by repeat (first | (with_reducible assumption) | (with_reducible exact Box.of (by assumption)) | ((with_reducible refine At3.new ?_); simp) | (with_reducible refine At3.drew ?_) | (with_reducible refine At3.alloc ?_ _) | (with_reducible refine Box.drew ?_) | (with_reducible refine Box.alloc ?_ _) | (with_reducible refine Box.set ?_ _ _ _) | ((with_reducible refine At3.set_other' ?_ ?_ _ _ _); (· omega)) | ((with_reducible refine Box.set_other ?_ ?_ _ _ _); (· omega)))) hb1
    repeat (first | (with_reducible assumption) | (with_reducible exact Box.of (by assumption)) | ((with_reducible refine At3.new ?_); simp) | (with_reducible refine At3.drew ?_) | (with_reducible refine At3.alloc ?_ _) | (with_reducible refine Box.drew ?_) | (with_reducible refine Box.alloc ?_ _) | (with_reducible refine Box.set ?_ _ _ _) | ((with_reducible refine At3.set_other' ?_ ?_ _ _ _); (· omega)) | ((with_reducible refine Box.set_other ?_ ?_ _ _ _); (· omega)))
  · exact Oct.lit (by simp) (by (try simp) <;> omega) (by rfl)
  · (try simp) <;> omega
  rintro W ⟨hB, A0, ho, hz⟩
  clear hc1 hf1 hb1 hy1 hz1_0
  have c0k := A0.k
  have c0i := A0.i
  have c0s := A0.s
  have l0 := A0.lt
  have hcv := Oct.conv ho (by simp)
  go_wp2
  go_ret
  exact ⟨rfl, hB⟩

set_option maxRecDepth 100000 in
set_option maxHeartbeats 4000000 in
theorem value_0 (k i : Int) (s : ByteArray) (w : World) (hi : In64 i) (hm : mayB k i s = true) (hk : k = 0) :
    Calls Try.prog 8 #[.agg #[.int .i64 k, .int .i64 i, .string s]] w fun e w' => e = .returned (.string ⟨([0]).toArray⟩) ∧ Below w.heap.size w w' := by
  have HM := Lib.hid hm
  have HI := Lib.hid hi
  clear hm hi
  subst hk
  go_enter Try.func8, Try.ntmps8
  go_upto_region 4 with (go_at_call 16; refine (may_t _ _ _ _ HM.out).mono ?_; rintro e w1 ⟨rfl, hb1⟩; have hc1 := (bcell hb1).1; have hf1 := (bcell hb1).2; have hy1 := hb1.size; (try simp at hy1); have hz1_0 : w.heap.size < w1.heap.size := (by omega))
  refine wp_gen (fun W => Below w.heap.size w W ∧ At3 W w.heap.size (0) (i) s ∧ Oct W (w.heap.size + 1) (.slice (some ⟨w1.heap.size, 0, none⟩) 1 1) [0] ∧ w.heap.size + 1 ≤ W.heap.size) ⟨?_, ?_, ?_, ?_⟩ ?_
  · repeat (first | (with_reducible exact Below.refl _ _) | ((with_reducible refine cSet3 ?_ ?_ _ _ _); (· ((try simp) <;> omega))) | (with_reducible refine Below.drew ?_) | ((with_reducible refine cAlloc ?_ ?_ _); (· ((try simp) <;> omega))) | ((with_reducible refine cOn (by assumption) ?_ ?_); (· ((try simp) <;> omega))))
  · have a0 : At3 w1 w.heap.size 0 i s := At3.later (by repeat (first | (with_reducible assumption) | (with_reducible exact Box.of (by assumption)) | ((with_reducible refine At3.new ?_); simp) | (with_reducible refine At3.drew ?_) | (with_reducible refine At3.alloc ?_ _) | (with_reducible refine Box.drew ?_) | (with_reducible refine Box.alloc ?_ _) | (with_reducible refine Box.set ?_ _ _ _) | ((with_reducible refine At3.set_other' ?_ ?_ _ _ _); (· omega)) | ((with_reducible refine Box.set_other ?_ ?_ _ _ _); (· omega)))) hb1
    repeat (first | (with_reducible assumption) | (with_reducible exact Box.of (by assumption)) | ((with_reducible refine At3.new ?_); simp) | (with_reducible refine At3.drew ?_) | (with_reducible refine At3.alloc ?_ _) | (with_reducible refine Box.drew ?_) | (with_reducible refine Box.alloc ?_ _) | (with_reducible refine Box.set ?_ _ _ _) | ((with_reducible refine At3.set_other' ?_ ?_ _ _ _); (· omega)) | ((with_reducible refine Box.set_other ?_ ?_ _ _ _); (· omega)))
  · exact Oct.lit (by simp) (by (try simp) <;> omega) (by rfl)
  · (try simp) <;> omega
  rintro W ⟨hB, A0, ho, hz⟩
  clear hc1 hf1 hb1 hy1 hz1_0
  have c0k := A0.k
  have c0i := A0.i
  have c0s := A0.s
  have l0 := A0.lt
  have hcv := Oct.conv ho (by simp)
  go_wp2
  go_ret
  exact ⟨rfl, hB⟩

set_option maxRecDepth 100000 in
set_option maxHeartbeats 4000000 in
theorem value_1 (k i : Int) (s : ByteArray) (w : World) (hi : In64 i) (hm : mayB k i s = true) (hk : k = 1) :
    Calls Try.prog 8 #[.agg #[.int .i64 k, .int .i64 i, .string s]] w fun e w' => e = .returned (.string ⟨([1] ++ be8 (i + 9223372036854775808)).toArray⟩) ∧ Below w.heap.size w w' := by
  have HM := Lib.hid hm
  have HI := Lib.hid hi
  clear hm hi
  subst hk
  go_enter Try.func8, Try.ntmps8
  go_upto_region 4 with (go_at_call 16; refine (may_t _ _ _ _ HM.out).mono ?_; rintro e w1 ⟨rfl, hb1⟩; have hc1 := (bcell hb1).1; have hf1 := (bcell hb1).2; have hy1 := hb1.size; (try simp at hy1); have hz1_0 : w.heap.size < w1.heap.size := (by omega))
  refine wp_gen (fun W => Below w.heap.size w W ∧ At3 W w.heap.size (1) (i) s ∧ Oct W (w.heap.size + 1) (.slice (some ⟨w1.heap.size, 0, none⟩) 1 1) [1] ∧ w.heap.size + 1 ≤ W.heap.size) ⟨?_, ?_, ?_, ?_⟩ ?_
  · repeat (first | (with_reducible exact Below.refl _ _) | ((with_reducible refine cSet3 ?_ ?_ _ _ _); (· ((try simp) <;> omega))) | (with_reducible refine Below.drew ?_) | ((with_reducible refine cAlloc ?_ ?_ _); (· ((try simp) <;> omega))) | ((with_reducible refine cOn (by assumption) ?_ ?_); (· ((try simp) <;> omega))))
  · have a0 : At3 w1 w.heap.size 1 i s := At3.later (by repeat (first | (with_reducible assumption) | (with_reducible exact Box.of (by assumption)) | ((with_reducible refine At3.new ?_); simp) | (with_reducible refine At3.drew ?_) | (with_reducible refine At3.alloc ?_ _) | (with_reducible refine Box.drew ?_) | (with_reducible refine Box.alloc ?_ _) | (with_reducible refine Box.set ?_ _ _ _) | ((with_reducible refine At3.set_other' ?_ ?_ _ _ _); (· omega)) | ((with_reducible refine Box.set_other ?_ ?_ _ _ _); (· omega)))) hb1
    repeat (first | (with_reducible assumption) | (with_reducible exact Box.of (by assumption)) | ((with_reducible refine At3.new ?_); simp) | (with_reducible refine At3.drew ?_) | (with_reducible refine At3.alloc ?_ _) | (with_reducible refine Box.drew ?_) | (with_reducible refine Box.alloc ?_ _) | (with_reducible refine Box.set ?_ _ _ _) | ((with_reducible refine At3.set_other' ?_ ?_ _ _ _); (· omega)) | ((with_reducible refine Box.set_other ?_ ?_ _ _ _); (· omega)))
  · exact Oct.lit (by simp) (by (try simp) <;> omega) (by rfl)
  · (try simp) <;> omega
  rintro W ⟨hB, A0, ho, hz⟩
  clear hc1 hf1 hb1 hy1 hz1_0
  have c0k := A0.k
  have c0i := A0.i
  have c0s := A0.s
  have l0 := A0.lt
  have HO := Lib.hid ho
  clear ho
  go_wp2_with (go_at_call 17; refine (lay_any _ [1] i W (w.heap.size + 1) hz HI.out (by simp) HO.out).mono ?_; rintro e w2 ⟨v', rfl, ho2, hb2⟩; have hcv := Oct.conv ho2 (by simp); clear ho2)
  go_ret
  exact ⟨rfl, hB.trans (hb2.mono (by omega))⟩

set_option maxRecDepth 100000 in
set_option maxHeartbeats 4000000 in
theorem value_2 (k i : Int) (s : ByteArray) (w : World) (hi : In64 i) (hm : mayB k i s = true) (hk : k = 2) (hs : s.size ≤ 40) :
    Calls Try.prog 8 #[.agg #[.int .i64 k, .int .i64 i, .string s]] w fun e w' => e = .returned (.string ⟨([2] ++ s.data.toList ++ [0]).toArray⟩) ∧ Below w.heap.size w w' := by
  have HM := Lib.hid hm
  have HI := Lib.hid hi
  clear hm hi
  subst hk
  go_enter Try.func8, Try.ntmps8
  go_upto_region 4 with (go_at_call 16; refine (may_t _ _ _ _ HM.out).mono ?_; rintro e w1 ⟨rfl, hb1⟩; have hc1 := (bcell hb1).1; have hf1 := (bcell hb1).2; have hy1 := hb1.size; (try simp at hy1); have hz1_0 : w.heap.size < w1.heap.size := (by omega))
  refine wp_gen (fun W => Below w.heap.size w W ∧ At3 W w.heap.size (2) (i) s ∧ Oct W (w.heap.size + 1) (.slice (some ⟨w1.heap.size, 0, none⟩) 1 1) [2] ∧ w.heap.size + 1 ≤ W.heap.size) ⟨?_, ?_, ?_, ?_⟩ ?_
  · repeat (first | (with_reducible exact Below.refl _ _) | ((with_reducible refine cSet3 ?_ ?_ _ _ _); (· ((try simp) <;> omega))) | (with_reducible refine Below.drew ?_) | ((with_reducible refine cAlloc ?_ ?_ _); (· ((try simp) <;> omega))) | ((with_reducible refine cOn (by assumption) ?_ ?_); (· ((try simp) <;> omega))))
  · have a0 : At3 w1 w.heap.size 2 i s := At3.later (by repeat (first | (with_reducible assumption) | (with_reducible exact Box.of (by assumption)) | ((with_reducible refine At3.new ?_); simp) | (with_reducible refine At3.drew ?_) | (with_reducible refine At3.alloc ?_ _) | (with_reducible refine Box.drew ?_) | (with_reducible refine Box.alloc ?_ _) | (with_reducible refine Box.set ?_ _ _ _) | ((with_reducible refine At3.set_other' ?_ ?_ _ _ _); (· omega)) | ((with_reducible refine Box.set_other ?_ ?_ _ _ _); (· omega)))) hb1
    repeat (first | (with_reducible assumption) | (with_reducible exact Box.of (by assumption)) | ((with_reducible refine At3.new ?_); simp) | (with_reducible refine At3.drew ?_) | (with_reducible refine At3.alloc ?_ _) | (with_reducible refine Box.drew ?_) | (with_reducible refine Box.alloc ?_ _) | (with_reducible refine Box.set ?_ _ _ _) | ((with_reducible refine At3.set_other' ?_ ?_ _ _ _); (· omega)) | ((with_reducible refine Box.set_other ?_ ?_ _ _ _); (· omega)))
  · exact Oct.lit (by simp) (by (try simp) <;> omega) (by rfl)
  · (try simp) <;> omega
  rintro W ⟨hB, A0, ho, hz⟩
  clear hc1 hf1 hb1 hy1 hz1_0
  obtain ⟨i0, hi, hz0, hz1, hz2⟩ := info_parts infoByte
  have c0k := A0.k
  have c0i := A0.i
  have c0s := A0.s
  have l0 := A0.lt
  go_wp2_with (at_builtin; refine wpList_append_own_string _ rfl _ _ 38 9 rfl (w.heap.size + 1) 5 i0 Try.underlying38 Try.underlying9 hi hz0 hz1 hz2 _ _ _ rfl ho s rfl ?c1 ?c2 ?c3 ?_)
  case c1 => unfold maxLen; simp; omega
  case c2 => simp; omega
  case c3 => exact hz
  intro v1 w2 hown1 hgrow1 _
  have hb2 := str_below hz ho hgrow1
  have ho1 : Oct w2 (w.heap.size + 1) v1 ([2] ++ s.data.toList) := Oct.app (W := W) hown1 (by simp) rfl
  have hz2' : w.heap.size + 1 ≤ w2.heap.size := Nat.le_trans hz hb2.size
  clear hown1 hgrow1 ho
  go_wp2_with (at_builtin; refine wpList_append_own _ rfl _ _ 38 rfl (w.heap.size + 1) 5 i0 (.int .u8 0) 1 1 Try.underlying38 hi hz0 hz1 hz2 rfl (by decide) _ _ _ rfl (World.ownsRow.alloc ho1 _) ⟨w2.heap.size, 0, none⟩ 1 1 [.int .u8 0] rfl rfl ?d1 ?d2 ?d3 ?d4 ?d5 ?_)
  case d1 => exact one_cell
  case d2 => intro u hu; simp at hu; subst hu; rfl
  case d3 => unfold maxLen; simp; omega
  case d4 => simp; omega
  case d5 => simp; omega
  intro v2 w3 hown2 hgrow2 _
  have hb3 := oct_below (Below.refl _ _) hz2' ho1 hgrow2
  have hcv := Oct.conv (Oct.snoc (b := 0) hown2 rfl) (by simp)
  clear hown2 hgrow2 ho1
  go_wp2
  go_ret
  exact ⟨rfl, hB.trans ((hb2.trans hb3).mono (by omega))⟩

set_option maxRecDepth 100000 in
set_option maxHeartbeats 4000000 in
theorem value_3 (k i : Int) (s : ByteArray) (w : World) (hi : In64 i) (hm : mayB k i s = true) (hk : k = 3) (h0 : 0 ≤ i) (h1 : i ≤ 1) :
    Calls Try.prog 8 #[.agg #[.int .i64 k, .int .i64 i, .string s]] w fun e w' => e = .returned (.string ⟨([3] ++ [UInt8.ofNat i.toNat]).toArray⟩) ∧ Below w.heap.size w w' := by
  have HM := Lib.hid hm
  have HI := Lib.hid hi
  clear hm hi
  subst hk
  go_enter Try.func8, Try.ntmps8
  go_upto_region 4 with (go_at_call 16; refine (may_t _ _ _ _ HM.out).mono ?_; rintro e w1 ⟨rfl, hb1⟩; have hc1 := (bcell hb1).1; have hf1 := (bcell hb1).2; have hy1 := hb1.size; (try simp at hy1); have hz1_0 : w.heap.size < w1.heap.size := (by omega))
  refine wp_gen (fun W => Below w.heap.size w W ∧ At3 W w.heap.size (3) (i) s ∧ Oct W (w.heap.size + 1) (.slice (some ⟨w1.heap.size, 0, none⟩) 1 1) [3] ∧ w.heap.size + 1 ≤ W.heap.size) ⟨?_, ?_, ?_, ?_⟩ ?_
  · repeat (first | (with_reducible exact Below.refl _ _) | ((with_reducible refine cSet3 ?_ ?_ _ _ _); (· ((try simp) <;> omega))) | (with_reducible refine Below.drew ?_) | ((with_reducible refine cAlloc ?_ ?_ _); (· ((try simp) <;> omega))) | ((with_reducible refine cOn (by assumption) ?_ ?_); (· ((try simp) <;> omega))))
  · have a0 : At3 w1 w.heap.size 3 i s := At3.later (by repeat (first | (with_reducible assumption) | (with_reducible exact Box.of (by assumption)) | ((with_reducible refine At3.new ?_); simp) | (with_reducible refine At3.drew ?_) | (with_reducible refine At3.alloc ?_ _) | (with_reducible refine Box.drew ?_) | (with_reducible refine Box.alloc ?_ _) | (with_reducible refine Box.set ?_ _ _ _) | ((with_reducible refine At3.set_other' ?_ ?_ _ _ _); (· omega)) | ((with_reducible refine Box.set_other ?_ ?_ _ _ _); (· omega)))) hb1
    repeat (first | (with_reducible assumption) | (with_reducible exact Box.of (by assumption)) | ((with_reducible refine At3.new ?_); simp) | (with_reducible refine At3.drew ?_) | (with_reducible refine At3.alloc ?_ _) | (with_reducible refine Box.drew ?_) | (with_reducible refine Box.alloc ?_ _) | (with_reducible refine Box.set ?_ _ _ _) | ((with_reducible refine At3.set_other' ?_ ?_ _ _ _); (· omega)) | ((with_reducible refine Box.set_other ?_ ?_ _ _ _); (· omega)))
  · exact Oct.lit (by simp) (by (try simp) <;> omega) (by rfl)
  · (try simp) <;> omega
  rintro W ⟨hB, A0, ho, hz⟩
  clear hc1 hf1 hb1 hy1 hz1_0
  obtain ⟨i0, hi, hz0, hz1, hz2⟩ := info_parts infoByte
  have c0k := A0.k
  have c0i := A0.i
  have c0s := A0.s
  have l0 := A0.lt
  go_wp2_with (at_builtin; refine wpList_append_own _ rfl _ _ 38 rfl (w.heap.size + 1) 5 i0 (.int .u8 0) 1 1 Try.underlying38 hi hz0 hz1 hz2 rfl (by decide) _ _ _ rfl (World.ownsRow.alloc ho _) ⟨W.heap.size, 0, none⟩ 1 1 [.int .u8 i] rfl rfl ?d1 ?d2 ?d3 ?d4 ?d5 ?_)
  case d1 => exact one_cell
  case d2 => intro u hu; simp at hu; subst hu; rfl
  case d3 => unfold maxLen; simp
  case d4 => simp
  case d5 => simp; omega
  intro v2 w3 hown2 hgrow2 _
  have hb3 := oct_below (Below.refl _ _) hz ho hgrow2
  have hcv := Oct.conv (Oct.snoc (b := UInt8.ofNat i.toNat) hown2 (by rw [UInt8.toNat_ofNat']; omega)) (by simp)
  clear hown2 hgrow2 ho
  go_wp2
  go_ret
  exact ⟨rfl, hB.trans (hb3.mono (by omega))⟩

theorem value_any (k i : Int) (s : ByteArray) (w : World) (hi : In64 i) :
    Calls Try.prog 8 #[.agg #[.int .i64 k, .int .i64 i, .string s]] w fun e w' => e = .returned (.string ⟨(valO k i s).toArray⟩) ∧ Below w.heap.size w w' := by
  unfold valO
  cases hm : mayB k i s with
  | false => exact value_f k i s w hi hm
  | true =>
    rw [if_pos rfl]
    have hm' := hm
    unfold mayB at hm'
    by_cases h1 : k = 1
    · rw [if_pos h1]; exact value_1 k i s w hi hm h1
    · by_cases h2 : k = 2
      · rw [if_neg h1, if_pos h2]
        simp [h2] at hm'
        exact value_2 k i s w hi hm h2 hm'.1.2
      · by_cases h3 : k = 3
        · rw [if_neg h1, if_neg h2, if_pos h3]
          simp [h3] at hm'
          exact value_3 k i s w hi hm h3 (by omega) (by omega)
        · rw [if_neg h1, if_neg h2, if_neg h3]
          have h0 : k = 0 := Classical.byContradiction fun h0 => by simp [h0, h1, h2, h3] at hm'
          exact value_0 k i s w hi hm h0
end Go.Proofs.Ytnahejljelbbgaa

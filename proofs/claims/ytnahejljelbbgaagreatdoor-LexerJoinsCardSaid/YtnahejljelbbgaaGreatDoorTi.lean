import Derived.Test.YtnahejljelbbgaaGreatDoorTh
import Derived.Test.YtnahejljelbbgaaGreatDoorShelg
import Derived.Shelf.Strconv.ParseIntPublic10
/- strconv.ParseInt at base 10; what a text is guessed to be. -/
namespace Go.Proofs.YtnahejljelbbgaaGreatDoor
open Go.RowKit Go.Lib

/-- The library's two errors are no nil. -/
structure Errs (w : World) : Prop where
  a : ∃ te pe, w.cell? ⟨6, 0, none⟩ = some (.iface te pe)
  b : ∃ te pe, w.cell? ⟨7, 0, none⟩ = some (.iface te pe)
theorem Errs.keep {w w' : World} {B : Nat} (h : Errs w) (hb : Below B w w') (hB : w.heap.size ≤ B) : Errs w' :=
  ⟨by
    obtain ⟨te, pe, h⟩ := h.a
    have hlt := World.block_lt_of_cell? w _ h
    exact ⟨te, pe, (hb.cell (p := ⟨_, 0, none⟩) (Nat.lt_of_lt_of_le hlt hB)).trans h⟩, by
    obtain ⟨te, pe, h⟩ := h.b
    have hlt := World.block_lt_of_cell? w _ h
    exact ⟨te, pe, (hb.cell (p := ⟨_, 0, none⟩) (Nat.lt_of_lt_of_le hlt hB)).trans h⟩⟩
structure LibE (w : World) : Prop where
  libs : Libs w
  errs : Errs w
theorem LibE.keep {w w' : World} {B : Nat} (h : LibE w) (hb : Below B w w') (hB : w.heap.size ≤ B) : LibE w' := ⟨h.libs.keep hb hB, h.errs.keep hb hB⟩
theorem LibE.drew {w : World} (h : LibE w) : LibE w.drew := h.keep ((Below.refl w.heap.size w).drew) (Nat.le_refl _)

theorem pint_ok (s : ByteArray) (w : World) (v : Int) (h : parseIntB 64 s.data.toList = .ok v) (hs : s.size ≤ 100000) :
    Calls Tryz.prog 81 #[.string s, .int .i64 10, .int .i64 64] w fun e w' => e = .returned (.tuple #[.int .i64 v, .nilIface]) ∧ Below w.heap.size w w' :=
  (Tryz.strconv_ParseInt_10_at64_ok s (by omega) v h w).mono fun e w' ⟨h1, h2⟩ => ⟨h1, by
    rcases h2 with rfl | ⟨t, rfl⟩
    · exact Below.refl _ _
    · exact Lib.bytesWorld_below _ _ _⟩
theorem pint_none (s : ByteArray) (w : World) (h : ∀ v, parseIntB 64 s.data.toList ≠ .ok v) (hs : s.size ≤ 100000) (he : Errs w) :
    Calls Tryz.prog 81 #[.string s, .int .i64 10, .int .i64 64] w fun e w' => (∃ x a b, e = .returned (.tuple #[.int .i64 x, .iface a b])) ∧ Below w.heap.size w w' := by
  cases hp : parseIntB 64 s.data.toList with
  | ok v => exact absurd hp (h v)
  | range =>
    obtain ⟨te, pe, hv⟩ := he.b
    exact (Any.strconv_ParseInt_10_at64_range Tryz.laysC174 s (by omega) hp _ w hv (.inr ⟨te, pe, rfl⟩)).mono fun e w' ⟨N, h1, h2, h3, h4⟩ => ⟨⟨_, _, _, h1⟩, h4⟩
  | _ =>
    obtain ⟨te, pe, hv⟩ := he.a
    exact (Any.strconv_ParseInt_10_at64_syntax Tryz.laysC174 s (by omega) hp _ w hv (.inr ⟨te, pe, rfl⟩)).mono fun e w' ⟨N, h1, h2, h3, h4⟩ => ⟨⟨_, _, _, h1⟩, h4⟩

theorem replace3_any (s : ByteArray) (w : World) (hs : s.size ≤ 100000) (hl : Libs w) :
    Calls Tryz.prog 46 #[.string s, .string ⟨#[39, 39]⟩, .string ⟨#[39]⟩] w fun e w' => e = .returned (.string ⟨(Lib.replaceAll s.data.toList [39, 39] [39]).toArray⟩) ∧ Below w.heap.size w w' := by
  obtain ⟨m, hm⟩ := hl.max
  have hc := countB_mul_le ⟨#[39, 39]⟩ (by decide) s.size s (Nat.le_refl _)
  exact Tryz.strings_ReplaceAll s ⟨#[39, 39]⟩ ⟨#[39]⟩ m w (by omega) hm (by decide) (by
    have e1 : (⟨#[39]⟩ : ByteArray).size = 1 := rfl
    have e2 : (⟨#[39, 39]⟩ : ByteArray).size = 2 := rfl
    rw [e2] at hc
    rw [e1]
    omega)

theorem wrap_one (s : ByteArray) (h : 1 ≤ s.size) (hs : s.size ≤ 100000) : wrap64 ((s.size : Int) - 1) = ((s.size - 1 : Nat) : Int) := by
  rw [wrap_in (by unfold In64; omega)]
  omega

set_option maxRecDepth 100000 in
set_option maxHeartbeats 800000 in
theorem guess_t (s : ByteArray) (w : World) (h : s = ⟨#[84, 82, 85, 69]⟩) :
    Calls Tryz.prog 69 #[.string s] w fun e w' => e = .returned (.agg #[.int .i64 3, .int .i64 1, .string ⟨#[]⟩]) ∧ Below w.heap.size w w' := by
  subst h
  go_enter Tryz.func69, Tryz.ntmps69
  go_wp2_with (first
    | (go_at_call 47; refine (truth_t _).mono ?_; rintro e w1 ⟨rfl, hb1⟩; have hc1 := (bcell hb1).1; have hf1 := (bcell hb1).2; have hy1 := hb1.size; (try simp at hy1); have hz1_0 : w.heap.size < w1.heap.size := (by omega)))
  refine bodyPost_ret (v := .agg #[.int .i64 3, .int .i64 1, .string ⟨#[]⟩]) ?_ rfl ⟨rfl, ?_⟩
  · (simp [results, Tryz.results69, go_sem, *]; done)
  repeat (first | (with_reducible exact Below.refl _ _) | ((with_reducible refine cSet3 ?_ ?_ _ _ _); (· ((try simp) <;> omega))) | (with_reducible refine Below.drew ?_) | ((with_reducible refine cAlloc ?_ ?_ _); (· ((try simp) <;> omega))) | ((with_reducible refine cOn (by assumption) ?_ ?_); (· ((try simp) <;> omega))))

set_option maxRecDepth 100000 in
set_option maxHeartbeats 800000 in
theorem guess_f (s : ByteArray) (w : World) (h : s = ⟨#[70, 65, 76, 83, 69]⟩) :
    Calls Tryz.prog 69 #[.string s] w fun e w' => e = .returned (.agg #[.int .i64 3, .int .i64 0, .string ⟨#[]⟩]) ∧ Below w.heap.size w w' := by
  subst h
  go_enter Tryz.func69, Tryz.ntmps69
  go_wp2_with (first
    | (go_at_call 47; refine (truth_f _).mono ?_; rintro e w1 ⟨rfl, hb1⟩; have hc1 := (bcell hb1).1; have hf1 := (bcell hb1).2; have hy1 := hb1.size; (try simp at hy1); have hz1_0 : w.heap.size < w1.heap.size := (by omega)))
  refine bodyPost_ret (v := .agg #[.int .i64 3, .int .i64 0, .string ⟨#[]⟩]) ?_ rfl ⟨rfl, ?_⟩
  · (simp [results, Tryz.results69, go_sem, *]; done)
  repeat (first | (with_reducible exact Below.refl _ _) | ((with_reducible refine cSet3 ?_ ?_ _ _ _); (· ((try simp) <;> omega))) | (with_reducible refine Below.drew ?_) | ((with_reducible refine cAlloc ?_ ?_ _); (· ((try simp) <;> omega))) | ((with_reducible refine cOn (by assumption) ?_ ?_); (· ((try simp) <;> omega))))

set_option maxRecDepth 100000 in
set_option maxHeartbeats 800000 in
theorem guess_q (s : ByteArray) (w : World) (h1 : (s.toList == [84, 82, 85, 69]) = false) (h2 : (s.toList == [70, 65, 76, 83, 69]) = false) (h3 : 2 ≤ s.size) (h0 : (s[0].toNat : Int) = 39) (hs : s.size ≤ 100000) (hl : Libs w) :
    Calls Tryz.prog 69 #[.string s] w fun e w' => e = .returned (.agg #[.int .i64 2, .int .i64 0, .string ⟨(Lib.replaceAll (s.extract 1 (s.size - 1)).data.toList [39, 39] [39]).toArray⟩]) ∧ Below w.heap.size w w' := by
  have hw := wrap_one s (by omega) hs
  have HL := Lib.hid hl
  have HX := Lib.hid (show (s.extract 1 (s.size - 1)).size ≤ 100000 by rw [ByteArray.size_extract]; omega)
  clear hl
  go_enter Tryz.func69, Tryz.ntmps69
  go_wp2_with (first
    | (go_at_call 46; refine (replace3_any _ _ HX.out (HL.out.keep (by repeat (first | (with_reducible exact Below.refl _ _) | ((with_reducible refine cSet3 ?_ ?_ _ _ _); (· ((try simp) <;> omega))) | (with_reducible refine Below.drew ?_) | ((with_reducible refine cAlloc ?_ ?_ _); (· ((try simp) <;> omega))) | ((with_reducible refine cOn (by assumption) ?_ ?_); (· ((try simp) <;> omega))))) (Nat.le_refl _))).mono ?_; rintro e w1 ⟨rfl, hb1⟩; have hc1 := (bcell hb1).1; have hf1 := (bcell hb1).2; have hy1 := hb1.size; (try simp at hy1); have hz1_0 : w.heap.size < w1.heap.size := (by omega)))
  refine bodyPost_ret (v := .agg #[.int .i64 2, .int .i64 0, .string ⟨(Lib.replaceAll (s.extract 1 (s.size - 1)).data.toList [39, 39] [39]).toArray⟩]) ?_ rfl ⟨rfl, ?_⟩
  · (simp [results, Tryz.results69, go_sem, *]; done)
  repeat (first | (with_reducible exact Below.refl _ _) | ((with_reducible refine cSet3 ?_ ?_ _ _ _); (· ((try simp) <;> omega))) | (with_reducible refine Below.drew ?_) | ((with_reducible refine cAlloc ?_ ?_ _); (· ((try simp) <;> omega))) | ((with_reducible refine cOn (by assumption) ?_ ?_); (· ((try simp) <;> omega))))

set_option maxRecDepth 100000 in
set_option maxHeartbeats 800000 in
theorem guess_na (s : ByteArray) (w : World) (h1 : (s.toList == [84, 82, 85, 69]) = false) (h2 : (s.toList == [70, 65, 76, 83, 69]) = false) (h3 : s.size < 2) (v : Int) (hp : parseIntB 64 s.data.toList = .ok v) (hs : s.size ≤ 100000) :
    Calls Tryz.prog 69 #[.string s] w fun e w' => e = .returned (.agg #[.int .i64 1, .int .i64 v, .string ⟨#[]⟩]) ∧ Below w.heap.size w w' := by
  have HP := Lib.hid hp
  have HX := Lib.hid hs
  clear hp hs
  go_enter Tryz.func69, Tryz.ntmps69
  go_wp2_with (first
    | (go_at_call 81; refine (pint_ok _ _ _ HP.out HX.out).mono ?_; rintro e w1 ⟨rfl, hb1⟩; have hc1 := (bcell hb1).1; have hf1 := (bcell hb1).2; have hy1 := hb1.size; (try simp at hy1); have hz1_0 : w.heap.size < w1.heap.size := (by omega)))
  refine bodyPost_ret (v := .agg #[.int .i64 1, .int .i64 v, .string ⟨#[]⟩]) ?_ rfl ⟨rfl, ?_⟩
  · (simp [results, Tryz.results69, go_sem, *]; done)
  repeat (first | (with_reducible exact Below.refl _ _) | ((with_reducible refine cSet3 ?_ ?_ _ _ _); (· ((try simp) <;> omega))) | (with_reducible refine Below.drew ?_) | ((with_reducible refine cAlloc ?_ ?_ _); (· ((try simp) <;> omega))) | ((with_reducible refine cOn (by assumption) ?_ ?_); (· ((try simp) <;> omega))))

set_option maxRecDepth 100000 in
set_option maxHeartbeats 800000 in
theorem guess_0a (s : ByteArray) (w : World) (h1 : (s.toList == [84, 82, 85, 69]) = false) (h2 : (s.toList == [70, 65, 76, 83, 69]) = false) (h3 : s.size < 2) (hp : ∀ v, parseIntB 64 s.data.toList ≠ .ok v) (hs : s.size ≤ 100000) (hl : Errs w) :
    Calls Tryz.prog 69 #[.string s] w fun e w' => e = .returned (.agg #[.int .i64 0, .int .i64 0, .string ⟨#[]⟩]) ∧ Below w.heap.size w w' := by
  have HP := Lib.hid hp
  have HX := Lib.hid hs
  have HL := Lib.hid hl
  clear hp hs hl
  go_enter Tryz.func69, Tryz.ntmps69
  go_wp2_with (first
    | (go_at_call 81; refine (pint_none _ _ HP.out HX.out (HL.out.keep (by repeat (first | (with_reducible exact Below.refl _ _) | ((with_reducible refine cSet3 ?_ ?_ _ _ _); (· ((try simp) <;> omega))) | (with_reducible refine Below.drew ?_) | ((with_reducible refine cAlloc ?_ ?_ _); (· ((try simp) <;> omega))) | ((with_reducible refine cOn (by assumption) ?_ ?_); (· ((try simp) <;> omega))))) (Nat.le_refl _))).mono ?_; rintro e w1 ⟨⟨x0, a0, b0, rfl⟩, hb1⟩; have hc1 := (bcell hb1).1; have hf1 := (bcell hb1).2; have hy1 := hb1.size; (try simp at hy1); have hz1_0 : w.heap.size < w1.heap.size := (by omega)))
  refine bodyPost_ret (v := .agg #[.int .i64 0, .int .i64 0, .string ⟨#[]⟩]) ?_ rfl ⟨rfl, ?_⟩
  · (simp [results, Tryz.results69, go_sem, *]; done)
  repeat (first | (with_reducible exact Below.refl _ _) | ((with_reducible refine cSet3 ?_ ?_ _ _ _); (· ((try simp) <;> omega))) | (with_reducible refine Below.drew ?_) | ((with_reducible refine cAlloc ?_ ?_ _); (· ((try simp) <;> omega))) | ((with_reducible refine cOn (by assumption) ?_ ?_); (· ((try simp) <;> omega))))

set_option maxRecDepth 100000 in
set_option maxHeartbeats 800000 in
theorem guess_nb (s : ByteArray) (w : World) (h1 : (s.toList == [84, 82, 85, 69]) = false) (h2 : (s.toList == [70, 65, 76, 83, 69]) = false) (h3 : 2 ≤ s.size) (h0 : ¬ (s[0].toNat : Int) = 39) (v : Int) (hp : parseIntB 64 s.data.toList = .ok v) (hs : s.size ≤ 100000) :
    Calls Tryz.prog 69 #[.string s] w fun e w' => e = .returned (.agg #[.int .i64 1, .int .i64 v, .string ⟨#[]⟩]) ∧ Below w.heap.size w w' := by
  have HP := Lib.hid hp
  have HX := Lib.hid hs
  clear hp hs
  go_enter Tryz.func69, Tryz.ntmps69
  go_wp2_with (first
    | (go_at_call 81; refine (pint_ok _ _ _ HP.out HX.out).mono ?_; rintro e w1 ⟨rfl, hb1⟩; have hc1 := (bcell hb1).1; have hf1 := (bcell hb1).2; have hy1 := hb1.size; (try simp at hy1); have hz1_0 : w.heap.size < w1.heap.size := (by omega)))
  refine bodyPost_ret (v := .agg #[.int .i64 1, .int .i64 v, .string ⟨#[]⟩]) ?_ rfl ⟨rfl, ?_⟩
  · (simp [results, Tryz.results69, go_sem, *]; done)
  repeat (first | (with_reducible exact Below.refl _ _) | ((with_reducible refine cSet3 ?_ ?_ _ _ _); (· ((try simp) <;> omega))) | (with_reducible refine Below.drew ?_) | ((with_reducible refine cAlloc ?_ ?_ _); (· ((try simp) <;> omega))) | ((with_reducible refine cOn (by assumption) ?_ ?_); (· ((try simp) <;> omega))))

set_option maxRecDepth 100000 in
set_option maxHeartbeats 800000 in
theorem guess_0b (s : ByteArray) (w : World) (h1 : (s.toList == [84, 82, 85, 69]) = false) (h2 : (s.toList == [70, 65, 76, 83, 69]) = false) (h3 : 2 ≤ s.size) (h0 : ¬ (s[0].toNat : Int) = 39) (hp : ∀ v, parseIntB 64 s.data.toList ≠ .ok v) (hs : s.size ≤ 100000) (hl : Errs w) :
    Calls Tryz.prog 69 #[.string s] w fun e w' => e = .returned (.agg #[.int .i64 0, .int .i64 0, .string ⟨#[]⟩]) ∧ Below w.heap.size w w' := by
  have HP := Lib.hid hp
  have HX := Lib.hid hs
  have HL := Lib.hid hl
  clear hp hs hl
  go_enter Tryz.func69, Tryz.ntmps69
  go_wp2_with (first
    | (go_at_call 81; refine (pint_none _ _ HP.out HX.out (HL.out.keep (by repeat (first | (with_reducible exact Below.refl _ _) | ((with_reducible refine cSet3 ?_ ?_ _ _ _); (· ((try simp) <;> omega))) | (with_reducible refine Below.drew ?_) | ((with_reducible refine cAlloc ?_ ?_ _); (· ((try simp) <;> omega))) | ((with_reducible refine cOn (by assumption) ?_ ?_); (· ((try simp) <;> omega))))) (Nat.le_refl _))).mono ?_; rintro e w1 ⟨⟨x0, a0, b0, rfl⟩, hb1⟩; have hc1 := (bcell hb1).1; have hf1 := (bcell hb1).2; have hy1 := hb1.size; (try simp at hy1); have hz1_0 : w.heap.size < w1.heap.size := (by omega)))
  refine bodyPost_ret (v := .agg #[.int .i64 0, .int .i64 0, .string ⟨#[]⟩]) ?_ rfl ⟨rfl, ?_⟩
  · (simp [results, Tryz.results69, go_sem, *]; done)
  repeat (first | (with_reducible exact Below.refl _ _) | ((with_reducible refine cSet3 ?_ ?_ _ _ _); (· ((try simp) <;> omega))) | (with_reducible refine Below.drew ?_) | ((with_reducible refine cAlloc ?_ ?_ _); (· ((try simp) <;> omega))) | ((with_reducible refine cOn (by assumption) ?_ ?_); (· ((try simp) <;> omega))))

end Go.Proofs.YtnahejljelbbgaaGreatDoor

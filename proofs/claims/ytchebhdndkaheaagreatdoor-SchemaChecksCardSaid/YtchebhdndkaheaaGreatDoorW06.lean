import Derived.Test.YtchebhdndkaheaaGreatDoorW05
import Derived.Shelf.Strconv.ParseIntPublic10
import Derived.Laws.EntriesVeiled
import Derived.Test.YtchebhdndkaheaaGreatDoorW03
import Derived.Deep.DeepCutAuto

/- strconv.ParseInt at base 10; what a text is guessed to be. -/
namespace Go.Proofs.YtchebhdndkaheaaGreatDoor
open Go.RowKit Go.Lib

/-- The library's two errors are no nil. -/
structure Errs (w : World) : Prop where
  a : ∃ te pe, w.cell? ⟨8, 0, none⟩ = some (.iface te pe)
  b : ∃ te pe, w.cell? ⟨9, 0, none⟩ = some (.iface te pe)
theorem Errs.keep {w w' : World} {B : Nat} (h : Errs w) (hb : Below B w w') (hB : w.heap.size ≤ B) : Errs w' :=
  ⟨by
    obtain ⟨te, pe, h⟩ := h.a
    have hlt := World.block_lt_of_cell? w _ h
    exact ⟨te, pe, (hb.cell (p := ⟨_, 0, none⟩) (Nat.lt_of_lt_of_le hlt hB)).trans h⟩, by
    obtain ⟨te, pe, h⟩ := h.b
    have hlt := World.block_lt_of_cell? w _ h
    exact ⟨te, pe, (hb.cell (p := ⟨_, 0, none⟩) (Nat.lt_of_lt_of_le hlt hB)).trans h⟩⟩
structure LibE (w : World) : Prop where
  libs : Libs w
  errs : Errs w
theorem LibE.keep {w w' : World} {B : Nat} (h : LibE w) (hb : Below B w w') (hB : w.heap.size ≤ B) : LibE w' := ⟨h.libs.keep hb hB, h.errs.keep hb hB⟩
theorem LibE.drew {w : World} (h : LibE w) : LibE w.drew := h.keep ((Below.refl w.heap.size w).drew) (Nat.le_refl _)

theorem pint_ok (s : ByteArray) (w : World) (v : Int) (h : parseIntB 64 s.data.toList = .ok v) (hs : s.size ≤ 100000) :
    Calls Tryz.prog 203 #[.string s, .int .i64 10, .int .i64 64] w fun e w' => e = .returned (.tuple #[.int .i64 v, .nilIface]) ∧ Below w.heap.size w w' :=
  (Tryz.strconv_ParseInt_10_at64_ok s (by omega) v h w).mono fun e w' ⟨h1, h2⟩ => ⟨h1, by
    rcases h2 with rfl | ⟨t, rfl⟩
    · exact Below.refl _ _
    · exact Lib.bytesWorld_below _ _ _⟩
theorem pint_none (s : ByteArray) (w : World) (h : ∀ v, parseIntB 64 s.data.toList ≠ .ok v) (hs : s.size ≤ 100000) (he : Errs w) :
    Calls Tryz.prog 203 #[.string s, .int .i64 10, .int .i64 64] w fun e w' => (∃ x a b, e = .returned (.tuple #[.int .i64 x, .iface a b])) ∧ Below w.heap.size w w' := by
  cases hp : parseIntB 64 s.data.toList with
  | ok v => exact absurd hp (h v)
  | range =>
    obtain ⟨te, pe, hv⟩ := he.b
    exact (Any.strconv_ParseInt_10_at64_range Tryz.laysC174 s (by omega) hp _ w hv (.inr ⟨te, pe, rfl⟩)).mono fun e w' ⟨N, h1, h2, h3, h4⟩ => ⟨⟨_, _, _, h1⟩, h4⟩
  | _ =>
    obtain ⟨te, pe, hv⟩ := he.a
    exact (Any.strconv_ParseInt_10_at64_syntax Tryz.laysC174 s (by omega) hp _ w hv (.inr ⟨te, pe, rfl⟩)).mono fun e w' ⟨N, h1, h2, h3, h4⟩ => ⟨⟨_, _, _, h1⟩, h4⟩

theorem replace3_any (s : ByteArray) (w : World) (hs : s.size ≤ 100000) (hl : Libs w) :
    Calls Tryz.prog 136 #[.string s, .string ⟨#[39, 39]⟩, .string ⟨#[39]⟩] w fun e w' => e = .returned (.string ⟨(Lib.replaceAll s.data.toList [39, 39] [39]).toArray⟩) ∧ Below w.heap.size w w' := by
  obtain ⟨m, hm⟩ := hl.max
  have hc := countB_mul_le ⟨#[39, 39]⟩ (by decide) s.size s (Nat.le_refl _)
  exact Tryz.strings_ReplaceAll s ⟨#[39, 39]⟩ ⟨#[39]⟩ m w (by omega) hm (by decide) (by
    have e1 : (⟨#[39]⟩ : ByteArray).size = 1 := rfl
    have e2 : (⟨#[39, 39]⟩ : ByteArray).size = 2 := rfl
    rw [e2] at hc
    rw [e1]
    omega)

theorem wrap_one (s : ByteArray) (h : 1 ≤ s.size) (hs : s.size ≤ 100000) : wrap64 ((s.size : Int) - 1) = ((s.size - 1 : Nat) : Int) := by
  rw [wrap_in (by unfold In64; omega)]
  omega

set_option maxRecDepth 100000 in
set_option maxHeartbeats 800000 in
theorem guess_t (s : ByteArray) (w : World) (h : s = ⟨#[84, 82, 85, 69]⟩) :
    Calls Tryz.prog 188 #[.string s] w fun e w' => e = .returned (.agg #[.int .i64 3, .int .i64 1, .string ⟨#[]⟩]) ∧ Below w.heap.size w w' := by
  subst h
  go_enter Tryz.func188, Tryz.ntmps188
  go_wp2_with (first
    | (go_at_call 73; refine (truth_t _).mono ?_; rintro e w1 ⟨rfl, hb1⟩; have hc1 := (bcell hb1).1; have hf1 := (bcell hb1).2; have hy1 := hb1.size; (try simp at hy1); have hz1_0 : w.heap.size < w1.heap.size := (by omega)))
  refine bodyPost_ret (v := .agg #[.int .i64 3, .int .i64 1, .string ⟨#[]⟩]) ?_ rfl ⟨rfl, ?_⟩
  · (simp [results, Tryz.results188, go_sem, *]; done)
  repeat (first | (with_reducible exact Below.refl _ _) | ((with_reducible refine cSet3 ?_ ?_ _ _ _); (· ((try simp) <;> omega))) | (with_reducible refine Below.drew ?_) | ((with_reducible refine cAlloc ?_ ?_ _); (· ((try simp) <;> omega))) | ((with_reducible refine cOn (by assumption) ?_ ?_); (· ((try simp) <;> omega))))

set_option maxRecDepth 100000 in
set_option maxHeartbeats 800000 in
theorem guess_f (s : ByteArray) (w : World) (h : s = ⟨#[70, 65, 76, 83, 69]⟩) :
    Calls Tryz.prog 188 #[.string s] w fun e w' => e = .returned (.agg #[.int .i64 3, .int .i64 0, .string ⟨#[]⟩]) ∧ Below w.heap.size w w' := by
  subst h
  go_enter Tryz.func188, Tryz.ntmps188
  go_wp2_with (first
    | (go_at_call 73; refine (truth_f _).mono ?_; rintro e w1 ⟨rfl, hb1⟩; have hc1 := (bcell hb1).1; have hf1 := (bcell hb1).2; have hy1 := hb1.size; (try simp at hy1); have hz1_0 : w.heap.size < w1.heap.size := (by omega)))
  refine bodyPost_ret (v := .agg #[.int .i64 3, .int .i64 0, .string ⟨#[]⟩]) ?_ rfl ⟨rfl, ?_⟩
  · (simp [results, Tryz.results188, go_sem, *]; done)
  repeat (first | (with_reducible exact Below.refl _ _) | ((with_reducible refine cSet3 ?_ ?_ _ _ _); (· ((try simp) <;> omega))) | (with_reducible refine Below.drew ?_) | ((with_reducible refine cAlloc ?_ ?_ _); (· ((try simp) <;> omega))) | ((with_reducible refine cOn (by assumption) ?_ ?_); (· ((try simp) <;> omega))))

set_option maxRecDepth 100000 in
set_option maxHeartbeats 800000 in
theorem guess_q (s : ByteArray) (w : World) (h1 : (s.toList == [84, 82, 85, 69]) = false) (h2 : (s.toList == [70, 65, 76, 83, 69]) = false) (h3 : 2 ≤ s.size) (h0 : (s[0].toNat : Int) = 39) (hs : s.size ≤ 100000) (hl : Libs w) :
    Calls Tryz.prog 188 #[.string s] w fun e w' => e = .returned (.agg #[.int .i64 2, .int .i64 0, .string ⟨(Lib.replaceAll (s.extract 1 (s.size - 1)).data.toList [39, 39] [39]).toArray⟩]) ∧ Below w.heap.size w w' := by
  have hw := wrap_one s (by omega) hs
  have HL := Lib.hid hl
  have HX := Lib.hid (show (s.extract 1 (s.size - 1)).size ≤ 100000 by rw [ByteArray.size_extract]; omega)
  clear hl
  go_enter Tryz.func188, Tryz.ntmps188
  go_wp2_with (first
    | (go_at_call 136; refine (replace3_any _ _ HX.out (HL.out.keep (by repeat (first | (with_reducible exact Below.refl _ _) | ((with_reducible refine cSet3 ?_ ?_ _ _ _); (· ((try simp) <;> omega))) | (with_reducible refine Below.drew ?_) | ((with_reducible refine cAlloc ?_ ?_ _); (· ((try simp) <;> omega))) | ((with_reducible refine cOn (by assumption) ?_ ?_); (· ((try simp) <;> omega))))) (Nat.le_refl _))).mono ?_; rintro e w1 ⟨rfl, hb1⟩; have hc1 := (bcell hb1).1; have hf1 := (bcell hb1).2; have hy1 := hb1.size; (try simp at hy1); have hz1_0 : w.heap.size < w1.heap.size := (by omega)))
  refine bodyPost_ret (v := .agg #[.int .i64 2, .int .i64 0, .string ⟨(Lib.replaceAll (s.extract 1 (s.size - 1)).data.toList [39, 39] [39]).toArray⟩]) ?_ rfl ⟨rfl, ?_⟩
  · (simp [results, Tryz.results188, go_sem, *]; done)
  repeat (first | (with_reducible exact Below.refl _ _) | ((with_reducible refine cSet3 ?_ ?_ _ _ _); (· ((try simp) <;> omega))) | (with_reducible refine Below.drew ?_) | ((with_reducible refine cAlloc ?_ ?_ _); (· ((try simp) <;> omega))) | ((with_reducible refine cOn (by assumption) ?_ ?_); (· ((try simp) <;> omega))))

set_option maxRecDepth 100000 in
set_option maxHeartbeats 800000 in
theorem guess_na (s : ByteArray) (w : World) (h1 : (s.toList == [84, 82, 85, 69]) = false) (h2 : (s.toList == [70, 65, 76, 83, 69]) = false) (h3 : s.size < 2) (v : Int) (hp : parseIntB 64 s.data.toList = .ok v) (hs : s.size ≤ 100000) :
    Calls Tryz.prog 188 #[.string s] w fun e w' => e = .returned (.agg #[.int .i64 1, .int .i64 v, .string ⟨#[]⟩]) ∧ Below w.heap.size w w' := by
  have HP := Lib.hid hp
  have HX := Lib.hid hs
  clear hp hs
  go_enter Tryz.func188, Tryz.ntmps188
  go_wp2_with (first
    | (go_at_call 203; refine (pint_ok _ _ _ HP.out HX.out).mono ?_; rintro e w1 ⟨rfl, hb1⟩; have hc1 := (bcell hb1).1; have hf1 := (bcell hb1).2; have hy1 := hb1.size; (try simp at hy1); have hz1_0 : w.heap.size < w1.heap.size := (by omega)))
  refine bodyPost_ret (v := .agg #[.int .i64 1, .int .i64 v, .string ⟨#[]⟩]) ?_ rfl ⟨rfl, ?_⟩
  · (simp [results, Tryz.results188, go_sem, *]; done)
  repeat (first | (with_reducible exact Below.refl _ _) | ((with_reducible refine cSet3 ?_ ?_ _ _ _); (· ((try simp) <;> omega))) | (with_reducible refine Below.drew ?_) | ((with_reducible refine cAlloc ?_ ?_ _); (· ((try simp) <;> omega))) | ((with_reducible refine cOn (by assumption) ?_ ?_); (· ((try simp) <;> omega))))

set_option maxRecDepth 100000 in
set_option maxHeartbeats 800000 in
theorem guess_0a (s : ByteArray) (w : World) (h1 : (s.toList == [84, 82, 85, 69]) = false) (h2 : (s.toList == [70, 65, 76, 83, 69]) = false) (h3 : s.size < 2) (hp : ∀ v, parseIntB 64 s.data.toList ≠ .ok v) (hs : s.size ≤ 100000) (hl : Errs w) :
    Calls Tryz.prog 188 #[.string s] w fun e w' => e = .returned (.agg #[.int .i64 0, .int .i64 0, .string ⟨#[]⟩]) ∧ Below w.heap.size w w' := by
  have HP := Lib.hid hp
  have HX := Lib.hid hs
  have HL := Lib.hid hl
  clear hp hs hl
  go_enter Tryz.func188, Tryz.ntmps188
  go_wp2_with (first
    | (go_at_call 203; refine (pint_none _ _ HP.out HX.out (HL.out.keep (by repeat (first | (with_reducible exact Below.refl _ _) | ((with_reducible refine cSet3 ?_ ?_ _ _ _); (· ((try simp) <;> omega))) | (with_reducible refine Below.drew ?_) | ((with_reducible refine cAlloc ?_ ?_ _); (· ((try simp) <;> omega))) | ((with_reducible refine cOn (by assumption) ?_ ?_); (· ((try simp) <;> omega))))) (Nat.le_refl _))).mono ?_; rintro e w1 ⟨⟨x0, a0, b0, rfl⟩, hb1⟩; have hc1 := (bcell hb1).1; have hf1 := (bcell hb1).2; have hy1 := hb1.size; (try simp at hy1); have hz1_0 : w.heap.size < w1.heap.size := (by omega)))
  refine bodyPost_ret (v := .agg #[.int .i64 0, .int .i64 0, .string ⟨#[]⟩]) ?_ rfl ⟨rfl, ?_⟩
  · (simp [results, Tryz.results188, go_sem, *]; done)
  repeat (first | (with_reducible exact Below.refl _ _) | ((with_reducible refine cSet3 ?_ ?_ _ _ _); (· ((try simp) <;> omega))) | (with_reducible refine Below.drew ?_) | ((with_reducible refine cAlloc ?_ ?_ _); (· ((try simp) <;> omega))) | ((with_reducible refine cOn (by assumption) ?_ ?_); (· ((try simp) <;> omega))))

set_option maxRecDepth 100000 in
set_option maxHeartbeats 800000 in
theorem guess_nb (s : ByteArray) (w : World) (h1 : (s.toList == [84, 82, 85, 69]) = false) (h2 : (s.toList == [70, 65, 76, 83, 69]) = false) (h3 : 2 ≤ s.size) (h0 : ¬ (s[0].toNat : Int) = 39) (v : Int) (hp : parseIntB 64 s.data.toList = .ok v) (hs : s.size ≤ 100000) :
    Calls Tryz.prog 188 #[.string s] w fun e w' => e = .returned (.agg #[.int .i64 1, .int .i64 v, .string ⟨#[]⟩]) ∧ Below w.heap.size w w' := by
  have HP := Lib.hid hp
  have HX := Lib.hid hs
  clear hp hs
  go_enter Tryz.func188, Tryz.ntmps188
  go_wp2_with (first
    | (go_at_call 203; refine (pint_ok _ _ _ HP.out HX.out).mono ?_; rintro e w1 ⟨rfl, hb1⟩; have hc1 := (bcell hb1).1; have hf1 := (bcell hb1).2; have hy1 := hb1.size; (try simp at hy1); have hz1_0 : w.heap.size < w1.heap.size := (by omega)))
  refine bodyPost_ret (v := .agg #[.int .i64 1, .int .i64 v, .string ⟨#[]⟩]) ?_ rfl ⟨rfl, ?_⟩
  · (simp [results, Tryz.results188, go_sem, *]; done)
  repeat (first | (with_reducible exact Below.refl _ _) | ((with_reducible refine cSet3 ?_ ?_ _ _ _); (· ((try simp) <;> omega))) | (with_reducible refine Below.drew ?_) | ((with_reducible refine cAlloc ?_ ?_ _); (· ((try simp) <;> omega))) | ((with_reducible refine cOn (by assumption) ?_ ?_); (· ((try simp) <;> omega))))

set_option maxRecDepth 100000 in
set_option maxHeartbeats 800000 in
theorem guess_0b (s : ByteArray) (w : World) (h1 : (s.toList == [84, 82, 85, 69]) = false) (h2 : (s.toList == [70, 65, 76, 83, 69]) = false) (h3 : 2 ≤ s.size) (h0 : ¬ (s[0].toNat : Int) = 39) (hp : ∀ v, parseIntB 64 s.data.toList ≠ .ok v) (hs : s.size ≤ 100000) (hl : Errs w) :
    Calls Tryz.prog 188 #[.string s] w fun e w' => e = .returned (.agg #[.int .i64 0, .int .i64 0, .string ⟨#[]⟩]) ∧ Below w.heap.size w w' := by
  have HP := Lib.hid hp
  have HX := Lib.hid hs
  have HL := Lib.hid hl
  clear hp hs hl
  go_enter Tryz.func188, Tryz.ntmps188
  go_wp2_with (first
    | (go_at_call 203; refine (pint_none _ _ HP.out HX.out (HL.out.keep (by repeat (first | (with_reducible exact Below.refl _ _) | ((with_reducible refine cSet3 ?_ ?_ _ _ _); (· ((try simp) <;> omega))) | (with_reducible refine Below.drew ?_) | ((with_reducible refine cAlloc ?_ ?_ _); (· ((try simp) <;> omega))) | ((with_reducible refine cOn (by assumption) ?_ ?_); (· ((try simp) <;> omega))))) (Nat.le_refl _))).mono ?_; rintro e w1 ⟨⟨x0, a0, b0, rfl⟩, hb1⟩; have hc1 := (bcell hb1).1; have hf1 := (bcell hb1).2; have hy1 := hb1.size; (try simp at hy1); have hz1_0 : w.heap.size < w1.heap.size := (by omega)))
  refine bodyPost_ret (v := .agg #[.int .i64 0, .int .i64 0, .string ⟨#[]⟩]) ?_ rfl ⟨rfl, ?_⟩
  · (simp [results, Tryz.results188, go_sem, *]; done)
  repeat (first | (with_reducible exact Below.refl _ _) | ((with_reducible refine cSet3 ?_ ?_ _ _ _); (· ((try simp) <;> omega))) | (with_reducible refine Below.drew ?_) | ((with_reducible refine cAlloc ?_ ?_ _); (· ((try simp) <;> omega))) | ((with_reducible refine cOn (by assumption) ?_ ?_); (· ((try simp) <;> omega))))

end Go.Proofs.YtchebhdndkaheaaGreatDoor

/- What a text is guessed to be, and parsed as: value.Parse. -/
namespace Go.Proofs.YtchebhdndkaheaaGreatDoor
open Go.RowKit Go.Lib

/-- What a text is guessed to be: the only value whose text it may be. -/
structure Guess (l : List UInt8) (k i : Int) (S : ByteArray) : Prop where
  in64 : In64 i
  ok : mayB k i S = true ∨ l ≠ []
  only : ∀ k' i' S', In64 i' → mayB k' i' S' = true → txtO k' i' S' = l → k = k' ∧ i = i' ∧ S = S'

theorem in64_0 : In64 0 := by unfold In64; omega
theorem in64_1 : In64 1 := by unfold In64; omega
theorem itoa_no {n : Int} {c : UInt8} {l : List UInt8} (hc : c ≠ 45) (hd : c.toNat < 48 ∨ 57 < c.toNat) : itoa n ≠ c :: l := by
  intro e
  obtain ⟨d, r, e1, h, _⟩ := itoa_head n
  rw [e1] at e
  obtain rfl := (List.cons.inj e).1
  rcases h with h | h
  · exact hc h
  · omega
theorem toList_of {s : ByteArray} {l : List UInt8} : (s.toList == l) = false ↔ s.data.toList ≠ l := by rw [beq_eq_false_iff_ne, toList_data]
theorem get_head {s : ByteArray} {c : UInt8} {l : List UInt8} (h : s.data.toList = c :: l) (h0 : 0 < s.size) : s[0] = c := by
  have h2 : 0 < s.data.toList.length := by simpa using h0
  have : s.data.toList[0] = c := by simp [h]
  exact this
theorem mid_of {s : ByteArray} {m : List UInt8} (h : s.data.toList = 39 :: (m ++ [39])) : (s.extract 1 (s.size - 1)).data.toList = m := by
  have hs : s.size = m.length + 2 := by
    have := congrArg List.length h
    simp at this
    omega
  have e : (s.extract 1 (s.size - 1)).data.toList = (s.data.toList.drop 1).take (s.size - 1 - 1) := by
    simp [ByteArray.extract, ByteArray.data_append, ByteArray.copySlice]
  rw [e, h, hs]
  simp

theorem guess_any (s : ByteArray) (w : World) (hs : s.size ≤ 100000) (hl : LibE w) :
    Calls Tryz.prog 188 #[.string s] w fun e w' => (∃ k i S, e = .returned (.agg #[.int .i64 k, .int .i64 i, .string S]) ∧ Guess s.data.toList k i S) ∧ Below w.heap.size w w' := by
  by_cases h1 : s.data.toList = [84, 82, 85, 69]
  · refine (guess_t s w (bs_eq h1)).mono fun e w' ⟨h, hb⟩ => ⟨⟨_, _, _, h, ?_⟩, hb⟩
    rw [h1]
    have hm : mayB 3 1 ⟨#[]⟩ = true := by simp [mayB, nilBytes]
    exact ⟨in64_1, .inl hm, fun k' i' S' _ h' e => txt_inj hm h' (by rw [e]; simp [txtO, mayB, nilBytes])⟩
  · by_cases h2 : s.data.toList = [70, 65, 76, 83, 69]
    · refine (guess_f s w (bs_eq h2)).mono fun e w' ⟨h, hb⟩ => ⟨⟨_, _, _, h, ?_⟩, hb⟩
      rw [h2]
      have hm : mayB 3 0 ⟨#[]⟩ = true := by simp [mayB, nilBytes]
      exact ⟨in64_0, .inl hm, fun k' i' S' _ h' e => txt_inj hm h' (by rw [e]; simp [txtO, mayB, nilBytes])⟩
    · by_cases hq : ∃ h : 2 ≤ s.size, (s[0].toNat : Int) = 39
      · obtain ⟨h3, h0⟩ := hq
        refine (guess_q s w (toList_of.2 h1) (toList_of.2 h2) h3 h0 hs hl.libs).mono fun e w' ⟨h, hb⟩ => ⟨⟨_, _, _, h, in64_0, .inr ?_, fun k' i' S' hi' h' e => ?_⟩, hb⟩
        · intro e
          have : s.size = 0 := by rw [Lib.size_eq, e]; rfl
          omega
        · have hhd : ∀ c l, s.data.toList = c :: l → c = 39 := fun c l e => by
            have := get_head e (by omega)
            rw [this] at h0
            exact UInt8.toNat_inj.1 (by show c.toNat = 39; omega)
          cases four k' i' S' h' with
          | null hk hi hs ht => exact absurd (hhd _ _ (e.symm.trans ht)) (by decide)
          | num hk hs ht =>
            obtain ⟨c, l, e1, hc, _⟩ := itoa_head i'
            have := hhd _ _ (e.symm.trans (ht.trans e1))
            subst this
            rcases hc with hc | hc
            · exact absurd hc (by decide)
            · exact absurd hc.1 (by decide)
          | text hk hi hz hc ht =>
            refine ⟨hk.symm, hi.symm, ?_⟩
            have hm := mid_of (e.symm.trans ht)
            rw [hm, undbl]
          | no hk hi hs ht => exact absurd (hhd _ _ (e.symm.trans ht)) (by decide)
          | yes hk hi hs ht => exact absurd (hhd _ _ (e.symm.trans ht)) (by decide)
      · have hnq : ∀ l, s.data.toList ≠ 39 :: (l ++ [39]) := fun l e => hq ⟨by
          have := congrArg List.length e
          simp at this
          omega, by
          rw [get_head e (by
            have := congrArg List.length e
            simp at this
            omega)]
          rfl⟩
        have cases_ : ∀ k i, mayB k i ⟨#[]⟩ = true → (∀ i', In64 i' → itoa i' = s.data.toList → k = 1 ∧ i = i') → (s.data.toList = [78, 85, 76, 76] → k = 0 ∧ i = 0) → ∀ k' i' S', In64 i' → mayB k' i' S' = true → txtO k' i' S' = s.data.toList → k = k' ∧ i = i' ∧ (⟨#[]⟩ : ByteArray) = S' := by
          intro k i hm H1 H0 k' i' S' hi' h' e
          cases four k' i' S' h' with
          | null hk hi hs ht => have := H0 (e.symm.trans ht); exact ⟨this.1.trans hk.symm, this.2.trans hi.symm, hs.symm⟩
          | num hk hs ht => have := H1 i' hi' (ht.symm.trans e); exact ⟨this.1.trans hk.symm, this.2, hs.symm⟩
          | text hk hi hz hc ht => exact absurd (e.symm.trans ht) (hnq _)
          | no hk hi hs ht => exact absurd (e.symm.trans ht) h2
          | yes hk hi hs ht => exact absurd (e.symm.trans ht) h1
        by_cases hv : ∃ v, parseIntB 64 s.data.toList = .ok v
        · obtain ⟨v, hv⟩ := hv
          have hb64 := parseIntB_bounds hv
          have hi64 : In64 v := by unfold In64; omega
          have hm : mayB 1 v ⟨#[]⟩ = true := by simp [mayB, nilBytes]
          have hg : Guess s.data.toList 1 v ⟨#[]⟩ := ⟨hi64, .inl hm, cases_ 1 v hm (fun i' hi' e => ⟨rfl, by rw [← e, parse_itoa i' hi'] at hv; injection hv with hv; exact hv.symm⟩) (fun e => by rw [e] at hv; exact absurd hv (by simp [parseIntB, parseUintB, parseUintM]))⟩
          by_cases h3 : 2 ≤ s.size
          · exact (guess_nb s w (toList_of.2 h1) (toList_of.2 h2) h3 (fun h0 => hq ⟨h3, h0⟩) v hv hs).mono fun e w' ⟨h, hb⟩ => ⟨⟨_, _, _, h, hg⟩, hb⟩
          · exact (guess_na s w (toList_of.2 h1) (toList_of.2 h2) (by omega) v hv hs).mono fun e w' ⟨h, hb⟩ => ⟨⟨_, _, _, h, hg⟩, hb⟩
        · have hv' : ∀ v, parseIntB 64 s.data.toList ≠ .ok v := fun v h => hv ⟨v, h⟩
          have hm : mayB 0 0 ⟨#[]⟩ = true := by simp [mayB, nilBytes]
          have hg : Guess s.data.toList 0 0 ⟨#[]⟩ := ⟨in64_0, .inl hm, cases_ 0 0 hm (fun i' hi' e => absurd (by rw [← e]; exact parse_itoa i' hi') (hv' i')) (fun _ => ⟨rfl, rfl⟩)⟩
          by_cases h3 : 2 ≤ s.size
          · exact (guess_0b s w (toList_of.2 h1) (toList_of.2 h2) h3 (fun h0 => hq ⟨h3, h0⟩) hv' hs hl.errs).mono fun e w' ⟨h, hb⟩ => ⟨⟨_, _, _, h, hg⟩, hb⟩
          · exact (guess_0a s w (toList_of.2 h1) (toList_of.2 h2) (by omega) hv' hs hl.errs).mono fun e w' ⟨h, hb⟩ => ⟨⟨_, _, _, h, hg⟩, hb⟩

theorem text_is (k i : Int) (S s : ByteArray) (w : World) (h : txtO k i S = s.data.toList) (hl : Libs w) (hi : In64 i) :
    Calls Tryz.prog 103 #[.agg #[.int .i64 k, .int .i64 i, .string S]] w fun e w' => e = .returned (.string s) ∧ Below w.heap.size w w' :=
  (text_any k i S w hl hi).mono fun e w' ⟨h1, h2⟩ => ⟨by rw [h1, h], h2⟩
theorem text_not (k i : Int) (S s : ByteArray) (w : World) (h : txtO k i S ≠ s.data.toList) (hl : Libs w) (hi : In64 i) :
    Calls Tryz.prog 103 #[.agg #[.int .i64 k, .int .i64 i, .string S]] w fun e w' => ∃ t, e = .returned (.string t) ∧ (t.toList == s.toList) = false ∧ Below w.heap.size w w' :=
  (text_any k i S w hl hi).mono fun e w' ⟨h1, h2⟩ => ⟨_, h1, beq_eq_false_iff_ne.2 (by rw [toList_data, toList_data]; exact fun e => h (by simpa using e)), h2⟩
theorem guess_is (k i : Int) (S s : ByteArray) (w : World) (hm : mayB k i S = true) (ht : txtO k i S = s.data.toList) (hi : In64 i) (hs : s.size ≤ 100000) (hl : LibE w) :
    Calls Tryz.prog 188 #[.string s] w fun e w' => e = .returned (.agg #[.int .i64 k, .int .i64 i, .string S]) ∧ Below w.heap.size w w' :=
  (guess_any s w hs hl).mono fun e w' ⟨⟨k', i', S', h, hg⟩, hb⟩ => ⟨by obtain ⟨rfl, rfl, rfl⟩ := hg.only k i S hi hm ht; exact h, hb⟩
theorem guess_not (s : ByteArray) (w : World) (hn : ∀ k i S, In64 i → mayB k i S = true → txtO k i S ≠ s.data.toList) (hs : s.size ≤ 100000) (hl : LibE w) :
    Calls Tryz.prog 188 #[.string s] w fun e w' => ∃ k i S, e = .returned (.agg #[.int .i64 k, .int .i64 i, .string S]) ∧ Hid (txtO k i S ≠ s.data.toList ∧ In64 i) ∧ Below w.heap.size w w' :=
  (guess_any s w hs hl).mono fun e w' ⟨⟨k, i, S, h, hg⟩, hb⟩ => ⟨k, i, S, h, ⟨fun e => by
    cases hm : mayB k i S with
    | true => exact hn k i S hg.in64 hm e
    | false =>
      rcases hg.ok with h | h
      · rw [hm] at h; cases h
      · unfold txtO at e
        rw [hm] at e
        exact h e.symm, hg.in64⟩, hb⟩

set_option maxRecDepth 100000 in
set_option maxHeartbeats 800000 in
theorem vparse_ok (k i : Int) (S s : ByteArray) (w : World) (hm : mayB k i S = true) (ht : txtO k i S = s.data.toList) (hi : In64 i) (hs : s.size ≤ 100000) (hl : LibE w) :
    Calls Tryz.prog 168 #[.string s] w fun e w' => e = .returned (.tuple #[.agg #[.int .i64 k, .int .i64 i, .string S], .int .i64 0]) ∧ Below w.heap.size w w' := by
  have HG := Lib.hid (fun (W : World) (h : LibE W) => guess_is k i S s W hm ht hi hs h)
  have HT := Lib.hid (fun (W : World) (h : Libs W) => text_is k i S s W ht h hi)
  have HL := Lib.hid hl
  clear hm ht hi hl
  go_enter Tryz.func168, Tryz.ntmps168
  go_wp2_with (first
    | (go_at_call 188; refine (HG.out _ (HL.out.keep (by repeat (first | (with_reducible exact Below.refl _ _) | ((with_reducible refine cSet3 ?_ ?_ _ _ _); (· ((try simp) <;> omega))) | (with_reducible refine Below.drew ?_) | ((with_reducible refine cAlloc ?_ ?_ _); (· ((try simp) <;> omega))) | ((with_reducible refine cOn (by assumption) ?_ ?_); (· ((try simp) <;> omega))))) (Nat.le_refl _))).mono ?_; rintro e w1 ⟨rfl, hb1⟩; have hc1 := (bcell hb1).1; have hf1 := (bcell hb1).2; have hy1 := hb1.size; (try simp at hy1); have hz1_0 : w.heap.size < w1.heap.size := (by omega); have hx1 : w.heap.size < w1.heap.size + 1 := (by omega); have hx2 : ¬ w.heap.size = w1.heap.size := (by omega))
    | (go_at_call 103; refine (HT.out _ (HL.out.keep (by repeat (first | (with_reducible exact Below.refl _ _) | ((with_reducible refine cSet3 ?_ ?_ _ _ _); (· ((try simp) <;> omega))) | (with_reducible refine Below.drew ?_) | ((with_reducible refine cAlloc ?_ ?_ _); (· ((try simp) <;> omega))) | ((with_reducible refine cOn (by assumption) ?_ ?_); (· ((try simp) <;> omega))))) (Nat.le_refl _)).libs).mono ?_; rintro e w2 ⟨rfl, hb2⟩; have hc2 := (bcell hb2).1; have hf2 := (bcell hb2).2; have hy2 := hb2.size; (try simp at hy2); have hz2_0 : w.heap.size < w2.heap.size := (by omega)))
  refine bodyPost_ret (v := .tuple #[.agg #[.int .i64 k, .int .i64 i, .string S], .int .i64 0]) ?_ rfl ⟨rfl, ?_⟩
  · (simp [results, Tryz.results168, go_sem, *]; done)
  repeat (first | (with_reducible exact Below.refl _ _) | ((with_reducible refine cSet3 ?_ ?_ _ _ _); (· ((try simp) <;> omega))) | (with_reducible refine Below.drew ?_) | ((with_reducible refine cAlloc ?_ ?_ _); (· ((try simp) <;> omega))) | ((with_reducible refine cOn (by assumption) ?_ ?_); (· ((try simp) <;> omega))))

set_option maxRecDepth 100000 in
set_option maxHeartbeats 800000 in
theorem vparse_no (s : ByteArray) (w : World) (hn : ∀ k i S, In64 i → mayB k i S = true → txtO k i S ≠ s.data.toList) (hs : s.size ≤ 100000) (hl : LibE w) :
    Calls Tryz.prog 168 #[.string s] w fun e w' => e = .returned (.tuple #[.agg #[.int .i64 0, .int .i64 0, .string ⟨#[]⟩], .int .i64 3]) ∧ Below w.heap.size w w' := by
  have HG := Lib.hid (fun (W : World) (h : LibE W) => guess_not s W hn hs h)
  have HL := Lib.hid hl
  clear hn hl
  go_enter Tryz.func168, Tryz.ntmps168
  go_wp2_with (first
    | (go_at_call 188; refine (HG.out _ (HL.out.keep (by repeat (first | (with_reducible exact Below.refl _ _) | ((with_reducible refine cSet3 ?_ ?_ _ _ _); (· ((try simp) <;> omega))) | (with_reducible refine Below.drew ?_) | ((with_reducible refine cAlloc ?_ ?_ _); (· ((try simp) <;> omega))) | ((with_reducible refine cOn (by assumption) ?_ ?_); (· ((try simp) <;> omega))))) (Nat.le_refl _))).mono ?_; rintro e w1 ⟨k, i, S, rfl, HQ, hb1⟩; have hc1 := (bcell hb1).1; have hf1 := (bcell hb1).2; have hy1 := hb1.size; (try simp at hy1); have hz1_0 : w.heap.size < w1.heap.size := (by omega); have hx1 : w.heap.size < w1.heap.size + 1 := (by omega); have hx2 : ¬ w.heap.size = w1.heap.size := (by omega))
    | (go_at_call 103; refine (text_not k i S s _ HQ.out.1 (HL.out.keep (by repeat (first | (with_reducible exact Below.refl _ _) | ((with_reducible refine cSet3 ?_ ?_ _ _ _); (· ((try simp) <;> omega))) | (with_reducible refine Below.drew ?_) | ((with_reducible refine cAlloc ?_ ?_ _); (· ((try simp) <;> omega))) | ((with_reducible refine cOn (by assumption) ?_ ?_); (· ((try simp) <;> omega))))) (Nat.le_refl _)).libs HQ.out.2).mono ?_; rintro e w2 ⟨t2, rfl, hq2, hb2⟩; have hc2 := (bcell hb2).1; have hf2 := (bcell hb2).2; have hy2 := hb2.size; (try simp at hy2); have hz2_0 : w.heap.size < w2.heap.size := (by omega)))
  refine bodyPost_ret (v := .tuple #[.agg #[.int .i64 0, .int .i64 0, .string ⟨#[]⟩], .int .i64 3]) ?_ rfl ⟨rfl, ?_⟩
  · (simp [results, Tryz.results168, go_sem, *]; done)
  repeat (first | (with_reducible exact Below.refl _ _) | ((with_reducible refine cSet3 ?_ ?_ _ _ _); (· ((try simp) <;> omega))) | (with_reducible refine Below.drew ?_) | ((with_reducible refine cAlloc ?_ ?_ _); (· ((try simp) <;> omega))) | ((with_reducible refine cOn (by assumption) ?_ ?_); (· ((try simp) <;> omega))))
end Go.Proofs.YtchebhdndkaheaaGreatDoor

/- May one of a kind be; the kinds; what stands in quotes. -/
namespace Go.Proofs.YtchebhdndkaheaaGreatDoor
open Go.RowKit Go.Lib

set_option maxRecDepth 100000 in
set_option maxHeartbeats 800000 in
theorem kmay_0 (num : Int) (most : Nat) (f g : Nat) (p q : UInt8 → Bool) (hf : Cls f p) (hg : Cls g q) (s : ByteArray) (w : World) (hs : s.size ≤ 100000) (hm : most ≤ 100) (h0 : s.toList = []) :
    Calls Tryz.prog 113 #[.agg #[.int .i64 num, .int .i64 (most : Nat), .func (.func f) #[] #[], .func (.func g) #[] #[]], .string s] w fun e w' => e = .returned (.bool false) ∧ Below w.heap.size w w' := by
  have HT := Lib.hid (fun (W : World) => tog_any num most f g p q hf hg s W hs)
  clear hf hg
  have h0' : s.toList.isEmpty = true := by rw [h0]; rfl
  go_enter Tryz.func113, Tryz.ntmps113
  go_wp2_with (first
    | (go_at_call 145; refine (HT.out _).mono ?_; rintro e w1 ⟨rfl, hb1⟩; have hc1 := (bcell hb1).1; have hf1 := (bcell hb1).2; have hy1 := hb1.size; (try simp at hy1); have hz1_0 : w.heap.size < w1.heap.size := (by omega)))
  all_goals
    go_ret
    refine ⟨rfl, ?_⟩
    repeat (first | (with_reducible exact Below.refl _ _) | ((with_reducible refine cSet3 ?_ ?_ _ _ _); (· ((try simp) <;> omega))) | (with_reducible refine Below.drew ?_) | ((with_reducible refine cAlloc ?_ ?_ _); (· ((try simp) <;> omega))) | ((with_reducible refine cOn (by assumption) ?_ ?_); (· ((try simp) <;> omega))))

set_option maxRecDepth 100000 in
set_option maxHeartbeats 800000 in
theorem kmay_1 (num : Int) (most : Nat) (f g : Nat) (p q : UInt8 → Bool) (hf : Cls f p) (hg : Cls g q) (s : ByteArray) (w : World) (hs : s.size ≤ 100000) (hm : most ≤ 100) (hl : 0 < s.size) (h1 : ¬ s.size ≤ most) :
    Calls Tryz.prog 113 #[.agg #[.int .i64 num, .int .i64 (most : Nat), .func (.func f) #[] #[], .func (.func g) #[] #[]], .string s] w fun e w' => e = .returned (.bool false) ∧ Below w.heap.size w w' := by
  have HT := Lib.hid (fun (W : World) => tog_any num most f g p q hf hg s W hs)
  clear hf hg
  have h0' : s.toList.isEmpty = false := nonempty_of' hl
  have h0 : ¬ s.toList = [] := fun h => by rw [h] at h0'; cases h0'
  have h2 : ¬ (s.size : Int) ≤ (most : Int) := by omega
  go_enter Tryz.func113, Tryz.ntmps113
  go_wp2_with (first
    | (go_at_call 145; refine (HT.out _).mono ?_; rintro e w1 ⟨rfl, hb1⟩; have hc1 := (bcell hb1).1; have hf1 := (bcell hb1).2; have hy1 := hb1.size; (try simp at hy1); have hz1_0 : w.heap.size < w1.heap.size := (by omega)))
  all_goals
    go_ret
    refine ⟨rfl, ?_⟩
    repeat (first | (with_reducible exact Below.refl _ _) | ((with_reducible refine cSet3 ?_ ?_ _ _ _); (· ((try simp) <;> omega))) | (with_reducible refine Below.drew ?_) | ((with_reducible refine cAlloc ?_ ?_ _); (· ((try simp) <;> omega))) | ((with_reducible refine cOn (by assumption) ?_ ?_); (· ((try simp) <;> omega))))

set_option maxRecDepth 100000 in
set_option maxHeartbeats 800000 in
theorem kmay_2 (num : Int) (most : Nat) (f g : Nat) (p q : UInt8 → Bool) (hf : Cls f p) (hg : Cls g q) (s : ByteArray) (w : World) (hs : s.size ≤ 100000) (hm : most ≤ 100) (hl : 0 < s.size) (h1 : s.size ≤ most) (n : Nat) (hn : tog p q s.data.toList = n) :
    Calls Tryz.prog 113 #[.agg #[.int .i64 num, .int .i64 (most : Nat), .func (.func f) #[] #[], .func (.func g) #[] #[]], .string s] w fun e w' => e = .returned (.bool (decide (n = s.size))) ∧ Below w.heap.size w w' := by
  have HT := Lib.hid (fun (W : World) => tog_any num most f g p q hf hg s W hs)
  clear hf hg
  have h0' : s.toList.isEmpty = false := nonempty_of' hl
  have h0 : ¬ s.toList = [] := fun h => by rw [h] at h0'; cases h0'
  rw [hn] at HT
  clear hn
  have h2 : (s.size : Int) ≤ (most : Int) := by omega
  go_enter Tryz.func113, Tryz.ntmps113
  go_wp2_with (first
    | (go_at_call 145; refine (HT.out _).mono ?_; rintro e w1 ⟨rfl, hb1⟩; have hc1 := (bcell hb1).1; have hf1 := (bcell hb1).2; have hy1 := hb1.size; (try simp at hy1); have hz1_0 : w.heap.size < w1.heap.size := (by omega)))
  all_goals
    go_ret
    refine ⟨ret_bool (by rw [Bool.eq_iff_iff]; simp; omega), ?_⟩
    repeat (first | (with_reducible exact Below.refl _ _) | ((with_reducible refine cSet3 ?_ ?_ _ _ _); (· ((try simp) <;> omega))) | (with_reducible refine Below.drew ?_) | ((with_reducible refine cAlloc ?_ ?_ _); (· ((try simp) <;> omega))) | ((with_reducible refine cOn (by assumption) ?_ ?_); (· ((try simp) <;> omega))))

theorem kmay_any (num : Int) (most : Nat) (f g : Nat) (p q : UInt8 → Bool) (hf : Cls f p) (hg : Cls g q) (s : ByteArray) (w : World) (hs : s.size ≤ 100000) (hm : most ≤ 100) :
    Calls Tryz.prog 113 #[.agg #[.int .i64 num, .int .i64 (most : Nat), .func (.func f) #[] #[], .func (.func g) #[] #[]], .string s] w fun e w' => e = .returned (.bool (kmay p q most s.data.toList)) ∧ Below w.heap.size w w' := by
  by_cases hl : 0 < s.size
  · have he : s.data.toList.isEmpty = false := by rw [← toList_data]; exact nonempty_of' hl
    by_cases h1 : s.size ≤ most
    · have e : kmay p q most s.data.toList = decide (tog p q s.data.toList = s.size) := by
        unfold kmay
        rw [he, ← Lib.size_eq, decide_eq_true h1]
        rfl
      rw [e]
      exact kmay_2 num most f g p q hf hg s w hs hm hl h1 _ rfl
    · have e : kmay p q most s.data.toList = false := by
        unfold kmay
        rw [← Lib.size_eq, decide_eq_false h1]
        simp
      rw [e]
      exact kmay_1 num most f g p q hf hg s w hs hm hl h1
  · have e : s.data.toList = [] := List.length_eq_zero_iff.1 (by rw [← Lib.size_eq]; omega)
    rw [e]
    exact kmay_0 num most f g p q hf hg s w hs hm (by rw [toList_data]; exact e)

set_option maxRecDepth 100000 in
theorem wordKind_any (w : World) :
    Calls Tryz.prog 112 #[] w fun e w' => e = .returned (.agg #[.int .i64 1, .int .i64 16, .func (.func 147) #[] #[], .func (.func 148) #[] #[]]) ∧ Below w.heap.size w w' := by
  go_enter Tryz.func112, Tryz.ntmps112
  go_wp2
  refine bodyPost_ret (v := .agg #[.int .i64 1, .int .i64 16, .func (.func 147) #[] #[], .func (.func 148) #[] #[]]) ?_ rfl ⟨rfl, ?_⟩
  · (simp [results, Tryz.results112, go_sem, *]; done)
  repeat (first | (with_reducible exact Below.refl _ _) | ((with_reducible refine cSet3 ?_ ?_ _ _ _); (· ((try simp) <;> omega))) | (with_reducible refine Below.drew ?_) | ((with_reducible refine cAlloc ?_ ?_ _); (· ((try simp) <;> omega))) | ((with_reducible refine cOn (by assumption) ?_ ?_); (· ((try simp) <;> omega))))

set_option maxRecDepth 100000 in
theorem numberKind_any (w : World) :
    Calls Tryz.prog 169 #[] w fun e w' => e = .returned (.agg #[.int .i64 2, .int .i64 19, .func (.func 171) #[] #[], .func (.func 171) #[] #[]]) ∧ Below w.heap.size w w' := by
  go_enter Tryz.func169, Tryz.ntmps169
  go_wp2
  refine bodyPost_ret (v := .agg #[.int .i64 2, .int .i64 19, .func (.func 171) #[] #[], .func (.func 171) #[] #[]]) ?_ rfl ⟨rfl, ?_⟩
  · (simp [results, Tryz.results169, go_sem, *]; done)
  repeat (first | (with_reducible exact Below.refl _ _) | ((with_reducible refine cSet3 ?_ ?_ _ _ _); (· ((try simp) <;> omega))) | (with_reducible refine Below.drew ?_) | ((with_reducible refine cAlloc ?_ ?_ _); (· ((try simp) <;> omega))) | ((with_reducible refine cOn (by assumption) ?_ ?_); (· ((try simp) <;> omega))))

set_option maxRecDepth 100000 in
theorem signKind_any (w : World) :
    Calls Tryz.prog 170 #[] w fun e w' => e = .returned (.agg #[.int .i64 4, .int .i64 1, .func (.func 189) #[] #[], .func (.func 190) #[] #[]]) ∧ Below w.heap.size w w' := by
  go_enter Tryz.func170, Tryz.ntmps170
  go_wp2
  refine bodyPost_ret (v := .agg #[.int .i64 4, .int .i64 1, .func (.func 189) #[] #[], .func (.func 190) #[] #[]]) ?_ rfl ⟨rfl, ?_⟩
  · (simp [results, Tryz.results170, go_sem, *]; done)
  repeat (first | (with_reducible exact Below.refl _ _) | ((with_reducible refine cSet3 ?_ ?_ _ _ _); (· ((try simp) <;> omega))) | (with_reducible refine Below.drew ?_) | ((with_reducible refine cAlloc ?_ ?_ _); (· ((try simp) <;> omega))) | ((with_reducible refine cOn (by assumption) ?_ ?_); (· ((try simp) <;> omega))))

set_option maxRecDepth 100000 in
set_option maxHeartbeats 800000 in
theorem kinds_any (w : World) :
    Calls Tryz.prog 144 #[] w fun e w' => e = .returned (.agg #[.int .i64 1, .int .i64 16, .func (.func 147) #[] #[], .func (.func 148) #[] #[], .int .i64 2, .int .i64 19, .func (.func 171) #[] #[], .func (.func 171) #[] #[], .int .i64 4, .int .i64 1, .func (.func 189) #[] #[], .func (.func 190) #[] #[]]) ∧ Below w.heap.size w w' := by
  go_enter Tryz.func144, Tryz.ntmps144
  go_wp2_with (first
    | (go_at_call 112; refine (wordKind_any _).mono ?_; rintro e w1 ⟨rfl, hb1⟩; have hc1 := (bcell hb1).1; have hf1 := (bcell hb1).2; have hy1 := hb1.size; (try simp at hy1); have hz1_0 : w.heap.size < w1.heap.size := (by omega))
    | (go_at_call 169; refine (numberKind_any _).mono ?_; rintro e w2 ⟨rfl, hb2⟩; have hc2 := (bcell hb2).1; have hf2 := (bcell hb2).2; have hy2 := hb2.size; (try simp at hy2); have hz2_0 : w.heap.size < w2.heap.size := (by omega))
    | (go_at_call 170; refine (signKind_any _).mono ?_; rintro e w3 ⟨rfl, hb3⟩; have hc3 := (bcell hb3).1; have hf3 := (bcell hb3).2; have hy3 := hb3.size; (try simp at hy3); have hz3_0 : w.heap.size < w3.heap.size := (by omega)))
  refine bodyPost_ret (v := .agg #[.int .i64 1, .int .i64 16, .func (.func 147) #[] #[], .func (.func 148) #[] #[], .int .i64 2, .int .i64 19, .func (.func 171) #[] #[], .func (.func 171) #[] #[], .int .i64 4, .int .i64 1, .func (.func 189) #[] #[], .func (.func 190) #[] #[]]) ?_ rfl ⟨rfl, ?_⟩
  · (simp [results, Tryz.results144, go_sem, *]; done)
  repeat (first | (with_reducible exact Below.refl _ _) | ((with_reducible refine cSet1 ?_ ?_ _ _); (· ((try simp) <;> omega))) | (with_reducible refine Below.drew ?_) | ((with_reducible refine cAlloc ?_ ?_ _); (· ((try simp) <;> omega))) | ((with_reducible refine cOn (by assumption) ?_ ?_); (· ((try simp) <;> omega))))

/-- How many octets there are up to the quote that ends it: of a text of so many octets, of which these are left. -/
def qN (n : Nat) (m : List UInt8) : Nat := match qscan m with
  | none => 0
  | some y => n - y.2.length
theorem qscan_free : ∀ m : List UInt8, (∀ k : Nat, m[k]? ≠ some 39) → qscan m = none
  | [], _ => rfl
  | c :: m, h => by
    rw [qscan_other (fun e => h 0 (by rw [e]; rfl)), qscan_free m fun k => by have := h (k + 1); simpa using this]
    rfl
theorem qscan_past : ∀ (o : Nat) (m : List UInt8), m[o]? = some 39 → (∀ k : Nat, k < o → m[k]? ≠ some 39) → ∀ n, qN n m = qN n (39 :: m.drop (o + 1))
  | o, [], h, _, n => by simp at h
  | 0, c :: m, h, _, n => by
    simp at h
    rw [h]
    rfl
  | o + 1, c :: m, h, hk, n => by
    have hc : c ≠ 39 := fun e => hk 0 (by omega) (by rw [e]; rfl)
    have ih := qscan_past o m (by simpa using h) (fun k hk' => by have := hk (k + 1) (by omega); simpa using this) n
    rw [List.drop_succ_cons, ← ih]
    unfold qN
    rw [qscan_other hc]
    cases qscan m <;> rfl
theorem qN_stop {n : Nat} {r : List UInt8} (h : r.head? ≠ some 39) : qN n (39 :: r) = n - r.length := by unfold qN; rw [qscan_end h]
theorem qN_on (n : Nat) (r : List UInt8) : qN n (39 :: 39 :: r) = qN n r := by
  unfold qN
  rw [qscan_two]
  cases qscan r <;> rfl
theorem rest_list (s : ByteArray) (n : Nat) : (s.extract n s.size).data.toList = s.data.toList.drop n := by
  have e : (s.extract n s.size).data.toList = (s.data.toList.drop n).take (s.size - n) := by
    simp [ByteArray.extract, ByteArray.data_append, ByteArray.copySlice]
  rw [e, List.take_of_length_le (by rw [List.length_drop, ← Lib.size_eq]; omega)]

set_option maxRecDepth 100000 in
set_option maxHeartbeats 1600000 in
theorem quoted_any (s : ByteArray) (w : World) (h1 : 1 ≤ s.size) (hs : s.size ≤ 100000) :
    Calls Tryz.prog 167 #[.string s] w fun e w' => e = .returned (.int .i64 (qN s.size (s.data.toList.drop 1))) ∧ Below w.heap.size w w' := by
  go_enter Tryz.func167, Tryz.ntmps167
  go_wp2
  go_loop [3, 4] (fun i _ => ∃ n : Nat, 1 ≤ n ∧ n ≤ s.size ∧ i = .int .i64 n ∧ Hid (qN s.size (s.data.toList.drop 1) = qN s.size (s.data.toList.drop n))) (fun i _ => s.size + 1 - (intOf i).toNat)
  case atStart => exact ⟨1, by omega, by omega, rfl, by show _ = _; rfl⟩
  case round =>
    obtain ⟨n, hn1, hn2, rfl, HN⟩ := hrel
    obtain ⟨i, hi⟩ : ∃ i, i = Lib.indexByte (s.data.toList.drop n) 39 := ⟨_, rfl⟩
    have HI := Lib.hid (fun (W : World) => (show Calls Tryz.prog 187 #[.string (s.extract n s.size), .int .u8 39] W fun e w' => e = .returned (.int .i64 i) ∧ w' = W by
      have := Tryz.strings_IndexByte (s.extract n s.size) 39 W
      rw [rest_list] at this
      rw [hi]
      exact this))
    have hge := indexByte_ge (s.data.toList.drop n) 39
    rw [← hi] at hge
    by_cases hneg : i < 0
    · have HR := Lib.hid (show qN s.size (s.data.toList.drop 1) = 0 by
        rw [HN.out]
        unfold qN
        rw [qscan_free _ (indexByte_none (by rw [← hi]; omega))])
      clear hi
      go_wp2_with (go_at_call 187; refine (HI.out _).mono ?_; rintro e w1 ⟨rfl, rfl⟩)
      go_ret
      exact ⟨ret_i64 (by rw [HR.out]; rfl), Below.refl _ _⟩
    · obtain ⟨o, rfl⟩ := Int.eq_ofNat_of_zero_le (show 0 ≤ i by omega)
      obtain ⟨g1, g2⟩ := indexByte_some hi.symm
      have ho : n + o < s.size := by
        have := (List.getElem?_eq_some_iff.1 g1).1
        rw [List.length_drop, ← Lib.size_eq] at this
        omega
      have HP := Lib.hid (HN.out.trans (qscan_past o _ g1 g2 s.size))
      clear hi g1 g2 hge hneg
      have hw1 : IntKind.i64.wrap ((o : Int) + 1) = (o : Int) + 1 := IntWalk.i64_in _ (by omega)
      have hw2 : IntKind.i64.wrap ((n : Int) + ((o : Int) + 1)) = (n : Int) + ((o : Int) + 1) := IntWalk.i64_in _ (by omega)
      have hdr : (s.data.toList.drop n).drop (o + 1) = s.data.toList.drop (n + (o + 1)) := by rw [List.drop_drop]
      rw [hdr] at HP
      clear hdr
      by_cases he : n + (o + 1) = s.size
      · have HR := Lib.hid (show qN s.size (s.data.toList.drop 1) = n + (o + 1) by
          rw [HP.out, List.drop_of_length_le (by rw [← Lib.size_eq]; omega), qN_stop (by simp)]
          simp
          omega)
        have he' : (n : Int) + ((o : Int) + 1) = (s.size : Int) := by omega
        go_wp2_with (go_at_call 187; refine (HI.out _).mono ?_; rintro e w1 ⟨rfl, rfl⟩)
        go_ret
        exact ⟨ret_i64 (by rw [HR.out]; omega), Below.refl _ _⟩
      · have he' : ¬ (n : Int) + ((o : Int) + 1) = (s.size : Int) := by omega
        have hlt : n + (o + 1) < s.size := by omega
        have hhd := get_at' hlt
        by_cases h39 : (s[n + (o + 1)].toNat : Int) = 39
        · have HR := Lib.hid (show qN s.size (s.data.toList.drop 1) = qN s.size (s.data.toList.drop (n + (o + 1) + 1)) by
            have h2 : n + (o + 1) < s.data.toList.length := by rw [← Lib.size_eq]; exact hlt
            have h3 : s.data.toList[n + (o + 1)] = 39 := UInt8.toNat_inj.1 (by show s[n + (o + 1)].toNat = 39; omega)
            rw [HP.out, List.drop_eq_getElem_cons h2, h3, qN_on])
          clear hhd
          go_wp2_with (go_at_call 187; refine (HI.out _).mono ?_; rintro e w1 ⟨rfl, rfl⟩)
          go_round
          case rel => exact ⟨n + (o + 1) + 1, by omega, by omega, by go_num, HR.out⟩
          case measure => simp [intOf]; omega
        · have HR := Lib.hid (show qN s.size (s.data.toList.drop 1) = n + (o + 1) by
            have h2 : n + (o + 1) < s.data.toList.length := by rw [← Lib.size_eq]; exact hlt
            have h3 : s.data.toList[n + (o + 1)] = s[n + (o + 1)] := rfl
            rw [HP.out, qN_stop, List.length_drop, ← Lib.size_eq]
            · omega
            · rw [List.drop_eq_getElem_cons h2, h3]
              simp
              intro e
              exact h39 (by rw [e]; rfl))
          have h39' : ((s[n + (o + 1)].toNat : Int) != 39) = true := by simpa using h39
          clear hhd
          go_wp2_with (go_at_call 187; refine (HI.out _).mono ?_; rintro e w1 ⟨rfl, rfl⟩)
          go_ret
          exact ⟨ret_i64 (by rw [HR.out]; omega), Below.refl _ _⟩

end Go.Proofs.YtchebhdndkaheaaGreatDoor

/- Words of the language; which node of an expression is formed. -/
namespace Go.Proofs.YtchebhdndkaheaaGreatDoor
open Go.RowKit Go.Lib

/-- The words of the language. -/
def resW : List (List UInt8) := [[65, 78, 68], [79, 82], [78, 79, 84], [73, 83], [78, 85, 76, 76], [84, 82, 85, 69], [70, 65, 76, 83, 69], [67, 82, 69, 65, 84, 69], [84, 65, 66, 76, 69], [73, 78, 84], [84, 69, 88, 84], [66, 79, 79, 76], [75, 69, 89], [85, 78, 73, 81, 85, 69], [82, 69, 70, 69, 82, 69, 78, 67, 69, 83], [67, 72, 69, 67, 75], [68, 82, 79, 80], [73, 78, 83, 69, 82, 84], [73, 78, 84, 79], [86, 65, 76, 85, 69, 83], [85, 80, 68, 65, 84, 69], [83, 69, 84], [68, 69, 76, 69, 84, 69], [83, 69, 76, 69, 67, 84], [70, 82, 79, 77], [87, 72, 69, 82, 69], [71, 82, 65, 78, 84], [82, 69, 86, 79, 75, 69], [82, 69, 65, 68], [87, 82, 73, 84, 69], [79, 78], [84, 79], [77, 73, 71, 82, 65, 84, 69], [67, 79, 80, 89], [74, 79, 73, 78], [71, 82, 79, 85, 80], [66, 89], [83, 85, 77]]
def G1 : List (List UInt8) := [[65, 78, 68], [79, 82], [78, 79, 84], [73, 83], [78, 85, 76, 76], [84, 82, 85, 69], [70, 65, 76, 83, 69]]
def G2 : List (List UInt8) := [[67, 82, 69, 65, 84, 69], [84, 65, 66, 76, 69], [73, 78, 84], [84, 69, 88, 84], [66, 79, 79, 76], [75, 69, 89], [85, 78, 73, 81, 85, 69], [82, 69, 70, 69, 82, 69, 78, 67, 69, 83], [67, 72, 69, 67, 75], [68, 82, 79, 80]]
def G3 : List (List UInt8) := [[73, 78, 83, 69, 82, 84], [73, 78, 84, 79], [86, 65, 76, 85, 69, 83], [85, 80, 68, 65, 84, 69], [83, 69, 84], [68, 69, 76, 69, 84, 69], [83, 69, 76, 69, 67, 84], [70, 82, 79, 77], [87, 72, 69, 82, 69]]
def G4 : List (List UInt8) := [[71, 82, 65, 78, 84], [82, 69, 86, 79, 75, 69], [82, 69, 65, 68], [87, 82, 73, 84, 69], [79, 78], [84, 79]]
def G5 : List (List UInt8) := [[77, 73, 71, 82, 65, 84, 69], [67, 79, 80, 89], [74, 79, 73, 78], [71, 82, 79, 85, 80], [66, 89], [83, 85, 77]]
def resB (s : ByteArray) : Bool := resW.contains s.toList
def grpB (g : List (List UInt8)) (s : ByteArray) : Bool := g.contains s.toList
theorem grp_is {g : List (List UInt8)} {s : ByteArray} {w : List UInt8} (hw : g.contains w = true) (h : (s.toList == w) = true) : Hid ((s.toList == w) = grpB g s) := by
  show (s.toList == w) = grpB g s
  rw [h]
  unfold grpB
  rw [eq_of_beq h, hw]
theorem grp_last {g : List (List UInt8)} {s : ByteArray} {w : List UInt8} (g' : List (List UInt8)) (hg : g = g' ++ [w]) (h : ∀ w ∈ g', (s.toList == w) = false) : Hid ((s.toList == w) = grpB g s) := by
  show (s.toList == w) = grpB g s
  unfold grpB
  rw [hg, List.contains_eq_any_beq, List.any_append]
  have : g'.any (fun x => s.toList == x) = false := by
    rw [List.any_eq_false]
    intro x hx
    rw [h x hx]; decide
  rw [this]
  simp
theorem resB_grp (s : ByteArray) : resB s = (grpB G1 s || (grpB G2 s || (grpB G3 s || (grpB G4 s || grpB G5 s)))) := by
  have e : resW = G1 ++ (G2 ++ (G3 ++ (G4 ++ G5))) := rfl
  unfold resB grpB
  rw [e]
  simp only [List.contains_eq_any_beq, List.any_append]
theorem res_t1 {s : ByteArray} (h1 : Hid (true = grpB G1 s)) : true = resB s := by rw [resB_grp, ← h1.out]; rfl
theorem res_t2 {s : ByteArray} (h1 : Hid (false = grpB G1 s)) (h2 : Hid (true = grpB G2 s)) : true = resB s := by rw [resB_grp, ← h1.out, ← h2.out]; rfl
theorem res_t3 {s : ByteArray} (h1 : Hid (false = grpB G1 s)) (h2 : Hid (false = grpB G2 s)) (h3 : Hid (true = grpB G3 s)) : true = resB s := by rw [resB_grp, ← h1.out, ← h2.out, ← h3.out]; rfl
theorem res_t4 {s : ByteArray} (h1 : Hid (false = grpB G1 s)) (h2 : Hid (false = grpB G2 s)) (h3 : Hid (false = grpB G3 s)) (h4 : Hid (true = grpB G4 s)) : true = resB s := by rw [resB_grp, ← h1.out, ← h2.out, ← h3.out, ← h4.out]; rfl
theorem res_t5 {s : ByteArray} (h1 : Hid (false = grpB G1 s)) (h2 : Hid (false = grpB G2 s)) (h3 : Hid (false = grpB G3 s)) (h4 : Hid (false = grpB G4 s)) (h5 : Hid (true = grpB G5 s)) : true = resB s := by rw [resB_grp, ← h1.out, ← h2.out, ← h3.out, ← h4.out, ← h5.out]; rfl
theorem res_f {s : ByteArray} (h1 : Hid (false = grpB G1 s)) (h2 : Hid (false = grpB G2 s)) (h3 : Hid (false = grpB G3 s)) (h4 : Hid (false = grpB G4 s)) (h5 : Hid (false = grpB G5 s)) : false = resB s := by rw [resB_grp, ← h1.out, ← h2.out, ← h3.out, ← h4.out, ← h5.out]; rfl

set_option maxRecDepth 100000 in
set_option maxHeartbeats 4000000 in
theorem reserved_any (s : ByteArray) (w : World) :
    Calls Tryz.prog 88 #[.string s] w fun e w' => e = .returned (.bool (resB s)) ∧ Below w.heap.size w w' := by
  go_enter Tryz.func88, Tryz.ntmps88
  go_upto_if 4 with (fail)
  go_cut [4] (fun v wr => w = wr ∧ ∃ b, v = .bool b ∧ Hid (b = grpB G1 s))
  case first =>
    go_wp2_with (fail)
    all_goals
      go_meet
      first
        | exact ⟨rfl, _, rfl, grp_is (w := [65, 78, 68]) (by decide) (by assumption)⟩
        | exact ⟨rfl, _, rfl, grp_is (w := [79, 82]) (by decide) (by assumption)⟩
        | exact ⟨rfl, _, rfl, grp_is (w := [78, 79, 84]) (by decide) (by assumption)⟩
        | exact ⟨rfl, _, rfl, grp_is (w := [73, 83]) (by decide) (by assumption)⟩
        | exact ⟨rfl, _, rfl, grp_is (w := [78, 85, 76, 76]) (by decide) (by assumption)⟩
        | exact ⟨rfl, _, rfl, grp_is (w := [84, 82, 85, 69]) (by decide) (by assumption)⟩
        | (refine ⟨rfl, _, rfl, grp_last [[65, 78, 68], [79, 82], [78, 79, 84], [73, 83], [78, 85, 76, 76], [84, 82, 85, 69]] rfl fun x hx => ?_⟩
           simp only [List.mem_cons, List.not_mem_nil, or_false] at hx
           rcases hx with rfl | rfl | rfl | rfl | rfl | rfl <;> assumption)
  obtain ⟨rfl, b, rfl, h1⟩ := hcut
  cases b with
  | true =>
    go_wp2_with (fail)
    go_ret
    exact ⟨ret_bool (res_t1 h1), Below.refl _ _⟩
  | false =>
  go_upto_if 12 with (fail)
  go_cut [12] (fun v wr => w = wr ∧ ∃ b, v = .bool b ∧ Hid (b = grpB G2 s))
  case first =>
    go_wp2_with (fail)
    all_goals
      go_meet
      first
        | exact ⟨rfl, _, rfl, grp_is (w := [67, 82, 69, 65, 84, 69]) (by decide) (by assumption)⟩
        | exact ⟨rfl, _, rfl, grp_is (w := [84, 65, 66, 76, 69]) (by decide) (by assumption)⟩
        | exact ⟨rfl, _, rfl, grp_is (w := [73, 78, 84]) (by decide) (by assumption)⟩
        | exact ⟨rfl, _, rfl, grp_is (w := [84, 69, 88, 84]) (by decide) (by assumption)⟩
        | exact ⟨rfl, _, rfl, grp_is (w := [66, 79, 79, 76]) (by decide) (by assumption)⟩
        | exact ⟨rfl, _, rfl, grp_is (w := [75, 69, 89]) (by decide) (by assumption)⟩
        | exact ⟨rfl, _, rfl, grp_is (w := [85, 78, 73, 81, 85, 69]) (by decide) (by assumption)⟩
        | exact ⟨rfl, _, rfl, grp_is (w := [82, 69, 70, 69, 82, 69, 78, 67, 69, 83]) (by decide) (by assumption)⟩
        | exact ⟨rfl, _, rfl, grp_is (w := [67, 72, 69, 67, 75]) (by decide) (by assumption)⟩
        | (refine ⟨rfl, _, rfl, grp_last [[67, 82, 69, 65, 84, 69], [84, 65, 66, 76, 69], [73, 78, 84], [84, 69, 88, 84], [66, 79, 79, 76], [75, 69, 89], [85, 78, 73, 81, 85, 69], [82, 69, 70, 69, 82, 69, 78, 67, 69, 83], [67, 72, 69, 67, 75]] rfl fun x hx => ?_⟩
           simp only [List.mem_cons, List.not_mem_nil, or_false] at hx
           rcases hx with rfl | rfl | rfl | rfl | rfl | rfl | rfl | rfl | rfl <;> assumption)
  obtain ⟨rfl, b, rfl, h2⟩ := hcut
  cases b with
  | true =>
    go_wp2_with (fail)
    go_ret
    exact ⟨ret_bool (res_t2 h1 h2), Below.refl _ _⟩
  | false =>
  go_upto_if 23 with (fail)
  go_cut [23] (fun v wr => w = wr ∧ ∃ b, v = .bool b ∧ Hid (b = grpB G3 s))
  case first =>
    go_wp2_with (fail)
    all_goals
      go_meet
      first
        | exact ⟨rfl, _, rfl, grp_is (w := [73, 78, 83, 69, 82, 84]) (by decide) (by assumption)⟩
        | exact ⟨rfl, _, rfl, grp_is (w := [73, 78, 84, 79]) (by decide) (by assumption)⟩
        | exact ⟨rfl, _, rfl, grp_is (w := [86, 65, 76, 85, 69, 83]) (by decide) (by assumption)⟩
        | exact ⟨rfl, _, rfl, grp_is (w := [85, 80, 68, 65, 84, 69]) (by decide) (by assumption)⟩
        | exact ⟨rfl, _, rfl, grp_is (w := [83, 69, 84]) (by decide) (by assumption)⟩
        | exact ⟨rfl, _, rfl, grp_is (w := [68, 69, 76, 69, 84, 69]) (by decide) (by assumption)⟩
        | exact ⟨rfl, _, rfl, grp_is (w := [83, 69, 76, 69, 67, 84]) (by decide) (by assumption)⟩
        | exact ⟨rfl, _, rfl, grp_is (w := [70, 82, 79, 77]) (by decide) (by assumption)⟩
        | (refine ⟨rfl, _, rfl, grp_last [[73, 78, 83, 69, 82, 84], [73, 78, 84, 79], [86, 65, 76, 85, 69, 83], [85, 80, 68, 65, 84, 69], [83, 69, 84], [68, 69, 76, 69, 84, 69], [83, 69, 76, 69, 67, 84], [70, 82, 79, 77]] rfl fun x hx => ?_⟩
           simp only [List.mem_cons, List.not_mem_nil, or_false] at hx
           rcases hx with rfl | rfl | rfl | rfl | rfl | rfl | rfl | rfl <;> assumption)
  obtain ⟨rfl, b, rfl, h3⟩ := hcut
  cases b with
  | true =>
    go_wp2_with (fail)
    go_ret
    exact ⟨ret_bool (res_t3 h1 h2 h3), Below.refl _ _⟩
  | false =>
  go_upto_if 33 with (fail)
  go_cut [33] (fun v wr => w = wr ∧ ∃ b, v = .bool b ∧ Hid (b = grpB G4 s))
  case first =>
    go_wp2_with (fail)
    all_goals
      go_meet
      first
        | exact ⟨rfl, _, rfl, grp_is (w := [71, 82, 65, 78, 84]) (by decide) (by assumption)⟩
        | exact ⟨rfl, _, rfl, grp_is (w := [82, 69, 86, 79, 75, 69]) (by decide) (by assumption)⟩
        | exact ⟨rfl, _, rfl, grp_is (w := [82, 69, 65, 68]) (by decide) (by assumption)⟩
        | exact ⟨rfl, _, rfl, grp_is (w := [87, 82, 73, 84, 69]) (by decide) (by assumption)⟩
        | exact ⟨rfl, _, rfl, grp_is (w := [79, 78]) (by decide) (by assumption)⟩
        | (refine ⟨rfl, _, rfl, grp_last [[71, 82, 65, 78, 84], [82, 69, 86, 79, 75, 69], [82, 69, 65, 68], [87, 82, 73, 84, 69], [79, 78]] rfl fun x hx => ?_⟩
           simp only [List.mem_cons, List.not_mem_nil, or_false] at hx
           rcases hx with rfl | rfl | rfl | rfl | rfl <;> assumption)
  obtain ⟨rfl, b, rfl, h4⟩ := hcut
  cases b with
  | true =>
    go_wp2_with (fail)
    go_ret
    exact ⟨ret_bool (res_t4 h1 h2 h3 h4), Below.refl _ _⟩
  | false =>
  go_upto_if 40 with (fail)
  go_cut [40] (fun v wr => w = wr ∧ ∃ b, v = .bool b ∧ Hid (b = grpB G5 s))
  case first =>
    go_wp2_with (fail)
    all_goals
      go_meet
      first
        | exact ⟨rfl, _, rfl, grp_is (w := [77, 73, 71, 82, 65, 84, 69]) (by decide) (by assumption)⟩
        | exact ⟨rfl, _, rfl, grp_is (w := [67, 79, 80, 89]) (by decide) (by assumption)⟩
        | exact ⟨rfl, _, rfl, grp_is (w := [74, 79, 73, 78]) (by decide) (by assumption)⟩
        | exact ⟨rfl, _, rfl, grp_is (w := [71, 82, 79, 85, 80]) (by decide) (by assumption)⟩
        | exact ⟨rfl, _, rfl, grp_is (w := [66, 89]) (by decide) (by assumption)⟩
        | (refine ⟨rfl, _, rfl, grp_last [[77, 73, 71, 82, 65, 84, 69], [67, 79, 80, 89], [74, 79, 73, 78], [71, 82, 79, 85, 80], [66, 89]] rfl fun x hx => ?_⟩
           simp only [List.mem_cons, List.not_mem_nil, or_false] at hx
           rcases hx with rfl | rfl | rfl | rfl | rfl <;> assumption)
  obtain ⟨rfl, b, rfl, h5⟩ := hcut
  cases b with
  | true =>
    go_wp2_with (fail)
    go_ret
    exact ⟨ret_bool (res_t5 h1 h2 h3 h4 h5), Below.refl _ _⟩
  | false =>
    go_wp2_with (fail)
    go_ret
    exact ⟨ret_bool (res_f h1 h2 h3 h4 h5), Below.refl _ _⟩

set_option maxRecDepth 100000 in
set_option maxHeartbeats 1600000 in
theorem name_any (s : ByteArray) (w : World) (hs : s.size ≤ 100000) :
    Calls Tryz.prog 87 #[.string s] w fun e w' => e = .returned (.bool (kmay letB parB 16 s.data.toList)) ∧ Below w.heap.size w w' := by
  go_enter Tryz.func87, Tryz.ntmps87
  go_wp2_with (first
    | (go_at_call 112; refine (wordKind_any _).mono ?_; rintro e w1 ⟨rfl, hb1⟩)
    | (go_at_call 113; refine (kmay_any 1 16 _ _ letB parB cls_letter cls_inWord s _ hs (by omega)).mono ?_; rintro e w2 ⟨rfl, hb2⟩))
  go_ret
  exact ⟨rfl, hb1.trans (hb2.mono hb1.size)⟩
end Go.Proofs.YtchebhdndkaheaaGreatDoor

import Derived.Test.YtmhkmliebhbkdaaGreatX03
import Derived.LoopTactic
import Derived.Outline
import Derived.Lib.ReplaceLaws
import Derived.Lib.ItoaNum
import Derived.Lib.SmallJoins
import Derived.Lib.AppendIntMem
import Derived.Laws.BytesArg
import Derived.Laws.OwnMore
import Derived.Deep.LoopGhost
import Derived.Lib.ItoaLen
import Derived.Lib.ItoaMem
import Derived.Lib.IndexLaws

/- The octets of a text that may be; the document's own May and good. -/
namespace Go.Proofs.YtmhkmliebhbkdaaGreat
open Go.RowKit Go.Lib

def okO (c : UInt8) : Bool := decide (32 ≤ c.toNat) && decide (c.toNat ≤ 126)
def allO (s : ByteArray) : Bool := s.data.toList.all okO
/-- The first n octets are those of a text. -/
def okTo (s : ByteArray) (n : Nat) : Prop := ∀ j, j < n → okO (s.get! j) = true

theorem decode_lo (s : ByteArray) (i : Nat) (h : (s.get! i).toNat < 128) : Utf8.decode s i = ((s.get! i).toNat, 1) := by
  rw [decode_at, decodeN, if_pos h]
theorem decode_hi (s : ByteArray) (i : Nat) (h : 128 ≤ (s.get! i).toNat) : 128 ≤ (Utf8.decode s i).1 := by
  rw [decode_at]
  unfold decodeN
  repeat' split
  all_goals (simp only; omega)
theorem out_ok (s : ByteArray) (i : Nat) : outP (Utf8.decode s i).1 = !okO (s.get! i) := by
  unfold outP okO
  by_cases h : (s.get! i).toNat < 128
  · rw [decode_lo s i h]
    generalize (s.get! i).toNat = n
    rw [Bool.eq_iff_iff]; simp; omega
  · have := decode_hi s i (by omega)
    rw [Bool.eq_iff_iff]; simp; omega
theorem idx_out (s : ByteArray) : ∀ (f pos : Nat), s.size ≤ pos + f → (0 ≤ Lib.idxFuncFrom outP true s f pos ↔ ∃ j, pos ≤ j ∧ j < s.size ∧ okO (s.get! j) = false)
  | 0, pos, h => by simp [Lib.idxFuncFrom]; omega
  | f + 1, pos, h => by
    rw [Lib.idxFuncFrom]
    by_cases hp : pos < s.size
    · rw [if_pos hp]
      cases ho : okO (s.get! pos) with
      | false => rw [out_ok, ho]; simp only [Bool.not_false, if_true]; exact ⟨fun _ => ⟨pos, Nat.le_refl _, hp, ho⟩, fun _ => by omega⟩
      | true =>
        have hlo : (s.get! pos).toNat < 128 := by unfold okO at ho; simp at ho; omega
        rw [out_ok, ho]
        simp only [Bool.not_true, Bool.false_eq_true, if_false]
        rw [decode_lo s pos hlo, idx_out s f (pos + 1) (by omega)]
        constructor
        · rintro ⟨j, h1, h2, h3⟩; exact ⟨j, by omega, h2, h3⟩
        · rintro ⟨j, h1, h2, h3⟩
          refine ⟨j, ?_, h2, h3⟩
          by_cases hj : j = pos
          · subst hj; rw [ho] at h3; cases h3
          · omega
    · rw [if_neg hp]
      constructor
      · intro h; omega
      · rintro ⟨j, h1, h2, _⟩; omega
theorem allO_iff (s : ByteArray) : allO s = true ↔ okTo s s.size := by
  unfold allO okTo
  rw [List.all_eq_true]
  constructor
  · intro h j hj
    refine h _ ?_
    have : s.get! j = s.data[j]'hj := by simp [ByteArray.get!, hj]
    rw [this]; simp
  · intro h x hx
    obtain ⟨j, hj, rfl⟩ := List.getElem_of_mem hx
    have hj' : j < s.size := by simpa using hj
    have := h j hj'
    rw [show s.get! j = s.data[j]'hj' by simp [ByteArray.get!, hj']] at this
    simpa using this
theorem txt_all (s : ByteArray) : txtB s = allO s := by
  unfold txtB Lib.idxFunc
  have h := idx_out s s.size 0 (by omega)
  cases ha : allO s with
  | true =>
    have ho := (allO_iff s).1 ha
    have : ¬ (0 ≤ Lib.idxFuncFrom outP true s s.size 0) := fun h' => by
      obtain ⟨j, _, hj, hf⟩ := h.1 h'
      rw [ho j hj] at hf; cases hf
    simp [this]
  | false =>
    have : 0 ≤ Lib.idxFuncFrom outP true s s.size 0 := by
      refine h.2 (Classical.byContradiction fun hn => ?_)
      have : allO s = true := (allO_iff s).2 fun j hj => by
        cases ho : okO (s.get! j) with
        | true => rfl
        | false => exact absurd ⟨j, Nat.zero_le _, hj, ho⟩ hn
      rw [ha] at this; cases this
    simp [this]

theorem toList_data (s : ByteArray) : s.toList = s.data.toList := ByteArray.toList_eq s
/-- One that has an octet that is none may not be. -/
theorem may_bad (k i : Int) (s : ByteArray) (h : allO s = false) : mayB k i s = false := by
  have hne : s.toList.isEmpty = false := by
    cases he : s.toList.isEmpty with
    | false => rfl
    | true =>
      rw [toList_data] at he
      unfold allO at h
      rw [List.isEmpty_iff.1 he] at h
      cases h
  unfold mayB
  rw [txt_all, h, hne]
  simp
/-- One that has none such. -/
def mayA (k i : Int) (s : ByteArray) : Bool :=
  if k = 0 then decide (i = 0) && s.toList.isEmpty else if k = 1 then s.toList.isEmpty else if k = 2 then decide (i = 0) && decide (s.size ≤ 40) else if k = 3 then s.toList.isEmpty && (decide (i = 0) || decide (i = 1)) else false
theorem may_good (k i : Int) (s : ByteArray) (h : allO s = true) : mayB k i s = mayA k i s := by
  unfold mayB mayA
  rw [txt_all, h]
  simp
theorem okTo_succ {s : ByteArray} {n : Nat} (h : okTo s n) (ho : okO (s.get! n) = true) : okTo s (n + 1) := fun j hj => by
  by_cases e : j = n
  · rw [e]; exact ho
  · exact h j (by omega)
theorem okTo_bad {s : ByteArray} {n : Nat} (hn : n < s.size) (ho : okO (s.get! n) = false) : allO s = false := by
  cases ha : allO s with
  | false => rfl
  | true => have := (allO_iff s).1 ha n hn; rw [ho] at this; cases this
theorem get_at (s : ByteArray) (n : Nat) (h : n < s.size) : s.get! n = s[n] := by
  show s.data[n]! = s.data[n]
  exact getElem!_pos _ _ _

set_option maxHeartbeats 800000 in
theorem rmay_any (k i : Int) (s : ByteArray) (w : World) (hs : s.size ≤ maxLen) :
    Calls Tryz.prog 73 #[.agg #[.int .i64 k, .int .i64 i, .string s]] w fun e w' => e = .returned (.bool (mayB k i s)) ∧ Below w.heap.size w w' := by
  unfold maxLen at hs
  go_enter Tryz.func73, Tryz.ntmps73
  go_wp2
  go_loop [3] (fun t => ∃ n : Nat, n ≤ s.size ∧ okTo s n ∧ t = .int .i64 n) (fun t => s.size - (intOf t).toNat)
  case atStart => exact ⟨0, Nat.zero_le _, fun j hj => absurd hj (by omega), rfl⟩
  case round =>
    obtain ⟨n, hn, hok, rfl⟩ := hrel
    by_cases hlt : n < s.size
    · have hg := get_at s n hlt
      by_cases h1 : (s[n].toNat : Int) < 32
      · have hbad : mayB k i s = false := may_bad k i s (okTo_bad hlt (by rw [hg]; unfold okO; simp; omega))
        have HB := Lib.hid hbad
        clear hbad hg
        go_wp2
        go_ret
        exact ⟨ret_bool HB.out.symm, (Below.refl _ _).alloc (Nat.le_refl _) _⟩
      · by_cases h2 : (126 : Int) < (s[n].toNat : Int)
        · have hbad : mayB k i s = false := may_bad k i s (okTo_bad hlt (by rw [hg]; unfold okO; simp; omega))
          have HB := Lib.hid hbad
          clear hbad hg
          go_wp2
          go_ret
          exact ⟨ret_bool HB.out.symm, (Below.refl _ _).alloc (Nat.le_refl _) _⟩
        · have hok' : okTo s (n + 1) := okTo_succ hok (by rw [hg]; unfold okO; simp; omega)
          clear hg hok
          go_wp2
          go_round
          case rel => exact ⟨n + 1, by omega, hok', by go_num⟩
          case measure => simp [intOf]; omega
    · have hall : allO s = true := (allO_iff s).2 fun j hj => hok j (by omega)
      have HB := Lib.hid (may_good k i s hall)
      clear hall hok
      go_wp2
      all_goals
        go_ret
        refine ⟨ret_bool ?_, (Below.refl _ _).alloc (Nat.le_refl _) _⟩
        (try subst_vars)
        rw [HB.out]
        clear HB
        simp_all [mayA] <;> (try omega) <;> (try (rw [Bool.eq_iff_iff]; simp; omega))
end Go.Proofs.YtmhkmliebhbkdaaGreat

/- The document's own good, apart, Order, Equal, Less, Plus, Minus, Truth. -/
namespace Go.Proofs.YtmhkmliebhbkdaaGreat
open Go.RowKit Go.Lib

set_option maxRecDepth 100000 in
set_option maxHeartbeats 800000 in
theorem rgood_t (k i : Int) (s : ByteArray) (w : World) (hs : s.size ≤ maxLen) (h : mayB k i s = true) :
    Calls Tryz.prog 46 #[.agg #[.int .i64 k, .int .i64 i, .string s]] w fun e w' => e = .returned (.agg #[.int .i64 k, .int .i64 i, .string s]) ∧ Below w.heap.size w w' := by
  have H := Lib.hid (And.intro h hs)
  clear h hs
  go_enter Tryz.func46, Tryz.ntmps46
  go_wp2_with (first
    | (go_at_call 73; refine ((rmay_any k i s _ H.out.2).mono (fun _ _ h => (H.out.1 ▸ h : _ = Ending.returned (.bool true) ∧ _))).mono ?_; rintro e w1 ⟨rfl, hb1⟩; have hc1 := (bcell hb1).1; have hf1 := (bcell hb1).2; have hy1 := hb1.size; (try simp at hy1); have hz1_0 : w.heap.size < w1.heap.size := (by omega); have hz1_1 : w.heap.size + 1 < w1.heap.size := (by omega)))
  (refine bodyPost_ret (v := .agg #[.int .i64 k, .int .i64 i, .string s]) ?_ rfl ⟨rfl, ?_⟩; (· (simp [results, Tryz.results46, go_sem, *]; done)))
  repeat (first | (with_reducible exact Below.refl _ _) | ((with_reducible refine cSet3 ?_ ?_ _ _ _); (· ((try simp) <;> omega))) | (with_reducible refine Below.drew ?_) | ((with_reducible refine cAlloc ?_ ?_ _); (· ((try simp) <;> omega))) | ((with_reducible refine cOn (by assumption) ?_ ?_); (· ((try simp) <;> omega))))

set_option maxRecDepth 100000 in
set_option maxHeartbeats 800000 in
theorem rgood_f (k i : Int) (s : ByteArray) (w : World) (hs : s.size ≤ maxLen) (h : mayB k i s = false) :
    Calls Tryz.prog 46 #[.agg #[.int .i64 k, .int .i64 i, .string s]] w fun e w' => e = .returned (.agg #[.int .i64 0, .int .i64 0, .string ⟨#[]⟩]) ∧ Below w.heap.size w w' := by
  have H := Lib.hid (And.intro h hs)
  clear h hs
  go_enter Tryz.func46, Tryz.ntmps46
  go_wp2_with (first
    | (go_at_call 73; refine ((rmay_any k i s _ H.out.2).mono (fun _ _ h => (H.out.1 ▸ h : _ = Ending.returned (.bool false) ∧ _))).mono ?_; rintro e w1 ⟨rfl, hb1⟩; have hc1 := (bcell hb1).1; have hf1 := (bcell hb1).2; have hy1 := hb1.size; (try simp at hy1); have hz1_0 : w.heap.size < w1.heap.size := (by omega); have hz1_1 : w.heap.size + 1 < w1.heap.size := (by omega)))
  (refine bodyPost_ret (v := .agg #[.int .i64 0, .int .i64 0, .string ⟨#[]⟩]) ?_ rfl ⟨rfl, ?_⟩; (· (simp [results, Tryz.results46, go_sem, *]; done)))
  repeat (first | (with_reducible exact Below.refl _ _) | ((with_reducible refine cSet3 ?_ ?_ _ _ _); (· ((try simp) <;> omega))) | (with_reducible refine Below.drew ?_) | ((with_reducible refine cAlloc ?_ ?_ _); (· ((try simp) <;> omega))) | ((with_reducible refine cOn (by assumption) ?_ ?_); (· ((try simp) <;> omega))))

theorem rgood_any (k i : Int) (s : ByteArray) (w : World) (hs : s.size ≤ maxLen) :
    Calls Tryz.prog 46 #[.agg #[.int .i64 k, .int .i64 i, .string s]] w fun e w' => e = .returned (.agg #[.int .i64 (hK k i s), .int .i64 (hI k i s), .string (hS k i s)]) ∧ Below w.heap.size w w' := by
  cases h : mayB k i s with
  | true =>
    have := rgood_t k i s w hs h
    unfold hK hI hS
    simp only [h, if_true]
    exact this
  | false =>
    have := rgood_f k i s w hs h
    unfold hK hI hS
    simp only [h, Bool.false_eq_true, if_false]
    exact this

set_option maxRecDepth 100000 in
set_option maxHeartbeats 800000 in
theorem rapart_any (k i : Int) (s : ByteArray) (k' i' : Int) (s' : ByteArray) (w : World) (hs : s.size ≤ maxLen) (hs' : s'.size ≤ maxLen) :
    Calls Tryz.prog 119 #[.agg #[.int .i64 k, .int .i64 i, .string s], .agg #[.int .i64 k', .int .i64 i', .string s']] w fun e w' => e = .returned (.bool (!alikeB k i s k' i' s')) ∧ Below w.heap.size w w' := by
  go_enter Tryz.func119, Tryz.ntmps119
  go_wp2
  refine detL_begin [.val (.agg #[.int .i64 k, .int .i64 i, .string s]), .val (.agg #[.int .i64 (hK k i s), .int .i64 (hI k i s), .string (hS k i s)]), .val (.agg #[.int .i64 k', .int .i64 i', .string s']), .val (.agg #[.int .i64 (hK k' i' s'), .int .i64 (hI k' i' s'), .string (hS k' i' s')])] 4 (by kernel_rfl) ?_
  repeat
    (refine detL_val (by kernel_rfl) (yields_of rfl fun w1 hb1 => ?_) ?_
     · have hc1 := bcellD hb1
       clear hb1
       go_simp
       with_reducible first
         | exact Det1_same
         | exact Det1_enter (rgood_any _ _ _ _ hs)
         | exact Det1_enter (rgood_any _ _ _ _ hs')
     simp only [Act.put, List.setIfInBounds_toArray, List.set_cons_zero, List.set_cons_succ])
  refine detL_tail rfl (by kernel_rfl) fun w1 hw1 => ?_
  have hb1 := hw1.below
  clear hw1 hs hs'
  have hc1 := (bcell hb1).1
  have hf1 := (bcell hb1).2
  have hy1 := hb1.size
  (try simp at hy1)
  have hz1_0 : w.heap.size < w1.heap.size := (by omega)
  have hz1_1 : w.heap.size + 1 < w1.heap.size := (by omega)
  go_upto_region 2 with (fail)
  refine wp_gen (Boxes w (hK k i s) (hI k i s) (hS k i s) (hK k' i' s') (hI k' i' s') (hS k' i' s')) (((Boxes.start w k i s k' i' s' 26 26).later hb1).store _ _ _ _ _ _) ?_
  intro W hW
  clear hc1 hf1 hb1 hy1 hz1_0 hz1_1
  have hk := hW.k
  have hi := hW.i
  have hs := hW.s
  have hk' := hW.k'
  have hi' := hW.i'
  have hs' := hW.s'
  have hn0 : w.heap.size < W.heap.size := by have := hW.size; omega
  have hn1 : w.heap.size + 1 < W.heap.size := by have := hW.size; omega
  go_wp2
  all_goals
    go_ret
    refine ⟨ret_bool ?_, hW.below⟩
    clear hW hk hi hs hk' hi' hs' hn0 hn1
    unfold alikeB
    by_cases h1 : (hK k i s) = 0 <;> by_cases h2 : (hK k' i' s') = 0 <;> by_cases h3 : (hK k i s) = (hK k' i' s') <;> simp_all [bne]

theorem less_cmp : ∀ (a b : List UInt8), Op.bytesLess a b = decide (Lib.compareBytes a b < 0)
  | [], [] => by simp [Op.bytesLess, Lib.compareBytes]
  | [], _ :: _ => by simp [Op.bytesLess, Lib.compareBytes]
  | _ :: _, [] => by simp [Op.bytesLess, Lib.compareBytes]
  | x :: a, y :: b => by
    simp only [Op.bytesLess, Lib.compareBytes]
    by_cases h1 : x < y
    · simp [h1]
    · by_cases h2 : y < x
      · have : x ≠ y := fun h => by subst h; exact absurd h2 (UInt8.lt_irrefl _)
        simp [h1, h2, this]
      · have : x = y := by rw [UInt8.lt_iff_toNat_lt] at h1 h2; exact UInt8.toNat_inj.1 (by omega)
        subst this
        simp [less_cmp a b, h1]
theorem ord_way0 {k i : Int} {s : ByteArray} {k' i' : Int} {s' : ByteArray} (h1 : (hK k i s) = (hK k' i' s')) (h2 : (hI k i s) = (hI k' i' s')) (h3 : (hS k i s).toList = (hS k' i' s').toList) : ordN k i s k' i' s' = 0 := by
  unfold ordN
  rw [ordH_zero]
  refine ⟨h1, h2, ?_⟩
  rw [toList_data, toList_data] at h3
  exact ByteArray.ext (Array.toList_inj.1 h3)
theorem ord_way1 {k i : Int} {s : ByteArray} {k' i' : Int} {s' : ByteArray} (h1 : (hK k i s) = (hK k' i' s')) (h2 : (hI k i s) = (hI k' i' s')) (h3 : Op.bytesLess (hS k i s).toList (hS k' i' s').toList = true) : ordN k i s k' i' s' = -1 := by
  rw [less_cmp, toList_data, toList_data] at h3
  have hb := cmpBytes_bd (hS k i s).data.toList (hS k' i' s').data.toList
  have h4 := of_decide_eq_true h3
  unfold ordN ordH or3
  rw [(cmpInt_zero _ _).2 h1, (cmpInt_zero _ _).2 h2]
  simp only [ne_eq, not_true_eq_false, if_false]
  omega
theorem ord_way2 {k i : Int} {s : ByteArray} {k' i' : Int} {s' : ByteArray} (h1 : (hK k i s) = (hK k' i' s')) (h2 : (hI k i s) = (hI k' i' s')) (h0 : ¬ (hS k i s).toList = (hS k' i' s').toList) (h3 : Op.bytesLess (hS k i s).toList (hS k' i' s').toList = false) : ordN k i s k' i' s' = 1 := by
  rw [less_cmp, toList_data, toList_data] at h3
  rw [toList_data, toList_data] at h0
  have hb := cmpBytes_bd (hS k i s).data.toList (hS k' i' s').data.toList
  have h4 := of_decide_eq_false h3
  have h5 : ¬ Lib.compareBytes (hS k i s).data.toList (hS k' i' s').data.toList = 0 := fun q => h0 ((cmpBytes_zero _ _).1 q)
  unfold ordN ordH or3
  rw [(cmpInt_zero _ _).2 h1, (cmpInt_zero _ _).2 h2]
  simp only [ne_eq, not_true_eq_false, if_false]
  omega
theorem cmpInt_lt {a b : Int} (h : a < b) : Lib.compareInt a b = -1 := by unfold Lib.compareInt; rw [if_pos h]
theorem cmpInt_gt {a b : Int} (h : b < a) : Lib.compareInt a b = 1 := by unfold Lib.compareInt; rw [if_neg (by omega), if_pos h]
theorem ord_way3 {k i : Int} {s : ByteArray} {k' i' : Int} {s' : ByteArray} (h1 : (hK k i s) = (hK k' i' s')) (h2 : (hI k i s) < (hI k' i' s')) : ordN k i s k' i' s' = -1 := by
  unfold ordN ordH or3
  rw [(cmpInt_zero _ _).2 h1, cmpInt_lt h2]
  simp
theorem ord_way4 {k i : Int} {s : ByteArray} {k' i' : Int} {s' : ByteArray} (h1 : (hK k i s) = (hK k' i' s')) (h0 : ¬ (hI k i s) = (hI k' i' s')) (h2 : (hI k' i' s') ≤ (hI k i s)) : ordN k i s k' i' s' = 1 := by
  unfold ordN ordH or3
  rw [(cmpInt_zero _ _).2 h1, cmpInt_gt (by omega)]
  simp
theorem ord_way5 {k i : Int} {s : ByteArray} {k' i' : Int} {s' : ByteArray} (h1 : (hK k i s) < (hK k' i' s')) : ordN k i s k' i' s' = -1 := by
  unfold ordN ordH or3
  rw [cmpInt_lt h1]
  simp
theorem ord_way6 {k i : Int} {s : ByteArray} {k' i' : Int} {s' : ByteArray} (h1 : ¬ (hK k i s) = (hK k' i' s')) (h2 : (hK k' i' s') ≤ (hK k i s)) : ordN k i s k' i' s' = 1 := by
  unfold ordN ordH or3
  rw [cmpInt_gt (by omega)]
  simp

set_option maxRecDepth 100000 in
set_option maxHeartbeats 800000 in
theorem rorder_any (k i : Int) (s : ByteArray) (k' i' : Int) (s' : ByteArray) (w : World) (hs : s.size ≤ maxLen) (hs' : s'.size ≤ maxLen) :
    Calls Tryz.prog 20 #[.agg #[.int .i64 k, .int .i64 i, .string s], .agg #[.int .i64 k', .int .i64 i', .string s']] w fun e w' => e = .returned (.int .i64 (ordN k i s k' i' s')) ∧ Below w.heap.size w w' := by
  go_enter Tryz.func20, Tryz.ntmps20
  go_wp2
  refine detL_begin [.val (.agg #[.int .i64 k, .int .i64 i, .string s]), .val (.agg #[.int .i64 (hK k i s), .int .i64 (hI k i s), .string (hS k i s)]), .val (.agg #[.int .i64 k', .int .i64 i', .string s']), .val (.agg #[.int .i64 (hK k' i' s'), .int .i64 (hI k' i' s'), .string (hS k' i' s')])] 4 (by kernel_rfl) ?_
  repeat
    (refine detL_val (by kernel_rfl) (yields_of rfl fun w1 hb1 => ?_) ?_
     · have hc1 := bcellD hb1
       clear hb1
       go_simp
       with_reducible first
         | exact Det1_same
         | exact Det1_enter (rgood_any _ _ _ _ hs)
         | exact Det1_enter (rgood_any _ _ _ _ hs')
     simp only [Act.put, List.setIfInBounds_toArray, List.set_cons_zero, List.set_cons_succ])
  refine detL_tail rfl (by kernel_rfl) fun w1 hw1 => ?_
  have hb1 := hw1.below
  clear hw1 hs hs'
  have hc1 := (bcell hb1).1
  have hf1 := (bcell hb1).2
  have hy1 := hb1.size
  (try simp at hy1)
  have hz1_0 : w.heap.size < w1.heap.size := (by omega)
  have hz1_1 : w.heap.size + 1 < w1.heap.size := (by omega)
  go_upto_region 2 with (fail)
  refine wp_gen (Boxes w (hK k i s) (hI k i s) (hS k i s) (hK k' i' s') (hI k' i' s') (hS k' i' s')) (((Boxes.start w k i s k' i' s' 26 26).later hb1).store _ _ _ _ _ _) ?_
  intro W hW
  clear hc1 hf1 hb1 hy1 hz1_0 hz1_1
  have hk := hW.k
  have hi := hW.i
  have hs := hW.s
  have hk' := hW.k'
  have hi' := hW.i'
  have hs' := hW.s'
  have hn0 : w.heap.size < W.heap.size := by have := hW.size; omega
  have hn1 : w.heap.size + 1 < W.heap.size := by have := hW.size; omega
  have HB := hW.below
  clear hW
  go_wp2
  all_goals go_ret
  all_goals refine ⟨ret_int ?_, HB⟩
  all_goals
    first
      | exact (ord_way0 (by assumption) (by assumption) (by assumption)).symm
      | exact (ord_way1 (by assumption) (by assumption) (by assumption)).symm
      | exact (ord_way2 (by assumption) (by assumption) (by assumption) (by assumption)).symm
      | exact (ord_way3 (by assumption) (by assumption)).symm
      | exact (ord_way4 (by assumption) (by assumption) (by assumption)).symm
      | exact (ord_way5 (by assumption)).symm
      | exact (ord_way6 (by assumption) (by assumption)).symm

theorem alike_may {k i : Int} {s : ByteArray} {k' i' : Int} {s' : ByteArray} (h : alikeB k i s k' i' s' = true) : mayB k i s = true ∧ mayB k' i' s' = true ∧ k = k' ∧ k ≠ 0 := by
  unfold alikeB at h
  rw [Bool.and_eq_true, decide_eq_true_eq, bne_iff_ne] at h
  obtain ⟨h1, h2⟩ := h
  have m1 : mayB k i s = true := by
    cases q : mayB k i s with
    | true => rfl
    | false => exact absurd (by unfold hK; rw [q]; rfl) h2
  have m2 : mayB k' i' s' = true := by
    cases q : mayB k' i' s' with
    | true => rfl
    | false => exact absurd (by rw [h1]; unfold hK; rw [q]; rfl) h2
  unfold hK at h1 h2
  rw [if_pos m1] at h1 h2
  rw [if_pos m2] at h1
  exact ⟨m1, m2, h1, h2⟩
theorem ret_b {n m : Int} (h : n = m) : Ending.returned (.agg #[.int .i64 3, .int .i64 n, .string ⟨#[]⟩]) = .returned (.agg #[.int .i64 3, .int .i64 m, .string ⟨#[]⟩]) := by rw [h]
theorem eq_way1 {k i : Int} {s : ByteArray} {k' i' : Int} {s' : ByteArray} (ha : alikeB k i s k' i' s' = true) (h1 : k = k') (h2 : i = i') (h3 : s.toList = s'.toList) : (1 : Int) = b2i (ordN k i s k' i' s' == 0) := by
  obtain ⟨m1, m2, -, -⟩ := alike_may ha
  rw [toList_data, toList_data] at h3
  rw [(ord_zero k i s k' i' s' m1 m2).2 ⟨h1, h2, ByteArray.ext (Array.toList_inj.1 h3)⟩]
  rfl
theorem eq_way0 {k i : Int} {s : ByteArray} {k' i' : Int} {s' : ByteArray} (ha : alikeB k i s k' i' s' = true) (h : ¬ (k = k' ∧ i = i' ∧ s.toList = s'.toList)) : (0 : Int) = b2i (ordN k i s k' i' s' == 0) := by
  obtain ⟨m1, m2, -, -⟩ := alike_may ha
  have : ¬ ordN k i s k' i' s' = 0 := fun q => by
    obtain ⟨h1, h2, h3⟩ := (ord_zero k i s k' i' s' m1 m2).1 q
    exact h ⟨h1, h2, by rw [h3]⟩
  rw [beq_eq_false_iff_ne.2 this]
  rfl
theorem ls_way {k i : Int} {s : ByteArray} {k' i' : Int} {s' : ByteArray} (ha : alikeB k i s k' i' s' = true) : decide (ordN k i s k' i' s' < 0) = (decide (i < i') || Op.bytesLess s.toList s'.toList) := by
  obtain ⟨m1, m2, hk, hn⟩ := alike_may ha
  have e : ordN k i s k' i' s' = ordH k i s k' i' s' := by unfold ordN hK hI hS; rw [if_pos m1, if_pos m1, if_pos m1, if_pos m2, if_pos m2, if_pos m2]
  subst hk
  rw [e, less_cmp, toList_data, toList_data]
  unfold ordH or3
  rw [(cmpInt_zero k k).2 rfl]
  have hI := cmpInt_bd i i'
  unfold mayB at m1 m2
  by_cases h1 : k = 1
  · simp [h1] at m1 m2
    rw [toList_data] at m1 m2
    rw [m1, m2]
    simp [Lib.compareBytes]
    unfold Lib.compareInt
    split <;> (try split) <;> simp_all <;> omega
  · by_cases h2 : k = 2
    · simp [h2] at m1 m2
      rw [m1.1.1, m2.1.1, (cmpInt_zero 0 0).2 rfl]
      simp
    · by_cases h3 : k = 3
      · simp [h3] at m1 m2
        rw [toList_data] at m1 m2
        rw [m1.1, m2.1]
        simp [Lib.compareBytes]
        unfold Lib.compareInt
        split <;> (try split) <;> simp_all <;> omega
      · simp [hn, h1, h2, h3] at m1

set_option maxRecDepth 100000 in
set_option maxHeartbeats 800000 in
theorem requal_no (k i : Int) (s : ByteArray) (k' i' : Int) (s' : ByteArray) (w : World) (hs : s.size ≤ maxLen) (hs' : s'.size ≤ maxLen) (ha : alikeB k i s k' i' s' = false) :
    Calls Tryz.prog 76 #[.agg #[.int .i64 k, .int .i64 i, .string s], .agg #[.int .i64 k', .int .i64 i', .string s']] w fun e w' => e = .returned (.agg #[.int .i64 0, .int .i64 0, .string ⟨#[]⟩]) ∧ Below w.heap.size w w' := by
  have H := Lib.hid (And.intro ha (And.intro hs hs'))
  clear ha hs hs'
  go_enter Tryz.func76, Tryz.ntmps76
  go_wp2_with (first
    | (go_at_call 119; refine ((rapart_any _ _ _ _ _ _ _ H.out.2.1 H.out.2.2).mono (fun _ _ h => (H.out.1 ▸ h : _ = Ending.returned (.bool (!false)) ∧ _))).mono ?_; rintro e w1 ⟨rfl, hb1⟩; have hc1 := (bcell hb1).1; have hf1 := (bcell hb1).2; have hy1 := hb1.size; (try simp at hy1); have hz1_0 : w.heap.size < w1.heap.size := (by omega); have hz1_1 : w.heap.size + 1 < w1.heap.size := (by omega); have hz1_2 : w.heap.size + 1 + 1 < w1.heap.size := (by omega)))
  (refine bodyPost_ret (v := .agg #[.int .i64 0, .int .i64 0, .string ⟨#[]⟩]) ?_ rfl ⟨rfl, ?_⟩; (· (simp [results, Tryz.results76, go_sem, *]; done)))
  repeat (first | (with_reducible exact Below.refl _ _) | ((with_reducible refine cSet3 ?_ ?_ _ _ _); (· ((try simp) <;> omega))) | (with_reducible refine Below.drew ?_) | ((with_reducible refine cAlloc ?_ ?_ _); (· ((try simp) <;> omega))) | ((with_reducible refine cOn (by assumption) ?_ ?_); (· ((try simp) <;> omega))))

set_option maxRecDepth 100000 in
set_option maxHeartbeats 800000 in
theorem requal_yes (k i : Int) (s : ByteArray) (k' i' : Int) (s' : ByteArray) (w : World) (hs : s.size ≤ maxLen) (hs' : s'.size ≤ maxLen) (ha : alikeB k i s k' i' s' = true) :
    Calls Tryz.prog 76 #[.agg #[.int .i64 k, .int .i64 i, .string s], .agg #[.int .i64 k', .int .i64 i', .string s']] w fun e w' => e = .returned (.agg #[.int .i64 3, .int .i64 (b2i (ordN k i s k' i' s' == 0)), .string ⟨#[]⟩]) ∧ Below w.heap.size w w' := by
  have H := Lib.hid (And.intro ha (And.intro hs hs'))
  clear ha hs hs'
  go_enter Tryz.func76, Tryz.ntmps76
  go_wp2_with (first
    | (go_at_call 119; refine ((rapart_any _ _ _ _ _ _ _ H.out.2.1 H.out.2.2).mono (fun _ _ h => (H.out.1 ▸ h : _ = Ending.returned (.bool (!true)) ∧ _))).mono ?_; rintro e w1 ⟨rfl, hb1⟩; have hc1 := (bcell hb1).1; have hf1 := (bcell hb1).2; have hy1 := hb1.size; (try simp at hy1); have hz1_0 : w.heap.size < w1.heap.size := (by omega); have hz1_1 : w.heap.size + 1 < w1.heap.size := (by omega); have hz1_2 : w.heap.size + 1 + 1 < w1.heap.size := (by omega))
    | (go_at_call_of 71 (Value.bool true); refine (rtruth_t _).mono ?_; rintro e w1 ⟨rfl, hb1⟩; have hc1 := (bcell hb1).1; have hf1 := (bcell hb1).2; have hy1 := hb1.size; (try simp at hy1); have hz1_0 : w.heap.size < w1.heap.size := (by omega); have hz1_1 : w.heap.size + 1 < w1.heap.size := (by omega); have hz1_2 : w.heap.size + 1 + 1 < w1.heap.size := (by omega))
    | (go_at_call_of 71 (Value.bool false); refine (rtruth_f _).mono ?_; rintro e w1 ⟨rfl, hb1⟩; have hc1 := (bcell hb1).1; have hf1 := (bcell hb1).2; have hy1 := hb1.size; (try simp at hy1); have hz1_0 : w.heap.size < w1.heap.size := (by omega); have hz1_1 : w.heap.size + 1 < w1.heap.size := (by omega); have hz1_2 : w.heap.size + 1 + 1 < w1.heap.size := (by omega)))
  all_goals
    first
      | (refine bodyPost_ret (v := .agg #[.int .i64 3, .int .i64 1, .string ⟨#[]⟩]) (by simp [results, Tryz.results76, go_sem, *]; done) rfl ⟨ret_b (eq_way1 H.out.1 (by assumption) (by assumption) (by assumption)), ?_⟩)
      | (refine bodyPost_ret (v := .agg #[.int .i64 3, .int .i64 0, .string ⟨#[]⟩]) (by simp [results, Tryz.results76, go_sem, *]; done) rfl ⟨ret_b (eq_way0 H.out.1 (fun q => absurd q.1 (by assumption))), ?_⟩)
      | (refine bodyPost_ret (v := .agg #[.int .i64 3, .int .i64 0, .string ⟨#[]⟩]) (by simp [results, Tryz.results76, go_sem, *]; done) rfl ⟨ret_b (eq_way0 H.out.1 (fun q => absurd q.2.1 (by assumption))), ?_⟩)
      | (refine bodyPost_ret (v := .agg #[.int .i64 3, .int .i64 0, .string ⟨#[]⟩]) (by simp [results, Tryz.results76, go_sem, *]; done) rfl ⟨ret_b (eq_way0 H.out.1 (fun q => absurd q.2.2 (by assumption))), ?_⟩)
    repeat (first | (with_reducible exact Below.refl _ _) | ((with_reducible refine cSet3 ?_ ?_ _ _ _); (· ((try simp) <;> omega))) | (with_reducible refine Below.drew ?_) | ((with_reducible refine cAlloc ?_ ?_ _); (· ((try simp) <;> omega))) | ((with_reducible refine cOn (by assumption) ?_ ?_); (· ((try simp) <;> omega))))

set_option maxRecDepth 100000 in
set_option maxHeartbeats 800000 in
theorem rless_no (k i : Int) (s : ByteArray) (k' i' : Int) (s' : ByteArray) (w : World) (hs : s.size ≤ maxLen) (hs' : s'.size ≤ maxLen) (ha : alikeB k i s k' i' s' = false) :
    Calls Tryz.prog 77 #[.agg #[.int .i64 k, .int .i64 i, .string s], .agg #[.int .i64 k', .int .i64 i', .string s']] w fun e w' => e = .returned (.agg #[.int .i64 0, .int .i64 0, .string ⟨#[]⟩]) ∧ Below w.heap.size w w' := by
  have H := Lib.hid (And.intro ha (And.intro hs hs'))
  clear ha hs hs'
  go_enter Tryz.func77, Tryz.ntmps77
  go_wp2_with (first
    | (go_at_call 119; refine ((rapart_any _ _ _ _ _ _ _ H.out.2.1 H.out.2.2).mono (fun _ _ h => (H.out.1 ▸ h : _ = Ending.returned (.bool (!false)) ∧ _))).mono ?_; rintro e w1 ⟨rfl, hb1⟩; have hc1 := (bcell hb1).1; have hf1 := (bcell hb1).2; have hy1 := hb1.size; (try simp at hy1); have hz1_0 : w.heap.size < w1.heap.size := (by omega); have hz1_1 : w.heap.size + 1 < w1.heap.size := (by omega); have hz1_2 : w.heap.size + 1 + 1 < w1.heap.size := (by omega)))
  (refine bodyPost_ret (v := .agg #[.int .i64 0, .int .i64 0, .string ⟨#[]⟩]) ?_ rfl ⟨rfl, ?_⟩; (· (simp [results, Tryz.results77, go_sem, *]; done)))
  repeat (first | (with_reducible exact Below.refl _ _) | ((with_reducible refine cSet3 ?_ ?_ _ _ _); (· ((try simp) <;> omega))) | (with_reducible refine Below.drew ?_) | ((with_reducible refine cAlloc ?_ ?_ _); (· ((try simp) <;> omega))) | ((with_reducible refine cOn (by assumption) ?_ ?_); (· ((try simp) <;> omega))))

set_option maxRecDepth 100000 in
set_option maxHeartbeats 800000 in
theorem rless_yes (k i : Int) (s : ByteArray) (k' i' : Int) (s' : ByteArray) (w : World) (hs : s.size ≤ maxLen) (hs' : s'.size ≤ maxLen) (ha : alikeB k i s k' i' s' = true) :
    Calls Tryz.prog 77 #[.agg #[.int .i64 k, .int .i64 i, .string s], .agg #[.int .i64 k', .int .i64 i', .string s']] w fun e w' => e = .returned (.agg #[.int .i64 3, .int .i64 (b2i (decide (ordN k i s k' i' s' < 0))), .string ⟨#[]⟩]) ∧ Below w.heap.size w w' := by
  rw [ls_way ha]
  have H := Lib.hid (And.intro ha (And.intro hs hs'))
  clear ha hs hs'
  by_cases h1 : i < i'
  · rw [decide_eq_true h1, Bool.true_or]
    go_enter Tryz.func77, Tryz.ntmps77
    go_wp2_with (first
    | (go_at_call 119; refine ((rapart_any _ _ _ _ _ _ _ H.out.2.1 H.out.2.2).mono (fun _ _ h => (H.out.1 ▸ h : _ = Ending.returned (.bool (!true)) ∧ _))).mono ?_; rintro e w1 ⟨rfl, hb1⟩; have hc1 := (bcell hb1).1; have hf1 := (bcell hb1).2; have hy1 := hb1.size; (try simp at hy1); have hz1_0 : w.heap.size < w1.heap.size := (by omega); have hz1_1 : w.heap.size + 1 < w1.heap.size := (by omega); have hz1_2 : w.heap.size + 1 + 1 < w1.heap.size := (by omega))
    | (go_at_call_of 71 (Value.bool true); refine (rtruth_t _).mono ?_; rintro e w1 ⟨rfl, hb1⟩; have hc1 := (bcell hb1).1; have hf1 := (bcell hb1).2; have hy1 := hb1.size; (try simp at hy1); have hz1_0 : w.heap.size < w1.heap.size := (by omega); have hz1_1 : w.heap.size + 1 < w1.heap.size := (by omega); have hz1_2 : w.heap.size + 1 + 1 < w1.heap.size := (by omega)))
    (refine bodyPost_ret (v := .agg #[.int .i64 3, .int .i64 1, .string ⟨#[]⟩]) ?_ rfl ⟨rfl, ?_⟩; (· (simp [results, Tryz.results77, go_sem, *]; done)))
    repeat (first | (with_reducible exact Below.refl _ _) | ((with_reducible refine cSet3 ?_ ?_ _ _ _); (· ((try simp) <;> omega))) | (with_reducible refine Below.drew ?_) | ((with_reducible refine cAlloc ?_ ?_ _); (· ((try simp) <;> omega))) | ((with_reducible refine cOn (by assumption) ?_ ?_); (· ((try simp) <;> omega))))
  · cases h2 : Op.bytesLess s.toList s'.toList with
    | true =>
      rw [Bool.or_true]
      go_enter Tryz.func77, Tryz.ntmps77
      go_wp2_with (first
    | (go_at_call 119; refine ((rapart_any _ _ _ _ _ _ _ H.out.2.1 H.out.2.2).mono (fun _ _ h => (H.out.1 ▸ h : _ = Ending.returned (.bool (!true)) ∧ _))).mono ?_; rintro e w1 ⟨rfl, hb1⟩; have hc1 := (bcell hb1).1; have hf1 := (bcell hb1).2; have hy1 := hb1.size; (try simp at hy1); have hz1_0 : w.heap.size < w1.heap.size := (by omega); have hz1_1 : w.heap.size + 1 < w1.heap.size := (by omega); have hz1_2 : w.heap.size + 1 + 1 < w1.heap.size := (by omega))
    | (go_at_call_of 71 (Value.bool true); refine (rtruth_t _).mono ?_; rintro e w1 ⟨rfl, hb1⟩; have hc1 := (bcell hb1).1; have hf1 := (bcell hb1).2; have hy1 := hb1.size; (try simp at hy1); have hz1_0 : w.heap.size < w1.heap.size := (by omega); have hz1_1 : w.heap.size + 1 < w1.heap.size := (by omega); have hz1_2 : w.heap.size + 1 + 1 < w1.heap.size := (by omega)))
      (refine bodyPost_ret (v := .agg #[.int .i64 3, .int .i64 1, .string ⟨#[]⟩]) ?_ rfl ⟨rfl, ?_⟩; (· (simp [results, Tryz.results77, go_sem, *]; done)))
      repeat (first | (with_reducible exact Below.refl _ _) | ((with_reducible refine cSet3 ?_ ?_ _ _ _); (· ((try simp) <;> omega))) | (with_reducible refine Below.drew ?_) | ((with_reducible refine cAlloc ?_ ?_ _); (· ((try simp) <;> omega))) | ((with_reducible refine cOn (by assumption) ?_ ?_); (· ((try simp) <;> omega))))
    | false =>
      rw [decide_eq_false h1, Bool.or_false]
      have hd : decide (i < i') = false := decide_eq_false h1
      go_enter Tryz.func77, Tryz.ntmps77
      go_wp2_with (first
    | (go_at_call 119; refine ((rapart_any _ _ _ _ _ _ _ H.out.2.1 H.out.2.2).mono (fun _ _ h => (H.out.1 ▸ h : _ = Ending.returned (.bool (!true)) ∧ _))).mono ?_; rintro e w1 ⟨rfl, hb1⟩; have hc1 := (bcell hb1).1; have hf1 := (bcell hb1).2; have hy1 := hb1.size; (try simp at hy1); have hz1_0 : w.heap.size < w1.heap.size := (by omega); have hz1_1 : w.heap.size + 1 < w1.heap.size := (by omega); have hz1_2 : w.heap.size + 1 + 1 < w1.heap.size := (by omega))
    | (go_at_call_of 71 (Value.bool false); refine (rtruth_f _).mono ?_; rintro e w1 ⟨rfl, hb1⟩; have hc1 := (bcell hb1).1; have hf1 := (bcell hb1).2; have hy1 := hb1.size; (try simp at hy1); have hz1_0 : w.heap.size < w1.heap.size := (by omega); have hz1_1 : w.heap.size + 1 < w1.heap.size := (by omega); have hz1_2 : w.heap.size + 1 + 1 < w1.heap.size := (by omega)))
      (refine bodyPost_ret (v := .agg #[.int .i64 3, .int .i64 0, .string ⟨#[]⟩]) ?_ rfl ⟨rfl, ?_⟩; (· (simp [results, Tryz.results77, go_sem, *]; done)))
      repeat (first | (with_reducible exact Below.refl _ _) | ((with_reducible refine cSet3 ?_ ?_ _ _ _); (· ((try simp) <;> omega))) | (with_reducible refine Below.drew ?_) | ((with_reducible refine cAlloc ?_ ?_ _); (· ((try simp) <;> omega))) | ((with_reducible refine cOn (by assumption) ?_ ?_); (· ((try simp) <;> omega))))

end Go.Proofs.YtmhkmliebhbkdaaGreat

/- Rows of values in memory: Few. -/
namespace Go.Proofs.YtmhkmliebhbkdaaGreat
open Go.RowKit Go.Lib

structure Vl where
  k : Int
  i : Int
  s : ByteArray
def Vl.few (x : Vl) : Vl := ⟨x.k, x.i, fewS x.s⟩
def Vl.cells (x : Vl) : List Value := [.int .i64 x.k, .int .i64 x.i, .string x.s]
def cellsOf (l : List Vl) : List Value := l.flatMap Vl.cells

/-- Value x lies at this address. -/
structure VlAt (W : World) (a : Addr) (x : Vl) : Prop where
  k : W.cell? a = some (.int .i64 x.k)
  i : W.cell? ⟨a.block, a.off + 1, none⟩ = some (.int .i64 x.i)
  s : W.cell? ⟨a.block, a.off + 2, none⟩ = some (.string x.s)

theorem VlAt.keep {W W' : World} {a : Addr} {x : Vl} {B : Nat} (h : VlAt W a x) (hb : Below B W W') (hB : a.block < B) : VlAt W' a x :=
  ⟨(hb.cell hB).trans h.k, (hb.cell (p := ⟨a.block, _, none⟩) hB).trans h.i, (hb.cell (p := ⟨a.block, _, none⟩) hB).trans h.s⟩

/-- The slice of n elements at A reads as these values; it lies below block B. -/
def Vals (W : World) (B : Nat) (A : Option Addr) (n : Nat) (l : List Vl) : Prop :=
  l.length = n ∧ ∀ j (h : j < l.length), ∃ a, A = some a ∧ VlAt W (a.add (j * 3)) l[j] ∧ a.block < B

theorem add_block (a : Addr) (n : Nat) : (a.add n).block = a.block := by unfold Addr.add; split <;> rfl
theorem Vals.keep {W W' : World} {B : Nat} {A : Option Addr} {n : Nat} {l : List Vl} (h : Vals W B A n l) (hb : Below B W W') : Vals W' B A n l :=
  ⟨h.1, fun j hj => by
    obtain ⟨a, e, h1, h2⟩ := h.2 j hj
    exact ⟨a, e, h1.keep hb (by rw [add_block]; exact h2), h2⟩⟩
theorem Vals.more {W : World} {B B' : Nat} {A : Option Addr} {n : Nat} {l : List Vl} (h : Vals W B A n l) (hB : B ≤ B') : Vals W B' A n l :=
  ⟨h.1, fun j hj => by
    obtain ⟨a, e, h1, h2⟩ := h.2 j hj
    exact ⟨a, e, h1, by omega⟩⟩
theorem Vals.at_ {W : World} {B : Nat} {A : Option Addr} {n : Nat} {l : List Vl} (h : Vals W B A n l) {k : Nat} (hk : k < n) : ∃ a x, A = some a ∧ l[k]? = some x ∧ VlAt W (a.add (k * 3)) x ∧ a.block < B := by
  obtain ⟨h1, h2⟩ := h
  obtain ⟨a, e, h3, h4⟩ := h2 k (by omega)
  exact ⟨a, l[k]'(by omega), e, List.getElem?_eq_getElem _, h3, h4⟩

theorem cells_len (l : List Vl) : (cellsOf l).length = l.length * 3 := by
  induction l with
  | nil => rfl
  | cons x l ih => simp only [cellsOf, List.flatMap_cons, List.length_append] at ih ⊢; rw [ih]; simp [Vl.cells]; omega
theorem cells_snoc (l : List Vl) (x : Vl) : cellsOf (l ++ [x]) = cellsOf l ++ x.cells := by simp [cellsOf]
theorem cells_app (l r : List Vl) : cellsOf (l ++ r) = cellsOf l ++ cellsOf r := by simp [cellsOf]
theorem cells_at (l : List Vl) : ∀ j (h : j < l.length), (cellsOf l)[j * 3]? = some (.int .i64 l[j].k) ∧ (cellsOf l)[j * 3 + 1]? = some (.int .i64 l[j].i) ∧ (cellsOf l)[j * 3 + 2]? = some (.string l[j].s) := by
  induction l with
  | nil => intro j h; simp at h
  | cons x l ih =>
    intro j h
    cases j with
    | zero => simp [cellsOf, Vl.cells]
    | succ j =>
      have := ih j (by simpa using h)
      have e : cellsOf (x :: l) = x.cells ++ cellsOf l := by simp [cellsOf]
      have hl : x.cells.length = 3 := rfl
      rw [e]
      refine ⟨?_, ?_, ?_⟩
      · rw [List.getElem?_append_right (by rw [hl]; omega), hl, show (j + 1) * 3 - 3 = j * 3 by omega]; exact this.1
      · rw [List.getElem?_append_right (by rw [hl]; omega), hl, show (j + 1) * 3 + 1 - 3 = j * 3 + 1 by omega]; exact this.2.1
      · rw [List.getElem?_append_right (by rw [hl]; omega), hl, show (j + 1) * 3 + 2 - 3 = j * 3 + 2 by omega]; exact this.2.2
theorem cells_one (l : List Vl) : ∀ u ∈ cellsOf l, u.oneCell' = true := by
  intro u hu
  simp only [cellsOf, List.mem_flatMap, Vl.cells] at hu
  obtain ⟨x, _, hx⟩ := hu
  simp at hx
  rcases hx with rfl | rfl | rfl <;> rfl

/-- A row of the call's own reads as its values. -/
theorem Vals.of_own {W : World} {B : Nat} {v : Value} {l : List Vl} {n : Nat} (h : W.ownsRow B 26 3 v n (cellsOf l)) : ∃ A cap, v = .slice A n cap ∧ Vals W W.heap.size A n l ∧ n ≤ cap ∧ cap ≤ maxLen := by
  have hl : l.length = n := by have := h.1; rw [cells_len] at this; omega
  rcases h.2 with ⟨rfl, h0⟩ | ⟨g, cap, cur, rfl, hB, hg, hc, hm, hs, ht⟩
  · subst h0
    exact ⟨none, 0, rfl, ⟨hl, fun j hj => absurd hj (by omega)⟩, Nat.le_refl _, by unfold maxLen; omega⟩
  · refine ⟨_, cap, rfl, ⟨hl, fun j hj => ⟨_, rfl, ?_, (Array.getElem?_eq_some_iff.1 hg).1⟩⟩, hc, hm⟩
    have hadd : (⟨g, 0, none⟩ : Addr).add (j * 3) = ⟨g, j * 3, none⟩ := by unfold Addr.add; split <;> simp_all
    obtain ⟨c0, c1, c2⟩ := cells_at l j hj
    rw [hadd]
    exact ⟨(h.cellAt (j * 3) (by omega)).trans c0, (h.cellAt (j * 3 + 1) (by omega)).trans c1, (h.cellAt (j * 3 + 2) (by omega)).trans c2⟩

theorem infoVal : (Tryz.prog.info? 26).map (fun i => (i.zero, i.size, i.bytes)) = some (some (.agg #[.int .i64 0, .int .i64 0, .string ⟨#[]⟩]), 3, 32) := by kernel_rfl

/-- The cells of a value that has just been written. -/
theorem new_cells {W : World} {t : TypeId} {x : Vl} : ∀ j u, x.cells[j]? = some u → (W.alloc (.cells #[.int .i64 x.k, .int .i64 x.i, .string x.s] t)).cell? ((⟨W.heap.size, 0, none⟩ : Addr).add j) = some u := by
  intro j u h
  match j with
  | 0 => simp [Vl.cells] at h; subst h; simp [Addr.add, go_sem]
  | 1 => simp [Vl.cells] at h; subst h; simp [Addr.add, go_sem]
  | 2 => simp [Vl.cells] at h; subst h; simp [Addr.add, go_sem]
  | j + 3 => simp [Vl.cells] at h
theorem row_below {B : Nat} {w W W' : World} {n : Nat} {xs : List Value} {v : Value} {o : Obj} (hb : Below B w W) (hB : B ≤ w.heap.size) (hown : W.ownsRow B 26 3 v n xs) (hg : (W.alloc o).grownBy W' v.ownBlock) : Below B w W' := by
  have hs := hb.size
  exact (hb.alloc (by omega) o).grown hg (by simp; omega) fun g hg' => (hown.lt g hg').1
theorem take_snoc' {α : Type} {l : List α} {k : Nat} {x : α} (h : l[k]? = some x) : l.take (k + 1) = l.take k ++ [x] := by
  rw [List.take_add_one, h]; rfl

def fewL (l : List Vl) : List Vl := (l.take 14).map Vl.few

set_option maxRecDepth 100000 in
set_option maxHeartbeats 4000000 in
theorem few2_any (A : Option Addr) (n cap : Nat) (l : List Vl) (w : World) (hn : n ≤ maxLen) (hat : Vals w w.heap.size A n l) (hsz : ∀ x ∈ l, x.s.size ≤ maxLen) :
    Calls Tryz.prog 23 #[.slice A n cap] w fun e w' => ∃ v, e = .returned v ∧ w'.ownsRow w.heap.size 26 3 v (fewL l).length (cellsOf (fewL l)) ∧ Below w.heap.size w w' := by
  unfold maxLen at hn
  obtain ⟨i0, hi, hz0, hz1, hz2⟩ := info_parts infoVal
  have HS := Lib.hid (And.intro hat hsz)
  have hll := hat.1
  clear hat hsz
  have HL := Lib.hid hll
  clear hll
  go_enter Tryz.func23, Tryz.ntmps23
  go_wp2
  go_loopw [3, 4] (fun v i wr => ∃ k : Nat, k ≤ n ∧ k ≤ 14 ∧ i = .int .i64 k ∧ Below w.heap.size w wr ∧ wr.ownsRow w.heap.size 26 3 v k (cellsOf ((l.take k).map Vl.few))) (fun _ i _ => n - (intOf i).toNat)
  case atStart => exact ⟨0, by omega, by omega, rfl, Below.refl _ _, World.ownsRow_nil _ _ _ _⟩
  case round =>
    obtain ⟨k, hk, hk14, rfl, hb, hown⟩ := hrel
    have hbs := hb.size
    by_cases hlt : k < n
    · by_cases h14 : k < 14
      · have hd1 : decide ((k : Int) < 14) = true := decide_eq_true (by omega)
        obtain ⟨a, x, rfl, hx, hA, hB⟩ := HS.out.1.at_ hlt
        have hA' := hA.keep hb (by rw [add_block]; exact hB)
        have hxs : x.s.size ≤ maxLen := HS.out.2 x (List.mem_of_getElem? hx)
        have ck := hA'.k
        have ci := hA'.i
        have cs := hA'.s
        have HX := Lib.hid (And.intro hx hxs)
        clear hx hxs hA hA' hB
        go_wp2_with (first
          | (go_at_call 49; refine (few_any _ _ _ _ HX.out.2).mono ?_; rintro e w1 ⟨rfl, hb1⟩; have hown1 := hown.kept (row := none) ⟨hb1.os, hb1.tape, hb1.output, hb1.size, fun q hq _ => hb1.block q hq⟩ (by cases h : Value.ownBlock _ with | none => exact .inl rfl | some _ => exact .inr (by simp)); have HB1 := Lib.hid (hb.trans (hb1.mono hbs)); have hs1 := hb1.size; clear hb1 hown)
          | (at_builtin; refine wpList_append_own _ rfl _ _ 47 rfl w.heap.size 26 i0 _ 3 32 Tryz.underlying47 hi hz0 hz1 hz2 rfl (by decide) _ _ _ rfl (World.ownsRow.alloc hown1 _) ⟨w1.heap.size, 0, none⟩ 1 1 (Vl.cells x.few) rfl rfl ?c1 ?c2 ?c3 ?c4 ?c5 ?_))
        case c1 => exact new_cells
        case c2 => intro u hu; exact cells_one [x.few] u (by simpa [cellsOf] using hu)
        case c3 => unfold maxLen; omega
        case c4 => omega
        case c5 => simp; omega
        intro v' w2 hown' hgrow _
        have hb2 := row_below HB1.out (Nat.le_refl _) hown1 hgrow
        have hown2 : w2.ownsRow w.heap.size 26 3 v' (k + 1) (cellsOf ((l.take (k + 1)).map Vl.few)) := by
          rw [take_snoc' HX.out.1, List.map_append]
          show w2.ownsRow w.heap.size _ 3 v' (k + 1) (cellsOf ((l.take k).map Vl.few ++ [x.few]))
          rw [cells_snoc]
          first | exact hown' | (rw [List.map_take]; exact hown')
        have HO := Lib.hid hown2
        clear hown' hown1 hown2 hgrow
        go_wp2
        go_roundw
        case rel => exact ⟨k + 1, by omega, by omega, by go_num, hb2, HO.out⟩
        case measure => simp [intOf]; omega
      · have hd1 : decide ((k : Int) < 14) = false := decide_eq_false (by omega)
        have he : fewL l = (l.take k).map Vl.few := by unfold fewL; rw [show k = 14 by omega]
        have HO := Lib.hid (he ▸ hown)
        have HE : Hid ((fewL l).length = k) := by rw [he]; have := HL.out; show _ = _; simp; omega
        clear hown he
        go_wp2
        go_ret
        exact ⟨_, rfl, by rw [HE.out]; exact HO.out, hb⟩
    · have he : fewL l = (l.take k).map Vl.few := by unfold fewL; rw [List.take_of_length_le (by have := HL.out; omega), List.take_of_length_le (by have := HL.out; omega)]
      have HO := Lib.hid (he ▸ hown)
      have HE : Hid ((fewL l).length = k) := by rw [he]; have := HL.out; show _ = _; simp; omega
      clear hown he
      go_wp2
      go_ret
      exact ⟨_, rfl, by rw [HE.out]; exact HO.out, hb⟩
end Go.Proofs.YtmhkmliebhbkdaaGreat

/- Expressions: the tree that a value is, and how it lies in memory. -/
namespace Go.Proofs.YtmhkmliebhbkdaaGreat
open Go.RowKit Go.Lib

inductive Ex where
  | mk (op : ByteArray) (x : Vl) (s : ByteArray) (l : List Ex)
def Ex.op : Ex → ByteArray | .mk op _ _ _ => op
def Ex.x : Ex → Vl | .mk _ x _ _ => x
def Ex.s : Ex → ByteArray | .mk _ _ s _ => s
def Ex.l : Ex → List Ex | .mk _ _ _ l => l

/-- The six cells of an expression. -/
structure ExC (W : World) (a : Addr) (t : Ex) (u : Value) : Prop where
  c0 : W.cell? a = some (.string t.op)
  c1 : W.cell? ⟨a.block, a.off + 1, none⟩ = some (.int .i64 t.x.k)
  c2 : W.cell? ⟨a.block, a.off + 2, none⟩ = some (.int .i64 t.x.i)
  c3 : W.cell? ⟨a.block, a.off + 3, none⟩ = some (.string t.x.s)
  c4 : W.cell? ⟨a.block, a.off + 4, none⟩ = some (.string t.s)
  c5 : W.cell? ⟨a.block, a.off + 5, none⟩ = some u
theorem ExC.lt {W : World} {a : Addr} {t : Ex} {u : Value} (h : ExC W a t u) : a.block < W.heap.size := World.block_lt_of_cell? W _ h.c0
theorem ExC.keep {W W' : World} {a : Addr} {t : Ex} {u : Value} (h : ExC W a t u) (hb : W'.heap[a.block]? = W.heap[a.block]?) : ExC W' a t u :=
  ⟨(World.cell?_of_block (w := W) (a := a) hb).trans h.c0, (World.cell?_of_block (w := W) (a := ⟨a.block, _, none⟩) hb).trans h.c1, (World.cell?_of_block (w := W) (a := ⟨a.block, _, none⟩) hb).trans h.c2,
   (World.cell?_of_block (w := W) (a := ⟨a.block, _, none⟩) hb).trans h.c3, (World.cell?_of_block (w := W) (a := ⟨a.block, _, none⟩) hb).trans h.c4, (World.cell?_of_block (w := W) (a := ⟨a.block, _, none⟩) hb).trans h.c5⟩

/-- A slice reads as these expressions, to a depth of n; its blocks are of P. -/
def Sl (w : World) (P : Nat → Prop) : Nat → List Ex → Value → Prop
  | 0, l, v => l = [] ∧ ∃ A cap, v = .slice A 0 cap
  | n + 1, l, v => ∃ A cap, v = .slice A l.length cap ∧ l.length ≤ maxLen ∧ ∀ j (h : j < l.length), ∃ a u, A = some a ∧ P a.block ∧ ExC w (a.add (j * 6)) l[j] u ∧ l[j].s.size ≤ 100000 ∧ Sl w P n l[j].l u

theorem Sl.form {w : World} {P : Nat → Prop} : ∀ {n : Nat} {l : List Ex} {v : Value}, Sl w P n l v → ∃ A cap, v = .slice A l.length cap ∧ l.length ≤ maxLen
  | 0, _, _, ⟨rfl, A, cap, h⟩ => ⟨A, cap, h, by simp [maxLen]⟩
  | _ + 1, _, _, ⟨A, cap, h, hl, _⟩ => ⟨A, cap, h, hl⟩

theorem Sl.keep {w w' : World} {P Q : Nat → Prop} (hk : ∀ b, P b → b < w.heap.size → w'.heap[b]? = w.heap[b]?) (hq : ∀ b, P b → b < w.heap.size → Q b) : ∀ {n : Nat} {l : List Ex} {v : Value}, Sl w P n l v → Sl w' Q n l v
  | 0, _, _, h => h
  | n + 1, _, _, ⟨A, cap, h, hl, hj⟩ => ⟨A, cap, h, hl, fun j hj' => by
    obtain ⟨a, u, e, hp, hc, hs, hr⟩ := hj j hj'
    have hlt := hc.lt
    rw [add_block] at hlt
    exact ⟨a, u, e, hq _ hp hlt, hc.keep (by rw [add_block]; exact hk _ hp hlt), hs, Sl.keep hk hq hr⟩⟩
theorem Sl.more {w : World} {P : Nat → Prop} : ∀ {n m : Nat} {l : List Ex} {v : Value}, Sl w P n l v → n ≤ m → Sl w P m l v
  | 0, 0, _, _, h, _ => h
  | 0, m + 1, _, _, ⟨rfl, A, cap, h⟩, _ => ⟨A, cap, h, by simp [maxLen], fun j hj => absurd hj (by simp)⟩
  | n + 1, 0, _, _, _, hm => absurd hm (by omega)
  | n + 1, m + 1, _, _, ⟨A, cap, h, hl, hj⟩, hm => ⟨A, cap, h, hl, fun j hj' => by
    obtain ⟨a, u, e, hp, hc, hs, hr⟩ := hj j hj'
    exact ⟨a, u, e, hp, hc, hs, Sl.more hr (by omega)⟩⟩

/-- A value is this expression, to a depth of n. -/
def Tr (w : World) (P : Nat → Prop) (n : Nat) (t : Ex) (u : Value) : Prop := t.s.size ≤ 100000 ∧ Sl w P n t.l u
theorem Tr.keep {w w' : World} {P Q : Nat → Prop} {n : Nat} {t : Ex} {u : Value} (h : Tr w P n t u) (hk : ∀ b, P b → b < w.heap.size → w'.heap[b]? = w.heap[b]?) (hq : ∀ b, P b → b < w.heap.size → Q b) : Tr w' Q n t u := ⟨h.1, h.2.keep hk hq⟩
theorem Tr.below {w w' : World} {P : Nat → Prop} {n : Nat} {t : Ex} {u : Value} (h : Tr w P n t u) (hb : Below w.heap.size w w') : Tr w' P n t u := h.keep (fun b _ hl => hb.block b hl) (fun _ h _ => h)
theorem Tr.grown {w w' : World} {P : Nat → Prop} {n : Nat} {t : Ex} {u : Value} {g : Nat} (h : Tr w P n t u) (hb : w.grownBy w' (some g)) (hg : ¬ P g) : Tr w' P n t u :=
  h.keep (fun b hp hl => hb.block b hl (fun e => hg (by injection e with e; rw [← e]; exact hp))) (fun _ h _ => h)
theorem Tr.form {w : World} {P : Nat → Prop} {n : Nat} {t : Ex} {u : Value} (h : Tr w P n t u) : ∃ A cap, u = .slice A t.l.length cap ∧ t.l.length ≤ maxLen := h.2.form
end Go.Proofs.YtmhkmliebhbkdaaGreat

/- The text of a value: plain facts, no walk. -/
namespace Go.Proofs.YtmhkmliebhbkdaaGreat
open Go.RowKit Go.Lib

/-- Each quote twice. -/
def dbl : List UInt8 → List UInt8
  | [] => []
  | c :: l => if c = 39 then 39 :: 39 :: dbl l else c :: dbl l
/-- A value's text. -/
def txtO (k i : Int) (s : ByteArray) : List UInt8 :=
  if mayB k i s then (if k = 1 then itoa i else if k = 2 then 39 :: (dbl s.data.toList ++ [39]) else if k = 3 then (if i = 1 then [84, 82, 85, 69] else [70, 65, 76, 83, 69]) else [78, 85, 76, 76]) else []

/-- A value that may be is one of four. -/
inductive Four (k i : Int) (s : ByteArray) : Prop
  | null (hk : k = 0) (hi : i = 0) (hs : s = ⟨#[]⟩) (ht : txtO k i s = [78, 85, 76, 76])
  | num (hk : k = 1) (hs : s = ⟨#[]⟩) (ht : txtO k i s = itoa i)
  | text (hk : k = 2) (hi : i = 0) (hz : s.size ≤ 40) (hc : ∀ c ∈ s.data.toList, okO c = true) (ht : txtO k i s = 39 :: (dbl s.data.toList ++ [39]))
  | no (hk : k = 3) (hi : i = 0) (hs : s = ⟨#[]⟩) (ht : txtO k i s = [70, 65, 76, 83, 69])
  | yes (hk : k = 3) (hi : i = 1) (hs : s = ⟨#[]⟩) (ht : txtO k i s = [84, 82, 85, 69])
theorem bs_nil {a : ByteArray} (h : a.data.toList = []) : a = ⟨#[]⟩ := ByteArray.ext (by simpa using h)
theorem four (k i : Int) (s : ByteArray) (hm : mayB k i s = true) : Four k i s := by
  obtain ⟨T, hT⟩ : ∃ T, T = txtO k i s := ⟨_, rfl⟩
  have ht := hT
  unfold txtO at ht
  rw [if_pos hm] at ht
  have hm' := hm
  unfold mayB at hm
  by_cases h1 : k = 1
  · rw [if_pos h1] at ht
    simp [h1] at hm
    rw [toList_data] at hm
    exact .num h1 (bs_nil hm) (hT.symm.trans ht)
  · rw [if_neg h1] at ht
    by_cases h2 : k = 2
    · rw [if_pos h2] at ht
      simp [h2] at hm
      have h3 := hm.2
      rw [txt_all] at h3
      unfold allO at h3
      exact .text h2 hm.1.1 hm.1.2 (List.all_eq_true.1 h3) (hT.symm.trans ht)
    · rw [if_neg h2] at ht
      by_cases h3 : k = 3
      · rw [if_pos h3] at ht
        simp [h3] at hm
        rw [toList_data] at hm
        rcases hm.2 with h | h
        · rw [if_neg (by omega)] at ht; exact .no h3 h (bs_nil hm.1) (hT.symm.trans ht)
        · rw [if_pos h] at ht; exact .yes h3 h (bs_nil hm.1) (hT.symm.trans ht)
      · rw [if_neg h3] at ht
        have h0 : k = 0 := Classical.byContradiction fun h0 => by simp [h0, h1, h2, h3] at hm
        simp [h0] at hm
        rw [toList_data] at hm
        exact .null h0 hm.1 (bs_nil hm.2) (hT.symm.trans ht)
end Go.Proofs.YtmhkmliebhbkdaaGreat

/- The text of a value: value.Text. -/
namespace Go.Proofs.YtmhkmliebhbkdaaGreat
open Go.RowKit Go.Lib

/-- What is known of the library's variables. -/
structure Libs (w : World) : Prop where
  tab : Lib.TabIs Tryz.prog w "internal/strconv.uint64pow10" .u64 Lib.pow10Tab
  max : ∃ m, w.cell? ⟨0, 0, none⟩ = some (.int .i64 m)
theorem Libs.lt {w : World} (h : Libs w) : 0 < w.heap.size := by obtain ⟨m, hm⟩ := h.max; exact World.block_lt_of_cell? w _ hm
end Go.Proofs.YtmhkmliebhbkdaaGreat

/- The document's own text of a value: digits, Text. -/
namespace Go.Proofs.YtmhkmliebhbkdaaGreat
open Go.RowKit Go.Lib

end Go.Proofs.YtmhkmliebhbkdaaGreat

/- The document's own text of a value: Text. -/
namespace Go.Proofs.YtmhkmliebhbkdaaGreat
open Go.RowKit Go.Lib

theorem take_one (s : ByteArray) (n : Nat) (h : n < s.size) : s.data.toList.take (n + 1) = s.data.toList.take n ++ [s[n]] := by
  have h2 : n < s.data.toList.length := by simpa using h
  rw [List.take_add_one, List.getElem?_eq_getElem h2]
  rfl

end Go.Proofs.YtmhkmliebhbkdaaGreat

/- Tokens of a text: plain facts, no walk. -/
namespace Go.Proofs.YtmhkmliebhbkdaaGreat
open Go.RowKit Go.Lib

def letB (c : UInt8) : Bool := (decide (97 ≤ c.toNat) && decide (c.toNat ≤ 122)) || (decide (65 ≤ c.toNat) && decide (c.toNat ≤ 90))
def digB (c : UInt8) : Bool := decide (48 ≤ c.toNat) && decide (c.toNat ≤ 57)
def parB (c : UInt8) : Bool := letB c || (digB c || decide (c.toNat = 95))
def sigL : List UInt8 := [40, 41, 44, 61, 60, 43, 45, 42]
def sigB (c : UInt8) : Bool := sigL.contains c
def nonB (_ : UInt8) : Bool := false
/-- How many octets at the beginning stand together. -/
def tog (p q : UInt8 → Bool) : List UInt8 → Nat
  | [] => 0
  | c :: r => if p c then 1 + (r.takeWhile q).length else 0
/-- May one of the kind be this? -/
def kmay (p q : UInt8 → Bool) (most : Nat) (l : List UInt8) : Bool := !l.isEmpty && (decide (l.length ≤ most) && decide (tog p q l = l.length))
/-- What stands between two quotes, and what stands behind the second one. -/
def qscan : List UInt8 → Option (List UInt8 × List UInt8)
  | [] => none
  | [c] => if c = 39 then some ([], []) else none
  | c :: d :: r => if c = 39 then (if d = 39 then (qscan r).map (fun x => (39 :: x.1, x.2)) else some ([], d :: r)) else (qscan (d :: r)).map (fun x => (c :: x.1, x.2))
theorem qscan_other {c : UInt8} (hc : c ≠ 39) (r : List UInt8) : qscan (c :: r) = (qscan r).map (fun x => (c :: x.1, x.2)) := by
  cases r with
  | nil => simp [qscan, hc]
  | cons d r => rw [qscan, if_neg hc]
theorem qscan_two (r : List UInt8) : qscan (39 :: 39 :: r) = (qscan r).map (fun x => (39 :: x.1, x.2)) := by rw [qscan, if_pos rfl, if_pos rfl]
theorem qscan_end {r : List UInt8} (h : r.head? ≠ some 39) : qscan (39 :: r) = some ([], r) := by
  cases r with
  | nil => simp [qscan]
  | cons d r =>
    rw [qscan, if_pos rfl, if_neg]
    intro e
    subst e
    exact h rfl
theorem qscan_some : ∀ (n : Nat) (l x r : List UInt8), l.length ≤ n → qscan l = some (x, r) → l = dbl x ++ 39 :: r ∧ r.head? ≠ some 39
  | n, [], x, r, _, h => by simp [qscan] at h
  | 0, _ :: _, x, r, hn, h => by simp at hn
  | n + 1, c :: l, x, r, hn, h => by
    by_cases hc : c = 39
    · subst hc
      cases l with
      | nil => simp [qscan] at h; obtain ⟨rfl, rfl⟩ := h; simp [dbl]
      | cons d l =>
        by_cases hd : d = 39
        · subst hd
          rw [qscan_two] at h
          cases hq : qscan l with
          | none => rw [hq] at h; cases h
          | some y =>
            rw [hq] at h
            simp at h
            obtain ⟨rfl, rfl⟩ := h
            obtain ⟨h1, h2⟩ := qscan_some n l y.1 y.2 (by simp at hn; omega) hq
            exact ⟨by conv => lhs; rw [h1]
                      simp [dbl], h2⟩
        · rw [qscan_end (by simpa using hd)] at h
          simp at h
          obtain ⟨rfl, rfl⟩ := h
          exact ⟨by simp [dbl], by simpa using hd⟩
    · rw [qscan_other hc] at h
      cases hq : qscan l with
      | none => rw [hq] at h; cases h
      | some y =>
        rw [hq] at h
        simp at h
        obtain ⟨rfl, rfl⟩ := h
        obtain ⟨h1, h2⟩ := qscan_some n l y.1 y.2 (by simp at hn; omega) hq
        exact ⟨by conv => lhs; rw [h1]
                  simp [dbl, hc], h2⟩
/-- A token. -/
structure Tk where
  k : Int
  s : List UInt8
/-- The token at the beginning, and how many octets it takes. -/
def fst (l : List UInt8) : Option (Tk × Nat) :=
  match l with
  | [] => none
  | c :: r =>
    if c = 39 then (match qscan r with
      | none => none
      | some (x, t) => if mayB 2 0 ⟨x.toArray⟩ then some (⟨3, x⟩, l.length - t.length) else none)
    else if letB c then (if 1 + (r.takeWhile parB).length ≤ 16 then some (⟨1, l.take (1 + (r.takeWhile parB).length)⟩, 1 + (r.takeWhile parB).length) else none)
    else if digB c then (if 1 + (r.takeWhile digB).length ≤ 19 then some (⟨2, l.take (1 + (r.takeWhile digB).length)⟩, 1 + (r.takeWhile digB).length) else none)
    else if sigB c then some (⟨4, [c]⟩, 1)
    else none
def blankB (c : UInt8) : Bool := [32, 10].contains c
def skip (l : List UInt8) : List UInt8 := l.dropWhile blankB
theorem fst_pos {l : List UInt8} {t : Tk} {n : Nat} (h : fst l = some (t, n)) : 1 ≤ n ∧ n ≤ l.length := by
  unfold fst at h
  cases l with
  | nil => cases h
  | cons c r =>
    simp only at h
    split at h
    · cases hq : qscan r with
      | none => rw [hq] at h; cases h
      | some y =>
        rw [hq] at h
        simp only at h
        split at h
        · simp at h
          obtain ⟨h1, _⟩ := qscan_some _ r y.1 y.2 (Nat.le_refl _) hq
          have := congrArg List.length h1
          simp at this
          simp
          omega
        · cases h
    · split at h
      · split at h
        · simp at h
          have := (List.takeWhile_sublist parB (l := r)).length_le
          simp
          omega
        · cases h
      · split at h
        · split at h
          · simp at h
            have := (List.takeWhile_sublist digB (l := r)).length_le
            simp
            omega
          · cases h
        · split at h
          · simp at h; simp; omega
          · cases h
theorem skip_len (l : List UInt8) : (skip l).length ≤ l.length := (List.dropWhile_sublist _).length_le
/-- A text's tokens. -/
def cut (l : List UInt8) : Option (List Tk) :=
  match h : fst (skip l) with
  | none => if skip l = [] then some [] else none
  | some (t, n) => (cut ((skip l).drop n)).map (t :: ·)
termination_by l.length
decreasing_by
  have h1 := fst_pos h
  have h2 := skip_len l
  simp
  omega
theorem get_at' {s : ByteArray} {n : Nat} (h : n < s.size) : s.data.toList[n]? = some s[n] := by
  rw [List.getElem?_eq_getElem (by rw [← Lib.size_eq]; exact h)]; rfl
end Go.Proofs.YtmhkmliebhbkdaaGreat

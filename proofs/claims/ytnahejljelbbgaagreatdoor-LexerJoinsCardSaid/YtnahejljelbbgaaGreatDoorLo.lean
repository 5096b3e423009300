import Derived.Test.YtnahejljelbbgaaGreatDoorLj
import Derived.Lib.SmallJoins
/- Join: tokens as they are written. -/
namespace Go.Proofs.YtnahejljelbbgaaGreatDoor
open Go.RowKit Go.Lib

theorem Toks.none (W : World) (B : Nat) : Toks W B none 0 [] := ⟨rfl, fun j hj => absurd hj (by simp)⟩
/-- A token as the program writes it. -/
def tkW (k : Int) (s : ByteArray) : List UInt8 := if k = 3 then txtO 2 0 s else s.data.toList
theorem tkW_may {t : Tk} (h : t.may = true) : tkW t.k ⟨t.s.toArray⟩ = tkO t := by
  unfold tkW tkO
  by_cases h3 : t.k = 3
  · rw [if_pos h3, if_pos h3]
    unfold Tk.may tmayB at h
    rw [if_pos h3] at h
    exact quote_txt t.s h
  · rw [if_neg h3, if_neg h3]
theorem tkO_len {t : Tk} (h : t.may = true) : (tkO t).length ≤ 100 := by
  unfold tkO
  unfold Tk.may tmayB at h
  have hk : ∀ (p q : UInt8 → Bool) (m : Nat), m ≤ 19 → kmay p q m (⟨t.s.toArray⟩ : ByteArray).data.toList = true → t.s.length ≤ 19 := fun p q m hm h => by
    obtain ⟨c, r, e, _, _, h4⟩ := kmay_form h
    have e : t.s = c :: r := by simpa using e
    rw [e]; simp; omega
  by_cases h3 : t.k = 3
  · rw [if_pos h3]
    rw [if_pos h3] at h
    have h40 : t.s.length ≤ 40 := by
      unfold mayB at h
      simp at h
      simpa [ByteArray.size] using h.1
    have := dbl_len t.s
    simp
    omega
  · rw [if_neg h3]
    rw [if_neg h3] at h
    split at h
    · have := hk _ _ _ (by omega) h; omega
    · split at h
      · have := hk _ _ _ (by omega) h; omega
      · split at h
        · have := hk _ _ _ (by omega) h; omega
        · cases h
set_option maxRecDepth 100000 in
set_option maxHeartbeats 800000 in
theorem written_3 (s : ByteArray) (w : World) (hl : LibE w) :
    Calls Tryz.prog 17 #[.agg #[.int .i64 3, .string s]] w fun e w' => e = .returned (.string ⟨(txtO 2 0 s).toArray⟩) ∧ Below w.heap.size w w' := by
  have HL := Lib.hid hl
  clear hl
  go_enter Tryz.func17, Tryz.ntmps17
  go_wp2_with (first
    | (go_at_call 25; refine (meant_any _ _ _).mono ?_; rintro e w1 ⟨rfl, hb1⟩; have hc1 := (bcell hb1).1; have hf1 := (bcell hb1).2; have hy1 := hb1.size; (try simp at hy1); have hz1_0 : w.heap.size < w1.heap.size := (by omega))
    | (go_at_call 30; refine (text_any 2 0 s _ (HL.out.keep (by repeat (first | (with_reducible exact Below.refl _ _) | ((with_reducible refine cSet3 ?_ ?_ _ _ _); (· ((try simp) <;> omega))) | (with_reducible refine Below.drew ?_) | ((with_reducible refine cAlloc ?_ ?_ _); (· ((try simp) <;> omega))) | ((with_reducible refine cOn (by assumption) ?_ ?_); (· ((try simp) <;> omega))))) (Nat.le_refl _)).libs in64_0).mono ?_; rintro e w2 ⟨rfl, hb2⟩; have hc2 := (bcell hb2).1; have hf2 := (bcell hb2).2; have hy2 := hb2.size; (try simp at hy2); have hz2_0 : w.heap.size < w2.heap.size := (by omega)))
  go_ret
  refine ⟨rfl, ?_⟩
  repeat (first | (with_reducible exact Below.refl _ _) | ((with_reducible refine cSet3 ?_ ?_ _ _ _); (· ((try simp) <;> omega))) | (with_reducible refine Below.drew ?_) | ((with_reducible refine cAlloc ?_ ?_ _); (· ((try simp) <;> omega))) | ((with_reducible refine cOn (by assumption) ?_ ?_); (· ((try simp) <;> omega))))
set_option maxRecDepth 100000 in
set_option maxHeartbeats 800000 in
theorem written_o (k : Int) (s : ByteArray) (w : World) (hk : ¬ k = 3) :
    Calls Tryz.prog 17 #[.agg #[.int .i64 k, .string s]] w fun e w' => e = .returned (.string s) ∧ Below w.heap.size w w' := by
  go_enter Tryz.func17, Tryz.ntmps17
  go_wp2
  go_ret
  refine ⟨rfl, ?_⟩
  repeat (first | (with_reducible exact Below.refl _ _) | ((with_reducible refine cSet3 ?_ ?_ _ _ _); (· ((try simp) <;> omega))) | (with_reducible refine Below.drew ?_) | ((with_reducible refine cAlloc ?_ ?_ _); (· ((try simp) <;> omega))) | ((with_reducible refine cOn (by assumption) ?_ ?_); (· ((try simp) <;> omega))))
theorem written_any (k : Int) (s : ByteArray) (w : World) (hl : LibE w) :
    Calls Tryz.prog 17 #[.agg #[.int .i64 k, .string s]] w fun e w' => e = .returned (.string ⟨(tkW k s).toArray⟩) ∧ Below w.heap.size w w' := by
  unfold tkW
  by_cases h : k = 3
  · rw [if_pos h]; subst h; exact written_3 s w hl
  · rw [if_neg h]
    have := written_o k s w h
    simpa using this
set_option maxRecDepth 100000 in
theorem tmayNot_any (k : Int) (s : ByteArray) (w : World) (hs : s.size ≤ 100000) :
    Calls Tryz.prog 14 #[.agg #[.int .i64 k, .string s]] w fun e w' => e = .returned (.bool (!tmayB k s)) ∧ Below w.heap.size w w' := by
  go_enter Tryz.func14, Tryz.ntmps14
  go_wp2_with (go_at_call 12; refine (tmay_any k s _ hs).mono ?_; rintro e w1 ⟨rfl, hb1⟩)
  go_ret
  refine ⟨rfl, ?_⟩
  repeat (first | (with_reducible exact Below.refl _ _) | ((with_reducible refine cSet3 ?_ ?_ _ _ _); (· ((try simp) <;> omega))) | (with_reducible refine Below.drew ?_) | ((with_reducible refine cAlloc ?_ ?_ _); (· ((try simp) <;> omega))) | ((with_reducible refine cOn (by assumption) ?_ ?_); (· ((try simp) <;> omega))))
/-- The texts of these tokens are none too great. -/
def ShortT (l : List Tk) : Prop := ∀ x ∈ l, (⟨x.s.toArray⟩ : ByteArray).size ≤ 100000
def tidxN (l : List Tk) (k : Nat) : Int := match l with
  | [] => -1
  | x :: r => if x.may then tidxN r (k + 1) else k
theorem tidxN_any : ∀ (l : List Tk) (k : Nat), decide (0 ≤ tidxN l k) = !l.all Tk.may
  | [], k => by simp [tidxN]
  | x :: l, k => by
    rw [tidxN]
    cases hx : x.may with
    | true => simp [hx, tidxN_any l (k + 1)]
    | false => simp [hx]
theorem ret_int' {a b : Int} (h : a = b) : Ending.returned (.int .i64 a) = .returned (.int .i64 b) := by rw [h]
set_option maxRecDepth 100000 in
set_option maxHeartbeats 4000000 in
theorem tindex_any (A : Option Addr) (n cap : Nat) (l : List Tk) (w : World) (hn : n ≤ 1000) (hv : Toks w w.heap.size A n l) (hs : ShortT l) :
    Calls Tryz.prog 28 #[.slice A n cap, .func (.func 14) #[] #[]] w fun e w' => e = .returned (.int .i64 (tidxN l 0)) ∧ Below w.heap.size w w' := by
  have HV := Lib.hid hv
  have HL := Lib.hid hv.1
  have HS := Lib.hid hs
  clear hv hs
  go_enter Tryz.func28, Tryz.ntmps28
  go_wp2
  go_loopw [8] (fun i wr => ∃ k : Nat, k ≤ n ∧ i = .int .i64 k ∧ Below w.heap.size w wr ∧ Hid (tidxN l 0 = tidxN (l.drop k) k)) (fun i _ => n - (intOf i).toNat)
  case atStart => exact ⟨0, by omega, rfl, Below.refl _ _, by show _ = _; simp⟩
  case round =>
    obtain ⟨k, hk, rfl, hb, HI⟩ := hrel
    have hbs := hb.size
    by_cases hlt : k < n
    · skip
      obtain ⟨a, x, rfl, hx, hA, hB⟩ := HV.out.at_ hlt
      have hxs := HS.out x (List.mem_of_getElem? hx)
      obtain ⟨xk, xs, xe⟩ : ∃ k s, x.k = k ∧ (⟨x.s.toArray⟩ : ByteArray) = s := ⟨_, _, rfl, rfl⟩
      have hA' := hA.keep hb (by rw [add_blk]; exact hB)
      have ck := hA'.k
      have cs := hA'.s
      rw [xe.1] at ck
      rw [xe.2] at cs hxs
      have HX := Lib.hid hx
      have HE := Lib.hid xe
      clear hx hA hA' xe
      have hm0 : x.may = tmayB xk xs := by unfold Tk.may; rw [HE.out.1, HE.out.2]
      cases hm : tmayB xk xs with
      | true =>
        have HM := Lib.hid (hm0.trans hm)
        have HC := Lib.hid (fun (W : World) => hm ▸ tmayNot_any xk xs W hxs)
        clear hm hm0
        go_wp2_with (go_at_call 14; refine (HC.out _).mono ?_; rintro e w1 ⟨rfl, hb1⟩)
        go_roundw
        case rel => exact ⟨k + 1, by omega, by go_num, hb.trans (hb1.mono hbs), by show _ = _; rw [HI.out, tdrop_at HX.out, tidxN, HM.out]; simp⟩
        case measure => simp [intOf]; omega
      | false =>
        have HM := Lib.hid (hm0.trans hm)
        have HC := Lib.hid (fun (W : World) => hm ▸ tmayNot_any xk xs W hxs)
        clear hm hm0
        go_wp2_with (go_at_call 14; refine (HC.out _).mono ?_; rintro e w1 ⟨rfl, hb1⟩)
        go_ret
        exact ⟨ret_int' (by rw [HI.out, tdrop_at HX.out, tidxN, HM.out]; simp), hb.trans (hb1.mono hbs)⟩
    · go_wp2
      go_ret
      exact ⟨ret_int' (by rw [HI.out, List.drop_of_length_le (by have := HL.out; omega)]; rfl), hb⟩

set_option maxRecDepth 100000 in
set_option maxHeartbeats 4000000 in
theorem tcontains_any (A : Option Addr) (n cap : Nat) (l : List Tk) (w : World) (hn : n ≤ 1000) (hv : Toks w w.heap.size A n l) (hs : ShortT l) :
    Calls Tryz.prog 13 #[.slice A n cap, .func (.func 14) #[] #[]] w fun e w' => e = .returned (.bool (!l.all Tk.may)) ∧ Below w.heap.size w w' := by
  have HV := Lib.hid hv
  have HS := Lib.hid hs
  have HE := Lib.hid (tidxN_any l 0)
  clear hv hs
  go_enter Tryz.func13, Tryz.ntmps13
  go_wp2_with (go_at_call 28; refine (tindex_any A n cap l _ hn HV.out HS.out).mono ?_; rintro e w1 ⟨rfl, hb1⟩)
  go_ret
  exact ⟨ret_bool HE.out, hb1⟩
end Go.Proofs.YtnahejljelbbgaaGreatDoor

import Derived.Test.YtnahejljelbbgaaGreatDoorLu
import Derived.Test.YtnahejljelbbgaaGreatDoorLv
/- The law LexerJoins. -/
namespace Go.Proofs.YtnahejljelbbgaaGreatDoor
open Go.RowKit Go.Lib

/-- A row of tokens that comes in. -/
structure InpT (W : World) (A : Option Addr) (n cap : Nat) (l : List Tk) : Prop where
  len : n ≤ maxLen
  fits : n ≤ cap
  toks : Toks W W.heap.size A n l
  short : ∀ x ∈ l, (⟨x.s.toArray⟩ : ByteArray).size ≤ maxLen
theorem toksL_len (l : List Tk) : (toksL l).length ≤ 401 := by unfold toksL; simp; omega
theorem toksL_short (l : List Tk) : ShortT (toksL l) := by
  intro x hx
  unfold toksL at hx
  obtain ⟨y, _, rfl⟩ := List.mem_map.1 hx
  rw [sz_mk']
  unfold Tk.cut60
  simp
  omega
theorem tokens_got (A : Option Addr) (n cap : Nat) (l : List Tk) (w : World) (h : InpT w A n cap l) (m : List Tk) (hm : m = toksL l) (k : Nat) (hk : m.length = k) :
    Calls Tryz.prog 5 #[.slice A n cap] w fun e w' => ∃ A1 c1, e = .returned (.slice A1 k c1) ∧ Hid (Toks w' w'.heap.size A1 k m) ∧ Below w.heap.size w w' :=
  (tokens_any A n cap l w h.len h.fits h.toks h.short).mono fun e w' ⟨v, h1, h2, hb⟩ => by
    subst hm
    subst hk
    obtain ⟨A1, c1, rfl, ht⟩ := h2.toks
    exact ⟨A1, c1, h1, ht, hb⟩
theorem joinOk_iff {l : List Tk} (h : joinOk l = true) : l.length ≤ 400 ∧ ∀ t ∈ l, t.may = true := by
  unfold joinOk at h
  rw [Bool.and_eq_true, decide_eq_true_eq, List.all_eq_true] at h
  exact h

set_option maxRecDepth 100000 in
set_option maxHeartbeats 1600000 in
theorem joins_n (A : Option Addr) (n cap : Nat) (l : List Tk) (w : World) (h : InpT w A n cap l) (hl : LibE w) (h1 : joinOk (toksL l) = false) :
    Calls Tryz.prog 3 #[.slice A n cap] w fun e w' => e = .returned (.bool true) ∧ Below w.heap.size w w' := by
  have H := Lib.hid h
  have HL := Lib.hid hl
  have HLE := fun (W : World) (h : Below w.heap.size w W) => HL.out.keep h (Nat.le_refl _)
  obtain ⟨m, hm⟩ : ∃ m, m = toksL l := ⟨_, rfl⟩
  obtain ⟨k, hk⟩ : ∃ k, m.length = k := ⟨_, rfl⟩
  have hk4 : k ≤ 401 := by rw [← hk, hm]; exact toksL_len l
  have hms : ShortT m := by rw [hm]; exact toksL_short l
  rw [← hm] at h1
  have HM := Lib.hid hm
  have HK := Lib.hid hk
  have hJS : joinS m = ⟨#[]⟩ := by unfold joinS; rw [h1]; rfl
  have HJ := Lib.hid (fun (A : Option Addr) (cap : Nat) (W : World) (hv : Toks W W.heap.size A k m) (h : LibE W) => (show Calls Tryz.prog 6 #[.slice A k cap] W fun e w' => e = .returned (.tuple #[.string ⟨#[]⟩, .int .i64 1]) ∧ Below W.heap.size W w' from by
    have := join_any A k cap m W (by omega) hv hms h
    unfold joinE at this
    rw [hJS, h1] at this
    exact this))
  have HR := Lib.hid (fun (A : Option Addr) (cap : Nat) (W : World) (hv : Toks W W.heap.size A k m) => (show Calls Tryz.prog 7 #[.slice A k cap] W fun e w' => e = .returned (.tuple #[.string ⟨#[]⟩, .bool false]) ∧ Below W.heap.size W w' from by
    have := rjoin_any A k cap m W (by omega) hv hms
    rw [hJS, h1] at this
    exact this))
  clear h hl hm hk h1 hJS hms
  go_enter Tryz.func3, Tryz.ntmps3
  go_wp2_with (first
    | (go_at_call 5; refine (tokens_got A n cap l _ H.out m HM.out k HK.out).mono ?_; rintro e w1 ⟨A1, c1, rfl, HT1, hb1⟩; have hy1 := hb1.size; (try simp at hy1))
    | (go_at_call 6; refine (HJ.out A1 c1 _ HT1.out (HLE _ (by repeat (first | (with_reducible exact Below.refl _ _) | ((with_reducible refine cSet3 ?_ ?_ _ _ _); (· ((try simp) <;> omega))) | (with_reducible refine Below.drew ?_) | ((with_reducible refine cAlloc ?_ ?_ _); (· ((try simp) <;> omega))) | ((with_reducible refine cOn (by assumption) ?_ ?_); (· ((try simp) <;> omega))))))).mono ?_; rintro e w2 ⟨rfl, hb2⟩; have HT2 := Lib.hid (HT1.out.later hb2); have hy2 := hb2.size; (try simp at hy2))
    | (go_at_call 7; refine (HR.out A1 c1 _ HT2.out).mono ?_; rintro e w3 ⟨rfl, hb3⟩; have HT3 := Lib.hid (HT2.out.later hb3); have hy3 := hb3.size; (try simp at hy3))
    | (go_at_call 8; refine (awake3_any _ (HLE _ (by repeat (first | (with_reducible exact Below.refl _ _) | ((with_reducible refine cSet3 ?_ ?_ _ _ _); (· ((try simp) <;> omega))) | (with_reducible refine Below.drew ?_) | ((with_reducible refine cAlloc ?_ ?_ _); (· ((try simp) <;> omega))) | ((with_reducible refine cOn (by assumption) ?_ ?_); (· ((try simp) <;> omega))))))).mono ?_; rintro e w9 ⟨rfl, hb9⟩; have hy9 := hb9.size; (try simp at hy9)))
  go_ret
  refine ⟨rfl, ?_⟩
  repeat (first | (with_reducible exact Below.refl _ _) | ((with_reducible refine cSet3 ?_ ?_ _ _ _); (· ((try simp) <;> omega))) | (with_reducible refine Below.drew ?_) | ((with_reducible refine cAlloc ?_ ?_ _); (· ((try simp) <;> omega))) | ((with_reducible refine cOn (by assumption) ?_ ?_); (· ((try simp) <;> omega))))

set_option maxRecDepth 100000 in
set_option maxHeartbeats 3200000 in
theorem joins_y (A : Option Addr) (n cap : Nat) (l : List Tk) (w : World) (h : InpT w A n cap l) (hl : LibE w) (h1 : joinOk (toksL l) = true) :
    Calls Tryz.prog 3 #[.slice A n cap] w fun e w' => e = .returned (.bool true) ∧ Below w.heap.size w w' := by
  have H := Lib.hid h
  have HL := Lib.hid hl
  have HLE := fun (W : World) (h : Below w.heap.size w W) => HL.out.keep h (Nat.le_refl _)
  obtain ⟨m, hm⟩ : ∃ m, m = toksL l := ⟨_, rfl⟩
  obtain ⟨k, hk⟩ : ∃ k, m.length = k := ⟨_, rfl⟩
  have hk4 : k ≤ 401 := by rw [← hk, hm]; exact toksL_len l
  have hms : ShortT m := by rw [hm]; exact toksL_short l
  rw [← hm] at h1
  have HM := Lib.hid hm
  have HK := Lib.hid hk
  obtain ⟨hl4, hmay⟩ := joinOk_iff h1
  obtain ⟨q, hq⟩ : ∃ q : ByteArray, q = ⟨(joinO m).toArray⟩ := ⟨_, rfl⟩
  have hJS : joinS m = q := by unfold joinS; rw [h1, hq]; rfl
  have HJ := Lib.hid (fun (A : Option Addr) (cap : Nat) (W : World) (hv : Toks W W.heap.size A k m) (h : LibE W) => (show Calls Tryz.prog 6 #[.slice A k cap] W fun e w' => e = .returned (.tuple #[.string q, .int .i64 0]) ∧ Below W.heap.size W w' from by
    have := join_any A k cap m W (by omega) hv hms h
    unfold joinE at this
    rw [hJS, h1] at this
    exact this))
  have HR := Lib.hid (fun (A : Option Addr) (cap : Nat) (W : World) (hv : Toks W W.heap.size A k m) => (show Calls Tryz.prog 7 #[.slice A k cap] W fun e w' => e = .returned (.tuple #[.string q, .bool true]) ∧ Below W.heap.size W w' from by
    have := rjoin_any A k cap m W (by omega) hv hms
    rw [hJS, h1] at this
    exact this))
  have HC2 := Lib.hid (show cutR q.data.toList = some m by rw [hq]; exact join_cut hmay hl4)
  have hqz : q.size ≤ 100000 := by
    have := joinO_len m hmay
    rw [hq, sz_mk']
    omega
  clear h hl hm hk h1 hJS hms hl4 hmay hq
  go_enter Tryz.func3, Tryz.ntmps3
  go_wp2_with (first
    | (go_at_call 5; refine (tokens_got A n cap l _ H.out m HM.out k HK.out).mono ?_; rintro e w1 ⟨A1, c1, rfl, HT1, hb1⟩; have hy1 := hb1.size; (try simp at hy1))
    | (go_at_call 6; refine (HJ.out A1 c1 _ HT1.out (HLE _ (by repeat (first | (with_reducible exact Below.refl _ _) | ((with_reducible refine cSet3 ?_ ?_ _ _ _); (· ((try simp) <;> omega))) | (with_reducible refine Below.drew ?_) | ((with_reducible refine cAlloc ?_ ?_ _); (· ((try simp) <;> omega))) | ((with_reducible refine cOn (by assumption) ?_ ?_); (· ((try simp) <;> omega))))))).mono ?_; rintro e w2 ⟨rfl, hb2⟩; have HT2 := Lib.hid (HT1.out.later hb2); have hy2 := hb2.size; (try simp at hy2))
    | (go_at_call 7; refine (HR.out A1 c1 _ HT2.out).mono ?_; rintro e w3 ⟨rfl, hb3⟩; have HT3 := Lib.hid (HT2.out.later hb3); have hy3 := hb3.size; (try simp at hy3))
    | (go_at_call 9; refine (cut_two q _ hqz (HLE _ (by repeat (first | (with_reducible exact Below.refl _ _) | ((with_reducible refine cSet3 ?_ ?_ _ _ _); (· ((try simp) <;> omega))) | (with_reducible refine Below.drew ?_) | ((with_reducible refine cAlloc ?_ ?_ _); (· ((try simp) <;> omega))) | ((with_reducible refine cOn (by assumption) ?_ ?_); (· ((try simp) <;> omega)))))) m HC2.out k HK.out).mono ?_; rintro e w5 ⟨A5, c5, rfl, HT5, hb5⟩; have HT4 := Lib.hid (HT3.out.later hb5); have hy5 := hb5.size; (try simp at hy5))
    | (go_at_call 10; refine (same_self A5 c5 A1 c1 m k (by omega) _ HT5.out HT4.out).mono ?_; rintro e w6 ⟨rfl, hb6⟩; have hy6 := hb6.size; (try simp at hy6))
    | (go_at_call 8; refine (awake3_any _ (HLE _ (by repeat (first | (with_reducible exact Below.refl _ _) | ((with_reducible refine cSet3 ?_ ?_ _ _ _); (· ((try simp) <;> omega))) | (with_reducible refine Below.drew ?_) | ((with_reducible refine cAlloc ?_ ?_ _); (· ((try simp) <;> omega))) | ((with_reducible refine cOn (by assumption) ?_ ?_); (· ((try simp) <;> omega))))))).mono ?_; rintro e w9 ⟨rfl, hb9⟩; have hy9 := hb9.size; (try simp at hy9)))
  go_ret
  refine ⟨rfl, ?_⟩
  repeat (first | (with_reducible exact Below.refl _ _) | ((with_reducible refine cSet3 ?_ ?_ _ _ _); (· ((try simp) <;> omega))) | (with_reducible refine Below.drew ?_) | ((with_reducible refine cAlloc ?_ ?_ _); (· ((try simp) <;> omega))) | ((with_reducible refine cOn (by assumption) ?_ ?_); (· ((try simp) <;> omega))))
theorem law_joins (A : Option Addr) (n cap : Nat) (l : List Tk) (w : World) (h : InpT w A n cap l) (hl : LibE w) :
    Calls Tryz.prog 3 #[.slice A n cap] w fun e w' => e = .returned (.bool true) ∧ Below w.heap.size w w' := by
  cases h1 : joinOk (toksL l) with
  | false => exact joins_n A n cap l w h hl h1
  | true => exact joins_y A n cap l w h hl h1
end Go.Proofs.YtnahejljelbbgaaGreatDoor

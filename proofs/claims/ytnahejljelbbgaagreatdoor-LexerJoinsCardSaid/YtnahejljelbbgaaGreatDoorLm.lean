import Derived.Test.YtnahejljelbbgaaGreatDoorLq
/- The law LexerAgain. -/
namespace Go.Proofs.YtnahejljelbbgaaGreatDoor
open Go.RowKit Go.Lib

theorem cut_two (s : ByteArray) (w : World) (hs : s.size ≤ 100000) (hl : LibE w) (ts : List Tk) (h : cutR s.data.toList = some ts) (n : Nat) (hn : ts.length = n) :
    Calls Tryz.prog 9 #[.string s] w fun e w' => ∃ A cap, e = .returned (.tuple #[.slice A n cap, .int .i64 0]) ∧ Hid (Toks w' w'.heap.size A n ts) ∧ Below w.heap.size w w' := cut_ok' s w hs hl ts h n hn
theorem same_self (A : Option Addr) (cap : Nat) (A' : Option Addr) (cap' : Nat) (l : List Tk) (n : Nat) (hn : n ≤ 100000) (W : World) (hv : Toks W W.heap.size A n l) (hv' : Toks W W.heap.size A' n l) :
    Calls Tryz.prog 10 #[.slice A n cap, .slice A' n cap'] W fun e w' => e = .returned (.bool true) ∧ Below W.heap.size W w' := by
  have := sameT_any A n cap l A' n cap' l W hn hn hv hv'
  rwa [sameTL_self] at this
theorem cutR_get {l : List UInt8} {ts : List Tk} (h : cutR l = some ts) : cut l = some ts ∧ ts.length ≤ 400 := by
  unfold cutR at h
  cases hc : cut l with
  | none => rw [hc] at h; cases h
  | some x =>
    rw [hc] at h
    simp only at h
    split at h
    · rename_i hl; obtain rfl := Option.some.inj h; exact ⟨rfl, hl⟩
    · cases h
theorem may_short {l : List Tk} (h : ∀ t ∈ l, t.may = true) : ShortT l := fun t ht => by
  have h1 := h t ht
  have h2 := tkO_len h1
  rw [sz_mk']
  have h3 : t.s.length ≤ (tkO t).length := by
    unfold tkO
    split
    · have := dbl_ge t.s; simp; omega
    · exact Nat.le_refl _
  omega
theorem joinOk_of {l : List Tk} (h : ∀ t ∈ l, t.may = true) (hl : l.length ≤ 400) : joinOk l = true := by
  unfold joinOk
  rw [decide_eq_true hl, List.all_eq_true.2 h]
  rfl
/-- What may be joined is cut as it was. -/
theorem join_cut {l : List Tk} (h : ∀ t ∈ l, t.may = true) (hl : l.length ≤ 400) : cutR (⟨(joinO l).toArray⟩ : ByteArray).data.toList = some l := cutR_some (by simpa using cut_join l h) hl
set_option maxRecDepth 100000 in
set_option maxHeartbeats 1600000 in
theorem again_n (s : ByteArray) (w : World) (hs : s.size ≤ maxLen) (hl : LibE w) (h1 : cutR (few3S s).data.toList = none) :
    Calls Tryz.prog 4 #[.string s] w fun e w' => e = .returned (.bool true) ∧ Below w.heap.size w w' := by
  have HL := Lib.hid hl
  have HLE := fun (W : World) (h : Below w.heap.size w W) => HL.out.keep h (Nat.le_refl _)
  have hfz := few3_size s
  obtain ⟨f, hf⟩ : ∃ f, f = few3S s := ⟨_, rfl⟩
  rw [← hf] at h1 hfz
  have HF := Lib.hid (fun (W : World) => hf ▸ few3s_any s W hs)
  have HC := Lib.hid h1
  clear hf h1 hl
  go_enter Tryz.func4, Tryz.ntmps4
  go_wp2_with (first
    | (go_at_call 11; refine (HF.out _).mono ?_; rintro e w1 ⟨rfl, hb1⟩; have hy1 := hb1.size; (try simp at hy1))
    | (go_at_call 9; refine (cut_no f _ (by omega) (HLE _ (by repeat (first | (with_reducible exact Below.refl _ _) | ((with_reducible refine cSet3 ?_ ?_ _ _ _); (· ((try simp) <;> omega))) | (with_reducible refine Below.drew ?_) | ((with_reducible refine cAlloc ?_ ?_ _); (· ((try simp) <;> omega))) | ((with_reducible refine cOn (by assumption) ?_ ?_); (· ((try simp) <;> omega)))))) HC.out).mono ?_; rintro e w2 ⟨rfl, hb2⟩; have hy2 := hb2.size; (try simp at hy2))
    | (go_at_call 8; refine (awake3_any _ (HLE _ (by repeat (first | (with_reducible exact Below.refl _ _) | ((with_reducible refine cSet3 ?_ ?_ _ _ _); (· ((try simp) <;> omega))) | (with_reducible refine Below.drew ?_) | ((with_reducible refine cAlloc ?_ ?_ _); (· ((try simp) <;> omega))) | ((with_reducible refine cOn (by assumption) ?_ ?_); (· ((try simp) <;> omega))))))).mono ?_; rintro e w9 ⟨rfl, hb9⟩; have hy9 := hb9.size; (try simp at hy9)))
  go_ret
  refine ⟨rfl, ?_⟩
  repeat (first | (with_reducible exact Below.refl _ _) | ((with_reducible refine cSet3 ?_ ?_ _ _ _); (· ((try simp) <;> omega))) | (with_reducible refine Below.drew ?_) | ((with_reducible refine cAlloc ?_ ?_ _); (· ((try simp) <;> omega))) | ((with_reducible refine cOn (by assumption) ?_ ?_); (· ((try simp) <;> omega))))

set_option maxRecDepth 100000 in
set_option maxHeartbeats 3200000 in
theorem again_y (s : ByteArray) (w : World) (hs : s.size ≤ maxLen) (hl : LibE w) (l : List Tk) (h1 : cutR (few3S s).data.toList = some l) :
    Calls Tryz.prog 4 #[.string s] w fun e w' => e = .returned (.bool true) ∧ Below w.heap.size w w' := by
  have HL := Lib.hid hl
  have HLE := fun (W : World) (h : Below w.heap.size w W) => HL.out.keep h (Nat.le_refl _)
  have hfz := few3_size s
  obtain ⟨f, hf⟩ : ∃ f, f = few3S s := ⟨_, rfl⟩
  rw [← hf] at h1 hfz
  have HF := Lib.hid (fun (W : World) => hf ▸ few3s_any s W hs)
  have HC := Lib.hid h1
  have hmay : ∀ t ∈ l, t.may = true := cut_may _ _ (Nat.le_refl _) l (cutR_get h1).1
  have hl4 := (cutR_get h1).2
  have HMAY := Lib.hid hmay
  have HS := Lib.hid (may_short hmay)
  obtain ⟨n, hn⟩ : ∃ n, l.length = n := ⟨_, rfl⟩
  have hn4 : n ≤ 400 := by omega
  have HN := Lib.hid hn
  obtain ⟨q, hq⟩ : ∃ q : ByteArray, q = ⟨(joinO l).toArray⟩ := ⟨_, rfl⟩
  have HJ := Lib.hid (fun (A : Option Addr) (cap : Nat) (W : World) (hv : Toks W W.heap.size A n l) (h : LibE W) => (show Calls Tryz.prog 6 #[.slice A n cap] W fun e w' => e = .returned (.tuple #[.string q, .int .i64 0]) ∧ Below W.heap.size W w' from by
    have := join_any A n cap l W (by omega) hv HS.out h
    unfold joinS joinE at this
    rw [joinOk_of hmay hl4, ← hq] at this
    exact this))
  have HC2 := Lib.hid (show cutR q.data.toList = some l by rw [hq]; exact join_cut hmay hl4)
  have hqz : q.size ≤ 100000 := by
    have := joinO_len l hmay
    rw [hq, sz_mk']
    omega
  have h4' : (n : Int) ≤ 400 := by omega
  clear hf h1 hl hmay hl4 hn hq
  go_enter Tryz.func4, Tryz.ntmps4
  go_wp2_with (first
    | (go_at_call 11; refine (HF.out _).mono ?_; rintro e w1 ⟨rfl, hb1⟩; have hy1 := hb1.size; (try simp at hy1))
    | (go_at_call 9; refine (cut_two f _ (by omega) (HLE _ (by repeat (first | (with_reducible exact Below.refl _ _) | ((with_reducible refine cSet3 ?_ ?_ _ _ _); (· ((try simp) <;> omega))) | (with_reducible refine Below.drew ?_) | ((with_reducible refine cAlloc ?_ ?_ _); (· ((try simp) <;> omega))) | ((with_reducible refine cOn (by assumption) ?_ ?_); (· ((try simp) <;> omega)))))) l HC.out n HN.out).mono ?_; rintro e w2 ⟨A2, c2, rfl, HT2, hb2⟩; have hy2 := hb2.size; (try simp at hy2)))
  have HB2 := Lib.hid (show Below w.heap.size w w2 by repeat (first | (with_reducible exact Below.refl _ _) | ((with_reducible refine cSet3 ?_ ?_ _ _ _); (· ((try simp) <;> omega))) | (with_reducible refine Below.drew ?_) | ((with_reducible refine cAlloc ?_ ?_ _); (· ((try simp) <;> omega))) | ((with_reducible refine cOn (by assumption) ?_ ?_); (· ((try simp) <;> omega)))))
  have hy02 : w.heap.size ≤ w2.heap.size := by omega
  have HV := HT2
  clear hb1 hb2
  go_loopw [5] (fun i wr => ∃ k : Nat, k ≤ n ∧ i = .int .i64 k ∧ Below w2.heap.size w2 wr) (fun i _ => n - (intOf i).toNat)
  case atStart => exact ⟨0, by omega, rfl, Below.refl _ _⟩
  case round =>
    obtain ⟨k, hk, rfl, hb⟩ := hrel
    have hbs := hb.size
    by_cases hlt : k < n
    · skip
      obtain ⟨a, x, rfl, hx, hA, hB⟩ := HV.out.at_ hlt
      have hxs := HS.out x (List.mem_of_getElem? hx)
      obtain ⟨xk, xs, xe⟩ : ∃ k s, x.k = k ∧ (⟨x.s.toArray⟩ : ByteArray) = s := ⟨_, _, rfl, rfl⟩
      have hA' := hA.keep hb (by rw [add_blk]; exact hB)
      have ck := hA'.k
      have cs := hA'.s
      rw [xe.1] at ck
      rw [xe.2] at cs hxs
      have HX := Lib.hid hx
      have HE := Lib.hid xe
      clear hx hA hA' xe
      have hxm := HMAY.out x (List.mem_of_getElem? HX.out)
      have HM := Lib.hid (fun (W : World) => (show Calls Tryz.prog 12 #[.agg #[.int .i64 xk, .string xs]] W fun e w' => e = .returned (.bool true) ∧ Below W.heap.size W w' from by
        have := tmay_any xk xs W hxs
        have e : tmayB xk xs = true := by rw [← HE.out.1, ← HE.out.2]; exact hxm
        rwa [e] at this))
      clear hxm
      go_wp2_with (go_at_call 12; refine (HM.out _).mono ?_; rintro e w3 ⟨rfl, hb3⟩)
      go_roundw
      case rel => exact ⟨k + 1, by omega, by go_num, hb.trans (hb3.mono hbs)⟩
      case measure => simp [intOf]; omega
    · have hkn : ¬ (k : Int) < (n : Int) := by omega
      have hb02 := HB2.out
      have HTw := Lib.hid (HT2.out.later hb)
      go_wp2_with (first
    | (go_at_call 6; refine (HJ.out A2 c2 _ HTw.out (HLE _ (by repeat (first | (with_reducible exact Below.refl _ _) | ((with_reducible refine cSet3 ?_ ?_ _ _ _); (· ((try simp) <;> omega))) | (with_reducible refine Below.drew ?_) | ((with_reducible refine cAlloc ?_ ?_ _); (· ((try simp) <;> omega))) | ((with_reducible refine cOn (by assumption) ?_ ?_); (· ((try simp) <;> omega))))))).mono ?_; rintro e w4 ⟨rfl, hb4⟩; have hy4 := hb4.size; (try simp at hy4))
    | (go_at_call 9; refine (cut_two q _ hqz (HLE _ (by repeat (first | (with_reducible exact Below.refl _ _) | ((with_reducible refine cSet3 ?_ ?_ _ _ _); (· ((try simp) <;> omega))) | (with_reducible refine Below.drew ?_) | ((with_reducible refine cAlloc ?_ ?_ _); (· ((try simp) <;> omega))) | ((with_reducible refine cOn (by assumption) ?_ ?_); (· ((try simp) <;> omega)))))) l HC2.out n HN.out).mono ?_; rintro e w5 ⟨A5, c5, rfl, HT5, hb5⟩; have hy5 := hb5.size; (try simp at hy5))
    | (go_at_call 10; refine (same_self A5 c5 A2 c2 l n (by omega) _ HT5.out ((HTw.out.later hb4).later hb5)).mono ?_; rintro e w6 ⟨rfl, hb6⟩; have hy6 := hb6.size; (try simp at hy6))
    | (go_at_call 8; refine (awake3_any _ (HLE _ (by repeat (first | (with_reducible exact Below.refl _ _) | ((with_reducible refine cSet3 ?_ ?_ _ _ _); (· ((try simp) <;> omega))) | (with_reducible refine Below.drew ?_) | ((with_reducible refine cAlloc ?_ ?_ _); (· ((try simp) <;> omega))) | ((with_reducible refine cOn (by assumption) ?_ ?_); (· ((try simp) <;> omega))))))).mono ?_; rintro e w9 ⟨rfl, hb9⟩; have hy9 := hb9.size; (try simp at hy9)))
      go_ret
      refine ⟨rfl, ?_⟩
      repeat (first | (with_reducible exact Below.refl _ _) | ((with_reducible refine cSet3 ?_ ?_ _ _ _); (· ((try simp) <;> omega))) | (with_reducible refine Below.drew ?_) | ((with_reducible refine cAlloc ?_ ?_ _); (· ((try simp) <;> omega))) | ((with_reducible refine cOn (by assumption) ?_ ?_); (· ((try simp) <;> omega))))
theorem law_again (s : ByteArray) (w : World) (hs : s.size ≤ maxLen) (hl : LibE w) :
    Calls Tryz.prog 4 #[.string s] w fun e w' => e = .returned (.bool true) ∧ Below w.heap.size w w' := by
  cases h : cutR (few3S s).data.toList with
  | none => exact again_n s w hs hl h
  | some l => exact again_y s w hs hl l h
end Go.Proofs.YtnahejljelbbgaaGreatDoor

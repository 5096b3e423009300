import Derived.Test.YtnahejljelbbgaaGreatDoorLs
/- The document's Join. -/
namespace Go.Proofs.YtnahejljelbbgaaGreatDoor
open Go.RowKit Go.Lib

theorem join_not {l : List Tk} {k : Nat} {x : Tk} (h : l[k]? = some x) (hm : x.may = false) : joinS l = ⟨#[]⟩ ∧ joinOk l = false := by
  have e : joinOk l = false := by
    unfold joinOk
    cases ha : l.all Tk.may with
    | false => simp
    | true =>
      have := List.all_eq_true.1 ha x (List.mem_of_getElem? h)
      rw [hm] at this; cases this
  unfold joinS
  rw [e]
  exact ⟨rfl, rfl⟩
theorem join_not4 {l : List Tk} (h : 400 < l.length) : joinS l = ⟨#[]⟩ ∧ joinOk l = false := by
  have e : joinOk l = false := by
    unfold joinOk
    rw [decide_eq_false (show ¬ l.length ≤ 400 by omega)]
    rfl
  unfold joinS
  rw [e]
  exact ⟨rfl, rfl⟩
theorem ba_eq {S : ByteArray} {m : List UInt8} (h : S.data.toList = m) : S = ⟨m.toArray⟩ := by
  subst h
  cases S
  simp
theorem join_is {l : List Tk} {S : ByteArray} (h : S.data.toList = joinO l) (hm : l.all Tk.may = true) (h4 : l.length ≤ 400) : joinS l = S ∧ joinOk l = true := by
  have e : joinOk l = true := by
    unfold joinOk
    rw [decide_eq_true h4, hm]
    rfl
  unfold joinS
  rw [e]
  exact ⟨(ba_eq h).symm, rfl⟩
theorem ret_jn {s s' : ByteArray} {b b' : Bool} (h1 : s' = s) (h2 : b' = b) : Ending.returned (.tuple #[.string s, .bool b]) = .returned (.tuple #[.string s', .bool b']) := by rw [h1, h2]
theorem all_snoc {l : List Tk} {k : Nat} {x : Tk} (h : l[k]? = some x) (hm : x.may = true) (ha : (l.take k).all Tk.may = true) : (l.take (k + 1)).all Tk.may = true := by
  rw [ttake_at h, List.all_append, ha]
  simp [hm]
theorem join_first {l : List Tk} {x : Tk} {S q : ByteArray} (h : l[0]? = some x) (hS : S.data.toList = joinO (l.take 0)) (hq : q.data.toList = tkO x) : (S ++ q).data.toList = joinO (l.take (0 + 1)) := by
  rw [ttake_at h, joinO_snoc, if_pos (by simp)]
  have : S.data.toList = [] := by rw [hS]; rfl
  rw [← hq]
  simp only [ByteArray.data_append, Array.toList_append, this, List.nil_append]
theorem join_next {l : List Tk} {k : Nat} {x : Tk} {S q : ByteArray} (hk : ¬ k = 0) (h : l[k]? = some x) (hS : S.data.toList = joinO (l.take k)) (hq : q.data.toList = tkO x) : ((S ++ (⟨#[32]⟩ : ByteArray)) ++ q).data.toList = joinO (l.take (k + 1)) := by
  have hlt := (List.getElem?_eq_some_iff.1 h).1
  rw [ttake_at h, joinO_snoc, if_neg (fun e => by have := congrArg List.length e; rw [List.length_take] at this; simp only [List.length_nil] at this; omega)]
  rw [← hq, ← hS]
  simp only [ByteArray.data_append, Array.toList_append, List.append_assoc]
  rfl

set_option maxRecDepth 100000 in
set_option maxHeartbeats 4000000 in
theorem rjoin_any (A : Option Addr) (n cap : Nat) (l : List Tk) (w : World) (hn : n ≤ 1000) (hv : Toks w w.heap.size A n l) (hs : ShortT l) :
    Calls Tryz.prog 7 #[.slice A n cap] w fun e w' => e = .returned (.tuple #[.string (joinS l), .bool (joinOk l)]) ∧ Below w.heap.size w w' := by
  have HV := Lib.hid hv
  have HL := Lib.hid hv.1
  have HS := Lib.hid hs
  have q1 : (⟨#[32]⟩ : ByteArray).size = 1 := rfl
  clear hv hs
  go_enter Tryz.func7, Tryz.ntmps7
  go_wp2
  go_loopw [4, 5] (fun sv i wr => ∃ (k : Nat) (S : ByteArray), k ≤ n ∧ i = .int .i64 k ∧ sv = .string S ∧ S.size ≤ 101 * k ∧ Below w.heap.size w wr ∧ Hid (S.data.toList = joinO (l.take k) ∧ (l.take k).all Tk.may = true)) (fun _ i _ => n - (intOf i).toNat)
  case atStart => exact ⟨0, ⟨#[]⟩, by omega, rfl, rfl, by decide, Below.refl _ _, (show _ ∧ _ from ⟨by simp [joinO], by simp⟩)⟩
  case round =>
    obtain ⟨k, S, hk, rfl, rfl, hSz, hb, HJ⟩ := hrel
    have hbs := hb.size
    by_cases hlt : k < n
    · skip
      obtain ⟨a, x, rfl, hx, hA, hB⟩ := HV.out.at_ hlt
      have hxs := HS.out x (List.mem_of_getElem? hx)
      obtain ⟨xk, xs, xe⟩ : ∃ k s, x.k = k ∧ (⟨x.s.toArray⟩ : ByteArray) = s := ⟨_, _, rfl, rfl⟩
      have hA' := hA.keep hb (by rw [add_blk]; exact hB)
      have HA : Hid (TkAt wr (a.add (k * 2)) x ∧ (a.add (k * 2)).block < wr.heap.size) := ⟨hA', by rw [add_blk]; omega⟩
      have ck := hA'.k
      have cs := hA'.s
      rw [xe.1] at ck
      rw [xe.2] at cs hxs
      have HX := Lib.hid hx
      have HE := Lib.hid xe
      clear hx hA hA' xe
      cases hm : x.may with
      | false =>
        have HM := Lib.hid (fun (W : World) => (show Calls Tryz.prog 19 #[.agg #[.int .i64 xk, .string xs]] W fun e w' => e = .returned (.bool false) ∧ Below W.heap.size W w' from by
          have := rtmay_any xk xs W hxs
          have e : tmayB xk xs = false := by rw [← HE.out.1, ← HE.out.2]; exact hm
          rwa [e] at this))
        have HR := Lib.hid (join_not HX.out hm)
        clear hm
        go_wp2_with (go_at_call 19; refine (HM.out _).mono ?_; rintro e w1 ⟨rfl, hb1⟩; have hv1 := HA.out.1.keep hb1 HA.out.2; have d1 := hv1.k; have d2 := hv1.s; rw [HE.out.1] at d1; rw [HE.out.2] at d2; clear hv1; have hy1 := hb1.size)
        go_ret2
        exact ⟨ret_jn HR.out.1 HR.out.2, hb.trans (hb1.mono hbs)⟩
      | true =>
        have HM := Lib.hid (fun (W : World) => (show Calls Tryz.prog 19 #[.agg #[.int .i64 xk, .string xs]] W fun e w' => e = .returned (.bool true) ∧ Below W.heap.size W w' from by
          have := rtmay_any xk xs W hxs
          have e : tmayB xk xs = true := by rw [← HE.out.1, ← HE.out.2]; exact hm
          rwa [e] at this))
        have HAL := Lib.hid (all_snoc HX.out hm HJ.out.2)
        have hql := tkO_len hm
        have hq0 : tkW xk xs = tkO x := by rw [← HE.out.1, ← HE.out.2]; exact tkW_may hm
        clear hm
        by_cases hk0 : k = 0
        · have HN0 := Lib.hid (show ∀ q : ByteArray, q.data.toList = tkO x → (S ++ q).data.toList = joinO (l.take (k + 1)) from by
            have h1 := HX.out
            have h2 := HJ.out.1
            rw [hk0] at h1 h2 ⊢
            exact fun q hq => join_first h1 h2 hq)
          have hkz : ¬ (0 : Int) < (k : Int) := by omega
          clear hk0
          by_cases h3 : xk = 3
          · skip
            obtain rfl := h3
            obtain ⟨q, hq⟩ : ∃ q : ByteArray, q = ⟨(txtO 2 0 xs).toArray⟩ := ⟨_, rfl⟩
            have hqd : q.data.toList = tkO x := by rw [← hq0, hq]; simp [tkW]
            have HT := Lib.hid (fun (W : World) => hq ▸ rtext_any 2 0 xs W in64_0 (by unfold maxLen; omega))
            have HQ := Lib.hid hqd
            have hqs : q.size ≤ 100 := by rw [Lib.size_eq, hqd]; exact hql
            clear hq hqd hq0
            go_wp2_with (first | (go_at_call 19; refine (HM.out _).mono ?_; rintro e w1 ⟨rfl, hb1⟩; have hv1 := HA.out.1.keep hb1 HA.out.2; have d1 := hv1.k; have d2 := hv1.s; rw [HE.out.1] at d1; rw [HE.out.2] at d2; clear hv1; have hy1 := hb1.size) | (go_at_call 20; refine (HT.out _).mono ?_; rintro e w2 ⟨rfl, hb2⟩))
            go_roundw
            case rel => exact ⟨k + 1, S ++ q, by omega, by go_num, rfl, by simp only [ByteArray.size_append, q1]; omega, hb.trans ((hb1.trans (hb2.mono hy1)).mono hbs), (show _ ∧ _ from ⟨HN0.out _ HQ.out, HAL.out⟩)⟩
            case measure => simp [intOf]; omega
          · skip
            have hqd : xs.data.toList = tkO x := by rw [← hq0]; simp [tkW, h3]
            have HQ := Lib.hid hqd
            have hqs : xs.size ≤ 100 := by rw [Lib.size_eq, hqd]; exact hql
            clear hqd hq0
            go_wp2_with (go_at_call 19; refine (HM.out _).mono ?_; rintro e w1 ⟨rfl, hb1⟩; have hv1 := HA.out.1.keep hb1 HA.out.2; have d1 := hv1.k; have d2 := hv1.s; rw [HE.out.1] at d1; rw [HE.out.2] at d2; clear hv1; have hy1 := hb1.size)
            go_roundw
            case rel => exact ⟨k + 1, S ++ xs, by omega, by go_num, rfl, by simp only [ByteArray.size_append, q1]; omega, hb.trans (hb1.mono hbs), (show _ ∧ _ from ⟨HN0.out _ HQ.out, HAL.out⟩)⟩
            case measure => simp [intOf]; omega
        · have HN1 := Lib.hid (show ∀ q : ByteArray, q.data.toList = tkO x → ((S ++ (⟨#[32]⟩ : ByteArray)) ++ q).data.toList = joinO (l.take (k + 1)) from fun q hq => join_next hk0 HX.out HJ.out.1 hq)
          have hkp : (0 : Int) < (k : Int) := by omega
          by_cases h3 : xk = 3
          · skip
            obtain rfl := h3
            obtain ⟨q, hq⟩ : ∃ q : ByteArray, q = ⟨(txtO 2 0 xs).toArray⟩ := ⟨_, rfl⟩
            have hqd : q.data.toList = tkO x := by rw [← hq0, hq]; simp [tkW]
            have HT := Lib.hid (fun (W : World) => hq ▸ rtext_any 2 0 xs W in64_0 (by unfold maxLen; omega))
            have HQ := Lib.hid hqd
            have hqs : q.size ≤ 100 := by rw [Lib.size_eq, hqd]; exact hql
            clear hq hqd hq0
            go_wp2_with (first | (go_at_call 19; refine (HM.out _).mono ?_; rintro e w1 ⟨rfl, hb1⟩; have hv1 := HA.out.1.keep hb1 HA.out.2; have d1 := hv1.k; have d2 := hv1.s; rw [HE.out.1] at d1; rw [HE.out.2] at d2; clear hv1; have hy1 := hb1.size) | (go_at_call 20; refine (HT.out _).mono ?_; rintro e w2 ⟨rfl, hb2⟩))
            go_roundw
            case rel => exact ⟨k + 1, (S ++ (⟨#[32]⟩ : ByteArray)) ++ q, by omega, by go_num, rfl, by simp only [ByteArray.size_append, q1]; omega, hb.trans ((hb1.trans (hb2.mono hy1)).mono hbs), (show _ ∧ _ from ⟨HN1.out _ HQ.out, HAL.out⟩)⟩
            case measure => simp [intOf]; omega
          · skip
            have hqd : xs.data.toList = tkO x := by rw [← hq0]; simp [tkW, h3]
            have HQ := Lib.hid hqd
            have hqs : xs.size ≤ 100 := by rw [Lib.size_eq, hqd]; exact hql
            clear hqd hq0
            go_wp2_with (go_at_call 19; refine (HM.out _).mono ?_; rintro e w1 ⟨rfl, hb1⟩; have hv1 := HA.out.1.keep hb1 HA.out.2; have d1 := hv1.k; have d2 := hv1.s; rw [HE.out.1] at d1; rw [HE.out.2] at d2; clear hv1; have hy1 := hb1.size)
            go_roundw
            case rel => exact ⟨k + 1, (S ++ (⟨#[32]⟩ : ByteArray)) ++ xs, by omega, by go_num, rfl, by simp only [ByteArray.size_append, q1]; omega, hb.trans (hb1.mono hbs), (show _ ∧ _ from ⟨HN1.out _ HQ.out, HAL.out⟩)⟩
            case measure => simp [intOf]; omega
    · have hkn : ¬ (k : Int) < (n : Int) := by omega
      have hE : l.take k = l := List.take_of_length_le (by have := HL.out; omega)
      by_cases h4 : n ≤ 400
      · have h4' : ¬ (400 : Int) < (n : Int) := by omega
        have HR := Lib.hid (join_is (hE ▸ HJ.out.1) (hE ▸ HJ.out.2) (by have := HL.out; omega))
        clear hE
        go_wp2
        go_ret2
        exact ⟨ret_jn HR.out.1 HR.out.2, hb⟩
      · have h4' : (400 : Int) < (n : Int) := by omega
        have HR := Lib.hid (join_not4 (l := l) (by have := HL.out; omega))
        clear hE
        go_wp2
        go_ret2
        exact ⟨ret_jn HR.out.1 HR.out.2, hb⟩
end Go.Proofs.YtnahejljelbbgaaGreatDoor

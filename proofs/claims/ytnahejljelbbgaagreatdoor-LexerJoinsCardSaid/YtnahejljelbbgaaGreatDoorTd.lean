import Derived.Test.YtnahejljelbbgaaGreatDoorTb
import Derived.Laws.BytesArg
import Derived.Laws.OwnMore
import Derived.Deep.LoopGhost
import Derived.Lib.ItoaLen
import Derived.Lib.ItoaMem
/- The document's own text of a value: digits, Text. -/
namespace Go.Proofs.YtnahejljelbbgaaGreatDoor
open Go.RowKit Go.Lib

theorem bs_eq {a : ByteArray} {l : List UInt8} (h : a.data.toList = l) : a = ⟨l.toArray⟩ := by
  subst h
  exact ByteArray.ext (by simp)
theorem ret_bs {a : ByteArray} {l : List UInt8} (h : a.data.toList = l) : Ending.returned (.string a) = .returned (.string ⟨l.toArray⟩) := by rw [bs_eq h]
/-- A slice of one octet that has just been written is turned into its string. -/
theorem conv_one (W : World) (x : Int) (h0 : 0 ≤ x) (h1 : x < 256) (g : Nat) (hg : g = W.heap.size) : (convert 41 9 (.slice (some ⟨g, 0, none⟩) 1 1)).run Tryz.prog (W.alloc (.cells #[.int .u8 x] 5)) = .ok (.string ⟨#[UInt8.ofNat x.toNat]⟩) (W.alloc (.cells #[.int .u8 x] 5)) := by
  subst hg
  have := run_convert_bytes_arg (P := Tryz.prog) (W.alloc (.cells #[.int .u8 x] 5)) 41 5 Tryz.underlying41 Tryz.underlying5 W.heap.size 0 1 1 [x] rfl (fun i hi => by
    obtain rfl : i = 0 := by omega
    simp [go_sem]) 9 Tryz.underlying9
  exact this
theorem u8_add (j : Nat) : UInt8.ofNat (48 + j % 10) = 48 + UInt8.ofNat (j % 10) := by rw [UInt8.ofNat_add]; rfl
theorem neg_mod (j : Nat) : (-(j : Int)).tmod 10 = -((j % 10 : Nat) : Int) := by rw [Int.neg_tmod]; congr 1
theorem neg_div (j : Nat) : (-(j : Int)).tdiv 10 = -((j / 10 : Nat) : Int) := by rw [Int.neg_tdiv]; congr 1
theorem dec_small {j : Nat} (h : j < 10) : decDigits j = [UInt8.ofNat (48 + j % 10)] := by rw [decDigits, dif_pos h, Nat.mod_eq_of_lt h]
theorem dec_big {j : Nat} (h : ¬ j < 10) : decDigits j = decDigits (j / 10) ++ [UInt8.ofNat (48 + j % 10)] := by rw [decDigits, dif_neg h]

set_option maxRecDepth 100000 in
set_option maxHeartbeats 800000 in
theorem digits_any (m : Nat) (w : World) (hm : (m : Int) ≤ 9223372036854775808) :
    Calls Tryz.prog 34 #[.int .i64 (-(m : Int))] w fun e w' => e = .returned (.string ⟨(decDigits m).toArray⟩) ∧ Below w.heap.size w w' := by
  have HD := Lib.hid (show (decDigits m).length ≤ 21 by
    have := itoa_length_le (-(m : Int)) (by omega) (by omega)
    by_cases h : m = 0
    · subst h; rw [decDigits, dif_pos (by omega)]; simp
    · rw [itoa_neg m (by omega)] at this
      simp at this
      omega)
  go_enter Tryz.func34, Tryz.ntmps34
  go_wp2
  go_loopg [0, 3] (m + 3) (fun q n t wr => ∃ (j : Nat) (S : ByteArray), n = .int .i64 (-(j : Int)) ∧ t = .string S ∧ j ≤ m ∧ Below w.heap.size w wr ∧ ((0 < q ∧ Hid (S.toList ≠ [] ∧ decDigits m = S.data.toList) ∧ j = 0) ∨ (j + 1 < q ∧ Hid ((0 < j ∨ S.toList = []) ∧ decDigits m = decDigits j ++ S.data.toList))))
  case atStart => exact ⟨m, ⟨#[]⟩, rfl, rfl, by omega, Below.refl _ _, .inr ⟨by omega, .inr nilBytes, by simp⟩⟩
  case round =>
    obtain ⟨j, S, rfl, rfl, hj, hb, ⟨hq, HS, rfl⟩ | ⟨hq, HS⟩⟩ := hrel
    · have hne := HS.out.1
      have hne2 : S.toList.isEmpty = false := by
        cases h : S.toList.isEmpty with
        | false => rfl
        | true => exact absurd (List.isEmpty_iff.1 h) hne
      go_wp2
      go_ret
      exact ⟨ret_bs HS.out.2.symm, hb⟩
    · have hS21 : S.size ≤ 21 := by
        have h := congrArg List.length HS.out.2
        rw [List.length_append] at h
        have h' := HD.out
        simp at h
        omega
      have cvx := fun (W : World) => conv_one W (48 + (j : Int) % 10) (by omega) (by omega)
      have h1 := neg_mod j
      have h2 := neg_div j
      have hbs := hb.size
      by_cases hj0 : 0 < j
      · have hlt : -(j : Int) < 0 := by omega
        go_wp2
        go_roundg (if j < 10 then 1 else j / 10 + 2)
        case rel =>
          refine ⟨j / 10, _, ?_, rfl, by omega, hb.alloc hbs _, ?_⟩
          · exact congrArg (Value.int .i64) (by omega)
          · have e := HS.out.2
            by_cases h10 : j < 10
            · rw [if_pos h10]
              refine .inl ⟨by omega, ⟨?_, ?_⟩, by omega⟩
              · rw [toList_data]; simp
              · rw [e, dec_small h10, u8_add]; simp
            · rw [if_neg h10]
              refine .inr ⟨by omega, .inl (by omega), ?_⟩
              rw [e, dec_big h10, u8_add]; simp
        case measure => split <;> omega
      · obtain rfl : j = 0 := by omega
        have hnil : S = ⟨#[]⟩ := bs_nil (by
          rcases HS.out.1 with h | h
          · omega
          · rwa [toList_data] at h)
        subst hnil
        clear cvx
        have cv48 := fun (W : World) => conv_one W 48 (by omega) (by omega)
        go_wp2
        go_roundg 1
        case rel =>
          refine ⟨0, _, rfl, rfl, by omega, hb.alloc hbs _, .inl ⟨by omega, ⟨?_, ?_⟩, rfl⟩⟩
          · rw [toList_data]; simp
          · have e := HS.out.2
            rw [e, dec_small (by omega)]; simp
        case measure => omega
end Go.Proofs.YtnahejljelbbgaaGreatDoor

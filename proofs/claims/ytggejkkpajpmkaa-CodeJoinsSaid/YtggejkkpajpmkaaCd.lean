import Derived.Test.YtggejkkpajpmkaaCc
/- The document's own octets of a value. -/
namespace Go.Proofs.Ytggejkkpajpmkaa
open Go.RowKit Go.Lib

theorem bs_eq {a : ByteArray} {l : List UInt8} (h : a.data.toList = l) : a = ⟨l.toArray⟩ := by
  subst h
  exact ByteArray.ext (by simp)
theorem ret_bs {a : ByteArray} {l : List UInt8} (h : a.data.toList = l) : Ending.returned (.string a) = .returned (.string ⟨l.toArray⟩) := by rw [bs_eq h]
theorem quo_256 {x : Int} (h0 : 0 ≤ x) (h1 : x < 18446744073709551616) : IntKind.u64.wrap (x.tdiv 256) = x / 256 := by
  rw [Int.tdiv_eq_ediv_of_nonneg h0]
  simp only [IntKind.wrap, IntKind.signed, IntKind.bits]
  simp
  omega
/-- A slice of one octet that has just been written is turned into its string. -/
theorem conv_one (W : World) (x : Int) (h0 : 0 ≤ x) (h1 : x < 256) (g : Nat) (hg : g = W.heap.size) : (convert 47 9 (.slice (some ⟨g, 0, none⟩) 1 1)).run Try.prog (W.alloc (.cells #[.int .u8 x] 5)) = .ok (.string ⟨#[UInt8.ofNat x.toNat]⟩) (W.alloc (.cells #[.int .u8 x] 5)) :=
  Oct.conv (B := 0) (Oct.lit (b := UInt8.ofNat x.toNat) hg (by omega) (by rw [UInt8.toNat_ofNat']; omega)) (by simp)

set_option maxRecDepth 100000 in
set_option maxHeartbeats 4000000 in
theorem rvalue_f (k i : Int) (s : ByteArray) (w : World) (hi : In64 i) (hs : s.size ≤ maxLen) (hm : mayB k i s = false) :
    Calls Try.prog 13 #[.agg #[.int .i64 k, .int .i64 i, .string s]] w fun e w' => e = .returned (.string ⟨([0]).toArray⟩) ∧ Below w.heap.size w w' := by
  have HM := Lib.hid (And.intro hm hs)
  have HI := Lib.hid hi
  clear hm hi hs
  go_enter Try.func13, Try.ntmps13
  go_wp2_with (go_at_call 23; refine ((rmay_any _ _ _ _ HM.out.2).mono (fun _ _ h => (HM.out.1 ▸ h : _ = Ending.returned (.bool false) ∧ _))).mono ?_; rintro e w1 ⟨rfl, hb1⟩; have hc1 := (bcell hb1).1; have hf1 := (bcell hb1).2; have hy1 := hb1.size; (try simp at hy1); have hz1_0 : w.heap.size < w1.heap.size := (by omega))
  go_ret
  refine ⟨rfl, ?_⟩
  repeat (first | (with_reducible exact Below.refl _ _) | ((with_reducible refine cSet3 ?_ ?_ _ _ _); (· ((try simp) <;> omega))) | (with_reducible refine Below.drew ?_) | ((with_reducible refine cAlloc ?_ ?_ _); (· ((try simp) <;> omega))) | ((with_reducible refine cOn (by assumption) ?_ ?_); (· ((try simp) <;> omega))))

set_option maxRecDepth 100000 in
set_option maxHeartbeats 4000000 in
theorem rvalue_0 (k i : Int) (s : ByteArray) (w : World) (hi : In64 i) (hs : s.size ≤ maxLen) (hm : mayB k i s = true) (hk : k = 0) :
    Calls Try.prog 13 #[.agg #[.int .i64 k, .int .i64 i, .string s]] w fun e w' => e = .returned (.string ⟨([0]).toArray⟩) ∧ Below w.heap.size w w' := by
  have HM := Lib.hid (And.intro hm hs)
  have HI := Lib.hid hi
  clear hm hi hs
  subst hk
  have cv0 := fun (W : World) => conv_one W 0 (by omega) (by omega)
  go_enter Try.func13, Try.ntmps13
  go_wp2_with (go_at_call 23; refine ((rmay_any _ _ _ _ HM.out.2).mono (fun _ _ h => (HM.out.1 ▸ h : _ = Ending.returned (.bool true) ∧ _))).mono ?_; rintro e w1 ⟨rfl, hb1⟩; have hc1 := (bcell hb1).1; have hf1 := (bcell hb1).2; have hy1 := hb1.size; (try simp at hy1); have hz1_0 : w.heap.size < w1.heap.size := (by omega))
  go_ret
  refine ⟨ret_bs rfl, ?_⟩
  repeat (first | (with_reducible exact Below.refl _ _) | ((with_reducible refine cSet3 ?_ ?_ _ _ _); (· ((try simp) <;> omega))) | (with_reducible refine Below.drew ?_) | ((with_reducible refine cAlloc ?_ ?_ _); (· ((try simp) <;> omega))) | ((with_reducible refine cOn (by assumption) ?_ ?_); (· ((try simp) <;> omega))))

set_option maxRecDepth 100000 in
set_option maxHeartbeats 4000000 in
theorem rvalue_2 (k i : Int) (s : ByteArray) (w : World) (hi : In64 i) (hs : s.size ≤ maxLen) (hm : mayB k i s = true) (hk : k = 2) (hz : s.size ≤ 40) :
    Calls Try.prog 13 #[.agg #[.int .i64 k, .int .i64 i, .string s]] w fun e w' => e = .returned (.string ⟨([2] ++ s.data.toList ++ [0]).toArray⟩) ∧ Below w.heap.size w w' := by
  have HM := Lib.hid (And.intro hm hs)
  have HI := Lib.hid hi
  clear hm hi hs
  subst hk
  have cv2 := fun (W : World) => conv_one W 2 (by omega) (by omega)
  go_enter Try.func13, Try.ntmps13
  go_wp2_with (go_at_call 23; refine ((rmay_any _ _ _ _ HM.out.2).mono (fun _ _ h => (HM.out.1 ▸ h : _ = Ending.returned (.bool true) ∧ _))).mono ?_; rintro e w1 ⟨rfl, hb1⟩; have hc1 := (bcell hb1).1; have hf1 := (bcell hb1).2; have hy1 := hb1.size; (try simp at hy1); have hz1_0 : w.heap.size < w1.heap.size := (by omega))
  go_ret
  refine ⟨ret_bs (by simp), ?_⟩
  repeat (first | (with_reducible exact Below.refl _ _) | ((with_reducible refine cSet3 ?_ ?_ _ _ _); (· ((try simp) <;> omega))) | (with_reducible refine Below.drew ?_) | ((with_reducible refine cAlloc ?_ ?_ _); (· ((try simp) <;> omega))) | ((with_reducible refine cOn (by assumption) ?_ ?_); (· ((try simp) <;> omega))))

set_option maxRecDepth 100000 in
set_option maxHeartbeats 4000000 in
theorem rvalue_3 (k i : Int) (s : ByteArray) (w : World) (hi : In64 i) (hs : s.size ≤ maxLen) (hm : mayB k i s = true) (hk : k = 3) (h0 : 0 ≤ i) (h1 : i ≤ 1) :
    Calls Try.prog 13 #[.agg #[.int .i64 k, .int .i64 i, .string s]] w fun e w' => e = .returned (.string ⟨([3] ++ [UInt8.ofNat i.toNat]).toArray⟩) ∧ Below w.heap.size w w' := by
  have HM := Lib.hid (And.intro hm hs)
  have HI := Lib.hid hi
  clear hm hi hs
  subst hk
  have cv3 := fun (W : World) => conv_one W 3 (by omega) (by omega)
  have cvi := fun (W : World) => conv_one W i (by omega) (by omega)
  go_enter Try.func13, Try.ntmps13
  go_wp2_with (go_at_call 23; refine ((rmay_any _ _ _ _ HM.out.2).mono (fun _ _ h => (HM.out.1 ▸ h : _ = Ending.returned (.bool true) ∧ _))).mono ?_; rintro e w1 ⟨rfl, hb1⟩; have hc1 := (bcell hb1).1; have hf1 := (bcell hb1).2; have hy1 := hb1.size; (try simp at hy1); have hz1_0 : w.heap.size < w1.heap.size := (by omega))
  go_ret
  refine ⟨ret_bs (by simp), ?_⟩
  repeat (first | (with_reducible exact Below.refl _ _) | ((with_reducible refine cSet3 ?_ ?_ _ _ _); (· ((try simp) <;> omega))) | (with_reducible refine Below.drew ?_) | ((with_reducible refine cAlloc ?_ ?_ _); (· ((try simp) <;> omega))) | ((with_reducible refine cOn (by assumption) ?_ ?_); (· ((try simp) <;> omega))))

set_option maxRecDepth 100000 in
set_option maxHeartbeats 4000000 in
theorem rvalue_1 (k i : Int) (s : ByteArray) (w : World) (hi : In64 i) (hs : s.size ≤ maxLen) (hm : mayB k i s = true) (hk : k = 1) :
    Calls Try.prog 13 #[.agg #[.int .i64 k, .int .i64 i, .string s]] w fun e w' => e = .returned (.string ⟨([1] ++ be8 (i + 9223372036854775808)).toArray⟩) ∧ Below w.heap.size w w' := by
  have HM := Lib.hid (And.intro hm hs)
  have HI := Lib.hid hi
  clear hm hi hs
  subst hk
  have cv1 := fun (W : World) => conv_one W 1 (by omega) (by omega)
  have h1 : 0 ≤ i + 9223372036854775808 := by have := HI.out.1; omega
  have hU := wrap_top HI.out
  obtain ⟨U, hUe⟩ : ∃ U, U = i + 9223372036854775808 := ⟨_, rfl⟩
  have h2 : U < 18446744073709551616 := by have := HI.out.2; omega
  rw [← hUe] at hU h1 ⊢
  have HE := Lib.hid (And.intro hUe h2)
  clear hUe h2
  go_enter Try.func13, Try.ntmps13
  go_wp2_with (go_at_call 23; refine ((rmay_any _ _ _ _ HM.out.2).mono (fun _ _ h => (HM.out.1 ▸ h : _ = Ending.returned (.bool true) ∧ _))).mono ?_; rintro e w1 ⟨rfl, hb1⟩; have hc1 := (bcell hb1).1; have hf1 := (bcell hb1).2; have hy1 := hb1.size; (try simp at hy1); have hz1_0 : w.heap.size < w1.heap.size := (by omega))
  go_loopw [4, 5, 6] (fun u t i wr => ∃ (n : Nat) (S : ByteArray), n ≤ 8 ∧ i = .int .i64 n ∧ u = .int .u64 (U / (256 ^ n : Nat)) ∧ t = .string S ∧ S.data.toList = (be8 U).drop (8 - n) ∧ Below w.heap.size w wr) (fun _ _ i _ => 8 - (intOf i).toNat)
  case atStart => exact ⟨0, ⟨#[]⟩, by omega, rfl, by simp, rfl, by simp [be8], by repeat (first | (with_reducible exact Below.refl _ _) | ((with_reducible refine cSet3 ?_ ?_ _ _ _); (· ((try simp) <;> omega))) | (with_reducible refine Below.drew ?_) | ((with_reducible refine cAlloc ?_ ?_ _); (· ((try simp) <;> omega))) | ((with_reducible refine cOn (by assumption) ?_ ?_); (· ((try simp) <;> omega))))⟩
  case round =>
    obtain ⟨n, S, hn, rfl, rfl, rfl, hS, hb⟩ := hrel
    have hS8 : S.size ≤ 8 := by have h := congrArg List.length hS; simp [be8] at h; omega
    have HS := Lib.hid hS
    clear hS
    have hsz := hb.size
    have hcase : n = 0 ∨ n = 1 ∨ n = 2 ∨ n = 3 ∨ n = 4 ∨ n = 5 ∨ n = 6 ∨ n = 7 ∨ n = 8 := by omega
    clear hn
    rcases hcase with rfl | rfl | rfl | rfl | rfl | rfl | rfl | rfl | rfl
    · have cvx := fun (W : World) => conv_one W (U % 256) (by omega) (by omega)
      have hq : 0 ≤ U / 1 := by omega
      have he : (U / ((256 ^ 0 : Nat) : Int)) = U := by first | rfl | simp
      rw [he]
      clear he
      go_wp2
      go_roundw
      case rel =>
        refine ⟨1, _, by omega, by go_num, ?_, rfl, ?_, ?_⟩
        · exact congrArg (Value.int .u64) (by have hb2 := HE.out.2; rw [quo_256 (by omega) (by omega)]; show _ = U / (256 : Int); omega)
        · have h := HS.out
          simp [be8] at h
          simp [be8, h, octD]
        · repeat (first | (with_reducible exact Below.refl _ _) | ((with_reducible refine cSet3 ?_ ?_ _ _ _); (· ((try simp) <;> omega))) | (with_reducible refine Below.drew ?_) | ((with_reducible refine cAlloc ?_ ?_ _); (· ((try simp) <;> omega))) | ((with_reducible refine cOn (by assumption) ?_ ?_); (· ((try simp) <;> omega))))
      case measure => simp [intOf]
    · have cvx := fun (W : World) => conv_one W (U / 256 % 256) (by omega) (by omega)
      have hq : 0 ≤ U / 256 := by omega
      have he : (U / ((256 ^ 1 : Nat) : Int)) = U / 256 := by first | rfl | simp
      rw [he]
      clear he
      go_wp2
      go_roundw
      case rel =>
        refine ⟨2, _, by omega, by go_num, ?_, rfl, ?_, ?_⟩
        · exact congrArg (Value.int .u64) (by have hb2 := HE.out.2; rw [quo_256 (by omega) (by omega)]; show _ = U / (65536 : Int); omega)
        · have h := HS.out
          simp [be8] at h
          simp [be8, h, octD]
        · repeat (first | (with_reducible exact Below.refl _ _) | ((with_reducible refine cSet3 ?_ ?_ _ _ _); (· ((try simp) <;> omega))) | (with_reducible refine Below.drew ?_) | ((with_reducible refine cAlloc ?_ ?_ _); (· ((try simp) <;> omega))) | ((with_reducible refine cOn (by assumption) ?_ ?_); (· ((try simp) <;> omega))))
      case measure => simp [intOf]
    · have cvx := fun (W : World) => conv_one W (U / 65536 % 256) (by omega) (by omega)
      have hq : 0 ≤ U / 65536 := by omega
      have he : (U / ((256 ^ 2 : Nat) : Int)) = U / 65536 := by first | rfl | simp
      rw [he]
      clear he
      go_wp2
      go_roundw
      case rel =>
        refine ⟨3, _, by omega, by go_num, ?_, rfl, ?_, ?_⟩
        · exact congrArg (Value.int .u64) (by have hb2 := HE.out.2; rw [quo_256 (by omega) (by omega)]; show _ = U / (16777216 : Int); omega)
        · have h := HS.out
          simp [be8] at h
          simp [be8, h, octD]
        · repeat (first | (with_reducible exact Below.refl _ _) | ((with_reducible refine cSet3 ?_ ?_ _ _ _); (· ((try simp) <;> omega))) | (with_reducible refine Below.drew ?_) | ((with_reducible refine cAlloc ?_ ?_ _); (· ((try simp) <;> omega))) | ((with_reducible refine cOn (by assumption) ?_ ?_); (· ((try simp) <;> omega))))
      case measure => simp [intOf]
    · have cvx := fun (W : World) => conv_one W (U / 16777216 % 256) (by omega) (by omega)
      have hq : 0 ≤ U / 16777216 := by omega
      have he : (U / ((256 ^ 3 : Nat) : Int)) = U / 16777216 := by first | rfl | simp
      rw [he]
      clear he
      go_wp2
      go_roundw
      case rel =>
        refine ⟨4, _, by omega, by go_num, ?_, rfl, ?_, ?_⟩
        · exact congrArg (Value.int .u64) (by have hb2 := HE.out.2; rw [quo_256 (by omega) (by omega)]; show _ = U / (4294967296 : Int); omega)
        · have h := HS.out
          simp [be8] at h
          simp [be8, h, octD]
        · repeat (first | (with_reducible exact Below.refl _ _) | ((with_reducible refine cSet3 ?_ ?_ _ _ _); (· ((try simp) <;> omega))) | (with_reducible refine Below.drew ?_) | ((with_reducible refine cAlloc ?_ ?_ _); (· ((try simp) <;> omega))) | ((with_reducible refine cOn (by assumption) ?_ ?_); (· ((try simp) <;> omega))))
      case measure => simp [intOf]
    · have cvx := fun (W : World) => conv_one W (U / 4294967296 % 256) (by omega) (by omega)
      have hq : 0 ≤ U / 4294967296 := by omega
      have he : (U / ((256 ^ 4 : Nat) : Int)) = U / 4294967296 := by first | rfl | simp
      rw [he]
      clear he
      go_wp2
      go_roundw
      case rel =>
        refine ⟨5, _, by omega, by go_num, ?_, rfl, ?_, ?_⟩
        · exact congrArg (Value.int .u64) (by have hb2 := HE.out.2; rw [quo_256 (by omega) (by omega)]; show _ = U / (1099511627776 : Int); omega)
        · have h := HS.out
          simp [be8] at h
          simp [be8, h, octD]
        · repeat (first | (with_reducible exact Below.refl _ _) | ((with_reducible refine cSet3 ?_ ?_ _ _ _); (· ((try simp) <;> omega))) | (with_reducible refine Below.drew ?_) | ((with_reducible refine cAlloc ?_ ?_ _); (· ((try simp) <;> omega))) | ((with_reducible refine cOn (by assumption) ?_ ?_); (· ((try simp) <;> omega))))
      case measure => simp [intOf]
    · have cvx := fun (W : World) => conv_one W (U / 1099511627776 % 256) (by omega) (by omega)
      have hq : 0 ≤ U / 1099511627776 := by omega
      have he : (U / ((256 ^ 5 : Nat) : Int)) = U / 1099511627776 := by first | rfl | simp
      rw [he]
      clear he
      go_wp2
      go_roundw
      case rel =>
        refine ⟨6, _, by omega, by go_num, ?_, rfl, ?_, ?_⟩
        · exact congrArg (Value.int .u64) (by have hb2 := HE.out.2; rw [quo_256 (by omega) (by omega)]; show _ = U / (281474976710656 : Int); omega)
        · have h := HS.out
          simp [be8] at h
          simp [be8, h, octD]
        · repeat (first | (with_reducible exact Below.refl _ _) | ((with_reducible refine cSet3 ?_ ?_ _ _ _); (· ((try simp) <;> omega))) | (with_reducible refine Below.drew ?_) | ((with_reducible refine cAlloc ?_ ?_ _); (· ((try simp) <;> omega))) | ((with_reducible refine cOn (by assumption) ?_ ?_); (· ((try simp) <;> omega))))
      case measure => simp [intOf]
    · have cvx := fun (W : World) => conv_one W (U / 281474976710656 % 256) (by omega) (by omega)
      have hq : 0 ≤ U / 281474976710656 := by omega
      have he : (U / ((256 ^ 6 : Nat) : Int)) = U / 281474976710656 := by first | rfl | simp
      rw [he]
      clear he
      go_wp2
      go_roundw
      case rel =>
        refine ⟨7, _, by omega, by go_num, ?_, rfl, ?_, ?_⟩
        · exact congrArg (Value.int .u64) (by have hb2 := HE.out.2; rw [quo_256 (by omega) (by omega)]; show _ = U / (72057594037927936 : Int); omega)
        · have h := HS.out
          simp [be8] at h
          simp [be8, h, octD]
        · repeat (first | (with_reducible exact Below.refl _ _) | ((with_reducible refine cSet3 ?_ ?_ _ _ _); (· ((try simp) <;> omega))) | (with_reducible refine Below.drew ?_) | ((with_reducible refine cAlloc ?_ ?_ _); (· ((try simp) <;> omega))) | ((with_reducible refine cOn (by assumption) ?_ ?_); (· ((try simp) <;> omega))))
      case measure => simp [intOf]
    · have cvx := fun (W : World) => conv_one W (U / 72057594037927936 % 256) (by omega) (by omega)
      have hq : 0 ≤ U / 72057594037927936 := by omega
      have he : (U / ((256 ^ 7 : Nat) : Int)) = U / 72057594037927936 := by first | rfl | simp
      rw [he]
      clear he
      go_wp2
      go_roundw
      case rel =>
        refine ⟨8, _, by omega, by go_num, ?_, rfl, ?_, ?_⟩
        · exact congrArg (Value.int .u64) (by have hb2 := HE.out.2; rw [quo_256 (by omega) (by omega)]; show _ = U / (18446744073709551616 : Int); omega)
        · have h := HS.out
          simp [be8] at h
          simp [be8, h, octD]
        · repeat (first | (with_reducible exact Below.refl _ _) | ((with_reducible refine cSet3 ?_ ?_ _ _ _); (· ((try simp) <;> omega))) | (with_reducible refine Below.drew ?_) | ((with_reducible refine cAlloc ?_ ?_ _); (· ((try simp) <;> omega))) | ((with_reducible refine cOn (by assumption) ?_ ?_); (· ((try simp) <;> omega))))
      case measure => simp [intOf]
    · go_wp2
      go_ret
      refine ⟨ret_bs (by have h := HS.out; simp at h; simp [h]), hb⟩

theorem rvalue_any (k i : Int) (s : ByteArray) (w : World) (hi : In64 i) (hs : s.size ≤ maxLen) :
    Calls Try.prog 13 #[.agg #[.int .i64 k, .int .i64 i, .string s]] w fun e w' => e = .returned (.string ⟨(valO k i s).toArray⟩) ∧ Below w.heap.size w w' := by
  unfold valO
  cases hm : mayB k i s with
  | false => exact rvalue_f k i s w hi hs hm
  | true =>
    rw [if_pos rfl]
    have hm' := hm
    unfold mayB at hm'
    by_cases h1 : k = 1
    · rw [if_pos h1]; exact rvalue_1 k i s w hi hs hm h1
    · by_cases h2 : k = 2
      · rw [if_neg h1, if_pos h2]
        simp [h2] at hm'
        exact rvalue_2 k i s w hi hs hm h2 hm'.1.2
      · by_cases h3 : k = 3
        · rw [if_neg h1, if_neg h2, if_pos h3]
          simp [h3] at hm'
          exact rvalue_3 k i s w hi hs hm h3 (by omega) (by omega)
        · rw [if_neg h1, if_neg h2, if_neg h3]
          have h0 : k = 0 := Classical.byContradiction fun h0 => by simp [h0, h1, h2, h3] at hm'
          exact rvalue_0 k i s w hi hs hm h0
end Go.Proofs.Ytggejkkpajpmkaa

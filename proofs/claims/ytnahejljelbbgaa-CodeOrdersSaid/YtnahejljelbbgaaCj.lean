import Derived.Test.YtnahejljelbbgaaCi
import Derived.Laws.Bits64b
import Derived.Deep.LoopGhost
/- Reading octets: readTruth, readNumber, readText. -/
namespace Go.Proofs.Ytnahejljelbbgaa
open Go.RowKit Go.Lib

set_option maxRecDepth 100000 in
set_option maxHeartbeats 4000000 in
theorem readTruth_end (g : Nat) (s : ByteArray) (n : Nat) (w : World) (h : Rd w g s n) (hs : s.size ≤ 100000) (hn : n = s.size) :
    Calls Try.prog 29 #[NX g] w fun e w' => e = .returned (.tuple #[.int .i64 0, .bool false]) ∧ Rd w' g s n ∧ w.grownBy w' (some g) := by
  have H := Lib.hid h
  clear h
  unfold NX
  go_enter Try.func29, Try.ntmps29
  go_wp2_with (go_at_call 22; refine (next_end g s n _ H.out (by omega) hs).mono ?_; rintro e w1 ⟨rfl, hr1, hg1⟩)
  go_ret2
  exact ⟨rfl, hr1, hg1⟩

set_option maxRecDepth 100000 in
set_option maxHeartbeats 4000000 in
theorem readTruth_some (g : Nat) (s : ByteArray) (n : Nat) (w : World) (h : Rd w g s n) (hs : s.size ≤ 100000) (hn : n < s.size) :
    Calls Try.prog 29 #[NX g] w fun e w' => e = .returned (.tuple #[.int .i64 (s.get! n).toNat, .bool true]) ∧ Rd w' g s (n + 1) ∧ w.grownBy w' (some g) := by
  have H := Lib.hid h
  clear h
  unfold NX
  go_enter Try.func29, Try.ntmps29
  have hlo : (0 : Int) ≤ ((s.get! n).toNat : Int) := by omega
  have hhi : ((s.get! n).toNat : Int) < 256 := by have := UInt8.toNat_lt (s.get! n); omega
  go_wp2_with (go_at_call 22; refine (next_some g s n _ H.out (by omega) hs).mono ?_; rintro e w1 ⟨rfl, hr1, hg1⟩)
  go_ret2
  exact ⟨rfl, hr1, hg1⟩

/-- The number that k octets from n on say. -/
def numP (s : ByteArray) (n : Nat) : Nat → Int
  | 0 => 0
  | k + 1 => numP s n k * 256 + ((s.get! (n + k)).toNat : Int)
theorem numP_bd (s : ByteArray) (n : Nat) : ∀ k, 0 ≤ numP s n k ∧ numP s n k < (256 ^ k : Nat)
  | 0 => by simp [numP]
  | k + 1 => by
    obtain ⟨h1, h2⟩ := numP_bd s n k
    have := UInt8.toNat_lt (s.get! (n + k))
    have e : ((256 ^ (k + 1) : Nat) : Int) = (256 ^ k : Nat) * 256 := by rw [Nat.pow_succ]; simp
    unfold numP
    rw [e]
    omega

theorem top_back {x : Int} (h : 0 ≤ x ∧ x < (256 ^ 8 : Nat)) : wrap64 (IntKind.u64.wrap (x - 9223372036854775808)) = x - 9223372036854775808 := by
  obtain ⟨h1, h2⟩ := h
  have e : ((256 ^ 8 : Nat) : Int) = 18446744073709551616 := rfl
  rw [e] at h2
  simp only [wrap64, IntKind.wrap, IntKind.signed, IntKind.bits]
  simp
  omega
theorem ret2_ok {a b : Int} (h : a = b) : Ending.returned (.tuple #[.int .i64 a, .bool true]) = .returned (.tuple #[.int .i64 b, .bool true]) := by rw [h]
theorem or_step (x : Int) (o : Nat) {k : Nat} (h : 0 ≤ x ∧ x < (256 ^ k : Nat)) (hk : k ≤ 7) (ho : o < 256 := by exact UInt8.toNat_lt _) : bits BinOp.or IntKind.u64 (IntKind.u64.wrap (x * 256)) (IntKind.u64.wrap (o : Int)) = x * 256 + o := by
  obtain ⟨h1, h2⟩ := h
  obtain ⟨m, rfl⟩ := Int.eq_ofNat_of_zero_le h1
  have hp : (256 ^ k : Nat) ≤ 256 ^ 7 := Nat.pow_le_pow_right (by decide) hk
  have e7 : (256 ^ 7 : Nat) = 72057594037927936 := rfl
  have hm : m < 72057594037927936 := by omega
  have w1 : IntKind.u64.wrap ((m : Int) * 256) = ((m * 256 : Nat) : Int) := by
    simp only [IntKind.wrap, IntKind.signed, IntKind.bits]
    simp
    omega
  have w2 : IntKind.u64.wrap (o : Int) = ((o : Nat) : Int) := by
    simp only [IntKind.wrap, IntKind.signed, IntKind.bits]
    simp
    omega
  show bits BinOp.or IntKind.u64 (IntKind.u64.wrap ((m : Int) * 256)) (IntKind.u64.wrap (o : Int)) = (m : Int) * 256 + o
  rw [w1, w2, bits_or_u64_nat _ _ (by omega) (by omega)]
  have : m * 256 ||| o = m * 256 + o := by
    have := Nat.shiftLeft_add_eq_or_of_lt (i := 8) (b := o) (by omega) m
    simp only [Nat.shiftLeft_eq, show (2 : Nat) ^ 8 = 256 from rfl] at this
    omega
  rw [this]
  omega

set_option maxRecDepth 100000 in
set_option maxHeartbeats 4000000 in
theorem readNumber_any (g : Nat) (s : ByteArray) (n : Nat) (w : World) (h : Rd w g s n) (hs : s.size ≤ 100000) (hn0 : n ≤ s.size) :
    Calls Try.prog 27 #[NX g] w fun e w' =>  (n + 8 ≤ s.size → e = .returned (.tuple #[.int .i64 (numP s n 8 - 9223372036854775808), .bool true]) ∧ Rd w' g s (n + 8) ∧ w.grownBy w' (some g)) ∧ (s.size < n + 8 → e = .returned (.tuple #[.int .i64 0, .bool false]) ∧ w.grownBy w' (some g)) := by
  have H := Lib.hid h
  clear h
  unfold NX
  go_enter Try.func27, Try.ntmps27
  go_wp2
  go_loopw [4, 7] (fun u i wr => ∃ k : Nat, k ≤ 8 ∧ i = .int .i64 k ∧ u = .int .u64 (numP s n k) ∧ n + k ≤ s.size ∧ Rd wr g s (n + k) ∧ w.grownBy wr (some g)) (fun _ i _ => 8 - (intOf i).toNat)
  case atStart => exact ⟨0, by omega, rfl, rfl, hn0, H.out, grow_refl _ _⟩
  case round =>
    obtain ⟨k, hk, rfl, rfl, hnk, hr, hg⟩ := hrel
    have HR := Lib.hid (And.intro hr hg)
    clear hr hg
    by_cases hlt : k < 8
    · by_cases hsz : n + k < s.size
      · have hnb := numP_bd s n k
        have HB := Lib.hid hnb
        have hn1 := hnb.1
        clear hnb
        go_wp2_with (go_at_call 22; refine (next_some g s (n + k) _ HR.out.1 (by omega) hs).mono ?_; rintro e w1 ⟨rfl, hr1, hg1⟩)
        go_roundw
        case rel => exact ⟨k + 1, by omega, by go_num, by rw [or_step _ _ HB.out (by omega)]; rfl, by omega, hr1, grow_trans HR.out.2 hg1⟩
        case measure => simp [intOf]; omega
      · go_wp2_with (go_at_call 22; refine (next_end g s (n + k) _ HR.out.1 (by omega) hs).mono ?_; rintro e w1 ⟨rfl, hr1, hg1⟩)
        go_ret2
        exact ⟨fun h => by omega, fun _ => ⟨rfl, grow_trans HR.out.2 hg1⟩⟩
    · obtain rfl : k = 8 := by omega
      have HB := Lib.hid (numP_bd s n 8)
      go_wp2
      go_ret2
      exact ⟨fun _ => ⟨ret2_ok (top_back HB.out), HR.out.1, HR.out.2⟩, fun h => by omega⟩
/-- How many octets from n on stand ahead of a nought; none: all. -/
def noNul (s : ByteArray) (n k : Nat) : Prop := ∀ j, j < k → (s.get! (n + j)).toNat ≠ 0
theorem noNul_succ {s : ByteArray} {n k : Nat} (h : noNul s n k) (h0 : (s.get! (n + k)).toNat ≠ 0) : noNul s n (k + 1) := fun j hj => by
  by_cases e : j = k
  · rw [e]; exact h0
  · exact h j (by omega)
theorem drop_take_succ {s : ByteArray} {n k : Nat} (h : n + k < s.size) : (s.data.toList.drop n).take (k + 1) = (s.data.toList.drop n).take k ++ [s.get! (n + k)] := by
  rw [take_snoc' (x := s.get! (n + k))]
  rw [List.getElem?_drop, get_at s _ h]
  simp [List.getElem?_eq_getElem (show n + k < s.data.toList.length by simpa using h)]
  rfl
theorem ret2_str {a b : ByteArray} {q : Bool} (h : a = b) : Ending.returned (.tuple #[.string a, .bool q]) = .returned (.tuple #[.string b, .bool q]) := by rw [h]

theorem grow_app {w W W' : World} {g : Nat} {row : Option Nat} {o : Obj} (h : w.grownBy W (some g)) (hg : (W.alloc o).grownBy W' row) (hr : ∀ q, row = some q → w.heap.size ≤ q) : w.grownBy W' (some g) := by
  refine ⟨hg.os.trans h.os, hg.tape.trans h.tape, hg.output.trans h.output, Nat.le_trans h.size (Nat.le_trans (by simp) hg.size), fun i hi hne => ?_⟩
  have hi' : i < W.heap.size := Nat.lt_of_lt_of_le hi h.size
  exact (hg.block i (by simp; omega) (fun e => by have := hr i e.symm; omega)).trans ((Below.heap_alloc W o i hi').trans (h.block i hi hne))
theorem nul_uniq {s : ByteArray} {n k j : Nat} (h : noNul s n k) (h0 : (s.get! (n + k)).toNat = 0) (h' : noNul s n j) (h0' : (s.get! (n + j)).toNat = 0) : j = k := by
  rcases Nat.lt_trichotomy j k with h1 | h1 | h1
  · exact absurd h0' (h j h1)
  · exact h1
  · exact absurd h0 (h' k h1)
/-- What lies where the reader does not. -/
theorem Oct.keepG {W W' : World} {B g : Nat} {v : Value} {l : List UInt8} (h : Oct W B v l) (hg : W.grownBy W' (some g)) (hB : g < B) : Oct W' B v l :=
  World.ownsRow.kept (row := some g) h hg (by
    cases hv : v.ownBlock with
    | none => exact .inl rfl
    | some q => exact .inr fun e => by injection e with e; have := (World.ownsRow.lt h q hv).1; omega)
theorem Rd.keepG {W W' : World} {g n : Nat} {s : ByteArray} {row : Option Nat} {o : Obj} (h : Rd W g s n) (hg : (W.alloc o).grownBy W' row) (hne : row ≠ some g) : Rd W' g s n :=
  (hg.block g (by have := h.lt; simp; omega) (fun e => hne e.symm)).trans ((Below.heap_alloc W o g h.lt).trans h)
theorem Oct.conv0 {W : World} {B : Nat} {v : Value} {L : List UInt8} (h : Oct W B v L) : (convert 38 9 v).run Try.prog W = .ok (.string ⟨L.toArray⟩) W := by
  by_cases hne : L = []
  · subst hne
    rcases h.2 with ⟨rfl, _⟩ | ⟨g, cap, cur, rfl, _, _, _, _, _, _⟩
    · exact run_convert_bytes_nil (P := Try.prog) W 38 5 Try.underlying38 Try.underlying5 0 0 9 Try.underlying9
    · have := run_convert_bytes_arg (P := Try.prog) W 38 5 Try.underlying38 Try.underlying5 g 0 0 cap [] rfl (fun i hi => absurd hi (by omega)) 9 Try.underlying9
      exact this
  · exact h.conv hne

/-- What readText comes to. -/
def TextR (g : Nat) (s : ByteArray) (n : Nat) (w : World) (e : Ending) (w' : World) : Prop := (∀ k, noNul s n k → n + k < s.size → (s.get! (n + k)).toNat = 0 → e = .returned (.tuple #[.string ⟨((s.data.toList.drop n).take k).toArray⟩, .bool true]) ∧ Rd w' g s (n + k + 1) ∧ w.grownBy w' (some g)) ∧ (noNul s n (s.size - n) → e = .returned (.tuple #[.string ⟨#[]⟩, .bool false]) ∧ w.grownBy w' (some g))

set_option maxRecDepth 100000 in
set_option maxHeartbeats 4000000 in
theorem readText_end (g : Nat) (s : ByteArray) (n : Nat) (w : World) (h : Rd w g s n) (hs : s.size ≤ 100000) (hn : n = s.size) :
    Calls Try.prog 28 #[NX g] w fun e w' => TextR g s n w e w' := by
  have H := Lib.hid h
  clear h
  unfold NX
  go_enter Try.func28, Try.ntmps28
  go_wp2_with (go_at_call 22; refine (next_end g s n _ H.out (by omega) hs).mono ?_; rintro e w1 ⟨rfl, hr1, hg1⟩)
  go_loopg [4, 5, 6] 1 (fun q v o ok wr => wr = w1 ∧ ok = .bool false)
  case atStart => exact ⟨rfl, rfl⟩
  case round =>
    obtain ⟨rfl, rfl⟩ := hrel
    go_wp2
    go_ret2
    exact ⟨fun k _ hk _ => absurd hk (by omega), fun _ => ⟨rfl, hg1⟩⟩

set_option maxRecDepth 100000 in
set_option maxHeartbeats 4000000 in
theorem readText_some (g : Nat) (s : ByteArray) (n : Nat) (w : World) (h : Rd w g s n) (hs : s.size ≤ 100000) (hn : n < s.size) :
    Calls Try.prog 28 #[NX g] w fun e w' => TextR g s n w e w' := by
  have H := Lib.hid h
  clear h
  unfold NX
  obtain ⟨i0, hi, hz0, hz1, hz2⟩ := info_parts infoByte
  go_enter Try.func28, Try.ntmps28
  have hgw := H.out.lt
  go_wp2_with (go_at_call 22; refine (next_some g s n _ H.out (by omega) hs).mono ?_; rintro e w1 ⟨rfl, hr1, hg1⟩)
  go_loopg [4, 5, 6] (s.size - n + 1) (fun q v o ok wr => ∃ k : Nat, q + k = s.size - n + 1 ∧ noNul s n k ∧ Oct wr w.heap.size v ((s.data.toList.drop n).take k) ∧ w.grownBy wr (some g) ∧
    ((n + k < s.size ∧ o = .int .u8 (s.get! (n + k)).toNat ∧ ok = .bool true ∧ Rd wr g s (n + k + 1)) ∨ (n + k = s.size ∧ ok = .bool false)))
  case atStart => exact ⟨0, by omega, fun j hj => absurd hj (by omega), World.ownsRow_nil _ _ _ _, hg1, .inl ⟨by omega, rfl, rfl, hr1⟩⟩
  case round =>
    obtain ⟨k, hq, hnn, ho, hg, ⟨hk, rfl, rfl, hr⟩ | ⟨hk, rfl⟩⟩ := hrel
    · have HO := Lib.hid ho
      have HR := Lib.hid (And.intro hr (And.intro hg hnn))
      have hgs := hg.size
      clear hr ho hg hnn hr1 hg1
      by_cases h0 : (s.get! (n + k)).toNat = 0
      · have hb0 : (((s.get! (n + k)).toNat : Int) == 0) = true := by rw [h0]; rfl
        have H0 := Lib.hid h0
        clear h0
        have hcv := Oct.conv0 HO.out
        go_wp2
        go_ret2
        refine ⟨fun j hj hjs hj0 => ?_, fun hno => absurd H0.out (hno k (by omega))⟩
        obtain rfl := nul_uniq HR.out.2.2 H0.out hj hj0
        exact ⟨rfl, HR.out.1, HR.out.2.1⟩
      · have hb0 : (((s.get! (n + k)).toNat : Int) == 0) = false := beq_eq_false_iff_ne.2 (by omega)
        have H0 := Lib.hid h0
        clear h0
        go_wp2_with (at_builtin; refine wpList_append_own _ rfl _ _ 38 rfl w.heap.size 5 i0 (.int .u8 0) 1 1 Try.underlying38 hi hz0 hz1 hz2 rfl (by decide) _ _ _ rfl (World.ownsRow.alloc HO.out _) ⟨wr.heap.size, 0, none⟩ 1 1 [.int .u8 (s.get! (n + k)).toNat] rfl rfl ?c1 ?c2 ?c3 ?c4 ?c5 ?_)
        case c1 => exact one_cell
        case c2 => intro u hu; simp at hu; subst hu; rfl
        case c3 => unfold maxLen; simp; omega
        case c4 => simp; omega
        case c5 => simp; omega
        intro v' w2 hown' hgrow _
        have hlt2 := HO.out.lt
        have hr2 : Rd w2 g s (n + k + 1) := HR.out.1.keepG hgrow (fun e => by have := (hlt2 g e).1; omega)
        have hg2 : w.grownBy w2 (some g) := grow_app HR.out.2.1 hgrow (fun q hq => (hlt2 q hq).1)
        have ho2 : Oct w2 w.heap.size v' ((s.data.toList.drop n).take (k + 1)) := by rw [drop_take_succ hk]; exact Oct.snoc (x := ((s.get! (n + k)).toNat : Int)) (by simpa using hown') rfl
        have HR2 := Lib.hid (And.intro hr2 (And.intro hg2 ho2))
        clear hr2 hg2 ho2 hown' hgrow hlt2
        by_cases hk1 : n + k + 1 < s.size
        · go_wp2_with (go_at_call 22; refine (next_some g s (n + k + 1) _ HR2.out.1 (by omega) hs).mono ?_; rintro e w3 ⟨rfl, hr3, hg3⟩)
          go_roundg (s.size - n - k)
          case rel => exact ⟨k + 1, by omega, noNul_succ HR.out.2.2 H0.out, HR2.out.2.2.keepG hg3 hgw, grow_trans HR2.out.2.1 hg3, .inl ⟨by omega, rfl, rfl, hr3⟩⟩
          case measure => omega
        · go_wp2_with (go_at_call 22; refine (next_end g s (n + k + 1) _ HR2.out.1 (by omega) hs).mono ?_; rintro e w3 ⟨rfl, hr3, hg3⟩)
          go_roundg (s.size - n - k)
          case rel => exact ⟨k + 1, by omega, noNul_succ HR.out.2.2 H0.out, HR2.out.2.2.keepG hg3 hgw, grow_trans HR2.out.2.1 hg3, .inr ⟨by omega, rfl⟩⟩
          case measure => omega
    · have HR := Lib.hid (And.intro hg hnn)
      clear hg hnn ho hr1 hg1
      go_wp2
      go_ret2
      exact ⟨fun j hj hjs hj0 => absurd hj0 (HR.out.2 j (by omega)), fun _ => ⟨rfl, HR.out.1⟩⟩

theorem readText_any (g : Nat) (s : ByteArray) (n : Nat) (w : World) (h : Rd w g s n) (hs : s.size ≤ 100000) (hn : n ≤ s.size) :
    Calls Try.prog 28 #[NX g] w (TextR g s n w) := by
  by_cases h' : n < s.size
  · exact readText_some g s n w h hs h'
  · exact readText_end g s n w h hs (by omega)
end Go.Proofs.Ytnahejljelbbgaa

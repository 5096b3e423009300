import Derived.Test.YtggejkkpajpmkaaCm
import Derived.Lib.Strings
/- Reading a row: Read. -/
namespace Go.Proofs.Ytggejkkpajpmkaa
open Go.RowKit Go.Lib

theorem oct_pos (x : Vl) : 0 < x.oct.length := by
  unfold Vl.oct valO
  split
  · split
    · simp
    · split
      · simp
      · split <;> simp
  · simp
theorem rowO_cons {l : List Vl} {k : Nat} {x : Vl} (h : l[k]? = some x) : rowO (l.drop k) = x.oct ++ rowO (l.drop (k + 1)) := by
  rw [drop_at h]; simp [rowO]
theorem extract_list (s : ByteArray) (n : Nat) : (s.extract n s.size).data.toList = s.data.toList.drop n := by
  simp [ByteArray.extract, ByteArray.data_append, ByteArray.copySlice]
  exact List.take_of_length_le (by simp)
theorem own_form {W : World} {B : Nat} {v : Value} {n : Nat} {xs : List Value} (h : W.ownsRow B 24 3 v n xs) : ∃ A cap, v = .slice A n cap := by
  rcases h.2 with ⟨rfl, h0⟩ | ⟨g, cap, cur, rfl, _⟩
  · subst h0; exact ⟨_, _, rfl⟩
  · exact ⟨_, _, rfl⟩
theorem own_below {W W' : World} {B C : Nat} {v : Value} {n : Nat} {xs : List Value} (h : W.ownsRow B 24 3 v n xs) (hb : Below C W W') (hC : W.heap.size ≤ C) : W'.ownsRow B 24 3 v n xs :=
  World.ownsRow.kept (row := none) h ⟨hb.os, hb.tape, hb.output, hb.size, fun q hq _ => hb.block q (by omega)⟩ (by
    cases hv : v.ownBlock with
    | none => exact .inl rfl
    | some q => exact .inr (by simp))

theorem new_cells' {W : World} {t : TypeId} {x : Vl} {g : Nat} (hg : g = W.heap.size) : ∀ j u, x.cells[j]? = some u → (W.alloc (.cells #[.int .i64 x.k, .int .i64 x.i, .string x.s] t)).cell? ((⟨g, 0, none⟩ : Addr).add j) = some u := by
  subst hg
  exact new_cells

set_option maxRecDepth 100000 in
set_option maxHeartbeats 4000000 in
theorem read_row (l : List Vl) (s : ByteArray) (w : World) (hs : s.data.toList = rowO l) (hl : l.length ≤ 12) (hm : ∀ x ∈ l, x.may = true) (hi : I64 l) :
    Calls Try.prog 14 #[.string s] w fun e w' => ∃ v, e = .returned (.tuple #[v, .int .i64 0]) ∧ w'.ownsRow w.heap.size 24 3 v l.length (cellsOf l) ∧ Below w.heap.size w w' := by
  obtain ⟨p, hp⟩ : ∃ p : List UInt8, p = [] := ⟨[], rfl⟩
  have HS := Lib.hid (show s.data.toList = rowO l ++ p by rw [hp, List.append_nil]; exact hs)
  have HP := Lib.hid hp
  have HL := Lib.hid (show l.length ≤ 12 ∧ (∀ x ∈ l, x.may = true) ∧ I64 l ∧ p.length ≤ 42 from ⟨hl, hm, hi, by rw [hp]; simp⟩)
  clear hs hl hm hi hp
  obtain ⟨i0, hi, hz0, hz1, hz2⟩ := info_parts infoVal
  have hll := HL.out.1
  go_enter Try.func14, Try.ntmps14
  go_wp2
  go_loopg [0, 4] (l.length + 1) (fun q t v wr => ∃ (k : Nat) (S : ByteArray), q + k = l.length + 1 ∧ k ≤ l.length ∧ t = .string S ∧ S.data.toList = rowO (l.drop k) ++ p ∧ wr.ownsRow w.heap.size 24 3 v k (cellsOf (l.take k)) ∧ Below w.heap.size w wr)
  case atStart => exact ⟨0, s, by omega, by omega, rfl, by simpa using HS.out, World.ownsRow_nil _ _ _ _, Below.refl _ _⟩
  case round =>
    obtain ⟨k, S, hq, hkl, rfl, hS, hown, hb⟩ := hrel
    have hk12 : k ≤ 12 := by omega
    have hbs := hb.size
    obtain ⟨A, cap, rfl⟩ := own_form hown
    have HW := Lib.hid (And.intro hS hown)
    have hsz0 := size_of_list hS
    have hSz : S.size ≤ 100000 := by
      have h1 := rowO_len (l.drop k)
      have h2 := HL.out.2.2.2
      rw [hsz0, List.length_append]
      simp only [List.length_drop] at h1
      omega
    clear hS hown
    by_cases hlt : k < l.length
    · obtain ⟨x, hx⟩ : ∃ x, l[k]? = some x := ⟨_, List.getElem?_eq_getElem hlt⟩
      have hxo := oct_pos x
      have hge : x.oct.length ≤ S.size := by rw [hsz0, rowO_cons hx]; simp
      have HX := Lib.hid hx
      have hmem := List.mem_of_getElem? hx
      have HF := Lib.hid (fun w => first_row x S (rowO (l.drop (k + 1)) ++ p) w (HL.out.2.1 x hmem) (HL.out.2.2.1 x hmem) (by rw [HW.out.1, rowO_cons hx, List.append_assoc]) hSz)
      clear hx hmem hsz0
      go_wp2_with (first
        | (go_at_call 26; refine (HF.out _).mono ?_; rintro e w1 ⟨rfl, hb1⟩; have hs1 := hb1.size; have hown1 := (own_below HW.out.2 hb1 (Nat.le_refl _)).alloc (.cells #[.int .i64 x.k, .int .i64 x.i, .string x.s] 24); have hB1 := hb.trans (hb1.mono hbs); clear hb1)
        | (at_builtin; refine wpList_append_own _ rfl _ _ 22 rfl w.heap.size 24 i0 _ 3 32 Try.underlying22 hi hz0 hz1 hz2 rfl (by decide) _ _ _ rfl (World.ownsRow.alloc hown1 _) ⟨w1.heap.size + 1, 0, none⟩ 1 1 (Vl.cells x) rfl rfl ?c1 ?c2 ?c3 ?c4 ?c5 ?_))
      case c1 => exact new_cells' (by simp)
      case c2 => intro u hu; exact cells_one [x] u (by simpa [cellsOf] using hu)
      case c3 => unfold maxLen; omega
      case c4 => omega
      case c5 => simp; omega
      intro v' w2 hown' hgrow _
      have hb2 := row_below (hB1.alloc (by omega) _) (Nat.le_refl _) hown1 hgrow
      have hown2 : w2.ownsRow w.heap.size 24 3 v' (k + 1) (cellsOf (l.take (k + 1))) := by
        rw [take_snoc' HX.out, cells_snoc]
        exact hown'
      have HO := Lib.hid hown2
      clear hown' hown1 hown2 hgrow
      go_wp2
      go_roundg (l.length - k)
      case rel => exact ⟨k + 1, _, by omega, by omega, rfl, by rw [extract_list, HW.out.1, rowO_cons HX.out, List.append_assoc]; simp, HO.out, hb2⟩
      case measure => omega
    · have hk : k = l.length := by omega
      have hz : S.size = 0 := by rw [hsz0, List.drop_of_length_le (by omega), HP.out]; rfl
      have HO := Lib.hid (show wr.ownsRow w.heap.size 24 3 (.slice A k cap) l.length (cellsOf l) from by have h := HW.out.2; rw [List.take_of_length_le (by omega)] at h; rw [← hk]; exact h)
      clear hsz0 hk
      go_wp2
      go_ret2
      exact ⟨_, rfl, HO.out, hb⟩

set_option maxRecDepth 100000 in
set_option maxHeartbeats 4000000 in
theorem read_cut (l : List Vl) (x0 : Vl) (p q0 : List UInt8) (s : ByteArray) (w : World) (hs : s.data.toList = rowO l ++ p) (hl : l.length ≤ 12) (hm : ∀ x ∈ l, x.may = true) (hi : I64 l) (hm0 : x0.may = true) (hp : x0.oct = p ++ q0) (hp0 : p ≠ []) (hq0 : q0 ≠ []) :
    Calls Try.prog 14 #[.string s] w fun e w' => e = .returned (.tuple #[.slice none 0 0, .int .i64 17]) ∧ Below w.heap.size w w' := by
  have HS := Lib.hid hs
  have HP := Lib.hid (And.intro hm0 (And.intro hp (And.intro hp0 hq0)))
  have hpl := List.length_pos_iff.2 hp0
  have HL := Lib.hid (show l.length ≤ 12 ∧ (∀ x ∈ l, x.may = true) ∧ I64 l ∧ p.length ≤ 42 from ⟨hl, hm, hi, by have h := valO_len x0.k x0.i x0.s; have h' : valO x0.k x0.i x0.s = p ++ q0 := hp; rw [h'] at h; simp at h; omega⟩)
  clear hs hl hm hi hp hp0 hq0 hm0
  obtain ⟨i0, hi, hz0, hz1, hz2⟩ := info_parts infoVal
  have hll := HL.out.1
  go_enter Try.func14, Try.ntmps14
  go_wp2
  go_loopg [0, 4] (l.length + 1) (fun q t v wr => ∃ (k : Nat) (S : ByteArray), q + k = l.length + 1 ∧ k ≤ l.length ∧ t = .string S ∧ S.data.toList = rowO (l.drop k) ++ p ∧ wr.ownsRow w.heap.size 24 3 v k (cellsOf (l.take k)) ∧ Below w.heap.size w wr)
  case atStart => exact ⟨0, s, by omega, by omega, rfl, by simpa using HS.out, World.ownsRow_nil _ _ _ _, Below.refl _ _⟩
  case round =>
    obtain ⟨k, S, hq, hkl, rfl, hS, hown, hb⟩ := hrel
    have hk12 : k ≤ 12 := by omega
    have hbs := hb.size
    obtain ⟨A, cap, rfl⟩ := own_form hown
    have HW := Lib.hid (And.intro hS hown)
    have hsz0 := size_of_list hS
    have hSz : S.size ≤ 100000 := by
      have h1 := rowO_len (l.drop k)
      have h2 := HL.out.2.2.2
      rw [hsz0, List.length_append]
      simp only [List.length_drop] at h1
      omega
    clear hS hown
    by_cases hlt : k < l.length
    · obtain ⟨x, hx⟩ : ∃ x, l[k]? = some x := ⟨_, List.getElem?_eq_getElem hlt⟩
      have hxo := oct_pos x
      have hge : x.oct.length ≤ S.size := by rw [hsz0, rowO_cons hx]; simp
      have HX := Lib.hid hx
      have hmem := List.mem_of_getElem? hx
      have HF := Lib.hid (fun w => first_row x S (rowO (l.drop (k + 1)) ++ p) w (HL.out.2.1 x hmem) (HL.out.2.2.1 x hmem) (by rw [HW.out.1, rowO_cons hx, List.append_assoc]) hSz)
      clear hx hmem hsz0
      go_wp2_with (first
        | (go_at_call 26; refine (HF.out _).mono ?_; rintro e w1 ⟨rfl, hb1⟩; have hs1 := hb1.size; have hown1 := (own_below HW.out.2 hb1 (Nat.le_refl _)).alloc (.cells #[.int .i64 x.k, .int .i64 x.i, .string x.s] 24); have hB1 := hb.trans (hb1.mono hbs); clear hb1)
        | (at_builtin; refine wpList_append_own _ rfl _ _ 22 rfl w.heap.size 24 i0 _ 3 32 Try.underlying22 hi hz0 hz1 hz2 rfl (by decide) _ _ _ rfl (World.ownsRow.alloc hown1 _) ⟨w1.heap.size + 1, 0, none⟩ 1 1 (Vl.cells x) rfl rfl ?c1 ?c2 ?c3 ?c4 ?c5 ?_))
      case c1 => exact new_cells' (by simp)
      case c2 => intro u hu; exact cells_one [x] u (by simpa [cellsOf] using hu)
      case c3 => unfold maxLen; omega
      case c4 => omega
      case c5 => simp; omega
      intro v' w2 hown' hgrow _
      have hb2 := row_below (hB1.alloc (by omega) _) (Nat.le_refl _) hown1 hgrow
      have hown2 : w2.ownsRow w.heap.size 24 3 v' (k + 1) (cellsOf (l.take (k + 1))) := by
        rw [take_snoc' HX.out, cells_snoc]
        exact hown'
      have HO := Lib.hid hown2
      clear hown' hown1 hown2 hgrow
      go_wp2
      go_roundg (l.length - k)
      case rel => exact ⟨k + 1, _, by omega, by omega, rfl, by rw [extract_list, HW.out.1, rowO_cons HX.out, List.append_assoc]; simp, HO.out, hb2⟩
      case measure => omega
    · have hk : l.drop k = [] := List.drop_of_length_le (by omega)
      have hz : 0 < S.size := by rw [hsz0, hk]; simpa [rowO] using hpl
      have HF := Lib.hid (fun w => first_cut x0 S q0 w HP.out.1 (by rw [HW.out.1, hk]; exact HP.out.2.1) HP.out.2.2.2 hz)
      clear hsz0 hk
      go_wp2_with (go_at_call 26; refine (HF.out _).mono ?_; rintro e w1 ⟨rfl, hb1⟩)
      go_ret2
      refine ⟨rfl, ?_⟩
      exact (hb.trans (hb1.mono hbs)).alloc (by have := hb1.size; omega) _

end Go.Proofs.Ytggejkkpajpmkaa

import Derived.Test.YtnahejljelbbgaaCm
import Derived.Lib.Strings
/- Reading a row: Read. -/
namespace Go.Proofs.Ytnahejljelbbgaa
open Go.RowKit Go.Lib

theorem oct_pos (x : Vl) : 0 < x.oct.length := by
  unfold Vl.oct valO
  split
  · split
    · simp
    · split
      · simp
      · split <;> simp
  · simp
theorem rowO_cons {l : List Vl} {k : Nat} {x : Vl} (h : l[k]? = some x) : rowO (l.drop k) = x.oct ++ rowO (l.drop (k + 1)) := by
  rw [drop_at h]; simp [rowO]
theorem extract_list (s : ByteArray) (n : Nat) : (s.extract n s.size).data.toList = s.data.toList.drop n := by
  simp [ByteArray.extract, ByteArray.data_append, ByteArray.copySlice]
  exact List.take_of_length_le (by simp)
theorem own_form {W : World} {B : Nat} {v : Value} {n : Nat} {xs : List Value} (h : W.ownsRow B 31 3 v n xs) : ∃ A cap, v = .slice A n cap := by
  rcases h.2 with ⟨rfl, h0⟩ | ⟨g, cap, cur, rfl, _⟩
  · subst h0; exact ⟨_, _, rfl⟩
  · exact ⟨_, _, rfl⟩
theorem own_below {W W' : World} {B C : Nat} {v : Value} {n : Nat} {xs : List Value} (h : W.ownsRow B 31 3 v n xs) (hb : Below C W W') (hC : W.heap.size ≤ C) : W'.ownsRow B 31 3 v n xs :=
  World.ownsRow.kept (row := none) h ⟨hb.os, hb.tape, hb.output, hb.size, fun q hq _ => hb.block q (by omega)⟩ (by
    cases hv : v.ownBlock with
    | none => exact .inl rfl
    | some q => exact .inr (by simp))

theorem new_cells' {W : World} {t : TypeId} {x : Vl} {g : Nat} (hg : g = W.heap.size) : ∀ j u, x.cells[j]? = some u → (W.alloc (.cells #[.int .i64 x.k, .int .i64 x.i, .string x.s] t)).cell? ((⟨g, 0, none⟩ : Addr).add j) = some u := by
  subst hg
  exact new_cells

end Go.Proofs.Ytnahejljelbbgaa

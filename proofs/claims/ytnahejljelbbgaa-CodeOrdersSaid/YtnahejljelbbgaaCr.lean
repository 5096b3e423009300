import Derived.Test.YtnahejljelbbgaaCq
/- The law CodeShort. -/
namespace Go.Proofs.Ytnahejljelbbgaa
open Go.RowKit Go.Lib

theorem extract_take (s : ByteArray) (n : Nat) : (s.extract 0 n).data.toList = s.data.toList.take n := by
  simp [ByteArray.extract, ByteArray.data_append, ByteArray.copySlice]
theorem rowO_last (l : List Vl) (x : Vl) : rowO (l ++ [x]) = rowO l ++ x.oct := rowO_snoc l x
theorem rowS_nil {l : List Vl} (h : l = []) : rowS l = ⟨#[]⟩ := by subst h; rfl
theorem Vals.take {W : World} {B : Nat} {A : Option Addr} {n m : Nat} {l : List Vl} (h : Vals W B A n l) (hm : m ≤ n) : Vals W B A m (l.take m) := by
  have hl := h.1
  refine ⟨by simp; omega, fun j hj => ?_⟩
  have hj' : j < l.length := by simp at hj; omega
  obtain ⟨a, e, h1, h2⟩ := h.2 j hj'
  exact ⟨a, e, by rw [List.getElem_take]; exact h1, h2⟩

end Go.Proofs.Ytnahejljelbbgaa

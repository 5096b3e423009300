import Derived.Test.YtnahejljelbbgaaGreatDoorTi
import Derived.Test.YtnahejljelbbgaaGreatDoorTl
import Derived.Stop.LaidErr
import Derived.LaidLaws
/- What a row's condition on the listed variables says of the library's two errors. -/
namespace Go.Proofs.YtnahejljelbbgaaGreatDoor
open Go.RowKit Go.Lib

theorem es_star : "*" ++ "errors.errorString" = "*errors.errorString" := by decide
theorem es_row (u : TypeId) (h : Tryz.prog.typeName? 3 u = some "*errors.errorString") : u = 135 :=
  typeName_ptr_named (nm := "errors.errorString") (by rw [es_star]; kernel_rfl) (by kernel_rfl) (by decide) u (by rw [es_star]; exact h)
theorem errs_of {laid : List (String × DataW Unit)} {W : World} (h : laidMetH Tryz.prog laid W) (hp : (laid.all fun x => x.2.handleName?.isNone) = true) {x y z u : String × DataW Unit} {r : List (String × DataW Unit)}
    (hl : laid = x :: y :: z :: u :: ("strconv.ErrRange", Rows.laid_strconv_ErrRange) :: ("strconv.ErrSyntax", Rows.laid_strconv_ErrSyntax) :: r) : Errs W := by
  rw [MakeChecks.laidMetH_plain _ _ _ hp, hl] at h
  have h4 := h.tail.tail.tail.tail
  obtain ⟨a1, s1, hv1, _⟩ := laid_sentinel (g := 7) (ti := 45) (tp := 135) (te := 137) (ts := 9) h4 (by kernel_rfl) (by kernel_rfl) Tryz.underlying45 es_row Tryz.underlying135 Tryz.underlying137 rfl rfl Tryz.underlying9 (by kernel_rfl) (by kernel_rfl)
  obtain ⟨a2, s2, hv2, _⟩ := laid_sentinel (g := 6) (ti := 45) (tp := 135) (te := 137) (ts := 9) h4.tail (by kernel_rfl) (by kernel_rfl) Tryz.underlying45 es_row Tryz.underlying135 Tryz.underlying137 rfl rfl Tryz.underlying9 (by kernel_rfl) (by kernel_rfl)
  exact ⟨⟨_, _, by have := World.var?_cell (g := 6) (by kernel_rfl) hv2 0; simpa using this⟩, ⟨_, _, by have := World.var?_cell (g := 7) (by kernel_rfl) hv1 0; simpa using this⟩⟩
end Go.Proofs.YtnahejljelbbgaaGreatDoor

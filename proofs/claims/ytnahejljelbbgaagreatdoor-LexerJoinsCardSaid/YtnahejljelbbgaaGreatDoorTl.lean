import Derived.Test.YtnahejljelbbgaaGreatDoorRows
import Derived.Test.YtnahejljelbbgaaGreatDoorTb
import Derived.Lib.LaidTab
import Derived.Stop.LaidErr
import Derived.MakeChecks
/- What a row's condition on the listed variables says of them. -/
namespace Go.Proofs.YtnahejljelbbgaaGreatDoor
open Go.RowKit Go.Lib

theorem pow10_data : (Rows.laid_internal_strconv_uint64pow10 : DataW Unit) = tabData .u64 pow10Tab := by kernel_rfl
theorem tab_of_row {laid : List (String × DataW Unit)} {W : World} (h : laidMetH Tryz.prog laid W) (hp : (laid.all fun x => x.2.handleName?.isNone) = true) {x y : String × DataW Unit} {r : List (String × DataW Unit)}
    (hl : laid = x :: y :: ("internal/strconv.uint64pow10", Rows.laid_internal_strconv_uint64pow10) :: r) : Lib.TabIs Tryz.prog W "internal/strconv.uint64pow10" .u64 Lib.pow10Tab := by
  rw [MakeChecks.laidMetH_plain _ _ _ hp, hl, pow10_data] at h
  exact tabIs_of_head (g := 0) (by kernel_rfl) (by kernel_rfl) Tryz.underlying108 Tryz.underlying96 (by kernel_rfl) (by kernel_rfl) h.tail.tail
theorem libs_of {laid : List (String × DataW Unit)} {W : World} {m : Int} (h : laidMetH Tryz.prog laid W) (hm : W.cell? ⟨3, 0, none⟩ = some (.int .i64 m)) (hp : (laid.all fun x => x.2.handleName?.isNone) = true) {x y : String × DataW Unit} {r : List (String × DataW Unit)}
    (hl : laid = x :: y :: ("internal/strconv.uint64pow10", Rows.laid_internal_strconv_uint64pow10) :: r) : Libs W := ⟨tab_of_row h hp hl, m, hm⟩
end Go.Proofs.YtnahejljelbbgaaGreatDoor

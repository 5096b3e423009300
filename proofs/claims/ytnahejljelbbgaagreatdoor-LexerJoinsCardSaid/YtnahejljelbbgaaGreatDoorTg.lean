import Derived.Test.YtnahejljelbbgaaGreatDoorTf
/- ReplaceAll at a pair of quotes. -/
namespace Go.Proofs.YtnahejljelbbgaaGreatDoor
open Go.RowKit Go.Lib

theorem replace2_any (s : ByteArray) (w : World) (hs : s.size ≤ 1000) (hl : Libs w) :
    Calls Tryz.prog 46 #[.string s, .string ⟨#[39, 39]⟩, .string ⟨#[39]⟩] w fun e w' => e = .returned (.string ⟨(Lib.replaceAll s.data.toList [39, 39] [39]).toArray⟩) ∧ Below w.heap.size w w' := by
  obtain ⟨m, hm⟩ := hl.max
  have hc := countB_mul_le ⟨#[39, 39]⟩ (by decide) s.size s (Nat.le_refl _)
  exact Tryz.strings_ReplaceAll s ⟨#[39, 39]⟩ ⟨#[39]⟩ m w (by omega) hm (by decide) (by
    have e1 : (⟨#[39]⟩ : ByteArray).size = 1 := rfl
    have e2 : (⟨#[39, 39]⟩ : ByteArray).size = 2 := rfl
    rw [e2] at hc
    rw [e1]
    omega)
end Go.Proofs.YtnahejljelbbgaaGreatDoor

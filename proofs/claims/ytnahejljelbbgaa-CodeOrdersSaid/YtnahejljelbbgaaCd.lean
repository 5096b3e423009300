import Derived.Test.YtnahejljelbbgaaCc
/- The document's own octets of a value. -/
namespace Go.Proofs.Ytnahejljelbbgaa
open Go.RowKit Go.Lib

theorem bs_eq {a : ByteArray} {l : List UInt8} (h : a.data.toList = l) : a = ⟨l.toArray⟩ := by
  subst h
  exact ByteArray.ext (by simp)
theorem ret_bs {a : ByteArray} {l : List UInt8} (h : a.data.toList = l) : Ending.returned (.string a) = .returned (.string ⟨l.toArray⟩) := by rw [bs_eq h]
theorem quo_256 {x : Int} (h0 : 0 ≤ x) (h1 : x < 18446744073709551616) : IntKind.u64.wrap (x.tdiv 256) = x / 256 := by
  rw [Int.tdiv_eq_ediv_of_nonneg h0]
  simp only [IntKind.wrap, IntKind.signed, IntKind.bits]
  simp
  omega
/-- A slice of one octet that has just been written is turned into its string. -/
theorem conv_one (W : World) (x : Int) (h0 : 0 ≤ x) (h1 : x < 256) (g : Nat) (hg : g = W.heap.size) : (convert 38 9 (.slice (some ⟨g, 0, none⟩) 1 1)).run Try.prog (W.alloc (.cells #[.int .u8 x] 5)) = .ok (.string ⟨#[UInt8.ofNat x.toNat]⟩) (W.alloc (.cells #[.int .u8 x] 5)) :=
  Oct.conv (B := 0) (Oct.lit (b := UInt8.ofNat x.toNat) hg (by omega) (by rw [UInt8.toNat_ofNat']; omega)) (by simp)

end Go.Proofs.Ytnahejljelbbgaa

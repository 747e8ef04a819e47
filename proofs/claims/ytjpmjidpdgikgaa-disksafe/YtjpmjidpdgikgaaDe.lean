/- strings.Clone: the library's law on stringslite.Clone, laid here. -/
import Derived.Test.YtjpmjidpdgikgaaMc
import Derived.Shelf.Pu.Clone
namespace Go.Proofs.Ytjpmjidpdgikgaa
open Go.RowKit

/-- How the library's numbers lie here. -/
def liteRen : Go.Shelf.Ren := ⟨fun | 25 => 35 | n => n, fun | 37 => 23 | 47 => 73 | n => n, fun n => n⟩
theorem lite_laid : LaysPu.n25 Try.prog liteRen := {
  mixed := by kernel_rfl,
  f25 := Try.func35.trans (congrArg some (by kernel_rfl)),
  t0 := Try.underlying0,
  a0 := Try.isAgg0,
  z0 := Try.sizeOf0,
  v0 := Try.zeroValue0,
  i0 := by kernel_rfl,
  t3 := Try.underlying3,
  a3 := Try.isAgg3,
  z3 := Try.sizeOf3,
  v3 := Try.zeroValue3,
  i3 := by kernel_rfl,
  t4 := Try.underlying4,
  a4 := Try.isAgg4,
  z4 := Try.sizeOf4,
  v4 := Try.zeroValue4,
  i4 := by kernel_rfl,
  t5 := Try.underlying5,
  a5 := Try.isAgg5,
  z5 := Try.sizeOf5,
  v5 := Try.zeroValue5,
  i5 := by kernel_rfl,
  t9 := Try.underlying9,
  a9 := Try.isAgg9,
  z9 := Try.sizeOf9,
  v9 := Try.zeroValue9,
  i9 := by kernel_rfl,
  t37 := Try.underlying23,
  a37 := Try.isAgg23,
  z37 := Try.sizeOf23,
  v37 := Try.zeroValue23,
  i37 := by kernel_rfl,
  t47 := Try.underlying73,
  a47 := Try.isAgg73,
  z47 := Try.sizeOf73,
  v47 := Try.zeroValue73,
  i47 := by kernel_rfl,
}
theorem slite_any (s : ByteArray) (w : World) (hl : s.size ≤ 1000000) : Calls Try.prog 35 #[.string s] w (Says (.string s) w) :=
  AnyPu.stringslite_Clone lite_laid s w (by omega)
theorem sclone_any (s : ByteArray) (w : World) (hl : s.size ≤ 1000000) : Calls Try.prog 30 #[.string s] w (Says (.string s) w) := by
  go_enter Try.func30, Try.ntmps30
  go_wp2_with fail
  refine (slite_any s w hl).mono ?_
  rintro e w1 ⟨rfl, hb⟩
  go_wp2_with fail
  go_ret
  exact ⟨rfl, hb⟩
end Go.Proofs.Ytjpmjidpdgikgaa

/- Walks of a disk's calls where no New made the disk: the pointer of none, and the empty disk. -/
import Derived.Test.YtjpmjidpdgikgaaDa
namespace Go.Proofs.Ytjpmjidpdgikgaa
open Go.RowKit
theorem remove_nil (s : ByteArray) (w : World) : Calls Try.prog 10 #[.pointer none, .string s] w (Says (.int .i64 1) w) := by
  go_enter Try.func10, Try.ntmps10
  go_wp2_with fail
  refine (begin_nil w).mono ?_
  rintro e w1 ⟨rfl, hb⟩
  go_wp2_with fail
  go_ret
  exact ⟨rfl, hb⟩
theorem remove_no (s : ByteArray) {w : World} {p n : Nat} {m1 m2 : Option Nat} {pa : Option Addr} {pn pc : Nat} (h : Dk w p 0 n m1 m2 pa pn pc) : Calls Try.prog 10 #[.pointer (some ⟨p, 0, none⟩), .string s] w (Says (.int .i64 1) w) := by
  go_enter Try.func10, Try.ntmps10
  go_wp2_with fail
  refine (begin_no h).mono ?_
  rintro e w1 ⟨rfl, hb⟩
  go_wp2_with fail
  go_ret
  exact ⟨rfl, hb⟩
theorem append_nil (s : ByteArray) (a : Option Addr) (l c : Nat) (w : World) : Calls Try.prog 11 #[.pointer none, .string s, .slice a l c] w (Says (.int .i64 1) w) := by
  go_enter Try.func11, Try.ntmps11
  go_wp2_with fail
  refine (begin_nil w).mono ?_
  rintro e w1 ⟨rfl, hb⟩
  go_wp2_with fail
  go_ret
  exact ⟨rfl, hb⟩
theorem append_no (s : ByteArray) (a : Option Addr) (l c : Nat) {w : World} {p n : Nat} {m1 m2 : Option Nat} {pa : Option Addr} {pn pc : Nat} (h : Dk w p 0 n m1 m2 pa pn pc) : Calls Try.prog 11 #[.pointer (some ⟨p, 0, none⟩), .string s, .slice a l c] w (Says (.int .i64 1) w) := by
  go_enter Try.func11, Try.ntmps11
  go_wp2_with fail
  refine (begin_no h).mono ?_
  rintro e w1 ⟨rfl, hb⟩
  go_wp2_with fail
  go_ret
  exact ⟨rfl, hb⟩
theorem sync_nil (s : ByteArray) (w : World) : Calls Try.prog 12 #[.pointer none, .string s] w (Says (.int .i64 1) w) := by
  go_enter Try.func12, Try.ntmps12
  go_wp2_with fail
  refine (begin_nil w).mono ?_
  rintro e w1 ⟨rfl, hb⟩
  go_wp2_with fail
  go_ret
  exact ⟨rfl, hb⟩
theorem sync_no (s : ByteArray) {w : World} {p n : Nat} {m1 m2 : Option Nat} {pa : Option Addr} {pn pc : Nat} (h : Dk w p 0 n m1 m2 pa pn pc) : Calls Try.prog 12 #[.pointer (some ⟨p, 0, none⟩), .string s] w (Says (.int .i64 1) w) := by
  go_enter Try.func12, Try.ntmps12
  go_wp2_with fail
  refine (begin_no h).mono ?_
  rintro e w1 ⟨rfl, hb⟩
  go_wp2_with fail
  go_ret
  exact ⟨rfl, hb⟩
theorem syncdir_nil  (w : World) : Calls Try.prog 13 #[.pointer none] w (Says (.int .i64 1) w) := by
  go_enter Try.func13, Try.ntmps13
  go_wp2_with fail
  refine (begin_nil w).mono ?_
  rintro e w1 ⟨rfl, hb⟩
  go_wp2_with fail
  go_ret
  exact ⟨rfl, hb⟩
theorem syncdir_no  {w : World} {p n : Nat} {m1 m2 : Option Nat} {pa : Option Addr} {pn pc : Nat} (h : Dk w p 0 n m1 m2 pa pn pc) : Calls Try.prog 13 #[.pointer (some ⟨p, 0, none⟩)] w (Says (.int .i64 1) w) := by
  go_enter Try.func13, Try.ntmps13
  go_wp2_with fail
  refine (begin_no h).mono ?_
  rintro e w1 ⟨rfl, hb⟩
  go_wp2_with fail
  go_ret
  exact ⟨rfl, hb⟩
theorem rename_nil (s r : ByteArray) (w : World) : Calls Try.prog 18 #[.pointer none, .string s, .string r] w (Says (.int .i64 1) w) := by
  go_enter Try.func18, Try.ntmps18
  go_wp2_with fail
  refine (begin_nil w).mono ?_
  rintro e w1 ⟨rfl, hb⟩
  go_wp2_with fail
  go_ret
  exact ⟨rfl, hb⟩
theorem rename_no (s r : ByteArray) {w : World} {p n : Nat} {m1 m2 : Option Nat} {pa : Option Addr} {pn pc : Nat} (h : Dk w p 0 n m1 m2 pa pn pc) : Calls Try.prog 18 #[.pointer (some ⟨p, 0, none⟩), .string s, .string r] w (Says (.int .i64 1) w) := by
  go_enter Try.func18, Try.ntmps18
  go_wp2_with fail
  refine (begin_no h).mono ?_
  rintro e w1 ⟨rfl, hb⟩
  go_wp2_with fail
  go_ret
  exact ⟨rfl, hb⟩
theorem crash_nil (k : Int) (a : Option Addr) (l c : Nat) (w : World) : Calls Try.prog 14 #[.pointer none, .int .u8 k, .slice a l c] w (Says (.int .i64 1) w) := by
  go_enter Try.func14, Try.ntmps14
  go_wp2_with fail
  refine (made_nil w).mono ?_
  rintro e w1 ⟨rfl, hb⟩
  go_wp2_with fail
  go_ret
  exact ⟨rfl, hb⟩
theorem crash_no (k : Int) (a : Option Addr) (l c : Nat) {w : World} {p n : Nat} {m1 m2 : Option Nat} {pa : Option Addr} {pn pc : Nat} (h : Dk w p 0 n m1 m2 pa pn pc) : Calls Try.prog 14 #[.pointer (some ⟨p, 0, none⟩), .int .u8 k, .slice a l c] w (Says (.int .i64 1) w) := by
  go_enter Try.func14, Try.ntmps14
  go_wp2_with fail
  refine (made_any h).mono ?_
  rintro e w1 ⟨rfl, hb⟩
  go_wp2_with fail
  go_ret
  exact ⟨rfl, hb⟩
theorem off_nil (k : Int) (w : World) : Calls Try.prog 19 #[.pointer none, .int .i64 k] w (Says (.int .i64 1) w) := by
  go_enter Try.func19, Try.ntmps19
  go_wp2_with fail
  refine (made_nil w).mono ?_
  rintro e w1 ⟨rfl, hb⟩
  go_wp2_with fail
  go_ret
  exact ⟨rfl, hb⟩
theorem off_no (k : Int) {w : World} {p n : Nat} {m1 m2 : Option Nat} {pa : Option Addr} {pn pc : Nat} (h : Dk w p 0 n m1 m2 pa pn pc) : Calls Try.prog 19 #[.pointer (some ⟨p, 0, none⟩), .int .i64 k] w (Says (.int .i64 1) w) := by
  go_enter Try.func19, Try.ntmps19
  go_wp2_with fail
  refine (made_any h).mono ?_
  rintro e w1 ⟨rfl, hb⟩
  go_wp2_with fail
  go_ret
  exact ⟨rfl, hb⟩
theorem read_nil (s : ByteArray) (w : World) : Calls Try.prog 15 #[.pointer none, .string s] w (Says (.tuple #[.slice none 0 0, .int .i64 1]) w) := by
  go_enter Try.func15, Try.ntmps15
  go_wp2_with fail
  refine (made_nil w).mono ?_
  rintro e w1 ⟨rfl, hb⟩
  go_wp2_with fail
  go_ret2
  exact ⟨rfl, hb⟩
theorem read_no (s : ByteArray) {w : World} {p n : Nat} {m1 m2 : Option Nat} {pa : Option Addr} {pn pc : Nat} (h : Dk w p 0 n m1 m2 pa pn pc) : Calls Try.prog 15 #[.pointer (some ⟨p, 0, none⟩), .string s] w (Says (.tuple #[.slice none 0 0, .int .i64 1]) w) := by
  go_enter Try.func15, Try.ntmps15
  go_wp2_with fail
  refine (made_any h).mono ?_
  rintro e w1 ⟨rfl, hb⟩
  go_wp2_with fail
  go_ret2
  exact ⟨rfl, hb⟩
theorem list_nil  (w : World) : Calls Try.prog 16 #[.pointer none] w (Says (.slice none 0 0) w) := by
  go_enter Try.func16, Try.ntmps16
  go_wp2_with fail
  refine (made_nil w).mono ?_
  rintro e w1 ⟨rfl, hb⟩
  go_wp2_with fail
  go_ret
  exact ⟨rfl, hb⟩
theorem list_no  {w : World} {p n : Nat} {m1 m2 : Option Nat} {pa : Option Addr} {pn pc : Nat} (h : Dk w p 0 n m1 m2 pa pn pc) : Calls Try.prog 16 #[.pointer (some ⟨p, 0, none⟩)] w (Says (.slice none 0 0) w) := by
  go_enter Try.func16, Try.ntmps16
  go_wp2_with fail
  refine (made_any h).mono ?_
  rintro e w1 ⟨rfl, hb⟩
  go_wp2_with fail
  go_ret
  exact ⟨rfl, hb⟩
theorem used_nil  (w : World) : Calls Try.prog 17 #[.pointer none] w (Says (.int .i64 0) w) := by
  go_enter Try.func17, Try.ntmps17
  go_wp2_with fail
  refine (made_nil w).mono ?_
  rintro e w1 ⟨rfl, hb⟩
  go_wp2_with fail
  go_ret
  exact ⟨rfl, hb⟩
theorem used_no  {w : World} {p n : Nat} {m1 m2 : Option Nat} {pa : Option Addr} {pn pc : Nat} (h : Dk w p 0 n m1 m2 pa pn pc) : Calls Try.prog 17 #[.pointer (some ⟨p, 0, none⟩)] w (Says (.int .i64 0) w) := by
  go_enter Try.func17, Try.ntmps17
  go_wp2_with fail
  refine (made_any h).mono ?_
  rintro e w1 ⟨rfl, hb⟩
  go_wp2_with fail
  go_ret
  exact ⟨rfl, hb⟩
end Go.Proofs.Ytjpmjidpdgikgaa

/-
  The characters of a text as the document's own answer has them (munimentref03.Chars), at a seat that does not reach naming itself.
-/
import Derived.Test.YtmanflfanoddgabDoorMrk
import Derived.Test.YtmanflfanoddgabDoorMade
import Derived.Test.YtmanflfanoddgabDoorNamP
import Derived.Test.YtmanflfanoddgabDoorShf
import Derived.Laws.RangeAny
namespace Go.Proofs.YtmanflfanoddgabDoor
open Go.RowKit

theorem ret_val {u v : Value} (h : u = v) : Ending.returned u = .returned v := by rw [h]
theorem size_len (s : ByteArray) : s.data.toList.length = s.size := by rw [Array.length_toList]; rfl
/-- The two tables of unicode/utf8 hold what Go's text lays. -/
def Tabs (w : World) : Prop := Lib.Utf8Tabs 2 3 w
theorem Tabs.ext {w w' : World} (h : Tabs w) (hx : Ext w w') : Tabs w' := Utf8Tabs_below h hx
theorem drop_ne (s : ByteArray) (pos : Nat) (h : pos < s.size) : s.data.toList.drop pos ≠ [] := by
  intro e
  have := congrArg List.length e
  rw [List.length_drop, size_len, List.length_nil] at this
  omega
theorem chs_at (s : ByteArray) (pos r n : Nat) (h : pos < s.size) (hd : Utf8.decode s pos = (r, n)) : chs (s.data.toList.drop pos) pos = ⟨r, pos, n⟩ :: chs (s.data.toList.drop (pos + n)) (pos + n) := by
  rw [chs_step _ _ (drop_ne s pos h), Lib.decodeL_drop, hd, List.drop_drop]
theorem width_at (s : ByteArray) (pos r n : Nat) (h : pos < s.size) (hd : Utf8.decode s pos = (r, n)) : 1 ≤ n ∧ pos + n ≤ s.size := by
  have h1 := Lib.decodeL_width (s.data.toList.drop pos)
  have h2 := Lib.decodeL_le _ (drop_ne s pos h)
  rw [Lib.decodeL_drop, hd] at h1 h2
  rw [List.length_drop, size_len] at h2
  simp only at h1 h2
  omega
theorem rune_at (s : ByteArray) (pos r n : Nat) (hd : Utf8.decode s pos = (r, n)) : r ≤ 1114111 := by
  have := Lib.decodeL_rune (s.data.toList.drop pos)
  rwa [Lib.decodeL_drop, hd] at this
theorem i64_ne {a : Nat} {b : Int} (h : (a : Int) ≠ b) : ((a : Int) == b) = false := by simpa using h


theorem decode_sub (s : ByteArray) (pos : Nat) (h : pos < s.size) : Lib.decodeGo (s.extract pos s.size) = Utf8.decode s pos := by
  have hl : (s.extract pos s.size).data.toList = s.data.toList.drop pos := by
    rw [Lib.extract_data, List.take_of_length_le (by rw [List.length_drop, size_len]; exact Nat.le_refl _)]
  have hz : (s.extract pos s.size).size ≠ 0 := by
    rw [← size_len, hl, List.length_drop, size_len]
    omega
  unfold Lib.decodeGo
  rw [if_neg hz, ← Lib.decodeL_drop _ 0, List.drop_zero, hl, Lib.decodeL_drop]
theorem decode_any (s : ByteArray) (w : World) (hT : Tabs w) : Calls Tryd.prog 52 #[.string s] w fun e w' => e = .returned (.tuple #[.int .i32 ((Lib.decodeGo s).1 : Int), .int .i64 ((Lib.decodeGo s).2 : Int)]) ∧ Ext w w' :=
  Tryd.utf8_DecodeRuneInString s w hT
end Go.Proofs.YtmanflfanoddgabDoor

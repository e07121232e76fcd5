/-
  The characters of a text as the document's own answer has them (munimentref03.Chars), at a seat that does not reach naming itself.
-/
import Derived.Test.YtmanflfanoddgaaDoorMrk
import Derived.Test.YtmanflfanoddgaaDoorMade
import Derived.Test.YtmanflfanoddgaaDoorNamP
import Derived.Test.YtmanflfanoddgaaDoorShf
import Derived.Laws.RangeAny
namespace Go.Proofs.YtmanflfanoddgaaDoor
open Go.RowKit

theorem ret_val {u v : Value} (h : u = v) : Ending.returned u = .returned v := by rw [h]
theorem size_len (s : ByteArray) : s.data.toList.length = s.size := by rw [Array.length_toList]; rfl
/-- The two tables of unicode/utf8 hold what Go's text lays. -/
def Tabs (w : World) : Prop := Lib.Utf8Tabs 1 2 w
theorem Tabs.ext {w w' : World} (h : Tabs w) (hx : Ext w w') : Tabs w' := Utf8Tabs_below h hx
theorem drop_ne (s : ByteArray) (pos : Nat) (h : pos < s.size) : s.data.toList.drop pos ≠ [] := by
  intro e
  have := congrArg List.length e
  rw [List.length_drop, size_len, List.length_nil] at this
  omega
theorem chs_at (s : ByteArray) (pos r n : Nat) (h : pos < s.size) (hd : Utf8.decode s pos = (r, n)) : chs (s.data.toList.drop pos) pos = ⟨r, pos, n⟩ :: chs (s.data.toList.drop (pos + n)) (pos + n) := by
  rw [chs_step _ _ (drop_ne s pos h), Lib.decodeL_drop, hd, List.drop_drop]
theorem width_at (s : ByteArray) (pos r n : Nat) (h : pos < s.size) (hd : Utf8.decode s pos = (r, n)) : 1 ≤ n ∧ pos + n ≤ s.size := by
  have h1 := Lib.decodeL_width (s.data.toList.drop pos)
  have h2 := Lib.decodeL_le _ (drop_ne s pos h)
  rw [Lib.decodeL_drop, hd] at h1 h2
  rw [List.length_drop, size_len] at h2
  simp only at h1 h2
  omega
theorem rune_at (s : ByteArray) (pos r n : Nat) (hd : Utf8.decode s pos = (r, n)) : r ≤ 1114111 := by
  have := Lib.decodeL_rune (s.data.toList.drop pos)
  rwa [Lib.decodeL_drop, hd] at this
theorem i64_ne {a : Nat} {b : Int} (h : (a : Int) ≠ b) : ((a : Int) == b) = false := by simpa using h

set_option maxRecDepth 20000 in
set_option maxHeartbeats 2000000 in
/-- A character as cells. -/
def chV (c : Chr) : List Value := [.int .i32 (c.r : Int), .int .i64 (c.p : Int), .bool (c.r != 65533 || c.n == 3)]
def chVs (l : List Chr) : List Value := l.flatMap chV
theorem chVs_append (l m : List Chr) : chVs (l ++ m) = chVs l ++ chVs m := List.flatMap_append
theorem chVs_length (l : List Chr) : (chVs l).length = l.length * 3 := by
  induction l with
  | nil => rfl
  | cons c t ih =>
    show (chV c ++ chVs t).length = _
    rw [List.length_append, ih, List.length_cons]
    show 3 + _ = _
    omega
theorem chVs_get (l : List Chr) (i : Nat) (c : Chr) (h : l[i]? = some c) : (chVs l)[3 * i]? = some (.int .i32 (c.r : Int)) ∧ (chVs l)[3 * i + 1]? = some (.int .i64 (c.p : Int)) ∧ (chVs l)[3 * i + 2]? = some (.bool (c.r != 65533 || c.n == 3)) := by
  induction l generalizing i with
  | nil => simp at h
  | cons x t ih =>
    have e : chVs (x :: t) = .int .i32 (x.r : Int) :: .int .i64 (x.p : Int) :: .bool (x.r != 65533 || x.n == 3) :: chVs t := rfl
    rw [e]
    cases i with
    | zero => simp at h; subst h; exact ⟨rfl, rfl, rfl⟩
    | succ i =>
      have := ih i (by simpa using h)
      rw [show 3 * (i + 1) = 3 * i + 3 by omega]
      exact this
theorem info_chr : (Tryd.prog.info? 121).map (fun i => (i.zero.map (·.cells.size), i.size, i.bytes)) = some (some 3, 3, 24) := by kernel_rfl
/-- The value v is a slice of the call's own that holds just these characters. -/
def OwnC (w : World) (base : Nat) (v : Value) (l : List Chr) : Prop := w.ownsRow base 121 3 v l.length (chVs l)
theorem OwnC.ext {w w' : World} {base : Nat} {v : Value} {l : List Chr} (h : OwnC w base v l) (hx : Ext w w') : OwnC w' base v l := by
  refine ⟨h.1, ?_⟩
  rcases h.2 with hn | ⟨g, cap, cur, rfl, hb, hg, rest⟩
  · exact .inl hn
  · refine .inr ⟨g, cap, cur, rfl, hb, ?_, rest⟩
    have hlt : g < w.heap.size := by
      rcases Nat.lt_or_ge g w.heap.size with h' | h'
      · exact h'
      · rw [Array.getElem?_eq_none h'] at hg; cases hg
    rw [Below.block hx g hlt]
    exact hg
/-- What stands at A, from its beginning on. -/
def RdC (w : World) (A : Option Addr) (vs : List Value) : Prop := vs ≠ [] → ∃ b off, A = some ⟨b, off, none⟩ ∧ ∀ j u, vs[j]? = some u → w.cell? ⟨b, off + j, none⟩ = some u
theorem RdC.ext {w w' : World} {A : Option Addr} {vs : List Value} (h : RdC w A vs) (hx : Ext w w') : RdC w' A vs := fun hn => by
  obtain ⟨b, off, hA, hc⟩ := h hn
  exact ⟨b, off, hA, fun j u hu => (Ext.keeps hx).cell (hc j u hu)⟩
/-- A slice of just these characters. -/
def Chs (l : List Chr) (w : World) (v : Value) : Prop := ∃ A c, v = .slice A l.length c ∧ RdC w A (chVs l)
theorem OwnC.chs {w : World} {base : Nat} {v : Value} {l : List Chr} (h : OwnC w base v l) : Chs l w v := by
  rcases h.2 with ⟨rfl, h0⟩ | ⟨g, cap, cur, rfl, _, _, _⟩
  · have : l = [] := List.length_eq_zero_iff.1 h0
    subst this
    exact ⟨none, 0, rfl, fun h => absurd rfl h⟩
  · refine ⟨_, _, rfl, fun _ => ⟨g, 0, rfl, fun j u hu => ?_⟩⟩
    have := h.cells (g := g) rfl j u hu
    rw [add_flat] at this
    exact this
theorem decode_sub (s : ByteArray) (pos : Nat) (h : pos < s.size) : Lib.decodeGo (s.extract pos s.size) = Utf8.decode s pos := by
  have hl : (s.extract pos s.size).data.toList = s.data.toList.drop pos := by
    rw [Lib.extract_data, List.take_of_length_le (by rw [List.length_drop, size_len]; exact Nat.le_refl _)]
  have hz : (s.extract pos s.size).size ≠ 0 := by
    rw [← size_len, hl, List.length_drop, size_len]
    omega
  unfold Lib.decodeGo
  rw [if_neg hz, ← Lib.decodeL_drop _ 0, List.drop_zero, hl, Lib.decodeL_drop]
theorem decode_any (s : ByteArray) (w : World) (hT : Tabs w) : Calls Tryd.prog 98 #[.string s] w fun e w' => e = .returned (.tuple #[.int .i32 ((Lib.decodeGo s).1 : Int), .int .i64 ((Lib.decodeGo s).2 : Int)]) ∧ Ext w w' :=
  Tryd.utf8_DecodeRuneInString s w hT
theorem new_cells (w : World) (t : TypeId) (vs : List Value) : ∀ j u, vs[j]? = some u → (w.alloc (.cells vs.toArray t)).cell? ((⟨w.heap.size, 0, none⟩ : Addr).add j) = some u := fun j u hu => by
  rw [add_flat, cell_of_row _ w.heap.size (0 + j) _ t (0, 0) (heap_alloc_new w _), Nat.zero_add, List.getElem?_toArray, hu]
theorem ok_bool (r n : Nat) : (r != 65533 || n == 3) = (((r : Int) != 65533) || ((n : Int) == 3)) := by
  rw [Bool.eq_iff_iff]
  simp
  omega

set_option maxRecDepth 20000 in
set_option maxHeartbeats 2000000 in
theorem chars_any (s : ByteArray) (w : World) (hs : s.size ≤ 4398046511104) (hT : Tabs w) :
    Calls Tryd.prog 72 #[.string s] w (Ret w (Chs (chs s.data.toList 0))) := by
  obtain ⟨i0, z0, hi, hz, hzs, hsz, hby⟩ : ∃ i0 z0, Tryd.prog.info? 121 = some i0 ∧ i0.zero = some z0 ∧ z0.cells.size = 3 ∧ i0.size = 3 ∧ i0.bytes = 24 := by
    have h := info_chr
    cases hq : Tryd.prog.info? 121 with
    | none => rw [hq] at h; cases h
    | some i =>
      rw [hq] at h
      simp only [Option.map_some, Option.some.injEq, Prod.mk.injEq] at h
      cases hzz : i.zero with
      | none => rw [hzz] at h; simp at h
      | some z => rw [hzz] at h; simp at h; exact ⟨i, z, rfl, hzz, h.1, h.2.1, h.2.2⟩
  obtain ⟨n, HN⟩ : ∃ n, Hid (s.size = n) := ⟨_, rfl⟩
  have hn := hs
  rw [HN.out] at hn
  obtain ⟨L, HL⟩ : ∃ L, Hid (chs s.data.toList 0 = L) := ⟨_, rfl⟩
  rw [HL.out]
  have HI := hide hi
  have HZ := hide hz
  have HZS := hide hzs
  have HSZ := hide hsz
  have HBY := hide hby
  clear hi hz hzs hsz hby hs
  go_enter Tryd.func72, Tryd.ntmps72
  go_wp2
  go_loopw [3, 4] (fun v i wr => ∃ (pos : Nat) (l : List Chr), i = .int .i64 pos ∧ OwnC wr w.heap.size v l ∧ l.length ≤ pos ∧ pos ≤ n ∧ Hid (l ++ chs (s.data.toList.drop pos) pos = L) ∧ Below w.heap.size w wr) (fun _ i _ => n - (intOf i).toNat)
  case atStart => exact ⟨0, [], rfl, World.ownsRow_nil _ _ _ _, Nat.le_refl _, Nat.zero_le _, hide (by rw [List.drop_zero]; exact HL.out), Below.refl _ _⟩
  case round =>
    obtain ⟨pos, l, rfl, hown, hl, hpn, HP, hb⟩ := hrel
    by_cases hp : pos < n
    · have hps : pos < s.size := by rw [HN.out]; exact hp
      obtain ⟨r, m, hd⟩ : ∃ r m, Utf8.decode s pos = (r, m) := ⟨_, _, rfl⟩
      have hw := width_at s pos r m hps hd
      have HC := hide (chs_at s pos r m hps hd)
      have hlt : (pos : Int) < (s.size : Int) := by omega
      have KD := hide (show Calls Tryd.prog 98 #[.string (s.extract pos s.size)] wr fun e w' => e = .returned (.tuple #[.int .i32 (r : Int), .int .i64 (m : Int)]) ∧ Ext wr w' from (by
        have h := decode_any (s.extract pos s.size) wr (hT.ext hb)
        rw [decode_sub s pos hps, hd] at h
        exact h))
      obtain ⟨ok, HOK⟩ : ∃ ok, Hid ((r != 65533 || m == 3) = ok) := ⟨_, hide rfl⟩
      have HOK2 : Hid ((((r : Int) != 65533) || ((m : Int) == 3)) = ok) := by rw [← ok_bool]; exact HOK.out
      rw [HN.out] at hw
      clear hd hps
      have HPL : Hid ((l ++ [⟨r, pos, m⟩]) ++ chs (s.data.toList.drop (pos + m)) (pos + m) = L) := by
        have h := HP.out
        rw [HC.out] at h
        show _ = L
        rw [← h, List.append_assoc]
        rfl
      have hnm : ∀ (w1 : World), Ext wr w1 → ∀ v' w2, w2.ownsRow w.heap.size 121 3 v' (l.length + 1) (chVs l ++ chV ⟨r, pos, m⟩) → OwnC w2 w.heap.size v' (l ++ [⟨r, pos, m⟩]) := fun w1 _ v' w2 h => by
        unfold OwnC
        rw [List.length_append, chVs_append]
        exact h
      have HNM := hide hnm
      have hone : ∀ u ∈ [Value.int .i32 (r : Int), Value.int .i64 (pos : Int), Value.bool ok], u.oneCell' = true := by
        intro u hu
        simp only [List.mem_cons, List.not_mem_nil, or_false] at hu
        rcases hu with rfl | rfl | rfl <;> rfl
      have HONE := hide hone
      have hcv : chV ⟨r, pos, m⟩ = [.int .i32 (r : Int), .int .i64 (pos : Int), .bool ok] := by
        unfold chV
        rw [HOK.out]
      have HCV := hide hcv
      have HB := hide hb
      have HOWN := hide hown
      clear hnm hone hcv hb hown
      by_cases hr : r = 65533
      · have hr1 : ((r : Int) == 65533) = true := by rw [hr]; rfl
        have hr2 : ((r : Int) != 65533) = false := by rw [hr]; rfl
        have hm3 : ((m : Int) == 3) = ok := by have := HOK2.out; rw [hr2] at this; simpa using this
        clear hr
        go_wp2_with (first
          | (go_at_call 98; refine KD.out.mono ?_; rintro e w1 ⟨rfl, hx1⟩; have hbx : Below w.heap.size w w1 := HB.out.trans (Below.mono hx1 (Below.size HB.out)); have hownx := (HOWN.out.ext hx1).alloc (.cells #[.int .i32 (r : Int), .int .i64 (pos : Int), .bool ok] 121))
          | (at_builtin; refine wpList_append_own _ rfl (.tmp 18) (.tmp 28) 117 rfl w.heap.size 121 i0 z0 3 24 Tryd.underlying117 HI.out HZ.out HSZ.out HBY.out HZS.out (by decide) _ l.length (chVs l) rfl hownx ⟨w1.heap.size, 0, none⟩ 1 1 [.int .i32 (r : Int), .int .i64 (pos : Int), .bool ok] rfl rfl (new_cells _ _ _) HONE.out (by unfold maxLen; omega) (by omega) (Nat.le_trans (Below.size hbx) (by simp)) ?_; intro v2 w2 hown2 hgrow _; have hb2 : Below w.heap.size w w2 := ((hbx.alloc (Below.size hbx) _).grown hgrow (Nat.le_trans (Below.size hbx) (by simp)) (fun k hk => (hownx.lt k hk).1)); rw [← HCV.out] at hown2; have HO2 := hide (HNM.out w1 hx1 v2 w2 hown2); clear hown2 hgrow))
        refine ⟨⟨pos + m, l ++ [⟨r, pos, m⟩], by go_num, HO2.out, by rw [List.length_append]; show l.length + 1 ≤ _; omega, by omega, HPL, hb2⟩, by simp [intOf]; omega⟩
      · have hr1 : ((r : Int) == 65533) = false := i64_ne (by omega)
        have hr2 : ((r : Int) != 65533) = true := by simp; omega
        have hok : ok = true := by have := HOK2.out; rw [hr2] at this; simpa using this.symm
        subst hok
        clear hr
        go_wp2_with (first
          | (go_at_call 98; refine KD.out.mono ?_; rintro e w1 ⟨rfl, hx1⟩; have hbx : Below w.heap.size w w1 := HB.out.trans (Below.mono hx1 (Below.size HB.out)); have hownx := (HOWN.out.ext hx1).alloc (.cells #[.int .i32 (r : Int), .int .i64 (pos : Int), .bool true] 121))
          | (at_builtin; refine wpList_append_own _ rfl (.tmp 18) (.tmp 28) 117 rfl w.heap.size 121 i0 z0 3 24 Tryd.underlying117 HI.out HZ.out HSZ.out HBY.out HZS.out (by decide) _ l.length (chVs l) rfl hownx ⟨w1.heap.size, 0, none⟩ 1 1 [.int .i32 (r : Int), .int .i64 (pos : Int), .bool true] rfl rfl (new_cells _ _ _) HONE.out (by unfold maxLen; omega) (by omega) (Nat.le_trans (Below.size hbx) (by simp)) ?_; intro v2 w2 hown2 hgrow _; have hb2 : Below w.heap.size w w2 := ((hbx.alloc (Below.size hbx) _).grown hgrow (Nat.le_trans (Below.size hbx) (by simp)) (fun k hk => (hownx.lt k hk).1)); rw [← HCV.out] at hown2; have HO2 := hide (HNM.out w1 hx1 v2 w2 hown2); clear hown2 hgrow))
        refine ⟨⟨pos + m, l ++ [⟨r, pos, m⟩], by go_num, HO2.out, by rw [List.length_append]; show l.length + 1 ≤ _; omega, by omega, HPL, hb2⟩, by simp [intOf]; omega⟩
    · obtain rfl : pos = n := by omega
      have hL : l = L := by
        have := HP.out
        rw [List.drop_of_length_le (by rw [size_len, HN.out]; exact Nat.le_refl _), chs_nil, List.append_nil] at this
        exact this
      subst hL
      have hlt : ¬ (pos : Int) < (s.size : Int) := by rw [HN.out]; omega
      have HO := hide hown.chs
      clear hown
      go_wp2
      go_ret
      exact Ret.mk hb HO.out
end Go.Proofs.YtmanflfanoddgaaDoor

/-
  CRC-32: the call, four bits at a time by a table, and the document's own, bit by bit.
  The seat's package-level table, as the rows list it.
  A block of bytes that the call itself made and writes into in place.
  More of what single operations give in a region that draws its order.
  A block of cells that the call itself made: read and written whole and cell by cell; words in such a block.
  Records of the log: plain, and how they lie in memory.
  An argument that is a record of the log.
  Which records there are: the program's Form.
-/
import Derived.Laws.CopyOwn
import Derived.WalkLawsBesides
import Derived.Deep.WholeRow
import Derived.IntWalk
import Derived.Deep.Cut
import Derived.Deep.CutRange
import Derived.Great.BuildSlice
import Derived.Laws.OwnMore
import Derived.Maps.AppendAt
import Derived.BigQuiet
import Derived.Deep.QuietTactic
import Derived.Deep.Slices
import Derived.Lib.SmallJoins
import Derived.OpenShut
import Derived.Test.YthdahgekodcloaaDoorPkCardRcEncodes0

namespace Go.Proofs.YthdahgekodcloaaDoor
open Go.RowKit

/-- The table's cells are in their places. -/
def Tab (w : World) : Prop := ∀ i : Nat, i < 16 → w.cell? ⟨0, i, none⟩ = some (.int .u32 (crcAt i : Int))
theorem Tab.ext {w w' : World} (h : Tab w) (hx : Ext w w') : Tab w' := fun i hi => (Below.cell hx (World.block_lt_of_cell? w _ (h i hi))).trans (h i hi)

theorem Tab.keep {w w' : World} (h : Tab w) (hx : Keeps w w') : Tab w' := fun i hi => hx.cell (h i hi)
theorem half_facts (a : Nat) (h : a < 4294967296) : ∃ t T b : Nat, bits .and .u32 (a : Int) 15 = (t : Int) ∧ t < 16 ∧ Hid (T = crcAt t) ∧ bits .xor .u32 ((a : Int) / 16) (T : Int) = (b : Int) ∧ b < 4294967296 ∧ Hid (b = ch a) := by
  refine ⟨a % 16, crcAt (a % 16), ch a, ?_, Nat.mod_lt _ (by decide), rfl, ?_, ch_lt h, rfl⟩
  · have := u32_and_nat a 15 h (by decide)
    rw [nat_mask4] at this
    exact this
  · have := u32_xor_nat (a / 16) (crcAt (a % 16)) (by omega) (crcAt_lt _)
    rw [Int.natCast_ediv] at this
    exact this
theorem step_facts (c : Nat) (x : UInt8) (h : c < 4294967296) : ∃ a : Nat, bits .xor .u32 (c : Int) (x.toNat : Int) = (a : Int) ∧ a < 4294967296 ∧ Hid (ch (ch a) = crcStep c x) := by
  have hx := x.toNat_lt
  exact ⟨c ^^^ x.toNat, u32_xor_nat _ _ h (by omega), lt32_xor h (by omega), rfl⟩
theorem nat_not32 (s : Nat) (h : s < 4294967296) : 4294967295 ^^^ s = 4294967295 - s := by
  have h1 := BitVec.toNat_not (x := BitVec.ofNat 32 s)
  rw [← BitVec.allOnes_xor, BitVec.toNat_xor, BitVec.toNat_allOnes, BitVec.toNat_ofNat, Nat.mod_eq_of_lt (show s < 2 ^ 32 by omega)] at h1
  exact h1
theorem not32 (s : Nat) (h : s < 4294967296) : bits .xor .u32 4294967295 (s : Int) = ((4294967295 - s : Nat) : Int) := by
  have := u32_xor_nat 4294967295 s (by decide) h
  rw [nat_not32 s h] at this
  exact this
theorem bit_test (s x k : Nat) (hs : s < 4294967296) (hx : x < 256) :
    bits .xor .u32 (bits .and .u32 (s : Int) 1) (bits .and .u32 ((x : Int) / 2 ^ k % 4294967296) 1) = ((s % 2 ^^^ x / 2 ^ k % 2 : Nat) : Int) := by
  have e1 := u32_and_nat s 1 hs (by decide)
  rw [nat_mask1] at e1
  have hxk : x / 2 ^ k < 4294967296 := Nat.lt_of_le_of_lt (Nat.div_le_self _ _) (by omega)
  have e2 := u32_and_nat (x / 2 ^ k) 1 hxk (by decide)
  rw [nat_mask1] at e2
  have e3 : (x : Int) / 2 ^ k % 4294967296 = ((x / 2 ^ k : Nat) : Int) := by
    have h1 : (x : Int) / 2 ^ k = ((x / 2 ^ k : Nat) : Int) := by rw [Int.natCast_ediv, Int.natCast_pow]; rfl
    rw [h1]
    generalize x / 2 ^ k = y at hxk
    omega
  rw [e3]
  have h1 : bits .and .u32 (s : Int) 1 = ((s % 2 : Nat) : Int) := e1
  have h2 : bits .and .u32 ((x / 2 ^ k : Nat) : Int) 1 = ((x / 2 ^ k % 2 : Nat) : Int) := e2
  rw [h1, h2]
  exact u32_xor_nat _ _ (by omega) (by omega)
theorem poly_xor (s : Nat) (hs : s < 4294967296) : bits .xor .u32 ((s : Int) / 2) 3988292384 = ((s / 2 ^^^ 3988292384 : Nat) : Int) := by
  have := u32_xor_nat (s / 2) 3988292384 (by omega) (by decide)
  rw [Int.natCast_ediv] at this
  exact this
theorem crc_take (l : List UInt8) (n : Nat) (x : UInt8) (h : l[n]? = some x) : crcFold (l.take (n + 1)) = crcStep (crcFold (l.take n)) x := by
  rw [List.take_add_one, h, Option.toList_some, crcFold_snoc]

set_option maxHeartbeats 800000 in
theorem sum_any (A : Option Addr) (c : Nat) (l : List UInt8) (w : World) (hr : Rd w A l) (hl : l.length ≤ 140737488355328) (ht : Tab w) :
    Calls Tryd.prog 31 #[.slice A l.length c] w (Ret w (Is (.int .u32 (crc l : Int)))) := by
  go_enter Tryd.func31, Tryd.ntmps31
  go_wp2
  go_loop [3, 8] (fun c i => ∃ (n s : Nat), n ≤ l.length ∧ i = .int .i64 n ∧ s < 4294967296 ∧ Hid (s = crcFold (l.take n)) ∧ c = .int .u32 s) (fun _ i => l.length - (intOf i).toNat)
  case atStart => exact ⟨0, 4294967295, Nat.zero_le _, rfl, by omega, rfl, rfl⟩
  case round =>
    obtain ⟨n, s, hn, rfl, h1, HS, rfl⟩ := hrel
    by_cases hlt : n < l.length
    · obtain ⟨b, off, x, rfl, hx, hc⟩ := hr.at (k := n) hlt
      have hx2 := x.toNat_lt
      have HF := hide (crc_take l n x hx)
      clear hx
      obtain ⟨a, e1, ha, HA⟩ := step_facts s x h1
      obtain ⟨t1, T1, b1, e2, ht1, HT1, e3, hb1, HB1⟩ := half_facts a ha
      obtain ⟨t2, T2, b2, e4, ht2, HT2, e5, hb2, HB2⟩ := half_facts b1 hb1
      have hc1 : w.cell? ⟨0, t1, none⟩ = some (.int .u32 (T1 : Int)) := by rw [HT1.out]; exact ht t1 ht1
      have hc2 : w.cell? ⟨0, t2, none⟩ = some (.int .u32 (T2 : Int)) := by rw [HT2.out]; exact ht t2 ht2
      go_wp2
      refine ⟨⟨n + 1, b2, by omega, by go_num, hb2, ?_, rfl⟩, by simp [intOf]; omega⟩
      show b2 = _
      rw [HF.out, ← HS.out, ← HA.out, HB2.out, HB1.out]
    · obtain rfl : n = l.length := by omega
      go_wp2
      go_ret
      refine Ret.mk (Ext.refl _) ?_
      have := HS.out
      rw [List.take_of_length_le (Nat.le_refl _)] at this
      unfold Is crc
      rw [← this]
      show Value.int .u32 _ = _
      rw [show IntKind.u32.max = 4294967295 from rfl, not32 s h1]

set_option maxHeartbeats 800000 in
theorem rsum_any (A : Option Addr) (c : Nat) (l : List UInt8) (w : World) (hr : Rd w A l) (hl : l.length ≤ 140737488355328) :
    Calls Tryd.prog 26 #[.slice A l.length c] w (Ret w (Is (.int .u32 (crc l : Int)))) := by
  go_enter Tryd.func26, Tryd.ntmps26
  go_wp2
  go_loop [3, 4] (fun c i => ∃ (n s : Nat), n ≤ l.length ∧ i = .int .i64 n ∧ s < 4294967296 ∧ Hid (s = crcFold (l.take n)) ∧ c = .int .u32 s) (fun _ i => l.length - (intOf i).toNat)
  case atStart => exact ⟨0, 4294967295, Nat.zero_le _, rfl, by omega, rfl, rfl⟩
  case round =>
    obtain ⟨n, s, hn, rfl, h1, HS, rfl⟩ := hrel
    by_cases hlt : n < l.length
    · obtain ⟨b, off, x, rfl, hx, hc⟩ := hr.at (k := n) hlt
      have hx2 := x.toNat_lt
      have HF := hide (crc_take l n x hx)
      clear hx
      go_wp2
      go_loop [3, 5] (fun c i => ∃ (k s' : Nat), k ≤ 8 ∧ i = .int .i64 k ∧ s' < 4294967296 ∧ Hid (s' = rbs x.toNat s k) ∧ c = .int .u32 s') (fun _ i => 8 - (intOf i).toNat)
      case atStart => exact ⟨0, s, Nat.zero_le _, rfl, h1, rfl, rfl⟩
      case round =>
        obtain ⟨k, s', hk, rfl, h1', HS', rfl⟩ := hrel
        by_cases hk8 : k < 8
        · go_wp2
          · have hb := (show (bits BinOp.xor IntKind.u32 (bits BinOp.and IntKind.u32 (s' : Int) 1) (bits BinOp.and IntKind.u32 ((x.toNat : Int) / 2 ^ k % 4294967296) 1) == 1) = true by assumption)
            rw [bit_test s' x.toNat k h1' hx2] at hb
            have hb2 : s' % 2 ^^^ x.toNat / 2 ^ k % 2 = 1 := by
              generalize s' % 2 ^^^ x.toNat / 2 ^ k % 2 = z at hb
              simp at hb
              omega
            refine ⟨⟨k + 1, s' / 2 ^^^ 3988292384, by omega, by go_num, lt32_xor (by omega) (by decide), ?_, by rw [poly_xor s' h1']⟩, by simp [intOf]; omega⟩
            show _ = rb _ _ _
            unfold rb
            rw [← HS'.out, if_pos hb2]
          · have hb := (show (bits BinOp.xor IntKind.u32 (bits BinOp.and IntKind.u32 (s' : Int) 1) (bits BinOp.and IntKind.u32 ((x.toNat : Int) / 2 ^ k % 4294967296) 1) == 1) = false by assumption)
            rw [bit_test s' x.toNat k h1' hx2] at hb
            have hb2 : ¬ (s' % 2 ^^^ x.toNat / 2 ^ k % 2 = 1) := by
              intro e
              rw [e] at hb
              simp at hb
            refine ⟨⟨k + 1, s' / 2, by omega, by go_num, by omega, ?_, by go_num⟩, by simp [intOf]; omega⟩
            show _ = rb _ _ _
            unfold rb
            rw [← HS'.out, if_neg hb2, Nat.xor_zero]
        · obtain rfl : k = 8 := by omega
          have HX := hide (HS'.out.trans (rbs_eight x s))
          clear HS'
          go_wp2
          refine ⟨⟨n + 1, s', by omega, by go_num, h1', ?_, rfl⟩, by simp [intOf]; omega⟩
          show s' = _
          rw [HX.out, HF.out, ← HS.out]
    · obtain rfl : n = l.length := by omega
      go_wp2
      go_ret
      refine Ret.mk (Ext.refl _) ?_
      have := HS.out
      rw [List.take_of_length_le (Nat.le_refl _)] at this
      unfold Is crc
      rw [← this]
      show Value.int .u32 _ = _
      rw [show ((4294967295 - s : Nat) : Int) = 4294967295 - (s : Int) from by omega]
end Go.Proofs.YthdahgekodcloaaDoor
namespace Go.Proofs.YthdahgekodcloaaDoor
open Go.RowKit

theorem gTab : Tryd.prog.globalNamed "muniment/octet.halfBytes" = some 0 := by kernel_rfl
theorem gTabType : (Tryd.prog.globals[0]?).map (·.type) = some 67 := by kernel_rfl
theorem cellsTab : Tryd.prog.cellsOf 67 = 16 := by kernel_rfl
theorem cellsU32 : Tryd.prog.cellsOf 58 = 1 := by kernel_rfl
def tabInts : List Int := [0, 498536548, 997073096, 651767980, 1994146192, 1802195444, 1303535960, 1342533948, 3988292384, 4027552580, 3604390888, 3412177804, 2607071920, 2262029012, 2685067896, 3183342108]
theorem tab_of_laid {W : World} (h : laidMetH Tryd.prog [("muniment/octet.halfBytes", Rows.laid_muniment_octet_halfBytes)] W) : Tab W := by
  have ht : Lib.TabIs Tryd.prog W "muniment/octet.halfBytes" .u32 tabInts := Lib.tabIs_of_head (rest := []) gTab gTabType Tryd.underlying67 Tryd.underlying58 cellsU32 cellsTab h
  intro i hi
  have h1 := ht.cell gTab i (by simp [tabInts]; omega)
  rw [h1]
  have h2 : ∀ i : Nat, i < 16 → tabInts.getD i 0 = ((crcAt i : Nat) : Int) := by decide
  rw [h2 i hi]
/-- A world for the witness: the settled one, the table holding what its initialiser lays. -/
noncomputable def laidWorld (os : Os) : World :=
  { World.holding Tryd.prog os ⟨#[], #[], []⟩ with heap := (World.holding Tryd.prog os ⟨#[], #[], []⟩).heap.modify 0 fun
      | .cells _ t frozen => .cells #[.int .u32 0, .int .u32 498536548, .int .u32 997073096, .int .u32 651767980, .int .u32 1994146192, .int .u32 1802195444, .int .u32 1303535960, .int .u32 1342533948, .int .u32 3988292384, .int .u32 4027552580, .int .u32 3604390888, .int .u32 3412177804, .int .u32 2607071920, .int .u32 2262029012, .int .u32 2685067896, .int .u32 3183342108] t frozen
      | o => o }
end Go.Proofs.YthdahgekodcloaaDoor
namespace Go.Proofs.YthdahgekodcloaaDoor
open Go.RowKit

/-- Block g is just the bytes l. -/
def Blk (w : World) (g : Nat) (l : List UInt8) : Prop := w.heap[g]? = some (.cells (bs l).toArray 5 (0, 0))

theorem madeCells_zero (n : Nat) : madeCells #[.int .u8 0] n = (bs (List.replicate n 0)).toArray := by
  apply Array.ext'
  apply List.ext_getElem?
  intro i
  simp [madeCells, bs]
  by_cases h : i < n
  · simp [h, Nat.mod_one]
  · simp [h]
theorem info_size : (Tryd.prog.info? 5).map (·.size) = some 1 := by kernel_rfl

section
variable {w w' : World} {g : Nat} {l : List UInt8}
theorem Blk.made (w : World) (n : Nat) : Blk (w.alloc (.cells (madeCells #[.int .u8 0] n) 5)) w.heap.size (List.replicate n 0) := by
  unfold Blk
  rw [madeCells_zero]
  exact heap_alloc_new w _
theorem Blk.lt (h : Blk w g l) : g < w.heap.size := by
  rcases Nat.lt_or_ge g w.heap.size with h' | h'
  · exact h'
  · unfold Blk at h; rw [Array.getElem?_eq_none h'] at h; cases h
theorem Blk.cell (h : Blk w g l) {i : Nat} {x : UInt8} (hx : l[i]? = some x) : w.cell? ⟨g, i, none⟩ = some (.int .u8 (x.toNat : Int)) := by
  rw [cell_of_row w g i _ _ (0, 0) h, List.getElem?_toArray, bs_get, hx]
  rfl
theorem Blk.frozen (h : Blk w g l) (i : Nat) : w.frozen? ⟨g, i, none⟩ = false := by
  unfold Blk at h
  simp [World.frozen?, h]
theorem Blk.set (h : Blk w g l) (i : Nat) (n : Int) (h0 : 0 ≤ n) (h1 : n < 256) : Blk (w.setCell ⟨g, i, none⟩ (.int .u8 n)) g (l.set i (b8 n)) := by
  unfold Blk at h ⊢
  have e : (bs (l.set i (b8 n))).toArray = (bs l).toArray.setIfInBounds i (.int .u8 n) := by
    rw [List.setIfInBounds_toArray]
    congr 1
    unfold bs
    rw [List.map_set, b8_toNat h0 h1]
  rw [e]
  simp [World.setCell, Array.getElem?_modify, h]
theorem Blk.alloc (h : Blk w g l) (o : Obj) : Blk (w.alloc o) g l := (Below.heap_alloc w o g h.lt).trans h
theorem Blk.ext (h : Blk w g l) (hx : Ext w w') : Blk w' g l := (Below.block hx g h.lt).trans h
theorem Blk.below {B : Nat} (h : Blk w g l) (hb : Below B w w') (hg : g < B) : Blk w' g l := (hb.block g hg).trans h
theorem Blk.far (h : Blk w g l) {p : Addr} (hp : g ≠ p.block) (u : Value) : Blk (w.setCell p u) g l := (Below.heap_setCell w p u g hp).trans h
theorem Blk.rd (h : Blk w g l) : Rd w (some ⟨g, 0, none⟩) l := fun _ => ⟨g, 0, rfl, fun j u hu => by rw [Nat.zero_add]; exact h.cell hu⟩
theorem Blk.bytes (h : Blk w g l) {n c : Nat} (hn : n = l.length) (hc : n ≤ c) : Bytes l w (.slice (some ⟨g, 0, none⟩) n c) := by
  subst hn
  exact ⟨_, _, rfl, hc, h.rd⟩
/-- What stands at the block's cells, from a place on. -/
theorem Blk.rdAt (h : Blk w g l) (k : Nat) : Rd w (some ⟨g, k, none⟩) (l.drop k) := fun _ => ⟨g, k, rfl, fun j u hu => by rw [List.getElem?_drop] at hu; exact h.cell hu⟩
end

theorem run_make_bytes (n : Nat) (hn : n ≤ 281474976710656) (W : World) : (Instr.makeSlice 23 (.int .i64 (n : Int)) (.int .i64 (n : Int))).run Tryd.prog W =
    .ok (.slice (some ⟨W.heap.size, 0, none⟩) n n) (W.alloc (.cells (madeCells #[.int .u8 0] n) 5)) := by
  obtain ⟨i0, hi, hz0, hz1, hz2⟩ := info_parts info_u8
  have h := run_make (P := Tryd.prog) W 23 5 i0 (.int .u8 0) Tryd.underlying23 hi hz0 .i64 .i64 (n : Int) (n : Int) (by omega) (by omega) (by rw [hz2]; omega) (by omega)
  simpa [hz1, Value.cells] using h

/-- m laid over l from a place on. -/
def over (l : List UInt8) (off : Nat) (m : List UInt8) : List UInt8 := l.take off ++ (m ++ l.drop (off + m.length))
theorem over_length (l : List UInt8) (off : Nat) (m : List UInt8) (h : off + m.length ≤ l.length) : (over l off m).length = l.length := by simp [over]; omega

/-- 'copy(d, s)', d within a block of the call's own. -/
theorem wpList_copy {w : World} {ops : Array Oper} {rest : List Oper} {o : Oper} {a : Act} {Q : Exit → Act → World → Prop} (hgd : o.guard = none) (d s : Operand)
    (ho : o.op = .call { callee := .builtin .copy, args := #[d, s], argTypes := #[23, 23] })
    (g off dLen dCap : Nat) (A : Option Addr) (n c : Nat) (hd : a.eval d = .slice (some ⟨g, off, none⟩) dLen dCap) (hs : a.eval s = .slice A n c) (l m : List UInt8) (hn : n = m.length)
    (hg : Blk w g l) (hr : Rd w A m) (hfit : off + min m.length dLen ≤ l.length) (B : Nat) (hBg : B ≤ g)
    (h : ∀ w', Blk w' g (over l off (m.take dLen)) → Below B w w' → wpList Tryd.prog ops Q rest (a.put o.dst (goInt ((min m.length dLen : Nat) : Int))) w') : wpList Tryd.prog ops Q (o :: rest) a w := by
  subst hn
  have hlen : (bs (m.take dLen)).length = Nat.min m.length dLen := by rw [bs_length, List.length_take, Nat.min_comm]
  have e : goInt (bs (m.take dLen)).length = goInt ((min m.length dLen : Nat) : Int) := by rw [hlen]
  refine wpList_copy_splice hgd d s 23 23 ho 5 Tryd.underlying23 info_size (some ⟨g, off, none⟩) A dLen dCap m.length c hd hs g off (bs l) 5 hg (bs (m.take dLen)) hlen ?_ ?_ (bs_one _) B w (Below.refl _ _) hBg ?_
  · intro hp
    refine ⟨rfl, ?_⟩
    have hne : m.take dLen ≠ [] := by intro e; rw [e] at hp; simp [bs] at hp
    obtain ⟨b, o2, hA, hc⟩ := (hr.take dLen) hne
    exact ⟨_, hA, (hr.take dLen).cells hA hne⟩
  · rw [hlen, bs_length]; exact hfit
  · intro w' hw' hb'
    rw [e]
    refine h w' ?_ hb'
    have hw := hw'.out
    have e2 : splice (bs l) off (bs (m.take dLen)) = bs (over l off (m.take dLen)) := by
      unfold splice over bs
      simp only [List.map_append, List.map_take, List.map_drop, List.length_map, List.length_take]
    rw [e2] at hw
    exact hw
end Go.Proofs.YthdahgekodcloaaDoor
namespace Go.Proofs.YthdahgekodcloaaDoor
open Go.RowKit

theorem Ext.drewN {w W : World} (h : Ext w W) (n : Nat) : Ext w (W.drewN n) := ⟨h.os, h.tape, h.output, h.size, h.block⟩

theorem Rd.drewN {w : World} {A : Option Addr} {l : List UInt8} (h : Rd w A l) (n : Nat) : Rd (w.drewN n) A l := h.ext ((Ext.refl w).drewN n)

section
variable {P : Program} {ops : Array Oper} {o : Oper} {a : Act} {w : World} {R : Value → World → Prop}
theorem gives_lss_int {xt yt : Nat} {x y : Operand} {k : IntKind} (m n : Int) (h : o.op = .binOp .lss xt x y yt) (hx : a.eval x = .int k m) (hy : a.eval y = .int k n) (hR : R (.bool (decide (m < n))) w) : gives P o a w R :=
  gives_bin h hx hy (by simp [go_sem]) (by simp [go_sem]) hR
theorem gives_lss_str {xt yt : Nat} {x y : Operand} (l m : List UInt8) (h : o.op = .binOp .lss xt x y yt) (hx : a.eval x = .string ⟨l.toArray⟩) (hy : a.eval y = .string ⟨m.toArray⟩) (hR : R (.bool (Op.bytesLess l m)) w) : gives P o a w R :=
  gives_bin h hx hy (by simp [go_sem]) (by simp [go_sem]) hR
theorem gives_geq_int {xt yt : Nat} {x y : Operand} {k : IntKind} (m n : Int) (h : o.op = .binOp .geq xt x y yt) (hx : a.eval x = .int k m) (hy : a.eval y = .int k n) (hR : R (.bool (decide (n ≤ m))) w) : gives P o a w R :=
  gives_bin h hx hy (by simp [go_sem]) (by simp [go_sem]) hR
theorem gives_gtr_int {xt yt : Nat} {x y : Operand} {k : IntKind} (m n : Int) (h : o.op = .binOp .gtr xt x y yt) (hx : a.eval x = .int k m) (hy : a.eval y = .int k n) (hR : R (.bool (decide (n < m))) w) : gives P o a w R :=
  gives_bin h hx hy (by simp [go_sem]) (by simp [go_sem]) hR
theorem gives_eql_bool {xt yt : Nat} {x y : Operand} (p q : Bool) (hu : P.underlying xt = some .bool) (h : o.op = .binOp .eql xt x y yt) (hx : a.eval x = .bool p) (hy : a.eval y = .bool q) (hR : R (.bool (p == q)) w) : gives P o a w R :=
  gives_bin h hx hy (by simp [go_sem]) (by simp [go_sem, hu]) hR
theorem gives_not {xt : Nat} {x : Operand} (p : Bool) (h : o.op = .unOp .not xt x) (hx : a.eval x = .bool p) (hR : R (.bool !p) w) : gives P o a w R := by
  refine gives_of_run (w' := w) (v := .bool !p) ?_ hR
  have e : (execOp a.eval o).run P w = ((Op.unary .not (a.eval x)).run P w).andThen fun v w' => .ok (.value v) w' := by simp [execOp, h]
  rw [e, hx]
  simp [go_sem]
theorem gives_len {x : Operand} {t : Nat} {A : Option Addr} {n c : Nat} (h : o.op = .call { callee := .builtin .len, args := #[x], argTypes := #[t] }) (ht : ∃ e, P.underlying t = some (.slice e)) (hx : a.eval x = .slice A n c) (hR : R (.int .i64 (n : Int)) w) : gives P o a w R := by
  obtain ⟨e, ht⟩ := ht
  have hlen : (Builtin.len_ #[t] o.type #[.slice A n c]).run P w = .ok (.int .i64 (n : Int)) w := by simp [go_sem, ht]
  refine gives_of_run (w' := w) (v := .int .i64 (n : Int)) ?_ hR
  unfold execOp
  simp only [h, resolve, invoke, builtin, Sem.run_bind, Sem.run_pure, Result.andThen_ok, List.map_toArray, List.map_cons, List.map_nil, hx, hlen]
theorem gives_cut {x y : Operand} {t e : Nat} {A : Option Addr} {n m c : Nat} (h : o.op = .slice t x none (some y) none) (ht : P.underlying t = some (.slice e)) (he : (P.info? e).isSome = true) (hx : a.eval x = .slice A n c) (hy : a.eval y = .int .i64 (m : Int)) (hm : m ≤ c)
    (hR : R (.slice A m c) w) : gives P o a w R := by
  obtain ⟨i, hi⟩ := Option.isSome_iff_exists.1 he
  have hcut : (Instr.slice t (.slice A n c) none (some (.int .i64 (m : Int))) none).run P w = .ok (.slice A m c) w := by
    simp [Instr.slice, run_underlying ht, Instr.sliceBounds, Instr.sliceBound, asIntOf, hm, sizeOf, typeInfo, hi]
    cases A with
    | none => simp
    | some ad => simp [Addr.add]
  have hcut2 : (Instr.sliceAt t (.slice A n c) none (some (.int .i64 (m : Int))) none).run P w = .ok (.slice A m c) w := by simp [Instr.sliceAt, run_underlying ht, hcut]
  refine gives_of_run (w' := w) (v := .slice A m c) ?_ hR
  unfold execOp
  simp only [h, Option.map_some, Option.map_none, hx, hy, Sem.run_bind, hcut2, Result.andThen_ok, Sem.run_pure]
end
end Go.Proofs.YthdahgekodcloaaDoor
namespace Go.Proofs.YthdahgekodcloaaDoor
open Go.RowKit

/-- Block g, laid for the type t, is just these cells. -/
def Rw (w : World) (g : Nat) (t : TypeId) (vs : List Value) : Prop := w.heap[g]? = some (.cells vs.toArray t (0, 0))
section
variable {w w' : World} {g : Nat} {t : TypeId} {vs : List Value}
theorem Rw.new (w : World) (t : TypeId) (vs : List Value) : Rw (w.alloc (.cells vs.toArray t)) w.heap.size t vs := heap_alloc_new w _
theorem Rw.lt (h : Rw w g t vs) : g < w.heap.size := by
  rcases Nat.lt_or_ge g w.heap.size with h' | h'
  · exact h'
  · unfold Rw at h; rw [Array.getElem?_eq_none h'] at h; cases h
theorem Rw.cell (h : Rw w g t vs) {i : Nat} {v : Value} (hx : vs[i]? = some v) : w.cell? ⟨g, i, none⟩ = some v := by
  rw [cell_of_row w g i _ _ (0, 0) h, List.getElem?_toArray, hx]
theorem Rw.frozen (h : Rw w g t vs) (i : Nat) : w.frozen? ⟨g, i, none⟩ = false := by
  unfold Rw at h
  simp [World.frozen?, h]
theorem Rw.set (h : Rw w g t vs) (i : Nat) (v : Value) : Rw (w.setCell ⟨g, i, none⟩ v) g t (vs.set i v) := by
  unfold Rw at h ⊢
  have e : (vs.set i v).toArray = vs.toArray.setIfInBounds i v := by rw [List.setIfInBounds_toArray]
  rw [e]
  simp [World.setCell, Array.getElem?_modify, h]
theorem Rw.ext (h : Rw w g t vs) (hx : Ext w w') : Rw w' g t vs := (Below.block hx g h.lt).trans h
theorem Rw.below {B : Nat} (h : Rw w g t vs) (hb : Below B w w') (hg : g < B) : Rw w' g t vs := (hb.block g hg).trans h
theorem Rw.alloc (h : Rw w g t vs) (o : Obj) : Rw (w.alloc o) g t vs := (Below.heap_alloc w o g h.lt).trans h
theorem Rw.far (h : Rw w g t vs) {p : Addr} (hp : g ≠ p.block) (u : Value) : Rw (w.setCell p u) g t vs := (Below.heap_setCell w p u g hp).trans h
/-- What a whole store leaves: block g turned, all else as it was. -/
structure Laid1 (g : Nat) (w w' : World) : Prop where
  below : Below g w w'
  other : ∀ k, k ≠ g → w'.heap[k]? = w.heap[k]?
theorem Rw.other {k : Nat} (h : Rw w k t vs) (hl : Laid1 g w w') (hk : k ≠ g) : Rw w' k t vs := (hl.other k hk).trans h
theorem Laid1.of_row (w : World) (g : Nat) (cs : Array Value) : Laid1 g w (w.setRow g cs) := ⟨⟨rfl, rfl, rfl, by simp [World.setRow], fun k hk => setRow_other w g k cs (by omega)⟩, fun k hk => setRow_other w g k cs hk⟩
theorem Laid1.of_cell (w : World) (g i : Nat) (u : Value) : Laid1 g w (w.setCell ⟨g, i, none⟩ u) := ⟨Below.setCell (p := ⟨g, i, none⟩) (Below.refl g w) (Nat.le_refl g) u, fun k hk => Below.heap_setCell w _ u k hk⟩
end
/-- Writing above B: nothing below has turned. -/
theorem Below.set {B : Nat} {w w' : World} (h : Below B w w') {p : Addr} (hp : B ≤ p.block) (u : Value) : Below B w (w'.setCell p u) := Below.setCell h hp u
theorem Ext.laid {w w' w'' : World} {g : Nat} (h : Ext w w') (hl : Laid1 g w' w'') (hg : w.heap.size ≤ g) : Ext w w'' := Below.trans h (Below.mono hl.below hg)

section
variable {P : Program} {ops : Array Oper} {rest : List Oper} {o : Oper} {a : Act} {w : World} {Q : Exit → Act → World → Prop} {R : Value → World → Prop}
/-- A whole array read. -/
theorem wpList_load_rw (hgd : o.guard = none) (ty : TypeId) (x : Operand) (ho : o.op = .load ty x) (g : Nat) (hx : a.eval x = .pointer (some ⟨g, 0, none⟩)) (t : TypeId) (vs : List Value) (hr : Rw w g t vs)
    (n : Nat) (e : TypeId) (hu : P.underlying ty = some (.array n e)) (hi : (P.info? ty).map (·.size) = some n) (hn : n = vs.length)
    (h : wpList P ops Q rest (a.put o.dst (.agg vs.toArray)) w) : wpList P ops Q (o :: rest) a w :=
  wpList_load_row hgd ty x ho g hx t vs.toArray (0, 0) _ hr hu rfl (by rw [hi, hn]; simp) h
/-- A whole array laid. -/
theorem wpList_store_rw (hgd : o.guard = none) (ty : TypeId) (x y : Operand) (ho : o.op = .store ty x y) (g : Nat) (hx : a.eval x = .pointer (some ⟨g, 0, none⟩)) (us : List Value) (hy : a.eval y = .agg us.toArray)
    (t : TypeId) (vs : List Value) (hr : Rw w g t vs) (n : Nat) (hi : (P.info? ty).map (·.size) = some n) (hn : n = us.length) (hm : vs.length = us.length) (h1 : us.all (·.oneCell') = true)
    (h : ∀ w', Rw w' g t us → Laid1 g w w' → wpList P ops Q rest (a.put o.dst undef) w') : wpList P ops Q (o :: rest) a w :=
  wpList_store_row hgd ty x y ho g us.toArray hx hy t vs.toArray hr (by rw [hi, hn]; simp) (by simpa using hm) (by simpa using h1) (h _ (setRow_heap w g _ _ t _ hr) (Laid1.of_row w g _))
theorem gives_load_rw (ty : TypeId) (x : Operand) (ho : o.op = .load ty x) (g : Nat) (hx : a.eval x = .pointer (some ⟨g, 0, none⟩)) (t : TypeId) (vs : List Value) (hr : Rw w g t vs)
    (n : Nat) (e : TypeId) (hu : P.underlying ty = some (.array n e)) (hi : (P.info? ty).map (·.size) = some n) (hn : n = vs.length) (hR : R (.agg vs.toArray) w) : gives P o a w R := by
  unfold gives execOp
  simp only [ho, hx, Instr.loadAt, Instr.sureAddr, Sem.run_bind, Sem.run_pure, Result.andThen_ok, run_loadVar_row w g t ty vs.toArray (0, 0) _ hr hu rfl (by rw [hi, hn]; simp)]
  exact hR
theorem gives_store_rw (ty : TypeId) (x y : Operand) (ho : o.op = .store ty x y) (g : Nat) (hx : a.eval x = .pointer (some ⟨g, 0, none⟩)) (us : List Value) (hy : a.eval y = .agg us.toArray)
    (t : TypeId) (vs : List Value) (hr : Rw w g t vs) (n : Nat) (hi : (P.info? ty).map (·.size) = some n) (hn : n = us.length) (hm : vs.length = us.length) (h1 : us.all (·.oneCell') = true)
    (hR : ∀ w', Rw w' g t us → Laid1 g w w' → R undef w') : gives P o a w R := by
  unfold gives execOp
  simp only [ho, hx, hy, Instr.storeAt, Instr.sureAddr, Sem.run_bind, Sem.run_pure, Result.andThen_ok, run_storeVar_row w g t ty vs.toArray us.toArray hr (by rw [hi, hn]; simp) (by simpa using hm) (by simpa using h1)]
  exact hR _ (setRow_heap w g _ _ t _ hr) (Laid1.of_row w g _)
/-- A result out of its cell. -/
theorem ret_rw {fn : Func} {p : Tmp} {ty : TypeId} {S : Ending → World → Prop} (hf : fn.results = #[.cell p ty]) (hd : a.defers = []) (g : Nat) (hp : a.tmps.getD p undef = .pointer (some ⟨g, 0, none⟩)) (t : TypeId) (vs : List Value) (hr : Rw w g t vs)
    (n : Nat) (e : TypeId) (hu : P.underlying ty = some (.array n e)) (hi : (P.info? ty).map (·.size) = some n) (hn : n = vs.length) (h : S (.returned (.agg vs.toArray)) w) : bodyPost P fn S .ret a w :=
  bodyPost_ret (results_cell_row hf a.tmps w g t vs.toArray (0, 0) _ hp hr hu rfl (by rw [hi, hn]; simp)) hd h
end

/-- Words as values. -/
def us (l : List Nat) : List Value := l.map fun (n : Nat) => .int .u32 (n : Int)
theorem us_length (l : List Nat) : (us l).length = l.length := by simp [us]
theorem us_get (l : List Nat) (i : Nat) : (us l)[i]? = l[i]?.map fun (n : Nat) => .int .u32 (n : Int) := by simp [us]
theorem us_one (l : List Nat) : (us l).all (·.oneCell') = true := by simp [us, Value.oneCell']
/-- Block g, laid for the type t, is just these words. -/
def Wds (w : World) (g : Nat) (t : TypeId) (l : List Nat) : Prop := Rw w g t (us l)
section
variable {w w' : World} {g : Nat} {t : TypeId} {l : List Nat}
theorem Wds.new (w : World) (t : TypeId) (l : List Nat) : Wds (w.alloc (.cells (us l).toArray t)) w.heap.size t l := heap_alloc_new w _
theorem Wds.lt (h : Wds w g t l) : g < w.heap.size := Rw.lt h
theorem Wds.cell (h : Wds w g t l) {i n : Nat} (hx : l[i]? = some n) : w.cell? ⟨g, i, none⟩ = some (.int .u32 (n : Int)) := Rw.cell h (by rw [us_get, hx]; rfl)
theorem Wds.frozen (h : Wds w g t l) (i : Nat) : w.frozen? ⟨g, i, none⟩ = false := Rw.frozen h i
theorem Wds.put (h : Wds w g t l) (i : Nat) {v : Int} (n : Nat) (hv : v = (n : Int)) {m : List Nat} (hm : l.set i n = m) : Wds (w.setCell ⟨g, i, none⟩ (.int .u32 v)) g t m := by
  subst hv hm
  have := Rw.set h i (.int .u32 (n : Int))
  unfold Wds us
  rw [List.map_set]
  exact this
theorem Wds.ext (h : Wds w g t l) (hx : Ext w w') : Wds w' g t l := Rw.ext h hx
theorem Wds.below {B : Nat} (h : Wds w g t l) (hb : Below B w w') (hg : g < B) : Wds w' g t l := Rw.below h hb hg
theorem Wds.far (h : Wds w g t l) {p : Addr} (hp : g ≠ p.block) (u : Value) : Wds (w.setCell p u) g t l := Rw.far h hp u
theorem Wds.other {k : Nat} (h : Wds w k t l) (hl : Laid1 g w w') (hk : k ≠ g) : Wds w' k t l := Rw.other h hl hk
end
theorem set_mid (a : List Nat) (n : Nat) (v : Nat) (k : Nat) (hk : k = a.length) (h : 0 < n) : (a ++ List.replicate n 0).set k v = (a ++ [v]) ++ List.replicate (n - 1) 0 := by
  subst hk
  obtain ⟨m, rfl⟩ : ∃ m, n = m + 1 := ⟨n - 1, by omega⟩
  rw [List.set_append_right _ _ (Nat.le_refl _), Nat.sub_self, List.replicate_succ, List.set_cons_zero]
  simp
end Go.Proofs.YthdahgekodcloaaDoor
namespace Go.Proofs.YthdahgekodcloaaDoor
open Go.RowKit

/-- A record. -/
structure Rec where
  k : Int
  tx : Int
  pv : Int
  pg : Int
  off : Int
  bf : List UInt8
  af : List UInt8
  nx : Int
  dl : List (Int × Int)
  op : Bool
/-- Numbers are within their kinds. -/
structure Rec.Ok (r : Rec) : Prop where
  k : 0 ≤ r.k ∧ r.k < 256
  tx : 0 ≤ r.tx ∧ r.tx < 18446744073709551616
  pv : 0 ≤ r.pv ∧ r.pv < 18446744073709551616
  pg : -9223372036854775808 ≤ r.pg ∧ r.pg < 9223372036854775808
  off : -9223372036854775808 ≤ r.off ∧ r.off < 9223372036854775808
  nx : 0 ≤ r.nx ∧ r.nx < 18446744073709551616
  dl : ∀ d ∈ r.dl, (-9223372036854775808 ≤ d.1 ∧ d.1 < 9223372036854775808) ∧ 0 ≤ d.2 ∧ d.2 < 18446744073709551616
  bn : r.bf.length ≤ 140737488351232
  an : r.af.length ≤ 140737488351232
  dn : r.dl.length ≤ 140737488351232
def hok (k : Int) : Bool := decide (1 ≤ k) && decide (k ≤ 6)
def hpv (k : Int) : Bool := decide (2 ≤ k) && decide (k ≤ 6)
def hch (k : Int) : Bool := (k == 2) || (k == 3)
def hbf (k : Int) : Bool := k == 2
def hnx (k : Int) : Bool := k == 3
def hck (k : Int) : Bool := k == 6
def isPg (n : Int) : Bool := decide (0 ≤ n) && decide (n < 4096)
def chgB (r : Rec) (c b : Bool) : Bool := if c then isPg r.pg && (decide (1 ≤ r.af.length) && ((r.bf.length == if b then r.af.length else 0) && (decide (0 ≤ r.off) && decide (r.off ≤ 512 - (r.af.length : Int))))) else (r.pg == 0) && ((r.off == 0) && ((r.af.length == 0) && (r.bf.length == 0)))
/-- The dirty pages rise. -/
def risB : Int → List (Int × Int) → Bool
  | _, [] => true
  | last, d :: l => decide (last < d.1) && (decide (d.1 < 4096) && risB d.1 l)
def chkB (r : Rec) (x : Bool) : Bool := if x then decide (r.dl.length ≤ 64) && risB (-1) r.dl else (r.dl.length == 0) && !r.op
def formR (r : Rec) : Bool := hok r.k && ((hpv r.k || (r.pv == 0)) && ((hnx r.k || (r.nx == 0)) && (chgB r (hch r.k) (hbf r.k) && chkB r (hck r.k))))
/-- The slice at A reads as these dirty pages. -/
def RdD (w : World) (A : Option Addr) (L : List (Int × Int)) : Prop :=
  L ≠ [] → ∃ b off, A = some ⟨b, off, none⟩ ∧ ∀ j d, L[j]? = some d → w.cell? ⟨b, off + j * 2, none⟩ = some (.int .i64 d.1) ∧ w.cell? ⟨b, off + j * 2 + 1, none⟩ = some (.int .u64 d.2)
theorem RdD.nil (w : World) (A : Option Addr) : RdD w A [] := fun h => absurd rfl h
theorem RdD.keep {w w' : World} {A : Option Addr} {L : List (Int × Int)} (h : RdD w A L) (hx : Keeps w w') : RdD w' A L := fun hn => by
  obtain ⟨b, off, hA, hc⟩ := h hn
  exact ⟨b, off, hA, fun j d hj => ⟨hx.cell (hc j d hj).1, hx.cell (hc j d hj).2⟩⟩
theorem RdD.ext {w w' : World} {A : Option Addr} {L : List (Int × Int)} (h : RdD w A L) (hx : Ext w w') : RdD w' A L := h.keep hx.keeps
theorem RdD.at {w : World} {A : Option Addr} {L : List (Int × Int)} (h : RdD w A L) {j : Nat} {d : Int × Int} (hj : L[j]? = some d) : ∃ b off, A = some ⟨b, off, none⟩ ∧ w.cell? ⟨b, off + j * 2, none⟩ = some (.int .i64 d.1) ∧ w.cell? ⟨b, off + j * 2 + 1, none⟩ = some (.int .u64 d.2) := by
  obtain ⟨b, off, hA, hc⟩ := h (by intro e; rw [e] at hj; cases hj)
  exact ⟨b, off, hA, (hc j d hj).1, (hc j d hj).2⟩
/-- Where a record's lists lie, and how much room they have. -/
structure Pls where
  A : Option Addr
  a : Nat
  B : Option Addr
  b : Nat
  D : Option Addr
  d : Nat
/-- A record's ten values. -/
def rcV (r : Rec) (t : Pls) : List Value := [.int .u8 r.k, .int .u64 r.tx, .int .u64 r.pv, .int .i64 r.pg, .int .i64 r.off, .slice t.A r.bf.length t.a, .slice t.B r.af.length t.b, .int .u64 r.nx, .slice t.D r.dl.length t.d, .bool r.op]
/-- A record's lists lie there. -/
structure RcM (w : World) (r : Rec) (t : Pls) : Prop where
  ok : r.Ok
  bf : Rd w t.A r.bf
  af : Rd w t.B r.af
  dl : RdD w t.D r.dl
  bc : r.bf.length ≤ t.a
  ac : r.af.length ≤ t.b
  dc : r.dl.length ≤ t.d
theorem RcM.keep {w w' : World} {r : Rec} {t : Pls} (h : RcM w r t) (hx : Keeps w w') : RcM w' r t := ⟨h.ok, h.bf.keep hx, h.af.keep hx, h.dl.keep hx, h.bc, h.ac, h.dc⟩
theorem RcM.ext {w w' : World} {r : Rec} {t : Pls} (h : RcM w r t) (hx : Ext w w') : RcM w' r t := h.keep hx.keeps
/-- A value of a bool, in a grown world. -/
def RetB (w : World) (b : Bool) (e : Ending) (w' : World) : Prop := e = .returned (.bool b) ∧ Ext w w'
end Go.Proofs.YthdahgekodcloaaDoor
namespace Go.Proofs.YthdahgekodcloaaDoor
open Go.ChangeShapes Go.WideShapes Go.ChangeAt Go.RowKit

section
variable {H : Type} {enc : TypeId × Value → H} {W : World}
/-- What a slice of bytes reads as. -/
def BytesD (d : DataW H) (l : List UInt8) : Prop := (d = .nil ∧ l = []) ∨ ∃ elems spare, d = .slice elems spare ∧ elems.length = l.length
set_option maxRecDepth 100000 in
theorem bytes_open {n : Nat} {cs : List Value} {y : DataW H × List MemPlace} (hn : DataW.trod enc Tryd.prog W 0 (fun _ => true) true n 23 cs = some y) :
    ∃ A c l, cs = [.slice A l.length c] ∧ l.length ≤ c ∧ Rd W A l ∧ BytesD y.1 l := by
  rcases open_ints Tryd.underlying23 Tryd.underlying5 (by kernel_rfl) hn with ⟨hc, hx⟩ | ⟨a, len, cap, zs, hc, _, hlc, _, hz, hx, hcell, hwf⟩
  · subst hx
    exact ⟨none, 0, [], hc, Nat.le_refl _, Rd.nil _ _, .inl ⟨rfl, rfl⟩⟩
  · subst hx
    simp only [if_true] at hz
    have hlen : ((zs.take len).map b8).length = len := by simp; omega
    refine ⟨some a, cap, (zs.take len).map b8, by rw [hlen]; exact hc, by rw [hlen]; exact hlc, fun hn0 => ?_, .inr ⟨_, _, rfl, ?_⟩⟩
    · have hp : 0 < zs.length := by
        have : len ≠ 0 := by intro e; apply hn0; apply List.length_eq_zero_iff.1; rw [hlen, e]
        omega
      obtain ⟨b, off, rfl, hcl⟩ := ints_at hcell hp
      refine ⟨b, off, rfl, fun j u hu => ?_⟩
      have hj := (List.getElem?_eq_some_iff.1 hu).1
      rw [hlen] at hj
      rw [hcl j (by omega)]
      rw [List.getElem?_map, List.getElem?_take_of_lt hj, List.getElem?_eq_getElem (by omega)] at hu
      have hu' : b8 zs[j] = u := by simpa using hu
      have hw := bounds_u8 (hwf zs[j] (List.getElem_mem _))
      rw [← hu', b8_toNat hw.1 (by omega), List.getD_eq_getElem?_getD, List.getElem?_eq_getElem (by omega)]
      rfl
    · rw [hlen]; simp [lits]; omega
set_option maxRecDepth 100000 in
theorem dirt_open {n : Nat} {cs : List Value} {y : DataW H × List MemPlace} (h : DataW.trod enc Tryd.prog W 0 (fun _ => true) true n 47 cs = some y) :
    ∃ e : Int × Int, cs = [.int .i64 e.1, .int .u64 e.2] ∧ (-9223372036854775808 ≤ e.1 ∧ e.1 < 9223372036854775808) ∧ 0 ≤ e.2 ∧ e.2 < 18446744073709551616 := by
  obtain ⟨xs, m, rfl, rfl, hl, hxl, hall⟩ := DataW.trod_struct Tryd.underlying47 h
  have hcl : cs.length = 2 := hl.trans (by kernel_rfl)
  match cs, hcl with
  | [v1, v2], _ =>
    have h0 := hall 0 _ rfl
    have h1 := hall 1 _ rfl
    have hx2 : xs.length = 2 := hxl
    match xs, hx2 with
    | [y0, y1], _ =>
      have e0 : DataW.trod enc Tryd.prog W 0 (fun _ => true) true m 3 [v1] = some y0 := h0
      have e1 : DataW.trod enc Tryd.prog W 0 (fun _ => true) true m 22 [v2] = some y1 := h1
      obtain ⟨a, ha, _, wa⟩ := DataW.trod_int Tryd.underlying3 e0
      obtain ⟨b, hb, _, wb⟩ := DataW.trod_int Tryd.underlying22 e1
      injection ha with ha
      injection hb with hb
      have i1 := bounds_i64 wa
      have i2 := bounds_u64 wb
      exact ⟨(a, b), by rw [ha, hb], ⟨i1.1, by omega⟩, i2.1, by omega⟩
/-- What a slice of dirty pages reads as. -/
def DirtD (d : DataW H) (L : List (Int × Int)) : Prop := (d = .nil ∧ L = []) ∨ ∃ elems spare, d = .slice elems spare ∧ elems.length = L.length
set_option maxRecDepth 100000 in
theorem dirts_open {n : Nat} {cs : List Value} {y : DataW H × List MemPlace} (hn : DataW.trod enc Tryd.prog W 0 (fun _ => true) true n 24 cs = some y) :
    ∃ A c L, cs = [.slice A L.length c] ∧ L.length ≤ c ∧ RdD W A L ∧ (∀ e ∈ L, (-9223372036854775808 ≤ e.1 ∧ e.1 < 9223372036854775808) ∧ 0 ≤ e.2 ∧ e.2 < 18446744073709551616) ∧ DirtD y.1 L := by
  rcases Deep.open_slice Tryd.underlying24 hn with ⟨hc, rfl⟩ | ⟨a, len, cap, m, n', D, Pl, hc, _, hlc, _, hm, rfl, hx⟩
  · exact ⟨none, 0, [], hc, Nat.le_refl _, RdD.nil _ _, fun e h => (by cases h), .inl ⟨rfl, rfl⟩⟩
  · simp only [if_true] at hm
    subst hm
    have hce : Tryd.prog.cellsOf 47 = 2 := by kernel_rfl
    rw [hce] at hx
    have each : ∀ i, i < m → ∃ e : Int × Int, (W.cell? (a.add (i * 2)) = some (.int .i64 e.1) ∧ W.cell? ((a.add (i * 2)).add 1) = some (.int .u64 e.2)) ∧ (-9223372036854775808 ≤ e.1 ∧ e.1 < 9223372036854775808) ∧ 0 ≤ e.2 ∧ e.2 < 18446744073709551616 := fun i hi => by
      obtain ⟨cs', h1, h2⟩ := hx i hi
      obtain ⟨e, rfl, r1, r2⟩ := dirt_open h2
      obtain ⟨_, _, hcc⟩ := World.cells?_some h1
      have q0 := hcc 0 (by simp)
      have q1 := hcc 1 (by simp)
      have e0 : (a.add (i * 2)).add 0 = a.add (i * 2) := by unfold Addr.add; simp
      rw [e0] at q0
      exact ⟨e, ⟨q0, q1⟩, r1, r2⟩
    obtain ⟨X, hX⟩ := Deep.choose_lt each
    have hlen : ((List.range len).map X).length = len := by simp
    have hmem : ∀ j e, ((List.range len).map X)[j]? = some e → j < len ∧ X j = e := fun j e hj => by
      have hjl := (List.getElem?_eq_some_iff.1 hj).1
      rw [hlen] at hjl
      rw [List.getElem?_map, List.getElem?_range hjl] at hj
      exact ⟨hjl, by simpa using hj⟩
    refine ⟨some a, m, (List.range len).map X, by rw [hlen]; exact hc, by rw [hlen]; exact hlc, fun hn0 => ?_, fun e he => ?_, .inr ⟨_, _, rfl, by simp⟩⟩
    · have hp : 0 < len := by
        rcases Nat.eq_zero_or_pos len with h | h
        · exfalso; apply hn0; rw [h]; rfl
        · exact h
      obtain ⟨b, off, spot⟩ := a
      have hspot : spot = none := by
        obtain ⟨⟨g1, _⟩, _⟩ := hX 0 (by omega)
        simpa [Addr.add] using World.cell?_spot g1
      subst hspot
      refine ⟨b, off, rfl, fun j e hj => ?_⟩
      obtain ⟨hjl, hj2⟩ := hmem j e hj
      obtain ⟨⟨g1, g2⟩, _⟩ := hX j (by omega)
      rw [hj2] at g1 g2
      rw [add_flat] at g1 g2
      rw [add_flat] at g2
      exact ⟨g1, g2⟩
    · obtain ⟨j, hj⟩ := List.mem_iff_getElem?.1 he
      obtain ⟨hjl, hj2⟩ := hmem j e hj
      obtain ⟨_, g⟩ := hX j (by omega)
      rw [hj2] at g
      exact g
theorem weights_all {P : Program} {e : TypeId} : ∀ {l : List (DataW H)} {d : DataW H}, d ∈ l → ∀ n ∈ d.weights P e, n ∈ DataW.weightsAll P e l
  | [], _, h, _, _ => by cases h
  | x :: r, d, h, n, hn => by
    simp only [DataW.weightsAll, List.mem_append]
    rcases List.mem_cons.1 h with rfl | h
    · exact .inl hn
    · exact .inr (weights_all h n hn)
theorem bytes_small {d : DataW H} {l : List UInt8} (h : BytesD d l) (hw : ∀ n ∈ d.weights Tryd.prog 23, n ≤ reachBytes) : l.length ≤ 140737488351232 := by
  rcases h with ⟨_, rfl⟩ | ⟨elems, spare, rfl, hl⟩
  · exact Nat.zero_le _
  · have h1 := hw ((elems.length + spare.length) * Tryd.prog.bytesOf 5) (by simp [DataW.weights, Tryd.underlying23])
    have e : Tryd.prog.bytesOf 5 = 1 := by kernel_rfl
    rw [e] at h1
    unfold reachBytes at h1
    omega
theorem arg_small {P : Program} {ts : List TypeId} {ds : List (DataW H)} {j : Nat} {t : TypeId} {d : DataW H} (hz : (DataW.weightsEach P ts ds).all (· ≤ reachBytes) = true) (ht : ts[j]? = some t) (hd : ds[j]? = some d) : ∀ n ∈ d.weights P t, n ≤ reachBytes := fun n hn => by
  have := List.all_eq_true.1 hz _ (DataW.weights_mem_each ht hd n hn)
  simpa using this
/-- What a record's lists read as. -/
def RecD (d : DataW H) (bf af : List UInt8) (L : List (Int × Int)) : Prop := ∃ d0 d1 d2 d3 d4 d5 d6 d7 d8 d9, d = .agg [d0, d1, d2, d3, d4, d5, d6, d7, d8, d9] ∧ BytesD d5 bf ∧ BytesD d6 af ∧ DirtD d8 L
theorem rec_small {d : DataW H} {bf af : List UInt8} {L : List (Int × Int)} (h : RecD d bf af L) (hw : ∀ n ∈ d.weights Tryd.prog 26, n ≤ reachBytes) : bf.length ≤ 140737488351232 ∧ af.length ≤ 140737488351232 ∧ L.length ≤ 140737488351232 := by
  obtain ⟨d0, d1, d2, d3, d4, d5, d6, d7, d8, d9, rfl, b5, b6, b8⟩ := h
  have each : ∀ (j : Nat) (t : TypeId) (e : DataW H), [5, 22, 22, 3, 3, 23, 23, 22, 24, 4][j]? = some t → [d0, d1, d2, d3, d4, d5, d6, d7, d8, d9][j]? = some e → ∀ n ∈ e.weights Tryd.prog t, n ≤ reachBytes := fun j t e ht he n hn => hw n (by
    simp only [DataW.weights, Tryd.underlying26]
    exact DataW.weights_mem_each (ts := [5, 22, 22, 3, 3, 23, 23, 22, 24, 4]) (j := j) ht he n hn)
  refine ⟨bytes_small b5 (each 5 _ _ rfl rfl), bytes_small b6 (each 6 _ _ rfl rfl), ?_⟩
  have h8 := each 8 _ _ rfl rfl
  rcases b8 with ⟨_, rfl⟩ | ⟨elems, spare, rfl, hl⟩
  · exact Nat.zero_le _
  · have h1 := h8 ((elems.length + spare.length) * Tryd.prog.bytesOf 47) (by simp [DataW.weights, Tryd.underlying24])
    have e : Tryd.prog.bytesOf 47 = 16 := by kernel_rfl
    rw [e] at h1
    unfold reachBytes at h1
    omega
set_option maxRecDepth 100000 in
/-- An argument that is a record. -/
theorem open_record {base : Nat} {v : Value} {d : DataW H} {ps : List MemPlace} (hval : Value.okWide Tryd.prog W .any base 26 v)
    (h : DataW.Trod enc Tryd.prog W 0 (fun _ => true) true 26 v d ps) :
    ∃ (k tx pv pg off nx : Int) (A B D : Option Addr) (a b d' : Nat) (bf af : List UInt8) (L : List (Int × Int)) (op : Bool), v = .agg #[.int .u8 k, .int .u64 tx, .int .u64 pv, .int .i64 pg, .int .i64 off, .slice A bf.length a, .slice B af.length b, .int .u64 nx, .slice D L.length d', .bool op] ∧
      Rd W A bf ∧ Rd W B af ∧ RdD W D L ∧ (bf.length ≤ a ∧ af.length ≤ b ∧ L.length ≤ d') ∧ (0 ≤ k ∧ k ≤ 255) ∧ (0 ≤ tx ∧ tx ≤ 18446744073709551615) ∧ (0 ≤ pv ∧ pv ≤ 18446744073709551615) ∧ (-9223372036854775808 ≤ pg ∧ pg ≤ 9223372036854775807) ∧ (-9223372036854775808 ≤ off ∧ off ≤ 9223372036854775807) ∧ (0 ≤ nx ∧ nx ≤ 18446744073709551615) ∧
      (∀ e ∈ L, (-9223372036854775808 ≤ e.1 ∧ e.1 < 9223372036854775808) ∧ 0 ≤ e.2 ∧ e.2 < 18446744073709551616) ∧ RecD d bf af L := by
  obtain ⟨cs, rfl, hsz⟩ := okWide_struct Tryd.underlying26 hval
  obtain ⟨fuel, hf⟩ := h
  obtain ⟨xs, m, _, hxx, hl, hxl, hall⟩ := DataW.trod_struct Tryd.underlying26 hf
  obtain ⟨l⟩ := cs
  have hcl : l.length = 10 := hsz.trans (by kernel_rfl)
  match l, hcl with
  | [v0, v1, v2, v3, v4, v5, v6, v7, v8, v9], _ =>
    have hx2 : xs.length = 10 := hxl
    match xs, hx2 with
    | [y0, y1, y2, y3, y4, y5, y6, y7, y8, y9], _ =>
      simp only [Prod.mk.injEq] at hxx
      have e0 : DataW.trod enc Tryd.prog W 0 (fun _ => true) true m 5 [v0] = some y0 := hall 0 _ rfl
      have e1 : DataW.trod enc Tryd.prog W 0 (fun _ => true) true m 22 [v1] = some y1 := hall 1 _ rfl
      have e2 : DataW.trod enc Tryd.prog W 0 (fun _ => true) true m 22 [v2] = some y2 := hall 2 _ rfl
      have e3 : DataW.trod enc Tryd.prog W 0 (fun _ => true) true m 3 [v3] = some y3 := hall 3 _ rfl
      have e4 : DataW.trod enc Tryd.prog W 0 (fun _ => true) true m 3 [v4] = some y4 := hall 4 _ rfl
      have e5 : DataW.trod enc Tryd.prog W 0 (fun _ => true) true m 23 [v5] = some y5 := hall 5 _ rfl
      have e6 : DataW.trod enc Tryd.prog W 0 (fun _ => true) true m 23 [v6] = some y6 := hall 6 _ rfl
      have e7 : DataW.trod enc Tryd.prog W 0 (fun _ => true) true m 22 [v7] = some y7 := hall 7 _ rfl
      have e8 : DataW.trod enc Tryd.prog W 0 (fun _ => true) true m 24 [v8] = some y8 := hall 8 _ rfl
      have e9 : DataW.trod enc Tryd.prog W 0 (fun _ => true) true m 4 [v9] = some y9 := hall 9 _ rfl
      obtain ⟨k, h0, _, w0⟩ := DataW.trod_int Tryd.underlying5 e0
      obtain ⟨tx, h1, _, w1⟩ := DataW.trod_int Tryd.underlying22 e1
      obtain ⟨pv, h2, _, w2⟩ := DataW.trod_int Tryd.underlying22 e2
      obtain ⟨pg, h3, _, w3⟩ := DataW.trod_int Tryd.underlying3 e3
      obtain ⟨off, h4, _, w4⟩ := DataW.trod_int Tryd.underlying3 e4
      obtain ⟨A, a, bf, h5, c5, r5, b5⟩ := bytes_open e5
      obtain ⟨B, b, af, h6, c6, r6, b6⟩ := bytes_open e6
      obtain ⟨nx, h7, _, w7⟩ := DataW.trod_int Tryd.underlying22 e7
      obtain ⟨D, d', L, h8, c8, r8, o8, b8⟩ := dirts_open e8
      obtain ⟨op, h9, _⟩ := DataW.trod_bool Tryd.underlying4 e9
      injection h0 with h0
      injection h1 with h1
      injection h2 with h2
      injection h3 with h3
      injection h4 with h4
      injection h5 with h5
      injection h6 with h6
      injection h7 with h7
      injection h8 with h8
      injection h9 with h9
      subst h0 h1 h2 h3 h4 h5 h6 h7 h8 h9
      exact ⟨k, tx, pv, pg, off, nx, A, B, D, a, b, d', bf, af, L, op, rfl, r5, r6, r8, ⟨c5, c6, c8⟩, bounds_u8 w0, bounds_u64 w1, bounds_u64 w2, bounds_i64 w3, bounds_i64 w4, bounds_u64 w7, o8, _, _, _, _, _, _, _, _, _, _, hxx.1, b5, b6, b8⟩
end
end Go.Proofs.YthdahgekodcloaaDoor
namespace Go.Proofs.YthdahgekodcloaaDoor
open Go.RowKit

def PartsP (k : Int) (w : World) (e : Ending) (w' : World) : Prop := e = .returned (.tuple #[.agg #[.bool (hpv k), .bool (hch k), .bool (hbf k), .bool (hnx k), .bool (hck k)], .bool (hok k)]) ∧ Ext w w'
set_option maxRecDepth 20000 in
set_option maxHeartbeats 1600000 in
theorem partsOf_any (k : Int) (w : World) : Calls Tryd.prog 16 #[.int .u8 k] w (PartsP k w) := by
  by_cases h1 : k = 1
  · subst h1
    go_enter Tryd.func16, Tryd.ntmps16
    go_wp2
    exact bodyPost_ret (v := .tuple #[.agg #[.bool false, .bool false, .bool false, .bool false, .bool false], .bool true]) (by simp [results, Tryd.results16, go_sem]) rfl ⟨rfl, Ext.alloc _ _⟩
  by_cases h2 : k = 2
  · subst h2
    clear h1
    go_enter Tryd.func16, Tryd.ntmps16
    go_wp2
    exact bodyPost_ret (v := .tuple #[.agg #[.bool true, .bool true, .bool true, .bool false, .bool false], .bool true]) (by simp [results, Tryd.results16, go_sem]) rfl ⟨rfl, Ext.alloc _ _⟩
  by_cases h3 : k = 3
  · subst h3
    clear h1
    clear h2
    go_enter Tryd.func16, Tryd.ntmps16
    go_wp2
    exact bodyPost_ret (v := .tuple #[.agg #[.bool true, .bool true, .bool false, .bool true, .bool false], .bool true]) (by simp [results, Tryd.results16, go_sem]) rfl ⟨rfl, Ext.alloc _ _⟩
  by_cases h4 : k = 4
  · subst h4
    clear h1
    clear h2
    clear h3
    go_enter Tryd.func16, Tryd.ntmps16
    go_wp2
    exact bodyPost_ret (v := .tuple #[.agg #[.bool true, .bool false, .bool false, .bool false, .bool false], .bool true]) (by simp [results, Tryd.results16, go_sem]) rfl ⟨rfl, Ext.alloc _ _⟩
  by_cases h5 : k = 5
  · subst h5
    clear h1
    clear h2
    clear h3
    clear h4
    go_enter Tryd.func16, Tryd.ntmps16
    go_wp2
    exact bodyPost_ret (v := .tuple #[.agg #[.bool true, .bool false, .bool false, .bool false, .bool false], .bool true]) (by simp [results, Tryd.results16, go_sem]) rfl ⟨rfl, Ext.alloc _ _⟩
  by_cases h6 : k = 6
  · subst h6
    clear h1
    clear h2
    clear h3
    clear h4
    clear h5
    go_enter Tryd.func16, Tryd.ntmps16
    go_wp2
    exact bodyPost_ret (v := .tuple #[.agg #[.bool true, .bool false, .bool false, .bool false, .bool true], .bool true]) (by simp [results, Tryd.results16, go_sem]) rfl ⟨rfl, Ext.alloc _ _⟩
  have HV : PartsP k = fun w e w' => e = .returned (.tuple #[.agg #[.bool false, .bool false, .bool false, .bool false, .bool false], .bool false]) ∧ Ext w w' := by
    funext w e w'
    have e1 : hpv k = false := by simp only [hpv, Bool.and_eq_false_iff, decide_eq_false_iff_not]; omega
    have e2 : hok k = false := by simp only [hok, Bool.and_eq_false_iff, decide_eq_false_iff_not]; omega
    have e3 : hch k = false := by simp [hch, h2, h3]
    have e4 : hbf k = false := by simp [hbf, h2]
    have e5 : hnx k = false := by simp [hnx, h3]
    have e6 : hck k = false := by simp [hck, h6]
    simp only [PartsP, e1, e2, e3, e4, e5, e6]
  rw [HV]
  clear HV
  have b1 : (k == 1) = false := beq_eq_false_iff_ne.2 h1
  have b2 : (k == 2) = false := beq_eq_false_iff_ne.2 h2
  have b3 : (k == 3) = false := beq_eq_false_iff_ne.2 h3
  have b4 : (k == 4) = false := beq_eq_false_iff_ne.2 h4
  have b5 : (k == 5) = false := beq_eq_false_iff_ne.2 h5
  have b6 : (k == 6) = false := beq_eq_false_iff_ne.2 h6
  go_enter Tryd.func16, Tryd.ntmps16
  go_wp2
  exact bodyPost_ret (v := .tuple #[.agg #[.bool false, .bool false, .bool false, .bool false, .bool false], .bool false]) (by simp [results, Tryd.results16, go_sem]) rfl ⟨rfl, Ext.alloc _ _⟩
theorem isPage_any (n : Int) (w : World) : Calls Tryd.prog 29 #[.int .i64 n] w (fun e w' => e = .returned (.bool (isPg n)) ∧ w' = w) := by
  by_cases h0 : 0 ≤ n
  · by_cases h1 : n < 4096
    · have HV : isPg n = true := by simp [isPg]; omega
      rw [HV]
      clear HV
      go_enter Tryd.func29, Tryd.ntmps29
      go_wp2
      go_ret
      exact ⟨rfl, rfl⟩
    · have hd1 : decide (n < 4096) = false := decide_eq_false h1
      have HV : isPg n = false := by simp [isPg]; omega
      rw [HV]
      clear HV
      go_enter Tryd.func29, Tryd.ntmps29
      go_wp2
      go_ret
      exact ⟨rfl, rfl⟩
  · have hd0 : decide (0 ≤ n) = false := decide_eq_false h0
    have HV : isPg n = false := by simp [isPg]; omega
    rw [HV]
    clear HV
    go_enter Tryd.func29, Tryd.ntmps29
    go_wp2
    go_ret
    exact ⟨rfl, rfl⟩
def chgN (pg off : Int) (na nb : Nat) (c b : Bool) : Bool := if c then isPg pg && (decide (1 ≤ na) && ((nb == if b then na else 0) && (decide (0 ≤ off) && decide (off ≤ 512 - (na : Int))))) else (pg == 0) && ((off == 0) && ((na == 0) && (nb == 0)))
set_option maxRecDepth 20000 in
set_option maxHeartbeats 1600000 in
theorem changeFits_any (k tx pv pg off nx : Int) (A B D : Option Addr) (nb a na b' nd d : Nat) (op : Bool) (p c b n x : Bool) (w : World) (hna : na ≤ 140737488351232) (hnb : nb ≤ 140737488351232) (ho : -9223372036854775808 ≤ off) (ho2 : off < 9223372036854775808) :
    Calls Tryd.prog 17 #[.agg #[.int .u8 k, .int .u64 tx, .int .u64 pv, .int .i64 pg, .int .i64 off, .slice A nb a, .slice B na b', .int .u64 nx, .slice D nd d, .bool op], .agg #[.bool p, .bool c, .bool b, .bool n, .bool x]] w (RetB w (chgN pg off na nb c b)) := by
  have HO := hide (And.intro ho ho2)
  clear ho ho2
  cases c with
  | false =>
    by_cases h0 : pg = 0
    · have yh0 : (pg == 0) = true := by simp [h0]
      by_cases h1 : off = 0
      · have yh1 : (off == 0) = true := by simp [h1]
        by_cases h2 : na = 0
        · have yh2 : ((na : Int) == 0) = true := by simp [h2]
          by_cases h3 : nb = 0
          · have yh3 : ((nb : Int) == 0) = true := by simp [h3]
            have HV : chgN pg off na nb false b = true := by simp [chgN, h0, h1, h2, h3]
            rw [HV]
            clear HV
            go_enter Tryd.func17, Tryd.ntmps17
            go_wp2
            go_ret
            exact ⟨rfl, (Ext.alloc _ _).trans (Ext.alloc _ _)⟩
          · have yh3 : ((nb : Int) == 0) = false := by simp [h3]
            have HV : chgN pg off na nb false b = false := by simp [chgN, h0, h1, h2, h3]
            rw [HV]
            clear HV
            go_enter Tryd.func17, Tryd.ntmps17
            go_wp2
            go_ret
            exact ⟨rfl, (Ext.alloc _ _).trans (Ext.alloc _ _)⟩
        · have yh2 : ((na : Int) == 0) = false := by simp [h2]
          have HV : chgN pg off na nb false b = false := by simp [chgN, h0, h1, h2]
          rw [HV]
          clear HV
          go_enter Tryd.func17, Tryd.ntmps17
          go_wp2
          go_ret
          exact ⟨rfl, (Ext.alloc _ _).trans (Ext.alloc _ _)⟩
      · have yh1 : (off == 0) = false := by simp [h1]
        have HV : chgN pg off na nb false b = false := by simp [chgN, h0, h1]
        rw [HV]
        clear HV
        go_enter Tryd.func17, Tryd.ntmps17
        go_wp2
        go_ret
        exact ⟨rfl, (Ext.alloc _ _).trans (Ext.alloc _ _)⟩
    · have yh0 : (pg == 0) = false := by simp [h0]
      have HV : chgN pg off na nb false b = false := by simp [chgN, h0]
      rw [HV]
      clear HV
      go_enter Tryd.func17, Tryd.ntmps17
      go_wp2
      go_ret
      exact ⟨rfl, (Ext.alloc _ _).trans (Ext.alloc _ _)⟩
  | true =>
    obtain ⟨q, HQ⟩ : ∃ q, Hid (isPg pg = q) := ⟨_, hide rfl⟩
    have KP := hide (fun (W : World) => (show Calls Tryd.prog 29 #[.int .i64 pg] W (fun e w' => e = .returned (.bool q) ∧ w' = W) from by have h := isPage_any pg W; rw [HQ.out] at h; exact h))
    obtain ⟨m, HM⟩ : ∃ m : Nat, Hid ((if b then na else 0) = m) := ⟨_, hide rfl⟩
    have hm : m ≤ 140737488351232 := by rw [← HM.out]; split <;> omega
    by_cases h0 : q = true
    · subst h0
      by_cases h1 : 1 ≤ na
      · have h1i : (1 : Int) ≤ (na : Int) := by omega
        by_cases h2 : nb = m
        · have h2i : ((nb : Int) == (m : Int)) = true := by simp [h2]
          by_cases h3 : 0 ≤ off
          · by_cases h4 : off ≤ 512 - (na : Int)
            · have HV : chgN pg off na nb true b = true := by
                have hq := HQ.out
                have hm2 := HM.out
                simp only [chgN, if_true, hq, hm2]
                simp [h1, h2, h3, h4] <;> omega
              rw [HV]
              clear HV
              cases b with
              | false =>
                obtain rfl : m = 0 := HM.out.symm
                go_enter Tryd.func17, Tryd.ntmps17
                go_wp2_with (go_at_call 29; (with_reducible refine (KP.out _).mono ?_); rintro e w2 ⟨rfl, rfl⟩)
                go_ret
                exact ⟨rfl, (Ext.alloc _ _).trans (Ext.alloc _ _)⟩
              | true =>
                obtain rfl : na = m := HM.out
                go_enter Tryd.func17, Tryd.ntmps17
                go_wp2_with (go_at_call 29; (with_reducible refine (KP.out _).mono ?_); rintro e w2 ⟨rfl, rfl⟩)
                go_ret
                exact ⟨rfl, (Ext.alloc _ _).trans (Ext.alloc _ _)⟩
            · have h4i : decide (off ≤ 512 - (na : Int)) = false := decide_eq_false h4
              have HV : chgN pg off na nb true b = false := by
                have hq := HQ.out
                have hm2 := HM.out
                simp only [chgN, if_true, hq, hm2]
                simp [h1, h2, h3, h4] <;> omega
              rw [HV]
              clear HV
              cases b with
              | false =>
                obtain rfl : m = 0 := HM.out.symm
                go_enter Tryd.func17, Tryd.ntmps17
                go_wp2_with (go_at_call 29; (with_reducible refine (KP.out _).mono ?_); rintro e w2 ⟨rfl, rfl⟩)
                go_ret
                exact ⟨rfl, (Ext.alloc _ _).trans (Ext.alloc _ _)⟩
              | true =>
                obtain rfl : na = m := HM.out
                go_enter Tryd.func17, Tryd.ntmps17
                go_wp2_with (go_at_call 29; (with_reducible refine (KP.out _).mono ?_); rintro e w2 ⟨rfl, rfl⟩)
                go_ret
                exact ⟨rfl, (Ext.alloc _ _).trans (Ext.alloc _ _)⟩
          · have h3i : decide (0 ≤ off) = false := decide_eq_false h3
            have HV : chgN pg off na nb true b = false := by
              have hq := HQ.out
              have hm2 := HM.out
              simp only [chgN, if_true, hq, hm2]
              simp [h1, h2, h3] <;> omega
            rw [HV]
            clear HV
            cases b with
            | false =>
              obtain rfl : m = 0 := HM.out.symm
              go_enter Tryd.func17, Tryd.ntmps17
              go_wp2_with (go_at_call 29; (with_reducible refine (KP.out _).mono ?_); rintro e w2 ⟨rfl, rfl⟩)
              go_ret
              exact ⟨rfl, (Ext.alloc _ _).trans (Ext.alloc _ _)⟩
            | true =>
              obtain rfl : na = m := HM.out
              go_enter Tryd.func17, Tryd.ntmps17
              go_wp2_with (go_at_call 29; (with_reducible refine (KP.out _).mono ?_); rintro e w2 ⟨rfl, rfl⟩)
              go_ret
              exact ⟨rfl, (Ext.alloc _ _).trans (Ext.alloc _ _)⟩
        · have h2i : ((nb : Int) == (m : Int)) = false := by simp; omega
          have HV : chgN pg off na nb true b = false := by
            have hq := HQ.out
            have hm2 := HM.out
            simp only [chgN, if_true, hq, hm2]
            simp [h1, h2] <;> omega
          rw [HV]
          clear HV
          cases b with
          | false =>
            obtain rfl : m = 0 := HM.out.symm
            go_enter Tryd.func17, Tryd.ntmps17
            go_wp2_with (go_at_call 29; (with_reducible refine (KP.out _).mono ?_); rintro e w2 ⟨rfl, rfl⟩)
            go_ret
            exact ⟨rfl, (Ext.alloc _ _).trans (Ext.alloc _ _)⟩
          | true =>
            obtain rfl : na = m := HM.out
            go_enter Tryd.func17, Tryd.ntmps17
            go_wp2_with (go_at_call 29; (with_reducible refine (KP.out _).mono ?_); rintro e w2 ⟨rfl, rfl⟩)
            go_ret
            exact ⟨rfl, (Ext.alloc _ _).trans (Ext.alloc _ _)⟩
      · have h1i : decide ((1 : Int) ≤ (na : Int)) = false := by simp; omega
        have HV : chgN pg off na nb true b = false := by
          have hq := HQ.out
          have hm2 := HM.out
          simp only [chgN, if_true, hq, hm2]
          simp [h1] <;> omega
        rw [HV]
        clear HV
        cases b with
        | false =>
          obtain rfl : m = 0 := HM.out.symm
          go_enter Tryd.func17, Tryd.ntmps17
          go_wp2_with (go_at_call 29; (with_reducible refine (KP.out _).mono ?_); rintro e w2 ⟨rfl, rfl⟩)
          go_ret
          exact ⟨rfl, (Ext.alloc _ _).trans (Ext.alloc _ _)⟩
        | true =>
          obtain rfl : na = m := HM.out
          go_enter Tryd.func17, Tryd.ntmps17
          go_wp2_with (go_at_call 29; (with_reducible refine (KP.out _).mono ?_); rintro e w2 ⟨rfl, rfl⟩)
          go_ret
          exact ⟨rfl, (Ext.alloc _ _).trans (Ext.alloc _ _)⟩
    · have h0 : q = false := by simpa using h0
      subst h0
      have HV : chgN pg off na nb true b = false := by
        have hq := HQ.out
        have hm2 := HM.out
        simp only [chgN, if_true, hq, hm2]
        simp
      rw [HV]
      clear HV
      cases b with
      | false =>
        obtain rfl : m = 0 := HM.out.symm
        go_enter Tryd.func17, Tryd.ntmps17
        go_wp2_with (go_at_call 29; (with_reducible refine (KP.out _).mono ?_); rintro e w2 ⟨rfl, rfl⟩)
        go_ret
        exact ⟨rfl, (Ext.alloc _ _).trans (Ext.alloc _ _)⟩
      | true =>
        obtain rfl : na = m := HM.out
        go_enter Tryd.func17, Tryd.ntmps17
        go_wp2_with (go_at_call 29; (with_reducible refine (KP.out _).mono ?_); rintro e w2 ⟨rfl, rfl⟩)
        go_ret
        exact ⟨rfl, (Ext.alloc _ _).trans (Ext.alloc _ _)⟩
end Go.Proofs.YthdahgekodcloaaDoor

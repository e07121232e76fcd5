/-
  Lines: the line of a request: the program's contract.
-/
import Derived.Test.YtmanflfanoddgabDoorLinE
import Derived.Test.YtmanflfanoddgabDoorLinU
import Derived.Test.YtmanflfanoddgabDoorOwm
namespace Go.Proofs.YtmanflfanoddgabDoor
open Go.RowKit

theorem vtab_small : ∀ r ∈ vtab, r.2.1.length ≤ 6 ∧ 0 ≤ r.2.2 ∧ r.2.2 ≤ 4 := by decide
theorem wordW_length (l : List UInt8) : (wordW l).length ≤ 2 * l.length + 2 := by
  have := (escQ_length l).2
  unfold wordW
  split
  · omega
  · simp only [List.length_cons, List.length_append, List.length_nil]; omega
/-- What stands behind so many words. -/
def lineT (wd : List UInt8) (args : List (List UInt8)) (k : Nat) : List UInt8 := lineW wd (args.take k)
theorem lineT_zero (wd : List UInt8) (args : List (List UInt8)) : lineT wd args 0 = wd := by simp [lineT, lineW]
theorem lineT_succ (wd : List UInt8) (args : List (List UInt8)) (k : Nat) (x : List UInt8) (h : args[k]? = some x) : lineT wd args (k + 1) = (lineT wd args k ++ [32]) ++ wordW x := by
  unfold lineT lineW
  rw [List.take_add_one, h]
  simp
theorem lineT_all (wd : List UInt8) (args : List (List UInt8)) (k : Nat) (h : args.length ≤ k) : lineT wd args k = lineW wd args := by
  unfold lineT
  rw [List.take_of_length_le h]
theorem lineT_length (wd : List UInt8) (args : List (List UInt8)) (N : Nat) (hw : wd.length ≤ 6) (hN : ∀ x ∈ args, x.length ≤ N) (k : Nat) : (lineT wd args k).length ≤ 6 + k * (2 * N + 3) := by
  induction k with
  | zero => rw [lineT_zero]; omega
  | succ k ih =>
    cases h : args[k]? with
    | none =>
      have h1 := List.getElem?_eq_none_iff.1 h
      rw [lineT_all _ _ _ (by omega)]
      rw [lineT_all _ _ _ (by omega)] at ih
      rw [Nat.add_mul]; omega
    | some x =>
      rw [lineT_succ _ _ _ _ h, List.length_append, List.length_append]
      have h1 := hN x (List.mem_of_getElem? h)
      have h2 := wordW_length x
      have h3 : ([32] : List UInt8).length = 1 := rfl
      rw [Nat.add_mul]; omega
theorem take_can {args : List (List UInt8)} {k : Nat} {x : List UInt8} (h : args[k]? = some x) (hx : canS x = false) : args.all canS = false := by
  rw [List.all_eq_false]
  exact ⟨x, List.mem_of_getElem? h, by simp [hx]⟩
theorem all_can {args : List (List UInt8)} (h : ∀ (j : Nat) (x : List UInt8), args[j]? = some x → canS x = true) : args.all canS = true := by
  rw [List.all_eq_true]
  intro x hx
  obtain ⟨j, hj⟩ := List.getElem?_of_mem hx
  exact h j x hj

theorem small_word {wd : List UInt8} (h : wd.length ≤ 6) : (⟨wd.toArray⟩ : ByteArray).size ≤ 140737488355328 := by
  show wd.toArray.size ≤ _
  rw [List.size_toArray]; omega
theorem small_text {x : List UInt8} (h : x.length ≤ 1048576) : (⟨x.toArray⟩ : ByteArray).size ≤ 140737488355328 := by
  show x.toArray.size ≤ _
  rw [List.size_toArray]; omega
theorem small_text2 {x : List UInt8} (h : x.length ≤ 1048576) : (⟨x.toArray⟩ : ByteArray).size < 4294967281 := by
  show x.toArray.size < _
  rw [List.size_toArray]; omega
theorem own_base {w w2 w3 : World} {v : Value} {l : List UInt8} (hx : Ext w w2) (h : OwnM w3 w2.heap.size v l) : OwnM w3 w.heap.size v l := by
  rcases h with h | ⟨g, cap, cur, fz, hv, hb, rest⟩
  · exact .inl h
  · exact .inr ⟨g, cap, cur, fz, hv, Nat.le_trans (Ext.size hx) hb, rest⟩
theorem line_room {l x : List UInt8} {k : Nat} (h : l.length ≤ 6 + k * (2 * 1048576 + 3)) (hk : k ≤ 4) (hx : x.length ≤ 1048576) : l.length < 140737488355328 ∧ (l ++ [b8 32]).length + (wordW x).length ≤ 140737488355328 := by
  have h1 := wordW_length x
  have h2 : k * (2 * 1048576 + 3) ≤ 4 * (2 * 1048576 + 3) := Nat.mul_le_mul_right _ hk
  rw [List.length_append]
  have h3 : ([b8 32] : List UInt8).length = 1 := rfl
  omega

set_option maxRecDepth 20000 in
set_option maxHeartbeats 4000000 in
theorem write_any (v : Int) (args : List (List UInt8)) (A : Option Addr) (c : Nat) (w : World) (hA : RdV w A (tvs args)) (hz : ∀ x ∈ args, x.length ≤ 1048576) (hT : Tabs w) (hV : TabV w) :
    Calls Tryd.prog 11 #[.agg #[.int .u8 v, .slice A args.length c]] w (Ret w (Is (.tuple #[.string ⟨(writeS v args).1.toArray⟩, .int .i64 ((writeS v args).2 : Int)]))) := by
  obtain ⟨m, HM⟩ : ∃ n, Hid (args.length = n) := ⟨_, rfl⟩
  have KN := hide fun V (h : Ext w V) => verbOfNumber_any v V (hV.ext h)
  cases hv : verbN v with
  | none =>
    have HL : Hid (writeS v args = ([], 3)) := by unfold writeS; rw [hv]; exact hide rfl
    rw [hv] at KN
    simp only [verbV] at KN
    rw [HL.out, HM.out]
    clear hv
    go_enter Tryd.func11, Tryd.ntmps11
    go_wp2_with (go_at_call 23; refine (KN.out _ (Ext.alloc _ _)).mono ?_; rintro e w1 ⟨v1, rfl, hx1, rfl⟩)
    go_ret2
    exact Ret.mk (((Ext.alloc _ _).trans hx1).trans (Ext.alloc _ _)) rfl
  | some vb =>
    obtain ⟨n, wd, a⟩ := vb
    have HV := hide hv
    have hs := vtab_small _ (verbN_mem hv).1
    simp only at hs
    obtain ⟨hw6, ha0, ha4⟩ := hs
    rw [hv] at KN
    simp only [verbV] at KN
    clear hv
    by_cases hla : (m : Int) = a
    · subst hla
      have HW : Hid (∀ b, b = args.all canS → writeS v args = if b then (if 300 < (lineW wd args).length then ([], 2) else (lineW wd args, 0)) else ([], 3)) := hide fun b hb => by
        unfold writeS; rw [HV.out]; simp only; rw [if_pos (by rw [HM.out]), hb]
      obtain ⟨F, HF⟩ : ∃ F, Hid ((.tuple #[.string ⟨(writeS v args).1.toArray⟩, .int .i64 ((writeS v args).2 : Int)] : Value) = F) := ⟨_, hide rfl⟩
      rw [HM.out, HF.out]
      have hm4 : m ≤ 4 := by omega
      have HLT := hide (lineT_length wd args 1048576 hw6 hz)
      have HZ := hide hz
      have HW6 := hide hw6
      clear hz ha0 ha4 hw6
      have hne : ((m : Int) != (m : Int)) = false := by simp
      go_enter Tryd.func11, Tryd.ntmps11
      go_wp2_with (first
        | (go_at_call 23; refine (KN.out _ (Ext.alloc _ _)).mono ?_; rintro e w1 ⟨v1, rfl, hx1, rfl⟩; have rq := ((Rw.new w 26 [.int .u8 v, .slice A m c]).ext hx1).alloc (.cells #[.int .u8 n, .string ⟨wd.toArray⟩, .int .i64 (m : Int)] 54); have c1 := rq.cell (i := 1) rfl; clear rq; have hx2 : Ext w (w1.alloc (.cells #[.int .u8 n, .string ⟨wd.toArray⟩, .int .i64 (m : Int)] 54)) := ((Ext.alloc _ _).trans hx1).trans (Ext.alloc _ _))
        | (refine wpList_convM rfl (.tmp 26) rfl ⟨wd.toArray⟩ rfl (small_word HW6.out) ?_; intro v3 w3 hown3 hx3; have HO3 : Hid (OwnM w3 w.heap.size v3 wd) := hide (own_base hx2 hown3); clear hown3; have c3 := (Ext.keeps hx3).cell c1; have hx4 := hx2.trans hx3))
      go_loopw [6, 8, 31] (fun o _ i wr => ∃ k : Nat, k ≤ m ∧ i = .int .i64 (k : Int) ∧ Hid (OwnM wr w.heap.size o (lineT wd args k)) ∧ Hid (∀ (j : Nat) (x : List UInt8), j < k → args[j]? = some x → canS x = true) ∧ Ext w wr) (fun _ _ i _ => m - (intOf i).toNat)
      case atStart => exact ⟨0, Nat.zero_le _, rfl, hide (by rw [lineT_zero]; exact HO3.out), hide (fun j x h => absurd h (Nat.not_lt_zero _)), hx4⟩
      case round =>
        obtain ⟨k, hk, rfl, HO, HC, hx⟩ := hrel
        have hs0 := Ext.size hx
        by_cases hlt : k < m
        · have hki : (k : Int) < (m : Int) := by omega
          have hkl : k < args.length := by rw [HM.out]; exact hlt
          obtain ⟨x, HGX⟩ : ∃ x, Hid (args[k]? = some x) := ⟨_, hide (List.getElem?_eq_getElem hkl)⟩
          obtain ⟨b, off, rfl, hcx⟩ := (hA.ext hx).at (tvs_get args k x HGX.out)
          have HXZ := hide (HZ.out x (List.mem_of_getElem? HGX.out))
          obtain ⟨cx, HCX⟩ : ∃ y, Hid (canS x = y) := ⟨_, hide rfl⟩
          have KC := hide fun W (h : Ext w W) => (show Calls Tryd.prog 24 #[.string ⟨x.toArray⟩] W (Ret W (Is (.bool cx))) from (by
            have h := canStand_any ⟨x.toArray⟩ W (small_text HXZ.out) (hT.ext h)
            rw [show (⟨x.toArray⟩ : ByteArray).data.toList = x from rfl, HCX.out] at h
            exact h))
          have KW := hide fun W => (show Calls Tryd.prog 25 #[.string ⟨x.toArray⟩] W (Ret W (Is (.string ⟨(wordW x).toArray⟩))) from written_any ⟨x.toArray⟩ W (small_text2 HXZ.out))
          clear hkl
          cases cx with
          | false =>
            have HL : Hid (F = .tuple #[.string ⟨#[]⟩, .int .i64 3]) := by
              rw [← HF.out, HW.out false (take_can HGX.out HCX.out).symm]
              exact hide rfl
            go_wp2_with (go_at_call 24; refine (KC.out _ hx).mono ?_; rintro e w5 ⟨v5, rfl, hx5, rfl⟩)
            go_ret2
            rw [HL.out]
            exact Ret.mk (hx.trans hx5) rfl
          | true =>
            have HLK : Hid ((lineT wd args k).length < 140737488355328 ∧ (lineT wd args k ++ [b8 32]).length + (wordW x).length ≤ 140737488355328) := hide (line_room (HLT.out k) (by omega) HXZ.out)
            go_wp2_with (first
              | (go_at_call 24; refine (KC.out _ hx).mono ?_; rintro e w5 ⟨v5, rfl, hx5, rfl⟩; have hx6 := hx.trans hx5; have hs6 := Ext.size hx6; have HO5 := hide (OwnM.ext HO.out hx5))
              | ((with_reducible show wpList _ _ _ (⟨some 40, _, _, _, _, _⟩ :: _) _ _); refine wpList_pushM rfl (.tmp 38) (.tmp 39) rfl w.heap.size _ _ rfl rfl HO5.out (by decide) (by decide) hs6 HLK.out.1 ?_; intro v7 w7 hown7 hb7; have hx7 : Ext w w7 := Below.trans hx6 hb7; have HO7 := hide hown7; clear hown7)
              | (go_at_call 25; refine (KW.out w7).mono ?_; rintro e w8 ⟨v8, rfl, hx8, rfl⟩; have hx9 := hx7.trans hx8; have hs9 := Ext.size hx9; have HO8 := hide (OwnM.ext HO7.out hx8))
              | ((with_reducible show wpList _ _ _ (⟨some 44, _, _, _, _, _⟩ :: _) _ _); refine wpList_catSM rfl (.tmp 41) (.tmp 43) rfl w.heap.size _ _ ⟨(wordW x).toArray⟩ rfl rfl HO8.out hs9 HLK.out.2 ?_; intro v10 w10 hown10 hb10; have hx10 : Ext w w10 := Below.trans hx9 hb10; have HO10 := hide hown10; clear hown10))
            refine ⟨⟨k + 1, by omega, by go_num, hide ?_, hide ?_, hx10⟩, by simp [intOf]; omega⟩
            · rw [lineT_succ wd args k x HGX.out]
              exact HO10.out
            · intro j y hj hy
              rcases Nat.lt_or_ge j k with h | h
              · exact HC.out j y h hy
              · obtain rfl : j = k := by omega
                rw [HGX.out] at hy
                injection hy with hy
                subst hy
                exact HCX.out
        · obtain rfl : k = m := by omega
          have hki : ¬ (k : Int) < (k : Int) := Int.lt_irrefl _
          obtain ⟨C, d, rfl, hlc, hr⟩ := HO.out.bytes
          have HE : Hid (lineT wd args k = lineW wd args) := hide (lineT_all wd args k (by rw [HM.out]; exact Nat.le_refl _))
          obtain ⟨L, HLL⟩ : ∃ L, Hid ((lineT wd args k).length = L) := ⟨_, hide rfl⟩
          have HB : Hid (Bytes (lineT wd args k) wr (.slice C L d)) := hide (by rw [← HLL.out]; exact HO.out.bytes)
          rw [HLL.out]
          have HW2 := hide (HW.out true (all_can fun j y hy => HC.out j y (by
            rcases Nat.lt_or_ge j k with h | h
            · exact h
            · rw [List.getElem?_eq_none (by rw [HM.out]; exact h)] at hy; cases hy) hy).symm)
          clear hlc hr HO
          by_cases h3 : 300 < L
          · have h3i : (300 : Int) < (L : Int) := by omega
            have HL : Hid (F = .tuple #[.string ⟨#[]⟩, .int .i64 2]) := by
              rw [← HF.out, HW2.out, if_pos rfl, if_pos (by rw [← HE.out, HLL.out]; exact h3)]
              exact hide rfl
            go_wp2
            go_ret2
            rw [HL.out]
            exact Ret.mk hx rfl
          · have h3i : ¬ (300 : Int) < (L : Int) := by omega
            have HL : Hid (F = .tuple #[.string ⟨(lineT wd args k).toArray⟩, .int .i64 0]) := by
              rw [← HF.out, HW2.out, if_pos rfl, if_neg (by rw [← HE.out, HLL.out]; exact h3), HE.out]
              exact hide rfl
            go_wp2_with (refine wpList_str rfl (.tmp 49) rfl (lineT wd args k) HB.out ?_)
            go_ret2
            rw [HL.out]
            exact Ret.mk hx rfl
    · have HL : Hid (writeS v args = ([], 3)) := by unfold writeS; rw [HV.out]; simp only; rw [if_neg (by rw [HM.out]; exact hla)]; exact hide rfl
      have hne : ((m : Int) != a) = true := by simpa using hla
      rw [HL.out, HM.out]
      clear hla
      go_enter Tryd.func11, Tryd.ntmps11
      go_wp2_with (go_at_call 23; refine (KN.out _ (Ext.alloc _ _)).mono ?_; rintro e w1 ⟨v1, rfl, hx1, rfl⟩; have rq := ((Rw.new w 26 [.int .u8 v, .slice A m c]).ext hx1).alloc (.cells #[.int .u8 n, .string ⟨wd.toArray⟩, .int .i64 a] 54); have c1 := rq.cell (i := 1) rfl; clear rq)
      go_ret2
      exact Ret.mk (((Ext.alloc _ _).trans hx1).trans (Ext.alloc _ _)) rfl
end Go.Proofs.YtmanflfanoddgabDoor

/-
  The disk's New: contract.
-/
import Derived.Test.YtmabminjmcjafaaDskW
import Derived.Test.YtmabminjmcjafaaGrx
import Derived.Laws.OwnMore
namespace Go.Proofs.Ytmabminjmcjafaa
open Go.RowKit

/-- A new disk. -/
def D0 (n : Nat) : Dk := { dur := List.replicate n (List.replicate 512 0), pen := [], ops := 0, arm := 0, off := false }
theorem D0_len (n : Nat) : (D0 n).dur.length = n := List.length_replicate ..
theorem D0_ok (n : Nat) (h1 : 1 ≤ n) (h2 : n ≤ 4096) : (D0 n).Ok := ⟨by rw [D0_len]; exact h1, by rw [D0_len]; exact h2, fun s hs => by rw [List.eq_of_mem_replicate hs]; exact List.length_replicate .., fun x hx => by cases hx⟩
theorem D0_flat (n : Nat) : (D0 n).dur.flatten = List.replicate (n * 512) 0 := List.flatten_replicate_replicate
theorem made_same (z : List Value) (v : Value) (hz : ∀ u ∈ z, u = v) (h0 : z ≠ []) (m : Nat) : madeCells z.toArray m = (List.replicate m v).toArray := by
  have hp : 0 < z.length := List.length_pos_iff.2 h0
  apply Array.ext'
  apply List.ext_getElem
  · simp [madeCells]
  · intro i h1 h2
    have hi : i % z.length < z.length := Nat.mod_lt _ hp
    simp only [madeCells, Array.toList_map, Array.toList_range, List.getElem_map, List.getElem_range, List.size_toArray, List.getElem_replicate]
    rw [show (z.toArray[i % z.length]! : Value) = z[i % z.length] from by simp [hi]]
    exact hz _ (List.getElem_mem _)
theorem zeroInt : (Try.prog.info? 3).map (fun i => (i.zero, i.size)) = some (some (.int .i64 0), 1) := by kernel_rfl
theorem bytesInt : (Try.prog.info? 3).map (·.bytes) = some 8 := by kernel_rfl
theorem bytesSec : (Try.prog.info? 67).map (·.bytes) = some 512 := by kernel_rfl
theorem make_sec (w : World) (n : Nat) (hn : n ≤ 4096) : (Instr.makeSlice 56 (.int .i64 (n : Int)) (.int .i64 (n : Int))).run Try.prog w = .ok (.slice (some ⟨w.heap.size, 0, none⟩) n n) (w.alloc (.cells (bs (List.replicate (n * 512) 0)).toArray 67)) := by
  have hz := zeroSec
  have hby := bytesSec
  cases hq : Try.prog.info? 67 with
  | none => rw [hq] at hz; cases hz
  | some i =>
    rw [hq] at hz hby
    simp only [Option.map_some, Option.some.injEq, Prod.mk.injEq] at hz hby
    have h := run_make (P := Try.prog) w 56 67 i _ Try.underlying56 hq hz.1 .i64 .i64 (n : Int) (n : Int) (by omega) (by omega) (by rw [hby]; omega) (by omega)
    rw [hz.2] at h
    have e : madeCells (Value.agg (bs (List.replicate 512 0)).toArray).cells ((n : Int).toNat * 512) = (bs (List.replicate (n * 512) 0)).toArray := by
      show madeCells (bs (List.replicate 512 0)).toArray _ = _
      rw [made_same (bs (List.replicate 512 0)) (.int .u8 0) (fun u hu => by
        unfold bs at hu
        rw [List.map_replicate] at hu
        exact List.eq_of_mem_replicate hu) (by intro e; have := congrArg List.length e; rw [bs_length, List.length_replicate] at this; cases this)]
      unfold bs
      rw [List.map_replicate]
      rfl
    rw [e] at h
    exact h
theorem make_int (w : World) (n : Nat) (hn : n ≤ 4096) : (Instr.makeSlice 57 (.int .i64 (n : Int)) (.int .i64 (n : Int))).run Try.prog w = .ok (.slice (some ⟨w.heap.size, 0, none⟩) n n) (w.alloc (.cells (newL n []).toArray 3)) := by
  have hz := zeroInt
  have hby := bytesInt
  cases hq : Try.prog.info? 3 with
  | none => rw [hq] at hz; cases hz
  | some i =>
    rw [hq] at hz hby
    simp only [Option.map_some, Option.some.injEq, Prod.mk.injEq] at hz hby
    have h := run_make (P := Try.prog) w 57 3 i _ Try.underlying57 hq hz.1 .i64 .i64 (n : Int) (n : Int) (by omega) (by omega) (by rw [hby]; omega) (by omega)
    rw [hz.2] at h
    have e : madeCells (Value.int .i64 0).cells ((n : Int).toNat * 1) = (newL n []).toArray := by
      show madeCells [Value.int .i64 0].toArray _ = _
      rw [made_same [.int .i64 0] (.int .i64 0) (fun u hu => List.mem_singleton.1 hu) (by simp)]
      congr 1
      apply List.ext_getElem?
      intro i
      by_cases hi : i < n
      · rw [newL_get _ _ _ hi]
        simp [hi, lastP_nil]
      · rw [List.getElem?_eq_none (by simp; omega), List.getElem?_eq_none (by simp [newL]; omega)]
    rw [e] at h
    exact h
theorem gives_make {P : Program} {o : Oper} {a : Act} {w : World} {R : Value → World → Prop} {t : TypeId} {x y : Operand} {u z v : Value} {w' : World} (h : o.op = .makeSlice t x y) (hx : a.eval x = u) (hy : a.eval y = z) (hrun : (Instr.makeSlice t u z).run P w = .ok v w') (hR : R v w') : gives P o a w R := by
  refine gives_of_run (w' := w') (v := v) ?_ hR
  unfold execOp
  simp only [h, hx, hy, Sem.run_bind, hrun, Result.andThen_ok, Sem.run_pure]
theorem gives_box {P : Program} {o : Oper} {a : Act} {w : World} {R : Value → World → Prop} {t : TypeId} {x : Operand} (h : o.op = .box t x) (cells : Array Value) (hx : (a.eval x).cells = cells) (hR : R (.pointer (some ⟨w.heap.size, 0, none⟩)) (w.alloc (.cells cells t))) : gives P o a w R := by
  subst hx
  refine gives_of_run (w' := w.alloc (.cells (a.eval x).cells t)) (v := .pointer (some ⟨w.heap.size, 0, none⟩)) ?_ hR
  unfold execOp
  simp only [h, Sem.run_bind, Instr.box, newVar, newRow, run_newObj_alloc, Sem.run_pure, Result.andThen_ok]
theorem builtD (gd gn n : Nat) : Try.prog.built 60 [(0, .slice (some ⟨gd, 0, none⟩) n n), (2, .slice (some ⟨gn, 0, none⟩) n n)] = some #[.slice (some ⟨gd, 0, none⟩) n n, .slice none 0 0, .slice (some ⟨gn, 0, none⟩) n n, .int .i64 0, .int .i64 0, .bool false] := by kernel_rfl
def SecS (B n : Nat) (w : World) (v : Value) : Prop := ∃ g, v = .slice (some ⟨g, 0, none⟩) n n ∧ Rw w g 67 (bs (List.replicate (n * 512) 0)) ∧ B ≤ g
def IntS (B n : Nat) (w : World) (v : Value) : Prop := ∃ g, v = .slice (some ⟨g, 0, none⟩) n n ∧ Rw w g 3 (newL n []) ∧ B ≤ g
def BothS (B n : Nat) (w : World) (v : Value) : Prop := ∃ gd gn, v = .agg #[.slice (some ⟨gd, 0, none⟩) n n, .slice none 0 0, .slice (some ⟨gn, 0, none⟩) n n, .int .i64 0, .int .i64 0, .bool false] ∧ Rw w gd 67 (bs (List.replicate (n * 512) 0)) ∧ Rw w gn 3 (newL n []) ∧ B ≤ gd ∧ B ≤ gn
def DiskS (B n : Nat) (w : World) (v : Value) : Prop := ∃ g gd gn, v = .pointer (some ⟨g, 0, none⟩) ∧ DiskAt B w g gd gn none 0 (D0 n)
/-- What New leaves. -/
def NPost (n : Nat) (w : World) (e : Ending) (w' : World) : Prop := ∃ g gd gn, e = .returned (.tuple #[.pointer (some ⟨g, 0, none⟩), .int .i64 0]) ∧ DiskAt w.heap.size w' g gd gn none 0 (D0 n) ∧ Ext w w'
set_option maxRecDepth 20000 in
set_option maxHeartbeats 1600000 in
theorem new_any (n : Nat) (h1 : 1 ≤ n) (h2 : n ≤ 4096) (w : World) : Calls Try.prog 9 #[.int .i64 (n : Int)] w (NPost n w) := by
  have k1 : ¬ (n : Int) < 1 := by omega
  have k2 : ¬ (4096 : Int) < (n : Int) := by omega
  have HN := hide h2
  clear h1 h2
  obtain ⟨z, HZ⟩ : ∃ z : Int, Hid (z = (n : Int)) := ⟨_, hide rfl⟩
  rw [← HZ.out] at k1 k2 ⊢
  have HMS := hide fun W => (show (Instr.makeSlice 56 (.int .i64 z) (.int .i64 z)).run Try.prog W = .ok (.slice (some ⟨W.heap.size, 0, none⟩) n n) (W.alloc (.cells (bs (List.replicate (n * 512) 0)).toArray 67)) from by rw [HZ.out]; exact make_sec W n HN.out)
  have HMI := hide fun W => (show (Instr.makeSlice 57 (.int .i64 z) (.int .i64 z)).run Try.prog W = .ok (.slice (some ⟨W.heap.size, 0, none⟩) n n) (W.alloc (.cells (newL n []).toArray 3)) from by rw [HZ.out]; exact make_int W n HN.out)
  clear HZ
  go_enter Try.func9, Try.ntmps9
  go_upto_region 3 with fail
  rename_i hK
  refine wp_region_spX (Nat.le_refl _) [SpX.is (.int .i64 z), ⟨SecS w.heap.size n, fun _ _ _ ⟨g, e, h, hb⟩ hx => ⟨g, e, h.ext hx, hb⟩⟩, SpX.is (.int .i64 z), ⟨IntS w.heap.size n, fun _ _ _ ⟨g, e, h, hb⟩ hx => ⟨g, e, h.ext hx, hb⟩⟩,
    ⟨BothS w.heap.size n, fun _ _ _ ⟨gd, gn, e, h, k, hb⟩ hx => ⟨gd, gn, e, h.ext hx, k.ext hx, hb⟩⟩, ⟨DiskS w.heap.size n, fun _ _ _ ⟨g, gd, gn, e, h⟩ hx => ⟨g, gd, gn, e, h.ext hx⟩⟩, ⟨DiskS w.heap.size n, fun _ _ _ ⟨g, gd, gn, e, h⟩ hx => ⟨g, gd, gn, e, h.ext hx⟩⟩, SpX.is (.int .i64 0)] (by kernel_rfl) (by kernel_rfl) ?_ ?_
  · refine ⟨?_, ?_, ?_, ?_, ?_, ?_, ?_, ?_, trivial⟩
    · intro az wz hx hB hk H
      refine .inl ⟨wanted_none rfl, gives_move rfl ?_⟩
      rw [ev (show az.tmps[0]? = some (.int .i64 z) from hk 0 rfl)]
      exact ⟨Ext.refl _, rfl⟩
    · intro az wz hx hB hk H
      obtain ⟨v, h10, s10⟩ := H 0 rfl _ rfl 10 rfl
      obtain rfl : v = .int .i64 z := s10
      exact .inl ⟨wanted_none rfl, gives_make rfl (ev h10) (ev h10) (HMS.out wz) ⟨Ext.alloc _ _, _, rfl, Rw.new _ _ _, hx.size⟩⟩
    · intro az wz hx hB hk H
      refine .inl ⟨wanted_none rfl, gives_move rfl ?_⟩
      rw [ev (show az.tmps[0]? = some (.int .i64 z) from hk 0 rfl)]
      exact ⟨Ext.refl _, rfl⟩
    · intro az wz hx hB hk H
      obtain ⟨v, h10, s10⟩ := H 2 rfl _ rfl 12 rfl
      obtain rfl : v = .int .i64 z := s10
      exact .inl ⟨wanted_none rfl, gives_make rfl (ev h10) (ev h10) (HMI.out wz) ⟨Ext.alloc _ _, _, rfl, Rw.new _ _ _, hx.size⟩⟩
    · intro az wz hx hB hk H
      obtain ⟨v1, h11, gd, rfl, hgd, bd⟩ := H 1 rfl _ rfl 11 rfl
      obtain ⟨v3, h13, gn, rfl, hgn, bn⟩ := H 3 rfl _ rfl 13 rfl
      exact .inl ⟨wanted_none rfl, gives_build rfl _ [(0, .slice (some ⟨gd, 0, none⟩) n n), (2, .slice (some ⟨gn, 0, none⟩) n n)] (by show [(0, az.eval (.tmp 11)), (2, az.eval (.tmp 13))] = _; rw [ev h11, ev h13]) (builtD _ _ _) ⟨Ext.refl _, gd, gn, rfl, hgd, hgn, bd, bn⟩⟩
    · intro az wz hx hB hk H
      obtain ⟨v, h14, gd, gn, rfl, hgd, hgn, bd, bn⟩ := H 4 rfl _ rfl 14 rfl
      refine .inl ⟨wanted_none rfl, gives_box rfl #[.slice (some ⟨gd, 0, none⟩) n n, .slice none 0 0, .slice (some ⟨gn, 0, none⟩) n n, .int .i64 0, .int .i64 0, .bool false] (by rw [ev h14]; rfl) ⟨Ext.alloc _ _, wz.heap.size, gd, gn, rfl, ?_, ?_, ?_, World.ownsRow_nil _ _ _ _, hx.size, bd, bn⟩⟩
      · have h := Rw.new wz 60 (diskC gd gn none 0 (D0 n))
        unfold diskC at h ⊢
        rw [D0_len] at h ⊢
        exact h
      · rw [D0_flat]; exact hgd.ext (Ext.alloc _ _)
      · rw [D0_len]; exact hgn.ext (Ext.alloc _ _)
    · intro az wz hx hB hk H
      obtain ⟨v, h15, s15⟩ := H 5 rfl _ rfl 15 rfl
      refine .inl ⟨wanted_none rfl, gives_assign rfl ?_⟩
      rw [ev h15]
      exact ⟨Ext.refl _, s15⟩
    · intro az wz hx hB hk H
      exact .inl ⟨wanted_none rfl, gives_assign rfl ⟨Ext.refl _, rfl⟩⟩
  · intro az wz hx hd hs hv hsame
    obtain ⟨v2, h2, g, gd, gn, rfl, hD⟩ := hv 6 _ 2 rfl rfl
    obtain ⟨v3, h3, s3⟩ := hv 7 _ 3 rfl rfl
    obtain rfl : v3 = .int .i64 0 := s3
    refine hK _ _ ?_
    refine wp_ret ?_
    refine bodyPost_ret (results_tmp2 rfl _ _ _) hd ?_
    refine ⟨g, gd, gn, ?_, hD, hx⟩
    simp [h2, h3]
end Go.Proofs.Ytmabminjmcjafaa

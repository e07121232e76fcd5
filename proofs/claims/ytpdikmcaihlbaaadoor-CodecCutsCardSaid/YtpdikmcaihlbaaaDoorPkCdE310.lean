/-
  The walk of CodecKeys.
  CodecKeys: for every value, all bytes ahead of it and behind, up to the bulk of the form, and every place, the law answers true and leaves them as they were; utf8.first and utf8.acceptRanges hold what the program's text lays.
-/
import Derived.Deep.CutRange
import Derived.RegionTactic
import Derived.Deep.RegionLaw
import Derived.Test.YtpdikmcaihlbaaaDoorPkCdE30
import Derived.Test.YtpdikmcaihlbaaaDoorPkCdE32
import Derived.Test.YtpdikmcaihlbaaaDoorPkCdE36
import Derived.Test.YtpdikmcaihlbaaaDoorPkCdE39
set_option linter.unusedVariables false
set_option linter.unusedSimpArgs false

namespace Go.Proofs.YtpdikmcaihlbaaaDoor
open Go.RowKit

set_option maxRecDepth 20000 in
set_option maxHeartbeats 6400000 in
theorem keys_no (k n : Int) (s : ByteArray) (X Y : Option Addr) (nx ny c d : Nat) (x y : List UInt8) (at_ : Int) (w : World) (ia : VlIn (k, n, s)) (hX : Rd w X x) (hY : Rd w Y y) (hnx : x.length = nx) (hny : y.length = ny) (hxc : nx ≤ c) (hyd : ny ≤ d) (hxl : nx ≤ 1048576) (hyl : ny ≤ 1048576) (hlo : -9223372036854775808 ≤ at_) (hhi : at_ < 9223372036854775808) (hT : Tabs w) (hva : vOk (k, n, s) = false) :
    Calls Tryd.prog 6 #[.agg #[.int .u8 k, .int .i64 n, .string s], .slice X nx c, .slice Y ny d, .int .i64 at_] w (RetB w true) := by
  have KA := hide (fun (W : World) (hW : Ext w W) => awake_any W (hT.ext hW))
  have KF := hide (fun (W : World) (hW : Ext w W) => rform_any (k, n, s) W ia (hT.ext hW))
  obtain ⟨z, HZ⟩ : ∃ z, Hid (rdKey y at_ = z) := ⟨_, hide rfl⟩
  have KR := hide (fun (W : World) (hW : Ext w W) => (show Calls Tryd.prog 20 #[.slice Y ny d, .int .i64 at_] W (RkC W z) from by rw [← HZ.out]; exact readKey_any Y y ny d at_ W (hY.ext hW) hny hyd (by omega) hlo hhi (hT.ext hW)))
  have KQ := hide (fun (W : World) (hW : Ext w W) => (show Calls Tryd.prog 22 #[.slice Y ny d, .int .i64 at_] W (RkC W z) from by rw [← HZ.out]; exact rreadKey_any Y y ny d at_ W (hY.ext hW) hny hyd (by omega) (hT.ext hW)))
  obtain ⟨W2, hX2, hA2, hgg⟩ : ∃ W2, Ext w W2 ∧ Rw W2 w.heap.size 26 [.int .u8 k, .int .i64 n, .string s] ∧ w.alloc (.cells #[.int .u8 k, .int .i64 n, .string s] 26) = W2 := ⟨_, Ext.alloc _ _, Rw.new w 26 [.int .u8 k, .int .i64 n, .string s], rfl⟩
  have X2 := hide hX2
  have A2 := hide hA2
  clear hX2 hA2
  have KK := hide (fun (W : World) (hW : Ext w W) => key_no (k, n, s) W ia (hT.ext hW) hva)
  rw [hva] at KF
  clear hX hY hT ia hxl hyl hlo hhi hnx hny hxc hyd
  go_enter Tryd.func6, Tryd.ntmps6
  go_upto_region 1 with fail
  clear hgg
  go_upto_region 3 with (go_at_call 11; (with_reducible refine (KA.out _ X2.out).mono ?_); rintro e w3 ⟨rfl, hx3⟩; have X3 := hide (X2.out.trans hx3); have A3 := hide (A2.out.ext hx3); have a0 := A3.out.cell (i := 0) rfl; have a1 := A3.out.cell (i := 1) rfl; have a2 := A3.out.cell (i := 2) rfl)
  go_upto_region 4 with (go_at_call 19; (with_reducible refine (KK.out _ X3.out).mono ?_); rintro e w4 ⟨hx4, rfl⟩; have X4 := hide (X3.out.trans hx4); have A4 := hide (A3.out.ext hx4); have b0 := A4.out.cell (i := 0) rfl; have b1 := A4.out.cell (i := 1) rfl; have b2 := A4.out.cell (i := 2) rfl)
  go_upto_region 15 with (go_at_call 13; (with_reducible refine (KF.out _ X4.out).mono ?_); rintro e w5 ⟨rfl, hx5⟩; have X5 := hide (X4.out.trans hx5))
  go_upto_region 16 with (go_at_call 20; (with_reducible refine (KR.out _ X5.out).mono ?_); rintro e w20 ⟨hx20, rfl⟩; have X20 := hide (X5.out.trans hx20))
  obtain ⟨W21, hX21, hB21, hgg⟩ : ∃ W, Ext w W ∧ Rw W w20.heap.size 26 [.int .u8 z.1.1, .int .i64 z.1.2.1, .string z.1.2.2] ∧ w20.alloc (.cells #[.int .u8 z.1.1, .int .i64 z.1.2.1, .string z.1.2.2] 26) = W := ⟨_, X20.out.trans (Ext.alloc _ _), Rw.new _ 26 [.int .u8 z.1.1, .int .i64 z.1.2.1, .string z.1.2.2], rfl⟩
  rw [hgg]
  clear hgg
  have X21 := hide hX21
  have B21 := hide hB21
  clear hX21 hB21
  go_upto_region 17 with (go_at_call 22; (with_reducible refine (KQ.out _ X21.out).mono ?_); rintro e w22 ⟨hx22, rfl⟩; have X22 := hide (X21.out.trans hx22); have B22 := hide (B21.out.ext hx22))
  obtain ⟨W23, hX23, hB23, hC23, hgg⟩ : ∃ W, Ext w W ∧ Rw W w20.heap.size 26 [.int .u8 z.1.1, .int .i64 z.1.2.1, .string z.1.2.2] ∧ Rw W w22.heap.size 26 [.int .u8 z.1.1, .int .i64 z.1.2.1, .string z.1.2.2] ∧ w22.alloc (.cells #[.int .u8 z.1.1, .int .i64 z.1.2.1, .string z.1.2.2] 26) = W := ⟨_, X22.out.trans (Ext.alloc _ _), B22.out.alloc _, Rw.new _ 26 [.int .u8 z.1.1, .int .i64 z.1.2.1, .string z.1.2.2], rfl⟩
  rw [hgg]
  clear hgg
  have X23 := hide hX23
  have d0 := hB23.cell (i := 0) rfl
  have d1 := hB23.cell (i := 1) rfl
  have d2 := hB23.cell (i := 2) rfl
  have f0 := hC23.cell (i := 0) rfl
  have f1 := hC23.cell (i := 1) rfl
  have f2 := hC23.cell (i := 2) rfl
  clear hX23 hB23 hC23
  go_wp2
  go_ret
  exact ⟨rfl, X23.out⟩
set_option maxRecDepth 20000 in
set_option maxHeartbeats 6400000 in
theorem keys_yes (k n : Int) (s : ByteArray) (X Y : Option Addr) (nx ny c d : Nat) (x y : List UInt8) (at_ : Int) (w : World) (ia : VlIn (k, n, s)) (hX : Rd w X x) (hY : Rd w Y y) (hnx : x.length = nx) (hny : y.length = ny) (hxc : nx ≤ c) (hyd : ny ≤ d) (hxl : nx ≤ 1048576) (hyl : ny ≤ 1048576) (hlo : -9223372036854775808 ≤ at_) (hhi : at_ < 9223372036854775808) (hT : Tabs w) (hva : vOk (k, n, s) = true) :
    Calls Tryd.prog 6 #[.agg #[.int .u8 k, .int .i64 n, .string s], .slice X nx c, .slice Y ny d, .int .i64 at_] w (RetB w true) := by
  have KA := hide (fun (W : World) (hW : Ext w W) => awake_any W (hT.ext hW))
  have KF := hide (fun (W : World) (hW : Ext w W) => rform_any (k, n, s) W ia (hT.ext hW))
  obtain ⟨z, HZ⟩ : ∃ z, Hid (rdKey y at_ = z) := ⟨_, hide rfl⟩
  have KR := hide (fun (W : World) (hW : Ext w W) => (show Calls Tryd.prog 20 #[.slice Y ny d, .int .i64 at_] W (RkC W z) from by rw [← HZ.out]; exact readKey_any Y y ny d at_ W (hY.ext hW) hny hyd (by omega) hlo hhi (hT.ext hW)))
  have KQ := hide (fun (W : World) (hW : Ext w W) => (show Calls Tryd.prog 22 #[.slice Y ny d, .int .i64 at_] W (RkC W z) from by rw [← HZ.out]; exact rreadKey_any Y y ny d at_ W (hY.ext hW) hny hyd (by omega) (hT.ext hW)))
  obtain ⟨W2, hX2, hA2, hgg⟩ : ∃ W2, Ext w W2 ∧ Rw W2 w.heap.size 26 [.int .u8 k, .int .i64 n, .string s] ∧ w.alloc (.cells #[.int .u8 k, .int .i64 n, .string s] 26) = W2 := ⟨_, Ext.alloc _ _, Rw.new w 26 [.int .u8 k, .int .i64 n, .string s], rfl⟩
  have X2 := hide hX2
  have A2 := hide hA2
  clear hX2 hA2
  obtain ⟨KV, HKV⟩ : ∃ p, Hid (keyV (k, n, s) = p) := ⟨_, hide rfl⟩
  obtain ⟨KL, HKL⟩ : ∃ u, Hid (KV.length = u) := ⟨_, hide rfl⟩
  obtain ⟨_, _, _, hpl, _⟩ := meant_key (k, n, s) ia hva
  rw [HKV.out, HKL.out] at hpl
  obtain ⟨P1, HP1⟩ : ∃ u, Hid (x ++ KV = u) := ⟨_, hide rfl⟩
  obtain ⟨PL, HPL⟩ : ∃ u, Hid (P1.length = u) := ⟨_, hide rfl⟩
  obtain ⟨P2, HP2⟩ : ∃ u, Hid (P1 ++ y = u) := ⟨_, hide rfl⟩
  obtain ⟨PM, HPM⟩ : ∃ u, Hid (P2.length = u) := ⟨_, hide rfl⟩
  have hPLe : PL = nx + KL := by rw [← HPL.out, ← HP1.out, List.length_append, HKL.out, hnx]
  have hPMe : PM = PL + ny := by rw [← HPM.out, ← HP2.out, List.length_append, HPL.out, hny]
  have KK := hide (fun (W : World) (hW : Ext w W) => key_yes (k, n, s) W ia (hT.ext hW) hva)
  have KG := hide (fun (W : World) => rkey_any (k, n, s) W hva ia)
  rw [HKV.out] at KK KG
  have KP := hide (fun (W : World) (hW : Ext w W) (AP : Option Addr) (cp : Nat) (hR : Rd W AP P2) (hc : PM ≤ cp) => (show Calls Tryd.prog 20 #[.slice AP PM cp, .int .i64 (nx : Int)] W (RkC W ((k, n, s), (PL : Int), 0)) from by
    have h := readKey_any AP P2 PM cp (nx : Int) W hR HPM.out hc (by omega) (by omega) (by omega) (hT.ext hW)
    have e := rdKey_key x y (k, n, s) hva ia
    rw [HKV.out, HP1.out, HP2.out, hnx, HKL.out, ← hPLe] at e
    rw [e] at h
    exact h))
  rw [hva] at KF
  have HX := hide hX
  have HY := hide hY
  have HNX := hide hnx
  have HNY := hide hny
  have HLE := hide (show PL = nx + KL ∧ PM = PL + ny ∧ KL ≤ 123 ∧ nx ≤ 1048576 ∧ ny ≤ 1048576 from ⟨hPLe, hPMe, hpl, hxl, hyl⟩)
  have hPLi : (PL : Int) ≤ 1048700 := by omega
  clear hX hY hT ia hxl hyl hlo hhi hnx hny hxc hyd hva hPLe hPMe hpl
  go_enter Tryd.func6, Tryd.ntmps6
  go_upto_region 1 with fail
  clear hgg
  go_upto_region 3 with (go_at_call 11; (with_reducible refine (KA.out _ X2.out).mono ?_); rintro e w3 ⟨rfl, hx3⟩; have X3 := hide (X2.out.trans hx3); have A3 := hide (A2.out.ext hx3); have a0 := A3.out.cell (i := 0) rfl; have a1 := A3.out.cell (i := 1) rfl; have a2 := A3.out.cell (i := 2) rfl)
  go_upto_region 4 with (go_at_call 19; (with_reducible refine (KK.out _ X3.out).mono ?_); rintro e w4 ⟨hx4, v4, rfl, AK, cK, rfl, hcK, hrK⟩; rw [HKL.out] at hcK ⊢; have X4 := hide (X3.out.trans hx4); have A4 := hide (A3.out.ext hx4); have b0 := A4.out.cell (i := 0) rfl; have b1 := A4.out.cell (i := 1) rfl; have b2 := A4.out.cell (i := 2) rfl; have R4 := hide hrK; have HCK := hide hcK; clear hx4 hrK hcK)
  go_upto_region 8 with (go_at_call 13; (with_reducible refine (KF.out _ X4.out).mono ?_); rintro e w5 ⟨rfl, hx5⟩; have X5 := hide (X4.out.trans hx5); have A5 := hide (A4.out.ext hx5); have R5 := hide (R4.out.ext hx5))
  clear a0 a1 a2 b0 b1 b2 A2 A3 A4 R4 X2 X3 X4 KF KA KK
  go_upto_region 9 with (at_builtin; refine wpList_cat rfl (.tmp 39) (.tmp 40) rfl w5.heap.size _ [] x _ _ _ rfl rfl HNX.out.symm (Own.nil _ _) (HX.out.ext X5.out) (Nat.le_refl _) (by rw [HNX.out]; have := HLE.out; simp; omega) ?_; intro v8 w8 ho8 hb8; rw [List.nil_append] at ho8; have Y8 := hide (show Ext w5 w8 from hb8); have O8 := hide ho8; clear ho8 hb8)
  go_upto_region 10 with (at_builtin; refine wpList_cat rfl (.tmp 42) (.tmp 43) rfl w5.heap.size _ x KV _ _ _ rfl rfl HKL.out.symm O8.out (R5.out.ext Y8.out) Y8.out.size (by rw [HNX.out, HKL.out]; have := HLE.out; omega) ?_; intro v9 w9 ho9 hb9; rw [HP1.out] at ho9; have Y9 := hide (show Ext w5 w9 from Below.trans Y8.out hb9); obtain ⟨A9, c9, hv9, hc9, -⟩ := ho9.bytes; rw [HPL.out] at hv9; subst hv9; have O9 := hide ho9; clear ho9 hb9 hc9)
  go_upto_region 12 with (at_builtin; refine wpList_cat rfl (.tmp 47) (.tmp 48) rfl w5.heap.size _ P1 y _ _ _ rfl rfl HNY.out.symm O9.out (HY.out.ext (X5.out.trans Y9.out)) Y9.out.size (by rw [HPL.out, HNY.out]; have := HLE.out; omega) ?_; intro v10 w10 ho10 hb10; rw [HP2.out] at ho10; have Y10 := hide (show Ext w5 w10 from Below.trans Y9.out hb10); obtain ⟨A10, c10, hv10, hc10, hr10⟩ := ho10.bytes; rw [HPM.out] at hv10 hc10; subst hv10; have R10 := hide hr10; have HC10 := hide hc10; clear ho10 hb10 hc10 hr10)
  have X10 := hide (X5.out.trans Y10.out)
  have A10b := hide (A5.out.ext Y10.out)
  have R10b := hide (R5.out.ext Y10.out)
  clear Y8 O8 Y9 O9 A5 R5 X5 Y10
  go_upto_region 13 with (go_at_call 20; (with_reducible refine (KP.out _ X10.out _ _ R10.out HC10.out).mono ?_); rintro e w12 ⟨hx12, rfl⟩; have X12 := hide (X10.out.trans hx12); have A12 := hide (A10b.out.ext hx12); have R12 := hide (R10b.out.ext hx12))
  obtain ⟨W13, hX13, hA13, hB13, hR13, hgg⟩ : ∃ W, Ext w W ∧ Rw W w.heap.size 26 [.int .u8 k, .int .i64 n, .string s] ∧ Rw W w12.heap.size 26 [.int .u8 k, .int .i64 n, .string s] ∧ Rd W AK KV ∧ w12.alloc (.cells #[.int .u8 k, .int .i64 n, .string s] 26) = W := ⟨_, X12.out.trans (Ext.alloc _ _), A12.out.alloc _, Rw.new _ 26 [.int .u8 k, .int .i64 n, .string s], R12.out.ext (Ext.alloc _ _), rfl⟩
  rw [hgg]
  clear hgg
  obtain ⟨b13, HB13⟩ : ∃ b, Hid (w12.heap.size = b) := ⟨_, hide rfl⟩
  rw [HB13.out] at hB13 ⊢
  have X13 := hide hX13
  have A13 := hide hA13
  have B13 := hide hB13
  have RK := hide hR13
  clear hX13 hA13 hB13 hR13 X10 A10b R10b X12 A12 R12 R10 KP HB13
  rename_i hK
  refine wp_region_sp (Nat.le_refl _) [
      Sp.is (.int .i64 0),
      Sp.is (.bool false),
      Sp.is (.bool false),
      Sp.bytes KV,
      Sp.is (.string ⟨(KV).toArray⟩),
      Sp.is (.agg #[.int .u8 k, .int .i64 n, .string s]),
      Sp.bytes KV,
      Sp.is (.string ⟨(KV).toArray⟩),
      Sp.is (.bool false),
      Sp.is (.bool false),
      Sp.is (.bool false),
      Sp.is (.int .i64 0),
      Sp.is (.bool false),
      Sp.is (.bool false),
      Sp.is (.bool false),
      Sp.is (.agg #[.int .u8 k, .int .i64 n, .string s]),
      Sp.is (.agg #[.int .u8 k, .int .i64 n, .string s]),
      Sp.is (.bool false),
      Sp.is (.bool false),
      Sp.is (.bool false),
      Sp.is (.int .i64 (PL : Int)),
      Sp.is (.int .i64 (PL : Int)),
      Sp.is (.bool false),
      Sp.is (.bool false)] (by kernel_rfl) (by kernel_rfl) ?_ ?_
  · refine ⟨?_, ?_, ?_, ?_, ?_, ?_, ?_, ?_, ?_, ?_, ?_, ?_, ?_, ?_, ?_, ?_, ?_, ?_, ?_, ?_, ?_, ?_, ?_, ?_, trivial⟩
    · intro az wz hx hB hk H
      refine .inl ⟨wanted_none rfl, ?_⟩
      refine gives_move rfl ?_
      rw [(ev (show az.tmps[10]? = some (.int .i64 0) from hk 10 rfl))]
      exact ⟨Grw.refl _ _, rfl⟩
    · intro az wz hx hB hk H
      obtain ⟨v58, h58, s58⟩ := H 0 rfl _ rfl 58 rfl
      refine .inl ⟨wanted_none rfl, ?_⟩
      refine gives_of_run (w' := wz) (v := .bool false) ?_ ⟨Grw.refl _ _, rfl⟩
      rw [s58] at h58
      simp [execOp, go_sem, h58]
    · intro az wz hx hB hk H
      obtain ⟨v59, h59, s59⟩ := H 1 rfl _ rfl 59 rfl
      refine .inl ⟨wanted_none rfl, ?_⟩
      refine gives_move rfl ?_
      rw [(ev h59)]
      exact ⟨Grw.refl _ _, s59⟩
    · intro az wz hx hB hk H
      obtain ⟨v60, h60, s60⟩ := H 2 rfl _ rfl 60 rfl
      have g0 : az.tmps[60]? = some (.bool false) := by rw [h60]; exact congrArg some s60
      refine .inl ⟨wanted_yes _ rfl rfl rfl g0, ?_⟩
      refine gives_move rfl ?_
      rw [(ev (show az.tmps[9]? = some (.slice AK KL cK) from hk 9 rfl))]
      exact ⟨Grw.refl _ _, ⟨AK, cK, by rw [HKL.out], by rw [HKL.out]; exact HCK.out, RK.out.keep hx.keeps⟩⟩
    · intro az wz hx hB hk H
      obtain ⟨v60, h60, s60⟩ := H 2 rfl _ rfl 60 rfl
      obtain ⟨v61, h61, s61⟩ := H 3 rfl _ rfl 61 rfl
      have g0 : az.tmps[60]? = some (.bool false) := by rw [h60]; exact congrArg some s60
      refine .inl ⟨wanted_yes _ rfl rfl rfl g0, ?_⟩
      refine gives_str (KV) rfl Tryd.underlying27 Tryd.underlying5 Tryd.underlying9 ?_ ⟨Grw.refl _ _, rfl⟩
      rw [(ev h61)]
      exact s61
    · intro az wz hx hB hk H
      obtain ⟨v60, h60, s60⟩ := H 2 rfl _ rfl 60 rfl
      have g0 : az.tmps[60]? = some (.bool false) := by rw [h60]; exact congrArg some s60
      refine .inl ⟨wanted_yes _ rfl rfl rfl g0, ?_⟩
      refine gives_load_at 26 (.tmp 4) rfl (w.heap.size) 0 (by rw [(ev (show az.tmps[4]? = some (.pointer (some ⟨w.heap.size, 0, none⟩)) from hk 4 rfl))]) [.int .u8 k, .int .i64 n, .string s] 3 (agg_struct Tryd.underlying26 wz) (by kernel_rfl) rfl (fun j v hj => by rw [Nat.zero_add]; exact hx.keeps.cell (A13.out.cell hj)) ⟨Grw.refl _ _, rfl⟩
    · intro az wz hx hB hk H
      obtain ⟨v60, h60, s60⟩ := H 2 rfl _ rfl 60 rfl
      obtain ⟨v63, h63, s63⟩ := H 5 rfl _ rfl 63 rfl
      have g0 : az.tmps[60]? = some (.bool false) := by rw [h60]; exact congrArg some s60
      refine .inl ⟨wanted_yes _ rfl rfl rfl g0, ?_⟩
      refine gives_call rfl Tryd.call21 (by simp only [List.map_toArray, List.map_cons, List.map_nil, ev h63]; rw [s63]) ?_
      exact (KG.out wz).mono fun e w' h => Ret.grw h hB
    · intro az wz hx hB hk H
      obtain ⟨v60, h60, s60⟩ := H 2 rfl _ rfl 60 rfl
      obtain ⟨v64, h64, s64⟩ := H 6 rfl _ rfl 64 rfl
      have g0 : az.tmps[60]? = some (.bool false) := by rw [h60]; exact congrArg some s60
      refine .inl ⟨wanted_yes _ rfl rfl rfl g0, ?_⟩
      refine gives_str (KV) rfl Tryd.underlying27 Tryd.underlying5 Tryd.underlying9 ?_ ⟨Grw.refl _ _, rfl⟩
      rw [(ev h64)]
      exact s64
    · intro az wz hx hB hk H
      obtain ⟨v60, h60, s60⟩ := H 2 rfl _ rfl 60 rfl
      obtain ⟨v62, h62, s62⟩ := H 4 rfl _ rfl 62 rfl
      obtain ⟨v65, h65, s65⟩ := H 7 rfl _ rfl 65 rfl
      have g0 : az.tmps[60]? = some (.bool false) := by rw [h60]; exact congrArg some s60
      refine .inl ⟨wanted_yes _ rfl rfl rfl g0, ?_⟩
      refine gives_of_run (w' := wz) (v := .bool false) ?_ ⟨Grw.refl _ _, rfl⟩
      rw [s62] at h62
      rw [s65] at h65
      simp [execOp, go_sem, h62, h65]
    · intro az wz hx hB hk H
      obtain ⟨v60, h60, s60⟩ := H 2 rfl _ rfl 60 rfl
      obtain ⟨v66, h66, s66⟩ := H 8 rfl _ rfl 66 rfl
      refine .inl ⟨wanted_none rfl, ?_⟩
      refine gives_pick false rfl ?_ ?_
      · rw [(ev h60)]
        exact s60
      · show Grw _ _ _ ∧ _
        rw [if_neg (by decide), (ev h66)]
        exact ⟨Grw.refl _ _, s66⟩
    · intro az wz hx hB hk H
      obtain ⟨v67, h67, s67⟩ := H 9 rfl _ rfl 67 rfl
      refine .inl ⟨wanted_none rfl, ?_⟩
      refine gives_move rfl ?_
      rw [(ev h67)]
      exact ⟨Grw.refl _ _, s67⟩
    · intro az wz hx hB hk H
      obtain ⟨v68, h68, s68⟩ := H 10 rfl _ rfl 68 rfl
      have g0 : az.tmps[68]? = some (.bool false) := by rw [h68]; exact congrArg some s68
      refine .inl ⟨wanted_yes _ rfl rfl rfl g0, ?_⟩
      refine gives_move rfl ?_
      rw [(ev (show az.tmps[15]? = some (.int .i64 0) from hk 15 rfl))]
      exact ⟨Grw.refl _ _, rfl⟩
    · intro az wz hx hB hk H
      obtain ⟨v68, h68, s68⟩ := H 10 rfl _ rfl 68 rfl
      obtain ⟨v69, h69, s69⟩ := H 11 rfl _ rfl 69 rfl
      have g0 : az.tmps[68]? = some (.bool false) := by rw [h68]; exact congrArg some s68
      refine .inl ⟨wanted_yes _ rfl rfl rfl g0, ?_⟩
      refine gives_of_run (w' := wz) (v := .bool false) ?_ ⟨Grw.refl _ _, rfl⟩
      rw [s69] at h69
      simp [execOp, go_sem, h69]
    · intro az wz hx hB hk H
      obtain ⟨v68, h68, s68⟩ := H 10 rfl _ rfl 68 rfl
      obtain ⟨v70, h70, s70⟩ := H 12 rfl _ rfl 70 rfl
      refine .inl ⟨wanted_none rfl, ?_⟩
      refine gives_pick false rfl ?_ ?_
      · rw [(ev h68)]
        exact s68
      · show Grw _ _ _ ∧ _
        rw [if_neg (by decide), (ev h70)]
        exact ⟨Grw.refl _ _, s70⟩
    · intro az wz hx hB hk H
      obtain ⟨v71, h71, s71⟩ := H 13 rfl _ rfl 71 rfl
      refine .inl ⟨wanted_none rfl, ?_⟩
      refine gives_move rfl ?_
      rw [(ev h71)]
      exact ⟨Grw.refl _ _, s71⟩
    · intro az wz hx hB hk H
      obtain ⟨v72, h72, s72⟩ := H 14 rfl _ rfl 72 rfl
      have g0 : az.tmps[72]? = some (.bool false) := by rw [h72]; exact congrArg some s72
      refine .inl ⟨wanted_yes _ rfl rfl rfl g0, ?_⟩
      refine gives_load_at 26 (.tmp 13) rfl (b13) 0 (by rw [(ev (show az.tmps[13]? = some (.pointer (some ⟨b13, 0, none⟩)) from hk 13 rfl))]) [.int .u8 k, .int .i64 n, .string s] 3 (agg_struct Tryd.underlying26 wz) (by kernel_rfl) rfl (fun j v hj => by rw [Nat.zero_add]; exact hx.keeps.cell (B13.out.cell hj)) ⟨Grw.refl _ _, rfl⟩
    · intro az wz hx hB hk H
      obtain ⟨v72, h72, s72⟩ := H 14 rfl _ rfl 72 rfl
      have g0 : az.tmps[72]? = some (.bool false) := by rw [h72]; exact congrArg some s72
      refine .inl ⟨wanted_yes _ rfl rfl rfl g0, ?_⟩
      refine gives_load_at 26 (.tmp 4) rfl (w.heap.size) 0 (by rw [(ev (show az.tmps[4]? = some (.pointer (some ⟨w.heap.size, 0, none⟩)) from hk 4 rfl))]) [.int .u8 k, .int .i64 n, .string s] 3 (agg_struct Tryd.underlying26 wz) (by kernel_rfl) rfl (fun j v hj => by rw [Nat.zero_add]; exact hx.keeps.cell (A13.out.cell hj)) ⟨Grw.refl _ _, rfl⟩
    · intro az wz hx hB hk H
      obtain ⟨v72, h72, s72⟩ := H 14 rfl _ rfl 72 rfl
      obtain ⟨v73, h73, s73⟩ := H 15 rfl _ rfl 73 rfl
      obtain ⟨v74, h74, s74⟩ := H 16 rfl _ rfl 74 rfl
      have g0 : az.tmps[72]? = some (.bool false) := by rw [h72]; exact congrArg some s72
      refine .inl ⟨wanted_yes _ rfl rfl rfl g0, ?_⟩
      refine gives_of_run (w' := wz) (v := .bool false) ?_ ⟨Grw.refl _ _, rfl⟩
      rw [s73] at h73
      rw [s74] at h74
      simp [execOp, go_sem, h73, h74]
    · intro az wz hx hB hk H
      obtain ⟨v72, h72, s72⟩ := H 14 rfl _ rfl 72 rfl
      obtain ⟨v75, h75, s75⟩ := H 17 rfl _ rfl 75 rfl
      refine .inl ⟨wanted_none rfl, ?_⟩
      refine gives_pick false rfl ?_ ?_
      · rw [(ev h72)]
        exact s72
      · show Grw _ _ _ ∧ _
        rw [if_neg (by decide), (ev h75)]
        exact ⟨Grw.refl _ _, s75⟩
    · intro az wz hx hB hk H
      obtain ⟨v76, h76, s76⟩ := H 18 rfl _ rfl 76 rfl
      refine .inl ⟨wanted_none rfl, ?_⟩
      refine gives_move rfl ?_
      rw [(ev h76)]
      exact ⟨Grw.refl _ _, s76⟩
    · intro az wz hx hB hk H
      obtain ⟨v77, h77, s77⟩ := H 19 rfl _ rfl 77 rfl
      have g0 : az.tmps[77]? = some (.bool false) := by rw [h77]; exact congrArg some s77
      refine .inl ⟨wanted_yes _ rfl rfl rfl g0, ?_⟩
      refine gives_move rfl ?_
      rw [(ev (show az.tmps[14]? = some (.int .i64 (PL : Int)) from hk 14 rfl))]
      exact ⟨Grw.refl _ _, rfl⟩
    · intro az wz hx hB hk H
      obtain ⟨v77, h77, s77⟩ := H 19 rfl _ rfl 77 rfl
      have g0 : az.tmps[77]? = some (.bool false) := by rw [h77]; exact congrArg some s77
      refine .inl ⟨wanted_yes _ rfl rfl rfl g0, ?_⟩
      refine gives_move rfl ?_
      rw [(ev (show az.tmps[12]? = some (.int .i64 (PL : Int)) from hk 12 rfl))]
      exact ⟨Grw.refl _ _, rfl⟩
    · intro az wz hx hB hk H
      obtain ⟨v77, h77, s77⟩ := H 19 rfl _ rfl 77 rfl
      obtain ⟨v78, h78, s78⟩ := H 20 rfl _ rfl 78 rfl
      obtain ⟨v79, h79, s79⟩ := H 21 rfl _ rfl 79 rfl
      have g0 : az.tmps[77]? = some (.bool false) := by rw [h77]; exact congrArg some s77
      refine .inl ⟨wanted_yes _ rfl rfl rfl g0, ?_⟩
      refine gives_of_run (w' := wz) (v := .bool false) ?_ ⟨Grw.refl _ _, rfl⟩
      rw [s78] at h78
      rw [s79] at h79
      simp [execOp, go_sem, h78, h79]
    · intro az wz hx hB hk H
      obtain ⟨v77, h77, s77⟩ := H 19 rfl _ rfl 77 rfl
      obtain ⟨v80, h80, s80⟩ := H 22 rfl _ rfl 80 rfl
      refine .inl ⟨wanted_none rfl, ?_⟩
      refine gives_pick false rfl ?_ ?_
      · rw [(ev h77)]
        exact s77
      · show Grw _ _ _ ∧ _
        rw [if_neg (by decide), (ev h80)]
        exact ⟨Grw.refl _ _, s80⟩
  · intro az wz hx hd hs hv hsame
    obtain ⟨v58, h58, s58⟩ := hv 0 _ 58 rfl rfl
    obtain rfl : v58 = (.int .i64 0) := s58
    obtain ⟨v59, h59, s59⟩ := hv 1 _ 59 rfl rfl
    obtain rfl : v59 = (.bool false) := s59
    obtain ⟨v60, h60, s60⟩ := hv 2 _ 60 rfl rfl
    obtain rfl : v60 = (.bool false) := s60
    obtain ⟨v61, h61, s61⟩ := hv 3 _ 61 rfl rfl
    obtain ⟨v62, h62, s62⟩ := hv 4 _ 62 rfl rfl
    obtain rfl : v62 = (.string ⟨(KV).toArray⟩) := s62
    obtain ⟨v63, h63, s63⟩ := hv 5 _ 63 rfl rfl
    obtain rfl : v63 = (.agg #[.int .u8 k, .int .i64 n, .string s]) := s63
    obtain ⟨v64, h64, s64⟩ := hv 6 _ 64 rfl rfl
    obtain ⟨v65, h65, s65⟩ := hv 7 _ 65 rfl rfl
    obtain rfl : v65 = (.string ⟨(KV).toArray⟩) := s65
    obtain ⟨v66, h66, s66⟩ := hv 8 _ 66 rfl rfl
    obtain rfl : v66 = (.bool false) := s66
    obtain ⟨v67, h67, s67⟩ := hv 9 _ 67 rfl rfl
    obtain rfl : v67 = (.bool false) := s67
    obtain ⟨v68, h68, s68⟩ := hv 10 _ 68 rfl rfl
    obtain rfl : v68 = (.bool false) := s68
    obtain ⟨v69, h69, s69⟩ := hv 11 _ 69 rfl rfl
    obtain rfl : v69 = (.int .i64 0) := s69
    obtain ⟨v70, h70, s70⟩ := hv 12 _ 70 rfl rfl
    obtain rfl : v70 = (.bool false) := s70
    obtain ⟨v71, h71, s71⟩ := hv 13 _ 71 rfl rfl
    obtain rfl : v71 = (.bool false) := s71
    obtain ⟨v72, h72, s72⟩ := hv 14 _ 72 rfl rfl
    obtain rfl : v72 = (.bool false) := s72
    obtain ⟨v73, h73, s73⟩ := hv 15 _ 73 rfl rfl
    obtain rfl : v73 = (.agg #[.int .u8 k, .int .i64 n, .string s]) := s73
    obtain ⟨v74, h74, s74⟩ := hv 16 _ 74 rfl rfl
    obtain rfl : v74 = (.agg #[.int .u8 k, .int .i64 n, .string s]) := s74
    obtain ⟨v75, h75, s75⟩ := hv 17 _ 75 rfl rfl
    obtain rfl : v75 = (.bool false) := s75
    obtain ⟨v76, h76, s76⟩ := hv 18 _ 76 rfl rfl
    obtain rfl : v76 = (.bool false) := s76
    obtain ⟨v77, h77, s77⟩ := hv 19 _ 77 rfl rfl
    obtain rfl : v77 = (.bool false) := s77
    obtain ⟨v78, h78, s78⟩ := hv 20 _ 78 rfl rfl
    obtain rfl : v78 = (.int .i64 (PL : Int)) := s78
    obtain ⟨v79, h79, s79⟩ := hv 21 _ 79 rfl rfl
    obtain rfl : v79 = (.int .i64 (PL : Int)) := s79
    obtain ⟨v80, h80, s80⟩ := hv 22 _ 80 rfl rfl
    obtain rfl : v80 = (.bool false) := s80
    obtain ⟨v81, h81, s81⟩ := hv 23 _ 81 rfl rfl
    obtain rfl : v81 = (.bool false) := s81
    have hfr := frame_last (k := 24) [(58, (.int .i64 0)), (59, (.bool false)), (60, (.bool false)), (61, v61), (62, (.string ⟨(KV).toArray⟩)), (63, (.agg #[.int .u8 k, .int .i64 n, .string s])), (64, v64), (65, (.string ⟨(KV).toArray⟩)), (66, (.bool false)), (67, (.bool false)), (68, (.bool false)), (69, (.int .i64 0)), (70, (.bool false)), (71, (.bool false)), (72, (.bool false)), (73, (.agg #[.int .u8 k, .int .i64 n, .string s])), (74, (.agg #[.int .u8 k, .int .i64 n, .string s])), (75, (.bool false)), (76, (.bool false)), (77, (.bool false)), (78, (.int .i64 (PL : Int))), (79, (.int .i64 (PL : Int))), (80, (.bool false)), (81, (.bool false))] hs (by kernel_rfl) (by simp only [List.forall_mem_cons, List.not_mem_nil, false_implies, implies_true, and_true]; exact ⟨h58, h59, h60, h61, h62, h63, h64, h65, h66, h67, h68, h69, h70, h71, h72, h73, h74, h75, h76, h77, h78, h79, h80, h81⟩) (fun t' h => hsame t' fun i o ho => h i o (by intro e; subst e; cases ho) ho)
    simp only [List.foldl_cons, List.foldl_nil, List.setIfInBounds_toArray, List.set_cons_succ, List.set_cons_zero] at hfr
    obtain ⟨tm, df⟩ := az
    simp only [] at hfr hd
    subst hfr hd
    clear hv hsame hs h58 h59 h60 h61 h62 h63 h64 h65 h66 h67 h68 h69 h70 h71 h72 h73 h74 h75 h76 h77 h78 h79 h80 h81
    refine hK _ _ ?_
    have X14 := hide (X13.out.trans ((Ext.refl W13).grw hx))
    clear hx
    go_upto_region 16 with (go_at_call 20; (with_reducible refine (KR.out _ X14.out).mono ?_); rintro e w20 ⟨hx20, rfl⟩; have X20 := hide (X14.out.trans hx20))
    obtain ⟨W21, hX21, hB21, hgg⟩ : ∃ W, Ext w W ∧ Rw W w20.heap.size 26 [.int .u8 z.1.1, .int .i64 z.1.2.1, .string z.1.2.2] ∧ w20.alloc (.cells #[.int .u8 z.1.1, .int .i64 z.1.2.1, .string z.1.2.2] 26) = W := ⟨_, X20.out.trans (Ext.alloc _ _), Rw.new _ 26 [.int .u8 z.1.1, .int .i64 z.1.2.1, .string z.1.2.2], rfl⟩
    rw [hgg]
    clear hgg
    have X21 := hide hX21
    have B21 := hide hB21
    clear hX21 hB21
    go_upto_region 17 with (go_at_call 22; (with_reducible refine (KQ.out _ X21.out).mono ?_); rintro e w22 ⟨hx22, rfl⟩; have X22 := hide (X21.out.trans hx22); have B22 := hide (B21.out.ext hx22))
    obtain ⟨W23, hX23, hB23, hC23, hgg⟩ : ∃ W, Ext w W ∧ Rw W w20.heap.size 26 [.int .u8 z.1.1, .int .i64 z.1.2.1, .string z.1.2.2] ∧ Rw W w22.heap.size 26 [.int .u8 z.1.1, .int .i64 z.1.2.1, .string z.1.2.2] ∧ w22.alloc (.cells #[.int .u8 z.1.1, .int .i64 z.1.2.1, .string z.1.2.2] 26) = W := ⟨_, X22.out.trans (Ext.alloc _ _), B22.out.alloc _, Rw.new _ 26 [.int .u8 z.1.1, .int .i64 z.1.2.1, .string z.1.2.2], rfl⟩
    rw [hgg]
    clear hgg
    have X23 := hide hX23
    have d0 := hB23.cell (i := 0) rfl
    have d1 := hB23.cell (i := 1) rfl
    have d2 := hB23.cell (i := 2) rfl
    have f0 := hC23.cell (i := 0) rfl
    have f1 := hC23.cell (i := 1) rfl
    have f2 := hC23.cell (i := 2) rfl
    clear hX23 hB23 hC23
    go_wp2
    go_ret
    exact ⟨rfl, X23.out⟩
theorem codecKeys_walk (k n : Int) (s : ByteArray) (X Y : Option Addr) (nx ny c d : Nat) (x y : List UInt8) (at_ : Int) (w : World) (ia : VlIn (k, n, s)) (hX : Rd w X x) (hY : Rd w Y y) (hnx : x.length = nx) (hny : y.length = ny) (hxc : nx ≤ c) (hyd : ny ≤ d) (hxl : nx ≤ 1048576) (hyl : ny ≤ 1048576) (hlo : -9223372036854775808 ≤ at_) (hhi : at_ < 9223372036854775808) (hT : Tabs w) :
    Calls Tryd.prog 6 #[.agg #[.int .u8 k, .int .i64 n, .string s], .slice X nx c, .slice Y ny d, .int .i64 at_] w (RetB w true) := by
  cases hva : vOk (k, n, s) with
  | false => exact keys_no k n s X Y nx ny c d x y at_ w ia hX hY hnx hny hxc hyd hxl hyl hlo hhi hT hva
  | true => exact keys_yes k n s X Y nx ny c d x y at_ w ia hX hY hnx hny hxc hyd hxl hyl hlo hhi hT hva
end Go.Proofs.YtpdikmcaihlbaaaDoor
namespace Go.Proofs.YtpdikmcaihlbaaaDoor.lawCodecKeys
open Go.ChangeShapes Go.WideShapes Go.ChangeAt Go.RowKit
open Go.ChangeMaps (open_string)

set_option maxRecDepth 100000 in
theorem contract (H : Type) (enc : TypeId × Value → H) (W : World) (base : Nat) (args : Array Value) (ds gs : List (DataW H)) (before : List MemPlace)
    (hval : ∀ (j : Nat) t v, Tryd.f6.params[j]? = some t → args[j]? = some v → Value.okWide Tryd.prog W .any base t v)
    (hW : DataW.Whole enc Tryd.prog Tryd.f6.params.toList Rows.codecKeysSpec.vars false W args.toList ds gs before) (hz : (DataW.weightsEach Tryd.prog (Tryd.f6.params.toList ++ (Rows.OpenSpec.upto Rows.codecKeysSpec).bare.plain.varTypes Tryd.prog) (ds ++ gs)).all (· ≤ reachBytes) = true) (hk : Rows.uptoSmall H (ds ++ gs) = true) (hL : laidMetH Tryd.prog Rows.codecKeysUptoRow.laid W) :
    Calls Tryd.prog 6 args W fun e W' => ∃ v, e = .returned v ∧ Rows.codecKeysSpec.post enc Tryd.prog Tryd.f6 false true false false W args v W' := by
  have hW' := hW
  obtain ⟨p, q, hA0, hV, hbe, hfz, hnd⟩ := hW
  have hA : DataW.TrodAll enc Tryd.prog W 0 (fun _ => true) true Tryd.f6.params.toList args.toList ds p := hA0
  obtain ⟨rfl, rfl⟩ := trodVars_none hV
  rw [Tryd.params6] at hA hval
  obtain ⟨v0, vs0, d0, ds0, p0, q0, hg0, hd0, hp0, h0, r0⟩ := trodAll_cons hA
  obtain ⟨v1, vs1, d1, ds1, p1, q1, hg1, hd1, hp1, h1, r1⟩ := trodAll_cons r0
  obtain ⟨v2, vs2, d2, ds2, p2, q2, hg2, hd2, hp2, h2, r2⟩ := trodAll_cons r1
  obtain ⟨v3, vs3, d3, ds3, p3, q3, hg3, hd3, hp3, h3, r3⟩ := trodAll_cons r2
  obtain ⟨e1, e2, e3⟩ := trodAll_nil r3
  have hds : ds = [d0, d1, d2, d3] := by simp [hd0, hd1, hd2, hd3, e2]
  obtain rfl : args = #[v0, v1, v2, v3] := by
    have : args.toList = [v0, v1, v2, v3] := by simp [hg0, hg1, hg2, hg3, e1]
    exact Array.toList_inj.1 this
  subst hds
  obtain ⟨k0, n0, s0, rfl, iv0⟩ := open_value (hval 0 26 v0 rfl rfl) h0
  obtain ⟨A1, c1, l1, rfl, hlc1, hr1, hd1⟩ := open_bytes (hval 1 27 v1 rfl rfl) h1
  obtain ⟨A2, c2, l2, rfl, hlc2, hr2, hd2⟩ := open_bytes (hval 2 27 v2 rfl rfl) h2
  obtain ⟨n3, rfl, hd3, -, wf3⟩ := open_int Tryd.underlying3 (hval 3 3 v3 rfl rfl) h3
  have hb3 := bounds_i64 wf3
  have hbulk : Rows.uptoBulkAll ([d0, d1, d2, d3] ++ []) ≤ 1048576 := of_decide_eq_true hk
  simp only [List.append_nil, Rows.uptoBulkAll] at hbulk
  have hb1 := bulk_bytes hd1
  have hb2 := bulk_bytes hd2
  have ht := tabs_of_laid hL
  refine (((codecKeys_walk k0 n0 s0 A1 A2 l1.length l2.length c1 c2 l1 l2 n3 W iv0 hr1 hr2 rfl rfl hlc1 hlc2 (by omega) (by omega) hb3.1 (by omega) ht).mono fun e w' ⟨he, hx⟩ => (⟨_, he, hx, rfl⟩ : Ret W (Is (.bool true)) e w'))).mono fun e W' ⟨v, he, hx, hv⟩ => ?_
  subst he
  have hv' : v = .bool true := hv
  subst hv'
  exact ⟨_, rfl, law_post laidOut hW' rfl (by rw [Tryd.params6]; exact readable_all _ (by kernel_rfl)) (by kernel_rfl) Tryd.underlying4 rfl hx⟩

theorem laid_met (os : Os) : laidMet Tryd.prog Rows.codecKeysUptoRow.laid ((laidWorld os).forCall (fun _ _ => 0) ⟨#[], #[Value.agg #[.int .u8 0, .int .i64 0, .string ⟨#[]⟩], Value.slice none 0 0, Value.slice none 0 0, Value.int .i64 0], []⟩).memory :=
  laidWorld_met os _
theorem reads (os : Os) {H : Type} (enc : TypeId × Value → H) : ∃ places, DataW.whole enc Tryd.prog ((laidWorld os).forCall (fun _ _ => 0) ⟨#[], #[Value.agg #[.int .u8 0, .int .i64 0, .string ⟨#[]⟩], Value.slice none 0 0, Value.slice none 0 0, Value.int .i64 0], []⟩).memory Tryd.f6.params.toList Rows.codecKeysSpec.vars false (#[Value.agg #[.int .u8 0, .int .i64 0, .string ⟨#[]⟩], Value.slice none 0 0, Value.slice none 0 0, Value.int .i64 0]).toList 8 = some ([.agg [.lit (.int .u8 0), .lit (.int .i64 0), .lit (.string [])], .nil, .nil, .lit (.int .i64 0)], [], places) :=
  ⟨[], by kernel_rfl⟩

set_option maxRecDepth 100000 in
theorem lifted (os : Os) (started : os.Started) (H : Type) (enc : TypeId × Value → H) (F : Stop.Interp) :
    ReturnsInHanded {} Tryd.checked os 6 .any ((Rows.OpenSpec.upto Rows.codecKeysSpec).preRow enc Tryd.prog Tryd.f6 Rows.codecKeysUptoRow.domain false Rows.codecKeysUptoRow.laid) (((Rows.OpenSpec.upto Rows.codecKeysSpec).at F).post enc Tryd.prog Tryd.f6 false true false false) := by
  obtain ⟨places, hx⟩ := reads os enc
  refine returnsInHanded_of_row (C := Tryd.checked) (s := (Rows.OpenSpec.upto Rows.codecKeysSpec)) own started (by kernel_rfl) Tryd.func6
    (witness_row_at (enc := enc) (C := Tryd.checked) false (laidWorld os) #[Value.agg #[.int .u8 0, .int .i64 0, .string ⟨#[]⟩], Value.slice none 0 0, Value.slice none 0 0, Value.int .i64 0] (laidWorld_os os) (by kernel_rfl) (by kernel_rfl) (by kernel_rfl)
      (OpenSpec.preRow_of_cond 8 hx (by kernel_rfl) (fun k hk => by cases hk; kernel_rfl) (by kernel_rfl) (laid_met os))) ?_
  intro W base args ds gs before hval hW _ hcond hz hL _ _
  exact contract H enc W base args ds gs before hval hW hz (hcond _ rfl) hL

theorem said : Rows.CodecKeysUptoSaid :=
  OpenClaim.holds_of_cond 6 Tryd.f6 rfl rfl rfl rfl rfl rfl rfl ⟨rfl, rfl, rfl, rfl, rfl⟩ rfl rfl rfl rfl rfl (by kernel_rfl) Tryd.func6 (by kernel_rfl)
    (of_decide_eq_true (by kernel_rfl)) (by unfold Func.isWrapper; first | (rw [if_pos (by decide +kernel)]; kernel_rfl) | (rw [if_neg (by decide +kernel)]; exact ⟨rfl, rfl⟩))
    (fun os started H enc _ F => by rw [OpenClaim.pre_eq_preRow]; exact lifted os started H enc F)

theorem plain (f : FuncId) (fn : Func) (hf : Tryd.pinned.checked.prog.funcNamed "muniment/munimentlaw04.CodecKeys" = some f) (hfn : Tryd.pinned.checked.prog.funcs[f]? = some fn) :
    Rows.codecKeysUptoCard.stood.looks = Tryd.pinned.checked.prog.looks [] ∧ ∀ (j : Nat) t, fn.params[j]? = some t → Tryd.pinned.checked.prog.wantsStandIn t = false := by
  obtain rfl : f = 6 := Option.some.inj ((show Tryd.prog.funcNamed "muniment/munimentlaw04.CodecKeys" = some 6 by kernel_rfl).symm.trans hf) |>.symm
  obtain rfl : fn = Tryd.f6 := (Option.some.inj (Tryd.func6.symm.trans hfn)).symm
  refine ⟨by kernel_rfl, fun j t ht => ?_⟩
  have h := (show (Tryd.f6.params.toList.all fun t => !Tryd.prog.wantsStandIn t) = true by kernel_rfl)
  have h2 := List.all_eq_true.1 h t (by simpa using Array.mem_of_getElem? ht)
  have h3 : Tryd.prog.wantsStandIn t = false := by simpa using h2
  exact h3

/-- The card. -/
theorem card : Rows.CodecKeysUptoCardSaid :=
  Claim7.holds_tied_plain_at .later [] _ _ _ _ said (fun _ h => by cases h) (by kernel_rfl) (fun _ h => by cases h) codecKeysUpto_row_tie rfl ⟨rfl, rfl⟩ (by kernel_rfl) rfl plain (by kernel_rfl)
end Go.Proofs.YtpdikmcaihlbaaaDoor.lawCodecKeys

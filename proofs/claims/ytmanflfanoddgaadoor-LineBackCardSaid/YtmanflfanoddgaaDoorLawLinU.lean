/-
  LineWrites: for every request of bulk below 1048576 the law answers true: the walk.
-/
import Derived.Test.YtmanflfanoddgaaDoorLinJ
import Derived.Test.YtmanflfanoddgaaDoorLinS
namespace Go.Proofs.YtmanflfanoddgaaDoor
open Go.RowKit

theorem parse_is {s : ByteArray} {v : Int} {t : List (List UInt8)} {p e : Nat} (h : parseS s.data.toList = (v, t, p, e)) (w : World) (hs : s.size ≤ 140737488355328) (hT : Tabs w) (hV : TabV w) :
    Calls Tryd.prog 41 #[.string s] w (Ret w fun w' x => ∃ A c, x = .tuple #[.agg #[.int .u8 v, .slice A t.length c], .int .i64 (p : Int), .int .i64 (e : Int)] ∧ RdV w' A (tvs t)) :=
  (parse_any s w hs hT hV).mono fun _ _ ⟨x, he, hx, hv⟩ => by
    refine ⟨x, he, hx, ?_⟩
    unfold ParseV at hv
    rw [h] at hv
    obtain ⟨v0, rfl, v1, rfl, A, c, rfl, _, hr⟩ := hv
    exact ⟨A, c, rfl, hr⟩
theorem write_is {v : Int} {args : List (List UInt8)} {out : List UInt8} {e : Nat} (h : writeS v args = (out, e)) {ob : ByteArray} (ho : (⟨out.toArray⟩ : ByteArray) = ob) (A : Option Addr) (c : Nat) (w : World) (hA : RdV w A (tvs args)) (hz : ∀ x ∈ args, x.length ≤ 1048576) (hT : Tabs w) (hV : TabV w) :
    Calls Tryd.prog 39 #[.agg #[.int .u8 v, .slice A args.length c]] w (Ret w (Is (.tuple #[.string ob, .int .i64 (e : Int)]))) := by
  have k := write_any v args A c w hA hz hT hV
  rw [h] at k
  simp only at k
  rw [ho] at k
  exact k
theorem rwrite_is {v : Int} {args : List (List UInt8)} {out : List UInt8} {e : Nat} (h : writeS v args = (out, e)) {ob : ByteArray} (ho : (⟨out.toArray⟩ : ByteArray) = ob) (A : Option Addr) (c : Nat) (w : World) (hA : RdV w A (tvs args)) (hz : ∀ x ∈ args, x.length ≤ 1048576) (hT : Tabs w) :
    Calls Tryd.prog 40 #[.agg #[.int .u8 v, .slice A args.length c]] w (Ret w (Is (.tuple #[.string ob, .int .i64 (e : Int)]))) := by
  have k := rwrite_any v args A c w hA hz hT
  rw [h] at k
  simp only at k
  rw [ho] at k
  exact k
theorem writeS_small {v : Int} {args : List (List UInt8)} {out : List UInt8} {e : Nat} (h : writeS v args = (out, e)) : out.length ≤ 300 := by
  unfold writeS at h
  split at h
  · injection h with h _; subst h; simp
  · split at h
    · split at h
      · split at h
        · injection h with h _; subst h; simp
        · injection h with h _; subst h; omega
      · injection h with h _; subst h; simp
    · injection h with h _; subst h; simp

theorem bytes_small {out : List UInt8} {ob : ByteArray} (h : (⟨out.toArray⟩ : ByteArray) = ob) (hl : out.length ≤ 300) : ob.size ≤ 140737488355328 := by
  rw [← h]
  show out.toArray.size ≤ _
  rw [List.size_toArray]
  omega

set_option maxRecDepth 20000 in
set_option maxHeartbeats 8000000 in
theorem lineWrites_walk (v : Int) (args : List (List UInt8)) (A : Option Addr) (c : Nat) (w : World) (hA : RdV w A (tvs args)) (hz : ∀ x ∈ args, x.length ≤ 1048576) (hn : args.length ≤ 1048576) (hT : Tabs w) (hV : TabV w) :
    Calls Tryd.prog 13 #[.agg #[.int .u8 v, .slice A args.length c]] w (Ret w (Is (.bool true))) := by
  have KA := hide fun W (h : Ext w W) => awake_any W (hT.ext h)
  obtain ⟨out, e, HWS⟩ : ∃ out e, Hid (writeS v args = (out, e)) := ⟨_, _, hide rfl⟩
  obtain ⟨ob, HOB⟩ : ∃ ob : ByteArray, Hid ((⟨out.toArray⟩ : ByteArray) = ob) := ⟨_, hide rfl⟩
  have HOS : Hid (ob.size ≤ 140737488355328) := hide (bytes_small HOB.out (writeS_small HWS.out))
  have K1 := hide fun W (h : Ext w W) => write_is HWS.out HOB.out A c W (hA.ext h) hz (hT.ext h) (hV.ext h)
  have K2 := hide fun W (h : Ext w W) => rwrite_is HWS.out HOB.out A c W (hA.ext h) hz (hT.ext h)
  have HR := hide fun (he : e = 0) => write_back (v := v) (args := args) (out := out) (by rw [← he]; exact HWS.out)
  have KS := hide fun (h50 : args.length ≤ 50) V B C d1 d2 (hB : RdV V B (tvs args)) (hC : RdV V C (tvs args)) => same_any v args B C d1 d2 V (by omega) hB hC
  obtain ⟨n, HN⟩ : ∃ n, Hid (args.length = n) := ⟨_, hide rfl⟩
  rw [HN.out] at K1 K2 hn ⊢
  have HXB := hide (Ext.alloc w (.cells #[.int .u8 v, .slice A n c] 72))
  have HRB := hide (Rw.new w 72 [.int .u8 v, .slice A n c])
  clear hz
  by_cases h50 : 50 < n
  · have h5i : (50 : Int) < (n : Int) := by omega
    go_enter Tryd.func13, Tryd.ntmps13
    go_wp2_with (first
      | (go_at_call 38; (with_reducible refine (KA.out _ hx1).mono ?_); rintro e w2 ⟨v2, rfl, hw2, rfl⟩; have hx2 := hx1.trans hw2)
      | (go_at_call 38; (with_reducible refine (KA.out _ HXB.out).mono ?_); rintro e w1 ⟨v1, rfl, hw1, rfl⟩; have hx1 := HXB.out.trans hw1; have cq := (HRB.out.ext hw1).cell (i := 1) rfl))
    go_ret
    exact Ret.mk hx2 rfl
  · have h5i : ¬ (50 : Int) < (n : Int) := by omega
    have hle : args.length ≤ 50 := by have := HN.out; omega
    have KS := hide (KS.out hle)
    clear hle
    rw [HN.out] at KS
    by_cases he : e = 0
    · have hB := HR.out he
      have K3 := hide fun W (h : Ext w W) => parse_is (s := ob) (v := v) (t := args) (p := 0) (e := 0) (by rw [← HOB.out]; exact hB) W HOS.out (hT.ext h) (hV.ext h)
      rw [HN.out] at K3
      subst he
      clear hB
      go_enter Tryd.func13, Tryd.ntmps13
      go_wp2_with (first
        | (go_at_call 38; (with_reducible refine (KA.out _ HXB.out).mono ?_); rintro e w1 ⟨v1, rfl, hw1, rfl⟩; have hx1 := HXB.out.trans hw1; have HR1 := hide (HRB.out.ext hw1); have cq := HR1.out.cell (i := 1) rfl; have cp := HR1.out.cell (i := 0) rfl)
        | (go_at_call 39; (with_reducible refine (K1.out _ hx1).mono ?_); rintro e w2 ⟨v2, rfl, hw2, rfl⟩; have hx2 := hx1.trans hw2; have HR2 := hide (HR1.out.ext hw2); have cq2 := HR2.out.cell (i := 1) rfl; have cp2 := HR2.out.cell (i := 0) rfl)
        | (go_at_call 40; (with_reducible refine (K2.out _ hx2).mono ?_); rintro e w3 ⟨v3, rfl, hw3, rfl⟩; have hx3 := hx2.trans hw3; have HR3 := hide (HR2.out.ext hw3))
        | (go_at_call 41; (with_reducible refine (K3.out _ hx3).mono ?_); rintro e w4 ⟨v4, rfl, hw4, A4, c4, rfl, hr4⟩; have hx4 := hx3.trans hw4; have HR4 := hide ((HR3.out.ext hw4).alloc (.cells #[.int .u8 v, .slice A4 n c4] 72)); have cq4 := HR4.out.cell (i := 1) rfl; have cp4 := HR4.out.cell (i := 0) rfl; have HA4 := hide (hr4.ext (Ext.alloc w4 (.cells #[.int .u8 v, .slice A4 n c4] 72))); have HAA := hide (hA.ext (hx4.trans (Ext.alloc w4 (.cells #[.int .u8 v, .slice A4 n c4] 72)))); have hx5 : Ext w (w4.alloc (.cells #[.int .u8 v, .slice A4 n c4] 72)) := hx4.trans (Ext.alloc _ _))
        | (go_at_call 42; refine (KS.out _ _ _ _ _ HA4.out HAA.out).mono ?_; rintro e w6 ⟨v6, rfl, hw6, rfl⟩; have hx6 := hx5.trans hw6))
      go_ret
      exact Ret.mk hx6 rfl
    · have hne1 : ((e : Int) != 0) = true := by simp; omega
      clear he
      go_enter Tryd.func13, Tryd.ntmps13
      go_wp2_with (first
        | (go_at_call 38; (with_reducible refine (KA.out _ HXB.out).mono ?_); rintro e w1 ⟨v1, rfl, hw1, rfl⟩; have hx1 := HXB.out.trans hw1; have HR1 := hide (HRB.out.ext hw1); have cq := HR1.out.cell (i := 1) rfl; have cp := HR1.out.cell (i := 0) rfl)
        | (go_at_call 39; (with_reducible refine (K1.out _ hx1).mono ?_); rintro e w2 ⟨v2, rfl, hw2, rfl⟩; have hx2 := hx1.trans hw2; have HR2 := hide (HR1.out.ext hw2); have cq2 := HR2.out.cell (i := 1) rfl; have cp2 := HR2.out.cell (i := 0) rfl)
        | (go_at_call 40; (with_reducible refine (K2.out _ hx2).mono ?_); rintro e w3 ⟨v3, rfl, hw3, rfl⟩; have hx3 := hx2.trans hw3))
      go_ret
      exact Ret.mk hx3 rfl
end Go.Proofs.YtmanflfanoddgaaDoor

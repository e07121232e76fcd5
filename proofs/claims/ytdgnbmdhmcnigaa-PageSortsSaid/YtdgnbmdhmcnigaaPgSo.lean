/-
  The walk of PageSorts.
-/
import Derived.Test.YtdgnbmdhmcnigaaPgW
import Derived.Test.YtdgnbmdhmcnigaaPgSw
namespace Go.Proofs.Ytdgnbmdhmcnigaa
open Go.RowKit

def srt (L : List Cl) : List Cl := L.foldl (fun acc x => repl acc x.1 [x]) []
theorem srt_snoc (L : List Cl) (k : Nat) (x : Cl) (h : L[k]? = some x) : srt (L.take (k + 1)) = repl (srt (L.take k)) x.1 [x] := by
  unfold srt
  rw [List.take_add_one, h, List.foldl_append]
  rfl
theorem srt_ok {L : List Cl} (hS : Small L) : ∀ k, k ≤ L.length → Rises (srt (L.take k)) ∧ (srt (L.take k)).length ≤ k ∧ Small (srt (L.take k))
  | 0, _ => ⟨trivial, Nat.le_refl _, fun x hx => by cases hx⟩
  | k + 1, hk => by
    obtain ⟨h1, h2, h3⟩ := srt_ok hS k (by omega)
    have hx : L[k]? = some L[k] := List.getElem?_eq_getElem (by omega)
    rw [srt_snoc L k _ hx]
    refine ⟨repl_rises1 h1 rfl, ?_, repl_small h3 (small_one (hS.at hx))⟩
    have := repl_le (srt (L.take k)) (L[k]).1 [L[k]]
    simp at this
    omega
set_option maxRecDepth 20000 in
set_option maxHeartbeats 1600000 in
theorem pageSorts_long (A : Option Addr) (n c : Nat) (w : World) (h : 60 < n) :
    Calls Try.prog 9 #[.slice A n c] w (Ret w (Is (.bool true))) := by
  have KA := hide awake_any
  have h3i : (60 : Int) < (n : Int) := by omega
  clear h
  go_enter Try.func9, Try.ntmps9
  go_upto_region 2 with (go_at_call 11; (with_reducible refine (KA.out _).mono ?_); rintro e w1 ⟨rfl, hx1⟩; have X1 := hide hx1; clear hx1)
  go_wp2_with (go_at_call 11; (with_reducible refine (KA.out _).mono ?_); rintro e w2 ⟨rfl, hx2⟩; have X2 := hide (X1.out.trans hx2); clear hx2)
  go_ret
  exact Ret.mk X2.out rfl
set_option maxRecDepth 20000 in
set_option maxHeartbeats 3200000 in
theorem pageSorts_main (A : Option Addr) (c : Nat) (L : List Cl) (w : World) (hr : RdC w A L) (hS : Small L) (hl : L.length ≤ 60) :
    Calls Try.prog 9 #[.slice A L.length c] w (Ret w (Is (.bool true))) := by
  have KA := hide awake_any
  obtain ⟨n, HN⟩ : ∃ n, Hid (L.length = n) := ⟨_, hide rfl⟩
  have HR := hide hr
  have HS := hide hS
  rw [HN.out] at hl ⊢
  have h3i : ¬ (60 : Int) < (n : Int) := by omega
  have HL := hide hl
  have HOK := hide (srt_ok hS)
  clear hr hS hl
  go_enter Try.func9, Try.ntmps9
  go_wp2_with (go_at_call 11; (with_reducible refine (KA.out _).mono ?_); rintro e w1 ⟨rfl, hx1⟩; have X1 := hide hx1; clear hx1)
  go_loopw [3, 4, 5] (fun av bv iv wr => ∃ k : Nat, k ≤ n ∧ iv = .int .i64 (k : Int) ∧ Hid (Cells (srt (L.take k)) wr av) ∧ Hid (Cells (srt (L.take k)) wr bv) ∧ Hid (Ext w wr)) (fun _ _ iv _ => n - (intOf iv).toNat)
  case atStart => exact ⟨0, Nat.zero_le _, rfl, hide (Cells.nil _), hide (Cells.nil _), X1⟩
  case round =>
    obtain ⟨k, hk, rfl, HA, HB, HX⟩ := hrel
    have hl60 : (n : Int) ≤ 60 := by have := HL.out; omega
    obtain ⟨S, HSS⟩ : ∃ S, Hid (srt (L.take k) = S) := ⟨_, hide rfl⟩
    have HSO : Hid (Rises S ∧ S.length ≤ k ∧ Small S) := hide (by rw [← HSS.out]; exact HOK.out k (by rw [HN.out]; exact hk))
    rw [HSS.out] at HA HB
    obtain ⟨Aa, ca, rfl, hca, hra⟩ := HA.out
    obtain ⟨Ab, cb, rfl, hcb, hrb⟩ := HB.out
    have HRA := hide (And.intro hca hra)
    have HRB := hide (And.intro hcb hrb)
    clear HA HB hca hra hcb hrb
    by_cases hlt : k < n
    · obtain ⟨y, hy⟩ : ∃ y, L[k]? = some y := ⟨_, List.getElem?_eq_getElem (by have := HN.out; omega)⟩
      obtain ⟨bl, off, B1, d1, B2, d2, rfl, m1, m2, g1, g2, r1, r2⟩ := (HR.out).at hy
      have HM := hide (And.intro m1 m2)
      have HG := hide (And.intro r1 (And.intro r2 (And.intro g1 g2)))
      have hsy := HS.out.at hy
      have HSN := hide (srt_snoc L k y hy)
      rw [HSS.out] at HSN
      have KP := hide (fun (W : World) (hW : Ext wr W) => put_any (x := y) S.length y.1.length y.2.length ca d1 d2 W (HRA.out.2.ext hW) (r1.ext (HX.out.trans hW)) (r2.ext (HX.out.trans hW)) rfl rfl rfl g1 g2 (by have := HSO.out.2.1; have := HL.out; omega) HRA.out.1 HSO.out.1 HSO.out.2.2 (small_one hsy))
      have KQ := hide (fun (W : World) (hW : Ext wr W) => rput_any (x := y) S.length y.1.length y.2.length cb d1 d2 W (HRB.out.2.ext hW) (r1.ext (HX.out.trans hW)) (r2.ext (HX.out.trans hW)) rfl rfl rfl g1 g2 (by have := HSO.out.2.1; have := HL.out; omega) HSO.out.1)
      rw [← HSN.out] at KP KQ
      have q1 := HX.out.keeps.cell m1
      have q2 := HX.out.keeps.cell m2
      have hki : (k : Int) < (n : Int) := by omega
      have hk0 : (0 : Int) ≤ (k : Int) := by omega
      clear hy m1 m2 g1 g2 r1 r2 hsy
      go_wp2_with (first
        | (go_at_call 23; (with_reducible refine (KP.out _ (Ext.refl _)).mono ?_); rintro e w2 ⟨v2, rfl, hx2, ho2⟩; have q3 := hx2.keeps.cell q1; have q4 := hx2.keeps.cell q2; have X2 := hide hx2; have O2 := hide ho2.cells; clear hx2 ho2)
        | (go_at_call 24; (with_reducible refine (KQ.out _ X2.out).mono ?_); rintro e w3 ⟨v3, rfl, hx3, ho3⟩; have X3 := hide (X2.out.trans hx3); have O3 := hide ho3; have O4 := hide (O2.out.ext hx3); clear hx3 ho3))
      refine ⟨⟨k + 1, by omega, by go_num, O4, O3, hide (HX.out.trans X3.out)⟩, by simp [intOf]; omega⟩
    · have hki : ¬ (k : Int) < (n : Int) := by omega
      have KR := hide (fun (W : World) (hW : Ext wr W) => rrises_yes S.length ca W (HRA.out.2.ext hW) rfl (by have := HSO.out.2.1; have := HL.out; omega) HSO.out.1)
      have KS := hide (fun (W : World) (hW : Ext wr W) => rsame_yes S.length S.length ca cb W (HRA.out.2.ext hW) (HRB.out.2.ext hW) rfl rfl (by have := HSO.out.2.1; have := HL.out; omega) rfl)
      clear hlt
      go_wp2_with (first
        | (go_at_call 21; (with_reducible refine (KR.out _ (Ext.refl _)).mono ?_); rintro e w4 ⟨rfl, q, rfl⟩; have X4 := hide ((Ext.refl wr).drewN q))
        | (go_at_call 19; (with_reducible refine (KS.out _ X4.out).mono ?_); rintro e w5 ⟨rfl, q5, rfl⟩; have X5 := hide (X4.out.trans ((Ext.refl _).drewN q5))))
      go_ret
      exact Ret.mk (HX.out.trans ((Ext.refl wr).drewN _)) rfl
theorem pageSorts_walk (A : Option Addr) (c : Nat) (L : List Cl) (w : World) (hr : RdC w A L) (hS : Small L) :
    Calls Try.prog 9 #[.slice A L.length c] w (Ret w (Is (.bool true))) := by
  rcases Nat.lt_or_ge 60 L.length with h | h
  · exact pageSorts_long A _ c w h
  · exact pageSorts_main A c L w hr hS h
end Go.Proofs.Ytdgnbmdhmcnigaa

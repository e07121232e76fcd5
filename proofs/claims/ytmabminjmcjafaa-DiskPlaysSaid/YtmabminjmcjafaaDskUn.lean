/-
  The document's New.
-/
import Derived.Test.YtmabminjmcjafaaDskUr
import Derived.Test.YtmabminjmcjafaaDskN
import Derived.Test.YtmabminjmcjafaaDskF
namespace Go.Proofs.Ytmabminjmcjafaa
open Go.RowKit

theorem own_type {w : World} {B t size n : Nat} {v : Value} {xs : List Value} (h : w.ownsRow B t size v n xs) (k : Nat) (hk : v.ownBlock = some k) : B ≤ k ∧ ∃ vs, Rw w k t vs := by
  rcases h.2 with ⟨rfl, _⟩ | ⟨g, cap, cur, rfl, hb, hg, _⟩
  · cases hk
  · injection hk with hk
    subst hk
    exact ⟨hb, cur.toList, by unfold Rw; rw [hg]⟩
theorem worldX {w W : World} (_ : Hid (Ext w W)) : ∃ wr, wr = W := ⟨W, rfl⟩
def NUPost (B n : Nat) (w : World) (e : Ending) (w' : World) : Prop := ∃ g gl cl rest, e = .returned (.pointer (some ⟨g, 0, none⟩)) ∧ RefAt B w' g gl cl none 0 rest (D0 n) ∧ Ext w w'
set_option maxRecDepth 20000 in
set_option maxHeartbeats 3200000 in
theorem rnew_any (n : Nat) (h1 : 1 ≤ n) (h2 : n ≤ 4096) (w : World) :
    Calls Try.prog 11 #[.int .i64 (n : Int)] w (NUPost w.heap.size n w) := by
  have hmk := make_512
  have hn : (n : Int) ≤ 4096 := by omega
  obtain ⟨z, HZ⟩ : ∃ z, Hid (List.replicate 512 (0 : UInt8) = z) := ⟨_, hide rfl⟩
  rw [HZ.out] at hmk
  have HZL : Hid (z.length = 512) := hide (by rw [← HZ.out, List.length_replicate])
  go_enter Try.func11, Try.ntmps11
  go_upto_region 2 with fail
  obtain ⟨W1, hX1, hG1, hgg⟩ : ∃ W, Ext w W ∧ Rw W w.heap.size 39 [.slice none 0 0, .slice none 0 0, .int .i64 0, .bool false, .int .i64 0] ∧ w.alloc (.cells #[.slice none 0 0, .slice none 0 0, .int .i64 0, .bool false, .int .i64 0] 39) = W := ⟨_, Ext.alloc _ _, Rw.new _ _ _, rfl⟩
  rw [hgg]
  clear hgg
  have X1 := hide hX1
  have G1 := hide hG1
  have hby : Bytes z (W1.alloc (.cells (bs z).toArray 5)) (.slice (some ⟨W1.heap.size, 0, none⟩) 512 512) := ⟨_, 512, by rw [HZL.out], by rw [HZL.out]; exact Nat.le_refl _, Rd.of_rw (Rw.new W1 5 (bs z))⟩
  have HBY := hide hby
  clear hX1 hG1 hby
  go_upto_region 4 with (refine wpList_str (by rfl) (.tmp 8) rfl z HBY.out ?_)
  obtain ⟨W2, hX2, hG2, hgg⟩ : ∃ W, Ext w W ∧ Rw W w.heap.size 39 [.slice none 0 0, .slice none 0 0, .int .i64 0, .bool false, .int .i64 0] ∧ W1.alloc (.cells (bs z).toArray 5) = W := ⟨_, X1.out.trans (Ext.alloc _ _), G1.out.alloc _, rfl⟩
  rw [hgg]
  clear hgg hmk HBY
  obtain ⟨g, HGE⟩ : ∃ g, Hid (w.heap.size = g) := ⟨_, hide rfl⟩
  rw [HGE.out] at hG2 ⊢
  have X2 := hide hX2
  have G2 := hide hG2
  clear hX2 hG2 X1 G1
  go_loopw [5] (fun iv wr => ∃ (i : Nat) (v : Value), i ≤ n ∧ iv = .int .i64 (i : Int) ∧ Hid (Rw wr g 39 [v, .slice none 0 0, .int .i64 0, .bool false, .int .i64 0]) ∧ Hid (OwnT wr g v (List.replicate i z)) ∧ Hid (Ext w wr)) (fun iv _ => n - (intOf iv).toNat)
  case atStart => exact ⟨0, .slice none 0 0, Nat.zero_le _, rfl, G2, hide (OwnT.nil _ _), X2⟩
  case round =>
    obtain ⟨i, v, hi, rfl, HG, HO, HX⟩ := hrel
    obtain ⟨wr, HWR⟩ := worldX HX
    subst HWR
    by_cases hlt : i < n
    · have hii : (i : Int) < (n : Int) := by omega
      obtain ⟨A, c, hv⟩ : ∃ A c, v = .slice A i c := by
        obtain ⟨A, c, hv, _⟩ := HO.out.txs
        rw [List.length_replicate] at hv
        exact ⟨A, c, hv⟩
      subst hv
      have q0 := HG.out.cell (i := 0) rfl
      have qf := HG.out.frozen 0
      have HGX := hide (HG.out.alloc (.cells #[.string ⟨z.toArray⟩] 9))
      have HGS := hide (show g ≤ wr.heap.size from by have := HG.out.lt; omega)
      have HIN := hide (show i < n from hlt)
      go_upto_region 5 with (at_builtin; refine wpList_pushG (by rfl) (.tmp 19) (.tmp 21) rfl g _ (List.replicate i z) ⟨z.toArray⟩ rfl rfl HO.out HGS.out (by rw [List.length_replicate]; have := HIN.out; omega) ?_; intro v5 w5 ho5 hg5; have HO5 := hide ho5; have HGR := hide hg5; have G5 := hide (show Rw w5 g 39 [.slice A i c, .slice none 0 0, .int .i64 0, .bool false, .int .i64 0] from (hg5.block g HG.out.lt (fun e => by obtain ⟨_, vs, hr⟩ := own_type HO.out g e.symm; exact HG.out.apart hr (by decide) rfl)).trans HG.out); have k0 := G5.out.cell (i := 0) rfl; have kf := G5.out.frozen 0; obtain ⟨A5, c5, hv5, -⟩ := ho5.txs; subst hv5; clear ho5 hg5)
      have HO6 : Hid (OwnT w5 g (.slice A5 (List.replicate i z ++ [z]).length c5) (List.replicate (i + 1) z)) := hide (by
        have h := HO5.out
        have e : List.replicate i z ++ [(⟨z.toArray⟩ : ByteArray).data.toList] = List.replicate (i + 1) z := by rw [List.replicate_succ']
        rw [← e]
        exact h)
      have hlen : (List.replicate i z ++ [z]).length = i + 1 := by rw [List.length_append, List.length_replicate]; rfl
      rw [hlen] at HO6
      have G6 := hide (G5.out.set 0 (.slice A5 (i + 1) c5))
      have O6 : Hid (OwnT (w5.setCell ⟨g, 0, none⟩ (.slice A5 (i + 1) c5)) g (.slice A5 (i + 1) c5) (List.replicate (i + 1) z)) := hide (by
        have h : w5.ownsRow g 9 1 (.slice A5 (i + 1) c5) (List.replicate (i + 1) z).length (tvs (List.replicate (i + 1) z)) := HO6.out
        unfold OwnT
        rw [List.length_replicate] at h ⊢
        exact ownsRow_far h fun a ha => Below.heap_setCell w5 ⟨g, 0, none⟩ _ a.block (fun e => G5.out.apart_own h (by decide) a ha e))
      have X6 : Hid (Ext w (w5.setCell ⟨g, 0, none⟩ (.slice A5 (i + 1) c5))) := hide (by
        have hgr := HGR.out
        have hx := HX.out
        refine ⟨hgr.os.trans hx.os, hgr.tape.trans hx.tape, hgr.output.trans hx.output, Nat.le_trans hx.size (Nat.le_trans hgr.size (by simp [World.setCell])), fun j hj => ?_⟩
        have hj2 : j < g := by rw [← HGE.out]; exact hj
        refine (Below.heap_setCell w5 ⟨g, 0, none⟩ _ j (fun e => by simp only at e; omega)).trans ((hgr.block j (Nat.lt_of_lt_of_le hj hx.size) (fun e => ?_)).trans (hx.block j hj))
        have := (own_type HO.out j e.symm).1
        omega)
      have hw : i + 1 ≤ n := HIN.out
      clear k0 kf q0 qf hlen
      go_wp2
      exact ⟨⟨i + 1, _, hw, by go_num, G6, O6, X6⟩, by simp [intOf]; omega⟩
    · obtain rfl : n = i := by omega
      have hii : ¬ (n : Int) < (n : Int) := by omega
      have hfin : ∃ gl cl rest, RefAt w.heap.size wr g gl cl none 0 rest (D0 n) := by
        rcases HO.out.2 with ⟨_, h0⟩ | ⟨gl, cap, cur, rfl, hb, hg, hnc, _, hsz, htk⟩
        · rw [List.length_replicate] at h0; omega
        · rw [List.length_replicate] at hnc htk
          refine ⟨gl, cap, cur.toList.drop n, ⟨?_, ?_, World.ownsRow_nil _ _ _ _, ⟨Nat.le_of_eq HGE.out, by rw [HGE.out]; exact hb⟩, by rw [D0_len]; exact hnc⟩⟩
          · have h := HG.out
            rw [List.length_replicate] at h
            have e : refC gl cap none 0 (D0 n) = [.slice (some ⟨gl, 0, none⟩) n cap, .slice none 0 0, .int .i64 0, .bool false, .int .i64 0] := by unfold refC; rw [D0_len]; rfl
            rw [e]
            exact h
          · have e : tvs (D0 n).dur ++ cur.toList.drop n = cur.toList := by
              rw [Nat.mul_one] at htk
              have e2 : tvs (D0 n).dur = cur.toList.take n := by rw [htk]; show tvs (List.replicate n (List.replicate 512 0)) = _; rw [HZ.out]
              rw [e2, List.take_append_drop]
            unfold Rw
            rw [e, hg]
      obtain ⟨gl, cl, rest, hfr⟩ := hfin
      have HF := hide hfr
      clear hfr
      go_wp2
      go_ret
      exact ⟨g, gl, cl, rest, rfl, HF.out, HX.out⟩
end Go.Proofs.Ytmabminjmcjafaa

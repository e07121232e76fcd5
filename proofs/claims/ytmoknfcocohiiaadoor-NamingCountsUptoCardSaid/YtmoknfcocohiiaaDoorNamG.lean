/-
  The document's own answer of layer 3: a text's name.
-/
import Derived.Test.YtmoknfcocohiiaaDoorNamQ
import Derived.BigQuiet
import Derived.Deep.QuietTactic
namespace Go.Proofs.YtmoknfcocohiiaaDoor
open Go.RowKit

theorem bs_encode (r : Int) : bs (Lib.encodeRune r) = Lib.runeCells r := Lib.byteCells_encodeRune r
theorem rune_any (base : Nat) (v : Value) (l : List UInt8) (r : Nat) (hr : r ≤ 1114111) (w : World) (hown : Own w base v l) (hl : l.length ≤ 1000) (hb : base ≤ w.heap.size) :
    Calls Tryd.prog 19 #[v, .int .i32 (r : Int)] w fun e w' => ∃ v', e = .returned v' ∧ Own w' base v' (l ++ Lib.encodeRune (r : Int)) ∧ Below base w w' := by
  refine (Tryd.utf8_AppendRune_plain base v l.length (bs l) (r : Int) (by omega) (by omega) w hown (by omega) hb).mono fun e w' ⟨v', he, h1, o, h2⟩ => ⟨v', he, ?_, ?_⟩
  · unfold Own
    rw [bs_append, bs_encode, List.length_append, ← bs_length (Lib.encodeRune (r : Int)), bs_encode]
    exact h1
  · exact ((Below.refl _ _).alloc hb _).grown h2 (Nat.le_trans hb (by simp)) (fun k hk => (hown.lt k hk).1)
theorem flat_take (l : List Chr) (k : Nat) (c : Chr) (h : l[k]? = some c) : flat (l.take (k + 1)) = flat (l.take k) ++ Lib.encodeRune ((smallR c.r : Nat) : Int) := by
  rw [List.take_add_one, h]
  unfold flat
  rw [List.flatMap_append]
  simp
theorem flat_length (l : List Chr) : (flat l).length ≤ 4 * l.length := by
  induction l with
  | nil => exact Nat.le_refl _
  | cons c t ih =>
    have h := (Lib.runeCells_le ((smallR c.r : Nat) : Int)).2
    rw [Lib.runeCells_length] at h
    show (Lib.encodeRune ((smallR c.r : Nat) : Int) ++ flat t).length ≤ _
    rw [List.length_append, List.length_cons]
    omega
theorem drop_at {α : Type} (l : List α) (k : Nat) (c : α) (h : l[k]? = some c) : l.drop k = c :: l.drop (k + 1) := by
  obtain ⟨hk, hc⟩ := List.getElem?_eq_some_iff.1 h
  rw [List.drop_eq_getElem_cons hk, hc]
theorem smallR_le {r : Nat} (h : r ≤ 1114111) : smallR r ≤ 1114111 := by
  unfold smallR
  split <;> omega

set_option maxRecDepth 20000 in
set_option maxHeartbeats 4000000 in
theorem rfold_any (s : ByteArray) (w : World) (hs : s.size ≤ 4398046511104) (hT : Tabs w) :
    Calls Tryd.prog 11 #[.string s] w (Ret w (Is (foldV (foldS s.data.toList)))) := by
  obtain ⟨F, HF⟩ : ∃ F, Hid (foldV (foldS s.data.toList) = F) := ⟨_, rfl⟩
  rw [HF.out]
  have KC := hide (chars_any s w hs hT)
  have hlen : (chs s.data.toList 0).length ≤ 4398046511104 := Nat.le_trans (chs_le _ _) (by rw [size_len]; exact hs)
  have HFE := hide fun p e (h : fault (chs s.data.toList 0) 0 = some (p, e)) => ret_fold HF.out h
  have HFN := hide fun (h : fault (chs s.data.toList 0) 0 = none) => (show F = foldV (if chs s.data.toList 0 = [] then ([], 0, 4) else if 32 < (flat (chs s.data.toList 0)).length then ([], 0, 2) else (flat (chs s.data.toList 0), 0, 0)) from by
    rw [← HF.out, ← foldR_eq]
    unfold foldR
    rw [h]
    simp only [chs_empty])
  have HRU := hide fun k c (h : (chs s.data.toList 0)[k]? = some c) => chs_rune h
  generalize chs s.data.toList 0 = L at *
  obtain ⟨n, HN⟩ : ∃ n, Hid (L.length = n) := ⟨_, rfl⟩
  have hn := hlen
  rw [HN.out] at hn
  clear hlen HF hs
  go_enter Tryd.func11, Tryd.ntmps11
  go_wp2_with (first
    | (go_at_call 14; refine KC.out.mono ?_; rintro e w1 ⟨v1, rfl, hx1, A, c1, rfl, hr1⟩; rw [HN.out]))
  go_loopw [6, 7] (fun v i wr => ∃ k : Nat, k ≤ n ∧ k ≤ 16 ∧ i = .int .i64 k ∧ Own wr w1.heap.size v (flat (L.take k)) ∧ Ext w1 wr ∧ Hid (fault (L.drop k) k = fault L 0)) (fun _ i _ => n - (intOf i).toNat)
  case atStart => exact ⟨0, Nat.zero_le _, by omega, rfl, Own.nil _ _, Ext.refl _, hide rfl⟩
  case round =>
    obtain ⟨k, hk, hk16, rfl, hown, hx, HFA⟩ := hrel
    by_cases hlt : k < n
    · obtain ⟨b, off, c, rfl, hck, h0, h1, h2⟩ := chr_at (hr1.ext hx) (k := k) (by rw [HN.out]; exact hlt)
      have hki : (k : Int) < (n : Int) := by omega
      have hki0 : (0 : Int) ≤ (k : Int) := by omega
      have hcr := HRU.out k c hck
      have HD := hide (drop_at L k c hck)
      have HFT := hide (flat_take L k c hck)
      have hfl : (flat (L.take k)).length ≤ 1000 := by
        have h3 := flat_length (L.take k)
        have h4 : (L.take k).length ≤ k := List.length_take_le _ _
        omega
      have KR := hide fun W v (h : Own W w1.heap.size v (flat (L.take k))) (hb : w1.heap.size ≤ W.heap.size) => rune_any w1.heap.size v _ (smallR c.r) (smallR_le hcr) W h hfl hb
      obtain ⟨sm, HSM⟩ : ∃ sm : Nat, Hid (smallR c.r = sm) := ⟨_, hide rfl⟩
      have KS := hide fun W => small_any c.r W hcr
      have KN := hide fun W => named_any c.r c.p (okC c) W hcr
      have HFF : Hid (fault (c :: L.drop (k + 1)) k = fault L 0) := hide (by rw [← HD.out]; exact HFA.out)
      have HOWN := hide hown
      rw [HSM.out] at KR KS HFT
      have hx2 := hx1.trans hx
      have HP0 : Hid (0 ≤ c.p) := hide (Nat.zero_le _)
      clear hck hown hcr hfl
      cases ho : okAt k c.r with
      | true =>
        have hname := okAt_name ho
        have HO := hide ho
        rw [hname] at KN
        by_cases hk16' : k = 16
        · have HL : Hid (F = .tuple #[.string ⟨#[]⟩, .int .i64 (c.p : Int), .int .i64 2]) := HFE.out _ _ (by rw [← HFF.out, fault_long HO.out hk16'])
          have hkz : ((k : Int) == 0) = false := i64_ne (by omega)
          have hk16i : ((k : Int) == 16) = true := by rw [hk16']; rfl
          clear ho hname hk16'
          generalize okC c = okc at *
          generalize c.r = q at *
          generalize c.p = p at *
          go_wp2_with (go_at_call 18; refine (KN.out _).mono ?_; rintro e w2 ⟨rfl, hx3⟩; have q0 := (Ext.keeps hx3).cell h0; have q1 := (Ext.keeps hx3).cell h1; have q2 := (Ext.keeps hx3).cell h2)
          go_quiet (fail)
          go_wp2
          go_ret3
          exact Ret.mk (Ext.drewN (hx2.trans hx3) _) HL.out.symm
        · have HFN2 : Hid (fault (L.drop (k + 1)) (k + 1) = fault L 0) := by
            have h := HFF.out
            rw [fault_on HO.out hk16'] at h
            exact h
          have hk16i : ((k : Int) == 16) = false := i64_ne (by omega)
          have hk17 : k + 1 ≤ 16 := by omega
          by_cases hk0 : k = 0
          · have hno : ¬ (c.r = 46 ∨ c.r = 45) := by
              unfold okAt at ho
              simp [hk0] at ho
              omega
            have h46 : ((c.r : Int) == 46) = false := i64_ne (by omega)
            have h45 : ((c.r : Int) == 45) = false := i64_ne (by omega)
            have hkz : ((k : Int) == 0) = true := by rw [hk0]; rfl
            clear ho hname hk16' hno hk0
            generalize okC c = okc at *
            generalize c.r = q at *
            generalize c.p = p at *
            go_wp2_with (first
              | (go_at_call 18; refine (KN.out _).mono ?_; rintro e w2 ⟨rfl, hx3⟩; have q0 := (Ext.keeps hx3).cell h0; have q1 := (Ext.keeps hx3).cell h1; have q2 := (Ext.keeps hx3).cell h2; have hx4 := hx.trans hx3; have HO2 := hide (HOWN.out.ext hx3); have hs2 := Ext.size hx4)
              | (go_at_call 20; refine (KS.out _).mono ?_; rintro e w3 ⟨rfl, rfl⟩)
              | (go_at_call 19; refine (KR.out _ _ HO2.out hs2).mono ?_; rintro e w4 ⟨v4, rfl, hown4, hb4⟩; have HO4 := hide hown4; clear hown4))
            refine ⟨⟨k + 1, by omega, by omega, by go_num, by rw [HFT.out]; exact HO4.out, Below.trans hx4 hb4, hide ?_⟩, by simp [intOf]; omega⟩
            exact HFN2.out

          · have hkz : ((k : Int) == 0) = false := i64_ne (by omega)
            clear ho hname hk16' hk0
            generalize okC c = okc at *
            generalize c.r = q at *
            generalize c.p = p at *
            go_wp2_with (first
              | (go_at_call 18; refine (KN.out _).mono ?_; rintro e w2 ⟨rfl, hx3⟩; have q0 := (Ext.keeps hx3).cell h0; have q1 := (Ext.keeps hx3).cell h1; have q2 := (Ext.keeps hx3).cell h2; have hx4 := hx.trans hx3; have HO2 := hide (HOWN.out.ext hx3); have hs2 := Ext.size hx4)
              | (go_at_call 20; refine (KS.out _).mono ?_; rintro e w3 ⟨rfl, rfl⟩)
              | (go_at_call 19; refine (KR.out _ _ HO2.out hs2).mono ?_; rintro e w4 ⟨v4, rfl, hown4, hb4⟩; have HO4 := hide hown4; clear hown4))
            refine ⟨⟨k + 1, by omega, by omega, by go_num, by rw [HFT.out]; exact HO4.out, Below.trans hx4 hb4, hide ?_⟩, by simp [intOf]; omega⟩
            exact HFN2.out
      | false =>
        have HL : Hid (F = .tuple #[.string ⟨#[]⟩, .int .i64 (c.p : Int), .int .i64 4]) := HFE.out _ _ (by rw [← HFF.out, fault_bad ho])
        cases hname : nameOk c.r with
        | false =>
          rw [hname] at KN
          clear ho hname
          generalize okC c = okc at *
          generalize c.r = q at *
          generalize c.p = p at *
          go_wp2_with (go_at_call 18; refine (KN.out _).mono ?_; rintro e w2 ⟨rfl, hx3⟩; have q0 := (Ext.keeps hx3).cell h0; have q1 := (Ext.keeps hx3).cell h1; have q2 := (Ext.keeps hx3).cell h2)
          go_quiet (fail)
          go_wp2
          go_ret3
          exact Ret.mk (Ext.drewN (hx2.trans hx3) _) HL.out.symm
        | true =>
          rw [hname] at KN
          have hz : k = 0 ∧ (c.r = 46 ∨ c.r = 45) := by
            unfold okAt at ho
            rw [hname] at ho
            simp at ho
            omega
          obtain ⟨hk0, hz⟩ := hz
          have hkz : ((k : Int) == 0) = true := by rw [hk0]; rfl
          clear ho hname hk0
          rcases hz with hz | hz
          · have h46 : ((c.r : Int) == 46) = true := by rw [hz]; rfl
            clear hz
            generalize okC c = okc at *
            generalize c.r = q at *
            generalize c.p = p at *
            go_wp2_with (go_at_call 18; refine (KN.out _).mono ?_; rintro e w2 ⟨rfl, hx3⟩; have q0 := (Ext.keeps hx3).cell h0; have q1 := (Ext.keeps hx3).cell h1; have q2 := (Ext.keeps hx3).cell h2)
            go_quiet (fail)
            go_wp2
            go_ret3
            exact Ret.mk (Ext.drewN (hx2.trans hx3) _) HL.out.symm
          · have h46 : ((c.r : Int) == 46) = false := by rw [hz]; rfl
            have h45 : ((c.r : Int) == 45) = true := by rw [hz]; rfl
            clear hz
            generalize okC c = okc at *
            generalize c.r = q at *
            generalize c.p = p at *
            go_wp2_with (go_at_call 18; refine (KN.out _).mono ?_; rintro e w2 ⟨rfl, hx3⟩; have q0 := (Ext.keeps hx3).cell h0; have q1 := (Ext.keeps hx3).cell h1; have q2 := (Ext.keeps hx3).cell h2)
            go_quiet (fail)
            go_wp2
            go_ret3
            exact Ret.mk (Ext.drewN (hx2.trans hx3) _) HL.out.symm
    · obtain rfl : k = n := by omega
      have hki : ¬ (k : Int) < (k : Int) := by omega
      have e : L.take k = L := List.take_of_length_le (by rw [HN.out]; exact Nat.le_refl _)
      have ed : L.drop k = [] := List.drop_of_length_le (by rw [HN.out]; exact Nat.le_refl _)
      rw [e] at hown
      have hnone : fault L 0 = none := by rw [← HFA.out, ed]; rfl
      have HL := HFN.out hnone
      have hx2 := hx1.trans hx
      have hLe : L = [] ↔ k = 0 := by rw [← HN.out]; exact List.length_eq_zero_iff.symm
      by_cases hk0 : k = 0
      · have HL2 : Hid (F = .tuple #[.string ⟨#[]⟩, .int .i64 0, .int .i64 4]) := by
          rw [if_pos (hLe.2 hk0)] at HL
          exact HL
        have hkz : ((k : Int) == 0) = true := by rw [hk0]; rfl
        clear HL hk0 hLe e ed hown hnone hlt hki
        go_wp2
        go_ret3
        exact Ret.mk hx2 HL2.out.symm
      · have hkz : ((k : Int) == 0) = false := i64_ne (by omega)
        rw [if_neg (fun h => hk0 (hLe.1 h))] at HL
        obtain ⟨B, c2, rfl, hlc, hrd⟩ := hown.bytes
        by_cases h32 : 32 < (flat L).length
        · have h32i : (32 : Int) < ((flat L).length : Int) := by omega
          rw [if_pos h32] at HL
          have HL2 := hide HL
          clear HL hk0 hLe e ed hown hnone hlt hki h32
          go_wp2
          go_ret3
          exact Ret.mk hx2 HL2.out.symm
        · have h32i : ((flat L).length : Int) ≤ 32 := by omega
          rw [if_neg h32] at HL
          have HL2 := hide HL
          have hby : Bytes (flat L) wr (.slice B (flat L).length c2) := ⟨B, c2, rfl, hlc, hrd⟩
          clear HL hk0 hLe e ed hown hnone hlt hki h32
          go_wp2_with (refine wpList_str rfl (.tmp 68) rfl (flat L) hby ?_)
          go_ret3
          exact Ret.mk hx2 HL2.out.symm
end Go.Proofs.YtmoknfcocohiiaaDoor

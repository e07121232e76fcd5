/-
  OctetLists: the walk.
-/
import Derived.Test.YtakmkcfljhfkdaaDoorOctK
import Derived.Test.YtakmkcfljhfkdaaDoorLstP
import Derived.Deep.QuietTactic
import Derived.BigQuiet
namespace Go.Proofs.YtakmkcfljhfkdaaDoor
open Go.RowKit

set_option maxRecDepth 20000 in
set_option maxHeartbeats 1600000 in
theorem lists_walk (A B : Option Addr) (c d : Nat) (a b : List (List UInt8)) (w : World) (hA : RdV w A (tvs a)) (hB : RdV w B (tvs b)) (hal : total a ≤ 1048576) (hbl : total b ≤ 1048576) (han : a.length ≤ 1048576) (hbn : b.length ≤ 1048576) (ht : Tab w) :
    Calls Tryd.prog 10 #[.slice A a.length c, .slice B b.length d] w (Ret w (Is (.bool true))) := by
  by_cases hbig : 100 < a.length + b.length
  · have hb1 : (100 : Int) < (a.length : Int) + (b.length : Int) := by omega
    go_enter Tryd.func10, Tryd.ntmps10
    go_wp2_with (first
      | (go_at_call 11; ((with_reducible refine (awake_any w ht).mono ?_); rintro e w1 ⟨v, rfl, hw1, rfl⟩))
      | (go_at_call 11; refine (awake_any w1 (ht.ext hw1)).mono ?_; rintro e w2 ⟨v2, rfl, hw2, rfl⟩))
    go_ret
    exact Ret.mk (hw1.trans hw2) rfl
  · have hb1 : (a.length : Int) + (b.length : Int) ≤ 100 := by omega
    go_enter Tryd.func10, Tryd.ntmps10
    go_wp2_with (go_at_call 11; refine (awake_any w ht).mono ?_; rintro e w1 ⟨v, rfl, hw1, rfl⟩)
    go_loopw [5, 7] (fun v i wr => ∃ k : Nat, k ≤ a.length ∧ i = .int .i64 k ∧ Own wr w.heap.size v (texts (a.take k)) ∧ Below w.heap.size w wr) (fun _ i _ => a.length - (intOf i).toNat)
    case atStart => exact ⟨0, Nat.zero_le _, rfl, Own.nil _ _, hw1⟩
    case round =>
      obtain ⟨k, hk, rfl, hown, hb⟩ := hrel
      by_cases hlt : k < a.length
      · obtain ⟨s, hs⟩ : ∃ s, a[k]? = some s := ⟨_, List.getElem?_eq_getElem hlt⟩
        obtain ⟨bl, off, rfl, hc⟩ := (hA.ext hb).at (tvs_get a k s hs)
        have htot := (total_at hs).1
        have HT := hide (total_at hs).2
        have hsn : (⟨s.toArray⟩ : ByteArray).size ≤ 35184372088832 := by show s.toArray.size ≤ _; simp; omega
        have K1 := hide fun W => (show Calls Tryd.prog 22 #[.string ⟨s.toArray⟩] W (Ret W (Bytes (text s))) from text_any ⟨s.toArray⟩ W hsn)
        have h1 := texts_length (a.take k)
        have h2 := text_length s
        clear hs hsn
        go_wp2_with (first
          | (go_at_call 22; refine (K1.out _).mono ?_; rintro e w3 ⟨v3, rfl, hw3, A3, c3, rfl, hc3, hr3⟩; have hown3 := hown.ext hw3; have hb3 := Below.trans hb (Below.mono hw3 (Below.size hb)))
          | (at_builtin; refine wpList_cat rfl (.tmp 28) (.tmp 33) rfl w.heap.size _ _ (text s) _ _ _ rfl rfl rfl hown3 hr3 (Below.size hb3) (by omega) ?_; intro v4 w4 hown4 hb4))
        refine ⟨⟨k + 1, by omega, by go_num, ?_, Below.trans hb3 hb4⟩, by simp [intOf]; omega⟩
        rw [HT.out, texts_snoc]
        exact hown4
      · obtain rfl : k = a.length := by omega
        rw [List.take_of_length_le (Nat.le_refl _)] at hown
        obtain ⟨wa, hwa⟩ : ∃ x, x = wr := ⟨_, rfl⟩
        subst hwa
        obtain ⟨Ap, cp, rfl, hcp, hrp⟩ := hown.bytes
        clear hown
        go_wp2
        go_loopw [6, 8] (fun v i wq => ∃ k : Nat, k ≤ b.length ∧ i = .int .i64 k ∧ Own wq wa.heap.size v (texts (b.take k)) ∧ Below wa.heap.size wa wq) (fun _ i _ => b.length - (intOf i).toNat)
        case atStart => exact ⟨0, Nat.zero_le _, rfl, Own.nil _ _, Below.refl _ _⟩
        case round =>
          obtain ⟨k, hk, rfl, hown, hb2⟩ := hrel
          by_cases hlt : k < b.length
          · obtain ⟨s, hs⟩ : ∃ s, b[k]? = some s := ⟨_, List.getElem?_eq_getElem hlt⟩
            obtain ⟨bl, off, rfl, hc⟩ := (hB.ext (Below.trans hb (Below.mono hb2 (Below.size hb)))).at (tvs_get b k s hs)
            have htot := (total_at hs).1
            have HT := hide (total_at hs).2
            have hsn : (⟨s.toArray⟩ : ByteArray).size ≤ 35184372088832 := by show s.toArray.size ≤ _; simp; omega
            have K1 := hide fun W => (show Calls Tryd.prog 22 #[.string ⟨s.toArray⟩] W (Ret W (Bytes (text s))) from text_any ⟨s.toArray⟩ W hsn)
            have h1 := texts_length (b.take k)
            have h2 := text_length s
            clear hs hsn
            go_wp2_with (first
              | (go_at_call 22; refine (K1.out _).mono ?_; rintro e w3 ⟨v3, rfl, hw3, A3, c3, rfl, hc3, hr3⟩; have hown3 := hown.ext hw3; have hb3 := Below.trans hb2 (Below.mono hw3 (Below.size hb2)))
              | (at_builtin; refine wpList_cat rfl (.tmp 41) (.tmp 46) rfl wa.heap.size _ _ (text s) _ _ _ rfl rfl rfl hown3 hr3 (Below.size hb3) (by omega) ?_; intro v4 w4 hown4 hb4))
            refine ⟨⟨k + 1, by omega, by go_num, ?_, Below.trans hb3 hb4⟩, by simp [intOf]; omega⟩
            rw [HT.out, texts_snoc]
            exact hown4
          · obtain rfl : k = b.length := by omega
            rw [List.take_of_length_le (Nat.le_refl _)] at hown
            obtain ⟨wc, hwc⟩ : ∃ x, x = wr := ⟨_, rfl⟩
            subst hwc
            have hw2 : Ext w wc := Below.trans hb (Below.mono hb2 (Below.size hb))
            obtain ⟨Aq, cq, rfl, hcq, hrq⟩ := hown.bytes
            have hrp2 := hrp.ext hb2
            clear hown hb2 hb
            go_wp2
            go_loopw [9] (fun i wz => ∃ k : Nat, k ≤ a.length ∧ k ≤ b.length ∧ a.take k = b.take k ∧ i = .int .i64 k ∧ Ext wc wz) (fun i _ => a.length - (intOf i).toNat)
            case atStart => exact ⟨0, Nat.zero_le _, Nat.zero_le _, rfl, rfl, Ext.refl _⟩
            case round =>
              obtain ⟨k, hka, hkb, hkt, rfl, hw3⟩ := hrel
              obtain ⟨hl1, hl2, hl3⟩ := less_texts a b k hkt
              by_cases hlt : k < a.length
              · by_cases hlu : k < b.length
                · obtain ⟨s, hs⟩ : ∃ s, a[k]? = some s := ⟨_, List.getElem?_eq_getElem hlt⟩
                  obtain ⟨t, htt⟩ : ∃ s, b[k]? = some s := ⟨_, List.getElem?_eq_getElem hlu⟩
                  obtain ⟨bl, off, rfl, hc⟩ := (hA.ext (hw2.trans hw3)).at (tvs_get a k s hs)
                  obtain ⟨bm, ofm, rfl, hd⟩ := (hB.ext (hw2.trans hw3)).at (tvs_get b k t htt)
                  have hlt2 : (k : Int) < (a.length : Int) := by omega
                  have hlu2 : (k : Int) < (b.length : Int) := by omega
                  by_cases hst : s = t
                  · have hse : (s == t) = true := by simp [hst]
                    have HT := hide (show a.take (k + 1) = b.take (k + 1) by rw [(total_at hs).2, (total_at htt).2, hkt, hst])
                    clear hl1 hl2 hl3 hs htt hst hkt
                    go_wp2
                    go_quiet (fail)
                    go_wp2
                    refine ⟨⟨k + 1, by omega, by omega, HT.out, by go_num, hw3.drewN _⟩, by simp [intOf]; omega⟩
                  · have hse : (s == t) = false := by simpa using hst
                    have H1 := hide (hl3 s t hs htt hst)
                    clear hl1 hl2 hl3 hs htt hst hkt
                    go_wp2
                    go_quiet (fail)
                    go_wp2
                    have hne : ((k : Int) == (a.length : Int)) = false := beq_eq_false_iff_ne.2 (by omega)
                    have hle := H1.out
                    go_quiet (fail)
                    go_wp2_with (first
                      | (refine wpList_str rfl (.tmp 93) rfl (texts a) ⟨Ap, cp, rfl, hcp, hrp2.ext ((hw3.drewN _).drewN _)⟩ ?_)
                      | (refine wpList_str rfl (.tmp 93) rfl (texts a) ⟨Ap, cp, rfl, hcp, hrp2.ext (hw3.drewN _)⟩ ?_)
                      | (refine wpList_str rfl (.tmp 95) rfl (texts b) ⟨Aq, cq, rfl, hcq, hrq.ext ((hw3.drewN _).drewN _)⟩ ?_)
                      | (refine wpList_str rfl (.tmp 95) rfl (texts b) ⟨Aq, cq, rfl, hcq, hrq.ext (hw3.drewN _)⟩ ?_))
                    go_ret
                    first | exact Ret.mk ((hw2.trans hw3).drewN _) rfl | exact Ret.mk (((hw2.trans hw3).drewN _).drewN _) rfl
                · have hlt2 : (k : Int) < (a.length : Int) := by omega
                  have hlu2 : decide ((k : Int) < (b.length : Int)) = false := decide_eq_false (by omega)
                  have H1 := hide (hl2 (by omega))
                  clear hl1 hl2 hl3 hkt
                  go_wp2
                  go_quiet (fail)
                  go_wp2
                  have hle := H1.out
                  go_quiet (fail)
                  go_wp2_with (first
                    | (refine wpList_str rfl (.tmp 93) rfl (texts a) ⟨Ap, cp, rfl, hcp, hrp2.ext ((hw3.drewN _).drewN _)⟩ ?_)
                    | (refine wpList_str rfl (.tmp 93) rfl (texts a) ⟨Ap, cp, rfl, hcp, hrp2.ext (hw3.drewN _)⟩ ?_)
                    | (refine wpList_str rfl (.tmp 95) rfl (texts b) ⟨Aq, cq, rfl, hcq, hrq.ext ((hw3.drewN _).drewN _)⟩ ?_)
                    | (refine wpList_str rfl (.tmp 95) rfl (texts b) ⟨Aq, cq, rfl, hcq, hrq.ext (hw3.drewN _)⟩ ?_))
                  go_ret
                  first | exact Ret.mk ((hw2.trans hw3).drewN _) rfl | exact Ret.mk (((hw2.trans hw3).drewN _).drewN _) rfl
              · obtain rfl : k = a.length := by omega
                have hlt2 : decide ((a.length : Int) < (a.length : Int)) = false := decide_eq_false (by omega)
                have H1 := hide fun h => hl1 rfl h
                have H2 := hide fun h => hl2 h
                clear hl1 hl2 hl3 hkt
                go_wp2
                go_quiet (fail)
                go_wp2
                by_cases hlu : a.length < b.length
                · have hlu2 : (a.length : Int) < (b.length : Int) := by omega
                  have hle := H1.out hlu
                  go_quiet (fail)
                  go_wp2_with (first
                    | (refine wpList_str rfl (.tmp 93) rfl (texts a) ⟨Ap, cp, rfl, hcp, hrp2.ext ((hw3.drewN _).drewN _)⟩ ?_)
                    | (refine wpList_str rfl (.tmp 93) rfl (texts a) ⟨Ap, cp, rfl, hcp, hrp2.ext (hw3.drewN _)⟩ ?_)
                    | (refine wpList_str rfl (.tmp 95) rfl (texts b) ⟨Aq, cq, rfl, hcq, hrq.ext ((hw3.drewN _).drewN _)⟩ ?_)
                    | (refine wpList_str rfl (.tmp 95) rfl (texts b) ⟨Aq, cq, rfl, hcq, hrq.ext (hw3.drewN _)⟩ ?_))
                  go_ret
                  first | exact Ret.mk ((hw2.trans hw3).drewN _) rfl | exact Ret.mk (((hw2.trans hw3).drewN _).drewN _) rfl
                · have hlu2 : decide ((a.length : Int) < (b.length : Int)) = false := decide_eq_false (by omega)
                  have hlu3 : decide (a.length < b.length) = false := decide_eq_false (by omega)
                  have hle := H2.out (by omega)
                  go_quiet (fail)
                  go_wp2_with (first
                    | (refine wpList_str rfl (.tmp 93) rfl (texts a) ⟨Ap, cp, rfl, hcp, hrp2.ext ((hw3.drewN _).drewN _)⟩ ?_)
                    | (refine wpList_str rfl (.tmp 93) rfl (texts a) ⟨Ap, cp, rfl, hcp, hrp2.ext (hw3.drewN _)⟩ ?_)
                    | (refine wpList_str rfl (.tmp 95) rfl (texts b) ⟨Aq, cq, rfl, hcq, hrq.ext ((hw3.drewN _).drewN _)⟩ ?_)
                    | (refine wpList_str rfl (.tmp 95) rfl (texts b) ⟨Aq, cq, rfl, hcq, hrq.ext (hw3.drewN _)⟩ ?_))
                  go_ret
                  first | exact Ret.mk ((hw2.trans hw3).drewN _) rfl | exact Ret.mk (((hw2.trans hw3).drewN _).drewN _) rfl
end Go.Proofs.YtakmkcfljhfkdaaDoor

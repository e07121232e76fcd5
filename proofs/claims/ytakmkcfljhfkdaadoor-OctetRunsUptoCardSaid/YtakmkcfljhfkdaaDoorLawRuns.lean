/-
  OctetRuns: the walk.
-/
import Derived.Test.YtakmkcfljhfkdaaDoorOctK
import Derived.Test.YtakmkcfljhfkdaaDoorRunP
namespace Go.Proofs.YtakmkcfljhfkdaaDoor
open Go.RowKit

set_option maxRecDepth 20000 in
set_option maxHeartbeats 1600000 in
theorem runs_walk (A B : Option Addr) (c d : Nat) (a : List (List UInt8)) (b : List Int) (w : World) (hA : RdV w A (tvs a)) (hB : RdV w B (nvs b)) (hal : total a ≤ 1048576) (han : a.length ≤ 1048576) (hbn : b.length ≤ 1048576)
    (hbr : ∀ n ∈ b, -9223372036854775808 ≤ n ∧ n ≤ 9223372036854775807) (ht : Tab w) :
    Calls Tryd.prog 9 #[.slice A a.length c, .slice B b.length d] w (Ret w (Is (.bool true))) := by
  by_cases hbig : 200 < a.length + b.length
  · have hb1 : (200 : Int) < (a.length : Int) + (b.length : Int) := by omega
    go_enter Tryd.func9, Tryd.ntmps9
    go_wp2_with (first
      | (go_at_call 11; ((with_reducible refine (awake_any w ht).mono ?_); rintro e w1 ⟨v, rfl, hw1, rfl⟩))
      | (go_at_call 11; refine (awake_any w1 (ht.ext hw1)).mono ?_; rintro e w2 ⟨v2, rfl, hw2, rfl⟩))
    go_ret
    exact Ret.mk (hw1.trans hw2) rfl
  · have hb1 : (a.length : Int) + (b.length : Int) ≤ 200 := by omega
    go_enter Tryd.func9, Tryd.ntmps9
    go_wp2_with (go_at_call 11; refine (awake_any w ht).mono ?_; rintro e w1 ⟨v, rfl, hw1, rfl⟩)
    go_loopw [5, 6] (fun v i wr => ∃ k : Nat, k ≤ a.length ∧ i = .int .i64 k ∧ Own wr w.heap.size v (runs (a.take k) (b.take k)) ∧ Below w.heap.size w wr) (fun _ i _ => a.length - (intOf i).toNat)
    case atStart => exact ⟨0, Nat.zero_le _, rfl, by simpa [runs] using Own.nil _ _, hw1⟩
    case round =>
      obtain ⟨k, hk, rfl, hown, hb⟩ := hrel
      have hln := runs_length (a.take k) (b.take k)
      have hlk : (a.take k).length ≤ a.length := by simp; omega
      by_cases hlt : k < a.length
      · obtain ⟨s, hs⟩ : ∃ s, a[k]? = some s := ⟨_, List.getElem?_eq_getElem hlt⟩
        obtain ⟨bl, off, rfl, hc⟩ := (hA.ext hb).at (tvs_get a k s hs)
        have htot := (total_at hs).1
        have hsn : (⟨s.toArray⟩ : ByteArray).size ≤ 35184372088832 := by show s.toArray.size ≤ _; simp; omega
        have K1 := hide fun W => (show Calls Tryd.prog 22 #[.string ⟨s.toArray⟩] W (Ret W (Bytes (text s))) from text_any ⟨s.toArray⟩ W hsn)
        have h2 := text_length s
        by_cases hlu : k < b.length
        · obtain ⟨n, hn⟩ : ∃ n, b[k]? = some n := ⟨_, List.getElem?_eq_getElem hlu⟩
          obtain ⟨bm, ofm, rfl, hd⟩ := hB.at (nvs_get b k n hn)
          have hd := hide fun W (h : Ext w W) => h.keeps.cell hd
          have hnr := hbr n (List.mem_of_getElem? hn)
          have HT := hide (runs_both a b k s n hs hn).1
          have K2 := hide fun W => (show Calls Tryd.prog 15 #[.int .i64 n] W (Ret W (Bytes (ord64 n))) from int_any n W (by omega) (by omega))
          have h8 := ord64_length n
          clear hs hsn hn
          go_wp2_with (first
            | (go_at_call 22; refine (K1.out _).mono ?_; rintro e w3 ⟨v3, rfl, hw3, A3, c3, rfl, hc3, hr3⟩; have hown3 := hown.ext hw3; have hb3 := Below.trans hb (Below.mono hw3 (Below.size hb)))
            | (at_builtin; refine wpList_cat rfl (.tmp 32) (.tmp 37) rfl w.heap.size _ _ (text s) _ _ _ rfl rfl rfl hown3 hr3 (Below.size hb3) (by omega) ?_; intro v4 w4 hown4 hb4; have hb5 := Below.trans hb3 hb4; have hd5 := hd.out _ hb5)
            | (go_at_call 15; refine (K2.out _).mono ?_; rintro e w6 ⟨v6, rfl, hw6, A6, c6, rfl, hc6, hr6⟩; have hown6 := hown4.ext hw6; have hb6 := Below.trans hb5 (Below.mono hw6 (Below.size hb5)))
            | (at_builtin; refine wpList_cat rfl (.tmp 43) (.tmp 48) rfl w.heap.size _ _ (ord64 n) _ _ _ rfl rfl rfl hown6 hr6 (Below.size hb6) (by simp only [List.length_append]; omega) ?_; intro v7 w7 hown7 hb7))
          refine ⟨⟨k + 1, by omega, by go_num, ?_, Below.trans hb6 hb7⟩, by simp [intOf]; omega⟩
          rw [HT.out]
          exact hown7
        · have hlu2 : ¬ (k : Int) < (b.length : Int) := by omega
          have HT := hide (runs_text a b k s hs (by omega)).1
          clear hs hsn
          go_wp2_with (first
            | (go_at_call 22; refine (K1.out _).mono ?_; rintro e w3 ⟨v3, rfl, hw3, A3, c3, rfl, hc3, hr3⟩; have hown3 := hown.ext hw3; have hb3 := Below.trans hb (Below.mono hw3 (Below.size hb)))
            | (at_builtin; refine wpList_cat rfl (.tmp 32) (.tmp 37) rfl w.heap.size _ _ (text s) _ _ _ rfl rfl rfl hown3 hr3 (Below.size hb3) (by omega) ?_; intro v4 w4 hown4 hb4))
          refine ⟨⟨k + 1, by omega, by go_num, ?_, Below.trans hb3 hb4⟩, by simp [intOf]; omega⟩
          rw [HT.out]
          exact hown4
      · obtain rfl : k = a.length := by omega
        rw [runs_whole] at hown
        obtain ⟨wa, hwa⟩ : ∃ x, x = wr := ⟨_, rfl⟩
        subst hwa
        obtain ⟨z, HZ⟩ : ∃ z, Hid (runs a b = z) := ⟨_, rfl⟩
        have hzl : z.length ≤ 3000000 := by have := runs_length a b; rw [← HZ.out]; omega
        rw [HZ.out] at hown
        obtain ⟨Ap, cp, rfl, hcp, hrp⟩ := hown.bytes
        clear hown hln hlk
        go_wp2
        go_loopw [7, 8] (fun p i wz => ∃ k : Nat, k ≤ a.length ∧ p = .int .i64 ((runs (a.take k) (b.take k)).length : Int) ∧ i = .int .i64 k ∧ Ext wa wz) (fun _ i _ => a.length - (intOf i).toNat)
        case atStart => exact ⟨0, Nat.zero_le _, by simp [runs], rfl, Ext.refl _⟩
        case round =>
          obtain ⟨k, hk, rfl, rfl, hw2⟩ := hrel
          have hw3 : Ext w wr := Below.trans hb (Below.mono hw2 (Below.size hb))
          have hln := runs_length (a.take k) (b.take k)
          have hlk : (a.take k).length ≤ a.length := by simp; omega
          obtain ⟨p, HP⟩ : ∃ p : Nat, Hid ((runs (a.take k) (b.take k)).length = p) := ⟨_, rfl⟩
          rw [HP.out] at hln
          rw [HP.out]
          by_cases hlt : k < a.length
          · obtain ⟨s, hs⟩ : ∃ s, a[k]? = some s := ⟨_, List.getElem?_eq_getElem hlt⟩
            obtain ⟨bl, off, rfl, hc⟩ := (hA.ext hw3).at (tvs_get a k s hs)
            have htot := (total_at hs).1
            by_cases hlu : k < b.length
            · obtain ⟨n, hn⟩ : ∃ n, b[k]? = some n := ⟨_, List.getElem?_eq_getElem hlu⟩
              obtain ⟨bm, ofm, rfl, hd⟩ := (hB.ext hw3).at (nvs_get b k n hn)
              have hnr := hbr n (List.mem_of_getElem? hn)
              obtain ⟨h1, r, hr⟩ := runs_both a b k s n hs hn
              rw [HZ.out] at hr
              obtain ⟨q, HQ⟩ : ∃ q : Nat, Hid (p + (text s).length = q) := ⟨_, rfl⟩
              have hts := text_length s
              have hql : q ≤ 4000000 := by have := HQ.out; omega
              have hr1 : z = runs (a.take k) (b.take k) ++ text s ++ (ord64 n ++ r) := by rw [hr]; simp
              have K1 := hide fun W (h : Ext wa W) => (show Calls Tryd.prog 20 #[.slice Ap z.length cp, .int .i64 (p : Int)] W (Ret W (Is (.tuple #[.string ⟨s.toArray⟩, .int .i64 (q : Int), .int .i64 0]))) from (by
                have h1 := readText_any Ap cp z (p : Int) W (hrp.ext h) (by omega) (by omega)
                rw [read_run z _ s _ p hr1 HP.out.symm, HQ.out] at h1
                exact h1))
              have K2 := hide fun W (h : Ext wa W) => (show Calls Tryd.prog 14 #[.slice Ap z.length cp, .int .i64 (q : Int)] W (fun e w' => e = .returned (.tuple #[.int .i64 n, .int .i64 ((q + 8 : Nat) : Int), .int .i64 0]) ∧ W = w') from (by
                have h1 := readInt_any Ap cp z (q : Int) W (hrp.ext h) (by omega) (by omega)
                rw [read_num z (runs (a.take k) (b.take k) ++ text s) r n q hr (by have := HP.out; have := HQ.out; simp only [List.length_append]; omega) (by omega) (by omega)] at h1
                exact h1))
              have HE := hide (show (runs (a.take (k + 1)) (b.take (k + 1))).length = q + 8 by rw [h1]; have := HP.out; have := HQ.out; simp only [List.length_append, ord64_length]; omega)
              have hd := hide fun W (h : Ext wr W) => h.keeps.cell hd
              have hc := hide fun W (h : Ext wr W) => h.keeps.cell hc
              clear h1 hr hr1 hs hn hts
              go_wp2_with (first
                | (go_at_call 20; refine (K1.out _ hw2).mono ?_; rintro e w5 ⟨v5, rfl, hw5, rfl⟩; have hw6 := hw2.trans hw5; have hc6 := hc.out _ hw5; have hd6 := hd.out _ hw5)
                | (go_at_call 14; refine (K2.out _ hw6).mono ?_; rintro e w7 ⟨rfl, rfl⟩))
              refine ⟨⟨k + 1, by omega, ?_, by go_num, hw6⟩, by simp [intOf]; omega⟩
              rw [HE.out]
              go_num
            · have hlu2 : ¬ (k : Int) < (b.length : Int) := by omega
              obtain ⟨h1, r, hr⟩ := runs_text a b k s hs (by omega)
              rw [HZ.out] at hr
              obtain ⟨q, HQ⟩ : ∃ q : Nat, Hid (p + (text s).length = q) := ⟨_, rfl⟩
              have hts := text_length s
              have hr1 : z = runs (a.take k) (b.take k) ++ text s ++ r := hr
              have K1 := hide fun W (h : Ext wa W) => (show Calls Tryd.prog 20 #[.slice Ap z.length cp, .int .i64 (p : Int)] W (Ret W (Is (.tuple #[.string ⟨s.toArray⟩, .int .i64 (q : Int), .int .i64 0]))) from (by
                have h1 := readText_any Ap cp z (p : Int) W (hrp.ext h) (by omega) (by omega)
                rw [read_run z _ s _ p hr1 HP.out.symm, HQ.out] at h1
                exact h1))
              have HE := hide (show (runs (a.take (k + 1)) (b.take (k + 1))).length = q by rw [h1]; have := HP.out; have := HQ.out; simp only [List.length_append]; omega)
              have hc := hide fun W (h : Ext wr W) => h.keeps.cell hc
              clear h1 hr hr1 hs hts
              go_wp2_with (go_at_call 20; refine (K1.out _ hw2).mono ?_; rintro e w5 ⟨v5, rfl, hw5, rfl⟩; have hw6 := hw2.trans hw5; have hc6 := hc.out _ hw5)
              refine ⟨⟨k + 1, by omega, ?_, by go_num, hw6⟩, by simp [intOf]; omega⟩
              rw [HE.out]
          · obtain rfl : k = a.length := by omega
            have hpz : p = z.length := by rw [← HP.out, ← HZ.out, runs_whole a b]
            subst hpz
            clear HP
            go_wp2
            go_ret
            exact Ret.mk hw3 rfl
end Go.Proofs.YtakmkcfljhfkdaaDoor

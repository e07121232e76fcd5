/-
  Lines: the document's own answer to the words of a line comes to the same.
-/
import Derived.Test.YtceccaafajkbfaaDoorLinW
import Derived.Test.YtceccaafajkbfaaDoorGive
namespace Go.Proofs.YtceccaafajkbfaaDoor
open Go.RowKit

def okC (c : Chr) : Bool := c.r != 65533 || c.n == 3
theorem bad_width (l : List UInt8) (h : (Lib.decodeL l).1 = 65533) : (Lib.decodeL l).2 = 1 ∨ (Lib.decodeL l).2 = 3 := by
  rw [Lib.decodeL_N] at h ⊢
  rcases Lib.decodeN_shape l.length (l.getD 0 0).toNat (l.getD 1 0).toNat (l.getD 2 0).toNat (l.getD 3 0).toNat with ⟨c, e⟩ | ⟨c1, c2, c3, cv, e⟩ | ⟨c1, c2, c3, c4, cv, cs, e⟩ | ⟨c1, c2, c3, c4, c5, cv, cw, e⟩ | e
  · rw [e]; left; rfl
  · rw [e] at h; simp only at h; omega
  · rw [e]; right; rfl
  · rw [e] at h; simp only at h; omega
  · rw [e]; left; rfl
theorem chr_at {w : World} {A : Option Addr} {l : List Chr} (h : RdC w A (chVs l)) {k : Nat} (hk : k < l.length) : ∃ b off c, A = some ⟨b, off, none⟩ ∧ l[k]? = some c ∧
    w.cell? ⟨b, off + k * 3, none⟩ = some (.int .i32 (c.r : Int)) ∧ w.cell? ⟨b, off + k * 3 + 1, none⟩ = some (.int .i64 (c.p : Int)) ∧ w.cell? ⟨b, off + k * 3 + 2, none⟩ = some (.bool (okC c)) := by
  have hl := chVs_length l
  obtain ⟨b, off, hA, hc⟩ := h (by intro e; rw [e] at hl; simp at hl; omega)
  have hx : l[k]? = some l[k] := List.getElem?_eq_getElem hk
  obtain ⟨h1, h2, h3⟩ := chVs_get l k _ hx
  have e1 := hc _ _ h1
  have e2 := hc _ _ h2
  have e3 := hc _ _ h3
  rw [Nat.mul_comm 3 k] at e1 e2 e3
  exact ⟨b, off, l[k], hA, hx, e1, by rw [Nat.add_assoc]; exact e2, by rw [Nat.add_assoc]; exact e3⟩
theorem chs_rune {l : List UInt8} {p k : Nat} {c : Chr} (h : (chs l p)[k]? = some c) : c.r ≤ 1114111 := by
  induction l using chs_ind generalizing p k with
  | h0 => simp [chs_nil] at h
  | h1 l hne ih =>
    rw [chs_step l p hne] at h
    cases k with
    | zero => simp at h; subst h; exact Lib.decodeL_rune l
    | succ k => exact ih (by simpa using h)

set_option maxRecDepth 20000 in
set_option maxHeartbeats 4000000 in

theorem okP_split (l : List UInt8) (p : Nat) : okP (Lib.decodeL l).1 (Lib.decodeL l).2 = (okC ⟨(Lib.decodeL l).1, p, (Lib.decodeL l).2⟩ && decide (32 ≤ (Lib.decodeL l).1) && decide ((Lib.decodeL l).1 ≠ 127)) := by
  have hb := bad_width l
  generalize (Lib.decodeL l).1 = r at *
  generalize (Lib.decodeL l).2 = n at *
  unfold okP okC
  by_cases hr : r = 65533
  · have := hb hr
    subst hr
    rcases this with rfl | rfl <;> rfl
  · rw [Bool.eq_iff_iff]
    simp [hr] <;> omega
set_option maxRecDepth 20000 in
set_option maxHeartbeats 1000000 in
theorem plain_any (r p : Nat) (ok : Bool) (w : World) :
    Calls Tryd.prog 20 #[.agg #[.int .i32 (r : Int), .int .i64 (p : Int), .bool ok]] w (Ret w (Is (.bool (ok && decide (32 ≤ r) && decide (r ≠ 127))))) := by
  cases ok
  all_goals
    go_enter Tryd.func20, Tryd.ntmps20
    go_wp2
  all_goals
    go_ret
    refine Ret.mk (Ext.alloc _ _) ?_
    show Value.bool _ = Value.bool _
    congr 1
    (try simp only [beq_iff_eq, beq_eq_false_iff_ne, ne_eq] at *)
    (try rw [Bool.eq_iff_iff])
    (try simp)
    try omega
/-- A character more, of the list and of the reader. -/
theorem chs_next {s : ByteArray} {L : List Chr} {k p : Nat} (h : L.drop k = chs (fr s p) p) (hk : k < L.length) :
    p < s.size ∧ L[k]? = some ⟨(Lib.decodeL (fr s p)).1, p, (Lib.decodeL (fr s p)).2⟩ ∧ L.drop (k + 1) = chs (fr s (p + (Lib.decodeL (fr s p)).2)) (p + (Lib.decodeL (fr s p)).2) ∧
      p + (Lib.decodeL (fr s p)).2 ≤ s.size ∧ 1 ≤ (Lib.decodeL (fr s p)).2 ∧ (k + 1 = L.length → p + (Lib.decodeL (fr s p)).2 = s.size) ∧
      (∀ c, L[k + 1]? = some c → c.p = p + (Lib.decodeL (fr s p)).2) := by
  have hp : p < s.size := by
    rcases Nat.lt_or_ge p s.size with h' | h'
    · exact h'
    · rw [fr_end h', chs_nil] at h
      have := congrArg List.length h
      rw [List.length_drop, List.length_nil] at this
      omega
  have hne := fr_ne hp
  have hw := Lib.decodeL_width (fr s p)
  have hle := Lib.decodeL_le _ hne
  rw [fr_len] at hle
  rw [chs_step _ _ hne, fr_drop] at h
  have h1 : L[k]? = some ⟨(Lib.decodeL (fr s p)).1, p, (Lib.decodeL (fr s p)).2⟩ := by
    have := congrArg (fun l => l[0]?) h
    simpa using this
  have h2 : L.drop (k + 1) = chs (fr s (p + (Lib.decodeL (fr s p)).2)) (p + (Lib.decodeL (fr s p)).2) := by
    have := congrArg (fun l => l.drop 1) h
    simpa [List.drop_drop] using this
  refine ⟨hp, h1, h2, by omega, by omega, fun he => ?_, fun c hc => ?_⟩
  · rw [List.drop_of_length_le (by omega)] at h2
    have := (chs_empty _ _).1 h2.symm
    have hl := fr_len s (p + (Lib.decodeL (fr s p)).2)
    rw [this, List.length_nil] at hl
    omega
  · have h3 : (L.drop (k + 1))[0]? = some c := by rw [List.getElem?_drop]; exact hc
    rw [h2] at h3
    cases hf : fr s (p + (Lib.decodeL (fr s p)).2) with
    | nil => rw [hf, chs_nil] at h3; simp at h3
    | cons b t =>
      rw [hf, chs_step _ _ (by simp)] at h3
      simp at h3
      rw [← h3]
theorem str_cat (a : List UInt8) (x : ByteArray) : (⟨a.toArray⟩ ++ x : ByteArray) = ⟨(a ++ x.data.toList).toArray⟩ := by
  apply ByteArray.ext
  apply Array.ext'
  simp

set_option maxRecDepth 20000 in
set_option maxHeartbeats 20000000 in
theorem rwords_any (s : ByteArray) (w : World) (hT : Tabs w) (hz : s.size ≤ 140737488355328) :
    Calls Tryd.prog 11 #[.string s] w (Ret w (WordsV s.data.toList)) := by
  have hsl := size_len s
  by_cases hlong : 300 < s.size
  · have HW : Hid (wordsS s.data.toList = ([], 0, 2)) := by unfold wordsS; rw [if_pos (by omega)]; exact hide rfl
    have hl : (300 : Int) < (s.size : Int) := by omega
    clear hsl hlong
    go_enter Tryd.func11, Tryd.ntmps11
    go_wp2
    go_ret3
    refine Ret.mk (Ext.refl _) ?_
    unfold WordsV
    rw [HW.out]
    exact ⟨_, rfl, Txs.nil _⟩
  · have hl : ¬ (300 : Int) < (s.size : Int) := by omega
    have hs : s.size ≤ 300 := by omega
    obtain ⟨R, HR⟩ : ∃ R, Hid (mR (fr s 0) ⟨0, [], []⟩ = R) := ⟨_, rfl⟩
    have HW : Hid (wordsS s.data.toList = resW s.size R) := by
      unfold wordsS
      rw [if_neg (by omega), hsl, ← HR.out]
      exact hide rfl
    have KC := hide (chars_any s w (by omega) hT)
    have hlen : (chs s.data.toList 0).length ≤ 300 := Nat.le_trans (chs_le _ _) (by omega)
    have HL0 : Hid (chs s.data.toList 0 = chs (fr s 0) 0) := hide rfl
    generalize chs s.data.toList 0 = L at *
    obtain ⟨n, HN⟩ : ∃ n, Hid (L.length = n) := ⟨_, rfl⟩
    have hn := hlen
    rw [HN.out] at hn
    have HS := hide hs
    clear hsl hlong hs hz hlen
    go_enter Tryd.func11, Tryd.ntmps11
    go_wp2_with (first
      | (go_at_call 19; refine KC.out.mono ?_; rintro e w1 ⟨v1, rfl, hx1, A, c1, rfl, hr1⟩; rw [HN.out]))
    go_loopw [6, 7, 8, 9] (fun v wd st i wr => ∃ (k p : Nat) (x : Rdr), k ≤ n ∧ p ≤ 300 ∧ i = .int .i64 k ∧ wd = .string ⟨x.w.toArray⟩ ∧ ((st = .int .i64 0 ∧ x.q = 0) ∨ (st = .int .i64 1 ∧ x.q = 1) ∨ (st = .int .i64 2 ∧ x.q = 2) ∨ (st = .int .i64 3 ∧ x.q = 3) ∨ (st = .int .i64 4 ∧ x.q = 4)) ∧
        OwnT wr w1.heap.size v x.o ∧ Ext w1 wr ∧ x.o.length ≤ k ∧ x.w.length ≤ p ∧ Hid (L.drop k = chs (fr s p) p) ∧ Hid (p ≤ s.size) ∧ Hid (mR (fr s p) x = R)) (fun _ _ _ i _ => n - (intOf i).toNat)
    case atStart => exact ⟨0, 0, ⟨0, [], []⟩, Nat.zero_le _, Nat.zero_le _, rfl, rfl, .inl ⟨rfl, rfl⟩, OwnT.nil _ _, Ext.refl _, Nat.le_refl _, Nat.le_refl _, hide (by rw [List.drop_zero]; exact HL0.out), hide (Nat.zero_le _), HR⟩
    case round =>
      obtain ⟨k, p, ⟨q, wl, o⟩, hk, hp300, rfl, rfl, hst, hown, hx, hol, hwl, HD, HP, HRQ⟩ := hrel
      simp only at hst hown hol hwl
      have hx2 := hx1.trans hx
      by_cases hlt : k < n
      · have hki : (k : Int) < (n : Int) := by omega
        obtain ⟨hps, hck, hd1, hpn, hn1, hend, hnx⟩ := chs_next HD.out (by rw [HN.out]; exact hlt)
        obtain ⟨b, off, c, rfl, hck', h0, h1, h2⟩ := chr_at (hr1.ext hx) (k := k) (by rw [HN.out]; exact hlt)
        rw [hck] at hck'
        injection hck' with hck'
        subst hck'
        simp only at h0 h1 h2
        have HPL := hide (okP_split (fr s p) p)
        have KPL := hide fun W => plain_any (Lib.decodeL (fr s p)).1 p (okC ⟨(Lib.decodeL (fr s p)).1, p, (Lib.decodeL (fr s p)).2⟩) W
        rw [← HPL.out] at KPL
        have HSTEP := hide fun x => mR_step (fr s p) (fr_ne hps) x
        rw [fr_len] at HSTEP
        have hp300' : p + (Lib.decodeL (fr s p)).2 ≤ 300 := Nat.le_trans hpn HS.out
        have HM := hide (okP_marked (r := (Lib.decodeL (fr s p)).1) (n := (Lib.decodeL (fr s p)).2))
        have HM2 : Hid ((Lib.decodeL (fr s p)).1 = 32 ∨ (Lib.decodeL (fr s p)).1 = 34 ∨ (Lib.decodeL (fr s p)).1 = 92 → okP (Lib.decodeL (fr s p)).1 (Lib.decodeL (fr s p)).2 = true) := hide fun h => by unfold okP; rcases h with h | h | h <;> simp [h]
        have HO32 : Hid ((Lib.decodeL (fr s p)).1 = 32 → okC ⟨(Lib.decodeL (fr s p)).1, p, (Lib.decodeL (fr s p)).2⟩ = true) := hide fun h => by unfold okC; rw [h]; rfl
        have HEX := hide (take_extract s p (Lib.decodeL (fr s p)).2)
        have HDR := hide (fr_drop s p (Lib.decodeL (fr s p)).2)
        have HD1 := hide hd1
        have HPN := hide hpn
        have HTL : Hid (((fr s p).take (Lib.decodeL (fr s p)).2).length ≤ (Lib.decodeL (fr s p)).2) := hide (List.length_take_le _ _)
        have hnext : ∀ c, L[k + 1]? = some c → (⟨b, off + (k + 1) * 3 + 1, none⟩ : Addr) = ⟨b, off + (k + 1) * 3 + 1, none⟩ := fun _ _ => rfl
        have HOWN := hide hown
        have HPS : Hid (p ≤ s.size) := HP
        have hpsi : (p : Int) ≤ (s.size : Int) := by have := HP.out; omega
        rw [HDR.out] at HSTEP
        generalize okC ⟨(Lib.decodeL (fr s p)).1, p, (Lib.decodeL (fr s p)).2⟩ = okc at *
        generalize okP (Lib.decodeL (fr s p)).1 (Lib.decodeL (fr s p)).2 = pl at *
        generalize (fr s p).take (Lib.decodeL (fr s p)).2 = h at *
        generalize (Lib.decodeL (fr s p)).1 = r at *
        generalize (Lib.decodeL (fr s p)).2 = m at *
        have hpmi : (p : Int) + (m : Int) ≤ (s.size : Int) := by have := HPN.out; omega
        obtain ⟨en, HEN⟩ : ∃ en : Nat, Hid (p + m = en) := ⟨_, rfl⟩
        rw [HEN.out] at HD1 HPN HEX HSTEP
        have hpe : p ≤ en := by rw [← HEN.out]; omega
        have hen : en ≤ 300 := by rw [← HEN.out]; exact hp300'
        have hei : (en : Int) ≤ (s.size : Int) := by have := HPN.out; omega
        have hpei : (p : Int) ≤ (en : Int) := by omega
        have hhl : h.length ≤ en - p := by have := HTL.out; have := HEN.out; omega
        clear hck hd1 hpn hown hps hnext hp300'
        have gg : True := trivial
        clear gg
        by_cases hkl : k + 1 < n
        · have hnl : (k : Int) + 1 < (n : Int) := by omega
          obtain ⟨b', off', c', hA', hc', _, hn1', _⟩ := chr_at (hr1.ext hx) (k := k + 1) (by rw [HN.out]; exact hkl)
          injection hA' with hA'
          injection hA' with hb' ho' _
          subst hb' ho'
          rw [hnx c' hc', HEN.out] at hn1'
          have hn2' := (Ext.keeps (Ext.alloc wr (.cells #[.int .i32 (r : Int), .int .i64 (p : Int), .bool okc] 51))).cell hn1'
          clear hn1'
          have G0 := hide (show (wr.alloc (.cells #[.int .i32 (r : Int), .int .i64 (p : Int), .bool okc] 51)).cell? ⟨wr.heap.size, 0, none⟩ = some (.int .i32 (r : Int)) from by have h := new_cells wr 51 [.int .i32 (r : Int), .int .i64 (p : Int), .bool okc] 0 _ rfl; rw [add_flat, Nat.zero_add] at h; exact h)
          have G1 := hide (show (wr.alloc (.cells #[.int .i32 (r : Int), .int .i64 (p : Int), .bool okc] 51)).cell? ⟨wr.heap.size, 1, none⟩ = some (.int .i64 (p : Int)) from by have h := new_cells wr 51 [.int .i32 (r : Int), .int .i64 (p : Int), .bool okc] 1 _ rfl; rw [add_flat, Nat.zero_add] at h; exact h)
          have G2 := hide (show (wr.alloc (.cells #[.int .i32 (r : Int), .int .i64 (p : Int), .bool okc] 51)).cell? ⟨wr.heap.size, 2, none⟩ = some (.bool okc) from by have h := new_cells wr 51 [.int .i32 (r : Int), .int .i64 (p : Int), .bool okc] 2 _ rfl; rw [add_flat, Nat.zero_add] at h; exact h)
          rcases hst with ⟨rfl, rfl⟩ | ⟨rfl, rfl⟩ | ⟨rfl, rfl⟩ | ⟨rfl, rfl⟩ | ⟨rfl, rfl⟩
          · clear hend hnx
            by_cases hr : r = 32
            · have hpl : pl = true := HM2.out (by omega)
              have HX : Hid (mR (fr s en) ⟨0, wl, o⟩ = R) := by
                have e := HSTEP.out ⟨0, wl, o⟩
                rw [HRQ.out, show stepM pl r h ⟨0, wl, o⟩ = some ⟨0, wl, o⟩ by unfold stepM; simp [hr, hpl]] at e
                exact e.symm
              rw [hpl] at KPL
              clear hpl HSTEP HRQ HM HM2
              have ho32 := HO32.out hr
              subst ho32
              have ea : ((r : Int) == 32) = true := by rw [hr]; rfl
              have na : ((r : Int) != 32) = false := by rw [hr]; rfl
              have eb : ((r : Int) == 34) = false := by rw [hr]; rfl
              have nb : ((r : Int) != 34) = true := by rw [hr]; rfl
              have ec : ((r : Int) == 92) = false := by rw [hr]; rfl
              have nc : ((r : Int) != 92) = true := by rw [hr]; rfl
              clear hr HO32
              go_wp2_with (first
                  | (go_at_call 20; refine (KPL.out _).mono ?_; rintro e w2 ⟨v2, rfl, hx3, rfl⟩; have q0 := (Ext.keeps hx3).cell G0.out; have q1 := (Ext.keeps hx3).cell G1.out; have q2 := (Ext.keeps hx3).cell G2.out; have hx4 : Ext w1 w2 := hx.trans ((Ext.alloc _ _).trans hx3); have ho2 := HOWN.out.ext ((Ext.alloc _ _).trans hx3)))
              refine ⟨⟨k + 1, en, ⟨0, wl, o⟩, by omega, hen, by go_num, rfl, .inl ⟨rfl, rfl⟩, ho2, hx4, by (try rw [List.length_append]); simp only [List.length_cons, List.length_nil]; omega, by (try rw [List.length_append]); (try simp only [List.length_nil]); omega, HD1, HPN, HX⟩, by simp [intOf]; omega⟩
            by_cases hr : r = 34
            · have hpl : pl = true := HM2.out (by omega)
              have HX : Hid (mR (fr s en) ⟨2, wl, o⟩ = R) := by
                have e := HSTEP.out ⟨0, wl, o⟩
                rw [HRQ.out, show stepM pl r h ⟨0, wl, o⟩ = some ⟨2, wl, o⟩ by unfold stepM; simp [hr, hpl]] at e
                exact e.symm
              rw [hpl] at KPL
              clear hpl HSTEP HRQ HM HM2
              have ea : ((r : Int) == 32) = false := by rw [hr]; rfl
              have na : ((r : Int) != 32) = true := by rw [hr]; rfl
              have eb : ((r : Int) == 34) = true := by rw [hr]; rfl
              have nb : ((r : Int) != 34) = false := by rw [hr]; rfl
              have ec : ((r : Int) == 92) = false := by rw [hr]; rfl
              have nc : ((r : Int) != 92) = true := by rw [hr]; rfl
              clear hr HO32
              go_wp2_with (first
                  | (go_at_call 20; refine (KPL.out _).mono ?_; rintro e w2 ⟨v2, rfl, hx3, rfl⟩; have q0 := (Ext.keeps hx3).cell G0.out; have q1 := (Ext.keeps hx3).cell G1.out; have q2 := (Ext.keeps hx3).cell G2.out; have hx4 : Ext w1 w2 := hx.trans ((Ext.alloc _ _).trans hx3); have ho2 := HOWN.out.ext ((Ext.alloc _ _).trans hx3)))
              refine ⟨⟨k + 1, en, ⟨2, wl, o⟩, by omega, hen, by go_num, by first | rfl | simp [str_cat], .inr (.inr (.inl ⟨rfl, rfl⟩)), ho2, hx4, by (try rw [List.length_append]); simp only [List.length_cons, List.length_nil]; omega, by (try rw [List.length_append]); (try simp only [List.length_nil]); omega, HD1, HPN, HX⟩, by simp [intOf]; omega⟩
            by_cases hr : r = 92
            · have hpl : pl = true := HM2.out (by omega)
              have HX : Hid (wordsS s.data.toList = ([], p, 4)) := by
                have e := HSTEP.out ⟨0, wl, o⟩
                rw [HRQ.out, show stepM pl r h ⟨0, wl, o⟩ = none by unfold stepM; simp [hr, hpl]] at e
                have h2 := HW.out
                rw [e] at h2
                rw [h2]
                show ([], s.size - (s.size - p), 4) = _
                rw [Nat.sub_sub_self HPS.out]
              rw [hpl] at KPL
              clear hpl HSTEP HRQ HM HM2
              have ea : ((r : Int) == 32) = false := by rw [hr]; rfl
              have na : ((r : Int) != 32) = true := by rw [hr]; rfl
              have eb : ((r : Int) == 34) = false := by rw [hr]; rfl
              have nb : ((r : Int) != 34) = true := by rw [hr]; rfl
              have ec : ((r : Int) == 92) = true := by rw [hr]; rfl
              have nc : ((r : Int) != 92) = false := by rw [hr]; rfl
              clear hr HO32
              go_wp2_with (first
                  | (go_at_call 20; refine (KPL.out _).mono ?_; rintro e w2 ⟨v2, rfl, hx3, rfl⟩; have q0 := (Ext.keeps hx3).cell G0.out; have q1 := (Ext.keeps hx3).cell G1.out; have q2 := (Ext.keeps hx3).cell G2.out; have hx4 : Ext w1 w2 := hx.trans ((Ext.alloc _ _).trans hx3); have ho2 := HOWN.out.ext ((Ext.alloc _ _).trans hx3)))
              go_quiet (fail)
              go_wp2
              go_ret3
              refine Ret.mk (Ext.drewN (hx1.trans hx4) _) ?_
              unfold WordsV
              rw [HX.out]
              exact ⟨_, rfl, Txs.nil _⟩
            cases hpl : pl with
            | true =>
              have hr1 : ¬ r = 32 := by assumption
              have hr2 : ¬ r = 34 := by assumption
              have hr3 : ¬ r = 92 := by assumption
              have HX : Hid (mR (fr s en) ⟨1, wl ++ h, o⟩ = R) := by
                have e := HSTEP.out ⟨0, wl, o⟩
                rw [HRQ.out, show stepM pl r h ⟨0, wl, o⟩ = some ⟨1, wl ++ h, o⟩ by unfold stepM; simp [hr1, hr2, hr3, hpl]] at e
                exact e.symm
              rw [hpl] at KPL
              clear hpl HSTEP HRQ HM HM2
              have ea : ((r : Int) == 32) = false := i64_ne (by omega)
              have na : ((r : Int) != 32) = true := by rw [bne, ea]; rfl
              have eb : ((r : Int) == 34) = false := i64_ne (by omega)
              have nb : ((r : Int) != 34) = true := by rw [bne, eb]; rfl
              have ec : ((r : Int) == 92) = false := i64_ne (by omega)
              have nc : ((r : Int) != 92) = true := by rw [bne, ec]; rfl
              clear hr1 hr2 hr3 HO32
              go_wp2_with (first
                  | (go_at_call 20; refine (KPL.out _).mono ?_; rintro e w2 ⟨v2, rfl, hx3, rfl⟩; have q0 := (Ext.keeps hx3).cell G0.out; have q1 := (Ext.keeps hx3).cell G1.out; have q2 := (Ext.keeps hx3).cell G2.out; have hx4 : Ext w1 w2 := hx.trans ((Ext.alloc _ _).trans hx3); have ho2 := HOWN.out.ext ((Ext.alloc _ _).trans hx3)))
              refine ⟨⟨k + 1, en, ⟨1, wl ++ h, o⟩, by omega, hen, by go_num, by first | rfl | (rw [str_cat, HEX.out]) | (rw [str_cat, HEXS.out]), .inr (.inl ⟨rfl, rfl⟩), ho2, hx4, by (try rw [List.length_append]); simp only [List.length_cons, List.length_nil]; omega, by (try rw [List.length_append]); (try simp only [List.length_nil]); omega, HD1, HPN, HX⟩, by simp [intOf]; omega⟩
            | false =>
              have hr1 : ¬ r = 32 := by assumption
              have hr2 : ¬ r = 34 := by assumption
              have hr3 : ¬ r = 92 := by assumption
              have HX : Hid (wordsS s.data.toList = ([], p, 4)) := by
                have e := HSTEP.out ⟨0, wl, o⟩
                rw [HRQ.out, show stepM pl r h ⟨0, wl, o⟩ = none by unfold stepM; simp [hr1, hr2, hr3, hpl]] at e
                have h2 := HW.out
                rw [e] at h2
                rw [h2]
                show ([], s.size - (s.size - p), 4) = _
                rw [Nat.sub_sub_self HPS.out]
              rw [hpl] at KPL
              clear hpl HSTEP HRQ HM HM2
              have ea : ((r : Int) == 32) = false := i64_ne (by omega)
              have na : ((r : Int) != 32) = true := by rw [bne, ea]; rfl
              have eb : ((r : Int) == 34) = false := i64_ne (by omega)
              have nb : ((r : Int) != 34) = true := by rw [bne, eb]; rfl
              have ec : ((r : Int) == 92) = false := i64_ne (by omega)
              have nc : ((r : Int) != 92) = true := by rw [bne, ec]; rfl
              clear hr1 hr2 hr3 HO32
              go_wp2_with (first
                  | (go_at_call 20; refine (KPL.out _).mono ?_; rintro e w2 ⟨v2, rfl, hx3, rfl⟩; have q0 := (Ext.keeps hx3).cell G0.out; have q1 := (Ext.keeps hx3).cell G1.out; have q2 := (Ext.keeps hx3).cell G2.out; have hx4 : Ext w1 w2 := hx.trans ((Ext.alloc _ _).trans hx3); have ho2 := HOWN.out.ext ((Ext.alloc _ _).trans hx3)))
              go_quiet (fail)
              go_wp2
              go_ret3
              refine Ret.mk (Ext.drewN (hx1.trans hx4) _) ?_
              unfold WordsV
              rw [HX.out]
              exact ⟨_, rfl, Txs.nil _⟩
          · clear hend hnx
            by_cases hr : r = 32
            · have hpl : pl = true := HM2.out (by omega)
              have HX : Hid (mR (fr s en) ⟨0, [], o ++ [wl]⟩ = R) := by
                have e := HSTEP.out ⟨1, wl, o⟩
                rw [HRQ.out, show stepM pl r h ⟨1, wl, o⟩ = some ⟨0, [], o ++ [wl]⟩ by unfold stepM; simp [hr, hpl]] at e
                exact e.symm
              rw [hpl] at KPL
              clear hpl HSTEP HRQ HM HM2
              have ho32 := HO32.out hr
              subst ho32
              have ea : ((r : Int) == 32) = true := by rw [hr]; rfl
              have na : ((r : Int) != 32) = false := by rw [hr]; rfl
              have eb : ((r : Int) == 34) = false := by rw [hr]; rfl
              have nb : ((r : Int) != 34) = true := by rw [hr]; rfl
              have ec : ((r : Int) == 92) = false := by rw [hr]; rfl
              have nc : ((r : Int) != 92) = true := by rw [hr]; rfl
              clear hr HO32
              go_wp2_with (first
                  | (go_at_call 20; refine (KPL.out _).mono ?_; rintro e w2 ⟨v2, rfl, hx3, rfl⟩; have q0 := (Ext.keeps hx3).cell G0.out; have q1 := (Ext.keeps hx3).cell G1.out; have q2 := (Ext.keeps hx3).cell G2.out; have hx4 : Ext w1 w2 := hx.trans ((Ext.alloc _ _).trans hx3); have ho2 := HOWN.out.ext ((Ext.alloc _ _).trans hx3))
                  | (at_builtin; refine wpList_pushT rfl (.tmp 76) (.tmp 78) rfl w1.heap.size _ o ⟨wl.toArray⟩ rfl rfl ho2 hx4.size (by omega) ?_; intro v4 w4 hown4 hb4 HK4; have hx5 : Ext w1 w4 := Below.trans hx4 hb4; have r1 := HK4.out _ _ q1 (fun e => Nat.lt_irrefl _ (HOWN.out.lt _ e).2)))
              refine ⟨⟨k + 1, en, ⟨0, [], o ++ [wl]⟩, by omega, hen, by go_num, rfl, .inl ⟨rfl, rfl⟩, hown4, hx5, by (try rw [List.length_append]); simp only [List.length_cons, List.length_nil]; omega, by (try rw [List.length_append]); (try simp only [List.length_nil]); omega, HD1, HPN, HX⟩, by simp [intOf]; omega⟩
            by_cases hr : r = 34
            · have hpl : pl = true := HM2.out (by omega)
              have HX : Hid (wordsS s.data.toList = ([], p, 4)) := by
                have e := HSTEP.out ⟨1, wl, o⟩
                rw [HRQ.out, show stepM pl r h ⟨1, wl, o⟩ = none by unfold stepM; simp [hr, hpl]] at e
                have h2 := HW.out
                rw [e] at h2
                rw [h2]
                show ([], s.size - (s.size - p), 4) = _
                rw [Nat.sub_sub_self HPS.out]
              rw [hpl] at KPL
              clear hpl HSTEP HRQ HM HM2
              have ea : ((r : Int) == 32) = false := by rw [hr]; rfl
              have na : ((r : Int) != 32) = true := by rw [hr]; rfl
              have eb : ((r : Int) == 34) = true := by rw [hr]; rfl
              have nb : ((r : Int) != 34) = false := by rw [hr]; rfl
              have ec : ((r : Int) == 92) = false := by rw [hr]; rfl
              have nc : ((r : Int) != 92) = true := by rw [hr]; rfl
              clear hr HO32
              go_wp2_with (first
                  | (go_at_call 20; refine (KPL.out _).mono ?_; rintro e w2 ⟨v2, rfl, hx3, rfl⟩; have q0 := (Ext.keeps hx3).cell G0.out; have q1 := (Ext.keeps hx3).cell G1.out; have q2 := (Ext.keeps hx3).cell G2.out; have hx4 : Ext w1 w2 := hx.trans ((Ext.alloc _ _).trans hx3); have ho2 := HOWN.out.ext ((Ext.alloc _ _).trans hx3))
                  | (at_builtin; refine wpList_pushT rfl (.tmp 76) (.tmp 78) rfl w1.heap.size _ o ⟨wl.toArray⟩ rfl rfl ho2 hx4.size (by omega) ?_; intro v4 w4 hown4 hb4 HK4; have hx5 : Ext w1 w4 := Below.trans hx4 hb4; have r1 := HK4.out _ _ q1 (fun e => Nat.lt_irrefl _ (HOWN.out.lt _ e).2)))
              go_quiet (fail)
              go_wp2
              go_ret3
              refine Ret.mk (Ext.drewN (hx1.trans hx4) _) ?_
              unfold WordsV
              rw [HX.out]
              exact ⟨_, rfl, Txs.nil _⟩
            by_cases hr : r = 92
            · have hpl : pl = true := HM2.out (by omega)
              have HX : Hid (wordsS s.data.toList = ([], p, 4)) := by
                have e := HSTEP.out ⟨1, wl, o⟩
                rw [HRQ.out, show stepM pl r h ⟨1, wl, o⟩ = none by unfold stepM; simp [hr, hpl]] at e
                have h2 := HW.out
                rw [e] at h2
                rw [h2]
                show ([], s.size - (s.size - p), 4) = _
                rw [Nat.sub_sub_self HPS.out]
              rw [hpl] at KPL
              clear hpl HSTEP HRQ HM HM2
              have ea : ((r : Int) == 32) = false := by rw [hr]; rfl
              have na : ((r : Int) != 32) = true := by rw [hr]; rfl
              have eb : ((r : Int) == 34) = false := by rw [hr]; rfl
              have nb : ((r : Int) != 34) = true := by rw [hr]; rfl
              have ec : ((r : Int) == 92) = true := by rw [hr]; rfl
              have nc : ((r : Int) != 92) = false := by rw [hr]; rfl
              clear hr HO32
              go_wp2_with (first
                  | (go_at_call 20; refine (KPL.out _).mono ?_; rintro e w2 ⟨v2, rfl, hx3, rfl⟩; have q0 := (Ext.keeps hx3).cell G0.out; have q1 := (Ext.keeps hx3).cell G1.out; have q2 := (Ext.keeps hx3).cell G2.out; have hx4 : Ext w1 w2 := hx.trans ((Ext.alloc _ _).trans hx3); have ho2 := HOWN.out.ext ((Ext.alloc _ _).trans hx3))
                  | (at_builtin; refine wpList_pushT rfl (.tmp 76) (.tmp 78) rfl w1.heap.size _ o ⟨wl.toArray⟩ rfl rfl ho2 hx4.size (by omega) ?_; intro v4 w4 hown4 hb4 HK4; have hx5 : Ext w1 w4 := Below.trans hx4 hb4; have r1 := HK4.out _ _ q1 (fun e => Nat.lt_irrefl _ (HOWN.out.lt _ e).2)))
              go_quiet (fail)
              go_wp2
              go_ret3
              refine Ret.mk (Ext.drewN (hx1.trans hx4) _) ?_
              unfold WordsV
              rw [HX.out]
              exact ⟨_, rfl, Txs.nil _⟩
            cases hpl : pl with
            | true =>
              have hr1 : ¬ r = 32 := by assumption
              have hr2 : ¬ r = 34 := by assumption
              have hr3 : ¬ r = 92 := by assumption
              have HX : Hid (mR (fr s en) ⟨1, wl ++ h, o⟩ = R) := by
                have e := HSTEP.out ⟨1, wl, o⟩
                rw [HRQ.out, show stepM pl r h ⟨1, wl, o⟩ = some ⟨1, wl ++ h, o⟩ by unfold stepM; simp [hr1, hr2, hr3, hpl]] at e
                exact e.symm
              rw [hpl] at KPL
              clear hpl HSTEP HRQ HM HM2
              have ea : ((r : Int) == 32) = false := i64_ne (by omega)
              have na : ((r : Int) != 32) = true := by rw [bne, ea]; rfl
              have eb : ((r : Int) == 34) = false := i64_ne (by omega)
              have nb : ((r : Int) != 34) = true := by rw [bne, eb]; rfl
              have ec : ((r : Int) == 92) = false := i64_ne (by omega)
              have nc : ((r : Int) != 92) = true := by rw [bne, ec]; rfl
              clear hr1 hr2 hr3 HO32
              go_wp2_with (first
                  | (go_at_call 20; refine (KPL.out _).mono ?_; rintro e w2 ⟨v2, rfl, hx3, rfl⟩; have q0 := (Ext.keeps hx3).cell G0.out; have q1 := (Ext.keeps hx3).cell G1.out; have q2 := (Ext.keeps hx3).cell G2.out; have hx4 : Ext w1 w2 := hx.trans ((Ext.alloc _ _).trans hx3); have ho2 := HOWN.out.ext ((Ext.alloc _ _).trans hx3))
                  | (at_builtin; refine wpList_pushT rfl (.tmp 76) (.tmp 78) rfl w1.heap.size _ o ⟨wl.toArray⟩ rfl rfl ho2 hx4.size (by omega) ?_; intro v4 w4 hown4 hb4 HK4; have hx5 : Ext w1 w4 := Below.trans hx4 hb4; have r1 := HK4.out _ _ q1 (fun e => Nat.lt_irrefl _ (HOWN.out.lt _ e).2)))
              refine ⟨⟨k + 1, en, ⟨1, wl ++ h, o⟩, by omega, hen, by go_num, by first | rfl | (rw [str_cat, HEX.out]) | (rw [str_cat, HEXS.out]), .inr (.inl ⟨rfl, rfl⟩), ho2, hx4, by (try rw [List.length_append]); simp only [List.length_cons, List.length_nil]; omega, by (try rw [List.length_append]); (try simp only [List.length_nil]); omega, HD1, HPN, HX⟩, by simp [intOf]; omega⟩
            | false =>
              have hr1 : ¬ r = 32 := by assumption
              have hr2 : ¬ r = 34 := by assumption
              have hr3 : ¬ r = 92 := by assumption
              have HX : Hid (wordsS s.data.toList = ([], p, 4)) := by
                have e := HSTEP.out ⟨1, wl, o⟩
                rw [HRQ.out, show stepM pl r h ⟨1, wl, o⟩ = none by unfold stepM; simp [hr1, hr2, hr3, hpl]] at e
                have h2 := HW.out
                rw [e] at h2
                rw [h2]
                show ([], s.size - (s.size - p), 4) = _
                rw [Nat.sub_sub_self HPS.out]
              rw [hpl] at KPL
              clear hpl HSTEP HRQ HM HM2
              have ea : ((r : Int) == 32) = false := i64_ne (by omega)
              have na : ((r : Int) != 32) = true := by rw [bne, ea]; rfl
              have eb : ((r : Int) == 34) = false := i64_ne (by omega)
              have nb : ((r : Int) != 34) = true := by rw [bne, eb]; rfl
              have ec : ((r : Int) == 92) = false := i64_ne (by omega)
              have nc : ((r : Int) != 92) = true := by rw [bne, ec]; rfl
              clear hr1 hr2 hr3 HO32
              go_wp2_with (first
                  | (go_at_call 20; refine (KPL.out _).mono ?_; rintro e w2 ⟨v2, rfl, hx3, rfl⟩; have q0 := (Ext.keeps hx3).cell G0.out; have q1 := (Ext.keeps hx3).cell G1.out; have q2 := (Ext.keeps hx3).cell G2.out; have hx4 : Ext w1 w2 := hx.trans ((Ext.alloc _ _).trans hx3); have ho2 := HOWN.out.ext ((Ext.alloc _ _).trans hx3))
                  | (at_builtin; refine wpList_pushT rfl (.tmp 76) (.tmp 78) rfl w1.heap.size _ o ⟨wl.toArray⟩ rfl rfl ho2 hx4.size (by omega) ?_; intro v4 w4 hown4 hb4 HK4; have hx5 : Ext w1 w4 := Below.trans hx4 hb4; have r1 := HK4.out _ _ q1 (fun e => Nat.lt_irrefl _ (HOWN.out.lt _ e).2)))
              go_quiet (fail)
              go_wp2
              go_ret3
              refine Ret.mk (Ext.drewN (hx1.trans hx4) _) ?_
              unfold WordsV
              rw [HX.out]
              exact ⟨_, rfl, Txs.nil _⟩
          · clear hend hnx
            by_cases hr : r = 32
            · have hpl : pl = true := HM2.out (by omega)
              have HX : Hid (mR (fr s en) ⟨2, wl ++ h, o⟩ = R) := by
                have e := HSTEP.out ⟨2, wl, o⟩
                rw [HRQ.out, show stepM pl r h ⟨2, wl, o⟩ = some ⟨2, wl ++ h, o⟩ by unfold stepM; simp [hr, hpl]] at e
                exact e.symm
              rw [hpl] at KPL
              clear hpl HSTEP HRQ HM HM2
              have ho32 := HO32.out hr
              subst ho32
              have ea : ((r : Int) == 32) = true := by rw [hr]; rfl
              have na : ((r : Int) != 32) = false := by rw [hr]; rfl
              have eb : ((r : Int) == 34) = false := by rw [hr]; rfl
              have nb : ((r : Int) != 34) = true := by rw [hr]; rfl
              have ec : ((r : Int) == 92) = false := by rw [hr]; rfl
              have nc : ((r : Int) != 92) = true := by rw [hr]; rfl
              clear hr HO32
              go_wp2_with (first
                  | (go_at_call 20; refine (KPL.out _).mono ?_; rintro e w2 ⟨v2, rfl, hx3, rfl⟩; have q0 := (Ext.keeps hx3).cell G0.out; have q1 := (Ext.keeps hx3).cell G1.out; have q2 := (Ext.keeps hx3).cell G2.out; have hx4 : Ext w1 w2 := hx.trans ((Ext.alloc _ _).trans hx3); have ho2 := HOWN.out.ext ((Ext.alloc _ _).trans hx3)))
              refine ⟨⟨k + 1, en, ⟨2, wl ++ h, o⟩, by omega, hen, by go_num, by first | rfl | (rw [str_cat, HEX.out]) | (rw [str_cat, HEXS.out]), .inr (.inr (.inl ⟨rfl, rfl⟩)), ho2, hx4, by (try rw [List.length_append]); simp only [List.length_cons, List.length_nil]; omega, by (try rw [List.length_append]); (try simp only [List.length_nil]); omega, HD1, HPN, HX⟩, by simp [intOf]; omega⟩
            by_cases hr : r = 34
            · have hpl : pl = true := HM2.out (by omega)
              have HX : Hid (mR (fr s en) ⟨4, wl, o⟩ = R) := by
                have e := HSTEP.out ⟨2, wl, o⟩
                rw [HRQ.out, show stepM pl r h ⟨2, wl, o⟩ = some ⟨4, wl, o⟩ by unfold stepM; simp [hr, hpl]] at e
                exact e.symm
              rw [hpl] at KPL
              clear hpl HSTEP HRQ HM HM2
              have ea : ((r : Int) == 32) = false := by rw [hr]; rfl
              have na : ((r : Int) != 32) = true := by rw [hr]; rfl
              have eb : ((r : Int) == 34) = true := by rw [hr]; rfl
              have nb : ((r : Int) != 34) = false := by rw [hr]; rfl
              have ec : ((r : Int) == 92) = false := by rw [hr]; rfl
              have nc : ((r : Int) != 92) = true := by rw [hr]; rfl
              clear hr HO32
              go_wp2_with (first
                  | (go_at_call 20; refine (KPL.out _).mono ?_; rintro e w2 ⟨v2, rfl, hx3, rfl⟩; have q0 := (Ext.keeps hx3).cell G0.out; have q1 := (Ext.keeps hx3).cell G1.out; have q2 := (Ext.keeps hx3).cell G2.out; have hx4 : Ext w1 w2 := hx.trans ((Ext.alloc _ _).trans hx3); have ho2 := HOWN.out.ext ((Ext.alloc _ _).trans hx3)))
              refine ⟨⟨k + 1, en, ⟨4, wl, o⟩, by omega, hen, by go_num, by first | rfl | simp [str_cat], .inr (.inr (.inr (.inr ⟨rfl, rfl⟩))), ho2, hx4, by (try rw [List.length_append]); simp only [List.length_cons, List.length_nil]; omega, by (try rw [List.length_append]); (try simp only [List.length_nil]); omega, HD1, HPN, HX⟩, by simp [intOf]; omega⟩
            by_cases hr : r = 92
            · have hpl : pl = true := HM2.out (by omega)
              have HX : Hid (mR (fr s en) ⟨3, wl, o⟩ = R) := by
                have e := HSTEP.out ⟨2, wl, o⟩
                rw [HRQ.out, show stepM pl r h ⟨2, wl, o⟩ = some ⟨3, wl, o⟩ by unfold stepM; simp [hr, hpl]] at e
                exact e.symm
              rw [hpl] at KPL
              clear hpl HSTEP HRQ HM HM2
              have ea : ((r : Int) == 32) = false := by rw [hr]; rfl
              have na : ((r : Int) != 32) = true := by rw [hr]; rfl
              have eb : ((r : Int) == 34) = false := by rw [hr]; rfl
              have nb : ((r : Int) != 34) = true := by rw [hr]; rfl
              have ec : ((r : Int) == 92) = true := by rw [hr]; rfl
              have nc : ((r : Int) != 92) = false := by rw [hr]; rfl
              clear hr HO32
              go_wp2_with (first
                  | (go_at_call 20; refine (KPL.out _).mono ?_; rintro e w2 ⟨v2, rfl, hx3, rfl⟩; have q0 := (Ext.keeps hx3).cell G0.out; have q1 := (Ext.keeps hx3).cell G1.out; have q2 := (Ext.keeps hx3).cell G2.out; have hx4 : Ext w1 w2 := hx.trans ((Ext.alloc _ _).trans hx3); have ho2 := HOWN.out.ext ((Ext.alloc _ _).trans hx3)))
              refine ⟨⟨k + 1, en, ⟨3, wl, o⟩, by omega, hen, by go_num, by first | rfl | simp [str_cat], .inr (.inr (.inr (.inl ⟨rfl, rfl⟩))), ho2, hx4, by (try rw [List.length_append]); simp only [List.length_cons, List.length_nil]; omega, by (try rw [List.length_append]); (try simp only [List.length_nil]); omega, HD1, HPN, HX⟩, by simp [intOf]; omega⟩
            cases hpl : pl with
            | true =>
              have hr1 : ¬ r = 32 := by assumption
              have hr2 : ¬ r = 34 := by assumption
              have hr3 : ¬ r = 92 := by assumption
              have HX : Hid (mR (fr s en) ⟨2, wl ++ h, o⟩ = R) := by
                have e := HSTEP.out ⟨2, wl, o⟩
                rw [HRQ.out, show stepM pl r h ⟨2, wl, o⟩ = some ⟨2, wl ++ h, o⟩ by unfold stepM; simp [hr1, hr2, hr3, hpl]] at e
                exact e.symm
              rw [hpl] at KPL
              clear hpl HSTEP HRQ HM HM2
              have ea : ((r : Int) == 32) = false := i64_ne (by omega)
              have na : ((r : Int) != 32) = true := by rw [bne, ea]; rfl
              have eb : ((r : Int) == 34) = false := i64_ne (by omega)
              have nb : ((r : Int) != 34) = true := by rw [bne, eb]; rfl
              have ec : ((r : Int) == 92) = false := i64_ne (by omega)
              have nc : ((r : Int) != 92) = true := by rw [bne, ec]; rfl
              clear hr1 hr2 hr3 HO32
              go_wp2_with (first
                  | (go_at_call 20; refine (KPL.out _).mono ?_; rintro e w2 ⟨v2, rfl, hx3, rfl⟩; have q0 := (Ext.keeps hx3).cell G0.out; have q1 := (Ext.keeps hx3).cell G1.out; have q2 := (Ext.keeps hx3).cell G2.out; have hx4 : Ext w1 w2 := hx.trans ((Ext.alloc _ _).trans hx3); have ho2 := HOWN.out.ext ((Ext.alloc _ _).trans hx3)))
              refine ⟨⟨k + 1, en, ⟨2, wl ++ h, o⟩, by omega, hen, by go_num, by first | rfl | (rw [str_cat, HEX.out]) | (rw [str_cat, HEXS.out]), .inr (.inr (.inl ⟨rfl, rfl⟩)), ho2, hx4, by (try rw [List.length_append]); simp only [List.length_cons, List.length_nil]; omega, by (try rw [List.length_append]); (try simp only [List.length_nil]); omega, HD1, HPN, HX⟩, by simp [intOf]; omega⟩
            | false =>
              have hr1 : ¬ r = 32 := by assumption
              have hr2 : ¬ r = 34 := by assumption
              have hr3 : ¬ r = 92 := by assumption
              have HX : Hid (wordsS s.data.toList = ([], p, 4)) := by
                have e := HSTEP.out ⟨2, wl, o⟩
                rw [HRQ.out, show stepM pl r h ⟨2, wl, o⟩ = none by unfold stepM; simp [hr1, hr2, hr3, hpl]] at e
                have h2 := HW.out
                rw [e] at h2
                rw [h2]
                show ([], s.size - (s.size - p), 4) = _
                rw [Nat.sub_sub_self HPS.out]
              rw [hpl] at KPL
              clear hpl HSTEP HRQ HM HM2
              have ea : ((r : Int) == 32) = false := i64_ne (by omega)
              have na : ((r : Int) != 32) = true := by rw [bne, ea]; rfl
              have eb : ((r : Int) == 34) = false := i64_ne (by omega)
              have nb : ((r : Int) != 34) = true := by rw [bne, eb]; rfl
              have ec : ((r : Int) == 92) = false := i64_ne (by omega)
              have nc : ((r : Int) != 92) = true := by rw [bne, ec]; rfl
              clear hr1 hr2 hr3 HO32
              go_wp2_with (first
                  | (go_at_call 20; refine (KPL.out _).mono ?_; rintro e w2 ⟨v2, rfl, hx3, rfl⟩; have q0 := (Ext.keeps hx3).cell G0.out; have q1 := (Ext.keeps hx3).cell G1.out; have q2 := (Ext.keeps hx3).cell G2.out; have hx4 : Ext w1 w2 := hx.trans ((Ext.alloc _ _).trans hx3); have ho2 := HOWN.out.ext ((Ext.alloc _ _).trans hx3)))
              go_quiet (fail)
              go_wp2
              go_ret3
              refine Ret.mk (Ext.drewN (hx1.trans hx4) _) ?_
              unfold WordsV
              rw [HX.out]
              exact ⟨_, rfl, Txs.nil _⟩
          · clear hend hnx
            by_cases hr : r = 32
            · have hpl : pl = true := HM2.out (by omega)
              have HX : Hid (wordsS s.data.toList = ([], p, 4)) := by
                have e := HSTEP.out ⟨3, wl, o⟩
                rw [HRQ.out, show stepM pl r h ⟨3, wl, o⟩ = none by unfold stepM; simp [hr, hpl]] at e
                have h2 := HW.out
                rw [e] at h2
                rw [h2]
                show ([], s.size - (s.size - p), 4) = _
                rw [Nat.sub_sub_self HPS.out]
              rw [hpl] at KPL
              clear hpl HSTEP HRQ HM HM2
              have ho32 := HO32.out hr
              subst ho32
              have ea : ((r : Int) == 32) = true := by rw [hr]; rfl
              have na : ((r : Int) != 32) = false := by rw [hr]; rfl
              have eb : ((r : Int) == 34) = false := by rw [hr]; rfl
              have nb : ((r : Int) != 34) = true := by rw [hr]; rfl
              have ec : ((r : Int) == 92) = false := by rw [hr]; rfl
              have nc : ((r : Int) != 92) = true := by rw [hr]; rfl
              clear hr HO32
              go_wp2_with (first
                  | (go_at_call 20; refine (KPL.out _).mono ?_; rintro e w2 ⟨v2, rfl, hx3, rfl⟩; have q0 := (Ext.keeps hx3).cell G0.out; have q1 := (Ext.keeps hx3).cell G1.out; have q2 := (Ext.keeps hx3).cell G2.out; have hx4 : Ext w1 w2 := hx.trans ((Ext.alloc _ _).trans hx3); have ho2 := HOWN.out.ext ((Ext.alloc _ _).trans hx3)))
              go_quiet (fail)
              go_wp2
              go_ret3
              refine Ret.mk (Ext.drewN (hx1.trans hx4) _) ?_
              unfold WordsV
              rw [HX.out]
              exact ⟨_, rfl, Txs.nil _⟩
            by_cases hr : r = 34
            · have hpl : pl = true := HM2.out (by omega)
              have HX : Hid (mR (fr s en) ⟨2, wl ++ h, o⟩ = R) := by
                have e := HSTEP.out ⟨3, wl, o⟩
                rw [HRQ.out, show stepM pl r h ⟨3, wl, o⟩ = some ⟨2, wl ++ h, o⟩ by unfold stepM; simp [hr, hpl]] at e
                exact e.symm
              rw [hpl] at KPL
              clear hpl HSTEP HRQ HM HM2
              have ea : ((r : Int) == 32) = false := by rw [hr]; rfl
              have na : ((r : Int) != 32) = true := by rw [hr]; rfl
              have eb : ((r : Int) == 34) = true := by rw [hr]; rfl
              have nb : ((r : Int) != 34) = false := by rw [hr]; rfl
              have ec : ((r : Int) == 92) = false := by rw [hr]; rfl
              have nc : ((r : Int) != 92) = true := by rw [hr]; rfl
              clear hr HO32
              go_wp2_with (first
                  | (go_at_call 20; refine (KPL.out _).mono ?_; rintro e w2 ⟨v2, rfl, hx3, rfl⟩; have q0 := (Ext.keeps hx3).cell G0.out; have q1 := (Ext.keeps hx3).cell G1.out; have q2 := (Ext.keeps hx3).cell G2.out; have hx4 : Ext w1 w2 := hx.trans ((Ext.alloc _ _).trans hx3); have ho2 := HOWN.out.ext ((Ext.alloc _ _).trans hx3)))
              refine ⟨⟨k + 1, en, ⟨2, wl ++ h, o⟩, by omega, hen, by go_num, by first | rfl | (rw [str_cat, HEX.out]) | (rw [str_cat, HEXS.out]), .inr (.inr (.inl ⟨rfl, rfl⟩)), ho2, hx4, by (try rw [List.length_append]); simp only [List.length_cons, List.length_nil]; omega, by (try rw [List.length_append]); (try simp only [List.length_nil]); omega, HD1, HPN, HX⟩, by simp [intOf]; omega⟩
            by_cases hr : r = 92
            · have hpl : pl = true := HM2.out (by omega)
              have HX : Hid (mR (fr s en) ⟨2, wl ++ h, o⟩ = R) := by
                have e := HSTEP.out ⟨3, wl, o⟩
                rw [HRQ.out, show stepM pl r h ⟨3, wl, o⟩ = some ⟨2, wl ++ h, o⟩ by unfold stepM; simp [hr, hpl]] at e
                exact e.symm
              rw [hpl] at KPL
              clear hpl HSTEP HRQ HM HM2
              have ea : ((r : Int) == 32) = false := by rw [hr]; rfl
              have na : ((r : Int) != 32) = true := by rw [hr]; rfl
              have eb : ((r : Int) == 34) = false := by rw [hr]; rfl
              have nb : ((r : Int) != 34) = true := by rw [hr]; rfl
              have ec : ((r : Int) == 92) = true := by rw [hr]; rfl
              have nc : ((r : Int) != 92) = false := by rw [hr]; rfl
              clear hr HO32
              go_wp2_with (first
                  | (go_at_call 20; refine (KPL.out _).mono ?_; rintro e w2 ⟨v2, rfl, hx3, rfl⟩; have q0 := (Ext.keeps hx3).cell G0.out; have q1 := (Ext.keeps hx3).cell G1.out; have q2 := (Ext.keeps hx3).cell G2.out; have hx4 : Ext w1 w2 := hx.trans ((Ext.alloc _ _).trans hx3); have ho2 := HOWN.out.ext ((Ext.alloc _ _).trans hx3)))
              refine ⟨⟨k + 1, en, ⟨2, wl ++ h, o⟩, by omega, hen, by go_num, by first | rfl | (rw [str_cat, HEX.out]) | (rw [str_cat, HEXS.out]), .inr (.inr (.inl ⟨rfl, rfl⟩)), ho2, hx4, by (try rw [List.length_append]); simp only [List.length_cons, List.length_nil]; omega, by (try rw [List.length_append]); (try simp only [List.length_nil]); omega, HD1, HPN, HX⟩, by simp [intOf]; omega⟩
            cases hpl : pl with
            | true =>
              have hr1 : ¬ r = 32 := by assumption
              have hr2 : ¬ r = 34 := by assumption
              have hr3 : ¬ r = 92 := by assumption
              have HX : Hid (wordsS s.data.toList = ([], p, 4)) := by
                have e := HSTEP.out ⟨3, wl, o⟩
                rw [HRQ.out, show stepM pl r h ⟨3, wl, o⟩ = none by unfold stepM; simp [hr1, hr2, hr3, hpl]] at e
                have h2 := HW.out
                rw [e] at h2
                rw [h2]
                show ([], s.size - (s.size - p), 4) = _
                rw [Nat.sub_sub_self HPS.out]
              rw [hpl] at KPL
              clear hpl HSTEP HRQ HM HM2
              have ea : ((r : Int) == 32) = false := i64_ne (by omega)
              have na : ((r : Int) != 32) = true := by rw [bne, ea]; rfl
              have eb : ((r : Int) == 34) = false := i64_ne (by omega)
              have nb : ((r : Int) != 34) = true := by rw [bne, eb]; rfl
              have ec : ((r : Int) == 92) = false := i64_ne (by omega)
              have nc : ((r : Int) != 92) = true := by rw [bne, ec]; rfl
              clear hr1 hr2 hr3 HO32
              go_wp2_with (first
                  | (go_at_call 20; refine (KPL.out _).mono ?_; rintro e w2 ⟨v2, rfl, hx3, rfl⟩; have q0 := (Ext.keeps hx3).cell G0.out; have q1 := (Ext.keeps hx3).cell G1.out; have q2 := (Ext.keeps hx3).cell G2.out; have hx4 : Ext w1 w2 := hx.trans ((Ext.alloc _ _).trans hx3); have ho2 := HOWN.out.ext ((Ext.alloc _ _).trans hx3)))
              go_quiet (fail)
              go_wp2
              go_ret3
              refine Ret.mk (Ext.drewN (hx1.trans hx4) _) ?_
              unfold WordsV
              rw [HX.out]
              exact ⟨_, rfl, Txs.nil _⟩
            | false =>
              have hr1 : ¬ r = 32 := by assumption
              have hr2 : ¬ r = 34 := by assumption
              have hr3 : ¬ r = 92 := by assumption
              have HX : Hid (wordsS s.data.toList = ([], p, 4)) := by
                have e := HSTEP.out ⟨3, wl, o⟩
                rw [HRQ.out, show stepM pl r h ⟨3, wl, o⟩ = none by unfold stepM; simp [hr1, hr2, hr3, hpl]] at e
                have h2 := HW.out
                rw [e] at h2
                rw [h2]
                show ([], s.size - (s.size - p), 4) = _
                rw [Nat.sub_sub_self HPS.out]
              rw [hpl] at KPL
              clear hpl HSTEP HRQ HM HM2
              have ea : ((r : Int) == 32) = false := i64_ne (by omega)
              have na : ((r : Int) != 32) = true := by rw [bne, ea]; rfl
              have eb : ((r : Int) == 34) = false := i64_ne (by omega)
              have nb : ((r : Int) != 34) = true := by rw [bne, eb]; rfl
              have ec : ((r : Int) == 92) = false := i64_ne (by omega)
              have nc : ((r : Int) != 92) = true := by rw [bne, ec]; rfl
              clear hr1 hr2 hr3 HO32
              go_wp2_with (first
                  | (go_at_call 20; refine (KPL.out _).mono ?_; rintro e w2 ⟨v2, rfl, hx3, rfl⟩; have q0 := (Ext.keeps hx3).cell G0.out; have q1 := (Ext.keeps hx3).cell G1.out; have q2 := (Ext.keeps hx3).cell G2.out; have hx4 : Ext w1 w2 := hx.trans ((Ext.alloc _ _).trans hx3); have ho2 := HOWN.out.ext ((Ext.alloc _ _).trans hx3)))
              go_quiet (fail)
              go_wp2
              go_ret3
              refine Ret.mk (Ext.drewN (hx1.trans hx4) _) ?_
              unfold WordsV
              rw [HX.out]
              exact ⟨_, rfl, Txs.nil _⟩
          · clear hend hnx
            by_cases hr : r = 32
            · have hpl : pl = true := HM2.out (by omega)
              have HX : Hid (mR (fr s en) ⟨0, [], o ++ [wl]⟩ = R) := by
                have e := HSTEP.out ⟨4, wl, o⟩
                rw [HRQ.out, show stepM pl r h ⟨4, wl, o⟩ = some ⟨0, [], o ++ [wl]⟩ by unfold stepM; simp [hr, hpl]] at e
                exact e.symm
              rw [hpl] at KPL
              clear hpl HSTEP HRQ HM HM2
              have ho32 := HO32.out hr
              subst ho32
              have ea : ((r : Int) == 32) = true := by rw [hr]; rfl
              have na : ((r : Int) != 32) = false := by rw [hr]; rfl
              have eb : ((r : Int) == 34) = false := by rw [hr]; rfl
              have nb : ((r : Int) != 34) = true := by rw [hr]; rfl
              have ec : ((r : Int) == 92) = false := by rw [hr]; rfl
              have nc : ((r : Int) != 92) = true := by rw [hr]; rfl
              clear hr HO32
              go_wp2_with (first
                  | (go_at_call 20; refine (KPL.out _).mono ?_; rintro e w2 ⟨v2, rfl, hx3, rfl⟩; have q0 := (Ext.keeps hx3).cell G0.out; have q1 := (Ext.keeps hx3).cell G1.out; have q2 := (Ext.keeps hx3).cell G2.out; have hx4 : Ext w1 w2 := hx.trans ((Ext.alloc _ _).trans hx3); have ho2 := HOWN.out.ext ((Ext.alloc _ _).trans hx3))
                  | (at_builtin; refine wpList_pushT rfl (.tmp 114) (.tmp 116) rfl w1.heap.size _ o ⟨wl.toArray⟩ rfl rfl ho2 hx4.size (by omega) ?_; intro v4 w4 hown4 hb4 HK4; have hx5 : Ext w1 w4 := Below.trans hx4 hb4; have r1 := HK4.out _ _ q1 (fun e => Nat.lt_irrefl _ (HOWN.out.lt _ e).2)))
              refine ⟨⟨k + 1, en, ⟨0, [], o ++ [wl]⟩, by omega, hen, by go_num, rfl, .inl ⟨rfl, rfl⟩, hown4, hx5, by (try rw [List.length_append]); simp only [List.length_cons, List.length_nil]; omega, by (try rw [List.length_append]); (try simp only [List.length_nil]); omega, HD1, HPN, HX⟩, by simp [intOf]; omega⟩
            by_cases hr : r = 34
            · have hpl : pl = true := HM2.out (by omega)
              have HX : Hid (wordsS s.data.toList = ([], p, 4)) := by
                have e := HSTEP.out ⟨4, wl, o⟩
                rw [HRQ.out, show stepM pl r h ⟨4, wl, o⟩ = none by unfold stepM; simp [hr, hpl]] at e
                have h2 := HW.out
                rw [e] at h2
                rw [h2]
                show ([], s.size - (s.size - p), 4) = _
                rw [Nat.sub_sub_self HPS.out]
              rw [hpl] at KPL
              clear hpl HSTEP HRQ HM HM2
              have ea : ((r : Int) == 32) = false := by rw [hr]; rfl
              have na : ((r : Int) != 32) = true := by rw [hr]; rfl
              have eb : ((r : Int) == 34) = true := by rw [hr]; rfl
              have nb : ((r : Int) != 34) = false := by rw [hr]; rfl
              have ec : ((r : Int) == 92) = false := by rw [hr]; rfl
              have nc : ((r : Int) != 92) = true := by rw [hr]; rfl
              clear hr HO32
              go_wp2_with (first
                  | (go_at_call 20; refine (KPL.out _).mono ?_; rintro e w2 ⟨v2, rfl, hx3, rfl⟩; have q0 := (Ext.keeps hx3).cell G0.out; have q1 := (Ext.keeps hx3).cell G1.out; have q2 := (Ext.keeps hx3).cell G2.out; have hx4 : Ext w1 w2 := hx.trans ((Ext.alloc _ _).trans hx3); have ho2 := HOWN.out.ext ((Ext.alloc _ _).trans hx3))
                  | (at_builtin; refine wpList_pushT rfl (.tmp 114) (.tmp 116) rfl w1.heap.size _ o ⟨wl.toArray⟩ rfl rfl ho2 hx4.size (by omega) ?_; intro v4 w4 hown4 hb4 HK4; have hx5 : Ext w1 w4 := Below.trans hx4 hb4; have r1 := HK4.out _ _ q1 (fun e => Nat.lt_irrefl _ (HOWN.out.lt _ e).2)))
              go_quiet (fail)
              go_wp2
              go_ret3
              refine Ret.mk (Ext.drewN (hx1.trans hx5) _) ?_
              unfold WordsV
              rw [HX.out]
              exact ⟨_, rfl, Txs.nil _⟩
            by_cases hr : r = 92
            · have hpl : pl = true := HM2.out (by omega)
              have HX : Hid (wordsS s.data.toList = ([], p, 4)) := by
                have e := HSTEP.out ⟨4, wl, o⟩
                rw [HRQ.out, show stepM pl r h ⟨4, wl, o⟩ = none by unfold stepM; simp [hr, hpl]] at e
                have h2 := HW.out
                rw [e] at h2
                rw [h2]
                show ([], s.size - (s.size - p), 4) = _
                rw [Nat.sub_sub_self HPS.out]
              rw [hpl] at KPL
              clear hpl HSTEP HRQ HM HM2
              have ea : ((r : Int) == 32) = false := by rw [hr]; rfl
              have na : ((r : Int) != 32) = true := by rw [hr]; rfl
              have eb : ((r : Int) == 34) = false := by rw [hr]; rfl
              have nb : ((r : Int) != 34) = true := by rw [hr]; rfl
              have ec : ((r : Int) == 92) = true := by rw [hr]; rfl
              have nc : ((r : Int) != 92) = false := by rw [hr]; rfl
              clear hr HO32
              go_wp2_with (first
                  | (go_at_call 20; refine (KPL.out _).mono ?_; rintro e w2 ⟨v2, rfl, hx3, rfl⟩; have q0 := (Ext.keeps hx3).cell G0.out; have q1 := (Ext.keeps hx3).cell G1.out; have q2 := (Ext.keeps hx3).cell G2.out; have hx4 : Ext w1 w2 := hx.trans ((Ext.alloc _ _).trans hx3); have ho2 := HOWN.out.ext ((Ext.alloc _ _).trans hx3))
                  | (at_builtin; refine wpList_pushT rfl (.tmp 114) (.tmp 116) rfl w1.heap.size _ o ⟨wl.toArray⟩ rfl rfl ho2 hx4.size (by omega) ?_; intro v4 w4 hown4 hb4 HK4; have hx5 : Ext w1 w4 := Below.trans hx4 hb4; have r1 := HK4.out _ _ q1 (fun e => Nat.lt_irrefl _ (HOWN.out.lt _ e).2)))
              go_quiet (fail)
              go_wp2
              go_ret3
              refine Ret.mk (Ext.drewN (hx1.trans hx5) _) ?_
              unfold WordsV
              rw [HX.out]
              exact ⟨_, rfl, Txs.nil _⟩
            cases hpl : pl with
            | true =>
              have hr1 : ¬ r = 32 := by assumption
              have hr2 : ¬ r = 34 := by assumption
              have hr3 : ¬ r = 92 := by assumption
              have HX : Hid (wordsS s.data.toList = ([], p, 4)) := by
                have e := HSTEP.out ⟨4, wl, o⟩
                rw [HRQ.out, show stepM pl r h ⟨4, wl, o⟩ = none by unfold stepM; simp [hr1, hr2, hr3, hpl]] at e
                have h2 := HW.out
                rw [e] at h2
                rw [h2]
                show ([], s.size - (s.size - p), 4) = _
                rw [Nat.sub_sub_self HPS.out]
              rw [hpl] at KPL
              clear hpl HSTEP HRQ HM HM2
              have ea : ((r : Int) == 32) = false := i64_ne (by omega)
              have na : ((r : Int) != 32) = true := by rw [bne, ea]; rfl
              have eb : ((r : Int) == 34) = false := i64_ne (by omega)
              have nb : ((r : Int) != 34) = true := by rw [bne, eb]; rfl
              have ec : ((r : Int) == 92) = false := i64_ne (by omega)
              have nc : ((r : Int) != 92) = true := by rw [bne, ec]; rfl
              clear hr1 hr2 hr3 HO32
              go_wp2_with (first
                  | (go_at_call 20; refine (KPL.out _).mono ?_; rintro e w2 ⟨v2, rfl, hx3, rfl⟩; have q0 := (Ext.keeps hx3).cell G0.out; have q1 := (Ext.keeps hx3).cell G1.out; have q2 := (Ext.keeps hx3).cell G2.out; have hx4 : Ext w1 w2 := hx.trans ((Ext.alloc _ _).trans hx3); have ho2 := HOWN.out.ext ((Ext.alloc _ _).trans hx3))
                  | (at_builtin; refine wpList_pushT rfl (.tmp 114) (.tmp 116) rfl w1.heap.size _ o ⟨wl.toArray⟩ rfl rfl ho2 hx4.size (by omega) ?_; intro v4 w4 hown4 hb4 HK4; have hx5 : Ext w1 w4 := Below.trans hx4 hb4; have r1 := HK4.out _ _ q1 (fun e => Nat.lt_irrefl _ (HOWN.out.lt _ e).2)))
              go_quiet (fail)
              go_wp2
              go_ret3
              refine Ret.mk (Ext.drewN (hx1.trans hx5) _) ?_
              unfold WordsV
              rw [HX.out]
              exact ⟨_, rfl, Txs.nil _⟩
            | false =>
              have hr1 : ¬ r = 32 := by assumption
              have hr2 : ¬ r = 34 := by assumption
              have hr3 : ¬ r = 92 := by assumption
              have HX : Hid (wordsS s.data.toList = ([], p, 4)) := by
                have e := HSTEP.out ⟨4, wl, o⟩
                rw [HRQ.out, show stepM pl r h ⟨4, wl, o⟩ = none by unfold stepM; simp [hr1, hr2, hr3, hpl]] at e
                have h2 := HW.out
                rw [e] at h2
                rw [h2]
                show ([], s.size - (s.size - p), 4) = _
                rw [Nat.sub_sub_self HPS.out]
              rw [hpl] at KPL
              clear hpl HSTEP HRQ HM HM2
              have ea : ((r : Int) == 32) = false := i64_ne (by omega)
              have na : ((r : Int) != 32) = true := by rw [bne, ea]; rfl
              have eb : ((r : Int) == 34) = false := i64_ne (by omega)
              have nb : ((r : Int) != 34) = true := by rw [bne, eb]; rfl
              have ec : ((r : Int) == 92) = false := i64_ne (by omega)
              have nc : ((r : Int) != 92) = true := by rw [bne, ec]; rfl
              clear hr1 hr2 hr3 HO32
              go_wp2_with (first
                  | (go_at_call 20; refine (KPL.out _).mono ?_; rintro e w2 ⟨v2, rfl, hx3, rfl⟩; have q0 := (Ext.keeps hx3).cell G0.out; have q1 := (Ext.keeps hx3).cell G1.out; have q2 := (Ext.keeps hx3).cell G2.out; have hx4 : Ext w1 w2 := hx.trans ((Ext.alloc _ _).trans hx3); have ho2 := HOWN.out.ext ((Ext.alloc _ _).trans hx3))
                  | (at_builtin; refine wpList_pushT rfl (.tmp 114) (.tmp 116) rfl w1.heap.size _ o ⟨wl.toArray⟩ rfl rfl ho2 hx4.size (by omega) ?_; intro v4 w4 hown4 hb4 HK4; have hx5 : Ext w1 w4 := Below.trans hx4 hb4; have r1 := HK4.out _ _ q1 (fun e => Nat.lt_irrefl _ (HOWN.out.lt _ e).2)))
              go_quiet (fail)
              go_wp2
              go_ret3
              refine Ret.mk (Ext.drewN (hx1.trans hx5) _) ?_
              unfold WordsV
              rw [HX.out]
              exact ⟨_, rfl, Txs.nil _⟩
        · have hke : k + 1 = n := by omega
          have hnl : ¬ (k : Int) + 1 < (n : Int) := by omega
          have hes : en = s.size := by rw [← HEN.out]; exact hend (by rw [HN.out]; exact hke)
          have HES : Hid (en = s.size) := hide hes
          have hesi : (en : Int) = (s.size : Int) := by omega
          have HEXS : Hid ((s.extract p s.size).data.toList = h) := by have e := HEX.out; rw [HES.out] at e; exact e
          clear hes
          have G0 := hide (show (wr.alloc (.cells #[.int .i32 (r : Int), .int .i64 (p : Int), .bool okc] 51)).cell? ⟨wr.heap.size, 0, none⟩ = some (.int .i32 (r : Int)) from by have h := new_cells wr 51 [.int .i32 (r : Int), .int .i64 (p : Int), .bool okc] 0 _ rfl; rw [add_flat, Nat.zero_add] at h; exact h)
          have G1 := hide (show (wr.alloc (.cells #[.int .i32 (r : Int), .int .i64 (p : Int), .bool okc] 51)).cell? ⟨wr.heap.size, 1, none⟩ = some (.int .i64 (p : Int)) from by have h := new_cells wr 51 [.int .i32 (r : Int), .int .i64 (p : Int), .bool okc] 1 _ rfl; rw [add_flat, Nat.zero_add] at h; exact h)
          have G2 := hide (show (wr.alloc (.cells #[.int .i32 (r : Int), .int .i64 (p : Int), .bool okc] 51)).cell? ⟨wr.heap.size, 2, none⟩ = some (.bool okc) from by have h := new_cells wr 51 [.int .i32 (r : Int), .int .i64 (p : Int), .bool okc] 2 _ rfl; rw [add_flat, Nat.zero_add] at h; exact h)
          rcases hst with ⟨rfl, rfl⟩ | ⟨rfl, rfl⟩ | ⟨rfl, rfl⟩ | ⟨rfl, rfl⟩ | ⟨rfl, rfl⟩
          · clear hend hnx
            by_cases hr : r = 32
            · have hpl : pl = true := HM2.out (by omega)
              have HX : Hid (mR (fr s en) ⟨0, wl, o⟩ = R) := by
                have e := HSTEP.out ⟨0, wl, o⟩
                rw [HRQ.out, show stepM pl r h ⟨0, wl, o⟩ = some ⟨0, wl, o⟩ by unfold stepM; simp [hr, hpl]] at e
                exact e.symm
              rw [hpl] at KPL
              clear hpl HSTEP HRQ HM HM2
              have ho32 := HO32.out hr
              subst ho32
              have ea : ((r : Int) == 32) = true := by rw [hr]; rfl
              have na : ((r : Int) != 32) = false := by rw [hr]; rfl
              have eb : ((r : Int) == 34) = false := by rw [hr]; rfl
              have nb : ((r : Int) != 34) = true := by rw [hr]; rfl
              have ec : ((r : Int) == 92) = false := by rw [hr]; rfl
              have nc : ((r : Int) != 92) = true := by rw [hr]; rfl
              clear hr HO32
              go_wp2_with (first
                  | (go_at_call 20; refine (KPL.out _).mono ?_; rintro e w2 ⟨v2, rfl, hx3, rfl⟩; have q0 := (Ext.keeps hx3).cell G0.out; have q1 := (Ext.keeps hx3).cell G1.out; have q2 := (Ext.keeps hx3).cell G2.out; have hx4 : Ext w1 w2 := hx.trans ((Ext.alloc _ _).trans hx3); have ho2 := HOWN.out.ext ((Ext.alloc _ _).trans hx3)))
              refine ⟨⟨k + 1, en, ⟨0, wl, o⟩, by omega, hen, by go_num, rfl, .inl ⟨rfl, rfl⟩, ho2, hx4, by (try rw [List.length_append]); simp only [List.length_cons, List.length_nil]; omega, by (try rw [List.length_append]); (try simp only [List.length_nil]); omega, HD1, HPN, HX⟩, by simp [intOf]; omega⟩
            by_cases hr : r = 34
            · have hpl : pl = true := HM2.out (by omega)
              have HX : Hid (mR (fr s en) ⟨2, wl, o⟩ = R) := by
                have e := HSTEP.out ⟨0, wl, o⟩
                rw [HRQ.out, show stepM pl r h ⟨0, wl, o⟩ = some ⟨2, wl, o⟩ by unfold stepM; simp [hr, hpl]] at e
                exact e.symm
              rw [hpl] at KPL
              clear hpl HSTEP HRQ HM HM2
              have ea : ((r : Int) == 32) = false := by rw [hr]; rfl
              have na : ((r : Int) != 32) = true := by rw [hr]; rfl
              have eb : ((r : Int) == 34) = true := by rw [hr]; rfl
              have nb : ((r : Int) != 34) = false := by rw [hr]; rfl
              have ec : ((r : Int) == 92) = false := by rw [hr]; rfl
              have nc : ((r : Int) != 92) = true := by rw [hr]; rfl
              clear hr HO32
              go_wp2_with (first
                  | (go_at_call 20; refine (KPL.out _).mono ?_; rintro e w2 ⟨v2, rfl, hx3, rfl⟩; have q0 := (Ext.keeps hx3).cell G0.out; have q1 := (Ext.keeps hx3).cell G1.out; have q2 := (Ext.keeps hx3).cell G2.out; have hx4 : Ext w1 w2 := hx.trans ((Ext.alloc _ _).trans hx3); have ho2 := HOWN.out.ext ((Ext.alloc _ _).trans hx3)))
              refine ⟨⟨k + 1, en, ⟨2, wl, o⟩, by omega, hen, by go_num, by first | rfl | simp [str_cat], .inr (.inr (.inl ⟨rfl, rfl⟩)), ho2, hx4, by (try rw [List.length_append]); simp only [List.length_cons, List.length_nil]; omega, by (try rw [List.length_append]); (try simp only [List.length_nil]); omega, HD1, HPN, HX⟩, by simp [intOf]; omega⟩
            by_cases hr : r = 92
            · have hpl : pl = true := HM2.out (by omega)
              have HX : Hid (wordsS s.data.toList = ([], p, 4)) := by
                have e := HSTEP.out ⟨0, wl, o⟩
                rw [HRQ.out, show stepM pl r h ⟨0, wl, o⟩ = none by unfold stepM; simp [hr, hpl]] at e
                have h2 := HW.out
                rw [e] at h2
                rw [h2]
                show ([], s.size - (s.size - p), 4) = _
                rw [Nat.sub_sub_self HPS.out]
              rw [hpl] at KPL
              clear hpl HSTEP HRQ HM HM2
              have ea : ((r : Int) == 32) = false := by rw [hr]; rfl
              have na : ((r : Int) != 32) = true := by rw [hr]; rfl
              have eb : ((r : Int) == 34) = false := by rw [hr]; rfl
              have nb : ((r : Int) != 34) = true := by rw [hr]; rfl
              have ec : ((r : Int) == 92) = true := by rw [hr]; rfl
              have nc : ((r : Int) != 92) = false := by rw [hr]; rfl
              clear hr HO32
              go_wp2_with (first
                  | (go_at_call 20; refine (KPL.out _).mono ?_; rintro e w2 ⟨v2, rfl, hx3, rfl⟩; have q0 := (Ext.keeps hx3).cell G0.out; have q1 := (Ext.keeps hx3).cell G1.out; have q2 := (Ext.keeps hx3).cell G2.out; have hx4 : Ext w1 w2 := hx.trans ((Ext.alloc _ _).trans hx3); have ho2 := HOWN.out.ext ((Ext.alloc _ _).trans hx3)))
              go_quiet (fail)
              go_wp2
              go_ret3
              refine Ret.mk (Ext.drewN (hx1.trans hx4) _) ?_
              unfold WordsV
              rw [HX.out]
              exact ⟨_, rfl, Txs.nil _⟩
            cases hpl : pl with
            | true =>
              have hr1 : ¬ r = 32 := by assumption
              have hr2 : ¬ r = 34 := by assumption
              have hr3 : ¬ r = 92 := by assumption
              have HX : Hid (mR (fr s en) ⟨1, wl ++ h, o⟩ = R) := by
                have e := HSTEP.out ⟨0, wl, o⟩
                rw [HRQ.out, show stepM pl r h ⟨0, wl, o⟩ = some ⟨1, wl ++ h, o⟩ by unfold stepM; simp [hr1, hr2, hr3, hpl]] at e
                exact e.symm
              rw [hpl] at KPL
              clear hpl HSTEP HRQ HM HM2
              have ea : ((r : Int) == 32) = false := i64_ne (by omega)
              have na : ((r : Int) != 32) = true := by rw [bne, ea]; rfl
              have eb : ((r : Int) == 34) = false := i64_ne (by omega)
              have nb : ((r : Int) != 34) = true := by rw [bne, eb]; rfl
              have ec : ((r : Int) == 92) = false := i64_ne (by omega)
              have nc : ((r : Int) != 92) = true := by rw [bne, ec]; rfl
              clear hr1 hr2 hr3 HO32
              go_wp2_with (first
                  | (go_at_call 20; refine (KPL.out _).mono ?_; rintro e w2 ⟨v2, rfl, hx3, rfl⟩; have q0 := (Ext.keeps hx3).cell G0.out; have q1 := (Ext.keeps hx3).cell G1.out; have q2 := (Ext.keeps hx3).cell G2.out; have hx4 : Ext w1 w2 := hx.trans ((Ext.alloc _ _).trans hx3); have ho2 := HOWN.out.ext ((Ext.alloc _ _).trans hx3)))
              refine ⟨⟨k + 1, en, ⟨1, wl ++ h, o⟩, by omega, hen, by go_num, by first | rfl | (rw [str_cat, HEX.out]) | (rw [str_cat, HEXS.out]), .inr (.inl ⟨rfl, rfl⟩), ho2, hx4, by (try rw [List.length_append]); simp only [List.length_cons, List.length_nil]; omega, by (try rw [List.length_append]); (try simp only [List.length_nil]); omega, HD1, HPN, HX⟩, by simp [intOf]; omega⟩
            | false =>
              have hr1 : ¬ r = 32 := by assumption
              have hr2 : ¬ r = 34 := by assumption
              have hr3 : ¬ r = 92 := by assumption
              have HX : Hid (wordsS s.data.toList = ([], p, 4)) := by
                have e := HSTEP.out ⟨0, wl, o⟩
                rw [HRQ.out, show stepM pl r h ⟨0, wl, o⟩ = none by unfold stepM; simp [hr1, hr2, hr3, hpl]] at e
                have h2 := HW.out
                rw [e] at h2
                rw [h2]
                show ([], s.size - (s.size - p), 4) = _
                rw [Nat.sub_sub_self HPS.out]
              rw [hpl] at KPL
              clear hpl HSTEP HRQ HM HM2
              have ea : ((r : Int) == 32) = false := i64_ne (by omega)
              have na : ((r : Int) != 32) = true := by rw [bne, ea]; rfl
              have eb : ((r : Int) == 34) = false := i64_ne (by omega)
              have nb : ((r : Int) != 34) = true := by rw [bne, eb]; rfl
              have ec : ((r : Int) == 92) = false := i64_ne (by omega)
              have nc : ((r : Int) != 92) = true := by rw [bne, ec]; rfl
              clear hr1 hr2 hr3 HO32
              go_wp2_with (first
                  | (go_at_call 20; refine (KPL.out _).mono ?_; rintro e w2 ⟨v2, rfl, hx3, rfl⟩; have q0 := (Ext.keeps hx3).cell G0.out; have q1 := (Ext.keeps hx3).cell G1.out; have q2 := (Ext.keeps hx3).cell G2.out; have hx4 : Ext w1 w2 := hx.trans ((Ext.alloc _ _).trans hx3); have ho2 := HOWN.out.ext ((Ext.alloc _ _).trans hx3)))
              go_quiet (fail)
              go_wp2
              go_ret3
              refine Ret.mk (Ext.drewN (hx1.trans hx4) _) ?_
              unfold WordsV
              rw [HX.out]
              exact ⟨_, rfl, Txs.nil _⟩
          · clear hend hnx
            by_cases hr : r = 32
            · have hpl : pl = true := HM2.out (by omega)
              have HX : Hid (mR (fr s en) ⟨0, [], o ++ [wl]⟩ = R) := by
                have e := HSTEP.out ⟨1, wl, o⟩
                rw [HRQ.out, show stepM pl r h ⟨1, wl, o⟩ = some ⟨0, [], o ++ [wl]⟩ by unfold stepM; simp [hr, hpl]] at e
                exact e.symm
              rw [hpl] at KPL
              clear hpl HSTEP HRQ HM HM2
              have ho32 := HO32.out hr
              subst ho32
              have ea : ((r : Int) == 32) = true := by rw [hr]; rfl
              have na : ((r : Int) != 32) = false := by rw [hr]; rfl
              have eb : ((r : Int) == 34) = false := by rw [hr]; rfl
              have nb : ((r : Int) != 34) = true := by rw [hr]; rfl
              have ec : ((r : Int) == 92) = false := by rw [hr]; rfl
              have nc : ((r : Int) != 92) = true := by rw [hr]; rfl
              clear hr HO32
              go_wp2_with (first
                  | (go_at_call 20; refine (KPL.out _).mono ?_; rintro e w2 ⟨v2, rfl, hx3, rfl⟩; have q0 := (Ext.keeps hx3).cell G0.out; have q1 := (Ext.keeps hx3).cell G1.out; have q2 := (Ext.keeps hx3).cell G2.out; have hx4 : Ext w1 w2 := hx.trans ((Ext.alloc _ _).trans hx3); have ho2 := HOWN.out.ext ((Ext.alloc _ _).trans hx3))
                  | (at_builtin; refine wpList_pushT rfl (.tmp 76) (.tmp 78) rfl w1.heap.size _ o ⟨wl.toArray⟩ rfl rfl ho2 hx4.size (by omega) ?_; intro v4 w4 hown4 hb4 HK4; have hx5 : Ext w1 w4 := Below.trans hx4 hb4; have r1 := HK4.out _ _ q1 (fun e => Nat.lt_irrefl _ (HOWN.out.lt _ e).2)))
              refine ⟨⟨k + 1, en, ⟨0, [], o ++ [wl]⟩, by omega, hen, by go_num, rfl, .inl ⟨rfl, rfl⟩, hown4, hx5, by (try rw [List.length_append]); simp only [List.length_cons, List.length_nil]; omega, by (try rw [List.length_append]); (try simp only [List.length_nil]); omega, HD1, HPN, HX⟩, by simp [intOf]; omega⟩
            by_cases hr : r = 34
            · have hpl : pl = true := HM2.out (by omega)
              have HX : Hid (wordsS s.data.toList = ([], p, 4)) := by
                have e := HSTEP.out ⟨1, wl, o⟩
                rw [HRQ.out, show stepM pl r h ⟨1, wl, o⟩ = none by unfold stepM; simp [hr, hpl]] at e
                have h2 := HW.out
                rw [e] at h2
                rw [h2]
                show ([], s.size - (s.size - p), 4) = _
                rw [Nat.sub_sub_self HPS.out]
              rw [hpl] at KPL
              clear hpl HSTEP HRQ HM HM2
              have ea : ((r : Int) == 32) = false := by rw [hr]; rfl
              have na : ((r : Int) != 32) = true := by rw [hr]; rfl
              have eb : ((r : Int) == 34) = true := by rw [hr]; rfl
              have nb : ((r : Int) != 34) = false := by rw [hr]; rfl
              have ec : ((r : Int) == 92) = false := by rw [hr]; rfl
              have nc : ((r : Int) != 92) = true := by rw [hr]; rfl
              clear hr HO32
              go_wp2_with (first
                  | (go_at_call 20; refine (KPL.out _).mono ?_; rintro e w2 ⟨v2, rfl, hx3, rfl⟩; have q0 := (Ext.keeps hx3).cell G0.out; have q1 := (Ext.keeps hx3).cell G1.out; have q2 := (Ext.keeps hx3).cell G2.out; have hx4 : Ext w1 w2 := hx.trans ((Ext.alloc _ _).trans hx3); have ho2 := HOWN.out.ext ((Ext.alloc _ _).trans hx3))
                  | (at_builtin; refine wpList_pushT rfl (.tmp 76) (.tmp 78) rfl w1.heap.size _ o ⟨wl.toArray⟩ rfl rfl ho2 hx4.size (by omega) ?_; intro v4 w4 hown4 hb4 HK4; have hx5 : Ext w1 w4 := Below.trans hx4 hb4; have r1 := HK4.out _ _ q1 (fun e => Nat.lt_irrefl _ (HOWN.out.lt _ e).2)))
              go_quiet (fail)
              go_wp2
              go_ret3
              refine Ret.mk (Ext.drewN (hx1.trans hx4) _) ?_
              unfold WordsV
              rw [HX.out]
              exact ⟨_, rfl, Txs.nil _⟩
            by_cases hr : r = 92
            · have hpl : pl = true := HM2.out (by omega)
              have HX : Hid (wordsS s.data.toList = ([], p, 4)) := by
                have e := HSTEP.out ⟨1, wl, o⟩
                rw [HRQ.out, show stepM pl r h ⟨1, wl, o⟩ = none by unfold stepM; simp [hr, hpl]] at e
                have h2 := HW.out
                rw [e] at h2
                rw [h2]
                show ([], s.size - (s.size - p), 4) = _
                rw [Nat.sub_sub_self HPS.out]
              rw [hpl] at KPL
              clear hpl HSTEP HRQ HM HM2
              have ea : ((r : Int) == 32) = false := by rw [hr]; rfl
              have na : ((r : Int) != 32) = true := by rw [hr]; rfl
              have eb : ((r : Int) == 34) = false := by rw [hr]; rfl
              have nb : ((r : Int) != 34) = true := by rw [hr]; rfl
              have ec : ((r : Int) == 92) = true := by rw [hr]; rfl
              have nc : ((r : Int) != 92) = false := by rw [hr]; rfl
              clear hr HO32
              go_wp2_with (first
                  | (go_at_call 20; refine (KPL.out _).mono ?_; rintro e w2 ⟨v2, rfl, hx3, rfl⟩; have q0 := (Ext.keeps hx3).cell G0.out; have q1 := (Ext.keeps hx3).cell G1.out; have q2 := (Ext.keeps hx3).cell G2.out; have hx4 : Ext w1 w2 := hx.trans ((Ext.alloc _ _).trans hx3); have ho2 := HOWN.out.ext ((Ext.alloc _ _).trans hx3))
                  | (at_builtin; refine wpList_pushT rfl (.tmp 76) (.tmp 78) rfl w1.heap.size _ o ⟨wl.toArray⟩ rfl rfl ho2 hx4.size (by omega) ?_; intro v4 w4 hown4 hb4 HK4; have hx5 : Ext w1 w4 := Below.trans hx4 hb4; have r1 := HK4.out _ _ q1 (fun e => Nat.lt_irrefl _ (HOWN.out.lt _ e).2)))
              go_quiet (fail)
              go_wp2
              go_ret3
              refine Ret.mk (Ext.drewN (hx1.trans hx4) _) ?_
              unfold WordsV
              rw [HX.out]
              exact ⟨_, rfl, Txs.nil _⟩
            cases hpl : pl with
            | true =>
              have hr1 : ¬ r = 32 := by assumption
              have hr2 : ¬ r = 34 := by assumption
              have hr3 : ¬ r = 92 := by assumption
              have HX : Hid (mR (fr s en) ⟨1, wl ++ h, o⟩ = R) := by
                have e := HSTEP.out ⟨1, wl, o⟩
                rw [HRQ.out, show stepM pl r h ⟨1, wl, o⟩ = some ⟨1, wl ++ h, o⟩ by unfold stepM; simp [hr1, hr2, hr3, hpl]] at e
                exact e.symm
              rw [hpl] at KPL
              clear hpl HSTEP HRQ HM HM2
              have ea : ((r : Int) == 32) = false := i64_ne (by omega)
              have na : ((r : Int) != 32) = true := by rw [bne, ea]; rfl
              have eb : ((r : Int) == 34) = false := i64_ne (by omega)
              have nb : ((r : Int) != 34) = true := by rw [bne, eb]; rfl
              have ec : ((r : Int) == 92) = false := i64_ne (by omega)
              have nc : ((r : Int) != 92) = true := by rw [bne, ec]; rfl
              clear hr1 hr2 hr3 HO32
              go_wp2_with (first
                  | (go_at_call 20; refine (KPL.out _).mono ?_; rintro e w2 ⟨v2, rfl, hx3, rfl⟩; have q0 := (Ext.keeps hx3).cell G0.out; have q1 := (Ext.keeps hx3).cell G1.out; have q2 := (Ext.keeps hx3).cell G2.out; have hx4 : Ext w1 w2 := hx.trans ((Ext.alloc _ _).trans hx3); have ho2 := HOWN.out.ext ((Ext.alloc _ _).trans hx3))
                  | (at_builtin; refine wpList_pushT rfl (.tmp 76) (.tmp 78) rfl w1.heap.size _ o ⟨wl.toArray⟩ rfl rfl ho2 hx4.size (by omega) ?_; intro v4 w4 hown4 hb4 HK4; have hx5 : Ext w1 w4 := Below.trans hx4 hb4; have r1 := HK4.out _ _ q1 (fun e => Nat.lt_irrefl _ (HOWN.out.lt _ e).2)))
              refine ⟨⟨k + 1, en, ⟨1, wl ++ h, o⟩, by omega, hen, by go_num, by first | rfl | (rw [str_cat, HEX.out]) | (rw [str_cat, HEXS.out]), .inr (.inl ⟨rfl, rfl⟩), ho2, hx4, by (try rw [List.length_append]); simp only [List.length_cons, List.length_nil]; omega, by (try rw [List.length_append]); (try simp only [List.length_nil]); omega, HD1, HPN, HX⟩, by simp [intOf]; omega⟩
            | false =>
              have hr1 : ¬ r = 32 := by assumption
              have hr2 : ¬ r = 34 := by assumption
              have hr3 : ¬ r = 92 := by assumption
              have HX : Hid (wordsS s.data.toList = ([], p, 4)) := by
                have e := HSTEP.out ⟨1, wl, o⟩
                rw [HRQ.out, show stepM pl r h ⟨1, wl, o⟩ = none by unfold stepM; simp [hr1, hr2, hr3, hpl]] at e
                have h2 := HW.out
                rw [e] at h2
                rw [h2]
                show ([], s.size - (s.size - p), 4) = _
                rw [Nat.sub_sub_self HPS.out]
              rw [hpl] at KPL
              clear hpl HSTEP HRQ HM HM2
              have ea : ((r : Int) == 32) = false := i64_ne (by omega)
              have na : ((r : Int) != 32) = true := by rw [bne, ea]; rfl
              have eb : ((r : Int) == 34) = false := i64_ne (by omega)
              have nb : ((r : Int) != 34) = true := by rw [bne, eb]; rfl
              have ec : ((r : Int) == 92) = false := i64_ne (by omega)
              have nc : ((r : Int) != 92) = true := by rw [bne, ec]; rfl
              clear hr1 hr2 hr3 HO32
              go_wp2_with (first
                  | (go_at_call 20; refine (KPL.out _).mono ?_; rintro e w2 ⟨v2, rfl, hx3, rfl⟩; have q0 := (Ext.keeps hx3).cell G0.out; have q1 := (Ext.keeps hx3).cell G1.out; have q2 := (Ext.keeps hx3).cell G2.out; have hx4 : Ext w1 w2 := hx.trans ((Ext.alloc _ _).trans hx3); have ho2 := HOWN.out.ext ((Ext.alloc _ _).trans hx3))
                  | (at_builtin; refine wpList_pushT rfl (.tmp 76) (.tmp 78) rfl w1.heap.size _ o ⟨wl.toArray⟩ rfl rfl ho2 hx4.size (by omega) ?_; intro v4 w4 hown4 hb4 HK4; have hx5 : Ext w1 w4 := Below.trans hx4 hb4; have r1 := HK4.out _ _ q1 (fun e => Nat.lt_irrefl _ (HOWN.out.lt _ e).2)))
              go_quiet (fail)
              go_wp2
              go_ret3
              refine Ret.mk (Ext.drewN (hx1.trans hx4) _) ?_
              unfold WordsV
              rw [HX.out]
              exact ⟨_, rfl, Txs.nil _⟩
          · clear hend hnx
            by_cases hr : r = 32
            · have hpl : pl = true := HM2.out (by omega)
              have HX : Hid (mR (fr s en) ⟨2, wl ++ h, o⟩ = R) := by
                have e := HSTEP.out ⟨2, wl, o⟩
                rw [HRQ.out, show stepM pl r h ⟨2, wl, o⟩ = some ⟨2, wl ++ h, o⟩ by unfold stepM; simp [hr, hpl]] at e
                exact e.symm
              rw [hpl] at KPL
              clear hpl HSTEP HRQ HM HM2
              have ho32 := HO32.out hr
              subst ho32
              have ea : ((r : Int) == 32) = true := by rw [hr]; rfl
              have na : ((r : Int) != 32) = false := by rw [hr]; rfl
              have eb : ((r : Int) == 34) = false := by rw [hr]; rfl
              have nb : ((r : Int) != 34) = true := by rw [hr]; rfl
              have ec : ((r : Int) == 92) = false := by rw [hr]; rfl
              have nc : ((r : Int) != 92) = true := by rw [hr]; rfl
              clear hr HO32
              go_wp2_with (first
                  | (go_at_call 20; refine (KPL.out _).mono ?_; rintro e w2 ⟨v2, rfl, hx3, rfl⟩; have q0 := (Ext.keeps hx3).cell G0.out; have q1 := (Ext.keeps hx3).cell G1.out; have q2 := (Ext.keeps hx3).cell G2.out; have hx4 : Ext w1 w2 := hx.trans ((Ext.alloc _ _).trans hx3); have ho2 := HOWN.out.ext ((Ext.alloc _ _).trans hx3)))
              refine ⟨⟨k + 1, en, ⟨2, wl ++ h, o⟩, by omega, hen, by go_num, by first | rfl | (rw [str_cat, HEX.out]) | (rw [str_cat, HEXS.out]), .inr (.inr (.inl ⟨rfl, rfl⟩)), ho2, hx4, by (try rw [List.length_append]); simp only [List.length_cons, List.length_nil]; omega, by (try rw [List.length_append]); (try simp only [List.length_nil]); omega, HD1, HPN, HX⟩, by simp [intOf]; omega⟩
            by_cases hr : r = 34
            · have hpl : pl = true := HM2.out (by omega)
              have HX : Hid (mR (fr s en) ⟨4, wl, o⟩ = R) := by
                have e := HSTEP.out ⟨2, wl, o⟩
                rw [HRQ.out, show stepM pl r h ⟨2, wl, o⟩ = some ⟨4, wl, o⟩ by unfold stepM; simp [hr, hpl]] at e
                exact e.symm
              rw [hpl] at KPL
              clear hpl HSTEP HRQ HM HM2
              have ea : ((r : Int) == 32) = false := by rw [hr]; rfl
              have na : ((r : Int) != 32) = true := by rw [hr]; rfl
              have eb : ((r : Int) == 34) = true := by rw [hr]; rfl
              have nb : ((r : Int) != 34) = false := by rw [hr]; rfl
              have ec : ((r : Int) == 92) = false := by rw [hr]; rfl
              have nc : ((r : Int) != 92) = true := by rw [hr]; rfl
              clear hr HO32
              go_wp2_with (first
                  | (go_at_call 20; refine (KPL.out _).mono ?_; rintro e w2 ⟨v2, rfl, hx3, rfl⟩; have q0 := (Ext.keeps hx3).cell G0.out; have q1 := (Ext.keeps hx3).cell G1.out; have q2 := (Ext.keeps hx3).cell G2.out; have hx4 : Ext w1 w2 := hx.trans ((Ext.alloc _ _).trans hx3); have ho2 := HOWN.out.ext ((Ext.alloc _ _).trans hx3)))
              refine ⟨⟨k + 1, en, ⟨4, wl, o⟩, by omega, hen, by go_num, by first | rfl | simp [str_cat], .inr (.inr (.inr (.inr ⟨rfl, rfl⟩))), ho2, hx4, by (try rw [List.length_append]); simp only [List.length_cons, List.length_nil]; omega, by (try rw [List.length_append]); (try simp only [List.length_nil]); omega, HD1, HPN, HX⟩, by simp [intOf]; omega⟩
            by_cases hr : r = 92
            · have hpl : pl = true := HM2.out (by omega)
              have HX : Hid (mR (fr s en) ⟨3, wl, o⟩ = R) := by
                have e := HSTEP.out ⟨2, wl, o⟩
                rw [HRQ.out, show stepM pl r h ⟨2, wl, o⟩ = some ⟨3, wl, o⟩ by unfold stepM; simp [hr, hpl]] at e
                exact e.symm
              rw [hpl] at KPL
              clear hpl HSTEP HRQ HM HM2
              have ea : ((r : Int) == 32) = false := by rw [hr]; rfl
              have na : ((r : Int) != 32) = true := by rw [hr]; rfl
              have eb : ((r : Int) == 34) = false := by rw [hr]; rfl
              have nb : ((r : Int) != 34) = true := by rw [hr]; rfl
              have ec : ((r : Int) == 92) = true := by rw [hr]; rfl
              have nc : ((r : Int) != 92) = false := by rw [hr]; rfl
              clear hr HO32
              go_wp2_with (first
                  | (go_at_call 20; refine (KPL.out _).mono ?_; rintro e w2 ⟨v2, rfl, hx3, rfl⟩; have q0 := (Ext.keeps hx3).cell G0.out; have q1 := (Ext.keeps hx3).cell G1.out; have q2 := (Ext.keeps hx3).cell G2.out; have hx4 : Ext w1 w2 := hx.trans ((Ext.alloc _ _).trans hx3); have ho2 := HOWN.out.ext ((Ext.alloc _ _).trans hx3)))
              refine ⟨⟨k + 1, en, ⟨3, wl, o⟩, by omega, hen, by go_num, by first | rfl | simp [str_cat], .inr (.inr (.inr (.inl ⟨rfl, rfl⟩))), ho2, hx4, by (try rw [List.length_append]); simp only [List.length_cons, List.length_nil]; omega, by (try rw [List.length_append]); (try simp only [List.length_nil]); omega, HD1, HPN, HX⟩, by simp [intOf]; omega⟩
            cases hpl : pl with
            | true =>
              have hr1 : ¬ r = 32 := by assumption
              have hr2 : ¬ r = 34 := by assumption
              have hr3 : ¬ r = 92 := by assumption
              have HX : Hid (mR (fr s en) ⟨2, wl ++ h, o⟩ = R) := by
                have e := HSTEP.out ⟨2, wl, o⟩
                rw [HRQ.out, show stepM pl r h ⟨2, wl, o⟩ = some ⟨2, wl ++ h, o⟩ by unfold stepM; simp [hr1, hr2, hr3, hpl]] at e
                exact e.symm
              rw [hpl] at KPL
              clear hpl HSTEP HRQ HM HM2
              have ea : ((r : Int) == 32) = false := i64_ne (by omega)
              have na : ((r : Int) != 32) = true := by rw [bne, ea]; rfl
              have eb : ((r : Int) == 34) = false := i64_ne (by omega)
              have nb : ((r : Int) != 34) = true := by rw [bne, eb]; rfl
              have ec : ((r : Int) == 92) = false := i64_ne (by omega)
              have nc : ((r : Int) != 92) = true := by rw [bne, ec]; rfl
              clear hr1 hr2 hr3 HO32
              go_wp2_with (first
                  | (go_at_call 20; refine (KPL.out _).mono ?_; rintro e w2 ⟨v2, rfl, hx3, rfl⟩; have q0 := (Ext.keeps hx3).cell G0.out; have q1 := (Ext.keeps hx3).cell G1.out; have q2 := (Ext.keeps hx3).cell G2.out; have hx4 : Ext w1 w2 := hx.trans ((Ext.alloc _ _).trans hx3); have ho2 := HOWN.out.ext ((Ext.alloc _ _).trans hx3)))
              refine ⟨⟨k + 1, en, ⟨2, wl ++ h, o⟩, by omega, hen, by go_num, by first | rfl | (rw [str_cat, HEX.out]) | (rw [str_cat, HEXS.out]), .inr (.inr (.inl ⟨rfl, rfl⟩)), ho2, hx4, by (try rw [List.length_append]); simp only [List.length_cons, List.length_nil]; omega, by (try rw [List.length_append]); (try simp only [List.length_nil]); omega, HD1, HPN, HX⟩, by simp [intOf]; omega⟩
            | false =>
              have hr1 : ¬ r = 32 := by assumption
              have hr2 : ¬ r = 34 := by assumption
              have hr3 : ¬ r = 92 := by assumption
              have HX : Hid (wordsS s.data.toList = ([], p, 4)) := by
                have e := HSTEP.out ⟨2, wl, o⟩
                rw [HRQ.out, show stepM pl r h ⟨2, wl, o⟩ = none by unfold stepM; simp [hr1, hr2, hr3, hpl]] at e
                have h2 := HW.out
                rw [e] at h2
                rw [h2]
                show ([], s.size - (s.size - p), 4) = _
                rw [Nat.sub_sub_self HPS.out]
              rw [hpl] at KPL
              clear hpl HSTEP HRQ HM HM2
              have ea : ((r : Int) == 32) = false := i64_ne (by omega)
              have na : ((r : Int) != 32) = true := by rw [bne, ea]; rfl
              have eb : ((r : Int) == 34) = false := i64_ne (by omega)
              have nb : ((r : Int) != 34) = true := by rw [bne, eb]; rfl
              have ec : ((r : Int) == 92) = false := i64_ne (by omega)
              have nc : ((r : Int) != 92) = true := by rw [bne, ec]; rfl
              clear hr1 hr2 hr3 HO32
              go_wp2_with (first
                  | (go_at_call 20; refine (KPL.out _).mono ?_; rintro e w2 ⟨v2, rfl, hx3, rfl⟩; have q0 := (Ext.keeps hx3).cell G0.out; have q1 := (Ext.keeps hx3).cell G1.out; have q2 := (Ext.keeps hx3).cell G2.out; have hx4 : Ext w1 w2 := hx.trans ((Ext.alloc _ _).trans hx3); have ho2 := HOWN.out.ext ((Ext.alloc _ _).trans hx3)))
              go_quiet (fail)
              go_wp2
              go_ret3
              refine Ret.mk (Ext.drewN (hx1.trans hx4) _) ?_
              unfold WordsV
              rw [HX.out]
              exact ⟨_, rfl, Txs.nil _⟩
          · clear hend hnx
            by_cases hr : r = 32
            · have hpl : pl = true := HM2.out (by omega)
              have HX : Hid (wordsS s.data.toList = ([], p, 4)) := by
                have e := HSTEP.out ⟨3, wl, o⟩
                rw [HRQ.out, show stepM pl r h ⟨3, wl, o⟩ = none by unfold stepM; simp [hr, hpl]] at e
                have h2 := HW.out
                rw [e] at h2
                rw [h2]
                show ([], s.size - (s.size - p), 4) = _
                rw [Nat.sub_sub_self HPS.out]
              rw [hpl] at KPL
              clear hpl HSTEP HRQ HM HM2
              have ho32 := HO32.out hr
              subst ho32
              have ea : ((r : Int) == 32) = true := by rw [hr]; rfl
              have na : ((r : Int) != 32) = false := by rw [hr]; rfl
              have eb : ((r : Int) == 34) = false := by rw [hr]; rfl
              have nb : ((r : Int) != 34) = true := by rw [hr]; rfl
              have ec : ((r : Int) == 92) = false := by rw [hr]; rfl
              have nc : ((r : Int) != 92) = true := by rw [hr]; rfl
              clear hr HO32
              go_wp2_with (first
                  | (go_at_call 20; refine (KPL.out _).mono ?_; rintro e w2 ⟨v2, rfl, hx3, rfl⟩; have q0 := (Ext.keeps hx3).cell G0.out; have q1 := (Ext.keeps hx3).cell G1.out; have q2 := (Ext.keeps hx3).cell G2.out; have hx4 : Ext w1 w2 := hx.trans ((Ext.alloc _ _).trans hx3); have ho2 := HOWN.out.ext ((Ext.alloc _ _).trans hx3)))
              go_quiet (fail)
              go_wp2
              go_ret3
              refine Ret.mk (Ext.drewN (hx1.trans hx4) _) ?_
              unfold WordsV
              rw [HX.out]
              exact ⟨_, rfl, Txs.nil _⟩
            by_cases hr : r = 34
            · have hpl : pl = true := HM2.out (by omega)
              have HX : Hid (mR (fr s en) ⟨2, wl ++ h, o⟩ = R) := by
                have e := HSTEP.out ⟨3, wl, o⟩
                rw [HRQ.out, show stepM pl r h ⟨3, wl, o⟩ = some ⟨2, wl ++ h, o⟩ by unfold stepM; simp [hr, hpl]] at e
                exact e.symm
              rw [hpl] at KPL
              clear hpl HSTEP HRQ HM HM2
              have ea : ((r : Int) == 32) = false := by rw [hr]; rfl
              have na : ((r : Int) != 32) = true := by rw [hr]; rfl
              have eb : ((r : Int) == 34) = true := by rw [hr]; rfl
              have nb : ((r : Int) != 34) = false := by rw [hr]; rfl
              have ec : ((r : Int) == 92) = false := by rw [hr]; rfl
              have nc : ((r : Int) != 92) = true := by rw [hr]; rfl
              clear hr HO32
              go_wp2_with (first
                  | (go_at_call 20; refine (KPL.out _).mono ?_; rintro e w2 ⟨v2, rfl, hx3, rfl⟩; have q0 := (Ext.keeps hx3).cell G0.out; have q1 := (Ext.keeps hx3).cell G1.out; have q2 := (Ext.keeps hx3).cell G2.out; have hx4 : Ext w1 w2 := hx.trans ((Ext.alloc _ _).trans hx3); have ho2 := HOWN.out.ext ((Ext.alloc _ _).trans hx3)))
              refine ⟨⟨k + 1, en, ⟨2, wl ++ h, o⟩, by omega, hen, by go_num, by first | rfl | (rw [str_cat, HEX.out]) | (rw [str_cat, HEXS.out]), .inr (.inr (.inl ⟨rfl, rfl⟩)), ho2, hx4, by (try rw [List.length_append]); simp only [List.length_cons, List.length_nil]; omega, by (try rw [List.length_append]); (try simp only [List.length_nil]); omega, HD1, HPN, HX⟩, by simp [intOf]; omega⟩
            by_cases hr : r = 92
            · have hpl : pl = true := HM2.out (by omega)
              have HX : Hid (mR (fr s en) ⟨2, wl ++ h, o⟩ = R) := by
                have e := HSTEP.out ⟨3, wl, o⟩
                rw [HRQ.out, show stepM pl r h ⟨3, wl, o⟩ = some ⟨2, wl ++ h, o⟩ by unfold stepM; simp [hr, hpl]] at e
                exact e.symm
              rw [hpl] at KPL
              clear hpl HSTEP HRQ HM HM2
              have ea : ((r : Int) == 32) = false := by rw [hr]; rfl
              have na : ((r : Int) != 32) = true := by rw [hr]; rfl
              have eb : ((r : Int) == 34) = false := by rw [hr]; rfl
              have nb : ((r : Int) != 34) = true := by rw [hr]; rfl
              have ec : ((r : Int) == 92) = true := by rw [hr]; rfl
              have nc : ((r : Int) != 92) = false := by rw [hr]; rfl
              clear hr HO32
              go_wp2_with (first
                  | (go_at_call 20; refine (KPL.out _).mono ?_; rintro e w2 ⟨v2, rfl, hx3, rfl⟩; have q0 := (Ext.keeps hx3).cell G0.out; have q1 := (Ext.keeps hx3).cell G1.out; have q2 := (Ext.keeps hx3).cell G2.out; have hx4 : Ext w1 w2 := hx.trans ((Ext.alloc _ _).trans hx3); have ho2 := HOWN.out.ext ((Ext.alloc _ _).trans hx3)))
              refine ⟨⟨k + 1, en, ⟨2, wl ++ h, o⟩, by omega, hen, by go_num, by first | rfl | (rw [str_cat, HEX.out]) | (rw [str_cat, HEXS.out]), .inr (.inr (.inl ⟨rfl, rfl⟩)), ho2, hx4, by (try rw [List.length_append]); simp only [List.length_cons, List.length_nil]; omega, by (try rw [List.length_append]); (try simp only [List.length_nil]); omega, HD1, HPN, HX⟩, by simp [intOf]; omega⟩
            cases hpl : pl with
            | true =>
              have hr1 : ¬ r = 32 := by assumption
              have hr2 : ¬ r = 34 := by assumption
              have hr3 : ¬ r = 92 := by assumption
              have HX : Hid (wordsS s.data.toList = ([], p, 4)) := by
                have e := HSTEP.out ⟨3, wl, o⟩
                rw [HRQ.out, show stepM pl r h ⟨3, wl, o⟩ = none by unfold stepM; simp [hr1, hr2, hr3, hpl]] at e
                have h2 := HW.out
                rw [e] at h2
                rw [h2]
                show ([], s.size - (s.size - p), 4) = _
                rw [Nat.sub_sub_self HPS.out]
              rw [hpl] at KPL
              clear hpl HSTEP HRQ HM HM2
              have ea : ((r : Int) == 32) = false := i64_ne (by omega)
              have na : ((r : Int) != 32) = true := by rw [bne, ea]; rfl
              have eb : ((r : Int) == 34) = false := i64_ne (by omega)
              have nb : ((r : Int) != 34) = true := by rw [bne, eb]; rfl
              have ec : ((r : Int) == 92) = false := i64_ne (by omega)
              have nc : ((r : Int) != 92) = true := by rw [bne, ec]; rfl
              clear hr1 hr2 hr3 HO32
              go_wp2_with (first
                  | (go_at_call 20; refine (KPL.out _).mono ?_; rintro e w2 ⟨v2, rfl, hx3, rfl⟩; have q0 := (Ext.keeps hx3).cell G0.out; have q1 := (Ext.keeps hx3).cell G1.out; have q2 := (Ext.keeps hx3).cell G2.out; have hx4 : Ext w1 w2 := hx.trans ((Ext.alloc _ _).trans hx3); have ho2 := HOWN.out.ext ((Ext.alloc _ _).trans hx3)))
              go_quiet (fail)
              go_wp2
              go_ret3
              refine Ret.mk (Ext.drewN (hx1.trans hx4) _) ?_
              unfold WordsV
              rw [HX.out]
              exact ⟨_, rfl, Txs.nil _⟩
            | false =>
              have hr1 : ¬ r = 32 := by assumption
              have hr2 : ¬ r = 34 := by assumption
              have hr3 : ¬ r = 92 := by assumption
              have HX : Hid (wordsS s.data.toList = ([], p, 4)) := by
                have e := HSTEP.out ⟨3, wl, o⟩
                rw [HRQ.out, show stepM pl r h ⟨3, wl, o⟩ = none by unfold stepM; simp [hr1, hr2, hr3, hpl]] at e
                have h2 := HW.out
                rw [e] at h2
                rw [h2]
                show ([], s.size - (s.size - p), 4) = _
                rw [Nat.sub_sub_self HPS.out]
              rw [hpl] at KPL
              clear hpl HSTEP HRQ HM HM2
              have ea : ((r : Int) == 32) = false := i64_ne (by omega)
              have na : ((r : Int) != 32) = true := by rw [bne, ea]; rfl
              have eb : ((r : Int) == 34) = false := i64_ne (by omega)
              have nb : ((r : Int) != 34) = true := by rw [bne, eb]; rfl
              have ec : ((r : Int) == 92) = false := i64_ne (by omega)
              have nc : ((r : Int) != 92) = true := by rw [bne, ec]; rfl
              clear hr1 hr2 hr3 HO32
              go_wp2_with (first
                  | (go_at_call 20; refine (KPL.out _).mono ?_; rintro e w2 ⟨v2, rfl, hx3, rfl⟩; have q0 := (Ext.keeps hx3).cell G0.out; have q1 := (Ext.keeps hx3).cell G1.out; have q2 := (Ext.keeps hx3).cell G2.out; have hx4 : Ext w1 w2 := hx.trans ((Ext.alloc _ _).trans hx3); have ho2 := HOWN.out.ext ((Ext.alloc _ _).trans hx3)))
              go_quiet (fail)
              go_wp2
              go_ret3
              refine Ret.mk (Ext.drewN (hx1.trans hx4) _) ?_
              unfold WordsV
              rw [HX.out]
              exact ⟨_, rfl, Txs.nil _⟩
          · clear hend hnx
            by_cases hr : r = 32
            · have hpl : pl = true := HM2.out (by omega)
              have HX : Hid (mR (fr s en) ⟨0, [], o ++ [wl]⟩ = R) := by
                have e := HSTEP.out ⟨4, wl, o⟩
                rw [HRQ.out, show stepM pl r h ⟨4, wl, o⟩ = some ⟨0, [], o ++ [wl]⟩ by unfold stepM; simp [hr, hpl]] at e
                exact e.symm
              rw [hpl] at KPL
              clear hpl HSTEP HRQ HM HM2
              have ho32 := HO32.out hr
              subst ho32
              have ea : ((r : Int) == 32) = true := by rw [hr]; rfl
              have na : ((r : Int) != 32) = false := by rw [hr]; rfl
              have eb : ((r : Int) == 34) = false := by rw [hr]; rfl
              have nb : ((r : Int) != 34) = true := by rw [hr]; rfl
              have ec : ((r : Int) == 92) = false := by rw [hr]; rfl
              have nc : ((r : Int) != 92) = true := by rw [hr]; rfl
              clear hr HO32
              go_wp2_with (first
                  | (go_at_call 20; refine (KPL.out _).mono ?_; rintro e w2 ⟨v2, rfl, hx3, rfl⟩; have q0 := (Ext.keeps hx3).cell G0.out; have q1 := (Ext.keeps hx3).cell G1.out; have q2 := (Ext.keeps hx3).cell G2.out; have hx4 : Ext w1 w2 := hx.trans ((Ext.alloc _ _).trans hx3); have ho2 := HOWN.out.ext ((Ext.alloc _ _).trans hx3))
                  | (at_builtin; refine wpList_pushT rfl (.tmp 114) (.tmp 116) rfl w1.heap.size _ o ⟨wl.toArray⟩ rfl rfl ho2 hx4.size (by omega) ?_; intro v4 w4 hown4 hb4 HK4; have hx5 : Ext w1 w4 := Below.trans hx4 hb4; have r1 := HK4.out _ _ q1 (fun e => Nat.lt_irrefl _ (HOWN.out.lt _ e).2)))
              refine ⟨⟨k + 1, en, ⟨0, [], o ++ [wl]⟩, by omega, hen, by go_num, rfl, .inl ⟨rfl, rfl⟩, hown4, hx5, by (try rw [List.length_append]); simp only [List.length_cons, List.length_nil]; omega, by (try rw [List.length_append]); (try simp only [List.length_nil]); omega, HD1, HPN, HX⟩, by simp [intOf]; omega⟩
            by_cases hr : r = 34
            · have hpl : pl = true := HM2.out (by omega)
              have HX : Hid (wordsS s.data.toList = ([], p, 4)) := by
                have e := HSTEP.out ⟨4, wl, o⟩
                rw [HRQ.out, show stepM pl r h ⟨4, wl, o⟩ = none by unfold stepM; simp [hr, hpl]] at e
                have h2 := HW.out
                rw [e] at h2
                rw [h2]
                show ([], s.size - (s.size - p), 4) = _
                rw [Nat.sub_sub_self HPS.out]
              rw [hpl] at KPL
              clear hpl HSTEP HRQ HM HM2
              have ea : ((r : Int) == 32) = false := by rw [hr]; rfl
              have na : ((r : Int) != 32) = true := by rw [hr]; rfl
              have eb : ((r : Int) == 34) = true := by rw [hr]; rfl
              have nb : ((r : Int) != 34) = false := by rw [hr]; rfl
              have ec : ((r : Int) == 92) = false := by rw [hr]; rfl
              have nc : ((r : Int) != 92) = true := by rw [hr]; rfl
              clear hr HO32
              go_wp2_with (first
                  | (go_at_call 20; refine (KPL.out _).mono ?_; rintro e w2 ⟨v2, rfl, hx3, rfl⟩; have q0 := (Ext.keeps hx3).cell G0.out; have q1 := (Ext.keeps hx3).cell G1.out; have q2 := (Ext.keeps hx3).cell G2.out; have hx4 : Ext w1 w2 := hx.trans ((Ext.alloc _ _).trans hx3); have ho2 := HOWN.out.ext ((Ext.alloc _ _).trans hx3))
                  | (at_builtin; refine wpList_pushT rfl (.tmp 114) (.tmp 116) rfl w1.heap.size _ o ⟨wl.toArray⟩ rfl rfl ho2 hx4.size (by omega) ?_; intro v4 w4 hown4 hb4 HK4; have hx5 : Ext w1 w4 := Below.trans hx4 hb4; have r1 := HK4.out _ _ q1 (fun e => Nat.lt_irrefl _ (HOWN.out.lt _ e).2)))
              go_quiet (fail)
              go_wp2
              go_ret3
              refine Ret.mk (Ext.drewN (hx1.trans hx5) _) ?_
              unfold WordsV
              rw [HX.out]
              exact ⟨_, rfl, Txs.nil _⟩
            by_cases hr : r = 92
            · have hpl : pl = true := HM2.out (by omega)
              have HX : Hid (wordsS s.data.toList = ([], p, 4)) := by
                have e := HSTEP.out ⟨4, wl, o⟩
                rw [HRQ.out, show stepM pl r h ⟨4, wl, o⟩ = none by unfold stepM; simp [hr, hpl]] at e
                have h2 := HW.out
                rw [e] at h2
                rw [h2]
                show ([], s.size - (s.size - p), 4) = _
                rw [Nat.sub_sub_self HPS.out]
              rw [hpl] at KPL
              clear hpl HSTEP HRQ HM HM2
              have ea : ((r : Int) == 32) = false := by rw [hr]; rfl
              have na : ((r : Int) != 32) = true := by rw [hr]; rfl
              have eb : ((r : Int) == 34) = false := by rw [hr]; rfl
              have nb : ((r : Int) != 34) = true := by rw [hr]; rfl
              have ec : ((r : Int) == 92) = true := by rw [hr]; rfl
              have nc : ((r : Int) != 92) = false := by rw [hr]; rfl
              clear hr HO32
              go_wp2_with (first
                  | (go_at_call 20; refine (KPL.out _).mono ?_; rintro e w2 ⟨v2, rfl, hx3, rfl⟩; have q0 := (Ext.keeps hx3).cell G0.out; have q1 := (Ext.keeps hx3).cell G1.out; have q2 := (Ext.keeps hx3).cell G2.out; have hx4 : Ext w1 w2 := hx.trans ((Ext.alloc _ _).trans hx3); have ho2 := HOWN.out.ext ((Ext.alloc _ _).trans hx3))
                  | (at_builtin; refine wpList_pushT rfl (.tmp 114) (.tmp 116) rfl w1.heap.size _ o ⟨wl.toArray⟩ rfl rfl ho2 hx4.size (by omega) ?_; intro v4 w4 hown4 hb4 HK4; have hx5 : Ext w1 w4 := Below.trans hx4 hb4; have r1 := HK4.out _ _ q1 (fun e => Nat.lt_irrefl _ (HOWN.out.lt _ e).2)))
              go_quiet (fail)
              go_wp2
              go_ret3
              refine Ret.mk (Ext.drewN (hx1.trans hx5) _) ?_
              unfold WordsV
              rw [HX.out]
              exact ⟨_, rfl, Txs.nil _⟩
            cases hpl : pl with
            | true =>
              have hr1 : ¬ r = 32 := by assumption
              have hr2 : ¬ r = 34 := by assumption
              have hr3 : ¬ r = 92 := by assumption
              have HX : Hid (wordsS s.data.toList = ([], p, 4)) := by
                have e := HSTEP.out ⟨4, wl, o⟩
                rw [HRQ.out, show stepM pl r h ⟨4, wl, o⟩ = none by unfold stepM; simp [hr1, hr2, hr3, hpl]] at e
                have h2 := HW.out
                rw [e] at h2
                rw [h2]
                show ([], s.size - (s.size - p), 4) = _
                rw [Nat.sub_sub_self HPS.out]
              rw [hpl] at KPL
              clear hpl HSTEP HRQ HM HM2
              have ea : ((r : Int) == 32) = false := i64_ne (by omega)
              have na : ((r : Int) != 32) = true := by rw [bne, ea]; rfl
              have eb : ((r : Int) == 34) = false := i64_ne (by omega)
              have nb : ((r : Int) != 34) = true := by rw [bne, eb]; rfl
              have ec : ((r : Int) == 92) = false := i64_ne (by omega)
              have nc : ((r : Int) != 92) = true := by rw [bne, ec]; rfl
              clear hr1 hr2 hr3 HO32
              go_wp2_with (first
                  | (go_at_call 20; refine (KPL.out _).mono ?_; rintro e w2 ⟨v2, rfl, hx3, rfl⟩; have q0 := (Ext.keeps hx3).cell G0.out; have q1 := (Ext.keeps hx3).cell G1.out; have q2 := (Ext.keeps hx3).cell G2.out; have hx4 : Ext w1 w2 := hx.trans ((Ext.alloc _ _).trans hx3); have ho2 := HOWN.out.ext ((Ext.alloc _ _).trans hx3))
                  | (at_builtin; refine wpList_pushT rfl (.tmp 114) (.tmp 116) rfl w1.heap.size _ o ⟨wl.toArray⟩ rfl rfl ho2 hx4.size (by omega) ?_; intro v4 w4 hown4 hb4 HK4; have hx5 : Ext w1 w4 := Below.trans hx4 hb4; have r1 := HK4.out _ _ q1 (fun e => Nat.lt_irrefl _ (HOWN.out.lt _ e).2)))
              go_quiet (fail)
              go_wp2
              go_ret3
              refine Ret.mk (Ext.drewN (hx1.trans hx5) _) ?_
              unfold WordsV
              rw [HX.out]
              exact ⟨_, rfl, Txs.nil _⟩
            | false =>
              have hr1 : ¬ r = 32 := by assumption
              have hr2 : ¬ r = 34 := by assumption
              have hr3 : ¬ r = 92 := by assumption
              have HX : Hid (wordsS s.data.toList = ([], p, 4)) := by
                have e := HSTEP.out ⟨4, wl, o⟩
                rw [HRQ.out, show stepM pl r h ⟨4, wl, o⟩ = none by unfold stepM; simp [hr1, hr2, hr3, hpl]] at e
                have h2 := HW.out
                rw [e] at h2
                rw [h2]
                show ([], s.size - (s.size - p), 4) = _
                rw [Nat.sub_sub_self HPS.out]
              rw [hpl] at KPL
              clear hpl HSTEP HRQ HM HM2
              have ea : ((r : Int) == 32) = false := i64_ne (by omega)
              have na : ((r : Int) != 32) = true := by rw [bne, ea]; rfl
              have eb : ((r : Int) == 34) = false := i64_ne (by omega)
              have nb : ((r : Int) != 34) = true := by rw [bne, eb]; rfl
              have ec : ((r : Int) == 92) = false := i64_ne (by omega)
              have nc : ((r : Int) != 92) = true := by rw [bne, ec]; rfl
              clear hr1 hr2 hr3 HO32
              go_wp2_with (first
                  | (go_at_call 20; refine (KPL.out _).mono ?_; rintro e w2 ⟨v2, rfl, hx3, rfl⟩; have q0 := (Ext.keeps hx3).cell G0.out; have q1 := (Ext.keeps hx3).cell G1.out; have q2 := (Ext.keeps hx3).cell G2.out; have hx4 : Ext w1 w2 := hx.trans ((Ext.alloc _ _).trans hx3); have ho2 := HOWN.out.ext ((Ext.alloc _ _).trans hx3))
                  | (at_builtin; refine wpList_pushT rfl (.tmp 114) (.tmp 116) rfl w1.heap.size _ o ⟨wl.toArray⟩ rfl rfl ho2 hx4.size (by omega) ?_; intro v4 w4 hown4 hb4 HK4; have hx5 : Ext w1 w4 := Below.trans hx4 hb4; have r1 := HK4.out _ _ q1 (fun e => Nat.lt_irrefl _ (HOWN.out.lt _ e).2)))
              go_quiet (fail)
              go_wp2
              go_ret3
              refine Ret.mk (Ext.drewN (hx1.trans hx5) _) ?_
              unfold WordsV
              rw [HX.out]
              exact ⟨_, rfl, Txs.nil _⟩
      · obtain rfl : k = n := by omega
        have hki : ¬ (k : Int) < (k : Int) := Int.lt_irrefl _
        have hpz : p = s.size := by
          have h := HD.out
          rw [List.drop_of_length_le (by rw [HN.out]; exact Nat.le_refl _)] at h
          have h2 := fr_len s p
          rw [(chs_empty _ _).1 h.symm, List.length_nil] at h2
          have := HP.out
          omega
        have HFIN : Hid (R = finM ⟨q, wl, o⟩) := by
          rw [← HRQ.out, fr_end (by omega), mR_nil]
          exact hide rfl
        have HOWN := hide hown
        clear hown hpz
        have hx2' := hx2.size
        rcases hst with ⟨rfl, rfl⟩ | ⟨rfl, rfl⟩ | ⟨rfl, rfl⟩ | ⟨rfl, rfl⟩ | ⟨rfl, rfl⟩
        · have HX : Hid (wordsS s.data.toList = (o, 0, 0)) := by rw [HW.out, HFIN.out]; exact hide rfl
          go_wp2
          go_ret3
          refine Ret.mk hx2 ?_
          unfold WordsV
          rw [HX.out]
          exact ⟨_, rfl, HOWN.out.txs⟩
        · have HX : Hid (wordsS s.data.toList = (o ++ [wl], 0, 0)) := by rw [HW.out, HFIN.out]; exact hide rfl
          go_wp2_with (at_builtin; refine wpList_pushT rfl (.tmp 135) (.tmp 137) rfl w1.heap.size _ o ⟨wl.toArray⟩ rfl rfl HOWN.out (Ext.size hx) (by omega) ?_; intro v4 w4 hown4 hb4 _; have hx5 : Ext w1 w4 := Below.trans hx hb4)
          go_ret3
          refine Ret.mk (hx1.trans hx5) ?_
          unfold WordsV
          rw [HX.out]
          exact ⟨_, rfl, hown4.txs⟩
        · have HX : Hid (wordsS s.data.toList = ([], s.size, 4)) := by rw [HW.out, HFIN.out]; exact hide rfl
          go_wp2
          go_ret3
          refine Ret.mk hx2 ?_
          unfold WordsV
          rw [HX.out]
          exact ⟨_, rfl, Txs.nil _⟩
        · have HX : Hid (wordsS s.data.toList = ([], s.size, 4)) := by rw [HW.out, HFIN.out]; exact hide rfl
          go_wp2
          go_ret3
          refine Ret.mk hx2 ?_
          unfold WordsV
          rw [HX.out]
          exact ⟨_, rfl, Txs.nil _⟩
        · have HX : Hid (wordsS s.data.toList = (o ++ [wl], 0, 0)) := by rw [HW.out, HFIN.out]; exact hide rfl
          go_wp2_with (at_builtin; refine wpList_pushT rfl (.tmp 135) (.tmp 137) rfl w1.heap.size _ o ⟨wl.toArray⟩ rfl rfl HOWN.out (Ext.size hx) (by omega) ?_; intro v4 w4 hown4 hb4 _; have hx5 : Ext w1 w4 := Below.trans hx hb4)
          go_ret3
          refine Ret.mk (hx1.trans hx5) ?_
          unfold WordsV
          rw [HX.out]
          exact ⟨_, rfl, hown4.txs⟩
end Go.Proofs.YtceccaafajkbfaaDoor

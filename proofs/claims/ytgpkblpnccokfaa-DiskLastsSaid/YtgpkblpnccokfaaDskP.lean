/-
  The walk of DiskOrder.
-/
import Derived.Test.YtgpkblpnccokfaaDskO
namespace Go.Proofs.Ytgpkblpnccokfaa
open Go.RowKit

theorem RdB.ext {w w' : World} {P : Option Addr} {l : List Bool} (h : RdB w P l) (hx : Ext w w') : RdB w' P l := fun hn => by
  obtain ⟨b, off, hA, hc⟩ := h hn
  refine ⟨b, off, hA, fun j u hu => ?_⟩
  have := hc j u hu
  rw [Below.cell hx (World.block_lt_of_cell? w _ this)]
  exact this
theorem new_one (w : World) : Calls Try.prog 9 #[.int .i64 1] w (NPost 1 w) := new_any 1 (by decide) (by decide) w
theorem build_v (b : Nat) (W : World) : (Instr.buildSlice 32 1 #[(0, .int .u8 (b : Int))]).run Try.prog W = .ok (.slice (some ⟨W.heap.size, 0, none⟩) 1 1) (W.alloc (.cells #[.int .u8 (b : Int)] 5)) := build_byte b W
theorem full_new (b : UInt8) (W : World) : Calls Try.prog 20 #[.slice (some ⟨W.heap.size, 0, none⟩) 1 1] (W.alloc (.cells #[.int .u8 (b.toNat : Int)] 5)) (FPost (W.alloc (.cells #[.int .u8 (b.toNat : Int)] 5)) (fullS [b])) :=
  full_any (some ⟨W.heap.size, 0, none⟩) 1 [b] _ (Rd.of_rw (t := 5) (Rw.new W 5 (bs [b]))) (by show 1 < _; decide)
theorem pend_settled {B g gd gn c : Nat} {w : World} {A : Option Addr} {D : Dk} {kept : Nat → Bool} (h : DiskAt B w g gd gn A c (D.settled kept)) : Calls Try.prog 13 #[.pointer (some ⟨g, 0, none⟩)] w (Same w (.int .i64 0)) := pending_any h
theorem settled_ok {D : Dk} (ok : D.Ok) (kept : Nat → Bool) : (D.settled kept).Ok :=
  ⟨by show 1 ≤ (durK kept D.dur D.pen D.pen.length).length; rw [durK_len]; exact ok.pos, by show (durK kept D.dur D.pen D.pen.length).length ≤ 4096; rw [durK_len]; exact ok.max, durK_lens ok.dur ok.pens D.pen.length, fun x hx => by cases hx⟩
theorem at_byte (D : Dk) (hp : D.pen = []) (ok : D.Ok) : (bs (D.at 0))[0]? = some (.int .u8 ((w0 D.dur).toNat : Int)) := by
  have e : D.at 0 = D.dur.getD 0 [] := by unfold Dk.at; rw [hp, if_pos (lastP_nil 0)]
  rw [e]
  obtain ⟨x, hx⟩ : ∃ x, D.dur[0]? = some x := ⟨_, List.getElem?_eq_getElem ok.pos⟩
  have hl := ok.dur x (List.mem_of_getElem? hx)
  unfold w0
  rw [List.getD_eq_getElem?_getD, hx, Option.getD_some, bs_get]
  cases x with
  | nil => cases hl
  | cons y ys => rfl
structure Quiet (D : Dk) (a i : Nat) : Prop where
  ok : D.Ok
  pen : D.pen = ordPen a i
  off : D.off = false
  arm : D.arm = 0
  ops : D.ops ≤ 3 * i
  len : D.dur.length = 1
set_option maxRecDepth 20000 in
set_option maxHeartbeats 1600000 in
theorem diskOrder_walk (n s : Nat) (hn : n < 256) (hs : s < 256) (P : Option Addr) (c : Nat) (keep : List Bool) (w : World) (hP : RdB w P keep) :
    Calls Try.prog 7 #[.int .u8 (n : Int), .slice P keep.length c, .int .u8 (s : Int)] w (Ret w (Is (.bool true))) := by
  have KA := hide awake_any
  have KN := hide new_one
  obtain ⟨m, HM⟩ : ∃ m, Hid (keep.length = m) := ⟨_, hide rfl⟩
  rw [HM.out]
  have HP := hide hP
  have L0 : Hid ((D0 1).dur.length = 1) := hide (D0_len 1)
  have OK0 := hide (D0_ok 1 (by decide) (by decide))
  clear hP
  have hni : (n : Int) < 256 := by omega
  have hsi : (s : Int) < 256 := by omega
  obtain ⟨q, HQ⟩ : ∃ q : Nat, Hid (1 + (n : Int) % 20 = (q : Int)) := ⟨1 + n % 20, hide (by omega)⟩
  have HQ20 : Hid (q ≤ 20) := hide (by have := HQ.out; omega)
  clear hn hs
  go_enter Try.func7, Try.ntmps7
  go_wp2_with (first
    | (go_at_call 8; (with_reducible refine (KA.out _).mono ?_); rintro e w1 ⟨rfl, hx1⟩; have X1 := hide hx1; clear hx1)
    | (go_at_call 9; (with_reducible refine (KN.out _).mono ?_); rintro e w2 ⟨g, gd, gn, rfl, hd2, hx2⟩; have H2 := hide hd2; have X2 := hide hx2; clear hd2 hx2))
  rw [HQ.out]
  clear hni
  obtain ⟨t, HT⟩ : ∃ t : Nat, Hid ((s : Int) % 40 = (t : Int)) := ⟨s % 40, hide (by omega)⟩
  go_loopw [10, 11, 12] (fun wv fv iv wr => ∃ (i a : Nat) (A : Option Addr) (d : Nat) (D : Dk), i ≤ q ∧ a ≤ i ∧ wv = .int .u8 ((w0 D.dur).toNat : Int) ∧ fv = .int .i64 (a : Int) ∧ iv = .int .i64 (i : Int) ∧ Hid (DiskAt w1.heap.size wr g gd gn A d D) ∧ Hid (Quiet D a i) ∧ Hid (Ext w1 wr)) (fun _ _ i _ => q - (intOf i).toNat)
  case atStart => exact ⟨0, 0, none, 0, D0 1, Nat.zero_le _, Nat.le_refl _, rfl, rfl, rfl, H2, hide ⟨OK0.out, rfl, rfl, rfl, Nat.le_refl _, L0.out⟩, X2⟩
  case round =>
    obtain ⟨i, a, A, d, D, hiq, hai, rfl, rfl, rfl, HD, HU, HX⟩ := hrel
    by_cases hlt : i < q
    · have hli : (i : Int) < (q : Int) := by omega
      have hi20 : (i : Int) + 1 < 21 := by have := HQ20.out; omega
      have hi0 : (0 : Int) ≤ (i : Int) := by omega
      obtain ⟨b, HB⟩ : ∃ b : UInt8, Hid (b = UInt8.ofNat (i + 1)) := ⟨_, hide rfl⟩
      have HBN : Hid ((b.toNat : Int) = (i : Int) + 1) := hide (by rw [HB.out, UInt8.toNat_ofNat']; have := HQ20.out; omega)
      have KF : Hid (Calls Try.prog 20 #[.slice (some ⟨wr.heap.size, 0, none⟩) 1 1] (wr.alloc (.cells #[.int .u8 ((i : Int) + 1)] 5)) (FPost (wr.alloc (.cells #[.int .u8 ((i : Int) + 1)] 5)) (fullS [b]))) := hide (by
        have h := full_new b wr
        rw [HBN.out] at h
        exact h)
      have KBY := hide (build_byte ((i : Int) + 1) wr)
      have LP : Hid ((fullS [b]).length = 512) := hide (fullS_length _)
      go_upto_region 12 with (first
        | ((with_reducible show wpList _ _ _ (⟨some 35, _, _, _, _, _⟩ :: _) _ _); refine wpList_gives (gives_buildSlice rfl [(0, .int .u8 ((i : Int) + 1))] rfl KBY.out ⟨rfl, rfl⟩) rfl ?_)
        | (go_at_call 20; (with_reducible refine KF.out.mono ?_); rintro e w3 ⟨h3, rfl, hr3, hg3, hx3⟩;
           have R3 := hide hr3; have X3 := hide ((Ext.alloc _ _).trans hx3); clear hr3 hg3 hx3)
        | (go_at_call 21;
           have KW := write_zero (q := h3) (HD.out.ext X3.out) HU.out.ok HU.out.off HU.out.arm (by rw [HU.out.pen, ordPen_length]; have := HQ20.out; omega) (by have := HU.out.ops; have := HQ20.out; omega) (by rw [HU.out.len]; decide) (fullS [b]) LP.out R3.out (HX.out.trans X3.out).size;
           (with_reducible refine KW.mono ?_); clear KW;
           rintro e w4 ⟨A4, d4, rfl, hd4, hf4, hn4⟩;
           have H4 := hide hd4; have X4 := hide (Dfr.grown (HX.out.trans X3.out) (HD.out.ext X3.out) hf4); clear hd4 hf4 hn4))
      have HU4 : Hid (Quiet (D.more 0 (fullS [b])) a (i + 1)) := hide ⟨Dk.more_ok HU.out.ok (by rw [HU.out.len]; decide) LP.out, by
        show D.pen ++ [(0, fullS [b])] = _
        rw [ordPen_succ a i hai, HU.out.pen, HB.out], HU.out.off, HU.out.arm, by show D.ops + 1 ≤ _; have := HU.out.ops; omega, HU.out.len⟩
      have HW0 : Hid (w0 (D.more 0 (fullS [b])).dur = w0 D.dur) := hide rfl
      have HOPS : Hid ((D.more 0 (fullS [b])).ops ≤ 3 * i + 1) := hide (by show D.ops + 1 ≤ _; have := HU.out.ops; omega)
      obtain ⟨D4, hD4⟩ : ∃ D4, D4 = D.more 0 (fullS [b]) := ⟨_, rfl⟩
      rw [← hD4] at H4 HU4 HW0 HOPS
      rw [← HW0.out]
      clear KF KBY R3 X3 HD HU HX hD4 HW0
      by_cases hit : i = t
      · have hx1 : ((i : Int) == (s : Int) % 40) = true := by rw [HT.out, hit]; simp
        have hx2 : (i : Int) = (s : Int) % 40 := by rw [HT.out, hit]
        go_wp2_with (first
          | (go_at_call 22;
             have KS := sync_any H4.out HU4.out.ok HU4.out.off (by rw [HU4.out.arm]; decide) (by rw [HU4.out.arm]; decide) (by rw [HU4.out.pen, ordPen_length]; have := HQ20.out; omega) (by have := HOPS.out; have := HQ20.out; omega) X4.out.size;
             (with_reducible refine KS.mono ?_); clear KS;
             rintro e w5 ⟨A5, d5, rfl, hd5, hf5, hn5⟩;
             have H5 := hide hd5; have X5 := hide (Dfr.grown X4.out H4.out hf5); clear hd5 hf5 hn5)
          | (go_at_call 13; have KP := pend_settled H5.out; (with_reducible refine KP.mono ?_); clear KP; rintro e w6 ⟨rfl, rfl⟩))
        have HU5 : Hid (Quiet (D4.op.settled fun _ => true) (i + 1) (i + 1)) := hide ⟨settled_ok (Dk.op_ok HU4.out.ok) _, (ordPen_self _).symm, by show (D4.off || decide (D4.arm = 1)) = false; rw [HU4.out.off, HU4.out.arm]; rfl, by show D4.arm - 1 = 0; rw [HU4.out.arm], by show D4.ops + 1 ≤ _; have := HOPS.out; omega, by
          show (durK (fun _ => true) D4.dur D4.pen D4.pen.length).length = 1
          rw [durK_len]; exact HU4.out.len⟩
        have HW5 : Hid (((w0 (D4.op.settled fun _ => true).dur).toNat : Int) = (i : Int) + 1) := hide (by
          show ((w0 (durK (fun _ => true) D4.dur D4.pen D4.pen.length)).toNat : Int) = _
          rw [HU4.out.pen, w0_synced D4.dur a i hai (by rw [HU4.out.len]; exact Nat.le_refl _), ← HB.out]
          exact HBN.out)
        refine ⟨⟨i + 1, i + 1, A5, d5, _, by omega, by omega, by rw [HW5.out, hit], by go_num, by go_num, H5, HU5, X5⟩, by simp [intOf]; omega⟩
      · have hx1 : ((i : Int) == (s : Int) % 40) = false := by rw [HT.out]; simp; omega
        have hx2 : ¬ (i : Int) = (s : Int) % 40 := by rw [HT.out]; omega
        go_wp2
        refine ⟨⟨i + 1, a, A4, d4, D4, by omega, by omega, rfl, rfl, by go_num, H4, HU4, X4⟩, by simp [intOf]; omega⟩
    · obtain rfl : i = q := by omega
      have hli : ¬ (i : Int) < (i : Int) := Int.lt_irrefl _
      go_wp2
      have HA : Hid (a ≤ i) := hide hai
      clear hlt hiq hli
      go_loopw [10, 13] (fun wv jv wr2 => ∃ j : Nat, a ≤ j ∧ j ≤ i ∧ wv = .int .u8 ((w0 (durK (fun k => keep.getD k false) D.dur D.pen (j - a))).toNat : Int) ∧ jv = .int .i64 (j : Int) ∧ Hid (wr = wr2)) (fun _ j _ => i - (intOf j).toNat)
      case atStart => exact ⟨a, Nat.le_refl _, hai, by rw [Nat.sub_self]; rfl, rfl, hide rfl⟩
      case round =>
        obtain ⟨j, haj, hji, rfl, rfl, HE⟩ := hrel
        obtain rfl := HE.out
        clear HE
        by_cases hjl : j < i
        · have hjli : (j : Int) < (i : Int) := by omega
          have hj21 : (j : Int) + 1 < 21 := by have := HQ20.out; omega
          obtain ⟨e, HEE⟩ : ∃ e : Nat, Hid (e = j - a) := ⟨_, hide rfl⟩
          have hje : (j : Int) - (a : Int) = (e : Int) := by have := HEE.out; omega
          have HG := hide (w0_step (fun k => keep.getD k false) D.dur D.pen e (UInt8.ofNat (a + e + 1)) (by rw [HU.out.len]; exact Nat.le_refl _) (by rw [HU.out.pen]; exact ordPen_get a i e (by have := HEE.out; omega)))
          have HN1 : Hid (j + 1 - a = e + 1) := hide (by have := HEE.out; omega)
          have HB1 : Hid (((UInt8.ofNat (a + e + 1)).toNat : Int) = (j : Int) + 1) := hide (by rw [UInt8.toNat_ofNat']; have := HEE.out; omega)
          rw [← HEE.out]
          by_cases hem : e < m
          · have hemi : (e : Int) < (m : Int) := by omega
            have he0 : (0 : Int) ≤ (e : Int) := by omega
            obtain ⟨v, hv⟩ : ∃ v, keep[e]? = some v := ⟨_, List.getElem?_eq_getElem (by rw [HM.out]; exact hem)⟩
            obtain ⟨pb, off, hPP, hq2⟩ := (HP.out.ext (X1.out.trans HX.out)) (by intro h; rw [h] at hv; cases hv)
            subst hPP
            have hcv := hq2 e v hv
            have HK : Hid (keep.getD e false = v) := hide (by rw [List.getD_eq_getElem?_getD, hv]; rfl)
            clear hq2 hv
            cases v with
            | true =>
              go_wp2
              refine ⟨⟨j + 1, by omega, by omega, ?_, by go_num, hide (by first | trivial | rfl)⟩, by simp [intOf]; omega⟩
              rw [HN1.out, HG.out, HK.out, if_pos rfl, HB1.out]
            | false =>
              go_wp2
              refine ⟨⟨j + 1, by omega, by omega, ?_, by go_num, hide (by first | trivial | rfl)⟩, by simp [intOf]; omega⟩
              rw [HN1.out, HG.out, HK.out, if_neg (by decide)]
          · have hemi : ¬ (e : Int) < (m : Int) := by omega
            have HK : Hid (keep.getD e false = false) := hide (by rw [List.getD_eq_getElem?_getD, List.getElem?_eq_none (by rw [HM.out]; omega)]; rfl)
            go_wp2
            refine ⟨⟨j + 1, by omega, by omega, ?_, by go_num, hide (by first | trivial | rfl)⟩, by simp [intOf]; omega⟩
            rw [HN1.out, HG.out, HK.out, if_neg (by decide)]
        · obtain rfl : j = i := by omega
          have hjli : ¬ (j : Int) < (j : Int) := Int.lt_irrefl _
          have HPL : Hid (D.pen.length = j - a) := hide (by rw [HU.out.pen, ordPen_length])
          obtain ⟨e, HEE⟩ : ∃ e : Nat, Hid (e = j - a) := ⟨_, hide rfl⟩
          have HPI : Hid ((D.pen.length : Int) = (e : Int)) := hide (by have := HPL.out; have := HEE.out; omega)
          have hje : (j : Int) - (a : Int) = (e : Int) := by have := HEE.out; omega
          have he21 : (e : Int) < 21 := by have := HEE.out; have := HQ20.out; omega
          have he0 : (0 : Int) ≤ (e : Int) := by omega
          have KP := pending_any HD.out
          rw [HPI.out] at KP
          have HKP := hide KP
          have KR := restart_any (ck := c) HD.out HU.out.ok (by rw [HPL.out]; have := HQ20.out; omega) HX.out.size keep (P := P) (fun W hW => HP.out.ext (X1.out.trans (Dfr.grown HX.out HD.out hW)))
          rw [HM.out] at KR
          have HKR := hide KR
          have KD := hide fun (W : World) (A5 : Option Addr) (d5 : Nat) (h5 : DiskAt w1.heap.size W g gd gn A5 d5 (D.fallen keep)) => (show Calls Try.prog 18 #[.pointer (some ⟨g, 0, none⟩), .int .i64 0] W (RPost W ((D.fallen keep).at 0)) from read_any h5 (Dk.fallen_ok HU.out.ok keep) rfl (by show 0 < 1000000000; decide) 0 (Dk.fallen_ok HU.out.ok keep).pos)
          have HBY := hide (at_byte (D.fallen keep) rfl (Dk.fallen_ok HU.out.ok keep))
          rw [show (D.fallen keep).dur = durK (fun k => keep.getD k false) D.dur D.pen (j - a) from by rw [← HPL.out]; rfl] at HBY
          obtain ⟨z, HZ⟩ : ∃ z : Nat, Hid ((w0 (durK (fun k => keep.getD k false) D.dur D.pen (j - a))).toNat = z) := ⟨_, hide rfl⟩
          rw [HZ.out] at HBY ⊢
          clear KP KR haj hji hjl hai
          go_upto_region 22 with fail
          clear hjli hsi
          go_upto_region 24 with (first
            | (go_at_call 13; (with_reducible refine HKP.out.mono ?_); rintro e w6 ⟨rfl, rfl⟩)
            | (go_at_call 16; (with_reducible refine HKR.out.mono ?_); rintro e w7 ⟨A7, d7, rfl, hd7, hf7, hn7⟩; have H7 := hide hd7; have X7 := hide (Dfr.grown HX.out HD.out hf7); clear hd7 hf7 hn7))
          go_upto_region 25 with (go_at_call 18; (with_reducible refine (KD.out _ _ _ H7.out).mono ?_); rintro e w8 ⟨h8, rfl, hr8, -, hx8⟩)
          have ca := hr8.cell HBY.out
          have X8 := hide (X7.out.trans hx8)
          clear hr8 hx8
          go_wp2
          go_ret
          exact Ret.mk (X1.out.trans X8.out) rfl
end Go.Proofs.Ytgpkblpnccokfaa

/-
  The walk of DiskLasts.
-/
import Derived.Test.YtgpkblpnccokfaaDskL
import Derived.Deep.QuietTactic
import Derived.BigQuiet
namespace Go.Proofs.Ytgpkblpnccokfaa
open Go.RowKit

theorem lasts_first {B g gd gn c : Nat} {w : World} {A : Option Addr} {f : List UInt8} (h : DiskAt B w g gd gn A c ((D0 1).more 0 f)) (hf : f.length = 512) (hB : B ≤ w.heap.size) :
    Calls Try.prog 22 #[.pointer (some ⟨g, 0, none⟩)] w (DPost B g gd gn w A (.int .i64 0) (((D0 1).more 0 f).op.settled fun _ => true)) :=
  sync_any h (Dk.more_ok (D0_ok 1 (by decide) (by decide)) (k := 0) (by rw [D0_len]; decide) hf) rfl (by show (0 : Nat) ≠ 1; decide) (by show 0 < 1000000000; decide) (by show 1 < 1000000; decide) (by show 1 < 1000000; decide) hB
theorem way_first {f : List UInt8} (hf : f.length = 512) (t : Nat) (ht : t < 30) : Way { ((D0 1).more 0 f).op.settled (fun _ => true) with arm := t } f [] :=
  ⟨⟨by show 1 ≤ 1; decide, by show 1 ≤ 4096; decide, fun s hs => by
    have e : s ∈ [f] := hs
    rw [List.mem_singleton.1 e]; exact hf, fun x hx => by cases hx⟩, rfl, rfl, ht, by show 2 ≤ 2 + 0; decide⟩
theorem str_any {w : World} {A : Option Addr} {l : List UInt8} (h : Rd w A l) (n c : Nat) (hn : l.length = n) : (convert 32 9 (.slice A n c)).run Try.prog w = .ok (.string ⟨l.toArray⟩) w := by
  subst hn
  exact Rd.str (P := Try.prog) (w := w) h 32 9 5 c Try.underlying32 Try.underlying5 Try.underlying9
theorem OwnT.fresh (w : World) (B : Nat) (hB : B ≤ w.heap.size) (l : List UInt8) : OwnT (w.alloc (.cells #[.string ⟨l.toArray⟩] 9)) B (.slice (some ⟨w.heap.size, 0, none⟩) 1 1) [l] :=
  ⟨rfl, .inr ⟨w.heap.size, 1, #[.string ⟨l.toArray⟩], rfl, hB, heap_alloc_new w _, Nat.le_refl _, by unfold maxLen; decide, rfl, rfl⟩⟩
section
variable {B g gd gn c q : Nat} {w : World} {A : Option Addr} {D : Dk}
theorem write_armed (h : DiskAt B w g gd gn A c D) (ok : D.Ok) (hoff : D.off = false) (hf : D.pen.length < 1000000) (ho : D.ops < 1000000) (ha : D.arm < 1000000000) (l : List UInt8) (hq : Rw w q 5 (bs (fullS l))) (hB : B ≤ w.heap.size) :
    Calls Try.prog 21 #[.pointer (some ⟨g, 0, none⟩), .int .i64 0, .slice (some ⟨q, 0, none⟩) 512 512] w (DPost B g gd gn w A (.int .i64 (D.put 0 (fullS l)).opE) (D.put 0 (fullS l)).op) :=
  write_any (d := 512) h ok hoff hf ho ha 0 ok.pos (fullS l) (fullS_length l) (Rd.of_rw hq) hB
theorem on_yes (h : DiskAt B w g gd gn A c D) (hoff : D.off = false) : Calls Try.prog 15 #[.pointer (some ⟨g, 0, none⟩)] w (Same w (.bool true)) := by
  have := on_any h
  rw [hoff] at this
  exact this
theorem on_no (h : DiskAt B w g gd gn A c D) (hoff : D.off = true) : Calls Try.prog 15 #[.pointer (some ⟨g, 0, none⟩)] w (Same w (.bool false)) := by
  have := on_any h
  rw [hoff] at this
  exact this
theorem pend_fallen {keep : List Bool} (h : DiskAt B w g gd gn A c (D.fallen keep)) : Calls Try.prog 13 #[.pointer (some ⟨g, 0, none⟩)] w (Same w (.int .i64 0)) := pending_any h
end
set_option maxRecDepth 20000 in
set_option maxHeartbeats 3200000 in
theorem diskLasts_long (P P1 P3 : Option Addr) (c c1 c3 n q m : Nat) (s : Int) (w : World) (hm : 20 < m) :
    Calls Try.prog 5 #[.slice P n c, .slice P1 m c1, .int .u8 s, .slice P3 q c3] w (Ret w (Is (.bool true))) := by
  have KA := hide awake_any
  have hmi : (20 : Int) < (m : Int) := by omega
  go_enter Try.func5, Try.ntmps5
  go_upto_region 2 with (go_at_call 8; (with_reducible refine (KA.out _).mono ?_); rintro e w1 ⟨rfl, hx1⟩; have X1 := hide hx1; clear hx1)
  go_wp2_with (go_at_call 8; (with_reducible refine (KA.out _).mono ?_); rintro e w2 ⟨rfl, hx2⟩; have X2 := hide (X1.out.trans hx2); clear hx2)
  go_ret
  exact Ret.mk X2.out rfl
set_option maxRecDepth 20000 in
set_option maxHeartbeats 3200000 in
theorem diskLasts_walk (P P1 P3 : Option Addr) (c c1 c3 : Nat) (sure : List UInt8) (L : List (List UInt8)) (s : Nat) (hs : s < 256) (keep : List Bool) (w : World) (hP : Rd w P sure) (hP1 : RdL w P1 L) (hP3 : RdB w P3 keep) (hm : L.length ≤ 20) :
    Calls Try.prog 5 #[.slice P sure.length c, .slice P1 L.length c1, .int .u8 (s : Int), .slice P3 keep.length c3] w (Ret w (Is (.bool true))) := by
  have KA := hide awake_any
  have KN := hide new_one
  obtain ⟨n, HN⟩ : ∃ n, Hid (sure.length = n) := ⟨_, hide rfl⟩
  obtain ⟨m, HM⟩ : ∃ m, Hid (L.length = m) := ⟨_, hide rfl⟩
  obtain ⟨q, HQ⟩ : ∃ q, Hid (keep.length = q) := ⟨_, hide rfl⟩
  rw [HN.out, HM.out, HQ.out]
  rw [HM.out] at hm
  obtain ⟨f, HF⟩ : ∃ f, Hid (fullS sure = f) := ⟨_, hide rfl⟩
  have LF : Hid (f.length = 512) := hide (by rw [← HF.out]; exact fullS_length sure)
  have HP1 := hide hP1
  have HP3 := hide hP3
  have KF : Hid (∀ W, Ext w W → Calls Try.prog 20 #[.slice P n c] W (FPost W f)) := hide fun W hW => by
    have := full_at (c := c) HN.out (hP.ext hW)
    rw [HF.out] at this
    exact this
  obtain ⟨t, HT⟩ : ∃ t : Nat, Hid ((s : Int) % 30 = (t : Int)) := ⟨s % 30, hide (by omega)⟩
  have HT30 : Hid (t < 30) := hide (by have := HT.out; omega)
  have hsi : (s : Int) < 256 := by omega
  have hmi : ¬ (20 : Int) < (m : Int) := by omega
  have HM20 := hide hm
  clear hP hP1 hP3 hs hm
  go_enter Try.func5, Try.ntmps5
  go_upto_region 4 with (first
    | (go_at_call 8; (with_reducible refine (KA.out _).mono ?_); rintro e w1 ⟨rfl, hx1⟩; have X1 := hide hx1; clear hx1)
    | (go_at_call 9; (with_reducible refine (KN.out _).mono ?_); rintro e w2 ⟨g, gd, gn, rfl, hd2, hx2⟩; have H2 := hide hd2; have X2 := hide hx2; clear hd2 hx2))
  go_upto_region 6 with (first
    | (go_at_call 20; (with_reducible refine (KF.out _ (X1.out.trans X2.out)).mono ?_); rintro e w3 ⟨hq, rfl, hr3, hg3, hx3⟩;
       have R3 := hide hr3; have X3 := hide (X2.out.trans hx3); have H3 := hide (H2.out.ext hx3); clear hr3 hg3 hx3)
    | (go_at_call 21;
       have KW := write_zero (q := hq) H3.out (D0_ok 1 (by decide) (by decide)) rfl rfl (by show 0 < 1000000; decide) (by show 0 < 1000000; decide) (by rw [D0_len]; decide) f LF.out R3.out X3.out.size;
       (with_reducible refine KW.mono ?_); clear KW;
       rintro e w4 ⟨A4, d4, rfl, hd4, hf4, hn4⟩;
       have H4 := hide hd4; have X4 := hide (Dfr.grown X3.out H3.out hf4); clear hd4 hf4 hn4)
    | (go_at_call 22;
       have KW := lasts_first H4.out LF.out X4.out.size;
       (with_reducible refine KW.mono ?_); clear KW;
       rintro e w5 ⟨A5, d5, rfl, hd5, hf5, hn5⟩;
       have H5 := hide hd5; have X5 := hide (Dfr.grown X4.out H4.out hf5); clear hd5 hf5 hn5)
    | (go_at_call 23;
       have KW := arm_any H5.out t;
       rw [← HT.out] at KW;
       (with_reducible refine KW.mono ?_); clear KW;
       rintro e w6 ⟨A6, d6, rfl, hd6, hf6, hn6⟩;
       have H6 := hide hd6; have X6 := hide (Dfr.grown X5.out H5.out hf6); clear hd6 hf6 hn6))
  have H7 : Hid (DiskAt w1.heap.size w6 g gd gn A6 d6 { ((D0 1).more 0 f).op.settled (fun _ => true) with arm := t }) := hide H6.out
  have W7 := hide (way_first LF.out t HT30.out)
  obtain ⟨D7, hD7⟩ : ∃ D7, D7 = { ((D0 1).more 0 f).op.settled (fun _ => true) with arm := t } := ⟨_, rfl⟩
  rw [← hD7] at H7 W7
  clear hD7 H6 H5 X5 H4 X4 H3 X3 R3 X2 H2 KN hsi HT30
  go_wp2_with (first
    | (go_at_call 20; (with_reducible refine (KF.out _ (X1.out.trans X6.out)).mono ?_); rintro e w8 ⟨h8, rfl, hr8, hg8, hx8⟩;
       have R8 := hide hr8; have X8 := hide (X6.out.trans hx8); have H8 := hide (H7.out.ext hx8); clear hr8 hg8 hx8)
    | (refine wpList_str rfl (.tmp 48) rfl f ⟨some ⟨h8, 0, none⟩, 512, by rw [LF.out]; rfl, by rw [LF.out]; exact Nat.le_refl _, Rd.of_rw R8.out⟩ ?_))
  have O8 := hide (OwnT.fresh w8 w1.heap.size X8.out.size f)
  have X9 : Hid (Ext w1 (w8.alloc (.cells #[.string ⟨f.toArray⟩] 9))) := hide (X8.out.trans (Ext.alloc _ _))
  have H9 : Hid (DiskAt w1.heap.size (w8.alloc (.cells #[.string ⟨f.toArray⟩] 9)) g gd gn A6 d6 D7) := hide (H8.out.ext (Ext.alloc _ _))
  clear KF R8 X8 H8 X6 H7 HT
  go_loopw [11, 12] (fun mv iv wr => ∃ (i : Nat) (A : Option Addr) (d : Nat) (D : Dk) (E : Option Addr) (e : Nat), i ≤ m ∧ mv = .slice E (i + 1) e ∧ iv = .int .i64 (i : Int) ∧ Hid (DiskAt w1.heap.size wr g gd gn A d D) ∧ Hid (Way D f (L.take i)) ∧ Hid (OwnT wr w1.heap.size (.slice E (i + 1) e) (f :: (L.take i).map fullS)) ∧ Hid (Ext w1 wr)) (fun _ iv _ => m - (intOf iv).toNat)
  case atStart => exact ⟨0, A6, d6, D7, _, _, Nat.zero_le _, rfl, rfl, H9, W7, O8, X9⟩
  case round =>
    obtain ⟨i, A, d, D, E, e, him, rfl, rfl, HD, HW, HO, HX⟩ := hrel
    clear H9 W7 O8 X9
    have hm20 := HM20.out
    by_cases hgo : i < m ∧ D.off = false
    · obtain ⟨hlt, hoff⟩ := hgo
      have HOFF := hide hoff
      have hli : (i : Int) < (m : Int) := by omega
      have hi0 : (0 : Int) ≤ (i : Int) := by omega
      have hi20 : (i : Int) < 20 := by omega
      obtain ⟨l, hl⟩ : ∃ l, L[i]? = some l := ⟨_, List.getElem?_eq_getElem (by rw [HM.out]; exact hlt)⟩
      obtain ⟨b, off, rfl, hq⟩ := HP1.out (by intro h; rw [h] at hl; cases hl)
      obtain ⟨B, cb, hcl, hrl⟩ := hq i l hl
      obtain ⟨li, HLI⟩ : ∃ li, Hid (l.length = li) := ⟨_, hide rfl⟩
      rw [HLI.out] at hcl
      have HCW := hide hcl
      have HRL := hide hrl
      replace hcl := (X1.out.trans HX.out).keeps.cell hcl
      have HTK : Hid (L.take (i + 1) = L.take i ++ [l]) := hide (by rw [List.take_add_one, hl]; rfl)
      have HIL : Hid ((L.take i).length = i) := hide (by rw [List.length_take, HM.out]; omega)
      clear hq hl hrl hoff
      go_upto_region 12 with (first
        | (go_at_call 15; (with_reducible refine (on_yes HD.out HOFF.out).mono ?_); rintro e w2 ⟨rfl, rfl⟩)
        | (go_at_call 20; have KFL := full_at (c := cb) HLI.out (HRL.out.ext (X1.out.trans HX.out)); (with_reducible refine KFL.mono ?_); clear KFL; rintro e w3 ⟨h3, rfl, hr3, hg3, hx3⟩;
           have R3 := hide hr3; have X3 := hide hx3; clear hr3 hg3 hx3)
        | (go_at_call 21;
           have KW := write_armed (q := h3) (HD.out.ext X3.out) HW.out.ok HOFF.out (by rw [HW.out.pen, List.length_map, HIL.out]; omega) (by have := HW.out.ops; rw [HIL.out] at this; omega) (by have := HW.out.arm; omega) l R3.out (HX.out.trans X3.out).size;
           (with_reducible refine KW.mono ?_); clear KW;
           rintro e w4 ⟨A4, d4, rfl, hd4, hf4, hn4⟩;
           have H4 := hide hd4; have F4 := hide hf4; have X4 := hide (Dfr.grown (HX.out.trans X3.out) (HD.out.ext X3.out) hf4); clear hd4 hf4 hn4))
      have O4 : Hid (OwnT w4 w1.heap.size (.slice E (i + 1) e) (f :: (L.take i).map fullS)) := hide (OwnT.disk (HO.out.ext X3.out) (HD.out.ext X3.out) F4.out)
      replace hcl := (X1.out.trans X4.out).keeps.cell HCW.out
      have H4W : Hid (Way (D.put 0 (fullS l)).op f (L.take (i + 1))) := hide (by rw [HTK.out]; exact HW.out.put l)
      obtain ⟨D4, hD4⟩ : ∃ D4, D4 = (D.put 0 (fullS l)).op := ⟨_, rfl⟩
      rw [← hD4] at H4 H4W
      obtain ⟨p, HPP⟩ : ∃ p, Hid (fullS l = p) := ⟨_, hide rfl⟩
      have HPL : Hid (p.length = 512) := hide (by rw [← HPP.out]; exact fullS_length l)
      have HIL1 : Hid (((f :: (L.take i).map fullS)).length = i + 1) := hide (by rw [List.length_cons, List.length_map, HIL.out])
      have HTK2 : Hid ((f :: (L.take i).map fullS) ++ [p] = f :: (L.take (i + 1)).map fullS) := hide (by rw [HTK.out, List.map_append, ← HPP.out]; rfl)
      obtain ⟨ms, HMS⟩ : ∃ ms, Hid ((f :: (L.take i).map fullS) = ms) := ⟨_, hide rfl⟩
      rw [HMS.out] at O4 HIL1 HTK2
      clear HX HO HD HW X3 R3 F4 hD4 HTK HIL HMS
      go_wp2_with (first
        | (go_at_call 20; have KFL := full_at (c := cb) HLI.out (HRL.out.ext (X1.out.trans X4.out)); rw [HPP.out] at KFL; (with_reducible refine KFL.mono ?_); clear KFL; rintro e w5 ⟨h5, rfl, hr5, hg5, hx5⟩;
           have R5 := hide hr5; have X5 := hide (X4.out.trans hx5); have H5 := hide (H4.out.ext hx5); have O5 := hide (O4.out.ext hx5); clear hr5 hg5 hx5)
        | (refine wpList_str rfl (.tmp 72) rfl p ⟨some ⟨h5, 0, none⟩, 512, by rw [HPL.out]; rfl, by rw [HPL.out]; exact Nat.le_refl _, Rd.of_rw R5.out⟩ ?_)
        | (at_builtin; refine wpList_pushG rfl (.tmp 67) (.tmp 74) rfl w1.heap.size _ ms ⟨p.toArray⟩ rfl rfl O5.out X5.out.size (by rw [HIL1.out]; omega) ?_; intro v6 w6 hown6 hgr6;
           have H6 := hide (H5.out.pushed O5.out hgr6); have X6 := hide (grown_ext X5.out O5.out hgr6);
           have O6 : Hid (OwnT w6 w1.heap.size v6 (ms ++ [p])) := hide hown6;
           obtain ⟨C6, e6, hv6, -, -⟩ := OwnT.txs hown6; rw [List.length_append, HIL1.out] at hv6; subst hv6; clear hown6 hgr6))
      rw [HTK2.out] at O6
      refine ⟨⟨i + 1, A4, d4, D4, C6, e6, by omega, rfl, by go_num, H6, H4W, O6, X6⟩, by simp [intOf]; omega⟩
    · obtain ⟨x, HXA, HXM, HXL⟩ := HW.out.fallen keep
      have XA := hide HXA
      have XM := hide HXM
      have XL := hide HXL
      have HPEN : Hid (D.pen.length < 1000000) := hide (by rw [HW.out.pen, List.length_map, List.length_take]; omega)
      have KR := restart_any (ck := c3) HD.out HW.out.ok HPEN.out HX.out.size keep (P := P3) (fun W hW => HP3.out.ext (X1.out.trans (Dfr.grown HX.out HD.out hW)))
      rw [HQ.out] at KR
      have HKR := hide KR
      have OKF := hide (Dk.fallen_ok HW.out.ok keep)
      obtain ⟨ms, HMS⟩ : ∃ ms, Hid ((f :: (L.take i).map fullS) = ms) := ⟨_, hide rfl⟩
      have HML : Hid (ms.length = i + 1) := hide (by rw [← HMS.out, List.length_cons, List.length_map, List.length_take, HM.out]; omega)
      rw [HMS.out] at HO XM
      clear KR HXA HXM HXL HW HPEN HMS
      have hend : ∀ (b : Bool), D.off = b → (b = true ∨ ¬ i < m) := fun b hb => by
        cases b
        · right; intro h; exact hgo ⟨h, hb⟩
        · left; rfl
      have HI20 : Hid (i ≤ 20) := hide (by omega)
      by_cases hlt : i < m
      all_goals first
        | (have hli : ¬ (i : Int) < (m : Int) := by omega
           clear hend hgo
           go_upto_region 13 with fail)
        | (have hli : (i : Int) < (m : Int) := by omega
           have HOFF : Hid (D.off = true) := hide (by
             cases hb : D.off
             · exact absurd ⟨hlt, hb⟩ hgo
             · rfl)
           clear hend hgo
           go_upto_region 13 with (go_at_call 15; (with_reducible refine (on_no HD.out HOFF.out).mono ?_); rintro e w2 ⟨rfl, rfl⟩))
      all_goals
        clear hlt hli him hm20 hmi
        go_upto_region 15 with (go_at_call 16; (with_reducible refine HKR.out.mono ?_); rintro e w7 ⟨A7, d7, rfl, hd7, hf7, hn7⟩; have H7 := hide hd7; have F7 := hide hf7; have X7 := hide (Dfr.grown HX.out HD.out hf7); clear hd7 hf7 hn7)
        have O7 := hide (OwnT.disk HO.out HD.out F7.out)
        have KRD := hide (read_D XA.out OKF.out rfl (by show 0 < 1000000000; decide) H7.out)
        clear HO HD F7 HX HKR XA
        go_upto_region 16 with (go_at_call 18; (with_reducible refine KRD.out.mono ?_); rintro e w8 ⟨h8, rfl, hr8, hg8, hx8⟩; have R8 := hide hr8; have X8 := hide (X7.out.trans hx8); have H8 := hide (H7.out.ext hx8); have O8 := hide (O7.out.ext hx8); clear hr8 hg8 hx8)
        clear KRD H7 O7 X7
        go_wp2
        go_loopw [15, 16] (fun ov jv wr2 => ∃ j : Nat, j ≤ i + 1 ∧ ov = .bool ((ms.take j).any (· == x)) ∧ jv = .int .i64 (j : Int) ∧ Hid (Ext w8 wr2)) (fun _ jv _ => i + 1 - (intOf jv).toNat)
        case atStart => exact ⟨0, Nat.zero_le _, rfl, rfl, hide (Ext.refl _)⟩
        case round =>
          obtain ⟨j, hji, rfl, rfl, HY⟩ := hrel
          have hi20 := HI20.out
          by_cases hlt : j < i + 1
          · have hjl : (j : Int) < (i : Int) + 1 := by omega
            have hj0 : (0 : Int) ≤ (j : Int) := by omega
            obtain ⟨y, hy⟩ : ∃ y, ms[j]? = some y := ⟨_, List.getElem?_eq_getElem (by rw [HML.out]; exact hlt)⟩
            have HAN : Hid ((ms.take (j + 1)).any (· == x) = ((ms.take j).any (· == x) || y == x)) := hide (by rw [List.take_add_one, hy]; simp)
            obtain ⟨A8, c8, hv8, -, hr8⟩ := OwnT.txs (O8.out.ext HY.out)
            injection hv8 with hA8 hc8 hd8
            subst hA8
            obtain ⟨eb, eo, rfl, hce⟩ := hr8.at (tvs_get ms j y hy)
            have hcv := fun (q : Nat) => str_any (w := wr.drewN q) (A := some ⟨h8, 0, none⟩) ((Rd.of_rw (R8.out.ext HY.out)).drewN q) 512 512 XL.out
            have hcv0 := str_any (w := wr) (A := some ⟨h8, 0, none⟩) (Rd.of_rw (R8.out.ext HY.out)) 512 512 XL.out
            clear hr8 hy hc8 hd8
            cases hb : (ms.take j).any (· == x) with
            | true =>
              rw [hb] at HAN
              have HAN2 : Hid ((ms.take (j + 1)).any (· == x) = true) := hide (by rw [HAN.out]; rfl)
              clear hb HAN hcv hcv0 hce
              go_wp2
              go_quiet (fail)
              go_wp2
              refine ⟨⟨j + 1, by omega, by rw [HAN2.out], by go_num, hide (HY.out.trans ((Ext.refl _).drewN _))⟩, by simp [intOf]; omega⟩
            | false =>
              rw [hb] at HAN
              clear hb
              go_wp2
              go_quiet (fail)
              go_wp2
              refine ⟨⟨j + 1, by omega, by rw [HAN.out, Bool.false_or], by go_num, hide (HY.out.trans ((Ext.refl _).drewN _))⟩, by simp [intOf]; omega⟩
          · have hjl : ¬ (j : Int) < (i : Int) + 1 := by omega
            have HAT : Hid ((ms.take j).any (· == x) = true) := hide (by
              rw [List.take_of_length_le (by rw [HML.out]; omega), List.any_eq_true]
              exact ⟨x, XM.out, by simp⟩)
            rw [HAT.out]
            have HPF := hide (pend_fallen (H8.out.ext HY.out))
            have HON := hide (on_yes (H8.out.ext HY.out) rfl)
            clear hji hlt hi20
            go_wp2_with (first
              | (go_at_call 13; (with_reducible refine HPF.out.mono ?_); rintro e w9 ⟨rfl, rfl⟩)
              | (go_at_call 15; (with_reducible refine HON.out.mono ?_); rintro e w9 ⟨rfl, rfl⟩))
            go_ret
            exact Ret.mk (X1.out.trans (X8.out.trans HY.out)) rfl
theorem diskLasts_all (P P1 P3 : Option Addr) (c c1 c3 : Nat) (sure : List UInt8) (L : List (List UInt8)) (s : Int) (hs : 0 ≤ s ∧ s ≤ 255) (keep : List Bool) (w : World) (hP : Rd w P sure) (hP1 : RdL w P1 L) (hP3 : RdB w P3 keep) :
    Calls Try.prog 5 #[.slice P sure.length c, .slice P1 L.length c1, .int .u8 s, .slice P3 keep.length c3] w (Ret w (Is (.bool true))) := by
  rcases Nat.lt_or_ge 20 L.length with h | h
  · exact diskLasts_long P P1 P3 c c1 c3 _ _ _ s w h
  · have := diskLasts_walk P P1 P3 c c1 c3 sure L s.toNat (by omega) keep w hP hP1 hP3 h
    rw [Int.toNat_of_nonneg hs.1] at this
    exact this
end Go.Proofs.Ytgpkblpnccokfaa

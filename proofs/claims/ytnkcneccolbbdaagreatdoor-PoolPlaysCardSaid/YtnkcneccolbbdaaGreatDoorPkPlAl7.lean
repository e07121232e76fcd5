/-
  A page is put on its way to the disk, behind all its records: store.
  Room for a page more: makeRoom.
  A page is brought into memory: page.
  The pool's Pin, Unpin, Read, Write.
  A new pool; the laws' fresh world.
  A new log that only has got records: what is held and how much room there is.
-/
import Derived.Test.YtnkcneccolbbdaaGreatDoorPkPlAl5
import Derived.Test.YtnkcneccolbbdaaGreatDoorPkPlAl6
set_option linter.unusedVariables false
set_option linter.unusedSimpArgs false

namespace Go.Proofs.YtnkcneccolbbdaaGreatDoor
open Go.RowKit

section
variable {w0 w : World} {Z : Pk} {D : Dk} {L : Lg} {P : Pl}
def StPost (w0 w : World) (Z : Pk) (P : Pl) (r : Int × St) (e : Ending) (w' : World) : Prop := ∃ Z', e = .returned (.int .i64 r.1) ∧ PlAt w0 w' Z' r.2.D r.2.L r.2.P ∧ Pfr Z P w w' ∧ Z'.Later P Z P w ∧ Z'.fb = Z.fb
set_option maxRecDepth 20000 in
set_option maxHeartbeats 6400000 in
theorem store_any {c i : Nat} {f : Fm} (h : PlAt w0 w Z D L P) (ft : St.Fit ⟨D, L, P⟩ c) (hc : c ≤ 400000) (hf : P.H i = some f) (hT : Tab w0) :
    Calls Tryz.prog 31 #[.pointer (some ⟨Z.q, 0, none⟩), .int .i64 (i : Int)] w (StPost w0 w Z P (storeR ⟨D, L, P⟩ i f)) := by
  have H := hide h
  have FT := hide ft
  have HF := hide hf
  have HT := hide hT
  have HC := hide hc
  obtain ⟨hip, hfo⟩ := ft.pool.page i f hf
  have FO := hide hfo
  have HIP := hide hip
  obtain ⟨-, g5, -⟩ := fr_get hfo.by_
  have hi5 : i < 100000 := by
    have h1 : i < P.pages := hip
    have h2 := ft.pool.at_
    have h3 := ft.pool.max
    have h4 : P.at_ + P.pages ≤ D.dur.length := h2
    have h5 : D.dur.length ≤ 4096 := h3
    omega
  have HI5 := hide hi5
  obtain ⟨v, ps, hlk, hv⟩ := h.held.look (t := 71) (e := 81) Tryz.underlying71 (z := .pointer none) (by kernel_rfl) (zd := .lit (.int .i64 (-1))) (zp := []) rfl i hi5
  have hm : heldM Z P i = some (.lit (.int .i64 (Z.fb i : Int))) := by unfold heldM; rw [hf]; rfl
  rw [hm] at hv
  obtain rfl := ptrR_is hv
  obtain ⟨b, HBI⟩ : ∃ b, Hid (Z.fb i = b) := ⟨_, hide rfl⟩
  rw [HBI.out] at hlk
  have c1 := h.blk.cell (i := 1) rfl
  have c5 := h.blk.cell (i := 5) rfl
  have k505 := (h.fr i f hf).cell g5
  rw [HBI.out] at k505
  have KSU := hide (fun (W : World) (hW : Ext w W) => lsureN_any (h.log.ext_ hW))
  obtain ⟨hi, HHI⟩ : ∃ hi, Hid (f.hi = hi) := ⟨_, hide rfl⟩
  obtain ⟨su, HSU⟩ : ∃ su, Hid (L.sure = su) := ⟨_, hide rfl⟩
  obtain ⟨gq, HGQ⟩ : ∃ gq, Hid (Z.X.q = gq) := ⟨_, hide rfl⟩
  rw [HHI.out] at k505
  rw [HSU.out, HGQ.out] at KSU
  rw [HGQ.out] at c1
  obtain ⟨sb, HSB⟩ : ∃ sb, Hid (secB f = sb) := ⟨_, hide rfl⟩
  have HSBL : Hid (sb.length = 512) := hide (by rw [← HSB.out]; exact secB_len hfo.by_)
  obtain ⟨s, HS⟩ : ∃ s : Int, Hid (((P.at_ + i : Nat) : Int) = s) := ⟨_, hide rfl⟩
  have HAP : Hid ((P.at_ : Int) + (i : Int) = s ∧ 0 ≤ s ∧ s < 100000) := hide (by
    have h2 : P.at_ + P.pages ≤ D.dur.length := ft.pool.at_
    have h5 : D.dur.length ≤ 4096 := ft.pool.max
    have h1 : i < P.pages := hip
    have := HS.out
    omega)
  obtain ⟨rr, HRR⟩ : ∃ rr, Hid (storeR ⟨D, L, P⟩ i f = rr) := ⟨_, hide rfl⟩
  rw [HRR.out]
  clear hip hfo g5 hi5 hv hm ft hc hf hT h
  go_enter Tryz.func31, Tryz.ntmps31
  go_upto_region 2 with fail
  go_quiet ((go_at_call 20; exact Calls.quiet_of (KSU.out _ ((Ext.refl _).drewN _))))
  by_cases hhs : su ≤ hi
  · have hhi : (su : Int) ≤ (hi : Int) := by omega
    obtain ⟨e1, HE1⟩ : ∃ e1, Hid (flE D L = e1) := ⟨_, hide rfl⟩
    obtain ⟨D1, HD1⟩ : ∃ D1, Hid (flD D L = D1) := ⟨_, hide rfl⟩
    obtain ⟨L1, HL1⟩ : ∃ L1, Hid (flL D L = L1) := ⟨_, hide rfl⟩
    have HAH0 : Hid (aheadR ⟨D, L, P⟩ f = (e1, ⟨D1, L1, P⟩)) := hide (by unfold aheadR; rw [if_pos (by show L.sure ≤ f.hi; rw [HSU.out, HHI.out]; exact hhs), ← HE1.out, ← HD1.out, ← HL1.out])
    have FT1 : Hid (St.Fit ⟨D1, L1, P⟩ (c + L.hd.cn + 2)) := hide (by
      have h1 := (aheadR_fit (f := f) FT.out HC.out).1
      rw [HAH0.out] at h1
      exact h1)
    obtain ⟨wq, HWQ⟩ : ∃ wq, Hid (w.drewN nq = wq) := ⟨_, hide rfl⟩
    have HXQ : Hid (Ext w wq) := hide (by rw [← HWQ.out]; exact (Ext.refl _).drewN _)
    rw [HWQ.out]
    have c1q := (H.out.ext_ HXQ.out).blk.cell (i := 1) rfl
    rw [HGQ.out] at c1q
    have KFL : Hid (Calls Tryz.prog 26 #[.pointer (some ⟨gq, 0, none⟩)] wq (LPost w0 wq Z.X (.int .i64 e1) D1 L1)) := hide (by
      have h1 := FT.out.pen
      have h2 := FT.out.ops
      have h3 := FT.out.tail
      have h4 := FT.out.log.cn
      have h5 := HC.out
      have k1 := flush_any (H.out.ext_ HXQ.out).log FT.out.log FT.out.bd (by show D.pen.length < 500000; have h1 : D.pen.length ≤ c := h1; omega) (by show D.ops < 500000; have h2 : D.ops ≤ c := h2; omega) (by show L.tail.length < 100000000; have h3 : L.tail.length ≤ 480 * L.hd.cn := h3; have h4 : 4 ≤ L.hd.cn ∧ L.hd.cn ≤ 4096 := h4; omega) HT.out
      rw [HGQ.out, HE1.out, HD1.out, HL1.out] at k1
      exact k1)
    clear hhs c1 c5 k505
    by_cases he1 : e1 = 0
    · subst he1
      have HAH : Hid (aheadR ⟨D, L, P⟩ f = (0, ⟨D1, L1, P⟩)) := HAH0
      go_upto_region 6 with (go_at_call 26; (with_reducible refine KFL.out.mono ?_); rintro e wv hp1; have HP1 := hide ((H.out.ext_ HXQ.out).of_logE hp1); obtain ⟨X1', rfl, -⟩ := hp1)
      obtain ⟨Z1, -, hq1, hfb1, hpl1, hpf1, hpn1⟩ := HP1.out
      have HQ1 := hide hq1
      have HFB1 := hide hfb1
      have HV := hide hpl1
      have HPF1 : Hid (Pfr Z P w wv) := hide ((Pfr.ext HXQ.out).trans hpf1 (Pk.Later.refl _ _ _))
      have HPN1 : Hid (Z1.Later P Z P w) := hide (hpn1.up HXQ.out.size)
      clear hq1 hfb1 hpl1 hpf1 hpn1 HP1 c1q hhi
      have k0 := HV.out.blk.cell (i := 0) rfl
      have k2 := HV.out.blk.cell (i := 2) rfl
      rw [HQ1.out] at k0 k2
      obtain ⟨gd0, HGD⟩ : ∃ gd0, Hid (Z1.X.g = gd0) := ⟨_, hide rfl⟩
      rw [HGD.out] at k0
      obtain ⟨at0, HAT⟩ : ∃ at0, Hid (P.at_ = at0) := ⟨_, hide rfl⟩
      rw [HAT.out] at k2
      have hsw : IntKind.i64.wrap ((at0 : Int) + (i : Int)) = s := by rw [IntKind.wrap_i64]; have h1 := HAP.out; rw [HAT.out] at h1; omega
      have KSE : Hid (∀ W, Ext wv W → Calls Tryz.prog 60 #[.pointer (some ⟨b, 0, none⟩)] W (fun e w' => ∃ A c, e = .returned (.slice A 512 c) ∧ Rd w' A sb ∧ Ext W w')) := hide (fun W hW => by
        have hr := (HV.out.fr i f HF.out).ext hW
        rw [HFB1.out, HBI.out] at hr
        refine (fsector_any b f FO.out.by_ FO.out.last hr).mono fun e w' hh => ?_
        obtain ⟨v, he, hx, A, c, hv, hcc, hrd⟩ := hh
        rw [HSB.out] at hv hrd
        rw [HSBL.out] at hv
        exact ⟨A, c, by rw [he, hv], hrd, hx⟩)
      obtain ⟨e2, HE2⟩ : ∃ e2, Hid (wE D1 s sb = e2) := ⟨_, hide rfl⟩
      obtain ⟨D2, HD2⟩ : ∃ D2, Hid (wD D1 s sb = D2) := ⟨_, hide rfl⟩
      have HPUT : Hid (putR ⟨D1, L1, P⟩ i f = (e2, ⟨D2, L1, P⟩)) := hide (by unfold putR; rw [HS.out, HSB.out, ← HE2.out, ← HD2.out])
      have KWR : Hid (∀ W, Ext wv W → ∀ A c, Rd W A sb → Calls Tryz.prog 59 #[.pointer (some ⟨gd0, 0, none⟩), .int .i64 s, .slice A 512 c] W (DPost w0.heap.size Z1.X.g Z1.X.gd Z1.X.gn W Z1.X.A (.int .i64 e2) D2)) := hide (fun W hW A c hr => by
        have k1 := write_uni (Pp := A) (d := c) (HV.out.log.disk.ext hW) FT1.out.bd (Nat.le_trans HV.out.log.ext.size hW.size) s sb 512 HSBL.out (by decide) hr
        rw [HGD.out, HE2.out, HD2.out] at k1
        rw [HGD.out]
        exact k1)
      clear hlk
      go_upto_region 6 with fail
      go_region_law (first
        | (go_simp; go_at_call 60; (with_reducible refine (KSE.out _ (Ext.drew _)).mono ?_); rintro e w2 ⟨A2, c2, rfl, hr2, hx2⟩; have HX2 : Hid (Ext wv w2) := hide ((Ext.drew _).trans hx2); have HR2 := hide hr2; have k0b := (HV.out.blk.ext HX2.out).cell (i := 0) rfl; have k2b := (HV.out.blk.ext HX2.out).cell (i := 2) rfl; rw [HQ1.out] at k0b k2b; rw [HGD.out] at k0b; rw [HAT.out] at k2b; clear hr2 hx2)
        | (go_simp; go_at_call 59; (with_reducible refine (KWR.out w2 HX2.out A2 c2 HR2.out).mono ?_); rintro e w3 hp3; have HP3 := hide ((HV.out.ext_ HX2.out).of_logE (LPost.of_disk (HV.out.ext_ HX2.out).log hp3)); obtain ⟨A3, c3, rfl, -⟩ := hp3))
      all_goals
        obtain ⟨Z3, -, hq3, hfb3, hpl3, hpf3, hpn3⟩ := HP3.out
        have HQ3 : Hid (Z3.q = Z.q) := hide (hq3.trans HQ1.out)
        have HFB3 : Hid (Z3.fb = Z.fb) := hide (hfb3.trans HFB1.out)
        have HL3 := hide hpl3
        have HPF3 : Hid (Pfr Z P w w3) := hide (HPF1.out.trans ((Pfr.ext HX2.out).trans hpf3 (Pk.Later.refl _ _ _)) HPN1.out)
        have HPN3 : Hid (Z3.Later P Z P w) := hide (HPN1.out.trans (hpn3.up HX2.out.size) HPF1.out.size)
        clear hq3 hfb3 hpl3 hpf3 hpn3 HP3 k0 k2 hsw k0b k2b
        by_cases he2 : e2 = 0
        · subst he2
          have KST := hide (psettle_any HL3.out)
          rw [HQ3.out] at KST
          obtain ⟨P4, HP4⟩ : ∃ P4, Hid (settleP L1 P = P4) := ⟨_, hide rfl⟩
          rw [HP4.out] at KST
          have HPH : Hid (P4.H = P.H) := hide (by rw [← HP4.out]; exact (settleP_is L1 P).1)
          have HRES : Hid (rr = (0, ⟨D2, L1, wayP P4 i f.since⟩)) := hide (by
            rw [← HRR.out]
            unfold storeR
            rw [HAH.out, if_neg (by exact fun hh => hh rfl)]
            simp only [HPUT.out]
            rw [if_neg (by exact fun hh => hh rfl), HP4.out])
          have HM4 : Hid (P4.m < 1000000) := hide (by
            have h1 := (settleP_is L1 P).2.2.2.2.2.2.1
            rw [HP4.out] at h1
            have h2 : P.m ≤ c := FT.out.wcnt
            have h3 := HC.out
            omega)
          go_upto_region 10 with (go_at_call 32; (with_reducible refine KST.out.mono ?_); rintro e w4 ⟨rfl, hl4, hf4⟩; have HL4 := hide hl4; have HPF4 : Hid (Pfr Z P w w4) := hide (HPF3.out.trans hf4 HPN3.out); clear hl4 hf4)
          have k6 := HL4.out.blk.cell (i := 6) rfl
          rw [HQ3.out] at k6
          obtain ⟨v6, ps6, hlk6, hv6⟩ := HL4.out.way.look_ok (t := 72) (e := 33) Tryz.underlying72 (z := .int .u64 0) (by kernel_rfl) (zd := .lit (.int .u64 0)) (zp := []) rfl i HI5.out
          clear hv6
          cases hW : P4.W i with
          | some sv =>
            have hsm : (wayM P4 i).isSome = true := by unfold wayM; rw [hW]; rfl
            rw [hsm] at hlk6
            have HRES2 : Hid (rr = (0, ⟨D2, L1, P4⟩)) := hide (by rw [HRES.out]; unfold wayP; rw [hW]; rfl)
            clear hW hsm
            go_wp2
            go_ret
            rw [HRES2.out]
            exact ⟨Z3, rfl, HL4.out, HPF4.out, HPN3.out, HFB3.out⟩
          | none =>
            have hsm : (wayM P4 i).isSome = false := by unfold wayM; rw [hW]; rfl
            rw [hsm] at hlk6
            have HRES2 : Hid (rr = (0, ⟨D2, L1, { P4 with W := upM P4.W i (some f.since), m := P4.m + 1 }⟩)) := hide (by rw [HRES.out]; unfold wayP; rw [hW]; rfl)
            go_upto_region 12 with fail
            have g507 := (fr_get FO.out.by_).2.2.2.1
            have HR4 : Hid (Rw w4 b 80 (frC f)) := hide (by
              have hh := HL4.out.fr i f (by rw [HPH.out]; exact HF.out)
              rw [HFB3.out, HBI.out] at hh
              exact hh)
            have k507 := HR4.out.cell g507
            obtain ⟨w5, hrun5, hm5, ht5⟩ := (HL4.out.ext_ (Ext.drew w4)).way.put (t := 72) (e := 33) Tryz.underlying72 i HI5.out HM4.out (val := .int .u64 (f.since : Int)) (d := .lit (.int .u64 (f.since : Int))) (ps := []) rfl
            rw [hsm] at hm5
            have HL5 := hide ((HL4.out.ext_ (Ext.drew w4)).wayIs (upM P4.W i (some f.since)) (P4.m + 1) ht5 (by
              have e1 : wayM { P4 with W := upM P4.W i (some f.since), m := P4.m + 1 } = upM (wayM P4) i (some (.lit (.int .u64 (f.since : Int)))) := by
                funext j
                unfold wayM
                by_cases e : j = i
                · subst e; simp [upM_same]
                · simp [upM_other _ _ e]
              rw [e1]
              exact hm5))
            have HPF5 : Hid (Pfr Z P w w5) := hide (HPF4.out.trans ((Pfr.ext (Ext.drew w4)).trans (Pfr.onMap ht5 (P := P) (Z := Z3) (.inr (.inr (.inr (.inl rfl))))) (Pk.Later.refl _ _ _)) HPN3.out)
            clear hW hsm hlk6 ht5 hm5 g507
            go_region
            go_wp2
            go_ret
            rw [HRES2.out]
            exact ⟨Z3, rfl, HL5.out, HPF5.out, HPN3.out, HFB3.out⟩
        · have hee : (e2 != 0) = true := by simpa using he2
          have HRES : Hid (rr = (e2, ⟨D2, L1, P⟩)) := hide (by
            rw [← HRR.out]
            unfold storeR
            rw [HAH.out, if_neg (by exact fun hh => hh rfl)]
            simp only [HPUT.out]
            rw [if_pos (by exact he2)])
          clear he2
          go_wp2
          go_ret
          rw [HRES.out]
          exact ⟨Z3, rfl, HL3.out, HPF3.out, HPN3.out, HFB3.out⟩
    · have hee : (e1 != 0) = true := by simpa using he1
      have HRES : Hid (rr = (e1, ⟨D1, L1, P⟩)) := hide (by
        rw [← HRR.out]
        unfold storeR
        rw [HAH0.out, if_pos (by exact he1)])
      clear he1 hlk
      go_wp2_with (go_at_call 26; (with_reducible refine KFL.out.mono ?_); rintro e wv hp1; have HP1 := hide ((H.out.ext_ HXQ.out).of_logE hp1); obtain ⟨X1', rfl, -⟩ := hp1)
      go_ret
      rw [HRES.out]
      obtain ⟨Z1, -, hq1, hfb1, hpl1, hpf1, hpn1⟩ := HP1.out
      exact ⟨Z1, rfl, hpl1, (Pfr.ext HXQ.out).trans hpf1 (Pk.Later.refl _ _ _), hpn1.up HXQ.out.size, hfb1⟩
  · have hhi : ¬ (su : Int) ≤ (hi : Int) := by omega
    obtain ⟨D1, HD1⟩ : ∃ D1, Hid (D = D1) := ⟨_, hide rfl⟩
    obtain ⟨L1, HL1⟩ : ∃ L1, Hid (L = L1) := ⟨_, hide rfl⟩
    have HAH : Hid (aheadR ⟨D, L, P⟩ f = (0, ⟨D1, L1, P⟩)) := hide (by unfold aheadR; rw [if_neg (by show ¬ L.sure ≤ f.hi; rw [HSU.out, HHI.out]; exact hhs), ← HD1.out, ← HL1.out])
    have FT1 : Hid (St.Fit ⟨D1, L1, P⟩ c) := hide (by rw [← HD1.out, ← HL1.out]; exact FT.out)
    obtain ⟨wv, HWQ⟩ : ∃ wv, Hid (w.drewN nq = wv) := ⟨_, hide rfl⟩
    have HXQ : Hid (Ext w wv) := hide (by rw [← HWQ.out]; exact (Ext.refl _).drewN _)
    rw [HWQ.out]
    obtain ⟨Z1, HZ1⟩ : ∃ Z1, Hid (Z = Z1) := ⟨_, hide rfl⟩
    have HV : Hid (PlAt w0 wv Z1 D1 L1 P) := hide (by rw [← HD1.out, ← HL1.out, ← HZ1.out]; exact H.out.ext_ HXQ.out)
    have HQ1 : Hid (Z1.q = Z.q) := hide (by rw [HZ1.out])
    have HFB1 : Hid (Z1.fb = Z.fb) := hide (by rw [HZ1.out])
    have HPF1 : Hid (Pfr Z P w wv) := hide (Pfr.ext HXQ.out)
    have HPN1 : Hid (Z1.Later P Z P w) := hide (by rw [← HZ1.out]; exact Pk.Later.refl _ _ _)
    clear hhs c1 c5 k505
    have k0 := HV.out.blk.cell (i := 0) rfl
    have k2 := HV.out.blk.cell (i := 2) rfl
    rw [HQ1.out] at k0 k2
    obtain ⟨gd0, HGD⟩ : ∃ gd0, Hid (Z1.X.g = gd0) := ⟨_, hide rfl⟩
    rw [HGD.out] at k0
    obtain ⟨at0, HAT⟩ : ∃ at0, Hid (P.at_ = at0) := ⟨_, hide rfl⟩
    rw [HAT.out] at k2
    have hsw : IntKind.i64.wrap ((at0 : Int) + (i : Int)) = s := by rw [IntKind.wrap_i64]; have h1 := HAP.out; rw [HAT.out] at h1; omega
    have KSE : Hid (∀ W, Ext wv W → Calls Tryz.prog 60 #[.pointer (some ⟨b, 0, none⟩)] W (fun e w' => ∃ A c, e = .returned (.slice A 512 c) ∧ Rd w' A sb ∧ Ext W w')) := hide (fun W hW => by
      have hr := (HV.out.fr i f HF.out).ext hW
      rw [HFB1.out, HBI.out] at hr
      refine (fsector_any b f FO.out.by_ FO.out.last hr).mono fun e w' hh => ?_
      obtain ⟨v, he, hx, A, c, hv, hcc, hrd⟩ := hh
      rw [HSB.out] at hv hrd
      rw [HSBL.out] at hv
      exact ⟨A, c, by rw [he, hv], hrd, hx⟩)
    obtain ⟨e2, HE2⟩ : ∃ e2, Hid (wE D1 s sb = e2) := ⟨_, hide rfl⟩
    obtain ⟨D2, HD2⟩ : ∃ D2, Hid (wD D1 s sb = D2) := ⟨_, hide rfl⟩
    have HPUT : Hid (putR ⟨D1, L1, P⟩ i f = (e2, ⟨D2, L1, P⟩)) := hide (by unfold putR; rw [HS.out, HSB.out, ← HE2.out, ← HD2.out])
    have KWR : Hid (∀ W, Ext wv W → ∀ A c, Rd W A sb → Calls Tryz.prog 59 #[.pointer (some ⟨gd0, 0, none⟩), .int .i64 s, .slice A 512 c] W (DPost w0.heap.size Z1.X.g Z1.X.gd Z1.X.gn W Z1.X.A (.int .i64 e2) D2)) := hide (fun W hW A c hr => by
      have k1 := write_uni (Pp := A) (d := c) (HV.out.log.disk.ext hW) FT1.out.bd (Nat.le_trans HV.out.log.ext.size hW.size) s sb 512 HSBL.out (by decide) hr
      rw [HGD.out, HE2.out, HD2.out] at k1
      rw [HGD.out]
      exact k1)
    clear hlk
    go_upto_region 6 with fail
    go_region_law (first
      | (go_simp; go_at_call 60; (with_reducible refine (KSE.out _ (Ext.drew _)).mono ?_); rintro e w2 ⟨A2, c2, rfl, hr2, hx2⟩; have HX2 : Hid (Ext wv w2) := hide ((Ext.drew _).trans hx2); have HR2 := hide hr2; have k0b := (HV.out.blk.ext HX2.out).cell (i := 0) rfl; have k2b := (HV.out.blk.ext HX2.out).cell (i := 2) rfl; rw [HQ1.out] at k0b k2b; rw [HGD.out] at k0b; rw [HAT.out] at k2b; clear hr2 hx2)
      | (go_simp; go_at_call 59; (with_reducible refine (KWR.out w2 HX2.out A2 c2 HR2.out).mono ?_); rintro e w3 hp3; have HP3 := hide ((HV.out.ext_ HX2.out).of_logE (LPost.of_disk (HV.out.ext_ HX2.out).log hp3)); obtain ⟨A3, c3, rfl, -⟩ := hp3))
    all_goals
      obtain ⟨Z3, -, hq3, hfb3, hpl3, hpf3, hpn3⟩ := HP3.out
      have HQ3 : Hid (Z3.q = Z.q) := hide (hq3.trans HQ1.out)
      have HFB3 : Hid (Z3.fb = Z.fb) := hide (hfb3.trans HFB1.out)
      have HL3 := hide hpl3
      have HPF3 : Hid (Pfr Z P w w3) := hide (HPF1.out.trans ((Pfr.ext HX2.out).trans hpf3 (Pk.Later.refl _ _ _)) HPN1.out)
      have HPN3 : Hid (Z3.Later P Z P w) := hide (HPN1.out.trans (hpn3.up HX2.out.size) HPF1.out.size)
      clear hq3 hfb3 hpl3 hpf3 hpn3 HP3 k0 k2 hsw k0b k2b
      by_cases he2 : e2 = 0
      · subst he2
        have KST := hide (psettle_any HL3.out)
        rw [HQ3.out] at KST
        obtain ⟨P4, HP4⟩ : ∃ P4, Hid (settleP L1 P = P4) := ⟨_, hide rfl⟩
        rw [HP4.out] at KST
        have HPH : Hid (P4.H = P.H) := hide (by rw [← HP4.out]; exact (settleP_is L1 P).1)
        have HRES : Hid (rr = (0, ⟨D2, L1, wayP P4 i f.since⟩)) := hide (by
          rw [← HRR.out]
          unfold storeR
          rw [HAH.out, if_neg (by exact fun hh => hh rfl)]
          simp only [HPUT.out]
          rw [if_neg (by exact fun hh => hh rfl), HP4.out])
        have HM4 : Hid (P4.m < 1000000) := hide (by
          have h1 := (settleP_is L1 P).2.2.2.2.2.2.1
          rw [HP4.out] at h1
          have h2 : P.m ≤ c := FT.out.wcnt
          have h3 := HC.out
          omega)
        go_upto_region 10 with (go_at_call 32; (with_reducible refine KST.out.mono ?_); rintro e w4 ⟨rfl, hl4, hf4⟩; have HL4 := hide hl4; have HPF4 : Hid (Pfr Z P w w4) := hide (HPF3.out.trans hf4 HPN3.out); clear hl4 hf4)
        have k6 := HL4.out.blk.cell (i := 6) rfl
        rw [HQ3.out] at k6
        obtain ⟨v6, ps6, hlk6, hv6⟩ := HL4.out.way.look_ok (t := 72) (e := 33) Tryz.underlying72 (z := .int .u64 0) (by kernel_rfl) (zd := .lit (.int .u64 0)) (zp := []) rfl i HI5.out
        clear hv6
        cases hW : P4.W i with
        | some sv =>
          have hsm : (wayM P4 i).isSome = true := by unfold wayM; rw [hW]; rfl
          rw [hsm] at hlk6
          have HRES2 : Hid (rr = (0, ⟨D2, L1, P4⟩)) := hide (by rw [HRES.out]; unfold wayP; rw [hW]; rfl)
          clear hW hsm
          go_wp2
          go_ret
          rw [HRES2.out]
          exact ⟨Z3, rfl, HL4.out, HPF4.out, HPN3.out, HFB3.out⟩
        | none =>
          have hsm : (wayM P4 i).isSome = false := by unfold wayM; rw [hW]; rfl
          rw [hsm] at hlk6
          have HRES2 : Hid (rr = (0, ⟨D2, L1, { P4 with W := upM P4.W i (some f.since), m := P4.m + 1 }⟩)) := hide (by rw [HRES.out]; unfold wayP; rw [hW]; rfl)
          go_upto_region 12 with fail
          have g507 := (fr_get FO.out.by_).2.2.2.1
          have HR4 : Hid (Rw w4 b 80 (frC f)) := hide (by
            have hh := HL4.out.fr i f (by rw [HPH.out]; exact HF.out)
            rw [HFB3.out, HBI.out] at hh
            exact hh)
          have k507 := HR4.out.cell g507
          obtain ⟨w5, hrun5, hm5, ht5⟩ := (HL4.out.ext_ (Ext.drew w4)).way.put (t := 72) (e := 33) Tryz.underlying72 i HI5.out HM4.out (val := .int .u64 (f.since : Int)) (d := .lit (.int .u64 (f.since : Int))) (ps := []) rfl
          rw [hsm] at hm5
          have HL5 := hide ((HL4.out.ext_ (Ext.drew w4)).wayIs (upM P4.W i (some f.since)) (P4.m + 1) ht5 (by
            have e1 : wayM { P4 with W := upM P4.W i (some f.since), m := P4.m + 1 } = upM (wayM P4) i (some (.lit (.int .u64 (f.since : Int)))) := by
              funext j
              unfold wayM
              by_cases e : j = i
              · subst e; simp [upM_same]
              · simp [upM_other _ _ e]
            rw [e1]
            exact hm5))
          have HPF5 : Hid (Pfr Z P w w5) := hide (HPF4.out.trans ((Pfr.ext (Ext.drew w4)).trans (Pfr.onMap ht5 (P := P) (Z := Z3) (.inr (.inr (.inr (.inl rfl))))) (Pk.Later.refl _ _ _)) HPN3.out)
          clear hW hsm hlk6 ht5 hm5 g507
          go_region
          go_wp2
          go_ret
          rw [HRES2.out]
          exact ⟨Z3, rfl, HL5.out, HPF5.out, HPN3.out, HFB3.out⟩
      · have hee : (e2 != 0) = true := by simpa using he2
        have HRES : Hid (rr = (e2, ⟨D2, L1, P⟩)) := hide (by
          rw [← HRR.out]
          unfold storeR
          rw [HAH.out, if_neg (by exact fun hh => hh rfl)]
          simp only [HPUT.out]
          rw [if_pos (by exact he2)])
        clear he2
        go_wp2
        go_ret
        rw [HRES.out]
        exact ⟨Z3, rfl, HL3.out, HPF3.out, HPN3.out, HFB3.out⟩
end
end Go.Proofs.YtnkcneccolbbdaaGreatDoor
namespace Go.Proofs.YtnkcneccolbbdaaGreatDoor
open Go.RowKit

theorem gives_del {P : Program} {o : Oper} {a : Act} {w : World} {R : Value → World → Prop} {x y : Operand} {t k : TypeId} {u z v : Value} {w' : World} (h : o.op = .call { callee := .builtin .delete, args := #[x, y], argTypes := #[t, k] }) (hx : a.eval x = u) (hy : a.eval y = z)
    (hrun : (Builtin.delete_ #[t, k] o.type #[u, z]).run P w = .ok v w') (hR : R v w') : gives P o a w R := by
  refine gives_of_run (w' := w') (v := v) ?_ hR
  unfold execOp
  simp only [h, resolve, invoke, builtin, Sem.run_bind, Sem.run_pure, Result.andThen_ok, List.map_toArray, List.map_cons, List.map_nil, hx, hy, hrun]
theorem Pk.Later.fewer {Z' Z : Pk} {P' P1 P : Pl} {w : World} (h : Z'.Later P1 Z P w) (hs : ∀ j g, P'.H j = some g → ∃ g', P1.H j = some g') : Z'.Later P' Z P w := ⟨h.q, h.hb, h.ob, h.X, fun k hk => h.has k (by
  rcases hk with hk | hk | hk | hk | ⟨j, g, hj, hk⟩
  · exact .inl hk
  · exact .inr (.inl hk)
  · exact .inr (.inr (.inl hk))
  · exact .inr (.inr (.inr (.inl hk)))
  · obtain ⟨g', hg⟩ := hs j g hj
    exact .inr (.inr (.inr (.inr ⟨j, g', hg, hk⟩))))⟩
section
variable {w0 w : World} {Z : Pk} {D : Dk} {L : Lg} {P : Pl}
theorem held_look (h : PlAt w0 w Z D L P) {i : Nat} (hi : i < 100000) : ∀ n, (Instr.lookup 71 (.map (some Z.hb)) (.int .i64 (i : Int)) false).run Tryz.prog (w.drewN n) = .ok (match P.H i with | some _ => .pointer (some ⟨Z.fb i, 0, none⟩) | none => .pointer none) (w.drewN n) := fun n => by
  obtain ⟨v, ps, hlk, hv⟩ := (h.ext_ ((Ext.refl _).drewN n)).held.look (t := 71) (e := 81) Tryz.underlying71 (z := .pointer none) (by kernel_rfl) (zd := .lit (.int .i64 (-1))) (zp := []) rfl i hi
  unfold heldM at hv
  cases hH : P.H i with
  | none =>
    rw [hH] at hv
    rw [hlk, ptrR_none hv]
  | some f =>
    rw [hH] at hv
    rw [hlk, ptrR_is (b := Z.fb i) hv]
def RmPost (w0 w : World) (Z : Pk) (P : Pl) (r : Int × St) (e : Ending) (w' : World) : Prop := ∃ Z', e = .returned (.int .i64 r.1) ∧ PlAt w0 w' Z' r.2.D r.2.L r.2.P ∧ Pfr Z P w w' ∧ Z'.Later r.2.P Z P w ∧ Z'.fb = Z.fb
set_option maxRecDepth 20000 in
set_option maxHeartbeats 3200000 in
theorem makeRoom_any {c : Nat} (h : PlAt w0 w Z D L P) (ft : St.Fit ⟨D, L, P⟩ c) (hc : c ≤ 400000) (hT : Tab w0) :
    Calls Tryz.prog 68 #[.pointer (some ⟨Z.q, 0, none⟩)] w (RmPost w0 w Z P (roomR ⟨D, L, P⟩)) := by
  have H := hide h
  have FT := hide ft
  have HT := hide hT
  have HC := hide hc
  have c4 := h.blk.cell (i := 4) rfl
  have c5 := h.blk.cell (i := 5) rfl
  obtain ⟨n, HN⟩ : ∃ n, Hid (P.n = n) := ⟨_, hide rfl⟩
  obtain ⟨fr, HFR⟩ : ∃ fr, Hid (P.frames = fr) := ⟨_, hide rfl⟩
  have hlen : ∀ k, (Builtin.len_ #[71] 3 #[.map (some Z.hb)]).run Tryz.prog (w.drewN k) = .ok (.int .i64 (n : Int)) (w.drewN k) := fun k => by
    have h1 := (h.ext_ ((Ext.refl _).drewN k)).held.len (t := 71) Tryz.underlying71 3
    rw [HN.out] at h1
    exact h1
  rw [HFR.out] at c4
  obtain ⟨rr, HRR⟩ : ∃ rr, Hid (roomR ⟨D, L, P⟩ = rr) := ⟨_, hide rfl⟩
  rw [HRR.out]
  have KID := hide (fun (W : World) (hW : Ext w W) => idle_any (h.ext_ hW) FT.out.pool)
  clear h ft hT hc
  go_enter Tryz.func68, Tryz.ntmps68
  go_upto_region 1 with fail
  by_cases hnf : n < fr
  · have hni : (n : Int) < (fr : Int) := by omega
    have HRES : Hid (rr = (0, ⟨D, L, P⟩)) := hide (by rw [← HRR.out]; unfold roomR; rw [if_pos (by show P.n < P.frames; rw [HN.out, HFR.out]; exact hnf)])
    go_quiet (fail)
    go_wp2
    go_ret
    rw [HRES.out]
    exact ⟨Z, rfl, H.out.ext_ ((Ext.refl _).drewN _), Pfr.ext ((Ext.refl _).drewN _), Pk.Later.refl _ _ _, rfl⟩
  · have hni : ¬ (n : Int) < (fr : Int) := by omega
    have HR0 : Hid (rr = (match idle P.H P.pages with
      | none => (9, ⟨D, L, P⟩)
      | some i => match P.H i with
        | none => (9, ⟨D, L, P⟩)
        | some f => if f.ch = true then (if (storeR ⟨D, L, P⟩ i f).1 ≠ 0 then storeR ⟨D, L, P⟩ i f else (0, { (storeR ⟨D, L, P⟩ i f).2 with P := dropP (storeR ⟨D, L, P⟩ i f).2.P i })) else (0, ⟨D, L, dropP P i⟩))) := hide (by rw [← HRR.out]; unfold roomR; rw [if_neg (by show ¬ P.n < P.frames; rw [HN.out, HFR.out]; exact hnf)]; rfl)
    cases hid : idle P.H P.pages with
    | none =>
      have HV : Hid (idlV P = .tuple #[.int .i64 0, .bool false]) := hide (by unfold idlV; rw [hid])
      have HRES : Hid (rr = (9, ⟨D, L, P⟩)) := hide (by rw [HR0.out, hid])
      rw [HV.out] at KID
      clear hid
      go_quiet (fail)
      go_wp2_with (go_at_call 91; (with_reducible refine (KID.out _ ((Ext.refl _).drewN _)).mono ?_); rintro e w2 ⟨rfl, hx2⟩; have HX2 := hide hx2; clear hx2)
      go_ret
      rw [HRES.out]
      have hx : Ext w w2 := ((Ext.refl w).drewN _).trans HX2.out
      exact ⟨Z, rfl, H.out.ext_ hx, Pfr.ext hx, Pk.Later.refl _ _ _, rfl⟩
    | some i =>
      obtain ⟨f, hf, hp0, hip⟩ := idle_is hid
      have HF := hide hf
      have HV : Hid (idlV P = .tuple #[.int .i64 (i : Int), .bool true]) := hide (by unfold idlV; rw [hid])
      have HRES : Hid (rr = if f.ch = true then (if (storeR ⟨D, L, P⟩ i f).1 ≠ 0 then storeR ⟨D, L, P⟩ i f else (0, { (storeR ⟨D, L, P⟩ i f).2 with P := dropP (storeR ⟨D, L, P⟩ i f).2.P i })) else (0, ⟨D, L, dropP P i⟩)) := hide (by rw [HR0.out, hid]; simp only [hf])
      have HI5 : Hid (i < 100000) := hide (by
        have h2 : P.at_ + P.pages ≤ D.dur.length := FT.out.pool.at_
        have h3 : D.dur.length ≤ 4096 := FT.out.pool.max
        omega)
      have hby := (FT.out.pool.page i f hf).2.by_
      have HBY := hide hby
      rw [HV.out] at KID
      clear hid hf hp0 hip hby
      go_quiet (fail)
      go_upto_region 6 with (go_at_call 91; (with_reducible refine (KID.out _ ((Ext.refl _).drewN _)).mono ?_); rintro e w2 ⟨rfl, hx2⟩; have HX2 : Hid (Ext w w2) := hide (((Ext.refl w).drewN _).trans hx2); clear hx2)
      have HP2 := hide (H.out.ext_ HX2.out)
      have k5 := HP2.out.blk.cell (i := 5) rfl
      have hlk := held_look HP2.out HI5.out 0
      rw [HF.out] at hlk
      have hlk : (Instr.lookup 71 (.map (some Z.hb)) (.int .i64 (i : Int)) false).run Tryz.prog w2 = .ok (.pointer (some ⟨Z.fb i, 0, none⟩)) w2 := hlk
      have k506 := (HP2.out.fr i f HF.out).cell (fr_get HBY.out).2.2.1
      have HKEY : Hid ((heldM Z P i).isSome = true) := hide (by unfold heldM; rw [HF.out]; rfl)
      clear c4 c5 hlen KID
      cases hch : f.ch with
      | false =>
        rw [hch] at k506
        have HRES2 : Hid (rr = (0, ⟨D, L, dropP P i⟩)) := hide (by rw [HRES.out, hch, if_neg (by decide)])
        obtain ⟨w3, hrun, hm3, ht3⟩ := HP2.out.held.del (t := 71) (e := 81) Tryz.underlying71 i HI5.out 0
        rw [HKEY.out] at hm3
        have HRUN := hide hrun
        have HD3 := hide (HP2.out.drop i ht3 hm3)
        have HT3 := hide ht3
        clear hch hrun hm3 ht3
        go_wp2_with ((with_reducible show wpList _ _ _ (⟨none, .call _, _, _, _, _⟩ :: _) _ _); refine wpList_gives (gives_del (x := .tmp 41) (y := .tmp 42) rfl rfl rfl HRUN.out ⟨rfl, rfl⟩) rfl ?_)
        go_ret
        rw [HRES2.out]
        exact ⟨Z, rfl, HD3.out, (Pfr.ext HX2.out).trans (Pfr.onMap HT3.out (P := P) (.inr (.inr (.inl rfl)))) (Pk.Later.refl _ _ _), (Pk.Later.refl Z P w).fewer (fun j g hj => ⟨g, (upM_nil hj).2⟩), rfl⟩
      | true =>
        rw [hch] at k506
        obtain ⟨sr, HSR⟩ : ∃ sr, Hid (storeR ⟨D, L, P⟩ i f = sr) := ⟨_, hide rfl⟩
        have HRES2 : Hid (rr = if sr.1 ≠ 0 then sr else (0, { sr.2 with P := dropP sr.2.P i })) := hide (by rw [HRES.out, hch, if_pos rfl, HSR.out])
        have KST := hide (store_any HP2.out FT.out HC.out HF.out HT.out)
        rw [HSR.out] at KST
        have HSP : Hid (sr.2.P.H = P.H) := hide (by rw [← HSR.out]; exact (storeR_P ⟨D, L, P⟩ i f).1)
        obtain ⟨se, sS⟩ := sr
        by_cases hse : se = 0
        · subst hse
          have HRES3 : Hid (rr = (0, { sS with P := dropP sS.P i })) := hide (by rw [HRES2.out]; exact if_neg (fun hh => hh rfl))
          clear hch
          go_upto_region 10 with (go_at_call 31; (with_reducible refine KST.out.mono ?_); rintro e w3 ⟨Z3, rfl, hl3, hf3, hn3, hb3⟩; have HL3 := hide hl3; have HPF3 := hide hf3; have HPN3 := hide hn3; have HB3 := hide hb3; clear hl3 hf3 hn3 hb3)
          have m5 := HL3.out.blk.cell (i := 5) rfl
          rw [HPN3.out.q, HPN3.out.hb] at m5
          obtain ⟨w4, hrun, hm4, ht4⟩ := HL3.out.held.del (t := 71) (e := 81) Tryz.underlying71 i HI5.out 0
          have hks : (heldM Z3 sS.P i).isSome = true := by
            unfold heldM
            have e1 : sS.P.H i = some f := by rw [HSP.out]; exact HF.out
            rw [e1]; rfl
          rw [hks] at hm4
          have HD4 := hide (HL3.out.drop i ht4 hm4)
          have HT4 := hide ht4
          rw [HPN3.out.hb] at hrun
          have HRUN := hide hrun
          clear hrun hm4 ht4 hks hlk
          go_wp2_with ((with_reducible show wpList _ _ _ (⟨none, .call _, _, _, _, _⟩ :: _) _ _); refine wpList_gives (gives_del (x := .tmp 41) (y := .tmp 42) rfl rfl rfl HRUN.out ⟨rfl, rfl⟩) rfl ?_)
          go_ret
          rw [HRES3.out]
          refine ⟨Z3, rfl, HD4.out, ((Pfr.ext HX2.out).trans HPF3.out (Pk.Later.refl _ _ _)).trans (Pfr.onMap HT4.out (P := P) (Z := Z3) (.inr (.inr (.inl rfl)))) (HPN3.out.up HX2.out.size), (HPN3.out.up HX2.out.size).fewer (fun j g hj => ⟨g, ?_⟩), HB3.out⟩
          have hj := (upM_nil hj).2
          rw [HSP.out] at hj
          exact hj
        · have hee : (se != 0) = true := by simpa using hse
          have HRES3 : Hid (rr = (se, sS)) := hide (by rw [HRES2.out]; exact if_pos hse)
          clear hch hse
          go_wp2_with (go_at_call 31; (with_reducible refine KST.out.mono ?_); rintro e w3 ⟨Z3, rfl, hl3, hf3, hn3, hb3⟩; have HL3 := hide hl3; have HPF3 := hide hf3; have HPN3 := hide hn3; have HB3 := hide hb3; clear hl3 hf3 hn3 hb3)
          go_ret
          rw [HRES3.out]
          exact ⟨Z3, rfl, HL3.out, (Pfr.ext HX2.out).trans HPF3.out (Pk.Later.refl _ _ _), (HPN3.out.up HX2.out.size).fewer (fun j g hj => ⟨g, by rw [HSP.out] at hj; exact hj⟩), HB3.out⟩
end
end Go.Proofs.YtnkcneccolbbdaaGreatDoor
namespace Go.Proofs.YtnkcneccolbbdaaGreatDoor
open Go.RowKit

theorem rd_keepB {w w' : World} {A : Option Addr} {l : List UInt8} (h : Rd w A l) (hk : ∀ a, A = some a → w'.heap[a.block]? = w.heap[a.block]?) : Rd w' A l := fun hn => by
  obtain ⟨b, off, rfl, hc⟩ := h hn
  exact ⟨b, off, rfl, fun j u hu => (World.cell?_of_block (a := ⟨b, off + j, none⟩) (hk ⟨b, off, none⟩ rfl)).trans (hc j u hu)⟩
section
variable {w0 w : World} {Z : Pk} {D : Dk} {L : Lg} {P : Pl}
/-- Read in all cases, and that what it answers is new. -/
theorem read_new {B g gd gn c : Nat} {A : Option Addr} (h : DiskAt B w g gd gn A c D) (b : Bd D) (i : Int) :
    Calls Tryz.prog 27 #[.pointer (some ⟨g, 0, none⟩), .int .i64 i] w (fun e w' => ∃ A n c, e = .returned (.tuple #[.slice A n c, .int .i64 (gE D i)]) ∧ n = (gB D i).length ∧ n ≤ c ∧ Rd w' A (gB D i) ∧ (∀ a, A = some a → w.heap.size ≤ a.block ∧ a.block < w'.heap.size) ∧ Ext w w') := by
  unfold gE gB
  by_cases h1 : i < 0 ∨ (D.dur.length : Int) ≤ i
  · rw [if_pos h1, if_pos h1]
    refine (read_arg h i h1).mono fun e w' hs => ?_
    obtain ⟨rfl, rfl⟩ := hs
    exact ⟨none, 0, 0, rfl, rfl, Nat.le_refl _, Rd.nil _ _, fun a ha => (by cases ha), Ext.refl _⟩
  · rw [if_neg h1, if_neg h1]
    obtain ⟨k, rfl⟩ : ∃ k : Nat, i = (k : Int) := ⟨i.toNat, by omega⟩
    have hk : k < D.dur.length := by omega
    by_cases h3 : D.off = true
    · rw [if_pos h3, if_pos h3]
      refine (read_off h h3 (k : Int) (by omega) (by omega)).mono fun e w' hs => ?_
      obtain ⟨rfl, rfl⟩ := hs
      exact ⟨none, 0, 0, rfl, rfl, Nat.le_refl _, Rd.nil _ _, fun a ha => (by cases ha), Ext.refl _⟩
    · rw [if_neg h3, if_neg h3, Int.toNat_natCast]
      refine (read_any h b.ok (by simpa using h3) (by have := b.pen; omega) k hk).mono fun e w' hs => ?_
      obtain ⟨hh, rfl, hr, hge, hx⟩ := hs
      have hl := at_len b k hk
      exact ⟨some ⟨hh, 0, none⟩, 512, 512, rfl, hl.symm, Nat.le_refl _, Rd.of_rw hr, fun a ha => by injection ha with ha; subst ha; exact ⟨hge, hr.lt⟩, hx⟩
theorem PlAt.ask (h : PlAt w0 w Z D L P) {i : Nat} {f : Fm} (hi : P.H i = some f) (h5 : f.by_.length = 504) :
    PlAt w0 ((w.setCell ⟨Z.q, 8, none⟩ (.int .i64 ((P.asked + 1 : Nat) : Int))).setCell ⟨Z.fb i, 509, none⟩ (.int .i64 ((P.asked + 1 : Nat) : Int))) Z D L (askP P i f) ∧ Pfr Z P w ((w.setCell ⟨Z.q, 8, none⟩ (.int .i64 ((P.asked + 1 : Nat) : Int))).setCell ⟨Z.fb i, 509, none⟩ (.int .i64 ((P.asked + 1 : Nat) : Int))) := by
  have h1 := h.field 8 (.int .i64 ((P.asked + 1 : Nat) : Int)) { P with asked := P.asked + 1 } rfl rfl rfl rfl rfl
  have hr := (h1.fr i f hi).set 509 (.int .i64 ((P.asked + 1 : Nat) : Int))
  rw [fr_used h5] at hr
  refine ⟨h1.frame i (f := f) (f' := { f with used := P.asked + 1 }) hi (cell_rest _ _ _) (fun k hk => Below.heap_setCell _ ⟨Z.fb i, 509, none⟩ _ k hk) hr _ rfl, ?_⟩
  exact (Pfr.onCell (P := P) (Z := Z) (.inr (.inl rfl))).trans (Pfr.onCell (P := P) (Z := Z) (.inr (.inr (.inr (.inr ⟨i, f, hi, rfl⟩))))) (Pk.Later.refl _ _ _)
def PgPost (w0 w : World) (Z : Pk) (P : Pl) (x : Int) (r : Int × St) (e : Ending) (w' : World) : Prop :=
  ∃ Z', e = .returned (.tuple #[if r.1 = 0 then .pointer (some ⟨Z'.fb x.toNat, 0, none⟩) else .pointer none, .int .i64 r.1]) ∧ PlAt w0 w' Z' r.2.D r.2.L r.2.P ∧ Pfr Z P w w' ∧ Z'.Later r.2.P Z P w ∧ (r.1 = 0 → ∃ f, r.2.P.H x.toNat = some f)
set_option maxRecDepth 20000 in
set_option maxHeartbeats 6400000 in
theorem page_any {c : Nat} (h : PlAt w0 w Z D L P) (ft : St.Fit ⟨D, L, P⟩ c) (hc : c ≤ 400000) (hT : Tab w0) (x : Int) :
    Calls Tryz.prog 39 #[.pointer (some ⟨Z.q, 0, none⟩), .int .i64 x] w (PgPost w0 w Z P x (pageR ⟨D, L, P⟩ x)) := by
  have H := hide h
  have FT := hide ft
  have HT := hide hT
  have HC := hide hc
  have KH := hide (phas_any h x)
  have c0 := h.blk.cell (i := 0) rfl
  have c2 := h.blk.cell (i := 2) rfl
  have c5 := h.blk.cell (i := 5) rfl
  have c8 := h.blk.cell (i := 8) rfl
  obtain ⟨rr, HRR⟩ : ∃ rr, Hid (pageR ⟨D, L, P⟩ x = rr) := ⟨_, hide rfl⟩
  rw [HRR.out]
  by_cases hx : x < 0 ∨ (P.pages : Int) ≤ x
  · have hb : (decide (0 ≤ x) && decide (x < (P.pages : Int))) = false := by
      rw [Bool.and_eq_false_iff]
      rcases hx with hx | hx
      · exact .inl (decide_eq_false (by omega))
      · exact .inr (decide_eq_false (by omega))
    rw [hb] at KH
    have HRES : Hid (rr = (1, ⟨D, L, P⟩)) := hide (by rw [← HRR.out]; unfold pageR; rw [if_pos hx])
    clear h ft hc hT hx hb
    go_enter Tryz.func39, Tryz.ntmps39
    go_wp2_with (go_at_call 42; (with_reducible refine KH.out.mono ?_); rintro e w2 ⟨rfl, hw2⟩; subst hw2)
    go_ret2
    rw [HRES.out]
    exact ⟨Z, rfl, H.out, Pfr.refl, Pk.Later.refl _ _ _, fun hh => absurd (show (1 : Int) = 0 from hh) (by decide)⟩
  · have hb : (decide (0 ≤ x) && decide (x < (P.pages : Int))) = true := by
      rw [Bool.and_eq_true]
      exact ⟨decide_eq_true (by omega), decide_eq_true (by omega)⟩
    rw [hb] at KH
    obtain ⟨i, rfl⟩ : ∃ i : Nat, x = (i : Int) := ⟨x.toNat, by omega⟩
    have hip : i < P.pages := by omega
    have HIP := hide hip
    have HI5 : Hid (i < 100000) := hide (by
      have h2 : P.at_ + P.pages ≤ D.dur.length := ft.pool.at_
      have h3 : D.dur.length ≤ 4096 := ft.pool.max
      omega)
    have hlk : (Instr.lookup 71 (.map (some Z.hb)) (.int .i64 (i : Int)) false).run Tryz.prog w = .ok (match P.H i with | some _ => .pointer (some ⟨Z.fb i, 0, none⟩) | none => .pointer none) w := held_look h HI5.out 0
    obtain ⟨ak, HAK⟩ : ∃ ak, Hid (P.asked = ak) := ⟨_, hide rfl⟩
    rw [HAK.out] at c8
    have HAKB : Hid (ak ≤ 400000) := hide (by have h1 : P.asked ≤ c := ft.asked; have := HAK.out; omega)
    have HRR2 : Hid (rr = (match P.H i with
      | some f => (0, ⟨D, L, askP P i f⟩)
      | none =>
        if gE D ((P.at_ : Int) + (i : Int)) ≠ 0 then (gE D ((P.at_ : Int) + (i : Int)), ⟨D, L, P⟩) else
        if (roomR ⟨D, L, P⟩).1 ≠ 0 then roomR ⟨D, L, P⟩ else
        (0, { (roomR ⟨D, L, P⟩).2 with P := askP (bringP (roomR ⟨D, L, P⟩).2.P i (gB D ((P.at_ : Int) + (i : Int)))) i (frameB (gB D ((P.at_ : Int) + (i : Int)))) }))) := hide (by rw [← HRR.out]; unfold pageR; rw [if_neg hx]; rfl)
    clear ft hc hT hx hb hip
    cases hH : P.H i with
    | some f =>
      rw [hH] at hlk
      replace hlk : (Instr.lookup 71 (.map (some Z.hb)) (.int .i64 (i : Int)) false).run Tryz.prog w = .ok (.pointer (some ⟨Z.fb i, 0, none⟩)) w := hlk
      have HRES : Hid (rr = (0, ⟨D, L, askP P i f⟩)) := hide (by rw [HRR2.out, hH])
      have h5 := (FT.out.pool.page i f hH).2.by_
      have HASK := hide (h.ask hH h5)
      have HH := hide hH
      obtain ⟨b, HB⟩ : ∃ b, Hid (Z.fb i = b) := ⟨_, hide rfl⟩
      rw [HB.out, HAK.out] at HASK
      rw [HB.out] at hlk
      have hne : ¬ Z.q = b := by rw [← HB.out]; exact h.q_fb hH
      have hne2 : ¬ b = Z.q := fun e => hne e.symm
      have z8 := h.blk.frozen 8
      have hr := h.fr i f hH
      rw [HB.out] at hr
      have k509 := hr.cell (fr_get h5).2.2.2.2.2
      have z509 := hr.frozen 509
      obtain ⟨k1, HK1⟩ : ∃ k1 : Int, Hid (((ak + 1 : Nat) : Int) = k1) := ⟨_, hide rfl⟩
      rw [HK1.out] at HASK
      have hkw : IntKind.i64.wrap ((ak : Int) + 1) = k1 := by rw [IntKind.wrap_i64]; have := HK1.out; have := HAKB.out; omega
      clear h h5 hH hr
      go_enter Tryz.func39, Tryz.ntmps39
      go_wp2_with (go_at_call 42; (with_reducible refine KH.out.mono ?_); rintro e w2 ⟨rfl, hw2⟩; subst hw2)

      go_ret2
      rw [HRES.out]
      refine ⟨Z, ?_, HASK.out.1, HASK.out.2, (Pk.Later.refl Z P w).fewer (fun j g hj => ?_), fun _ => ⟨_, upM_same _ _ _⟩⟩
      · rw [if_pos rfl, Int.toNat_natCast, HB.out]; rfl
      · by_cases e : j = i
        · subst e; exact ⟨f, HH.out⟩
        · exact ⟨g, by rw [← hj]; exact (upM_other _ _ e).symm⟩
    | none =>
      rw [hH] at hlk
      replace hlk : (Instr.lookup 71 (.map (some Z.hb)) (.int .i64 (i : Int)) false).run Tryz.prog w = .ok (.pointer none) w := hlk
      have HH := hide hH
      obtain ⟨s, HS⟩ : ∃ s : Int, Hid ((P.at_ : Int) + (i : Int) = s) := ⟨_, hide rfl⟩
      obtain ⟨e1, HE1⟩ : ∃ e1, Hid (gE D s = e1) := ⟨_, hide rfl⟩
      obtain ⟨sb, HSB⟩ : ∃ sb, Hid (gB D s = sb) := ⟨_, hide rfl⟩
      have HRR3 : Hid (rr = if e1 ≠ 0 then (e1, ⟨D, L, P⟩) else if (roomR ⟨D, L, P⟩).1 ≠ 0 then roomR ⟨D, L, P⟩ else (0, { (roomR ⟨D, L, P⟩).2 with P := askP (bringP (roomR ⟨D, L, P⟩).2.P i sb) i (frameB sb) })) := hide (by rw [HRR2.out, hH]; simp only [HS.out, HE1.out, HSB.out])
      have HSBL : Hid (e1 = 0 → sb.length = 512) := hide (fun he => by rw [← HSB.out]; exact gB_lenP FT.out.bd s (by rw [HE1.out]; exact he))
      obtain ⟨at0, HAT⟩ : ∃ at0, Hid (P.at_ = at0) := ⟨_, hide rfl⟩
      rw [HAT.out] at c2
      have hsw : IntKind.i64.wrap ((at0 : Int) + (i : Int)) = s := by
        have h2 : P.at_ + P.pages ≤ D.dur.length := FT.out.pool.at_
        have h3 : D.dur.length ≤ 4096 := FT.out.pool.max
        have h4 := HIP.out
        have h5 := HS.out
        have h6 := HAT.out
        rw [IntKind.wrap_i64]
        omega
      obtain ⟨g0, HG0⟩ : ∃ g0, Hid (Z.X.g = g0) := ⟨_, hide rfl⟩
      rw [HG0.out] at c0
      have KRD : Hid (∀ W, Ext w W → Calls Tryz.prog 27 #[.pointer (some ⟨g0, 0, none⟩), .int .i64 s] W (fun e w' => ∃ A n c, e = .returned (.tuple #[.slice A n c, .int .i64 e1]) ∧ n = sb.length ∧ n ≤ c ∧ Rd w' A sb ∧ (∀ a, A = some a → W.heap.size ≤ a.block ∧ a.block < w'.heap.size) ∧ Ext W w')) := hide (fun W hW => by
        have k1 := read_new (H.out.ext_ hW).log.disk FT.out.bd s
        rw [HE1.out, HSB.out, HG0.out] at k1
        exact k1)
      clear h hH
      go_enter Tryz.func39, Tryz.ntmps39
      go_upto_region 5 with (go_at_call 42; (with_reducible refine KH.out.mono ?_); rintro e w2 ⟨rfl, hw2⟩; subst hw2)
      go_region_law (go_simp; go_at_call 27; (with_reducible refine (KRD.out _ (Ext.drew _)).mono ?_); rintro e w2 ⟨A2, n2, c2v, rfl, hn2, hc2, hr2, ha2, hx2⟩; have HX2 : Hid (Ext w w2) := hide ((Ext.drew _).trans hx2); have HN2 := hide hn2; have HC2 := hide hc2; have HR2 := hide hr2; have HA2 : Hid (∀ a, A2 = some a → w.heap.size ≤ a.block ∧ a.block < w2.heap.size) := hide ha2; clear hn2 hc2 hr2 ha2 hx2)
      all_goals
        by_cases he1 : e1 = 0
        · subst he1
          obtain ⟨rm, HRM⟩ : ∃ rm, Hid (roomR ⟨D, L, P⟩ = rm) := ⟨_, hide rfl⟩
          have HRR4 : Hid (rr = if rm.1 ≠ 0 then rm else (0, { rm.2 with P := askP (bringP rm.2.P i sb) i (frameB sb) })) := hide (by rw [HRR3.out, if_neg (fun hh => hh rfl), HRM.out])
          have hl5 := HSBL.out rfl
          have hn5 := HN2.out
          rw [hl5] at hn5
          have HL5 := hide hl5
          have HC5 : Hid (512 ≤ c2v) := hide (by have := HC2.out; omega)
          subst hn5
          have HP2 := hide (H.out.ext_ HX2.out)
          have KMR := hide (makeRoom_any HP2.out FT.out HC.out HT.out)
          rw [HRM.out] at KMR
          obtain ⟨-, -, -, -, q5, q6, q7, q8, q9⟩ := roomR_fit FT.out HC.out
          rw [HRM.out] at q5 q6 q7 q8 q9
          have HSUB := hide q5
          have HASK9 : Hid (rm.2.P.asked = ak) := hide (by rw [← HAK.out]; exact q9)
          have HFIT := hide (roomR_fit FT.out HC.out).1
          rw [HRM.out] at HFIT
          clear q5 q6 q7 q8 q9 hl5 hlk c0 c2 c5 c8 hsw
          obtain ⟨re, rS⟩ := rm
          by_cases hre : re = 0
          · subst hre
            have HRES : Hid (rr = (0, { rS with P := askP (bringP rS.P i sb) i (frameB sb) })) := hide (by rw [HRR4.out]; exact if_neg (fun hh => hh rfl))
            go_upto_region 11 with (go_at_call 68; (with_reducible refine KMR.out.mono ?_); rintro e w3 ⟨Z3, rfl, hl3, hf3, hn3, hb3⟩; have HL3 := hide hl3; have HPF3 := hide hf3; have HPN3 := hide hn3; have HB3 := hide hb3; clear hl3 hf3 hn3 hb3)
            have HR3 : Hid (Rd w3 A2 sb) := hide (rd_keepB HR2.out fun a ha => HPF3.out.other a.block (HA2.out a ha).2 fun hh => by
              have h1 := H.out.has_lt hh
              have h2 := (HA2.out a ha).1
              omega)
            have KFO := hide (frameOf_any A2 c2v sb HL5.out HC5.out HR3.out)
            go_upto_region 12 with (go_at_call 69; (with_reducible refine KFO.out.mono ?_); rintro e w4 ⟨b, rfl, hr4, hb4, hx4⟩; have HR4 := hide hr4; have HB4 := hide hb4; have HX4 := hide hx4; clear hr4 hb4 hx4)
            have HL4 := hide (HL3.out.ext_ HX4.out)
            have m5 := HL4.out.blk.cell (i := 5) rfl
            rw [HPN3.out.q, HPN3.out.hb] at m5
            obtain ⟨w5, hrun, hm5, ht5⟩ := HL4.out.held.put (t := 71) (e := 81) Tryz.underlying71 i HI5.out (by have h1 : rS.P.n ≤ rS.P.frames := HFIT.out.pool.cnt; have h2 : rS.P.frames ≤ 64 := HFIT.out.pool.frames.2; omega) (val := .pointer (some ⟨b, 0, none⟩)) (d := .lit (.int .i64 (b : Int))) (ps := []) rfl
            have hno : rS.P.H i = none := by
              cases hq : rS.P.H i with
              | none => rfl
              | some g => have h1 := HSUB.out i g hq; have h1 : P.H i = some g := h1; rw [HH.out] at h1; cases h1
            have hno2 : (heldM Z3 rS.P i).isSome = false := by unfold heldM; rw [hno]; rfl
            rw [hno2] at hm5
            have hbr := HL4.out.bring i hno (frameB sb) b HR4.out (Nat.le_trans HL3.out.log.ext.size HB4.out) (fun j g hj e => by
              have h1 := (HL3.out.fr j g hj).lt
              have h2 := HB4.out
              omega) ht5 hm5
            have HBR := hide hbr
            obtain ⟨Z5, HZ5⟩ : ∃ Z5, Hid (({ Z3 with fb := fun j => if j = i then b else Z3.fb j } : Pk) = Z5) := ⟨_, hide rfl⟩
            have HP5 : Hid (bringP rS.P i sb = { rS.P with H := upM rS.P.H i (some (frameB sb)), n := rS.P.n + 1 }) := hide rfl
            rw [HZ5.out, ← HP5.out] at HBR
            have HZQ : Hid (Z5.q = Z.q) := hide (by rw [← HZ5.out]; exact HPN3.out.q)
            have HZB : Hid (Z5.fb i = b) := hide (by rw [← HZ5.out]; exact if_pos rfl)
            have HPF5 : Hid (Pfr Z P w w5) := hide (((Pfr.ext HX2.out).trans HPF3.out (Pk.Later.refl _ _ _)).trans ((Pfr.ext HX4.out).trans (Pfr.onMap ht5 (P := rS.P) (Z := Z3) (.inr (.inr (.inl rfl)))) (Pk.Later.refl _ _ _)) (HPN3.out.up HX2.out.size))
            have HHB : Hid ((bringP rS.P i sb).H i = some (frameB sb)) := hide (upM_same _ _ _)
            have HPN5 : Hid (Z5.Later (bringP rS.P i sb) Z P w) := hide (by
              rw [← HZ5.out]
              have hl := HPN3.out.up HX2.out.size
              refine ⟨hl.q, hl.hb, hl.ob, hl.X, fun k hk => ?_⟩
              rcases hk with hk | hk | hk | hk | ⟨j, g, hj, hk⟩
              · exact hl.has k (.inl hk)
              · exact hl.has k (.inr (.inl hk))
              · exact hl.has k (.inr (.inr (.inl hk)))
              · exact hl.has k (.inr (.inr (.inr (.inl hk))))
              · by_cases e : j = i
                · subst e
                  have hk : k = b := by rw [hk]; exact if_pos rfl
                  refine .inr ?_
                  have h1 := HX2.out.size
                  have h2 := HPF3.out.size
                  have h3 := HB4.out
                  omega
                · have hk : k = Z3.fb j := by rw [hk]; exact if_neg e
                  exact hl.has k (.inr (.inr (.inr (.inr ⟨j, g, by rw [← hj]; exact (upM_other _ _ e).symm, hk⟩)))))
            have hfb := frameB_ok HL5.out
            have HASK := hide (HBR.out.ask HHB.out hfb.1)
            have hak : (bringP rS.P i sb).asked = ak := HASK9.out
            rw [HZQ.out, HZB.out, hak] at HASK
            have hne : ¬ Z.q = b := by rw [← HZQ.out, ← HZB.out]; exact HBR.out.q_fb HHB.out
            have hne2 : ¬ b = Z.q := fun e => hne e.symm
            have m8 := HBR.out.blk.cell (i := 8) rfl
            have z8 := HBR.out.blk.frozen 8
            rw [HZQ.out] at m8 z8
            rw [hak] at m8
            have hr := HBR.out.fr i _ HHB.out
            rw [HZB.out] at hr
            have k509 := hr.cell (fr_get hfb.1).2.2.2.2.2
            have z509 := hr.frozen 509
            obtain ⟨k1, HK1⟩ : ∃ k1 : Int, Hid (((ak + 1 : Nat) : Int) = k1) := ⟨_, hide rfl⟩
            rw [HK1.out] at HASK
            have hkw : IntKind.i64.wrap ((ak : Int) + 1) = k1 := by rw [IntKind.wrap_i64]; have := HK1.out; have := HAKB.out; omega
            rw [HPN3.out.hb] at hrun
            clear hm5 ht5 hno hno2 hbr hfb hak hr
            go_wp2
            go_ret2
            rw [HRES.out]
            refine ⟨Z5, ?_, HASK.out.1, HPF5.out.trans HASK.out.2 HPN5.out, HPN5.out.fewer (fun j g hj => ?_), fun _ => ⟨_, upM_same _ _ _⟩⟩
            · rw [if_pos rfl, Int.toNat_natCast, HZB.out]; rfl
            · by_cases e : j = i
              · subst e; exact ⟨_, HHB.out⟩
              · exact ⟨g, by rw [← hj]; exact (upM_other _ _ e).symm⟩
          · have hee : (re != 0) = true := by simpa using hre
            have HRES : Hid (rr = (re, rS)) := hide (by rw [HRR4.out]; exact if_pos hre)
            have HRE := hide hre
            clear hre
            go_wp2_with (go_at_call 68; (with_reducible refine KMR.out.mono ?_); rintro e w3 ⟨Z3, rfl, hl3, hf3, hn3, hb3⟩; have HL3 := hide hl3; have HPF3 := hide hf3; have HPN3 := hide hn3; clear hl3 hf3 hn3 hb3)
            go_ret2
            rw [HRES.out]
            exact ⟨Z3, by rw [if_neg HRE.out]; rfl, HL3.out, (Pfr.ext HX2.out).trans HPF3.out (Pk.Later.refl _ _ _), HPN3.out.up HX2.out.size, fun hh => absurd hh HRE.out⟩
        · have hee : (e1 != 0) = true := by simpa using he1
          have HRES : Hid (rr = (e1, ⟨D, L, P⟩)) := hide (by rw [HRR3.out, if_pos he1])
          have HE := hide he1
          clear he1 hlk c0 c2 c5 c8 hsw
          go_wp2
          go_ret2
          rw [HRES.out]
          exact ⟨Z, by rw [if_neg HE.out]; rfl, H.out.ext_ HX2.out, Pfr.ext HX2.out, Pk.Later.refl _ _ _, fun hh => absurd hh HE.out⟩
end
end Go.Proofs.YtnkcneccolbbdaaGreatDoor
namespace Go.Proofs.YtnkcneccolbbdaaGreatDoor
open Go.RowKit

section
variable {w0 w : World} {Z : Pk} {D : Dk} {L : Lg} {P : Pl}
set_option maxRecDepth 20000 in
set_option maxHeartbeats 800000 in
theorem sclone_any (A : Option Addr) (l : List UInt8) (n c : Nat) (w : World) (hr : Rd w A l) (hn : l.length = n) (hl : n ≤ 140737488351232) (hA : A ≠ none) : Calls Tryz.prog 41 #[.slice A n c] w (Ret w (fun w' v => Own w' w.heap.size v l)) := by
  rcases A with _ | a
  · exact absurd rfl hA
  · have HR := hide hr
    have HL := hide hl
    have hq := fun (W : World) => run_eql_nil (P := Tryz.prog) W 32 5 (some a) n c Tryz.underlying32
    clear hr hl hA
    go_enter Tryz.func41, Tryz.ntmps41
    go_wp2_with (at_builtin; refine wpList_cat rfl (.tmp 5) (.tmp 6) rfl w.heap.size _ [] l _ n c rfl rfl hn.symm (Own.empty w) (HR.out.ext (Ext.alloc _ _)) (by simp) (by rw [List.length_nil, hn]; have := HL.out; omega) ?_; intro v2 w2 hown hb; rw [List.nil_append] at hown; have O2 := hide hown; have X2 : Hid (Ext w w2) := hide (Below.trans (Ext.alloc w _) hb); clear hown hb)
    go_ret
    exact Ret.mk X2.out O2.out
/-- A page that is had. -/
def HadP (w0 w : World) (Z : Pk) (P : Pl) (i : Nat) (S : St) (e : Ending) (w' : World) : Prop :=
  ∃ Z' f b, e = .returned (.tuple #[.pointer (some ⟨b, 0, none⟩), .int .i64 0]) ∧ Z'.fb i = b ∧ S.P.H i = some f ∧ PlAt w0 w' Z' S.D S.L S.P ∧ Pfr Z P w w' ∧ Z'.Later S.P Z P w
def NotP (w0 w : World) (Z : Pk) (P : Pl) (er : Int) (S : St) (e : Ending) (w' : World) : Prop :=
  ∃ Z', e = .returned (.tuple #[.pointer none, .int .i64 er]) ∧ PlAt w0 w' Z' S.D S.L S.P ∧ Pfr Z P w w' ∧ Z'.Later S.P Z P w
theorem page_had {c : Nat} (h : PlAt w0 w Z D L P) (ft : St.Fit ⟨D, L, P⟩ c) (hc : c ≤ 400000) (hT : Tab w0) (x : Int) (S : St) (hp : pageR ⟨D, L, P⟩ x = (0, S)) :
    Calls Tryz.prog 39 #[.pointer (some ⟨Z.q, 0, none⟩), .int .i64 x] w (HadP w0 w Z P x.toNat S) := by
  have k := page_any h ft hc hT x
  rw [hp] at k
  refine k.mono fun e w' hh => ?_
  obtain ⟨Z', he, h1, h2, h3, h4⟩ := hh
  obtain ⟨f, hf⟩ := h4 rfl
  exact ⟨Z', f, _, he, rfl, hf, h1, h2, h3⟩
theorem page_not {c : Nat} (h : PlAt w0 w Z D L P) (ft : St.Fit ⟨D, L, P⟩ c) (hc : c ≤ 400000) (hT : Tab w0) (x : Int) (er : Int) (S : St) (hp : pageR ⟨D, L, P⟩ x = (er, S)) (he0 : er ≠ 0) :
    Calls Tryz.prog 39 #[.pointer (some ⟨Z.q, 0, none⟩), .int .i64 x] w (NotP w0 w Z P er S) := by
  have k := page_any h ft hc hT x
  rw [hp] at k
  refine k.mono fun e w' hh => ?_
  obtain ⟨Z', he, h1, h2, h3, h4⟩ := hh
  exact ⟨Z', by rw [he]; show Ending.returned (.tuple #[if er = 0 then _ else _, _]) = _; rw [if_neg he0], h1, h2, h3⟩
theorem page_in {S S' : St} {x : Int} (hp : pageR S x = (0, S')) : 0 ≤ x ∧ x < (S.P.pages : Int) := by
  unfold pageR at hp
  split at hp
  · have := congrArg Prod.fst hp; exact absurd (show (1 : Int) = 0 from this) (by decide)
  · omega
/-- A page with another frame in its place. -/
def setS (S : St) (i : Nat) (f : Fm) : St := { S with P := { S.P with H := upM S.P.H i (some f) } }
theorem setS_later {S : St} {Z : Pk} {i : Nat} {f g : Fm} (hg : S.P.H i = some g) : Z.Later (setS S i f).P Z S.P w := ⟨rfl, rfl, rfl, Bk.Later.refl _ _, fun k hk => .inl (by
  rcases hk with hk | hk | hk | hk | ⟨j, g', hj, hk⟩
  · exact .inl hk
  · exact .inr (.inl hk)
  · exact .inr (.inr (.inl hk))
  · exact .inr (.inr (.inr (.inl hk)))
  · by_cases e : j = i
    · subst e; exact .inr (.inr (.inr (.inr ⟨j, g, hg, hk⟩)))
    · exact .inr (.inr (.inr (.inr ⟨j, g', by rw [← hj]; exact (upM_other _ _ e).symm, hk⟩))))⟩
theorem setS_at {w' : World} {S : St} {i : Nat} {f g : Fm} (h : PlAt w0 w Z S.D S.L S.P) (hg : S.P.H i = some g) (h1 : w'.os = w.os ∧ w'.tape = w.tape ∧ w'.output = w.output ∧ w'.heap.size = w.heap.size) (o : ∀ k, k ≠ Z.fb i → w'.heap[k]? = w.heap[k]?) (hr : Rw w' (Z.fb i) 80 (frC f)) :
    PlAt w0 w' Z (setS S i f).D (setS S i f).L (setS S i f).P ∧ Pfr Z S.P w w' :=
  ⟨h.frame i hg h1 o hr _ rfl, Pfr.one h1 o (.inr (.inr (.inr (.inr ⟨i, g, hg, rfl⟩))))⟩
/-- Pin. -/
def PinP (w0 w : World) (Z : Pk) (P : Pl) (i : Nat) (S : St) (e : Ending) (w' : World) : Prop := ∃ f, S.P.H i = some f ∧ PPost w0 w Z P (.int .i64 0) S.D S.L (setS S i { f with pins := f.pins + 1 }).P e w'
set_option maxRecDepth 20000 in
set_option maxHeartbeats 1600000 in
theorem pin_ok {c : Nat} (h : PlAt w0 w Z D L P) (ft : St.Fit ⟨D, L, P⟩ c) (hc : c ≤ 400000) (hT : Tab w0) (x : Int) (S : St) (hp : pageR ⟨D, L, P⟩ x = (0, S)) :
    Calls Tryz.prog 17 #[.pointer (some ⟨Z.q, 0, none⟩), .int .i64 x] w (PinP w0 w Z P x.toNat S) := by
  have KP := hide (page_had h ft hc hT x S hp)
  have FT : Hid (S.Fit (c + L.hd.cn + 4)) := hide (by have h1 := (pageR_fit ft hc x).1; rw [hp] at h1; exact h1)
  obtain ⟨i, HI⟩ : ∃ i, Hid (x.toNat = i) := ⟨_, hide rfl⟩
  rw [HI.out] at KP ⊢
  clear h ft hc hT hp
  go_enter Tryz.func17, Tryz.ntmps17
  go_upto_region 6 with (go_at_call 39; (with_reducible refine KP.out.mono ?_); rintro e w2 ⟨Z2, f, b, rfl, hb2, hf2, hl2, hpf2, hn2⟩; have HB2 := hide hb2; have HF2 := hide hf2; have HL2 := hide hl2; have HPF2 := hide hpf2; have HPN2 := hide hn2; clear hb2 hf2 hl2 hpf2 hn2)
  have h5 := (FT.out.pool.page i f HF2.out).2
  have H5 := hide h5
  have hr := HL2.out.fr i f HF2.out
  rw [HB2.out] at hr
  have HR := hide hr
  have k508 := hr.cell (fr_get h5.by_).2.2.2.2.1
  have z508 := hr.frozen 508
  obtain ⟨pn, HPN⟩ : ∃ pn, Hid (f.pins = pn) := ⟨_, hide rfl⟩
  rw [HPN.out] at k508
  have hpw : IntKind.i64.wrap ((pn : Int) + 1) = ((pn + 1 : Nat) : Int) := by rw [IntKind.wrap_i64]; have h1 := h5.pins; have h2 := HPN.out; omega
  obtain ⟨p1, HP1⟩ : ∃ p1 : Int, Hid (((pn + 1 : Nat) : Int) = p1) := ⟨_, hide rfl⟩
  rw [HP1.out] at hpw
  clear hr h5
  go_wp2
  go_ret
  have hs := HR.out.set 508 (.int .i64 ((pn + 1 : Nat) : Int))
  rw [fr_pins H5.out.by_, HP1.out] at hs
  obtain ⟨q1, q2⟩ := setS_at (f := { f with pins := pn + 1 }) HL2.out HF2.out (cell_rest w2 ⟨b, 508, none⟩ (.int .i64 p1)) (fun k hk => Below.heap_setCell w2 ⟨b, 508, none⟩ _ k (by rw [HB2.out] at hk; exact hk)) (by rw [HB2.out]; exact hs)
  rw [← HPN.out] at q1
  exact ⟨f, HF2.out, Z2, rfl, q1, HPF2.out.trans q2 HPN2.out, HPN2.out.trans (setS_later HF2.out) HPF2.out.size⟩
set_option maxRecDepth 20000 in
theorem pin_not {c : Nat} (h : PlAt w0 w Z D L P) (ft : St.Fit ⟨D, L, P⟩ c) (hc : c ≤ 400000) (hT : Tab w0) (x er : Int) (S : St) (hp : pageR ⟨D, L, P⟩ x = (er, S)) (he0 : er ≠ 0) :
    Calls Tryz.prog 17 #[.pointer (some ⟨Z.q, 0, none⟩), .int .i64 x] w (PPost w0 w Z P (.int .i64 er) S.D S.L S.P) := by
  have KP := hide (page_not h ft hc hT x er S hp he0)
  have hee : (er != 0) = true := by simpa using he0
  clear h ft hc hT hp he0
  go_enter Tryz.func17, Tryz.ntmps17
  go_wp2_with (go_at_call 39; (with_reducible refine KP.out.mono ?_); rintro e w2 ⟨Z2, rfl, hl2, hpf2, hn2⟩; have HL2 := hide hl2; have HPF2 := hide hpf2; have HPN2 := hide hn2; clear hl2 hpf2 hn2)
  go_ret
  exact ⟨Z2, rfl, HL2.out, HPF2.out, HPN2.out⟩
/-- Unpin of a page in range. -/
def unpE (P : Pl) (i : Nat) : Int := match P.H i with
  | some f => if f.pins = 0 then 10 else 0
  | none => 10
def unpS (S : St) (i : Nat) : St := match S.P.H i with
  | some f => if f.pins = 0 then S else setS S i { f with pins := f.pins - 1 }
  | none => S
set_option maxRecDepth 20000 in
set_option maxHeartbeats 1600000 in
theorem unpin_any {c : Nat} (h : PlAt w0 w Z D L P) (ft : St.Fit ⟨D, L, P⟩ c) (i : Nat) (hi : i < P.pages) :
    Calls Tryz.prog 18 #[.pointer (some ⟨Z.q, 0, none⟩), .int .i64 (i : Int)] w (PPost w0 w Z P (.int .i64 (unpE P i)) D L (unpS ⟨D, L, P⟩ i).P) := by
  have H := hide h
  have KH := phas_any h (i : Int)
  rw [show (decide ((0 : Int) ≤ (i : Int)) && decide ((i : Int) < (P.pages : Int))) = true by rw [decide_eq_true (by omega), decide_eq_true (by omega)]; rfl] at KH
  have KH := hide KH
  have HI5 : Hid (i < 100000) := hide (by
    have h2 : P.at_ + P.pages ≤ D.dur.length := ft.pool.at_
    have h3 : D.dur.length ≤ 4096 := ft.pool.max
    omega)
  have hlk : (Instr.lookup 71 (.map (some Z.hb)) (.int .i64 (i : Int)) false).run Tryz.prog w = .ok (match P.H i with | some _ => .pointer (some ⟨Z.fb i, 0, none⟩) | none => .pointer none) w := held_look h HI5.out 0
  have c5 := h.blk.cell (i := 5) rfl
  cases hH : P.H i with
  | none =>
    rw [hH] at hlk
    replace hlk : (Instr.lookup 71 (.map (some Z.hb)) (.int .i64 (i : Int)) false).run Tryz.prog w = .ok (.pointer none) w := hlk
    have HE : Hid (unpE P i = 10) := hide (by unfold unpE; rw [hH])
    have HS : Hid ((unpS ⟨D, L, P⟩ i).P = P) := hide (by
      have e : unpS ⟨D, L, P⟩ i = ⟨D, L, P⟩ := by
        unfold unpS
        show (match P.H i with | some f => if f.pins = 0 then (⟨D, L, P⟩ : St) else setS ⟨D, L, P⟩ i { f with pins := f.pins - 1 } | none => ⟨D, L, P⟩) = _
        rw [hH]
      rw [e])
    rw [HE.out, HS.out]
    clear h ft hH hi
    go_enter Tryz.func18, Tryz.ntmps18
    go_wp2_with (go_at_call 42; (with_reducible refine KH.out.mono ?_); rintro e w2 ⟨rfl, hw2⟩; subst hw2)
    go_ret
    exact PPost.still H.out (Ext.refl _) rfl
  | some f =>
    rw [hH] at hlk
    replace hlk : (Instr.lookup 71 (.map (some Z.hb)) (.int .i64 (i : Int)) false).run Tryz.prog w = .ok (.pointer (some ⟨Z.fb i, 0, none⟩)) w := hlk
    have h5 := (ft.pool.page i f hH).2
    have H5 := hide h5
    have HF := hide hH
    obtain ⟨b, HB⟩ : ∃ b, Hid (Z.fb i = b) := ⟨_, hide rfl⟩
    rw [HB.out] at hlk
    have hr := h.fr i f hH
    rw [HB.out] at hr
    have HR := hide hr
    have k508 := hr.cell (fr_get h5.by_).2.2.2.2.1
    have z508 := hr.frozen 508
    obtain ⟨pn, HPN⟩ : ∃ pn, Hid (f.pins = pn) := ⟨_, hide rfl⟩
    rw [HPN.out] at k508
    by_cases hp : pn = 0
    · have HE : Hid (unpE P i = 10) := hide (by unfold unpE; rw [hH]; exact if_pos (by rw [HPN.out]; exact hp))
      have HS : Hid ((unpS ⟨D, L, P⟩ i).P = P) := hide (by
        have e : unpS ⟨D, L, P⟩ i = ⟨D, L, P⟩ := by
          unfold unpS
          show (match P.H i with | some f => if f.pins = 0 then (⟨D, L, P⟩ : St) else setS ⟨D, L, P⟩ i { f with pins := f.pins - 1 } | none => ⟨D, L, P⟩) = _
          rw [hH]
          exact if_pos (by rw [HPN.out]; exact hp)
        rw [e])
      rw [HE.out, HS.out]
      subst hp
      clear h ft hH hi h5 hr
      go_enter Tryz.func18, Tryz.ntmps18
      go_wp2_with (go_at_call 42; (with_reducible refine KH.out.mono ?_); rintro e w2 ⟨rfl, hw2⟩; subst hw2)
      go_ret
      exact PPost.still H.out (Ext.refl _) rfl
    · have HE : Hid (unpE P i = 0) := hide (by unfold unpE; rw [hH]; exact if_neg (by rw [HPN.out]; exact hp))
      have HS : Hid ((unpS ⟨D, L, P⟩ i).P = (setS ⟨D, L, P⟩ i { f with pins := f.pins - 1 }).P) := hide (by
        have e : unpS ⟨D, L, P⟩ i = setS ⟨D, L, P⟩ i { f with pins := f.pins - 1 } := by
          unfold unpS
          show (match P.H i with | some f => if f.pins = 0 then (⟨D, L, P⟩ : St) else setS ⟨D, L, P⟩ i { f with pins := f.pins - 1 } | none => ⟨D, L, P⟩) = _
          rw [hH]
          exact if_neg (by rw [HPN.out]; exact hp)
        rw [e])
      rw [HE.out, HS.out]
      have hpf : ((pn : Int) == 0) = false := by simp; omega
      obtain ⟨p1, HP1⟩ : ∃ p1 : Int, Hid (((pn - 1 : Nat) : Int) = p1) := ⟨_, hide rfl⟩
      have hpw : IntKind.i64.wrap ((pn : Int) - 1) = p1 := by rw [IntKind.wrap_i64]; have h1 := h5.pins; have h2 := HPN.out; have h3 := HP1.out; omega
      have hp' : ¬ (pn : Int) = 0 := by omega
      clear h ft hH hi h5 hr hp
      go_enter Tryz.func18, Tryz.ntmps18
      go_wp2_with (go_at_call 42; (with_reducible refine KH.out.mono ?_); rintro e w2 ⟨rfl, hw2⟩; subst hw2)
      go_ret
      have hs := HR.out.set 508 (.int .i64 ((pn - 1 : Nat) : Int))
      rw [fr_pins H5.out.by_, HP1.out] at hs
      obtain ⟨q1, q2⟩ := setS_at (S := ⟨D, L, P⟩) (f := { f with pins := pn - 1 }) H.out HF.out (cell_rest w ⟨b, 508, none⟩ (.int .i64 p1)) (fun k hk => Below.heap_setCell w ⟨b, 508, none⟩ _ k (by rw [HB.out] at hk; exact hk)) (by rw [HB.out]; exact hs)
      rw [← HPN.out] at q1
      exact ⟨Z, rfl, q1, q2, setS_later (S := ⟨D, L, P⟩) HF.out⟩
/-- Write of a page that can be had. -/
def WrP (w0 w : World) (Z : Pk) (P : Pl) (i : Nat) (S : St) (off : Nat) (m : List UInt8) (lsn : Nat) (e : Ending) (w' : World) : Prop := ∃ f, S.P.H i = some f ∧ PPost w0 w Z P (.int .i64 0) S.D S.L (setS S i (chF f off m lsn)).P e w'
set_option maxRecDepth 20000 in
set_option maxHeartbeats 1600000 in
theorem pwrite_ok {c : Nat} (h : PlAt w0 w Z D L P) (ft : St.Fit ⟨D, L, P⟩ c) (hc : c ≤ 400000) (hT : Tab w0) (x : Int) (S : St) (hp : pageR ⟨D, L, P⟩ x = (0, S)) (off : Nat) (A : Option Addr) (m : List UInt8) (n cc : Nat) (hn : m.length = n) (hm : off + n ≤ 504) (hA : Rd w A m) (hAn : ∀ a, A = some a → ¬ Z.has P a.block ∧ a.block < w.heap.size) (lsn : Nat) :
    Calls Tryz.prog 15 #[.pointer (some ⟨Z.q, 0, none⟩), .int .i64 x, .int .i64 (off : Int), .slice A n cc, .int .u64 (lsn : Int)] w (WrP w0 w Z P x.toNat S off m lsn) := by
  have KP := hide (page_had h ft hc hT x S hp)
  have FT : Hid (S.Fit (c + L.hd.cn + 4)) := hide (by have h1 := (pageR_fit ft hc x).1; rw [hp] at h1; exact h1)
  obtain ⟨i, HI⟩ : ∃ i, Hid (x.toNat = i) := ⟨_, hide rfl⟩
  rw [HI.out] at KP ⊢
  have HA := hide hA
  have HAN := hide hAn
  have HM := hide hm
  have HN := hide hn
  have h1 : ¬ (off : Int) < 0 := by omega
  have h2 : ¬ (504 : Int) - (n : Int) < (off : Int) := by omega
  have h3 : IntKind.i64.wrap ((504 : Int) - (n : Int)) = (504 : Int) - (n : Int) := by rw [IntKind.wrap_i64]; omega
  clear h ft hc hT hp hA hAn hm hn
  go_enter Tryz.func15, Tryz.ntmps15
  go_upto_region 8 with (go_at_call 39; (with_reducible refine KP.out.mono ?_); rintro e w2 ⟨Z2, f, b, rfl, hb2, hf2, hl2, hpf2, hn2⟩; have HB2 := hide hb2; have HF2 := hide hf2; have HL2 := hide hl2; have HPF2 := hide hpf2; have HPN2 := hide hn2; clear hb2 hf2 hl2 hpf2 hn2)
  have h5 := (FT.out.pool.page i f HF2.out).2
  have hr := HL2.out.fr i f HF2.out
  rw [HB2.out] at hr
  have hA2 : Rd w2 A m := rd_keepB HA.out fun a ha => HPF2.out.other a.block (HAN.out a ha).2 (HAN.out a ha).1
  have KCH := hide (change_any b f h5.by_ hr off A m n cc HN.out HM.out hA2 lsn)
  clear h5 hr hA2 h1 h2 h3
  go_wp2_with (go_at_call 40; (with_reducible refine KCH.out.mono ?_); rintro e w3 ⟨rfl, hr3, ho3⟩; have HR3 := hide hr3; have HO3 := hide ho3; clear hr3 ho3)
  go_ret
  obtain ⟨q1, q2⟩ := setS_at (f := chF f off m lsn) HL2.out HF2.out HO3.out.rest (fun k hk => HO3.out.other k (by rw [HB2.out] at hk; exact hk)) (by rw [HB2.out]; exact HR3.out)
  exact ⟨f, HF2.out, Z2, rfl, q1, HPF2.out.trans q2 HPN2.out, HPN2.out.trans (setS_later HF2.out) HPF2.out.size⟩
set_option maxRecDepth 20000 in
set_option maxHeartbeats 1600000 in
theorem pwrite_not {c : Nat} (h : PlAt w0 w Z D L P) (ft : St.Fit ⟨D, L, P⟩ c) (hc : c ≤ 400000) (hT : Tab w0) (x er : Int) (S : St) (hp : pageR ⟨D, L, P⟩ x = (er, S)) (he0 : er ≠ 0) (off : Nat) (A : Option Addr) (n cc : Nat) (hm : off + n ≤ 504) (lsn : Int) :
    Calls Tryz.prog 15 #[.pointer (some ⟨Z.q, 0, none⟩), .int .i64 x, .int .i64 (off : Int), .slice A n cc, .int .u64 lsn] w (PPost w0 w Z P (.int .i64 er) S.D S.L S.P) := by
  have KP := hide (page_not h ft hc hT x er S hp he0)
  have hee : (er != 0) = true := by simpa using he0
  have h1 : ¬ (off : Int) < 0 := by omega
  have h2 : ¬ (504 : Int) - (n : Int) < (off : Int) := by omega
  have h3 : IntKind.i64.wrap ((504 : Int) - (n : Int)) = (504 : Int) - (n : Int) := by rw [IntKind.wrap_i64]; omega
  clear h ft hc hT hp he0 hm
  go_enter Tryz.func15, Tryz.ntmps15
  go_wp2_with (go_at_call 39; (with_reducible refine KP.out.mono ?_); rintro e w2 ⟨Z2, rfl, hl2, hpf2, hn2⟩; have HL2 := hide hl2; have HPF2 := hide hpf2; have HPN2 := hide hn2; clear hl2 hpf2 hn2)
  go_ret
  exact ⟨Z2, rfl, HL2.out, HPF2.out, HPN2.out⟩
theorem pwrite_arg (q : Nat) (x off : Int) (A : Option Addr) (n cc : Nat) (hn : n ≤ 140737488355328) (lsn : Int) (ho : off < 0 ∨ 504 - (n : Int) < off) :
    Calls Tryz.prog 15 #[.pointer (some ⟨q, 0, none⟩), .int .i64 x, .int .i64 off, .slice A n cc, .int .u64 lsn] w (Same w (.int .i64 1)) := by
  have h3 : IntKind.i64.wrap ((504 : Int) - (n : Int)) = (504 : Int) - (n : Int) := by rw [IntKind.wrap_i64]; omega
  by_cases h1 : off < 0
  · clear ho hn
    go_enter Tryz.func15, Tryz.ntmps15
    go_wp2
    go_ret
    exact ⟨rfl, rfl⟩
  · have h2 : 504 - (n : Int) < off := by omega
    clear ho hn
    go_enter Tryz.func15, Tryz.ntmps15
    go_wp2
    go_ret
    exact ⟨rfl, rfl⟩
/-- Read of a page that can be had. -/
def RdP (w0 w : World) (Z : Pk) (P : Pl) (i : Nat) (S : St) (e : Ending) (w' : World) : Prop :=
  ∃ f Z' A cc, S.P.H i = some f ∧ e = .returned (.tuple #[.slice A 504 cc, .int .u64 (f.last : Int), .int .i64 0]) ∧ Rd w' A f.by_ ∧ (∀ a, A = some a → w.heap.size ≤ a.block ∧ a.block < w'.heap.size ∧ ¬ Z'.has S.P a.block) ∧ PlAt w0 w' Z' S.D S.L S.P ∧ Pfr Z P w w' ∧ Z'.Later S.P Z P w
set_option maxRecDepth 20000 in
set_option maxHeartbeats 1600000 in
theorem pread_ok {c : Nat} (h : PlAt w0 w Z D L P) (ft : St.Fit ⟨D, L, P⟩ c) (hc : c ≤ 400000) (hT : Tab w0) (x : Int) (S : St) (hp : pageR ⟨D, L, P⟩ x = (0, S)) :
    Calls Tryz.prog 16 #[.pointer (some ⟨Z.q, 0, none⟩), .int .i64 x] w (RdP w0 w Z P x.toNat S) := by
  have KP := hide (page_had h ft hc hT x S hp)
  have FT : Hid (S.Fit (c + L.hd.cn + 4)) := hide (by have h1 := (pageR_fit ft hc x).1; rw [hp] at h1; exact h1)
  obtain ⟨i, HI⟩ : ∃ i, Hid (x.toNat = i) := ⟨_, hide rfl⟩
  rw [HI.out] at KP ⊢
  clear h ft hc hT hp
  go_enter Tryz.func16, Tryz.ntmps16
  go_upto_region 6 with (go_at_call 39; (with_reducible refine KP.out.mono ?_); rintro e w2 ⟨Z2, f, b, rfl, hb2, hf2, hl2, hpf2, hn2⟩; have HB2 := hide hb2; have HF2 := hide hf2; have HL2 := hide hl2; have HPF2 := hide hpf2; have HPN2 := hide hn2; clear hb2 hf2 hl2 hpf2 hn2)
  have h5 := (FT.out.pool.page i f HF2.out).2
  have H5 := hide h5
  have hr := HL2.out.fr i f HF2.out
  rw [HB2.out] at hr
  have HR := hide hr
  have k504 := hr.cell (fr_get h5.by_).1
  obtain ⟨la, HLA⟩ : ∃ la, Hid (f.last = la) := ⟨_, hide rfl⟩
  rw [HLA.out] at k504
  have KCL : Hid (∀ W, Ext w2 W → Calls Tryz.prog 41 #[.slice (some ⟨b, 0, none⟩) 504 504] W (fun e w' => ∃ A cc, e = .returned (.slice A 504 cc) ∧ Rd w' A f.by_ ∧ (∀ a, A = some a → W.heap.size ≤ a.block ∧ a.block < w'.heap.size) ∧ Ext W w')) := hide (fun W hW => by
    refine (sclone_any (some ⟨b, 0, none⟩) f.by_ 504 504 W (fr_bytes H5.out.by_ (HR.out.ext hW)) H5.out.by_ (by decide) (by simp)).mono fun e w' hh => ?_
    obtain ⟨v, he, hx, ho⟩ := hh
    obtain ⟨A, cc, hv, -, hrd⟩ := ho.bytes
    rw [H5.out.by_] at hv
    refine ⟨A, cc, by rw [he, hv], hrd, fun a ha => ?_, hx⟩
    have h1 := own_block ho a.block (by rw [hv, ha]; rfl)
    exact ⟨h1.1, h1.2.1⟩)
  have HRUN : Hid (∀ W, (Instr.sliceAt 78 (.pointer (some ⟨b, 0, none⟩)) none none none).run Tryz.prog W = .ok (.slice (some ⟨b, 0, none⟩) 504 504) W) := hide (fun W => run_all504 b 0 W)
  clear hr h5
  go_region_law (go_simp; go_at_call 41; (with_reducible refine (KCL.out _ (Ext.drew _)).mono ?_); rintro e w3 ⟨A3, c3, rfl, hr3, ha3, hx3⟩; have HX3 : Hid (Ext w2 w3) := hide ((Ext.drew _).trans hx3); have HR3 := hide hr3; have HA3 : Hid (∀ a, A3 = some a → w2.heap.size ≤ a.block ∧ a.block < w3.heap.size) := hide ha3; have k504b := (HR.out.ext HX3.out).cell (fr_get H5.out.by_).1; rw [HLA.out] at k504b; clear hr3 ha3 hx3)
  all_goals
    go_wp2
    go_ret3
    refine ⟨f, Z2, A3, c3, HF2.out, by rw [HLA.out]; rfl, HR3.out, fun a ha => ?_, HL2.out.ext_ HX3.out, HPF2.out.trans (Pfr.ext HX3.out) HPN2.out, HPN2.out⟩
    obtain ⟨h1, h2⟩ := HA3.out a ha
    exact ⟨Nat.le_trans HPF2.out.size h1, h2, fun hh => by have h3 := HL2.out.has_lt hh; omega⟩
set_option maxRecDepth 20000 in
theorem pread_not {c : Nat} (h : PlAt w0 w Z D L P) (ft : St.Fit ⟨D, L, P⟩ c) (hc : c ≤ 400000) (hT : Tab w0) (x er : Int) (S : St) (hp : pageR ⟨D, L, P⟩ x = (er, S)) (he0 : er ≠ 0) :
    Calls Tryz.prog 16 #[.pointer (some ⟨Z.q, 0, none⟩), .int .i64 x] w (PPost w0 w Z P (.tuple #[.slice none 0 0, .int .u64 0, .int .i64 er]) S.D S.L S.P) := by
  have KP := hide (page_not h ft hc hT x er S hp he0)
  have hee : (er != 0) = true := by simpa using he0
  clear h ft hc hT hp he0
  go_enter Tryz.func16, Tryz.ntmps16
  go_wp2_with (go_at_call 39; (with_reducible refine KP.out.mono ?_); rintro e w2 ⟨Z2, rfl, hl2, hpf2, hn2⟩; have HL2 := hide hl2; have HPF2 := hide hpf2; have HPN2 := hide hn2; clear hl2 hpf2 hn2)
  go_ret3
  exact ⟨Z2, rfl, HL2.out, HPF2.out, HPN2.out⟩
end
end Go.Proofs.YtnkcneccolbbdaaGreatDoor
namespace Go.Proofs.YtnkcneccolbbdaaGreatDoor
open Go.RowKit

def P0 (a n f : Nat) : Pl := ⟨a, n, f, fun _ => none, 0, fun _ => none, 0, 0, 0⟩
theorem builtP (g q hb ob : Nat) (a n f : Int) : Tryz.prog.built 74 [(0, .pointer (some ⟨g, 0, none⟩)), (1, .pointer (some ⟨q, 0, none⟩)), (2, .int .i64 a), (3, .int .i64 n), (4, .int .i64 f), (5, .map (some hb)), (6, .map (some ob))] =
    some #[.pointer (some ⟨g, 0, none⟩), .pointer (some ⟨q, 0, none⟩), .int .i64 a, .int .i64 n, .int .i64 f, .map (some hb), .map (some ob), .int .u64 0, .int .i64 0] := by kernel_rfl
theorem P0_ok {a n f m : Nat} (h1 : a + n ≤ m) (h2 : m ≤ 4096) (h3 : 1 ≤ n) (h4 : 1 ≤ f ∧ f ≤ 64) : (P0 a n f).Ok m :=
  ⟨h1, h2, h3, h4, fun i g h => (by cases h), fun i j g g' h => (by cases h), Nat.zero_le _, fun i s h => (by cases h), by show 0 < _; decide⟩
section
variable {w0 w : World} {X : Bk} {D : Dk} {L : Lg}
def NwP (w0 w : World) (X : Bk) (D : Dk) (L : Lg) (P : Pl) (e : Ending) (w' : World) : Prop := ∃ Z, e = .returned (.tuple #[.pointer (some ⟨Z.q, 0, none⟩), .int .i64 0]) ∧ Z.X = X ∧ PlAt w0 w' Z D L P ∧ Ext w w'
set_option maxRecDepth 20000 in
set_option maxHeartbeats 800000 in
theorem pnew_any (h : LgAt w0 w X D L) (a n f : Nat) (h1 : a + n ≤ D.dur.length) (h2 : D.dur.length ≤ 4096) (h3 : 1 ≤ n) (h4 : 1 ≤ f ∧ f ≤ 64) :
    Calls Tryz.prog 14 #[.pointer (some ⟨X.g, 0, none⟩), .pointer (some ⟨X.q, 0, none⟩), .int .i64 (a : Int), .int .i64 (n : Int), .int .i64 (f : Int)] w (NwP w0 w X D L (P0 a n f)) := by
  have H := hide h
  have KL := hide (len_any h.disk)
  obtain ⟨dl, HDL⟩ : ∃ dl, Hid (D.dur.length = dl) := ⟨_, hide rfl⟩
  rw [HDL.out] at KL h1 h2
  obtain ⟨ai, HAI⟩ : ∃ ai : Int, Hid ((a : Int) = ai) := ⟨_, hide rfl⟩
  obtain ⟨ni, HNI⟩ : ∃ ni : Int, Hid ((n : Int) = ni) := ⟨_, hide rfl⟩
  obtain ⟨fi, HFI⟩ : ∃ fi : Int, Hid ((f : Int) = fi) := ⟨_, hide rfl⟩
  obtain ⟨di, HDI⟩ : ∃ di : Int, Hid ((dl : Int) = di) := ⟨_, hide rfl⟩
  have e1 := HAI.out
  have e2 := HNI.out
  have e3 := HFI.out
  have e4 := HDI.out
  obtain ⟨xi, HXI⟩ : ∃ xi : Int, Hid (di - ni = xi) := ⟨_, hide rfl⟩
  have e5 := HXI.out
  have hw1 : IntKind.i64.wrap (di - ni) = xi := by rw [IntKind.wrap_i64]; omega
  have hc1 : ¬ ai < 0 := by omega
  have hc2 : ¬ ni < 1 := by omega
  have hc3 : ¬ xi < ai := by omega
  have hc4 : ¬ fi < 1 := by omega
  have hc5 : ¬ 64 < fi := by omega
  rw [HDI.out] at KL
  rw [HAI.out, HNI.out, HFI.out]
  obtain ⟨g, HG⟩ : ∃ g, Hid (X.g = g) := ⟨_, hide rfl⟩
  obtain ⟨q, HQ⟩ : ∃ q, Hid (X.q = q) := ⟨_, hide rfl⟩
  rw [HG.out] at KL
  rw [HG.out, HQ.out]
  clear h h1 h2 h3 h4 e1 e2 e3 e4 e5
  go_enter Tryz.func14, Tryz.ntmps14
  go_upto_region 7 with (go_at_call 38; (with_reducible refine KL.out.mono ?_); rintro e w2 ⟨rfl, hw2⟩; subst hw2)
  have hmm := @run_makeMap Tryz.prog
  clear hw1 hc1 hc2 hc3 hc4 hc5
  go_wp2_with ((with_reducible show wpList _ _ _ (⟨some 48, .build _ _, _, _, _, _⟩ :: _) _ _); refine wpList_gives (gives_build rfl _ [(0, .pointer (some ⟨g, 0, none⟩)), (1, .pointer (some ⟨q, 0, none⟩)), (2, .int .i64 ai), (3, .int .i64 ni), (4, .int .i64 fi), (5, .map (some w.heap.size)), (6, .map (some (w.heap.size + 1)))] rfl (builtP g q w.heap.size (w.heap.size + 1) ai ni fi) ⟨rfl, rfl⟩) rfl ?_)
  go_ret2
  obtain ⟨wz, HWZ⟩ : ∃ wz, Hid (((w.alloc (.map #[] 0)).alloc (.map #[] 0)).alloc (.cells #[.pointer (some ⟨g, 0, none⟩), .pointer (some ⟨q, 0, none⟩), .int .i64 ai, .int .i64 ni, .int .i64 fi, .map (some w.heap.size), .map (some (w.heap.size + 1)), .int .u64 0, .int .i64 0] 74) = wz) := ⟨_, hide rfl⟩
  have hs1 : (w.alloc (.map #[] 0)).heap.size = w.heap.size + 1 := by simp
  have hs2 : ((w.alloc (.map #[] 0)).alloc (.map #[] 0)).heap.size = w.heap.size + 1 + 1 := by simp
  have hx1 : Ext (w.alloc (.map #[] 0)) wz := by rw [← HWZ.out]; exact (Ext.alloc _ _).trans (Ext.alloc _ _)
  have hx2 : Ext ((w.alloc (.map #[] 0)).alloc (.map #[] 0)) wz := by rw [← HWZ.out]; exact Ext.alloc _ _
  have hx0 : Ext w wz := (Ext.alloc _ _).trans hx1
  have hb : Rw wz (w.heap.size + 1 + 1) 74 [.pointer (some ⟨g, 0, none⟩), .pointer (some ⟨q, 0, none⟩), .int .i64 ai, .int .i64 ni, .int .i64 fi, .map (some w.heap.size), .map (some (w.heap.size + 1)), .int .u64 0, .int .i64 0] := by
    rw [← HWZ.out, ← hs2]
    exact Rw.new _ _ _
  have m1 : MapI wz ptrR w.heap.size (fun _ => none) 0 := (MapI.made (R := ptrR) w).keep (Below.block hx1 _ (by simp))
  have m2 : MapI wz u64R (w.heap.size + 1) (fun _ => none) 0 := by
    have h := (MapI.made (R := u64R) (w.alloc (.map #[] 0)))
    rw [hs1] at h
    exact h.keep (Below.block hx2 _ (by simp))
  have hw0 := H.out.ext.size
  rw [HWZ.out]
  refine ⟨⟨X, w.heap.size + 1 + 1, w.heap.size, w.heap.size + 1, fun _ => 0⟩, rfl, rfl, ⟨H.out.ext_ hx0, ?_, m1, m2, fun i f hf => (by cases hf), fun i j f g hf => (by cases hf), ⟨by show w0.heap.size ≤ w.heap.size + 1 + 1; omega, hw0, by show w0.heap.size ≤ w.heap.size + 1; omega, fun i f hf => (by cases hf)⟩, by show w.heap.size ≠ w.heap.size + 1; omega⟩, hx0⟩
  rw [← HG.out, ← HQ.out, ← HAI.out, ← HNI.out, ← HFI.out] at hb
  exact hb
/-- The laws' fresh. -/
def wdC (Z : Pk) : List Value := [.pointer (some ⟨Z.X.g, 0, none⟩), .pointer (some ⟨Z.X.q, 0, none⟩), .pointer (some ⟨Z.q, 0, none⟩)]
def FrsP (w : World) (n f : Nat) (e : Ending) (w' : World) : Prop := ∃ Z b, e = .returned (.pointer (some ⟨b, 0, none⟩)) ∧ Rw w' b 43 (wdC Z) ∧ w.heap.size ≤ b ∧ PlAt w w' Z (dk2 (41 + n) 0 40) (lgN 0 40) (P0 41 n f) ∧ St.Fit ⟨dk2 (41 + n) 0 40, lgN 0 40, P0 41 n f⟩ 10
theorem fresh_fit {n f : Nat} (h1 : 1 ≤ n) (h2 : n ≤ 4000) (h4 : 1 ≤ f ∧ f ≤ 64) : St.Fit ⟨dk2 (41 + n) 0 40, lgN 0 40, P0 41 n f⟩ 10 := by
  refine ⟨dk2_bd (by omega) (by omega), lgN_ok (by decide) (by decide) (by omega), ?_, ?_, ?_, ?_, ?_, ?_, ?_⟩
  · show (P0 41 n f).Ok (dk2 (41 + n) 0 40).dur.length
    rw [dk2_len]
    exact P0_ok (by omega) (by omega) h1 h4
  · show (0 : Nat) ≤ 10; decide
  · show 5 ≤ 10; decide
  · show (0 : Nat) ≤ _; omega
  · show 480 ≤ _; omega
  · show (0 : Nat) ≤ 10; decide
  · show (0 : Nat) ≤ 10; decide
set_option maxRecDepth 20000 in
set_option maxHeartbeats 1600000 in
theorem pfresh_any {n f : Nat} (h1 : 1 ≤ n) (h2 : n ≤ 4000) (h4 : 1 ≤ f ∧ f ≤ 64) (hT : Tab w) : Calls Tryz.prog 6 #[.int .i64 (n : Int), .int .i64 (f : Int)] w (FrsP w n f) := by
  have HFT := hide (fresh_fit h1 h2 h4)
  have KN := hide (new_any (41 + n) (by omega) (by omega) w)
  have KF : Hid (∀ w1 g gd gn, Ext w w1 → DiskAt w.heap.size w1 g gd gn none 0 (D0 (41 + n)) → Calls Tryz.prog 22 #[.pointer (some ⟨g, 0, none⟩), .int .i64 0, .int .i64 40] w1 (DPost w.heap.size g gd gn w1 none (.int .i64 0) (dk1 (41 + n) 0 40))) := hide (fun w1 g gd gn hx hd => by
    obtain ⟨e1, e2⟩ := format_new (n := 41 + n) (a := 0) (c := 40) (by decide) (by omega)
    have k := format_any hx hd (D0_bd (by omega) (by omega)) (by show (0 : Nat) < _; decide) (by show (0 : Nat) < _; decide) hT (0 : Int) (40 : Int) (by omega) (by omega)
    rw [show ((0 : Nat) : Int) = 0 from rfl, show ((40 : Nat) : Int) = 40 from rfl] at e1 e2
    rw [e1, e2] at k
    exact k)
  have KO : Hid (∀ w1 g gd gn A cc, Ext w w1 → DiskAt w.heap.size w1 g gd gn A cc (dk1 (41 + n) 0 40) → Calls Tryz.prog 23 #[.pointer (some ⟨g, 0, none⟩), .int .i64 0, .int .i64 40] w1 (OPost w w1 g gd gn A (dk2 (41 + n) 0 40) 0 (lgN 0 40))) := hide (fun w1 g gd gn A cc hx hd => by
    obtain ⟨e1, e2, e3⟩ := open_new (n := 41 + n) (a := 0) (c := 40) (by decide) (by decide) (by omega)
    obtain ⟨-, e5⟩ := head_new (n := 41 + n) (a := 0) (c := 40) (by decide) (by omega)
    rw [show ((0 : Nat) : Int) = 0 from rfl] at e1 e2 e3 e5
    rw [show ((40 : Nat) : Int) = 40 from rfl] at e1 e2
    have k := open_any hx hd (dk1_bd (by omega) (by omega)) (by show (0 : Nat) < _; decide) (by show 2 < 800000; decide) hT (0 : Int) (40 : Int) (by omega) (by omega) (by rw [e5]; show 480 < 576460752303423488; decide) (by rw [e5]; show 480 < 1152921504606846976; decide)
    rw [e1, e2, e3] at k
    exact k)
  have KP : Hid (∀ w1 X, LgAt w w1 X (dk2 (41 + n) 0 40) (lgN 0 40) → Calls Tryz.prog 14 #[.pointer (some ⟨X.g, 0, none⟩), .pointer (some ⟨X.q, 0, none⟩), .int .i64 41, .int .i64 (n : Int), .int .i64 (f : Int)] w1 (NwP w w1 X (dk2 (41 + n) 0 40) (lgN 0 40) (P0 41 n f))) := hide (fun w1 X hl => by
    have k := pnew_any hl 41 n f (by rw [dk2_len]; omega) (by rw [dk2_len]; omega) h1 h4
    exact k)
  have hcw : IntKind.i64.wrap (41 + (n : Int)) = ((41 + n : Nat) : Int) := by rw [IntKind.wrap_i64]; omega
  obtain ⟨m, HM⟩ : ∃ m : Int, Hid (((41 + n : Nat) : Int) = m) := ⟨_, hide rfl⟩
  obtain ⟨ni, HNI⟩ : ∃ ni : Int, Hid ((n : Int) = ni) := ⟨_, hide rfl⟩
  obtain ⟨fi, HFI⟩ : ∃ fi : Int, Hid ((f : Int) = fi) := ⟨_, hide rfl⟩
  rw [HM.out, HNI.out] at hcw
  rw [HM.out] at KN
  rw [HNI.out, HFI.out] at KP
  rw [HNI.out, HFI.out]
  clear h1 h2 h4 hT
  go_enter Tryz.func6, Tryz.ntmps6
  go_wp2_with (first
    | (go_at_call 21; (with_reducible refine KN.out.mono ?_); rintro e w1 ⟨g, gd, gn, rfl, hd1, hx1⟩; have HD1 := hide hd1; have HX1 := hide hx1; clear hd1 hx1)
    | (go_at_call 22; (with_reducible refine (KF.out w1 g gd gn HX1.out HD1.out).mono ?_); rintro e w2 ⟨A2, c2, rfl, hd2, hf2, hn2⟩; have HD2 := hide hd2; have HX2 : Hid (Ext w w2) := hide (Dfr.grown HX1.out HD1.out hf2); clear hd2 hf2 hn2)
    | (go_at_call 23; (with_reducible refine (KO.out w2 g gd gn A2 c2 HX2.out HD2.out).mono ?_); rintro e w3 ⟨hp3, -⟩; obtain ⟨X3, rfl, hl3, hg3, -⟩ := hp3 rfl; have HL3 := hide hl3; have HG3 := hide hg3; clear hl3 hg3 hp3; rw [← HG3.out])
    | (go_at_call 14; (with_reducible refine (KP.out w3 X3 HL3.out).mono ?_); rintro e w4 ⟨Z4, rfl, hz4, hl4, hx4⟩; have HZ4 := hide hz4; have HL4 := hide hl4; clear hz4 hl4 hx4))
  go_ret
  have hx3 : Z4.X = X3 := HZ4.out
  subst hx3
  exact ⟨Z4, w4.heap.size, rfl, Rw.new w4 43 (wdC Z4), HL4.out.log.ext.size, HL4.out.ext_ (Ext.alloc _ _), HFT.out⟩
end
end Go.Proofs.YtnkcneccolbbdaaGreatDoor
namespace Go.Proofs.YtnkcneccolbbdaaGreatDoor
open Go.RowKit

def hL (c : Nat) (T : List UInt8) (H : Nat) : Lg := ⟨1, ⟨1, 0, 480, 480, 0, c⟩, 480, T, H⟩
theorem flo480 : flo 480 = 480 := by decide
section
variable {c H n : Nat} {T : List UInt8} {w0 w : World} {X : Bk} {D : Dk} {L : Lg}
theorem hL_new : lgN 1 c = hL c [] 0 := rfl
theorem hL_end : endOf (hL c T H) = 480 + T.length := by show flo 480 + T.length = _; rw [flo480]
theorem hL_room : roomOf (hL c T H) = ((480 * c : Nat) : Int) - (T.length : Int) - (H : Int) := by
  unfold roomOf
  rw [hL_end]
  show (((480 / 480 + c) * 480 : Nat) : Int) - ((480 + T.length : Nat) : Int) - (H : Int) = _
  omega
theorem hL_ok (h4 : 4 ≤ c) (h9 : c ≤ 9) (hs : T.length + H ≤ 480 * c) : (hL c T H).Ok (dk2 (c + 3) 1 c) :=
  ⟨⟨by show 1 < _; decide, by show 0 < _; decide, by show 480 < _; decide, by show 480 < _; decide, by show 0 < _; decide, by show c < _; omega⟩, ⟨h4, by show c ≤ 4096; omega⟩, by rw [dk2_len]; show 1 + 1 + c ≤ c + 3; omega, by show 480 < _; decide, by show T.length < _; omega, by show H < _; omega⟩
/-- The world with n noughts more. -/
def mkW (n : Nat) (W : World) : World := W.alloc (.cells (madeCells #[.int .u8 0] n) 5)
theorem mkW_ext (n : Nat) (W : World) : Ext W (mkW n W) := Ext.alloc W _
theorem mkW_rd (n : Nat) (W : World) : Rd (mkW n W) (some ⟨W.heap.size, 0, none⟩) (List.replicate n 0) := (Blk.made W n).rd
theorem mkW_not (h : LgAt w0 w X D L) (n : Nat) : ∀ a, some (⟨w.heap.size, 0, none⟩ : Addr) = some a → ¬ X.has a.block ∧ a.block < (mkW n w).heap.size := fun a ha => by
  have := new_not h a ha
  exact ⟨this.1, by unfold mkW; simpa using this.2⟩
theorem mkW_run (n : Nat) (hn : n ≤ 1200) (W : World) : (Instr.makeSlice 32 (.int .i64 (n : Int)) (.int .i64 (n : Int))).run Tryz.prog W = .ok (.slice (some ⟨W.heap.size, 0, none⟩) n n) (mkW n W) := run_make_bytes n (by omega) W
/-- So many bytes more, so many more held. -/
def mT (T p : List UInt8) : List UInt8 := (T ++ be2 p.length) ++ p
theorem mT_len (T p : List UInt8) : (mT T p).length = T.length + 2 + p.length := by
  unfold mT
  rw [List.length_append, List.length_append]
  show T.length + (be2 p.length).length + _ = _
  rw [show (be2 p.length).length = 2 from rfl]
theorem held_app (h4 : 4 ≤ c) (h9 : c ≤ 9) (h : LgAt w0 w X (dk2 (c + 3) 1 c) (hL c T H)) (P : Option Addr) (cc : Nat) (p : List UInt8) (hn : p.length = n) (k : Nat) (hr : Rd w P p) (hP : ∀ a, P = some a → ¬ X.has a.block ∧ a.block < w.heap.size) (h1 : 0 < n) (h2 : n ≤ 1200) (hs : T.length + H + 2 + n + k ≤ 480 * c) :
    Calls Tryz.prog 19 #[.pointer (some ⟨X.q, 0, none⟩), .slice P n cc, .int .i64 (k : Int)] w (LPost w0 w X (.tuple #[.int .u64 ((480 + T.length : Nat) : Int), .int .i64 0]) (dk2 (c + 3) 1 c) (hL c (mT T p) (H + k))) := by
  have kk := append_any h (hL_ok h4 h9 (by omega)) (by show 480 < _; decide) P cc n p (k : Int) hr hn (by omega) hP (by show T.length < _; omega) (by omega)
  have e0 : apE (hL c T H) n (k : Int) = 0 := by unfold apE; rw [if_neg (by omega), if_neg (by omega), hL_room, if_neg (by omega)]
  have e1 : apR (hL c T H) p (k : Int) = .tuple #[.int .u64 ((480 + T.length : Nat) : Int), .int .i64 0] := by unfold apR; rw [hn, e0, if_pos rfl, hL_end]
  have e2 : apL (hL c T H) p (k : Int) = hL c (mT T p) (H + k) := by unfold apL; rw [hn, e0, if_pos rfl]; rfl
  rw [e1, e2] at kk
  exact kk
theorem held_full (h4 : 4 ≤ c) (h9 : c ≤ 9) (h : LgAt w0 w X (dk2 (c + 3) 1 c) (hL c T H)) (P : Option Addr) (cc : Nat) (p : List UInt8) (hn : p.length = n) (k : Nat) (hr : Rd w P p) (hP : ∀ a, P = some a → ¬ X.has a.block ∧ a.block < w.heap.size) (h1 : 0 < n) (h2 : n ≤ 1200) (hk : k < 100000) (h0 : T.length + H ≤ 480 * c) (hs : ¬ T.length + H + 2 + n + k ≤ 480 * c) :
    Calls Tryz.prog 19 #[.pointer (some ⟨X.q, 0, none⟩), .slice P n cc, .int .i64 (k : Int)] w (LPost w0 w X (.tuple #[.int .u64 0, .int .i64 9]) (dk2 (c + 3) 1 c) (hL c T H)) := by
  have kk := append_any h (hL_ok h4 h9 h0) (by show 480 < _; decide) P cc n p (k : Int) hr hn (by omega) hP (by show T.length < _; omega) (by omega)
  have e0 : apE (hL c T H) n (k : Int) = 9 := by unfold apE; rw [if_neg (by omega), if_neg (by omega), hL_room, if_pos (by omega)]
  have e1 : apR (hL c T H) p (k : Int) = .tuple #[.int .u64 0, .int .i64 9] := by unfold apR; rw [hn, e0, if_neg (by decide)]
  have e2 : apL (hL c T H) p (k : Int) = hL c T H := by unfold apL; rw [hn, e0, if_neg (by decide)]
  rw [e1, e2] at kk
  exact kk
/-- A disk whose power is on, and not to go off. -/
def Awk (D : Dk) : Prop := D.off = false ∧ D.arm = 0
theorem awk_write (h : Awk D) (i : Nat) (p : List UInt8) (hi : i < D.dur.length) (hp : p.length = 512) : wE D (i : Int) p = 0 ∧ Awk (wD D (i : Int) p) ∧ (wD D (i : Int) p).dur.length = D.dur.length := by
  obtain ⟨h1, h2⟩ := h
  unfold wE wD
  have ha : ¬ ((i : Int) < 0 ∨ (D.dur.length : Int) ≤ (i : Int)) := by omega
  have hb : ¬ p.length ≠ 512 := by omega
  have hc : ¬ D.off = true := by rw [h1]; decide
  simp only [if_neg ha, if_neg hb, if_neg hc]
  refine ⟨?_, ⟨?_, ?_⟩, rfl⟩
  · show (if D.arm = 1 then (8 : Int) else 0) = 0
    rw [h2]
    rfl
  · show (D.off || decide (D.arm = 1)) = false
    rw [h1, h2]
    rfl
  · show D.arm - 1 = 0
    rw [h2]
theorem awk_sync (h : Awk D) : sE D = 0 := by
  obtain ⟨h1, h2⟩ := h
  unfold sE
  rw [if_neg (by rw [h1]; decide), if_neg (by omega)]
theorem awk_flW (L : Lg) (hc : L.at_ + 1 + L.hd.cn ≤ n) (h0 : 0 < L.hd.cn) : ∀ (f k : Nat) (D : Dk), Awk D → D.dur.length = n → (flW L f k D).1 = 0 ∧ Awk (flW L f k D).2 ∧ (flW L f k D).2.dur.length = n
  | 0, _, D, h, hd => ⟨rfl, h, hd⟩
  | f + 1, k, D, h, hd => by
    unfold flW
    split
    · exact ⟨rfl, h, hd⟩
    · have hlt : secOf L (flA L k) < D.dur.length := by
        have := Nat.mod_lt (flA L k / 480) h0
        unfold secOf
        omega
      have hw := awk_write h (secOf L (flA L k)) (flP L k) hlt (by
        unfold flP partB
        exact sealB_length (by simp [ptNs]) (by rw [List.length_take]; omega))
      have e1 : wE D (flS L k) (flP L k) = 0 := hw.1
      rw [e1, if_neg (by decide)]
      exact awk_flW L hc h0 f (k + 1) _ hw.2.1 (by rw [← hd]; exact hw.2.2)
theorem awk_dk2 {a : Nat} : Awk (dk2 n a c) := ⟨rfl, rfl⟩
/-- A Flush of it is well, and leaves as much room and held. -/
theorem held_flE (h4 : 4 ≤ c) : flE (dk2 (c + 3) 1 c) (hL c T H) = 0 := by
  unfold flE
  split
  · rename_i h
    cases h
  · split
    · rfl
    · have h := awk_flW (n := c + 3) (hL c T H) (by show 1 + 1 + c ≤ _; omega) (by show 0 < c; omega) (hL c T H).tail.length 0 (dk2 (c + 3) 1 c) awk_dk2 dk2_len
      have h1 : (flZ (dk2 (c + 3) 1 c) (hL c T H)).1 = 0 := h.1
      rw [h1, if_neg (by decide)]
      exact awk_sync h.2.1
theorem sD_len (D : Dk) : (sD D).dur.length = D.dur.length := by
  unfold sD
  split
  · rfl
  · split
    · rfl
    · exact durK_len (fun _ => true) D.dur D.pen D.pen.length
theorem held_flD (h4 : 4 ≤ c) : (flD (dk2 (c + 3) 1 c) (hL c T H)).dur.length = c + 3 := by
  have h := awk_flW (n := c + 3) (hL c T H) (by show 1 + 1 + c ≤ _; omega) (by show 0 < c; omega) (hL c T H).tail.length 0 (dk2 (c + 3) 1 c) awk_dk2 dk2_len
  unfold flD
  split
  · exact dk2_len
  · split
    · exact dk2_len
    · split
      · exact h.2.2
      · rw [sD_len]
        exact h.2.2
theorem held_flL (h4 : 4 ≤ c) (hs : T.length + H ≤ 480 * c) : roomOf (flL (dk2 (c + 3) 1 c) (hL c T H)) = roomOf (hL c T H) ∧ (flL (dk2 (c + 3) 1 c) (hL c T H)).held = H ∧ (flL (dk2 (c + 3) 1 c) (hL c T H)).hd = (hL c T H).hd ∧ (flL (dk2 (c + 3) 1 c) (hL c T H)).at_ = 1 ∧ (flL (dk2 (c + 3) 1 c) (hL c T H)).sure ≤ 480 + 480 * c ∧ (flL (dk2 (c + 3) 1 c) (hL c T H)).tail.length ≤ 480 * c := by
  unfold flL
  split
  · refine ⟨?_, rfl, rfl, rfl, ?_, ?_⟩
    · have e : endOf (sureL (hL c T H)) = endOf (hL c T H) := by
        unfold endOf sureL
        simp only [List.length_drop]
        show flo (endOf (hL c T H)) + (T.length - flo T.length) = endOf (hL c T H)
        rw [hL_end]
        unfold flo
        omega
      unfold roomOf
      rw [e]
      rfl
    · show endOf (hL c T H) ≤ _
      rw [hL_end]
      omega
    · show (T.drop (flo T.length)).length ≤ _
      rw [List.length_drop]
      omega
  · exact ⟨rfl, rfl, rfl, rfl, by show 480 ≤ _; omega, by show T.length ≤ _; omega⟩
/-- Flush and what comes behind it. -/
theorem held_flush (h4 : 4 ≤ c) (h9 : c ≤ 9) (h : LgAt w0 w X (dk2 (c + 3) 1 c) (hL c T H)) (hs : T.length + H ≤ 480 * c) (hT : Tab w0) :
    Calls Tryz.prog 26 #[.pointer (some ⟨X.q, 0, none⟩)] w (LPost w0 w X (.int .i64 0) (flD (dk2 (c + 3) 1 c) (hL c T H)) (flL (dk2 (c + 3) 1 c) (hL c T H))) := by
  have k := flush_any h (hL_ok h4 h9 hs) (dk2_bd (by omega) (by omega)) (by show 0 < _; decide) (by show 5 < _; decide) (by show T.length < _; omega) hT
  rw [held_flE h4] at k
  exact k
theorem held_flok (h4 : 4 ≤ c) (h9 : c ≤ 9) (hs : T.length + H ≤ 480 * c) : (flL (dk2 (c + 3) 1 c) (hL c T H)).Ok (flD (dk2 (c + 3) 1 c) (hL c T H)) := by
  obtain ⟨e1, e2, e3, e4, e5, e6⟩ := held_flL (c := c) (T := T) (H := H) h4 hs
  have ok := hL_ok h4 h9 hs
  exact ⟨by rw [e3]; exact ok.hd, by rw [e3]; exact ok.cn, by rw [e3, e4, held_flD h4]; show 1 + 1 + c ≤ _; omega, by omega, by omega, by rw [e2]; omega⟩
theorem held_flroom (h4 : 4 ≤ c) (h9 : c ≤ 9) (hs : T.length + H ≤ 480 * c) (h : LgAt w0 w X (flD (dk2 (c + 3) 1 c) (hL c T H)) (flL (dk2 (c + 3) 1 c) (hL c T H))) :
    Calls Tryz.prog 43 #[.pointer (some ⟨X.q, 0, none⟩)] w (fun e w' => e = .returned (.int .i64 ((480 * c - T.length - H : Nat) : Int)) ∧ ∃ m, w' = w.drewN m) := by
  obtain ⟨e1, e2, e3, e4, e5, e6⟩ := held_flL (c := c) (T := T) (H := H) h4 hs
  have k := room_any h (held_flok h4 h9 hs) (by rw [e3]; show 480 < _; decide)
  rw [e1, hL_room, show ((480 * c : Nat) : Int) - (T.length : Int) - (H : Int) = ((480 * c - T.length - H : Nat) : Int) by omega] at k
  exact k
theorem held_room (h4 : 4 ≤ c) (h9 : c ≤ 9) (hs : T.length + H ≤ 480 * c) (h : LgAt w0 w X (dk2 (c + 3) 1 c) (hL c T H)) :
    Calls Tryz.prog 43 #[.pointer (some ⟨X.q, 0, none⟩)] w (fun e w' => e = .returned (.int .i64 ((480 * c - T.length - H : Nat) : Int)) ∧ ∃ m, w' = w.drewN m) := by
  have k := room_any h (hL_ok h4 h9 hs) (by show 480 < _; decide)
  rw [hL_room, show ((480 * c : Nat) : Int) - (T.length : Int) - (H : Int) = ((480 * c - T.length - H : Nat) : Int) by omega] at k
  exact k
/-- One byte. -/
def mk1 (W : World) : World := W.alloc (.cells #[.int .u8 1] 5)
theorem mk1_run (W : World) : (Instr.buildSlice 32 1 #[(0, .int .u8 1)]).run Tryz.prog W = .ok (.slice (some ⟨W.heap.size, 0, none⟩) 1 1) (mk1 W) := by kernel_rfl
theorem mk1_ext (W : World) : Ext W (mk1 W) := Ext.alloc W _
theorem mk1_rd (W : World) : Rd (mk1 W) (some ⟨W.heap.size, 0, none⟩) [1] := Rd.of_rw (Rw.new W 5 (bs [1]))
theorem mk1_not (h : LgAt w0 w X D L) : ∀ a, some (⟨w.heap.size, 0, none⟩ : Addr) = some a → ¬ X.has a.block ∧ a.block < (mk1 w).heap.size := fun a ha => by
  have := new_not h a ha
  exact ⟨this.1, by unfold mk1; simpa using this.2⟩
end
end Go.Proofs.YtnkcneccolbbdaaGreatDoor

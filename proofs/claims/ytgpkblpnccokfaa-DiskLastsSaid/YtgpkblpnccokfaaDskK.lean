/-
  The walk of DiskKeeps.
-/
import Derived.Test.YtgpkblpnccokfaaDskP
import Derived.Test.YtgpkblpnccokfaaGive
namespace Go.Proofs.Ytgpkblpnccokfaa
open Go.RowKit

theorem DiskAt.foreign {B g gd gn c : Nat} {w : World} {A : Option Addr} {D : Dk} (h : DiskAt B w g gd gn A c D) {k : Nat} (h1 : k ≠ g) (h2 : k ≠ gd) (h3 : k ≠ gn) (h4 : ∀ a, A = some a → a.block ≠ k) (i : Nat) (v : Value) : DiskAt B (w.setCell ⟨k, i, none⟩ v) g gd gn A c D :=
  ⟨h.blk.far (fun e => h1 e.symm) v, h.dur.far (fun e => h2 e.symm) v, h.new.far (fun e => h3 e.symm) v, ownsRow_far h.pen fun a ha => Below.heap_setCell w ⟨k, i, none⟩ v a.block (h4 a ha), h.base⟩
/-- A block of the call's own, of bytes, beside a disk, that is written over; and others that stay. -/
structure Xr (B g gd gn : Nat) (A : Option Addr) (c : Nat) (D : Dk) (b0 : Nat) (h : Nat) (t : TypeId) (L : List Nat) (f : List UInt8) (wr : World) : Prop where
  disk : DiskAt B wr g gd gn A c D
  row : ∃ vs : List Value, (∀ j, j < 512 → ∃ z : Int, vs[j]? = some (.int .u8 z)) ∧ Rw wr h t vs
  low : B ≤ h
  ne : h ≠ g ∧ h ≠ gd ∧ h ≠ gn ∧ ∀ a, A = some a → a.block ≠ h
  keep : ∀ s ∈ L, s ≠ h ∧ Rw wr s 67 (bs f)
structure Xs (w0 : World) (g gd gn : Nat) (A : Option Addr) (c : Nat) (D : Dk) (h : Nat) (t : TypeId) (L : List Nat) (f : List UInt8) (wr : World) : Prop where
  x : Xr w0.heap.size g gd gn A c D w0.heap.size h t L f wr
  ext : Ext w0 wr
section
variable {w0 wr : World} {g gd gn c h : Nat} {A : Option Addr} {D : Dk} {t : TypeId} {L : List Nat} {f : List UInt8}
theorem Xs.get (H : Xs w0 g gd gn A c D h t L f wr) (k : Nat) (hk : k < 512) : ∃ z : Int, wr.cell? ⟨h, k, none⟩ = some (.int .u8 z) ∧ wr.frozen? ⟨h, k, none⟩ = false ∧ ∀ z', Xs w0 g gd gn A c D h t L f (wr.setCell ⟨h, k, none⟩ (.int .u8 z')) := by
  obtain ⟨⟨h1, ⟨vs, hv, hr⟩, h3, ⟨n1, n2, n3, n4⟩, h5⟩, hx⟩ := H
  obtain ⟨z, hz⟩ := hv k hk
  refine ⟨z, hr.cell hz, hr.frozen k, fun z' => ⟨⟨h1.foreign n1 n2 n3 n4 k _, ⟨vs.set k (.int .u8 z'), fun j hj => ?_, hr.set k _⟩, h3, ⟨n1, n2, n3, n4⟩, fun s hs => ⟨(h5 s hs).1, (h5 s hs).2.far (h5 s hs).1 _⟩⟩, Below.setCell (p := ⟨h, k, none⟩) hx h3 _⟩⟩
  rw [List.getElem?_set]
  split
  · rename_i e
    subst e
    obtain ⟨hl, -⟩ := List.getElem?_eq_some_iff.1 hz
    rw [if_pos hl]
    exact ⟨_, rfl⟩
  · exact hv j hj
/-- A new block of bytes. -/
theorem Xs.mk_new {w1 : World} (hd : DiskAt w0.heap.size w1 g gd gn A c D) (hx : Ext w0 w1) (hx2 : Ext w1 wr) (hh : w1.heap.size ≤ h) (hr : Rw wr h t (bs f)) (hf : f.length = 512) (hL : ∀ s ∈ L, Rw w1 s 67 (bs f)) : Xs w0 g gd gn A c D h t L f wr := by
  have l1 := hd.blk.lt
  have l2 := hd.dur.lt
  have l3 := hd.new.lt
  have l4 := own_base hd.pen
  refine ⟨⟨hd.ext hx2, ⟨bs f, fun j hj => ?_, hr⟩, Nat.le_trans hx.size hh, ⟨by omega, by omega, by omega, fun a ha => by have := (l4 a ha).2; omega⟩, fun s hs => ⟨?_, (hL s hs).ext hx2⟩⟩, hx.trans hx2⟩
  · rw [bs_get, List.getElem?_eq_getElem (by omega)]
    exact ⟨_, rfl⟩
  · have := (hL s hs).lt
    omega
end
theorem full_ret {P : Option Addr} {n c : Nat} {l : List UInt8} (hn : l.length = n) {W : World} (hr : Rd W P l) : Calls Try.prog 20 #[.slice P n c] W (Ret W (Bytes (fullS l))) := by
  subst hn
  refine (full_raw P c l W hr).mono fun e w' ⟨h, he, hw, hs, hx⟩ => ⟨_, he, hx, _, _, by rw [fullS_length], by rw [fullS_length]; exact Nat.le_refl _, Rd.of_rw hw⟩
theorem full_at {P : Option Addr} {n c : Nat} {l : List UInt8} (hn : l.length = n) {W : World} (hr : Rd W P l) : Calls Try.prog 20 #[.slice P n c] W (FPost W (fullS l)) := by
  subst hn
  exact full_raw P c l W hr
theorem D1_at (f : List UInt8) : ((D0 1).more 0 f).at 0 = f := rfl
theorem D2_at (f : List UInt8) : (((D0 1).more 0 f).op.settled fun _ => true).at 0 = f := rfl
theorem read_D {D : Dk} {f : List UInt8} (hf : D.at 0 = f) (ok : D.Ok) (hoff : D.off = false) (hp : D.pen.length < 1000000000) {B g gd gn c : Nat} {w : World} {A : Option Addr} (h : DiskAt B w g gd gn A c D) :
    Calls Try.prog 18 #[.pointer (some ⟨g, 0, none⟩), .int .i64 0] w (RPost w f) := by
  have := read_any h ok hoff hp 0 ok.pos
  rw [hf] at this
  exact this
/-- A block that was new stays over a call of the disk. -/
theorem kept_new {B g gd gn c h : Nat} {w w1 w2 : World} {A : Option Addr} {D : Dk} {t : TypeId} {vs : List Value} (hd : DiskAt B w g gd gn A c D) (hx : Ext w w1) (hh : w.heap.size ≤ h) (hr : Rw w1 h t vs) (k : Dfr g gd gn A w1 w2) : Rw w2 h t vs := by
  have l1 := hd.blk.lt
  have l2 := hd.dur.lt
  have l3 := hd.new.lt
  have l4 := own_base hd.pen
  exact (k.other h hr.lt (by omega) (by omega) (by omega) (fun a ha => by have := (l4 a ha).2; omega)).trans hr
theorem Xs.mk_first {w0 w1 w2 w3 : World} {g gd gn h c c2 : Nat} {A : Option Addr} {D D2 : Dk} {t : TypeId} {f : List UInt8} (hd : DiskAt w0.heap.size w1 g gd gn none c D) (hx : Ext w0 w1) (hx2 : Ext w1 w2) (hh : w1.heap.size ≤ h) (hr : Rw w2 h t (bs f)) (hf : f.length = 512)
    (hd2 : DiskAt w0.heap.size w3 g gd gn A c2 D2) (k : Dfr g gd gn none w2 w3) (hn : Newer w2 none A) : Xs w0 g gd gn A c2 D2 h t [] f w3 := by
  have l1 := hd.blk.lt
  have l2 := hd.dur.lt
  have l3 := hd.new.lt
  have l4 := hr.lt
  refine ⟨⟨hd2, ⟨bs f, fun j hj => ?_, kept_new hd hx2 hh hr k⟩, Nat.le_trans hx.size hh, ⟨by omega, by omega, by omega, fun a ha => ?_⟩, fun s hs => by cases hs⟩, Dfr.grown (hx.trans hx2) (hd.ext hx2) k⟩
  · rw [bs_get, List.getElem?_eq_getElem (by omega)]
    exact ⟨_, rfl⟩
  · rcases hn a ha with ⟨b, hb, -⟩ | h2
    · cases hb
    · omega
/-- A block that is none of the disk's stays. -/
theorem Dfr.keeps {B g gd gn c h : Nat} {w w' : World} {A : Option Addr} {D : Dk} (k : Dfr g gd gn A w w') (hd : DiskAt B w g gd gn A c D) {t : TypeId} {vs : List Value} (hr : Rw w h t vs) (h1 : h ≠ g) (h2 : h ≠ gd) (h3 : h ≠ gn) (h4 : ∀ a, A = some a → a.block ≠ h) : Rw w' h t vs :=
  (k.other h hr.lt h1 h2 h3 h4).trans hr
set_option maxRecDepth 20000 in
set_option maxHeartbeats 1600000 in
theorem diskKeeps_walk (P : Option Addr) (c : Nat) (l : List UInt8) (w : World) (hP : Rd w P l) :
    Calls Try.prog 4 #[.slice P l.length c] w (Ret w (Is (.bool true))) := by
  have KA := hide awake_any
  have KN := hide new_one
  obtain ⟨n, HN⟩ : ∃ n, Hid (l.length = n) := ⟨_, hide rfl⟩
  rw [HN.out]
  obtain ⟨f, HF⟩ : ∃ f, Hid (fullS l = f) := ⟨_, hide rfl⟩
  have LF : Hid (f.length = 512) := hide (by rw [← HF.out]; exact fullS_length l)
  have HP := hide hP
  have KFA : Hid (∀ W, Keeps w W → Calls Try.prog 20 #[.slice P n c] W (FPost W f)) := hide fun W hW => by
    have := full_at (c := c) HN.out (HP.out.keep hW)
    rw [HF.out] at this
    exact this
  have KFR : Hid (∀ W, Keeps w W → Calls Try.prog 20 #[.slice P n c] W (Ret W (Bytes f))) := hide fun W hW => by
    have := full_ret (c := c) HN.out (HP.out.keep hW)
    rw [HF.out] at this
    exact this
  have OK1 : Hid (((D0 1).more 0 f).Ok) := hide (Dk.more_ok (D0_ok 1 (by decide) (by decide)) (k := 0) (by rw [D0_len]; decide) LF.out)
  have OK2 : Hid ((((D0 1).more 0 f).op.settled fun _ => true).Ok) := hide (settled_ok (Dk.op_ok OK1.out) _)
  clear hP HP
  go_enter Try.func4, Try.ntmps4
  go_wp2_with (first
    | (go_at_call 8; (with_reducible refine (KA.out _).mono ?_); rintro e w1 ⟨rfl, hx1⟩; have X1 := hide hx1; clear hx1)
    | (go_at_call 9; (with_reducible refine (KN.out _).mono ?_); rintro e w2 ⟨g, gd, gn, rfl, hd2, hx2⟩; have H2 := hide hd2; have X2 := hide hx2; clear hd2 hx2)
    | (go_at_call 20; (with_reducible refine (KFA.out _ (X1.out.trans X2.out).keeps).mono ?_); rintro e w3 ⟨hq, rfl, hr3, hg3, hx3⟩;
       have R3 := hide hr3; have G3 := hide hg3; have X3 := hide hx3; clear hr3 hg3 hx3)
    | (go_at_call 21;
       have KW := write_zero (q := hq) (H2.out.ext X3.out) (D0_ok 1 (by decide) (by decide)) rfl rfl (by show 0 < 1000000; decide) (by show 0 < 1000000; decide) (by rw [D0_len]; decide) f LF.out R3.out (X2.out.trans X3.out).size;
       (with_reducible refine KW.mono ?_); clear KW;
       rintro e w4 ⟨A4, d4, rfl, hd4, hf4, hn4⟩;
       have H4 := hide hd4; have F4 := hide hf4; have N4 := hide hn4; clear hd4 hf4 hn4))
  have XQ : Hid (Xs w1 g gd gn A4 d4 ((D0 1).more 0 f) hq 5 [] f w4) := hide (Xs.mk_first H2.out X2.out X3.out G3.out R3.out LF.out H4.out F4.out N4.out)
  clear H2 X2 R3 G3 X3 H4 F4 N4 KA KN KFA
  go_loopw [6] (fun iv wr => ∃ k : Nat, k ≤ 512 ∧ iv = .int .i64 (k : Int) ∧ Hid (Xs w1 g gd gn A4 d4 ((D0 1).more 0 f) hq 5 [] f wr)) (fun iv _ => 512 - (intOf iv).toNat)
  case atStart => exact ⟨0, by omega, rfl, XQ⟩
  case round =>
    obtain ⟨k, hk, rfl, HX⟩ := hrel
    clear XQ
    by_cases hlt : k < 512
    · have hki : (k : Int) < 512 := by omega
      have hk0 : (0 : Int) ≤ (k : Int) := by omega
      obtain ⟨z, hcz, hfz, hxz⟩ := HX.out.get k hlt
      have HZ := hide hxz
      clear hxz
      go_wp2
      refine ⟨⟨k + 1, by omega, by go_num, hide (HZ.out _)⟩, by simp [intOf]; omega⟩
    · have hki : ¬ (k : Int) < 512 := by omega
      clear hlt hk
      have KR1 := hide (read_D (D1_at f) OK1.out rfl (by show 1 < 1000000000; decide) HX.out.x.disk)
      go_upto_region 12 with (go_at_call 18; (with_reducible refine (KR1.out).mono ?_); rintro e w5 ⟨hr, rfl, hr, hg, hx⟩; have RR := hide hr; have GR := hide hg; have XR := hide hx; clear hr hg hx)
      have XR : Hid (Xs w1 g gd gn A4 d4 ((D0 1).more 0 f) hr 67 [] f w5) := hide (Xs.mk_new HX.out.x.disk HX.out.ext XR.out GR.out RR.out LF.out (fun s hs => by cases hs))
      clear HX KR1 RR GR
      go_wp2
      go_loopw [9] (fun iv wr => ∃ k : Nat, k ≤ 512 ∧ iv = .int .i64 (k : Int) ∧ Hid (Xs w1 g gd gn A4 d4 ((D0 1).more 0 f) hr 67 [] f wr)) (fun iv _ => 512 - (intOf iv).toNat)
      case atStart => exact ⟨0, by omega, rfl, XR⟩
      case round =>
        obtain ⟨k, hk, rfl, HX⟩ := hrel
        clear XR
        by_cases hlt : k < 512
        · have hki : (k : Int) < 512 := by omega
          have hk0 : (0 : Int) ≤ (k : Int) := by omega
          obtain ⟨z, hcz, hfz, hxz⟩ := HX.out.get k hlt
          have HZ := hide hxz
          clear hxz
          go_wp2
          refine ⟨⟨k + 1, by omega, by go_num, hide (HZ.out _)⟩, by simp [intOf]; omega⟩
        · have hki : ¬ (k : Int) < 512 := by omega
          clear hlt hk
          have KR2 := hide (read_D (D1_at f) OK1.out rfl (by show 1 < 1000000000; decide) HX.out.x.disk)
          rename_i wr2 _
          have KSY := hide fun (W : World) (A : Option Addr) (c : Nat) (h : DiskAt w1.heap.size W g gd gn A c ((D0 1).more 0 f)) (hB : w1.heap.size ≤ W.heap.size) => sync_any h OK1.out rfl (by show (0 : Nat) ≠ 1; decide) (by show 0 < 1000000000; decide) (by show 1 < 1000000; decide) (by show 1 < 1000000; decide) hB
          go_upto_region 18 with (first
            | (go_at_call 18; (with_reducible refine (KR2.out).mono ?_); rintro e w6 ⟨hs, rfl, hr, hg, hx⟩; have RS := hide hr; have GS := hide hg; have XS := hide hx; clear hr hg hx)
            | (go_at_call 22; (with_reducible refine (KSY.out _ _ _ (HX.out.x.disk.ext XS.out) (HX.out.ext.trans XS.out).size).mono ?_); rintro e w7 ⟨A7, d7, rfl, hd7, hf7, hn7⟩; have H7 := hide hd7; have F7 := hide hf7; clear hd7 hf7 hn7))
          have RS7 : Hid (Rw w7 hs 67 (bs f)) := hide (kept_new HX.out.x.disk XS.out GS.out RS.out F7.out)
          have X7 : Hid (Ext w1 w7) := hide (Dfr.grown (HX.out.ext.trans XS.out) (HX.out.x.disk.ext XS.out) F7.out)
          have KR3 := hide (read_D (D2_at f) OK2.out rfl (by show 0 < 1000000000; decide) H7.out)
          clear KSY KR2 HX GS RS XS F7
          go_upto_region 19 with (go_at_call 18; (with_reducible refine (KR3.out).mono ?_); rintro e w8 ⟨ht, rfl, hr, hg, hx⟩; have RT := hide hr; have GT := hide hg; have XT := hide hx; clear hr hg hx)
          have XT : Hid (Xs w1 g gd gn A7 d7 (((D0 1).more 0 f).op.settled fun _ => true) ht 67 [hs] f w8) := hide (Xs.mk_new H7.out X7.out XT.out GT.out RT.out LF.out (fun s hs => by rw [List.mem_singleton.1 hs]; exact RS7.out))
          clear H7 X7 RS7 KR3 RT GT
          go_wp2
          go_loopw [15] (fun iv wr => ∃ k : Nat, k ≤ 512 ∧ iv = .int .i64 (k : Int) ∧ Hid (Xs w1 g gd gn A7 d7 (((D0 1).more 0 f).op.settled fun _ => true) ht 67 [hs] f wr)) (fun iv _ => 512 - (intOf iv).toNat)
          case atStart => exact ⟨0, by omega, rfl, XT⟩
          case round =>
            obtain ⟨k, hk, rfl, HX⟩ := hrel
            clear XT
            by_cases hlt : k < 512
            · have hki : (k : Int) < 512 := by omega
              have hk0 : (0 : Int) ≤ (k : Int) := by omega
              obtain ⟨z, hcz, hfz, hxz⟩ := HX.out.get k hlt
              have HZ := hide hxz
              clear hxz
              go_wp2
              refine ⟨⟨k + 1, by omega, by go_num, hide (HZ.out _)⟩, by simp [intOf]; omega⟩
            · have hki : ¬ (k : Int) < 512 := by omega
              clear hlt hk
              have KR4 := hide (read_D (D2_at f) OK2.out rfl (by show 0 < 1000000000; decide) HX.out.x.disk)
              go_upto_region 24 with (go_at_call 18; (with_reducible refine (KR4.out).mono ?_); rintro e w9 ⟨hu, rfl, hr, hg, hx⟩; have RU := hide hr; have GU := hide hg; have XU := hide hx; clear hr hg hx)
              have XE : Hid (Ext w w9) := hide (X1.out.trans (HX.out.ext.trans XU.out))
              have BU : Hid (Bytes f w9 (.slice (some ⟨hu, 0, none⟩) 512 512)) := hide ⟨_, _, by rw [LF.out], by rw [LF.out]; exact Nat.le_refl _, Rd.of_rw RU.out⟩
              have BS : Hid (Bytes f w9 (.slice (some ⟨hs, 0, none⟩) 512 512)) := hide ⟨_, _, by rw [LF.out], by rw [LF.out]; exact Nat.le_refl _, Rd.of_rw ((HX.out.x.keep hs (by simp)).2.ext XU.out)⟩
              have KF : Hid (∀ W, Keeps w9 W → Calls Try.prog 20 #[.slice P n c] W (Ret W (Bytes f))) := hide fun W hW => KFR.out W (XE.out.keeps.trans hW)
              rename_i hK
              refine wp_region_sp XE.out.size [
                  Sp.is (.int .i64 0),
                  Sp.is (.bool true),
                  Sp.is (.bool true),
                  Sp.is (.int .i64 0),
                  Sp.is (.bool true),
                  Sp.is (.bool true),
                  Sp.is (.bool true),
                  Sp.is (.int .i64 0),
                  Sp.is (.bool true),
                  Sp.is (.bool true),
                  Sp.is (.bool true),
                  Sp.is (.int .i64 0),
                  Sp.is (.bool true),
                  Sp.is (.bool true),
                  Sp.is (.bool true),
                  Sp.is (.int .i64 0),
                  Sp.is (.bool true),
                  Sp.is (.bool true),
                  Sp.is (.bool true),
                  Sp.bytes f,
                  Sp.is (.string ⟨(f).toArray⟩),
                  Sp.is (.slice P n c),
                  Sp.bytes f,
                  Sp.is (.string ⟨(f).toArray⟩),
                  Sp.is (.bool true),
                  Sp.is (.bool true),
                  Sp.is (.bool true),
                  Sp.bytes f,
                  Sp.is (.string ⟨(f).toArray⟩),
                  Sp.is (.slice P n c),
                  Sp.bytes f,
                  Sp.is (.string ⟨(f).toArray⟩),
                  Sp.is (.bool true),
                  Sp.is (.bool true),
                  Sp.is (.bool true)] (by kernel_rfl) (by kernel_rfl) ?_ ?_
              · refine ⟨?_, ?_, ?_, ?_, ?_, ?_, ?_, ?_, ?_, ?_, ?_, ?_, ?_, ?_, ?_, ?_, ?_, ?_, ?_, ?_, ?_, ?_, ?_, ?_, ?_, ?_, ?_, ?_, ?_, ?_, ?_, ?_, ?_, ?_, ?_, trivial⟩
                · intro az wz hx hB hk H
                  refine .inl ⟨wanted_none rfl, ?_⟩
                  refine gives_move rfl ?_
                  rw [(ev (show az.tmps[8]? = some (.int .i64 0) from hk 8 rfl))]
                  exact ⟨Grw.refl _ _, rfl⟩
                · intro az wz hx hB hk H
                  obtain ⟨v94, h94, s94⟩ := H 0 rfl _ rfl 94 rfl
                  refine .inl ⟨wanted_none rfl, ?_⟩
                  refine gives_eql_int (k := .i64) (0) (0) rfl ?_ ?_ ⟨Grw.refl _ _, congrArg Value.bool (by simp)⟩
                  · rw [(ev h94)]
                    exact s94
                  · rfl
                · intro az wz hx hB hk H
                  obtain ⟨v95, h95, s95⟩ := H 1 rfl _ rfl 95 rfl
                  refine .inl ⟨wanted_none rfl, ?_⟩
                  refine gives_move rfl ?_
                  rw [(ev h95)]
                  exact ⟨Grw.refl _ _, s95⟩
                · intro az wz hx hB hk H
                  obtain ⟨v96, h96, s96⟩ := H 2 rfl _ rfl 96 rfl
                  have g0 : az.tmps[96]? = some (.bool true) := by rw [h96]; exact congrArg some s96
                  refine .inl ⟨wanted_yes _ rfl rfl rfl g0, ?_⟩
                  refine gives_move rfl ?_
                  rw [(ev (show az.tmps[11]? = some (.int .i64 0) from hk 11 rfl))]
                  exact ⟨Grw.refl _ _, rfl⟩
                · intro az wz hx hB hk H
                  obtain ⟨v96, h96, s96⟩ := H 2 rfl _ rfl 96 rfl
                  obtain ⟨v97, h97, s97⟩ := H 3 rfl _ rfl 97 rfl
                  have g0 : az.tmps[96]? = some (.bool true) := by rw [h96]; exact congrArg some s96
                  refine .inl ⟨wanted_yes _ rfl rfl rfl g0, ?_⟩
                  refine gives_eql_int (k := .i64) (0) (0) rfl ?_ ?_ ⟨Grw.refl _ _, congrArg Value.bool (by simp)⟩
                  · rw [(ev h97)]
                    exact s97
                  · rfl
                · intro az wz hx hB hk H
                  obtain ⟨v96, h96, s96⟩ := H 2 rfl _ rfl 96 rfl
                  obtain ⟨v98, h98, s98⟩ := H 4 rfl _ rfl 98 rfl
                  refine .inl ⟨wanted_none rfl, ?_⟩
                  refine gives_pick true rfl ?_ ?_
                  · rw [(ev h96)]
                    exact s96
                  · show Grw _ _ _ ∧ _
                    rw [if_pos rfl, (ev h98)]
                    exact ⟨Grw.refl _ _, s98⟩
                · intro az wz hx hB hk H
                  obtain ⟨v99, h99, s99⟩ := H 5 rfl _ rfl 99 rfl
                  refine .inl ⟨wanted_none rfl, ?_⟩
                  refine gives_move rfl ?_
                  rw [(ev h99)]
                  exact ⟨Grw.refl _ _, s99⟩
                · intro az wz hx hB hk H
                  obtain ⟨v100, h100, s100⟩ := H 6 rfl _ rfl 100 rfl
                  have g0 : az.tmps[100]? = some (.bool true) := by rw [h100]; exact congrArg some s100
                  refine .inl ⟨wanted_yes _ rfl rfl rfl g0, ?_⟩
                  refine gives_move rfl ?_
                  rw [(ev (show az.tmps[12]? = some (.int .i64 0) from hk 12 rfl))]
                  exact ⟨Grw.refl _ _, rfl⟩
                · intro az wz hx hB hk H
                  obtain ⟨v100, h100, s100⟩ := H 6 rfl _ rfl 100 rfl
                  obtain ⟨v101, h101, s101⟩ := H 7 rfl _ rfl 101 rfl
                  have g0 : az.tmps[100]? = some (.bool true) := by rw [h100]; exact congrArg some s100
                  refine .inl ⟨wanted_yes _ rfl rfl rfl g0, ?_⟩
                  refine gives_eql_int (k := .i64) (0) (0) rfl ?_ ?_ ⟨Grw.refl _ _, congrArg Value.bool (by simp)⟩
                  · rw [(ev h101)]
                    exact s101
                  · rfl
                · intro az wz hx hB hk H
                  obtain ⟨v100, h100, s100⟩ := H 6 rfl _ rfl 100 rfl
                  obtain ⟨v102, h102, s102⟩ := H 8 rfl _ rfl 102 rfl
                  refine .inl ⟨wanted_none rfl, ?_⟩
                  refine gives_pick true rfl ?_ ?_
                  · rw [(ev h100)]
                    exact s100
                  · show Grw _ _ _ ∧ _
                    rw [if_pos rfl, (ev h102)]
                    exact ⟨Grw.refl _ _, s102⟩
                · intro az wz hx hB hk H
                  obtain ⟨v103, h103, s103⟩ := H 9 rfl _ rfl 103 rfl
                  refine .inl ⟨wanted_none rfl, ?_⟩
                  refine gives_move rfl ?_
                  rw [(ev h103)]
                  exact ⟨Grw.refl _ _, s103⟩
                · intro az wz hx hB hk H
                  obtain ⟨v104, h104, s104⟩ := H 10 rfl _ rfl 104 rfl
                  have g0 : az.tmps[104]? = some (.bool true) := by rw [h104]; exact congrArg some s104
                  refine .inl ⟨wanted_yes _ rfl rfl rfl g0, ?_⟩
                  refine gives_move rfl ?_
                  rw [(ev (show az.tmps[14]? = some (.int .i64 0) from hk 14 rfl))]
                  exact ⟨Grw.refl _ _, rfl⟩
                · intro az wz hx hB hk H
                  obtain ⟨v104, h104, s104⟩ := H 10 rfl _ rfl 104 rfl
                  obtain ⟨v105, h105, s105⟩ := H 11 rfl _ rfl 105 rfl
                  have g0 : az.tmps[104]? = some (.bool true) := by rw [h104]; exact congrArg some s104
                  refine .inl ⟨wanted_yes _ rfl rfl rfl g0, ?_⟩
                  refine gives_eql_int (k := .i64) (0) (0) rfl ?_ ?_ ⟨Grw.refl _ _, congrArg Value.bool (by simp)⟩
                  · rw [(ev h105)]
                    exact s105
                  · rfl
                · intro az wz hx hB hk H
                  obtain ⟨v104, h104, s104⟩ := H 10 rfl _ rfl 104 rfl
                  obtain ⟨v106, h106, s106⟩ := H 12 rfl _ rfl 106 rfl
                  refine .inl ⟨wanted_none rfl, ?_⟩
                  refine gives_pick true rfl ?_ ?_
                  · rw [(ev h104)]
                    exact s104
                  · show Grw _ _ _ ∧ _
                    rw [if_pos rfl, (ev h106)]
                    exact ⟨Grw.refl _ _, s106⟩
                · intro az wz hx hB hk H
                  obtain ⟨v107, h107, s107⟩ := H 13 rfl _ rfl 107 rfl
                  refine .inl ⟨wanted_none rfl, ?_⟩
                  refine gives_move rfl ?_
                  rw [(ev h107)]
                  exact ⟨Grw.refl _ _, s107⟩
                · intro az wz hx hB hk H
                  obtain ⟨v108, h108, s108⟩ := H 14 rfl _ rfl 108 rfl
                  have g0 : az.tmps[108]? = some (.bool true) := by rw [h108]; exact congrArg some s108
                  refine .inl ⟨wanted_yes _ rfl rfl rfl g0, ?_⟩
                  refine gives_move rfl ?_
                  rw [(ev (show az.tmps[17]? = some (.int .i64 0) from hk 17 rfl))]
                  exact ⟨Grw.refl _ _, rfl⟩
                · intro az wz hx hB hk H
                  obtain ⟨v108, h108, s108⟩ := H 14 rfl _ rfl 108 rfl
                  obtain ⟨v109, h109, s109⟩ := H 15 rfl _ rfl 109 rfl
                  have g0 : az.tmps[108]? = some (.bool true) := by rw [h108]; exact congrArg some s108
                  refine .inl ⟨wanted_yes _ rfl rfl rfl g0, ?_⟩
                  refine gives_eql_int (k := .i64) (0) (0) rfl ?_ ?_ ⟨Grw.refl _ _, congrArg Value.bool (by simp)⟩
                  · rw [(ev h109)]
                    exact s109
                  · rfl
                · intro az wz hx hB hk H
                  obtain ⟨v108, h108, s108⟩ := H 14 rfl _ rfl 108 rfl
                  obtain ⟨v110, h110, s110⟩ := H 16 rfl _ rfl 110 rfl
                  refine .inl ⟨wanted_none rfl, ?_⟩
                  refine gives_pick true rfl ?_ ?_
                  · rw [(ev h108)]
                    exact s108
                  · show Grw _ _ _ ∧ _
                    rw [if_pos rfl, (ev h110)]
                    exact ⟨Grw.refl _ _, s110⟩
                · intro az wz hx hB hk H
                  obtain ⟨v111, h111, s111⟩ := H 17 rfl _ rfl 111 rfl
                  refine .inl ⟨wanted_none rfl, ?_⟩
                  refine gives_move rfl ?_
                  rw [(ev h111)]
                  exact ⟨Grw.refl _ _, s111⟩
                · intro az wz hx hB hk H
                  obtain ⟨v112, h112, s112⟩ := H 18 rfl _ rfl 112 rfl
                  have g0 : az.tmps[112]? = some (.bool true) := by rw [h112]; exact congrArg some s112
                  refine .inl ⟨wanted_yes _ rfl rfl rfl g0, ?_⟩
                  refine gives_move rfl ?_
                  rw [(ev (show az.tmps[10]? = some (.slice (some ⟨hs, 0, none⟩) 512 512) from hk 10 rfl))]
                  exact ⟨Grw.refl _ _, (BS.out.keep hx.keeps)⟩
                · intro az wz hx hB hk H
                  obtain ⟨v112, h112, s112⟩ := H 18 rfl _ rfl 112 rfl
                  obtain ⟨v113, h113, s113⟩ := H 19 rfl _ rfl 113 rfl
                  have g0 : az.tmps[112]? = some (.bool true) := by rw [h112]; exact congrArg some s112
                  refine .inl ⟨wanted_yes _ rfl rfl rfl g0, ?_⟩
                  refine gives_str (f) rfl Try.underlying32 Try.underlying5 Try.underlying9 ?_ ⟨Grw.refl _ _, rfl⟩
                  rw [(ev h113)]
                  exact s113
                · intro az wz hx hB hk H
                  obtain ⟨v112, h112, s112⟩ := H 18 rfl _ rfl 112 rfl
                  have g0 : az.tmps[112]? = some (.bool true) := by rw [h112]; exact congrArg some s112
                  refine .inl ⟨wanted_yes _ rfl rfl rfl g0, ?_⟩
                  refine gives_move rfl ?_
                  rw [(ev (show az.tmps[0]? = some (.slice P n c) from hk 0 rfl))]
                  exact ⟨Grw.refl _ _, rfl⟩
                · intro az wz hx hB hk H
                  obtain ⟨v112, h112, s112⟩ := H 18 rfl _ rfl 112 rfl
                  obtain ⟨v115, h115, s115⟩ := H 21 rfl _ rfl 115 rfl
                  have g0 : az.tmps[112]? = some (.bool true) := by rw [h112]; exact congrArg some s112
                  refine .inl ⟨wanted_yes _ rfl rfl rfl g0, ?_⟩
                  refine gives_call rfl Try.call20 (by simp only [List.map_toArray, List.map_cons, List.map_nil, ev h115]; rw [s115]) ?_
                  exact (KF.out wz (hx.keeps)).mono fun _ _ h => h.grw hB
                · intro az wz hx hB hk H
                  obtain ⟨v112, h112, s112⟩ := H 18 rfl _ rfl 112 rfl
                  obtain ⟨v116, h116, s116⟩ := H 22 rfl _ rfl 116 rfl
                  have g0 : az.tmps[112]? = some (.bool true) := by rw [h112]; exact congrArg some s112
                  refine .inl ⟨wanted_yes _ rfl rfl rfl g0, ?_⟩
                  refine gives_str (f) rfl Try.underlying32 Try.underlying5 Try.underlying9 ?_ ⟨Grw.refl _ _, rfl⟩
                  rw [(ev h116)]
                  exact s116
                · intro az wz hx hB hk H
                  obtain ⟨v112, h112, s112⟩ := H 18 rfl _ rfl 112 rfl
                  obtain ⟨v114, h114, s114⟩ := H 20 rfl _ rfl 114 rfl
                  obtain ⟨v117, h117, s117⟩ := H 23 rfl _ rfl 117 rfl
                  have g0 : az.tmps[112]? = some (.bool true) := by rw [h112]; exact congrArg some s112
                  refine .inl ⟨wanted_yes _ rfl rfl rfl g0, ?_⟩
                  refine gives_eql_str (f) (f) rfl ?_ ?_ ⟨Grw.refl _ _, congrArg Value.bool (by simp)⟩
                  · rw [(ev h114)]
                    exact s114
                  · rw [(ev h117)]
                    exact s117
                · intro az wz hx hB hk H
                  obtain ⟨v112, h112, s112⟩ := H 18 rfl _ rfl 112 rfl
                  obtain ⟨v118, h118, s118⟩ := H 24 rfl _ rfl 118 rfl
                  refine .inl ⟨wanted_none rfl, ?_⟩
                  refine gives_pick true rfl ?_ ?_
                  · rw [(ev h112)]
                    exact s112
                  · show Grw _ _ _ ∧ _
                    rw [if_pos rfl, (ev h118)]
                    exact ⟨Grw.refl _ _, s118⟩
                · intro az wz hx hB hk H
                  obtain ⟨v119, h119, s119⟩ := H 25 rfl _ rfl 119 rfl
                  refine .inl ⟨wanted_none rfl, ?_⟩
                  refine gives_move rfl ?_
                  rw [(ev h119)]
                  exact ⟨Grw.refl _ _, s119⟩
                · intro az wz hx hB hk H
                  obtain ⟨v120, h120, s120⟩ := H 26 rfl _ rfl 120 rfl
                  have g0 : az.tmps[120]? = some (.bool true) := by rw [h120]; exact congrArg some s120
                  refine .inl ⟨wanted_yes _ rfl rfl rfl g0, ?_⟩
                  refine gives_move rfl ?_
                  rw [(ev (show az.tmps[16]? = some (.slice (some ⟨hu, 0, none⟩) 512 512) from hk 16 rfl))]
                  exact ⟨Grw.refl _ _, (BU.out.keep hx.keeps)⟩
                · intro az wz hx hB hk H
                  obtain ⟨v120, h120, s120⟩ := H 26 rfl _ rfl 120 rfl
                  obtain ⟨v121, h121, s121⟩ := H 27 rfl _ rfl 121 rfl
                  have g0 : az.tmps[120]? = some (.bool true) := by rw [h120]; exact congrArg some s120
                  refine .inl ⟨wanted_yes _ rfl rfl rfl g0, ?_⟩
                  refine gives_str (f) rfl Try.underlying32 Try.underlying5 Try.underlying9 ?_ ⟨Grw.refl _ _, rfl⟩
                  rw [(ev h121)]
                  exact s121
                · intro az wz hx hB hk H
                  obtain ⟨v120, h120, s120⟩ := H 26 rfl _ rfl 120 rfl
                  have g0 : az.tmps[120]? = some (.bool true) := by rw [h120]; exact congrArg some s120
                  refine .inl ⟨wanted_yes _ rfl rfl rfl g0, ?_⟩
                  refine gives_move rfl ?_
                  rw [(ev (show az.tmps[0]? = some (.slice P n c) from hk 0 rfl))]
                  exact ⟨Grw.refl _ _, rfl⟩
                · intro az wz hx hB hk H
                  obtain ⟨v120, h120, s120⟩ := H 26 rfl _ rfl 120 rfl
                  obtain ⟨v123, h123, s123⟩ := H 29 rfl _ rfl 123 rfl
                  have g0 : az.tmps[120]? = some (.bool true) := by rw [h120]; exact congrArg some s120
                  refine .inl ⟨wanted_yes _ rfl rfl rfl g0, ?_⟩
                  refine gives_call rfl Try.call20 (by simp only [List.map_toArray, List.map_cons, List.map_nil, ev h123]; rw [s123]) ?_
                  exact (KF.out wz (hx.keeps)).mono fun _ _ h => h.grw hB
                · intro az wz hx hB hk H
                  obtain ⟨v120, h120, s120⟩ := H 26 rfl _ rfl 120 rfl
                  obtain ⟨v124, h124, s124⟩ := H 30 rfl _ rfl 124 rfl
                  have g0 : az.tmps[120]? = some (.bool true) := by rw [h120]; exact congrArg some s120
                  refine .inl ⟨wanted_yes _ rfl rfl rfl g0, ?_⟩
                  refine gives_str (f) rfl Try.underlying32 Try.underlying5 Try.underlying9 ?_ ⟨Grw.refl _ _, rfl⟩
                  rw [(ev h124)]
                  exact s124
                · intro az wz hx hB hk H
                  obtain ⟨v120, h120, s120⟩ := H 26 rfl _ rfl 120 rfl
                  obtain ⟨v122, h122, s122⟩ := H 28 rfl _ rfl 122 rfl
                  obtain ⟨v125, h125, s125⟩ := H 31 rfl _ rfl 125 rfl
                  have g0 : az.tmps[120]? = some (.bool true) := by rw [h120]; exact congrArg some s120
                  refine .inl ⟨wanted_yes _ rfl rfl rfl g0, ?_⟩
                  refine gives_eql_str (f) (f) rfl ?_ ?_ ⟨Grw.refl _ _, congrArg Value.bool (by simp)⟩
                  · rw [(ev h122)]
                    exact s122
                  · rw [(ev h125)]
                    exact s125
                · intro az wz hx hB hk H
                  obtain ⟨v120, h120, s120⟩ := H 26 rfl _ rfl 120 rfl
                  obtain ⟨v126, h126, s126⟩ := H 32 rfl _ rfl 126 rfl
                  refine .inl ⟨wanted_none rfl, ?_⟩
                  refine gives_pick true rfl ?_ ?_
                  · rw [(ev h120)]
                    exact s120
                  · show Grw _ _ _ ∧ _
                    rw [if_pos rfl, (ev h126)]
                    exact ⟨Grw.refl _ _, s126⟩
                · intro az wz hx hB hk H
                  obtain ⟨v127, h127, s127⟩ := H 33 rfl _ rfl 127 rfl
                  refine .inl ⟨wanted_none rfl, ?_⟩
                  refine gives_assign rfl ?_
                  rw [(ev h127)]
                  exact ⟨Grw.refl _ _, s127⟩
              · intro az wz hx hd hs hv hsame
                obtain ⟨v, hv4, s4⟩ := hv 34 _ 2 rfl rfl
                obtain rfl : v = .bool true := s4
                refine hK _ _ ?_
                refine wp_ret ?_
                refine bodyPost_ret (results_tmp rfl _ _ _) hd ?_
                refine ⟨_, rfl, XE.out.grw hx, ?_⟩
                simp [Is, hv4]
end Go.Proofs.Ytgpkblpnccokfaa

/-
  The law's do: Write beside the document's Put.
-/
import Derived.Test.YtmabminjmcjafaaDskDo
import Derived.Test.YtmabminjmcjafaaDskF
namespace Go.Proofs.Ytmabminjmcjafaa
open Go.RowKit

def eqv (x : Value) : World → Value → Prop := fun _ v => v = x
def fsv (f : List UInt8) : World → Value → Prop := fun w v => ∃ h, v = .slice (some ⟨h, 0, none⟩) 512 512 ∧ Rw w h 5 (bs f)
theorem eqv_stb (x : Value) : ∀ w w' v, eqv x w v → StayB w w' → eqv x w' v := fun _ _ _ h _ => h
theorem fsv_stb (f : List UInt8) : ∀ w w' v, fsv f w v → StayB w w' → fsv f w' v := fun _ _ _ ⟨h, e, hr⟩ hs => ⟨h, e, hs _ _ _ (.inl rfl) hr⟩
theorem stb_getD {L : List (World → Value → Prop)} (hL : ∀ p ∈ L, ∀ w w' v, p w v → StayB w w' → p w' v) : ∀ i w w' v, L.getD i (fun _ _ => True) w v → StayB w w' → L.getD i (fun _ _ => True) w' v := fun i w w' v h hs => by
  rw [List.getD_eq_getElem?_getD] at h ⊢
  cases hi : L[i]? with
  | none => trivial
  | some p =>
    rw [hi] at h
    exact hL p (List.mem_of_getElem? hi) w w' v h hs
theorem run_fieldA (b i : Nat) (w : World) (hi : i < 4 := by decide) : (Instr.fieldAt 35 (.pointer (some ⟨b, 0, none⟩)) i).run Try.prog w = .ok (.pointer (some ⟨b, i, none⟩)) w := by
  match i, hi with
  | 0, _ => simp [go_sem]
  | 1, _ => simp [go_sem]
  | 2, _ => simp [go_sem]
  | 3, _ => simp [go_sem]
section
variable {w0 w : World} {g gx np cp nk ck : Nat} {D : Dk} {Pp Pk : Option Addr} {p : List UInt8} {keep : List Bool}
set_option maxRecDepth 20000 in
set_option maxHeartbeats 3200000 in
theorem do_0 (hT : Two w0 w g gx D D) (b : Bd D) (hpn : D.pen.length < 900000) (hop : D.ops < 900000) (k : Nat) (hk : k < 256) (i : Int) (hi0 : -9223372036854775808 ≤ i) (hi1 : i < 9223372036854775808) (hP : ∀ W, Ext w0 W → Rd W Pp p) (hnp : p.length = np) (hnpl : np ≤ 140737488351232) (hK : ∀ W, Ext w0 W → RdB W Pk keep) (hnk : keep.length = nk) (hkm : k % 6 = 0) : Calls Try.prog 12 #[.pointer (some ⟨g, 0, none⟩), .pointer (some ⟨gx, 0, none⟩), .agg #[.int .u8 (k : Int), .int .i64 i, .slice Pp np cp, .slice Pk nk ck]] w (DoP w0 g gx (wD D i (fullS p))) := by
  have hrem : (k : Int) % 6 = 0 := by omega
  obtain ⟨W1, hX1, hB1, hgg⟩ : ∃ W, Ext w W ∧ Rw W w.heap.size 35 [.int .u8 (k : Int), .int .i64 i, .slice Pp np cp, .slice Pk nk ck] ∧ w.alloc (.cells #[.int .u8 (k : Int), .int .i64 i, .slice Pp np cp, .slice Pk nk ck] 35) = W := ⟨_, Ext.alloc _ _, Rw.new _ _ _, rfl⟩
  have T1 := hide (hT.ext hX1)
  have B1 := hide hB1
  have HBD := hide b
  have HLIM := hide (show D.pen.length < 900000 ∧ D.ops < 900000 from ⟨hpn, hop⟩)
  have HPP := hide hP
  have HKK := hide hK
  have HNP := hide hnp
  have HNK := hide hnk
  clear hX1 hB1 hT b hpn hop hP hK hnp hnk hkm
  obtain ⟨er, HER⟩ : ∃ er, Hid (wE D i (fullS p) = er) := ⟨_, hide rfl⟩
  obtain ⟨D', HD'⟩ : ∃ D', Hid (wD D i (fullS p) = D') := ⟨_, hide rfl⟩
  have HDB := hide (wD_bd HBD.out HLIM.out.1 HLIM.out.2 i (fullS p))
  rw [HD'.out] at HDB ⊢
  obtain ⟨b5, HBE⟩ : ∃ b5, Hid (w.heap.size = b5) := ⟨_, hide rfl⟩
  rw [HBE.out] at B1
  have HB5 := B1
  go_enter Try.func12, Try.ntmps12
  go_upto_region 1 with fail
  rw [HBE.out]
  clear hgg
  have a0 := B1.out.cell (i := 0) rfl
  have a1 := B1.out.cell (i := 1) rfl
  have a2 := B1.out.cell (i := 2) rfl
  have a3 := B1.out.cell (i := 3) rfl
  go_upto_region 3 with fail
  rename_i hK
  refine wp_region_chainI (fun q w v => ([eqv (.pointer (some ⟨g, 0, none⟩)), eqv (.pointer (some ⟨b5, 1, none⟩)), eqv (.int .i64 i), eqv (.pointer (some ⟨b5, 2, none⟩)), eqv (.slice Pp np cp), fsv (fullS p), eqv (.int .i64 er), eqv (.pointer (some ⟨gx, 0, none⟩)), eqv (.pointer (some ⟨b5, 1, none⟩)), eqv (.int .i64 i), eqv (.pointer (some ⟨b5, 2, none⟩)), eqv (.slice Pp np cp), fsv (fullS p), eqv (.int .i64 er), eqv (.bool true), eqv (.bool true)] : List (World → Value → Prop)).getD q (fun _ _ => True) w v) (fun j w => Rw w b5 35 [.int .u8 (k : Int), .int .i64 i, .slice Pp np cp, .slice Pk nk ck] ∧ Two w0 w g gx (if 2 ≤ j then D' else D) (if 4 ≤ j then D' else D)) StayB [5, 6, 12, 13] (by kernel_rfl) (by kernel_rfl) (by kernel_rfl) (stb_getD ?_) ⟨HB5.out.ext (Ext.drew _), T1.out.ext (Ext.drew _)⟩ ?_ ?_
  · intro p hp
    simp only [List.mem_cons, List.not_mem_nil, or_false] at hp
    rcases hp with rfl | rfl | rfl | rfl | rfl | rfl | rfl | rfl | rfl | rfl | rfl | rfl | rfl | rfl | rfl | rfl
    all_goals first | exact eqv_stb _ | exact fsv_stb _
  · refine ⟨?_, ?_, ?_, ?_, ?_, ?_, ?_, ?_, ?_, ?_, ?_, ?_, ?_, ?_, ?_, ?_, trivial⟩
    · intro az wz hk H
      rw [if_neg (by decide)]
      intro j hj hJ
      refine .inl ⟨wanted_none rfl, gives_move rfl ?_⟩
      rw [(ev (show az.tmps[0]? = some (.pointer (some ⟨g, 0, none⟩)) from hk 0 rfl))]
      exact ⟨rfl, rfl⟩
    · intro az wz hk H
      rw [if_neg (by decide)]
      intro j hj hJ
      exact .inl ⟨wanted_none rfl, gives_fieldP rfl (ev (show az.tmps[5]? = some (.pointer (some ⟨b5, 0, none⟩)) from hk 5 rfl)) (run_fieldA b5 1 _) ⟨rfl, rfl⟩⟩
    · intro az wz hk H
      rw [if_neg (by decide)]
      intro j hj hJ
      obtain ⟨v18, h18, s18⟩ := H 1 rfl _ rfl 18 rfl
      obtain rfl : v18 = .pointer (some ⟨b5, 1, none⟩) := s18
      exact .inl ⟨wanted_none rfl, gives_load_v rfl (ev h18) (load_int7 (hJ.1.cell (i := 1) rfl)) ⟨rfl, rfl⟩⟩
    · intro az wz hk H
      rw [if_neg (by decide)]
      intro j hj hJ
      exact .inl ⟨wanted_none rfl, gives_fieldP rfl (ev (show az.tmps[5]? = some (.pointer (some ⟨b5, 0, none⟩)) from hk 5 rfl)) (run_fieldA b5 2 _) ⟨rfl, rfl⟩⟩
    · intro az wz hk H
      rw [if_neg (by decide)]
      intro j hj hJ
      obtain ⟨v20, h20, s20⟩ := H 3 rfl _ rfl 20 rfl
      obtain rfl : v20 = .pointer (some ⟨b5, 2, none⟩) := s20
      exact .inl ⟨wanted_none rfl, gives_load_v rfl (ev h20) (load_slice Try.underlying32 (hJ.1.cell (i := 2) rfl)) ⟨rfl, rfl⟩⟩
    · intro az wz hk H
      rw [if_pos (by decide)]
      intro j hj hJ
      obtain rfl : j = 0 := ch_at hj 0 rfl (by decide)
      obtain ⟨v21, h21, s21⟩ := H 4 rfl _ rfl 21 rfl
      obtain rfl : v21 = .slice Pp np cp := s21
      have hT : Two w0 wz g gx D D := hJ.2
      refine ⟨wanted_none rfl, gives_call (args := #[.slice Pp np cp]) rfl Try.call20 (by simp only [List.map_toArray, List.map_cons, List.map_nil, ev h21]) ?_⟩
      have hf := full_raw Pp cp p wz (HPP.out wz hT.ex)
      rw [HNP.out] at hf
      exact hf.mono fun e w' ⟨hh, he, hr, _, hx⟩ => ⟨_, he, ⟨hh, rfl, hr⟩, ⟨hJ.1.ext hx, hT.ext hx⟩, StayB.ext hx⟩
    · intro az wz hk H
      rw [if_pos (by decide)]
      intro j hj hJ
      obtain rfl : j = 1 := ch_at hj 1 rfl (by decide)
      obtain ⟨v17, h17, s17⟩ := H 0 rfl _ rfl 17 rfl
      obtain rfl : v17 = .pointer (some ⟨g, 0, none⟩) := s17
      obtain ⟨v19, h19, s19⟩ := H 2 rfl _ rfl 19 rfl
      obtain rfl : v19 = .int .i64 i := s19
      obtain ⟨v22, h22, s22⟩ := H 5 rfl _ rfl 22 rfl
      obtain ⟨hh, rfl, hrh⟩ : fsv (fullS p) wz v22 := s22
      have hT : Two w0 wz g gx D D := hJ.2
      have KW := fun gd gn A c (h1 : DiskAt w0.heap.size wz g gd gn A c D) => write_uni (d := 512) h1 HBD.out hT.size i (fullS p) 512 (fullS_length p) (by decide) (Rd.of_rw hrh)
      rw [HER.out, HD'.out] at KW
      refine ⟨wanted_none rfl, gives_call (args := #[.pointer (some ⟨g, 0, none⟩), .int .i64 i, .slice (some ⟨hh, 0, none⟩) 512 512]) rfl Try.call21 (by simp only [List.map_toArray, List.map_cons, List.map_nil, ev h17, ev h19, ev h22]) ?_⟩
      exact (hT.call (D' := D') fun gd gn A c h1 => KW gd gn A c h1).mono fun e w' ⟨he, ht, hs⟩ => ⟨_, he, rfl, ⟨hs _ _ _ (.inr rfl) hJ.1, ht⟩, hs⟩
    · intro az wz hk H
      rw [if_neg (by decide)]
      intro j hj hJ
      refine .inl ⟨wanted_none rfl, gives_move rfl ?_⟩
      rw [(ev (show az.tmps[1]? = some (.pointer (some ⟨gx, 0, none⟩)) from hk 1 rfl))]
      exact ⟨rfl, rfl⟩
    · intro az wz hk H
      rw [if_neg (by decide)]
      intro j hj hJ
      exact .inl ⟨wanted_none rfl, gives_fieldP rfl (ev (show az.tmps[5]? = some (.pointer (some ⟨b5, 0, none⟩)) from hk 5 rfl)) (run_fieldA b5 1 _) ⟨rfl, rfl⟩⟩
    · intro az wz hk H
      rw [if_neg (by decide)]
      intro j hj hJ
      obtain ⟨v25, h25, s25⟩ := H 8 rfl _ rfl 25 rfl
      obtain rfl : v25 = .pointer (some ⟨b5, 1, none⟩) := s25
      exact .inl ⟨wanted_none rfl, gives_load_v rfl (ev h25) (load_int7 (hJ.1.cell (i := 1) rfl)) ⟨rfl, rfl⟩⟩
    · intro az wz hk H
      rw [if_neg (by decide)]
      intro j hj hJ
      exact .inl ⟨wanted_none rfl, gives_fieldP rfl (ev (show az.tmps[5]? = some (.pointer (some ⟨b5, 0, none⟩)) from hk 5 rfl)) (run_fieldA b5 2 _) ⟨rfl, rfl⟩⟩
    · intro az wz hk H
      rw [if_neg (by decide)]
      intro j hj hJ
      obtain ⟨v27, h27, s27⟩ := H 10 rfl _ rfl 27 rfl
      obtain rfl : v27 = .pointer (some ⟨b5, 2, none⟩) := s27
      exact .inl ⟨wanted_none rfl, gives_load_v rfl (ev h27) (load_slice Try.underlying32 (hJ.1.cell (i := 2) rfl)) ⟨rfl, rfl⟩⟩
    · intro az wz hk H
      rw [if_pos (by decide)]
      intro j hj hJ
      obtain rfl : j = 2 := ch_at hj 2 rfl (by decide)
      obtain ⟨v28, h28, s28⟩ := H 11 rfl _ rfl 28 rfl
      obtain rfl : v28 = .slice Pp np cp := s28
      have hT : Two w0 wz g gx D' D := hJ.2
      refine ⟨wanted_none rfl, gives_call (args := #[.slice Pp np cp]) rfl Try.call20 (by simp only [List.map_toArray, List.map_cons, List.map_nil, ev h28]) ?_⟩
      have hf := full_raw Pp cp p wz (HPP.out wz hT.ex)
      rw [HNP.out] at hf
      exact hf.mono fun e w' ⟨hh, he, hr, _, hx⟩ => ⟨_, he, ⟨hh, rfl, hr⟩, ⟨hJ.1.ext hx, hT.ext hx⟩, StayB.ext hx⟩
    · intro az wz hk H
      rw [if_pos (by decide)]
      intro j hj hJ
      obtain rfl : j = 3 := ch_at hj 3 rfl (by decide)
      obtain ⟨v24, h24, s24⟩ := H 7 rfl _ rfl 24 rfl
      obtain rfl : v24 = .pointer (some ⟨gx, 0, none⟩) := s24
      obtain ⟨v26, h26, s26⟩ := H 9 rfl _ rfl 26 rfl
      obtain rfl : v26 = .int .i64 i := s26
      obtain ⟨v29, h29, s29⟩ := H 12 rfl _ rfl 29 rfl
      obtain ⟨hh, rfl, hrh⟩ : fsv (fullS p) wz v29 := s29
      have hT : Two w0 wz g gx D' D := hJ.2
      have KW := fun gl cl A c rest (h2 : RefAt w0.heap.size wz gx gl cl A c rest D) => put_uni (d := 512) h2 HBD.out hT.size i (fullS p) 512 (fullS_length p) (by decide) (fun W hW => Rd.of_rw (hW.stay _ _ _ (by decide) (by decide) (by decide) hrh))
      rw [HER.out, HD'.out] at KW
      refine ⟨wanted_none rfl, gives_call (args := #[.pointer (some ⟨gx, 0, none⟩), .int .i64 i, .slice (some ⟨hh, 0, none⟩) 512 512]) rfl Try.call24 (by simp only [List.map_toArray, List.map_cons, List.map_nil, ev h24, ev h26, ev h29]) ?_⟩
      exact (hT.rcall (X' := D') fun gl cl A c rest h2 => KW gl cl A c rest h2).mono fun e w' ⟨he, ht, hs⟩ => ⟨_, he, rfl, ⟨hs _ _ _ (.inr rfl) hJ.1, ht⟩, hs⟩
    · intro az wz hk H
      rw [if_neg (by decide)]
      intro j hj hJ
      obtain ⟨v23, h23, s23⟩ := H 6 rfl _ rfl 23 rfl
      obtain rfl : v23 = .int .i64 er := s23
      obtain ⟨v30, h30, s30⟩ := H 13 rfl _ rfl 30 rfl
      obtain rfl : v30 = .int .i64 er := s30
      exact .inl ⟨wanted_none rfl, gives_eql_int (k := .i64) er er rfl (ev h23) (ev h30) ⟨congrArg Value.bool (beq_self_eq_true er), rfl⟩⟩
    · intro az wz hk H
      rw [if_neg (by decide)]
      intro j hj hJ
      obtain ⟨v31, h31, s31⟩ := H 14 rfl _ rfl 31 rfl
      obtain rfl : v31 = .bool true := s31
      refine .inl ⟨wanted_none rfl, gives_assign rfl ?_⟩
      rw [ev h31]
      exact ⟨rfl, rfl⟩
  · intro az wz hJ hd hs hv hsame
    obtain ⟨v, hv6, s6⟩ := hv 15 _ 6 rfl rfl
    obtain rfl : v = .bool true := s6
    have hT : Two w0 wz g gx D' D' := hJ.2
    refine hK _ _ ?_
    refine wp_ret ?_
    refine bodyPost_ret (results_tmp rfl _ _ _) hd ?_
    refine ⟨?_, hT⟩
    simp [hv6]
set_option maxRecDepth 20000 in
set_option maxHeartbeats 3200000 in
theorem do_1 (hT : Two w0 w g gx D D) (b : Bd D) (hpn : D.pen.length < 900000) (hop : D.ops < 900000) (k : Nat) (hk : k < 256) (i : Int) (hi0 : -9223372036854775808 ≤ i) (hi1 : i < 9223372036854775808) (hP : ∀ W, Ext w0 W → Rd W Pp p) (hnp : p.length = np) (hnpl : np ≤ 140737488351232) (hK : ∀ W, Ext w0 W → RdB W Pk keep) (hnk : keep.length = nk) (hkm : k % 6 = 1) : Calls Try.prog 12 #[.pointer (some ⟨g, 0, none⟩), .pointer (some ⟨gx, 0, none⟩), .agg #[.int .u8 (k : Int), .int .i64 i, .slice Pp np cp, .slice Pk nk ck]] w (DoP w0 g gx (wD D i p)) := by
  have hrem : (k : Int) % 6 = 1 := by omega
  obtain ⟨W1, hX1, hB1, hgg⟩ : ∃ W, Ext w W ∧ Rw W w.heap.size 35 [.int .u8 (k : Int), .int .i64 i, .slice Pp np cp, .slice Pk nk ck] ∧ w.alloc (.cells #[.int .u8 (k : Int), .int .i64 i, .slice Pp np cp, .slice Pk nk ck] 35) = W := ⟨_, Ext.alloc _ _, Rw.new _ _ _, rfl⟩
  have T1 := hide (hT.ext hX1)
  have B1 := hide hB1
  have HBD := hide b
  have HLIM := hide (show D.pen.length < 900000 ∧ D.ops < 900000 from ⟨hpn, hop⟩)
  have HPP := hide hP
  have HKK := hide hK
  have HNP := hide hnp
  have HNK := hide hnk
  clear hX1 hB1 hT b hpn hop hP hK hnp hnk hkm
  obtain ⟨er, HER⟩ : ∃ er, Hid (wE D i p = er) := ⟨_, hide rfl⟩
  obtain ⟨D', HD'⟩ : ∃ D', Hid (wD D i p = D') := ⟨_, hide rfl⟩
  have HDB := hide (wD_bd HBD.out HLIM.out.1 HLIM.out.2 i p)
  rw [HD'.out] at HDB ⊢
  obtain ⟨b5, HBE⟩ : ∃ b5, Hid (w.heap.size = b5) := ⟨_, hide rfl⟩
  rw [HBE.out] at B1
  have HB5 := B1
  go_enter Try.func12, Try.ntmps12
  go_upto_region 1 with fail
  rw [HBE.out]
  clear hgg
  have a0 := B1.out.cell (i := 0) rfl
  have a1 := B1.out.cell (i := 1) rfl
  have a2 := B1.out.cell (i := 2) rfl
  have a3 := B1.out.cell (i := 3) rfl
  go_upto_region 5 with fail
  rename_i hK
  refine wp_region_chainI (fun q w v => ([eqv (.pointer (some ⟨g, 0, none⟩)), eqv (.pointer (some ⟨b5, 1, none⟩)), eqv (.int .i64 i), eqv (.pointer (some ⟨b5, 2, none⟩)), eqv (.slice Pp np cp), eqv (.int .i64 er), eqv (.pointer (some ⟨gx, 0, none⟩)), eqv (.pointer (some ⟨b5, 1, none⟩)), eqv (.int .i64 i), eqv (.pointer (some ⟨b5, 2, none⟩)), eqv (.slice Pp np cp), eqv (.int .i64 er), eqv (.bool true), eqv (.bool true)] : List (World → Value → Prop)).getD q (fun _ _ => True) w v) (fun j w => Rw w b5 35 [.int .u8 (k : Int), .int .i64 i, .slice Pp np cp, .slice Pk nk ck] ∧ Two w0 w g gx (if 1 ≤ j then D' else D) (if 2 ≤ j then D' else D)) StayB [5, 11] (by kernel_rfl) (by kernel_rfl) (by kernel_rfl) (stb_getD ?_) ⟨HB5.out.ext (Ext.drew _), T1.out.ext (Ext.drew _)⟩ ?_ ?_
  · intro p hp
    simp only [List.mem_cons, List.not_mem_nil, or_false] at hp
    rcases hp with rfl | rfl | rfl | rfl | rfl | rfl | rfl | rfl | rfl | rfl | rfl | rfl | rfl | rfl
    all_goals first | exact eqv_stb _ | exact fsv_stb _
  · refine ⟨?_, ?_, ?_, ?_, ?_, ?_, ?_, ?_, ?_, ?_, ?_, ?_, ?_, ?_, trivial⟩
    · intro az wz hk H
      rw [if_neg (by decide)]
      intro j hj hJ
      refine .inl ⟨wanted_none rfl, gives_move rfl ?_⟩
      rw [(ev (show az.tmps[0]? = some (.pointer (some ⟨g, 0, none⟩)) from hk 0 rfl))]
      exact ⟨rfl, rfl⟩
    · intro az wz hk H
      rw [if_neg (by decide)]
      intro j hj hJ
      exact .inl ⟨wanted_none rfl, gives_fieldP rfl (ev (show az.tmps[5]? = some (.pointer (some ⟨b5, 0, none⟩)) from hk 5 rfl)) (run_fieldA b5 1 _) ⟨rfl, rfl⟩⟩
    · intro az wz hk H
      rw [if_neg (by decide)]
      intro j hj hJ
      obtain ⟨v35, h35, s35⟩ := H 1 rfl _ rfl 35 rfl
      obtain rfl : v35 = .pointer (some ⟨b5, 1, none⟩) := s35
      exact .inl ⟨wanted_none rfl, gives_load_v rfl (ev h35) (load_int7 (hJ.1.cell (i := 1) rfl)) ⟨rfl, rfl⟩⟩
    · intro az wz hk H
      rw [if_neg (by decide)]
      intro j hj hJ
      exact .inl ⟨wanted_none rfl, gives_fieldP rfl (ev (show az.tmps[5]? = some (.pointer (some ⟨b5, 0, none⟩)) from hk 5 rfl)) (run_fieldA b5 2 _) ⟨rfl, rfl⟩⟩
    · intro az wz hk H
      rw [if_neg (by decide)]
      intro j hj hJ
      obtain ⟨v37, h37, s37⟩ := H 3 rfl _ rfl 37 rfl
      obtain rfl : v37 = .pointer (some ⟨b5, 2, none⟩) := s37
      exact .inl ⟨wanted_none rfl, gives_load_v rfl (ev h37) (load_slice Try.underlying32 (hJ.1.cell (i := 2) rfl)) ⟨rfl, rfl⟩⟩
    · intro az wz hk H
      rw [if_pos (by decide)]
      intro j hj hJ
      obtain rfl : j = 0 := ch_at hj 0 rfl (by decide)
      obtain ⟨v34, h34, s34⟩ := H 0 rfl _ rfl 34 rfl
      obtain rfl : v34 = .pointer (some ⟨g, 0, none⟩) := s34
      obtain ⟨v36, h36, s36⟩ := H 2 rfl _ rfl 36 rfl
      obtain rfl : v36 = .int .i64 i := s36
      obtain ⟨v38, h38, s38⟩ := H 4 rfl _ rfl 38 rfl
      obtain rfl : v38 = .slice Pp np cp := s38
      have hT : Two w0 wz g gx D D := hJ.2
      have KW := fun gd gn A c (h1 : DiskAt w0.heap.size wz g gd gn A c D) => write_uni (d := cp) h1 HBD.out hT.size i p np HNP.out (by omega) (HPP.out wz hT.ex)
      rw [HER.out, HD'.out] at KW
      refine ⟨wanted_none rfl, gives_call (args := #[.pointer (some ⟨g, 0, none⟩), .int .i64 i, .slice Pp np cp]) rfl Try.call21 (by simp only [List.map_toArray, List.map_cons, List.map_nil, ev h34, ev h36, ev h38]) ?_⟩
      exact (hT.call (D' := D') fun gd gn A c h1 => KW gd gn A c h1).mono fun e w' ⟨he, ht, hs⟩ => ⟨_, he, rfl, ⟨hs _ _ _ (.inr rfl) hJ.1, ht⟩, hs⟩
    · intro az wz hk H
      rw [if_neg (by decide)]
      intro j hj hJ
      refine .inl ⟨wanted_none rfl, gives_move rfl ?_⟩
      rw [(ev (show az.tmps[1]? = some (.pointer (some ⟨gx, 0, none⟩)) from hk 1 rfl))]
      exact ⟨rfl, rfl⟩
    · intro az wz hk H
      rw [if_neg (by decide)]
      intro j hj hJ
      exact .inl ⟨wanted_none rfl, gives_fieldP rfl (ev (show az.tmps[5]? = some (.pointer (some ⟨b5, 0, none⟩)) from hk 5 rfl)) (run_fieldA b5 1 _) ⟨rfl, rfl⟩⟩
    · intro az wz hk H
      rw [if_neg (by decide)]
      intro j hj hJ
      obtain ⟨v41, h41, s41⟩ := H 7 rfl _ rfl 41 rfl
      obtain rfl : v41 = .pointer (some ⟨b5, 1, none⟩) := s41
      exact .inl ⟨wanted_none rfl, gives_load_v rfl (ev h41) (load_int7 (hJ.1.cell (i := 1) rfl)) ⟨rfl, rfl⟩⟩
    · intro az wz hk H
      rw [if_neg (by decide)]
      intro j hj hJ
      exact .inl ⟨wanted_none rfl, gives_fieldP rfl (ev (show az.tmps[5]? = some (.pointer (some ⟨b5, 0, none⟩)) from hk 5 rfl)) (run_fieldA b5 2 _) ⟨rfl, rfl⟩⟩
    · intro az wz hk H
      rw [if_neg (by decide)]
      intro j hj hJ
      obtain ⟨v43, h43, s43⟩ := H 9 rfl _ rfl 43 rfl
      obtain rfl : v43 = .pointer (some ⟨b5, 2, none⟩) := s43
      exact .inl ⟨wanted_none rfl, gives_load_v rfl (ev h43) (load_slice Try.underlying32 (hJ.1.cell (i := 2) rfl)) ⟨rfl, rfl⟩⟩
    · intro az wz hk H
      rw [if_pos (by decide)]
      intro j hj hJ
      obtain rfl : j = 1 := ch_at hj 1 rfl (by decide)
      obtain ⟨v40, h40, s40⟩ := H 6 rfl _ rfl 40 rfl
      obtain rfl : v40 = .pointer (some ⟨gx, 0, none⟩) := s40
      obtain ⟨v42, h42, s42⟩ := H 8 rfl _ rfl 42 rfl
      obtain rfl : v42 = .int .i64 i := s42
      obtain ⟨v44, h44, s44⟩ := H 10 rfl _ rfl 44 rfl
      obtain rfl : v44 = .slice Pp np cp := s44
      have hT : Two w0 wz g gx D' D := hJ.2
      have KW := fun gl cl A c rest (h2 : RefAt w0.heap.size wz gx gl cl A c rest D) => put_uni (d := cp) h2 HBD.out hT.size i p np HNP.out (by omega) (fun W hW => HPP.out W (Below.trans hT.ex hW.below))
      rw [HER.out, HD'.out] at KW
      refine ⟨wanted_none rfl, gives_call (args := #[.pointer (some ⟨gx, 0, none⟩), .int .i64 i, .slice Pp np cp]) rfl Try.call24 (by simp only [List.map_toArray, List.map_cons, List.map_nil, ev h40, ev h42, ev h44]) ?_⟩
      exact (hT.rcall (X' := D') fun gl cl A c rest h2 => KW gl cl A c rest h2).mono fun e w' ⟨he, ht, hs⟩ => ⟨_, he, rfl, ⟨hs _ _ _ (.inr rfl) hJ.1, ht⟩, hs⟩
    · intro az wz hk H
      rw [if_neg (by decide)]
      intro j hj hJ
      obtain ⟨v39, h39, s39⟩ := H 5 rfl _ rfl 39 rfl
      obtain rfl : v39 = .int .i64 er := s39
      obtain ⟨v45, h45, s45⟩ := H 11 rfl _ rfl 45 rfl
      obtain rfl : v45 = .int .i64 er := s45
      exact .inl ⟨wanted_none rfl, gives_eql_int (k := .i64) er er rfl (ev h39) (ev h45) ⟨congrArg Value.bool (beq_self_eq_true er), rfl⟩⟩
    · intro az wz hk H
      rw [if_neg (by decide)]
      intro j hj hJ
      obtain ⟨v46, h46, s46⟩ := H 12 rfl _ rfl 46 rfl
      obtain rfl : v46 = .bool true := s46
      refine .inl ⟨wanted_none rfl, gives_assign rfl ?_⟩
      rw [ev h46]
      exact ⟨rfl, rfl⟩
  · intro az wz hJ hd hs hv hsame
    obtain ⟨v, hv6, s6⟩ := hv 13 _ 6 rfl rfl
    obtain rfl : v = .bool true := s6
    have hT : Two w0 wz g gx D' D' := hJ.2
    refine hK _ _ ?_
    refine wp_ret ?_
    refine bodyPost_ret (results_tmp rfl _ _ _) hd ?_
    refine ⟨?_, hT⟩
    simp [hv6]
end
end Go.Proofs.Ytmabminjmcjafaa

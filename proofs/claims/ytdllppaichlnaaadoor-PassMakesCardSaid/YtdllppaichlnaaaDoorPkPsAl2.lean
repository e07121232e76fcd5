/-
  The digest of what came ahead and of these bytes: sumFrom's contract.
  The digest of bytes: Sum's contract.
  The state behind a key's block: padded's contract.
  A key as the states behind its two blocks: keyedBy's contract, from where the block stands.
  A tag by a key's two states: (keyed).tag's contract, and Tag's.
  The tag of bytes by a key: Tag's contract.
  The reference's next prime; words turned: contracts of prime and turn.
  The product of two of the reference's numbers, and which is greater: contracts of times and above.
  The reference's root by halving: root's contract.
  The reference's tables: Make's contract.
-/
import Derived.BigQuiet
import Derived.Test.YtdllppaichlnaaaDoorPkPsAl1
set_option linter.unusedVariables false
set_option linter.unusedSimpArgs false

namespace Go.Proofs.YtdllppaichlnaaaDoor
open Go.RowKit

theorem out_get (s : Sta) (k j x : Nat) (hj : j < 4) (hx : s.list[k]? = some x) : s.out[4 * k + j]? = some (b8n (x / 2 ^ (24 - 8 * j))) := by
  have hk : k < 8 := (List.getElem?_eq_some_iff.1 hx).1
  rcases j with _ | _ | _ | _ | j
  case succ.succ.succ.succ => omega
  all_goals
    rcases k with _ | _ | _ | _ | _ | _ | _ | _ | k
    case succ.succ.succ.succ.succ.succ.succ.succ => omega
    all_goals
      simp only [Sta.list, List.getElem?_cons_zero, List.getElem?_cons_succ, Option.some.injEq] at hx
      subst hx
      simp [Sta.out, be4]
theorem take_zeros_set (o : List UInt8) (n i : Nat) (v : UInt8) (h : o[i]? = some v) (hn : o.length = n) : (o.take i ++ List.replicate (n - i) 0).set i v = o.take (i + 1) ++ List.replicate (n - (i + 1)) 0 := by
  have hlt : i < o.length := (List.getElem?_eq_some_iff.1 h).1
  have hl : (o.take i).length = i := by simp; omega
  obtain ⟨m, hm⟩ : ∃ m, n - i = m + 1 := ⟨n - i - 1, by omega⟩
  rw [List.set_append_right _ _ (by omega), hl, Nat.sub_self, hm, List.replicate_succ, List.set_cons_zero, List.take_add_one, h, show n - (i + 1) = m by omega]
  simp
theorem byte_step {w : World} {g t i : Nat} {o : List UInt8} {n : Nat} {v : Int} {y : Nat} (hb : Rw w g t (bs (o.take i ++ List.replicate (n - i) 0))) (hn : o.length = n) (ho : o[i]? = some (b8n y)) (hv : v = ((y % 256 : Nat) : Int)) :
    Rw (w.setCell ⟨g, i, none⟩ (.int .u8 v)) g t (bs (o.take (i + 1) ++ List.replicate (n - (i + 1)) 0)) := by
  have h := Rw.set hb i (.int .u8 v)
  have e : (bs (o.take i ++ List.replicate (n - i) 0)).set i (.int .u8 v) = bs ((o.take i ++ List.replicate (n - i) 0).set i (b8 v)) := by
    unfold bs
    rw [List.map_set, b8_toNat (by omega) (by omega)]
  rw [e, b8n_b8 y hv, take_zeros_set o n i _ ho hn] at h
  exact h
theorem word_byte (x j : Nat) : (x : Int) / 2 ^ (24 - 8 * j) % 256 = ((x / 2 ^ (24 - 8 * j) % 256 : Nat) : Int) := by
  have h1 : (x : Int) / 2 ^ (24 - 8 * j) = ((x / 2 ^ (24 - 8 * j) : Nat) : Int) := by rw [Int.natCast_ediv, Int.natCast_pow]; rfl
  rw [h1]
  generalize x / 2 ^ (24 - 8 * j) = y
  omega
theorem absorb_len {l : List UInt8} (wh : Nat) (h : wh = l.length - l.length % 64) : (l.take wh).length = wh := by simp; omega

set_option maxRecDepth 20000 in
set_option maxHeartbeats 3200000 in
theorem sumFrom_any (s : Sta) (hs : s.ok) (ahead : Nat) (A : Option Addr) (c : Nat) (l : List UInt8) (w : World) (hr : Rd w A l) (hlc : l.length ≤ c) (hl : l.length ≤ 140737488355328) (ha : ahead ≤ 140737488355328) (ht : Tab w) :
    Calls Tryd.prog 39 #[.agg (us s.list).toArray, .int .i64 (ahead : Int), .slice A l.length c] w (Ret w (Is (.agg (bs (sumS s ahead l)).toArray))) := by
  obtain ⟨wh, hwh, ewh⟩ : ∃ wh : Nat, wh = l.length - l.length % 64 ∧ (l.length : Int) - (l.length : Int) % 64 = (wh : Int) := ⟨_, rfl, by omega⟩
  have hwl : wh ≤ l.length := by omega
  have hdl : (l.drop wh).length < 64 := by rw [List.length_drop]; omega
  obtain ⟨s1, HS1⟩ : ∃ s1, Hid (absorb s (l.take wh) = s1) := ⟨_, rfl⟩
  have hs1 : s1.ok := by rw [← HS1.out]; exact absorb_ok hs _
  obtain ⟨en, HEN⟩ : ∃ en, Hid (endingS (l.drop wh) (ahead + l.length) = en) := ⟨_, rfl⟩
  have henl : en.length ≤ 128 := by rw [← HEN.out, ending_length _ hdl]; split <;> omega
  obtain ⟨s2, HS2⟩ : ∃ s2, Hid (absorb s1 en = s2) := ⟨_, rfl⟩
  have hs2 : s2.ok := by rw [← HS2.out]; exact absorb_ok hs1 _
  have HO : Hid (sumS s ahead l = s2.out) := by
    show sumS s ahead l = s2.out
    unfold sumS
    rw [← hwh, HS1.out, HEN.out, HS2.out]
  have KA0 := hide fun W (h : Ext w W) => (show Calls Tryd.prog 43 #[.agg (us s.list).toArray, .slice A wh c] W (Ret W (Is (.agg (us s1.list).toArray))) from (by
    have h1 := absorbed_any s hs A c (l.take wh) W ((hr.ext h).take wh) (by rw [absorb_len wh hwh]; omega) (by rw [absorb_len wh hwh]; omega) (ht.ext h)
    rw [absorb_len wh hwh, HS1.out] at h1
    exact h1))
  have KE := hide fun (A' : Option Addr) (c' : Nat) W (h : Rd W A' (l.drop wh)) => (show Calls Tryd.prog 44 #[.slice A' (l.drop wh).length c', .int .u64 ((ahead : Int) + (l.length : Int))] W (Ret W (Bytes en)) from (by
    have h1 := ending_any A' c' (l.drop wh) (ahead + l.length) W h hdl
    rw [HEN.out] at h1
    exact h1))
  have KB0 := hide fun (A' : Option Addr) (c' : Nat) W (h : Ext w W) (h2 : Rd W A' en) (h3 : en.length ≤ c') => (show Calls Tryd.prog 43 #[.agg (us s1.list).toArray, .slice A' en.length c'] W (Ret W (Is (.agg (us s2.list).toArray))) from (by
    have h1 := absorbed_any s1 hs1 A' c' en W h2 h3 (by omega) (ht.ext h)
    rw [HS2.out] at h1
    exact h1))
  clear hwh
  go_enter Tryd.func39, Tryd.ntmps39
  go_wp2
  generalize hW : World.alloc (World.alloc w (Obj.cells (us s.list).toArray 32)) (Obj.cells #[Value.int .u8 0, Value.int .u8 0, Value.int .u8 0, Value.int .u8 0, Value.int .u8 0, Value.int .u8 0, Value.int .u8 0, Value.int .u8 0, Value.int .u8 0, Value.int .u8 0, Value.int .u8 0, Value.int .u8 0, Value.int .u8 0, Value.int .u8 0, Value.int .u8 0, Value.int .u8 0, Value.int .u8 0, Value.int .u8 0, Value.int .u8 0, Value.int .u8 0, Value.int .u8 0, Value.int .u8 0, Value.int .u8 0, Value.int .u8 0, Value.int .u8 0, Value.int .u8 0, Value.int .u8 0, Value.int .u8 0, Value.int .u8 0, Value.int .u8 0, Value.int .u8 0, Value.int .u8 0] 24) = w1
  have HH : Hid (Wds w1 w.heap.size 32 s.list) := by rw [← hW]; exact heap_alloc2_old w _ _
  have HZ : Hid (Rw w1 (w.heap.size + 1) 24 (bs (List.replicate 32 0))) := by rw [← hW]; exact heap_alloc2_new w _ _
  have hx1 : Ext w w1 := by rw [← hW]; exact (Ext.alloc w _).trans (Ext.alloc _ _)
  clear hW
  have KA := hide fun W (h : Ext w1 W) => KA0.out W (hx1.trans h)
  refine wp_region_last (Nat.le_refl _) [
      Sp.is (.agg (us s.list).toArray),
      Sp.is (.slice A l.length c),
      Sp.is (.int .i64 (wh : Int)),
      Sp.is (.slice A wh c),
      Sp.is (.agg (us s1.list).toArray)] 5 _ rfl (by kernel_rfl) (by kernel_rfl) (by kernel_rfl) ?_ ?_
  · refine ⟨.inr ?_, .inr ?_, .inr ?_, .inr ?_, .inr ?_, .inl rfl, trivial⟩
    · intro az wz hx hB hk H
      refine .inl ⟨wanted_none rfl, ?_⟩
      exact gives_load_rw 32 (.tmp 3) rfl w.heap.size (by rw [(ev (show az.tmps[3]? = some (.pointer (some ⟨w.heap.size, 0, none⟩)) from hk 3 rfl))]) 32 (us s.list) (Rw.below HH.out hx.below (Rw.lt HH.out)) 8 31 Tryd.underlying32 (by kernel_rfl) (by rw [us_length, list_length]) ⟨Grw.refl _ _, rfl⟩
    · intro az wz hx hB hk H
      refine .inl ⟨wanted_none rfl, ?_⟩
      refine gives_move rfl ?_
      rw [(ev (show az.tmps[2]? = some (.slice A l.length c) from hk 2 rfl))]
      exact ⟨Grw.refl _ _, rfl⟩
    · intro az wz hx hB hk H
      refine .inl ⟨wanted_none rfl, ?_⟩
      refine gives_move rfl ?_
      rw [(ev (show az.tmps[7]? = some (.int .i64 (wh : Int)) from hk 7 rfl))]
      exact ⟨Grw.refl _ _, rfl⟩
    · intro az wz hx hB hk H
      obtain ⟨v19, h19, s19⟩ := H 1 rfl _ rfl 19 rfl
      obtain ⟨v20, h20, s20⟩ := H 2 rfl _ rfl 20 rfl
      refine .inl ⟨wanted_none rfl, ?_⟩
      exact gives_cut rfl Tryd.underlying37 (by kernel_rfl) (by rw [ev h19]; exact s19) (by rw [ev h20]; exact s20) (by omega) ⟨Grw.refl _ _, rfl⟩
    · intro az wz hx hB hk H
      obtain ⟨v18, h18, s18⟩ := H 0 rfl _ rfl 18 rfl
      obtain ⟨v21, h21, s21⟩ := H 3 rfl _ rfl 21 rfl
      refine .inl ⟨wanted_none rfl, ?_⟩
      refine gives_call rfl Tryd.call43 (by simp only [List.map_toArray, List.map_cons, List.map_nil, ev h18, ev h21]; rw [s18, s21]) ?_
      exact (KA.out wz (Below.mono hx.below (Nat.le_refl _))).mono fun _ _ h => h.grw hB
  · intro az wz hx hd hs hv hsame
    obtain ⟨v18, h18, s18⟩ := hv 0 _ 18 (by decide) rfl rfl
    obtain rfl : v18 = (.agg (us s.list).toArray) := s18
    obtain ⟨v19, h19, s19⟩ := hv 1 _ 19 (by decide) rfl rfl
    obtain rfl : v19 = (.slice A l.length c) := s19
    obtain ⟨v20, h20, s20⟩ := hv 2 _ 20 (by decide) rfl rfl
    obtain rfl : v20 = (.int .i64 (wh : Int)) := s20
    obtain ⟨v21, h21, s21⟩ := hv 3 _ 21 (by decide) rfl rfl
    obtain rfl : v21 = (.slice A wh c) := s21
    obtain ⟨v22, h22, s22⟩ := hv 4 _ 22 (by decide) rfl rfl
    obtain rfl : v22 = (.agg (us s1.list).toArray) := s22
    have hfr := frame_last [(18, (.agg (us s.list).toArray)), (19, (.slice A l.length c)), (20, (.int .i64 (wh : Int))), (21, (.slice A wh c)), (22, (.agg (us s1.list).toArray))] hs (by kernel_rfl) (by simp only [List.forall_mem_cons, List.not_mem_nil, false_implies, implies_true, and_true]; exact ⟨h18, h19, h20, h21, h22⟩) hsame
    simp only [List.foldl_cons, List.foldl_nil, List.setIfInBounds_toArray, List.set_cons_succ, List.set_cons_zero] at hfr
    obtain ⟨tm, df⟩ := az
    simp only [] at hfr hd
    subst hfr hd
    clear hv hsame hs h18 h19 h20 h21 h22
    refine ⟨wanted_none rfl, ?_⟩
    refine gives_store_rw 32 (.tmp 3) (.tmp 22) rfl w.heap.size rfl (us s1.list) rfl 32 (us s.list) (Rw.below HH.out hx.below (Rw.lt HH.out)) 8 (by kernel_rfl) (by rw [us_length, list_length]) (by rw [us_length, us_length, list_length, list_length]) (us_one _) ?_
    intro w2 hr2 hl2
    have HH2 : Hid (Wds w2 w.heap.size 32 s1.list) := hr2
    have HZ2 : Hid (Rw w2 (w.heap.size + 1) 24 (bs (List.replicate 32 0))) := Rw.other (Rw.below HZ.out hx.below (Rw.lt HZ.out)) hl2 (by omega)
    have hx2 : Ext w w2 := Ext.laid (Below.trans hx1 (Below.mono hx.below hx1.size)) hl2 (Nat.le_refl _)
    clear hx KA HH HZ hl2 hr2 hx1
    have KB := hide fun (A' : Option Addr) (c' : Nat) W (h : Ext w2 W) => KB0.out A' c' W (hx2.trans h)
    dsimp only [Act.put]
    go_wp2
    refine wp_region_last (Nat.le_refl _) [
        Sp.is (.agg (us s1.list).toArray),
        Sp.is (.slice A l.length c),
        Sp.is (.int .i64 (wh : Int)),
        Sp.bytes (l.drop wh),
        Sp.is (.int .i64 (ahead : Int)),
        Sp.is (.int .u64 (ahead : Int)),
        Sp.is (.slice A l.length c),
        Sp.is (.int .i64 (l.length : Int)),
        Sp.is (.int .u64 (l.length : Int)),
        Sp.is (.int .u64 ((ahead : Int) + (l.length : Int))),
        Sp.bytes en,
        Sp.is (.agg (us s2.list).toArray)] 12 _ rfl (by kernel_rfl) (by kernel_rfl) (by kernel_rfl) ?_ ?_
    · refine ⟨.inr ?_, .inr ?_, .inr ?_, .inr ?_, .inr ?_, .inr ?_, .inr ?_, .inr ?_, .inr ?_, .inr ?_, .inr ?_, .inr ?_, .inl rfl, trivial⟩
      · intro az wz hx hB hk H
        refine .inl ⟨wanted_none rfl, ?_⟩
        exact gives_load_rw 32 (.tmp 3) rfl w.heap.size (by rw [(ev (show az.tmps[3]? = some (.pointer (some ⟨w.heap.size, 0, none⟩)) from hk 3 rfl))]) 32 (us s1.list) (Rw.below HH2.out hx.below (Rw.lt HH2.out)) 8 31 Tryd.underlying32 (by kernel_rfl) (by rw [us_length, list_length]) ⟨Grw.refl _ _, rfl⟩
      · intro az wz hx hB hk H
        refine .inl ⟨wanted_none rfl, ?_⟩
        refine gives_move rfl ?_
        rw [(ev (show az.tmps[2]? = some (.slice A l.length c) from hk 2 rfl))]
        exact ⟨Grw.refl _ _, rfl⟩
      · intro az wz hx hB hk H
        refine .inl ⟨wanted_none rfl, ?_⟩
        refine gives_move rfl ?_
        rw [(ev (show az.tmps[7]? = some (.int .i64 (wh : Int)) from hk 7 rfl))]
        exact ⟨Grw.refl _ _, rfl⟩
      · intro az wz hx hB hk H
        obtain ⟨v24, h24, s24⟩ := H 1 rfl _ rfl 24 rfl
        obtain ⟨v25, h25, s25⟩ := H 2 rfl _ rfl 25 rfl
        refine .inl ⟨wanted_none rfl, ?_⟩
        exact gives_from (l := l) rfl Tryd.underlying37 (by kernel_rfl) (by rw [ev h24]; exact s24) (by rw [ev h25]; exact s25) (by omega) hlc rfl (hr.ext (Below.trans hx2 (Below.mono hx.below hx2.size))) (fun A' hA' => ⟨Grw.refl _ _, ⟨A', c - wh, by rw [List.length_drop], by rw [List.length_drop]; omega, hA'⟩⟩)
      · intro az wz hx hB hk H
        refine .inl ⟨wanted_none rfl, ?_⟩
        refine gives_move rfl ?_
        rw [(ev (show az.tmps[1]? = some (.int .i64 (ahead : Int)) from hk 1 rfl))]
        exact ⟨Grw.refl _ _, rfl⟩
      · intro az wz hx hB hk H
        obtain ⟨v27, h27, s27⟩ := H 4 rfl _ rfl 27 rfl
        refine .inl ⟨wanted_none rfl, ?_⟩
        exact gives_i64_u64 (ahead : Int) rfl Tryd.underlying3 Tryd.underlying22 (by rw [ev h27]; exact s27) (by omega) ⟨Grw.refl _ _, rfl⟩
      · intro az wz hx hB hk H
        refine .inl ⟨wanted_none rfl, ?_⟩
        refine gives_move rfl ?_
        rw [(ev (show az.tmps[2]? = some (.slice A l.length c) from hk 2 rfl))]
        exact ⟨Grw.refl _ _, rfl⟩
      · intro az wz hx hB hk H
        obtain ⟨v29, h29, s29⟩ := H 6 rfl _ rfl 29 rfl
        refine .inl ⟨wanted_none rfl, ?_⟩
        exact gives_len rfl ⟨_, Tryd.underlying37⟩ (by rw [ev h29]; exact s29) ⟨Grw.refl _ _, rfl⟩
      · intro az wz hx hB hk H
        obtain ⟨v30, h30, s30⟩ := H 7 rfl _ rfl 30 rfl
        refine .inl ⟨wanted_none rfl, ?_⟩
        exact gives_i64_u64 (l.length : Int) rfl Tryd.underlying3 Tryd.underlying22 (by rw [ev h30]; exact s30) (by omega) ⟨Grw.refl _ _, rfl⟩
      · intro az wz hx hB hk H
        obtain ⟨v28, h28, s28⟩ := H 5 rfl _ rfl 28 rfl
        obtain ⟨v31, h31, s31⟩ := H 8 rfl _ rfl 31 rfl
        refine .inl ⟨wanted_none rfl, ?_⟩
        exact gives_add_u64 (ahead : Int) (l.length : Int) rfl (by rw [ev h28]; exact s28) (by rw [ev h31]; exact s31) (by omega) ⟨Grw.refl _ _, rfl⟩
      · intro az wz hx hB hk H
        obtain ⟨v26, h26, s26⟩ := H 3 rfl _ rfl 26 rfl
        obtain ⟨v32, h32, s32⟩ := H 9 rfl _ rfl 32 rfl
        refine .inl ⟨wanted_none rfl, ?_⟩
        obtain ⟨A6, c6, rfl, hc6, hr6⟩ := s26
        refine gives_call rfl Tryd.call44 (by simp only [List.map_toArray, List.map_cons, List.map_nil, ev h26, ev h32]; rw [s32]) ?_
        exact (KE.out A6 c6 wz hr6).mono fun _ _ h => h.grw hB
      · intro az wz hx hB hk H
        obtain ⟨v23, h23, s23⟩ := H 0 rfl _ rfl 23 rfl
        obtain ⟨v33, h33, s33⟩ := H 10 rfl _ rfl 33 rfl
        refine .inl ⟨wanted_none rfl, ?_⟩
        obtain ⟨A7, c7, rfl, hc7, hr7⟩ := s33
        refine gives_call rfl Tryd.call43 (by simp only [List.map_toArray, List.map_cons, List.map_nil, ev h23, ev h33]; rw [s23]) ?_
        exact (KB.out A7 c7 wz (Below.mono hx.below (Nat.le_refl _)) hr7 hc7).mono fun _ _ h => h.grw hB
    · intro az wz hx hd hs hv hsame
      obtain ⟨v23, h23, s23⟩ := hv 0 _ 23 (by decide) rfl rfl
      obtain rfl : v23 = (.agg (us s1.list).toArray) := s23
      obtain ⟨v24, h24, s24⟩ := hv 1 _ 24 (by decide) rfl rfl
      obtain rfl : v24 = (.slice A l.length c) := s24
      obtain ⟨v25, h25, s25⟩ := hv 2 _ 25 (by decide) rfl rfl
      obtain rfl : v25 = (.int .i64 (wh : Int)) := s25
      obtain ⟨v26, h26, s26⟩ := hv 3 _ 26 (by decide) rfl rfl
      obtain ⟨v27, h27, s27⟩ := hv 4 _ 27 (by decide) rfl rfl
      obtain rfl : v27 = (.int .i64 (ahead : Int)) := s27
      obtain ⟨v28, h28, s28⟩ := hv 5 _ 28 (by decide) rfl rfl
      obtain rfl : v28 = (.int .u64 (ahead : Int)) := s28
      obtain ⟨v29, h29, s29⟩ := hv 6 _ 29 (by decide) rfl rfl
      obtain rfl : v29 = (.slice A l.length c) := s29
      obtain ⟨v30, h30, s30⟩ := hv 7 _ 30 (by decide) rfl rfl
      obtain rfl : v30 = (.int .i64 (l.length : Int)) := s30
      obtain ⟨v31, h31, s31⟩ := hv 8 _ 31 (by decide) rfl rfl
      obtain rfl : v31 = (.int .u64 (l.length : Int)) := s31
      obtain ⟨v32, h32, s32⟩ := hv 9 _ 32 (by decide) rfl rfl
      obtain rfl : v32 = (.int .u64 ((ahead : Int) + (l.length : Int))) := s32
      obtain ⟨v33, h33, s33⟩ := hv 10 _ 33 (by decide) rfl rfl
      obtain ⟨v34, h34, s34⟩ := hv 11 _ 34 (by decide) rfl rfl
      obtain rfl : v34 = (.agg (us s2.list).toArray) := s34
      have hfr := frame_last [(23, (.agg (us s1.list).toArray)), (24, (.slice A l.length c)), (25, (.int .i64 (wh : Int))), (26, v26), (27, (.int .i64 (ahead : Int))), (28, (.int .u64 (ahead : Int))), (29, (.slice A l.length c)), (30, (.int .i64 (l.length : Int))), (31, (.int .u64 (l.length : Int))), (32, (.int .u64 ((ahead : Int) + (l.length : Int)))), (33, v33), (34, (.agg (us s2.list).toArray))] hs (by kernel_rfl) (by simp only [List.forall_mem_cons, List.not_mem_nil, false_implies, implies_true, and_true]; exact ⟨h23, h24, h25, h26, h27, h28, h29, h30, h31, h32, h33, h34⟩) hsame
      simp only [List.foldl_cons, List.foldl_nil, List.setIfInBounds_toArray, List.set_cons_succ, List.set_cons_zero] at hfr
      obtain ⟨tm, df⟩ := az
      simp only [] at hfr hd
      subst hfr hd
      clear hv hsame hs h23 h24 h25 h26 h27 h28 h29 h30 h31 h32 h33 h34
      refine ⟨wanted_none rfl, ?_⟩
      refine gives_store_rw 32 (.tmp 3) (.tmp 34) rfl w.heap.size rfl (us s2.list) rfl 32 (us s1.list) (Rw.below HH2.out hx.below (Rw.lt HH2.out)) 8 (by kernel_rfl) (by rw [us_length, list_length]) (by rw [us_length, us_length, list_length, list_length]) (us_one _) ?_
      intro w3 hr3 hl3
      have HH3 : Hid (Wds w3 w.heap.size 32 s2.list) := hr3
      have HZ3 : Hid (Rw w3 (w.heap.size + 1) 24 (bs (List.replicate 32 0))) := Rw.other (Rw.below HZ2.out hx.below (Rw.lt HZ2.out)) hl3 (by omega)
      have hx3 : Ext w w3 := Ext.laid (Below.trans hx2 (Below.mono hx.below hx2.size)) hl3 (Nat.le_refl _)
      have hs3 : w.heap.size + 2 ≤ w3.heap.size := by have := Rw.lt HZ3.out; omega
      clear hx KA0 KB0 KB KE HH2 HZ2 hl3 hr3 hx2
      dsimp only [Act.put]
      go_wp2_with (first
        | ((with_reducible show wpList _ _ _ (⟨some 35, .load _ _, _, _, _, _⟩ :: _) _ _);
           refine wpList_load_rw rfl 32 (.tmp 3) rfl _ rfl 32 (us s2.list) (Wds.ext HH3.out (Ext.alloc _ _)) 8 31 Tryd.underlying32 (by kernel_rfl) (by rw [us_length, list_length]) ?_))
      go_loopw [36] (fun i wr => ∃ k : Nat, k ≤ 8 ∧ i = .int .i64 k ∧ Rw wr w3.heap.size 24 (bs (s2.out.take (4 * k) ++ List.replicate (32 - 4 * k) 0)) ∧ Rw wr (w.heap.size + 1) 24 (bs (List.replicate 32 0)) ∧ Ext w wr) (fun i _ => 8 - (intOf i).toNat)
      case atStart => exact ⟨0, Nat.zero_le _, rfl, heap_alloc_new w3 _, Rw.alloc HZ3.out _, hx3.trans (Ext.alloc _ _)⟩
      clear HZ3 HH3 hx3
      case round =>
        obtain ⟨k, hk, rfl, ho, hz, hx⟩ := hrel
        by_cases hlt : k < 8
        · obtain ⟨x, hxk⟩ : ∃ x, s2.list[k]? = some x := ⟨_, List.getElem?_eq_getElem (by rw [list_length]; exact hlt)⟩
          have hlt2 : (k : Int) < 8 := by omega
          have hix : ∀ W, (Instr.index 32 (.agg (us s2.list).toArray) (.int .i64 (k : Int))).run Tryd.prog W = .ok (.int .u32 (x : Int)) W := fun W => run_index W _ 31 (us s2.list) _ k (by rw [us_length, list_length]; exact Tryd.underlying32) (by kernel_rfl) (by rw [us_get, hxk]; rfl) (by simp [go_sem, us_get, hxk])
          have hgt := fun j hj => out_get s2 k j x hj hxk
          clear hxk
          go_wp2
          go_loopw [40] (fun i wq => ∃ j : Nat, j ≤ 4 ∧ i = .int .i64 j ∧ Rw wq w3.heap.size 24 (bs (s2.out.take (4 * k + j) ++ List.replicate (32 - (4 * k + j)) 0)) ∧ Rw wq (w.heap.size + 1) 24 (bs (List.replicate 32 0)) ∧ Ext w wq) (fun i _ => 4 - (intOf i).toNat)
          case atStart => exact ⟨0, Nat.zero_le _, rfl, ho, hz, hx⟩
          clear ho hz hx
          case round =>
            obtain ⟨j, hj, rfl, ho, hz, hx⟩ := hrel
            by_cases hltj : j < 4
            · have hltj2 : (j : Int) < 4 := by omega
              have HO1 := hide (hgt j hltj)
              obtain ⟨y, hy⟩ : ∃ y, (bs (s2.out.take (4 * k + j) ++ List.replicate (32 - (4 * k + j)) 0))[4 * k + j]? = some y := ⟨_, List.getElem?_eq_getElem (by rw [bs_length]; simp [out_length]; omega)⟩
              have hcx := Rw.cell ho hy
              have hfx := Rw.frozen ho (4 * k + j)
              clear hy hgt hix
              go_wp2
              exact ⟨⟨j + 1, by omega, by go_num, byte_step ho (out_length s2) HO1.out (word_byte x j), Rw.far hz (by show w.heap.size + 1 ≠ w3.heap.size; omega) _, Below.set hx (by show w.heap.size ≤ w3.heap.size; omega) _⟩, by simp [intOf]; omega⟩
            · have hge : ¬ (j : Int) < 4 := by omega
              have HO2 : Hid (Rw wr w3.heap.size 24 (bs (s2.out.take (4 * (k + 1)) ++ List.replicate (32 - 4 * (k + 1)) 0))) := by
                have e : j = 4 := by omega
                rw [e] at ho
                exact ho
              clear ho hj hltj
              go_wp2
              exact ⟨⟨k + 1, by omega, by go_num, HO2.out, hz, hx⟩, by simp [intOf]; omega⟩
        · have hge : ¬ (k : Int) < 8 := by omega
          have HO2 : Hid (Rw wr w3.heap.size 24 (bs s2.out)) := by
            have e : k = 8 := by omega
            rw [e] at ho
            exact ho
          have HZ := hide hz
          clear ho hz hk hlt
          go_wp2_with (first
            | ((with_reducible show wpList _ _ _ (⟨some 56, .load _ _, _, _, _, _⟩ :: _) _ _);
               refine wpList_load_rw rfl 24 (.tmp 8) rfl _ rfl 24 (bs s2.out) HO2.out 32 5 Tryd.underlying24 (by kernel_rfl) (by rw [bs_length, out_length]) ?_)
            | ((with_reducible show wpList _ _ _ (⟨none, .store _ (.tmp 6) _, _, _, _, _⟩ :: _) _ _);
               refine wpList_store_rw rfl 24 (.tmp 6) (.tmp 56) rfl _ rfl (bs s2.out) rfl 24 (bs (List.replicate 32 0)) HZ.out 32 (by kernel_rfl) (by rw [bs_length, out_length]) (by rw [bs_length, bs_length, out_length]; rfl) (List.all_eq_true.2 (bs_one _)) ?_;
               intro w5 hr5 hl5))
          exact ret_rw rfl rfl _ rfl _ _ hr5 32 5 Tryd.underlying24 (by kernel_rfl) (by rw [bs_length, out_length]) (Ret.mk (hx.laid hl5 (by omega)) (show Value.agg (bs s2.out).toArray = Value.agg (bs (sumS s ahead l)).toArray by rw [HO.out]))
end Go.Proofs.YtdllppaichlnaaaDoor
namespace Go.Proofs.YtdllppaichlnaaaDoor
open Go.RowKit

theorem Tab.start {w : World} (ht : Tab w) : ∀ j v, (us start0.list)[j]? = some v → w.cell? ⟨0, j, none⟩ = some v := by
  intro j v hv
  rw [us_get] at hv
  obtain ⟨n, hn, rfl⟩ : ∃ n, start0.list[j]? = some n ∧ Value.int .u32 (n : Int) = v := by
    cases h : start0.list[j]? with
    | none => rw [h] at hv; cases hv
    | some n => rw [h] at hv; exact ⟨n, rfl, by simpa using hv⟩
  exact ht.h j n hn

set_option maxRecDepth 20000 in
set_option maxHeartbeats 1600000 in
theorem sum_any (A : Option Addr) (c : Nat) (l : List UInt8) (w : World) (hr : Rd w A l) (hlc : l.length ≤ c) (hl : l.length ≤ 140737488355328) (ht : Tab w) :
    Calls Tryd.prog 37 #[.slice A l.length c] w (Ret w (Is (.agg (bs (sha l)).toArray))) := by
  obtain ⟨o, HO⟩ : ∃ o, Hid (sha l = o) := ⟨_, rfl⟩
  have hol : o.length = 32 := by rw [← HO.out]; rfl
  have KS := hide fun W (h : Ext w W) => (show Calls Tryd.prog 39 #[.agg (us start0.list).toArray, .int .i64 0, .slice A l.length c] W (Ret W (Is (.agg (bs o).toArray)))
    from HO.out ▸ sumFrom_any start0 start0_ok 0 A c l W (hr.ext h) hlc hl (by omega) (ht.ext h))
  rw [HO.out]
  go_enter Tryd.func37, Tryd.ntmps37
  go_wp2_with (first
    | ((with_reducible show wpList _ _ _ (⟨some 3, .load _ _, _, _, _, _⟩ :: _) _ _);
       refine wpList_load_cells rfl 32 (.global 0) rfl _ rfl (us start0.list) 8 31 Tryd.underlying32 (by kernel_rfl) (by rw [us_length, list_length]) (ht.ext (Ext.alloc w _)).start ?_)
    | (go_at_call 39; refine (KS.out _ (Ext.alloc w _)).mono ?_; rintro e w2 ⟨v2, rfl, hw2, rfl⟩)
    | ((with_reducible show wpList _ _ _ (⟨none, .store _ (.tmp 2) _, _, _, _, _⟩ :: _) _ _);
       refine wpList_store_rw rfl 24 (.tmp 2) (.tmp 5) rfl _ rfl (bs o) rfl 24 (bs (List.replicate 32 0)) (Rw.ext (heap_alloc_new w _) hw2) 32 (by kernel_rfl) (by rw [bs_length, hol]) (by rw [bs_length, bs_length, hol]; rfl) (List.all_eq_true.2 (bs_one _)) ?_;
       intro w5 hr5 hl5))
  exact ret_rw rfl rfl _ rfl _ _ hr5 32 5 Tryd.underlying24 (by kernel_rfl) (by rw [bs_length, hol]) (Ret.mk (((Ext.alloc w _).trans hw2).laid hl5 (Nat.le_refl _)) rfl)
end Go.Proofs.YtdllppaichlnaaaDoor
namespace Go.Proofs.YtdllppaichlnaaaDoor
open Go.RowKit

def xorB (p : UInt8) (l : List UInt8) : List UInt8 := l.map (· ^^^ p)
theorem set_part {α : Type} (P S : List α) (k : Nat) (z : α) (hP : P[k]? = some z) (hS : k < S.length) : (P.take k ++ S.drop k).set k z = P.take (k + 1) ++ S.drop (k + 1) := by
  have hk : k < P.length := (List.getElem?_eq_some_iff.1 hP).1
  have hlen : (P.take k).length = k := by simp; omega
  rw [List.set_append_right _ _ (by omega), hlen, Nat.sub_self, List.drop_eq_getElem_cons hS, List.set_cons_zero, List.take_add_one, hP]
  simp
theorem get_part {α : Type} (P S : List α) (k : Nat) (hP : k < P.length) : (P.take k ++ S.drop k)[k]? = S[k]? := by
  have hlen : (P.take k).length = k := by simp; omega
  rw [List.getElem?_append_right (by omega), hlen, Nat.sub_self, List.getElem?_drop]
  rfl
theorem run_all (g : Nat) (w : World) : (Instr.sliceAt 77 (.pointer (some ⟨g, 0, none⟩)) none none none).run Tryd.prog w = .ok (.slice (some ⟨g, 0, none⟩) 64 64) w := by
  simp [go_sem, Tryd.underlying77]
theorem Rw.rd {w : World} {g t : Nat} {l : List UInt8} (h : Rw w g t (bs l)) : Rd w (some ⟨g, 0, none⟩) l := fun _ => ⟨g, 0, rfl, fun j u hu => by rw [Nat.zero_add]; exact Rw.cell h (by rw [bs_get, hu]; rfl)⟩

set_option maxRecDepth 20000 in
set_option maxHeartbeats 1600000 in
theorem padded_any (bl : List UInt8) (hbl : bl.length = 64) (p : UInt8) (w : World) (ht : Tab w) :
    Calls Tryd.prog 38 #[.agg (bs bl).toArray, .int .u8 (p.toNat : Int)] w (Ret w (Is (.agg (us (mixedS start0 (xorB p bl)).list).toArray))) := by
  obtain ⟨nx, HNX⟩ : ∃ nx, Hid (mixedS start0 (xorB p bl) = nx) := ⟨_, rfl⟩
  rw [HNX.out]
  have hp2 := p.toNat_lt
  have hxl : (xorB p bl).length = 64 := by simp [xorB, hbl]
  go_enter Tryd.func38, Tryd.ntmps38
  go_wp2
  go_loopw [6] (fun i wr => ∃ k : Nat, k ≤ 64 ∧ i = .int .i64 k ∧ Rw wr w.heap.size 77 (bs ((xorB p bl).take k ++ bl.drop k)) ∧ Wds wr (w.heap.size + 1) 32 (List.replicate 8 0) ∧ Ext w wr) (fun i _ => 64 - (intOf i).toNat)
  case atStart => exact ⟨0, Nat.zero_le _, rfl, heap_alloc2_old w _ _, heap_alloc2_new w _ _, (Ext.alloc w _).trans (Ext.alloc _ _)⟩
  case round =>
    obtain ⟨k, hk, rfl, hb, hz, hx0⟩ := hrel
    by_cases hlt : k < 64
    · have hlt2 : (k : Int) < 64 := by omega
      obtain ⟨x, hxk⟩ : ∃ x, bl[k]? = some x := ⟨_, List.getElem?_eq_getElem (by omega)⟩
      have hxx : (xorB p bl)[k]? = some (x ^^^ p) := by simp [xorB, hxk]
      have hx2 := x.toNat_lt
      have e1 := u8_xor_nat x.toNat p.toNat (by omega) (by omega)
      have hcx : wr.cell? ⟨w.heap.size, k, none⟩ = some (.int .u8 (x.toNat : Int)) := Rw.cell hb (by rw [bs_get, get_part _ _ _ (by omega), hxk]; rfl)
      have hfx := Rw.frozen hb k
      have HB : Hid (Rw (wr.setCell ⟨w.heap.size, k, none⟩ (.int .u8 ((x.toNat ^^^ p.toNat : Nat) : Int))) w.heap.size 77 (bs ((xorB p bl).take (k + 1) ++ bl.drop (k + 1)))) := by
        have h := Rw.set hb k (.int .u8 ((x.toNat ^^^ p.toNat : Nat) : Int))
        have e : (bs ((xorB p bl).take k ++ bl.drop k)).set k (.int .u8 ((x.toNat ^^^ p.toNat : Nat) : Int)) = bs (((xorB p bl).take k ++ bl.drop k).set k (x ^^^ p)) := by
          unfold bs
          rw [List.map_set, UInt8.toNat_xor]
        rw [e, set_part _ _ _ _ hxx (by omega)] at h
        exact h
      clear hxk hxx
      go_wp2
      exact ⟨⟨k + 1, by omega, by go_num, HB.out, Wds.far hz (by show w.heap.size + 1 ≠ w.heap.size; omega) _, Below.set hx0 (Nat.le_refl _) _⟩, by simp [intOf]; omega⟩
    · have hge : ¬ (k : Int) < 64 := by omega
      have HB : Hid (Rw wr w.heap.size 77 (bs (xorB p bl))) := by
        have e : k = 64 := by omega
        rw [e, List.take_of_length_le (by omega), List.drop_of_length_le (by omega), List.append_nil] at hb
        exact hb
      have HZ := hide hz
      have KM := hide fun W (h : Ext wr W) => (show Calls Tryd.prog 42 #[.agg (us start0.list).toArray, .slice (some ⟨w.heap.size, 0, none⟩) 64 64] W (Ret W (Is (.agg (us nx.list).toArray)))
        from HNX.out ▸ mixed_any start0 start0_ok (some ⟨w.heap.size, 0, none⟩) 64 (xorB p bl) hxl W ((Rw.rd HB.out).ext h) (by omega) (ht.ext (hx0.trans h)))
      clear hb hz hk hlt
      go_wp2
      refine wp_region_last (Nat.le_refl _) [
          Sp.is (.agg (us start0.list).toArray),
          Sp.is (.slice (some ⟨w.heap.size, 0, none⟩) 64 64),
          Sp.is (.agg (us nx.list).toArray)] 3 _ rfl (by kernel_rfl) (by kernel_rfl) (by kernel_rfl) ?_ ?_
      · refine ⟨.inr ?_, .inr ?_, .inr ?_, .inl rfl, trivial⟩
        · intro az wz hx hB hk H
          refine .inl ⟨wanted_none rfl, ?_⟩
          exact gives_load_cells 32 (.global 0) rfl _ rfl (us start0.list) 8 31 Tryd.underlying32 (by kernel_rfl) (by rw [us_length, list_length]) (ht.ext (Below.trans hx0 (Below.mono hx.below hx0.size))).start ⟨Grw.refl _ _, rfl⟩
        · intro az wz hx hB hk H
          refine .inl ⟨wanted_none rfl, ?_⟩
          exact gives_all (n := 64) rfl (by rw [(ev (show az.tmps[2]? = some (.pointer (some ⟨w.heap.size, 0, none⟩)) from hk 2 rfl))]) (run_all _ _) ⟨Grw.refl _ _, rfl⟩
        · intro az wz hx hB hk H
          obtain ⟨v16, h16, s16⟩ := H 0 rfl _ rfl 16 rfl
          obtain ⟨v17, h17, s17⟩ := H 1 rfl _ rfl 17 rfl
          refine .inl ⟨wanted_none rfl, ?_⟩
          refine gives_call rfl Tryd.call42 (by simp only [List.map_toArray, List.map_cons, List.map_nil, ev h16, ev h17]; rw [s16, s17]) ?_
          exact (KM.out wz (Below.mono hx.below (Nat.le_refl _))).mono fun _ _ h => h.grw hB
      · intro az wz hx hd hs hv hsame
        obtain ⟨v16, h16, s16⟩ := hv 0 _ 16 (by decide) rfl rfl
        obtain rfl : v16 = (.agg (us start0.list).toArray) := s16
        obtain ⟨v17, h17, s17⟩ := hv 1 _ 17 (by decide) rfl rfl
        obtain rfl : v17 = (.slice (some ⟨w.heap.size, 0, none⟩) 64 64) := s17
        obtain ⟨v18, h18, s18⟩ := hv 2 _ 18 (by decide) rfl rfl
        obtain rfl : v18 = (.agg (us nx.list).toArray) := s18
        have hfr := frame_last [(16, (.agg (us start0.list).toArray)), (17, (.slice (some ⟨w.heap.size, 0, none⟩) 64 64)), (18, (.agg (us nx.list).toArray))] hs (by kernel_rfl) (by simp only [List.forall_mem_cons, List.not_mem_nil, false_implies, implies_true, and_true]; exact ⟨h16, h17, h18⟩) hsame
        simp only [List.foldl_cons, List.foldl_nil, List.setIfInBounds_toArray, List.set_cons_succ, List.set_cons_zero] at hfr
        obtain ⟨tm, df⟩ := az
        simp only [] at hfr hd
        subst hfr hd
        clear hv hsame hs h16 h17 h18
        refine ⟨wanted_none rfl, ?_⟩
        refine gives_store_rw 32 (.tmp 4) (.tmp 18) rfl (w.heap.size + 1) rfl (us nx.list) rfl 32 (us (List.replicate 8 0)) (Rw.below HZ.out hx.below (Rw.lt HZ.out)) 8 (by kernel_rfl) (by rw [us_length, list_length]) (by rw [us_length, us_length, list_length]; rfl) (us_one _) ?_
        intro w5 hr5 hl5
        have hx5 : Ext w w5 := Ext.laid (Below.trans hx0 (Below.mono hx.below hx0.size)) hl5 (by omega)
        clear hx KM HB HZ hl5
        dsimp only [Act.put]
        go_wp2
        exact ret_rw rfl rfl _ rfl _ _ hr5 8 31 Tryd.underlying32 (by kernel_rfl) (by rw [us_length, list_length]) (Ret.mk hx5 rfl)
end Go.Proofs.YtdllppaichlnaaaDoor
namespace Go.Proofs.YtdllppaichlnaaaDoor
open Go.RowKit

theorem gives_build2 {P : Program} {o : Oper} {a : Act} {w : World} {R : Value → World → Prop} {t : TypeId} {x y : Operand} {u v : Value} {cs : Array Value} (h : o.op = .build t #[(0, x), (1, y)]) (hx : a.eval x = u) (hy : a.eval y = v) (hb : P.built t [(0, u), (1, v)] = some cs) (hR : R (.agg cs) w) : gives P o a w R := by
  have hrun := run_build (P := P) w t #[(0, u), (1, v)] cs hb
  refine gives_of_run (w' := w) (v := .agg cs) ?_ hR
  unfold execOp
  simp only [h, List.map_toArray, List.map_cons, List.map_nil, hx, hy, Sem.run_bind, hrun, Result.andThen_ok, Sem.run_pure]
theorem built_keyed (s1 s2 : Sta) : Tryd.prog.built 66 [(0, .agg (us s1.list).toArray), (1, .agg (us s2.list).toArray)] = some (us (s1.list ++ s2.list)).toArray := by
  obtain ⟨a, b, c, d, e, f, g, h⟩ := s1
  obtain ⟨a', b', c', d', e', f', g', h'⟩ := s2
  kernel_rfl
theorem splice_key (n : Nat) (key : List UInt8) : splice (bs (List.replicate n 0)) 0 (bs key) = bs (key ++ List.replicate (n - key.length) 0) := by
  unfold splice bs
  simp
/-- The block of a key. -/
def keyB (key : List UInt8) : List UInt8 := if 64 < key.length then sha key ++ List.replicate 32 0 else key ++ List.replicate (64 - key.length) 0
theorem keyB_length (key : List UInt8) : (keyB key).length = 64 := by
  unfold keyB
  split
  · have : (sha key).length = 32 := rfl
    simp [this]
  · simp; omega
def innerS (key : List UInt8) : Sta := mixedS start0 (xorB 54 (keyB key))
def outerS (key : List UInt8) : Sta := mixedS start0 (xorB 92 (keyB key))
set_option maxRecDepth 100000 in
theorem run_copy32 (w : World) (g g2 : Nat) (o : List UInt8) (ho : o.length = 32) (hg : Rw w g 77 (bs (List.replicate 64 0))) (h2 : Rw w g2 24 (bs o)) :
    ∃ w', (Builtin.copy_ #[37, 37] 3 #[.slice (some ⟨g, 0, none⟩) 64 64, .slice (some ⟨g2, 0, none⟩) 32 32]).run Tryd.prog w = .ok (goInt 32) w' ∧ Rw w' g 77 (bs (o ++ List.replicate 32 0)) ∧ Laid1 g w w' := by
  have h1 := run_copy_row (P := Tryd.prog) w 37 37 3 5 g 0 64 64 ⟨g2, 0, none⟩ 32 32 (bs (List.replicate 64 0)).toArray 77 (bs o)
    Tryd.underlying37 (by kernel_rfl) hg (by rw [bs_length, ho]; rfl)
    (fun j v hj => by
      rw [add_flat, Nat.zero_add]
      exact Rw.cell h2 hj)
    (by rw [bs_length, ho]; simp [bs]) (fun v hv => bs_one _ v hv)
  rw [bs_length, ho] at h1
  refine ⟨_, h1, ?_, Laid1.of_row w g _⟩
  have h3 := setRow_heap w g _ ((bs (List.replicate 64 0)).toArray.toList.take 0 ++ bs o ++ (bs (List.replicate 64 0)).toArray.toList.drop (0 + 32)).toArray _ _ hg
  refine h3.trans ?_
  congr 3
  simp [bs]

set_option maxRecDepth 20000 in
set_option maxHeartbeats 1600000 in
theorem keyedBy_any (A : Option Addr) (c : Nat) (key : List UInt8) (w : World) (hr : Rd w A key) (hlc : key.length ≤ c) (hl : key.length ≤ 140737488355328) (ht : Tab w) :
    Calls Tryd.prog 30 #[.slice A key.length c] w (Ret w (Is (.agg (us ((innerS key).list ++ (outerS key).list)).toArray))) := by
  obtain ⟨s1, HS1⟩ : ∃ s1, Hid (innerS key = s1) := ⟨_, rfl⟩
  obtain ⟨s2, HS2⟩ : ∃ s2, Hid (outerS key = s2) := ⟨_, rfl⟩
  obtain ⟨bl, HBL⟩ : ∃ bl, Hid (keyB key = bl) := ⟨_, rfl⟩
  have hbl : bl.length = 64 := by rw [← HBL.out]; exact keyB_length key
  have KP10 := hide fun W (h : Ext w W) => (show Calls Tryd.prog 38 #[.agg (bs bl).toArray, .int .u8 54] W (Ret W (Is (.agg (us s1.list).toArray))) from (by
    have h1 := padded_any bl hbl 54 W (ht.ext h)
    have h2 : mixedS start0 (xorB 54 bl) = s1 := by rw [← HS1.out, ← HBL.out]; rfl
    rw [h2] at h1
    exact h1))
  have KP20 := hide fun W (h : Ext w W) => (show Calls Tryd.prog 38 #[.agg (bs bl).toArray, .int .u8 92] W (Ret W (Is (.agg (us s2.list).toArray))) from (by
    have h1 := padded_any bl hbl 92 W (ht.ext h)
    have h2 : mixedS start0 (xorB 92 bl) = s2 := by rw [← HS2.out, ← HBL.out]; rfl
    rw [h2] at h1
    exact h1))
  rw [HS1.out, HS2.out]
  by_cases hbig : 64 < key.length
  · obtain ⟨o, HO⟩ : ∃ o, Hid (sha key = o) := ⟨_, rfl⟩
    have hol : o.length = 32 := by rw [← HO.out]; rfl
    have HBO : Hid (bl = o ++ List.replicate 32 0) := by show bl = _; rw [← HBL.out, keyB, if_pos hbig, HO.out]
    have KS := hide fun W (h : Ext w W) => (show Calls Tryd.prog 37 #[.slice A key.length c] W (Ret W (Is (.agg (bs o).toArray))) from HO.out ▸ sum_any A c key W (hr.ext h) hlc hl (ht.ext h))
    have hb1 : (64 : Int) < (key.length : Int) := by omega
    go_enter Tryd.func30, Tryd.ntmps30
    go_wp2_with (first
      | (go_at_call 37; refine (KS.out _ ((Ext.alloc w _).trans (Ext.alloc _ _))).mono ?_; rintro e w2 ⟨v2, rfl, hw2, rfl⟩;
         have hx2 : Ext w w2 := ((Ext.alloc w _).trans (Ext.alloc _ _)).trans hw2;
         have HZ2 : Hid (Rw w2 w.heap.size 66 (us (List.replicate 16 0))) := Rw.ext (show Rw _ _ _ _ from heap_alloc2_old w _ _) hw2;
         have HK2 : Hid (Rw w2 (w.heap.size + 1) 77 (bs (List.replicate 64 0))) := Rw.ext (show Rw _ _ _ _ from heap_alloc2_new w _ _) hw2)
      | ((with_reducible show wpList _ _ _ (⟨none, .store _ (.tmp 4) _, _, _, _, _⟩ :: _) _ _);
         refine wpList_store_rw rfl 24 (.tmp 4) (.tmp 9) rfl _ rfl (bs o) rfl 24 (bs (List.replicate 32 0)) (heap_alloc_new w2 _) 32 (by kernel_rfl) (by rw [bs_length, hol]) (by rw [bs_length, bs_length, hol]; rfl) (List.all_eq_true.2 (bs_one _)) ?_;
         intro w3 hr3 hl3;
         have hs2 : w.heap.size + 2 ≤ w2.heap.size := (by have := Rw.lt HK2.out; omega);
         have HZ3 : Hid (Rw w3 w.heap.size 66 (us (List.replicate 16 0))) := Rw.other (Rw.ext HZ2.out (Ext.alloc _ _)) hl3 (by omega);
         have HK3 : Hid (Rw w3 (w.heap.size + 1) 77 (bs (List.replicate 64 0))) := Rw.other (Rw.ext HK2.out (Ext.alloc _ _)) hl3 (by omega);
         have hx3 : Ext w w3 := (hx2.trans (Ext.alloc _ _)).laid hl3 (by omega);
         obtain ⟨wk, hrun, hk4, hl4⟩ := run_copy32 w3.drew (w.heap.size + 1) w2.heap.size o hol HK3.out hr3;
         have HZ : Hid (Rw wk w.heap.size 66 (us (List.replicate 16 0))) := Rw.other (w := w3.drew) HZ3.out hl4 (by omega);
         have HB : Hid (Rw wk (w.heap.size + 1) 77 (bs bl)) := (by rw [HBO.out]; exact hk4);
         have hx0 : Ext w wk := Ext.laid (hx3.trans (Ext.drew _)) hl4 (by omega);
         clear HZ2 HK2 hr3 HZ3 HK3 hk4 hx2 hw2))
    go_region
    clear hrun KS
    have KP1 := hide fun W (h : Ext wk W) => KP10.out W (hx0.trans h)
    have KP2 := hide fun W (h : Ext wk W) => KP20.out W (hx0.trans h)
    go_wp2
    refine wp_region_last (Nat.le_refl _) [
        Sp.is (.agg (bs bl).toArray),
        Sp.is (.agg (us s1.list).toArray),
        Sp.is (.agg (bs bl).toArray),
        Sp.is (.agg (us s2.list).toArray),
        Sp.is (.agg (us (s1.list ++ s2.list)).toArray)] 5 _ rfl (by kernel_rfl) (by kernel_rfl) (by kernel_rfl) ?_ ?_
    · refine ⟨.inr ?_, .inr ?_, .inr ?_, .inr ?_, .inr ?_, .inl rfl, trivial⟩
      · intro az wz hx hB hk H
        refine .inl ⟨wanted_none rfl, ?_⟩
        exact gives_load_rw 77 (.tmp 3) rfl (w.heap.size + 1) (by rw [(ev (show az.tmps[3]? = some (.pointer (some ⟨w.heap.size + 1, 0, none⟩)) from hk 3 rfl))]) 77 (bs bl) (Rw.below HB.out hx.below (Rw.lt HB.out)) 64 5 Tryd.underlying77 (by kernel_rfl) (by rw [bs_length, hbl]) ⟨Grw.refl _ _, rfl⟩
      · intro az wz hx hB hk H
        obtain ⟨v16, h16, s16⟩ := H 0 rfl _ rfl 16 rfl
        refine .inl ⟨wanted_none rfl, ?_⟩
        refine gives_call rfl Tryd.call38 (by simp only [List.map_toArray, List.map_cons, List.map_nil, ev h16]; rw [s16]) ?_
        exact (KP1.out wz (Below.mono hx.below (Nat.le_refl _))).mono fun _ _ h => h.grw hB
      · intro az wz hx hB hk H
        refine .inl ⟨wanted_none rfl, ?_⟩
        exact gives_load_rw 77 (.tmp 3) rfl (w.heap.size + 1) (by rw [(ev (show az.tmps[3]? = some (.pointer (some ⟨w.heap.size + 1, 0, none⟩)) from hk 3 rfl))]) 77 (bs bl) (Rw.below HB.out hx.below (Rw.lt HB.out)) 64 5 Tryd.underlying77 (by kernel_rfl) (by rw [bs_length, hbl]) ⟨Grw.refl _ _, rfl⟩
      · intro az wz hx hB hk H
        obtain ⟨v18, h18, s18⟩ := H 2 rfl _ rfl 18 rfl
        refine .inl ⟨wanted_none rfl, ?_⟩
        refine gives_call rfl Tryd.call38 (by simp only [List.map_toArray, List.map_cons, List.map_nil, ev h18]; rw [s18]) ?_
        exact (KP2.out wz (Below.mono hx.below (Nat.le_refl _))).mono fun _ _ h => h.grw hB
      · intro az wz hx hB hk H
        obtain ⟨v17, h17, s17⟩ := H 1 rfl _ rfl 17 rfl
        obtain ⟨v19, h19, s19⟩ := H 3 rfl _ rfl 19 rfl
        refine .inl ⟨wanted_none rfl, ?_⟩
        refine gives_build2 rfl (by rw [ev h17]; exact s17) (by rw [ev h19]; exact s19) (built_keyed s1 s2) ⟨Grw.refl _ _, rfl⟩
    · intro az wz hx hd hs hv hsame
      obtain ⟨v16, h16, s16⟩ := hv 0 _ 16 (by decide) rfl rfl
      obtain rfl : v16 = (.agg (bs bl).toArray) := s16
      obtain ⟨v17, h17, s17⟩ := hv 1 _ 17 (by decide) rfl rfl
      obtain rfl : v17 = (.agg (us s1.list).toArray) := s17
      obtain ⟨v18, h18, s18⟩ := hv 2 _ 18 (by decide) rfl rfl
      obtain rfl : v18 = (.agg (bs bl).toArray) := s18
      obtain ⟨v19, h19, s19⟩ := hv 3 _ 19 (by decide) rfl rfl
      obtain rfl : v19 = (.agg (us s2.list).toArray) := s19
      obtain ⟨v20, h20, s20⟩ := hv 4 _ 20 (by decide) rfl rfl
      obtain rfl : v20 = (.agg (us (s1.list ++ s2.list)).toArray) := s20
      have hfr := frame_last [(16, (.agg (bs bl).toArray)), (17, (.agg (us s1.list).toArray)), (18, (.agg (bs bl).toArray)), (19, (.agg (us s2.list).toArray)), (20, (.agg (us (s1.list ++ s2.list)).toArray))] hs (by kernel_rfl) (by simp only [List.forall_mem_cons, List.not_mem_nil, false_implies, implies_true, and_true]; exact ⟨h16, h17, h18, h19, h20⟩) hsame
      simp only [List.foldl_cons, List.foldl_nil, List.setIfInBounds_toArray, List.set_cons_succ, List.set_cons_zero] at hfr
      obtain ⟨tm, df⟩ := az
      simp only [] at hfr hd
      subst hfr hd
      clear hv hsame hs h16 h17 h18 h19 h20
      refine ⟨wanted_none rfl, ?_⟩
      refine gives_store_rw 66 (.tmp 2) (.tmp 20) rfl w.heap.size rfl (us (s1.list ++ s2.list)) rfl 66 (us (List.replicate 16 0)) (Rw.below HZ.out hx.below (Rw.lt HZ.out)) 16 (by kernel_rfl) (by rw [us_length, List.length_append, list_length, list_length]) (by rw [us_length, us_length, List.length_append, list_length, list_length]; rfl) (us_one _) ?_
      intro w5 hr5 hl5
      have hx5 : Ext w w5 := Ext.laid (Below.trans hx0 (Below.mono hx.below hx0.size)) hl5 (by omega)
      clear hx KP1 KP2 KP10 KP20 HB HZ hl5
      dsimp only [Act.put]
      go_wp2
      refine bodyPost_ret (results_cell_row rfl _ w5 w.heap.size _ _ (0, 0) _ rfl hr5 Tryd.underlying66 rfl (by kernel_rfl)) rfl ?_
      exact Ret.mk hx5 rfl
  · have hb1 : ¬ (64 : Int) < (key.length : Int) := by omega
    have HBO : Hid (bl = key ++ List.replicate (64 - key.length) 0) := by show bl = _; rw [← HBL.out, keyB, if_neg hbig]
    have hsrc : ∀ W, Ext w W → 0 < (bs key).length → (some ⟨w.heap.size + 1, 0, none⟩ : Option Addr) = some ⟨w.heap.size + 1, 0, none⟩ ∧ ∃ ad, A = some ad ∧ ∀ j v, (bs key)[j]? = some v → W.cell? (ad.add j) = some v := fun W h hp => by
      have hne : key ≠ [] := by intro e; rw [e] at hp; simp [bs] at hp
      have hr2 := hr.ext h
      obtain ⟨b, o2, hA, hc⟩ := hr2 hne
      exact ⟨rfl, _, hA, hr2.cells hA hne⟩
    have HSRC := hide hsrc
    clear hsrc
    go_enter Tryd.func30, Tryd.ntmps30
    go_wp2_with (first
      | ((with_reducible show wpList _ _ _ (⟨some 15, .call _, _, _, _, _⟩ :: _) _ _);
         refine wpList_copy_splice rfl (.tmp 13) (.tmp 14) 37 37 rfl 5 Tryd.underlying37 info_size (some ⟨w.heap.size + 1, 0, none⟩) A 64 64 key.length c rfl rfl (w.heap.size + 1) 0 (bs (List.replicate 64 0)) 77 (heap_alloc2_new w _ _) (bs key) (by rw [bs_length]; exact (Nat.min_eq_left (by omega)).symm) (HSRC.out _ ((Ext.alloc w _).trans (Ext.alloc _ _))) (by rw [bs_length, bs_length, List.length_replicate]; omega) (bs_one _) (w.heap.size + 1) _ (Below.refl _ _) (Nat.le_refl _) ?_;
         intro wk hk hbk))
    have HB : Hid (Rw wk (w.heap.size + 1) 77 (bs bl)) := by
      have h1 := hk.out
      have e : splice (bs (List.replicate 64 0)) 0 (bs key) = bs bl := by
        rw [HBO.out]
        exact splice_key 64 key
      rw [e] at h1
      exact h1
    have HZ : Hid (Rw wk w.heap.size 66 (us (List.replicate 16 0))) := Rw.below (show Rw _ _ _ _ from heap_alloc2_old w _ _) hbk (by omega)
    have hx0 : Ext w wk := Below.trans ((Ext.alloc w _).trans (Ext.alloc _ _)) (Below.mono hbk (by omega))
    clear hk hbk
    have KP1 := hide fun W (h : Ext wk W) => KP10.out W (hx0.trans h)
    have KP2 := hide fun W (h : Ext wk W) => KP20.out W (hx0.trans h)
    go_wp2
    refine wp_region_last (Nat.le_refl _) [
        Sp.is (.agg (bs bl).toArray),
        Sp.is (.agg (us s1.list).toArray),
        Sp.is (.agg (bs bl).toArray),
        Sp.is (.agg (us s2.list).toArray),
        Sp.is (.agg (us (s1.list ++ s2.list)).toArray)] 5 _ rfl (by kernel_rfl) (by kernel_rfl) (by kernel_rfl) ?_ ?_
    · refine ⟨.inr ?_, .inr ?_, .inr ?_, .inr ?_, .inr ?_, .inl rfl, trivial⟩
      · intro az wz hx hB hk H
        refine .inl ⟨wanted_none rfl, ?_⟩
        exact gives_load_rw 77 (.tmp 3) rfl (w.heap.size + 1) (by rw [(ev (show az.tmps[3]? = some (.pointer (some ⟨w.heap.size + 1, 0, none⟩)) from hk 3 rfl))]) 77 (bs bl) (Rw.below HB.out hx.below (Rw.lt HB.out)) 64 5 Tryd.underlying77 (by kernel_rfl) (by rw [bs_length, hbl]) ⟨Grw.refl _ _, rfl⟩
      · intro az wz hx hB hk H
        obtain ⟨v16, h16, s16⟩ := H 0 rfl _ rfl 16 rfl
        refine .inl ⟨wanted_none rfl, ?_⟩
        refine gives_call rfl Tryd.call38 (by simp only [List.map_toArray, List.map_cons, List.map_nil, ev h16]; rw [s16]) ?_
        exact (KP1.out wz (Below.mono hx.below (Nat.le_refl _))).mono fun _ _ h => h.grw hB
      · intro az wz hx hB hk H
        refine .inl ⟨wanted_none rfl, ?_⟩
        exact gives_load_rw 77 (.tmp 3) rfl (w.heap.size + 1) (by rw [(ev (show az.tmps[3]? = some (.pointer (some ⟨w.heap.size + 1, 0, none⟩)) from hk 3 rfl))]) 77 (bs bl) (Rw.below HB.out hx.below (Rw.lt HB.out)) 64 5 Tryd.underlying77 (by kernel_rfl) (by rw [bs_length, hbl]) ⟨Grw.refl _ _, rfl⟩
      · intro az wz hx hB hk H
        obtain ⟨v18, h18, s18⟩ := H 2 rfl _ rfl 18 rfl
        refine .inl ⟨wanted_none rfl, ?_⟩
        refine gives_call rfl Tryd.call38 (by simp only [List.map_toArray, List.map_cons, List.map_nil, ev h18]; rw [s18]) ?_
        exact (KP2.out wz (Below.mono hx.below (Nat.le_refl _))).mono fun _ _ h => h.grw hB
      · intro az wz hx hB hk H
        obtain ⟨v17, h17, s17⟩ := H 1 rfl _ rfl 17 rfl
        obtain ⟨v19, h19, s19⟩ := H 3 rfl _ rfl 19 rfl
        refine .inl ⟨wanted_none rfl, ?_⟩
        refine gives_build2 rfl (by rw [ev h17]; exact s17) (by rw [ev h19]; exact s19) (built_keyed s1 s2) ⟨Grw.refl _ _, rfl⟩
    · intro az wz hx hd hs hv hsame
      obtain ⟨v16, h16, s16⟩ := hv 0 _ 16 (by decide) rfl rfl
      obtain rfl : v16 = (.agg (bs bl).toArray) := s16
      obtain ⟨v17, h17, s17⟩ := hv 1 _ 17 (by decide) rfl rfl
      obtain rfl : v17 = (.agg (us s1.list).toArray) := s17
      obtain ⟨v18, h18, s18⟩ := hv 2 _ 18 (by decide) rfl rfl
      obtain rfl : v18 = (.agg (bs bl).toArray) := s18
      obtain ⟨v19, h19, s19⟩ := hv 3 _ 19 (by decide) rfl rfl
      obtain rfl : v19 = (.agg (us s2.list).toArray) := s19
      obtain ⟨v20, h20, s20⟩ := hv 4 _ 20 (by decide) rfl rfl
      obtain rfl : v20 = (.agg (us (s1.list ++ s2.list)).toArray) := s20
      have hfr := frame_last [(16, (.agg (bs bl).toArray)), (17, (.agg (us s1.list).toArray)), (18, (.agg (bs bl).toArray)), (19, (.agg (us s2.list).toArray)), (20, (.agg (us (s1.list ++ s2.list)).toArray))] hs (by kernel_rfl) (by simp only [List.forall_mem_cons, List.not_mem_nil, false_implies, implies_true, and_true]; exact ⟨h16, h17, h18, h19, h20⟩) hsame
      simp only [List.foldl_cons, List.foldl_nil, List.setIfInBounds_toArray, List.set_cons_succ, List.set_cons_zero] at hfr
      obtain ⟨tm, df⟩ := az
      simp only [] at hfr hd
      subst hfr hd
      clear hv hsame hs h16 h17 h18 h19 h20
      refine ⟨wanted_none rfl, ?_⟩
      refine gives_store_rw 66 (.tmp 2) (.tmp 20) rfl w.heap.size rfl (us (s1.list ++ s2.list)) rfl 66 (us (List.replicate 16 0)) (Rw.below HZ.out hx.below (Rw.lt HZ.out)) 16 (by kernel_rfl) (by rw [us_length, List.length_append, list_length, list_length]) (by rw [us_length, us_length, List.length_append, list_length, list_length]; rfl) (us_one _) ?_
      intro w5 hr5 hl5
      have hx5 : Ext w w5 := Ext.laid (Below.trans hx0 (Below.mono hx.below hx0.size)) hl5 (by omega)
      clear hx KP1 KP2 KP10 KP20 HB HZ hl5
      dsimp only [Act.put]
      go_wp2
      refine bodyPost_ret (results_cell_row rfl _ w5 w.heap.size _ _ (0, 0) _ rfl hr5 Tryd.underlying66 rfl (by kernel_rfl)) rfl ?_
      exact Ret.mk hx5 rfl
end Go.Proofs.YtdllppaichlnaaaDoor
namespace Go.Proofs.YtdllppaichlnaaaDoor
open Go.RowKit

theorem run_loadVar_at {P : Program} (w : World) (g off : Nat) (ty : TypeId) (vs : List Value) (n : Nat) (e : TypeId) (hu : P.underlying ty = some (.array n e)) (hi : (P.info? ty).map (·.size) = some n) (hn : n = vs.length)
    (hc : ∀ j v, vs[j]? = some v → w.cell? ⟨g, off + j, none⟩ = some v) : (loadVar ty ⟨g, off, none⟩).run P w = .ok (.agg vs.toArray) w := by
  have hl : (loadCells ⟨g, off, none⟩ vs.length).run P w = .ok vs.toArray w :=
    run_loadCells_list (P := P) w ⟨g, off, none⟩ vs (fun j v hv => by rw [add_flat]; exact hc j v hv)
  cases hq : P.info? ty with
  | none => simp [hq] at hi
  | some i =>
    have hs : i.size = vs.length := by simp [hq] at hi; omega
    have hagg : (isAgg ty).run P w = .ok true w := by
      unfold isAgg
      rw [Sem.run_bind, run_underlying hu w]
      simp
    simp [loadVar, Sem.run_bind, hagg, sizeOf, typeInfo, hq, hs, hl]
theorem gives_load_at {P : Program} {o : Oper} {a : Act} {w : World} {R : Value → World → Prop} (ty : TypeId) (x : Operand) (ho : o.op = .load ty x) (g off : Nat) (hx : a.eval x = .pointer (some ⟨g, off, none⟩)) (vs : List Value)
    (n : Nat) (e : TypeId) (hu : P.underlying ty = some (.array n e)) (hi : (P.info? ty).map (·.size) = some n) (hn : n = vs.length) (hc : ∀ j v, vs[j]? = some v → w.cell? ⟨g, off + j, none⟩ = some v) (hR : R (.agg vs.toArray) w) : gives P o a w R := by
  unfold gives execOp
  simp only [ho, hx, Instr.loadAt, Instr.sureAddr, Sem.run_bind, Sem.run_pure, Result.andThen_ok, run_loadVar_at w g off ty vs n e hu hi hn hc]
  exact hR
theorem wpList_load_at {P : Program} {ops : Array Oper} {rest : List Oper} {o : Oper} {a : Act} {w : World} {Q : Exit → Act → World → Prop} (hgd : o.guard = none) (ty : TypeId) (x : Operand) (ho : o.op = .load ty x) (g off : Nat) (hx : a.eval x = .pointer (some ⟨g, off, none⟩)) (vs : List Value)
    (n : Nat) (e : TypeId) (hu : P.underlying ty = some (.array n e)) (hi : (P.info? ty).map (·.size) = some n) (hn : n = vs.length) (hc : ∀ j v, vs[j]? = some v → w.cell? ⟨g, off + j, none⟩ = some v)
    (h : wpList P ops Q rest (a.put o.dst (.agg vs.toArray)) w) : wpList P ops Q (o :: rest) a w :=
  wpList_plain hgd fun _ hK => wp_of_gives (R := fun v w' => v = .agg vs.toArray ∧ w' = w) (gives_load_at ty x ho g off hx vs n e hu hi hn hc ⟨rfl, rfl⟩) (fun v w' ⟨hv, hw⟩ => by subst hv hw; exact hK _ _ h)
theorem gives_field {P : Program} {o : Oper} {a : Act} {w : World} {R : Value → World → Prop} {x : Operand} {t i : Nat} {u v : Value} (h : o.op = .fieldAddr t x i) (hx : a.eval x = u) (hrun : (Instr.fieldAt t u i).run P w = .ok v w) (hR : R v w) : gives P o a w R := by
  refine gives_of_run (w' := w) (v := v) ?_ hR
  unfold execOp
  simp only [h, hx, Sem.run_bind, hrun, Result.andThen_ok, Sem.run_pure]
theorem run_field1 (g : Nat) (w : World) : (Instr.fieldAt 66 (.pointer (some ⟨g, 0, none⟩)) 1).run Tryd.prog w = .ok (.pointer (some ⟨g, 8, none⟩)) w := by
  simp [go_sem]
theorem run_all32 (g : Nat) (w : World) : (Instr.sliceAt 24 (.pointer (some ⟨g, 0, none⟩)) none none none).run Tryd.prog w = .ok (.slice (some ⟨g, 0, none⟩) 32 32) w := by
  simp [go_sem, Tryd.underlying24]
theorem cells_first {w : World} {g t : Nat} {s1 s2 : Sta} (h : Rw w g t (us (s1.list ++ s2.list))) : ∀ j v, (us s1.list)[j]? = some v → w.cell? ⟨g, 0 + j, none⟩ = some v := fun j v hv => by
  rw [Nat.zero_add]
  refine Rw.cell h ?_
  have hlt := (List.getElem?_eq_some_iff.1 hv).1
  unfold us at hv hlt ⊢
  rw [List.map_append, List.getElem?_append_left hlt]
  exact hv
theorem cells_second {w : World} {g t : Nat} {s1 s2 : Sta} (h : Rw w g t (us (s1.list ++ s2.list))) : ∀ j v, (us s2.list)[j]? = some v → w.cell? ⟨g, 8 + j, none⟩ = some v := fun j v hv => by
  refine Rw.cell h ?_
  have hl : (us s1.list).length = 8 := by rw [us_length, list_length]
  unfold us at hv hl ⊢
  rw [List.map_append, List.getElem?_append_right (by omega), hl, Nat.add_sub_cancel_left]
  exact hv
def tagS (s1 s2 : Sta) (p : List UInt8) : List UInt8 := sumS s2 64 (sumS s1 64 p)

set_option maxRecDepth 20000 in
set_option maxHeartbeats 1600000 in
theorem tag_any (s1 s2 : Sta) (h1 : s1.ok) (h2 : s2.ok) (A : Option Addr) (c : Nat) (p : List UInt8) (w : World) (hr : Rd w A p) (hlc : p.length ≤ c) (hl : p.length ≤ 140737488355328) (ht : Tab w) :
    Calls Tryd.prog 31 #[.agg (us (s1.list ++ s2.list)).toArray, .slice A p.length c] w (Ret w (Is (.agg (bs (tagS s1 s2 p)).toArray))) := by
  obtain ⟨o1, HO1⟩ : ∃ o, Hid (sumS s1 64 p = o) := ⟨_, rfl⟩
  have hol1 : o1.length = 32 := by rw [← HO1.out]; rfl
  obtain ⟨o2, HO2⟩ : ∃ o, Hid (sumS s2 64 o1 = o) := ⟨_, rfl⟩
  have hol2 : o2.length = 32 := by rw [← HO2.out]; rfl
  have HT : Hid (tagS s1 s2 p = o2) := by show tagS s1 s2 p = o2; unfold tagS; rw [HO1.out, HO2.out]
  rw [HT.out]
  have KS := hide fun W (h : Ext w W) => (show Calls Tryd.prog 39 #[.agg (us s1.list).toArray, .int .i64 64, .slice A p.length c] W (Ret W (Is (.agg (bs o1).toArray)))
    from HO1.out ▸ sumFrom_any s1 h1 64 A c p W (hr.ext h) hlc hl (by omega) (ht.ext h))
  have KT0 := hide fun (g : Nat) W (h : Ext w W) (hg : Rd W (some ⟨g, 0, none⟩) o1) => (show Calls Tryd.prog 39 #[.agg (us s2.list).toArray, .int .i64 64, .slice (some ⟨g, 0, none⟩) 32 32] W (Ret W (Is (.agg (bs o2).toArray)))
    from (by
      have h3 := sumFrom_any s2 h2 64 (some ⟨g, 0, none⟩) 32 o1 W hg (by omega) (by omega) (by omega) (ht.ext h)
      rw [hol1, HO2.out] at h3
      exact h3))
  go_enter Tryd.func31, Tryd.ntmps31
  go_wp2_with (first
    | ((with_reducible show wpList _ _ _ (⟨some 7, .load _ _, _, _, _, _⟩ :: _) _ _);
       refine wpList_load_at rfl 32 (.tmp 6) rfl w.heap.size 0 rfl (us s1.list) 8 31 Tryd.underlying32 (by kernel_rfl) (by rw [us_length, list_length]) (cells_first (s2 := s2) (t := 66) (heap_alloc2_old w _ _)) ?_)
    | (go_at_call 39; refine (KS.out _ ((Ext.alloc w _).trans (Ext.alloc _ _))).mono ?_; rintro e w2 ⟨v2, rfl, hw2, rfl⟩;
       have hx2 : Ext w w2 := ((Ext.alloc w _).trans (Ext.alloc _ _)).trans hw2;
       have HK2 : Hid (Rw w2 w.heap.size 66 (us (s1.list ++ s2.list))) := Rw.ext (show Rw _ _ _ _ from heap_alloc2_old w _ _) hw2;
       have HZ2 : Hid (Rw w2 (w.heap.size + 1) 24 (bs (List.replicate 32 0))) := Rw.ext (show Rw _ _ _ _ from heap_alloc2_new w _ _) hw2)
    | ((with_reducible show wpList _ _ _ (⟨none, .store _ (.tmp 5) _, _, _, _, _⟩ :: _) _ _);
       refine wpList_store_rw rfl 24 (.tmp 5) (.tmp 9) rfl _ rfl (bs o1) rfl 24 (bs (List.replicate 32 0)) (heap_alloc_new w2 _) 32 (by kernel_rfl) (by rw [bs_length, hol1]) (by rw [bs_length, bs_length, hol1]; rfl) (List.all_eq_true.2 (bs_one _)) ?_;
       intro w3 hr3 hl3;
       have hs2 : w.heap.size + 2 ≤ w2.heap.size := (by have := Rw.lt HZ2.out; omega);
       have HZ : Hid (Rw w3 (w.heap.size + 1) 24 (bs (List.replicate 32 0))) := Rw.other (Rw.ext HZ2.out (Ext.alloc _ _)) hl3 (by omega);
       have HK : Hid (Rw w3 w.heap.size 66 (us (s1.list ++ s2.list))) := Rw.other (Rw.ext HK2.out (Ext.alloc _ _)) hl3 (by omega);
       have hx0 : Ext w w3 := (hx2.trans (Ext.alloc _ _)).laid hl3 (by omega)))
  generalize hg5 : w2.heap.size = g5 at *
  have KT := hide fun W (h : Ext w3 W) => KT0.out g5 W (hx0.trans h) ((Rw.rd hr3).ext h)
  clear HZ2 HK2 hx2 hw2 KS hl3 hg5
  dsimp only [Act.put, List.setIfInBounds_toArray, List.set_cons_succ, List.set_cons_zero]
  refine wp_region_last (Nat.le_refl _) [
      Sp.is (.pointer (some ⟨w.heap.size, 8, none⟩)),
      Sp.is (.agg (us s2.list).toArray),
      Sp.is (.slice (some ⟨g5, 0, none⟩) 32 32),
      Sp.is (.agg (bs o2).toArray)] 4 _ rfl (by kernel_rfl) (by kernel_rfl) (by kernel_rfl) ?_ ?_
  · refine ⟨.inr ?_, .inr ?_, .inr ?_, .inr ?_, .inl rfl, trivial⟩
    · intro az wz hx hB hk H
      refine .inl ⟨wanted_none rfl, ?_⟩
      exact gives_field rfl (by rw [(ev (show az.tmps[2]? = some (.pointer (some ⟨w.heap.size, 0, none⟩)) from hk 2 rfl))]) (run_field1 _ _) ⟨Grw.refl _ _, rfl⟩
    · intro az wz hx hB hk H
      obtain ⟨v10, h10, s10⟩ := H 0 rfl _ rfl 10 rfl
      refine .inl ⟨wanted_none rfl, ?_⟩
      exact gives_load_at 32 (.tmp 10) rfl w.heap.size 8 (by rw [ev h10]; exact s10) (us s2.list) 8 31 Tryd.underlying32 (by kernel_rfl) (by rw [us_length, list_length]) (cells_second (Rw.below HK.out hx.below (Rw.lt HK.out))) ⟨Grw.refl _ _, rfl⟩
    · intro az wz hx hB hk H
      refine .inl ⟨wanted_none rfl, ?_⟩
      exact gives_all (n := 32) rfl (by rw [(ev (show az.tmps[5]? = some (.pointer (some ⟨g5, 0, none⟩)) from hk 5 rfl))]) (run_all32 _ _) ⟨Grw.refl _ _, rfl⟩
    · intro az wz hx hB hk H
      obtain ⟨v11, h11, s11⟩ := H 1 rfl _ rfl 11 rfl
      obtain ⟨v12, h12, s12⟩ := H 2 rfl _ rfl 12 rfl
      refine .inl ⟨wanted_none rfl, ?_⟩
      refine gives_call rfl Tryd.call39 (by simp only [List.map_toArray, List.map_cons, List.map_nil, ev h11, ev h12]; rw [s11, s12]) ?_
      exact (KT.out wz (Below.mono hx.below (Nat.le_refl _))).mono fun _ _ h => h.grw hB
  · intro az wz hx hd hs hv hsame
    obtain ⟨v10, h10, s10⟩ := hv 0 _ 10 (by decide) rfl rfl
    obtain rfl : v10 = (.pointer (some ⟨w.heap.size, 8, none⟩)) := s10
    obtain ⟨v11, h11, s11⟩ := hv 1 _ 11 (by decide) rfl rfl
    obtain rfl : v11 = (.agg (us s2.list).toArray) := s11
    obtain ⟨v12, h12, s12⟩ := hv 2 _ 12 (by decide) rfl rfl
    obtain rfl : v12 = (.slice (some ⟨g5, 0, none⟩) 32 32) := s12
    obtain ⟨v13, h13, s13⟩ := hv 3 _ 13 (by decide) rfl rfl
    obtain rfl : v13 = (.agg (bs o2).toArray) := s13
    have hfr := frame_last [(10, (.pointer (some ⟨w.heap.size, 8, none⟩))), (11, (.agg (us s2.list).toArray)), (12, (.slice (some ⟨g5, 0, none⟩) 32 32)), (13, (.agg (bs o2).toArray))] hs (by kernel_rfl) (by simp only [List.forall_mem_cons, List.not_mem_nil, false_implies, implies_true, and_true]; exact ⟨h10, h11, h12, h13⟩) hsame
    simp only [List.foldl_cons, List.foldl_nil, List.setIfInBounds_toArray, List.set_cons_succ, List.set_cons_zero] at hfr
    obtain ⟨tm, df⟩ := az
    simp only [] at hfr hd
    subst hfr hd
    clear hv hsame hs h10 h11 h12 h13
    refine ⟨wanted_none rfl, ?_⟩
    refine gives_store_rw 24 (.tmp 4) (.tmp 13) rfl (w.heap.size + 1) rfl (bs o2) rfl 24 (bs (List.replicate 32 0)) (Rw.below HZ.out hx.below (Rw.lt HZ.out)) 32 (by kernel_rfl) (by rw [bs_length, hol2]) (by rw [bs_length, bs_length, hol2]; rfl) (List.all_eq_true.2 (bs_one _)) ?_
    intro w5 hr5 hl5
    have hx5 : Ext w w5 := Ext.laid (Below.trans hx0 (Below.mono hx.below hx0.size)) hl5 (by omega)
    clear hx KT KT0 HK HZ hl5
    dsimp only [Act.put]
    go_wp2
    exact ret_rw rfl rfl _ rfl _ _ hr5 32 5 Tryd.underlying24 (by kernel_rfl) (by rw [bs_length, hol2]) (Ret.mk hx5 rfl)
end Go.Proofs.YtdllppaichlnaaaDoor
namespace Go.Proofs.YtdllppaichlnaaaDoor
open Go.RowKit

theorem innerS_ok (key : List UInt8) : (innerS key).ok := Sta.plus_ok _ _
theorem outerS_ok (key : List UInt8) : (outerS key).ok := Sta.plus_ok _ _
def tagK (key p : List UInt8) : List UInt8 := tagS (innerS key) (outerS key) p

end Go.Proofs.YtdllppaichlnaaaDoor
namespace Go.Proofs.YtdllppaichlnaaaDoor
open Go.RowKit

/-- It answers x and draws at most. -/
def Drw (x : Value) (w : World) (e : Ending) (w' : World) : Prop := e = .returned x ∧ ∃ m, w' = w.drewN m

set_option maxRecDepth 20000 in
set_option maxHeartbeats 1600000 in
theorem prime_any (m p : Nat) (h : nextOk m p = true) (h1 : 1 ≤ m) (w : World) : Calls Tryd.prog 21 #[.int .i64 (m : Int)] w (Ret w (Is (.int .i64 (p : Int)))) := by
  have h2 : m < p ∧ p ≤ 311 ∧ okTo p 18 = true ∧ ∀ q, m < q → q < p → okTo q 18 = false := by
    unfold nextOk at h
    rw [Bool.and_eq_true, Bool.and_eq_true, Bool.and_eq_true] at h
    obtain ⟨⟨⟨a, b⟩, c⟩, d⟩ := h
    refine ⟨by simpa using a, by simpa using b, c, fun q hq hp => ?_⟩
    have := List.all_eq_true.1 d q (List.mem_range.2 hp)
    rw [Bool.or_eq_true] at this
    rcases this with e | e
    · have : q ≤ m := by simpa using e
      omega
    · simpa using e
  obtain ⟨hmp, hp, HP, HQ⟩ := h2
  replace HP := hide HP
  replace HQ := hide HQ
  clear h
  go_enter Tryd.func21, Tryd.ntmps21
  go_wp2
  go_loopw [0] (fun i wr => ∃ q : Nat, m ≤ q ∧ q < p ∧ i = .int .i64 q ∧ Ext w wr) (fun i _ => p - (intOf i).toNat)
  case atStart => exact ⟨m, Nat.le_refl _, hmp, rfl, Ext.refl _⟩
  case round =>
    obtain ⟨q, hq, hqp, rfl, hx⟩ := hrel
    obtain ⟨n, HN⟩ : ∃ n, Hid (n = q + 1) := ⟨_, hide rfl⟩
    have en : (q : Int) + 1 = (n : Int) := by have := HN.out; omega
    have hgt : (1 : Int) < (n : Int) := by omega
    have hn9 : n ≤ p := by omega
    obtain ⟨wq, hwq⟩ : ∃ x, x = wr := ⟨_, rfl⟩
    subst hwq
    go_wp2
    go_loopw [3, 4] (fun b i wr => ∃ d : Nat, 2 ≤ d ∧ d ≤ 18 ∧ i = .int .i64 d ∧ Hid (b = .bool (okTo n d)) ∧ Ext w wr) (fun _ i _ => 18 - (intOf i).toNat)
    case atStart => exact ⟨2, by omega, by omega, rfl, hide rfl, hx⟩
    case round =>
      obtain ⟨d, hd2, hd18, rfl, hb, hx2⟩ := hrel
      obtain rfl := hb.out
      obtain ⟨s, hs⟩ : ∃ s, s = d * d := ⟨_, rfl⟩
      have es : (d : Int) * (d : Int) = (s : Int) := by rw [hs, Int.natCast_mul]
      have hs2 : s ≤ 18 * 18 := by rw [hs]; exact Nat.mul_le_mul hd18 hd18
      have hw : IntKind.i64.wrap ((d : Int) * (d : Int)) = (s : Int) := by rw [es, IntKind.wrap_i64]; omega
      clear es hs2
      by_cases hle : s ≤ n
      · have hle2 : (s : Int) ≤ (n : Int) := by omega
        have hd17 : d < 18 := by
          rcases Nat.lt_or_ge d 18 with h | h
          · exact h
          · exfalso
            have : 18 * 18 ≤ d * d := Nat.mul_le_mul h h
            omega
        have hd0 : ¬ (d : Int) = 0 := by omega
        have HSS := hide hs
        clear hs
        by_cases hr : n % d = 0
        · have hr2 : ((n : Int) % (d : Int) == 0) = true := by rw [beq_iff_eq]; omega
          have HK : Hid (false = okTo n (d + 1)) := by
            rw [Hid, okTo_succ]
            have e1 : decide (d < 2) = false := by simp; omega
            have e2 : decide (d * d > n) = false := by rw [← HSS.out]; simp; omega
            have e3 : (n % d != 0) = false := by rw [hr]; rfl
            rw [e1, e2, e3]
            simp
          clear hr
          go_wp2
          exact ⟨⟨d + 1, by omega, by omega, by go_num, hide (by rw [HK.out]), hx2⟩, by simp [intOf]; omega⟩
        · have hr2 : ((n : Int) % (d : Int) == 0) = false := by rw [beq_eq_false_iff_ne]; omega
          have HK : Hid (okTo n d = okTo n (d + 1)) := by
            rw [Hid, okTo_succ]
            have e3 : (n % d != 0) = true := by rw [bne_iff_ne]; exact hr
            rw [e3]
            simp
          clear hr
          go_wp2
          exact ⟨⟨d + 1, by omega, by omega, by go_num, hide (by rw [HK.out]), hx2⟩, by simp [intOf]; omega⟩
      · have hge : ¬ (s : Int) ≤ (n : Int) := by omega
        have HSS := hide hs
        have e18 : okTo n 18 = okTo n d := okTo_more n d 18 (by omega) hd18
        clear hs
        rcases hb2 : okTo n d with _ | _
        · rw [hb2] at e18
          have hnp : n < p := by
            rcases Nat.lt_or_ge n p with h | h
            · exact h
            · have : n = p := by omega
              rw [this, HP.out] at e18
              cases e18
          clear e18
          go_wp2
          exact ⟨⟨n, by have := HN.out; omega, hnp, rfl, hx2⟩, by have := HN.out; simp [intOf]; omega⟩
        · rw [hb2] at e18
          have hnp : n = p := by
            rcases Nat.lt_or_ge n p with h | h
            · have := HQ.out n (by have := HN.out; omega) h
              rw [e18] at this
              cases this
            · omega
          clear e18
          go_wp2
          go_ret

          exact Ret.mk hx2 rfl

set_option maxRecDepth 20000 in
set_option maxHeartbeats 1600000 in
theorem rturn_any (k : Nat) (h0 : 0 < k) (h1 : k < 32) (x : Nat) (hx : x < 4294967296) (w : World) : Calls Tryd.prog 40 #[.int .u32 (x : Int), .int .i64 (k : Int)] w (Drw (.int .u32 (rotr k x : Int)) w) := by
  go_enter Tryd.func40, Tryd.ntmps40
  go_wp2
  go_quiet (fail)
  go_wp2
  have e1 : ((x : Int) / 2 ^ k) = ((x / 2 ^ k : Nat) : Int) := by rw [Int.natCast_ediv, Int.natCast_pow]; rfl
  have e2 : ((x : Int) * 2 ^ (32 - k) % 4294967296) = ((x * 2 ^ (32 - k) % 4294967296 : Nat) : Int) := by rw [Int.natCast_emod, Int.natCast_mul, Int.natCast_pow]; rfl
  have e3 : bits .or .u32 ((x : Int) / 2 ^ k) ((x : Int) * 2 ^ (32 - k) % 4294967296) = (rotr k x : Int) := by
    rw [e1, e2, u32_or_nat _ _ (Nat.lt_of_le_of_lt (Nat.div_le_self _ _) hx) (Nat.mod_lt _ (by decide)), Nat.or_comm]
    rfl
  rw [e3]
  go_ret
  exact ⟨rfl, _, rfl⟩
end Go.Proofs.YtdllppaichlnaaaDoor
namespace Go.Proofs.YtdllppaichlnaaaDoor
open Go.RowKit

def ws (l : List Nat) : List Value := l.map fun (n : Nat) => .int .u64 (n : Int)
theorem ws_length (l : List Nat) : (ws l).length = l.length := by simp [ws]
theorem ws_get (l : List Nat) (i : Nat) : (ws l)[i]? = l[i]?.map fun (n : Nat) => .int .u64 (n : Int) := by simp [ws]
theorem ws_one (l : List Nat) : (ws l).all (·.oneCell') = true := by simp [ws, Value.oneCell']
/-- Block g is just this number's parts. -/
def Wde (w : World) (g : Nat) (l : List Nat) : Prop := Rw w g 73 (ws l)
theorem Wde.cell {w : World} {g : Nat} {l : List Nat} (h : Wde w g l) {i n : Nat} (hx : l[i]? = some n) : w.cell? ⟨g, i, none⟩ = some (.int .u64 (n : Int)) := Rw.cell h (by rw [ws_get, hx]; rfl)
theorem Wde.put {w : World} {g : Nat} {l : List Nat} (h : Wde w g l) (i : Nat) {v : Int} (n : Nat) (hv : v = (n : Int)) : Wde (w.setCell ⟨g, i, none⟩ (.int .u64 v)) g (l.set i n) := by
  subst hv
  have := Rw.set h i (.int .u64 (n : Int))
  unfold Wde ws
  rw [List.map_set]
  exact this
theorem heap_alloc3_new (w : World) (o1 o2 o3 : Obj) : (((w.alloc o1).alloc o2).alloc o3).heap[w.heap.size + 2]? = some o3 := by
  have := heap_alloc_new ((w.alloc o1).alloc o2) o3
  simpa using this
theorem heap_alloc4_new (w : World) (o1 o2 o3 o4 : Obj) : ((((w.alloc o1).alloc o2).alloc o3).alloc o4).heap[w.heap.size + 3]? = some o4 := by
  have := heap_alloc_new (((w.alloc o1).alloc o2).alloc o3) o4
  simpa using this
theorem u64_mask (v : Nat) (h : v < 18446744073709551616) : bits .and .u64 (v : Int) 4294967295 = ((v % 4294967296 : Nat) : Int) := by
  have h1 := u64_and_nat v 4294967295 h (by decide)
  have h2 : v &&& 4294967295 = v % 2 ^ 32 := Nat.and_two_pow_sub_one_eq_mod _ 32
  rw [h2] at h1
  exact h1
theorem Parts.at {l : List Nat} (h : Parts l) (i : Nat) (hi : i < 8) : ∃ x, l[i]? = some x ∧ x < 4294967296 := by
  have : i < l.length := by rw [h.len]; exact hi
  exact ⟨_, List.getElem?_eq_getElem this, h.small _ (List.getElem_mem this)⟩

set_option maxRecDepth 20000 in
set_option maxHeartbeats 3200000 in
theorem above_any (a b : List Nat) (ha : Parts a) (hb : Parts b) (w : World) :
    Calls Tryd.prog 35 #[.agg (ws a).toArray, .agg (ws b).toArray] w (Ret w (Is (.bool (decide (num a > num b))))) := by
  go_enter Tryd.func35, Tryd.ntmps35
  go_wp2
  have HA : Hid (Wde ((w.alloc (.cells (ws a).toArray 73)).alloc (.cells (ws b).toArray 73)) w.heap.size a) := heap_alloc2_old w _ _
  have HB : Hid (Wde ((w.alloc (.cells (ws a).toArray 73)).alloc (.cells (ws b).toArray 73)) (w.heap.size + 1) b) := heap_alloc2_new w _ _
  go_loopw [5] (fun i wr => ∃ k : Nat, k ≤ 8 ∧ i = .int .i64 ((k : Int) - 1) ∧ Hid (a.drop k = b.drop k) ∧ Wde wr w.heap.size a ∧ Wde wr (w.heap.size + 1) b ∧ Ext w wr) (fun i _ => (intOf i + 1).toNat)
  case atStart => exact ⟨8, Nat.le_refl _, rfl, by rw [Hid, List.drop_of_length_le (by rw [ha.len]; omega), List.drop_of_length_le (by rw [hb.len]; omega)], HA.out, HB.out, (Ext.alloc w _).trans (Ext.alloc _ _)⟩
  clear HA HB
  case round =>
    obtain ⟨k, hk, rfl, HD, hA, hB, hx⟩ := hrel
    rcases k with _ | k
    · have e : a = b := by simpa using HD.out
      have HE : Hid (decide (num a > num b) = false) := by rw [Hid, e]; simp
      rw [show (((0 : Nat) : Int) - 1) = -1 from rfl]
      go_wp2
      go_ret
      rw [HE.out]
      exact Ret.mk hx rfl
    · rw [show (((k + 1 : Nat) : Int) - 1) = (k : Int) by omega]
      obtain ⟨x, hxk, hx32⟩ := ha.at k (by omega)
      obtain ⟨y, hyk, hy32⟩ := hb.at k (by omega)
      have cx := hA.cell hxk
      have cy := hB.cell hyk
      by_cases hn : x = y
      · have HD2 : Hid (a.drop k = b.drop k) := by
          have h1 := (List.getElem?_eq_some_iff.1 hxk)
          have h2 := (List.getElem?_eq_some_iff.1 hyk)
          obtain ⟨h1, e1⟩ := h1
          obtain ⟨h2, e2⟩ := h2
          rw [Hid, List.drop_eq_getElem_cons h1, List.drop_eq_getElem_cons h2, HD.out, e1, e2, hn]
        subst hn
        clear hxk hyk
        go_wp2
        go_quiet (fail)
        go_wp2
        exact ⟨⟨k, by omega, by go_num, HD2, hA, hB, hx.drewN _⟩, by simp [intOf]⟩
      · have HE := hide (num_above a b ha hb k x y hxk hyk HD.out hn)
        have hne : ¬ (x : Int) = (y : Int) := by omega
        clear hxk hyk
        go_wp2
        go_quiet (fail)
        go_wp2
        go_quiet (fail)
        go_wp2
        go_ret
        rw [HE.out]
        exact Ret.mk ((hx.drewN _).drewN _) rfl

set_option maxRecDepth 20000 in
set_option maxHeartbeats 3200000 in
theorem times_any (a b : List Nat) (ha : Parts a) (hb : Parts b) (w : World) :
    Calls Tryd.prog 34 #[.agg (ws a).toArray, .agg (ws b).toArray] w (Ret w fun _ v => ∃ c, v = .agg (ws c).toArray ∧ Parts c ∧ num c = num a * num b % 4294967296 ^ 8) := by
  go_enter Tryd.func34, Tryd.ntmps34
  go_wp2
  generalize hW : World.alloc (World.alloc (World.alloc (World.alloc w (Obj.cells (ws a).toArray 73)) (Obj.cells (ws b).toArray 73)) (Obj.cells #[Value.int .u64 0, Value.int .u64 0, Value.int .u64 0, Value.int .u64 0, Value.int .u64 0, Value.int .u64 0, Value.int .u64 0, Value.int .u64 0] 73)) (Obj.cells #[Value.int .u64 0, Value.int .u64 0, Value.int .u64 0, Value.int .u64 0, Value.int .u64 0, Value.int .u64 0, Value.int .u64 0, Value.int .u64 0] 73) = w1
  obtain ⟨g, hg⟩ : ∃ g, g = w.heap.size := ⟨_, rfl⟩
  have HA : Hid (Wde w1 g a) := by rw [← hW, hg]; exact Rw.alloc (Rw.alloc (heap_alloc2_old w _ _) _) _
  have HB : Hid (Wde w1 (g + 1) b) := by rw [← hW, hg]; exact Rw.alloc (Rw.alloc (heap_alloc2_new w _ _) _) _
  have HR : Hid (Wde w1 (g + 2) (List.replicate 8 0)) := by rw [← hW, hg]; exact Rw.alloc (heap_alloc3_new w _ _ _) _
  have HC : Hid (Wde w1 (g + 3) (List.replicate 8 0)) := by rw [← hW, hg]; exact heap_alloc4_new w _ _ _ _
  have HX : Hid (Ext w w1) := by rw [← hW]; exact (((Ext.alloc w _).trans (Ext.alloc _ _)).trans (Ext.alloc _ _)).trans (Ext.alloc _ _)
  rw [← hg]
  have hgle : w.heap.size ≤ g := by omega
  clear hW hg
  go_loopw [6] (fun i wr => ∃ (k : Nat) (o : List Nat), k ≤ 8 ∧ i = .int .i64 (k : Int) ∧ Parts o ∧ Hid (num o = num (a.take k) * num b % 4294967296 ^ 8) ∧ Wde wr g a ∧ Wde wr (g + 1) b ∧ Wde wr (g + 2) (List.replicate 8 0) ∧ Wde wr (g + 3) o ∧ Ext w wr) (fun i _ => 8 - (intOf i).toNat)
  case atStart => exact ⟨0, List.replicate 8 0, Nat.zero_le _, rfl, Parts.zeros, hide (by rw [num_zeros, List.take_zero, num, Nat.zero_mul, Nat.zero_mod]), HA.out, HB.out, HR.out, HC.out, HX.out⟩
  clear HA HB HR HC HX
  case round =>
    obtain ⟨i, o, hi, rfl, ho, HO, hA, hB, hR, hC, hx⟩ := hrel
    by_cases hlt : i < 8
    · obtain ⟨x, hxi, hx32⟩ := ha.at i hlt
      obtain ⟨w0, hw0⟩ : ∃ x, x = wr := ⟨_, rfl⟩
      subst hw0
      have HXI := hide hxi
      clear hxi
      go_wp2
      go_loopw [7, 8] (fun ov k wr => ∃ (j over : Nat) (o : List Nat), i + j ≤ 8 ∧ k = .int .i64 (j : Int) ∧ ov = .int .u64 (over : Int) ∧ over < 4294967296 ∧ Parts o ∧ Hid ((num o + over * 4294967296 ^ (i + j)) % 4294967296 ^ 8 = (num (a.take i) * num b % 4294967296 ^ 8 + x * num (b.take j) * 4294967296 ^ i) % 4294967296 ^ 8) ∧ Wde wr g a ∧ Wde wr (g + 1) b ∧ Wde wr (g + 2) (List.replicate 8 0) ∧ Wde wr (g + 3) o ∧ Ext w wr) (fun _ k _ => 8 - (intOf k).toNat)
      case atStart => exact ⟨0, 0, o, by omega, rfl, rfl, by decide, ho, hide (by rw [Nat.zero_mul, Nat.add_zero, HO.out, List.take_zero, num, Nat.mul_zero, Nat.zero_mul, Nat.add_zero, Nat.mod_mod]), hA, hB, hR, hC, hx⟩
      clear HO hA hB hR hC hx ho
      case round =>
        obtain ⟨j, over, o, hj, rfl, rfl, hov, ho, HV, hA, hB, hR, hC, hx⟩ := hrel
        by_cases hlt2 : i + j < 8
        · obtain ⟨y, hyj, hy32⟩ := hb.at j (by omega)
          obtain ⟨z, hzj, hz32⟩ := ho.at (i + j) hlt2
          have cx := hA.cell HXI.out
          have cy := hB.cell hyj
          have cz := hC.cell hzj
          have cf := Rw.frozen hC (i + j)
          obtain ⟨v, hv⟩ : ∃ v, v = x * y + z + over := ⟨_, rfl⟩
          have hxy : x * y ≤ 4294967295 * 4294967295 := Nat.mul_le_mul (by omega) (by omega)
          have HS := hide (mul_step o b _ x y z v (i + j) j i over rfl hzj hyj hv HV.out)
          have hlt3 : (i : Int) + (j : Int) < 8 := by omega
          obtain ⟨m, hm⟩ : ∃ m, m = x * y := ⟨_, rfl⟩
          have em : (x : Int) * (y : Int) = (m : Int) := by rw [hm, Int.natCast_mul]
          rw [← hm] at hv hxy
          have q1 : IntKind.u64.wrap ((x : Int) * (y : Int)) = (m : Int) := by rw [em, IntKind.wrap_u64]; omega
          have q2 : IntKind.u64.wrap ((m : Int) + (z : Int)) = ((m : Int) + (z : Int)) := by rw [IntKind.wrap_u64]; omega
          have q3 : IntKind.u64.wrap ((m : Int) + (z : Int) + (over : Int)) = (v : Int) := by rw [IntKind.wrap_u64]; omega
          have q4 : IntKind.i64.wrap ((i : Int) + (j : Int)) = ((i : Int) + (j : Int)) := by rw [IntKind.wrap_i64]; omega
          have HVL := hide (show v < 18446744073709551616 by omega)
          clear hm em hxy hv hyj hzj HV
          go_wp2
          go_quiet (fail)
          go_wp2
          rw [u64_mask v HVL.out]
          refine ⟨⟨j + 1, v / 4294967296, o.set (i + j) (v % 4294967296), by omega, by go_num, by rw [Int.natCast_ediv]; rfl, by have := HVL.out; omega, ho.set _ _ (Nat.mod_lt _ (by decide)), ?_, ?_, ?_, ?_, ?_, ?_⟩, by simp [intOf]; omega⟩
          · exact HS
          · exact Rw.far (w := wr.drewN nq) hA (by show g ≠ g + 3; omega) _
          · exact Rw.far (w := wr.drewN nq) hB (by show g + 1 ≠ g + 3; omega) _
          · exact Rw.far (w := wr.drewN nq) hR (by show g + 2 ≠ g + 3; omega) _
          · exact Wde.put (w := wr.drewN nq) hC (i + j) (v % 4294967296) rfl
          · exact Below.set (hx.drewN _) (by show w.heap.size ≤ g + 3; omega) _
        · have hge : ¬ (i : Int) + (j : Int) < 8 := by omega
          have HE := hide (mul_row o a b ho hb i x j over (by omega) HXI.out HV.out)
          clear HV
          go_wp2
          exact ⟨⟨i + 1, o, by omega, by go_num, ho, HE, hA, hB, hR, hC, hx⟩, by simp [intOf]; omega⟩
    · have hge : ¬ (i : Int) < 8 := by omega
      have HE : Hid (num o = num a * num b % 4294967296 ^ 8) := by
        have := HO.out
        rw [List.take_of_length_le (by rw [ha.len]; omega)] at this
        exact this
      clear HO
      go_wp2_with (first
        | ((with_reducible show wpList _ _ _ (⟨some 43, .load _ _, _, _, _, _⟩ :: _) _ _);
           refine wpList_load_rw rfl 73 (.tmp 5) rfl _ rfl 73 (ws o) hC 8 22 Tryd.underlying73 (by kernel_rfl) (by rw [ws_length, ho.len]) ?_)
        | ((with_reducible show wpList _ _ _ (⟨none, .store _ (.tmp 4) _, _, _, _, _⟩ :: _) _ _);
           refine wpList_store_rw rfl 73 (.tmp 4) (.tmp 43) rfl _ rfl (ws o) rfl 73 (ws (List.replicate 8 0)) hR 8 (by kernel_rfl) (by rw [ws_length, ho.len]) (by rw [ws_length, ws_length, ho.len]; rfl) (ws_one _) ?_;
           intro w5 hr5 hl5))
      exact ret_rw rfl rfl _ rfl _ _ hr5 8 22 Tryd.underlying73 (by kernel_rfl) (by rw [ws_length, ho.len]) (Ret.mk (hx.laid hl5 (by omega)) ⟨o, rfl, ho, HE.out⟩)
end Go.Proofs.YtdllppaichlnaaaDoor
namespace Go.Proofs.YtdllppaichlnaaaDoor
open Go.RowKit

/-- A number below 2^38 in its parts. -/
def twoP (m : Nat) : List Nat := [m % 4294967296, m / 4294967296, 0, 0, 0, 0, 0, 0]
theorem twoP_parts (m : Nat) (h : m < 274877906945) : Parts (twoP m) := ⟨rfl, fun a ha => by
  simp only [twoP, List.mem_cons, List.not_mem_nil, or_false] at ha
  omega⟩
theorem twoP_num (m : Nat) : num (twoP m) = m := by simp only [twoP, num]; omega
theorem top_parts (n p : Nat) (hn : n < 4294967296) : Parts ((List.replicate 8 0).set p n) := Parts.zeros.set p n hn
theorem top_num (n p : Nat) (hp : p < 8) : num ((List.replicate 8 0).set p n) = n * 4294967296 ^ p := by
  have h1 : (List.replicate 8 0)[p]? = some 0 := by rw [List.getElem?_replicate, if_pos hp]
  have := num_set _ p 0 n h1
  rw [num_zeros] at this
  omega
theorem rootN_up (n p f low high : Nat) (h : high - low > 1) (ha : ((low + high) / 2) ^ p > n * 4294967296 ^ p) : rootN n p (f + 1) low high = rootN n p f low ((low + high) / 2) := by rw [rootN, if_pos h, if_pos ha]
theorem rootN_down (n p f low high : Nat) (h : high - low > 1) (ha : ¬ ((low + high) / 2) ^ p > n * 4294967296 ^ p) : rootN n p (f + 1) low high = rootN n p f ((low + high) / 2) high := by rw [rootN, if_pos h, if_neg ha]
theorem rootN_end (n p f low high : Nat) (h : ¬ high - low > 1) : rootN n p f low high = low := by
  cases f with
  | zero => rfl
  | succ f => rw [rootN, if_neg h]
/-- So far: low and high lie so far apart, and the root is between. -/
structure Half (n p low high : Nat) : Prop where
  lt : low < high
  le : high ≤ 274877906944
  fuel : ∃ f, high - low ≤ 2 ^ f ∧ rootN n p f low high = rootN n p 38 0 274877906944
theorem Half.start (n p : Nat) : Half n p 0 274877906944 := ⟨by decide, Nat.le_refl _, 38, by decide, rfl⟩
theorem Half.step {n p low high : Nat} (h : Half n p low high) (hg : 1 < high - low) : (((low + high) / 2) ^ p > n * 4294967296 ^ p → Half n p low ((low + high) / 2)) ∧ (¬ ((low + high) / 2) ^ p > n * 4294967296 ^ p → Half n p ((low + high) / 2) high) := by
  obtain ⟨f, hf, e⟩ := h.fuel
  have h1 := h.lt
  have h2 := h.le
  rcases f with _ | f
  · simp at hf; omega
  · rw [Nat.pow_succ] at hf
    refine ⟨fun ha => ⟨by omega, by omega, f, by omega, ?_⟩, fun ha => ⟨by omega, by omega, f, by omega, ?_⟩⟩
    · rw [← e, rootN_up _ _ _ _ _ hg ha]
    · rw [← e, rootN_down _ _ _ _ _ hg ha]
theorem Half.last {n p low high : Nat} (h : Half n p low high) (hg : ¬ 1 < high - low) : low % 4294967296 = root32 n p := by
  obtain ⟨f, hf, e⟩ := h.fuel
  rw [root32, ← e, rootN_end _ _ _ _ _ hg]

set_option maxRecDepth 20000 in
set_option maxHeartbeats 3200000 in
theorem root_any (n p : Nat) (hn : n < 400) (hp2 : 2 ≤ p) (hp3 : p ≤ 3) (w : World) :
    Calls Tryd.prog 22 #[.int .i64 (n : Int), .int .i64 (p : Int)] w (Ret w (Is (.int .u32 (root32 n p : Int)))) := by
  go_enter Tryd.func22, Tryd.ntmps22
  go_wp2
  go_loopw [5, 6] (fun l h wr => ∃ low high : Nat, l = .int .u64 (low : Int) ∧ h = .int .u64 (high : Int) ∧ Hid (Half n p low high) ∧ Ext w wr) (fun l h _ => (intOf h - intOf l).toNat)
  case atStart => exact ⟨0, 274877906944, rfl, rfl, hide (Half.start n p), Ext.refl _⟩
  case round =>
    obtain ⟨low, high, rfl, rfl, HH, hx⟩ := hrel
    have hlt := HH.out.lt
    have hle := HH.out.le
    obtain ⟨d, HDD⟩ : ∃ d, Hid (d = high - low) := ⟨_, hide rfl⟩
    have hsub : IntKind.u64.wrap ((high : Int) - (low : Int)) = (d : Int) := by rw [HDD.out, IntKind.wrap_u64]; omega
    by_cases hg : 1 < high - low
    · obtain ⟨HU, HD⟩ := HH.out.step hg
      obtain ⟨m, hm⟩ : ∃ m, m = (low + high) / 2 := ⟨_, rfl⟩
      rw [← hm] at HU HD
      have hm1 : low < m := by omega
      have hm2 : m < high := by omega
      have em : ((low : Int) + (high : Int)) / 2 = (m : Int) := by omega
      have hg2 : (1 : Int) < (d : Int) := by rw [HDD.out]; omega
      have HMM := hide (u64_mask m (by omega))
      replace HU := hide HU
      replace HD := hide HD
      clear hm hg
      go_wp2
      rw [em, HMM.out]
      obtain ⟨arr, HARR⟩ : ∃ arr : Array Value, Hid (#[Value.int .u64 ((m % 4294967296 : Nat) : Int), Value.int .u64 ((m : Int) / 4294967296), Value.int .u64 0, Value.int .u64 0, Value.int .u64 0, Value.int .u64 0, Value.int .u64 0, Value.int .u64 0] = arr) := ⟨_, hide rfl⟩
      rw [HARR.out]
      have HAW : Hid (arr = (ws (twoP m)).toArray) := by rw [Hid, ← HARR.out]; rfl
      rw [HAW.out]
      clear HARR HAW arr
      obtain ⟨g, HG⟩ : ∃ g, Hid (g = wr.heap.size) := ⟨_, hide rfl⟩
      generalize hW : World.alloc (World.alloc wr (Obj.cells (ws (twoP m)).toArray 73)) (Obj.cells (ws (twoP m)).toArray 73) = w1
      have hA : Wde w1 g (twoP m) := by rw [← hW, HG.out]; exact heap_alloc2_old wr _ _
      have hB : Wde w1 (g + 1) (twoP m) := by rw [← hW, HG.out]; exact heap_alloc2_new wr _ _
      have hx1 : Ext w w1 := by rw [← hW]; exact (hx.trans (Ext.alloc _ _)).trans (Ext.alloc _ _)
      have hgl : w.heap.size ≤ g := by rw [HG.out]; exact hx.size
      rw [← HG.out]
      clear hW HG hx hsub hg2
      have HTP := hide (twoP_parts m (by omega))
      have HPW := hide (show ∀ k, k < p → m ^ k * m % 4294967296 ^ 8 = m ^ (k + 1) from fun k hk => by
        rw [Nat.pow_succ]
        apply Nat.mod_eq_of_lt
        have h1 : m ^ (k + 1) ≤ 274877906944 ^ (k + 1) := Nat.pow_le_pow_left (by omega) _
        have h2 : (274877906944 : Nat) ^ (k + 1) ≤ 274877906944 ^ 3 := Nat.pow_le_pow_right (by decide) (by omega)
        rw [Nat.pow_succ] at h1
        exact Nat.lt_of_le_of_lt (Nat.le_trans h1 h2) (by decide))
      have KT := hide fun c (hc : Parts c) W => times_any c (twoP m) hc HTP.out W
      go_loopw [10] (fun i wr => ∃ (k : Nat) (c : List Nat), 1 ≤ k ∧ k ≤ p ∧ i = .int .i64 (k : Int) ∧ Parts c ∧ Hid (num c = m ^ k) ∧ Wde wr (g + 1) c ∧ Wde wr g (twoP m) ∧ Ext w wr) (fun i _ => p - (intOf i).toNat)
      case atStart => exact ⟨1, _, Nat.le_refl _, by omega, rfl, HTP.out, hide (by rw [twoP_num, Nat.pow_one]), hB, hA, hx1⟩
      clear hA hB hx1
      case round =>
        obtain ⟨k, c, hk1, hk, rfl, hc, HC, hB, hA, hx⟩ := hrel
        by_cases hlt : k < p
        · have hlt2 : (k : Int) < (p : Int) := by omega
          obtain ⟨w0, hw0⟩ : ∃ x, x = wr := ⟨_, rfl⟩
          subst hw0
          go_wp2_with (first
            | ((with_reducible show wpList _ _ _ (⟨some 31, .load _ _, _, _, _, _⟩ :: _) _ _);
               refine wpList_load_rw rfl 73 (.tmp 9) rfl _ rfl 73 (ws c) hB 8 22 Tryd.underlying73 (by kernel_rfl) (by rw [ws_length, hc.len]) ?_)
            | ((with_reducible show wpList _ _ _ (⟨some 32, .load _ _, _, _, _, _⟩ :: _) _ _);
               refine wpList_load_rw rfl 73 (.tmp 8) rfl _ rfl 73 (ws (twoP m)) hA 8 22 Tryd.underlying73 (by kernel_rfl) rfl ?_)
            | (go_at_call 34; refine (KT.out c hc _).mono ?_; rintro e w2 ⟨v2, rfl, hw2, ⟨c2, rfl, hc2, hn2⟩⟩;
               rw [HC.out, twoP_num, HPW.out k hlt] at hn2;
               have HN2 := hide hn2;
               clear hn2)
            | ((with_reducible show wpList _ _ _ (⟨none, .store _ (.tmp 9) _, _, _, _, _⟩ :: _) _ _);
               refine wpList_store_rw rfl 73 (.tmp 9) (.tmp 33) rfl _ rfl (ws c2) rfl 73 (ws c) (Rw.ext hB hw2) 8 (by kernel_rfl) (by rw [ws_length, hc2.len]) (by rw [ws_length, ws_length, hc.len, hc2.len]) (ws_one _) ?_;
               intro w3 hr3 hl3))
          refine ⟨⟨_, _, _, _, _, _, _, _, _, ⟨k + 1, c2, by omega, by omega, by go_num, hc2, HN2, hr3, Rw.other (Rw.ext hA hw2) hl3 (by omega), (hx.trans hw2).laid hl3 (by omega)⟩, rfl⟩, ?_⟩
          simp [intOf]
          omega
        · have hge : ¬ (k : Int) < (p : Int) := by omega
          have HC2 : Hid (num c = m ^ p) := by
            have e : k = p := by omega
            rw [← e]
            exact HC.out
          clear HC
          have hp8 : (p : Int) < 8 := by omega
          have KA := hide fun W => above_any c ((List.replicate 8 0).set p n) hc (top_parts n p (by omega)) W
          rw [HC2.out, top_num n p (by omega)] at KA
          have HTS := hide (show ([Value.int .u64 0, Value.int .u64 0, Value.int .u64 0, Value.int .u64 0, Value.int .u64 0, Value.int .u64 0, Value.int .u64 0, Value.int .u64 0].set p (Value.int .u64 (n : Int))).toArray = (ws ((List.replicate 8 0).set p n)).toArray by rw [ws, List.map_set]; rfl)
          have h08 : [Value.int .u64 0, Value.int .u64 0, Value.int .u64 0, Value.int .u64 0, Value.int .u64 0, Value.int .u64 0, Value.int .u64 0, Value.int .u64 0][p]? = some (.int .u64 0) := by
            show (List.replicate 8 (Value.int .u64 0))[p]? = _
            rw [List.getElem?_replicate, if_pos (by omega)]
          obtain ⟨w0, hw0⟩ : ∃ x, x = wr := ⟨_, rfl⟩
          subst hw0
          go_wp2_with (first
            | ((with_reducible show wpList _ _ _ (⟨some 38, .load _ _, _, _, _, _⟩ :: _) _ _);
               rw [HTS.out];
               refine wpList_load_rw rfl 73 (.tmp 9) rfl _ rfl 73 (ws c) (Rw.alloc hB _) 8 22 Tryd.underlying73 (by kernel_rfl) (by rw [ws_length, hc.len]) ?_)
            | ((with_reducible show wpList _ _ _ (⟨some 39, .load _ _, _, _, _, _⟩ :: _) _ _);
               refine wpList_load_rw rfl 73 (.tmp 11) rfl _ rfl 73 (ws ((List.replicate 8 0).set p n)) (heap_alloc_new _ _) 8 22 Tryd.underlying73 (by kernel_rfl) (by rw [ws_length, List.length_set]; rfl) ?_)
            | (go_at_call 35; refine (KA.out _).mono ?_; rintro e w2 ⟨v2, rfl, hw2, rfl⟩))
          · refine ⟨⟨low, m, rfl, rfl, hide (HU.out (by assumption)), (hx.trans (Ext.alloc _ _)).trans hw2⟩, ?_⟩
            simp [intOf]
            omega
          · refine ⟨⟨m, high, rfl, rfl, hide (HD.out (by assumption)), (hx.trans (Ext.alloc _ _)).trans hw2⟩, ?_⟩
            simp [intOf]
            omega
    · have hg2 : ¬ (1 : Int) < (d : Int) := by rw [HDD.out]; omega
      have HE := hide (HH.out.last hg)
      go_wp2
      go_ret
      refine Ret.mk hx ?_
      rw [← HE.out]
      show Value.int .u32 _ = Value.int .u32 _
      congr 1
end Go.Proofs.YtdllppaichlnaaaDoor
namespace Go.Proofs.YtdllppaichlnaaaDoor
open Go.RowKit

/-- The tables as far as k goes. -/
structure TabL (l : List Nat) (k : Nat) : Prop where
  len : l.length = 72
  first : ∀ j, j < k → j < 8 → l[j]? = startW[j]?
  round : ∀ j, j < k → l[8 + j]? = roundW[j]?
theorem TabL.start : TabL (List.replicate 72 0) 0 := ⟨rfl, fun j h => by omega, fun j h => by omega⟩
theorem startW_at (k : Nat) (h : k < 8) : startW[k]? = some (startW.getD k 0) := by
  rw [List.getD_eq_getElem?_getD, List.getElem?_eq_getElem (show k < startW.length from h)]; rfl
theorem roundW_at (k : Nat) (h : k < 64) : roundW[k]? = some (roundW.getD k 0) := by
  rw [List.getD_eq_getElem?_getD, List.getElem?_eq_getElem (show k < roundW.length from h)]; rfl
theorem TabL.step {l : List Nat} {k : Nat} (h : TabL l k) (hk : k < 64) (h8 : 8 ≤ k) : TabL (l.set (8 + k) (roundW.getD k 0)) (k + 1) := by
  refine ⟨by rw [List.length_set]; exact h.len, fun j hj hj8 => ?_, fun j hj => ?_⟩
  · rw [List.getElem?_set_ne (by omega)]
    exact h.first j (by omega) hj8
  · rcases Nat.lt_or_ge j k with h1 | h1
    · rw [List.getElem?_set_ne (by omega)]
      exact h.round j h1
    · have e : j = k := by omega
      rw [e, List.getElem?_set_self (by rw [h.len]; omega), roundW_at k hk]
theorem TabL.step8 {l : List Nat} {k : Nat} (h : TabL l k) (h8 : k < 8) : TabL ((l.set k (startW.getD k 0)).set (8 + k) (roundW.getD k 0)) (k + 1) := by
  refine ⟨by rw [List.length_set, List.length_set]; exact h.len, fun j hj hj8 => ?_, fun j hj => ?_⟩
  · rw [List.getElem?_set_ne (by omega)]
    rcases Nat.lt_or_ge j k with h1 | h1
    · rw [List.getElem?_set_ne (by omega)]
      exact h.first j (by omega) hj8
    · have e : j = k := by omega
      rw [e, List.getElem?_set_self (by rw [h.len]; omega), startW_at k h8]
  · rcases Nat.lt_or_ge j k with h1 | h1
    · rw [List.getElem?_set_ne (by omega), List.getElem?_set_ne (by omega)]
      exact h.round j h1
    · have e : j = k := by omega
      rw [e, List.getElem?_set_self (by rw [List.length_set, h.len]; omega), roundW_at k (by omega)]
theorem TabL.last {l : List Nat} (h : TabL l 64) : l = startW ++ roundW := by
  apply List.ext_getElem?
  intro i
  rcases Nat.lt_or_ge i 8 with h1 | h1
  · rw [List.getElem?_append_left (show i < startW.length from h1)]
    exact h.first i (by omega) h1
  · rw [List.getElem?_append_right (show startW.length ≤ i from h1)]
    rcases Nat.lt_or_ge i 72 with h2 | h2
    · have := h.round (i - 8) (by omega)
      rw [show 8 + (i - 8) = i by omega] at this
      exact this
    · rw [List.getElem?_eq_none (by rw [h.len]; exact h2), List.getElem?_eq_none (show roundW.length ≤ i - startW.length from by show 64 ≤ i - 8; omega)]
theorem TabL.some {l : List Nat} {k : Nat} (h : TabL l k) {i : Nat} (hi : i < 72) : ∃ x, l[i]? = Option.some x := ⟨_, List.getElem?_eq_getElem (by rw [h.len]; exact hi)⟩
/-- The tables as a value. -/
def tabV : Value := .agg (us (startW ++ roundW)).toArray
theorem primeOf_lt (k : Nat) (hk : k < 64) : nextOk (lastPrime k) (primeOf k) = true ∧ 1 ≤ lastPrime k ∧ primeOf k < 400 := by
  have h1 := List.all_eq_true.1 primes_ok k (List.mem_range.2 hk)
  refine ⟨h1, ?_, ?_⟩
  · rcases k with _ | k
    · decide
    · have h2 := List.all_eq_true.1 primes_ok k (List.mem_range.2 (by omega))
      unfold nextOk at h2
      simp only [Bool.and_eq_true, decide_eq_true_eq] at h2
      show 1 ≤ primeOf k
      omega
  · unfold nextOk at h1
    simp only [Bool.and_eq_true, decide_eq_true_eq] at h1
    omega

theorem wpList_alloc_st {P : Program} {ops : Array Oper} {rest : List Oper} {o : Oper} {a : Act} {w : World} {Q : Exit → Act → World → Prop} (hgd : o.guard = none) (ty : TypeId) (ho : o.op = .alloc ty) (cs : Array Value) (n : Nat) (hz : (P.info? ty).map (fun i => (i.zero, i.size)) = some (some (.agg cs), n))
    (h : wpList P ops Q rest (a.put o.dst (.pointer (some ⟨w.heap.size, 0, none⟩))) (w.alloc (.cells cs ty))) : wpList P ops Q (o :: rest) a w :=
  wpList_plain hgd fun _ hK => by
    have hz2 := (zero_of_info hz).1 w
    have he : (execOp a.eval o).run P w = .ok (.value (.pointer (some ⟨w.heap.size, 0, none⟩))) (w.alloc (.cells cs ty)) := by simp [execOp, ho, hz2, newVar, newRow, newObj, Value.cells, go_sem]; rfl
    unfold Oper.wp
    rw [he]
    exact hK _ _ h

set_option maxRecDepth 20000 in
set_option maxHeartbeats 3200000 in
theorem rmake_any (w : World) : Calls Tryd.prog 11 #[] w (Ret w (Is tabV)) := by
  go_enter Tryd.func11, Tryd.ntmps11
  obtain ⟨cs, HCS⟩ : ∃ cs : Array Value, Hid (cs = (us (List.replicate 72 0)).toArray) := ⟨_, hide rfl⟩
  have HZ : Hid ((Tryd.prog.info? 35).map (fun i => (i.zero, i.size)) = some (some (.agg cs), 72)) := by rw [Hid, HCS.out]; kernel_rfl
  go_wp2_with (first
    | ((with_reducible show wpList _ _ _ (⟨some 0, .alloc _, _, _, _, _⟩ :: _) _ _);
       refine wpList_alloc_st rfl 35 rfl cs 72 HZ.out ?_)
    | ((with_reducible show wpList _ _ _ (⟨some 1, .alloc _, _, _, _, _⟩ :: _) _ _);
       refine wpList_alloc_st rfl 35 rfl cs 72 HZ.out ?_))
  generalize hW : World.alloc (World.alloc w (Obj.cells cs 35)) (Obj.cells cs 35) = w1
  rw [HCS.out] at hW
  clear HZ HCS
  obtain ⟨g, hg⟩ : ∃ g, g = w.heap.size := ⟨_, rfl⟩
  have hgl : w.heap.size ≤ g := by omega
  have hR : Wds w1 g 35 (List.replicate 72 0) := by rw [← hW, hg]; exact heap_alloc2_old w _ _
  have hT : Wds w1 (g + 1) 35 (List.replicate 72 0) := by rw [← hW, hg]; exact heap_alloc2_new w _ _
  have hx : Ext w w1 := by rw [← hW]; exact (Ext.alloc w _).trans (Ext.alloc _ _)
  rw [← hg]
  clear hW hg
  go_loopw [2, 3] (fun p i wr => ∃ (k : Nat) (l : List Nat), k ≤ 64 ∧ i = .int .i64 (k : Int) ∧ p = .int .i64 (lastPrime k : Int) ∧ TabL l k ∧ Wds wr g 35 (List.replicate 72 0) ∧ Wds wr (g + 1) 35 l ∧ Ext w wr) (fun _ i _ => 64 - (intOf i).toNat)
  case atStart => exact ⟨0, _, by omega, rfl, rfl, TabL.start, hR, hT, hx⟩
  clear hR hT hx
  case round =>
    obtain ⟨k, l, hk, rfl, rfl, hl, hR, hT, hx⟩ := hrel
    by_cases hlt : k < 64
    · have hlt2 : (k : Int) < 64 := by omega
      obtain ⟨hn1, hn2, hn3⟩ := primeOf_lt k hlt
      obtain ⟨q, HQ⟩ : ∃ q, Hid (primeOf k = q) := ⟨_, hide rfl⟩
      obtain ⟨m, HM⟩ : ∃ m, Hid (lastPrime k = m) := ⟨_, hide rfl⟩
      rw [HM.out, HQ.out] at hn1
      rw [HQ.out] at hn3
      rw [HM.out] at hn2 ⊢
      have KP := hide fun W => prime_any m q hn1 hn2 W
      have KC := hide fun W => (show Calls Tryd.prog 22 #[.int .i64 (q : Int), .int .i64 3] W (Ret W (Is (.int .u32 (roundW.getD k 0 : Int)))) from (by
        have h1 := root_any q 3 hn3 (by decide) (by decide) W
        have h2 := List.all_eq_true.1 round_ok k (List.mem_range.2 hlt)
        rw [beq_iff_eq, HQ.out] at h2
        rw [h2] at h1
        exact h1))
      clear hn1 hn2 hn3
      obtain ⟨r, HR⟩ : ∃ r, Hid (roundW.getD k 0 = r) := ⟨_, hide rfl⟩
      rw [HR.out] at KC
      by_cases h8 : k < 8
      · have KS := hide fun W => (show Calls Tryd.prog 22 #[.int .i64 (q : Int), .int .i64 2] W (Ret W (Is (.int .u32 (startW.getD k 0 : Int)))) from (by
          have h1 := root_any q 2 (by have := (primeOf_lt k hlt).2.2; rw [HQ.out] at this; exact this) (by decide) (by decide) W
          have h2 := List.all_eq_true.1 start_ok k (List.mem_range.2 h8)
          rw [beq_iff_eq, HQ.out] at h2
          rw [h2] at h1
          exact h1))
        obtain ⟨s, HS⟩ : ∃ s, Hid (startW.getD k 0 = s) := ⟨_, hide rfl⟩
        rw [HS.out] at KS
        have HL := hide (hl.step8 h8)
        have h82 : (k : Int) < 8 := by omega
        rw [HS.out, HR.out] at HL
        obtain ⟨x, hx0⟩ := hl.some (i := k) (by omega)
        obtain ⟨y, hy0⟩ := hl.some (i := 8 + k) (by omega)
        have hy1 : (l.set k s)[8 + k]? = some y := by rw [List.getElem?_set_ne (by omega)]; exact hy0
        obtain ⟨w0, hw0⟩ : ∃ x, x = wr := ⟨_, rfl⟩
        subst hw0
        go_wp2_with (first
          | (go_at_call 21; refine (KP.out _).mono ?_; rintro e w2 ⟨v2, rfl, hw2, rfl⟩)
          | (go_at_call 22; (with_reducible show Calls _ _ #[_, Value.int .i64 2] _ _); refine (KS.out _).mono ?_; rintro e w3 ⟨v3, rfl, hw3, rfl⟩;
             have hT3 := Wds.ext hT (hw2.trans hw3);
             have c3 := hT3.cell hx0;
             have f3 := hT3.frozen k)
          | (go_at_call 22; (with_reducible show Calls _ _ #[_, Value.int .i64 3] _ _); refine (KC.out _).mono ?_; rintro e w4 ⟨v4, rfl, hw4, rfl⟩;
             have hT4 := Wds.ext (Wds.put hT3 k s rfl rfl) hw4;
             have c4 := hT4.cell hy1;
             have f4 := hT4.frozen (8 + k)))
        refine ⟨⟨k + 1, (l.set k s).set (8 + k) r, by omega, by go_num, by rw [← HQ.out]; rfl, HL.out, ?_, Wds.put hT4 (8 + k) r rfl rfl, ?_⟩, by simp [intOf]; omega⟩
        · exact Wds.far (Wds.ext (Wds.far (Wds.ext hR (hw2.trans hw3)) (by show g ≠ g + 1; omega) _) hw4) (by show g ≠ g + 1; omega) _
        · exact Below.set ((Below.set (hx.trans (hw2.trans hw3)) (by show w.heap.size ≤ g + 1; omega) _).trans (Below.mono hw4 (by have := hx.size; have := (hw2.trans hw3).size; simp [World.setCell]; omega))) (by show w.heap.size ≤ g + 1; omega) _
      · have h82 : ¬ (k : Int) < 8 := by omega
        have HL := hide (hl.step hlt (by omega))
        rw [HR.out] at HL
        obtain ⟨y, hy0⟩ := hl.some (i := 8 + k) (by omega)
        obtain ⟨w0, hw0⟩ : ∃ x, x = wr := ⟨_, rfl⟩
        subst hw0
        go_wp2_with (first
          | (go_at_call 21; refine (KP.out _).mono ?_; rintro e w2 ⟨v2, rfl, hw2, rfl⟩)
          | (go_at_call 22; (with_reducible show Calls _ _ #[_, Value.int .i64 3] _ _); refine (KC.out _).mono ?_; rintro e w4 ⟨v4, rfl, hw4, rfl⟩;
             have hT4 := Wds.ext hT (hw2.trans hw4);
             have c4 := hT4.cell hy0;
             have f4 := hT4.frozen (8 + k)))
        refine ⟨⟨k + 1, l.set (8 + k) r, by omega, by go_num, by rw [← HQ.out]; rfl, HL.out, ?_, Wds.put hT4 (8 + k) r rfl rfl, ?_⟩, by simp [intOf]; omega⟩
        · exact Wds.far (Wds.ext hR (hw2.trans hw4)) (by show g ≠ g + 1; omega) _
        · exact Below.set (hx.trans (hw2.trans hw4)) (by show w.heap.size ≤ g + 1; omega) _
    · have hge : ¬ (k : Int) < 64 := by omega
      have e : l = startW ++ roundW := by
        have ek : k = 64 := by omega
        rw [ek] at hl
        exact hl.last
      have hll := hl.len
      clear hl
      go_wp2_with (first
        | ((with_reducible show wpList _ _ _ (⟨some 22, .load _ _, _, _, _, _⟩ :: _) _ _);
           refine wpList_load_row rfl 35 (.tmp 1) rfl _ rfl 35 (us l).toArray (0, 0) _ hT Tryd.underlying35 rfl (by rw [List.size_toArray, us_length, hll]; kernel_rfl) ?_)
        | ((with_reducible show wpList _ _ _ (⟨none, .store _ (.tmp 0) _, _, _, _, _⟩ :: _) _ _);
           refine wpList_store_rw rfl 35 (.tmp 0) (.tmp 22) rfl _ rfl (us l) rfl 35 (us (List.replicate 72 0)) hR 72 (by kernel_rfl) (by rw [us_length, hll]) (by rw [us_length, us_length, hll]; rfl) (us_one _) ?_;
           intro w5 hr5 hl5))
      refine bodyPost_ret (results_cell_row rfl _ _ _ _ _ (0, 0) _ rfl hr5 Tryd.underlying35 rfl (by rw [List.size_toArray, us_length, hll]; kernel_rfl)) rfl (Ret.mk (hx.laid hl5 (by omega)) ?_)
      rw [e]
      rfl
end Go.Proofs.YtdllppaichlnaaaDoor

/-
  The digest of what came ahead and of these bytes: sumFrom's contract.
-/
import Derived.Test.YtmanflfanoddgaaDoorShaE
namespace Go.Proofs.YtmanflfanoddgaaDoor
open Go.RowKit

theorem out_get (s : Sta) (k j x : Nat) (hj : j < 4) (hx : s.list[k]? = some x) : s.out[4 * k + j]? = some (b8n (x / 2 ^ (24 - 8 * j))) := by
  have hk : k < 8 := (List.getElem?_eq_some_iff.1 hx).1
  rcases j with _ | _ | _ | _ | j
  case succ.succ.succ.succ => omega
  all_goals
    rcases k with _ | _ | _ | _ | _ | _ | _ | _ | k
    case succ.succ.succ.succ.succ.succ.succ.succ => omega
    all_goals
      simp only [Sta.list, List.getElem?_cons_zero, List.getElem?_cons_succ, Option.some.injEq] at hx
      subst hx
      simp [Sta.out, be4]
theorem take_zeros_set (o : List UInt8) (n i : Nat) (v : UInt8) (h : o[i]? = some v) (hn : o.length = n) : (o.take i ++ List.replicate (n - i) 0).set i v = o.take (i + 1) ++ List.replicate (n - (i + 1)) 0 := by
  have hlt : i < o.length := (List.getElem?_eq_some_iff.1 h).1
  have hl : (o.take i).length = i := by simp; omega
  obtain ⟨m, hm⟩ : ∃ m, n - i = m + 1 := ⟨n - i - 1, by omega⟩
  rw [List.set_append_right _ _ (by omega), hl, Nat.sub_self, hm, List.replicate_succ, List.set_cons_zero, List.take_add_one, h, show n - (i + 1) = m by omega]
  simp
theorem byte_step {w : World} {g t i : Nat} {o : List UInt8} {n : Nat} {v : Int} {y : Nat} (hb : Rw w g t (bs (o.take i ++ List.replicate (n - i) 0))) (hn : o.length = n) (ho : o[i]? = some (b8n y)) (hv : v = ((y % 256 : Nat) : Int)) :
    Rw (w.setCell ⟨g, i, none⟩ (.int .u8 v)) g t (bs (o.take (i + 1) ++ List.replicate (n - (i + 1)) 0)) := by
  have h := Rw.set hb i (.int .u8 v)
  have e : (bs (o.take i ++ List.replicate (n - i) 0)).set i (.int .u8 v) = bs ((o.take i ++ List.replicate (n - i) 0).set i (b8 v)) := by
    unfold bs
    rw [List.map_set, b8_toNat (by omega) (by omega)]
  rw [e, b8n_b8 y hv, take_zeros_set o n i _ ho hn] at h
  exact h
theorem word_byte (x j : Nat) : (x : Int) / 2 ^ (24 - 8 * j) % 256 = ((x / 2 ^ (24 - 8 * j) % 256 : Nat) : Int) := by
  have h1 : (x : Int) / 2 ^ (24 - 8 * j) = ((x / 2 ^ (24 - 8 * j) : Nat) : Int) := by rw [Int.natCast_ediv, Int.natCast_pow]; rfl
  rw [h1]
  generalize x / 2 ^ (24 - 8 * j) = y
  omega
theorem absorb_len {l : List UInt8} (wh : Nat) (h : wh = l.length - l.length % 64) : (l.take wh).length = wh := by simp; omega

set_option maxRecDepth 20000 in
set_option maxHeartbeats 3200000 in
theorem sumFrom_any (s : Sta) (hs : s.ok) (ahead : Nat) (A : Option Addr) (c : Nat) (l : List UInt8) (w : World) (hr : Rd w A l) (hlc : l.length ≤ c) (hl : l.length ≤ 140737488355328) (ha : ahead ≤ 140737488355328) (ht : Tab w) :
    Calls Tryd.prog 76 #[.agg (us s.list).toArray, .int .i64 (ahead : Int), .slice A l.length c] w (Ret w (Is (.agg (bs (sumS s ahead l)).toArray))) := by
  obtain ⟨wh, hwh, ewh⟩ : ∃ wh : Nat, wh = l.length - l.length % 64 ∧ (l.length : Int) - (l.length : Int) % 64 = (wh : Int) := ⟨_, rfl, by omega⟩
  have hwl : wh ≤ l.length := by omega
  have hdl : (l.drop wh).length < 64 := by rw [List.length_drop]; omega
  obtain ⟨s1, HS1⟩ : ∃ s1, Hid (absorb s (l.take wh) = s1) := ⟨_, rfl⟩
  have hs1 : s1.ok := by rw [← HS1.out]; exact absorb_ok hs _
  obtain ⟨en, HEN⟩ : ∃ en, Hid (endingS (l.drop wh) (ahead + l.length) = en) := ⟨_, rfl⟩
  have henl : en.length ≤ 128 := by rw [← HEN.out, ending_length _ hdl]; split <;> omega
  obtain ⟨s2, HS2⟩ : ∃ s2, Hid (absorb s1 en = s2) := ⟨_, rfl⟩
  have hs2 : s2.ok := by rw [← HS2.out]; exact absorb_ok hs1 _
  have HO : Hid (sumS s ahead l = s2.out) := by
    show sumS s ahead l = s2.out
    unfold sumS
    rw [← hwh, HS1.out, HEN.out, HS2.out]
  have KA0 := hide fun W (h : Ext w W) => (show Calls Tryd.prog 99 #[.agg (us s.list).toArray, .slice A wh c] W (Ret W (Is (.agg (us s1.list).toArray))) from (by
    have h1 := absorbed_any s hs A c (l.take wh) W ((hr.ext h).take wh) (by rw [absorb_len wh hwh]; omega) (by rw [absorb_len wh hwh]; omega) (ht.ext h)
    rw [absorb_len wh hwh, HS1.out] at h1
    exact h1))
  have KE := hide fun (A' : Option Addr) (c' : Nat) W (h : Rd W A' (l.drop wh)) => (show Calls Tryd.prog 100 #[.slice A' (l.drop wh).length c', .int .u64 ((ahead : Int) + (l.length : Int))] W (Ret W (Bytes en)) from (by
    have h1 := ending_any A' c' (l.drop wh) (ahead + l.length) W h hdl
    rw [HEN.out] at h1
    exact h1))
  have KB0 := hide fun (A' : Option Addr) (c' : Nat) W (h : Ext w W) (h2 : Rd W A' en) (h3 : en.length ≤ c') => (show Calls Tryd.prog 99 #[.agg (us s1.list).toArray, .slice A' en.length c'] W (Ret W (Is (.agg (us s2.list).toArray))) from (by
    have h1 := absorbed_any s1 hs1 A' c' en W h2 h3 (by omega) (ht.ext h)
    rw [HS2.out] at h1
    exact h1))
  clear hwh
  go_enter Tryd.func76, Tryd.ntmps76
  go_wp2
  generalize hW : World.alloc (World.alloc w (Obj.cells (us s.list).toArray 28)) (Obj.cells #[Value.int .u8 0, Value.int .u8 0, Value.int .u8 0, Value.int .u8 0, Value.int .u8 0, Value.int .u8 0, Value.int .u8 0, Value.int .u8 0, Value.int .u8 0, Value.int .u8 0, Value.int .u8 0, Value.int .u8 0, Value.int .u8 0, Value.int .u8 0, Value.int .u8 0, Value.int .u8 0, Value.int .u8 0, Value.int .u8 0, Value.int .u8 0, Value.int .u8 0, Value.int .u8 0, Value.int .u8 0, Value.int .u8 0, Value.int .u8 0, Value.int .u8 0, Value.int .u8 0, Value.int .u8 0, Value.int .u8 0, Value.int .u8 0, Value.int .u8 0, Value.int .u8 0, Value.int .u8 0] 24) = w1
  have HH : Hid (Wds w1 w.heap.size 28 s.list) := by rw [← hW]; exact heap_alloc2_old w _ _
  have HZ : Hid (Rw w1 (w.heap.size + 1) 24 (bs (List.replicate 32 0))) := by rw [← hW]; exact heap_alloc2_new w _ _
  have hx1 : Ext w w1 := by rw [← hW]; exact (Ext.alloc w _).trans (Ext.alloc _ _)
  clear hW
  have KA := hide fun W (h : Ext w1 W) => KA0.out W (hx1.trans h)
  refine wp_region_last (Nat.le_refl _) [
      Sp.is (.agg (us s.list).toArray),
      Sp.is (.slice A l.length c),
      Sp.is (.int .i64 (wh : Int)),
      Sp.is (.slice A wh c),
      Sp.is (.agg (us s1.list).toArray)] 5 _ rfl (by kernel_rfl) (by kernel_rfl) (by kernel_rfl) ?_ ?_
  · refine ⟨.inr ?_, .inr ?_, .inr ?_, .inr ?_, .inr ?_, .inl rfl, trivial⟩
    · intro az wz hx hB hk H
      refine .inl ⟨wanted_none rfl, ?_⟩
      exact gives_load_rw 28 (.tmp 3) rfl w.heap.size (by rw [(ev (show az.tmps[3]? = some (.pointer (some ⟨w.heap.size, 0, none⟩)) from hk 3 rfl))]) 28 (us s.list) (Rw.below HH.out hx.below (Rw.lt HH.out)) 8 27 Tryd.underlying28 (by kernel_rfl) (by rw [us_length, list_length]) ⟨Grw.refl _ _, rfl⟩
    · intro az wz hx hB hk H
      refine .inl ⟨wanted_none rfl, ?_⟩
      refine gives_move rfl ?_
      rw [(ev (show az.tmps[2]? = some (.slice A l.length c) from hk 2 rfl))]
      exact ⟨Grw.refl _ _, rfl⟩
    · intro az wz hx hB hk H
      refine .inl ⟨wanted_none rfl, ?_⟩
      refine gives_move rfl ?_
      rw [(ev (show az.tmps[7]? = some (.int .i64 (wh : Int)) from hk 7 rfl))]
      exact ⟨Grw.refl _ _, rfl⟩
    · intro az wz hx hB hk H
      obtain ⟨v19, h19, s19⟩ := H 1 rfl _ rfl 19 rfl
      obtain ⟨v20, h20, s20⟩ := H 2 rfl _ rfl 20 rfl
      refine .inl ⟨wanted_none rfl, ?_⟩
      exact gives_cut rfl Tryd.underlying22 (by kernel_rfl) (by rw [ev h19]; exact s19) (by rw [ev h20]; exact s20) (by omega) ⟨Grw.refl _ _, rfl⟩
    · intro az wz hx hB hk H
      obtain ⟨v18, h18, s18⟩ := H 0 rfl _ rfl 18 rfl
      obtain ⟨v21, h21, s21⟩ := H 3 rfl _ rfl 21 rfl
      refine .inl ⟨wanted_none rfl, ?_⟩
      refine gives_call rfl Tryd.call99 (by simp only [List.map_toArray, List.map_cons, List.map_nil, ev h18, ev h21]; rw [s18, s21]) ?_
      exact (KA.out wz (Below.mono hx.below (Nat.le_refl _))).mono fun _ _ h => h.grw hB
  · intro az wz hx hd hs hv hsame
    obtain ⟨v18, h18, s18⟩ := hv 0 _ 18 (by decide) rfl rfl
    obtain rfl : v18 = (.agg (us s.list).toArray) := s18
    obtain ⟨v19, h19, s19⟩ := hv 1 _ 19 (by decide) rfl rfl
    obtain rfl : v19 = (.slice A l.length c) := s19
    obtain ⟨v20, h20, s20⟩ := hv 2 _ 20 (by decide) rfl rfl
    obtain rfl : v20 = (.int .i64 (wh : Int)) := s20
    obtain ⟨v21, h21, s21⟩ := hv 3 _ 21 (by decide) rfl rfl
    obtain rfl : v21 = (.slice A wh c) := s21
    obtain ⟨v22, h22, s22⟩ := hv 4 _ 22 (by decide) rfl rfl
    obtain rfl : v22 = (.agg (us s1.list).toArray) := s22
    have hfr := frame_last [(18, (.agg (us s.list).toArray)), (19, (.slice A l.length c)), (20, (.int .i64 (wh : Int))), (21, (.slice A wh c)), (22, (.agg (us s1.list).toArray))] hs (by kernel_rfl) (by simp only [List.forall_mem_cons, List.not_mem_nil, false_implies, implies_true, and_true]; exact ⟨h18, h19, h20, h21, h22⟩) hsame
    simp only [List.foldl_cons, List.foldl_nil, List.setIfInBounds_toArray, List.set_cons_succ, List.set_cons_zero] at hfr
    obtain ⟨tm, df⟩ := az
    simp only [] at hfr hd
    subst hfr hd
    clear hv hsame hs h18 h19 h20 h21 h22
    refine ⟨wanted_none rfl, ?_⟩
    refine gives_store_rw 28 (.tmp 3) (.tmp 22) rfl w.heap.size rfl (us s1.list) rfl 28 (us s.list) (Rw.below HH.out hx.below (Rw.lt HH.out)) 8 (by kernel_rfl) (by rw [us_length, list_length]) (by rw [us_length, us_length, list_length, list_length]) (us_one _) ?_
    intro w2 hr2 hl2
    have HH2 : Hid (Wds w2 w.heap.size 28 s1.list) := hr2
    have HZ2 : Hid (Rw w2 (w.heap.size + 1) 24 (bs (List.replicate 32 0))) := Rw.other (Rw.below HZ.out hx.below (Rw.lt HZ.out)) hl2 (by omega)
    have hx2 : Ext w w2 := Ext.laid (Below.trans hx1 (Below.mono hx.below hx1.size)) hl2 (Nat.le_refl _)
    clear hx KA HH HZ hl2 hr2 hx1
    have KB := hide fun (A' : Option Addr) (c' : Nat) W (h : Ext w2 W) => KB0.out A' c' W (hx2.trans h)
    dsimp only [Act.put]
    go_wp2
    refine wp_region_last (Nat.le_refl _) [
        Sp.is (.agg (us s1.list).toArray),
        Sp.is (.slice A l.length c),
        Sp.is (.int .i64 (wh : Int)),
        Sp.bytes (l.drop wh),
        Sp.is (.int .i64 (ahead : Int)),
        Sp.is (.int .u64 (ahead : Int)),
        Sp.is (.slice A l.length c),
        Sp.is (.int .i64 (l.length : Int)),
        Sp.is (.int .u64 (l.length : Int)),
        Sp.is (.int .u64 ((ahead : Int) + (l.length : Int))),
        Sp.bytes en,
        Sp.is (.agg (us s2.list).toArray)] 12 _ rfl (by kernel_rfl) (by kernel_rfl) (by kernel_rfl) ?_ ?_
    · refine ⟨.inr ?_, .inr ?_, .inr ?_, .inr ?_, .inr ?_, .inr ?_, .inr ?_, .inr ?_, .inr ?_, .inr ?_, .inr ?_, .inr ?_, .inl rfl, trivial⟩
      · intro az wz hx hB hk H
        refine .inl ⟨wanted_none rfl, ?_⟩
        exact gives_load_rw 28 (.tmp 3) rfl w.heap.size (by rw [(ev (show az.tmps[3]? = some (.pointer (some ⟨w.heap.size, 0, none⟩)) from hk 3 rfl))]) 28 (us s1.list) (Rw.below HH2.out hx.below (Rw.lt HH2.out)) 8 27 Tryd.underlying28 (by kernel_rfl) (by rw [us_length, list_length]) ⟨Grw.refl _ _, rfl⟩
      · intro az wz hx hB hk H
        refine .inl ⟨wanted_none rfl, ?_⟩
        refine gives_move rfl ?_
        rw [(ev (show az.tmps[2]? = some (.slice A l.length c) from hk 2 rfl))]
        exact ⟨Grw.refl _ _, rfl⟩
      · intro az wz hx hB hk H
        refine .inl ⟨wanted_none rfl, ?_⟩
        refine gives_move rfl ?_
        rw [(ev (show az.tmps[7]? = some (.int .i64 (wh : Int)) from hk 7 rfl))]
        exact ⟨Grw.refl _ _, rfl⟩
      · intro az wz hx hB hk H
        obtain ⟨v24, h24, s24⟩ := H 1 rfl _ rfl 24 rfl
        obtain ⟨v25, h25, s25⟩ := H 2 rfl _ rfl 25 rfl
        refine .inl ⟨wanted_none rfl, ?_⟩
        exact gives_from (l := l) rfl Tryd.underlying22 (by kernel_rfl) (by rw [ev h24]; exact s24) (by rw [ev h25]; exact s25) (by omega) hlc rfl (hr.ext (Below.trans hx2 (Below.mono hx.below hx2.size))) (fun A' hA' => ⟨Grw.refl _ _, ⟨A', c - wh, by rw [List.length_drop], by rw [List.length_drop]; omega, hA'⟩⟩)
      · intro az wz hx hB hk H
        refine .inl ⟨wanted_none rfl, ?_⟩
        refine gives_move rfl ?_
        rw [(ev (show az.tmps[1]? = some (.int .i64 (ahead : Int)) from hk 1 rfl))]
        exact ⟨Grw.refl _ _, rfl⟩
      · intro az wz hx hB hk H
        obtain ⟨v27, h27, s27⟩ := H 4 rfl _ rfl 27 rfl
        refine .inl ⟨wanted_none rfl, ?_⟩
        exact gives_i64_u64 (ahead : Int) rfl Tryd.underlying3 Tryd.underlying126 (by rw [ev h27]; exact s27) (by omega) ⟨Grw.refl _ _, rfl⟩
      · intro az wz hx hB hk H
        refine .inl ⟨wanted_none rfl, ?_⟩
        refine gives_move rfl ?_
        rw [(ev (show az.tmps[2]? = some (.slice A l.length c) from hk 2 rfl))]
        exact ⟨Grw.refl _ _, rfl⟩
      · intro az wz hx hB hk H
        obtain ⟨v29, h29, s29⟩ := H 6 rfl _ rfl 29 rfl
        refine .inl ⟨wanted_none rfl, ?_⟩
        exact gives_len rfl ⟨_, Tryd.underlying22⟩ (by rw [ev h29]; exact s29) ⟨Grw.refl _ _, rfl⟩
      · intro az wz hx hB hk H
        obtain ⟨v30, h30, s30⟩ := H 7 rfl _ rfl 30 rfl
        refine .inl ⟨wanted_none rfl, ?_⟩
        exact gives_i64_u64 (l.length : Int) rfl Tryd.underlying3 Tryd.underlying126 (by rw [ev h30]; exact s30) (by omega) ⟨Grw.refl _ _, rfl⟩
      · intro az wz hx hB hk H
        obtain ⟨v28, h28, s28⟩ := H 5 rfl _ rfl 28 rfl
        obtain ⟨v31, h31, s31⟩ := H 8 rfl _ rfl 31 rfl
        refine .inl ⟨wanted_none rfl, ?_⟩
        exact gives_add_u64 (ahead : Int) (l.length : Int) rfl (by rw [ev h28]; exact s28) (by rw [ev h31]; exact s31) (by omega) ⟨Grw.refl _ _, rfl⟩
      · intro az wz hx hB hk H
        obtain ⟨v26, h26, s26⟩ := H 3 rfl _ rfl 26 rfl
        obtain ⟨v32, h32, s32⟩ := H 9 rfl _ rfl 32 rfl
        refine .inl ⟨wanted_none rfl, ?_⟩
        obtain ⟨A6, c6, rfl, hc6, hr6⟩ := s26
        refine gives_call rfl Tryd.call100 (by simp only [List.map_toArray, List.map_cons, List.map_nil, ev h26, ev h32]; rw [s32]) ?_
        exact (KE.out A6 c6 wz hr6).mono fun _ _ h => h.grw hB
      · intro az wz hx hB hk H
        obtain ⟨v23, h23, s23⟩ := H 0 rfl _ rfl 23 rfl
        obtain ⟨v33, h33, s33⟩ := H 10 rfl _ rfl 33 rfl
        refine .inl ⟨wanted_none rfl, ?_⟩
        obtain ⟨A7, c7, rfl, hc7, hr7⟩ := s33
        refine gives_call rfl Tryd.call99 (by simp only [List.map_toArray, List.map_cons, List.map_nil, ev h23, ev h33]; rw [s23]) ?_
        exact (KB.out A7 c7 wz (Below.mono hx.below (Nat.le_refl _)) hr7 hc7).mono fun _ _ h => h.grw hB
    · intro az wz hx hd hs hv hsame
      obtain ⟨v23, h23, s23⟩ := hv 0 _ 23 (by decide) rfl rfl
      obtain rfl : v23 = (.agg (us s1.list).toArray) := s23
      obtain ⟨v24, h24, s24⟩ := hv 1 _ 24 (by decide) rfl rfl
      obtain rfl : v24 = (.slice A l.length c) := s24
      obtain ⟨v25, h25, s25⟩ := hv 2 _ 25 (by decide) rfl rfl
      obtain rfl : v25 = (.int .i64 (wh : Int)) := s25
      obtain ⟨v26, h26, s26⟩ := hv 3 _ 26 (by decide) rfl rfl
      obtain ⟨v27, h27, s27⟩ := hv 4 _ 27 (by decide) rfl rfl
      obtain rfl : v27 = (.int .i64 (ahead : Int)) := s27
      obtain ⟨v28, h28, s28⟩ := hv 5 _ 28 (by decide) rfl rfl
      obtain rfl : v28 = (.int .u64 (ahead : Int)) := s28
      obtain ⟨v29, h29, s29⟩ := hv 6 _ 29 (by decide) rfl rfl
      obtain rfl : v29 = (.slice A l.length c) := s29
      obtain ⟨v30, h30, s30⟩ := hv 7 _ 30 (by decide) rfl rfl
      obtain rfl : v30 = (.int .i64 (l.length : Int)) := s30
      obtain ⟨v31, h31, s31⟩ := hv 8 _ 31 (by decide) rfl rfl
      obtain rfl : v31 = (.int .u64 (l.length : Int)) := s31
      obtain ⟨v32, h32, s32⟩ := hv 9 _ 32 (by decide) rfl rfl
      obtain rfl : v32 = (.int .u64 ((ahead : Int) + (l.length : Int))) := s32
      obtain ⟨v33, h33, s33⟩ := hv 10 _ 33 (by decide) rfl rfl
      obtain ⟨v34, h34, s34⟩ := hv 11 _ 34 (by decide) rfl rfl
      obtain rfl : v34 = (.agg (us s2.list).toArray) := s34
      have hfr := frame_last [(23, (.agg (us s1.list).toArray)), (24, (.slice A l.length c)), (25, (.int .i64 (wh : Int))), (26, v26), (27, (.int .i64 (ahead : Int))), (28, (.int .u64 (ahead : Int))), (29, (.slice A l.length c)), (30, (.int .i64 (l.length : Int))), (31, (.int .u64 (l.length : Int))), (32, (.int .u64 ((ahead : Int) + (l.length : Int)))), (33, v33), (34, (.agg (us s2.list).toArray))] hs (by kernel_rfl) (by simp only [List.forall_mem_cons, List.not_mem_nil, false_implies, implies_true, and_true]; exact ⟨h23, h24, h25, h26, h27, h28, h29, h30, h31, h32, h33, h34⟩) hsame
      simp only [List.foldl_cons, List.foldl_nil, List.setIfInBounds_toArray, List.set_cons_succ, List.set_cons_zero] at hfr
      obtain ⟨tm, df⟩ := az
      simp only [] at hfr hd
      subst hfr hd
      clear hv hsame hs h23 h24 h25 h26 h27 h28 h29 h30 h31 h32 h33 h34
      refine ⟨wanted_none rfl, ?_⟩
      refine gives_store_rw 28 (.tmp 3) (.tmp 34) rfl w.heap.size rfl (us s2.list) rfl 28 (us s1.list) (Rw.below HH2.out hx.below (Rw.lt HH2.out)) 8 (by kernel_rfl) (by rw [us_length, list_length]) (by rw [us_length, us_length, list_length, list_length]) (us_one _) ?_
      intro w3 hr3 hl3
      have HH3 : Hid (Wds w3 w.heap.size 28 s2.list) := hr3
      have HZ3 : Hid (Rw w3 (w.heap.size + 1) 24 (bs (List.replicate 32 0))) := Rw.other (Rw.below HZ2.out hx.below (Rw.lt HZ2.out)) hl3 (by omega)
      have hx3 : Ext w w3 := Ext.laid (Below.trans hx2 (Below.mono hx.below hx2.size)) hl3 (Nat.le_refl _)
      have hs3 : w.heap.size + 2 ≤ w3.heap.size := by have := Rw.lt HZ3.out; omega
      clear hx KA0 KB0 KB KE HH2 HZ2 hl3 hr3 hx2
      dsimp only [Act.put]
      go_wp2_with (first
        | ((with_reducible show wpList _ _ _ (⟨some 35, .load _ _, _, _, _, _⟩ :: _) _ _);
           refine wpList_load_rw rfl 28 (.tmp 3) rfl _ rfl 28 (us s2.list) (Wds.ext HH3.out (Ext.alloc _ _)) 8 27 Tryd.underlying28 (by kernel_rfl) (by rw [us_length, list_length]) ?_))
      go_loopw [36] (fun i wr => ∃ k : Nat, k ≤ 8 ∧ i = .int .i64 k ∧ Rw wr w3.heap.size 24 (bs (s2.out.take (4 * k) ++ List.replicate (32 - 4 * k) 0)) ∧ Rw wr (w.heap.size + 1) 24 (bs (List.replicate 32 0)) ∧ Ext w wr) (fun i _ => 8 - (intOf i).toNat)
      case atStart => exact ⟨0, Nat.zero_le _, rfl, heap_alloc_new w3 _, Rw.alloc HZ3.out _, hx3.trans (Ext.alloc _ _)⟩
      clear HZ3 HH3 hx3
      case round =>
        obtain ⟨k, hk, rfl, ho, hz, hx⟩ := hrel
        by_cases hlt : k < 8
        · obtain ⟨x, hxk⟩ : ∃ x, s2.list[k]? = some x := ⟨_, List.getElem?_eq_getElem (by rw [list_length]; exact hlt)⟩
          have hlt2 : (k : Int) < 8 := by omega
          have hix : ∀ W, (Instr.index 28 (.agg (us s2.list).toArray) (.int .i64 (k : Int))).run Tryd.prog W = .ok (.int .u32 (x : Int)) W := fun W => run_index W _ 27 (us s2.list) _ k (by rw [us_length, list_length]; exact Tryd.underlying28) (by kernel_rfl) (by rw [us_get, hxk]; rfl) (by simp [go_sem, us_get, hxk])
          have hgt := fun j hj => out_get s2 k j x hj hxk
          clear hxk
          go_wp2
          go_loopw [40] (fun i wq => ∃ j : Nat, j ≤ 4 ∧ i = .int .i64 j ∧ Rw wq w3.heap.size 24 (bs (s2.out.take (4 * k + j) ++ List.replicate (32 - (4 * k + j)) 0)) ∧ Rw wq (w.heap.size + 1) 24 (bs (List.replicate 32 0)) ∧ Ext w wq) (fun i _ => 4 - (intOf i).toNat)
          case atStart => exact ⟨0, Nat.zero_le _, rfl, ho, hz, hx⟩
          clear ho hz hx
          case round =>
            obtain ⟨j, hj, rfl, ho, hz, hx⟩ := hrel
            by_cases hltj : j < 4
            · have hltj2 : (j : Int) < 4 := by omega
              have HO1 := hide (hgt j hltj)
              obtain ⟨y, hy⟩ : ∃ y, (bs (s2.out.take (4 * k + j) ++ List.replicate (32 - (4 * k + j)) 0))[4 * k + j]? = some y := ⟨_, List.getElem?_eq_getElem (by rw [bs_length]; simp [out_length]; omega)⟩
              have hcx := Rw.cell ho hy
              have hfx := Rw.frozen ho (4 * k + j)
              clear hy hgt hix
              go_wp2
              exact ⟨⟨j + 1, by omega, by go_num, byte_step ho (out_length s2) HO1.out (word_byte x j), Rw.far hz (by show w.heap.size + 1 ≠ w3.heap.size; omega) _, Below.set hx (by show w.heap.size ≤ w3.heap.size; omega) _⟩, by simp [intOf]; omega⟩
            · have hge : ¬ (j : Int) < 4 := by omega
              have HO2 : Hid (Rw wr w3.heap.size 24 (bs (s2.out.take (4 * (k + 1)) ++ List.replicate (32 - 4 * (k + 1)) 0))) := by
                have e : j = 4 := by omega
                rw [e] at ho
                exact ho
              clear ho hj hltj
              go_wp2
              exact ⟨⟨k + 1, by omega, by go_num, HO2.out, hz, hx⟩, by simp [intOf]; omega⟩
        · have hge : ¬ (k : Int) < 8 := by omega
          have HO2 : Hid (Rw wr w3.heap.size 24 (bs s2.out)) := by
            have e : k = 8 := by omega
            rw [e] at ho
            exact ho
          have HZ := hide hz
          clear ho hz hk hlt
          go_wp2_with (first
            | ((with_reducible show wpList _ _ _ (⟨some 56, .load _ _, _, _, _, _⟩ :: _) _ _);
               refine wpList_load_rw rfl 24 (.tmp 8) rfl _ rfl 24 (bs s2.out) HO2.out 32 5 Tryd.underlying24 (by kernel_rfl) (by rw [bs_length, out_length]) ?_)
            | ((with_reducible show wpList _ _ _ (⟨none, .store _ (.tmp 6) _, _, _, _, _⟩ :: _) _ _);
               refine wpList_store_rw rfl 24 (.tmp 6) (.tmp 56) rfl _ rfl (bs s2.out) rfl 24 (bs (List.replicate 32 0)) HZ.out 32 (by kernel_rfl) (by rw [bs_length, out_length]) (by rw [bs_length, bs_length, out_length]; rfl) (List.all_eq_true.2 (bs_one _)) ?_;
               intro w5 hr5 hl5))
          exact ret_rw rfl rfl _ rfl _ _ hr5 32 5 Tryd.underlying24 (by kernel_rfl) (by rw [bs_length, out_length]) (Ret.mk (hx.laid hl5 (by omega)) (show Value.agg (bs s2.out).toArray = Value.agg (bs (sumS s ahead l)).toArray by rw [HO.out]))
end Go.Proofs.YtmanflfanoddgaaDoor

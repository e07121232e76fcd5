/-
  awake: contract.
-/
import Derived.Test.YtmamhinpkioogaaPgE
import Derived.Lib.SlBytesConst
namespace Go.Proofs.Ytmamhinpkioogaa
open Go.RowKit

theorem build_byte (b : Int) (W : World) : (Instr.buildSlice 28 1 #[(0, .int .u8 b)]).run Try.prog W = .ok (.slice (some ⟨W.heap.size, 0, none⟩) 1 1) (W.alloc (.cells #[.int .u8 b] 5)) := by
  obtain ⟨i0, hi, hz0, hz1, hz2⟩ := info_parts info_u8
  refine run_buildSlice W 28 5 1 #[(0, .int .u8 b)] #[.int .u8 b] i0 _ Try.underlying28 hi hz0 (by rw [hz1]; decide) (by rw [hz1]; decide) ?_
  rw [hz1]
  have h := Great.fill_whole (s := 1) (by decide) [.int .u8 b] ((Array.range (1 * 1)).map ((Value.int .u8 0).cells[· % (Value.int .u8 0).cells.size]!)) (by intro v hv; rw [List.mem_singleton.1 hv]; rfl) (by rw [Array.size_map, Array.size_range]; rfl)
  exact h
theorem build_cell2 (W : World) (A1 A2 B1 B2 : Option Addr) (n1 n2 c1 c2 m1 m2 d1 d2 : Nat) : (Instr.buildSlice 22 2 #[(0, .agg #[.slice A1 n1 c1, .slice A2 n2 c2]), (1, .agg #[.slice B1 m1 d1, .slice B2 m2 d2])]).run Try.prog W = .ok (.slice (some ⟨W.heap.size, 0, none⟩) 2 2) (W.alloc (.cells #[.slice A1 n1 c1, .slice A2 n2 c2, .slice B1 m1 d1, .slice B2 m2 d2] 40)) := by
  obtain ⟨i0, hi, hz0, hz1, hz2⟩ := info_partsC
  refine run_buildSlice W 22 40 2 #[(0, .agg #[.slice A1 n1 c1, .slice A2 n2 c2]), (1, .agg #[.slice B1 m1 d1, .slice B2 m2 d2])] _ i0 _ Try.underlying22 hi hz0 (by rw [hz1]; decide) (by rw [hz1]; decide) ?_
  rw [hz1]
  have h := Great.fill_whole (s := 2) (by decide) [.agg #[.slice A1 n1 c1, .slice A2 n2 c2], .agg #[.slice B1 m1 d1, .slice B2 m2 d2]] ((Array.range (2 * 2)).map ((Value.agg #[Value.slice none 0 0, Value.slice none 0 0]).cells[· % (Value.agg #[Value.slice none 0 0, Value.slice none 0 0]).cells.size]!)) (by intro v hv; rcases List.mem_cons.1 hv with rfl | hv; rfl; rw [List.mem_singleton.1 hv]; rfl) (by rw [Array.size_map, Array.size_range]; rfl)
  exact h
theorem rd_mark (w : World) (b : UInt8) : Rd (w.alloc (.cells #[.int .u8 (b.toNat : Int)] 5 (1, 2))) (some ⟨w.heap.size, 0, none⟩) [b] := Rd.newf w 5 [b] [] (1, 2)
def LA : List Cl := [([97], []), ([99], [])]
def xA : Cl := ([98], [50])
theorem repl_awake : repl LA xA.1 [xA] = [([97], []), ([98], [50]), ([99], [])] := by rfl
theorem rises_awake : Rises LA := ⟨fun y hy => by rw [List.mem_singleton.1 hy]; rfl, ⟨fun y hy => (by cases hy), trivial⟩⟩
theorem small_awake : Small LA := fun x hx => by rcases List.mem_cons.1 hx with rfl | hx; exact ⟨by decide, by decide⟩; rw [List.mem_singleton.1 hx]; exact ⟨by decide, by decide⟩
theorem smallx_awake : Small [xA] := fun x hx => by rw [List.mem_singleton.1 hx]; exact ⟨by decide, by decide⟩
theorem form_leaf : formB 1 0 [] = true := by rfl
theorem conv_n (V : World) (k : Nat) (hk : V.heap.size = k) (C : Array Value) (n c : Nat) : (convert 28 28 (.slice (some ⟨k, 0, none⟩) n c)).run Try.prog (V.alloc (.cells C 5)) = .ok (.slice (some ⟨k, 0, none⟩) n c) (V.alloc (.cells C 5 (C.size, C.size + 1))) := by
  subst hk
  exact Lib.run_convert_bytes_const (P := Try.prog) V 28 5 C n c Try.underlying28 Try.underlying5
def rowA (k : Nat) : List Value := [.slice (some ⟨k, 0, none⟩) 1 1, .slice none 0 0, .slice (some ⟨k + 1, 0, none⟩) 1 1, .slice none 0 0]
theorem awake_world (w : World) (oa oc orow ob o2 : Obj) (ha : oa = .cells #[.int .u8 97] 5 (1, 2)) (hc : oc = .cells #[.int .u8 99] 5 (1, 2)) (hr : orow = .cells (rowA w.heap.size).toArray 40) (hb : ob = .cells #[.int .u8 98] 5 (1, 2)) (h2 : o2 = .cells #[.int .u8 50] 5 (1, 2)) :
    Ext w (((((w.alloc oa).alloc oc).alloc orow).alloc ob).alloc o2) ∧ RdC (((((w.alloc oa).alloc oc).alloc orow).alloc ob).alloc o2) (some ⟨w.heap.size + 2, 0, none⟩) LA ∧ Rd (((((w.alloc oa).alloc oc).alloc orow).alloc ob).alloc o2) (some ⟨w.heap.size + 3, 0, none⟩) [98] ∧ Rd (((((w.alloc oa).alloc oc).alloc orow).alloc ob).alloc o2) (some ⟨w.heap.size + 4, 0, none⟩) [50] := by
  have s1 : (w.alloc oa).heap.size = w.heap.size + 1 := by simp
  have s2 : ((w.alloc oa).alloc oc).heap.size = w.heap.size + 2 := by simp
  have s3 : (((w.alloc oa).alloc oc).alloc orow).heap.size = w.heap.size + 3 := by simp
  have s4 : ((((w.alloc oa).alloc oc).alloc orow).alloc ob).heap.size = w.heap.size + 4 := by simp
  have e1 := Ext.alloc w oa
  have e2 := Ext.alloc (w.alloc oa) oc
  have e3 := Ext.alloc ((w.alloc oa).alloc oc) orow
  have e4 := Ext.alloc (((w.alloc oa).alloc oc).alloc orow) ob
  have e5 := Ext.alloc ((((w.alloc oa).alloc oc).alloc orow).alloc ob) o2
  have r1 : Rd (w.alloc oa) (some ⟨w.heap.size, 0, none⟩) [97] := by rw [ha]; exact rd_mark w 97
  have r2 : Rd ((w.alloc oa).alloc oc) (some ⟨w.heap.size + 1, 0, none⟩) [99] := by
    have := rd_mark (w.alloc oa) 99
    rw [s1] at this
    rw [hc]
    exact this
  have r3 : Rw (((w.alloc oa).alloc oc).alloc orow) (w.heap.size + 2) 40 (rowA w.heap.size) := by
    have := Rw.new ((w.alloc oa).alloc oc) 40 (rowA w.heap.size)
    rw [s2] at this
    rw [hr]
    exact this
  have r4 : Rd ((((w.alloc oa).alloc oc).alloc orow).alloc ob) (some ⟨w.heap.size + 3, 0, none⟩) [98] := by
    have := rd_mark (((w.alloc oa).alloc oc).alloc orow) 98
    rw [s3] at this
    rw [hb]
    exact this
  have r5 : Rd (((((w.alloc oa).alloc oc).alloc orow).alloc ob).alloc o2) (some ⟨w.heap.size + 4, 0, none⟩) [50] := by
    have := rd_mark ((((w.alloc oa).alloc oc).alloc orow).alloc ob) 50
    rw [s4] at this
    rw [h2]
    exact this
  refine ⟨e1.trans (e2.trans (e3.trans (e4.trans e5))), fun _ => ⟨w.heap.size + 2, 0, rfl, fun j x hj => ?_⟩, r4.ext e5, r5⟩
  have r6 := (r3.ext e4).ext e5
  match j with
  | 0 => injection hj with hj; subst hj; exact ⟨_, 1, _, 0, r6.cell (i := 0) rfl, r6.cell (i := 1) rfl, by decide, by decide, (((r1.ext e2).ext e3).ext e4).ext e5, Rd.nil _ _⟩
  | 1 => injection hj with hj; subst hj; exact ⟨_, 1, _, 0, r6.cell (i := 2) rfl, r6.cell (i := 3) rfl, by decide, by decide, ((r2.ext e3).ext e4).ext e5, Rd.nil _ _⟩
  | j + 2 => cases hj
def Awake (w : World) (e : Ending) (w' : World) : Prop := e = .returned (.bool true) ∧ Ext w w'
theorem awake_put (w1 : World) (oa oc orow ob o2 : Obj) (ha : oa = .cells #[.int .u8 97] 5 (1, 2)) (hc : oc = .cells #[.int .u8 99] 5 (1, 2)) (hr : orow = .cells (rowA w1.heap.size).toArray 40) (hb : ob = .cells #[.int .u8 98] 5 (1, 2)) (h2 : o2 = .cells #[.int .u8 50] 5 (1, 2)) :
    Calls Try.prog 23 #[.slice (some ⟨w1.heap.size + 1 + 1, 0, none⟩) 2 2, .agg #[.slice (some ⟨w1.heap.size + 3, 0, none⟩) 1 1, .slice (some ⟨w1.heap.size + 4, 0, none⟩) 1 1]] (((((w1.alloc oa).alloc oc).alloc orow).alloc ob).alloc o2)
      (fun e w' => ∃ g c C d, e = .returned (.slice (some ⟨g, 0, none⟩) 3 c) ∧ Ext w1 w' ∧ w'.cell? ⟨g, 3, none⟩ = some (.slice C 1 d) ∧ 1 ≤ d ∧ Rd w' C [50]) := by
  obtain ⟨XE, RA, RB, R2⟩ := awake_world w1 oa oc orow ob o2 ha hc hr hb h2
  refine (put_any (L := LA) (x := xA) 2 1 1 2 1 1 _ RA RB R2 rfl rfl rfl (by decide) (by decide) (by decide) (by decide) rises_awake small_awake smallx_awake).mono fun e w' ⟨v, he, hx, ho⟩ => ?_
  rw [repl_awake] at ho
  obtain ⟨vs, h1, h3⟩ := ho
  obtain ⟨v1, v2, k1, k2, -, o4⟩ := h3 1 _ rfl
  obtain ⟨C, d, rfl, hd, hC⟩ := o4.slice
  rcases h1.2 with ⟨_, h0⟩ | ⟨g, cap, cur, rfl, _⟩
  · cases h0
  · exact ⟨g, cap, C, d, he, XE.trans hx, (own_cell h1 k2).1, hd, hC⟩
theorem enc_leaf_len : (encB 1 0 [] ++ List.replicate (504 - (encB 1 0 []).length) 0).length = 504 := by
  rw [List.length_append, List.length_replicate]
  have : (encB 1 0 []).length = 6 := rfl
  omega
set_option maxRecDepth 20000 in
set_option maxHeartbeats 3200000 in
theorem awake_any (w : World) : Calls Try.prog 11 #[] w (Awake w) := by
  have KE := hide (fun (W : World) => encode_any 1 0 0 0 W (RdC.nil W none) rfl (by omega) (fun x h => by cases h) (by omega) form_leaf)
  have HBY := hide build_byte
  have hcv := fun (w : World) (C : Array Value) (n c : Nat) => Lib.run_convert_bytes_const (P := Try.prog) w 28 5 C n c Try.underlying28 Try.underlying5
  go_enter Try.func11, Try.ntmps11
  go_upto_region 2 with (go_at_call 16; (with_reducible refine (KE.out _).mono ?_); rintro e w1 ⟨v1, rfl, hx1, v2, rfl, ho⟩; have X1 := hide hx1; have O1 := hide ho; clear hx1 ho)
  have hc1 := conv_n w1 w1.heap.size rfl
  have hc2 := fun (o : Obj) => conv_n (w1.alloc o) (w1.heap.size + 1) (by simp)
  have hc3 := fun (o1 o2 o3 : Obj) => conv_n (((w1.alloc o1).alloc o2).alloc o3) (w1.heap.size + 3) (by simp)
  have hc4 := fun (o1 o2 o3 o4 : Obj) => conv_n ((((w1.alloc o1).alloc o2).alloc o3).alloc o4) (w1.heap.size + 4) (by simp)
  have HB2 := hide build_cell2
  have KP := hide (awake_put w1 (.cells #[.int .u8 97] 5 (1, 2)) (.cells #[.int .u8 99] 5 (1, 2)) (.cells #[.slice (some ⟨w1.heap.size, 0, none⟩) 1 1, .slice none 0 0, .slice (some ⟨w1.heap.size + 1, 0, none⟩) 1 1, .slice none 0 0] 40) (.cells #[.int .u8 98] 5 (1, 2)) (.cells #[.int .u8 50] 5 (1, 2)) rfl rfl rfl rfl rfl)
  clear hcv
  go_upto_region 3 with (first
    | ((with_reducible show wpList _ _ _ (⟨some 9, _, _, _, _, _⟩ :: _) _ _); refine wpList_gives (gives_buildSlice rfl [(0, .int .u8 97)] rfl (HBY.out 97 _) ⟨rfl, rfl⟩) rfl ?_)
    | ((with_reducible show wpList _ _ _ (⟨some 12, _, _, _, _, _⟩ :: _) _ _); refine wpList_gives (gives_buildSlice rfl [(0, .int .u8 99)] rfl (HBY.out 99 _) ⟨rfl, rfl⟩) rfl ?_)
    | ((with_reducible show wpList _ _ _ (⟨some 15, _, _, _, _, _⟩ :: _) _ _); refine wpList_gives (gives_buildSlice rfl _ rfl (HB2.out _ _ _ _ _ _ _ _ _ _ _ _ _) ⟨rfl, rfl⟩) rfl ?_)
    | ((with_reducible show wpList _ _ _ (⟨some 16, _, _, _, _, _⟩ :: _) _ _); refine wpList_gives (gives_buildSlice rfl [(0, .int .u8 98)] rfl (HBY.out 98 _) ⟨rfl, rfl⟩) rfl ?_)
    | ((with_reducible show wpList _ _ _ (⟨some 18, _, _, _, _, _⟩ :: _) _ _); refine wpList_gives (gives_buildSlice rfl [(0, .int .u8 50)] rfl (HBY.out 50 _) ⟨rfl, rfl⟩) rfl ?_)
    | (go_at_call 23; (with_reducible refine KP.out.mono ?_); rintro e w2 ⟨g, c2, C, d2, rfl, hx2, hc3, hd2, hC⟩; have X2 := hide hx2; have HC := hide hC; have HD := hide hd2; have O2 := hide (O1.out.ext hx2); clear hx2 hd2 hC))
  have HEL := hide enc_leaf_len
  obtain ⟨E, HE⟩ : ∃ E, Hid (encB 1 0 [] ++ List.replicate (504 - (encB 1 0 []).length) 0 = E) := ⟨_, hide rfl⟩
  have HE0 : Hid (E[0]? = some 1) := hide (by rw [← HE.out]; rfl)
  rw [HE.out] at O2 HEL
  obtain ⟨ge, ce, hve, -, hce, -, -⟩ := O2.out.at HE0.out
  rw [HEL.out] at hve
  subst hve
  have hce2 : w2.cell? ⟨ge, 0, none⟩ = some (.int .u8 1) := hce
  clear hce
  go_wp2_with (refine wpList_str rfl (.tmp 44) rfl [50] ⟨C, d2, rfl, HD.out, HC.out⟩ ?_)
  go_ret
  exact ⟨rfl, X1.out.trans X2.out⟩
end Go.Proofs.Ytmamhinpkioogaa

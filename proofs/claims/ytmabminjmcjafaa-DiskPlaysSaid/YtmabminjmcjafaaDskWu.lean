/-
  The calls of both disks, in all cases.
-/
import Derived.Test.YtmabminjmcjafaaDskUn
import Derived.Test.YtmabminjmcjafaaDskUg
import Derived.Test.YtmabminjmcjafaaDskZ
namespace Go.Proofs.Ytmabminjmcjafaa
open Go.RowKit

section
variable {B g gd gn c d : Nat} {w : World} {A Pp : Option Addr} {D : Dk}
theorem write_arg (h : DiskAt B w g gd gn A c D) (i : Int) (n : Nat) (hi : i < 0 ∨ (D.dur.length : Int) ≤ i) : Calls Try.prog 21 #[.pointer (some ⟨g, 0, none⟩), .int .i64 i, .slice Pp n d] w (Same w (.int .i64 1)) := by
  have KH := has_any h i
  rw [show (decide (0 ≤ i) && decide (i < (D.dur.length : Int))) = false by rw [Bool.and_eq_false_iff]; rcases hi with h | h; exact .inl (decide_eq_false (by omega)); exact .inr (decide_eq_false (by omega))] at KH
  have HK := hide KH
  clear h hi KH
  go_enter Try.func21, Try.ntmps21
  go_wp2_with (go_at_call 28; (with_reducible refine HK.out.mono ?_); rintro e w2 ⟨rfl, rfl⟩)
  go_ret
  exact ⟨rfl, rfl⟩
theorem write_form (h : DiskAt B w g gd gn A c D) (k n : Nat) (hk : k < D.dur.length) (hn : n ≠ 512) (hnl : n ≤ 140737488355328) : Calls Try.prog 21 #[.pointer (some ⟨g, 0, none⟩), .int .i64 (k : Int), .slice Pp n d] w (Same w (.int .i64 3)) := by
  have KH := has_any h (k : Int)
  rw [show (decide ((0 : Int) ≤ (k : Int)) && decide ((k : Int) < (D.dur.length : Int))) = true by simp; omega] at KH
  have HK := hide KH
  have hnz : ((n : Int) != 512) = true := by simp; omega
  clear h hk KH hn hnl
  go_enter Try.func21, Try.ntmps21
  go_wp2_with (go_at_call 28; (with_reducible refine HK.out.mono ?_); rintro e w2 ⟨rfl, rfl⟩)
  go_ret
  exact ⟨rfl, rfl⟩
theorem write_off (h : DiskAt B w g gd gn A c D) (k : Nat) (hk : k < D.dur.length) (hoff : D.off = true) : Calls Try.prog 21 #[.pointer (some ⟨g, 0, none⟩), .int .i64 (k : Int), .slice Pp 512 d] w (Same w (.int .i64 8)) := by
  obtain ⟨-, -, -, -, -, c5⟩ := disk_cells h
  rw [hoff] at c5
  have KH := has_any h (k : Int)
  rw [show (decide ((0 : Int) ≤ (k : Int)) && decide ((k : Int) < (D.dur.length : Int))) = true by simp; omega] at KH
  have HK := hide KH
  clear h hk KH hoff
  go_enter Try.func21, Try.ntmps21
  go_wp2_with (go_at_call 28; (with_reducible refine HK.out.mono ?_); rintro e w2 ⟨rfl, rfl⟩)
  go_ret
  exact ⟨rfl, rfl⟩
theorem arm_neg (h : DiskAt B w g gd gn A c D) (i : Int) (hi : i < 0) : Calls Try.prog 23 #[.pointer (some ⟨g, 0, none⟩), .int .i64 i] w (Same w (.int .i64 1)) := by
  clear h
  go_enter Try.func23, Try.ntmps23
  go_wp2
  go_ret
  exact ⟨rfl, rfl⟩
theorem new_bad (i : Int) (hi : i < 1 ∨ 4096 < i) : Calls Try.prog 9 #[.int .i64 i] w (Same w (.tuple #[.pointer none, .int .i64 1])) := by
  by_cases h1 : i < 1
  · clear hi
    go_enter Try.func9, Try.ntmps9
    go_wp2
    go_ret2
    exact ⟨rfl, rfl⟩
  · have h2 : 4096 < i := by omega
    clear hi
    go_enter Try.func9, Try.ntmps9
    go_wp2
    go_ret2
    exact ⟨rfl, rfl⟩
end
/-- What Write answers, and the disk behind it. -/
def wE (D : Dk) (i : Int) (p : List UInt8) : Int := if i < 0 ∨ (D.dur.length : Int) ≤ i then 1 else if p.length ≠ 512 then 3 else if D.off = true then 8 else (D.put i.toNat p).opE
def wD (D : Dk) (i : Int) (p : List UInt8) : Dk := if i < 0 ∨ (D.dur.length : Int) ≤ i then D else if p.length ≠ 512 then D else if D.off = true then D else (D.put i.toNat p).op
/-- What Sync answers, and the disk behind it. -/
def sE (D : Dk) : Int := if D.off = true then 8 else if D.arm = 1 then 8 else 0
def sD (D : Dk) : Dk := if D.off = true then D else if D.arm = 1 then D.op else D.op.settled fun _ => true
/-- What Read answers. -/
def gE (D : Dk) (i : Int) : Int := if i < 0 ∨ (D.dur.length : Int) ≤ i then 1 else if D.off = true then 8 else 0
def gB (D : Dk) (i : Int) : List UInt8 := if i < 0 ∨ (D.dur.length : Int) ≤ i then [] else if D.off = true then [] else D.at i.toNat
section
variable {B g gd gn c d gl cl gx cx : Nat} {w : World} {A Pp AX : Option Addr} {D : Dk} {rest : List Value}
theorem dpost_same (h : DiskAt B w g gd gn A c D) {r : Value} {e : Ending} {w' : World} (hs : Same w r e w') : DPost B g gd gn w A r D e w' := by
  obtain ⟨rfl, rfl⟩ := hs
  exact ⟨A, c, rfl, h, Dfr.refl _ _ _ _ _, Newer.refl _ _⟩
theorem upost_same (h : RefAt B w gx gl cl AX cx rest D) {r : Value} {e : Ending} {w' : World} (hs : Same w r e w') : UPost B gx w r D e w' := by
  obtain ⟨rfl, rfl⟩ := hs
  exact ⟨gl, cl, AX, cx, rest, rfl, h, Ufr.refl _ _⟩
structure Bd (D : Dk) : Prop where
  ok : D.Ok
  pen : D.pen.length < 1000000
  ops : D.ops < 1000000
  arm : D.arm < 9223372036854775808
theorem write_uni (h : DiskAt B w g gd gn A c D) (b : Bd D) (hB : B ≤ w.heap.size) (i : Int) (p : List UInt8) (np : Nat) (hp : p.length = np) (hnl : np ≤ 140737488355328) (hP : Rd w Pp p) :
    Calls Try.prog 21 #[.pointer (some ⟨g, 0, none⟩), .int .i64 i, .slice Pp np d] w (DPost B g gd gn w A (.int .i64 (wE D i p)) (wD D i p)) := by
  unfold wE wD
  by_cases h1 : i < 0 ∨ (D.dur.length : Int) ≤ i
  · rw [if_pos h1, if_pos h1]
    exact (write_arg h i np h1).mono fun _ _ hs => dpost_same h hs
  · rw [if_neg h1, if_neg h1]
    obtain ⟨k, rfl⟩ : ∃ k : Nat, i = (k : Int) := ⟨i.toNat, by omega⟩
    have hk : k < D.dur.length := by omega
    by_cases h2 : p.length ≠ 512
    · rw [if_pos h2, if_pos h2]
      exact (write_form h k np hk (by rw [← hp]; exact h2) hnl).mono fun _ _ hs => dpost_same h hs
    · rw [if_neg h2, if_neg h2]
      have h512 : p.length = 512 := by omega
      obtain rfl : np = 512 := by omega
      by_cases h3 : D.off = true
      · rw [if_pos h3, if_pos h3]
        exact (write_off h k hk h3).mono fun _ _ hs => dpost_same h hs
      · rw [if_neg h3, if_neg h3, Int.toNat_natCast]
        exact write_any h b.ok (by simpa using h3) b.pen b.ops b.arm k hk p h512 hP hB
theorem put_uni (h : RefAt B w gx gl cl AX cx rest D) (b : Bd D) (hB : B ≤ w.heap.size) (i : Int) (p : List UInt8) (np : Nat) (hp : p.length = np) (hnl : np ≤ 140737488355328) (hP : ∀ W, Ufr B w W → Rd W Pp p) :
    Calls Try.prog 24 #[.pointer (some ⟨gx, 0, none⟩), .int .i64 i, .slice Pp np d] w (UPost B gx w (.int .i64 (wE D i p)) (wD D i p)) := by
  have hl := b.ok.max
  unfold wE wD
  by_cases h1 : i < 0 ∨ (D.dur.length : Int) ≤ i
  · rw [if_pos h1, if_pos h1]
    exact (rput_arg h hl i np h1).mono fun _ _ hs => upost_same h hs
  · rw [if_neg h1, if_neg h1]
    obtain ⟨k, rfl⟩ : ∃ k : Nat, i = (k : Int) := ⟨i.toNat, by omega⟩
    have hk : k < D.dur.length := by omega
    by_cases h2 : p.length ≠ 512
    · rw [if_pos h2, if_pos h2]
      exact (rput_form h hl k np hk (by rw [← hp]; exact h2) hnl).mono fun _ _ hs => upost_same h hs
    · rw [if_neg h2, if_neg h2]
      have h512 : p.length = 512 := by omega
      obtain rfl : np = 512 := by omega
      by_cases h3 : D.off = true
      · rw [if_pos h3, if_pos h3]
        exact (rput_off h hl k hk h3).mono fun _ _ hs => upost_same h hs
      · rw [if_neg h3, if_neg h3, Int.toNat_natCast]
        exact rput_any h hl (by simpa using h3) b.pen b.ops b.arm k hk p h512 hP hB
theorem sync_uni (h : DiskAt B w g gd gn A c D) (b : Bd D) (hB : B ≤ w.heap.size) : Calls Try.prog 22 #[.pointer (some ⟨g, 0, none⟩)] w (DPost B g gd gn w A (.int .i64 (sE D)) (sD D)) := by
  unfold sE sD
  by_cases h3 : D.off = true
  · rw [if_pos h3, if_pos h3]
    exact (sync_off h h3).mono fun _ _ hs => dpost_same h hs
  · rw [if_neg h3, if_neg h3]
    have hoff : D.off = false := by simpa using h3
    by_cases h1 : D.arm = 1
    · rw [if_pos h1, if_pos h1]
      exact sync_fall h hoff h1 b.ops
    · rw [if_neg h1, if_neg h1]
      exact sync_any h b.ok hoff h1 b.arm b.pen b.ops hB
theorem rsync_uni (h : RefAt B w gx gl cl AX cx rest D) (b : Bd D) (hB : B ≤ w.heap.size) : Calls Try.prog 25 #[.pointer (some ⟨gx, 0, none⟩)] w (UPost B gx w (.int .i64 (sE D)) (sD D)) := by
  unfold sE sD
  by_cases h3 : D.off = true
  · rw [if_pos h3, if_pos h3]
    exact (rsync_off h h3).mono fun _ _ hs => upost_same h hs
  · rw [if_neg h3, if_neg h3]
    have hoff : D.off = false := by simpa using h3
    by_cases h1 : D.arm = 1
    · rw [if_pos h1, if_pos h1]
      exact rsync_fall h hoff h1 b.ops
    · rw [if_neg h1, if_neg h1]
      exact rsync_any h b.ok hoff h1 b.arm b.pen b.ops hB
/-- What Read leaves. -/
def RdPost (w : World) (D : Dk) (i : Int) (e : Ending) (w' : World) : Prop := ∃ v, e = .returned (.tuple #[v, .int .i64 (gE D i)]) ∧ Bytes (gB D i) w' v ∧ Ext w w'
theorem at_len (b : Bd D) (k : Nat) (hk : k < D.dur.length) : (D.at k).length = 512 := by
  unfold Dk.at
  split
  · rw [List.getD_eq_getElem?_getD, List.getElem?_eq_getElem hk]
    exact b.ok.dur _ (List.getElem_mem _)
  · rename_i h0
    rcases lastP_at D.pen.length D.pen k rfl with h | ⟨s, h1, h2, h3⟩
    · exact absurd h h0
    · rw [List.getD_eq_getElem?_getD, h1]
      exact (b.ok.pen _ (List.mem_of_getElem? h1)).2
theorem read_uni (h : DiskAt B w g gd gn A c D) (b : Bd D) (i : Int) : Calls Try.prog 18 #[.pointer (some ⟨g, 0, none⟩), .int .i64 i] w (RdPost w D i) := by
  unfold RdPost gE gB
  by_cases h1 : i < 0 ∨ (D.dur.length : Int) ≤ i
  · rw [if_pos h1, if_pos h1]
    refine (read_arg h i h1).mono fun e w' hs => ?_
    obtain ⟨rfl, rfl⟩ := hs
    exact ⟨_, rfl, ⟨none, 0, rfl, Nat.le_refl _, Rd.nil _ _⟩, Ext.refl _⟩
  · rw [if_neg h1, if_neg h1]
    obtain ⟨k, rfl⟩ : ∃ k : Nat, i = (k : Int) := ⟨i.toNat, by omega⟩
    have hk : k < D.dur.length := by omega
    by_cases h3 : D.off = true
    · rw [if_pos h3, if_pos h3]
      refine (read_off h h3 (k : Int) (by omega) (by omega)).mono fun e w' hs => ?_
      obtain ⟨rfl, rfl⟩ := hs
      exact ⟨_, rfl, ⟨none, 0, rfl, Nat.le_refl _, Rd.nil _ _⟩, Ext.refl _⟩
    · rw [if_neg h3, if_neg h3, Int.toNat_natCast]
      refine (read_any h b.ok (by simpa using h3) (by have := b.pen; omega) k hk).mono fun e w' hs => ?_
      obtain ⟨hh, rfl, hr, _, hx⟩ := hs
      have hl := at_len b k hk
      exact ⟨_, rfl, ⟨some ⟨hh, 0, none⟩, 512, by rw [hl], by rw [hl]; exact Nat.le_refl _, Rd.of_rw hr⟩, hx⟩
theorem get_uni (h : RefAt B w gx gl cl AX cx rest D) (b : Bd D) (i : Int) : Calls Try.prog 19 #[.pointer (some ⟨gx, 0, none⟩), .int .i64 i] w (Same w (.tuple #[.string ⟨(gB D i).toArray⟩, .int .i64 (gE D i)])) := by
  have hl := b.ok.max
  unfold gE gB
  by_cases h1 : i < 0 ∨ (D.dur.length : Int) ≤ i
  · rw [if_pos h1, if_pos h1]
    exact rget_arg h hl i h1
  · rw [if_neg h1, if_neg h1]
    obtain ⟨k, rfl⟩ : ∃ k : Nat, i = (k : Int) := ⟨i.toNat, by omega⟩
    have hk : k < D.dur.length := by omega
    by_cases h3 : D.off = true
    · rw [if_pos h3, if_pos h3]
      exact rget_off h hl k hk h3
    · rw [if_neg h3, if_neg h3, Int.toNat_natCast]
      exact rget_any h hl (by simpa using h3) b.pen k hk
theorem wD_bd (b : Bd D) (hp : D.pen.length < 900000) (ho : D.ops < 900000) (i : Int) (p : List UInt8) : Bd (wD D i p) ∧ (wD D i p).pen.length ≤ D.pen.length + 1 ∧ (wD D i p).ops ≤ D.ops + 1 ∧ (wD D i p).dur.length = D.dur.length := by
  unfold wD
  split
  · exact ⟨b, by omega, by omega, rfl⟩
  · rename_i h1
    split
    · exact ⟨b, by omega, by omega, rfl⟩
    · rename_i h2
      split
      · exact ⟨b, by omega, by omega, rfl⟩
      · have hk : i.toNat < D.dur.length := by omega
        refine ⟨⟨⟨b.ok.pos, b.ok.max, b.ok.dur, fun x hx => ?_⟩, ?_, ?_, ?_⟩, ?_, Nat.le_refl _, rfl⟩
        · have hx : x ∈ D.pen ++ [(i.toNat, p)] := hx
          rcases List.mem_append.1 hx with hx | hx
          · exact b.ok.pen x hx
          · rw [List.mem_singleton.1 hx]; exact ⟨hk, by simpa using h2⟩
        · show (D.pen ++ [(i.toNat, p)]).length < 1000000
          rw [List.length_append, List.length_singleton]; omega
        · show D.ops + 1 < 1000000
          omega
        · show D.arm - 1 < 9223372036854775808
          have := b.arm; omega
        · show (D.pen ++ [(i.toNat, p)]).length ≤ D.pen.length + 1
          rw [List.length_append, List.length_singleton]; omega
theorem settled_bd (b : Bd D) (kept : Nat → Bool) (ar : Nat) (har : ar < 9223372036854775808) (op : Nat) (hop : op < 1000000) (f : Bool) : Bd ⟨durK kept D.dur D.pen D.pen.length, [], op, ar, f⟩ :=
  ⟨⟨by show 1 ≤ (durK kept D.dur D.pen D.pen.length).length; rw [durK_len]; exact b.ok.pos, by show (durK kept D.dur D.pen D.pen.length).length ≤ 4096; rw [durK_len]; exact b.ok.max, durK_lens b.ok.dur b.ok.pens _, fun x hx => (List.not_mem_nil hx).elim⟩, by show (0 : Nat) < 1000000; decide, hop, har⟩
theorem sD_bd (b : Bd D) (ho : D.ops < 900000) : Bd (sD D) ∧ (sD D).pen.length ≤ D.pen.length + 1 ∧ (sD D).ops ≤ D.ops + 1 ∧ (sD D).dur.length = D.dur.length := by
  unfold sD
  split
  · exact ⟨b, by omega, by omega, rfl⟩
  · split
    · exact ⟨⟨Dk.op_ok b.ok, b.pen, by show D.ops + 1 < 1000000; omega, by show D.arm - 1 < 9223372036854775808; have := b.arm; omega⟩, by show D.pen.length ≤ _; omega, Nat.le_refl _, rfl⟩
    · exact ⟨settled_bd b _ _ (by show D.arm - 1 < 9223372036854775808; have := b.arm; omega) _ (by show D.ops + 1 < 1000000; omega) _, by show (0 : Nat) ≤ _; omega, Nat.le_refl _, durK_len (fun _ => true) D.dur D.pen D.pen.length⟩
theorem fallen_bd (b : Bd D) (keep : List Bool) : Bd (D.fallen keep) ∧ (D.fallen keep).pen.length ≤ D.pen.length + 1 ∧ (D.fallen keep).ops ≤ D.ops + 1 ∧ (D.fallen keep).dur.length = D.dur.length :=
  ⟨settled_bd b _ 0 (by decide) _ b.ops _, by show (0 : Nat) ≤ _; omega, by show D.ops ≤ _; omega, durK_len (fun k => keep.getD k false) D.dur D.pen D.pen.length⟩
end
end Go.Proofs.Ytmabminjmcjafaa

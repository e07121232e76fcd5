/-
  The reader of the codec: value, whole, of rows and of keys.
  What reads is done, and what gives up is answered: caught.
  The reader of the codec: row.
  What is written is read: values in a row.
  Decode of any bytes.
-/
import Derived.Defers
import Derived.Recover
import Derived.Test.YtpdikmcaihlbaaaDoorPkCdE21
import Derived.Test.YtpdikmcaihlbaaaDoorPkCdE24
set_option linter.unusedVariables false
set_option linter.unusedSimpArgs false

namespace Go.Proofs.YtpdikmcaihlbaaaDoor
open Go.RowKit

/-- What stands at a place, before it is asked whether it is a value. -/
def rawAt (txt : List UInt8 → Nat → Option (List UInt8 × Nat)) (l : List UInt8) (a : Nat) (x : UInt8) : Option (Vl × Nat) :=
  if x.toNat = 1 then (if a + 1 + 8 ≤ l.length then some ((1, numAt l (a + 1), noS), a + 1 + 8) else none)
  else if x.toNat = 2 then (match txt l (a + 1) with | some r => some ((2, 0, ⟨r.1.toArray⟩), r.2) | none => none)
  else if x.toNat = 3 then (match l[a + 1]? with | some y => some ((3, (y.toNat : Int), noS), a + 1 + 1) | none => none)
  else some (((x.toNat : Int), 0, noS), a + 1)
/-- The value at a place, and the place behind it. -/
def valAt (txt : List UInt8 → Nat → Option (List UInt8 × Nat)) (l : List UInt8) (a : Nat) : Option (Vl × Nat) :=
  match l[a]? with
  | none => none
  | some x => match rawAt txt l a x with
    | none => none
    | some r => if vOk r.1 = true then some r else none
/-- A text up to its end. -/
def keyAt (l : List UInt8) (a : Nat) : Option (List UInt8 × Nat) := match parse (l.drop a) with | some r => some (r.1, a + r.2) | none => none
def valC (v : Vl) : Value := .agg #[.int .u8 v.1, .int .i64 v.2.1, .string v.2.2]
theorem numAt_range (l : List UInt8) (a : Nat) (_h : a + 8 ≤ l.length) : -9223372036854775808 ≤ numAt l a ∧ numAt l a < 9223372036854775808 := by
  have h1 := num_take_lt8 (l.drop a)
  unfold numAt
  omega
theorem txtAt_len {l : List UInt8} {a k : Nat} {tx : List UInt8} (h : txtAt l a = some (tx, k)) : tx.length ≤ l.length ∧ k ≤ l.length ∧ a < k := by
  unfold txtAt at h
  split at h
  · cases h
  · split at h
    · simp only [Option.some.injEq, Prod.mk.injEq] at h
      obtain ⟨rfl, rfl⟩ := h
      simp; omega
    · cases h
set_option maxHeartbeats 1600000 in
theorem value_rows (g : Nat) (A : Option Addr) (l : List UInt8) (n c a : Nat) (w0 w : World) (hr0 : Rd w0 A l) (hx : Ext w0 w) (hg : w0.heap.size ≤ g) (hgw : g < w.heap.size) (hn : l.length = n) (hnc : n ≤ c) (hl : n ≤ 140737488351232) (han : a ≤ n) (hR : RdrC w g A n c a) (hT : Tabs w0) :
    Calls Tryd.prog 38 #[.pointer (some ⟨g, 0, none⟩), .func (.func 50) #[.pointer (some ⟨g, 0, none⟩)] #[]] w (OneC w g A n c (match valAt txtAt l a with | some r => some (valC r.1, r.2) | none => none)) := by
  unfold valAt
  cases h0 : l[a]? with
  | none => exact value_none g A l n c a _ w0 w hr0 hx hg hgw hn hnc hl han hR hT h0
  | some x =>
    have hal : a < l.length := (List.getElem?_eq_some_iff.1 h0).1
    simp only
    unfold rawAt
    by_cases h1 : x.toNat = 1
    · rw [if_pos h1]
      by_cases h8 : a + 1 + 8 ≤ n
      · rw [if_pos (by omega)]
        have h2 := value_int g A l n c a (.func (.func 50) #[.pointer (some ⟨g, 0, none⟩)] #[]) w0 w hr0 hx hg hgw hn hnc hl han hR hT x h0 h1 (numAt l (a + 1)) ⟨h8, rfl, numAt_range l (a + 1) (by omega)⟩
        simp only at h2 ⊢
        split at h2
        · rename_i hv; rw [if_pos hv]; exact h2
        · rename_i hv; rw [if_neg hv]; exact h2
      · rw [if_neg (by omega)]
        exact value_int_no g A l n c a _ w0 w hr0 hx hg hgw hn hnc hl han hR hT x h0 h1 h8
    · rw [if_neg h1]
      by_cases h2 : x.toNat = 2
      · rw [if_pos h2]
        cases ht : txtAt l (a + 1) with
        | none => exact value_row_no g A l n c a w0 w hr0 hx hg hgw hn hnc hl han hR hT x h0 h2 (fun W hW hRW => rowText_no g A l n c (a + 1) w0 W hr0 hW hg hn hnc hl (by omega) hRW ht)
        | some r =>
          obtain ⟨tx, k⟩ := r
          have h3 := value_row g A l n c a w0 w hr0 hx hg hgw hn hnc hl han hR hT x h0 h2 tx k (by have := (txtAt_len ht).1; omega) (fun W hW hRW => rowText_yes g A l n c (a + 1) w0 W hr0 hW hg hn hnc hl (by omega) hRW tx k ht)
          simp only at h3 ⊢
          split at h3
          · rename_i hv; rw [if_pos hv]; exact h3
          · rename_i hv; rw [if_neg hv]; exact h3
      · rw [if_neg h2]
        by_cases h3 : x.toNat = 3
        · rw [if_pos h3]
          cases hy : l[a + 1]? with
          | none => exact value_bool_no g A l n c a _ w0 w hr0 hx hg hgw hn hnc hl han hR hT x h0 h3 hy
          | some y =>
            have h4 := value_bool g A l n c a (.func (.func 50) #[.pointer (some ⟨g, 0, none⟩)] #[]) w0 w hr0 hx hg hgw hn hnc hl han hR hT x h0 h3 y hy
            simp only at h4 ⊢
            split at h4
            · rename_i hv; rw [if_pos hv]; exact h4
            · rename_i hv; rw [if_neg hv]; exact h4
        · rw [if_neg h3]
          have h4 := value_else g A l n c a (.func (.func 50) #[.pointer (some ⟨g, 0, none⟩)] #[]) w0 w hr0 hx hg hgw hn hnc hl han hR hT x h0 h1 h2 h3
          simp only at h4 ⊢
          split at h4
          · rename_i hv; rw [if_pos hv]; exact h4
          · rename_i hv; rw [if_neg hv]; exact h4
theorem parse_len' : ∀ (m : Nat) (l : List UInt8), l.length ≤ m → ∀ (t : List UInt8) (k : Nat), parse l = some (t, k) → t.length ≤ l.length ∧ k ≤ l.length ∧ 0 < k
  | _, [], _, t, k, h => by simp [parse] at h
  | _, [_], _, t, k, h => by simp [parse] at h
  | 0, _ :: _ :: _, hm, _, _, _ => by simp at hm
  | m + 1, b :: c :: l, hm, t, k, h => by
    simp only [List.length_cons] at hm
    unfold parse at h
    split at h
    · cases hp : parse (c :: l) with
      | none => rw [hp] at h; simp at h
      | some r =>
        rw [hp] at h
        simp only [Option.map_some, Option.some.injEq, Prod.mk.injEq] at h
        obtain ⟨rfl, rfl⟩ := h
        have := parse_len' m (c :: l) (by simp; omega) r.1 r.2 hp
        simp only [List.length_cons] at this ⊢
        omega
    · split at h
      · cases hp : parse l with
        | none => rw [hp] at h; simp at h
        | some r =>
          rw [hp] at h
          simp only [Option.map_some, Option.some.injEq, Prod.mk.injEq] at h
          obtain ⟨rfl, rfl⟩ := h
          have := parse_len' m l (by omega) r.1 r.2 hp
          simp only [List.length_cons] at this ⊢
          omega
      · split at h
        · simp only [Option.some.injEq, Prod.mk.injEq] at h
          obtain ⟨rfl, rfl⟩ := h
          simp
        · cases h
theorem parse_len (l : List UInt8) (t : List UInt8) (k : Nat) (h : parse l = some (t, k)) : t.length ≤ l.length ∧ k ≤ l.length ∧ 0 < k := parse_len' l.length l (Nat.le_refl _) t k h
set_option maxHeartbeats 1600000 in
theorem value_keys (g : Nat) (A : Option Addr) (l : List UInt8) (n c a : Nat) (w0 w : World) (hr0 : Rd w0 A l) (hx : Ext w0 w) (hg : w0.heap.size ≤ g) (hgw : g < w.heap.size) (hn : l.length = n) (hnc : n ≤ c) (hl : n ≤ 140737488351232) (han : a ≤ n) (hR : RdrC w g A n c a) (hT : Tabs w0) :
    Calls Tryd.prog 38 #[.pointer (some ⟨g, 0, none⟩), .func (.func 39) #[.pointer (some ⟨g, 0, none⟩)] #[]] w (OneC w g A n c (match valAt keyAt l a with | some r => some (valC r.1, r.2) | none => none)) := by
  unfold valAt
  cases h0 : l[a]? with
  | none => exact value_none g A l n c a _ w0 w hr0 hx hg hgw hn hnc hl han hR hT h0
  | some x =>
    have hal : a < l.length := (List.getElem?_eq_some_iff.1 h0).1
    simp only
    unfold rawAt
    by_cases h1 : x.toNat = 1
    · rw [if_pos h1]
      by_cases h8 : a + 1 + 8 ≤ n
      · rw [if_pos (by omega)]
        have h2 := value_int g A l n c a (.func (.func 39) #[.pointer (some ⟨g, 0, none⟩)] #[]) w0 w hr0 hx hg hgw hn hnc hl han hR hT x h0 h1 (numAt l (a + 1)) ⟨h8, rfl, numAt_range l (a + 1) (by omega)⟩
        simp only at h2 ⊢
        split at h2
        · rename_i hv; rw [if_pos hv]; exact h2
        · rename_i hv; rw [if_neg hv]; exact h2
      · rw [if_neg (by omega)]
        exact value_int_no g A l n c a _ w0 w hr0 hx hg hgw hn hnc hl han hR hT x h0 h1 h8
    · rw [if_neg h1]
      by_cases h2 : x.toNat = 2
      · rw [if_pos h2]
        have KT : ∀ W, Ext w0 W → RdrC W g A n c (a + 1) → Calls Tryd.prog 39 #[.pointer (some ⟨g, 0, none⟩)] W (OneC W g A n c (match parse (l.drop (a + 1)) with | some r => some (.string ⟨r.1.toArray⟩, a + 1 + r.2) | none => none)) := fun W hW hRW => keyText_any g A l n c (a + 1) w0 W hr0 hW hn hnc hl (by omega) hRW
        unfold keyAt
        cases ht : parse (l.drop (a + 1)) with
        | none =>
          rw [ht] at KT
          exact value_key_no g A l n c a w0 w hr0 hx hg hgw hn hnc hl han hR hT x h0 h2 KT
        | some r =>
          obtain ⟨tx, k⟩ := r
          rw [ht] at KT
          have h3 := value_key g A l n c a w0 w hr0 hx hg hgw hn hnc hl han hR hT x h0 h2 tx (a + 1 + k) (by have h5 := (parse_len _ _ _ ht).1; simp only [List.length_drop] at h5; omega) KT
          simp only at h3 ⊢
          split at h3
          · rename_i hv; rw [if_pos hv]; exact h3
          · rename_i hv; rw [if_neg hv]; exact h3
      · rw [if_neg h2]
        by_cases h3 : x.toNat = 3
        · rw [if_pos h3]
          cases hy : l[a + 1]? with
          | none => exact value_bool_no g A l n c a _ w0 w hr0 hx hg hgw hn hnc hl han hR hT x h0 h3 hy
          | some y =>
            have h4 := value_bool g A l n c a (.func (.func 39) #[.pointer (some ⟨g, 0, none⟩)] #[]) w0 w hr0 hx hg hgw hn hnc hl han hR hT x h0 h3 y hy
            simp only at h4 ⊢
            split at h4
            · rename_i hv; rw [if_pos hv]; exact h4
            · rename_i hv; rw [if_neg hv]; exact h4
        · rw [if_neg h3]
          have h4 := value_else g A l n c a (.func (.func 39) #[.pointer (some ⟨g, 0, none⟩)] #[]) w0 w hr0 hx hg hgw hn hnc hl han hR hT x h0 h1 h2 h3
          simp only at h4 ⊢
          split at h4
          · rename_i hv; rw [if_pos hv]; exact h4
          · rename_i hv; rw [if_neg hv]; exact h4
end Go.Proofs.YtpdikmcaihlbaaaDoor
namespace Go.Proofs.YtpdikmcaihlbaaaDoor
open Go.RowKit

theorem ta_gave (W : World) : (Instr.typeAssert (.iface 85 (.agg #[])) 20 85 true).run Tryd.prog W = .ok (.tuple #[.agg #[], .bool true]) W := by kernel_rfl
theorem gave_nil (W : World) : (binOp .eql 20 (.iface 85 (.agg #[])) .nilIface).run Tryd.prog W = .ok (.bool false) W := rfl
theorem nil_nil (W : World) : (binOp .eql 20 .nilIface .nilIface).run Tryd.prog W = .ok (.bool true) W := rfl
set_option maxRecDepth 20000 in
theorem caught1_panic (b : Nat) (x : Value) (older : List PanicEntry) (w : World) (hR : Rw w b 28 [x]) :
    CallsD Tryd.prog 47 #[.pointer (some ⟨b, 0, none⟩)] (.panicking ({ v := .iface 85 (.agg #[]), recovered := false } :: older)) w fun e u' w' =>
      e = .returned (.tuple #[]) ∧ u' = .panicking ({ v := .iface 85 (.agg #[]), recovered := true } :: older) ∧ w.grownBy w' (some b) ∧ Rw w' b 28 [.int .i64 3] := by
  have h1 := ta_gave
  have h2 := gave_nil
  have RA := Rw.alloc hR (.cells #[] 85)
  have c0 := RA.cell (i := 0) rfl
  have f0 := RA.frozen 0
  refine callsD_of_wpS Tryd.func47 rfl fun c₀ cs hu => ?_
  apply wpS_seq
  apply wpS_region
  simp [wpOpsS, go_sem, recoverD, hu, Tryd.ntmps47, Exit.thenS]
  refine wpS_of_wp ?_
  go_wp2
  simp only [bodyPostS]
  refine ⟨trivial, _, rfl, .tuple #[], results_none rfl _ _ _, rfl, rfl, ?_, RA.set 0 _⟩
  have hX := Ext.alloc w (.cells #[] 85)
  exact ⟨hX.os, hX.tape, hX.output, Nat.le_trans hX.size (by simp [World.setCell]), fun k hk hne => (Below.heap_setCell (w.alloc (.cells #[] 85)) ⟨b, 0, none⟩ _ k (fun e => hne (by simp only at e; rw [e]))).trans (hX.block k hk)⟩
set_option maxRecDepth 20000 in
theorem caught1_idle (b : Nat) (w : World) :
    CallsD Tryd.prog 47 #[.pointer (some ⟨b, 0, none⟩)] .returning w fun e u' w' => e = .returned (.tuple #[]) ∧ u' = .returning ∧ w' = w := by
  have h2 := nil_nil
  refine callsD_of_wpS Tryd.func47 rfl fun c₀ cs hu => ?_
  apply wpS_seq
  apply wpS_region
  simp [wpOpsS, go_sem, recoverD, hu, Tryd.ntmps47, Exit.thenS]
  refine wpS_of_wp ?_
  go_wp2
  cases c₀
  simp_all [bodyPostS, results, Tryd.results47]
set_option maxRecDepth 20000 in
set_option maxHeartbeats 1600000 in
theorem caught_decode (cap : Array Value) (ok : Bool) (R : World → Prop) (w : World) (KR : Calls Tryd.prog 33 cap (w.alloc (.cells #[.int .i64 0] 28)) (fun e w' => (e = if ok = true then .returned (.tuple #[]) else .panicked [{ v := .iface 85 (.agg #[]), recovered := false }]) ∧ Rw w' w.heap.size 28 [.int .i64 0] ∧ R w')) :
    Calls Tryd.prog 32 #[.func (.func 33) #[] cap] w (fun e w' => e = .returned (.int .i64 (if ok = true then 0 else 3)) ∧ ∃ w1, R w1 ∧ w1.grownBy w' (some w.heap.size)) := by
  have hmf : ∀ (fn : Fn) (first cap : Array Value) (w : World), (Instr.makeFunc fn first cap).run Tryd.prog w = .ok (.func fn first cap) w := fun _ _ _ _ => rfl
  cases ok with
  | true =>
    have KR := hide KR
    go_enter_defers Tryd.func32, Tryd.ntmps32
    go_wp2_with (go_at_call 33; (with_reducible refine KR.out.mono ?_); rintro e w2 ⟨rfl, hr2, hR⟩; have c0 := hr2.cell (i := 0) rfl; have f0 := hr2.frozen 0)
    have hr3 := hr2.set 0 (.int .i64 0)
    refine leaves_cons (f := 47) (args := #[.pointer (some ⟨w.heap.size, 0, none⟩)]) (by simp) (by simp [go_sem]) ?_
    refine (caught1_idle w.heap.size _).mono ?_
    rintro e u' w'' ⟨rfl, rfl, rfl⟩
    have c3 := hr3.cell (i := 0) rfl
    simp [Leaves, settle, results, Tryd.results32, go_sem, c3]
    exact ⟨w2, hR, ⟨rfl, rfl, rfl, by simp [World.setCell], fun k hk hne => Below.heap_setCell w2 ⟨w.heap.size, 0, none⟩ _ k (fun e => hne (by simp only at e; rw [e]))⟩⟩
  | false =>
    have KR := hide KR
    go_enter_defers Tryd.func32, Tryd.ntmps32
    go_wp2_with (go_at_call 33; (with_reducible refine KR.out.mono ?_); rintro e w2 ⟨rfl, hr2, hR⟩)
    refine leaves_cons (f := 47) (args := #[.pointer (some ⟨w.heap.size, 0, none⟩)]) (by simp) (by simp [go_sem]) ?_
    refine (caught1_panic w.heap.size _ [] w2 hr2).mono ?_
    rintro e u' w'' ⟨rfl, rfl, hg3, hr3⟩
    have c3 := hr3.cell (i := 0) rfl
    simp [Leaves, settle, results, Tryd.results32, go_sem, c3]
    exact ⟨w2, hR, hg3⟩
set_option maxRecDepth 20000 in
set_option maxHeartbeats 1600000 in
theorem caught_key (cap : Array Value) (ok : Bool) (R : World → Prop) (w : World) (KR : Calls Tryd.prog 37 cap (w.alloc (.cells #[.int .i64 0] 28)) (fun e w' => (e = if ok = true then .returned (.tuple #[]) else .panicked [{ v := .iface 85 (.agg #[]), recovered := false }]) ∧ Rw w' w.heap.size 28 [.int .i64 0] ∧ R w')) :
    Calls Tryd.prog 32 #[.func (.func 37) #[] cap] w (fun e w' => e = .returned (.int .i64 (if ok = true then 0 else 3)) ∧ ∃ w1, R w1 ∧ w1.grownBy w' (some w.heap.size)) := by
  have hmf : ∀ (fn : Fn) (first cap : Array Value) (w : World), (Instr.makeFunc fn first cap).run Tryd.prog w = .ok (.func fn first cap) w := fun _ _ _ _ => rfl
  cases ok with
  | true =>
    have KR := hide KR
    go_enter_defers Tryd.func32, Tryd.ntmps32
    go_wp2_with (go_at_call 37; (with_reducible refine KR.out.mono ?_); rintro e w2 ⟨rfl, hr2, hR⟩; have c0 := hr2.cell (i := 0) rfl; have f0 := hr2.frozen 0)
    have hr3 := hr2.set 0 (.int .i64 0)
    refine leaves_cons (f := 47) (args := #[.pointer (some ⟨w.heap.size, 0, none⟩)]) (by simp) (by simp [go_sem]) ?_
    refine (caught1_idle w.heap.size _).mono ?_
    rintro e u' w'' ⟨rfl, rfl, rfl⟩
    have c3 := hr3.cell (i := 0) rfl
    simp [Leaves, settle, results, Tryd.results32, go_sem, c3]
    exact ⟨w2, hR, ⟨rfl, rfl, rfl, by simp [World.setCell], fun k hk hne => Below.heap_setCell w2 ⟨w.heap.size, 0, none⟩ _ k (fun e => hne (by simp only at e; rw [e]))⟩⟩
  | false =>
    have KR := hide KR
    go_enter_defers Tryd.func32, Tryd.ntmps32
    go_wp2_with (go_at_call 37; (with_reducible refine KR.out.mono ?_); rintro e w2 ⟨rfl, hr2, hR⟩)
    refine leaves_cons (f := 47) (args := #[.pointer (some ⟨w.heap.size, 0, none⟩)]) (by simp) (by simp [go_sem]) ?_
    refine (caught1_panic w.heap.size _ [] w2 hr2).mono ?_
    rintro e u' w'' ⟨rfl, rfl, hg3, hr3⟩
    have c3 := hr3.cell (i := 0) rfl
    simp [Leaves, settle, results, Tryd.results32, go_sem, c3]
    exact ⟨w2, hR, hg3⟩
end Go.Proofs.YtpdikmcaihlbaaaDoor
namespace Go.Proofs.YtpdikmcaihlbaaaDoor
open Go.RowKit

def vvs (L : List Vl) : List Value := L.flatMap fun x => [.int .u8 x.1, .int .i64 x.2.1, .string x.2.2]
theorem vvs_append (a b : List Vl) : vvs (a ++ b) = vvs a ++ vvs b := List.flatMap_append
theorem vvs_get : ∀ (L : List Vl) (j : Nat) (x : Vl), L[j]? = some x → (vvs L)[j * 3]? = some (.int .u8 x.1) ∧ (vvs L)[j * 3 + 1]? = some (.int .i64 x.2.1) ∧ (vvs L)[j * 3 + 2]? = some (.string x.2.2)
  | [], _, _, h => by cases h
  | x :: L, 0, d, h => by injection h with h; subst h; exact ⟨rfl, rfl, rfl⟩
  | x :: L, j + 1, d, h => by
    have ih := vvs_get L j d h
    have e : vvs (x :: L) = .int .u8 x.1 :: .int .i64 x.2.1 :: .string x.2.2 :: vvs L := rfl
    rw [e, show (j + 1) * 3 = j * 3 + 1 + 1 + 1 by omega]
    exact ih
/-- Values of the call's own. -/
def OwnV (w : World) (B : Nat) (v : Value) (L : List Vl) : Prop := w.ownsRow B 26 3 v L.length (vvs L)
theorem OwnV.nil (w : World) (B : Nat) : OwnV w B (.slice none 0 0) [] := World.ownsRow_nil _ _ _ _
theorem OwnV.same {w w' : World} {B : Nat} {v : Value} {L : List Vl} (h : OwnV w B v L) (hx : ∀ k, v.ownBlock = some k → w'.heap[k]? = w.heap[k]?) : OwnV w' B v L := by
  refine ⟨h.1, ?_⟩
  rcases h.2 with hn | ⟨g, cap, cur, rfl, hb, hg, rest⟩
  · exact .inl hn
  · exact .inr ⟨g, cap, cur, rfl, hb, (hx g rfl).trans hg, rest⟩
theorem OwnV.at {w : World} {B : Nat} {v : Value} {L : List Vl} (h : OwnV w B v L) (k : Nat) (hk : v.ownBlock = some k) : B ≤ k ∧ k < w.heap.size := by
  rcases h.2 with ⟨rfl, _⟩ | ⟨g, cap, cur, rfl, hb, hg, _⟩
  · cases hk
  · injection hk with hk
    subst hk
    exact ⟨hb, (Array.getElem?_eq_some_iff.1 hg).1⟩
theorem OwnV.ext {w w' : World} {B : Nat} {v : Value} {L : List Vl} (h : OwnV w B v L) (hx : Ext w w') : OwnV w' B v L := h.same fun k hk => hx.block k (h.at k hk).2
theorem OwnV.grown {w w' : World} {B g : Nat} {v : Value} {L : List Vl} (h : OwnV w B v L) (hg : g < B) (hx : w.grownBy w' (some g)) : OwnV w' B v L := h.same fun k hk => hx.block k (h.at k hk).2 (fun e => by injection e with e; have := (h.at k hk).1; omega)
theorem OwnV.slice {w : World} {B : Nat} {v : Value} {L : List Vl} (h : OwnV w B v L) : ∃ A c, v = .slice A L.length c ∧ L.length ≤ c ∧ RdV w A L := by
  rcases h.2 with ⟨rfl, h0⟩ | ⟨g, cap, cur, rfl, hb, hg, hnc, _⟩
  · exact ⟨none, 0, by rw [h0], by rw [h0]; exact Nat.le_refl _, fun hn => absurd (List.length_eq_zero_iff.1 h0) hn⟩
  · refine ⟨_, cap, rfl, hnc, fun _ => ⟨g, 0, rfl, fun j d hj => ?_⟩⟩
    obtain ⟨e1, e2, e3⟩ := vvs_get L j d hj
    have c1 := h.cells (g := g) rfl (j * 3) _ e1
    have c2 := h.cells (g := g) rfl (j * 3 + 1) _ e2
    have c3 := h.cells (g := g) rfl (j * 3 + 2) _ e3
    rw [add_flat] at c1 c2 c3
    exact ⟨c1, c2, c3⟩
theorem info_val : (Tryd.prog.info? 26).map (fun i => (i.zero, i.size, i.bytes)) = some (some (.agg #[.int .u8 0, .int .i64 0, .string ⟨#[]⟩]), 3, 32) := by kernel_rfl
theorem info_partsV : ∃ i0, Tryd.prog.info? 26 = some i0 ∧ i0.zero = some (.agg #[.int .u8 0, .int .i64 0, .string ⟨#[]⟩]) ∧ i0.size = 3 ∧ i0.bytes = 32 := by
  have h := info_val
  cases hq : Tryd.prog.info? 26 with
  | none => rw [hq] at h; cases h
  | some i =>
    rw [hq] at h
    simp only [Option.map_some, Option.some.injEq, Prod.mk.injEq] at h
    exact ⟨i, rfl, h.1, h.2.1, h.2.2⟩
section
variable {ops : Array Oper} {rest : List Oper} {o : Oper} {a : Act} {Q : Exit → Act → World → Prop}
/-- 'l = append(l, v)', one value. -/
theorem wpList_pushV {w0 : World} (hgd : o.guard = none) (s x : Operand) (ho : o.op = .call { callee := .builtin .append, args := #[s, x], argTypes := #[22, 22] })
    (base : Nat) (v : Value) (L : List Vl) (d : Vl) (hs : a.eval s = v) (hx : a.eval x = .slice (some ⟨w0.heap.size, 0, none⟩) 1 1) (hown : OwnV w0 base v L) (hbase : base ≤ w0.heap.size) (hlen : L.length < 1000)
    (h : ∀ v' w', OwnV w' base v' (L ++ [d]) → w0.grownBy w' v.ownBlock → wpList Tryd.prog ops Q rest (a.put o.dst v') w') : wpList Tryd.prog ops Q (o :: rest) a (w0.alloc (.cells #[.int .u8 d.1, .int .i64 d.2.1, .string d.2.2] 26)) := by
  obtain ⟨i0, hi, hz, hsz, hby⟩ := info_partsV
  have R := Rw.new w0 26 [.int .u8 d.1, .int .i64 d.2.1, .string d.2.2]
  have hX := Ext.alloc w0 (.cells #[.int .u8 d.1, .int .i64 d.2.1, .string d.2.2] 26)
  have hown' : OwnV (w0.alloc (.cells #[.int .u8 d.1, .int .i64 d.2.1, .string d.2.2] 26)) base v L := hown.ext hX
  have hone : ∀ u ∈ [Value.int .u8 d.1, .int .i64 d.2.1, .string d.2.2], u.oneCell' = true := by
    intro u hu
    simp only [List.mem_cons, List.not_mem_nil, or_false] at hu
    rcases hu with rfl | rfl | rfl <;> rfl
  refine wpList_append_own _ hgd s x 22 ho base 26 i0 _ 3 32 Tryd.underlying22 hi hz hsz hby rfl (by decide) v L.length (vvs L) hs hown' ⟨w0.heap.size, 0, none⟩ 1 1 [.int .u8 d.1, .int .i64 d.2.1, .string d.2.2] hx rfl (fun j u hu => by rw [add_flat, Nat.zero_add]; exact R.cell hu) hone (by unfold maxLen; omega) (by omega) (Nat.le_trans hbase hX.size) ?_
  intro v' w' h2 h3 _
  refine h v' w' ?_ ⟨h3.os.trans hX.os, h3.tape.trans hX.tape, h3.output.trans hX.output, Nat.le_trans hX.size h3.size, fun k hk hne => (h3.block k (Nat.lt_of_lt_of_le hk hX.size) hne).trans (hX.block k hk)⟩
  unfold OwnV
  rw [vvs_append, List.length_append]
  exact h2
end
/-- So many values from a place on, and the place behind them. -/
def manyAt : Nat → List UInt8 → Nat → Option (List Vl × Nat)
  | 0, _, a => some ([], a)
  | k + 1, l, a => match manyAt k l a with
    | none => none
    | some r => match valAt txtAt l r.2 with
      | none => none
      | some q => some (r.1 ++ [q.1], q.2)
/-- The values that are all the bytes. -/
def rowAt (l : List UInt8) : Option (List Vl) := match l[0]? with
  | none => none
  | some x => if x.toNat ≤ 12 then (match manyAt x.toNat l 1 with
    | none => none
    | some r => if r.2 = l.length then some r.1 else none) else none
theorem manyAt_none (l : List UInt8) (a k : Nat) (h : manyAt k l a = none) : ∀ j, manyAt (k + j) l a = none
  | 0 => h
  | j + 1 => by
    show (match manyAt (k + j) l a with | none => none | some r => _) = none
    rw [manyAt_none l a k h j]
theorem valAt_le {l : List UInt8} {a : Nat} {q : Vl × Nat} (h : valAt txtAt l a = some q) : q.2 ≤ l.length ∧ a < q.2 := by
  unfold valAt at h
  cases h0 : l[a]? with
  | none => rw [h0] at h; cases h
  | some x =>
    rw [h0] at h
    have hal := (List.getElem?_eq_some_iff.1 h0).1
    simp only at h
    have hr : ∀ r, rawAt txtAt l a x = some r → r.2 ≤ l.length ∧ a < r.2 := by
      intro r hr
      unfold rawAt at hr
      split at hr
      · split at hr
        · injection hr with hr; subst hr; simp only; omega
        · cases hr
      · split at hr
        · cases ht : txtAt l (a + 1) with
          | none => rw [ht] at hr; cases hr
          | some y =>
            rw [ht] at hr
            injection hr with hr
            subst hr
            have := txtAt_len (tx := y.1) (k := y.2) ht
            simp only; omega
        · split at hr
          · cases hy : l[a + 1]? with
            | none => rw [hy] at hr; cases hr
            | some y =>
              rw [hy] at hr
              injection hr with hr
              subst hr
              have := (List.getElem?_eq_some_iff.1 hy).1
              simp only; omega
          · injection hr with hr; subst hr; simp only; omega
    cases hq : rawAt txtAt l a x with
    | none => rw [hq] at h; cases h
    | some r =>
      rw [hq] at h
      simp only at h
      split at h
      · injection h with h; subst h; exact hr r hq
      · cases h
/-- What row leaves. -/
def RowC (w : World) (g : Nat) (r : Option (List Vl)) (e : Ending) (w' : World) : Prop := w.grownBy w' (some g) ∧ match r with
  | none => e = .panicked [{ v := gaveUp, recovered := false }]
  | some L => ∃ v, e = .returned v ∧ OwnV w' w.heap.size v L
theorem worldG {w W : World} {r : Option Nat} (_ : Hid (w.grownBy W r)) : ∃ wr, wr = W := ⟨W, rfl⟩
theorem grown_to {w w1 w2 : World} {g : Nat} (h : w.grownBy w1 (some g)) {r : Option Nat} (h2 : w1.grownBy w2 r) (hr : ∀ b, r = some b → b = g ∨ w.heap.size ≤ b) : w.grownBy w2 (some g) :=
  ⟨h2.os.trans h.os, h2.tape.trans h.tape, h2.output.trans h.output, Nat.le_trans h.size h2.size, fun k hk hne => (h2.block k (Nat.lt_of_lt_of_le hk h.size) (fun e => (hr k e.symm).elim (fun h3 => hne (by rw [h3])) (fun h3 => by omega))).trans (h.block k hk hne)⟩
theorem ext_of_grown {w0 w w1 : World} {g : Nat} (hx : Ext w0 w) (h : w.grownBy w1 (some g)) (hg : w0.heap.size ≤ g) : Ext w0 w1 :=
  ⟨h.os.trans hx.os, h.tape.trans hx.tape, h.output.trans hx.output, Nat.le_trans hx.size h.size, fun j hj => (h.block j (Nat.lt_of_lt_of_le hj hx.size) (fun e => by injection e with e; omega)).trans (hx.block j hj)⟩
set_option maxRecDepth 20000 in
set_option maxHeartbeats 3200000 in
theorem row_any (g : Nat) (A : Option Addr) (l : List UInt8) (n c : Nat) (w0 w : World) (hr0 : Rd w0 A l) (hx : Ext w0 w) (hg : w0.heap.size ≤ g) (hgw : g < w.heap.size) (hn : l.length = n) (hnc : n ≤ c) (hl : n ≤ 140737488351232) (hR : RdrC w g A n c 0) (hT : Tabs w0) :
    Calls Tryd.prog 34 #[.pointer (some ⟨g, 0, none⟩)] w (RowC w g (rowAt l)) := by
  have hmf : ∀ (fn : Fn) (first cap : Array Value) (w : World), (Instr.makeFunc fn first cap).run Tryd.prog w = .ok (.func fn first cap) w := fun _ _ _ _ => rfl
  have hnI : (n : Int) ≤ 140737488351232 := by omega
  have KO := hide (one_any g A l n c 0 w0 w hr0 hx hg hn hnc hl (Nat.zero_le _) hR)
  obtain ⟨r, HR⟩ : ∃ r, Hid (rowAt l = r) := ⟨_, hide rfl⟩
  rw [HR.out]
  cases h0 : l[0]? with
  | none =>
    rw [h0] at KO
    obtain rfl : none = r := by rw [← HR.out]; unfold rowAt; rw [h0]
    go_enter Tryd.func34, Tryd.ntmps34
    go_wp2_with (go_at_call 48; (with_reducible refine KO.out.mono ?_); rintro e w2 ⟨hg2, rfl⟩)
    exact ⟨rfl, hg2, rfl⟩
  | some x =>
    rw [h0] at KO
    obtain ⟨k, HK⟩ : ∃ k, Hid (x.toNat = k) := ⟨_, hide rfl⟩
    have KO2 := hide (show Calls Tryd.prog 48 #[.pointer (some ⟨g, 0, none⟩)] w (OneC w g A n c (some (.int .u8 (k : Int), 1))) from by rw [← HK.out]; exact KO.out)
    have hk256 : (k : Int) < 256 := by have := HK.out; have := x.toNat_lt; omega
    have HL0 := hide h0
    clear KO h0
    by_cases hk : k ≤ 12
    · have hkI : (k : Int) ≤ 12 := by omega
      have KM := hide (fun (W : World) => must_any true W)
      have KM0 := hide (fun (W : World) => must_any false W)
      have HN1 := hide (show 1 ≤ n from by have := (List.getElem?_eq_some_iff.1 HL0.out).1; omega)
      have KV := hide (fun (a : Nat) (W : World) (hW : w.grownBy W (some g)) (ha : a ≤ n) (hRW : RdrC W g A n c a) => value_rows g A l n c a w0 W hr0 (ext_of_grown hx hW hg) hg (Nat.lt_of_lt_of_le hgw hW.size) hn hnc hl ha hRW hT)
      have HGW := hide hgw
      clear hR hx hr0 hT hg hgw
      go_enter Tryd.func34, Tryd.ntmps34
      go_upto_region 5 with (first
        | (go_at_call 48; (with_reducible refine KO2.out.mono ?_); rintro e w2 ⟨hg2, rfl, hr2⟩; have G2 := hide hg2; have R2 := hide (show Rw w2 g 62 [.slice A n c, .int .i64 ((1 : Nat) : Int)] from hr2))
        | (go_at_call 49; (with_reducible refine (KM.out _).mono ?_); rintro e x5 ⟨rfl, hx5⟩; have hx5 := hx5.symm; subst hx5))
      clear hmf
      have hmf : ∀ (fn : Fn) (first cap : Array Value) (w : World), (Instr.makeFunc fn first cap).run Tryd.prog w = .ok (.func fn first cap) w := fun _ _ _ _ => rfl
      go_loopw [4, 11] (fun ov iv wr => ∃ (i : Nat) (L : List Vl) (a : Nat), i ≤ k ∧ iv = .int .u8 (i : Int) ∧ Hid (manyAt i l 1 = some (L, a) ∧ a ≤ n ∧ L.length = i) ∧ Hid (OwnV wr w.heap.size ov L) ∧ Hid (Rw wr g 62 [.slice A n c, .int .i64 (a : Int)]) ∧ Hid (w.grownBy wr (some g))) (fun _ iv _ => k - (intOf iv).toNat)
      case atStart => exact ⟨0, [], 1, Nat.zero_le _, rfl, hide ⟨rfl, HN1.out, rfl⟩, hide (OwnV.nil _ _), R2, G2⟩
      case round =>
        obtain ⟨i, L, a, hi, rfl, HM, HO, HR1, HG⟩ := hrel
        obtain ⟨wr, HWR⟩ := worldG HG
        subst HWR
        have haI : (a : Int) ≤ 140737488351232 := by have := HM.out.2.1; omega
        by_cases hlt : i < k
        · have hii : (i : Int) < (k : Int) := by omega
          have hiI : (i : Int) ≤ 11 := by omega
          have KV1 := KV.out a wr HG.out HM.out.2.1 HR1.out
          cases hv : valAt txtAt l a with
          | none =>
            obtain rfl : none = r := by
              rw [← HR.out]
              unfold rowAt
              rw [HL0.out]
              simp only
              rw [HK.out, if_pos hk]
              have hm1 : manyAt (i + 1) l 1 = none := by
                show (match manyAt i l 1 with | none => none | some r => _) = none
                rw [HM.out.1]
                simp only
                rw [hv]
              have hm := manyAt_none l 1 (i + 1) hm1 (k - (i + 1))
              rw [show i + 1 + (k - (i + 1)) = k by omega] at hm
              rw [hm]
            rw [hv] at KV1
            have KV2 := hide (show Calls Tryd.prog 38 #[.pointer (some ⟨g, 0, none⟩), .func (.func 50) #[.pointer (some ⟨g, 0, none⟩)] #[]] wr (OneC wr g A n c none) from KV1)
            clear KV1
            go_wp2_with (go_at_call 38; (with_reducible refine KV2.out.mono ?_); rintro e w4 ⟨hg4, rfl⟩)
            exact ⟨rfl, grown_to HG.out hg4 (fun b hb => by injection hb with hb; exact .inl hb.symm), rfl⟩
          | some q =>
            obtain ⟨x1, a1⟩ := q
            rw [hv] at KV1
            have KV2 := hide (show Calls Tryd.prog 38 #[.pointer (some ⟨g, 0, none⟩), .func (.func 50) #[.pointer (some ⟨g, 0, none⟩)] #[]] wr (OneC wr g A n c (some (.agg #[.int .u8 x1.1, .int .i64 x1.2.1, .string x1.2.2], a1))) from KV1)
            have HM1 : Hid (manyAt (i + 1) l 1 = some (L ++ [x1], a1) ∧ a1 ≤ n ∧ (L ++ [x1]).length = i + 1) := hide ⟨by
              show (match manyAt i l 1 with | none => none | some r => _) = _
              rw [HM.out.1]
              simp only
              rw [hv], by rw [← hn]; exact (valAt_le hv).1, by rw [List.length_append, HM.out.2.2]; rfl⟩
            clear KV1
            go_upto_region 7 with (first
              | (go_at_call 38; (with_reducible refine KV2.out.mono ?_); rintro e w4 ⟨hg4, rfl, hr4⟩; have G4 := hide (grown_to HG.out hg4 (fun b hb => by injection hb with hb; exact .inl hb.symm)); have O4 := hide (HO.out.grown HGW.out hg4); have R4 := hide (show Rw w4 g 62 [.slice A n c, .int .i64 (a1 : Int)] from hr4))
              | (at_builtin; refine wpList_pushV (by rfl) (.tmp 13) (.tmp 18) rfl w.heap.size _ L x1 rfl rfl O4.out G4.out.size (by have := HM.out.2.2; omega) ?_; intro v5 w5 ho5 hg5; have G5 := hide (grown_to G4.out hg5 (fun b hb => .inr (O4.out.at b hb).1)); have O5 := hide ho5; have R5 := hide (show Rw w5 g 62 [.slice A n c, .int .i64 (a1 : Int)] from (hg5.block g R4.out.lt (fun e => by have := (O4.out.at g e.symm).1; have := HGW.out; omega)).trans R4.out)))
            go_wp2
            exact ⟨⟨i + 1, L ++ [x1], a1, by omega, by go_num, HM1, O5, R5, G5⟩, by simp [intOf]; omega⟩
        · obtain rfl : i = k := by omega
          have hii : ¬ (i : Int) < (i : Int) := by omega
          have HRR : Hid (r = if a = n then some L else none) := hide (by
            rw [← HR.out]
            unfold rowAt
            rw [HL0.out]
            simp only
            rw [HK.out, if_pos hk, HM.out.1]
            simp only
            rw [hn])
          have d0 := HR1.out.cell (i := 0) rfl
          have d1 := HR1.out.cell (i := 1) rfl
          go_upto_region 8 with fail
          by_cases han : a = n
          · have heq : ((a : Int) == (n : Int)) = true := by simp [han]
            obtain rfl : r = some L := by rw [HRR.out, if_pos han]
            go_cut [31] from 21 to 31 (fun _ wx => Ext wr wx)
            case first =>
              go_region_law (go_simp; go_at_call 49; (with_reducible refine (KM.out _).mono ?_); rintro e x ⟨rfl, rfl⟩)
              all_goals (go_wp2_with fail; go_meet; exact Ext.drew wr)
            case rest =>
              have G6 := grown_ext HG.out hcut
              have O6 := HO.out.ext hcut
              clear hcut
              go_wp2
              go_ret
              exact ⟨G6, _, rfl, O6⟩
          · have heq : ((a : Int) == (n : Int)) = false := by simp; omega
            obtain rfl : r = none := by rw [HRR.out, if_neg han]
            rename_i hK
            refine wp_region_spE (Nat.le_refl _) [Sp.is (.pointer (some ⟨g, 0, none⟩)), Sp.is (.pointer (some ⟨g, 0, none⟩)), Sp.is (.pointer (some ⟨g, 1, none⟩)), Sp.is (.int .i64 (a : Int)), Sp.is (.pointer (some ⟨g, 0, none⟩)), Sp.is (.pointer (some ⟨g, 0, none⟩)), Sp.is (.pointer (some ⟨g, 0, none⟩)), Sp.is (.slice A n c), Sp.is (.int .i64 (n : Int)), Sp.is (.bool false), Sp.never] (by kernel_rfl) (by kernel_rfl) ?_ ?_
            · refine ⟨?_, ?_, ?_, ?_, ?_, ?_, ?_, ?_, ?_, ?_, ?_, trivial⟩
              · intro az wz hx hB hk H
                refine .inl ⟨wanted_none rfl, ?_⟩
                refine gives_move rfl ?_
                rw [(ev (show az.tmps[0]? = some (.pointer (some ⟨g, 0, none⟩)) from hk 0 rfl))]
                exact ⟨Grw.refl _ _, rfl⟩
              · intro az wz hx hB hk H
                obtain ⟨v21, h21, s21⟩ := H 0 rfl _ rfl 21 rfl
                obtain rfl : v21 = .pointer (some ⟨g, 0, none⟩) := s21
                refine .inl ⟨wanted_none rfl, ?_⟩
                refine gives_of_run (w' := wz) (v := .pointer (some ⟨g, 0, none⟩)) ?_ ⟨Grw.refl _ _, rfl⟩
                simp [execOp, go_sem, h21]
              · intro az wz hx hB hk H
                obtain ⟨v22, h22, s22⟩ := H 1 rfl _ rfl 22 rfl
                obtain rfl : v22 = .pointer (some ⟨g, 0, none⟩) := s22
                refine .inl ⟨wanted_none rfl, ?_⟩
                refine gives_of_run (w' := wz) (v := .pointer (some ⟨g, 1, none⟩)) ?_ ⟨Grw.refl _ _, rfl⟩
                simp [execOp, go_sem, h22]
              · intro az wz hx hB hk H
                obtain ⟨v23, h23, s23⟩ := H 2 rfl _ rfl 23 rfl
                obtain rfl : v23 = .pointer (some ⟨g, 1, none⟩) := s23
                have hcc := hx.keeps.cell d1
                refine .inl ⟨wanted_none rfl, ?_⟩
                refine gives_of_run (w' := wz) (v := .int .i64 (a : Int)) ?_ ⟨Grw.refl _ _, rfl⟩
                simp [execOp, go_sem, h23, hcc]
              · intro az wz hx hB hk H
                refine .inl ⟨wanted_none rfl, ?_⟩
                refine gives_move rfl ?_
                rw [(ev (show az.tmps[0]? = some (.pointer (some ⟨g, 0, none⟩)) from hk 0 rfl))]
                exact ⟨Grw.refl _ _, rfl⟩
              · intro az wz hx hB hk H
                obtain ⟨v25, h25, s25⟩ := H 4 rfl _ rfl 25 rfl
                obtain rfl : v25 = .pointer (some ⟨g, 0, none⟩) := s25
                refine .inl ⟨wanted_none rfl, ?_⟩
                refine gives_of_run (w' := wz) (v := .pointer (some ⟨g, 0, none⟩)) ?_ ⟨Grw.refl _ _, rfl⟩
                simp [execOp, go_sem, h25]
              · intro az wz hx hB hk H
                obtain ⟨v26, h26, s26⟩ := H 5 rfl _ rfl 26 rfl
                obtain rfl : v26 = .pointer (some ⟨g, 0, none⟩) := s26
                refine .inl ⟨wanted_none rfl, ?_⟩
                refine gives_of_run (w' := wz) (v := .pointer (some ⟨g, 0, none⟩)) ?_ ⟨Grw.refl _ _, rfl⟩
                simp [execOp, go_sem, h26]
              · intro az wz hx hB hk H
                obtain ⟨v27, h27, s27⟩ := H 6 rfl _ rfl 27 rfl
                obtain rfl : v27 = .pointer (some ⟨g, 0, none⟩) := s27
                have hcc := hx.keeps.cell d0
                refine .inl ⟨wanted_none rfl, ?_⟩
                refine gives_of_run (w' := wz) (v := .slice A n c) ?_ ⟨Grw.refl _ _, rfl⟩
                simp [execOp, go_sem, h27, hcc]
              · intro az wz hx hB hk H
                obtain ⟨v28, h28, s28⟩ := H 7 rfl _ rfl 28 rfl
                obtain rfl : v28 = .slice A n c := s28
                refine .inl ⟨wanted_none rfl, ?_⟩
                refine gives_of_run (w' := wz) (v := .int .i64 (n : Int)) ?_ ⟨Grw.refl _ _, rfl⟩
                simp [execOp, go_sem, h28]
              · intro az wz hx hB hk H
                obtain ⟨v24, h24, s24⟩ := H 3 rfl _ rfl 24 rfl
                obtain rfl : v24 = .int .i64 (a : Int) := s24
                obtain ⟨v29, h29, s29⟩ := H 8 rfl _ rfl 29 rfl
                obtain rfl : v29 = .int .i64 (n : Int) := s29
                refine .inl ⟨wanted_none rfl, ?_⟩
                refine gives_of_run (w' := wz) (v := .bool false) ?_ ⟨Grw.refl _ _, rfl⟩
                simp [execOp, go_sem, h24, h29, heq]
              · intro az wz hx hB hk H
                obtain ⟨v30, h30, s30⟩ := H 9 rfl _ rfl 30 rfl
                obtain rfl : v30 = .bool false := s30
                refine .inr (.inr ⟨wanted_none rfl, fun K hdf => ?_⟩)
                refine wp_call_ends rfl Tryd.call49 (by simp only [List.map_toArray, List.map_cons, List.map_nil, ev h30]) ((KM0.out wz).mono ?_)
                rintro e w9 ⟨rfl, rfl⟩
                exact ⟨_, rfl, hdf, ⟨grown_ext HG.out ((Ext.refl _).grw hx), rfl⟩⟩
            · intro az wz hx hd hs hv hsame
              obtain ⟨v, _, hf⟩ := hv 10 _ 31 rfl rfl
              exact hf.elim
    · have hkI : ¬ (k : Int) ≤ 12 := by omega
      have hdk : decide ((k : Int) ≤ 12) = false := decide_eq_false hkI
      have KM0 := hide (fun (W : World) => must_any false W)
      obtain rfl : none = r := by
        rw [← HR.out]
        unfold rowAt
        rw [HL0.out]
        simp only
        rw [HK.out, if_neg hk]
      clear hR hx hr0 hT hg hgw
      go_enter Tryd.func34, Tryd.ntmps34
      go_wp2_with (first
        | (go_at_call 48; (with_reducible refine KO2.out.mono ?_); rintro e w2 ⟨hg2, rfl, hr2⟩)
        | (go_at_call 49; (with_reducible refine (KM0.out _).mono ?_); rintro e x5 ⟨rfl, hx5⟩; have hx5 := hx5.symm; subst hx5))
      exact ⟨rfl, hg2, rfl⟩
end Go.Proofs.YtpdikmcaihlbaaaDoor
namespace Go.Proofs.YtpdikmcaihlbaaaDoor
open Go.RowKit

theorem numAt_ord (a b : List UInt8) (n : Int) (h0 : -9223372036854775808 ≤ n) (h1 : n < 9223372036854775808) : numAt (a ++ ord64 n ++ b) a.length = n := by
  unfold numAt
  rw [List.append_assoc, List.drop_left, List.take_left' (show (ord64 n).length = 8 from rfl)]
  unfold ord64
  rw [num_be64 _ (by omega) (by omega)]
  omega
theorem vl_cases (x : Vl) (h : vOk x = true) (hb : VlIn x) : x = (0, 0, noS) ∨ (∃ n, x = (1, n, noS) ∧ -9223372036854775808 ≤ n ∧ n < 9223372036854775808) ∨ (∃ s, x = (2, 0, s) ∧ s.size ≤ 60 ∧ okT s = true) ∨ x = (3, 0, noS) ∨ x = (3, 1, noS) := by
  obtain ⟨k, n, s⟩ := x
  unfold vOk at h
  simp only at h
  by_cases h0 : k = 0
  · rw [if_pos h0] at h
    obtain ⟨rfl, rfl⟩ := of_decide_eq_true h
    exact .inl (by rw [h0])
  · rw [if_neg h0] at h
    by_cases h1 : k = 1
    · rw [if_pos h1] at h
      obtain rfl := of_decide_eq_true h
      exact .inr (.inl ⟨n, by rw [h1], hb.n.1, hb.n.2⟩)
    · rw [if_neg h1] at h
      by_cases h2 : k = 2
      · rw [if_pos h2] at h
        obtain ⟨rfl, hs, ho⟩ := of_decide_eq_true h
        exact .inr (.inr (.inl ⟨s, by rw [h2], hs, ho⟩))
      · rw [if_neg h2] at h
        by_cases h3 : k = 3
        · rw [if_pos h3] at h
          obtain ⟨hn, rfl⟩ := of_decide_eq_true h
          rcases hn with rfl | rfl
          · exact .inr (.inr (.inr (.inl (by rw [h3]))))
          · exact .inr (.inr (.inr (.inr (by rw [h3]))))
        · rw [if_neg h3] at h; cases h
theorem at_mid (a b : List UInt8) (x : UInt8) : (a ++ x :: b)[a.length]? = some x := by simp
theorem at_mid1 (a b : List UInt8) (x y : UInt8) : (a ++ x :: y :: b)[a.length + 1]? = some y := by
  rw [List.getElem?_append_right (by omega), show a.length + 1 - a.length = 1 by omega]
  rfl
theorem drop_mid (a d b : List UInt8) (x y : UInt8) : ((a ++ x :: y :: (d ++ b)).drop (a.length + 1 + 1)).take d.length = d := by
  rw [show a ++ x :: y :: (d ++ b) = (a ++ [x, y]) ++ (d ++ b) by simp, show a.length + 1 + 1 = (a ++ [x, y]).length by simp, List.drop_left, List.take_left' rfl]
theorem valAt_row (a b : List UInt8) (x : Vl) (h : vOk x = true) (hb : VlIn x) : valAt txtAt (a ++ rowV x ++ b) a.length = some (x, a.length + (rowV x).length) := by
  rcases vl_cases x h hb with rfl | ⟨n, rfl, h0, h1⟩ | ⟨s, rfl, hs, ho⟩ | rfl | rfl
  · have e : a ++ rowV (0, 0, noS) ++ b = a ++ 0 :: b := by simp [rowV]
    rw [e]
    unfold valAt
    rw [at_mid]
    rfl
  · have e : a ++ rowV (1, n, noS) ++ b = a ++ 1 :: (ord64 n ++ b) := by simp [rowV]
    have e2 : a ++ 1 :: (ord64 n ++ b) = (a ++ [1]) ++ ord64 n ++ b := by simp
    have hl : a.length + 1 + 8 ≤ (a ++ 1 :: (ord64 n ++ b)).length := by simp [show (ord64 n).length = 8 from rfl]; omega
    have hn : numAt (a ++ 1 :: (ord64 n ++ b)) (a.length + 1) = n := by
      rw [e2]
      have := numAt_ord (a ++ [1]) b n h0 h1
      simpa using this
    rw [e]
    unfold valAt
    rw [at_mid]
    unfold rawAt
    simp only [show (1 : UInt8).toNat = 1 from rfl, if_true, if_pos hl, hn, h]
    simp [rowV, show (ord64 n).length = 8 from rfl]
  · have e : a ++ rowV (2, 0, s) ++ b = a ++ 2 :: b8 (s.size : Int) :: (s.data.toList ++ b) := by simp [rowV]
    have hz : (b8 (s.size : Int)).toNat = s.size := by
      have := b8_toNat (n := (s.size : Int)) (by omega) (by omega)
      omega
    have hd : s.data.toList.length = s.size := by simp
    have ht : txtAt (a ++ 2 :: b8 (s.size : Int) :: (s.data.toList ++ b)) (a.length + 1) = some (s.data.toList, a.length + 1 + 1 + s.size) := by
      unfold txtAt
      rw [at_mid1]
      simp only [hz]
      have h2 := drop_mid a s.data.toList b 2 (b8 (s.size : Int))
      rw [hd] at h2
      rw [if_pos (by simp; omega), h2]
    rw [e]
    unfold valAt
    rw [at_mid]
    unfold rawAt
    simp only [show (2 : UInt8).toNat = 2 from rfl, show ¬ (2 : Nat) = 1 by decide, if_false, if_true, ht]
    have hs2 : (⟨s.data.toList.toArray⟩ : ByteArray) = s := by simp
    rw [hs2, if_pos h]
    simp [rowV]
    omega
  · have e : a ++ rowV (3, 0, noS) ++ b = a ++ 3 :: 0 :: b := by simp [rowV]
    rw [e]
    unfold valAt
    rw [at_mid]
    unfold rawAt
    rw [at_mid1]
    rfl
  · have e : a ++ rowV (3, 1, noS) ++ b = a ++ 3 :: 1 :: b := by simp [rowV]
    rw [e]
    unfold valAt
    rw [at_mid]
    unfold rawAt
    rw [at_mid1]
    rfl
theorem rowsV_split (L : List Vl) (k : Nat) (x : Vl) (hx : L[k]? = some x) : rowsV L = rowsV (L.take k) ++ rowV x ++ rowsV (L.drop (k + 1)) := by
  obtain ⟨hk, he⟩ := List.getElem?_eq_some_iff.1 hx
  have h : L = L.take k ++ x :: L.drop (k + 1) := by rw [← he, List.getElem_cons_drop, List.take_append_drop]
  have h2 : rowsV L = rowsV (L.take k ++ x :: L.drop (k + 1)) := by rw [← h]
  rw [h2]
  simp [rowsV]
theorem many_read (L : List Vl) (hall : L.all vOk = true) (hin : ∀ x ∈ L, VlIn x) (a b : List UInt8) : ∀ k, k ≤ L.length → manyAt k (a ++ rowsV L ++ b) a.length = some (L.take k, a.length + (rowsV (L.take k)).length)
  | 0, _ => by simp [manyAt, rowsV]
  | k + 1, h => by
    obtain ⟨x, hx⟩ : ∃ x, L[k]? = some x := ⟨_, List.getElem?_eq_getElem (by omega)⟩
    have hm := List.mem_of_getElem? hx
    show (match manyAt k (a ++ rowsV L ++ b) a.length with | none => none | some r => _) = _
    rw [many_read L hall hin a b k (by omega)]
    simp only
    have e : a ++ rowsV L ++ b = (a ++ rowsV (L.take k)) ++ rowV x ++ (rowsV (L.drop (k + 1)) ++ b) := by
      rw [rowsV_split L k x hx]
      simp
    have hv := valAt_row (a ++ rowsV (L.take k)) (rowsV (L.drop (k + 1)) ++ b) x (List.all_eq_true.1 hall x hm) (hin x hm)
    rw [← e, List.length_append] at hv
    rw [hv]
    have e2 : L.take (k + 1) = L.take k ++ [x] := by rw [List.take_add_one, hx]; rfl
    rw [e2]
    simp [rowsV]
    omega
def encB (L : List Vl) : List UInt8 := b8 (L.length : Int) :: rowsV L
theorem encB_n (L : List Vl) (h : L.length ≤ 12) : (b8 (L.length : Int)).toNat = L.length := by
  have := b8_toNat (n := (L.length : Int)) (by omega) (by omega)
  omega
theorem many_enc (L : List Vl) (hall : L.all vOk = true) (hin : ∀ x ∈ L, VlIn x) (b : List UInt8) : manyAt L.length (encB L ++ b) 1 = some (L, (encB L).length) := by
  have h := many_read L hall hin [b8 (L.length : Int)] b L.length (Nat.le_refl _)
  rw [List.take_length] at h
  have e : encB L ++ b = [b8 (L.length : Int)] ++ rowsV L ++ b := by simp [encB]
  rw [e]
  simp only [List.length_singleton] at h
  rw [h]
  simp [encB]
  omega
theorem row_read (L : List Vl) (h12 : L.length ≤ 12) (hall : L.all vOk = true) (hin : ∀ x ∈ L, VlIn x) : rowAt (encB L) = some L := by
  have h := many_enc L hall hin []
  rw [List.append_nil] at h
  unfold rowAt
  rw [show (encB L)[0]? = some (b8 (L.length : Int)) from rfl]
  simp only [encB_n L h12, if_pos h12, h, if_true]
theorem row_more (L : List Vl) (h12 : L.length ≤ 12) (hall : L.all vOk = true) (hin : ∀ x ∈ L, VlIn x) (m : UInt8) : rowAt (encB L ++ [m]) = none := by
  have h := many_enc L hall hin [m]
  unfold rowAt
  rw [show (encB L ++ [m])[0]? = some (b8 (L.length : Int)) from rfl]
  simp only [encB_n L h12, if_pos h12, h]
  rw [if_neg (by simp)]
theorem txt_ext {l v : List UInt8} {a : Nat} {r : List UInt8 × Nat} (h : txtAt l a = some r) : txtAt (l ++ v) a = some r := by
  unfold txtAt at h ⊢
  cases h0 : l[a]? with
  | none => rw [h0] at h; cases h
  | some x =>
    have hal := (List.getElem?_eq_some_iff.1 h0).1
    rw [h0] at h
    rw [List.getElem?_append_left hal, h0]
    simp only at h ⊢
    split at h
    · rename_i hle
      rw [if_pos (by rw [List.length_append]; omega)]
      rw [← h, List.drop_append_of_le_length (by omega), List.take_append_of_le_length (by rw [List.length_drop]; omega)]
    · cases h
theorem val_ext {l v : List UInt8} {a : Nat} {q : Vl × Nat} (h : valAt txtAt l a = some q) : valAt txtAt (l ++ v) a = some q := by
  unfold valAt at h ⊢
  cases h0 : l[a]? with
  | none => rw [h0] at h; cases h
  | some x =>
    have hal := (List.getElem?_eq_some_iff.1 h0).1
    rw [h0] at h
    rw [List.getElem?_append_left hal, h0]
    simp only at h ⊢
    have hr : ∀ r, rawAt txtAt l a x = some r → rawAt txtAt (l ++ v) a x = some r := by
      intro r hr
      unfold rawAt at hr ⊢
      by_cases h1 : x.toNat = 1
      · rw [if_pos h1] at hr ⊢
        split at hr
        · rename_i hle
          rw [if_pos (by rw [List.length_append]; omega), ← hr]
          unfold numAt
          rw [List.drop_append_of_le_length (by omega), List.take_append_of_le_length (by rw [List.length_drop]; omega)]
        · cases hr
      · rw [if_neg h1] at hr ⊢
        by_cases h2 : x.toNat = 2
        · rw [if_pos h2] at hr ⊢
          cases ht : txtAt l (a + 1) with
          | none => rw [ht] at hr; cases hr
          | some y => rw [ht] at hr; rw [txt_ext ht]; exact hr
        · rw [if_neg h2] at hr ⊢
          by_cases h3 : x.toNat = 3
          · rw [if_pos h3] at hr ⊢
            cases hy : l[a + 1]? with
            | none => rw [hy] at hr; cases hr
            | some y =>
              rw [hy] at hr
              rw [List.getElem?_append_left (List.getElem?_eq_some_iff.1 hy).1, hy]
              exact hr
          · rw [if_neg h3] at hr ⊢
            exact hr
    cases hq : rawAt txtAt l a x with
    | none => rw [hq] at h; cases h
    | some r =>
      rw [hq] at h
      rw [hr r hq]
      exact h
theorem many_ext (l v : List UInt8) (a : Nat) : ∀ (k : Nat) (r : List Vl × Nat), manyAt k l a = some r → manyAt k (l ++ v) a = some r
  | 0, r, h => h
  | k + 1, r, h => by
    have h' : (match manyAt k l a with | none => none | some r => match valAt txtAt l r.2 with | none => none | some q => some (r.1 ++ [q.1], q.2)) = some r := h
    show (match manyAt k (l ++ v) a with | none => none | some r => match valAt txtAt (l ++ v) r.2 with | none => none | some q => some (r.1 ++ [q.1], q.2)) = some r
    cases hm : manyAt k l a with
    | none => rw [hm] at h'; cases h'
    | some s =>
      rw [hm] at h'
      rw [many_ext l v a k s hm]
      simp only at h' ⊢
      cases hv : valAt txtAt l s.2 with
      | none => rw [hv] at h'; cases h'
      | some q => rw [hv] at h'; rw [val_ext hv]; exact h'
theorem row_cut (L : List Vl) (h12 : L.length ≤ 12) (hall : L.all vOk = true) (hin : ∀ x ∈ L, VlIn x) (m : Nat) (hm : m < (encB L).length) : rowAt ((encB L).take m) = none := by
  cases hr : rowAt ((encB L).take m) with
  | none => rfl
  | some L' =>
    exfalso
    unfold rowAt at hr
    cases m with
    | zero => simp at hr
    | succ m =>
      rw [show ((encB L).take (m + 1))[0]? = some (b8 (L.length : Int)) from rfl] at hr
      simp only [encB_n L h12, if_pos h12] at hr
      cases hq : manyAt L.length ((encB L).take (m + 1)) 1 with
      | none => rw [hq] at hr; cases hr
      | some r =>
        rw [hq] at hr
        simp only at hr
        split at hr
        · rename_i he
          have h2 := many_ext _ ((encB L).drop (m + 1)) _ _ _ hq
          rw [List.take_append_drop] at h2
          have h3 := many_enc L hall hin []
          rw [List.append_nil, h2] at h3
          injection h3 with h3
          rw [h3] at he
          simp only [List.length_take] at he
          omega
        · cases hr
end Go.Proofs.YtpdikmcaihlbaaaDoor
namespace Go.Proofs.YtpdikmcaihlbaaaDoor
open Go.RowKit

theorem OwnV.base {w : World} {B B' : Nat} {v : Value} {L : List Vl} (h : OwnV w B v L) (hB : B' ≤ B) : OwnV w B' v L := by
  refine ⟨h.1, ?_⟩
  rcases h.2 with hn | ⟨g, cap, cur, rfl, hb, rest⟩
  · exact .inl hn
  · exact .inr ⟨g, cap, cur, rfl, Nat.le_trans hB hb, rest⟩
theorem OwnV.set {w : World} {B b i : Nat} {v u : Value} {L : List Vl} (h : OwnV w B v L) (hb : b < B) : OwnV (w.setCell ⟨b, i, none⟩ u) B v L :=
  h.same fun k hk => Below.heap_setCell w ⟨b, i, none⟩ u k (fun e => by simp only at e; have := (h.at k hk).1; omega)
/-- What the reading leaves: what was there ahead of it stays, and the values, if there are any. -/
def ReadR (w0 : World) (B b0 : Nat) (r : Option (List Vl)) (w' : World) : Prop := Ext w0 w' ∧ match r with
  | none => True
  | some L => ∃ v, OwnV w' B v L ∧ Rw w' b0 22 [v]
set_option maxRecDepth 20000 in
set_option maxHeartbeats 1600000 in
theorem decode1 (g b2 b0 e4 : Nat) (A : Option Addr) (l : List UInt8) (n c : Nat) (w0 w : World) (hr0 : Rd w0 A l) (hx : Ext w0 w) (hg : w0.heap.size ≤ g) (hgw : g < w.heap.size) (hb0 : w0.heap.size ≤ b0) (hb0g : b0 ≠ g) (he : e4 < w.heap.size) (heg : e4 ≠ g) (heb : e4 ≠ b0) (hn : l.length = n) (hnc : n ≤ c) (hl : n ≤ 140737488351232) (hR : RdrC w g A n c 0) (hT : Tabs w0)
    (h2 : Rw w b2 60 [.pointer (some ⟨g, 0, none⟩)]) (h0 : Rw w b0 22 [.slice none 0 0]) (h4 : Rw w e4 28 [.int .i64 0]) :
    Calls Tryd.prog 33 #[.pointer (some ⟨b2, 0, none⟩), .pointer (some ⟨b0, 0, none⟩)] w (fun e w' => (e = if (rowAt l).isSome = true then .returned (.tuple #[]) else .panicked [{ v := gaveUp, recovered := false }]) ∧ Rw w' e4 28 [.int .i64 0] ∧ ReadR w0 w.heap.size b0 (rowAt l) w') := by
  have KR := hide (row_any g A l n c w0 w hr0 hx hg hgw hn hnc hl hR hT)
  obtain ⟨r, HR⟩ : ∃ r, Hid (rowAt l = r) := ⟨_, hide rfl⟩
  rw [HR.out] at KR ⊢
  have c2 := h2.cell (i := 0) rfl
  have H0 := hide h0
  have H4 := hide h4
  have HS := hide (show Ext w0 w ∧ w0.heap.size ≤ g ∧ w0.heap.size ≤ b0 ∧ b0 ≠ g ∧ e4 ≠ g ∧ e4 ≠ b0 ∧ e4 < w.heap.size ∧ b0 < w.heap.size from ⟨hx, hg, hb0, hb0g, heg, heb, he, h0.lt⟩)
  clear h0 h4 hx hg hb0 hb0g heg heb he hR hr0 hT h2
  cases r with
  | none =>
    go_enter Tryd.func33, Tryd.ntmps33
    go_wp2_with (go_at_call 34; (with_reducible refine KR.out.mono ?_); rintro e w2 ⟨hg2, rfl⟩)
    refine ⟨rfl, rfl, ?_, ext_of_grown HS.out.1 hg2 HS.out.2.1, trivial⟩
    exact (hg2.block e4 H4.out.lt (fun e => by injection e with e; exact HS.out.2.2.2.2.1 e)).trans H4.out
  | some L =>
    go_enter Tryd.func33, Tryd.ntmps33
    go_wp2_with (go_at_call 34; (with_reducible refine KR.out.mono ?_); rintro e w2 ⟨hg2, v, rfl, ho2⟩; obtain ⟨A5, c5, rfl, hc5, -⟩ := ho2.slice; have B2 := (show Rw w2 b0 22 [.slice none 0 0] from (hg2.block b0 H0.out.lt (fun e => HS.out.2.2.2.1 (by injection e))).trans H0.out); have d0 := B2.cell (i := 0) rfl; have f0 := B2.frozen 0)
    go_end0
    have hg3 : w.grownBy w2 (some g) := hg2
    refine ⟨rfl, (Rw.far ((hg3.block e4 H4.out.lt (fun e => by injection e with e; exact HS.out.2.2.2.2.1 e)).trans H4.out) (p := ⟨b0, 0, none⟩) HS.out.2.2.2.2.2.1 _), ?_, _, ho2.set HS.out.2.2.2.2.2.2.2, B2.set 0 _⟩
    have hx2 := ext_of_grown HS.out.1 hg3 HS.out.2.1
    exact ⟨hx2.os, hx2.tape, hx2.output, Nat.le_trans hx2.size (by simp [World.setCell]), fun j hj => (Below.heap_setCell w2 ⟨b0, 0, none⟩ _ j (fun e => by simp only at e; have := HS.out.2.2.1; omega)).trans (hx2.block j hj)⟩
/-- What Decode tells. -/
def DecC (w : World) (r : Option (List Vl)) (e : Ending) (w' : World) : Prop := Ext w w' ∧ match r with
  | none => e = .returned (.tuple #[.slice none 0 0, .int .i64 3])
  | some L => ∃ v, e = .returned (.tuple #[v, .int .i64 0]) ∧ OwnV w' w.heap.size v L
set_option maxRecDepth 20000 in
set_option maxHeartbeats 1600000 in
theorem decode_any (A : Option Addr) (l : List UInt8) (n c : Nat) (w : World) (hr : Rd w A l) (hn : l.length = n) (hnc : n ≤ c) (hl : n ≤ 140737488351232) (hT : Tabs w) :
    Calls Tryd.prog 16 #[.slice A n c] w (DecC w (rowAt l)) := by
  have hmf : ∀ (fn : Fn) (first cap : Array Value) (w : World), (Instr.makeFunc fn first cap).run Tryd.prog w = .ok (.func fn first cap) w := fun _ _ _ _ => rfl
  obtain ⟨r, HR⟩ : ∃ r, Hid (rowAt l = r) := ⟨_, hide rfl⟩
  rw [HR.out]
  go_enter Tryd.func16, Tryd.ntmps16
  go_upto_region 3 with fail
  obtain ⟨W3, hX3, h0, hg, h2, hsz, hgg⟩ : ∃ W3, Ext w W3 ∧ Rw W3 w.heap.size 22 [.slice none 0 0] ∧ RdrC W3 (w.heap.size + 1) A n c 0 ∧ Rw W3 (w.heap.size + 1 + 1) 60 [.pointer (some ⟨w.heap.size + 1, 0, none⟩)] ∧ W3.heap.size = w.heap.size + 3 ∧ ((w.alloc (.cells #[.slice none 0 0] 22)).alloc (.cells #[.slice A n c, .int .i64 0] 62)).alloc (.cells #[.pointer (some ⟨w.heap.size + 1, 0, none⟩)] 60) = W3 := by
    have e1 : (w.alloc (.cells #[.slice none 0 0] 22)).heap.size = w.heap.size + 1 := by simp
    have e2 : ((w.alloc (.cells #[.slice none 0 0] 22)).alloc (.cells #[.slice A n c, .int .i64 0] 62)).heap.size = w.heap.size + 1 + 1 := by simp
    refine ⟨_, ((Ext.alloc _ _).trans (Ext.alloc _ _)).trans (Ext.alloc _ _), ((Rw.new w 22 [.slice none 0 0]).alloc _).alloc _, ?_, ?_, by simp, rfl⟩
    · have h := Rw.new (w.alloc (.cells #[.slice none 0 0] 22)) 62 [.slice A n c, .int .i64 0]
      rw [e1] at h
      exact h.alloc _
    · have h := Rw.new ((w.alloc (.cells #[.slice none 0 0] 22)).alloc (.cells #[.slice A n c, .int .i64 0] 62)) 60 [.pointer (some ⟨w.heap.size + 1, 0, none⟩)]
      rw [e2] at h
      exact h
  rw [hgg]
  clear hgg
  have hX4 : Ext W3 (W3.alloc (.cells #[.int .i64 0] 28)) := Ext.alloc _ _
  have hz4 : (W3.alloc (.cells #[.int .i64 0] 28)).heap.size = w.heap.size + 4 := by simp [hsz]
  have K1 := decode1 (w.heap.size + 1) (w.heap.size + 1 + 1) w.heap.size W3.heap.size A l n c w (W3.alloc (.cells #[.int .i64 0] 28)) hr (hX3.trans hX4) (by omega) (by omega) (Nat.le_refl _) (by omega) (by omega) (by omega) (by omega) hn hnc hl (Rw.ext hg hX4) hT (h2.ext hX4) (h0.ext hX4) (Rw.new _ _ _)
  have KC := hide (caught_decode #[.pointer (some ⟨w.heap.size + 1 + 1, 0, none⟩), .pointer (some ⟨w.heap.size, 0, none⟩)] (rowAt l).isSome (ReadR w (w.heap.size + 4) w.heap.size (rowAt l)) W3 (by rw [hz4] at K1; exact K1))
  rw [HR.out] at KC
  have HSZ := hide hsz
  clear hr hT hX3 h0 hg h2 hsz hX4 hz4 K1
  have KE : Hid (Calls Tryd.prog 32 #[.func (.func 33) #[] #[.pointer (some ⟨w.heap.size + 1 + 1, 0, none⟩), .pointer (some ⟨w.heap.size, 0, none⟩)]] W3 (fun e w' => e = .returned (.int .i64 (if r.isSome = true then 0 else 3)) ∧ ReadR w (w.heap.size + 4) w.heap.size r w')) := hide (KC.out.mono fun e w' ⟨he, w1, hR1, hg1⟩ => ⟨he, by
    refine ⟨⟨hg1.os.trans hR1.1.os, hg1.tape.trans hR1.1.tape, hg1.output.trans hR1.1.output, Nat.le_trans hR1.1.size hg1.size, fun j hj => (hg1.block j (Nat.lt_of_lt_of_le hj hR1.1.size) (fun e => by injection e with e; have := HSZ.out; omega)).trans (hR1.1.block j hj)⟩, ?_⟩
    cases r with
    | none => trivial
    | some L =>
      obtain ⟨-, v, ho, hb⟩ := hR1
      exact ⟨v, ho.same fun k hk => hg1.block k (ho.at k hk).2 (fun e => by injection e with e; have := (ho.at k hk).1; have := HSZ.out; omega), (hg1.block w.heap.size hb.lt (fun e => by injection e with e; have := HSZ.out; omega)).trans hb⟩⟩)
  clear KC
  cases r with
  | none =>
    have KE2 := hide (show Calls Tryd.prog 32 #[.func (.func 33) #[] #[.pointer (some ⟨w.heap.size + 1 + 1, 0, none⟩), .pointer (some ⟨w.heap.size, 0, none⟩)]] W3 (fun e w' => e = .returned (.int .i64 3) ∧ ReadR w (w.heap.size + 4) w.heap.size none w') from KE.out)
    clear KE
    go_wp2_with (go_at_call 32; (with_reducible refine KE2.out.mono ?_); rintro e w5 ⟨rfl, hR5⟩)
    go_ret2
    exact ⟨hR5.1, rfl⟩
  | some L =>
    have KE2 := hide (show Calls Tryd.prog 32 #[.func (.func 33) #[] #[.pointer (some ⟨w.heap.size + 1 + 1, 0, none⟩), .pointer (some ⟨w.heap.size, 0, none⟩)]] W3 (fun e w' => e = .returned (.int .i64 0) ∧ ReadR w (w.heap.size + 4) w.heap.size (some L) w') from KE.out)
    clear KE
    go_wp2_with (go_at_call 32; (with_reducible refine KE2.out.mono ?_); rintro e w5 ⟨rfl, hx5, v, ho5, hb5⟩; have d5 := hb5.cell (i := 0) rfl)
    go_ret2
    exact ⟨hx5, v, rfl, ho5.base (by omega)⟩
end Go.Proofs.YtpdikmcaihlbaaaDoor

/-
  What bytes read as, and what they are: plain; cells appended whose parts lie in the bytes.
-/
import Derived.Test.YtmamhinpkioogaaPgEo
import Derived.Test.YtmamhinpkioogaaChn
namespace Go.Proofs.Ytmamhinpkioogaa
open Go.RowKit

theorem drop_cons {l : List UInt8} {q : Nat} {u : UInt8} (h : l[q]? = some u) : l.drop q = u :: l.drop (q + 1) := by
  obtain ⟨hq, hu⟩ := List.getElem?_eq_some_iff.1 h
  rw [List.drop_eq_getElem_cons hq, hu]
theorem firstB_at {l : List UInt8} {q : Nat} {u v : UInt8} (h0 : l[q]? = some u) (h1 : l[q + 1]? = some v) :
    firstB (l.drop q) = if q + 2 + u.toNat + v.toNat ≤ l.length then some (((l.drop (q + 2)).take u.toNat, (l.drop (q + 2 + u.toNat)).take v.toNat), 2 + u.toNat + v.toNat) else none := by
  have hq := (List.getElem?_eq_some_iff.1 h1).1
  rw [drop_cons h0, drop_cons h1]
  unfold firstB
  simp only [List.length_cons, List.length_drop, List.drop_succ_cons, List.drop_zero]
  have e1 : (u :: v :: l.drop (q + 1 + 1)).drop (2 + u.toNat) = l.drop (q + 2 + u.toNat) := by
    rw [show 2 + u.toNat = u.toNat + 1 + 1 by omega, List.drop_succ_cons, List.drop_succ_cons, List.drop_drop]
  by_cases h : q + 2 + u.toNat + v.toNat ≤ l.length
  · rw [if_pos h, if_pos (by omega), e1]
  · rw [if_neg h, if_neg (by omega)]
theorem firstB_short {l : List UInt8} {q : Nat} (h : l.length < q + 2) : firstB (l.drop q) = none := by
  have hl : (l.drop q).length < 2 := by rw [List.length_drop]; omega
  unfold firstB
  match hd : l.drop q with
  | [] => rfl
  | [_] => rfl
  | _ :: _ :: _ => rw [hd] at hl; simp at hl; omega
theorem b8_self (u : UInt8) : b8 (u.toNat : Int) = u := by
  unfold b8
  rw [Int.toNat_natCast]
  exact UInt8.ofNat_toNat
theorem firstB_split {l : List UInt8} {x : Cl} {e : Nat} (h : firstB l = some (x, e)) : l = encC x ++ l.drop e := by
  unfold firstB at h
  match l, h with
  | b0 :: b1 :: t, h =>
    simp only at h
    split at h
    · rename_i hle
      injection h with h
      injection h with hx he
      subst he hx
      simp only [List.drop_succ_cons, List.drop_zero] at *
      have e1 : (b0 :: b1 :: t).drop (2 + b0.toNat) = t.drop b0.toNat := by rw [show 2 + b0.toNat = b0.toNat + 1 + 1 by omega, List.drop_succ_cons, List.drop_succ_cons]
      have e2 : (b0 :: b1 :: t).drop (2 + b0.toNat + b1.toNat) = t.drop (b0.toNat + b1.toNat) := by rw [show 2 + b0.toNat + b1.toNat = b0.toNat + b1.toNat + 1 + 1 by omega, List.drop_succ_cons, List.drop_succ_cons]
      rw [e1, e2]
      have hl1 : (t.take b0.toNat).length = b0.toNat := by rw [List.length_take]; simp at hle; omega
      have hl2 : ((t.drop b0.toNat).take b1.toNat).length = b1.toNat := by rw [List.length_take, List.length_drop]; simp at hle; omega
      unfold encC
      simp only
      rw [hl1, hl2, b8_self, b8_self]
      have e3 : t.drop (b0.toNat + b1.toNat) = (t.drop b0.toNat).drop b1.toNat := by rw [List.drop_drop]
      rw [e3]
      simp only [List.cons_append, List.nil_append, List.append_assoc, List.take_append_drop]
    · cases h
theorem decC_split : ∀ (k : Nat) (l : List UInt8) (L : List Cl) (r : List UInt8), decC k l = some (L, r) → l = encL L ++ r ∧ L.length = k
  | 0, l, L, r, h => by
    unfold decC at h
    injection h with h
    injection h with h1 h2
    subst h1 h2
    exact ⟨rfl, rfl⟩
  | k + 1, l, L, r, h => by
    obtain ⟨x, e, M, h1, h2, rfl⟩ := decC_some h
    obtain ⟨h3, h4⟩ := decC_split k _ M r h2
    refine ⟨?_, by rw [List.length_cons, h4]⟩
    have h5 := firstB_split h1
    rw [h3] at h5
    rw [h5]
    simp [encL]
theorem zerosB_iff (r : List UInt8) : zerosB r = true ↔ List.replicate r.length 0 = r := by
  unfold zerosB
  rw [List.all_eq_true]
  constructor
  · intro h
    symm
    rw [List.eq_replicate_iff]
    exact ⟨rfl, fun x hx => by simpa using h x hx⟩
  · intro h x hx
    rw [← h] at hx
    rw [List.eq_of_mem_replicate hx]
    rfl
theorem encZ_iff {l : List UInt8} {L : List Cl} {r : List UInt8} {kind nx : Int} {u0 u1 u2 u3 u4 : UInt8} (hn : l.length = 504) (g0 : l[0]? = some u0) (g1 : l[1]? = some u1) (g2 : l[2]? = some u2) (g3 : l[3]? = some u3) (g4 : l[4]? = some u4)
    (hd : decC L.length (l.drop 6) = some (L, r)) (hk : (u0.toNat : Int) = kind) (hx : (u1.toNat : Int) * 65536 + (u2.toNat : Int) * 256 + (u3.toNat : Int) = nx) (hc : u4.toNat = L.length) (hf : formB kind nx L = true) :
    encZ kind nx L = l ↔ (zerosB ((l.drop 5).take 1) = true ∧ zerosB r = true) := by
  obtain ⟨u5, g5⟩ : ∃ u, l[5]? = some u := ⟨_, List.getElem?_eq_getElem (by omega)⟩
  obtain ⟨hs, -⟩ := decC_split _ _ _ _ hd
  have hl : l = u0 :: u1 :: u2 :: u3 :: u4 :: u5 :: (encL L ++ r) := by
    rw [← hs, ← drop_cons g5, ← drop_cons g4, ← drop_cons g3, ← drop_cons g2, ← drop_cons g1, ← drop_cons g0, List.drop_zero]
  have h5 : (l.drop 5).take 1 = [u5] := by rw [drop_cons g5]; rfl
  have hlen := encZ_length hf
  have hlr : (encL L).length + r.length = 498 := by
    have : (l.drop 6).length = 498 := by rw [List.length_drop]; omega
    rw [hs, List.length_append] at this
    exact this
  have hff := hf
  unfold formB at hf
  simp at hf
  have hle : 6 + (encL L).length = (encB kind nx L).length := by unfold encB num3; simp; omega
  have hz : encZ kind nx L = u0 :: u1 :: u2 :: u3 :: u4 :: 0 :: (encL L ++ List.replicate r.length 0) := by
    unfold encZ
    rw [show 504 - (encB kind nx L).length = r.length by omega]
    unfold encB num3
    have b0 : b8 kind = u0 := by rw [← hk]; exact b8_self u0
    have b1 : b8 (nx / 65536) = u1 := by rw [show nx / 65536 = (u1.toNat : Int) by have := u2.toNat_lt; have := u3.toNat_lt; omega]; exact b8_self u1
    have b2 : b8 (nx / 256) = u2 := by rw [show nx / 256 = (u2.toNat : Int) by have := u2.toNat_lt; have := u3.toNat_lt; omega]; exact b8_self u2
    have b3 : b8 (nx % 256) = u3 := by rw [show nx % 256 = (u3.toNat : Int) by have := u2.toNat_lt; have := u3.toNat_lt; omega]; exact b8_self u3
    have b4 : b8 ((L.length : Int) % 256) = u4 := by rw [show (L.length : Int) % 256 = (u4.toNat : Int) by have := u4.toNat_lt; omega]; exact b8_self u4
    rw [b0, b1, b2, b3, b4]
    simp
  rw [h5, hz, hl]
  constructor
  · intro h
    injection h with _ h
    injection h with _ h
    injection h with _ h
    injection h with _ h
    injection h with _ h
    injection h with h0 h
    exact ⟨by rw [← h0]; rfl, (zerosB_iff r).2 (List.append_cancel_left h)⟩
  · rintro ⟨h0, h1⟩
    have h0' : u5 = 0 := by unfold zerosB at h0; simpa using h0
    rw [(zerosB_iff r).1 h1, h0']
theorem OwnV.at {w0 w : World} {B : Nat} {L : List Cl} {v : Value} (h : OwnV w0 B L w v) (g : Nat) (hg : v.ownBlock = some g) : B ≤ g ∧ g < w.heap.size := by
  obtain ⟨vs, h1, -⟩ := h
  obtain ⟨a, b, -⟩ := own_block h1 g hg
  exact ⟨a, b⟩
theorem OwnV.same {w0 w w' : World} {B hb : Nat} {v : Value} {L : List Cl} (h : OwnV w0 B L w v) (hB : hb < B) (hx : ∀ j, j ≠ hb → j < w.heap.size → w'.heap[j]? = w.heap[j]?) : OwnV w0 B L w' v := by
  obtain ⟨vs, h1, h2⟩ := h
  refine ⟨vs, ⟨h1.1, ?_⟩, h2⟩
  rcases h1.2 with hn | ⟨g, cap, cur, e, hg, hh, rest⟩
  · exact .inl hn
  · refine .inr ⟨g, cap, cur, e, hg, ?_, rest⟩
    rw [hx g (by omega) ?_]
    · exact hh
    · rcases Nat.lt_or_ge g w.heap.size with h' | h'
      · exact h'
      · rw [Array.getElem?_eq_none h'] at hh; cases hh
theorem OwnV.mono {w0 w : World} {B B' : Nat} {v : Value} {L : List Cl} (h : OwnV w0 B L w v) (hB : B' ≤ B) : OwnV w0 B' L w v := by
  obtain ⟨vs, h1, h2⟩ := h
  refine ⟨vs, ⟨h1.1, ?_⟩, h2⟩
  rcases h1.2 with hn | ⟨g, cap, cur, e, hg, rest⟩
  · exact .inl hn
  · exact .inr ⟨g, cap, cur, e, by omega, rest⟩
theorem OwnV.nil (w0 w : World) (B : Nat) : OwnV w0 B [] w (.slice none 0 0) := ⟨[], World.ownsRow_nil _ _ _ _, rfl, fun j x h => by cases h⟩
theorem append_cl {w0 W : World} {B k : Nat} {Av : Option Addr} {cv n1 n2 d1 d2 : Nat} {L : List Cl} {x : Cl} {A1 A2 : Option Addr} (hown : OwnV w0 B L W (.slice Av k cv)) (hL : L.length = k) (hk : k ≤ 1000) (h1 : Rd w0 A1 x.1) (h2 : Rd w0 A2 x.2) (e1 : x.1.length = n1) (e2 : x.2.length = n2) (hc1 : n1 ≤ d1) (hc2 : n2 ≤ d2) (hB : B ≤ W.heap.size) (ty : Nat) :
    ∃ A' c' W2, (Builtin.append_ #[22, 22] ty #[.slice Av k cv, .slice (some ⟨W.heap.size, 0, none⟩) 1 1]).run Try.prog (W.alloc (.cells #[.slice A1 n1 d1, .slice A2 n2 d2] 40)) = .ok (.slice A' (k + 1) c') W2 ∧
      OwnV w0 B (L ++ [x]) W2 (.slice A' (k + 1) c') ∧ (W.alloc (.cells #[.slice A1 n1 d1, .slice A2 n2 d2] 40)).grownBy W2 (Value.slice Av k cv).ownBlock := by
  subst e1 e2 hL
  obtain ⟨i0, hi, hz, hsz, hby⟩ := info_partsC
  obtain ⟨vs, hown, hvs⟩ := hown
  have R := Rw.new W 40 [.slice A1 x.1.length d1, .slice A2 x.2.length d2]
  have hX := Ext.alloc W (.cells #[.slice A1 x.1.length d1, .slice A2 x.2.length d2] 40)
  have hown' := own_ext hown hX
  have hone : ∀ u ∈ [Value.slice A1 x.1.length d1, .slice A2 x.2.length d2], u.oneCell' = true := by
    intro u hu
    rcases List.mem_cons.1 hu with rfl | hu
    · rfl
    · rw [List.mem_singleton.1 hu]; rfl
  obtain ⟨v', w', hrun, h3, h4, -, -⟩ := run_append_own_at (P := Try.prog) (w := W.alloc (.cells #[.slice A1 x.1.length d1, .slice A2 x.2.length d2] 40)) B 22 ty 40 i0 _ 2 48 Try.underlying22 hi hz hsz hby rfl (by decide) (.slice Av L.length cv) L.length vs hown' ⟨W.heap.size, 0, none⟩ 1 1 [.slice A1 x.1.length d1, .slice A2 x.2.length d2] rfl (fun j u hu => by rw [add_flat, Nat.zero_add]; exact R.cell hu) hone (by unfold maxLen; omega) (by omega) (Nat.le_trans hB hX.size)
  obtain ⟨A', c', rfl⟩ : ∃ A' c', v' = .slice A' (L.length + 1) c' := by
    rcases h3.2 with ⟨_, h0⟩ | ⟨g', cap, _, hv, _⟩
    · omega
    · exact ⟨_, _, hv⟩
  refine ⟨A', c', w', hrun, ⟨vs ++ [.slice A1 x.1.length d1, .slice A2 x.2.length d2], by rw [List.length_append]; exact h3, hvs.append ⟨rfl, fun j z hj => ?_⟩⟩, h4⟩
  match j, hj with
  | 0, hj => injection hj with hj; subst hj; exact ⟨A1, d1, A2, d2, rfl, rfl, hc1, hc2, h1, h2⟩
theorem gives_append {P : Program} {o : Oper} {a : Act} {w : World} {R : Value → World → Prop} {s x : Operand} {t : TypeId} {u y v : Value} {w' : World} (h : o.op = .call { callee := .builtin .append, args := #[s, x], argTypes := #[t, t] }) (hs : a.eval s = u) (hx : a.eval x = y)
    (hrun : (Builtin.append_ #[t, t] o.type #[u, y]).run P w = .ok v w') (hR : R v w') : gives P o a w R := by
  refine gives_of_run (w' := w') (v := v) ?_ hR
  unfold execOp
  simp only [h, resolve, invoke, builtin, Sem.run_bind, Sem.run_pure, Result.andThen_ok, List.map_toArray, List.map_cons, List.map_nil, hs, hx, hrun]
end Go.Proofs.Ytmamhinpkioogaa

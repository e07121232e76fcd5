/-
  What Encode writes, read again: contracts as PageEncodes needs them.
-/
import Derived.Test.YtmamhinpkioogaaPgRe
import Derived.Test.YtmamhinpkioogaaPgCe
namespace Go.Proofs.Ytmamhinpkioogaa
open Go.RowKit

/-- The bytes of a right page. -/
def encZ (kind next : Int) (L : List Cl) : List UInt8 := encB kind next L ++ List.replicate (504 - (encB kind next L).length) 0
theorem encZ_length {kind next : Int} {L : List Cl} (hf : formB kind next L = true) : (encZ kind next L).length = 504 := by
  have h1 : (encB kind next L).length = 6 + szs L := by
    unfold encB num3
    simp [encL_length]
    omega
  have h2 := (formB_facts hf).2.2.2
  unfold encZ
  rw [List.length_append, List.length_replicate]
  omega
theorem encZ_heads {kind next : Int} {L : List Cl} (hk0 : 0 ≤ kind) (hf : formB kind next L = true) :
    ∃ u0 u1 u2 u3 u4 : UInt8, (encZ kind next L)[0]? = some u0 ∧ (encZ kind next L)[1]? = some u1 ∧ (encZ kind next L)[2]? = some u2 ∧ (encZ kind next L)[3]? = some u3 ∧ (encZ kind next L)[4]? = some u4 ∧
      (u0.toNat : Int) = kind ∧ nextO u1.toNat u2.toNat u3.toNat = next ∧ u4.toNat = L.length := by
  have hff := hf
  unfold formB at hf
  simp at hf
  have hk3 : kind ≤ 3 := by omega
  have hn0 : 0 ≤ next := by omega
  have hn1 : next < 4096 := by omega
  have hL : L.length ≤ 255 := by have := szs_ge L; omega
  refine ⟨b8 kind, b8 (next / 65536), b8 (next / 256), b8 (next % 256), b8 ((L.length : Int) % 256), ?_, ?_, ?_, ?_, ?_, ?_, ?_, ?_⟩
  iterate 5
    · unfold encZ encB num3
      rfl
  · exact b8_toNat hk0 (by omega)
  · have e1 := b8_toNat (n := next / 65536) (by omega) (by omega)
    have e2 := b8_toNat (n := next / 256) (by omega) (by omega)
    have e3 := b8_toNat (n := next % 256) (by omega) (by omega)
    rw [nextO_num _ _ _ (by omega) (by omega) (by omega), e1, e2, e3]
    omega
  · have e := b8_toNat (n := (L.length : Int) % 256) (by omega) (by omega)
    omega
/-- Encode, of a right page. -/
theorem encode_rd {A : Option Addr} {L : List Cl} (kind next : Int) (n c : Nat) (w : World) (hr : RdC w A L) (hn : L.length = n) (hl : n ≤ 1000) (hS : Small L) (hk0 : 0 ≤ kind) (hf : formB kind next L = true) :
    Calls Try.prog 16 #[.agg #[.int .u8 kind, .int .i64 next, .slice A n c]] w (Ret w (fun w' v => ∃ B1 d1, v = .tuple #[.slice B1 504 d1, .int .i64 0] ∧ 504 ≤ d1 ∧ Rd w' B1 (encZ kind next L))) := by
  refine (encode_any kind next n c w hr hn hl hS hk0 hf).mono ?_
  rintro e w' ⟨v, he, hx, v1, hv, ho⟩
  have hlen := encZ_length hf
  obtain ⟨B1, d1, hv1, hd1, hrd⟩ := Bytes.own ho
  have hlen2 : (encB kind next L ++ List.replicate (504 - (encB kind next L).length) 0).length = 504 := hlen
  rw [hlen2] at hv1 hd1
  exact ⟨v, he, hx, B1, d1, by rw [hv, hv1], hd1, hrd⟩
/-- Decode, of what Encode wrote. -/
theorem decode_enc {A : Option Addr} {L : List Cl} (kind next : Int) (n c : Nat) (w : World) (hr : Rd w A (encZ kind next L)) (hc : 504 ≤ c) (hn : L.length = n) (hk0 : 0 ≤ kind) (hf : formB kind next L = true) :
    Calls Try.prog 17 #[.slice A 504 c] w (Ret w (fun w' v => ∃ A2 c2, v = .tuple #[.agg #[.int .u8 kind, .int .i64 next, .slice A2 n c2], .int .i64 0] ∧ RdC w' A2 L)) := by
  obtain ⟨u0, u1, u2, u3, u4, g0, g1, g2, g3, g4, e0, e1, e2⟩ := encZ_heads hk0 hf
  refine (decode_any A _ c w hr (encZ_length hf) hc u0 u1 u2 u3 u4 g0 g1 g2 g3 g4).mono ?_
  rintro e w' ⟨v, he, hx, hp⟩
  rw [e0, e1, e2] at hp
  have hpb : pageB (encZ kind next L) kind next L.length L := pageB_enc _ hf
  rcases hp with ⟨M, v2, hM, hv, hco⟩ | ⟨-, hno⟩
  · obtain rfl := pageB_one hpb hM
    obtain ⟨A2, c2, hv2, -, hrc⟩ := hco.cells
    rw [hn] at hv2
    exact ⟨v, he, hx, A2, c2, by rw [hv, hv2], hrc⟩
  · exact absurd hpb (hno L)
/-- The document's Encode. -/
theorem rencode_rd {A : Option Addr} {L : List Cl} (kind next : Int) (n c : Nat) (w : World) (hr : RdC w A L) (hn : L.length = n) (hk0 : 0 ≤ kind) (hf : formB kind next L = true) :
    Calls Try.prog 18 #[.agg #[.int .u8 kind, .int .i64 next, .slice A n c]] w (Ret w (Bytes (encZ kind next L))) :=
  (rencode_any kind next n c w hr hn hk0 hf).mono fun _ _ ⟨v, he, hx, ho⟩ => ⟨v, he, hx, Bytes.own ho⟩
theorem gives_neq_bool {P : Program} {o : Oper} {a : Act} {w : World} {R : Value → World → Prop} {xt yt : Nat} {x y : Operand} (p : Bool) (hu : P.underlying xt = some .bool) (h : o.op = .binOp .neq xt x y yt) (hx : a.eval x = .bool p) (hy : a.eval y = .bool p) (hR : R (.bool false) w) : gives P o a w R :=
  gives_bin h hx hy (by simp [go_sem]) (by simp [go_sem, hu]) hR
theorem gives_neq_int {P : Program} {o : Oper} {a : Act} {w : World} {R : Value → World → Prop} {xt yt : Nat} {x y : Operand} {k : IntKind} (m : Int) (h : o.op = .binOp .neq xt x y yt) (hx : a.eval x = .int k m) (hy : a.eval y = .int k m) (hR : R (.bool false) w) : gives P o a w R :=
  gives_bin h hx hy (by simp [go_sem]) (by simp [go_sem]) hR
theorem sizePage : (Try.prog.info? 24).map (·.size) = some 3 := by kernel_rfl
theorem run_fieldQ (g i : Nat) (hi : i = 0 ∨ i = 1 ∨ i = 2) (w : World) : (Instr.fieldAt 24 (.pointer (some ⟨g, 0, none⟩)) i).run Try.prog w = .ok (.pointer (some ⟨g, i, none⟩)) w := by
  rcases hi with rfl | rfl | rfl <;> simp [go_sem, Try.underlying24]
end Go.Proofs.Ytmamhinpkioogaa

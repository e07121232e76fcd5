/-
  What the card wants, part 12: StS, StT, StU, StP, RcZ, RcA, RcB.
-/
import Derived.Test.YthmdmgnhfhpcaaaGreatDoorPkCardSvE7
import Derived.Test.YthmdmgnhfhpcaaaGreatDoorPkCardSvE11
set_option linter.unusedVariables false
set_option linter.unusedSimpArgs false
set_option maxRecDepth 20000
set_option maxHeartbeats 12800000
namespace Go.Proofs.YthmdmgnhfhpcaaaGreatDoor
open Go.RowKit
structure ReSt (w0 w:World) (Z:Pk) (s:Nat) (S:St) (R:Sr) (bv bm mb:Nat) (m:Nat→Option Nat) (n:Nat):Prop where
 lo:LoSt w0 w Z s S R bv bm mb m n
 hv:¬Z.has S.P bv
 hm:¬Z.has S.P bm
section
variable {w0 w w':World} {Z Z':Pk} {s bv bm mb n:Nat} {S S' S1 S2:St} {R R':Sr} {m:Nat→Option Nat}
theorem ReSt.ext_ (h:ReSt w0 w Z s S R bv bm mb m n) (hx:Ext w w'):ReSt w0 w' Z s S R bv bm mb m n:=⟨h.lo.ext_ hx,h.hv,h.hm⟩
theorem ReSt.later (h:ReSt w0 w Z s S R bv bm mb m n) (k1:StoAt w0 w' Z' s S' R') (k2:Sfr Z s S.P w w') (k3:Z'.Later S'.P Z S.P w):ReSt w0 w' Z' s S' R' bv bm mb m n:=by
 have hb:∀k,k < w.heap.size→¬Z.has S.P k→¬Z'.has S'.P k:=fun k h1 h2 h3=>by
  rcases k3.has k h3 with h4 | h4
  ·exact h2 h4
  ·omega
 have l1:=h.lo.sv.lt
 have l2:=h.lo.mv.lt
 have l3:=h.lo.map.lt
 have a1:bv≠s:=h.lo.sv.apart h.lo.sto.blk (by decide)
 have a2:bm≠s:=h.lo.mv.apart h.lo.sto.blk (by decide)
 exact ⟨⟨k1,(k2.other bv l1 h.hv a1).trans h.lo.sv,(k2.other bm l2 h.hm a2).trans h.lo.mv,h.lo.map.keep (k2.other mb l3 h.lo.out.1 h.lo.out.2.1),⟨hb mb l3 h.lo.out.1,h.lo.out.2⟩⟩,hb bv l1 h.hv,hb bm l2 h.hm⟩
theorem sin_val {v:Value} {ps:List MemPlace} {t j:Nat} (hm:m j=some t) (hv:u64R v=some ((sinM m j).getD (.lit (.int .u64 0)),ps)):v= .int .u64 (t:Int):=by
 unfold sinM at hv
 rw [hm] at hv
 change u64R v=some (.lit (.int .u64 (t:Int)),ps) at hv
 unfold u64R at hv
 split at hv
 ·injection hv with hv
  have hy:(DataW.lit (.int .u64 _):DataW Unit)= .lit (.int .u64 (t:Int)):=(Prod.mk.inj hv).1
  injection hy with hy
  injection hy with _ hy
  rw [hy]
 ·cases hv
theorem sredo1_no (h:ReSt w0 w Z s S R bv bm mb m n) (at_:Nat) (k tx pv nx:Int) (pgn off:Nat) (op:Bool) (A5 A6 A8:Option Addr) (n5 c5 n6 c6 n8 c8:Nat) (hpg:pgn < 100000) (hk:(decide (k=2) || decide (k=3))=false):
  Calls Tryz.prog 95 #[.int .u64 (at_:Int), .agg #[.int .u8 k, .int .u64 tx, .int .u64 pv, .int .i64 (pgn:Int), .int .i64 (off:Int), .slice A5 n5 c5, .slice A6 n6 c6, .int .u64 nx, .slice A8 n8 c8, .bool op], .pointer (some ⟨bm,0,none⟩), .pointer (some ⟨bv,0,none⟩)] w (fun e w' =>e= .returned (.int .i64 0)∧ReSt w0 w' Z s S R bv bm mb m n):=by
 obtain ⟨wb,HWB⟩:∃wb,Hid (w.alloc (.cells #[.int .u8 k, .int .u64 tx, .int .u64 pv, .int .i64 (pgn:Int), .int .i64 (off:Int), .slice A5 n5 c5, .slice A6 n6 c6, .int .u64 nx, .slice A8 n8 c8, .bool op] 95)=wb):=⟨_,hide rfl⟩
 obtain ⟨gR,HGR⟩:∃gR,Hid (w.heap.size=gR):=⟨_,hide rfl⟩
 have HXB:Hid (Ext w wb):=hide (by rw [← HWB.out];exact Ext.alloc _ _)
 have HRB:Hid (Rw wb gR 95 [.int .u8 k, .int .u64 tx, .int .u64 pv, .int .i64 (pgn:Int), .int .i64 (off:Int), .slice A5 n5 c5, .slice A6 n6 c6, .int .u64 nx, .slice A8 n8 c8, .bool op]):=hide (by rw [← HWB.out,← HGR.out];exact Rw.new w 95 [.int .u8 k, .int .u64 tx, .int .u64 pv, .int .i64 (pgn:Int), .int .i64 (off:Int), .slice A5 n5 c5, .slice A6 n6 c6, .int .u64 nx, .slice A8 n8 c8, .bool op])
 have HB:=hide (h.ext_ HXB.out)
 have KCH:Hid (∀W,Calls Tryz.prog 94 #[.agg #[.int .u8 k, .int .u64 tx, .int .u64 pv, .int .i64 (pgn:Int), .int .i64 (off:Int), .slice A5 n5 c5, .slice A6 n6 c6, .int .u64 nx, .slice A8 n8 c8, .bool op]] W (fun e w' =>e= .returned (.bool false)∧Ext W w')):=hide (fun W=>by
  have k:=schanges_any (.int .u64 tx) (.int .u64 pv) (.int .i64 (pgn:Int)) (.int .i64 (off:Int)) (.slice A5 n5 c5) (.slice A6 n6 c6) (.int .u64 nx) (.slice A8 n8 c8) (.bool op) k W
  rw [hk] at k
  exact k)
 have r0:=HRB.out.cell (i:=0) rfl
 have r1:=HRB.out.cell (i:=1) rfl
 have r2:=HRB.out.cell (i:=2) rfl
 have r3:=HRB.out.cell (i:=3) rfl
 have r4:=HRB.out.cell (i:=4) rfl
 have r5:=HRB.out.cell (i:=5) rfl
 have r6:=HRB.out.cell (i:=6) rfl
 have r7:=HRB.out.cell (i:=7) rfl
 have r8:=HRB.out.cell (i:=8) rfl
 have r9:=HRB.out.cell (i:=9) rfl
 have bmc:=HB.out.lo.mv.cell (i:=0) rfl
 obtain ⟨v6,ps6,hlk6,hv6⟩:=HB.out.lo.map.look_ok (t:=86) (e:=34) Tryz.underlying86 (z:= .int .u64 0) (by kernel_rfl) (zd:= .lit (.int .u64 0)) (zp:= []) rfl pgn hpg
 have hsq:(sinM m pgn).isSome=(m pgn).isSome:=by unfold sinM;cases m pgn <;> rfl
 rw [hsq] at hlk6
 clear hsq
 clear h hpg hk hv6
 go_enter Tryz.func95,Tryz.ntmps95
 go_upto_region 1 with fail
 rw [HWB.out,HGR.out]
 go_wp2_with (go_at_call 94;(with_reducible refine (KCH.out wb).mono ?_);rintro e5 w5 ⟨rfl,hx5⟩;have HX5:=hide hx5;clear hx5)
 go_ret
 exact ⟨rfl,HB.out.ext_ HX5.out⟩
theorem sredo1_out (h:ReSt w0 w Z s S R bv bm mb m n) (at_:Nat) (k tx pv nx:Int) (pgn off:Nat) (op:Bool) (A5 A6 A8:Option Addr) (n5 c5 n6 c6 n8 c8:Nat) (hpg:pgn < 100000) (hk:(decide (k=2) || decide (k=3))=true) (hmp:m pgn=none):
  Calls Tryz.prog 95 #[.int .u64 (at_:Int), .agg #[.int .u8 k, .int .u64 tx, .int .u64 pv, .int .i64 (pgn:Int), .int .i64 (off:Int), .slice A5 n5 c5, .slice A6 n6 c6, .int .u64 nx, .slice A8 n8 c8, .bool op], .pointer (some ⟨bm,0,none⟩), .pointer (some ⟨bv,0,none⟩)] w (fun e w' =>e= .returned (.int .i64 0)∧ReSt w0 w' Z s S R bv bm mb m n):=by
 obtain ⟨wb,HWB⟩:∃wb,Hid (w.alloc (.cells #[.int .u8 k, .int .u64 tx, .int .u64 pv, .int .i64 (pgn:Int), .int .i64 (off:Int), .slice A5 n5 c5, .slice A6 n6 c6, .int .u64 nx, .slice A8 n8 c8, .bool op] 95)=wb):=⟨_,hide rfl⟩
 obtain ⟨gR,HGR⟩:∃gR,Hid (w.heap.size=gR):=⟨_,hide rfl⟩
 have HXB:Hid (Ext w wb):=hide (by rw [← HWB.out];exact Ext.alloc _ _)
 have HRB:Hid (Rw wb gR 95 [.int .u8 k, .int .u64 tx, .int .u64 pv, .int .i64 (pgn:Int), .int .i64 (off:Int), .slice A5 n5 c5, .slice A6 n6 c6, .int .u64 nx, .slice A8 n8 c8, .bool op]):=hide (by rw [← HWB.out,← HGR.out];exact Rw.new w 95 [.int .u8 k, .int .u64 tx, .int .u64 pv, .int .i64 (pgn:Int), .int .i64 (off:Int), .slice A5 n5 c5, .slice A6 n6 c6, .int .u64 nx, .slice A8 n8 c8, .bool op])
 have HB:=hide (h.ext_ HXB.out)
 have KCH:Hid (∀W,Calls Tryz.prog 94 #[.agg #[.int .u8 k, .int .u64 tx, .int .u64 pv, .int .i64 (pgn:Int), .int .i64 (off:Int), .slice A5 n5 c5, .slice A6 n6 c6, .int .u64 nx, .slice A8 n8 c8, .bool op]] W (fun e w' =>e= .returned (.bool true)∧Ext W w')):=hide (fun W=>by
  have k:=schanges_any (.int .u64 tx) (.int .u64 pv) (.int .i64 (pgn:Int)) (.int .i64 (off:Int)) (.slice A5 n5 c5) (.slice A6 n6 c6) (.int .u64 nx) (.slice A8 n8 c8) (.bool op) k W
  rw [hk] at k
  exact k)
 have r0:=HRB.out.cell (i:=0) rfl
 have r1:=HRB.out.cell (i:=1) rfl
 have r2:=HRB.out.cell (i:=2) rfl
 have r3:=HRB.out.cell (i:=3) rfl
 have r4:=HRB.out.cell (i:=4) rfl
 have r5:=HRB.out.cell (i:=5) rfl
 have r6:=HRB.out.cell (i:=6) rfl
 have r7:=HRB.out.cell (i:=7) rfl
 have r8:=HRB.out.cell (i:=8) rfl
 have r9:=HRB.out.cell (i:=9) rfl
 have bmc:=HB.out.lo.mv.cell (i:=0) rfl
 obtain ⟨v6,ps6,hlk6,hv6⟩:=HB.out.lo.map.look_ok (t:=86) (e:=34) Tryz.underlying86 (z:= .int .u64 0) (by kernel_rfl) (zd:= .lit (.int .u64 0)) (zp:= []) rfl pgn hpg
 have hsq:(sinM m pgn).isSome=(m pgn).isSome:=by unfold sinM;cases m pgn <;> rfl
 rw [hsq] at hlk6
 clear hsq
 rw [hmp] at hlk6
 clear h hpg hk hv6 hmp
 simp only [Option.isSome_none] at hlk6
 go_enter Tryz.func95,Tryz.ntmps95
 go_upto_region 1 with fail
 rw [HWB.out,HGR.out]
 go_wp2_with (go_at_call 94;(with_reducible refine (KCH.out wb).mono ?_);rintro e5 w5 ⟨rfl,hx5⟩;have HX5:=hide hx5;clear hx5)
 go_ret
 exact ⟨rfl,HB.out.ext_ HX5.out⟩
theorem sredo1_early (h:ReSt w0 w Z s S R bv bm mb m n) (at_:Nat) (k tx pv nx:Int) (pgn off:Nat) (op:Bool) (A5 A6 A8:Option Addr) (n5 c5 n6 c6 n8 c8:Nat) (hpg:pgn < 100000) (hk:(decide (k=2) || decide (k=3))=true) (f0:Nat) (hmp:m pgn=some f0) (hlt:at_ < f0):
  Calls Tryz.prog 95 #[.int .u64 (at_:Int), .agg #[.int .u8 k, .int .u64 tx, .int .u64 pv, .int .i64 (pgn:Int), .int .i64 (off:Int), .slice A5 n5 c5, .slice A6 n6 c6, .int .u64 nx, .slice A8 n8 c8, .bool op], .pointer (some ⟨bm,0,none⟩), .pointer (some ⟨bv,0,none⟩)] w (fun e w' =>e= .returned (.int .i64 0)∧ReSt w0 w' Z s S R bv bm mb m n):=by
 obtain ⟨wb,HWB⟩:∃wb,Hid (w.alloc (.cells #[.int .u8 k, .int .u64 tx, .int .u64 pv, .int .i64 (pgn:Int), .int .i64 (off:Int), .slice A5 n5 c5, .slice A6 n6 c6, .int .u64 nx, .slice A8 n8 c8, .bool op] 95)=wb):=⟨_,hide rfl⟩
 obtain ⟨gR,HGR⟩:∃gR,Hid (w.heap.size=gR):=⟨_,hide rfl⟩
 have HXB:Hid (Ext w wb):=hide (by rw [← HWB.out];exact Ext.alloc _ _)
 have HRB:Hid (Rw wb gR 95 [.int .u8 k, .int .u64 tx, .int .u64 pv, .int .i64 (pgn:Int), .int .i64 (off:Int), .slice A5 n5 c5, .slice A6 n6 c6, .int .u64 nx, .slice A8 n8 c8, .bool op]):=hide (by rw [← HWB.out,← HGR.out];exact Rw.new w 95 [.int .u8 k, .int .u64 tx, .int .u64 pv, .int .i64 (pgn:Int), .int .i64 (off:Int), .slice A5 n5 c5, .slice A6 n6 c6, .int .u64 nx, .slice A8 n8 c8, .bool op])
 have HB:=hide (h.ext_ HXB.out)
 have KCH:Hid (∀W,Calls Tryz.prog 94 #[.agg #[.int .u8 k, .int .u64 tx, .int .u64 pv, .int .i64 (pgn:Int), .int .i64 (off:Int), .slice A5 n5 c5, .slice A6 n6 c6, .int .u64 nx, .slice A8 n8 c8, .bool op]] W (fun e w' =>e= .returned (.bool true)∧Ext W w')):=hide (fun W=>by
  have k:=schanges_any (.int .u64 tx) (.int .u64 pv) (.int .i64 (pgn:Int)) (.int .i64 (off:Int)) (.slice A5 n5 c5) (.slice A6 n6 c6) (.int .u64 nx) (.slice A8 n8 c8) (.bool op) k W
  rw [hk] at k
  exact k)
 have r0:=HRB.out.cell (i:=0) rfl
 have r1:=HRB.out.cell (i:=1) rfl
 have r2:=HRB.out.cell (i:=2) rfl
 have r3:=HRB.out.cell (i:=3) rfl
 have r4:=HRB.out.cell (i:=4) rfl
 have r5:=HRB.out.cell (i:=5) rfl
 have r6:=HRB.out.cell (i:=6) rfl
 have r7:=HRB.out.cell (i:=7) rfl
 have r8:=HRB.out.cell (i:=8) rfl
 have r9:=HRB.out.cell (i:=9) rfl
 have bmc:=HB.out.lo.mv.cell (i:=0) rfl
 obtain ⟨v6,ps6,hlk6,hv6⟩:=HB.out.lo.map.look_ok (t:=86) (e:=34) Tryz.underlying86 (z:= .int .u64 0) (by kernel_rfl) (zd:= .lit (.int .u64 0)) (zp:= []) rfl pgn hpg
 have hsq:(sinM m pgn).isSome=(m pgn).isSome:=by unfold sinM;cases m pgn <;> rfl
 rw [hsq] at hlk6
 clear hsq
 have hv:=sin_val hmp hv6
 subst hv
 rw [hmp] at hlk6
 have hl2:(at_:Int) < (f0:Int):=by omega
 clear h hpg hk hv6 hmp hlt
 simp only [Option.isSome_some] at hlk6
 go_enter Tryz.func95,Tryz.ntmps95
 go_upto_region 1 with fail
 rw [HWB.out,HGR.out]
 go_wp2_with (go_at_call 94;(with_reducible refine (KCH.out wb).mono ?_);rintro e5 w5 ⟨rfl,hx5⟩;have HX5:=hide hx5;clear hx5)
 go_ret
 exact ⟨rfl,HB.out.ext_ HX5.out⟩
theorem sredo1_late (h:ReSt w0 w Z s S R bv bm mb m n) (at_:Nat) (k tx pv nx:Int) (pgn off:Nat) (op:Bool) (A5 A6 A8:Option Addr) (n5 c5 n6 c6 n8 c8:Nat) (hpg:pgn < 100000) {c:Nat} (ft:S.Fit c) (hc:c≤400000) (hT:Tab w0) (hk:(decide (k=2) || decide (k=3))=true) (f0:Nat) (hmp:m pgn=some f0) (hle:f0≤at_) (hp1:pageR S (pgn:Int)=(0,S1)) (f1:Fm) (hf1:S1.P.H pgn=some f1) (hcmp:at_≤f1.last):
  Calls Tryz.prog 95 #[.int .u64 (at_:Int), .agg #[.int .u8 k, .int .u64 tx, .int .u64 pv, .int .i64 (pgn:Int), .int .i64 (off:Int), .slice A5 n5 c5, .slice A6 n6 c6, .int .u64 nx, .slice A8 n8 c8, .bool op], .pointer (some ⟨bm,0,none⟩), .pointer (some ⟨bv,0,none⟩)] w (fun e w' =>e= .returned (.int .i64 0)∧∃Z2,(Z2.X.q=Z.X.q∧Z2.X.g=Z.X.g)∧ReSt w0 w' Z2 s S1 R bv bm mb m n):=by
 obtain ⟨wb,HWB⟩:∃wb,Hid (w.alloc (.cells #[.int .u8 k, .int .u64 tx, .int .u64 pv, .int .i64 (pgn:Int), .int .i64 (off:Int), .slice A5 n5 c5, .slice A6 n6 c6, .int .u64 nx, .slice A8 n8 c8, .bool op] 95)=wb):=⟨_,hide rfl⟩
 obtain ⟨gR,HGR⟩:∃gR,Hid (w.heap.size=gR):=⟨_,hide rfl⟩
 have HXB:Hid (Ext w wb):=hide (by rw [← HWB.out];exact Ext.alloc _ _)
 have HRB:Hid (Rw wb gR 95 [.int .u8 k, .int .u64 tx, .int .u64 pv, .int .i64 (pgn:Int), .int .i64 (off:Int), .slice A5 n5 c5, .slice A6 n6 c6, .int .u64 nx, .slice A8 n8 c8, .bool op]):=hide (by rw [← HWB.out,← HGR.out];exact Rw.new w 95 [.int .u8 k, .int .u64 tx, .int .u64 pv, .int .i64 (pgn:Int), .int .i64 (off:Int), .slice A5 n5 c5, .slice A6 n6 c6, .int .u64 nx, .slice A8 n8 c8, .bool op])
 have HB:=hide (h.ext_ HXB.out)
 have KCH:Hid (∀W,Calls Tryz.prog 94 #[.agg #[.int .u8 k, .int .u64 tx, .int .u64 pv, .int .i64 (pgn:Int), .int .i64 (off:Int), .slice A5 n5 c5, .slice A6 n6 c6, .int .u64 nx, .slice A8 n8 c8, .bool op]] W (fun e w' =>e= .returned (.bool true)∧Ext W w')):=hide (fun W=>by
  have k:=schanges_any (.int .u64 tx) (.int .u64 pv) (.int .i64 (pgn:Int)) (.int .i64 (off:Int)) (.slice A5 n5 c5) (.slice A6 n6 c6) (.int .u64 nx) (.slice A8 n8 c8) (.bool op) k W
  rw [hk] at k
  exact k)
 have r0:=HRB.out.cell (i:=0) rfl
 have r1:=HRB.out.cell (i:=1) rfl
 have r2:=HRB.out.cell (i:=2) rfl
 have r3:=HRB.out.cell (i:=3) rfl
 have r4:=HRB.out.cell (i:=4) rfl
 have r5:=HRB.out.cell (i:=5) rfl
 have r6:=HRB.out.cell (i:=6) rfl
 have r7:=HRB.out.cell (i:=7) rfl
 have r8:=HRB.out.cell (i:=8) rfl
 have r9:=HRB.out.cell (i:=9) rfl
 have bmc:=HB.out.lo.mv.cell (i:=0) rfl
 obtain ⟨v6,ps6,hlk6,hv6⟩:=HB.out.lo.map.look_ok (t:=86) (e:=34) Tryz.underlying86 (z:= .int .u64 0) (by kernel_rfl) (zd:= .lit (.int .u64 0)) (zp:= []) rfl pgn hpg
 have hsq:(sinM m pgn).isSome=(m pgn).isSome:=by unfold sinM;cases m pgn <;> rfl
 rw [hsq] at hlk6
 clear hsq
 have HZ0:Hid (∀ {b:Nat},Z.has S.P b→b < w.heap.size):=hide (fun hh=>h.lo.sto.pool.has_lt hh)
 obtain ⟨fl,HFL⟩:∃fl,Hid (f1.last=fl):=⟨_,hide rfl⟩
 rw [HFL.out] at hcmp
 have KRD:Hid (∀W,ReSt w0 W Z s S R bv bm mb m n→Calls Tryz.prog 35 #[.pointer (some ⟨Z.q,0,none⟩), .int .i64 (pgn:Int)] W (fun e w' =>∃Z2 A cc,e= .returned (.tuple #[.slice A 504 cc, .int .u64 (fl:Int), .int .i64 0])∧ReSt w0 w' Z2 s S1 R bv bm mb m n∧Sfr Z s S.P W w'∧Z2.Later S1.P Z S.P W)):=hide (fun W hW=>(pread_ok hW.lo.sto.pool ft hc hT (pgn:Int) S1 hp1).mono fun e w' hh=>by
  obtain ⟨f,Z',A,cc,hf,he,hrd,-,hl,hpf,hn2⟩:=hh
  rw [Int.toNat_natCast,hf1] at hf
  injection hf with hf
  subst hf
  rw [HFL.out] at he
  exact ⟨Z',A,cc,he,hW.later (hW.lo.sto.later hl hpf hn2) (Sfr.of hpf) hn2,Sfr.of hpf,hn2⟩)
 have hv:=sin_val hmp hv6
 subst hv
 rw [hmp] at hlk6
 have hl2:¬(at_:Int) < (f0:Int):=by omega
 simp only [Option.isSome_some] at hlk6
 have hgq:(fl:Int)≥(at_:Int):=by omega
 clear h hpg hk hv6 hmp hle hcmp ft hc hT hp1 hf1
 go_enter Tryz.func95,Tryz.ntmps95
 go_upto_region 1 with fail
 rw [HWB.out,HGR.out]
 go_upto_region 4 with (go_at_call 94;(with_reducible refine (KCH.out wb).mono ?_);rintro e5 w5 ⟨rfl,hx5⟩;have HX5:=hide hx5;clear hx5)
 have HP5:=hide (HB.out.ext_ HX5.out)
 have HR5:=hide (HRB.out.ext HX5.out)
 have HG5:Hid (gR < w5.heap.size∧¬Z.has S.P gR∧gR≠s):=hide ⟨HR5.out.lt,fun hh=>by
   have h1:=HZ0.out hh
   have:=HGR.out
   omega,HR5.out.apart HP5.out.lo.sto.blk (by decide)⟩
 have HNB:Hid (bv < w5.heap.size∧¬Z.has S.P bv∧bv≠s):=hide ⟨HP5.out.lo.sv.lt,HP5.out.hv,HP5.out.lo.sv.apart HP5.out.lo.sto.blk (by decide)⟩
 clear bmc r0 r1 r2 r3 r4 r5 r6 r7 r8 r9 hlk6 hl2
 obtain ⟨wd,HWD⟩:∃wd,Hid (w5.drew=wd):=⟨_,hide rfl⟩
 have HXD:Hid (Ext w5 wd):=hide (by rw [← HWD.out];exact Ext.drew _)
 have HPD:=hide (HP5.out.ext_ HXD.out)
 have KRW:=hide (KRD.out wd HPD.out)
 have cS5:w5.cell? ⟨bv,0,none⟩=some (.pointer (some ⟨s,0,none⟩))∧w5.cell? ⟨s,2,none⟩=some (.pointer (some ⟨Z.q,0,none⟩))∧w5.cell? ⟨gR,3,none⟩=some (.int .i64 (pgn:Int)):=⟨HP5.out.lo.sv.cell (i:=0) rfl,HP5.out.lo.sto.blk.cell (i:=2) rfl,HR5.out.cell (i:=3) rfl⟩
 have cSD:wd.cell? ⟨bv,0,none⟩=some (.pointer (some ⟨s,0,none⟩))∧wd.cell? ⟨s,2,none⟩=some (.pointer (some ⟨Z.q,0,none⟩))∧wd.cell? ⟨gR,3,none⟩=some (.int .i64 (pgn:Int)):=⟨HPD.out.lo.sv.cell (i:=0) rfl,HPD.out.lo.sto.blk.cell (i:=2) rfl,(HR5.out.ext HXD.out).cell (i:=3) rfl⟩
 go_region_held3 (fun w' =>w'.cell? ⟨bv,0,none⟩=some (.pointer (some ⟨s,0,none⟩))∧w'.cell? ⟨s,2,none⟩=some (.pointer (some ⟨Z.q,0,none⟩))∧w'.cell? ⟨gR,3,none⟩=some (.int .i64 (pgn:Int))) (first | exact cS5 | exact cSD | exact cS7) (first | (go_at_call 35;rw [HWD.out];(with_reducible refine KRW.out.mono ?_);rintro e w7 ⟨Z7,A7,cc7,rfl,h7,hf7,hl7⟩;have H7:=hide h7;have HF7:=hide hf7;have HL7:=hide hl7;have HR7:Hid (Rw w7 gR 95 [.int .u8 k, .int .u64 tx, .int .u64 pv, .int .i64 (pgn:Int), .int .i64 (off:Int), .slice A5 n5 c5, .slice A6 n6 c6, .int .u64 nx, .slice A8 n8 c8, .bool op]):=hide ((hf7.other gR (Nat.lt_of_lt_of_le HG5.out.1 HXD.out.size) HG5.out.2.1 HG5.out.2.2).trans (HR5.out.ext HXD.out));have cS7:w7.cell? ⟨bv,0,none⟩=some (.pointer (some ⟨s,0,none⟩))∧w7.cell? ⟨s,2,none⟩=some (.pointer (some ⟨Z.q,0,none⟩))∧w7.cell? ⟨gR,3,none⟩=some (.int .i64 (pgn:Int)):=(by have h0:=H7.out.lo.sto.blk.cell (i:=2) rfl;rw [HL7.out.q] at h0;exact ⟨H7.out.lo.sv.cell (i:=0) rfl,h0,HR7.out.cell (i:=3) rfl⟩);clear h7 hf7 hl7))
 all_goals
  go_wp2
  go_ret
  exact ⟨rfl,Z7,⟨HL7.out.X.q,HL7.out.X.g⟩,H7.out⟩
theorem sredo1_do (h:ReSt w0 w Z s S R bv bm mb m n) (at_:Nat) (k tx pv nx:Int) (pgn off:Nat) (op:Bool) (A5 A6 A8:Option Addr) (n5 c5 n6 c6 n8 c8:Nat) (hpg:pgn < 100000) {c c1:Nat} (ft:S.Fit c) (hc:c≤400000) (ft1:S1.Fit c1) (hc1:c1≤400000) (hT:Tab w0) (hk:(decide (k=2) || decide (k=3))=true) (f0:Nat) (hmp:m pgn=some f0) (hle:f0≤at_) (hp1:pageR S (pgn:Int)=(0,S1)) (f1:Fm) (hf1:S1.P.H pgn=some f1) (hcmp:f1.last < at_) (hp2:pageR S1 (pgn:Int)=(0,S2)) (af:List UInt8) (hn6:af.length=n6) (hoff:off + n6≤504) (hA:Rd w A6 af) (hA2:∀a,A6=some a→a.block < w.heap.size∧¬Z.has S.P a.block∧a.block≠s):
  Calls Tryz.prog 95 #[.int .u64 (at_:Int), .agg #[.int .u8 k, .int .u64 tx, .int .u64 pv, .int .i64 (pgn:Int), .int .i64 (off:Int), .slice A5 n5 c5, .slice A6 n6 c6, .int .u64 nx, .slice A8 n8 c8, .bool op], .pointer (some ⟨bm,0,none⟩), .pointer (some ⟨bv,0,none⟩)] w (fun e w' =>e= .returned (.int .i64 0)∧∃f Z2,S2.P.H pgn=some f∧(Z2.X.q=Z.X.q∧Z2.X.g=Z.X.g)∧ReSt w0 w' Z2 s (setS S2 pgn (chF f off af at_)) R bv bm mb m n):=by
 obtain ⟨wb,HWB⟩:∃wb,Hid (w.alloc (.cells #[.int .u8 k, .int .u64 tx, .int .u64 pv, .int .i64 (pgn:Int), .int .i64 (off:Int), .slice A5 n5 c5, .slice A6 n6 c6, .int .u64 nx, .slice A8 n8 c8, .bool op] 95)=wb):=⟨_,hide rfl⟩
 obtain ⟨gR,HGR⟩:∃gR,Hid (w.heap.size=gR):=⟨_,hide rfl⟩
 have HXB:Hid (Ext w wb):=hide (by rw [← HWB.out];exact Ext.alloc _ _)
 have HRB:Hid (Rw wb gR 95 [.int .u8 k, .int .u64 tx, .int .u64 pv, .int .i64 (pgn:Int), .int .i64 (off:Int), .slice A5 n5 c5, .slice A6 n6 c6, .int .u64 nx, .slice A8 n8 c8, .bool op]):=hide (by rw [← HWB.out,← HGR.out];exact Rw.new w 95 [.int .u8 k, .int .u64 tx, .int .u64 pv, .int .i64 (pgn:Int), .int .i64 (off:Int), .slice A5 n5 c5, .slice A6 n6 c6, .int .u64 nx, .slice A8 n8 c8, .bool op])
 have HB:=hide (h.ext_ HXB.out)
 have KCH:Hid (∀W,Calls Tryz.prog 94 #[.agg #[.int .u8 k, .int .u64 tx, .int .u64 pv, .int .i64 (pgn:Int), .int .i64 (off:Int), .slice A5 n5 c5, .slice A6 n6 c6, .int .u64 nx, .slice A8 n8 c8, .bool op]] W (fun e w' =>e= .returned (.bool true)∧Ext W w')):=hide (fun W=>by
  have k:=schanges_any (.int .u64 tx) (.int .u64 pv) (.int .i64 (pgn:Int)) (.int .i64 (off:Int)) (.slice A5 n5 c5) (.slice A6 n6 c6) (.int .u64 nx) (.slice A8 n8 c8) (.bool op) k W
  rw [hk] at k
  exact k)
 have r0:=HRB.out.cell (i:=0) rfl
 have r1:=HRB.out.cell (i:=1) rfl
 have r2:=HRB.out.cell (i:=2) rfl
 have r3:=HRB.out.cell (i:=3) rfl
 have r4:=HRB.out.cell (i:=4) rfl
 have r5:=HRB.out.cell (i:=5) rfl
 have r6:=HRB.out.cell (i:=6) rfl
 have r7:=HRB.out.cell (i:=7) rfl
 have r8:=HRB.out.cell (i:=8) rfl
 have r9:=HRB.out.cell (i:=9) rfl
 have bmc:=HB.out.lo.mv.cell (i:=0) rfl
 obtain ⟨v6,ps6,hlk6,hv6⟩:=HB.out.lo.map.look_ok (t:=86) (e:=34) Tryz.underlying86 (z:= .int .u64 0) (by kernel_rfl) (zd:= .lit (.int .u64 0)) (zp:= []) rfl pgn hpg
 have hsq:(sinM m pgn).isSome=(m pgn).isSome:=by unfold sinM;cases m pgn <;> rfl
 rw [hsq] at hlk6
 clear hsq
 have HZ0:Hid (∀ {b:Nat},Z.has S.P b→b < w.heap.size):=hide (fun hh=>h.lo.sto.pool.has_lt hh)
 obtain ⟨fl,HFL⟩:∃fl,Hid (f1.last=fl):=⟨_,hide rfl⟩
 rw [HFL.out] at hcmp
 have KRD:Hid (∀W,ReSt w0 W Z s S R bv bm mb m n→Calls Tryz.prog 35 #[.pointer (some ⟨Z.q,0,none⟩), .int .i64 (pgn:Int)] W (fun e w' =>∃Z2 A cc,e= .returned (.tuple #[.slice A 504 cc, .int .u64 (fl:Int), .int .i64 0])∧ReSt w0 w' Z2 s S1 R bv bm mb m n∧Sfr Z s S.P W w'∧Z2.Later S1.P Z S.P W)):=hide (fun W hW=>(pread_ok hW.lo.sto.pool ft hc hT (pgn:Int) S1 hp1).mono fun e w' hh=>by
  obtain ⟨f,Z',A,cc,hf,he,hrd,-,hl,hpf,hn2⟩:=hh
  rw [Int.toNat_natCast,hf1] at hf
  injection hf with hf
  subst hf
  rw [HFL.out] at he
  exact ⟨Z',A,cc,he,hW.later (hW.lo.sto.later hl hpf hn2) (Sfr.of hpf) hn2,Sfr.of hpf,hn2⟩)
 have hv:=sin_val hmp hv6
 subst hv
 rw [hmp] at hlk6
 have hl2:¬(at_:Int) < (f0:Int):=by omega
 simp only [Option.isSome_some] at hlk6
 have hgq:¬(fl:Int)≥(at_:Int):=by omega
 have HRA:Hid (∀W W',Ext w W→Sfr Z s S.P W W'→Rd W' A6 af):=hide (fun W W' hx hf=>rd_keepB (rd_keepB hA fun a ha=>Below.block hx a.block (hA2 a ha).1) fun a ha=>hf.other a.block (Nat.lt_of_lt_of_le (hA2 a ha).1 hx.size) (hA2 a ha).2.1 (hA2 a ha).2.2)
 have KWR:Hid (∀W Z2,ReSt w0 W Z2 s S1 R bv bm mb m n→(∀W',Pfr Z2 S1.P W W'→Rd W' A6 af)→Calls Tryz.prog 96 #[.pointer (some ⟨Z2.q,0,none⟩), .int .i64 (pgn:Int), .int .i64 (off:Int), .slice A6 n6 c6, .int .u64 (at_:Int)] W (fun e w' =>e= .returned (.int .i64 0)∧∃f Z3,S2.P.H pgn=some f∧(Z3.X.q=Z2.X.q∧Z3.X.g=Z2.X.g)∧ReSt w0 w' Z3 s (setS S2 pgn (chF f off af at_)) R bv bm mb m n)):=hide (fun W Z2 hW hr=>(pwrite_gen hW.lo.sto.pool ft1 hc1 hT (pgn:Int) S2 hp2 off A6 af n6 c6 hn6 hoff hr at_).mono fun e w' hh=>by
  obtain ⟨f,hf,Z3,he,h1,h2,h3⟩:=hh
  rw [Int.toNat_natCast] at hf h1 h3
  exact ⟨he,f,Z3,hf,⟨h3.X.q,h3.X.g⟩,hW.later (hW.lo.sto.later (S':=setS S2 pgn (chF f off af at_)) h1 h2 h3) (Sfr.of h2) h3⟩)
 clear h hpg hk hv6 hmp hle hcmp ft hc hT hp1 hf1 ft1 hc1 hp2 hn6 hoff hA hA2
 go_enter Tryz.func95,Tryz.ntmps95
 go_upto_region 1 with fail
 rw [HWB.out,HGR.out]
 go_upto_region 4 with (go_at_call 94;(with_reducible refine (KCH.out wb).mono ?_);rintro e5 w5 ⟨rfl,hx5⟩;have HX5:=hide hx5;clear hx5)
 have HP5:=hide (HB.out.ext_ HX5.out)
 have HR5:=hide (HRB.out.ext HX5.out)
 have HG5:Hid (gR < w5.heap.size∧¬Z.has S.P gR∧gR≠s):=hide ⟨HR5.out.lt,fun hh=>by
   have h1:=HZ0.out hh
   have:=HGR.out
   omega,HR5.out.apart HP5.out.lo.sto.blk (by decide)⟩
 have HNB:Hid (bv < w5.heap.size∧¬Z.has S.P bv∧bv≠s):=hide ⟨HP5.out.lo.sv.lt,HP5.out.hv,HP5.out.lo.sv.apart HP5.out.lo.sto.blk (by decide)⟩
 clear bmc r0 r1 r2 r3 r4 r5 r6 r7 r8 r9 hlk6 hl2
 obtain ⟨wd,HWD⟩:∃wd,Hid (w5.drew=wd):=⟨_,hide rfl⟩
 have HXD:Hid (Ext w5 wd):=hide (by rw [← HWD.out];exact Ext.drew _)
 have HPD:=hide (HP5.out.ext_ HXD.out)
 have KRW:=hide (KRD.out wd HPD.out)
 have cS5:w5.cell? ⟨bv,0,none⟩=some (.pointer (some ⟨s,0,none⟩))∧w5.cell? ⟨s,2,none⟩=some (.pointer (some ⟨Z.q,0,none⟩))∧w5.cell? ⟨gR,3,none⟩=some (.int .i64 (pgn:Int)):=⟨HP5.out.lo.sv.cell (i:=0) rfl,HP5.out.lo.sto.blk.cell (i:=2) rfl,HR5.out.cell (i:=3) rfl⟩
 have cSD:wd.cell? ⟨bv,0,none⟩=some (.pointer (some ⟨s,0,none⟩))∧wd.cell? ⟨s,2,none⟩=some (.pointer (some ⟨Z.q,0,none⟩))∧wd.cell? ⟨gR,3,none⟩=some (.int .i64 (pgn:Int)):=⟨HPD.out.lo.sv.cell (i:=0) rfl,HPD.out.lo.sto.blk.cell (i:=2) rfl,(HR5.out.ext HXD.out).cell (i:=3) rfl⟩
 go_region_held3 (fun w' =>w'.cell? ⟨bv,0,none⟩=some (.pointer (some ⟨s,0,none⟩))∧w'.cell? ⟨s,2,none⟩=some (.pointer (some ⟨Z.q,0,none⟩))∧w'.cell? ⟨gR,3,none⟩=some (.int .i64 (pgn:Int))) (first | exact cS5 | exact cSD | exact cS7) (first | (go_at_call 35;rw [HWD.out];(with_reducible refine KRW.out.mono ?_);rintro e w7 ⟨Z7,A7,cc7,rfl,h7,hf7,hl7⟩;have H7:=hide h7;have HF7:=hide hf7;have HL7:=hide hl7;have HR7:Hid (Rw w7 gR 95 [.int .u8 k, .int .u64 tx, .int .u64 pv, .int .i64 (pgn:Int), .int .i64 (off:Int), .slice A5 n5 c5, .slice A6 n6 c6, .int .u64 nx, .slice A8 n8 c8, .bool op]):=hide ((hf7.other gR (Nat.lt_of_lt_of_le HG5.out.1 HXD.out.size) HG5.out.2.1 HG5.out.2.2).trans (HR5.out.ext HXD.out));have cS7:w7.cell? ⟨bv,0,none⟩=some (.pointer (some ⟨s,0,none⟩))∧w7.cell? ⟨s,2,none⟩=some (.pointer (some ⟨Z.q,0,none⟩))∧w7.cell? ⟨gR,3,none⟩=some (.int .i64 (pgn:Int)):=(by have h0:=H7.out.lo.sto.blk.cell (i:=2) rfl;rw [HL7.out.q] at h0;exact ⟨H7.out.lo.sv.cell (i:=0) rfl,h0,HR7.out.cell (i:=3) rfl⟩);clear h7 hf7 hl7))
 all_goals
  go_upto_region 7 with fail
  clear cS5 cSD cS7 hgq
  obtain ⟨wq,HWQ⟩:∃wq,Hid (w7.drew=wq):=⟨_,hide rfl⟩
  have HXQ:Hid (Ext w7 wq):=hide (by rw [← HWQ.out];exact Ext.drew _)
  have HPQ:=hide (H7.out.ext_ HXQ.out)
  have kw0:=KWR.out wq Z7 HPQ.out (fun W' hW' =>HRA.out wd W' ((HXB.out.trans HX5.out).trans HXD.out) ((HF7.out.trans (Sfr.ext HXQ.out) HL7.out).trans (Sfr.of hW') (HL7.out.up (Nat.le_refl _))))
  rw [HL7.out.q] at kw0
  have KWQ:=hide kw0
  clear kw0
  have b7:=H7.out.lo.sv.cell (i:=0) rfl
  have c7:=H7.out.lo.sto.blk.cell (i:=2) rfl
  rw [HL7.out.q] at c7
  have q3:=HR7.out.cell (i:=3) rfl
  have q4:=HR7.out.cell (i:=4) rfl
  have q6:=HR7.out.cell (i:=6) rfl
  go_still_tail 11,(by kernel_rfl)
  change wpList _ _ _ _ _ w7.drew
  rw [HWQ.out]
  go_wp2_with (go_at_call 96;(with_reducible refine KWQ.out.mono ?_);rintro e w9 ⟨rfl,f9,Z9,hf9,hz9,h9⟩;have HF9:=hide hf9;have H9:=hide h9;have HZ9:=hide hz9;clear hf9 h9 hz9)
  go_ret
  exact ⟨rfl,f9,Z9,HF9.out,⟨HZ9.out.1.trans HL7.out.X.q,HZ9.out.2.trans HL7.out.X.g⟩,H9.out⟩
end
section
variable {w0 w w':World} {Z Z':Pk} {s:Nat} {S:St} {R R':Sr}
theorem sstart_any (h:StoAt w0 w Z s S R):Calls Tryz.prog 90 #[.pointer (some ⟨Z.X.q,0,none⟩)] w (Same w (.int .u64 (S.L.hd.st:Int))):=by
 have c4:=h.pool.log.blk.cell (i:=4) rfl
 clear h
 go_enter Tryz.func90,Tryz.ntmps90
 go_wp2
 go_ret
 exact ⟨rfl,rfl⟩
theorem schk_any (h:StoAt w0 w Z s S R):Calls Tryz.prog 91 #[.pointer (some ⟨Z.X.q,0,none⟩)] w (Same w (.int .u64 (S.L.hd.ck:Int))):=by
 have c6:=h.pool.log.blk.cell (i:=6) rfl
 clear h
 go_enter Tryz.func91,Tryz.ntmps91
 go_wp2
 go_ret
 exact ⟨rfl,rfl⟩
def LostP (w0:World) (Z:Pk) (s:Nat) (S:St) (er:Int) (F:Sr→(Nat→Option Nat)→Prop) (e:Ending) (w':World):Prop:=∃bv bm mb m n R',e= .returned (.tuple #[.map (some mb), .int .i64 er])∧LoSt w0 w' Z s S R' bv bm mb m n∧¬Z.has S.P bv∧¬Z.has S.P bm∧F R' m
theorem slost_any (h:StoAt w0 w Z s S R) (er:Int) (F:Sr→(Nat→Option Nat)→Prop)
  (KE:∀W bv bm mb,LoSt w0 W Z s S R bv bm mb (fun _=>none) 0→¬Z.has S.P bv→¬Z.has S.P bm→Calls Tryz.prog 92 #[.pointer (some ⟨s,0,none⟩), .int .u64 ((max S.L.hd.st S.L.hd.ck:Nat):Int), .func (.func 93) #[] #[.pointer (some ⟨bv,0,none⟩), .pointer (some ⟨bm,0,none⟩)]] W (fun e w' =>e= .returned (.int .i64 er)∧∃R' m n,LoSt w0 w' Z s S R' bv bm mb m n∧F R' m)):
  Calls Tryz.prog 54 #[.pointer (some ⟨s,0,none⟩)] w (LostP w0 Z s S er F):=by
 obtain ⟨bv,HBV⟩:∃bv,Hid (w.heap.size=bv):=⟨_,hide rfl⟩
 obtain ⟨wz,HWZ⟩:∃wz,Hid (((w.alloc (.cells #[.pointer (some ⟨s,0,none⟩)] 29)).alloc (.map #[] 0)).alloc (.cells #[.map (some (bv + 1))] 86)=wz):=⟨_,hide rfl⟩
 have HX:Hid (Ext w wz):=hide (by rw [← HWZ.out];exact ((Ext.alloc _ _).trans (Ext.alloc _ _)).trans (Ext.alloc _ _))
 have HLO:Hid (LoSt w0 wz Z s S R bv (bv + 1 + 1) (bv + 1) (fun _=>none) 0):=hide (by
  have hs1:(w.alloc (.cells #[.pointer (some ⟨s,0,none⟩)] 29)).heap.size=bv + 1:=by rw [← HBV.out];simp
  have hs2:((w.alloc (.cells #[.pointer (some ⟨s,0,none⟩)] 29)).alloc (.map #[] 0)).heap.size=bv + 1 + 1:=by rw [← HBV.out];simp
  have x1:Ext (w.alloc (.cells #[.pointer (some ⟨s,0,none⟩)] 29)) wz:=by rw [← HWZ.out];exact (Ext.alloc _ _).trans (Ext.alloc _ _)
  have x2:Ext ((w.alloc (.cells #[.pointer (some ⟨s,0,none⟩)] 29)).alloc (.map #[] 0)) wz:=by rw [← HWZ.out];exact Ext.alloc _ _
  have r1:Rw (w.alloc (.cells #[.pointer (some ⟨s,0,none⟩)] 29)) bv 29 [.pointer (some ⟨s,0,none⟩)]:=by rw [← HBV.out];exact Rw.new _ _ _
  have r2:Rw wz (bv + 1 + 1) 86 [.map (some (bv + 1))]:=by rw [← HWZ.out,← hs2];exact Rw.new _ _ _
  have m2:=MapI.made (R:=u64R) (w.alloc (.cells #[.pointer (some ⟨s,0,none⟩)] 29))
  rw [hs1] at m2
  have m3:=m2.keep (Below.block x2 (bv + 1) (by rw [hs2];omega))
  have h0:=h.pool.log.ext.size
  have h1:=h.blk.lt
  have e0:=HBV.out
  exact ⟨h.ext_ HX.out,r1.ext x1,r2,m3,fun hh=>by have:=h.pool.has_lt hh;omega,by omega,by omega⟩)
 have HNB:Hid (¬Z.has S.P bv∧¬Z.has S.P (bv + 1 + 1)):=hide (by
  have e0:=HBV.out
  exact ⟨fun hh=>by have:=h.pool.has_lt hh;omega,fun hh=>by have:=h.pool.has_lt hh;omega⟩)
 have HKE:=hide (fun W hW=>KE W bv (bv + 1 + 1) (bv + 1) hW HNB.out.1 HNB.out.2)
 have KS:Hid (∀n,Calls Tryz.prog 90 #[.pointer (some ⟨Z.X.q,0,none⟩)] (wz.drewN n) (fun e w' =>e= .returned (.int .u64 (S.L.hd.st:Int))∧∃m,w' =(wz.drewN n).drewN m)):=hide (fun n=>(sstart_any (HLO.out.sto.ext_ ((Ext.refl _).drewN n))).mono fun _ _ hh=>⟨hh.1,0,hh.2.symm⟩)
 have KC:Hid (∀n,Calls Tryz.prog 91 #[.pointer (some ⟨Z.X.q,0,none⟩)] (wz.drewN n) (fun e w' =>e= .returned (.int .u64 (S.L.hd.ck:Int))∧∃m,w' =(wz.drewN n).drewN m)):=hide (fun n=>(schk_any (HLO.out.sto.ext_ ((Ext.refl _).drewN n))).mono fun _ _ hh=>⟨hh.1,0,hh.2.symm⟩)
 obtain ⟨st,HST⟩:∃st,Hid (S.L.hd.st=st):=⟨_,hide rfl⟩
 obtain ⟨ck,HCK⟩:∃ck,Hid (S.L.hd.ck=ck):=⟨_,hide rfl⟩
 obtain ⟨fr,HFR⟩:∃fr,Hid (max st ck=fr):=⟨_,hide rfl⟩
 have hmx:∀(W:World) (ts:Array TypeId) (t:TypeId),(Builtin.max_ ts t #[.int .u64 (st:Int), .int .u64 (ck:Int)]).run Tryz.prog W= .ok (.int .u64 (fr:Int)) W:=fun W ts t=>by
  rw [run_max_int2]
  have e:(if (ck:Int) > (st:Int) then (ck:Int) else (st:Int))=(fr:Int):=by
   rw [← HFR.out]
   split <;> omega
  rw [e]
 rw [HST.out] at KS HKE
 rw [HCK.out] at KC HKE
 rw [HFR.out] at HKE
 have c0:∀n,(wz.drewN n).cell? ⟨bv,0,none⟩=some (.pointer (some ⟨s,0,none⟩)):=fun n=>(HLO.out.ext_ ((Ext.refl _).drewN n)).sv.cell (i:=0) rfl
 have c1:∀n,(wz.drewN n).cell? ⟨s,1,none⟩=some (.pointer (some ⟨Z.X.q,0,none⟩)):=fun n=>(HLO.out.ext_ ((Ext.refl _).drewN n)).sto.blk.cell (i:=1) rfl
 clear h KE
 have hmm:= @run_makeMap Tryz.prog
 go_enter Tryz.func54,Tryz.ntmps54
 go_upto_region 2 with fail
 rw [HBV.out,HWZ.out]
 clear hmm
 go_quiet (first
  | (go_at_call 90;exact Calls.quiet_of (KS.out _))
  | (go_at_call 91;exact Calls.quiet_of (KC.out _)))
 obtain ⟨wq,hwq⟩:∃wq,wz.drewN nq=wq:=⟨_,rfl⟩
 have HLQ:=hide (HLO.out.ext_ (show Ext wz wq by rw [← hwq];exact (Ext.refl _).drewN _))
 rw [hwq]
 clear hwq c0 c1 hmx
 have KEQ:=hide (HKE.out wq HLQ.out)
 have b0:=HLQ.out.sv.cell (i:=0) rfl
 go_upto_region 4 with (go_at_call 92;(with_reducible refine KEQ.out.mono ?_);rintro e w5 ⟨rfl,R5,m5,n5,h5,hf5⟩;have H5:=hide h5;have HF5:=hide hf5;clear h5 hf5)
 have b2:=H5.out.mv.cell (i:=0) rfl
 go_wp2
 go_ret2
 exact ⟨bv,bv + 1 + 1,bv + 1,m5,n5,R5,rfl,H5.out,HNB.out.1,HNB.out.2,HF5.out⟩
end
theorem sin_is (m:Nat→Option Nat):∀i d v y,sinM m i=some d→u64R v=some y→y.1=d→v= .int .u64 (((m i).getD 0:Nat):Int):=fun i d v y hm hv hy=>by
 unfold sinM at hm
 cases hW:m i with
 | none=>rw [hW] at hm;cases hm
 | some s=>
  rw [hW] at hm
  have hm:DataW.lit (.int .u64 (s:Int))=d:=Option.some.inj hm
  unfold u64R at hv
  split at hv
  ·injection hv with hv
   rw [← hv,← hm] at hy
   have hy:(DataW.lit (.int .u64 _):DataW Unit)= .lit (.int .u64 (s:Int)):=hy
   injection hy with hy
   injection hy with _ hy
   rw [hy]
   rfl
  ·cases hv
structure FromAt (m:Nat→Option Nat) (en fr:Nat):Prop where
 le:fr≤en
 low:∀i t,m i=some t→fr≤t
 is:fr=en∨∃i,m i=some fr
theorem FromAt.one {m:Nat→Option Nat} {en a b:Nat} (h:FromAt m en a) (k:FromAt m en b):a=b:=by
 have h1:=h.le
 have k1:=k.le
 rcases h.is with e | ⟨i,e⟩ <;> rcases k.is with f | ⟨j,f⟩
 ·omega
 ·have:=h.low j b f;omega
 ·have:=k.low i a e;omega
 ·have:=h.low j b f;have:=k.low i a e;omega
structure FromLe (m:Nat→Option Nat) (en:Nat) (left:Lit→Bool) (cur:Nat):Prop where
 le:cur≤en
 low:∀i t,m i=some t→left (ik i)=false→cur≤t
 is:cur=en∨∃i,m i=some cur
section
variable {w0 w w':World} {Z Z':Pk} {s mb n:Nat} {S:St} {R R':Sr} {m:Nat→Option Nat}
theorem sredo_any (h:StoAt w0 w Z s S R) (ok:S.L.Ok S.D) (hmap:MapI w u64R mb (sinM m) n) (hout:¬Z.has S.P mb∧mb≠s∧w0.heap.size≤mb) (fr:Nat) (hfr:FromAt m (endOf S.L) fr) (hen:endOf S.L < 1000000000000) (er:Int) (X:World→Prop)
  (KE:∀W bv bm,ReSt w0 W Z s S R bv bm mb m n→Calls Tryz.prog 92 #[.pointer (some ⟨s,0,none⟩), .int .u64 (fr:Int), .func (.func 95) #[] #[.pointer (some ⟨bm,0,none⟩), .pointer (some ⟨bv,0,none⟩)]] W (fun e w' =>e= .returned (.int .i64 er)∧X w')):
  Calls Tryz.prog 55 #[.pointer (some ⟨s,0,none⟩), .map (some mb)] w (fun e w' =>e= .returned (.int .i64 er)∧X w'):=by
 obtain ⟨bv,HBV⟩:∃bv,Hid (w.heap.size=bv):=⟨_,hide rfl⟩
 obtain ⟨wz,HWZ⟩:∃wz,Hid ((w.alloc (.cells #[.pointer (some ⟨s,0,none⟩)] 29)).alloc (.cells #[.map (some mb)] 86)=wz):=⟨_,hide rfl⟩
 have HX:Hid (Ext w wz):=hide (by rw [← HWZ.out];exact (Ext.alloc _ _).trans (Ext.alloc _ _))
 have HRE:Hid (ReSt w0 wz Z s S R bv (bv + 1) mb m n):=hide (by
  have hs1:(w.alloc (.cells #[.pointer (some ⟨s,0,none⟩)] 29)).heap.size=bv + 1:=by rw [← HBV.out];simp
  have x1:Ext (w.alloc (.cells #[.pointer (some ⟨s,0,none⟩)] 29)) wz:=by rw [← HWZ.out];exact Ext.alloc _ _
  have r1:Rw (w.alloc (.cells #[.pointer (some ⟨s,0,none⟩)] 29)) bv 29 [.pointer (some ⟨s,0,none⟩)]:=by rw [← HBV.out];exact Rw.new _ _ _
  have r2:Rw wz (bv + 1) 86 [.map (some mb)]:=by rw [← HWZ.out,← hs1];exact Rw.new _ _ _
  have e0:=HBV.out
  exact ⟨⟨h.ext_ HX.out,r1.ext x1,r2,hmap.keep (Below.block HX.out mb hmap.lt),hout⟩,fun hh=>by have:=h.pool.has_lt hh;omega,fun hh=>by have:=h.pool.has_lt hh;omega⟩)
 have KEN:Hid (Calls Tryz.prog 75 #[.pointer (some ⟨Z.X.q,0,none⟩)] wz (fun e w' =>e= .returned (.int .u64 (endOf S.L:Int))∧Ext wz w')):=hide ((end_any HRE.out.lo.sto.pool.log ok).mono fun _ _ hh=>⟨hh.1,by obtain ⟨m,hm⟩:=hh.2;rw [hm];exact (Ext.refl _).drewN m⟩)
 obtain ⟨en,HEN⟩:∃en,Hid (endOf S.L=en):=⟨_,hide rfl⟩
 rw [HEN.out] at KEN hfr hen
 have HFR:=hide hfr
 have HENB:=hide hen
 have HKE:=hide KE
 have b0:=HRE.out.lo.sv.cell (i:=0) rfl
 have c1:=HRE.out.lo.sto.blk.cell (i:=1) rfl
 clear h ok hmap hout hfr hen KE
 go_enter Tryz.func55,Tryz.ntmps55
 go_upto_region 1 with fail
 rw [HBV.out,HWZ.out]
 go_upto_region 2 with (go_at_call 75;(with_reducible refine KEN.out.mono ?_);rintro e w2 ⟨rfl,hx2⟩;have HX2:=hide hx2;clear hx2)
 have H2:=hide (HRE.out.ext_ HX2.out)
 clear b0 c1
 obtain ⟨Dw,hownw,hreadw⟩:=H2.out.lo.map
 have HRW:=hide hreadw
 have c6:=H2.out.lo.mv.cell (i:=0) rfl
 obtain ⟨r,HR⟩:∃r,Hid (w2.heap.size=r):=⟨_,hide rfl⟩
 have HOR:Hid (mb < r):=hide (by rw [← HR.out];exact H2.out.lo.map.lt)
 clear hreadw
 go_wp2_with (at_range;refine wpList_range_own _ rfl _ 86 rfl 3 34 intK Tryz.underlying86 u64R mb n Dw rfl hownw ?_;intro w3 hrg1 hg1 hs1;have HRG1:=hide hrg1;have HX1:=hide (Ext.of_grown hg1);have HS1:=hide hs1;clear hrg1 hg1 hs1)
 go_frame
 rw [HR.out] at HRG1 HS1 ⊢
 clear c6 hownw
 go_loopw [5] (fun v wr=>∃(cur:Nat) (left:Lit→Bool) (cnt:Nat),v= .int .u64 (cur:Int)∧Hid (wr.ranges Tryz.prog 3 u64R mb r n Dw left cnt)∧Hid (Ext w2 wr)∧Hid (FromLe m en left cur)) (fun _ wr=>wr.rangeLeft mb r)
 case atStart=>
  refine ⟨en,_,_,rfl,HRG1,HX1,hide ⟨Nat.le_refl _,fun i t h hl=> ?_, .inl rfl⟩⟩
  have h1:=HRW.out.has i
  rw [hl] at h1
  have h2:(sinM m i).isSome=true:=by unfold sinM;rw [h];rfl
  rw [h2] at h1
  cases h1
 case round=>
  obtain ⟨cur,left,cnt,rfl,HRG,HXR,HI⟩:=hrel
  go_wp2_with (first
   | (at_next;refine wpList_next_map _ rfl (.tmp 14) rfl u64R mb r n Dw (sinM m) n HRW.out (fun i=> .int .u64 (((m i).getD 0:Nat):Int)) (sin_is m) left cnt rfl HRG.out ?_ ?_)
   | go_in)
  ·intro _ hl0
   have HFE:Hid (cur=fr):=hide (FromAt.one ⟨HI.out.le,fun i t h=>HI.out.low i t h (hl0 _),HI.out.is⟩ HFR.out)
   clear hl0
   have H3:=hide (H2.out.ext_ HXR.out)
   have b0:=H3.out.lo.sv.cell (i:=0) rfl
   have KE3:=hide (HKE.out wr bv (bv + 1) H3.out)
   rw [HFE.out]
   go_wp2_with (go_at_call 92;(with_reducible refine KE3.out.mono ?_);rintro e w5 ⟨rfl,h5⟩;have H5:=hide h5;clear h5)
   go_ret
   exact ⟨rfl,H5.out⟩
  ·intro i w6 cnt6 hsm hi5 hlk hrg6 hlt hgr hsz hen
   obtain ⟨t,ht⟩:∃t,m i=some t:=by
    unfold sinM at hsm
    cases hq:m i with
    | none=>rw [hq] at hsm;cases hsm
    | some f=>exact ⟨f,rfl⟩
   have HT:=hide ht
   rw [ht] at hen ⊢
   simp only [Option.getD_some] at hen ⊢
   have HX6:Hid (Ext w2 w6):=hide (HXR.out.grown hgr (by have:=HR.out;omega))
   have HRG6:=hide hrg6
   have HLT:=hide hlt
   have HS:=hide (left_step left i)
   clear hsm hi5 hlk hrg6 hlt hgr hsz ht
   obtain ⟨c2,HC2⟩:∃c2,Hid (min cur t=c2):=⟨_,hide rfl⟩
   have hmn:∀(W:World) (ts:Array TypeId) (ty:TypeId),(Builtin.min_ ts ty #[.int .u64 (cur:Int), .int .u64 (t:Int)]).run Tryz.prog W= .ok (.int .u64 (c2:Int)) W:=fun W ts ty=>by
    rw [run_min_int2]
    have e:(if (t:Int) < (cur:Int) then (t:Int) else (cur:Int))=(c2:Int):=by
     rw [← HC2.out]
     split <;> omega
    rw [e]
   go_wp2
   refine ⟨⟨c2,_,cnt6,rfl,HRG6,HX6,hide ?_⟩, ?_⟩
   ·have h1:=HI.out.le
    have h2:=HC2.out
    refine ⟨by omega,fun j u hj hl=> ?_, ?_⟩
    ·rcases (HS.out (ik j)).1 hl with h3 | h3
     ·have:=HI.out.low j u hj h3;omega
     ·obtain rfl:=ik_inj h3
      have:=HT.out
      rw [hj] at this
      injection this with this
      omega
    ·rcases Nat.le_total cur t with h3 | h3
     ·rw [Nat.min_eq_left h3] at h2;rw [← h2];exact HI.out.is
     ·rw [Nat.min_eq_right h3] at h2;rw [← h2];exact .inr ⟨i,HT.out⟩
   ·rw [HRG6.out.left_eq,HRG.out.left_eq];exact HLT.out
end
section
variable {w0 w:World} {s q:Nat}
theorem seach_redo (ca cb:Value) (n:Nat) (pl:Nat→Nat) (rc:Nat→Rec) (P:Nat→World→Prop) (Q:Nat→Option Addr→Nat→Nat→Option Addr→Nat→Nat→Option Addr→Nat→Nat→World→Prop)
  (hP:∀j W,P j W→∃Z S R,StoAt w0 W Z s S R∧S.L.Ok S.D∧endOf S.L=pl n∧Z.X.q=q)
  (hPx:∀j W W',P j W→Ext W W'→P j W')
  (hQx:∀j A5 n5 c5 A6 n6 c6 A8 n8 c8 W W',Q j A5 n5 c5 A6 n6 c6 A8 n8 c8 W→Ext W W'→Q j A5 n5 c5 A6 n6 c6 A8 n8 c8 W')
  (hm:∀j,j < n→pl j < pl (j + 1)) (hb:pl n < 1000000000000) (hmon:∀j,j≤n→pl j≤pl n)
  (KR:∀j W,j < n→P j W→Calls Tryz.prog 68 #[.pointer (some ⟨s,0,none⟩), .int .u64 (pl j:Int)] W (fun e w' =>∃A5 n5 c5 A6 n6 c6 A8 n8 c8,e= .returned (.tuple #[.agg #[.int .u8 (rc j).k, .int .u64 (rc j).tx, .int .u64 (rc j).pv, .int .i64 (rc j).pg, .int .i64 (rc j).off, .slice A5 n5 c5, .slice A6 n6 c6, .int .u64 (rc j).nx, .slice A8 n8 c8, .bool (rc j).op], .int .u64 (pl (j + 1):Int), .int .i64 0])∧Q j A5 n5 c5 A6 n6 c6 A8 n8 c8 w'))
  (KC:∀j A5 n5 c5 A6 n6 c6 A8 n8 c8 W,j < n→Q j A5 n5 c5 A6 n6 c6 A8 n8 c8 W→Calls Tryz.prog 95 #[.int .u64 (pl j:Int), .agg #[.int .u8 (rc j).k, .int .u64 (rc j).tx, .int .u64 (rc j).pv, .int .i64 (rc j).pg, .int .i64 (rc j).off, .slice A5 n5 c5, .slice A6 n6 c6, .int .u64 (rc j).nx, .slice A8 n8 c8, .bool (rc j).op],ca,cb] W (fun e w' =>e= .returned (.int .i64 0)∧P (j + 1) w'))
  (h0:P 0 w):
  Calls Tryz.prog 92 #[.pointer (some ⟨s,0,none⟩), .int .u64 (pl 0:Int), .func (.func 95) #[] #[ca,cb]] w (fun e w' =>e= .returned (.int .i64 0)∧P n w'):=by
 have HP:=hide hP
 have HPX:=hide hPx
 have HQX:=hide hQx
 have HM:=hide hm
 have HB:=hide hb
 have HMO:=hide hmon
 have HKR:=hide KR
 have HKC:=hide KC
 have H0:=hide h0
 obtain ⟨pn,HPN⟩:∃pn,Hid (pl n=pn):=⟨_,hide rfl⟩
 clear hP hPx hQx hm hb hmon KR KC h0
 go_enter Tryz.func92,Tryz.ntmps92
 go_upto_region 1 with fail
 go_loopw [1] (fun av wr=>∃j:Nat,av= .int .u64 (pl j:Int)∧Hid (j≤n)∧Hid (P j wr)) (fun av _=>pn - (intOf av).toNat)
 case atStart=>exact ⟨0,rfl,hide (Nat.zero_le _),H0⟩
 case round=>
  obtain ⟨j,rfl,HJ,HPJ⟩:=hrel
  obtain ⟨Z,S,R,h1,h2,h3,h4⟩:=HP.out j wr HPJ.out
  have KE:Hid (Calls Tryz.prog 75 #[.pointer (some ⟨q,0,none⟩)] wr (fun e w' =>e= .returned (.int .u64 (pn:Int))∧Ext wr w')):=hide ((by
   have k:=end_any h1.pool.log h2
   rw [h3,h4,HPN.out] at k
   exact k.mono fun _ _ hh=>⟨hh.1,by obtain ⟨m,hm⟩:=hh.2;rw [hm];exact (Ext.refl _).drewN m⟩))
  have c1:=h1.blk.cell (i:=1) rfl
  rw [h4] at c1
  clear h1 h2 h3 h4
  obtain ⟨x,HX⟩:∃x,Hid (pl j=x):=⟨_,hide rfl⟩
  rw [HX.out]
  by_cases hj:j < n
  ·have hlt:(x:Int) < (pn:Int):=by have h1:=HM.out j hj;have h2:=HMO.out (j + 1) hj;have:=HX.out;have:=HPN.out;omega
   have HJN:=hide hj
   obtain ⟨x2,HX2⟩:∃x2,Hid (pl (j + 1)=x2):=⟨_,hide rfl⟩
   have KRJ:=hide (fun W hW=>HKR.out j W hj (HPX.out j wr W HPJ.out hW))
   have KCJ:=hide (fun A5 n5 c5 A6 n6 c6 A8 n8 c8 W hW=>HKC.out j A5 n5 c5 A6 n6 c6 A8 n8 c8 W hj hW)
   rw [HX.out,HX2.out] at KRJ
   rw [HX.out] at KCJ
   have HQJ:=hide (fun A5 n5 c5 A6 n6 c6 A8 n8 c8 W W' =>HQX.out j A5 n5 c5 A6 n6 c6 A8 n8 c8 W W')
   obtain ⟨rk,HRK⟩:∃rk,Hid (rc j=rk):=⟨_,hide rfl⟩
   rw [HRK.out] at KRJ KCJ
   have HLT:=hide hlt
   clear hj
   go_wp2_with (first
    | (go_at_call 75;(with_reducible refine KE.out.mono ?_);rintro e2 w2 ⟨rfl,hx2⟩;have HXE:=hide hx2;clear hx2)
    | (go_at_call 68;(with_reducible refine (KRJ.out w2 HXE.out).mono ?_);rintro e3 w3 ⟨A5,n5,c5,A6,n6,c6,A8,n8,c8,rfl,hq3⟩;have HQ3:=hide hq3;have HQ4:=hide (HQJ.out A5 n5 c5 A6 n6 c6 A8 n8 c8 w3 _ hq3 (Ext.alloc w3 (.cells #[.int .u8 rk.k, .int .u64 rk.tx, .int .u64 rk.pv, .int .i64 rk.pg, .int .i64 rk.off, .slice A5 n5 c5, .slice A6 n6 c6, .int .u64 rk.nx, .slice A8 n8 c8, .bool rk.op] 95)));clear hq3)
    | (go_at_call 95;(with_reducible refine (KCJ.out A5 n5 c5 A6 n6 c6 A8 n8 c8 _ HQ4.out).mono ?_);rintro e5 w5 ⟨rfl,hp5⟩;have HP5:=hide hp5;clear hp5))
   refine ⟨⟨j + 1,by rw [HX2.out],hide (by have:=HJN.out;omega),HP5⟩, ?_⟩
   show pn - ((x2:Nat):Int).toNat < pn - ((x:Nat):Int).toNat
   have h1:=HM.out j HJN.out
   have:=HX.out
   have:=HX2.out
   have:=HLT.out
   omega
  ·have hje:j=n:=by have:=HJ.out;omega
   have hlt:¬(x:Int) < (pn:Int):=by have e1:=HX.out;rw [hje] at e1;have:=HPN.out;omega
   have HPF:Hid (∀W,Ext wr W→P n W):=hide (fun W hW=>by rw [← hje];exact HPX.out j wr W HPJ.out hW)
   clear hj hje
   go_wp2_with (go_at_call 75;(with_reducible refine KE.out.mono ?_);rintro e2 w2 ⟨rfl,hx2⟩;have HXE:=hide hx2;clear hx2)
   go_ret
   exact ⟨rfl,HPF.out _ HXE.out⟩
end
theorem tk_app (n:Nat) (l rest:List UInt8) (s:Bool) (h:l.length=n):tk n (l ++ rest,s)=(l,(rest,s)):=by
 unfold tk
 rw [if_neg (by show ¬(l ++ rest).length < n;rw [List.length_append];omega)]
 show ((l ++ rest).take n,((l ++ rest).drop n,s))=_
 rw [← h,List.take_left,List.drop_left]
theorem tk_all (n:Nat) (l:List UInt8) (s:Bool) (h:l.length=n):tk n (l,s)=(l,([],s)):=by
 have:=tk_app n l [] s h
 rwa [List.append_nil] at this
theorem num_1 (u:Int) (h0:0≤u) (h1:u < 256):num (numN 1 u)=u:=by
 have e:numN 1 u= [b8 (u % 256)]:=rfl
 rw [e]
 unfold num
 simp only [List.foldl_cons,List.foldl_nil]
 rw [b8_toNat (by omega) (by omega)]
 omega
theorem num_2 (u:Int) (h0:0≤u) (h1:u < 65536):num (numN 2 u)=u:=by
 have e:numN 2 u= [b8 (u / 256 % 256),b8 (u % 256)]:=rfl
 rw [e]
 unfold num
 simp only [List.foldl_cons,List.foldl_nil]
 rw [b8_toNat (by omega) (by omega),b8_toNat (by omega) (by omega)]
 omega
theorem num_8 (u:Int) (h0:0≤u) (h1:u < 18446744073709551616):num (numN 8 u)=u:=num_be64 u h0 h1
theorem dirR_enc:∀(L:List (Int×Int)) (s:Bool),(∀e∈L,(0≤e.1∧e.1 < 4096)∧0≤e.2∧e.2 < 18446744073709551616)→dirR L.length (dirB L,s)=(L,([],s))
 | [],s,_=>rfl
 | d::L,s,h=>by
  obtain ⟨⟨h1,h2⟩,h3,h4⟩:=h d (by simp)
  have e:dirB (d::L)=numN 2 d.1 ++ (numN 8 d.2 ++ dirB L):=by simp [dirB]
  have ih:=dirR_enc L s (fun x hx=>h x (by simp [hx]))
  rw [e,List.length_cons]
  simp only [dirR,tk_app 2 _ _ _ (numN_length 2 d.1 (by decide)),tk_app 8 _ _ _ (numN_length 8 d.2 (by decide)),ih,num_2 _ h1 (show d.1 < 65536 by omega),num_8 _ h3 h4]
theorem numN_1 (u:Int):(numN 1 u).length=1:=numN_length 1 u (by decide)
theorem numN_2 (u:Int):(numN 2 u).length=2:=numN_length 2 u (by decide)
theorem numN_8 (u:Int):(numN 8 u).length=8:=numN_length 8 u (by decide)
theorem back_1 (tx pv pg off nx:Int) (bf af:List UInt8) (L:List (Int×Int)) (op:Bool) (htx0:0≤tx) (htx:tx < 18446744073709551616) (hpv0:0≤pv) (hpv1:pv < 18446744073709551616) (hnx0:0≤nx) (hnx1:nx < 18446744073709551616) (hdl:∀e∈L,0≤e.2∧e.2 < 18446744073709551616) (hf:formN 1 pv pg off nx af.length bf.length L.length L op=true):rdRec (recB 1 tx pv pg off nx bf af L op,false)=(⟨1,tx,pv,pg,off,bf,af,nx,L,op⟩,([],false)):=by
 obtain ⟨hpe,hoe,hae,hbe,hnxe,hLe,hop,hpve⟩:pg=0∧off=0∧af= []∧bf= []∧nx=0∧L= []∧op=false∧pv=0:=by
  simp [formN,hok,hpv,hch,hbf,hnx,hck,chgN,chkN,isPg] at hf
  exact ⟨hf.2.2.1.1,hf.2.2.1.2.1,hf.2.2.1.2.2.1,hf.2.2.1.2.2.2,hf.2.1,hf.2.2.2.1,hf.2.2.2.2,hf.1⟩
 subst hpe hoe hae hbe hnxe hLe hop hpve
 unfold rdRec recB
 simp only [show hpv 1=false from rfl,show hch 1=false from rfl,show hbf 1=false from rfl,show hnx 1=false from rfl,show hck 1=false from rfl,rcdN,rcdB,rdD,if_true,if_false,Bool.false_eq_true,List.append_nil,List.nil_append,List.append_assoc,List.length_nil,Int.toNat_natCast,tk_app 1 _ _ _ (numN_1 _),tk_app 8 _ _ _ (numN_8 _),tk_all 8 _ _ (numN_8 _),num_8 tx htx0 htx,num_1 1 (by decide) (by decide)]
 rfl
theorem back_2 (tx pv pg off nx:Int) (bf af:List UInt8) (L:List (Int×Int)) (op:Bool) (htx0:0≤tx) (htx:tx < 18446744073709551616) (hpv0:0≤pv) (hpv1:pv < 18446744073709551616) (hnx0:0≤nx) (hnx1:nx < 18446744073709551616) (hdl:∀e∈L,0≤e.2∧e.2 < 18446744073709551616) (hf:formN 2 pv pg off nx af.length bf.length L.length L op=true):rdRec (recB 2 tx pv pg off nx bf af L op,false)=(⟨2,tx,pv,pg,off,bf,af,nx,L,op⟩,([],false)):=by
 obtain ⟨hpg0,hpg1,hn1,hno,hoff0,hoff1,hbe,hLe,hop,hnxe⟩:0≤pg∧pg < 4096∧1≤af.length∧af.length≤512∧0≤off∧off < 65536∧bf.length=af.length∧L= []∧op=false∧nx=0:=by
  simp [formN,hok,hpv,hch,hbf,hnx,hck,chgN,chkN,isPg] at hf
  refine ⟨by omega,by omega,by omega,by omega,by omega,by omega,by omega,hf.2.2.1,hf.2.2.2,by omega⟩
 subst hLe hop hnxe
 unfold rdRec recB
 simp only [show hpv 2=true from rfl,show hch 2=true from rfl,show hbf 2=true from rfl,show hnx 2=false from rfl,show hck 2=false from rfl,rcdN,rcdB,rdD,if_true,if_false,Bool.false_eq_true,List.append_nil,List.nil_append,List.append_assoc,List.length_nil,Int.toNat_natCast,tk_app 1 _ _ _ (numN_1 _),tk_app 8 _ _ _ (numN_8 _),tk_all 8 _ _ (numN_8 _),tk_app 2 _ _ _ (numN_2 _),tk_app _ _ _ _ hbe,tk_all _ _ _ (rfl:af.length=af.length),num_8 tx htx0 htx,num_1 2 (by decide) (by decide),num_8 pv hpv0 hpv1,num_2 pg hpg0 (by omega),num_2 off hoff0 hoff1,num_2 (af.length:Int) (by omega) (by omega)]
 rfl
theorem back_3 (tx pv pg off nx:Int) (bf af:List UInt8) (L:List (Int×Int)) (op:Bool) (htx0:0≤tx) (htx:tx < 18446744073709551616) (hpv0:0≤pv) (hpv1:pv < 18446744073709551616) (hnx0:0≤nx) (hnx1:nx < 18446744073709551616) (hdl:∀e∈L,0≤e.2∧e.2 < 18446744073709551616) (hf:formN 3 pv pg off nx af.length bf.length L.length L op=true):rdRec (recB 3 tx pv pg off nx bf af L op,false)=(⟨3,tx,pv,pg,off,bf,af,nx,L,op⟩,([],false)):=by
 obtain ⟨hpg0,hpg1,hn1,hno,hoff0,hoff1,hbe,hLe,hop⟩:0≤pg∧pg < 4096∧1≤af.length∧af.length≤512∧0≤off∧off < 65536∧bf= []∧L= []∧op=false:=by
  simp [formN,hok,hpv,hch,hbf,hnx,hck,chgN,chkN,isPg] at hf
  refine ⟨by omega,by omega,by omega,by omega,by omega,by omega,hf.1.2.2.1,hf.2.1,hf.2.2⟩
 subst hLe hop hbe
 unfold rdRec recB
 simp only [show hpv 3=true from rfl,show hch 3=true from rfl,show hbf 3=false from rfl,show hnx 3=true from rfl,show hck 3=false from rfl,rcdN,rcdB,rdD,if_true,if_false,Bool.false_eq_true,List.append_nil,List.nil_append,List.append_assoc,List.length_nil,Int.toNat_natCast,tk_app 1 _ _ _ (numN_1 _),tk_app 8 _ _ _ (numN_8 _),tk_all 8 _ _ (numN_8 _),tk_app 2 _ _ _ (numN_2 _),tk_app _ _ _ _ (rfl:af.length=af.length),num_8 tx htx0 htx,num_1 3 (by decide) (by decide),num_8 pv hpv0 hpv1,num_2 pg hpg0 (by omega),num_2 off hoff0 hoff1,num_2 (af.length:Int) (by omega) (by omega),num_8 nx hnx0 hnx1]
 rfl
theorem back_4 (tx pv pg off nx:Int) (bf af:List UInt8) (L:List (Int×Int)) (op:Bool) (htx0:0≤tx) (htx:tx < 18446744073709551616) (hpv0:0≤pv) (hpv1:pv < 18446744073709551616) (hnx0:0≤nx) (hnx1:nx < 18446744073709551616) (hdl:∀e∈L,0≤e.2∧e.2 < 18446744073709551616) (hf:formN 4 pv pg off nx af.length bf.length L.length L op=true):rdRec (recB 4 tx pv pg off nx bf af L op,false)=(⟨4,tx,pv,pg,off,bf,af,nx,L,op⟩,([],false)):=by
 obtain ⟨hpe,hoe,hae,hbe,hnxe,hLe,hop⟩:pg=0∧off=0∧af= []∧bf= []∧nx=0∧L= []∧op=false:=by
  simp [formN,hok,hpv,hch,hbf,hnx,hck,chgN,chkN,isPg] at hf
  exact ⟨hf.2.1.1,hf.2.1.2.1,hf.2.1.2.2.1,hf.2.1.2.2.2,hf.1,hf.2.2.1,hf.2.2.2⟩
 subst hpe hoe hae hbe hnxe hLe hop
 unfold rdRec recB
 simp only [show hpv 4=true from rfl,show hch 4=false from rfl,show hbf 4=false from rfl,show hnx 4=false from rfl,show hck 4=false from rfl,rcdN,rcdB,rdD,if_true,if_false,Bool.false_eq_true,List.append_nil,List.nil_append,List.append_assoc,List.length_nil,Int.toNat_natCast,tk_app 1 _ _ _ (numN_1 _),tk_app 8 _ _ _ (numN_8 _),tk_all 8 _ _ (numN_8 _),num_8 tx htx0 htx,num_1 4 (by decide) (by decide),num_8 pv hpv0 hpv1]
 rfl
theorem back_5 (tx pv pg off nx:Int) (bf af:List UInt8) (L:List (Int×Int)) (op:Bool) (htx0:0≤tx) (htx:tx < 18446744073709551616) (hpv0:0≤pv) (hpv1:pv < 18446744073709551616) (hnx0:0≤nx) (hnx1:nx < 18446744073709551616) (hdl:∀e∈L,0≤e.2∧e.2 < 18446744073709551616) (hf:formN 5 pv pg off nx af.length bf.length L.length L op=true):rdRec (recB 5 tx pv pg off nx bf af L op,false)=(⟨5,tx,pv,pg,off,bf,af,nx,L,op⟩,([],false)):=by
 obtain ⟨hpe,hoe,hae,hbe,hnxe,hLe,hop⟩:pg=0∧off=0∧af= []∧bf= []∧nx=0∧L= []∧op=false:=by
  simp [formN,hok,hpv,hch,hbf,hnx,hck,chgN,chkN,isPg] at hf
  exact ⟨hf.2.1.1,hf.2.1.2.1,hf.2.1.2.2.1,hf.2.1.2.2.2,hf.1,hf.2.2.1,hf.2.2.2⟩
 subst hpe hoe hae hbe hnxe hLe hop
 unfold rdRec recB
 simp only [show hpv 5=true from rfl,show hch 5=false from rfl,show hbf 5=false from rfl,show hnx 5=false from rfl,show hck 5=false from rfl,rcdN,rcdB,rdD,if_true,if_false,Bool.false_eq_true,List.append_nil,List.nil_append,List.append_assoc,List.length_nil,Int.toNat_natCast,tk_app 1 _ _ _ (numN_1 _),tk_app 8 _ _ _ (numN_8 _),tk_all 8 _ _ (numN_8 _),num_8 tx htx0 htx,num_1 5 (by decide) (by decide),num_8 pv hpv0 hpv1]
 rfl
theorem back_6 (tx pv pg off nx:Int) (bf af:List UInt8) (L:List (Int×Int)) (op:Bool) (htx0:0≤tx) (htx:tx < 18446744073709551616) (hpv0:0≤pv) (hpv1:pv < 18446744073709551616) (hnx0:0≤nx) (hnx1:nx < 18446744073709551616) (hdl:∀e∈L,0≤e.2∧e.2 < 18446744073709551616) (hf:formN 6 pv pg off nx af.length bf.length L.length L op=true):rdRec (recB 6 tx pv pg off nx bf af L op,false)=(⟨6,tx,pv,pg,off,bf,af,nx,L,op⟩,([],false)):=by
 obtain ⟨hpe,hoe,hae,hbe,hnxe,hnd,hris⟩:pg=0∧off=0∧af= []∧bf= []∧nx=0∧L.length≤64∧risB (-1) L=true:=by
  simp [formN,hok,hpv,hch,hbf,hnx,hck,chgN,chkN,isPg] at hf
  exact ⟨hf.2.1.1,hf.2.1.2.1,hf.2.1.2.2.1,hf.2.1.2.2.2,hf.1,hf.2.2.1,hf.2.2.2⟩
 subst hpe hoe hae hbe hnxe
 have hcn:0≤cntN L.length op∧cntN L.length op < 256:=by unfold cntN;split <;> omega
 have hc1:(cntN L.length op).toNat / 2=L.length:=by unfold cntN;split <;> omega
 have hc2:(cntN L.length op % 2==1)=op:=by unfold cntN;cases op <;> simp <;> omega
 have hde:=dirR_enc L false (fun e he=>⟨risB_mem L (-1) (Int.le_refl _) hris e he,hdl e he⟩)
 unfold rdRec recB
 simp only [show hpv 6=true from rfl,show hch 6=false from rfl,show hbf 6=false from rfl,show hnx 6=false from rfl,show hck 6=true from rfl,rcdN,rcdB,rdD,if_true,if_false,Bool.false_eq_true,List.append_nil,List.nil_append,List.append_assoc,List.length_nil,Int.toNat_natCast,tk_app 1 _ _ _ (numN_1 _),tk_app 8 _ _ _ (numN_8 _),tk_all 8 _ _ (numN_8 _),num_8 tx htx0 htx,num_1 6 (by decide) (by decide),num_8 pv hpv0 hpv1,num_1 _ hcn.1 hcn.2,hc1,hc2,hde]
theorem fullB_length (k tx pv pg off nx:Int) (bf af:List UInt8) (L:List (Int×Int)) (op:Bool):(fullB k tx pv pg off nx bf af L op).length=13 + (if hpv k then 8 else 0) + (if hch k then 6 + bf.length + af.length else 0) + (if hnx k then 8 else 0) + (if hck k then 1 + 10 * L.length else 0):=by
 have e:(recB k tx pv pg off nx bf af L op).length=9 + (if hpv k then 8 else 0) + (if hch k then 6 + bf.length + af.length else 0) + (if hnx k then 8 else 0) + (if hck k then 1 + 10 * L.length else 0):=by
  unfold recB
  simp only [List.length_append,numN_length 1 _ (show 1≤8 by decide),numN_length 8 _ (show 8≤8 by decide)]
  have i1:(if hpv k then numN 8 pv else []).length=if hpv k then 8 else 0:=by split <;> simp [numN_length]
  have i2:(if hch k then numN 2 pg ++ (numN 2 off ++ (numN 2 (af.length:Int) ++ (bf ++ af))) else []).length=if hch k then 6 + bf.length + af.length else 0:=by
   split
   ·simp only [List.length_append,numN_length 2 _ (show 2≤8 by decide)];omega
   ·rfl
  have i3:(if hnx k then numN 8 nx else []).length=if hnx k then 8 else 0:=by split <;> simp [numN_length]
  have i4:(if hck k then numN 1 (cntN L.length op) ++ dirB L else []).length=if hck k then 1 + 10 * L.length else 0:=by
   split
   ·simp only [List.length_append,numN_length 1 _ (show 1≤8 by decide),dirB_length]
   ·rfl
  rw [i1,i2,i3,i4]
  omega
 unfold fullB
 rw [List.length_append,e,show (sumB (recB k tx pv pg off nx bf af L op)).length=4 from numN_length 4 _ (by decide)]
 omega
theorem back_any (k tx pv pg off nx:Int) (bf af:List UInt8) (L:List (Int×Int)) (op:Bool) (htx0:0≤tx) (htx:tx < 18446744073709551616) (hpv0:0≤pv) (hpv1:pv < 18446744073709551616) (hnx0:0≤nx) (hnx1:nx < 18446744073709551616) (hdl:∀e∈L,0≤e.2∧e.2 < 18446744073709551616)
  (hf:formN k pv pg off nx af.length bf.length L.length L op=true):rdRec (recB k tx pv pg off nx bf af L op,false)=(⟨k,tx,pv,pg,off,bf,af,nx,L,op⟩,([],false)):=by
 have hk:1≤k∧k≤6:=by
  have h:=hf
  simp only [formN,Bool.and_eq_true] at h
  have h:=h.1
  simpa [hok] using h
 rcases (by omega:k=1∨k=2∨k=3∨k=4∨k=5∨k=6) with rfl | rfl | rfl | rfl | rfl | rfl
 ·exact back_1 tx pv pg off nx bf af L op htx0 htx hpv0 hpv1 hnx0 hnx1 hdl hf
 ·exact back_2 tx pv pg off nx bf af L op htx0 htx hpv0 hpv1 hnx0 hnx1 hdl hf
 ·exact back_3 tx pv pg off nx bf af L op htx0 htx hpv0 hpv1 hnx0 hnx1 hdl hf
 ·exact back_4 tx pv pg off nx bf af L op htx0 htx hpv0 hpv1 hnx0 hnx1 hdl hf
 ·exact back_5 tx pv pg off nx bf af L op htx0 htx hpv0 hpv1 hnx0 hnx1 hdl hf
 ·exact back_6 tx pv pg off nx bf af L op htx0 htx hpv0 hpv1 hnx0 hnx1 hdl hf
theorem decV_full (k tx pv pg off nx:Int) (bf af:List UInt8) (L:List (Int×Int)) (op:Bool) (htx0:0≤tx) (htx:tx < 18446744073709551616) (hpv0:0≤pv) (hpv1:pv < 18446744073709551616) (hnx0:0≤nx) (hnx1:nx < 18446744073709551616) (hdl:∀e∈L,0≤e.2∧e.2 < 18446744073709551616)
  (hf:formN k pv pg off nx af.length bf.length L.length L op=true):decV (fullB k tx pv pg off nx bf af L op)=(0,some ⟨k,tx,pv,pg,off,bf,af,nx,L,op⟩):=by
 have h4:(sumB (recB k tx pv pg off nx bf af L op)).length=4:=numN_length 4 _ (by decide)
 have hlen:=fullB_length k tx pv pg off nx bf af L op
 have e1:(fullB k tx pv pg off nx bf af L op).take ((fullB k tx pv pg off nx bf af L op).length - 4)=recB k tx pv pg off nx bf af L op:=by
  unfold fullB
  rw [List.length_append,h4,Nat.add_sub_cancel,List.take_left]
 have e2:(fullB k tx pv pg off nx bf af L op).drop ((fullB k tx pv pg off nx bf af L op).length - 4)=sumB (recB k tx pv pg off nx bf af L op):=by
  unfold fullB
  rw [List.length_append,h4,Nat.add_sub_cancel,List.drop_left]
 unfold decV
 rw [e1,e2,if_neg (by rw [hlen];omega),if_neg (by simp),back_any k tx pv pg off nx bf af L op htx0 htx hpv0 hpv1 hnx0 hnx1 hdl hf,if_pos ⟨rfl,hf⟩]
end Go.Proofs.YthmdmgnhfhpcaaaGreatDoor

/-
  What the card wants, part 13: Shf, PlH, PlY, StV, StW, StX, StY, StZ, SuA, SuB, SuC, SuD, SuE.
-/
import Derived.Shelf.Small.Bits
import Derived.Shelf.Strconv.Itoa0
import Derived.Shelf.Sort.Plain
import Derived.Shelf.Slices.In.SortNone
import Derived.Shelf.SlicesG.Cmp
import Derived.Ground.SlgcProg
import Derived.Test.YthmdmgnhfhpcaaaGreatDoorProg
import Derived.Sort.Grow
import Derived.Laws.AppendOwn
import Derived.BigRegion
import Derived.Test.YthmdmgnhfhpcaaaGreatDoorPkCardSvE4
import Derived.Test.YthmdmgnhfhpcaaaGreatDoorPkCardSvE8
import Derived.Test.YthmdmgnhfhpcaaaGreatDoorPkCardSvE11
import Derived.Test.YthmdmgnhfhpcaaaGreatDoorPkCardSvE12
set_option linter.unusedVariables false
set_option linter.unusedSimpArgs false
set_option maxRecDepth 20000
set_option maxHeartbeats 12800000
namespace Go.Proofs.YthmdmgnhfhpcaaaGreatDoor
open Go.RowKit
open Go.Shelf
def Tryz.lays189_ren:Go.Shelf.Ren:=⟨fun | 189=>108 | 125=>134 | 257=>133 | 128=>153 | 129=>154 | 294=>144 | 295=>145 | 296=>146 | 297=>147 | 298=>148 | 299=>149 | 216=>150 | 300=>151 | 301=>152 | 328=>164 | 329=>165 | 330=>166 | 331=>167 | 332=>168 | 215=>143 | 343=>172 | n=>n,fun | 28=>55 | 3=>3 | 46=>170 | 0=>0 | 51=>182 | 53=>34 | 4=>4 | 183=>192 | 182=>191 | 131=>168 | 5=>5 | 9=>9 | 218=>205 | 222=>208 | 228=>212 | 229=>104 | n=>n,fun | n=>n⟩
theorem Tryz.lays189:Go.Proofs.Lays.n189 Tryz.prog Tryz.lays189_ren:= {
 mixed:=by kernel_rfl
 f125:=Tryz.func134.trans (congrArg some (by kernel_rfl))
 f128:=Tryz.func153.trans (congrArg some (by kernel_rfl))
 f129:=Tryz.func154.trans (congrArg some (by kernel_rfl))
 f189:=Tryz.func108.trans (congrArg some (by kernel_rfl))
 f215:=Tryz.func143.trans (congrArg some (by kernel_rfl))
 f216:=Tryz.func150.trans (congrArg some (by kernel_rfl))
 f257:=Tryz.func133.trans (congrArg some (by kernel_rfl))
 f294:=Tryz.func144.trans (congrArg some (by kernel_rfl))
 f295:=Tryz.func145.trans (congrArg some (by kernel_rfl))
 f296:=Tryz.func146.trans (congrArg some (by kernel_rfl))
 f297:=Tryz.func147.trans (congrArg some (by kernel_rfl))
 f298:=Tryz.func148.trans (congrArg some (by kernel_rfl))
 f299:=Tryz.func149.trans (congrArg some (by kernel_rfl))
 f300:=Tryz.func151.trans (congrArg some (by kernel_rfl))
 f301:=Tryz.func152.trans (congrArg some (by kernel_rfl))
 f328:=Tryz.func164.trans (congrArg some (by kernel_rfl))
 f329:=Tryz.func165.trans (congrArg some (by kernel_rfl))
 f330:=Tryz.func166.trans (congrArg some (by kernel_rfl))
 f331:=Tryz.func167.trans (congrArg some (by kernel_rfl))
 f332:=Tryz.func168.trans (congrArg some (by kernel_rfl))
 f343:=Tryz.func172.trans (congrArg some (by kernel_rfl))
 t0:=Tryz.underlying0
 a0:=Tryz.isAgg0
 z0:=Tryz.sizeOf0
 v0:=Tryz.zeroValue0
 t3:=Tryz.underlying3
 a3:=Tryz.isAgg3
 z3:=Tryz.sizeOf3
 v3:=Tryz.zeroValue3
 t4:=Tryz.underlying4
 a4:=Tryz.isAgg4
 z4:=Tryz.sizeOf4
 v4:=Tryz.zeroValue4
 t5:=Tryz.underlying5
 a5:=Tryz.isAgg5
 z5:=Tryz.sizeOf5
 v5:=Tryz.zeroValue5
 t9:=Tryz.underlying9
 a9:=Tryz.isAgg9
 z9:=Tryz.sizeOf9
 v9:=Tryz.zeroValue9
 t28:=Tryz.underlying55
 a28:=Tryz.isAgg55
 z28:=Tryz.sizeOf55
 v28:=Tryz.zeroValue55
 t46:=Tryz.underlying170
 a46:=Tryz.isAgg170
 z46:=Tryz.sizeOf170
 v46:=Tryz.zeroValue170
 t51:=Tryz.underlying182
 a51:=Tryz.isAgg182
 z51:=Tryz.sizeOf182
 v51:=Tryz.zeroValue182
 t53:=Tryz.underlying34
 a53:=Tryz.isAgg34
 z53:=Tryz.sizeOf34
 v53:=Tryz.zeroValue34
 t131:=Tryz.underlying168
 a131:=Tryz.isAgg168
 z131:=Tryz.sizeOf168
 v131:=Tryz.zeroValue168
 t182:=Tryz.underlying191
 a182:=Tryz.isAgg191
 z182:=Tryz.sizeOf191
 v182:=Tryz.zeroValue191
 t183:=Tryz.underlying192
 a183:=Tryz.isAgg192
 z183:=Tryz.sizeOf192
 v183:=Tryz.zeroValue192
 t218:=Tryz.underlying205
 a218:=Tryz.isAgg205
 z218:=Tryz.sizeOf205
 v218:=Tryz.zeroValue205
 t222:=Tryz.underlying208
 a222:=Tryz.isAgg208
 z222:=Tryz.sizeOf208
 v222:=Tryz.zeroValue208
 t228:=Tryz.underlying212
 a228:=Tryz.isAgg212
 z228:=Tryz.sizeOf212
 v228:=Tryz.zeroValue212
 t229:=Tryz.underlying104
 a229:=Tryz.isAgg104
 z229:=Tryz.sizeOf104
 v229:=Tryz.zeroValue104 }
open Go.Sort Go.RowKit in
theorem Tryz.slices_Sort_int (blk off cap:Nat) (zs:List Int) (w:World) (hH:Holds (Value.int .i64) w blk off zs.toArray) (hblk:blk < w.heap.size) (hsz:zs.length < 4611686018427387904):
  Calls Tryz.prog 108 #[.slice (some ⟨blk,off,none⟩) zs.length cap] w fun e w' =>
   e= .returned (.tuple #[])∧∃n os,w' =grow (putRow (Value.int .i64) (Sort.ahead w n) blk off (zs.mergeSort fun x y=>decide (x≤y)).toArray) os:=Any.slices_Sort_int Tryz.lays189 blk off cap zs w hH hblk hsz
open Go.RowKit Go.Sort in
theorem Tryz.slices_Sort_int_none (p:Option Addr) (cap:Nat) (w:World):
  Calls Tryz.prog 108 #[.slice p 0 cap] w fun e w' =>e= .returned (.tuple #[])∧w' =w:=Any.slices_Sort_int_none Tryz.lays189 p cap w
def iV (l:List Nat):List Value:=l.map fun (i:Nat)=> .int .i64 (i:Int)
theorem iV_at {l:List Nat} {j x:Nat} (h:l[j]? =some x):(iV l)[j]? =some (.int .i64 (x:Int)):=by unfold iV;rw [List.getElem?_map,h];rfl
structure ChL (P:Pl) (zs:List Nat):Prop where
 nodup:zs.Nodup
 mem:∀i,i∈zs↔∃f,P.H i=some f∧f.ch=true
def IRow (w:World) (A:Option Addr) (zs:List Nat):Prop:=zs≠ []→∃g,A=some ⟨g,0,none⟩∧∀(j x:Nat),zs[j]? =some x→w.cell? ⟨g,j,none⟩=some (.int .i64 (x:Int))
theorem info_int:(Tryz.prog.info? 3).map (fun i=>(i.zero,i.size,i.bytes))=some (some (.int .i64 0),1,8):=by kernel_rfl
theorem info_int2:∃i0,Tryz.prog.info? 3=some i0∧i0.zero=some (.int .i64 0)∧i0.size=1∧i0.bytes=8:=by
 have h:=info_int
 cases hq:Tryz.prog.info? 3 with
 | none=>rw [hq] at h;cases h
 | some i=>
  rw [hq] at h
  simp only [Option.map_some,Option.some.injEq,Prod.mk.injEq] at h
  exact ⟨i,rfl,h.1,h.2.1,h.2.2⟩
theorem build_int (b:Int) (W:World):(Instr.buildSlice 55 1 #[(0, .int .i64 b)]).run Tryz.prog W= .ok (.slice (some ⟨W.heap.size,0,none⟩) 1 1) (W.alloc (.cells #[.int .i64 b] 3)):=by
 obtain ⟨i0,hi,hz0,hz1,hz2⟩:=info_int2
 refine run_buildSlice W 55 3 1 #[(0, .int .i64 b)] #[.int .i64 b] i0 _ Tryz.underlying55 hi hz0 (by rw [hz1];decide) (by rw [hz1];decide) ?_
 rw [hz1]
 have h:=Great.fill_whole (s:=1) (by decide) [.int .i64 b] ((Array.range (1 * 1)).map ((Value.int .i64 0).cells[· % (Value.int .i64 0).cells.size]!)) (by intro v hv;rw [List.mem_singleton.1 hv];rfl) (by rw [Array.size_map,Array.size_range];rfl)
 exact h
section
variable {ops:Array Oper} {rest:List Oper} {o:Oper} {a:Act} {Q:Exit→Act→World→Prop}
theorem wpList_pushI {w0:World} (hgd:o.guard=none) (s x:Operand) (ho:o.op= .call { callee:= .builtin .append,args:= #[s,x],argTypes:= #[55,55] })
  (base:Nat) (v:Value) (zs:List Nat) (i:Nat) (hs:a.eval s=v) (hx:a.eval x= .slice (some ⟨w0.heap.size,0,none⟩) 1 1) (hown:w0.ownsRow base 3 1 v zs.length (iV zs)) (hbase:base≤w0.heap.size) (hlen:zs.length < 1000000)
  (h:∀v' w',w'.ownsRow base 3 1 v' (zs ++ [i]).length (iV (zs ++ [i]))→w0.grownBy w' v.ownBlock→wpList Tryz.prog ops Q rest (a.put o.dst v') w'):wpList Tryz.prog ops Q (o::rest) a (w0.alloc (.cells #[.int .i64 (i:Int)] 3)):=by
 obtain ⟨i0,hi,hz,hsz,hby⟩:=info_int2
 have hown':(w0.alloc (.cells #[.int .i64 (i:Int)] 3)).ownsRow base 3 1 v zs.length (iV zs):=World.ownsRow.alloc hown _
 refine wpList_append_own _ hgd s x 55 ho base 3 i0 (.int .i64 0) 1 8 Tryz.underlying55 hi hz hsz hby rfl (by decide) v zs.length (iV zs) hs hown' ⟨w0.heap.size,0,none⟩ 1 1 [.int .i64 (i:Int)] hx rfl ?_ ?_ (by unfold maxLen;omega) (by omega) (by simp;omega) ?_
 ·intro j u hu
  rw [add_flat,cell_of_row _ w0.heap.size (0 + j) _ 3 (0,0) (heap_alloc_new w0 _),Nat.zero_add,List.getElem?_toArray,hu]
 ·intro u hu
  rw [List.mem_singleton.1 hu]
  rfl
 ·intro v' w' h2 h3 _
  refine h v' w' ?_ ⟨h3.os,h3.tape,h3.output,Nat.le_trans (by simp) h3.size,fun k hk hne=>(h3.block k (by simp;omega) hne).trans (Below.heap_alloc w0 _ k hk)⟩
  have e:iV (zs ++ [i])=iV zs ++ [.int .i64 (i:Int)]:=by unfold iV;rw [List.map_append];rfl
  rw [e,List.length_append]
  exact h2
end
section
variable {w:World} {B:Nat} {v:Value} {zs:List Nat}
open Go.Sort in
theorem sort_any (h:w.ownsRow B 3 1 v zs.length (iV zs)) (hl:zs.length < 1000000):Calls Tryz.prog 108 #[v] w (fun e w' =>e= .returned (.tuple #[])∧w.grownBy w' v.ownBlock∧∃A cc zs',v= .slice A zs'.length cc∧zs'.Perm zs∧IRow w' A zs'∧∀a,A=some a→v.ownBlock=some a.block):=by
 have h0:=h
 rcases h.2 with ⟨rfl,hn⟩ | ⟨g,cap,cur,rfl,hg,hb,-⟩
 ·refine (Tryz.slices_Sort_int_none none 0 w).mono fun e w' hh=> ?_
  obtain ⟨rfl,rfl⟩:=hh
  have hz:zs= []:=List.eq_nil_of_length_eq_zero hn
  subst hz
  exact ⟨rfl,⟨rfl,rfl,rfl,Nat.le_refl _,fun _ _ _=>rfl⟩,none,0, [],rfl,List.Perm.refl _,fun hne=>absurd rfl hne,fun a ha=>by cases ha⟩
 ·have hlt:g < w.heap.size:=(Array.getElem?_eq_some_iff.1 hb).1
  have hH:Holds (Value.int .i64) w g 0 (zs.map Int.ofNat).toArray:=fun j hj=>by
   have hj':j < zs.length:=by simpa using hj
   have hz:zs[j]? =some zs[j]:=List.getElem?_eq_getElem hj'
   obtain ⟨k1,k2⟩:=own_cell h0 (iV_at hz)
   rw [Nat.zero_add]
   refine ⟨?_,k2⟩
   rw [k1,getElem!_pos _ j hj]
   simp
  have hlen:(zs.map Int.ofNat).length=zs.length:=by rw [List.length_map]
  have k:=Tryz.slices_Sort_int g 0 cap (zs.map Int.ofNat) w hH hlt (by rw [hlen];omega)
  rw [hlen] at k
  refine k.mono fun e w' hh=> ?_
  obtain ⟨rfl,n,os,rfl⟩:=hh
  have hsort:(zs.map Int.ofNat).mergeSort (fun x y=>decide (x≤y))=(zs.mergeSort (fun x y=>decide (x≤y))).map Int.ofNat:=by
   rw [List.map_mergeSort (s:=fun x y=>decide (x≤y))]
   intro a _ b _
   simp
  have hpl:(zs.mergeSort (fun x y=>decide (x≤y))).length=zs.length:=(List.mergeSort_perm _ _).length_eq
  rw [hsort]
  refine ⟨rfl,⟨rfl,rfl,rfl,by simp,fun j hj hne=> ?_⟩,some ⟨g,0,none⟩,cap,zs.mergeSort (fun x y=>decide (x≤y)),by rw [hpl],List.mergeSort_perm _ _,fun _=>⟨g,rfl,fun j x hx=> ?_⟩,fun a ha=>by injection ha with ha;rw [← ha];rfl⟩
  ·have hjg:g≠j:=fun e=>hne (by rw [e];rfl)
   rw [heap_grow_old _ _ (by simpa using hj)]
   show (w.heap.modify g _)[j]? =w.heap[j]?
   rw [Array.getElem?_modify,if_neg hjg]
  ·rw [cell?_grow _ _ _ (by simpa using hlt)]
   have hj:j < (zs.mergeSort (fun x y=>decide (x≤y))).length:=(List.getElem?_eq_some_iff.1 hx).1
   have hc:=cell?_putRow (Value.int .i64) (Go.Sort.ahead w n) g 0 (zs.map Int.ofNat).toArray ((zs.mergeSort (fun x y=>decide (x≤y))).map Int.ofNat).toArray hH (by simp [hpl]) j (by simpa using hj)
   rw [Nat.zero_add] at hc
   rw [hc,getElem!_pos _ j (by simpa using hj)]
   have hx2:=(List.getElem?_eq_some_iff.1 hx).2
   simp [hx2]
end
section
variable {w0 w:World} {Z:Pk} {D:Dk} {L:Lg} {P:Pl}
def ChP (P:Pl) (w:World) (e:Ending) (w':World):Prop:=∃A cc zs,e= .returned (.slice A zs.length cc)∧ChL P zs∧zs.length≤P.n∧Ext w w'∧IRow w' A zs∧∀a,A=some a→w.heap.size≤a.block∧a.block < w'.heap.size
structure ChR (P:Pl) (left:Lit→Bool) (cnt C:Nat) (zs:List Nat):Prop where
 nodup:zs.Nodup
 mem:∀i,i∈zs↔(∃f,P.H i=some f∧f.ch=true)∧left (ik i)=false
 cnt:zs.length + cnt≤C
theorem changed_any {nd:Nat} (h:PlAt w0 w Z D L P) (ok:P.Ok nd):Calls Tryz.prog 72 #[.pointer (some ⟨Z.q,0,none⟩)] w (ChP P w):=by
 have H:=hide h
 have OK:=hide ok
 obtain ⟨Dt,hown,hreads⟩:=h.held
 have HRD:=hide hreads
 have c5:=h.blk.cell (i:=5) rfl
 obtain ⟨r,HR⟩:∃r,Hid (w.heap.size=r):=⟨_,hide rfl⟩
 obtain ⟨hb,HHB⟩:∃hb,Hid (Z.hb=hb):=⟨_,hide rfl⟩
 have HHR:Hid (hb < r):=hide (by rw [← HHB.out,← HR.out];exact h.held.lt)
 obtain ⟨C,HC⟩:∃C,Hid (Maps.size Dt=C):=⟨_,hide rfl⟩
 have HC5:Hid (C < 100000):=hide (by rw [← HC.out,hreads.size];have:=ok.cnt;have:=ok.frames;omega)
 clear h ok hreads
 rw [HHB.out] at hown c5
 go_enter Tryz.func72,Tryz.ntmps72
 go_wp2_with (at_range;refine wpList_range_own _ rfl _ 85 rfl 3 97 intK Tryz.underlying85 ptrR hb P.n Dt rfl hown ?_;intro w1 hrg1 hg1 hs1;have HRG1:=hide hrg1;have HX1:=hide (Ext.of_grown hg1);have HS1:=hide hs1;clear hrg1 hg1 hs1)
 go_frame
 rw [HR.out] at HRG1 HS1 ⊢
 clear c5 hown
 go_loopw [3] (fun v wr=>∃(zs:List Nat) (left:Lit→Bool) (cnt:Nat),Hid (wr.ownsRow (r + 1) 3 1 v zs.length (iV zs))∧Hid (wr.ranges Tryz.prog 3 ptrR hb r P.n Dt left cnt)∧Hid (Ext w wr)∧Hid (ChR P left cnt C zs)) (fun _ wr=>wr.rangeLeft hb r)
 case atStart=>
  refine ⟨[],_,_,hide (World.ownsRow_nil _ _ _ _),HRG1,HX1,hide ⟨List.nodup_nil,fun i=>⟨fun h=>absurd h List.not_mem_nil,fun ⟨⟨f,hf,_⟩,hl⟩=> ?_⟩,by rw [HC.out];exact Nat.le_of_eq (Nat.zero_add _)⟩⟩
  have h1:=HRD.out.has i
  rw [hl] at h1
  have h2:(heldM Z P i).isSome=true:=by unfold heldM;rw [hf];rfl
  rw [h2] at h1
  cases h1
 case round=>
  obtain ⟨zs,left,cnt,HO,HRG,HX,HI⟩:=hrel
  have HSZ:Hid (r + 1≤wr.heap.size):=hide HRG.out.lt
  have HZL:Hid (zs.length < 1000000):=hide (by have:=HI.out.cnt;have:=HC5.out;omega)
  have KSO:=hide (sort_any HO.out HZL.out)
  go_wp2_with (first
   | (at_next;refine wpList_next_map _ rfl (.tmp 10) rfl ptrR hb r P.n Dt (heldM Z P) P.n HRD.out (fun i=> .pointer (some ⟨Z.fb i,0,none⟩)) (ptr_val Z P) left cnt rfl HRG.out ?_ ?_)
   | go_in)
  ·intro _ hl0
   have HL0:=hide hl0
   clear hl0
   go_wp2_with (go_at_call 108;(with_reducible refine KSO.out.mono ?_);rintro e w2 ⟨rfl,hg2,A,cc,zs',hv2,hpm,hir,hA⟩;have HG2:=hide hg2;have HV2:=hide hv2;have HPM:=hide hpm;have HIR:=hide hir;have HA2:=hide hA;clear hg2 hv2 hpm hir hA)
   go_ret
   have hlt:∀k,Value.ownBlock _=some k→_:=HO.out.lt
   refine ⟨A,cc,zs',by rw [HV2.out];rfl,⟨HPM.out.nodup_iff.2 HI.out.nodup,fun i=> ?_⟩,by rw [HPM.out.length_eq];have:=HI.out.cnt;have:=HC.out;have:=HRD.out.size;omega, ?_,HIR.out,fun a ha=> ?_⟩
   ·rw [HPM.out.mem_iff,HI.out.mem]
    exact ⟨fun h=>h.1,fun h=>⟨h,HL0.out _⟩⟩
   ·refine ⟨HG2.out.os.trans HX.out.os,HG2.out.tape.trans HX.out.tape,HG2.out.output.trans HX.out.output,Nat.le_trans HX.out.size HG2.out.size,fun k hk=>(HG2.out.block k (Nat.lt_of_lt_of_le hk HX.out.size) fun e=> ?_).trans (Below.block HX.out k hk)⟩
    have:=(hlt k e.symm).1
    have:=HR.out
    omega
   ·have h1:=hlt _ (HA2.out a ha)
    have:=HR.out
    exact ⟨by omega,Nat.lt_of_lt_of_le h1.2 HG2.out.size⟩
  ·intro i w2 cnt2 hsm hi5 hlk hrg2 hlt hgr hsz hen
   obtain ⟨f,hf⟩:∃f,P.H i=some f:=by
    unfold heldM at hsm
    cases hq:P.H i with
    | none=>rw [hq] at hsm;cases hsm
    | some f=>exact ⟨f,rfl⟩
   have HX2:Hid (Ext w w2):=hide (HX.out.grown hgr (Nat.le_of_eq HR.out))
   have HRG2:=hide hrg2
   have HLT:=hide hlt
   have HLK:=hide hlk
   have HSZ2:Hid (r + 1≤w2.heap.size):=hide hrg2.lt
   have HO2:Hid (w2.ownsRow (r + 1) 3 1 _ zs.length (iV zs)):=hide (HO.out.kept hgr (by
    refine .inr fun e=> ?_
    have h1:=(HO.out.lt _ e).1
    omega))
   have H2:=hide (H.out.ext_ HX2.out)
   have f5:=(OK.out.page i f hf).2.by_
   have HF:=hide hf
   obtain ⟨-,-,g6,-⟩:=fr_get f5
   have k6:=(H2.out.fr i f hf).cell g6
   clear hsm hi5 hlk hrg2 hlt hgr hsz f5 g6 hf
   have HS:Hid (∀kl,(left kl && !kl.sameKey (ik i))=false↔left kl=false∨kl=ik i):=hide (fun kl=>by
    cases hl:left kl with
    | false=>simp
    | true=>
     simp only [Bool.true_and,Bool.not_eq_false']
     constructor
     ·intro h;exact .inr (WideAt.sameKey_eq h)
     ·intro h
      rcases h with h | h
      ·cases h
      ·subst h;exact sameKey_ik.2 rfl)
   have HNI:Hid (i∉zs):=hide (fun h=>by
    have h1:=((HI.out.mem i).1 h).2
    rw [HLK.out] at h1
    cases h1)
   obtain ⟨chv,HCH⟩:∃chv,Hid (f.ch=chv):=⟨_,hide rfl⟩
   rw [HCH.out] at k6
   cases chv with
   | true=>
    have KB:=hide (build_int (i:Int))
    go_wp2_with (first
     | ((with_reducible show wpList _ _ _ (⟨some 22,_,_,_,_,_⟩::_) _ _);refine wpList_gives (gives_buildSlice rfl [(0, .int .i64 (i:Int))] rfl (KB.out _) ⟨rfl,rfl⟩) rfl ?_)
     | (at_builtin;refine wpList_pushI rfl (.tmp 20) (.tmp 22) rfl (r + 1) _ zs i rfl rfl HO2.out HSZ2.out HZL.out ?_;intro v3 w3 hown3 hgrow3;have HO3:=hide hown3;have HG3:=hide hgrow3;clear hown3 hgrow3))
    have hlt2:∀k,Value.ownBlock _=some k→_:=HO2.out.lt
    have hrg3:=HRG2.out.kept HG3.out (fun e=>by have:=(hlt2 _ e.symm).1;have:=HHR.out;omega) (fun e=>by have:=(hlt2 _ e.symm).1;omega)
    refine ⟨⟨zs ++ [i],_,cnt2,HO3,hide hrg3,hide ?_,hide ⟨?_,fun j=> ?_, ?_⟩⟩, ?_⟩
    ·refine ⟨HG3.out.os.trans HX2.out.os,HG3.out.tape.trans HX2.out.tape,HG3.out.output.trans HX2.out.output,Nat.le_trans HX2.out.size HG3.out.size,fun k hk=>(HG3.out.block k (Nat.lt_of_lt_of_le hk HX2.out.size) fun e=> ?_).trans (Below.block HX2.out k hk)⟩
     have:=(hlt2 k e.symm).1
     have:=HR.out
     omega
    ·rw [List.nodup_append]
     refine ⟨HI.out.nodup,by simp,fun a ha b hb=> ?_⟩
     rw [List.mem_singleton.1 hb]
     exact fun e=>HNI.out (e▸ha)
    ·rw [List.mem_append,List.mem_singleton,HI.out.mem,HS.out]
     constructor
     ·rintro (h | rfl)
      ·exact ⟨h.1, .inl h.2⟩
      ·exact ⟨⟨f,HF.out,HCH.out⟩, .inr rfl⟩
     ·rintro ⟨h1,h2 | h2⟩
      ·exact .inl ⟨h1,h2⟩
      ·exact .inr (ik_inj h2)
    ·rw [List.length_append]
     have:=HI.out.cnt
     have:=HLT.out
     show zs.length + 1 + cnt2≤C
     omega
    ·rw [hrg3.left_eq,HRG.out.left_eq];exact HLT.out
   | false=>
    go_wp2
    refine ⟨⟨zs,_,cnt2,HO2,HRG2,HX2,hide ⟨HI.out.nodup,fun j=> ?_, ?_⟩⟩, ?_⟩
    ·rw [HI.out.mem,HS.out]
     constructor
     ·rintro ⟨h1,h2⟩;exact ⟨h1, .inl h2⟩
     ·rintro ⟨⟨g,hg,hc⟩,h2 | h2⟩
      ·exact ⟨⟨g,hg,hc⟩,h2⟩
      ·obtain rfl:=ik_inj h2
       rw [HF.out] at hg
       injection hg with hg
       rw [← hg,HCH.out] at hc
       cases hc
    ·have:=HI.out.cnt
     have:=HLT.out
     omega
    ·rw [HRG2.out.left_eq,HRG.out.left_eq];exact HLT.out
end
def stAll:List Nat→St→Int×St
 | [],S=>(0,S)
 | i::zs,S=>match S.P.H i with
  | some f=>if (storeR S i f).1≠0 then storeR S i f else stAll zs (storeR S i f).2
  | none=>(0,S)
def noCh (zs:List Nat) (P:Pl):Pl:= { P with H:=fun i=>(P.H i).map fun f=>if i∈zs then { f with ch:=false } else f }
def pflR (zs:List Nat) (S:St):Int×St:=
 if (stAll zs S).1≠0 then stAll zs S else
 if (settleP (stAll zs S).2.L (stAll zs S).2.P).m=0 then (0,{ (stAll zs S).2 with P:=settleP (stAll zs S).2.L (stAll zs S).2.P }) else
 if sE (stAll zs S).2.D≠0 then (sE (stAll zs S).2.D,{ (stAll zs S).2 with D:=sD (stAll zs S).2.D,P:=settleP (stAll zs S).2.L (stAll zs S).2.P }) else
 (0,{ (stAll zs S).2 with D:=sD (stAll zs S).2.D,P:=noCh zs { settleP (stAll zs S).2.L (stAll zs S).2.P with W:=fun _=>none,m:=0 } })
theorem stAll_cons {S:St} {i:Nat} {zs:List Nat} {f:Fm} (hf:S.P.H i=some f):stAll (i::zs) S=if (storeR S i f).1≠0 then storeR S i f else stAll zs (storeR S i f).2:=by
 show (match S.P.H i with | some f=>_ | none=>_)=_
 rw [hf]
theorem noCh_nil (P:Pl):noCh [] P=P:=by
 unfold noCh
 have e:(fun i=>(P.H i).map fun f=>if i∈([]:List Nat) then { f with ch:=false } else f)=P.H:=by
  funext i
  cases P.H i with
  | none=>rfl
  | some f=>simp
 rw [e]
theorem noCh_snoc (P:Pl) (zs:List Nat) (x:Nat) {f:Fm} (hf:(noCh zs P).H x=some f):noCh (zs ++ [x]) P= { noCh zs P with H:=upM (noCh zs P).H x (some { f with ch:=false }) }:=by
 have e:(noCh (zs ++ [x]) P).H=upM (noCh zs P).H x (some { f with ch:=false }):=by
  funext i
  have hf:(P.H x).map (fun f=>if x∈zs then { f with ch:=false } else f)=some f:=hf
  show (P.H i).map (fun f=>if i∈zs ++ [x] then { f with ch:=false } else f)=_
  by_cases e:i=x
  ·subst e
   rw [upM_same]
   cases hH:P.H i with
   | none=>rw [hH] at hf;cases hf
   | some g=>
    rw [hH] at hf
    have hf:=Option.some.inj hf
    have h2:f=if i∈zs then { g with ch:=false } else g:=hf.symm
    show some (if i∈zs ++ [i] then { g with ch:=false } else g)=_
    rw [if_pos (by simp),h2]
    split <;> rfl
  ·rw [upM_other _ _ e]
   show _=(P.H i).map (fun f=>if i∈zs then { f with ch:=false } else f)
   simp [e]
 rw [← e]
 rfl
section
variable {w w':World} {A:Option Addr} {zs:List Nat}
theorem IRow.keep (h:IRow w A zs) (hk:∀a,A=some a→w'.heap[a.block]? =w.heap[a.block]?):IRow w' A zs:=fun hn=>by
 obtain ⟨g,rfl,hc⟩:=h hn
 exact ⟨g,rfl,fun j x hx=>(World.cell?_of_block (a:=⟨g,j,none⟩) (hk ⟨g,0,none⟩ rfl)).trans (hc j x hx)⟩
end
section
variable {w0 w:World} {Z:Pk} {D:Dk} {L:Lg} {P:Pl}
theorem IRow.stay {w w1 w2:World} {Z Z1:Pk} {P P1:Pl} {A:Option Addr} {zs:List Nat} (h:IRow w1 A zs) (hf:Pfr Z1 P1 w1 w2) (hA:∀a,A=some a→a.block < w.heap.size∧¬Z.has P a.block) (hl:Z1.Later P1 Z P w) (hs:w.heap.size≤w1.heap.size):IRow w2 A zs:=h.keep fun a ha=>hf.other a.block (by have:=(hA a ha).1;omega) fun hh=>by
 rcases hl.has _ hh with h1 | h1
 ·exact (hA a ha).2 h1
 ·have:=(hA a ha).1;omega
structure FlR (S0:St) (zs:List Nat) (k:Nat) (c:Nat) (S:St):Prop where
 le:k≤zs.length
 all:stAll zs S0=stAll (zs.drop k) S
 H:S.P.H=S0.P.H
 hd:S.L.hd=S0.L.hd
 fit:S.Fit (c + k * (S0.L.hd.cn + 3))
def FlP (w0 w:World) (Z:Pk) (S0:St) (e:Ending) (w':World):Prop:=∃zs,ChL S0.P zs∧zs.length≤S0.P.n∧PPost w0 w Z S0.P (.int .i64 (pflR zs S0).1) (pflR zs S0).2.D (pflR zs S0).2.L (pflR zs S0).2.P e w'
theorem pflush_any {c:Nat} (h:PlAt w0 w Z D L P) (ft:St.Fit ⟨D,L,P⟩ c) (hc:c + P.n * (L.hd.cn + 3)≤300000) (hT:Tab w0) (hoff:D.off=false):Calls Tryz.prog 41 #[.pointer (some ⟨Z.q,0,none⟩)] w (FlP w0 w Z ⟨D,L,P⟩):=by
 have H:=hide h
 have HT:=hide hT
 have HC:=hide hc
 have c0:=h.blk.cell (i:=0) rfl
 have KON:Hid (Calls Tryz.prog 57 #[.pointer (some ⟨Z.X.g,0,none⟩)] w (Same w (.bool true))):=hide (by have k:=on_any h.log.disk;rw [hoff] at k;exact k)
 have KCH:=hide (changed_any h ft.pool)
 obtain ⟨S0,HS0⟩:∃S0,Hid ((⟨D,L,P⟩:St)=S0):=⟨_,hide rfl⟩
 have FT:Hid (S0.Fit c):=hide (by rw [← HS0.out];exact ft)
 have HPP:Hid (S0.P=P∧S0.L=L∧S0.D=D):=hide (by rw [← HS0.out];exact ⟨rfl,rfl,rfl⟩)
 obtain ⟨g,HG⟩:∃g,Hid (Z.X.g=g):=⟨_,hide rfl⟩
 obtain ⟨q,HQ⟩:∃q,Hid (Z.q=q):=⟨_,hide rfl⟩
 rw [HG.out] at c0 KON
 rw [HQ.out] at c0 KCH
 rw [HS0.out]
 have HQ2:=hide (show Z.q=q from HQ.out)
 rw [HQ2.out]
 clear h ft hc hT hoff
 go_enter Tryz.func41,Tryz.ntmps41
 go_upto_region 7 with (first
  | (go_at_call 57;(with_reducible refine KON.out.mono ?_);rintro e wz ⟨rfl,hwz⟩;subst hwz)
  | (go_at_call 72;(with_reducible refine KCH.out.mono ?_);rintro e w2 ⟨A,cc,zs,rfl,hch,hzn,hx2,hir,hA⟩;have HCH:=hide hch;have HZN:=hide hzn;have HX2:=hide hx2;have HIR:=hide hir;have HA:=hide hA;clear hch hzn hx2 hir hA))
 have HAR:Hid (∀a,A=some a→a.block < w2.heap.size∧¬Z.has P a.block):=hide (fun a ha=>⟨(HA.out a ha).2,fun hh=>by have h1:=(HA.out a ha).1;have h2:=H.out.has_lt hh;omega⟩)
 have HP2:Hid (PlAt w0 w2 Z S0.D S0.L S0.P):=hide (by rw [← HS0.out];exact H.out.ext_ HX2.out)
 have HCB:Hid (c + zs.length * (S0.L.hd.cn + 3)≤300000):=hide (by
  rw [HPP.out.2.1]
  have h1:=Nat.mul_le_mul_right (L.hd.cn + 3) HZN.out
  have h2:=HC.out
  omega)
 clear c0 KON KCH
 go_loopw [24] (fun x wr=>∃(k:Nat) (S:St) (Z1:Pk),x= .int .i64 (k:Int)∧Hid (PlAt w0 wr Z1 S.D S.L S.P)∧Hid (Pfr Z P w2 wr)∧Hid (Z1.Later P Z P w2)∧Hid (IRow wr A zs)∧Hid (FlR S0 zs k c S)) (fun x _=>zs.length - (intOf x).toNat)
 case atStart=>exact ⟨0,S0,Z,rfl,HP2,hide Pfr.refl,hide (Pk.Later.refl _ _ _),HIR,hide ⟨Nat.zero_le _,by rw [List.drop_zero],rfl,rfl,by rw [Nat.zero_mul];exact FT.out⟩⟩
 case round=>
  obtain ⟨k,S,Z1,rfl,HPK,HFK,HLK,HIK,HRK⟩:=hrel
  have HQ1:Hid (Z1.q=q):=hide (HLK.out.q.trans HQ.out)
  by_cases hk:k < zs.length
  ·have hki:(k:Int) < (zs.length:Int):=by omega
   have hzk:zs[k]? =some zs[k]:=List.getElem?_eq_getElem hk
   obtain ⟨x,HXK⟩:∃x,Hid (zs[k]=x):=⟨_,hide rfl⟩
   rw [HXK.out] at hzk
   have HZK:=hide hzk
   obtain ⟨gA,rfl,hcell⟩:=HIK.out (fun e=>by rw [e] at hk;exact absurd hk (Nat.not_lt_zero _))
   have ck:=hcell k x hzk
   obtain ⟨f,hf⟩:∃f,S.P.H x=some f:=by
    obtain ⟨f,hf,-⟩:=(HCH.out.mem x).1 (List.mem_of_getElem? hzk)
    exact ⟨f,by rw [HRK.out.H,HPP.out.1];exact hf⟩
   have HF:=hide hf
   have hdrop:zs.drop k=x::zs.drop (k + 1):=by rw [← HXK.out];exact List.drop_eq_getElem_cons hk
   have HDR:=hide hdrop
   have HKL:=hide hk
   have HCK:Hid (c + k * (S0.L.hd.cn + 3)≤300000):=hide (by
    have h1:=Nat.mul_le_mul_right (S0.L.hd.cn + 3) (Nat.le_of_lt hk)
    have h2:=HCB.out
    omega)
   have KST:=hide (store_any HPK.out (by cases S;exact HRK.out.fit) (by have:=HCK.out;omega) hf HT.out)
   rw [HQ1.out] at KST
   have hkb:k < 300001:=by
    have h1:zs.length * 1≤zs.length * (S0.L.hd.cn + 3):=Nat.mul_le_mul_left _ (by omega)
    have h2:=HCB.out
    omega
   have hkw:IntKind.i64.wrap ((k:Int) + 1)=((k + 1:Nat):Int):=by rw [IntKind.wrap_i64];omega
   obtain ⟨r1,HR1⟩:∃r1,Hid ((storeR S x f).1=r1):=⟨_,hide rfl⟩
   obtain ⟨S1,HS1⟩:∃S1,Hid ((storeR S x f).2=S1):=⟨_,hide rfl⟩
   have KS2:Hid (Calls Tryz.prog 73 #[.pointer (some ⟨q,0,none⟩), .int .i64 (x:Int)] wr (StPost w0 wr Z1 S.P (r1,S1))):=hide (by
    have k1:=KST.out
    rw [show storeR (⟨S.D,S.L,S.P⟩:St) x f=(r1,S1) from Prod.ext HR1.out HS1.out] at k1
    exact k1)
   obtain ⟨k1,HK1⟩:∃k1,Hid (k + 1=k1):=⟨_,hide rfl⟩
   rw [HK1.out] at hkw
   clear KST hzk hcell hf hdrop HXK hk hkb
   by_cases hr1:r1=0
   ·subst hr1
    go_wp2_with (go_at_call 73;(with_reducible refine KS2.out.mono ?_);rintro e w3 ⟨Z3,rfl,hp3,hf3,hl3,hb3⟩;have HP3:=hide hp3;have HF3:=hide hf3;have HL3:=hide hl3;clear hp3 hf3 hl3 hb3)
    have hz:=storeR_P S x f
    rw [HS1.out] at hz
    have hZP:Z1.Later S.P Z P w2:=HLK.out.fewer fun j g hj=>⟨g,by rw [← HPP.out.1,← HRK.out.H];exact hj⟩
    refine ⟨⟨k1,S1,Z3,rfl,HP3,hide ?_,hide ?_,hide (HIK.out.stay HF3.out (fun a ha=>HAR.out a ha) hZP HFK.out.size),hide ⟨?_, ?_, ?_, ?_, ?_⟩⟩, ?_⟩
    ·exact HFK.out.trans HF3.out hZP
    ·exact (hZP.trans HL3.out HFK.out.size).fewer fun j g hj=>⟨g,by rw [HRK.out.H,HPP.out.1];exact hj⟩
    ·have:=HKL.out;have:=HK1.out;omega
    ·rw [HRK.out.all,HDR.out,stAll_cons HF.out,HR1.out,if_neg (by decide),HS1.out,HK1.out]
    ·rw [hz.1];exact HRK.out.H
    ·rw [hz.2.2.2.2.2.2];exact HRK.out.hd
    ·have h1:=(storeR_fit HRK.out.fit (by have:=HCK.out;omega) HF.out).1
     rw [HS1.out,HRK.out.hd] at h1
     refine h1.mono ?_
     rw [← HK1.out,Nat.add_mul]
     omega
    ·show zs.length - ((k1:Int)).toNat < zs.length - ((k:Int)).toNat
     have:=HKL.out;have:=HK1.out;omega
   ·have hrr:(r1 !=0)=true:=by simpa using hr1
    have HRN:=hide hr1
    clear hr1
    go_wp2_with (go_at_call 73;(with_reducible refine KS2.out.mono ?_);rintro e w3 ⟨Z3,rfl,hp3,hf3,hl3,hb3⟩;have HP3:=hide hp3;have HF3:=hide hf3;have HL3:=hide hl3;clear hp3 hf3 hl3 hb3)
    go_ret
    have hz:=storeR_P S x f
    rw [HS1.out] at hz
    have hZP:Z1.Later S.P Z P w2:=HLK.out.fewer fun j g hj=>⟨g,by rw [← HPP.out.1,← HRK.out.H];exact hj⟩
    have hall:stAll zs S0=(r1,S1):=by
     rw [HRK.out.all,HDR.out,stAll_cons HF.out,HR1.out,if_pos HRN.out,← HR1.out,← HS1.out]
    have hres:pflR zs S0=(r1,S1):=by unfold pflR;rw [hall,if_pos HRN.out]
    refine ⟨zs,by rw [HPP.out.1];exact HCH.out,by rw [HPP.out.1];exact HZN.out, ?_⟩
    rw [hres,HPP.out.1]
    have hpf:=(Pfr.ext (Z:=Z) (P:=P) HX2.out).trans (HFK.out.trans HF3.out hZP) (Pk.Later.refl _ _ _)
    have hln:=((hZP.trans HL3.out HFK.out.size).fewer (P':=S1.P) fun j g hj=>⟨g,by rw [← hz.1];exact hj⟩).up HX2.out.size
    exact ⟨Z3,rfl,HP3.out,hpf,hln⟩
  ·obtain rfl:k=zs.length:=by have:=HRK.out.le;omega
   have hki:¬(zs.length:Int) < (zs.length:Int):=by omega
   have KSE:=hide (psettle_any HPK.out)
   rw [HQ1.out] at KSE
   clear hk
   go_upto_region 14 with (go_at_call 74;(with_reducible refine KSE.out.mono ?_);rintro e w3 ⟨rfl,hp3,hf3⟩;have HP3:=hide hp3;have HF3:=hide hf3;clear hp3 hf3)
   have hall:stAll zs S0=(0,S):=by rw [HRK.out.all,List.drop_length];rfl
   obtain ⟨P4,HP4⟩:∃P4,Hid (settleP S.L S.P=P4):=⟨_,hide rfl⟩
   rw [HP4.out] at HP3
   have HPH:Hid (P4.H=P.H):=hide (by rw [← HP4.out,(settleP_is S.L S.P).1,HRK.out.H,HPP.out.1])
   have HRES:Hid (pflR zs S0=if P4.m=0 then (0,{ S with P:=P4 }) else if sE S.D≠0 then (sE S.D,{ S with D:=sD S.D,P:=P4 }) else (0,{ S with D:=sD S.D,P:=noCh zs { P4 with W:=fun _=>none,m:=0 } })):=hide (by unfold pflR;rw [hall,if_neg (fun hh=>hh rfl),HP4.out])
   have HZ4:Hid (Z1.Later P4 Z P w2):=hide (HLK.out.fewer fun j g hj=>⟨g,by rw [← HPH.out];exact hj⟩)
   have HF4:Hid (Pfr Z P w2 w3):=hide (HFK.out.trans HF3.out (HLK.out.fewer fun j g hj=>⟨g,by rw [← HPP.out.1,← HRK.out.H];exact hj⟩))
   have HPN:Hid (ChL S0.P zs∧zs.length≤S0.P.n):=hide (by rw [HPP.out.1];exact ⟨HCH.out,HZN.out⟩)
   have HIR3:Hid (IRow w3 A zs):=hide (HIR.out.keep fun a ha=>HF4.out.other a.block (HAR.out a ha).1 (HAR.out a ha).2)
   have k6:=HP3.out.blk.cell (i:=6) rfl
   have k0:=HP3.out.blk.cell (i:=0) rfl
   rw [HQ1.out] at k6 k0
   obtain ⟨g1,HG1⟩:∃g1,Hid (Z1.X.g=g1):=⟨_,hide rfl⟩
   obtain ⟨ob,HOB⟩:∃ob,Hid (Z1.ob=ob):=⟨_,hide rfl⟩
   rw [HG1.out] at k0
   obtain ⟨m,HM⟩:∃m,Hid (P4.m=m):=⟨_,hide rfl⟩
   have hlen:∀k,(Builtin.len_ #[86] 3 #[.map (some ob)]).run Tryz.prog (w3.drewN k)= .ok (.int .i64 (m:Int)) (w3.drewN k):=fun k=>by
    have h1:=(HP3.out.ext_ ((Ext.refl _).drewN k)).way.len (t:=86) Tryz.underlying86 3
    rw [HM.out,HOB.out] at h1
    exact h1
   have hlen0:=hlen 0
   rw [show w3.drewN 0=w3 from rfl] at hlen0
   rw [HOB.out] at k6
   rw [HM.out] at HRES
   clear hall hki KSE
   by_cases hm:m=0
   ·subst hm
    have HRES2:Hid (pflR zs S0=(0,{ S with P:=P4 })):=hide (by rw [HRES.out,if_pos rfl])
    go_wp2
    go_ret
    refine ⟨zs,HPN.out.1,HPN.out.2, ?_⟩
    rw [HRES2.out,HPP.out.1]
    exact PPost.pre HX2.out ⟨Z1,rfl,HP3.out,HF4.out,HZ4.out⟩
   ·have hmi:((m:Int)==0)=false:=by simp;omega
    have HB:=hide HRK.out.fit.bd
    obtain ⟨e5,HE5⟩:∃e5,Hid (sE S.D=e5):=⟨_,hide rfl⟩
    obtain ⟨D5,HD5⟩:∃D5,Hid (sD S.D=D5):=⟨_,hide rfl⟩
    have KSY:Hid (∀W,Ext w3 W→Calls Tryz.prog 47 #[.pointer (some ⟨g1,0,none⟩)] W (LPost w0 W Z1.X (.int .i64 e5) D5 S.L)):=hide (fun W hW=>by
     have k1:=gsync_any (HP3.out.ext_ hW).log HB.out
     rw [HG1.out,HE5.out,HD5.out] at k1
     exact k1)
    rw [HE5.out,HD5.out,if_neg hm] at HRES
    have HMN:=hide hm
    clear hm
    by_cases he5:e5=0
    ·subst he5
     go_upto_region 19 with (go_at_call 47;(with_reducible refine (KSY.out _ (Ext.refl _)).mono ?_);rintro e w4 hp4;have HP4L:=hide (HP3.out.of_logE hp4);obtain ⟨X4,rfl,-⟩:=hp4)
     obtain ⟨Z5,-,-,-,hpl5,hpf5,hpn5⟩:=HP4L.out
     have HP5:=hide hpl5
     have HF5:Hid (Pfr Z P w2 w4):=hide (HF4.out.trans hpf5 HZ4.out)
     have HZ5:Hid (Z5.Later P4 Z P w2):=hide (HZ4.out.trans hpn5 HF4.out.size)
     have HQ5:Hid (Z5.q=q):=hide (HZ5.out.q.trans HQ.out)
     obtain ⟨w5,hrun,hmm,ht⟩:=hpl5.way.clear (t:=86) (e:=34) Tryz.underlying86 0
     obtain ⟨P5,HP5E⟩:∃P5,Hid (({ P4 with W:=fun _=>none,m:=0 }:Pl)=P5):=⟨_,hide rfl⟩
     have HP6:Hid (PlAt w0 w5 Z5 D5 S.L P5):=hide (by rw [← HP5E.out];exact hpl5.wayIs (fun _=>none) 0 ht (by unfold wayM;exact hmm))
     have HPH5:Hid (P5.H=P.H):=hide (by rw [← HP5E.out];exact HPH.out)
     have HF6:Hid (Pfr Z P w2 w5):=hide (HF5.out.trans (Pfr.onMap ht (.inr (.inr (.inr (.inl rfl))))) HZ5.out)
     have HZ6:Hid (Z5.Later P5 Z P w2):=hide (HZ5.out.fewer fun j g hj=>⟨g,by rw [HPH.out,← HPH5.out];exact hj⟩)
     have HIR6:Hid (IRow w5 A zs):=hide (HIR.out.keep fun a ha=>HF6.out.other a.block (HAR.out a ha).1 (HAR.out a ha).2)
     have HOB5:Hid (Z5.ob=ob):=hide (by rw [← HOB.out];exact hpn5.ob)
     rw [HOB5.out] at hrun
     have HRUN:=hide hrun
     have k6b:=hpl5.blk.cell (i:=6) rfl
     rw [HQ5.out,HOB5.out] at k6b
     rw [HP5E.out,if_neg (fun hh=>hh rfl)] at HRES
     clear k0 k6 hlen hlen0 hpl5 hpf5 hpn5 hrun hmm ht KSY
     go_upto_region 21 with ((with_reducible show wpList _ _ _ (⟨none, .call _,_,_,_,_⟩::_) _ _);refine wpList_gives (gives_bi1 (x:= .tmp 54) rfl rfl HRUN.out ⟨rfl,rfl⟩) rfl ?_)
     clear k6b
     go_loopw [57] (fun x wr=>∃(k:Nat),x= .int .i64 (k:Int)∧Hid (k≤zs.length)∧Hid (PlAt w0 wr Z5 D5 S.L (noCh (zs.take k) P5))∧Hid (Pfr Z P w2 wr)∧Hid (IRow wr A zs)) (fun x _=>zs.length - (intOf x).toNat)
     case atStart=>exact ⟨0,rfl,hide (Nat.zero_le _),hide (by rw [List.take_zero,noCh_nil];exact HP6.out),HF6,HIR6⟩
     case round=>
      obtain ⟨k,rfl,HKL,HPK5,HFK5,HIK5⟩:=hrel
      by_cases hk:k < zs.length
      ·have hki:(k:Int) < (zs.length:Int):=by omega
       have hzk:zs[k]? =some zs[k]:=List.getElem?_eq_getElem hk
       obtain ⟨x,HXK⟩:∃x,Hid (zs[k]=x):=⟨_,hide rfl⟩
       rw [HXK.out] at hzk
       have HTK:Hid (zs.take (k + 1)=zs.take k ++ [x]):=hide (by rw [List.take_add_one,hzk];rfl)
       obtain ⟨gA,rfl,hcell⟩:=HIK5.out (fun e=>by rw [e] at hk;exact absurd hk (Nat.not_lt_zero _))
       have ck:=hcell k x hzk
       obtain ⟨f0,hf0⟩:∃f,P5.H x=some f:=by
        obtain ⟨f,hf,-⟩:=(HCH.out.mem x).1 (List.mem_of_getElem? hzk)
        exact ⟨f,by rw [HPH5.out];exact hf⟩
       have hb0:f0.by_.length=504:=(HRK.out.fit.pool.page x f0 (by rw [HRK.out.H,HPP.out.1,← HPH5.out];exact hf0)).2.by_
       have hx5:x < 100000:=by
        have h1:=(HRK.out.fit.pool.page x f0 (by rw [HRK.out.H,HPP.out.1,← HPH5.out];exact hf0)).1
        have h2:=HRK.out.fit.pool.at_
        have h3:=HRK.out.fit.pool.max
        omega
       obtain ⟨f,hf,hfb⟩:∃f,(noCh (zs.take k) P5).H x=some f∧f.by_.length=504:=by
        refine ⟨if x∈zs.take k then { f0 with ch:=false } else f0, ?_, ?_⟩
        ·show (P5.H x).map _=_
         rw [hf0];rfl
        ·split
         ·exact hb0
         ·exact hb0
       have HF:=hide hf
       have HFB:=hide hfb
       have hlk:=held_look HPK5.out hx5
       rw [hf] at hlk
       have hlk0:=hlk 0
       rw [show wr.drewN 0=wr from rfl] at hlk0
       have hrf:=HPK5.out.fr x f hf
       have z506:=hrf.frozen 506
       have k506:=hrf.cell (fr_get hfb).2.2.1
       have c5:=HPK5.out.blk.cell (i:=5) rfl
       rw [HQ5.out] at c5
       have c5:wr.cell? ⟨q,5,none⟩=some (.map (some Z5.hb)):=c5
       obtain ⟨b,HBE⟩:∃b,Hid (Z5.fb x=b):=⟨_,hide rfl⟩
       rw [HBE.out] at hlk0 z506 k506
       have hlk0:(Instr.lookup 85 (.map (some Z5.hb)) (.int .i64 (x:Int)) false).run Tryz.prog wr= .ok (.pointer (some ⟨b,0,none⟩)) wr:=hlk0
       have hkw:IntKind.i64.wrap ((k:Int) + 1)=((k + 1:Nat):Int):=by
        have h1:zs.length * 1≤zs.length * (S0.L.hd.cn + 3):=Nat.mul_le_mul_left _ (by omega)
        have h2:=HCB.out
        rw [IntKind.wrap_i64];omega
       have HKK:=hide hk
       obtain ⟨k1,HK1⟩:∃k1,Hid (k + 1=k1):=⟨_,hide rfl⟩
       rw [HK1.out] at hkw HTK
       clear hzk hcell hf0 hb0 hx5 hf hfb hlk hrf HXK hk
       go_wp2
       have hr:=(HPK5.out.fr x f HF.out).set 506 (.bool false)
       rw [show (frC f).set 506 (.bool false)=frC { f with ch:=false } from fr_set HFB.out 2 _,HBE.out] at hr
       have hP:=HPK5.out.frame x (f:=f) (f':= { f with ch:=false }) HF.out (cell_rest wr ⟨b,506,none⟩ (.bool false)) (fun j hj=>Below.heap_setCell wr ⟨b,506,none⟩ _ j (by rw [← HBE.out];exact hj)) (by rw [HBE.out];exact hr) _ (noCh_snoc P5 (zs.take k) x HF.out)
       have hfr:Pfr Z5 (noCh (zs.take k) P5) wr (wr.setCell ⟨b,506,none⟩ (.bool false)):=Pfr.onCell (.inr (.inr (.inr (.inr ⟨x,f,HF.out,HBE.out.symm⟩))))
       have hff:=HFK5.out.trans hfr (HZ6.out.fewer fun j g hj=>by
        have hj:(P5.H j).map _=some g:=hj
        cases hq:P5.H j with
        | none=>rw [hq] at hj;cases hj
        | some g' =>exact ⟨g',rfl⟩)
       refine ⟨⟨k1,rfl,hide (by have:=HKK.out;have:=HK1.out;omega),hide (by rw [HTK.out];exact hP),hide hff,hide (HIR.out.keep fun a ha=>hff.other a.block (HAR.out a ha).1 (HAR.out a ha).2)⟩, ?_⟩
       show zs.length - ((k1:Int)).toNat < zs.length - ((k:Int)).toNat
       have:=HKK.out
       have:=HK1.out
       omega
      ·obtain rfl:k=zs.length:=by have:=HKL.out;omega
       have hki:¬(zs.length:Int) < (zs.length:Int):=by omega
       clear hk
       go_wp2
       go_ret
       have hP:=HPK5.out
       rw [List.take_length] at hP
       refine ⟨zs,HPN.out.1,HPN.out.2, ?_⟩
       rw [HRES.out,HPP.out.1]
       exact PPost.pre HX2.out ⟨Z5,rfl,hP,HFK5.out,HZ6.out.fewer fun j g hj=>by
        have hj:(P5.H j).map _=some g:=hj
        cases hq:P5.H j with
        | none=>rw [hq] at hj;cases hj
        | some g' =>exact ⟨g',rfl⟩⟩
    ·have he5b:(e5 !=0)=true:=by simpa using he5
     have HRES2:Hid (pflR zs S0=(e5,{ S with D:=D5,P:=P4 })):=hide (by rw [HRES.out,if_pos he5])
     clear he5 hlen
     go_wp2_with (go_at_call 47;(with_reducible refine (KSY.out _ (Ext.refl _)).mono ?_);rintro e w4 hp4;have HP4L:=hide (HP3.out.of_logE hp4);obtain ⟨X4,rfl,-⟩:=hp4)
     go_ret
     obtain ⟨Z5,-,-,-,hpl5,hpf5,hpn5⟩:=HP4L.out
     refine ⟨zs,HPN.out.1,HPN.out.2, ?_⟩
     rw [HRES2.out,HPP.out.1]
     exact PPost.pre HX2.out ⟨Z5,rfl,hpl5,HF4.out.trans hpf5 HZ4.out,HZ4.out.trans hpn5 HF4.out.size⟩
end
section
variable {w0 w w':World} {Z Z':Pk} {s c:Nat} {S S1 S2:St} {R R' R2:Sr}
theorem ssettle_ok (h:StoAt w0 w Z s S R) (ft:S.Fit c) (hc:c + S.P.n * (S.L.hd.cn + 3)≤300000) (hT:Tab w0) (hoff:S.D.off=false) (hfl:∀zs,ChL S.P zs→pflR zs S=(0,S1)) (r:Value)
  (KC:∀W Z2,StoAt w0 W Z2 s S1 R→Calls Tryz.prog 40 #[.pointer (some ⟨s,0,none⟩)] W (SoPost w0 W Z2 s S1.P r S2 R2)):
  Calls Tryz.prog 56 #[.pointer (some ⟨s,0,none⟩)] w (SoPost w0 w Z s S.P r S2 R2):=by
 have KF:Hid (Calls Tryz.prog 41 #[.pointer (some ⟨Z.q,0,none⟩)] w (SoPost w0 w Z s S.P (.int .i64 0) S1 R)):=hide ((pflush_any h.pool ft hc hT hoff).mono fun e w' hh=>by
  obtain ⟨zs,hz,-,Z',he,h1,h2,h3⟩:=hh
  have e1:pflR zs (⟨S.D,S.L,S.P⟩:St)=(0,S1):=hfl zs hz
  rw [e1] at he h1 h3
  exact ⟨Z',he,h.later (S':=S1) h1 h2 h3,Sfr.of h2,h3⟩)
 have HKC:=hide KC
 have c2:=h.blk.cell (i:=2) rfl
 clear h ft hc hT hoff hfl KC
 go_enter Tryz.func56,Tryz.ntmps56
 go_wp2_with (first
  | (go_at_call 41;(with_reducible refine KF.out.mono ?_);rintro e2 w2 ⟨Z2,rfl,h2,hf2,hl2⟩;have H2:=hide h2;have HF2:=hide hf2;have HL2:=hide hl2;have KC2:=hide (HKC.out w2 Z2 h2);clear h2 hf2 hl2)
  | (go_at_call 40;(with_reducible refine KC2.out.mono ?_);rintro e3 w3 ⟨Z3,rfl,h3,hf3,hl3⟩;have H3:=hide h3;have HF3:=hide hf3;have HL3:=hide hl3;clear h3 hf3 hl3))
 go_ret
 exact SoPost.then HF2.out HL2.out ⟨Z3,rfl,H3.out,HF3.out,HL3.out⟩
end
section
variable {w0 w w':World} {s c:Nat}
theorem srestore_ok {Pm:Nat→World→Prop} {Pr Q:World→Prop}
  (KL:Calls Tryz.prog 54 #[.pointer (some ⟨s,0,none⟩)] w (fun e w' =>∃mb,e= .returned (.tuple #[.map (some mb), .int .i64 0])∧Pm mb w'))
  (KR:∀mb W,Pm mb W→Calls Tryz.prog 55 #[.pointer (some ⟨s,0,none⟩), .map (some mb)] W (fun e w' =>e= .returned (.int .i64 0)∧Pr w'))
  (hP:∀W,Pr W→∃Z S R,StoAt w0 W Z s S R∧R.op=false)
  (KS:∀W,Pr W→Calls Tryz.prog 56 #[.pointer (some ⟨s,0,none⟩)] W (fun e w' =>e= .returned (.int .i64 0)∧Q w')):
  Calls Tryz.prog 31 #[.pointer (some ⟨s,0,none⟩)] w (fun e w' =>e= .returned (.int .i64 0)∧Q w'):=by
 have HKL:=hide KL
 have HKR:=hide KR
 have HPP:=hide hP
 have HKS:=hide KS
 clear KL KR hP KS
 go_enter Tryz.func31,Tryz.ntmps31
 go_wp2_with (first
  | (go_at_call 54;(with_reducible refine HKL.out.mono ?_);rintro e2 w2 ⟨mb,rfl,h2⟩;have KR2:=hide (HKR.out mb w2 h2);clear h2)
  | (go_at_call 55;(with_reducible refine KR2.out.mono ?_);rintro e3 w3 ⟨rfl,h3⟩;have KS3:=hide (HKS.out w3 h3);obtain ⟨Z3,S3,R3,h3b,hop3⟩:=HPP.out w3 h3;have c5:=h3b.blk.cell (i:=5) rfl;rw [hop3] at c5;clear h3 h3b hop3)
  | (go_at_call 56;(with_reducible refine KS3.out.mono ?_);rintro e4 w4 ⟨rfl,h4⟩;have H4:=hide h4;clear h4))
 go_ret
 exact ⟨rfl,H4.out⟩
end
def Sr0 (c:Nat):Sr:=⟨c,0,false,0,0,0,false⟩
theorem builtS (g q p:Nat) (c:Int):Tryz.prog.built 70 [(0, .pointer (some ⟨g,0,none⟩)),(1, .pointer (some ⟨q,0,none⟩)),(2, .pointer (some ⟨p,0,none⟩)),(3, .int .i64 c)]=
  some #[.pointer (some ⟨g,0,none⟩), .pointer (some ⟨q,0,none⟩), .pointer (some ⟨p,0,none⟩), .int .i64 c, .int .u64 0, .bool false, .int .u64 0, .int .u64 0, .int .u64 0, .bool false]:=by kernel_rfl
section
variable {g gd gn cA:Nat} {w0 w w1:World} {A:Option Addr} {D:Dk}
theorem sopen_ok (hx0:Ext w0 w) (h:DiskAt w0.heap.size w g gd gn A cA D) (b:Bd D) (hp:D.pen.length < 800000) (ho:D.ops < 800000) (hT:Tab w0) (c f:Nat) (hf:stFitsE D (c:Int)=0) (hc:1 + c < D.dur.length) (hfr:1≤f∧f≤64) (hfi:(rhH D 0).fi < 576460752303423488) (hst:(rhH D 0).st < 1152921504606846976) (hop:opE D 0 (c:Int)=0) (hdl:(opD D 0 (c:Int)).dur.length=D.dur.length) (Q:Nat→World→Prop)
  (KRS:∀W Z s,StoAt w0 W Z s ⟨opD D 0 (c:Int),opL D 0,P0 (1 + c) (D.dur.length - (1 + c)) f⟩ (Sr0 c)→Z.X.g=g→Calls Tryz.prog 31 #[.pointer (some ⟨s,0,none⟩)] W (fun e w' =>e= .returned (.int .i64 0)∧Q s w')):
  Calls Tryz.prog 8 #[.pointer (some ⟨g,0,none⟩), .int .i64 (c:Int), .int .i64 (f:Int)] w (fun e w' =>∃s,e= .returned (.tuple #[.pointer (some ⟨s,0,none⟩), .int .i64 0])∧Q s w'):=by
 have hmx:=b.ok.max
 have KF:=hide (sfits_any h hmx (c:Int))
 rw [hf] at KF
 have KO:Hid (Calls Tryz.prog 29 #[.pointer (some ⟨g,0,none⟩), .int .i64 0, .int .i64 (c:Int)] w (fun e w' =>∃X',e= .returned (.tuple #[.pointer (some ⟨X'.q,0,none⟩), .int .i64 0])∧LgAt w0 w' X' (opD D 0 (c:Int)) (opL D 0)∧X'.g=g)):=hide ((open_any hx0 h b hp ho hT 0 (c:Int) (by decide) (by omega) hfi hst).mono fun e w' hh=>by
  obtain ⟨X',he,h1,h2,-⟩:=hh.1 hop
  exact ⟨X',he,h1,h2⟩)
 obtain ⟨D1,HD1⟩:∃D1,Hid (opD D 0 (c:Int)=D1):=⟨_,hide rfl⟩
 obtain ⟨L1,HL1⟩:∃L1,Hid (opL D 0=L1):=⟨_,hide rfl⟩
 rw [HD1.out,HL1.out] at KO KRS
 rw [HD1.out] at hdl
 have KP:Hid (∀W,Calls Tryz.prog 26 #[.int .i64 (c:Int)] W (Same W (.int .i64 ((1 + c:Nat):Int)))):=hide (fun W=>spagesAt_any c (by omega) W)
 obtain ⟨dl,HDL⟩:∃dl,Hid (D.dur.length=dl):=⟨_,hide rfl⟩
 rw [HDL.out] at hdl hmx hc KRS
 obtain ⟨pa,HPA⟩:∃pa,Hid (1 + c=pa):=⟨_,hide rfl⟩
 obtain ⟨pn,HPN⟩:∃pn,Hid (dl - pa=pn):=⟨_,hide rfl⟩
 have KL:Hid (∀W X',LgAt w0 W X' D1 L1→X'.g=g→Calls Tryz.prog 27 #[.pointer (some ⟨g,0,none⟩)] W (Same W (.int .i64 (dl:Int)))):=hide (fun W X' hW hg=>by
  have k:=len_any hW.disk
  rw [hdl,hg] at k
  exact k)
 rw [HPA.out] at KP KRS hc
 rw [HPN.out] at KRS
 have KN:Hid (∀W X',LgAt w0 W X' D1 L1→X'.g=g→Calls Tryz.prog 30 #[.pointer (some ⟨g,0,none⟩), .pointer (some ⟨X'.q,0,none⟩), .int .i64 (pa:Int), .int .i64 (pn:Int), .int .i64 (f:Int)] W (NwP w0 W X' D1 L1 (P0 pa pn f))):=hide (fun W X' hW hg=>by
  have e1:=HPN.out
  have k:=pnew_any hW pa pn f (by omega) (by omega) (by omega) hfr
  rw [hg] at k
  exact k)
 have hw1:IntKind.i64.wrap ((dl:Int) - (pa:Int))=(pn:Int):=by
  have e1:=HPN.out
  rw [IntKind.wrap_i64];omega
 have hc1:¬(f:Int) < 1:=by omega
 have hc2:¬64 < (f:Int):=by omega
 have HKRS:=hide KRS
 clear hx0 h b hp ho hT hf hc hfr hfi hst hop hdl KRS hmx
 go_enter Tryz.func8,Tryz.ntmps8
 go_upto_region 12 with (first
  | (go_at_call 24;(with_reducible refine KF.out.mono ?_);rintro e2 w2 ⟨rfl,hw2⟩;subst hw2)
  | (go_at_call 29;(with_reducible refine KO.out.mono ?_);rintro e3 w3 ⟨X3,rfl,h3,hg3⟩;have H3:=hide h3;have HG3:=hide hg3;clear h3 hg3)
  | (go_at_call 26;(with_reducible refine (KP.out _).mono ?_);rintro e4 w4 ⟨rfl,hw4⟩;subst hw4)
  | (go_at_call 27;(with_reducible refine (KL.out _ X3 H3.out HG3.out).mono ?_);rintro e5 w5 ⟨rfl,hw5⟩;subst hw5)
  | (go_at_call 30;(with_reducible refine (KN.out _ X3 H3.out HG3.out).mono ?_);rintro e6 w6 ⟨Z6,rfl,hX6,h6,hx6⟩;have HX6:=hide hX6;have H6:=hide h6;clear h6 hx6 hX6))
 clear hw1 hc1 hc2
 obtain ⟨q3,HQ3⟩:∃q3,Hid (X3.q=q3):=⟨_,hide rfl⟩
 obtain ⟨p6,HP6⟩:∃p6,Hid (Z6.q=p6):=⟨_,hide rfl⟩
 rw [HQ3.out,HP6.out]
 obtain ⟨s,HS⟩:∃s,Hid (w6.heap.size=s):=⟨_,hide rfl⟩
 obtain ⟨w7,HW7⟩:∃w7,Hid (w6.alloc (.cells #[.pointer (some ⟨g,0,none⟩), .pointer (some ⟨q3,0,none⟩), .pointer (some ⟨p6,0,none⟩), .int .i64 (c:Int), .int .u64 0, .bool false, .int .u64 0, .int .u64 0, .int .u64 0, .bool false] 70)=w7):=⟨_,hide rfl⟩
 have HST:Hid (StoAt w0 w7 Z6 s ⟨D1,L1,P0 pa pn f⟩ (Sr0 c)):=hide (by
  have hx7:Ext w6 w7:=by rw [← HW7.out];exact Ext.alloc _ _
  have hr:Rw w7 s 70 [.pointer (some ⟨g,0,none⟩), .pointer (some ⟨q3,0,none⟩), .pointer (some ⟨p6,0,none⟩), .int .i64 (c:Int), .int .u64 0, .bool false, .int .u64 0, .int .u64 0, .int .u64 0, .bool false]:=by rw [← HW7.out,← HS.out];exact Rw.new _ _ _
  rw [← HP6.out,← HQ3.out,← HG3.out,← HX6.out] at hr
  exact ⟨H6.out.ext_ hx7,hr,by rw [← HS.out];exact H6.out.log.ext.size⟩)
 have KRW:=hide (HKRS.out w7 Z6 s HST.out (by rw [HX6.out];exact HG3.out))
 go_upto_region 13 with ((with_reducible show wpList _ _ _ (⟨_, .build _ _,_,_,_,_⟩::_) _ _);refine wpList_gives (gives_build rfl _ [(0, .pointer (some ⟨g,0,none⟩)),(1, .pointer (some ⟨q3,0,none⟩)),(2, .pointer (some ⟨p6,0,none⟩)),(3, .int .i64 (c:Int))] rfl (builtS g q3 p6 c) ⟨rfl,rfl⟩) rfl ?_)
 rw [HS.out,HW7.out]
 go_wp2_with (go_at_call 31;(with_reducible refine KRW.out.mono ?_);rintro e8 w8 ⟨rfl,h8⟩;have H8:=hide h8;clear h8)
 go_ret2
 exact ⟨s,rfl,H8.out⟩
end
theorem builtU (tx la pg off pv:Int) (A5:Option Addr) (n5 c5:Nat):Tryz.prog.built 95 [(0, .int .u8 3),(1, .int .u64 tx),(2, .int .u64 la),(3, .int .i64 pg),(4, .int .i64 off),(6, .slice A5 n5 c5),(7, .int .u64 pv)]=
  some #[.int .u8 3, .int .u64 tx, .int .u64 la, .int .i64 pg, .int .i64 off, .slice none 0 0, .slice A5 n5 c5, .int .u64 pv, .slice none 0 0, .bool false]:=by kernel_rfl
theorem builtV (tx la pg off:Int) (A5 A6:Option Addr) (n5 c5 n6 c6:Nat):Tryz.prog.built 95 [(0, .int .u8 2),(1, .int .u64 tx),(2, .int .u64 la),(3, .int .i64 pg),(4, .int .i64 off),(5, .slice A5 n5 c5),(6, .slice A6 n6 c6)]=
  some #[.int .u8 2, .int .u64 tx, .int .u64 la, .int .i64 pg, .int .i64 off, .slice A5 n5 c5, .slice A6 n6 c6, .int .u64 0, .slice none 0 0, .bool false]:=by kernel_rfl
section
variable {w0 w w1:World}
theorem sundo_any (k tx pv pg off nx:Int) (A5 A6 A8:Option Addr) (n5 c5 n6 c6 n8 c8:Nat) (op:Bool) (la:Int):
  Calls Tryz.prog 64 #[.agg #[.int .u8 k, .int .u64 tx, .int .u64 pv, .int .i64 pg, .int .i64 off, .slice A5 n5 c5, .slice A6 n6 c6, .int .u64 nx, .slice A8 n8 c8, .bool op], .int .u64 la] w (fun e w' =>e= .returned (.agg #[.int .u8 3, .int .u64 tx, .int .u64 la, .int .i64 pg, .int .i64 off, .slice none 0 0, .slice A5 n5 c5, .int .u64 pv, .slice none 0 0, .bool false])∧Ext w w'):=by
 obtain ⟨gR,HGR⟩:∃gR,Hid (w.heap.size=gR):=⟨_,hide rfl⟩
 obtain ⟨wb,HWB⟩:∃wb,Hid ((w.alloc (.cells #[.int .u8 k, .int .u64 tx, .int .u64 pv, .int .i64 pg, .int .i64 off, .slice A5 n5 c5, .slice A6 n6 c6, .int .u64 nx, .slice A8 n8 c8, .bool op] 95)).alloc (.cells #[.int .u8 0, .int .u64 0, .int .u64 0, .int .i64 0, .int .i64 0, .slice none 0 0, .slice none 0 0, .int .u64 0, .slice none 0 0, .bool false] 95)=wb):=⟨_,hide rfl⟩
 have HXB:Hid (Ext w wb):=hide (by rw [← HWB.out];exact (Ext.alloc _ _).trans (Ext.alloc _ _))
 have HRB:Hid (Rw wb gR 95 [.int .u8 k, .int .u64 tx, .int .u64 pv, .int .i64 pg, .int .i64 off, .slice A5 n5 c5, .slice A6 n6 c6, .int .u64 nx, .slice A8 n8 c8, .bool op]):=hide (by rw [← HWB.out,← HGR.out];exact (Rw.new w _ _).alloc _)
 have HRN:Hid (Rw wb (gR + 1) 95 [.int .u8 0, .int .u64 0, .int .u64 0, .int .i64 0, .int .i64 0, .slice none 0 0, .slice none 0 0, .int .u64 0, .slice none 0 0, .bool false]):=hide (by
  have e1:(w.alloc (.cells #[.int .u8 k, .int .u64 tx, .int .u64 pv, .int .i64 pg, .int .i64 off, .slice A5 n5 c5, .slice A6 n6 c6, .int .u64 nx, .slice A8 n8 c8, .bool op] 95)).heap.size=gR + 1:=by rw [← HGR.out];simp
  rw [← HWB.out,← e1];exact Rw.new _ _ _)
 have HBG:Hid (w.heap.size≤gR + 1):=hide (by rw [HGR.out];omega)
 have r1:=HRB.out.cell (i:=1) rfl
 have r2:=HRB.out.cell (i:=2) rfl
 have r3:=HRB.out.cell (i:=3) rfl
 have r4:=HRB.out.cell (i:=4) rfl
 have r5:=HRB.out.cell (i:=5) rfl
 have l0:=HRN.out.cell (i:=0) rfl
 have l1:=HRN.out.cell (i:=1) rfl
 have l2:=HRN.out.cell (i:=2) rfl
 have l3:=HRN.out.cell (i:=3) rfl
 have l4:=HRN.out.cell (i:=4) rfl
 have l5:=HRN.out.cell (i:=5) rfl
 have l6:=HRN.out.cell (i:=6) rfl
 have l7:=HRN.out.cell (i:=7) rfl
 have l8:=HRN.out.cell (i:=8) rfl
 have l9:=HRN.out.cell (i:=9) rfl
 have z0:=HRN.out.frozen 0
 have z1:=HRN.out.frozen 1
 have z2:=HRN.out.frozen 2
 have z3:=HRN.out.frozen 3
 have z4:=HRN.out.frozen 4
 have z5:=HRN.out.frozen 5
 have z6:=HRN.out.frozen 6
 have z7:=HRN.out.frozen 7
 have z8:=HRN.out.frozen 8
 have z9:=HRN.out.frozen 9
 obtain ⟨q1,q2⟩:=box10 (v0:= .int .u8 3) (v1:= .int .u64 tx) (v2:= .int .u64 la) (v3:= .int .i64 pg) (v4:= .int .i64 off) (v5:= .slice none 0 0) (v6:= .slice A5 n5 c5) (v7:= .int .u64 pv) (v8:= .slice none 0 0) (v9:= .bool false) HRN.out HXB.out HBG.out
 have HQ1:=hide q1
 have HQ2:=hide q2
 clear q1 q2
 go_enter Tryz.func64,Tryz.ntmps64
 go_upto_region 1 with fail
 rw [HGR.out,HWB.out]
 go_wp2_with ((with_reducible show wpList _ _ _ (⟨some 16, .build _ _,_,_,_,_⟩::_) _ _);refine wpList_gives (gives_build rfl _ [(0, .int .u8 3),(1, .int .u64 tx),(2, .int .u64 la),(3, .int .i64 pg),(4, .int .i64 off),(6, .slice A5 n5 c5),(7, .int .u64 pv)] rfl (builtU tx la pg off pv A5 n5 c5) ⟨rfl,rfl⟩) rfl ?_)
 obtain ⟨wz,hwz⟩:∃wz,((((((((((wb.setCell ⟨gR + 1,0,none⟩ (.int .u8 3)).setCell ⟨gR + 1,1,none⟩ (.int .u64 tx)).setCell ⟨gR + 1,2,none⟩ (.int .u64 la)).setCell ⟨gR + 1,3,none⟩ (.int .i64 pg)).setCell ⟨gR + 1,4,none⟩ (.int .i64 off)).setCell ⟨gR + 1,5,none⟩ (.slice none 0 0)).setCell ⟨gR + 1,6,none⟩ (.slice A5 n5 c5)).setCell ⟨gR + 1,7,none⟩ (.int .u64 pv)).setCell ⟨gR + 1,8,none⟩ (.slice none 0 0)).setCell ⟨gR + 1,9,none⟩ (.bool false))=wz:=⟨_,rfl⟩
 rw [hwz] at HQ1 HQ2 ⊢
 clear hwz
 have d0:=HQ1.out.cell (i:=0) rfl
 have d1:=HQ1.out.cell (i:=1) rfl
 have d2:=HQ1.out.cell (i:=2) rfl
 have d3:=HQ1.out.cell (i:=3) rfl
 have d4:=HQ1.out.cell (i:=4) rfl
 have d5:=HQ1.out.cell (i:=5) rfl
 have d6:=HQ1.out.cell (i:=6) rfl
 have d7:=HQ1.out.cell (i:=7) rfl
 have d8:=HQ1.out.cell (i:=8) rfl
 have d9:=HQ1.out.cell (i:=9) rfl
 refine bodyPost_ret (by simp [results,Tryz.results64,go_sem,d0,d1,d2,d3,d4,d5,d6,d7,d8,d9];try rfl) rfl ?_
 exact ⟨rfl,HQ2.out⟩
end
section
variable {w0 w:World} {Z:Pk} {D:Dk} {L:Lg} {P:Pl}
def RdPc (w0 w:World) (Z:Pk) (P:Pl) (i:Nat) (S:St) (e:Ending) (w':World):Prop:=
 ∃f Z' A cc,S.P.H i=some f∧e= .returned (.tuple #[.slice A 504 cc, .int .u64 (f.last:Int), .int .i64 0])∧504≤cc∧Rd w' A f.by_∧(∀a,A=some a→w.heap.size≤a.block∧a.block < w'.heap.size∧¬Z'.has S.P a.block)∧PlAt w0 w' Z' S.D S.L S.P∧Pfr Z P w w'∧Z'.Later S.P Z P w
theorem pread_cap {c:Nat} (h:PlAt w0 w Z D L P) (ft:St.Fit ⟨D,L,P⟩ c) (hc:c≤400000) (hT:Tab w0) (x:Int) (S:St) (hp:pageR ⟨D,L,P⟩ x=(0,S)):
  Calls Tryz.prog 35 #[.pointer (some ⟨Z.q,0,none⟩), .int .i64 x] w (RdPc w0 w Z P x.toNat S):=by
 have KP:=hide (page_had h ft hc hT x S hp)
 have FT:Hid (S.Fit (c + L.hd.cn + 4)):=hide (by have h1:=(pageR_fit ft hc x).1;rw [hp] at h1;exact h1)
 obtain ⟨i,HI⟩:∃i,Hid (x.toNat=i):=⟨_,hide rfl⟩
 rw [HI.out] at KP ⊢
 clear h ft hc hT hp
 go_enter Tryz.func35,Tryz.ntmps35
 go_upto_region 6 with (go_at_call 60;(with_reducible refine KP.out.mono ?_);rintro e w2 ⟨Z2,f,b,rfl,hb2,hf2,hl2,hpf2,hn2⟩;have HB2:=hide hb2;have HF2:=hide hf2;have HL2:=hide hl2;have HPF2:=hide hpf2;have HPN2:=hide hn2;clear hb2 hf2 hl2 hpf2 hn2)
 have h5:=(FT.out.pool.page i f HF2.out).2
 have H5:=hide h5
 have hr:=HL2.out.fr i f HF2.out
 rw [HB2.out] at hr
 have HR:=hide hr
 have k504:=hr.cell (fr_get h5.by_).1
 obtain ⟨la,HLA⟩:∃la,Hid (f.last=la):=⟨_,hide rfl⟩
 rw [HLA.out] at k504
 have KCL:Hid (∀W,Ext w2 W→Calls Tryz.prog 61 #[.slice (some ⟨b,0,none⟩) 504 504] W (fun e w' =>∃A cc,e= .returned (.slice A 504 cc)∧504≤cc∧Rd w' A f.by_∧(∀a,A=some a→W.heap.size≤a.block∧a.block < w'.heap.size)∧Ext W w')):=hide (fun W hW=>by
  refine (sclone_any (some ⟨b,0,none⟩) f.by_ 504 504 W (fr_bytes H5.out.by_ (HR.out.ext hW)) H5.out.by_ (by decide) (by simp)).mono fun e w' hh=> ?_
  obtain ⟨v,he,hx,ho⟩:=hh
  obtain ⟨A,cc,hv,hcap,hrd⟩:=ho.bytes
  rw [H5.out.by_] at hv hcap
  refine ⟨A,cc,by rw [he,hv],hcap,hrd,fun a ha=> ?_,hx⟩
  have h1:=own_block ho a.block (by rw [hv,ha];rfl)
  exact ⟨h1.1,h1.2.1⟩)
 have HRUN:Hid (∀W,(Instr.sliceAt 101 (.pointer (some ⟨b,0,none⟩)) none none none).run Tryz.prog W= .ok (.slice (some ⟨b,0,none⟩) 504 504) W):=hide (fun W=>run_all504 b 0 W)
 clear hr h5
 go_region_law (go_simp;go_at_call 61;(with_reducible refine (KCL.out _ (Ext.drew _)).mono ?_);rintro e w3 ⟨A3,c3,rfl,hcp3,hr3,ha3,hx3⟩;have HCP3:=hide hcp3;have HX3:Hid (Ext w2 w3):=hide ((Ext.drew _).trans hx3);have HR3:=hide hr3;have HA3:Hid (∀a,A3=some a→w2.heap.size≤a.block∧a.block < w3.heap.size):=hide ha3;have k504b:=(HR.out.ext HX3.out).cell (fr_get H5.out.by_).1;rw [HLA.out] at k504b;clear hcp3 hr3 ha3 hx3)
 all_goals
  go_wp2
  go_ret3
  refine ⟨f,Z2,A3,c3,HF2.out,by rw [HLA.out];rfl,HCP3.out,HR3.out,fun a ha=> ?_,HL2.out.ext_ HX3.out,HPF2.out.trans (Pfr.ext HX3.out) HPN2.out,HPN2.out⟩
  obtain ⟨h1,h2⟩:=HA3.out a ha
  exact ⟨Nat.le_trans HPF2.out.size h1,h2,fun hh=>by have h3:=HL2.out.has_lt hh;omega⟩
end
section
variable {w0 w w':World} {Z Z':Pk} {s c:Nat} {S S1 S2:St} {R R' R2:Sr}
theorem rd_cut {w:World} {A:Option Addr} {l:List UInt8} {c f d:Nat} (h:Rd w A l) (hc:f < c):Rd w (cutB A c f) ((l.drop f).take d):=fun hn=>by
 have hl:l≠ []:=by intro e;subst e;simp at hn
 obtain ⟨b,o,rfl,hx⟩:=h hl
 unfold cutB
 rw [if_neg (by omega)]
 refine ⟨b,o + f,by show some ((⟨b,o,none⟩:Addr).add f)=_;rw [add_flat],fun j u hj=> ?_⟩
 have h2:l[f + j]? =some u:=by
  rw [List.getElem?_take] at hj
  split at hj
  ·rw [List.getElem?_drop] at hj;exact hj
  ·cases hj
 rw [Nat.add_assoc]
 exact hx _ _ h2
theorem cut_block {A:Option Addr} {c f:Nat}:∀a,cutB A c f=some a→∃a',A=some a'∧a'.block=a.block:=fun a ha=>by
 unfold cutB at ha
 split at ha
 ·exact ⟨a,ha,rfl⟩
 ·cases A with
  | none=>cases ha
  | some a' =>exact ⟨a',rfl,by
   injection ha with ha
   rw [← ha]
   show a'.block=(a'.add f).block
   unfold Addr.add
   split <;> rfl⟩
def undoB (R:Sr) (x f:Nat) (old:List UInt8):List UInt8:=fullB 3 (R.number:Int) 0 (x:Int) (f:Int) (R.last:Int) [] old [] false
theorem swrite_in (h:StoAt w0 w Z s S R) (ft:S.Fit c) (hc:c≤400000) (hT:Tab w0) (x:Nat) (hp:pageR S (x:Int)=(0,S1)) (f1:Fm) (hf1:S1.P.H x=some f1) (hl:f1.by_.length=504) (B:Option Addr) (cb:Nat) (bb:List UInt8) (hB:Rd w B bb) (hbl:bb.length=504) (hcb:504≤cb) (hBk:∀a,B=some a→a.block < w.heap.size∧¬Z.has S.P a.block∧a.block≠s) (Q:Ending→World→Prop) (hnum:R.number < 18446744073709551616∧R.last < 18446744073709551616) (hux:x < 4096)
  (huf:∀f d:Nat,f + d≤504→0 < d→formN 3 0 (x:Int) (f:Int) (R.last:Int) d 0 0 [] false=true∧(undoB R x f ((f1.by_.drop f).take d)).length≤100000)
  (hchg:∀(f t d:Nat) W Z2 A5 k5 A6 k6,Dif f1.by_ bb 504 f t→f + d=t→0 < d→StoAt w0 W Z2 s S1 R→Sfr Z s S.P w W→Z2.Later S1.P Z S.P w→(∀W',Sfr Z2 s S1.P W W'→Rd W' A5 ((f1.by_.drop f).take d)∧Rd W' A6 ((bb.drop f).take d))→
   Calls Tryz.prog 63 #[.pointer (some ⟨s,0,none⟩), .agg #[.int .u8 2, .int .u64 (R.number:Int), .int .u64 (R.last:Int), .int .i64 (x:Int), .int .i64 (f:Int), .slice A5 d k5, .slice A6 d k6, .int .u64 0, .slice none 0 0, .bool false], .int .i64 ((2 + (undoB R x f ((f1.by_.drop f).take d)).length:Nat):Int)] W (fun e w' =>(∃er Z4 S4 R4,e= .returned (.int .i64 er)∧StoAt w0 w' Z4 s S4 R4∧Sfr Z2 s S1.P W w')∧Q e w'))
  (hsame:∀f W Z2,Dif f1.by_ bb 504 f f→StoAt w0 W Z2 s S1 R→Sfr Z s S.P w W→Z2.Later S1.P Z S.P w→Q (.returned (.int .i64 0)) W):
  Calls Tryz.prog 37 #[.pointer (some ⟨s,0,none⟩), .int .i64 (x:Int), .slice B 504 cb] w Q:=by
 have KP:Hid (∀W,StoAt w0 W Z s S R→Calls Tryz.prog 35 #[.pointer (some ⟨Z.q,0,none⟩), .int .i64 (x:Int)] W (fun e w' =>∃A cc Z2,Rd w' A f1.by_∧504≤cc∧(∀a,A=some a→W.heap.size≤a.block∧a.block < w'.heap.size∧¬Z2.has S1.P a.block)∧e= .returned (.tuple #[.slice A 504 cc, .int .u64 (f1.last:Int), .int .i64 0])∧StoAt w0 w' Z2 s S1 R∧Sfr Z s S.P W w'∧Z2.Later S1.P Z S.P W)):=hide (fun W hW=>(pread_cap hW.pool ft hc hT (x:Int) S1 hp).mono fun e w' hh=>by
  obtain ⟨f,Z',A,cc,hf,he,hcc,hrd,hA,hl,hpf,hn2⟩:=hh
  rw [Int.toNat_natCast,hf1] at hf
  injection hf with hf
  subst hf
  exact ⟨A,cc,Z',hrd,hcc,hA,he,hW.later hl hpf hn2,Sfr.of hpf,hn2⟩)
 have HBK:Hid (∀W,Sfr Z s S.P w W→Rd W B bb):=hide (fun W hW=>rd_keepB hB fun a ha=>hW.other a.block (hBk a ha).1 (hBk a ha).2.1 (hBk a ha).2.2)
 have H:=hide h
 have HSAME:=hide hsame
 have HCH:=hide hchg
 have HUF0:=hide huf
 have HTT:=hide hT
 have HNUM:=hide hnum
 have HUX:=hide hux
 have HL:=hide hl
 have HBL:=hide hbl
 have HCB:=hide hcb
 have c2:=h.blk.cell (i:=2) rfl
 have KPW:=hide (KP.out w h)
 clear h ft hc hT hp hf1 hl hB hbl hcb hBk hsame KP hchg huf hnum hux
 go_enter Tryz.func37,Tryz.ntmps37
 go_upto_region 4 with (go_at_call 35;(with_reducible refine KPW.out.mono ?_);rintro e w2 ⟨A2,cc2,Z2,hr2,hcc2,hA2,rfl,h2,hf2,hl2⟩;have HR2:=hide hr2;have HCC2:=hide hcc2;have HA2:=hide hA2;have H2:=hide h2;have HF2:=hide hf2;have HL2:=hide hl2;clear hr2 hcc2 hA2 h2 hf2 hl2)
 have KD:=hide (sdiff_any A2 B cc2 cb 504 f1.by_ bb HR2.out (HBK.out w2 HF2.out) HL.out HBL.out (by decide) HCC2.out HCB.out)
 clear c2
 go_upto_region 5 with (go_at_call 62;(with_reducible refine KD.out.mono ?_);rintro e w3 ⟨f,t,rfl,hx3,hd3⟩;have HX3:=hide hx3;have HD3:=hide hd3;clear hx3 hd3)
 have H3:=hide (H2.out.ext_ HX3.out)
 by_cases hft:f=t
 ·subst hft
  go_wp2
  show Q (.returned (.int .i64 0)) w3
  exact HSAME.out f w3 Z2 HD3.out H3.out (HF2.out.trans (Sfr.ext HX3.out) HL2.out) (HL2.out.trans (Pk.Later.refl _ _ _) HF2.out.size)
 ·have hft2:¬(f:Int)=(t:Int):=by omega
  have c6:=H3.out.blk.cell (i:=6) rfl
  have c8:=H3.out.blk.cell (i:=8) rfl
  go_upto_region 7 with fail
  have s5:∀W,(Instr.sliceAt 22 (.slice A2 504 cc2) (some (.int .i64 (f:Int))) (some (.int .i64 (t:Int))) none).run Tryz.prog W= .ok (.slice (cutB A2 cc2 f) (t - f) (cc2 - f)) W:=fun W=>run_cutII A2 504 cc2 f t (t - f) (by have:=HD3.out.le;omega) HD3.out.le.1 (by have:=HD3.out.le;have:=HCC2.out;omega) W
  have s6:∀W,(Instr.sliceAt 22 (.slice B 504 cb) (some (.int .i64 (f:Int))) (some (.int .i64 (t:Int))) none).run Tryz.prog W= .ok (.slice (cutB B cb f) (t - f) (cb - f)) W:=fun W=>run_cutII B 504 cb f t (t - f) (by have:=HD3.out.le;omega) HD3.out.le.1 (by have:=HD3.out.le;have:=HCB.out;omega) W
  obtain ⟨A5,HA5⟩:∃A5,Hid (cutB A2 cc2 f=A5):=⟨_,hide rfl⟩
  obtain ⟨A6,HA6⟩:∃A6,Hid (cutB B cb f=A6):=⟨_,hide rfl⟩
  rw [HA5.out] at s5
  rw [HA6.out] at s6
  obtain ⟨d,HDD⟩:∃d,Hid (t - f=d):=⟨_,hide rfl⟩
  obtain ⟨k5,HK5⟩:∃k5,Hid (cc2 - f=k5):=⟨_,hide rfl⟩
  obtain ⟨k6,HK6⟩:∃k6,Hid (cb - f=k6):=⟨_,hide rfl⟩
  rw [HDD.out] at s5 s6
  rw [HK5.out] at s5
  rw [HK6.out] at s6
  have HRX:=hide (H3.out.ext_ (show Ext w3 ((w3.alloc (.cells #[.int .u8 0, .int .u64 0, .int .u64 0, .int .i64 0, .int .i64 0, .slice none 0 0, .slice none 0 0, .int .u64 0, .slice none 0 0, .bool false] 95)).drew) from (Ext.alloc _ _).trans (Ext.drew _)))
  have HRD:=hide (H3.out.ext_ (Ext.drew w3))
  have c6a:=HRX.out.blk.cell (i:=6) rfl
  have c8a:=HRX.out.blk.cell (i:=8) rfl
  have c6d:=HRD.out.blk.cell (i:=6) rfl
  have c8d:=HRD.out.blk.cell (i:=8) rfl
  have hbu:=fun (tx la:Int)=>builtV tx la (x:Int) (f:Int) A5 A6 d k5 d k6
  go_region
  obtain ⟨gR,HGR⟩:∃gR,Hid (w3.heap.size=gR):=⟨_,hide rfl⟩
  obtain ⟨w7,HW7⟩:∃w7,Hid ((w3.alloc (.cells #[.int .u8 2, .int .u64 (R.number:Int), .int .u64 (R.last:Int), .int .i64 (x:Int), .int .i64 (f:Int), .slice A5 d k5, .slice A6 d k6, .int .u64 0, .slice none 0 0, .bool false] 95)).drew=w7):=⟨_,hide rfl⟩
  have HX7:Hid (Ext w3 w7):=hide (by rw [← HW7.out];exact (Ext.alloc _ _).trans (Ext.drew _))
  have HRB:Hid (Rw w7 gR 95 [.int .u8 2, .int .u64 (R.number:Int), .int .u64 (R.last:Int), .int .i64 (x:Int), .int .i64 (f:Int), .slice A5 d k5, .slice A6 d k6, .int .u64 0, .slice none 0 0, .bool false]):=hide (by rw [← HW7.out,← HGR.out];exact (Rw.new w3 95 [.int .u8 2, .int .u64 (R.number:Int), .int .u64 (R.last:Int), .int .i64 (x:Int), .int .i64 (f:Int), .slice A5 d k5, .slice A6 d k6, .int .u64 0, .slice none 0 0, .bool false]).ext (Ext.drew _))
  rw [HGR.out,HW7.out]
  clear hbu c6 c8 c6a c8a c6d c8d s5 s6 HRX HRD
  have HDP:Hid (f + d=t∧0 < d∧f + d≤504∧f < cc2∧f < cb):=hide (by
   have h1:=HD3.out.le
   have h2:=HDD.out
   have h3:=HCC2.out
   have h4:=HCB.out
   omega)
  have HXW:Hid (Ext w2 w7):=hide (HX3.out.trans HX7.out)
  have HSF:Hid (∀W,Ext w7 W→Sfr Z s S.P w W):=hide (fun W hW=>HF2.out.trans (Sfr.ext (HXW.out.trans hW)) HL2.out)
  have HR5:Hid (∀W W',Ext w7 W→Sfr Z2 s S1.P W W'→Rd W' A5 ((f1.by_.drop f).take d)):=hide (fun W W' hW hf=>by
   have h1:Rd w2 A5 ((f1.by_.drop f).take d):=by rw [← HA5.out];exact rd_cut HR2.out HDP.out.2.2.2.1
   have hx:=HXW.out.trans hW
   have h2:∀a,A5=some a→a.block < w2.heap.size∧¬Z2.has S1.P a.block∧a.block≠s:=fun a ha=>by
    rw [← HA5.out] at ha
    obtain ⟨a',e1,e2⟩:=cut_block a ha
    have h3:=HA2.out a' e1
    have h4:=H.out.blk.lt
    rw [e2] at h3
    exact ⟨h3.2.1,h3.2.2,by omega⟩
   exact rd_keepB (rd_keepB h1 fun a ha=>Below.block hx a.block (h2 a ha).1) fun a ha=>hf.other a.block (Nat.lt_of_lt_of_le (h2 a ha).1 hx.size) (h2 a ha).2.1 (h2 a ha).2.2)
  have HR6:Hid (∀W W',Ext w7 W→Sfr Z2 s S1.P W W'→Rd W' A6 ((bb.drop f).take d)):=hide (fun W W' hW hf=>by
   rw [← HA6.out]
   exact rd_cut (HBK.out W' ((HSF.out W hW).trans hf (HL2.out.trans (Pk.Later.refl _ _ _) HF2.out.size))) HDP.out.2.2.2.2)
  have KU:=hide (fun W=>sundo_any (w:=W) 2 (R.number:Int) (R.last:Int) (x:Int) (f:Int) 0 A5 A6 none d k5 d k6 0 0 false 0)
  have HUF:=hide (HUF0.out f d HDP.out.2.2.1 HDP.out.2.1)
  obtain ⟨ul,HUL⟩:∃ul,Hid (2 + (undoB R x f ((f1.by_.drop f).take d)).length=ul):=⟨_,hide rfl⟩
  have KZ:Hid (∀W,Ext w7 W→Calls Tryz.prog 59 #[.agg #[.int .u8 3, .int .u64 (R.number:Int), .int .u64 0, .int .i64 (x:Int), .int .i64 (f:Int), .slice none 0 0, .slice A5 d k5, .int .u64 (R.last:Int), .slice none 0 0, .bool false]] W (fun e w' =>e= .returned (.int .i64 (ul:Int))∧Ext W w')):=hide (fun W hW=>by
   have k:=ssizeOf_any (w:=W) (.int .u8 3) (.int .u64 (R.number:Int)) (.int .u64 0) (.int .i64 (x:Int)) (.int .i64 (f:Int)) (.slice none 0 0) (.slice A5 d k5) (.int .u64 (R.last:Int)) (.slice none 0 0) (.bool false) (undoB R x f ((f1.by_.drop f).take d)) HUF.out.2 (fun W2 hW2=>by
    have hr:=HR5.out W2 W2 (hW.trans hW2) (Sfr.ext (Ext.refl _))
    have hlen:((f1.by_.drop f).take d).length=d:=by rw [List.length_take,List.length_drop];have:=HDP.out.2.2.1;have:=HL.out;omega
    have hx0:Ext w0 W2:=(H2.out.pool.log.ext.trans HXW.out).trans (hW.trans hW2)
    exact encode_yes 3 (R.number:Int) 0 (x:Int) (f:Int) (R.last:Int) none A5 none 0 0 d k5 0 0 false W2 [] ((f1.by_.drop f).take d) [] (HTT.out.ext hx0) (Rd.nil _ _) hr (fun hn=>absurd rfl hn) rfl hlen rfl (by decide) (by have:=HDP.out.2.2.1;omega) (by decide) (by have:=HDP.out.2.2.1;omega) (by have:=HDP.out.2.2.1;omega) (by omega) (by have:=HNUM.out;omega) (by decide) (by decide) (by omega) (by have:=HNUM.out;omega) (fun e he=>by cases he) HUF.out.1)
   rw [HUL.out] at k
   exact k)
  have KC9:Hid (∀W,Ext w7 W→Calls Tryz.prog 63 #[.pointer (some ⟨s,0,none⟩), .agg #[.int .u8 2, .int .u64 (R.number:Int), .int .u64 (R.last:Int), .int .i64 (x:Int), .int .i64 (f:Int), .slice A5 d k5, .slice A6 d k6, .int .u64 0, .slice none 0 0, .bool false], .int .i64 (ul:Int)] W (fun e w' =>(∃er Z4 S4 R4,e= .returned (.int .i64 er)∧StoAt w0 w' Z4 s S4 R4∧Sfr Z2 s S1.P W w')∧Q e w')):=hide (fun W hW=>by
   have k:=HCH.out f t d W Z2 A5 k5 A6 k6 HD3.out HDP.out.1 HDP.out.2.1 (H2.out.ext_ (HXW.out.trans hW)) (HSF.out W hW) (HL2.out.trans (Pk.Later.refl _ _ _) HF2.out.size) (fun W' hf=>⟨HR5.out W W' hW hf,HR6.out W W' hW hf⟩)
   rw [HUL.out] at k
   exact k)
  have HGN:Hid (gR < w7.heap.size∧¬Z2.has S1.P gR∧gR≠s):=hide ⟨HRB.out.lt,fun hh=>by
   have h1:=H3.out.pool.has_lt hh
   have:=HGR.out
   omega,fun e=>by
   have h1:=H3.out.blk.lt
   have:=HGR.out
   omega⟩
  obtain ⟨wd,HWD⟩:∃wd,Hid (w7.drew=wd):=⟨_,hide rfl⟩
  have HXD:Hid (Ext w7 wd):=hide (by rw [← HWD.out];exact Ext.drew _)
  have cS7:w7.cell? ⟨gR,0,none⟩=some (.int .u8 2)∧w7.cell? ⟨gR,1,none⟩=some (.int .u64 (R.number:Int))∧w7.cell? ⟨gR,2,none⟩=some (.int .u64 (R.last:Int))∧w7.cell? ⟨gR,3,none⟩=some (.int .i64 (x:Int))∧w7.cell? ⟨gR,4,none⟩=some (.int .i64 (f:Int))∧w7.cell? ⟨gR,5,none⟩=some (.slice A5 d k5)∧w7.cell? ⟨gR,6,none⟩=some (.slice A6 d k6)∧w7.cell? ⟨gR,7,none⟩=some (.int .u64 0)∧w7.cell? ⟨gR,8,none⟩=some (.slice none 0 0)∧w7.cell? ⟨gR,9,none⟩=some (.bool false):=⟨HRB.out.cell (i:=0) rfl,HRB.out.cell (i:=1) rfl,HRB.out.cell (i:=2) rfl,HRB.out.cell (i:=3) rfl,HRB.out.cell (i:=4) rfl,HRB.out.cell (i:=5) rfl,HRB.out.cell (i:=6) rfl,HRB.out.cell (i:=7) rfl,HRB.out.cell (i:=8) rfl,HRB.out.cell (i:=9) rfl⟩
  have cSD:wd.cell? ⟨gR,0,none⟩=some (.int .u8 2)∧wd.cell? ⟨gR,1,none⟩=some (.int .u64 (R.number:Int))∧wd.cell? ⟨gR,2,none⟩=some (.int .u64 (R.last:Int))∧wd.cell? ⟨gR,3,none⟩=some (.int .i64 (x:Int))∧wd.cell? ⟨gR,4,none⟩=some (.int .i64 (f:Int))∧wd.cell? ⟨gR,5,none⟩=some (.slice A5 d k5)∧wd.cell? ⟨gR,6,none⟩=some (.slice A6 d k6)∧wd.cell? ⟨gR,7,none⟩=some (.int .u64 0)∧wd.cell? ⟨gR,8,none⟩=some (.slice none 0 0)∧wd.cell? ⟨gR,9,none⟩=some (.bool false):=⟨(HRB.out.ext HXD.out).cell (i:=0) rfl,(HRB.out.ext HXD.out).cell (i:=1) rfl,(HRB.out.ext HXD.out).cell (i:=2) rfl,(HRB.out.ext HXD.out).cell (i:=3) rfl,(HRB.out.ext HXD.out).cell (i:=4) rfl,(HRB.out.ext HXD.out).cell (i:=5) rfl,(HRB.out.ext HXD.out).cell (i:=6) rfl,(HRB.out.ext HXD.out).cell (i:=7) rfl,(HRB.out.ext HXD.out).cell (i:=8) rfl,(HRB.out.ext HXD.out).cell (i:=9) rfl⟩
  have KUW:=hide (KU.out wd)
  go_upto_region 8 with fail
  go_region_held3 (fun w' =>w'.cell? ⟨gR,0,none⟩=some (.int .u8 2)∧w'.cell? ⟨gR,1,none⟩=some (.int .u64 (R.number:Int))∧w'.cell? ⟨gR,2,none⟩=some (.int .u64 (R.last:Int))∧w'.cell? ⟨gR,3,none⟩=some (.int .i64 (x:Int))∧w'.cell? ⟨gR,4,none⟩=some (.int .i64 (f:Int))∧w'.cell? ⟨gR,5,none⟩=some (.slice A5 d k5)∧w'.cell? ⟨gR,6,none⟩=some (.slice A6 d k6)∧w'.cell? ⟨gR,7,none⟩=some (.int .u64 0)∧w'.cell? ⟨gR,8,none⟩=some (.slice none 0 0)∧w'.cell? ⟨gR,9,none⟩=some (.bool false)) (first | exact cS7 | exact cSD | exact cS8 | exact cS9 | exact cS10) (first
   | (go_at_call 64;rw [HWD.out];(with_reducible refine KUW.out.mono ?_);rintro e8 w8 ⟨rfl,hx8⟩;have HX8:=hide (HXD.out.trans hx8);have HR8:=hide (HRB.out.ext HX8.out);have cS8:w8.cell? ⟨gR,0,none⟩=some (.int .u8 2)∧w8.cell? ⟨gR,1,none⟩=some (.int .u64 (R.number:Int))∧w8.cell? ⟨gR,2,none⟩=some (.int .u64 (R.last:Int))∧w8.cell? ⟨gR,3,none⟩=some (.int .i64 (x:Int))∧w8.cell? ⟨gR,4,none⟩=some (.int .i64 (f:Int))∧w8.cell? ⟨gR,5,none⟩=some (.slice A5 d k5)∧w8.cell? ⟨gR,6,none⟩=some (.slice A6 d k6)∧w8.cell? ⟨gR,7,none⟩=some (.int .u64 0)∧w8.cell? ⟨gR,8,none⟩=some (.slice none 0 0)∧w8.cell? ⟨gR,9,none⟩=some (.bool false):=⟨HR8.out.cell (i:=0) rfl,HR8.out.cell (i:=1) rfl,HR8.out.cell (i:=2) rfl,HR8.out.cell (i:=3) rfl,HR8.out.cell (i:=4) rfl,HR8.out.cell (i:=5) rfl,HR8.out.cell (i:=6) rfl,HR8.out.cell (i:=7) rfl,HR8.out.cell (i:=8) rfl,HR8.out.cell (i:=9) rfl⟩;have KZ8:=hide (KZ.out w8 HX8.out);clear hx8)
   | (go_at_call 59;(with_reducible refine KZ8.out.mono ?_);rintro e9 w9 ⟨rfl,hx9⟩;have HX9:=hide (HX8.out.trans hx9);have HR9:=hide (HRB.out.ext HX9.out);have cS9:w9.cell? ⟨gR,0,none⟩=some (.int .u8 2)∧w9.cell? ⟨gR,1,none⟩=some (.int .u64 (R.number:Int))∧w9.cell? ⟨gR,2,none⟩=some (.int .u64 (R.last:Int))∧w9.cell? ⟨gR,3,none⟩=some (.int .i64 (x:Int))∧w9.cell? ⟨gR,4,none⟩=some (.int .i64 (f:Int))∧w9.cell? ⟨gR,5,none⟩=some (.slice A5 d k5)∧w9.cell? ⟨gR,6,none⟩=some (.slice A6 d k6)∧w9.cell? ⟨gR,7,none⟩=some (.int .u64 0)∧w9.cell? ⟨gR,8,none⟩=some (.slice none 0 0)∧w9.cell? ⟨gR,9,none⟩=some (.bool false):=⟨HR9.out.cell (i:=0) rfl,HR9.out.cell (i:=1) rfl,HR9.out.cell (i:=2) rfl,HR9.out.cell (i:=3) rfl,HR9.out.cell (i:=4) rfl,HR9.out.cell (i:=5) rfl,HR9.out.cell (i:=6) rfl,HR9.out.cell (i:=7) rfl,HR9.out.cell (i:=8) rfl,HR9.out.cell (i:=9) rfl⟩;have KC10:=hide (KC9.out w9 HX9.out);clear hx9)
   | (go_at_call 63;(with_reducible refine KC10.out.mono ?_);rintro e10 w10 ⟨⟨er,Z4,S4,R4,rfl,h10,hf10⟩,hq10⟩;have HR10:Hid (Rw w10 gR 95 [.int .u8 2, .int .u64 (R.number:Int), .int .u64 (R.last:Int), .int .i64 (x:Int), .int .i64 (f:Int), .slice A5 d k5, .slice A6 d k6, .int .u64 0, .slice none 0 0, .bool false]):=hide ((hf10.other gR (Nat.lt_of_lt_of_le HGN.out.1 HX9.out.size) HGN.out.2.1 HGN.out.2.2).trans HR9.out);have HQ10:=hide hq10;have cS10:w10.cell? ⟨gR,0,none⟩=some (.int .u8 2)∧w10.cell? ⟨gR,1,none⟩=some (.int .u64 (R.number:Int))∧w10.cell? ⟨gR,2,none⟩=some (.int .u64 (R.last:Int))∧w10.cell? ⟨gR,3,none⟩=some (.int .i64 (x:Int))∧w10.cell? ⟨gR,4,none⟩=some (.int .i64 (f:Int))∧w10.cell? ⟨gR,5,none⟩=some (.slice A5 d k5)∧w10.cell? ⟨gR,6,none⟩=some (.slice A6 d k6)∧w10.cell? ⟨gR,7,none⟩=some (.int .u64 0)∧w10.cell? ⟨gR,8,none⟩=some (.slice none 0 0)∧w10.cell? ⟨gR,9,none⟩=some (.bool false):=⟨HR10.out.cell (i:=0) rfl,HR10.out.cell (i:=1) rfl,HR10.out.cell (i:=2) rfl,HR10.out.cell (i:=3) rfl,HR10.out.cell (i:=4) rfl,HR10.out.cell (i:=5) rfl,HR10.out.cell (i:=6) rfl,HR10.out.cell (i:=7) rfl,HR10.out.cell (i:=8) rfl,HR10.out.cell (i:=9) rfl⟩;clear h10 hf10 hq10))
  all_goals
   go_wp2_with fail
   show Q (.returned (.int .i64 er)) w10
   exact HQ10.out
end
section
variable {w0 w w':World} {Z Z':Pk} {s c:Nat} {S S1 S2:St} {R R' R2:Sr}
theorem seenR_0 (R:Sr):seenR R 0=R:=by unfold seenR;rw [if_neg (by decide)]
theorem ready_of_in (h:inTxE S.D R=0):readyE S.D R=0:=by
 unfold inTxE at h
 split at h
 ·exact absurd h (by decide)
 ·exact h
theorem sBegin_ok (h:StoAt w0 w Z s S R) (hr:readyE S.D R=0) (hop:R.op=false)
  (KB:∀W,StoAt w0 W Z s S R→Calls Tryz.prog 33 #[.pointer (some ⟨s,0,none⟩)] W (SoPost w0 W Z s S.P (.int .i64 0) S2 R2)):
  Calls Tryz.prog 10 #[.pointer (some ⟨s,0,none⟩)] w (SoPost w0 w Z s S.P (.tuple #[.int .u64 (R2.begun:Int), .int .i64 0]) S2 R2):=by
 have KR:=hide (sready_any h)
 rw [hr,seenR_0] at KR
 have HKB:=hide KB
 have HOP:=hide hop
 clear h hr hop KB
 go_enter Tryz.func10,Tryz.ntmps10
 go_wp2_with (first
  | (go_at_call 32;(with_reducible refine KR.out.mono ?_);rintro e2 w2 ⟨rfl,h2,hf2⟩;have H2:=hide h2;have HF2:=hide hf2;have KB2:=hide (HKB.out w2 h2);have c5:=h2.blk.cell (i:=5) rfl;rw [HOP.out] at c5;clear h2 hf2)
  | (go_at_call 33;(with_reducible refine KB2.out.mono ?_);rintro e3 w3 ⟨Z3,rfl,h3,hf3,hl3⟩;have H3:=hide h3;have HF3:=hide hf3;have HL3:=hide hl3;have c4:=h3.blk.cell (i:=4) rfl;clear h3 hf3 hl3 c5))
 go_ret2
 exact ⟨Z3,rfl,H3.out,HF2.out.trans HF3.out (Pk.Later.refl _ _ _),HL3.out.up HF2.out.size⟩
theorem sCommit_ok (h:StoAt w0 w Z s S R) (hr:inTxE S.D R=0)
  (KB:∀W,StoAt w0 W Z s S R→Calls Tryz.prog 38 #[.pointer (some ⟨s,0,none⟩)] W (SoPost w0 W Z s S.P (.int .i64 0) S2 R2)):
  Calls Tryz.prog 13 #[.pointer (some ⟨s,0,none⟩)] w (SoPost w0 w Z s S.P (.int .i64 0) S2 R2):=by
 have KR:=hide (sintxE_any h)
 rw [hr,ready_of_in hr,seenR_0] at KR
 have HKB:=hide KB
 have KS:=hide (fun W=>sseen_same (s:=s) 0 (by decide) W)
 clear h hr KB
 go_enter Tryz.func13,Tryz.ntmps13
 go_wp2_with (first
  | (go_at_call 36;(with_reducible refine KR.out.mono ?_);rintro e2 w2 ⟨rfl,h2,hf2⟩;have H2:=hide h2;have HF2:=hide hf2;have KB2:=hide (HKB.out w2 h2);clear h2 hf2)
  | (go_at_call 38;(with_reducible refine KB2.out.mono ?_);rintro e3 w3 ⟨Z3,rfl,h3,hf3,hl3⟩;have H3:=hide h3;have HF3:=hide hf3;have HL3:=hide hl3;clear h3 hf3 hl3)
  | (go_at_call 34;(with_reducible refine (KS.out w3).mono ?_);rintro e4 w4 ⟨rfl,hw4⟩;subst hw4))
 go_ret
 exact ⟨Z3,rfl,H3.out,HF2.out.trans HF3.out (Pk.Later.refl _ _ _),HL3.out.up HF2.out.size⟩
end
section
variable {n a c k:Nat}
def dkN (n k:Nat):Dk:=⟨zS n, [],k,0,false⟩
def nzP:Nat→Nat→List (Nat×List UInt8)
 | 0,_=> []
 | f + 1,i=>(i,zS5)::nzP f (i + 1)
theorem nzP_mem:∀f i x,x∈nzP f i→x.2=zS5
 | 0,_,_,h=>by cases h
 | f + 1,i,x,h=>by
  rcases List.mem_cons.1 h with rfl | h
  ·rfl
  ·exact nzP_mem f (i + 1) x h
theorem zS5_len:zS5.length=512:=List.length_replicate ..
theorem nzW_new:∀(f i:Nat) (pen:List (Nat×List UInt8)) (k:Nat),i + f≤n→nzW f i ⟨zS n,pen,k,0,false⟩=(0,⟨zS n,pen ++ nzP f i,k + f,0,false⟩)
 | 0,i,pen,k,_=>by show (0,_)=_;rw [show nzP 0 i= [] from rfl,List.append_nil];rfl
 | f + 1,i,pen,k,h=>by
  unfold nzW
  have hi:i < (zS n).length:=by rw [zS_len];omega
  rw [wE_still hi zS5_len,wD_still hi zS5_len,if_neg (by decide),nzW_new f (i + 1) _ _ (by omega)]
  show (0,_)=(0,(⟨zS n,pen ++ ((i,zS5)::nzP f (i + 1)),k + (f + 1),0,false⟩:Dk))
  rw [List.append_assoc,List.singleton_append,Nat.add_assoc,Nat.add_comm 1 f]
theorem durK_new (pen:List (Nat×List UInt8)) (hp:∀x∈pen,x.2=zS5):∀j,j≤pen.length→durK (fun _=>true) (zS n) pen j=zS n
 | 0,_=>durK_zero _ _ _
 | j + 1,hj=>by
  have hx:pen[j]? =some (pen[j]'hj):=List.getElem?_eq_getElem hj
  rw [durK_succ _ _ _ _ _ hx,if_pos rfl,durK_new pen hp j (by omega),hp _ (List.getElem_mem hj)]
  unfold zS zS5
  rw [List.set_replicate_self]
theorem nz_new (f i:Nat) (h:i + f≤n):nzE (dkN n k) i f=0∧nzD (dkN n k) i f=dkN n (k + f + 1):=by
 have e:nzW f i (dkN n k)=(0,⟨zS n,nzP f i,k + f,0,false⟩):=by
  have:=nzW_new (n:=n) f i [] k h
  rw [List.nil_append] at this
  exact this
 unfold nzE nzD
 have hne:¬((0,(⟨zS n,nzP f i,k + f,0,false⟩:Dk)):Int×Dk).1≠0:=fun h=>h rfl
 rw [e,if_neg hne,if_neg hne]
 refine ⟨sE_still, ?_⟩
 unfold sD
 rw [if_neg (by simp),if_neg (by simp)]
 show (⟨durK (fun _=>true) (zS n) (nzP f i) (nzP f i).length, [],k + f + 1,0,false⟩:Dk)=_
 rw [durK_new _ (nzP_mem f i) _ (Nat.le_refl _)]
 rfl
def dk1k (n a c k:Nat):Dk:=⟨(zS n).set a (b1S c), [],k,0,false⟩
def dk2k (n a c k:Nat):Dk:=⟨(((zS n).set a (b1S c)).set a (b2S c)).set (a + 2) bpS, [],k + 3,0,false⟩
theorem format_newK (h4:4≤c) (hf:a + 1 + c≤n):fmtE (dkN n k) (a:Int) (c:Int)=0∧fmtD (dkN n k) (a:Int) (c:Int)=dk1k n a c (k + 2):=by
 have e0:dkN n k=⟨zS n, [],k,0,false⟩:=rfl
 have hb:fmtB (dkN n k) (a:Int) c=b1S c:=by
  unfold fmtB fmtHd
  rw [e0,nx_zero hf c (Nat.le_refl _)]
  rfl
 have hl:(dkN n k).dur.length=n:=zS_len n
 have hz:a < (zS n).length:=by rw [zS_len];omega
 constructor
 ·unfold fmtE
  rw [hl,fits_yes h4 hf,Int.toNat_natCast,hb,e0,if_neg (by decide),if_neg (by simp),wE_still hz (b1S_len c),wD_still hz (b1S_len c),if_neg (by decide)]
  exact sE_still
 ·unfold fmtD
  rw [hl,fits_yes h4 hf,Int.toNat_natCast,hb,e0,if_neg (by decide),if_neg (by simp),wE_still hz (b1S_len c),wD_still hz (b1S_len c),if_neg (by decide)]
  exact sD_one
theorem head_newK (hc:c < 5000) (hf:a + 1 + c≤n):rhE (dk1k n a c k) (a:Int)=0∧rhH (dk1k n a c k) (a:Int)=⟨0,0,480,480,0,c⟩:=by
 have hlen:((zS n).set a (b1S c)).length=n:=by rw [List.length_set,zS_len]
 have hb:gB (dk1k n a c k) (a:Int)=b1S c:=by
  unfold dk1k
  rw [gB_still (by rw [hlen];omega),set_get _ _ _ _ (by rw [zS_len];omega)]
 have hE:rhE (dk1k n a c k) (a:Int)=0:=by
  unfold rhE
  have:gE (dk1k n a c k) (a:Int)=0:=gE_still (by rw [hlen];omega)
  rw [this,if_neg (by decide),hb]
  unfold b1S
  rw [unsE_seal (by simp [Hd.ns]) (by simp)]
  rfl
 refine ⟨hE, ?_⟩
 unfold rhH
 rw [hE,if_pos rfl,hb]
 unfold hdOf b1S
 have hns:(Hd.ns ⟨0,0,480,480,0,c⟩).length≤6:=by simp [Hd.ns]
 have ht:([]:List UInt8).length≤480:=by simp
 rw [numAt_seal hns ht 0 0 rfl (by omega) (.inl rfl),numAt_seal hns ht 1 0 rfl (by omega) (.inl rfl),numAt_seal hns ht 2 480 rfl (by omega) (.inl rfl),numAt_seal hns ht 3 480 rfl (by omega) (.inl rfl),numAt_seal hns ht 4 0 rfl (by omega) (.inl rfl),numAt_seal hns ht 5 (c:Int) rfl (by omega) (.inl rfl)]
 rfl
theorem open_newK (h4:4≤c) (hc:c < 5000) (hf:a + 1 + c≤n):opE (dk1k n a c k) (a:Int) (c:Int)=0∧opD (dk1k n a c k) (a:Int) (c:Int)=dk2k n a c k∧opL (dk1k n a c k) (a:Int)=lgN a c:=by
 obtain ⟨hE,hH⟩:=head_newK hc hf
 have hlen:(dk1k n a c k).dur.length=n:=by show ((zS n).set a (b1S c)).length=n;rw [List.length_set,zS_len]
 have h0:op0 (dk1k n a c k) (a:Int)=⟨a,⟨0,0,480,480,0,c⟩,0, [],0⟩:=by unfold op0;rw [hH,Int.toNat_natCast]
 have hmod:480 / 480 % c=1:=Nat.mod_eq_of_lt (by omega)
 have hth:ptThere (dk1k n a c k) ⟨a,⟨0,0,480,480,0,c⟩,0, [],0⟩ 480=false:=by
  unfold ptThere secOf
  rw [show a + 1 + 480 / 480 % c=a + 2 by rw [hmod]]
  unfold dk1k
  rw [pt_zero (by rw [List.length_set,zS_len];omega) (by rw [set_far _ _ _ _ _ (by omega),zS_get (by omega)])]
  rfl
 have hall:fnAll (dk1k n a c k) ⟨a,⟨0,0,480,480,0,c⟩,0, [],0⟩= []:=by
  unfold fnAll fnBase
  show thP _ _ (c + 1) (flo 480) _= []
  rw [show flo 480=480 from rfl,thP,hth,if_neg (by simp)]
 have hbase:fnBase ⟨a,⟨0,0,480,480,0,c⟩,0, [],0⟩=480:=by unfold fnBase;exact (by decide:flo 480=480)
 have hend:fnEnd (dk1k n a c k) ⟨a,⟨0,0,480,480,0,c⟩,0, [],0⟩=0:=by
  unfold fnEnd
  rw [hall,hbase]
  show runN [] 0 (480 - 480)=0
  rfl
 have hsure:fnSure (dk1k n a c k) ⟨a,⟨0,0,480,480,0,c⟩,0, [],0⟩=480:=by unfold fnSure;rw [hend,hbase]
 have htail:fnTail (dk1k n a c k) ⟨a,⟨0,0,480,480,0,c⟩,0, [],0⟩= []:=by unfold fnTail;rw [hall];simp
 have hoff:(dk1k n a c k).off=false:=rfl
 have hfe:fnE (dk1k n a c k) ⟨a,⟨0,0,480,480,0,c⟩,0, [],0⟩=0:=by
  unfold fnE
  rw [hall,hsure,hbase,hoff]
  simp
 have hfl:opF (dk1k n a c k) (a:Int)=⟨a,⟨0,0,480,480,0,c⟩,480, [],0⟩:=by
  unfold opF
  rw [h0]
  unfold fnL
  rw [hsure,htail]
 have hol:opL (dk1k n a c k) (a:Int)=lgN a c:=by unfold opL;rw [hfl];rfl
 have hbb:bgB ⟨a,⟨0,0,480,480,0,c⟩,480, [],0⟩=b2S c:=by
  show sealB 1 (Hd.ns ⟨(0 + 1) % 18446744073709551616,0,480,480,0,c⟩) []=sealB 1 (Hd.ns ⟨1,0,480,480,0,c⟩) []
  rw [show (0 + 1) % 18446744073709551616=1 from by decide]
 have hbp:bgP ⟨a,⟨0,0,480,480,0,c⟩,480, [],0⟩=bpS:=by
  show sealB 2 (ptNs (flo 480 / 480) ((0 + 1) % 18446744073709551616) 0) []=sealB 2 (ptNs 1 1 0) []
  rw [show flo 480 / 480=1 from by decide,show (0 + 1) % 18446744073709551616=1 from by decide]
 have hbs:bgS ⟨a,⟨0,0,480,480,0,c⟩,480, [],0⟩=((a + 2:Nat):Int):=by
  show ((a + 1 + flo 480 / 480 % c:Nat):Int)=_
  rw [show flo 480=480 from by decide,hmod]
 have hrm:roomOf (nextL ⟨a,⟨0,0,480,480,0,c⟩,480, [],0⟩) > 0:=by
  show (((480 / 480 + c) * 480:Nat):Int) - ((flo 480 + 0:Nat):Int) - ((0:Nat):Int) > 0
  rw [show flo 480=480 from by decide]
  omega
 have hl1:((zS n).set a (b1S c)).length=n:=hlen
 have hz1:a < ((zS n).set a (b1S c)).length:=by rw [hl1];omega
 have hz2:a + 2 < ((zS n).set a (b1S c)).length:=by rw [hl1];omega
 have w1:wE (dk1k n a c k) (a:Int) (b2S c)=0:=wE_still hz1 (b2S_len c)
 have w2:wD (dk1k n a c k) (a:Int) (b2S c)=⟨(zS n).set a (b1S c), [(a,b2S c)],k + 1,0,false⟩:=wD_still hz1 (b2S_len c)
 have w3:wE ⟨(zS n).set a (b1S c), [(a,b2S c)],k + 1,0,false⟩ ((a + 2:Nat):Int) bpS=0:=wE_still hz2 bpS_len
 have w4:wD ⟨(zS n).set a (b1S c), [(a,b2S c)],k + 1,0,false⟩ ((a + 2:Nat):Int) bpS=⟨(zS n).set a (b1S c), [(a,b2S c),(a + 2,bpS)],k + 2,0,false⟩:=wD_still hz2 bpS_len
 have hb:bgE (dk1k n a c k) ⟨a,⟨0,0,480,480,0,c⟩,480, [],0⟩=0∧bgD (dk1k n a c k) ⟨a,⟨0,0,480,480,0,c⟩,480, [],0⟩=dk2k n a c k:=by
  constructor
  ·unfold bgE
   rw [if_pos hrm,hbb,hbp,hbs]
   show (if wE (dk1k n a c k) (a:Int) (b2S c)≠0 then _ else if wE (wD (dk1k n a c k) (a:Int) (b2S c)) ((a + 2:Nat):Int) bpS≠0 then _ else sE (wD (wD (dk1k n a c k) (a:Int) (b2S c)) ((a + 2:Nat):Int) bpS))=_
   rw [w1,w2,w3,w4,if_neg (by decide),if_neg (by decide)]
   exact sE_still
  ·unfold bgD
   rw [if_pos hrm,hbb,hbp,hbs]
   show (if wE (dk1k n a c k) (a:Int) (b2S c)≠0 then _ else if wE (wD (dk1k n a c k) (a:Int) (b2S c)) ((a + 2:Nat):Int) bpS≠0 then _ else sD (wD (wD (dk1k n a c k) (a:Int) (b2S c)) ((a + 2:Nat):Int) bpS))=_
   rw [w1,w2,w3,w4,if_neg (by decide),if_neg (by decide)]
   exact sD_two
 refine ⟨?_, ?_,hol⟩
 ·unfold opE
  rw [hlen,fits_yes h4 hf,hE,hH,h0,hfe,hfl,hb.1]
  simp
 ·unfold opD
  rw [hlen,fits_yes h4 hf,hE,hH,h0,hfe,hfl,hb.2]
  simp
theorem sformat_new (h4:4≤c) (hf:1 + c < n):nzE (D0 n) 0 1=0∧nzE (nzD (D0 n) 0 1) (1 + c) (n - (1 + c))=0∧fmtE (fo1 (D0 n) c) 0 (c:Int)=0∧fmtD (fo1 (D0 n) c) 0 (c:Int)=dk1k n 0 c (2 + (n - (1 + c)) + 1 + 2):=by
 have e0:D0 n=dkN n 0:=rfl
 have hl:(D0 n).dur.length=n:=D0_len n
 obtain ⟨a1,a2⟩:=nz_new (n:=n) (k:=0) 1 0 (by omega)
 obtain ⟨b1,b2⟩:=nz_new (n:=n) (k:=0 + 1 + 1) (n - (1 + c)) (1 + c) (by omega)
 have e1:fo1 (D0 n) c=dkN n (2 + (n - (1 + c)) + 1):=by
  unfold fo1
  rw [hl,e0,a2,b2]
 obtain ⟨d1,d2⟩:=format_newK (n:=n) (a:=0) (c:=c) (k:=2 + (n - (1 + c)) + 1) h4 (by omega)
 rw [e1,e0]
 exact ⟨a1,by rw [a2];exact b1,d1,d2⟩
end
section
variable {n a c k:Nat}
theorem dk2k_len:(dk2k n a c k).dur.length=n:=by show ((((zS n).set a (b1S c)).set a (b2S c)).set (a + 2) bpS).length=n;rw [List.length_set,List.length_set,List.length_set,zS_len]
theorem dk1k_len:(dk1k n a c k).dur.length=n:=by show ((zS n).set a (b1S c)).length=n;rw [List.length_set,zS_len]
theorem lgN_okK (h4:4≤c) (h5:c≤4096) (hf:a + 1 + c≤n):(lgN a c).Ok (dk2k n a c k):=by
 have h:=lgN_ok (a:=a) (n:=n) h4 h5 hf
 exact ⟨h.hd,h.cn,by rw [dk2k_len];exact hf,h.sure,h.tail,h.held⟩
theorem dk1k_bd (h1:1≤n) (h2:n≤4096) (hk:k < 100000):Bd (dk1k n a c k):=still_bd (by show 1≤(dk1k n a c k).dur.length;rw [dk1k_len];exact h1) (by show (dk1k n a c k).dur.length≤_;rw [dk1k_len];exact h2) (set_lens (zS_lens n) a _ (b1S_len c)) (by omega)
theorem dk2k_bd (h1:1≤n) (h2:n≤4096) (hk:k < 100000):Bd (dk2k n a c k):=still_bd (by show 1≤(dk2k n a c k).dur.length;rw [dk2k_len];exact h1) (by show (dk2k n a c k).dur.length≤_;rw [dk2k_len];exact h2) (set_lens (set_lens (set_lens (zS_lens n) a _ (b1S_len c)) a _ (b2S_len c)) (a + 2) _ bpS_len) (by omega)
end
theorem rg_newK {n c k:Nat} (h4:4≤c) (h5:c≤4000) (hn:1 + c≤n) (hm:n≤4096) (hk:k < 100000):Rg (dk2k n 0 c k) (lgN 0 c) (List.replicate 480 0):=by
 have hl:(dk2k n 0 c k).dur.length=n:=dk2k_len
 have hat:∀s,(dk2k n 0 c k).at s=((((zS n).set 0 (b1S c)).set 0 (b2S c)).set 2 bpS).getD s []:=fun s=>rfl
 have hok:=lgN_okK (n:=n) (k:=k) h4 (by omega) hn
 refine ⟨⟨rfl,rfl⟩,rfl,dk2k_bd (by omega) (by omega) hk,hok.hd,hok.cn,hok.at_, ?_, ?_,⟨Nat.le_refl _,Nat.le_refl _,Nat.le_refl _⟩,rfl,Nat.zero_le _,rfl, ?_, ?_, ?_, ?_,fun _=>1, ?_⟩
 ·show ([]:List UInt8)=(List.replicate 480 0).drop (flo 480)
  rw [flo480]
  rfl
 ·rw [List.length_replicate]
  exact Nat.le_refl _
 ·rw [List.length_replicate]
  show 480≤(480 / 480 + c) * 480
  omega
 ·rw [List.length_replicate];decide
 ·show (1:Nat) < _
  decide
 ·show (dk2k n 0 c k).at 0=b2S c
  rw [hat,set_far _ _ _ _ _ (by decide),set_get _ _ _ _ (by rw [List.length_set,zS_len];omega)]
 ·have hS:(List.replicate 480 (0:UInt8)).take (lgN 0 c).sure=List.replicate 480 0:=List.take_of_length_le (by rw [List.length_replicate];exact Nat.le_refl _)
  rw [hS]
  have hby:∀j,480≤480 * j→ptThere (dk2k n 0 c k) (lgN 0 c) (480 * j)=true→480 * j=480∧(ptAt (dk2k n 0 c k) (secOf (lgN 0 c) (480 * j))).ep=(1:Int)∧(ptAt (dk2k n 0 c k) (secOf (lgN 0 c) (480 * j))).by_= []:=fun j k1 k2=>by
   have hcn:(lgN 0 c).hd.cn=c:=rfl
   have hsec:secOf (lgN 0 c) (480 * j)=1 + j % c:=by rw [sec_part];rfl
   have hlt:=Nat.mod_lt j (show 0 < c by omega)
   by_cases h3:1 + j % c=2
   ·have hb:(dk2k n 0 c k).at 2=sealB 2 (ptNs 1 1 ([]:List UInt8).length) []:=by
     rw [hat,set_get _ _ _ _ (by rw [List.length_set,List.length_set,zS_len];omega)]
     rfl
    obtain ⟨p1,p2⟩:=ptAt_seal (D:=dk2k n 0 c k) rfl (i:=2) (by rw [hl];omega) 1 1 [] hb (by decide) (by decide) (by decide)
    unfold ptThere at k2
    rw [hsec,h3] at k2 ⊢
    rw [p1,p2] at k2
    simp only [Bool.true_and,decide_eq_true_eq] at k2
    rw [p2]
    exact ⟨by omega,rfl,rfl⟩
   ·exfalso
    have hz:(dk2k n 0 c k).at (1 + j % c)=List.replicate 512 0:=by
     rw [hat,set_far _ _ _ _ _ (by omega),set_far _ _ _ _ _ (by omega),set_far _ _ _ _ _ (by omega),zS_get (by omega)]
    have hp:ptIs (dk2k n 0 c k) ((1 + j % c:Nat):Int)=false:=by
     unfold ptIs
     rw [gB_on rfl (by rw [hl];omega),hz]
     simp only [decide_eq_false_iff_not]
     intro h2
     exact unsE_zero 2 (by decide) h2.2
    unfold ptThere at k2
    rw [hsec,hp] at k2
    simp at k2
  refine ⟨fun j k1 k2=> ?_,fun _ _ _=>Nat.le_refl _,fun _=>⟨by show 0≤1;decide,Nat.le_refl _⟩,fun k=>absurd (by rw [List.length_replicate]) k,fun j k1 k2=> ?_,fun j k1 k2=> ?_⟩
  ·rw [List.length_replicate] at k2
   have k1:480 / 480≤j:=k1
   omega
  ·rw [List.length_replicate] at k1 ⊢
   obtain ⟨q1,q2,q3⟩:=hby j k1 k2
   exact .inr ⟨q2,q1,q3⟩
  ·rw [List.length_replicate] at k1
   exact .inl (hby j (by omega) k2).2.2
structure NewS (n c f:Nat) (S:St):Prop where
 rg:Rg S.D S.L (List.replicate 480 0)
 fit:S.Fit (n + 20)
 H:∀i,S.P.H i=none
 W:∀i,S.P.W i=none
 P:S.P.m=0∧S.P.n=0∧S.P.at_=1 + c∧S.P.pages=n - (1 + c)∧S.P.frames=f∧S.P.asked=0
 hd:S.L.hd.cn=c∧S.L.hd.st=480∧S.L.hd.fi=480∧S.L.hd.ck=0∧S.L.sure=480∧S.L.at_=0
 len:S.D.dur.length=n
 zer:∀j,1 + c≤j→j < n→S.D.at j=List.replicate 512 0
 ep:S.L.hd.ep < 1000
section
variable {n c f k:Nat} {S:St}
theorem NewS.tail (h:NewS n c f S):S.L.tail= []:=by
 have h1:=h.rg.tail
 rw [h.hd.2.2.2.2.1,show flo 480=480 from by decide] at h1
 rw [h1]
 exact List.drop_eq_nil_of_le (by rw [List.length_replicate];exact Nat.le_refl _)
theorem NewS.end_ (h:NewS n c f S):endOf S.L=480:=by rw [h.rg.end_,List.length_replicate]
theorem NewS.new (h4:4≤c) (h5:c≤4000) (hn:1 + c < n) (hm:n≤4096) (hk:k≤n + 6) (hf:1≤f∧f≤64):NewS n c f ⟨dk2k n 0 c k,lgN 0 c,P0 (1 + c) (n - (1 + c)) f⟩:=by
 refine ⟨rg_newK h4 h5 (by omega) hm (by omega),⟨dk2k_bd (by omega) hm (by omega),lgN_okK h4 (by omega) (by omega), ?_, ?_, ?_, ?_, ?_, ?_, ?_⟩,fun _=>rfl,fun _=>rfl,⟨rfl,rfl,rfl,rfl,rfl,rfl⟩,⟨rfl,rfl,rfl,rfl,rfl,rfl⟩,dk2k_len,fun j h1 h2=> ?_,by show (1:Nat) < 1000;decide⟩
 ·show (P0 (1 + c) (n - (1 + c)) f).Ok (dk2k n 0 c k).dur.length
  rw [dk2k_len]
  exact P0_ok (by omega) hm (by omega) hf
 ·exact Nat.zero_le _
 ·show k + 3≤n + 20;omega
 ·exact Nat.zero_le _
 ·show 480≤2000000 * (n + 20);omega
 ·exact Nat.zero_le _
 ·exact Nat.zero_le _
 ·show ((((zS n).set 0 (b1S c)).set 0 (b2S c)).set 2 bpS).getD j []=_
  rw [set_far _ _ _ _ _ (by omega),set_far _ _ _ _ _ (by omega),set_far _ _ _ _ _ (by omega),zS_get h2]
theorem flD_same {D:Dk} {L:Lg} (h:L.sure=endOf L):flD D L=D:=by
 unfold flD
 by_cases h0:D.off=true
 ·rw [if_pos h0]
 ·rw [if_neg h0,if_pos h]
theorem mk_far {D:Dk} {L:Lg} {H:List UInt8} (h:Rg D L H) (ho:D.ops < 400000) (ck st j:Nat) (hj:j < D.dur.length) (hne:j≠L.at_):(mkD D L ck st).at j=D.at j:=by
 have hlt:L.at_ < D.dur.length:=by have:=h.at_;omega
 obtain ⟨w1,-,-,-,-,-,-,w8⟩:=put_sync h.awk h.bd h.pen ho L.at_ (mkB L ck st (ffZ D L st).2) hlt (seal1_len _)
 unfold mkD
 split
 ·rfl
 ·split
  ·rfl
  ·rw [if_neg (fun e=>e w1),w8 j hj,if_neg hne]
theorem NewS.none (h:NewS n c f S) {L:Lg}:(∀zs,ChL S.P zs→zs= [])∧(∀zs,DiL (settleP L S.P) zs→zs= []):=by
 have e1:(settleP L S.P).H=S.P.H:=by unfold settleP;split <;> rfl
 have e2:∀i,(settleP L S.P).W i=Option.none:=fun i=>by
  unfold settleP
  split
  ·rfl
  ·exact h.W i
 constructor
 ·intro zs hz
  cases zs with
  | nil=>rfl
  | cons i zs=>
   obtain ⟨f,hf,-⟩:=(hz.mem i).1 (List.mem_cons_self ..)
   rw [h.H] at hf
   cases hf
 ·intro zs hz
  cases zs with
  | nil=>rfl
  | cons x zs=>
   rcases (hz.mem x.1 x.2).1 (List.mem_cons_self ..) with h1 | ⟨-,f,hf,-⟩
   ·rw [e2] at h1;cases h1
   ·rw [e1,h.H] at hf;cases hf
theorem NewS.settle (h:NewS n c f S):NewS n c f ⟨S.D,S.L,settleP S.L S.P⟩:=by
 have hP:=h.P
 have ft:=h.fit
 unfold settleP
 split
 ·refine ⟨h.rg,⟨ft.bd,ft.log, ?_,ft.pen,ft.ops,ft.tail,ft.sure,ft.asked,Nat.zero_le _⟩,h.H,fun _=>rfl,⟨rfl,hP.2⟩,h.hd,h.len,h.zer,h.ep⟩
  have h1:=ft.pool
  exact h1.like rfl rfl rfl rfl rfl rfl (fun i s hs=>by cases hs) (by show S.L.sure < _;rw [h.hd.2.2.2.2.1];decide)
 ·exact h
theorem NewS.flush (h:NewS n c f S) (ho:S.D.ops≤n + 12) (hm:n≤4096):flE S.D S.L=0∧NewS n c f ⟨flD S.D S.L,flL S.D S.L,S.P⟩∧(flD S.D S.L).ops≤S.D.ops + 1:=by
 obtain ⟨g1,g2,g3,g4,g5,g6,g7⟩:=h.rg.flush (by omega)
 have ft:=h.fit
 have htl:=h.tail
 rw [htl] at g6
 rw [List.length_replicate] at g3
 have g6:(flD S.D S.L).ops≤S.D.ops + 1:=g6
 refine ⟨g1,⟨g2,⟨g2.bd,g2.ok,by rw [g7];exact ft.pool,by rw [show (flD S.D S.L).pen= [] from g2.pen];exact Nat.zero_le _,by show (flD S.D S.L).ops≤_;omega, ?_, ?_,ft.asked,ft.wcnt⟩,h.H,h.W,h.P, ?_,by rw [g7];exact h.len,fun j h1 h2=>by
  show (flD S.D S.L).at j=_
  rw [flD_same (by rw [h.hd.2.2.2.2.1,h.end_])]
  exact h.zer j h1 h2,by show (flL S.D S.L).hd.ep < _;rw [g4];exact h.ep⟩,g6⟩
 ·have:=g2.tail_len
  show (flL S.D S.L).tail.length≤_
  have e:=g2.tail
  rw [show (flL S.D S.L).sure=480 from g3,show flo 480=480 from by decide,List.drop_eq_nil_of_le (by rw [List.length_replicate];exact Nat.le_refl _)] at e
  rw [e]
  exact Nat.zero_le _
 ·show (flL S.D S.L).sure≤_
  rw [g3];omega
 ·show (flL S.D S.L).hd.cn=c∧(flL S.D S.L).hd.st=480∧(flL S.D S.L).hd.fi=480∧(flL S.D S.L).hd.ck=0∧(flL S.D S.L).sure=480∧(flL S.D S.L).at_=0
  rw [g4,g5,g3]
  exact ⟨h.hd.1,h.hd.2.1,h.hd.2.2.1,h.hd.2.2.2.1,rfl,h.hd.2.2.2.2.2⟩
theorem NewS.mark (h:NewS n c f S) (ho:S.D.ops≤n + 14) (hm:n≤4096):mkE S.D S.L 0 480=0∧NewS n c f ⟨mkD S.D S.L 0 480,mkL S.D S.L 0 480,S.P⟩:=by
 obtain ⟨g1,g2,g3,g4,g5,g6,g7⟩:=h.rg.mark (by omega) [] [] 480 (fun p hp=>by cases hp) (by rw [h.hd.2.2.1,List.drop_eq_nil_of_le (by rw [List.length_replicate];exact Nat.le_refl _)];rfl) (by rw [h.hd.2.2.1];rfl) (by rw [h.hd.2.2.2.2.1];exact Nat.le_refl _)
 have ft:=h.fit
 refine ⟨g1,⟨g2,⟨g2.bd,g2.ok,by rw [g7];exact ft.pool,by rw [show (mkD S.D S.L 0 480).pen= [] from g2.pen];exact Nat.zero_le _,by show (mkD S.D S.L 0 480).ops≤_;omega, ?_, ?_,ft.asked,ft.wcnt⟩,h.H,h.W,h.P, ?_,by rw [g7];exact h.len,fun j h1 h2=>(mk_far h.rg (by omega) 0 480 j (by rw [h.len];exact h2) (by rw [h.hd.2.2.2.2.2];omega)).trans (h.zer j h1 h2),by show (mkL S.D S.L 0 480).hd.ep < _;rw [g3];exact h.ep⟩⟩
 ·have e:=g2.tail
  rw [show (mkL S.D S.L 0 480).sure=480 from by rw [g4];exact h.hd.2.2.2.2.1,show flo 480=480 from by decide,List.drop_eq_nil_of_le (by rw [List.length_replicate];exact Nat.le_refl _)] at e
  show (mkL S.D S.L 0 480).tail.length≤_
  rw [e]
  exact Nat.zero_le _
 ·show (mkL S.D S.L 0 480).sure≤_
  rw [g4,h.hd.2.2.2.2.1];omega
 ·show (mkL S.D S.L 0 480).hd.cn=c∧(mkL S.D S.L 0 480).hd.st=480∧(mkL S.D S.L 0 480).hd.fi=480∧(mkL S.D S.L 0 480).hd.ck=0∧(mkL S.D S.L 0 480).sure=480∧(mkL S.D S.L 0 480).at_=0
  rw [g3,g5,g4]
  exact ⟨h.hd.1,rfl,rfl,rfl,h.hd.2.2.2.2.1,h.hd.2.2.2.2.2⟩
theorem NewS.good (h:NewS n c f S) (hn:1 + c < n):Good S:=by
 obtain ⟨p1,p2,p3,p4,p5,p6⟩:=h.P
 refine ⟨h.rg.awk, ?_,fun i g hg=> ?_,fun i g hg=> ?_,fun i hi=> .inr ?_, ?_, ?_⟩
 ·rw [h.hd.1,h.hd.2.2.2.2.2,p3]
  omega
 ·rw [h.H] at hg;cases hg
 ·rw [h.H] at hg;cases hg
 ·rw [p4] at hi
  rw [p3,h.zer _ (by omega) (by omega)]
  decide
 ·rw [h.hd.2.2.2.2.1,h.end_];exact Nat.le_refl _
 ·rw [h.hd.2.2.2.2.1];decide
end
section
variable {w0 w w':World} {Z:Pk} {s n c f k:Nat} {S:St} {R:Sr}
theorem slost_new (h:StoAt w0 w Z s S R) (nw:NewS n c f S):Calls Tryz.prog 54 #[.pointer (some ⟨s,0,none⟩)] w (LostP w0 Z s S 0 (fun R' m=>R' =R∧m=fun _=>none)):=by
 refine slost_any h 0 _ fun W bv bm mb hlo hv hm=> ?_
 rw [show max S.L.hd.st S.L.hd.ck=480 from by rw [nw.hd.2.1,nw.hd.2.2.2.1];rfl]
 have k:=seach_lost (w0:=w0) (w:=W) (s:=s) (q:=Z.X.q) (.pointer (some ⟨bv,0,none⟩)) (.pointer (some ⟨bm,0,none⟩)) 0 (fun _=>480) (fun _=>⟨0,0,0,0,0, [], [],0, [],false⟩) (fun _ W=>LoSt w0 W Z s S R bv bm mb (fun _=>none) 0) (fun _ _ _ _ _ _ _ _ _ _ _=>False)
  (fun _ W hW=>⟨Z,S,R,hW.sto,nw.rg.ok,nw.end_,rfl⟩) (fun _ W W' hW hx=>hW.ext_ hx) (fun _ _ _ _ _ _ _ _ _ _ _ _ h _=>h.elim) (fun j hj=>absurd hj (Nat.not_lt_zero _)) (by decide) (fun _ _=>Nat.le_refl _) (fun j W hj=>absurd hj (Nat.not_lt_zero _)) (fun j _ _ _ _ _ _ _ _ _ W hj=>absurd hj (Nat.not_lt_zero _)) hlo
 exact k.mono fun e w' hh=>⟨hh.1,R,_,0,hh.2,rfl,rfl⟩
theorem sredo_new (h:StoAt w0 w Z s S R) (nw:NewS n c f S) (mb k:Nat) (hmap:MapI w u64R mb (sinM fun _=>none) k) (hout:¬Z.has S.P mb∧mb≠s∧w0.heap.size≤mb):Calls Tryz.prog 55 #[.pointer (some ⟨s,0,none⟩), .map (some mb)] w (fun e w' =>e= .returned (.int .i64 0)∧StoAt w0 w' Z s S R):=by
 refine sredo_any h nw.rg.ok hmap hout 480 ⟨by rw [nw.end_];exact Nat.le_refl _,(fun i t hi=>by cases hi), .inl nw.end_.symm⟩ (by rw [nw.end_];decide) 0 (fun W=>StoAt w0 W Z s S R) fun W bv bm hre=> ?_
 have k:=seach_redo (w0:=w0) (w:=W) (s:=s) (q:=Z.X.q) (.pointer (some ⟨bm,0,none⟩)) (.pointer (some ⟨bv,0,none⟩)) 0 (fun _=>480) (fun _=>⟨0,0,0,0,0, [], [],0, [],false⟩) (fun _ W=>ReSt w0 W Z s S R bv bm mb (fun _=>none) k) (fun _ _ _ _ _ _ _ _ _ _ _=>False)
  (fun _ W hW=>⟨Z,S,R,hW.lo.sto,nw.rg.ok,nw.end_,rfl⟩) (fun _ W W' hW hx=>hW.ext_ hx) (fun _ _ _ _ _ _ _ _ _ _ _ _ h _=>h.elim) (fun j hj=>absurd hj (Nat.not_lt_zero _)) (by decide) (fun _ _=>Nat.le_refl _) (fun j W hj=>absurd hj (Nat.not_lt_zero _)) (fun j _ _ _ _ _ _ _ _ _ W hj=>absurd hj (Nat.not_lt_zero _)) hre
 exact k.mono fun e w' hh=>⟨hh.1,hh.2.lo.sto⟩
theorem ssettle_new (h:StoAt w0 w Z s S R) (nw:NewS n c f S) (hop:R.op=false) (hT:Tab w0) (hsort:SortC) (ho:S.D.ops≤n + 10) (hm:n≤4096):Calls Tryz.prog 56 #[.pointer (some ⟨s,0,none⟩)] w (fun e w' =>e= .returned (.int .i64 0)∧∃Z' S',Z'.X.g=Z.X.g∧StoAt w0 w' Z' s S' R∧NewS n c f S'):=by
 have nw1:=nw.settle
 obtain ⟨g1,nw2,g3⟩:=nw1.flush (by show S.D.ops≤_;omega) hm
 obtain ⟨m1,nw3⟩:=NewS.mark (S:=⟨flD S.D S.L,flL S.D S.L,settleP S.L (settleP S.L S.P)⟩) (by
  have:=nw2
  have e:settleP S.L (settleP S.L S.P)=settleP S.L S.P:=by
   unfold settleP
   by_cases h0:S.P.sure < S.L.sure
   ·rw [if_pos h0,if_neg (Nat.lt_irrefl _)]
   ·rw [if_neg h0,if_neg h0]
  rw [e]
  exact nw2) (by show (flD S.D S.L).ops≤_;have:(flD S.D S.L).ops≤S.D.ops + 1:=g3;omega) hm
 have nw4:NewS n c f ⟨flD S.D S.L,flL S.D S.L,settleP S.L (settleP S.L S.P)⟩:=by
  have e:settleP S.L (settleP S.L S.P)=settleP S.L S.P:=by
   unfold settleP
   by_cases h0:S.P.sure < S.L.sure
   ·rw [if_pos h0,if_neg (Nat.lt_irrefl _)]
   ·rw [if_neg h0,if_neg h0]
  rw [e]
  exact nw2
 have k:=ssettle_ok (S1:=⟨S.D,S.L,settleP S.L S.P⟩) (r:= .int .i64 0) h nw.fit (by rw [nw.P.2.1];omega) hT nw.rg.on (fun zs hz=>by
  have e:=nw.none (L:=S.L).1 zs hz
  subst e
  unfold pflR
  have e2:stAll [] S=(0,S):=rfl
  rw [e2,if_neg (fun e=>e rfl),if_pos nw1.P.1]) (fun W Z2 hW=>by
  have k:=scheck_none (c:=n + 20) hW nw1.fit (by omega) (by show (settleP S.L S.P).m < _;rw [nw1.P.1];decide) hT hop hsort nw1.none.2 g1 nw4.fit (by show (flL S.D S.L).hd.fi < _;rw [nw2.hd.2.2.1];decide) (by show (flL S.D S.L).sure≤endOf (flL S.D S.L);rw [show endOf (flL S.D S.L)=480 from nw2.end_,nw2.hd.2.2.2.2.1];exact Nat.le_refl _)
  rw [show endOf (flL (⟨S.D,S.L,settleP S.L S.P⟩:St).D (⟨S.D,S.L,settleP S.L S.P⟩:St).L)=480 from nw2.end_,show mkE (flD (⟨S.D,S.L,settleP S.L S.P⟩:St).D (⟨S.D,S.L,settleP S.L S.P⟩:St).L) (flL (⟨S.D,S.L,settleP S.L S.P⟩:St).D (⟨S.D,S.L,settleP S.L S.P⟩:St).L) 0 480=0 from m1] at k
  exact k)
 exact k.mono fun e w' hh=>by
  obtain ⟨Z',he,h1,-,h4⟩:=hh
  exact ⟨he,Z',_,h4.X.g,h1,nw3⟩
theorem srestore_new (h:StoAt w0 w Z s S R) (nw:NewS n c f S) (hop:R.op=false) (hT:Tab w0) (hsort:SortC) (ho:S.D.ops≤n + 10) (hm:n≤4096):Calls Tryz.prog 31 #[.pointer (some ⟨s,0,none⟩)] w (fun e w' =>e= .returned (.int .i64 0)∧∃Z' S',Z'.X.g=Z.X.g∧StoAt w0 w' Z' s S' R∧NewS n c f S'):=by
 refine srestore_ok (w0:=w0) (Pm:=fun mb W=>StoAt w0 W Z s S R∧(∃k,MapI W u64R mb (sinM fun _=>none) k)∧¬Z.has S.P mb∧mb≠s∧w0.heap.size≤mb) (Pr:=fun W=>StoAt w0 W Z s S R) ((slost_new h nw).mono fun e w' hh=> ?_) (fun mb W hW=> ?_) (fun W hW=>⟨Z,S,R,hW,hop⟩) (fun W hW=>ssettle_new hW nw hop hT hsort ho hm)
 ·obtain ⟨bv,bm,mb,m,k,R',he,hlo,-,-,rfl,rfl⟩:=hh
  exact ⟨mb,he,hlo.sto,⟨k,hlo.map⟩,hlo.out⟩
 ·obtain ⟨h1,⟨k,h2⟩,h3⟩:=hW
  exact sredo_new h1 nw mb k h2 h3
theorem srestore_newZ {g:Nat} (h:StoAt w0 w Z s S R) (hg:Z.X.g=g) (nw:NewS n c f S) (hop:R.op=false) (hT:Tab w0) (hsort:SortC) (ho:S.D.ops≤n + 10) (hm:n≤4096):Calls Tryz.prog 31 #[.pointer (some ⟨s,0,none⟩)] w (fun e w' =>e= .returned (.int .i64 0)∧∃Z' S',Z'.X.g=g∧StoAt w0 w' Z' s S' R∧NewS n c f S'):=by
 subst hg
 exact srestore_new h nw hop hT hsort ho hm
end
end Go.Proofs.YthmdmgnhfhpcaaaGreatDoor

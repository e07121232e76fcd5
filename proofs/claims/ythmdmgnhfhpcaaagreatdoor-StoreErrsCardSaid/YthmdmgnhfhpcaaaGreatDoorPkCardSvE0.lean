/-
  What the card wants, part 0: Grow, Byt, Own, Law, OctP, CrcP, OctS, Laid, LgP, OctN, LgS, GrowL, Chn, Blk, Give, Wds, DskM, DskA, DskR.
-/
import Derived.Test.YthmdmgnhfhpcaaaGreatDoorProg
import Derived.WalkKit
import Derived.WalkSpells
import Derived.Handy
import Derived.Laws.IdiomStrings
import Derived.ProofKit
import Derived.OpenShut
import Derived.Test.YthmdmgnhfhpcaaaGreatDoorCards
import Derived.Test.YthmdmgnhfhpcaaaGreatDoorTie
import Derived.Deep.DeepHandedRow
import Derived.Lib.LaidTab
import Derived.SizedLaws
import Derived.Laws.CopyOwn
import Derived.Deep.Cut
import Derived.Deep.CutRange
import Derived.WalkLawsBesides
import Derived.Deep.WholeRow
set_option linter.unusedVariables false
set_option linter.unusedSimpArgs false
set_option maxRecDepth 20000
set_option maxHeartbeats 12800000
namespace Go.Proofs.YthmdmgnhfhpcaaaGreatDoor
open Go.RowKit
def Ext (w w':World):Prop:=Below w.heap.size w w'
theorem Ext.refl (w:World):Ext w w:=Below.refl _ _
theorem Ext.trans {a b c:World} (h:Ext a b) (k:Ext b c):Ext a c:=Below.trans h (Below.mono k h.size)
theorem Ext.drewn (w:World) (n:Nat):Ext w { w with drawn:=n }:=⟨rfl,rfl,rfl,Nat.le_refl _,fun _ _=>rfl⟩
theorem Ext.size {w w':World} (h:Ext w w'):w.heap.size≤w'.heap.size:=Below.size h
theorem Ext.alloc (w:World) (o:Obj):Ext w (w.alloc o):=(Below.refl _ _).alloc (Nat.le_refl _) _
theorem Ext.drew (w:World):Ext w w.drew:=(Below.refl _ _).drew
def Keeps (w w':World):Prop:=∀(k:Nat) (o:Obj),w.heap[k]? =some o→w'.heap[k]? =some o∨∃c e fr fr',o=Obj.cells c e fr∧w'.heap[k]? =some (Obj.cells c e fr')
theorem Keeps.cells {w w':World} (h:Keeps w w') {k:Nat} {c:Array Value} {e:TypeId} {fr:Nat×Nat} (hk:w.heap[k]? =some (.cells c e fr)):∃fr',w'.heap[k]? =some (.cells c e fr'):=by
 rcases h k _ hk with h1 | ⟨cs,e',f1,f2,h3,h2⟩
 ·exact ⟨fr,h1⟩
 ·injection h3 with h4 h5 h6
  subst h4 h5
  exact ⟨f2,h2⟩
theorem Keeps.cell {w w':World} (h:Keeps w w') {p:Addr} {v:Value} (hc:w.cell? p=some v):w'.cell? p=some v:=by
 unfold World.cell? at hc ⊢
 cases hb:w.heap[p.block]? with
 | none=>rw [hb] at hc;cases hc
 | some o=>
  rw [hb] at hc
  cases o <;> simp only [] at hc
  case cells c e fr=>
   obtain ⟨fr',h'⟩:=h.cells hb
   rw [h']
   exact hc
  all_goals cases hc
theorem Ext.keeps {w w':World} (h:Ext w w'):Keeps w w':=fun k o ho=> .inl (by
 have hlt:k < w.heap.size:=by
  rcases Nat.lt_or_ge k w.heap.size with h1 | h1
  ·exact h1
  ·rw [Array.getElem?_eq_none h1] at ho;cases ho
 rw [Below.block h k hlt];exact ho)
def gives (P:Program) (o:Oper) (a:Act) (w:World) (R:Value→World→Prop):Prop:=
 match (execOp a.eval o).run P w with
 | .ok (.value v) w' =>R v w'
 | .ok .skip w' =>R undef w'
 | .ok (.enter f args) w' =>Calls P f args w' fun e w'' =>∃v,e= .returned v∧R v w''
 | _=>False
theorem gives_mono {P:Program} {o:Oper} {a:Act} {w:World} {R R':Value→World→Prop} (h:gives P o a w R) (hr:∀v w',R v w'→R' v w'):gives P o a w R':=by
 unfold gives at *
 generalize (execOp a.eval o).run P w=r at *
 cases r with
 | ok n w' =>
  cases n <;> simp only [] at h ⊢
  case value v=>exact hr _ _ h
  case skip=>exact hr _ _ h
  case enter f args=>exact h.mono fun e w'' ⟨v,he,hv⟩=>⟨v,he,hr _ _ hv⟩
 | halt x w' =>exact h
theorem wp_of_gives {P:Program} {o:Oper} {a:Act} {w:World} {R:Value→World→Prop} {K:Act→World→Prop} {Q:Exit→Act→World→Prop}
  (h:gives P o a w R) (hK:∀v w',R v w'→K (a.put o.dst v) w'):o.wp P a w K Q:=by
 unfold gives at h
 unfold Oper.wp
 generalize (execOp a.eval o).run P w=r at *
 cases r with
 | ok n w' =>
  cases n <;> simp only [] at h <;> simp only [Oper.upon]
  case value v=>exact hK _ _ h
  case skip=>exact hK _ _ h
  case enter f args=>exact h.mono fun e w'' ⟨v,he,hv⟩=>by subst he;exact hK _ _ hv
 | halt x w' =>exact h.elim
def keepsB (ops:Array Oper) (i t:Nat):Bool:=
 ops.toList.all fun o=>o.dst !=some t || o.after.toList.any fun e=>e.on==i && Region.binds .any e
def regOk (ops:Array Oper) (n:Nat):Bool:=
 (ops.toList.zipIdx.all fun (o,i)=>o.after.all fun e=> !Region.binds .any e || decide (e.on < i)) &&
 (ops.toList.all fun o=>match o.dst with | some d=>decide (d < n) | none=>true) &&
 ((ops.toList.filterMap (·.dst)).Nodup:Bool)
theorem regOk_back {ops:Array Oper} {n:Nat} (h:regOk ops n=true) {i:Nat} {o:Oper} (ho:ops[i]? =some o) {e:Edge} (he:e∈o.after) (hb:Region.binds .any e=true):e.on < i:=by
 simp only [regOk,Bool.and_eq_true,List.all_eq_true] at h
 have hm:(o,i)∈ops.toList.zipIdx:=by
  rw [List.mem_zipIdx_iff_getElem?]
  simpa using ho
 have:=h.1.1 (o,i) hm
 simp only [Array.all_eq_true'] at this
 have h2:=this e he
 simpa [hb] using h2
theorem regOk_lt {ops:Array Oper} {n:Nat} (h:regOk ops n=true) {i:Nat} {o:Oper} (ho:ops[i]? =some o) {d:Nat} (hd:o.dst=some d):d < n:=by
 simp only [regOk,Bool.and_eq_true,List.all_eq_true] at h
 have hm:o∈ops.toList:=by
  have:=Array.mem_of_getElem? ho
  simpa using this
 have:=h.1.2 o hm
 simpa [hd] using this
theorem nodup_filterMap {ops:List Oper} (h:(ops.filterMap (·.dst)).Nodup):∀ {i j:Nat} {oi oj:Oper} {d:Nat},ops[i]? =some oi→ops[j]? =some oj→oi.dst=some d→oj.dst=some d→i=j:=by
 induction ops with
 | nil=>intro i j oi oj d hi;simp at hi
 | cons o ops ih=>
  intro i j oi oj d hi hj hdi hdj
  have hmem:∀ {k:Nat} {x:Oper},ops[k]? =some x→x.dst=some d→d∈ops.filterMap (·.dst):=fun {k x} hk hx=>
   List.mem_filterMap.2 ⟨x,List.mem_of_getElem? hk,hx⟩
  have ht:(ops.filterMap (·.dst)).Nodup:=by
   cases hod:o.dst with
   | none=>simpa [List.filterMap_cons,hod] using h
   | some x=>rw [List.filterMap_cons,hod] at h;exact (List.nodup_cons.1 h).2
  have hh:o.dst=some d→d∉ops.filterMap (·.dst):=fun hod=>by
   rw [List.filterMap_cons,hod] at h;exact (List.nodup_cons.1 h).1
  cases i with
  | zero=>
   cases j with
   | zero=>rfl
   | succ j=>
    simp at hi hj;subst hi
    exact absurd (hmem hj hdj) (hh hdi)
  | succ i=>
   cases j with
   | zero=>
    simp at hi hj;subst hj
    exact absurd (hmem hi hdi) (hh hdj)
   | succ j=>
    simp at hi hj
    rw [ih ht hi hj hdi hdj]
theorem regOk_one {ops:Array Oper} {n:Nat} (h:regOk ops n=true) {i j:Nat} {oi oj:Oper} {d:Nat} (hi:ops[i]? =some oi) (hj:ops[j]? =some oj) (hdi:oi.dst=some d) (hdj:oj.dst=some d):i=j:=by
 simp only [regOk,Bool.and_eq_true,decide_eq_true_eq] at h
 exact nodup_filterMap h.2 (by simpa using hi) (by simpa using hj) hdi hdj
section
variable {P:Program} {ops:Array Oper} {Q:Exit→Act→World→Prop} {S:Nat→World→Value→Prop} {a0:Act} {w0:World} {B:Nat}
theorem count_set {l:Array Bool} {i:Nat} (h:l[i]? =some false):(l.setIfInBounds i true).toList.count true=l.toList.count true + 1:=by
 have hi:i < l.size:=by
  rcases Nat.lt_or_ge i l.size with hlt | hge
  ·exact hlt
  ·rw [Array.getElem?_eq_none hge] at h;cases h
 have hv:l[i]=false:=by simpa [Array.getElem?_eq_getElem hi] using h
 rw [Array.toList_setIfInBounds,List.count_set (by simpa using hi)]
 simp [hv]
end
def PaysFrom (T:Nat→Oper→Prop):Nat→List Oper→Prop
 | _, []=>True
 | k,o::r=>T k o∧PaysFrom T (k + 1) r
theorem paysFrom_all {T:Nat→Oper→Prop}:∀(l:List Oper) (k:Nat),PaysFrom T k l→∀(i:Nat) (o:Oper),l[i]? =some o→T (k + i) o
 | [],_,_,i,o,h=>by simp at h
 | x::r,k,⟨h0,hr⟩,i,o,h=>by
  cases i with
  | zero=>simp at h;subst h;exact h0
  | succ i=>
   have:=paysFrom_all r (k + 1) hr i o (by simpa using h)
   rwa [Nat.add_assoc,Nat.add_comm 1] at this
def b8 (n:Int):UInt8:=UInt8.ofNat n.toNat
theorem b8_toNat {n:Int} (h0:0≤n) (h1:n < 256):((b8 n).toNat:Int)=n:=by
 unfold b8
 rw [UInt8.toNat_ofNat']
 have:n.toNat % 2 ^ 8=n.toNat:=Nat.mod_eq_of_lt (by omega)
 rw [this];omega
def bs (l:List UInt8):List Value:=l.map fun b=> .int .u8 (b.toNat:Int)
theorem bs_length (l:List UInt8):(bs l).length=l.length:=by simp [bs]
theorem bs_append (l m:List UInt8):bs (l ++ m)=bs l ++ bs m:=by simp [bs]
theorem bs_get (l:List UInt8) (j:Nat):(bs l)[j]? =(l[j]?).map fun b=>Value.int .u8 (b.toNat:Int):=by simp [bs]
theorem bs_one (l:List UInt8):∀u∈bs l,u.oneCell' =true:=by
 intro u hu
 obtain ⟨b,_,rfl⟩:=List.mem_map.1 hu
 rfl
def Rd (w:World) (A:Option Addr) (l:List UInt8):Prop:=
 l≠ []→∃b off,A=some ⟨b,off,none⟩∧∀j u,l[j]? =some u→w.cell? ⟨b,off + j,none⟩=some (.int .u8 (u.toNat:Int))
theorem add_flat (b off j:Nat):(⟨b,off,none⟩:Addr).add j=⟨b,off + j,none⟩:=by unfold Addr.add;split <;> simp_all
section
variable {w w':World} {A:Option Addr} {l:List UInt8}
theorem Rd.nil (w:World) (A:Option Addr):Rd w A []:=fun h=>absurd rfl h
theorem Rd.ext (h:Rd w A l) (hx:Ext w w'):Rd w' A l:=fun hn=>by
 obtain ⟨b,off,hA,hc⟩:=h hn
 refine ⟨b,off,hA,fun j u hu=> ?_⟩
 have:=hc j u hu
 rw [Below.cell hx (World.block_lt_of_cell? w _ this)]
 exact this
theorem Rd.at (h:Rd w A l) {k:Nat} (hk:k < l.length):∃b off u,A=some ⟨b,off,none⟩∧l[k]? =some u∧w.cell? ⟨b,off + k,none⟩=some (.int .u8 (u.toNat:Int)):=by
 obtain ⟨b,off,hA,hc⟩:=h (by intro e;subst e;simp at hk)
 exact ⟨b,off,l[k],hA,List.getElem?_eq_getElem hk,hc k _ (List.getElem?_eq_getElem hk)⟩
theorem Rd.of_own {base e:Nat} {c:Nat} (h:w.ownsRow base e 1 (.slice A l.length c) l.length (bs l)):Rd w A l:=fun hn=>by
 have hp:0 < l.length:=List.length_pos_iff.2 hn
 rcases h.2 with ⟨_,h0⟩ | ⟨g,cap,cur,hv,_⟩
 ·omega
 ·injection hv with hA
  subst hA
  refine ⟨g,0,rfl,fun j u hu=> ?_⟩
  have:=h.cells (g:=g) rfl j (.int .u8 (u.toNat:Int)) (by rw [bs_get,hu];rfl)
  rw [add_flat] at this
  exact this
theorem Rd.drop {a:Addr} (h:Rd w (some a) l) (k:Nat):Rd w (some (a.add k)) (l.drop k):=fun hn=>by
 obtain ⟨b,off,hA,hc⟩:=h (by intro e;subst e;simp at hn)
 injection hA with hA
 subst hA
 refine ⟨b,off + k,by rw [add_flat],fun j u hu=> ?_⟩
 rw [Nat.add_assoc]
 exact hc _ u (by rw [← hu,List.getElem?_drop])
theorem Rd.take (h:Rd w A l) (k:Nat):Rd w A (l.take k):=fun hn=>by
 obtain ⟨b,off,hA,hc⟩:=h (by intro e;subst e;simp at hn)
 refine ⟨b,off,hA,fun j u hu=>hc j u ?_⟩
 rw [List.getElem?_take] at hu
 split at hu
 ·exact hu
 ·cases hu
theorem Rd.cells (h:Rd w A l) {a:Addr} (hA:A=some a) (hn:l≠ []):∀j u,(bs l)[j]? =some u→w.cell? (a.add j)=some u:=by
 intro j u hu
 obtain ⟨b,off,hA',hc⟩:=h hn
 rw [hA] at hA'
 injection hA' with hA'
 subst hA'
 rw [bs_get] at hu
 cases hl:l[j]? with
 | none=>rw [hl] at hu;cases hu
 | some x=>
  rw [hl] at hu
  injection hu with hu
  subst hu
  rw [add_flat]
  exact hc j x hl
theorem Rd.str {P:Program} (h:Rd w A l) (src dst e c:Nat) (hs:P.underlying src=some (.slice e)) (he:P.underlying e=some (.int .u8)) (hd:P.underlying dst=some .string):
  (convert src dst (.slice A l.length c)).run P w= .ok (.string ⟨l.toArray⟩) w:=by
 rcases A with _ | a
 ·have hl:l= []:=by
   cases l with
   | nil=>rfl
   | cons x xs=>obtain ⟨_,_,hA,_⟩:=h (by simp);cases hA
  subst hl
  rw [run_convert_bytes_string w src dst e none _ c hs he hd]
  simp [Conv.bytesToString]
  rfl
 ·refine run_convert_bytes_back w src dst e a c l hs he hd fun j hj=> ?_
  exact h.cells rfl (by intro e;subst e;simp at hj) j _ (by rw [bs_get,List.getElem?_eq_getElem hj];rfl)
end
def Bytes (l:List UInt8) (w:World) (v:Value):Prop:=∃A c,v= .slice A l.length c∧l.length≤c∧Rd w A l
theorem Rd.newf (w:World) (t:TypeId) (l:List UInt8) (rest:List Value) (fr:Nat×Nat):Rd (w.alloc (.cells (bs l ++ rest).toArray t fr)) (some ⟨w.heap.size,0,none⟩) l:=fun _=>by
 refine ⟨w.heap.size,0,rfl,fun j u hu=> ?_⟩
 rw [cell_of_row _ w.heap.size (0 + j) _ t fr (heap_alloc_new w _)]
 have hj:j < (bs l).length:=by
  rw [bs_length]
  rcases Nat.lt_or_ge j l.length with h | h
  ·exact h
  ·rw [List.getElem?_eq_none h] at hu;cases hu
 rw [Nat.zero_add,List.getElem?_toArray,List.getElem?_append_left hj,bs_get,hu]
 rfl
theorem Rd.new (w:World) (t:TypeId) (l:List UInt8) (rest:List Value):Rd (w.alloc (.cells (bs l ++ rest).toArray t)) (some ⟨w.heap.size,0,none⟩) l:=Rd.newf w t l rest (0,0)
theorem Bytes.new (w:World) (t:TypeId) (l:List UInt8) (cs:Array Value) (h:cs=(bs l).toArray) {n c:Nat} (hn:n=l.length) (hc:n≤c):Bytes l (w.alloc (.cells cs t)) (.slice (some ⟨w.heap.size,0,none⟩) n c):=by
 subst h hn
 have:=Rd.new w t l []
 rw [List.append_nil] at this
 exact ⟨_,_,rfl,hc,this⟩
theorem Bytes.own {w:World} {base e:Nat} {v:Value} {l:List UInt8} (h:w.ownsRow base e 1 v l.length (bs l)):Bytes l w v:=by
 rcases h.2 with ⟨rfl,h0⟩ | ⟨g,cap,cur,rfl,_,_,hnc,_⟩
 ·have hl:l= []:=List.length_eq_zero_iff.1 h0
  subst hl
  exact ⟨none,0,rfl,Nat.le_refl _,Rd.nil _ _⟩
 ·exact ⟨_,cap,rfl,hnc,Rd.of_own (base:=base) (e:=e) (c:=cap) h⟩
theorem hide {p:Prop} (h:p):Hid p:=h
def Ret (w:World) (S:World→Value→Prop) (e:Ending) (w':World):Prop:=∃v,e= .returned v∧Ext w w'∧S w' v
theorem Ret.mk {w w':World} {S:World→Value→Prop} {v:Value} (hx:Ext w w') (hS:S w' v):Ret w S (.returned v) w':=⟨v,rfl,hx,hS⟩
def Is (x:Value) (_:World) (v:Value):Prop:=v=x
section
variable {P:Program} {ops:Array Oper} {o:Oper} {a:Act} {w:World} {R:Value→World→Prop}
theorem ev {d:Nat} {v:Value} (h:a.tmps[d]? =some v):a.eval (.tmp d)=v:=by simp [Act.eval,h]
theorem wanted_none (hg:o.guard=none):Region.wanted o (yielded ops a.tmps)=true:=by simp [Region.wanted,hg]
theorem gives_of_run {v:Value} {w':World} (h:(execOp a.eval o).run P w= .ok (.value v) w') (hR:R v w'):gives P o a w R:=by unfold gives;rw [h];exact hR
theorem gives_move {x:Operand} (h:o.op= .move x) (hR:R (a.eval x) w):gives P o a w R:=gives_of_run (w':=w) (v:=a.eval x) (by simp [execOp,h]) hR
theorem gives_assign {x:Operand} (h:o.op= .assign x) (hR:R (a.eval x) w):gives P o a w R:=gives_of_run (w':=w) (v:=a.eval x) (by simp [execOp,h]) hR
end
theorem info_u8:(Tryz.prog.info? 5).map (fun i=>(i.zero,i.size,i.bytes))=some (some (.int .u8 0),1,1):=by kernel_rfl
def Own (w:World) (base:Nat) (v:Value) (l:List UInt8):Prop:=w.ownsRow base 5 1 v l.length (bs l)
theorem Own.nil (w:World) (base:Nat):Own w base (.slice none 0 0) []:=World.ownsRow_nil _ _ _ _
theorem Own.alloc {w:World} {base:Nat} {v:Value} {l:List UInt8} (h:Own w base v l) (o:Obj):Own (w.alloc o) base v l:=World.ownsRow.alloc h o
theorem Own.bytes {w:World} {base:Nat} {v:Value} {l:List UInt8} (h:Own w base v l):Bytes l w v:=Bytes.own h
theorem Own.ext {w w':World} {base:Nat} {v:Value} {l:List UInt8} (h:Own w base v l) (hx:Ext w w'):Own w' base v l:=by
 refine ⟨h.1, ?_⟩
 rcases h.2 with hn | ⟨g,cap,cur,rfl,hb,hg,rest⟩
 ·exact .inl hn
 ·refine .inr ⟨g,cap,cur,rfl,hb, ?_,rest⟩
  have hlt:g < w.heap.size:=by
   rcases Nat.lt_or_ge g w.heap.size with h' | h'
   ·exact h'
   ·rw [Array.getElem?_eq_none h'] at hg;cases hg
  rw [Below.block hx g hlt]
  exact hg
theorem Rd.byte (w:World) (t:TypeId) (b:UInt8):Rd (w.alloc (.cells #[.int .u8 (b.toNat:Int)] t)) (some ⟨w.heap.size,0,none⟩) [b]:=Rd.new w t [b] []
theorem Rd.one (w:World) (t:TypeId) (n:Int) (h0:0≤n) (h1:n < 256):Rd (w.alloc (.cells #[.int .u8 n] t)) (some ⟨w.heap.size,0,none⟩) [b8 n]:=by
 have:=Rd.byte w t (b8 n)
 rwa [b8_toNat h0 h1] at this
theorem run_append_from_nil {P:Program} (w:World) (base t ty e:Nat) (i:TypeInfo) (size:Nat) (ht:P.underlying t=some (.slice e)) (hi:P.info? e=some i)
  (v:Value) (n:Nat) (xs:List Value) (hown:w.ownsRow base e size v n xs) (c:Nat):(Builtin.append_ #[t,t] ty #[v, .slice none 0 c]).run P w= .ok v w:=by
 rcases hown.2 with ⟨rfl,rfl⟩ | ⟨g,cap,cur,rfl,_,_,hnc,_⟩
 ·simp [Builtin.append_,run_underlying ht,sizeOf,typeInfo,hi,Builtin.lenOf,Builtin.firstCells]
 ·simp [Builtin.append_,run_underlying ht,sizeOf,typeInfo,hi,Builtin.lenOf,Builtin.firstCells,hnc,storeCells]
theorem run_cat (w:World) (base ty:Nat) (v:Value) (l m:List UInt8) (A:Option Addr) (c:Nat) (hown:Own w base v l) (hr:Rd w A m) (hbase:base≤w.heap.size) (hlen:l.length + m.length≤140737488355328):
  ∃v' w',(Builtin.append_ #[22,22] ty #[v, .slice A m.length c]).run Tryz.prog w= .ok v' w'∧Own w' base v' (l ++ m)∧Below base w w'∧w.grownBy w' v.ownBlock:=by
 obtain ⟨i0,hi,hz0,hz1,hz2⟩:=info_parts info_u8
 rcases A with _ | a
 ·have hm:m= []:=by
   cases m with
   | nil=>rfl
   | cons x xs=>obtain ⟨_,_,hA,_⟩:=hr (by simp);cases hA
  subst hm
  refine ⟨v,w,run_append_from_nil w base _ ty _ i0 1 Tryz.underlying22 hi v _ _ hown c,by rw [List.append_nil];exact hown,Below.refl _ _,⟨rfl,rfl,rfl,Nat.le_refl _,fun _ _ _=>rfl⟩⟩
 ·have hc:∀j u,(bs m)[j]? =some u→w.cell? (a.add j)=some u:=by
   intro j u hu
   by_cases hn:m= []
   ·subst hn;simp [bs] at hu
   ·exact hr.cells rfl hn j u hu
  obtain ⟨v',w',hrun,h2,h3,_⟩:=run_append_own (P:=Tryz.prog) w base 22 ty 5 i0 _ 1 1 Tryz.underlying22 hi hz0 hz1 hz2 rfl (by decide) v _ _ hown a m.length c (bs m) (by rw [bs_length];simp) hc (bs_one m)
   (by unfold maxLen;omega) (by omega) hbase
  refine ⟨v',w',hrun, ?_,(Below.refl _ _).grown h3 hbase (fun k hk=>(hown.lt k hk).1),h3⟩
  unfold Own
  rw [bs_append,List.length_append]
  exact h2
section
variable {ops:Array Oper} {rest:List Oper} {o:Oper} {a:Act} {Q:Exit→Act→World→Prop} {w:World}
theorem wp_cat {K:Act→World→Prop} (s x:Operand) (ho:o.op= .call { callee:= .builtin .append,args:= #[s,x],argTypes:= #[22,22] })
  (base:Nat) (v:Value) (l m:List UInt8) (A:Option Addr) (n c:Nat) (hs:a.eval s=v) (hx:a.eval x= .slice A n c) (hn:n=m.length) (hown:Own w base v l) (hr:Rd w A m) (hbase:base≤w.heap.size) (hlen:l.length + m.length≤140737488355328)
  (h:∀v' w',Own w' base v' (l ++ m)→Below base w w'→K (a.put o.dst v') w'):o.wp Tryz.prog a w K Q:=by
 subst hn
 obtain ⟨v',w',hrun,h2,h3,_⟩:=run_cat w base o.type v l m A c hown hr hbase hlen
 unfold Oper.wp execOp
 simp only [ho,resolve,invoke,builtin,Sem.run_bind,Sem.run_pure,Result.andThen_ok,List.map_toArray,List.map_cons,List.map_nil,hs,hx,hrun]
 exact h v' w' h2 h3
theorem wpList_wanted {P:Program} {ops:Array Oper} {rest:List Oper} {o:Oper} {a:Act} {Q:Exit→Act→World→Prop} {w:World} (hgd:Region.wanted o (yielded ops a.tmps)=true)
  (h:∀K:Act→World→Prop,(∀a w,wpList P ops Q rest a w→K a w)→o.wp P a w K Q):wpList P ops Q (o::rest) a w:=
 wpList_step fun K hK=>by rw [if_pos hgd];exact h K hK
theorem wpList_cat (hgd:Region.wanted o (yielded ops a.tmps)=true) (s x:Operand) (ho:o.op= .call { callee:= .builtin .append,args:= #[s,x],argTypes:= #[22,22] })
  (base:Nat) (v:Value) (l m:List UInt8) (A:Option Addr) (n c:Nat) (hs:a.eval s=v) (hx:a.eval x= .slice A n c) (hn:n=m.length) (hown:Own w base v l) (hr:Rd w A m) (hbase:base≤w.heap.size) (hlen:l.length + m.length≤140737488355328)
  (h:∀v' w',Own w' base v' (l ++ m)→Below base w w'→wpList Tryz.prog ops Q rest (a.put o.dst v') w'):wpList Tryz.prog ops Q (o::rest) a w:=
 wpList_wanted hgd fun _ hK=>wp_cat s x ho base v l m A n c hs hx hn hown hr hbase hlen fun v' w' h2 h3=>hK _ _ (h v' w' h2 h3)
theorem wpList_push {w0:World} {n:Int} (hgd:Region.wanted o (yielded ops a.tmps)=true) (s x:Operand) (ho:o.op= .call { callee:= .builtin .append,args:= #[s,x],argTypes:= #[22,22] })
  (base:Nat) (v:Value) (l:List UInt8) (hs:a.eval s=v) (hx:a.eval x= .slice (some ⟨w0.heap.size,0,none⟩) 1 1) (hown:Own w0 base v l) (h0:0≤n) (h1:n < 256) (hbase:base≤w0.heap.size) (hlen:l.length < 140737488355328)
  (h:∀v' w',Own w' base v' (l ++ [b8 n])→Below base w0 w'→wpList Tryz.prog ops Q rest (a.put o.dst v') w'):wpList Tryz.prog ops Q (o::rest) a (w0.alloc (.cells #[.int .u8 n] 5)):=
 wpList_cat hgd s x ho base v l [b8 n] _ 1 1 hs hx rfl (hown.alloc _) (Rd.one w0 _ n h0 h1) (by simp;omega) (by simp;omega) fun v' w' h2 h3=>
  h v' w' h2 (((Below.refl base w0).alloc hbase _).trans h3)
end
open Go.ChangeShapes Go.WideShapes Go.ChangeAt Go.RowKit
theorem own:ownKnob Tryz.prog.godebug=none:=by kernel_rfl
theorem laidOut:laidOutB Tryz.prog=true:=by kernel_rfl
section
variable {H:Type} {enc:TypeId×Value→H} {P:Program} {W W':World}
theorem trodAll_stays (hl:laidOutB P=true) {sp:Nat→Bool}:∀(ts:List TypeId) (vs:List Value) (ds:List (DataW H)) (ps:List MemPlace),(∀t∈ts,P.readableRec t=true∧t < P.types.size)→
  DataW.TrodAll enc P W 0 (fun _=>true) true ts vs ds ps→(∀p∈ps,W.sameAt W' p)→(∀p∈ps,sp p.block=true)→DataW.TrodAll enc P W' 0 sp true ts vs ds ps
 | [],vs,ds,ps,_,h,_,_=>by
  cases vs <;> cases ds <;> simp [DataW.TrodAll] at h
  subst h
  exact trodAll_mk0
 | t::ts,vs,ds,ps,hr,h,hs,hp=>by
  obtain ⟨v,vs',d,ds',p,q,rfl,rfl,rfl,h1,h2⟩:=trodAll_cons h
  have h3:=WideElems.Trod_stays hl (hr t (by simp)).1 (hr t (by simp)).2 (sp':=sp) h1 (fun x hx=>hs x (List.mem_append_left _ hx)) (fun x hx=>hp x (List.mem_append_left _ hx))
  have h4:=trodAll_stays hl ts vs' ds' q (fun x hx=>hr x (List.mem_cons_of_mem _ hx)) h2 (fun x hx=>hs x (List.mem_append_right _ hx)) (fun x hx=>hp x (List.mem_append_right _ hx))
  exact trodAll_cons_mk h3 h4
theorem law_post {f:Func} {s:ChangeSpec} {args:Array Value} {ds gs:List (DataW H)} {before:List MemPlace} {tb:TypeId} (hl:laidOutB P=true)
  (hW:DataW.Whole enc P f.params.toList s.vars false W args.toList ds gs before) (hv:s.vars= []) (hparams:∀t∈f.params.toList,P.readableRec t=true∧t < P.types.size)
  (hres:f.resultTypes= #[tb]) (hub:P.underlying tb=some .bool) (hfn:s.fn H (ds ++ gs)= { results:= [.lit (.bool true)],args:=ds }) (hb:Below W.heap.size W W'):
  s.post enc P f false true false false W args (.bool true) W':=by
 have hW':=hW
 obtain ⟨p,q,hA,hV,rfl,hz,hn⟩:=hW
 rw [hv] at hV
 obtain ⟨rfl,rfl⟩:=trodVars_none hV
 have hlt:=hW'.lt
 have hsame:∀x∈p,W.sameAt W' x:=fun x hx=>hb.same (hlt x (by simpa using hx))
 have hargs:∀sp:Nat→Bool,(∀x∈p,sp x.block=true)→DataW.TrodAll enc P W' 0 sp true f.params.toList args.toList (s.fn H (ds ++ [])).args p:=fun sp hs=>by
  rw [hfn]
  exact trodAll_stays hl _ _ _ _ hparams hA hsame hs
 have hvars:∀sp:Nat→Bool,DataW.TrodVars enc P W' sp s.vars (s.fn H (ds ++ [])).vars []:=fun sp=>by rw [hfn,hv];rfl
 have hresults:∀(b:Nat) (sp:Nat→Bool) (hd:Bool),DataW.TrodAll enc P W' b sp hd f.resultTypes.toList ((Value.bool true).resultList f.resultTypes.size) (s.fn H (ds ++ [])).results []:=fun b sp hd=>by
  rw [hfn,hres]
  exact trodAll_cons_mk (shut_bool hub true) trodAll_mk0
 refine ⟨ds, [],p ++ [], [],p, [],hW',hresults _ _ _,hargs _ (fun x hx=>by simpa using hlt x (by simpa using hx)),hvars _,World.keptBut_mono (fun x hx=>⟨hx, ?_⟩) (hb.frame (· ∈p ++ [])),fun h=>by cases h⟩
 exact Or.inr (by simpa using hx)
end
/-- An argument that is a slice of bytes. -/
theorem open_bytes {H:Type} {enc:TypeId×Value→H} {W:World} {base:Nat} {v:Value} {d:DataW H} {ps:List MemPlace} (hval:Value.okWide Tryz.prog W .any base 22 v)
  (h:DataW.Trod enc Tryz.prog W 0 (fun _=>true) true 22 v d ps):
  ∃A c l,v= .slice A l.length c∧l.length≤c∧Rd W A l∧((d= .nil∧l= [])∨∃elems spare,d= .slice elems spare∧elems.length=l.length∧elems.length + spare.length=c):=by
 obtain ⟨a0,len,cap,rfl⟩:=okWide_slice Tryz.underlying22 hval
 obtain ⟨n,hn⟩:=h
 rcases open_ints Tryz.underlying22 Tryz.underlying5 (by kernel_rfl) hn with ⟨hc,hx⟩ | ⟨a,len',cap',zs,hc,_,hlc,_,hz,hx,hcell,hwf⟩
 ·simp [Value.cells] at hc
  obtain ⟨rfl,rfl,rfl⟩:=hc
  simp only [Prod.mk.injEq] at hx
  exact ⟨none,0, [],rfl,Nat.le_refl _,Rd.nil _ _, .inl ⟨hx.1,rfl⟩⟩
 ·simp [Value.cells] at hc
  obtain ⟨rfl,rfl,rfl⟩:=hc
  simp only [Prod.mk.injEq] at hx
  simp only [if_true] at hz
  have hlen:((zs.take len).map b8).length=len:=by simp;omega
  refine ⟨some a,cap,(zs.take len).map b8,by rw [hlen],by rw [hlen];exact hlc,fun hn0=> ?_, .inr ⟨_,_,hx.1, ?_, ?_⟩⟩
  ·have hp:0 < zs.length:=by
    have:len≠0:=by intro e;apply hn0;apply List.length_eq_zero_iff.1;rw [hlen,e]
    omega
   obtain ⟨b,off,rfl,hcl⟩:=ints_at hcell hp
   refine ⟨b,off,rfl,fun j u hu=> ?_⟩
   have hj:j < len:=by
    rcases Nat.lt_or_ge j len with h' | h'
    ·exact h'
    ·rw [List.getElem?_eq_none (by rw [hlen];exact h')] at hu;cases hu
   rw [hcl j (by omega)]
   rw [List.getElem?_map,List.getElem?_take_of_lt hj,List.getElem?_eq_getElem (by omega)] at hu
   have hu':b8 zs[j]=u:=by simpa using hu
   have hw:=bounds_u8 (hwf zs[j] (List.getElem_mem _))
   rw [← hu',b8_toNat hw.1 (by omega),List.getD_eq_getElem?_getD,List.getElem?_eq_getElem (by omega)]
   rfl
  ·rw [hlen];simp [lits];omega
  ·simp [lits];omega
theorem reach_bytes {H:Type} {P:Program} {ts:List TypeId} {ds:List (DataW H)} {t e:TypeId} {j:Nat} {l:List UInt8} {c:Nat} {d:DataW H} (hz:(DataW.weightsEach P ts ds).all (· ≤reachBytes)=true) (ht:ts[j]? =some t) (hd:ds[j]? =some d)
  (hu:P.underlying t=some (.slice e)) (he:P.bytesOf e=1) (h:(d= .nil∧l= [])∨∃elems spare,d= .slice elems spare∧elems.length=l.length∧elems.length + spare.length=c):l.length≤140737488351232:=by
 rcases h with ⟨_,rfl⟩ | ⟨elems,spare,rfl,hl,hc⟩
 ·simp
 ·have:=sized_slice hz ht hd hu
  rw [he] at this
  unfold reachBytes at this
  omega
theorem readable_all {P:Program} (ts:List TypeId) (h:(ts.all fun t=>P.readableRec t && decide (t < P.types.size))=true):∀t∈ts,P.readableRec t=true∧t < P.types.size:=by
 intro t ht
 have:=List.all_eq_true.1 h t ht
 simpa using this
def be64 (u:Int):List UInt8:=
  [b8 (u / 72057594037927936 % 256),b8 (u / 281474976710656 % 256),b8 (u / 1099511627776 % 256),b8 (u / 4294967296 % 256),
   b8 (u / 16777216 % 256),b8 (u / 65536 % 256),b8 (u / 256 % 256),b8 (u % 256)]
theorem be64_length (u:Int):(be64 u).length=8:=rfl
theorem be64_cells (u:Int) (h0:0≤u) (h1:u < 18446744073709551616):bs (be64 u)=
    [.int .u8 (u / 72057594037927936), .int .u8 (u / 281474976710656 % 256), .int .u8 (u / 1099511627776 % 256), .int .u8 (u / 4294967296 % 256),
     .int .u8 (u / 16777216 % 256), .int .u8 (u / 65536 % 256), .int .u8 (u / 256 % 256), .int .u8 (u % 256)]:=by
  have e:u / 72057594037927936 % 256=u / 72057594037927936:=by omega
  unfold be64 bs
  simp only [List.map_cons,List.map_nil]
  rw [b8_toNat (by omega) (by omega),b8_toNat (by omega) (by omega),b8_toNat (by omega) (by omega),b8_toNat (by omega) (by omega),b8_toNat (by omega) (by omega),
    b8_toNat (by omega) (by omega),b8_toNat (by omega) (by omega),b8_toNat (by omega) (by omega),e]
def num (l:List UInt8):Int:=l.foldl (fun a b=>a * 256 + (b.toNat:Int)) 0
theorem num_snoc (l:List UInt8) (b:UInt8):num (l ++ [b])=num l * 256 + (b.toNat:Int):=by simp [num]
theorem num_from (l:List UInt8):∀a:Int,0≤a→0≤l.foldl (fun a b=>a * 256 + (b.toNat:Int)) a∧l.foldl (fun a b=>a * 256 + (b.toNat:Int)) a < (a + 1) * 256 ^ l.length:=by
 induction l with
 | nil=>intro a h;simp;omega
 | cons b l ih=>
  intro a h
  have hb:=b.toNat_lt
  have:=ih (a * 256 + (b.toNat:Int)) (by omega)
  refine ⟨this.1,Int.lt_of_lt_of_le this.2 ?_⟩
  rw [List.length_cons,Int.pow_succ,Int.mul_comm (256 ^ l.length) 256,← Int.mul_assoc]
  exact Int.mul_le_mul_of_nonneg_right (by omega) (Int.le_of_lt (Int.pow_pos (by omega)))
theorem num_bound (l:List UInt8):0≤num l∧num l < 256 ^ l.length:=by
 have:=num_from l 0 (by omega)
 unfold num
 simpa using this
theorem num_be64 (u:Int) (h0:0≤u) (h1:u < 18446744073709551616):num (be64 u)=u:=by
 unfold num be64
 simp only [List.foldl_cons,List.foldl_nil]
 rw [b8_toNat (by omega) (by omega),b8_toNat (by omega) (by omega),b8_toNat (by omega) (by omega),b8_toNat (by omega) (by omega),b8_toNat (by omega) (by omega),
  b8_toNat (by omega) (by omega),b8_toNat (by omega) (by omega),b8_toNat (by omega) (by omega)]
 omega
theorem num_step (l:List UInt8) (k j:Nat) (x:UInt8) (h:l[k + j]? =some x):num ((l.drop k).take (j + 1))=num ((l.drop k).take j) * 256 + (x.toNat:Int):=by
 have h':(l.drop k)[j]? =some x:=by rw [List.getElem?_drop];exact h
 rw [List.take_add_one,h',Option.toList_some,num_snoc]
theorem num_take_lt (l:List UInt8) (j:Nat) (h:j≤7):num (l.take j) < 72057594037927936:=by
 have h1:=(num_bound (l.take j)).2
 have h3:256 ^ (l.take j).length≤256 ^ 7:=Nat.pow_le_pow_right (by omega) (Nat.le_trans (List.length_take_le _ _) h)
 have h2:((256 ^ (l.take j).length:Nat):Int)≤((256 ^ 7:Nat):Int):=Int.ofNat_le.2 h3
 rw [Int.natCast_pow] at h2
 have h4:((256 ^ 7:Nat):Int)=72057594037927936:=by decide
 have h5:(256:Int) ^ (l.take j).length≤72057594037927936:=by rw [← h4];exact h2
 exact Int.lt_of_lt_of_le h1 h5
theorem num_take_lt8 (l:List UInt8):0≤num (l.take 8)∧num (l.take 8) < 18446744073709551616:=by
 have h:=num_bound (l.take 8)
 have h3:256 ^ (l.take 8).length≤256 ^ 8:=Nat.pow_le_pow_right (by omega) (List.length_take_le _ _)
 have h2:((256 ^ (l.take 8).length:Nat):Int)≤((256 ^ 8:Nat):Int):=Int.ofNat_le.2 h3
 rw [Int.natCast_pow] at h2
 have h4:((256 ^ 8:Nat):Int)=18446744073709551616:=by decide
 have h5:(256:Int) ^ (l.take 8).length≤18446744073709551616:=by rw [← h4];exact h2
 exact ⟨h.1,Int.lt_of_lt_of_le h.2 h5⟩
theorem or_low (a b:Nat) (hb:b < 256):a * 256 ||| b=a * 256 + b:=by
 have:=Nat.shiftLeft_add_eq_or_of_lt (i:=8) (b:=b) (by omega) a
 rw [Nat.shiftLeft_eq] at this
 exact this.symm
theorem or_byte (a b:Int) (ha0:0≤a) (ha1:a < 72057594037927936) (hb0:0≤b) (hb1:b < 256):
  bits .or .u64 (IntKind.u64.wrap (a * 256)) (IntKind.u64.wrap b)=a * 256 + b:=by
 have e1:IntKind.u64.wrap (a * 256)=((a.toNat * 256:Nat):Int):=by rw [IntKind.wrap_u64];omega
 have e2:IntKind.u64.wrap b=((b.toNat:Nat):Int):=by rw [IntKind.wrap_u64];omega
 rw [e1,e2]
 show IntKind.u64.wrap ((BitVec.ofInt 64 ((a.toNat * 256:Nat):Int) ||| BitVec.ofInt 64 ((b.toNat:Nat):Int)).toNat:Int)=_
 rw [BitVec.toNat_or,BitVec.ofInt_natCast,BitVec.ofInt_natCast,BitVec.toNat_ofNat,BitVec.toNat_ofNat,
  Nat.mod_eq_of_lt (show a.toNat * 256 < 2 ^ 64 by omega),Nat.mod_eq_of_lt (show b.toNat < 2 ^ 64 by omega),or_low _ _ (by omega),IntKind.wrap_u64]
 omega
def crcTab:List Nat:= [0,498536548,997073096,651767980,1994146192,1802195444,1303535960,1342533948,3988292384,4027552580,3604390888,3412177804,2607071920,2262029012,2685067896,3183342108]
def crcAt (t:Nat):Nat:=crcTab.getD t 0
def ch (c:Nat):Nat:=c / 16 ^^^ crcAt (c % 16)
def crcStep (c:Nat) (x:UInt8):Nat:=ch (ch (c ^^^ x.toNat))
def crcFold (l:List UInt8):Nat:=l.foldl crcStep 4294967295
def crc (l:List UInt8):Nat:=4294967295 - crcFold l
theorem lt32_xor {a b:Nat} (ha:a < 4294967296) (hb:b < 4294967296):a ^^^ b < 4294967296:=Nat.xor_lt_two_pow (n:=32) ha hb
theorem crcAt_lt (t:Nat):crcAt t < 4294967296:=by
 by_cases h:t < 16
 ·revert t;decide
 ·unfold crcAt
  rw [List.getD_eq_getElem?_getD,List.getElem?_eq_none (by simp [crcTab];omega)];decide
theorem ch_lt {c:Nat} (h:c < 4294967296):ch c < 4294967296:=lt32_xor (by omega) (crcAt_lt _)
theorem crcFold_snoc (l:List UInt8) (x:UInt8):crcFold (l ++ [x])=crcStep (crcFold l) x:=by simp [crcFold]
def Tab (w:World):Prop:=∀i:Nat,i < 16→w.cell? ⟨0,i,none⟩=some (.int .u32 (crcAt i:Int))
theorem Tab.ext {w w':World} (h:Tab w) (hx:Ext w w'):Tab w':=fun i hi=>(Below.cell hx (World.block_lt_of_cell? w _ (h i hi))).trans (h i hi)
theorem half_facts (a:Nat) (h:a < 4294967296):∃t T b:Nat,bits .and .u32 (a:Int) 15=(t:Int)∧t < 16∧Hid (T=crcAt t)∧bits .xor .u32 ((a:Int) / 16) (T:Int)=(b:Int)∧b < 4294967296∧Hid (b=ch a):=by
 refine ⟨a % 16,crcAt (a % 16),ch a, ?_,Nat.mod_lt _ (by decide),rfl, ?_,ch_lt h,rfl⟩
 ·have:=u32_and_nat a 15 h (by decide)
  rw [nat_mask4] at this
  exact this
 ·have:=u32_xor_nat (a / 16) (crcAt (a % 16)) (by omega) (crcAt_lt _)
  rw [Int.natCast_ediv] at this
  exact this
theorem step_facts (c:Nat) (x:UInt8) (h:c < 4294967296):∃a:Nat,bits .xor .u32 (c:Int) (x.toNat:Int)=(a:Int)∧a < 4294967296∧Hid (ch (ch a)=crcStep c x):=by
 have hx:=x.toNat_lt
 exact ⟨c ^^^ x.toNat,u32_xor_nat _ _ h (by omega),lt32_xor h (by omega),rfl⟩
theorem nat_not32 (s:Nat) (h:s < 4294967296):4294967295 ^^^ s=4294967295 - s:=by
 have h1:=BitVec.toNat_not (x:=BitVec.ofNat 32 s)
 rw [← BitVec.allOnes_xor,BitVec.toNat_xor,BitVec.toNat_allOnes,BitVec.toNat_ofNat,Nat.mod_eq_of_lt (show s < 2 ^ 32 by omega)] at h1
 exact h1
theorem not32 (s:Nat) (h:s < 4294967296):bits .xor .u32 4294967295 (s:Int)=((4294967295 - s:Nat):Int):=by
 have:=u32_xor_nat 4294967295 s (by decide) h
 rw [nat_not32 s h] at this
 exact this
theorem crc_take (l:List UInt8) (n:Nat) (x:UInt8) (h:l[n]? =some x):crcFold (l.take (n + 1))=crcStep (crcFold (l.take n)) x:=by
 rw [List.take_add_one,h,Option.toList_some,crcFold_snoc]
theorem sum_any (A:Option Addr) (c:Nat) (l:List UInt8) (w:World) (hr:Rd w A l) (hl:l.length≤140737488355328) (ht:Tab w):
  Calls Tryz.prog 135 #[.slice A l.length c] w (Ret w (Is (.int .u32 (crc l:Int)))):=by
 go_enter Tryz.func135,Tryz.ntmps135
 go_wp2
 go_loop [3,8] (fun c i=>∃(n s:Nat),n≤l.length∧i= .int .i64 n∧s < 4294967296∧Hid (s=crcFold (l.take n))∧c= .int .u32 s) (fun _ i=>l.length - (intOf i).toNat)
 case atStart=>exact ⟨0,4294967295,Nat.zero_le _,rfl,by omega,rfl,rfl⟩
 case round=>
  obtain ⟨n,s,hn,rfl,h1,HS,rfl⟩:=hrel
  by_cases hlt:n < l.length
  ·obtain ⟨b,off,x,rfl,hx,hc⟩:=hr.at (k:=n) hlt
   have hx2:=x.toNat_lt
   have HF:=hide (crc_take l n x hx)
   clear hx
   obtain ⟨a,e1,ha,HA⟩:=step_facts s x h1
   obtain ⟨t1,T1,b1,e2,ht1,HT1,e3,hb1,HB1⟩:=half_facts a ha
   obtain ⟨t2,T2,b2,e4,ht2,HT2,e5,hb2,HB2⟩:=half_facts b1 hb1
   have hc1:w.cell? ⟨0,t1,none⟩=some (.int .u32 (T1:Int)):=by rw [HT1.out];exact ht t1 ht1
   have hc2:w.cell? ⟨0,t2,none⟩=some (.int .u32 (T2:Int)):=by rw [HT2.out];exact ht t2 ht2
   go_wp2
   refine ⟨⟨n + 1,b2,by omega,by go_num,hb2, ?_,rfl⟩,by simp [intOf];omega⟩
   show b2=_
   rw [HF.out,← HS.out,← HA.out,HB2.out,HB1.out]
  ·obtain rfl:n=l.length:=by omega
   go_wp2
   go_ret
   refine Ret.mk (Ext.refl _) ?_
   have:=HS.out
   rw [List.take_of_length_le (Nat.le_refl _)] at this
   unfold Is crc
   rw [← this]
   show Value.int .u32 _=_
   rw [show IntKind.u32.max=4294967295 from rfl,not32 s h1]
theorem gTab : Tryz.prog.globalNamed "muniment/octet.halfBytes" = some 0 := by kernel_rfl
theorem gTabType:(Tryz.prog.globals[0]?).map (·.type)=some 199:=by kernel_rfl
theorem cellsTab:Tryz.prog.cellsOf 199=16:=by kernel_rfl
theorem cellsU32:Tryz.prog.cellsOf 182=1:=by kernel_rfl
def tabInts:List Int:= [0,498536548,997073096,651767980,1994146192,1802195444,1303535960,1342533948,3988292384,4027552580,3604390888,3412177804,2607071920,2262029012,2685067896,3183342108]
theorem tab_of_laid {W : World} (h : laidMetH Tryz.prog [("muniment/octet.halfBytes", Rows.laid_muniment_octet_halfBytes)] W) : Tab W := by
 have ht : Lib.TabIs Tryz.prog W "muniment/octet.halfBytes" .u32 tabInts := Lib.tabIs_of_head (rest := []) gTab gTabType Tryz.underlying199 Tryz.underlying182 cellsU32 cellsTab h
 intro i hi
 have h1:=ht.cell gTab i (by simp [tabInts];omega)
 rw [h1]
 have h2:∀i:Nat,i < 16→tabInts.getD i 0=((crcAt i:Nat):Int):=by decide
 rw [h2 i hi]
noncomputable def laidWorld (os:Os):World:=
 { World.holding Tryz.prog os ⟨#[], #[], []⟩ with heap:=(World.holding Tryz.prog os ⟨#[], #[], []⟩).heap.modify 0 fun
   | .cells _ t frozen=> .cells #[.int .u32 0, .int .u32 498536548, .int .u32 997073096, .int .u32 651767980, .int .u32 1994146192, .int .u32 1802195444, .int .u32 1303535960, .int .u32 1342533948, .int .u32 3988292384, .int .u32 4027552580, .int .u32 3604390888, .int .u32 3412177804, .int .u32 2607071920, .int .u32 2262029012, .int .u32 2685067896, .int .u32 3183342108] t frozen
   | o=>o }
def be4 (c:Int):List UInt8:=(be64 c).drop 4
theorem be4_length (c:Int):(be4 c).length=4:=rfl
def numsB (ns:List Int):List UInt8:=(ns.map be64).flatten
theorem numsB_length (ns:List Int):(numsB ns).length=ns.length * 8:=by
 induction ns with
 | nil=>rfl
 | cons n ns ih=>simp only [numsB,List.map_cons,List.flatten_cons,List.length_append,List.length_cons] at *;rw [ih,be64_length];omega
theorem numsB_snoc (ns:List Int) (n:Int):numsB (ns ++ [n])=numsB ns ++ be64 n:=by simp [numsB]
theorem numsB_take (ns:List Int) (k:Nat) (n:Int) (h:ns[k]? =some n):numsB (ns.take (k + 1))=numsB (ns.take k) ++ be64 n:=by
 rw [List.take_add_one,h,Option.toList_some,numsB_snoc]
theorem numsB_at (ns:List Int) (k:Nat) (n:Int) (h:ns[k]? =some n):((numsB ns).drop (8 * k)).take 8=be64 n:=by
 obtain ⟨hk,rfl⟩:=List.getElem?_eq_some_iff.1 h
 have e:ns=ns.take k ++ (ns[k]::ns.drop (k + 1)):=by rw [← List.drop_eq_getElem_cons hk,List.take_append_drop]
 have e2:numsB ns=numsB (ns.take k) ++ (be64 ns[k] ++ numsB (ns.drop (k + 1))):=by
  have e3:ns.map be64=(ns.take k).map be64 ++ be64 ns[k]::(ns.drop (k + 1)).map be64:=by rw [← List.map_cons,← List.map_append,← e]
  unfold numsB
  rw [e3,List.flatten_append,List.flatten_cons]
 rw [e2,show 8 * k=(numsB (ns.take k)).length by rw [numsB_length,List.length_take];omega,List.drop_left]
 exact List.take_left' (be64_length _)
theorem splice_before {α:Type} (L:List α) (off:Nat) (cs:List α) (h:off≤L.length) (j:Nat) (hj:j < off):(splice L off cs)[j]? =L[j]? :=by
 unfold splice
 rw [List.getElem?_append_left (by rw [List.length_take];omega),List.getElem?_take_of_lt hj]
theorem splice_behind {α:Type} (L:List α) (off:Nat) (cs:List α) (h:off + cs.length≤L.length) (j:Nat) (hj:off + cs.length≤j):(splice L off cs)[j]? =L[j]? :=by
 unfold splice
 rw [List.getElem?_append_right (by rw [List.length_take];omega),List.length_take,Nat.min_eq_left (by omega),List.getElem?_append_right (by omega),List.getElem?_drop]
 congr 1;omega
theorem splice_in {α:Type} (L:List α) (off:Nat) (cs:List α) (h:off≤L.length) (j:Nat) (hj:j < cs.length):(splice L off cs)[off + j]? =cs[j]? :=by
 unfold splice
 rw [List.getElem?_append_right (by rw [List.length_take];omega),List.length_take,Nat.min_eq_left h,Nat.add_sub_cancel_left,List.getElem?_append_left hj]
theorem splice_slice {α:Type} (L:List α) (off:Nat) (cs:List α) (h:off≤L.length):((splice L off cs).drop off).take cs.length=cs:=by
 unfold splice
 have e:(L.take off).length=off:=by rw [List.length_take];omega
 have e2:(L.take off ++ (cs ++ L.drop (off + cs.length))).drop off=cs ++ L.drop (off + cs.length):=List.drop_left' e
 rw [e2]
 exact List.take_left ..
theorem splice_next {α:Type} (L:List α) (off:Nat) (a b:List α) (h:off + a.length + b.length≤L.length):splice (splice L off a) (off + a.length) b=splice L off (a ++ b):=by
 apply List.ext_getElem?
 intro j
 have h1:(splice L off a).length=L.length:=length_splice _ _ _ (by omega)
 by_cases h2:j < off
 ·rw [splice_before _ _ _ (by omega) _ (by omega),splice_before _ _ _ (by omega) _ h2,splice_before _ _ _ (by omega) _ h2]
 ·by_cases h3:j < off + a.length
  ·obtain ⟨k,rfl⟩:∃k,j=off + k:=⟨j - off,by omega⟩
   rw [splice_before _ _ _ (by omega) _ h3,splice_in _ _ _ (by omega) _ (by omega),splice_in _ _ _ (by omega) _ (by rw [List.length_append];omega),List.getElem?_append_left (by omega)]
  ·by_cases h4:j < off + a.length + b.length
   ·obtain ⟨k,rfl⟩:∃k,j=off + a.length + k:=⟨j - (off + a.length),by omega⟩
    rw [splice_in _ _ _ (by omega) _ (by omega),show off + a.length + k=off + (a.length + k) by omega,splice_in _ _ _ (by omega) _ (by rw [List.length_append];omega),List.getElem?_append_right (by omega)]
    congr 1;omega
   ·rw [splice_behind _ _ _ (by omega) _ (by omega),splice_behind _ _ _ (by omega) _ (by omega),splice_behind _ _ _ (by rw [List.length_append];omega) _ (by rw [List.length_append];omega)]
theorem splice_nil {α:Type} (L:List α) (off:Nat):splice L off []=L:=by simp [splice]
theorem splice_bs (l:List UInt8) (off:Nat) (m:List UInt8):splice (bs l) off (bs m)=bs (splice l off m):=by simp [splice,bs,List.map_take,List.map_drop]
theorem splice_get_slice {α:Type} (L:List α) (off:Nat) (cs:List α) (i n:Nat) (h:off + cs.length≤L.length) (hi:i + n≤off):((splice L off cs).drop i).take n=(L.drop i).take n:=by
 apply List.ext_getElem?
 intro j
 by_cases hj:j < n
 ·rw [List.getElem?_take_of_lt hj,List.getElem?_take_of_lt hj,List.getElem?_drop,List.getElem?_drop,splice_before _ _ _ (by omega) _ (by omega)]
 ·rw [List.getElem?_eq_none (by rw [List.length_take];omega),List.getElem?_eq_none (by rw [List.length_take];omega)]
def bodyB (kind:UInt8) (ns:List Int) (tail:List UInt8):List UInt8:=splice (splice ((List.replicate 512 0).set 4 kind) 5 (numsB ns)) 32 tail
def sealB (kind:UInt8) (ns:List Int) (tail:List UInt8):List UInt8:=splice (bodyB kind ns tail) 0 (be4 (crc ((bodyB kind ns tail).drop 4)))
def unsE (kind:Nat) (b:List UInt8):Int:=if b.take 4=be4 (crc (b.drop 4)) then (if (b.getD 4 0).toNat=kind then 0 else 3) else 15
def numAt (b:List UInt8) (k:Nat):Int:=num ((b.drop (5 + 8 * k)).take 8)
theorem numAt_range (b:List UInt8) (k:Nat):0≤numAt b k∧numAt b k < 18446744073709551616:=num_take_lt8 _
section
variable {kind:UInt8} {ns:List Int} {tail:List UInt8}
theorem set4_length (kind:UInt8):((List.replicate 512 (0:UInt8)).set 4 kind).length=512:=by rw [List.length_set,List.length_replicate]
theorem bodyB_length (h1:ns.length≤6) (h2:tail.length≤480):(bodyB kind ns tail).length=512:=by
 have h3:(splice ((List.replicate 512 (0:UInt8)).set 4 kind) 5 (numsB ns)).length=512:=by rw [length_splice _ _ _ (by rw [numsB_length,set4_length];omega),set4_length]
 unfold bodyB
 rw [length_splice _ _ _ (by rw [h3];omega),h3]
theorem sealB_length (h1:ns.length≤6) (h2:tail.length≤480):(sealB kind ns tail).length=512:=by
 unfold sealB
 rw [length_splice _ _ _ (by rw [be4_length,bodyB_length h1 h2];omega),bodyB_length h1 h2]
theorem sealB_take (h1:ns.length≤6) (h2:tail.length≤480):(sealB kind ns tail).take 4=be4 (crc ((bodyB kind ns tail).drop 4)):=by
 have h:=splice_slice (bodyB kind ns tail) 0 (be4 (crc ((bodyB kind ns tail).drop 4))) (by omega)
 rw [List.drop_zero,be4_length] at h
 exact h
theorem sealB_drop (h1:ns.length≤6) (h2:tail.length≤480):(sealB kind ns tail).drop 4=(bodyB kind ns tail).drop 4:=by
 apply List.ext_getElem?
 intro j
 rw [List.getElem?_drop,List.getElem?_drop]
 exact splice_behind _ _ _ (by rw [be4_length,bodyB_length h1 h2];omega) _ (by rw [be4_length];omega)
theorem sealB_from (h1:ns.length≤6) (h2:tail.length≤480) (k:Nat) (hk:4≤k):(sealB kind ns tail).drop k=(bodyB kind ns tail).drop k:=by
 obtain ⟨j,rfl⟩:∃j,k=4 + j:=⟨k - 4,by omega⟩
 rw [← List.drop_drop,sealB_drop h1 h2,List.drop_drop]
theorem sealB_kind (h1:ns.length≤6) (h2:tail.length≤480):(sealB kind ns tail)[4]? =some kind:=by
 have h3:(splice ((List.replicate 512 (0:UInt8)).set 4 kind) 5 (numsB ns)).length=512:=by rw [length_splice _ _ _ (by rw [numsB_length,set4_length];omega),set4_length]
 have e:(sealB kind ns tail)[4]? =(bodyB kind ns tail)[4]? :=splice_behind _ _ _ (by rw [be4_length,bodyB_length h1 h2];omega) _ (by rw [be4_length];omega)
 rw [e]
 unfold bodyB
 rw [splice_before _ _ _ (by rw [h3];omega) _ (by omega),splice_before _ _ _ (by rw [set4_length];omega) _ (by omega)]
 rfl
theorem unsE_seal (h1:ns.length≤6) (h2:tail.length≤480) (k:Nat):unsE k (sealB kind ns tail)=if kind.toNat=k then 0 else 3:=by
 unfold unsE
 rw [sealB_take h1 h2,sealB_drop h1 h2,if_pos rfl,List.getD_eq_getElem?_getD,sealB_kind h1 h2]
 rfl
theorem numAt_seal (h1:ns.length≤6) (h2:tail.length≤480) (k:Nat) (n:Int) (hk:ns[k]? =some n) (hn:0≤n∧n < 18446744073709551616) (h3:tail= []∨k < 3):numAt (sealB kind ns tail) k=n:=by
 have hkl:=(List.getElem?_eq_some_iff.1 hk).1
 have hl:=numsB_length ns
 have h5:(splice ((List.replicate 512 (0:UInt8)).set 4 kind) 5 (numsB ns)).length=512:=by rw [length_splice _ _ _ (by rw [numsB_length,set4_length];omega),set4_length]
 unfold numAt
 rw [sealB_from h1 h2 _ (by omega)]
 have e:((bodyB kind ns tail).drop (5 + 8 * k)).take 8=((splice ((List.replicate 512 (0:UInt8)).set 4 kind) 5 (numsB ns)).drop (5 + 8 * k)).take 8:=by
  unfold bodyB
  rcases h3 with rfl | h3
  ·rw [splice_nil]
  ·exact splice_get_slice _ _ _ _ _ (by rw [h5];omega) (by omega)
 rw [e]
 have e2:((splice ((List.replicate 512 (0:UInt8)).set 4 kind) 5 (numsB ns)).drop (5 + 8 * k)).take 8=((numsB ns).drop (8 * k)).take 8:=by
  apply List.ext_getElem?
  intro j
  by_cases hj:j < 8
  ·rw [List.getElem?_take_of_lt hj,List.getElem?_take_of_lt hj,List.getElem?_drop,List.getElem?_drop,Nat.add_assoc,splice_in _ _ _ (by rw [set4_length];omega) _ (by omega)]
  ·rw [List.getElem?_eq_none (by rw [List.length_take];omega),List.getElem?_eq_none (by rw [List.length_take];omega)]
 rw [e2,numsB_at ns k n hk,num_be64 n hn.1 hn.2]
theorem tail_seal (h1:ns.length≤6) (h2:tail.length≤480):((sealB kind ns tail).drop 32).take tail.length=tail:=by
 have h5:(splice ((List.replicate 512 (0:UInt8)).set 4 kind) 5 (numsB ns)).length=512:=by rw [length_splice _ _ _ (by rw [numsB_length,set4_length];omega),set4_length]
 rw [sealB_from h1 h2 _ (by omega)]
 exact splice_slice _ _ _ (by rw [h5];omega)
end
theorem unsE_zero (k:Nat) (hk:k≠0):unsE k (List.replicate 512 0)≠0:=by
 unfold unsE
 split
 ·rw [show (List.replicate 512 (0:UInt8)).getD 4 0=0 from rfl,if_neg (by simpa using (Ne.symm hk))]
  decide
 ·decide
theorem uint_any (u:Int) (w:World) (h0:0≤u) (h1:u < 18446744073709551616):
  Calls Tryz.prog 112 #[.int .u64 u] w (Ret w (Bytes (be64 u))):=by
 have hmk:∀w,(Instr.makeSlice 22 (.int .i64 8) (.int .i64 8)).run Tryz.prog w= .ok (.slice (some ⟨w.heap.size,0,none⟩) 8 8) (w.alloc (.cells #[.int .u8 0, .int .u8 0, .int .u8 0, .int .u8 0, .int .u8 0, .int .u8 0, .int .u8 0, .int .u8 0] 5)):=fun _=>by kernel_rfl
 go_enter Tryz.func112,Tryz.ntmps112
 go_wp2
 go_rounds 9
 go_ret
 exact Ret.mk (Ext.alloc _ _) (Bytes.new _ _ _ _ (by rw [be64_cells u h0 h1]) rfl (Nat.le_refl _))
def rdNum (l:List UInt8) (at_:Int):Int×Int×Int:=
 if at_ < 0∨(l.length:Int) < at_ then (0,0,1) else if (l.length:Int) < at_ + 8 then (0,0,3) else (num ((l.drop at_.toNat).take 8),at_ + 8,0)
def Three (k:IntKind) (x:Int×Int×Int) (w:World) (e:Ending) (w':World):Prop:=e= .returned (.tuple #[.int k x.1, .int .i64 x.2.1, .int .i64 x.2.2])∧w=w'
theorem readUint_any (A:Option Addr) (c:Nat) (l:List UInt8) (at_:Int) (w:World) (hr:Rd w A l) (hl:l.length≤140737488355328) (ha:at_≤9223372036854775807):
  Calls Tryz.prog 115 #[.slice A l.length c, .int .i64 at_] w (Three .u64 (rdNum l at_) w):=by
 by_cases h1:at_ < 0∨(l.length:Int) < at_
 ·have e:rdNum l at_=(0,0,1):=by unfold rdNum;rw [if_pos h1]
  rw [e]
  rcases h1 with h1 | h1
  ·go_enter Tryz.func115,Tryz.ntmps115
   go_wp2
   go_ret3
   exact ⟨rfl,rfl⟩
  ·have h0:0≤at_:=by omega
   go_enter Tryz.func115,Tryz.ntmps115
   go_wp2
   go_ret3
   exact ⟨rfl,rfl⟩
 ·obtain ⟨k,rfl⟩:=Int.eq_ofNat_of_zero_le (show 0≤at_ by omega)
  have hk:k≤l.length:=by omega
  by_cases h2:(l.length:Int) < (k:Int) + 8
  ·have e:rdNum l (k:Int)=(0,0,3):=by unfold rdNum;rw [if_neg h1,if_pos h2]
   rw [e]
   clear h1
   have h3:(l.length:Int) - (k:Int) < 8:=by omega
   go_enter Tryz.func115,Tryz.ntmps115
   go_wp2
   go_ret3
   exact ⟨rfl,rfl⟩
  ·have e:rdNum l (k:Int)=(num ((l.drop k).take 8),(k:Int) + 8,0):=by unfold rdNum;rw [if_neg h1,if_neg h2,Int.toNat_natCast]
   rw [e]
   clear h1
   have h3:8≤(l.length:Int) - (k:Int):=by omega
   go_enter Tryz.func115,Tryz.ntmps115
   go_wp2
   go_loop [7,8,22] (fun u _ c=>∃j:Nat,j≤8∧c= .int .i64 j∧u= .int .u64 (num ((l.drop k).take j))) (fun _ _ c=>8 - (intOf c).toNat)
   case atStart=>exact ⟨0,Nat.zero_le _,rfl,rfl⟩
   case round=>
    obtain ⟨j,hj,rfl,rfl⟩:=hrel
    by_cases hlt:j < 8
    ·obtain ⟨b,off,x,rfl,hx,hc⟩:=hr.at (k:=k + j) (by omega)
     have hb:=(num_bound ((l.drop k).take j)).1
     go_wp2
     refine ⟨⟨j + 1,by omega,by go_num, ?_⟩,by simp [intOf];omega⟩
     have hb2:=num_take_lt (l.drop k) j (by omega)
     have hx2:=x.toNat_lt
     rw [or_byte _ _ hb hb2 (by omega) (by omega),num_step l k j x hx]
    ·obtain rfl:j=8:=by omega
     go_wp2
     go_ret3
     exact ⟨rfl,rfl⟩
theorem sumOf_any (A:Option Addr) (c:Nat) (l:List UInt8) (w:World) (hr:Rd w A l) (hl:l.length=512) (hc:512≤c) (ht:Tab w):
  Calls Tryz.prog 113 #[.slice A 512 c] w (Ret w (Bytes (be4 (crc (l.drop 4))))):=by
 obtain ⟨b,off,u,rfl,-,-⟩:=hr.at (k:=0) (by omega)
 have hd:=hr.drop 4
 rw [add_flat] at hd
 obtain ⟨m,HM⟩:∃m,Hid (l.drop 4=m):=⟨_,hide rfl⟩
 rw [HM.out] at hd ⊢
 have hml:m.length=508:=by rw [← HM.out,List.length_drop];omega
 have KS:=sum_any (some ⟨b,off + 4,none⟩) (c - 4) m w hd (by omega) ht
 rw [hml] at KS
 have HKS:=hide KS
 have hcr:crc m < 4294967296:=by unfold crc;omega
 obtain ⟨z,HZ⟩:∃z:Nat,Hid (crc m=z):=⟨_,hide rfl⟩
 rw [HZ.out] at HKS hcr ⊢
 have KU:=hide (fun W=>uint_any (z:Int) W (by omega) (by omega))
 obtain ⟨q,HQ⟩:∃q,Hid (be64 (z:Int)=q):=⟨_,hide rfl⟩
 have HB4:Hid (be4 (z:Int)=q.drop 4):=hide (by unfold be4;rw [HQ.out])
 have hql:q.length=8:=by rw [← HQ.out];rfl
 rw [HQ.out] at KU
 rw [HB4.out]
 have hcc:¬c=4:=by omega
 have hc4:4≤c:=by omega
 clear hr hd KS hml hl HM HZ ht
 go_enter Tryz.func113,Tryz.ntmps113
 go_wp2_with (first
  | (go_at_call 135;(with_reducible refine HKS.out.mono ?_);rintro e w1 ⟨v,rfl,hx1,rfl⟩)
  | (go_at_call 112;(with_reducible refine (KU.out w1).mono ?_);rintro e w2 ⟨v,rfl,hx2,A2,c2,rfl,hc2,hr2⟩;rw [hql] at hc2;obtain ⟨b2,off2,u2,rfl,-,-⟩:=hr2.at (k:=0) (by omega);have hd2:=hr2.drop 4;rw [add_flat] at hd2;have hcc2:¬c2=4:=(by omega);rw [hql];have HX:=hide (hx1.trans hx2);have HD:=hide hd2;clear hr2 hx2 hd2 hx1))
 go_ret
 refine Ret.mk HX.out ⟨some ⟨b2,off2 + 4,none⟩,c2 - 4,by rw [List.length_drop,hql];rfl,by rw [List.length_drop,hql];omega,HD.out⟩
theorem tmps_sets {t:Array Value}:∀(ps:List (Nat×Value)) (a0:Array Value),t.size=a0.size→(∀p∈ps,t[p.1]? =some p.2)→(∀i,(∀p∈ps,p.1≠i)→t[i]? =a0[i]?)→t=ps.foldl (fun t p=>t.setIfInBounds p.1 p.2) a0
 | [],a0,hs,_,h=>Array.ext_getElem? (fun i=>h i (fun _ h=>by cases h))
 | p::ps,a0,hs,hp,h=>by
  refine tmps_sets ps (a0.setIfInBounds p.1 p.2) (by simpa using hs) (fun q hq=>hp q (List.mem_cons_of_mem _ hq)) (fun i hi=> ?_)
  rw [Array.getElem?_setIfInBounds]
  by_cases he:p.1=i
  ·subst he
   have h1:=hp p (List.mem_cons_self)
   have hlt:p.1 < t.size:=by
    rcases Nat.lt_or_ge p.1 t.size with h' | h'
    ·exact h'
    ·rw [Array.getElem?_eq_none h'] at h1;cases h1
   rw [if_pos rfl,if_pos (by omega),h1]
  ·rw [if_neg he]
   exact h i (fun q hq=>by
    rcases List.mem_cons.1 hq with rfl | hq
    ·exact he
    ·exact hi q hq)
def waits (ops:Array Oper) (k i:Nat):Bool:=match ops[k]? with
 | some o=>o.after.toList.any fun e=>e.on==i && Region.binds .any e
 | none=>false
theorem waits_edge {ops:Array Oper} {k i:Nat} (h:waits ops k i=true):∃o,ops[k]? =some o∧∃e∈o.after,Region.binds .any e=true∧e.on=i:=by
 unfold waits at h
 split at h
 ·rename_i o ho
  obtain ⟨e,he,hb⟩:=List.any_eq_true.1 h
  simp only [Bool.and_eq_true,beq_iff_eq] at hb
  exact ⟨o,ho,e,by simpa using he,hb.2,hb.1⟩
 ·cases h
def chainOk (ops:Array Oper) (ch:List Nat):Bool:=(List.range ch.length).all fun t=>decide (ch.getD t 0 < ops.size) && (t==0 || waits ops (ch.getD t 0) (ch.getD (t - 1) 0))
theorem chainOk_at {ops:Array Oper} {ch:List Nat} (h:chainOk ops ch=true) {t k:Nat} (hk:ch[t]? =some k):k < ops.size∧(0 < t→∃i,ch[t - 1]? =some i∧waits ops k i=true):=by
 have hlt:=(List.getElem?_eq_some_iff.1 hk).1
 have h1:=List.all_eq_true.1 h t (List.mem_range.2 hlt)
 simp only [Bool.and_eq_true,decide_eq_true_eq,Bool.or_eq_true,beq_iff_eq,List.getD_eq_getElem?_getD,hk,Option.getD_some] at h1
 refine ⟨h1.1,fun h0=> ?_⟩
 have hlt':t - 1 < ch.length:=by omega
 refine ⟨ch[t - 1],List.getElem?_eq_getElem hlt', ?_⟩
 rcases h1.2 with h2 | h2
 ·omega
 ·rw [List.getElem?_eq_getElem hlt'] at h2
  exact h2
def bd (ops:Array Oper) (ch:List Nat) (i:Nat):Nat:=ch.findIdx fun k=>waits ops k i
section
variable {P:Program} {ops:Array Oper} {Q:Exit→Act→World→Prop} {V:Nat→Value} {W:Nat→World} {ch:List Nat} {a0:Act}
structure CInv (ops:Array Oper) (V:Nat→Value) (W:Nat→World) (ch:List Nat) (a0:Act) (listed:Array Bool) (a:Act) (w:World):Prop where
 size:listed.size=ops.size
 defers:a.defers=a0.defers
 tmps:a.tmps.size=a0.tmps.size
 closed:∀(i:Nat) (o:Oper),ops[i]? =some o→listed[i]? =some true→∀e∈o.after,Region.binds .any e=true→listed[e.on]? =some true
 vals:∀(i:Nat) (o:Oper) (d:Nat),ops[i]? =some o→listed[i]? =some true→o.dst=some d→a.tmps[d]? =some (V i)
 same:∀t,(∀(i:Nat) (o:Oper),ops[i]? =some o→o.dst=some t→listed[i]? =some false)→a.tmps[t]? =a0.tmps[t]?
 place:∃j,j≤ch.length∧w=W j∧∀(t k:Nat),ch[t]? =some k→(listed[k]? =some true↔t < j)
def CPays (P:Program) (ops:Array Oper) (V:Nat→Value) (W:Nat→World) (ch:List Nat) (a0:Act) (i:Nat) (o:Oper):Prop:=
 ∀(a:Act),(∀t,keepsB ops i t=true→a.tmps[t]? =a0.tmps[t]?)→
  (∀j,(o.after.toList.any fun e=>e.on==j && Region.binds .any e)=true→∀(o':Oper),ops[j]? =some o'→∀(d:Nat),o'.dst=some d→a.tmps[d]? =some (V j))→
  if ch.contains i then ∀j,ch[j]? =some i→Region.wanted o (yielded ops a.tmps)=true∧gives P o a (W j) fun v w' =>v=V i∧w' =W (j + 1)
  else ∀j,j≤bd ops ch i→(Region.wanted o (yielded ops a.tmps)=true∧gives P o a (W j) fun v w' =>v=V i∧w' =W j)∨(Region.wanted o (yielded ops a.tmps)=false∧V i=undef)
theorem wpAny_chain (hok:regOk ops a0.tmps.size=true) (hcok:chainOk ops ch=true) (hstep:∀(i:Nat) (o:Oper),ops[i]? =some o→CPays P ops V W ch a0 i o)
  (hend:∀(a:Act),a.defers=a0.defers→a.tmps.size=a0.tmps.size→(∀(i:Nat) (o:Oper) (d:Nat),ops[i]? =some o→o.dst=some d→a.tmps[d]? =some (V i))→
   (∀t,(∀(i:Nat) (o:Oper),ops[i]? =some o→o.dst≠some t)→a.tmps[t]? =a0.tmps[t]?)→Q .normal a (W ch.length)):
  ∀(fuel:Nat) (listed:Array Bool) (a:Act) (w:World),CInv ops V W ch a0 listed a w→listed.toList.count true + fuel=ops.size→wpAny P .any ops Q fuel listed a w:=by
 have getb:∀(l:Array Bool) (i:Nat) (b:Bool),l.getD i b=(l[i]?).getD b:=fun l i b=>by simp
 have allTrue:∀(l:Array Bool),l.toList.count true=l.size→∀i,i < l.size→l[i]? =some true:=fun l h i hi=>by
  have:∀x∈l.toList,true=x:=by
   rw [← List.count_eq_length];simpa using h
  rw [Array.getElem?_eq_getElem hi]
  congr 1
  exact (this _ (by simp)).symm
 have hlt:∀ {i:Nat} {o:Oper},ops[i]? =some o→i < ops.size:=fun {i o} ho=>by
  rcases Nat.lt_or_ge i ops.size with hlt | hge
  ·exact hlt
  ·rw [Array.getElem?_eq_none hge] at ho;cases ho
 have fin:∀(listed:Array Bool) (a:Act) (w:World),CInv ops V W ch a0 listed a w→(∀i,i < ops.size→listed[i]? =some true)→Q .normal a w:=by
  intro listed a w I h
  obtain ⟨j,hj,hw,hch⟩:=I.place
  have hjm:j=ch.length:=by
   rcases Nat.lt_or_ge j ch.length with h1 | h1
   ·have hk:=List.getElem?_eq_getElem h1
    have:=(hch j _ hk).1 (h _ (chainOk_at hcok hk).1)
    omega
   ·omega
  subst hw hjm
  exact hend a I.defers I.tmps (fun i o d ho hd=>I.vals i o d ho (h i (hlt ho)) hd) (fun t ht=>I.same t fun i o ho hd=>absurd hd (ht i o ho))
 have step:∀(listed:Array Bool) (a:Act) (w:World) (i:Nat) (K:Act→World→Prop),CInv ops V W ch a0 listed a w→i∈Region.ready .any ops listed→
   (∀a' w',CInv ops V W ch a0 (listed.setIfInBounds i true) a' w'→K a' w')→wpOp P ops Q i K a w:=by
  intro listed a w i K I hr hK
  obtain ⟨hun,o,ho,hall⟩:=mem_ready.1 hr
  have hi:i < listed.size:=by rw [I.size];exact hlt ho
  have hfalse:listed[i]? =some false:=by
   rw [getb,Array.getElem?_eq_getElem hi] at hun
   rw [Array.getElem?_eq_getElem hi];simpa using hun
  have hpre:∀e∈o.after,Region.binds .any e=true→listed[e.on]? =some true:=fun e he hb=>by
   have h1:=hall e he hb
   rw [getb] at h1
   cases h2:listed[e.on]? with
   | none=>rw [h2] at h1;simp at h1
   | some b=>rw [h2] at h1;simp at h1;rw [h1]
  have hset:∀(k:Nat),(listed.setIfInBounds i true)[k]? =if i=k then some true else listed[k]? :=fun k=>by
   rw [Array.getElem?_setIfInBounds]
   by_cases h:i=k
   ·subst h;simp [hi]
   ·simp [h]
  obtain ⟨j,hj,hw,hch⟩:=I.place
  subst hw
  have next:∀v j',v=V i→(j'≤ch.length∧∀(t k:Nat),ch[t]? =some k→((listed.setIfInBounds i true)[k]? =some true↔t < j'))→CInv ops V W ch a0 (listed.setIfInBounds i true) (a.put o.dst v) (W j'):=by
   intro v j' hv hpl
   refine ⟨by simpa using I.size, ?_, ?_, ?_, ?_, ?_,j',hpl.1,rfl,hpl.2⟩
   ·cases hd:o.dst <;> simpa [Act.put] using I.defers
   ·cases hd:o.dst <;> simpa [Act.put] using I.tmps
   ·intro k ok hk hl e he hb
    rw [hset] at hl ⊢
    by_cases hki:i=k
    ·subst hki
     rw [ho] at hk;cases hk
     split
     ·rfl
     ·exact hpre e he hb
    ·rw [if_neg hki] at hl
     split
     ·rfl
     ·exact I.closed k ok hk hl e he hb
   ·intro k ok d hk hl hd
    rw [hset] at hl
    by_cases hki:i=k
    ·subst hki
     rw [ho] at hk;cases hk
     rw [hd,hv]
     have:=regOk_lt hok ho hd
     simp only [Act.put,Array.getElem?_setIfInBounds]
     simp [I.tmps,this]
    ·rw [if_neg hki] at hl
     have hu:=I.vals k ok d hk hl hd
     cases hod:o.dst with
     | none=>simpa [Act.put] using hu
     | some d' =>
      have hne:d'≠d:=fun e=>hki (regOk_one hok ho hk (by rw [hod,e]) hd)
      simp only [Act.put,Array.getElem?_setIfInBounds_ne hne]
      exact hu
   ·intro t ht
    have hit:o.dst≠some t:=fun hd=>by
     have:=ht i o ho hd
     rw [hset,if_pos rfl] at this;cases this
    have:=I.same t fun k ok hk hd=>by
     have h2:=ht k ok hk hd
     rw [hset] at h2
     split at h2
     ·cases h2
     ·exact h2
    rw [← this]
    cases hod:o.dst with
    | none=>rfl
    | some d' =>
     have hne:d'≠t:=fun e=>hit (by rw [hod,e])
     simp only [Act.put,Array.getElem?_setIfInBounds_ne hne]
  have hs:=hstep i o ho a ?_ ?_
  ·unfold wpOp
   simp only [ho]
   by_cases hc:ch.contains i=true
   ·rw [if_pos hc] at hs
    have hpl:∀t,ch[t]? =some i→t=j:=fun t ht=>by
     have h1:¬t < j:=fun h=>by
      have:=(hch t i ht).2 h
      rw [hfalse] at this;cases this
     rcases Nat.eq_zero_or_pos t with h0 | h0
     ·omega
     ·obtain ⟨i',hi',hwt⟩:=(chainOk_at hcok ht).2 h0
      obtain ⟨o',ho',e,he,hb,hon⟩:=waits_edge hwt
      rw [ho] at ho';cases ho'
      have h2:=hpre e he hb
      rw [hon] at h2
      have:=(hch (t - 1) i' hi').1 h2
      omega
    obtain ⟨t,ht⟩:=List.getElem?_of_mem (List.contains_iff_mem.1 hc)
    obtain rfl:=hpl t ht
    obtain ⟨hwn,hg⟩:=hs t ht
    rw [if_pos hwn]
    refine .inl (wp_of_gives hg fun v w' ⟨hv,hw'⟩=> ?_)
    subst hw'
    refine hK _ _ (next v (t + 1) hv ⟨(List.getElem?_eq_some_iff.1 ht).1,fun t' k hk=> ?_⟩)
    rw [hset]
    by_cases hik:i=k
    ·subst hik
     have:=hpl t' hk
     rw [if_pos rfl]
     exact ⟨fun _=>by omega,fun _=>rfl⟩
    ·rw [if_neg hik,hch t' k hk]
     refine ⟨fun h=>by omega,fun h=> ?_⟩
     rcases Nat.lt_or_ge t' t with h' | h'
     ·exact h'
     ·have:t' =t:=by omega
      subst this
      rw [ht] at hk
      injection hk with hk
      exact absurd hk hik
   ·rw [if_neg hc] at hs
    have hjb:j≤bd ops ch i:=by
     rcases Nat.lt_or_ge (bd ops ch i) j with h | h
     ·exfalso
      have hlen:bd ops ch i < ch.length:=by omega
      have hwt:waits ops ch[bd ops ch i] i=true:=List.findIdx_getElem (w:=hlen)
      obtain ⟨o',ho',e,he,hb,hon⟩:=waits_edge hwt
      have hl:=(hch _ _ (List.getElem?_eq_getElem hlen)).2 h
      have:=I.closed _ o' ho' hl e he hb
      rw [hon,hfalse] at this;cases this
     ·exact h
    have hpl:∀(t k:Nat),ch[t]? =some k→((listed.setIfInBounds i true)[k]? =some true↔t < j):=fun t k hk=>by
     have hik:i≠k:=fun e=>hc (List.contains_iff_mem.2 (by rw [e];exact List.mem_of_getElem? hk))
     rw [hset,if_neg hik]
     exact hch t k hk
    rcases hs j hjb with ⟨hwn,hg⟩ | ⟨hwn,hv⟩
    ·rw [if_pos hwn]
     refine .inl (wp_of_gives hg fun v w' ⟨hv,hw'⟩=> ?_)
     subst hw'
     exact hK _ _ (next v j hv ⟨hj,hpl⟩)
    ·rw [if_neg (by rw [hwn];exact Bool.false_ne_true)]
     exact hK _ _ (next _ j hv.symm ⟨hj,hpl⟩)
  ·intro t ht
   refine I.same t fun k ok hk hd=> ?_
   simp only [keepsB,List.all_eq_true] at ht
   have hm:ok∈ops.toList:=by simpa using Array.mem_of_getElem? hk
   have:=ht ok hm
   simp only [hd,bne_self_eq_false,Bool.false_or,List.any_eq_true,Array.mem_toList_iff] at this
   obtain ⟨e,he,hb⟩:=this
   simp only [Bool.and_eq_true,beq_iff_eq] at hb
   have hkl:k < listed.size:=by rw [I.size];exact hlt hk
   cases hv:listed[k]? with
   | none=>rw [Array.getElem?_eq_getElem hkl] at hv;cases hv
   | some b=>
    cases b with
    | false=>rfl
    | true=>
     have:=I.closed k ok hk hv e he hb.2
     rw [hb.1,hfalse] at this;cases this
  ·intro j' hj' o' ho' d hd
   simp only [List.any_eq_true,Array.mem_toList_iff] at hj'
   obtain ⟨e,he,hb⟩:=hj'
   simp only [Bool.and_eq_true,beq_iff_eq] at hb
   obtain ⟨rfl,hb⟩:=hb
   exact I.vals e.on o' d ho' (hpre e he hb) hd
 have full:∀(listed:Array Bool) (a:Act) (w:World),CInv ops V W ch a0 listed a w→Region.ready .any ops listed= []→∀i,i < ops.size→listed[i]? =some true:=by
  intro listed a w I hr i
  induction i using Nat.strongRecOn with
  | ind i ih=>
   intro hi
   cases hv:listed[i]? with
   | none=>rw [Array.getElem?_eq_none_iff,I.size] at hv;omega
   | some b=>
    cases b with
    | true=>rfl
    | false=>
     exfalso
     have hmem:i∈Region.ready .any ops listed:=by
      refine mem_ready.2 ⟨by rw [getb,hv];rfl,ops[i],Array.getElem?_eq_getElem hi,fun e he hb=> ?_⟩
      have hlt:=regOk_back hok (Array.getElem?_eq_getElem hi) he hb
      rw [getb,ih e.on hlt (by omega)];rfl
     rw [hr] at hmem;cases hmem
 intro fuel
 induction fuel with
 | zero=>
  intro listed a w I hc
  have hall:=allTrue listed (by rw [I.size];omega)
  rw [I.size] at hall
  refine ⟨?_,fin listed a w I hall⟩
  cases hr:Region.ready .any ops listed with
  | nil=>rfl
  | cons i rest=>
   exfalso
   have hm:i∈Region.ready .any ops listed:=by rw [hr];simp
   obtain ⟨hun,o,ho,_⟩:=mem_ready.1 hm
   rw [getb,hall i (hlt ho)] at hun;cases hun
 | succ fuel ih=>
  intro listed a w I hc
  refine ⟨fun hr=>fin listed a w I (full listed a w I hr),fun i hi=>step listed a w i _ I hi fun a' w' I' =>ih _ a' w' I' ?_⟩
  obtain ⟨hun,o,ho,_⟩:=mem_ready.1 hi
  have hlt:=hlt ho
  rw [count_set (by rw [getb,Array.getElem?_eq_getElem (by rw [I.size];exact hlt)] at hun;rw [Array.getElem?_eq_getElem (by rw [I.size];exact hlt)];simpa using hun)]
  omega
end
def setsOf (ops:List Oper) (V:Nat→Value):List (Nat×Value):=ops.zipIdx.filterMap fun x=>x.1.dst.map fun d=>(d,V x.2)
theorem wp_region_chain {P:Program} {ops:List Oper} {Q:Exit→Act→World→Prop} {a0:Act} {w0:World} {id:Nat} (V:List Value) (Ws:List World) (ch:List Nat) (hm:P.follows .mixedOrders=true)
  (hok:regOk ops.toArray a0.tmps.size=true) (hcok:chainOk ops.toArray ch=true) (hW0:Ws.getD 0 w0=w0.drew)
  (hstep:PaysFrom (CPays P ops.toArray (fun i=>V.getD i undef) (fun j=>Ws.getD j w0) ch a0) 0 ops)
  (hend:Q .normal ⟨(setsOf ops fun i=>V.getD i undef).foldl (fun t p=>t.setIfInBounds p.1 p.2) a0.tmps,a0.defers⟩ (Ws.getD ch.length w0)):
  (Code.region id ops.toArray true).wp P Q a0 w0:=by
 refine wp_region_any hm (wpAny_chain (V:=fun i=>V.getD i undef) (W:=fun j=>Ws.getD j w0) (ch:=ch) (a0:=a0) hok hcok ?_ ?_ _ _ a0 _ ?_ ?_)
 ·intro i o ho
  have h:=paysFrom_all ops 0 hstep i o (by simpa using ho)
  rwa [Nat.zero_add] at h
 ·intro a hd hs hv hsame
  have hmem:∀p,p∈setsOf ops (fun i=>V.getD i undef)↔∃(i:Nat) (o:Oper) (d:Nat),ops[i]? =some o∧o.dst=some d∧p=(d,V.getD i undef):=fun p=>by
   unfold setsOf
   rw [List.mem_filterMap]
   constructor
   ·rintro ⟨⟨o,i⟩,hm,hp⟩
    rw [List.mem_zipIdx_iff_getElem?] at hm
    cases hod:o.dst with
    | none=>rw [hod] at hp;cases hp
    | some d=>rw [hod] at hp;injection hp with hp;exact ⟨i,o,d,hm,hod,hp.symm⟩
   ·rintro ⟨i,o,d,ho,hod,rfl⟩
    exact ⟨(o,i),by rw [List.mem_zipIdx_iff_getElem?];exact ho,by simp [hod]⟩
  have ht:=tmps_sets (setsOf ops fun i=>V.getD i undef) a0.tmps hs (fun p hp=>by
   obtain ⟨i,o,d,ho,hod,rfl⟩:=(hmem p).1 hp
   exact hv i o d (by simpa using ho) hod) (fun t ht=>hsame t fun i o ho hod=>ht _ ((hmem _).2 ⟨i,o,t,by simpa using ho,hod,rfl⟩) rfl)
  obtain ⟨tm,df⟩:=a
  simp only at ht hd
  subst ht hd
  exact hend
 ·refine ⟨by simp,rfl,rfl, ?_, ?_,fun _ _=>rfl,0,Nat.zero_le _,hW0.symm, ?_⟩
  ·intro i o ho hl
   rw [Array.getElem?_replicate] at hl
   split at hl <;> simp at hl
  ·intro i o d ho hl
   rw [Array.getElem?_replicate] at hl
   split at hl <;> simp at hl
  ·intro t k _
   rw [Array.getElem?_replicate]
   split <;> simp
 ·have:(Array.replicate ops.toArray.size false).toList.count true=0:=by simp [List.count_replicate]
  omega
def Blk (w:World) (g:Nat) (l:List UInt8):Prop:=w.heap[g]? =some (.cells (bs l).toArray 5 (0,0))
theorem madeCells_zero (n:Nat):madeCells #[.int .u8 0] n=(bs (List.replicate n 0)).toArray:=by
 apply Array.ext'
 apply List.ext_getElem?
 intro i
 simp [madeCells,bs]
 by_cases h:i < n
 ·simp [h,Nat.mod_one]
 ·simp [h]
theorem info_size:(Tryz.prog.info? 5).map (·.size)=some 1:=by kernel_rfl
section
variable {w w':World} {g:Nat} {l:List UInt8}
theorem Blk.made (w:World) (n:Nat):Blk (w.alloc (.cells (madeCells #[.int .u8 0] n) 5)) w.heap.size (List.replicate n 0):=by
 unfold Blk
 rw [madeCells_zero]
 exact heap_alloc_new w _
theorem Blk.lt (h:Blk w g l):g < w.heap.size:=by
 rcases Nat.lt_or_ge g w.heap.size with h' | h'
 ·exact h'
 ·unfold Blk at h;rw [Array.getElem?_eq_none h'] at h;cases h
theorem Blk.cell (h:Blk w g l) {i:Nat} {x:UInt8} (hx:l[i]? =some x):w.cell? ⟨g,i,none⟩=some (.int .u8 (x.toNat:Int)):=by
 rw [cell_of_row w g i _ _ (0,0) h,List.getElem?_toArray,bs_get,hx]
 rfl
theorem Blk.frozen (h:Blk w g l) (i:Nat):w.frozen? ⟨g,i,none⟩=false:=by
 unfold Blk at h
 simp [World.frozen?,h]
theorem Blk.set (h:Blk w g l) (i:Nat) (n:Int) (h0:0≤n) (h1:n < 256):Blk (w.setCell ⟨g,i,none⟩ (.int .u8 n)) g (l.set i (b8 n)):=by
 unfold Blk at h ⊢
 have e:(bs (l.set i (b8 n))).toArray=(bs l).toArray.setIfInBounds i (.int .u8 n):=by
  rw [List.setIfInBounds_toArray]
  congr 1
  unfold bs
  rw [List.map_set,b8_toNat h0 h1]
 rw [e]
 simp [World.setCell,Array.getElem?_modify,h]
theorem Blk.rd (h:Blk w g l):Rd w (some ⟨g,0,none⟩) l:=fun _=>⟨g,0,rfl,fun j u hu=>by rw [Nat.zero_add];exact h.cell hu⟩
end
theorem run_make_bytes (n:Nat) (hn:n≤281474976710656) (W:World):(Instr.makeSlice 22 (.int .i64 (n:Int)) (.int .i64 (n:Int))).run Tryz.prog W=
  .ok (.slice (some ⟨W.heap.size,0,none⟩) n n) (W.alloc (.cells (madeCells #[.int .u8 0] n) 5)):=by
 obtain ⟨i0,hi,hz0,hz1,hz2⟩:=info_parts info_u8
 have h:=run_make (P:=Tryz.prog) W 22 5 i0 (.int .u8 0) Tryz.underlying22 hi hz0 .i64 .i64 (n:Int) (n:Int) (by omega) (by omega) (by rw [hz2];omega) (by omega)
 simpa [hz1,Value.cells] using h
def over (l:List UInt8) (off:Nat) (m:List UInt8):List UInt8:=l.take off ++ (m ++ l.drop (off + m.length))
theorem over_length (l:List UInt8) (off:Nat) (m:List UInt8) (h:off + m.length≤l.length):(over l off m).length=l.length:=by simp [over];omega
theorem Ext.drewN {w W:World} (h:Ext w W) (n:Nat):Ext w (W.drewN n):=⟨h.os,h.tape,h.output,h.size,h.block⟩
section
variable {P:Program} {ops:Array Oper} {o:Oper} {a:Act} {w:World} {R:Value→World→Prop}
theorem gives_cut {x y:Operand} {t e:Nat} {A:Option Addr} {n m c:Nat} (h:o.op= .slice t x none (some y) none) (ht:P.underlying t=some (.slice e)) (he:(P.info? e).isSome=true) (hx:a.eval x= .slice A n c) (hy:a.eval y= .int .i64 (m:Int)) (hm:m≤c)
  (hR:R (.slice A m c) w):gives P o a w R:=by
 obtain ⟨i,hi⟩:=Option.isSome_iff_exists.1 he
 have hcut:(Instr.slice t (.slice A n c) none (some (.int .i64 (m:Int))) none).run P w= .ok (.slice A m c) w:=by
  simp [Instr.slice,run_underlying ht,Instr.sliceBounds,Instr.sliceBound,asIntOf,hm,sizeOf,typeInfo,hi]
  cases A with
  | none=>simp
  | some ad=>simp [Addr.add]
 have hcut2:(Instr.sliceAt t (.slice A n c) none (some (.int .i64 (m:Int))) none).run P w= .ok (.slice A m c) w:=by simp [Instr.sliceAt,run_underlying ht,hcut]
 refine gives_of_run (w':=w) (v:= .slice A m c) ?_ hR
 unfold execOp
 simp only [h,Option.map_some,Option.map_none,hx,hy,Sem.run_bind,hcut2,Result.andThen_ok,Sem.run_pure]
end
def Rw (w:World) (g:Nat) (t:TypeId) (vs:List Value):Prop:=w.heap[g]? =some (.cells vs.toArray t (0,0))
section
variable {w w':World} {g:Nat} {t:TypeId} {vs:List Value}
theorem Rw.new (w:World) (t:TypeId) (vs:List Value):Rw (w.alloc (.cells vs.toArray t)) w.heap.size t vs:=heap_alloc_new w _
theorem Rw.lt (h:Rw w g t vs):g < w.heap.size:=by
 rcases Nat.lt_or_ge g w.heap.size with h' | h'
 ·exact h'
 ·unfold Rw at h;rw [Array.getElem?_eq_none h'] at h;cases h
theorem Rw.cell (h:Rw w g t vs) {i:Nat} {v:Value} (hx:vs[i]? =some v):w.cell? ⟨g,i,none⟩=some v:=by
 rw [cell_of_row w g i _ _ (0,0) h,List.getElem?_toArray,hx]
theorem Rw.frozen (h:Rw w g t vs) (i:Nat):w.frozen? ⟨g,i,none⟩=false:=by
 unfold Rw at h
 simp [World.frozen?,h]
theorem Rw.set (h:Rw w g t vs) (i:Nat) (v:Value):Rw (w.setCell ⟨g,i,none⟩ v) g t (vs.set i v):=by
 unfold Rw at h ⊢
 have e:(vs.set i v).toArray=vs.toArray.setIfInBounds i v:=by rw [List.setIfInBounds_toArray]
 rw [e]
 simp [World.setCell,Array.getElem?_modify,h]
theorem Rw.ext (h:Rw w g t vs) (hx:Ext w w'):Rw w' g t vs:=(Below.block hx g h.lt).trans h
theorem Rw.alloc (h:Rw w g t vs) (o:Obj):Rw (w.alloc o) g t vs:=(Below.heap_alloc w o g h.lt).trans h
theorem Rw.far (h:Rw w g t vs) {p:Addr} (hp:g≠p.block) (u:Value):Rw (w.setCell p u) g t vs:=(Below.heap_setCell w p u g hp).trans h
structure Laid1 (g:Nat) (w w':World):Prop where
 below:Below g w w'
 other:∀k,k≠g→w'.heap[k]? =w.heap[k]?
theorem Laid1.of_row (w:World) (g:Nat) (cs:Array Value):Laid1 g w (w.setRow g cs):=⟨⟨rfl,rfl,rfl,by simp [World.setRow],fun k hk=>setRow_other w g k cs (by omega)⟩,fun k hk=>setRow_other w g k cs hk⟩
theorem Laid1.of_cell (w:World) (g i:Nat) (u:Value):Laid1 g w (w.setCell ⟨g,i,none⟩ u):=⟨Below.setCell (p:=⟨g,i,none⟩) (Below.refl g w) (Nat.le_refl g) u,fun k hk=>Below.heap_setCell w _ u k hk⟩
end
theorem Ext.laid {w w' w'':World} {g:Nat} (h:Ext w w') (hl:Laid1 g w' w'') (hg:w.heap.size≤g):Ext w w'':=Below.trans h (Below.mono hl.below hg)
section
variable {P:Program} {ops:Array Oper} {rest:List Oper} {o:Oper} {a:Act} {w:World} {Q:Exit→Act→World→Prop} {R:Value→World→Prop}
theorem wpList_store_rw (hgd:o.guard=none) (ty:TypeId) (x y:Operand) (ho:o.op= .store ty x y) (g:Nat) (hx:a.eval x= .pointer (some ⟨g,0,none⟩)) (us:List Value) (hy:a.eval y= .agg us.toArray)
  (t:TypeId) (vs:List Value) (hr:Rw w g t vs) (n:Nat) (hi:(P.info? ty).map (·.size)=some n) (hn:n=us.length) (hm:vs.length=us.length) (h1:us.all (·.oneCell')=true)
  (h:∀w',Rw w' g t us→Laid1 g w w'→wpList P ops Q rest (a.put o.dst undef) w'):wpList P ops Q (o::rest) a w:=
 wpList_store_row hgd ty x y ho g us.toArray hx hy t vs.toArray hr (by rw [hi,hn];simp) (by simpa using hm) (by simpa using h1) (h _ (setRow_heap w g _ _ t _ hr) (Laid1.of_row w g _))
end
/-! ### values of many cells within a block -/
theorem run_loadVar_at {P:Program} (w:World) (g off:Nat) (ty:TypeId) (vs:List Value) (n:Nat) (ha:(isAgg ty).run P w= .ok true w) (hi:(P.info? ty).map (·.size)=some n) (hn:n=vs.length)
  (hc:∀j v,vs[j]? =some v→w.cell? ⟨g,off + j,none⟩=some v):(loadVar ty ⟨g,off,none⟩).run P w= .ok (.agg vs.toArray) w:=by
 have hl:(loadCells ⟨g,off,none⟩ vs.length).run P w= .ok vs.toArray w:=
  run_loadCells_list (P:=P) w ⟨g,off,none⟩ vs (fun j v hv=>by rw [add_flat];exact hc j v hv)
 cases hq:P.info? ty with
 | none=>simp [hq] at hi
 | some i=>
  have hs:i.size=vs.length:=by simp [hq] at hi;omega
  simp [loadVar,Sem.run_bind,ha,sizeOf,typeInfo,hq,hs,hl]
theorem agg_arr {P:Program} {ty m e:Nat} (hu:P.underlying ty=some (.array m e)) (w:World):(isAgg ty).run P w= .ok true w:=by
 unfold isAgg
 rw [Sem.run_bind,run_underlying hu w]
 simp
theorem agg_struct {P:Program} {ty:Nat} {fs:Array Field} (hu:P.underlying ty=some (.struct fs)) (w:World):(isAgg ty).run P w= .ok true w:=by
 unfold isAgg
 rw [Sem.run_bind,run_underlying hu w]
 simp
def lay (l:List Value) (off:Nat) (m:List Value):List Value:=l.take off ++ m ++ l.drop (off + m.length)
theorem run_storeVar_at {P:Program} (w:World) (g off:Nat) (ty t:TypeId) (us vs:List Value) (hr:Rw w g t vs) (hi:(P.info? ty).map (·.size)=some us.length) (hfit:off + us.length≤vs.length) (h1:∀u∈us,u.oneCell' =true):
  (storeVar ty ⟨g,off,none⟩ (.agg us.toArray)).run P w= .ok () (w.setRow g (lay vs off us).toArray):=by
 have h:=run_storeCells_at P g off t us 0 vs.toArray w hr (by simpa using hfit) h1
 simp only [Nat.add_zero] at h
 cases hq:P.info? ty with
 | none=>simp [hq] at hi
 | some i=>
  have hs:us.length=i.size:=by simp [hq] at hi;omega
  unfold lay
  simpa [storeVar,sizeOf,typeInfo,hq,Value.cells,hs] using h
theorem Rw.lay {w:World} {g:Nat} {t:TypeId} {vs:List Value} (h:Rw w g t vs) (off:Nat) (us:List Value):Rw (w.setRow g (lay vs off us).toArray) g t (Proofs.YthmdmgnhfhpcaaaGreatDoor.lay vs off us):=setRow_heap w g _ _ t _ h
section
variable {P:Program} {ops:Array Oper} {rest:List Oper} {o:Oper} {a:Act} {w:World} {Q:Exit→Act→World→Prop} {R:Value→World→Prop}
theorem gives_load_at (ty:TypeId) (x:Operand) (ho:o.op= .load ty x) (g off:Nat) (hx:a.eval x= .pointer (some ⟨g,off,none⟩)) (vs:List Value) (n:Nat) (ha:(isAgg ty).run P w= .ok true w) (hi:(P.info? ty).map (·.size)=some n) (hn:n=vs.length)
  (hc:∀j v,vs[j]? =some v→w.cell? ⟨g,off + j,none⟩=some v) (hR:R (.agg vs.toArray) w):gives P o a w R:=by
 unfold gives execOp
 simp only [ho,hx,Instr.loadAt,Instr.sureAddr,Sem.run_bind,Sem.run_pure,Result.andThen_ok,run_loadVar_at w g off ty vs n ha hi hn hc]
 exact hR
theorem gives_store_at (ty:TypeId) (x y:Operand) (ho:o.op= .store ty x y) (g off:Nat) (hx:a.eval x= .pointer (some ⟨g,off,none⟩)) (us:List Value) (hy:a.eval y= .agg us.toArray) (t:TypeId) (vs:List Value) (hr:Rw w g t vs) (hi:(P.info? ty).map (·.size)=some us.length) (hfit:off + us.length≤vs.length) (h1:∀u∈us,u.oneCell' =true)
  (hR:R undef (w.setRow g (lay vs off us).toArray)):gives P o a w R:=by
 unfold gives execOp
 simp only [ho,hx,hy,Instr.storeAt,Instr.sureAddr,Sem.run_bind,Sem.run_pure,Result.andThen_ok,run_storeVar_at w g off ty t us vs hr hi hfit h1]
 exact hR
theorem wpList_gives {x:Value} {w':World} (h:gives P o a w fun v w2=>v=x∧w2=w') (hgd:Region.wanted o (yielded ops a.tmps)=true)
  (hK:wpList P ops Q rest (a.put o.dst x) w'):wpList P ops Q (o::rest) a w:=
 wpList_step fun K hKK=>by
  rw [if_pos hgd]
  exact wp_of_gives h fun v w2 ⟨hv,hw⟩=>by subst hv hw;exact hKK _ _ hK
end
/-! ### lists of lists that are of one length -/
theorem flat_len {α:Type} {m:Nat}:∀(L:List (List α)),(∀s∈L,s.length=m)→L.flatten.length=L.length * m
 | [],_=>by simp
 | s::L,h=>by
  have h0:=h s (by simp)
  have h1:=flat_len L (fun t ht=>h t (by simp [ht]))
  simp only [List.flatten_cons,List.length_append,List.length_cons,Nat.add_mul,h0,h1]
  omega
theorem flat_split {α:Type} {m:Nat} {L:List (List α)} (h:∀s∈L,s.length=m) {i:Nat} {s:List α} (hi:L[i]? =some s):
  L.flatten.take (i * m)=(L.take i).flatten∧L.flatten.drop (i * m + m)=(L.drop (i + 1)).flatten∧L.flatten=(L.take i).flatten ++ (s ++ (L.drop (i + 1)).flatten):=by
 obtain ⟨hlt,hs⟩:=List.getElem?_eq_some_iff.1 hi
 have e:L.flatten=(L.take i).flatten ++ (s ++ (L.drop (i + 1)).flatten):=by
  rw [← List.flatten_cons,← List.flatten_append]
  congr 1
  rw [← hs,← List.drop_eq_getElem_cons hlt,List.take_append_drop]
 have hl:(L.take i).flatten.length=i * m:=by
  rw [flat_len (m:=m) _ (fun t ht=>h t (List.mem_of_mem_take ht)),List.length_take,Nat.min_eq_left (by omega)]
 have hsm:s.length=m:=h s (List.mem_of_getElem? hi)
 refine ⟨?_, ?_,e⟩
 ·rw [e,← hl,List.take_left]
 ·rw [e,← hl,← hsm,← List.append_assoc,← List.length_append,List.drop_left]
theorem flat_get {α:Type} {m:Nat} {L:List (List α)} (h:∀s∈L,s.length=m) {i:Nat} {s:List α} (hi:L[i]? =some s) {j:Nat} (hj:j < m):L.flatten[i * m + j]? =s[j]? :=by
 obtain ⟨h1,-,e⟩:=flat_split h hi
 have hsm:s.length=m:=h s (List.mem_of_getElem? hi)
 have hl:(L.take i).flatten.length=i * m:=by
  rw [flat_len (m:=m) _ (fun t ht=>h t (List.mem_of_mem_take ht)),List.length_take,Nat.min_eq_left (by have:=(List.getElem?_eq_some_iff.1 hi).1;omega)]
 rw [e,List.getElem?_append_right (by omega),hl,Nat.add_sub_cancel_left,List.getElem?_append_left (by omega)]
theorem flat_set {α:Type} {m:Nat} {L:List (List α)} (h:∀s∈L,s.length=m) {i:Nat} {s t:List α} (hi:L[i]? =some s) (ht:t.length=m):(L.set i t).flatten=L.flatten.take (i * m) ++ t ++ L.flatten.drop (i * m + m):=by
 obtain ⟨h1,h2,-⟩:=flat_split h hi
 obtain ⟨hlt,-⟩:=List.getElem?_eq_some_iff.1 hi
 rw [h1,h2,List.set_eq_take_append_cons_drop,if_pos hlt]
 simp
/-! ### the disk -/
structure Dk where
 dur:List (List UInt8)
 pen:List (Nat×List UInt8)
 ops:Nat
 arm:Nat
 off:Bool
def lastP (pen:List (Nat×List UInt8)) (i:Nat):Nat:=pen.zipIdx.foldl (fun acc x=>if x.1.1=i then x.2 + 1 else acc) 0
theorem lastP_nil (i:Nat):lastP [] i=0:=rfl
theorem lastP_snoc (pen:List (Nat×List UInt8)) (x:Nat×List UInt8) (i:Nat):lastP (pen ++ [x]) i=if x.1=i then pen.length + 1 else lastP pen i:=by
 unfold lastP
 rw [List.zipIdx_append,List.foldl_append]
 simp
def newL (n:Nat) (pen:List (Nat×List UInt8)):List Value:=(List.range n).map fun i=> .int .i64 (lastP pen i:Int)
theorem newL_get (n:Nat) (pen:List (Nat×List UInt8)) (i:Nat) (h:i < n):(newL n pen)[i]? =some (.int .i64 (lastP pen i:Int)):=by simp [newL,h]
theorem newL_snoc (n:Nat) (pen:List (Nat×List UInt8)) (x:Nat×List UInt8) (h:x.1 < n):newL n (pen ++ [x])=(newL n pen).set x.1 (.int .i64 ((pen.length + 1:Nat):Int)):=by
 apply List.ext_getElem?
 intro i
 by_cases hi:i < n
 ·rw [newL_get _ _ _ hi,lastP_snoc,List.getElem?_set]
  by_cases he:x.1=i
  ·rw [if_pos he,if_pos he,if_pos (by rw [he];simp [newL,hi])]
  ·rw [if_neg he,if_neg he,newL_get _ _ _ hi]
 ·rw [List.getElem?_eq_none (by simp [newL];omega),List.getElem?_eq_none (by simp [newL];omega)]
def penC (x:Nat×List UInt8):List Value:= .int .i64 (x.1:Int)::bs x.2
def pensC (l:List (Nat×List UInt8)):List Value:=(l.map penC).flatten
theorem penC_length (x:Nat×List UInt8) (h:x.2.length=512):(penC x).length=513:=by simp [penC,bs_length,h]
theorem penC_one (x:Nat×List UInt8):∀u∈penC x,u.oneCell' =true:=by
 intro u hu
 rcases List.mem_cons.1 hu with rfl | hu
 ·rfl
 ·exact bs_one _ u hu
theorem pensC_append (l m:List (Nat×List UInt8)):pensC (l ++ m)=pensC l ++ pensC m:=by simp [pensC]
theorem pensC_lens {l:List (Nat×List UInt8)} (h:∀x∈l,x.2.length=512):∀s∈l.map penC,s.length=513:=by
 intro s hs
 obtain ⟨x,hx,rfl⟩:=List.mem_map.1 hs
 exact penC_length x (h x hx)
structure Dk.Ok (D:Dk):Prop where
 pos:1≤D.dur.length
 max:D.dur.length≤4096
 dur:∀s∈D.dur,s.length=512
 pen:∀x∈D.pen,x.1 < D.dur.length∧x.2.length=512
theorem Dk.Ok.pens {D:Dk} (h:D.Ok):∀x∈D.pen,x.2.length=512:=fun x hx=>(h.pen x hx).2
def diskC (gd gn:Nat) (A:Option Addr) (c:Nat) (D:Dk):List Value:=
 [.slice (some ⟨gd,0,none⟩) D.dur.length D.dur.length, .slice A D.pen.length c, .slice (some ⟨gn,0,none⟩) D.dur.length D.dur.length, .int .i64 (D.ops:Int), .int .i64 (D.arm:Int), .bool D.off]
structure DiskAt (B:Nat) (w:World) (g gd gn:Nat) (A:Option Addr) (c:Nat) (D:Dk):Prop where
 blk:Rw w g 58 (diskC gd gn A c D)
 dur:Rw w gd 119 (bs D.dur.flatten)
 new:Rw w gn 3 (newL D.dur.length D.pen)
 pen:w.ownsRow B 121 513 (.slice A D.pen.length c) D.pen.length (pensC D.pen)
 base:B≤g∧B≤gd∧B≤gn
theorem Rw.apart {w:World} {g g2:Nat} {t t2:TypeId} {vs vs2:List Value} (h:Rw w g t vs) (h2:Rw w g2 t2 vs2) (ht:t≠t2):g≠g2:=fun e=>by
 subst e
 unfold Rw at h h2
 rw [h] at h2
 injection h2 with h2
 injection h2 with _ h3 _
 exact ht h3
theorem Rw.apart_own {w:World} {g B size n c:Nat} {t t2:TypeId} {vs xs:List Value} {A:Option Addr} (h:Rw w g t vs) (h2:w.ownsRow B t2 size (.slice A n c) n xs) (ht:t≠t2):∀a,A=some a→a.block≠g:=fun a ha e=>by
 rcases h2.2 with ⟨hv,_⟩ | ⟨g2,cap,cur,hv,_,hg,_⟩
 ·injection hv with hv;rw [ha] at hv;cases hv
 ·injection hv with hv
  rw [ha] at hv
  injection hv with hv
  subst hv
  simp only at e
  subst e
  unfold Rw at h
  rw [hg] at h
  injection h with h
  injection h with _ h3 _
  exact ht h3.symm
section
variable {B g gd gn c:Nat} {w w':World} {A:Option Addr} {D:Dk}
theorem DiskAt.ne (h:DiskAt B w g gd gn A c D):g≠gd∧g≠gn∧gd≠gn∧(∀a,A=some a→a.block≠g∧a.block≠gd∧a.block≠gn):=
 ⟨h.blk.apart h.dur (by decide),h.blk.apart h.new (by decide),h.dur.apart h.new (by decide),fun a ha=>⟨h.blk.apart_own h.pen (by decide) a ha,h.dur.apart_own h.pen (by decide) a ha,h.new.apart_own h.pen (by decide) a ha⟩⟩
structure Dfr (g gd gn:Nat) (A:Option Addr) (w w':World):Prop where
 os:w'.os=w.os
 tape:w'.tape=w.tape
 output:w'.output=w.output
 size:w.heap.size≤w'.heap.size
 other:∀k,k < w.heap.size→k≠g→k≠gd→k≠gn→(∀a,A=some a→a.block≠k)→w'.heap[k]? =w.heap[k]?
theorem Dfr.refl (g gd gn:Nat) (A:Option Addr) (w:World):Dfr g gd gn A w w:=⟨rfl,rfl,rfl,Nat.le_refl _,fun _ _ _ _ _ _=>rfl⟩
def Newer (w:World) (A A':Option Addr):Prop:=∀a',A' =some a'→(∃a,A=some a∧a.block=a'.block)∨w.heap.size≤a'.block
theorem Newer.refl (w:World) (A:Option Addr):Newer w A A:=fun a' h=> .inl ⟨a',h,rfl⟩
theorem Newer.trans {A A' A'':Option Addr} {w w':World} (h:Newer w A A') (k:Newer w' A' A'') (hs:w.heap.size≤w'.heap.size):Newer w A A'':=fun a ha=>by
 rcases k a ha with ⟨b,hb,e⟩ | h2
 ·rcases h b hb with ⟨d,hd,e2⟩ | h3
  ·exact .inl ⟨d,hd,e2.trans e⟩
  ·exact .inr (by omega)
 ·exact .inr (by omega)
theorem Dfr.trans {w w' w'':World} {A A':Option Addr} (h:Dfr g gd gn A w w') (k:Dfr g gd gn A' w' w'') (hn:Newer w A A'):Dfr g gd gn A w w'':=
 ⟨k.os.trans h.os,k.tape.trans h.tape,k.output.trans h.output,Nat.le_trans h.size k.size,fun b hb h1 h2 h3 h4=>(k.other b (Nat.lt_of_lt_of_le hb h.size) h1 h2 h3 (fun a ha e=>by
  rcases hn a ha with ⟨d,hd,e2⟩ | h5
  ·exact h4 d hd (e2.trans e)
  ·omega)).trans (h.other b hb h1 h2 h3 h4)⟩
theorem Dfr.ext (hx:Ext w w'):Dfr g gd gn A w w':=⟨hx.os,hx.tape,hx.output,hx.size,fun k hk _ _ _ _=>Below.block hx k hk⟩
theorem Dfr.cell (i:Nat) (v:Value):Dfr g gd gn A w (w.setCell ⟨g,i,none⟩ v):=⟨rfl,rfl,rfl,by simp,fun k _ h1 _ _ _=>Below.heap_setCell w _ v k h1⟩
def DPost (B g gd gn:Nat) (w:World) (A:Option Addr) (r:Value) (D':Dk) (e:Ending) (w':World):Prop:=∃A' c',e= .returned r∧DiskAt B w' g gd gn A' c' D'∧Dfr g gd gn A w w'∧Newer w A A'
theorem DiskAt.ext (h:DiskAt B w g gd gn A c D) (hx:Ext w w'):DiskAt B w' g gd gn A c D:=
 ⟨h.blk.ext hx,h.dur.ext hx,h.new.ext hx,by
  refine ⟨h.pen.1, ?_⟩
  rcases h.pen.2 with hn | ⟨g',cap,cur,hv,hb,hg,rest⟩
  ·exact .inl hn
  ·exact .inr ⟨g',cap,cur,hv,hb,(Below.block hx g' (Array.getElem?_eq_some_iff.1 hg).1).trans hg,rest⟩,h.base⟩
theorem ownsRow_far {w w':World} {B t size n c:Nat} {A:Option Addr} {xs:List Value} (h:w.ownsRow B t size (.slice A n c) n xs) (hk:∀a,A=some a→w'.heap[a.block]? =w.heap[a.block]?):w'.ownsRow B t size (.slice A n c) n xs:=by
 refine ⟨h.1, ?_⟩
 rcases h.2 with hn | ⟨g',cap,cur,hv,hb,hg,rest⟩
 ·exact .inl hn
 ·refine .inr ⟨g',cap,cur,hv,hb, ?_,rest⟩
  injection hv with hA
  rw [hk _ hA]
  exact hg
theorem DiskAt.put (h:DiskAt B w g gd gn A c D) (i:Nat) (v:Value) (D':Dk) (hd:D'.dur=D.dur) (hp:D'.pen=D.pen) (hl:(diskC gd gn A c D).set i v=diskC gd gn A c D'):DiskAt B (w.setCell ⟨g,i,none⟩ v) g gd gn A c D':=by
 obtain ⟨n1,n2,n3,n4⟩:=h.ne
 refine ⟨by rw [← hl];exact h.blk.set i v,by rw [hd];exact h.dur.far (fun e=>n1 e.symm) v,by rw [hd,hp];exact h.new.far (fun e=>n2 e.symm) v, ?_,h.base⟩
 rw [hp]
 exact ownsRow_far h.pen fun a ha=>Below.heap_setCell w ⟨g,i,none⟩ v a.block (n4 a ha).1
end
section
variable {B g gd gn c:Nat} {w:World} {A:Option Addr} {D:Dk}
theorem disk_cells (h:DiskAt B w g gd gn A c D):w.cell? ⟨g,0,none⟩=some (.slice (some ⟨gd,0,none⟩) D.dur.length D.dur.length)∧w.cell? ⟨g,1,none⟩=some (.slice A D.pen.length c)∧w.cell? ⟨g,2,none⟩=some (.slice (some ⟨gn,0,none⟩) D.dur.length D.dur.length)∧
  w.cell? ⟨g,3,none⟩=some (.int .i64 (D.ops:Int))∧w.cell? ⟨g,4,none⟩=some (.int .i64 (D.arm:Int))∧w.cell? ⟨g,5,none⟩=some (.bool D.off):=
 ⟨h.blk.cell (i:=0) rfl,h.blk.cell (i:=1) rfl,h.blk.cell (i:=2) rfl,h.blk.cell (i:=3) rfl,h.blk.cell (i:=4) rfl,h.blk.cell (i:=5) rfl⟩
def Same (w:World) (r:Value) (e:Ending) (w':World):Prop:=e= .returned r∧w=w'
theorem has_any (h:DiskAt B w g gd gn A c D) (i:Int):Calls Tryz.prog 76 #[.pointer (some ⟨g,0,none⟩), .int .i64 i] w (Same w (.bool (decide (0≤i) && decide (i < (D.dur.length:Int))))):=by
 obtain ⟨c0,-⟩:=disk_cells h
 obtain ⟨n,HN⟩:∃n,Hid (D.dur.length=n):=⟨_,hide rfl⟩
 rw [HN.out] at c0 ⊢
 clear h
 by_cases h0:0≤i
 ·by_cases h1:i < (n:Int)
  ·go_enter Tryz.func76,Tryz.ntmps76
   go_wp2
   go_ret
   exact ⟨by simp [h0,h1],rfl⟩
  ·go_enter Tryz.func76,Tryz.ntmps76
   go_wp2
   go_ret
   exact ⟨by simp [h0,h1],rfl⟩
 ·go_enter Tryz.func76,Tryz.ntmps76
  go_wp2
  go_ret
  exact ⟨by simp;omega,rfl⟩
def Dk.op (D:Dk):Dk:= { D with ops:=D.ops + 1,arm:=D.arm - 1,off:=D.off || decide (D.arm=1) }
def Dk.opE (D:Dk):Int:=if D.arm=1 then 8 else 0
theorem operate_any (h:DiskAt B w g gd gn A c D) (ho:D.ops < 1000000000) (ha:D.arm < 9223372036854775808):Calls Tryz.prog 77 #[.pointer (some ⟨g,0,none⟩)] w (DPost B g gd gn w A (.int .i64 D.opE) D.op):=by
 obtain ⟨-,-,-,c3,c4,c5⟩:=disk_cells h
 have f3:=h.blk.frozen 3
 have h1:=h.put 3 (.int .i64 ((D.ops:Int) + 1)) { D with ops:=D.ops + 1 } rfl rfl rfl
 have f4:=h1.blk.frozen 4
 obtain ⟨-,-,-,-,d4,d5⟩:=disk_cells h1
 simp only at d4 d5
 by_cases h0:D.arm=0
 ·have HL:Hid (DiskAt B (w.setCell ⟨g,3,none⟩ (.int .i64 ((D.ops:Int) + 1))) g gd gn A c D.op):=by
   have e:D.op= { D with ops:=D.ops + 1 }:=by unfold Dk.op;simp [h0]
   rw [e];exact h1
  have HE:Hid (D.opE=0):=by unfold Dk.opE;rw [if_neg (by omega)];exact hide rfl
  rw [HE.out]
  rw [h0] at d4 c4
  generalize D.op=D' at *
  generalize D.ops=q at *
  have hq:(q:Int) < 1000000000:=by omega
  clear h h1 h0 ha
  go_enter Tryz.func77,Tryz.ntmps77
  go_wp2
  go_ret
  exact ⟨A,c,rfl,HL.out,Dfr.cell 3 _,Newer.refl _ _⟩
 ·by_cases h3:D.arm=1
  ·have h2:=h1.put 4 (.int .i64 0) { D with ops:=D.ops + 1,arm:=0 } rfl rfl rfl
   have f5:=h2.blk.frozen 5
   obtain ⟨-,-,-,-,e4,e5⟩:=disk_cells h2
   have h4:=h2.put 5 (.bool true) D.op rfl rfl (by
    unfold Dk.op diskC
    simp [h3])
   have HL:=hide h4
   have HE:Hid (D.opE=8):=by unfold Dk.opE;rw [if_pos h3];exact hide rfl
   have k4:w.cell? ⟨g,4,none⟩=some (.int .i64 1):=by rw [c4,h3];rfl
   have l4:(w.setCell ⟨g,3,none⟩ (.int .i64 ((D.ops:Int) + 1))).cell? ⟨g,4,none⟩=some (.int .i64 1):=by rw [d4,h3];rfl
   have m4:((w.setCell ⟨g,3,none⟩ (.int .i64 ((D.ops:Int) + 1))).setCell ⟨g,4,none⟩ (.int .i64 0)).cell? ⟨g,4,none⟩=some (.int .i64 0):=e4
   rw [HE.out]
   generalize D.op=D' at *
   generalize D.ops=q at *
   have hq:(q:Int) < 1000000000:=by omega
   clear h h1 h2 h4 h0 h3 ha c4 d4 e4
   go_enter Tryz.func77,Tryz.ntmps77
   go_wp2
   go_ret
   exact ⟨A,c,rfl,HL.out,((Dfr.cell 3 _).trans (Dfr.cell 4 _) (Newer.refl _ _)).trans (Dfr.cell 5 _) (Newer.refl _ _),Newer.refl _ _⟩
  ·have h2:=h1.put 4 (.int .i64 ((D.arm:Int) - 1)) { D with ops:=D.ops + 1,arm:=D.arm - 1 } rfl rfl (by
    unfold diskC
    simp only [List.set_cons_succ,List.set_cons_zero]
    rw [show ((D.arm - 1:Nat):Int)=(D.arm:Int) - 1 by omega])
   have f5:=h2.blk.frozen 5
   obtain ⟨-,-,-,-,e4,e5⟩:=disk_cells h2
   simp only at e4 e5
   rw [show ((D.arm - 1:Nat):Int)=(D.arm:Int) - 1 by omega] at e4
   have HL:Hid (DiskAt B ((w.setCell ⟨g,3,none⟩ (.int .i64 ((D.ops:Int) + 1))).setCell ⟨g,4,none⟩ (.int .i64 ((D.arm:Int) - 1))) g gd gn A c D.op):=by
    have e:D.op= { D with ops:=D.ops + 1,arm:=D.arm - 1 }:=by unfold Dk.op;simp [h3]
    rw [e];exact h2
   have HE:Hid (D.opE=0):=by unfold Dk.opE;rw [if_neg h3];exact hide rfl
   rw [HE.out]
   generalize D.op=D' at *
   generalize D.ops=q at *
   generalize D.arm=m at *
   have hq:(q:Int) < 1000000000:=by omega
   have hm1:((m:Int)==0)=false:=by simpa using h0
   have hm2:(0:Int) < (m:Int) - 1:=by omega
   have hm4:IntKind.i64.wrap ((m:Int) - 1)=(m:Int) - 1:=by rw [IntKind.wrap_i64];omega
   have hm5:(2:Int)≤(m:Int):=by omega
   clear h h1 h2 h0 h3 ha
   go_enter Tryz.func77,Tryz.ntmps77
   have HM:=hide (show (1:Int) < (m:Int) by omega)
   go_upto_region 5 with (fail)
   clear hm1 hm2 hm5 hm4 hq ho c4 c3 c5 d5 f3 f4 d4
   have hm2:=HM.out
   go_wp2
   go_ret
   exact ⟨A,c,rfl,HL.out,(Dfr.cell 3 _).trans (Dfr.cell 4 _) (Newer.refl _ _),Newer.refl _ _⟩
end
def Dk.at (D:Dk) (i:Nat):List UInt8:=if lastP D.pen i=0 then D.dur.getD i [] else (D.pen.getD (lastP D.pen i - 1) (0, [])).2
def RPost (w:World) (l:List UInt8) (e:Ending) (w':World):Prop:=∃h,e= .returned (.tuple #[.slice (some ⟨h,0,none⟩) 512 512, .int .i64 0])∧Rw w' h 119 (bs l)∧w.heap.size≤h∧Ext w w'
theorem lastP_at:∀(n:Nat) (pen:List (Nat×List UInt8)) (i:Nat),pen.length=n→lastP pen i=0∨∃s,pen[lastP pen i - 1]? =some (i,s)∧lastP pen i≤pen.length∧1≤lastP pen i
 | 0,pen,i,h=>by
  have:pen= []:=List.length_eq_zero_iff.1 h
  subst this
  exact .inl rfl
 | n + 1,pen,i,h=>by
  rcases List.eq_nil_or_concat pen with rfl | ⟨p,x,rfl⟩
  ·cases h
  ·rw [List.concat_eq_append] at h ⊢
   simp only [List.length_append,List.length_cons,List.length_nil] at h
   rw [lastP_snoc]
   by_cases hx:x.1=i
   ·rw [if_pos hx]
    right
    obtain ⟨a,s⟩:=x
    simp only at hx
    subst hx
    exact ⟨s,by simp,by simp,by omega⟩
   ·rw [if_neg hx]
    rcases lastP_at n p i (by omega) with h0 | ⟨s,h1,h2,h3⟩
    ·exact .inl h0
    ·exact .inr ⟨s,by rw [List.getElem?_append_left (by omega)];exact h1,by simp;omega,h3⟩
theorem gives_alloc_z {P:Program} {o:Oper} {a:Act} {w:World} {R:Value→World→Prop} (ty:TypeId) (ho:o.op= .alloc ty) (cs:Array Value) (n:Nat) (hz:(P.info? ty).map (fun i=>(i.zero,i.size))=some (some (.agg cs),n))
  (hR:R (.pointer (some ⟨w.heap.size,0,none⟩)) (w.alloc (.cells cs ty))):gives P o a w R:=by
 have hz2:=(zero_of_info hz).1 w
 have he:(execOp a.eval o).run P w= .ok (.value (.pointer (some ⟨w.heap.size,0,none⟩))) (w.alloc (.cells cs ty)):=by simp [execOp,ho,hz2,newVar,newRow,newObj,Value.cells,go_sem];rfl
 exact gives_of_run he hR
theorem zeroSec:(Tryz.prog.info? 119).map (fun i=>(i.zero,i.size))=some (some (.agg (bs (List.replicate 512 0)).toArray),512):=by kernel_rfl
theorem sizeSec:(Tryz.prog.info? 119).map (·.size)=some 512:=by kernel_rfl
theorem run_all512 (g off:Nat) (w:World):(Instr.sliceAt 119 (.pointer (some ⟨g,off,none⟩)) none none none).run Tryz.prog w= .ok (.slice (some ⟨g,off,none⟩) 512 512) w:=by
 simp [go_sem,Tryz.underlying119]
theorem gives_cutall {P:Program} {o:Oper} {a:Act} {w:World} {R:Value→World→Prop} {x:Operand} {t:Nat} {u v:Value} (h:o.op= .slice t x none none none) (hx:a.eval x=u) (hrun:(Instr.sliceAt t u none none none).run P w= .ok v w) (hR:R v w):gives P o a w R:=by
 refine gives_of_run (w':=w) (v:=v) ?_ hR
 unfold execOp
 simp only [h,Option.map_none,hx,Sem.run_bind,hrun,Result.andThen_ok,Sem.run_pure]
section
variable {B g gd gn c:Nat} {w:World} {A:Option Addr} {D:Dk}
theorem read_any (h:DiskAt B w g gd gn A c D) (ok:D.Ok) (hoff:D.off=false) (hf:D.pen.length < 1000000000) (k:Nat) (hk:k < D.dur.length):Calls Tryz.prog 82 #[.pointer (some ⟨g,0,none⟩), .int .i64 (k:Int)] w (RPost w (D.at k)):=by
  obtain ⟨c0,c1,c2,-,-,c5⟩:=disk_cells h
  rw [hoff] at c5
  have KH:=has_any h (k:Int)
  rw [show (decide ((0:Int)≤(k:Int)) && decide ((k:Int) < (D.dur.length:Int)))=true by simp;omega] at KH
  obtain ⟨n,HN⟩:∃n,Hid (D.dur.length=n):=⟨_,hide rfl⟩
  rw [HN.out] at c0 c2 hk
  have hki:(k:Int) < (n:Int):=by omega
  have hki0:(0:Int)≤(k:Int):=by omega
  have H:=hide h
  have OK:=hide ok
  clear h ok hoff
  obtain ⟨s,hs⟩:∃s,D.dur[k]? =some s:=⟨_,List.getElem?_eq_getElem (by rw [HN.out];exact hk)⟩
  have hsl:s.length=512:=OK.out.dur s (List.mem_of_getElem? hs)
  have HC:Hid (∀j v,(bs s)[j]? =some v→w.cell? ⟨gd,k * 512 + j,none⟩=some v):=hide fun j v hj=>by
    refine H.out.dur.cell ?_
    rw [bs_get] at hj ⊢
    rw [flat_get OK.out.dur hs (by
      rcases Nat.lt_or_ge j 512 with h | h
      · exact h
      · rw [List.getElem?_eq_none (by omega)] at hj;cases hj)]
    exact hj
  obtain ⟨q,HQ⟩:∃q,Hid (lastP D.pen k=q):=⟨_,hide rfl⟩
  have HCN:Hid (w.cell? ⟨gn,k,none⟩=some (.int .i64 (q:Int))):=hide (H.out.new.cell (by rw [newL_get _ _ _ (by rw [HN.out];exact hk),HQ.out]))
  have HSL:=hide hsl
  have HS:=hide hs
  clear hs hsl
  by_cases hq:q=0
  · have HA:Hid (D.at k=s):=hide (by unfold Dk.at;rw [if_pos (by rw [HQ.out];exact hq),List.getD_eq_getElem?_getD,HS.out];rfl)
    rw [HA.out]
    have hqi:¬(0:Int) < (q:Int):=by omega
    clear hq
    go_enter Tryz.func82,Tryz.ntmps82
    go_wp2_with (first
      | (go_at_call 76;refine KH.mono ?_;rintro e w1 ⟨rfl,rfl⟩)
      | ((with_reducible show wpList _ _ _ (⟨some 27, .load _ _,_,_,_,_⟩::_) _ _);refine wpList_gives (gives_load_at 119 (.tmp 26) rfl gd (k * 512) rfl (bs s) 512 (agg_arr Tryz.underlying119 _) sizeSec (by rw [bs_length,HSL.out]) HC.out ⟨rfl,rfl⟩) rfl ?_)
      | ((with_reducible show wpList _ _ _ (⟨some 6, .alloc _,_,_,_,_⟩::_) _ _);refine wpList_gives (gives_alloc_z 119 rfl _ 512 zeroSec ⟨rfl,rfl⟩) rfl ?_)
      | ((with_reducible show wpList _ _ _ (⟨none, .store _ (.tmp 6) (.tmp 27),_,_,_,_⟩::_) _ _);
         refine wpList_store_rw rfl 119 (.tmp 6) (.tmp 27) rfl _ rfl (bs s) rfl 119 (bs (List.replicate 512 0)) (heap_alloc_new w _) 512 sizeSec (by rw [bs_length,HSL.out]) (by rw [bs_length,bs_length,HSL.out];simp) (List.all_eq_true.2 (bs_one _)) ?_;
         intro w3 hr3 hl3;
         have hx3:Ext w w3:=(Ext.alloc w _).laid hl3 (Nat.le_refl _);
         have HR3:=hide hr3;
         have k2:=(Ext.keeps hx3).cell c2;
         have kn:=(Ext.keeps hx3).cell HCN.out;clear hr3 hl3)
      | ((with_reducible show wpList _ _ _ (⟨some 46,_,_,_,_,_⟩::_) _ _);refine wpList_gives (gives_cutall rfl rfl (run_all512 _ _ _) ⟨rfl,rfl⟩) rfl ?_))
    go_ret2
    exact ⟨w.heap.size,rfl,HR3.out,Nat.le_refl _,hx3⟩
  · rcases lastP_at _ D.pen k rfl with h0 | ⟨d,hd,hle,hge⟩
    · rw [HQ.out] at h0;exact absurd h0 hq
    rw [HQ.out] at hd hle hge
    obtain ⟨p,rfl⟩:∃p,q=p + 1:=⟨q - 1,by omega⟩
    have hdl:d.length=512:=(OK.out.pen (k,d) (List.mem_of_getElem? hd)).2
    have HA:Hid (D.at k=d):=hide (by unfold Dk.at;rw [if_neg (by rw [HQ.out];exact hq),HQ.out,List.getD_eq_getElem?_getD,hd];rfl)
    rw [HA.out]
    obtain ⟨m,HM⟩:∃m,Hid (D.pen.length=m):=⟨_,hide rfl⟩
    obtain ⟨pb,hpb⟩:∃pb,A=some ⟨pb,0,none⟩:=by
      rcases H.out.pen.2 with ⟨_,h0⟩ | ⟨g',_,_,hv,_⟩
      · omega
      · injection hv with hv;exact ⟨g',hv⟩
    subst hpb
    have HCP:Hid (∀j v,(bs d)[j]? =some v→w.cell? ⟨pb,p * 513 + 1 + j,none⟩=some v):=hide fun j v hj=>by
      have h1:=H.out.pen.cells (g:=pb) rfl (p * 513 + (1 + j)) v (by
        unfold pensC
        rw [flat_get (m:=513) (pensC_lens OK.out.pens) (i:=p) (s:=penC (k,d)) (by rw [List.getElem?_map];simp only [Nat.add_sub_cancel] at hd;rw [hd];rfl) (by
          have:=(List.getElem?_eq_some_iff.1 hj).1
          rw [bs_length,hdl] at this
          omega)]
        unfold penC
        rw [Nat.add_comm 1 j]
        exact hj)
      rw [add_flat,Nat.zero_add,← Nat.add_assoc] at h1
      exact h1
    rw [HM.out] at c1 hle
    have HCN2:Hid (w.cell? ⟨gn,k,none⟩=some (.int .i64 ((p:Int) + 1))):=hide HCN.out
    have hpm:(p:Int) < (m:Int):=by omega
    have hpq:(p:Int) < 1000000000:=by have:=HM.out;omega
    have hp0:(0:Int)≤(p:Int):=by omega
    have hqi:(0:Int) < (p:Int) + 1:=by omega
    have HDL:=hide hdl
    have HP:=hide hpm
    clear hq hd hle hge hdl HCN
    go_enter Tryz.func82,Tryz.ntmps82
    go_wp2_with (first
      | (go_at_call 76;refine KH.mono ?_;rintro e w1 ⟨rfl,rfl⟩)
      | ((with_reducible show wpList _ _ _ (⟨some 27, .load _ _,_,_,_,_⟩::_) _ _);refine wpList_gives (gives_load_at 119 (.tmp 26) rfl gd (k * 512) rfl (bs s) 512 (agg_arr Tryz.underlying119 _) sizeSec (by rw [bs_length,HSL.out]) HC.out ⟨rfl,rfl⟩) rfl ?_)
      | ((with_reducible show wpList _ _ _ (⟨some 6, .alloc _,_,_,_,_⟩::_) _ _);refine wpList_gives (gives_alloc_z 119 rfl _ 512 zeroSec ⟨rfl,rfl⟩) rfl ?_)
      | ((with_reducible show wpList _ _ _ (⟨none, .store _ (.tmp 6) (.tmp 27),_,_,_,_⟩::_) _ _);
         refine wpList_store_rw rfl 119 (.tmp 6) (.tmp 27) rfl _ rfl (bs s) rfl 119 (bs (List.replicate 512 0)) (heap_alloc_new w _) 512 sizeSec (by rw [bs_length,HSL.out]) (by rw [bs_length,bs_length,HSL.out];simp) (List.all_eq_true.2 (bs_one _)) ?_;
         intro w3 hr3 hl3;
         have hx3:Ext w w3:=(Ext.alloc w _).laid hl3 (Nat.le_refl _);
         have HR3:=hide hr3;
         have k2:=(Ext.keeps hx3).cell c2;
         have k1:=(Ext.keeps hx3).cell c1;
         have kn:=(Ext.keeps hx3).cell HCN2.out;clear hr3 hl3)
      | ((with_reducible show wpList _ _ _ (⟨some 45, .load _ _,_,_,_,_⟩::_) _ _);refine wpList_gives (gives_load_at 119 (.tmp 44) rfl pb (p * 513 + 1) rfl (bs d) 512 (agg_arr Tryz.underlying119 _) sizeSec (by rw [bs_length,HDL.out]) (fun j v hj=>(Ext.keeps hx3).cell (HCP.out j v hj)) ⟨rfl,rfl⟩) rfl ?_)
      | ((with_reducible show wpList _ _ _ (⟨none, .store _ (.tmp 6) (.tmp 45),_,_,_,_⟩::_) _ _);
         refine wpList_store_rw rfl 119 (.tmp 6) (.tmp 45) rfl _ rfl (bs d) rfl 119 (bs s) HR3.out 512 sizeSec (by rw [bs_length,HDL.out]) (by rw [bs_length,bs_length,HDL.out,HSL.out]) (List.all_eq_true.2 (bs_one _)) ?_;
         intro w4 hr4 hl4;
         have hx4:Ext w w4:=hx3.laid hl4 (Nat.le_refl _);
         have HR4:=hide hr4;clear hr4 hl4)
      | ((with_reducible show wpList _ _ _ (⟨some 46,_,_,_,_,_⟩::_) _ _);refine wpList_gives (gives_cutall rfl rfl (run_all512 _ _ _) ⟨rfl,rfl⟩) rfl ?_))
    go_ret2
    exact ⟨w.heap.size,rfl,HR4.out,Nat.le_refl _,hx4⟩
theorem read_arg (h:DiskAt B w g gd gn A c D) (i:Int) (hi:i < 0∨(D.dur.length:Int)≤i):Calls Tryz.prog 82 #[.pointer (some ⟨g,0,none⟩), .int .i64 i] w (Same w (.tuple #[.slice none 0 0, .int .i64 1])):=by
 have KH:=has_any h i
 rw [show (decide ((0:Int)≤i) && decide (i < (D.dur.length:Int)))=false by simp;omega] at KH
 clear h hi
 go_enter Tryz.func82,Tryz.ntmps82
 go_wp2_with (go_at_call 76;refine KH.mono ?_;rintro e w1 ⟨rfl,rfl⟩)
 go_ret2
 exact ⟨rfl,rfl⟩
theorem read_off (h:DiskAt B w g gd gn A c D) (hoff:D.off=true) (i:Int) (h0:0≤i) (hi:i < (D.dur.length:Int)):Calls Tryz.prog 82 #[.pointer (some ⟨g,0,none⟩), .int .i64 i] w (Same w (.tuple #[.slice none 0 0, .int .i64 8])):=by
 have KH:=has_any h i
 rw [show (decide ((0:Int)≤i) && decide (i < (D.dur.length:Int)))=true by simp;omega] at KH
 obtain ⟨-,-,-,-,-,c5⟩:=disk_cells h
 rw [hoff] at c5
 clear h hoff h0 hi
 go_enter Tryz.func82,Tryz.ntmps82
 go_wp2_with (go_at_call 76;refine KH.mono ?_;rintro e w1 ⟨rfl,rfl⟩)
 go_ret2
 exact ⟨rfl,rfl⟩
end
end Go.Proofs.YthmdmgnhfhpcaaaGreatDoor

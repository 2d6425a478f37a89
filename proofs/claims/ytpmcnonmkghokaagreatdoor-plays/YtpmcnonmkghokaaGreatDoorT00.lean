import Derived.Test.YtpmcnonmkghokaaGreatDoorRows
import Derived.WalkKit
import Derived.WalkSpells
import Derived.WalkLawsBesides
import Derived.Deep.QuietTactic
import Derived.BigQuiet
import Derived.Deep.Trees
import Derived.BigRegion
set_option maxHeartbeats 4000000
set_option maxRecDepth 100000
set_option linter.unusedVariables false
set_option linter.unusedSimpArgs false
namespace Go.Proofs
open Go Go.RowKit
abbrev wu:=@lt_of_block
abbrev wQ:=@Option.bind_eq_some_iff
abbrev wJ:=@Nat.le_refl
abbrev wZ:=@cell_later
abbrev wX:=@List.getElem_mem
abbrev wW:=@Bool.and_eq_true
abbrev wY:=@List.length_append
abbrev wU:=@Bool.false_eq_true
abbrev wG:=@List.mem_append_left
abbrev wP:=@Below.heap_setCell
abbrev wB:=@World.ownsRow_nil
abbrev ru:=@List.mem_append
abbrev rQ:=@beq_iff_eq
abbrev rJ:=@Option.map_eq_some_iff
abbrev rZ:=@List.mem_append_right
abbrev rV:=@List.mem_cons_self
abbrev rW:=@Nat.zero_le
abbrev rY:=@bodyPost_ret
abbrev rU:=@Nat.le_trans
abbrev rG:=@List.mem_cons_of_mem
abbrev rP:=@results_cell_row
abbrev rD:=@List.getElem?_append_right
abbrev rC:=@Option.bind_some
abbrev rM:=@List.drop_eq_getElem_cons
abbrev tu:=@List.getElem?_cons_succ
abbrev tJ:=@World.size_alloc
abbrev tZ:=@List.getElem?_eq_some_iff
abbrev tX:=@Below.heap_alloc
abbrev tK:=@Classical.byContradiction
abbrev tV:=@decide_eq_true
abbrev tY:=@List.getElem?_eq_getElem
abbrev tC:=@List.getElem_of_mem
abbrev su:=@List.mem_flatMap
abbrev sQ:=@decide_eq_true_eq
abbrev sJ:=@Int.toNat_natCast
abbrev sZ:=@List.getElem?_cons_zero
abbrev sK:=@List.mem_singleton
abbrev sV:=@List.mem_map_of_mem
abbrev sW:=@List.mem_cons
abbrev sU:=@Nat.add_zero
abbrev sG:=@List.all_eq_true
abbrev sD:=@List.append_assoc
abbrev Qq:=@Int.eq_ofNat_of_zero_le
abbrev Qj:=@List.mem_map
abbrev Qz:=@List.length_cons
abbrev Qx:=@List.take_succ_eq_append_getElem
abbrev Qk:=@Bool.or_false
abbrev Qv:=@List.map_append
abbrev Qw:=@beq_eq_false_iff_ne
abbrev Qy:=@Nat.lt_of_lt_of_le
abbrev Qu:=@Bool.or_eq_true
abbrev Qg:=@List.append_nil
abbrev Qp:=@List.mem_of_getElem?
abbrev Qd:=@List.drop_length
abbrev Qc:=@List.nil_append
abbrev Qb:=@List.flatMap_cons
abbrev Qm:=@Bool.not_eq_true'
abbrev Qh:=@List.map_cons
abbrev Qr:=@Bool.false_or
abbrev Qn:=@List.flatMap_append
abbrev Ql:=@Bool.false_and
abbrev Qs:=@Nat.le_of_lt
abbrev Qo:=@List.getElem?_take_of_lt
abbrev Qa:=@List.not_mem_nil
abbrev Qe:=@List.length_map
abbrev Qi:=@List.getElem_cons_zero
abbrev QJ:=@List.foldl_append
abbrev QZ:=@List.append_eq_nil_iff
abbrev QX:=@List.getElem_append_left
abbrev QK:=@cell_of_row
abbrev QV:=@List.getElem?_map
abbrev QW:=@List.pairwise_append
abbrev QY:=@Bool.or_eq_false_iff
abbrev QU:=@Nat.zero_add
abbrev QG:=@List.drop_of_length_le
abbrev QD:=@List.cons_append
abbrev QC:=@Bool.true_and
abbrev QB:=@List.any_cons
abbrev QM:=@List.take_length
abbrev Q5:=@Bool.and_false
abbrev Q7:=@List.map_map
abbrev Q8:=@Nat.lt_or_ge
abbrev Q9:=@Bool.true_or
abbrev Jq:=@Array.getElem?_eq_none
abbrev Jj:=@List.pairwise_iff_getElem
abbrev Jz:=@Int.sub_zero
abbrev Jk:=@List.eq_nil_of_length_eq_zero
abbrev Jv:=@List.length_set
abbrev Jw:=@List.take_of_length_le
abbrev Jy:=@List.getElem_cons_succ
abbrev Ju:=@Bool.or_true
abbrev Jg:=@Bool.and_true
abbrev Jp:=@List.map_flatMap
abbrev Jd:=@List.getElem_map
abbrev Ji:=@List.setIfInBounds_toArray
abbrev Jc:=@Bool.not_false
abbrev Jb:=@List.length_replicate
abbrev Jm:=@List.sublist_append_right
abbrev Jh:=@List.length_nil
abbrev Jt:=@Bool.not_true
abbrev Jr:=@Array.length_toList
abbrev Jl:=@List.any_eq_true
abbrev Js:=@Bool.toNat_false
abbrev Jf:=@List.take_append_of_le_length
abbrev Jo:=@List.drop_append_of_le_length
abbrev JV:=@List.set_cons_succ
abbrev Ja:=@Array.getElem?_setIfInBounds
abbrev Je:=@Bool.or_assoc
abbrev JQ:=@List.getElem?_set_ne
abbrev JJ:=@List.length_take
abbrev JZ:=@List.getElem?_append_left
abbrev JX:=@List.nodup_cons
abbrev JK:=@List.foldl_cons
abbrev Zz:=@List.set_cons_zero
abbrev JW:=@List.getElem?_drop
abbrev JY:=@run_underlying
abbrev JU:=@List.nodup_append
abbrev JG:=@List.getElem_take
abbrev JD:=@List.getElem?_set_self
abbrev JC:=@List.pairwise_flatMap
abbrev JB:=@List.length_singleton
abbrev JM:=@List.getElem?_zipWith
abbrev J3:=@ByteArray.data_append
abbrev J4:=@wpList_append_own_at
abbrev J5:=@List.range_succ
abbrev J6:=@List.map_eq_flatMap
abbrev J7:=@List.drop_succ_cons
abbrev J8:=@ByteArray.toList_mk
abbrev J9:=@ByteArray.toList_eq
abbrev Zq:=@Array.toList_append
abbrev Zj:=@List.map_nil
abbrev Zx:=@List.drop_left
abbrev Zk:=@ByteArray.getElem_extract
abbrev Zv:=@List.sublist_append_left
abbrev Zw:=@List.nil_sublist
abbrev Zy:=@List.getElem?_replicate
abbrev Zu:=@List.append_inj'
abbrev Zg:=@List.any_nil
abbrev Zp:=@Bool.or_self
abbrev Zd:=@List.any_append
abbrev Zc:=@List.take_append_drop
abbrev Zb:=@List.getElem?_eq_none
abbrev Zm:=@World.cell?_of_block
abbrev Zh:=@Nat.mul_le_mul
abbrev Zt:=@List.mem_of_mem_take
abbrev Zr:=@List.take_succ_cons
abbrev Zn:=@frozen_of_row
abbrev Zl:=@Nat.add_sub_cancel
abbrev Zf:=@List.pairwise_cons
abbrev Zo:=@Bool.false_ne_true
abbrev Za:=@List.countP_cons
abbrev Ze:=@List.take_zero
abbrev Zi:=@List.nodup_nil
abbrev ZQ:=@Array.toList_setIfInBounds
abbrev ZJ:=@List.getElem_append_right
abbrev ZX:=@List.exists_mem_of_ne_nil
abbrev ZK:=@Nat.add_assoc
abbrev ZV:=@List.all_cons
abbrev ZW:=@Array.setIfInBounds_comm
abbrev ZY:=@List.pairwise_singleton
abbrev ZU:=@Nat.succ_mul
abbrev ZG:=@Nat.add_comm
abbrev ZP:=@List.map_set
abbrev ZC:=@ByteArray.size_append
abbrev ZB:=@Nat.mul_one
abbrev ZM:=@Nat.mul_le_mul_left
abbrev Z4:=@List.map_congr_left
abbrev Z5:=@Int.toNat_of_nonneg
end Go.Proofs
namespace Go.Proofs
open Go Go.RowKit
abbrev qJ:=Calls Tryz.prog
abbrev og:List UInt8:=[110,97,109,101]
abbrev oh:List UInt8:=[105,102]
abbrev oQ:List UInt8:=[100,105,103,105,116]
abbrev oJ:List UInt8:=[110,111,110,101]
abbrev oZ:List UInt8:=[118,97,114]
abbrev oK:List UInt8:=[112,108,97,99,101]
abbrev oV:List UInt8:=[107,105,110,100]
abbrev oW:List UInt8:=[115,101,116]
abbrev oU:List UInt8:=[119,111,114,100]
abbrev oG:List UInt8:=[116,114,117,101]
abbrev oP:List UInt8:=[102,97,108,115,101]
abbrev oD:List UInt8:=[114,117,108,101]
abbrev oC:List UInt8:=[101,108,115,101]
abbrev oM:List UInt8:=[110,101,118,101,114]
abbrev o7:List UInt8:=[116,114,117,116,104]
abbrev o8:List UInt8:=[116,111]
abbrev pJ:List UInt8:=[101,110,100]
abbrev pX:List UInt8:=[98,111,111,108]
abbrev pW:List UInt8:=[110,117,109,98,101,114]
abbrev pY:List UInt8:=[115,105,103,110]
abbrev pU(w w':World):=Below w.heap.size w w'
theorem aj{p:Prop}(h:p:=by omega):p:=h
theorem ak{p:Prop}(h:p:=by decide):p:=h
theorem ay{p:Prop}(h:p:=by simp;omega):p:=h
theorem au{p:Prop}(h:p:=by simp):p:=h
theorem ah{p:Prop}(h:p:=by kernel_rfl):p:=h
theorem eu{p:Prop}(h:p:=by go_num):p:=h
theorem gQ{p:Prop}(h:p:=by simp only[qq8,qq9,ku G,ku R,ku u,ku C,ku J,Jg,Q5,Ql,QC,wU,↓reduceIte]):p:=h
theorem gZ{p:Prop}(h:p:=by simp at e):p:=h
theorem gW{p:Prop}(h:p:=by unfold maxLen;omega):p:=h
theorem gY{p:Prop}(h:p:=by cases h):p:=h
theorem gU{p:Prop}(h:p:=by simp only;omega):p:=h
theorem iq{p:Prop}(h:p:=by simpa using hi):p:=h
theorem iw{p:Prop}(h:p:=by simpa using h):p:=h
theorem iy{p:Prop}(h:p:=by rw[qz9];cases X:J.2.bad<;>simp only[Js,Bool.toNat_true]<;>(try have:=E X)<;>(try rw[c]at K)<;>simp only[Js]at K<;>omega):p:=h
theorem ig{p:Prop}(h:p:=by have:=h (i+1) (by simpa using hi) (by omega);simpa using this):p:=h
theorem iQ{p:Prop}(h:p:=by simp[World.setCell];omega):p:=h
theorem iJ{p:Prop}(h:p:=by rw[ku E];rfl):p:=h
theorem iZ{p:Prop}(h:p:=by rw[hb]at h;cases h):p:=h
theorem iK{p:Prop}(h:p:=by rw[wP _ _ _ _ (show w.heap.size+1≠g by omega),wP _ _ _ _ (show w.heap.size+1≠g by omega)];exact h.st):p:=h
theorem iW{p:Prop}(h:p:=by rw[wP _ _ _ _ (show w.heap.size≠g by omega),wP _ _ _ _ (show w.heap.size≠g by omega)];exact h.ty):p:=h
theorem iY{p:Prop}(h:p:=by simp only[qq8,qq9,ku G,ku u,ku C,ku J,Jg,Q5,Ql,QC,wU,↓reduceIte]):p:=h
theorem iU{p:Prop}(h:p:=by simp only[qq8,qq9,ku G,ku R,ku u,ku C,Jg,Q5,Ql,QC,wU,↓reduceIte]):p:=h
theorem iG{p:Prop}(h:p:=by simp only[qq8,qq9,ku G,ku R,ku u,Jg,Q5,Ql,QC,wU,↓reduceIte]):p:=h
theorem iP{p:Prop}(h:p:=by rw[pz];simp[C]):p:=h
theorem iD{p:Prop}(h:p:=by rw[wY,Qv];exact jw f k5 (dw.none _) (by decide)):p:=h
theorem iC{p:Prop}(h:p:=by simp only[wY];omega):p:=h
theorem iM{p:Prop}(h:p:=by rw[hW];exact(below_alloc1 w _).trans ((below_alloc1 _ _).mono (by simp))):p:=h
theorem jQ{p:Prop}(h:p:=by rw[f];exact(below_alloc1 w _).trans ((below_alloc1 _ _).mono (by simp))):p:=h
theorem jZ{p:Prop}(h:p:=by rw[show ndC (10+tag)=1 by unfold ndC;rw[if_neg (by omega),if_pos (by omega)]];omega):p:=h
theorem jX{p:Prop}(h:p:=by rw[show ndC (tag+1)=2 by unfold ndC;rw[if_neg (by omega),if_neg (by omega)]];omega):p:=h
theorem jK{p:Prop}(h:p:=by have:=ku HV g Z;omega):p:=h
theorem jV{p:Prop}(h:p:=by first|exact Below.refl _ _|exact(Below.refl _ _).drew):p:=h
theorem jW{p:Prop}(h:p:=by intro i hi;have h9:=ku a2 i hi;exact wZ (below_drewN (below_alloc1 _ _) _) h9):p:=h
theorem jY{p:Prop}(h:p:=by rw[b.block k (wu hh) (not_row c hh a)];exact hh):p:=h
theorem jU{p:Prop}(h:p:=by rw[JJ];omega):p:=h
theorem jG{p:Prop}(h:p:=by unfold ndC;rw[if_pos (by omega)]):p:=h
theorem jP{p:Prop}(h:p:=by rw[kzx rfl rfl];unfold zj0;rw[hn];rfl):p:=h
theorem jD{p:Prop}(h:p:=by subst e;exact⟨pa,pn,pc,gp,ba,bn,bc,bcs,⟨rfl,rfl,rfl,rfl,rfl⟩,h1,h2,h3,h4⟩):p:=h
theorem jC{p:Prop}(h:p:=by rw[hW];simp):p:=h
theorem jB{p:Prop}(h:p:=by rw[rQ];exact h x (rV ..)):p:=h
theorem jM{p:Prop}(h:p:=by have:=qk7 (L:=L) (st:=s) (λs=>kk2 L g 0 s) (λs hb=>qk6 hb g 0) hb;omega):p:=h
theorem kQ{p:Prop}(h:p:=by rw[wY];omega):p:=h
theorem kJ{p:Prop}(h:p:=by simp only;rw[wY];exact jq st f):p:=h
theorem kZ{p:Prop}(h:p:=by rw[m];exact(below_alloc1 w _).trans ((below_alloc1 _ _).mono (by simp))):p:=h
theorem kX{p:Prop}(h:p:=by cases e):p:=h
theorem kK{p:Prop}(h:p:=by rw[extract_size _ _ _ (wJ _)];omega):p:=h
theorem kV{p:Prop}(h:p:=by unfold kz7;split<;>simp):p:=h
theorem kW{p:Prop}(h:p:=by rw[QK _ _ _ _ _ _ a];rfl):p:=h
theorem kY{p:Prop}(h:p:=by exfalso;unfold ndC at hf;split at hf<;>(try split at hf)<;>omega):p:=h
theorem kU{p:Prop}(h:p:=by simp[results,Tryz.results106,go_sem,kx2,zf]):p:=h
theorem kG{p:Prop}(h:p:=by simp only[kq4]at D;omega):p:=h
theorem kP{p:Prop}(h:p:=by simp only[kq4]at z;omega):p:=h
theorem kD{p:Prop}(h:p:=by simp only[kq4]at h;omega):p:=h
theorem kC{p:Prop}(h:p:=by rw[c.block k (wu hh) (not_row d hh (by decide))];exact hh):p:=h
theorem kM{p:Prop}(h:p:=by have:=ku HV g F;omega):p:=h
theorem lq{p:Prop}(h:p:=by simpa using a):p:=h
theorem lu{p:Prop}(h:p:=by rw[show zz0.toList=[33] from jv _];rfl):p:=h
theorem lg{p:Prop}(h:p:=by rw[rQ];exact a):p:=h
theorem lQ{p:Prop}(h:p:=by obtain⟨cs,q1,q2⟩:=A;exact⟨cs,zu (rW _) q1,q2⟩):p:=h
theorem lJ{p:Prop}(h:p:=by simpa using c):p:=h
theorem lZ{p:Prop}(h:p:=by simp[dgB,zq2,Go.Lib.join,kw9,List.intercalate,List.intersperse]):p:=h
theorem lX{p:Prop}(h:p:=by rw[wY,Qe,Qz];omega):p:=h
theorem lK{p:Prop}(h:p:=by rw[e,sD]):p:=h
theorem lV{p:Prop}(h:p:=by intro e;injection e with e;exact G e):p:=h
theorem lW{p:Prop}(h:p:=by simp at hi):p:=h
theorem lY{p:Prop}(h:p:=by simpa using b):p:=h
theorem lU{p:Prop}(h:p:=by rw[IntKind.wrap_i64];omega):p:=h
theorem lG{p:Prop}(h:p:=by have:=ku m;rw[h1]at this;exact this):p:=h
theorem lD{p:Prop}(h:p:=by rw[pz];simp[B]):p:=h
theorem lC{p:Prop}(h:p:=by simp[Addr.add];intro h;exact h.symm):p:=h
theorem lM{p:Prop}(h:p:=by rw[kjz hb,hb]at h;cases h):p:=h
theorem l9{p:Prop}(h:p:=by unfold qjf at a;simp at a;exact a.1):p:=h
theorem mJ{p:Prop}(h:p:=by rw[<-k];unfold opT;rw[o];rfl):p:=h
theorem mZ{p:Prop}(h:p:=by rw[m,o];rfl):p:=h
theorem mX{p:Prop}(h:p:=by rw[hW];exact qg _ _):p:=h
theorem mW{p:Prop}(h:p:=by first|rfl|trivial):p:=h
theorem mY{p:Prop}(h:p:=by unfold jd;split<;>omega):p:=h
theorem mG{p:Prop}(h:p:=by have:=f.size;simp at this;omega):p:=h
theorem mD{p:Prop}(h:p:=by rw[wY];exact ku U):p:=h
theorem ny{p:Prop}(h:p:=by rw[Lib.byteCells_length];omega):p:=h
theorem ng{p:Prop}(h:p:=by rw[rQ];exact e):p:=h
theorem ni{p:Prop}(h:p:=by simpa using d):p:=h
theorem nJ{p:Prop}(h:p:=by rw[if_neg (by decide)]):p:=h
theorem nZ{p:Prop}(h:p:=by simpa using wu (ku a6)):p:=h
theorem nX{p:Prop}(h:p:=by have:=S _ e;simp at this;omega):p:=h
theorem nK{p:Prop}(h:p:=by rw[<-qq0];exact hi):p:=h
theorem nV{p:Prop}(h:p:=by simp[kqo]at hi;omega):p:=h
theorem nY{p:Prop}(h:p:=by have:=t _ e.symm;omega):p:=h
theorem nU{p:Prop}(h:p:=by rw[hW];exact below_alloc1 w _):p:=h
theorem nG{p:Prop}(h:p:=by rw[ku Y,a1,a2];rfl):p:=h
theorem nP{p:Prop}(h:p:=by simp only[kjd];omega):p:=h
theorem nD{p:Prop}(h:p:=by unfold gy;omega):p:=h
theorem nC{p:Prop}(h:p:=by rw[b,a];rfl):p:=h
theorem nM{p:Prop}(h:p:=by rw[m];rfl):p:=h
theorem oq{p:Prop}(h:p:=by rw[kjz hb,kjz hb]):p:=h
theorem oz{p:Prop}(h:p:=by rw[e];rfl):p:=h
theorem ou{p:Prop}(h:p:=by simpa using e):p:=h
theorem qQ{p:Prop}(h:p:=by simp[intOf];omega):p:=h
end Go.Proofs
namespace Go.Proofs.YtpmcnonmkghokaaGreatDoor
open Go.Proofs.Tryz
open Go.RowKit
variable {cs:Array Value}{s:ByteArray}{hi lo:Int}{xs:List Value}{R b base e f i j k n size:Nat}{p:Prop}{t:TypeId}{u v x y z:Value}{a w w':World}
theorem pG (h:p):Hid p:=h
theorem ku (h:Hid p):p:=h
theorem getD_at {α:Type}(l:List α)(k:Nat)(d:α)(h:k<l.length):l.getD k d=l[k]:=by
 simp[List.getD,h]
theorem jf {a b:Bool}(h:a=b):Ending.returned (.bool a)=.returned (.bool b):=by rw[h]
theorem kqv {k:IntKind}{a b:Int}(h:a=b):Ending.returned (.int k a)=.returned (.int k b):=by rw[h]
def puts (b:Nat):List Value->Nat->World->World
 |[],_,w=>w
 |y::ys,k,w=>puts b ys (k+1) (w.setCell ⟨b,k,none⟩ y)
def pjj:List Value->Nat->Array Value->Array Value
 |[],_,cs=>cs
 |y::ys,k,cs=>pjj ys (k+1) (cs.setIfInBounds k y)
theorem pq9 {b:Nat}{t:TypeId}:∀(ys:List Value) (k:Nat) {w:World} {cs:Array Value},w.heap[b]?=some (.cells cs t (0,0))->(puts b ys k w).heap[b]?=some (.cells (pjj ys k cs) t (0,0))
 |[],_,_,_,h=>h
 |y::ys,k,w,cs,h=>pq9 ys (k+1) (heap_setCell_same _ b k _ _ _ h)
theorem zqe {cs': Array Value}  (a:List Value)(k:Nat)(h:w.heap[b]?=some (.cells cs t (0,0)))(e:some (Obj.cells (pjj a k cs) t (0,0))=some (.cells cs' t (0,0)):=by kernel_rfl):(puts b a k w).heap[b]?=some (.cells cs' t (0,0)):=(pq9 a k h).trans e
theorem qxu {B b:Nat}{a:World}(hb:B<=b):∀(ys:List Value) (k:Nat) {w:World},Below B a w->Below B a (puts b ys k w)
 |[],_,_,h=>h
 |y::ys,k,w,h=>qxu hb ys (k+1) (h.setCell hb y)
theorem zyd {b lo e size:Nat}{v:Value}{n:Nat}{xs:List Value}(hb:v.ownBlock≠some b):∀(ys:List Value) (k:Nat) {w:World},w.ownsRow lo e size v n xs->(puts b ys k w).ownsRow lo e size v n xs
 |[],_,_,h=>h
 |y::ys,k,w,h=>zyd hb ys (k+1) (ownsRow_setCell_other h hb y)
abbrev Ce (w:World)(b i:Nat)(x:Value):Prop:=w.cell? ⟨b,i,none⟩=some x
abbrev Fr (w:World)(b i:Nat):Prop:=w.frozen? ⟨b,i,none⟩=false
theorem rc (h:w.heap[b]?=some (.cells cs t (0,0)))(i:Nat):w.cell? ⟨b,i,none⟩=cs[i]?:=QK w b i _ _ _ h
theorem rf (h:w.heap[b]?=some (.cells cs t (0,0)))(i:Nat):w.frozen? ⟨b,i,none⟩=false:=Zn w b i _ _ h
theorem row3 (h:w.heap[b]?=some (.cells #[x,y,z] t (0,0))):
  Ce w b 0 x/\Ce w b 1 y/\Ce w b 2 z/\Fr w b 0/\Fr w b 1/\Fr w b 2:=
 ⟨rc h 0,rc h 1,rc h 2,rf h 0,rf h 1,rf h 2⟩
def inB (lo hi:Int)(s:ByteArray)(i:Nat):Bool:=if h:i<s.size then decide (lo<=((s[i]).toNat:Int))&&decide (((s[i]).toNat:Int)<=hi) else false
def kz5 (s:ByteArray)(i:Nat):Bool:=inB 97 122 s i
def kz1 (s:ByteArray)(i:Nat):Bool:=inB 48 57 s i
theorem qkb (h:¬i<s.size):inB lo hi s i=false:=by simp[inB,h]
theorem vvy (h:i<s.size)(h1:((s[i]).toNat:Int)<lo):inB lo hi s i=false:=by
 simp[inB,h];omega
theorem vvu (h:i<s.size)(h1:lo<=((s[i]).toNat:Int)):inB lo hi s i=decide (((s[i]).toNat:Int)<=hi):=by
 simp[inB,h,h1]
theorem qqu (s:ByteArray)(k:Int)(w:World)(a:0<=k)(b:k<=1000)(c:s.size<=800):
  qJ 173 #[.string s,.int .i64 k] w λe w'=>e=.returned (.bool (kz5 s k.toNat))/\w'=w:=by
 obtain⟨n,rfl⟩:=Qq a;rw[sJ];by_cases h:n<s.size
 ·go_enter func173,ntmps173
  go_wp2
  ·go_ret
   exact⟨jf (vvu h ‹_›).symm,rfl⟩
  ·go_ret
   exact⟨jf (vvy h ‹_›).symm,rfl⟩
 ·go_enter func173,ntmps173
  go_wp2
  go_ret
  exact⟨jf (qkb h).symm,rfl⟩
theorem qzr (s:ByteArray)(k:Int)(w:World)(a:0<=k)(b:k<=1000)(c:s.size<=800):
  qJ 174 #[.string s,.int .i64 k] w λe w'=>e=.returned (.bool (kz1 s k.toNat))/\w'=w:=by
 obtain⟨n,rfl⟩:=Qq a;rw[sJ];by_cases h:n<s.size
 ·go_enter func174,ntmps174
  go_wp2
  ·go_ret
   exact⟨jf (vvu h ‹_›).symm,rfl⟩
  ·go_ret
   exact⟨jf (vvy h ‹_›).symm,rfl⟩
 ·go_enter func174,ntmps174
  go_wp2
  go_ret
  exact⟨jf (qkb h).symm,rfl⟩
theorem jjh (b o cap:Nat)(ls:List ByteArray)(s:ByteArray)(w:World)(q:ls.length<=100)
  (g:∀i,i<ls.length->w.cell? ⟨b,o+i,none⟩=some (.string (ls.getD i ByteArray.empty))):
  qJ 136 #[.slice (some ⟨b,o,none⟩) ls.length cap,.string s] w λe w'=>e=.returned (.bool (ls.any (λt=>t.toList==s.toList)))/\w'=w:=by
 go_enter func136,ntmps136
 go_wp2
 go_loop [5] (λi=>∃k:Nat,k<=ls.length/\i=.int .i64 k/\(ls.take k).any (λt=>t.toList==s.toList)=false) (λi=>ls.length-(intOf i).toNat)
 case atStart=>exact⟨0,rW _,rfl,au⟩
 case round=>
  obtain⟨k,p,rfl,l⟩:=hrel;have d:Hid ((ls.take k).any (λt=>t.toList==s.toList)=false):=l;by_cases a:k<ls.length
  ·have h:=g k a;obtain⟨t,c⟩:∃t,t=ls.getD k ByteArray.empty:=⟨_,rfl⟩;rw[<-c]at h;have f:Hid (t=ls.getD k ByteArray.empty):=c;clear c g;go_wp2
   ·go_ret
    refine⟨jf ?_,rfl⟩;have h1:(t.toList==s.toList)=true:=by assumption
    symm
    rw[Jl];refine⟨t,?_,h1⟩;rw[f.out,getD_at _ _ _ a];exact wX a
   ·have h1:(t.toList==s.toList)=false:=by assumption
    have m:(ls[k].toList==s.toList)=false:=by
     have:=f.out;rw[getD_at _ _ _ a]at this;rw[<-this];exact h1
    go_round
    case rel=>exact⟨k+1,aj,eu,by rw[Qx a,Zd,d.out];simp only[QB,m];rfl⟩
    case measure=>exact qQ
  ·go_wp2
   go_ret
   have j:=d.out;rw[Jw aj]at j;exact⟨jf j.symm,rfl⟩
def kv5:Nat->ByteArray->Nat->Nat
 |0,_,i=>i
 |f+1,s,i=>if kz5 s i then kv5 f s (i+1) else i
theorem jjd (h:kz5 s i=true):i<s.size:=by
 unfold kz5 inB at h;by_cases a:i<s.size
 ·exact a
 ·simp[a]at h
theorem zx1 {s:ByteArray}{n:Nat}(hn:kz5 s n=false):∀(f k:Nat),k<=n->n-k<f->(∀j,k<=j->j<n->kz5 s j=true)->kv5 f s k=n
 |0,k,_,h,_=>aj
 |f+1,k,hk,h,hall=>by
  rw[kv5];by_cases e:k=n
  ·subst e;simp[hn]
  ·rw[if_pos (hall k (wJ _) aj)];exact zx1 hn f (k+1) aj aj (λj h1 a=>hall j aj a)
def qzi:List ByteArray:=[⟨#[115,101,116]⟩,⟨#[107,105,110,100]⟩,⟨#[118,97,114]⟩,⟨#[98,111,111,108]⟩,⟨#[116,111]⟩,⟨#[114,117,108,101]⟩,⟨#[105,102]⟩,⟨#[101,108,115,101]⟩,⟨#[110,101,118,101,114]⟩,⟨#[116,114,117,101]⟩,⟨#[102,97,108,115,101]⟩,⟨#[110,111,110,101]⟩]
def qk4 (s:ByteArray):Bool:=qzi.any (λt=>t.toList==s.toList)
structure Tok where
 kind:ByteArray
 text:ByteArray
 at_:Nat
variable {L acc:List Tok}
def kx2 (t:Tok):Value:=.agg #[.string t.kind,.string t.text,.int .i64 t.at_]
def jr (t:Tok):List Value:=[.string t.kind,.string t.text,.int .i64 t.at_]
def jqj:ByteArray:=⟨#[119,111,114,100]⟩
def zzv:ByteArray:=⟨#[110,97,109,101]⟩
def kyp:ByteArray:=⟨#[100,105,103,105,116]⟩
def zq1:ByteArray:=⟨#[115,105,103,110]⟩
def pjf:ByteArray:=⟨#[101,110,100]⟩
def qw8:ByteArray:=⟨#[]⟩
def kks:ByteArray:=⟨#[40,41,91,93,123,125,58,59,44,33,38,124,43,45,60,61]⟩
def qjf (s:ByteArray)(k:Nat):Bool:=decide (k+1<s.size)&&((s.extract k (k+2)).toList==[61,61]||(s.extract k (k+2)).toList==[33,61])
def qja (s:ByteArray)(k:Nat):Bool:=kks.toList.any (λc=>c.toNat==(s.get! k).toNat)
def uy (s:ByteArray)(k:Nat):Tok:=
 if kz5 s k then
  let t:=s.extract k (kv5 801 s k)
  {kind:=if qk4 t then jqj else zzv,text:=t,at_:=k}
 else if kz1 s k then {kind:=if kz1 s (k+1) then qw8 else kyp,text:=s.extract k (k+1),at_:=k}
 else if qjf s k then {kind:=zq1,text:=s.extract k (k+2),at_:=k}
 else {kind:=if qja s k then zq1 else qw8,text:=s.extract k (k+1),at_:=k}
theorem vzh (b:Nat)(s:ByteArray)(w:World)(a:∀i,i<12->w.cell? ⟨b,0+i,none⟩=some (.string (qzi.getD i ByteArray.empty))):
  qJ 136 #[.slice (some ⟨b,0,none⟩) 12 12,.string s] w λe w'=>e=.returned (.bool (qk4 s))/\w'=w:=
 jjh b 0 12 qzi s w ak a
theorem jvt (s:ByteArray)(k:Nat)(w:World)(y:k<s.size)(f:s.size<=800)(d:kz5 s k=true):
  qJ 101 #[.string s,.int .i64 k] w λe w'=>e=.returned (kx2 (uy s k))/\pU w w':=by
 go_enter func101,ntmps101
 go_wp2_with (first|(go_at_call 173;refine(qqu s k _ aj aj f).mono ?_;rintro e w' ⟨rfl,rfl⟩;rw[sJ,d])|(go_at_call 174;refine(qzr s k _ aj aj f).mono ?_;rintro e w' ⟨rfl,rfl⟩))
 go_loop [9,10] (λn m=>∃j:Nat,k<=j/\j<=s.size/\n=.int .i64 j/\m=.bool (kz5 s j)/\∀i,k<=i->i<j->kz5 s i=true) (λn _=>s.size-(intOf n).toNat)
 case atStart=>exact⟨k,wJ _,aj,rfl,by rw[d],λi h1 q=>aj⟩
 case round=>
  obtain⟨j,l,x,rfl,rfl,a⟩:=hrel;have h:Hid (∀i,k<=i->i<j->kz5 s i=true):=a;clear a;cases c:kz5 s j
  ·go_wp2_with fail
   refine(vzh (w.heap.size+1) (s.extract k j) _ ?_).mono ?_
   ·intro i hi;have:i=0\/i=1\/i=2\/i=3\/i=4\/i=5\/i=6\/i=7\/i=8\/i=9\/i=10\/i=11:=aj;rcases this with rfl|rfl|rfl|rfl|rfl|rfl|rfl|rfl|rfl|rfl|rfl|rfl<;>simp[go_sem,qzi]
   ·rintro e w' ⟨rfl,rfl⟩;have b:kv5 801 s k=j:=zx1 c 801 k l aj h.out;cases t:qk4 (s.extract k j);all_goals
     have g:uy s k={kind:=if qk4 (s.extract k j) then jqj else zzv,text:=s.extract k j,at_:=k}:=by simp[uy,d,b]
     rw[t]at g;have p:=pG g;clear g b;go_wp2
     refine rY (v:=kx2 (uy s k)) (by rw[ku p];simp[results,results101,go_sem,kx2,jqj,zzv]) rfl ⟨rfl,?_⟩;exact(((Below.refl _ _).alloc au _).alloc au _).alloc ay _
  ·have u:=jjd c;go_wp2_with (first|(go_at_call 173;refine(qqu s (j+1) _ aj aj f).mono ?_;rintro e w' ⟨rfl,rfl⟩))
   go_round
   case rel=>exact⟨j+1,aj,aj,eu,rfl,λi h1 q=>if e:i=j then e▸c else h.out i h1 aj⟩
   case measure=>exact qQ
theorem jzr (s:ByteArray)(k:Nat)(w:World)(g:k<s.size)(a:s.size<=800)(c:kz5 s k=false)(b:kz1 s k=true):
  qJ 101 #[.string s,.int .i64 k] w λe w'=>e=.returned (kx2 (uy s k))/\pU w w':=by
 have d:uy s k={kind:=if kz1 s (k+1) then qw8 else kyp,text:=s.extract k (k+1),at_:=k}:=by simp[uy,c,b]
 have f:=pG d;clear d;go_enter func101,ntmps101
 go_wp2_with fail
 refine(qqu s k _ aj aj a).mono ?_;rintro e w' ⟨rfl,rfl⟩;rw[sJ,c];go_wp2_with fail
 refine(qzr s k _ aj aj a).mono ?_;rintro e w' ⟨rfl,rfl⟩;rw[sJ,b];go_wp2_with fail
 refine(qzr s (k+1) _ aj aj a).mono ?_;rintro e w' ⟨rfl,rfl⟩;rw[show((k:Int)+1).toNat=k+1 from aj];cases h1:kz1 s (k+1);all_goals
  go_wp2
  refine rY (v:=kx2 (uy s k)) (by rw[ku f,h1];simp[results,results101,go_sem,kx2,qw8,kyp]) rfl ⟨rfl,?_⟩;exact(((Below.refl _ _).alloc au _).alloc au _).alloc ay _
theorem vjz (s:ByteArray)(k:Nat)(w:World)(m:k<s.size)(f:s.size<=800)(d:kz5 s k=false)(c:kz1 s k=false)(a:qjf s k=true):
  qJ 101 #[.string s,.int .i64 k] w λe w'=>e=.returned (kx2 (uy s k))/\pU w w':=by
 have g:uy s k={kind:=zq1,text:=s.extract k (k+2),at_:=k}:=by simp[uy,d,c,a]
 have h:=pG g;clear g;have j:k+1<s.size:=l9;have b:((s.extract k (k+2)).toList==[61,61])=true\/((s.extract k (k+2)).toList==[61,61])=false/\((s.extract k (k+2)).toList==[33,61])=true:=by
  unfold qjf at a;rw[wW,Qu]at a;cases i:((s.extract k (k+2)).toList==[61,61])
  ·exact Or.inr ⟨rfl,by simpa[i] using a.2⟩
  ·exact Or.inl rfl
 clear a;rcases b with b|⟨b,l⟩;all_goals
  go_enter func101,ntmps101
  go_wp2_with fail
  refine(qqu s k _ aj aj f).mono ?_;rintro e w' ⟨rfl,rfl⟩;rw[sJ,d];go_wp2_with fail
  refine(qzr s k _ aj aj f).mono ?_;rintro e w' ⟨rfl,rfl⟩;rw[sJ,c];go_wp2
  refine rY (v:=kx2 (uy s k)) (by rw[ku h];simp[results,results101,go_sem,kx2,zq1]) rfl ⟨rfl,?_⟩;exact(((Below.refl _ _).alloc au _).alloc au _).alloc ay _
theorem jkf (s:ByteArray)(k:Nat)(h:k<s.size):s.get! k=s[k]:=by
 simp only[ByteArray.get!,ByteArray.getElem_eq_getElem_data];exact getElem!_pos s.data k h
theorem zy3 (j:Nat)(h:j<16):kks.toList.take (j+1)=kks.toList.take j++[kks[j]'(by show j<16;exact h)]:=by
 have a:j<kks.toList.length:=by rw[J9];exact h
 rw[Qx a];congr 2
 simp only[J9];rfl
theorem vk4 (b:k<s.size)(a:j<16)(h:((((⟨#[40,41,91,93,123,125,58,59,44,33,38,124,43,45,60,61]⟩:ByteArray)[j]'(by show j<16;exact a)).toNat:Int)==((s[k]).toNat:Int))=true):qja s k=true:=by
 unfold qja;have e:((kks[j]'(by show j<16;exact a)).toNat==(s.get! k).toNat)=true:=by
  rw[jkf s k b,rQ];rw[rQ]at h;exact Int.ofNat_inj.mp h
 rw[<-Zc (j+1) kks.toList,Zd,zy3 j a,Zd];simp[e]
theorem vjd (b:k<s.size)(a:j<16)(h:((((⟨#[40,41,91,93,123,125,58,59,44,33,38,124,43,45,60,61]⟩:ByteArray)[j]'(by show j<16;exact a)).toNat:Int)==((s[k]).toNat:Int))=false)
  (hn:(kks.toList.take j).any (λc=>c.toNat==(s.get! k).toNat)=false):(kks.toList.take (j+1)).any (λc=>c.toNat==(s.get! k).toNat)=false:=by
 have e:((kks[j]'(by show j<16;exact a)).toNat==(s.get! k).toNat)=false:=by
  rw[jkf s k b,Qw];rw[Qw]at h;exact λx=>h (Int.ofNat_inj.mpr x)
 rw[zy3 j a,Zd,hn];simp only[QB,e];rfl
theorem vk5 (a:¬j<16)(hn:(kks.toList.take j).any (λc=>c.toNat==(s.get! k).toNat)=false):qja s k=false:=by
 rw[Jw (by rw[J9];show 16<=j;omega)]at hn;exact hn
def vwx (w:World)(s:ByteArray)(k:Nat)(wr:World):Prop:=
 wr.heap[w.heap.size]?=some (.cells #[.string ⟨#[]⟩,.string ⟨#[]⟩,.int .i64 0] 142 (0,0)) /\
 wr.heap[w.heap.size+1+1]?=some (.cells #[.string ⟨#[115,105,103,110]⟩,.string (s.extract k (k+1)),.int .i64 k] 142 (0,0)) /\
 pU w wr
theorem jqi (w:World)(s:ByteArray)(k:Nat){o:Obj}:vwx w s k (((w.alloc (.cells #[.string ⟨#[]⟩,.string ⟨#[]⟩,.int .i64 0] 142)).alloc o).alloc (.cells #[.string ⟨#[115,105,103,110]⟩,.string (s.extract k (k+1)),.int .i64 k] 142)):=by
 refine⟨?_,?_,((((Below.refl w.heap.size w).alloc au _).alloc au _).alloc ay _)⟩
 ·rw[tX _ _ _ ay,tX _ _ _ au,heap_alloc_new]
 ·have:=heap_alloc_new ((w.alloc (.cells #[.string ⟨#[]⟩,.string ⟨#[]⟩,.int .i64 0] 142)).alloc o) (.cells #[.string ⟨#[115,105,103,110]⟩,.string (s.extract k (k+1)),.int .i64 k] 142);simpa using this
theorem jvr (s:ByteArray)(k:Nat)(w:World)(y:k<s.size)(A:s.size<=800)(z:kz5 s k=false)(x:kz1 s k=false)(d:qjf s k=false):
  qJ 101 #[.string s,.int .i64 k] w λe w'=>e=.returned (kx2 (uy s k))/\pU w w':=by
 have B:uy s k={kind:=if qja s k then zq1 else qw8,text:=s.extract k (k+1),at_:=k}:=by simp[uy,z,x,d]
 have t:=pG B;clear B;have h:¬(k+1<s.size)\/k+1<s.size/\((s.extract k (k+2)).toList==[61,61])=false/\((s.extract k (k+2)).toList==[33,61])=false:=by
  unfold qjf at d;by_cases p:k+1<s.size
  ·refine Or.inr ⟨p,?_⟩;simpa[p] using d
  ·exact Or.inl p
 clear d;rcases h with h|⟨h,G,H⟩;all_goals
  go_enter func101,ntmps101
  go_wp2_with fail
  refine(qqu s k _ aj aj A).mono ?_;rintro e w' ⟨rfl,rfl⟩;rw[sJ,z];go_wp2_with fail
  refine(qzr s k _ aj aj A).mono ?_;rintro e w' ⟨rfl,rfl⟩;rw[sJ,x];go_wp2
  go_loopw [14] (λi wr=>∃j:Nat,j<=16/\i=.int .i64 j/\(kks.toList.take j).any (λc=>c.toNat==(s.get! k).toNat)=false/\vwx w s k wr) (λi _=>16-(intOf i).toNat)
  case atStart=>exact⟨0,aj,rfl,au,jqi w s k⟩
  case round=>
   obtain⟨j,I,rfl,f,l,m,a⟩:=hrel;have q:=pG f;have g:=pG a;obtain⟨J,K,L,f0,f1,f2⟩:=row3 l;obtain⟨c0,c1,c2,D,E,F⟩:=row3 m;have C:=pG l;have u:=pG m;clear f a l m;by_cases b:j<16
   ·go_wp2
    go_quiet (fail)
    go_wp2
    ·refine rY (v:=kx2 (uy s k)) (by rw[ku t,vk4 y b ‹_›];simp[results,results101,go_sem,kx2,zq1, *]) rfl ⟨rfl,?_⟩;exact((((below_drewN (ku g) _).setCell (wJ _) _).setCell (wJ _) _).setCell (wJ _) _)
    ·have R:=vjd y b ‹_› (ku q);go_roundw
     case rel=>exact⟨j+1,aj,eu,R,ku C,ku u,below_drewN (ku g) _⟩
     case measure=>exact qQ
   ·go_wp2
    refine rY (v:=kx2 (uy s k)) (by rw[ku t,vk5 b (ku q)];simp[results,results101,go_sem,kx2,qw8, *]) rfl ⟨rfl,?_⟩;exact(((((ku g).setCell ay _).setCell (wJ _) _).setCell (wJ _) _).setCell (wJ _) _)
theorem vjk (s:ByteArray)(k:Int)(w:World)(f:0<=k)(g:k<s.size)(b:s.size<=800):
  qJ 101 #[.string s,.int .i64 k] w λe w'=>e=.returned (kx2 (uy s k.toNat))/\pU w w':=by
 obtain⟨n,rfl⟩:=Qq f;rw[sJ];have hn:n<s.size:=aj;cases a:kz5 s n
 ·cases c:kz1 s n
  ·cases d:qjf s n
   ·exact jvr s n w hn b a c d
   ·exact vjz s n w hn b a c d
  ·exact jzr s n w hn b a c
 ·exact jvt s n w hn b a
theorem vjx (s:ByteArray)(k:Nat)(w:World)(b:k<s.size)(a:s.size<=800):
  qJ 101 #[.string s,.int .i64 k] w λe w'=>e=.returned (kx2 (uy s k))/\pU w w':=by
 have h:=vjk s k w aj aj a;rw[sJ]at h;exact h
def ky3 (s:ByteArray)(k:Nat):Bool:=if h:k<s.size then (((s[k]).toNat:Int)==32)||(((s[k]).toNat:Int)==10) else false
def kx9 (n:Nat):Tok:={kind:=pjf,text:=⟨#[]⟩,at_:=n}
def kvh:Nat->ByteArray->Nat->List Tok->List Tok×Option Nat
 |0,_,k,acc=>(acc,some k)
 |f+1,s,k,acc=>
  if k<s.size then
   if ky3 s k then kvh f s (k+1) acc
   else if (uy s k).kind.toList.isEmpty then (acc,some k)
   else kvh f s (k+(uy s k).text.size) (acc++[uy s k])
  else (acc++[kx9 s.size],none)
def jo (s:ByteArray):List Tok×Option Nat:=kvh 801 s 0 []
def uq (l:List Tok):List Value:=l.flatMap jr
theorem infoTok:(prog.info? 142).map (λi=>(i.zero,i.size,i.bytes))=some (some (.agg #[.string ⟨#[]⟩,.string ⟨#[]⟩,.int .i64 0]),3,40):=ah
theorem extract_size (s:ByteArray)(a b:Nat)(h:b<=s.size):(s.extract a b).size=b-a:=by
 rw[ByteArray.size_extract];omega
theorem qke (s:ByteArray):∀(f k:Nat),k<=s.size->k<=kv5 f s k/\kv5 f s k<=s.size
 |0,k,h=>⟨wJ _,h⟩
 |f+1,k,h=>by
  rw[kv5];split
  ·rename_i a;have:=jjd a;have:=qke s f (k+1) aj;omega
  ·omega
theorem qx1 (s:ByteArray)(k:Nat)(c:k<s.size):1<=(uy s k).text.size/\k+(uy s k).text.size<=s.size:=by
 unfold uy;split
 ·rename_i b;have h1:=qke s 800 (k+1) aj;have a:kv5 801 s k=kv5 800 s (k+1):=by rw[kv5,if_pos b]
  show 1<=(s.extract k (kv5 801 s k)).size/\k+(s.extract k (kv5 801 s k)).size<=s.size;rw[extract_size _ _ _ aj];omega
 ·split
  ·show 1<=(s.extract k (k+1)).size/\k+(s.extract k (k+1)).size<=s.size;rw[extract_size _ _ _ aj];omega
  ·split
   ·rename_i a;unfold qjf at a;simp at a;show 1<=(s.extract k (k+2)).size/\k+(s.extract k (k+2)).size<=s.size;rw[extract_size _ _ _ aj];omega
   ·show 1<=(s.extract k (k+1)).size/\k+(s.extract k (k+1)).size<=s.size;rw[extract_size _ _ _ aj];omega
theorem qq4 (w:World)(b:Nat)(cs:List Value)(t:TypeId)(hb:w.heap.size=b):∀j u,cs[j]?=some u->(w.alloc (.cells cs.toArray t)).cell? ((⟨b,0,none⟩:Addr).add j)=some u:=by
 intro j u h;subst hb;have a:=heap_alloc_new w (.cells cs.toArray t);rw[show((⟨w.heap.size,0,none⟩:Addr).add j)=⟨w.heap.size,j,none⟩ from lC,QK _ _ _ _ _ _ a];simpa using h
theorem kkk (t:Tok):∀u∈jr t,u.oneCell'=true:=by
 intro u h;simp only[jr,sW,Qa,or_false]at h;rcases h with rfl|rfl|rfl<;>rfl
theorem kvt (l:List Tok)(t:Tok):uq (l++[t])=uq l++jr t:=by simp[uq]
def jz0 (s:ByteArray)(w:World)(v i:Value)(wr:World):Prop:=
 ∃(k f:Nat) (acc:List Tok),k<=s.size/\i=.int .i64 k/\acc.length<=k/\s.size-k<f/\kvh f s k acc=jo s /\
  wr.ownsRow w.heap.size 142 3 v acc.length (uq acc)/\pU w wr
theorem zja (hb:ky3 s k=true)(a:k<s.size):kvh (f+1) s k acc=kvh f s (k+1) acc:=by
 rw[kvh,if_pos a,if_pos hb]
theorem qw2 {wr: World}  (hb:ky3 s k=true)(d:k<s.size)(c:kvh f s k acc=jo s)(h:s.size-k<f)(e:acc.length<=k)
  (b:wr.ownsRow w.heap.size 142 3 v acc.length (uq acc)) (a:pU w wr):jz0 s w v (.int .i64 ((k:Int)+1)) wr:=by
 obtain⟨f,rfl⟩:∃g,f=g+1:=⟨f-1,aj⟩;rw[zja hb d]at c;exact⟨k+1,f,acc,aj,eu,aj,aj,c,b,a⟩
theorem zxo (hb:ky3 s k=false)(c:k<s.size)(a:kvh f s k acc=jo s):
  ∀g,f=g+1->((uy s k).kind.toList.isEmpty=true->jo s=(acc,some k))/\((uy s k).kind.toList.isEmpty=false->kvh g s (k+(uy s k).text.size) (acc++[uy s k])=jo s):=by
 intro g b;subst b;rw[kvh,if_pos c,hb]at a;constructor
 ·intro h;rw[h]at a;simpa using a.symm
 ·intro h;rw[h]at a;simpa using a
theorem qj (h:w.ownsRow base e size v n xs)(hb:pU w w'):w'.ownsRow base e size v n xs:=by
 obtain⟨h1,a⟩:=h;refine⟨h1,?_⟩;rcases a with a|⟨g,cap,b,f,d,c,r⟩
 ·exact Or.inl a
 ·exact Or.inr ⟨g,cap,b,f,d,by rw[hb.block g (wu c)];exact c,r⟩
theorem xg (h:w.ownsRow base e size v n xs):∀k,v.ownBlock=some k->base<=k:=by
 intro k a;rcases h.2 with⟨rfl,_⟩|⟨g,cap,b,rfl,c,_⟩
 ·simp[Value.ownBlock]at a
 ·simp[Value.ownBlock]at a;omega
theorem mg (h:w.ownsRow base e size v n xs):∀k,v.ownBlock=some k->k<w.heap.size:=by
 intro k a;rcases h.2 with⟨rfl,_⟩|⟨g,cap,c,rfl,d,b,_⟩
 ·simp[Value.ownBlock]at a
 ·simp[Value.ownBlock]at a;subst a;exact wu b
theorem vzt (a:w.grownBy w' v.ownBlock)(c:∀k,v.ownBlock=some k->k<b)(hb:b<w.heap.size):w'.heap[b]?=w.heap[b]?:=
 a.block b hb (λe=>by have:=c b e.symm;omega)
def vwz (s:ByteArray)(w:World)(e:Ending)(w':World):Prop:=
 pU w w'/\(((jo s).2=none/\∃v,e=.returned (.tuple #[v,.int .i64 (-1)])/\w'.ownsRow w.heap.size 142 3 v (jo s).1.length (uq (jo s).1)) \/
  ∃k:Nat,(jo s).2=some k/\e=.returned (.tuple #[.slice none 0 0,.int .i64 k]))
theorem vxn (s:ByteArray)(w:World)(Y:s.size<=800):
  qJ 60 #[.string s] w λe w'=>vwz s w e w':=by
 obtain⟨V,hi,I,J,K⟩:=info_parts infoTok;go_enter func60,ntmps60
 go_wp2
 go_loopw [4,5] (λv i wr=>jz0 s w v i wr) (λ_ i _=>s.size-(intOf i).toNat)
 case atStart=>exact⟨0,801,[],aj,rfl,au,aj,rfl,wB _ _ _ _,Below.refl _ _⟩
 case round=>
  obtain⟨k,f,acc,hk,rfl,G,S,h,D,m⟩:=hrel;have u:=pG h;have l:=pG D;have q:=pG m;have T:=m.size;clear h D m;by_cases c:k<s.size
  ·by_cases C:(((s[k]).toNat:Int)==32)=true
   ·have R:=qw2 (by simp[ky3,c,C]) c (ku u) S G (ku l) (ku q);go_wp2
    go_roundw
    case rel=>exact R
    case measure=>exact qQ
   ·have M:(((s[k]).toNat:Int)==32)=false:=by simpa using C
    clear C;by_cases B:(((s[k]).toNat:Int)==10)=true
    ·have R:=qw2 (by simp[ky3,c,B]) c (ku u) S G (ku l) (ku q);go_wp2
     go_roundw
     case rel=>exact R
     case measure=>exact qQ
    ·have L:(((s[k]).toNat:Int)==10)=false:=by simpa using B
     clear B;have P:=pG (show ky3 s k=false by simp only[ky3,c,M,L];rfl);go_wp2_with fail
     refine(vjx s k _ c Y).mono ?_;rintro e O ⟨rfl,p⟩;have U:=qx1 s k c;have y:=pG (zxo (ku P) c (ku u));generalize uy s k=t at U y |-;have z:=pG (qj (ku l) p);have F:=pG ((ku q).trans (p.mono T));have Z:=p.size;clear p l q u;unfold kx2;cases H:t.kind.toList.isEmpty
     ·go_wp2_with (at_builtin;refine wpList_append_own _ rfl _ _ 132 rfl w.heap.size 142 V _ 3 40 underlying132 hi I J K rfl ak _ _ _ rfl (((ku z).alloc _).alloc _) ⟨O.heap.size+1,0,none⟩ 1 1 (jr t) rfl rfl ?c1 ?c2 ?c3 ?c4 ?c5 ?_)
      case c1=>exact qq4 (O.alloc _) _ (jr t) _ au
      case c2=>exact kkk t
      case c3=>unfold maxLen;omega
      case c4=>omega
      case c5=>simp;omega
      intro W E d a _;have j:pU w E:=(((ku F).alloc aj _).alloc ay _).grown a ay (xg (ku z));have N:=vzt (b:=O.heap.size) a (mg (ku z)) ay;rw[tX _ _ _ au,heap_alloc_new]at N;obtain⟨c0,c1,c2,_,_,_⟩:=row3 N;have A:=pG d;have x:=pG j;clear d a j N;have R:jz0 s w W (.int .i64 ((k:Int)+t.text.size)) E:=
       ⟨k+t.text.size,f-1,acc++[t],aj,eu,ay,aj,((ku y) (f-1) aj).2 H,by rw[kvt,wY];exact ku A,ku x⟩
      have X:=pG R;clear R;go_wp2
      go_roundw
      case rel=>exact ku X
      case measure=>exact qQ
     ·go_wp2
      go_ret2
      exact⟨(ku F).alloc aj _,Or.inr ⟨k,by rw[((ku y) (f-1) aj).1 H],rfl⟩⟩
  ·go_wp2_with (at_builtin;refine wpList_append_own _ rfl _ _ 132 rfl w.heap.size 142 V _ 3 40 underlying132 hi I J K rfl ak _ _ _ rfl ((ku l).alloc _) ⟨wr.heap.size,0,none⟩ 1 1 (jr (kx9 s.size)) rfl rfl ?d1 ?d2 ?d3 ?d4 ?d5 ?_)
   case d1=>exact qq4 wr _ (jr (kx9 s.size)) _ rfl
   case d2=>exact kkk _
   case d3=>unfold maxLen;omega
   case d4=>omega
   case d5=>simp;omega
   intro W E d a _;have j:pU w E:=((ku q).alloc aj _).grown a ay (xg (ku l));obtain⟨f,rfl⟩:∃g,f=g+1:=⟨f-1,aj⟩;have h:=ku u;rw[kvh,if_neg c]at h;have Q:=pG h;have A:=pG d;have x:=pG j;clear d a h j u l q;go_wp2
   go_ret2
   refine⟨ku x,Or.inl ⟨by rw[<-ku Q],_,rfl,?_⟩⟩;have:=ku A;rw[<-ku Q,kvt,wY];exact this
structure RS where
 at_:Nat
 nest:Int
 bad:Bool
variable {st:RS}
def tk (L:List Tok)(k:Nat):Tok:=L.getD k (kx9 0)
structure Kept (R:Nat)(w w':World):Prop where
 os:w'.os=w.os
 tape:w'.tape=w.tape
 output:w'.output=w.output
 size:w.heap.size<=w'.heap.size
 block:∀k,k<w.heap.size->k≠R->w'.heap[k]?=w.heap[k]?
theorem Kept.refl (R:Nat)(w:World):Kept R w w:=⟨rfl,rfl,rfl,wJ _,λ_ _ _=>rfl⟩
theorem Kept.trans {b c: World}(h:Kept R a b)(k:Kept R b c):Kept R a c:=
 ⟨k.os.trans h.os,k.tape.trans h.tape,k.output.trans h.output,rU h.size k.size,λi hi hn=>(k.block i (Qy hi h.size) hn).trans (h.block i hi hn)⟩
theorem Kept.of_below (h:pU w w'):Kept R w w':=⟨h.os,h.tape,h.output,h.size,λk a _=>h.block k a⟩
theorem Kept.alloc (h:Kept R a w)(o:Obj):Kept R a (w.alloc o):=h.trans (.of_below ((Below.refl _ _).alloc (wJ _) o))
theorem Kept.drew (h:Kept R a w):Kept R a w.drew:=⟨h.os,h.tape,h.output,h.size,h.block⟩
theorem Kept.drewN (h:Kept R a w)(n:Nat):Kept R a (w.drewN n):=⟨h.os,h.tape,h.output,h.size,h.block⟩
theorem Kept.kzq (h:Kept R a w)(o:Nat)(u:Value):Kept R a (w.setCell ⟨R,o,none⟩ u):=
 h.trans ⟨rfl,rfl,rfl,by simp[World.setCell],λk b hn=>wP _ _ _ _ hn⟩
theorem Kept.jk (h:Kept R a w){p:Addr}(c:a.heap.size<=p.block)(u:Value):Kept R a (w.setCell p u):=
 ⟨h.os,h.tape,h.output,by simpa[World.setCell] using h.size,λk b hn=>by rw[wP _ _ _ _ aj];exact h.block k b hn⟩
theorem Kept.qz7 (h:Kept R a w)(hb:a.heap.size<=b):∀(c:List Value) (k:Nat),Kept R a (puts b c k w):=λc=>by
 induction c generalizing w with
 |nil=>exact λ_=>h
 |cons y c ih=>exact λk=>ih (h.jk hb y) (k+1)
theorem qzz (h:w.ownsRow base e size v n xs)(d:v.ownBlock≠some R)(hb:Kept R w w'):w'.ownsRow base e size v n xs:=by
 obtain⟨h1,a⟩:=h;refine⟨h1,?_⟩;rcases a with a|⟨g,cap,b,rfl,f,c,r⟩
 ·exact Or.inl a
 ·exact Or.inr ⟨g,cap,b,rfl,f,by rw[hb.block g (wu c) (λe=>d (by simp[Value.ownBlock,e]))];exact c,r⟩
structure Rd (w:World)(R:Nat)(v:Value)(L:List Tok)(st:RS):Prop where
 rd:w.heap[R]?=some (.cells #[v,.int .i64 st.at_,.int .i64 st.nest,.bool st.bad] 219 (0,0))
 own:w.ownsRow 0 142 3 v L.length (uq L)
 ne:v.ownBlock≠some R
 lt:st.at_<L.length
 len:L.length<=801
 fin:∀i,i<L.length->((tk L i).kind.toList==pJ)=false->i+1<L.length
 nlo:-(st.at_:Int)<=st.nest
 nhi:st.nest<=12
theorem row4 (h:w.heap[b]?=some (.cells #[x,y,z,u] t (0,0))):
  Ce w b 0 x/\Ce w b 1 y/\Ce w b 2 z/\Ce w b 3 u/\Fr w b 0/\Fr w b 1/\Fr w b 2/\Fr w b 3:=
 ⟨rc h 0,rc h 1,rc h 2,rc h 3,rf h 0,rf h 1,rf h 2,rf h 3⟩
theorem qyv:∀(L:List Tok) (k:Nat),k<L.length->(uq L)[k*3]?=some (.string (tk L k).kind)/\(uq L)[k*3+1]?=some (.string (tk L k).text)/\(uq L)[k*3+2]?=some (.int .i64 (tk L k).at_)
 |[],k,h=>by simp at h
 |a::L,0,_=>⟨rfl,rfl,rfl⟩
 |a::L,k+1,h=>by
  have b:=qyv L k iw;have e:∀i,(uq (a::L))[i+3]?=(uq L)[i]?:=λi=>by
   show(jr a++uq L)[i+3]?=_;rw[rD (by simp[jr])];simp[jr]
  have c:tk (a::L) (k+1)=tk L k:=by simp[tk]
  rw[c,show(k+1)*3=k*3+3 by omega,e,show k*3+3+1=(k*3+1)+3 by omega,e,show k*3+3+2=(k*3+2)+3 by omega,e];exact b
theorem Rd.open (h:Rd w R v L st):
  ∃g cap,v=.slice (some ⟨g,0,none⟩) L.length cap/\g≠R/\g<w.heap.size/\R<w.heap.size/\w.cell? ⟨g,st.at_*3,none⟩=some (.string (tk L st.at_).kind)/\w.cell? ⟨g,st.at_*3+1,none⟩=some (.string (tk L st.at_).text)/\w.cell? ⟨g,st.at_*3+2,none⟩=some (.int .i64 (tk L st.at_).at_):=by
 obtain⟨h1,c⟩:=h.own;have f:=h.lt;rcases c with⟨_,c⟩|⟨g,cap,m,i,t,d,p,q,s,k⟩
 ·omega
 ·have a:=qyv L st.at_ f;refine⟨g,cap,i,λe=>h.ne (by rw[i];simp[Value.ownBlock,e]),wu d,wu h.rd,?_⟩;have b:∀j,j<L.length*3->w.cell? ⟨g,j,none⟩=(uq L)[j]?:=λj l=>by
   rw[QK w g j _ _ _ d,<-k,Qo l];simp
  exact⟨(b _ aj).trans a.1,(b _ aj).trans a.2.1,(b _ aj).trans a.2.2⟩
theorem zk (w:World)(o:Obj):pU w (w.alloc o).drew:=((Below.refl _ _).alloc (wJ _) _).drew
def kwv (t:Tok)(s:List UInt8)(bad:Bool):Bool:=
 !bad&&(t.kind.toList==pY||t.kind.toList==oU)&&(t.text.toList==s)
def qo (L:List Tok)(s:List UInt8)(st:RS):Bool:=kwv (tk L st.at_) s st.bad
theorem next_any (s:ByteArray)(w:World)(R:Nat)(v:Value)(L:List Tok)(st:RS)(h:Rd w R v L st):
  qJ 103 #[.pointer (some ⟨R,0,none⟩),.string s] w λe w'=>e=.returned (.bool (qo L s.toList st))/\pU w w':=by
 obtain⟨c0,c1,c2,c3,_,_,_,_⟩:=row4 h.rd;obtain⟨g,cap,rfl,i,d,c,t0,j,k⟩:=h.open;have f:=h.lt;have b:=h.len;unfold qo;generalize tk L st.at_=t at *;obtain⟨a,n,bad⟩:=st;simp only at *;clear h;cases bad
 ·cases k1:(t.kind.toList==pY)
  ·cases k2:(t.kind.toList==oU)
   ·go_enter func103,ntmps103
    go_wp2
    go_region
    go_wp2
    go_ret
    exact⟨jf (by simp[kwv,k1,k2]),zk w _⟩
   ·go_enter func103,ntmps103
    go_wp2
    go_region
    go_wp2
    go_ret
    exact⟨jf (by simp[kwv,k1,k2]),zk w _⟩
  ·go_enter func103,ntmps103
   go_wp2
   go_region
   go_wp2
   go_ret
   exact⟨jf (by simp[kwv,k1]),zk w _⟩
 ·go_enter func103,ntmps103
  go_wp2
  go_region
  go_wp2
  go_ret
  exact⟨jf (by simp[kwv]),zk w _⟩
theorem jj6 (h:w.heap[b]?=some (.cells #[x,y,z,u] t (0,0)))(n:Value):(w.setCell ⟨b,1,none⟩ n).heap[b]?=some (.cells #[x,n,z,u] t (0,0)):=heap_setCell_same w b 1 _ _ _ h
theorem vk9 (h:w.heap[b]?=some (.cells #[x,y,z,u] t (0,0)))(n:Value):(w.setCell ⟨b,2,none⟩ n).heap[b]?=some (.cells #[x,y,n,u] t (0,0)):=heap_setCell_same w b 2 _ _ _ h
theorem jw2 (h:w.heap[b]?=some (.cells #[x,y,z,u] t (0,0)))(n:Value):(w.setCell ⟨b,3,none⟩ n).heap[b]?=some (.cells #[x,y,z,n] t (0,0)):=heap_setCell_same w b 3 _ _ _ h
theorem Rd.kept (h:Rd w R v L st)(a:Kept R w w')(b:w'.heap[R]?=w.heap[R]?):Rd w' R v L st:=
 ⟨by rw[b];exact h.rd,qzz h.own h.ne a,h.ne,h.lt,h.len,h.fin,h.nlo,h.nhi⟩
theorem Rd.below (h:Rd w R v L st)(a:pU w w'):Rd w' R v L st:=
 h.kept (.of_below a) (a.block R (wu h.rd))
theorem Rd.put {st': RS}(h:Rd w R v L st)(c:Kept R w w')
  (d:w'.heap[R]?=some (.cells #[v,.int .i64 st'.at_,.int .i64 st'.nest,.bool st'.bad] 219 (0,0))) (h1:st'.at_<L.length) (a:-(st'.at_:Int)<=st'.nest) (b:st'.nest<=12):Rd w' R v L st':=
 ⟨d,qzz h.own h.ne c,h.ne,h1,h.len,h.fin,a,b⟩
def opens (s:List UInt8):Bool:=s==[40]||s==[91]||s==[123]
def shuts (s:List UInt8):Bool:=s==[41]||s==[93]||s==[125]
def qy (L:List Tok)(s:List UInt8)(st:RS):RS:=
 if !qo L s st||(opens s&&st.nest==12) then {st with bad:=true}
 else {at_:=st.at_+1,nest:=if opens s then st.nest+1 else if shuts s then st.nest-1 else st.nest,bad:=false}
theorem next_lt {s:List UInt8}(h:Rd w R v L st)(hn:qo L s st=true):st.at_+1<L.length/\st.bad=false:=by
 unfold qo kwv at hn;simp only[wW,Qu,Qm]at hn;refine⟨h.fin _ h.lt ?_,hn.1.1⟩;rcases hn.1.2 with e|e<;>(rw[rQ]at e;rw[e];rfl)
theorem bracket (s:List UInt8):((s==[40])=true/\(s==[91])=false/\(s==[123])=false/\(s==[41])=false/\(s==[93])=false/\(s==[125])=false) \/
  ((s==[40])=false/\(s==[91])=true/\(s==[123])=false/\(s==[41])=false/\(s==[93])=false/\(s==[125])=false) \/
  ((s==[40])=false/\(s==[91])=false/\(s==[123])=true/\(s==[41])=false/\(s==[93])=false/\(s==[125])=false) \/
  ((s==[40])=false/\(s==[91])=false/\(s==[123])=false/\(s==[41])=true/\(s==[93])=false/\(s==[125])=false) \/
  ((s==[40])=false/\(s==[91])=false/\(s==[123])=false/\(s==[41])=false/\(s==[93])=true/\(s==[125])=false) \/
  ((s==[40])=false/\(s==[91])=false/\(s==[123])=false/\(s==[41])=false/\(s==[93])=false/\(s==[125])=true) \/
  ((s==[40])=false/\(s==[91])=false/\(s==[123])=false/\(s==[41])=false/\(s==[93])=false/\(s==[125])=false):=by
 by_cases h1:s=[40]
 ·subst h1;exact Or.inl ak
 by_cases a:s=[91]
 ·subst a;exact Or.inr (Or.inl ak)
 by_cases b:s=[123]
 ·subst b;exact Or.inr (Or.inr (Or.inl ak))
 by_cases c:s=[41]
 ·subst c;exact Or.inr (Or.inr (Or.inr (Or.inl ak)))
 by_cases d:s=[93]
 ·subst d;exact Or.inr (Or.inr (Or.inr (Or.inr (Or.inl ak))))
 by_cases e:s=[125]
 ·subst e;exact Or.inr (Or.inr (Or.inr (Or.inr (Or.inr (Or.inl ak)))))
 exact Or.inr (Or.inr (Or.inr (Or.inr (Or.inr (Or.inr (by simp[h1,a,b,c,d,e]))))))
theorem vv5 (s:ByteArray)(w:World)(R:Nat)(v:Value)(L:List Tok)(st:RS)(h:Rd w R v L st):
  qJ 105 #[.pointer (some ⟨R,0,none⟩),.string s] w λe w'=>e=.returned (.tuple #[])/\Rd w' R v L (qy L s.toList st)/\Kept R w w':=by
 go_enter func105,ntmps105
 go_wp2_with fail
 refine(next_any s w R v L st h).mono ?_;rintro e A ⟨rfl,hb⟩;have h1:=h.below hb;have m:=pG (Kept.of_below (R:=R) hb);obtain⟨c0,c1,c2,c3,f0,f1,f2,f3⟩:=row4 h1.rd;have u:=h1.lt;have z:=h1.len;have q:=h1.nlo;have k:=h1.nhi;have i:=pG h1;clear h hb h1;cases hn:qo L s.toList st
 ·have e:qy L s.toList st={st with bad:=true}:=by simp[qy,hn]
  have E:=pG e;clear e;rcases bracket s.toList with⟨b1,a,b,c,d,f⟩|⟨b1,a,b,c,d,f⟩|⟨b1,a,b,c,d,f⟩|⟨b1,a,b,c,d,f⟩|⟨b1,a,b,c,d,f⟩|⟨b1,a,b,c,d,f⟩|⟨b1,a,b,c,d,f⟩;all_goals
   go_wp2
   refine rY (v:=.tuple #[]) (by simp[results,results105]) rfl ?_;rw[ku E];exact⟨rfl,(ku i).put ((Kept.refl _ _).kzq _ _) (jw2 (ku i).rd _) u q k,(ku m).trans ((Kept.refl _ _).kzq _ _)⟩
 ·have t:=(next_lt (ku i) hn).1;have x:=(next_lt (ku i) hn).2;have l:=pG (ku i).rd;rw[x]at l c3;cases g:opens s.toList
  ·cases j:shuts s.toList
   ·have E:=pG (show qy L s.toList st={at_:=st.at_+1,nest:=st.nest,bad:=false} by simp[qy,hn,g,j]);rcases bracket s.toList with⟨b1,a,b,c,d,f⟩|⟨b1,a,b,c,d,f⟩|⟨b1,a,b,c,d,f⟩|⟨b1,a,b,c,d,f⟩|⟨b1,a,b,c,d,f⟩|⟨b1,a,b,c,d,f⟩|⟨b1,a,b,c,d,f⟩;all_goals first|(exfalso;revert g j;simp[opens,shuts,b1,a,b,c,d,f];done)|skip
    all_goals
     clear g j;go_wp2
     go_end0
     rw[ku E];exact⟨rfl,(ku i).put ((Kept.refl _ _).kzq _ _) (jj6 (ku l) _) t ay k,(ku m).trans ((Kept.refl _ _).kzq _ _)⟩
   ·have E:=pG (show qy L s.toList st={at_:=st.at_+1,nest:=st.nest-1,bad:=false} by simp[qy,hn,g,j]);rcases bracket s.toList with⟨b1,a,b,c,d,f⟩|⟨b1,a,b,c,d,f⟩|⟨b1,a,b,c,d,f⟩|⟨b1,a,b,c,d,f⟩|⟨b1,a,b,c,d,f⟩|⟨b1,a,b,c,d,f⟩|⟨b1,a,b,c,d,f⟩;all_goals first|(exfalso;revert g j;simp[opens,shuts,b1,a,b,c,d,f];done)|skip
    all_goals
     clear g j;go_wp2
     go_end0
     rw[ku E];exact⟨rfl,(ku i).put (((Kept.refl _ _).kzq _ _).kzq _ _) (jj6 (vk9 (ku l) _) _) t ay ay,(ku m).trans (((Kept.refl _ _).kzq _ _).kzq _ _)⟩
  ·cases p:(st.nest==12)
   ·have e:qy L s.toList st={at_:=st.at_+1,nest:=st.nest+1,bad:=false}:=by simp[qy,hn,g,p]
    have E:=pG e;clear e;have y:st.nest≠12:=by simpa using p
    have y:st.nest<12:=aj;rcases bracket s.toList with⟨b1,a,b,c,d,f⟩|⟨b1,a,b,c,d,f⟩|⟨b1,a,b,c,d,f⟩|⟨b1,a,b,c,d,f⟩|⟨b1,a,b,c,d,f⟩|⟨b1,a,b,c,d,f⟩|⟨b1,a,b,c,d,f⟩;all_goals first|(exfalso;revert g;simp[opens,shuts,b1,a,b,c,d,f];done)|skip
    all_goals
     clear g;go_wp2
     go_end0
     rw[ku E];exact⟨rfl,(ku i).put (((Kept.refl _ _).kzq _ _).kzq _ _) (jj6 (vk9 (ku l) _) _) t ay ay,(ku m).trans (((Kept.refl _ _).kzq _ _).kzq _ _)⟩
   ·have e:qy L s.toList st={st with bad:=true}:=by simp[qy,hn,g,p]
    have E:=pG e;clear e;rcases bracket s.toList with⟨b1,a,b,c,d,f⟩|⟨b1,a,b,c,d,f⟩|⟨b1,a,b,c,d,f⟩|⟨b1,a,b,c,d,f⟩|⟨b1,a,b,c,d,f⟩|⟨b1,a,b,c,d,f⟩|⟨b1,a,b,c,d,f⟩;all_goals first|(exfalso;revert g;simp[opens,shuts,b1,a,b,c,d,f];done)|skip
    all_goals
     clear g;go_wp2
     refine rY (v:=.tuple #[]) (by simp[results,results105]) rfl ?_;rw[ku E];exact⟨rfl,(ku i).put ((Kept.refl _ _).kzq _ _) (jw2 (ku i).rd _) u q k,(ku m).trans ((Kept.refl _ _).kzq _ _)⟩
end Go.Proofs.YtpmcnonmkghokaaGreatDoor

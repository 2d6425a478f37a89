import Derived.Test.YtpmcnonmkghokaaGreatDoorRows
import Derived.WalkKit
import Derived.WalkSpells
import Derived.WalkLawsBesides
import Derived.Deep.QuietTactic
import Derived.BigQuiet
import Derived.Deep.Trees
import Derived.BigRegion
import Derived.Maps.AppendAt
import Derived.Deep.AppendLies
set_option maxHeartbeats 8000000
set_option maxRecDepth 100000
set_option linter.unusedVariables false
set_option linter.unusedSimpArgs false
namespace Go.Proofs
open Go Go.RowKit
abbrev wu:=@Option.bind_eq_some_iff
abbrev wQ:=@lt_of_block
abbrev wJ:=@Nat.le_refl
abbrev wZ:=@List.getElem_mem
abbrev wX:=@Option.map_eq_some_iff
abbrev wW:=@List.getElem?_eq_getElem
abbrev wY:=@List.mem_append_left
abbrev wU:=@cell_later
abbrev wG:=@List.getElem_of_mem
abbrev Xy:=@if_neg
abbrev wB:=@List.mem_of_getElem?
abbrev ru:=@Bool.false_eq_true
abbrev lJ:=@if_pos
abbrev rQ:=@Option.bind_some
abbrev rJ:=@List.mem_append_right
abbrev rZ:=@List.mem_cons_self
abbrev Xx:=@heap_setCell_same
abbrev rV:=@List.mem_append
abbrev rY:=@List.getElem?_eq_some_iff
abbrev rU:=@List.drop_eq_getElem_cons
abbrev Xk:=@heap_alloc_new
abbrev rG:=@Bool.and_eq_true
abbrev rP:=@Nat.le_trans
abbrev rD:=@List.length_append
abbrev rC:=@World.ownsRow_nil
abbrev rM:=@List.mem_flatMap
abbrev tJ:=@List.take_succ_eq_append_getElem
abbrev tX:=@Int.toNat_natCast
abbrev tK:=@bodyPost_ret
abbrev tZ:=@List.mem_cons
abbrev tV:=@World.size_alloc
abbrev tY:=@List.mem_map
abbrev tC:=@Below.heap_alloc
abbrev su:=@beq_iff_eq
abbrev sQ:=@List.pairwise_iff_getElem
abbrev sJ:=@List.all_eq_true
abbrev sZ:=@List.append_assoc
abbrev sK:=@List.drop_length
abbrev Xv:=@if_false
abbrev sV:=@Nat.lt_of_lt_of_le
abbrev sW:=@List.getElem?_cons_zero
abbrev sU:=@List.getElem?_cons_succ
abbrev sG:=@Int.eq_ofNat_of_zero_le
abbrev sD:=@decide_eq_true_eq
abbrev Qq:=@List.mem_singleton
abbrev Qz:=@decide_eq_true
abbrev Qx:=@List.mem_map_of_mem
abbrev Qk:=@Nat.add_zero
abbrev Qv:=@List.eq_nil_of_length_eq_zero
abbrev Xw:=@if_true
abbrev Qw:=@List.map_append
abbrev Qy:=@List.setIfInBounds_toArray
abbrev Qg:=@Bool.or_false
abbrev Qp:=@Classical.byContradiction
abbrev Qd:=@List.nil_append
abbrev Qc:=@List.take_length
abbrev Qb:=@List.length_cons
abbrev Qm:=@List.map_cons
abbrev Qh:=@List.length_replicate
abbrev Qr:=@Nat.le_of_lt
abbrev Qn:=@List.getElem_append_left
abbrev Qu:=@List.not_mem_nil
abbrev Ql:=@List.length_map
abbrev Qs:=@List.append_nil
abbrev Qo:=@List.mem_range
abbrev Qa:=@List.drop_of_length_le
abbrev Qe:=@List.append_eq_nil_iff
abbrev Qi:=@Bool.or_eq_false_iff
abbrev QJ:=@Bool.false_and
abbrev QZ:=@Bool.true_and
abbrev QX:=@Bool.false_or
abbrev QK:=@cell_of_row
abbrev QV:=@List.getElem?_map
abbrev QW:=@List.set_cons_zero
abbrev QY:=@List.set_cons_succ
abbrev QU:=@List.cons_append
abbrev QG:=@beq_eq_false_iff_ne
abbrev QD:=@Bool.not_eq_true'
abbrev QC:=@List.pairwise_append
abbrev QB:=@List.getD_eq_getElem?_getD
abbrev QM:=@List.nodup_cons
abbrev Q5:=@List.foldl_append
abbrev Q7:=@run_underlying
abbrev Q8:=@Bool.or_eq_true
abbrev Q9:=@List.take_of_length_le
abbrev Jq:=@List.length_set
abbrev Jj:=@List.take_append_drop
abbrev Jz:=@List.map_map
abbrev Jk:=@World.cell?_of_block
abbrev Jv:=@List.take_append_of_le_length
abbrev Jw:=@List.nodup_append
abbrev Jy:=@List.flatMap_cons
abbrev Ju:=@List.mem_filter
abbrev Jg:=@Bool.true_or
abbrev Jp:=@List.map_flatMap
abbrev Jd:=@List.nodup_nil
abbrev Jc:=@Nat.zero_add
abbrev Jb:=@Nat.mul_one
abbrev Jm:=@List.ext_getElem?
abbrev Jh:=@Bool.and_true
abbrev Jt:=@Nat.mul_le_mul
abbrev Jr:=@Bool.and_false
abbrev Jl:=@List.drop_append_of_le_length
abbrev Js:=@Bool.or_true
abbrev Jf:=@List.range_succ
abbrev Jo:=@List.getElem?_eq_none
abbrev Ja:=@wpList_append_own_at
abbrev Je:=@List.mem_of_mem_drop
abbrev Ji:=@List.getElem?_append_right
abbrev JQ:=@List.length_drop
abbrev JJ:=@ByteArray.getElem_extract
abbrev JZ:=@List.flatMap_append
abbrev JX:=@ByteArray.toList_eq
abbrev JK:=@List.sublist_append_left
abbrev JV:=@Bool.not_true
abbrev JW:=@List.pairwise_cons
abbrev JY:=@Nat.lt_or_ge
abbrev JU:=@List.getElem_cons_zero
abbrev JG:=@List.drop_eq_nil_of_le
abbrev JD:=@Bool.not_false
abbrev JC:=@List.length_singleton
abbrev JB:=@Bool.toNat_false
abbrev JM:=@List.filter_sublist
abbrev J3:=@List.getElem?_drop
abbrev J4:=@List.drop_left
abbrev J5:=@List.sublist_append_right
abbrev J6:=@List.pairwise_map
abbrev J7:=@List.filter_congr
abbrev J8:=@List.append_cancel_right
abbrev J9:=@results_cell_row
abbrev Zq:=@Option.getD_some
abbrev Zj:=@List.nil_sublist
abbrev Zz:=@List.getElem_map
abbrev Zx:=@List.any_eq_true
abbrev Zk:=@List.getElem?_set_self
abbrev Zv:=@Bool.or_self
abbrev Zw:=@List.length_nil
abbrev Zy:=@List.getElem?_zipWith
abbrev Zu:=@Classical.choose_spec
abbrev Zg:=@Bool.and_eq_false_iff
abbrev Zp:=@List.mem_of_mem_take
abbrev Zd:=@List.map_eq_flatMap
abbrev Zc:=@List.map_congr_left
abbrev Zb:=@List.length_reverse
abbrev Zm:=@ByteArray.toList_mk
abbrev Zh:=@Array.toList_filter
abbrev Zt:=@frozen_of_row
abbrev Zr:=@Nat.add_sub_cancel
abbrev Zn:=@List.getElem_range
abbrev Zl:=@Bool.false_ne_true
abbrev Zf:=@List.map_set
abbrev Zo:=@List.getElem_take
abbrev Za:=@List.nodup_range
abbrev Ze:=@List.length_take
abbrev Zi:=@List.append_inj'
abbrev ZQ:=@Option.map_some
abbrev ZJ:=@List.take_left'
abbrev ZX:=@List.foldl_cons
abbrev ZK:=@List.any_append
abbrev ZV:=@List.getElem?_append_left
abbrev ZW:=@List.exists_mem_of_ne_nil
abbrev ZY:=@List.map_take
abbrev ZU:=@List.getElem?_take_of_lt
abbrev ZG:=@List.any_cons
abbrev ZC:=@List.sublist_cons_self
abbrev ZB:=@List.contains_iff_mem
abbrev ZM:=@ByteArray.size_append
abbrev Z5:=@Array.getElem?_modify
abbrev Z7:=@Nat.mul_le_mul_right
abbrev Z8:=@List.getElem?_set_ne
abbrev Z9:=@Nat.mul_le_mul_left
abbrev Xj:=@List.drop_succ_cons
abbrev Xz:=@Int.toNat_of_nonneg
abbrev jH{a}:=Nat.le_refl a
abbrev jT{α a s t}:=@List.mem_append_left α a s t
abbrev jR{a}:=Nat.zero_le a
abbrev jN{α a s t}:=@List.mem_append_right α a s t
abbrev jL{a}:=heap_setCell_same a
abbrev jS{α a s t}:=@List.mem_cons_of_mem α a s t
abbrev jF{a b}:=heap_alloc_new a b
abbrev jE{a b c d}:=World.ownsRow_nil a b c d
abbrev jj{a b c}:=Below.heap_alloc a b c
abbrev jz{a b c d}:=Below.heap_setCell a b c d
abbrev jx{a b c d e f}:=cell_of_row a b c d e f
end Go.Proofs
namespace Go.Proofs
open Go Go.RowKit
abbrev og:=Calls Tryz.prog
abbrev mX:List UInt8:=[110,97,109,101]
abbrev mW:List UInt8:=[100,105,103,105,116]
abbrev mY:List UInt8:=[105,102]
abbrev mG:List UInt8:=[110,111,110,101]
abbrev mD:List UInt8:=[118,97,114]
abbrev ny:List UInt8:=[107,105,110,100]
abbrev ng:List UInt8:=[112,108,97,99,101]
abbrev ni:List UInt8:=[115,101,116]
abbrev nJ:List UInt8:=[116,114,117,101]
abbrev nZ:List UInt8:=[102,97,108,115,101]
abbrev nX:List UInt8:=[114,117,108,101]
abbrev nK:List UInt8:=[110,101,118,101,114]
abbrev nV:List UInt8:=[119,111,114,100]
abbrev nY:List UInt8:=[116,114,117,116,104]
abbrev nU:List UInt8:=[101,108,115,101]
abbrev nG:List UInt8:=[101,110,100]
abbrev nP:List UInt8:=[98,111,111,108]
abbrev nD:List UInt8:=[116,111]
abbrev nC:List UInt8:=[110,117,109,98,101,114]
abbrev nM:List UInt8:=[115,105,103,110]
abbrev oq(w w':World):=Below w.heap.size w w'
theorem aj{p:Prop}(h:p:=by omega):p:=h
theorem ak{p:Prop}(h:p:=by decide):p:=h
theorem ay{p:Prop}(h:p:=by simp):p:=h
theorem au{p:Prop}(h:p:=by kernel_rfl):p:=h
theorem ah{p:Prop}(h:p:=by simp;omega):p:=h
theorem eu{p:Prop}(h:p:=by go_num):p:=h
theorem iq{p:Prop}(h:p:=by unfold maxLen;omega):p:=h
theorem iw{p:Prop}(h:p:=by simp only[qjn,qjl,ku C,ku P,ku q,ku A,ku I,Jh,Jr,QJ,QZ,ru,↓reduceIte]):p:=h
theorem iy{p:Prop}(h:p:=by simp at e):p:=h
theorem ig{p:Prop}(h:p:=by cases h):p:=h
theorem jQ{p:Prop}(h:p:=by simp[World.setCell];omega):p:=h
theorem jJ{p:Prop}(h:p:=by rw[ku E];rfl):p:=h
theorem oU{p:Prop}(h:p:=by rw[qkj];cases a8:G.2.s<;>simp only[JB,Bool.toNat_true]<;>(grind)<;>(grind)<;>simp only[JB]at a2<;>omega):p:=h
theorem jX{p:Prop}(h:p:=by rw[hW];exact(jZ w).trans ((jZ _).mono<|by simp)):p:=h
theorem jK{p:Prop}(h:p:=by rw[jz (show w.heap.size+1≠g by omega),jz (show w.heap.size+1≠g by omega)];exact h.st):p:=h
theorem jW{p:Prop}(h:p:=by rw[kzo rfl rfl];unfold zkg;simp_all):p:=h
theorem jY{p:Prop}(h:p:=by rw[jz (show w.heap.size≠g by omega),jz (show w.heap.size≠g by omega)];exact h.ty):p:=h
theorem jU{p:Prop}(h:p:=by simp only[qjn,qjl,ku C,ku q,ku A,ku I,Jh,Jr,QJ,QZ,ru,↓reduceIte]):p:=h
theorem jG{p:Prop}(h:p:=by simp only[qjn,qjl,ku C,ku P,ku q,ku A,Jh,Jr,QJ,QZ,ru,↓reduceIte]):p:=h
theorem jP{p:Prop}(h:p:=by simp only[qjn,qjl,ku C,ku P,ku q,Jh,Jr,QJ,QZ,ru,↓reduceIte]):p:=h
theorem jC{p:Prop}(h:p:=by first|exact Below.refl _ _|exact(Below.refl _ _).drew):p:=h
theorem jB{p:Prop}(h:p:=by rw[b.block k (wQ hh) (not_row hv hh a)];exact hh):p:=h
theorem jM{p:Prop}(h:p:=by rw[hW];exact jZ w):p:=h
theorem kQ{p:Prop}(h:p:=by rw[IntKind.wrap_i64];omega):p:=h
theorem l9{p:Prop}(h:p:=by intro i hi;have h9:=ku K i hi;exact wU (below_drewN (jZ _) _) h9):p:=h
theorem kV{p:Prop}(h:p:=by simpa using h):p:=h
theorem kZ{p:Prop}(h:p:=by simp only[rD];omega):p:=h
theorem kX{p:Prop}(h:p:=by rw[jx a];rfl):p:=h
theorem jD{p:Prop}(h:p:=by rw[d];exact(jZ w).trans ((jZ _).mono<|by simp)):p:=h
theorem oQ{p:Prop}(h:p:=by rw[u];exact(jZ w).trans ((jZ _).mono<|by simp)):p:=h
theorem kW{p:Prop}(h:p:=by simp[results,Tryz.results106,go_sem,kxt,zh]):p:=h
theorem kY{p:Prop}(h:p:=by rw[c.block k (wQ hh) (not_row hv hh (by decide))];exact hh):p:=h
theorem jV{p:Prop}(h:p:=by simp only[kqq]at s;omega):p:=h
theorem oZ{p:Prop}(h:p:=by simp only[kqq]at m;omega):p:=h
theorem kU{p:Prop}(h:p:=by rw[Lib.byteCells_length];omega):p:=h
theorem oG{p:Prop}(h:p:=by simp only[kqq]at b;omega):p:=h
theorem kP{p:Prop}(h:p:=by have:=ku HV g s;omega):p:=h
theorem kD{p:Prop}(h:p:=by rw[show zvh.toList=[33] from jh _];rfl):p:=h
theorem kC{p:Prop}(h:p:=by obtain⟨cs,q1,q2⟩:=m;exact⟨cs,qo jR q1,q2⟩):p:=h
theorem kM{p:Prop}(h:p:=by simp[dgB,zxx,Go.Lib.join,kvh,List.intercalate,List.intersperse]):p:=h
theorem lq{p:Prop}(h:p:=by unfold kwc;simp):p:=h
theorem kK{p:Prop}(h:p:=by rw[hW];exact qy):p:=h
theorem lu{p:Prop}(h:p:=by simp[Op.bytesLess]at h):p:=h
theorem lg{p:Prop}(h:p:=by rw[rD];omega):p:=h
theorem lQ{p:Prop}(h:p:=by rw[je];simp[q]):p:=h
theorem lZ{p:Prop}(h:p:=by rw[je];simp[z]):p:=h
theorem oV{p:Prop}(h:p:=by rw[je];simp[x]):p:=h
theorem lX{p:Prop}(h:p:=by have:=ku d;rw[h1]at this;exact this):p:=h
theorem lK{p:Prop}(h:p:=by rw[g,o];rfl):p:=h
theorem lV{p:Prop}(h:p:=by simp[ChangeMaps.setBlock]):p:=h
theorem lW{p:Prop}(h:p:=by simpa[World.setCell] using h.size):p:=h
theorem lY{p:Prop}(h:p:=by rw[rD];exact S b):p:=h
theorem lU{p:Prop}(h:p:=by rw[<-d];unfold opT;simp_all):p:=h
theorem lG{p:Prop}(h:p:=by rw[rD];exact J):p:=h
theorem lD{p:Prop}(h:p:=by rw[ku d];rfl):p:=h
theorem lC{p:Prop}(h:p:=by simp[kj4]at hi;omega):p:=h
theorem lM{p:Prop}(h:p:=by rw[Jq];exact h.1):p:=h
theorem oP{p:Prop}(h:p:=by rw[ku E];simp_all):p:=h
theorem mJ{p:Prop}(h:p:=by unfold zze;simp_all):p:=h
theorem mZ{p:Prop}(h:p:=by cases e):p:=h
theorem ou{p:Prop}(h:p:=by simp[intOf];omega):p:=h
end Go.Proofs
namespace Go.Proofs.YtpmcnonmkghokaaGreatDoor
open Go.Proofs.Tryz Go.RowKit
variable {cs:Array Value}{s:ByteArray}{b7 hi:Int}{b9:List UInt8}{xs:List Value}{B R b base c e f i j k lo lo' n size:Nat}{fr:Nat×Nat}{o:Obj}{no no':Option Nat}{P:Program}{p:Prop}{α:Type}{t:TypeId}{d u v va vb vi vp vv x x0 x1 x10 x11 x2 x3 x4 x5 x6 x7 x8 x9 y y0 y1 y10 y11 y2 y3 y4 y5 y6 y7 y8 y9 z:Value}{a w w':World}
theorem oz(h:p):Hid p:=h
theorem ju{pa pb:Prop}(a:pa)(b:pb):Hid pa/\Hid pb:=⟨a,b⟩
theorem jp{pa pb pc:Prop}(a:pa)(b:pb)(c:pc):Hid pa/\Hid pb/\Hid pc:=⟨a,b,c⟩
theorem jb{pa pb pc pd:Prop}(a:pa)(b:pb)(c:pc)(d:pd):Hid pa/\Hid pb/\Hid pc/\Hid pd:=⟨a,b,c,d⟩
theorem ja{pa pb pc pd pe:Prop}(a:pa)(b:pb)(c:pc)(d:pd)(e:pe):Hid pa/\Hid pb/\Hid pc/\Hid pd/\Hid pe:=⟨a,b,c,d,e⟩
theorem qQ{pa pb pc pd pe pf:Prop}(a:pa)(b:pb)(c:pc)(d:pd)(e:pe)(f:pf):Hid pa/\Hid pb/\Hid pc/\Hid pd/\Hid pe/\Hid pf:=⟨a,b,c,d,e,f⟩
theorem jt{pa pb pc pd pe pf pg:Prop}(a:pa)(b:pb)(c:pc)(d:pd)(e:pe)(f:pf)(g:pg):Hid pa/\Hid pb/\Hid pc/\Hid pd/\Hid pe/\Hid pf/\Hid pg:=⟨a,b,c,d,e,f,g⟩
theorem qJ{pa pb pc pd pe pf pg ph:Prop}(a:pa)(b:pb)(c:pc)(d:pd)(e:pe)(f:pf)(g:pg)(h:ph):Hid pa/\Hid pb/\Hid pc/\Hid pd/\Hid pe/\Hid pf/\Hid pg/\Hid ph:=⟨a,b,c,d,e,f,g,h⟩
theorem ku(h:Hid p):p:=h
theorem hsC{a:Addr}(h:k≠a.block):(w.setCell a v).heap[k]?=w.heap[k]?:=jz h
theorem oN:w.ownsRow b e R (.slice none 0 0) 0 []:=jE
theorem bR:Below B w w:=Below.refl _ _
theorem cpy(x:α):∃y,y=x:=⟨_,rfl⟩
theorem qqy(n:Nat)(h:0<n:=by omega):∃k,n=k+1:=⟨n-1,aj⟩
theorem kx0{a0:Func}{a1:Ending->World->Prop}{a2:Act}{a3:Tmp}{a4:TypeId}{a5:TypeDesc}(h:a0.results=#[.cell a3 a4])(f:P.underlying a4=some a5)(d:w.heap[b]?=some (.cells cs t fr))(hR:a1 (.returned (.agg cs)) w)(e:a2.tmps.getD a3 undef=.pointer (some ⟨b,0,none⟩):=by exact rfl)(c:(match a5 with|.struct _|.array _ _=>true|_=>false)=true:=by exact rfl)(hi:(P.info? a4).map (·.size)=some cs.size:=by kernel_rfl)(a:a2.defers=[]:=by exact rfl):bodyPost P a0 a1 .ret a2 w:=
 tK (J9 h _ _ b t cs fr a5 e d f c hi) a hR
theorem rdM{a6:Prop}(h:p)(m:a6:=by simp[intOf];omega):p/\a6:=⟨h,m⟩
theorem getD_at{l:List α}{d:α}(h:k<l.length):l.getD k d=l[k]:=by simp_all
theorem um{a7 a8:Bool}(h:a7=a8):Ending.returned (.bool a7)=.returned (.bool a8):=by rw[h]
theorem kqi{a9:IntKind}(h:hi=b7):Ending.returned (.int a9 hi)=.returned (.int a9 b7):=by rw[h]
def puts(b:Nat):List Value->Nat->World->World
 |[],_,w=>w
 |y::ys,k,w=>puts b ys (k+1)<|w.setCell ⟨b,k,none⟩ y
def xkh:List Value->Nat->Array Value->Array Value
 |[],_,cs=>cs
 |y::ys,k,cs=>xkh ys (k+1)<|cs.setIfInBounds k y
theorem xxd:∀(ys:List Value)(k:Nat){w:World}{cs:Array Value},w.heap[b]?=some (.cells cs t (0,0))->(puts b ys k w).heap[b]?=some (.cells (xkh ys k cs) t (0,0))
 |[],_,_,_,h=>h
 |y::ys,k,w,cs,h=>xxd ys (k+1)<|jL b k _ _ _ h
theorem zju{b8:Array Value}(h:w.heap[b]?=some (.cells cs t (0,0)))(e:some (Obj.cells (xkh xs k cs) t (0,0))=some (.cells b8 t (0,0)):=by kernel_rfl):(puts b xs k w).heap[b]?=some (.cells b8 t (0,0)):=(xxd xs k h).trans e
theorem qzp(hb:B<=b):∀(ys:List Value)(k:Nat){w:World},Below B a w->Below B a (puts b ys k w)
 |[],_,_,h=>h
 |y::ys,k,w,h=>qzp hb ys (k+1)<|h.setCell hb y
theorem jkc(hb:v.ownBlock≠some b):∀(ys:List Value)(k:Nat){w:World},w.ownsRow lo e size v n xs->(puts b ys k w).ownsRow lo e size v n xs
 |[],_,_,h=>h
 |y::ys,k,w,h=>jkc hb ys (k+1)<|ownsRow_setCell_other h hb y
abbrev Ce(w:World)(b i:Nat)(x:Value):Prop:=w.cell? ⟨b,i,none⟩=some x
abbrev Fr(w:World)(b i:Nat):Prop:=w.frozen? ⟨b,i,none⟩=false
theorem rc(h:w.heap[b]?=some (.cells cs t (0,0)))(i:Nat):w.cell? ⟨b,i,none⟩=cs[i]?:=QK w b i _ _ _ h
theorem rf(h:w.heap[b]?=some (.cells cs t (0,0)))(i:Nat):w.frozen? ⟨b,i,none⟩=false:=Zt w b i _ _ h
theorem row3(h:w.heap[b]?=some (.cells #[x,y,z] t (0,0))):Ce w b 0 x/\Ce w b 1 y/\Ce w b 2 z/\Fr w b 0/\Fr w b 1/\Fr w b 2:=
 ⟨rc h 0,rc h 1,rc h 2,rf h 0,rf h 1,rf h 2⟩
def inB(lo hi:Int)(s:ByteArray)(i:Nat):Bool:=if h:i<s.size then decide (lo<=((s[i]).toNat:Int))&&decide (((s[i]).toNat:Int)<=hi) else false
def kzq(s:ByteArray)(i:Nat):Bool:=inB 97 122 s i
def kzx(s:ByteArray)(i:Nat):Bool:=inB 48 57 s i
theorem qy3(h:¬i<s.size):inB b7 hi s i=false:=by simp[inB,h]
theorem pyh(h:i<s.size)(h1:((s[i]).toNat:Int)<b7):inB b7 hi s i=false:=by simp[inB,h];omega
theorem pyt(h:i<s.size)(h1:b7<=((s[i]).toNat:Int)):inB b7 hi s i=decide (((s[i]).toNat:Int)<=hi):=by simp[inB,h,h1]
theorem qz6(s:ByteArray)(k:Int)(a:0<=k)(b:k<=1000)(c:s.size<=800):Calls prog 173 #[.string s,.int .i64 k] w λe w'=>e=.returned (.bool<|kzq s k.toNat)/\w'=w:=by
 obtain⟨n,rfl⟩:=sG a;rw[tX];by_cases h:n<s.size
 ·go_wp2
  ·go_ret;exact⟨um (pyt h ‹_›).symm,rfl⟩
  ·go_ret;exact⟨um (pyh h ‹_›).symm,rfl⟩
 ·go_wp2;go_ret;exact⟨um (qy3 h).symm,rfl⟩
theorem qkn(s:ByteArray)(k:Int)(a:0<=k)(b:k<=1000)(c:s.size<=800):Calls prog 174 #[.string s,.int .i64 k] w λe w'=>e=.returned (.bool<|kzx s k.toNat)/\w'=w:=by
 obtain⟨n,rfl⟩:=sG a;rw[tX];by_cases h:n<s.size
 ·go_wp2
  ·go_ret;exact⟨um (pyt h ‹_›).symm,rfl⟩
  ·go_ret;exact⟨um (pyh h ‹_›).symm,rfl⟩
 ·go_wp2;go_ret;exact⟨um (qy3 h).symm,rfl⟩
theorem jyu(b o cap:Nat){ls:List ByteArray}(p:ls.length<=100)(f:∀i,i<ls.length->w.cell? ⟨b,o+i,none⟩=some (.string<|ls.getD i ByteArray.empty)):Calls prog 136 #[.slice (some ⟨b,o,none⟩) ls.length cap,.string s] w λe w'=>e=.returned (.bool<|ls.any (λt=>t.toList==s.toList))/\w'=w:=by
 go_wp2;go_loop [5] (λi=>∃k:Nat,k<=ls.length/\i=.int .i64 k/\(ls.take k).any (λt=>t.toList==s.toList)=false) (λi=>ls.length-(intOf i).toNat)
 ·grind
 obtain⟨k,m,rfl,h⟩:=hrel;have j:Hid ((ls.take k).any (λt=>t.toList==s.toList)=false):=h;by_cases a:k<ls.length
 ·have g:=f k a;obtain⟨t,c⟩:=cpy<|ls.getD k ByteArray.empty;rw[<-c]at g;have d:Hid (t=ls.getD k ByteArray.empty):=c;clear c f;go_wp2
  ·go_ret;refine⟨um ?_,rfl⟩;have h1:(t.toList==s.toList)=true:=aj;symm
   rw[Zx];refine⟨t,?_,h1⟩;rw[d.out,getD_at a];simp
  ·have h1:(t.toList==s.toList)=false:=by omega
   have l:(ls[k].toList==s.toList)=false:=by have:=d.out;simp_all
   go_round
   case rel=>exact⟨k+1,aj,eu,by grind [List.take_succ_eq_append_getElem]⟩
   case measure=>exact ou
 ·go_wp2;go_ret;simp_all [Q9]
def qxv:Nat->ByteArray->Nat->Nat
 |0,_,i=>i
 |f+1,s,i=>if kzq s i then qxv f s (i+1) else i
theorem jyj(h:kzq s i=true):i<s.size:=by
 unfold kzq inB at h;by_cases a:i<s.size
 ·exact a
 ·simp[a]at h
theorem zwi(hn:kzq s n=false):∀(f k:Nat),k<=n->n-k<f->(∀j,k<=j->j<n->kzq s j=true)->qxv f s k=n
 |0,k,_,h,_=>aj
 |f+1,k,hk,h,hall=>by
  rw[qxv];by_cases e:k=n
  ·subst e;simp[hn]
  ·rw[lJ (hall k jH aj)];exact zwi hn f (k+1) aj aj<|λj h1 a=>hall j aj a
def qw6:List ByteArray:=[⟨#[115,101,116]⟩,⟨#[107,105,110,100]⟩,⟨#[118,97,114]⟩,⟨#[98,111,111,108]⟩,⟨#[116,111]⟩,⟨#[114,117,108,101]⟩,⟨#[105,102]⟩,⟨#[101,108,115,101]⟩,⟨#[110,101,118,101,114]⟩,⟨#[116,114,117,101]⟩,⟨#[102,97,108,115,101]⟩,⟨#[110,111,110,101]⟩]
def qwu(s:ByteArray):Bool:=qw6.any (λt=>t.toList==s.toList)
structure Tok where
 t:ByteArray
 x:ByteArray
 v:Nat
variable {L acc:List Tok}{i3:Tok}
def kxt(t:Tok):Value:=.agg #[.string t.t,.string t.x,.int .i64 t.v]
def ji(t:Tok):List Value:=[.string t.t,.string t.x,.int .i64 t.v]
def jvj:ByteArray:=⟨#[119,111,114,100]⟩
def zw4:ByteArray:=⟨#[110,97,109,101]⟩
def qj0:ByteArray:=⟨#[100,105,103,105,116]⟩
def zqa:ByteArray:=⟨#[115,105,103,110]⟩
def xvj:ByteArray:=⟨#[101,110,100]⟩
def qy0:ByteArray:=⟨#[]⟩
def kwr:ByteArray:=⟨#[40,41,91,93,123,125,58,59,44,33,38,124,43,45,60,61]⟩
def qxa(s:ByteArray)(k:Nat):Bool:=decide (k+1<s.size)&&((s.extract k (k+2)).toList==[61,61]||(s.extract k (k+2)).toList==[33,61])
def qwz(s:ByteArray)(k:Nat):Bool:=kwr.toList.any (λc=>c.toNat==(s.get! k).toNat)
def uf(s:ByteArray)(k:Nat):Tok:=
 if kzq s k then
  let t:=s.extract k<|qxv 801 s k
  {t:=if qwu t then jvj else zw4,x:=t,v:=k}
 else if kzx s k then {t:=if kzx s (k+1) then qy0 else qj0,x:=s.extract k<|k+1,v:=k}
 else if qxa s k then {t:=zqa,x:=s.extract k<|k+2,v:=k}
 else {t:=if qwz s k then zqa else qy0,x:=s.extract k<|k+1,v:=k}
theorem pxg(b:Nat)(s:ByteArray)(a:∀i,i<12->w.cell? ⟨b,0+i,none⟩=some (.string (qw6.getD i ByteArray.empty))):og 136 #[.slice (some ⟨b,0,none⟩) 12 12,.string s] w λe w'=>e=.returned (.bool<|qwu s)/\w'=w:=
 jyu b 0 12 (s:=s) ak a
theorem vkl(w:World)(y:k<s.size)(f:s.size<=800)(d:kzq s k=true):Calls prog 101 #[.string s,.int .i64 k] w λe w'=>e=.returned (kxt<|uf s k)/\oq w w':=by
 go_in;go_wp2_with (first|(go_at_call 173;refine(qz6 s k aj aj f).mono ?_;rintro e w' ⟨rfl,rfl⟩;rw[tX,d])|(go_at_call 174;refine(qkn s k aj aj f).mono ?_;rintro e w' ⟨rfl,rfl⟩))
 go_loop [9,10] (λn m=>∃j:Nat,k<=j/\j<=s.size/\n=.int .i64 j/\m=.bool (kzq s j)/\∀i,k<=i->i<j->kzq s i=true) (λn _=>s.size-(intOf n).toNat)
 exact⟨k,jH,aj,rfl,by rw[d],λi h1 q=>aj⟩;obtain⟨j,l,x,rfl,rfl,a⟩:=hrel;have h:Hid (∀i,k<=i->i<j->kzq s i=true):=a;clear a;cases c:kzq s j
 ·go_wp21;refine(pxg (w.heap.size+1) (s.extract k j) ?_).mono ?_
  ·intro i hi;have:i=0\/i=1\/i=2\/i=3\/i=4\/i=5\/i=6\/i=7\/i=8\/i=9\/i=10\/i=11:=aj;obtain rfl|rfl|rfl|rfl|rfl|rfl|rfl|rfl|rfl|rfl|rfl|rfl:=this<;>simp[go_sem,qw6]
  ·rintro e w' ⟨rfl,rfl⟩;have b:qxv 801 s k=j:=zwi c 801 k l aj h.out;cases t:qwu (s.extract k j);all_goals
    have g:uf s k={t:=if qwu (s.extract k j) then jvj else zw4,x:=s.extract k j,v:=k}:=by simp[uf,d,b]
    rw[t]at g;have p:=oz g;clear g b;go_wp2;refine tK (v:=kxt<|uf s k) (by rw[ku p];simp[results,results101,go_sem,kxt,jvj,zw4]) rfl ⟨rfl,?_⟩;exact((bR.alloc ay _).alloc ay _).alloc ah _
 ·have u:=jyj c;go_wp2_with (first|(go_at_call 173;refine(qz6 s (j+1) aj aj f).mono ?_;rintro e w' ⟨rfl,rfl⟩))
  go_round
  case rel=>exact⟨j+1,aj,aj,eu,rfl,λi h1 q=>if e:i=j then e▸c else h.out i h1 aj⟩
  case measure=>exact ou
theorem vqo(w:World)(g:k<s.size)(a:s.size<=800)(c:kzq s k=false)(b:kzx s k=true):Calls prog 101 #[.string s,.int .i64 k] w λe w'=>e=.returned (kxt<|uf s k)/\oq w w':=by
 have d:uf s k={t:=if kzx s (k+1) then qy0 else qj0,x:=s.extract k<|k+1,v:=k}:=by simp[uf,c,b]
 have f:=oz d;clear d;go_in;go_wp21;refine(qz6 s k aj aj a).mono ?_;rintro e w' ⟨rfl,rfl⟩;rw[tX,c];go_wp21;refine(qkn s k aj aj a).mono ?_;rintro e w' ⟨rfl,rfl⟩;rw[tX,b];go_wp21;refine(qkn s (k+1) aj aj a).mono ?_;rintro e w' ⟨rfl,rfl⟩;rw[show((k:Int)+1).toNat=k+1 by omega];cases h1:kzx s (k+1);all_goals
  go_wp2;refine tK (v:=kxt<|uf s k) (by rw[ku f,h1];simp[results,results101,go_sem,kxt,qy0,qj0]) rfl ⟨rfl,?_⟩;exact((bR.alloc ay _).alloc ay _).alloc ah _
theorem pz0(w:World)(m:k<s.size)(f:s.size<=800)(d:kzq s k=false)(c:kzx s k=false)(a:qxa s k=true):Calls prog 101 #[.string s,.int .i64 k] w λe w'=>e=.returned (kxt<|uf s k)/\oq w w':=by
 have g:uf s k={t:=zqa,x:=s.extract k<|k+2,v:=k}:=by simp[uf,d,c,a]
 have h:=oz g;clear g;have j:k+1<s.size:=by unfold qxa at a;simp at a;exact a.1
 have b:((s.extract k<|k+2).toList==[61,61])=true\/((s.extract k<|k+2).toList==[61,61])=false/\((s.extract k<|k+2).toList==[33,61])=true:=by
  unfold qxa at a;rw[rG,Q8]at a;cases i:((s.extract k<|k+2).toList==[61,61])
  ·exact .inr ⟨rfl,by simpa[i] using a.2⟩
  ·exact .inl rfl
 clear a;obtain b|⟨b,l⟩:=b;all_goals
  go_in;go_wp21;refine(qz6 s k aj aj f).mono ?_;rintro e w' ⟨rfl,rfl⟩;rw[tX,d];go_wp21;refine(qkn s k aj aj f).mono ?_;rintro e w' ⟨rfl,rfl⟩;rw[tX,c];go_wp2;refine tK (v:=kxt<|uf s k) (by rw[ku h];simp[results,results101,go_sem,kxt,zqa]) rfl ⟨rfl,?_⟩;exact((bR.alloc ay _).alloc ay _).alloc ah _
theorem vxk(s:ByteArray)(k:Nat)(h:k<s.size):s.get! k=s[k]:=by simp only[ByteArray.get!,ByteArray.getElem_eq_getElem_data];exact getElem!_pos s.data k h
theorem jk2(j:Nat)(h:j<16):kwr.toList.take (j+1)=kwr.toList.take j++[kwr[j]'(by show j<16;exact h)]:=by
 have a:j<kwr.toList.length:=by rw[JX];exact h
 rw[tJ a];congr 2
 simp only[JX];rfl
theorem pvt(b:k<s.size)(a:j<16)(h:((((⟨#[40,41,91,93,123,125,58,59,44,33,38,124,43,45,60,61]⟩:ByteArray)[j]'(by show j<16;exact a)).toNat:Int)==((s[k]).toNat:Int))=true):qwz s k=true:=by
 unfold qwz;have e:((kwr[j]'(by show j<16;exact a)).toNat==(s.get! k).toNat)=true:=by rw[vxk s k b,su];rw[su]at h;exact Int.ofNat_inj.1 h
 rw[<-Jj (j+1) kwr.toList,ZK,jk2 j a,ZK];simp[e]
theorem pz8(b:k<s.size)(a:j<16)(h:((((⟨#[40,41,91,93,123,125,58,59,44,33,38,124,43,45,60,61]⟩:ByteArray)[j]'(by show j<16;exact a)).toNat:Int)==((s[k]).toNat:Int))=false)(hn:(kwr.toList.take j).any (λc=>c.toNat==(s.get! k).toNat)=false):(kwr.toList.take<|j+1).any (λc=>c.toNat==(s.get! k).toNat)=false:=by
 have e:((kwr[j]'(by show j<16;exact a)).toNat==(s.get! k).toNat)=false:=by rw[vxk s k b,QG];rw[QG]at h;exact λx=>h<|Int.ofNat_inj.2 x
 rw[jk2 j a,ZK,hn];simp only[ZG,e];rfl
theorem pvr(a:¬j<16)(hn:(kwr.toList.take j).any (λc=>c.toNat==(s.get! k).toNat)=false):qwz s k=false:=by rw[Q9 (by rw[JX];show 16<=j;omega)]at hn;exact hn
def xqi(w:World)(s:ByteArray)(k:Nat)(wr:World):Prop:=
 wr.heap[w.heap.size]?=some (.cells #[.string ⟨#[]⟩,.string ⟨#[]⟩,.int .i64 0] 142 (0,0)) /\
 wr.heap[w.heap.size+1+1]?=some (.cells #[.string ⟨#[115,105,103,110]⟩,.string<|s.extract k (k+1),.int .i64 k] 142 (0,0)) /\
 oq w wr
theorem jwj(w:World)(s:ByteArray)(k:Nat):xqi w s k (((w.alloc (.cells #[.string ⟨#[]⟩,.string ⟨#[]⟩,.int .i64 0] 142)).alloc o).alloc (.cells #[.string ⟨#[115,105,103,110]⟩,.string (s.extract k (k+1)),.int .i64 k] 142)):=by
 refine⟨?_,?_,((((Below.refl w.heap.size w).alloc ay _).alloc ay _).alloc ah _)⟩
 ·rw[jj ah,jj ay,Xk]
 ·have:=Xk ((w.alloc<|.cells #[.string ⟨#[]⟩,.string ⟨#[]⟩,.int .i64 0] 142).alloc o)<|.cells #[.string ⟨#[115,105,103,110]⟩,.string<|s.extract k (k+1),.int .i64 k] 142;simpa using this
theorem vks(w:World)(x:k<s.size)(z:s.size<=800)(y:kzq s k=false)(u:kzx s k=false)(d:qxa s k=false):Calls prog 101 #[.string s,.int .i64 k] w λe w'=>e=.returned (kxt<|uf s k)/\oq w w':=by
 have A:uf s k={t:=if qwz s k then zqa else qy0,x:=s.extract k<|k+1,v:=k}:=by simp[uf,y,u,d]
 have q:=oz A;clear A;have h:¬(k+1<s.size)\/k+1<s.size/\((s.extract k<|k+2).toList==[61,61])=false/\((s.extract k<|k+2).toList==[33,61])=false:=by
  unfold qxa at d;by_cases m:k+1<s.size
  ·refine .inr ⟨m,?_⟩;simpa[m] using d
  ·exact .inl m
 clear d;obtain h|⟨h,F,G⟩:=h;all_goals
  go_in;go_wp21;refine(qz6 s k aj aj z).mono ?_;rintro e w' ⟨rfl,rfl⟩;rw[tX,y];go_wp21;refine(qkn s k aj aj z).mono ?_;rintro e w' ⟨rfl,rfl⟩;rw[tX,u];go_wp2;go_loopw [14] (λi wr=>∃j:Nat,j<=16/\i=.int .i64 j/\(kwr.toList.take j).any (λc=>c.toNat==(s.get! k).toNat)=false/\xqi w s k wr) (λi _=>16-(intOf i).toNat);exact⟨0,aj,rfl,ay,jwj w s k⟩;obtain⟨j,H,rfl,f,hR,l,a⟩:=hrel;obtain⟨p,g⟩:=ju f a;have ⟨I,J,K,f0,f1,f2⟩:=row3 hR;have ⟨c0,c1,c2,C,D,E⟩:=row3 l;obtain⟨B,t⟩:=ju hR l;clear f a hR l;by_cases b:j<16
  ·go_wp2;go_quiet (fail)
   go_wp2
   ·refine tK (v:=kxt<|uf s k) (by rw[ku q,pvt x b ‹_›];simp[results,results101,go_sem,kxt,zqa, *]) rfl ⟨rfl,?_⟩;exact((((below_drewN g _).setCell jH _).setCell jH _).setCell jH _)
   ·have R:=pz8 x b ‹_› p;exact rdM ⟨j+1,aj,eu,R,B,t,below_drewN g _⟩
  ·go_wp2;refine tK (v:=kxt<|uf s k) (by rw[ku q,pvr b (ku p)];simp[results,results101,go_sem,kxt,qy0, *]) rfl ⟨rfl,?_⟩;exact((((g.setCell ah _).setCell jH _).setCell jH _).setCell jH _)
theorem pz2(s:ByteArray)(k:Int)(w:World)(f:0<=k)(g:k<s.size)(b:s.size<=800):og 101 #[.string s,.int .i64 k] w λe w'=>e=.returned (kxt<|uf s k.toNat)/\oq w w':=by
 obtain⟨n,rfl⟩:=sG f;rw[tX];have hn:n<s.size:=aj;cases a:kzq s n
 ·cases c:kzx s n
  ·cases d:qxa s n
   ·exact vks w hn b a c d
   ·exact pz0 w hn b a c d
  ·exact vqo w hn b a c
 ·exact vkl w hn b a
theorem pz1(s:ByteArray)(k:Nat)(b:k<s.size)(a:s.size<=800):og 101 #[.string s,.int .i64 k] w λe w'=>e=.returned (kxt<|uf s k)/\oq w w':=by have h:=pz2 s k w aj aj a;rw[tX]at h;exact h
def qq5(s:ByteArray)(k:Nat):Bool:=if h:k<s.size then (((s[k]).toNat:Int)==32)||(((s[k]).toNat:Int)==10) else false
def kks(n:Nat):Tok:={t:=xvj,x:=⟨#[]⟩,v:=n}
def kvd:Nat->ByteArray->Nat->List Tok->List Tok×Option Nat
 |0,_,k,acc=>(acc,some k)
 |f+1,s,k,acc=>
  if k<s.size then
   if qq5 s k then kvd f s (k+1) acc
   else if (uf s k).t.toList.isEmpty then (acc,some k)
   else kvd f s (k+(uf s k).x.size) (acc++[uf s k])
  else (acc++[kks s.size],none)
def jv(s:ByteArray):List Tok×Option Nat:=kvd 801 s 0 []
def uw(l:List Tok):List Value:=l.flatMap ji
theorem infoTok:(prog.info? 142).map (λi=>(i.zero,i.size,i.bytes))=some (some (.agg #[.string ⟨#[]⟩,.string ⟨#[]⟩,.int .i64 0]),3,40):=au
theorem extract_size(h:b<=s.size):(s.extract R b).size=b-R:=by simp_all
theorem qyp(s:ByteArray):∀(f k:Nat),k<=s.size->k<=qxv f s k/\qxv f s k<=s.size
 |0,k,h=>⟨jH,h⟩
 |f+1,k,h=>by
  rw[qxv];split
  ·rename_i a;have:=jyj a;have:=qyp s f (k+1) aj;omega
  ·omega
theorem qv5(s:ByteArray)(k:Nat)(a:k<s.size):1<=(uf s k).x.size/\k+(uf s k).x.size<=s.size:=by grind [uf,qyp,qxv,extract_size,qxa]
theorem qjb(w:World)(cs:List Value)(hb:w.heap.size=b):∀j u,cs[j]?=some u->(w.alloc (.cells cs.toArray t)).cell? ((⟨b,0,none⟩:Addr).add j)=some u:=by intro j u h;subst hb;have a:=Xk w<|.cells cs.toArray t;rw[show((⟨w.heap.size,0,none⟩:Addr).add j)=⟨w.heap.size,j,none⟩ by simp[Addr.add];omega,jx a];simp_all
theorem kk1{t:Tok}:∀u∈ji t,u.oneCell'=true:=by intro u h;simp only[ji,tZ,Qu,or_false]at h;obtain rfl|rfl|rfl:=h<;>rfl
theorem kwt(l:List Tok)(t:Tok):uw (l++[t])=uw l++ji t:=by simp[uw]
def jya(s:ByteArray)(w:World)(v i:Value)(wr:World):Prop:=
 ∃(k f:Nat)(acc:List Tok),k<=s.size/\i=.int .i64 k/\acc.length<=k/\s.size-k<f/\kvd f s k acc=jv s /\
  wr.ownsRow w.heap.size 142 3 v acc.length (uw acc)/\oq w wr
theorem zvp(hb:qq5 s k=true)(a:k<s.size):kvd (f+1) s k acc=kvd f s (k+1) acc:=by rw[kvd,lJ a,lJ hb]
theorem zqm{wr:World}(hb:qq5 s k=true)(d:k<s.size)(c:kvd f s k acc=jv s)(g:s.size-k<f)(e:acc.length<=k)(b:wr.ownsRow w.heap.size 142 3 v acc.length (uw acc))(a:oq w wr):jya s w v (.int .i64<|(k:Int)+1) wr:=by obtain⟨f,rfl⟩:=qqy f;rw[zvp hb d]at c;exact⟨k+1,f,acc,aj,eu,aj,aj,c,b,a⟩
theorem jq1(hb:qq5 s k=false)(b:k<s.size)(a:kvd f s k acc=jv s):∀g,f=g+1->((uf s k).t.toList.isEmpty=true->jv s=(acc,some k))/\((uf s k).t.toList.isEmpty=false->kvd g s (k+(uf s k).x.size) (acc++[uf s k])=jv s):=by grind [kvd]
theorem qj(h:w.ownsRow base e size v n xs)(hb:oq w w'):w'.ownsRow base e size v n xs:=by
 obtain⟨h1,a⟩:=h;refine⟨h1,?_⟩;obtain a|⟨g,cap,cur,hv,c,b,r⟩:=a
 ·simp_all
 ·exact .inr ⟨g,cap,cur,hv,c,by rw[hb.block g (wQ b)];exact b,r⟩
theorem jo(h:w.ownsRow base e size v n xs):∀k,v.ownBlock=some k->base<=k:=by
 intro k a;obtain⟨rfl,_⟩|⟨g,cap,cur,rfl,b,_⟩:=h.2
 ·simp[Value.ownBlock]at a
 ·simp[Value.ownBlock]at a;omega
theorem kq9(h:w.ownsRow base e size v n xs):∀k,v.ownBlock=some k->k<w.heap.size:=by
 intro k a;obtain⟨rfl,_⟩|⟨g,cap,cur,rfl,b,c,_⟩:=h.2
 ·simp[Value.ownBlock]at a
 grind [Value.ownBlock]
theorem pxp(a:w.grownBy w' v.ownBlock)(hv:∀k,v.ownBlock=some k->k<b)(hb:b<w.heap.size):w'.heap[b]?=w.heap[b]?:=
 a.block b hb (λe=>by grind)
def xqe(s:ByteArray)(w:World)(e:Ending)(w':World):Prop:=
 oq w w'/\(((jv s).2=none/\∃v,e=.returned (.tuple #[v,.int .i64 (-1)])/\w'.ownsRow w.heap.size 142 3 v (jv s).1.length (uw (jv s).1)) \/
  ∃k:Nat,(jv s).2=some k/\e=.returned (.tuple #[.slice none 0 0,.int .i64 k]))
theorem pv9(s:ByteArray)(w:World)(V:s.size<=800):Calls prog 60 #[.string s] w λe w'=>xqe s w e w':=by
 have ⟨i0,hi,H,I,J⟩:=info_parts infoTok;go_wp2;go_loopw [4,5] (λv i wr=>jya s w v i wr) (λ_ i _=>s.size-(intOf i).toNat);exact⟨0,801,[],aj,rfl,ay,aj,rfl,oN,bR⟩;obtain⟨k,f,acc,Y,rfl,F,P,g,z,l⟩:=hrel;obtain⟨q,j,p⟩:=jp g z l;have Q:=l.size;clear g z l;by_cases c:k<s.size
 ·by_cases E:(((s[k]).toNat:Int)==32)=true
  ·have R:=zqm (by simp[qq5,c,E]) c q P F j p;go_wp2;grind [intOf]
  ·have L:(((s[k]).toNat:Int)==32)=false:=by simp_all
   clear E;by_cases D:(((s[k]).toNat:Int)==10)=true
   ·have R:=zqm (by simp[qq5,c,D]) c q P F j p;go_wp2;grind [intOf]
   ·have K:(((s[k]).toNat:Int)==10)=false:=by simp_all
    clear D;have N:=oz (by simp only[qq5,c,L,K];rfl:qq5 s k=false);go_wp21;refine(pz1 s k c V).mono ?_;rintro e U ⟨rfl,m⟩;have S:=qv5 s k c;have x:=oz<|jq1 N c q;generalize uf s k=t at S x |-;have y:=oz<|qj j m;have B:=oz<|p.trans (m.mono Q);have W:=m.size;clear m j p q;unfold kxt;cases G:t.t.toList.isEmpty
    ·go_wp2_with (at_builtin;refine wpList_append_own _ rfl _ _ 132 rfl w.heap.size 142 i0 _ 3 40 underlying132 hi H I J rfl ak _ _ _ rfl ((y.alloc _).alloc _) ⟨U.heap.size+1,0,none⟩ 1 1 (ji t) rfl rfl ?c1 ?c2 ?c3 ?c4 ?c5 ?_)
     case c1=>simp_all [qjb,ji]
     case c2=>exact kk1 (t:=t)
     case c3=>unfold maxLen;omega
     case c4=>omega
     case c5=>simp;omega
     intro T A d a _;have h:oq w A:=((B.alloc aj _).alloc ah _).grown a ah<|jo y;have M:=pxp (b:=U.heap.size) a (kq9 y) ah;rw[jj ay,Xk]at M;have ⟨c0,c1,c2,_,_,_⟩:=row3 M;obtain⟨C,u⟩:=ju d h;clear d a h M;have R:jya s w T (.int .i64<|(k:Int)+t.x.size) A:=
      ⟨k+t.x.size,f-1,acc++[t],aj,eu,by grind,aj,(x (f-1) aj).2 G,by grind [kwt,ku],u⟩
     have X:=oz R;clear R;go_wp2;grind [ku,intOf]
    ·go_wp2;go_ret2;exact⟨B.alloc aj _,.inr ⟨k,by rw[((ku x) (f-1) aj).1 G],rfl⟩⟩
 ·go_wp2_with (at_builtin;refine wpList_append_own _ rfl _ _ 132 rfl w.heap.size 142 i0 _ 3 40 underlying132 hi H I J rfl ak _ _ _ rfl (j.alloc _) ⟨wr.heap.size,0,none⟩ 1 1 (ji<|kks s.size) rfl rfl ?d1 ?d2 ?d3 ?d4 ?d5 ?_)
  case d1=>exact qjb wr (ji<|kks s.size) rfl
  case d2=>exact kk1
  case d3=>unfold maxLen;omega
  case d4=>omega
  case d5=>simp;omega
  intro T A d a _;have h:oq w A:=(p.alloc aj _).grown a ah<|jo j;obtain⟨f,rfl⟩:=qqy f;have g:=ku q;rw[kvd,Xy c]at g;obtain⟨O,C,u⟩:=jp g d h;clear d a g h q j p;go_wp2
  go_ret2;refine⟨u,.inl ⟨by rw[<-ku O],_,rfl,?_⟩⟩;have:=ku C;rw[<-ku O,kwt,rD];simp_all
structure RS where
 v:Nat
 nest:Int
 s:Bool
variable {st st':RS}
def tk(L:List Tok)(k:Nat):Tok:=L.getD k (kks 0)
structure Kept (R:Nat)(w w':World):Prop where
 os:w'.os=w.os
 tape:w'.tape=w.tape
 output:w'.output=w.output
 size:w.heap.size<=w'.heap.size
 block:∀k,k<w.heap.size->k≠R->w'.heap[k]?=w.heap[k]?
theorem Kept.refl(R:Nat)(w:World):Kept R w w:=⟨rfl,rfl,rfl,jH,λ_ _ _=>rfl⟩
theorem Kept.trans{b:World}(h:Kept R a b)(k:Kept R b w):Kept R a w:=
 ⟨k.os.trans h.os,k.tape.trans h.tape,k.output.trans h.output,rP h.size k.size,λi hi hn=>(k.block i (sV hi h.size) hn).trans<|h.block i hi hn⟩
theorem Kept.of_below(h:oq w w'):Kept R w w':=⟨h.os,h.tape,h.output,h.size,λk a _=>h.block k a⟩
theorem Kept.alloc(h:Kept R a w)(o:Obj):Kept R a (w.alloc o):=h.trans<|.of_below (bR.alloc jH o)
theorem Kept.drew(h:Kept R a w):Kept R a w.drew:=⟨h.os,h.tape,h.output,h.size,h.block⟩
theorem Kept.drewN(h:Kept R a w)(n:Nat):Kept R a (w.drewN n):=⟨h.os,h.tape,h.output,h.size,h.block⟩
theorem Kept.kzr(h:Kept R a w)(o:Nat)(u:Value):Kept R a (w.setCell ⟨R,o,none⟩ u):=
 h.trans ⟨rfl,rfl,rfl,ay,λk b hn=>hsC hn⟩
theorem Kept.jm(h:Kept R a w){p:Addr}(c:a.heap.size<=p.block)(u:Value):Kept R a (w.setCell p u):=
 ⟨h.os,h.tape,h.output,lW,λk b hn=>by rw[hsC aj];exact h.block k b hn⟩
theorem Kept.qk9(h:Kept R a w)(hb:a.heap.size<=b):∀(ys:List Value)(k:Nat),Kept R a (puts b ys k w):=λys=>by
 induction ys generalizing w with
 |nil=>exact λ_=>h
 |cons y ys ih=>exact λk=>ih (h.jm hb y)<|k+1
theorem qkv(h:w.ownsRow base e size v n xs)(c:v.ownBlock≠some R)(hb:Kept R w w'):w'.ownsRow base e size v n xs:=by
 obtain⟨h1,a⟩:=h;refine⟨h1,?_⟩;obtain a|⟨g,cap,cur,rfl,d,b,r⟩:=a
 ·simp_all
 ·exact .inr ⟨g,cap,cur,rfl,d,by rw[hb.block g (wQ b) (λe=>c (by simp[Value.ownBlock,e]))];exact b,r⟩
structure Rd (w:World)(R:Nat)(v:Value)(L:List Tok)(st:RS):Prop where
 rd:w.heap[R]?=some (.cells #[v,.int .i64 st.v,.int .i64 st.nest,.bool st.s] 219 (0,0))
 xu:w.ownsRow 0 142 3 v L.length (uw L)
 ne:v.ownBlock≠some R
 lt:st.v<L.length
 T:L.length<=801
 fin:∀i,i<L.length->((tk L i).t.toList==nG)=false->i+1<L.length
 nlo:-(st.v:Int)<=st.nest
 nhi:st.nest<=12
theorem row4(h:w.heap[b]?=some (.cells #[x,y,z,u] t (0,0))):Ce w b 0 x/\Ce w b 1 y/\Ce w b 2 z/\Ce w b 3 u/\Fr w b 0/\Fr w b 1/\Fr w b 2/\Fr w b 3:=
 ⟨rc h 0,rc h 1,rc h 2,rc h 3,rf h 0,rf h 1,rf h 2,rf h 3⟩
theorem zzk:∀(L:List Tok)(k:Nat),k<L.length->(uw L)[k*3]?=some (.string (tk L k).t)/\(uw L)[k*3+1]?=some (.string (tk L k).x)/\(uw L)[k*3+2]?=some (.int .i64 (tk L k).v)
 |[],k,h=>by simp at h
 |a::L,0,_=>⟨rfl,rfl,rfl⟩
 |a::L,k+1,h=>by
  have b:=zzk L k (by simp_all);have e:∀i,(uw (a::L))[i+3]?=(uw L)[i]?:=λi=>by grind [ji,uw]
  grind [tk]
theorem Rd.open(h:Rd w R v L st):∃g cap,v=.slice (some ⟨g,0,none⟩) L.length cap/\g≠R/\g<w.heap.size/\R<w.heap.size/\w.cell? ⟨g,st.v*3,none⟩=some (.string (tk L st.v).t)/\w.cell? ⟨g,st.v*3+1,none⟩=some (.string (tk L st.v).x)/\w.cell? ⟨g,st.v*3+2,none⟩=some (.int .i64 (tk L st.v).v):=by
 have ⟨h1,a⟩:=h.xu;have b:=h.lt;obtain⟨_,a⟩|⟨g,cap,cur,hv,l,c,f,i,j,k⟩:=a
 ·omega
 ·have d:=zzk L st.v b;refine⟨g,cap,hv,λe=>h.ne (by rw[hv];simp[Value.ownBlock,e]),wQ c,wQ h.rd,?_⟩;grind [cell_of_row]
theorem jy(w:World):oq w (w.alloc o).drew:=(bR.alloc jH _).drew
def qqb(t:Tok)(s:List UInt8)(bad:Bool):Bool:=
 !bad&&(t.t.toList==nM||t.t.toList==nV)&&(t.x.toList==s)
def zk(L:List Tok)(s:List UInt8)(st:RS):Bool:=qqb (tk L st.v) s st.s
theorem next_any(s:ByteArray)(h:Rd w R v L st):Calls prog 103 #[.pointer (some ⟨R,0,none⟩),.string s] w λe w'=>e=.returned (.bool<|zk L s.toList st)/\oq w w':=by
 have ⟨c0,c1,c2,c3,_,_,_,_⟩:=row4 h.rd;obtain⟨g,cap,rfl,i,d,c,t0,j,k⟩:=h.open;have f:=h.lt;have b:=h.T;unfold zk;generalize tk L st.v=t at *;obtain⟨a,n,bad⟩:=st;simp only at *;clear h;cases bad
 ·cases k1:(t.t.toList==nM)
  ·cases k2:(t.t.toList==nV)
   ·go_wp2;go_region
    go_wp2;go_ret;simp_all [qqb,jy]
   ·go_wp2;go_region
    go_wp2;go_ret;simp_all [qqb,jy]
  ·go_wp2;go_region
   go_wp2;go_ret;simp_all [qqb,jy]
 ·go_wp2;go_region
  go_wp2;go_ret;simp_all [qqb,jy]
theorem jwb(h:w.heap[b]?=some (.cells #[x,y,z,u] t (0,0))):(w.setCell ⟨b,1,none⟩ v).heap[b]?=some (.cells #[x,v,z,u] t (0,0)):=Xx w b 1 _ _ _ h
theorem pvo(h:w.heap[b]?=some (.cells #[x,y,z,u] t (0,0))):(w.setCell ⟨b,2,none⟩ v).heap[b]?=some (.cells #[x,y,v,u] t (0,0)):=Xx w b 2 _ _ _ h
theorem vvj(h:w.heap[b]?=some (.cells #[x,y,z,u] t (0,0))):(w.setCell ⟨b,3,none⟩ v).heap[b]?=some (.cells #[x,y,z,v] t (0,0)):=Xx w b 3 _ _ _ h
theorem Rd.kept(h:Rd w R v L st)(a:Kept R w w')(b:w'.heap[R]?=w.heap[R]?):Rd w' R v L st:=
 ⟨by rw[b];exact h.rd,qkv h.xu h.ne a,h.ne,h.lt,h.T,h.fin,h.nlo,h.nhi⟩
theorem Rd.below(h:Rd w R v L st)(a:oq w w'):Rd w' R v L st:=
 h.kept (.of_below a) (a.block R<|wQ h.rd)
theorem Rd.put(h:Rd w R v L st)(c:Kept R w w')(d:w'.heap[R]?=some (.cells #[v,.int .i64 st'.v,.int .i64 st'.nest,.bool st'.s] 219 (0,0)))(h1:st'.v<L.length)(a:-(st'.v:Int)<=st'.nest)(b:st'.nest<=12):Rd w' R v L st':=
 ⟨d,qkv h.xu h.ne c,h.ne,h1,h.T,h.fin,a,b⟩
def opens(s:List UInt8):Bool:=s==[40]||s==[91]||s==[123]
def shuts(s:List UInt8):Bool:=s==[41]||s==[93]||s==[125]
def qg(L:List Tok)(s:List UInt8)(st:RS):RS:=
 if !zk L s st||(opens s&&st.nest==12) then {st with s:=true}
 else {v:=st.v+1,nest:=if opens s then st.nest+1 else if shuts s then st.nest-1 else st.nest,s:=false}
theorem next_lt(h:Rd w R v L st)(hn:zk L b9 st=true):st.v+1<L.length/\st.s=false:=by unfold zk qqb at hn;simp only[rG,Q8,QD]at hn;refine⟨h.fin _ h.lt ?_,hn.1.1⟩;grind
theorem bracket(s:List UInt8):((s==[40])=true/\(s==[91])=false/\(s==[123])=false/\(s==[41])=false/\(s==[93])=false/\(s==[125])=false) \/
  ((s==[40])=false/\(s==[91])=true/\(s==[123])=false/\(s==[41])=false/\(s==[93])=false/\(s==[125])=false) \/
  ((s==[40])=false/\(s==[91])=false/\(s==[123])=true/\(s==[41])=false/\(s==[93])=false/\(s==[125])=false) \/
  ((s==[40])=false/\(s==[91])=false/\(s==[123])=false/\(s==[41])=true/\(s==[93])=false/\(s==[125])=false) \/
  ((s==[40])=false/\(s==[91])=false/\(s==[123])=false/\(s==[41])=false/\(s==[93])=true/\(s==[125])=false) \/
  ((s==[40])=false/\(s==[91])=false/\(s==[123])=false/\(s==[41])=false/\(s==[93])=false/\(s==[125])=true) \/
  ((s==[40])=false/\(s==[91])=false/\(s==[123])=false/\(s==[41])=false/\(s==[93])=false/\(s==[125])=false):=by
 by_cases h1:s=[40]
 ·simp_all
 by_cases a:s=[91]
 ·simp_all
 grind
theorem pwi(s:ByteArray)(h:Rd w R v L st):Calls prog 105 #[.pointer (some ⟨R,0,none⟩),.string s] w λe w'=>e=.returned (.tuple #[])/\Rd w' R v L (qg L s.toList st)/\Kept R w w':=by
 go_in;go_wp21;refine(next_any s h).mono ?_;rintro e u ⟨rfl,hb⟩;have h1:=h.below hb;have i:=oz<|Kept.of_below (R:=R) hb;have ⟨c0,c1,c2,c3,f0,f1,f2,f3⟩:=row4 h1.rd;have m:=h1.lt;have t:=h1.T;have j:=h1.nlo;have f:=h1.nhi;have c:=oz h1;clear h hb h1;cases hn:zk L s.toList st
 ·have e:qg L s.toList st={st with s:=true}:=by simp[qg,hn]
  have E:=oz e;clear e;obtain⟨b1,a,b3,b4,b5,b6⟩|⟨b1,a,b3,b4,b5,b6⟩|⟨b1,a,b3,b4,b5,b6⟩|⟨b1,a,b3,b4,b5,b6⟩|⟨b1,a,b3,b4,b5,b6⟩|⟨b1,a,b3,b4,b5,b6⟩|⟨b1,a,b3,b4,b5,b6⟩:=bracket s.toList;all_goals
   go_wp2;refine tK (v:=.tuple #[]) (by simp[results,results105]) rfl ?_;rw[ku E];exact⟨rfl,c.put ((Kept.refl _ _).kzr _ _) (vvj c.rd) m j f,i.trans<|(Kept.refl _ _).kzr _ _⟩
 ·have k:=(next_lt c hn).1;have p:=(next_lt c hn).2;have g:=oz c.rd;rw[p]at g c3;cases b:opens s.toList
  ·cases d:shuts s.toList
   ·have E:=oz (by simp[qg,hn,b,d]:qg L s.toList st={v:=st.v+1,nest:=st.nest,s:=false});obtain⟨b1,a,b3,b4,b5,b6⟩|⟨b1,a,b3,b4,b5,b6⟩|⟨b1,a,b3,b4,b5,b6⟩|⟨b1,a,b3,b4,b5,b6⟩|⟨b1,a,b3,b4,b5,b6⟩|⟨b1,a,b3,b4,b5,b6⟩|⟨b1,a,b3,b4,b5,b6⟩:=bracket s.toList;all_goals first|(exfalso;revert b d;simp[opens,shuts,b1,a,b3,b4,b5,b6];done)|skip
    all_goals
     clear b d;go_wp2;go_end0;rw[ku E];exact⟨rfl,c.put ((Kept.refl _ _).kzr _ _) (jwb g) k (by grind) f,i.trans<|(Kept.refl _ _).kzr _ _⟩
   ·have E:=oz (by simp[qg,hn,b,d]:qg L s.toList st={v:=st.v+1,nest:=st.nest-1,s:=false});obtain⟨b1,a,b3,b4,b5,b6⟩|⟨b1,a,b3,b4,b5,b6⟩|⟨b1,a,b3,b4,b5,b6⟩|⟨b1,a,b3,b4,b5,b6⟩|⟨b1,a,b3,b4,b5,b6⟩|⟨b1,a,b3,b4,b5,b6⟩|⟨b1,a,b3,b4,b5,b6⟩:=bracket s.toList;all_goals first|(exfalso;revert b d;simp[opens,shuts,b1,a,b3,b4,b5,b6];done)|skip
    all_goals
     clear b d;go_wp2;go_end0;rw[ku E];exact⟨rfl,c.put (((Kept.refl _ _).kzr _ _).kzr _ _) (jwb<|pvo g) k (by grind) (by grind),i.trans<|((Kept.refl _ _).kzr _ _).kzr _ _⟩
  ·cases l:(st.nest==12)
   ·have e:qg L s.toList st={v:=st.v+1,nest:=st.nest+1,s:=false}:=by simp[qg,hn,b,l]
    have E:=oz e;clear e;have q:st.nest≠12:=by simp_all
    have q:st.nest<12:=aj;obtain⟨b1,a,b3,b4,b5,b6⟩|⟨b1,a,b3,b4,b5,b6⟩|⟨b1,a,b3,b4,b5,b6⟩|⟨b1,a,b3,b4,b5,b6⟩|⟨b1,a,b3,b4,b5,b6⟩|⟨b1,a,b3,b4,b5,b6⟩|⟨b1,a,b3,b4,b5,b6⟩:=bracket s.toList;all_goals first|(exfalso;revert b;simp[opens,shuts,b1,a,b3,b4,b5,b6];done)|skip
    all_goals
     clear b;go_wp2;go_end0;rw[ku E];exact⟨rfl,c.put (((Kept.refl _ _).kzr _ _).kzr _ _) (jwb<|pvo g) k (by grind) (by grind),i.trans<|((Kept.refl _ _).kzr _ _).kzr _ _⟩
   ·have e:qg L s.toList st={st with s:=true}:=by simp[qg,hn,b,l]
    have E:=oz e;clear e;obtain⟨b1,a,b3,b4,b5,b6⟩|⟨b1,a,b3,b4,b5,b6⟩|⟨b1,a,b3,b4,b5,b6⟩|⟨b1,a,b3,b4,b5,b6⟩|⟨b1,a,b3,b4,b5,b6⟩|⟨b1,a,b3,b4,b5,b6⟩|⟨b1,a,b3,b4,b5,b6⟩:=bracket s.toList;all_goals first|(exfalso;revert b;simp[opens,shuts,b1,a,b3,b4,b5,b6];done)|skip
    all_goals
     clear b;go_wp2;refine tK (v:=.tuple #[]) (by simp[results,results105]) rfl ?_;rw[ku E];exact⟨rfl,c.put ((Kept.refl _ _).kzr _ _) (vvj c.rd) m j f,i.trans<|(Kept.refl _ _).kzr _ _⟩
def zh:Tok:={t:=⟨#[]⟩,x:=⟨#[]⟩,v:=0}
def kqf(L:List Tok)(k:List UInt8)(st:RS):Bool:=!st.s&&((tk L st.v).t.toList==k)
def zq(L:List Tok)(k:List UInt8)(st:RS):Tok×RS:=
 if kqf L k st then (tk L st.v,{st with v:=st.v+1}) else (zh,{st with s:=true})
theorem xzp(h:Rd w R v L st)(a:(b9==nG)=false)(hn:kqf L b9 st=true):st.v+1<L.length/\st.s=false:=by unfold kqf at hn;simp only[rG,QD]at hn;refine⟨h.fin _ h.lt ?_,hn.1⟩;simp_all
theorem Rd.vv9(h:Rd w R v L st):Rd (w.setCell ⟨R,3,none⟩ (.bool true)) R v L {st with s:=true}:=
 h.put (st':={st with s:=true}) ((Kept.refl _ _).kzr _ _) (vvj h.rd) h.lt h.nlo h.nhi
theorem Rd.E(h:Rd w R v L st)(h1:st.v+1<L.length):Rd (w.setCell ⟨R,1,none⟩ (.int .i64 ((st.v:Int)+1))) R v L {st with v:=st.v+1}:=
 h.put (st':={st with v:=st.v+1}) ((Kept.refl _ _).kzr _ _) (jwb h.rd) h1 (by have:=h.nlo;grind) h.nhi
theorem ky1{i1:Obj}:oq w ((w.alloc o).alloc i1).drew:=((bR.alloc jH _).alloc ay _).drew
theorem pyk(s:ByteArray)(h:Rd w R v L st)(l:(s.toList==nG)=false):Calls prog 106 #[.pointer (some ⟨R,0,none⟩),.string s] w λe w'=>e=.returned (kxt (zq L s.toList st).1)/\Rd w' R v L (zq L s.toList st).2/\Kept R w w':=by
 have ⟨c0,c1,c2,c3,f0,f1,f2,f3⟩:=row4 h.rd;have H:=oz h;obtain⟨g,cap,(j:Hid _),u,p,m,t0,d,f⟩:=h.open;rw[j]at c0;have q:=h.lt;have k:=h.T;cases a:kqf L s.toList st
 ·have E:=oz (by simp[zq,a]:zq L s.toList st=(zh,{st with s:=true}));cases hb:st.s
  ·have c:((tk L st.v).t.toList==s.toList)=false:=by simpa[kqf,hb] using a
   rw[hb]at c3;clear a;generalize tk L st.v=t at t0 d f c;go_wp2;go_region
   go_wp2;refine tK (v:=kxt zh) kW rfl ?_;rw[ku E];exact⟨rfl,H.vv9.below<|ky1,((((Kept.refl _ _).kzr _ _).alloc _).alloc _).drew⟩
  ·rw[hb]at c3;clear a;generalize tk L st.v=t at t0 d f;go_wp2;go_region
   go_wp2;refine tK (v:=kxt zh) kW rfl ?_;rw[ku E];exact⟨rfl,H.vv9.below<|ky1,((((Kept.refl _ _).kzr _ _).alloc _).alloc _).drew⟩
 ·have b:=xzp H l a;have E:=oz (by simp[zq,a]:zq L s.toList st=(tk L st.v,{st with v:=st.v+1}));have hb:=b.2;have c:((tk L st.v).t.toList==s.toList)=true:=by simpa[kqf,hb] using a
  have i:=b.1;rw[hb]at c3;clear a b;generalize tk L st.v=t at t0 d f c E;go_wp2;go_region
  go_wp2;refine tK (v:=kxt t) kW rfl ?_;rw[ku E];exact⟨rfl,(H.E i).below<|ky1,((((Kept.refl _ _).kzr _ _).alloc _).alloc _).drew⟩
theorem kjg(l:List UInt8)(h:Rd w R v L st):og 103 #[.pointer (some ⟨R,0,none⟩),.string ⟨l.toArray⟩] w λe w'=>e=.returned (.bool<|zk L l st)/\Rd w' R v L st/\Kept R w w':=by have:=next_any ⟨l.toArray⟩ h;rw[Zm]at this;exact this.mono λe w' ⟨h1,a⟩=>⟨h1,h.below a,.of_below a⟩
theorem kq1(l:List UInt8)(h:Rd w R v L st):og 105 #[.pointer (some ⟨R,0,none⟩),.string ⟨l.toArray⟩] w λe w'=>e=.returned (.tuple #[])/\Rd w' R v L (qg L l st)/\Kept R w w':=by have:=pwi ⟨l.toArray⟩ h;rw[Zm]at this;exact this
theorem kxu(l:List UInt8)(h:Rd w R v L st)(a:(l==nG)=false):og 106 #[.pointer (some ⟨R,0,none⟩),.string ⟨l.toArray⟩] w λe w'=>e=.returned (kxt (zq L l st).1)/\Rd w' R v L (zq L l st).2/\Kept R w w':=by have:=pyk ⟨l.toArray⟩ h (by simp_all);rw[Zm]at this;exact this
structure ELab where
 op:ByteArray
 y:Tok
 c:Tok
 n:Int
abbrev PX:=Go.Deep.BT ELab
variable {i2:PX}
def kww(x:ELab)(a b:Value):Array Value:=#[.string x.op,a,b,.string x.y.t,.string x.y.x,.int .i64 x.y.v,.string x.c.t,.string x.c.x,.int .i64 x.c.v,.int .i64 x.n]
def yw(lo:Nat)(w:World):PX->Value->Prop
 |.nil,v=>v=.pointer none
 |.node _ _ x a b,v=>∃k va vb,v=.pointer (some ⟨k,0,none⟩)/\lo<=k/\w.heap[k]?=some (.cells (kww x va vb) 242 (0,0))/\yw lo w a va/\yw lo w b vb
theorem yw.ptr(h:yw lo w i2 v):∃p,v=.pointer p:=by
 cases i2 with
 |nil=>exact⟨_,h⟩
 |node _ _ _ _ _=>obtain⟨k,_,_,e,_⟩:=h;simp_all
theorem yw.stay(a:∀k,lo<=k->k<w.heap.size->w'.heap[k]?=w.heap[k]?):∀{x:PX}{v:Value},yw lo w x v->yw lo w' x v
 |.nil,_,h=>h
 |.node _ _ _ _ _,_,⟨k,va,vb,e,hn,hh,ha,hb⟩=>⟨k,va,vb,e,hn,by grind,ha.stay a,hb.stay a⟩
theorem yw.kept(h:yw lo w i2 v)(b:Kept R w w')(hR:R<lo):yw lo w' i2 v:=
 h.stay λk h1 a=>b.block k a aj
theorem yw.below(h:yw lo w i2 v)(b:oq w w'):yw lo w' i2 v:=
 h.stay λk _ a=>b.block k a
theorem yw.mono(a:lo'<=lo):∀{x:PX}{v:Value},yw lo w x v->yw lo' w x v
 |.nil,_,h=>h
 |.node _ _ _ _ _,_,⟨k,va,vb,e,hn,hh,ha,hb⟩=>⟨k,va,vb,e,rP a hn,hh,ha.mono a,hb.mono a⟩
theorem zzh(h:w.heap[b]?=some (.cells #[x0,x1,x2,x3,x4,x5,x6,x7,x8,x9] t (0,0))):Ce w b 0 x0/\Ce w b 1 x1/\Ce w b 2 x2/\Ce w b 3 x3/\Ce w b 4 x4/\Ce w b 5 x5/\Ce w b 6 x6/\Ce w b 7 x7/\Ce w b 8 x8/\Ce w b 9 x9 /\
  Fr w b 3/\Fr w b 4/\Fr w b 5/\Fr w b 6/\Fr w b 7/\Fr w b 8:=
 ⟨rc h 0,rc h 1,rc h 2,rc h 3,rc h 4,rc h 5,rc h 6,rc h 7,rc h 8,rc h 9,
  rf h 3,rf h 4,rf h 5,rf h 6,rf h 7,rf h 8⟩
theorem Rd.jm(h:Rd w R v L st)(a:∀g,v.ownBlock=some g->g<B)(hR:R<B){p:Addr}(b:B<=p.block)(u:Value):Rd (w.setCell p u) R v L st:=by refine⟨by rw[hsC aj];exact h.rd,?_,h.ne,h.lt,h.T,h.fin,h.nlo,h.nhi⟩;exact ownsRow_setCell_other h.xu (λe=>by grind) u
theorem xks(h:w.heap[b]?=some (.cells #[x0,x1,x2,x3,x4,x5,x6,x7,x8,x9] t (0,0))):(puts b [v,x,d] 3 w).heap[b]?=some (.cells #[x0,x1,x2,v,x,d,x6,x7,x8,x9] t (0,0)):=zju h
theorem xkl(h:w.heap[b]?=some (.cells #[x0,x1,x2,x3,x4,x5,x6,x7,x8,x9] t (0,0))):(puts b [v,x,d] 6 w).heap[b]?=some (.cells #[x0,x1,x2,x3,x4,x5,v,x,d,x9] t (0,0)):=zju h
def qja:ByteArray:=⟨#[112,108,97,99,101]⟩
def kqy(L:List Tok)(st:RS):PX×RS:=
 let k:=zq L mX st
 if zk L [91] k.2 then
  let i:=zq L mX<|qg L [91] k.2
  (.node 0 0 {op:=qja,y:=k.1,c:=i.1,n:=0} .nil .nil,qg L [93] i.2)
 else (.node 0 0 {op:=qja,y:=k.1,c:=zh,n:=0} .nil .nil,k.2)
theorem jkk(h:Rd w R v L st):Calls prog 222 #[.pointer (some ⟨R,0,none⟩)] w λe w'=>∃p,e=.returned p/\yw w.heap.size w' (kqy L st).1 p/\Rd w' R v L (kqy L st).2/\Kept R w w':=by
 go_enter func222,ntmps222
 go_wp21;have c:R<w.heap.size:=wQ h.rd;have b:=oz<|kq9 h.xu;refine(kxu mX (h.below<|bR.alloc jH _) rfl).mono ?_;rintro e P ⟨rfl,h1,t⟩;have f:=(t.block w.heap.size ay aj).trans<|jF;have G:Kept R w P:=((Kept.refl _ _).alloc _).trans t;have d0:=zzh f;obtain⟨l,K⟩:=ju f h1;clear f h1;have j:Hid (kqy L st=if zk L [91] (zq L mX st).2 then
  (.node 0 0 {op:=qja,y:=(zq L mX st).1,c:=(zq L mX<|qg L [91] (zq L mX st).2).1,n:=0} .nil .nil,qg L [93] (zq L mX<|qg L [91] (zq L mX st).2).2)
  else (.node 0 0 {op:=qja,y:=(zq L mX st).1,c:=zh,n:=0} .nil .nil,(zq L mX st).2)):=rfl
 generalize zq L mX st=k at *;unfold kxt;go_wp21;refine(kjg [91]<|((K.jm b c ay _).jm b c ay _).jm b c ay _).mono ?_;rintro e Q ⟨rfl,F,u⟩;have a:=(u.block w.heap.size (by simpa using wQ l) aj).trans<|xks l;have d:Kept R w Q:=(((G.jm ay _).jm ay _).jm ay _).trans u;clear d0;cases hn:zk L [91] k.2
 ·obtain⟨E,D,C⟩:=jp a d F;rw[hn]at j;clear a d F hn;go_wp2;go_ret;rw[ku j];exact⟨_,rfl,⟨_,_,_,rfl,jH,E,rfl,rfl⟩,C,D⟩
 ·rw[hn]at j;obtain⟨m,H,C⟩:=jp a d F;clear a hn;go_wp21;refine(kq1 [91] C).mono ?_;rintro e w3 ⟨rfl,M,x⟩;have A:=(x.block w.heap.size (wQ m) aj).trans m;have I:=H.trans x;have q:=oz A;clear A;go_wp21;refine(kxu mX M rfl).mono ?_;rintro e w4 ⟨rfl,N,y⟩;have g:=(y.block w.heap.size (wQ q) aj).trans q;have d0:=zzh g;have J:=I.trans y;have s:=oz g;clear g;generalize zq L mX (qg L [91] k.2)=i at *;unfold kxt;go_wp21;refine(kq1 [93]<|((N.jm b c ay _).jm b c ay _).jm b c ay _).mono ?_;rintro e S ⟨rfl,O,z⟩;have B:=(z.block w.heap.size (by simpa using wQ s) aj).trans<|xkl s;have D:Kept R w S:=(((J.jm ay _).jm ay _).jm ay _).trans z;have E:=oz B;clear d0 B;go_wp2
  go_ret;rw[ku j];exact⟨_,rfl,⟨_,_,_,rfl,jH,E,rfl,rfl⟩,O,D⟩
def qj1:PX:=.node 0 0 {op:=⟨#[]⟩,y:=zh,c:=zh,n:=0} .nil .nil
def opX(o:ByteArray)(a b:PX):PX:=.node 0 0 {op:=o,y:=zh,c:=zh,n:=0} a b
def vwe(n:Int):PX:=.node 0 0 {op:=qj0,y:=zh,c:=zh,n:=n} .nil .nil
def mg(t:ByteArray):Int:=if h:0<t.size then ((t[0]).toNat:Int)-48 else 0
def kj4:Nat->List ByteArray
 |0=>[⟨#[124]⟩]
 |1=>[⟨#[38]⟩]
 |2=>[⟨#[61,61]⟩,⟨#[33,61]⟩,⟨#[60]⟩]
 |_=>[⟨#[43]⟩,⟨#[45]⟩]
def kv6(n:Nat)(t:Tok):Bool:=(kj4 n).any (λs=>s.toList==t.x.toList)&&(t.t.toList==nM)
def isConst(t:Tok):Bool:=(t.t.toList==nV)&&((t.x.toList==nJ)||(t.x.toList==nZ)||(t.x.toList==mG))
def zxk(t:Tok):Bool:=t.t.toList==mW
def zvh:ByteArray:=⟨#[33]⟩
def rX:Nat->Nat->PX->List Tok->RS->PX×RS
 |0,_,x,_,st=>(x,st)
 |f+1,tag,x,L,st=>
  if tag<4 then
   if st.s then (qj1,st)
   else rX f (10+tag) (rX f (tag+1) .nil L st).1 L (rX f (tag+1) .nil L st).2
  else if tag<10 then
   if st.s then (qj1,st) else rX f 20 .nil L st
  else if tag<20 then
   if st.s then (x,st)
   else if kv6 (tag-10) (tk L st.v) then
    if tag=12 then (opX (tk L st.v).x x (rX f (tag-9) .nil L {st with v:=st.v+1}).1,(rX f (tag-9) .nil L {st with v:=st.v+1}).2)
    else rX f tag (opX (tk L st.v).x x (rX f (tag-9) .nil L {st with v:=st.v+1}).1) L (rX f (tag-9) .nil L {st with v:=st.v+1}).2
   else (x,st)
  else
   if st.s then (qj1,st)
   else if zk L [33] st then
    if tag=32 then (qj1,{st with s:=true})
    else (opX zvh (rX f (tag+1) .nil L<|qg L [33] st).1 .nil,(rX f (tag+1) .nil L<|qg L [33] st).2)
   else if zk L [40] st then ((rX f 0 .nil L<|qg L [40] st).1,qg L [41] (rX f 0 .nil L<|qg L [40] st).2)
   else if isConst (tk L st.v) then (opX (tk L st.v).x .nil .nil,{st with v:=st.v+1})
   else if zxk (tk L st.v) then (vwe<|mg (tk L st.v).x,{st with v:=st.v+1})
   else kqy L st
theorem yh(L:List Tok)(s:List UInt8)(st:RS):st.v<=(qg L s st).v:=by grind [qg]
theorem kj1(L:List Tok)(s:List UInt8)(st:RS):st.v<=(zq L s st).2.v:=by unfold zq;grind
theorem zvr(L:List Tok)(st:RS):st.v<=(kqy L st).2.v:=by grind [kqy,zq,qg]
theorem kvl:∀(f tag:Nat)(x:PX)(L:List Tok)(st:RS),st.v<=(rX f tag x L st).2.v
 |0,_,_,_,_=>jH
 |f+1,tag,x,L,st=>by have a:=kvl f;grind [rX,yh,zvr]
def need(L:List Tok)(c:Nat)(st:RS):Nat:=if st.s then 1 else 8*(L.length-st.v)+c
theorem qqd(hb:(qg L b9 st).s=false):(qg L b9 st).v=st.v+1:=by grind [qg]
theorem jkn{s:List UInt8}(a:st.v<L.length)(hb:st.s=false)(b:c<=7)(d:1<=R)(e:need L R st<=f+1):need L c (qg L s st)<=f:=by grind [need,qqd]
def jzo(L:List Tok):Prop:=∀i,i<L.length->zxk (tk L i)=true->∃h:0<(tk L i).x.size,48<=(((tk L i).x[0]'h).toNat:Int)/\(((tk L i).x[0]'h).toNat:Int)<=57
def xql(R:Nat)(v:Value)(L:List Tok)(w:World)(r:PX×RS)(e:Ending)(w':World):Prop:=
 ∃p,e=.returned p/\yw w.heap.size w' r.1 p/\Rd w' R v L r.2/\Kept R w w'
def qv0(f:Nat):Prop:=∀(n:Nat)(w:World)(R:Nat)(v:Value)(L:List Tok)(st:RS),n<=4->Rd w R v L st->jzo L->need L (7-n) st<=f ->
 Calls prog 108 #[.pointer (some ⟨R,0,none⟩),.int .i64 n] w (xql R v L w<|rX f n .nil L st)
def qyg(f:Nat):Prop:=∀(n:Nat)(w:World)(R:Nat)(v:Value)(L:List Tok)(st:RS),n<=12->Rd w R v L st->jzo L->need L 2 st<=f ->
 Calls prog 176 #[.pointer (some ⟨R,0,none⟩),.int .i64 n] w (xql R v L w<|rX f (20+n) .nil L st)
theorem zy3(f n:Nat)(x:PX)(L:List Tok)(st:RS):rX (f+1) (20+n) x L st =
  if st.s then (qj1,st)
  else if zk L [33] st then
   if n=12 then (qj1,{st with s:=true})
   else (opX zvh (rX f (20+(n+1)) .nil L<|qg L [33] st).1 .nil,(rX f (20+(n+1)) .nil L<|qg L [33] st).2)
  else if zk L [40] st then ((rX f 0 .nil L<|qg L [40] st).1,qg L [41] (rX f 0 .nil L<|qg L [40] st).2)
  else if isConst (tk L st.v) then (opX (tk L st.v).x .nil .nil,{st with v:=st.v+1})
  else if zxk (tk L st.v) then (vwe<|mg (tk L st.v).x,{st with v:=st.v+1})
  else kqy L st:=by grind [rX]
theorem jZ(w:World):oq w (w.alloc o):=bR.alloc jH _
theorem yw.new{x:ELab}{a b:PX}(c:yw lo w a va)(hb:yw lo w b vb)(d:lo<=w.heap.size):yw lo (w.alloc<|.cells (kww x va vb) 242) (.node i j x a b) (.pointer<|some ⟨w.heap.size,0,none⟩):=
 ⟨_,va,vb,rfl,d,jF,c.below<|jZ _,hb.below<|jZ _⟩
theorem zx1{a b:PX}(c:yw lo w a va)(hb:yw lo w b vb)(d:w.heap.size=k)(e:lo<=k):yw lo (w.alloc<|.cells #[.string s,va,vb,.string ⟨#[]⟩,.string ⟨#[]⟩,.int .i64 0,.string ⟨#[]⟩,.string ⟨#[]⟩,.int .i64 0,.int .i64 0] 242) (opX s a b) (.pointer<|some ⟨k,0,none⟩):=by subst d;exact yw.new (x:={op:=s,y:=zh,c:=zh,n:=0}) (i:=0) (j:=0) c hb e
theorem xq3{n:Int}(c:w.heap.size=k)(d:lo<=k):yw lo (w.alloc<|.cells #[.string ⟨#[100,105,103,105,116]⟩,.pointer none,.pointer none,.string ⟨#[]⟩,.string ⟨#[]⟩,.int .i64 0,.string ⟨#[]⟩,.string ⟨#[]⟩,.int .i64 0,.int .i64 n] 242) (vwe n) (.pointer<|some ⟨k,0,none⟩):=by subst c;exact yw.new (x:={op:=qj0,y:=zh,c:=zh,n:=n}) (i:=0) (j:=0) (a:=.nil) (b:=.nil) (va:=.pointer none) (vb:=.pointer none) rfl rfl d
theorem zjo(c:w.heap.size=k)(d:lo<=k):yw lo (w.alloc<|.cells #[.string ⟨#[]⟩,.pointer none,.pointer none,.string ⟨#[]⟩,.string ⟨#[]⟩,.int .i64 0,.string ⟨#[]⟩,.string ⟨#[]⟩,.int .i64 0,.int .i64 0] 242) qj1 (.pointer<|some ⟨k,0,none⟩):=
 zx1 (a:=.nil) (b:=.nil) (va:=.pointer none) (vb:=.pointer none) rfl rfl c d
theorem pwr(c:w.heap.size=k)(d:lo<=k):yw lo (w.alloc<|.cells #[.string s,.pointer none,.pointer none,.string ⟨#[]⟩,.string ⟨#[]⟩,.int .i64 0,.string ⟨#[]⟩,.string ⟨#[]⟩,.int .i64 0,.int .i64 0] 242) (opX s .nil .nil) (.pointer<|some ⟨k,0,none⟩):=
 zx1 (a:=.nil) (b:=.nil) (va:=.pointer none) (vb:=.pointer none) rfl rfl c d
theorem pwt(a:yw lo w i2 va)(c:w.heap.size=k)(d:lo<=k):yw lo (w.alloc<|.cells #[.string s,va,.pointer none,.string ⟨#[]⟩,.string ⟨#[]⟩,.int .i64 0,.string ⟨#[]⟩,.string ⟨#[]⟩,.int .i64 0,.int .i64 0] 242) (opX s i2 .nil) (.pointer<|some ⟨k,0,none⟩):=
 zx1 (b:=.nil) (vb:=.pointer none) a rfl c d
theorem Rd.pvp(h:Rd w R v L st)(hb:st.s=false)(h1:st.v+1<L.length):Rd (w.setCell ⟨R,1,none⟩ (.int .i64 ((st.v:Int)+1))) R v L {v:=st.v+1,nest:=st.nest,s:=false}:=by have:=h.E h1;simp_all
theorem pxa(h:isConst i3=true):(i3.t.toList==nV)=true/\((i3.x.toList==nJ)=true\/((i3.x.toList==nJ)=false/\((i3.x.toList==nZ)=true\/((i3.x.toList==nZ)=false/\(i3.x.toList==mG)=true)))):=by grind [isConst]
theorem xq6(h:isConst i3=false):(i3.t.toList==nV)=false\/((i3.t.toList==nV)=true/\(i3.x.toList==nJ)=false/\(i3.x.toList==nZ)=false/\(i3.x.toList==mG)=false):=by grind [isConst]
theorem pk6(f:Nat)(hL:qv0 f)(hA:qyg f):qyg (f+1):=by
 intro n w R v L st hn H P Z;have ⟨c0,c1,c2,c3,_,_,_,_⟩:=row4 H.rd;have D:=H.lt;have a1:=H.T;have ⟨g,cap,hv,hg,a7,a4,t0,t1,t2⟩:=H.open;rw[hv]at c0;have b:=oz<|zy3 f n .nil L st;clear hv;go_in
 go_wp2;go_region
 go_wp21;refine(kjg [33]<|H.below (jy _)).mono ?_;rintro e w1 ⟨rfl,h1,C⟩;go_wp21;refine(kjg [40] h1).mono ?_;rintro e w2 ⟨rfl,j,F⟩;have W:=(F.block w.heap.size (sV ay C.size) aj).trans<|(C.block w.heap.size ay aj).trans (Xk w _);have h:=((Kept.of_below<|jy w).trans C).trans F;have a2:=wQ j.rd;have m:=(((Kept.of_below (R:=R)<|jy w (o:=.cells #[.string (tk L st.v).t,.string (tk L st.v).x,.int .i64 (tk L st.v).v] 142)).trans C).trans F).size;have ⟨c0,c1,c2,c3,f0,f1,f2,f3⟩:=row4 j.rd;have ⟨Q,S,T,_,_,_⟩:=row3 W;clear W;cases hb:st.s
 ·rw[hb]at c3;rw[hb]at b;simp only[ru,Xv]at b;cases y:zk L [33] st
  ·have a:=ku b;rw[y]at a;simp only[ru,Xv]at a;cases z:zk L [40] st
   ·rw[z]at a;simp only[ru,Xv]at a;have d:=j.fin st.v D;have k:=P st.v D;generalize tk L st.v=t at a Q S T d k;cases u:isConst t
    ·rw[u]at a;simp only[ru,Xv]at a;cases x:zxk t
     ·rw[x]at a;simp only[ru,Xv]at a;have b:=oz a;have Y:(t.t.toList==mW)=false:=x;clear a d k x;obtain k1|⟨k1,k2,k3,k4⟩:=xq6 u;all_goals
       clear u;go_wp21;refine(jkk j).mono ?_;rintro e w3 ⟨q,rfl,E,p,l⟩;have i:=h.trans l;go_wp2;go_ret;rw[ku b];exact⟨_,rfl,E.mono m,p,i⟩
     ·rw[x]at a;simp only[Xw]at a;have b:=oz a;have Y:(t.t.toList==mW)=true:=x;have hw:(t.t.toList==nV)=false:=by simp_all
      have J:=d (by simp_all);have ⟨N,a5,a6⟩:=k x;have HV:=oz (by simp[mg,N]:mg t.x=((t.x[0]'N).toNat:Int)-48);clear a d k x u;go_wp2;go_ret;rw[ku b,ku HV];exact⟨_,rfl,xq3 ay m,(j.pvp hb J).below<|jZ _,(h.kzr _ _).alloc _⟩
    ·rw[u]at a;simp only[Xw]at a;have b:=oz a;have X:=pxa u;have J:=d (by simp_all);obtain⟨k1,k2⟩:=X;clear a d k u;obtain k2|⟨k2,k3|⟨k3,k4⟩⟩:=k2;all_goals
      go_wp2;go_ret;rw[ku b];exact⟨_,rfl,pwr ay m,(j.pvp hb J).below<|jZ _,(h.kzr _ _).alloc _⟩
   ·rw[z]at a;simp only[Xw]at a;have b:=oz a;clear a;have I:=jkn (s:=[40]) (c:=7) D hb aj aj Z;go_wp21;refine(kq1 [40] j).mono ?_;rintro e w3 ⟨rfl,p,l⟩;have i:=h.trans l;have M:=wQ p.rd;clear c0 c1 c2 c3 f0 f1 f2 f3 Q S T;go_wp21;refine(hL 0 _ R v L (qg L [40] st) aj p P I).mono ?_;rintro e w4 ⟨q,rfl,E,K,G⟩;have A:=i.trans G;go_wp21;refine(kq1 [41] K).mono ?_;rintro e w5 ⟨rfl,H5,O⟩;have U:=A.trans O;have V:=E.kept O M;go_wp2;go_ret;rw[ku b];exact⟨_,rfl,V.mono i.size,H5,U⟩
  ·have a:=ku b;clear b;rw[y]at a;simp only[Xw]at a;by_cases B:n=12
   ·rw[lJ B]at a;have b:=oz a;subst B;clear a;go_wp2;go_ret;rw[ku b];exact⟨_,rfl,zjo ay m,j.vv9.below<|jZ _,(h.kzr _ _).alloc _⟩
   ·rw[Xy B]at a;have b:=oz a;have a0:n<12:=aj;clear a B;have I:=jkn (s:=[33]) (c:=2) D hb aj aj Z;go_wp21;refine(kq1 [33] j).mono ?_;rintro e w3 ⟨rfl,p,l⟩;have i:=h.trans l;have M:=wQ p.rd;clear c0 c1 c2 c3 f0 f1 f2 f3 Q S T;go_wp21;refine(hA (n+1) _ R v L (qg L [33] st) aj p P I).mono ?_;rintro e w4 ⟨q,rfl,E,K,G⟩;have A:=i.trans G;have a3:=wQ K.rd;obtain⟨q,rfl⟩:=E.ptr;go_wp2;go_ret;rw[ku b];exact⟨_,rfl,pwt (E.mono i.size) rfl A.size,K.below<|jZ _,A.alloc _⟩
 ·rw[hb]at c3;rw[hb]at b;simp only[Xw]at b;have y:zk L [33] st=false:=by simp[zk,qqb,hb]
  have z:zk L [40] st=false:=by simp[zk,qqb,hb]
  go_wp2;go_ret;rw[ku b];exact⟨_,rfl,zjo rfl m,j.below<|jZ _,h.alloc _⟩
def kk4(w:World)(R:Nat):Nat:=match w.cell? ⟨R,1,none⟩ with
 |some v=>(intOf v).toNat
 |none=>0
def bOf:Value->Nat
 |.bool true=>1
 |_=>0
theorem Rd.kk4(h:Rd w R v L st):Go.Proofs.YtpmcnonmkghokaaGreatDoor.kk4 w R=st.v:=by have ⟨c0,c1,c2,c3,_⟩:=row4 h.rd;simp[Go.Proofs.YtpmcnonmkghokaaGreatDoor.kk4,c1,intOf]
theorem heap_alloc_new'(h:w.heap.size=b):(w.alloc o).heap[b]?=some o:=by subst h;exact Xk w o
def jvo(w:World)(B:Nat):Prop:=
 w.heap[B]?=some (.cells #[.string ⟨#[124]⟩] 9 (0,0))/\w.heap[B+1]?=some (.cells #[.string ⟨#[38]⟩] 9 (0,0)) /\
 w.heap[B+1+1]?=some (.cells #[.string ⟨#[61,61]⟩,.string ⟨#[33,61]⟩,.string ⟨#[60]⟩] 9 (0,0))/\w.heap[B+1+1+1]?=some (.cells #[.string ⟨#[43]⟩,.string ⟨#[45]⟩] 9 (0,0)) /\
 w.heap[B+1+1+1+1]?=some (.cells #[.slice (some ⟨B,0,none⟩) 1 1,.slice (some ⟨B+1,0,none⟩) 1 1,.slice (some ⟨B+1+1,0,none⟩) 3 3,.slice (some ⟨B+1+1+1,0,none⟩) 2 2] 22 (0,0))
theorem jvo.kept(h:jvo w B)(hR:R<B)(a:Kept R w w'):jvo w' B:=by
 obtain⟨b,h1,c,d,e⟩:=h;exact⟨by rw[a.block _ (wQ b) aj];exact b,by rw[a.block _ (wQ h1) aj];exact h1,by rw[a.block _ (wQ c) aj];exact c,
  by rw[a.block _ (wQ d) aj];exact d,by rw[a.block _ (wQ e) aj];exact e⟩
theorem jvo.at(h:jvo w B)(n:Nat)(hn:n<4):∃k,B<=k/\w.cell? ⟨B+1+1+1+1,n,none⟩=some (.slice (some ⟨k,0,none⟩) (kj4 n).length (kj4 n).length) /\
  ∀i,i<(kj4 n).length->w.cell? ⟨k,0+i,none⟩=some (.string<|(kj4 n).getD i ByteArray.empty):=by
 obtain⟨c,h1,d,e,a⟩:=h;have b:n=0\/n=1\/n=2\/n=3:=aj;obtain rfl|rfl|rfl|rfl:=b
 ·refine⟨B,jH,kX,λi hi=>?_⟩;have:i=0:=lC;subst this;rw[jx c];rfl
 ·refine⟨B+1,aj,kX,λi hi=>?_⟩;have:i=0:=lC;subst this;rw[jx h1];rfl
 ·refine⟨B+1+1,aj,kX,λi hi=>?_⟩;have:i=0\/i=1\/i=2:=lC;obtain rfl|rfl|rfl:=this<;>(rw[jx d];rfl)
 ·refine⟨B+1+1+1,aj,kX,λi hi=>?_⟩;have:i=0\/i=1:=lC;obtain rfl|rfl:=this<;>(rw[jx e];rfl)
theorem jqg(f n:Nat)(x:PX)(L:List Tok)(st:RS)(hn:n<4):rX (f+1) n x L st=if st.s then (qj1,st) else rX f (10+n) (rX f (n+1) .nil L st).1 L (rX f (n+1) .nil L st).2:=by rw[rX,lJ hn]
theorem jwn(f:Nat)(x:PX)(L:List Tok)(st:RS):rX (f+1) 4 x L st=if st.s then (qj1,st) else rX f (20+0) .nil L st:=by grind [rX]
theorem zy2(f n:Nat)(x:PX)(L:List Tok)(st:RS)(hn:n<4):rX (f+1) (10+n) x L st =
  if st.s then (x,st)
  else if kv6 n (tk L st.v) then
   if n=2 then (opX (tk L st.v).x x (rX f (n+1) .nil L {st with v:=st.v+1}).1,(rX f (n+1) .nil L {st with v:=st.v+1}).2)
   else rX f (10+n) (opX (tk L st.v).x x (rX f (n+1) .nil L {st with v:=st.v+1}).1) L (rX f (n+1) .nil L {st with v:=st.v+1}).2
  else (x,st):=by grind [rX]
theorem zx4(hb:st.s=false):need L c st=8*(L.length-st.v)+c:=by simp[need,hb]
theorem pwa(hb:st.s=true):need L c st=1:=by simp[need,hb]
theorem zy6(h:8*(L.length-st.v)+c<=k)(a:1<=k):need L c st<=k:=by grind [need]
theorem vv8(w:World):jvo (((((w.alloc (.cells #[.string ⟨#[124]⟩] 9)).alloc (.cells #[.string ⟨#[38]⟩] 9)).alloc (.cells #[.string ⟨#[61,61]⟩,.string ⟨#[33,61]⟩,.string ⟨#[60]⟩] 9)).alloc (.cells #[.string ⟨#[43]⟩,.string ⟨#[45]⟩] 9)).alloc
  (.cells #[.slice (some ⟨w.heap.size,0,none⟩) 1 1,.slice (some ⟨w.heap.size+1,0,none⟩) 1 1,.slice (some ⟨w.heap.size+1+1,0,none⟩) 3 3,.slice (some ⟨w.heap.size+1+1+1,0,none⟩) 2 2] 22)) w.heap.size:=by
 refine⟨?_,?_,?_,?_,?_⟩
 ·grind [Below.heap_alloc,heap_alloc_new]
 ·rw[jj ay,jj ay,jj ay];exact heap_alloc_new' ay
 ·rw[jj ay,jj ay];exact heap_alloc_new' ay
 ·rw[jj ay];exact heap_alloc_new' ay
 ·exact heap_alloc_new' ay
theorem vx3(R:Nat)(w:World)(a b c d e:Obj):Kept R w (((((w.alloc a).alloc b).alloc c).alloc d).alloc e):=(((((Kept.refl _ _).alloc _).alloc _).alloc _).alloc _).alloc _
theorem jyn(w:World)(a b c d e:Obj):oq w (((((w.alloc a).alloc b).alloc c).alloc d).alloc e):=
 ((((bR.alloc jH _).alloc ay _).alloc ah _).alloc ah _).alloc ah _
def xk4(f lo R:Nat)(v:Value)(L:List Tok)(n:Nat)(w0:World)(fin:PX×RS)(p m:Value)(wr:World):Prop:=
 ∃(x:PX)(st:RS)(g:Nat)(b:Bool),m=.bool b/\yw lo wr x p/\Rd wr R v L st/\Kept R w0 wr/\(b=true->rX g (10+n) x L st=fin/\need L 1 st<=g/\g<=f)/\(b=false->(x,st)=fin)
theorem jk9{i4:FuncId}(h:Calls P i4 cs (w.drewN<|1+n) λe w'=>e=.returned v/\w'=w.drewN (1+n)):Calls P i4 cs (w.drewN<|1+n) λe a=>e=.returned v/\∃m,a=w.drewN (1+m):=
 h.mono λ_ _ ⟨b,c⟩=>⟨b,n,c⟩
theorem vwy(f:Nat)(hL:∀g,g<=f->qv0 g)(hA:qyg f):qv0 (f+1):=by
 intro n w R v L st hn H Z hf;have ⟨c0,c1,c2,c3,f0,f1,f2,f3⟩:=row4 H.rd;have aI:=H.lt;have a9:=H.T;have hR:=wQ H.rd;cases hb:st.s
 ·rw[hb]at c3;by_cases Y:n=4
  ·subst Y;have E:=oz<|jwn f .nil L st;rw[hb]at E;have P:need L 2 st<=f:=by rw[zx4 hb]at *;omega
   go_in;go_wp21;refine(hA 0 _ R v L st aj H Z P).mono ?_;rintro e w1 ⟨q,rfl,D,H1,HK⟩;go_wp2;go_ret;rw[ku E];exact⟨_,rfl,D,H1,HK⟩
  ·have G:n<4:=by omega
   have aB:((n:Int)==4)=false:=by grind
   have E:=oz<|jqg f n .nil L st G;rw[hb]at E;have P:need L (7-(n+1)) st<=f:=by rw[zx4 hb]at *;omega
   have a5:8*(L.length-st.v)+1<=f/\1<=f:=by rw[zx4 hb]at hf;omega
   go_in;go_wp21;have HS:=vv8 w;have I:=vx3 R w (.cells #[.string ⟨#[124]⟩] 9) (.cells #[.string ⟨#[38]⟩] 9) (.cells #[.string ⟨#[61,61]⟩,.string ⟨#[33,61]⟩,.string ⟨#[60]⟩] 9) (.cells #[.string ⟨#[43]⟩,.string ⟨#[45]⟩] 9)<|.cells #[.slice (some ⟨w.heap.size,0,none⟩) 1 1,.slice (some ⟨w.heap.size+1,0,none⟩) 1 1,.slice (some ⟨w.heap.size+1+1,0,none⟩) 3 3,.slice (some ⟨w.heap.size+1+1+1,0,none⟩) 2 2] 22;have h0:=H.below<|jyn w (.cells #[.string ⟨#[124]⟩] 9) (.cells #[.string ⟨#[38]⟩] 9) (.cells #[.string ⟨#[61,61]⟩,.string ⟨#[33,61]⟩,.string ⟨#[60]⟩] 9) (.cells #[.string ⟨#[43]⟩,.string ⟨#[45]⟩] 9) (.cells #[.slice (some ⟨w.heap.size,0,none⟩) 1 1,.slice (some ⟨w.heap.size+1,0,none⟩) 1 1,.slice (some ⟨w.heap.size+1+1,0,none⟩) 3 3,.slice (some ⟨w.heap.size+1+1+1,0,none⟩) 2 2] 22);generalize (((((w.alloc<|.cells #[.string ⟨#[124]⟩] 9).alloc<|.cells #[.string ⟨#[38]⟩] 9).alloc<|.cells #[.string ⟨#[61,61]⟩,.string ⟨#[33,61]⟩,.string ⟨#[60]⟩] 9).alloc<|.cells #[.string ⟨#[43]⟩,.string ⟨#[45]⟩] 9).alloc
  (.cells #[.slice (some ⟨w.heap.size,0,none⟩) 1 1,.slice (some ⟨w.heap.size+1,0,none⟩) 1 1,.slice (some ⟨w.heap.size+1+1,0,none⟩) 3 3,.slice (some ⟨w.heap.size+1+1+1,0,none⟩) 2 2] 22))=w0 at HS I h0 |-
   refine(hL f jH (n+1) w0 R v L st aj h0 Z P).mono ?_;rintro e w1 ⟨q,rfl,hq,h1,a6⟩;have a3:xk4 f w.heap.size R v L n w0 (rX (f+1) n .nil L st) q (.bool true) w1:=
    ⟨(rX f (n+1) .nil L st).1,(rX f (n+1) .nil L st).2,f,true,rfl,hq.mono I.size,h1,a6,λ_=>⟨E.symm,zy6 (by have:=kvl f (n+1) .nil L st;omega) a5.2,jH⟩,λh=>ig⟩
   obtain⟨q,rfl⟩:=hq.ptr;clear c0 c1 c2 c3 f0 f1 f2 f3;go_wp2;go_loopw [6,7] (λp m wr=>xk4 f w.heap.size R v L n w0 (rX (f+1) n .nil L st) p m wr) (λ_ m wr=>2*(L.length-kk4 wr R)+bOf m);exact a3;obtain⟨x,a,g,b,rfl,D,c,u,hT,d⟩:=hrel;obtain⟨q2,rfl⟩:=D.ptr;have J:=I.trans u;have a4:=HS.kept hR u;have a1:=c.lt;have aC:=wQ c.rd;have ⟨c0,c1,c2,c3,f0,f1,f2,f3⟩:=row4 c.rd;cases b
   ·have l:=oz<|d rfl;clear hT d;go_wp2
    go_ret;rw[<-ku l];exact⟨_,rfl,D,c,J⟩
   ·have ⟨j,N,O⟩:=hT rfl;clear hT d;cases k:a.s
    ·obtain⟨g,rfl⟩:∃g',g=g'+1:=⟨g-1,by rw[zx4 k]at N;omega⟩;rw[zx4 k]at N;rw[zy2 g n x L a G,k]at j;simp only[ru,Xv]at j;rw[k]at c3;have ⟨gb,cap,hv,hg,aF,aE,t0,t1,t2⟩:=c.open;have A:=c.fin a.v a1;rw[hv]at c0;obtain⟨kb,aG,sc,(K:Hid _)⟩:=a4.at n G;have M:=oz j;have aH:kb<wr.heap.size:=by have:=K 0 (by unfold kj4;grind);exact block_lt_of_cell this
     have U:(kj4 n).length<=100:=by unfold kj4;grind
     have aA:(n:Int)<4:=aj;have a2:=block_lt_of_cell sc;simp only at a2;clear hv j;generalize tk L a.v=t at t0 t1 t2 M A;have aJ:=c.kk4;cases z:kv6 n t
     ·have d:=ku M;rw[z]at d;simp only[ru,Xv]at d;have l:=oz d;clear d A;have a0:(((kj4 n).any<|λs=>s.toList==t.x.toList)=true/\(t.t.toList==nM)=false)\/((kj4 n).any<|λs=>s.toList==t.x.toList)=false:=by grind [kv6]
      clear z;obtain⟨k1,k2⟩|k1:=a0;all_goals
       go_wp2;go_region
       go_wp2;go_quiet ((go_at_call 136;go_must (exact jk9<|jyu kb 0 _ (ls:=kj4 n) U l9)))
       rw[k1];go_wp2;go_roundw
       case rel=>exact⟨x,a,g,false,rfl,D.below<|below_drewN (jZ _) _,c.below<|below_drewN (jZ _) _,(u.alloc _).drewN _,(λh=>ig),(λ_=>l)⟩
       case measure=>
        rw[((ku c).below (below_drewN (jZ _) _)).kk4,(ku c).kk4];simp[bOf]
     ·have d:=ku M;rw[z]at d;simp only[Xw]at d;have l:=oz d;unfold kv6 at z;rw[rG]at z;obtain⟨k1,k2⟩:=z;have a8:=A (by simp_all);clear d A;go_wp2;go_region
      go_wp2;go_quiet ((go_at_call 136;go_must (exact jk9<|jyu kb 0 _ (ls:=kj4 n) U l9)))
      rw[k1];go_wp21;refine(hL g aj (n+1) _ R v L {v:=a.v+1,nest:=a.nest,s:=false} aj ((c.below<|below_drewN (jZ _) _).pvp k a8) Z (zy6 (by simp only;omega) aj)).mono ?_;rintro e w3 ⟨q3,rfl,Q,C,V⟩;have O:=(V.block wr.heap.size ay aj).trans ((heap_setCell_other _ _ wr.heap.size _ (by simp only;omega)).trans<|Xk wr _);have u0:=row3 O;have W:=kvl g (n+1) .nil L {v:=a.v+1,nest:=a.nest,s:=false};generalize rX g (n+1) .nil L {v:=a.v+1,nest:=a.nest,s:=false}=y at l Q C W;have B:Kept R wr w3:=((((Kept.refl R wr).alloc _).drewN _).kzr _ _).trans V;have X:=J.size;have S:=Q.mono (lo':=w.heap.size) ah;have T:=D.kept B hR;have aD:=wQ C.rd;have hy:=C.lt;obtain⟨q3,rfl⟩:=Q.ptr;simp only at W;clear O c0 c1 c2 c3 f0 f1 f2 f3 t0 t1 t2 sc;by_cases F:n=2
      ·have a7:((n:Int) != 2)=false:=by simp_all
       rw[lJ F]at l;clear F;go_wp2;go_roundw
       case rel=>exact⟨opX t.x x y.1,y.2,g,false,rfl,zx1 T S rfl<|rP X B.size,C.below<|jZ _,(u.trans B).alloc _,(λh=>ig),(λ_=>l)⟩
       case measure=>
        rw[((ku C).below (jZ _)).kk4,(ku c).kk4];simp[bOf];omega
      ·have a7:((n:Int) != 2)=true:=by simp;omega
       rw[Xy F]at l;clear F;go_wp2;go_roundw
       case rel=>exact⟨opX t.x x y.1,y.2,g,true,rfl,zx1 T S rfl<|rP X B.size,C.below<|jZ _,(u.trans B).alloc _,(λ_=>⟨l,zy6 aj aj,aj⟩),(λh=>ig)⟩
       case measure=>
        rw[((ku C).below (jZ _)).kk4,(ku c).kk4];omega
    ·obtain⟨g,rfl⟩:∃g',g=g'+1:=⟨g-1,by rw[pwa k]at N;omega⟩;rw[zy2 g n x L a G,k]at j;simp only[Xw]at j;rw[k]at c3;have l:=oz j;clear j;go_wp2;go_ret;rw[<-ku l];exact⟨_,rfl,D,c,J⟩
 ·rw[hb]at c3;have E:Hid (rX (f+1) n .nil L st=(qj1,st)):=by
   by_cases Y:n=4
   ·subst Y;rw[jwn,hb];rfl
   ·rw[jqg f n .nil L st aj,hb];rfl
  go_wp2;go_ret;rw[ku E];exact⟨_,rfl,zjo rfl<|jH,H.below<|jZ _,(Kept.refl _ _).alloc _⟩
theorem levels(f:Nat):qv0 f/\qyg f:=by
 have h:∀f,(∀g,g<=f->qv0 g)/\qyg f:=by
  intro f;induction f with
  |zero=>
   have b:∀(L:List Tok)(c:Nat)(w:World)(R:Nat)(v:Value)(st:RS),Rd w R v L st->¬need L c st<=0:=by intro L c w R v st h hn;have:=h.lt;grind [need]
   refine⟨λg d=>?_,λn w R v L st _ h _ a=>absurd a<|b _ _ _ _ _ _ h⟩;have:g=0:=aj;subst this;exact λn w R v L st _ h _ a=>absurd a<|b _ _ _ _ _ _ h
  |succ f ih=>
   grind [pk6,vwy]
 exact⟨(h f).1 f<|jH,(h f).2⟩
structure SLab where
 N:PX
 value:PX
 A:PX
variable {i5:SLab}
abbrev PB:=Go.Deep.BT SLab
variable {blk:RS->PB×RS}
def noS:SLab:={N:=.nil,value:=.nil,A:=.nil}
def kkp:PB->PB->PB
 |.nil,b=>b
 |.node i j a s n,b=>.node i j a s<|kkp n b
theorem jzk:∀a:PB,kkp a .nil=a
 |.nil=>rfl
 |.node i j a s n=>by rw[kkp,jzk n]
theorem zz0:∀a b c:PB,kkp (kkp a b) c=kkp a (kkp b c)
 |.nil,_,_=>rfl
 |.node i j a s n,b,c=>by rw[kkp,kkp,kkp,zz0 n b c]
def ifS(c:PX)(t e:PB):PB:=.node 0 0 {N:=.nil,value:=.nil,A:=c} (.node 0 0 noS t e) .nil
def pvs(p v:PX):PB:=.node 0 0 {N:=p,value:=v,A:=.nil} .nil .nil
def kqb(L:List Tok):Nat:=8*L.length+8
def rDo(blk:RS->PB×RS)(L:List Tok)(st:RS):PB×RS:=
 if zk L mY st then
  if zk L nU (blk (rX (kqb L) 0 .nil L<|qg L mY st).2).2 then
   (ifS (rX (kqb L) 0 .nil L<|qg L mY st).1 (blk (rX (kqb L) 0 .nil L<|qg L mY st).2).1 (blk<|qg L nU (blk (rX (kqb L) 0 .nil L<|qg L mY st).2).2).1,
    (blk<|qg L nU (blk (rX (kqb L) 0 .nil L<|qg L mY st).2).2).2)
  else (ifS (rX (kqb L) 0 .nil L<|qg L mY st).1 (blk (rX (kqb L) 0 .nil L<|qg L mY st).2).1 .nil,(blk (rX (kqb L) 0 .nil L<|qg L mY st).2).2)
 else (pvs (kqy L st).1 (rX (kqb L) 0 .nil L<|qg L [61] (kqy L st).2).1,qg L [59] (rX (kqb L) 0 .nil L<|qg L [61] (kqy L st).2).2)
def rS:Nat->Nat->List Tok->RS->PB×RS
 |0,_,_,st=>(.nil,st)
 |f+1,0,L,st=>((rS f 1 L<|qg L [123] st).1,qg L [125] (rS f 1 L<|qg L [123] st).2)
 |f+1,_+1,L,st=>
  if zk L [125] st||st.s then (.nil,st)
  else (kkp (rDo (rS f 0 L) L st).1 (rS f 1 L (rDo (rS f 0 L) L st).2).1,(rS f 1 L (rDo (rS f 0 L) L st).2).2)
theorem kqk(h:st.s=true):zk L b9 st=false:=by simp[zk,qqb,h]
theorem kkk(h:st.s=true):(qg L b9 st).s=true:=by simp[qg,kqk h]
theorem qyf(h:st.s=true):(zq L b9 st).2.s=true:=by simp[zq,kqf,h]
theorem kk2(h:st.s=true):∀(f tag:Nat)(x:PX),(rX f tag x L st).2=st
 |0,_,_=>rfl
 |f+1,tag,x=>by grind [rX]
theorem qwg{L:List Tok}{st:RS}(h:st.s=true):∀f tag:Nat,(rS f tag L st).2.s=true
 |0,_=>h
 |f+1,0=>by
  rw[rS];exact kkk<|qwg (kkk h) f 1
 |f+1,t+1=>by rw[rS];simp[h]
theorem zzo(a:∀s,s.v<=(blk s).2.v)(L:List Tok)(st:RS):st.v<=(rDo blk L st).2.v:=by grind [rDo,yh,kvl,zvr]
theorem kkc(L:List Tok):∀(f tag:Nat)(st:RS),st.v<=(rS f tag L st).2.v
 |0,_,_=>jH
 |f+1,0,st=>by
  rw[rS];exact rP (yh L [123] st)<|rP (kkc L f 1 _) (yh L [125] _)
 |f+1,t+1,st=>by
  rw[rS];split
  ·simp
  ·exact rP (zzo (λs=>kkc L f 0 s) L st) (kkc L f 1 _)
theorem jqm(hb:(zq L b9 st).2.s=false):(zq L b9 st).2.v=st.v+1:=by grind [zq]
theorem qwd(c:∀s,s.v<=(blk s).2.v)(e:∀s,s.s=true->(blk s).2.s=true)(h:(rDo blk L st).2.s=false):st.v+1<=(rDo blk L st).2.v:=by
 have nb:∀{p:Bool},¬p=true->p=false:=λh=>by simp_all
 by_cases hi:zk L mY st=true
 ·grind [qqd,kvl,kqb,rX,rDo,yh]
 ·unfold rDo at h |-;rw[Xy hi]at h |-;simp only at h |-;have d:(kqy L st).2.s=false:=nb λhb=>by grind [kkk,kk2]
  have a:(zq L mX st).2.s=false:=nb λhb=>by grind [kqy,kqk]
  have h1:=jqm a;have b:(zq L mX st).2.v<=(kqy L st).2.v:=by
   unfold kqy;simp only;split
   ·grind [yh,kj1]
   simp
  grind [kvl,kqb,qg,rX]
def qva(lo:Nat)(w:World)(a:SLab)(vp vv vi:Value):Prop:=yw lo w a.N vp/\yw lo w a.value vv/\yw lo w a.A vi
def jg(lo:Nat)(no:Option Nat)(w:World):PB->List Value->Prop
 |.nil,ps=>ps=[]
 |.node _ _ a .nil n,ps=>∃k vp vv vi qs,ps=.pointer (some ⟨k,0,none⟩)::qs/\lo<=k/\w.heap[k]?=some (.cells #[vp,vv,vi,.slice none 0 0,.slice none 0 0] 247 (0,0))/\qva lo w a vp vv vi/\jg lo no w n qs
 |.node _ _ a (.node _ _ _ t e) n,ps=>∃k vp vv vi vt ve qt qe qs,ps=.pointer (some ⟨k,0,none⟩)::qs/\lo<=k/\w.heap[k]?=some (.cells #[vp,vv,vi,vt,ve] 247 (0,0))/\qva lo w a vp vv vi /\
   (w.ownsRow lo 245 1 vt qt.length qt/\(∀j,vt.ownBlock=some j->no≠some j)/\jg lo no w t qt)/\(w.ownsRow lo 245 1 ve qe.length qe/\(∀j,ve.ownBlock=some j->no≠some j)/\jg lo no w e qe)/\jg lo no w n qs
theorem xg(d:∀k,lo<=k->k<w.heap.size->w'.heap[k]?=w.heap[k]?)(h:w.ownsRow lo e size v n xs):w'.ownsRow lo e size v n xs:=by
 obtain⟨h1,a⟩:=h;refine⟨h1,?_⟩;obtain a|⟨g,cap,cur,hv,b,c,r⟩:=a
 ·simp_all
 ·exact .inr ⟨g,cap,cur,hv,b,by grind,r⟩
theorem qo(c:lo'<=lo)(h:w.ownsRow lo e size v n xs):w.ownsRow lo' e size v n xs:=by
 obtain⟨h1,a⟩:=h;refine⟨h1,?_⟩;obtain a|⟨g,cap,cur,hv,b,r⟩:=a
 ·simp_all
 ·exact .inr ⟨g,cap,cur,hv,rP c b,r⟩
theorem qva.stay(a:∀k,lo<=k->k<w.heap.size->w'.heap[k]?=w.heap[k]?)(h:qva lo w i5 vp vv vi):qva lo w' i5 vp vv vi:=⟨h.1.stay a,h.2.1.stay a,h.2.2.stay a⟩
theorem qva.mono(a:lo'<=lo)(h:qva lo w i5 vp vv vi):qva lo' w i5 vp vv vi:=⟨h.1.mono a,h.2.1.mono a,h.2.2.mono a⟩
theorem jg.stay(c:∀k,lo<=k->k<w.heap.size->w'.heap[k]?=w.heap[k]?):∀{b:PB}{ps:List Value},jg lo no w b ps->jg lo no w' b ps
 |.nil,_,h=>h
 |.node _ _ a .nil n,ps,⟨k,vp,vv,vi,qs,e,hl,hh,ha,hn⟩=>⟨k,vp,vv,vi,qs,e,hl,by grind,ha.stay c,jg.stay c hn⟩
 |.node _ _ a (.node _ _ _ t e) n,ps,⟨k,vp,vv,vi,vt,ve,qt,qe,qs,e1,hl,hh,ha,⟨ht1,ht3,ht2⟩,⟨he1,he3,he2⟩,hn⟩=>
  ⟨k,vp,vv,vi,vt,ve,qt,qe,qs,e1,hl,by grind,ha.stay c,⟨xg c ht1,ht3,jg.stay c ht2⟩,⟨xg c he1,he3,jg.stay c he2⟩,jg.stay c hn⟩
theorem jg.mono(c:lo'<=lo):∀{b:PB}{ps:List Value},jg lo no w b ps->jg lo' no w b ps
 |.nil,_,h=>h
 |.node _ _ a .nil n,ps,⟨k,vp,vv,vi,qs,e,hl,hh,ha,hn⟩=>⟨k,vp,vv,vi,qs,e,rP c hl,hh,ha.mono c,jg.mono c hn⟩
 |.node _ _ a (.node _ _ _ t e) n,ps,⟨k,vp,vv,vi,vt,ve,qt,qe,qs,e1,hl,hh,ha,⟨ht1,ht3,ht2⟩,⟨he1,he3,he2⟩,hn⟩=>
  ⟨k,vp,vv,vi,vt,ve,qt,qe,qs,e1,rP c hl,hh,ha.mono c,⟨qo c ht1,ht3,jg.mono c ht2⟩,⟨qo c he1,he3,jg.mono c he2⟩,jg.mono c hn⟩
theorem jg.app{lo:Nat}{no:Option Nat}{w:World}:∀{b c:PB}{ps qs:List Value},jg lo no w b ps->jg lo no w c qs->jg lo no w (kkp b c) (ps++qs)
 |.nil,c,ps,qs,h,h'=>by
  have:ps=[]:=h;subst this;exact h'
 |.node _ _ a .nil n,c,ps,qs,⟨k,vp,vv,vi,rs,e,hl,hh,ha,hn⟩,h'=>⟨k,vp,vv,vi,rs++qs,by simp_all,hl,hh,ha,hn.app h'⟩
 |.node _ _ a (.node _ _ _ t e) n,c,ps,qs,⟨k,vp,vv,vi,vt,ve,qt,qe,rs,e1,hl,hh,ha,ht,he,hn⟩,h'=>⟨k,vp,vv,vi,vt,ve,qt,qe,rs++qs,by simp_all,hl,hh,ha,ht,he,hn.app h'⟩
theorem jg.shun(c:∀k,no'=some k->no=some k\/w.heap.size<=k\/k<lo):∀{b:PB}{ps:List Value},jg lo no w b ps->jg lo no' w b ps
 |.nil,_,h=>h
 |.node _ _ a .nil n,ps,⟨k,vp,vv,vi,qs,e,hl,hh,ha,hn⟩=>⟨k,vp,vv,vi,qs,e,hl,hh,ha,jg.shun c hn⟩
 |.node _ _ a (.node _ _ _ t e) n,ps,⟨k,vp,vv,vi,vt,ve,qt,qe,qs,e1,hl,hh,ha,⟨ht1,ht3,ht2⟩,⟨he1,he3,he2⟩,hn⟩=>by
  have out:∀{v:Value}{q:List Value},w.ownsRow lo 245 1 v q.length q->(∀j,v.ownBlock=some j->no≠some j)->∀j,v.ownBlock=some j->no'≠some j:=by intro v q h1 i j d l;have f:=jo h1 j d;have g:=kq9 h1 j d;grind
  exact⟨k,vp,vv,vi,vt,ve,qt,qe,qs,e1,hl,hh,ha,⟨ht1,out ht1 ht3,jg.shun c ht2⟩,⟨he1,out he1 he3,jg.shun c he2⟩,jg.shun c hn⟩
theorem not_row(hv:w.ownsRow base e size v n xs)(d:w.heap[k]?=some (.cells cs t fr))(b:t≠e):some k≠v.ownBlock:=by
 intro a;obtain⟨rfl,_⟩|⟨g,cap,cur,rfl,_,c,_⟩:=hv.2
 ·simp[Value.ownBlock]at a
 grind [Value.ownBlock]
theorem yw.grown{lo base e:Nat}{w w':World}{v:Value}{n:Nat}{xs:List Value}(hv:w.ownsRow base e 1 v n xs)(a:242≠e)(b:w.grownBy w' v.ownBlock):∀{x:PX}{p:Value},yw lo w x p->yw lo w' x p
 |.nil,_,h=>h
 |.node _ _ _ _ _,_,⟨k,va,vb,e1,hn,hh,ha,hb⟩=>⟨k,va,vb,e1,hn,jB,yw.grown hv a b ha,yw.grown hv a b hb⟩
theorem jg.kept{i6:PB}(h:jg lo no w i6 xs)(b:Kept R w w')(hR:R<lo):jg lo no w' i6 xs:=h.stay λk h1 a=>b.block k a aj
theorem jr(h:w.ownsRow lo e size v n xs)(b:Kept R w w')(hR:R<lo):w'.ownsRow lo e size v n xs:=xg (λk h1 a=>b.block k a aj) h
def qzd(L:List Tok)(k c:Nat)(st:RS)(f:Nat):Prop:=if st.s then k<=f else 4*(L.length-st.v)+c<=f
theorem zxm(h:4*(L.length-st.v)+c<=f)(a:k<=f):qzd L k c st f:=by grind [qzd]
theorem zxb(hb:st.s=false)(h:qzd L k c st f):4*(L.length-st.v)+c<=f:=by simpa[qzd,hb] using h
theorem pk5(hb:st.s=true)(h:qzd L k c st f):k<=f:=by simpa[qzd,hb] using h
theorem vy9(a:st.v<L.length)(d:4*(L.length-st.v)+R<=f+1)(b:c<=R+3)(e:k<=f):qzd L k c (qg L b9 st) f:=by grind [qzd,qqd]
def xk9(R:Nat)(v:Value)(L:List Tok)(w:World)(r:PB×RS)(e:Ending)(w':World):Prop:=
 ∃vs ps,e=.returned vs/\w'.ownsRow w.heap.size 245 1 vs ps.length ps/\jg w.heap.size none w' r.1 ps/\Rd w' R v L r.2/\Kept R w w'
def xy7(R:Nat)(v:Value)(L:List Tok)(w:World)(r:PB×RS)(e:Ending)(w':World):Prop:=
 ∃p,e=.returned (.pointer p)/\jg w.heap.size none w' r.1 [.pointer p]/\Rd w' R v L r.2/\Kept R w w'
def zqw(f:Nat):Prop:=∀(w:World)(R:Nat)(v:Value)(L:List Tok)(st:RS),Rd w R v L st->jzo L->qzd L 2 3 st f ->
 Calls prog 109 #[.pointer (some ⟨R,0,none⟩)] w (xk9 R v L w<|rS f 0 L st)
def xj6(f:Nat):Prop:=∀(w:World)(R:Nat)(v:Value)(L:List Tok)(st:RS),Rd w R v L st->jzo L->qzd L 2 2 st (f+1) ->
 Calls prog 177 #[.pointer (some ⟨R,0,none⟩)] w (xy7 R v L w<|rDo (rS f 0 L) L st)
theorem qvu(h:Rd w R v L st)(a:jzo L):og 108 #[.pointer (some ⟨R,0,none⟩),.int .i64 0] w (xql R v L w<|rX (kqb L) 0 .nil L st):=
 (levels<|kqb L).1 0 w R v L st aj h a (zy6 (by unfold kqb;omega) (by unfold kqb;omega))
theorem kzk(h:w.heap[b]?=some (.cells #[x0,x1,x2,x3,x4] t (0,0))):Ce w b 0 x0/\Ce w b 1 x1/\Ce w b 2 x2/\Ce w b 3 x3/\Ce w b 4 x4 /\
  Fr w b 0/\Fr w b 1/\Fr w b 2/\Fr w b 3/\Fr w b 4:=
 ⟨rc h 0,rc h 1,rc h 2,rc h 3,rc h 4,
  rf h 0,rf h 1,rf h 2,rf h 3,rf h 4⟩
theorem kj9{o:Nat}:∀k,R+1<=k->k<w.heap.size->(w.setCell ⟨R,o,none⟩ u).heap[k]?=w.heap[k]?:=λk h _=>hsC (by grind)
theorem qh(h:w.ownsRow lo e size v n xs):∃a l c,v=.slice a l c:=by
 obtain⟨rfl,_⟩|⟨g,cap,cur,rfl,_⟩:=h.2
 ·simp
 simp
theorem xja(hi:zk L mY st=false):rDo blk L st=(pvs (kqy L st).1 (rX (kqb L) 0 .nil L<|qg L [61] (kqy L st).2).1,qg L [59] (rX (kqb L) 0 .nil L<|qg L [61] (kqy L st).2).2):=by unfold rDo;simp_all
theorem xke{i7:PX×RS}{i8:PB×RS}(hi:zk L mY st=true)(a:rX (kqb L) 0 .nil L (qg L mY st)=i7)(b:blk i7.2=i8):rDo blk L st=if zk L nU i8.2 then (ifS i7.1 i8.1 (blk<|qg L nU i8.2).1,(blk<|qg L nU i8.2).2) else (ifS i7.1 i8.1 .nil,i8.2):=by grind [rDo]
theorem xzs(f:Nat)(hB:zqw f):xj6 f:=by
 intro w R v L st h F hf;have A:R<w.heap.size:=wQ h.rd;have x:=kq9 h.xu;have a6:=h.lt;go_in;go_wp21;refine(kjg mY<|h.below (jZ _)).mono ?_;rintro e w1 ⟨rfl,H1,S⟩;have I:=((Kept.refl R w).alloc _).trans S;have j:=oz<|(S.block w.heap.size ay aj).trans jF;cases hi:zk L mY st
 ·have t:=xja (blk:=rS f 0 L) hi;go_wp21;refine(jkk H1).mono ?_;rintro e w2 ⟨G,rfl,U,h2,k⟩;have b:=(k.block w.heap.size (wQ j) aj).trans j;have d0:=kzk b;obtain⟨G,rfl⟩:=U.ptr;generalize kqy L st=P at *;go_wp21;refine(kq1 [61]<|(oz h2).jm x A ay _).mono ?_;rintro e w3 ⟨rfl,h3,i⟩;have c:=(i.block w.heap.size (by simpa using wQ b) aj).trans<|jL _ 0 _ _ (.pointer G) b;go_wp21
  refine(qvu (oz h3) F).mono ?_;rintro e w4 ⟨E,rfl,X,h4,g⟩;have d:=(g.block w.heap.size (wQ c) aj).trans c;have d0:=kzk d;obtain⟨E,rfl⟩:=X.ptr;generalize rX (kqb L) 0 .nil L (qg L [61] P.2)=V at *;go_wp21;refine(kq1 [59]<|(oz h4).jm x A ay _).mono ?_;rintro e w5 ⟨rfl,h5,a⟩;have q:=(((((I.trans k).jm (p:=⟨w.heap.size,0,none⟩) ay<|.pointer G).trans i).trans g).jm (p:=⟨w.heap.size,1,none⟩) ay<|.pointer E).trans a;have s:=(((((U.mono (lo':=w.heap.size+1)<|wQ j).stay<|kj9 (o:=0) (u:=.pointer G)).kept i aj).kept g aj).stay<|kj9 (o:=1) (u:=.pointer E)).kept a aj;go_wp2;go_ret;rw[t];exact⟨_,rfl,⟨_,_,_,_,[],rfl,jH,((a.block w.heap.size (by simpa using wQ d) aj).trans<|jL _ 1 _ _ (.pointer E) d),⟨s.mono aj,(((X.mono (lo':=w.heap.size+1)<|wQ c).stay<|kj9 (o:=1) (u:=.pointer E)).kept a aj).mono aj,rfl⟩,rfl⟩,(oz h5),q⟩
 ·have a5:4*(L.length-st.v)+2<=f+1:=zxb (next_lt H1 hi).2 hf;go_wp21;refine(kq1 mY H1).mono ?_;rintro e w2 ⟨rfl,h2,k⟩;have b:=(k.block w.heap.size (wQ j) aj).trans j;have a4:(qg L mY st).v=st.v+1:=by apply qqd;unfold qg;rw[hi];rfl
  go_wp21;refine(qvu (oz h2) F).mono ?_;rintro e w3 ⟨H,rfl,W,H3,i⟩;have c:=(i.block w.heap.size (wQ b) aj).trans b;have d0:=kzk c;have J:=W.mono (lo':=w.heap.size+1)<|wQ b;obtain⟨H,rfl⟩:=W.ptr;have a0:=kvl (kqb L) 0 .nil L<|qg L mY st;generalize HC:rX (kqb L) 0 .nil L (qg L mY st)=C at J H3 a0;go_wp21
  refine(hB _ R v L C.2 (H3.jm x A ay _) F<|zxm aj aj).mono ?_;rintro e w4 ⟨vs,qs,rfl,Z,a3,H4,g⟩;have B:=wQ c;have d:=(g.block w.heap.size (by simp_all) aj).trans<|jL _ 2 _ _ (.pointer H) c;have d0:=kzk d;have K:=a3.mono (lo':=w.heap.size+1) (by have:=B;simp;omega);obtain⟨sa,sl,sc,rfl⟩:=qh Z;have a1:=kkc L f 0 C.2;generalize ht:rS f 0 L C.2=T at K H4 a1;have t:=oz<|xke (blk:=rS f 0 L) hi HC ht;go_wp21
  refine(kjg nU<|H4.jm x A ay _).mono ?_;rintro e w5 ⟨rfl,H5,a⟩;have y:=(a.block w.heap.size (by simpa using wQ d) aj).trans<|jL _ 3 _ _ (.slice sa sl sc) d;have q:=(((((I.trans k).trans i).jm (p:=⟨w.heap.size,2,none⟩) ay<|.pointer H).trans g).jm (p:=⟨w.heap.size,3,none⟩) ay<|.slice sa sl sc).trans a;have s:=(((J.stay<|kj9 (o:=2) (u:=.pointer H)).kept g aj).stay<|kj9 (o:=3) (u:=.slice sa sl sc)).kept a aj;have M:=(K.stay<|kj9 (o:=3) (u:=.slice sa sl sc)).kept a aj;have N:=jr (xg (kj9 (o:=3) (u:=.slice sa sl sc))<|qo (lo':=w.heap.size+1) (by have:=B;simp;omega) Z) a aj;cases Q:zk L nU T.2
  ·rw[Q]at t;go_wp2;go_ret;rw[t];exact⟨_,rfl,⟨_,_,_,_,_,_,_,[],[],rfl,jH,y,⟨rfl,rfl,s.mono aj⟩,⟨qo aj N,(λ_ _ h=>ig),M.mono aj⟩,⟨oN,(λ_ _ h=>ig),rfl⟩,rfl⟩,H5,q⟩
  ·rw[Q]at t;go_wp21;refine(kq1 nU H5).mono ?_;rintro e w6 ⟨rfl,h6,l⟩;have z:=(l.block w.heap.size (wQ y) aj).trans y;have a7:=yh L nU T.2;go_wp21;refine(hB _ R v L _ (oz h6) F<|zxm aj aj).mono ?_;rintro e w7 ⟨ve,qe,rfl,Y,a2,h7,m⟩;have D:=wQ z;have O:=(m.block w.heap.size (wQ z) aj).trans z;have d0:=kzk O;obtain⟨ea,el,ec,rfl⟩:=qh Y;go_wp2;go_ret;rw[t];exact⟨_,rfl,⟨_,_,_,_,_,_,_,_,[],rfl,jH,jL _ 4 _ _ (.slice ea el ec) O,⟨rfl,rfl,(((s.kept l aj).kept m aj).stay kj9).mono aj⟩,⟨qo aj<|xg kj9 (jr (jr N l aj) m aj),(λ_ _ h=>ig),(((M.kept l aj).kept m aj).stay kj9).mono aj⟩,
    ⟨qo aj<|xg kj9 (qo (lo':=w.heap.size+1) D Y),(λ_ _ h=>ig),((a2.mono (lo':=w.heap.size+1) D).stay kj9).mono aj⟩,rfl⟩,(oz h7).jm x A ay _,((q.trans l).trans m).jm ay _⟩
section
def pyi(P:Program)(t e size:Nat):Bool:=
 (match P.underlying t with|some (.slice e')=>e'==e|_=>false) &&
 (match P.info? e with|some i=>i.size==size&&decide (i.bytes<=1000)&&(match i.zero with|some z=>z.cells.size==size|none=>false)|none=>false)&&decide (0<size)
theorem pye(h:pyi prog R e size=true):∃i z,prog.underlying R=some (.slice e)/\prog.info? e=some i/\i.zero=some z/\i.size=size/\z.cells.size=size/\i.bytes<=1000/\0<size:=by grind [pyi]
theorem vkj(hn:n<=1000000)(hb:b<=1000):(n+1)*b<=140737488355328:=rP (Jt (Nat.add_le_add_right hn 1) hb) aj
theorem alloc_at(b:Nat)(h:w.heap.size=b):(w.alloc o).heap[b]?=some o:=by subst h;exact Xk w o
section
variable {w:World} {base e size n t b tt:Nat} {v:Value} {xs news:List Value} {ops:Array Oper} {rest:List Oper} {o:Oper} {a:Act} {Q:Exit->Act->World->Prop} {s x:Operand}
theorem apO(c:w.ownsRow base e size v n xs)(h:∀v' w',w'.ownsRow base e size v' (n+1) (xs++news)->w.grownBy w' v.ownBlock->(v'=.slice none 0 0↔v=.slice none 0 0/\1=0)->(v'.ownBlock=v.ownBlock\/v'.ownBlock=some w.heap.size)->wpList prog ops Q rest (a.put o.dst v') w')(p:o.op=.call {callee:=.builtin .append,args:=#[s,x],argTypes:=#[t,t]}:=by exact rfl)(d:o.guard=none:=by exact rfl)(q:a.eval s=v:=by exact rfl)(B:a.eval x=.slice (some ⟨b,0,none⟩) 1 1:=by exact rfl)(A:w.heap[b]?=some (.cells news.toArray tt (0,0)):=by first|exact jF|exact alloc_at _ ay)(h1:news.all Value.oneCell'=true:=by rfl)(m:news.length=1*size:=by rfl)(f:pyi prog t e size=true:=by kernel_rfl)(hn:n<=1000000:=by first|omega|(simp;done)|(simp;omega))(hb:base<=w.heap.size:=by first|omega|(simp;done)|(simp;omega)):wpList prog ops Q (o::rest) a w:=by have ⟨i,z,g,j,k,g4,l,g6,g7⟩:=pye f;exact Ja _ d s x t p base e i z size i.bytes g j k g4 rfl l g7 v n xs q c ⟨b,0,none⟩ 1 1 news B m (World.news_of_block A) (λu y=>sJ.1 h1 u y) iq (vkj hn g6) hb h
theorem apL{i9:Act->World->Prop}{H:Nat}(c:w.ownsRow base e size v n xs)(C:w.heap[b]?=some (.cells news.toArray tt (0,0)))(h:∀g cap w',w'.ownsRow base e size (.slice (some ⟨g,0,none⟩) (n+1) cap) (n+1) (xs++news)->w.grownBy w' v.ownBlock->(v.ownBlock=some g\/g=H)->g<w'.heap.size->i9 (a.put o.dst<|.slice (some ⟨g,0,none⟩) (n+1) cap) w')(y:o.op=.call {callee:=.builtin .append,args:=#[s,x],argTypes:=#[t,t]}:=by exact rfl)(d:o.guard=none:=by exact rfl)(A:a.eval s=v:=by exact rfl)(D:a.eval x=.slice (some ⟨b,0,none⟩) 1 1:=by exact rfl)(hH:w.heap.size=H:=by exact tV _ _)(h1:news.all Value.oneCell'=true:=by rfl)(q:news.length=1*size:=by rfl)(f:pyi prog t e size=true:=by kernel_rfl)(hn:n<=1000000:=by first|omega|(simp;done)|(simp;omega))(hb:base<=w.heap.size:=by first|omega|(simp;done)|(simp;omega)):if Region.wanted o (yielded ops a.tmps)=true then Oper.wp prog o a w i9 Q else p:=by have ⟨i,z,j,k,l,g4,m,g6,g7⟩:=pye f;exact step_append_lies _ d s x t y base e i z size i.bytes j k l g4 rfl m g7 v n xs A c ⟨b,0,none⟩ 1 1 news D q (World.news_of_block C) (λu B=>sJ.1 h1 u B) aj iq (vkj hn g6) hb H hH h
end
end
def xj7(f:Nat)(w:World)(R:Nat)(v:Value)(L:List Tok)(fin:PB×RS)(l m:Value)(wr:World):Prop:=
 ∃(ps:List Value)(acc:PB)(st:RS)(g:Nat),m=.bool (zk L [125] st)/\wr.ownsRow w.heap.size 245 1 l ps.length ps/\jg w.heap.size l.ownBlock wr acc ps/\Rd wr R v L st/\Kept R w wr /\
  (kkp acc (rS g 1 L st).1,(rS g 1 L st).2)=fin/\qzd L 1 2 st g/\g<=f/\ps.length<=st.v+st.s.toNat
def zqp(w:World)(R:Nat):Nat:=match w.cell? ⟨R,3,none⟩ with
 |some (.bool false)=>1
 |_=>0
theorem Rd.zqp(h:Rd w R v L st):Go.Proofs.YtpmcnonmkghokaaGreatDoor.zqp w R=(!st.s).toNat:=by have ⟨c0,c1,c2,c3,_⟩:=row4 h.rd;unfold Go.Proofs.YtpmcnonmkghokaaGreatDoor.zqp;rw[c3];cases st.s<;>rfl
theorem jg.kva(hv:w.ownsRow base 245 1 v n xs)(c:w.grownBy w' v.ownBlock)(f:∀k,no'=some k->v.ownBlock=some k\/w.heap.size<=k):∀{b:PB}{ps:List Value},jg lo v.ownBlock w b ps->jg lo no' w' b ps
 |.nil,_,h=>h
 |.node _ _ a .nil nx,ps,⟨k,vp,vv,vi,qs,e,hl,hh,ha,hn⟩=>⟨k,vp,vv,vi,qs,e,hl,kY,⟨ha.1.grown hv ak c,ha.2.1.grown hv ak c,ha.2.2.grown hv ak c⟩,jg.kva hv c f hn⟩
 |.node _ _ a (.node _ _ _ t e) nx,ps,⟨k,vp,vv,vi,vt,ve,qt,qe,qs,e1,hl,hh,ha,⟨ht1,ht3,ht2⟩,⟨he1,he3,he2⟩,hn⟩=>by
  have d:∀{u:Value}{q:List Value},w.ownsRow lo 245 1 u q.length q->(∀j,u.ownBlock=some j->v.ownBlock≠some j)->w'.ownsRow lo 245 1 u q.length q/\∀j,u.ownBlock=some j->no'≠some j:=by
   intro u q h1 l;refine⟨h1.kept c ?_,λj g m=>?_⟩
   ·cases p:u.ownBlock with
    |none=>simp
    |some j=>grind
   ·have i:=kq9 h1 j g;grind
  exact⟨k,vp,vv,vi,vt,ve,qt,qe,qs,e1,hl,kY,⟨ha.1.grown hv ak c,ha.2.1.grown hv ak c,ha.2.2.grown hv ak c⟩,
   ⟨(d ht1 ht3).1,(d ht1 ht3).2,jg.kva hv c f ht2⟩,⟨(d he1 he3).1,(d he1 he3).2,jg.kva hv c f he2⟩,jg.kva hv c f hn⟩
theorem vw0(a:x0.ownBlock=v.ownBlock\/x0.ownBlock=some B):∀k,x0.ownBlock=some k->v.ownBlock=some k\/B<=k:=by grind
theorem Kept.grown(h:Kept R a w)(b:w.grownBy w' v.ownBlock)(hv:∀k,v.ownBlock=some k->a.heap.size<=k):Kept R a w':=
 ⟨b.os.trans h.os,b.tape.trans h.tape,b.output.trans h.output,rP h.size b.size,λk c hn=>(b.block k (sV c h.size)<|λe=>by grind).trans<|h.block k c hn⟩
theorem Rd.grown(h:Rd w R v L st)(a:w.grownBy w' u.ownBlock)(c:∀k,u.ownBlock=some k->B<=k)(b:∀g,v.ownBlock=some g->g<B)(hR:R<B):Rd w' R v L st:=by
 refine⟨by rw[a.block R (wQ h.rd) (λe=>by grind)];exact h.rd,?_,h.ne,h.lt,h.T,h.fin,h.nlo,h.nhi⟩;refine h.xu.kept a ?_;cases hv:v.ownBlock with
 |none=>simp
 |some j=>grind
theorem vy6(f:Nat)(T:∀g,g+1<=f->xj6 g):zqw (f+1):=by
 intro w R v L st h hD hf;have t:R<w.heap.size:=wQ h.rd;have Q:=show rS (f+1) 0 L st=((rS f 1 L<|qg L [123] st).1,qg L [125] (rS f 1 L<|qg L [123] st).2) by rw[rS]
 have W:qzd L 1 2 (qg L [123] st) f:=by
  cases hb:st.s
  ·have:=zxb hb hf;exact vy9 h.lt this aj aj
  grind [qzd,kkk]
 go_in;go_wp21;refine(kq1 [123] h).mono ?_;rintro e w1 ⟨rfl,h1,X⟩;go_wp21;refine(kjg [125] h1).mono ?_;rintro e w2 ⟨rfl,h2,Y⟩;have HR:=show xj7 f w R v L (rS f 1 L<|qg L [123] st) (.slice none 0 0) (.bool<|zk L [125] (qg L [123] st)) w2 from
  ⟨[],.nil,qg L [123] st,f,rfl,oN,rfl,h2,X.trans Y,rfl,W,jH,jR⟩
 go_wp2;go_loopw [3,4] (λl m wr=>xj7 f w R v L (rS f 1 L<|qg L [123] st) l m wr) (λ_ _ wr=>2*(L.length-kk4 wr R)+zqp wr R);exact HR;obtain⟨ps,acc,c,g,rfl,y,K,u,B,(q:Hid _),A,a6,I⟩:=hrel;have a1:=u.T;have ⟨c0,c1,c2,c3,f0,f1,f2,f3⟩:=row4 u.rd;have Z:=B.size;obtain⟨la,ll,lc,rfl⟩:=qh y;cases hn:(zk L [125] c||c.s)
 ·rw[Qi]at hn;obtain⟨H,b⟩:=hn;have a0:=zxb b A;obtain⟨g,rfl⟩:=qqy g;rw[b]at c3;have x:=q;rw[rS,H,b]at x;simp only[Qg,ru,Xv]at x;have q:=oz x;go_wp21;refine(T g aj _ R v L c u hD<|zxm aj aj).mono ?_;rintro e w3 ⟨p,rfl,hp,J,a⟩;have z:=jr y a t;have E:=(K.kept a t).app ((hp.shun (no':=(Value.slice la ll lc).ownBlock)<|λk j=>.inr<|.inr ((kq9 y) k j)).mono Z);have a2:=a.size;have D:(rDo (rS g 0 L) L c).2.s=false->c.v+1<=(rDo (rS g 0 L) L c).2.v:=qwd (λs=>kkc L g 0 s) (λs hs=>qwg hs g 0);have C:=zzo (λs=>kkc L g 0 s) L c;generalize rDo (rS g 0 L) L c=d at E J q D C;have a4:=J.lt;rw[b]at I;simp only[JB,Qk]at I;go_wp2_with (at_builtin;refine apO (z.alloc _) ?_)
  intro v' w4 S i _ U;have F:=jo z;have O:jg w.heap.size v'.ownBlock w4 (kkp acc d.1) (ps++[.pointer p]):=jg.kva (z.alloc _) i (λk j=>(vw0 U k j).imp id<|λh=>by simp_all) (E.stay<|λk _ j=>jj j);obtain⟨va,vl,vc,rfl⟩:=qh S;go_wp21;refine(kjg [125]<|oz ((J.below<|jZ _).grown i F (kq9 h.xu) t)).mono ?_;rintro e P ⟨rfl,N,G⟩;have a3:=show xj7 f w R v L (rS f 1 L<|qg L [123] st) (.slice va vl vc) (.bool<|zk L [125] d.2) P from
   ⟨ps++[.pointer p],kkp acc d.1,d.2,g,rfl,by grind [jr],(oz O).kept G t,N,(oz<|((B.trans a).alloc _).grown i F).trans G,by rw[zz0];exact q,
    by
     grind [qzd],aj,by
     rw[rD];cases V:d.2.s
     ·grind
     grind⟩
  have HM:=show 2*(L.length-kk4 P R)+zqp P R<2*(L.length-kk4 wr R)+zqp wr R by
   rw[N.kk4,N.zqp,u.kk4,u.zqp,b];cases V:d.2.s
   ·grind
   grind
  go_wp2;simp_all
 ·have a5:1<=g:=by
   cases b:c.s
   ·have:=zxb b A;omega
   ·exact pk5 b A
  obtain⟨g,rfl⟩:=qqy g;have x:=q;rw[rS,hn]at x;simp only[Xw,jzk]at x;have q:=oz x;cases H:zk L [125] c
  ·have b:c.s=true:=by simp_all
   rw[b]at c3;go_wp21;refine(kq1 [125] u).mono ?_;rintro e w3 ⟨rfl,M,a⟩;go_wp2;go_ret;rw[Q,<-q];exact⟨_,ps,rfl,(jr y a t),((K.kept a t).shun (no':=none)<|λk j=>by cases j),(oz M),(B.trans a)⟩
  ·go_wp21;refine(kq1 [125] u).mono ?_;rintro e w3 ⟨rfl,M,a⟩;go_wp2;go_ret;rw[Q,<-q];exact⟨_,ps,rfl,(jr y a t),((K.kept a t).shun (no':=none)<|λk j=>by cases j),(oz M),(B.trans a)⟩
theorem blocks(f:Nat):zqw f:=by
 have h:∀f,∀g,g<=f->zqw g:=by
  intro f;induction f with
  |zero=>
   intro g b w R v L st h _ a;have:g=0:=aj;subst this;have:=h.lt;unfold qzd at a;split at a<;>omega
  |succ f ih=>
   intro g b;by_cases e:g<=f
   ·simp_all
   ·have:g=f+1:=by omega
    grind [vy6,xzs]
 exact h f f<|jH
def qqn(L:List Tok):Nat:=4*L.length+4
theorem pk3(h:Rd w R v L st)(a:jzo L):og 109 #[.pointer (some ⟨R,0,none⟩)] w (xk9 R v L w<|rS (qqn L) 0 L st):=
 blocks (qqn L) w R v L st h a (zxm (by unfold qqn;omega) (by unfold qqn;omega))
def kkn:Nat->List Tok->List Tok->RS->List Tok×RS
 |0,_,l,st=>(l,st)
 |f+1,L,l,st=>
  if st.s then (l,st)
  else if zk L [44] (zq L mX st).2||decide (l.length+1<2) then kkn f L (l++[(zq L mX st).1]) (qg L [44] (zq L mX st).2)
  else (l++[(zq L mX st).1],(zq L mX st).2)
def kq2(L:List Tok):Nat:=L.length+2
def kkr(L:List Tok)(st:RS):List Tok×RS:=
 ((kkn (kq2 L) L []<|qg L [123] st).1,qg L [125] (kkn (kq2 L) L []<|qg L [123] st).2)
def qwf(L:List Tok)(st:RS)(f:Nat):Prop:=if st.s then 1<=f else L.length-st.v+1<=f
theorem qx6:qwf L st (kq2 L):=by unfold qwf kq2;grind
theorem zq1(h:qwf L st f):1<=f:=by unfold qwf at h;grind
theorem qvy(a:st.v<L.length)(hb:st.s=false)(h:qwf L st (f+1))(b:st'.s=false->st.v+1<=st'.v):qwf L st' f:=by grind [qwf]
theorem jv9{s:List UInt8}(h:(zq L s st).2.s=false):st.v+1<=(zq L s st).2.v:=by rw[jqm h];omega
theorem jkl{s:List UInt8}(a:st.s=false->st'.v+1<=st.v)(h:(qg L s st).s=false):st'.v+1<=(qg L s st).v:=by grind [kkk,yh]
def vq2(w:World)(R:Nat)(v:Value)(L:List Tok)(fin:List Tok×RS)(x m:Value)(wr:World):Prop:=
 ∃(l:List Tok)(st:RS)(g:Nat)(b:Bool),m=.bool b/\wr.ownsRow w.heap.size 142 3 x l.length (uw l)/\Rd wr R v L st/\Kept R w wr /\
  (b=true->kkn g L l st=fin/\qwf L st g)/\(b=false->(l,st)=fin)/\l.length<=st.v+st.s.toNat
def xxj(R:Nat)(v:Value)(L:List Tok)(w:World)(r:List Tok×RS)(e:Ending)(w':World):Prop:=
 ∃x,e=.returned x/\w'.ownsRow w.heap.size 142 3 x r.1.length (uw r.1)/\Rd w' R v L r.2/\Kept R w w'/\r.1.length<=801
theorem jwi{j0:Option Addr}(h:w.ownsRow lo e size (.slice j0 R c) n xs):R=n:=by
 obtain⟨a,b⟩|⟨_,_,_,a,_⟩:=h.2
 ·simp_all
 simp_all
theorem qqp(h:Rd w R v L st)(hn:n<=st.v+st.s.toNat):n<=801:=by
 have h1:=h.lt;have a:=h.T;have:st.s.toNat<=1:=by cases st.s<;>simp
 omega
theorem qyn(h:Rd w R v L st)(a:Rd w' R v L st')(hb:st.s=false)(d:st.v<=st'.v)(e:st'.s=false->st.v+1<=st'.v):2*(L.length-kk4 w' R)+zqp w' R<2*(L.length-kk4 w R)+zqp w R:=by
 rw[h.kk4,a.kk4,h.zqp,a.zqp,hb];have c:=a.lt;cases b:st'.s
 ·grind
 grind
theorem vz7(h:Rd w R v L st):Calls prog 175 #[.pointer (some ⟨R,0,none⟩)] w (xxj R v L w<|kkr L st):=by
 have u:R<w.heap.size:=wQ h.rd;go_in;go_wp21;refine(kq1 [123] h).mono ?_;rintro e w1 ⟨rfl,h1,P⟩;have W:=show vq2 w R v L (kkn (kq2 L) L []<|qg L [123] st) (.slice none 0 0) (.bool true) w1 from
  ⟨[],qg L [123] st,kq2 L,true,rfl,oN,h1,P,λ_=>⟨rfl,qx6⟩,λh=>ig,jR⟩
 go_wp2;go_loopw [3,4] (λl m wr=>vq2 w R v L (kkn (kq2 L) L []<|qg L [123] st) l m wr) (λ_ _ wr=>2*(L.length-kk4 wr R)+zqp wr R);exact W;obtain⟨l,B,g,b,rfl,q,f,z,Z,Y,i⟩:=hrel;have ⟨c0,c1,c2,c3,f0,f1,f2,f3⟩:=row4 f.rd;have a8:=z.size;obtain⟨la,ll,lc,rfl⟩:=qh q;have S:=jwi q;subst S;cases b
 ·have a:=Y rfl;go_wp21;refine(kq1 [125] f).mono ?_;rintro e w3 ⟨rfl,p,c⟩;go_wp2;go_ret;unfold kkr;rw[<-a];exact⟨_,rfl,(jr q c u),(oz p),(z.trans c),(qqp f i)⟩
 ·have ⟨a,E⟩:=Z rfl;obtain⟨g,rfl⟩:∃g',g=g'+1:=⟨g-1,by have:=zq1 E;omega⟩;cases d:B.s
  ·rw[kkn,d]at a;simp only[ru,Xv]at a;rw[d]at c3;go_wp21;refine(kxu mX f rfl).mono ?_;rintro e w3 ⟨rfl,p,c⟩;have y:=jv9 (L:=L) (s:=mX) (st:=B);have x:=kj1 L mX B;generalize zq L mX B=k at a p y x |-;have D:=jr q c u;have a1:=c.size;unfold kxt;go_wp2_with (at_builtin;refine apO (news:=ji k.1) ((D.alloc _).alloc _) ?_ (hn:=by have:=qqp f i;omega))
   intro v' w4 t j _ a3;have G:=jo D;obtain⟨va,vl,vc,rfl⟩:=qh t;have U:=jwi t;subst U;go_wp21;refine(kjg [44]<|oz (((oz p).below<|(bR.alloc jH _).alloc ay _).grown j G (kq9 h.xu) u)).mono ?_;rintro e w5 ⟨rfl,X,H⟩;have a2:=jr t H u;have C:=((((z.trans c).alloc _).alloc _).grown j G).trans H;have J:=oz X;rw[d]at i;simp only[JB,Qk]at i;have a0:l.length+1<=k.2.v+k.2.s.toNat:=by
    cases a6:k.2.s
    ·grind
    grind
   cases A:(zk L [44] k.2||decide (l.length+1<2))
   ·have a:=a;rw[A]at a;simp only[ru,Xv]at a;rw[Qi]at A;obtain⟨F,O⟩:=A;have a4:2<=l.length+1:=by simp_all
    have a5:decide ((l.length:Int)+1<2)=false:=by grind
    have K:=show vq2 w R v L (kkn (kq2 L) L []<|qg L [123] st) (.slice va (l.length+1) vc) (.bool false) w5 from
     ⟨l++[k.1],k.2,g,false,rfl,by grind [kwt],J,C,(λh=>ig),(λ_=>a),by simp_all⟩
    go_wp2;exact⟨K,(qyn f J d x y)⟩
   ·have a:=a;rw[A]at a;simp only[Xw]at a;have V:Hid ((zk L [44] k.2=true)\/(zk L [44] k.2=false/\l.length+1<2)):=by
     cases hx:zk L [44] k.2
     ·simp_all
     simp_all
    have I:=jkl (L:=L) (s:=[44]) y;have T:=rP x<|yh L [44] k.2;have a7:l.length+1<=(qg L [44] k.2).v+(qg L [44] k.2).s.toNat:=by grind [qg]
    obtain F|⟨F,O⟩:=V;all_goals
     go_wp21;refine(kq1 [44] J).mono ?_;rintro e w6 ⟨rfl,N,Q⟩;have M:=show vq2 w R v L (kkn (kq2 L) L []<|qg L [123] st) (.slice va (l.length+1) vc) (.bool true) w6 from
      ⟨l++[k.1],qg L [44] k.2,g,true,rfl,by grind [kwt,jr],N,C.trans Q,(λ_=>⟨a,qvy f.lt d E I⟩),(λh=>ig),by simp_all⟩
     go_wp2;exact⟨M,(qyn f N d T I)⟩
  ·rw[kkn,d]at a;simp only[Xw]at a;rw[d]at c3;go_wp21;refine(kq1 [125] f).mono ?_;rintro e w3 ⟨rfl,p,c⟩;go_wp2;go_ret;unfold kkr;rw[<-a];exact⟨_,rfl,(jr q c u),(oz p),(z.trans c),(qqp f i)⟩
structure PP where
 y:Tok
 Q:Tok
def kwf(p:PP):List Value:=ji p.y++ji p.Q
def kjm(l:List PP):List Value:=l.flatMap kwf
theorem zqo(l:List PP)(p:PP):kjm (l++[p])=kjm l++kwf p:=by simp[kjm]
def rPP(L:List Tok)(st:RS):PP×RS:=
 (⟨(zq L mX st).1,(zq L mX<|qg L [58] (zq L mX st).2).1⟩,(zq L mX<|qg L [58] (zq L mX st).2).2)
def kws:Nat->List Tok->List PP->RS->List PP×RS
 |0,_,l,st=>(l,st)
 |f+1,L,l,st=>
  if st.s then (l,st)
  else if zk L [44] (rPP L st).2 then kws f L (l++[(rPP L st).1]) (qg L [44] (rPP L st).2)
  else (l++[(rPP L st).1],(rPP L st).2)
def kj0(L:List Tok)(st:RS):List PP×RS:=
 if zk L [41] (qg L [40] st) then ([],qg L [41]<|qg L [40] st)
 else ((kws (kq2 L) L []<|qg L [40] st).1,qg L [41] (kws (kq2 L) L []<|qg L [40] st).2)
theorem qk8(L:List Tok)(st:RS):st.v<=(rPP L st).2.v:=rP (kj1 L _ st)<|rP (yh L [58] _) (kj1 L _ _)
theorem pwq(h:(rPP L st).2.s=false):st.v+1<=(rPP L st).2.v:=by grind [rPP,jv9,yh,kj1]
theorem kzh(h:w.heap[b]?=some (.cells #[x0,x1,x2,x3,x4,x5] t (0,0))):Ce w b 0 x0/\Ce w b 1 x1/\Ce w b 2 x2/\Ce w b 3 x3/\Ce w b 4 x4/\Ce w b 5 x5 /\
  Fr w b 0/\Fr w b 1/\Fr w b 2/\Fr w b 3/\Fr w b 4/\Fr w b 5:=
 ⟨rc h 0,rc h 1,rc h 2,rc h 3,rc h 4,rc h 5,
  rf h 0,rf h 1,rf h 2,rf h 3,rf h 4,rf h 5⟩
theorem pvf(h:w.heap[b]?=some (.cells #[x0,x1,x2,x3,x4,x5] t (0,0))):(puts b [v,x6,d] 0 w).heap[b]?=some (.cells #[v,x6,d,x3,x4,x5] t (0,0)):=zju h
theorem xxw(h:w.heap[b]?=some (.cells #[x0,x1,x2,x3,x4,x5] t (0,0))):(puts b [v,x6,d] 3 w).heap[b]?=some (.cells #[x0,x1,x2,v,x6,d] t (0,0)):=zju h
theorem kwk(h:w.ownsRow lo e size v n xs)(a:∀g,v.ownBlock=some g->g<B){p:Addr}(b:B<=p.block)(u:Value):(w.setCell p u).ownsRow lo e size v n xs:=
 (by grind [ownsRow_setCell_other])
theorem Rd.qwv(h:Rd w R v L st)(a:∀g,v.ownBlock=some g->g<B)(hR:R<B)(hb:B<=b):Rd (((w.setCell ⟨b,i,none⟩ x).setCell ⟨b,j,none⟩ y).setCell ⟨b,k,none⟩ z) R v L st:=(by grind [jm])
theorem zkp(h:w.ownsRow lo e size v n xs)(a:∀g,v.ownBlock=some g->g<B)(hb:B<=b):(((w.setCell ⟨b,i,none⟩ x).setCell ⟨b,j,none⟩ y).setCell ⟨b,k,none⟩ z).ownsRow lo e size v n xs:=kwk (kwk (kwk h a (p:=⟨b,i,none⟩) hb x) a (p:=⟨b,j,none⟩) hb y) a (p:=⟨b,k,none⟩) hb z
theorem Kept.qwv(h:Kept R a w)(hb:a.heap.size<=b):Kept R a (((w.setCell ⟨b,i,none⟩ x).setCell ⟨b,j,none⟩ y).setCell ⟨b,k,none⟩ z):=
 (by grind [jm])
def vq1(w:World)(R:Nat)(v:Value)(L:List Tok)(fin:List PP×RS)(x m:Value)(wr:World):Prop:=
 ∃(l:List PP)(st:RS)(g:Nat)(b:Bool),m=.bool b/\wr.ownsRow w.heap.size 236 6 x l.length (kjm l)/\Rd wr R v L st/\Kept R w wr /\
  (b=true->kws g L l st=fin/\qwf L st g)/\(b=false->(l,st)=fin)/\l.length<=st.v+st.s.toNat
def xx8(R:Nat)(v:Value)(L:List Tok)(w:World)(r:List PP×RS)(e:Ending)(w':World):Prop:=
 ∃x,e=.returned x/\w'.ownsRow w.heap.size 236 6 x r.1.length (kjm r.1)/\Rd w' R v L r.2/\Kept R w w'/\r.1.length<=801
theorem jqe(h:Rd w R v L st):Calls prog 107 #[.pointer (some ⟨R,0,none⟩)] w (xx8 R v L w<|kj0 L st):=by
 have z:R<w.heap.size:=wQ h.rd;have HV:=kq9 h.xu;go_in;go_wp21;refine(kq1 [40] h).mono ?_;rintro e w0 ⟨rfl,h0,M⟩;go_wp21;refine(kjg [41] h0).mono ?_;rintro e w1 ⟨rfl,h1,W⟩;have a0:∃fin b,b=!(zk L [41]<|qg L [40] st)/\kj0 L st=(fin.1,qg L [41] fin.2)/\vq1 w R v L fin (.slice none 0 0) (.bool b) w1:=by
  cases hn:zk L [41] (qg L [40] st)
  ·exact⟨kws (kq2 L) L []<|qg L [40] st,true,rfl,by rw[kj0,hn];rfl,[],qg L [40] st,kq2 L,true,rfl,oN,h1,M.trans W,λ_=>⟨rfl,qx6⟩,λh=>ig,jR⟩
  ·exact⟨([],qg L [40] st),false,rfl,by rw[kj0,hn];rfl,[],qg L [40] st,kq2 L,false,rfl,oN,h1,M.trans W,λh=>ig,λ_=>rfl,jR⟩
 obtain⟨fin,b0,a3,(F:Hid _),HR⟩:=a0;have Z:zk L [41] (qg L [40] st)=!b0:=by simp_all
 rw[Z];clear Z a3;go_wp2;go_loopw [3,5] (λl m wr=>vq1 w R v L fin l m wr) (λ_ _ wr=>2*(L.length-kk4 wr R)+zqp wr R)
 case atStart=>first|exact HR|(have:=HR;simpa using this)
 case round=>
  obtain⟨l,i,g,b,rfl,G,f,K,hT,hF,t⟩:=hrel;have D:=wQ f.rd;have ⟨c0,c1,c2,c3,f0,f1,f2,f3⟩:=row4 f.rd;have y:=K.size;obtain⟨la,ll,lc,rfl⟩:=qh G;cases b
  ·have HF:=hF rfl;go_wp21;refine(kq1 [41] f).mono ?_;rintro e w3 ⟨rfl,h3,c⟩;go_wp2;go_ret;rw[F,<-HF];exact⟨_,rfl,(jr G c z),(oz h3),(K.trans c),(qqp f t)⟩
  ·have ⟨a,U⟩:=hT rfl;obtain⟨g,rfl⟩:∃g',g=g'+1:=⟨g-1,by have:=zq1 U;omega⟩;cases d:i.s
   ·rw[kws,d]at a;simp only[ru,Xv]at a;rw[d]at c3;have q:=oz a;go_wp21;refine(kxu mX (f.below<|jZ _) rfl).mono ?_;rintro e w3 ⟨rfl,H3,c⟩;have C:=show ∀g,v.ownBlock=some g->g<wr.heap.size from λg hg=>sV (HV g hg) y
    have A:=kq9 G;have H:=(c.block wr.heap.size ay aj).trans<|Xk wr _;have d0:=kzh H;have x:=pwq (L:=L) (st:=i);have u:=qk8 L i;have B:=show rPP L i=(⟨(zq L mX i).1,(zq L mX<|qg L [58] (zq L mX i).2).1⟩,(zq L mX<|qg L [58] (zq L mX i).2).2) from rfl
    generalize rPP L i=P at q x u B;generalize zq L mX i=k at B H3 |-;unfold kxt;go_wp21
    refine(kq1 [58]<|((H3.jm C D ay _).jm C D ay _).jm C D ay _).mono ?_;rintro e w4 ⟨rfl,h4,I⟩;have T:=(I.block wr.heap.size (by simpa using wQ H) aj).trans<|pvf H;go_wp21
    refine(kxu mX (oz h4) rfl).mono ?_;rintro e w5 ⟨rfl,H5,J⟩;have d0:=kzh<|(J.block wr.heap.size (wQ T) aj).trans T;have Q:=jr (jr (kwk (kwk (kwk (jr (G.alloc _) c z) A (p:=⟨wr.heap.size,0,none⟩) ay<|.string k.1.t) A (p:=⟨wr.heap.size,1,none⟩) ay<|.string k.1.x) A (p:=⟨wr.heap.size,2,none⟩) ay<|.int .i64 k.1.v) I z) J z;have N:=((((((K.alloc _).trans c).jm (p:=⟨wr.heap.size,0,none⟩) y<|.string k.1.t).jm (p:=⟨wr.heap.size,1,none⟩) y<|.string k.1.x).jm (p:=⟨wr.heap.size,2,none⟩) y<|.int .i64 k.1.v).trans I).trans J;generalize zq L mX (qg L [58] k.2)=j at B H5 |-;unfold kxt;have a8:=qqp f t;go_wp2_with (at_builtin;refine apO (news:=kwf ⟨k.1,j.1⟩) ((zkp Q A<|jH).alloc _) ?_ (hb:=by have:=N.size;simp;omega))
    intro v' w6 S E _ a7;have V:=jo Q;obtain⟨va,vl,vc,rfl⟩:=qh S;go_wp21;refine(kjg [44] ((H5.qwv C D<|jH).below (jZ _) |>.grown E V HV z)).mono ?_;rintro e w7 ⟨rfl,H7,X⟩;have a6:=jr S X z;have O:=(((N.qwv y).alloc _).grown E V).trans X;rw[B]at q x u;simp only at q x u;rw[d]at t;simp only[JB,Qk]at t;cases hc:zk L [44] j.2
    ·have a:=ku q;rw[hc]at a;simp only[ru,Xv]at a;have a1:=show vq1 w R v L fin (.slice va vl vc) (.bool false) w7 from
      ⟨l++[⟨k.1,j.1⟩],j.2,g,false,rfl,by grind [zqo],H7,O,(λh=>ig),(λ_=>a),by
       rw[rD];cases a9:j.2.s
       ·grind
       grind⟩
     go_wp2;exact⟨a1,(qyn f H7 d u x)⟩
    ·have a:=ku q;rw[hc]at a;simp only[Xw]at a;have Y:=jkl (L:=L) (s:=[44]) x;have a5:=rP u<|yh L [44] j.2;go_wp21
     refine(kq1 [44] H7).mono ?_;rintro e w8 ⟨rfl,h8,a4⟩;have a2:=show vq1 w R v L fin (.slice va vl vc) (.bool true) w8 from
      ⟨l++[⟨k.1,j.1⟩],qg L [44] j.2,g,true,rfl,by grind [zqo,jr],h8,O.trans a4,(λ_=>⟨ku<|oz a,qvy f.lt d U Y⟩),(λh=>ig),by grind [qg]⟩
     go_wp2;exact⟨a2,(qyn f h8 d a5 Y)⟩
   ·rw[kws,d]at a;simp only[Xw]at a;rw[d]at c3;go_wp21;refine(kq1 [41] f).mono ?_;rintro e w3 ⟨rfl,h3,c⟩;go_wp2;go_ret;rw[F,<-(oz a)];exact⟨_,rfl,(jr G c z),(oz h3),(K.trans c),(qqp f t)⟩
structure PVar where
 y:Tok
 g:Tok
 k:Tok
 R:Tok
def kj7(x:PVar):List Value:=ji x.y++(ji x.g++(ji x.k++ji x.R))
def pjf(x:PVar):Value:=.agg (kj7 x).toArray
def kjn(L:List Tok)(st:RS):Tok×RS:=
 if zk L [91] st then ((zq L mX<|qg L [91] st).1,qg L [93] (zq L mX<|qg L [91] st).2) else (zh,st)
def kku(L:List Tok)(st:RS):Tok×RS:=
 if zk L nP st then (zh,qg L nP st)
 else if zk L nD st then zq L mW (qg L nD st)
 else (zh,(zq L mX st).2)
def kyt(L:List Tok)(st:RS):PVar×RS:=
 ({y:=(zq L mX<|qg L mD st).1,
   g:=(kjn L<|qg L [58] (zq L mX<|qg L mD st).2).1,
   k:=tk L (kjn L<|qg L [58] (zq L mX<|qg L mD st).2).2.v,
   R:=(kku L (kjn L<|qg L [58] (zq L mX<|qg L mD st).2).2).1},
  qg L [59] (kku L (kjn L<|qg L [58] (zq L mX<|qg L mD st).2).2).2)
theorem pqj{c:RS}{j2 a b:Tok×RS}(h1:qg L mD st=st')(d:zq L mX st'=j2)(e:qg L [58] j2.2=c)(f:kjn L c=a)(g:kku L a.2=b):kyt L st=({y:=j2.1,g:=a.1,k:=tk L a.2.v,R:=b.1},qg L [59] b.2):=by subst h1;subst d;subst e;subst f;subst g;rfl
def xx6(R:Nat)(v:Value)(L:List Tok)(w:World)(r:PVar×RS)(e:Ending)(w':World):Prop:=
 e=.returned (pjf r.1)/\Rd w' R v L r.2/\Kept R w w'
structure Row12 (w:World)(b:Nat)(x0 x1 x2 x3 x4 x5 x6 x7 x8 x9 x10 x11:Value):Prop where
 c0:w.cell? ⟨b,0,none⟩=some x0
 c1:w.cell? ⟨b,1,none⟩=some x1
 c2:w.cell? ⟨b,2,none⟩=some x2
 c3:w.cell? ⟨b,3,none⟩=some x3
 c4:w.cell? ⟨b,4,none⟩=some x4
 c5:w.cell? ⟨b,5,none⟩=some x5
 c6:w.cell? ⟨b,6,none⟩=some x6
 c7:w.cell? ⟨b,7,none⟩=some x7
 c8:w.cell? ⟨b,8,none⟩=some x8
 c9:w.cell? ⟨b,9,none⟩=some x9
 c10:w.cell? ⟨b,10,none⟩=some x10
 c11:w.cell? ⟨b,11,none⟩=some x11
 f0:w.frozen? ⟨b,0,none⟩=false
 f1:w.frozen? ⟨b,1,none⟩=false
 f2:w.frozen? ⟨b,2,none⟩=false
 f3:w.frozen? ⟨b,3,none⟩=false
 f4:w.frozen? ⟨b,4,none⟩=false
 f5:w.frozen? ⟨b,5,none⟩=false
 f6:w.frozen? ⟨b,6,none⟩=false
 f7:w.frozen? ⟨b,7,none⟩=false
 f8:w.frozen? ⟨b,8,none⟩=false
 f9:w.frozen? ⟨b,9,none⟩=false
 f10:w.frozen? ⟨b,10,none⟩=false
 f11:w.frozen? ⟨b,11,none⟩=false
theorem qwy(h:w.heap[b]?=some (.cells #[x0,x1,x2,x3,x4,x5,x6,x7,x8,x9,x10,x11] t (0,0))):Row12 w b x0 x1 x2 x3 x4 x5 x6 x7 x8 x9 x10 x11:=
 ⟨rc h 0,rc h 1,rc h 2,rc h 3,rc h 4,rc h 5,rc h 6,rc h 7,rc h 8,rc h 9,rc h 10,rc h 11,rf h 0,rf h 1,rf h 2,rf h 3,rf h 4,rf h 5,rf h 6,rf h 7,rf h 8,rf h 9,rf h 10,rf h 11⟩
theorem pw0(h:w.heap[b]?=some (.cells #[x0,x1,x2,x3,x4,x5,x6,x7,x8,x9,x10,x11] t (0,0)))(a c d:Value):(((w.setCell ⟨b,0,none⟩ a).setCell ⟨b,1,none⟩ c).setCell ⟨b,2,none⟩ d).heap[b]?=some (.cells #[a,c,d,x3,x4,x5,x6,x7,x8,x9,x10,x11] t (0,0)):=
 jL b 2 _ _ _ (jL b 1 _ _ _<|jL b 0 _ _ _ h)
theorem pvi(h:w.heap[b]?=some (.cells #[x0,x1,x2,x3,x4,x5,x6,x7,x8,x9,x10,x11] t (0,0)))(a c d:Value):(((w.setCell ⟨b,3,none⟩ a).setCell ⟨b,4,none⟩ c).setCell ⟨b,5,none⟩ d).heap[b]?=some (.cells #[x0,x1,x2,a,c,d,x6,x7,x8,x9,x10,x11] t (0,0)):=
 jL b 5 _ _ _ (jL b 4 _ _ _<|jL b 3 _ _ _ h)
theorem pve(h:w.heap[b]?=some (.cells #[x0,x1,x2,x3,x4,x5,x6,x7,x8,x9,x10,x11] t (0,0)))(a c d:Value):(((w.setCell ⟨b,6,none⟩ a).setCell ⟨b,7,none⟩ c).setCell ⟨b,8,none⟩ d).heap[b]?=some (.cells #[x0,x1,x2,x3,x4,x5,a,c,d,x9,x10,x11] t (0,0)):=
 jL b 8 _ _ _ (jL b 7 _ _ _<|jL b 6 _ _ _ h)
theorem pva(h:w.heap[b]?=some (.cells #[x0,x1,x2,x3,x4,x5,x6,x7,x8,x9,x10,x11] t (0,0)))(a c d:Value):(((w.setCell ⟨b,9,none⟩ a).setCell ⟨b,10,none⟩ c).setCell ⟨b,11,none⟩ d).heap[b]?=some (.cells #[x0,x1,x2,x3,x4,x5,x6,x7,x8,a,c,d] t (0,0)):=
 jL b 11 _ _ _ (jL b 10 _ _ _<|jL b 9 _ _ _ h)
theorem zvm(h:w.heap[b]?=some (.cells #[x0,x1,x2,x3,x4,x5,x6,x7,x8,x9,x10,x11] t (0,0))):((((((((((((w.setCell ⟨b,0,none⟩ y0).setCell ⟨b,1,none⟩ y1).setCell ⟨b,2,none⟩ y2).setCell ⟨b,3,none⟩ y3).setCell ⟨b,4,none⟩ y4).setCell ⟨b,5,none⟩ y5).setCell ⟨b,6,none⟩ y6).setCell ⟨b,7,none⟩ y7).setCell ⟨b,8,none⟩ y8).setCell ⟨b,9,none⟩ y9).setCell ⟨b,10,none⟩ y10).setCell ⟨b,11,none⟩ y11).heap[b]?=some (.cells #[y0,y1,y2,y3,y4,y5,y6,y7,y8,y9,y10,y11] t (0,0)):=
 pva (pve (pvi (pw0 h y0 y1 y2) y3 y4 y5) y6 y7 y8) y9 y10 y11
theorem Rd.zvm(h:Rd w R v L st)(a:∀g,v.ownBlock=some g->g<B)(hR:R<B)(hb:B<=b):Rd ((((((((((((w.setCell ⟨b,0,none⟩ y0).setCell ⟨b,1,none⟩ y1).setCell ⟨b,2,none⟩ y2).setCell ⟨b,3,none⟩ y3).setCell ⟨b,4,none⟩ y4).setCell ⟨b,5,none⟩ y5).setCell ⟨b,6,none⟩ y6).setCell ⟨b,7,none⟩ y7).setCell ⟨b,8,none⟩ y8).setCell ⟨b,9,none⟩ y9).setCell ⟨b,10,none⟩ y10).setCell ⟨b,11,none⟩ y11) R v L st:=
 ((((((((((((h.jm a hR (p:=⟨b,0,none⟩) hb y0).jm a hR (p:=⟨b,1,none⟩) hb y1).jm a hR (p:=⟨b,2,none⟩) hb y2).jm a hR (p:=⟨b,3,none⟩) hb y3).jm a hR (p:=⟨b,4,none⟩) hb y4).jm a hR (p:=⟨b,5,none⟩) hb y5).jm a hR (p:=⟨b,6,none⟩) hb y6).jm a hR (p:=⟨b,7,none⟩) hb y7).jm a hR (p:=⟨b,8,none⟩) hb y8).jm a hR (p:=⟨b,9,none⟩) hb y9).jm a hR (p:=⟨b,10,none⟩) hb y10).jm a hR (p:=⟨b,11,none⟩) hb y11)
theorem Kept.zvm(h:Kept R a w)(hb:a.heap.size<=b):Kept R a ((((((((((((w.setCell ⟨b,0,none⟩ y0).setCell ⟨b,1,none⟩ y1).setCell ⟨b,2,none⟩ y2).setCell ⟨b,3,none⟩ y3).setCell ⟨b,4,none⟩ y4).setCell ⟨b,5,none⟩ y5).setCell ⟨b,6,none⟩ y6).setCell ⟨b,7,none⟩ y7).setCell ⟨b,8,none⟩ y8).setCell ⟨b,9,none⟩ y9).setCell ⟨b,10,none⟩ y10).setCell ⟨b,11,none⟩ y11):=
 ((((((((((((h.jm (p:=⟨b,0,none⟩) hb y0).jm (p:=⟨b,1,none⟩) hb y1).jm (p:=⟨b,2,none⟩) hb y2).jm (p:=⟨b,3,none⟩) hb y3).jm (p:=⟨b,4,none⟩) hb y4).jm (p:=⟨b,5,none⟩) hb y5).jm (p:=⟨b,6,none⟩) hb y6).jm (p:=⟨b,7,none⟩) hb y7).jm (p:=⟨b,8,none⟩) hb y8).jm (p:=⟨b,9,none⟩) hb y9).jm (p:=⟨b,10,none⟩) hb y10).jm (p:=⟨b,11,none⟩) hb y11)
theorem jw5(h:Rd w R v L st):Calls prog 104 #[.pointer (some ⟨R,0,none⟩)] w (xx6 R v L w<|kyt L st):=by
 have hX:R<w.heap.size:=wQ h.rd;have U:=oz<|kq9 h.xu;go_in
 go_wp21;refine(kq1 mD<|h.below ((bR.alloc jH _).alloc ay _)).mono ?_;rintro e w1 ⟨rfl,H1,aJ⟩;have b6:=(aJ.block (w.heap.size+1) ay aj).trans<|heap_alloc_new' (w:=w.alloc _) (b:=w.heap.size+1) ay;have aZ:=(aJ.block w.heap.size ah aj).trans<|(tC (w.alloc _) _ w.heap.size ay).trans (Xk w _);have b8:=(((Kept.refl R w).alloc _).alloc _).trans aJ;obtain⟨aU,aR⟩:=ju b6 aZ;clear b6 aZ;generalize b2:qg L mD st=s1 at H1;have E1:=oz b2;clear b2;go_wp21
 refine(kxu mX H1 rfl).mono ?_;rintro e w2 ⟨rfl,H2,aK⟩;have aO:=(aK.block (w.heap.size+1) (wQ aU) aj).trans aU;have aS:=oz<|(aK.block w.heap.size (wQ aR) aj).trans aR;have b9:=b8.trans aK;have aV:=oz aO;have ⟨d0,d1,d2,d3,d4,d5,d6,d7,d8,d9,d10,d11,C,D,E,F,G,e5,H,e7,e8,e9,l,m⟩:=qwy aO;clear aO;generalize hk:zq L mX s1=k at H2 |-;have E2:=oz hk;clear hk;unfold kxt;go_wp21
 refine(kq1 [58]<|H2.qwv U hX ay).mono ?_;rintro e w3 ⟨rfl,H3,aL⟩;obtain⟨aW,aT⟩:=ju ((aL.block (w.heap.size+1) (by simpa using wQ aV) aj).trans<|pw0 aV _ _ _) ((aL.block w.heap.size (by simpa using wQ aS) aj).trans<|(hsC ay).trans ((hsC ay).trans<|(hsC ay).trans aS));have bA:=(b9.qwv (b:=w.heap.size+1) ay).trans aL;clear d0 d1 d2 d3 d4 d5 d6 d7 d8 d9 d10 d11 C D E F G e5 H e7 e8 e9 l m;generalize b3:qg L [58] k.2=s3 at H3;have E3:=oz b3;clear b3;go_wp21;refine(kjg [91] H3).mono ?_;rintro e w4 ⟨rfl,H4,aM⟩;have a0:=oz<|(aM.block (w.heap.size+1) (wQ aW) aj).trans aW;have Y:=oz<|(aM.block w.heap.size (wQ aT) aj).trans aT;have aC:=bA.trans aM;cases aY:zk L [91] s3;case' false=>
  have E4:=oz (by simp[kjn,aY]:kjn L s3=(zh,s3));have ⟨M,aN⟩:=cpy w4;rw[<-aN];rw[<-aN]at a0 H4 Y aC;clear aN;obtain⟨o,(a5:Hid _)⟩:∃o:Tok×RS,o=(zh,s3):=⟨_,rfl⟩;have J:=oz (show M.heap[w.heap.size+1]?=some (.cells #[.string k.1.t,.string k.1.x,.int .i64 k.1.v,.string o.1.t,.string o.1.x,.int .i64 o.1.v,.string ⟨#[]⟩,.string ⟨#[]⟩,.int .i64 0,.string ⟨#[]⟩,.string ⟨#[]⟩,.int .i64 0] 222 (0,0)) by rw[a5];exact a0);have N:=show Rd M R v L o.2 by rw[a5];exact H4
  have aF:=Y;have aD:=aC;rw[<-a5]at E4
 case' true=>
  have E4:=oz (by simp[kjn,aY]:kjn L s3=((zq L mX<|qg L [91] s3).1,qg L [93] (zq L mX<|qg L [91] s3).2));go_wp21;refine(kq1 [91] H4).mono ?_;rintro e bQ ⟨rfl,aP,W⟩;have V:=oz<|(W.block (w.heap.size+1) (wQ a0) aj).trans a0;have Q:=oz<|(W.block w.heap.size (wQ Y) aj).trans Y;have aA:=aC.trans W;go_wp21
  refine(kxu mX aP rfl).mono ?_;rintro e bS ⟨rfl,a7,X⟩;have B:=oz<|(X.block (w.heap.size+1) (wQ V) aj).trans V;have S:=oz<|(X.block w.heap.size (wQ Q) aj).trans Q;have aB:=aA.trans X;have ⟨d0,d1,d2,d3,d4,d5,d6,d7,d8,d9,d10,d11,C,D,E,F,G,e5,H,e7,e8,e9,l,m⟩:=qwy B;clear aA aP V Q;generalize b7:zq L mX (qg L [91] s3)=ov at a7 E4 |-;unfold kxt;go_wp21
  refine(kq1 [93]<|a7.qwv U hX ay).mono ?_;rintro e M ⟨rfl,h5,a2⟩;obtain⟨o,ho⟩:∃o:Tok×RS,o=(ov.1,qg L [93] ov.2):=⟨_,rfl⟩;have bD:=(a2.block (w.heap.size+1) (by simpa using wQ B) aj).trans<|pvi B _ _ _;obtain⟨J,N,aF,aD⟩:=jb (by simp_all:M.heap[w.heap.size+1]?=some (.cells #[.string k.1.t,.string k.1.x,.int .i64 k.1.v,.string o.1.t,.string o.1.x,.int .i64 o.1.v,.string ⟨#[]⟩,.string ⟨#[]⟩,.int .i64 0,.string ⟨#[]⟩,.string ⟨#[]⟩,.int .i64 0] 222 (0,0))) (show Rd M R v L o.2 by simp_all) ((a2.block w.heap.size (by simpa using wQ S) aj).trans<|(hsC ay).trans ((hsC ay).trans<|(hsC ay).trans S)) ((aB.qwv (b:=w.heap.size+1) ay).trans a2);rw[<-ho]at E4;have a5:=oz ho;clear ho h5 a2 bD B a7 S aB b7 d0 d1 d2 d3 d4 d5 d6 d7 d8 d9 d10 d11 C D E F G e5 H e7 e8 e9 l m
 all_goals
  have ⟨c0,c1,c2,c3,f0,f1,f2,f3⟩:=row4 N.rd;have ⟨gb,cap,hv,hg,bM,bK,t0,t1,t2⟩:=N.open;rw[hv]at c0;have bN:gb<w.heap.size:=ku U gb (by rw[hv];rfl);have bJ:=N.lt;have bI:=N.T;have ⟨d0,d1,d2,d3,d4,d5,d6,d7,d8,d9,d10,d11,C,D,E,F,G,e5,H,e7,e8,e9,l,m⟩:=qwy J;have bO:=wQ J;clear hv;generalize b5:tk L o.2.v=ty at t0 t1 t2;have E6:=oz b5;clear b5;go_wp2;go_region
  obtain⟨a1,Z,aE,H6⟩:=jb (show((((M.setCell ⟨w.heap.size+1,6,none⟩<|.string ty.t).setCell ⟨w.heap.size+1,7,none⟩<|.string ty.x).setCell ⟨w.heap.size+1,8,none⟩<|.int .i64 ty.v).drew).heap[w.heap.size+1]?=_ from pve J _ _ _) (show((((M.setCell ⟨w.heap.size+1,6,none⟩<|.string ty.t).setCell ⟨w.heap.size+1,7,none⟩<|.string ty.x).setCell ⟨w.heap.size+1,8,none⟩<|.int .i64 ty.v).drew).heap[w.heap.size]?=_ from(hsC ay).trans ((hsC ay).trans<|(hsC ay).trans aF)) ((aD.qwv (b:=w.heap.size+1) (i:=6) (j:=7) (k:=8) (x:=.string ty.t) (y:=.string ty.x) (z:=.int .i64 ty.v) ay).drew) ((N.qwv (b:=w.heap.size+1) (i:=6) (j:=7) (k:=8) (x:=.string ty.t) (y:=.string ty.x) (z:=.int .i64 ty.v) U hX ay).below (bR.drew));clear c0 c1 c2 c3 f0 f1 f2 f3 t0 t1 t2 d0 d1 d2 d3 d4 d5 d6 d7 d8 d9 d10 d11 C D E F G e5 H e7 e8 e9 l m J aF aD N;generalize ((((M.setCell ⟨w.heap.size+1,6,none⟩<|.string ty.t).setCell ⟨w.heap.size+1,7,none⟩<|.string ty.x).setCell ⟨w.heap.size+1,8,none⟩<|.int .i64 ty.v).drew)=w6 at a1 Z aE H6 |-;go_wp21
  refine(kjg nP H6).mono ?_;rintro e w7 ⟨rfl,h7,a3⟩;obtain⟨aH,aG,aQ,H7⟩:=jb ((a3.block (w.heap.size+1) (wQ a1) aj).trans a1) ((a3.block w.heap.size (wQ Z) aj).trans Z) (aE.trans a3) h7;clear h7 a3 aE H6 a1 Z;go_wp21;refine(kjg nD H7).mono ?_;rintro e w8 ⟨rfl,h8,a4⟩;obtain⟨g,f,t,H8⟩:=jb ((a4.block (w.heap.size+1) (wQ aH) aj).trans aH) ((a4.block w.heap.size (wQ aG) aj).trans aG) (aQ.trans a4) h8;clear h8 a4 aQ H7 aH aG;cases aI:zk L nP o.2;case' false=>
   cases b4:zk L nD o.2;case' true=>
    have E5:=oz (by simp[kku,aI,b4]:kku L o.2=zq L mW (qg L nD o.2));go_wp21;refine(kq1 nD H8).mono ?_;rintro e w9 ⟨rfl,h9,a⟩;obtain⟨q,p,u,H9⟩:=jb ((a.block (w.heap.size+1) (wQ g) aj).trans g) ((a.block w.heap.size (wQ f) aj).trans f) (t.trans a) h9;clear h9 a t H8 g f;go_wp21;refine(kxu mW H9 rfl).mono ?_;rintro e bP ⟨rfl,aX,I⟩;obtain⟨A,P,a9,a6⟩:=jb ((I.block (w.heap.size+1) (wQ q) aj).trans q) ((I.block w.heap.size (wQ p) aj).trans p) (u.trans I) aX;have ⟨d0,d1,d2,d3,d4,d5,d6,d7,d8,d9,d10,d11,C,D,E,F,G,e5,H,e7,e8,e9,l,m⟩:=qwy A;clear aX I u H9 q p;generalize bL:zq L mW (qg L nD o.2)=dg at a6 E5 |-;unfold kxt;go_wp21
    refine(kq1 [59]<|a6.qwv U hX ay).mono ?_;rintro e bH ⟨rfl,K,c⟩;have s:=(c.block (w.heap.size+1) (by simpa using wQ A) aj).trans<|pva A _ _ _;have d:=(c.block w.heap.size (by simpa using wQ P) aj).trans<|(hsC ay).trans ((hsC ay).trans<|(hsC ay).trans P);obtain⟨O,a8,T⟩:=jp ((a9.qwv (b:=w.heap.size+1) ay).trans c) K d;clear d0 d1 d2 d3 d4 d5 d6 d7 d8 d9 d10 d11 C D E F G e5 H e7 e8 e9 l m;have ⟨d0,d1,d2,d3,d4,d5,d6,d7,d8,d9,d10,d11,C,D,E,F,G,e5,H,e7,e8,e9,l,m⟩:=qwy s;have ⟨g0,g1,g2,g3,g4,g5,g6,g7,g8,g9,bB,bC,m0,m1,m2,m3,m4,m5,m6,m7,m8,m9,bF,bG⟩:=qwy d;have HE:=oz<|pqj E1 E2 E3 E4 E5;rw[ku E6]at HE;clear K c s d a9 a6 A P;go_wp2
    refine kx0 results104 underlying222 (zvm T) ?_;rw[ku HE];exact⟨rfl,a8.zvm U hX<|jH,O.zvm<|jH⟩
   case' false=>
    have E5:=oz (by simp[kku,aI,b4]:kku L o.2=(zh,(zq L mX o.2).2));go_wp21;refine(kxu mX H8 rfl).mono ?_;rintro e w9 ⟨rfl,h9,a⟩;obtain⟨q,p,u,H9⟩:=jb ((a.block (w.heap.size+1) (wQ g) aj).trans g) ((a.block w.heap.size (wQ f) aj).trans f) (t.trans a) h9;clear h9 a t H8 g f
  case' true=>
   have E5:=oz (by simp[kku,aI]:kku L o.2=(zh,qg L nP o.2));go_wp21;refine(kq1 nP H8).mono ?_;rintro e w9 ⟨rfl,h9,a⟩;obtain⟨q,p,u,H9⟩:=jb ((a.block (w.heap.size+1) (wQ g) aj).trans g) ((a.block w.heap.size (wQ f) aj).trans f) (t.trans a) h9;clear h9 a t H8 g f
  all_goals
   go_wp21;refine(kq1 [59] H9).mono ?_;rintro e bH ⟨rfl,K,c⟩;have s:=(c.block (w.heap.size+1) (wQ q) aj).trans q;have d:=(c.block w.heap.size (wQ p) aj).trans p;obtain⟨O,a8,T⟩:=jp (u.trans c) K d;have ⟨d0,d1,d2,d3,d4,d5,d6,d7,d8,d9,d10,d11,C,D,E,F,G,e5,H,e7,e8,e9,l,m⟩:=qwy s;have ⟨g0,g1,g2,g3,g4,g5,g6,g7,g8,g9,bB,bC,m0,m1,m2,m3,m4,m5,m6,m7,m8,m9,bF,bG⟩:=qwy d;have HE:=oz<|pqj E1 E2 E3 E4 E5;rw[ku E6]at HE;clear K c s d u H9 q p;go_wp2
   refine kx0 results104 underlying222 (zvm T) ?_;rw[ku HE];exact⟨rfl,a8.zvm U hX<|jH,O.zvm<|jH⟩
end Go.Proofs.YtpmcnonmkghokaaGreatDoor

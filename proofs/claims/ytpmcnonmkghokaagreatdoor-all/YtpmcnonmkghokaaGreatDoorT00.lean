import Derived.Test.YtpmcnonmkghokaaGreatDoorRows
import Derived.WalkKit
import Derived.WalkSpells
import Derived.WalkLawsBesides
import Derived.Deep.QuietTactic
import Derived.BigQuiet
import Derived.Deep.Trees
import Derived.BigRegion
import Derived.Lib.Strings
import Derived.Lib.Slices
import Derived.Lib.Walk
import Derived.Lib.Bytealg
import Derived.OwnWalk
set_option maxHeartbeats 4000000
set_option maxRecDepth 100000
set_option linter.unusedVariables false
set_option linter.unusedSimpArgs false
namespace Go.Proofs
open Go Go.RowKit
abbrev wu:=@Option.bind_eq_some_iff
abbrev wQ:=@lt_of_block
abbrev wJ:=@Nat.le_refl
abbrev wZ:=@List.getElem_mem
abbrev wX:=@Option.map_eq_some_iff
abbrev wW:=@List.getElem?_eq_getElem
abbrev wY:=@List.mem_append_left
abbrev wU:=@cell_later
abbrev wG:=@List.getElem_of_mem
abbrev lJ:=@if_pos
abbrev Xy:=@if_neg
abbrev wB:=@List.mem_of_getElem?
abbrev ru:=@Bool.false_eq_true
abbrev rQ:=@Option.bind_some
abbrev rJ:=@List.mem_append_right
abbrev rZ:=@List.mem_cons_self
abbrev Xx:=@heap_setCell_same
abbrev rU:=@List.drop_eq_getElem_cons
abbrev rV:=@List.mem_append
abbrev rY:=@List.getElem?_eq_some_iff
abbrev Xk:=@heap_alloc_new
abbrev rG:=@Bool.and_eq_true
abbrev rP:=@Nat.le_trans
abbrev rD:=@List.length_append
abbrev rM:=@List.mem_flatMap
abbrev rC:=@World.ownsRow_nil
abbrev tK:=@bodyPost_ret
abbrev tJ:=@List.take_succ_eq_append_getElem
abbrev tX:=@Int.toNat_natCast
abbrev tZ:=@List.mem_cons
abbrev tV:=@World.size_alloc
abbrev tC:=@Below.heap_alloc
abbrev tY:=@List.mem_map
abbrev sZ:=@List.append_assoc
abbrev sK:=@List.drop_length
abbrev sJ:=@List.all_eq_true
abbrev su:=@beq_iff_eq
abbrev sQ:=@List.pairwise_iff_getElem
abbrev Xv:=@if_false
abbrev sV:=@Nat.lt_of_lt_of_le
abbrev sW:=@List.getElem?_cons_zero
abbrev sU:=@List.getElem?_cons_succ
abbrev sG:=@Int.eq_ofNat_of_zero_le
abbrev sD:=@decide_eq_true_eq
abbrev Qq:=@List.mem_singleton
abbrev Qz:=@decide_eq_true
abbrev Qx:=@List.mem_map_of_mem
abbrev Qk:=@Nat.add_zero
abbrev Xw:=@if_true
abbrev Qv:=@List.eq_nil_of_length_eq_zero
abbrev Qh:=@List.length_replicate
abbrev Qd:=@List.nil_append
abbrev Qw:=@List.map_append
abbrev Qy:=@List.setIfInBounds_toArray
abbrev Qg:=@Bool.or_false
abbrev Qp:=@Classical.byContradiction
abbrev Qs:=@List.append_nil
abbrev Qm:=@List.map_cons
abbrev Qr:=@Nat.le_of_lt
abbrev Qc:=@List.take_length
abbrev Qu:=@List.not_mem_nil
abbrev Qb:=@List.length_cons
abbrev Qa:=@List.drop_of_length_le
abbrev Qn:=@List.getElem_append_left
abbrev Ql:=@List.length_map
abbrev Qo:=@List.mem_range
abbrev Qe:=@List.append_eq_nil_iff
abbrev Qi:=@Bool.or_eq_false_iff
abbrev QJ:=@Bool.false_and
abbrev QW:=@List.set_cons_zero
abbrev QZ:=@Bool.true_and
abbrev QX:=@Bool.false_or
abbrev QK:=@cell_of_row
abbrev QV:=@List.getElem?_map
abbrev QY:=@List.set_cons_succ
abbrev QU:=@List.cons_append
abbrev QG:=@beq_eq_false_iff_ne
abbrev QD:=@Bool.not_eq_true'
abbrev QC:=@List.pairwise_append
abbrev QB:=@List.getD_eq_getElem?_getD
abbrev QM:=@List.nodup_cons
abbrev Jv:=@List.take_append_of_le_length
abbrev Q5:=@List.foldl_append
abbrev Jj:=@List.take_append_drop
abbrev Q7:=@run_underlying
abbrev Q8:=@Bool.or_eq_true
abbrev Jb:=@Nat.mul_one
abbrev Q9:=@List.take_of_length_le
abbrev Jz:=@List.map_map
abbrev Jq:=@List.length_set
abbrev Jk:=@World.cell?_of_block
abbrev Jt:=@Nat.mul_le_mul
abbrev Jw:=@List.nodup_append
abbrev Jy:=@List.flatMap_cons
abbrev Ju:=@List.mem_filter
abbrev Jc:=@Nat.zero_add
abbrev Jg:=@Bool.true_or
abbrev Jp:=@List.map_flatMap
abbrev JW:=@List.pairwise_cons
abbrev Jd:=@List.nodup_nil
abbrev Ji:=@List.getElem?_append_right
abbrev Ja:=@wpList_append_own_at
abbrev Jm:=@List.ext_getElem?
abbrev Jh:=@Bool.and_true
abbrev Ze:=@List.length_take
abbrev Jr:=@Bool.and_false
abbrev Jl:=@List.drop_append_of_le_length
abbrev JU:=@List.getElem_cons_zero
abbrev Js:=@Bool.or_true
abbrev Jf:=@List.range_succ
abbrev Jo:=@List.getElem?_eq_none
abbrev Je:=@List.mem_of_mem_drop
abbrev JQ:=@List.length_drop
abbrev ZV:=@List.getElem?_append_left
abbrev JJ:=@ByteArray.getElem_extract
abbrev JZ:=@List.flatMap_append
abbrev JX:=@ByteArray.toList_eq
abbrev JK:=@List.sublist_append_left
abbrev JV:=@Bool.not_true
abbrev JY:=@Nat.lt_or_ge
abbrev JG:=@List.drop_eq_nil_of_le
abbrev JD:=@Bool.not_false
abbrev lQ:=@List.replicate_append_replicate
abbrev JC:=@List.length_singleton
abbrev JB:=@Bool.toNat_false
abbrev JM:=@List.filter_sublist
abbrev J3:=@List.getElem?_drop
abbrev J4:=@List.drop_left
abbrev J5:=@List.sublist_append_right
abbrev J6:=@List.pairwise_map
abbrev Zo:=@List.getElem_take
abbrev J7:=@List.filter_congr
abbrev J8:=@List.append_cancel_right
abbrev J9:=@results_cell_row
abbrev Zq:=@Option.getD_some
abbrev Zj:=@List.nil_sublist
abbrev Zz:=@List.getElem_map
abbrev Zx:=@List.any_eq_true
abbrev Zk:=@List.getElem?_set_self
abbrev Zv:=@Bool.or_self
abbrev ZQ:=@Option.map_some
abbrev ZJ:=@List.take_left'
abbrev Zw:=@List.length_nil
abbrev Zy:=@List.getElem?_zipWith
abbrev Zu:=@Classical.choose_spec
abbrev ZM:=@ByteArray.size_append
abbrev Zg:=@Bool.and_eq_false_iff
abbrev Zp:=@List.mem_of_mem_take
abbrev lZ:=@World.grownBy_alloc
abbrev Zd:=@List.map_eq_flatMap
abbrev Zc:=@List.map_congr_left
abbrev Zb:=@List.length_reverse
abbrev Xj:=@List.drop_succ_cons
abbrev Zm:=@ByteArray.toList_mk
abbrev Zh:=@Array.toList_filter
abbrev Zt:=@frozen_of_row
abbrev Zr:=@Nat.add_sub_cancel
abbrev Zn:=@List.getElem_range
abbrev Zl:=@Bool.false_ne_true
abbrev Zf:=@List.map_set
abbrev Za:=@List.nodup_range
abbrev Zi:=@List.append_inj'
abbrev ZX:=@List.foldl_cons
abbrev ZK:=@List.any_append
abbrev ZW:=@List.exists_mem_of_ne_nil
abbrev ZY:=@List.map_take
abbrev ZU:=@List.getElem?_take_of_lt
abbrev ZG:=@List.any_cons
abbrev ZC:=@List.sublist_cons_self
abbrev lX:=@ByteArray.size_extract
abbrev lY:=@List.getElem?_toArray
abbrev ZB:=@List.contains_iff_mem
abbrev Z5:=@Array.getElem?_modify
abbrev Z7:=@Nat.mul_le_mul_right
abbrev lG:=@List.replicate_succ'
abbrev Z8:=@List.getElem?_set_ne
abbrev Z9:=@Nat.mul_le_mul_left
abbrev Xz:=@Int.toNat_of_nonneg
abbrev jV{a}:=Nat.le_refl a
abbrev jU{α a s t}:=@List.mem_append_left α a s t
abbrev jG{a}:=Nat.zero_le a
abbrev jP{α a s t}:=@List.mem_append_right α a s t
abbrev jD{a}:=heap_setCell_same a
abbrev jB{α a s t}:=@List.mem_cons_of_mem α a s t
abbrev jH{a b}:=heap_alloc_new a b
abbrev jT{a b c d}:=World.ownsRow_nil a b c d
abbrev jR{a b c}:=Below.heap_alloc a b c
abbrev jN{a b c d}:=Below.heap_setCell a b c d
abbrev jL{a b c d e f}:=cell_of_row a b c d e f
end Go.Proofs
namespace Go.Proofs
open Go Go.RowKit
abbrev og:=Calls Tryz.prog
abbrev mX:List UInt8:=[110,97,109,101]
abbrev mY:List UInt8:=[105,102]
abbrev mW:List UInt8:=[100,105,103,105,116]
abbrev mG:List UInt8:=[110,111,110,101]
abbrev mD:List UInt8:=[118,97,114]
abbrev ny:List UInt8:=[107,105,110,100]
abbrev ng:List UInt8:=[112,108,97,99,101]
abbrev ni:List UInt8:=[115,101,116]
abbrev nJ:List UInt8:=[116,114,117,101]
abbrev nX:List UInt8:=[114,117,108,101]
abbrev nK:List UInt8:=[110,101,118,101,114]
abbrev nZ:List UInt8:=[102,97,108,115,101]
abbrev nV:List UInt8:=[119,111,114,100]
abbrev nY:List UInt8:=[116,114,117,116,104]
abbrev nU:List UInt8:=[101,108,115,101]
abbrev nG:List UInt8:=[101,110,100]
abbrev nP:List UInt8:=[98,111,111,108]
abbrev nD:List UInt8:=[116,111]
abbrev nC:List UInt8:=[110,117,109,98,101,114]
abbrev nM:List UInt8:=[115,105,103,110]
abbrev oq(w w':World):=Below w.heap.size w w'
theorem aj{p:Prop}(h:p:=by omega):p:=h
theorem ak{p:Prop}(h:p:=by decide):p:=h
theorem ay{p:Prop}(h:p:=by simp):p:=h
theorem au{p:Prop}(h:p:=by kernel_rfl):p:=h
theorem ah{p:Prop}(h:p:=by simp;omega):p:=h
theorem eu{p:Prop}(h:p:=by go_num):p:=h
theorem iq{p:Prop}(h:p:=by unfold maxLen;omega):p:=h
theorem oD{p:Prop}(h:p:=by simp only[qjn,qjl,ku G,ku R,ku s,ku C,ku L,Jh,Jr,QJ,QZ,ru,↓reduceIte]):p:=h
theorem ig{p:Prop}(h:p:=by cases h):p:=h
theorem iy{p:Prop}(h:p:=by simp at e):p:=h
theorem jQ{p:Prop}(h:p:=by simp[World.setCell];omega):p:=h
theorem jJ{p:Prop}(h:p:=by rw[ku E];rfl):p:=h
theorem oC{p:Prop}(h:p:=by rw[qkj];cases aA:I.2.s<;>simp only[JB,Bool.toNat_true]<;>(grind)<;>(grind)<;>simp only[JB]at a4<;>omega):p:=h
theorem jX{p:Prop}(h:p:=by rw[hW];exact(jZ w).trans ((jZ _).mono<|by simp)):p:=h
theorem jK{p:Prop}(h:p:=by rw[jN (show w.heap.size+1≠g by omega),jN (show w.heap.size+1≠g by omega)];exact h.st):p:=h
theorem oM{p:Prop}(h:p:=by simp only[kqq]at x;omega):p:=h
theorem jW{p:Prop}(h:p:=by rw[kzo rfl rfl];unfold zkg;simp_all):p:=h
theorem jY{p:Prop}(h:p:=by rw[jN (show w.heap.size≠g by omega),jN (show w.heap.size≠g by omega)];exact h.ty):p:=h
theorem o7{p:Prop}(h:p:=by simp only[qjn,qjl,ku G,ku s,ku C,ku L,Jh,Jr,QJ,QZ,ru,↓reduceIte]):p:=h
theorem o8{p:Prop}(h:p:=by simp only[qjn,qjl,ku G,ku R,ku s,ku C,Jh,Jr,QJ,QZ,ru,↓reduceIte]):p:=h
theorem o9{p:Prop}(h:p:=by simp only[qjn,qjl,ku G,ku R,ku s,Jh,Jr,QJ,QZ,ru,↓reduceIte]):p:=h
theorem pJ{p:Prop}(h:p:=by rw[je];simp[B]):p:=h
theorem jC{p:Prop}(h:p:=by first|exact Below.refl _ _|exact(Below.refl _ _).drew):p:=h
theorem jM{p:Prop}(h:p:=by rw[hW];exact jZ w):p:=h
theorem kQ{p:Prop}(h:p:=by rw[IntKind.wrap_i64];omega):p:=h
theorem pX{p:Prop}(h:p:=by intro i hi;have h9:=ku N i hi;exact wU (below_drewN (jZ _) _) h9):p:=h
theorem kV{p:Prop}(h:p:=by simpa using h):p:=h
theorem kZ{p:Prop}(h:p:=by simp only[rD];omega):p:=h
theorem pW{p:Prop}(h:p:=by rw[jL d];rfl):p:=h
theorem kK{p:Prop}(h:p:=by rw[hW];exact qy):p:=h
theorem pY{p:Prop}(h:p:=by rw[j];exact(jZ w).trans ((jZ _).mono<|by simp)):p:=h
theorem kW{p:Prop}(h:p:=by simp[results,Tryz.results106,go_sem,kxt,zh]):p:=h
theorem pU{p:Prop}(h:p:=by rw[d.block k (wQ hh) (not_row hv hh (by decide))];exact hh):p:=h
theorem kU{p:Prop}(h:p:=by rw[Lib.byteCells_length];omega):p:=h
theorem pG{p:Prop}(h:p:=by simp only[kqq]at h;omega):p:=h
theorem qQ{p:Prop}(h:p:=by have:=ku HV g t;omega):p:=h
theorem kD{p:Prop}(h:p:=by rw[show zvh.toList=[33] from jh _];rfl):p:=h
theorem qJ{p:Prop}(h:p:=by obtain⟨cs,q1,q2⟩:=s;exact⟨cs,qo jG q1,q2⟩):p:=h
theorem kM{p:Prop}(h:p:=by simp[dgB,zxx,Go.Lib.join,kvh,List.intercalate,List.intersperse]):p:=h
theorem lq{p:Prop}(h:p:=by unfold kwc;simp):p:=h
theorem lu{p:Prop}(h:p:=by simp[Op.bytesLess]at h):p:=h
theorem lg{p:Prop}(h:p:=by rw[rD];omega):p:=h
theorem qZ{p:Prop}(h:p:=by rw[je];simp[s]):p:=h
theorem qX{p:Prop}(h:p:=by have:=ku f;rw[h1]at this;exact this):p:=h
theorem lD{p:Prop}(h:p:=by rw[ku d];rfl):p:=h
theorem lK{p:Prop}(h:p:=by rw[g,o];rfl):p:=h
theorem lV{p:Prop}(h:p:=by simp[ChangeMaps.setBlock]):p:=h
theorem lW{p:Prop}(h:p:=by simpa[World.setCell] using h.size):p:=h
theorem qW{p:Prop}(h:p:=by rw[rD];exact S e):p:=h
theorem lU{p:Prop}(h:p:=by rw[<-d];unfold opT;simp_all):p:=h
theorem qY{p:Prop}(h:p:=by cases d):p:=h
theorem qU{p:Prop}(h:p:=by rw[rD];exact K):p:=h
theorem lC{p:Prop}(h:p:=by simp[kj4]at hi;omega):p:=h
theorem lM{p:Prop}(h:p:=by rw[Jq];exact h.1):p:=h
theorem oP{p:Prop}(h:p:=by rw[ku E];simp_all):p:=h
theorem mJ{p:Prop}(h:p:=by unfold zze;simp_all):p:=h
theorem mZ{p:Prop}(h:p:=by cases e):p:=h
theorem qG{p:Prop}(h:p:=by rw[e]):p:=h
theorem ou{p:Prop}(h:p:=by simp[intOf];omega):p:=h
end Go.Proofs
namespace Go.Proofs.YtpmcnonmkghokaaGreatDoor
open Go.Proofs.Tryz Go.RowKit
variable {p:Addr}{cs:Array Value}{a3:Bool}{s:ByteArray}{a6 hi:Int}{l:List UInt8}{xs:List Value}{B P R b base c e f i j k lo lo' n size:Nat}{fr:Nat×Nat}{o:Obj}{no:Option Nat}{a0:Prop}{α:Type}{a7:TypeId}{d u v va vb vi vp vv x x0 x1 x2 x3 x4 x5 x6 x7 x8 x9 z:Value}{a w w' wr:World}
theorem oz{p:Prop}(h:p):Hid p:=h
theorem jS{pa pb:Prop}(a:pa)(b:pb):Hid pa/\Hid pb:=⟨a,b⟩
theorem jF{pa pb pc:Prop}(a:pa)(b:pb)(c:pc):Hid pa/\Hid pb/\Hid pc:=⟨a,b,c⟩
theorem jE{pa pb pc pd:Prop}(a:pa)(b:pb)(c:pc)(d:pd):Hid pa/\Hid pb/\Hid pc/\Hid pd:=⟨a,b,c,d⟩
theorem jz{pa pb pc pd pe:Prop}(a:pa)(b:pb)(c:pc)(d:pd)(e:pe):Hid pa/\Hid pb/\Hid pc/\Hid pd/\Hid pe:=⟨a,b,c,d,e⟩
theorem ju{pa pb pc pd pe pf:Prop}(a:pa)(b:pb)(c:pc)(d:pd)(e:pe)(f:pf):Hid pa/\Hid pb/\Hid pc/\Hid pd/\Hid pe/\Hid pf:=⟨a,b,c,d,e,f⟩
theorem jj{pa pb pc pd pe pf pg:Prop}(a:pa)(b:pb)(c:pc)(d:pd)(e:pe)(f:pf)(g:pg):Hid pa/\Hid pb/\Hid pc/\Hid pd/\Hid pe/\Hid pf/\Hid pg:=⟨a,b,c,d,e,f,g⟩
theorem jx{pa pb pc pd pe pf pg ph:Prop}(a:pa)(b:pb)(c:pc)(d:pd)(e:pe)(f:pf)(g:pg)(h:ph):Hid pa/\Hid pb/\Hid pc/\Hid pd/\Hid pe/\Hid pf/\Hid pg/\Hid ph:=⟨a,b,c,d,e,f,g,h⟩
theorem ku(h:Hid a0):a0:=h
theorem hsC{a:Addr}(h:k≠a.block):(w.setCell a v).heap[k]?=w.heap[k]?:=jN h
theorem oN:w.ownsRow b e R (.slice none 0 0) 0 []:=jT
theorem bR:Below B w w:=Below.refl _ _
theorem cpy(x:α):∃y,y=x:=⟨_,rfl⟩
theorem qqy(n:Nat)(h:0<n:=by omega):∃k,n=k+1:=⟨n-1,aj⟩
theorem kx0{P:Program}{e:Func}{R:Ending->World->Prop}{a:Act}{w:World}{p:Tmp}{ty:TypeId}{g:Nat}{t:TypeId}{cs:Array Value}{fr:Nat×Nat}{d:TypeDesc}(h:e.results=#[.cell p ty])(hu:P.underlying ty=some d)(j:w.heap[g]?=some (.cells cs t fr))(hR:R (.returned (.agg cs)) w)(k:a.tmps.getD p undef=.pointer (some ⟨g,0,none⟩):=by exact rfl)(i:(match d with|.struct _|.array _ _=>true|_=>false)=true:=by exact rfl)(hi:(P.info? ty).map (·.size)=some cs.size:=by kernel_rfl)(f:a.defers=[]:=by exact rfl):bodyPost P e R .ret a w:=
 tK (J9 h _ _ g t cs fr d k j hu i hi) f hR
theorem rdM{a2:Prop}(h:a0)(m:a2:=by simp[intOf];omega):a0/\a2:=⟨h,m⟩
theorem getD_at{l:List α}{d:α}(h:k<l.length):l.getD k d=l[k]:=by simp_all
theorem um{a4:Bool}(h:a3=a4):Ending.returned (.bool a3)=.returned (.bool a4):=by rw[h]
theorem kqi{a5:IntKind}(h:hi=a6):Ending.returned (.int a5 hi)=.returned (.int a5 a6):=by rw[h]
def puts(b:Nat):List Value->Nat->World->World
 |[],_,w=>w
 |y::ys,k,w=>puts b ys (k+1)<|w.setCell ⟨b,k,none⟩ y
def xkh:List Value->Nat->Array Value->Array Value
 |[],_,cs=>cs
 |y::ys,k,cs=>xkh ys (k+1)<|cs.setIfInBounds k y
theorem xxd:∀(ys:List Value)(k:Nat){w:World}{cs:Array Value},w.heap[b]?=some (.cells cs a7 (0,0))->(puts b ys k w).heap[b]?=some (.cells (xkh ys k cs) a7 (0,0))
 |[],_,_,_,h=>h
 |y::ys,k,w,cs,h=>xxd ys (k+1)<|jD b k _ _ _ h
theorem zju{a8:Array Value}(h:w.heap[b]?=some (.cells cs a7 (0,0)))(e:some (Obj.cells (xkh xs k cs) a7 (0,0))=some (.cells a8 a7 (0,0)):=by kernel_rfl):(puts b xs k w).heap[b]?=some (.cells a8 a7 (0,0)):=(xxd xs k h).trans e
theorem qzp(hb:B<=b):∀(ys:List Value)(k:Nat){w:World},Below B a w->Below B a (puts b ys k w)
 |[],_,_,h=>h
 |y::ys,k,w,h=>qzp hb ys (k+1)<|h.setCell hb y
theorem jkc(hb:v.ownBlock≠some b):∀(ys:List Value)(k:Nat){w:World},w.ownsRow lo e size v n xs->(puts b ys k w).ownsRow lo e size v n xs
 |[],_,_,h=>h
 |y::ys,k,w,h=>jkc hb ys (k+1)<|ownsRow_setCell_other h hb y
abbrev Ce(w:World)(b i:Nat)(x:Value):Prop:=w.cell? ⟨b,i,none⟩=some x
abbrev Fr(w:World)(b i:Nat):Prop:=w.frozen? ⟨b,i,none⟩=false
abbrev Rw(w:World)(b:Nat)(c:Array Value)(t:TypeId):Prop:=w.heap[b]?=some (.cells c t (0,0))
abbrev pT(b:Nat):Value:=.pointer (some ⟨b,0,none⟩)
abbrev sL(b n c:Nat):Value:=.slice (some ⟨b,0,none⟩) n c
abbrev nS:Value:=.slice none 0 0
abbrev e_:Value:=.string ⟨#[]⟩
abbrev Ad(b i:Nat):Addr:=⟨b,i,none⟩
abbrev i_(n:Int):Value:=.int .i64 n
abbrev rT(e:Ending)(v:Value):Prop:=e=.returned v
theorem zM{P:Program}{f:FuncId}{a:Array Value}{w:World}{v:Value}{R:World->Prop}{Q:Ending->World->Prop}(h:Calls P f a w λe w'=>e=.returned v/\R w')(k:∀w',R w'->Q (.returned v) w'):Calls P f a w Q:=h.mono λ_ w' ⟨a,b⟩=>a▸k w' b
theorem rc(h:Rw w b cs a7)(i:Nat):w.cell? (Ad b i)=cs[i]?:=QK w b i _ _ _ h
theorem rf(h:Rw w b cs a7)(i:Nat):Fr w b i:=Zt w b i _ _ h
theorem row3(h:Rw w b #[x,v,z] a7):Ce w b 0 x/\Ce w b 1 v/\Ce w b 2 z/\Fr w b 0/\Fr w b 1/\Fr w b 2:=
 ⟨rc h 0,rc h 1,rc h 2,rf h 0,rf h 1,rf h 2⟩
def inB(lo hi:Int)(s:ByteArray)(i:Nat):Bool:=if h:i<s.size then decide (lo<=((s[i]).toNat:Int))&&decide (((s[i]).toNat:Int)<=hi) else false
def kzq(s:ByteArray)(i:Nat):Bool:=inB 97 122 s i
def kzx(s:ByteArray)(i:Nat):Bool:=inB 48 57 s i
theorem qy3(h:¬i<s.size):inB a6 hi s i=false:=by simp[inB,h]
theorem pyh(h:i<s.size)(h1:((s[i]).toNat:Int)<a6):inB a6 hi s i=false:=by simp[inB,h];omega
theorem pyt(h:i<s.size)(h1:a6<=((s[i]).toNat:Int)):inB a6 hi s i=decide (((s[i]).toNat:Int)<=hi):=by simp[inB,h,h1]
theorem qz6(s:ByteArray)(k:Int)(d:0<=k)(f:k<=1000)(g:s.size<=800):Calls prog 173 #[.string s,i_ k] w λe w'=>rT e (.bool<|kzq s k.toNat)/\w'=w:=by
 obtain⟨n,rfl⟩:=sG d;rw[tX];by_cases h:n<s.size
 ·go_wp2
  ·go_ret;exact⟨um (pyt h ‹_›).symm,rfl⟩
  ·go_ret;exact⟨um (pyh h ‹_›).symm,rfl⟩
 ·go_wp2;go_ret;exact⟨um (qy3 h).symm,rfl⟩
theorem qkn(s:ByteArray)(k:Int)(d:0<=k)(f:k<=1000)(g:s.size<=800):Calls prog 174 #[.string s,i_ k] w λe w'=>rT e (.bool<|kzx s k.toNat)/\w'=w:=by
 obtain⟨n,rfl⟩:=sG d;rw[tX];by_cases h:n<s.size
 ·go_wp2
  ·go_ret;exact⟨um (pyt h ‹_›).symm,rfl⟩
  ·go_ret;exact⟨um (pyh h ‹_›).symm,rfl⟩
 ·go_wp2;go_ret;exact⟨um (qy3 h).symm,rfl⟩
theorem jyu(b o cap:Nat){ls:List ByteArray}(u:ls.length<=100)(h:∀i,i<ls.length->w.cell? ⟨b,o+i,none⟩=some (.string<|ls.getD i ByteArray.empty)):Calls prog 136 #[.slice (some (Ad b o)) ls.length cap,.string s] w λe w'=>rT e (.bool<|ls.any (λt=>t.toList==s.toList))/\w'=w:=by
 go_wp2;go_loop [5] (λi=>∃k:Nat,k<=ls.length/\i=i_ k/\(ls.take k).any (λt=>t.toList==s.toList)=false) (λi=>ls.length-(intOf i).toNat)
 ·grind
 obtain⟨k,q,rfl,l⟩:=hrel;have m:Hid ((ls.take k).any (λt=>t.toList==s.toList)=false):=l;by_cases d:k<ls.length
 ·have j:=h k d;have⟨t,f⟩:=cpy<|ls.getD k ByteArray.empty;rw[<-f]at j;have g:Hid (t=ls.getD k ByteArray.empty):=f;clear f h;go_wp2
  ·go_ret;refine⟨um ?_,rfl⟩;have h1:(t.toList==s.toList)=true:=aj;symm
   rw[Zx];refine⟨t,?_,h1⟩;rw[g.out,getD_at d];simp
  ·have h1:(t.toList==s.toList)=false:=by omega
   have p:(ls[k].toList==s.toList)=false:=by have:=g.out;simp_all
   go_round
   case rel=>exact⟨k+1,aj,eu,by grind [List.take_succ_eq_append_getElem]⟩
   case measure=>exact ou
 ·go_wp2;go_ret;simp_all [Q9]
def qxv:Nat->ByteArray->Nat->Nat
 |0,_,i=>i
 |f+1,s,i=>if kzq s i then qxv f s (i+1) else i
theorem jyj(h:kzq s i=true):i<s.size:=by
 unfold kzq inB at h;by_cases d:i<s.size
 ·exact d
 ·simp[d]at h
theorem zwi(hn:kzq s n=false):∀(f k:Nat),k<=n->n-k<f->(∀j,k<=j->j<n->kzq s j=true)->qxv f s k=n
 |0,k,_,h,_=>aj
 |f+1,k,hk,h,hall=>by
  rw[qxv];by_cases e:k=n
  ·subst e;simp[hn]
  ·rw[lJ (hall k jV aj)];exact zwi hn f (k+1) aj aj<|λj h1 d=>hall j aj d
def qw6:List ByteArray:=[⟨#[115,101,116]⟩,⟨#[107,105,110,100]⟩,⟨#[118,97,114]⟩,⟨#[98,111,111,108]⟩,⟨#[116,111]⟩,⟨#[114,117,108,101]⟩,⟨#[105,102]⟩,⟨#[101,108,115,101]⟩,⟨#[110,101,118,101,114]⟩,⟨#[116,114,117,101]⟩,⟨#[102,97,108,115,101]⟩,⟨#[110,111,110,101]⟩]
def qwu(s:ByteArray):Bool:=qw6.any (λt=>t.toList==s.toList)
structure Tok where
 t:ByteArray
 x:ByteArray
 v:Nat
variable {L:List Tok}{a9:Tok}
def kxt(t:Tok):Value:=.agg #[.string t.t,.string t.x,i_ t.v]
def ji(t:Tok):List Value:=[.string t.t,.string t.x,i_ t.v]
def jvj:ByteArray:=⟨#[119,111,114,100]⟩
def zw4:ByteArray:=⟨#[110,97,109,101]⟩
def qj0:ByteArray:=⟨#[100,105,103,105,116]⟩
def zqa:ByteArray:=⟨#[115,105,103,110]⟩
def xvj:ByteArray:=⟨#[101,110,100]⟩
def qy0:ByteArray:=⟨#[]⟩
def kwr:ByteArray:=⟨#[40,41,91,93,123,125,58,59,44,33,38,124,43,45,60,61]⟩
def qxa(s:ByteArray)(k:Nat):Bool:=decide (k+1<s.size)&&((s.extract k (k+2)).toList==[61,61]||(s.extract k (k+2)).toList==[33,61])
def qwz(s:ByteArray)(k:Nat):Bool:=kwr.toList.any (λc=>c.toNat==(s.get! k).toNat)
def uf(s:ByteArray)(k:Nat):Tok:=
 if kzq s k then
  let t:=s.extract k<|qxv 801 s k
  {t:=if qwu t then jvj else zw4,x:=t,v:=k}
 else if kzx s k then {t:=if kzx s (k+1) then qy0 else qj0,x:=s.extract k<|k+1,v:=k}
 else if qxa s k then {t:=zqa,x:=s.extract k<|k+2,v:=k}
 else {t:=if qwz s k then zqa else qy0,x:=s.extract k<|k+1,v:=k}
theorem pxg(b:Nat)(s:ByteArray)(d:∀i,i<12->w.cell? ⟨b,0+i,none⟩=some (.string (qw6.getD i ByteArray.empty))):og 136 #[.slice (some ⟨b,0,none⟩) 12 12,.string s] w λe w'=>e=.returned (.bool<|qwu s)/\w'=w:=
 jyu b 0 12 (s:=s) ak d
theorem vkl(w:World)(B:k<s.size)(l:s.size<=800)(h:kzq s k=true):Calls prog 101 #[.string s,i_ k] w λe w'=>rT e (kxt<|uf s k)/\oq w w':=by
 go_in;go_wp2_with (first|(go_at_call 173;refine(qz6 s k aj aj l).mono ?_;rintro e w' ⟨rfl,rfl⟩;rw[tX,h])|(go_at_call 174;refine(qkn s k aj aj l).mono ?_;rintro e w' ⟨rfl,rfl⟩))
 go_loop [9,10] (λn m=>∃j:Nat,k<=j/\j<=s.size/\n=i_ j/\m=.bool (kzq s j)/\∀i,k<=i->i<j->kzq s i=true) (λn _=>s.size-(intOf n).toNat)
 exact⟨k,jV,aj,rfl,by rw[h],λi h1 x=>aj⟩;obtain⟨j,t,A,rfl,rfl,d⟩:=hrel;have q:Hid (∀i,k<=i->i<j->kzq s i=true):=d;clear d;cases g:kzq s j
 ·go_wp21;refine(pxg (w.heap.size+1) (s.extract k j) ?_).mono ?_
  ·intro i hi;have:i=0\/i=1\/i=2\/i=3\/i=4\/i=5\/i=6\/i=7\/i=8\/i=9\/i=10\/i=11:=aj;obtain rfl|rfl|rfl|rfl|rfl|rfl|rfl|rfl|rfl|rfl|rfl|rfl:=this<;>simp[go_sem,qw6]
  ·rintro e w' ⟨rfl,rfl⟩;have f:qxv 801 s k=j:=zwi g 801 k t aj q.out;cases y:qwu (s.extract k j);all_goals
    have p:uf s k={t:=if qwu (s.extract k j) then jvj else zw4,x:=s.extract k j,v:=k}:=by simp[uf,h,f]
    rw[y]at p;have u:=oz p;clear p f;go_wp2;refine tK (v:=kxt<|uf s k) (by rw[ku u];simp[results,results101,go_sem,kxt,jvj,zw4]) rfl ⟨rfl,?_⟩;exact((bR.alloc ay _).alloc ay _).alloc ah _
 ·have z:=jyj g;go_wp2_with (first|(go_at_call 173;refine(qz6 s (j+1) aj aj l).mono ?_;rintro e w' ⟨rfl,rfl⟩))
  go_round
  case rel=>exact⟨j+1,aj,aj,eu,rfl,λi h1 x=>if e:i=j then e▸g else q.out i h1 aj⟩
  case measure=>exact ou
theorem vqo(w:World)(j:k<s.size)(d:s.size<=800)(g:kzq s k=false)(f:kzx s k=true):Calls prog 101 #[.string s,i_ k] w λe w'=>rT e (kxt<|uf s k)/\oq w w':=by
 have h:uf s k={t:=if kzx s (k+1) then qy0 else qj0,x:=s.extract k<|k+1,v:=k}:=by simp[uf,g,f]
 have i:=oz h;clear h;go_in;go_wp21;refine(qz6 s k aj aj d).mono ?_;rintro e w' ⟨rfl,rfl⟩;rw[tX,g];go_wp21;refine(qkn s k aj aj d).mono ?_;rintro e w' ⟨rfl,rfl⟩;rw[tX,f];go_wp21;refine(qkn s (k+1) aj aj d).mono ?_;rintro e w' ⟨rfl,rfl⟩;rw[show((k:Int)+1).toNat=k+1 by omega];cases h1:kzx s (k+1);all_goals
  go_wp2;refine tK (v:=kxt<|uf s k) (by rw[ku i,h1];simp[results,results101,go_sem,kxt,qy0,qj0]) rfl ⟨rfl,?_⟩;exact((bR.alloc ay _).alloc ay _).alloc ah _
theorem pz0(w:World)(t:k<s.size)(i:s.size<=800)(h:kzq s k=false)(g:kzx s k=false)(d:qxa s k=true):Calls prog 101 #[.string s,i_ k] w λe w'=>rT e (kxt<|uf s k)/\oq w w':=by
 have j:uf s k={t:=zqa,x:=s.extract k<|k+2,v:=k}:=by simp[uf,h,g,d]
 have l:=oz j;clear j;have p:k+1<s.size:=by unfold qxa at d;simp at d;exact d.1
 have f:((s.extract k<|k+2).toList==[61,61])=true\/((s.extract k<|k+2).toList==[61,61])=false/\((s.extract k<|k+2).toList==[33,61])=true:=by
  unfold qxa at d;rw[rG,Q8]at d;cases m:((s.extract k<|k+2).toList==[61,61])
  ·exact .inr ⟨rfl,by simpa[m] using d.2⟩
  ·exact .inl rfl
 clear d;obtain f|⟨f,q⟩:=f;all_goals
  go_in;go_wp21;refine(qz6 s k aj aj i).mono ?_;rintro e w' ⟨rfl,rfl⟩;rw[tX,h];go_wp21;refine(qkn s k aj aj i).mono ?_;rintro e w' ⟨rfl,rfl⟩;rw[tX,g];go_wp2;refine tK (v:=kxt<|uf s k) (by rw[ku l];simp[results,results101,go_sem,kxt,zqa]) rfl ⟨rfl,?_⟩;exact((bR.alloc ay _).alloc ay _).alloc ah _
theorem vxk(s:ByteArray)(k:Nat)(h:k<s.size):s.get! k=s[k]:=by simp only[ByteArray.get!,ByteArray.getElem_eq_getElem_data];exact getElem!_pos s.data k h
theorem jk2(j:Nat)(h:j<16):kwr.toList.take (j+1)=kwr.toList.take j++[kwr[j]'(by show j<16;exact h)]:=by
 have d:j<kwr.toList.length:=by rw[JX];exact h
 rw[tJ d];congr 2
 simp only[JX];rfl
theorem pvt(f:k<s.size)(d:j<16)(h:((((⟨#[40,41,91,93,123,125,58,59,44,33,38,124,43,45,60,61]⟩:ByteArray)[j]'(by show j<16;exact d)).toNat:Int)==((s[k]).toNat:Int))=true):qwz s k=true:=by
 unfold qwz;have e:((kwr[j]'(by show j<16;exact d)).toNat==(s.get! k).toNat)=true:=by rw[vxk s k f,su];rw[su]at h;exact Int.ofNat_inj.1 h
 rw[<-Jj (j+1) kwr.toList,ZK,jk2 j d,ZK];simp[e]
theorem pz8(f:k<s.size)(d:j<16)(h:((((⟨#[40,41,91,93,123,125,58,59,44,33,38,124,43,45,60,61]⟩:ByteArray)[j]'(by show j<16;exact d)).toNat:Int)==((s[k]).toNat:Int))=false)(hn:(kwr.toList.take j).any (λc=>c.toNat==(s.get! k).toNat)=false):(kwr.toList.take<|j+1).any (λc=>c.toNat==(s.get! k).toNat)=false:=by
 have e:((kwr[j]'(by show j<16;exact d)).toNat==(s.get! k).toNat)=false:=by rw[vxk s k f,QG];rw[QG]at h;exact λx=>h<|Int.ofNat_inj.2 x
 rw[jk2 j d,ZK,hn];simp only[ZG,e];rfl
theorem pvr(d:¬j<16)(hn:(kwr.toList.take j).any (λc=>c.toNat==(s.get! k).toNat)=false):qwz s k=false:=by rw[Q9 (by rw[JX];show 16<=j;omega)]at hn;exact hn
def xqi(w:World)(s:ByteArray)(k:Nat)(wr:World):Prop:=
 wr.heap[w.heap.size]?=some (.cells #[e_,e_,i_ 0] 142 (0,0)) /\
 wr.heap[w.heap.size+1+1]?=some (.cells #[.string ⟨#[115,105,103,110]⟩,.string<|s.extract k (k+1),i_ k] 142 (0,0)) /\
 oq w wr
theorem jwj(w:World)(s:ByteArray)(k:Nat):xqi w s k (((w.alloc (.cells #[e_,e_,i_ 0] 142)).alloc o).alloc (.cells #[.string ⟨#[115,105,103,110]⟩,.string (s.extract k (k+1)),i_ k] 142)):=by
 refine⟨?_,?_,((((Below.refl w.heap.size w).alloc ay _).alloc ay _).alloc ah _)⟩
 ·rw[jR ah,jR ay,Xk]
 ·have:=Xk ((w.alloc<|.cells #[e_,e_,i_ 0] 142).alloc o)<|.cells #[.string ⟨#[115,105,103,110]⟩,.string<|s.extract k (k+1),i_ k] 142;simpa using this
theorem vks(w:World)(z:k<s.size)(B:s.size<=800)(A:kzq s k=false)(y:kzx s k=false)(g:qxa s k=false):Calls prog 101 #[.string s,i_ k] w λe w'=>rT e (kxt<|uf s k)/\oq w w':=by
 have C:uf s k={t:=if qwz s k then zqa else qy0,x:=s.extract k<|k+1,v:=k}:=by simp[uf,A,y,g]
 have u:=oz C;clear C;have m:¬(k+1<s.size)\/k+1<s.size/\((s.extract k<|k+2).toList==[61,61])=false/\((s.extract k<|k+2).toList==[33,61])=false:=by
  unfold qxa at g;by_cases q:k+1<s.size
  ·refine .inr ⟨q,?_⟩;simpa[q] using g
  ·exact .inl q
 clear g;obtain m|⟨m,F,G⟩:=m;all_goals
  go_in;go_wp21;refine(qz6 s k aj aj B).mono ?_;rintro e w' ⟨rfl,rfl⟩;rw[tX,A];go_wp21;refine(qkn s k aj aj B).mono ?_;rintro e w' ⟨rfl,rfl⟩;rw[tX,y];go_wp2;go_loopw [14] (λi wr=>∃j:Nat,j<=16/\i=i_ j/\(kwr.toList.take j).any (λc=>c.toNat==(s.get! k).toNat)=false/\xqi w s k wr) (λi _=>16-(intOf i).toNat);exact⟨0,aj,rfl,ay,jwj w s k⟩;obtain⟨j,H,rfl,h,hR,p,d⟩:=hrel;have⟨t,l⟩:=jS h d;have ⟨I,J,K,f0,f1,f2⟩:=row3 hR;have ⟨c0,c1,c2,g0,g1,E⟩:=row3 p;have⟨D,x⟩:=jS hR p;clear h d hR p;by_cases f:j<16
  ·go_wp2;go_quiet (fail)
   go_wp2
   ·refine tK (v:=kxt<|uf s k) (by rw[ku u,pvt z f ‹_›];simp[results,results101,go_sem,kxt,zqa, *]) rfl ⟨rfl,?_⟩;exact((((below_drewN l _).setCell jV _).setCell jV _).setCell jV _)
   ·have R:=pz8 z f ‹_› t;exact rdM ⟨j+1,aj,eu,R,D,x,below_drewN l _⟩
  ·go_wp2;refine tK (v:=kxt<|uf s k) (by rw[ku u,pvr f (ku t)];simp[results,results101,go_sem,kxt,qy0, *]) rfl ⟨rfl,?_⟩;exact((((l.setCell ah _).setCell jV _).setCell jV _).setCell jV _)
theorem pz2(s:ByteArray)(k:Int)(w:World)(i:0<=k)(j:k<s.size)(f:s.size<=800):og 101 #[.string s,i_ k] w λe w'=>rT e (kxt<|uf s k.toNat)/\oq w w':=by
 obtain⟨n,rfl⟩:=sG i;rw[tX];have hn:n<s.size:=aj;cases d:kzq s n
 ·cases g:kzx s n
  ·cases h:qxa s n
   ·exact vks w hn f d g h
   ·exact pz0 w hn f d g h
  ·exact vqo w hn f d g
 ·exact vkl w hn f d
theorem pz1(s:ByteArray)(k:Nat)(f:k<s.size)(d:s.size<=800):og 101 #[.string s,i_ k] w λe w'=>rT e (kxt<|uf s k)/\oq w w':=by have h:=pz2 s k w aj aj d;rw[tX]at h;exact h
def qq5(s:ByteArray)(k:Nat):Bool:=if h:k<s.size then (((s[k]).toNat:Int)==32)||(((s[k]).toNat:Int)==10) else false
def kks(n:Nat):Tok:={t:=xvj,x:=⟨#[]⟩,v:=n}
def kvd:Nat->ByteArray->Nat->List Tok->List Tok×Option Nat
 |0,_,k,acc=>(acc,some k)
 |f+1,s,k,acc=>
  if k<s.size then
   if qq5 s k then kvd f s (k+1) acc
   else if (uf s k).t.toList.isEmpty then (acc,some k)
   else kvd f s (k+(uf s k).x.size) (acc++[uf s k])
  else (acc++[kks s.size],none)
def jv(s:ByteArray):List Tok×Option Nat:=kvd 801 s 0 []
def uw(l:List Tok):List Value:=l.flatMap ji
theorem infoTok:(prog.info? 142).map (λi=>(i.zero,i.size,i.bytes))=some (some (.agg #[e_,e_,i_ 0]),3,40):=au
theorem extract_size(h:b<=s.size):(s.extract R b).size=b-R:=by simp_all
theorem qyp(s:ByteArray):∀(f k:Nat),k<=s.size->k<=qxv f s k/\qxv f s k<=s.size
 |0,k,h=>⟨jV,h⟩
 |f+1,k,h=>by
  rw[qxv];split
  ·rename_i d;have:=jyj d;have:=qyp s f (k+1) aj;omega
  ·omega
theorem qv5(s:ByteArray)(k:Nat)(d:k<s.size):1<=(uf s k).x.size/\k+(uf s k).x.size<=s.size:=by grind [uf,qyp,qxv,extract_size,qxa]
theorem qjb(w:World)(cs:List Value)(hb:w.heap.size=b):∀j u,cs[j]?=some u->(w.alloc (.cells cs.toArray a7)).cell? ((⟨b,0,none⟩:Addr).add j)=some u:=by intro j u h;subst hb;have d:=Xk w<|.cells cs.toArray a7;rw[show((⟨w.heap.size,0,none⟩:Addr).add j)=⟨w.heap.size,j,none⟩ by simp[Addr.add];omega,jL d];simp_all
theorem kk1{t:Tok}:∀u∈ji t,u.oneCell'=true:=by intro u h;simp only[ji,tZ,Qu,or_false]at h;obtain rfl|rfl|rfl:=h<;>rfl
theorem kwt(l:List Tok)(t:Tok):uw (l++[t])=uw l++ji t:=by simp[uw]
def jya(s:ByteArray)(w:World)(v i:Value)(wr:World):Prop:=
 ∃(k f:Nat)(acc:List Tok),k<=s.size/\i=i_ k/\acc.length<=k/\s.size-k<f/\kvd f s k acc=jv s /\
  wr.ownsRow w.heap.size 142 3 v acc.length (uw acc)/\oq w wr
theorem zvp(hb:qq5 s k=true)(d:k<s.size):kvd (f+1) s k L=kvd f s (k+1) L:=by rw[kvd,lJ d,lJ hb]
theorem zqm(hb:qq5 s k=true)(h:k<s.size)(g:kvd f s k L=jv s)(j:s.size-k<f)(i:L.length<=k)(e:wr.ownsRow w.heap.size 142 3 v L.length (uw L))(d:oq w wr):jya s w v (i_<|(k:Int)+1) wr:=by obtain⟨f,rfl⟩:=qqy f;rw[zvp hb h]at g;exact⟨k+1,f,L,aj,eu,aj,aj,g,e,d⟩
theorem jq1(hb:qq5 s k=false)(e:k<s.size)(d:kvd f s k L=jv s):∀g,f=g+1->((uf s k).t.toList.isEmpty=true->jv s=(L,some k))/\((uf s k).t.toList.isEmpty=false->kvd g s (k+(uf s k).x.size) (L++[uf s k])=jv s):=by grind [kvd]
theorem qj(h:w.ownsRow base e size v n xs)(hb:oq w w'):w'.ownsRow base e size v n xs:=by
 have⟨h1,d⟩:=h;refine⟨h1,?_⟩;obtain d|⟨g,cap,cur,hv,i,f,r⟩:=d
 ·simp_all
 ·exact .inr ⟨g,cap,cur,hv,i,by rw[hb.block g (wQ f)];exact f,r⟩
theorem jo(h:w.ownsRow base e size v n xs):∀k,v.ownBlock=some k->base<=k:=by
 intro k d;obtain⟨rfl,_⟩|⟨g,cap,cur,rfl,f,_⟩:=h.2
 ·simp[Value.ownBlock]at d
 ·simp[Value.ownBlock]at d;omega
theorem kq9(h:w.ownsRow base e size v n xs):∀k,v.ownBlock=some k->k<w.heap.size:=by
 intro k d;obtain⟨rfl,_⟩|⟨g,cap,cur,rfl,f,i,_⟩:=h.2
 ·simp[Value.ownBlock]at d
 grind [Value.ownBlock]
theorem pxp(d:w.grownBy w' v.ownBlock)(hv:∀k,v.ownBlock=some k->k<b)(hb:b<w.heap.size):w'.heap[b]?=w.heap[b]?:=
 d.block b hb (λe=>by grind)
def xqe(s:ByteArray)(w:World)(e:Ending)(w':World):Prop:=
 oq w w'/\(((jv s).2=none/\∃v,rT e (.tuple #[v,i_ (-1)])/\w'.ownsRow w.heap.size 142 3 v (jv s).1.length (uw (jv s).1)) \/
  ∃k:Nat,(jv s).2=some k/\rT e (.tuple #[nS,i_ k]))
theorem pv9(s:ByteArray)(w:World)(Y:s.size<=800):Calls prog 60 #[.string s] w λe w'=>xqe s w e w':=by
 have ⟨V,hi,J,K,L⟩:=info_parts infoTok;go_wp2;go_loopw [4,5] (λv i wr=>jya s w v i wr) (λ_ i _=>s.size-(intOf i).toNat);exact⟨0,801,[],aj,rfl,ay,aj,rfl,oN,bR⟩;obtain⟨k,f,acc,hk,rfl,H,S,j,B,p⟩:=hrel;have⟨x,m,u⟩:=jF j B p;have T:=p.size;clear j B p;by_cases g:k<s.size
 ·by_cases G:(((s[k]).toNat:Int)==32)=true
  ·have R:=zqm (by simp[qq5,g,G]) g x S H m u;go_wp2;grind [intOf]
  ·have N:(((s[k]).toNat:Int)==32)=false:=by simp_all
   clear G;by_cases F:(((s[k]).toNat:Int)==10)=true
   ·have R:=zqm (by simp[qq5,g,F]) g x S H m u;go_wp2;grind [intOf]
   ·have M:(((s[k]).toNat:Int)==10)=false:=by simp_all
    clear F;have P:=oz (by simp only[qq5,g,N,M];rfl:qq5 s k=false);go_wp21;refine zM (pz1 s k g Y) λX q=>?_;have U:=qv5 s k g;have z:=oz<|jq1 P g x;generalize uf s k=t at U z |-;have A:=oz<|qj m q;have D:=oz<|u.trans (q.mono T);have Z:=q.size;clear q m u x;unfold kxt;cases I:t.t.toList.isEmpty
    ·go_wp2_with (at_builtin;refine wpList_append_own _ rfl _ _ 132 rfl w.heap.size 142 V _ 3 40 underlying132 hi J K L rfl ak _ _ _ rfl ((A.alloc _).alloc _) (Ad (X.heap.size+1) 0) 1 1 (ji t) rfl rfl ?c1 ?c2 ?c3 ?c4 ?c5 ?_)
     case c1=>simp_all [qjb,ji]
     case c2=>exact kk1 (t:=t)
     case c3=>unfold maxLen;omega
     case c4=>omega
     case c5=>simp;omega
     intro W C h d _;have l:oq w C:=((D.alloc aj _).alloc ah _).grown d ah<|jo A;have O:=pxp (b:=X.heap.size) d (kq9 A) ah;rw[jR ay,Xk]at O;have ⟨c0,c1,c2,_,_,_⟩:=row3 O;have⟨E,y⟩:=jS h l;clear h d l O;have R:jya s w W (i_<|(k:Int)+t.x.size) C:=
      ⟨k+t.x.size,f-1,acc++[t],aj,eu,by grind,aj,(z (f-1) aj).2 I,by grind [kwt,ku],y⟩
     have HR:=oz R;clear R;go_wp2;grind [ku,intOf]
    ·go_wp2;go_ret2;exact⟨D.alloc aj _,.inr ⟨k,by rw[((ku z) (f-1) aj).1 I],rfl⟩⟩
 ·go_wp2_with (at_builtin;refine wpList_append_own _ rfl _ _ 132 rfl w.heap.size 142 V _ 3 40 underlying132 hi J K L rfl ak _ _ _ rfl (m.alloc _) (Ad wr.heap.size 0) 1 1 (ji<|kks s.size) rfl rfl ?d1 ?d2 ?d3 ?d4 ?d5 ?_)
  case d1=>exact qjb wr (ji<|kks s.size) rfl
  case d2=>exact kk1
  case d3=>unfold maxLen;omega
  case d4=>omega
  case d5=>simp;omega
  intro W C h d _;have l:oq w C:=(u.alloc aj _).grown d ah<|jo m;obtain⟨f,rfl⟩:=qqy f;have j:=ku x;rw[kvd,Xy g]at j;have⟨Q,E,y⟩:=jF j h l;clear h d j l x m u;go_wp2
  go_ret2;refine⟨y,.inl ⟨by rw[<-ku Q],_,rfl,?_⟩⟩;have:=ku E;rw[<-ku Q,kwt,rD];simp_all
structure RS where
 v:Nat
 nest:Int
 s:Bool
variable {st:RS}
def tk(L:List Tok)(k:Nat):Tok:=L.getD k (kks 0)
structure Kept (R:Nat)(w w':World):Prop where
 os:w'.os=w.os
 tape:w'.tape=w.tape
 output:w'.output=w.output
 size:w.heap.size<=w'.heap.size
 block:∀k,k<w.heap.size->k≠R->w'.heap[k]?=w.heap[k]?
theorem Kept.refl(R:Nat)(w:World):Kept R w w:=⟨rfl,rfl,rfl,jV,λ_ _ _=>rfl⟩
theorem Kept.trans{b:World}(h:Kept R a b)(k:Kept R b w):Kept R a w:=
 ⟨k.os.trans h.os,k.tape.trans h.tape,k.output.trans h.output,rP h.size k.size,λi hi hn=>(k.block i (sV hi h.size) hn).trans<|h.block i hi hn⟩
theorem Kept.of_below(h:oq w w'):Kept R w w':=⟨h.os,h.tape,h.output,h.size,λk d _=>h.block k d⟩
theorem Kept.alloc(h:Kept R a w)(o:Obj):Kept R a (w.alloc o):=h.trans<|.of_below (bR.alloc jV o)
theorem Kept.drew(h:Kept R a w):Kept R a w.drew:=⟨h.os,h.tape,h.output,h.size,h.block⟩
theorem Kept.drewN(h:Kept R a w)(n:Nat):Kept R a (w.drewN n):=⟨h.os,h.tape,h.output,h.size,h.block⟩
theorem Kept.kzr(h:Kept R a w)(o:Nat)(u:Value):Kept R a (w.setCell (Ad R o) u):=
 h.trans ⟨rfl,rfl,rfl,ay,λk d hn=>hsC hn⟩
theorem Kept.jm(h:Kept R a w)(e:a.heap.size<=p.block)(u:Value):Kept R a (w.setCell p u):=
 ⟨h.os,h.tape,h.output,lW,λk d hn=>(hsC aj).trans (h.block k d hn)⟩
theorem Kept.qk9(h:Kept R a w)(hb:a.heap.size<=b):∀(ys:List Value)(k:Nat),Kept R a (puts b ys k w):=λys=>by
 induction ys generalizing w with
 |nil=>exact λ_=>h
 |cons y ys ih=>exact λk=>ih (h.jm hb y)<|k+1
theorem qkv(h:w.ownsRow base e size v n xs)(i:v.ownBlock≠some R)(hb:Kept R w w'):w'.ownsRow base e size v n xs:=by
 have⟨h1,d⟩:=h;refine⟨h1,?_⟩;obtain d|⟨g,cap,cur,rfl,j,f,r⟩:=d
 ·simp_all
 ·exact .inr ⟨g,cap,cur,rfl,j,by rw[hb.block g (wQ f) (λe=>i (by simp[Value.ownBlock,e]))];exact f,r⟩
structure Rd (w:World)(R:Nat)(v:Value)(L:List Tok)(st:RS):Prop where
 rd:w.heap[R]?=some (.cells #[v,i_ st.v,i_ st.nest,.bool st.s] 219 (0,0))
 xu:w.ownsRow 0 142 3 v L.length (uw L)
 ne:v.ownBlock≠some R
 lt:st.v<L.length
 T:L.length<=801
 fin:∀i,i<L.length->((tk L i).t.toList==nG)=false->i+1<L.length
 nlo:-(st.v:Int)<=st.nest
 nhi:st.nest<=12
theorem row4(h:Rw w b #[x,v,z,u] a7):Ce w b 0 x/\Ce w b 1 v/\Ce w b 2 z/\Ce w b 3 u/\Fr w b 0/\Fr w b 1/\Fr w b 2/\Fr w b 3:=
 ⟨rc h 0,rc h 1,rc h 2,rc h 3,rf h 0,rf h 1,rf h 2,rf h 3⟩
theorem zzk:∀(L:List Tok)(k:Nat),k<L.length->(uw L)[k*3]?=some (.string (tk L k).t)/\(uw L)[k*3+1]?=some (.string (tk L k).x)/\(uw L)[k*3+2]?=some (i_ (tk L k).v)
 |[],k,h=>by simp at h
 |a::L,0,_=>⟨rfl,rfl,rfl⟩
 |a::L,k+1,h=>by
  have d:=zzk L k (by simp_all);have e:∀i,(uw (a::L))[i+3]?=(uw L)[i]?:=λi=>by grind [ji,uw]
  grind [tk]
theorem Rd.open(h:Rd w R v L st):∃g cap,v=sL g L.length cap/\g≠R/\g<w.heap.size/\R<w.heap.size/\Ce w g (st.v*3) (.string (tk L st.v).t)/\Ce w g (st.v*3+1) (.string (tk L st.v).x)/\Ce w g (st.v*3+2) (i_ (tk L st.v).v):=by
 have ⟨h1,d⟩:=h.xu;have f:=h.lt;obtain⟨_,d⟩|⟨g,cap,cur,hv,q,i,k,l,m,p⟩:=d
 ·omega
 ·have j:=zzk L st.v f;refine⟨g,cap,hv,λe=>h.ne (by rw[hv];simp[Value.ownBlock,e]),wQ i,wQ h.rd,?_⟩;grind [cell_of_row]
theorem jy(w:World):oq w (w.alloc o).drew:=(bR.alloc jV _).drew
def qqb(t:Tok)(s:List UInt8)(bad:Bool):Bool:=
 !bad&&(t.t.toList==nM||t.t.toList==nV)&&(t.x.toList==s)
def zk(L:List Tok)(s:List UInt8)(st:RS):Bool:=qqb (tk L st.v) s st.s
theorem next_any(s:ByteArray)(h:Rd w R v L st):Calls prog 103 #[pT R,.string s] w λe w'=>rT e (.bool<|zk L s.toList st)/\oq w w':=by
 have ⟨c0,c1,c2,c3,_,_,_,_⟩:=row4 h.rd;obtain⟨g,cap,rfl,k,i,f,t0,l,m⟩:=h.open;have j:=h.lt;have d:=h.T;unfold zk;generalize tk L st.v=t at *;have⟨a,n,bad⟩:=st;simp only at *;clear h;cases bad
 ·cases k1:(t.t.toList==nM)
  ·cases k2:(t.t.toList==nV)
   ·go_wp2;go_region
    go_wp2;go_ret;simp_all [qqb,jy]
   ·go_wp2;go_region
    go_wp2;go_ret;simp_all [qqb,jy]
  ·go_wp2;go_region
   go_wp2;go_ret;simp_all [qqb,jy]
 ·go_wp2;go_region
  go_wp2;go_ret;simp_all [qqb,jy]
theorem jwb(h:Rw w b #[x,v,z,u] a7):Rw (w.setCell (Ad b 1) x0) b #[x,x0,z,u] a7:=Xx w b 1 _ _ _ h
theorem pvo(h:Rw w b #[x,v,z,u] a7):Rw (w.setCell (Ad b 2) x0) b #[x,v,x0,u] a7:=Xx w b 2 _ _ _ h
theorem vvj(h:Rw w b #[x,v,z,u] a7):Rw (w.setCell (Ad b 3) x0) b #[x,v,z,x0] a7:=Xx w b 3 _ _ _ h
theorem Rd.kept(h:Rd w R v L st)(d:Kept R w w')(e:w'.heap[R]?=w.heap[R]?):Rd w' R v L st:=
 ⟨by rw[e];exact h.rd,qkv h.xu h.ne d,h.ne,h.lt,h.T,h.fin,h.nlo,h.nhi⟩
theorem Rd.below(h:Rd w R v L st)(d:oq w w'):Rd w' R v L st:=
 h.kept (.of_below d) (d.block R<|wQ h.rd)
theorem Rd.put{st':RS}(h:Rd w R v L st)(f:Kept R w w')(g:Rw w' R #[v,i_ st'.v,i_ st'.nest,.bool st'.s] 219)(h1:st'.v<L.length)(d:-(st'.v:Int)<=st'.nest)(e:st'.nest<=12):Rd w' R v L st':=
 ⟨g,qkv h.xu h.ne f,h.ne,h1,h.T,h.fin,d,e⟩
def opens(s:List UInt8):Bool:=s==[40]||s==[91]||s==[123]
def shuts(s:List UInt8):Bool:=s==[41]||s==[93]||s==[125]
def qg(L:List Tok)(s:List UInt8)(st:RS):RS:=
 if !zk L s st||(opens s&&st.nest==12) then {st with s:=true}
 else {v:=st.v+1,nest:=if opens s then st.nest+1 else if shuts s then st.nest-1 else st.nest,s:=false}
theorem next_lt(h:Rd w R v L st)(hn:zk L l st=true):st.v+1<L.length/\st.s=false:=by unfold zk qqb at hn;simp only[rG,Q8,QD]at hn;refine⟨h.fin _ h.lt ?_,hn.1.1⟩;grind
theorem bracket(s:List UInt8):((s==[40])=true/\(s==[91])=false/\(s==[123])=false/\(s==[41])=false/\(s==[93])=false/\(s==[125])=false) \/
  ((s==[40])=false/\(s==[91])=true/\(s==[123])=false/\(s==[41])=false/\(s==[93])=false/\(s==[125])=false) \/
  ((s==[40])=false/\(s==[91])=false/\(s==[123])=true/\(s==[41])=false/\(s==[93])=false/\(s==[125])=false) \/
  ((s==[40])=false/\(s==[91])=false/\(s==[123])=false/\(s==[41])=true/\(s==[93])=false/\(s==[125])=false) \/
  ((s==[40])=false/\(s==[91])=false/\(s==[123])=false/\(s==[41])=false/\(s==[93])=true/\(s==[125])=false) \/
  ((s==[40])=false/\(s==[91])=false/\(s==[123])=false/\(s==[41])=false/\(s==[93])=false/\(s==[125])=true) \/
  ((s==[40])=false/\(s==[91])=false/\(s==[123])=false/\(s==[41])=false/\(s==[93])=false/\(s==[125])=false):=by
 by_cases h1:s=[40]
 ·simp_all
 by_cases d:s=[91]
 ·simp_all
 grind
theorem pwi(s:ByteArray)(h:Rd w R v L st):Calls prog 105 #[pT R,.string s] w λe w'=>rT e (.tuple #[])/\Rd w' R v L (qg L s.toList st)/\Kept R w w':=by
 go_in;go_wp21;refine zM (next_any s h) λy hb=>?_;have h1:=h.below hb;have k:=oz<|Kept.of_below (R:=R) hb;have ⟨c0,c1,c2,c3,f0,f1,f2,f3⟩:=row4 h1.rd;have q:=h1.lt;have x:=h1.T;have l:=h1.nlo;have i:=h1.nhi;have f:=oz h1;clear h hb h1;cases hn:zk L s.toList st
 ·have e:qg L s.toList st={st with s:=true}:=by simp[qg,hn]
  have E:=oz e;clear e;obtain⟨b1,b2,b3,b4,b5,b6⟩|⟨b1,b2,b3,b4,b5,b6⟩|⟨b1,b2,b3,b4,b5,b6⟩|⟨b1,b2,b3,b4,b5,b6⟩|⟨b1,b2,b3,b4,b5,b6⟩|⟨b1,b2,b3,b4,b5,b6⟩|⟨b1,b2,b3,b4,b5,b6⟩:=bracket s.toList;all_goals
   go_wp2;refine tK (v:=.tuple #[]) (by simp[results,results105]) rfl ?_;rw[ku E];exact⟨rfl,f.put ((Kept.refl _ _).kzr _ _) (vvj f.rd) q l i,k.trans<|(Kept.refl _ _).kzr _ _⟩
 ·have m:=(next_lt f hn).1;have t:=(next_lt f hn).2;have j:=oz f.rd;rw[t]at j c3;cases d:opens s.toList
  ·cases g:shuts s.toList
   ·have E:=oz (by simp[qg,hn,d,g]:qg L s.toList st={v:=st.v+1,nest:=st.nest,s:=false});obtain⟨b1,b2,b3,b4,b5,b6⟩|⟨b1,b2,b3,b4,b5,b6⟩|⟨b1,b2,b3,b4,b5,b6⟩|⟨b1,b2,b3,b4,b5,b6⟩|⟨b1,b2,b3,b4,b5,b6⟩|⟨b1,b2,b3,b4,b5,b6⟩|⟨b1,b2,b3,b4,b5,b6⟩:=bracket s.toList;all_goals first|(exfalso;revert d g;simp[opens,shuts,b1,b2,b3,b4,b5,b6];done)|skip
    all_goals
     clear d g;go_wp2;go_end0;rw[ku E];exact⟨rfl,f.put ((Kept.refl _ _).kzr _ _) (jwb j) m (by grind) i,k.trans<|(Kept.refl _ _).kzr _ _⟩
   ·have E:=oz (by simp[qg,hn,d,g]:qg L s.toList st={v:=st.v+1,nest:=st.nest-1,s:=false});obtain⟨b1,b2,b3,b4,b5,b6⟩|⟨b1,b2,b3,b4,b5,b6⟩|⟨b1,b2,b3,b4,b5,b6⟩|⟨b1,b2,b3,b4,b5,b6⟩|⟨b1,b2,b3,b4,b5,b6⟩|⟨b1,b2,b3,b4,b5,b6⟩|⟨b1,b2,b3,b4,b5,b6⟩:=bracket s.toList;all_goals first|(exfalso;revert d g;simp[opens,shuts,b1,b2,b3,b4,b5,b6];done)|skip
    all_goals
     clear d g;go_wp2;go_end0;rw[ku E];exact⟨rfl,f.put (((Kept.refl _ _).kzr _ _).kzr _ _) (jwb<|pvo j) m (by grind) (by grind),k.trans<|((Kept.refl _ _).kzr _ _).kzr _ _⟩
  ·cases p:(st.nest==12)
   ·have e:qg L s.toList st={v:=st.v+1,nest:=st.nest+1,s:=false}:=by simp[qg,hn,d,p]
    have E:=oz e;clear e;have u:st.nest≠12:=by simp_all
    have u:st.nest<12:=aj;obtain⟨b1,b2,b3,b4,b5,b6⟩|⟨b1,b2,b3,b4,b5,b6⟩|⟨b1,b2,b3,b4,b5,b6⟩|⟨b1,b2,b3,b4,b5,b6⟩|⟨b1,b2,b3,b4,b5,b6⟩|⟨b1,b2,b3,b4,b5,b6⟩|⟨b1,b2,b3,b4,b5,b6⟩:=bracket s.toList;all_goals first|(exfalso;revert d;simp[opens,shuts,b1,b2,b3,b4,b5,b6];done)|skip
    all_goals
     clear d;go_wp2;go_end0;rw[ku E];exact⟨rfl,f.put (((Kept.refl _ _).kzr _ _).kzr _ _) (jwb<|pvo j) m (by grind) (by grind),k.trans<|((Kept.refl _ _).kzr _ _).kzr _ _⟩
   ·have e:qg L s.toList st={st with s:=true}:=by simp[qg,hn,d,p]
    have E:=oz e;clear e;obtain⟨b1,b2,b3,b4,b5,b6⟩|⟨b1,b2,b3,b4,b5,b6⟩|⟨b1,b2,b3,b4,b5,b6⟩|⟨b1,b2,b3,b4,b5,b6⟩|⟨b1,b2,b3,b4,b5,b6⟩|⟨b1,b2,b3,b4,b5,b6⟩|⟨b1,b2,b3,b4,b5,b6⟩:=bracket s.toList;all_goals first|(exfalso;revert d;simp[opens,shuts,b1,b2,b3,b4,b5,b6];done)|skip
    all_goals
     clear d;go_wp2;refine tK (v:=.tuple #[]) (by simp[results,results105]) rfl ?_;rw[ku E];exact⟨rfl,f.put ((Kept.refl _ _).kzr _ _) (vvj f.rd) q l i,k.trans<|(Kept.refl _ _).kzr _ _⟩
theorem zq4(lo hi:Int)(s:ByteArray)(k i:Nat):inB lo hi (s.extract k s.size) i=inB lo hi s (k+i):=by
 unfold inB;by_cases h:k+i<s.size
 ·have d:i<(s.extract k s.size).size:=by grind [extract_size]
  rw[dif_pos h,dif_pos d,JJ]
 grind [extract_size]
theorem zyp(s:ByteArray)(k:Nat):∀f i,k+qxv f (s.extract k s.size) i=qxv f s (k+i)
 |0,i=>rfl
 |f+1,i=>by
  rw[qxv,qxv,kzq,kzq,zq4];split
  ·exact zyp s k f (i+1)
  ·rfl
theorem jvh(s:ByteArray)(k i j:Nat)(h:k+j<=s.size):(s.extract k s.size).extract i j=s.extract (k+i) (k+j):=by grind [ByteArray.extract_extract]
theorem pxc(s:ByteArray)(k:Nat)(h:k<s.size):(s.extract k s.size).get! 0=s.get! k:=by
 have d:0<(s.extract k s.size).size:=by grind [extract_size]
 have e:(s.extract k s.size)[0]'d=s[k]:=by rw[JJ];rfl
 have a1:∀(b:ByteArray)(i:Nat)(hb:i<b.size),b.get! i=b[i]:=λb i hb=>getElem!_pos b.data i hb
 grind
theorem vqa(s:ByteArray)(k:Nat)(h:k<s.size):(uf (s.extract k s.size) 0).t=(uf s k).t/\(uf (s.extract k s.size) 0).x=(uf s k).x:=by
 have d:kzq (s.extract k s.size) 0=kzq s k:=by rw[kzq,kzq,zq4];rfl
 have e:kzx (s.extract k s.size) 0=kzx s k:=by rw[kzx,kzx,zq4];rfl
 have e3:kzx (s.extract k s.size) (0+1)=kzx s (k+1):=by rw[kzx,kzx,zq4]
 have f:qxa (s.extract k s.size) 0=qxa s k:=by grind [qxa,jvh,extract_size]
 grind [qwz,pxc,zyp,uf,jvh,qyp,qxa]
def lits:List (List UInt8):=[ni,ny,mD,nP,nD,nX,mY,nU,nK,nJ,nZ,mG,
 [40],[41],[91],[93],[123],[125],[58],[59],[44],[33],[38],[124],[43],[45],[60],[61],[61,61],[33,61]]
def vj9(t:Tok):Bool:=(t.t.toList==nM)||(t.t.toList==nV)
structure zxn (t:Tok):Prop where
 y:(kzq t.x 0&&!qwu t.x)=(t.t.toList==mX)
 digit:kzx t.x 0=(t.t.toList==mW)
 lit:∀l∈lits,(t.x.toList==l)=(vj9 t&&(t.x.toList==l))
 fin:(t.x.toList==[])=(t.t.toList==nG)
 size:t.x.size<=800
 word:kzq t.x 0=((t.t.toList==nV)||(t.t.toList==mX))
theorem yj(b:ByteArray):b.toList=b.data.toList:=JX b
theorem jh(l:List UInt8):(ByteArray.mk l.toArray).toList=l:=yj _
theorem qy4(lo hi:Int)(b:ByteArray)(h:0<b.size):∃c r,b.toList=c::r/\inB lo hi b 0=(decide (lo<=(c.toNat:Int))&&decide ((c.toNat:Int)<=hi)):=by
 have d:b.data.toList≠[]:=λe=>by
  have:b.data.size=0:=by simp_all
  exact absurd (show b.size=0 from this) aj
 have ⟨c,r,e⟩:=List.exists_cons_of_ne_nil d;refine⟨c,r,by rw[yj,e],?_⟩;unfold inB;rw[dif_pos h];have:b[0]=c:=by show b.data[0]=c;rw[<-Array.getElem_toList];simp[e]
 rw[this]
theorem pw6(b:ByteArray):qwu b=true↔b.toList∈qw6.map ByteArray.toList:=by grind [qwu]
theorem pxl(n:Nat):zxn (kks n):=by
 have d:(kks n).t.toList=nG:=jh _;have e:(kks n).x.toList=[]:=jh _;have g:(kks n).x.size=0:=rfl;have hi:∀lo hi,inB lo hi (kks n).x 0=false:=(by grind [inB]);refine⟨?_,?_,?_,?_,aj,by rw[kzq,hi,d];rfl⟩
 ·rw[kzq,hi,d];rfl
 ·rw[kzx,hi,d];rfl
 ·intro l f;rw[e];have:([]==l)=false:=by revert l;decide
  simp_all
 simp_all
theorem xzm(lo hi:Int)(s:ByteArray)(k e:Nat)(h1:k<e)(d:e<=s.size):inB lo hi (s.extract k e) 0=inB lo hi s k:=by unfold inB;rw[dif_pos (show k<s.size by omega),dif_pos (show 0<(s.extract k e).size by rw[extract_size d];omega),JJ];rfl
theorem pxy(h:kzq s k=true):kzx s k=false:=by grind [kzq,kzx,inB]
theorem px4:∀l∈lits,∀c r,l=c::r->(decide (97<=(c.toNat:Int))&&decide ((c.toNat:Int)<=122))=true->l∈qw6.map ByteArray.toList:=by
 have d:qw6.map ByteArray.toList=[ni,ny,mD,nP,nD,nX,mY,nU,nK,nJ,nZ,mG]:=by simp only[qw6,List.map,yj]
 simp_all [lits]
theorem vww:∀l∈lits,∀c r,l=c::r->(decide (48<=(c.toNat:Int))&&decide ((c.toNat:Int)<=57))=false:=by simp_all [lits]
theorem pvj(s:ByteArray)(k:Nat)(v:k<s.size)(z:s.size<=800)(w:(uf s k).t.toList.isEmpty=false):zxn (uf s k):=by
 have y:=qv5 s k v;have D:jvj.toList=nV:=yj _;have B:zw4.toList=mX:=yj _;have A:qj0.toList=mW:=yj _;have C:zqa.toList=nM:=yj _;have k0:qy0.toList=[]:=yj _;have hcut:∀lo hi,inB lo hi (uf s k).x 0=inB lo hi s k:=by grind [uf,qyp,extract_size,qxa,xzm]
 have g:(uf s k).x.size<=800:=aj;have x:((uf s k).x.toList==[])=false:=by have ⟨c,r,e,_⟩:=qy4 0 0 (uf s k).x aj;simp_all
 by_cases i:kzq s k=true
 ·have h:=pxy i;have m:kzq (uf s k).x 0=true:=by rw[kzq,hcut];exact i
  have j:kzx (uf s k).x 0=false:=by rw[kzx,hcut];exact h
  have d:(uf s k).t=if qwu (uf s k).x then jvj else zw4:=by unfold uf;simp[i]
  cases t:qwu (uf s k).x
  ·rw[t]at d;refine⟨by simp_all,by simp_all,?_,by simp_all,g,by simp_all⟩;intro l f;have:((uf s k).x.toList==l)=false:=by
    cases p:((uf s k).x.toList==l)
    ·rfl
    ·rw[su]at p;have ⟨c,r,e,q⟩:=qy4 97 122 (uf s k).x aj;have:=px4 l f c r (by simp_all) (by rw[<-q];exact m);grind [pw6]
   simp_all
  ·rw[t]at d;have d:(uf s k).t.toList=nV:=by simp_all
   refine⟨by simp_all,by simp_all,?_,by simp_all,g,by simp_all⟩;intro l f;rw[vj9,d];simp
 ·have i:kzq s k=false:=by simp_all
  have m:kzq (uf s k).x 0=false:=by rw[kzq,hcut];exact i
  by_cases h:kzx s k=true
  ·have j:kzx (uf s k).x 0=true:=by rw[kzx,hcut];exact h
   have d:(uf s k).t=if kzx s (k+1) then qy0 else qj0:=by unfold uf;simp_all
   cases u:kzx s (k+1)
   ·rw[u]at d;refine⟨by simp_all,by simp_all,?_,by simp_all,g,by simp_all⟩;intro l f;have:((uf s k).x.toList==l)=false:=by
     cases p:((uf s k).x.toList==l)
     ·rfl
     ·rw[su]at p;have ⟨c,r,e,q⟩:=qy4 48 57 (uf s k).x aj;grind [vww,kzx]
    simp_all
   simp_all
  ·have h:kzx s k=false:=by simp_all
   have j:kzx (uf s k).x 0=false:=by rw[kzx,hcut];exact h
   have d:(uf s k).t.toList=nM:=by grind [uf]
   refine⟨by simp_all,by simp_all,?_,by simp_all,g,by simp_all⟩;intro l f;rw[vj9,d];simp
structure AccOk (acc:List Tok)(k:Nat):Prop where
 ok:∀t∈acc,zxn t/\(t.t.toList==nG)=false/\t.v<k
 inc:acc.Pairwise (λa b=>a.v<b.v)
 T:acc.length<=k
theorem vqe(s:ByteArray)(k:Nat):(uf s k).v=k:=by unfold uf;grind
theorem jq2(s:ByteArray)(g:s.size<=800):∀(f k:Nat)(acc:List Tok),k<=s.size->AccOk acc k->(kvd f s k acc).2=none->∃acc',(kvd f s k acc).1=acc'++[kks s.size]/\AccOk acc' s.size
 |0,k,acc,_,_,h=>by simp[kvd]at h
 |f+1,k,acc,hk,ha,h=>by
  rw[kvd]at h |-;by_cases h1:k<s.size
  ·rw[lJ h1]at h |-;by_cases i:qq5 s k=true
   ·rw[lJ i]at h |-;exact jq2 s g f (k+1) acc h1 ⟨λt d=>⟨(ha.ok t d).1,(ha.ok t d).2.1,by have:=(ha.ok t d).2.2;omega⟩,ha.inc,by have:=ha.T;omega⟩ h
   ·rw[Xy i]at h |-;by_cases q:(uf s k).t.toList.isEmpty=true
    ·simp_all
    ·rw[Xy q]at h |-;have p:=qv5 s k h1;have m:=pvj s k h1 g (by simp_all);have l:=vqe s k;have u:((uf s k).t.toList==nG)=false:=by rw[<-m.fin];have ⟨c,r,e,_⟩:=qy4 0 0 (uf s k).x aj;simp_all
     refine jq2 s g f _ _ p.2 ⟨?_,?_,?_⟩ h
     ·intro t d;obtain d|d:=rV.1 d
      ·exact⟨(ha.ok t d).1,(ha.ok t d).2.1,by have:=(ha.ok t d).2.2;omega⟩
      grind
     ·rw[QC];refine⟨ha.inc,ay,?_⟩;intro a j b hb;rw[Qq]at hb;subst hb;rw[l];exact(ha.ok a j).2.2
     ·rw[rD];have:=ha.T;grind
  grind
structure kq6 (L:List Tok):Prop where
 T:L.length<=801
 pos:0<L.length
 ok:∀i,i<L.length->zxn (tk L i)
 mid:∀i,i+1<L.length->((tk L i).t.toList==nG)=false
 last:((tk L<|L.length-1).t.toList==nG)=true
 inc:L.Pairwise (λa b=>a.v<b.v)
 le:∀t∈L,t.v<=800
theorem xku(h:i<L.length):tk L i∈L:=by grind [tk]
theorem kyh(j:s.size<=800)(h:(jv s).2=none):kq6 (jv s).1:=by
 have ⟨acc,e,d⟩:=jq2 s j 801 0 [] jG ⟨ay,List.Pairwise.nil,ay⟩ h;have l:(jv s).1=acc++[kks s.size]:=e;rw[l];have q:xvj.toList=nG:=yj _;have p:=d.T;have g:∀i,i<acc.length->tk (acc++[kks s.size]) i∈acc:=by grind [tk,List.getElem_mem]
 have k:tk (acc++[kks s.size]) acc.length=kks s.size:=by unfold tk;simp
 refine⟨by grind,ay,?_,?_,?_,?_,?_⟩
 ·intro i hi;simp at hi;by_cases m:i<acc.length
  ·exact(d.ok _<|g i m).1
  grind [pxl]
 ·intro i hi;simp at hi;exact(d.ok _<|g i hi).2.1
 ·simp only[rD,JC,Zr];rw[k];show(xvj.toList==_)=true;simp_all
 ·rw[QC];refine⟨d.inc,ay,?_⟩;intro a h1 b hb;rw[Qq]at hb;subst hb;exact(d.ok a h1).2.2
 ·intro t f;obtain f|f:=rV.1 f
  ·have:=(d.ok t f).2.2;omega
  ·rw[Qq]at f;subst f;exact j
theorem zw5:Calls prog 86 #[.int .u8 hi] w λe w'=>rT e (.bool ((hi==32)||(hi==10)))/\w'=w:=by
 cases h:(hi==32);all_goals
  go_wp2;go_ret;simp
theorem kxg:Calls prog 142 #[.int .u8 hi] w λe w'=>rT e (.bool (decide (97<=hi)&&decide (hi<=122)))/\w'=w:=by
 by_cases h:97<=hi
 all_goals
  go_wp2;go_ret;exact⟨um (by first|(simp[h];done)|(simp;omega)),rfl⟩
theorem qqr:Calls prog 144 #[.int .u8 hi] w λe w'=>rT e (.bool (decide (48<=hi)&&decide (hi<=57)))/\w'=w:=by
 by_cases h:48<=hi
 all_goals
  go_wp2;go_ret;exact⟨um (by first|(simp[h];done)|(simp;omega)),rfl⟩
theorem kya(h:i<s.size):(decide (a6<=((s[i]).toNat:Int))&&decide (((s[i]).toNat:Int)<=hi))=inB a6 hi s i:=by simp[inB,h]
theorem zyu(s:ByteArray)(p:s.size<=800):Calls prog 143 #[.string s] w λe w'=>rT e (i_<|qxv 801 s 0)/\w'=w:=by
 go_wp2;go_loop [3] (λi=>∃k:Nat,k<=s.size/\i=i_ k/\∀j,0<=j->j<k->kzq s j=true) (λi=>s.size-(intOf i).toNat)
 ·grind
 obtain⟨k,m,rfl,(l:Hid _)⟩:=hrel;by_cases f:k<s.size
 ·cases d:kzq s k
  ·have g:=oz<|zwi d 801 0 jG aj l;go_wp21
   refine(kxg).mono ?_;rintro e w' ⟨rfl,rfl⟩;rw[kya f,show inB 97 122 s k=false from d];go_wp2;go_ret;rw[ku g];simp
  ·go_wp21;refine(kxg).mono ?_;rintro e w' ⟨rfl,rfl⟩;rw[kya f,show inB 97 122 s k=true from d];go_wp2;grind [ku,intOf]
 ·have d:kzq s k=false:=by
   cases h:kzq s k
   ·rfl
   ·exact absurd (jyj h) f
  have g:=oz<|zwi d 801 0 jG aj l;go_wp2
  go_ret;rw[ku g];simp
theorem jxv(s p:ByteArray)(w:World):Calls prog 145 #[.string s,.string p] w λe w'=>rT e (.bool<|decide (p.size<=s.size)&&((s.extract 0 p.size).toList==p.toList))/\w'=w:=by
 have d:Calls prog 199 #[.string s,.string p] w λe w'=>rT e (.bool<|decide (p.size<=s.size)&&((s.extract 0 p.size).toList==p.toList))/\w'=w:=by
  by_cases h:p.size<=s.size
  ·go_wp2;go_ret;simp_all
  ·go_wp2;go_ret;exact⟨um (by simp[h]),rfl⟩
 go_in;go_wp21;refine d.mono ?_;rintro e w' ⟨rfl,rfl⟩;go_wp2;go_ret;simp
theorem jxk:Calls prog 146 #[.string s,.int .u8 hi] w λe w'=>rT e (i_<|Lib.indexByte s.data.toList hi.toNat.toUInt8)/\w'=w:=by
 have d:Calls prog 200 #[.string s,.int .u8 hi] w λe w'=>rT e (i_<|Lib.indexByte s.data.toList hi.toNat.toUInt8)/\w'=w:=by go_wp2;rw[run_callFunc_extern func237 au au au (e:=Extern.BytealgIndexByte.indexByte) au,Lib.run_indexByteString];simp only[Result.andThen];rw[Oper.upon_value];go_wp2;go_ret;simp
 go_in;go_wp21;refine d.mono ?_;rintro e w' ⟨rfl,rfl⟩;go_wp2;go_ret;simp
theorem zj0(c:UInt8):∀l:List UInt8,(0<=Lib.indexByte l c↔l.any (λb=>b.toNat==c.toNat)=true)
 |[]=>by simp[Lib.indexByte]
 |b::l=>by
  have f:=zj0 c l;have e:=Lib.indexByte_ge l c;rw[Lib.indexByte,ZG];cases h:(b==c)
  ·have hn:(b.toNat==c.toNat)=false:=by
    cases d:(b.toNat==c.toNat)
    ·rfl
    ·rw[su]at d;have:b=c:=UInt8.toNat_inj.1 d;simp_all
   grind
  simp_all
theorem pvh(s:ByteArray)(h:0<s.size):decide ((0:Int)<=Lib.indexByte kwr.data.toList (((s[0]).toNat:Int).toNat.toUInt8))=qwz s 0:=by have a1:s.get! 0=s[0]:=getElem!_pos s.data 0 h;simp_all [qwz,yj,zj0]
def zqu(t:Tok):Nat:=if t.t.toList.isEmpty then 0 else t.x.size
theorem pz4(d:kzq s 0=true):zqu (uf s 0)=qxv 801 s 0:=by
 have hb:=qyp s 801 0<|jG;have e:(uf s 0).t.toList.isEmpty=false:=by
  unfold uf;rw[lJ d];simp only;split
  ·rw[show jvj.toList=nV from jh _];rfl
  ·rw[show zw4.toList=mX from jh _];rfl
 grind [zqu,uf,extract_size]
theorem vko(f:0<s.size)(e:kzq s 0=false)(d:kzx s 0=true):zqu (uf s 0)=if kzx s 1 then 0 else 1:=by
 unfold zqu uf;simp only[e,d,ru,Xv,Xw,Jc];cases h:kzx s 1
 ·simp only[ru,Xv];rw[show qj0.toList=mW from jh _,extract_size aj];rfl
 ·simp only[Xw];rw[show qy0.toList=[] from jh _];rfl
theorem pvy(f:kzq s 0=false)(e:kzx s 0=false)(d:qxa s 0=true):zqu (uf s 0)=2:=by
 have:0+1<s.size:=by unfold qxa at d;simp_all
 unfold zqu uf;simp only[f,e,d,ru,Xv,Xw];rw[show zqa.toList=nM from jh _,extract_size aj];rfl
theorem pvu(g:0<s.size)(f:kzq s 0=false)(e:kzx s 0=false)(d:qxa s 0=false):zqu (uf s 0)=if qwz s 0 then 1 else 0:=by
 unfold zqu uf;simp only[f,e,d,ru,Xv];cases h:qwz s 0
 ·simp only[ru,Xv];rw[show qy0.toList=[] from jh _];rfl
 ·simp only[Xw];rw[show zqa.toList=nM from jh _,extract_size aj];rfl
theorem vyf(s:ByteArray):qxa s 0=((decide (2<=s.size)&&((s.extract 0 2).toList==[61,61]))||(decide (2<=s.size)&&((s.extract 0 2).toList==[33,61]))):=by grind [qxa]
theorem qv9(s:ByteArray)(a b:UInt8):og 145 #[.string s,.string ⟨#[a,b]⟩] w λe w'=>rT e (.bool<|decide (2<=s.size)&&((s.extract 0 2).toList==[a,b]))/\w'=w:=by have h:=jxv s ⟨#[a,b]⟩ w;rw[show(⟨#[a,b]⟩:ByteArray).toList=[a,b] from jh _]at h;exact h
theorem zwb(s:ByteArray)(f:0<s.size)(p:s.size<=800):Calls prog 87 #[.string s] w λe w'=>rT e (i_<|zqu (uf s 0))/\w'=w:=by
 cases i:kzq s 0
 ·cases k:kzx s 0
  ·cases h:qxa s 0
   ·have d:=oz<|pvu f i k h;rw[vyf,Qi]at h;go_in
    go_wp21;refine(kxg).mono ?_;rintro e w' ⟨rfl,rfl⟩;rw[kya f,show inB 97 122 s 0=false from i];go_wp21;refine(qqr).mono ?_;rintro e w' ⟨rfl,rfl⟩;rw[kya f,show inB 48 57 s 0=false from k];go_wp21;refine(qv9 s 61 61).mono ?_;rintro e w' ⟨rfl,rfl⟩;rw[h.1];go_wp21;refine(qv9 s 33 61).mono ?_;rintro e w' ⟨rfl,rfl⟩;rw[h.2];go_wp21;refine(jxk).mono ?_;rintro e w' ⟨rfl,rfl⟩;have j:=pvh s f;unfold kwr at j;generalize Lib.indexByte _ _=z at j |-;cases l:qwz s 0
    ·rw[l]at d j;have q:¬0<=z:=by simp_all
     go_wp2;go_ret;rw[ku d];simp
    ·rw[l]at d j;have q:0<=z:=by simp_all
     go_wp2;go_ret;rw[ku d];simp
   ·have d:=oz<|pvy i k h;rw[vyf]at h;go_in
    go_wp21;refine(kxg).mono ?_;rintro e w' ⟨rfl,rfl⟩;rw[kya f,show inB 97 122 s 0=false from i];go_wp21;refine(qqr).mono ?_;rintro e w' ⟨rfl,rfl⟩;rw[kya f,show inB 48 57 s 0=false from k];go_wp21;refine(qv9 s 61 61).mono ?_;rintro e w' ⟨rfl,rfl⟩;cases m:(decide (2<=s.size)&&((s.extract 0 2).toList==[61,61]))
    ·rw[m,QX]at h;go_wp21;refine(qv9 s 33 61).mono ?_;rintro e w' ⟨rfl,rfl⟩;rw[h];go_wp2;go_ret;rw[ku d];simp
    ·clear h;go_wp2;go_ret;rw[ku d];simp
  ·have d:=oz<|vko f i k;go_in
   go_wp21;refine(kxg).mono ?_;rintro e w' ⟨rfl,rfl⟩;rw[kya f,show inB 97 122 s 0=false from i];go_wp21;refine(qqr).mono ?_;rintro e w' ⟨rfl,rfl⟩;rw[kya f,show inB 48 57 s 0=true from k];by_cases h1:1<s.size
   ·go_wp21;refine(qqr).mono ?_;rintro e w' ⟨rfl,rfl⟩;rw[kya h1];cases g:kzx s 1
    ·rw[g]at d;rw[show inB 48 57 s 1=false from g];go_wp2;go_ret;rw[ku d];simp
    ·rw[g]at d;rw[show inB 48 57 s 1=true from g];go_wp2;go_ret;rw[ku d];simp
   ·have g:kzx s 1=false:=qy3 h1;rw[g]at d;go_wp2;go_ret;rw[ku d];simp
 ·have d:=oz<|pz4 i;go_in
  go_wp21;refine(kxg).mono ?_;rintro e w' ⟨rfl,rfl⟩;rw[kya f,show inB 97 122 s 0=true from i];go_wp21;refine(zyu s p).mono ?_;rintro e w' ⟨rfl,rfl⟩;go_wp2;go_ret;rw[ku d];simp
def kzy(t:Tok):List Value:=[.string t.x,i_ t.v]
def ptV(t:Tok):Value:=.agg #[.string t.x,i_ t.v]
def kjq(l:List Tok):List Value:=l.flatMap kzy
theorem qxp(l:List Tok)(t:Tok):kjq (l++[t])=kjq l++kzy t:=by simp[kjq]
theorem zvo(t:Tok):∀u∈kzy t,u.oneCell'=true:=by intro u h;simp only[kzy,tZ,Qu,or_false]at h;obtain rfl|rfl:=h<;>rfl
theorem infoToken:(prog.info? 194).map (λi=>(i.zero,i.size,i.bytes))=some (some (.agg #[e_,i_ 0]),2,24):=au
def jyi(s:ByteArray)(w:World)(v i:Value)(wr:World):Prop:=
 ∃(k f:Nat)(acc:List Tok),k<=s.size/\i=i_ k/\acc.length<=k/\s.size-k<f/\kvd f s k acc=jv s /\
  wr.ownsRow w.heap.size 194 2 v acc.length (kjq acc)/\oq w wr
def xj2(s:ByteArray)(w:World)(e:Ending)(w':World):Prop:=
 oq w w'/\(((jv s).2=none/\∃v,rT e (.tuple #[v,i_ 0,.bool true])/\w'.ownsRow w.heap.size 194 2 v (jv s).1.length (kjq (jv s).1)) \/
  ∃k:Nat,(jv s).2=some k/\rT e (.tuple #[nS,i_ k,.bool false]))
theorem xju(h:a9.t.toList.isEmpty=false):zqu a9=a9.x.size:=by unfold zqu;simp_all
theorem xjg(h:a9.t.toList.isEmpty=true):zqu a9=0:=by unfold zqu;simp_all
theorem jzz(h:k<s.size):((((s[k]).toNat:Int)==32)||(((s[k]).toNat:Int)==10))=qq5 s k:=by simp[qq5,h]
theorem jx6(hb:qq5 s k=true)(h:k<s.size)(g:kvd f s k L=jv s)(j:s.size-k<f)(i:L.length<=k)(e:wr.ownsRow w.heap.size 194 2 v L.length (kjq L))(d:oq w wr):jyi s w v (i_<|(k:Int)+1) wr:=by obtain⟨f,rfl⟩:=qqy f;rw[zvp hb h]at g;exact⟨k+1,f,L,aj,eu,aj,aj,g,e,d⟩
theorem pz3(s:ByteArray)(k:Nat)(d:k<s.size):s.extract k (k+(uf s k).x.size)=(uf s k).x:=by grind [uf,qyp,extract_size,qxa]
theorem pw3(s:ByteArray)(X:s.size<=800):Calls prog 51 #[.string s] w λe w'=>xj2 s w e w':=by
 have ⟨N,hi,F,G,H⟩:=info_parts infoToken;go_enter func51,ntmps51
 go_wp2;go_loopw [2,5,6] (λv i _ wr=>jyi s w v i wr) (λ_ i _ _=>s.size-(intOf i).toNat);exact⟨0,801,[],aj,rfl,ay,aj,rfl,oN,bR⟩;obtain⟨k,f,acc,W,rfl,J,T,j,B,m⟩:=hrel;have⟨z,u,x⟩:=jF j B m;have V:=m.size;clear j B m;by_cases h:k<s.size
 ·cases p:qq5 s k
  ·go_wp21;refine(zw5).mono ?_;rintro e w' ⟨rfl,rfl⟩;rw[jzz h,p];go_wp21;have L:=vqa s k h;have E:zqu (uf (s.extract k s.size) 0)=zqu (uf s k):=by unfold zqu;simp_all
   refine(zwb (s.extract k s.size) (by grind [extract_size])<|by grind [extract_size]).mono ?_;rintro e w' ⟨rfl,rfl⟩;rw[E];have M:=qv5 s k h;have hcut:=pz3 s k h;have A:=oz<|jq1 p h z;have K:=vqe s k;clear L E z;generalize uf s k=t at M A hcut K |-;cases q:t.t.toList.isEmpty
   ·rw[xju q];have U:¬((t.x.size:Int)=0):=aj;have P:s.extract k (k+t.x.size)=t.x:=hcut;have S:((k:Int)+(t.x.size:Int)).toNat=k+t.x.size:=aj;go_wp2_with (at_builtin;refine wpList_append_own _ rfl _ _ 89 rfl w.heap.size 194 N _ 2 24 underlying89 hi F G H rfl ak _ _ _ rfl (u.alloc _) (Ad w'.heap.size 0) 1 1 (kzy t) rfl rfl ?c1 ?c2 ?c3 ?c4 ?c5 ?_)
    case c1=>
     grind [qjb,kzy]
    case c2=>exact zvo t
    case c3=>unfold maxLen;omega
    case c4=>omega
    case c5=>simp;omega
    intro O C g d _;have l:oq w C:=(x.alloc aj _).grown d ah<|jo u;have⟨D,y⟩:=jS g l;clear g d l;have R:jyi s w O (i_<|(k:Int)+t.x.size) C:=
     ⟨k+t.x.size,f-1,acc++[t],aj,eu,by grind,aj,(A (f-1) aj).2 q,by grind [qxp,ku],y⟩
    have Q:=oz R;clear R;go_wp2;grind [ku,intOf]
   ·rw[xjg q];go_wp2;go_ret3;exact⟨x,.inr ⟨k,by rw[((ku A) (f-1) aj).1 q],rfl⟩⟩
  ·have Q:=oz<|jx6 p h z T J u x;go_wp21
   refine(zw5).mono ?_;rintro e w' ⟨rfl,rfl⟩;rw[jzz h,p];go_wp2;grind [ku,intOf]
 ·go_wp2_with (at_builtin;refine wpList_append_own _ rfl _ _ 89 rfl w.heap.size 194 N _ 2 24 underlying89 hi F G H rfl ak _ _ _ rfl (u.alloc _) (Ad wr.heap.size 0) 1 1 (kzy<|kks s.size) rfl rfl ?d1 ?d2 ?d3 ?d4 ?d5 ?_)
  case d1=>grind [qjb,kzy,kks]
  case d2=>exact zvo _
  case d3=>unfold maxLen;omega
  case d4=>omega
  case d5=>simp;omega
  intro O C g d _;have l:oq w C:=(x.alloc aj _).grown d ah<|jo u;obtain⟨f,rfl⟩:=qqy f;have j:=ku z;rw[kvd,Xy h]at j;have⟨I,D,y⟩:=jF j g l;clear g d j l z u x;go_wp2
  go_ret3;refine⟨y,.inl ⟨by rw[<-ku I],_,rfl,?_⟩⟩;have:=ku D;rw[<-ku I,qxp,rD];simp_all
def zh:Tok:={t:=⟨#[]⟩,x:=⟨#[]⟩,v:=0}
def kqf(L:List Tok)(k:List UInt8)(st:RS):Bool:=!st.s&&((tk L st.v).t.toList==k)
def zq(L:List Tok)(k:List UInt8)(st:RS):Tok×RS:=
 if kqf L k st then (tk L st.v,{st with v:=st.v+1}) else (zh,{st with s:=true})
theorem xzp(h:Rd w R v L st)(d:(l==nG)=false)(hn:kqf L l st=true):st.v+1<L.length/\st.s=false:=by unfold kqf at hn;simp only[rG,QD]at hn;refine⟨h.fin _ h.lt ?_,hn.1⟩;simp_all
theorem Rd.vv9(h:Rd w R v L st):Rd (w.setCell (Ad R 3) (.bool true)) R v L {st with s:=true}:=
 h.put (st':={st with s:=true}) ((Kept.refl _ _).kzr _ _) (vvj h.rd) h.lt h.nlo h.nhi
theorem Rd.E(h:Rd w R v L st)(h1:st.v+1<L.length):Rd (w.setCell (Ad R 1) (i_ ((st.v:Int)+1))) R v L {st with v:=st.v+1}:=
 h.put (st':={st with v:=st.v+1}) ((Kept.refl _ _).kzr _ _) (jwb h.rd) h1 (by have:=h.nlo;grind) h.nhi
theorem ky1{b7:Obj}:oq w ((w.alloc o).alloc b7).drew:=((bR.alloc jV _).alloc ay _).drew
theorem pyk(s:ByteArray)(h:Rd w R v L st)(q:(s.toList==nG)=false):Calls prog 106 #[pT R,.string s] w λe w'=>rT e (kxt (zq L s.toList st).1)/\Rd w' R v L (zq L s.toList st).2/\Kept R w w':=by
 have ⟨c0,c1,c2,c3,f0,f1,f2,f3⟩:=row4 h.rd;have H:=oz h;obtain⟨g,cap,(m:Hid _),z,x,u,t0,j,k⟩:=h.open;rw[m]at c0;have y:=h.lt;have p:=h.T;cases d:kqf L s.toList st
 ·have E:=oz (by simp[zq,d]:zq L s.toList st=(zh,{st with s:=true}));cases hb:st.s
  ·have i:((tk L st.v).t.toList==s.toList)=false:=by simpa[kqf,hb] using d
   rw[hb]at c3;clear d;generalize tk L st.v=t at t0 j k i;go_wp2;go_region
   go_wp2;refine tK (v:=kxt zh) kW rfl ?_;rw[ku E];exact⟨rfl,H.vv9.below<|ky1,((((Kept.refl _ _).kzr _ _).alloc _).alloc _).drew⟩
  ·rw[hb]at c3;clear d;generalize tk L st.v=t at t0 j k;go_wp2;go_region
   go_wp2;refine tK (v:=kxt zh) kW rfl ?_;rw[ku E];exact⟨rfl,H.vv9.below<|ky1,((((Kept.refl _ _).kzr _ _).alloc _).alloc _).drew⟩
 ·have f:=xzp H q d;have E:=oz (by simp[zq,d]:zq L s.toList st=(tk L st.v,{st with v:=st.v+1}));have hb:=f.2;have i:((tk L st.v).t.toList==s.toList)=true:=by simpa[kqf,hb] using d
  have l:=f.1;rw[hb]at c3;clear d f;generalize tk L st.v=t at t0 j k i E;go_wp2;go_region
  go_wp2;refine tK (v:=kxt t) kW rfl ?_;rw[ku E];exact⟨rfl,(H.E l).below<|ky1,((((Kept.refl _ _).kzr _ _).alloc _).alloc _).drew⟩
theorem kjg(l:List UInt8)(h:Rd w R v L st):og 103 #[pT R,.string ⟨l.toArray⟩] w λe w'=>rT e (.bool<|zk L l st)/\Rd w' R v L st/\Kept R w w':=by have:=next_any ⟨l.toArray⟩ h;rw[Zm]at this;exact this.mono λe w' ⟨h1,d⟩=>⟨h1,h.below d,.of_below d⟩
theorem kq1(l:List UInt8)(h:Rd w R v L st):og 105 #[pT R,.string ⟨l.toArray⟩] w λe w'=>rT e (.tuple #[])/\Rd w' R v L (qg L l st)/\Kept R w w':=by have:=pwi ⟨l.toArray⟩ h;rw[Zm]at this;exact this
theorem kxu(l:List UInt8)(h:Rd w R v L st)(d:(l==nG)=false):og 106 #[pT R,.string ⟨l.toArray⟩] w λe w'=>rT e (kxt (zq L l st).1)/\Rd w' R v L (zq L l st).2/\Kept R w w':=by have:=pyk ⟨l.toArray⟩ h (by simp_all);rw[Zm]at this;exact this
structure ELab where
 op:ByteArray
 y:Tok
 c:Tok
 n:Int
abbrev PX:=Go.Deep.BT ELab
variable {b8:PX}
def kww(x:ELab)(a b:Value):Array Value:=#[.string x.op,a,b,.string x.y.t,.string x.y.x,i_ x.y.v,.string x.c.t,.string x.c.x,i_ x.c.v,i_ x.n]
def yw(lo:Nat)(w:World):PX->Value->Prop
 |.nil,v=>v=.pointer none
 |.node _ _ x a b,v=>∃k va vb,v=pT k/\lo<=k/\w.heap[k]?=some (.cells (kww x va vb) 242 (0,0))/\yw lo w a va/\yw lo w b vb
theorem yw.ptr(h:yw lo w b8 v):∃p,v=.pointer p:=by
 cases b8 with
 |nil=>exact⟨_,h⟩
 |node _ _ _ _ _=>have⟨k,_,_,e,_⟩:=h;simp_all
theorem yw.stay(d:∀k,lo<=k->k<w.heap.size->w'.heap[k]?=w.heap[k]?):∀{x:PX}{v:Value},yw lo w x v->yw lo w' x v
 |.nil,_,h=>h
 |.node _ _ _ _ _,_,⟨k,va,vb,e,hn,hh,ha,hb⟩=>⟨k,va,vb,e,hn,by grind,ha.stay d,hb.stay d⟩
theorem yw.kept(h:yw lo w b8 v)(e:Kept R w w')(hR:R<lo):yw lo w' b8 v:=
 h.stay λk h1 d=>e.block k d aj
theorem yw.below(h:yw lo w b8 v)(e:oq w w'):yw lo w' b8 v:=
 h.stay λk _ d=>e.block k d
theorem yw.mono(d:lo'<=lo):∀{x:PX}{v:Value},yw lo w x v->yw lo' w x v
 |.nil,_,h=>h
 |.node _ _ _ _ _,_,⟨k,va,vb,e,hn,hh,ha,hb⟩=>⟨k,va,vb,e,rP d hn,hh,ha.mono d,hb.mono d⟩
theorem zzh(h:Rw w b #[x0,x1,x2,x3,x4,x5,x6,x7,x8,x9] a7):Ce w b 0 x0/\Ce w b 1 x1/\Ce w b 2 x2/\Ce w b 3 x3/\Ce w b 4 x4/\Ce w b 5 x5/\Ce w b 6 x6/\Ce w b 7 x7/\Ce w b 8 x8/\Ce w b 9 x9 /\
  Fr w b 3/\Fr w b 4/\Fr w b 5/\Fr w b 6/\Fr w b 7/\Fr w b 8:=
 ⟨rc h 0,rc h 1,rc h 2,rc h 3,rc h 4,rc h 5,rc h 6,rc h 7,rc h 8,rc h 9,
  rf h 3,rf h 4,rf h 5,rf h 6,rf h 7,rf h 8⟩
theorem Rd.jm(h:Rd w R v L st)(d:∀g,v.ownBlock=some g->g<B)(hR:R<B)(f:B<=p.block)(u:Value):Rd (w.setCell p u) R v L st:=by refine⟨by rw[hsC aj];exact h.rd,?_,h.ne,h.lt,h.T,h.fin,h.nlo,h.nhi⟩;exact ownsRow_setCell_other h.xu (λe=>by grind) u
theorem xks(h:Rw w b #[x0,x1,x2,x3,x4,x5,x6,x7,x8,x9] a7):Rw (puts b [v,x,d] 3 w) b #[x0,x1,x2,v,x,d,x6,x7,x8,x9] a7:=zju h
theorem xkl(h:Rw w b #[x0,x1,x2,x3,x4,x5,x6,x7,x8,x9] a7):Rw (puts b [v,x,d] 6 w) b #[x0,x1,x2,x3,x4,x5,v,x,d,x9] a7:=zju h
def qja:ByteArray:=⟨#[112,108,97,99,101]⟩
def kqy(L:List Tok)(st:RS):PX×RS:=
 let k:=zq L mX st
 if zk L [91] k.2 then
  let i:=zq L mX<|qg L [91] k.2
  (.node 0 0 {op:=qja,y:=k.1,c:=i.1,n:=0} .nil .nil,qg L [93] i.2)
 else (.node 0 0 {op:=qja,y:=k.1,c:=zh,n:=0} .nil .nil,k.2)
theorem jkk(h:Rd w R v L st):Calls prog 222 #[pT R] w λe w'=>∃p,e=.returned p/\yw w.heap.size w' (kqy L st).1 p/\Rd w' R v L (kqy L st).2/\Kept R w w':=by
 go_enter func222,ntmps222
 go_wp21;have g:R<w.heap.size:=wQ h.rd;have f:=oz<|kq9 h.xu;refine zM (kxu mX (h.below<|bR.alloc jV _) rfl) ?_;rintro U ⟨h1,y⟩;have l:=(y.block w.heap.size ay aj).trans<|jH;have K:Kept R w U:=((Kept.refl _ _).alloc _).trans y;have I:=zzh l;have⟨s,P⟩:=jS l h1;clear l h1;have q:Hid (kqy L st=if zk L [91] (zq L mX st).2 then
  (.node 0 0 {op:=qja,y:=(zq L mX st).1,c:=(zq L mX<|qg L [91] (zq L mX st).2).1,n:=0} .nil .nil,qg L [93] (zq L mX<|qg L [91] (zq L mX st).2).2)
  else (.node 0 0 {op:=qja,y:=(zq L mX st).1,c:=zh,n:=0} .nil .nil,(zq L mX st).2)):=rfl
 generalize zq L mX st=k at *;unfold kxt;go_wp21;refine zM (kjg [91]<|((P.jm f g ay _).jm f g ay _).jm f g ay _) ?_;rintro V ⟨J,z⟩;have d:=(z.block w.heap.size (by simpa using wQ s) aj).trans<|xks s;have j:Kept R w V:=(((K.jm ay _).jm ay _).jm ay _).trans z;clear I;cases hn:zk L [91] k.2
 ·have⟨H,G,F⟩:=jF d j J;rw[hn]at q;clear d j J hn;go_wp2;go_ret;rw[ku q];exact⟨_,rfl,⟨_,_,_,rfl,jV,H,rfl,rfl⟩,F,G⟩
 ·rw[hn]at q;have⟨t,M,F⟩:=jF d j J;clear d hn;go_wp21;refine zM (kq1 [91] F) ?_;rintro w3 ⟨Q,A⟩;have D:=(A.block w.heap.size (wQ t) aj).trans t;have N:=M.trans A;have u:=oz D;clear D;go_wp21;refine zM (kxu mX Q rfl) ?_;rintro w4 ⟨S,B⟩;have m:=(B.block w.heap.size (wQ u) aj).trans u;have I:=zzh m;have O:=N.trans B;have x:=oz m;clear m;generalize zq L mX (qg L [91] k.2)=i at *;unfold kxt;go_wp21;refine zM (kq1 [93]<|((S.jm f g ay _).jm f g ay _).jm f g ay _) ?_;rintro W ⟨T,C⟩;have E:=(C.block w.heap.size (by simpa using wQ x) aj).trans<|xkl x;have G:Kept R w W:=(((O.jm ay _).jm ay _).jm ay _).trans C;have H:=oz E;clear I E;go_wp2
  go_ret;rw[ku q];exact⟨_,rfl,⟨_,_,_,rfl,jV,H,rfl,rfl⟩,T,G⟩
def qj1:PX:=.node 0 0 {op:=⟨#[]⟩,y:=zh,c:=zh,n:=0} .nil .nil
def opX(o:ByteArray)(a b:PX):PX:=.node 0 0 {op:=o,y:=zh,c:=zh,n:=0} a b
def vwe(n:Int):PX:=.node 0 0 {op:=qj0,y:=zh,c:=zh,n:=n} .nil .nil
def mg(t:ByteArray):Int:=if h:0<t.size then ((t[0]).toNat:Int)-48 else 0
def kj4:Nat->List ByteArray
 |0=>[⟨#[124]⟩]
 |1=>[⟨#[38]⟩]
 |2=>[⟨#[61,61]⟩,⟨#[33,61]⟩,⟨#[60]⟩]
 |_=>[⟨#[43]⟩,⟨#[45]⟩]
def kv6(n:Nat)(t:Tok):Bool:=(kj4 n).any (λs=>s.toList==t.x.toList)&&(t.t.toList==nM)
def isConst(t:Tok):Bool:=(t.t.toList==nV)&&((t.x.toList==nJ)||(t.x.toList==nZ)||(t.x.toList==mG))
def zxk(t:Tok):Bool:=t.t.toList==mW
def zvh:ByteArray:=⟨#[33]⟩
def rX:Nat->Nat->PX->List Tok->RS->PX×RS
 |0,_,x,_,st=>(x,st)
 |f+1,tag,x,L,st=>
  if tag<4 then
   if st.s then (qj1,st)
   else rX f (10+tag) (rX f (tag+1) .nil L st).1 L (rX f (tag+1) .nil L st).2
  else if tag<10 then
   if st.s then (qj1,st) else rX f 20 .nil L st
  else if tag<20 then
   if st.s then (x,st)
   else if kv6 (tag-10) (tk L st.v) then
    if tag=12 then (opX (tk L st.v).x x (rX f (tag-9) .nil L {st with v:=st.v+1}).1,(rX f (tag-9) .nil L {st with v:=st.v+1}).2)
    else rX f tag (opX (tk L st.v).x x (rX f (tag-9) .nil L {st with v:=st.v+1}).1) L (rX f (tag-9) .nil L {st with v:=st.v+1}).2
   else (x,st)
  else
   if st.s then (qj1,st)
   else if zk L [33] st then
    if tag=32 then (qj1,{st with s:=true})
    else (opX zvh (rX f (tag+1) .nil L<|qg L [33] st).1 .nil,(rX f (tag+1) .nil L<|qg L [33] st).2)
   else if zk L [40] st then ((rX f 0 .nil L<|qg L [40] st).1,qg L [41] (rX f 0 .nil L<|qg L [40] st).2)
   else if isConst (tk L st.v) then (opX (tk L st.v).x .nil .nil,{st with v:=st.v+1})
   else if zxk (tk L st.v) then (vwe<|mg (tk L st.v).x,{st with v:=st.v+1})
   else kqy L st
theorem yh(L:List Tok)(s:List UInt8)(st:RS):st.v<=(qg L s st).v:=by grind [qg]
theorem kj1(L:List Tok)(s:List UInt8)(st:RS):st.v<=(zq L s st).2.v:=by unfold zq;grind
theorem zvr(L:List Tok)(st:RS):st.v<=(kqy L st).2.v:=by grind [kqy,zq,qg]
theorem kvl:∀(f tag:Nat)(x:PX)(L:List Tok)(st:RS),st.v<=(rX f tag x L st).2.v
 |0,_,_,_,_=>jV
 |f+1,tag,x,L,st=>by have d:=kvl f;grind [rX,yh,zvr]
def need(L:List Tok)(c:Nat)(st:RS):Nat:=if st.s then 1 else 8*(L.length-st.v)+c
theorem qqd(hb:(qg L l st).s=false):(qg L l st).v=st.v+1:=by grind [qg]
theorem jkn{s:List UInt8}(d:st.v<L.length)(hb:st.s=false)(e:c<=7)(g:1<=R)(h:need L R st<=f+1):need L c (qg L s st)<=f:=by grind [need,qqd]
def jzo(L:List Tok):Prop:=∀i,i<L.length->zxk (tk L i)=true->∃h:0<(tk L i).x.size,48<=(((tk L i).x[0]'h).toNat:Int)/\(((tk L i).x[0]'h).toNat:Int)<=57
def xql(R:Nat)(v:Value)(L:List Tok)(w:World)(r:PX×RS)(e:Ending)(w':World):Prop:=
 ∃p,e=.returned p/\yw w.heap.size w' r.1 p/\Rd w' R v L r.2/\Kept R w w'
def qv0(f:Nat):Prop:=∀(n:Nat)(w:World)(R:Nat)(v:Value)(L:List Tok)(st:RS),n<=4->Rd w R v L st->jzo L->need L (7-n) st<=f ->
 Calls prog 108 #[pT R,i_ n] w (xql R v L w<|rX f n .nil L st)
def qyg(f:Nat):Prop:=∀(n:Nat)(w:World)(R:Nat)(v:Value)(L:List Tok)(st:RS),n<=12->Rd w R v L st->jzo L->need L 2 st<=f ->
 Calls prog 176 #[pT R,i_ n] w (xql R v L w<|rX f (20+n) .nil L st)
theorem zy3(f n:Nat)(x:PX)(L:List Tok)(st:RS):rX (f+1) (20+n) x L st =
  if st.s then (qj1,st)
  else if zk L [33] st then
   if n=12 then (qj1,{st with s:=true})
   else (opX zvh (rX f (20+(n+1)) .nil L<|qg L [33] st).1 .nil,(rX f (20+(n+1)) .nil L<|qg L [33] st).2)
  else if zk L [40] st then ((rX f 0 .nil L<|qg L [40] st).1,qg L [41] (rX f 0 .nil L<|qg L [40] st).2)
  else if isConst (tk L st.v) then (opX (tk L st.v).x .nil .nil,{st with v:=st.v+1})
  else if zxk (tk L st.v) then (vwe<|mg (tk L st.v).x,{st with v:=st.v+1})
  else kqy L st:=by grind [rX]
theorem jZ(w:World):oq w (w.alloc o):=bR.alloc jV _
theorem yw.new{x:ELab}{a b:PX}(d:yw lo w a va)(hb:yw lo w b vb)(e:lo<=w.heap.size):yw lo (w.alloc<|.cells (kww x va vb) 242) (.node i j x a b) (pT w.heap.size):=
 ⟨_,va,vb,rfl,e,jH,d.below<|jZ _,hb.below<|jZ _⟩
theorem zx1{a b:PX}(d:yw lo w a va)(hb:yw lo w b vb)(e:w.heap.size=k)(f:lo<=k):yw lo (w.alloc<|.cells #[.string s,va,vb,e_,e_,i_ 0,e_,e_,i_ 0,i_ 0] 242) (opX s a b) (pT k):=by subst e;exact yw.new (x:={op:=s,y:=zh,c:=zh,n:=0}) (i:=0) (j:=0) d hb f
theorem xq3{n:Int}(d:w.heap.size=k)(e:lo<=k):yw lo (w.alloc<|.cells #[.string ⟨#[100,105,103,105,116]⟩,.pointer none,.pointer none,e_,e_,i_ 0,e_,e_,i_ 0,i_ n] 242) (vwe n) (pT k):=by subst d;exact yw.new (x:={op:=qj0,y:=zh,c:=zh,n:=n}) (i:=0) (j:=0) (a:=.nil) (b:=.nil) (va:=.pointer none) (vb:=.pointer none) rfl rfl e
theorem zjo(d:w.heap.size=k)(e:lo<=k):yw lo (w.alloc<|.cells #[e_,.pointer none,.pointer none,e_,e_,i_ 0,e_,e_,i_ 0,i_ 0] 242) qj1 (pT k):=
 zx1 (a:=.nil) (b:=.nil) (va:=.pointer none) (vb:=.pointer none) rfl rfl d e
theorem pwr(d:w.heap.size=k)(e:lo<=k):yw lo (w.alloc<|.cells #[.string s,.pointer none,.pointer none,e_,e_,i_ 0,e_,e_,i_ 0,i_ 0] 242) (opX s .nil .nil) (pT k):=
 zx1 (a:=.nil) (b:=.nil) (va:=.pointer none) (vb:=.pointer none) rfl rfl d e
theorem pwt(d:yw lo w b8 va)(e:w.heap.size=k)(f:lo<=k):yw lo (w.alloc<|.cells #[.string s,va,.pointer none,e_,e_,i_ 0,e_,e_,i_ 0,i_ 0] 242) (opX s b8 .nil) (pT k):=
 zx1 (b:=.nil) (vb:=.pointer none) d rfl e f
theorem Rd.pvp(h:Rd w R v L st)(hb:st.s=false)(h1:st.v+1<L.length):Rd (w.setCell (Ad R 1) (i_ ((st.v:Int)+1))) R v L {v:=st.v+1,nest:=st.nest,s:=false}:=by have:=h.E h1;simp_all
theorem pxa(h:isConst a9=true):(a9.t.toList==nV)=true/\((a9.x.toList==nJ)=true\/((a9.x.toList==nJ)=false/\((a9.x.toList==nZ)=true\/((a9.x.toList==nZ)=false/\(a9.x.toList==mG)=true)))):=by grind [isConst]
theorem xq6(h:isConst a9=false):(a9.t.toList==nV)=false\/((a9.t.toList==nV)=true/\(a9.x.toList==nJ)=false/\(a9.x.toList==nZ)=false/\(a9.x.toList==mG)=false):=by grind [isConst]
theorem pk6(f:Nat)(hL:qv0 f)(hA:qyg f):qyg (f+1):=by
 intro n w R v L st hn H S hf;have ⟨c0,c1,c2,c3,_,_,_,_⟩:=row4 H.rd;have F:=H.lt;have a2:=H.T;have ⟨g,cap,hv,hg,a8,a5,t0,t1,t2⟩:=H.open;rw[hv]at c0;have h:=oz<|zy3 f n .nil L st;clear hv;go_in
 go_wp2;go_region
 go_wp21;refine zM (kjg [33]<|H.below (jy _)) ?_;rintro w1 ⟨h1,E⟩;go_wp21;refine zM (kjg [40] h1) ?_;rintro w2 ⟨l,I⟩;have Y:=(I.block w.heap.size (sV ay E.size) aj).trans<|(E.block w.heap.size ay aj).trans (Xk w _);have j:=((Kept.of_below<|jy w).trans E).trans I;have a3:=wQ l.rd;have u:=(((Kept.of_below (R:=R)<|jy w (o:=.cells #[.string (tk L st.v).t,.string (tk L st.v).x,i_ (tk L st.v).v] 142)).trans E).trans I).size;have ⟨c0,c1,c2,c3,f0,f1,f2,f3⟩:=row4 l.rd;have ⟨T,U,V,_,_,_⟩:=row3 Y;clear Y;cases hb:st.s
 ·rw[hb]at c3;rw[hb]at h;simp only[ru,Xv]at h;cases A:zk L [33] st
  ·have d:=ku h;rw[A]at d;simp only[ru,Xv]at d;cases B:zk L [40] st
   ·rw[B]at d;simp only[ru,Xv]at d;have i:=l.fin st.v F;have m:=S st.v F;generalize tk L st.v=t at d T U V i m;cases y:isConst t
    ·rw[y]at d;simp only[ru,Xv]at d;cases z:zxk t
     ·rw[z]at d;simp only[ru,Xv]at d;have h:=oz d;have a0:(t.t.toList==mW)=false:=z;clear d i m z;obtain k1|⟨k1,k2,k3,k4⟩:=xq6 y;all_goals
       clear y;go_wp21;refine(jkk l).mono ?_;rintro e w3 ⟨q,rfl,G,x,p⟩;have k:=j.trans p;go_wp2;go_ret;rw[ku h];exact⟨_,rfl,G.mono u,x,k⟩
     ·rw[z]at d;simp only[Xw]at d;have h:=oz d;have a0:(t.t.toList==mW)=true:=z;have hw:(t.t.toList==nV)=false:=by simp_all
      have M:=i (by simp_all);have ⟨P,a6,a7⟩:=m z;have HV:=oz (by simp[mg,P]:mg t.x=((t.x[0]'P).toNat:Int)-48);clear d i m z y;go_wp2;go_ret;rw[ku h,ku HV];exact⟨_,rfl,xq3 ay u,(l.pvp hb M).below<|jZ _,(j.kzr _ _).alloc _⟩
    ·rw[y]at d;simp only[Xw]at d;have h:=oz d;have Z:=pxa y;have M:=i (by simp_all);have⟨k1,k2⟩:=Z;clear d i m y;obtain k2|⟨k2,k3|⟨k3,k4⟩⟩:=k2;all_goals
      go_wp2;go_ret;rw[ku h];exact⟨_,rfl,pwr ay u,(l.pvp hb M).below<|jZ _,(j.kzr _ _).alloc _⟩
   ·rw[B]at d;simp only[Xw]at d;have h:=oz d;clear d;have K:=jkn (s:=[40]) (c:=7) F hb aj aj hf;go_wp21;refine zM (kq1 [40] l) ?_;rintro w3 ⟨x,p⟩;have k:=j.trans p;have O:=wQ x.rd;clear c0 c1 c2 c3 f0 f1 f2 f3 T U V;go_wp21;refine(hL 0 _ R v L (qg L [40] st) aj x S K).mono ?_;rintro e w4 ⟨q,rfl,G,N,J⟩;have C:=k.trans J;go_wp21;refine zM (kq1 [41] N) ?_;rintro w5 ⟨H5,Q⟩;have W:=C.trans Q;have X:=G.kept Q O;go_wp2;go_ret;rw[ku h];exact⟨_,rfl,X.mono k.size,H5,W⟩
  ·have d:=ku h;clear h;rw[A]at d;simp only[Xw]at d;by_cases D:n=12
   ·rw[lJ D]at d;have h:=oz d;subst D;clear d;go_wp2;go_ret;rw[ku h];exact⟨_,rfl,zjo ay u,l.vv9.below<|jZ _,(j.kzr _ _).alloc _⟩
   ·rw[Xy D]at d;have h:=oz d;have a1:n<12:=aj;clear d D;have K:=jkn (s:=[33]) (c:=2) F hb aj aj hf;go_wp21;refine zM (kq1 [33] l) ?_;rintro w3 ⟨x,p⟩;have k:=j.trans p;have O:=wQ x.rd;clear c0 c1 c2 c3 f0 f1 f2 f3 T U V;go_wp21;refine(hA (n+1) _ R v L (qg L [33] st) aj x S K).mono ?_;rintro e w4 ⟨q,rfl,G,N,J⟩;have C:=k.trans J;have a4:=wQ N.rd;obtain⟨q,rfl⟩:=G.ptr;go_wp2;go_ret;rw[ku h];exact⟨_,rfl,pwt (G.mono k.size) rfl C.size,N.below<|jZ _,C.alloc _⟩
 ·rw[hb]at c3;rw[hb]at h;simp only[Xw]at h;have A:zk L [33] st=false:=by simp[zk,qqb,hb]
  have B:zk L [40] st=false:=by simp[zk,qqb,hb]
  go_wp2;go_ret;rw[ku h];exact⟨_,rfl,zjo rfl u,l.below<|jZ _,j.alloc _⟩
theorem any_cons(p:α->Bool)(a:α)(l:List α):(a::l).any p=(p a||l.any p):=rfl
theorem jjr:Calls prog 258 #[.string s] w λe w'=>rT e (.bool (qwu s))/\w'=w:=by
 have e:qwu s=(((s.toList==ni)||(s.toList==ny)||(s.toList==mD)||(s.toList==nP)||(s.toList==nD)||(s.toList==nX)) ||
   ((s.toList==mY)||(s.toList==nU)||(s.toList==nK)||(s.toList==nJ)||(s.toList==nZ)||(s.toList==mG))):=by unfold qwu;simp only[qw6,ZG,List.any_nil,yj,Qg];grind
 have E:=oz e;clear e;cases h1:(s.toList==ni)
 ·cases d:(s.toList==ny)
  ·cases f:(s.toList==mD)
   ·cases g:(s.toList==nP)
    ·cases h:(s.toList==nD)
     ·cases i:(s.toList==nX)
      ·cases h7:(s.toList==mY)
       ·cases h8:(s.toList==nU)
        ·cases h9:(s.toList==nK)
         ·cases j:(s.toList==nJ)
          ·cases k:(s.toList==nZ)
           ·cases l:(s.toList==mG);all_goals
             go_wp2;go_ret;exact⟨um (by grind [ku]),rfl⟩
           ·go_wp2;go_ret;exact⟨um oP,rfl⟩
          ·go_wp2;go_ret;exact⟨um oP,rfl⟩
         ·go_wp2;go_ret;exact⟨um (by rw[ku E];simp[h9]),rfl⟩
        ·go_wp2;go_ret;exact⟨um (by rw[ku E];simp[h8]),rfl⟩
       ·go_wp2;go_ret;exact⟨um (by rw[ku E];simp[h7]),rfl⟩
      ·go_wp2;go_ret;exact⟨um (by rw[ku E];simp[i]),rfl⟩
     ·go_wp2;go_ret;exact⟨um (by rw[ku E];simp[h]),rfl⟩
    ·go_wp2;go_ret;exact⟨um (by rw[ku E];simp[g]),rfl⟩
   ·go_wp2;go_ret;exact⟨um (by rw[ku E];simp[f]),rfl⟩
  ·go_wp2;go_ret;exact⟨um (by rw[ku E];simp[d]),rfl⟩
 ·go_wp2;go_ret;exact⟨um (by rw[ku E];simp[h1]),rfl⟩
theorem toList_empty(h:(s.toList==[])=true):¬0<s.size:=by
 rw[su,yj]at h;have:s.data.size=0:=by simp_all
 intro hb;have:s.size=0:=this;omega
theorem qwq(h:(s.toList==[])=false):0<s.size:=by
 cases hb:s.size with
 |zero=>
  simp_all
 |succ n=>omega
theorem jjn(t:Tok):Calls prog 238 #[ptV t] w λe w'=>rT e (.bool (kzq t.x 0&&!qwu t.x))/\oq w w':=by
 unfold ptV;cases f:(t.x.toList==[])
 ·have g:=qwq f;cases d:kzq t.x 0
  ·go_in;go_wp21;refine(kxg).mono ?_;rintro e w' ⟨rfl,rfl⟩;rw[kya g,show inB 97 122 t.x 0=false from d];go_wp2;go_ret;exact⟨rfl,jZ _⟩
  ·cases h:qwu t.x;all_goals
    go_in;go_wp21;refine(kxg).mono ?_;rintro e w' ⟨rfl,rfl⟩;rw[kya g,show inB 97 122 t.x 0=true from d];go_wp21;refine(jjr).mono ?_;rintro e w' ⟨rfl,rfl⟩;rw[h];go_wp2;go_ret;exact⟨rfl,jZ _⟩
 ·have d:kzq t.x 0=false:=qy3<|toList_empty f;go_wp2
  go_ret;simp_all [jZ]
theorem zzv(t:Tok):Calls prog 239 #[ptV t] w λe w'=>rT e (.bool (kzx t.x 0))/\oq w w':=by
 unfold ptV;cases d:(t.x.toList==[])
 ·have f:=qwq d;go_in;go_wp21;refine(qqr).mono ?_;rintro e w' ⟨rfl,rfl⟩;rw[kya f];go_wp2;go_ret;exact⟨rfl,jZ _⟩
 ·have g:kzx t.x 0=false:=qy3<|toList_empty d;go_wp2
  go_ret;simp_all [jZ]
structure PR where
 Y:Nat
 depth:Int
 failed:Bool
 N:Int
variable {r:PR}
structure Pw (w:World)(P:Nat)(v:Value)(L:List Tok)(r:PR):Prop where
 pd:w.heap[P]?=some (.cells #[v,i_ r.Y,i_ r.depth,.bool r.failed,i_ r.N] 196 (0,0))
 xu:w.ownsRow 0 194 2 v L.length (kjq L)
 ne:v.ownBlock≠some P
 ok:kq6 L
 lt:r.Y<L.length
theorem qzi(h:Rw w b #[x,v,z,u,x0] a7):Ce w b 0 x/\Ce w b 1 v/\Ce w b 2 z/\Ce w b 3 u/\Ce w b 4 x0/\Fr w b 1/\Fr w b 2/\Fr w b 3/\Fr w b 4:=
 ⟨rc h 0,rc h 1,rc h 2,rc h 3,rc h 4,rf h 1,rf h 2,rf h 3,rf h 4⟩
theorem vvq(h:Rw w b #[x,v,z,u,x0] a7)(n:Value):Rw (w.setCell (Ad b 1) n) b #[x,n,z,u,x0] a7:=Xx w b 1 _ _ _ h
theorem xkn(h:Rw w b #[x,v,z,u,x0] a7):Rw (w.setCell (Ad b 2) x1) b #[x,v,x1,u,x0] a7:=Xx w b 2 _ _ _ h
theorem xkr(h:Rw w b #[x,v,z,u,x0] a7):Rw (w.setCell (Ad b 3) x1) b #[x,v,z,x1,x0] a7:=Xx w b 3 _ _ _ h
theorem xkt(h:Rw w b #[x,v,z,u,x0] a7)(n:Value):Rw (w.setCell (Ad b 4) n) b #[x,v,z,u,n] a7:=Xx w b 4 _ _ _ h
theorem Pw.kept{r':PR}(h:Pw w P v L r)(d:Kept P w w')(f:Rw w' P #[v,i_ r'.Y,i_ r'.depth,.bool r'.failed,i_ r'.N] 196)(e:r'.Y<L.length):Pw w' P v L r':=
 ⟨f,qkv h.xu h.ne d,h.ne,h.ok,e⟩
theorem Pw.below(h:Pw w P v L r)(d:oq w w'):Pw w' P v L r:=
 h.kept (.of_below d) ((d.block P (wQ h.pd)).trans h.pd) h.lt
theorem zvf:∀(L:List Tok)(k:Nat),k<L.length->(kjq L)[k*2]?=some (.string (tk L k).x)/\(kjq L)[k*2+1]?=some (i_ (tk L k).v)
 |[],k,h=>by simp at h
 |a::L,0,_=>⟨rfl,rfl⟩
 |a::L,k+1,h=>by
  have d:=zvf L k (by simp_all);have e:∀i,(kjq (a::L))[i+2]?=(kjq L)[i]?:=λi=>by grind [kzy,kjq]
  grind [tk]
theorem Pw.open(h:Pw w P v L r):∃g cap,v=sL g L.length cap/\g≠P/\g<w.heap.size/\P<w.heap.size/\Ce w g (r.Y*2) (.string (tk L r.Y).x)/\Ce w g (r.Y*2+1) (i_ (tk L r.Y).v):=by
 have ⟨h1,d⟩:=h.xu;have f:=h.lt;obtain⟨_,d⟩|⟨g,cap,cur,hv,q,i,k,l,m,p⟩:=d
 ·omega
 ·have j:=zvf L r.Y f;refine⟨g,cap,hv,λe=>h.ne (by rw[hv];simp[Value.ownBlock,e]),wQ i,wQ h.pd,?_⟩;grind [cell_of_row]
theorem qwm(h:Pw w P v L r):Calls prog 152 #[pT P] w λe w'=>rT e (ptV<|tk L r.Y)/\oq w w':=by
 have ⟨c0,c1,c2,c3,c4,_⟩:=qzi h.pd;obtain⟨g,cap,rfl,k,i,f,t0,l⟩:=h.open;have j:=h.lt;generalize tk L r.Y=t at *;have⟨n,d,b,a⟩:=r;simp only at *;go_wp2;go_region
 go_wp2;exact tK (v:=ptV t) (by simp[results,results152,go_sem,ptV]) rfl ⟨rfl,jy w⟩
theorem Tryz.fTok0(a:ByteArray)(b:Int)(w:World):(Instr.field 194 (.agg #[.string a,i_ b]) 0).run prog w=.ok (.string a) w:=au
theorem Tryz.fTok1(a:ByteArray)(b:Int)(w:World):(Instr.field 194 (.agg #[.string a,i_ b]) 1).run prog w=.ok (i_ b) w:=au
theorem vwb(s:ByteArray)(h:Pw w P v L r):Calls prog 89 #[pT P,.string s] w λe w'=>rT e (.bool<|(tk L r.Y).x.toList==s.toList)/\oq w w':=by go_in;go_wp21;refine zM (qwm h) λf hb=>?_;have d:=Tryz.fTok0 (tk L r.Y).x (tk L r.Y).v;unfold ptV;go_wp2;go_ret;simp_all
def kv9(L:List Tok)(r:PR):PR:={Y:=L.length-1,depth:=r.depth,failed:=true,N:=if r.failed then r.N else (tk L r.Y).v}
theorem qkt(h:Pw w P v L r):Calls prog 90 #[pT P] w λe w'=>rT e (.tuple #[])/\Pw w' P v L (kv9 L r)/\Kept P w w':=by
 have ⟨c0,c1,c2,c3,c4,f1,f2,f3,f4⟩:=qzi h.pd;have m:=h.ok.pos;have l:=h.ok.T;have ⟨g,cap,hv,_⟩:=h.open;cases f:r.failed
 ·rw[f]at c3;have i:Pw (w.setCell (Ad P 3)<|.bool true) P v L {r with failed:=true}:=h.kept ((Kept.refl _ _).kzr _ _) (xkr h.pd) h.lt;have H:=oz h;go_in;go_wp21;refine zM (qwm i) λp hb=>?_;have d:=i.below hb;have k:Kept P w p:=((Kept.refl _ _).kzr _ _).trans<|.of_below hb;clear c0 c1 c2 c3 c4 f1 f2 f3 f4;have ⟨c0,c1,c2,c3,c4,f1,f2,f3,f4⟩:=qzi d.pd;subst hv;have q:=Tryz.fTok1 (tk L r.Y).x (tk L r.Y).v;unfold ptV;go_wp2
  go_end0;refine⟨rfl,d.kept (((Kept.refl _ _).kzr _ _).kzr _ _) ?_ (by show L.length-1<_;omega),k.trans<|((Kept.refl _ _).kzr _ _).kzr _ _⟩;have:=vvq (xkt d.pd<|i_ (tk L r.Y).v)<|i_ ((L.length:Int)-1);rw[show kv9 L r=⟨L.length-1,r.depth,true,(tk L r.Y).v⟩ by unfold kv9;simp_all];grind
 ·rw[f]at c3;have H:=oz h;subst hv;go_wp2;go_end0;refine⟨rfl,H.kept ((Kept.refl _ _).kzr _ _) ?_ (by show L.length-1<_;omega),(Kept.refl _ _).kzr _ _⟩;have j:=H.pd;rw[f]at j;have:=vvq j<|i_ ((L.length:Int)-1);rw[show kv9 L r=⟨L.length-1,r.depth,true,r.N⟩ by unfold kv9;simp_all];grind
theorem kq6.fin(h:kq6 L)(hi:i<L.length)(d:((tk L i).x.toList==[])=false):i+1<L.length:=by
 by_cases e:i+1<L.length
 ·exact e
 ·have:i=L.length-1:=by omega
  subst this;rw[(h.ok _ hi).fin,h.last]at d;cases d
theorem kq6.lastText(h:kq6 L):(tk L (L.length-1)).x.toList=[]:=by have d:=h.pos;have:=(h.ok (L.length-1) aj).fin;rw[h.last,su]at this;omega
theorem Pw.E(h:Pw w P v L r)(h1:r.Y+1<L.length):Pw (w.setCell (Ad P 1) (i_ ((r.Y:Int)+1))) P v L {r with Y:=r.Y+1}:=
 h.kept (r':={r with Y:=r.Y+1}) ((Kept.refl _ _).kzr _ _) (vvq h.pd _) h1
def isR(L:List Tok)(s:List UInt8)(r:PR):Bool:=(tk L r.Y).x.toList==s
def jzb(L:List Tok)(s:List UInt8)(r:PR):PR:=if isR L s r then {r with Y:=r.Y+1} else r
def qq1(L:List Tok)(s:List UInt8)(r:PR):PR:=if isR L s r then {r with Y:=r.Y+1} else kv9 L r
theorem jz5(L:List Tok)(s:List UInt8)(r:PR):(qq1 L s r).depth=r.depth:=by unfold qq1;split<;>rfl
def jkb(L:List Tok)(s:List UInt8)(d:Int)(r:PR):PR:=if r.depth==12 then kv9 L r else {qq1 L s r with depth:=d}
theorem jzc(s:ByteArray)(h:Pw w P v L r)(l:(s.toList==[])=false):Calls prog 205 #[pT P,.string s] w λe w'=>rT e (.bool<|isR L s.toList r)/\Pw w' P v L (jzb L s.toList r)/\Kept P w w':=by
 go_in;go_wp21;refine zM (vwb s h) λm hb=>?_;have d:=h.below hb;have g:=Kept.of_below (R:=P) hb;rw[show((tk L r.Y).x.toList==s.toList)=isR L s.toList r from rfl];cases j:isR L s.toList r
 ·have k:=show jzb L s.toList r=r by unfold jzb;simp_all
  go_wp2;go_ret;simp_all
 ·have f:r.Y+1<L.length:=d.ok.fin d.lt (by grind [isR]);have i:=d.ok.T;have ⟨c0,c1,c2,c3,c4,f1,f2,f3,f4⟩:=qzi d.pd;go_wp2;go_ret;rw[(show jzb L s.toList r={r with Y:=r.Y+1} by unfold jzb;simp_all)];exact⟨um j.symm,d.E f,g.trans<|(Kept.refl _ _).kzr _ _⟩
theorem zjf(h:Pw w P v L r)(k:(s.toList==[])=false):Calls prog 201 #[pT P,.string s] w λe w'=>rT e (.tuple #[])/\Pw w' P v L (qq1 L s.toList r)/\Kept P w w':=by
 go_in;go_wp21;refine zM (jzc s h k) ?_;rintro m ⟨d,j⟩;cases l:isR L s.toList r
 ·have f:=show qq1 L s.toList r=kv9 L r by unfold qq1;simp_all
  rw[show jzb L s.toList r=r by unfold jzb;simp_all]at d;go_wp21;refine zM (qkt d) ?_;rintro p ⟨i,g⟩;go_wp2;go_end0;rw[f];exact⟨rfl,i,j.trans g⟩
 ·have f:=show qq1 L s.toList r={r with Y:=r.Y+1} by unfold qq1;simp_all
  rw[show jzb L s.toList r={r with Y:=r.Y+1} by unfold jzb;simp_all]at d;go_wp2;go_end0;simp_all
theorem Pw.zzp(h:Pw w P v L r)(d:Int):Pw (w.setCell (Ad P 2) (i_ d)) P v L {r with depth:=d}:=
 h.kept (r':={r with depth:=d}) ((Kept.refl _ _).kzr _ _) (xkn h.pd) h.lt
theorem open_any(s:ByteArray)(H:Pw w P v L r)(i:(s.toList==[])=false):Calls prog 204 #[pT P,.string s] w λe w'=>rT e (.tuple #[]) /\
   (∃d,Pw w' P v L (jkb L s.toList d r)/\(-1000<=r.depth->r.depth<=1000->d=r.depth+1))/\Kept P w w':=by
 have ⟨c0,c1,c2,c3,c4,f1,f2,f3,f4⟩:=qzi H.pd;cases l:(r.depth==12)
 ·have H:=oz H;go_in;go_wp21;refine zM (zjf H i) ?_;rintro j ⟨h1,g⟩;have f:Pw j P v L (qq1 L s.toList r):=h1;have h:=show ∀d,jkb L s.toList d r={qq1 L s.toList r with depth:=d} from λd=>by unfold jkb;simp_all
  have ⟨c0,c1,c2,c3,c4,f1,f2,f3,f4⟩:=qzi f.pd;rw[(jz5 L s.toList r)]at c2;by_cases hb:-1000<=r.depth/\r.depth<=1000
  ·go_wp2;go_end0;exact⟨rfl,⟨r.depth+1,by rw[h];exact f.zzp _,λ_ _=>rfl⟩,g.trans<|(Kept.refl _ _).kzr _ _⟩
  ·go_wp2;go_end0;exact⟨rfl,⟨_,by rw[h];exact f.zzp _,λx y=>absurd ⟨x,y⟩ hb⟩,g.trans<|(Kept.refl _ _).kzr _ _⟩
 ·have H:=oz H;go_in;go_wp21;refine zM (qkt H) ?_;rintro p ⟨m,k⟩;go_wp2;refine tK (v:=.tuple #[]) (by simp[results,results204]) rfl ?_;simp_all [jkb]
theorem pvn(s:ByteArray)(h:Pw w P v L r)(i:(s.toList==[])=false):Calls prog 206 #[pT P,.string s] w λe w'=>rT e (.tuple #[]) /\
   (∃d,Pw w' P v L {qq1 L s.toList r with depth:=d}/\(-1000<=r.depth->r.depth<=1000->d=r.depth-1))/\Kept P w w':=by
 go_in;go_wp21;refine zM (zjf h i) ?_;rintro j ⟨h1,g⟩;have f:Pw j P v L (qq1 L s.toList r):=h1;have ⟨c0,c1,c2,c3,c4,f1,f2,f3,f4⟩:=qzi f.pd;rw[(jz5 L s.toList r)]at c2;by_cases hb:-1000<=r.depth/\r.depth<=1000
 ·go_wp2;go_end0;exact⟨rfl,⟨_,f.zzp _,λ_ _=>rfl⟩,g.trans<|(Kept.refl _ _).kzr _ _⟩
 ·go_wp2;go_end0;exact⟨rfl,⟨_,f.zzp _,λx y=>absurd ⟨x,y⟩ hb⟩,g.trans<|(Kept.refl _ _).kzr _ _⟩
def nameB(L:List Tok)(r:PR):Bool:=kzq (tk L r.Y).x 0&&!qwu (tk L r.Y).x
def xxh(L:List Tok)(r:PR):Tok:=if nameB L r then tk L r.Y else zh
def xxt(L:List Tok)(r:PR):PR:=if nameB L r then {r with Y:=r.Y+1} else kv9 L r
def xwl(L:List Tok)(r:PR):PR:=if kzx (tk L r.Y).x 0 then {r with Y:=r.Y+1} else kv9 L r
def xwn(L:List Tok)(r:PR):Tok:=if kzx (tk L r.Y).x 0 then tk L r.Y else zh
def dgV(t:Tok):Value:=.agg #[i_ (mg t.x),i_ t.v]
theorem kj6(h:Rw w b #[x,v] a7):Ce w b 0 x/\Ce w b 1 v/\Fr w b 0/\Fr w b 1:=
 ⟨rc h 0,rc h 1,rf h 0,rf h 1⟩
theorem set2(h:Rw w b #[x,v] a7){m n:Value}:Rw (puts b [m,n] 0 w) b #[m,n] a7:=zju h
theorem jv5(h:inB 97 122 s 0=true\/inB 48 57 s 0=true):(s.toList==[])=false:=by grind [toList_empty,qy3]
theorem Pw.setOther(h:Pw w P v L r)(d:∀g,v.ownBlock=some g->g<B)(f:P<B)(i:B<=p.block)(u:Value):Pw (w.setCell p u) P v L r:=by refine⟨by rw[hsC aj];exact h.pd,?_,h.ne,h.ok,h.lt⟩;exact ownsRow_setCell_other h.xu (λe=>by grind) u
theorem name_any(h:Pw w P v L r):Calls prog 202 #[pT P] w λe w'=>rT e (ptV<|xxh L r)/\Pw w' P v L (xxt L r)/\Kept P w w':=by
 have s:P<w.heap.size:=wQ h.pd;have p:=oz<|kq9 h.xu;have M:=h.ok.T;go_in
 go_wp21;refine zM (qwm<|h.below (jZ _)) λi hb=>?_;have A:Pw i P v L r:=h.below<|(jZ w).trans (hb.mono ay);have E:Kept P w i:=.of_below<|(jZ w).trans (hb.mono ay);have x:=oz<|(hb.block w.heap.size ay).trans jH;have H:=wQ x;have j:=A.ok.fin A.lt;have⟨l,m⟩:=jS (show xxh L r=if nameB L r then tk L r.Y else zh from rfl) (show xxt L r=if nameB L r then {r with Y:=r.Y+1} else kv9 L r from rfl);unfold ptV;go_wp21
 refine zM (jjn<|tk L r.Y) λI d=>?_;have C:nameB L r=true->r.Y+1<L.length:=λhn=>j (jv5<|.inl (by unfold nameB at hn;rw[rG]at hn;exact hn.1))
 rw[show(kzq (tk L r.Y).x 0&&!qwu (tk L r.Y).x)=nameB L r from rfl];have f:=(d.block w.heap.size ah).trans<|(tC i _ _ H).trans x;have k:=(d.block i.heap.size ay).trans<|jH;have q:Pw I P v L r:=A.below<|(jZ i).trans (d.mono ay);have u:Kept P w I:=E.trans<|.of_below ((jZ i).trans<|d.mono ay);have D:=d.size;simp only[tV]at D;clear j;cases hn:nameB L r
 ·rw[hn]at l m;have⟨B,g⟩:=jS q f;clear q f k;go_wp21;refine zM (qkt B) ?_;rintro w3 ⟨J,z⟩;have y:=oz<|(z.block w.heap.size (wQ g) aj).trans g;have K:=kj6 y;have F:=u.trans z;go_wp2
  refine kx0 results202 underlying107 (set2 y) ?_;rw[ku l,ku m];exact⟨rfl,(J.setOther p s ay _).setOther p s ay _,(F.jm ay _).jm ay _⟩
 ·rw[hn]at l m;have G:=C hn;have ⟨c0,c1,c2,c3,c4,f1,f2,f3,f4⟩:=qzi q.pd;have K:=kj6 f;have g0:=kj6 k;have⟨B,g⟩:=jS q (f);clear f k;generalize tk L r.Y=t at *;go_wp2;refine kx0 results202 underlying107 (set2 ((hsC (by grind)).trans g)) ?_;rw[ku l,ku m];exact⟨rfl,((B.E G).setOther p s ay _).setOther p s ay _,((u.kzr _ _).jm ay _).jm ay _⟩
theorem pxo(h:kzx s 0=true):∃hp:0<s.size,48<=((s[0]'hp).toNat:Int)/\((s[0]'hp).toNat:Int)<=57:=by grind [kzx,inB]
theorem vvf(h:Pw w P v L r):Calls prog 203 #[pT P] w λe w'=>rT e (dgV<|xwn L r)/\Pw w' P v L (xwl L r)/\Kept P w w':=by
 have u:P<w.heap.size:=wQ h.pd;have q:=oz<|kq9 h.xu;have Q:=h.ok.T;go_in
 go_wp21;refine zM (qwm<|h.below (jZ _)) λj hb=>?_;have C:Pw j P v L r:=h.below<|(jZ w).trans (hb.mono ay);have H:Kept P w j:=.of_below<|(jZ w).trans (hb.mono ay);have z:=oz<|(hb.block w.heap.size ay).trans jH;have K:=wQ z;have k:=C.ok.fin C.lt;have⟨m,p⟩:=jS (show xwn L r=if kzx (tk L r.Y).x 0 then tk L r.Y else zh from rfl) (show xwl L r=if kzx (tk L r.Y).x 0 then {r with Y:=r.Y+1} else kv9 L r from rfl);unfold ptV;go_wp21
 refine zM (zzv<|tk L r.Y) λx f=>?_;have F:kzx (tk L r.Y).x 0=true->r.Y+1<L.length:=λhn=>k<|jv5 (.inr hn)
 have d:=(f.block w.heap.size ah).trans<|(tC j _ _ K).trans z;have l:=(f.block j.heap.size ay).trans<|jH;have s:Pw x P v L r:=C.below<|(jZ j).trans (f.mono ay);have y:Kept P w x:=H.trans<|.of_below ((jZ j).trans<|f.mono ay);have G:=f.size;simp only[tV]at G;clear k;cases hn:kzx (tk L r.Y).x 0
 ·rw[hn]at m p;have⟨D,g⟩:=jS s d;clear s d l;go_wp21;refine zM (qkt D) ?_;rintro w3 ⟨M,B⟩;have A:=oz<|(B.block w.heap.size (wQ g) aj).trans g;have O:=kj6 A;have I:=y.trans B;go_wp2
  refine kx0 results203 underlying109 (set2 A) ?_;rw[ku m,ku p];exact⟨rfl,(M.setOther q u ay _).setOther q u ay _,(I.jm ay _).jm ay _⟩
 ·rw[hn]at m p;have J:=F hn;have ⟨i,S,T⟩:=pxo hn;have N:=oz (by simp[mg,i]:mg (tk L r.Y).x=(((tk L r.Y).x[0]'i).toNat:Int)-48);have ⟨c0,c1,c2,c3,c4,f1,f2,f3,f4⟩:=qzi s.pd;have O:=kj6 d;have g0:=kj6 l;have⟨D,g⟩:=jS s (d);have R:=d;clear d l;generalize tk L r.Y=t at *;go_wp2;go_region
  go_wp2;have E:(((x.setCell (Ad P 1)<|i_ ((r.Y:Int)+1)).setCell (Ad w.heap.size 0)<|i_ (((t.x[0]'i).toNat:Int)-48)).setCell (Ad w.heap.size 1)<|i_ (t.v:Int)).drew.heap[w.heap.size]? =
    some (.cells #[i_ (((t.x[0]'i).toNat:Int)-48),i_ (t.v:Int)] 109 (0,0)):=
   set2 (w:=x.setCell (Ad P 1)<|i_ ((r.Y:Int)+1)) ((hsC (by grind)).trans g)
  refine kx0 results203 underlying109 E ?_;rw[ku m,ku p];refine⟨?_,(((D.E J).setOther q u ay _).setOther q u ay _).below<|bR.drew,(((y.kzr _ _).jm ay _).jm ay _).drew⟩;simp only[Xw];unfold dgV;rw[ku N]
def kk4(w:World)(R:Nat):Nat:=match w.cell? (Ad R 1) with
 |some v=>(intOf v).toNat
 |none=>0
def bOf:Value->Nat
 |.bool true=>1
 |_=>0
theorem Rd.kk4(h:Rd w R v L st):Go.Proofs.YtpmcnonmkghokaaGreatDoor.kk4 w R=st.v:=by have ⟨c0,c1,c2,c3,_⟩:=row4 h.rd;simp[Go.Proofs.YtpmcnonmkghokaaGreatDoor.kk4,c1,intOf]
theorem heap_alloc_new'(h:w.heap.size=b):(w.alloc o).heap[b]?=some o:=by subst h;exact Xk w o
def jvo(w:World)(B:Nat):Prop:=
 w.heap[B]?=some (.cells #[.string ⟨#[124]⟩] 9 (0,0))/\w.heap[B+1]?=some (.cells #[.string ⟨#[38]⟩] 9 (0,0)) /\
 w.heap[B+1+1]?=some (.cells #[.string ⟨#[61,61]⟩,.string ⟨#[33,61]⟩,.string ⟨#[60]⟩] 9 (0,0))/\w.heap[B+1+1+1]?=some (.cells #[.string ⟨#[43]⟩,.string ⟨#[45]⟩] 9 (0,0)) /\
 w.heap[B+1+1+1+1]?=some (.cells #[sL B 1 1,sL (B+1) 1 1,sL (B+1+1) 3 3,sL (B+1+1+1) 2 2] 22 (0,0))
theorem jvo.kept(h:jvo w B)(hR:R<B)(d:Kept R w w'):jvo w' B:=by
 have⟨e,h1,f,g,i⟩:=h;exact⟨by rw[d.block _ (wQ e) aj];exact e,by rw[d.block _ (wQ h1) aj];exact h1,by rw[d.block _ (wQ f) aj];exact f,
  by rw[d.block _ (wQ g) aj];exact g,by rw[d.block _ (wQ i) aj];exact i⟩
theorem jvo.at(h:jvo w B)(n:Nat)(hn:n<4):∃k,B<=k/\w.cell? ⟨B+1+1+1+1,n,none⟩=some (.slice (some ⟨k,0,none⟩) (kj4 n).length (kj4 n).length) /\
  ∀i,i<(kj4 n).length->w.cell? ⟨k,0+i,none⟩=some (.string<|(kj4 n).getD i ByteArray.empty):=by
 have⟨f,h1,g,j,d⟩:=h;have e:n=0\/n=1\/n=2\/n=3:=aj;obtain rfl|rfl|rfl|rfl:=e
 ·refine⟨B,jV,pW,λi hi=>?_⟩;have:i=0:=lC;subst this;rw[jL f];rfl
 ·refine⟨B+1,aj,pW,λi hi=>?_⟩;have:i=0:=lC;subst this;rw[jL h1];rfl
 ·refine⟨B+1+1,aj,pW,λi hi=>?_⟩;have:i=0\/i=1\/i=2:=lC;obtain rfl|rfl|rfl:=this<;>(rw[jL g];rfl)
 ·refine⟨B+1+1+1,aj,pW,λi hi=>?_⟩;have:i=0\/i=1:=lC;obtain rfl|rfl:=this<;>(rw[jL j];rfl)
theorem jqg(f n:Nat)(x:PX)(L:List Tok)(st:RS)(hn:n<4):rX (f+1) n x L st=if st.s then (qj1,st) else rX f (10+n) (rX f (n+1) .nil L st).1 L (rX f (n+1) .nil L st).2:=by rw[rX,lJ hn]
theorem jwn(f:Nat)(x:PX)(L:List Tok)(st:RS):rX (f+1) 4 x L st=if st.s then (qj1,st) else rX f (20+0) .nil L st:=by grind [rX]
theorem zy2(f n:Nat)(x:PX)(L:List Tok)(st:RS)(hn:n<4):rX (f+1) (10+n) x L st =
  if st.s then (x,st)
  else if kv6 n (tk L st.v) then
   if n=2 then (opX (tk L st.v).x x (rX f (n+1) .nil L {st with v:=st.v+1}).1,(rX f (n+1) .nil L {st with v:=st.v+1}).2)
   else rX f (10+n) (opX (tk L st.v).x x (rX f (n+1) .nil L {st with v:=st.v+1}).1) L (rX f (n+1) .nil L {st with v:=st.v+1}).2
  else (x,st):=by grind [rX]
theorem zx4(hb:st.s=false):need L c st=8*(L.length-st.v)+c:=by simp[need,hb]
theorem pwa(hb:st.s=true):need L c st=1:=by simp[need,hb]
theorem zy6(h:8*(L.length-st.v)+c<=k)(d:1<=k):need L c st<=k:=by grind [need]
theorem vv8(w:World):jvo (((((w.alloc (.cells #[.string ⟨#[124]⟩] 9)).alloc (.cells #[.string ⟨#[38]⟩] 9)).alloc (.cells #[.string ⟨#[61,61]⟩,.string ⟨#[33,61]⟩,.string ⟨#[60]⟩] 9)).alloc (.cells #[.string ⟨#[43]⟩,.string ⟨#[45]⟩] 9)).alloc
  (.cells #[sL w.heap.size 1 1,sL (w.heap.size+1) 1 1,sL (w.heap.size+1+1) 3 3,sL (w.heap.size+1+1+1) 2 2] 22)) w.heap.size:=by
 refine⟨?_,?_,?_,?_,?_⟩
 ·grind [Below.heap_alloc,heap_alloc_new]
 ·rw[jR ay,jR ay,jR ay];exact heap_alloc_new' ay
 ·rw[jR ay,jR ay];exact heap_alloc_new' ay
 ·rw[jR ay];exact heap_alloc_new' ay
 ·exact heap_alloc_new' ay
theorem vx3(R:Nat)(w:World)(a b c d e:Obj):Kept R w (((((w.alloc a).alloc b).alloc c).alloc d).alloc e):=(((((Kept.refl _ _).alloc _).alloc _).alloc _).alloc _).alloc _
theorem jyn(w:World)(a b c d e:Obj):oq w (((((w.alloc a).alloc b).alloc c).alloc d).alloc e):=
 ((((bR.alloc jV _).alloc ay _).alloc ah _).alloc ah _).alloc ah _
def xk4(f lo R:Nat)(v:Value)(L:List Tok)(n:Nat)(w0:World)(fin:PX×RS)(p m:Value)(wr:World):Prop:=
 ∃(x:PX)(st:RS)(g:Nat)(b:Bool),m=.bool b/\yw lo wr x p/\Rd wr R v L st/\Kept R w0 wr/\(b=true->rX g (10+n) x L st=fin/\need L 1 st<=g/\g<=f)/\(b=false->(x,st)=fin)
theorem jk9{b9:Program}{d6:FuncId}(h:Calls b9 d6 cs (w.drewN<|1+n) λe w'=>e=.returned v/\w'=w.drewN (1+n)):Calls b9 d6 cs (w.drewN<|1+n) λe d=>e=.returned v/\∃m,d=w.drewN (1+m):=
 h.mono λ_ _ ⟨f,g⟩=>⟨f,n,g⟩
theorem vwy(f:Nat)(hL:∀g,g<=f->qv0 g)(hA:qyg f):qv0 (f+1):=by
 intro n w R v L st hn H hD hf;have ⟨c0,c1,c2,c3,f0,f1,f2,f3⟩:=row4 H.rd;have aI:=H.lt;have a9:=H.T;have hR:=wQ H.rd;cases hb:st.s
 ·rw[hb]at c3;by_cases h4:n=4
  ·subst h4;have G:=oz<|jwn f .nil L st;rw[hb]at G;have S:need L 2 st<=f:=by rw[zx4 hb]at *;omega
   go_in;go_wp21;refine(hA 0 _ R v L st aj H hD S).mono ?_;rintro e w1 ⟨q,rfl,F,H1,HK⟩;go_wp2;go_ret;rw[ku G];exact⟨_,rfl,F,H1,HK⟩
  ·have J:n<4:=by omega
   have aB:((n:Int)==4)=false:=by grind
   have G:=oz<|jqg f n .nil L st J;rw[hb]at G;have S:need L (7-(n+1)) st<=f:=by rw[zx4 hb]at *;omega
   have a5:8*(L.length-st.v)+1<=f/\1<=f:=by rw[zx4 hb]at hf;omega
   go_in;go_wp21;have HS:=vv8 w;have K:=vx3 R w (.cells #[.string ⟨#[124]⟩] 9) (.cells #[.string ⟨#[38]⟩] 9) (.cells #[.string ⟨#[61,61]⟩,.string ⟨#[33,61]⟩,.string ⟨#[60]⟩] 9) (.cells #[.string ⟨#[43]⟩,.string ⟨#[45]⟩] 9)<|.cells #[sL w.heap.size 1 1,sL (w.heap.size+1) 1 1,sL (w.heap.size+1+1) 3 3,sL (w.heap.size+1+1+1) 2 2] 22;have h0:=H.below<|jyn w (.cells #[.string ⟨#[124]⟩] 9) (.cells #[.string ⟨#[38]⟩] 9) (.cells #[.string ⟨#[61,61]⟩,.string ⟨#[33,61]⟩,.string ⟨#[60]⟩] 9) (.cells #[.string ⟨#[43]⟩,.string ⟨#[45]⟩] 9) (.cells #[sL w.heap.size 1 1,sL (w.heap.size+1) 1 1,sL (w.heap.size+1+1) 3 3,sL (w.heap.size+1+1+1) 2 2] 22);generalize (((((w.alloc<|.cells #[.string ⟨#[124]⟩] 9).alloc<|.cells #[.string ⟨#[38]⟩] 9).alloc<|.cells #[.string ⟨#[61,61]⟩,.string ⟨#[33,61]⟩,.string ⟨#[60]⟩] 9).alloc<|.cells #[.string ⟨#[43]⟩,.string ⟨#[45]⟩] 9).alloc
  (.cells #[sL w.heap.size 1 1,sL (w.heap.size+1) 1 1,sL (w.heap.size+1+1) 3 3,sL (w.heap.size+1+1+1) 2 2] 22))=w0 at HS K h0 |-
   refine(hL f jV (n+1) w0 R v L st aj h0 hD S).mono ?_;rintro e w1 ⟨q,rfl,hq,h1,a6⟩;have a3:xk4 f w.heap.size R v L n w0 (rX (f+1) n .nil L st) q (.bool true) w1:=
    ⟨(rX f (n+1) .nil L st).1,(rX f (n+1) .nil L st).2,f,true,rfl,hq.mono K.size,h1,a6,λ_=>⟨G.symm,zy6 (by have:=kvl f (n+1) .nil L st;omega) a5.2,jV⟩,λh=>ig⟩
   obtain⟨q,rfl⟩:=hq.ptr;clear c0 c1 c2 c3 f0 f1 f2 f3;go_wp2;go_loopw [6,7] (λp m wr=>xk4 f w.heap.size R v L n w0 (rX (f+1) n .nil L st) p m wr) (λ_ m wr=>2*(L.length-kk4 wr R)+bOf m);exact a3;obtain⟨x,d,g,b,rfl,F,j,A,hT,k⟩:=hrel;obtain⟨q2,rfl⟩:=F.ptr;have M:=K.trans A;have a4:=HS.kept hR A;have a1:=j.lt;have aC:=wQ j.rd;have ⟨c0,c1,c2,c3,f0,f1,f2,f3⟩:=row4 j.rd;cases b
   ·have z:=oz<|k rfl;clear hT k;go_wp2
    go_ret;rw[<-ku z];exact⟨_,rfl,F,j,M⟩
   ·have ⟨l,P,Q⟩:=hT rfl;clear hT k;cases u:d.s
    ·obtain⟨g,rfl⟩:∃g',g=g'+1:=⟨g-1,by rw[zx4 u]at P;omega⟩;rw[zx4 u]at P;rw[zy2 g n x L d J,u]at l;simp only[ru,Xv]at l;rw[u]at c3;have ⟨gb,cap,hv,hg,aF,aE,t0,t1,t2⟩:=j.open;have C:=j.fin d.v a1;rw[hv]at c0;obtain⟨kb,aG,sc,(N:Hid _)⟩:=a4.at n J;have O:=oz l;have aH:kb<wr.heap.size:=by have:=N 0 (by unfold kj4;grind);exact block_lt_of_cell this
     have W:(kj4 n).length<=100:=by unfold kj4;grind
     have aA:(n:Int)<4:=aj;have a2:=block_lt_of_cell sc;simp only at a2;clear hv l;generalize tk L d.v=t at t0 t1 t2 O C;have aJ:=j.kk4;cases B:kv6 n t
     ·have k:=ku O;rw[B]at k;simp only[ru,Xv]at k;have z:=oz k;clear k C;have a0:(((kj4 n).any<|λs=>s.toList==t.x.toList)=true/\(t.t.toList==nM)=false)\/((kj4 n).any<|λs=>s.toList==t.x.toList)=false:=by grind [kv6]
      clear B;obtain⟨k1,k2⟩|k1:=a0;all_goals
       go_wp2;go_region
       go_wp2;go_quiet ((go_at_call 136;go_must (exact jk9<|jyu kb 0 _ (ls:=kj4 n) W pX)))
       rw[k1];go_wp2;go_roundw
       case rel=>exact⟨x,d,g,false,rfl,F.below<|below_drewN (jZ _) _,j.below<|below_drewN (jZ _) _,(A.alloc _).drewN _,(λh=>ig),(λ_=>z)⟩
       case measure=>
        rw[((ku j).below (below_drewN (jZ _) _)).kk4,(ku j).kk4];simp[bOf]
     ·have k:=ku O;rw[B]at k;simp only[Xw]at k;have z:=oz k;unfold kv6 at B;rw[rG]at B;have⟨k1,k2⟩:=B;have a8:=C (by simp_all);clear k C;go_wp2;go_region
      go_wp2;go_quiet ((go_at_call 136;go_must (exact jk9<|jyu kb 0 _ (ls:=kj4 n) W pX)))
      rw[k1];go_wp21;refine(hL g aj (n+1) _ R v L {v:=d.v+1,nest:=d.nest,s:=false} aj ((j.below<|below_drewN (jZ _) _).pvp u a8) hD (zy6 (by simp only;omega) aj)).mono ?_;rintro e w3 ⟨q3,rfl,T,E,X⟩;have Q:=(X.block wr.heap.size ay aj).trans ((heap_setCell_other _ _ wr.heap.size _ (by simp only;omega)).trans<|Xk wr _);have u0:=row3 Q;have Y:=kvl g (n+1) .nil L {v:=d.v+1,nest:=d.nest,s:=false};generalize rX g (n+1) .nil L {v:=d.v+1,nest:=d.nest,s:=false}=y at z T E Y;have D:Kept R wr w3:=((((Kept.refl R wr).alloc _).drewN _).kzr _ _).trans X;have Z:=M.size;have U:=T.mono (lo':=w.heap.size) ah;have V:=F.kept D hR;have aD:=wQ E.rd;have hy:=E.lt;obtain⟨q3,rfl⟩:=T.ptr;simp only at Y;clear Q c0 c1 c2 c3 f0 f1 f2 f3 t0 t1 t2 sc;by_cases I:n=2
      ·have a7:((n:Int) != 2)=false:=by simp_all
       rw[lJ I]at z;clear I;go_wp2;go_roundw
       case rel=>exact⟨opX t.x x y.1,y.2,g,false,rfl,zx1 V U rfl<|rP Z D.size,E.below<|jZ _,(A.trans D).alloc _,(λh=>ig),(λ_=>z)⟩
       case measure=>
        rw[((ku E).below (jZ _)).kk4,(ku j).kk4];simp[bOf];omega
      ·have a7:((n:Int) != 2)=true:=by simp;omega
       rw[Xy I]at z;clear I;go_wp2;go_roundw
       case rel=>exact⟨opX t.x x y.1,y.2,g,true,rfl,zx1 V U rfl<|rP Z D.size,E.below<|jZ _,(A.trans D).alloc _,(λ_=>⟨z,zy6 aj aj,aj⟩),(λh=>ig)⟩
       case measure=>
        rw[((ku E).below (jZ _)).kk4,(ku j).kk4];omega
    ·obtain⟨g,rfl⟩:∃g',g=g'+1:=⟨g-1,by rw[pwa u]at P;omega⟩;rw[zy2 g n x L d J,u]at l;simp only[Xw]at l;rw[u]at c3;have z:=oz l;clear l;go_wp2;go_ret;rw[<-ku z];exact⟨_,rfl,F,j,M⟩
 ·rw[hb]at c3;have G:Hid (rX (f+1) n .nil L st=(qj1,st)):=by
   by_cases h4:n=4
   ·subst h4;rw[jwn,hb];rfl
   ·rw[jqg f n .nil L st aj,hb];rfl
  go_wp2;go_ret;rw[ku G];exact⟨_,rfl,zjo rfl<|jV,H.below<|jZ _,(Kept.refl _ _).alloc _⟩
theorem levels(f:Nat):qv0 f/\qyg f:=by
 have h:∀f,(∀g,g<=f->qv0 g)/\qyg f:=by
  intro f;induction f with
  |zero=>
   have e:∀(L:List Tok)(c:Nat)(w:World)(R:Nat)(v:Value)(st:RS),Rd w R v L st->¬need L c st<=0:=by intro L c w R v st h hn;have:=h.lt;grind [need]
   refine⟨λg i=>?_,λn w R v L st _ h _ d=>absurd d<|e _ _ _ _ _ _ h⟩;have:g=0:=aj;subst this;exact λn w R v L st _ h _ d=>absurd d<|e _ _ _ _ _ _ h
  |succ f ih=>
   grind [pk6,vwy]
 exact⟨(h f).1 f<|jV,(h f).2⟩
structure SLab where
 N:PX
 value:PX
 A:PX
variable {d7:SLab}
abbrev PB:=Go.Deep.BT SLab
variable {blk:RS->PB×RS}
def noS:SLab:={N:=.nil,value:=.nil,A:=.nil}
def kkp:PB->PB->PB
 |.nil,b=>b
 |.node i j a s n,b=>.node i j a s<|kkp n b
theorem jzk:∀a:PB,kkp a .nil=a
 |.nil=>rfl
 |.node i j a s n=>by rw[kkp,jzk n]
theorem zz0:∀a b c:PB,kkp (kkp a b) c=kkp a (kkp b c)
 |.nil,_,_=>rfl
 |.node i j a s n,b,c=>by rw[kkp,kkp,kkp,zz0 n b c]
def ifS(c:PX)(t e:PB):PB:=.node 0 0 {N:=.nil,value:=.nil,A:=c} (.node 0 0 noS t e) .nil
def pvs(p v:PX):PB:=.node 0 0 {N:=p,value:=v,A:=.nil} .nil .nil
def kqb(L:List Tok):Nat:=8*L.length+8
def rDo(blk:RS->PB×RS)(L:List Tok)(st:RS):PB×RS:=
 if zk L mY st then
  if zk L nU (blk (rX (kqb L) 0 .nil L<|qg L mY st).2).2 then
   (ifS (rX (kqb L) 0 .nil L<|qg L mY st).1 (blk (rX (kqb L) 0 .nil L<|qg L mY st).2).1 (blk<|qg L nU (blk (rX (kqb L) 0 .nil L<|qg L mY st).2).2).1,
    (blk<|qg L nU (blk (rX (kqb L) 0 .nil L<|qg L mY st).2).2).2)
  else (ifS (rX (kqb L) 0 .nil L<|qg L mY st).1 (blk (rX (kqb L) 0 .nil L<|qg L mY st).2).1 .nil,(blk (rX (kqb L) 0 .nil L<|qg L mY st).2).2)
 else (pvs (kqy L st).1 (rX (kqb L) 0 .nil L<|qg L [61] (kqy L st).2).1,qg L [59] (rX (kqb L) 0 .nil L<|qg L [61] (kqy L st).2).2)
def rS:Nat->Nat->List Tok->RS->PB×RS
 |0,_,_,st=>(.nil,st)
 |f+1,0,L,st=>((rS f 1 L<|qg L [123] st).1,qg L [125] (rS f 1 L<|qg L [123] st).2)
 |f+1,_+1,L,st=>
  if zk L [125] st||st.s then (.nil,st)
  else (kkp (rDo (rS f 0 L) L st).1 (rS f 1 L (rDo (rS f 0 L) L st).2).1,(rS f 1 L (rDo (rS f 0 L) L st).2).2)
theorem kqk(h:st.s=true):zk L l st=false:=by simp[zk,qqb,h]
theorem kkk(h:st.s=true):(qg L l st).s=true:=by simp[qg,kqk h]
theorem qyf(h:st.s=true):(zq L l st).2.s=true:=by simp[zq,kqf,h]
theorem kk2(h:st.s=true):∀(f tag:Nat)(x:PX),(rX f tag x L st).2=st
 |0,_,_=>rfl
 |f+1,tag,x=>by grind [rX]
theorem qwg{L:List Tok}{st:RS}(h:st.s=true):∀f tag:Nat,(rS f tag L st).2.s=true
 |0,_=>h
 |f+1,0=>by
  rw[rS];exact kkk<|qwg (kkk h) f 1
 |f+1,t+1=>by rw[rS];simp[h]
theorem zzo(d:∀s,s.v<=(blk s).2.v)(L:List Tok)(st:RS):st.v<=(rDo blk L st).2.v:=by grind [rDo,yh,kvl,zvr]
theorem kkc(L:List Tok):∀(f tag:Nat)(st:RS),st.v<=(rS f tag L st).2.v
 |0,_,_=>jV
 |f+1,0,st=>by
  rw[rS];exact rP (yh L [123] st)<|rP (kkc L f 1 _) (yh L [125] _)
 |f+1,t+1,st=>by
  rw[rS];split
  ·simp
  ·exact rP (zzo (λs=>kkc L f 0 s) L st) (kkc L f 1 _)
theorem jqm(hb:(zq L l st).2.s=false):(zq L l st).2.v=st.v+1:=by grind [zq]
theorem qwd(f:∀s,s.v<=(blk s).2.v)(i:∀s,s.s=true->(blk s).2.s=true)(h:(rDo blk L st).2.s=false):st.v+1<=(rDo blk L st).2.v:=by
 have nb:∀{p:Bool},¬p=true->p=false:=λh=>by simp_all
 by_cases hi:zk L mY st=true
 ·grind [qqd,kvl,kqb,rX,rDo,yh]
 ·unfold rDo at h |-;rw[Xy hi]at h |-;simp only at h |-;have g:(kqy L st).2.s=false:=nb λhb=>by grind [kkk,kk2]
  have d:(zq L mX st).2.s=false:=nb λhb=>by grind [kqy,kqk]
  have h1:=jqm d;have e:(zq L mX st).2.v<=(kqy L st).2.v:=by
   unfold kqy;simp only;split
   ·grind [yh,kj1]
   simp
  grind [kvl,kqb,qg,rX]
def qva(lo:Nat)(w:World)(a:SLab)(vp vv vi:Value):Prop:=yw lo w a.N vp/\yw lo w a.value vv/\yw lo w a.A vi
def jg(lo:Nat)(no:Option Nat)(w:World):PB->List Value->Prop
 |.nil,ps=>ps=[]
 |.node _ _ a .nil n,ps=>∃k vp vv vi qs,ps=pT k::qs/\lo<=k/\w.heap[k]?=some (.cells #[vp,vv,vi,nS,nS] 247 (0,0))/\qva lo w a vp vv vi/\jg lo no w n qs
 |.node _ _ a (.node _ _ _ t e) n,ps=>∃k vp vv vi vt ve qt qe qs,ps=pT k::qs/\lo<=k/\w.heap[k]?=some (.cells #[vp,vv,vi,vt,ve] 247 (0,0))/\qva lo w a vp vv vi /\
   (w.ownsRow lo 245 1 vt qt.length qt/\(∀j,vt.ownBlock=some j->no≠some j)/\jg lo no w t qt)/\(w.ownsRow lo 245 1 ve qe.length qe/\(∀j,ve.ownBlock=some j->no≠some j)/\jg lo no w e qe)/\jg lo no w n qs
theorem xg(j:∀k,lo<=k->k<w.heap.size->w'.heap[k]?=w.heap[k]?)(h:w.ownsRow lo e size v n xs):w'.ownsRow lo e size v n xs:=by
 have⟨h1,d⟩:=h;refine⟨h1,?_⟩;obtain d|⟨g,cap,cur,hv,f,i,r⟩:=d
 ·simp_all
 ·exact .inr ⟨g,cap,cur,hv,f,by grind,r⟩
theorem qo(i:lo'<=lo)(h:w.ownsRow lo e size v n xs):w.ownsRow lo' e size v n xs:=by
 have⟨h1,d⟩:=h;refine⟨h1,?_⟩;obtain d|⟨g,cap,cur,hv,f,r⟩:=d
 ·simp_all
 ·exact .inr ⟨g,cap,cur,hv,rP i f,r⟩
theorem qva.stay(d:∀k,lo<=k->k<w.heap.size->w'.heap[k]?=w.heap[k]?)(h:qva lo w d7 vp vv vi):qva lo w' d7 vp vv vi:=⟨h.1.stay d,h.2.1.stay d,h.2.2.stay d⟩
theorem qva.mono(d:lo'<=lo)(h:qva lo w d7 vp vv vi):qva lo' w d7 vp vv vi:=⟨h.1.mono d,h.2.1.mono d,h.2.2.mono d⟩
theorem jg.stay(d:∀k,lo<=k->k<w.heap.size->w'.heap[k]?=w.heap[k]?):∀{b:PB}{ps:List Value},jg lo no w b ps->jg lo no w' b ps
 |.nil,_,h=>h
 |.node _ _ a .nil n,ps,⟨k,vp,vv,vi,qs,e,hl,hh,ha,hn⟩=>⟨k,vp,vv,vi,qs,e,hl,by grind,ha.stay d,jg.stay d hn⟩
 |.node _ _ a (.node _ _ _ t e) n,ps,⟨k,vp,vv,vi,vt,ve,qt,qe,qs,e1,hl,hh,ha,⟨ht1,ht3,ht2⟩,⟨he1,he3,he2⟩,hn⟩=>
  ⟨k,vp,vv,vi,vt,ve,qt,qe,qs,e1,hl,by grind,ha.stay d,⟨xg d ht1,ht3,jg.stay d ht2⟩,⟨xg d he1,he3,jg.stay d he2⟩,jg.stay d hn⟩
theorem jg.mono(d:lo'<=lo):∀{b:PB}{ps:List Value},jg lo no w b ps->jg lo' no w b ps
 |.nil,_,h=>h
 |.node _ _ a .nil n,ps,⟨k,vp,vv,vi,qs,e,hl,hh,ha,hn⟩=>⟨k,vp,vv,vi,qs,e,rP d hl,hh,ha.mono d,jg.mono d hn⟩
 |.node _ _ a (.node _ _ _ t e) n,ps,⟨k,vp,vv,vi,vt,ve,qt,qe,qs,e1,hl,hh,ha,⟨ht1,ht3,ht2⟩,⟨he1,he3,he2⟩,hn⟩=>
  ⟨k,vp,vv,vi,vt,ve,qt,qe,qs,e1,rP d hl,hh,ha.mono d,⟨qo d ht1,ht3,jg.mono d ht2⟩,⟨qo d he1,he3,jg.mono d he2⟩,jg.mono d hn⟩
theorem jg.app{lo:Nat}{no:Option Nat}{w:World}:∀{b c:PB}{ps qs:List Value},jg lo no w b ps->jg lo no w c qs->jg lo no w (kkp b c) (ps++qs)
 |.nil,c,ps,qs,h,h'=>by
  have:ps=[]:=h;subst this;exact h'
 |.node _ _ a .nil n,c,ps,qs,⟨k,vp,vv,vi,rs,e,hl,hh,ha,hn⟩,h'=>⟨k,vp,vv,vi,rs++qs,by simp_all,hl,hh,ha,hn.app h'⟩
 |.node _ _ a (.node _ _ _ t e) n,c,ps,qs,⟨k,vp,vv,vi,vt,ve,qt,qe,rs,e1,hl,hh,ha,ht,he,hn⟩,h'=>⟨k,vp,vv,vi,vt,ve,qt,qe,rs++qs,by simp_all,hl,hh,ha,ht,he,hn.app h'⟩
theorem jg.shun{no':Option Nat}(d:∀k,no'=some k->no=some k\/w.heap.size<=k\/k<lo):∀{b:PB}{ps:List Value},jg lo no w b ps->jg lo no' w b ps
 |.nil,_,h=>h
 |.node _ _ a .nil n,ps,⟨k,vp,vv,vi,qs,e,hl,hh,ha,hn⟩=>⟨k,vp,vv,vi,qs,e,hl,hh,ha,jg.shun d hn⟩
 |.node _ _ a (.node _ _ _ t e) n,ps,⟨k,vp,vv,vi,vt,ve,qt,qe,qs,e1,hl,hh,ha,⟨ht1,ht3,ht2⟩,⟨he1,he3,he2⟩,hn⟩=>by
  have out:∀{v:Value}{q:List Value},w.ownsRow lo 245 1 v q.length q->(∀j,v.ownBlock=some j->no≠some j)->∀j,v.ownBlock=some j->no'≠some j:=by intro v q h1 l j f m;have g:=jo h1 j f;have i:=kq9 h1 j f;grind
  exact⟨k,vp,vv,vi,vt,ve,qt,qe,qs,e1,hl,hh,ha,⟨ht1,out ht1 ht3,jg.shun d ht2⟩,⟨he1,out he1 he3,jg.shun d he2⟩,jg.shun d hn⟩
theorem not_row(hv:w.ownsRow base e size v n xs)(i:w.heap[k]?=some (.cells cs a7 fr))(f:a7≠e):some k≠v.ownBlock:=by
 intro d;obtain⟨rfl,_⟩|⟨g,cap,cur,rfl,_,h,_⟩:=hv.2
 ·simp[Value.ownBlock]at d
 grind [Value.ownBlock]
theorem yw.grown{lo base e:Nat}{w w':World}{v:Value}{n:Nat}{xs:List Value}(hv:w.ownsRow base e 1 v n xs)(d:242≠e)(f:w.grownBy w' v.ownBlock):∀{x:PX}{p:Value},yw lo w x p->yw lo w' x p
 |.nil,_,h=>h
 |.node _ _ _ _ _,_,⟨k,va,vb,e1,hn,hh,ha,hb⟩=>⟨k,va,vb,e1,hn,by rw[f.block k (wQ hh) (not_row hv hh d)];exact hh,yw.grown hv d f ha,yw.grown hv d f hb⟩
theorem jg.kept{d8:PB}(h:jg lo no w d8 xs)(e:Kept R w w')(hR:R<lo):jg lo no w' d8 xs:=h.stay λk h1 d=>e.block k d aj
theorem jr(h:w.ownsRow lo e size v n xs)(f:Kept R w w')(hR:R<lo):w'.ownsRow lo e size v n xs:=xg (λk h1 d=>f.block k d aj) h
structure PS (L:List Tok)(st:RS)(r:PR):Prop where
 lt:st.v<L.length
 nlo:-(st.v:Int)<=st.nest
 nhi:st.nest<=12
 M:st.s=false->r.failed=false/\r.Y=st.v/\r.depth=st.nest/\r.N=0
 s:st.s=true->r.failed=true/\r.Y=L.length-1/\r.N=(tk L st.v).v
def Pd(w:World)(P:Nat)(v:Value)(L:List Tok)(st:RS):Prop:=∃r,Pw w P v L r/\PS L st r
theorem Pd.below(h:Pd w P v L st)(e:oq w w'):Pd w' P v L st:=by have⟨r,h1,d⟩:=h;exact⟨r,h1.below e,d⟩
theorem Pd.setOther(h:Pd w P v L st)(e:∀g,v.ownBlock=some g->g<B)(f:P<B)(i:B<=p.block)(u:Value):Pd (w.setCell p u) P v L st:=by have⟨r,h1,d⟩:=h;exact⟨r,h1.setOther e f i u,d⟩
theorem Pd.same(h:Pd w P v L st)(e:w'.heap[P]?=w.heap[P]?)(f:w'.ownsRow 0 194 2 v L.length (kjq L)):Pd w' P v L st:=by have⟨r,h1,d⟩:=h;exact⟨r,⟨by rw[e];exact h1.pd,f,h1.ne,h1.ok,h1.lt⟩,d⟩
theorem Pd.xu(h:Pd w P v L st):w.ownsRow 0 194 2 v L.length (kjq L):=by have⟨r,h1,d⟩:=h;exact h1.xu
theorem Pd.in(h:Pd w P v L st):P<w.heap.size:=by have⟨r,h1,d⟩:=h;exact wQ h1.pd
theorem Pd.ok(h:Pd w P v L st):kq6 L:=by have⟨r,h1,d⟩:=h;exact h1.ok
theorem Pd.lt(h:Pd w P v L st):st.v<L.length:=by have⟨r,h1,d⟩:=h;exact d.lt
theorem xzu:∀l∈lits,(([]:List UInt8)==l)=false:=ak
theorem zxj:∀l∈lits,(l==([]:List UInt8))=false:=ak
theorem PS.is(h:PS L st r)(d:kq6 L)(e:l∈lits):isR L l r=zk L l st:=by
 unfold isR zk qqb;cases hb:st.s
 ·rw[(h.M hb).2.1];exact(d.ok _ h.lt).lit l e
 ·rw[(h.s hb).2.1,d.lastText,xzu l e];rfl
theorem PS.y(h:PS L st r)(d:kq6 L):nameB L r=kqf L mX st:=by
 unfold nameB kqf;cases hb:st.s
 ·rw[(h.M hb).2.1,(d.ok _ h.lt).y];rfl
 ·have:kzq (tk L<|L.length-1).x 0=false:=qy3 (toList_empty (by rw[d.lastText];rfl));rw[(h.s hb).2.1,this];rfl
theorem PS.digit(h:PS L st r)(d:kq6 L):kzx (tk L r.Y).x 0=kqf L mW st:=by
 unfold kqf;cases hb:st.s
 ·rw[(h.M hb).2.1,(d.ok _ h.lt).digit];rfl
 ·have:kzx (tk L<|L.length-1).x 0=false:=qy3 (toList_empty (by rw[d.lastText];rfl));rw[(h.s hb).2.1,this];rfl
theorem PS.fail(h:PS L st r):PS L {st with s:=true} (kv9 L r):=by
 refine⟨h.lt,h.nlo,h.nhi,λhb=>by simp_all,λ_=>⟨rfl,rfl,?_⟩⟩;unfold kv9;cases hb:st.s
 ·rw[(h.M hb).1,(h.M hb).2.1];rfl
 ·rw[(h.s hb).1,(h.s hb).2.2];rfl
theorem PS.E(h:PS L st r)(hb:st.s=false)(e:st.v+1<L.length):PS L {st with v:=st.v+1} {r with Y:=r.Y+1}:=by have ⟨g1,d,g3,g4⟩:=h.M hb;exact⟨e,by have:=h.nlo;grind,h.nhi,λ_=>⟨g1,by simp[d],g3,g4⟩,λf=>by simp_all⟩
def zze(L:List Tok)(l:List UInt8)(st:RS):RS:=if zk L l st then {st with v:=st.v+1} else st
def zkg(L:List Tok)(l:List UInt8)(st:RS):RS:=if zk L l st then {st with v:=st.v+1} else {st with s:=true}
theorem kz9(d:kq6 L)(e:st.v<L.length)(h:zk L l st=true):st.s=false/\st.v+1<L.length:=by
 unfold zk qqb at h;simp only[rG,Q8,QD]at h;have f:((tk L st.v).t.toList==nG)=false:=by grind
 exact⟨h.1.1,d.fin e (by rw[(d.ok _ e).fin];exact f)⟩
theorem PS.acc(h:PS L st r)(d:kq6 L)(e:l∈lits):PS L (zze L l st) (jzb L l r):=by
 unfold zze jzb;rw[h.is d e];cases hn:zk L l st
 ·exact h
 ·have:=kz9 d h.lt hn;exact h.E this.1 this.2
theorem PS.exp(h:PS L st r)(d:kq6 L)(e:l∈lits):PS L (zkg L l st) (qq1 L l r):=by
 unfold zkg qq1;rw[h.is d e];cases hn:zk L l st
 ·exact h.fail
 ·have:=kz9 d h.lt hn;exact h.E this.1 this.2
theorem kzo(d:opens l=false)(e:shuts l=false):qg L l st=zkg L l st:=by grind [qg,zkg,zk,qqb]
theorem PS.depth(h:PS L st r)(hb:st.s=true)(d:Int):PS L st {r with depth:=d}:=
 ⟨h.lt,h.nlo,h.nhi,(λe=>by simp_all),λe=>h.s e⟩
theorem PS.open(h:PS L st r)(d:kq6 L)(f:l∈lits)(j:opens l=true)(t:-1000<=r.depth->r.depth<=1000->hi=r.depth+1):PS L (qg L l st) (jkb L l hi r):=by
 have i:=d.T;have s:=h.nlo;have q:=h.nhi;unfold qg jkb;rw[j];cases hb:st.s
 ·have ⟨g1,g,g3,g4⟩:=h.M hb;rw[g3];cases m:(st.nest==12)
  ·cases hn:zk L l st
   ·have e:qq1 L l r=kv9 L r:=by unfold qq1;rw[h.is d f,hn];rfl
    simp only[JD,Jg,Xw,ru,Xv];rw[e];exact(h.fail).depth rfl hi
   ·have e:qq1 L l r={r with Y:=r.Y+1}:=by unfold qq1;rw[h.is d f,hn];rfl
    have k:=kz9 d h.lt hn;simp only[JV,Jr,Qg,ru,Xv,Xw];rw[e];exact⟨k.2,by grind,by grind,λ_=>⟨g1,by simp[g],by grind,g4⟩,λp=>by simp_all⟩
  ·simp only[Jh,Js,Xw];exact h.fail
 ·rw[kqk hb];simp only[JD,Jg,Xw];have e:qq1 L l r=kv9 L r:=by unfold qq1;rw[h.is d f,kqk hb];rfl
  rw[e];have h1:=h.fail;split
  ·exact h1
  ·exact h1.depth rfl hi
theorem PS.shut(h:PS L st r)(d:kq6 L)(f:l∈lits)(k:opens l=false)(g:shuts l=true)(s:-1000<=r.depth->r.depth<=1000->hi=r.depth-1):PS L (qg L l st) {qq1 L l r with depth:=hi}:=by
 have j:=d.T;have q:=h.nlo;have p:=h.nhi;unfold qg;rw[k,g];cases hb:st.s
 ·have ⟨g1,i,g3,g4⟩:=h.M hb;cases hn:zk L l st
  ·have e:qq1 L l r=kv9 L r:=by unfold qq1;rw[h.is d f,hn];rfl
   simp only[JD,Jg,Xw];rw[e];exact(h.fail).depth rfl hi
  ·have e:qq1 L l r={r with Y:=r.Y+1}:=by unfold qq1;rw[h.is d f,hn];rfl
   have g:=kz9 d h.lt hn;simp only[JV,QJ,Qg,ru,Xv,Xw];rw[e];exact⟨g.2,by grind,by grind,λ_=>⟨g1,by simp[i],by grind,g4⟩,λm=>by simp_all⟩
 ·rw[kqk hb];simp only[JD,Jg,Xw];have e:qq1 L l r=kv9 L r:=by unfold qq1;rw[h.is d f,kqk hb];rfl
  rw[e];exact h.fail.depth rfl hi
theorem qzj(l:List UInt8)(f:l∈lits)(h:Pd w P v L st):og 89 #[pT P,.string ⟨l.toArray⟩] w λe w'=>rT e (.bool<|zk L l st)/\Pd w' P v L st/\Kept P w w':=by
 have⟨r,h1,d⟩:=h;refine(vwb ⟨l.toArray⟩ h1).mono λe w' ⟨a,b⟩=>⟨?_,⟨r,h1.below b,d⟩,.of_below b⟩
 rw[a,<-d.is h1.ok f];unfold isR;simp
theorem kxm(l:List UInt8)(d:l∈lits)(h:Pd w P v L st):og 205 #[pT P,.string ⟨l.toArray⟩] w λe w'=>rT e (.bool<|zk L l st)/\Pd w' P v L (zze L l st)/\Kept P w w':=by
 have⟨r,h1,f⟩:=h;refine(jzc ⟨l.toArray⟩ h1 (by rw[jh l];exact zxj l d)).mono λe w' ⟨a,b,c⟩=>⟨?_,⟨_,b,?_⟩,c⟩
 ·rw[a,jh l,f.is h1.ok d]
 ·rw[jh l];exact f.acc h1.ok d
theorem kjb(l:List UInt8)(d:l∈lits)(g:opens l=false)(i:shuts l=false)(h:Pd w P v L st):og 201 #[pT P,.string ⟨l.toArray⟩] w λe w'=>rT e (.tuple #[])/\Pd w' P v L (qg L l st)/\Kept P w w':=by
 have⟨r,h1,f⟩:=h;refine(zjf (s:=⟨l.toArray⟩) h1 (by rw[jh l];exact zxj l d)).mono λe w' ⟨a,b,c⟩=>⟨a,⟨_,b,?_⟩,c⟩
 rw[jh l,kzo g i];exact f.exp h1.ok d
theorem qwr(l:List UInt8)(f:l∈lits)(j:opens l=true)(h:Pd w P v L st):og 204 #[pT P,.string ⟨l.toArray⟩] w λe w'=>rT e (.tuple #[])/\Pd w' P v L (qg L l st)/\Kept P w w':=by
 have⟨r,h1,g⟩:=h;refine(open_any ⟨l.toArray⟩ h1 (by rw[jh l];exact zxj l f)).mono λe w' ⟨a,⟨d,b,i⟩,c⟩=>⟨a,⟨_,b,?_⟩,c⟩
 rw[jh l];exact g.open h1.ok f j i
theorem qxi(l:List UInt8)(f:l∈lits)(j:opens l=false)(k:shuts l=true)(h:Pd w P v L st):og 206 #[pT P,.string ⟨l.toArray⟩] w λe w'=>rT e (.tuple #[])/\Pd w' P v L (qg L l st)/\Kept P w w':=by
 have⟨r,h1,g⟩:=h;refine(pvn ⟨l.toArray⟩ h1 (by rw[jh l];exact zxj l f)).mono λe w' ⟨a,⟨d,b,i⟩,c⟩=>⟨a,⟨_,b,?_⟩,c⟩
 rw[jh l];exact g.shut h1.ok f j k i
theorem PS.t(h:PS L st r)(e:kq6 L){k:List UInt8}(f:(k==nG)=false)(hb:a3=kqf L k st):PS L (zq L k st).2 (if a3 then {r with Y:=r.Y+1} else kv9 L r)/\(if a3 then tk L r.Y else zh)=(zq L k st).1:=by
 subst hb;unfold zq;cases hn:kqf L k st
 ·exact⟨h.fail,rfl⟩
 ·have h1:=hn;unfold kqf at h1;simp only[rG,QD]at h1;have d:=h1.2;rw[su]at d;refine⟨h.E h1.1 (e.fin h.lt (by rw[(e.ok _ h.lt).fin,d];exact f)),?_⟩;simp only[Xw];rw[(h.M h1.1).2.1]
theorem kxs(h:Pd w P v L st):og 202 #[pT P] w λe w'=>rT e (ptV (zq L mX st).1)/\Pd w' P v L (zq L mX st).2/\Kept P w w':=by have⟨r,h1,d⟩:=h;have f:=d.t h1.ok (k:=mX) rfl<|d.y h1.ok;exact(name_any h1).mono λe w' ⟨a,b,c⟩=>⟨by rw[a,<-f.2];rfl,⟨_,b,f.1⟩,c⟩
theorem zv7(h:Pd w P v L st):og 203 #[pT P] w λe w'=>rT e (dgV (zq L mW st).1)/\Pd w' P v L (zq L mW st).2/\Kept P w w':=by have⟨r,h1,d⟩:=h;have f:=d.t h1.ok (k:=mW) rfl<|d.digit h1.ok;exact(vvf h1).mono λe w' ⟨a,b,c⟩=>⟨by rw[a,<-f.2];rfl,⟨_,b,f.1⟩,c⟩
theorem pyo(h:Pd w P v L st):og 90 #[pT P] w λe w'=>rT e (.tuple #[])/\Pd w' P v L {st with s:=true}/\Kept P w w':=by have⟨r,h1,d⟩:=h;exact(qkt h1).mono λe w' ⟨a,b,c⟩=>⟨a,⟨_,b,d.fail⟩,c⟩
end Go.Proofs.YtpmcnonmkghokaaGreatDoor

import Derived.Test.YtpmcnonmkghokaaGreatDoorRows
import Derived.WalkKit
import Derived.WalkSpells
import Derived.WalkLawsBesides
import Derived.Deep.QuietTactic
import Derived.BigQuiet
import Derived.Deep.Trees
import Derived.BigRegion
import Derived.Lib.Strings
import Derived.Lib.Slices
import Derived.Lib.Walk
import Derived.Lib.Bytealg
import Derived.OwnWalk
set_option maxHeartbeats 1000000
set_option maxRecDepth 100000
set_option linter.unusedVariables false
set_option linter.unusedSimpArgs false
namespace Go.Proofs
open Go Go.RowKit
abbrev wz:=@List.setIfInBounds_toArray
abbrev wu:=@List.set_cons_succ
abbrev wQ:=@List.set_cons_zero
abbrev wJ:=@Option.bind_eq_some_iff
abbrev wZ:=@lt_of_block
abbrev wX:=@Nat.le_refl
abbrev wW:=@List.getElem?_eq_getElem
abbrev wY:=@List.getElem_mem
abbrev wU:=@List.mem_append_left
abbrev wG:=@Bool.and_eq_true
abbrev wP:=@Below.heap_setCell
abbrev wC:=@bodyPost_ret
abbrev wB:=@List.length_append
abbrev ru:=@results_cell_row
abbrev rQ:=@Nat.le_trans
abbrev rJ:=@List.mem_cons_of_mem
abbrev rZ:=@beq_iff_eq
abbrev rV:=@List.mem_append_right
abbrev rW:=@World.ownsRow_nil
abbrev rY:=@List.mem_cons_self
abbrev rU:=@List.getElem?_append_right
abbrev rG:=@Nat.zero_le
abbrev rP:=@List.getElem_of_mem
abbrev rD:=@Classical.byContradiction
abbrev rC:=@List.mem_append
abbrev rM:=@List.drop_eq_getElem_cons
abbrev tu:=@Option.map_eq_some_iff
abbrev tJ:=@Bool.false_eq_true
abbrev tZ:=@World.size_alloc
abbrev tX:=@List.mem_cons
abbrev tK:=@List.append_assoc
abbrev tV:=@List.mem_flatMap
abbrev tY:=@List.mem_singleton
abbrev tC:=@List.mem_map_of_mem
abbrev su:=@List.mem_map
abbrev sQ:=@frozen_of_row
abbrev sJ:=@List.map_append
abbrev sZ:=@List.getElem?_cons_zero
abbrev sV:=@List.getElem?_cons_succ
abbrev sW:=@List.getElem?_map
abbrev sU:=@cell_of_row
abbrev sG:=@List.eq_nil_of_length_eq_zero
abbrev sD:=@beq_eq_false_iff_ne
abbrev ny:=@decide_eq_true
abbrev ng:=@List.all_eq_true
abbrev ni:=@List.length_map
abbrev nJ:=@List.getD_eq_getElem?_getD
abbrev nZ:=@List.getElem?_eq_none
abbrev nX:=@List.length_cons
abbrev nK:=@List.getElem?_eq_some_iff
abbrev nV:=@List.drop_length
abbrev nY:=@Below.heap_alloc
abbrev nU:=@List.mem_of_getElem?
abbrev nG:=@decide_eq_true_eq
abbrev nP:=@Nat.add_zero
abbrev nD:=@List.take_succ_eq_append_getElem
abbrev nC:=@wpList_append_own_at
abbrev nM:=@List.not_mem_nil
abbrev lq:=@List.append_nil
abbrev lu:=@List.getElem_append_left
abbrev lg:=@List.getElem?_take_of_lt
abbrev lQ:=@Bool.not_eq_true'
abbrev lJ:=@List.map_cons
abbrev lZ:=@Nat.lt_of_lt_of_le
abbrev lX:=@List.getElem?_append_left
abbrev lK:=@Option.bind_some
abbrev lV:=@List.flatMap_append
abbrev lW:=@Bool.or_false
abbrev lY:=@Bool.or_eq_true
abbrev lU:=@Nat.zero_add
abbrev lG:=@List.foldl_append
abbrev lD:=@List.flatMap_cons
abbrev lC:=@List.append_eq_nil_iff
abbrev lM:=@Nat.mul_one
abbrev l9:=@List.any_eq_true
abbrev fQ:=@World.cell?_of_block
abbrev fJ:=@List.take_append_of_le_length
abbrev fZ:=@cell_later
abbrev fG:=@List.getElem_cons_zero
abbrev fP:=@Array.getElem?_eq_none
abbrev fD:=@List.nil_append
abbrev fC:=@Bool.false_and
abbrev fB:=@Option.getD_some
abbrev Qq:=@List.take_length
abbrev Qj:=@IntKind.wrap_i64
abbrev Qz:=@List.map_map
abbrev Qx:=@Bool.false_or
abbrev Qk:=@Nat.lt_or_ge
abbrev Qv:=@run_underlying
abbrev Qw:=@Option.map_some
abbrev Qy:=@List.mem_filter
abbrev Qu:=@Array.getElem?_setIfInBounds
abbrev Qg:=@Nat.le_of_lt
abbrev Qp:=@List.nodup_append
abbrev Qd:=@List.getElem_cons_succ
abbrev Qc:=@List.drop_of_length_le
abbrev Qb:=@List.nodup_cons
abbrev Qm:=@List.pairwise_iff_getElem
abbrev Qh:=@List.length_singleton
abbrev Qr:=@Bool.true_and
abbrev Qn:=@Array.length_toList
abbrev Ql:=@List.take_of_length_le
abbrev Qs:=@List.any_cons
abbrev Qo:=@List.length_take
abbrev Qa:=@List.getElem_map
abbrev Qe:=@List.cons_append
abbrev Qi:=@List.getElem?_drop
abbrev QJ:=@List.length_replicate
abbrev QZ:=@List.sublist_append_right
abbrev QX:=@List.length_nil
abbrev QK:=@Int.toNat_natCast
abbrev QV:=@List.length_reverse
abbrev QW:=@List.mem_range
abbrev QY:=@Bool.true_or
abbrev QU:=@List.pairwise_append
abbrev QG:=@Bool.or_eq_false_iff
abbrev QD:=@Bool.not_false
abbrev QC:=@List.map_flatMap
abbrev QB:=@Array.getElem?_eq_getElem
abbrev QM:=@List.take_left'
abbrev Q5:=@List.foldl_cons
abbrev Q7:=@List.pairwise_cons
abbrev Q8:=@Array.toList_push
abbrev Q9:=@Array.contains_iff_mem
abbrev Jq:=@List.take_append_drop
abbrev Jj:=@List.filter_cons
abbrev Jz:=@Bool.or_assoc
abbrev Jk:=@List.drop_append_of_le_length
abbrev Jv:=@List.length_set
abbrev Jw:=@Int.emod_nonneg
abbrev Jy:=@List.drop_succ_cons
abbrev Ju:=@Int.toNat_of_nonneg
abbrev Jg:=@Array.toList_filter
abbrev Jp:=@Array.toList_append
abbrev Jd:=@Bool.or_true
abbrev Jc:=@List.nodup_nil
abbrev Jb:=@Int.tmod_eq_emod_of_nonneg
abbrev Jm:=@Bool.and_false
abbrev Jh:=@Array.toList_setIfInBounds
abbrev Jt:=@ByteArray.getElem_extract
abbrev Jr:=@World.drewN_drewN
abbrev Jl:=@List.filter_congr
abbrev Js:=@List.sublist_append_left
abbrev Jf:=@List.nil_sublist
abbrev Jo:=@List.append_inj'
abbrev Ja:=@Bool.toNat_false
abbrev Je:=@List.any_nil
abbrev Ji:=@Bool.or_self
abbrev JQ:=@List.contains_iff_mem
abbrev JJ:=@ByteArray.data_append
abbrev JZ:=@Array.getElem?_toList
abbrev JX:=@List.drop_left
abbrev JK:=@List.map_eq_flatMap
abbrev JV:=@List.filter_sublist
abbrev JW:=@Bool.not_true
abbrev JY:=@Nat.add_sub_cancel
abbrev JU:=@Int.emod_lt_of_pos
abbrev JG:=@Bool.false_ne_true
abbrev JD:=@List.pairwise_map
abbrev JC:=@List.getElem_take
abbrev JB:=@List.ext_getElem?
abbrev JM:=@List.countP_cons
abbrev J3:=@Nat.min_eq_left
abbrev J4:=@List.range_succ
abbrev J5:=@List.filter_map
abbrev J6:=@List.take_take
abbrev J7:=@List.exists_mem_of_ne_nil
abbrev J8:=@Nat.add_assoc
abbrev J9:=@List.map_take
abbrev Zq:=@Bool.and_true
abbrev Zj:=@Array.setIfInBounds_comm
abbrev Zz:=@List.pairwise_singleton
abbrev Zx:=@Int.eq_ofNat_of_zero_le
abbrev Zk:=@Nat.add_comm
abbrev Zv:=@List.map_nil
abbrev Zw:=@List.length_pos_of_mem
abbrev Zy:=@List.length_filter_le
abbrev Zu:=@List.contains_toArray
abbrev Zg:=@Array.getElem?_modify
abbrev Zp:=@List.mem_of_mem_drop
abbrev Zd:=@Array.getElem_toList
abbrev Zc:=@Nat.mul_le_mul_left
abbrev Zb:=@List.getElem?_range
abbrev Zm:=@List.filter_eq_self
abbrev Zh:=@ByteArray.toList_eq
end Go.Proofs
namespace Go.Proofs.YtpmcnonmkghokaaGreatDoor
open Go.RowKit
theorem hide {p:Prop}(h:p):Hid p:=h
theorem ku {p:Prop}(h:Hid p):p:=h
theorem getD_at {α:Type}(l:List α)(k:Nat)(d:α)(h:k<l.length):l.getD k d=l[k]:=by
 simp[List.getD,h]
theorem jo {a b:Bool}(h:a=b):Ending.returned (.bool a)=.returned (.bool b):=by rw[h]
theorem kvv {k:IntKind}{a b:Int}(h:a=b):Ending.returned (.int k a)=.returned (.int k b):=by rw[h]
theorem row3 {w:World}{b:Nat}{x y z:Value}{t:TypeId}(h:w.heap[b]?=some (.cells #[x,y,z] t (0,0))) :
  w.cell? ⟨b,0,none⟩=some x∧w.cell? ⟨b,1,none⟩=some y∧w.cell? ⟨b,2,none⟩=some z∧w.frozen? ⟨b,0,none⟩=false∧w.frozen? ⟨b,1,none⟩=false∧w.frozen? ⟨b,2,none⟩=false:=
 ⟨by rw[sU w b 0 _ _ _ h];rfl,by rw[sU w b 1 _ _ _ h];rfl,by rw[sU w b 2 _ _ _ h];rfl,sQ w b 0 _ _ h,sQ w b 1 _ _ h,sQ w b 2 _ _ h⟩
def inB (lo hi:Int)(s:ByteArray)(i:Nat):Bool:=if h:i<s.size then decide (lo≤((s[i]).toNat:Int))&&decide (((s[i]).toNat:Int)≤hi) else false
def kz3 (s:ByteArray)(i:Nat):Bool:=inB 97 122 s i
def kjo (s:ByteArray)(i:Nat):Bool:=inB 48 57 s i
theorem qwv {lo hi:Int}{s:ByteArray}{i:Nat}(h:¬i<s.size):inB lo hi s i=false:=by simp[inB,h]
def kk3:Nat→ByteArray→Nat→Nat
 | 0,_,i=>i
 | f+1,s,i=>if kz3 s i then kk3 f s (i+1) else i
theorem jky {s:ByteArray}{i:Nat}(h:kz3 s i=true):i<s.size:=by
 unfold kz3 inB at h;by_cases hh:i<s.size
 ·exact hh
 ·simp[hh] at h
theorem zv0 {s:ByteArray}{n:Nat}(hn:kz3 s n=false):∀ (f k:Nat),k≤n→n-k<f→(∀ j,k≤j→j<n→kz3 s j=true)→kk3 f s k=n
 | 0,k,_,h,_=>by omega
 | f+1,k,hk,h,hall=>by
  rw[kk3];by_cases e:k=n
  ·subst e;simp[hn]
  ·rw[if_pos (hall k (wX _) (by omega))];exact zv0 hn f (k+1) (by omega) (by omega) (fun j h1 h2=>hall j (by omega) h2)
def qvp:List ByteArray:=[⟨#[115,101,116]⟩,⟨#[107,105,110,100]⟩,⟨#[118,97,114]⟩,⟨#[98,111,111,108]⟩,⟨#[116,111]⟩,⟨#[114,117,108,101]⟩,⟨#[105,102]⟩,⟨#[101,108,115,101]⟩,⟨#[110,101,118,101,114]⟩,⟨#[116,114,117,101]⟩,⟨#[102,97,108,115,101]⟩,⟨#[110,111,110,101]⟩]
def qki (s:ByteArray):Bool:=qvp.any (fun t=>t.toList==s.toList)
structure Tok where
 kind:ByteArray
 text:ByteArray
 at_:Nat
def jkc:ByteArray:=⟨#[119,111,114,100]⟩
def zkk:ByteArray:=⟨#[110,97,109,101]⟩
def qj6:ByteArray:=⟨#[100,105,103,105,116]⟩
def jqx:ByteArray:=⟨#[115,105,103,110]⟩
def vv0:ByteArray:=⟨#[101,110,100]⟩
def zkx:ByteArray:=⟨#[]⟩
def zqd:ByteArray:=⟨#[40,41,91,93,123,125,58,59,44,33,38,124,43,45,60,61]⟩
def qkh (s:ByteArray)(k:Nat):Bool:=decide (k+1<s.size)&&((s.extract k (k+2)).toList==[61,61]||(s.extract k (k+2)).toList==[33,61])
def qkn (s:ByteArray)(k:Nat):Bool:=zqd.toList.any (fun c=>c.toNat==(s.get! k).toNat)
def xg (s:ByteArray)(k:Nat):Tok:=
 if kz3 s k then
  let t:=s.extract k (kk3 801 s k)
  { kind:=if qki t then jkc else zkk,text:=t,at_:=k }
 else if kjo s k then { kind:=if kjo s (k+1) then zkx else qj6,text:=s.extract k (k+1),at_:=k }
 else if qkh s k then { kind:=jqx,text:=s.extract k (k+2),at_:=k }
 else { kind:=if qkn s k then jqx else zkx,text:=s.extract k (k+1),at_:=k }
def qzu (s:ByteArray)(k:Nat):Bool:=if h:k<s.size then (((s[k]).toNat:Int)==32)||(((s[k]).toNat:Int)==10) else false
def kzw (n:Nat):Tok:={ kind:=vv0,text:=⟨#[]⟩,at_:=n }
def kw7:Nat→ByteArray→Nat→List Tok→List Tok × Option Nat
 | 0,_,k,acc=>(acc,some k)
 | f+1,s,k,acc=>
  if k<s.size then
   if qzu s k then kw7 f s (k+1) acc
   else if (xg s k).kind.toList.isEmpty then (acc,some k)
   else kw7 f s (k+(xg s k).text.size) (acc++[xg s k])
  else (acc++[kzw s.size],none)
def dw (s:ByteArray):List Tok × Option Nat:=kw7 801 s 0 []
theorem extract_size (s:ByteArray)(a b:Nat)(h:b≤s.size):(s.extract a b).size=b-a:=by
 rw[ByteArray.size_extract];omega
theorem qzn (s:ByteArray):∀ (f k:Nat),k≤s.size→k≤kk3 f s k∧kk3 f s k≤s.size
 | 0,k,h=>⟨wX _,h⟩
 | f+1,k,h=>by
  rw[kk3];split
  ·rename_i hl;have:=jky hl;have:=qzn s f (k+1) (by omega);omega
  ·omega
theorem qk2 (s:ByteArray)(k:Nat)(hk:k<s.size):1≤(xg s k).text.size∧k+(xg s k).text.size≤s.size:=by
 unfold xg;split
 ·rename_i hl;have h1:=qzn s 800 (k+1) (by omega);have h2:kk3 801 s k=kk3 800 s (k+1):=by rw[kk3,if_pos hl]
  show 1≤(s.extract k (kk3 801 s k)).size∧k+(s.extract k (kk3 801 s k)).size≤s.size;rw[extract_size _ _ _ (by omega)];omega
 ·split
  ·show 1≤(s.extract k (k+1)).size∧k+(s.extract k (k+1)).size≤s.size;rw[extract_size _ _ _ (by omega)];omega
  ·split
   ·rename_i h2;unfold qkh at h2;simp at h2;show 1≤(s.extract k (k+2)).size∧k+(s.extract k (k+2)).size≤s.size;rw[extract_size _ _ _ (by omega)];omega
   ·show 1≤(s.extract k (k+1)).size∧k+(s.extract k (k+1)).size≤s.size;rw[extract_size _ _ _ (by omega)];omega
theorem kqz (w:World)(b:Nat)(cs:List Value)(t:TypeId)(hb:w.heap.size=b):∀ j u,cs[j]?=some u→(w.alloc (.cells cs.toArray t)).cell? ((⟨b,0,none⟩:Addr).add j)=some u:=by
 intro j u h;subst hb;have hh:=heap_alloc_new w (.cells cs.toArray t);rw[show ((⟨w.heap.size,0,none⟩:Addr).add j)=⟨w.heap.size,j,none⟩ from by simp[Addr.add];intro h;exact h.symm,sU _ _ _ _ _ _ hh];simpa using h
theorem zwg {f:Nat}{s:ByteArray}{k:Nat}{acc:List Tok}(hb:qzu s k=true)(hk:k<s.size):kw7 (f+1) s k acc=kw7 f s (k+1) acc:=by
 rw[kw7,if_pos hk,if_pos hb]
theorem jjc {f:Nat}{s:ByteArray}{k:Nat}{acc:List Tok}(hb:qzu s k=false)(hk:k<s.size)(hf:kw7 f s k acc=dw s) :
  ∀ g,f=g+1→((xg s k).kind.toList.isEmpty=true→dw s=(acc,some k))∧((xg s k).kind.toList.isEmpty=false→kw7 g s (k+(xg s k).text.size) (acc++[xg s k])=dw s):=by
 intro g hg;subst hg;rw[kw7,if_pos hk,hb] at hf;constructor
 ·intro h;rw[h] at hf;simpa using hf.symm
 ·intro h;rw[h] at hf;simpa using hf
theorem qj {w w':World}{base e size:Nat}{v:Value}{n:Nat}{xs:List Value}(h:w.ownsRow base e size v n xs)(hb:Below w.heap.size w w'):w'.ownsRow base e size v n xs:=by
 obtain ⟨h1,h2⟩:=h;refine ⟨h1,?_⟩;rcases h2 with h2|⟨g,cap,cur,hv,hg,hh,r⟩
 ·exact Or.inl h2
 ·exact Or.inr ⟨g,cap,cur,hv,hg,by rw[hb.block g (wZ hh)];exact hh,r⟩
theorem vg {w:World}{base e size:Nat}{v:Value}{n:Nat}{xs:List Value}(h:w.ownsRow base e size v n xs):∀ k,v.ownBlock=some k→base≤k:=by
 intro k hk;rcases h.2 with ⟨rfl,_⟩|⟨g,cap,cur,rfl,hg,_⟩
 ·simp[Value.ownBlock] at hk
 ·simp[Value.ownBlock] at hk;omega
theorem kqs {w:World}{base e size:Nat}{v:Value}{n:Nat}{xs:List Value}(h:w.ownsRow base e size v n xs):∀ k,v.ownBlock=some k→k<w.heap.size:=by
 intro k hk;rcases h.2 with ⟨rfl,_⟩|⟨g,cap,cur,rfl,hg,hh,_⟩
 ·simp[Value.ownBlock] at hk
 ·simp[Value.ownBlock] at hk;subst hk;exact wZ hh
structure RS where
 at_:Nat
 nest:Int
 bad:Bool
def tk (L:List Tok)(k:Nat):Tok:=L.getD k (kzw 0)
structure Kept (R:Nat)(w w':World):Prop where
 os:w'.os=w.os
 tape:w'.tape=w.tape
 output:w'.output=w.output
 size:w.heap.size≤w'.heap.size
 block:∀ k,k<w.heap.size→k≠R→w'.heap[k]?=w.heap[k]?
theorem Kept.refl (R:Nat)(w:World):Kept R w w:=⟨rfl,rfl,rfl,wX _,fun _ _ _=>rfl⟩
theorem Kept.trans {R:Nat}{a b c:World}(h:Kept R a b)(k:Kept R b c):Kept R a c:=
 ⟨k.os.trans h.os,k.tape.trans h.tape,k.output.trans h.output,rQ h.size k.size,fun i hi hn=>(k.block i (lZ hi h.size) hn).trans (h.block i hi hn)⟩
theorem Kept.of_below {R:Nat}{w w':World}(h:Below w.heap.size w w'):Kept R w w':=⟨h.os,h.tape,h.output,h.size,fun k hk _=>h.block k hk⟩
theorem Kept.alloc {R:Nat}{a w:World}(h:Kept R a w)(o:Obj):Kept R a (w.alloc o):=h.trans (.of_below ((Below.refl _ _).alloc (wX _) o))
theorem Kept.drew {R:Nat}{a w:World}(h:Kept R a w):Kept R a w.drew:=⟨h.os,h.tape,h.output,h.size,h.block⟩
theorem Kept.kvc {R:Nat}{a w:World}(h:Kept R a w)(o:Nat)(u:Value):Kept R a (w.setCell ⟨R,o,none⟩ u):=
 h.trans ⟨rfl,rfl,rfl,by simp[World.setCell],fun k hk hn=>wP _ _ _ _ hn⟩
theorem Kept.jm {R:Nat}{a w:World}(h:Kept R a w){p:Addr}(hp:a.heap.size≤p.block)(u:Value):Kept R a (w.setCell p u):=
 ⟨h.os,h.tape,h.output,by simpa[World.setCell] using h.size,fun k hk hn=>by rw[wP _ _ _ _ (by omega)];exact h.block k hk hn⟩
theorem qvi {w w':World}{R base e size:Nat}{v:Value}{n:Nat}{xs:List Value}(h:w.ownsRow base e size v n xs)(hne:v.ownBlock≠some R)(hb:Kept R w w'):w'.ownsRow base e size v n xs:=by
 obtain ⟨h1,h2⟩:=h;refine ⟨h1,?_⟩;rcases h2 with h2|⟨g,cap,cur,rfl,hg,hh,r⟩
 ·exact Or.inl h2
 ·exact Or.inr ⟨g,cap,cur,rfl,hg,by rw[hb.block g (wZ hh) (fun e=>hne (by simp[Value.ownBlock,e]))];exact hh,r⟩
theorem qwm (w:World)(o:Obj):Below w.heap.size w (w.alloc o).drew:=((Below.refl _ _).alloc (wX _) _).drew
def qz4 (t:Tok)(s:List UInt8)(bad:Bool):Bool:=
 !bad&&(t.kind.toList==[115,105,103,110]||t.kind.toList==[119,111,114,100])&&(t.text.toList==s)
def zq (L:List Tok)(s:List UInt8)(st:RS):Bool:=qz4 (tk L st.at_) s st.bad
def opens (s:List UInt8):Bool:=s==[40]||s==[91]||s==[123]
def shuts (s:List UInt8):Bool:=s==[41]||s==[93]||s==[125]
def qp (L:List Tok)(s:List UInt8)(st:RS):RS:=
 if !zq L s st||(opens s&&st.nest==12) then { st with bad:=true }
 else { at_:=st.at_+1,nest:=if opens s then st.nest+1 else if shuts s then st.nest-1 else st.nest,bad:=false }
theorem qx6 (lo hi:Int)(s:ByteArray)(k i:Nat):inB lo hi (s.extract k s.size) i=inB lo hi s (k+i):=by
 unfold inB;by_cases h:k+i<s.size
 ·have h':i<(s.extract k s.size).size:=by rw[extract_size _ _ _ (wX _)];omega
  rw[dif_pos h,dif_pos h',Jt]
 ·have h':¬i<(s.extract k s.size).size:=by rw[extract_size _ _ _ (wX _)];omega
  rw[dif_neg h,dif_neg h']
theorem zq5 (s:ByteArray)(k:Nat):∀ f i,k+kk3 f (s.extract k s.size) i=kk3 f s (k+i)
 | 0,i=>rfl
 | f+1,i=>by
  rw[kk3,kk3,kz3,kz3,qx6];split
  ·exact zq5 s k f (i+1)
  ·rfl
theorem qx8 (s:ByteArray)(k i j:Nat)(h:k+j≤s.size):(s.extract k s.size).extract i j=s.extract (k+i) (k+j):=by
 rw[ByteArray.extract_extract,J3 h]
theorem jwp (s:ByteArray)(k:Nat)(h:k<s.size):(s.extract k s.size).get! 0=s.get! k:=by
 have hz:0<(s.extract k s.size).size:=by rw[extract_size _ _ _ (wX _)];omega
 have e:(s.extract k s.size)[0]'hz=s[k]:=by rw[Jt];rfl
 have a1:∀ (b:ByteArray) (i:Nat) (hb:i<b.size),b.get! i=b[i]:=fun b i hb=>getElem!_pos b.data i hb
 rw[a1 _ _ hz,a1 _ _ h,e]
theorem zwp (s:ByteArray)(k:Nat)(h:k<s.size):(xg (s.extract k s.size) 0).kind=(xg s k).kind∧(xg (s.extract k s.size) 0).text=(xg s k).text:=by
 have e1:kz3 (s.extract k s.size) 0=kz3 s k:=by rw[kz3,kz3,qx6];rfl
 have e2:kjo (s.extract k s.size) 0=kjo s k:=by rw[kjo,kjo,qx6];rfl
 have e3:kjo (s.extract k s.size) (0+1)=kjo s (k+1):=by rw[kjo,kjo,qx6]
 have e4:qkh (s.extract k s.size) 0=qkh s k:=by
  unfold qkh;by_cases h2:k+1<s.size
  ·rw[qx8 _ _ _ _ (by omega),extract_size _ _ _ (wX _),show decide (0+1<s.size-k)=true by simp;omega,show decide (k+1<s.size)=true by simp;omega,nP,lU]
  ·rw[extract_size _ _ _ (wX _),show decide (0+1<s.size-k)=false by simp;omega,show decide (k+1<s.size)=false by simp;omega,fC,fC]
 have e5:qkn (s.extract k s.size) 0=qkn s k:=by unfold qkn;rw[jwp s k h]
 have e6:=zq5 s k 801 0;have e7:=qzn s 801 k (by omega);unfold xg;rw[e1,e2,e3,e4,e5];have e8:(s.extract k s.size).extract 0 (kk3 801 (s.extract k s.size) 0)=s.extract k (kk3 801 s k):=by
  rw[qx8 _ _ _ _ (by rw[e6];exact e7.2),e6];rfl
 have e9:(s.extract k s.size).extract 0 (0+1)=s.extract k (k+1):=by rw[qx8 _ _ _ _ (by omega)];rfl
 split
 ·rw[e8];exact ⟨rfl,rfl⟩
 ·split
  ·rw[e9];exact ⟨rfl,rfl⟩
  ·split
   ·rename_i h4;have:k+1<s.size:=by unfold qkh at h4;simp at h4;exact h4.1
    rw[qx8 _ _ _ _ (by omega)];exact ⟨rfl,rfl⟩
   ·rw[e9];exact ⟨rfl,rfl⟩
def lits:List (List UInt8):=[[115,101,116],[107,105,110,100],[118,97,114],[98,111,111,108],[116,111],[114,117,108,101],[105,102],[101,108,115,101],[110,101,118,101,114],[116,114,117,101],[102,97,108,115,101],[110,111,110,101],
 [40],[41],[91],[93],[123],[125],[58],[59],[44],[33],[38],[124],[43],[45],[60],[61],[61,61],[33,61]]
def jxf (t:Tok):Bool:=(t.kind.toList==[115,105,103,110])||(t.kind.toList==[119,111,114,100])
structure qvw (t:Tok):Prop where
 name:(kz3 t.text 0&&!qki t.text)=(t.kind.toList==[110,97,109,101])
 digit:kjo t.text 0=(t.kind.toList==[100,105,103,105,116])
 lit:∀ l∈lits,(t.text.toList==l)=(jxf t&&(t.text.toList==l))
 fin:(t.text.toList==[])=(t.kind.toList==[101,110,100])
 size:t.text.size≤800
 word:kz3 t.text 0=((t.kind.toList==[119,111,114,100])||(t.kind.toList==[110,97,109,101]))
theorem kqv (b:ByteArray):b.toList=b.data.toList:=Zh b
theorem zh (l:List UInt8):(ByteArray.mk l.toArray).toList=l:=kqv _
theorem qzx (lo hi:Int)(b:ByteArray)(h:0<b.size):∃ c r,b.toList=c::r∧inB lo hi b 0=(decide (lo≤(c.toNat:Int))&&decide ((c.toNat:Int)≤hi)):=by
 have hl:b.data.toList≠[]:=fun e=>by
  have:b.data.size=0:=by rw[←Qn,e];rfl
  exact absurd (show b.size=0 from this) (by omega)
 obtain ⟨c,r,e⟩:=List.exists_cons_of_ne_nil hl;refine ⟨c,r,by rw[kqv,e],?_⟩;unfold inB;rw[dif_pos h];have:b[0]=c:=by
  show b.data[0]=c;rw[←Zd];simp[e]
 rw[this]
theorem vq3 (b:ByteArray):qki b=true↔b.toList∈qvp.map ByteArray.toList:=by
 unfold qki;rw[l9];constructor
 ·rintro ⟨x,hx,e⟩;rw[rZ] at e;rw[←e];exact tC hx
 ·intro h;obtain ⟨x,hx,e⟩:=su.mp h;exact ⟨x,hx,by rw[rZ];exact e⟩
theorem jwh (n:Nat):qvw (kzw n):=by
 have hk:(kzw n).kind.toList=[101,110,100]:=zh _;have ht:(kzw n).text.toList=[]:=zh _;have hz:(kzw n).text.size=0:=rfl;have hi:∀ lo hi,inB lo hi (kzw n).text 0=false:=fun lo hi=>by unfold inB;rw[dif_neg (by rw[hz];omega)]
 refine ⟨?_,?_,?_,?_,by rw[hz];omega,by rw[kz3,hi,hk];rfl⟩
 ·rw[kz3,hi,hk];rfl
 ·rw[kjo,hi,hk];rfl
 ·intro l hl;rw[ht];have:([]==l)=false:=by revert l;decide
  rw[this,Jm]
 ·rw[hk,ht];rfl
theorem vzi (lo hi:Int)(s:ByteArray)(k e:Nat)(h1:k<e)(h2:e≤s.size):inB lo hi (s.extract k e) 0=inB lo hi s k:=by
 unfold inB;rw[dif_pos (show k<s.size by omega),dif_pos (show 0<(s.extract k e).size by rw[extract_size _ _ _ h2];omega),Jt];rfl
theorem jwg {s:ByteArray}{k:Nat}(h:kz3 s k=true):kjo s k=false:=by
 unfold kz3 kjo inB at *;by_cases hk:k<s.size
 ·rw[dif_pos hk] at h ⊢;simp at h ⊢;omega
 ·rw[dif_neg hk] at h;cases h
theorem jwq:∀ l∈lits,∀ c r,l=c::r→(decide (97≤(c.toNat:Int))&&decide ((c.toNat:Int)≤122))=true→l∈qvp.map ByteArray.toList:=by
 have hw:qvp.map ByteArray.toList=[[115,101,116],[107,105,110,100],[118,97,114],[98,111,111,108],[116,111],[114,117,108,101],[105,102],[101,108,115,101],[110,101,118,101,114],[116,114,117,101],[102,97,108,115,101],[110,111,110,101]]:=by
  simp only[qvp,List.map,kqv]
 rw[hw];intro l hl c r e;subst e;simp only[lits,tX,List.cons.injEq,nM,or_false] at hl;rcases hl with h|h|h|h|h|h|h|h|h|h|h|h|h|h|h|h|h|h|h|h|h|h|h|h|h|h|h|h|h|h<;>(obtain ⟨rfl,rfl⟩:=h;decide)
theorem jzs:∀ l∈lits,∀ c r,l=c::r→(decide (48≤(c.toNat:Int))&&decide ((c.toNat:Int)≤57))=false:=by
 intro l hl c r e;subst e;simp only[lits,tX,List.cons.injEq,nM,or_false] at hl;rcases hl with h|h|h|h|h|h|h|h|h|h|h|h|h|h|h|h|h|h|h|h|h|h|h|h|h|h|h|h|h|h<;>(obtain ⟨rfl,rfl⟩:=h;decide)
theorem jyc (s:ByteArray)(k:Nat)(hk:k<s.size)(hs:s.size≤800)(hne:(xg s k).kind.toList.isEmpty=false):qvw (xg s k):=by
 have htx:=qk2 s k hk;have kW:jkc.toList=[119,111,114,100]:=kqv _;have kN:zkk.toList=[110,97,109,101]:=kqv _;have kD:qj6.toList=[100,105,103,105,116]:=kqv _;have kS:jqx.toList=[115,105,103,110]:=kqv _;have k0:zkx.toList=[]:=kqv _;have hcut:∀ lo hi,inB lo hi (xg s k).text 0=inB lo hi s k:=by
  intro lo hi;have:(xg s k).text=s.extract k (k+(xg s k).text.size):=by
   unfold xg;have e7:=qzn s 800 (k+1) (by omega);split
   ·rename_i hl;have h2:kk3 801 s k=kk3 800 s (k+1):=by rw[kk3,if_pos hl]
    simp only;rw[extract_size _ _ _ (by omega),show k+(kk3 801 s k-k)=kk3 801 s k by omega]
   ·split
    ·simp only;rw[extract_size _ _ _ (by omega),show k+(k+1-k)=k+1 by omega]
    ·split
     ·rename_i h2;have:k+1<s.size:=by unfold qkh at h2;simp at h2;exact h2.1
      simp only;rw[extract_size _ _ _ (by omega),show k+(k+2-k)=k+2 by omega]
     ·simp only;rw[extract_size _ _ _ (by omega),show k+(k+1-k)=k+1 by omega]
  rw[this];exact vzi _ _ _ _ _ (by omega) htx.2
 have hsz:(xg s k).text.size≤800:=by omega
 have hno:((xg s k).text.toList==[])=false:=by
  obtain ⟨c,r,e,_⟩:=qzx 0 0 (xg s k).text (by omega);rw[e];rfl
 by_cases hl:kz3 s k=true
 ·have hd:=jwg hl;have hl':kz3 (xg s k).text 0=true:=by rw[kz3,hcut];exact hl
  have hd':kjo (xg s k).text 0=false:=by rw[kjo,hcut];exact hd
  have hkd:(xg s k).kind=if qki (xg s k).text then jkc else zkk:=by unfold xg;simp[hl]
  cases hr:qki (xg s k).text
  ·rw[hr] at hkd;have hkd:(xg s k).kind.toList=[110,97,109,101]:=by rw[hkd];exact kN
   refine ⟨by rw[hl',hr,hkd];rfl,by rw[hd',hkd];rfl,?_,by rw[hno,hkd];rfl,hsz,by rw[hl',hkd];rfl⟩;intro l hll;have:((xg s k).text.toList==l)=false:=by
    cases he:((xg s k).text.toList==l)
    ·rfl
    ·rw[rZ] at he;obtain ⟨c,r,e,h3⟩:=qzx 97 122 (xg s k).text (by omega);have:=jwq l hll c r (by rw[←he];exact e) (by rw[←h3];exact hl');rw[←he] at this;rw[(vq3 _).mpr this] at hr;cases hr
   rw[this,Jm]
  ·rw[hr] at hkd;have hkd:(xg s k).kind.toList=[119,111,114,100]:=by rw[hkd];exact kW
   refine ⟨by rw[hl',hr,hkd];rfl,by rw[hd',hkd];rfl,?_,by rw[hno,hkd];rfl,hsz,by rw[hl',hkd];rfl⟩;intro l hll;rw[jxf,hkd];simp
 ·have hl:kz3 s k=false:=by simpa using hl
  have hl':kz3 (xg s k).text 0=false:=by rw[kz3,hcut];exact hl
  by_cases hd:kjo s k=true
  ·have hd':kjo (xg s k).text 0=true:=by rw[kjo,hcut];exact hd
   have hkd:(xg s k).kind=if kjo s (k+1) then zkx else qj6:=by unfold xg;simp[hl,hd]
   cases h2:kjo s (k+1)
   ·rw[h2] at hkd;have hkd:(xg s k).kind.toList=[100,105,103,105,116]:=by rw[hkd];exact kD
    refine ⟨by rw[hl',hkd];rfl,by rw[hd',hkd];rfl,?_,by rw[hno,hkd];rfl,hsz,by rw[hl',hkd];rfl⟩;intro l hll;have:((xg s k).text.toList==l)=false:=by
     cases he:((xg s k).text.toList==l)
     ·rfl
     ·rw[rZ] at he;obtain ⟨c,r,e,h3⟩:=qzx 48 57 (xg s k).text (by omega);have:=jzs l hll c r (by rw[←he];exact e);rw[←h3] at this;rw[kjo] at hd';rw[hd'] at this;cases this
    rw[this,Jm]
   ·rw[h2] at hkd;rw[hkd] at hne;simp[k0] at hne
  ·have hd:kjo s k=false:=by simpa using hd
   have hd':kjo (xg s k).text 0=false:=by rw[kjo,hcut];exact hd
   have hkd:(xg s k).kind.toList=[115,105,103,110]:=by
    unfold xg at hne ⊢;simp only[hl,hd] at hne ⊢;simp only[tJ,if_false] at hne ⊢;split
    ·exact kS
    ·rename_i h4;rw[if_neg h4] at hne;simp only at hne ⊢;split
     ·exact kS
     ·rename_i h5;rw[if_neg h5] at hne;simp[k0] at hne
   refine ⟨by rw[hl',hkd];rfl,by rw[hd',hkd];rfl,?_,by rw[hno,hkd];rfl,hsz,by rw[hl',hkd];rfl⟩;intro l hll;rw[jxf,hkd];simp
structure AccOk (acc:List Tok)(k:Nat):Prop where
 ok:∀ t∈acc,qvw t∧(t.kind.toList==[101,110,100])=false∧t.at_<k
 inc:acc.Pairwise (fun a b=>a.at_<b.at_)
 len:acc.length≤k
theorem zwd (s:ByteArray)(k:Nat):(xg s k).at_=k:=by
 unfold xg;repeat (split;· rfl)
 rfl
theorem zqv (s:ByteArray)(hs:s.size≤800):∀ (f k:Nat) (acc:List Tok),k≤s.size→AccOk acc k→(kw7 f s k acc).2=none→∃ acc',(kw7 f s k acc).1=acc'++[kzw s.size]∧AccOk acc' s.size
 | 0,k,acc,_,_,h=>by simp[kw7] at h
 | f+1,k,acc,hk,ha,h=>by
  rw[kw7] at h ⊢;by_cases h1:k<s.size
  ·rw[if_pos h1] at h ⊢;by_cases h2:qzu s k=true
   ·rw[if_pos h2] at h ⊢;exact zqv s hs f (k+1) acc h1 ⟨fun t ht=>⟨(ha.ok t ht).1,(ha.ok t ht).2.1,by have:=(ha.ok t ht).2.2;omega⟩,ha.inc,by have:=ha.len;omega⟩ h
   ·rw[if_neg h2] at h ⊢;by_cases h3:(xg s k).kind.toList.isEmpty=true
    ·rw[if_pos h3] at h;cases h
    ·rw[if_neg h3] at h ⊢;have htx:=qk2 s k h1;have hok:=jyc s k h1 hs (by simpa using h3);have hat:=zwd s k;have hne:((xg s k).kind.toList==[101,110,100])=false:=by
      rw[←hok.fin];obtain ⟨c,r,e,_⟩:=qzx 0 0 (xg s k).text (by omega);rw[e];rfl
     refine zqv s hs f _ _ htx.2 ⟨?_,?_,?_⟩ h
     ·intro t ht;rcases rC.mp ht with ht|ht
      ·exact ⟨(ha.ok t ht).1,(ha.ok t ht).2.1,by have:=(ha.ok t ht).2.2;omega⟩
      ·rw[tY] at ht;subst ht;exact ⟨hok,hne,by omega⟩
     ·rw[QU];refine ⟨ha.inc,Zz _ _,?_⟩;intro a ha' b hb;rw[tY] at hb;subst hb;rw[hat];exact (ha.ok a ha').2.2
     ·rw[wB];have:=ha.len;simp;omega
  ·rw[if_neg h1] at h ⊢;exact ⟨acc,rfl,⟨fun t ht=>⟨(ha.ok t ht).1,(ha.ok t ht).2.1,by have:=(ha.ok t ht).2.2;omega⟩,ha.inc,by have:=ha.len;omega⟩⟩
structure pq (L:List Tok):Prop where
 len:L.length≤801
 pos:0<L.length
 ok:∀ i,i<L.length→qvw (tk L i)
 mid:∀ i,i+1<L.length→((tk L i).kind.toList==[101,110,100])=false
 last:((tk L (L.length-1)).kind.toList==[101,110,100])=true
 inc:L.Pairwise (fun a b=>a.at_<b.at_)
 le:∀ t∈L,t.at_≤800
theorem vkw {L:List Tok}{i:Nat}(h:i<L.length):tk L i∈L:=by
 unfold tk;rw[show L.getD i (kzw 0)=L[i] by simp[List.getD,h]];exact wY h
theorem zql (s:ByteArray)(hs:s.size≤800)(h:(dw s).2=none):pq (dw s).1:=by
 obtain ⟨acc,e,ha⟩:=zqv s hs 801 0 [] (rG _) ⟨fun t ht=>by simp at ht,List.Pairwise.nil,by simp⟩ h;have e':(dw s).1=acc++[kzw s.size]:=e;rw[e'];have kE:vv0.toList=[101,110,100]:=kqv _;have hl:=ha.len;have tkl:∀ i,i<acc.length→tk (acc++[kzw s.size]) i∈acc:=by
  intro i hi;have:tk (acc++[kzw s.size]) i=acc[i]:=by
   unfold tk;simp[List.getD,lX hi,hi]
  rw[this];exact wY hi
 have tke:tk (acc++[kzw s.size]) acc.length=kzw s.size:=by
  unfold tk;simp[List.getD]
 refine ⟨by simp;omega,by simp,?_,?_,?_,?_,?_⟩
 ·intro i hi;simp at hi;by_cases hh:i<acc.length
  ·exact (ha.ok _ (tkl i hh)).1
  ·have:i=acc.length:=by omega
   subst this;rw[tke];exact jwh _
 ·intro i hi;simp at hi;exact (ha.ok _ (tkl i hi)).2.1
 ·simp only[wB,Qh,JY];rw[tke];show (vv0.toList==_)=true;rw[kE];rfl
 ·rw[QU];refine ⟨ha.inc,Zz _ _,?_⟩;intro a h1 b hb;rw[tY] at hb;subst hb;exact (ha.ok a h1).2.2
 ·intro t ht;rcases rC.mp ht with ht|ht
  ·have:=(ha.ok t ht).2.2;omega
  ·rw[tY] at ht;subst ht;exact hs
theorem qy9 (b:Int)(w:World):Calls Tryz.prog 86 #[.int .u8 b] w fun e w'=>e=.returned (.bool ((b==32)||(b==10)))∧w'=w:=by
 cases h:(b==32);all_goals
  go_enter Tryz.func86,Tryz.ntmps86
  go_wp2
  go_ret
  exact ⟨jo (by simp),rfl⟩
theorem kz0 (b:Int)(w:World):Calls Tryz.prog 142 #[.int .u8 b] w fun e w'=>e=.returned (.bool (decide (97≤b)&&decide (b≤122)))∧w'=w:=by
 by_cases h:97≤b
 all_goals
  go_enter Tryz.func142,Tryz.ntmps142
  go_wp2
  go_ret
  exact ⟨jo (by first|(simp[h];done)|(simp;omega)),rfl⟩
theorem kvl (b:Int)(w:World):Calls Tryz.prog 144 #[.int .u8 b] w fun e w'=>e=.returned (.bool (decide (48≤b)&&decide (b≤57)))∧w'=w:=by
 by_cases h:48≤b
 all_goals
  go_enter Tryz.func144,Tryz.ntmps144
  go_wp2
  go_ret
  exact ⟨jo (by first|(simp[h];done)|(simp;omega)),rfl⟩
theorem kv3 {lo hi:Int}{s:ByteArray}{i:Nat}(h:i<s.size):(decide (lo≤((s[i]).toNat:Int))&&decide (((s[i]).toNat:Int)≤hi))=inB lo hi s i:=by simp[inB,h]
theorem zq4 (s:ByteArray)(w:World)(hs:s.size≤800) :
  Calls Tryz.prog 143 #[.string s] w fun e w'=>e=.returned (.int .i64 (kk3 801 s 0))∧w'=w:=by
 go_enter Tryz.func143,Tryz.ntmps143
 go_wp2
 go_loop [3] (fun i=>∃ k:Nat,k≤s.size∧i=.int .i64 k∧∀ j,0≤j→j<k→kz3 s j=true) (fun i=>s.size-(intOf i).toNat)
 case atStart=>exact ⟨0,rG _,rfl,fun j _ h=>by omega⟩
 case round=>
  obtain ⟨k,hk,rfl,hall⟩:=hrel;have HA:=hide hall;clear hall;by_cases hlt:k<s.size
  ·cases hl:kz3 s k
   ·have HE:=hide (zv0 hl 801 0 (rG _) (by omega) (ku HA));go_wp2_with fail
    refine (kz0 _ _).mono ?_;rintro e w' ⟨rfl,rfl⟩;rw[kv3 hlt,show inB 97 122 s k=false from hl];go_wp2
    go_ret
    rw[ku HE];exact ⟨rfl,rfl⟩
   ·go_wp2_with fail
    refine (kz0 _ _).mono ?_;rintro e w' ⟨rfl,rfl⟩;rw[kv3 hlt,show inB 97 122 s k=true from hl];go_wp2
    go_round
    case rel=>exact ⟨k+1,by omega,by go_num,fun j h1 h2=>if e:j=k then e ▸ hl else (ku HA) j h1 (by omega)⟩
    case measure=>simp[intOf];omega
  ·have hl:kz3 s k=false:=by
    cases h:kz3 s k
    ·rfl
    ·exact absurd (jky h) hlt
   have HE:=hide (zv0 hl 801 0 (rG _) (by omega) (ku HA));go_wp2
   go_ret
   rw[ku HE];exact ⟨rfl,rfl⟩
theorem zx4 (s p:ByteArray)(w:World) :
  Calls Tryz.prog 145 #[.string s,.string p] w fun e w'=>e=.returned (.bool (decide (p.size≤s.size)&&((s.extract 0 p.size).toList==p.toList)))∧w'=w:=by
 have inner:Calls Tryz.prog 199 #[.string s,.string p] w fun e w'=>e=.returned (.bool (decide (p.size≤s.size)&&((s.extract 0 p.size).toList==p.toList)))∧w'=w:=by
  by_cases h:p.size≤s.size
  ·go_enter Tryz.func199,Tryz.ntmps199
   go_wp2
   go_ret
   exact ⟨jo (by simp[h]),rfl⟩
  ·go_enter Tryz.func199,Tryz.ntmps199
   go_wp2
   go_ret
   exact ⟨jo (by simp[h]),rfl⟩
 go_enter Tryz.func145,Tryz.ntmps145
 go_wp2_with fail
 refine inner.mono ?_;rintro e w' ⟨rfl,rfl⟩;go_wp2
 go_ret
 exact ⟨rfl,rfl⟩
theorem zx2 (s:ByteArray)(c:Int)(w:World) :
  Calls Tryz.prog 146 #[.string s,.int .u8 c] w fun e w'=>e=.returned (.int .i64 (Lib.indexByte s.data.toList c.toNat.toUInt8))∧w'=w:=by
 have inner:Calls Tryz.prog 200 #[.string s,.int .u8 c] w fun e w'=>e=.returned (.int .i64 (Lib.indexByte s.data.toList c.toNat.toUInt8))∧w'=w:=by
  go_enter Tryz.func200,Tryz.ntmps200
  go_wp2
  rw[run_callFunc_extern Tryz.func237 (by kernel_rfl) (by kernel_rfl) (by kernel_rfl) (e:=Extern.BytealgIndexByte.indexByte) (by kernel_rfl),Lib.run_indexByteString];simp only[Result.andThen];rw[Oper.upon_value];go_wp2
  go_ret
  exact ⟨rfl,rfl⟩
 go_enter Tryz.func146,Tryz.ntmps146
 go_wp2_with fail
 refine inner.mono ?_;rintro e w' ⟨rfl,rfl⟩;go_wp2
 go_ret
 exact ⟨rfl,rfl⟩
theorem qxt (c:UInt8):∀ l:List UInt8,(0≤Lib.indexByte l c↔l.any (fun b=>b.toNat==c.toNat)=true)
 | []=>by simp[Lib.indexByte]
 | b::l=>by
  have ih:=qxt c l;have hg:=Lib.indexByte_ge l c;rw[Lib.indexByte,Qs];cases h:(b==c)
  ·have hn:(b.toNat==c.toNat)=false:=by
    cases hh:(b.toNat==c.toNat)
    ·rfl
    ·rw[rZ] at hh;have:b=c:=UInt8.toNat_inj.mp hh;subst this;simp at h
   rw[hn,Qx,←ih];simp only[tJ,if_false];by_cases h1:Lib.indexByte l c=-1
   ·simp[h1]
   ·have:(Lib.indexByte l c==-1)=false:=by simpa using h1
    rw[this];simp only[tJ,if_false];omega
  ·rw[rZ] at h;subst h;simp
theorem jyl (s:ByteArray)(h:0<s.size):decide ((0:Int)≤Lib.indexByte zqd.data.toList (((s[0]).toNat:Int).toNat.toUInt8))=qkn s 0:=by
 have a1:s.get! 0=s[0]:=getElem!_pos s.data 0 h;have e:(((s[0]).toNat:Int).toNat.toUInt8)=s[0]:=by
  rw[QK];simp
 rw[e];unfold qkn;rw[a1,kqv];have i:=qxt (s[0]) zqd.data.toList;cases hh:zqd.data.toList.any (fun c=>c.toNat==(s[0]).toNat)
 ·rw[hh] at i;rw[decide_eq_false_iff_not];intro hc;have:=i.mp hc;cases this
 ·rw[decide_eq_true_iff];exact i.mpr hh
def qxk (t:Tok):Nat:=if t.kind.toList.isEmpty then 0 else t.text.size
theorem jvx {s:ByteArray}(hl:kz3 s 0=true):qxk (xg s 0)=kk3 801 s 0:=by
 have hb:=qzn s 801 0 (rG _);have hk:(xg s 0).kind.toList.isEmpty=false:=by
  unfold xg;rw[if_pos hl];simp only;split
  ·rw[show jkc.toList=[119,111,114,100] from zh _];rfl
  ·rw[show zkk.toList=[110,97,109,101] from zh _];rfl
 unfold qxk;rw[hk];unfold xg;rw[if_pos hl];simp only[tJ,if_false];rw[extract_size _ _ _ hb.2];omega
theorem jjm {s:ByteArray}(hs:0<s.size)(hl:kz3 s 0=false)(hd:kjo s 0=true):qxk (xg s 0)=if kjo s 1 then 0 else 1:=by
 unfold qxk xg;simp only[hl,hd,tJ,if_false,if_true,lU];cases h:kjo s 1
 ·simp only[tJ,if_false];rw[show qj6.toList=[100,105,103,105,116] from zh _,extract_size _ _ _ (by omega)];rfl
 ·simp only[if_true];rw[show zkx.toList=[] from zh _];rfl
theorem jyb {s:ByteArray}(hl:kz3 s 0=false)(hd:kjo s 0=false)(h2:qkh s 0=true):qxk (xg s 0)=2:=by
 have:0+1<s.size:=by unfold qkh at h2;simp at h2;omega
 unfold qxk xg;simp only[hl,hd,h2,tJ,if_false,if_true];rw[show jqx.toList=[115,105,103,110] from zh _,extract_size _ _ _ (by omega)];rfl
theorem jym {s:ByteArray}(hs:0<s.size)(hl:kz3 s 0=false)(hd:kjo s 0=false)(h2:qkh s 0=false):qxk (xg s 0)=if qkn s 0 then 1 else 0:=by
 unfold qxk xg;simp only[hl,hd,h2,tJ,if_false];cases h:qkn s 0
 ·simp only[tJ,if_false];rw[show zkx.toList=[] from zh _];rfl
 ·simp only[if_true];rw[show jqx.toList=[115,105,103,110] from zh _,extract_size _ _ _ (by omega)];rfl
theorem jxh (s:ByteArray):qkh s 0=((decide (2≤s.size)&&((s.extract 0 2).toList==[61,61]))||(decide (2≤s.size)&&((s.extract 0 2).toList==[33,61]))):=by
 unfold qkh;simp only[lU];by_cases h:2≤s.size
 ·have h1:1<s.size:=by omega
  simp[h,h1]
 ·have h1:¬1<s.size:=by omega
  simp[h,h1]
theorem qqf (s:ByteArray)(a b:UInt8)(w:World) :
  Calls Tryz.prog 145 #[.string s,.string ⟨#[a,b]⟩] w fun e w'=>e=.returned (.bool (decide (2≤s.size)&&((s.extract 0 2).toList==[a,b])))∧w'=w:=by
 have h:=zx4 s ⟨#[a,b]⟩ w;rw[show (⟨#[a,b]⟩:ByteArray).toList=[a,b] from zh _] at h;exact h
theorem qyt (s:ByteArray)(w:World)(h0:0<s.size)(hs:s.size≤800) :
  Calls Tryz.prog 87 #[.string s] w fun e w'=>e=.returned (.int .i64 (qxk (xg s 0)))∧w'=w:=by
 cases hl:kz3 s 0
 ·cases hd:kjo s 0
  ·cases h2:qkh s 0
   ·have HT:=hide (jym h0 hl hd h2);rw[jxh,QG] at h2;go_enter Tryz.func87,Tryz.ntmps87
    go_wp2_with fail
    refine (kz0 _ _).mono ?_;rintro e w' ⟨rfl,rfl⟩;rw[kv3 h0,show inB 97 122 s 0=false from hl];go_wp2_with fail
    refine (kvl _ _).mono ?_;rintro e w' ⟨rfl,rfl⟩;rw[kv3 h0,show inB 48 57 s 0=false from hd];go_wp2_with fail
    refine (qqf s 61 61 _).mono ?_;rintro e w' ⟨rfl,rfl⟩;rw[h2.1];go_wp2_with fail
    refine (qqf s 33 61 _).mono ?_;rintro e w' ⟨rfl,rfl⟩;rw[h2.2];go_wp2_with fail
    refine (zx2 _ _ _).mono ?_;rintro e w' ⟨rfl,rfl⟩;have hsi:=jyl s h0;unfold zqd at hsi;generalize Lib.indexByte _ _=z at hsi ⊢;cases hsg:qkn s 0
    ·rw[hsg] at HT hsi;have hz:¬0≤z:=by simpa using hsi
     go_wp2
     go_ret
     rw[ku HT];exact ⟨rfl,rfl⟩
    ·rw[hsg] at HT hsi;have hz:0≤z:=by simpa using hsi
     go_wp2
     go_ret
     rw[ku HT];exact ⟨rfl,rfl⟩
   ·have HT:=hide (jyb hl hd h2);rw[jxh] at h2;go_enter Tryz.func87,Tryz.ntmps87
    go_wp2_with fail
    refine (kz0 _ _).mono ?_;rintro e w' ⟨rfl,rfl⟩;rw[kv3 h0,show inB 97 122 s 0=false from hl];go_wp2_with fail
    refine (kvl _ _).mono ?_;rintro e w' ⟨rfl,rfl⟩;rw[kv3 h0,show inB 48 57 s 0=false from hd];go_wp2_with fail
    refine (qqf s 61 61 _).mono ?_;rintro e w' ⟨rfl,rfl⟩;cases hp:(decide (2≤s.size)&&((s.extract 0 2).toList==[61,61]))
    ·rw[hp,Qx] at h2;go_wp2_with fail
     refine (qqf s 33 61 _).mono ?_;rintro e w' ⟨rfl,rfl⟩;rw[h2];go_wp2
     go_ret
     rw[ku HT];exact ⟨rfl,rfl⟩
    ·clear h2;go_wp2
     go_ret
     rw[ku HT];exact ⟨rfl,rfl⟩
  ·have HT:=hide (jjm h0 hl hd);go_enter Tryz.func87,Tryz.ntmps87
   go_wp2_with fail
   refine (kz0 _ _).mono ?_;rintro e w' ⟨rfl,rfl⟩;rw[kv3 h0,show inB 97 122 s 0=false from hl];go_wp2_with fail
   refine (kvl _ _).mono ?_;rintro e w' ⟨rfl,rfl⟩;rw[kv3 h0,show inB 48 57 s 0=true from hd];by_cases h1:1<s.size
   ·go_wp2_with fail
    refine (kvl _ _).mono ?_;rintro e w' ⟨rfl,rfl⟩;rw[kv3 h1];cases hd1:kjo s 1
    ·rw[hd1] at HT;rw[show inB 48 57 s 1=false from hd1];go_wp2
     go_ret
     rw[ku HT];exact ⟨rfl,rfl⟩
    ·rw[hd1] at HT;rw[show inB 48 57 s 1=true from hd1];go_wp2
     go_ret
     rw[ku HT];exact ⟨rfl,rfl⟩
   ·have hd1:kjo s 1=false:=qwv h1;rw[hd1] at HT;go_wp2
    go_ret
    rw[ku HT];exact ⟨rfl,rfl⟩
 ·have HT:=hide (jvx hl);go_enter Tryz.func87,Tryz.ntmps87
  go_wp2_with fail
  refine (kz0 _ _).mono ?_;rintro e w' ⟨rfl,rfl⟩;rw[kv3 h0,show inB 97 122 s 0=true from hl];go_wp2_with fail
  refine (zq4 s _ hs).mono ?_;rintro e w' ⟨rfl,rfl⟩;go_wp2
  go_ret
  rw[ku HT];exact ⟨rfl,rfl⟩
def kq9 (t:Tok):List Value:=[.string t.text,.int .i64 t.at_]
def ptV (t:Tok):Value:=.agg #[.string t.text,.int .i64 t.at_]
def kq2 (l:List Tok):List Value:=l.flatMap kq9
theorem kyd (l:List Tok)(t:Tok):kq2 (l++[t])=kq2 l++kq9 t:=by simp[kq2]
theorem kvb (t:Tok):∀ u∈kq9 t,u.oneCell'=true:=by
 intro u h;simp only[kq9,tX,nM,or_false] at h;rcases h with rfl|rfl<;>rfl
theorem Tryz.infoToken:(Tryz.prog.info? 194).map (fun i=>(i.zero,i.size,i.bytes))=some (some (.agg #[.string ⟨#[]⟩,.int .i64 0]),2,24):=by kernel_rfl
def zw5 (s:ByteArray)(w:World)(v i:Value)(wr:World):Prop:=
 ∃ (k f:Nat) (acc:List Tok),k≤s.size∧i=.int .i64 k∧acc.length≤k∧s.size-k<f∧kw7 f s k acc=dw s ∧
  wr.ownsRow w.heap.size 194 2 v acc.length (kq2 acc)∧Below w.heap.size w wr
def vjo (s:ByteArray)(w:World)(e:Ending)(w':World):Prop:=
 Below w.heap.size w w'∧(((dw s).2=none∧∃ v,e=.returned (.tuple #[v,.int .i64 0,.bool true])∧w'.ownsRow w.heap.size 194 2 v (dw s).1.length (kq2 (dw s).1)) ∨
  ∃ k:Nat,(dw s).2=some k∧e=.returned (.tuple #[.slice none 0 0,.int .i64 k,.bool false]))
theorem vz6 {t:Tok}(h:t.kind.toList.isEmpty=false):qxk t=t.text.size:=by unfold qxk;rw[h];rfl
theorem vz7 {t:Tok}(h:t.kind.toList.isEmpty=true):qxk t=0:=by unfold qxk;rw[h];rfl
theorem zz8 {s:ByteArray}{k:Nat}(h:k<s.size):((((s[k]).toNat:Int)==32)||(((s[k]).toNat:Int)==10))=qzu s k:=by simp[qzu,h]
theorem zzo {f:Nat}{s:ByteArray}{k:Nat}{acc:List Tok}{w wr:World}{v:Value}(hb:qzu s k=true)(hk:k<s.size)(hf:kw7 f s k acc=dw s)(hfu:s.size-k<f)(hac:acc.length≤k)
  (hown:wr.ownsRow w.heap.size 194 2 v acc.length (kq2 acc)) (hbel:Below w.heap.size w wr):zw5 s w v (.int .i64 ((k:Int)+1)) wr:=by
 obtain ⟨f,rfl⟩:∃ g,f=g+1:=⟨f-1,by omega⟩;rw[zwg hb hk] at hf;exact ⟨k+1,f,acc,by omega,by go_num,by omega,by omega,hf,hown,hbel⟩
theorem jvj (s:ByteArray)(k:Nat)(hk:k<s.size):s.extract k (k+(xg s k).text.size)=(xg s k).text:=by
 unfold xg;have e7:=qzn s 800 (k+1) (by omega);split
 ·rename_i hl;have h2:kk3 801 s k=kk3 800 s (k+1):=by rw[kk3,if_pos hl]
  simp only;rw[extract_size _ _ _ (by omega),show k+(kk3 801 s k-k)=kk3 801 s k by omega]
 ·split
  ·simp only;rw[extract_size _ _ _ (by omega),show k+(k+1-k)=k+1 by omega]
  ·split
   ·rename_i h2;have:k+1<s.size:=by unfold qkh at h2;simp at h2;exact h2.1
    simp only;rw[extract_size _ _ _ (by omega),show k+(k+2-k)=k+2 by omega]
   ·simp only;rw[extract_size _ _ _ (by omega),show k+(k+1-k)=k+1 by omega]
theorem jyi (s:ByteArray)(w:World)(hs:s.size≤800) :
  Calls Tryz.prog 51 #[.string s] w fun e w'=>vjo s w e w':=by
 obtain ⟨i0,hi,hz0,hz1,hz2⟩:=info_parts Tryz.infoToken;go_enter Tryz.func51,Tryz.ntmps51
 go_wp2
 go_loopw [2,5,6] (fun v i _ wr=>zw5 s w v i wr) (fun _ i _ _=>s.size-(intOf i).toNat)
 case atStart=>exact ⟨0,801,[],by omega,rfl,by simp,by omega,rfl,rW _ _ _ _,Below.refl _ _⟩
 case round=>
  obtain ⟨k,f,acc,hk,rfl,hac,hf,hfe,hown,hbel⟩:=hrel;have HF:=hide hfe;have HO:=hide hown;have HB:=hide hbel;have hsz:=hbel.size;clear hfe hown hbel;by_cases hlt:k<s.size
  ·cases hbl:qzu s k
   ·go_wp2_with fail
    refine (qy9 _ _).mono ?_;rintro e w' ⟨rfl,rfl⟩;rw[zz8 hlt,hbl];go_wp2_with fail
    have hsh:=zwp s k hlt;have htl:qxk (xg (s.extract k s.size) 0)=qxk (xg s k):=by unfold qxk;rw[hsh.1,hsh.2]
    refine (qyt (s.extract k s.size) _ (by rw[extract_size _ _ _ (wX _)];omega) (by rw[extract_size _ _ _ (wX _)];omega)).mono ?_;rintro e w' ⟨rfl,rfl⟩;rw[htl];have htx:=qk2 s k hlt;have hcut:=jvj s k hlt;have HF1:=hide (jjc hbl hlt (ku HF));have hat:=zwd s k;clear hsh htl HF;generalize xg s k=t at htx HF1 hcut hat ⊢;cases hem:t.kind.toList.isEmpty
    ·rw[vz6 hem];have hne:¬((t.text.size:Int)=0):=by omega
     have hcut':s.extract k (k+t.text.size)=t.text:=hcut;have hadd:((k:Int)+(t.text.size:Int)).toNat=k+t.text.size:=by omega
     go_wp2_with (at_builtin;refine wpList_append_own _ rfl _ _ 89 rfl w.heap.size 194 i0 _ 2 24 Tryz.underlying89 hi hz0 hz1 hz2 rfl (by decide) _ _ _ rfl ((ku HO).alloc _) ⟨w'.heap.size,0,none⟩ 1 1 (kq9 t) rfl rfl ?c1 ?c2 ?c3 ?c4 ?c5 ?_)
     case c1=>
      intro j u hu;have:=kqz w' _ (kq9 t) 194 rfl j u hu;simp only[kq9] at this;rw[hat] at this;exact this
     case c2=>exact kvb t
     case c3=>unfold maxLen;omega
     case c4=>omega
     case c5=>simp;omega
     intro v' w2 hown' hgrow _;have hb2:Below w.heap.size w w2:=((ku HB).alloc (by omega) _).grown hgrow (by simp;omega) (vg (ku HO));have HO2:=hide hown';have HB2:=hide hb2;clear hown' hgrow hb2;have R:zw5 s w v' (.int .i64 ((k:Int)+t.text.size)) w2:=
      ⟨k+t.text.size,f-1,acc++[t],by omega,by go_num,by simp;omega,by omega,((ku HF1) (f-1) (by omega)).2 hem,by rw[kyd,wB];exact ku HO2,ku HB2⟩
     have HR:=hide R;clear R;go_wp2
     go_roundw
     case rel=>exact ku HR
     case measure=>simp[intOf];omega
    ·rw[vz7 hem];go_wp2
     go_ret3
     exact ⟨ku HB,Or.inr ⟨k,by rw[((ku HF1) (f-1) (by omega)).1 hem],rfl⟩⟩
   ·have HR:=hide (zzo hbl hlt (ku HF) hf hac (ku HO) (ku HB));go_wp2_with fail
    refine (qy9 _ _).mono ?_;rintro e w' ⟨rfl,rfl⟩;rw[zz8 hlt,hbl];go_wp2
    go_roundw
    case rel=>exact ku HR
    case measure=>simp[intOf];omega
  ·go_wp2_with (at_builtin;refine wpList_append_own _ rfl _ _ 89 rfl w.heap.size 194 i0 _ 2 24 Tryz.underlying89 hi hz0 hz1 hz2 rfl (by decide) _ _ _ rfl ((ku HO).alloc _) ⟨wr.heap.size,0,none⟩ 1 1 (kq9 (kzw s.size)) rfl rfl ?d1 ?d2 ?d3 ?d4 ?d5 ?_)
   case d1=>exact kqz wr _ (kq9 (kzw s.size)) _ rfl
   case d2=>exact kvb _
   case d3=>unfold maxLen;omega
   case d4=>omega
   case d5=>simp;omega
   intro v' w2 hown' hgrow _;have hb2:Below w.heap.size w w2:=((ku HB).alloc (by omega) _).grown hgrow (by simp;omega) (vg (ku HO));obtain ⟨f,rfl⟩:∃ g,f=g+1:=⟨f-1,by omega⟩;have hfe:=ku HF;rw[kw7,if_neg hlt] at hfe;have HE:=hide hfe;have HO2:=hide hown';have HB2:=hide hb2;clear hown' hgrow hfe hb2 HF HO HB;go_wp2
   go_ret3
   refine ⟨ku HB2,Or.inl ⟨by rw[←ku HE],_,rfl,?_⟩⟩;have:=ku HO2;rw[←ku HE,kyd,wB];exact this
def jy:Tok:={ kind:=⟨#[]⟩,text:=⟨#[]⟩,at_:=0 }
def kqk (L:List Tok)(k:List UInt8)(st:RS):Bool:=!st.bad&&((tk L st.at_).kind.toList==k)
def qh (L:List Tok)(k:List UInt8)(st:RS):Tok × RS:=
 if kqk L k st then (tk L st.at_,{ st with at_:=st.at_+1 }) else (jy,{ st with bad:=true })
structure ELab where
 op:ByteArray
 name:Tok
 index:Tok
 n:Int
abbrev PX:=Go.Deep.BT ELab
def kv0:ByteArray:=⟨#[112,108,97,99,101]⟩
def uj (L:List Tok)(st:RS):PX × RS:=
 let k:=qh L [110,97,109,101] st
 if zq L [91] k.2 then
  let i:=qh L [110,97,109,101] (qp L [91] k.2)
  (.node 0 0 { op:=kv0,name:=k.1,index:=i.1,n:=0 } .nil .nil,qp L [93] i.2)
 else (.node 0 0 { op:=kv0,name:=k.1,index:=jy,n:=0 } .nil .nil,k.2)
def kw5:PX:=.node 0 0 { op:=⟨#[]⟩,name:=jy,index:=jy,n:=0 } .nil .nil
def opX (o:ByteArray)(a b:PX):PX:=.node 0 0 { op:=o,name:=jy,index:=jy,n:=0 } a b
def vjk (n:Int):PX:=.node 0 0 { op:=qj6,name:=jy,index:=jy,n:=n } .nil .nil
def yx (t:ByteArray):Int:=if h:0<t.size then ((t[0]).toNat:Int)-48 else 0
def kvo:Nat→List ByteArray
 | 0=>[⟨#[124]⟩]
 | 1=>[⟨#[38]⟩]
 | 2=>[⟨#[61,61]⟩,⟨#[33,61]⟩,⟨#[60]⟩]
 | _=>[⟨#[43]⟩,⟨#[45]⟩]
def kxd (n:Nat)(t:Tok):Bool:=(kvo n).any (fun s=>s.toList==t.text.toList)&&(t.kind.toList==[115,105,103,110])
def isConst (t:Tok):Bool:=(t.kind.toList==[119,111,114,100])&&((t.text.toList==[116,114,117,101])||(t.text.toList==[102,97,108,115,101])||(t.text.toList==[110,111,110,101]))
def qv7 (t:Tok):Bool:=t.kind.toList==[100,105,103,105,116]
def qwe:ByteArray:=⟨#[33]⟩
def rX:Nat→Nat→PX→List Tok→RS→PX × RS
 | 0,_,x,_,st=>(x,st)
 | f+1,tag,x,L,st=>
  if tag<4 then
   if st.bad then (kw5,st)
   else rX f (10+tag) (rX f (tag+1) .nil L st).1 L (rX f (tag+1) .nil L st).2
  else if tag<10 then
   if st.bad then (kw5,st) else rX f 20 .nil L st
  else if tag<20 then
   if st.bad then (x,st)
   else if kxd (tag-10) (tk L st.at_) then
    if tag=12 then (opX (tk L st.at_).text x (rX f (tag-9) .nil L { st with at_:=st.at_+1 }).1,(rX f (tag-9) .nil L { st with at_:=st.at_+1 }).2)
    else rX f tag (opX (tk L st.at_).text x (rX f (tag-9) .nil L { st with at_:=st.at_+1 }).1) L (rX f (tag-9) .nil L { st with at_:=st.at_+1 }).2
   else (x,st)
  else
   if st.bad then (kw5,st)
   else if zq L [33] st then
    if tag=32 then (kw5,{ st with bad:=true })
    else (opX qwe (rX f (tag+1) .nil L (qp L [33] st)).1 .nil,(rX f (tag+1) .nil L (qp L [33] st)).2)
   else if zq L [40] st then ((rX f 0 .nil L (qp L [40] st)).1,qp L [41] (rX f 0 .nil L (qp L [40] st)).2)
   else if isConst (tk L st.at_) then (opX (tk L st.at_).text .nil .nil,{ st with at_:=st.at_+1 })
   else if qv7 (tk L st.at_) then (vjk (yx (tk L st.at_).text),{ st with at_:=st.at_+1 })
   else uj L st
theorem zo (L:List Tok)(s:List UInt8)(st:RS):st.at_≤(qp L s st).at_:=by
 unfold qp;split
 ·exact wX _
 ·simp
theorem yt (L:List Tok)(s:List UInt8)(st:RS):st.at_≤(qh L s st).2.at_:=by
 unfold qh;split<;>simp
theorem qy0 (L:List Tok)(st:RS):st.at_≤(uj L st).2.at_:=by
 unfold uj;simp only;have h1:=yt L [110,97,109,101] st;split
 ·have h2:=zo L [91] (qh L [110,97,109,101] st).2;have h3:=yt L [110,97,109,101] (qp L [91] (qh L [110,97,109,101] st).2);have h4:=zo L [93] (qh L [110,97,109,101] (qp L [91] (qh L [110,97,109,101] st).2)).2;exact rQ h1 (rQ h2 (rQ h3 h4))
 ·exact h1
theorem kx5:∀ (f tag:Nat) (x:PX) (L:List Tok) (st:RS),st.at_≤(rX f tag x L st).2.at_
 | 0,_,_,_,_=>wX _
 | f+1,tag,x,L,st=>by
  have ih:=kx5 f;rw[rX];split
  ·split
   ·exact wX _
   ·exact rQ (ih _ _ _ _) (ih _ _ _ _)
  ·split
   ·split
    ·exact wX _
    ·exact ih _ _ _ _
   ·split
    ·split
     ·exact wX _
     ·split
      ·have h1:=ih (tag-9) .nil L { st with at_:=st.at_+1 };simp only at h1;split
       ·exact rQ (by omega) h1
       ·exact rQ (rQ (by omega) h1) (ih _ _ _ _)
      ·exact wX _
    ·split
     ·exact wX _
     ·split
      ·split
       ·exact wX _
       ·exact rQ (zo L [33] st) (ih _ _ _ _)
      ·split
       ·exact rQ (zo L [40] st) (rQ (ih _ _ _ _) (zo L [41] _))
       ·split
        ·simp
        ·split
         ·simp
         ·exact qy0 L st
theorem qji {L:List Tok}{s:List UInt8}{st:RS}(hb:(qp L s st).bad=false):(qp L s st).at_=st.at_+1:=by
 unfold qp at hb ⊢;split at hb
 ·simp at hb
 ·rename_i h;rw[if_neg h]
theorem zvx (f n:Nat)(x:PX)(L:List Tok)(st:RS):rX (f+1) (20+n) x L st =
  if st.bad then (kw5,st)
  else if zq L [33] st then
   if n=12 then (kw5,{ st with bad:=true })
   else (opX qwe (rX f (20+(n+1)) .nil L (qp L [33] st)).1 .nil,(rX f (20+(n+1)) .nil L (qp L [33] st)).2)
  else if zq L [40] st then ((rX f 0 .nil L (qp L [40] st)).1,qp L [41] (rX f 0 .nil L (qp L [40] st)).2)
  else if isConst (tk L st.at_) then (opX (tk L st.at_).text .nil .nil,{ st with at_:=st.at_+1 })
  else if qv7 (tk L st.at_) then (vjk (yx (tk L st.at_).text),{ st with at_:=st.at_+1 })
  else uj L st:=by
 rw[rX,if_neg (by omega),if_neg (by omega),if_neg (by omega)];simp only[show (20+n=32)=(n=12) from by simp;omega,J8]
theorem below_alloc1 (w:World)(o:Obj):Below w.heap.size w (w.alloc o):=(Below.refl _ _).alloc (wX _) _
end Go.Proofs.YtpmcnonmkghokaaGreatDoor

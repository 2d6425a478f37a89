import Derived.Test.YtpmcnonmkghokaaGreatDoorRows
import Derived.WalkKit
import Derived.WalkSpells
import Derived.WalkLawsBesides
import Derived.Deep.QuietTactic
import Derived.BigQuiet
import Derived.Deep.Trees
import Derived.BigRegion
import Derived.Lib.Strings
import Derived.Lib.Slices
import Derived.Lib.Walk
import Derived.Lib.Bytealg
import Derived.OwnWalk
set_option maxHeartbeats 1000000
set_option maxRecDepth 100000
set_option linter.unusedVariables false
set_option linter.unusedSimpArgs false
namespace Go.Proofs
open Go Go.RowKit
abbrev wu:=@List.setIfInBounds_toArray
abbrev wQ:=@Option.bind_eq_some_iff
abbrev wJ:=@List.set_cons_succ
abbrev wZ:=@List.set_cons_zero
abbrev wX:=@lt_of_block
abbrev wW:=@Nat.le_refl
abbrev wY:=@Bool.and_eq_true
abbrev wU:=@List.length_append
abbrev wG:=@List.mem_append_left
abbrev wP:=@beq_iff_eq
abbrev ru:=@Below.heap_setCell
abbrev rQ:=@Option.map_eq_some_iff
abbrev rJ:=@List.getElem_mem
abbrev rZ:=@results_cell_row
abbrev rV:=@Nat.le_trans
abbrev rW:=@List.mem_append_right
abbrev rY:=@bodyPost_ret
abbrev rU:=@List.mem_cons_of_mem
abbrev rG:=@List.mem_cons_self
abbrev rP:=@World.ownsRow_nil
abbrev rD:=@cell_of_row
abbrev rC:=@List.getElem?_append_right
abbrev rM:=@List.mem_append
abbrev tu:=@Nat.zero_le
abbrev tJ:=@World.size_alloc
abbrev tZ:=@Bool.false_eq_true
abbrev tX:=@List.append_assoc
abbrev tK:=@List.mem_cons
abbrev tV:=@List.mem_singleton
abbrev tY:=@frozen_of_row
abbrev tC:=@List.mem_map_of_mem
abbrev su:=@List.mem_flatMap
abbrev sQ:=@List.drop_eq_getElem_cons
abbrev sJ:=@Classical.byContradiction
abbrev sZ:=@List.getElem_of_mem
abbrev sK:=@List.getElem?_cons_succ
abbrev sV:=@List.mem_map
abbrev sW:=@List.getElem?_cons_zero
abbrev sU:=@List.length_cons
abbrev sG:=@List.length_map
abbrev sD:=@decide_eq_true
abbrev ny:=@List.getElem?_eq_getElem
abbrev ng:=@List.map_append
abbrev ni:=@List.append_nil
abbrev nJ:=@List.getElem?_eq_some_iff
abbrev nZ:=@Below.heap_alloc
abbrev nX:=@List.all_eq_true
abbrev nK:=@IntKind.wrap_i64
abbrev nV:=@Nat.add_zero
abbrev nY:=@List.not_mem_nil
abbrev nU:=@decide_eq_true_eq
abbrev nG:=@List.take_succ_eq_append_getElem
abbrev nP:=@Bool.not_eq_true'
abbrev nD:=@List.drop_drop
abbrev nM:=@Bool.or_false
abbrev lq:=@List.getElem?_map
abbrev lu:=@beq_eq_false_iff_ne
abbrev lg:=@Bool.or_eq_true
abbrev lQ:=@Bool.false_or
abbrev lJ:=@wpList_append_own_at
abbrev lZ:=@List.mem_of_getElem?
abbrev lX:=@Nat.lt_of_lt_of_le
abbrev lK:=@List.nil_append
abbrev lV:=@ByteArray.size_extract
abbrev lW:=@List.drop_length
abbrev lY:=@List.foldl_append
abbrev lU:=@List.flatMap_cons
abbrev lG:=@List.append_eq_nil_iff
abbrev lD:=@Bool.false_and
abbrev lC:=@List.map_cons
abbrev lM:=@Bool.false_ne_true
abbrev l9:=@List.getD_eq_getElem?_getD
abbrev fQ:=@List.eq_nil_of_length_eq_zero
abbrev fJ:=@cell_later
abbrev fZ:=@List.map_map
abbrev fG:=@Array.getElem?_eq_none
abbrev fP:=@List.length_nil
abbrev fD:=@List.cons_append
abbrev fC:=@Bool.or_eq_false_iff
abbrev fB:=@List.getElem_cons_zero
abbrev Qq:=@List.getElem?_take_of_lt
abbrev Qj:=@List.drop_left
abbrev Qz:=@Bool.true_and
abbrev Qx:=@Nat.zero_add
abbrev Qk:=@List.take_length
abbrev Qv:=@Nat.le_of_lt
abbrev Qw:=@Bool.or_true
abbrev Qy:=@List.flatMap_append
abbrev Qu:=@List.length_filter_le
abbrev Qg:=@List.filter_cons
abbrev Qp:=@Nat.add_assoc
abbrev Qd:=@Array.getElem?_setIfInBounds
abbrev Qc:=@Bool.true_or
abbrev Qb:=@List.sublist_append_right
abbrev Qm:=@List.getElem?_append_left
abbrev Qh:=@ByteArray.getElem_extract
abbrev Qr:=@List.getElem?_set_ne
abbrev Qn:=@Bool.or_self
abbrev Ql:=@List.getElem_cons_succ
abbrev Qs:=@List.getElem?_drop
abbrev Qo:=@List.nodup_cons
abbrev Qa:=@List.length_set
abbrev Qe:=@List.foldl_cons
abbrev Qi:=@List.any_cons
abbrev QJ:=@List.length_singleton
abbrev QZ:=@List.pairwise_append
abbrev QX:=@Bool.not_false
abbrev QK:=@List.map_flatMap
abbrev QV:=@List.length_take
abbrev QW:=@List.getElem_map
abbrev QY:=@List.any_eq_true
abbrev QU:=@List.drop_succ_cons
abbrev QG:=@Array.length_toList
abbrev QD:=@List.getElem_append_left
abbrev QC:=@run_underlying
abbrev QB:=@List.getElem?_set_self
abbrev QM:=@List.drop_of_length_le
abbrev Q5:=@ByteArray.data_append
abbrev Q7:=@Bool.or_assoc
abbrev Q8:=@List.take_append_of_le_length
abbrev Q9:=@List.drop_append_of_le_length
abbrev Jq:=@List.mem_filter
abbrev Jj:=@Int.emod_nonneg
abbrev Jz:=@Int.toNat_of_nonneg
abbrev Jk:=@Nat.add_comm
abbrev Jv:=@Int.tmod_eq_emod_of_nonneg
abbrev Jw:=@Bool.and_false
abbrev Jy:=@List.pairwise_iff_getElem
abbrev Ju:=@List.nodup_append
abbrev Jg:=@List.sublist_append_left
abbrev Jp:=@Bool.eq_false_or_eq_true
abbrev Jd:=@List.nil_sublist
abbrev Jc:=@List.length_drop
abbrev Jb:=@List.append_inj'
abbrev Jm:=@Bool.toNat_false
abbrev Jh:=@Nat.lt_or_ge
abbrev Jt:=@List.any_nil
abbrev Jr:=@World.cell?_of_block
abbrev Jl:=@List.map_eq_flatMap
abbrev Js:=@Array.toList_append
abbrev Jf:=@List.all_cons
abbrev Jo:=@Bool.not_true
abbrev Ja:=@Bool.and_true
abbrev Je:=@Nat.add_sub_cancel
abbrev Ji:=@Int.emod_lt_of_pos
abbrev JQ:=@List.map_nil
abbrev JJ:=@List.countP_cons
abbrev JZ:=@List.all_append
abbrev JX:=@Array.toList_setIfInBounds
abbrev JK:=@Array.getElem?_eq_some_iff
abbrev JV:=@List.exists_mem_of_ne_nil
abbrev JW:=@Array.setIfInBounds_comm
abbrev JY:=@List.pairwise_singleton
abbrev JU:=@Int.eq_ofNat_of_zero_le
abbrev JG:=@List.take_of_length_le
abbrev JD:=@List.singleton_append
abbrev JC:=@List.length_replicate
abbrev JB:=@Nat.mul_one
abbrev JM:=@List.map_id
abbrev J3:=@Nat.mul_le_mul_left
abbrev J4:=@List.map_congr_left
end Go.Proofs
namespace Go.Proofs.YtpmcnonmkghokaaGreatDoor
open Go.RowKit
theorem hide {p:Prop}(h:p):Hid p:=h
theorem ku {p:Prop}(h:Hid p):p:=h
theorem getD_at {α:Type}(l:List α)(k:Nat)(d:α)(h:k<l.length):l.getD k d=l[k]:=by
 simp[List.getD,h]
theorem jf {a b:Bool}(h:a=b):Ending.returned (.bool a)=.returned (.bool b):=by rw[h]
theorem kvd {k:IntKind}{a b:Int}(h:a=b):Ending.returned (.int k a)=.returned (.int k b):=by rw[h]
theorem row3 {w:World}{b:Nat}{x y z:Value}{t:TypeId}(h:w.heap[b]?=some (.cells #[x,y,z] t (0,0))) :
  w.cell? ⟨b,0,none⟩=some x∧w.cell? ⟨b,1,none⟩=some y∧w.cell? ⟨b,2,none⟩=some z∧w.frozen? ⟨b,0,none⟩=false∧w.frozen? ⟨b,1,none⟩=false∧w.frozen? ⟨b,2,none⟩=false:=
 ⟨by rw[rD w b 0 _ _ _ h];rfl,by rw[rD w b 1 _ _ _ h];rfl,by rw[rD w b 2 _ _ _ h];rfl,tY w b 0 _ _ h,tY w b 1 _ _ h,tY w b 2 _ _ h⟩
def inB (lo hi:Int)(s:ByteArray)(i:Nat):Bool:=if h:i<s.size then decide (lo≤((s[i]).toNat:Int))&&decide (((s[i]).toNat:Int)≤hi) else false
def kj9 (s:ByteArray)(i:Nat):Bool:=inB 97 122 s i
def kjq (s:ByteArray)(i:Nat):Bool:=inB 48 57 s i
theorem qws {lo hi:Int}{s:ByteArray}{i:Nat}(h:¬i<s.size):inB lo hi s i=false:=by simp[inB,h]
def kjf:Nat→ByteArray→Nat→Nat
 | 0,_,i=>i
 | f+1,s,i=>if kj9 s i then kjf f s (i+1) else i
theorem jka {s:ByteArray}{i:Nat}(h:kj9 s i=true):i<s.size:=by
 unfold kj9 inB at h;by_cases hh:i<s.size
 ·exact hh
 ·simp[hh] at h
theorem zvj {s:ByteArray}{n:Nat}(hn:kj9 s n=false):∀ (f k:Nat),k≤n→n-k<f→(∀ j,k≤j→j<n→kj9 s j=true)→kjf f s k=n
 | 0,k,_,h,_=>by omega
 | f+1,k,hk,h,hall=>by
  rw[kjf];by_cases e:k=n
  ·subst e;simp[hn]
  ·rw[if_pos (hall k (wW _) (by omega))];exact zvj hn f (k+1) (by omega) (by omega) (fun j h1 h2=>hall j (by omega) h2)
def qvi:List ByteArray:=[⟨#[115,101,116]⟩,⟨#[107,105,110,100]⟩,⟨#[118,97,114]⟩,⟨#[98,111,111,108]⟩,⟨#[116,111]⟩,⟨#[114,117,108,101]⟩,⟨#[105,102]⟩,⟨#[101,108,115,101]⟩,⟨#[110,101,118,101,114]⟩,⟨#[116,114,117,101]⟩,⟨#[102,97,108,115,101]⟩,⟨#[110,111,110,101]⟩]
def qvv (s:ByteArray):Bool:=qvi.any (fun t=>t.toList==s.toList)
structure Tok where
 kind:ByteArray
 text:ByteArray
 at_:Nat
def qzp:ByteArray:=⟨#[119,111,114,100]⟩
def kq4:ByteArray:=⟨#[110,97,109,101]⟩
def kw6:ByteArray:=⟨#[100,105,103,105,116]⟩
def kwq:ByteArray:=⟨#[115,105,103,110]⟩
def jwn:ByteArray:=⟨#[101,110,100]⟩
def zkl:ByteArray:=⟨#[]⟩
def zj2:ByteArray:=⟨#[40,41,91,93,123,125,58,59,44,33,38,124,43,45,60,61]⟩
def ky7 (s:ByteArray)(k:Nat):Bool:=decide (k+1<s.size)&&((s.extract k (k+2)).toList==[61,61]||(s.extract k (k+2)).toList==[33,61])
def kwn (s:ByteArray)(k:Nat):Bool:=zj2.toList.any (fun c=>c.toNat==(s.get! k).toNat)
def jg (s:ByteArray)(k:Nat):Tok:=
 if kj9 s k then
  let t:=s.extract k (kjf 801 s k)
  { kind:=if qvv t then qzp else kq4,text:=t,at_:=k }
 else if kjq s k then { kind:=if kjq s (k+1) then zkl else kw6,text:=s.extract k (k+1),at_:=k }
 else if ky7 s k then { kind:=kwq,text:=s.extract k (k+2),at_:=k }
 else { kind:=if kwn s k then kwq else zkl,text:=s.extract k (k+1),at_:=k }
def kz2 (s:ByteArray)(k:Nat):Bool:=if h:k<s.size then (((s[k]).toNat:Int)==32)||(((s[k]).toNat:Int)==10) else false
def kq2 (n:Nat):Tok:={ kind:=jwn,text:=⟨#[]⟩,at_:=n }
def kqj:Nat→ByteArray→Nat→List Tok→List Tok × Option Nat
 | 0,_,k,acc=>(acc,some k)
 | f+1,s,k,acc=>
  if k<s.size then
   if kz2 s k then kqj f s (k+1) acc
   else if (jg s k).kind.toList.isEmpty then (acc,some k)
   else kqj f s (k+(jg s k).text.size) (acc++[jg s k])
  else (acc++[kq2 s.size],none)
def gq (s:ByteArray):List Tok × Option Nat:=kqj 801 s 0 []
theorem extract_size (s:ByteArray)(a b:Nat)(h:b≤s.size):(s.extract a b).size=b-a:=by
 rw[lV];omega
theorem qza (s:ByteArray):∀ (f k:Nat),k≤s.size→k≤kjf f s k∧kjf f s k≤s.size
 | 0,k,h=>⟨wW _,h⟩
 | f+1,k,h=>by
  rw[kjf];split
  ·rename_i hl;have:=jka hl;have:=qza s f (k+1) (by omega);omega
  ·omega
theorem qkq (s:ByteArray)(k:Nat)(hk:k<s.size):1≤(jg s k).text.size∧k+(jg s k).text.size≤s.size:=by
 unfold jg;split
 ·rename_i hl;have h1:=qza s 800 (k+1) (by omega);have h2:kjf 801 s k=kjf 800 s (k+1):=by rw[kjf,if_pos hl]
  show 1≤(s.extract k (kjf 801 s k)).size∧k+(s.extract k (kjf 801 s k)).size≤s.size;rw[extract_size _ _ _ (by omega)];omega
 ·split
  ·show 1≤(s.extract k (k+1)).size∧k+(s.extract k (k+1)).size≤s.size;rw[extract_size _ _ _ (by omega)];omega
  ·split
   ·rename_i h2;unfold ky7 at h2;simp at h2;show 1≤(s.extract k (k+2)).size∧k+(s.extract k (k+2)).size≤s.size;rw[extract_size _ _ _ (by omega)];omega
   ·show 1≤(s.extract k (k+1)).size∧k+(s.extract k (k+1)).size≤s.size;rw[extract_size _ _ _ (by omega)];omega
theorem kj3 (w:World)(b:Nat)(cs:List Value)(t:TypeId)(hb:w.heap.size=b):∀ j u,cs[j]?=some u→(w.alloc (.cells cs.toArray t)).cell? ((⟨b,0,none⟩:Addr).add j)=some u:=by
 intro j u h;subst hb;have hh:=heap_alloc_new w (.cells cs.toArray t);rw[show ((⟨w.heap.size,0,none⟩:Addr).add j)=⟨w.heap.size,j,none⟩ from by simp[Addr.add];intro h;exact h.symm,rD _ _ _ _ _ _ hh];simpa using h
theorem zwa {f:Nat}{s:ByteArray}{k:Nat}{acc:List Tok}(hb:kz2 s k=true)(hk:k<s.size):kqj (f+1) s k acc=kqj f s (k+1) acc:=by
 rw[kqj,if_pos hk,if_pos hb]
theorem jjn {f:Nat}{s:ByteArray}{k:Nat}{acc:List Tok}(hb:kz2 s k=false)(hk:k<s.size)(hf:kqj f s k acc=gq s) :
  ∀ g,f=g+1→((jg s k).kind.toList.isEmpty=true→gq s=(acc,some k))∧((jg s k).kind.toList.isEmpty=false→kqj g s (k+(jg s k).text.size) (acc++[jg s k])=gq s):=by
 intro g hg;subst hg;rw[kqj,if_pos hk,hb] at hf;constructor
 ·intro h;rw[h] at hf;simpa using hf.symm
 ·intro h;rw[h] at hf;simpa using hf
theorem qj {w w':World}{base e size:Nat}{v:Value}{n:Nat}{xs:List Value}(h:w.ownsRow base e size v n xs)(hb:Below w.heap.size w w'):w'.ownsRow base e size v n xs:=by
 obtain ⟨h1,h2⟩:=h;refine ⟨h1,?_⟩;rcases h2 with h2|⟨g,cap,cur,hv,hg,hh,r⟩
 ·exact Or.inl h2
 ·exact Or.inr ⟨g,cap,cur,hv,hg,by rw[hb.block g (wX hh)];exact hh,r⟩
theorem yw {w:World}{base e size:Nat}{v:Value}{n:Nat}{xs:List Value}(h:w.ownsRow base e size v n xs):∀ k,v.ownBlock=some k→base≤k:=by
 intro k hk;rcases h.2 with ⟨rfl,_⟩|⟨g,cap,cur,rfl,hg,_⟩
 ·simp[Value.ownBlock] at hk
 ·simp[Value.ownBlock] at hk;omega
theorem kqa {w:World}{base e size:Nat}{v:Value}{n:Nat}{xs:List Value}(h:w.ownsRow base e size v n xs):∀ k,v.ownBlock=some k→k<w.heap.size:=by
 intro k hk;rcases h.2 with ⟨rfl,_⟩|⟨g,cap,cur,rfl,hg,hh,_⟩
 ·simp[Value.ownBlock] at hk
 ·simp[Value.ownBlock] at hk;subst hk;exact wX hh
structure RS where
 at_:Nat
 nest:Int
 bad:Bool
def tk (L:List Tok)(k:Nat):Tok:=L.getD k (kq2 0)
structure Kept (R:Nat)(w w':World):Prop where
 os:w'.os=w.os
 tape:w'.tape=w.tape
 output:w'.output=w.output
 size:w.heap.size≤w'.heap.size
 block:∀ k,k<w.heap.size→k≠R→w'.heap[k]?=w.heap[k]?
theorem Kept.refl (R:Nat)(w:World):Kept R w w:=⟨rfl,rfl,rfl,wW _,fun _ _ _=>rfl⟩
theorem Kept.trans {R:Nat}{a b c:World}(h:Kept R a b)(k:Kept R b c):Kept R a c:=
 ⟨k.os.trans h.os,k.tape.trans h.tape,k.output.trans h.output,rV h.size k.size,fun i hi hn=>(k.block i (lX hi h.size) hn).trans (h.block i hi hn)⟩
theorem Kept.of_below {R:Nat}{w w':World}(h:Below w.heap.size w w'):Kept R w w':=⟨h.os,h.tape,h.output,h.size,fun k hk _=>h.block k hk⟩
theorem Kept.alloc {R:Nat}{a w:World}(h:Kept R a w)(o:Obj):Kept R a (w.alloc o):=h.trans (.of_below ((Below.refl _ _).alloc (wW _) o))
theorem Kept.drew {R:Nat}{a w:World}(h:Kept R a w):Kept R a w.drew:=⟨h.os,h.tape,h.output,h.size,h.block⟩
theorem Kept.kki {R:Nat}{a w:World}(h:Kept R a w)(o:Nat)(u:Value):Kept R a (w.setCell ⟨R,o,none⟩ u):=
 h.trans ⟨rfl,rfl,rfl,by simp[World.setCell],fun k hk hn=>ru _ _ _ _ hn⟩
theorem Kept.jm {R:Nat}{a w:World}(h:Kept R a w){p:Addr}(hp:a.heap.size≤p.block)(u:Value):Kept R a (w.setCell p u):=
 ⟨h.os,h.tape,h.output,by simpa[World.setCell] using h.size,fun k hk hn=>by rw[ru _ _ _ _ (by omega)];exact h.block k hk hn⟩
theorem qww {w w':World}{R base e size:Nat}{v:Value}{n:Nat}{xs:List Value}(h:w.ownsRow base e size v n xs)(hne:v.ownBlock≠some R)(hb:Kept R w w'):w'.ownsRow base e size v n xs:=by
 obtain ⟨h1,h2⟩:=h;refine ⟨h1,?_⟩;rcases h2 with h2|⟨g,cap,cur,rfl,hg,hh,r⟩
 ·exact Or.inl h2
 ·exact Or.inr ⟨g,cap,cur,rfl,hg,by rw[hb.block g (wX hh) (fun e=>hne (by simp[Value.ownBlock,e]))];exact hh,r⟩
theorem qy3 (w:World)(o:Obj):Below w.heap.size w (w.alloc o).drew:=((Below.refl _ _).alloc (wW _) _).drew
def qzk (t:Tok)(s:List UInt8)(bad:Bool):Bool:=
 !bad&&(t.kind.toList==[115,105,103,110]||t.kind.toList==[119,111,114,100])&&(t.text.toList==s)
def ql (L:List Tok)(s:List UInt8)(st:RS):Bool:=qzk (tk L st.at_) s st.bad
def opens (s:List UInt8):Bool:=s==[40]||s==[91]||s==[123]
def shuts (s:List UInt8):Bool:=s==[41]||s==[93]||s==[125]
def qg (L:List Tok)(s:List UInt8)(st:RS):RS:=
 if !ql L s st||(opens s&&st.nest==12) then { st with bad:=true }
 else { at_:=st.at_+1,nest:=if opens s then st.nest+1 else if shuts s then st.nest-1 else st.nest,bad:=false }
theorem qxx (lo hi:Int)(s:ByteArray)(k i:Nat):inB lo hi (s.extract k s.size) i=inB lo hi s (k+i):=by
 unfold inB;by_cases h:k+i<s.size
 ·have h':i<(s.extract k s.size).size:=by rw[extract_size _ _ _ (wW _)];omega
  rw[dif_pos h,dif_pos h',Qh]
 ·have h':¬i<(s.extract k s.size).size:=by rw[extract_size _ _ _ (wW _)];omega
  rw[dif_neg h,dif_neg h']
theorem zqb (s:ByteArray)(k:Nat):∀ f i,k+kjf f (s.extract k s.size) i=kjf f s (k+i)
 | 0,i=>rfl
 | f+1,i=>by
  rw[kjf,kjf,kj9,kj9,qxx];split
  ·exact zqb s k f (i+1)
  ·rfl
theorem qxv (s:ByteArray)(k i j:Nat)(h:k+j≤s.size):(s.extract k s.size).extract i j=s.extract (k+i) (k+j):=by
 rw[ByteArray.extract_extract,Nat.min_eq_left h]
theorem jy1 (s:ByteArray)(k:Nat)(h:k<s.size):(s.extract k s.size).get! 0=s.get! k:=by
 have hz:0<(s.extract k s.size).size:=by rw[extract_size _ _ _ (wW _)];omega
 have e:(s.extract k s.size)[0]'hz=s[k]:=by rw[Qh];rfl
 have a1:∀ (b:ByteArray) (i:Nat) (hb:i<b.size),b.get! i=b[i]:=fun b i hb=>getElem!_pos b.data i hb
 rw[a1 _ _ hz,a1 _ _ h,e]
theorem zwe (s:ByteArray)(k:Nat)(h:k<s.size):(jg (s.extract k s.size) 0).kind=(jg s k).kind∧(jg (s.extract k s.size) 0).text=(jg s k).text:=by
 have e1:kj9 (s.extract k s.size) 0=kj9 s k:=by rw[kj9,kj9,qxx];rfl
 have e2:kjq (s.extract k s.size) 0=kjq s k:=by rw[kjq,kjq,qxx];rfl
 have e3:kjq (s.extract k s.size) (0+1)=kjq s (k+1):=by rw[kjq,kjq,qxx]
 have e4:ky7 (s.extract k s.size) 0=ky7 s k:=by
  unfold ky7;by_cases h2:k+1<s.size
  ·rw[qxv _ _ _ _ (by omega),extract_size _ _ _ (wW _),show decide (0+1<s.size-k)=true by simp;omega,show decide (k+1<s.size)=true by simp;omega,nV,Qx]
  ·rw[extract_size _ _ _ (wW _),show decide (0+1<s.size-k)=false by simp;omega,show decide (k+1<s.size)=false by simp;omega,lD,lD]
 have e5:kwn (s.extract k s.size) 0=kwn s k:=by unfold kwn;rw[jy1 s k h]
 have e6:=zqb s k 801 0;have e7:=qza s 801 k (by omega);unfold jg;rw[e1,e2,e3,e4,e5];have e8:(s.extract k s.size).extract 0 (kjf 801 (s.extract k s.size) 0)=s.extract k (kjf 801 s k):=by
  rw[qxv _ _ _ _ (by rw[e6];exact e7.2),e6];rfl
 have e9:(s.extract k s.size).extract 0 (0+1)=s.extract k (k+1):=by rw[qxv _ _ _ _ (by omega)];rfl
 split
 ·rw[e8];exact ⟨rfl,rfl⟩
 ·split
  ·rw[e9];exact ⟨rfl,rfl⟩
  ·split
   ·rename_i h4;have:k+1<s.size:=by unfold ky7 at h4;simp at h4;exact h4.1
    rw[qxv _ _ _ _ (by omega)];exact ⟨rfl,rfl⟩
   ·rw[e9];exact ⟨rfl,rfl⟩
def lits:List (List UInt8):=[[115,101,116],[107,105,110,100],[118,97,114],[98,111,111,108],[116,111],[114,117,108,101],[105,102],[101,108,115,101],[110,101,118,101,114],[116,114,117,101],[102,97,108,115,101],[110,111,110,101],
 [40],[41],[91],[93],[123],[125],[58],[59],[44],[33],[38],[124],[43],[45],[60],[61],[61,61],[33,61]]
def jk7 (t:Tok):Bool:=(t.kind.toList==[115,105,103,110])||(t.kind.toList==[119,111,114,100])
structure qvo (t:Tok):Prop where
 name:(kj9 t.text 0&&!qvv t.text)=(t.kind.toList==[110,97,109,101])
 digit:kjq t.text 0=(t.kind.toList==[100,105,103,105,116])
 lit:∀ l∈lits,(t.text.toList==l)=(jk7 t&&(t.text.toList==l))
 fin:(t.text.toList==[])=(t.kind.toList==[101,110,100])
 size:t.text.size≤800
 word:kj9 t.text 0=((t.kind.toList==[119,111,114,100])||(t.kind.toList==[110,97,109,101]))
theorem xg (b:ByteArray):b.toList=b.data.toList:=ByteArray.toList_eq b
theorem zy (l:List UInt8):(ByteArray.mk l.toArray).toList=l:=xg _
theorem qzb (lo hi:Int)(b:ByteArray)(h:0<b.size):∃ c r,b.toList=c::r∧inB lo hi b 0=(decide (lo≤(c.toNat:Int))&&decide ((c.toNat:Int)≤hi)):=by
 have hl:b.data.toList≠[]:=fun e=>by
  have:b.data.size=0:=by rw[←QG,e];rfl
  exact absurd (show b.size=0 from this) (by omega)
 obtain ⟨c,r,e⟩:=List.exists_cons_of_ne_nil hl;refine ⟨c,r,by rw[xg,e],?_⟩;unfold inB;rw[dif_pos h];have:b[0]=c:=by
  show b.data[0]=c;rw[←Array.getElem_toList];simp[e]
 rw[this]
theorem vqd (b:ByteArray):qvv b=true↔b.toList∈qvi.map ByteArray.toList:=by
 unfold qvv;rw[QY];constructor
 ·rintro ⟨x,hx,e⟩;rw[wP] at e;rw[←e];exact tC hx
 ·intro h;obtain ⟨x,hx,e⟩:=sV.mp h;exact ⟨x,hx,by rw[wP];exact e⟩
theorem jy6 (n:Nat):qvo (kq2 n):=by
 have hk:(kq2 n).kind.toList=[101,110,100]:=zy _;have ht:(kq2 n).text.toList=[]:=zy _;have hz:(kq2 n).text.size=0:=rfl;have hi:∀ lo hi,inB lo hi (kq2 n).text 0=false:=fun lo hi=>by unfold inB;rw[dif_neg (by rw[hz];omega)]
 refine ⟨?_,?_,?_,?_,by rw[hz];omega,by rw[kj9,hi,hk];rfl⟩
 ·rw[kj9,hi,hk];rfl
 ·rw[kjq,hi,hk];rfl
 ·intro l hl;rw[ht];have:([]==l)=false:=by revert l;decide
  rw[this,Jw]
 ·rw[hk,ht];rfl
theorem vxc (lo hi:Int)(s:ByteArray)(k e:Nat)(h1:k<e)(h2:e≤s.size):inB lo hi (s.extract k e) 0=inB lo hi s k:=by
 unfold inB;rw[dif_pos (show k<s.size by omega),dif_pos (show 0<(s.extract k e).size by rw[extract_size _ _ _ h2];omega),Qh];rfl
theorem jwf {s:ByteArray}{k:Nat}(h:kj9 s k=true):kjq s k=false:=by
 unfold kj9 kjq inB at *;by_cases hk:k<s.size
 ·rw[dif_pos hk] at h ⊢;simp at h ⊢;omega
 ·rw[dif_neg hk] at h;cases h
theorem jwm:∀ l∈lits,∀ c r,l=c::r→(decide (97≤(c.toNat:Int))&&decide ((c.toNat:Int)≤122))=true→l∈qvi.map ByteArray.toList:=by
 have hw:qvi.map ByteArray.toList=[[115,101,116],[107,105,110,100],[118,97,114],[98,111,111,108],[116,111],[114,117,108,101],[105,102],[101,108,115,101],[110,101,118,101,114],[116,114,117,101],[102,97,108,115,101],[110,111,110,101]]:=by
  simp only[qvi,List.map,xg]
 rw[hw];intro l hl c r e;subst e;simp only[lits,tK,List.cons.injEq,nY,or_false] at hl;rcases hl with h|h|h|h|h|h|h|h|h|h|h|h|h|h|h|h|h|h|h|h|h|h|h|h|h|h|h|h|h|h<;>(obtain ⟨rfl,rfl⟩:=h;decide)
theorem jx0:∀ l∈lits,∀ c r,l=c::r→(decide (48≤(c.toNat:Int))&&decide ((c.toNat:Int)≤57))=false:=by
 intro l hl c r e;subst e;simp only[lits,tK,List.cons.injEq,nY,or_false] at hl;rcases hl with h|h|h|h|h|h|h|h|h|h|h|h|h|h|h|h|h|h|h|h|h|h|h|h|h|h|h|h|h|h<;>(obtain ⟨rfl,rfl⟩:=h;decide)
theorem vq1 (s:ByteArray)(k:Nat)(hk:k<s.size)(hs:s.size≤800)(hne:(jg s k).kind.toList.isEmpty=false):qvo (jg s k):=by
 have htx:=qkq s k hk;have kW:qzp.toList=[119,111,114,100]:=xg _;have kN:kq4.toList=[110,97,109,101]:=xg _;have kD:kw6.toList=[100,105,103,105,116]:=xg _;have kS:kwq.toList=[115,105,103,110]:=xg _;have k0:zkl.toList=[]:=xg _;have hcut:∀ lo hi,inB lo hi (jg s k).text 0=inB lo hi s k:=by
  intro lo hi;have:(jg s k).text=s.extract k (k+(jg s k).text.size):=by
   unfold jg;have e7:=qza s 800 (k+1) (by omega);split
   ·rename_i hl;have h2:kjf 801 s k=kjf 800 s (k+1):=by rw[kjf,if_pos hl]
    simp only;rw[extract_size _ _ _ (by omega),show k+(kjf 801 s k-k)=kjf 801 s k by omega]
   ·split
    ·simp only;rw[extract_size _ _ _ (by omega),show k+(k+1-k)=k+1 by omega]
    ·split
     ·rename_i h2;have:k+1<s.size:=by unfold ky7 at h2;simp at h2;exact h2.1
      simp only;rw[extract_size _ _ _ (by omega),show k+(k+2-k)=k+2 by omega]
     ·simp only;rw[extract_size _ _ _ (by omega),show k+(k+1-k)=k+1 by omega]
  rw[this];exact vxc _ _ _ _ _ (by omega) htx.2
 have hsz:(jg s k).text.size≤800:=by omega
 have hno:((jg s k).text.toList==[])=false:=by
  obtain ⟨c,r,e,_⟩:=qzb 0 0 (jg s k).text (by omega);rw[e];rfl
 by_cases hl:kj9 s k=true
 ·have hd:=jwf hl;have hl':kj9 (jg s k).text 0=true:=by rw[kj9,hcut];exact hl
  have hd':kjq (jg s k).text 0=false:=by rw[kjq,hcut];exact hd
  have hkd:(jg s k).kind=if qvv (jg s k).text then qzp else kq4:=by unfold jg;simp[hl]
  cases hr:qvv (jg s k).text
  ·rw[hr] at hkd;have hkd:(jg s k).kind.toList=[110,97,109,101]:=by rw[hkd];exact kN
   refine ⟨by rw[hl',hr,hkd];rfl,by rw[hd',hkd];rfl,?_,by rw[hno,hkd];rfl,hsz,by rw[hl',hkd];rfl⟩;intro l hll;have:((jg s k).text.toList==l)=false:=by
    cases he:((jg s k).text.toList==l)
    ·rfl
    ·rw[wP] at he;obtain ⟨c,r,e,h3⟩:=qzb 97 122 (jg s k).text (by omega);have:=jwm l hll c r (by rw[←he];exact e) (by rw[←h3];exact hl');rw[←he] at this;rw[(vqd _).mpr this] at hr;cases hr
   rw[this,Jw]
  ·rw[hr] at hkd;have hkd:(jg s k).kind.toList=[119,111,114,100]:=by rw[hkd];exact kW
   refine ⟨by rw[hl',hr,hkd];rfl,by rw[hd',hkd];rfl,?_,by rw[hno,hkd];rfl,hsz,by rw[hl',hkd];rfl⟩;intro l hll;rw[jk7,hkd];simp
 ·have hl:kj9 s k=false:=by simpa using hl
  have hl':kj9 (jg s k).text 0=false:=by rw[kj9,hcut];exact hl
  by_cases hd:kjq s k=true
  ·have hd':kjq (jg s k).text 0=true:=by rw[kjq,hcut];exact hd
   have hkd:(jg s k).kind=if kjq s (k+1) then zkl else kw6:=by unfold jg;simp[hl,hd]
   cases h2:kjq s (k+1)
   ·rw[h2] at hkd;have hkd:(jg s k).kind.toList=[100,105,103,105,116]:=by rw[hkd];exact kD
    refine ⟨by rw[hl',hkd];rfl,by rw[hd',hkd];rfl,?_,by rw[hno,hkd];rfl,hsz,by rw[hl',hkd];rfl⟩;intro l hll;have:((jg s k).text.toList==l)=false:=by
     cases he:((jg s k).text.toList==l)
     ·rfl
     ·rw[wP] at he;obtain ⟨c,r,e,h3⟩:=qzb 48 57 (jg s k).text (by omega);have:=jx0 l hll c r (by rw[←he];exact e);rw[←h3] at this;rw[kjq] at hd';rw[hd'] at this;cases this
    rw[this,Jw]
   ·rw[h2] at hkd;rw[hkd] at hne;simp[k0] at hne
  ·have hd:kjq s k=false:=by simpa using hd
   have hd':kjq (jg s k).text 0=false:=by rw[kjq,hcut];exact hd
   have hkd:(jg s k).kind.toList=[115,105,103,110]:=by
    unfold jg at hne ⊢;simp only[hl,hd] at hne ⊢;simp only[tZ,if_false] at hne ⊢;split
    ·exact kS
    ·rename_i h4;rw[if_neg h4] at hne;simp only at hne ⊢;split
     ·exact kS
     ·rename_i h5;rw[if_neg h5] at hne;simp[k0] at hne
   refine ⟨by rw[hl',hkd];rfl,by rw[hd',hkd];rfl,?_,by rw[hno,hkd];rfl,hsz,by rw[hl',hkd];rfl⟩;intro l hll;rw[jk7,hkd];simp
structure AccOk (acc:List Tok)(k:Nat):Prop where
 ok:∀ t∈acc,qvo t∧(t.kind.toList==[101,110,100])=false∧t.at_<k
 inc:acc.Pairwise (fun a b=>a.at_<b.at_)
 len:acc.length≤k
theorem zwi (s:ByteArray)(k:Nat):(jg s k).at_=k:=by
 unfold jg;repeat (split;· rfl)
 rfl
theorem zqf (s:ByteArray)(hs:s.size≤800):∀ (f k:Nat) (acc:List Tok),k≤s.size→AccOk acc k→(kqj f s k acc).2=none→∃ acc',(kqj f s k acc).1=acc'++[kq2 s.size]∧AccOk acc' s.size
 | 0,k,acc,_,_,h=>by simp[kqj] at h
 | f+1,k,acc,hk,ha,h=>by
  rw[kqj] at h ⊢;by_cases h1:k<s.size
  ·rw[if_pos h1] at h ⊢;by_cases h2:kz2 s k=true
   ·rw[if_pos h2] at h ⊢;exact zqf s hs f (k+1) acc h1 ⟨fun t ht=>⟨(ha.ok t ht).1,(ha.ok t ht).2.1,by have:=(ha.ok t ht).2.2;omega⟩,ha.inc,by have:=ha.len;omega⟩ h
   ·rw[if_neg h2] at h ⊢;by_cases h3:(jg s k).kind.toList.isEmpty=true
    ·rw[if_pos h3] at h;cases h
    ·rw[if_neg h3] at h ⊢;have htx:=qkq s k h1;have hok:=vq1 s k h1 hs (by simpa using h3);have hat:=zwi s k;have hne:((jg s k).kind.toList==[101,110,100])=false:=by
      rw[←hok.fin];obtain ⟨c,r,e,_⟩:=qzb 0 0 (jg s k).text (by omega);rw[e];rfl
     refine zqf s hs f _ _ htx.2 ⟨?_,?_,?_⟩ h
     ·intro t ht;rcases rM.mp ht with ht|ht
      ·exact ⟨(ha.ok t ht).1,(ha.ok t ht).2.1,by have:=(ha.ok t ht).2.2;omega⟩
      ·rw[tV] at ht;subst ht;exact ⟨hok,hne,by omega⟩
     ·rw[QZ];refine ⟨ha.inc,JY _ _,?_⟩;intro a ha' b hb;rw[tV] at hb;subst hb;rw[hat];exact (ha.ok a ha').2.2
     ·rw[wU];have:=ha.len;simp;omega
  ·rw[if_neg h1] at h ⊢;exact ⟨acc,rfl,⟨fun t ht=>⟨(ha.ok t ht).1,(ha.ok t ht).2.1,by have:=(ha.ok t ht).2.2;omega⟩,ha.inc,by have:=ha.len;omega⟩⟩
structure pq (L:List Tok):Prop where
 len:L.length≤801
 pos:0<L.length
 ok:∀ i,i<L.length→qvo (tk L i)
 mid:∀ i,i+1<L.length→((tk L i).kind.toList==[101,110,100])=false
 last:((tk L (L.length-1)).kind.toList==[101,110,100])=true
 inc:L.Pairwise (fun a b=>a.at_<b.at_)
 le:∀ t∈L,t.at_≤800
theorem vv1 {L:List Tok}{i:Nat}(h:i<L.length):tk L i∈L:=by
 unfold tk;rw[show L.getD i (kq2 0)=L[i] by simp[List.getD,h]];exact rJ h
theorem zj7 (s:ByteArray)(hs:s.size≤800)(h:(gq s).2=none):pq (gq s).1:=by
 obtain ⟨acc,e,ha⟩:=zqf s hs 801 0 [] (tu _) ⟨fun t ht=>by simp at ht,List.Pairwise.nil,by simp⟩ h;have e':(gq s).1=acc++[kq2 s.size]:=e;rw[e'];have kE:jwn.toList=[101,110,100]:=xg _;have hl:=ha.len;have tkl:∀ i,i<acc.length→tk (acc++[kq2 s.size]) i∈acc:=by
  intro i hi;have:tk (acc++[kq2 s.size]) i=acc[i]:=by
   unfold tk;simp[List.getD,Qm hi,hi]
  rw[this];exact rJ hi
 have tke:tk (acc++[kq2 s.size]) acc.length=kq2 s.size:=by
  unfold tk;simp[List.getD]
 refine ⟨by simp;omega,by simp,?_,?_,?_,?_,?_⟩
 ·intro i hi;simp at hi;by_cases hh:i<acc.length
  ·exact (ha.ok _ (tkl i hh)).1
  ·have:i=acc.length:=by omega
   subst this;rw[tke];exact jy6 _
 ·intro i hi;simp at hi;exact (ha.ok _ (tkl i hi)).2.1
 ·simp only[wU,QJ,Je];rw[tke];show (jwn.toList==_)=true;rw[kE];rfl
 ·rw[QZ];refine ⟨ha.inc,JY _ _,?_⟩;intro a h1 b hb;rw[tV] at hb;subst hb;exact (ha.ok a h1).2.2
 ·intro t ht;rcases rM.mp ht with ht|ht
  ·have:=(ha.ok t ht).2.2;omega
  ·rw[tV] at ht;subst ht;exact hs
theorem qyh (b:Int)(w:World):Calls Tryz.prog 86 #[.int .u8 b] w fun e w'=>e=.returned (.bool ((b==32)||(b==10)))∧w'=w:=by
 cases h:(b==32);all_goals
  go_enter Tryz.func86,Tryz.ntmps86
  go_wp2
  go_ret
  exact ⟨jf (by simp),rfl⟩
theorem kz6 (b:Int)(w:World):Calls Tryz.prog 142 #[.int .u8 b] w fun e w'=>e=.returned (.bool (decide (97≤b)&&decide (b≤122)))∧w'=w:=by
 by_cases h:97≤b
 all_goals
  go_enter Tryz.func142,Tryz.ntmps142
  go_wp2
  go_ret
  exact ⟨jf (by first|(simp[h];done)|(simp;omega)),rfl⟩
theorem kvo (b:Int)(w:World):Calls Tryz.prog 144 #[.int .u8 b] w fun e w'=>e=.returned (.bool (decide (48≤b)&&decide (b≤57)))∧w'=w:=by
 by_cases h:48≤b
 all_goals
  go_enter Tryz.func144,Tryz.ntmps144
  go_wp2
  go_ret
  exact ⟨jf (by first|(simp[h];done)|(simp;omega)),rfl⟩
theorem kvz {lo hi:Int}{s:ByteArray}{i:Nat}(h:i<s.size):(decide (lo≤((s[i]).toNat:Int))&&decide (((s[i]).toNat:Int)≤hi))=inB lo hi s i:=by simp[inB,h]
theorem zqc (s:ByteArray)(w:World)(hs:s.size≤800) :
  Calls Tryz.prog 143 #[.string s] w fun e w'=>e=.returned (.int .i64 (kjf 801 s 0))∧w'=w:=by
 go_enter Tryz.func143,Tryz.ntmps143
 go_wp2
 go_loop [3] (fun i=>∃ k:Nat,k≤s.size∧i=.int .i64 k∧∀ j,0≤j→j<k→kj9 s j=true) (fun i=>s.size-(intOf i).toNat)
 case atStart=>exact ⟨0,tu _,rfl,fun j _ h=>by omega⟩
 case round=>
  obtain ⟨k,hk,rfl,hall⟩:=hrel;have HA:=hide hall;clear hall;by_cases hlt:k<s.size
  ·cases hl:kj9 s k
   ·have HE:=hide (zvj hl 801 0 (tu _) (by omega) (ku HA));go_wp2_with fail
    refine (kz6 _ _).mono ?_;rintro e w' ⟨rfl,rfl⟩;rw[kvz hlt,show inB 97 122 s k=false from hl];go_wp2
    go_ret
    rw[ku HE];exact ⟨rfl,rfl⟩
   ·go_wp2_with fail
    refine (kz6 _ _).mono ?_;rintro e w' ⟨rfl,rfl⟩;rw[kvz hlt,show inB 97 122 s k=true from hl];go_wp2
    go_round
    case rel=>exact ⟨k+1,by omega,by go_num,fun j h1 h2=>if e:j=k then e ▸ hl else (ku HA) j h1 (by omega)⟩
    case measure=>simp[intOf];omega
  ·have hl:kj9 s k=false:=by
    cases h:kj9 s k
    ·rfl
    ·exact absurd (jka h) hlt
   have HE:=hide (zvj hl 801 0 (tu _) (by omega) (ku HA));go_wp2
   go_ret
   rw[ku HE];exact ⟨rfl,rfl⟩
theorem zxy (s p:ByteArray)(w:World) :
  Calls Tryz.prog 145 #[.string s,.string p] w fun e w'=>e=.returned (.bool (decide (p.size≤s.size)&&((s.extract 0 p.size).toList==p.toList)))∧w'=w:=by
 have inner:Calls Tryz.prog 199 #[.string s,.string p] w fun e w'=>e=.returned (.bool (decide (p.size≤s.size)&&((s.extract 0 p.size).toList==p.toList)))∧w'=w:=by
  by_cases h:p.size≤s.size
  ·go_enter Tryz.func199,Tryz.ntmps199
   go_wp2
   go_ret
   exact ⟨jf (by simp[h]),rfl⟩
  ·go_enter Tryz.func199,Tryz.ntmps199
   go_wp2
   go_ret
   exact ⟨jf (by simp[h]),rfl⟩
 go_enter Tryz.func145,Tryz.ntmps145
 go_wp2_with fail
 refine inner.mono ?_;rintro e w' ⟨rfl,rfl⟩;go_wp2
 go_ret
 exact ⟨rfl,rfl⟩
theorem zxw (s:ByteArray)(c:Int)(w:World) :
  Calls Tryz.prog 146 #[.string s,.int .u8 c] w fun e w'=>e=.returned (.int .i64 (Lib.indexByte s.data.toList c.toNat.toUInt8))∧w'=w:=by
 have inner:Calls Tryz.prog 200 #[.string s,.int .u8 c] w fun e w'=>e=.returned (.int .i64 (Lib.indexByte s.data.toList c.toNat.toUInt8))∧w'=w:=by
  go_enter Tryz.func200,Tryz.ntmps200
  go_wp2
  rw[run_callFunc_extern Tryz.func237 (by kernel_rfl) (by kernel_rfl) (by kernel_rfl) (e:=Extern.BytealgIndexByte.indexByte) (by kernel_rfl),Lib.run_indexByteString];simp only[Result.andThen];rw[Oper.upon_value];go_wp2
  go_ret
  exact ⟨rfl,rfl⟩
 go_enter Tryz.func146,Tryz.ntmps146
 go_wp2_with fail
 refine inner.mono ?_;rintro e w' ⟨rfl,rfl⟩;go_wp2
 go_ret
 exact ⟨rfl,rfl⟩
theorem qxi (c:UInt8):∀ l:List UInt8,(0≤Lib.indexByte l c↔l.any (fun b=>b.toNat==c.toNat)=true)
 | []=>by simp[Lib.indexByte]
 | b::l=>by
  have ih:=qxi c l;have hg:=Lib.indexByte_ge l c;rw[Lib.indexByte,Qi];cases h:(b==c)
  ·have hn:(b.toNat==c.toNat)=false:=by
    cases hh:(b.toNat==c.toNat)
    ·rfl
    ·rw[wP] at hh;have:b=c:=UInt8.toNat_inj.mp hh;subst this;simp at h
   rw[hn,lQ,←ih];simp only[tZ,if_false];by_cases h1:Lib.indexByte l c=-1
   ·simp[h1]
   ·have:(Lib.indexByte l c==-1)=false:=by simpa using h1
    rw[this];simp only[tZ,if_false];omega
  ·rw[wP] at h;subst h;simp
theorem vqx (s:ByteArray)(h:0<s.size):decide ((0:Int)≤Lib.indexByte zj2.data.toList (((s[0]).toNat:Int).toNat.toUInt8))=kwn s 0:=by
 have a1:s.get! 0=s[0]:=getElem!_pos s.data 0 h;have e:(((s[0]).toNat:Int).toNat.toUInt8)=s[0]:=by
  rw[Int.toNat_natCast];simp
 rw[e];unfold kwn;rw[a1,xg];have i:=qxi (s[0]) zj2.data.toList;cases hh:zj2.data.toList.any (fun c=>c.toNat==(s[0]).toNat)
 ·rw[hh] at i;rw[decide_eq_false_iff_not];intro hc;have:=i.mp hc;cases this
 ·rw[decide_eq_true_iff];exact i.mpr hh
def qxb (t:Tok):Nat:=if t.kind.toList.isEmpty then 0 else t.text.size
theorem jvm {s:ByteArray}(hl:kj9 s 0=true):qxb (jg s 0)=kjf 801 s 0:=by
 have hb:=qza s 801 0 (tu _);have hk:(jg s 0).kind.toList.isEmpty=false:=by
  unfold jg;rw[if_pos hl];simp only;split
  ·rw[show qzp.toList=[119,111,114,100] from zy _];rfl
  ·rw[show kq4.toList=[110,97,109,101] from zy _];rfl
 unfold qxb;rw[hk];unfold jg;rw[if_pos hl];simp only[tZ,if_false];rw[extract_size _ _ _ hb.2];omega
theorem jjs {s:ByteArray}(hs:0<s.size)(hl:kj9 s 0=false)(hd:kjq s 0=true):qxb (jg s 0)=if kjq s 1 then 0 else 1:=by
 unfold qxb jg;simp only[hl,hd,tZ,if_false,if_true,Qx];cases h:kjq s 1
 ·simp only[tZ,if_false];rw[show kw6.toList=[100,105,103,105,116] from zy _,extract_size _ _ _ (by omega)];rfl
 ·simp only[if_true];rw[show zkl.toList=[] from zy _];rfl
theorem vq4 {s:ByteArray}(hl:kj9 s 0=false)(hd:kjq s 0=false)(h2:ky7 s 0=true):qxb (jg s 0)=2:=by
 have:0+1<s.size:=by unfold ky7 at h2;simp at h2;omega
 unfold qxb jg;simp only[hl,hd,h2,tZ,if_false,if_true];rw[show kwq.toList=[115,105,103,110] from zy _,extract_size _ _ _ (by omega)];rfl
theorem vq5 {s:ByteArray}(hs:0<s.size)(hl:kj9 s 0=false)(hd:kjq s 0=false)(h2:ky7 s 0=false):qxb (jg s 0)=if kwn s 0 then 1 else 0:=by
 unfold qxb jg;simp only[hl,hd,h2,tZ,if_false];cases h:kwn s 0
 ·simp only[tZ,if_false];rw[show zkl.toList=[] from zy _];rfl
 ·simp only[if_true];rw[show kwq.toList=[115,105,103,110] from zy _,extract_size _ _ _ (by omega)];rfl
theorem jk1 (s:ByteArray):ky7 s 0=((decide (2≤s.size)&&((s.extract 0 2).toList==[61,61]))||(decide (2≤s.size)&&((s.extract 0 2).toList==[33,61]))):=by
 unfold ky7;simp only[Qx];by_cases h:2≤s.size
 ·have h1:1<s.size:=by omega
  simp[h,h1]
 ·have h1:¬1<s.size:=by omega
  simp[h,h1]
theorem qjq (s:ByteArray)(a b:UInt8)(w:World) :
  Calls Tryz.prog 145 #[.string s,.string ⟨#[a,b]⟩] w fun e w'=>e=.returned (.bool (decide (2≤s.size)&&((s.extract 0 2).toList==[a,b])))∧w'=w:=by
 have h:=zxy s ⟨#[a,b]⟩ w;rw[show (⟨#[a,b]⟩:ByteArray).toList=[a,b] from zy _] at h;exact h
theorem zq3 (s:ByteArray)(w:World)(h0:0<s.size)(hs:s.size≤800) :
  Calls Tryz.prog 87 #[.string s] w fun e w'=>e=.returned (.int .i64 (qxb (jg s 0)))∧w'=w:=by
 cases hl:kj9 s 0
 ·cases hd:kjq s 0
  ·cases h2:ky7 s 0
   ·have HT:=hide (vq5 h0 hl hd h2);rw[jk1,fC] at h2;go_enter Tryz.func87,Tryz.ntmps87
    go_wp2_with fail
    refine (kz6 _ _).mono ?_;rintro e w' ⟨rfl,rfl⟩;rw[kvz h0,show inB 97 122 s 0=false from hl];go_wp2_with fail
    refine (kvo _ _).mono ?_;rintro e w' ⟨rfl,rfl⟩;rw[kvz h0,show inB 48 57 s 0=false from hd];go_wp2_with fail
    refine (qjq s 61 61 _).mono ?_;rintro e w' ⟨rfl,rfl⟩;rw[h2.1];go_wp2_with fail
    refine (qjq s 33 61 _).mono ?_;rintro e w' ⟨rfl,rfl⟩;rw[h2.2];go_wp2_with fail
    refine (zxw _ _ _).mono ?_;rintro e w' ⟨rfl,rfl⟩;have hsi:=vqx s h0;unfold zj2 at hsi;generalize Lib.indexByte _ _=z at hsi ⊢;cases hsg:kwn s 0
    ·rw[hsg] at HT hsi;have hz:¬0≤z:=by simpa using hsi
     go_wp2
     go_ret
     rw[ku HT];exact ⟨rfl,rfl⟩
    ·rw[hsg] at HT hsi;have hz:0≤z:=by simpa using hsi
     go_wp2
     go_ret
     rw[ku HT];exact ⟨rfl,rfl⟩
   ·have HT:=hide (vq4 hl hd h2);rw[jk1] at h2;go_enter Tryz.func87,Tryz.ntmps87
    go_wp2_with fail
    refine (kz6 _ _).mono ?_;rintro e w' ⟨rfl,rfl⟩;rw[kvz h0,show inB 97 122 s 0=false from hl];go_wp2_with fail
    refine (kvo _ _).mono ?_;rintro e w' ⟨rfl,rfl⟩;rw[kvz h0,show inB 48 57 s 0=false from hd];go_wp2_with fail
    refine (qjq s 61 61 _).mono ?_;rintro e w' ⟨rfl,rfl⟩;cases hp:(decide (2≤s.size)&&((s.extract 0 2).toList==[61,61]))
    ·rw[hp,lQ] at h2;go_wp2_with fail
     refine (qjq s 33 61 _).mono ?_;rintro e w' ⟨rfl,rfl⟩;rw[h2];go_wp2
     go_ret
     rw[ku HT];exact ⟨rfl,rfl⟩
    ·clear h2;go_wp2
     go_ret
     rw[ku HT];exact ⟨rfl,rfl⟩
  ·have HT:=hide (jjs h0 hl hd);go_enter Tryz.func87,Tryz.ntmps87
   go_wp2_with fail
   refine (kz6 _ _).mono ?_;rintro e w' ⟨rfl,rfl⟩;rw[kvz h0,show inB 97 122 s 0=false from hl];go_wp2_with fail
   refine (kvo _ _).mono ?_;rintro e w' ⟨rfl,rfl⟩;rw[kvz h0,show inB 48 57 s 0=true from hd];by_cases h1:1<s.size
   ·go_wp2_with fail
    refine (kvo _ _).mono ?_;rintro e w' ⟨rfl,rfl⟩;rw[kvz h1];cases hd1:kjq s 1
    ·rw[hd1] at HT;rw[show inB 48 57 s 1=false from hd1];go_wp2
     go_ret
     rw[ku HT];exact ⟨rfl,rfl⟩
    ·rw[hd1] at HT;rw[show inB 48 57 s 1=true from hd1];go_wp2
     go_ret
     rw[ku HT];exact ⟨rfl,rfl⟩
   ·have hd1:kjq s 1=false:=qws h1;rw[hd1] at HT;go_wp2
    go_ret
    rw[ku HT];exact ⟨rfl,rfl⟩
 ·have HT:=hide (jvm hl);go_enter Tryz.func87,Tryz.ntmps87
  go_wp2_with fail
  refine (kz6 _ _).mono ?_;rintro e w' ⟨rfl,rfl⟩;rw[kvz h0,show inB 97 122 s 0=true from hl];go_wp2_with fail
  refine (zqc s _ hs).mono ?_;rintro e w' ⟨rfl,rfl⟩;go_wp2
  go_ret
  rw[ku HT];exact ⟨rfl,rfl⟩
def kqq (t:Tok):List Value:=[.string t.text,.int .i64 t.at_]
def ptV (t:Tok):Value:=.agg #[.string t.text,.int .i64 t.at_]
def bf (l:List Tok):List Value:=l.flatMap kqq
theorem kya (l:List Tok)(t:Tok):bf (l++[t])=bf l++kqq t:=by simp[bf]
theorem kvn (t:Tok):∀ u∈kqq t,u.oneCell'=true:=by
 intro u h;simp only[kqq,tK,nY,or_false] at h;rcases h with rfl|rfl<;>rfl
theorem Tryz.infoToken:(Tryz.prog.info? 194).map (fun i=>(i.zero,i.size,i.bytes))=some (some (.agg #[.string ⟨#[]⟩,.int .i64 0]),2,24):=by kernel_rfl
def zwd (s:ByteArray)(w:World)(v i:Value)(wr:World):Prop:=
 ∃ (k f:Nat) (acc:List Tok),k≤s.size∧i=.int .i64 k∧acc.length≤k∧s.size-k<f∧kqj f s k acc=gq s ∧
  wr.ownsRow w.heap.size 194 2 v acc.length (bf acc)∧Below w.heap.size w wr
def vzc (s:ByteArray)(w:World)(e:Ending)(w':World):Prop:=
 Below w.heap.size w w'∧(((gq s).2=none∧∃ v,e=.returned (.tuple #[v,.int .i64 0,.bool true])∧w'.ownsRow w.heap.size 194 2 v (gq s).1.length (bf (gq s).1)) ∨
  ∃ k:Nat,(gq s).2=some k∧e=.returned (.tuple #[.slice none 0 0,.int .i64 k,.bool false]))
theorem vzf {t:Tok}(h:t.kind.toList.isEmpty=false):qxb t=t.text.size:=by unfold qxb;rw[h];rfl
theorem vzo {t:Tok}(h:t.kind.toList.isEmpty=true):qxb t=0:=by unfold qxb;rw[h];rfl
theorem zzb {s:ByteArray}{k:Nat}(h:k<s.size):((((s[k]).toNat:Int)==32)||(((s[k]).toNat:Int)==10))=kz2 s k:=by simp[kz2,h]
theorem zx9 {f:Nat}{s:ByteArray}{k:Nat}{acc:List Tok}{w wr:World}{v:Value}(hb:kz2 s k=true)(hk:k<s.size)(hf:kqj f s k acc=gq s)(hfu:s.size-k<f)(hac:acc.length≤k)
  (hown:wr.ownsRow w.heap.size 194 2 v acc.length (bf acc)) (hbel:Below w.heap.size w wr):zwd s w v (.int .i64 ((k:Int)+1)) wr:=by
 obtain ⟨f,rfl⟩:∃ g,f=g+1:=⟨f-1,by omega⟩;rw[zwa hb hk] at hf;exact ⟨k+1,f,acc,by omega,by go_num,by omega,by omega,hf,hown,hbel⟩
theorem jvd (s:ByteArray)(k:Nat)(hk:k<s.size):s.extract k (k+(jg s k).text.size)=(jg s k).text:=by
 unfold jg;have e7:=qza s 800 (k+1) (by omega);split
 ·rename_i hl;have h2:kjf 801 s k=kjf 800 s (k+1):=by rw[kjf,if_pos hl]
  simp only;rw[extract_size _ _ _ (by omega),show k+(kjf 801 s k-k)=kjf 801 s k by omega]
 ·split
  ·simp only;rw[extract_size _ _ _ (by omega),show k+(k+1-k)=k+1 by omega]
  ·split
   ·rename_i h2;have:k+1<s.size:=by unfold ky7 at h2;simp at h2;exact h2.1
    simp only;rw[extract_size _ _ _ (by omega),show k+(k+2-k)=k+2 by omega]
   ·simp only;rw[extract_size _ _ _ (by omega),show k+(k+1-k)=k+1 by omega]
theorem vqw (s:ByteArray)(w:World)(hs:s.size≤800) :
  Calls Tryz.prog 51 #[.string s] w fun e w'=>vzc s w e w':=by
 obtain ⟨i0,hi,hz0,hz1,hz2⟩:=info_parts Tryz.infoToken;go_enter Tryz.func51,Tryz.ntmps51
 go_wp2
 go_loopw [2,5,6] (fun v i _ wr=>zwd s w v i wr) (fun _ i _ _=>s.size-(intOf i).toNat)
 case atStart=>exact ⟨0,801,[],by omega,rfl,by simp,by omega,rfl,rP _ _ _ _,Below.refl _ _⟩
 case round=>
  obtain ⟨k,f,acc,hk,rfl,hac,hf,hfe,hown,hbel⟩:=hrel;have HF:=hide hfe;have HO:=hide hown;have HB:=hide hbel;have hsz:=hbel.size;clear hfe hown hbel;by_cases hlt:k<s.size
  ·cases hbl:kz2 s k
   ·go_wp2_with fail
    refine (qyh _ _).mono ?_;rintro e w' ⟨rfl,rfl⟩;rw[zzb hlt,hbl];go_wp2_with fail
    have hsh:=zwe s k hlt;have htl:qxb (jg (s.extract k s.size) 0)=qxb (jg s k):=by unfold qxb;rw[hsh.1,hsh.2]
    refine (zq3 (s.extract k s.size) _ (by rw[extract_size _ _ _ (wW _)];omega) (by rw[extract_size _ _ _ (wW _)];omega)).mono ?_;rintro e w' ⟨rfl,rfl⟩;rw[htl];have htx:=qkq s k hlt;have hcut:=jvd s k hlt;have HF1:=hide (jjn hbl hlt (ku HF));have hat:=zwi s k;clear hsh htl HF;generalize jg s k=t at htx HF1 hcut hat ⊢;cases hem:t.kind.toList.isEmpty
    ·rw[vzf hem];have hne:¬((t.text.size:Int)=0):=by omega
     have hcut':s.extract k (k+t.text.size)=t.text:=hcut;have hadd:((k:Int)+(t.text.size:Int)).toNat=k+t.text.size:=by omega
     go_wp2_with (at_builtin;refine wpList_append_own _ rfl _ _ 89 rfl w.heap.size 194 i0 _ 2 24 Tryz.underlying89 hi hz0 hz1 hz2 rfl (by decide) _ _ _ rfl ((ku HO).alloc _) ⟨w'.heap.size,0,none⟩ 1 1 (kqq t) rfl rfl ?c1 ?c2 ?c3 ?c4 ?c5 ?_)
     case c1=>
      intro j u hu;have:=kj3 w' _ (kqq t) 194 rfl j u hu;simp only[kqq] at this;rw[hat] at this;exact this
     case c2=>exact kvn t
     case c3=>unfold maxLen;omega
     case c4=>omega
     case c5=>simp;omega
     intro v' w2 hown' hgrow _;have hb2:Below w.heap.size w w2:=((ku HB).alloc (by omega) _).grown hgrow (by simp;omega) (yw (ku HO));have HO2:=hide hown';have HB2:=hide hb2;clear hown' hgrow hb2;have R:zwd s w v' (.int .i64 ((k:Int)+t.text.size)) w2:=
      ⟨k+t.text.size,f-1,acc++[t],by omega,by go_num,by simp;omega,by omega,((ku HF1) (f-1) (by omega)).2 hem,by rw[kya,wU];exact ku HO2,ku HB2⟩
     have HR:=hide R;clear R;go_wp2
     go_roundw
     case rel=>exact ku HR
     case measure=>simp[intOf];omega
    ·rw[vzo hem];go_wp2
     go_ret3
     exact ⟨ku HB,Or.inr ⟨k,by rw[((ku HF1) (f-1) (by omega)).1 hem],rfl⟩⟩
   ·have HR:=hide (zx9 hbl hlt (ku HF) hf hac (ku HO) (ku HB));go_wp2_with fail
    refine (qyh _ _).mono ?_;rintro e w' ⟨rfl,rfl⟩;rw[zzb hlt,hbl];go_wp2
    go_roundw
    case rel=>exact ku HR
    case measure=>simp[intOf];omega
  ·go_wp2_with (at_builtin;refine wpList_append_own _ rfl _ _ 89 rfl w.heap.size 194 i0 _ 2 24 Tryz.underlying89 hi hz0 hz1 hz2 rfl (by decide) _ _ _ rfl ((ku HO).alloc _) ⟨wr.heap.size,0,none⟩ 1 1 (kqq (kq2 s.size)) rfl rfl ?d1 ?d2 ?d3 ?d4 ?d5 ?_)
   case d1=>exact kj3 wr _ (kqq (kq2 s.size)) _ rfl
   case d2=>exact kvn _
   case d3=>unfold maxLen;omega
   case d4=>omega
   case d5=>simp;omega
   intro v' w2 hown' hgrow _;have hb2:Below w.heap.size w w2:=((ku HB).alloc (by omega) _).grown hgrow (by simp;omega) (yw (ku HO));obtain ⟨f,rfl⟩:∃ g,f=g+1:=⟨f-1,by omega⟩;have hfe:=ku HF;rw[kqj,if_neg hlt] at hfe;have HE:=hide hfe;have HO2:=hide hown';have HB2:=hide hb2;clear hown' hgrow hfe hb2 HF HO HB;go_wp2
   go_ret3
   refine ⟨ku HB2,Or.inl ⟨by rw[←ku HE],_,rfl,?_⟩⟩;have:=ku HO2;rw[←ku HE,kya,wU];exact this
def jk:Tok:={ kind:=⟨#[]⟩,text:=⟨#[]⟩,at_:=0 }
def kq1 (L:List Tok)(k:List UInt8)(st:RS):Bool:=!st.bad&&((tk L st.at_).kind.toList==k)
def qh (L:List Tok)(k:List UInt8)(st:RS):Tok × RS:=
 if kq1 L k st then (tk L st.at_,{ st with at_:=st.at_+1 }) else (jk,{ st with bad:=true })
structure ELab where
 op:ByteArray
 name:Tok
 index:Tok
 n:Int
abbrev PX:=Go.Deep.BT ELab
def kkb:ByteArray:=⟨#[112,108,97,99,101]⟩
def vg (L:List Tok)(st:RS):PX × RS:=
 let k:=qh L [110,97,109,101] st
 if ql L [91] k.2 then
  let i:=qh L [110,97,109,101] (qg L [91] k.2)
  (.node 0 0 { op:=kkb,name:=k.1,index:=i.1,n:=0 } .nil .nil,qg L [93] i.2)
 else (.node 0 0 { op:=kkb,name:=k.1,index:=jk,n:=0 } .nil .nil,k.2)
def kw7:PX:=.node 0 0 { op:=⟨#[]⟩,name:=jk,index:=jk,n:=0 } .nil .nil
def opX (o:ByteArray)(a b:PX):PX:=.node 0 0 { op:=o,name:=jk,index:=jk,n:=0 } a b
def zq8 (n:Int):PX:=.node 0 0 { op:=kw6,name:=jk,index:=jk,n:=n } .nil .nil
def gu (t:ByteArray):Int:=if h:0<t.size then ((t[0]).toNat:Int)-48 else 0
def kw0:Nat→List ByteArray
 | 0=>[⟨#[124]⟩]
 | 1=>[⟨#[38]⟩]
 | 2=>[⟨#[61,61]⟩,⟨#[33,61]⟩,⟨#[60]⟩]
 | _=>[⟨#[43]⟩,⟨#[45]⟩]
def kz7 (n:Nat)(t:Tok):Bool:=(kw0 n).any (fun s=>s.toList==t.text.toList)&&(t.kind.toList==[115,105,103,110])
def isConst (t:Tok):Bool:=(t.kind.toList==[119,111,114,100])&&((t.text.toList==[116,114,117,101])||(t.text.toList==[102,97,108,115,101])||(t.text.toList==[110,111,110,101]))
def qvm (t:Tok):Bool:=t.kind.toList==[100,105,103,105,116]
def qyq:ByteArray:=⟨#[33]⟩
def rX:Nat→Nat→PX→List Tok→RS→PX × RS
 | 0,_,x,_,st=>(x,st)
 | f+1,tag,x,L,st=>
  if tag<4 then
   if st.bad then (kw7,st)
   else rX f (10+tag) (rX f (tag+1) .nil L st).1 L (rX f (tag+1) .nil L st).2
  else if tag<10 then
   if st.bad then (kw7,st) else rX f 20 .nil L st
  else if tag<20 then
   if st.bad then (x,st)
   else if kz7 (tag-10) (tk L st.at_) then
    if tag=12 then (opX (tk L st.at_).text x (rX f (tag-9) .nil L { st with at_:=st.at_+1 }).1,(rX f (tag-9) .nil L { st with at_:=st.at_+1 }).2)
    else rX f tag (opX (tk L st.at_).text x (rX f (tag-9) .nil L { st with at_:=st.at_+1 }).1) L (rX f (tag-9) .nil L { st with at_:=st.at_+1 }).2
   else (x,st)
  else
   if st.bad then (kw7,st)
   else if ql L [33] st then
    if tag=32 then (kw7,{ st with bad:=true })
    else (opX qyq (rX f (tag+1) .nil L (qg L [33] st)).1 .nil,(rX f (tag+1) .nil L (qg L [33] st)).2)
   else if ql L [40] st then ((rX f 0 .nil L (qg L [40] st)).1,qg L [41] (rX f 0 .nil L (qg L [40] st)).2)
   else if isConst (tk L st.at_) then (opX (tk L st.at_).text .nil .nil,{ st with at_:=st.at_+1 })
   else if qvm (tk L st.at_) then (zq8 (gu (tk L st.at_).text),{ st with at_:=st.at_+1 })
   else vg L st
theorem zi (L:List Tok)(s:List UInt8)(st:RS):st.at_≤(qg L s st).at_:=by
 unfold qg;split
 ·exact wW _
 ·simp
theorem yx (L:List Tok)(s:List UInt8)(st:RS):st.at_≤(qh L s st).2.at_:=by
 unfold qh;split<;>simp
theorem qyv (L:List Tok)(st:RS):st.at_≤(vg L st).2.at_:=by
 unfold vg;simp only;have h1:=yx L [110,97,109,101] st;split
 ·have h2:=zi L [91] (qh L [110,97,109,101] st).2;have h3:=yx L [110,97,109,101] (qg L [91] (qh L [110,97,109,101] st).2);have h4:=zi L [93] (qh L [110,97,109,101] (qg L [91] (qh L [110,97,109,101] st).2)).2;exact rV h1 (rV h2 (rV h3 h4))
 ·exact h1
theorem kxd:∀ (f tag:Nat) (x:PX) (L:List Tok) (st:RS),st.at_≤(rX f tag x L st).2.at_
 | 0,_,_,_,_=>wW _
 | f+1,tag,x,L,st=>by
  have ih:=kxd f;rw[rX];split
  ·split
   ·exact wW _
   ·exact rV (ih _ _ _ _) (ih _ _ _ _)
  ·split
   ·split
    ·exact wW _
    ·exact ih _ _ _ _
   ·split
    ·split
     ·exact wW _
     ·split
      ·have h1:=ih (tag-9) .nil L { st with at_:=st.at_+1 };simp only at h1;split
       ·exact rV (by omega) h1
       ·exact rV (rV (by omega) h1) (ih _ _ _ _)
      ·exact wW _
    ·split
     ·exact wW _
     ·split
      ·split
       ·exact wW _
       ·exact rV (zi L [33] st) (ih _ _ _ _)
      ·split
       ·exact rV (zi L [40] st) (rV (ih _ _ _ _) (zi L [41] _))
       ·split
        ·simp
        ·split
         ·simp
         ·exact qyv L st
theorem qz7 {L:List Tok}{s:List UInt8}{st:RS}(hb:(qg L s st).bad=false):(qg L s st).at_=st.at_+1:=by
 unfold qg at hb ⊢;split at hb
 ·simp at hb
 ·rename_i h;rw[if_neg h]
theorem zvl (f n:Nat)(x:PX)(L:List Tok)(st:RS):rX (f+1) (20+n) x L st =
  if st.bad then (kw7,st)
  else if ql L [33] st then
   if n=12 then (kw7,{ st with bad:=true })
   else (opX qyq (rX f (20+(n+1)) .nil L (qg L [33] st)).1 .nil,(rX f (20+(n+1)) .nil L (qg L [33] st)).2)
  else if ql L [40] st then ((rX f 0 .nil L (qg L [40] st)).1,qg L [41] (rX f 0 .nil L (qg L [40] st)).2)
  else if isConst (tk L st.at_) then (opX (tk L st.at_).text .nil .nil,{ st with at_:=st.at_+1 })
  else if qvm (tk L st.at_) then (zq8 (gu (tk L st.at_).text),{ st with at_:=st.at_+1 })
  else vg L st:=by
 rw[rX,if_neg (by omega),if_neg (by omega),if_neg (by omega)];simp only[show (20+n=32)=(n=12) from by simp;omega,Qp]
theorem below_alloc1 (w:World)(o:Obj):Below w.heap.size w (w.alloc o):=(Below.refl _ _).alloc (wW _) _
end Go.Proofs.YtpmcnonmkghokaaGreatDoor

import Derived.Test.YtpmcnonmkghokaaGreatDoorT08
import Derived.BigQuiet
import Derived.Shelf.SlSortCmp.NoneTotal
import Derived.Shelf.Spec.SlicesInsertGrow
import Derived.Shelf.Slices.ReverseS
import Derived.Shelf.SlLaysF
import Derived.Test.YtpmcnonmkghokaaGreatDoorRows
set_option maxHeartbeats 4000000
set_option maxRecDepth 100000
set_option linter.unusedVariables false
set_option linter.unusedSimpArgs false
namespace Go.Proofs.YtpmcnonmkghokaaGreatDoor
open Go.RowKit
attribute [local go_sem ↓] Go.wp_at_zero Go.wp_at_succ
def kko (kd:IntKind)(w:World)(v:Value)(l:List Int):Prop:=∃ xa xc,v=.slice xa l.length xc∧(0<l.length→∃ g,xa=some ⟨g,0,none⟩∧g<w.heap.size∧∀ j (hj:j<l.length),w.cell? ⟨g,j,none⟩=some (.int kd l[j]))
theorem kya {kd:IntKind}{w:World}{lo e:Nat}{v:Value}{l:List Int}(h:w.ownsRow lo e 1 v l.length (l.map (Value.int kd))):kko kd w v l:=by
 obtain ⟨xa,xc,e1,hv⟩:=qm h;refine ⟨xa,xc,e1,fun h0=>?_⟩;obtain ⟨g,e2,_,h2,h3⟩:=hv 0 h0;refine ⟨g,e2,h2,fun j hj=>?_⟩;rw[h3 j (by omega),sW,wW hj];rfl
theorem kko.cells {kd:IntKind}{w w':World}{v:Value}{l:List Int}(h:kko kd w v l)(hs:w.heap.size≤w'.heap.size)(hc:∀ (g:Nat) (cs:Array Value) (e:Nat) (fr:Nat × Nat),w.heap[g]?=some (Obj.cells cs e fr)→(∃ x,cs[0]?=some (Value.int kd x))→w'.heap[g]?=w.heap[g]?):kko kd w' v l:=by
 obtain ⟨xa,xc,e1,hv⟩:=h;refine ⟨xa,xc,e1,fun h0=>?_⟩;obtain ⟨g,e2,h2,h3⟩:=hv h0;refine ⟨g,e2,by omega,fun j hj=>?_⟩;have h4:=h3 0 h0;have h5:=h3 j hj;unfold World.cell? at h4 h5 ⊢;cases hg:w.heap[g]? with
 | none=>rw[hg] at h4;simp at h4
 | some o=>
  rw[hg] at h4 h5;cases o with
  | cells cs e fr=>
   show (match w'.heap[g]? with|some (Obj.cells c _ _)=>if _ then none else c[j]?|_=>none)=_;rw[hc g cs e fr hg ⟨_,by simpa using h4⟩,hg];exact h5
  | _=>simp at h4
theorem zkl {a b:List Int}{k:Nat}(ha:k<a.length)(hb:k<b.length):cmpL (a.drop k) (b.drop k)=if a[k]==b[k] then cmpL (a.drop (k+1)) (b.drop (k+1)) else kyh a[k] b[k]:=by
 rw[rM ha,rM hb,cmpL]
theorem jqf {a b:List Int}{k:Nat}(h:k=min a.length b.length):cmpL (a.drop k) (b.drop k)=kyh a.length b.length:=by
 by_cases h1:a.length<b.length
 ·have e:k=a.length:=by omega
  subst e;rw[nV];rw[jks (by omega)];cases hd:b.drop a.length with
  | nil=>have:=congrArg List.length hd;simp at this;omega
  | cons _ _=>rfl
 ·have e:k=b.length:=by omega
  subst e;rw[nV];by_cases h2:b.length<a.length
  ·have:kyh (a.length:Int) (b.length:Int)=1:=by unfold kyh;rw[if_neg (by omega),if_pos (by omega)]
   rw[this];cases hd:a.drop b.length with
   | nil=>have:=congrArg List.length hd;simp at this;omega
   | cons _ _=>rfl
  ·have e:a.length=b.length:=by omega
   rw[←e,nV];unfold kyh;rw[if_neg (by omega),if_neg (by omega)];rfl
theorem jww (x:Int)(w:World):Calls Tryz.prog 276 #[.int .i64 x] w fun e w'=>e=.returned (.bool false)∧w'=w:=by
 go_enter Tryz.func276,Tryz.ntmps276
 go_wp2
 go_ret
 exact ⟨by simp,rfl⟩
theorem qkw (x y:Int)(w:World):Calls Tryz.prog 253 #[.int .i64 x,.int .i64 y] w fun e w'=>e=.returned (.int .i64 (kyh x y))∧w'=w:=by
 go_enter Tryz.func253,Tryz.ntmps253
 go_wp2_with (go_at_call 276;refine (jww _ _).mono ?_;rintro e w' ⟨rfl,hw⟩;rw[hw])
 all_goals (go_ret;refine ⟨?_,rfl⟩;unfold kyh;(repeat' split)<;>first|rfl|(exfalso;omega))
theorem jql (x y:Int)(w:World):Calls Tryz.prog 253 #[.int .i64 x,.int .i64 y] w fun e w'=>e=.returned (.int .i64 (kyh x y))∧∃ q,w'=w.drewN q:=(qkw x y w).mono fun _ _ h=>⟨h.1,0,h.2⟩
theorem jqo (w:World)(a b:List Int)(va vb:Value)(hA:kko .i64 w va a)(hB:kko .i64 w vb b)(hal:a.length≤1000000)(hbl:b.length≤1000000) :
  Calls Tryz.prog 226 #[va,vb] w fun e w'=>e=.returned (.int .i64 (cmpL a b))∧∃ q,w'=w.drewN q:=by
 obtain ⟨xa,xc,e1,hva⟩:=hA;subst e1;obtain ⟨xb,xd,e1,hvb⟩:=hB;subst e1;have HVA:=hide hva;have HVB:=hide hvb;clear hva hvb;obtain ⟨m,hm⟩:∃ m,m=min a.length b.length:=⟨_,rfl⟩;have hmin:min (a.length:Int) (b.length:Int)=(m:Int):=by omega
 have HM:=hide hm;clear hm;go_enter Tryz.func226,Tryz.ntmps226
 go_wp2
 go_loopw [5,11] (fun _ i wr=>∃ k:Nat,i=.int .i64 k∧k≤m∧cmpL (a.drop k) (b.drop k)=cmpL a b∧∃ q,wr=w.drewN q) (fun _ i _=>m-(intOf i).toNat)
 case atStart=>exact ⟨0,rfl,rG _,rfl,0,rfl⟩
 case round=>
  obtain ⟨k,rfl,hk,hr,q,rfl⟩:=hrel;have hm2:=ku HM;by_cases hlt:k<m
  ·have hka:k<a.length:=by omega
   have hkb:k<b.length:=by omega
   obtain ⟨g1,rfl,_,hc1⟩:=ku HVA (by omega);obtain ⟨g2,rfl,_,hc2⟩:=ku HVB (by omega);have c1:w.cell? ⟨g1,k,none⟩=some (.int .i64 a[k]):=hc1 k hka;have c2:w.cell? ⟨g2,k,none⟩=some (.int .i64 b[k]):=hc2 k hkb;have hd:=zkl hka hkb;rw[hr] at hd;have HR:=hide hd;generalize a[k]=x at *;generalize b[k]=y at *;clear hc1 hc2 hr hd hm2;by_cases hxy:x=y
   ·subst hxy;go_wp2
    go_quiet (fail)
    go_wp2
    go_roundw
    case rel=>exact ⟨k+1,by go_num,by omega,by have:=ku HR;rw[this];simp,_,rfl⟩
    case measure=>simp[intOf];omega
   ·have hb:(x==y)=false:=by simpa using hxy
    have hne:(x != y)=true:=by simp[hxy]
    go_wp2
    go_quiet (fail)
    go_wp2_with fail
    obtain ⟨w5,hw5⟩:∃ w5,w5=(w.drewN q).drewN nq:=⟨_,rfl⟩;rw[←hw5];have c3:w5.cell? ⟨g1,k,none⟩=some (.int .i64 x):=by rw[hw5];exact c1
    have c4:w5.cell? ⟨g2,k,none⟩=some (.int .i64 y):=by rw[hw5];exact c2
    have HW5:=hide (show ∃ n,w5=w.drewN n from ⟨q+nq,by rw[hw5,Jr]⟩);clear hw5 c1 c2;go_quiet (first|(go_at_call 253;refine Calls.quiet_of (jql _ _ _)))
    go_wp2
    go_ret
    obtain ⟨n5,hn5⟩:=ku HW5;refine ⟨by have:=ku HR;rw[this,hb];rfl,n5+nq,by rw[hn5,Jr]⟩
  ·have hke:k=m:=by omega
   subst hke;have he:=jqf (a:=a) (b:=b) hm2;rw[hr] at he;have HR:=hide he;clear he hr hm2;go_wp2_with fail
   refine (qkw _ _ _).mono ?_;rintro e w2 ⟨rfl,rfl⟩;go_wp2
   go_ret
   exact ⟨by rw[ku HR];rfl,_,rfl⟩
theorem jza (x:Int)(w:World):Calls Tryz.prog 277 #[.int .u8 x] w fun e w'=>e=.returned (.bool false)∧w'=w:=by
 go_enter Tryz.func277,Tryz.ntmps277
 go_wp2
 go_ret
 exact ⟨by simp,rfl⟩
theorem jqn (x y:Int)(w:World):Calls Tryz.prog 254 #[.int .u8 x,.int .u8 y] w fun e w'=>e=.returned (.int .i64 (kyh x y))∧w'=w:=by
 go_enter Tryz.func254,Tryz.ntmps254
 go_wp2_with (go_at_call 277;refine (jza _ _).mono ?_;rintro e w' ⟨rfl,hw⟩;rw[hw])
 all_goals (go_ret;refine ⟨?_,rfl⟩;unfold kyh;(repeat' split)<;>first|rfl|(exfalso;omega))
theorem zvo (x y:Int)(w:World):Calls Tryz.prog 254 #[.int .u8 x,.int .u8 y] w fun e w'=>e=.returned (.int .i64 (kyh x y))∧∃ q,w'=w.drewN q:=(jqn x y w).mono fun _ _ h=>⟨h.1,0,h.2⟩
theorem qvx (w:World)(a b:List Int)(va vb:Value)(hA:kko .u8 w va a)(hB:kko .u8 w vb b)(hal:a.length≤1000000)(hbl:b.length≤1000000) :
  Calls Tryz.prog 229 #[va,vb] w fun e w'=>e=.returned (.int .i64 (cmpL a b))∧∃ q,w'=w.drewN q:=by
 obtain ⟨xa,xc,e1,hva⟩:=hA;subst e1;obtain ⟨xb,xd,e1,hvb⟩:=hB;subst e1;have HVA:=hide hva;have HVB:=hide hvb;clear hva hvb;obtain ⟨m,hm⟩:∃ m,m=min a.length b.length:=⟨_,rfl⟩;have hmin:min (a.length:Int) (b.length:Int)=(m:Int):=by omega
 have HM:=hide hm;clear hm;go_enter Tryz.func229,Tryz.ntmps229
 go_wp2
 go_loopw [5,11] (fun _ i wr=>∃ k:Nat,i=.int .i64 k∧k≤m∧cmpL (a.drop k) (b.drop k)=cmpL a b∧∃ q,wr=w.drewN q) (fun _ i _=>m-(intOf i).toNat)
 case atStart=>exact ⟨0,rfl,rG _,rfl,0,rfl⟩
 case round=>
  obtain ⟨k,rfl,hk,hr,q,rfl⟩:=hrel;have hm2:=ku HM;by_cases hlt:k<m
  ·have hka:k<a.length:=by omega
   have hkb:k<b.length:=by omega
   obtain ⟨g1,rfl,_,hc1⟩:=ku HVA (by omega);obtain ⟨g2,rfl,_,hc2⟩:=ku HVB (by omega);have c1:w.cell? ⟨g1,k,none⟩=some (.int .u8 a[k]):=hc1 k hka;have c2:w.cell? ⟨g2,k,none⟩=some (.int .u8 b[k]):=hc2 k hkb;have hd:=zkl hka hkb;rw[hr] at hd;have HR:=hide hd;generalize a[k]=x at *;generalize b[k]=y at *;clear hc1 hc2 hr hd hm2;by_cases hxy:x=y
   ·subst hxy;go_wp2
    go_quiet (fail)
    go_wp2
    go_roundw
    case rel=>exact ⟨k+1,by go_num,by omega,by have:=ku HR;rw[this];simp,_,rfl⟩
    case measure=>simp[intOf];omega
   ·have hb:(x==y)=false:=by simpa using hxy
    have hne:(x != y)=true:=by simp[hxy]
    go_wp2
    go_quiet (fail)
    go_wp2_with fail
    obtain ⟨w5,hw5⟩:∃ w5,w5=(w.drewN q).drewN nq:=⟨_,rfl⟩;rw[←hw5];have c3:w5.cell? ⟨g1,k,none⟩=some (.int .u8 x):=by rw[hw5];exact c1
    have c4:w5.cell? ⟨g2,k,none⟩=some (.int .u8 y):=by rw[hw5];exact c2
    have HW5:=hide (show ∃ n,w5=w.drewN n from ⟨q+nq,by rw[hw5,Jr]⟩);clear hw5 c1 c2;go_quiet (first|(go_at_call 254;refine Calls.quiet_of (zvo _ _ _)))
    go_wp2
    go_ret
    obtain ⟨n5,hn5⟩:=ku HW5;refine ⟨by have:=ku HR;rw[this,hb];rfl,n5+nq,by rw[hn5,Jr]⟩
  ·have hke:k=m:=by omega
   subst hke;have he:=jqf (a:=a) (b:=b) hm2;rw[hr] at he;have HR:=hide he;clear he hr hm2;go_wp2_with fail
   refine (qkw _ _ _).mono ?_;rintro e w2 ⟨rfl,rfl⟩;go_wp2
   go_ret
   exact ⟨by rw[ku HR];rfl,_,rfl⟩
end Go.Proofs.YtpmcnonmkghokaaGreatDoor
namespace Go.Proofs.YtpmcnonmkghokaaGreatDoor
open Go.RowKit
structure yw (S:List Nat)(w w':World):Prop where
 os:w'.os=w.os
 tape:w'.tape=w.tape
 output:w'.output=w.output
 size:w.heap.size≤w'.heap.size
 block:∀ k,k<w.heap.size→k ∉ S→w'.heap[k]?=w.heap[k]?
theorem yw.refl (S:List Nat)(w:World):yw S w w:=⟨rfl,rfl,rfl,wX _,fun _ _ _=>rfl⟩
theorem yw.trans {S:List Nat}{a b c:World}(h:yw S a b)(k:yw S b c):yw S a c:=
 ⟨k.os.trans h.os,k.tape.trans h.tape,k.output.trans h.output,rQ h.size k.size,fun i hi hn=>(k.block i (lZ hi h.size) hn).trans (h.block i hi hn)⟩
theorem yw.wide {S S':List Nat}{w w':World}(h:yw S w w')(hs:∀ k∈S,k<w.heap.size→k∈S'):yw S' w w':=
 ⟨h.os,h.tape,h.output,h.size,fun k hk hn=>h.block k hk fun hm=>hn (hs k hm hk)⟩
theorem yw.of_below {S:List Nat}{w w':World}(h:Below w.heap.size w w'):yw S w w':=⟨h.os,h.tape,h.output,h.size,fun k hk _=>h.block k hk⟩
theorem yw.alloc {S:List Nat}{a w:World}(h:yw S a w)(o:Obj):yw S a (w.alloc o):=h.trans (.of_below (below_alloc1 w o))
theorem yw.drewN {S:List Nat}{a w:World}(h:yw S a w)(n:Nat):yw S a (w.drewN n):=⟨h.os,h.tape,h.output,h.size,h.block⟩
theorem yw.set {S:List Nat}{a w:World}(h:yw S a w){p:Addr}(hp:p.block∈S∨a.heap.size≤p.block)(u:Value):yw S a (w.setCell p u):=
 ⟨h.os,h.tape,h.output,by simpa[World.setCell] using h.size,fun k hk hn=>by
  rw[wP _ _ _ _ (fun e=>by subst e;rcases hp with hp|hp;exact hn hp;omega)];exact h.block k hk hn⟩
theorem yw.grown {S:List Nat}{a w w':World}{r:Option Nat}(h:yw S a w)(hg:w.grownBy w' r)(hr:∀ k,r=some k→k∈S∨a.heap.size≤k):yw S a w':=
 ⟨hg.os.trans h.os,hg.tape.trans h.tape,hg.output.trans h.output,rQ h.size hg.size,fun k hk hn=>by
  rw[hg.block k (lZ hk h.size) (fun e=>by rcases hr k e.symm with h1|h1;exact hn h1;omega)];exact h.block k hk hn⟩
theorem yw.below {S:List Nat}{B:Nat}{w w':World}(h:yw S w w')(hB:B≤w.heap.size)(hs:∀ k∈S,B≤k):Below B w w':=
 ⟨h.os,h.tape,h.output,h.size,fun k hk=>h.block k (by omega) fun hm=>by have:=hs k hm;omega⟩
theorem yw.at {S:List Nat}{w w':World}{k:Nat}{o:Obj}(h:yw S w w')(hk:w.heap[k]?=some o)(hn:k ∉ S):w'.heap[k]?=some o:=(h.block k (wZ hk) hn).trans hk
theorem kwx {S:List Nat}{w w':World}{lo e size:Nat}{v:Value}{n:Nat}{xs:List Value}(h:w.ownsRow lo e size v n xs)(hk:yw S w w')(hn:∀ k,v.ownBlock=some k→k ∉ S):w'.ownsRow lo e size v n xs:=by
 refine ⟨h.1,?_⟩;rcases h.2 with hh|⟨g,cap,cur,e1,e2,e3,e4⟩
 ·exact Or.inl hh
 ·exact Or.inr ⟨g,cap,cur,e1,e2,hk.at e3 (hn g (by rw[e1];rfl)),e4⟩
def qqd (w:World)(S:List Nat)(e:Nat):Prop:=∀ k∈S,∀ cs fr,w.heap[k]?≠some (.cells cs e fr)
theorem kzq {S:List Nat}{w w':World}{lo e size:Nat}{v:Value}{n:Nat}{xs:List Value}(h:w.ownsRow lo e size v n xs)(hk:yw S w w')(hn:qqd w S e):w'.ownsRow lo e size v n xs:=by
 refine kwx h hk fun k ek hm=>?_
 rcases h.2 with ⟨e1,_⟩|⟨g,cap,cur,e1,_,e3,_⟩
 ·rw[e1] at ek;cases ek
 ·rw[e1] at ek;injection ek with ek;exact hn k hm _ _ (by rw[←ek];exact e3)
theorem kko.stay {kd:IntKind}{S:List Nat}{w w':World}{v:Value}{l:List Int}(h:kko kd w v l)(hk:yw S w w')(hn:∀ k,v.ownBlock=some k→k ∉ S):kko kd w' v l:=by
 obtain ⟨xa,xc,e1,hv⟩:=h;refine ⟨xa,xc,e1,fun h0=>?_⟩;obtain ⟨g,e2,h2,h3⟩:=hv h0;have hs:=hk.size;refine ⟨g,e2,by omega,fun j hj=>?_⟩;rw[←h3 j hj];exact fQ (hk.block g h2 (hn g (by rw[e1,e2];rfl)))
section
open Go.Sort
variable {P:Program}
def qzw (cs:List Value)(k:Nat):Value:=cs.getD k (.slice none 0 0)
def kjr (ls:List (List Int))(k:Nat):List Int:=ls.getD k []
theorem jqh {cs:List Value}(h:∀ y∈cs,∃ a n c,y=.slice a n c):Go.Proofs.OneCell (qzw cs):=by
 intro k;unfold qzw;rcases Qk k cs.length with hk|hk
 ·rw[nJ,wW hk,fB];obtain ⟨a,n,c,e⟩:=h _ (wY hk);rw[e];rfl
 ·rw[nJ,nZ hk];rfl
theorem jvy {n j:Nat}(hj:j<n):(Array.range n)[j]! = j:=by
 rw[getElem!_pos _ j (by simpa using hj)];simp
theorem vj8 {w:World}{lo e blk cap:Nat}{cs:List Value}(h:w.ownsRow lo e 1 (.slice (some ⟨blk,0,none⟩) cs.length cap) cs.length cs):Holds (qzw cs) w blk 0 (Array.range cs.length):=by
 rcases h.2 with ⟨e1,_⟩|⟨g,c,cur,e1,_,e3,e4,e5,e6,e7⟩
 ·cases e1
 ·injection e1 with e1 _ _;injection e1 with e1;injection e1 with e1;subst e1;intro j hj;have hj':j<cs.length:=by simpa using hj
  rw[jvy hj'];refine ⟨?_,?_⟩
  ·unfold World.cell? qzw;simp only[e3,lU];have h1:cur.toList[j]?=cs[j]?:=by rw[←e7,lg (by omega)]
   rw[nJ,wW hj',fB,←wW hj',←h1];simp
  ·unfold World.frozen?;simp[e3]
theorem kwm {α:Type}[Inhabited α](enc:α→Value)(w:World)(blk off m:Nat)(d:Array α)(os:Array Obj):yw [blk] w (sortWorld enc w blk off m d os):=by
 unfold sortWorld;refine ⟨rfl,rfl,rfl,?_,fun k hk hn=>?_⟩
 ·rw[size_grow,size_putRow];show w.heap.size≤w.heap.size+_;omega
 ·have hne:blk≠k:=fun e=>hn (by simp[e])
  rw[heap_grow_old _ _ (by rw[size_putRow];exact hk)];simp[putRow,mapBlock,ahead,Zg,hne]
theorem qxp {α:Type}[Inhabited α](enc:α→Value)(w:World)(blk m:Nat)(d:Array α)(os:Array Obj){cur:Array Value}{e:Nat}{fr:Nat × Nat}(h:w.heap[blk]?=some (.cells cur e fr)):(sortWorld enc w blk 0 m d os).heap[blk]?=some (.cells (putCells enc 0 d cur) e fr):=by
 unfold sortWorld;rw[heap_grow_old _ _ (by rw[size_putRow];exact wZ h)];simp[putRow,mapBlock,ahead,Zg,h,onCells]
theorem qxb {α:Type}[Inhabited α](enc:α→Value)(d:Array α)(cur:Array Value)(h:d.size≤cur.size):(putCells enc 0 d cur).toList.take d.size=d.toList.map enc:=by
 apply JB;intro j;by_cases hj:j<d.size
 ·rw[lg hj,sW,JZ,JZ];unfold putCells;rw[Array.getElem?_mapIdx,QB (by omega),QB hj];simp[hj]
 ·rw[nZ (by simp[putCells];omega),nZ (by simp;omega)]
def ky1 (S:List Nat)(lo e:Nat)(w:World)(v:Value)(cs:List Value)(ls:List (List Int))(w':World):Prop:=
 yw S w w'∧∃ p:List Nat,p.Perm (List.range cs.length)∧w'.ownsRow lo e 1 v cs.length (p.map (qzw cs))∧sortL ls=p.map (kjr ls)
theorem qwa {w:World}{lo e blk cap:Nat}{cs:List Value}{ls:List (List Int)}(h:w.ownsRow lo e 1 (.slice (some ⟨blk,0,none⟩) cs.length cap) cs.length cs)(hl:ls.length=cs.length){d':Array Nat}{m:Nat}{os:Array Obj}
  (hp:PermIn 0 (Array.range cs.length).size (Array.range cs.length) d') (hs:SortedIn (ltOf fun x y=>cmpL (kjr ls x) (kjr ls y)) 0 (Array.range cs.length).size d') :
  ky1 [blk] lo e w (.slice (some ⟨blk,0,none⟩) cs.length cap) cs ls (sortWorld (qzw cs) w blk 0 m d' os):=by
 obtain ⟨h1,_,h3⟩:=hp;have hsz:d'.size=cs.length:=by rw[h1];simp
 have hperm:d'.toList.Perm (List.range cs.length):=by
  have e1:d'.extract 0 (Array.range cs.length).size=d':=by rw[←h1];exact Array.extract_size
  rw[e1,Array.extract_size] at h3;rw[←Array.toList_range];exact h3
 refine ⟨kwm _ _ _ _ _ _ _,d'.toList,hperm,?_,?_⟩
 ·rcases h.2 with ⟨e1,_⟩|⟨g,c,cur,e1,e2,e3,e4,e5,e6,e7⟩
  ·cases e1
  ·injection e1 with e1 _ e1';injection e1 with e1;injection e1 with e1;subst e1;subst e1';refine ⟨by simp[hsz],Or.inr ⟨blk,cap,_,rfl,e2,qxp _ _ _ _ _ _ e3,e4,e5,by simp[putCells,e6],?_⟩⟩;rw[lM,←hsz];exact qxb _ _ _ (by omega)
 ·symm
  refine qkr ?_ ?_
  ·have h4:(List.range cs.length).map (kjr ls)=ls:=by
    apply JB;intro j;rw[sW];by_cases hj:j<cs.length
    ·rw[Zb hj,Qw,kjr,nJ,wW (by omega),fB]
    ·rw[nZ (by simp;omega),nZ (by omega)];rfl
   have h5:=hperm.map (kjr ls);rw[h4] at h5;exact h5
  ·rw[JD,Qm];intro i j hi hj hij;have hi':i<d'.size:=by simpa using hi
   have hj':j<d'.size:=by simpa using hj
   have:=hs i j (rG _) hij (by simpa[hsz] using hj');rw[getElem!_pos d' j hj',getElem!_pos d' i hi'] at this;unfold ltOf at this;rw[decide_eq_false_iff_not] at this;dsimp only at this;have n:=kky (kjr ls d'[i]) (kjr ls d'[j]);simp only[Zd];omega
end
end Go.Proofs.YtpmcnonmkghokaaGreatDoor
namespace Go.Proofs
open Go.Shelf
def Tryz.insI_ren:Go.Shelf.Ren:=⟨fun|21=>184|27=>223|28=>224|35=>250|39=>266|n=>n,fun|22=>31|3=>3|4=>4|0=>0|n=>n,fun|n=>n⟩
theorem Tryz.insI:Go.Proofs.Lays2.n21 Tryz.prog Tryz.insI_ren:={
 mixed:=by kernel_rfl
 f21:=Tryz.func184.trans (congrArg some (by kernel_rfl))
 f27:=Tryz.func223.trans (congrArg some (by kernel_rfl))
 f28:=Tryz.func224.trans (congrArg some (by kernel_rfl))
 f35:=Tryz.func250.trans (congrArg some (by kernel_rfl))
 f39:=Tryz.func266.trans (congrArg some (by kernel_rfl))
 t0:=Tryz.underlying0
 a0:=Tryz.isAgg0
 z0:=Tryz.sizeOf0
 v0:=Tryz.zeroValue0
 t3:=Tryz.underlying3
 a3:=Tryz.isAgg3
 z3:=Tryz.sizeOf3
 v3:=Tryz.zeroValue3
 t4:=Tryz.underlying4
 a4:=Tryz.isAgg4
 z4:=Tryz.sizeOf4
 v4:=Tryz.zeroValue4
 t22:=Tryz.underlying31
 a22:=Tryz.isAgg31
 z22:=Tryz.sizeOf31
 v22:=Tryz.zeroValue31
 i3:=by kernel_rfl }
def Tryz.revS_ren:Go.Shelf.Ren:=⟨fun|17=>134|n=>n,fun|24=>22|9=>9|3=>3|4=>4|0=>0|n=>n,fun|n=>n⟩
theorem Tryz.revS:Go.Proofs.Lays2.n17 Tryz.prog Tryz.revS_ren:={
 mixed:=by kernel_rfl
 f17:=Tryz.func134.trans (congrArg some (by kernel_rfl))
 t0:=Tryz.underlying0
 a0:=Tryz.isAgg0
 z0:=Tryz.sizeOf0
 v0:=Tryz.zeroValue0
 t3:=Tryz.underlying3
 a3:=Tryz.isAgg3
 z3:=Tryz.sizeOf3
 v3:=Tryz.zeroValue3
 t4:=Tryz.underlying4
 a4:=Tryz.isAgg4
 z4:=Tryz.sizeOf4
 v4:=Tryz.zeroValue4
 t9:=Tryz.underlying9
 a9:=Tryz.isAgg9
 z9:=Tryz.sizeOf9
 v9:=Tryz.zeroValue9
 t24:=Tryz.underlying22
 a24:=Tryz.isAgg22
 z24:=Tryz.sizeOf22
 v24:=Tryz.zeroValue22 }
def Tryz.sortI_ren:Go.Shelf.Ren:=⟨fun|6=>225|15=>252|14=>251|28=>275|29=>195|20=>267|21=>268|22=>269|23=>270|24=>271|25=>272|26=>273|27=>274|46=>288|47=>289|48=>290|49=>291|50=>292|57=>297|n=>n,fun|22=>79|24=>31|25=>373|3=>3|39=>341|0=>0|53=>338|55=>274|4=>4|46=>404|45=>403|50=>408|5=>5|9=>9|66=>416|70=>420|76=>424|77=>317|n=>n,fun|n=>n⟩
theorem Tryz.sortI:Go.Proofs.SlLaysF.n6 Tryz.prog Tryz.sortI_ren:={
 mixed:=by kernel_rfl
 f6:=⟨Tryz.f225.name,by decide,Tryz.func225.trans (congrArg some (by kernel_rfl))⟩
 f14:=⟨Tryz.f251.name,by decide,Tryz.func251.trans (congrArg some (by kernel_rfl))⟩
 f15:=Tryz.func252.trans (congrArg some (by kernel_rfl))
 f20:=⟨Tryz.f267.name,by decide,Tryz.func267.trans (congrArg some (by kernel_rfl))⟩
 f21:=⟨Tryz.f268.name,by decide,Tryz.func268.trans (congrArg some (by kernel_rfl))⟩
 f22:=⟨Tryz.f269.name,by decide,Tryz.func269.trans (congrArg some (by kernel_rfl))⟩
 f23:=⟨Tryz.f270.name,by decide,Tryz.func270.trans (congrArg some (by kernel_rfl))⟩
 f24:=⟨Tryz.f271.name,by decide,Tryz.func271.trans (congrArg some (by kernel_rfl))⟩
 f25:=⟨Tryz.f272.name,by decide,Tryz.func272.trans (congrArg some (by kernel_rfl))⟩
 f26:=⟨Tryz.f273.name,by decide,Tryz.func273.trans (congrArg some (by kernel_rfl))⟩
 f27:=⟨Tryz.f274.name,by decide,Tryz.func274.trans (congrArg some (by kernel_rfl))⟩
 f28:=Tryz.func275.trans (congrArg some (by kernel_rfl))
 f29:=Tryz.func195.trans (congrArg some (by kernel_rfl))
 f46:=⟨Tryz.f288.name,by decide,Tryz.func288.trans (congrArg some (by kernel_rfl))⟩
 f47:=Tryz.func289.trans (congrArg some (by kernel_rfl))
 f48:=Tryz.func290.trans (congrArg some (by kernel_rfl))
 f49:=⟨Tryz.f291.name,by decide,Tryz.func291.trans (congrArg some (by kernel_rfl))⟩
 f50:=⟨Tryz.f292.name,by decide,Tryz.func292.trans (congrArg some (by kernel_rfl))⟩
 f57:=⟨Tryz.f297.name,by decide,Tryz.func297.trans (congrArg some (by kernel_rfl))⟩
 t0:=Tryz.underlying0
 a0:=Tryz.isAgg0
 z0:=Tryz.sizeOf0
 v0:=Tryz.zeroValue0
 t3:=Tryz.underlying3
 a3:=Tryz.isAgg3
 z3:=Tryz.sizeOf3
 v3:=Tryz.zeroValue3
 t4:=Tryz.underlying4
 a4:=Tryz.isAgg4
 z4:=Tryz.sizeOf4
 v4:=Tryz.zeroValue4
 t5:=Tryz.underlying5
 a5:=Tryz.isAgg5
 z5:=Tryz.sizeOf5
 v5:=Tryz.zeroValue5
 t9:=Tryz.underlying9
 a9:=Tryz.isAgg9
 z9:=Tryz.sizeOf9
 v9:=Tryz.zeroValue9
 t22:=Tryz.underlying79
 a22:=Tryz.isAgg79
 z22:=Tryz.sizeOf79
 v22:=Tryz.zeroValue79
 a24:=Tryz.isAgg31
 z24:=Tryz.sizeOf31
 t25:=Tryz.underlying373
 a25:=Tryz.isAgg373
 z25:=Tryz.sizeOf373
 v25:=Tryz.zeroValue373
 t39:=Tryz.underlying341
 a39:=Tryz.isAgg341
 z39:=Tryz.sizeOf341
 v39:=Tryz.zeroValue341
 t45:=Tryz.underlying403
 a45:=Tryz.isAgg403
 z45:=Tryz.sizeOf403
 v45:=Tryz.zeroValue403
 t46:=Tryz.underlying404
 a46:=Tryz.isAgg404
 z46:=Tryz.sizeOf404
 v46:=Tryz.zeroValue404
 t50:=Tryz.underlying408
 a50:=Tryz.isAgg408
 z50:=Tryz.sizeOf408
 v50:=Tryz.zeroValue408
 t53:=Tryz.underlying338
 a53:=Tryz.isAgg338
 z53:=Tryz.sizeOf338
 v53:=Tryz.zeroValue338
 t55:=Tryz.underlying274
 a55:=Tryz.isAgg274
 z55:=Tryz.sizeOf274
 v55:=Tryz.zeroValue274
 t66:=Tryz.underlying416
 a66:=Tryz.isAgg416
 z66:=Tryz.sizeOf416
 v66:=Tryz.zeroValue416
 t70:=Tryz.underlying420
 a70:=Tryz.isAgg420
 z70:=Tryz.sizeOf420
 v70:=Tryz.zeroValue420
 t76:=Tryz.underlying424
 a76:=Tryz.isAgg424
 z76:=Tryz.sizeOf424
 v76:=Tryz.zeroValue424
 t77:=Tryz.underlying317
 a77:=Tryz.isAgg317
 z77:=Tryz.sizeOf317
 v77:=Tryz.zeroValue317 }
def Tryz.sortS_ren:Go.Shelf.Ren:=⟨fun|6=>230|15=>252|14=>255|28=>275|29=>195|20=>278|21=>279|22=>280|23=>281|24=>282|25=>283|26=>284|27=>285|46=>293|47=>289|48=>290|49=>294|50=>295|57=>298|n=>n,fun|22=>266|24=>95|25=>376|3=>3|39=>341|0=>0|53=>338|55=>274|4=>4|46=>404|45=>403|50=>408|5=>5|9=>9|66=>416|70=>420|76=>424|77=>317|n=>n,fun|n=>n⟩
theorem Tryz.sortS:Go.Proofs.SlLaysF.n6 Tryz.prog Tryz.sortS_ren:={
 mixed:=by kernel_rfl
 f6:=⟨Tryz.f230.name,by decide,Tryz.func230.trans (congrArg some (by kernel_rfl))⟩
 f14:=⟨Tryz.f255.name,by decide,Tryz.func255.trans (congrArg some (by kernel_rfl))⟩
 f15:=Tryz.func252.trans (congrArg some (by kernel_rfl))
 f20:=⟨Tryz.f278.name,by decide,Tryz.func278.trans (congrArg some (by kernel_rfl))⟩
 f21:=⟨Tryz.f279.name,by decide,Tryz.func279.trans (congrArg some (by kernel_rfl))⟩
 f22:=⟨Tryz.f280.name,by decide,Tryz.func280.trans (congrArg some (by kernel_rfl))⟩
 f23:=⟨Tryz.f281.name,by decide,Tryz.func281.trans (congrArg some (by kernel_rfl))⟩
 f24:=⟨Tryz.f282.name,by decide,Tryz.func282.trans (congrArg some (by kernel_rfl))⟩
 f25:=⟨Tryz.f283.name,by decide,Tryz.func283.trans (congrArg some (by kernel_rfl))⟩
 f26:=⟨Tryz.f284.name,by decide,Tryz.func284.trans (congrArg some (by kernel_rfl))⟩
 f27:=⟨Tryz.f285.name,by decide,Tryz.func285.trans (congrArg some (by kernel_rfl))⟩
 f28:=Tryz.func275.trans (congrArg some (by kernel_rfl))
 f29:=Tryz.func195.trans (congrArg some (by kernel_rfl))
 f46:=⟨Tryz.f293.name,by decide,Tryz.func293.trans (congrArg some (by kernel_rfl))⟩
 f47:=Tryz.func289.trans (congrArg some (by kernel_rfl))
 f48:=Tryz.func290.trans (congrArg some (by kernel_rfl))
 f49:=⟨Tryz.f294.name,by decide,Tryz.func294.trans (congrArg some (by kernel_rfl))⟩
 f50:=⟨Tryz.f295.name,by decide,Tryz.func295.trans (congrArg some (by kernel_rfl))⟩
 f57:=⟨Tryz.f298.name,by decide,Tryz.func298.trans (congrArg some (by kernel_rfl))⟩
 t0:=Tryz.underlying0
 a0:=Tryz.isAgg0
 z0:=Tryz.sizeOf0
 v0:=Tryz.zeroValue0
 t3:=Tryz.underlying3
 a3:=Tryz.isAgg3
 z3:=Tryz.sizeOf3
 v3:=Tryz.zeroValue3
 t4:=Tryz.underlying4
 a4:=Tryz.isAgg4
 z4:=Tryz.sizeOf4
 v4:=Tryz.zeroValue4
 t5:=Tryz.underlying5
 a5:=Tryz.isAgg5
 z5:=Tryz.sizeOf5
 v5:=Tryz.zeroValue5
 t9:=Tryz.underlying9
 a9:=Tryz.isAgg9
 z9:=Tryz.sizeOf9
 v9:=Tryz.zeroValue9
 t22:=Tryz.underlying266
 a22:=Tryz.isAgg266
 z22:=Tryz.sizeOf266
 v22:=Tryz.zeroValue266
 a24:=Tryz.isAgg95
 z24:=Tryz.sizeOf95
 t25:=Tryz.underlying376
 a25:=Tryz.isAgg376
 z25:=Tryz.sizeOf376
 v25:=Tryz.zeroValue376
 t39:=Tryz.underlying341
 a39:=Tryz.isAgg341
 z39:=Tryz.sizeOf341
 v39:=Tryz.zeroValue341
 t45:=Tryz.underlying403
 a45:=Tryz.isAgg403
 z45:=Tryz.sizeOf403
 v45:=Tryz.zeroValue403
 t46:=Tryz.underlying404
 a46:=Tryz.isAgg404
 z46:=Tryz.sizeOf404
 v46:=Tryz.zeroValue404
 t50:=Tryz.underlying408
 a50:=Tryz.isAgg408
 z50:=Tryz.sizeOf408
 v50:=Tryz.zeroValue408
 t53:=Tryz.underlying338
 a53:=Tryz.isAgg338
 z53:=Tryz.sizeOf338
 v53:=Tryz.zeroValue338
 t55:=Tryz.underlying274
 a55:=Tryz.isAgg274
 z55:=Tryz.sizeOf274
 v55:=Tryz.zeroValue274
 t66:=Tryz.underlying416
 a66:=Tryz.isAgg416
 z66:=Tryz.sizeOf416
 v66:=Tryz.zeroValue416
 t70:=Tryz.underlying420
 a70:=Tryz.isAgg420
 z70:=Tryz.sizeOf420
 v70:=Tryz.zeroValue420
 t76:=Tryz.underlying424
 a76:=Tryz.isAgg424
 z76:=Tryz.sizeOf424
 v76:=Tryz.zeroValue424
 t77:=Tryz.underlying317
 a77:=Tryz.isAgg317
 z77:=Tryz.sizeOf317
 v77:=Tryz.zeroValue317 }
end Go.Proofs
namespace Go.Proofs.YtpmcnonmkghokaaGreatDoor
open Go.RowKit
attribute [local go_sem ↓] Go.wp_at_zero Go.wp_at_succ
theorem jvw (kd:IntKind)(w:World):kko kd w (.slice none 0 0) []:=⟨none,0,rfl,fun h=>by simp at h⟩
def qzt (kd:IntKind)(w:World)(cs:List Value)(ls:List (List Int)):Prop:=ls.length=cs.length∧∀ k (hk:k<cs.length) (hl:k<ls.length),kko kd w cs[k] ls[k]∧ls[k].length≤1000000
theorem qzt.slices {kd:IntKind}{w:World}{cs:List Value}{ls:List (List Int)}(h:qzt kd w cs ls):∀ y∈cs,∃ a n c,y=.slice a n c:=by
 intro y hy;obtain ⟨k,hk,rfl⟩:=rP hy;obtain ⟨⟨a,c,e,_⟩,_⟩:=h.2 k hk (by rw[h.1];exact hk);exact ⟨a,_,c,e⟩
theorem qzt.sorting {kd:IntKind}{w:World}{cs:List Value}{ls:List (List Int)}{lo e blk cap:Nat}(h:qzt kd w cs ls)(ho:w.ownsRow lo e 1 (.slice (some ⟨blk,0,none⟩) cs.length cap) cs.length cs)(m:Nat)(os:Array Obj)(dk:Array Nat)(x:Nat) :
  kko kd (sortWorld (qzw cs) w blk 0 m dk os) (qzw cs x) (kjr ls x)∧(kjr ls x).length≤1000000:=by
 unfold qzw kjr;rcases Qk x cs.length with hx|hx
 ·have hl:x<ls.length:=by rw[h.1];exact hx
  rw[nJ,wW hx,nJ,wW hl,fB,fB];obtain ⟨h1,h2⟩:=h.2 x hx hl;refine ⟨?_,h2⟩;have hst:=kwm (qzw cs) w blk 0 m dk os;refine h1.cells hst.size fun g c t fr hg ⟨y,hy⟩=>hst.block g (wZ hg) fun hm=>?_
  have e1:g=blk:=by simpa using hm
  subst e1;rcases ho.2 with ⟨e1,_⟩|⟨g2,c2,cur,e1,_,e3,e4,e5,e6,e7⟩
  ·cases e1
  ·injection e1 with e1 _ _;injection e1 with e1;injection e1 with e1;subst e1;rw[e3] at hg;injection hg with hg;injection hg with hg _ _;subst hg;obtain ⟨a,n,c,ec⟩:=h.slices cs[0] (wY (by omega));have h0:cs[0]?=cur.toList[0]?:=by rw[←e7,lg (by omega)]
   rw[wW (by omega),ec] at h0;rw[JZ,hy] at h0;cases h0
 ·rw[nJ,nZ hx,nJ,nZ (by rw[h.1];exact hx)];exact ⟨jvw _ _,by simp⟩
theorem zv5 (w:World)(lo:Nat)(cs:List Value)(ls:List (List Int))(la:Option Addr)(ll lc:Nat)(ho:w.ownsRow lo 31 1 (.slice la ll lc) cs.length cs)(h:qzt .i64 w cs ls)(hn:cs.length≤1000000) :
  Calls Tryz.prog 186 #[.slice la ll lc] w fun e w'=>e=.returned (.tuple #[])∧∃ S,(∀ k∈S,(Value.slice la ll lc).ownBlock=some k)∧ky1 S lo 31 w (.slice la ll lc) cs ls w':=by
 rcases ho.2 with ⟨e1,e2⟩|⟨g,cap,cur,e1,e2,e3,e4⟩
 ·injection e1 with e1 e1' e1'';subst e1;subst e1';subst e1'';have hcs:cs=[]:=sG e2;subst hcs;have hls:ls=[]:=sG h.1;subst hls;have hcon:=AnyF.slices_SortFunc_none (P:=Tryz.prog) (ρ:=Tryz.sortI_ren) { Tryz.sortI with } none 0 (.func (.func 226) #[] #[]) w;change Calls Tryz.prog 225 _ _ _ at hcon
  have HO:=hide ho;clear ho h e2 hn;go_enter Tryz.func186,Tryz.ntmps186
  go_wp2_with (go_at_call 225;refine hcon.mono ?_;rintro e w' ⟨rfl,rfl⟩)
  go_end0
  exact ⟨rfl,[],by simp,yw.refl _ _,[],List.Perm.refl _,ku HO,rfl⟩
 ·injection e1 with e1 e1' e1'';subst e1;subst e1';subst e1'';have eg:∀ args w,(callFunc 226 args).run Tryz.prog w=.ok (.enter 226 args) w:=enters_of Tryz.func226 (by kernel_rfl) rfl;have hcon:=Any.slices_SortFunc Tryz.sortI (qzw cs) (jqh h.slices) (fun x y=>cmpL (kjr ls x) (kjr ls y)) (jqs (kjr ls)) 226 #[] g 0 lc (Array.range cs.length) w eg (fun m os dk _ x y=>by
   have hx:=h.sorting ho m os dk x;have hy:=h.sorting ho m os dk y;exact (jqo _ _ _ _ _ hx.1 hy.1 hx.2 hy.2).mono fun _ _ ⟨he,q,hq⟩=>⟨he,q,#[],by rw[hq,Go.Sort.grow_empty]⟩) (vj8 ho) (wZ e3) (by simp;omega)
  change Calls Tryz.prog 225 _ _ _ at hcon
  simp only[Array.size_range] at hcon;have HP:=hide (fun (d':Array Nat) (m:Nat) (os:Array Obj) hp hs=>qwa (ls:=ls) ho h.1 (d':=d') (m:=m) (os:=os) hp hs);clear ho h e2 e3 e4 hn;go_enter Tryz.func186,Tryz.ntmps186
  go_wp2_with (go_at_call 225;refine hcon.mono ?_;rintro e w' ⟨rfl,d',n,os,hp,hs,rfl⟩)
  go_end0
  exact ⟨rfl,[g],by simp[Value.ownBlock],(ku HP) d' n os (by simpa using hp) (by simpa using hs)⟩
theorem jkh (l:List Int):∀ y∈l.map (Value.int .i64),y.oneCell'=true:=by
 intro y hy;obtain ⟨x,_,rfl⟩:=su.mp hy;rfl
def zzl (l:List Value)(o:Nat):List Value→List Value
 | []=>l
 | v::r=>zzl (l.set o v) (o+1) r
theorem kx2:∀ (r l:List Value) (o:Nat),o+r.length≤l.length→zzl l o r=l.take o++(r++l.drop (o+r.length))
 | [],l,o,_=>by simp[zzl]
 | v::r,l,o,h=>by
  simp only[nX] at h;rw[zzl,kx2 r _ _ (by simp;omega)];have h1:(l.set o v).take (o+1)=l.take o++[v]:=by
   rw[List.set_eq_take_append_cons_drop,if_pos (by omega),List.take_append];have:(l.take o).length=o:=by simp;omega
   rw[this,Ql (by omega),show o+1-o=1 by omega];simp
  have h2:(l.set o v).drop (o+1+r.length)=l.drop (o+(r.length+1)):=by
   rw[List.drop_set_of_lt (by omega),show o+1+r.length=o+(r.length+1) by omega]
  rw[h1,h2];simp
theorem kjg (b:Nat){t:TypeId}:∀ (vs:List Value) (o:Nat) (w:World) (cur:List Value),w.heap[b]?=some (.cells cur.toArray t (0,0))→(w.setCells b o vs).heap[b]?=some (.cells (zzl cur o vs).toArray t (0,0))
 | [],_,_,_,h=>h
 | v::r,o,w,cur,h=>by
  rw[World.setCells,zzl];refine kjg b r (o+1) _ _ ?_;rw[heap_setCell_same w b o _ _ v h];simp
theorem kz8 {B b:Nat}(hb:B≤b):∀ (vs:List Value) (o:Nat) (w:World),Below B w (w.setCells b o vs)
 | [],_,w=>Below.refl _ _
 | v::r,o,w=>by
  rw[World.setCells];exact (show Below B w (w.setCell ⟨b,o,none⟩ v) from ⟨rfl,rfl,rfl,by simp[World.setCell],fun k hk=>wP _ _ _ _ (by show k≠b;omega)⟩).trans (kz8 hb r _ _)
theorem vj7 (cs r:List Value)(k:Nat)(v:Value)(hk:k≤cs.length)(hr:1≤r.length):(zzl (zzl (cs++r) (k+1) (cs.drop k)) k [v]).take (cs.length+1)=cs.take k++v::cs.drop k:=by
 have hl:(cs.drop k).length=cs.length-k:=List.length_drop;rw[kx2 (cs.drop k) _ _ (by simp;omega)];have hA:((cs++r).take (k+1)).length=k+1:=by simp;omega
 have hT:((cs++r).take (k+1)).take k=cs.take k:=by rw[J6,show min k (k+1)=k by omega,fJ hk]
 generalize (cs++r).take (k+1)=A at *;generalize (cs++r).drop (k+1+(cs.drop k).length)=R;rw[kx2 [v] _ _ (by simp;omega)];simp only[Qh];have h1:(A++(cs.drop k++R)).take k=cs.take k:=by rw[fJ (by omega),hT]
 have h2:(A++(cs.drop k++R)).drop (k+1)=cs.drop k++R:=List.drop_left' hA;rw[h1,h2,←tK [v],←tK];exact (QM (by simp;omega)).trans (by simp)
theorem jwy (cs Z:List Value)(k:Nat)(v:Value)(hk:k<cs.length)(hZ:cs.length+1-k≤Z.length):(zzl (zzl (cs.take k++Z) k [v]) (k+1) (cs.drop k)).take (cs.length+1)=cs.take k++v::cs.drop k:=by
 have hl:(cs.drop k).length=cs.length-k:=List.length_drop;have hA:(cs.take k).length=k:=by simp;omega
 rw[kx2 [v] _ _ (by simp;omega),QM hA];rw[kx2 (cs.drop k) _ _ (by simp;omega)];have h1:(cs.take k++([v]++(cs.take k++Z).drop (k+[v].length))).take (k+1)=cs.take k++[v]:=by
  rw[←tK];exact QM (by simp;omega)
 rw[h1,←tK];exact (QM (by simp;omega)).trans (by simp)
def qvu (B:Nat)(w:World)(l:List Int)(e:Ending)(w':World):Prop:=∃ ra rn rc,e=.returned (.slice ra rn rc)∧w'.ownsRow B 3 1 (.slice ra rn rc) l.length (l.map (Value.int .i64))∧Below B w w'
theorem jqv (w:World)(B:Nat)(o:List Int)(k:Nat)(x:Int)(sa:Option Addr)(sn sc vb:Nat)(hS:w.ownsRow B 3 1 (.slice sa sn sc) o.length (o.map (Value.int .i64)))(hV:w.heap[vb]?=some (.cells #[.int .i64 x] 3 (0,0)))(hvb:(Value.slice sa sn sc).ownBlock≠some vb)(hk:k≤o.length)(hl:o.length≤1000000)(hB:B≤w.heap.size) :
  Calls Tryz.prog 184 #[.slice sa sn sc,.int .i64 k,.slice (some ⟨vb,0,none⟩) 1 1] w (qvu B w (kkf x o k)):=by
 have hvs:∀ j v,[Value.int .i64 x][j]?=some v→w.cell? ⟨vb,0+j,none⟩=some v:=by
  intro j v hj;have:j=0:=by
   rcases Qk j 1 with h|h
   ·omega
   ·rw[nZ (by simpa using h)] at hj;cases hj
  subst this;simp at hj;subst hj;simp[World.cell?,hV]
 have h1v:∀ v∈[Value.int .i64 x],v.oneCell'=true:=by simp[Value.oneCell']
 have hlen:(kkf x o k).length=o.length+1:=zky x o k hk;have hmap:(kkf x o k).map (Value.int .i64)=(o.map (Value.int .i64)).take k++Value.int .i64 x::(o.map (Value.int .i64)).drop k:=by simp[kkf]
 have hcl:(o.map (Value.int .i64)).length=o.length:=by simp
 have hnew:∀ (base:Option Addr) (c:Nat),k=o.length→(base=none→o.length=0)→(∀ a,base=some a→∀ j v,(o.map (Value.int .i64))[j]?=some v→w.cell? (a.add j)=some v)→o.length≤c→c<o.length+1 →
   Calls Tryz.prog 184 #[.slice base o.length c,.int .i64 k,.slice (some ⟨vb,0,none⟩) 1 1] w (qvu B w (kkf x o k)):=by
  intro base c hke hnil hcs hnc hroom;subst hke;have hcon:=Any2.slices_Insert_int_end_grow Tryz.insI base o.length c vb 0 1 1 (o.map (Value.int .i64)) [.int .i64 x] w (by omega) hnc hroom (by omega) hcl rfl hnil hcs hvs h1v;change Calls Tryz.prog 184 _ _ _ at hcon
  refine hcon.mono ?_;rintro e w' ⟨rfl,rfl⟩;have hge:=grownCap_ge w (o.length+1) c 3;have hle:=grownCap_le_maxLen w (o.length+1) c 3 (by unfold maxLen;omega);change qvu B w _ (.returned (.slice (some ⟨w.heap.size,0,none⟩) (o.length+1) (grownCap w (o.length+1) c 3))) (w.drew.alloc (.cells ((o.map (Value.int .i64)++[Value.int .i64 x]).toArray++Builtin.zeroCells (Value.int .i64 0).cells (grownCap w (o.length+1) c 3-(o.length+1))) 3))
  generalize grownCap w (o.length+1) c 3=gc at *;refine ⟨_,_,_,rfl,?_,((Below.refl B w).drew).alloc hB _⟩;rw[hlen,hmap];refine ⟨by simp,Or.inr ⟨w.heap.size,gc,_,rfl,hB,qg w.drew _,hge,hle,?_,?_⟩⟩
  ·simp[size_zeroCells,Value.cells];omega
  ·have h7:(o.map (Value.int .i64)).take o.length=o.map (Value.int .i64):=Ql (by simp);have h8:(o.map (Value.int .i64)).drop o.length=[]:=Qc (by simp);rw[lM,h7,h8,Jp];exact QM (by simp)
 rcases hS.2 with ⟨e1,e2⟩|⟨g,cap,cur,e1,e2,e3,e4,e5,e6,e7⟩
 ·injection e1 with e1 e1' e1'';subst e1;subst e1';subst e1'';have:=hnew none 0 (by omega) (fun _=>e2) (fun a h=>by cases h) (by omega) (by omega);rw[e2] at this;exact this
 ·injection e1 with e1 e1' e1'';subst e1;subst e1';subst e1'';have hgv:vb≠g:=fun e=>hvb (by rw[e];rfl)
  have hrow:w.heap[g]?=some (.cells cur.toList.toArray 3 (0,0)):=by rw[e3]
  have hcs0:∀ j v,(o.map (Value.int .i64))[j]?=some v→w.cell? ⟨g,j,none⟩=some v:=by
   intro j v hj;have hjl:j<o.length:=by
    rcases Qk j o.length with h|h
    ·exact h
    ·rw[nZ (by simpa using h)] at hj;cases hj
   rw[←e7,lg (by omega)] at hj;unfold World.cell?;simp only[e3];simpa using hj
  have hfit:cur.toList=o.map (Value.int .i64)++cur.toList.drop o.length:=by
   have:=Jq o.length cur.toList;rw[show o.length=o.length * 1 by omega,e7] at this;rw[lM] at this;exact this.symm
  by_cases hroom:o.length+1≤sc
  ·have hdl:1≤(cur.toList.drop o.length).length:=by simp;omega
   have hsome:∀ j,j<o.length+1→(w.cell? ⟨g,j,none⟩).isSome=true:=fun j hj=>by
    unfold World.cell?;simp only[e3];rw[QB (by omega)];rfl
   have hfz:∀ j,w.frozen? ⟨g,j,none⟩=false:=fun j=>by unfold World.frozen?;simp[e3]
   have hdone:∀ w',w'=(w.drew.setCells g (k+1) ((o.map (Value.int .i64)).drop k)).setCells g k [.int .i64 x]→qvu B w (kkf x o k) (.returned (.slice (some ⟨g,0,none⟩) (o.length+1) sc)) w':=by
    rintro w' rfl;refine ⟨_,_,_,rfl,?_,((Below.refl B w).drew).trans ((kz8 e2 _ _ _).trans (kz8 e2 _ _ _))⟩;have hr2:=kjg g [.int .i64 x] k _ _ (kjg g ((o.map (Value.int .i64)).drop k) (k+1) w.drew cur.toList hrow);rw[hlen,hmap];refine ⟨by simp;omega,Or.inr ⟨g,sc,_,rfl,e2,hr2,hroom,e5,?_,?_⟩⟩
    ·rw[kx2 [.int .i64 x] _ _ (by rw[kx2 _ _ _ (by simp;omega)];simp;omega),kx2 _ _ _ (by simp;omega)];simp;omega
    ·rw[hfit,lM];have:=vj7 (o.map (Value.int .i64)) (cur.toList.drop o.length) k (.int .i64 x) (by simpa using hk) hdl;rw[ni] at this;simpa using this
   by_cases hlt:k<o.length
   ·have hcon:=Any2.slices_Insert_int_shift Tryz.insI g 0 o.length sc k vb 0 1 1 (o.map (Value.int .i64)) [.int .i64 x] w hlt (by omega) hroom (by unfold maxLen at e5;omega) hgv hcl rfl (by simpa using hcs0) (by simpa using hsome) (by simpa using fun j _=>hfz j) hvs (jkh o) h1v 3 3 1 cur.size (by simp[World.shape?,hV]) (by simp[World.shape?,e3]) (by omega) (by unfold World.frozen?;simp[hV]) (by unfold World.frozen?;simp[hV]);change Calls Tryz.prog 184 _ _ _ at hcon
    refine hcon.mono ?_;rintro e w' ⟨rfl,hw⟩;exact hdone w' (by rw[hw];simp)
   ·obtain rfl:k=o.length:=by omega
    have hcon:=Any2.slices_Insert_int_end_room Tryz.insI g 0 o.length sc vb 0 1 1 [.int .i64 x] w (by omega) hroom (by unfold maxLen at e5;omega) rfl (fun j hj=>by have:=hsome (o.length+j) (by omega);simpa using this) (fun j hj=>hfz _) hvs h1v;change Calls Tryz.prog 184 _ _ _ at hcon
    refine hcon.mono ?_;rintro e w' ⟨rfl,rfl⟩;refine ⟨_,_,_,rfl,?_,kz8 e2 _ _ _⟩;have hr2:=kjg g [.int .i64 x] (0+o.length) w cur.toList hrow;have h7:(o.map (Value.int .i64)).take o.length=o.map (Value.int .i64):=Ql (by simp);have h8:(o.map (Value.int .i64)).drop o.length=[]:=Qc (by simp);rw[hlen,hmap,h7,h8];refine ⟨by simp,Or.inr ⟨g,sc,_,rfl,e2,hr2,hroom,e5,?_,?_⟩⟩
    ·rw[kx2 [.int .i64 x] _ _ (by simp;omega)];simp;omega
    ·rw[lU,kx2 [.int .i64 x] _ _ (by simp;omega),lM];have h9:cur.toList.take o.length=o.map (Value.int .i64):=by simpa using e7
     rw[h9,←tK];exact QM (by simp)
  ·by_cases hlt:k<o.length
   ·have hcon:=Any2.slices_Insert_int_grow Tryz.insI g 0 o.length sc k vb 0 1 1 (o.map (Value.int .i64)) [.int .i64 x] w hlt (by omega) e4 (by omega) (by omega) hcl rfl (by simpa using hcs0) hvs (jkh o) h1v;change Calls Tryz.prog 184 _ _ _ at hcon
    refine hcon.mono ?_;rintro e w' ⟨rfl,hw⟩;have hge:=grownCap_ge w (o.length+1) sc 3;have hle:=grownCap_le_maxLen w (o.length+1) sc 3 (by unfold maxLen;omega);change w'=(((w.alloc (.cells (((o.map (Value.int .i64)).take k).toArray++Builtin.zeroCells (Value.int .i64 0).cells (o.length+1-k)++Builtin.zeroCells (Value.int .i64 0).cells (grownCap w (o.length+1) sc 3-(o.length+1))) 3)).drew.setCells w.heap.size k [.int .i64 x]).drew).setCells w.heap.size (k+1) ((o.map (Value.int .i64)).drop k) at hw
    change qvu B w _ (.returned (.slice (some ⟨w.heap.size,0,none⟩) (o.length+1) (grownCap w (o.length+1) sc 3))) w'
    generalize grownCap w (o.length+1) sc 3=gc at *;obtain ⟨Z,hZ⟩:∃ Z,Z=(Builtin.zeroCells (Value.int .i64 0).cells (o.length+1-k)++Builtin.zeroCells (Value.int .i64 0).cells (gc-(o.length+1))).toList:=⟨_,rfl⟩;have hZl:Z.length=gc-k:=by rw[hZ];simp[size_zeroCells,Value.cells];omega
    have hcells:((o.map (Value.int .i64)).take k).toArray++Builtin.zeroCells (Value.int .i64 0).cells (o.length+1-k)++Builtin.zeroCells (Value.int .i64 0).cells (gc-(o.length+1))=(((o.map (Value.int .i64)).take k)++Z).toArray:=by rw[hZ];simp[Array.append_assoc]
    rw[hcells] at hw;have hr0:(w.alloc (.cells (((o.map (Value.int .i64)).take k)++Z).toArray 3)).drew.heap[w.heap.size]?=some (.cells (((o.map (Value.int .i64)).take k)++Z).toArray 3 (0,0)):=qg w _;have hr1:=kjg w.heap.size [.int .i64 x] k _ _ hr0;have hr2:=kjg w.heap.size ((o.map (Value.int .i64)).drop k) (k+1) (((w.alloc (.cells (((o.map (Value.int .i64)).take k)++Z).toArray 3)).drew.setCells w.heap.size k [.int .i64 x]).drew) _ hr1;rw[←hw] at hr2;refine ⟨_,_,_,rfl,?_,?_⟩
    ·rw[hlen,hmap];refine ⟨by simp;omega,Or.inr ⟨w.heap.size,gc,_,rfl,hB,hr2,hge,hle,?_,?_⟩⟩
     ·have hml:((o.map (Value.int .i64)).take k).length=k:=by simp;omega
      rw[kx2 _ _ _ (by rw[kx2 _ _ _ (by simp;omega)];simp;omega),kx2 _ _ _ (by simp;omega)];simp;omega
     ·have:=jwy (o.map (Value.int .i64)) Z k (.int .i64 x) (by simpa using hlt) (by simp;omega);rw[ni] at this;simpa using this
    ·rw[hw];exact ((below_alloc1 w _).mono hB).drew.trans (((kz8 hB _ _ _).drew).trans (kz8 hB _ _ _))
   ·exact hnew (some ⟨g,0,none⟩) sc (by omega) (fun h=>by cases h) (fun a ha j v hj=>by
     injection ha with ha;subst ha;have:=hcs0 j v hj;rw[show ((⟨g,0,none⟩:Addr).add j)=⟨g,j,none⟩ from by simp[Addr.add];intro h;exact h.symm];exact this) e4 (by omega)
end Go.Proofs.YtpmcnonmkghokaaGreatDoor

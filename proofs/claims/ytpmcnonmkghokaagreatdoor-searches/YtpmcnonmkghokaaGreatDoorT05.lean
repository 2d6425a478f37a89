import Derived.Test.YtpmcnonmkghokaaGreatDoorT04
import Derived.Test.YtpmcnonmkghokaaGreatDoorT00
import Derived.Lib.SliceRun
import Derived.Test.YtpmcnonmkghokaaGreatDoorT01
import Derived.Test.YtpmcnonmkghokaaGreatDoorT03
import Derived.Sort.LotA
import Derived.BigQuiet
import Derived.Shelf.SlSortCmp.NoneTotal
import Derived.Shelf.Spec.SlicesInsertGrow
import Derived.Shelf.Slices.ReverseS
import Derived.Shelf.SlLaysF
import Derived.Test.YtpmcnonmkghokaaGreatDoorRows
import Derived.Test.YtpmcnonmkghokaaGreatDoorT02
import Derived.Deep.CutRange
set_option maxRecDepth 100000
set_option maxHeartbeats 8000000
set_option linter.unusedVariables false
set_option linter.unusedSimpArgs false
namespace Go.Proofs.YtpmcnonmkghokaaGreatDoor
open Go.Proofs.Tryz Go.RowKit
attribute [local go_sem ↓] Go.wp_at_zero Go.wp_at_succ
variable {a7:Array Value}{e8:ByteArray}{i8:ELab}{j y:Int}{kd:IntKind}{ls:List (List Int)}{gs:List (Nat×Nat)}{i4 l:List Int}{b7:List MNever}{b4:List MStep}{S bad:List Nat}{cs ds xs:List Value}{b6:MNever}{s:MStep}{m:MdL}{B M b blk c c0 c1 c2 c3 c4 cap g i k lc ll lo n n0 n1 n2 n3 n4 nk sc size sn so:Nat}{fr:Nat×Nat}{a0 a1 a2 a3 a4 la sa:Option Addr}{x:Option Nat}{t:PTree}{α:Type}{b9:TypeId}{v va vb x' x0 x1 x2 x3 x4 x5:Value}{a w w':World}{a8:kq3}
structure Tk (x:Option Nat)(bad:List Nat)(w w':World):Prop where
 os:w'.os=w.os
 tape:w'.tape=w.tape
 output:w'.output=w.output
 size:w.heap.size<=w'.heap.size
 block:∀k o,w.heap[k]?=some o->x≠some k->(∀cs e fr,o=.cells cs e fr->e∉bad)->w'.heap[k]?=some o
theorem Tk.refl(x:Option Nat)(bad:List Nat)(w:World):Tk x bad w w:=⟨rfl,rfl,rfl,jH,λ_ _ h _ _=>h⟩
theorem Tk.trans{b:World}(h:Tk x bad a b)(k:Tk x bad b w):Tk x bad a w:=
 ⟨k.os.trans h.os,k.tape.trans h.tape,k.output.trans h.output,rP h.size k.size,λi o h1 c d=>k.block i o (h.block i o h1 c d) c d⟩
theorem Tk.wide(h:Tk x bad w w')(f:∀e∈bad,e∈S):Tk x S w w':=
 ⟨h.os,h.tape,h.output,h.size,λi o h1 a b=>h.block i o h1 a λcs e fr c d=>b cs e fr c<|f e d⟩
theorem Tk.any(h:Tk none bad w w')(x:Option Nat):Tk x bad w w':=
 ⟨h.os,h.tape,h.output,h.size,λi o h1 _ a=>h.block i o h1 ay a⟩
theorem yt(h:oq w w')(x:Option Nat)(bad:List Nat):Tk x bad w w':=
 ⟨h.os,h.tape,h.output,h.size,λi o h1 _ _=>(h.block i<|wQ h1).trans h1⟩
theorem kz4(hv:w.ownsRow lo B size v n xs)(b:w.grownBy w' v.ownBlock)(f:B∈bad):Tk x bad w w':=
 ⟨b.os,b.tape,b.output,b.size,λi o h1 _ e=>by
  rw[b.block i (wQ h1) (λa=>?_)]
  ·exact h1
  ·obtain⟨c,_⟩|⟨g,cap,cur,c,_,d,_⟩:=hv.2
   ·rw[c]at a;cases a
   ·rw[c]at a;injection a with a;grind⟩
theorem qqa(hM:w.heap[M]?=some (.cells a7 lo fr))(b:lo∈bad)(j:Nat)(v:Value):Tk x bad w (w.setCell ⟨M,j,none⟩ v):=
 ⟨rfl,rfl,rfl,ay,λi o h1 _ a=>by grind [Below.heap_setCell]⟩
theorem Tk.alloc(h:Tk x bad a w)(o:Obj):Tk x bad a (w.alloc o):=h.trans<|yt (jZ w (o:=o)) x bad
theorem Tk.e(h:Tk x bad w w')(hb:w.heap[b]?=some (.cells a7 lo fr))(a:x≠some b)(f:lo∉bad):w'.heap[b]?=some (.cells a7 lo fr):=
 h.block b _ hb a λcs' d c e g=>by simp_all
def pz(w:World)(x:Option Nat):Prop:=∀k cs e fr,x=some k->w.heap[k]?≠some (.cells cs e fr)
theorem pz.none(w:World):pz w none:=λ_ _ _ _ e=>mZ
theorem kkd.no(h:kkd w b a8):pz w (some b):=λk cs e fr a h1=>by injection a with a;subst a;obtain⟨⟨es,c,d,_⟩,_⟩:=h;simp_all
theorem jq(h:w.ownsRow lo B size v n xs)(f:Tk x bad w w')(i:pz w x)(e:B∉bad):w'.ownsRow lo B size v n xs:=by
 refine⟨h.1,?_⟩;obtain j|⟨g,cap,cur,b,c,a,d⟩:=h.2
 ·simp_all
 ·exact .inr ⟨g,cap,cur,b,c,f.e a (λe5=>i _ _ _ _ e5 a) e,d⟩
theorem XIs.tk(b:Tk x bad w w')(c:pz w x)(a:358∉bad):∀{y:PX}{v:Value},XIs lo w y v->XIs lo w' y v
 |.nil,_,h=>h
 |.node _ _ _ _ _,_,⟨k,va,vb,e,hn,hh,ha,hb⟩=>⟨k,va,vb,e,hn,b.e hh (λe5=>c _ _ _ _ e5 hh) a,ha.tk b c a,hb.tk b c a⟩
theorem BIs.tk{b3:Option Nat}(d:Tk x bad w w')(f:pz w x)(g:358∉bad)(c:334∉bad):∀{b:PB}{xs:List Value},BIs lo b3 w b xs->BIs lo b3 w' b xs
 |.nil,_,h=>h
 |.node _ _ a .nil n,cs,⟨p,rest,e,h1,hn⟩=>⟨p,rest,e,h1.tk d f g,BIs.tk d f g c hn⟩
 |.node _ _ a (.node _ _ _ t e) n,cs,⟨p,ta,tn,tc,ea,en,ec,ct,ce,rest,e1,h1,⟨ht1,ht3,ht2⟩,⟨he1,he3,hee2⟩,hn⟩=>
  ⟨p,ta,tn,tc,ea,en,ec,ct,ce,rest,e1,h1.tk d f g,⟨jq ht1 d f c,ht3,BIs.tk d f g c ht2⟩,⟨jq he1 d f c,he3,BIs.tk d f g c hee2⟩,BIs.tk d f g c hn⟩
theorem kvp.tk(b:Tk x bad w w')(c:pz w x)(a:107∉bad):∀{ks:List PKind}{cs:List Value},kvp lo w ks cs->kvp lo w' ks cs
 |[],_,h=>h
 |k::ks,_,⟨ma,mn,mc,rest,e,h1,h2⟩=>⟨ma,mn,mc,rest,e,jq h1 b c a,kvp.tk b c a h2⟩
def qvw:List Nat:=[111,114,107,121,127,130,352,334,358]
theorem kvy.tk(b:Tk x bad w w')(c:pz w x)(a:∀e∈qvw,e∉bad):∀{rs:List PRule}{cs:List Value},kvy lo w rs cs->kvy lo w' rs cs
 |[],_,h=>h
 |r::rs,_,⟨pa,pn,pc,gp,ba,bn,bc,bcs,rest,e,h1,h2,h3,h4,h5⟩=>⟨pa,pn,pc,gp,ba,bn,bc,bcs,rest,e,jq h1 b c<|a _ ak,h2.tk b c<|a _ ak,jq h3 b c<|a _ ak,h4.tk b c (a _ ak)<|a _ ak,kvy.tk b c a h5⟩
theorem kvg.tk(b:Tk x bad w w')(c:pz w x)(a:∀e∈qvw,e∉bad):∀{rs:List PRule}{cs:List Value},kvg lo w rs cs->kvg lo w' rs cs
 |[],_,h=>h
 |r::rs,_,⟨pa,pn,pc,gp,rest,e,h1,h2,h5⟩=>⟨pa,pn,pc,gp,rest,e,jq h1 b c<|a _ ak,h2.tk b c<|a _ ak,kvg.tk b c a h5⟩
theorem kwm.tk(h:kwm lo w x0 x1 x2 x3 x4 m)(b:Tk x bad w w')(c:pz w x)(a:∀e∈qvw,e∉bad):kwm lo w' x0 x1 x2 x3 x4 m:=by obtain⟨d,⟨c1,h1,k1⟩,f,⟨c3,g,k3⟩,⟨c4,i,k4⟩⟩:=h;exact⟨jq d b c<|a _ ak,⟨c1,jq h1 b c<|a _ ak,k1.tk b c<|a _ ak⟩,jq f b c<|a _ ak,⟨c3,jq g b c<|a _ ak,k3.tk b c a⟩,⟨c4,jq i b c<|a _ ak,k4.tk b c a⟩⟩
theorem qki.tk(b:Tk x bad w w')(c:pz w x)(a:9∉bad):∀{vs:List MVar}{cs:List Value},qki lo w vs cs->qki lo w' vs cs
 |[],_,h=>h
 |v::vs,cs,⟨ta,tc,rest,e,h1,h2⟩=>⟨ta,tc,rest,e,jq h1 b c a,qki.tk b c a h2⟩
theorem qki.app:∀{vs us:List MVar}{cs ds:List Value},qki lo w vs cs->qki lo w us ds->qki lo w (vs++us) (cs++ds)
 |[],_,cs,ds,h,h'=>by
  have:cs=[]:=h;simp_all
 |v::vs,_,cs,ds,⟨ta,tc,rest,e,h1,h2⟩,h'=>⟨ta,tc,rest++ds,by simp_all,h1,h2.app h'⟩
theorem kkd.tk(h:kkd w b a8)(f:Tk x bad w w')(g:x≠some b):kkd w' b a8:=by obtain⟨⟨es,c,h1,a⟩,d⟩:=h;exact⟨⟨es,c,f.block b _ h1 g (λ_ _ _ e=>mZ),a⟩,d⟩
theorem zz2.tk(h:zz2 lo so w M s cs)(b:Tk x bad w w')(c:pz w x)(a:∀e∈qvw,e∉bad)(hi:3∉bad):zz2 lo so w' M s cs:=by obtain⟨pa,pn,pc,ma,mn,mc,p,ba,bn,bc,bs,no,e,h1,d,f,g,i⟩:=h;exact⟨pa,pn,pc,ma,mn,mc,p,ba,bn,bc,bs,no,e,jq h1 b c<|a _ ak,jq d b c hi,f.tk b c<|a _ ak,jq g b c<|a _ ak,i.tk b c (a _ ak)<|a _ ak⟩
theorem qqx.tk(h:qqx lo so w M b4 cs)(b:Tk x bad w w')(d:pz w x)(a:∀e∈qvw,e∉bad)(hi:3∉bad):qqx lo so w' M b4 cs:=
 ⟨h.1,λk c=>(h.2 k c).tk b d a hi⟩
theorem qqx.snoc{l:List MStep}(h:qqx lo so w M l cs)(e:zz2 lo so w M s ds)(b:ds.length=6):qqx lo so w M (l++[s]) (cs++ds):=by
 refine⟨by simp[h.1,b];omega,λk d=>?_⟩;by_cases a:k<l.length
 ·have c:=h.1;rw[Jl aj,Jv (by grind),Qn a];exact h.2 k a
 ·have:k=l.length:=by grind
  subst this;rw[<-h.1,J4,Q9 aj];simp_all
def jzn(lo so:Nat)(w:World)(M:Nat)(s:MNever)(cs:List Value):Prop:=
 ∃pa pn pc ma mn mc p,cs=[.string s.x,.pointer (some ⟨M,0,none⟩),.slice pa pn pc,.slice ma mn mc,.pointer p]/\w.ownsRow lo 352 4 (.slice pa pn pc) s.u.length (uq s.u)/\w.ownsRow lo 3 1 (.slice ma mn mc) s.xy.length (s.xy.map<|Value.int .i64)/\XIs so w s.xp (.pointer p)
theorem jzn.tk(h:jzn lo so w M b6 cs)(a:Tk x bad w w')(b:pz w x)(c:∀e∈qvw,e∉bad)(hi:3∉bad):jzn lo so w' M b6 cs:=by obtain⟨pa,pn,pc,ma,mn,mc,p,e,h1,d,f⟩:=h;exact⟨pa,pn,pc,ma,mn,mc,p,e,jq h1 a b<|c _ ak,jq d a b hi,f.tk a b<|c _ ak⟩
def qxn(lo so:Nat)(w:World)(M:Nat)(l:List MNever)(cs:List Value):Prop:=cs.length=l.length*5/\∀k (hk:k<l.length),jzn lo so w M l[k] ((cs.drop (k*5)).take 5)
theorem qxn.tk(h:qxn lo so w M b7 cs)(b:Tk x bad w w')(d:pz w x)(a:∀e∈qvw,e∉bad)(hi:3∉bad):qxn lo so w' M b7 cs:=
 ⟨h.1,λk c=>(h.2 k c).tk b d a hi⟩
theorem qxn.snoc{l:List MNever}(h:qxn lo so w M l cs)(e:jzn lo so w M b6 ds)(b:ds.length=5):qxn lo so w M (l++[b6]) (cs++ds):=by
 refine⟨by simp[h.1,b];omega,λk d=>?_⟩;by_cases a:k<l.length
 ·have c:=h.1;rw[Jl aj,Jv (by grind),Qn a];exact h.2 k a
 ·have:k=l.length:=by grind
  subst this;rw[<-h.1,J4,Q9 aj];simp_all
theorem xwg(h:w.heap[b]?=some (.cells #[x0,x1,x2,x3,x4,x5] b9 (0,0)))(a:Value):(w.setCell ⟨b,0,none⟩ a).heap[b]?=some (.cells #[a,x1,x2,x3,x4,x5] b9 (0,0)):=jL b 0 _ _ _ h
theorem xwu(h:w.heap[b]?=some (.cells #[x0,x1,x2,x3,x4,x5] b9 (0,0)))(a:Value):(w.setCell ⟨b,1,none⟩ a).heap[b]?=some (.cells #[x0,a,x2,x3,x4,x5] b9 (0,0)):=jL b 1 _ _ _ h
theorem xwy(h:w.heap[b]?=some (.cells #[x0,x1,x2,x3,x4,x5] b9 (0,0)))(a:Value):(w.setCell ⟨b,2,none⟩ a).heap[b]?=some (.cells #[x0,x1,a,x3,x4,x5] b9 (0,0)):=jL b 2 _ _ _ h
theorem xxn(h:w.heap[b]?=some (.cells #[x0,x1,x2,x3,x4,x5] b9 (0,0)))(a:Value):(w.setCell ⟨b,3,none⟩ a).heap[b]?=some (.cells #[x0,x1,x2,a,x4,x5] b9 (0,0)):=jL b 3 _ _ _ h
theorem xww(h:w.heap[b]?=some (.cells #[x0,x1,x2,x3,x4,x5] b9 (0,0)))(a:Value):(w.setCell ⟨b,5,none⟩ a).heap[b]?=some (.cells #[x0,x1,x2,x3,x4,a] b9 (0,0)):=jL b 5 _ _ _ h
structure kzd (lo so:Nat)(w:World)(M nb:Nat)(steps:List MStep)(nevers:List MNever)(sets:List Int)(vars:List MVar)(tab:kq3)(size:Nat)(sv nv tv vv:Value):Prop where
 e:w.heap[M]?=some (.cells #[sv,nv,tv,vv,.map<|some nb,.int .i64 size] 105 (0,0))
 X:∃cs,w.ownsRow lo 178 6 sv steps.length cs/\qqx 0 so w M steps cs
 q:∃cs,w.ownsRow lo 208 5 nv nevers.length cs/\qxn 0 so w M nevers cs
 j:w.ownsRow lo 3 1 tv sets.length (sets.map<|Value.int .i64)
 z:∃cs,w.ownsRow lo 213 5 vv vars.length cs/\qki 0 w vars cs
 C:kkd w nb tab
 hM:lo<=M
 hN:lo<=nb
theorem kzd.below{d6:List MVar}(h:kzd lo so w M B b4 b7 l d6 a8 size v x0 x1 x2)(hb:oq w w'):kzd lo so w' M B b4 b7 l d6 a8 size v x0 x1 x2:=by have a:=yt hb none [];have b:=pz.none w;obtain⟨c,⟨c1,h1,k1⟩,⟨c2,d,k2⟩,e,⟨c4,f,k4⟩,g,i,h7⟩:=h;exact⟨(hb.block M<|wQ c).trans c,⟨c1,qj h1 hb,k1.tk a b ay ay⟩,⟨c2,qj d hb,k2.tk a b ay ay⟩,qj e hb,⟨c4,qj f hb,k4.tk a b ay⟩,g.tk a ay,i,h7⟩
def jym(t:ByteArray):Option Nat:=if 0<=mg t/\mg t<=9 then some (mg t).toNat else none
theorem zq8(h:jym e8=some n):mg e8=n/\n<=9:=by grind [jym]
def qzt(ss:List PSet)(s:List UInt8):Option Nat:=(kkq ss s).bind λk=>(ss[k]?).bind λx=>jym x.size.x
theorem kkx{e9:List PSet}{g8:List UInt8}(h:qzt e9 g8=some n):∃k x,kkq e9 g8=some k/\e9[k]?=some x/\mg x.size.x=n/\n<=9:=by unfold qzt at h;obtain⟨k,h1,a⟩:=wu.1 h;grind [zq8]
def vqi(ss:List PSet)(ks:List PKind)(s:SiT):Option (List ByteArray):=
 if s.I==0 then some (kvx 2)
 else if s.I==1 then (jym s.R.x).map λn=>kvx<|n+1
 else match kwe ks s.y.x.toList with
  |some k=>some (k.i.map (·.x))
  |none=>(qzt ss s.y.x.toList).map λm=>⟨#[45]⟩::kvx m
def qw4(ss:List PSet)(ks:List PKind)(sz:Nat)(v:VrT):Option MVar:=
 (if v.K then qzt ss v.g.x.toList else some 1).bind λc=>(vqi ss ks v.si).map λt=>⟨sz,c,t,kji ss v.g.x.toList,kji ss v.si.y.x.toList⟩
def mdV(a0 a1 a2 a3 a4:Option Addr)(n0 n1 n2 n3 n4 c0 c1 c2 c3 c4:Nat):Value:=.agg #[.slice a0 n0 c0,.slice a1 n1 c1,.slice a2 n2 c2,.slice a3 n3 c3,.slice a4 n4 c4]
structure MdFit (m:MdL):Prop where
 j:m.j.length<=1000
 p:m.p.length<=1000
 xy:∀x∈m.p,x.i.length<=1000
 z:m.z.length<=1000
 l:m.l.length<=1000
 q:m.q.length<=1000
theorem zyt{h9:SiT}(i:kwm lo w (.slice a0 n0 c0) (.slice a1 n1 c1) (.slice a2 n2 c2) (.slice a3 n3 c3) (.slice a4 n4 c4) m)(f:MdFit m){i1:List ByteArray}(a:vqi m.j m.p h9=some i1):og 98 #[mdV a0 a1 a2 a3 a4 n0 n1 n2 n3 n4 c0 c1 c2 c3 c4,siV h9] w λe w'=>∃v,e=.returned v/\w'.ownsRow w.heap.size 9 1 v i1.length (i1.map Value.string)/\oq w w':=by
 obtain⟨h,⟨t,h1,k1⟩,u,_,_⟩:=i;unfold vqi at a;cases b:(h9.I==0)
 ·rw[b,Xy ay]at a;cases c:(h9.I==1)
  ·rw[c,Xy ay]at a;cases d:kwe m.p h9.y.x.toList with
   |some k=>
    rw[d]at a;injection a with a;subst a;have:=zwp (mg h9.R.x) h9.R.v a0 a2 a3 a4 n0 n2 n3 n4 c0 c2 c3 c4 h1 k1 f.p f.xy b c d;refine this.mono ?_;rintro e w' ⟨v,rfl,l,hb⟩;exact⟨v,rfl,by rw[Ql,Jz];exact l,hb⟩
   |none=>
    rw[d]at a;obtain⟨n,hn,rfl⟩:=wX.1 a;obtain⟨j,x,p,q,g,s⟩:=kkx hn;have:=zyh (mg h9.R.x) h9.R.v a2 a3 a4 n2 n3 n4 c2 c3 c4 h1 k1 f.p h f.j p q g aj b c d;refine this.mono ?_;grind [kx1]
  ·rw[c,lJ rfl]at a;obtain⟨n,hn,rfl⟩:=wX.1 a;obtain⟨g,s⟩:=zq8 hn;have:=qxf w h9.I (mg h9.R.x) h9.R.v h9.y a0 a1 a2 a3 a4 n0 n1 n2 n3 n4 c0 c1 c2 c3 c4 (n+1) aj<|.inr ⟨b,c,aj⟩;refine this.mono ?_;grind [kx1]
 ·rw[b,lJ rfl]at a;injection a with a;subst a;have:=qxf w h9.I (mg h9.R.x) h9.R.v h9.y a0 a1 a2 a3 a4 n0 n1 n2 n3 n4 c0 c1 c2 c3 c4 2 aj (.inl<|by simp_all);refine this.mono ?_;grind [kx1]
theorem infoInt:(prog.info? 3).map (λi=>(i.zero,i.size,i.bytes))=some (some (.int .i64 0),1,8):=au
theorem infoInts:(prog.info? 31).map (λi=>(i.zero,i.size,i.bytes))=some (some (.slice none 0 0),1,24):=au
theorem jjl(l:List Int):∀y∈l.map (Value.int .i64),y.oneCell'=true:=by intro y a;obtain⟨x,_,rfl⟩:=tY.1 a;rfl
theorem zj2(k:w.ownsRow lo 3 1 (.slice sa sn sc) l.length (l.map (Value.int .i64)))(x:l.length<=1000000):Calls prog 185 #[.slice sa sn sc] w λe w'=>∃ca cn cc,e=.returned (.slice ca cn cc)/\w'.ownsRow w.heap.size 3 1 (.slice ca cn cc) l.length (l.map<|Value.int .i64)/\oq w w':=by
 obtain⟨a,j⟩|⟨g,cap,cur,a,j,u,v⟩:=k.2
 ·injection a with a c b;subst a;subst c;subst b;have hn:l=[]:=Qv j;subst hn;have h:=λw=>Go.Lib.run_eql_slice_nil (P:=prog) w 31 3 none 0 0 0 0 underlying31
  go_wp2;go_ret;exact⟨none,0,0,rfl,oN,bR⟩
 ·injection a with a c b;subst a;subst c;subst b;have i:=show(w.alloc<|.cells #[] 3).ownsRow w.heap.size 3 1 (.slice (some ⟨w.heap.size,0,none⟩) 0 0) 0 [] from⟨rfl,.inr ⟨w.heap.size,0,_,rfl,jH,qy,jH,ay,rfl,rfl⟩⟩
  obtain⟨i0,hi,m,p,q⟩:=info_parts infoInt;have h:=λw=>Go.Lib.run_eql_slice_nil (P:=prog) w 31 3 (some ⟨g,0,none⟩) l.length sc 0 0 underlying31
  go_in;go_wp2_with (at_builtin;refine kqv rfl 31 rfl w.heap.size 3 i0 _ 1 8 underlying31 hi m p q rfl ak (.slice (some ⟨w.heap.size,0,none⟩) 0 0) 0 [] rfl i (.slice (some ⟨g,0,none⟩) l.length sc) l.length _ _ rfl (qj k<|jZ w (o:=.cells #[] 3)) (jjl l) aj aj ay ?_)
  intro y w3 f d s;obtain⟨a3,t,c3,rfl⟩:=qh f;go_wp2;go_ret;exact⟨a3,t,c3,rfl,f,((jZ w).grown d ay<|jo i)⟩
def kqh(n:Nat)(all:List (List Int)):List (List Int):=all.flatMap λc=>(List.range n).map λ(j:Nat)=>c++[(j:Int)]
def chO(ss:List PSet):List PP->List (List Int)->Option (List (List Int))
 |[],all=>some all
 |p::l,all=>(qzt ss p.Q.x.toList).bind λn=>if (kqh n all).length<=100000 then chO ss l (kqh n all) else none
theorem vxi(n:Nat)(all:List (List Int))(j:Nat)(a:j<all.length):kqh n (all.take (j+1))=kqh n (all.take j)++(List.range n).map λ(q:Nat)=>all[j]++[(q:Int)]:=by grind [List.take_succ_eq_append_getElem,kqh]
theorem pxi(n:Nat)(all:List (List Int))(j:Nat):(kqh n (all.take j)).length<=(kqh n all).length:=by grind [List.take_append_drop,kqh]
theorem vy3(h:∀x∈ls,x.length<=k):∀x∈kqh n ls,x.length<=k+1:=by intro x a;obtain⟨c,d,b⟩:=rM.1 a;grind
def kx4(w:World)(ls:List (List Int))(cs:List Value):Prop:=cs.length=ls.length/\∀k (hk:k<ls.length),∃a n c,cs[k]?=some (.slice a n c)/\w.ownsRow 0 3 1 (.slice a n c) ls[k].length (ls[k].map (Value.int .i64))
theorem kx4.tk(h:kx4 w ls cs)(d:Tk x bad w w')(i:pz w x)(b:3∉bad):kx4 w' ls cs:=
 ⟨h.1,λk f=>by obtain⟨a,n,c,e,g⟩:=h.2 k f;exact⟨a,n,c,e,jq g d i b⟩⟩
theorem kx4.snoc(h:kx4 w ls cs)(g:w.ownsRow 0 3 1 (.slice la n c) l.length (l.map (Value.int .i64))):kx4 w (ls++[l]) (cs++[.slice la n c]):=by
 refine⟨by simp[h.1],λk f=>?_⟩;by_cases a:k<ls.length
 ·obtain⟨a',i,d,e,b⟩:=h.2 k a;grind
 ·have:k=ls.length:=by grind
  subst this;exact⟨la,n,c,by rw[<-h.1];simp,by simp_all⟩
def OwnRows(B:Nat)(w:World)(x:Value)(ls:List (List Int)):Prop:=∃la ll lc cs,x=.slice la ll lc/\w.ownsRow B 31 1 (.slice la ll lc) ls.length cs/\kx4 w ls cs
theorem vxe(hm:kwm B w (.slice a0 n0 c0) (.slice a1 n1 c1) (.slice a2 n2 c2) (.slice a3 n3 c3) (.slice a4 n4 c4) m)(hf:MdFit m){i2:List PP}(hP:w.ownsRow lo 352 4 (.slice la b M) i2.length (uq i2))(hl:i2.length<=1000)(hr:chO m.j i2 [[]]=some ls):Calls prog 171 #[mdV a0 a1 a2 a3 a4 n0 n1 n2 n3 n4 c0 c1 c2 c3 c4,.slice la b M] w λe w'=>∃v,e=.returned v/\OwnRows w.heap.size w' v ls/\oq w w':=by
 obtain⟨j0,hj,bP,bQ,bS⟩:=info_parts infoInts;obtain⟨W,hW⟩:=cpy<|(w.alloc<|.cells #[.slice a0 n0 c0,.slice a1 n1 c1,.slice a2 n2 c2,.slice a3 n3 c3,.slice a4 n4 c4] 68).alloc (.cells #[.slice none 0 0] 31);have N:oq w W:=jX;have bO:w.heap.size+1<W.heap.size:=by simp_all
 have hD:W.heap[w.heap.size]?=some (.cells #[.slice a0 n0 c0,.slice a1 n1 c1,.slice a2 n2 c2,.slice a3 n3 c3,.slice a4 n4 c4] 68 (0,0)):=by rw[hW];exact zy<|qy
 have hA:W.heap[w.heap.size+1]?=some (.cells #[.slice none 0 0] 31 (0,0)):=by grind [qy,World.size_alloc]
 have V:OwnRows w.heap.size W (.slice (some ⟨w.heap.size+1,0,none⟩) 1 1) [[]]:=
  ⟨_,_,_,[.slice none 0 0],rfl,⟨rfl,.inr ⟨w.heap.size+1,1,_,rfl,aj,hA,jH,iq,rfl,rfl⟩⟩,rfl,λk hk=>by grind [World.ownsRow_nil]⟩
 obtain⟨rfl,HW⟩:=kja<|qj hP N;have aW:=λ(wx:World)(hb:oq w wx)(t:Tok)(n:Nat)(h:qzt m.j t.x.toList=some n)=>(show ∃d:Int,d=n/\og 97 #[.agg #[.slice a0 n0 c0,.slice a1 n1 c1,.slice a2 n2 c2,.slice a3 n3 c3,.slice a4 n4 c4],.agg #[.string t.x,.int .i64 t.v]] wx λe w'=>e=.returned (.int .i64 d)/\oq wx w' from by obtain⟨k,x,h1,h2,h3,_⟩:=kkx h;exact⟨_,h3,qwx a1 a2 a3 a4 n1 n2 n3 n4 c1 c2 c3 c4 (qj hm.o0 hb) hf.j h1 h2⟩)
 unfold mdV;go_in;go_wp21;rw[(oz hW.symm)];go_loopw [5,7,8,10,11,15] (λx _ _ _ _ i wr=>∃(k:Nat) (all:List (List Int)),k<=i2.length/\i=.int .i64 k/\OwnRows w.heap.size wr x all/\chO m.j (i2.drop k) all=some ls/\all.length<=100000/\(∀y∈all,y.length<=k)/\oq W wr) (λ_ _ _ _ _ i _=>i2.length-(intOf i).toNat);exact⟨0,[[]],jR,rfl,(oz V),(oz hr),ay,ay,bR⟩;obtain⟨F,rfl⟩:=cpy wr;obtain⟨k,all,hk,rfl,u,a,bI,(P:Hid _),hb⟩:=hrel;obtain⟨xa,xn,xc,cs,rfl,l,f⟩:=u;obtain⟨rfl,aD⟩:=kja l;have b7:=hb.size;by_cases U:k<i2.length
 ·obtain⟨g,rfl,bJ,b6,hc⟩:=HW k U;have R:=λj (hj:j<4)=>kqo kzn 4 (λ_=>rfl) i2 k j U hj
  have cc:∀j,j<i2.length*4->F.cell? ⟨g,j,none⟩=(uq i2)[j]?:=λj hj=>(hb.cell (p:=⟨g,j,none⟩) b6).trans<|hc j hj
  have e0:=(cc (k*4+0) aj).trans<|R 0 aj;have e1:=(cc (k*4+1) aj).trans<|R 1 aj;have e2:=(cc (k*4+2) aj).trans<|R 2 aj;have e3:=(cc (k*4+3) aj).trans<|R 3 aj;simp only[kzn,sW,sU,Qk]at e0 e1 e2 e3;rw[rU U,chO]at a;obtain⟨n,HN,a⟩:=wu.1 a;have aC:(kqh n all).length<=100000:=by simp_all
  rw[lJ aC]at a;obtain⟨s,D⟩:=cpy<|F.alloc (.cells #[.string i2[k].y.x,.int .i64 i2[k].y.v,.string i2[k].Q.x,.int .i64 i2[k].Q.v] 352);have a9:oq W s:=by rw[D];exact hb.alloc b7 _
  have aS:Hid (s.heap[F.heap.size]?=some (.cells #[.string i2[k].y.x,.int .i64 i2[k].y.v,.string i2[k].Q.x,.int .i64 i2[k].Q.v] 352 (0,0))):=by rw[D];exact qy
  have L:oq F s:=by rw[D];exact jZ _
  have bN:F.heap.size<s.heap.size:=by simp_all
  have aY:=oz aD;have aT:=f.tk (yt L none []) (pz.none _) ay;have aX:=oz D.symm;have aU:=show OwnRows s.heap.size s (.slice none 0 0) (kqh n<|all.take 0) from⟨none,0,0,[],rfl,by simp[kqh];exact oN,by simp[kqh],λk hk=>by simp[kqh]at hk⟩
  generalize i2[k]=p at *;clear cc R hc l aD a D;go_wp21;rw[aX];go_loopw [8,10,11,21] (λy _ _ i E=>∃j:Nat,j<=all.length/\i=.int .i64 j/\OwnRows s.heap.size E y (kqh n<|all.take j)/\oq s E) (λ_ _ _ i _=>all.length-(intOf i).toNat);exact⟨0,jR,rfl,aU,bR⟩;obtain⟨E,rfl⟩:=cpy wr;obtain⟨j,bK,rfl,u,A⟩:=hrel;obtain⟨ya,yn,yc,ds,rfl,l,f⟩:=u;have aM:=A.size;have O:oq W E:=a9.trans<|A.mono a9.size;by_cases z:j<all.length
  ·obtain⟨g5,rfl,bC,aJ,b5⟩:=aY j z;obtain⟨ca,cn,aZ,b3,aO⟩:=aT.2 j z;have e5:E.cell? ⟨g5,j*1,none⟩=some (.slice ca cn aZ):=by rw[A.cell (p:=⟨g5,j*1,none⟩) (by grind),L.cell (p:=⟨g5,j*1,none⟩) aJ,b5 (j*1) aj,Jb];exact b3
   simp only[Jb]at e5;have bB:all[j].length<=1000:=by have:=P _<|wZ z;omega
   have q0:=jl<|(O.block w.heap.size aj).trans (oz hD);have p0:=kz3<|(A.block F.heap.size aj).trans aS;have b4:oq w E:=N.trans<|O.mono aj;obtain⟨d,hd,X⟩:=aW E b4 p.Q n HN;obtain⟨aI,Y⟩:=ju l f;have b8:=vxi n all j z;have bD:=pxi n all<|j+1;generalize all[j]=c at *;go_wp21
   refine X.mono ?_;rintro e w3 ⟨rfl,S⟩;subst hd;have aH:=A.trans<|S.mono aM;have aV:=show OwnRows s.heap.size w3 (.slice ya yn yc) (kqh n (all.take j)++(List.range 0).map λ(q:Nat)=>c++[(q:Int)]) from⟨ya,yn,yc,ds,rfl,by simpa using qj aI S,by simpa using Y.tk (yt S none []) (pz.none _) ay⟩
   go_wp21;go_loopw [8,11,29] (λy _ i K=>∃q:Nat,q<=n/\i=.int .i64 q/\OwnRows s.heap.size K y (kqh n (all.take j)++(List.range q).map λ(q:Nat)=>c++[(q:Int)])/\oq s K) (λ_ _ i _=>n-(intOf i).toNat);exact⟨0,jR,rfl,aV,aH⟩;obtain⟨K,rfl⟩:=cpy wr;obtain⟨q,hq,rfl,u,I⟩:=hrel;obtain⟨aE,aG,aF,b2,rfl,Z,Q⟩:=u;have aL:=I.size;by_cases bL:q<n
   ·have aP:=qj aO I;have a7:(kqh n (all.take j)++(List.range q).map λ(q:Nat)=>c++[(q:Int)]).length<=100000:=by
     have h1:(kqh n (all.take j)++(List.range q).map λ(q:Nat)=>c++[(q:Int)]).length<=(kqh n<|all.take (j+1)).length:=by simp_all
     omega
    have bM:(q:Int)<=1000000:=by
     have:q<=100000:=by simp at a7;omega
     omega
    have bG:=show(kqh n (all.take j)++(List.range<|q+1).map λ(q:Nat)=>c++[(q:Int)])=(kqh n (all.take j)++(List.range q).map λ(q:Nat)=>c++[(q:Int)])++[c++[(q:Int)]] by rw[Jf,Qw,<-sZ];rfl
    generalize (kqh n (all.take j)++(List.range q).map λ(q:Nat)=>c++[(q:Int)])=Lg at *;go_wp21;refine(zj2 aP aj).mono ?_;rintro e w4 ⟨xa,xn,xc,rfl,aB,aA⟩;have aK:=aA.size;go_wp2_with (at_builtin;refine apO (aB.alloc _) ?_)
    intro v5 w5 J T _ b9;obtain⟨a5,l5,c5,rfl⟩:=qh J;have H:oq K w5:=(aA.alloc aK _).grown T ah<|jo aB;have bF:=H.size;have aR:=show w5.ownsRow 0 3 1 (.slice a5 l5 c5) (c++[(q:Int)]).length ((c++[(q:Int)]).map<|Value.int .i64) by rw[rD,Qw];exact qo jR J
    have G:=qj Z H;go_wp2_with (at_builtin;refine apO (G.alloc _) ?_)
    intro v6 w6 a8 C _ bA;obtain⟨a6,l6,c6,rfl⟩:=qh a8;have k6:Tk none [31] w5 w6:=(yt (jZ w5) _ _).trans<|kz4 (G.alloc _) C ay;have bH:=show OwnRows s.heap.size w6 (.slice a6 l6 c6) (Lg++[c++[(q:Int)]]) from⟨a6,l6,c6,_,rfl,by simp_all,((Q.tk (yt H none [31]) (pz.none _) ak).snoc aR).tk k6 (pz.none _) ak⟩
    have aN:=((I.trans<|H.mono aL).alloc aj _).grown C ah<|jo G;go_wp2
    exact rdM ⟨q+1,aj,eu,by simp_all,aN⟩
   ·have:q=n:=by omega
    subst this;have HX:=show OwnRows s.heap.size K (.slice aE aG aF) (kqh q<|all.take (j+1)) from⟨aE,aG,aF,b2,rfl,by simp_all,by simp_all⟩
    go_wp2;exact rdM ⟨j+1,aj,eu,HX,I⟩
  ·have:j=all.length:=by omega
   subst this;rw[Qc]at l f;have HX:=show OwnRows w.heap.size E (.slice ya yn yc) (kqh n all) from⟨ya,yn,yc,ds,rfl,qo aj l,f⟩
   have aQ:=vy3 (n:=n) P;go_wp2;exact rdM ⟨k+1,kqh n all,aj,eu,HX,(oz a),aC,aQ,O⟩
 ·have:k=i2.length:=by omega
  subst this;rw[sK,chO]at a;injection a with a;subst a;have HX:=show OwnRows w.heap.size F (.slice xa all.length xc) all from⟨xa,all.length,xc,cs,rfl,l,f⟩
  have HB:=N.trans<|hb.mono aj;go_wp2
  go_ret;simp_all
section
theorem pk9(hn:n<=1000000)(hb:b<=1000):n*b<=140737488355328:=rP (Jt hn hb) aj
section
variable {w:World} {base lo e size n m c t:Nat} {v u:Value} {xs ys:List Value} {ad:Addr} {ops:Array Oper} {rest:List Oper} {o:Oper} {a:Act} {Q:Exit->Act->World->Prop} {s x:Operand}
theorem apI{lo:Nat}(d:w.ownsRow base 3 1 v l.length (l.map (Value.int .i64)))(B:∀j,j<i4.length->w.cell? ⟨g,lo+j,none⟩=(i4.map (Value.int .i64))[j]?)(h:∀b w',w'.ownsRow base 3 1 b (l++i4).length ((l++i4).map<|Value.int .i64)->w.grownBy w' v.ownBlock->(b=.slice none 0 0↔v=.slice none 0 0/\m=0)->(b.ownBlock=v.ownBlock\/b.ownBlock=some w.heap.size)->wpList prog ops Q rest (a.put o.dst b) w')(t:o.op=.call {callee:=.builtin .append,args:=#[s,x],argTypes:=#[31,31]}:=by exact rfl)(e:o.guard=none:=by exact rfl)(y:a.eval s=v:=by exact rfl)(A:a.eval x=.slice la m c:=by exact rfl)(hA:la=some ⟨g,lo,none⟩:=by first|rfl|(split<;>rfl))(D:i4.length=m:=by first|omega|(simp;done)|(simp;omega))(hn:l.length+i4.length<=1000000:=by first|omega|(simp;done)|(simp;omega))(hb:base<=w.heap.size:=by first|omega|(simp;done)|(simp;omega)):wpList prog ops Q (o::rest) a w:=by
 subst hA;obtain⟨i,z,f,k,p,g4,q,g6,g7⟩:=pye (by kernel_rfl:pyi prog 31 3 1=true);refine Ja _ e s x _ t base _ i z 1 i.bytes f k p g4 rfl q g7 v _ _ y d ⟨g,lo,none⟩ m c (i4.map<|Value.int .i64) A (by simp_all) (λj u C=>?_) (jjl i4) iq (pk9 aj g6) hb λb w' k1 k2 k3 k4=>h b w' (by simp_all) k2 k3 k4
 grind [Addr.add]
end
theorem OwnRows.below(h:OwnRows B w v ls)(hb:oq w w'):OwnRows B w' v ls:=by obtain⟨a,n,c,cs,rfl,h1,b⟩:=h;exact⟨a,n,c,cs,rfl,qj h1 hb,b.1,λk d=>by obtain⟨a,n,c,e,f⟩:=b.2 k d;exact⟨a,n,c,e,qj f hb⟩⟩
theorem OwnRows.snoc(b:kx4 w ls cs)(i:w.ownsRow B 31 1 v ls.length cs)(g:w.ownsRow 0 3 1 (.slice la ll lc) l.length (l.map (Value.int .i64)))(h:w'.ownsRow B 31 1 x' (ls.length+1) (cs++[.slice la ll lc]))(d:w.grownBy w' v.ownBlock):OwnRows B w' x' (ls++[l]):=by obtain⟨a,n,c,rfl⟩:=qh h;refine⟨a,n,c,_,rfl,by simp_all,kx4.snoc ⟨b.1,λk f=>?_⟩<|kqx g i ak d⟩;obtain⟨a,n,c,e,h1⟩:=b.2 k f;grind [kqx]
end
def qk1(x:Tok)(a:Int)(_:Nat)(y:Tok):Int:=if y.x.toList==x.x.toList then xu a x.v else a
def jqx(x:Tok)(a:Int)(_:Nat)(q:PP):Int:=if q.y.x.toList==x.x.toList then xu a x.v else a
def jvp(g:List Tok)(a:Int)(i:Nat)(x:Tok):Int:=yx (qk1 x) (g.take i) 0 a
def jvg(g:List Tok)(ps:List PP)(a:Int)(k:Nat)(p:PP):Int:=yx (jqx p.y) (ps.take k) 0 (yx (qk1 p.y) g 0 a)
def jvu(g:List Tok)(a:Int)(_:Nat)(r:PRule):Int:=yx (jvg g r.u) r.u 0 a
def qq0(t:PTree):Int:=yx (jvu (jc t)) (t.l++t.q) 0 (yx (jvp (jc t)) (jc t) 0 (-1))
theorem zy1(l:List Tok)(k:Nat)(h:k<l.length):(uw l)[k*3+1]?=some (.string (l[k]).x)/\(uw l)[k*3+2]?=some (.int .i64 (l[k]).v):=
 ⟨kqo ji 3 (λ_=>rfl) l k 1 h aj,kqo ji 3 (λ_=>rfl) l k 2 h aj⟩
theorem pwx(l:List PP)(k:Nat)(h:k<l.length):(kjm l)[k*6+1]?=some (.string (l[k]).y.x)/\(kjm l)[k*6+2]?=some (.int .i64 (l[k]).y.v):=
 ⟨kqo kwf 6 (λ_=>rfl) l k 1 h aj,kqo kwf 6 (λ_=>rfl) l k 2 h aj⟩
theorem pv8(l:List Tok):(uw l).length=l.length*3:=by
 induction l with
 |nil=>rfl
 |cons x xs ih=>grind [uw,List.length_cons,ji]
theorem pxd(h:kqc w lo t)(ht:TreeOk t)(hr:t.l.length<=801)(hn:t.q.length<=801)(hp:∀r∈t.l++t.q,r.u.length<=801)(a2:(jc t).length<=90000):Calls prog 64 #[.pointer (some ⟨lo,0,none⟩)] w λe w'=>e=.returned (.int .i64<|qq0 t)/\oq w w':=by
 obtain⟨HT,HP⟩:=ju h hp;obtain⟨aQ,aK,aR,aM⟩:=ht;clear hp aM;go_in;go_wp21;refine(vxj h aQ aK aR hr hn a2).mono ?_;rintro e N ⟨gv,rfl,aJ,U⟩;have aB:=U.size;obtain⟨ga,gc,rfl,a3⟩:=kq8 aJ;have O:=oz (show qq0 t=yx (jvu<|jc t) (t.l++t.q) 0 (yx (jvp<|jc t) (jc t) 0<|-1) from rfl);generalize jc t=G at a3 O a2;have a7:=oz a3;have P:=kjd.start (f:=jvp G) (items:=G) (z:=-1)<|Below.refl N.heap.size N;clear a3;go_wp21
 go_loopw [3,5,6] (λat_ i _ wr=>kjd N (jvp G) G (-1) at_ i wr) (λ_ i _ _=>G.length-(intOf i).toNat);exact P;obtain⟨k,z0,aL,rfl,rfl,A,v⟩:=hrel;have aS:=v.size;by_cases s:k<G.length
 ·obtain⟨g,rfl,M⟩:=ku a7 k s;obtain⟨u,p⟩:=zy1 G k s;replace u:=(M (k*3+1) aj).trans u
  replace p:=(M (k*3+2) aj).trans p
  have E:=oz (λ(w':World) (b:Int) (hb:b=yx (qk1<|G[k]) (G.take k) 0 z0) C=>kjd.Y (W:=N) (wr:=w') (f:=jvp G) (items:=G) (z:=-1) (a:=z0) (b:=b) s A hb C);have aO:(G.take k).length=k:=by simp_all
  generalize G[k]=x at u p E;have D:=kjd.start (W:=N) (f:=qk1 x) (items:=G.take k) (z:=z0) v;clear A;go_wp21;go_loopw [3,6] (λat_ i wr=>kjd N (qk1 x) (G.take k) z0 at_ i wr) (λ_ i _=>(G.take k).length-(intOf i).toNat);exact D;obtain⟨j,b,a9,rfl,rfl,m,c⟩:=hrel;have aC:=c.size;have z1:=wU c u;have z2:=wU c p;by_cases S:j<k
  ·have B:j<(G.take k).length:=by omega
   have a1:j<G.length:=aj;obtain⟨d1,_⟩:=zy1 G j a1;replace d1:=wU c<|(M (j*3+1) aj).trans d1
   have a0:(G.take k)[j]=G[j]:=Zo;have l:=oz (λ(w':World) (I:Int) (hb:I=if (G[j]).x.toList==x.x.toList then xu b x.v else b) C=>kjd.Y (W:=N) (wr:=w') (f:=qk1 x) (items:=(G.take k)) (z:=z0) (a:=b) (b:=I) B m (by rw[hb,a0];rfl) C);generalize (G[j]).x=y at d1 l;clear m;cases J:(y.toList==x.x.toList)
   ·rw[J]at l;have q:=l _ b ay c.drew;go_wp21;go_region
    go_wp2;exact rdM q
   ·rw[J]at l;have aD:=wU c.drew p;go_wp21;go_region
    go_wp21;refine(first_any).mono ?_;rintro e u1 ⟨rfl,rfl⟩;generalize Y:xu b (x.v:Int)=F at l;have q:=l _ F ay c.drew;clear Y;go_wp2;exact rdM q
  ·have d:=kqu (by omega:¬j<(G.take k).length) m;have H:=E _ b d c;clear d m;go_wp2;exact rdM H
 ·have d:=kqu s A;go_wp21;refine(qk3 (HT.below<|U.trans (v.mono aB)) hr hn).mono ?_;rintro e w4 ⟨rv,rs,rfl,T,K,aI⟩;have a6:=(U.trans<|v.mono aB).trans<|aI.mono aj;have aE:=oz (show ∀i,i<G.length->∃g,ga=some ⟨g,0,none⟩/\∀j,j<G.length*3->w4.cell? ⟨g,j,none⟩=(uw G)[j]? from λi hi=>by
   obtain⟨g,e1,M⟩:=ku a7 i hi;refine⟨g,e1,λj hj=>?_⟩;have hl:j<(uw G).length:=by rw[pv8];omega
   grind [cell_later])
  obtain⟨ra,rc,rfl,(X:Hid _)⟩:=kq8 T;have aP:(t.l++t.q).length<=1602:=by grind
  rw[<-d]at O;have P:=kjd.start (W:=w4) (wr:=w4) (f:=jvu G) (items:=t.l++t.q) (z:=z0)<|bR;generalize t.l++t.q=L at P K X aP HP O X T K;clear d A;go_wp21
  go_loopw [3,8,9,10,11,12] (λat_ i _ _ _ _ wr=>kjd w4 (jvu G) L z0 at_ i wr) (λ_ i _ _ _ _ _=>L.length-(intOf i).toNat);exact P;obtain⟨k,a,aL,rfl,rfl,A,v⟩:=hrel;have aS:=v.size;by_cases s:k<L.length
  ·obtain⟨g,rfl,M⟩:=ku X k s;obtain⟨vp,_,_,_,⟨_,_,_,f3,_,_⟩,aA,_⟩:=qji k s K;have e3:=(M (k*6+3) aj).trans f3;have aN:=ku HP _<|wZ s;have E:=oz (λ(w':World) (b:Int) (hb:b=yx (jvg G (L[k]).u) (L[k]).u 0 a) C=>kjd.Y (W:=w4) (wr:=w') (f:=jvu G) (items:=L) (z:=z0) (a:=a) (b:=b) s A hb C);generalize (L[k]).u=ps at E aA aN;obtain⟨ma,mc,rfl,(aG:Hid _)⟩:=kq8 aA;have aH:=kjd.start (W:=w4) (f:=jvg G ps) (items:=ps) (z:=a) v;have c3:=wU v e3;clear M f3 A;go_wp21
   go_loopw [3,10,11,12] (λat_ i _ _ wr=>kjd w4 (jvg G ps) ps a at_ i wr) (λ_ i _ _ _=>ps.length-(intOf i).toNat);exact aH;obtain⟨k4,a4,aT,rfl,rfl,Q,a5⟩:=hrel;by_cases R:k4<ps.length
   ·obtain⟨gp,rfl,Z⟩:=ku aG k4 R;obtain⟨u,p⟩:=pwx ps k4 R;replace u:=(Z (k4*6+1) aj).trans u
    replace p:=(Z (k4*6+2) aj).trans p
    have V:=oz (λ(w':World) (b:Int) (hb:b=yx (jqx (ps[k4]).y) (ps.take k4) 0 (yx (qk1 (ps[k4]).y) G 0 a4)) C=>kjd.Y (W:=w4) (wr:=w') (f:=jvg G ps) (items:=ps) (z:=a) (a:=a4) (b:=b) R Q hb C);have aO:(ps.take k4).length=k4:=by simp_all
    generalize (ps[k4]).y=x at u p V;have D:=kjd.start (W:=w4) (f:=qk1 x) (items:=G) (z:=a4) a5;clear Q;go_wp21;go_loopw [3,11] (λat_ i wr=>kjd w4 (qk1 x) G a4 at_ i wr) (λ_ i _=>G.length-(intOf i).toNat);exact D;obtain⟨j,b5,a9,rfl,rfl,m,c⟩:=hrel;have aC:=c.size;have z1:=wU c u;have z2:=wU c p;by_cases S:j<G.length
    ·have B:j<G.length:=by omega
     obtain⟨d1,_⟩:=zy1 G j S;obtain⟨g5,rfl,a8⟩:=ku aE j S;replace d1:=wU c<|(a8 (j*3+1) aj).trans d1
     clear a8;have l:=oz (λ(w':World) (I:Int) (hb:I=if (G[j]).x.toList==x.x.toList then xu b5 x.v else b5) C=>kjd.Y (W:=w4) (wr:=w') (f:=qk1 x) (items:=G) (z:=a4) (a:=b5) (b:=I) B m (by rw[hb];rfl) C);generalize (G[j]).x=y at d1 l;clear m;cases J:(y.toList==x.x.toList)
     ·rw[J]at l;have q:=l _ b5 ay c.drew;go_wp21;go_region
      go_wp2;exact rdM q
     ·rw[J]at l;have aD:=wU c.drew p;go_wp21;go_region
      go_wp21;refine(first_any).mono ?_;rintro e u1 ⟨rfl,rfl⟩;generalize Y:xu b5 (x.v:Int)=F at l;have q:=l _ F ay c.drew;clear Y;go_wp2;exact rdM q
    ·have d:=kqu (by omega:¬j<G.length) m;have aF:=oz (d:b5=yx (qk1 x) G 0 a4);have D:=kjd.start (W:=w4) (f:=jqx x) (items:=ps.take k4) (z:=b5) c;clear d m;go_wp21;go_loopw [3,12] (λat_ i wr=>kjd w4 (jqx x) (ps.take k4) b5 at_ i wr) (λ_ i _=>(ps.take k4).length-(intOf i).toNat);exact D;obtain⟨j,b,a9,rfl,rfl,m,c⟩:=hrel;have aC:=c.size;have z1:=wU c u;have z2:=wU c p;by_cases S:j<k4
     ·have B:j<(ps.take k4).length:=by omega
      have a1:j<ps.length:=aj;obtain⟨d1,_⟩:=pwx ps j a1;replace d1:=wU c<|(Z (j*6+1) aj).trans d1
      have a0:(ps.take k4)[j]=ps[j]:=Zo;have l:=oz (λ(w':World) (I:Int) (hb:I=if (ps[j]).y.x.toList==x.x.toList then xu b x.v else b) C=>kjd.Y (W:=w4) (wr:=w') (f:=jqx x) (items:=(ps.take k4)) (z:=b5) (a:=b) (b:=I) B m (by rw[hb,a0];rfl) C);generalize (ps[j]).y.x=y at d1 l;clear m;cases J:(y.toList==x.x.toList)
      ·rw[J]at l;have q:=l _ b ay c.drew;go_wp21;go_region
       go_wp2;exact rdM q
      ·rw[J]at l;have aD:=wU c.drew p;go_wp21;go_region
       go_wp21;refine(first_any).mono ?_;rintro e u1 ⟨rfl,rfl⟩;generalize Y:xu b (x.v:Int)=F at l;have q:=l _ F ay c.drew;clear Y;go_wp2;exact rdM q
     ·have d:=kqu (by omega:¬j<(ps.take k4).length) m;have H:=V _ b (by rw[<-ku aF];omega) c;clear d m;go_wp2;exact rdM H
   ·have d:=kqu R Q;have H:=E _ a4 d a5;clear d Q;go_wp2;exact rdM H
  ·have d:=kqu s A;have HE:=oz (by rw[ku O];omega:a=qq0 t);clear d A;go_wp2;go_ret;exact⟨kqi HE,a6.trans<|v.mono a6.size⟩
theorem qk5(h:kqc w lo t)(m:t.j.length<=801)(c:k<t.j.length)(v:zx (ug t) e8.toList=k)(l:zz9 (t.j[k]).size):Calls prog 122 #[.pointer (some ⟨lo,0,none⟩),.string e8] w λe w'=>e=.returned (.int .i64<|mg (t.j[k]).size.x)/\w'=w:=by
 have f:=oz h;obtain⟨x0,x1,x2,x3,x4,y1,y3,y4,i,p,_⟩:=h;have x:=kzk i;obtain⟨a,cap,rfl,b⟩:=kq8 p;obtain⟨g,rfl,j⟩:=b k c;have q:w.cell? ⟨g,k*6+4,none⟩=some (.string (t.j[k]).size.x):=by rw[j _ aj];exact kqo kwz 6 (λ_=>rfl) t.j k 4 c aj
 obtain⟨d,h1,u⟩:=l;have s:=show mg (t.j[k]).size.x=(((t.j[k]).size.x[0]'d).toNat:Int)-48 by simp[mg,d]
 go_in;go_wp21;refine(set_any e8 f m).mono ?_;rintro e y ⟨rfl,rfl⟩;go_wp2;go_ret;simp_all
theorem qkw(h:w.ownsRow lo B size v n xs)(hn:0<n):∃g c,v=.slice (some ⟨g,0,none⟩) n c/\lo<=g/\g<w.heap.size:=by grind [qp]
def rwV(g:Nat×Nat)(l:List Int):Value:=.slice (some ⟨g.1,0,none⟩) l.length g.2
structure StA (B:Nat)(w:World)(x:Value)(S:List (List Int))(gs:List (Nat×Nat)):Prop where
 out:w.ownsRow B 31 1 x S.length (List.zipWith rwV gs S)
 T:gs.length=S.length
 apart:(gs.map (·.1)).Nodup
 rows:∀k (hk:k<S.length) (hg:k<gs.length),w.ownsRow B 3 1 (rwV gs[k] S[k]) S[k].length (S[k].map (Value.int .i64))
theorem StA.below(h:StA B w v ls gs)(hb:oq w w'):StA B w' v ls gs:=
 ⟨qj h.out hb,h.T,h.apart,λk b a=>qj (h.rows k b a) hb⟩
theorem StA.mono(h:StA B w v ls gs)(hb:lo<=B):StA lo w v ls gs:=
 ⟨qo hb h.out,h.T,h.apart,λk b a=>qo hb<|h.rows k b a⟩
theorem StA.lt(h:StA B w v ls gs)(hn:∀l∈ls,0<l.length):∀g∈gs.map (·.1),g<w.heap.size:=by
 intro g d;obtain⟨y,f,rfl⟩:=tY.1 d;obtain⟨k,b,rfl⟩:=wG f;have a:k<ls.length:=by rw[<-h.T];exact b
 obtain⟨g,c,e,_,i⟩:=qkw (h.rows k a b)<|hn _ (wZ a);injection e with e;simp_all
theorem StA.nil(w:World)(B:Nat):StA B w (.slice none 0 0) [] []:=⟨jE,rfl,Jd,λk a=>ay⟩
theorem StA.snoc(h:StA B w v ls gs)(j:g∉gs.map (·.1))(d:w.ownsRow B 3 1 (.slice (some ⟨g,0,none⟩) l.length c) l.length (l.map (Value.int .i64)))(f:w'.ownsRow B 31 1 x' (ls.length+1) (List.zipWith rwV gs ls++[.slice (some ⟨g,0,none⟩) l.length c]))(b:w.grownBy w' v.ownBlock):StA B w' x' (ls++[l]) (gs++[(g,c)]):=by
 refine⟨?_,by simp[h.T],?_,?_⟩
 ·rw[rD,List.zipWith_append h.T];exact f
 ·rw[Qw];refine Jw.2 ⟨h.apart,ay,?_⟩;grind
 ·intro k m i;by_cases e:k<ls.length
  ·have a:k<gs.length:=by rw[h.T];exact e
   rw[Qn e,Qn a];exact kqx (h.rows k e a) h.out ak b
  ·have:k=ls.length:=by grind
   subst this;have a:(gs++[(g,c)])[ls.length]=(g,c):=by simp[<-h.T]
   rw[a];simp;exact kqx d h.out ak b
theorem zja(h:StA lo w v ls gs)(hn:∀l∈ls,0<l.length/\l.length<=1000)(Y:ls.length<=1000):Calls prog 123 #[v] w λe w'=>∃x' b,e=.returned x'/\StA w.heap.size w' x' ls b/\oq w w':=by
 obtain⟨i0,hi,I,J,K⟩:=info_parts infoInt;obtain⟨za,zc,rfl,F⟩:=qp h.out;go_in;go_wp21;go_loopw [3,4,5] (λy i _ wr=>∃(k:Nat) (b:List (Nat×Nat)),k<=ls.length/\i=.int .i64 k/\StA w.heap.size wr y (ls.take k) b/\oq w wr) (λ_ i _ _=>ls.length-(intOf i).toNat);exact⟨0,[],jR,rfl,StA.nil _ _,bR⟩;obtain⟨j,rfl⟩:=cpy wr;obtain⟨k,b,X,rfl,a,m⟩:=hrel;have A:=m.size;obtain⟨ya,yc,rfl,V⟩:=qp a.out;have t:(ls.take k).length=k:=by simp_all
 rw[t]at a |-;by_cases c:k<ls.length
 ·obtain⟨g,rfl,S,G,M⟩:=F k c;have H:k<gs.length:=by rw[h.T];exact c
  have W:j.cell? ⟨g,k,none⟩=some (rwV gs[k] ls[k]):=by rw[m.cell (p:=⟨g,k,none⟩) G,M k aj,Zy];simp_all
  have B:=qj (h.rows k c H) m;have U:=hn _<|wZ c;have E:=tJ c;have D:=rC j j.heap.size 3 1;generalize ls[k]=l at *;generalize gs[k]=gg at *;go_wp2_with (at_builtin;refine kqv rfl 31 rfl j.heap.size 3 i0 _ 1 8 underlying31 hi I J K rfl ak (.slice none 0 0) 0 [] rfl D (.slice (some ⟨gg.1,0,none⟩) l.length gg.2) l.length _ _ rfl B (jjl l) iq aj jH ?_)
  intro v3 w3 f s L;have z:=(Below.refl j.heap.size j).grown s jH<|jo D;obtain⟨u,c3,rfl,P,Q⟩:=qkw f aj;have q:=a.below z;go_wp2_with (at_builtin;refine apO (by have:=q.out.alloc<|.cells #[.slice (some ⟨u,0,none⟩) l.length c3] 31;rw[t]at this;exact this) ?_)
  intro Z w' C d _ R;have x:=StA.snoc (q.below<|jZ w3 (o:=.cells #[.slice (some ⟨u,0,none⟩) l.length c3] 31)) (show u∉b.map (·.1) from λN=>by have:=a.lt (λy O=>(hn y<|Zp O).1) u N;omega) (qj (qo A f)<|jZ w3) (by rw[t];exact C) d;rw[<-E]at x;go_wp2;exact rdM ⟨k+1,_,aj,eu,x,(((m.trans<|z.mono A).alloc aj _).grown d ah<|jo q.out)⟩
 ·have T:k=ls.length:=by omega
  rw[show ls.take k=ls by simp_all]at a;go_wp2;go_ret;exact⟨_,_,rfl,a,m⟩
def qxt(a b:Int):Int:=if a<b then -1 else if b<a then 1 else 0
def cmpL:List Int->List Int->Int
 |[],[]=>0
 |[],_::_=>-1
 |_::_,[]=>1
 |a::l,b::m=>if a==b then cmpL l m else qxt a b
theorem xq9(a b:Int):qxt b a=- qxt a b:=by grind [qxt]
theorem ky0:∀l m:List Int,cmpL m l=- cmpL l m
 |[],[]=>rfl
 |[],_::_=>rfl
 |_::_,[]=>rfl
 |a::l,b::m=>by
  rw[cmpL,cmpL];by_cases h:a=b
  ·subst h;simp[ky0 l m]
  grind [xq9]
theorem pxe(h:qxt y j=0):y=j:=by grind [qxt]
theorem zv9:∀l m:List Int,cmpL l m=0->l=m
 |[],[],_=>rfl
 |[],_::_,h=>by simp[cmpL]at h
 |_::_,[],h=>by simp[cmpL]at h
 |a::l,b::m,h=>by
  rw[cmpL]at h;by_cases e:a=b
  ·subst e;simp at h;rw[zv9 l m h]
  grind [pxe]
theorem jvt(l:List Int):cmpL l l=0:=by have:=ky0 l l;omega
theorem pjq(h:qxt y j<=0):y<=j:=by grind [qxt]
theorem pj9(h:y<j):qxt y j=-1:=by simp[qxt,h]
theorem qzg:∀a b c:List Int,cmpL a b<=0->cmpL b c<=0->cmpL a c<=0
 |[],_,[],_,_=>by simp[cmpL]
 |[],_,_::_,_,_=>by simp[cmpL]
 |_::_,[],_,h,_=>by simp[cmpL]at h
 |_::_,_::_,[],_,h=>by simp[cmpL]at h
 |x::a,y::b,z::c,h1,h2=>by
  rw[cmpL]at h1 h2 |-;by_cases e:x=y
  ·subst e;by_cases d:x=z
   ·subst d;simp at h1 h2 |-;exact qzg a b c h1 h2
   simp_all
  ·simp[e]at h1;by_cases d:y=z
   ·simp_all
   ·simp[d]at h2;have f:=pjq h1;have g:=pjq h2;grind [pj9]
theorem vxf(c:α->List Int):Go.Sort.SWO (λx y:α=>decide (cmpL (c x) (c y)<0)) where
 irrefl x:=by simp[jvt]
 trans x y z h1 h2:=by grind [qzg,ky0]
 ntrans x y z h1 h2:=by grind [ky0,qzg]
def insL(x:List Int):List (List Int)->List (List Int)
 |[]=>[x]
 |y::l=>if cmpL x y<=0 then x::y::l else y::insL x l
def sortL:List (List Int)->List (List Int)
 |[]=>[]
 |x::l=>insL x<|sortL l
theorem zv1(x:List Int):∀l,(insL x l).Perm (x::l)
 |[]=>List.Perm.refl _
 |y::l=>by
  rw[insL];split
  ·simp
  ·exact((zv1 x l).cons y).trans (List.Perm.swap x y l)
theorem kz7:∀l,(sortL l).Perm l
 |[]=>List.Perm.refl _
 |x::l=>(zv1 x _).trans<|(kz7 l).cons x
theorem qyh(l:List (List Int)):(sortL l).length=l.length:=(kz7 l).length_eq
theorem zw6(x:List Int):∀l,l.Pairwise (λa b=>cmpL a b<=0)->(insL x l).Pairwise (λa b=>cmpL a b<=0)
 |[],_=>by simp[insL]
 |y::l,h=>by
  rw[insL];rw[JW]at h;split
  ·grind [List.pairwise_cons,qzg]
  ·rename_i c;rw[JW];refine⟨λz d=>?_,zw6 x l h.2⟩;grind [zv1,ky0]
theorem qv7:∀l,(sortL l).Pairwise (λa b=>cmpL a b<=0)
 |[]=>List.Pairwise.nil
 |x::l=>zw6 x _<|qv7 l
theorem zzy{i5:List (List Int)}(c:i5.Perm ls)(d:i5.Pairwise (λa b=>cmpL a b<=0)):i5=sortL ls:=by grind [List.Perm.eq_of_pairwise,qv7,kz7,ky0,zv9]
def kx8(x:Int)(o:List Int)(k:Nat):List Int:=o.take k++x::o.drop k
def jjf(x:Int)(o:List Int):List (List Int):=(List.range (o.length+1)).map (kx8 x o)
def kqj(x:Int)(all:List (List Int)):List (List Int):=all.flatMap (jjf x)
def kj3:Nat->List (List Int)
 |0=>[[]]
 |n+1=>kqj n<|kj3 n
def orders(n:Nat):List (List Int):=sortL (kj3 n)
theorem jvk(x:Int)(o:List Int)(k:Nat)(a:k<=o.length):(kx8 x o k).length=o.length+1:=by simp[kx8];omega
theorem zx0(x:Int)(all:List (List Int))(j:Nat)(a:j<all.length):kqj x (all.take (j+1))=kqj x (all.take j)++jjf x all[j]:=by grind [List.take_succ_eq_append_getElem,kqj]
theorem qky:∀n,∀o∈kj3 n,o.length=n/\∀x∈o,0<=x/\x<n
 |0,o,h=>by simp[kj3]at h;simp_all
 |n+1,o,h=>by
  rw[kj3,kqj]at h;obtain⟨c,f,e⟩:=rM.1 h;obtain⟨k,i,rfl⟩:=tY.1 e;obtain⟨d,g⟩:=qky n c f;have b:k<=c.length:=by grind
  refine⟨by rw[jvk _ _ _ b,d],λx a=>?_⟩;obtain a|a:=rV.1 a
  ·grind
  grind
def kyy(kd:IntKind)(w:World)(v:Value)(l:List Int):Prop:=∃xa xc,v=.slice xa l.length xc/\(0<l.length->∃g,xa=some ⟨g,0,none⟩/\g<w.heap.size/\∀j (hj:j<l.length),w.cell? ⟨g,j,none⟩=some (.int kd l[j]))
theorem qk6(h:w.ownsRow lo B 1 v l.length (l.map (Value.int kd))):kyy kd w v l:=by obtain⟨xa,xc,a,hv⟩:=qp h;refine⟨xa,xc,a,λb=>?_⟩;grind
theorem kyy.cells(h:kyy kd w v l)(s:w.heap.size<=w'.heap.size)(m:∀(g:Nat)(cs:Array Value)(e:Nat)(fr:Nat×Nat),w.heap[g]?=some (Obj.cells cs e fr)->(∃x,cs[0]?=some (Value.int kd x))->w'.heap[g]?=w.heap[g]?):kyy kd w' v l:=by
 obtain⟨xa,xc,i,hv⟩:=h;refine⟨xa,xc,i,λd=>?_⟩;obtain⟨g,k,q,f⟩:=hv d;refine⟨g,k,aj,λj p=>?_⟩;have a:=f 0 d;have b:=f j p;unfold World.cell? at a b |-;cases c:w.heap[g]? with
 |none=>simp_all
 |some o=>
  rw[c]at a b;cases o with
  |cells cs e fr=>
   rw[m g cs e fr c ⟨_,by simpa using a⟩,c];exact b
  |_=>simp_all
theorem jvr(a:k<l.length)(hb:k<i4.length):cmpL (l.drop k) (i4.drop k)=if l[k]==i4[k] then cmpL (l.drop (k+1)) (i4.drop (k+1)) else qxt l[k] i4[k]:=by grind [List.drop_eq_getElem_cons,cmpL]
theorem vxo{a b:List Int}(h:k=min a.length b.length):cmpL (a.drop k) (b.drop k)=qxt a.length b.length:=by
 by_cases h1:a.length<b.length
 ·have e:k=a.length:=by omega
  subst e;rw[sK,pj9 aj];cases c:b.drop a.length with
  |nil=>have:=congrArg List.length c;simp at this;omega
  |cons _ _=>rfl
 ·have e:k=b.length:=by omega
  subst e;rw[sK];by_cases d:b.length<a.length
  ·have:qxt (a.length:Int) (b.length:Int)=1:=by grind [qxt]
   rw[this];cases c:a.drop b.length with
   |nil=>have:=congrArg List.length c;simp at this;omega
   |cons _ _=>rfl
  ·have e:a.length=b.length:=by omega
   rw[<-e,sK];unfold qxt;rw[Xy aj,Xy aj];rfl
theorem pxx:Calls prog 276 #[.int .i64 y] w λe w'=>e=.returned (.bool false)/\w'=w:=by go_wp2;go_ret;simp
theorem zje(x y:Int)(w:World):Calls prog 253 #[.int .i64 x,.int .i64 y] w λe w'=>e=.returned (.int .i64 (qxt x y))/\w'=w:=by
 go_in;go_wp2_with (go_at_call 276;refine(pxx).mono ?_;rintro e w' ⟨rfl,a⟩;rw[a])
 all_goals (go_ret;refine⟨?_,rfl⟩;unfold qxt;(repeat' split)<;>first|rfl|(exfalso;omega))
theorem vxs:og 253 #[.int .i64 j,.int .i64 y] w λe w'=>e=.returned (.int .i64 (qxt j y))/\∃q,w'=w.drewN q:=(zje j y w).mono λ_ _ h=>⟨h.1,0,h.2⟩
theorem vxa{a b:List Int}(hA:kyy .i64 w va a)(E:kyy .i64 w vb b)(F:a.length<=1000000)(G:b.length<=1000000):Calls prog 226 #[va,vb] w λe w'=>e=.returned (.int .i64<|cmpL a b)/\∃q,w'=w.drewN q:=by
 obtain⟨xa,xc,D,s⟩:=hA;obtain⟨L,M,D,A⟩:=E;obtain⟨m,C⟩:=cpy<|min a.length b.length;go_wp2
 go_loopw [5,11] (λ_ i wr=>∃k:Nat,i=.int .i64 k/\k<=m/\cmpL (a.drop k) (b.drop k)=cmpL a b/\∃q,wr=w.drewN q) (λ_ i _=>m-(intOf i).toNat);exact⟨0,rfl,jR,rfl,0,rfl⟩;obtain⟨k,rfl,J,l,q,rfl⟩:=hrel;by_cases H:k<m
 ·have f:k<a.length:=by omega
  have g:k<b.length:=aj;obtain⟨u,rfl,_,c⟩:=s aj;obtain⟨v,rfl,_,d⟩:=A aj;have c1:w.cell? ⟨u,k,none⟩=some (.int .i64 a[k]):=c k f;have c2:w.cell? ⟨v,k,none⟩=some (.int .i64 b[k]):=d k g;have j:=jvr f g;rw[l]at j;generalize a[k]=x at *;generalize b[k]=y at *;clear c d l;by_cases B:x=y
  ·subst B;go_wp2;go_quiet (fail)
   go_wp2;grind [intOf]
  ·have hb:(x==y)=false:=by simp_all
   go_wp2;go_quiet (fail)
   go_wp21;obtain⟨p,h⟩:=cpy<|(w.drewN q).drewN nq;rw[<-h];have c3:p.cell? ⟨u,k,none⟩=some (.int .i64 x):=by simp_all
   have c4:p.cell? ⟨v,k,none⟩=some (.int .i64 y):=by simp_all
   have t:=show ∃n,p=w.drewN n from⟨q+nq,by simp_all⟩
   clear h c1 c2;go_quiet (first|(go_at_call 253;refine Calls.quiet_of<|vxs))
   go_wp2;go_ret;obtain⟨n5,I⟩:=t;refine⟨by simp_all,n5+nq,by simp_all⟩
 ·have z:k=m:=by omega
  subst z;have j:=vxo (a:=a) (b:=b) C;rw[l]at j;go_wp21;refine(zje _ _ _).mono ?_;rintro e K ⟨rfl,rfl⟩;go_wp2;go_ret;exact⟨by simp_all,_,rfl⟩
theorem vwm:Calls prog 277 #[.int .u8 y] w λe w'=>e=.returned (.bool false)/\w'=w:=by go_wp2;go_ret;simp
theorem vxl(x y:Int)(w:World):Calls prog 254 #[.int .u8 x,.int .u8 y] w λe w'=>e=.returned (.int .i64 (qxt x y))/\w'=w:=by
 go_in;go_wp2_with (go_at_call 277;refine(vwm).mono ?_;rintro e w' ⟨rfl,a⟩;rw[a])
 all_goals (go_ret;refine⟨?_,rfl⟩;unfold qxt;(repeat' split)<;>first|rfl|(exfalso;omega))
theorem jyh:og 254 #[.int .u8 j,.int .u8 y] w λe w'=>e=.returned (.int .i64 (qxt j y))/\∃q,w'=w.drewN q:=(vxl j y w).mono λ_ _ h=>⟨h.1,0,h.2⟩
theorem zxg{a b:List Int}(hA:kyy .u8 w va a)(E:kyy .u8 w vb b)(F:a.length<=1000000)(G:b.length<=1000000):Calls prog 229 #[va,vb] w λe w'=>e=.returned (.int .i64<|cmpL a b)/\∃q,w'=w.drewN q:=by
 obtain⟨xa,xc,D,s⟩:=hA;obtain⟨L,M,D,A⟩:=E;obtain⟨m,C⟩:=cpy<|min a.length b.length;go_wp2
 go_loopw [5,11] (λ_ i wr=>∃k:Nat,i=.int .i64 k/\k<=m/\cmpL (a.drop k) (b.drop k)=cmpL a b/\∃q,wr=w.drewN q) (λ_ i _=>m-(intOf i).toNat);exact⟨0,rfl,jR,rfl,0,rfl⟩;obtain⟨k,rfl,J,l,q,rfl⟩:=hrel;by_cases H:k<m
 ·have f:k<a.length:=by omega
  have g:k<b.length:=aj;obtain⟨u,rfl,_,c⟩:=s aj;obtain⟨v,rfl,_,d⟩:=A aj;have c1:w.cell? ⟨u,k,none⟩=some (.int .u8 a[k]):=c k f;have c2:w.cell? ⟨v,k,none⟩=some (.int .u8 b[k]):=d k g;have j:=jvr f g;rw[l]at j;generalize a[k]=x at *;generalize b[k]=y at *;clear c d l;by_cases B:x=y
  ·subst B;go_wp2;go_quiet (fail)
   go_wp2;grind [intOf]
  ·have hb:(x==y)=false:=by simp_all
   go_wp2;go_quiet (fail)
   go_wp21;obtain⟨p,h⟩:=cpy<|(w.drewN q).drewN nq;rw[<-h];have c3:p.cell? ⟨u,k,none⟩=some (.int .u8 x):=by simp_all
   have c4:p.cell? ⟨v,k,none⟩=some (.int .u8 y):=by simp_all
   have t:=show ∃n,p=w.drewN n from⟨q+nq,by simp_all⟩
   clear h c1 c2;go_quiet (first|(go_at_call 254;refine Calls.quiet_of<|jyh))
   go_wp2;go_ret;obtain⟨n5,I⟩:=t;refine⟨by simp_all,n5+nq,by simp_all⟩
 ·have z:k=m:=by omega
  subst z;have j:=vxo (a:=a) (b:=b) C;rw[l]at j;go_wp21;refine(zje _ _ _).mono ?_;rintro e K ⟨rfl,rfl⟩;go_wp2;go_ret;exact⟨by simp_all,_,rfl⟩
section
structure kqg (S:List Nat)(w w':World):Prop where
 os:w'.os=w.os
 tape:w'.tape=w.tape
 output:w'.output=w.output
 size:w.heap.size<=w'.heap.size
 block:∀k,k<w.heap.size->k∉S->w'.heap[k]?=w.heap[k]?
theorem kqg.refl(S:List Nat)(w:World):kqg S w w:=⟨rfl,rfl,rfl,jH,λ_ _ _=>rfl⟩
theorem kqg.trans{b:World}(h:kqg S a b)(k:kqg S b w):kqg S a w:=
 ⟨k.os.trans h.os,k.tape.trans h.tape,k.output.trans h.output,rP h.size k.size,λi hi hn=>(k.block i (sV hi h.size) hn).trans<|h.block i hi hn⟩
theorem kqg.wide{S':List Nat}(h:kqg S w w')(c:∀k∈S,k<w.heap.size->k∈S'):kqg S' w w':=
 ⟨h.os,h.tape,h.output,h.size,λk a hn=>h.block k a λb=>hn<|c k b a⟩
theorem kqg.of_below(h:oq w w'):kqg S w w':=⟨h.os,h.tape,h.output,h.size,λk a _=>h.block k a⟩
theorem kqg.alloc(h:kqg S a w)(o:Obj):kqg S a (w.alloc o):=h.trans<|.of_below (jZ w (o:=o))
theorem kqg.drewN(h:kqg S a w)(n:Nat):kqg S a (w.drewN n):=⟨h.os,h.tape,h.output,h.size,h.block⟩
theorem kqg.set(h:kqg S a w){p:Addr}(c:p.block∈S\/a.heap.size<=p.block)(u:Value):kqg S a (w.setCell p u):=
 ⟨h.os,h.tape,h.output,lW,λk b hn=>by rw[jz (λe=>by grind)];exact h.block k b hn⟩
theorem kqg.grown(h:kqg S a w)(b:w.grownBy w' x)(d:∀k,x=some k->k∈S\/a.heap.size<=k):kqg S a w':=
 ⟨b.os.trans h.os,b.tape.trans h.tape,b.output.trans h.output,rP h.size b.size,λk c hn=>by rw[b.block k (sV c h.size) (λe=>by grind)];exact h.block k c hn⟩
theorem kqg.below(h:kqg S w w')(a:B<=w.heap.size)(d:∀k∈S,B<=k):Below B w w':=
 ⟨h.os,h.tape,h.output,h.size,λk b=>h.block k aj λc=>by grind⟩
theorem kqg.at{i6:Obj}(h:kqg S w w')(a:w.heap[k]?=some i6)(hn:k∉S):w'.heap[k]?=some i6:=(h.block k (wQ a) hn).trans a
theorem qj7(h:w.ownsRow lo B size v n xs)(e:kqg S w w')(hn:∀k,v.ownBlock=some k->k∉S):w'.ownsRow lo B size v n xs:=by
 refine⟨h.1,?_⟩;obtain f|⟨g,cap,cur,a,b,c,d⟩:=h.2
 ·simp_all
 ·exact .inr ⟨g,cap,cur,a,b,e.at c (hn g (by rw[a];rfl)),d⟩
def qke(w:World)(S:List Nat)(e:Nat):Prop:=∀k∈S,∀cs fr,w.heap[k]?≠some (.cells cs e fr)
theorem kkv(h:w.ownsRow lo B size v n xs)(d:kqg S w w')(hn:qke w S B):w'.ownsRow lo B size v n xs:=by
 refine qj7 h d λk a e=>?_
 obtain⟨b,_⟩|⟨g,cap,cur,b,_,c,_⟩:=h.2
 ·rw[b]at a;cases a
 ·rw[b]at a;injection a with a;exact hn k e _ _ (by rw[<-a];exact c)
theorem kyy.stay(h:kyy kd w v l)(c:kqg S w w')(hn:∀k,v.ownBlock=some k->k∉S):kyy kd w' v l:=by obtain⟨xa,xc,a,hv⟩:=h;refine⟨xa,xc,a,λd=>?_⟩;obtain⟨g,b,e,f⟩:=hv d;have m:=c.size;refine⟨g,b,aj,λj i=>?_⟩;rw[<-f j i];exact Jk (c.block g e<|hn g (by rw[a,b];rfl))
section
open Go.Sort
variable {P:Program}
def qy8(cs:List Value)(k:Nat):Value:=cs.getD k (.slice none 0 0)
def kxh(ls:List (List Int))(k:Nat):List Int:=ls.getD k []
theorem vxt(h:∀y∈cs,∃a n c,y=.slice a n c):Go.Proofs.OneCell (qy8 cs):=by
 intro k;unfold qy8;obtain b|b:=JY k cs.length
 ·rw[QB,wW b,Zq];obtain⟨a,n,c,e⟩:=h _<|wZ b;rw[e];rfl
 ·rw[QB,Jo b];rfl
theorem pyr(h:w.ownsRow lo B 1 (.slice (some ⟨blk,0,none⟩) cs.length cap) cs.length cs):Holds (qy8 cs) w blk 0 (Array.range cs.length):=by
 obtain⟨a,_⟩|⟨g,c,cur,a,_,b,d,e5,e,e7⟩:=h.2
 ·cases a
 ·injection a with a _ _;injection a with a;injection a with a;subst a;intro j f;grind [World.cell?,qy8,World.frozen?]
theorem qjo[Inhabited α](enc:α->Value)(w:World)(blk off m:Nat)(d:Array α)(os:Array Obj):kqg [blk] w (sortWorld enc w blk off m d os):=by
 unfold sortWorld;refine⟨rfl,rfl,rfl,?_,λk b hn=>?_⟩
 ·simp
 ·have a:blk≠k:=λe=>hn (by simp[e])
  rw[heap_grow_old _ _ (by simp_all)];simp[putRow,mapBlock,ahead,Z5,a]
theorem zqr[Inhabited α](enc:α->Value)(w:World)(blk m:Nat)(d:Array α)(os:Array Obj)(h:w.heap[blk]?=some (.cells a7 lo fr)):(sortWorld enc w blk 0 m d os).heap[blk]?=some (.cells (putCells enc 0 d a7) lo fr):=by unfold sortWorld;rw[heap_grow_old _ _ (by rw[size_putRow];exact wQ h)];simp_all [putRow,mapBlock,Z5,onCells]
theorem zqf[Inhabited α](enc:α->Value)(d:Array α)(cur:Array Value)(h:d.size<=cur.size):(putCells enc 0 d cur).toList.take d.size=d.toList.map enc:=by apply Jm;grind [putCells]
def qzb(S:List Nat)(lo e:Nat)(w:World)(v:Value)(cs:List Value)(ls:List (List Int))(w':World):Prop:=
 kqg S w w'/\∃p:List Nat,p.Perm (List.range cs.length)/\w'.ownsRow lo e 1 v cs.length (p.map<|qy8 cs)/\sortL ls=p.map (kxh ls)
theorem zvb(h:w.ownsRow lo B 1 (.slice (some ⟨blk,0,none⟩) cs.length cap) cs.length cs)(D:ls.length=cs.length){d':Array Nat}{m:Nat}{os:Array Obj}(t:PermIn 0 (Array.range cs.length).size (Array.range cs.length) d')(u:SortedIn (ltOf λx y=>cmpL (kxh ls x)<|kxh ls y) 0 (Array.range cs.length).size d'):qzb [blk] lo B w (.slice (some ⟨blk,0,none⟩) cs.length cap) cs ls (sortWorld (qy8 cs) w blk 0 m d' os):=by
 obtain⟨h1,_,A⟩:=t;have k:d'.size=cs.length:=by simp_all
 have b:d'.toList.Perm (List.range cs.length):=by
  have a:d'.extract 0 (Array.range cs.length).size=d':=by simp_all
  grind
 refine⟨qjo _ _ _ _ _ _ _,d'.toList,b,?_,?_⟩
 ·obtain⟨a,_⟩|⟨g,c,cur,a,l,p,q,e5,s,e7⟩:=h.2
  ·cases a
  ·injection a with a _ d;injection a with a;injection a with a;subst a;subst d;refine⟨by simp_all,.inr ⟨blk,cap,_,rfl,l,zqr _ _ _ _ _ _ p,q,e5,by simp[putCells,s],?_⟩⟩;rw[Jb,<-k];exact zqf _ _ _ aj
 ·symm
  refine zzy ?_ ?_
  ·have C:(List.range cs.length).map (kxh ls)=ls:=by
    apply Jm;intro j;rw[QV];by_cases f:j<cs.length
    ·rw[List.getElem?_range f,ZQ,kxh,QB,wW aj,Zq]
    simp_all
   grind
  ·rw[J6,sQ];intro i j hi f e;have v:i<d'.size:=aj;have z:j<d'.size:=aj;have:=u i j jR e aj;grind [ltOf,ky0]
end
end
end Go.Proofs.YtpmcnonmkghokaaGreatDoor
namespace Go.Proofs
open Go.Proofs.Tryz
open Go.Shelf
def Tryz.insI_ren:Go.Shelf.Ren:=⟨fun|21=>184|27=>223|28=>224|35=>250|39=>266|n=>n,fun|22=>31|3=>3|4=>4|0=>0|n=>n,fun|n=>n⟩
theorem Tryz.insI:Go.Proofs.Lays2.n21 prog Tryz.insI_ren:={
 mixed:=au
 f21:=func184.trans<|congrArg some au
 f27:=func223.trans<|congrArg some au
 f28:=func224.trans<|congrArg some au
 f35:=func250.trans<|congrArg some au
 f39:=func266.trans<|congrArg some au
 t0:=underlying0
 a0:=Tryz.isAgg0
 z0:=Tryz.sizeOf0
 v0:=Tryz.zeroValue0
 t3:=underlying3
 a3:=Tryz.isAgg3
 z3:=Tryz.sizeOf3
 v3:=Tryz.zeroValue3
 t4:=underlying4
 a4:=Tryz.isAgg4
 z4:=Tryz.sizeOf4
 v4:=Tryz.zeroValue4
 t22:=underlying31
 a22:=Tryz.isAgg31
 z22:=Tryz.sizeOf31
 v22:=Tryz.zeroValue31
 i3:=au}
def Tryz.revS_ren:Go.Shelf.Ren:=⟨fun|17=>134|n=>n,fun|24=>22|9=>9|3=>3|4=>4|0=>0|n=>n,fun|n=>n⟩
theorem Tryz.revS:Go.Proofs.Lays2.n17 prog Tryz.revS_ren:={
 mixed:=au
 f17:=func134.trans<|congrArg some au
 t0:=underlying0
 a0:=Tryz.isAgg0
 z0:=Tryz.sizeOf0
 v0:=Tryz.zeroValue0
 t3:=underlying3
 a3:=Tryz.isAgg3
 z3:=Tryz.sizeOf3
 v3:=Tryz.zeroValue3
 t4:=underlying4
 a4:=Tryz.isAgg4
 z4:=Tryz.sizeOf4
 v4:=Tryz.zeroValue4
 t9:=underlying9
 a9:=Tryz.isAgg9
 z9:=Tryz.sizeOf9
 v9:=Tryz.zeroValue9
 t24:=underlying22
 a24:=Tryz.isAgg22
 z24:=Tryz.sizeOf22
 v24:=Tryz.zeroValue22}
def Tryz.sortI_ren:Go.Shelf.Ren:=⟨fun|6=>225|15=>252|14=>251|28=>275|29=>195|20=>267|21=>268|22=>269|23=>270|24=>271|25=>272|26=>273|27=>274|46=>288|47=>289|48=>290|49=>291|50=>292|57=>297|n=>n,fun|22=>79|24=>31|25=>373|3=>3|39=>341|0=>0|53=>338|55=>274|4=>4|46=>404|45=>403|50=>408|5=>5|9=>9|66=>416|70=>420|76=>424|77=>317|n=>n,fun|n=>n⟩
theorem Tryz.sortI:Go.Proofs.SlLaysF.n6 prog Tryz.sortI_ren:={
 mixed:=au
 f6:=⟨Tryz.f225.name,ak,func225.trans<|congrArg some au⟩
 f14:=⟨Tryz.f251.name,ak,func251.trans<|congrArg some au⟩
 f15:=func252.trans<|congrArg some au
 f20:=⟨Tryz.f267.name,ak,func267.trans<|congrArg some au⟩
 f21:=⟨Tryz.f268.name,ak,func268.trans<|congrArg some au⟩
 f22:=⟨Tryz.f269.name,ak,func269.trans<|congrArg some au⟩
 f23:=⟨Tryz.f270.name,ak,func270.trans<|congrArg some au⟩
 f24:=⟨Tryz.f271.name,ak,func271.trans<|congrArg some au⟩
 f25:=⟨Tryz.f272.name,ak,func272.trans<|congrArg some au⟩
 f26:=⟨Tryz.f273.name,ak,func273.trans<|congrArg some au⟩
 f27:=⟨Tryz.f274.name,ak,func274.trans<|congrArg some au⟩
 f28:=func275.trans<|congrArg some au
 f29:=func195.trans<|congrArg some au
 f46:=⟨Tryz.f288.name,ak,func288.trans<|congrArg some au⟩
 f47:=func289.trans<|congrArg some au
 f48:=func290.trans<|congrArg some au
 f49:=⟨Tryz.f291.name,ak,func291.trans<|congrArg some au⟩
 f50:=⟨Tryz.f292.name,ak,func292.trans<|congrArg some au⟩
 f57:=⟨Tryz.f297.name,ak,func297.trans<|congrArg some au⟩
 t0:=underlying0
 a0:=Tryz.isAgg0
 z0:=Tryz.sizeOf0
 v0:=Tryz.zeroValue0
 t3:=underlying3
 a3:=Tryz.isAgg3
 z3:=Tryz.sizeOf3
 v3:=Tryz.zeroValue3
 t4:=underlying4
 a4:=Tryz.isAgg4
 z4:=Tryz.sizeOf4
 v4:=Tryz.zeroValue4
 t5:=underlying5
 a5:=Tryz.isAgg5
 z5:=Tryz.sizeOf5
 v5:=Tryz.zeroValue5
 t9:=underlying9
 a9:=Tryz.isAgg9
 z9:=Tryz.sizeOf9
 v9:=Tryz.zeroValue9
 t22:=underlying79
 a22:=Tryz.isAgg79
 z22:=Tryz.sizeOf79
 v22:=Tryz.zeroValue79
 a24:=Tryz.isAgg31
 z24:=Tryz.sizeOf31
 t25:=underlying373
 a25:=Tryz.isAgg373
 z25:=Tryz.sizeOf373
 v25:=Tryz.zeroValue373
 t39:=underlying341
 a39:=Tryz.isAgg341
 z39:=Tryz.sizeOf341
 v39:=Tryz.zeroValue341
 t45:=underlying403
 a45:=Tryz.isAgg403
 z45:=Tryz.sizeOf403
 v45:=Tryz.zeroValue403
 t46:=underlying404
 a46:=Tryz.isAgg404
 z46:=Tryz.sizeOf404
 v46:=Tryz.zeroValue404
 t50:=underlying408
 a50:=Tryz.isAgg408
 z50:=Tryz.sizeOf408
 v50:=Tryz.zeroValue408
 t53:=underlying338
 a53:=Tryz.isAgg338
 z53:=Tryz.sizeOf338
 v53:=Tryz.zeroValue338
 t55:=underlying274
 a55:=Tryz.isAgg274
 z55:=Tryz.sizeOf274
 v55:=Tryz.zeroValue274
 t66:=underlying416
 a66:=Tryz.isAgg416
 z66:=Tryz.sizeOf416
 v66:=Tryz.zeroValue416
 t70:=underlying420
 a70:=Tryz.isAgg420
 z70:=Tryz.sizeOf420
 v70:=Tryz.zeroValue420
 t76:=underlying424
 a76:=Tryz.isAgg424
 z76:=Tryz.sizeOf424
 v76:=Tryz.zeroValue424
 t77:=underlying317
 a77:=Tryz.isAgg317
 z77:=Tryz.sizeOf317
 v77:=Tryz.zeroValue317}
def Tryz.sortS_ren:Go.Shelf.Ren:=⟨fun|6=>230|15=>252|14=>255|28=>275|29=>195|20=>278|21=>279|22=>280|23=>281|24=>282|25=>283|26=>284|27=>285|46=>293|47=>289|48=>290|49=>294|50=>295|57=>298|n=>n,fun|22=>266|24=>95|25=>376|3=>3|39=>341|0=>0|53=>338|55=>274|4=>4|46=>404|45=>403|50=>408|5=>5|9=>9|66=>416|70=>420|76=>424|77=>317|n=>n,fun|n=>n⟩
theorem Tryz.sortS:Go.Proofs.SlLaysF.n6 prog Tryz.sortS_ren:={
 mixed:=au
 f6:=⟨Tryz.f230.name,ak,func230.trans<|congrArg some au⟩
 f14:=⟨Tryz.f255.name,ak,func255.trans<|congrArg some au⟩
 f15:=func252.trans<|congrArg some au
 f20:=⟨Tryz.f278.name,ak,func278.trans<|congrArg some au⟩
 f21:=⟨Tryz.f279.name,ak,func279.trans<|congrArg some au⟩
 f22:=⟨Tryz.f280.name,ak,func280.trans<|congrArg some au⟩
 f23:=⟨Tryz.f281.name,ak,func281.trans<|congrArg some au⟩
 f24:=⟨Tryz.f282.name,ak,func282.trans<|congrArg some au⟩
 f25:=⟨Tryz.f283.name,ak,func283.trans<|congrArg some au⟩
 f26:=⟨Tryz.f284.name,ak,func284.trans<|congrArg some au⟩
 f27:=⟨Tryz.f285.name,ak,func285.trans<|congrArg some au⟩
 f28:=func275.trans<|congrArg some au
 f29:=func195.trans<|congrArg some au
 f46:=⟨Tryz.f293.name,ak,func293.trans<|congrArg some au⟩
 f47:=func289.trans<|congrArg some au
 f48:=func290.trans<|congrArg some au
 f49:=⟨Tryz.f294.name,ak,func294.trans<|congrArg some au⟩
 f50:=⟨Tryz.f295.name,ak,func295.trans<|congrArg some au⟩
 f57:=⟨Tryz.f298.name,ak,func298.trans<|congrArg some au⟩
 t0:=underlying0
 a0:=Tryz.isAgg0
 z0:=Tryz.sizeOf0
 v0:=Tryz.zeroValue0
 t3:=underlying3
 a3:=Tryz.isAgg3
 z3:=Tryz.sizeOf3
 v3:=Tryz.zeroValue3
 t4:=underlying4
 a4:=Tryz.isAgg4
 z4:=Tryz.sizeOf4
 v4:=Tryz.zeroValue4
 t5:=underlying5
 a5:=Tryz.isAgg5
 z5:=Tryz.sizeOf5
 v5:=Tryz.zeroValue5
 t9:=underlying9
 a9:=Tryz.isAgg9
 z9:=Tryz.sizeOf9
 v9:=Tryz.zeroValue9
 t22:=underlying266
 a22:=Tryz.isAgg266
 z22:=Tryz.sizeOf266
 v22:=Tryz.zeroValue266
 a24:=Tryz.isAgg95
 z24:=Tryz.sizeOf95
 t25:=underlying376
 a25:=Tryz.isAgg376
 z25:=Tryz.sizeOf376
 v25:=Tryz.zeroValue376
 t39:=underlying341
 a39:=Tryz.isAgg341
 z39:=Tryz.sizeOf341
 v39:=Tryz.zeroValue341
 t45:=underlying403
 a45:=Tryz.isAgg403
 z45:=Tryz.sizeOf403
 v45:=Tryz.zeroValue403
 t46:=underlying404
 a46:=Tryz.isAgg404
 z46:=Tryz.sizeOf404
 v46:=Tryz.zeroValue404
 t50:=underlying408
 a50:=Tryz.isAgg408
 z50:=Tryz.sizeOf408
 v50:=Tryz.zeroValue408
 t53:=underlying338
 a53:=Tryz.isAgg338
 z53:=Tryz.sizeOf338
 v53:=Tryz.zeroValue338
 t55:=underlying274
 a55:=Tryz.isAgg274
 z55:=Tryz.sizeOf274
 v55:=Tryz.zeroValue274
 t66:=underlying416
 a66:=Tryz.isAgg416
 z66:=Tryz.sizeOf416
 v66:=Tryz.zeroValue416
 t70:=underlying420
 a70:=Tryz.isAgg420
 z70:=Tryz.sizeOf420
 v70:=Tryz.zeroValue420
 t76:=underlying424
 a76:=Tryz.isAgg424
 z76:=Tryz.sizeOf424
 v76:=Tryz.zeroValue424
 t77:=underlying317
 a77:=Tryz.isAgg317
 z77:=Tryz.sizeOf317
 v77:=Tryz.zeroValue317}
end Go.Proofs
namespace Go.Proofs.YtpmcnonmkghokaaGreatDoor
open Go.Proofs.Tryz Go.RowKit
attribute [local go_sem ↓] Go.wp_at_zero Go.wp_at_succ
variable {a7:Array Value}{e8:ByteArray}{i8:ELab}{j y:Int}{kd:IntKind}{ls:List (List Int)}{gs:List (Nat×Nat)}{i4 l:List Int}{b7:List MNever}{b4:List MStep}{S bad:List Nat}{cs ds xs:List Value}{b6:MNever}{s:MStep}{m:MdL}{B M b blk c c0 c1 c2 c3 c4 cap g i k lc ll lo n n0 n1 n2 n3 n4 nk sc size sn so:Nat}{fr:Nat×Nat}{a0 a1 a2 a3 a4 la sa:Option Addr}{x:Option Nat}{t:PTree}{α:Type}{b9:TypeId}{v va vb x' x0 x1 x2 x3 x4 x5:Value}{a w w':World}{a8:kq3}
theorem pzj:kyy kd w (.slice none 0 0) []:=⟨none,0,rfl,λh=>by simp at h⟩
def qyu(kd:IntKind)(w:World)(cs:List Value)(ls:List (List Int)):Prop:=ls.length=cs.length/\∀k (hk:k<cs.length) (hl:k<ls.length),kyy kd w cs[k] ls[k]/\ls[k].length<=1000000
theorem qyu.slices(h:qyu kd w cs ls):∀y∈cs,∃a n c,y=.slice a n c:=by intro y d;obtain⟨k,b,rfl⟩:=wG d;obtain⟨⟨a,c,e,_⟩,_⟩:=h.2 k b (by rw[h.1];exact b);simp_all
theorem qyu.sorting(h:qyu kd w cs ls)(p:w.ownsRow lo B 1 (.slice (some ⟨blk,0,none⟩) cs.length cap) cs.length cs)(m:Nat)(os:Array Obj)(i:Array Nat)(x:Nat):kyy kd (sortWorld (qy8 cs) w blk 0 m i os) (qy8 cs x) (kxh ls x)/\(kxh ls x).length<=1000000:=by
 unfold qy8 kxh;obtain e|e:=JY x cs.length
 ·have j:x<ls.length:=by rw[h.1];exact e
  rw[QB,wW e,QB,wW j,Zq,Zq];obtain⟨h1,l⟩:=h.2 x e j;refine⟨?_,l⟩;have f:=qjo (qy8 cs) w blk 0 m i os;refine h1.cells f.size λg c t fr d ⟨y,A⟩=>f.block g (wQ d) λz=>?_
  have b:g=blk:=by simp_all
  subst b;obtain⟨b,_⟩|⟨v,c2,cur,b,_,k,q,e5,s,e7⟩:=p.2
  ·cases b
  ·injection b with b _ _;injection b with b;injection b with b;subst b;rw[k]at d;injection d with d;injection d with d _ _;subst d;obtain⟨a,n,c,u⟩:=h.slices cs[0] (wZ aj);grind
 ·rw[QB,Jo e,QB,Jo (by rw[h.1];exact e)];exact⟨pzj,ay⟩
theorem jwv(d:w.ownsRow lo 31 1 (.slice la ll lc) cs.length cs)(h:qyu .i64 w cs ls)(hn:cs.length<=1000000):Calls prog 186 #[.slice la ll lc] w λe w'=>e=.returned (.tuple #[])/\∃S,(∀k∈S,(Value.slice la ll lc).ownBlock=some k)/\qzb S lo 31 w (.slice la ll lc) cs ls w':=by
 obtain⟨b,i⟩|⟨g,cap,cur,b,i,l,B⟩:=d.2
 ·injection b with b f c;subst b;subst f;subst c;have p:cs=[]:=Qv i;subst p;have s:ls=[]:=Qv h.1;subst s;have a:=AnyF.slices_SortFunc_none (P:=prog) (ρ:=Tryz.sortI_ren) {Tryz.sortI with} none 0 (.func (.func 226) #[] #[]) w;change og 225 _ _ _ at a
  have A:=oz d;clear i hn;go_in;go_wp2_with (go_at_call 225;refine a.mono ?_;rintro e w' ⟨rfl,rfl⟩)
  go_end0;exact⟨rfl,[],ay,kqg.refl _ _,[],List.Perm.refl _,A,rfl⟩
 ·injection b with b f c;subst b;subst f;subst c;have C:∀args w,(callFunc 226 args).run prog w=.ok (.enter 226 args) w:=enters_of func226 au rfl;have a:=Any.slices_SortFunc Tryz.sortI (qy8 cs) (vxt h.slices) (λx y=>cmpL (kxh ls x)<|kxh ls y) (vxf<|kxh ls) 226 #[] g 0 lc (Array.range cs.length) w C (λm os j _ x y=>by have v:=h.sorting d m os j x;have z:=h.sorting d m os j y;exact(vxa v.1 z.1 v.2 z.2).mono λ_ _ ⟨D,q,F⟩=>⟨D,q,#[],by simp_all⟩) (pyr d) (wQ l) (by grind)
  change og 225 _ _ _ at a
  simp only[Array.size_range]at a;have E:=oz (λ(d':Array Nat) (m:Nat) (os:Array Obj) t u=>zvb (ls:=ls) d h.1 (d':=d') (m:=m) (os:=os) t u);clear i l B hn;go_in;go_wp2_with (go_at_call 225;refine a.mono ?_;rintro e w' ⟨rfl,d',n,os,t,u,rfl⟩)
  go_end0;grind [Value.ownBlock,ku]
theorem pqe(l:List Int):∀y∈l.map (Value.int .i64),y.oneCell'=true:=by intro y a;obtain⟨x,_,rfl⟩:=tY.1 a;rfl
def jx3(l:List Value)(o:Nat):List Value->List Value
 |[]=>l
 |v::r=>jx3 (l.set o v) (o+1) r
theorem kke:∀(r l:List Value)(o:Nat),o+r.length<=l.length->jx3 l o r=l.take o++(r++l.drop (o+r.length))
 |[],l,o,_=>by simp[jx3]
 |v::r,l,o,h=>by
  simp only[Qb]at h;rw[jx3,kke r _ _ (by grind)];have h1:(l.set o v).take (o+1)=l.take o++[v]:=by rw[List.set_eq_take_append_cons_drop,lJ aj,List.take_append];grind
  grind [List.drop_set_of_lt]
theorem kzp(b:Nat):∀(vs:List Value)(o:Nat)(w:World)(cur:List Value),w.heap[b]?=some (.cells cur.toArray b9 (0,0))->(w.setCells b o vs).heap[b]?=some (.cells (jx3 cur o vs).toArray b9 (0,0))
 |[],_,_,_,h=>h
 |v::r,o,w,cur,h=>by rw[World.setCells,jx3];refine kzp b r (o+1) _ _ ?_;rw[Xx w b o _ _ v h];simp
theorem kxn(hb:B<=b):∀(vs:List Value)(o:Nat)(w:World),Below B w (w.setCells b o vs)
 |[],_,w=>bR
 |v::r,o,w=>by rw[World.setCells];exact(⟨rfl,rfl,rfl,ay,λk a=>jz<|by grind⟩:Below B w (w.setCell ⟨b,o,none⟩ v)).trans (kxn hb r _ _)
theorem pyd(cs r:List Value)(k:Nat)(v:Value)(c:k<=cs.length)(e:1<=r.length):(jx3 (jx3 (cs++r) (k+1) (cs.drop k)) k [v]).take (cs.length+1)=cs.take k++v::cs.drop k:=by
 have d:(cs.drop k).length=cs.length-k:=JQ;rw[kke (cs.drop k) _ _ (by grind)];have hA:((cs++r).take<|k+1).length=k+1:=by grind
 have b:((cs++r).take<|k+1).take k=cs.take k:=by grind
 generalize (cs++r).take (k+1)=A at *;generalize (cs++r).drop (k+1+(cs.drop k).length)=R;rw[kke [v] _ _ (by simp_all)];simp only[JC];have h1:(A++(cs.drop k++R)).take k=cs.take k:=by grind
 have a:(A++(cs.drop k++R)).drop (k+1)=cs.drop k++R:=List.drop_left' hA;rw[h1,a,<-sZ [v],<-sZ];exact(ZJ<|by grind).trans ay
theorem pxk(cs Z:List Value)(k:Nat)(v:Value)(b:k<cs.length)(a:cs.length+1-k<=Z.length):(jx3 (jx3 (cs.take k++Z) k [v]) (k+1) (cs.drop k)).take (cs.length+1)=cs.take k++v::cs.drop k:=by
 have c:(cs.drop k).length=cs.length-k:=JQ;have hA:(cs.take k).length=k:=by grind
 rw[kke [v] _ _ (by grind),ZJ hA,kke (cs.drop k) _ _ (by grind)];have h1:(cs.take k++([v]++(cs.take k++Z).drop (k+[v].length))).take (k+1)=cs.take k++[v]:=by grind
 rw[h1,<-sZ];exact(ZJ<|by grind).trans ay
def zxf(B:Nat)(w:World)(l:List Int)(e:Ending)(w':World):Prop:=∃ra rn rc,e=.returned (.slice ra rn rc)/\w'.ownsRow B 3 1 (.slice ra rn rc) l.length (l.map (Value.int .i64))/\Below B w w'
theorem vxq(k:Nat)(x:Int)(vb:Nat)(hS:w.ownsRow B 3 1 (.slice sa sn sc) l.length (l.map (Value.int .i64)))(P:w.heap[vb]?=some (.cells #[.int .i64 x] 3 (0,0)))(a3:(Value.slice sa sn sc).ownBlock≠some vb)(hk:k<=l.length)(hl:l.length<=1000000)(A:B<=w.heap.size):og 184 #[.slice sa sn sc,.int .i64 k,.slice (some ⟨vb,0,none⟩) 1 1] w (zxf B w<|kx8 x l k):=by
 have z:∀j v,[Value.int .i64 x][j]?=some v->w.cell? ⟨vb,0+j,none⟩=some v:=by grind [World.cell?]
 have u:∀v∈[Value.int .i64 x],v.oneCell'=true:=by simp[Value.oneCell']
 have i:(kx8 x l k).length=l.length+1:=jvk x l k hk;have m:(kx8 x l k).map (Value.int .i64)=(l.map<|Value.int .i64).take k++Value.int .i64 x::(l.map<|Value.int .i64).drop k:=by simp[kx8]
 have G:(l.map<|Value.int .i64).length=l.length:=ay;have K:∀(base:Option Addr)(c:Nat),k=l.length->(base=none->l.length=0)->(∀a,base=some a->∀j v,(l.map<|Value.int .i64)[j]?=some v->w.cell? (a.add j)=some v)->l.length<=c->c<l.length+1 ->
   og 184 #[.slice base l.length c,.int .i64 k,.slice (some ⟨vb,0,none⟩) 1 1] w (zxf B w<|kx8 x l k):=by
  intro base c Y S V a0 d;subst Y;have b:=Any2.slices_Insert_int_end_grow Tryz.insI base l.length c vb 0 1 1 (l.map<|Value.int .i64) [.int .i64 x] w aj a0 d aj G rfl S V z u;change og 184 _ _ _ at b
  refine b.mono ?_;rintro e w' ⟨rfl,rfl⟩;have H:=grownCap_ge w (l.length+1) c 3;have I:=grownCap_le_maxLen w (l.length+1) c 3 iq;change zxf B w _ (.returned<|.slice (some ⟨w.heap.size,0,none⟩) (l.length+1) (grownCap w (l.length+1) c 3)) (w.drew.alloc<|.cells ((l.map (Value.int .i64)++[Value.int .i64 x]).toArray++Builtin.zeroCells (Value.int .i64 0).cells (grownCap w (l.length+1) c 3-(l.length+1))) 3)
  generalize grownCap w (l.length+1) c 3=gc at *;refine⟨_,_,_,rfl,?_,((Below.refl B w).drew).alloc A _⟩;rw[i,m];refine⟨ay,.inr ⟨w.heap.size,gc,_,rfl,A,qy (w:=w.drew),H,I,?_,?_⟩⟩
  ·simp[size_zeroCells,Value.cells];omega
  grind
 obtain⟨q,p⟩|⟨g,cap,cur,q,p,O,T,e5,e6,e7⟩:=hS.2
 ·injection q with q E s;subst q;subst E;subst s;have:=K none 0 aj (λ_=>p) (λa h=>ig) aj aj;rw[p]at this;exact this
 ·injection q with q E s;subst q;subst E;subst s;have X:vb≠g:=λe=>a3 (by rw[e];rfl)
  have L:w.heap[g]?=some (.cells cur.toList.toArray 3 (0,0)):=by rw[O]
  have t:∀j v,(l.map<|Value.int .i64)[j]?=some v->w.cell? ⟨g,j,none⟩=some v:=by
   intro j v C;have a5:j<l.length:=by grind
   rw[<-e7,ZU aj]at C;unfold World.cell?;simp_all
  have R:cur.toList=l.map (Value.int .i64)++cur.toList.drop l.length:=by grind [List.take_append_drop]
  by_cases d:l.length+1<=sc
  ·have W:1<=(cur.toList.drop l.length).length:=by simp;omega
   have y:∀j,j<l.length+1->(w.cell? ⟨g,j,none⟩).isSome=true:=λj C=>by grind [World.cell?]
   have N:∀j,w.frozen? ⟨g,j,none⟩=false:=λj=>by unfold World.frozen?;simp[O]
   have M:∀w',w'=(w.drew.setCells g (k+1)<|(l.map<|Value.int .i64).drop k).setCells g k [.int .i64 x]->zxf B w (kx8 x l k) (.returned<|.slice (some ⟨g,0,none⟩) (l.length+1) sc) w':=by
    rintro w' rfl;refine⟨_,_,_,rfl,?_,((Below.refl B w).drew).trans<|(kxn p _ _ _).trans (kxn p _ _ _)⟩;have f:=kzp g [.int .i64 x] k _ _<|kzp g ((l.map<|Value.int .i64).drop k) (k+1) w.drew cur.toList L;rw[i,m];refine⟨ah,.inr ⟨g,sc,_,rfl,p,f,d,e5,?_,?_⟩⟩
    ·rw[kke [.int .i64 x] _ _ (by grind [kke]),kke _ _ _ ah];simp;omega
    ·rw[R,Jb];have:=pyd (l.map<|Value.int .i64) (cur.toList.drop l.length) k (.int .i64 x) aj W;grind
   by_cases J:k<l.length
   ·have b:=Any2.slices_Insert_int_shift Tryz.insI g 0 l.length sc k vb 0 1 1 (l.map<|Value.int .i64) [.int .i64 x] w J aj d (by unfold maxLen at e5;omega) X G rfl (by simpa using t) (by simpa using y) (by simpa using λj _=>N j) z (pqe l) u 3 3 1 cur.size (by simp[World.shape?,P]) (by simp[World.shape?,O]) aj (by unfold World.frozen?;simp[P]) (by unfold World.frozen?;simp[P]);change og 184 _ _ _ at b
    refine b.mono ?_;rintro e w' ⟨rfl,D⟩;exact M w' (by rw[D];simp)
   ·obtain rfl:k=l.length:=by omega
    have b:=Any2.slices_Insert_int_end_room Tryz.insI g 0 l.length sc vb 0 1 1 [.int .i64 x] w aj d (by unfold maxLen at e5;omega) rfl (λj C=>by have:=y (l.length+j) aj;simpa using this) (λj C=>N _) z u;change og 184 _ _ _ at b
    refine b.mono ?_;rintro e w' ⟨rfl,rfl⟩;refine⟨_,_,_,rfl,?_,kxn p _ _ _⟩;have f:=kzp g [.int .i64 x] (0+l.length) w cur.toList L;have h7:(l.map<|Value.int .i64).take l.length=l.map (Value.int .i64):=Q9 ay;have h8:(l.map<|Value.int .i64).drop l.length=[]:=Qa ay;rw[i,m,h7,h8];refine⟨ay,.inr ⟨g,sc,_,rfl,p,f,d,e5,?_,?_⟩⟩
    ·grind [kke]
    grind [kke]
  ·by_cases J:k<l.length
   ·have b:=Any2.slices_Insert_int_grow Tryz.insI g 0 l.length sc k vb 0 1 1 (l.map<|Value.int .i64) [.int .i64 x] w J aj T aj aj G rfl (by simpa using t) z (pqe l) u;change og 184 _ _ _ at b
    refine b.mono ?_;rintro e w' ⟨rfl,D⟩;have H:=grownCap_ge w (l.length+1) sc 3;have I:=grownCap_le_maxLen w (l.length+1) sc 3 iq;change w'=(((w.alloc<|.cells (((l.map<|Value.int .i64).take k).toArray++Builtin.zeroCells (Value.int .i64 0).cells (l.length+1-k)++Builtin.zeroCells (Value.int .i64 0).cells (grownCap w (l.length+1) sc 3-(l.length+1))) 3).drew.setCells w.heap.size k [.int .i64 x]).drew).setCells w.heap.size (k+1) ((l.map<|Value.int .i64).drop k) at D
    change zxf B w _ (.returned<|.slice (some ⟨w.heap.size,0,none⟩) (l.length+1) (grownCap w (l.length+1) sc 3)) w'
    generalize grownCap w (l.length+1) sc 3=gc at *;obtain⟨Z,U⟩:=cpy<|(Builtin.zeroCells (Value.int .i64 0).cells (l.length+1-k)++Builtin.zeroCells (Value.int .i64 0).cells (gc-(l.length+1))).toList;have a4:Z.length=gc-k:=by rw[U];simp[size_zeroCells,Value.cells];omega
    have F:((l.map<|Value.int .i64).take k).toArray++Builtin.zeroCells (Value.int .i64 0).cells (l.length+1-k)++Builtin.zeroCells (Value.int .i64 0).cells (gc-(l.length+1))=(((l.map<|Value.int .i64).take k)++Z).toArray:=by rw[U];simp
    rw[F]at D;have a1:(w.alloc<|.cells (((l.map<|Value.int .i64).take k)++Z).toArray 3).drew.heap[w.heap.size]?=some (.cells (((l.map<|Value.int .i64).take k)++Z).toArray 3 (0,0)):=qy (w:=w);have a2:=kzp w.heap.size [.int .i64 x] k _ _ a1;have f:=kzp w.heap.size ((l.map<|Value.int .i64).drop k) (k+1) (((w.alloc<|.cells (((l.map<|Value.int .i64).take k)++Z).toArray 3).drew.setCells w.heap.size k [.int .i64 x]).drew) _ a2;rw[<-D]at f;refine⟨_,_,_,rfl,?_,?_⟩
    ·rw[i,m];refine⟨ah,.inr ⟨w.heap.size,gc,_,rfl,A,f,H,I,?_,?_⟩⟩
     ·have a6:((l.map<|Value.int .i64).take k).length=k:=by simp;omega
      rw[kke _ _ _ (by rw[kke _ _ _ ah];simp;omega),kke _ _ _ ah];simp;omega
     ·have:=pxk (l.map<|Value.int .i64) Z k (.int .i64 x) aj aj;grind
    ·rw[D];exact((jZ w).mono A).drew.trans (((kxn A _ _ _).drew).trans<|kxn A _ _ _)
   ·exact K (some ⟨g,0,none⟩) sc aj (λh=>ig) (λa Q j v C=>by injection Q with Q;subst Q;have:=t j v C;rw[show((⟨g,0,none⟩:Addr).add j)=⟨g,j,none⟩ by simp[Addr.add];omega];omega) T aj
theorem kx4.at(h:kx4 w ls cs)(f:∀x∈ls,x.length<=1000000):qyu .i64 w cs ls:=by refine⟨h.1.symm,λk d b=>?_⟩;obtain⟨a,n,c,e,g⟩:=h.2 k b;grind [qk6]
theorem jqo(b:S.Perm (List.range n))(a:k<S.length):S[k]<n:=by grind [List.getElem_mem]
theorem kx4.sorted(h:kx4 w ls cs)(q:w.ownsRow lo 31 1 (.slice la ll lc) cs.length cs)(m:∀k∈S,(Value.slice la ll lc).ownBlock=some k)(t:qzb S lo 31 w (.slice la ll lc) cs ls w'):OwnRows lo w' (.slice la ll lc) (sortL ls):=by
 obtain⟨y,p,b,s,u⟩:=t;have x:p.length=cs.length:=by rw[b.length_eq];simp
 have v:qke w S 3:=by
  intro k j c fr e;have d:=m k j;obtain⟨f,_⟩|⟨g,cap,cur,f,_,z,_⟩:=q.2
  ·rw[f]at d;cases d
  ·rw[f]at d;injection d with d;simp_all
 refine⟨la,ll,lc,p.map<|qy8 cs,rfl,by simp_all,by simp_all,λk j=>?_⟩;have l:k<p.length:=by simp_all
 have i:p[k]<ls.length:=by rw[<-h.1];exact(jqo b l)
 obtain⟨a,n,c,e,how⟩:=h.2 p[k] i;grind [kxh,qy8,kkv]
theorem kzl:∀k,k<=4->(kj3 k).length<=24:=by intro k a;have:k=0\/k=1\/k=2\/k=3\/k=4:=aj;obtain rfl|rfl|rfl|rfl|rfl:=this<;>decide
theorem jj1(x:Int)(all:List (List Int))(j:Nat):(kqj x (all.take j)).length<=(kqj x all).length:=by grind [List.take_append_drop,kqj]
theorem vw2(w:World)(n:Nat)(hn:n<=4):Calls prog 127 #[.int .i64 n] w λe w'=>∃v,e=.returned v/\OwnRows w.heap.size w' v (orders n)/\oq w w':=by
 obtain⟨W,hW⟩:=cpy<|w.alloc (.cells #[.slice none 0 0] 31);have b3:oq w W:=jM;have hA:W.heap[w.heap.size]?=some (.cells #[.slice none 0 0] 31 (0,0)):=kK;have b7:OwnRows w.heap.size W (.slice (some ⟨w.heap.size,0,none⟩) 1 1) (kj3 0):=
  ⟨_,_,_,[.slice none 0 0],rfl,⟨rfl,.inr ⟨w.heap.size,1,_,rfl,jH,hA,jH,iq,rfl,rfl⟩⟩,rfl,λk F=>by grind [kj3,World.ownsRow_nil]⟩
 go_in;go_wp21;rw[(oz hW.symm)];go_loopw [3,4,5,7,8] (λx i _ _ _ wr=>∃k:Nat,k<=n/\i=.int .i64 k/\OwnRows w.heap.size wr x (kj3 k)/\oq w wr) (λ_ i _ _ _ _=>n-(intOf i).toNat)
 ·grind
 obtain⟨d,rfl⟩:=cpy wr;obtain⟨k,F,rfl,f,hb⟩:=hrel;obtain⟨xa,xn,xc,cs,rfl,b,a⟩:=f;have Q:=qky k;have bC:=kzl k aj;by_cases bB:k<n
 ·have G:=kzl (k+1) aj;obtain⟨za,zc,ez,aG⟩:=qp b;injection ez with aN aO aP;subst aN;subst aO;subst aP;have T:=hb.size;obtain⟨aD,Y,a9⟩:=jp a hb Q;have b5:=show OwnRows d.heap.size d (.slice none 0 0) (kqj k<|(kj3 k).take 0) from⟨none,0,0,[],rfl,by grind [kqj,World.ownsRow_nil],by simp[kqj],λk F=>by simp[kqj]at F⟩
  have aB:=show kj3 (k+1)=kqj k (kj3 k) from rfl
  have aZ:(kqj k<|kj3 k).length<=24:=G;generalize kj3 k=all at *;clear a hb Q G;go_wp21;go_loopw [5,7,8,18] (λy _ _ i B=>∃j:Nat,j<=all.length/\i=.int .i64 j/\OwnRows d.heap.size B y (kqj k<|all.take j)/\oq d B) (λ_ _ _ i _=>all.length-(intOf i).toNat)
  ·grind [Below.refl]
  obtain⟨B,rfl⟩:=cpy wr;obtain⟨j,b9,rfl,f,E⟩:=hrel;obtain⟨L,N,M,ds,rfl,b,a⟩:=f;by_cases m:j<all.length
  ·obtain⟨g5,rfl,aW,aX,aR⟩:=aG j m;obtain⟨ca,cn,aH,aJ,P⟩:=aD.2 j m;have e5:B.cell? ⟨g5,j*1,none⟩=some (.slice ca cn aH):=by rw[E.cell (p:=⟨g5,j*1,none⟩) aj,aR (j*1) aj,Jb];exact aJ
   simp only[Jb]at e5;have aV:all[j].length<=4:=by have:=(a9 _<|wZ m).1;omega
   obtain⟨xq,cq,eq,_⟩:=qp P;injection eq with aK aL aM;subst aK;subst aL;subst aM;obtain⟨a3,l⟩:=ju E (zx0 k all j m);have aY:=jj1 k all<|j+1;have aE:=show OwnRows d.heap.size B (.slice L N M) (kqj k (all.take j)++(List.range 0).map (kx8 k all[j])) from⟨L,N,M,ds,rfl,by simp_all,by simp_all⟩
   generalize all[j]=c at *;go_wp21;go_loopw [5,8,25] (λy _ i A=>∃q:Nat,q<=c.length+1/\i=.int .i64 q/\OwnRows d.heap.size A y (kqj k (all.take j)++(List.range q).map (kx8 k c))/\oq d A) (λ_ _ i _=>c.length+1-(intOf i).toNat);exact⟨0,jR,rfl,aE,a3⟩;obtain⟨A,rfl⟩:=cpy wr;obtain⟨q,hq,rfl,f,u⟩:=hrel;obtain⟨U,X,V,aI,rfl,b,a⟩:=f;have a1:=u.size;by_cases bA:q<c.length+1
   ·have a4:=qj P u;obtain⟨H,D⟩:=ju b a;have aT:(kqj k (all.take j)++(List.range q).map (kx8 k c)).length<=24:=by
     have h1:(kqj k (all.take j)++(List.range q).map (kx8 k c)).length<=(kqj k<|all.take (j+1)).length:=by rw[l];simp[jjf];omega
     omega
    have b6:=show(kqj k (all.take j)++(List.range<|q+1).map (kx8 k c))=(kqj k (all.take j)++(List.range q).map (kx8 k c))++[kx8 k c q] by rw[Jf,Qw,<-sZ];rfl
    generalize (kqj k (all.take j)++(List.range q).map (kx8 k c))=Lg at *;go_wp21;refine(zj2 a4 aj).mono ?_;rintro e w4 ⟨ka,kn,kc,rfl,R,O⟩;have a0:=O.size;have a8:=vxq q k w4.heap.size (R.alloc _) (qy) (λe=>by
     obtain⟨Z,_⟩|⟨g,cap,cur,Z,_,e3,_⟩:=R.2
     ·rw[Z]at e;cases e
     ·rw[Z]at e;injection e with e;simp_all) aj aj ah
    go_wp21;refine a8.mono ?_;rintro e K ⟨a5,l5,c5,rfl,aS,aQ⟩;have h:oq A K:=(O.alloc a0 _).trans aQ;have b2:=h.size;have aA:=qo jR aS;have t:=qj H h;go_wp2_with (at_builtin;refine apO (t.alloc _) ?_)
    intro v6 w6 J s _ aU;obtain⟨a6,l6,c6,rfl⟩:=qh J;have k6:Tk none [31] K w6:=(yt (jZ K) _ _).trans<|kz4 (t.alloc _) s ay;have b8:=show OwnRows d.heap.size w6 (.slice a6 l6 c6) (Lg++[kx8 k c q]) from⟨a6,l6,c6,_,rfl,by simp_all,((D.tk (yt h none [31]) (pz.none _) ak).snoc aA).tk k6 (pz.none _) ak⟩
    have a2:=((u.trans<|h.mono a1).alloc aj _).grown s ah<|jo t;go_wp2
    exact rdM ⟨q+1,aj,eu,by simp_all,a2⟩
   ·have:q=c.length+1:=by omega
    subst this;have I:=show OwnRows d.heap.size A (.slice U X V) (kqj k<|all.take (j+1)) from⟨U,X,V,aI,rfl,by rw[l];exact b,by rw[l];exact a⟩
    go_wp2;exact rdM ⟨j+1,aj,eu,I,u⟩
  ·have:j=all.length:=by omega
   subst this;rw[Qc]at b a;have I:=show OwnRows w.heap.size B (.slice L N M) (kj3<|k+1) by rw[aB];exact⟨L,N,M,ds,rfl,qo aj b,a⟩
   have b4:=Y.trans<|E.mono aj;go_wp2
   grind [intOf]
 ·have:k=n:=by omega
  subst this;have C:d.ownsRow w.heap.size 31 1 (.slice xa xn xc) cs.length cs:=by rw[a.1];omega
  have aC:=oz a;have aF:=jwv C (a.at λx hx=>by grind) (by rw[a.1];omega);have a7:=jo C;have Y:=oz hb;have T:=hb.size;go_wp21;refine aF.mono ?_;rintro e K ⟨rfl,S,hS,z⟩;have I:=aC.sorted C hS z;have h:=Y.trans (z.1.below T<|λk F=>a7 k<|hS k F);go_wp2;go_ret;exact⟨_,rfl,I,h⟩
theorem kx4.below(h:kx4 w ls cs)(hb:oq w w'):kx4 w' ls cs:=
 ⟨h.1,λk b=>by obtain⟨a,n,c,e,d⟩:=h.2 k b;exact⟨a,n,c,e,qj d hb⟩⟩
theorem kx4.alloc(h:kx4 w ls cs)(o:Obj):kx4 (w.alloc o) ls cs:=h.below<|jZ w (o:=o)
theorem qzo:∀(n:Nat)(w:World),n<=4 ->
  Calls prog 135 #[.int .i64 n] w λe w'=>∃v,e=.returned v/\OwnRows w.heap.size w' v (kj3 n)/\oq w w'/\(n=0->∃g h,v=.slice (some ⟨h,0,none⟩) 1 1/\w'.cell? ⟨h,0,none⟩=some (.slice (some ⟨g,0,none⟩) 0 0))
 |0,w,hn=>by
  have H0:=qy (w:=w) (o:=.cells #[] 3);have H1:=qy (w:=w.alloc<|.cells #[] 3) (o:=.cells #[.slice (some ⟨w.heap.size,0,none⟩) 0 0] 31);simp only[tV]at H1;go_in;go_wp21;go_ret;refine⟨_,rfl,⟨_,_,_,[.slice (some ⟨w.heap.size,0,none⟩) 0 0],rfl,⟨rfl,.inr ⟨_,1,_,rfl,aj,H1,jH,iq,rfl,rfl⟩⟩,rfl,λk u=>?_⟩,(jZ w).alloc ay _,λ_=>⟨w.heap.size,w.heap.size+1,rfl,?_⟩⟩
  ·simp[kj3]at u;subst u;exact⟨_,_,_,rfl,rfl,.inr ⟨_,0,_,rfl,jR,zy H0,jH,ay,rfl,rfl⟩⟩
  simp
 |n+1,w,hn=>by
  have IH:=qzo n w aj;go_in;go_wp21;refine IH.mono ?_;rintro e t ⟨v,rfl,⟨xa,xn,xc,cs,rfl,aD,U⟩,hb,hz⟩;have a1:=qky n;have bF:=kzl n aj;have S:=kzl (n+1) hn;obtain⟨za,zc,ez,a8⟩:=qp aD;injection ez with aU aV aW;subst aU;subst aV;subst aW;have HA:Hid (∀(j:Nat) (hj:j<(kj3 n).length),∃h g c,xa=some ⟨h,0,none⟩/\h<t.heap.size/\t.cell? ⟨h,j,none⟩=some (.slice (some ⟨g,0,none⟩) n c)/\t.ownsRow 0 3 1 (.slice (some ⟨g,0,none⟩) n c) n ((kj3 n)[j].map (Value.int .i64))):=by intro j hj;obtain⟨h,rfl,_,h2,hc⟩:=a8 j hj;obtain⟨a,m,c,e,ho⟩:=U.2 j hj;grind [qkw]
  have a7:=hb.size;have b9:(kqj n<|kj3 n).length<=24:=S;obtain⟨aM,aN⟩:=ju a1 (show kj3 (n+1)=kqj n (kj3 n) from rfl);generalize kj3 n=all at *;clear hz a1 a8 S;go_wp21;go_loopw [4,5,6,7] (λy i _ _ V=>∃j:Nat,j<=all.length/\i=.int .i64 j/\OwnRows t.heap.size V y (kqj n<|all.take j)/\oq t V) (λ_ i _ _ _=>all.length-(intOf i).toNat);exact⟨0,jR,rfl,⟨none,0,0,[],rfl,by grind [kqj,World.ownsRow_nil],by simp[kqj],λk u=>by simp[kqj]at u⟩,bR⟩;obtain⟨V,rfl⟩:=cpy wr;obtain⟨j,bC,rfl,⟨ya,yn,yc,ds,rfl,d,s⟩,K⟩:=hrel;have bB:=K.size;by_cases O:j<all.length
  case neg=>
   have:j=all.length:=aj;subst this;rw[Qc]at d s;go_wp2;go_ret;exact⟨_,rfl,by rw[ku aN];exact⟨_,_,_,_,rfl,qo a7 d,s⟩,hb.trans<|K.mono a7,λh=>aj⟩
  case pos=>
  obtain⟨T,B,c0,rfl,b2,X,W⟩:=ku HA j O;obtain⟨aL,aK⟩:=ju X W;have aC:all[j].length=n:=(aM _<|wZ O).1;have C:=oz<|zx0 n all j O;have b8:=jj1 n all<|j+1;have aR:=oz (show OwnRows t.heap.size V (.slice ya yn yc) (kqj n (all.take j)++(List.range 0).map (kx8 n all[j])) from⟨ya,yn,yc,ds,rfl,by simp_all,by simp_all⟩);generalize all[j]=c at *;clear d s W X;go_wp21
  go_loopw [4,6,7] (λy i _ b=>∃q:Nat,q<=n+1/\i=.int .i64 q/\OwnRows t.heap.size b y (kqj n (all.take j)++(List.range q).map (kx8 n c))/\oq t b) (λ_ i _ _=>n+1-(intOf i).toNat);exact⟨0,jR,rfl,aR,K⟩;obtain⟨b,rfl⟩:=cpy wr;obtain⟨q,hq,rfl,⟨a9,aB,aA,aT,rfl,d,s⟩,z⟩:=hrel;have aG:=z.size;by_cases bD:q<n+1
  case neg=>
   have:q=n+1:=aj;subst this;have HX:=oz (show OwnRows t.heap.size b (.slice a9 aB aA) (kqj n<|all.take (j+1)) by rw[ku C,jjf,aC];exact⟨a9,aB,aA,aT,rfl,d,s⟩);clear d s;go_wp2;exact rdM ⟨j+1,aj,eu,HX,z⟩
  case pos=>
  have aY:=(z.cell (p:=⟨T,j,none⟩) b2).trans aL;have F:=qj aK z;have E:Hid (∀k,k<n->b.cell? ⟨B,k,none⟩=(c.map<|Value.int .i64)[k]?):=by intro k u;grind [qp]
  have b7:n<=c0:=by
   obtain⟨e,_⟩|⟨g,cap,cur,e,_,_,h,_⟩:=F.2
   ·cases e
   simp_all
  have aZ:B<b.heap.size:=by
   obtain⟨e,_⟩|⟨g,cap,cur,e,_,h,_⟩:=F.2
   ·cases e
   grind
  clear F;obtain⟨aP,aQ⟩:=ju d s;have A:=rC b b.heap.size 3 1;have b6:(kqj n (all.take j)++(List.range q).map (kx8 n c)).length<=24:=by
   have h1:(kqj n (all.take j)++(List.range q).map (kx8 n c)).length<=(kqj n<|all.take (j+1)).length:=by rw[ku C];simp[jjf];omega
   omega
  have aS:=oz (by rw[Jf,Qw,<-sZ];rfl:(kqj n (all.take j)++(List.range<|q+1).map (kx8 n c))=(kqj n (all.take j)++(List.range q).map (kx8 n c))++[kx8 n c q]);generalize (kqj n (all.take j)++(List.range q).map (kx8 n c))=Lg at *;clear d s;obtain⟨f,hf⟩:∃f,f=if c0=q then 0 else q:=⟨_,rfl⟩
  obtain⟨d1,L⟩:=cpy<|c.take q;obtain⟨d2,M⟩:=cpy<|c.drop q;have b3:d1.length=q:=by grind
  have b4:d2.length=n-q:=by simp_all
  have aH:Hid (∀k,k<d1.length->b.cell? ⟨B,0+k,none⟩=(d1.map<|Value.int .i64)[k]?):=λk u=>by rw[Jc,ku E k aj,L,ZY,ZU aj]
  have aI:Hid (∀k,k<d2.length->b.cell? ⟨B,f+k,none⟩=(d2.map<|Value.int .i64)[k]?):=λk u=>by rw[hf,Xy aj,ku E (q+k) aj,M,List.map_drop,J3]
  obtain⟨HE,HF⟩:=ju (by rw[L,M,kx8];simp:kx8 n c q=(d1++[(n:Int)])++d2) hf;clear hf L M E;go_wp2_with (at_builtin;refine apI (l:=[]) A aH ?_)
  intro v2 w2 P Y _ _;have J:oq b w2:=bR.grown Y jH<|jo A;have aE:=J.size;obtain⟨a2,l2,c2,rfl⟩:=qh P;have G:=oz P;clear Y A P;go_wp2_with (at_builtin;refine apO (G.alloc _) ?_)
  intro v3 w3 a6 Z _ _;have x:oq b w3:=(J.alloc aE _).grown Z ah<|jo G;have H:Hid (w3.ownsRow b.heap.size 3 1 v3 (d1++[(n:Int)]).length<|(d1++[(n:Int)]).map (Value.int .i64)):=by unfold Hid;simp_all
  obtain⟨a3,l3,c3,rfl⟩:=qh a6;have aF:=x.size;have b5:w3.cell? ⟨T,j,none⟩=some (.slice (some ⟨B,0,none⟩) n c0):=(x.cell (p:=⟨T,j,none⟩) (by show T<_;omega)).trans aY;have aJ:Hid (∀k,k<d2.length->w3.cell? ⟨B,f+k,none⟩=(d2.map<|Value.int .i64)[k]?):=λk u=>(x.cell (p:=⟨B,f+k,none⟩) aZ).trans<|aI k u
  clear a6 Z J G;go_wp2_with (at_builtin;refine apI H aJ ?_ (hA:=by rw[ku HF];split<;>rfl))
  all_goals
   intro v4 w4 Q a0 _ _;have D:oq b w4:=x.grown a0 aF<|jo H;have aO:Hid (w4.ownsRow 0 3 1 v4 (kx8 n c q).length<|(kx8 n c q).map (Value.int .i64)):=by unfold Hid;rw[ku HE];simpa[b3,b4] using qo jR Q
   obtain⟨a4,l4,c4,rfl⟩:=qh Q;have bA:=D.size;have I:=oz<|qj aP D;clear Q a0 x H;go_wp2_with (at_builtin;refine apO (I.alloc _) ?_)
   intro v5 w5 R N _ _;have aX:=((z.trans<|D.mono aG).alloc aj _).grown N ah<|jo I;have HX:=oz<|OwnRows.snoc (kx4.alloc (kx4.below aQ D) _) (I.alloc _) (aO.alloc _) R N;obtain⟨a5,l5,c5,rfl⟩:=qh R;clear R N;go_wp2
   exact rdM ⟨q+1,aj,eu,by rw[ku aS];exact HX,aX⟩
def xqf(w:World)(g k:Nat)(V:PVar):Prop:=
 w.cell? ⟨g,k*12,none⟩=some (.string V.y.t)/\w.cell? ⟨g,k*12+1,none⟩=some (.string V.y.x)/\w.cell? ⟨g,k*12+2,none⟩=some (.int .i64 V.y.v)/\w.cell? ⟨g,k*12+3,none⟩=some (.string V.g.t)/\w.cell? ⟨g,k*12+4,none⟩=some (.string V.g.x)/\w.cell? ⟨g,k*12+5,none⟩=some (.int .i64 V.g.v)/\w.cell? ⟨g,k*12+6,none⟩=some (.string V.k.t)/\w.cell? ⟨g,k*12+7,none⟩=some (.string V.k.x)/\w.cell? ⟨g,k*12+8,none⟩=some (.int .i64 V.k.v)/\w.cell? ⟨g,k*12+9,none⟩=some (.string V.R.t)/\w.cell? ⟨g,k*12+10,none⟩=some (.string V.R.x)/\w.cell? ⟨g,k*12+11,none⟩=some (.int .i64 V.R.v)
theorem kqc.var(h:kqc w lo t)(c:k<t.z.length):∃g cap,lo<w.heap.size/\g<w.heap.size/\w.cell? ⟨lo,2,none⟩=some (.slice (some ⟨g,0,none⟩) t.z.length cap)/\xqf w g k t.z[k]:=by
 obtain⟨x0,x1,x2,x3,x4,y1,y3,y4,f,_,_,p,_⟩:=h;obtain⟨s,u,q,v,x,_⟩:=kzk f;obtain⟨a,cap,rfl,b⟩:=qp p;obtain⟨g,rfl,_,l,i⟩:=b k c;have E:=λj (m:j<12)=>(i (k*12+j) aj).trans<|kqo kj7 12 (λ_=>rfl) t.z k j c m
 refine⟨g,cap,wQ f,l,q,?_⟩;have k0:=E 0 aj;have k1:=E 1 aj;have k2:=E 2 aj;have k3:=E 3 aj;have k4:=E 4 aj;have k5:=E 5 aj;have k6:=E 6 aj;have k7:=E 7 aj;have k8:=E 8 aj;have k9:=E 9 aj;have d:=E 10 aj;have e:=E 11 aj;simp only[kj7,ji,QU,Qd,sW,sU,Qk]at k0 k1 k2 k3 k4 k5 k6 k7 k8 k9 d e;exact⟨k0,k1,k2,k3,k4,k5,k6,k7,k8,k9,d,e⟩
def jzt(t:PTree)(s:List UInt8)(n:Nat):Prop:=∃k,∃h:k<t.j.length,zx (ug t) s=k/\zz9 (t.j[k]).size/\mg (t.j[k]).size.x=n/\1<=n/\n<=9
def kwv(v:PVar):Bool:=v.g.t.toList==mX
def qxz(t:PTree)(v:PVar)(n:Nat):Prop:=if kwv v then jzt t v.g.x.toList n else n=1
def zvy(t:PTree)(v:PVar):Int:=if kx3 (kj2 t v) then -1 else 0
def kkb(t:PTree):List PVar->List (List Int)->Prop
 |[],S=>S=[]
 |v::l,S=>∃n S',qxz t v n/\S=List.replicate n (zvy t v)::S'/\kkb t l S'
theorem kkb.T:∀{l:List PVar} {S:List (List Int)},kkb t l S->S.length=l.length
 |[],_,h=>by rw[show _=_ from h];rfl
 |v::l,S,⟨n,S',_,e,h⟩=>by rw[e,Qb,Qb,h.T]
theorem kkb.get:∀{l:List PVar} {S:List (List Int)} (k:Nat) (hk:k<l.length),kkb t l S->∃n,qxz t l[k] n/\S[k]?=some (List.replicate n (zvy t l[k]))
 |v::l,S,0,_,⟨n,S',c,e,h⟩=>⟨n,c,by simp_all⟩
 |v::l,S,k+1,hk,⟨n,S',c,e,h⟩=>by simp_all [kkb.get]
theorem qxz.bd{i7:PVar}(h:qxz t i7 n):1<=n/\n<=9:=by
 unfold qxz at h;split at h
 ·obtain⟨_,_,_,_,_,h1,a⟩:=h;omega
 ·omega
theorem jk1(h:kqc w lo t)(Y:TreeOk t)(hf:TreeFit t)(hS:kkb t t.z ls):Calls prog 69 #[.pointer (some ⟨lo,0,none⟩)] w λe w'=>∃x' f,e=.returned x'/\StA w.heap.size w' x' ls f/\oq w w':=by
 have b3:=hS.T;obtain⟨HS,U⟩:=ju hS h;have b5:=Y.z;have aL:∃a c,w.cell? ⟨lo,2,none⟩=some (.slice a t.z.length c):=by obtain⟨x0,x1,x2,x3,x4,y1,y3,y4,hT,_,_,hs,_⟩:=h;have q0:=kzk hT;grind [qp]
 obtain⟨aR,aS,(a6:Hid _)⟩:=aL;have aI:lo<w.heap.size:=by obtain⟨x0,x1,x2,x3,x4,y1,y3,y4,hT,_⟩:=h;grind
 go_in;go_wp21;go_loopw [3,4,5,6,7,8,9,10] (λy i _ _ _ _ _ _ wr=>∃(k:Nat) (f:List (Nat×Nat)),k<=t.z.length/\i=.int .i64 k/\StA w.heap.size wr y (ls.take k) f/\oq w wr) (λ_ i _ _ _ _ _ _ _=>t.z.length-(intOf i).toNat);exact⟨0,[],jR,rfl,StA.nil _ _,bR⟩;obtain⟨C,rfl⟩:=cpy wr;obtain⟨k,f,hk,rfl,d,s⟩:=hrel;have T:=s.size;obtain⟨ya,yc,rfl,aO⟩:=qp d.out;have H:(ls.take k).length=k:=by simp_all
 rw[H]at d |-;have q2:C.cell? ⟨lo,2,none⟩=some (.slice aR t.z.length aS):=(s.cell (p:=⟨lo,2,none⟩) aI).trans a6;clear aO;by_cases I:k<t.z.length
 ·obtain⟨g,cap,_,hg,qq,k0,k1,k2,k3,k4,k5,k6,k7,k8,k9,aP,aQ⟩:=(U.below s).var I;obtain⟨n,a3,Q⟩:=HS.get k I;have aV:=a3.bd;have aB:=oz (by rw[List.take_add_one,Q];rfl:ls.take (k+1)=ls.take k++[List.replicate n (zvy t t.z[k])]);have S:=(hf.z _<|wZ I).1;generalize t.z[k]=V at *;obtain⟨W,X⟩:=cpy<|C.alloc (.cells #[.string V.y.t,.string V.y.x,.int .i64 V.y.v,.string V.g.t,.string V.g.x,.int .i64 V.g.v,.string V.k.t,.string V.k.x,.int .i64 V.k.v,.string V.R.t,.string V.R.x,.int .i64 V.R.v] 222);have G:oq C W:=by rw[X];exact jZ C
  have b2:C.heap.size<W.heap.size:=by simp_all
  have aD:=U.below<|s.trans (G.mono T);have N:=s.trans<|G.mono T;have aA:=d.below G;have aC:=U.below s;have aE:=oz X.symm;have b4:=qj5 t V S;obtain⟨a9,HZ⟩:=ju (λwx (Z:oq W wx)=>qv8 V (aD.below Z) Y.p S) (show zvy t V=if kx3 (kj2 t V) then -1 else 0 from rfl);have a5:=oz (λy (hy:y∈ls.take k)=>(show 0<y.length from by obtain⟨q,hq,rfl⟩:=wG<|Zp hy;obtain⟨m,aK,A⟩:=HS.get q aj;rw[wW hq]at A;injection A with A;rw[A,Qh];have:=aK.bd;omega))
  clear q2 X Q;cases ho:(V.g.t.toList==mX);case' false=>
   have aY:n<=1:=by grind [ku,qxz,kwv]
  case' true=>
   obtain⟨sk,aM,sl,sd,sv,_⟩:jzt t V.g.x.toList n:=by grind [ku,qxz,kwv]
   go_wp21;refine(qk5 (aC.below<|jZ _) Y.j aM sl sd).mono ?_;rintro e wz ⟨rfl,rfl⟩;rw[sv]
  all_goals
   go_wp21;rw[ku aE];clear k0 k1 k2 k3 k4 k5 k6 k7 k8 k9 aP aQ qq;refine(a9 W<|bR).mono ?_;rintro e v ⟨rfl,F⟩;have aZ:=F.size;have M:=N.trans<|F.mono N.size;have O:=aA.below F;have J:=M.size;go_wp21
   refine(qjg _ aj).mono ?_;rintro e v ⟨rfl,rfl⟩;generalize kx3 (kj2 t V)=bs at *;have HO:=rC v v.heap.size 3 1;generalize zvy t V=z at *;go_wp21;go_loopw [7,9,10] (λy q _ K=>∃j:Nat,j<=n/\q=.int .i64 j/\K.ownsRow v.heap.size 3 1 y j (List.replicate j<|Value.int .i64 z)/\oq v K) (λ_ q _ _=>n-(intOf q).toNat);exact⟨0,jR,rfl,HO,bR⟩;obtain⟨K,rfl⟩:=cpy wr;obtain⟨j,aW,rfl,B,x⟩:=hrel;have aN:=x.size;obtain⟨za,zn,zc,rfl⟩:=qh B;by_cases aX:j<n
   ·cases bs;all_goals
     have hz:=ku HZ;simp only[Xw,Xv,ru]at hz;subst hz;go_wp2_with (at_builtin;refine apO (B.alloc _) ?_)
     intro v' w' u b _ E;have a7:=show w'.ownsRow v.heap.size 3 1 v' (j+1) (List.replicate (j+1)<|Value.int .i64 _) by rw[List.replicate_succ'];exact u
     have a0:=(x.alloc aN _).grown b ah<|jo B;clear E;go_wp2
     exact rdM ⟨j+1,aj,eu,a7,a0⟩
   ·have aJ:j=n:=by omega
    rw[aJ]at B;obtain⟨L,c3,e3,aT,aU⟩:=qkw B aj;injection e3.symm with aF aG aH;subst aF;subst aG;subst aH;have D:=O.below x;have a8:=qo J B;have a4:=oz (show L∉f.map (·.1) from λZ=>by have:=O.lt a5 L Z;omega);have a1:=M.trans<|x.mono J;go_wp2_with (at_builtin;refine apO (by have:=D.out.alloc<|.cells #[.slice (some ⟨L,0,none⟩) n c3] 31;rw[H]at this;exact this) ?_)
    intro v' w' u b _ E;have R:(List.replicate n z).length=n:=Qh;have P:=StA.snoc (D.below<|jZ K (o:=.cells #[.slice (some ⟨L,0,none⟩) n c3] 31)) a4 (l:=List.replicate n z) (by rw[R,List.map_replicate];exact qj a8<|jZ K) (by rw[H,R];exact u) b;have a2:=(a1.alloc aj _).grown b ah<|jo D.out;rw[<-ku aB]at P;clear E;go_wp2
    exact rdM ⟨k+1,_,aj,eu,P,a2⟩
 ·
  rw[show ls.take k=ls by grind]at d;go_wp2;go_ret;exact⟨_,_,rfl,d,s⟩
section
structure WV where
 n:Tok
 pa:Option Addr
 pn:Nat
 pc:Nat
 vg:Option Addr
 ba:Option Addr
 bn:Nat
 bc:Nat
 aa:Option Addr
 an:Nat
 ac:Nat
 sa:Option Addr
 sn:Nat
 sc:Nat
structure Cx (w0:World)(T:Nat)(t:PTree)(l:List PP)(ms:List Int)(v:WV):Prop where
 tree:kqc w0 T t
 ok:TreeOk t
 pars:w0.ownsRow 0 236 6 (.slice v.pa v.pn v.pc) l.length (kjm l)
 kqq:l.length<=801
 args:w0.ownsRow 0 3 1 (.slice v.aa v.an v.ac) ms.length (ms.map<|Value.int .i64)
 mlen:ms.length<=801
structure Wk (w0:World)(T R:Nat)(v:WV)(gs:List (Nat×Nat))(w:World)(S:List (List Int))(b:Bool):Prop where
 D:oq w0 w
 big:w0.heap.size<=R
 e:w.heap[R]?=some (.cells #[.pointer (some ⟨T,0,none⟩),.string v.n.t,.string v.n.x,.int .i64 v.n.v,.slice v.pa v.pn v.pc,.pointer v.vg,.slice v.ba v.bn v.bc,.slice v.aa v.an v.ac,.slice v.sa v.sn v.sc,.bool b] 251 (0,0))
 st:StA w0.heap.size w (.slice v.sa v.sn v.sc) S gs
variable {w0 w w':World} {T R:Nat} {t:PTree} {l:List PP} {ms:List Int} {v:WV} {gs:List (Nat×Nat)} {S:List (List Int)} {b:Bool}
theorem StA.other{v:Value}(h:StA B w v S gs)(b:w.heap[R]?=some (.cells a7 251 fr))(j:Nat)(u:Value):StA B (w.setCell ⟨R,j,none⟩ u) v S gs:=
 ⟨ownsRow_setCell_other h.out (not_row h.out b ak).symm u,h.T,h.apart,λk c a=>ownsRow_setCell_other (h.rows k c a) (not_row (h.rows k c a) b ak).symm u⟩
theorem Wk.xz(h:Wk w0 T R v gs w S b):Wk w0 T R v gs (w.setCell ⟨R,9,none⟩ (.bool true)) S true:=
 ⟨h.D.setCell h.big _,h.big,jL R 9 _ _ _ h.e,h.st.other h.e 9 _⟩
theorem Wk.below(h:Wk w0 T R v gs w S b)(hb:oq w w'):Wk w0 T R v gs w' S b:=
 ⟨h.D.trans<|hb.mono h.D.size,h.big,(hb.block R<|wQ h.e).trans h.e,h.st.below hb⟩
theorem StA.get{v:Value}{l:List Int}(h:StA B w v S gs)(x:S[k]?=some l)(u:l[i]?=some j):∃d cO g c,v=.slice (some ⟨d,0,none⟩) S.length cO/\d<w.heap.size/\w.cell? ⟨d,k,none⟩=some (.slice (some ⟨g,0,none⟩) l.length c)/\g<w.heap.size/\w.cell? ⟨g,i,none⟩=some (.int .i64 j)/\k<S.length/\i<l.length/\∃f:k<gs.length,g=gs[k].1:=by
 obtain⟨b,rfl⟩:=rY.1 x;obtain⟨m,rfl⟩:=rY.1 u;have f:k<gs.length:=by rw[h.T];exact b
 obtain⟨a,c,rfl,hv⟩:=qp h.out;obtain⟨d,rfl,_,h1,t⟩:=hv k b;obtain⟨a',y,e,q⟩:=qp<|h.rows k b f;unfold rwV at e;injection e with s z A;subst s;obtain⟨g,p,_,C,D⟩:=q i m;injection p with p;rw[Addr.mk.injEq]at p;refine⟨d,c,gs[k].1,gs[k].2,rfl,h1,?_,aj,?_,b,m,f,rfl⟩
 ·rw[t k aj,Zy];simp[b,f];rfl
 simp_all
def Rl7(R nk o:Nat)(v:WV)(s:ByteArray)(w:World):Prop:=w.cell? ⟨R,1,none⟩=some (.string v.n.t)/\w.cell? ⟨R,2,none⟩=some (.string v.n.x)/\w.cell? ⟨R,3,none⟩=some (.int .i64 v.n.v)/\w.cell? ⟨R,4,none⟩=some (.slice v.pa v.pn v.pc)/\w.cell? ⟨R,5,none⟩=some (.pointer v.vg)/\w.cell? ⟨R,6,none⟩=some (.slice v.ba v.bn v.bc)/\w.cell? ⟨nk,o,none⟩=some (.string s)
theorem Rl7.below{o:Nat}(h:Rl7 R nk o v e8 w)(hR:R<w.heap.size)(hn:nk<w.heap.size)(hb:oq w w'):Rl7 R nk o v e8 w':=
 ⟨(hb.cell (p:=⟨R,1,none⟩) hR).trans h.1,(hb.cell (p:=⟨R,2,none⟩) hR).trans h.2.1,(hb.cell (p:=⟨R,3,none⟩) hR).trans h.2.2.1,(hb.cell (p:=⟨R,4,none⟩) hR).trans h.2.2.2.1,(hb.cell (p:=⟨R,5,none⟩) hR).trans h.2.2.2.2.1,(hb.cell (p:=⟨R,6,none⟩) hR).trans h.2.2.2.2.2.1,(hb.cell (p:=⟨nk,o,none⟩) hn).trans h.2.2.2.2.2.2⟩
def vqj(t:PTree)(l:List PP)(ms:List Int)(S:List (List Int))(n i:Tok):Option ((Int×Int)×Bool):=
 if i.t.toList==mX then (if 0<=zx (pq l) i.x.toList then ms[(zx (pq l) i.x.toList).toNat]? else if 0<=zx (zf t) i.x.toList then (S[(zx (zf t) i.x.toList).toNat]?).bind λy=>y[0]? else none).map λj=>((zx (zf t) n.x.toList,j),decide (j<0))
 else some ((zx (zf t) n.x.toList,0),false)
theorem jjp(k:Cx w0 T t l ms v)(h:Wk w0 T R v gs w S b)(hN:w0.heap[nk]?=some (.cells (kww i8 va vb) 242 (0,0))){i9:(Int×Int)×Bool}(i:vqj t l ms S i8.y i8.c=some i9):Calls prog 182 #[.pointer (some ⟨R,0,none⟩),.pointer (some ⟨nk,0,none⟩)] w λe w'=>e=.returned (.tuple #[.int .i64 i9.1.1,.int .i64 i9.1.2])/\Wk w0 T R v gs w' S (b||i9.2):=by
 have d:=h.D;have x:=(d.block nk<|wQ hN).trans hN;unfold kww at x;obtain⟨⟨n0,n1,n2,n3,n4,n5,n6,n7,n8,n9⟩,_⟩:=kju x;obtain⟨⟨c0,c1,c2,c3,c4,c5,c6,c7,c8,c9⟩,⟨_,_,_,_,_,_,_,_,_,f9⟩⟩:=kju h.e;have O:=oz h;have Q:=k.tree.below d;have P:=qj k.pars d;have HA:=qj k.args d;have K:=wQ h.e;have A:nk<w.heap.size:=sV (wQ hN) d.size;have D:=show Rl7 R nk 7 v i8.c.x w from⟨c1,c2,c3,c4,c5,c6,n7⟩
 clear x hN;unfold vqj at i;have s:=oz (λ(wx:World)(m:oq w wx)=>qjt i8.y.x (Q.below m) k.ok.z);generalize zx (zf t) i8.y.x.toList=p at i s;cases hk:(i8.c.t.toList==mX)
 ·rw[hk,Xy ay]at i;injection i with i;subst i;go_in
  go_upto_region 1 with fail
  go_region_held3 (λw'=>w'.cell? ⟨R,0,none⟩=some (.pointer<|some ⟨T,0,none⟩)/\w'.cell? ⟨nk,4,none⟩=some (.string i8.y.x)) (exact⟨c0,n4⟩)
   (first|(go_at_call 119;refine(s _ jC).mono ?_;rintro e G ⟨rfl,rfl⟩;dsimp only))
  go_wp2;go_ret2;exact⟨rfl,by rw[Qg];exact O.below bR.drew⟩
 ·rw[hk,lJ rfl]at i;obtain⟨j,f,rfl⟩:=wX.1 i;by_cases E:0<=zx (pq l) i8.c.x.toList
  ·rw[lJ E]at f;obtain⟨a1,a2,e1,L⟩:=qp HA;obtain⟨C,N⟩:=sG E;rw[N,tX]at f;have a3:C<ms.length:=by grind
   obtain⟨ga,rfl,a7,Y,Z⟩:=L C a3;injection e1 with I J a6;have a0:w.cell? ⟨ga,C,none⟩=some (.int .i64 j):=by simp_all
   rw[I,J]at c7;have q:=oz (λ(wx:World)(m:oq w wx)=>qkx v.n v.vg v.ba v.bn v.bc i8.c.x (qj P m) k.kqq);rw[N]at q;clear L Z E f i;go_in;go_upto_region 1 with fail
   go_region_held3 (λw'=>w'.cell? ⟨R,0,none⟩=some (.pointer<|some ⟨T,0,none⟩)/\w'.cell? ⟨nk,4,none⟩=some (.string i8.y.x)) (exact⟨c0,n4⟩)
    (first|(go_at_call 119;refine(s _ jC).mono ?_;rintro e G ⟨rfl,rfl⟩;dsimp only))
   go_upto_region 5 with fail
   go_region_held3 (λw'=>w'.cell? ⟨R,1,none⟩=some (.string v.n.t)/\w'.cell? ⟨R,2,none⟩=some (.string v.n.x)/\w'.cell? ⟨R,3,none⟩=some (.int .i64 v.n.v)/\w'.cell? ⟨R,4,none⟩=some (.slice v.pa v.pn v.pc)/\w'.cell? ⟨R,5,none⟩=some (.pointer v.vg)/\w'.cell? ⟨R,6,none⟩=some (.slice v.ba v.bn v.bc)/\w'.cell? ⟨nk,7,none⟩=some (.string i8.c.x)) (first|exact D|exact u)
    (first|(go_at_call 179;refine(q _ bR.drew.drew).mono ?_;rintro e G ⟨rfl,z⟩;have a:=(Below.refl w.heap.size w).drew.drew.trans z;have u:=D.below K A a ;dsimp only))
   have c:=O.below a;obtain⟨⟨d0,_,_,_,_,_,_,d7,d8,d9⟩,⟨_,_,_,_,_,_,_,_,_,g9⟩⟩:=kju c.e;have a5:=(a.cell (p:=⟨ga,C,none⟩) Y).trans a0;rw[I,J]at d7;by_cases M:j<0
   ·go_wp2;go_ret2;exact⟨rfl,by rw[Qz M,Js];exact c.xz⟩
   ·go_wp2;go_ret2;exact⟨rfl,by rw[show decide (j<0)=false by simp_all,Qg];exact c⟩
  ·rw[Xy E]at f;by_cases F:0<=zx (zf t) i8.c.x.toList
   ·rw[lJ F]at f;obtain⟨vk,B⟩:=sG F;rw[B,tX]at f;obtain⟨y,(V:Hid _),(W:Hid _)⟩:=wu.1 f;have q:=oz (λ(wx:World)(m:oq w wx)=>qkx v.n v.vg v.ba v.bn v.bc i8.c.x (qj P m) k.kqq);generalize zx (pq l) i8.c.x.toList=C at *;have H:=oz (λ(wx:World)(m:oq w wx)=>qjt i8.c.x (Q.below m) k.ok.z);rw[B]at H;clear f i F B;go_in;go_upto_region 1 with fail
    go_region_held3 (λw'=>w'.cell? ⟨R,0,none⟩=some (.pointer<|some ⟨T,0,none⟩)/\w'.cell? ⟨nk,4,none⟩=some (.string i8.y.x)) (exact⟨c0,n4⟩)
     (first|(go_at_call 119;refine(s _ jC).mono ?_;rintro e G ⟨rfl,rfl⟩;dsimp only))
    go_upto_region 5 with fail
    go_region_held3 (λw'=>w'.cell? ⟨R,1,none⟩=some (.string v.n.t)/\w'.cell? ⟨R,2,none⟩=some (.string v.n.x)/\w'.cell? ⟨R,3,none⟩=some (.int .i64 v.n.v)/\w'.cell? ⟨R,4,none⟩=some (.slice v.pa v.pn v.pc)/\w'.cell? ⟨R,5,none⟩=some (.pointer v.vg)/\w'.cell? ⟨R,6,none⟩=some (.slice v.ba v.bn v.bc)/\w'.cell? ⟨nk,7,none⟩=some (.string i8.c.x)) (first|exact D|exact u)
     (first|(go_at_call 179;refine(q _ bR.drew.drew).mono ?_;rintro e G ⟨rfl,z⟩;have a:=(Below.refl w.heap.size w).drew.drew.trans z;have u:=D.below K A a ;dsimp only))
    have c:=O.below a;obtain⟨X,cO,g,cg,eS,a8,k1,hg,k2,a9,aA,_⟩:=c.st.get V W;obtain⟨⟨d0,_,_,_,_,_,_,d7,d8,d9⟩,⟨_,_,_,_,_,_,_,_,_,g9⟩⟩:=kju c.e;rw[eS]at d8;have a4:=(a.cell (p:=⟨nk,7,none⟩) A).trans n7;go_upto_region 8 with fail
    go_region_held3 (λw'=>w'.cell? ⟨R,8,none⟩=some (.slice (some ⟨X,0,none⟩) S.length cO)/\w'.cell? ⟨R,0,none⟩=some (.pointer<|some ⟨T,0,none⟩)/\w'.cell? ⟨nk,7,none⟩=some (.string i8.c.x)/\w'.cell? ⟨X,vk,none⟩=some (.slice (some ⟨g,0,none⟩) y.length cg)/\w'.cell? ⟨g,0,none⟩=some (.int .i64 j)) (exact⟨d8,d0,a4,k1,k2⟩)
     (first|(go_at_call 119;refine(H _ a.drew).mono ?_;rintro e wy ⟨rfl,rfl⟩;dsimp only))
    have U:=c.below bR.drew;by_cases M:j<0
    ·go_wp2;go_ret2;exact⟨rfl,c.xz.below bR.drew⟩
    ·go_wp2;go_ret2;exact⟨rfl,by rw[show decide (j<0)=false by simp_all,Qg];exact U⟩
   ·rw[Xy F]at f;cases f
end
section
variable {w0 w w':World} {T R:Nat} {t:PTree} {l:List PP} {ms:List Int} {v:WV} {gs:List (Nat×Nat)} {S:List (List Int)} {b:Bool}
def vvh(t:PTree)(l:List PP)(ms:List Int)(S:List (List Int))(n i:Tok):Option (Int×Bool):=
 if 0<=zx (pq l) n.x.toList then (ms[(zx (pq l) n.x.toList).toNat]?).map λj=>(j,false)
 else if 0<=(kjj t.p n.x.toList).2 then some ((kjj t.p n.x.toList).2,false)
 else (vqj t l ms S n i).bind λr=>if r.1.2<0 then some (0,r.2) else if 0<=r.1.1 then ((S[r.1.1.toNat]?).bind λy=>y[r.1.2.toNat]?).map λj=>(j,r.2) else none
theorem Cx.arg(b:Cx w0 T t l ms v)(hb:oq w0 w)(d:ms[k]?=some j):∃g,v.aa=some ⟨g,0,none⟩/\v.an=ms.length/\g<w.heap.size/\w.cell? ⟨g,k,none⟩=some (.int .i64 j)/\k<ms.length:=by obtain⟨f,rfl⟩:=rY.1 d;obtain⟨a,c,e,hv⟩:=qp<|qj b.args hb;grind
theorem vwp(d:Cx w0 T t l ms v)(h:Wk w0 T R v gs w S b)(hN:w0.heap[nk]?=some (.cells (kww i8 va vb) 242 (0,0))){C:Int×Bool}(a:vvh t l ms S i8.y i8.c=some C):Calls prog 180 #[.pointer (some ⟨R,0,none⟩),.pointer (some ⟨nk,0,none⟩)] w λe w'=>e=.returned (.int .i64 C.1)/\Wk w0 T R v gs w' S (b||C.2):=by
 have c:=h.D;have H:=(c.block nk<|wQ hN).trans hN;obtain⟨⟨n0,n1,n2,n3,n4,n5,n6,n7,n8,n9⟩,_⟩:=kju H;obtain⟨⟨c0,c1,c2,c3,c4,c5,c6,c7,c8,c9⟩,_⟩:=kju h.e;have u:nk<w.heap.size:=sV (wQ hN) c.size;have D:=show Rl7 R nk 4 v i8.y.x w from⟨c1,c2,c3,c4,c5,c6,n4⟩
 have s:=λ(wx:World)(B:oq w wx)=>qkx v.n v.vg v.ba v.bn v.bc i8.y.x (qj (qj d.pars c) B) d.kqq
 have F:=λ(wx:World)(B:oq w wx)=>zjh i8.y.x ((d.tree.below c).below B) d.ok.p d.ok.i
 unfold vvh at a;generalize kjj t.p i8.y.x.toList=P at a F;obtain⟨m1,O⟩:=P;generalize zx (pq l) i8.y.x.toList=Q at a s;go_in;go_upto_region 1 with fail
 go_region_held3 (λw'=>w'.cell? ⟨R,1,none⟩=some (.string v.n.t)/\w'.cell? ⟨R,2,none⟩=some (.string v.n.x)/\w'.cell? ⟨R,3,none⟩=some (.int .i64 v.n.v)/\w'.cell? ⟨R,4,none⟩=some (.slice v.pa v.pn v.pc)/\w'.cell? ⟨R,5,none⟩=some (.pointer v.vg)/\w'.cell? ⟨R,6,none⟩=some (.slice v.ba v.bn v.bc)/\w'.cell? ⟨nk,4,none⟩=some (.string i8.y.x)) (first|exact D|exact E)
  (first|(go_at_call 179;refine(s _ bR.drew).mono ?_;rintro e wz ⟨rfl,I⟩;have f:=(Below.refl w.heap.size w).drew.trans I;have E:=D.below (wQ h.e) u f;dsimp only))
 have k:=h.below f;obtain⟨⟨d0,_,_,_,_,_,_,d7,d8,d9⟩,_⟩:=kju k.e;go_upto_region 2 with fail
 go_region_held3 (λw'=>w'.cell? ⟨R,0,none⟩=some (.pointer<|some ⟨T,0,none⟩)/\w'.cell? ⟨nk,4,none⟩=some (.string i8.y.x)) (exact⟨d0,((f.cell (p:=⟨nk,4,none⟩) u).trans n4)⟩)
  (first|(go_at_call 178;refine(F _ f.drew).mono ?_;rintro e wy ⟨rfl,rfl⟩;dsimp only))
 have G:=k.below bR.drew;by_cases K:0<=Q
 ·rw[lJ K]at a;obtain⟨j,A,rfl⟩:=wX.1 a;obtain⟨g,e1,e2,N,hc,m⟩:=d.arg k.D A;go_wp2;go_ret;simp_all
 ·rw[Xy K]at a;by_cases J:0<=O
  ·rw[lJ J]at a;injection a with a;subst a;go_wp2
   go_ret;simp_all
  ·rw[Xy J]at a;obtain⟨⟨⟨U,L⟩,qb⟩,m,a⟩:=wu.1 a;go_wp21;refine((λ(q:(Int×Int)×Bool) (m:vqj t l ms S i8.y i8.c=some q) (wx:World) (i:Wk w0 T R v gs wx S b)=>jjp d i hN m) _ m _ G).mono ?_;rintro e wx ⟨rfl,i⟩;by_cases hi:L<0
   ·rw[lJ hi]at a;injection a with a;subst a;go_wp2
    go_ret;simp_all
   ·rw[Xy hi]at a;by_cases hv:0<=U
    ·rw[lJ hv]at a;obtain⟨j,A,rfl⟩:=wX.1 a;obtain⟨y,x,z⟩:=wu.1 A;obtain⟨kv,rfl⟩:=sG hv;obtain⟨ki,rfl⟩:=sG (by omega:0<=L);rw[tX]at x z;obtain⟨gO,Y,g,Z,M,V,k1,N,k2,W,X,_⟩:=i.st.get x z;obtain⟨⟨_,_,_,_,_,_,_,_,b8,_⟩,_⟩:=kju i.e;rw[M]at b8;go_wp2;go_ret;simp_all
    simp_all
end
theorem kyf{j2:Bool}:Calls prog 181 #[.bool j2] w λe w'=>e=.returned (.int .i64 (kvq j2))/\w'=w:=by
 cases j2;all_goals
  go_wp2;go_ret;exact⟨rfl,rfl⟩
def opI(o:List UInt8)(a b:Int):Int:=
 if o==[33] then kvq (a==0) else if o==[38] then kvq ((a==1)&&(b==1)) else if o==[124] then kvq ((a==1)||(b==1)) else if o==[43] then a+b else if o==[45] then a-b else if o==[60] then kvq (decide (a<b)) else if o==[61,61] then kvq (a==b) else kvq (!(a==b))
def opR(t:PTree)(l:List PP)(ms:List Int)(S:List (List Int))(x:ELab)(p q:Int×Bool):Option (Int×Bool):=
 if x.op.toList==nJ then some (1,p.2||q.2) else if x.op.toList==nZ then some (0,p.2||q.2) else if x.op.toList==mG then some (-1,p.2||q.2) else if x.op.toList==mW then some (x.n,p.2||q.2)
 else if x.op.toList==ng then (vvh t l ms S x.y x.c).map λr=>(r.1,(p.2||q.2)||r.2)
 else (small p.1).bind λ_=>(small q.1).map λ_=>(opI x.op.toList p.1 q.1,p.2||q.2)
def zqy(t:PTree)(l:List PP)(ms:List Int)(S:List (List Int)):PX->Option (Int×Bool)
 |.nil=>some (0,false)
 |.node _ _ x a c=>(zqy t l ms S a).bind λp=>(zqy t l ms S c).bind λq=>opR t l ms S x p q
def zxt(x:PX):Prop:=∀{w0 w:World} {T R:Nat} {t:PTree} {l:List PP} {ms:List Int} {v:WV} {gs:List (Nat×Nat)} {S:List (List Int)} {b:Bool} (lo k:Nat),Cx w0 T t l ms v->Wk w0 T R v gs w S b->yw lo w0 x (.pointer (some ⟨k,0,none⟩))->∀r:Int×Bool,zqy t l ms S x=some r ->
  Calls prog 124 #[.pointer (some ⟨R,0,none⟩),.pointer (some ⟨k,0,none⟩)] w λe w'=>e=.returned (.int .i64 r.1)/\Wk w0 T R v gs w' S (b||r.2)
theorem vj7(h:small j=some y):-1000000000<=j/\j<=1000000000:=by grind [small]
theorem vq8(i j:Nat)(x:ELab){L M:PX}(a3:zxt L)(a4:zxt M):zxt (.node i j x L M):=by
 intro w0 w T R t l ms v gs S b lo k W V hN r a;obtain⟨k',va,vb,e,_,s,J,K⟩:=hN;injection e with e;injection e with e;rw[Addr.mk.injEq]at e;obtain⟨rfl,_⟩:=e;rw[zqy]at a;obtain⟨⟨c,O⟩,B,a⟩:=wu.1 a;obtain⟨⟨d,Z⟩,Y,a⟩:=wu.1 a;have HA:=λ(wx:World) (D:Bool) (G:Wk w0 T R v gs wx S D) (g:Nat) (hn:yw lo w0 L (.pointer<|some ⟨g,0,none⟩))=>a3 lo g W G hn _ B
 have HC:=λ(wx:World) (D:Bool) (G:Wk w0 T R v gs wx S D) (g:Nat) (hn:yw lo w0 M (.pointer<|some ⟨g,0,none⟩))=>a4 lo g W G hn _ Y
 have P:=λ(wx:World)(D:Bool)(G:Wk w0 T R v gs wx S D)(r:Int×Bool)(a:vvh t l ms S x.y x.c=some r)=>vwp W G s a
 obtain⟨pa,rfl⟩:=J.ptr;obtain⟨pc,rfl⟩:=K.ptr;obtain⟨HP,HQ⟩:=ju B Y;have E:=(V.D.block k<|wQ s).trans s;unfold kww at E;have n0:=kju E;clear E B Y;go_in;go_upto_if 11 with fail
 go_cut [5] from 12 to 17 (λy wx=>y=.int .i64 c/\Wk w0 T R v gs wx S (b||O))
 case first=>
  cases L with
  |nil=>
   have u:pa=none:=by have:Value.pointer pa=.pointer none:=J;simp_all
   have z:(0,false)=(c,O):=by have:=HP;rw[zqy]at this;injection this
   injection z with z X;subst u;subst z;subst X;go_wp21
   go_meet
   exact⟨rfl,by rw[Qg];exact V⟩
  |node i' j' x' a' c'=>
   obtain⟨g,u⟩:∃g,pa=some ⟨g,0,none⟩:=by obtain⟨g,_,_,e,_⟩:=J;simp_all
   subst u;have p:=HA w b V g J;go_wp21;refine p.mono ?_;rintro e w1 ⟨rfl,H1⟩;go_wp21;go_meet
   simp_all
 case rest=>
 obtain⟨rfl,Q⟩:=hcut;obtain⟨wA,F⟩:=cpy wc;subst F;have m:=(Q.D.block k<|wQ s).trans s;unfold kww at m;clear n0;have n0:=kju m;clear m;go_upto_if 22 with fail
 go_cut [6] from 23 to 28 (λy wx=>y=.int .i64 d/\Wk w0 T R v gs wx S ((b||O)||Z))
 case first=>
  cases M with
  |nil=>
   have u:pc=none:=by have:Value.pointer pc=.pointer none:=K;simp_all
   have z:(0,false)=(d,Z):=by have:=HQ;rw[zqy]at this;injection this
   injection z with z X;subst u;subst z;subst X;go_wp21
   go_meet
   simp_all
  |node i' j' x' a' c'=>
   obtain⟨g,u⟩:∃g,pc=some ⟨g,0,none⟩:=by obtain⟨g,_,_,e,_⟩:=K;simp_all
   subst u;have p:=HC wA _ Q g K;go_wp21;refine p.mono ?_;rintro e w1 ⟨rfl,H1⟩;go_wp21;go_meet
   simp_all
 case rest=>
 obtain⟨rfl,a0⟩:=hcut;obtain⟨wC,F⟩:=cpy wc;subst F;have m:=(a0.D.block k<|wQ s).trans s;unfold kww at m;have h:=show Wk w0 T R v gs wC S (b||(O||Z)) by grind
 clear n0;have n0:=kju m;clear m HA HC;unfold opR at a;dsimp only at a;cases o0:(x.op.toList==nJ)
 case true=>
  rw[o0,lJ rfl]at a;injection a with a;subst a;go_wp2
  go_ret;simp_all
 case false=>
 rw[o0,Xy ay]at a;cases o1:(x.op.toList==nZ)
 case true=>
  rw[o1,lJ rfl]at a;injection a with a;subst a;go_wp2
  go_ret;simp_all
 case false=>
 rw[o1,Xy ay]at a;cases o2:(x.op.toList==mG)
 case true=>
  rw[o2,lJ rfl]at a;injection a with a;subst a;go_wp2
  go_ret;simp_all
 case false=>
 rw[o2,Xy ay]at a;cases o3:(x.op.toList==mW)
 case true=>
  rw[o3,lJ rfl]at a;injection a with a;subst a;go_wp2
  go_ret;simp_all
 case false=>
 rw[o3,Xy ay]at a;cases o4:(x.op.toList==ng)
 case true=>
  rw[o4,lJ rfl]at a;obtain⟨⟨r1,r2⟩,B,rfl⟩:=wX.1 a;have p:=P wC _ h _ B;clear B a;go_wp21;refine p.mono ?_;rintro e w1 ⟨rfl,H1⟩;go_wp2;go_ret;simp_all [Bool.or_assoc]
 case false=>
 rw[o4,Xy ay]at a;obtain⟨_,s1,a⟩:=wu.1 a;obtain⟨_,s2,a⟩:=wX.1 a;have b1:=vj7 s1;have b2:=vj7 s2;subst a;clear s1 s2 P;cases q:(x.op.toList==[33])
 case true=>
  have f:=oz (by simp[opI,q]:opI x.op.toList c d=kvq (c==0));go_wp2_with (go_at_call 181;refine(kyf).mono ?_;rintro e w' ⟨rfl,rfl⟩)
  go_wp2;all_goals
   go_ret;exact⟨kqi (by rw[f];try simp),h⟩
 case false=>
 cases A:(x.op.toList==[38])
 case true=>
  have f:=oz (by simp[opI,q,A]:opI x.op.toList c d=kvq ((c==1)&&(d==1)));cases a1:(c==1)<;>cases a2:(d==1);all_goals
   go_wp2_with (go_at_call 181;refine(kyf).mono ?_;rintro e w' ⟨rfl,rfl⟩)
   go_wp2;all_goals
    go_ret;exact⟨kqi (by rw[f,a1,a2];rfl),h⟩
 case false=>
 cases C:(x.op.toList==[124])
 case true=>
  have f:=oz (by simp[opI,q,A,C]:opI x.op.toList c d=kvq ((c==1)||(d==1)));cases a1:(c==1)<;>cases a2:(d==1);all_goals
   go_wp2_with (go_at_call 181;refine(kyf).mono ?_;rintro e w' ⟨rfl,rfl⟩)
   go_wp2;all_goals
    go_ret;exact⟨kqi (by rw[f,a1,a2];rfl),h⟩
 case false=>
 cases I:(x.op.toList==[43])
 case true=>
  have f:=oz (by simp[opI,q,A,C,I]:opI x.op.toList c d=c+d);go_wp2;go_ret;exact⟨kqi (by rw[f]),h⟩
 case false=>
 cases N:(x.op.toList==[45])
 case true=>
  have f:=oz (by simp[opI,q,A,C,I,N]:opI x.op.toList c d=c-d);go_wp2;go_ret;exact⟨kqi (by rw[f]),h⟩
 case false=>
 cases H:(x.op.toList==[60])
 case true=>
  have f:=oz (by simp[opI,q,A,C,I,N,H]:opI x.op.toList c d=kvq (decide (c<d)));go_wp2_with (go_at_call 181;refine(kyf).mono ?_;rintro e w' ⟨rfl,rfl⟩)
  go_wp2;all_goals
   go_ret;exact⟨kqi (by rw[f];try simp),h⟩
 case false=>
 cases U:(x.op.toList==[61,61])
 case true=>
  have f:=oz (by simp[opI,q,A,C,I,N,H,U]:opI x.op.toList c d=kvq (c==d));go_wp2_with (go_at_call 181;refine(kyf).mono ?_;rintro e w' ⟨rfl,rfl⟩)
  go_wp2;all_goals
   go_ret;exact⟨kqi (by rw[f];try simp),h⟩
 case false=>
 have f:=oz (by simp[opI,q,A,C,I,N,H,U]:opI x.op.toList c d=kvq (!(c==d)));go_wp2_with (go_at_call 181;refine(kyf).mono ?_;rintro e w' ⟨rfl,rfl⟩)
 go_wp2;all_goals
  go_ret;exact⟨kqi (by rw[f];rfl),h⟩
theorem kyg:∀x:PX,zxt x
 |.nil=>λlo k _ _ hN=>by
  have:Value.pointer (some ⟨k,0,none⟩)=.pointer none:=hN;cases this
 |.node i j x a c=>vq8 i j x (kyg a)<|kyg c
section
variable {w0 w w':World} {T R:Nat} {t:PTree} {l:List PP} {ms:List Int} {v:WV} {gs:List (Nat×Nat)} {S:List (List Int)} {b:Bool}
theorem jj0(h:w.ownsRow lo B 1 (.slice (some ⟨g,0,none⟩) n c) n xs):∃cs,w.heap[g]?=some (.cells cs B (0,0)):=by
 obtain⟨a,_⟩|⟨b,cap,cur,a,_,d,_⟩:=h.2
 ·cases a
 simp_all
theorem StA.set{v:Value}{l:List Int}(h:StA B w v S gs)(p:S[k]?=some l)(c:k<gs.length)(n:Int):StA B (w.setCell ⟨gs[k].1,i,none⟩ (.int .i64 n)) v (S.set k (l.set i n)) gs:=by
 obtain⟨a,rfl⟩:=rY.1 p;obtain⟨cs,m⟩:=jj0<|h.rows k a c;refine⟨?_,by rw[Jq];exact h.T,h.apart,?_⟩
 ·have e:List.zipWith rwV gs (S.set k<|S[k].set i n)=List.zipWith rwV gs S:=by apply Jm;grind [rwV]
  rw[e,Jq];exact ownsRow_setCell_other h.out (not_row h.out m ak).symm _
 ·intro j q d;have f:j<S.length:=by simp_all
  by_cases e:k=j
  ·subst e;have:=jkd (h.rows k a c) i<|.int .i64 n;grind [rwV,List.map_set]
  ·have g:(S.set k<|S[k].set i n)[j]=S[j]:=by simp_all
   rw[g];refine ownsRow_setCell_other (h.rows j f d) ?_ _;unfold rwV;simp only[Value.ownBlock];intro b;injection b with b;have s:=sQ.1 h.apart;grind
theorem StA.frz{v:Value}(h:StA B w v S gs)(c:k<S.length)(a:k<gs.length):w.frozen? ⟨gs[k].1,i,none⟩=false:=by obtain⟨cs,b⟩:=jj0<|h.rows k c a;exact Zt w _ i _ _ b
theorem StA.ge{v:Value}(h:StA B w v S gs)(b:k<S.length)(a:k<gs.length)(hn:0<S[k].length):B<=gs[k].1:=by obtain⟨g,c,e,h1,_⟩:=qkw (h.rows k b a) hn;injection e with e;simp_all
theorem Wk.set{l:List Int}(h:Wk w0 T R v gs w S b)(d:S[k]?=some l)(hi:i<l.length)(c:k<gs.length)(n:Int):Wk w0 T R v gs (w.setCell ⟨gs[k].1,i,none⟩ (.int .i64 n)) (S.set k (l.set i n)) b:=by
 obtain⟨a,rfl⟩:=rY.1 d;obtain⟨cs,g⟩:=jj0<|h.st.rows k a c;refine⟨h.D.setCell (h.st.ge a c aj) _,h.big,?_,h.st.set d c n⟩;rw[jz ?_]
 ·exact h.e
 ·show R≠gs[k].1;intro e;have f:=h.e;simp_all
def kky(u:PVar)(n:Int):Bool:=(u.R.t.toList==mW)&&(decide (n<0)||decide (mg u.R.x<n))
def vyj(t:PTree)(l:List PP)(ms:List Int)(S:List (List Int))(a:SLab):Option (List (List Int)×Bool):=
 match a.N with
 |.nil=>none
 |.node _ _ px _ _=>if isNil a.value||!(isNil a.A) then none else (zqy t l ms S a.value).bind λp=>(vqj t l ms S px.y px.c).bind λq=>if q.1.1<0 then none else (t.z[q.1.1.toNat]?).bind λu=>
  if (p.2||q.2)||kky u p.1 then some (S,true) else (S[q.1.1.toNat]?).bind λy=>if decide (q.1.2<0)||decide ((y.length:Int)<=q.1.2) then none else some (S.set q.1.1.toNat<|y.set q.1.2.toNat p.1,false)
def doR(t:PTree)(l:List PP)(ms:List Int):PB->List (List Int)->Option (List (List Int)×Bool)
 |.nil,S=>some (S,false)
 |.node _ _ a .nil n,S=>(vyj t l ms S a).bind λp=>if p.2 then some p else doR t l ms n p.1
 |.node _ _ a (.node _ _ _ th el) n,S=>if isNil a.A then none else (zqy t l ms S a.A).bind λc=>if c.2 then some (S,true) else (if c.1==1 then doR t l ms th S else doR t l ms el S).bind λp=>if p.2 then some p else doR t l ms n p.1
end
end Go.Proofs.YtpmcnonmkghokaaGreatDoor

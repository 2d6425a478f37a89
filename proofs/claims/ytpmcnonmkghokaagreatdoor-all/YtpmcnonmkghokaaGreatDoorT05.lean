import Derived.Test.YtpmcnonmkghokaaGreatDoorT04
import Derived.Test.YtpmcnonmkghokaaGreatDoorT00
import Derived.RegionTactic
import Derived.OrdersHeld
import Derived.WalkKit
import Derived.Test.YtpmcnonmkghokaaGreatDoorT01
import Derived.Deep.AppendLies
import Derived.Lib.SliceRun
import Derived.Shelf.Strings.OnBuilder
import Derived.Test.YtpmcnonmkghokaaGreatDoorRows
import Derived.Lib.Builder
import Derived.Lib.AppendStr
import Derived.Lib.UnsafeStr
import Derived.Laws.Externs
set_option maxRecDepth 100000
set_option maxHeartbeats 8000000
set_option linter.unusedVariables false
set_option linter.unusedSimpArgs false
namespace Go.Proofs.YtpmcnonmkghokaaGreatDoor
open Go.Proofs.Tryz Go.RowKit
attribute [local go_sem ↓] Go.wp_at_zero Go.wp_at_succ
variable {a a':Act}{listed:Array Bool}{a7:Array Value}{b7:ByteArray}{ls r:List (List Int)}{ms sets st:List Int}{nevers:List MNever}{l steps:List MStep}{vars:List MVar}{D bad rs:List Nat}{e8:List PP}{b9:List UInt8}{bs cs ds xs:List Value}{b5:MNever}{s:MStep}{u:MVar}{m:MdL}{B M R b c c0 c1 c2 c3 c4 fuel gcap gg i j k lo mc mn mo n n0 n1 n2 n3 n4 nb pc pn sc size sn so tc:Nat}{fr:Nat×Nat}{o:Obj}{oi:Oper}{a0 a1 a2 a3 a4 gp ma pa sa ta:Option Addr}{x:Option Nat}{rl:PRule}{t:TypeId}{nv pv sv tv vv x0 x1 x2 x3 x4 x5 xv y3:Value}{d8:VrT}{w w' w3 w4:World}{a8 tab:kq3}
structure Tk (x:Option Nat)(bad:List Nat)(w w':World):Prop where
 os:w'.os=w.os
 tape:w'.tape=w.tape
 output:w'.output=w.output
 size:w.heap.size<=w'.heap.size
 block:∀k o,w.heap[k]?=some o->x≠some k->(∀cs e fr,o=.cells cs e fr->e∉bad)->w'.heap[k]?=some o
theorem Tk.refl(x:Option Nat)(bad:List Nat)(w:World):Tk x bad w w:=⟨rfl,rfl,rfl,jV,λ_ _ h _ _=>h⟩
theorem Tk.trans{b:World}(h:Tk x bad w b)(k:Tk x bad b w'):Tk x bad w w':=
 ⟨k.os.trans h.os,k.tape.trans h.tape,k.output.trans h.output,rP h.size k.size,λi o h1 d e=>k.block i o (h.block i o h1 d e) d e⟩
theorem Tk.wide{bad':List Nat}(h:Tk x bad w w')(k:∀e∈bad,e∈bad'):Tk x bad' w w':=
 ⟨h.os,h.tape,h.output,h.size,λi o h1 d f=>h.block i o h1 d λcs e fr g j=>f cs e fr g<|k e j⟩
theorem Tk.any(h:Tk none bad w w')(x:Option Nat):Tk x bad w w':=
 ⟨h.os,h.tape,h.output,h.size,λi o h1 _ d=>h.block i o h1 ay d⟩
theorem yt(h:oq w w')(x:Option Nat)(bad:List Nat):Tk x bad w w':=
 ⟨h.os,h.tape,h.output,h.size,λi o h1 _ _=>(h.block i<|wQ h1).trans h1⟩
theorem kz4(hv:w.ownsRow lo M size vv n xs)(e:w.grownBy w' vv.ownBlock)(j:M∈bad):Tk x bad w w':=
 ⟨e.os,e.tape,e.output,e.size,λi o h1 _ h=>by
  rw[e.block i (wQ h1) (λd=>?_)]
  ·exact h1
  ·obtain⟨f,_⟩|⟨g,cap,cur,f,_,e3,_⟩:=hv.2
   ·rw[f]at d;cases d
   ·rw[f]at d;injection d with d;grind⟩
theorem qqa(hM:w.heap[M]?=some (.cells a7 lo fr))(e:lo∈bad)(j:Nat)(v:Value):Tk x bad w (w.setCell (Ad M j) v):=
 ⟨rfl,rfl,rfl,ay,λi o h1 _ d=>by grind [Below.heap_setCell]⟩
theorem Tk.alloc{a:World}(h:Tk x bad a w)(o:Obj):Tk x bad a (w.alloc o):=h.trans<|yt (jZ w (o:=o)) x bad
theorem Tk.e(h:Tk x bad w w')(hb:w.heap[b]?=some (.cells a7 lo fr))(d:x≠some b)(i:lo∉bad):w'.heap[b]?=some (.cells a7 lo fr):=
 h.block b _ hb d λcs' f e g j=>by simp_all
def pz(w:World)(x:Option Nat):Prop:=∀k cs e fr,x=some k->w.heap[k]?≠some (.cells cs e fr)
theorem pz.none(w:World):pz w none:=λ_ _ _ _ e=>mZ
theorem kkd.no(h:kkd w b a8):pz w (some b):=λk cs e fr d h1=>by injection d with d;subst d;have⟨⟨es,c,f,_⟩,_⟩:=h;simp_all
theorem jq(h:w.ownsRow lo M size vv n xs)(j:Tk x bad w w')(k:pz w x)(i:M∉bad):w'.ownsRow lo M size vv n xs:=by
 refine⟨h.1,?_⟩;obtain l|⟨g,cap,cur,d,e,e3,f⟩:=h.2
 ·simp_all
 ·exact .inr ⟨g,cap,cur,d,e,j.e e3 (λe5=>k _ _ _ _ e5 e3) i,f⟩
theorem XIs.tk(f:Tk x bad w w')(g:pz w x)(d:358∉bad):∀{y:PX}{v:Value},XIs lo w y v->XIs lo w' y v
 |.nil,_,h=>h
 |.node _ _ _ _ _,_,⟨k,va,vb,e,hn,hh,ha,hb⟩=>⟨k,va,vb,e,hn,f.e hh (λe5=>g _ _ _ _ e5 hh) d,ha.tk f g d,hb.tk f g d⟩
theorem BIs.tk{b4:Option Nat}(f:Tk x bad w w')(g:pz w x)(i:358∉bad)(d:334∉bad):∀{b:PB}{xs:List Value},BIs lo b4 w b xs->BIs lo b4 w' b xs
 |.nil,_,h=>h
 |.node _ _ a .nil n,cs,⟨p,rest,e,h1,hn⟩=>⟨p,rest,e,h1.tk f g i,BIs.tk f g i d hn⟩
 |.node _ _ a (.node _ _ _ t e) n,cs,⟨p,ta,tn,tc,ea,en,ec,ct,ce,rest,e1,h1,⟨ht1,ht3,ht2⟩,⟨he1,he3,hee2⟩,hn⟩=>
  ⟨p,ta,tn,tc,ea,en,ec,ct,ce,rest,e1,h1.tk f g i,⟨jq ht1 f g d,ht3,BIs.tk f g i d ht2⟩,⟨jq he1 f g d,he3,BIs.tk f g i d hee2⟩,BIs.tk f g i d hn⟩
theorem kvp.tk(f:Tk x bad w w')(g:pz w x)(d:107∉bad):∀{ks:List PKind}{cs:List Value},kvp lo w ks cs->kvp lo w' ks cs
 |[],_,h=>h
 |k::ks,_,⟨ma,mn,mc,rest,e,h1,h2⟩=>⟨ma,mn,mc,rest,e,jq h1 f g d,kvp.tk f g d h2⟩
def qvw:List Nat:=[111,114,107,121,127,130,352,334,358]
theorem kvy.tk(f:Tk x bad w w')(g:pz w x)(d:∀e∈qvw,e∉bad):∀{rs:List PRule}{cs:List Value},kvy lo w rs cs->kvy lo w' rs cs
 |[],_,h=>h
 |r::rs,_,⟨pa,pn,pc,gp,ba,bn,bc,bcs,rest,e,h1,h2,h3,h4,h5⟩=>⟨pa,pn,pc,gp,ba,bn,bc,bcs,rest,e,jq h1 f g<|d _ ak,h2.tk f g<|d _ ak,jq h3 f g<|d _ ak,h4.tk f g (d _ ak)<|d _ ak,kvy.tk f g d h5⟩
theorem kvg.tk(f:Tk x bad w w')(g:pz w x)(d:∀e∈qvw,e∉bad):∀{rs:List PRule}{cs:List Value},kvg lo w rs cs->kvg lo w' rs cs
 |[],_,h=>h
 |r::rs,_,⟨pa,pn,pc,gp,rest,e,h1,h2,h5⟩=>⟨pa,pn,pc,gp,rest,e,jq h1 f g<|d _ ak,h2.tk f g<|d _ ak,kvg.tk f g d h5⟩
theorem kwm.tk(h:kwm lo w x0 x1 x2 x3 x4 m)(f:Tk x bad w w')(g:pz w x)(d:∀e∈qvw,e∉bad):kwm lo w' x0 x1 x2 x3 x4 m:=by have⟨i,⟨c1,h1,k1⟩,j,⟨c3,k,k3⟩,⟨c4,l,k4⟩⟩:=h;exact⟨jq i f g<|d _ ak,⟨c1,jq h1 f g<|d _ ak,k1.tk f g<|d _ ak⟩,jq j f g<|d _ ak,⟨c3,jq k f g<|d _ ak,k3.tk f g d⟩,⟨c4,jq l f g<|d _ ak,k4.tk f g d⟩⟩
theorem qki.tk(f:Tk x bad w w')(g:pz w x)(d:9∉bad):∀{vs:List MVar}{cs:List Value},qki lo w vs cs->qki lo w' vs cs
 |[],_,h=>h
 |v::vs,cs,⟨ta,tc,rest,e,h1,h2⟩=>⟨ta,tc,rest,e,jq h1 f g d,qki.tk f g d h2⟩
theorem qki.app:∀{vs us:List MVar}{cs ds:List Value},qki lo w vs cs->qki lo w us ds->qki lo w (vs++us) (cs++ds)
 |[],_,cs,ds,h,h'=>by
  have:cs=[]:=h;simp_all
 |v::vs,_,cs,ds,⟨ta,tc,rest,e,h1,h2⟩,h'=>⟨ta,tc,rest++ds,by simp_all,h1,h2.app h'⟩
theorem kkd.tk(h:kkd w b a8)(g:Tk x bad w w')(i:x≠some b):kkd w' b a8:=by have⟨⟨es,c,h1,d⟩,f⟩:=h;exact⟨⟨es,c,g.block b _ h1 i (λ_ _ _ e=>mZ),d⟩,f⟩
theorem zz2.tk(h:zz2 lo so w M s cs)(f:Tk x bad w w')(g:pz w x)(d:∀e∈qvw,e∉bad)(hi:3∉bad):zz2 lo so w' M s cs:=by have⟨pa,pn,pc,ma,mn,mc,p,ba,bn,bc,bs,no,e,h1,i,j,k,l⟩:=h;exact⟨pa,pn,pc,ma,mn,mc,p,ba,bn,bc,bs,no,e,jq h1 f g<|d _ ak,jq i f g hi,j.tk f g<|d _ ak,jq k f g<|d _ ak,l.tk f g (d _ ak)<|d _ ak⟩
theorem qqx.tk(h:qqx lo so w M l cs)(f:Tk x bad w w')(i:pz w x)(d:∀e∈qvw,e∉bad)(hi:3∉bad):qqx lo so w' M l cs:=
 ⟨h.1,λk g=>(h.2 k g).tk f i d hi⟩
theorem qqx.snoc(h:qqx lo so w M l cs)(i:zz2 lo so w M s ds)(e:ds.length=6):qqx lo so w M (l++[s]) (cs++ds):=by
 refine⟨by simp[h.1,e];omega,λk g=>?_⟩;by_cases d:k<l.length
 ·have f:=h.1;rw[Jl aj,Jv (by grind),Qn d];exact h.2 k d
 ·have:k=l.length:=by grind
  subst this;rw[<-h.1,J4,Q9 aj];simp_all
def jzn(lo so:Nat)(w:World)(M:Nat)(s:MNever)(cs:List Value):Prop:=
 ∃pa pn pc ma mn mc p,cs=[.string s.x,pT M,.slice pa pn pc,.slice ma mn mc,.pointer p]/\w.ownsRow lo 352 4 (.slice pa pn pc) s.u.length (uq s.u)/\w.ownsRow lo 3 1 (.slice ma mn mc) s.xy.length (s.xy.map<|Value.int .i64)/\XIs so w s.xp (.pointer p)
theorem jzn.tk(h:jzn lo so w M b5 cs)(d:Tk x bad w w')(f:pz w x)(g:∀e∈qvw,e∉bad)(hi:3∉bad):jzn lo so w' M b5 cs:=by have⟨pa,pn,pc,ma,mn,mc,p,e,h1,i,j⟩:=h;exact⟨pa,pn,pc,ma,mn,mc,p,e,jq h1 d f<|g _ ak,jq i d f hi,j.tk d f<|g _ ak⟩
def qxn(lo so:Nat)(w:World)(M:Nat)(l:List MNever)(cs:List Value):Prop:=cs.length=l.length*5/\∀k (hk:k<l.length),jzn lo so w M l[k] ((cs.drop (k*5)).take 5)
theorem qxn.tk{b6:List MNever}(h:qxn lo so w M b6 cs)(f:Tk x bad w w')(i:pz w x)(d:∀e∈qvw,e∉bad)(hi:3∉bad):qxn lo so w' M b6 cs:=
 ⟨h.1,λk g=>(h.2 k g).tk f i d hi⟩
theorem qxn.snoc{l:List MNever}(h:qxn lo so w M l cs)(i:jzn lo so w M b5 ds)(e:ds.length=5):qxn lo so w M (l++[b5]) (cs++ds):=by
 refine⟨by simp[h.1,e];omega,λk g=>?_⟩;by_cases d:k<l.length
 ·have f:=h.1;rw[Jl aj,Jv (by grind),Qn d];exact h.2 k d
 ·have:k=l.length:=by grind
  subst this;rw[<-h.1,J4,Q9 aj];simp_all
theorem xwg(h:Rw w b #[x0,x1,x2,x3,x4,x5] t)(a:Value):Rw (w.setCell (Ad b 0) a) b #[a,x1,x2,x3,x4,x5] t:=jD b 0 _ _ _ h
theorem xwu(h:Rw w b #[x0,x1,x2,x3,x4,x5] t)(a:Value):Rw (w.setCell (Ad b 1) a) b #[x0,a,x2,x3,x4,x5] t:=jD b 1 _ _ _ h
theorem xwy(h:Rw w b #[x0,x1,x2,x3,x4,x5] t)(a:Value):Rw (w.setCell (Ad b 2) a) b #[x0,x1,a,x3,x4,x5] t:=jD b 2 _ _ _ h
theorem xxn(h:Rw w b #[x0,x1,x2,x3,x4,x5] t)(a:Value):Rw (w.setCell (Ad b 3) a) b #[x0,x1,x2,a,x4,x5] t:=jD b 3 _ _ _ h
theorem xww(h:Rw w b #[x0,x1,x2,x3,x4,x5] t)(a:Value):Rw (w.setCell (Ad b 5) a) b #[x0,x1,x2,x3,x4,a] t:=jD b 5 _ _ _ h
structure kzd (lo so:Nat)(w:World)(M nb:Nat)(steps:List MStep)(nevers:List MNever)(sets:List Int)(vars:List MVar)(tab:kq3)(size:Nat)(sv nv tv vv:Value):Prop where
 e:w.heap[M]?=some (.cells #[sv,nv,tv,vv,.map<|some nb,i_ size] 105 (0,0))
 X:∃cs,w.ownsRow lo 178 6 sv steps.length cs/\qqx 0 so w M steps cs
 q:∃cs,w.ownsRow lo 208 5 nv nevers.length cs/\qxn 0 so w M nevers cs
 j:w.ownsRow lo 3 1 tv sets.length (sets.map<|Value.int .i64)
 z:∃cs,w.ownsRow lo 213 5 vv vars.length cs/\qki 0 w vars cs
 C:kkd w nb tab
 hM:lo<=M
 hN:lo<=nb
theorem kzd.below(h:kzd lo so w M nb steps nevers sets vars tab size sv nv tv vv)(hb:oq w w'):kzd lo so w' M nb steps nevers sets vars tab size sv nv tv vv:=by have d:=yt hb none [];have e:=pz.none w;have⟨f,⟨c1,h1,k1⟩,⟨c2,g,k2⟩,i,⟨c4,j,k4⟩,k,l,h7⟩:=h;exact⟨(hb.block M<|wQ f).trans f,⟨c1,qj h1 hb,k1.tk d e ay ay⟩,⟨c2,qj g hb,k2.tk d e ay ay⟩,qj i hb,⟨c4,qj j hb,k4.tk d e ay⟩,k.tk d ay,l,h7⟩
def jym(t:ByteArray):Option Nat:=if 0<=mg t/\mg t<=9 then some (mg t).toNat else none
theorem zq8(h:jym b7=some n):mg b7=n/\n<=9:=by grind [jym]
def qzt(ss:List PSet)(s:List UInt8):Option Nat:=(kkq ss s).bind λk=>(ss[k]?).bind λx=>jym x.size.x
theorem kkx{b8:List PSet}(h:qzt b8 b9=some n):∃k x,kkq b8 b9=some k/\b8[k]?=some x/\mg x.size.x=n/\n<=9:=by unfold qzt at h;have⟨k,h1,d⟩:=wu.1 h;grind [zq8]
def vqi(ss:List PSet)(ks:List PKind)(s:SiT):Option (List ByteArray):=
 if s.I==0 then some (kvx 2)
 else if s.I==1 then (jym s.R.x).map λn=>kvx<|n+1
 else match kwe ks s.y.x.toList with
  |some k=>some (k.i.map (·.x))
  |none=>(qzt ss s.y.x.toList).map λm=>⟨#[45]⟩::kvx m
def qw4(ss:List PSet)(ks:List PKind)(sz:Nat)(v:VrT):Option MVar:=
 (if v.K then qzt ss v.g.x.toList else some 1).bind λc=>(vqi ss ks v.si).map λt=>⟨sz,c,t,kji ss v.g.x.toList,kji ss v.si.y.x.toList⟩
def mdV(a0 a1 a2 a3 a4:Option Addr)(n0 n1 n2 n3 n4 c0 c1 c2 c3 c4:Nat):Value:=.agg #[.slice a0 n0 c0,.slice a1 n1 c1,.slice a2 n2 c2,.slice a3 n3 c3,.slice a4 n4 c4]
structure MdFit (m:MdL):Prop where
 j:m.j.length<=1000
 p:m.p.length<=1000
 xy:∀x∈m.p,x.i.length<=1000
 z:m.z.length<=1000
 l:m.l.length<=1000
 q:m.q.length<=1000
theorem zyt{d6:SiT}(p:kwm lo w (.slice a0 n0 c0) (.slice a1 n1 c1) (.slice a2 n2 c2) (.slice a3 n3 c3) (.slice a4 n4 c4) m)(h:MdFit m){d7:List ByteArray}(d:vqi m.j m.p d6=some d7):og 98 #[mdV a0 a1 a2 a3 a4 n0 n1 n2 n3 n4 c0 c1 c2 c3 c4,siV d6] w λe w'=>∃v,e=.returned v/\w'.ownsRow w.heap.size 9 1 v d7.length (d7.map Value.string)/\oq w w':=by
 have⟨l,⟨y,h1,k1⟩,z,_,_⟩:=p;unfold vqi at d;cases e0:(d6.I==0)
 ·rw[e0,Xy ay]at d;cases f:(d6.I==1)
  ·rw[f,Xy ay]at d;cases g:kwe m.p d6.y.x.toList with
   |some k=>
    rw[g]at d;injection d with d;subst d;have:=zwp (mg d6.R.x) d6.R.v a0 a2 a3 a4 n0 n2 n3 n4 c0 c2 c3 c4 h1 k1 h.p h.xy e0 f g;refine this.mono ?_;rintro e w' ⟨v,rfl,q,hb⟩;exact⟨v,rfl,by rw[Ql,Jz];exact q,hb⟩
   |none=>
    rw[g]at d;obtain⟨n,hn,rfl⟩:=wX.1 d;have⟨j,x,s,t,i,u⟩:=kkx hn;have:=zyh (mg d6.R.x) d6.R.v a2 a3 a4 n2 n3 n4 c2 c3 c4 h1 k1 h.p l h.j s t i aj e0 f g;refine this.mono ?_;grind [kx1]
  ·rw[f,lJ rfl]at d;obtain⟨n,hn,rfl⟩:=wX.1 d;have⟨i,u⟩:=zq8 hn;have:=qxf w d6.I (mg d6.R.x) d6.R.v d6.y a0 a1 a2 a3 a4 n0 n1 n2 n3 n4 c0 c1 c2 c3 c4 (n+1) aj<|.inr ⟨e0,f,aj⟩;refine this.mono ?_;grind [kx1]
 ·rw[e0,lJ rfl]at d;injection d with d;subst d;have:=qxf w d6.I (mg d6.R.x) d6.R.v d6.y a0 a1 a2 a3 a4 n0 n1 n2 n3 n4 c0 c1 c2 c3 c4 2 aj (.inl<|by simp_all);refine this.mono ?_;grind [kx1]
section
section
variable {P:Program} {ops:Array Oper} {Q:Exit->Act->World->Prop} {md:Region.Mode} {S:World->Prop} {tl:List Nat}
def kxq(P:Program)(md:Region.Mode)(ops:Array Oper)(Q:Exit->Act->World->Prop)(S:World->Prop)(tl:List Nat):Nat->Array Bool->Act->World->Prop
 |0,listed,a,w=>Region.ready md ops listed=[]/\Q .normal a w
 |fuel+1,listed,a,w=>(Region.ready md ops listed=[]->Q .normal a w)/\∀i∈Region.ready md ops listed,wpOp P ops Q i (λa' w'=>(S w->i∉tl->S w')/\kxq P md ops Q S tl fuel (listed.setIfInBounds i true) a' w') a w
theorem zqb:∀(fuel:Nat)(listed:Array Bool)(a:Act)(w:World),kxq P md ops Q S tl fuel listed a w->wpAny P md ops Q fuel listed a w
 |0,_,_,_,h=>h
 |fuel+1,_,_,_,h=>⟨h.1,λi hi=>wpOp_mono (λa' w' d=>zqb fuel _ a' w' d.2)<|h.2 i hi⟩
def zv8(md:Region.Mode)(ops:Array Oper)(listed:Array Bool)(i:Nat)(D:List Nat):Bool:=
 D.all λd=>!(listed.getD d true)&&(match ops[d]? with|some o=>o.after.any (λe=>Region.binds md e&&(e.on==i||D.contains e.on))|none=>true)
theorem xq8(g:zv8 md ops listed i D=true)(hi:listed.getD i true=false)(l:j∈Region.ready md ops listed):j∉D:=by
 intro m;have h:=sJ.1 g j m;rw[rG]at h;have ⟨h1,o,p,d⟩:=mem_ready.1 l;rw[p]at h;have ⟨e,k,hb⟩:=Array.any_eq_true'.1 h.2;rw[rG,Q8,su,ZB]at hb;have s:=d e k hb.1;obtain f|f:=hb.2
 ·grind
 ·have q:=sJ.1 g _ f;grind
theorem xq7(h:zv8 md ops listed i D=true)(k:j∉D):zv8 md ops (listed.setIfInBounds j true) i D=true:=by
 refine sJ.2 λd f=>?_
 have g:j≠d:=λe=>k<|e▸f
 rw[getD_set_ne true g];exact(sJ.1 h d f)
theorem jw1(hi:ops[i]?=some oi)(C:∀(j:Nat) (o:Oper) cs b,ops[j]?=some o->o.op≠.select cs b)(J:∀c a w,Q (.panic c) (a.put oi.dst vv) w->Q (.panic c) a w)(E:∀t∈tl,t∈D):∀(fuel:Nat)(listed:Array Bool)(a:Act)(w:World),
   (∀j m,ops[j]?=some m->j≠i->listed.getD j true=false->(∀e∈m.after,Region.binds md e=true->e.on≠i)->oi.apart ops m=true) ->
   zv8 md ops listed i D=true->i∈Region.ready md ops listed->YieldsIf P ops S oi vv a->S w ->
   kxq P md ops Q S tl fuel (listed.setIfInBounds i true) (a.put oi.dst vv) w->kxq P md ops Q S tl (fuel+1) listed a w:=by
 intro fuel;induction fuel with
 |zero=>
  intro listed a w _ s y q f H;refine⟨λh=>(by simp_all),λj g=>?_⟩;by_cases d:j=i
  ·subst d;exact q.wpOp hi f ⟨λ_ _=>f,H⟩
  ·have:=ready_mono g d;rw[H.1]at this;simp_all
 |succ fuel ih=>
  intro listed a w l s y q f H;refine⟨λh=>(by simp_all),λj g=>?_⟩;by_cases d:j=i
  ·subst d;exact q.wpOp hi f ⟨λ_ _=>f,H⟩
  ·have h1:=H.2 j<|ready_mono g d;have p:=(mem_ready.1 y).1;have F:=xq8 s p g;have ⟨A,m,I,z⟩:=mem_ready.1 g;have u:∀k ok,ops[k]?=some ok->k≠i->(listed.setIfInBounds j true).getD k true=false ->
     (∀e∈ok.after,Region.binds md e=true->e.on≠i)->oi.apart ops ok=true:=λk ok B v p x=>by
    refine l k ok B v ?_ x;by_cases G:j=k
    ·simp_all
    simp_all
   grind [wpOp_mono,wpOp_putIf,xq7,ready_mono,Array.setIfInBounds_comm]
theorem vq6(hi:ops[i]?=some oi)(k:Region.noSelect ops=true)(j:Region.free md ops listed i=true)(m:(Region.ready md ops listed).contains i=true)(g:zv8 md ops listed i D=true)(d:∀t∈tl,t∈D)(e:∀c a w,Q (.panic c) (a.put oi.dst vv) w->Q (.panic c) a w)(l:YieldsIf P ops S oi vv a)(f:S w)(h:kxq P md ops Q S tl fuel (listed.setIfInBounds i true) (a.put oi.dst vv) w):kxq P md ops Q S tl (fuel+1) listed a w:=
 jw1 hi (Region.noSelect_spec k) e d fuel listed a w (Region.free_spec hi j) g (by simp_all) l f h
theorem jw0(hi:ops[i]?=some oi)(z:∀(j:Nat) (o:Oper) cs b,ops[j]?=some o->o.op≠.select cs b)(C:∀c a w,Q (.panic c) (a.put oi.dst vv) w->Q (.panic c) a w):∀(fuel:Nat)(listed:Array Bool)(a:Act)(w:World),
   (∀j l,ops[j]?=some l->j≠i->listed.getD j true=false->(∀e∈l.after,Region.binds md e=true->e.on≠i)->oi.apart ops l=true) ->
   i∈Region.ready md ops listed->YieldsIf P ops (λ_=>True) oi vv a ->
   kxq P md ops Q S tl fuel (listed.setIfInBounds i true) (a.put oi.dst vv) w->kxq P md ops Q S tl (fuel+1) listed a w:=by
 intro fuel;induction fuel with
 |zero=>
  intro listed a w _ t m H;refine⟨λh=>(by simp_all),λj g=>?_⟩;by_cases d:j=i
  ·subst d;exact m.wpOp hi trivial ⟨λh _=>h,H⟩
  ·have:=ready_mono g d;rw[H.1]at this;simp_all
 |succ fuel ih=>
  intro listed a w f t m H;refine⟨λh=>(by simp_all),λj g=>?_⟩;by_cases d:j=i
  ·subst d;exact m.wpOp hi trivial ⟨λh _=>h,H⟩
  ·have h1:=H.2 j<|ready_mono g d;have u:=(mem_ready.1 t).1;have ⟨x,l,B,v⟩:=mem_ready.1 g;have p:∀k ok,ops[k]?=some ok->k≠i->(listed.setIfInBounds j true).getD k true=false ->
     (∀e∈ok.after,Region.binds md e=true->e.on≠i)->oi.apart ops ok=true:=λk ok y q u s=>by
    refine f k ok y q ?_ s;by_cases A:j=k
    ·simp_all
    simp_all
   grind [wpOp_mono,wpOp_putIf,ready_mono,Array.setIfInBounds_comm]
theorem vq7(hi:ops[i]?=some oi)(f:Region.noSelect ops=true)(e:Region.free md ops listed i=true)(j:(Region.ready md ops listed).contains i=true)(d:∀c a w,Q (.panic c) (a.put oi.dst vv) w->Q (.panic c) a w)(g:YieldsIf P ops (λ_=>True) oi vv a)(h:kxq P md ops Q S tl fuel (listed.setIfInBounds i true) (a.put oi.dst vv) w):kxq P md ops Q S tl (fuel+1) listed a w:=
 jw0 hi (Region.noSelect_spec f) d fuel listed a w (Region.free_spec hi e) (by simp_all) g h
def kwb(P:Program)(md:Region.Mode)(ops:Array Oper)(Q:Exit->Act->World->Prop)(S:World->Prop)(tl:List Nat)(fuel:Nat)(listed:Array Bool)(a:Act)(w:World)(rs:List Nat):Prop:=
 ∀i∈rs,wpOp P ops Q i (λa' w'=>(S w->i∉tl->S w')/\kxq P md ops Q S tl fuel (listed.setIfInBounds i true) a' w') a w
theorem kwb.nil:kwb P md ops Q S tl fuel listed a w []:=λ_ h=>ig
theorem kwb.cons(l:ops[i]?=some oi)(h:∀d:Act->World->Prop,(∀a w,S w->kxq P md ops Q S tl fuel (listed.setIfInBounds i true) a w->d a w)->if Region.wanted oi (yielded ops a.tmps)=true then Oper.wp P oi a w d Q else d (a.put oi.dst undef) w)(m:kwb P md ops Q S tl fuel listed a w rs):kwb P md ops Q S tl fuel listed a w (i::rs):=λj e=>by
 obtain rfl|e:=tZ.1 e
 ·exact wpOp_step l (λd f=>h d<|λa w g k=>f a w ⟨λ_ _=>g,k⟩)
 ·exact m j e
theorem jvi(e:Region.ready md ops listed=rs)(d:rs≠[])(h:kwb P md ops Q S tl fuel listed a w rs):kxq P md ops Q S tl (fuel+1) listed a w:=⟨λf=>absurd (e▸f) d,e▸h⟩
theorem zvu:∀(fuel:Nat)(listed:Array Bool)(a:Act)(w:World),(∀j,listed.getD j true=false->j∈tl)->wpAny P md ops Q fuel listed a w->kxq P md ops Q S tl fuel listed a w
 |0,_,_,_,_,h=>h
 |fuel+1,listed,a,w,hl,h=>⟨h.1,λi hi=>wpOp_mono (λa' w' d=>⟨λ_ hn=>absurd (hl i (mem_ready.1 hi).1) hn,zvu fuel _ a' w' (λj f=>hl j (by
   by_cases e:i=j
   ·simp_all
   simp_all)) d⟩)<|h.2 i hi⟩
theorem pvw(h:((List.range listed.size).all λj=>listed.getD j true||tl.contains j)=true):∀j,listed.getD j true=false->j∈tl:=λj d=>by grind
theorem bg(d:P.follows .mixedOrders=true)(h:kxq P .any ops Q S tl ops.size (Array.replicate ops.size false) a w.drew):(Code.region lo ops true).wp P Q a w:=
 wp_region_any d (zqb _ _ _ _ h)
end
end
section
section
variable {P:Program} {ops:Array Oper} {Q:Exit->Act->World->Prop} {md:Region.Mode} {S:World->Prop} {tl:List Nat}
def waits(md:Region.Mode)(ops:Array Oper)(i:Nat):List Nat:=
 (List.range ops.size).foldl (λD d=>match ops[d]? with
  |some o=>if o.after.any (λe=>Region.binds md e&&(e.on==i||D.contains e.on)) then D++[d] else D
  |none=>D) []
def jyp(md:Region.Mode)(ops:Array Oper)(listed:Array Bool)(i:Nat):Bool:=Region.noSelect ops&&Region.free md ops listed i&&(Region.ready md ops listed).contains i
def pvk(md:Region.Mode)(ops:Array Oper)(listed:Array Bool)(tl:List Nat)(i:Nat):Bool:=jyp md ops listed i&&zv8 md ops listed i (waits md ops i)&&tl.all (waits md ops i).contains
theorem frS(i:Nat)(h:kxq P md ops Q S tl fuel (listed.setIfInBounds i true) a' w)(hi:ops[i]?=some oi:=by exact rfl)(g:Region.wanted oi (yielded ops a.tmps)=true:=by rfl)(j:∀w,(execOp a.eval oi).run P w=.ok (.value vv) w:=by intro;go_simp;try exact rfl)(f:a.put oi.dst vv=a':=by simp only[Act.put,Qy,QW,QY];try exact rfl)(d:jyp md ops listed i=true:=by kernel_rfl)(e:∀c a w,Q (.panic c) (a.put oi.dst vv) w->Q (.panic c) a w:=by exact λ_ _ _ h=>h):kxq P md ops Q S tl (fuel+1) listed a w:=by simp only[jyp,rG]at d;subst f;exact vq7 hi d.1.1 d.1.2 d.2 e (.inl ⟨g,λw _=>j w⟩) h
theorem tkS(i:Nat)(f:S w)(h:kxq P md ops Q S tl fuel (listed.setIfInBounds i true) a' w)(hi:ops[i]?=some oi:=by exact rfl)(j:Region.wanted oi (yielded ops a.tmps)=true:=by rfl)(k:∀w,S w->(execOp a.eval oi).run P w=.ok (.value vv) w:=by intro _ l;go_simp;try exact rfl)(g:a.put oi.dst vv=a':=by simp only[Act.put,Qy,QW,QY];try exact rfl)(d:pvk md ops listed tl i=true:=by kernel_rfl)(e:∀c a w,Q (.panic c) (a.put oi.dst vv) w->Q (.panic c) a w:=by exact λ_ _ _ h=>h):kxq P md ops Q S tl (fuel+1) listed a w:=by simp only[pvk,jyp,rG]at d;subst g;exact vq6 hi d.1.1.1.1 d.1.1.1.2 d.1.1.2 d.1.2 (λt m=>by simp_all) e (.inl ⟨j,k⟩) f h
theorem onS(i:Nat)(h:∀K':Act->World->Prop,(∀a w,S w->kxq P md ops Q S tl fuel (listed.setIfInBounds i true) a w->K' a w)->if Region.wanted oi (yielded ops a.tmps)=true then Oper.wp P oi a w K' Q else K' (a.put oi.dst undef) w)(hi:ops[i]?=some oi:=by exact rfl)(d:Region.ready md ops listed=[i]:=by kernel_rfl):kxq P md ops Q S tl (fuel+1) listed a w:=
 jvi d ay (kwb.cons hi h kwb.nil)
theorem onA(i:Nat)(h:∀K':Act->World->Prop,(∀a w,wpAny P md ops Q fuel (listed.setIfInBounds i true) a w->K' a w)->if Region.wanted oi (yielded ops a.tmps)=true then Oper.wp P oi a w K' Q else K' (a.put oi.dst undef) w)(hi:ops[i]?=some oi:=by exact rfl)(d:Region.ready md ops listed=[i]:=by kernel_rfl):wpAny P md ops Q (fuel+1) listed a w:=
 wpAny_ready d ay (AllReady.cons hi h AllReady.nil)
theorem kyj(h:wpAny P md ops Q fuel listed a w)(d:((List.range listed.size).all λj=>listed.getD j true||tl.contains j)=true:=by kernel_rfl):kxq P md ops Q S tl fuel listed a w:=zvu _ _ _ _ (pvw d) h
end
end
abbrev AvS(M H size:Nat)(vv:Value)(a0 a1 a2 a3 a4:Option Addr)(n0 n1 n2 n3 n4 c0 c1 c2 c3 c4:Nat)(v:VrT)(w:World):Prop:=
 w.cell? ⟨M,3,none⟩=some (vv)/\w.cell? ⟨M,5,none⟩=some (.int .i64 size)/\w.cell? ⟨H,0,none⟩=some (.slice a0 n0 c0)/\w.cell? ⟨H,1,none⟩=some (.slice a1 n1 c1)/\w.cell? ⟨H,2,none⟩=some (.slice a2 n2 c2)/\w.cell? ⟨H,3,none⟩=some (.slice a3 n3 c3)/\w.cell? ⟨H,4,none⟩=some (.slice a4 n4 c4)/\w.cell? ⟨H+1,3,none⟩=some (.string v.g.x)/\w.cell? ⟨H+1,4,none⟩=some (.int .i64 v.g.v)/\w.cell? ⟨H+1,5,none⟩=some (.int .i64 v.si.I)/\w.cell? ⟨H+1,6,none⟩=some (.int .i64<|mg v.si.R.x)/\w.cell? ⟨H+1,7,none⟩=some (.int .i64 v.si.R.v)/\w.cell? ⟨H+1,8,none⟩=some (.string v.si.y.x)/\w.cell? ⟨H+1,9,none⟩=some (.int .i64 v.si.y.v)
theorem AvS.below(h:AvS M lo size vv a0 a1 a2 a3 a4 n0 n1 n2 n3 n4 c0 c1 c2 c3 c4 d8 w)(hb:Below B w w')(hM:M<B)(hH:lo+1<B):AvS M lo size vv a0 a1 a2 a3 a4 n0 n1 n2 n3 n4 c0 c1 c2 c3 c4 d8 w':=by have⟨i,s1,j,s3,k,l,m,q,s,t,d,e,f,g⟩:=h;exact⟨(hb.cell (p:=⟨M,3,none⟩) ah).trans i,(hb.cell (p:=⟨M,5,none⟩) ah).trans s1,(hb.cell (p:=⟨lo,0,none⟩) ah).trans j,(hb.cell (p:=⟨lo,1,none⟩) ah).trans s3,(hb.cell (p:=⟨lo,2,none⟩) ah).trans k,(hb.cell (p:=⟨lo,3,none⟩) ah).trans l,(hb.cell (p:=⟨lo,4,none⟩) ah).trans m,(hb.cell (p:=⟨lo+1,3,none⟩) ah).trans q,(hb.cell (p:=⟨lo+1,4,none⟩) ah).trans s,(hb.cell (p:=⟨lo+1,5,none⟩) ah).trans t,(hb.cell (p:=⟨lo+1,6,none⟩) ah).trans d,(hb.cell (p:=⟨lo+1,7,none⟩) ah).trans e,(hb.cell (p:=⟨lo+1,8,none⟩) ah).trans f,(hb.cell (p:=⟨lo+1,9,none⟩) ah).trans g⟩
theorem xy5(h:kzd lo so w M nb steps nevers sets vars tab size sv nv tv vv):M<w.heap.size:=wQ h.e
theorem pjw(h:kzd lo so w M nb steps nevers sets vars tab size sv nv tv vv)(hb:oq w w3)(e:(w3.alloc o).grownBy w4 vv.ownBlock):Rw w4 M #[sv,nv,tv,vv,.map (some nb),i_ size] 105:=by have d:Rw (w3.alloc o) M #[sv,nv,tv,vv,.map<|some nb,i_ size] 105:=zy<|(hb.block M<|wQ h.e).trans h.e;have⟨cs,f,_⟩:=h.z;exact(kz4 (x:=none) (bad:=[213]) (qj f<|hb.alloc hb.size o) e ak).e d ay ak
theorem xvc(h:kzd lo so w M nb steps nevers sets vars tab size sv nv tv vv)(s:u.f=size)(g:u.d=B)(A:w.ownsRow lo 213 5 vv vars.length cs)(x:qki 0 w vars cs)(hb:oq w w3)(F:w3.ownsRow 0 9 1 (.slice ta u.a.length tc) u.a.length (u.a.map Value.string))(t:(w3.alloc<|.cells #[i_ size,i_ B,.slice ta u.a.length tc,i_ u.g,i_ u.B] 213).grownBy w4 vv.ownBlock)(v:w4.ownsRow lo 213 5 (sL gg (vars.length+1) gcap) (vars.length+1) (cs++[i_ size,i_ B,.slice ta u.a.length tc,i_ u.g,i_ u.B]))(i:lo<=w.heap.size):(∃vv',kzd lo so ((w4.setCell (Ad M 3)<|sL gg (vars.length+1) gcap).setCell (Ad M 5)<|i_ ((size:Int)+B)) M nb steps nevers sets (vars++[u]) tab (size+u.d) sv nv tv vv')/\Tk none [105,213] w ((w4.setCell (Ad M 3)<|sL gg (vars.length+1) gcap).setCell (Ad M 5)<|i_ ((size:Int)+B))/\Below lo w ((w4.setCell (Ad M 3)<|sL gg (vars.length+1) gcap).setCell (Ad M 5)<|i_ ((size:Int)+B)):=by
 have j:=pjw h hb t;have k:=xxn j<|sL gg (vars.length+1) gcap;have z:=xww k<|i_ ((size:Int)+B);have d:oq w (w3.alloc<|.cells #[i_ size,i_ B,.slice ta u.a.length tc,i_ u.g,i_ u.B] 213):=hb.alloc hb.size _;have l:=qj A d;have k4:Tk none [105,213] (w3.alloc<|.cells #[i_ size,i_ B,.slice ta u.a.length tc,i_ u.g,i_ u.B] 213) w4:=kz4 l t ak;have k5:Tk none [105] w4 ((w4.setCell (Ad M 3)<|sL gg (vars.length+1) gcap).setCell (Ad M 5)<|i_ ((size:Int)+B)):=(qqa j ak 3 _).trans<|qqa k ak 5 _;have m:=k4.trans (k5.wide (by decide:∀e∈[105],e∈[105,213]));have K:=(yt d none [105,213]).trans m;have f:=pz.none w;have y:=(F.alloc<|.cells #[i_ size,i_ B,.slice ta u.a.length tc,i_ u.g,i_ u.B] 213);have⟨I,⟨c1,h1,G⟩,⟨c2,C,H⟩,D,_,E,q,h7⟩:=h;refine⟨⟨_,⟨by rw[z,g];rfl,⟨c1,jq h1 K f ak,G.tk K f ak ak⟩,⟨c2,jq C K f ak,H.tk K f ak ak⟩,jq D K f ak,⟨cs++[i_ size,i_ B,.slice ta u.a.length tc,i_ u.g,i_ u.B],?_,?_⟩,E.tk K ay,q,h7⟩⟩,K,?_⟩
 ·rw[rD];exact jq v k5 (pz.none _) ak
 ·refine(x.tk K f ak).app ⟨ta,tc,[],?_,jq y m (pz.none _) ak,rfl⟩;rw[s,g];rfl
 ·exact((((d.mono i)).grown t (rP i d.size)<|jo l).setCell (p:=⟨M,3,none⟩) q _).setCell (p:=⟨M,5,none⟩) q _
theorem vyz(h:kzd lo so w M nb steps nevers sets vars tab size sv nv tv vv)(P:kwm mo w (.slice a0 n0 c0) (.slice a1 n1 c1) (.slice a2 n2 c2) (.slice a3 n3 c3) (.slice a4 n4 c4) m)(O:MdFit m)(hu:qw4 m.j m.p size d8=some u)(b2:vars.length<=1000)(aZ:size<=1000000)(aS:lo<=w.heap.size):Calls prog 57 #[pT M,mdV a0 a1 a2 a3 a4 n0 n1 n2 n3 n4 c0 c1 c2 c3 c4,vrV d8] w λe w'=>rT e (.tuple #[])/\(∃vv',kzd lo so w' M nb steps nevers sets (vars++[u]) tab (size+u.d) sv nv tv vv')/\Tk none [105,213] w w'/\Below lo w w':=by
 have⟨W,D⟩:=cpy<|(w.alloc<|.cells #[.slice a0 n0 c0,.slice a1 n1 c1,.slice a2 n2 c2,.slice a3 n3 c3,.slice a4 n4 c4] 68).alloc (.cells #[.string d8.y.x,i_ d8.y.v,.bool d8.K,.string d8.g.x,i_ d8.g.v,i_ d8.si.I,i_<|mg d8.si.R.x,i_ d8.si.R.v,.string d8.si.y.x,i_ d8.si.y.v] 121);have B:oq w W:=by rw[D];exact(jZ w).trans ((jZ _).mono ay)
 have aT:w.heap.size<=W.heap.size:=B.size;have aX:w.heap.size+1<W.heap.size:=by rw[D];simp
 have hD:W.heap[w.heap.size]?=some (.cells #[.slice a0 n0 c0,.slice a1 n1 c1,.slice a2 n2 c2,.slice a3 n3 c3,.slice a4 n4 c4] 68 (0,0)):=by rw[D];exact zy<|qy
 have hN:W.heap[w.heap.size+1]?=some (.cells #[.string d8.y.x,i_ d8.y.v,.bool d8.K,.string d8.g.x,i_ d8.g.v,i_ d8.si.I,i_<|mg d8.si.R.x,i_ d8.si.R.v,.string d8.si.y.x,i_ d8.si.y.v] 121 (0,0)):=by rw[D];have:=qy (w:=w.alloc<|.cells #[.slice a0 n0 c0,.slice a1 n1 c1,.slice a2 n2 c2,.slice a3 n3 c3,.slice a4 n4 c4] 68) (o:=.cells #[.string d8.y.x,i_ d8.y.v,.bool d8.K,.string d8.g.x,i_ d8.g.v,i_ d8.si.I,i_ (mg d8.si.R.x),i_ d8.si.R.v,.string d8.si.y.x,i_ d8.si.y.v] 121);simp only[tV]at this;exact this
 have aP:=xy5 h;have hM:=(B.block M aP).trans h.e;have⟨m0,m1,m2,m3,m4,m5,f0,f1,f2,f3,f4,f5⟩:=kzh hM;have⟨q0,q1,q2,q3,q4,_⟩:=jl hD;have⟨⟨v0,v1,v2,v3,v4,v5,v6,v7,v8,v9⟩,_⟩:=kju hN;have aL:=oz (show AvS M w.heap.size size vv a0 a1 a2 a3 a4 n0 n1 n2 n3 n4 c0 c1 c2 c3 c4 d8 W from⟨m3,m5,q0,q1,q2,q3,q4,v3,v4,v5,v6,v7,v8,v9⟩);have⟨cs,V,aB⟩:=h.z;have⟨va,vc,e,_⟩:=qp V;unfold qw4 at hu;have⟨cnt,f,aE⟩:=wu.1 hu;have⟨tx,U,j⟩:=wX.1 aE;have aH:u.f=size:=by rw[<-j]
 have s:u.d=cnt:=by rw[<-j]
 have T:u.a=tx:=by rw[<-j]
 have aD:u.g=kji m.j d8.g.x.toList:=by rw[<-j]
 have aC:u.B=kji m.j d8.si.y.x.toList:=by rw[<-j]
 rw[<-T]at U;have⟨a8,N,L,z⟩:=jE (λ(wx:World)(hb:oq w wx)=>zyt (P.stay λk _ hk=>hb.block k hk) O U) (λ(wx:World)(hb:oq w wx)=>qxu d8.g a1 a2 a3 a4 n1 n2 n3 n4 c1 c2 c3 c4 (qj P.o0 hb) O.j) (λ(wx:World)(hb:oq w wx)=>qxu d8.si.y a1 a2 a3 a4 n1 n2 n3 n4 c1 c2 c3 c4 (qj P.o0 hb) O.j) (λ(E:d8.K=true)=>(by rw[E,lJ rfl]at f;exact kkx f:∃k x,kkq m.j d8.g.x.toList=some k/\m.j[k]?=some x/\mg x.size.x=cnt/\cnt<=9));have aR:cnt<=9:=by
  cases E:d8.K
  ·rw[E]at f;injection f with f;omega
  ·have⟨_,_,_,_,_,h9⟩:=(ku z) E;exact h9
 have aA:d8.K=false->cnt=1:=λE=>by rw[E]at f;injection f with f;exact f.symm
 have y:=oz (λ(wx:World)(hb:oq w wx)(k:Nat)(x:PSet)(h1:kkq m.j d8.g.x.toList=some k)(h2:m.j[k]?=some x)=>qwx a1 a2 a3 a4 n1 n2 n3 n4 c1 c2 c3 c4 (qj P.o0 hb) O.j h1 h2);rw[<-aD]at N;rw[<-aC]at L;unfold mdV siV at a8;unfold ptV at N L y;have aU:IntKind.i64.wrap ((size:Int)+cnt)=(size:Int)+cnt:=kQ;have⟨Y,a7,aK,X,a9,aJ,aY⟩:=jj h V aB B D.symm aA aR;clear hu aE j f U T aD aC hM m0 m1 m2 m3 m4 m5 f0 f1 f2 f3 f4 f5 aB B D hN hD h P O q0 q1 q2 q3 q4 v0 v1 v3 v4 v5 v6 v7 v8 v9 aA V;subst e;unfold mdV vrV kjs;generalize aV:d8.K=arr at *;cases arr;case' false=>
  have aG:=oz<|aJ rfl;clear y z;go_in
  go_upto_region 4 with fail
  rw[ku a9,show(Value.int IntKind.i64 1)=.int .i64 (cnt:Int) by rw[ku aG];rfl];obtain⟨wr,aF,i⟩:∃wr,wr=W/\oq W wr:=⟨W,rfl,bR⟩;rw[<-aF];clear aF
 case' true=>
  have⟨sk,sx,e1,e2,e3,e4⟩:=(ku z) rfl;have J:=oz<|y W X sk sx e1 e2;rw[e3]at J;clear e1 e2 e3 y z;go_in
  go_wp21;rw[ku a9];refine zM J λwr i=>?_;clear J;have aI:=oz i;clear i;go_upto_region 4 with fail
  have i:=ku aI
 all_goals
  have⟨g,F⟩:=jS (aL.below i.drew aj aj:AvS M w.heap.size size (.slice va vars.length vc) a0 a1 a2 a3 a4 n0 n1 n2 n3 n4 c0 c1 c2 c3 c4 d8 wr.drew) (show oq w wr.drew from(X.trans<|i.mono aT).drew);have b3:=i.size;clear i;refine bg (S:=AvS M w.heap.size size (.slice va vars.length vc) a0 a1 a2 a3 a4 n0 n1 n2 n3 n4 c0 c1 c2 c3 c4 d8) (tl:=[25,26,27,28]) au ?_;refine frS 0 ?_;refine frS 1 ?_;refine frS 2 ?_;refine frS 3 ?_;refine tkS 4 g ?_;refine frS 5 ?_;refine frS 6 ?_;refine frS 7 ?_;refine tkS 8 g ?_;refine frS 9 ?_;refine tkS 10 g ?_;refine frS 11 ?_;refine tkS 12 g ?_;refine tkS 14 g ?_;refine frS 15 ?_;refine tkS 16 g ?_;refine tkS 18 g ?_;refine frS 19 ?_;refine frS 20 ?_;refine tkS 21 g ?_;refine onS 13 λK d=>?_
  go_simp;go_at_call 98
  refine(a8 wr.drew F).mono ?_;rintro e x1 ⟨b7,rfl,Q,A⟩;have⟨ta,tc,e,_⟩:=qp Q;subst e;have aM:=oz<|qo jG Q;clear Q;have b4:wr.heap.size<=x1.heap.size:=A.size;have⟨Z,G⟩:=jS (g.below A (by omega:M<wr.heap.size) (by omega:w.heap.size+1<wr.heap.size)) (F.trans (A.mono F.size));clear A;dsimp only;refine d _ _ Z ?_;clear d K;try simp only[Act.put,Qy,QW,QY]
  refine onS 17 λK d=>?_
  go_simp;go_at_call 99
  refine zM (N x1 G) λx2 p=>?_;have aN:=oz<|qj aM p;have b5:x1.heap.size<=x2.heap.size:=p.size;have⟨a5,H⟩:=jS (Z.below p (by omega:M<x1.heap.size) (by omega:w.heap.size+1<x1.heap.size)) (G.trans (p.mono G.size));clear p;dsimp only;refine d _ _ a5 ?_;clear d K;try simp only[Act.put,Qy,QW,QY]
  refine onS 22 λK d=>?_
  go_simp;go_at_call 99
  refine zM (L x2 H) λx3 q=>?_;have aO:=oz<|qj aN q;have b6:x2.heap.size<=x3.heap.size:=q.size;have⟨a6,v⟩:=jS (a5.below q (by omega:M<x2.heap.size) (by omega:w.heap.size+1<x2.heap.size)) (H.trans (q.mono H.size));clear q;dsimp only;refine d _ _ a6 ?_;clear d K;try simp only[Act.put,Qy,QW,QY]
  refine frS 23 ?_;refine onS 24 λK d=>?_
  go_simp;refine d _ _ (a6.below (jZ _) aj aj) ?_;clear d K;refine kyj ?_;refine onA 25 λK d=>?_
  refine apL (qj a7<|v.trans ((jZ x3).mono v.size)) (Xk x3 _) ?_;intro gg gcap w4 C l aQ aW;refine d _ _ ?_;clear d K;have R:=pjw Y v l;have⟨m0,m1,m2,m3,m4,m5,f0,f1,f2,f3,f4,f5⟩:=kzh R;have⟨p0,p1,p2,p3,p4,p5,g0,g1,g2,g3,g4,g5⟩:=kzh<|xxn R (sL gg (vars.length+1) gcap);have t:=xvc Y aH s a7 aK v aO l C aS;rw[s]at t;have I:=oz t;clear t;clear R C l aQ;refine onA 26 λK d=>?_
  go_simp;refine d _ _ ?_;clear d K;refine onA 27 λK d=>?_
  go_simp;refine d _ _ ?_;clear d K;refine onA 28 λK d=>?_
  go_simp;refine d _ _ ?_;clear d K;refine wpAny_done au ?_ _;go_wp2;go_end0;first
   |exact⟨rfl,I⟩
   |(rw[s];exact⟨rfl,I⟩)
theorem infoInt:(prog.info? 3).map (λi=>(i.zero,i.size,i.bytes))=some (some (i_ 0),1,8):=au
theorem infoInts:(prog.info? 31).map (λi=>(i.zero,i.size,i.bytes))=some (some nS,1,24):=au
theorem jjl(l:List Int):∀y∈l.map (Value.int .i64),y.oneCell'=true:=by intro y d;obtain⟨x,_,rfl⟩:=tY.1 d;rfl
theorem zj2(p:w.ownsRow lo 3 1 (.slice sa sn sc) st.length (st.map (Value.int .i64)))(y:st.length<=1000000):Calls prog 185 #[.slice sa sn sc] w λe w'=>∃ca cn cc,rT e (.slice ca cn cc)/\w'.ownsRow w.heap.size 3 1 (.slice ca cn cc) st.length (st.map<|Value.int .i64)/\oq w w':=by
 obtain⟨d,m⟩|⟨g,cap,cur,d,m,e3,x⟩:=p.2
 ·injection d with d h f;subst d;subst h;subst f;have hn:st=[]:=Qv m;subst hn;have k:=λw=>Go.Lib.run_eql_slice_nil (P:=prog) w 31 3 none 0 0 0 0 underlying31
  go_wp2;go_ret;exact⟨none,0,0,rfl,oN,bR⟩
 ·injection d with d h f;subst d;subst h;subst f;have l:=show(w.alloc<|.cells #[] 3).ownsRow w.heap.size 3 1 (sL w.heap.size 0 0) 0 [] from⟨rfl,.inr ⟨w.heap.size,0,_,rfl,jV,qy,jV,ay,rfl,rfl⟩⟩
  have⟨v,hi,q,s,t⟩:=info_parts infoInt;have k:=λw=>Go.Lib.run_eql_slice_nil (P:=prog) w 31 3 (some (Ad g 0)) st.length sc 0 0 underlying31
  go_in;go_wp2_with (at_builtin;refine kqv rfl 31 rfl w.heap.size 3 v _ 1 8 underlying31 hi q s t rfl ak (sL w.heap.size 0 0) 0 [] rfl l (sL g st.length sc) st.length _ _ rfl (qj p<|jZ w (o:=.cells #[] 3)) (jjl st) aj aj ay ?_)
  intro z w3 j i u;obtain⟨a3,l3,c3,rfl⟩:=qh j;go_wp2;go_ret;exact⟨a3,l3,c3,rfl,j,((jZ w).grown i ay<|jo l)⟩
def kqh(n:Nat)(all:List (List Int)):List (List Int):=all.flatMap λc=>(List.range n).map λ(j:Nat)=>c++[(j:Int)]
def chO(ss:List PSet):List PP->List (List Int)->Option (List (List Int))
 |[],all=>some all
 |p::l,all=>(qzt ss p.Q.x.toList).bind λn=>if (kqh n all).length<=100000 then chO ss l (kqh n all) else none
theorem vxi(n:Nat)(all:List (List Int))(j:Nat)(d:j<all.length):kqh n (all.take (j+1))=kqh n (all.take j)++(List.range n).map λ(q:Nat)=>all[j]++[(q:Int)]:=by grind [List.take_succ_eq_append_getElem,kqh]
theorem pxi(n:Nat)(all:List (List Int))(j:Nat):(kqh n (all.take j)).length<=(kqh n all).length:=by grind [List.take_append_drop,kqh]
theorem vy3(h:∀x∈ls,x.length<=k):∀x∈kqh n ls,x.length<=k+1:=by intro x d;have⟨c,f,e⟩:=rM.1 d;grind
def kx4(w:World)(ls:List (List Int))(cs:List Value):Prop:=cs.length=ls.length/\∀k (hk:k<ls.length),∃a n c,cs[k]?=some (.slice a n c)/\w.ownsRow 0 3 1 (.slice a n c) ls[k].length (ls[k].map (Value.int .i64))
theorem kx4.tk(h:kx4 w ls cs)(f:Tk x bad w w')(j:pz w x)(d:3∉bad):kx4 w' ls cs:=
 ⟨h.1,λk g=>by have⟨a,n,c,e,i⟩:=h.2 k g;exact⟨a,n,c,e,jq i f j d⟩⟩
theorem kx4.snoc{l:List Int}(h:kx4 w ls cs)(j:w.ownsRow 0 3 1 (.slice a0 n c) l.length (l.map (Value.int .i64))):kx4 w (ls++[l]) (cs++[.slice a0 n c]):=by
 refine⟨by simp[h.1],λk i=>?_⟩;by_cases d:k<ls.length
 ·have⟨a',m,g,e,f⟩:=h.2 k d;grind
 ·have:k=ls.length:=by grind
  subst this;exact⟨a0,n,c,by rw[<-h.1];simp,by simp_all⟩
def OwnRows(B:Nat)(w:World)(x:Value)(ls:List (List Int)):Prop:=∃la ll lc cs,x=.slice la ll lc/\w.ownsRow B 31 1 (.slice la ll lc) ls.length cs/\kx4 w ls cs
theorem vxe(hm:kwm mo w (.slice a0 n0 c0) (.slice a1 n1 c1) (.slice a2 n2 c2) (.slice a3 n3 c3) (.slice a4 n4 c4) m)(hf:MdFit m)(hP:w.ownsRow lo 352 4 (.slice pa pn pc) e8.length (uq e8))(hl:e8.length<=1000)(hr:chO m.j e8 [[]]=some r):Calls prog 171 #[mdV a0 a1 a2 a3 a4 n0 n1 n2 n3 n4 c0 c1 c2 c3 c4,.slice pa pn pc] w λe w'=>∃v,e=.returned v/\OwnRows w.heap.size w' v r/\oq w w':=by
 have⟨j0,hj,bP,bQ,bS⟩:=info_parts infoInts;have⟨W,hW⟩:=cpy<|(w.alloc<|.cells #[.slice a0 n0 c0,.slice a1 n1 c1,.slice a2 n2 c2,.slice a3 n3 c3,.slice a4 n4 c4] 68).alloc (.cells #[nS] 31);have M:oq w W:=jX;have bO:w.heap.size+1<W.heap.size:=by simp_all
 have hD:W.heap[w.heap.size]?=some (.cells #[.slice a0 n0 c0,.slice a1 n1 c1,.slice a2 n2 c2,.slice a3 n3 c3,.slice a4 n4 c4] 68 (0,0)):=by rw[hW];exact zy<|qy
 have hA:W.heap[w.heap.size+1]?=some (.cells #[nS] 31 (0,0)):=by grind [qy,World.size_alloc]
 have U:OwnRows w.heap.size W (sL (w.heap.size+1) 1 1) [[]]:=
  ⟨_,_,_,[nS],rfl,⟨rfl,.inr ⟨w.heap.size+1,1,_,rfl,aj,hA,jV,iq,rfl,rfl⟩⟩,rfl,λk hk=>by grind [World.ownsRow_nil]⟩
 obtain⟨rfl,HW⟩:=kja<|qj hP M;have aW:=λ(wx:World)(hb:oq w wx)(t:Tok)(n:Nat)(h:qzt m.j t.x.toList=some n)=>(show ∃d:Int,d=n/\og 97 #[.agg #[.slice a0 n0 c0,.slice a1 n1 c1,.slice a2 n2 c2,.slice a3 n3 c3,.slice a4 n4 c4],.agg #[.string t.x,i_ t.v]] wx λe w'=>rT e (i_ d)/\oq wx w' from by have⟨k,x,h1,h2,h3,_⟩:=kkx h;exact⟨_,h3,qwx a1 a2 a3 a4 n1 n2 n3 n4 c1 c2 c3 c4 (qj hm.o0 hb) hf.j h1 h2⟩)
 unfold mdV;go_in;go_wp21;rw[(oz hW.symm)];go_loopw [5,7,8,10,11,15] (λx _ _ _ _ i wr=>∃(k:Nat) (all:List (List Int)),k<=e8.length/\i=i_ k/\OwnRows w.heap.size wr x all/\chO m.j (e8.drop k) all=some r/\all.length<=100000/\(∀y∈all,y.length<=k)/\oq W wr) (λ_ _ _ _ _ i _=>e8.length-(intOf i).toNat);exact⟨0,[[]],jG,rfl,(oz U),(oz hr),ay,ay,bR⟩;obtain⟨F,rfl⟩:=cpy wr;obtain⟨k,all,hk,rfl,z,f,bI,(O:Hid _),hb⟩:=hrel;obtain⟨xa,xn,xc,cs,rfl,s,l⟩:=z;obtain⟨rfl,aD⟩:=kja s;have b7:=hb.size;by_cases T:k<e8.length
 ·obtain⟨g,rfl,bJ,b6,hc⟩:=HW k T;have Q:=λj (hj:j<4)=>kqo kzn 4 (λ_=>rfl) e8 k j T hj
  have cc:∀j,j<e8.length*4->F.cell? (Ad g j)=(uq e8)[j]?:=λj hj=>(hb.cell (p:=⟨g,j,none⟩) b6).trans<|hc j hj
  have e0:=(cc (k*4+0) aj).trans<|Q 0 aj;have e1:=(cc (k*4+1) aj).trans<|Q 1 aj;have e2:=(cc (k*4+2) aj).trans<|Q 2 aj;have e3:=(cc (k*4+3) aj).trans<|Q 3 aj;simp only[kzn,sW,sU,Qk]at e0 e1 e2 e3;rw[rU T,chO]at f;have⟨n,HN,f⟩:=wu.1 f;have aC:(kqh n all).length<=100000:=by simp_all
  rw[lJ aC]at f;have⟨u,D⟩:=cpy<|F.alloc (.cells #[.string e8[k].y.x,i_ e8[k].y.v,.string e8[k].Q.x,i_ e8[k].Q.v] 352);have a9:oq W u:=by rw[D];exact hb.alloc b7 _
  have aS:Hid (u.heap[F.heap.size]?=some (.cells #[.string e8[k].y.x,i_ e8[k].y.v,.string e8[k].Q.x,i_ e8[k].Q.v] 352 (0,0))):=by rw[D];exact qy
  have L:oq F u:=by rw[D];exact jZ _
  have bN:F.heap.size<u.heap.size:=by simp_all
  have aY:=oz aD;have aT:=l.tk (yt L none []) (pz.none _) ay;have aX:=oz D.symm;have aU:=show OwnRows u.heap.size u nS (kqh n<|all.take 0) from⟨none,0,0,[],rfl,by simp[kqh];exact oN,by simp[kqh],λk hk=>by simp[kqh]at hk⟩
  generalize e8[k]=p at *;clear cc Q hc s aD f D;go_wp21;rw[aX];go_loopw [8,10,11,21] (λy _ _ i E=>∃j:Nat,j<=all.length/\i=i_ j/\OwnRows u.heap.size E y (kqh n<|all.take j)/\oq u E) (λ_ _ _ i _=>all.length-(intOf i).toNat);exact⟨0,jG,rfl,aU,bR⟩;obtain⟨E,rfl⟩:=cpy wr;obtain⟨j,bK,rfl,z,B⟩:=hrel;obtain⟨ya,yn,yc,ds,rfl,s,l⟩:=z;have aM:=B.size;have N:oq W E:=a9.trans<|B.mono a9.size;by_cases A:j<all.length
  ·obtain⟨g5,rfl,bC,aJ,b5⟩:=aY j A;have⟨ca,cn,aZ,b3,aO⟩:=aT.2 j A;have e5:E.cell? (Ad g5 (j*1))=some (.slice ca cn aZ):=by rw[B.cell (p:=⟨g5,j*1,none⟩) (by grind),L.cell (p:=⟨g5,j*1,none⟩) aJ,b5 (j*1) aj,Jb];exact b3
   simp only[Jb]at e5;have bB:all[j].length<=1000:=by have:=O _<|wZ A;omega
   have q0:=jl<|(N.block w.heap.size aj).trans (oz hD);have p0:=kz3<|(B.block F.heap.size aj).trans aS;have b4:oq w E:=M.trans<|N.mono aj;have⟨d,hd,V⟩:=aW E b4 p.Q n HN;have⟨aI,X⟩:=jS s l;have b8:=vxi n all j A;have bD:=pxi n all<|j+1;generalize all[j]=c at *;go_wp21
   refine zM V λw3 R=>?_;subst hd;have aH:=B.trans<|R.mono aM;have aV:=show OwnRows u.heap.size w3 (.slice ya yn yc) (kqh n (all.take j)++(List.range 0).map λ(q:Nat)=>c++[(q:Int)]) from⟨ya,yn,yc,ds,rfl,by simpa using qj aI R,by simpa using X.tk (yt R none []) (pz.none _) ay⟩
   go_wp21;go_loopw [8,11,29] (λy _ i K=>∃q:Nat,q<=n/\i=i_ q/\OwnRows u.heap.size K y (kqh n (all.take j)++(List.range q).map λ(q:Nat)=>c++[(q:Int)])/\oq u K) (λ_ _ i _=>n-(intOf i).toNat);exact⟨0,jG,rfl,aV,aH⟩;obtain⟨K,rfl⟩:=cpy wr;obtain⟨q,hq,rfl,z,I⟩:=hrel;obtain⟨aE,aG,aF,b2,rfl,Y,P⟩:=z;have aL:=I.size;by_cases bL:q<n
   ·have aP:=qj aO I;have a7:(kqh n (all.take j)++(List.range q).map λ(q:Nat)=>c++[(q:Int)]).length<=100000:=by
     have h1:(kqh n (all.take j)++(List.range q).map λ(q:Nat)=>c++[(q:Int)]).length<=(kqh n<|all.take (j+1)).length:=by simp_all
     omega
    have bM:(q:Int)<=1000000:=by
     have:q<=100000:=by simp at a7;omega
     omega
    have bG:=show(kqh n (all.take j)++(List.range<|q+1).map λ(q:Nat)=>c++[(q:Int)])=(kqh n (all.take j)++(List.range q).map λ(q:Nat)=>c++[(q:Int)])++[c++[(q:Int)]] by rw[Jf,Qw,<-sZ];rfl
    generalize (kqh n (all.take j)++(List.range q).map λ(q:Nat)=>c++[(q:Int)])=Lg at *;go_wp21;refine(zj2 aP aj).mono ?_;rintro e w4 ⟨xa,xn,xc,rfl,aB,aA⟩;have aK:=aA.size;go_wp2_with (at_builtin;refine apO (aB.alloc _) ?_)
    intro v5 w5 J S _ b9;obtain⟨a5,l5,c5,rfl⟩:=qh J;have H:oq K w5:=(aA.alloc aK _).grown S ah<|jo aB;have bF:=H.size;have aR:=show w5.ownsRow 0 3 1 (.slice a5 l5 c5) (c++[(q:Int)]).length ((c++[(q:Int)]).map<|Value.int .i64) by rw[rD,Qw];exact qo jG J
    have G:=qj Y H;go_wp2_with (at_builtin;refine apO (G.alloc _) ?_)
    intro v6 w6 a8 C _ bA;obtain⟨a6,l6,c6,rfl⟩:=qh a8;have k6:Tk none [31] w5 w6:=(yt (jZ w5) _ _).trans<|kz4 (G.alloc _) C ay;have bH:=show OwnRows u.heap.size w6 (.slice a6 l6 c6) (Lg++[c++[(q:Int)]]) from⟨a6,l6,c6,_,rfl,by simp_all,((P.tk (yt H none [31]) (pz.none _) ak).snoc aR).tk k6 (pz.none _) ak⟩
    have aN:=((I.trans<|H.mono aL).alloc aj _).grown C ah<|jo G;go_wp2
    exact rdM ⟨q+1,aj,eu,by simp_all,aN⟩
   ·have:q=n:=by omega
    subst this;have Z:=show OwnRows u.heap.size K (.slice aE aG aF) (kqh q<|all.take (j+1)) from⟨aE,aG,aF,b2,rfl,by simp_all,by simp_all⟩
    go_wp2;exact rdM ⟨j+1,aj,eu,Z,I⟩
  ·have:j=all.length:=by omega
   subst this;rw[Qc]at s l;have Z:=show OwnRows w.heap.size E (.slice ya yn yc) (kqh n all) from⟨ya,yn,yc,ds,rfl,qo aj s,l⟩
   have aQ:=vy3 (n:=n) O;go_wp2;exact rdM ⟨k+1,kqh n all,aj,eu,Z,(oz f),aC,aQ,N⟩
 ·have:k=e8.length:=by omega
  subst this;rw[sK,chO]at f;injection f with f;subst f;have Z:=show OwnRows w.heap.size F (.slice xa all.length xc) all from⟨xa,all.length,xc,cs,rfl,s,l⟩
  have HB:=M.trans<|hb.mono aj;go_wp2
  go_ret;simp_all
end Go.Proofs.YtpmcnonmkghokaaGreatDoor
namespace Go.Proofs
open Go.Proofs.Tryz
open Go.Shelf
def Tryz.lays156_ren:Go.Shelf.Ren:=⟨fun|156=>221|165=>249|166=>220|169=>166|240=>219|241=>265|276=>248|277=>287|n=>n,fun|31=>22|9=>9|3=>3|4=>4|0=>0|20=>20|72=>305|76=>365|70=>303|37=>83|75=>307|127=>367|164=>389|5=>5|80=>310|n=>n,fun|n=>n⟩
theorem Tryz.lays156:Go.Proofs.Lays.n156 prog Tryz.lays156_ren:={
 mixed:=au
 f156:=func221.trans<|congrArg some au
 f165:=func249.trans<|congrArg some au
 f166:=func220.trans<|congrArg some au
 f169:=func166.trans<|congrArg some au
 f240:=func219.trans<|congrArg some au
 f241:=func265.trans<|congrArg some au
 f276:=func248.trans<|congrArg some au
 f277:=func287.trans<|congrArg some au
 t0:=underlying0
 a0:=Tryz.isAgg0
 z0:=Tryz.sizeOf0
 v0:=Tryz.zeroValue0
 t3:=underlying3
 a3:=Tryz.isAgg3
 z3:=Tryz.sizeOf3
 v3:=Tryz.zeroValue3
 t4:=underlying4
 a4:=Tryz.isAgg4
 z4:=Tryz.sizeOf4
 v4:=Tryz.zeroValue4
 t9:=underlying9
 a9:=Tryz.isAgg9
 z9:=Tryz.sizeOf9
 v9:=Tryz.zeroValue9
 t20:=underlying20
 a20:=Tryz.isAgg20
 z20:=Tryz.sizeOf20
 v20:=Tryz.zeroValue20
 t31:=underlying22
 a31:=Tryz.isAgg22
 z31:=Tryz.sizeOf22
 v31:=Tryz.zeroValue22
 t37:=underlying83
 a37:=Tryz.isAgg83
 z37:=Tryz.sizeOf83
 v37:=Tryz.zeroValue83
 t70:=underlying303
 a70:=Tryz.isAgg303
 z70:=Tryz.sizeOf303
 v70:=Tryz.zeroValue303
 t72:=underlying305
 a72:=Tryz.isAgg305
 z72:=Tryz.sizeOf305
 v72:=Tryz.zeroValue305
 t75:=underlying307
 a75:=Tryz.isAgg307
 z75:=Tryz.sizeOf307
 v75:=Tryz.zeroValue307
 t76:=underlying365
 a76:=Tryz.isAgg365
 z76:=Tryz.sizeOf365
 v76:=Tryz.zeroValue365
 t127:=underlying367
 a127:=Tryz.isAgg367
 z127:=Tryz.sizeOf367
 v127:=Tryz.zeroValue367
 t164:=underlying389
 a164:=Tryz.isAgg389
 z164:=Tryz.sizeOf389
 v164:=Tryz.zeroValue389}
theorem Tryz.Builder_Extra_156:Builder.Extra prog Tryz.lays156_ren:={
 sizeBuilder:=au
 liesBuilder:=au
 t5:=underlying5
 a5:=Tryz.isAgg5
 z5:=Tryz.sizeOf5
 v5:=Tryz.zeroValue5
 infoByte:=au
 cellsByte:=au
 sizeByte:=au
 neB5:=ak}
open Go.RowKit in
theorem Tryz.strings_Join_none(a:Option Addr)(c:Nat)(sep:ByteArray)(w:World):og 221 #[.slice a 0 c,.string sep] w λe w'=>e=.returned (.string ⟨#[]⟩)/\w'=w:=Any.strings_Join_none Tryz.lays156 Tryz.Builder_Extra_156 a c sep w
open Go.RowKit in
theorem Tryz.strings_Join(f o c:Nat)(xs:List ByteArray)(sep:ByteArray)(w:World)(d:∀(j:Nat) x,xs[j]?=some x->w.cell? ⟨f,o+j,none⟩=some (.string x))(i:f<w.heap.size)(hN:xs.length<=140737488355328)(g:xs.length<=c)(h:(Lib.join (xs.map (·.data.toList)) sep.data.toList).length<=140737488355328):og 221 #[.slice (some ⟨f,o,none⟩) xs.length c,.string sep] w λe w'=>e=.returned (.string ⟨(Lib.join (xs.map (·.data.toList)) sep.data.toList).toArray⟩)/\oq w w':=Any.strings_Join Tryz.lays156 Tryz.Builder_Extra_156 f o c xs sep w d i hN g h
end Go.Proofs
namespace Go.Proofs.YtpmcnonmkghokaaGreatDoor
open Go.Proofs.Tryz Go.RowKit
attribute [local go_sem ↓] Go.wp_at_zero Go.wp_at_succ
variable {a a':Act}{listed:Array Bool}{a7:Array Value}{b7:ByteArray}{ls r:List (List Int)}{ms sets st:List Int}{nevers:List MNever}{l steps:List MStep}{vars:List MVar}{D bad rs:List Nat}{e8:List PP}{b9:List UInt8}{bs cs ds xs:List Value}{b5:MNever}{s:MStep}{u:MVar}{m:MdL}{B M R b c c0 c1 c2 c3 c4 fuel gcap gg i j k lo mc mn mo n n0 n1 n2 n3 n4 nb pc pn sc size sn so tc:Nat}{fr:Nat×Nat}{o:Obj}{oi:Oper}{a0 a1 a2 a3 a4 gp ma pa sa ta:Option Addr}{x:Option Nat}{rl:PRule}{t:TypeId}{nv pv sv tv vv x0 x1 x2 x3 x4 x5 xv y3:Value}{d8:VrT}{w w' w3 w4:World}{a8 tab:kq3}
def qvl(xs:List ByteArray):ByteArray:=⟨(Go.Lib.join (xs.map (·.data.toList)) [44]).toArray⟩
theorem pxz(w:World)(lo:Nat)(xs:List ByteArray)(la:Option Addr)(ll lc:Nat)(l:w.ownsRow lo 9 1 (.slice la ll lc) xs.length (xs.map Value.string))(hn:xs.length<=1000000)(q:(Go.Lib.join (xs.map (·.data.toList)) [44]).length<=1000000):og 221 #[.slice la ll lc,.string ⟨#[44]⟩] w λe w'=>rT e (.string<|qvl xs)/\oq w w':=by
 obtain⟨d,k⟩|⟨g,cap,cur,d,k,e3,m,e5,p,e7⟩:=l.2
 ·injection d with d h f;subst d;subst h;subst f;have i:xs=[]:=Qv k;subst i;refine(Tryz.strings_Join_none none 0 ⟨#[44]⟩ w).mono ?_;rintro e w' ⟨rfl,rfl⟩;exact⟨rfl,bR⟩
 ·injection d with d h f;subst d;subst h;subst f;refine(Tryz.strings_Join g 0 lc xs ⟨#[44]⟩ w ?_ (wQ e3) aj m<|by grind).mono ?_
  ·intro j x i;have:=l.cells (g:=g) rfl j (.string x) (by simp[i]);grind [Addr.add]
  ·rintro e w' ⟨rfl,hb⟩;exact⟨rfl,hb⟩
def kv0(n:ByteArray)(ms:List Int):ByteArray:=((n++⟨#[40]⟩)++qvl (ms.map λi=>kvh i.toNat))++⟨#[41]⟩
def zqi(ms:List Int):Bool:=ms.all (λi=>decide (0<=i)&&decide (i<=9))&&decide (ms.length<=1000)&&decide ((Go.Lib.join ((ms.map λi=>kvh i.toNat).map (·.data.toList)) [44]).length<=1000000)
theorem vwt(h:zqi ms=true):(∀i∈ms,0<=i/\i<=9)/\ms.length<=1000/\(Go.Lib.join ((ms.map λi=>kvh i.toNat).map (·.data.toList)) [44]).length<=1000000:=by grind [zqi]
theorem zv0(n:Tok)(hM:w.ownsRow lo 3 1 (.slice ma mn mc) ms.length (ms.map (Value.int .i64)))(u:zqi ms=true)(a0:n.x.size<=1000):Calls prog 172 #[.agg #[.string n.x,i_ n.v],.slice ma mn mc] w λe w'=>rT e (.string<|kv0 n.x ms)/\oq w w':=by
 obtain⟨(y:Hid _),hl,(E:Hid _)⟩:=vwt u;have⟨W,l⟩:=cpy<|w.alloc (.cells #[.string n.x,i_ n.v] 107);have q:oq w W:=by rw[l];exact jZ w
 have v:w.heap.size<W.heap.size:=by simp_all
 have O:Hid (W.heap[w.heap.size]?=some (.cells #[.string n.x,i_ n.v] 107 (0,0))):=by rw[l];exact qy
 obtain⟨xa,cap,z,(P:Hid _)⟩:=qp<|qj hM q;injection z with z R e3;subst z;subst R;subst e3;have G:=oz l.symm;clear l u;go_in
 go_wp21;rw[ku G];go_loopw [5,7,10] (λx _ i wr=>∃(k:Nat)(la:Option Addr)(ll lc:Nat),k<=ms.length/\i=i_ k/\x=.slice la ll lc/\wr.ownsRow W.heap.size 9 1 (.slice la ll lc) k (((ms.take k).map λi=>kvh i.toNat).map Value.string)/\oq W wr) (λ_ _ i _=>ms.length-(intOf i).toNat)
 ·grind [World.ownsRow_nil,Below.refl]
 obtain⟨k,la,ll,lc,hk,rfl,rfl,j,d⟩:=hrel;have K:=d.size;by_cases h:k<ms.length
 ·obtain⟨g,rfl,Y,J,I⟩:=ku P k h;have e0:wr.cell? (Ad g k)=some (i_ ms[k]):=by rw[d.cell (p:=⟨g,k,none⟩) J,I k aj,QV,wW h];rfl
  have⟨Q,d9⟩:=(ku y) ms[k] (wZ h);have s:=qzq ms[k].toNat aj wr;rw[Xz Q]at s;have M:=oz (by grind [List.take_succ_eq_append_getElem]:((ms.take<|k+1).map λi=>kvh i.toNat).map Value.string=((ms.take k).map λi=>kvh i.toNat).map Value.string++[.string (kvh ms[k].toNat)]);generalize kvh ms[k].toNat=dk at *;generalize ms[k]=x at *;clear I;go_wp21;refine zM s ?_;rintro w2 rfl;go_wp2_with (at_builtin;refine apO (j.alloc _) ?_)
  intro v' w' A m _ H;obtain⟨a3,l3,c3,rfl⟩:=qh A;have F:=show w'.ownsRow W.heap.size 9 1 (.slice a3 l3 c3) (k+1) (((ms.take<|k+1).map λi=>kvh i.toNat).map Value.string) by grind [ku,List.map_take]
  have B:=(d.alloc K _).grown m ah<|jo j;clear H;go_wp2
  exact rdM ⟨k+1,a3,l3,c3,aj,eu,rfl,F,B⟩
 ·have:k=ms.length:=by omega
  subst this;rw[Qc]at j;have N:=pxz wr.drew W.heap.size (ms.map λi=>kvh i.toNat) la ll lc (by rw[Ql];exact j) (by grind)<|ku E;have f:=oz<|(d.block w.heap.size v).trans O;have⟨S,q1,_,_⟩:=kj6 f;have D:Hid (kv0 n.x ms=((n.x++⟨#[40]⟩)++qvl (ms.map λi=>kvh i.toNat))++⟨#[41]⟩):=rfl;have Z:(qvl<|ms.map λi=>kvh i.toNat).size<=1000000:=by grind [ku,qvl,ByteArray.size]
  generalize qvl (ms.map λi=>kvh i.toNat)=L at *;have U:¬(9223372036854775807<n.x.size+1):=aj;have V:¬(9223372036854775807<n.x.size+1+L.size):=aj;have X:¬(9223372036854775807<n.x.size+1+L.size+1):=aj;go_upto_region 7 with fail
  go_region_held3 (λw'=>w'.cell? (Ad w.heap.size 0)=some (.string n.x)) (first|exact S|exact T)
   ((go_at_call 221;refine zM N λw1 t=>?_;have⟨T,u1,_⟩:=kj6 ((t.block w.heap.size (by show w.heap.size<wr.heap.size;omega)).trans f);have C:=q.trans ((d.drew.trans<|t.mono (by simp_all)).mono<|Qr v) ;dsimp only))
  go_wp2;go_ret;rw[ku D];exact⟨rfl,C⟩
def zxo(w:World)(M:Nat)(pv:Value)(n:ByteArray)(ls:List (List Int))(cs:List Value):Prop:=
 cs.length=ls.length*4/\∀k (hk:k<ls.length),∃ma mn mc,(cs.drop<|k*4).take 4=[.string (kv0 n ls[k]),pT M,pv,.slice ma mn mc]/\w.ownsRow 0 3 1 (.slice ma mn mc) ls[k].length (ls[k].map (Value.int .i64))
theorem zxo.tk(h:zxo w M pv b7 ls cs)(f:Tk x bad w w')(j:pz w x)(d:3∉bad):zxo w' M pv b7 ls cs:=
 ⟨h.1,λk g=>by have⟨a,b,c,e,i⟩:=h.2 k g;exact⟨a,b,c,e,jq i f j d⟩⟩
theorem zxo.snoc{l:List Int}(h:zxo w M pv b7 ls cs)(g:w.ownsRow 0 3 1 (.slice ma mn mc) l.length (l.map (Value.int .i64))):zxo w M pv b7 (ls++[l]) (cs++[.string (kv0 b7 l),pT M,pv,.slice ma mn mc]):=by
 refine⟨by simp[h.1];omega,λk f=>?_⟩;by_cases d:k<ls.length
 ·have e:=h.1;rw[Jl aj,Jv (by grind),Qn d];exact h.2 k d
 ·have:k=ls.length:=by grind
  subst this;rw[<-h.1,J4];grind
theorem pj7(h:(cs.drop (k*4)).take 4=[vv,tv,sv,nv]):cs[k*4]?=some vv/\cs[k*4+1]?=some tv/\cs[k*4+2]?=some sv/\cs[k*4+3]?=some nv:=by
 have g:∀j,j<4->cs[k*4+j]?=([vv,tv,sv,nv]:List Value)[j]?:=λj d=>by grind
 exact⟨g 0 aj,g 1 aj,g 2 aj,g 3 aj⟩
theorem zqe(M:Nat)(hm:kwm mo w (.slice a0 n0 c0) (.slice a1 n1 c1) (.slice a2 n2 c2) (.slice a3 n3 c3) (.slice a4 n4 c4) m)(hf:MdFit m)(n:Tok)(aC:n.x.size<=1000)(hP:w.ownsRow lo 352 4 (.slice pa pn pc) e8.length (uq e8))(hl:e8.length<=1000)(hr:chO m.j e8 [[]]=some r)(C:∀x∈r,zqi x=true)(aI:r.length<=100000):Calls prog 100 #[pT M,mdV a0 a1 a2 a3 a4 n0 n1 n2 n3 n4 c0 c1 c2 c3 c4,.agg #[.string n.x,i_ n.v],.slice pa pn pc] w λe w'=>∃xa xn xc cs,rT e (.slice xa xn xc)/\w'.ownsRow w.heap.size 176 4 (.slice xa xn xc) r.length cs/\zxo w' M (.slice pa pn pc) n.x r cs/\oq w w':=by
 have⟨W,J⟩:=cpy<|(w.alloc<|.cells #[.slice a0 n0 c0,.slice a1 n1 c1,.slice a2 n2 c2,.slice a3 n3 c3,.slice a4 n4 c4] 68).alloc (.cells #[.string n.x,i_ n.v] 107);have l:oq w W:=by rw[J];exact(jZ w).trans ((jZ _).mono ay)
 have aD:w.heap.size+1<W.heap.size:=by simp_all
 have hN:W.heap[w.heap.size+1]?=some (.cells #[.string n.x,i_ n.v] 107 (0,0)):=by grind [qy,World.size_alloc]
 have z:=vxe (hm.stay λk _ L=>l.block k L) hf (qj hP l) hl hr;unfold mdV at z |-;have⟨HN,a9,a6⟩:=jF hN J.symm C;clear hr hN J C;go_in
 go_wp21;rw[ku a9];refine z.mono ?_;rintro e y ⟨v1,rfl,v,s⟩;obtain⟨xa,xn,xc,cs,rfl,O,u⟩:=v;obtain⟨ya,yc,I,(HV:Hid _)⟩:=qp O;injection I with I e2 e3;subst I;subst e2;subst e3;have aJ:=s.size;have Y:=oz<|(s.block _ aD).trans HN;have S:=l.trans<|s.mono aj;go_wp21
 go_loopw [9,11,16] (λx _ i wr=>∃(k:Nat)(P:Option Addr)(R Q:Nat)(ds:List Value),k<=r.length/\i=i_ k/\x=.slice P R Q/\wr.ownsRow y.heap.size 176 4 (.slice P R Q) k ds/\zxo wr M (.slice pa pn pc) n.x (r.take k) ds/\oq y wr) (λ_ _ i _=>r.length-(intOf i).toNat);exact⟨0,none,0,0,[],jG,rfl,rfl,jT,⟨rfl,λk L=>by grind⟩,bR⟩;obtain⟨k,P,R,Q,ds,L,rfl,rfl,N,d,hb⟩:=hrel;have aE:=hb.size;by_cases j:k<r.length
 ·obtain⟨g,rfl,aH,aB,hc⟩:=ku HV k j;have⟨ca,cn,cc,ec,aA⟩:=u.2 k j;have e0:wr.cell? (Ad g k)=some (.slice ca cn cc):=by rw[hb.cell (p:=⟨g,k,none⟩) aB,hc k aj];exact ec
  have U:=qj aA hb;have B:=(hb.block _ aj).trans Y;have q0:=kj6 B;have D:=(ku a6) _<|wZ j;have A:=zv0 n U D aC;have⟨a7,H,F,E,G⟩:=jz (tJ j:r.take (k+1)=r.take k++[r[k]]) N d hb (⟨_,rfl⟩:∃tt,tt=kv0 n.x r[k]);have⟨tt,t⟩:=ku G;rw[<-t]at A;have a8:=oz t;generalize r[k]=c at *;clear hc hb ec N d B D t;go_wp21
  refine zM A λw2 f=>?_;have aK:=f.size;have q:=qj H f;have X:=F.tk (yt f none [176]) (pz.none _) ak;have V:=qj U f;have T:=E.trans<|f.mono aE;go_wp2_with (at_builtin;refine apO (q.alloc _) ?_)
  intro v3 w3 Z h _ K;obtain⟨a5,l5,c5,rfl⟩:=qh Z;have k3:Tk none [176] w2 w3:=(yt (jZ w2) _ _).trans<|kz4 (q.alloc _) h ay;have aG:=show zxo w3 M (.slice pa pn pc) n.x (r.take<|k+1) (ds++[.string tt,pT M,.slice pa pn pc,.slice ca cn cc]) by rw[ku a7,ku a8];exact(X.snoc V).tk k3 (pz.none _) ak
  have aF:=(T.alloc aj _).grown h ah<|jo q;clear K;go_wp2
  grind [ku,intOf]
 ·have:k=r.length:=by omega
  subst this;rw[Qc]at d;have H:=qo (by omega:w.heap.size<=y.heap.size) N;have F:=oz d;have E:=S.trans<|hb.mono aj;go_wp2
  go_ret;exact⟨_,_,_,_,rfl,H,F,E⟩
abbrev AsS(M b R:Nat)(xv x0 x1 x2 x3 y3 y4:Value)(w:World):Prop:=
 w.cell? ⟨M,0,none⟩=some xv/\w.cell? ⟨b,0,none⟩=some x0/\w.cell? ⟨b,1,none⟩=some x1/\w.cell? ⟨b,2,none⟩=some x2/\w.cell? ⟨b,3,none⟩=some x3/\w.cell? ⟨R,3,none⟩=some y3/\w.cell? ⟨R,4,none⟩=some y4
theorem AsS.below(h:AsS M b R xv x0 x1 x2 x3 y3 vv w)(hb:Below B w w')(hM:M<B)(j:b<B)(hR:R<B):AsS M b R xv x0 x1 x2 x3 y3 vv w':=by have⟨d,s1,e,s3,f,g,i⟩:=h;exact⟨(hb.cell (p:=⟨M,0,none⟩) aj).trans d,(hb.cell (p:=⟨b,0,none⟩) aj).trans s1,(hb.cell (p:=⟨b,1,none⟩) aj).trans e,(hb.cell (p:=⟨b,2,none⟩) aj).trans s3,(hb.cell (p:=⟨b,3,none⟩) aj).trans f,(hb.cell (p:=⟨R,3,none⟩) aj).trans g,(hb.cell (p:=⟨R,4,none⟩) aj).trans i⟩
theorem pjy(h:kzd lo so w M nb steps nevers sets vars tab size sv nv tv vv)(hb:oq w w3)(e:(w3.alloc o).grownBy w4 sv.ownBlock):Rw w4 M #[sv,nv,tv,vv,.map (some nb),i_ size] 105:=by have d:Rw (w3.alloc o) M #[sv,nv,tv,vv,.map<|some nb,i_ size] 105:=zy<|(hb.block M<|wQ h.e).trans h.e;have⟨cs,f,_⟩:=h.X;exact(kz4 (x:=none) (bad:=[178]) (qj f<|hb.alloc hb.size o) e ak).e d ay ak
theorem xvb(h:kzd lo so w M nb steps nevers sets vars tab size sv nv tv vv)(v:w.ownsRow lo 178 6 sv steps.length cs)(u:qqx 0 so w M steps cs)(hb:oq w w3)(C:zz2 0 so w3 M s ds)(A:ds.length=6)(m:(w3.alloc<|.cells ds.toArray 178).grownBy w4 sv.ownBlock)(B:w4.ownsRow lo 178 6 (sL gg (steps.length+1) gcap) (steps.length+1) (cs++ds))(g:lo<=w.heap.size):(∃gv gn gc,kzd lo so (w4.setCell (Ad M 0)<|sL gg (steps.length+1) gcap) M nb (steps++[s]) nevers sets vars tab size (.slice gv gn gc) nv tv vv)/\Tk none [105,178] w (w4.setCell (Ad M 0)<|sL gg (steps.length+1) gcap)/\Below lo w (w4.setCell (Ad M 0)<|sL gg (steps.length+1) gcap):=by
 have i:=pjy h hb m;have t:=xwg i<|sL gg (steps.length+1) gcap;have d:oq w (w3.alloc<|.cells ds.toArray 178):=hb.alloc hb.size _;have j:=qj v d;have k4:Tk none [105,178] (w3.alloc<|.cells ds.toArray 178) w4:=kz4 j m ak;have k5:Tk none [105] w4 (w4.setCell (Ad M 0)<|sL gg (steps.length+1) gcap):=qqa i ak 0 _;have k:=k4.trans (k5.wide (by decide:∀e∈[105],e∈[105,178]));have k3:=(yt (jZ w3 (o:=.cells ds.toArray 178)) none [105,178]).trans k;have K:=(yt d none [105,178]).trans k;have f:=pz.none w;have⟨F,h1,l,x,⟨c4,y,E⟩,z,q,h7⟩:=h;have⟨c2,l,D⟩:=l;refine⟨⟨_,_,_,⟨t,⟨cs++ds,?_,?_⟩,⟨c2,jq l K f ak,D.tk K f ak ak⟩,jq x K f ak,⟨c4,jq y K f ak,E.tk K f ak⟩,z.tk K ay,q,h7⟩⟩,K,?_⟩
 ·grind [jq,pz.none]
 ·exact(u.tk K f ak ak).snoc (C.tk k3 (pz.none _) ak ak) A
 ·exact(((d.mono g)).grown m (rP g d.size)<|jo j).setCell (p:=⟨M,0,none⟩) q _
theorem jys(h:kzd lo so w M nb steps nevers sets vars tab size sv nv tv vv)(hm:kwm so w (.slice a0 n0 c0) (.slice a1 n1 c1) (.slice a2 n2 c2) (.slice a3 n3 c3) (.slice a4 n4 c4) m)(hf:MdFit m)(aV:rl.y.x.size<=1000)(hP:w.ownsRow so 352 4 (.slice pa pn pc) rl.u.length (uq rl.u))(aX:rl.u.length<=1000)(hX:XIs so w rl.guard (.pointer gp))(hB:w.ownsRow so 334 9 (.slice ta B fuel) (kqq rl.S) bs)(aP:BIs so none w rl.S bs)(hr:chO m.j rl.u [[]]=some r)(a6:∀x∈r,zqi x=true)(aY:r.length<=100000)(bA:steps.length<=100000)(aU:lo<=w.heap.size):Calls prog 58 #[pT M,mdV a0 a1 a2 a3 a4 n0 n1 n2 n3 n4 c0 c1 c2 c3 c4,.agg #[.string rl.y.x,i_ rl.y.v,.slice pa pn pc,.pointer gp,.slice ta B fuel]] w λe w'=>rT e (.tuple #[])/\(∃u gn gc,kzd lo so w' M nb (steps++r.map (λms=>(⟨kv0 rl.y.x ms,rl.u,ms,rl.guard,rl.S⟩:MStep))) nevers sets vars tab size (.slice u gn gc) nv tv vv)/\Tk none [105,178] w w'/\Below lo w w':=by
 have⟨W,hW⟩:=cpy<|(w.alloc<|.cells #[.slice a0 n0 c0,.slice a1 n1 c1,.slice a2 n2 c2,.slice a3 n3 c3,.slice a4 n4 c4] 68).alloc (.cells #[.string rl.y.x,i_ rl.y.v,.slice pa pn pc,.pointer gp,.slice ta B fuel] 127);have j:oq w W:=jX;have aZ:w.heap.size+1<W.heap.size:=by simp_all
 have hN:W.heap[w.heap.size+1]?=some (.cells #[.string rl.y.x,i_ rl.y.v,.slice pa pn pc,.pointer gp,.slice ta B fuel] 127 (0,0)):=by grind [qy,World.size_alloc]
 have I:=zqe M (hm.stay λk _ E=>j.block k E) hf rl.y aV (qj hP j) aX hr a6 aY;unfold mdV at I |-;have⟨HN,aN⟩:=jS hN hW.symm;have aI:=h.below j;have HP:=qj hP j;have HX:=hX.below j;have aH:=qj hB j;have aG:=show BIs so none W rl.S bs from aP.stay λk _ E=>j.block k E
 clear hr a6 hN hW;go_in;go_wp21;rw[ku aN];refine I.mono ?_;rintro e F ⟨xa,xn,xc,cs,rfl,N,HI,l⟩;obtain⟨ya,yc,A,(HV:Hid _)⟩:=qp N;injection A with A e2 e3;subst A;subst e2;subst e3;have b9:=l.size;have aJ:=oz<|(l.block _ aZ).trans HN;have J:=aI.below l;have aK:=qj HP l;have aO:=HX.below l;have aA:=qj aH l;have a9:=show BIs so none F rl.S bs from aG.stay λk _ E=>l.block k E
 have X:=j.trans<|l.mono aj;go_wp21
 go_loopw [7,16] (λ_ i wr=>∃k:Nat,k<=r.length/\i=i_ k/\(∃u gn gc,kzd lo so wr M nb (steps++(r.take k).map (λms=>(⟨kv0 rl.y.x ms,rl.u,ms,rl.guard,rl.S⟩:MStep))) nevers sets vars tab size (.slice u gn gc) nv tv vv)/\Tk none [105,178] F wr/\Below lo F wr) (λ_ i _=>r.length-(intOf i).toNat)
 case atStart=>
  obtain⟨gx,aT⟩:∃gx:List Value,F.ownsRow lo 178 6 sv steps.length gx:=by have⟨q,hq,_⟩:=J.X;grind
  have⟨u,gc,e,_⟩:=qp aT;subst e;exact⟨0,jG,rfl,⟨u,_,gc,by simpa using ku J⟩,Tk.refl _ _ _,bR⟩
 case round=>
  obtain⟨k,E,rfl,⟨va,vn,vc,t⟩,d,hb⟩:=hrel;have bB:=d.size;by_cases Q:k<r.length
  ·have aF:=jq N d (pz.none _) ak;have⟨yb,yd,A,a8⟩:=qp aF;injection A with A e2 e3;subst A;subst e3;obtain⟨g,rfl,b7,b8,P⟩:=a8 k Q;have⟨ma,mn,mc,ec,aS⟩:=HI.2 k Q;have aE:=jq aS d (pz.none _) ak;have⟨s0,s1,s2,s3⟩:=pj7 ec;have e0:=(P (k*4) aj).trans s0;have A:=(P (k*4+1) aj).trans s1;have e2:=(P (k*4+2) aj).trans s2;have e3:=(P (k*4+3) aj).trans s3;have a5:=d.e aJ ay ak;have aW:=jq aK d (pz.none _) ak;have b4:=aO.tk d (pz.none _) ak;have aD:=jq aA d (pz.none _) ak;have aC:=a9.tk d (pz.none _) ak ak;have⟨tt,T⟩:=cpy<|kv0 rl.y.x r[k];obtain⟨one,C⟩:∃one:MStep,one=(λms=>(⟨kv0 rl.y.x ms,rl.u,ms,rl.guard,rl.S⟩:MStep)) r[k]:=⟨_,rfl⟩;have aL:zz2 0 so wr M one [.string tt,pT M,.slice pa pn pc,.slice ma mn mc,.pointer gp,.slice ta B fuel]:=by rw[C,T];exact⟨pa,pn,pc,ma,mn,mc,gp,ta,B,fuel,bs,none,rfl,qo jG aW,qo jG aE,b4,aD,aC⟩
   have b6:=oz (by rw[C,tJ Q,Qw,<-sZ];rfl:(steps++(r.take<|k+1).map (λms=>(⟨kv0 rl.y.x ms,rl.u,ms,rl.guard,rl.S⟩:MStep)))=(steps++(r.take k).map (λms=>(⟨kv0 rl.y.x ms,rl.u,ms,rl.guard,rl.S⟩:MStep)))++[one]);have bC:(steps++(r.take k).map (λms=>(⟨kv0 rl.y.x ms,rl.u,ms,rl.guard,rl.S⟩:MStep))).length<=200000:=by grind
   rw[<-T]at e0;generalize (steps++(r.take k).map (λms=>(⟨kv0 rl.y.x ms,rl.u,ms,rl.guard,rl.S⟩:MStep)))=U at *;have R:=t.e;have aQ:M<wr.heap.size:=wQ R;have⟨m0,m1,m2,m3,m4,m5,f0,f1,f2,f3,f4,f5⟩:=kzh R;have Z:w.heap.size+1<wr.heap.size:=aj;have⟨u0,u1,u2,u3,u4,_⟩:=jl a5;have D:oq wr (wr.alloc<|.cells #[.string tt,pT M,.slice pa pn pc,.slice ma mn mc] 176):=jZ _;have O:Rw (wr.alloc<|.cells #[.string tt,pT M,.slice pa pn pc,.slice ma mn mc] 176) wr.heap.size #[.string tt,pT M,.slice pa pn pc,.slice ma mn mc] 176:=qy;have⟨b0,b1,b2,b3,_⟩:=kz3 O;have z:=oz (show AsS M wr.heap.size (w.heap.size+1) (.slice va vn vc) (.string tt) (pT M) (.slice pa pn pc) (.slice ma mn mc) (.pointer gp) (.slice ta B fuel) (wr.alloc<|.cells #[.string tt,pT M,.slice pa pn pc,.slice ma mn mc] 176).drew from⟨(D.cell (p:=⟨M,0,none⟩) aQ).trans m0,b0,b1,b2,b3,(D.cell (p:=⟨w.heap.size+1,3,none⟩) Z).trans u3,(D.cell (p:=⟨w.heap.size+1,4,none⟩) Z).trans u4⟩);have⟨xs,Y,aB⟩:=t.X;have⟨L,aM,HB⟩:=jF t d hb;have y:=show oq wr (wr.alloc<|.cells #[.string tt,pT M,.slice pa pn pc,.slice ma mn mc] 176).drew from D.drew
   generalize r[k]=c at *;clear P ec s0 s1 s2 s3 a8 a5 T C t d hb O b0 b1 b2 b3 u0 u1 u2 u3 u4 m0 m1 m2 m3 m4 m5 f0 f1 f2 f3 f4 f5 R;go_upto_region 4 with fail
   refine bg (S:=AsS M wr.heap.size (w.heap.size+1) (.slice va vn vc) (.string tt) (pT M) (.slice pa pn pc) (.slice ma mn mc) (.pointer gp)<|.slice ta B fuel) (tl:=[12,13,14,15]) au ?_;refine frS 0 ?_;refine frS 1 ?_;refine frS 2 ?_;refine frS 3 ?_;refine tkS 4 z ?_;refine tkS 5 z ?_;refine frS 6 ?_;refine tkS 7 z ?_;refine frS 8 ?_;refine tkS 9 z ?_;refine frS 10 ?_;refine onS 11 λK f=>?_
   go_simp;refine f _ _ (z.below (jZ _) (by simp;omega:M<(wr.alloc _).heap.size) (by simp:wr.heap.size<(wr.alloc _).heap.size) (by simp;omega:w.heap.size+1<(wr.alloc _).heap.size)) ?_;clear f K;refine kyj ?_;refine onA 12 λK f=>?_
   refine apL (qj Y<|y.alloc y.size _) (alloc_at (wr.heap.size+1) ay) ?_ (H:=wr.heap.size+2) (hH:=ay);intro gg gcap w4 V s aR b5;refine f _ _ ?_;clear f K;have s:((wr.alloc<|.cells #[.string tt,pT M,.slice pa pn pc,.slice ma mn mc] 176).drew.alloc<|.cells #[.string tt,pT M,.slice pa pn pc,.slice ma mn mc,.pointer gp,.slice ta B fuel] 178).grownBy w4 (Value.slice va vn vc).ownBlock:=s;have a7:=pjy L y s;have m0:=kzh a7;have v:=xvb L Y aB y (aL.tk (yt y none []) (pz.none _) ay ay) rfl s V aj;have G:=oz (⟨v.1,aM.trans v.2.1,HB.trans v.2.2⟩:(∃u gn gc,kzd lo so (w4.setCell (Ad M 0)<|sL gg (U.length+1) gcap) M nb (U++[one]) nevers sets vars tab size (.slice u gn gc) nv tv vv)/\Tk none [105,178] F (w4.setCell (Ad M 0)<|sL gg (U.length+1) gcap)/\Below lo F (w4.setCell (Ad M 0)<|sL gg (U.length+1) gcap));clear a7 aR v;refine onA 13 λK f=>?_
   go_simp;refine f _ _ ?_;clear f K;refine onA 14 λK f=>?_
   go_simp;refine f _ _ ?_;clear f K;refine onA 15 λK f=>?_
   go_simp;refine f _ _ ?_;clear f K;refine wpAny_done au ?_ _;go_wp2;grind [ku,intOf]
  ·have:k=r.length:=by omega
   subst this;rw[Qc]at t;have G:=oz (⟨⟨va,vn,vc,t⟩,(yt X _ _).trans d,(X.mono aU).trans hb⟩:(∃u gn gc,kzd lo so wr M nb (steps++r.map (λms=>(⟨kv0 rl.y.x ms,rl.u,ms,rl.guard,rl.S⟩:MStep))) nevers sets vars tab size (.slice u gn gc) nv tv vv)/\Tk none [105,178] w wr/\Below lo w wr);go_wp2;go_end0;exact⟨rfl,G⟩
abbrev AnS(M b R:Nat)(xv x0 x1 x2 x3 y3:Value)(w:World):Prop:=
 w.cell? ⟨M,1,none⟩=some xv/\w.cell? ⟨b,0,none⟩=some x0/\w.cell? ⟨b,1,none⟩=some x1/\w.cell? ⟨b,2,none⟩=some x2/\w.cell? ⟨b,3,none⟩=some x3/\w.cell? ⟨R,3,none⟩=some y3
theorem AnS.below(h:AnS M b R xv x0 x1 x2 x3 y3 w)(hb:Below B w w')(hM:M<B)(i:b<B)(hR:R<B):AnS M b R xv x0 x1 x2 x3 y3 w':=by have⟨d,s1,e,s3,f,g⟩:=h;exact⟨(hb.cell (p:=⟨M,1,none⟩) aj).trans d,(hb.cell (p:=⟨b,0,none⟩) aj).trans s1,(hb.cell (p:=⟨b,1,none⟩) aj).trans e,(hb.cell (p:=⟨b,2,none⟩) aj).trans s3,(hb.cell (p:=⟨b,3,none⟩) aj).trans f,(hb.cell (p:=⟨R,3,none⟩) aj).trans g⟩
theorem pjg(h:kzd lo so w M nb steps nevers sets vars tab size sv nv tv vv)(hb:oq w w3)(e:(w3.alloc o).grownBy w4 nv.ownBlock):Rw w4 M #[sv,nv,tv,vv,.map (some nb),i_ size] 105:=by have d:Rw (w3.alloc o) M #[sv,nv,tv,vv,.map<|some nb,i_ size] 105:=zy<|(hb.block M<|wQ h.e).trans h.e;have⟨cs,f,_⟩:=h.q;exact(kz4 (x:=none) (bad:=[208]) (qj f<|hb.alloc hb.size o) e ak).e d ay ak
theorem xvm(h:kzd lo so w M nb steps nevers sets vars tab size sv nv tv vv)(s:w.ownsRow lo 208 5 nv nevers.length cs)(q:qxn 0 so w M nevers cs)(hb:oq w w3)(z:jzn 0 so w3 M b5 ds)(x:ds.length=5)(l:(w3.alloc<|.cells ds.toArray 208).grownBy w4 nv.ownBlock)(y:w4.ownsRow lo 208 5 (sL gg (nevers.length+1) gcap) (nevers.length+1) (cs++ds))(g:lo<=w.heap.size):(∃gv gn gc,kzd lo so (w4.setCell (Ad M 1)<|sL gg (nevers.length+1) gcap) M nb steps (nevers++[b5]) sets vars tab size sv (.slice gv gn gc) tv vv)/\Tk none [105,208] w (w4.setCell (Ad M 1)<|sL gg (nevers.length+1) gcap)/\Below lo w (w4.setCell (Ad M 1)<|sL gg (nevers.length+1) gcap):=by
 have i:=pjg h hb l;have d:oq w (w3.alloc<|.cells ds.toArray 208):=hb.alloc hb.size _;have j:=qj s d;have k4:Tk none [105,208] (w3.alloc<|.cells ds.toArray 208) w4:=kz4 j l ak;have k5:Tk none [105] w4 (w4.setCell (Ad M 1)<|sL gg (nevers.length+1) gcap):=qqa i ak 1 _;have k:=k4.trans (k5.wide (by decide:∀e∈[105],e∈[105,208]));have K:=(yt d none [105,208]).trans k;have f:=pz.none w;have⟨C,h1,D,t,⟨c4,u,B⟩,v,m,h7⟩:=h;have⟨c1,h1,A⟩:=h1;refine⟨⟨_,_,_,⟨(xwu i<|sL gg (nevers.length+1) gcap),⟨c1,jq h1 K f ak,A.tk K f ak ak⟩,⟨cs++ds,?_,?_⟩,jq t K f ak,⟨c4,jq u K f ak,B.tk K f ak⟩,v.tk K ay,m,h7⟩⟩,K,?_⟩
 ·grind [jq,pz.none]
 ·exact(q.tk K f ak ak).snoc (z.tk ((yt (jZ w3 (o:=.cells ds.toArray 208)) none [105,208]).trans k) (pz.none _) ak ak) x
 ·exact(((d.mono g)).grown l (rP g d.size)<|jo j).setCell (p:=⟨M,1,none⟩) m _
theorem jxg(h:kzd lo so w M nb steps nevers sets vars tab size sv nv tv vv)(hm:kwm so w (.slice a0 n0 c0) (.slice a1 n1 c1) (.slice a2 n2 c2) (.slice a3 n3 c3) (.slice a4 n4 c4) m)(hf:MdFit m)(aF:rl.y.x.size<=1000)(hP:w.ownsRow so 352 4 (.slice pa pn pc) rl.u.length (uq rl.u))(aI:rl.u.length<=1000)(hX:XIs so w rl.guard (.pointer gp))(hr:chO m.j rl.u [[]]=some r)(aG:∀x∈r,zqi x=true)(aJ:r.length<=100000)(aR:nevers.length<=100000)(aE:lo<=w.heap.size):Calls prog 59 #[pT M,mdV a0 a1 a2 a3 a4 n0 n1 n2 n3 n4 c0 c1 c2 c3 c4,.agg #[.string rl.y.x,i_ rl.y.v,.slice pa pn pc,.pointer gp]] w λe w'=>rT e (.tuple #[])/\(∃s gn gc,kzd lo so w' M nb steps (nevers++r.map (λms=>(⟨kv0 rl.y.x ms,rl.u,ms,rl.guard⟩:MNever))) sets vars tab size sv (.slice s gn gc) tv vv)/\Tk none [105,208] w w'/\Below lo w w':=by
 have⟨W,hW⟩:=cpy<|(w.alloc<|.cells #[.slice a0 n0 c0,.slice a1 n1 c1,.slice a2 n2 c2,.slice a3 n3 c3,.slice a4 n4 c4] 68).alloc (.cells #[.string rl.y.x,i_ rl.y.v,.slice pa pn pc,.pointer gp] 130);have j:oq w W:=jX;have aK:w.heap.size+1<W.heap.size:=by simp_all
 have HN:W.heap[w.heap.size+1]?=some (.cells #[.string rl.y.x,i_ rl.y.v,.slice pa pn pc,.pointer gp] 130 (0,0)):=by grind [qy,World.size_alloc]
 have C:=zqe M (hm.stay λk _ hk=>j.block k hk) hf rl.y aF (qj hP j) aI hr aG aJ;unfold mdV at C |-;go_in
 go_wp21;rw[(oz hW.symm)];refine C.mono ?_;rintro e O ⟨xa,xn,xc,cs,rfl,u,a5,y⟩;obtain⟨rfl,HV⟩:=kja u;have D:=(h.below j).below y;have a6:=qj (qj hP j) y;have a9:=(hX.below j).below y;have T:=(oz j).trans<|y.mono aj;go_wp21
 go_loopw [7,16] (λ_ i wr=>∃k:Nat,k<=r.length/\i=i_ k/\(∃s gn gc,kzd lo so wr M nb steps (nevers++(r.take k).map (λms=>(⟨kv0 rl.y.x ms,rl.u,ms,rl.guard⟩:MNever))) sets vars tab size sv (.slice s gn gc) tv vv)/\Tk none [105,208] O wr/\Below lo O wr) (λ_ i _=>r.length-(intOf i).toNat)
 case atStart=>
  obtain⟨gx,aD⟩:∃gx:List Value,O.ownsRow lo 208 5 nv nevers.length gx:=by have⟨q,hq,_⟩:=D.q;grind
  have⟨s,gc,e,_⟩:=qp aD;subst e;exact⟨0,jG,rfl,⟨s,_,gc,by simpa using ku D⟩,Tk.refl _ _ _,bR⟩
 case round=>
  obtain⟨k,hk,rfl,⟨va,vn,vc,l⟩,d,hb⟩:=hrel;by_cases J:k<r.length
  ·have u:=jq (oz u) d (pz.none _) ak;have⟨yb,yd,Q,X⟩:=qp u;injection Q with Q e2 e3;subst Q;subst e3;obtain⟨g,rfl,aP,aQ,I⟩:=X k J;have⟨ma,mn,mc,ec,aC⟩:=(oz a5).2 k J;have⟨s0,s1,s2,s3⟩:=pj7 ec;have e0:=(I (k*4) aj).trans s0;have Q:=(I (k*4+1) aj).trans s1;have e2:=(I (k*4+2) aj).trans s2;have e3:=(I (k*4+3) aj).trans s3;have V:=d.e ((y.block _ aK).trans HN) ay ak;have aH:=jq a6 d (pz.none _) ak;have aL:=a9.tk d (pz.none _) ak;have⟨tt,N⟩:=cpy<|kv0 rl.y.x r[k];obtain⟨one,A⟩:∃one:MNever,one=(λms=>(⟨kv0 rl.y.x ms,rl.u,ms,rl.guard⟩:MNever)) r[k]:=⟨_,rfl⟩;have a7:jzn 0 so wr M one [.string tt,pT M,.slice pa pn pc,.slice ma mn mc,.pointer gp]:=by rw[A,N];exact⟨pa,pn,pc,ma,mn,mc,gp,rfl,qo jG aH,qo jG<|jq aC d (pz.none _) ak,aL⟩
   have aN:=show(nevers++(r.take<|k+1).map (λms=>(⟨kv0 rl.y.x ms,rl.u,ms,rl.guard⟩:MNever)))=(nevers++(r.take k).map (λms=>(⟨kv0 rl.y.x ms,rl.u,ms,rl.guard⟩:MNever)))++[one] by rw[A,tJ J,Qw,<-sZ];rfl
   have aS:(nevers++(r.take k).map (λms=>(⟨kv0 rl.y.x ms,rl.u,ms,rl.guard⟩:MNever))).length<=200000:=by grind
   rw[<-N]at e0;generalize (nevers++(r.take k).map (λms=>(⟨kv0 rl.y.x ms,rl.u,ms,rl.guard⟩:MNever)))=P at *;have L:=l.e;have aA:M<wr.heap.size:=wQ L;have⟨m0,m1,m2,m3,m4,m5,f0,f1,f2,f3,f4,f5⟩:=kzh L;have aB:w.heap.size+1<wr.heap.size:=aj;have⟨u0,u1,u2,u3,_⟩:=kz3 V;have F:oq wr (wr.alloc<|.cells #[.string tt,pT M,.slice pa pn pc,.slice ma mn mc] 176):=jZ _;have G:Rw (wr.alloc<|.cells #[.string tt,pT M,.slice pa pn pc,.slice ma mn mc] 176) wr.heap.size #[.string tt,pT M,.slice pa pn pc,.slice ma mn mc] 176:=qy;have⟨b0,b1,b2,b3,_⟩:=kz3 G;have B:=show AnS M wr.heap.size (w.heap.size+1) (.slice va vn vc) (.string tt) (pT M) (.slice pa pn pc) (.slice ma mn mc) (.pointer gp) (wr.alloc<|.cells #[.string tt,pT M,.slice pa pn pc,.slice ma mn mc] 176).drew from⟨(F.cell (p:=⟨M,1,none⟩) aA).trans m1,b0,b1,b2,b3,(F.cell (p:=⟨w.heap.size+1,3,none⟩) aB).trans u3⟩
   have⟨xs,U,Z⟩:=l.q;have⟨E,a8,HB⟩:=jF l d hb;have v:=show oq wr (wr.alloc<|.cells #[.string tt,pT M,.slice pa pn pc,.slice ma mn mc] 176).drew from F.drew
   generalize r[k]=c at *;clear I ec s0 s1 s2 s3 X V N A l d hb G b0 b1 b2 b3 u0 u1 u2 u3 m0 m1 m2 m3 m4 m5 f0 f1 f2 f3 f4 f5 L;go_upto_region 4 with fail
   refine bg (S:=AnS M wr.heap.size (w.heap.size+1) (.slice va vn vc) (.string tt) (pT M) (.slice pa pn pc) (.slice ma mn mc)<|.pointer gp) (tl:=[10,11,12,13]) au ?_;refine frS 0 ?_;refine frS 1 ?_;refine frS 2 ?_;refine frS 3 ?_;refine tkS 4 B ?_;refine tkS 5 B ?_;refine frS 6 ?_;refine tkS 7 B ?_;refine frS 8 ?_;refine onS 9 λK t=>?_
   go_simp;refine t _ _ (B.below (jZ _) (by simp;omega:M<(wr.alloc _).heap.size) (by simp:wr.heap.size<(wr.alloc _).heap.size) (by simp;omega:w.heap.size+1<(wr.alloc _).heap.size)) ?_;refine kyj ?_;refine onA 10 λK t=>?_
   refine apL (qj U<|v.alloc v.size _) (alloc_at (wr.heap.size+1) ay) ?_ (H:=wr.heap.size+2) (hH:=ay);intro gg gcap w4 R f aO aM;refine t _ _ ?_;have f:((wr.alloc<|.cells #[.string tt,pT M,.slice pa pn pc,.slice ma mn mc] 176).drew.alloc<|.cells #[.string tt,pT M,.slice pa pn pc,.slice ma mn mc,.pointer gp] 208).grownBy w4 (Value.slice va vn vc).ownBlock:=f;have m0:=kzh<|pjg E v f;have z:=xvm E U Z v (a7.tk (yt v none []) (pz.none _) ay ay) rfl f R aj;have Y:=show(∃s gn gc,kzd lo so (w4.setCell (Ad M 1)<|sL gg (P.length+1) gcap) M nb steps (P++[one]) sets vars tab size sv (.slice s gn gc) tv vv)/\Tk none [105,208] O (w4.setCell (Ad M 1)<|sL gg (P.length+1) gcap)/\Below lo O (w4.setCell (Ad M 1)<|sL gg (P.length+1) gcap) from⟨z.1,a8.trans z.2.1,HB.trans z.2.2⟩
   refine onA 11 λK t=>?_
   go_simp;refine t _ _ ?_;refine onA 12 λK t=>?_
   go_simp;refine t _ _ ?_;refine onA 13 λK t=>?_
   go_simp;refine t _ _ ?_;refine wpAny_done au ?_ _;go_wp2;exact rdM ⟨k+1,aj,eu,by simp_all,Y.2⟩
  ·have:k=r.length:=by omega
   subst this;rw[Qc]at l;go_wp2;go_end0;exact⟨rfl,(⟨⟨va,vn,vc,l⟩,(yt T _ _).trans d,(T.mono aE).trans hb⟩:(∃s gn gc,kzd lo so wr M nb steps (nevers++r.map (λms=>(⟨kv0 rl.y.x ms,rl.u,ms,rl.guard⟩:MNever))) sets vars tab size sv (.slice s gn gc) tv vv)/\Tk none [105,208] w wr/\Below lo w wr)⟩
def zku(t:kq3)(s:ByteArray)(e:Mean):Option kq3:=if (t.any λx=>x.1.toList==s.toList)||decide (1000<s.size) then none else some (t++[(s,e)])
theorem jkq{e9:kq3}{g6:Mean}(h:zku a8 b7 g6=some e9):e9=a8++[(b7,g6)]/\b7.size<=1000/\∀x∈a8,x.1.toList≠b7.toList:=by grind [zku]
def jjq:List Tok->Nat->kq3->Option kq3
 |[],_,t=>some t
 |x::l,i,t=>(zku t x.x ⟨false,i⟩).bind λd=>jjq l (i+1) d
def qxb:List PKind->kq3->Option kq3
 |[],t=>some t
 |k::ks,t=>(jjq k.i 0 t).bind λd=>qxb ks d
def qjh(ss:List PSet)(ks:List PKind):List VrT->Nat->kq3->List MVar->Nat->Option (kq3×List MVar×Nat)
 |[],_,t,vs,sz=>some (t,vs,sz)
 |v::l,i,t,vs,sz=>(zku t v.y.x ⟨true,i⟩).bind λd=>if sz<=100000/\vs.length<=1000 then (qw4 ss ks sz v).bind λu=>qjh ss ks l (i+1) d (vs++[u]) (sz+u.d) else none
def qzf(r:PRule)(c:List (List Int))(n:Nat):Bool:=c.all zqi&&decide (c.length<=100000)&&decide (n<=100000)&&decide (r.u.length<=1000)&&decide (r.y.x.size<=1000)
theorem zzm(h:qzf rl ls n=true):(∀x∈ls,zqi x=true)/\ls.length<=100000/\n<=100000/\rl.u.length<=1000/\rl.y.x.size<=1000:=by grind [qzf]
def zjm(rl:PRule):List Int->MStep:=λms=>⟨kv0 rl.y.x ms,rl.u,ms,rl.guard,rl.S⟩
def qvv(rl:PRule):List Int->MNever:=λms=>⟨kv0 rl.y.x ms,rl.u,ms,rl.guard⟩
def qqo(ss:List PSet):List PRule->List MStep->Option (List MStep)
 |[],acc=>some acc
 |r::l,acc=>(chO ss r.u [[]]).bind λc=>if qzf r c acc.length then qqo ss l (acc++c.map (zjm r)) else none
def kvf(ss:List PSet):List PRule->List MNever->Option (List MNever)
 |[],acc=>some acc
 |r::l,acc=>(chO ss r.u [[]]).bind λc=>if qzf r c acc.length then kvf ss l (acc++c.map (qvv r)) else none
structure Mach where
 X:List MStep
 q:List MNever
 j:List Int
 z:List MVar
 C:kq3
 size:Nat
def kje(l:List PSet):List Int:=l.map λs=>mg s.size.x
def jy5(m:MdL):Option Mach:=(qxb m.p []).bind λt=>(qjh m.j m.p m.z 0 t [] 0).bind λx=>(qqo m.j m.l []).bind λst=>(kvf m.j m.q []).map λnv=>⟨st,nv,kje m.j,x.2.1,x.1,x.2.2⟩
theorem zyj(h:Kept nb w w')(bad:List Nat):Tk (some nb) bad w w':=
 ⟨h.os,h.tape,h.output,h.size,λk o h1 d _=>(h.block k (wQ h1) (λe=>d qG)).trans h1⟩
theorem pjt(h:kzd lo so w M nb steps nevers sets vars tab size sv nv tv vv)(l:Kept nb w w')(m:kkd w' nb a8):kzd lo so w' M nb steps nevers sets vars a8 size sv nv tv vv:=by have K:=zyj l [];have d:=h.C.no;have⟨f,⟨c1,h1,p⟩,⟨c2,g,q⟩,i,⟨c4,j,s⟩,t,k,h7⟩:=h;exact⟨K.e f (λe=>d _ _ _ _ e f) ay,⟨c1,jq h1 K d ay,p.tk K d ay ay⟩,⟨c2,jq g K d ay,q.tk K d ay ay⟩,jq i K d ay,⟨c4,jq j K d ay,s.tk K d ay⟩,m,k,h7⟩
theorem pq1(h:kzd lo so w M nb steps nevers sets vars tab size sv nv tv vv)(hb:oq w w3)(e:(w3.alloc o).grownBy w4 tv.ownBlock):Rw w4 M #[sv,nv,tv,vv,.map (some nb),i_ size] 105:=by have d:Rw (w3.alloc o) M #[sv,nv,tv,vv,.map<|some nb,i_ size] 105:=zy<|(hb.block M<|wQ h.e).trans h.e;exact(kz4 (x:=none) (bad:=[3]) (qj h.j<|hb.alloc hb.size o) e ak).e d ay ak
theorem xkp(h:kzd lo so w M nb [] [] sets vars tab size nS nS tv vv){g7:Int}(hb:oq w w3)(j:(w3.alloc<|.cells #[i_ g7] 3).grownBy w4 tv.ownBlock)(u:w4.ownsRow lo 3 1 (sL gg (sets.length+1) gcap) (sets.length+1) (sets.map (Value.int .i64)++[i_ g7]))(f:lo<=w.heap.size):(∃gv gn gc,kzd lo so (w4.setCell (Ad M 2)<|sL gg (sets.length+1) gcap) M nb [] [] (sets++[g7]) vars tab size nS nS (.slice gv gn gc) vv)/\Tk none [105,3] w (w4.setCell (Ad M 2)<|sL gg (sets.length+1) gcap)/\Below lo w (w4.setCell (Ad M 2)<|sL gg (sets.length+1) gcap):=by
 have g:=pq1 h hb j;have d:oq w (w3.alloc<|.cells #[i_ g7] 3):=hb.alloc hb.size _;have i:=qj h.j d;have k4:Tk none [105,3] (w3.alloc<|.cells #[i_ g7] 3) w4:=kz4 i j ak;have k5:Tk none [105] w4 (w4.setCell (Ad M 2)<|sL gg (sets.length+1) gcap):=qqa g ak 2 _;have K:=(yt d none [105,3]).trans (k4.trans<|k5.wide (by decide:∀e∈[105],e∈[105,3]));have m:=pz.none w;have⟨x,_,_,y,⟨c4,q,v⟩,s,l,h7⟩:=h;refine⟨⟨_,_,_,⟨(xwy g<|sL gg (sets.length+1) gcap),⟨[],jT,rfl,λk t=>by grind⟩,⟨[],jT,rfl,λk t=>by grind⟩,?_,⟨c4,jq q K m ak,v.tk K m ak⟩,s.tk K ay,l,h7⟩⟩,K,?_⟩
 ·grind [jq,pz.none]
 ·exact(((d.mono f)).grown j (rP f d.size)<|jo i).setCell (p:=⟨M,2,none⟩) l _
def xwk:List Nat:=[105,178,208,213,3]
structure NwI (w W:World)(lo so M nb:Nat)(steps:List MStep)(nevers:List MNever)(sets:List Int)(vars:List MVar)(tab:kq3)(size:Nat)(sv nv tv vv:Value)(wr:World):Prop where
 mc:kzd lo so wr M nb steps nevers sets vars tab size sv nv tv vv
 tk:Tk (some nb) xwk W wr
 be:Below lo w wr
theorem NwI.below{wr:World}(h:NwI w w' lo so M nb steps nevers sets vars tab size sv nv tv vv wr)(hb:oq wr w3)(d:lo<=wr.heap.size):NwI w w' lo so M nb steps nevers sets vars tab size sv nv tv vv w3:=
 ⟨h.mc.below hb,h.tk.trans<|yt hb _ _,h.be.trans<|hb.mono d⟩
theorem kvy.v:∀{rs:List PRule}{cs:List Value}(i:Nat)(hi:i<rs.length),kvy lo w rs cs ->
  ∃pa pn pc gp ba bn bc bcs,(cs[i*5]?=some (.string (rs[i]).y.x)/\cs[i*5+1]?=some (i_ (rs[i]).y.v)/\cs[i*5+2]?=some (.slice pa pn pc)/\cs[i*5+3]?=some (.pointer gp)/\cs[i*5+4]?=some (.slice ba bn bc))/\w.ownsRow lo 352 4 (.slice pa pn pc) (rs[i]).u.length (uq (rs[i]).u)/\XIs lo w (rs[i]).guard (.pointer gp)/\w.ownsRow lo 334 9 (.slice ba bn bc) (kqq (rs[i]).S) bcs/\BIs lo none w (rs[i]).S bcs
 |[],_,i,hi,_=>by grind
 |r::rs,cs,0,_,⟨pa,pn,pc,gp,ba,bn,bc,bcs,rest,e,h1,h2,h3,h4,h5⟩=>by grind
 |r::rs,cs,i+1,hi,⟨pa,pn,pc,gp,ba,bn,bc,bcs,rest,e,h1,h2,h3,h4,h5⟩=>by
  subst e;have⟨d,f,g,h,j,k,l,m,⟨u,v,x,y,z⟩,p,q,s,t⟩:=kvy.v i (by simp_all) h5;refine⟨d,f,g,h,j,k,l,m,⟨?_,?_,?_,?_,?_⟩,p,q,s,t⟩
  ·grind
  ·grind
  ·grind
  ·grind
  grind
theorem kvg.v:∀{rs:List PRule}{cs:List Value}(i:Nat)(hi:i<rs.length),kvg lo w rs cs ->
  ∃pa pn pc gp,(cs[i*4]?=some (.string (rs[i]).y.x)/\cs[i*4+1]?=some (i_ (rs[i]).y.v)/\cs[i*4+2]?=some (.slice pa pn pc)/\cs[i*4+3]?=some (.pointer gp))/\w.ownsRow lo 352 4 (.slice pa pn pc) (rs[i]).u.length (uq (rs[i]).u)/\XIs lo w (rs[i]).guard (.pointer gp)
 |[],_,i,hi,_=>by grind
 |r::rs,cs,0,_,⟨pa,pn,pc,gp,rest,e,h1,h2,h5⟩=>by grind
 |r::rs,cs,i+1,hi,⟨pa,pn,pc,gp,rest,e,h1,h2,h5⟩=>by subst e;have⟨d,f,g,h,⟨j,k,l,m⟩,p,q⟩:=kvg.v i (by simp_all) h5;grind
theorem jwu:Tk (some b) bad w (w.setCell (Ad b j) vv):=
 ⟨rfl,rfl,rfl,ay,λi o h1 d _=>by grind [Below.heap_setCell]⟩
theorem infoBld:(prog.info? 305).map (·.size)=some 2:=au
theorem infoByte:(prog.info? 5).map (λi=>(i.zero,i.size,i.bytes))=some (some (.int .u8 0),1,1):=au
theorem Tryz.liesBld:liesAt prog prog.depth 305 (2 / prog.cellsOf 305) 0 305 1=true:=au
theorem Tryz.cellsByte:prog.cellsOf 5=1:=au
theorem jz8(f:Ce w b 0 (pT b)):Calls prog 219 #[pT b] w λe w'=>rT e (.tuple #[])/\w'=w:=by have⟨j,d,_⟩:=wX.1 infoBld;go_wp2;rw[Lib.run_neq_ptr_same w _ underlying303 d];go_wp2;go_end0;simp
theorem zwf(i:Ce w b 0 (.pointer none))(d:w.shape? b=some (305,2))(g:Fr w b 0):Calls prog 219 #[pT b] w λe w'=>rT e (.tuple #[])/\w'=w.setCell (Ad b 0) (pT b):=by have⟨j,f,h⟩:=wX.1 infoBld;go_wp2;rw[Lib.run_to_unsafe w ⟨b,0,none⟩ underlying303 underlying389 f aj d (Nat.zero_lt_succ 1)];simp only[Result.andThen];rw[Oper.upon_value];go_wp2;rw[run_callFunc_extern func248 au au au (e:=Extern.AbiNoEscape.same) au,Lib.run_noEscape];simp only[Result.andThen];rw[Oper.upon_value];go_wp2;rw[Lib.run_from_unsafe w ⟨b,0,none⟩ underlying389 underlying303 f d Tryz.liesBld];simp only[Result.andThen];rw[Oper.upon_value];go_wp2;go_end0;simp
theorem zj1(h:Lib.IsBuilder 305 5 B b bs w):og 219 #[pT b] w λe w'=>rT e (.tuple #[])/\(Lib.BuilderAt 305 5 B b (pT b) bs w'/\Below B w w'/\Tk (some b) [5] w w'):=by
 obtain h|h:=h
 ·refine(zwf h.cell0 h.shape h.frozen0).mono ?_;rintro e w' ⟨rfl,rfl⟩;exact⟨rfl,h.used _,(Below.refl B w).setCell (p:=⟨b,0,none⟩) h.1 _,jwu⟩
 ·refine(jz8 h.cell0).mono ?_;grind [Below.refl,Tk.refl]
theorem qq9(c:Int)(h:Lib.IsBuilder 305 5 B b bs w)(I:bs.length+1<=140737488355328)(L:B<=w.heap.size):Calls prog 164 #[pT b,.int .u8 c] w λe w'=>rT e .nilIface/\(Lib.BuilderAt 305 5 B b (pT b) (bs++[.int .u8 c]) w'/\Below B w w'/\Tk (some b) [5] w w'):=by
 have⟨J,hi,D,E,F⟩:=info_parts infoByte;go_in;go_wp21;refine zM (zj1 h) ?_;rintro q ⟨h1,i,y⟩;have⟨G,v,t,f,A⟩:=h1;have c1:q.cell? (Ad b 1)=some v:=by rw[Lib.cell_of_heap t];rfl
 go_wp2_with (at_builtin;refine wpList_append_own _ rfl _ _ 83 rfl B 5 J (.int .u8 0) 1 1 underlying83 hi D E F rfl ak _ _ _ rfl (f.alloc _) (Ad q.heap.size 0) 1 1 [.int .u8 c] rfl rfl ?c1 ?c2 ?c3 ?c4 ?c5 ?_)
 case c1=>
  intro j u l;match j,l with
  |0,l=>simp at l;subst l;simp[Addr.add]
 case c2=>intro u C;simp at C;subst C;rfl
 case c3=>unfold maxLen;omega
 case c4=>omega
 case c5=>have:=i.size;simp;omega
 intro K x m d _;have z:b<q.heap.size:=by grind
 have s:x.heap[b]?=some (.cells #[pT b,v] 305 (0,0)):=by rw[d.block b ah (λe=>A e.symm),Lib.alloc_old q _ b z];exact t
 have d1:x.cell? (Ad b 1)=some v:=by rw[Lib.cell_of_heap s];rfl
 have f1:Fr x b 1:=Lib.frozen_of_heap s 1;obtain⟨g,cap,rfl⟩:∃g cap,K=sL g (bs.length+1) cap:=by
  obtain⟨_,M⟩|⟨g,cap,cur,hv,_⟩:=m.2
  ·omega
  simp_all
 go_wp2;go_ret;refine⟨rfl,?_,?_,((y.alloc _).trans<|kz4 (f.alloc _) d ak).trans<|jwu⟩
 ·grind [Lib.BuilderAt.put]
 ·exact((i.alloc aj _).grown d (by have:=i.size;simp;omega)<|λk H=>(f.lt k H).1).setCell (p:=⟨b,1,none⟩) G _
theorem qvb(s:ByteArray)(h:Lib.IsBuilder 305 5 B b bs w)(H:bs.length+s.size<=140737488355328)(K:B<=w.heap.size):Calls prog 220 #[pT b,.string s] w λe w'=>rT e (.tuple #[i_ s.size,.nilIface])/\(Lib.BuilderAt 305 5 B b (pT b) (bs++Lib.strCells s) w'/\Below B w w'/\Tk (some b) [5] w w'):=by
 have⟨I,hi,z,A,C⟩:=info_parts infoByte;go_in;go_wp21;refine zM (zj1 h) ?_;rintro E ⟨h1,t,u⟩;have⟨F,v,l,f,y⟩:=h1;have c1:E.cell? (Ad b 1)=some v:=by rw[Lib.cell_of_heap l];rfl
 go_wp2_with (at_builtin;refine Lib.wpList_append_own_string _ rfl _ _ 83 9 rfl B 5 I underlying83 underlying9 hi z A C _ _ _ rfl f s rfl ?c3 ?c4 ?c5 ?_)
 case c3=>unfold maxLen;omega
 case c4=>omega
 case c5=>grind
 intro J m i d _;have x:b<E.heap.size:=by grind
 have j:m.heap[b]?=some (.cells #[pT b,v] 305 (0,0)):=(d.block b x (λe=>y e.symm)).trans l
 have d1:m.cell? (Ad b 1)=some v:=by rw[Lib.cell_of_heap j];rfl
 have f1:Fr m b 1:=Lib.frozen_of_heap j 1;obtain⟨q,D,cap,rfl⟩:∃q D cap,J=.slice q D cap:=by
  obtain⟨hv,_⟩|⟨g,cap,cur,hv,_⟩:=i.2
  ·simp_all
  simp_all
 go_wp2;go_ret2;refine⟨rfl,?_,?_,(u.trans<|kz4 f d ak).trans<|jwu⟩
 ·grind [Lib.BuilderAt.put,Lib.strCells_length]
 ·exact(t.grown d aj<|λk G=>(f.lt k G).1).setCell (p:=⟨b,1,none⟩) F _
theorem jxy(h:Lib.IsBuilder 305 5 B b (Lib.byteCells b9) w)(m:b9≠[]):Calls prog 166 #[pT b] w λe w'=>e=.returned (.string ⟨b9.toArray⟩)/\Below B w w':=by
 obtain⟨p,E,v,f,d,D⟩:∃p,Lib.BuilderAt 305 5 B b p (Lib.byteCells b9) w:=by
  obtain h|h:=h
  ·grind
  grind
 have A:b9.length≠0:=by simp_all
 rw[Lib.byteCells_length]at d;obtain⟨g,cap,cur,rfl,y,q,C,i,z,l⟩:∃g cap cur,v=.slice (some ⟨g,0,none⟩) b9.length cap/\B<=g/\w.heap[g]?=some (.cells cur 5 (0,0))/\b9.length<=cap/\cap<=maxLen/\cur.size=cap*1/\cur.toList.take (b9.length*1)=Lib.byteCells b9:=by
  obtain⟨_,F⟩|⟨g,cap,cur,hv,r⟩:=d.2
  ·omega
  ·exact⟨g,cap,cur,hv,r⟩
 have c1:w.drew.cell? ⟨b,1,none⟩=some (.slice (some ⟨g,0,none⟩) b9.length cap):=by have:w.drew.heap[b]?=some (.cells #[p,.slice (some ⟨g,0,none⟩) b9.length cap] 305 (0,0)):=f;rw[Lib.cell_of_heap this];rfl
 have t:(Builtin.unsafeSliceData_ #[83] 367 #[.slice (some ⟨g,0,none⟩) b9.length cap]).run prog w.drew=.ok (.pointer<|some ⟨g,0,none⟩) w.drew:=
  Lib.run_unsafeSliceData_row _ _ _ _ _ _ aj
 have u:(Builtin.unsafeString_ #[367,3] 9 #[.pointer (some ⟨g,0,none⟩),.int .i64 b9.length]).run prog w.drew=.ok (.string ⟨b9.toArray⟩) (w.drew.freeze ⟨g,0,none⟩ b9.length):=by refine Lib.run_unsafeString_row w.drew 367 3 9 5 underlying367 Tryz.cellsByte g cur.size (by have k:w.drew.heap[g]?=some (.cells cur 5 (0,0)):=q;simp[World.shape?,k]) b9 m aj (by unfold maxLen at i;omega) ?_;intro j x s;have:=d.cells (g:=g) rfl j (.int .u8 x.toNat) (by simp[Lib.byteCells,s]);simp_all
 go_wp2;go_region
 all_goals (go_wp2;go_ret;simp_all [Lib.below_freeze,Below.drew,Below.refl])
theorem jvs(h:Lib.IsBuilder 305 5 B b bs w)(hb:oq w w'):Lib.IsBuilder 305 5 B b bs w':=by
 have d:∀p,Lib.BuilderAt 305 5 B b p bs w->Lib.BuilderAt 305 5 B b p bs w':=λp ⟨g,v,h1,e,f⟩=>⟨g,v,(hb.block b<|wQ h1).trans h1,qj e hb,f⟩
 obtain h|h:=h
 ·exact .inl (d _ h)
 ·exact .inr (d _ h)
theorem xqk(h:Lib.IsBuilder 305 5 B b bs w):b<w.heap.size/\B<=b:=by
 obtain h|h:=h
 ·exact⟨h.lt,h.1⟩
 ·exact⟨h.lt,h.1⟩
def zyl(v:MVar)(st:List Int)(i:Nat):Option ByteArray:=(st[i]?).bind λx=>if 0<=x then v.a[x.toNat]? else none
theorem kyb(h:zyl u st i=some b7):∃n:Nat,st[i]?=some (n:Int)/\u.a[n]?=some b7:=by grind [zyl]
def kk9(n:Nat):List UInt8:=if 0<n then [32] else []
def qvg(v:MVar)(st:List Int):Nat->Option (List UInt8)
 |0=>some []
 |n+1=>(qvg v st n).bind λl=>(zyl v st<|v.f+n).bind λt=>if (l++kk9 n++t.data.toList).length<=1000000 then some (l++kk9 n++t.data.toList) else none
def vq5(v:MVar)(st:List Int):Option (List UInt8):=if v.g==-1 then (zyl v st v.f).bind λt=>if t.size<=1000000 then some t.data.toList else none else (qvg v st v.d).map λl=>91::(l++[93])
theorem qwj(s:ByteArray):Lib.strCells s=Lib.byteCells s.data.toList:=rfl
theorem kkw(a b:List UInt8):Lib.byteCells (a++b)=Lib.byteCells a++Lib.byteCells b:=by simp[Lib.byteCells]
theorem jyl:∀(n k:Nat),k<=n->∀r,qvg u st n=some r->∃l,qvg u st k=some l/\l.length<=1000000
 |n,k,hk,r,h=>by
  by_cases e:k=n
  ·subst e;refine⟨r,h,?_⟩;cases k with
   |zero=>grind [qvg]
   |succ k=>
    rw[qvg]at h;have⟨l,h1,d⟩:=wu.1 h;have⟨t,f,g⟩:=wu.1 d;simp_all
  ·cases n with
   |zero=>omega
   |succ n=>
    rw[qvg]at h;have⟨l,h1,_⟩:=wu.1 h;exact jyl n k aj l h1
abbrev WrS(X d e i n:Nat)(tv:Value)(f:Nat)(t:ByteArray)(w:World):Prop:=w.cell? ⟨X,0,none⟩=some (.int .i64 f)/\w.cell? ⟨X,2,none⟩=some tv/\w.cell? ⟨d,i,none⟩=some (.int .u8 n)/\w.cell? ⟨e,n,none⟩=some (.string t)
theorem jwt(h:w.ownsRow lo M 1 (.slice a0 n c) n xs)(hb:Below B w w')(f:∀q,a0=some q->q.block<B)(i:Nat)(hi:i<n){x:Value}(j:xs[i]?=some x):∃g,a0=some ⟨g,0,none⟩/\g<B/\w'.cell? ⟨g,i,none⟩=some x:=by have⟨a',k,M,hv⟩:=qp h;injection M with d _ _;subst d;obtain⟨g,rfl,_,_,e⟩:=hv i hi;have:=f _ rfl;exact⟨g,rfl,this,by rw[hb.cell (p:=⟨g,i,none⟩) this,e i aj];exact j⟩
theorem write_any{g8:List UInt8}(hB:Lib.IsBuilder 305 5 B b (Lib.byteCells b9) w)(hT:w.ownsRow lo 9 1 (.slice ta u.a.length tc) u.a.length (u.a.map Value.string))(hS:w.ownsRow lo 5 1 (.slice sa sn sc) st.length (st.map (Value.int .u8)))(a4:B<=w.heap.size)(aC:∀q,ta=some q->q.block<B)(aA:∀q,sa=some q->q.block<B)(bF:b9.length<=10000000)(bC:u.f<=1000000)(bB:u.d<=1000000)(bI:st.length<=1000000)(bJ:u.a.length<=1000000)(h:vq5 u st=some g8):Calls prog 165 #[.agg #[i_ u.f,i_ u.d,.slice ta u.a.length tc,i_ u.g,i_ u.B],pT b,.slice sa sn sc] w λe w'=>rT e (.tuple #[])/\Lib.IsBuilder 305 5 B b (Lib.byteCells<|b9++g8) w'/\Below B w w':=by
 have⟨za,zc,ez,_⟩:=qp hS;injection ez with aP aQ aR;subst aP;subst aQ;subst aR;have⟨bA,b8⟩:=xqk hB;have⟨W,Q⟩:=cpy<|w.alloc (.cells #[i_ u.f,i_ u.d,.slice ta u.a.length tc,i_ u.g,i_ u.B] 213);have v:oq w W:=by rw[Q];exact jZ w
 have bH:w.heap.size<W.heap.size:=by simp_all
 have HX:Hid (W.heap[w.heap.size]?=some (.cells #[i_ u.f,i_ u.d,.slice ta u.a.length tc,i_ u.g,i_ u.B] 213 (0,0))):=by rw[Q];exact qy
 have J:=jvs hB v;have a2:=qj hT v;have a1:=qj hS v;have a3:=oz Q.symm;have aZ:b≠w.heap.size:=aj;unfold vq5 at h;cases ho:(u.g==-1)
 case true=>
  rw[ho,lJ rfl]at h;have⟨t,Y,h⟩:=wu.1 h;have aB:t.size<=1000000:=by simp_all
  rw[lJ aB]at h;injection h with h;subst h;have⟨n,V,X⟩:=kyb Y;have T:u.f<st.length:=by grind
  have U:n<u.a.length:=by grind
  obtain⟨sg,rfl,aV,es⟩:=jwt a1 (Below.refl B W) aA u.f T (x:=.int .u8 n) (by simp_all);obtain⟨s,rfl,aW,N⟩:=jwt a2 (Below.refl B W) aC n U (x:=.string t) (by simp_all);have⟨x0,x1,x2,x3,x4,_⟩:=jl HX;have d:=oz (⟨x0,x2,es,N⟩:WrS w.heap.size sg s u.f n (sL s u.a.length tc) u.f t W.drew);have L:=qvb t (w:=W.drew) J kU (by show B<=W.heap.size;omega);clear Q V X Y es N x0 x1 x2 x4;go_in;go_upto_region 2 with fail
  rw[ku a3];refine bg (S:=WrS w.heap.size sg s u.f n (sL s u.a.length tc) u.f t) (tl:=[10]) au ?_;refine frS 0 ?_;refine frS 1 ?_;refine tkS 2 d ?_;refine frS 3 ?_;refine frS 4 ?_;refine tkS 5 d ?_;refine frS 6 ?_;refine tkS 7 d ?_;refine frS 8 ?_;refine tkS 9 d ?_;refine kyj ?_;refine onA 10 λK P=>?_
  go_simp;go_at_call 220
  refine zM L ?_;rintro G ⟨h1,R,a8⟩;have HE:=oz (⟨.inr (by grind [kkw,qwj]),(v.mono a4).trans<|show Below B W G from((Below.refl B W).drew).trans R⟩:Lib.IsBuilder 305 5 B b (Lib.byteCells<|b9++t.data.toList) G/\Below B w G);dsimp only;refine P _ _ ?_;clear P K;refine wpAny_done au ?_ _;go_wp2;first
   |(go_end0;exact⟨rfl,HE⟩)
   |(refine tK (results_none rfl _ _ _) rfl ?_;exact⟨rfl,HE⟩)
 case false=>
  rw[ho,Xy ay]at h;obtain⟨Z,(a0:Hid _),rfl⟩:=wX.1 h;have L:=qq9 91 J kU aj;clear Q h;go_in;go_wp21;rw[ku a3];refine zM L ?_;rintro G ⟨h1,R,a8⟩;have M:=oz (a8.e HX (by simp_all) ak);have x0:=jl M;have z:=wQ M;have aI:=show Lib.IsBuilder 305 5 B b (Lib.byteCells<|b9++[91]) G from .inr (by rw[kkw];exact h1)
  have aG:=show Below B W G from R
  go_wp21;go_loopw [6,25] (λ_ i wr=>∃(k:Nat)(l:List UInt8),k<=u.d/\i=i_ k/\qvg u st k=some l/\Lib.IsBuilder 305 5 B b (Lib.byteCells<|(b9++[91])++l) wr/\Below B W wr/\Rw wr w.heap.size #[i_ u.f,i_ u.d,.slice ta u.a.length tc,i_ u.g,i_ u.B] 213) (λ_ i _=>u.d-(intOf i).toNat);exact⟨0,[],jG,rfl,rfl,by rw[Qs];exact aI,aG,M⟩;obtain⟨k,l,hk,rfl,a5,g,hb,F⟩:=hrel;have⟨_,z,bG⟩:=jyl u.d k hk Z a0;rw[a5]at z;injection z with z;subst z;have aB:=hb.size;by_cases aT:k<u.d
  ·have⟨l2,m,b5⟩:=jyl u.d (k+1) aT Z a0;have aF:=oz m;rw[qvg,a5]at m;change (zyl u st<|u.f+k).bind _=_ at m
   have⟨t,Y,p⟩:=wu.1 m;have aS:(l++kk9 k++t.data.toList).length<=1000000:=by simp_all
   rw[lJ aS]at p;injection p with p;have⟨n,V,X⟩:=kyb Y;have T:u.f+k<st.length:=by grind
   have U:n<u.a.length:=by grind
   have b6:t.size<=1000000:=by have hd:t.size=t.data.toList.length:=ay;grind
   have b2:(0:Int)<=(u.f:Int)+k:=aj;have b3:(u.f:Int)+k<st.length:=aj;have b4:((u.f:Int)+k).toNat=u.f+k:=aj;have aY:IntKind.i64.wrap ((u.f:Int)+k)=(u.f:Int)+k:=kQ;have⟨b7,aM,H,aJ⟩:=jE g F hb p;have bK:=wQ F;have aL:=oz (λ(wx:World) (q:List UInt8) (hq:q.length<=20000000) (hi:Lib.IsBuilder 305 5 B b (Lib.byteCells q) wx) (hs:B<=wx.heap.size)=>qvb t hi kU hs);by_cases a7:0<k
   case' pos=>
    have y:=oz (qq9 32 g (by rw[Lib.byteCells_length];grind) aj);clear g F hb m p;go_wp21;refine zM y ?_;rintro f ⟨O,j,D⟩;have E:=D.e aM (by simp_all) ak;have A:=oz (show kk9 k=[32] from lJ a7);have aU:=j.size;have⟨I,C⟩:=jS (show Lib.IsBuilder 305 5 B b (Lib.byteCells<|(b9++[91])++(l++kk9 k)) f from .inr (by rw[ku A,<-sZ,kkw];exact O)) (H.trans j);clear O j D y
   case' neg=>
    obtain⟨f,rfl⟩:=cpy wr;have E:=F;have aU:=wJ f.heap.size;have A:=oz (show kk9 k=[] from Xy a7);have⟨I,C⟩:=jS (show Lib.IsBuilder 305 5 B b (Lib.byteCells<|(b9++[91])++(l++kk9 k)) f from by rw[ku A,Qs];exact g) hb;clear g F hb m p
   all_goals
    obtain⟨sg,rfl,aV,es⟩:=jwt a1 C aA (u.f+k) T (x:=.int .u8 n) (by simp_all);obtain⟨s,rfl,aW,N⟩:=jwt a2 C aC n U (x:=.string t) (by simp_all);have⟨x0,x1,x2,x3,x4,_⟩:=jl E;have d:=oz (⟨x0,x2,es,N⟩:WrS w.heap.size sg s (u.f+k) n (sL s u.a.length tc) u.f t f.drew);have aX:(l++kk9 k).length<=1000000:=by grind
    have⟨aK,aO⟩:=jS (aL f.drew ((b9++[91])++(l++kk9 k)) (by grind) I (by show B<=f.heap.size;omega)) E;clear es N x0 x1 x2 x3 x4 E V X Y;go_upto_region 9 with fail
    refine bg (S:=WrS w.heap.size sg s (u.f+k) n (sL s u.a.length tc) u.f t) (tl:=[12]) au ?_;refine frS 0 ?_;refine frS 1 ?_;refine tkS 2 d ?_;refine frS 3 ?_;refine frS 4 ?_;refine tkS 5 d ?_;refine frS 6 ?_;refine frS 7 ?_;refine frS 8 ?_;refine tkS 9 d ?_;refine frS 10 ?_;refine tkS 11 d ?_;refine kyj ?_;refine onA 12 λK P=>?_
    go_simp;go_at_call 220
    refine zM aK ?_;rintro w8 ⟨h8,a6,a9⟩;have⟨aN,aE,aH⟩:=jF (a9.e (aO:f.drew.heap[w.heap.size]?=_) (by simp_all) ak) (show Lib.IsBuilder 305 5 B b (Lib.byteCells<|(b9++[91])++l2) w8 from .inr (by rw[<-ku aJ,<-sZ,kkw,<-qwj];exact h8)) (C.trans (((Below.refl B f).drew).trans a6:Below B f w8));clear h8 a6 a9;dsimp only;refine P _ _ ?_;clear P K;refine wpAny_done au ?_ _;go_wp2;exact rdM ⟨k+1,l2,aj,eu,aF,aE,aH,aN⟩
  ·have bD:k=u.d:=by omega
   have⟨aD,y,H⟩:=jF (by grind [ku]:l=Z) (qq9 93 g (by rw[Lib.byteCells_length];grind) aj) hb;clear g F hb;go_wp21;refine zM y ?_;rintro f ⟨O,j,D⟩;have HE:=oz (show Lib.IsBuilder 305 5 B b (Lib.byteCells (b9++91::(Z++[93]))) f/\Below B w f from⟨.inr (by
    have e:b9++91::(Z++[93])=((b9++[91])++l)++[93]:=by rw[ku aD];simp
    rw[e,kkw];exact O),(v.mono a4).trans<|H.trans j⟩)
   clear O j D y;go_wp2;go_end0;exact⟨rfl,HE⟩
def pkn(v:MVar):Bool:=decide (v.f<=1000000)&&decide (v.d<=1000000)&&decide (v.a.length<=1000000)
def zj7(vars:List MVar)(st:List Int):Nat->Option (List UInt8)
 |0=>some []
 |n+1=>(zj7 vars st n).bind λl=>(vars[n]?).bind λv=>(vq5 v st).bind λt=>if (l++kk9 n++t).length<=1000000/\pkn v=true then some (l++kk9 n++t) else none
theorem qxs(h:zj7 vars st (n+1)=some b9):∃l v t,zj7 vars st n=some l/\vars[n]?=some v/\vq5 v st=some t/\pkn v=true/\b9=l++kk9 n++t/\b9.length<=1000000:=by rw[zj7]at h;have⟨l,h1,h⟩:=wu.1 h;have⟨v,d,h⟩:=wu.1 h;have⟨t,e,h⟩:=wu.1 h;simp_all
theorem vkd:∀(n k:Nat),k<=n->∀r,zj7 vars st n=some r->∃l,zj7 vars st k=some l/\l.length<=1000000
 |n,k,hk,r,h=>by
  by_cases e:k=n
  ·subst e;refine⟨r,h,?_⟩;cases k with
   |zero=>grind [zj7]
   |succ k=>grind [qxs]
  ·cases n with
   |zero=>omega
   |succ n=>
    have⟨l,_,_,h1,_⟩:=qxs h;exact vkd n k aj l h1
def zqh(vars:List MVar)(st:List Int):Option (List UInt8):=(zj7 vars st vars.length).bind λl=>if l=[] then none else some l
theorem zw1(h:w.ownsRow lo M size (.slice a0 n c) so xs):∀q,a0=some q->q.block<w.heap.size:=by
 intro q e;rcases h.2 with⟨d,_⟩|⟨g,cap,cur,d,_,e3,_⟩
 ·simp_all
 grind
theorem pzo(h:Mc lo w M nb vars tab)(hS:w.ownsRow lo 5 1 (.slice sa sn sc) st.length (st.map (Value.int .u8)))(hv:vars.length<=1000)(aH:st.length<=1000000)(hr:zqh vars st=some b9):Calls prog 95 #[pT M,.slice sa sn sc] w λe w'=>rT e (.string ⟨b9.toArray⟩)/\oq w w':=by
 unfold zqh at hr;have⟨r',aG,u⟩:=wu.1 hr;have J:r'≠[]:=by grind
 rw[Xy J]at u;injection u with u;subst u;have⟨⟨y0,y1,y2,va,vc,z,cs,hM,hV,hI⟩,_⟩:=h;have⟨xa,xc,L,y⟩:=qp hV;injection L with L _ e3;subst L;subst e3;have⟨m0,m1,m2,m3,m4,m5,_⟩:=kzh hM;have aE:=wQ hM;obtain⟨W,N⟩:∃W,W=w.alloc (.cells #[.pointer none,nS] 305):=⟨_,rfl⟩;have F:oq w W:=by rw[N];exact jZ w
 have aU:w.heap.size<W.heap.size:=by simp_all
 obtain⟨b,E⟩:∃b,b=w.heap.size:=⟨_,rfl⟩;have⟨a1,aP,a8,HI,HS,HR,a5,a3⟩:=jx (show Lib.IsBuilder 305 5 w.heap.size b (Lib.byteCells []) W by rw[N,E];exact Lib.fresh_isBuilder _ _ w) ((F.cell (p:=⟨M,3,none⟩) aE).trans m3) y hI hS aG J F;have⟨a9,a2,a7⟩:=jF N.symm E (zw1 hS);clear hr hV y hI hS F N J hM m0 m1 m2 m4 m5 E;go_enter func95,ntmps95
 go_wp2_with fail
 rw[ku a9,<-ku a2];go_loopw [6,7,13] (λ_ _ i wr=>∃(k:Nat)(l:List UInt8),k<=vars.length/\i=i_ k/\zj7 vars st k=some l/\Lib.IsBuilder 305 5 w.heap.size b (Lib.byteCells l) wr/\oq w wr) (λ_ _ i _=>vars.length-(intOf i).toNat)
 case atStart=>exact⟨0,[],jG,rfl,rfl,a1,a3⟩
 case round=>
  obtain⟨k,l,hk,rfl,a0,f,hb⟩:=hrel;have⟨_,s,aT⟩:=vkd vars.length k hk r' HR;rw[a0]at s;injection s with s;subst s;have aI:=hb.size;have⟨aQ,_⟩:=xqk f;by_cases I:k<vars.length
  ·have⟨l2,H,aL⟩:=vkd vars.length (k+1) I r' HR;have aO:=oz H;have⟨l',v,t,O,q2,q3,q4,q5,q6⟩:=qxs H;rw[a0]at O;injection O with O;subst O;have⟨ta,tc,⟨f0,f1,f2,f3,f4⟩,x⟩:=pqc k I HI;rw[show vars[k]=v by simp_all]at f0 f1 f2 f3 f4 x;obtain⟨g,rfl,aR,j,B⟩:=ku a8 k I;have e0:=(hb.cell (p:=⟨g,k*5,none⟩) j).trans<|(B (k*5) aj).trans f0;have L:=(hb.cell (p:=⟨g,k*5+1,none⟩) j).trans<|(B (k*5+1) aj).trans f1;have e2:=(hb.cell (p:=⟨g,k*5+2,none⟩) j).trans<|(B (k*5+2) aj).trans f2;have e3:=(hb.cell (p:=⟨g,k*5+3,none⟩) j).trans<|(B (k*5+3) aj).trans f3;have e4:=(hb.cell (p:=⟨g,k*5+4,none⟩) j).trans<|(B (k*5+4) aj).trans f4;have Z:=zw1 x;have aF:v.f<=1000000/\v.d<=1000000/\v.a.length<=1000000:=by grind [pkn]
   have⟨aB,aC,aD⟩:=aF;have aJ:(l++kk9 k).length<=1000000:=by grind
   have⟨S,P⟩:=jS (λ(wx:World) (G:oq w wx) (hi:Lib.IsBuilder 305 5 w.heap.size b (Lib.byteCells<|l++kk9 k) wx)=>write_any hi (qj x G) (qj HS G) G.size Z a7 aj aB aC aH aD q3) (jZ wr (o:=.cells (kvo v ta tc) 213));have d:=jvs f P;have A:=qy (w:=wr) (o:=.cells (kvo v ta tc) 213);unfold kvo at d A P;have C:=oz<|hb.alloc aI (.cells (kvo v ta tc) 213);unfold kvo at C;have a6:=oz q5;clear B f hb f0 f1 f2 f3 f4 x Z q2 q3 q4 q5 q6 H;by_cases X:0<k
   case' pos=>
    have⟨R,aA⟩:=jS (qq9 32 d kU<|by grind) A;clear d A;go_wp2_with fail
    refine zM R ?_;rintro wc ⟨h5,U,Y⟩;have K:=Y.e aA (by grind) ak;have⟨m,q⟩:=jS (show Lib.IsBuilder 305 5 w.heap.size b (Lib.byteCells<|l++kk9 k) wc from Or.inr (by rw[show kk9 k=[32] from lJ X,kkw];exact h5)) (C.trans U);have aS:=wQ K;have⟨x0,x1,x2,x3,x4,_⟩:=jl K;have D:=oz<|S wc q m;clear h5 U Y R K;go_wp2_with fail
    refine D.mono ?_
   case' neg=>
    have m:=oz (show Lib.IsBuilder 305 5 w.heap.size b (Lib.byteCells<|l++kk9 k) _ from by rw[show kk9 k=[] from Xy X,Qs];exact d);have q:=C;have D:=oz<|S _ q m;clear d A;go_wp2_with fail
    refine D.mono ?_
   all_goals
    rintro e w8 ⟨rfl,h8,V⟩;have⟨aK,aN⟩:=jS (show Lib.IsBuilder 305 5 w.heap.size b (Lib.byteCells l2) w8 from by rw[ku a6];exact h8) (q.trans V);clear h8 V;go_wp2;grind [ku,intOf]
  ·have:k=vars.length:=by omega
   have⟨a4,HB⟩:=jS (show l=r' by simp_all) hb;have Q:=oz (jxy f (by rw[ku a4];exact a5));clear f hb;go_wp2_with fail
   refine zM Q λw2 T=>?_;have aM:=oz<|HB.trans T;clear T Q;go_wp2
   go_ret;simp_all [ku]
end Go.Proofs.YtpmcnonmkghokaaGreatDoor

import Derived.Test.YtpmcnonmkghokaaGreatDoorT11
import Derived.Test.YtpmcnonmkghokaaGreatDoorT10
import Derived.Test.YtpmcnonmkghokaaGreatDoorT09
import Derived.Test.YtpmcnonmkghokaaGreatDoorT05
import Derived.Laws.CopyOwn
import Derived.Laws.BytesArg
import Derived.Maps.RangeRun
import Derived.Laws.IdiomStrings
set_option maxRecDepth 100000
set_option maxHeartbeats 8000000
set_option linter.unusedVariables false
set_option linter.unusedSimpArgs false
namespace Go.Proofs.YtpmcnonmkghokaaGreatDoor
open Go.Proofs.Tryz Go.RowKit
attribute [local go_sem ↓] Go.wp_at_zero Go.wp_at_succ
variable {es:Array MapEntry}{came:Array Nat}{g6:Array Value}{a0:ByteArray}{f:Fnd}{q:Fnd×List Int}{d8 e8:Int}{R ks ls seen:List (List Int)}{cur0 k l st z:List Int}{vars:List MVar}{h7:List MapEntry}{L S bad p:List Nat}{ways ws:List SWay}{ts:List Turn}{cs vs xs:List Value}{d9:MVar}{d6:MView}{a:Mach}{g9 h8:MapEntry}{M O b c cc clock e fb g gc i j lc ll lo most n nb r sb sc sn:Nat}{fr:Nat×Nat}{o:Obj}{la sa:Option Addr}{g5:Option Nat}{s:SSt}{x:SWay}{a8:SnR}{T t:Turn}{α β:Type}{sv tv v:Value}{w w':World}{tab:kq3}
section
theorem zyx(a b:UInt8)(x y:List UInt8):Op.bytesLess (a::x) (b::y)=(decide (a.toNat<b.toNat)||(decide (a.toNat=b.toNat)&&Op.bytesLess x y)):=by
 show(decide (a<b)||(a==b&&Op.bytesLess x y))=_;congr 1
 congr 1
 rw[Bool.eq_iff_iff,su,sD];exact⟨λe=>qG,λe=>UInt8.toNat_inj.1 e⟩
theorem xxe:∀x y:List UInt8,Op.bytesLess x y=false->Op.bytesLess y x=false->x=y
 |[],[],_,_=>rfl
 |[],b::y,h,_=>lu
 |a::x,[],_,h=>lu
 |a::x,b::y,h1,h2=>by rw[zyx]at h1 h2;simp only[Qi,decide_eq_false_iff_not,Zg]at h1 h2;have e:a.toNat=b.toNat:=aj;rw[UInt8.toNat_inj.1 e,xxe x y (by simp_all) (by simp_all)]
theorem pjx:∀x:List UInt8,Op.bytesLess x x=false
 |[]=>rfl
 |a::x=>by rw[zyx,pjx x];simp
theorem xqv:∀x y z:List UInt8,Op.bytesLess y x=false->Op.bytesLess z y=false->Op.bytesLess z x=false
 |[],_,z,_,_=>by cases z<;>rfl
 |a::x,[],_,h,_=>lu
 |a::x,b::y,[],_,h=>lu
 |a::x,b::y,c::z,h1,h2=>by
  rw[zyx]at h1 h2 |-;simp only[Qi,decide_eq_false_iff_not,Zg]at h1 h2 |-;refine⟨aj,?_⟩;by_cases e:c.toNat=a.toNat
  ·refine .inr (xqv x y z (by grind)<|by grind)
  omega
theorem vk4:∀{x y:List UInt8},Op.bytesLess x y=true->Op.bytesLess y x=false
 |_,[],h=>lu
 |[],_::_,_=>rfl
 |a::x,b::y,h=>by
  rw[zyx]at h |-;simp only[Q8,rG,sD]at h;simp only[Qi,decide_eq_false_iff_not,Zg];obtain h|⟨h1,d⟩:=h
  ·omega
  ·exact⟨aj,.inr<|vk4 d⟩
theorem min_le(b y:ByteArray):Op.bytesLess b.toList (vwj b y).toList=false/\Op.bytesLess y.toList (vwj b y).toList=false:=by grind [vwj,vk4]
theorem ba_eq{a7:ByteArray}(h:a0.toList=a7.toList):a0=a7:=by rw[yj,yj]at h;exact ByteArray.ext<|Array.toList_inj.1 h
structure Sy (t:PTree)(a:Mach):Prop where
 G:Sym t a
 vt:xx7 t a
 tin:∀u∈a.z,TxtIn u/\1<=u.d/\((u.g==-1)=true->u.d=1)
 j:a.j=kje t.j
variable {t:PTree} {a:Mach} {x y z:List Int} {S:List (List Int)} {b c k k':ByteArray}
def TxB(a:Mach)(x:List Int)(b:ByteArray):Prop:=∃r,zqh a.z x=some r/\b=⟨r.toArray⟩
theorem xxv(h:Sy t a)(e:yg a.z a.size x):∃b,TxB a x b:=by have⟨r,d⟩:=vyi h.G.B.M e;exact⟨_,r,d,rfl⟩
theorem pko(h1:TxB a x b)(d:TxB a x c):b=c:=by obtain⟨r,e,rfl⟩:=h1;obtain⟨r',f,rfl⟩:=d;simp_all
theorem vkt(h:Sy t a)(g:yg a.z a.size x)(e:RSt a.z (tuV t idτ) S x)(hb:TxB a x b):zj9 t S S.length=some b:=by
 obtain⟨r,f,rfl⟩:=hb;unfold zqh at f;have⟨l,h1,d⟩:=wu.1 f;split at d
 ·cases d
 ·injection d with d;subst d;rw[e.1];exact(zkj g e h.G.txt h.G.B.M.few _ l jV h1).1
theorem vkr(h:Sy t a)(k:x.length=a.size)(m:y.length=a.size)(h1:TxB a x b)(g:TxB a y b):x=y:=by
 obtain⟨r,d,rfl⟩:=h1;have⟨r',f,e⟩:=g;have e:r=r':=by simp_all
 subst e;unfold zqh at d f;have⟨l,a1,a2⟩:=wu.1 d;have⟨p,b1,b2⟩:=wu.1 f;split at a2
 ·cases a2
 ·split at b2
  ·cases b2
  ·injection a2 with a2;injection b2 with b2;subst a2;subst b2;apply Jm;intro q;by_cases i:q<a.size
   ·have⟨u,j,s,v⟩:=h.G.turn.all q i;obtain⟨n,hn,rfl⟩:=wG j;have:=vyh h.tin _ _ a1 b1 n _ hn (wW hn) (q-a.z[n].f) aj;simp_all
   simp_all
structure zz6 (t:PTree)(a:Mach)(x:List Int)(k:ByteArray):Prop where
 ex:∃z,Alk t a x z/\yg a.z a.size z/\TxB a z k
 D:∀z c,Alk t a x z->yg a.z a.size z->TxB a z c->Op.bytesLess c.toList k.toList=false
theorem zz6.eq(h:Sy t a)(e:yg a.z a.size x)(hA:Alk t a x y)(h1:zz6 t a x k)(d:zz6 t a y k'):k=k':=by have⟨z,i,j,l⟩:=h1.ex;have⟨w,f,g,w3⟩:=d.ex;exact ba_eq<|xxe _ _ (d.D z k ((hA.symm h.G e).trans h.G i) j l) (h1.D w k' (hA.trans h.G f) g w3)
theorem zz6.alike(h:Sy t a)(f:yg a.z a.size y)(h1:zz6 t a x k)(d:zz6 t a y k):Alk t a x y:=by have⟨z,j,l,m⟩:=h1.ex;have⟨w,g,i,w3⟩:=d.ex;have e:=vkr h l.T i.T m w3;subst e;exact j.trans h.G<|g.symm h.G f
theorem zz6.B(h:Sy t a)(d:yg a.z a.size x)(hA:Alk t a x y)(h1:zz6 t a x k):zz6 t a y k:=by have⟨z,g,i,j⟩:=h1.ex;exact⟨⟨z,(hA.symm h.G d).trans h.G g,i,j⟩,λw c e f w3=>h1.D w c (hA.trans h.G e) f w3⟩
theorem pv0(h:Sy t a)(f:kw7 t T):qxj a.j T:=λk n d=>by rw[h.j]at d;unfold kje at d;rw[QV]at d;have⟨q,e,g⟩:=wX.1 d;have⟨o,o1,o2,_,o4⟩:=f k q e;have hb:=h.G.right.bnd.size q<|wB e;grind
theorem xjk(h:Sy t a)(e:kw7 t T)(d:yg a.z a.size x):∃z,yg a.z a.size z/\StT t a (kxr t.j T) x z:=by have⟨r,f,g⟩:=jw9 h.G.turn h.G.B.M (pv0 h e) d a.z (λ_ hv=>hv) x ⟨d.T,jwx h.G.turn h.G.B.M d⟩;have:=jw8 h.G h.vt e d f;exact⟨r,this.ok h.G (qv6 h.G.right e) d g.1,this⟩
theorem py5(h:Sy t a)(f:yg a.z a.size x)(i:RSt a.z (tuV t idτ) S x):∀(ws:List Turn),(∀T∈ws,kw7 t T)->∀b,∃k,jxz t S ws b=some k/\(k=b\/∃T∈ws,∃z,yg a.z a.size z/\StT t a (kxr t.j T) x z/\TxB a z k)/\Op.bytesLess b.toList k.toList=false/\∀T∈ws,∀z c,StT t a (kxr t.j T) x z->z.length=a.size->TxB a z c->Op.bytesLess c.toList k.toList=false
 |[],_,b=>⟨b,rfl,.inl rfl,pjx _,λT d=>qY⟩
 |T::ws,hw,b=>by
  have d:=hw T<|rZ ..;have⟨S',s1,v⟩:=xw1 h.G h.vt d f i;have⟨z,g,m⟩:=xjk h d f;have l:=qv6 h.G.right d;have⟨y,s⟩:=xxv h g;have j:=StT.fwd h.G l v m;have⟨k,k1,k2,k3,k4⟩:=py5 h f i ws (λT d=>hw T<|jB d)<|vwj b y;have⟨u,B⟩:=min_le b y;refine⟨k,?_,?_,xqv _ _ _ k3 u,λA e w c p q e3=>?_⟩
  ·rw[jxz,s1];simp only[rQ];rw[vkt h g j s];exact k1
  ·grind [vwj]
  ·obtain rfl|e:=tZ.1 e
   ·rw[p.uniq h.G l m q g.T]at e3;grind [pko,xqv]
   grind
theorem xzd(h:Sy t a)(d:yg a.z a.size x)(j:RSt a.z (tuV t idτ) S x)(hb:TxB a x b):∃k,jxz t S (kzv t) b=some k/\zz6 t a x k:=by
 have⟨g,u⟩:=pjp h.G.right;have⟨k,k1,k2,k3,k4⟩:=py5 h d j (kzv t) g b;refine⟨k,k1,?_,λz c p m l=>?_⟩
 ·obtain e|⟨T,f,z,w,y,A⟩:=k2
  ·exact⟨x,Alk.refl h.G d,d,by simp_all⟩
  ·exact⟨z,⟨_,qv6 h.G.right<|g T f,y⟩,w,A⟩
 ·have⟨σ,s1,q⟩:=p;have⟨T,f,e⟩:=u σ s1;exact k4 T f z c (q.congr h.G d λs v h1 i=>(e s v h1 i).symm) m.T l
theorem vvw{Rl:Nat->Nat->Prop}(h1:∀i,i<n->∃j,j<gc/\Rl i j)(f:∀i i' j,i<n->i'<n->Rl i j->Rl i' j->i=i'):n<=gc:=by
 have key:∀i,∃j,i<n->j<gc/\Rl i j:=λi=>by
  by_cases hi:i<n
  ·simp_all
  ·exact⟨0,λe=>absurd e hi⟩
 have:=zx3 ((List.range n).map λi=>Classical.choose<|key i) (List.range gc) (J6.2<|sQ.2 λi j hi g d e=>?_)<|λx h=>?_
 ·simp_all
 ·grind
 grind
structure Mir (t:PTree)(a:Mach)(R:List (List Int))(x:SnR):Prop where
 ok:∀y∈R,yg a.z a.size y
 T:x.F.length=R.length
 st:∀(i:Nat)(y:List Int),R[i]?=some y->∃S,x.F[i]?=some S/\RSt a.z (tuV t idτ) S y
 tlen:x.txs.length=R.length
 tx:∀(i:Nat)(y:List Int),R[i]?=some y->∃b,x.txs[i]?=some b/\TxB a y b
 nd:x.L.Nodup
 rnd:R.Nodup
 ob1:∀y∈R,∃k∈x.L,zz6 t a y k
 ob2:∀k∈x.L,∃y∈R,zz6 t a y k
theorem Mir.has(h:Sy t a)(hM:Mir t a R a8)(j:yg a.z a.size y)(hb:TxB a y b):hasB a8.txs b=true↔y∈R:=by
 unfold hasB;rw[Zx];refine⟨λ⟨c,f,e⟩=>?_,λg=>?_⟩
 ·obtain⟨i,hi,rfl⟩:=wG f;have d:i<R.length:=by rw[<-hM.tlen];exact hi
  have⟨c,c1,c2⟩:=hM.tx i _<|wW d;rw[wW hi]at c1;injection c1 with c1;rw[su]at e;have e:=ba_eq e;rw[c1]at e;rw[e]at c2;rw[vkr h j.T (hM.ok _ (wZ d)).T hb c2];simp
 ·obtain⟨i,hi,rfl⟩:=wG g;have⟨c,c1,c2⟩:=hM.tx i _<|wW hi;grind [pko]
theorem pky(h:Right t):(kzv t).length<=36:=by
 have key:∀x:Option PSet,(∀q,x=some q->q∈t.j)->(zxi x).length<=6:=λx d=>by
  cases x with
  |none=>decide
  |some q=>
   have⟨h1,_⟩:=jqz h<|d q rfl;show(kj3 (mg q.size.x).toNat).length<=6;obtain e|e:=h1<;>rw[e]<;>decide +kernel
 have k0:=key t.j[0]? λq e=>wB e
 have k1:=key t.j[1]? λq e=>wB e
 unfold kzv;have:∀(l m:List (List Int)),(l.flatMap λo=>m.map λp=>[o,p]).length=l.length*m.length:=λl m=>by
  induction l with
  |nil=>simp
  |cons o l ih=>grind
 rw[this];exact Jt k0 k1
theorem Mir.few(h:Sy t a)(hM:Mir t a R a8):R.length<=a8.L.length*36:=by
 have f:=pjp h.G.right;have E:=pky h.G.right;refine vvw (Rl:=λi q=>∃y z k T,R[i]?=some y/\a8.L[q / 36]?=some k/\yg a.z a.size z/\TxB a z k/\(kzv t)[q%36]?=some T/\StT t a (kxr t.j T) z y) (λi hi=>?_)<|λi L q hi D h1 d=>?_
 ·have w:=hM.ok _<|wZ hi;have⟨k,u,m⟩:=hM.ob1 _<|wZ hi;have⟨z,B,g,C⟩:=m.ex;have⟨σ,s1,x⟩:=B.symm h.G w;have⟨T,p,e⟩:=f.2 σ s1;obtain⟨j,I,rfl⟩:=wG u;obtain⟨l,J,rfl⟩:=wG p;refine⟨j*36+l,aj,R[i],z,_,_,wW hi,by grind,g,C,by grind,x.congr h.G g λs v h1 d=>(e s v h1 d).symm⟩
 ·have⟨y,z,k,T,a1,a2,a3,a4,a5,a6⟩:=h1;have⟨A,M,k',F,b1,b2,b3,b4,b5,b6⟩:=d;rw[a2]at b2;injection b2 with b2;subst b2;rw[a5]at b5;injection b5 with b5;subst b5;have e:=vkr h a3.T b3.T a4 b4;subst e;have e:=a6.uniq h.G (qv6 h.G.right<|f.1 T (wB a5)) b6 (hM.ok y<|wB a1).T (hM.ok A<|wB b1).T;subst e;have⟨_,G⟩:=rY.1 a1;have⟨_,H⟩:=rY.1 b1;have K:=sQ.1 hM.rnd;grind
theorem pw2(h:Sy t a)(hM:Mir t a R a8)(j:yg a.z a.size y)(x:RSt a.z (tuV t idτ) S y)(F:a8.L.length<=600):∃x',vjk t a8 S=some x'/\∃R' q,Mir t a R' x'/\R'=R++q/\(∀z,z∈R'↔z∈R\/z=y)/\a8.L.length<=x'.L.length/\x'.L.length<=a8.L.length+1:=by
 have⟨b,hb⟩:=xxv h j;have D:=hM.few h;unfold vjk;rw[vkt h j x hb];simp only[rQ];by_cases B:y∈R
 ·rw[lJ ((hM.has h j hb).2 B)];exact⟨a8,rfl,R,[],hM,ay,λz=>⟨λC=>.inl C,λC=>by grind⟩,jV,aj⟩
 ·rw[Xy (λe=>B ((hM.has h j hb).1 e)),lJ (by rw[hM.T];omega)];have⟨k,k1,k2⟩:=xzd h j x hb;rw[k1];have app:∀{α:Type}{l:List α}{v:α}{i:Nat},i=l.length->(l++[v])[i]?=some v:=λe=>by simp_all
  have m:∀f:List ByteArray,f.Nodup->k∈f->(∀c∈a8.L,c∈f)->(∀c∈f,c∈a8.L\/c=k)->Mir t a (R++[y]) ⟨a8.F++[S],a8.txs++[b],f⟩:=λf n1 n2 n3 n4=>by
   have cs:∀{i:Nat}{w:List Int},(R++[y])[i]?=some w->R[i]?=some w/\i<R.length\/i=R.length/\w=y:=λ{i w} e=>by grind
   refine⟨λw g=>?_,by simp[hM.T],λi w e=>?_,by simp[hM.tlen],λi w e=>?_,n1,?_,λw g=>?_,λc d=>?_⟩
   ·obtain g|g:=rV.1 g
    ·exact hM.ok w g
    simp_all
   ·obtain⟨p,hi⟩|⟨u,rfl⟩:=cs e
    ·have⟨s,s1,E⟩:=hM.st i w p;grind
    ·exact⟨S,app (by rw[hM.T];exact u),x⟩
   ·obtain⟨p,hi⟩|⟨u,rfl⟩:=cs e
    ·have⟨s,s1,E⟩:=hM.tx i w p;grind
    ·exact⟨b,app (by rw[hM.tlen];exact u),hb⟩
   ·rw[Jw];exact⟨hM.rnd,ay,λw g v hv e=>by simp_all⟩
   ·obtain g|g:=rV.1 g
    ·have⟨c,c1,c2⟩:=hM.ob1 w g;grind
    grind
   ·obtain d|rfl:=n4 c d
    ·have⟨w,G,H⟩:=hM.ob2 c d;grind
    simp_all
  have A:hasB a8.L k=true↔k∈a8.L:=by grind [hasB,ba_eq]
  refine⟨_,rfl,R++[y],[y],?_,rfl,λz=>ay,?_⟩
  ·show Mir t a (R++[y]) ⟨_,_,if hasB a8.L k then a8.L else a8.L++[k]⟩;split
   ·rename_i d;exact m _ hM.nd (A.1 d) (λ_ d=>d)<|λ_ d=>.inl d
   ·rename_i d;refine m _ ?_ ay (λc d=>jU d) (λc d=>by simp_all);rw[Jw];exact⟨hM.nd,ay,λw g v hv e=>by simp_all⟩
  grind
end
variable {es:Array MapEntry}{came:Array Nat}{g6:Array Value}{a0:ByteArray}{f:Fnd}{q:Fnd×List Int}{d8 e8:Int}{R ks ls seen:List (List Int)}{cur0 k l st z:List Int}{vars:List MVar}{h7:List MapEntry}{L S bad p:List Nat}{ways ws:List SWay}{ts:List Turn}{cs vs xs:List Value}{d9:MVar}{d6:MView}{a:Mach}{g9 h8:MapEntry}{M O b c cc clock e fb g gc i j lc ll lo most n nb r sb sc sn:Nat}{fr:Nat×Nat}{o:Obj}{la sa:Option Addr}{g5:Option Nat}{s:SSt}{x:SWay}{a8:SnR}{T t:Turn}{α β:Type}{sv tv v:Value}{w w':World}{tab:kq3}
section
variable {t:PTree} {a:Mach} {y:List Int} {S:List (List Int)}
def Suc(a:Mach)(y z:List Int):Prop:=∃s∈a.X,zkd a y s=some (z,1)
def Rch(a:Mach):Nat->List Int->Prop
 |0,x=>x=List.replicate a.size 0
 |n+1,x=>Rch a n x\/∃y,Rch a n y/\Suc a y x
theorem vki(h:Sy t a)(f:yg a.z a.size y)(g:Suc a y z):yg a.z a.size z:=by have⟨s,d,e⟩:=g;have⟨r,i,_,j⟩:=out_ok h.G.B.M f d;simp_all
theorem jwr(h:Sy t a):∀(n:Nat)(x:List Int),Rch a n x->yg a.z a.size x
 |0,x,e=>by rw[show x=_ from e];exact h.G.B.f
 |n+1,x,e=>by
  obtain e|⟨y,d,f⟩:=e
  ·exact jwr h n x e
  ·exact vki h (jwr h n y d) f
theorem pz5(h:Sy t a)(m:yg a.z a.size l)(p:yg a.z a.size y)(hA:Alk t a l y)(q:Suc a l z):∃w,Suc a y w/\Alk t a z w:=by have⟨τ,g,u⟩:=hA;have⟨s,j,e⟩:=q;have⟨s',f,r',i,d,e3⟩:=jk0 h.G g m p u j e;have⟨w,k⟩:=r';have d:k=1:=d;subst d;exact⟨w,⟨s',f,i⟩,τ,g,e3 rfl⟩
theorem jzq(h:Sy t a)(e:yg a.z a.size k)(f:yg a.z a.size y)(hA:Alk t a k y)(d:qxx a k):qxx a y:=by have⟨τ,g,i⟩:=hA;exact pk1 h.G g e f i d
theorem jq4(h:Sy t a)(d:yg a.z a.size y)(g:RSt a.z (tuV t idτ) S y):∀(L:List RIn),(∀X∈L,X∈kq4 t t.l)->∀(R:List (List Int)) (x:SnR),Mir t a R x->x.L.length+L.length<=600 ->
  ∃x',qjf t S L x=some x'/\∃R' q,Mir t a R' x'/\R'=R++q/\(∀z,z∈R'↔z∈R\/∃X∈L,zkd a y (zwm X)=some (z,1))/\x.L.length<=x'.L.length/\x'.L.length<=x.L.length+L.length
 |[],_,R,x,hM,_=>⟨x,rfl,R,[],hM,ay,λz=>ay,jV,ay⟩
 |X::L,hL,R,x,hM,hf=>by
  rw[Qb]at hf;have i:=hL X<|rZ ..;have f:∀X∈L,X∈kq4 t t.l:=λX i=>hL X<|jB i
  have s:=(qjq h.G.right<|jU i).1;have u:zwm X∈a.X:=by rw[h.G.X];grind
  have⟨r,B,_,C⟩:=out_ok h.G.B.M d u;have⟨S',g1,p,_⟩:=s.one (h.G.both<|zjz) d g r B;rw[qjf,g1];simp only[rQ];by_cases e:r.2=1
  ·rw[lJ (by simp_all)];have⟨x1,l,j,H,v,D,E,F,G⟩:=pw2 h hM (C e) (p e) aj;rw[l];simp only[rQ];have⟨x2,m,k,A,n1,n2,n3,n4,w⟩:=jq4 h d g L f j x1 v aj;grind
  ·rw[Xy (by simp_all)];have⟨x2,m,k,A,n1,n2,n3,n4,w⟩:=jq4 h d g L f R x hM aj;grind
theorem pvg(h:Sy t a):Suc a y z↔∃X∈kq4 t t.l,zkd a y (zwm X)=some (z,1):=by unfold Suc;rw[h.G.X];grind
theorem pya(h:Sy t a)(k:most<=500):∀(n i:Nat) (R:List (List Int)) (x:SnR),Mir t a R x->i+n<=R.length->x.L.length<=most+45 ->
  ∃x',zwj t most n i x=some x'/\∃R' q,Mir t a R' x'/\R'=R++q/\(∀z∈R',z∈R\/∃(j:Nat)(y:List Int),i<=j/\j<i+n/\R[j]?=some y/\Suc a y z)/\x'.L.length<=most+45/\(most<x'.L.length\/∀(j:Nat)(y:List Int),i<=j->j<i+n->R[j]?=some y->∀z,Suc a y z->z∈R')
 |0,i,R,x,hM,_,hf=>⟨x,rfl,R,[],hM,ay,λz d=>.inl d,hf,.inr λj y h1 C=>aj⟩
 |n+1,i,R,x,hM,hi,hf=>by
  rw[zwj];by_cases hb:x.L.length<=most
  ·rw[lJ hb];have e:i<R.length:=aj;have f:=wW e;have⟨S,s1,B⟩:=hM.st i _ f;rw[s1];simp only[rQ];have E:(kq4 t t.l).length<=45:=by have:=h.G.B.few;rw[h.G.X,Ql]at this;omega
   have⟨x1,m,g,w,v,F,G,H,I⟩:=jq4 h (hM.ok _<|wZ e) B (kq4 t t.l) (λ_ s=>s) R x hM aj;rw[m];simp only[rQ];have⟨x2,p,l,A,n1,n2,n3,n4,J⟩:=pya h k n (i+1) g x1 v (by grind) aj;have u:∀j,j<R.length->g[j]?=R[j]?:=λj D=>by grind
   refine⟨x2,p,l,w++A,n1,by simp_all,λz d=>?_,n4,?_⟩
   ·grind [pvg]
   grind [pvg]
  ·rw[Xy hb];exact⟨x,rfl,R,[],hM,ay,λz d=>.inl d,hf,.inl aj⟩
theorem pkb(h:Sy t a)(d:yg a.z a.size y)(e:RSt a.z (tuV t idτ) S y):∃v,zzj t S=some v/\(jxu v=false↔qxx a y):=by
 have⟨v,hv,_⟩:=look_ok h.G.B.M d;refine⟨v,?_,?_⟩
 ·unfold lookO at hv;have⟨tx,i,hv⟩:=wu.1 hv;have⟨p,g,hv⟩:=wu.1 hv;have⟨b,e3,hv⟩:=wX.1 hv;rw[h.G.X]at g;rw[h.G.q]at e3;unfold zzj;rw[vkt h d e ⟨tx,i,rfl⟩];simp only[rQ];rw[jyq (h.G.both (zjz)) d e _ _ _ _ (λX f=>(qjq h.G.right (jU f)).1) g];simp only[rQ];rw[jyx (h.G.both (zjz)) d e _ _ _ (λX f=>(qjq h.G.right (jP f)).1) e3,<-hv];rfl
 ·rw[<-zxp h.G d hv];grind [jxu,endOf]
theorem pjv(h:Sy t a):∀(R:List (List Int)) (L:List (List (List Int))),L.length=R.length->(∀(i:Nat)(y:List Int),R[i]?=some y->yg a.z a.size y/\∃S,L[i]?=some S/\RSt a.z (tuV t idτ) S y)->∃b,zwv t L=some b/\(b=false↔∀y∈R,qxx a y)
 |[],[],_,_=>⟨false,rfl,ay⟩
 |y::R,S::L,hl,hR=>by
  have⟨f,S',e,d⟩:=hR 0 y rfl;injection e with e;subst e;have⟨v,g,j⟩:=pkb h f d;rw[zwv,g];simp only[rQ];cases hb:jxu v
  ·rw[Xy ay];have⟨b,b1,b2⟩:=pjv h R L (by simp_all) λi y hi=>hR (i+1) y (by simp_all)
   simp_all
  simp_all
end
section
variable {t:PTree} {a:Mach} {ts:List Turn}
def jxp(t:PTree)(a:Mach)(f:Fnd):Prop:=∀e∈f,yg a.z a.size e.2.U/\kwd t a e.2.U e.1
theorem xzi:(∀e∈f,e∈qzc f k x)/\∃e∈qzc f k x,e.1=k:=by
 unfold qzc;split
 ·simp_all
 simp_all
theorem vxu(h:Sy t a)(i:vq4 t ts)(j:yg a.z a.size x.U)(e:z.length=a.size)(d:qx9 a ts x f z=some q):∃k,kwd t a x.U k/\q.1=qzc f k x/\q.2.length=a.size:=by
 unfold qx9 at d;split at d
 ·have⟨r,g,d⟩:=wu.1 d;split at d
  ·injection d with d;subst d;have:=zjn _ _ _ _ _ aj g;exact⟨r.1,xzc h.G h.vt i j e g,rfl,this.2.trans e⟩
  simp_all
 simp_all
theorem xx0(g:jxp t a f)(i:yg a.z a.size x.U)(h:kwd t a x.U k):jxp t a (qzc f k x):=λe d=>by
 obtain d|rfl:=vkx d
 ·exact g e d
 simp_all
theorem zkx(h:Sy t a)(i:vq4 t ts)(g:yg a.z a.size st):∀(l:List MStep),(∀s∈l,s∈a.X)->∀(f:Fnd)(c:List Int)(q:Fnd×List Int×Bool),jxp t a f->c.length=a.size->kzc a ts most gc st l f c=some q->jxp t a q.1/\q.2.1.length=a.size/\(∀e∈f,e∈q.1)/\(q.2.2=false->∀s∈l,∀z,zkd a st s=some (z,1)->∃e∈q.1,kwd t a z e.1)
 |[],_,f,c,q,hf,hc,d=>by
  grind [kzc]
 |s::l,hl,f,c,q,hf,hc,d=>by
  have j:∀s∈l,s∈a.X:=λs g=>hl s<|jB g
  have⟨r,w,_,u⟩:=out_ok h.G.B.M g<|hl s (rZ ..);rw[kzc,show kwi a.z a.C s.u s.xy st s.guard s.block=some r from w]at d;simp only[rQ]at d;by_cases e:r.2=1
  ·rw[lJ (by simp_all)]at d;have⟨p,v,d⟩:=wu.1 d;have⟨k,k1,k2,k3⟩:=vxu h i (x:=⟨r.1,gc,s.x⟩) (u e) hc v;have m:jxp t a p.1:=by rw[k2];exact xx0 hf (u e) k1
   have⟨a1,e0,a2,a3⟩:=xzi (f:=f) (k:=k) (x:=⟨r.1,gc,s.x⟩);rw[<-k2]at a1 a2;split at d
   ·grind
   ·have⟨i1,i2,i3,i4⟩:=zkx h i g l j _ _ q m k3 d;grind
  ·rw[Xy (by simp_all)]at d;have⟨i1,i2,i3,i4⟩:=zkx h i g l j _ _ q hf hc d;grind
theorem zjv(h:Sy t a)(i:vq4 t ts):∀(l:List SWay)(at_:Nat),(∀x∈l,yg a.z a.size x.U)->∀(f:Fnd)(c:List Int)(q:Fnd×List Int),jxp t a f->c.length=a.size->kjh a ts most l at_ f c=some q->jxp t a q.1/\(∀e∈f,e∈q.1)/\(q.1.length<=most->∀x∈l,∀z,Suc a x.U z->∃e∈q.1,kwd t a z e.1)
 |[],_,_,f,c,q,hf,hc,d=>by
  grind [kjh]
 |x::l,at_,hl,f,c,q,hf,hc,d=>by
  rw[kjh]at d;split at d
  ·have⟨p,j,d⟩:=wu.1 d;have⟨s1,v,s3,A⟩:=zkx h i (hl x<|rZ ..) a.X (λ_ k=>k) f c p hf hc j;have⟨_,_,g3⟩:=kwq _ _ _ _ j;split at d
   ·grind
   ·rename_i hb;have⟨i1,i2,i3⟩:=zjv h i l _ (λy g=>hl y<|jB g) _ _ q s1 v d;refine⟨i1,λe m=>i2 e<|s3 e m,λw y g z u=>?_⟩;obtain rfl|g:=tZ.1 g
    ·have⟨s,k,e⟩:=u;grind
    grind
  simp_all
theorem vzm:∀(f:Fnd)(k:List Int),k∈f.map (·.1)->∃y∈f,y.1=k/\kv4 f k=y.2
 |[],k,h=>ig
 |y::l,k,h=>by
  rw[kv4];by_cases e:(y.1==k)=true
  ·simp_all
  ·rw[Xy e];rw[Qm]at h;obtain rfl|h:=tZ.1 h
   ·simp_all
   ·have⟨z,d,g⟩:=vzm l k h;grind
structure PI (t:PTree)(a:Mach)(r:Nat)(s:SSt):Prop where
 pinv:PInv a s
 fkey:jxp t a s.P
 key:∀(i:Nat)(x:SWay),s.m[i]?=some x->∃k,s.Z[i]?=some k/\kwd t a x.U k
 nd:s.Z.Nodup
 rch:∀x∈(jd s).m,Rch a r x.U
 old:∀x∈s.m,∃q,r=q+1/\Rch a q x.U
 cov:∀y,Rch a r y->∃x∈(jd s).m,Alk t a x.U y
 dep:∃D:Nat->Nat,D 0=0/\(∀(k:Nat)(x:SWay),(jd s).m[k+1]?=some x->D x.J<D (k+1))/\∀k,k<(jd s).m.length->D k<=r
theorem jjb(g:jxp t a s.P)(j:∀(i:Nat)(x:SWay),s.m[i]?=some x->∃k,s.Z[i]?=some k/\kwd t a x.U k)(h:s.m.length=s.Z.length):∀(i:Nat)(x:SWay),(jd s).m[i]?=some x->∃k,(jd s).Z[i]?=some k/\kwd t a x.U k:=λi x d=>by
 have e:(jd s).m=s.m++(kv5<|newF s.Z s.P).map (kv4<|newF s.Z s.P):=rfl;have f:(jd s).Z=s.Z++kv5 (newF s.Z s.P):=rfl;rw[e]at d;rw[f];by_cases hi:i<s.m.length
 ·grind
 ·rw[Ji aj]at d;rw[Ji aj,<-h];rw[QV]at d;obtain⟨k,k1,rfl⟩:=wX.1 d;have⟨y,y1,y2,y3⟩:=vzm _ _<|(kz7 _).mem_iff.1 (wB k1);refine⟨k,k1,?_⟩;rw[y3,<-y2];exact(g y (Ju.1 y1).1).2
theorem pqo(hn:s.Z.Nodup)(f:kwc s.P):(jd s).Z.Nodup:=by show(s.Z++kv5 (newF s.Z s.P)).Nodup;rw[Jw];refine⟨hn,(kz7 _).nodup_iff.2<|(JM.map _).nodup f,λk g k' d e=>?_⟩;subst e;obtain⟨y,y1,rfl⟩:=tY.1<|(kz7 _).mem_iff.1 d;have:=(Ju.1 y1).2;grind
theorem pyy(h:Sy t a)(q:∀(i:Nat)(x:SWay),s.m[i]?=some x->∃k,s.Z[i]?=some k/\kwd t a x.U k)(g:s.m.length=s.Z.length)(p:jxp t a s.P){a9:List Int×SWay}(m:a9∈s.P)(v:yg a.z a.size z)(l:kwd t a z a9.1):∃x∈(jd s).m,Alk t a x.U z:=by
 have e:=jjb p q g;have f:a9.1∈(jd s).Z:=by
  show a9.1∈s.Z++kv5 (newF s.Z s.P);by_cases w:a9.1∈s.Z
  ·simp_all
  ·refine jP ((kz7 _).mem_iff.2<|tY.2 ⟨a9,Ju.2 ⟨m,?_⟩,rfl⟩);grind
 have⟨i,hi,j⟩:=wG f;have u:(jd s).m.length=(jd s).Z.length:=by rw[kyo,zkf,g]
 have d:i<(jd s).m.length:=aj;have⟨k,k1,k2⟩:=e i _<|wW d;rw[wW hi,j]at k1;injection k1 with k1;subst k1;exact⟨_,wZ d,kwd.alike' h.G v k2 l⟩
theorem PI.Y(h:Sy t a)(O:vq4 t ts)(d:PI t a r s)(T:∀y∈(jd s).m.drop s.m.length,Calm a y)(M:kjh a ts most ((jd s).m.drop s.m.length) s.m.length [] (jd s).cur=some q)(j:FOk a (jd s).m q.1)(B:ky5 a q.2)(E:q.1.length<=most):PI t a (r+1) ⟨(jd s).m,(jd s).Z,q.1,q.2⟩:=by
 have l:=jjb d.fkey d.key d.pinv.inv.T;have C:(jd s).m.length=(jd s).Z.length:=by rw[kyo,zkf,d.pinv.inv.T]
 have⟨k1,_,k3⟩:=zjv h O ((jd s).m.drop s.m.length) _ (λx f=>d.pinv.m.ok x<|Je f) [] _ q (λe g=>by cases g) d.pinv.cur.1 M;have L:=(kkh _ _ _ _ _ M).2 lq;have K:∀e∈q.1,e.2.J<(jd s).m.length:=λe g=>by have⟨_,y,y1,_⟩:=j e g;grind
 have V:∀e∈q.1,Rch a (r+1) e.2.U:=λe g=>by have⟨_,y,y1,s',s1,_,s3⟩:=j e g;exact .inr ⟨_,d.rch y<|wB y1,s',s1,s3⟩
 have m:∀(i:Nat)(x:SWay),(jd ⟨(jd s).m,(jd s).Z,q.1,q.2⟩).m[i]?=some x->(i<(jd s).m.length/\(jd s).m[i]?=some x)\/((jd s).m.length<=i/\∃e∈q.1,x=e.2):=λi x f=>by
  by_cases hi:i<(jd s).m.length
  ·grind [jd]
  grind [vx5]
 refine⟨keep_next d.pinv L j B T K,k1,l,pqo d.nd d.pinv.inv.nd,λx f=>?_,λx f=>⟨r,rfl,d.rch x f⟩,λy G=>?_,?_⟩
 ·obtain⟨i,hi,rfl⟩:=wG f;obtain⟨_,e⟩|⟨_,e,g,I⟩:=m i _ (wW hi)
  ·exact .inl (d.rch _<|wB e)
  grind
 ·have A:∀z,(∃x∈(jd s).m,Alk t a x.U z)->∃x∈(jd ⟨(jd s).m,(jd s).Z,q.1,q.2⟩).m,Alk t a x.U z:=λz ⟨x,f,hA⟩=>⟨x,jU f,hA⟩
  obtain G|⟨y0,g1,J⟩:=G
  ·exact A _ (d.cov y G)
  ·have⟨p,Q,X⟩:=d.cov y0 g1;have u:=d.pinv.m.ok p Q;have v:=jwr h _ _ g1;have⟨w,H,Y⟩:=pz5 h v u (X.symm h.G u) J;have W:=vki h u H;have P:=vki h v J;have fin:(∃x∈(jd ⟨(jd s).m,(jd s).Z,q.1,q.2⟩).m,Alk t a x.U w)->∃x∈(jd ⟨(jd s).m,(jd s).Z,q.1,q.2⟩).m,Alk t a x.U y:=λ⟨x,f,hA⟩=>⟨x,f,hA.trans h.G<|Y.symm h.G P⟩
   obtain⟨i,hi,rfl⟩:=wG Q;by_cases Z:i<s.m.length
   ·have E:(jd s).m[i]∈s.m:=by grind [jd]
    have⟨r',e,N⟩:=d.old _ E;exact fin (A _<|d.cov w (by rw[e];exact .inr ⟨_,N,H⟩))
   ·have U:(jd s).m[i]∈(jd s).m.drop s.m.length:=by refine wB (i:=i-s.m.length) ?_;simp_all
    have⟨e,S,I⟩:=k3 E _ U w H;exact fin<|pyy h (s:=⟨(jd s).m,(jd s).Z,q.1,q.2⟩) l C k1 S W I
 ·have⟨D,R,d1,d2⟩:=d.dep;have F:0<(jd s).m.length:=by have⟨x,x1,_⟩:=d.pinv.m.f;grind
  refine⟨λk=>if k<(jd s).m.length then D k else r+1,(lJ F).trans R,λk x f=>?_,λk _=>?_⟩<;>dsimp only
  ·obtain⟨hi,e⟩|⟨hi,e,g,rfl⟩:=m _ _ f
   ·have hb:=(d.pinv.m.by_ k x e).1;grind
   grind
  grind
theorem pv5{b7:Nat->Nat}(e:∀(k:Nat)(x:SWay),ways[k+1]?=some x->b7 x.J<b7 (k+1)):∀(n k:Nat)(acc q:List ByteArray),zk7 ways n k acc=some q->q.length<=acc.length+b7 k
 |n,0,acc,q,d=>by
  grind [zk7]
 |0,k+1,acc,q,d=>by rw[zk7]at d;cases d
 |n+1,k+1,acc,q,d=>by
  rw[zk7]at d;have⟨x,f,d⟩:=wu.1 d;split at d
  ·have:=pv5 e n x.J _ q d;grind
  simp_all
end
section
variable {t:PTree} {a:Mach} {ts:List Turn}
structure Fit (rep:SRep)(res:Int×Bool×Nat×Nat):Prop where
 err:res.1=rep.err
 s:rep.err≠0->res=(rep.err,false,0,0)/\rep=qq3 rep.err
 ok:rep.err=0->rep.xr=res.2.2.2/\(res.2.1=false↔rep.end_=0)/\(rep.end_=0->rep.xq=[])/\(rep.end_≠0->rep.xq.length=res.2.2.1)
structure RIn2 (t:PTree)(a:Mach)(r:Nat)(R:List (List Int))(f:Nat)(x:SnR):Prop where
 mir:Mir t a R x
 mem:∀y,y∈R↔Rch a r y
 D:f<=R.length
 old:∀y∈R.take f,∃q,r=q+1/\Rch a q y
 calm:∀q,q<r->∀y,Rch a q y->qxx a y
def Pair(t:PTree)(a:Mach)(ws:List SWay)(obs:List ByteArray)(i j:Nat):Prop:=∃x k,ws[i]?=some x/\obs[j]?=some k/\zz6 t a x.U k
theorem pqd{l:List α}(h:l.Nodup){x:α}(h1:l[i]?=some x)(d:l[j]?=some x):i=j:=by have⟨i1,e⟩:=rY.1 h1;have⟨j1,f⟩:=rY.1 d;have g:=sQ.1 h;grind
theorem pwl(h:Sy t a)(hM:Mir t a R a8)(g:∀w∈ws,yg a.z a.size w.U)(l:∀y∈R,∃w∈ws,Alk t a w.U y):a8.L.length<=ws.length:=by
 refine vvw (Rl:=λj i=>Pair t a ws a8.L i j) (λj m=>?_)<|λj A i m z h1 v=>?_
 ·have⟨y,p,x⟩:=hM.ob2 _<|wZ m;have⟨w,d,hA⟩:=l y p;obtain⟨i,hi,rfl⟩:=wG d;exact⟨i,hi,_,_,wW hi,wW m,x.B h (hM.ok y p)<|hA.symm h.G (g _ d)⟩
 ·have⟨w,k,q,k1,s⟩:=h1;have⟨w',k',f,k2,u⟩:=v;rw[q]at f;injection f with f;subst f;have d:=g w<|wB q;have e:=zz6.eq h d (Alk.refl h.G d) s u;subst e;exact pqd hM.nd k1 k2
theorem vym(h:Sy t a)(hM:Mir t a R a8)(d:∀w∈ws,w.U∈R)(e:∀(i j:Nat)(w w':SWay),ws[i]?=some w->ws[j]?=some w'->Alk t a w.U w'.U->i=j):ws.length<=a8.L.length:=by
 refine vvw (Rl:=Pair t a ws a8.L) (λi hi=>?_)<|λi u j hi x h1 p=>?_
 ·have⟨k,s,q⟩:=hM.ob1 _<|d _ (wZ hi);obtain⟨j,f,rfl⟩:=wG s;exact⟨j,f,_,_,wW hi,wW f,q⟩
 ·have⟨w,k,v,k1,l⟩:=h1;have⟨w',k',g,k2,m⟩:=p;rw[k1]at k2;injection k2 with k2;subst k2;exact e i u w w' v g<|zz6.alike h (hM.ok _<|d w' (wB g)) l m
theorem PI.apart(h:Sy t a)(d:PI t a r s):∀(i j:Nat)(w w':SWay),(jd s).m[i]?=some w->(jd s).m[j]?=some w'->Alk t a w.U w'.U->i=j:=λi j w w' h1 g hA=>by have f:=jjb d.fkey d.key d.pinv.inv.T;have⟨k,k1,k2⟩:=f i w h1;have⟨k',k3,k4⟩:=f j w' g;have e:=kwd.eq h.G (d.pinv.m.ok w<|wB h1) hA k2 k4;subst e;exact pqd (pqo d.nd d.pinv.inv.nd) k1 k3
theorem pw4(h:Sy t a)(d:PI t a r s)(hR:RIn2 t a r R gc a8):a8.L.length=(jd s).m.length:=
 Nat.le_antisymm (pwl h hR.mir d.pinv.m.ok λy f=>d.cov y<|(hR.mem y).1 f) (vym h hR.mir (λw e=>(hR.mem _).2<|d.rch w e)<|d.apart h)
theorem vk2(h:Sy t a)(d:yg a.z a.size x.U):Calm a x↔qxx a x.U:=by have⟨v,e,_⟩:=look_ok h.G.B.M d;refine⟨λ⟨w,g,i⟩=>(zxp h.G d g).1 i,λf=>⟨v,e,(zxp h.G d e).2 f⟩⟩
theorem pjk{b8:List UInt8}:∀(l:List MStep)(r:List Int×Bool),(∀x∈l,x∈a.X)->qw3 a.z a.C st b8 l=some r->r.2=true->Suc a st r.1
 |[],r,_,hr,e=>by grind [qw3]
 |x::l,r,hl,hr,e=>by
  rw[qw3]at hr;split at hr
  ·obtain⟨q,f,rfl⟩:=wX.1 hr;exact⟨x,hl x<|rZ ..,by grind [zkd]⟩
  ·exact pjk l r (λy d=>hl y<|jB d) hr e
theorem pq6:∀(l:List ByteArray)(n:Nat)(st z:List Int),Rch a n st->qk2 a l st=some z->Rch a (n+l.length) z
 |[],n,st,z,hs,d=>by grind [qk2]
 |u::l,n,st,z,hs,d=>by
  rw[qk2]at d;have⟨r,f,d⟩:=wu.1 d;split at d
  ·rename_i e;have:=pq6 l (n+1) r.1 z (.inr ⟨st,hs,pjk _ _ (λ_ h=>h) f e⟩) d;grind
  simp_all
theorem zvt(h:Sy t a)(N:vq4 t ts)(hT:Tot a ts)(S:most<=500):∀(fuel r:Nat) (s:SSt) (R:List (List Int)) (f:Nat) (x:SnR) (rep:SRep),PI t a r s->RIn2 t a r R f x->x.L.length<=most+45->kjk a ts most fuel s=some rep->∃res,zwt t most fuel r f s.m.length x=some res/\Fit rep res
 |0,r,s,R,f,x,rep,_,_,_,d=>by rw[kjk]at d;cases d
 |n+1,r,s,R,f,x,rep,hP,hR,hf,d=>by
  have B:=h.G.B.M;have C:0<a.size/\a.size<=1000:=by refine⟨?_,B.env.size⟩;have h1:=B.one;have V:=(B.fit _<|wZ h1).1;omega
  have Y:=pw4 h hP hR;rw[kjk]at d;rw[zwt,Y];by_cases hb:most<(jd s).m.length
  ·rw[lJ hb]at d |-;injection d with d;subst d;exact⟨_,rfl,rfl,λ_=>⟨rfl,rfl⟩,λe=>absurd e (by show ¬(9:Int)=0;decide)⟩
  ·rw[Xy hb]at d |-;have⟨b,b1,b2⟩:=pjv h (R.drop f) (x.F.drop f) (by rw[JQ,JQ,hR.mir.T]) λi y hi=>by rw[J3]at hi |-;exact⟨hR.mir.ok y<|wB hi,hR.mir.st _ y hi⟩
   rw[b1];simp only[rQ];have I:b=false↔∀w∈(jd s).m,qxx a w.U:=by
    rw[b2];refine⟨λhh w g=>?_,λhh y k=>?_⟩
    ·have J:=(hR.mem _).2<|hP.rch w g;rw[<-Jj f R]at J;obtain J|J:=rV.1 J
     ·have⟨q,e,l⟩:=hR.old _ J;exact hR.calm q aj _ l
     simp_all
    ·have U:=Je k;have⟨w,g,hA⟩:=hP.cov y<|(hR.mem y).1 U;exact jzq h (hP.pinv.m.ok w g) (hR.mir.ok y U) hA<|hh w g
   have K:∀(i:Nat)(w:SWay),i<s.m.length->(jd s).m[i]?=some w->qxx a w.U:=λi w hi g=>(vk2 h<|hP.pinv.m.ok w (wB g)).1<|hP.pinv.calm i w hi g
   have aB:s.m.length<=(jd s).m.length:=by rw[kyo];omega
   by_cases u:((jd s).m.length==s.m.length)=true
   ·rw[lJ u]at d |-;have H:b=false:=I.2 λw g=>by obtain⟨i,hi,rfl⟩:=wG g;exact K i _ (by grind)<|wW hi
    rw[H,Xy ay];have⟨o1,o2,o3⟩:=kkf d;have a7:rep.xq=[]:=by grind [qxm,zk7]
    exact⟨_,rfl,o2.symm,λe=>absurd o2 e,λ_=>⟨o1,by simp_all,λ_=>a7,λe=>absurd o3 e⟩⟩
   ·rw[Xy u]at d |-;have⟨e,e1,E⟩:=jyc B C.2 ((jd s).m.drop s.m.length) s.m.length (λy k=>hP.pinv.m.ok y<|Je k);rw[e1]at d;simp only[rQ]at d;obtain⟨E,e3⟩|⟨E,j,y,v,j1,j2,Z,j4⟩:=E
    ·rw[lJ (by simp_all)]at d;have G:∀w∈(jd s).m,qxx a w.U:=λw g=>by
      obtain⟨i,hi,rfl⟩:=wG g;by_cases a4:i<s.m.length
      ·exact K i _ a4 (wW hi)
      ·refine(vk2 h<|hP.pinv.m.ok _ g).1 (e3 _<|wB (i:=i-s.m.length) ?_);simp_all
     have H:=I.2 G;rw[H,Xy ay];have⟨q,l,d⟩:=wu.1 d;have⟨q',g1,g2,g3⟩:=zkv (most:=most) B C hT hP.pinv.m.ok _ s.m.length rfl [] (jd s).cur (λy k=>by cases k) hP.pinv.cur;rw[l]at g1;injection g1 with g1;subst g1;have aA:=hR.D;have⟨x',x1,O,q1,m1,m2,m3,m4,m⟩:=pya h S (R.length-f) f R x hR.mir aj hf;rw[hR.mir.T,x1];simp only[rQ];have A:∀z∈O,Rch a (r+1) z:=λz C=>by
      obtain C|⟨j,w,_,_,Z,j4⟩:=m3 z C
      ·exact .inl ((hR.mem z).1 C)
      ·exact .inr ⟨w,(hR.mem w).1<|wB Z,j4⟩
     have M:∀e∈q.1,Rch a (r+1) e.2.U:=λe u=>by have⟨_,y,y1,s',s1,_,s3⟩:=g2 e u;exact .inr ⟨_,hP.rch y<|wB y1,s',s1,s3⟩
     have T:=(kkh _ _ _ _ _ l).2 lq;have⟨fk,_,_⟩:=zjv h N ((jd s).m.drop s.m.length) _ (λx hx=>hP.pinv.m.ok x<|Je hx) [] _ q (λe u=>by cases u) hP.pinv.cur.1 l;have Q:(∀(j:Nat)(y:List Int),f<=j->j<f+(R.length-f)->R[j]?=some y->∀z,Suc a y z->z∈O)->RIn2 t a (r+1) O R.length x':=λP=>by
      refine⟨m1,λy=>⟨A y,λk=>?_⟩,by simp_all,λy k=>⟨r,rfl,?_⟩,λq l y k=>?_⟩
      ·obtain k|⟨w,w1,w2⟩:=k
       ·rw[m2];exact jU<|(hR.mem y).2 k
       ·have g:=(hR.mem w).2 w1;obtain⟨j,hj,rfl⟩:=wG g;by_cases aC:j<f
        ·have ht:R[j]∈R.take f:=wB (i:=j) (by simp_all);have⟨q,e,l⟩:=hR.old _ ht;rw[m2];exact jU ((hR.mem y).2 (by rw[e];exact .inr ⟨_,l,w2⟩))
        ·exact P j _ aj aj (wW hj) y w2
      ·rw[m2,Jv jV,Qc]at k;exact(hR.mem y).1 k
      ·by_cases e:q=r
       ·subst e;have⟨w,g,hA⟩:=hP.cov y k;exact jzq h (hP.pinv.m.ok w g) (jwr h _ _ k) hA<|G w g
       ·exact hR.calm q aj y k
     have big:most<(jd ⟨(jd s).m,(jd s).Z,q.1,q.2⟩).m.length->most<x'.L.length->∃res,zwt t most n (r+1) R.length (jd s).m.length x'=some res/\Fit rep res:=λp1 p2=>by
      cases n with
      |zero=>rw[kjk]at d;cases d
      |succ n=>
       rw[kjk,lJ p1]at d;injection d with d;subst d;rw[zwt,lJ p2];exact⟨_,rfl,rfl,λ_=>⟨rfl,rfl⟩,λe=>absurd e (by show ¬(9:Int)=0;decide)⟩
     have X:SInv ⟨(jd s).m,(jd s).Z,q.1,q.2⟩:=zxz hP.pinv.inv T;by_cases a6:q.1.length<=most
     ·have F:=hP.Y h N e3 l g2 g3 a6;obtain m|m:=m
      ·have:=pwl h m1 F.pinv.m.ok λy k=>F.cov y (A y k)
       grind
      ·exact zvt h N hT S n (r+1) ⟨(jd s).m,(jd s).Z,q.1,q.2⟩ O R.length x' rep F (Q m) m4 d
     ·have W:=jyv X;simp only at W;refine big aj ?_;obtain m|m:=m
      ·exact m
      ·have a0:=Q m;have:=vym h m1 (ws:=q.1.map λe=>e.2) (λw g=>by
        obtain⟨e,u,rfl⟩:=tY.1 g;exact(a0.mem _).2 (M e u)) (λi j w w' h1 V hA=>by rw[QV]at h1 V;obtain⟨e,a1,rfl⟩:=wX.1 h1;obtain⟨e',a2,rfl⟩:=wX.1 V;have⟨f1,f2⟩:=fk e<|wB a1;have⟨f3,f4⟩:=fk e'<|wB a2;have ek:=kwd.eq h.G f1 hA f2 f4;exact pqd T (x:=e.1) (by simp_all)<|by simp_all)
       grind
    ·rw[Xy (by simp_all)]at d;have a5:(jd s).m[s.m.length+j]?=some y:=by simp_all
     have a9:=wB a5;have a8:¬qxx a y.U:=λhc=>E (by rw[<-j4];exact(zxp h.G (hP.pinv.m.ok y a9) Z).2 hc)
     have a3:b=true:=by grind
     rw[a3,lJ rfl];have⟨o1,o2,o3⟩:=kkf d;refine⟨_,rfl,o2.symm,λe=>absurd o2 e,λ_=>⟨o1,by simp_all,λe=>absurd (o3.symm.trans e) E,λ_=>?_⟩⟩;have⟨D,d0,d1,d2⟩:=hP.dep;have⟨p,p1,p2,_⟩:=vkn B hP.pinv.m (e.1+1) e.1 aj y (by simp_all);unfold qxm at d;rw[p1 e.1 [] jV,Qd]at d;injection d with d;have aF:rep.xq.length=p.length:=by grind
     have aG:=pv5 d1 e.1 e.1 [] p (by simp_all);have hD:=d2 e.1 (by grind);have aD:r<=p.length:=by apply Qp;intro aE;have L:=pq6 p.reverse 0 _ _ rfl p2;rw[Zb,Jc]at L;exact a8<|hR.calm p.length aj _ L
     grind
end
theorem xjb(d:qx5 a0=some a):a.j=kje (uz (jv a0).1).1.j:=by
 unfold qx5 at d;split at d
 ·have⟨b,hb,d⟩:=wu.1 d;split at d
  ·injection d with d;subst d;unfold jy5 at hb;have⟨g,e,hb⟩:=wu.1 hb;have⟨x,f,hb⟩:=wu.1 hb;have⟨st,_,hb⟩:=wu.1 hb;obtain⟨nv,_,rfl⟩:=wX.1 hb;rfl
  simp_all
 simp_all
theorem xw3(h:(qq4 a0).1=0)(l:qx5 a0=some a)(hM:MachOf (uz (jv a0).1).1 a):Sy (uz (jv a0).1).1 a:=by
 have hR:=qk7 h;have hN:=pji h;have⟨us,z,q,s,v,G,w,C,D⟩:=jy9 hR l;have A:=jv1 h l;have y:=xjb l;generalize (uz (jv a0).1).1=t at *;have B:us.length=t.z.length:=by rw[s.T,Ql]
 have m:∀k (d:k<t.z.length) u,a.z[k]?=some u->∃sz,qw4 t.j t.p sz (jw t.z[k])=some u:=λk d u p=>by have⟨u',sz,E,F⟩:=jw4 _ _ _ _ q k (by simp_all);grind
 have g:∀k (d:k<t.z.length),∃u,a.z[k]?=some u/\UOk (ql t) u (jw t.z[k]):=λk d=>by have⟨u,i,x⟩:=s.v k (by simp_all);simp_all
 refine⟨⟨hR,hM,A,by simp_all,g,w,C,D,by rw[v,w];exact xxg hR q,by rw[v];exact xxu hR q s⟩,λk d u p=>?_,λu p=>?_,y⟩
 ·grind [pkh]
 ·obtain⟨k,d,rfl⟩:=wG p;have f:k<t.z.length:=by grind
  have j:=wW d;have⟨sz,e⟩:=m k f _ j;have⟨u,i,x⟩:=g k f;rw[j]at i;injection i with i;have hv:=vqv hR (wZ f) e;exact⟨xjx hR hN e,by rw[i];exact x.D,hv.one⟩
theorem vjv(h:(qq4 a0).1=0)(A:qx5 a0=some a)(hM:MachOf (uz (jv a0).1).1 a)(h1:1<=n)(B:n<=500){b9:SRep}(f:kvn a0 n=some b9):∃S p,kkb (uz (jv a0).1).1 (uz (jv a0).1).1.z S/\vj4 (uz (jv a0).1).1 n S=some p/\Fit b9 p:=by
 have d:=xw3 h A hM;have hR:=qk7 h;have⟨us,z,N,O,P,Q,_⟩:=jy9 hR A;have⟨S,X,u⟩:=pqq hR N O;rw[<-P,<-Q]at u;have m:=hM.M;have G:=d.G.turn;have⟨ts,J,H⟩:=pv7 G m;have v:vq4 (uz (jv a0).1).1 ts:=xqh hR (by rw[<-d.j];exact J);generalize (uz (jv a0).1).1=t at *;have M:0<a.size/\a.size<=1000:=by refine⟨?_,m.env.size⟩;have h1:=m.one;have B:=(m.fit _<|wZ h1).1;omega
 have F:ky5 a (List.replicate a.size 0):=⟨Qh,jwx G m hM.f⟩;unfold kvn at f;rw[h,lJ (by rfl),A]at f;have f:jqy a n=some b9:=f;unfold jqy at f;rw[Xy aj,lJ aj,J]at f;simp only[rQ]at f;have⟨q,l,f⟩:=wu.1 f;have⟨k,c,f1,f2,_⟩:=find_ok M H (x:=kzs a) hM.f [] F;have⟨k',g1,w,_⟩:=vxu d v (x:=kzs a) hM.f Qh l;rw[f1]at l;injection l with l;have K:k=k':=by rw[<-l]at w;have w:[(k,kzs a)]=[(k',kzs a)]:=w;simp_all
 subst K;subst l;rw[show(n:Int).toNat=n by omega]at f;have j:(jd ⟨[],[],[(k,kzs a)],c⟩).m=[kzs a]:=by simp[jd,newF,kv5,sortL,insL,kv4]
 have L:PInv a ⟨[],[],[(k,kzs a)],c⟩:=by
  refine⟨⟨rfl,lq⟩,?_,λi x hi=>by simp_all,λi x hi g=>?_,f2⟩
  ·rw[j];refine⟨⟨kzs a,rfl,rfl⟩,λx g=>?_,λi x g=>by simp_all⟩;rw[Qq]at g;rw[g];exact hM.f
  simp_all
 have D:PI t a 0 ⟨[],[],[(k,kzs a)],c⟩:=by
  refine⟨L,λe s=>?_,λi x g=>by simp_all,Jd,λx g=>?_,λx g=>(by cases g),λy I=>?_,⟨λ_=>0,rfl,λk x g=>?_,λ_ _=>jV⟩⟩
  ·have s:e∈[(k,kzs a)]:=s;rw[Qq]at s;rw[s];exact⟨hM.f,g1⟩
  ·rw[j,Qq]at g;rw[g];rfl
  ·rw[j];refine⟨kzs a,ay,?_⟩;rw[show y=List.replicate a.size 0 from I];exact Alk.refl d.G hM.f
  simp_all
 have C:Mir t a [] ⟨[],[],[]⟩:=⟨λy d=>qY,rfl,λi y hi=>by simp_all,rfl,λi y hi=>by simp_all,Jd,Jd,λy d=>qY,λy d=>qY⟩;have⟨x,x1,R,q,T,Y,U,Z,r5⟩:=pw2 d C hM.f u ay;have E:RIn2 t a 0 R 0 x:=⟨T,λy=>by rw[U];simp[Rch],jG,λy d=>by simp_all,λq l=>aj⟩;have⟨p,V,W⟩:=zvt d v H B 502 0 ⟨[],[],[(k,kzs a)],c⟩ R 0 x b9 D E (by grind) f;grind [vj4]
theorem xzl:(endOf d6=1/\0<d6.xs.length)\/(endOf d6=2/\kx2 d6=true)\/(endOf d6=3/\0<d6.xz.length)\/endOf d6=0:=by grind [endOf]
section
variable {t:PTree}
theorem xjc(h:Right t):vyw t:=by have⟨L,g,m⟩:=h.M;refine⟨by have:t.j.length<=2:=h.bnd.j;omega,λk i=>?_⟩;have d:=wZ i;have⟨k',x,h1,j,l⟩:=zzb t.j _ ⟨_,d,rfl⟩;have⟨x',g1,f⟩:=qww h1;have e:k'=k:=pqd (jqq h.xt) (by rw[QV,g1];exact congrArg some f) (by simp_all);have hb:=h.bnd.size _ d;exact⟨(kym h1).trans qG,g.j _ d,_,(Xz aj).symm,aj⟩
theorem xjj(h:Right t):jyf (kzv t):=by
 have key:∀k:Nat,(zxi t.j[k]?).length<=24/\∀l∈zxi t.j[k]?,l.length<=100:=λk=>by
  cases g:t.j[k]? with
  |none=>exact⟨by simp[zxi],by simp[zxi]⟩
  |some q=>
   have:=h.bnd.size q<|wB g;have e:(mg q.size.x).toNat<=4:=aj;exact⟨kzl _ e,λl f=>by have:=(qky _ l f).1;omega⟩
 have⟨a1,a2⟩:=key 0;have⟨b1,b2⟩:=key 1;refine⟨?_,λo d=>?_⟩
 ·have:=Jt a1 b1;simp[kzv,List.length_flatMap,List.map_const',List.sum_replicate_nat];omega
 ·have⟨x,h1,d⟩:=rM.1 d;grind
theorem pq8:∀(fuel r f k:Nat)(x:SnR)(res:Int×Bool×Nat×Nat),zwt t n fuel r f k x=some res->res.2.2.1<=r+fuel
 |0,_,_,_,_,_,h=>ig
 |fuel+1,r,f,k,x,res,h=>by
  rw[zwt]at h;split at h
  ·grind
  ·have⟨b,_,h⟩:=wu.1 h;split at h
   ·grind
   ·split at h
    ·grind
    ·have⟨y,_,h⟩:=wu.1 h;have:=pq8 fuel _ _ _ _ _ h;omega
theorem py9(w:(qq4 a0).1=0)(v:qx5 a0=some a)(g:MachOf (uz (jv a0).1).1 a){d7:List ByteArray}(h1:qk2 a d7 (List.replicate a.size 0)=some st)(f:lookO a st=some d6):∃S0,kkb (uz (jv a0).1).1 (uz (jv a0).1).1.z S0/\qvn (uz (jv a0).1).1 d7 0 S0=some (d6,kx2 d6,0,0):=by
 have hR:=qk7 w;have⟨us,z,h,k,m,F,p,q,B⟩:=jy9 hR v;have⟨S,u,D⟩:=pqq hR h k;have d:=g.M;have E:=d.env.size;have⟨y,j⟩:=vyb d [] d7 0 _ st g.f h1;have C:=y.T;rw[Qs,vq9,lJ aj,f]at j;have t:Both (uz (jv a0).1).1 (qm<|ql (uz (jv a0).1).1) a.z a.C (ksz<|ql (uz (jv a0).1).1) (ssz<|ql (uz (jv a0).1).1) a.size (tuV (uz (jv a0).1).1 idτ) idτ:=⟨d.env,d.disj,by rw[p];exact pw8 hR<|zjz,by rw[m,p];exact xxg hR h⟩;refine⟨S,u,jv6 t q B ?_ (λx A=>(qjq hR A).1) (λst S h1 f tx i=>?_) d7 0 _ S _ g.f (by simp_all) j⟩
 ·have:=d.nodup;rw[q,Jz]at this;exact this
 ·unfold zqh at i;have⟨l,s,e⟩:=wu.1 i;split at e
  ·cases e
  ·injection e with e;subst e;rw[f.1];exact(zkj h1 f (by rw[m];exact xxu hR h k) d.few _ l jV s).1
def xj1(s:ByteArray)(d:SRep)(e:Int×Bool×Nat×Nat):Prop:=
 e.1=d.err/\d.xr=e.2.2.2/\(((¬e.1=0\/e.2.1=false)/\d.end_=0/\d.xq=[])\/(e.1=0/\e.2.1=true/\d.xq.length=e.2.2.1/\d.xq.length<=1000/\∃v,xk5 s d.xq (v,kx2 v,0,0)/\endOf v=d.end_/\d.end_≠0))
theorem pvc(s:ByteArray)(most:Int):∃f g,kvn s most=some f/\pjc s most g/\xj1 s f g:=by
 by_cases h:(qq4 s).1=0
 ·have⟨a,j,hM⟩:=xzy h;have k:(qw0 s).1=0:=by rw[<-jz9];exact h
  by_cases z:most<1\/500<most
  ·refine⟨qq3 8,(8,false,0,0),?_,.inr<|.inl ⟨k,z,rfl⟩,rfl,rfl,.inl ⟨.inl ak,rfl,rfl⟩⟩;grind [kvn,jqy]
  ·obtain⟨n,rfl⟩:∃n:Nat,most=n:=⟨most.toNat,aj⟩;have⟨f,m⟩:=pz9 h j hM (n:=n) aj aj;have⟨S,g,y,d,i⟩:=vjv h j hM aj aj m.src;have hR:=qk7 h;have q:=xwz hR<|xko h;refine⟨f,g,m.src,.inr<|.inr ⟨k,n,rfl,aj,aj,q,xjc hR,xjj hR,S,y,d⟩,i.err,?_⟩;obtain e|⟨p,_,_,t⟩:=m.how
   ·have⟨b1,_⟩:=i.s (by rw[e];decide);subst e;rw[b1];exact⟨rfl,.inl ⟨.inl ak,rfl,rfl⟩⟩
   ·have⟨f1,f2,f3,f4⟩:=i.ok p;refine⟨f1,?_⟩;by_cases l:f.end_=0
    ·simp_all
    ·have⟨st,v,h1,u,w,_⟩:=t.s l;unfold vj4 at d;have⟨x,_,d⟩:=wu.1 d;have:=pq8 _ _ _ _ _ _ d;refine .inr ⟨by rw[i.err,p],?_,f4 l,aj,v,⟨k,q,py9 h j hM h1 u⟩,w,l⟩;simp_all
 ·refine⟨qq3 (qq4 s).1,((qq4 s).1,false,0,0),?_,.inl ⟨by rw[<-jz9];exact h,by rw[<-jz9]⟩,rfl,rfl,.inl ⟨.inl h,rfl,rfl⟩⟩;grind [kvn]
end
def mvV(v:MVar)(ta:Option Addr)(tc:Nat):Value:=.agg #[i_ v.f,i_ v.d,.slice ta v.a.length tc,i_ v.g,i_ v.B]
theorem vya(h:OwnRows 0 w tv t)(i:t[gc]?=some z)(B:z[j]?=some d8):∃g c f n2 c2,tv=sL g t.length c/\g<w.heap.size/\f<w.heap.size/\Ce w g gc (sL f n2 c2)/\n2=z.length/\Ce w f j (i_ d8)/\gc<t.length/\j<z.length/\t.length<=maxLen/\z.length<=maxLen:=by
 obtain⟨la,ll,lc,cs,rfl,h1,u⟩:=h;have e:gc<t.length:=by grind
 have m:j<z.length:=by grind
 rw[wW e]at i;injection i with i;have⟨xa,xc,d,hv⟩:=qp h1;injection d with d q e3;subst d;subst q;subst e3;obtain⟨g,rfl,_,A,y⟩:=hv gc e;have⟨a,n,c,l,k⟩:=u.2 gc e;rw[i]at k;have⟨E,F,e5,p⟩:=qp k;injection e5 with e5 s e7;subst e5;subst s;subst e7;obtain⟨f,rfl,_,x,v⟩:=p j m;have C:t.length<=maxLen:=by
  obtain⟨d,_⟩|⟨_,cap,_,d,_,_,l,e5,_⟩:=h1.2
  ·cases d
  ·omega
 have D:z.length<=maxLen:=by
  obtain⟨d,_⟩|⟨_,cap,_,d,_,_,l,e5,_⟩:=k.2
  ·cases d
  ·omega
 grind
theorem zwr(ta:Option Addr)(tc:Nat)(p:OwnRows 0 w tv t)(d:kvz d9 t i=some d8):Calls prog 228 #[mvV d9 ta tc,tv,i_ i] w λe w'=>rT e (i_ d8)/\oq w w':=by
 have f:=jZ w (o:=.cells #[i_ d9.f,i_ d9.d,.slice ta d9.a.length tc,i_ d9.g,i_ d9.B] 213);unfold kvz at d;unfold mvV;by_cases h1:d9.g=-1
 ·rw[h1]at f |-;rw[h1,lJ ak]at d;injection d with d;subst d;go_wp2
  go_ret;simp_all
 ·rw[Xy (by simp_all)]at d;have m:¬d9.g<0:=λh=>by simp_all
  rw[Xy m]at d;have⟨o,l,d⟩:=wu.1 d;obtain⟨k,j⟩:∃k:Nat,d9.g=k:=⟨d9.g.toNat,aj⟩;rw[j,tX]at l;obtain⟨g,c,v,n2,c2,rfl,x,q,d1,rfl,d2,u,s,y,z⟩:=vya p l d;rw[j]at f |-;go_wp2
  go_ret;simp_all
theorem zwd(ta:Option Addr)(tc:Nat)(s:OwnRows 0 w tv t)(d:qv3 d9 t d8=some e8):Calls prog 227 #[mvV d9 ta tc,tv,.int .u8 d8] w λe w'=>rT e (.int .u8 e8)/\oq w w':=by
 have f:=jZ w (o:=.cells #[i_ d9.f,i_ d9.d,.slice ta d9.a.length tc,i_ d9.g,i_ d9.B] 213);unfold qv3 at d;unfold mvV;by_cases h1:d9.B=-1
 ·rw[h1]at f |-;rw[h1,lJ ay]at d;injection d with d;subst d;go_wp2
  go_ret;simp_all
 ·have v:(d9.B==-1)=false:=by simp_all
  by_cases u:d8=0
  ·subst u;rw[lJ ay]at d;injection d with d;subst d;go_wp2
   go_ret;simp_all
  ·rw[Xy (by simp_all)]at d;have p:¬(d9.B<0\/d8<0\/255<d8):=λh=>by simp_all
   rw[Xy p]at d;have⟨o,l,d⟩:=wu.1 d;have⟨y,m,d⟩:=wu.1 d;have q:0<=y/\y<255:=by simp_all
   rw[lJ q]at d;injection d with d;obtain⟨k,i⟩:∃k:Nat,d9.B=k:=⟨d9.B.toNat,aj⟩;obtain⟨j,F⟩:∃j:Nat,d8=(j:Int)+1:=⟨d8.toNat-1,aj⟩;rw[i,tX]at l;rw[show d8.toNat-1=j by omega]at m;obtain⟨g,c,D,n2,c2,rfl,E,x,d1,rfl,d2,C,B,G,H⟩:=vya s l m;rw[i]at f |-;have z:¬((j:Int)+1=0):=aj;have A:((j:Int)+1==0)=false:=by simp_all
   go_wp2;go_ret;simp_all
def qqc(v:Value):List Nat:=v.ownBlock.toList
theorem qj8(h:w.ownsRow lo e gc v n xs):∀k∈qqc v,∃cs fr,w.heap[k]?=some (.cells cs e fr):=by
 intro k f;obtain⟨d,_⟩|⟨g,cap,cur,d,_,e3,_⟩:=h.2
 ·grind [qqc,Value.ownBlock]
 grind [qqc,Value.ownBlock]
theorem jwz(h:kqg S w w')(g:∀k∈S,∃cs fr,w.heap[k]?=some (.cells cs e fr))(j:e∈bad)(x:Option Nat):Tk x bad w w':=
 ⟨h.os,h.tape,h.output,h.size,λi o h1 _ f=>by
  by_cases d:i∈S
  ·grind
  ·exact h.at h1 d⟩
theorem xjm(h:w.ownsRow gc e 1 (sL g n c) n xs)(j:Nat)(u:Value):(w.setCell (Ad g j) u).ownsRow gc e 1 (sL g n c) n (xs.set j u):=by
 refine⟨lM,?_⟩;obtain⟨d,_⟩|⟨m,cap,cur,d,i,e3,k,e5,l,e7⟩:=h.2
 ·cases d
 ·injection d with d _ f;injection d with d;injection d with d;subst d;subst f;refine .inr ⟨g,c,_,rfl,i,Xx w g j _ _ u e3,k,e5,by simp_all,?_⟩;grind [List.take_set]
theorem pwb{g0:IntKind}(h:w.ownsRow gc e 1 (sL g n c) n (l.map (Value.int g0)))(j:Nat)(i:j<l.length):Ce w g j (.int g0 l[j]):=by
 have⟨xa,xc,d,hv⟩:=qp h;injection d with d f e3;have k:l.length=n:=by have:=h.1;simp_all
 grind
theorem pwd(h:w.ownsRow gc e 1 (sL g n c) n xs)(j:Nat):Fr w g j:=by
 obtain⟨d,_⟩|⟨l,cap,cur,d,f,e3,i,e5,k,e7⟩:=h.2
 ·cases d
 grind [World.frozen?]
theorem qql(h:Below gc w.drew w'):Below gc w w':=⟨h.os,h.tape,h.output,h.size,h.block⟩
theorem jyr(h:w.heap[b]?=some o)(hb:oq w w')(d:b<w.heap.size)(g j:Nat)(u:Value)(e:g≠b):(w'.setCell (Ad g j) u).heap[b]?=some o:=(jN (by grind)).trans ((hb.block b d).trans h)
abbrev TuS(O b gs k:Nat)(d:Value)(v:MVar)(ta:Option Addr)(tc:Nat)(x:Int)(w:World):Prop:=
 w.cell? ⟨O,2,none⟩=some d/\w.cell? ⟨b,0,none⟩=some (.int .i64 v.f)/\w.cell? ⟨b,1,none⟩=some (.int .i64 v.d)/\w.cell? ⟨b,2,none⟩=some (.slice ta v.a.length tc)/\w.cell? ⟨b,3,none⟩=some (.int .i64 v.g)/\w.cell? ⟨b,4,none⟩=some (.int .i64 v.B)/\w.cell? ⟨gs,k,none⟩=some (.int .u8 x)
theorem TuS.below(h:TuS O b gc M tv d9 la fb d8 w)(hb:Below cc w w')(e:O<cc)(h1:b<cc)(d:gc<cc):TuS O b gc M tv d9 la fb d8 w':=by have⟨f,s1,g,s3,i,j,k⟩:=h;exact⟨(hb.cell (p:=⟨O,2,none⟩) e).trans f,(hb.cell (p:=⟨b,0,none⟩) h1).trans s1,(hb.cell (p:=⟨b,1,none⟩) h1).trans g,(hb.cell (p:=⟨b,2,none⟩) h1).trans s3,(hb.cell (p:=⟨b,3,none⟩) h1).trans i,(hb.cell (p:=⟨b,4,none⟩) h1).trans j,(hb.cell (p:=⟨gc,M,none⟩) d).trans k⟩
theorem pv1{g4:Value}(Y:w.heap[O]?=some (.cells #[pT M,g4,sL gc cur0.length cc] 260 (0,0)))(h:Mc 0 w M nb vars tab)(hT:OwnRows 0 w tv t)(hS:kyy .u8 w sv st)(hC:w.ownsRow fb 5 1 (sL gc cur0.length cc) cur0.length (cur0.map (Value.int .u8)))(a5:sv.ownBlock≠some gc)(hv:vars.length<=1000)(b7:cur0.length<=1000000)(bD:st.length<=1000000)(hr:qqw t st vars cur0=some l):Calls prog 187 #[pT O,tv,sv] w λe w'=>e=.returned (.tuple #[])/\w'.ownsRow fb 5 1 (sL gc cur0.length cc) cur0.length (l.map<|Value.int .u8)/\kqg [gc] w w':=by
 have⟨⟨y0,y1,y2,va,vc,z,cs,hM,HV,HI⟩,_⟩:=h;have⟨m0,m1,m2,m3,m4,m5,_⟩:=kzh hM;have o0:=row3 Y;have aZ:=wQ Y;have W:∀k∈[gc],∃c fr,w.heap[k]?=some (.cells c 5 fr):=λk hk=>qj8 hC k (by simpa[qqc,Value.ownBlock] using hk)
 have aY:O≠gc:=λe=>by simp_all
 obtain⟨sa,sc,rfl,(aK:Hid _)⟩:=hS;have⟨aF,HO,HT,HC,HR,a3⟩:=ju a5 Y hT hC hr W;have bA:gc<w.heap.size:=by have⟨c,fr,L⟩:=W gc ay;grind
 clear Y hr hM W a5 y0 y1 y2 m0 m1 m2 m4 m5;go_in;go_wp21;go_loopw [7,8,17] (λ_ _ i wr=>∃(k:Nat)(c:List Int),k<=vars.length/\i=i_ k/\qqw t st (vars.drop k) c=some l/\c.length=cur0.length/\wr.ownsRow fb 5 1 (sL gc cur0.length cc) cur0.length (c.map<|Value.int .u8)/\kqg [gc] w wr) (λ_ _ i _=>vars.length-(intOf i).toNat);exact⟨0,cur0,jG,rfl,HR,rfl,HC,kqg.refl _ _⟩;obtain⟨G,rfl⟩:=cpy wr;obtain⟨k,c,hk,rfl,d,Z,s,m⟩:=hrel;have aW:=m.size;by_cases V:k<vars.length
 ·have K:=jwz (bad:=[5]) m a3 ak none;have⟨xa,xc,L,J⟩:=qp<|jq HV K (pz.none _) ak;injection L with L _ e3;subst L;subst e3;have⟨ta,tc,⟨f0,f1,f2,f3,f4⟩,_⟩:=pqc k V HI;obtain⟨g,rfl,b8,b9,N⟩:=J k V;have e0:=(N (k*5) aj).trans f0;have L:=(N (k*5+1) aj).trans f1;have e2:=(N (k*5+2) aj).trans f2;have e3:=(N (k*5+3) aj).trans f3;have e4:=(N (k*5+4) aj).trans f4;rw[rU V,qqw]at d;obtain⟨c2,(a1:Hid _),d⟩:=wu.1 d;have⟨X,aU,a8⟩:=jF d (zjq _ _ _ _ _ a1) (qy (w:=G) (o:=.cells #[i_ vars[k].f,i_ vars[k].d,.slice ta vars[k].a.length tc,i_ vars[k].g,i_ vars[k].B] 213));have aB:=m.alloc<|.cells #[i_ vars[k].f,i_ vars[k].d,.slice ta vars[k].a.length tc,i_ vars[k].g,i_ vars[k].B] 213;have aA:=s.alloc<|.cells #[i_ vars[k].f,i_ vars[k].d,.slice ta vars[k].a.length tc,i_ vars[k].g,i_ vars[k].B] 213;generalize vars[k]=v at *;clear N d m K J f0 f1 f2 f3 f4;go_wp21
  go_loopw [8,23] (λ_ i wr=>∃(j:Nat)(cur:List Int),j<=v.d/\i=i_ j/\kw0 v t st ((List.range v.d).drop j) cur=some c2/\cur.length=cur0.length/\wr.ownsRow fb 5 1 (sL gc cur0.length cc) cur0.length (cur.map<|Value.int .u8)/\kqg [gc] w wr/\Rw wr G.heap.size #[i_ v.f,i_ v.d,.slice ta v.a.length tc,i_ v.g,i_ v.B] 213) (λ_ i _=>v.d-(intOf i).toNat);exact⟨0,c,jG,rfl,a1,Z,aA,aB,a8⟩;obtain⟨j,cur,hj,rfl,f,a0,s,m,D⟩:=hrel;have aX:=m.size;have b6:=wQ D;have⟨b0,b1,b2,b3,b4,_⟩:=jl D;by_cases aV:j<v.d
  ·have aM:j<(List.range v.d).length:=by simp_all
   rw[rU aM,Zn,kw0]at f;have⟨p,hp,f⟩:=wu.1 f;have⟨x,hx,f⟩:=wu.1 f;have⟨y,hy,f⟩:=wu.1 f;have hq:0<=p/\v.f+p.toNat<cur.length:=by simp_all
   rw[lJ hq]at f;obtain⟨q,aN⟩:∃q:Nat,p=q:=⟨p.toNat,aj⟩;subst aN;rw[tX]at hq f;have⟨_,aO⟩:=hq;have aP:v.f+j<st.length:=by grind
   obtain⟨gs,rfl,aL,U⟩:=ku aK aj;have aT:gs≠gc:=λe=>aF (by rw[e];rfl)
   have a4:wr.cell? (Ad gs (v.f+j))=some (.int .u8 x):=by rw[Jk (m.block gs aL (by simp_all)),U _ aP];simp_all
   have⟨aR,aS,a6,_⟩:=row3 (m.at HO<|by simp_all);have K:=jwz (bad:=[5]) m a3 ak none;have T:=HT.tk K (pz.none _) ak ak;have⟨P,Q,u,E,F,a9,aH⟩:=jj (zwr ta tc (T.below<|(Below.refl _ wr).drew) hp) (λ(wx:World)(hb:oq wr wx)=>zwd ta tc (T.below hb) hy) (show TuS O G.heap.size gs (v.f+j) (sL gc cur0.length cc) v ta tc x wr.drew from⟨a6,b0,b1,b2,b3,b4,a4⟩) s m D f;have aD:gc≠G.heap.size:=aj;have b5:O<wr.heap.size:=aj;have bB:gs<wr.heap.size:=aj;have bC:v.f+q<cur0.length:=aj;have wj:IntKind.i64.wrap ((v.f:Int)+j)=(v.f:Int)+j:=kQ;have wq:IntKind.i64.wrap ((v.f:Int)+q)=(v.f:Int)+q:=kQ;have bG:(0:Int)<=(v.f:Int)+j:=aj;have bH:(v.f:Int)+j<st.length:=aj;have bI:(0:Int)<=(v.f:Int)+q:=aj;have bJ:(v.f:Int)+q<cur0.length:=aj;have tj:((v.f:Int)+j).toNat=v.f+j:=aj;have tq:((v.f:Int)+q).toNat=v.f+q:=aj;unfold mvV at P Q;clear f s m D hp hx hy T K aR aS a6 b0 b1 b2 b3 b4 a4 U e0 L e2 e3 e4;go_upto_region 6 with fail
   refine bg (S:=TuS O G.heap.size gs (v.f+j) (sL gc cur0.length cc) v ta tc x) (tl:=[22]) au ?_;refine frS 0 ?_;refine frS 1 ?_;refine frS 2 ?_;refine tkS 3 u ?_;refine frS 4 ?_;refine tkS 5 u ?_;refine tkS 6 u ?_;refine frS 7 ?_;refine frS 8 ?_;refine tkS 11 u ?_;refine frS 12 ?_;refine frS 13 ?_;refine frS 14 ?_;refine tkS 15 u ?_;refine frS 16 ?_;refine frS 17 ?_;refine frS 18 ?_;refine tkS 19 u ?_;refine onS 9 λK B=>?_
   go_simp;go_at_call 228
   refine zM P λx1 C=>?_;have aQ:wr.heap.size<=x1.heap.size:=C.size;have⟨a2,aE,R⟩:=jF (u.below C (by omega:O<wr.heap.size) (by omega:G.heap.size<wr.heap.size) (by omega:gs<wr.heap.size)) (show oq wr x1 from qql C) (Q x1 (qql C:oq wr x1));clear C;dsimp only;refine B _ _ a2 ?_;clear B K;try simp only[Act.put,Qy,QW,QY]
   refine frS 10 ?_;refine onS 20 λK B=>?_
   go_simp;go_at_call 227
   refine zM R λx2 H=>?_;have bF:x1.heap.size<=x2.heap.size:=H.size;have aI:=oz (a2.below H (by omega:O<x1.heap.size) (by omega:G.heap.size<x1.heap.size) (by omega:gs<x1.heap.size));have A:oq wr x2:=aE.trans<|H.mono aQ;have I:=qj E A;have cd:=pwb I (v.f+q) aO;have fd:=pwd I<|v.f+q;have⟨aG,aC,a7⟩:=jF (xjm I (v.f+q) (.int .u8 y)) ((F.trans<|.of_below A).set (p:=⟨gc,v.f+q,none⟩) (.inl ay) (.int .u8 y)) ((jyr a9 A aj gc (v.f+q) (.int .u8 y) aD));clear H A I R Q P;dsimp only;refine B _ _ aI ?_;clear B K;try simp only[Act.put,Qy,QW,QY]
   refine frS 21 ?_;refine kyj ?_;refine onA 22 λK B=>?_
   go_simp;refine B _ _ ?_;clear B K;refine wpAny_done au ?_ _;go_wp2;exact rdM ⟨j+1,cur.set (v.f+q) y,aj,eu,aH,by simp_all,by rw[Zf];exact aG,aC,a7⟩
  ·have:j=v.d:=by omega
   subst this;rw[Qa ay,kw0]at f;injection f with f;subst f;have⟨E,F⟩:=jS s m;clear s m D b0 b1 b2 b3 b4;go_wp2
   exact rdM ⟨k+1,cur,aj,eu,X,a0,E,F⟩
 ·have:k=vars.length:=by omega
  subst this;rw[sK,qqw]at d;injection d with d;subst d;have⟨HX,aJ⟩:=jS s m;clear s m;go_wp2
  go_end0;exact⟨rfl,HX,aJ⟩
theorem Mc.tk(h:Mc lo w M nb vars tab)(d:Tk g5 bad w w')(f:pz w g5)(g:g5≠some nb)(i:105∉bad)(h1:213∉bad)(j:9∉bad):Mc lo w' M nb vars tab:=by have⟨⟨x0,x1,x2,va,vc,z,cs,hM,l,k⟩,m⟩:=h;exact⟨⟨x0,x1,x2,va,vc,z,cs,d.e hM (λe=>f _ _ _ _ e hM) i,jq l d f h1,k.tk d f j⟩,m.tk d g⟩
theorem pxw(t:TypeId)(z:Value)(s b:Nat)(h:(prog.info? t).map (λi=>(i.zero,i.size,i.bytes))=some (some z,s,b)):(prog.info? t).map (·.size)=some s:=by
 cases hi:prog.info? t with
 |none=>simp_all
 |some i=>simp_all
theorem vjj:kqg [g] w (w.setRow g g6):=
 ⟨rfl,rfl,rfl,ay,λk d hn=>setRow_other w g k g6<|by simp_all⟩
theorem pwc{ys:List Value}(h:w.ownsRow gc e 1 (sL g n c) n xs)(m:ys.length=n):∃cur,Rw w g cur e/\n<=cur.size/\(w.setRow g (cur.toList.take 0++(ys++cur.toList.drop (0+ys.length))).toArray).ownsRow gc e 1 (sL g n c) n ys:=by
 obtain⟨d,_⟩|⟨l,cap,cur,d,i,e3,j,e5,k,e7⟩:=h.2
 ·cases d
 ·injection d with d _ f;injection d with d;injection d with d;subst d;subst f;refine⟨cur,e3,aj,aj,.inr ⟨g,c,_,rfl,i,setRow_heap w g _ _ e _ e3,j,e5,?_,?_⟩⟩
  ·simp_all
  simp_all
theorem px0(hR:w.ownsRow gc 5 1 (sL g n c) n (k.map (Value.int .u8)))(B:kyy .u8 w tv z)(J:z.length=k.length)(hn:n<=1000000):Calls prog 188 #[sL g n c,tv] w λe w'=>rT e (.tuple #[])/\w'.ownsRow gc 5 1 (sL g n c) n ((jxx k z).map<|Value.int .u8)/\kqg [g] w w':=by
 have l:k.length=n:=by have:=hR.1;simp_all
 have C:kyy .u8 w (sL g n c) k:=qk6 (by rw[l];exact hR);have p:=zxg B C aj aj;obtain⟨xa,xc,rfl,(y:Hid _)⟩:=B;obtain⟨cur,(t:Hid _),N,h⟩:=pwc hR (ys:=z.map<|Value.int .u8) (by simp_all);have⟨F,x⟩:=jS hR h;have a1:z.length<=n:=aj;have M:=oz (show z=[]->cmpL z k=0 from λe=>by have G:k=[]:=Qv (by simp_all);rw[e,G];rfl)
 have u:=oz (show ∀(f:Int),f=cmpL z k->(if cmpL z k<0 then z else k)=if f<0 then z else k from λf e=>qG);unfold jxx;clear h J l;have⟨f,d⟩:=cpy<|cmpL z k;rw[ku u f d];rw[<-d]at p;have L:=oz d;clear d;by_cases m:f<0
 ·rw[lJ m];go_in;go_wp21;refine zM p ?_;rintro K ⟨q,rfl⟩;by_cases H:0<z.length
  ·obtain⟨i,rfl,O,D⟩:=ku y H;have s:=oz (show ∀j v,(z.map<|Value.int .u8)[j]?=some v->(w.drewN q).cell? (((Ad i 0):Addr).add j)=some v from λj v I=>by
    have E:j<z.length:=by grind
    rw[QV,wW E]at I;rw[show((⟨i,0,none⟩:Addr).add j)=⟨i,j,none⟩ by simp[Addr.add];omega];simp_all)
   have A:=oz<|pxw 5 _ _ _ infoU8;clear D;go_wp2_with (refine wpList_copy_own rfl _ _ 95 95 rfl 5 underlying95 A g 0 n c ⟨i,0,none⟩ z.length xc rfl rfl cur 5 t (z.map<|Value.int .u8) (by simp_all) s (by grind) (jvl z) ?_)
   go_wp2;go_end0;exact⟨rfl,(by have h9:=ku x;simp only[List.take_zero,Qd,Ql,Jc]at h9;exact h9),((kqg.refl _ w).drewN q).trans<|vjj⟩
  grind [ku]
 ·rw[Xy m];go_in;go_wp21;refine zM p ?_;rintro K ⟨q,rfl⟩;go_wp2;go_end0;exact⟨rfl,F,((kqg.refl _ w).drewN q)⟩
structure jva (B:Nat)(w:World)(O M gc cc:Nat)(ts:List Turn)(cur:List Int)(tv:Value):Prop where
 e:w.heap[O]?=some (.cells #[pT M,tv,sL gc cur.length cc] 260 (0,0))
 turns:kz6 0 w tv ts
 xu:w.ownsRow B 5 1 (sL gc cur.length cc) cur.length (cur.map<|Value.int .u8)
theorem jva.ty(h:jva fb w O M gc cc ts z tv):∀k∈[gc],∃c fr,w.heap[k]?=some (.cells c 5 fr):=λk d=>qj8 h.xu k (by simpa[qqc,Value.ownBlock] using d)
theorem jva.ne(h:jva fb w O M gc cc ts k tv):O≠gc:=λe=>by have⟨c,fr,d⟩:=h.ty gc ay;rw[<-e,h.e]at d;simp_all
theorem px6(A:jva fb w O M gc cc ts cur0 tv)(h:Mc 0 w M nb vars tab)(L:w.ownsRow 0 5 1 (.slice sa sn sc) st.length (st.map (Value.int .u8)))(F:(Value.slice sa sn sc).ownBlock≠some gc)(hv:vars.length<=1000)(h0:0<st.length)(Z:st.length=cur0.length)(a3:st.length<=1000000)(aI:ts.length<=1000000){g7:List Int×List Int}(hr:kvk vars st ts st cur0=some g7):Calls prog 129 #[pT O,.slice sa sn sc] w λe w'=>∃ga ca,rT e (sL ga st.length ca)/\w.heap.size<=ga/\w'.ownsRow w.heap.size 5 1 (sL ga st.length ca) st.length (g7.1.map<|Value.int .u8)/\w'.ownsRow fb 5 1 (sL gc cur0.length cc) cur0.length (g7.2.map<|Value.int .u8)/\kqg [gc] w w':=by
 have U:=zjt L aj;obtain⟨ya,yc,m,-⟩:=qp L;injection m with m J e3;subst m;subst J;subst e3;have⟨q,V,HS,HR⟩:=jE A h L hr;have Y:=wQ A.e;have aF:gc<w.heap.size:=by have⟨c,fr,m⟩:=A.ty gc ay;grind
 have a7:=A.ne;have a9:st.length<=cur0.length:=aj;have a6:cur0.length<=st.length:=aj;clear hr Z;go_in;go_wp21;refine U.mono ?_;rintro e w1 ⟨ka,kn,D,rfl,E,u⟩;obtain⟨ga,a1,a2⟩:∃ga,w.heap.size<=ga/\(Value.slice ka kn D)=sL ga st.length D:=by
  obtain⟨m,J⟩|⟨g,cap,cur,m,J,_⟩:=E.2
  ·omega
  simp_all
 injection a2 with Q R;subst Q;subst R;have o0:=row3<|(u.block O Y).trans q.e;have⟨la,ll,lc,cs,W,I,a4⟩:=q.turns;obtain⟨xa,xc,ex,-⟩:=qp I;injection ex with s X t;subst s;subst X;subst t;subst W;go_wp21
 go_loopw [7,15] (λ_ i wr=>∃(k:Nat)(least cur:List Int),k<=ts.length/\i=i_ k/\kvk vars st (ts.drop k) least cur=some g7/\least.length=st.length/\cur.length=cur0.length/\wr.ownsRow w.heap.size 5 1 (sL ga st.length D) st.length (least.map<|Value.int .u8)/\wr.ownsRow fb 5 1 (sL gc cur0.length cc) cur0.length (cur.map<|Value.int .u8)/\kqg [gc] w wr) (λ_ i _=>ts.length-(intOf i).toNat);exact⟨0,st,cur0,jG,rfl,HR,rfl,rfl,E,(qj q.xu u),.of_below u⟩;obtain⟨T,rfl⟩:=cpy wr;obtain⟨k,least,cur,f,rfl,d,aG,N,H,a0,j⟩:=hrel;by_cases x:k<ts.length
 ·have K:=jwz (bad:=[5]) j q.ty ak none;have⟨aK,aL,ex,C⟩:=qp<|jq I K (pz.none _) ak;injection ex with s _ t;subst s;subst t;obtain⟨g,rfl,aD,aE,hc⟩:=C k x;have⟨v,ev,a5⟩:=(a4.tk K (pz.none _) ak ak).2 k x;have e5:T.cell? (Ad g (k*1))=some v:=by simp_all
  simp at e5;have y:=j.at q.e (by simp_all);have p0:=row3 y;rw[rU x,kvk]at d;have⟨c2,G,d⟩:=wu.1 d;have a8:=qjk _ _ _ G;have B:T.heap[O]?=some (.cells #[pT M,sL g ts.length lc,sL gc cur.length cc] 260 (0,0)):=by simp_all
  have P:T.ownsRow fb 5 1 (sL gc cur.length cc) cur.length (cur.map<|Value.int .u8):=by simp_all
  go_wp21;refine zM (pv1 B (V.tk K (pz.none _) ay ak ak ak) a5 ((qk6 HS).stay j<|λk f hm=>F<|by simp_all) P F hv aj a3 G) ?_;rintro w2 ⟨p,l⟩;rw[N]at p;have aJ:=row3 (l.at y<|by simp_all);have S:=qj7 H l (λk f hm=>by injection f with f;grind)
  go_wp21;refine zM (px0 S (qk6 (by rw[show c2.length=cur0.length by omega];exact p)) aj aj) ?_;rintro w3 ⟨aA,z⟩;have aB:=qj7 p z (λk f hm=>by injection f with f;grind)
  have aC:=show kqg [gc] w w3 from(((j.trans l).wide (S':=[gc,ga]) ay).trans<|z.wide (S':=[gc,ga]) ay).wide (λk f hl=>by grind)
  have aH:=vzc (least:=least) (c:=c2) aj;go_wp2;grind [intOf]
 ·have:k=ts.length:=by omega
  subst this;rw[sK,kvk]at d;injection d with d;subst d;go_wp2
  go_ret;exact⟨ga,D,rfl,a1,H,a0,j⟩
section
theorem jj3(h:kxl k=true):∀x∈k,0<=x/\x<=255:=by intro x d;have:=sJ.1 h x d;simp_all
theorem ofNat_inj(d:0<=d8/\d8<=255)(hb:0<=e8/\e8<=255)(h:UInt8.ofNat d8.toNat=UInt8.ofNat e8.toNat):d8=e8:=by grind [UInt8.toNat_ofNat']
theorem vx2(g:kxl k=true)(hb:kxl l=true)(h1:(strOfNums k).data.toList=(strOfNums l).data.toList):k=l:=by
 rw[strOfNums_data,strOfNums_data]at h1;have e:=jj3 g;have f:=jj3 hb;clear g hb;induction k generalizing l with
 |nil=>
  simp_all
 |cons x k ih=>
  cases l with
  |nil=>simp_all
  |cons y l=>
   simp only[Qm,List.cons.injEq]at h1;rw[ofNat_inj (e x ay) (f y ay) h1.1,ih h1.2 (λz d=>e z (by simp[d])) (λz d=>f z<|by simp[d])]
theorem key_inj(d:kxl k=true)(hb:kxl z=true)(h:strOfNums k=strOfNums z):k=z:=vx2 d hb (by rw[h])
theorem qku{l:List α}(h:l.Nodup)(hi:i<l.length)(f:j<l.length)(e:l[i]=l[j]):i=j:=by
 obtain d|rfl|d:=Nat.lt_trichotomy i j
 ·exact absurd e (sQ.1 h i j hi f d)
 ·rfl
 ·exact absurd e.symm (sQ.1 h j i f hi d)
structure kvr (w:World)(b:Nat)(ks:List (List Int))(vs:List Value):Prop where
 ents:∃es clock,w.heap[b]?=some (.map es clock)/\es.toList.map (λe=>(e.key,e.val))=(ks.zip vs).map (λp=>(Value.string<|strOfNums p.1,p.2))/\(es.toList.map (·.born)).Nodup/\∀e∈es.toList,e.born<clock
 T:ks.length=vs.length
 nodup:ks.Nodup
 ok:∀k∈ks,kxl k=true/\k.length<=1000
theorem kvr.lt(h:kvr w b ks vs):b<w.heap.size:=by have⟨es,c,h1,_⟩:=h.ents;grind
theorem kvr.stay(h:kvr w b ks vs)(e:kqg S w w')(hn:b∉S):kvr w' b ks vs:=by have⟨es,c,h1,d⟩:=h.ents;exact⟨⟨es,c,e.at h1 hn,d⟩,h.T,h.nodup,h.ok⟩
theorem qwi(h:k.length<=1000):keyOf prog 9 (.string (strOfNums k))=some (.string (strOfNums k).data.toList):=keyS (by rw[strOfNums_size];exact h)
theorem kvr.ent(d:es.toList.map (λe=>(e.key,e.val))=(ks.zip vs).map (λp=>(Value.string (strOfNums p.1),p.2)))(h:ks.length=vs.length)(j:Nat)(g:j<ks.length):∃e,es.toList[j]?=some e/\e.key=.string (strOfNums ks[j])/\e.val=vs[j]:=by
 have f:(es.toList.map<|λe=>(e.key,e.val))[j]?=some (.string<|strOfNums ks[j],vs[j]):=by grind
 grind
theorem kvr.back(d:es.toList.map (λe=>(e.key,e.val))=(ks.zip vs).map (λp=>(Value.string (strOfNums p.1),p.2)))(h:ks.length=vs.length){e:MapEntry}(g:es.toList[j]?=some e):∃(hj:j<ks.length),e.key=.string (strOfNums ks[j])/\e.val=vs[j]:=by
 have f:es.toList.length=ks.length:=by have:=congrArg List.length d;grind
 grind [kvr.ent]
theorem kvr.xze(h:kvr w b ks vs)(g:es.toList.map (λe=>(e.key,e.val))=(ks.zip vs).map (λp=>(Value.string (strOfNums p.1),p.2))):∀e∈es.toList,∃l,keyOf prog 9 e.key=some l:=λe i=>by have⟨j,m,k⟩:=wG i;have⟨d,f,_⟩:=kvr.back g h.T (j:=j) (e:=e) (by grind);exact⟨_,by rw[f];exact qwi (h.ok _<|wZ d).2⟩
theorem kvr.findKey(h:kvr w b ks vs)(g:es.toList.map (λe=>(e.key,e.val))=(ks.zip vs).map (λp=>(Value.string (strOfNums p.1),p.2)))(l:kxl k=true)(m:k.length<=1000)(w':World):(k∉ks/\(Instr.findKey 9 (.string<|strOfNums k) es.toList).run prog w'=.ok none w')\/∃j e,∃(d:j<ks.length),ks[j]=k/\es.toList[j]?=some e/\e.val=vs[j]'(by rw[<-h.T];exact d)/\(Instr.findKey 9 (.string<|strOfNums k) es.toList).run prog w'=.ok (some (j,e.val)) w':=by
 obtain⟨f1,f2⟩|⟨j,e0,f1,f2,f3⟩:=keyed.find w' (qwi m) es.toList<|h.xze g
 ·refine .inl ⟨λq=>?_,f1⟩;have⟨j,d,f⟩:=wG q;have⟨e,s,t,_⟩:=kvr.ent g h.T j d;grind
 ·have⟨d,f,i⟩:=kvr.back g h.T f2;rw[f3]at f;injection f with f;exact .inr ⟨j,e0,d,(key_inj l (h.ok _<|wZ d).1 f).symm,f2,i,f1⟩
section
variable {w:World} {b:Nat} {ks:List (List Int)} {vs:List Value} {T E:Nat} {z:Value}
theorem xxl(h:kvr w b ks vs)(g:prog.underlying T=some (.map 9 E))(l:∀w,(zeroValue E).run prog w=.ok z w)(i:kxl k=true)(d:k.length<=1000)(hn:k∉ks)(c:Bool):(Instr.lookup T (.map (some b)) (.string (strOfNums k)) c).run prog w=.ok (if c then .tuple #[z,.bool false] else z) w:=by
 have⟨es,m,h1,f,_⟩:=h.ents;obtain⟨_,f1⟩|⟨j,e,q,p,_⟩:=h.findKey f i d w
 ·simp[Instr.lookup,Q7 g,MapKept.run_getObj_map h1,keyed.check w _ (qwi d),f1,l w,Result.andThen]
 grind
theorem pqm(h:kvr w b ks vs)(m:prog.underlying T=some (.map 9 E))(f:j<ks.length)(hv:j<vs.length)(c:Bool):(Instr.lookup T (.map (some b)) (.string (strOfNums ks[j])) c).run prog w=.ok (if c then .tuple #[vs[j],.bool true] else vs[j]) w:=by
 have⟨es,p,h1,l,_⟩:=h.ents;have d:=h.ok _<|wZ f;obtain⟨hn,_⟩|⟨i,e,hi,g,_,k,f1⟩:=h.findKey l d.1 d.2 w
 ·simp_all
 ·have:i=j:=qku h.nodup hi f g;subst this;simp[Instr.lookup,Q7 m,MapKept.run_getObj_map h1,keyed.check w _ (qwi d.2),f1,k,Result.andThen]
theorem qxg{w:World}{b:Nat}(h:w.heap[b]?=some (.map es c)):kqg [b] w (ChangeMaps.setBlock w b o):=
 ⟨rfl,rfl,rfl,lV,λk _ hn=>ChangeMaps.heap_setBlock_other h _<|by simp_all⟩
theorem py0(h:kvr w b ks vs)(l:prog.underlying T=some (.map 9 E))(m:kxl k=true)(i:k.length<=1000)(hn:k∉ks)(v:Value):∃w',(Instr.mapUpdate T (.map (some b)) (.string (strOfNums k)) v).run prog w=.ok () w'/\kvr w' b (ks++[k]) (vs++[v])/\kqg [b] w w':=by
 have⟨es,f,h1,g,q,s⟩:=h.ents;obtain⟨_,f1⟩|⟨j,e,y,p,_⟩:=h.findKey g m i w
 ·refine⟨ChangeMaps.setBlock w b<|.map (es.push ⟨.string<|strOfNums k,v,f⟩) (f+1),by simp[Instr.mapUpdate,Q7 l,MapKept.run_getObj_map h1,keyed.check w false (qwi i),f1,MapKept.run_setObj_map _ h1,Result.andThen,ChangeMaps.setBlock],⟨⟨_,_,ChangeMaps.heap_setBlock_same h1 _,?_,?_,?_⟩,by simp[h.T],?_,?_⟩,qxg h1⟩
  ·rw[Array.toList_push,Qw,g,List.zip_append h.T,Qw];rfl
  ·grind
  ·grind
  ·rw[Jw];exact⟨h.nodup,ay,λa t c u e=>by simp_all⟩
  ·intro x d;obtain d|d:=rV.1 d
   ·exact h.ok x d
   simp_all
 grind
end
end
def zqc(B:Nat)(w:World)(gc:Nat)(st:List Int)(v:Value):Prop:=w.ownsRow B 5 1 v st.length (st.map (Value.int .u8))/\v.ownBlock≠some gc
def Sep(w:World)(gc:Nat)(S:List Nat):Prop:=∀k∈S,k=gc\/∀cs fr,w.heap[k]?≠some (.cells cs 5 fr)
theorem zqc.stay(h:zqc O w gc st v)(g:kqg S w w')(f:Sep w gc S):zqc O w' gc st v:=by
 refine⟨qj7 h.1 g λk d i=>?_,h.2⟩;obtain rfl|hn:=f k i
 ·exact h.2 d
 ·have⟨c,fr,e⟩:=qj8 h.1 k (by simp[qqc,d]);simp_all
def pjl(x:SWay)(sa:Option Addr)(sn sc:Nat):Value:=.agg #[.slice sa sn sc,i_ x.J,.string x.E]
def qyk(B:Nat)(w:World)(gc:Nat)(ways:List SWay)(cs:List Value):Prop:=cs.length=ways.length*3/\∀k (hk:k<ways.length),∃sa sn sc,cs[k*3]?=some (.slice sa sn sc)/\cs[k*3+1]?=some (i_ ways[k].J)/\cs[k*3+2]?=some (.string ways[k].E)/\zqc B w gc ways[k].U (.slice sa sn sc)
theorem qyk.stay(h:qyk O w gc ways cs)(g:kqg S w w')(f:Sep w gc S):qyk O w' gc ways cs:=
 ⟨h.1,λk i=>by have⟨sa,sn,sc,e0,d,e,j⟩:=h.2 k i;exact⟨sa,sn,sc,e0,d,e,j.stay g f⟩⟩
def zj6(B:Nat)(w:World)(gc:Nat)(f:Fnd)(vs:List Value):Prop:=vs.length=f.length/\∀k (hk:k<f.length),∃sa sn sc,vs[k]?=some (pjl f[k].2 sa sn sc)/\zqc B w gc f[k].2.U (.slice sa sn sc)
theorem zj6.stay(h:zj6 O w gc f vs)(e:kqg S w w')(d:Sep w gc S):zj6 O w' gc f vs:=
 ⟨h.1,λk g=>by have⟨sa,sn,sc,e0,i⟩:=h.2 k g;exact⟨sa,sn,sc,e0,i.stay e d⟩⟩
theorem zj6.snoc(h:zj6 O w gc f vs)(q:zqc O w gc x.U (.slice sa sn sc)):zj6 O w gc (f++[(k,x)]) (vs++[pjl x sa sn sc]):=by
 refine⟨by simp[h.1],λj p=>?_⟩;by_cases e:j<f.length
 ·have⟨i,m,l,e0,g⟩:=h.2 j e;grind
 ·have:j=f.length:=by grind
  subst this;have d:(f++[(k,x)])[f.length]=(k,x):=ay;refine⟨sa,sn,sc,?_,by simp_all⟩;rw[d,Ji (by rw[h.1];simp),h.1,Nat.sub_self];rfl
structure kjy (B:Nat)(w:World)(S O M gc cc sb fb:Nat)(ts:List Turn)(s:SSt):Prop where
 e:∃la ll lc cs,w.heap[S]?=some (.cells #[pT O,.slice la ll lc,.map (some sb),.map (some fb)] 170 (0,0))/\w.ownsRow B 173 3 (.slice la ll lc) s.m.length cs/\qyk B w gc s.m cs
 orb:∃tv,jva B w O M gc cc ts s.cur tv
 Z:∃vs,kvr w sb s.Z vs/\∀v∈vs,v=.agg #[]
 P:∃vs,kvr w fb (s.P.map (·.1)) vs/\zj6 B w gc s.P vs
 ne:sb≠fb
 ge:B<=S/\B<=gc/\B<=sb/\B<=fb
theorem kjy.jj8(h:kjy j w g O M gc cc sb fb ts s)(t:e≠5):qke w [gc,fb,sb] e:=by
 intro k i c fr q;simp only[tZ,Qu,or_false]at i;obtain rfl|rfl|rfl:=i
 ·have⟨tv,m⟩:=h.orb;have⟨c2,p,f⟩:=m.ty k ay;simp_all
 ·have⟨vs,d,_⟩:=h.P;have⟨es,l,f,_⟩:=d.ents;simp_all
 ·have⟨vs,d,u⟩:=h.Z;have⟨es,l,f,_⟩:=d.ents;simp_all
theorem kjy.sep(h:kjy j w e O M gc cc sb fb ts s):Sep w gc [gc,fb,sb]:=by
 intro k f;simp only[tZ,Qu,or_false]at f;obtain rfl|rfl|rfl:=f
 ·simp
 ·refine .inr λc fr i=>?_
  have⟨vs,d,_⟩:=h.P;have⟨es,g,l,_⟩:=d.ents;simp_all
 ·refine .inr λc fr i=>?_
  have⟨vs,d,m⟩:=h.Z;have⟨es,g,l,_⟩:=d.ents;simp_all
theorem jy4(hn:qke w S e)(h:w.heap[b]?=some (.cells g6 e fr)):b∉S:=λd=>hn b d _ _ h
theorem OwnRows.xzj(h:OwnRows gc w tv ls)(f:kqg S w w')(h1:qke w S 31)(g:qke w S 3):OwnRows gc w' tv ls:=by have⟨la,ll,lc,cs,e,i,d⟩:=h;exact⟨la,ll,lc,cs,e,kkv i f h1,d.1,λk j=>by have⟨a,n,c,e,l⟩:=d.2 k j;exact⟨a,n,c,e,kkv l f g⟩⟩
theorem kz6.xzj(h:kz6 gc w tv ts)(f:kqg S w w')(g:qke w S 256)(h1:qke w S 31)(i:qke w S 3):kz6 gc w' tv ts:=by have⟨la,ll,lc,cs,e,j,d⟩:=h;exact⟨la,ll,lc,cs,e,kkv j f g,d.1,λk l=>by have⟨v,e,m⟩:=d.2 k l;exact⟨v,e,m.xzj f h1 i⟩⟩
theorem kjy.turned(h : kjy j w e O M gc cc sb fb ts s)(d : kqg [gc,fb,sb] w w'){cur:List Int}(k : cur.length = s.cur.length)(q : w'.ownsRow j 5 1 (sL gc s.cur.length cc) s.cur.length (cur.map (Value.int .u8)))(g : kvr w' sb seen vs)(l : ∀v∈vs,v = .agg #[])(p : kvr w' fb (f.map (·.1)) xs)(hv : zj6 j w' gc f xs):kjy j w' e O M gc cc sb fb ts ⟨s.m,seen,f,cur⟩:=by
 have⟨la,ll,lc,cs,m,t,u⟩:=h.e
 have⟨tv,i⟩:=h.orb
 refine⟨⟨la,ll,lc,cs,d.at m<|jy4 (h.jj8 ak) m,kkv t d<|h.jj8 ak,u.stay d h.sep⟩,⟨tv,?_,i.turns.xzj d (h.jj8 ak) (h.jj8 ak)<|h.jj8 ak,by simp_all⟩,⟨vs,g,l⟩,⟨xs,p,hv⟩,h.ne,h.ge⟩
 show w'.heap[O]? = some (.cells #[_,_,.slice _ cur.length _] _ _)
 rw [k]
 exact d.at i.e<|jy4 (h.jj8 ak) i.e
theorem kjy.pxt(h:kjy j w e O M gc cc sb fb ts s):fb≠gc/\sb≠gc:=by have⟨tv,g⟩:=h.orb;have⟨c2,l,p⟩:=g.ty gc ay;have⟨vs,f,_⟩:=h.P;have⟨es,m,e3,_⟩:=f.ents;have⟨us,d,_⟩:=h.Z;have⟨k,i,q,_⟩:=d.ents;grind
theorem kjy.cur(h:kjy j w e O M gc cc sb fb ts s)(d:kqg [gc] w w'){cur:List Int}(g:cur.length=s.cur.length)(f:w'.ownsRow j 5 1 (sL gc s.cur.length cc) s.cur.length (cur.map (Value.int .u8))):kjy j w' e O M gc cc sb fb ts ⟨s.m,s.Z,s.P,cur⟩:=by have⟨vs,l,m⟩:=h.Z;have⟨us,i,hv⟩:=h.P;exact h.turned (d.wide ay) g f (l.stay d<|by simpa using h.pxt.2) m (i.stay d<|by simpa using h.pxt.1) (hv.stay d λk d=>by simp_all)
theorem kjy.below(h:kjy j w e O M gc cc sb fb ts s)(hb:oq w w'):kjy j w' e O M gc cc sb fb ts s:=by have⟨tv,d⟩:=h.orb;exact h.cur (.of_below hb) rfl<|qj d.xu hb
theorem zqc.below(h:zqc O w gc st v)(hb:oq w w'):zqc O w' gc st v:=⟨qj h.1 hb,h.2⟩
theorem kjy.lts(h:kjy j w e O M gc cc sb fb ts s):e<w.heap.size/\O<w.heap.size/\gc<w.heap.size/\sb<w.heap.size/\fb<w.heap.size:=by have⟨la,ll,lc,cs,k,_,_⟩:=h.e;have⟨tv,d⟩:=h.orb;have⟨c2,l,f⟩:=d.ty gc ay;have⟨vs,i,m⟩:=h.Z;have⟨us,g,_⟩:=h.P;exact⟨wQ k,wQ d.e,wQ f,i.lt,g.lt⟩
theorem xj9(w:World):(zeroValue 173).run prog w=.ok (.agg #[nS,i_ 0,e_]) w:=ay
theorem pkx(w:World):(zeroValue 264).run prog w=.ok (.agg #[]) w:=ay
abbrev FiS(S b O fb:Nat)(sv:Value)(fr:Int)(tx:ByteArray)(w:World):Prop:=w.cell? ⟨S,0,none⟩=some (.pointer (some ⟨O,0,none⟩))/\w.cell? ⟨S,3,none⟩=some (.map (some fb))/\w.cell? ⟨b,0,none⟩=some sv/\w.cell? ⟨b,1,none⟩=some (.int .i64 fr)/\w.cell? ⟨b,2,none⟩=some (.string tx)
theorem FiS.stay{S:Nat}(h:FiS S b O fb sv d8 a0 w)(f:kqg L w w')(g:S∉L)(hb:b∉L)(d:S<w.heap.size)(e:b<w.heap.size):FiS S b O fb sv d8 a0 w':=by have⟨k,s1,l,s3,m⟩:=h;have i:=f.block S d g;have j:=f.block b e hb;grind [World.cell?_of_block]
theorem xx4(h:k∈f.map (·.1)):qzc f k x=f:=by grind [qzc]
theorem xqr(h:k∉f.map (·.1)):qzc f k x=f++[(k,x)]:=by grind [qzc]
theorem vxg{S:Nat}(sa:Option Addr)(sn sc:Nat)(h:kjy g w S O M gc cc sb fb ts s)(hm:Mc 0 w M nb a.z a.C)(hx:zqc g w gc x.U (.slice sa sn sc))(hv:a.z.length<=1000)(aH:ts.length<=1000000)(hB:g<=w.heap.size){g8:Fnd×List Int}(t:qx9 a ts x s.P s.cur=some g8):Calls prog 76 #[pT S,.agg #[.slice sa sn sc,i_ x.J,.string x.E]] w λe w'=>rT e (.tuple #[])/\kjy g w' S O M gc cc sb fb ts ⟨s.m,s.Z,g8.1,g8.2⟩/\Below g w w':=by
 unfold qx9 at t;have hc:0<x.U.length/\x.U.length=s.cur.length/\x.U.length<=1000:=by grind
 rw[lJ hc]at t;obtain⟨a9,H,aP⟩:=hc;obtain⟨q,hq,t⟩:=wu.1 t;have I:kxl q.1=true:=by simp_all
 rw[lJ I]at t;injection t with t;subst t;have V:=zjn _ _ _ _ _ H.symm hq;obtain⟨W,N⟩:=cpy<|w.alloc (.cells #[.slice sa sn sc,i_ x.J,.string x.E] 173);have a8:oq w W:=by rw[N];exact jZ w
 have aG:w.heap.size<W.heap.size:=by simp_all
 have hR:W.heap[w.heap.size]?=some (.cells #[.slice sa sn sc,i_ x.J,.string x.E] 173 (0,0)):=by rw[N];exact qy
 obtain⟨aO,aM,aT,aU,aR⟩:=h.lts;have A:oq w W.drew:=a8.drew;have C:=h.below A;obtain⟨tv,ho⟩:=C.orb;obtain⟨la,ll,lc,cs,r1,_,_⟩:=C.e;obtain⟨b0,b1,b2,_⟩:=row3 (hR:Rw W.drew w.heap.size #[.slice sa sn sc,i_ x.J,.string x.E] 173);obtain⟨z0,z1,z2,z3,_⟩:=kz3 r1;have Y:=hx.below A;have aN:S≠gc:=λe=>jy4 (C.jj8 (e:=170) ak) r1 (by simp[e])
 have a5:=px6 ho (hm.below A) (qo jG Y.1) Y.2 hv a9 H aj aH hq;have F:=show FiS S w.heap.size O fb (.slice sa sn sc) x.J x.E W.drew from⟨z0,z3,b0,b1,b2⟩
 have a4:=A.mono hB;obtain⟨a7,Q⟩:=jS N.symm V;have U:q.1.length<=1000:=aj;clear t hq N hR r1 b0 b1 b2 z0 z1 z2 z3 V H;go_in;go_upto_region 1 with fail
 rw[a7];refine bg (S:=FiS S w.heap.size O fb (.slice sa sn sc) x.J x.E) (tl:=[7,8]) au ?_;refine frS 0 ?_;refine frS 1 ?_;refine frS 2 ?_;refine tkS 3 F ?_;refine frS 4 ?_;refine tkS 5 F ?_;refine onS 6 λK v=>?_
 go_simp;go_at_call 129
 refine a5.mono ?_;rintro e i ⟨ga,ca,rfl,aS,aC,P,m⟩;have aK:W.heap.size<=i.heap.size:=m.size;have G:=F.stay m (by simp_all) (by grind) (by omega:S<W.heap.size) aG;have D:=C.cur m (cur:=q.2) Q.2 P;have B:=a4.trans (m.below (by omega:g<=W.heap.size) (λk l=>by simp at l;subst l;exact C.ge.2.1));have aQ:(convert 95 9<|sL ga x.U.length ca).run prog i=.ok (.string<|strOfNums q.1) i:=by have aD:q.1.length=x.U.length:=Q.1;obtain⟨xa,xc,e1,hv⟩:=(qk6 (by rw[aD];exact aC));grind [run_convert_bytes_arg,underlying95,underlying5,underlying9]
 dsimp only;refine v _ _ G ?_;try simp
 refine kyj ?_;refine onA 7 λK v=>?_
 go_simp;refine v _ _ ?_;refine onA 8 λK v=>?_
 go_simp;refine v _ _ ?_;refine wpAny_done au ?_ _;obtain⟨us,E,a1⟩:=D.P;obtain⟨s0,s1,s2,s3,s4⟩:=ku G;have Z:S<i.heap.size:=aj;have a0:w.heap.size<i.heap.size:=aj;by_cases p:q.1∈s.P.map (·.1)
 ·obtain⟨j,hj,ej⟩:=wG p;have aB:j<s.P.length:=by grind
  have T:j<us.length:=by rw[<-E.T];exact hj
  have u:=pqm E underlying167 hj T true;rw[ej]at u;simp at u;obtain⟨ta,tn,tc,y,-⟩:=a1.2 j aB;rw[wW T]at y;injection y with y;rw[y,pjl]at u;have X:=λ(o:Obj)=>(show kjy g (i.alloc o) S O M gc cc sb fb ts ⟨s.m,s.Z,qzc s.P q.1 x,q.2⟩/\Below g w (i.alloc o) by rw[xx4 p];exact⟨D.below<|jZ _,B.alloc (by omega:g<=i.heap.size) _⟩)
  generalize s.P[j].2.J=yf at *;generalize s.P[j].2.E=ys at *;go_wp2;go_end0;simp_all
 ·have u:=xxl E underlying167 xj9 I U p true;simp at u;obtain⟨w4,L⟩:=cpy<|i.alloc (.cells #[nS,i_ 0,e_] 173);have z:oq i w4.drew:=by rw[L];exact(jZ _).drew
  have aL:i.heap.size<=w4.heap.size:=by simp_all
  have f:=D.below z;obtain⟨aW,aA,a2⟩:=f.P;obtain⟨w5,aJ,a3,d⟩:=py0 aA underlying167 I U p<|.agg #[.slice sa sn sc,i_ x.J,.string x.E];have R:=G.stay (kqg.of_below (S:=[]) z) ay ay Z a0;have X:=show kjy g w5 S O M gc cc sb fb ts ⟨s.m,s.Z,qzc s.P q.1 x,q.2⟩/\Below g w w5 by
   obtain⟨aX,aF,aI⟩:=f.Z;obtain⟨aV,aE⟩:=f.orb;have J:Sep w4.drew gc [fb]:=λk l=>f.sep k (by simp_all)
   rw[xqr p];refine⟨f.turned (cur:=q.2) (d.wide ay) rfl ?_ (aF.stay d<|by simpa using f.ne) aI (by rw[Qw];exact a3) ((a2.stay d J).snoc<|((Y.stay m<|λk l=>by simp_all).below z).stay d J),?_⟩
   ·exact qj7 aE.xu d (λk l hm=>by injection l with l;have e1:gc=k:=l;simp at hm;exact f.pxt.1 aj)
   ·exact(B.trans<|z.mono aj).trans (d.below (by omega:g<=w4.heap.size) (λk l=>by simp at l;subst l;exact f.ge.2.2.2))
  have a6:=oz L.symm;clear p L s2 s3 s4;go_upto_region 4 with fail
  rw[a6];refine bg (S:=FiS S w.heap.size O fb (.slice sa sn sc) x.J x.E) (tl:=[6]) au ?_;refine frS 0 ?_;try simp
  refine frS 1 ?_;try simp
  refine frS 2 ?_;try simp
  refine tkS 3 R ?_;try simp
  refine frS 4 ?_;try simp
  refine tkS 5 R ?_;try simp
  refine kyj ?_;refine onA 6 λK v=>?_
  go_simp;refine v _ _ ?_;refine wpAny_done au ?_ _;go_wp2;go_end0;simp_all
theorem jq6(j:w.ownsRow lo 95 1 (.slice la ll lc) cs.length cs)(h:qyu .u8 w cs ls)(hn:cs.length<=1000000):Calls prog 189 #[.slice la ll lc] w λe w'=>rT e (.tuple #[])/\∃S,(∀k∈S,(Value.slice la ll lc).ownBlock=some k)/\qzb S lo 95 w (.slice la ll lc) cs ls w':=by
 obtain⟨f,p⟩|⟨g,cap,cur,f,p,e3,D⟩:=j.2
 ·injection f with f l i;subst f;subst l;subst i;have t:cs=[]:=Qv p;subst t;have u:ls=[]:=Qv h.1;subst u;have d:=AnyF.slices_SortFunc_none (P:=prog) (ρ:=Tryz.sortS_ren) {Tryz.sortS with} none 0 (.func (.func 229) #[] #[]) w;change og 230 _ _ _ at d
  have C:=oz j;clear p hn;go_in;go_wp2_with (go_at_call 230;refine d.mono ?_;rintro e w' ⟨rfl,rfl⟩)
  go_end0;exact⟨rfl,[],ay,kqg.refl _ _,[],List.Perm.refl _,C,rfl⟩
 ·injection f with f l i;subst f;subst l;subst i;have E:∀args w,(callFunc 229 args).run prog w=.ok (.enter 229 args) w:=enters_of func229 au rfl;have d:=Any.slices_SortFunc Tryz.sortS (qy8 cs) (vxt h.slices) (λx y=>cmpL (kxh ls x)<|kxh ls y) (vxf<|kxh ls) 229 #[] g 0 lc (Array.range cs.length) w E (λm os s _ x y=>by have A:=h.sorting j m os s x;have B:=h.sorting j m os s y;exact(zxg A.1 B.1 A.2 B.2).mono λ_ _ ⟨F,q,H⟩=>⟨F,q,#[],by simp_all⟩) (pyr j) (wQ e3) (by grind)
  change og 230 _ _ _ at d
  simp only[Array.size_range]at d;have G:=oz (λ(d':Array Nat) (m:Nat) (os:Array Obj) v z=>zvb (ls:=ls) j h.1 (d':=d') (m:=m) (os:=os) v z);clear p e3 D hn;go_in;go_wp2_with (go_at_call 230;refine d.mono ?_;rintro e w' ⟨rfl,d',n,os,v,z,rfl⟩)
  go_end0;grind [Value.ownBlock,ku]
def zwu(w:World)(v:Value)(l:List Int):Prop:=kyy .u8 w v l/\∀k,v.ownBlock=some k->∃cs fr,w.heap[k]?=some (.cells cs 5 fr)
theorem zwu.stay(h:zwu w v l)(f:kqg S w w')(g:qke w S 5):zwu w' v l:=by
 have hn:∀k,v.ownBlock=some k->k∉S:=λk d i=>by have⟨cs,fr,e⟩:=h.2 k d;exact g k i _ _ e
 exact⟨h.1.stay f hn,λk d=>by have⟨cs,fr,e⟩:=h.2 k d;exact⟨cs,fr,f.at e<|hn k d⟩⟩
def qyy(w:World)(cs:List Value)(ls:List (List Int)):Prop:=ls.length=cs.length/\∀k (hk:k<cs.length) (hl:k<ls.length),zwu w cs[k] ls[k]/\ls[k].length<=1000000
theorem qyy.at(h:qyy w cs ls):qyu .u8 w cs ls:=⟨h.1,λk d e=>⟨(h.2 k d e).1.1,(h.2 k d e).2⟩⟩
theorem qyy.stay(h:qyy w cs ls)(g:kqg S w w')(f:qke w S 5):qyy w' cs ls:=⟨h.1,λk d e=>⟨(h.2 k d e).1.stay g f,(h.2 k d e).2⟩⟩
theorem qyy.snoc(h:qyy w cs ls)(hv:zwu w v l)(j:l.length<=1000000):qyy w (cs++[v]) (ls++[l]):=by
 refine⟨by simp[h.1],λk i g=>?_⟩;by_cases e:k<cs.length
 ·have d:k<ls.length:=by rw[h.1];exact e
  rw[Qn e,Qn d];exact h.2 k e d
 ·have f:k=cs.length:=by grind
  have e3:(ls++[l])[k]=l:=by simp[f,<-h.1]
  simp_all
def kko(B:Nat)(w:World)(v:Value)(ls:List (List Int)):Prop:=∃la ll lc cs,v=.slice la ll lc/\w.ownsRow B 95 1 (.slice la ll lc) ls.length cs/\qyy w cs ls
theorem xvd(f:kxl k=true)(h:k.length<=gc)(d:w.heap[g]?=some (.cells (bytesRow (strOfNums k) gc) 5 fr)):zwu w (sL g k.length gc) k:=by
 refine⟨⟨some (Ad g 0),gc,rfl,λi=>⟨g,rfl,wQ d,λj e=>?_⟩⟩,λq eq=>?_⟩
 ·unfold World.cell?;simp only[d];have l:=jj3 f k[j] (wZ e);grind [bytesRow,strOfNums,UInt8.toNat_ofNat']
 ·injection eq with eq;grind
structure Came (n:Nat)(p:List Nat):Prop where
 nodup:p.Nodup
 lt:∀j∈p,j<n
theorem pk0(h:Came n p)(d:∀j,j<n->j∈p):p.Perm (List.range n):=
 (List.perm_ext_iff_of_nodup h.nodup Za).2 λj=>⟨λe=>Qo.2<|h.lt j e,λe=>d j<|Qo.1 e⟩
theorem vxn(ls:List (List Int)):(List.range ls.length).map (kxh ls)=ls:=by apply Jm;grind [kxh]
theorem jx4(h:ks.Perm ls):sortL ks=sortL ls:=zzy ((kz7 ks).trans h)<|qv7 ks
def jzj(es:Array MapEntry)(j:Nat):Nat:=((es.toList[j]?).map (·.born)).getD 0
theorem qkf(h:es.toList[j]?=some g9):jzj es j=g9.born:=by unfold jzj;simp_all
theorem vy5(hn:(es.toList.map (·.born)).Nodup)(hi:i<es.toList.length)(d:j<es.toList.length)(e:jzj es i=jzj es j):i=j:=by rw[qkf (wW hi),qkf (wW d)]at e;exact qku hn (by grind) (by grind) (by simp_all)
def qj2(es:Array MapEntry)(p:List Nat):Array Nat:=(p.map (jzj es)).toArray
theorem left_at(d:g9∈(leftOf es (qj2 es p)).toList):∃j,es.toList[j]?=some g9/\j∉p:=by
 unfold leftOf at d;simp only[Zh,Ju]at d;have⟨j,g,e⟩:=wG d.1;refine⟨j,by grind,λh=>?_⟩;have f:(qj2 es p).contains g9.born=true:=by unfold qj2;rw[List.contains_toArray,ZB];grind [qkf]
 simp_all
theorem px5(hn:(es.toList.map (·.born)).Nodup)(g:∀j∈p,j<es.toList.length)(h:(leftOf es (qj2 es p)).size=0):∀j,j<es.toList.length->j∈p:=by
 intro j e;apply Qp;intro f;have d:es.toList[j]∈(leftOf es<|qj2 es p).toList:=by unfold leftOf;simp only[Zh,Ju];grind [qj2,qkf,vy5]
 simp_all
theorem vvz(p:List Nat)(h:es.toList[j]?=some g9):(qj2 es p).push g9.born=qj2 es (p++[j]):=by grind [qj2,qkf]
theorem vk1(h:Came n p):p.length<=n:=rP (h.nodup.length_le_of_subset λj d=>Qo.2<|h.lt j d) ay
theorem qqt(h:w.heap[r]?=some (.mapIter g5 b came c)):w.iterSeen r=came:=by unfold World.iterSeen;rw[h]
theorem qyy.sorted(h:qyy w cs ls)(u:w.ownsRow lo 95 1 (.slice la ll lc) cs.length cs)(t:∀k∈S,(Value.slice la ll lc).ownBlock=some k)(x:qzb S lo 95 w (.slice la ll lc) cs ls w'):kko lo w' (.slice la ll lc) (sortL ls):=by
 have⟨m,p,d,v,z⟩:=x;have A:p.length=cs.length:=by rw[d.length_eq];simp
 have l:qke w S 5:=by intro k i c fr e;have⟨c2,y,B⟩:=qj8 u k (by simp[qqc,t k i]);simp_all
 refine⟨la,ll,lc,p.map<|qy8 cs,rfl,by simp_all,by simp_all,λk i C=>?_⟩;have j:k<p.length:=by simp_all
 have f:=jqo d j;have g:p[k]<ls.length:=by rw[h.1];exact f
 have e5:(sortL ls)[k]=ls[p[k]]:=by grind [kxh]
 have q:(p.map<|qy8 cs)[k]=cs[p[k]]:=by grind [qy8]
 rw[e5,q];have⟨h1,s⟩:=h.2 p[k] f g;exact⟨h1.stay m l,s⟩
theorem vv4(h:kvr w fb ks vs)(hl:ks.length<=100000):Calls prog 130 #[.map (some fb)] w λe w'=>∃v,e=.returned v/\kko w.heap.size w' v (sortL ks)/\oq w w':=by
 have⟨es,clock,H1,h2,H3,h4⟩:=h.ents;have aM:=h.lt;have aC:es.toList.length=ks.length:=by have:=congrArg List.length h2;simp[h.T]at this;simp;rw[h.T];omega
 have⟨W,hW⟩:=cpy<|w.alloc (.mapIter (some fb) clock #[] clock);have aK:oq w W:=jM;have hR:W.heap[w.heap.size]?=some (.mapIter (some fb) clock #[] clock):=by rw[hW];exact jH
 have aY:=run_range_map (P:=prog) w 167 9 173 fb es clock underlying167 H1;have⟨HM,a7⟩:=jS h aC;go_in;go_wp21;rw[(oz hW.symm)];go_loopw [3,4] (λx _ wr=>∃p:List Nat,Came ks.length p/\kko w.heap.size wr x (p.map<|kxh ks)/\wr.heap[w.heap.size]?=some (.mapIter (some fb) clock (qj2 es p) clock)/\oq w wr) (λ_ _ wr=>ks.length-(wr.iterSeen w.heap.size).size);exact⟨[],(⟨Jd,ay⟩:Came ks.length []),(⟨none,0,0,[],rfl,jT,rfl,λk q=>ay⟩:kko w.heap.size W nS (([]:List Nat).map<|kxh ks)),hR,aK⟩;have⟨p,f,a3,B,hb⟩:=hrel;have a4:=hb.size;have H:wr.heap[fb]?=some (.map es clock):=(hb.block fb aM).trans H1;have aX:=vk1 f;have aZ:=wQ B;obtain⟨hz,z⟩|⟨e,he,w1,M,z⟩:=run_next_at (P:=prog) wr 0 w.heap.size fb clock clock (qj2 es p) es clock B H h4<|jV
 ·have aA:=px5 H3 (λj y=>by rw[a7];exact f.lt j y) hz;obtain⟨la,ll,lc,cs,rfl,J,l⟩:=a3;have s:wr.ownsRow w.heap.size 95 1 (.slice la ll lc) cs.length cs:=by rw[<-l.1];omega
  have aS:cs.length<=100000:=by rw[<-l.1];grind
  have aJ:=show sortL (p.map<|kxh ks)=sortL ks from jx4 (by have:=(pk0 f<|λj y=>aA j aj).map<|kxh ks;rw[vxn]at this;omega)
  go_wp21;refine zM (jq6 s l.at aj) ?_;rintro w5 ⟨S,hS,C⟩;have HX:=l.sorted s hS C;rw[aJ]at HX;go_wp2;go_ret;exact⟨_,rfl,HX,(hb.trans<|C.1.below a4 (λk q=>(jo s) k<|hS k q))⟩
 ·have⟨j,y,aO⟩:=left_at he;have⟨aN,F,_⟩:=kvr.back h2 HM.T y;have Y:e∈es.toList:=wB y;have G:oq w w1:=by obtain rfl|rfl:=M;exact hb;exact hb.drew
  have a2:w1.heap=wr.heap:=by obtain rfl|rfl:=M<;>rfl
  have⟨d,N⟩:=cpy<|ChangeMaps.setBlock w1 w.heap.size (.mapIter (some fb) clock ((qj2 es p).push e.born) clock);have g:kqg [w.heap.size] wr d:=by rw[N];refine⟨G.os.trans hb.os.symm,G.tape.trans hb.tape.symm,G.output.trans hb.output.symm,by simp[ChangeMaps.setBlock,a2],λk q hn=>?_⟩;grind [ChangeMaps.setBlock]
  have m:d.heap[w.heap.size]?=some (.mapIter (some fb) clock ((qj2 es p).push e.born) clock):=by grind [ChangeMaps.setBlock]
  have I:d.heap[fb]?=some (.map es clock):=g.at H (by grind);have aB:=run_entry_at (P:=prog) d w.heap.size fb clock (qj2 es p) es clock e m I Y H3;rw[F]at z aB;rw[<-N]at z;have a1:=HM.ok _<|wZ aN;have V:oq w d:=hb.trans<|g.below a4 ay;have aP:qke wr [w.heap.size] 5:=λk q c fr e1=>by simp_all
  have aD:qke wr [w.heap.size] 95:=λk q c fr e1=>by simp_all
  obtain⟨la,ll,lc,cs,rfl,J,l⟩:=a3;have K:=l.stay g aP;have D:=vvz p y;rw[D]at m;have R:Came ks.length (p++[j]):=⟨by rw[Jw];exact⟨f.nodup,ay,λa ha b V e2=>by simp_all⟩,λi A=>by
   obtain A|A:=rV.1 A
   ·exact f.lt i A
   simp_all⟩
  have aF:=vk1 R;rw[rD,JC]at aF;have O:kxh ks j=ks[j]:=by grind [kxh]
  have X:=run_bytes_of_string (P:=prog) d 9 95 5 (strOfNums ks[j]) underlying9 underlying95 underlying5;rw[strOfNums_size]at X;have a0:=grownCap_ge d ks[j].length 0 5;generalize grownCap d ks[j].length 0 5=cap at *;have⟨w3,E⟩:=cpy<|d.drew.alloc (.cells (bytesRow (strOfNums ks[j]) cap) 5 ((bytesRow (strOfNums ks[j]) cap).size,(bytesRow (strOfNums ks[j]) cap).size+1));rw[<-E]at X;have t:oq d w3:=by rw[E];exact(Below.refl _ d).drew.trans (jZ d.drew)
  have Z:w3.heap[d.heap.size]?=some (.cells (bytesRow (strOfNums ks[j]) cap) 5 ((bytesRow (strOfNums ks[j]) cap).size,(bytesRow (strOfNums ks[j]) cap).size+1)):=by rw[E];exact Xk d.drew _
  have aL:=xvd a1.1 a0 Z;have aU:=t.size;have aT:=g.size;have aH:=(t.block w.heap.size aj).trans m;have aG:=V.trans<|t.mono aj;have T:=qj (kkv J g aD) t;have a9:=(K.stay (kqg.of_below (S:=[]) t)<|λk q=>by simp_all).snoc aL aj;have a8:=show p.map (kxh ks)++[ks[j]]=(p++[j]).map (kxh ks) by simp_all
  have aI:=oz (by simp:(p.map<|kxh ks).length=p.length);have aV:=show(wr.iterSeen w.heap.size).size=p.length by rw[(qqt B)];simp[qj2]
  generalize p.map (kxh ks)=Lg at *;have aW:Lg.length<=100000:=by rw[aI];omega
  generalize ks[j]=kj at *;clear B m H I D M N E Z a1 O a2 he Y y aO F a0;go_wp2_with (at_builtin;refine apO (T.alloc _) ?_)
  intro v6 w6 Q u _ aR;obtain⟨a6,l6,c6,rfl⟩:=qh Q;have L:kqg (qqc<|.slice la ll lc) w3 w6:=((kqg.refl _ w3).alloc _).grown u (λk q=>.inl<|by simp[qqc,q]);have aE:qke w3 (qqc<|.slice la ll lc) 5:=λk q c fr e1=>by grind [qj8]
  have U:=show kko w.heap.size w6 (.slice a6 l6 c6) (Lg++[kj]) from⟨a6,l6,c6,_,rfl,by simp_all,a9.stay L aE⟩
  have aQ:w.heap.size∉qqc (.slice la ll lc):=λhm=>by grind [qj8]
  have a5:=L.at aH aQ;rw[a8]at U;go_wp2;go_roundw
  case rel=>exact⟨p++[j],R,U,a5,((aG.alloc aj _).grown u ah<|jo T)⟩
  grind [qqt,qj2]
abbrev FZ:=List ((List Int×SWay)×Value)
variable {Z:FZ}
def jz0(z:(List Int×SWay)×Value):Value×Value:=(.string (strOfNums z.1.1),z.2)
structure qve (B:Nat)(w:World)(gc:Nat)(es:List MapEntry)(Z:FZ):Prop where
 eq:es.map (λe=>(e.key,e.val))=Z.map jz0
 nodup:(Z.map λz=>z.1.1).Nodup
 ok:∀z∈Z,kxl z.1.1=true/\z.1.1.length<=1000
 way:∀z∈Z,∃sa sn sc,z.2=pjl z.1.2 sa sn sc/\zqc B w gc z.1.2.U (.slice sa sn sc)
theorem zip_map{d:Type}(f:α->d):∀(l:List α)(m:List β),(l.map f).zip m=(l.zip m).map λz=>(f z.1,z.2)
 |[],_=>ay
 |_::_,[]=>ay
 |a::l,b::m=>by simp[zip_map f l m]
theorem zip_fst:∀(l:List α)(m:List β),l.length=m.length->(l.zip m).map (·.1)=l
 |[],_,_=>ay
 |_::_,[],h=>by simp at h
 |a::l,b::m,h=>by simp at h;simp[zip_fst l m h]
theorem zip_unzip:∀(Z:List (α×β)),(Z.map (·.1)).zip (Z.map (·.2))=Z
 |[]=>rfl
 |z::Z=>by simp[zip_unzip Z]
theorem xzn(h:kvr w fb (f.map (·.1)) vs)(hv:zj6 O w gc f vs):∃es clock,w.heap[fb]?=some (.map es clock)/\(es.toList.map (·.born)).Nodup/\(∀e∈es.toList,e.born<clock)/\qve O w gc es.toList (f.zip vs):=by
 have⟨es,i,h1,j,l,m⟩:=h.ents;have p:f.length=vs.length:=hv.1.symm;refine⟨es,i,h1,l,m,?_,?_,λz d=>?_,λz d=>?_⟩
 ·rw[j,zip_map,Jz];rfl
 ·have:((f.zip vs).map λz=>z.1.1)=f.map (·.1):=by rw[show(λz:(List Int×SWay)×Value=>z.1.1)=(λy:List Int×SWay=>y.1)∘(·.1) from rfl,<-Jz,zip_fst f vs p]
  rw[this];exact h.nodup
 ·exact h.ok _ (tY.2 ⟨z.1,(List.of_mem_zip d).1,rfl⟩)
 ·have⟨k,t,e⟩:=wG d;rw[List.getElem_zip]at e;have g:k<f.length:=by grind
  have⟨sa,sn,sc,q,s⟩:=hv.2 k g;grind
theorem xzr(h1:w.heap[fb]?=some (.map es clock))(g:(es.toList.map (·.born)).Nodup)(i:∀e∈es.toList,e.born<clock)(h:qve O w gc es.toList Z):kvr w fb ((Z.map (·.1)).map (·.1)) (Z.map (·.2))/\zj6 O w gc (Z.map (·.1)) (Z.map (·.2)):=by
 refine⟨⟨⟨es,clock,h1,?_,g,i⟩,ay,by rw[Jz];exact h.nodup,λk d=>?_⟩,ay,λk d=>?_⟩
 ·rw[h.eq,zip_map,zip_unzip,Jz];rfl
 ·obtain⟨y,j,rfl⟩:=tY.1 d;obtain⟨z,l,rfl⟩:=tY.1 j;exact h.ok z l
 ·have f:k<Z.length:=by simp_all
  have⟨sa,sn,sc,m,p⟩:=h.way Z[k] (wZ f);grind
theorem qve.stay(h:qve O w gc h7 Z)(g:kqg S w w')(f:Sep w gc S):qve O w' gc h7 Z:=
 ⟨h.eq,h.nodup,h.ok,λz i=>by have⟨sa,sn,sc,d,e⟩:=h.way z i;exact⟨sa,sn,sc,d,e.stay g f⟩⟩
def qvm(seen:List (List Int))(v:Value):Bool:=seen.any λk=>match v with|.string s=>s.data.toList==(strOfNums k).data.toList|_=>false
theorem jk3(e:∀x∈seen,kxl x=true)(d:kxl k=true):qvm seen (.string (strOfNums k))=seen.any λx=>x==k:=by grind [qvm,vx2]
def qz9(seen:List (List Int))(came:Array Nat)(e:MapEntry):Bool:=!(came.contains e.born&&qvm seen e.key)
theorem pjz(hn:(h7.map (·.born)).Nodup)(d:g9∈h7)(hb:h8∈h7)(e:g9.born=h8.born):g9=h8:=by obtain⟨i,hi,rfl⟩:=wG d;obtain⟨j,f,rfl⟩:=wG hb;have:i=j:=qku hn (by simp_all) (by simp_all) (by simp_all);simp_all
theorem vwc(hn:(h7.map (·.born)).Nodup)(d:g9∈h7)(e:qvm seen g9.key=false):h7.filter (qz9 seen came)=h7.filter (qz9 seen (came.push g9.born)):=by grind [List.filter_congr,qz9,pjz]
theorem vx4(hn:(h7.map (·.born)).Nodup)(d:g9∈h7)(e:qvm seen g9.key=true):(h7.filter (qz9 seen came)).filter (λx=>x.born != g9.born)=h7.filter (qz9 seen (came.push g9.born)):=by grind [List.filter_filter,List.filter_congr,qz9,pjz]
theorem pyu(h:((h7.filter (qz9 seen came)).filter λe=>!came.contains e.born)=[]):h7.filter (qz9 seen came)=h7.filter λe=>!qvm seen e.key:=by apply J7;simp_all [qz9]
theorem qve.xzx(h:qve O w gc h7 Z)(g:∀x∈seen,kxl x=true):qve O w gc (h7.filter λe=>!qvm seen e.key) (Z.filter λz=>!(seen.any λk=>k==z.1.1)):=by
 refine⟨?_,?_,λz d=>h.ok z (Ju.1 d).1,λz d=>h.way z (Ju.1 d).1⟩
 ·have f:(h7.filter λe=>!qvm seen e.key).map (λe=>(e.key,e.val))=(h7.map λe=>(e.key,e.val)).filter λp=>!qvm seen p.1:=by rw[List.filter_map];rfl
  rw[f,h.eq,List.filter_map];congr 1
  apply J7;intro z d;show(!qvm seen (.string<|strOfNums z.1.1))=_;rw[jk3 g (h.ok z d).1]
 ·exact h.nodup.sublist (List.Sublist.map _ JM)
theorem pws(d:f.length=vs.length):((f.zip vs).filter λz=>!(seen.any λk=>k==z.1.1)).map (·.1)=newF seen f:=by unfold newF;have:(λz:(List Int×SWay)×Value=>!(seen.any λk=>k==z.1.1))=(λy:List Int×SWay=>!(seen.any λk=>k==y.1))∘(·.1):=rfl;grind [zip_fst]
theorem jz6:∀(l:List MapEntry)(i:Nat)(hi:i<l.length),(l.map (·.born)).Nodup->l.eraseIdx i=l.filter λx=>x.born != l[i].born
 |a::l,0,_,hn=>by
  simp only[Qm,QM]at hn;grind [List.filter_eq_self]
 |a::l,i+1,hi,hn=>by
  simp only[Qm,QM]at hn;have d:i<l.length:=by simp_all
  rw[List.eraseIdx_cons_succ,List.filter_cons,jz6 l i d hn.2];grind
theorem jx7{T E:Nat}(h1:w.heap[fb]?=some (.map es clock))(g:prog.underlying T=some (.map 9 E))(d:∀g9∈es.toList,∃l,keyOf prog 9 g9.key=some l)(e:k.length<=1000)(i:g9∈es.toList)(p:g9.key=.string (strOfNums k))(h:∀x∈es.toList,x.key=g9.key->x=g9)(hn:(es.toList.map (·.born)).Nodup)(ty:Nat):∃es',(Builtin.delete_ #[T,9] ty #[.map (some fb),.string (strOfNums k)]).run prog w=.ok (.tuple #[]) (ChangeMaps.setBlock w fb<|.map es' clock)/\es'.toList=es.toList.filter λx=>x.born != g9.born:=by
 obtain⟨f1,f2⟩|⟨j,e0,f1,f2,f3⟩:=keyed.find w (qwi e) es.toList d
 ·simp_all
 ·have f:e0=g9:=h e0 (wB f2) (by simp_all);subst f;have m:j<es.toList.length:=by grind
  refine⟨es.eraseIdxIfInBounds j,?_,?_⟩
  ·simp[Builtin.delete_,Q7 g,MapKept.run_getObj_map h1,keyed.check w _ (qwi e),f1,MapKept.run_setObj_map _ h1,Result.andThen,ChangeMaps.setBlock]
  grind [Array.toList_eraseIdx,jz6]
theorem infoWay:(prog.info? 173).map (λi=>(i.zero,i.size,i.bytes))=some (some (.agg #[nS,i_ 0,e_]),3,48):=au
theorem qyk.snoc(h:qyk O w gc ways cs)(l:zqc O w gc x.U (.slice sa sn sc)):qyk O w gc (ways++[x]) (cs++[.slice sa sn sc,i_ x.J,.string x.E]):=by
 refine⟨by simp[h.1];omega,λk i=>?_⟩;have e:=h.1;by_cases d:k<ways.length
 ·have⟨a,n,c,e0,f,g,j⟩:=h.2 k d;grind
 grind
theorem kjy.pushed(h : kjy j w most O M gc cc sb fb ts s)(I : w.heap[most]? = some (.cells #[pT O,.slice la ll lc,.map (some sb),.map (some fb)] 170 (0,0)))(J : w.ownsRow j 173 3 (.slice la ll lc) s.m.length cs)(K : qyk j w gc s.m cs)(F : (w.alloc o).grownBy w' (Value.slice la ll lc).ownBlock)(u : w'.ownsRow j 173 3 (sL i (s.m.length + 1) lo) (s.m.length + 1) (cs ++ [.slice sa sn sc,i_ x.J,.string x.E]))(H : zqc j w gc x.U (.slice sa sn sc)):kjy j (w'.setCell (Ad most 1)<|sL i (s.m.length + 1) lo) most O M gc cc sb fb ts ⟨s.m ++ [x],s.Z,s.P,s.cur⟩/\kqg (most :: qqc (.slice la ll lc)) w (w'.setCell (Ad most 1)<|sL i (s.m.length + 1) lo)/\w'.heap[most]? = some (.cells #[pT O,.slice la ll lc,.map<|some sb,.map (some fb)] 170 (0,0)):=by
 have v : kqg (qqc<|.slice la ll lc) w w':=((kqg.refl _ w).alloc o).grown F (λk f=>.inl<|by simp [qqc,f])
 have R:=qj8 J
 have B : most∉qqc (.slice la ll lc):=λp=>by grind
 have D:=v.at I B
 have d : kqg (most :: qqc (.slice la ll lc)) w (w'.setCell (Ad most 1)<|sL i (s.m.length + 1) lo):=(v.wide<|λk f _=>List.mem_cons_of_mem _ f).set (.inl ay) _
 have P : ∀k∈most :: qqc (.slice la ll lc),∃c t fr,w.heap[k]? = some (.cells c t fr)/\(t = 170\/t = 173):=λk f=>by grind
 have l : ∀e,e≠170->e≠173->qke w (most :: qqc (.slice la ll lc)) e:=λe h1 S k f c fr y=>by grind
 have m : Sep w gc (most :: qqc (.slice la ll lc)):=λk f=>.inr λc fr y=>l 5 ak ak k f c fr y
 have q : ∀b es c,w.heap[b]? = some (.map es c)->b∉most :: qqc (.slice la ll lc):=λb es c e p=>by grind
 have⟨tv,z⟩:=h.orb
 have⟨vs,p,G⟩:=h.Z
 have⟨us,C,hv⟩:=h.P
 have⟨L,c1,y,_⟩:=p.ents
 have⟨N,c2,E,_⟩:=C.ents
 have Q : i≠most:=by
  obtain⟨e3,_⟩ | ⟨g,cap,cur,e3,_,e5,_⟩:=u.2
  ·cases e3
  grind
 refine⟨⟨⟨some (Ad i 0),s.m.length + 1,lo,cs ++ [.slice sa sn sc,i_ x.J,.string x.E],?_,?_,(K.stay d m).snoc<|H.stay d m⟩,⟨tv,?_,z.turns.xzj d (l _ ak ak) (l _ ak ak)<|l _ ak ak,kkv z.xu d<|l _ ak ak⟩,⟨vs,p.stay d<|q _ _ _ y,G⟩,⟨us,C.stay d<|q _ _ _ E,hv.stay d m⟩,h.ne,h.ge⟩,d,D⟩
 ·rw [heap_setCell_same w' most 1 _ _ _ D]; rfl
 ·have A : kqg [most] w' (w'.setCell (Ad most 1)<|sL i (s.m.length + 1) lo):=(kqg.refl _ w').set (.inl ay) _
  show World.ownsRow _ _ _ _ _ (s.m ++ [x]).length _
  rw [List.length_append]
  exact qj7 u A (λk f p=>by
   injection f with f
   simp_all)
 ·exact d.at z.e (jy4 (l _ ak ak) z.e)
abbrev KnS(S sb:Nat)(ov:Value)(d:List Int)(w:World):Prop:=w.cell? ⟨S,2,none⟩=some (.map (some sb))/\(convert 95 9 ov).run prog w=.ok (.string (strOfNums d)) w
abbrev KmS(S fb:Nat)(wv ov e:Value)(d:List Int)(w:World):Prop:=w.cell? ⟨S,1,none⟩=some wv/\w.cell? ⟨S,3,none⟩=some (.map (some fb))/\(convert 95 9 ov).run prog w=.ok (.string (strOfNums d)) w/\(Instr.lookup 167 (.map (some fb)) (.string (strOfNums d)) false).run prog w=.ok e w
theorem zwu.conv(h:zwu w v l):(convert 95 9 v).run prog w=.ok (.string (strOfNums l)) w:=by
 obtain⟨⟨xa,xc,rfl,hv⟩,_⟩:=h;by_cases d:0<l.length
 ·grind [run_convert_bytes_arg,underlying95,underlying5,underlying9]
 ·have:l=[]:=Qv aj;subst this;show(convert 95 9<|.slice xa 0 xc).run prog w=_;rw[run_convert_bytes_string w 95 9 5 xa 0 xc underlying95 underlying5 underlying9];cases xa with
  |none=>simp[Conv.bytesToString];rfl
  |some a=>rw[run_bytesToString w a 0 xc [] rfl];rfl
theorem kko.stay(h:kko gc w v ls)(d:kqg L w w')(h1:qke w L 95)(f:qke w L 5):kko gc w' v ls:=by have⟨la,ll,lc,cs,e,g,i⟩:=h;exact⟨la,ll,lc,cs,e,kkv g d h1,i.stay d f⟩
theorem vzn:∀(f:Fnd)(j:Nat)(hj:j<f.length),(f.map (·.1)).Nodup->kv4 f f[j].1=f[j].2
 |y::l,0,_,_=>by rw[kv4];simp
 |y::l,j+1,hj,hn=>by
  simp only[Qm,QM]at hn;have d:j<l.length:=by simp_all
  rw[kv4,Xy]
  ·exact vzn l j d hn.2
  grind
theorem pwf(h:k∈(newF seen f).map (·.1)):k∉seen:=λe=>by obtain⟨y,d,rfl⟩:=tY.1 h;have:=(Ju.1 d).2;grind
theorem vj5(h:ks.Nodup):(sortL ks).Nodup:=(kz7 ks).nodup_iff.2 h
theorem qve.keyOf(h:qve O w gc h7 Z)(d:g9∈h7):∃z∈Z,g9.key=.string (strOfNums z.1.1):=by
 have:(g9.key,g9.val)∈Z.map jz0:=by rw[<-h.eq];grind
 grind [jz0]
theorem qve.uniq(h:qve O w gc h7 Z)(g:g9∈h7)(k:h8∈h7)(e:g9.key=h8.key):g9=h8:=by
 obtain⟨i,hi,rfl⟩:=wG g;obtain⟨j,d,rfl⟩:=wG k;have m:h7.length=Z.length:=by have:=congrArg List.length h.eq;simp_all
 have ge:∀q (f:q<h7.length),h7[q].key=.string (strOfNums (Z[q]'aj).1.1):=λq f=>by
  have h1:(h7.map λe=>(e.key,e.val))[q]?=(Z.map jz0)[q]?:=by rw[h.eq]
  grind [jz0]
 rw[ge i hi,ge j d]at e;injection e with e;have l:=key_inj (h.ok _<|wZ aj).1 (h.ok _<|wZ aj).1 e;have:i=j:=qku h.nodup (by grind) (by grind) (by simp_all);simp_all
theorem vx6{S:Nat}(h:kjy most w S O M gc cc sb fb ts s)(eH:s.P.length<=100000)(g4:s.m.length<=100000)(hB:most<=w.heap.size):Calls prog 77 #[pT S] w λe w'=>rT e (i_ s.m.length)/\kjy most w' S O M gc cc sb fb ts (jd s)/\Below most w w':=by
 have⟨la,ll,lc,cs,r1,r2,r3⟩:=h.e;obtain⟨xa,xc,ex,-⟩:=qp r2;injection ex with bG bH bI;subst bG;subst bH;subst bI;have z0:=kz3 r1;have⟨vs,hf,hv⟩:=h.P;obtain⟨es,clock,h1,H3,(H4:Hid _),HZ⟩:=xzn hf hv;obtain⟨us,b9,(cN:Hid _)⟩:=h.Z;have⟨fL,fJ,fT,g2,d4⟩:=h.lts;have⟨i0,hi,cA,cB,cC⟩:=info_parts infoWay;have eT:S≠fb:=λe=>by simp_all
 have bA:Hid (∀x∈s.Z,kxl x=true):=λx hx=>(b9.ok x hx).1
 have fY:(newF s.Z s.P).length<=100000:=rP (List.length_filter_le _ _) eH;have⟨W,hW⟩:=cpy<|w.alloc (.mapIter (some fb) clock #[] clock);have cZ:kqg [fb] w W:=by rw[hW];exact .of_below<|jZ w
 have HR:Hid (W.heap[w.heap.size]?=some (.mapIter (some fb) clock #[] clock)):=by rw[hW];exact jH
 have eM:=run_range_map (P:=prog) w 167 9 173 fb es clock underlying167 h1;have⟨HH,eY,dN,dV⟩:=jE h (cZ.block fb d4) r1 hv.1;have fB:=oz (show ∃l,W.heap[fb]?=some (.map l clock)/\l.toList=es.toList.filter (qz9 s.Z #[]) from⟨es,by grind [heap_alloc_old],by grind [List.filter_eq_self,qz9]⟩)
 have dW:=oz hW.symm;clear h1 hW r1;go_in;go_wp21;rw[ku dW];clear eM;go_loopw [4,5,6] (λ_ _ _ wr=>∃(came:Array Nat)(l:Array MapEntry),wr.heap[fb]?=some (.map l clock)/\l.toList=es.toList.filter (qz9 s.Z came)/\wr.heap[w.heap.size]?=some (.mapIter (some fb) clock came clock)/\kqg [fb] w wr) (λ_ _ _ wr=>(es.toList.filter λx=>!((wr.iterSeen w.heap.size).contains x.born)).length)
 case atStart=>
  grind [ku]
 case round=>
  have⟨came,l,a6,X,a7,L⟩:=hrel;have g3:=L.size;have fZ:=wQ a7;have aW:=qqt a7;have B:∀x∈l.toList,x∈es.toList:=λx hx=>by simp_all
  have aP:(l.toList.map (·.born)).Nodup:=by rw[X];exact H3.sublist<|List.Sublist.map _ JM
  have rr:=L.at dN (by simp_all);have y0:=kz3 rr;obtain⟨hz,R⟩|⟨e,he,w1,aZ,R⟩:=run_next_at (P:=prog) wr 0 w.heap.size fb clock clock came l clock a7 a6 (λx hx=>H4 x<|B x hx)<|jV
  ·have bV:((es.toList.filter<|qz9 s.Z came).filter λe=>!came.contains e.born)=[]:=by grind [leftOf,Array.toList_filter]
   have bP:=pyu bV;rw[bP]at X;have cK:Sep w gc [fb]:=λk I=>HH.sep k (by simp_all)
   have aG:=(HZ.stay L cK).xzx bA;rw[<-X]at aG;have⟨aK,cR⟩:=xzr a6 aP (λx hx=>H4 x<|B x hx) aG;rw[pws (ku dV).symm]at aK cR;have⟨tv,ho⟩:=HH.orb;have dT:kjy most wr S O M gc cc sb fb ts ⟨s.m,s.Z,newF s.Z s.P,s.cur⟩:=HH.turned (L.wide ay) rfl (qj7 ho.xu L (λk I hm=>by injection I with I;have e1:gc=k:=I;simp at hm;exact HH.pxt.1 aj)) (b9.stay L<|by simpa using HH.ne) cN aK cR
   have dC:=L.below hB (λk I=>by simp at I;subst I;exact HH.ge.2.2.2);have dU:=vv4 aK (by simp_all);have cL:=aK.nodup;have⟨dK,dJ,dL,dM,dI⟩:=jz aK.ok (show ∀k∈(newF s.Z s.P).map (·.1),k∉s.Z from λk I=>pwf I) (show jd s=⟨s.m++(kv5<|newF s.Z s.P).map (kv4<|newF s.Z s.P),s.Z++kv5 (newF s.Z s.P),newF s.Z s.P,s.cur⟩ from rfl) (show sortL ((newF s.Z s.P).map (·.1))=kv5 (newF s.Z s.P) from rfl) (show ∀k∈kv5 (newF s.Z s.P),k∈(newF s.Z s.P).map (·.1) from λk I=>(kz7 _).mem_iff.1 I);have dH:=show(kv5<|newF s.Z s.P).Nodup from vj5 cL
   have fX:(kv5<|newF s.Z s.P).length<=100000:=by grind [kv5,qyh]
   generalize newF s.Z s.P=F at *;clear hz bV bP X a6 a7 aW B rr;go_wp21;refine dU.mono ?_;rintro e u ⟨v5,rfl,bX,cP⟩;rw[ku dM]at bX;generalize kv5 F=d at *;obtain⟨va,vn,vc,N,rfl,aL,aM⟩:=bX;obtain⟨gB,gC,bH,-⟩:=qp aL;injection bH with bG d1 bI;subst bG;subst d1;subst bI;have dS:=show kko wr.heap.size u (.slice va d.length vc) d from⟨va,d.length,vc,N,rfl,aL,aM⟩
   have cY:=dT.below cP;have dB:=dC.trans<|cP.mono aj;clear y0;go_wp21
   go_loopw [8,44] (λ_ i wr=>∃k:Nat,k<=d.length/\i=i_ k/\kjy most wr S O M gc cc sb fb ts ⟨s.m++(d.take k).map (kv4 F),s.Z++d.take k,F,s.cur⟩/\(∃B',kko B' wr (.slice va d.length vc) d)/\Below most w wr) (λ_ i _=>d.length-(intOf i).toNat);exact⟨0,jG,rfl,by simpa using ku cY,⟨_,dS⟩,dB⟩;obtain⟨wo,rfl⟩:=cpy wr;obtain⟨k,I,rfl,m,⟨B',eN⟩,hb⟩:=hrel;have eX:=hb.size;by_cases a8:k<d.length
   ·have⟨g8,gA,g9,N,ev,aL,aM⟩:=eN;injection ev with e7 e8 eA;subst e7;subst e8;subst eA;have eO:k<N.length:=by rw[<-aM.1];exact a8
    have aY:=(kja aL).2;obtain⟨g,rfl,_,fQ,hc⟩:=aY k a8;have e5:wo.cell? (Ad g (k*1))=some N[k]:=by simp_all
    simp only[Jb]at e5;obtain⟨eD,-⟩:=aM.2 k eO a8;have aV:=(ku dI) d[k] (wZ a8);have bU:=(ku dK) d[k] aV;have cS:d[k]∉s.Z++d.take k:=λhm=>by
     obtain hm|hm:=rV.1 hm
     ·exact dJ _ aV hm
     ·have⟨i,fW,e⟩:=wG hm;rw[Zo]at e;have:=qku dH (by grind) a8 e;grind
    have⟨ly,ln,g5,fC,q1,q2,q3⟩:=m.e;obtain⟨p0,p1,p2,p3,-⟩:=kz3 q1;have⟨g7,U,dA⟩:=m.Z;have⟨fG,fO,eU⟩:=m.P;have aR:oq wo wo.drew:=(Below.refl _ wo).drew;have⟨u,R,d7,G⟩:=py0 (U.stay (kqg.of_below (S:=[]) aR) ay) underlying166 bU.1 bU.2 cS<|.agg #[];have J:=m.below aR;have⟨g6,eK⟩:=J.orb;have⟨fH,eF,d5⟩:=J.P;have eR:sb≠fb:=m.ne;have cJ:Sep wo.drew gc [sb]:=λq f=>J.sep q (by simp_all)
    have cI:kjy most u S O M gc cc sb fb ts ⟨s.m++(d.take k).map (kv4 F),s.Z++d.take k++[d[k]],F,s.cur⟩:=J.turned (G.wide ay) rfl (qj7 eK.xu G (λq f hm=>by
     injection f with f;have e1:gc=q:=f;simp at hm;exact J.pxt.2 aj)) d7 (λv hv=>by grind) (eF.stay G<|by grind) (d5.stay G cJ)
    have Z:∀t,qke wo.drew [sb] t:=λt q f c fr e1=>by
     have eL:q=sb:=by simp_all
     rw[eL]at e1;have⟨e6,c9,e9,_⟩:=U.ents;have fD:wo.drew.heap[sb]?=some (.map e6 c9):=e9;simp_all
    have d8:kko B' wo (sL g d.length vc) d:=⟨_,_,_,N,rfl,aL,aM⟩;have d9:=(d8.stay (kqg.of_below (S:=[]) aR) (λq f=>by simp_all)<|λq f=>by simp_all).stay G (Z _)<|Z _;have bK:=eD.stay (kqg.of_below (S:=[]) aR) (λq f=>by simp_all);have d3:=bK.stay G<|Z _;have b8:=oz (⟨p2,bK.conv⟩:KnS S sb N[k] d[k] wo.drew);have b4:Below most w u:=(hb.drew).trans (G.below (by omega:most<=wo.heap.size)<|by simpa using m.ge.2.2.1);have eS:=b4.size;have aN:oq u u.drew:=(Below.refl _ u).drew;have aE:=cI.below aN;have⟨aA,aC,aB,e4,t1,aF,d0⟩:=aE.e;obtain⟨u0,u1,u2,u3,-⟩:=kz3 t1;have⟨eB,bO,d6⟩:=aE.P;have⟨C,aT,bD⟩:=wG aV;have bS:C<F.length:=by grind
    have aU:C<eB.length:=by rw[<-bO.T];exact aT
    have D:=pqm bO underlying167 aT aU false;rw[bD]at D;simp only[ru,Xv]at D;have⟨ya,yn,yc,ey,e3⟩:=d6.2 C bS;rw[wW aU]at ey;injection ey with ey;rw[ey,pjl]at D;have cE:Hid (kv4 F d[k]=F[C].2):=by have:=vzn F C bS cL;simp_all
    have eJ:(s.m++(d.take k).map (kv4 F)).length<=200000:=by grind
    have bL:=d3.stay (kqg.of_below (S:=[]) aN) (λq f=>by simp_all);have a5:Below u.drew.heap.size u.drew (u.drew.alloc<|.cells #[.slice ya yn yc,i_ F[C].2.J,.string F[C].2.E] 173):=jZ _;have aI:=oz (⟨u1,u3,bL.conv,D⟩:KmS S fb (.slice aA aC aB) N[k] (.agg #[.slice ya yn yc,i_ F[C].2.J,.string F[C].2.E]) d[k] u.drew);have cM:=oz (show KmS S fb (.slice aA aC aB) N[k] (.agg #[.slice ya yn yc,i_ F[C].2.J,.string F[C].2.E]) d[k] (u.drew.alloc<|.cells #[.slice ya yn yc,i_ F[C].2.J,.string F[C].2.E] 173) from by have eP:=aE.below a5;have⟨fI,fP,eV⟩:=eP.P;have eG:=bO.stay (kqg.of_below (S:=[]) a5) ay;have aH:=pqm eG underlying167 aT aU false;rw[bD]at aH;simp only[ru,Xv]at aH;rw[ey,pjl]at aH;have cO:S<u.drew.heap.size:=wQ t1;exact⟨(a5.cell (p:=⟨S,1,none⟩) cO).trans u1,(a5.cell (p:=⟨S,3,none⟩) cO).trans u3,(bL.stay (kqg.of_below (S:=[]) a5)<|λq f=>by simp_all).conv,aH⟩)
    have dO:=oz t1;have dX:=qj aF a5;have cW:=oz<|Xk u.drew (.cells #[.slice ya yn yc,i_ F[C].2.J,.string F[C].2.E] 173);have cX:=d9.stay (kqg.of_below (S:=[]) aN) (λq f=>by simp_all) (λq f=>by simp_all);have cF:=oz (tJ a8:d.take (k+1)=d.take k++[d[k]]);have cH:=R;obtain⟨nw,(aD:Hid _)⟩:∃nw,nw=(s.m++(d.take k).map (kv4 F)).length:=⟨_,rfl⟩;rw[<-aD]at eJ;have bC:=dX;rw[show(({m:=s.m++(d.take k).map (kv4 F),Z:=s.Z++d.take k++[d[k]],P:=F,cur:=s.cur}:SSt).m.length)=nw from aD.symm]at bC;have b5:=oz (show most<=S/\(∀q∈qqc (.slice aA aC aB),most<=q) from⟨m.ge.1,λq f=>jo aF q (by unfold qqc at f;simp_all)⟩)
    have b7:=oz (show ∀t,t≠170->t≠173->qke u.drew (S::qqc (.slice aA aC aB)) t from λt h1 h2 q f c fr e1=>by
     obtain rfl|f:=tZ.1 f
     ·simp_all
     ·have⟨c2,fF,e2⟩:=qj8 aF q f;rw[e2]at e1;injection e1 with e1;injection e1 with _ e1 _;simp_all)
    generalize F[C].2=y at *;generalize eI:d[k]=kk at *;have⟨ov,cT⟩:=cpy<|N[k];rw[<-cT]at b8 aI cM e5;clear hc aY aV bU cS q1 p0 p1 p2 p3 dA Z t1 u0 u1 u2 u3 aT bD bS aU D ey cT cH eI;go_upto_region 11 with fail
    refine bg (S:=KnS S sb ov kk) (tl:=[7]) au ?_;refine frS 0 ?_;refine frS 1 ?_;refine frS 2 ?_;refine tkS 3 b8 ?_;refine frS 4 ?_;refine tkS 5 b8 ?_;refine frS 6 ?_;refine kyj ?_;refine onA 7 λK A=>?_
    go_simp;refine A _ _ ?_;clear A K;refine wpAny_done au ?_ _;clear R;go_upto_region 12 with fail
    refine bg (S:=KmS S fb (.slice aA aC aB) ov (.agg #[.slice ya yn yc,i_ y.J,.string y.E]) kk) (tl:=[13,14,15,16]) au ?_;refine frS 0 ?_;refine frS 1 ?_;refine frS 2 ?_;refine frS 3 ?_;refine tkS 4 aI ?_;refine frS 5 ?_;refine frS 6 ?_;refine frS 7 ?_;refine tkS 8 aI ?_;refine frS 9 ?_;refine tkS 10 aI ?_;refine tkS 11 aI ?_;refine onS 12 λK A=>?_
    go_simp;refine A _ _ cM ?_;clear A K;refine kyj ?_;refine onA 13 λK A=>?_
    refine step_append_lies _ (by rfl) _ _ _ (by rfl) most 173 i0 _ 3 48 underlying168 hi cA cB cC rfl aj (.slice aA aC aB) nw e4 (by rfl) bC ⟨u.heap.size,0,none⟩ 1 1 [.slice ya yn yc,i_ y.J,.string y.E] (by rfl) (by rfl) (World.news_of_block (cs:=#[.slice ya yn yc,i_ y.J,.string y.E]) cW) (by intro z hz;simp at hz;obtain rfl|rfl|rfl:=hz<;>rfl) aj iq aj ah (u.heap.size+1) ay ?_;intro gg gcap w6 cG bQ d2 eW;refine A _ _ ?_;clear A K;have Q:=aE.pushed dO aF d0 bQ (by have h9:=cG;rw[ku aD]at h9;exact h9) e3;dsimp only at Q;rw[<-ku aD]at Q;have cU:=Q.2.2;have m0:=kz3 cU;have cV:=Q.1;have bB:=Q.2.1;clear Q cU d2;refine onA 14 λK A=>?_
    go_simp;refine A _ _ ?_;clear A K;refine onA 15 λK A=>?_
    go_simp;refine A _ _ ?_;clear A K;refine onA 16 λK A=>?_
    go_simp;refine A _ _ ?_;clear A K;refine wpAny_done au ?_ _;have dY:=show kjy most _ S O M gc cc sb fb ts ⟨s.m++(d.take<|k+1).map (kv4 F),s.Z++d.take (k+1),F,s.cur⟩ by rw[ku cF,Qw,List.map_singleton,ku cE,<-sZ,<-sZ];exact cV
    have dZ:=cX.stay bB (b7 _ ak ak)<|b7 _ ak ak;have e0:=b4.drew.trans (bB.below (by omega:most<=u.heap.size) (λq f=>by
     obtain rfl|f:=tZ.1 f
     ·exact b5.1
     ·exact b5.2 q f))
    clear m0;go_wp2;exact rdM ⟨k+1,aj,eu,dY,⟨_,dZ⟩,e0⟩
   ·have:k=d.length:=by omega
    subst this;rw[Qc]at m;have⟨HX,HB⟩:=jS m hb;go_wp2;go_ret;exact⟨rfl,by rw[ku dL];exact HX,HB⟩
  ·have eE:e∈l.toList/\came.contains e.born=false:=by grind [leftOf]
   have⟨aJ,cQ⟩:=eE;have a1:=B e aJ;have⟨z,cD,a0⟩:=HZ.keyOf a1;have a9:=HZ.ok z cD;have aQ:w1.heap=wr.heap:=by obtain rfl|rfl:=aZ<;>rfl
   have bJ:oq wr w1:=by obtain rfl|rfl:=aZ;exact bR;exact bR.drew
   have⟨Y,b2⟩:=cpy<|ChangeMaps.setBlock w1 w.heap.size (.mapIter (some fb) clock (came.push e.born) clock);have V:kqg [w.heap.size] wr Y:=by rw[b2];refine⟨bJ.os,bJ.tape,bJ.output,by simp[ChangeMaps.setBlock,aQ],λk I hn=>?_⟩;grind [ChangeMaps.setBlock]
   have a3:Y.heap[w.heap.size]?=some (.mapIter (some fb) clock (came.push e.born) clock):=by grind [ChangeMaps.setBlock]
   have a2:Y.heap[fb]?=some (.map l clock):=V.at a6 (by grind);have aG:=run_entry_at (P:=prog) Y w.heap.size fb clock came l clock e a3 a2 aJ aP;rw[a0]at R aG;rw[<-b2]at R;have U:=(b9.stay L<|by simpa using HH.ne).stay V (by grind);have q0:=kz3 (V.at rr<|by grind);have bY:=jk3 (k:=z.1.1) bA a9.1;rw[<-a0]at bY;have aX:kqg [fb] w Y:=(((L.wide (S':=[fb,w.heap.size]) ay).trans<|V.wide ay).wide<|λk I hl=>by grind);have eZ:=oz aW;have fA:=oz (show(es.toList.filter λx=>!((came.push e.born).contains x.born)).length<(es.toList.filter λx=>!(came.contains x.born)).length from filter_lt _ _ (λx hx=>by
    simp_all) e (by simp_all) (by simp) es.toList a1)
   have g0:=V.size;by_cases aS:z.1.1∈s.Z
   ·have⟨j,hj,ej⟩:=wG aS;have bT:j<us.length:=by rw[<-U.T];exact hj
    have D:=pqm U underlying166 hj bT true;rw[ej,(ku cN) _ (wZ bT)]at D;simp only[Xw]at D;have a4:qvm s.Z e.key=true:=by simp_all
    have⟨w3,b3⟩:=cpy<|Y.alloc (.cells #[] 264);have H:oq Y w3:=by rw[b3];exact jZ _
    have aO:w3.heap[fb]?=some (.map l clock):=(H.block fb aj).trans a2;have⟨bF,bM,bN⟩:=jx7 (T:=167) (E:=173) aO underlying167 (λx hx=>by have⟨z',eQ,e'⟩:=HZ.keyOf<|B x hx;exact⟨_,by rw[e'];exact qwi (HZ.ok z' eQ).2⟩) a9.2 aJ a0 (λx hx ex=>HZ.uniq (B x hx) a1 ex) aP 0
    have⟨w4,bZ⟩:=cpy<|ChangeMaps.setBlock w3 fb (.map bF clock);rw[<-bZ]at bM;have bW:kqg [fb] w3 w4:=by rw[bZ];exact qxg aO
    have g1:=H.size;have b6:Hid (w4.heap[w.heap.size]?=some (.mapIter (some fb) clock (came.push e.born) clock)):=bW.at ((H.block w.heap.size aj).trans a3) (by grind);have⟨dE,dD,dF⟩:=jF (by grind [ChangeMaps.heap_setBlock_same]:w4.heap[fb]?=some (.map bF clock)) (by rw[bN,X];exact vx4 H3 a1 a4:bF.toList=es.toList.filter (qz9 s.Z<|came.push e.born)) (qqt b6);have dQ:=(aX.trans<|.of_below H).trans bW;rw[b3]at bM;have eC:S<Y.heap.size:=aj;obtain⟨v0,v1,v2,v3,-⟩:=kz3 ((H.block S eC).trans<|V.at rr (by grind));rw[b3]at v0 v1 v2 v3;generalize strOfNums z.1.1=kb at *;clear cA cB cC hi B aW X a7 a3 a6 a2 aO aZ b2 b3 bZ aQ aJ cQ a1 cD a0 a9 bY a4 aS hj ej bT bN rr he;go_wp2;grind [ku]
   ·have D:=xxl U underlying166 pkx a9.1 a9.2 aS true;simp only[Xw]at D;have a4:qvm s.Z e.key=false:=by grind
    have H:oq Y (Y.alloc<|.cells #[] 264):=jZ _;have⟨b6,dE,dD⟩:=jF ((H.block w.heap.size aj).trans a3) ((H.block fb aj).trans a2) (by rw[X];exact vwc H3 a1 a4:l.toList=es.toList.filter (qz9 s.Z<|came.push e.born));have dF:=oz<|qqt b6;have dQ:=aX.trans<|.of_below H;generalize strOfNums z.1.1=kb at *;clear cA cB cC hi B aW X a7 a3 a6 a2 aZ b2 aQ aJ cQ a1 cD a0 a9 bY a4 aS rr he;go_wp2
    grind [ku]
end Go.Proofs.YtpmcnonmkghokaaGreatDoor

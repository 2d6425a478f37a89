import Derived.Test.YtpmcnonmkghokaaGreatDoorT10
import Derived.Test.YtpmcnonmkghokaaGreatDoorT09
import Derived.Test.YtpmcnonmkghokaaGreatDoorT06
import Derived.Test.YtpmcnonmkghokaaGreatDoorT07
set_option linter.unusedVariables false
set_option linter.unusedSimpArgs false
namespace Go.Proofs.YtpmcnonmkghokaaGreatDoor
open Go.Proofs.Tryz Go.RowKit
variable {g7:Bool}{b8 y:ByteArray}{f:Fnd}{b b7 e:Int}{R all:List (List Int)}{a9 c sets st:List Int}{us vars:List MVar}{ks:List PKind}{rs:List PRule}{ss:List PSet}{ways:List SWay}{ts:List Turn}{l p p' s w w':List UInt8}{τ:List UInt8->Int->Int}{u:MVar}{a:Mach}{i j k m most n sz z:Nat}{r:PRule}{q:PSet}{t:PTree}{d7:PVar}{d0:RIn}{d9:SSt}{x:SWay}{i0:SnR}{T:Turn}{α:Type}{ty:VT}
def vmk(ss:List PSet)(ks:List PKind):List VrT->Nat->Option (List MVar×Nat)
 |[],sz=>some ([],sz)
 |v::l,sz=>(qw4 ss ks sz v).bind λu=>(vmk ss ks l<|sz+u.d).map λr=>(u::r.1,r.2)
structure VsOk (m:MdL)(l:List VrT)(sz:Nat)(us:List MVar)(z:Nat):Prop where
 T:us.length=l.length
 D:sz<=z
 R:z<=sz+3*l.length
 v:∀j (hj:j<l.length),∃u,us[j]?=some u/\UOk m u l[j]
 fit:∀u∈us,sz<=u.f/\u.f+u.d<=z
 disj:qzm us
theorem jw3(h:Right t):∀(l:List PVar),(∀v∈l,v∈t.z)->∀sz,∃us z,vmk t.j t.p (l.map jw) sz=some (us,z)/\VsOk (ql t) (l.map jw) sz us z
 |[],_,sz=>⟨[],sz,rfl,rfl,jH,jH,(λj e=>by grind),(λu d=>by cases d),λi j u v d=>ay⟩
 |v::l,hl,sz=>by
  obtain⟨u,m,p,f⟩:=xvh h (hl v<|rZ ..) sz;obtain⟨us,z,q,c⟩:=jw3 h l (λx a=>hl x<|jS a)<|sz+u.d;have k:=f.R;have a1:=c.D;have a2:=c.R;have a3:=c.T;refine⟨u::us,z,?_,?_,aj,?_,?_,?_,?_⟩
  ·grind [vmk]
  ·simp_all
  ·grind
  ·intro j e;cases j with
   |zero=>simp_all
   |succ j=>
    obtain⟨x,x1,x2⟩:=c.v j (by simp_all);simp_all
  ·intro x a;obtain rfl|a:=tZ.1 a
   ·omega
   ·have:=c.fit x a;omega
  ·intro i j x y a b g;cases i with
   |zero=>
    cases j with
    |zero=>omega
    |succ j=>
     rw[sW]at a;injection a with a;subst a;rw[sU]at b;have:=c.fit y<|wB b;omega
   |succ i=>
    rw[sU]at a;cases j with
    |zero=>
     rw[sW]at b;injection b with b;subst b;have:=c.fit x<|wB a;omega
    |succ j=>
     rw[sU]at b;exact c.disj i j x y a b aj
theorem pkc:∀(l:List VrT)(sz:Nat)(r:List MVar×Nat),vmk ss ks l sz=some r->sz<=r.2
 |[],sz,r,h=>by
  have e:some (([]:List MVar),sz)=some r:=h;grind
 |v::l,sz,r,h=>by rw[vmk]at h;obtain⟨u,c,a⟩:=wu.1 h;obtain⟨r',b,d⟩:=wX.1 a;have:=pkc l _ _ b;grind
theorem vyn:∀(l:List VrT)(i:Nat)(t t':kq3)(vs us:List MVar)(sz z:Nat),qwc (vqu l i) t=some t'->vmk ss ks l sz=some (us,z)->z<=100000->vs.length+l.length<=1000->qjh ss ks l i t vs sz=some (t',vs++us,z)
 |[],i,t,t',vs,us,sz,z,h1,h2,h3,h4=>by
  have k:some t=some t':=h1;have m:some (([]:List MVar),sz)=some (us,z):=h2;grind [qjh]
 |v::l,i,t,t',vs,us,sz,z,h1,h2,h3,h4=>by
  rw[vqu,qwc]at h1;obtain⟨a,f,g⟩:=wu.1 h1;rw[vmk]at h2;obtain⟨u,h,j⟩:=wu.1 h2;obtain⟨r,d,b⟩:=wX.1 j;injection b with b e;have p:sz+u.d<=z:=by rw[<-e];exact pkc l _ _ d
  have c:zku t v.y.x ⟨true,i⟩=some a:=f;rw[Qb]at h4;rw[qjh,c];show(if sz<=100000/\vs.length<=1000 then (qw4 ss ks sz v).bind λu=>qjh ss ks l (i+1) a (vs++[u]) (sz+u.d) else none)=_;rw[lJ aj,h];show qjh ss ks l (i+1) a (vs++[u]) (sz+u.d)=_;rw[vyn l (i+1) a t' (vs++[u]) r.1 (sz+u.d) r.2 g d aj (by grind),e,<-b];simp
theorem pyj(h:Right t)(c:TreeSize t)(hv:vmk t.j t.p (t.z.map jw) 0=some (us,z))(d:z<=100000):∃a,qxb t.p []=some a/\qjh t.j t.p (t.z.map jw) 0 a [] 0=some (kzg (ql t),us,z):=by
 have b:=py3 h.xt c;unfold qx4 at b;rw[jqh]at b;obtain⟨a,e,f⟩:=wu.1 b;refine⟨a,by rw[jv8];exact e,?_⟩;have hn:=h.bnd.z;have:=vyn (ss:=t.j) (ks:=t.p) (t.z.map jw) 0 a _ [] us 0 z f hv d (by grind [ql])
 simp_all
theorem xvw(h:Right t)(hv:VsOk (ql t) (t.z.map jw) 0 us z):EnvOk (qm (ql t)) us (kzg (ql t)) (ksz (ql t)) (ssz (ql t)) z:=by
 refine⟨λs a=>?_,λs a=>?_,λs G=>?_,xvq h,xkd,?_⟩
 ·rw[kz0]at a |-;obtain⟨e,_⟩|⟨j,f,q,E,e⟩:=kz1 (kjl<|ql t) s
  ·rw[e]at a;cases a
  ·rw[e]at a |-;simp only at a |-;obtain g|g|g|g|g|g:=kw3 _ (wZ f)
   ·omega
   ·omega
   ·obtain⟨_,k,w,x,p⟩:=g;obtain⟨i,hi,D⟩:=wG x;have c:((kjl<|ql t)[j].1,(⟨false,0+i⟩:Mean))∈qx4 (ql t):=by grind [qx4,jy7]
    have d:=qyi h.xt c;simp only[q]at d;rw[d,p,xv9 h.xt w];simp_all
   ·omega
   ·omega
   omega
 ·obtain⟨A,B⟩:=qwo h.xt s;have m:=A.1 a;obtain⟨hi,ev⟩:=B m;obtain⟨C,H⟩:=kwu m;have l:(t.z[(zx (zf t) s).toNat]).y.x.toList=s:=by grind [zf]
  generalize (zx (zf t) s).toNat=i at hi ev l;have f:i<(t.z.map jw).length:=by simp_all
  have c:((t.z.map jw)[i].y,(⟨true,0+i⟩:Mean))∈qx4 (ql t):=jN<|zk2 (t.z.map jw) 0 i f;have d:=qyi h.xt c;have en:(t.z.map jw)[i].y.x.toList=s:=by rw[Zz];exact l
  simp only[en]at d;obtain⟨u,y,b⟩:=hv.v i f;rw[d,ev];refine⟨rfl,u,by simp_all,?_⟩;have v:=hv.fit u<|wB y;rw[Zz]at b;exact⟨v.2,b.cnt,b.D,b.few,b.tru,b.kin,b.set⟩
 ·grind [jjw]
 ·have h1:=hv.R;have F:=h.bnd.z;grind [ql]
theorem pvd{a7:MdL}{a8:List VrT}(hv:VsOk a7 a8 0 us z):yg us z (List.replicate z 0):=by refine⟨Qh,λv b j f=>?_⟩;obtain⟨i,hi,rfl⟩:=wG b;obtain⟨u,a,d⟩:=hv.v i (by rw[<-hv.T];exact hi);rw[wW hi]at a;injection a with a;have e:=hv.fit us[i] b;have c:=d.ne;rw[<-a]at c;exact⟨0,by grind,Int.le_refl _,aj⟩
theorem vy2(h:a9∈kqh n all):∃c∈all,∃j:Nat,j<n/\a9=c++[(j:Int)]:=by grind [kqh]
theorem qxr(n:Nat):∀all:List (List Int),(kqh n all).length=all.length*n
 |[]=>by simp[kqh]
 |c::l=>by have e:kqh n (c::l)=((List.range n).map λ(j:Nat)=>c++[(j:Int)])++kqh n l:=rfl;rw[e,rD,qxr n l,Ql,List.length_range,Qb,Nat.add_mul];omega
theorem jyt(h:all.Nodup):(kqh n all).Nodup:=by grind [kqh,List.nodup_range,List.append_inj']
theorem xxa:∀(l:List PP) (all:List (List Int)),(∀p∈l,∃n,qzt ss p.Q.x.toList=some n/\n<=3)->all.length*3 ^ l.length<=100000->all.Nodup ->
  ∃c,chO ss l all=some c/\c.Nodup/\c.length<=all.length*3 ^ l.length/\∀x∈c,∃y∈all,∃z:List Int,x=y++z/\z.length=l.length/\∀i (hi:i<l.length) (hz:i<z.length),0<=z[i]/\z[i]<((qzt ss l[i].Q.x.toList).getD 0:Nat)
 |[],all,_,hb,hn=>⟨all,rfl,hn,ay,λx b=>⟨x,b,[],ay,rfl,λi hi=>ay⟩⟩
 |p::l,all,hl,hb,hn=>by
  obtain⟨n,h1,d⟩:=hl p<|rZ ..;have a:=qxr n all;have e:1<=3 ^ l.length:=Nat.one_le_pow _ _ aj;rw[Qb,Nat.pow_succ]at hb;have h:(kqh n all).length*3 ^ l.length<=all.length*(3 ^ l.length*3):=by rw[a,Nat.mul_assoc];refine Z9 _ ?_;rw[Nat.mul_comm];exact Z9 _ d
  have g:(kqh n all).length<=(kqh n all).length*3 ^ l.length:=Nat.le_mul_of_pos_right _ e;obtain⟨c,c1,c2,c3,c4⟩:=xxa l (kqh n all) (λq f=>hl q<|jS f) aj<|jyt hn;refine⟨c,?_,c2,by grind,λx b=>?_⟩
  ·grind [chO]
  grind [vy2]
def zwy(z:List Int):Prop:=z.length<=2/\∀x∈z,0<=x/\x<4
theorem zk5(h:a9.length<=2):a9=[]\/(∃a,a9=[a])\/∃a b,a9=[a,b]:=by
 match a9,h with
 |[],_=>simp
 |[a],_=>simp
 |[a,b],_=>simp
 |a::b::c::l,h=>simp at h
def zxx(z:List Int):List UInt8:=Go.Lib.join ((z.map λi=>kvh i.toNat).map (·.data.toList)) [44]
def dgB(a:Int):UInt8:=(48+a.toNat).toUInt8
theorem jjt:zxx []=[]:=rfl
theorem zke(a:Int):zxx [a]=[dgB a]:=kM
theorem zka(a b:Int):zxx [a,b]=[dgB a,44,dgB b]:=kM
theorem xvz(h:zwy c):zqi c=true:=by
 have e:(zxx c).length<=3:=by
  obtain rfl|⟨a,rfl⟩|⟨a,b,rfl⟩:=zk5 h.1
  ·rw[jjt];simp
  ·rw[zke];simp
  ·rw[zka];simp
 unfold zqi;rw[rG,rG,sJ];refine⟨⟨λx d=>?_,?_⟩,?_⟩
 ·have:=h.2 x d;grind
 ·have:=h.1;grind
 grind [zxx]
theorem jvx(n:ByteArray)(z:List Int):(kv0 n z).toList=n.toList++(40::(zxx z++[41])):=by grind [kv0,qvl,yj,ByteArray.data_append,zxx]
theorem jyb(a:0<=b)(h1:b<4):dgB b≠40:=by have:b=0\/b=1\/b=2\/b=3:=aj;obtain rfl|rfl|rfl|rfl:=this<;>decide
theorem pj8(c:0<=b7)(h1:b7<4)(d:0<=b)(f:b<4)(e:dgB b7=dgB b):b7=b:=by have a:b7=0\/b7=1\/b7=2\/b7=3:=aj;have hb:b=0\/b=1\/b=2\/b=3:=aj;obtain rfl|rfl|rfl|rfl:=a<;>obtain rfl|rfl|rfl|rfl:=hb<;>first|rfl|exact absurd e ak
theorem pqi(h:zwy c)(d:zwy a9)(e:(kv0 y c).toList=(kv0 b8 a9).toList):y.toList=b8.toList/\c=a9:=by
 rw[jvx,jvx]at e;have i:=congrArg List.reverse e;obtain rfl|⟨a,rfl⟩|⟨a,b,rfl⟩:=zk5 h.1<;>obtain rfl|⟨a',rfl⟩|⟨a',g,rfl⟩:=zk5 d.1
 ·simp_all
 ·have f:=d.2 a' ay;grind [jjt,zke,jyb]
 ·have hb:=d.2 g ay;grind [jjt,zka,jyb]
 ·have f:=h.2 a ay;grind [jjt,zke,jyb]
 ·have f:=h.2 a ay;have j:=d.2 a' ay;simp only[zke]at e;obtain⟨k,l⟩:=Zi e rfl;grind [pj8]
 ·simp[zke,zka]at i
 ·have hb:=h.2 b ay;grind [jjt,zka,jyb]
 ·simp[zke,zka]at i
 ·have f:=h.2 a ay;have j:=d.2 a' ay;have hb:=h.2 b ay;have m:=d.2 g ay;simp only[zka]at e;obtain⟨k,l⟩:=Zi e rfl;grind [pj8]
theorem kx9.xx:∀{x:PX},kx9 x->zxs x
 |.node _ _ x a c,h=>by
  obtain⟨i,rfl,rfl⟩|⟨f,d,rfl⟩|⟨f,d,g⟩:=h
  ·refine⟨λe=>?_,trivial,trivial⟩;obtain(b|b|b)|⟨b,h1,j⟩|⟨b,_⟩:=i
   ·rw[b]at e;exact absurd e ak
   ·rw[b]at e;exact absurd e ak
   ·rw[b]at e;exact absurd e ak
   ·omega
   ·rw[b]at e;exact absurd e ak
  ·exact⟨λe=>by rw[f]at e;exact absurd e ak,d.xx,trivial⟩
  ·refine⟨λe=>?_,d.xx,g.xx⟩;obtain q|q|q|q|q|q|q:=qjz f<;>rw[q]at e<;>exact absurd e ak
theorem kkz.xx:∀{b:PB},kkz b->BSm b->jze b
 |.nil,_,_=>trivial
 |.node _ _ a .nil n,⟨_,h2,_,h⟩,⟨s1,s2⟩=>⟨⟨h2.xx,aj⟩,h.xx s2⟩
 |.node _ _ a (.node _ _ _ t e) n,⟨h1,_,_,h4,h5,h6⟩,⟨s1,s2,s3,s4⟩=>⟨⟨h1.xx,aj⟩,h4.1.xx s2,h5.1.xx s3,h6.xx s4⟩
theorem xjn(h:Right t)(e:r∈t.l++t.q):∃c,chO t.j r.u [[]]=some c/\c.Nodup/\c.length<=9/\∀z∈c,zwy z/\ParOk (ssz (ql t)) r.u z:=by
 have f:r.u.length<=2:=h.bnd.pars r e;have h9:3 ^ r.u.length<=9:=by have:r.u.length=0\/r.u.length=1\/r.u.length=2:=aj;grind
 obtain⟨c,c1,c2,c3,c4⟩:=xxa (ss:=t.j) r.u [[]] (λp f=>by obtain⟨n,a,_,d,_⟩:=jq7 h<|h.xt.psets r e p f;simp_all) (by grind) ay;refine⟨c,c1,c2,by grind,λz m=>?_⟩;obtain⟨y,g,s,a,j,d⟩:=c4 z m;rw[Qq]at g;subst g;rw[Qd]at a;subst a;refine⟨⟨aj,λx l=>?_⟩,j,λi hi k=>d i hi k⟩;obtain⟨i,hi,rfl⟩:=wG l;have b:i<r.u.length:=aj;obtain⟨a1,a2⟩:=d i b hi;obtain⟨n,a,_,q,_⟩:=jq7 h<|h.xt.psets r e r.u[i] (wZ b);grind
theorem qyz:∀{b:PB},ky6 b->qxq b=true
 |.nil,_=>rfl
 |.node _ _ a .nil n,h=>qyz (b:=n) h
 |.node _ _ a (.node _ _ _ t e) n,⟨⟨h1,h2⟩,⟨h3,h4⟩,h5⟩=>by rw[qxq,qyz h1,qyz h3,qyz h5,Qz h2,Qz h4];rfl
theorem jxe{b9:List Tok}(h:∀y∈b9,y.x.size<=1000):zjj b9=true:=sJ.2 λy a=>Qz<|h y a
structure RGood (t:PTree)(r:PRule):Prop where
 ch:∃c,chO t.j r.u [[]]=some c/\c.Nodup/\c.length<=9/\∀z∈c,zwy z/\ParOk (ssz<|ql t) r.u z
 par:r.u.length<=1000
 nm:r.y.x.size<=1000
 xv:qj4 r.guard/\zxs r.guard/\isNil r.guard=false/\kk5 r.guard<=4000/\(gy (qm<|ql t) r.u r.guard).b=1
 blk:qzh r.S/\jze r.S
 fitG:zjj (bf r.guard)=true
 fitB:qxq r.S=true/\kqq r.S<=1000/\zjj (je r.S)=true
theorem jqu(h:Right t)(a:r∈t.l++t.q):RGood t r:=by
 obtain⟨L,d,g⟩:=h.M;have s:=kxk g d;have e:kvw r:=by
  obtain a|a:=rV.1 a
  ·exact d.l r a
  ·exact(d.q r a).1
 have f:(gy (qm<|ql t) r.u r.guard).b=1:=by
  have:=h.typ;unfold qqf at this;rw[rG]at this;obtain a|a:=rV.1 a
  ·have:=sJ.1 this.1 r a;grind [zql]
  ·have:=sJ.1 this.2 r a;grind [vw6]
 obtain⟨x,b,i,x1,x2⟩:=e;have j:=h.bnd.pars r a;refine⟨xjn h a,aj,?_,⟨x.xv,x.xx,x.some,aj,f⟩,⟨b.xv,b.xx x2⟩,jxe λy c=>?_,qyz b.T,by rw[qkq];omega,jxe λy c=>?_⟩
 ·have:=(s.nm _<|kxv a (rZ ..)).2;omega
 ·rw[kze x]at c;have:=(s.nm _<|kxv a (jkf c)).2;omega
 ·rw[kxo b]at c;have:=(s.nm _<|kxv a (vz8 c)).2;omega
theorem pyf(h:RGood t r)(d:R.length<=9)(c:∀z∈R,zwy z/\ParOk (ssz (ql t)) r.u z)(hn:n<=100000):qzf r R n=true:=by have a:=h.par;have b:=h.nm;grind [qzf,xvz]
def xj0(t:PTree)(l:List PRule)(s:MStep):Prop:=∃r∈l,∃z,s=zjm r z/\zwy z/\ParOk (ssz (ql t)) r.u z
theorem vj1:∀(l:List PRule)(acc:List MStep),(∀r∈l,RGood t r)->(l.map (·.y.x.toList)).Nodup->acc.length+9*l.length<=100000 ->
  ∃S,qqo t.j l acc=some (acc++S)/\S.length<=9*l.length/\(∀s∈S,xj0 t l s)/\(S.map (·.x.toList)).Nodup
 |[],acc,_,_,_=>⟨[],by rw[qqo,Qs],ay,(λs d=>by cases d),ay⟩
 |r::l,acc,hl,hn,hb=>by
  have m:=hl r<|rZ ..;obtain⟨c,c1,c2,c3,c4⟩:=m.ch;rw[Qm,QM]at hn;rw[Qb]at hb;obtain⟨S,s1,w,s3,v⟩:=vj1 l (acc++c.map (zjm r)) (λx f=>hl x<|jS f) hn.2 (by grind);refine⟨c.map (zjm r)++S,?_,by grind,λs d=>?_,?_⟩
  ·grind [qqo,pyf]
  ·obtain d|d:=rV.1 d
   ·obtain⟨z,h,rfl⟩:=tY.1 d;exact⟨r,rZ ..,z,rfl,c4 z h⟩
   ·obtain⟨r',g,z,q⟩:=s3 s d;exact⟨r',jS g,z,q⟩
  ·rw[Qw,Jw];refine⟨?_,v,?_⟩
   ·rw[Jz];unfold List.Nodup;rw[J6];refine List.Pairwise.imp_of_mem ?_ c2;intro a b k j i e;exact i (pqi (c4 a k).1 (c4 b j).1 e).2
   ·intro x f y p e;rw[Jz]at f;obtain⟨z,h,rfl⟩:=tY.1 f;obtain⟨s,d,rfl⟩:=tY.1 p;obtain⟨r',g,A,rfl,u,_⟩:=s3 s d;have:=(pqi (c4 z h).1 u e).1;grind
def xk0(t:PTree)(l:List PRule)(s:MNever):Prop:=∃r∈l,∃z,s=qvv r z/\zwy z/\ParOk (ssz (ql t)) r.u z
theorem jkt:∀(l:List PRule)(acc:List MNever),(∀r∈l,RGood t r)->acc.length+9*l.length<=100000 ->
  ∃S,kvf t.j l acc=some (acc++S)/\S.length<=9*l.length/\(∀s∈S,xk0 t l s)
 |[],acc,_,_=>⟨[],by rw[kvf,Qs],ay,λs a=>by cases a⟩
 |r::l,acc,hl,hb=>by
  have d:=hl r<|rZ ..;obtain⟨c,c1,c2,c3,c4⟩:=d.ch;rw[Qb]at hb;obtain⟨S,s1,g,s3⟩:=jkt l (acc++c.map (qvv r)) (λx e=>hl x<|jS e) (by grind);refine⟨c.map (qvv r)++S,?_,by grind,λs a=>?_⟩
  ·grind [kvf,pyf]
  ·obtain a|a:=rV.1 a
   ·obtain⟨z,f,rfl⟩:=tY.1 a;exact⟨r,rZ ..,z,rfl,c4 z f⟩
   ·obtain⟨r',b,z,q⟩:=s3 s a;exact⟨r',jS b,z,q⟩
structure MachOf (t:PTree)(a:Mach):Prop where
 M:MachGood (qm<|ql t) (ksz<|ql t) (ssz<|ql t) a
 f:yg a.z a.size (List.replicate a.size 0)
 X:∀s∈a.X,xj0 t t.l s
 q:∀s∈a.q,xk0 t t.q s
 few:a.X.length<=45
theorem xzy(h:(qq4 y).1=0):∃a,qx5 y=some a/\MachOf (uz (jv y).1).1 a:=by
 have hR:=qk7 h;unfold qx5;generalize (uz (jv y).1).1=t at hR;obtain⟨L,C,A⟩:=hR.M;have G:=kxk A C;obtain⟨us,z,K,e⟩:=jw3 hR t.z (λ_ hv=>hv) 0;have w:(t.z.map jw).length<=4:=hR.bnd.z;have Q:z<=12:=by have:=e.R;omega
 obtain⟨J,k1,k2⟩:=pyj hR G K aj;have O:t.l.length<=5:=hR.bnd.l;have M:t.q.length<=3:=hR.bnd.q;obtain⟨S,s1,R,s3,I⟩:=vj1 (t:=t) t.l [] (λr b=>jqu hR<|jT b) (vjg hR.xt) (by grind);obtain⟨N,n1,n2,n3⟩:=jkt (t:=t) t.q [] (λr b=>jqu hR<|jN b) (by grind);rw[Qd]at s1 n1;have s:=e.T;have p:∀r∈t.l,kkj (qm<|ql t) r.u r.S=true:=λr b=>by have:=hR.typ;unfold qqf at this;rw[rG]at this;have:=sJ.1 this.1 r b;grind [zql]
 have B:zkh (ql t)=true:=by
  have l:t.j.length<=2:=hR.bnd.j;have m:t.p.length<=2:=hR.bnd.p;unfold zkh;have H:((ql t).p.all λx=>decide (x.i.length<=1000))=true:=sJ.2 λk D=>Qz (by have:=hR.bnd.xy k D;omega)
  grind [ql]
 have F:jy5 (ql t)=some ⟨S,N,kje t.j,us,kzg<|ql t,z⟩:=by unfold jy5;show(qxb t.p []).bind _=_;rw[k1];show(qjh t.j t.p (t.z.map jw) 0 J [] 0).bind _=_;rw[k2];show(qqo t.j t.l []).bind _=_;rw[s1];show(kvf t.j t.q []).map _=_;rw[n1];rfl
 have E:zq0 ⟨S,N,kje t.j,us,kzg<|ql t,z⟩=true:=by
  unfold zq0;have l:S.all qym=true:=sJ.2 λx c=>by obtain⟨r,b,ms,rfl,_⟩:=s3 x c;have g:=jqu hR<|wY t.q b;show qym ⟨_,r.u,ms,r.guard,r.S⟩=true;unfold qym;simp only;rw[Qz g.par,g.fitG,g.fitB.1,Qz g.fitB.2.1,g.fitB.2.2];rfl
  have m:N.all zkm=true:=sJ.2 λx c=>by obtain⟨r,b,ms,rfl,_⟩:=n3 x c;have g:=jqu hR<|rJ t.l b;show zkm ⟨_,r.u,ms,r.guard⟩=true;unfold zkm;simp only;rw[Qz g.par,g.fitG];rfl
  simp only;rw[l,m,Qz (by omega:us.length<=1000),Qz (by omega:S.length<=1000000),Qz (by omega:N.length<=1000000)];rfl
 refine⟨⟨S,N,kje t.j,us,kzg<|ql t,z⟩,?_,?_⟩
 ·simp_all
 ·have q:∀v∈us,∃d,UOk (ql t) v d:=λv hv=>by obtain⟨i,hi,rfl⟩:=wG hv;obtain⟨u,T,U⟩:=e.v i aj;grind
  have P:=hR.M.choose_spec.1.vne;rw[Ql]at s w;refine⟨⟨xvw hR e,e.disj,λv hv=>?_,λv hv=>?_,?_,?_,λx c=>?_,λx c=>?_,I⟩,pvd e,s3,n3,by grind⟩
  ·obtain⟨d,f⟩:=q v hv;have l:=e.fit v hv;have m:=f.D;have H:=f.R;grind
  ·obtain⟨d,f⟩:=q v hv;exact⟨f.few,f.txt⟩
  ·simp_all
  ·grind
  ·obtain⟨r,b,ms,rfl,_,j⟩:=s3 x c;have g:=jqu hR<|wY t.q b;exact⟨j,g.xv,g.blk.1,g.blk.2,p r b⟩
  ·obtain⟨r,b,ms,rfl,_,j⟩:=n3 x c;have g:=jqu hR<|rJ t.l b;exact⟨j,g.xv⟩
section
variable {t:PTree}
theorem kym:∀{l:List PSet}{s:List UInt8}{k:Nat},kkq l s=some k->zx (l.map λq=>q.y.x) s=k
 |x::l,s,k,h=>by
  rw[kkq]at h;rw[Qm,zx];split at h
  ·grind
  ·rename_i a;obtain⟨m,h1,rfl⟩:=wX.1 h;rw[Xy a,kym h1,Xy aj];rfl
theorem jwp(h:Right t)(e:¬zx (ug t) s<0):∃n,qzt t.j s=some n/\jzt t s n/\szN t s=n/\ssz (ql t) s=n:=by obtain⟨n,a,f,g,c⟩:=jq7 h e;obtain⟨k,x,k1,k2,k3,k4⟩:=kkx a;obtain⟨b,rfl⟩:=rY.1 k2;obtain⟨L,d,i⟩:=h.M;have hA:jzt t s n:=⟨k,b,kym k1,d.j _<|wZ b,k3,aj,aj⟩;exact⟨n,a,hA,hA.eq,c⟩
theorem xqq(n:Nat):kqh n [[]]=(List.range n).map λ(j:Nat)=>[(j:Int)]:=by simp[kqh]
theorem xvp(m n:Nat):kqh m ((List.range n).map λ(j:Nat)=>[(j:Int)])=(List.range n).flatMap λ(a:Nat)=>(List.range m).map λ(b:Nat)=>[(a:Int),(b:Int)]:=by simp[kqh,List.flatMap_map]
theorem xvx(h:d0∈qx8 t r):d0.r=r:=by grind [qx8,qx7]
theorem pym(h:Right t)(d:r∈t.l++t.q):chO t.j r.u [[]]=some ((qx8 t r).map (·.ms)):=by
 have b:r.u.length<=2:=h.bnd.pars r d;have a:∀p∈r.u,qzt t.j p.Q.x.toList=some (szN t p.Q.x.toList)/\szN t p.Q.x.toList<=9:=λp b=>by obtain⟨n,g,f,i,_⟩:=jwp h<|h.xt.psets r d p b;obtain⟨_,_,_,_,_,_,j⟩:=f;simp_all
 unfold qx8 qx7 kwo;generalize r.u=l at b a |-;match l,b,a with
 |[],_,_=>rfl
 |[p],_,a=>
  obtain⟨c,e⟩:=a p ay;rw[chO,c];simp only[rQ];rw[xqq,lJ (by grind),chO];grind [List.map_flatMap,List.map_eq_flatMap]
 |[p,q],_,a=>
  obtain⟨c,e⟩:=a p ay;obtain⟨y1,y2⟩:=a q ay;have k:szN t p.Q.x.toList*szN t q.Q.x.toList<=9*9:=Jt e y2;rw[chO,c];simp only[rQ];rw[xqq,lJ (by grind),chO,y1];simp only[rQ];rw[lJ (by rw[qxr];grind),xvp,chO];simp[Jp,Function.comp_def]
 |p::q::x::l,b,_=>simp_all
theorem vj2:∀(l:List PRule)(acc S:List MStep),(∀r∈l,chO ss r.u [[]]=some ((qx8 t r).map (·.ms)))->qqo ss l acc=some S->S=acc++(kq4 t l).map zwm
 |[],acc,S,_,h=>by
  grind [qqo,kq4]
 |r::l,acc,S,hl,h=>by
  rw[qqo,hl r (rZ ..)]at h;simp only[rQ]at h;split at h
  ·rw[vj2 l _ S (λx a=>hl x (jS a)) h,sZ];unfold kq4;rw[Jy,Qw,Jz];congr 2
   exact Zc λx a=>by rw[<-xvx a];rfl
  simp_all
theorem jkr:∀(l:List PRule)(acc S:List MNever),(∀r∈l,chO ss r.u [[]]=some ((qx8 t r).map (·.ms)))->kvf ss l acc=some S->S=acc++(kq4 t l).map pzr
 |[],acc,S,_,h=>by
  grind [kvf,kq4]
 |r::l,acc,S,hl,h=>by
  rw[kvf,hl r (rZ ..)]at h;simp only[rQ]at h;split at h
  ·rw[jkr l _ S (λx a=>hl x (jS a)) h,sZ];unfold kq4;rw[Jy,Qw,Jz];congr 2
   exact Zc λx a=>by rw[<-xvx a];rfl
  simp_all
theorem pyb(h:d0∈kq4 t rs):∃r∈rs,d0∈qx8 t r/\d0.r=r:=by obtain⟨r,a,h⟩:=rM.1 h;exact⟨r,a,h,xvx h⟩
theorem qjq(h:Right t)(b:d0∈kq4 t t.l++kq4 t t.q):qq8 (qm (ql t)) (ssz (ql t)) d0/\d0.ms.length<=2/\d0.r∈t.l++t.q:=by
 have key:∃r∈t.l++t.q,d0∈qx8 t r/\d0.r=r/\kkj (qm<|ql t) r.u r.S=true:=by
  have i:=h.typ;unfold qqf at i;rw[rG]at i;obtain⟨L,d,l⟩:=h.M;obtain b|b:=rV.1 b
  ·obtain⟨r,a,h1,j⟩:=pyb b;have:=sJ.1 i.1 r a;grind [zql]
  ·obtain⟨r,a,h1,j⟩:=pyb b;exact⟨r,jN a,h1,j,by rw[(d.q r a).2];rfl⟩
 obtain⟨r,a,z,rfl,hb⟩:=key;have g:=jqu h a;obtain⟨L,d,l⟩:=h.M;have f:kvw d0.r:=by
  obtain a|a:=rV.1 a
  ·exact d.l _ a
  ·exact(d.q _ a).1
 obtain⟨c,c1,_,_,c4⟩:=g.ch;rw[pym h a]at c1;injection c1 with c1;obtain⟨v,w⟩:=c4 d0.ms (by grind);refine⟨⟨w,λs A=>?_,f.1,g.xv.2.1,g.xv.2.2.2.1,g.xv.2.2.2.2,f.2.1,g.blk.2,hb⟩,v.1,a⟩;cases m:fpB d0.r.u s
 ·rfl
 ·obtain⟨p,q,e⟩:=(zyz).1 m;have x:=(zky t s).2 λy u k=>h.xt.pars d0.r a p q y u (k.trans e.symm)
  omega
end
section
variable {t:PTree}
theorem jw4:∀(l:List VrT)(sz:Nat)(us:List MVar)(z:Nat),vmk ss ks l sz=some (us,z)->∀j (hj:j<l.length),∃u sz',us[j]?=some u/\qw4 ss ks sz' l[j]=some u
 |v::l,sz,us,z,h,j,hj=>by
  rw[vmk]at h;obtain⟨u,f,b⟩:=wu.1 h;obtain⟨r,c,a⟩:=wX.1 b;injection a with a g;subst a;cases j with
  |zero=>grind
  |succ j=>
   obtain⟨x,s',d,e⟩:=jw4 l _ r.1 r.2 c j (by simp_all);grind
theorem zko:∀{l:List PKind}{s:List UInt8}{k:PKind},kwe l s=some k->∃i:Nat,zx (l.map λq=>q.y.x) s=i/\l[i]?=some k
 |x::l,s,k,h=>by
  rw[kwe]at h;rw[Qm,zx];split at h
  ·rename_i a;injection h with h;subst h;exact⟨0,by simp_all,rfl⟩
  ·rename_i a;obtain⟨i,h1,b⟩:=zko h;exact⟨i+1,by grind,by simp_all⟩
theorem xv1(h:Right t){d6:Tok}(f:d6∈kzt t)(c:l∈lits):d6.x.toList≠l:=by obtain⟨L,b,a⟩:=h.M;obtain⟨d,g⟩:=b.nms.mem d6 f;obtain⟨i,hi,rfl⟩:=wG d;have e:tk L i=L[i]:=getD_at hi;have ok:=(a.ok i hi).lit l c;grind [vj9]
theorem Right.txt(h:Right t):TreeTxt t:=by
 obtain⟨L,b,c⟩:=h.M;have s:=kxk c b;refine⟨λk a=>(s.nm _<|kwy a (rZ ..)).1,λv hv=>⟨b.z v hv,λa=>(s.nm _<|qqm hv ?_).1,λa=>(s.nm _<|qqm hv ?_).1⟩⟩
 ·unfold kxi kyv;simp_all
 ·unfold kxi kyv;simp_all
structure VSame (t:PTree)(v:PVar)(u:MVar)(T:VT):Prop where
 top2:T.b=2->∀x:Int,kky v x=(decide (x<0)||decide ((u.a.length:Int)<=x))
 topN:T.b≠2->∀x:Int,kky v x=false
 g:kwv v=!(u.g==-1)
 one:(u.g==-1)=true->u.d=1
 cnt:qxz t v u.d
 uniq:∀n,qxz t v n->n=u.d
 zero:zvy t v=0-shT T
 txt:∀n:Nat,n<u.a.length->zk1 t v ((n:Int)-shT T)=u.a[n]?
theorem jy3(h:n<m):(kvx m)[n]?=some (kvh n):=by simp[kvx,h]
theorem vqv(h:Right t)(hv:d7∈t.z)(y:qw4 t.j t.p sz (jw d7)=some u):VSame t d7 u (kqm (qm (ql t)) (jw d7).si):=by
 obtain⟨L,G,O⟩:=h.M;have H:=kxk O G;obtain⟨A,I⟩:=G.z d7 hv;obtain⟨es,M⟩:=jq9 h.xt h.txt hv;have b:kx3 (kj2 t d7)=((kqm (qm<|ql t) (jw d7).si).b==4):=by rw[es,zki M]
 have N:=zzg (qm<|ql t) (jw d7).si;unfold qw4 at y;obtain⟨c,g,y⟩:=wu.1 y;obtain⟨tx,a,rfl⟩:=wX.1 y;have B:kwv d7=!(kji t.j d7.g.x.toList==-1)/\(kwv d7=false->c=1)/\qxz t d7 c/\∀n,qxz t d7 n->n=c:=by
  obtain e|e:=A
  ·have F:kwv d7=false:=by unfold kwv;rw[e,dh];rfl
   have hA:(jw d7).K=false:=by show(!(d7.g.t.toList==[]))=false;rw[e,dh];rfl
   rw[hA,Xy ay]at g;injection g with g;have z:kkq t.j d7.g.x.toList=none:=by
    cases i:kkq t.j d7.g.x.toList with
    |none=>rfl
    |some k=>
     have h1:=kym i;obtain⟨q,S,E⟩:=qwa (f:=λq:PSet=>q.y.x) (l:=t.j) (s:=d7.g.x.toList) aj;have W:=(H.nm _<|jjj S).1;rw[e,show zh.x.toList=[] from jh _,yj]at E;grind [btl]
   grind [qxz,kji]
  ·have F:kwv d7=true:=e;have hA:(jw d7).K=true:=by show(!(d7.g.t.toList==[]))=true;simp_all
   rw[hA,lJ rfl]at g;have g:qzt t.j d7.g.x.toList=some c:=g;obtain⟨n,w,E,K,_⟩:=jwp h<|h.xt.g d7 hv e;rw[g]at w;injection w with w;subst w;obtain⟨k,_,k1,_⟩:=kkx g;unfold qxz kji;rw[F,k1];refine⟨?_,λe=>mZ,by simp_all,λn hn=>?_⟩
   ·simp
   ·rw[lJ rfl]at hn;rw[<-hn.eq,K]
 obtain⟨c1,c2,c3,c4⟩:=B;have J:zvy t d7=0-shT (kqm (qm<|ql t) (jw d7).si):=by grind [zvy,shT]
 have D:d7.R=zh->∀x:Int,kky d7 x=false:=λe x=>by unfold kky;rw[e,dh];rfl
 have j:d7.k.x.toList∈lits->zx (uy t) d7.k.x.toList<0:=λR=>(kwg _ _).2 λx U=>by obtain⟨k,C,rfl⟩:=tY.1 U;exact xv1 h (kwy C<|rZ ..) R
 have v:(kji t.j d7.g.x.toList==-1)=true->c=1:=λe=>c2 (by simp_all)
 suffices i:(∀n:Nat,n<tx.length->zk1 t d7 ((n:Int)-shT (kqm (qm<|ql t) (jw d7).si))=tx[n]?)/\((kqm (qm<|ql t) (jw d7).si).b=2->∀x:Int,kky d7 x=(decide (x<0)||decide ((tx.length:Int)<=x)))/\((kqm (qm<|ql t) (jw d7).si).b≠2->∀x:Int,kky d7 x=false) from⟨i.2.1,i.2.2,c1,v,c3,c4,J,i.1⟩
 clear c1 c2 c4 J v g A es N;obtain⟨k1,k2,k3⟩|⟨k1,k2,k3,k4⟩|⟨k1,k3⟩:=I
 ·have e:(jw d7).si=⟨0,zh,zh⟩:=by unfold jw;simp_all
  have T:=j (by rw[k2];decide);rw[e]at a b |-;have a:some (kvx 2)=some tx:=a;injection a with a;subst a;refine⟨λn hn=>?_,λe=>absurd e (by show ¬(1:Int)=2;decide),λ_=>D k3⟩;rw[kx1]at hn;grind [zk1,shT,kqm,jy3]
 ·have e:(jw d7).si=⟨1,d7.R,zh⟩:=by unfold jw;simp_all
  have T:=j (by rw[k2];decide);rw[e]at a b |-;have a:(jym d7.R.x).map (λn=>kvx<|n+1)=some tx:=a;obtain⟨d,d1,rfl⟩:=wX.1 a;obtain⟨d2,d3⟩:=zq8 d1;refine⟨λn hn=>?_,λ_ x=>?_,λe=>absurd rfl e⟩
  ·rw[kx1]at hn;grind [zk1,shT,kqm,jy3]
  grind [kky,kx1]
 ·have e:(jw d7).si=⟨2,zh,d7.k⟩:=by unfold jw;simp_all
  rw[e]at a b |-;have P:kqm (qm<|ql t) ⟨2,zh,d7.k⟩=if (zl (qm<|ql t) d7.k.x.toList).V==1 then ⟨4,d7.k.x⟩ else ⟨3,d7.k.x⟩:=rfl
  have Q:vqi t.j t.p ⟨2,zh,d7.k⟩=match kwe t.p d7.k.x.toList with|some k=>some (k.i.map (·.x))|none=>(qzt t.j d7.k.x.toList).map λm=>⟨#[45]⟩::kvx m:=rfl
  rw[P]at b |-;rw[Q]at a;have C:(d7.k.t.toList==mX)=true:=by simp_all
  by_cases p:zx (uy t) d7.k.x.toList<0
  ·have i:¬zx (ug t) d7.k.x.toList<0:=λi=>h.xt.k d7 hv C i p
   rw[(qz0 t).2 i,lJ ak]at b |-;have z:kwe t.p d7.k.x.toList=none:=by grind [zko,uy]
   rw[z]at a;obtain⟨m,X,rfl⟩:=wX.1 a;grind [kkx,kx1,zk1,shT,jy3]
  ·rw[jv3 h.xt p,Xy ak]at b |-;obtain⟨k,V⟩:=jyw t.p d7.k.x.toList<|qwa p;grind [zko,uy,zk1,shT]
end
section
variable {t:PTree}
def tuV(t:PTree)(τ:List UInt8->Int->Int):Tu:=λk=>match t.z[k]? with|some v=>(plX τ (jw v).K (jw v).g.x.toList,ftT τ (kqm (qm (ql t)) (jw v).si))|none=>(id,id)
theorem kxc(a:k<t.z.length):tuV t τ k=(plX τ (jw t.z[k]).K (jw t.z[k]).g.x.toList,ftT τ (kqm (qm (ql t)) (jw t.z[k]).si)):=by unfold tuV;simp_all
theorem pqt:∀{l:List PKind}{s:List UInt8},0<=(kjj l s).1->∃k∈l,∃j,∃b:j<k.i.length,k.i[j].x.toList=s/\(kjj l s).2=(j:Int)
 |[],s,h=>by simp[kjj]at h
 |k::l,s,h=>by
  rw[kjj]at h |-;by_cases h1:0<=zx (kjp k) s
  ·rw[lJ h1];obtain⟨hi,e⟩:=kwu h1;grind [kjp]
  ·rw[Xy h1]at h |-;by_cases a:(kjj l s).1<0
   ·simp_all
   ·rw[Xy a];obtain⟨k',f,j,b,c,d⟩:=pqt (by omega:0<=(kjj l s).1);grind
theorem xzv:∀(l:List PKind)(s:List UInt8),(kjj l s).1<0->(kjj l s).2<0
 |[],s,_=>by simp[kjj]
 |k::l,s,h=>by grind [kjj]
theorem vyl(h:Right t)(e:(zl (qm (ql t)) s).V=4):∃hi:(kjw (kzg (ql t)) s).xx<t.z.length,zx (zf t) s=(kjw (kzg (ql t)) s).xx/\(zl (qm (ql t)) s).var=jw t.z[(kjw (kzg (ql t)) s).xx]:=by
 obtain⟨f,g⟩:=qwo h.xt s;have a:=f.1 e;obtain⟨hi,ev⟩:=g a;obtain⟨j,k⟩:=kwu a;have b:(t.z[(zx (zf t) s).toNat]).y.x.toList=s:=by grind [zf]
 have hn:zx (zf t) s=((zx (zf t) s).toNat:Nat):=aj;generalize (zx (zf t) s).toNat=i at hi ev b hn;have d:i<(t.z.map jw).length:=by simp_all
 have c:((t.z.map jw)[i].y,(⟨true,0+i⟩:Mean))∈qx4 (ql t):=jN<|zk2 (t.z.map jw) 0 i d;have l:=qyi h.xt c;grind [jw]
theorem pw8(h:Right t)(g:kz5 (ssz (ql t)) τ):RSame t (qm (ql t)) (kzg (ql t)) (ssz (ql t)) (tuV t τ) τ:=by
 refine⟨g,λs a=>?_,λs a=>?_⟩
 ·obtain⟨k,f,j,e,b,c⟩:=pqt<|(jjy h.xt s).1.1 a;have d:(k.i[j],(⟨false,0+j⟩:Mean))∈qx4 (ql t):=jT<|rM.2 ⟨k,f,jy7 k.i 0 j e⟩;have l:=qyi h.xt d;simp_all
 ·obtain⟨hi,b,c⟩:=vyl h a;refine⟨xzv _ _ ?_,b,?_⟩
  ·apply Qp;intro i;have:=(jjy h.xt s).1.2 aj;omega
  ·rw[kxc hi,c]
theorem vyt(h:Right t)(hv:vmk t.j t.p (t.z.map jw) 0=some (us,z))(b:k<t.z.length):∃u,us[k]?=some u/\VSame t t.z[k] u (kqm (qm (ql t)) (jw t.z[k]).si):=by obtain⟨u,sz,h1,a⟩:=jw4 _ _ _ _ hv k (by simp_all);grind [vqv]
theorem xxg(h:Right t)(hv:vmk t.j t.p (t.z.map jw) 0=some (us,z)):pkj t (qm (ql t)) us (kzg (ql t)):=by intro s c;obtain⟨hi,_,b⟩:=vyl h c;obtain⟨u,d,a⟩:=vyt h hv hi;rw[b];exact⟨_,u,wW hi,d,a.top2,a.topN⟩
theorem xxu(h:Right t)(hv:vmk t.j t.p (t.z.map jw) 0=some (us,z))(d:VsOk (ql t) (t.z.map jw) 0 us z):xvn t us (tuV t idτ):=by refine⟨by rw[d.T,Ql],λk u pv g f=>?_⟩;obtain⟨c,rfl⟩:=rY.1 f;obtain⟨u',a,b⟩:=vyt h hv c;obtain⟨l,u4,e⟩:=d.v k (by simp_all);rw[g]at a u4;injection a with a;injection u4 with u4;subst a;subst u4;have j:=e.R;rw[kxc c];refine⟨b.g,b.one,aj,λx i=>(e.txt x i).1,λn hn=>?_,pqk⟩;show zk1 t _ (ftT idτ _ _)=_;rw[pj3];exact b.txt n hn
theorem vj3:∀l:List PVar,(∀v∈l,∃n,qxz t v n)->∃S,kkb t l S
 |[],_=>⟨[],rfl⟩
 |v::l,h=>by obtain⟨n,hn⟩:=h v<|rZ ..;obtain⟨S,a⟩:=vj3 l (λx b=>h x<|jS b);exact⟨_,n,S,hn,rfl,a⟩
theorem pqq(h:Right t)(hv:vmk t.j t.p (t.z.map jw) 0=some (us,z))(e:VsOk (ql t) (t.z.map jw) 0 us z):∃S,kkb t t.z S/\RSt us (tuV t idτ) S (List.replicate z 0):=by
 obtain⟨S,d⟩:=vj3 (t:=t) t.z λv g=>by obtain⟨k,a,rfl⟩:=wG g;obtain⟨u,_,c⟩:=vyt h hv a;exact⟨_,c.cnt⟩
 refine⟨S,d,by rw[d.T,e.T,Ql],λk u f=>?_⟩;have a:k<t.z.length:=by have h1:=(rY.1 f).1;have l:=e.T;simp_all
 obtain⟨u',b,c⟩:=vyt h hv a;rw[f]at b;injection b with b;subst b;obtain⟨n,n1,n2⟩:=d.get k a;have:=c.uniq n n1;subst this;have m:=e.fit u<|wB f;refine⟨_,n2,Qh,λj i=>⟨0,by grind,?_⟩⟩;rw[kxc a];show(List.replicate _ _)[plX idτ _ _ j]?=some (ftT idτ _ 0);rw[pqk,pj3,List.getElem?_replicate,lJ i,c.zero]
theorem xko(h:(qq4 y).1=0):RefOk (uz (jv y).1).1:=by grind [qq4,pw7,kyh]
theorem xwz(h:Right t)(a:RefOk t):PlOk t:=by
 obtain⟨L,g,f⟩:=h.M;have d:=kxk f g;refine⟨a.ok,a.fit,a.tops,a.l,a.q,λr b=>⟨h.bnd.pars r b,λp i=>?_,(d.nm _<|kxv b (rZ ..)).2⟩,λx j=>?_⟩
 ·obtain⟨n,_,e,_⟩:=jwp h<|h.xt.psets r b p i;grind
 ·obtain⟨_,s,c⟩:=qjq h j;obtain⟨k,_,_,_,l⟩:=a.pars _ c;obtain⟨m,_,q,_⟩:=a.gd _ c;exact⟨q,l,m,k,aj⟩
theorem jy9(hR:Right (uz (jv y).1).1)(c:qx5 y=some a):∃us z,vmk (uz (jv y).1).1.j (uz (jv y).1).1.p ((uz (jv y).1).1.z.map jw) 0=some (us,z)/\VsOk (ql (uz (jv y).1).1) ((uz (jv y).1).1.z.map jw) 0 us z/\a.z=us/\a.size=z/\a.C=kzg (ql (uz (jv y).1).1)/\a.X=(kq4 (uz (jv y).1).1 (uz (jv y).1).1.l).map zwm/\a.q=(kq4 (uz (jv y).1).1 (uz (jv y).1).1.q).map pzr:=by
 unfold qx5 at c;generalize (uz (jv y).1).1=t at hR c;obtain⟨L,i,h⟩:=hR.M;have j:=kxk h i;obtain⟨us,z,f,g⟩:=jw3 hR t.z (λ_ hv=>hv) 0;have k:(t.z.map jw).length<=4:=hR.bnd.z;have p:z<=12:=by have:=g.R;omega
 obtain⟨e,k1,k2⟩:=pyj hR j f aj;refine⟨us,z,f,g,?_⟩;split at c
 ·obtain⟨b,hb,c⟩:=wu.1 c;split at c
  ·injection c with c;subst c;unfold jy5 at hb;have k1:qxb (ql t).p []=some e:=k1;have k2:qjh (ql t).j (ql t).p (ql t).z 0 e [] 0=some (kzg<|ql t,us,z):=k2;rw[k1]at hb;simp only[rQ]at hb;rw[k2]at hb;simp only[rQ]at hb;obtain⟨S,s1,hb⟩:=wu.1 hb;obtain⟨N,n1,hb⟩:=wX.1 hb;have l:=vj2 (t:=t) _ _ _ (λr d=>pym hR<|jT d) s1;have m:=jkr (t:=t) _ _ _ (λr d=>pym hR<|jN d) n1;grind
  simp_all
 simp_all
end
def kwc(f:Fnd):Prop:=(f.map λy=>y.1).Nodup
theorem xx2(h:kwc f)(k:List Int)(x:SWay):kwc (qzc f k x):=by grind [qzc,kwc]
theorem xx3(f:Fnd)(k:List Int)(x:SWay):f.length<=(qzc f k x).length:=by unfold qzc;grind
theorem jvc{d8:Fnd×List Int}(h:qx9 a ts x f c=some d8):f.length<=d8.1.length/\(kwc f->kwc d8.1):=by
 unfold qx9 at h;split at h
 ·obtain⟨r,_,h⟩:=wu.1 h;grind [xx3,xx2]
 simp_all
theorem kwq:∀(l:List MStep)(f:Fnd)(c:List Int)(q:Fnd×List Int×Bool),kzc a ts most k st l f c=some q->f.length<=q.1.length/\(kwc f->kwc q.1)/\(q.2.2=true->most<q.1.length)
 |[],f,c,q,h=>by grind [kzc]
 |s::l,f,c,q,h=>by
  rw[kzc]at h;obtain⟨r,_,h⟩:=wu.1 h;split at h
  ·obtain⟨p,b,h⟩:=wu.1 h;obtain⟨d,e⟩:=jvc b;split at h
   ·grind
   ·obtain⟨i1,i2,i3⟩:=kwq l _ _ q h;grind
  ·exact kwq l _ _ q h
theorem zjk{a:Mach}{ts:List Turn}{n m k:Nat}{st:List Int}:∀(l:List MStep)(f:Fnd)(c:List Int)(g:Fnd)(d:List Int),kzc a ts n k st l f c=some (g,d,false) ->
  (g.length<=m->kzc a ts m k st l f c=some (g,d,false))/\(m<g.length->f.length<=m->∃g' d',kzc a ts m k st l f c=some (g',d',true)/\m<g'.length/\g'.length<=g.length)
 |[],f,c,g,d,h=>by
  grind [kzc]
 |s::l,f,c,g,d,h=>by
  rw[kzc]at h;obtain⟨r,e,h⟩:=wu.1 h;rw[kzc,e];simp only[rQ];split at h
  ·rename_i h1;rw[lJ h1];obtain⟨p,b,h⟩:=wu.1 h;obtain⟨i,j⟩:=jvc b;rw[b];simp only[rQ];split at h
   ·simp_all
   ·obtain⟨i1,i2,_⟩:=kwq l _ _ _ h;obtain⟨q,j2⟩:=zjk (m:=m) l _ _ _ _ h;grind
  ·rename_i h1;rw[Xy h1];exact zjk l _ _ _ _ h
theorem kkh:∀(l:List SWay)(at_:Nat)(f:Fnd)(c:List Int)(q:Fnd×List Int),kjh a ts most l at_ f c=some q->f.length<=q.1.length/\(kwc f->kwc q.1)
 |[],at_,f,c,q,h=>by grind [kjh]
 |x::l,at_,f,c,q,h=>by
  rw[kjh]at h;split at h
  ·obtain⟨p,b,h⟩:=wu.1 h;obtain⟨d,e,_⟩:=kwq _ _ _ _ b;split at h
   ·grind
   ·obtain⟨i1,i2⟩:=kkh l _ _ _ q h;grind
  simp_all
theorem jq5{a:Mach}{ts:List Turn}{n m:Nat}:∀(l:List SWay)(at_:Nat)(f:Fnd)(c:List Int)(q:Fnd×List Int),kjh a ts n l at_ f c=some q->q.1.length<=n ->
  (q.1.length<=m->kjh a ts m l at_ f c=some q)/\(m<q.1.length->f.length<=m->∃q',kjh a ts m l at_ f c=some q'/\m<q'.1.length/\q'.1.length<=q.1.length)
 |[],at_,f,c,q,h,_=>by
  grind [kjh]
 |x::l,at_,f,c,q,h,hn=>by
  rw[kjh]at h;rw[kjh];split at h
  ·rename_i g;rw[lJ g];obtain⟨p,b,h⟩:=wu.1 h;obtain⟨j,k,s⟩:=p;obtain⟨_,_,e⟩:=kwq _ _ _ _ b;simp only at h e;split at h
   ·grind
   ·rename_i d;rw[Bool.not_eq_true]at d;subst d;obtain⟨i1,_⟩:=kkh l _ _ _ q h;obtain⟨i,j2⟩:=zjk (m:=m) _ _ _ _ _ b;obtain⟨k1,k2⟩:=jq5 (m:=m) l _ _ _ q h hn;grind
  simp_all
theorem zx3[BEq α][LawfulBEq α]:∀(l s:List α),l.Nodup->(∀x∈l,x∈s)->l.length<=s.length
 |[],_,_,_=>jR
 |x::l,s,h,hs=>by
  rw[QM]at h;have h1:=zx3 l (s.erase x) h.2 (λy a=>by grind)
  grind
theorem jvq(f:Fnd):(kv5 f).length=f.length:=by grind [kv5,qyh]
structure SInv (s:SSt):Prop where
 T:s.m.length=s.Z.length
 nd:kwc s.P
theorem kyo(s:SSt):(jd s).m.length=s.m.length+(newF s.Z s.P).length:=by show(s.m++(kv5<|newF s.Z s.P).map (kv4<|newF s.Z s.P)).length=_;grind [jvq]
theorem zkf(s:SSt):(jd s).Z.length=s.Z.length+(newF s.Z s.P).length:=by show(s.Z++kv5 (newF s.Z s.P)).length=_;rw[rD,jvq]
theorem zxz(h:SInv d9)(a:kwc f):SInv ⟨(jd d9).m,(jd d9).Z,f,c⟩:=
 ⟨by show(jd d9).m.length=(jd d9).Z.length;rw[kyo,zkf,h.T],a⟩
theorem vxp(p:α->Bool):∀l:List α,l.length=(l.filter p).length+(l.filter λx=>!p x).length:=by intro a;induction a<;>grind
theorem jyv(h:SInv d9):d9.P.length<=(jd d9).m.length:=by
 rw[kyo,h.T];have h1:=vxp (λy:List Int×SWay=>d9.Z.any λk=>k==y.1) d9.P;have a:(d9.P.filter λy=>d9.Z.any λk=>k==y.1).length<=d9.Z.length:=by
  have:=zx3 ((d9.P.filter λy=>d9.Z.any λk=>k==y.1).map λy=>y.1) d9.Z (((JM (p:=λy:List Int×SWay=>d9.Z.any λk=>k==y.1) (l:=d9.P)).map _).nodup h.nd) (λx b=>by simp_all)
  simp_all
 unfold newF;omega
theorem kkf{a:SRep}(h:qxm d9 k e=some a):a.xr=d9.m.length/\a.err=0/\a.end_=e:=by unfold qxm at h;obtain⟨l,_,rfl⟩:=wX.1 h;simp
theorem qyr:∀(fuel:Nat)(s:SSt)(r:SRep),kjk a ts n fuel s=some r->r.err=0->(jd s).m.length<=r.xr/\r.xr<=n
 |0,s,r,h,_=>by rw[kjk]at h;cases h
 |k+1,s,r,h,he=>by
  rw[kjk]at h;split at h
  ·injection h with h;subst h;cases he
  ·rename_i hn;split at h
   ·grind [kkf]
   ·obtain⟨x,_,h⟩:=wu.1 h;split at h
    ·obtain⟨q,b,h⟩:=wu.1 h;have:=qyr k _ r h he;grind [kyo]
    grind [kkf]
theorem jqw{a:Mach}{ts:List Turn}{n m:Nat}:∀(fuel:Nat)(s:SSt)(r:SRep),SInv s->kjk a ts n fuel s=some r->r.err=0->(r.xr<=m->kjk a ts m fuel s=some r)/\(m<r.xr->kjk a ts m fuel s=some (qq3 9))
 |0,s,r,_,h,_=>by rw[kjk]at h;cases h
 |k+1,s,r,hi,h,he=>by
  have w:=qyr _ _ _ h he;rw[kjk]at h;rw[kjk];rw[Xy aj]at h;by_cases u:m<(jd s).m.length
  ·grind
  ·rw[Xy u];split at h
   ·grind [kkf]
   ·rename_i h1;rw[Xy h1];obtain⟨x,v,h⟩:=wu.1 h;rw[v];simp only[rQ];split at h
    ·rename_i t;rw[lJ t];obtain⟨q,i,h⟩:=wu.1 h;have g:=(kkh _ _ _ _ _ i).2 lq;have b:=zxz hi (f:=q.1) (c:=q.2) g;have l:=jyv b;have B:=qyr _ _ _ h he;simp only at l;obtain⟨c1,c2⟩:=jq5 (m:=m) _ _ _ _ _ i aj;obtain⟨C,j2⟩:=jqw (m:=m) k _ r b h he;by_cases y:q.1.length<=m
     ·simp_all
     ·refine⟨λ_=>aj,λ_=>?_⟩;obtain⟨j,e,z,A⟩:=c2 aj ay;rw[e];have d:=(kkh _ _ _ _ _ e).2 lq;have p:=jyv<|zxz hi (f:=j.1) (c:=j.2) d;simp only at p;cases k with
      |zero=>rw[kjk]at h;cases h
      |succ k=>
       grind [kjk]
    grind [kkf]
section
def ky5(a:Mach)(c:List Int):Prop:=c.length=a.size/\kxl c=true
def Tot(a:Mach)(ts:List Turn):Prop:=∀st c,yg a.z a.size st->ky5 a c->∃r,kvk a.z st ts st c=some r/\kxl r.1=true/\ky5 a r.2
def vkv(a:Mach)(ways:List SWay)(x:SWay):Prop:=yg a.z a.size x.U/\∃y,ways[x.J]?=some y/\∃s∈a.X,s.x=x.E/\zkd a y.U s=some (x.U,1)
def FOk(a:Mach)(ways:List SWay)(f:Fnd):Prop:=∀y∈f,vkv a ways y.2
section
variable {tab:Tab} {kz sz:List UInt8->Nat} {a:Mach} {ts:List Turn}
theorem find_ok(i:0<a.size/\a.size<=1000)(e:Tot a ts)(b:yg a.z a.size x.U)(f:Fnd)(d:ky5 a c):∃k c',qx9 a ts x f c=some (qzc f k x,c')/\ky5 a c'/\kxl k=true:=by obtain⟨r,h1,g,h⟩:=e _ c b d;unfold qx9;rw[lJ ⟨by rw[b.T];omega,by rw[b.T,d.1],by rw[b.T];omega⟩,h1];grind
theorem vkx{e5:List Int×SWay}(h:e5∈qzc f c x):e5∈f\/e5=(c,x):=by grind [qzc]
theorem xx1(h:FOk a ways f){k:List Int}(c:vkv a ways x):FOk a ways (qzc f k x):=λy b=>by
 obtain b|rfl:=vkx b
 ·exact h y b
 omega
theorem zkk(g:MachGood tab kz sz a)(m:0<a.size/\a.size<=1000)(i:Tot a ts){b:SWay}(j:ways[z]?=some b)(h:yg a.z a.size b.U):∀(l:List MStep),(∀s∈l,s∈a.X)->∀(f:Fnd)(c:List Int),FOk a ways f->ky5 a c->∃q,kzc a ts most z b.U l f c=some q/\FOk a ways q.1/\ky5 a q.2.1
 |[],_,f,c,hf,hc=>⟨_,rfl,hf,hc⟩
 |s::l,hl,f,c,hf,hc=>by
  obtain⟨r,y,_,A⟩:=out_ok g h<|hl s (rZ ..);rw[kzc,show kwi a.z a.C s.u s.xy b.U s.guard s.block=some r from y];simp only[rQ];have d:∀x∈l,x∈a.X:=λx u=>hl x<|jS u
  by_cases h1:(r.2==1)=true
  ·rw[lJ h1];have t:r.2=1:=by simp_all
   have e:=A t;obtain⟨k,B,v,w,_⟩:=find_ok m i (x:=⟨r.1,z,s.x⟩) e f hc;rw[v];simp only[rQ];have p:=xx1 (k:=k) hf (x:=⟨r.1,z,s.x⟩) ⟨e,b,j,s,hl s<|rZ ..,rfl,by grind⟩;split
   ·simp_all
   ·exact zkk g m i j h l d _ _ p w
  ·rw[Xy h1];exact zkk g m i j h l d f c hf hc
theorem zkv(b:MachGood tab kz sz a)(m:0<a.size/\a.size<=1000)(g:Tot a ts)(i:∀x∈ways,yg a.z a.size x.U):∀(l:List SWay)(at_:Nat),l=ways.drop at_->∀(f:Fnd)(c:List Int),FOk a ways f->ky5 a c->∃q,kjh a ts most l at_ f c=some q/\FOk a ways q.1/\ky5 a q.2
 |[],at_,_,f,c,hf,hc=>⟨_,rfl,hf,hc⟩
 |x::l,at_,e,f,c,hf,hc=>by
  have j:ways[at_]?=some x:=by grind [List.getElem?_cons_zero]
  have k:x∈ways:=wB j;have d:=i x k;have p:l=ways.drop (at_+1):=by have:=congrArg (List.drop 1) e;grind [List.drop_drop]
  obtain⟨q,s,t,u⟩:=zkk (most:=most) b m g j d a.X (λ_ h=>h) f c hf hc;rw[kjh,lJ (by rw[d.T];omega),s];simp only[rQ];split
  ·simp_all
  ·exact zkv b m g i l _ p _ _ t u
def Calm(a:Mach)(x:SWay):Prop:=∃v,lookO a x.U=some v/\endOf v=0
theorem jyc(e:MachGood tab kz sz a)(i:a.size<=1000):∀(l:List SWay)(at_:Nat),(∀x∈l,yg a.z a.size x.U)->∃x,zwz a l at_=some x/\((x.2=0/\∀y∈l,Calm a y)\/(x.2≠0/\∃j y v,l[j]?=some y/\x.1=at_+j/\lookO a y.U=some v/\endOf v=x.2))
 |[],at_,_=>⟨_,rfl,.inl ⟨rfl,λy b=>by cases b⟩⟩
 |x::l,at_,h=>by
  have f:=h x<|rZ ..;obtain⟨v,g,_⟩:=look_ok e f;rw[zwz,lJ (by rw[f.T];omega),g];simp only[rQ];by_cases d:(endOf v==0)=true
  ·rw[lJ d];obtain⟨z,p,c⟩:=jyc e i l (at_+1) (λy b=>h y<|jS b);refine⟨z,p,?_⟩;obtain⟨c,s⟩|⟨c,j,y,u,q,j2,k,m⟩:=c
   ·refine .inl ⟨c,λy b=>?_⟩;obtain rfl|b:=tZ.1 b
    ·exact⟨v,g,by simp_all⟩
    simp_all
   ·exact .inr ⟨c,j+1,y,u,by simp_all,aj,k,m⟩
  ·rw[Xy d];grind
structure WOk (a:Mach)(ways:List SWay):Prop where
 f:∃x,ways[0]?=some x/\x.U=List.replicate a.size 0
 ok:∀x∈ways,yg a.z a.size x.U
 by_:∀i x,ways[i+1]?=some x->x.J<=i/\vkv a ways x
theorem xqu{st:List Int}:∀(l:List MStep),(l.map (·.x.toList)).Nodup->∀s∈l,∀r,zkd a st s=some r->qw3 a.z a.C st s.x.toList l=some (r.1,r.2==1)
 |x::l,hn,s,b,r,hr=>by
  rw[Qm,QM]at hn;obtain rfl|b:=tZ.1 b
  ·rw[qw3,lJ ay,show kwi a.z a.C s.u s.xy st s.guard s.block=some r from hr];rfl
  ·have c:(x.x.toList==s.x.toList)=false:=by grind
   rw[qw3,c,Xy ay];exact xqu l hn.2 s b r hr
theorem vkn(c:MachGood tab kz sz a)(b:WOk a ways):∀(B k:Nat),k<B->∀z,ways[k]?=some z->∃p:List ByteArray,(∀n acc,k<=n->zk7 ways n k acc=some (acc++p))/\qk2 a p.reverse (List.replicate a.size 0)=some z.U/\(k=0->p=[])/\∀j,j<p.length->∃i y,i<k/\i<=z.J/\ways[i]?=some y/\qk2 a (p.reverse.take j) (List.replicate a.size 0)=some y.U
 |0,k,hk,_,_=>aj
 |B+1,0,hk,z,hz=>by
  obtain⟨x,x1,x2⟩:=b.f;grind [zk7,List.reverse_nil,qk2]
 |B+1,k+1,hk,z,hz=>by
  obtain⟨h1,u,y,m,s,d,f,g⟩:=b.by_ k z hz;obtain⟨p,v,q,w,A⟩:=vkn c b B z.J aj y m;have l:qk2 a (p.reverse++[z.E]) (List.replicate a.size 0)=some z.U:=by rw[vju a z.E p.reverse _ _ q,<-f,xqu a.X c.nodup s d _ g];rfl
  refine⟨z.E::p,λn acc hn=>?_,?_,(λe=>mZ),λj h=>?_⟩
  ·cases n with
   |zero=>omega
   |succ n=>
    grind [zk7]
  ·simp_all
  ·rw[List.reverse_cons];rw[Qb]at h;by_cases t:j<p.length
   ·grind
   grind
structure RepOk (a:Mach)(r:SRep):Prop where
 safe:r.end_=0->r.xq=[]
 s:r.end_≠0->∃st v,qk2 a r.xq (List.replicate a.size 0)=some st/\lookO a st=some v/\endOf v=r.end_/\∀j,j<r.xq.length->∃st' v',qk2 a (r.xq.take j) (List.replicate a.size 0)=some st'/\lookO a st'=some v'/\endOf v'=0
theorem px3:∀(f:Fnd)(k:List Int),k∈f.map (·.1)->∃y∈f,kv4 f k=y.2:=by intro a;induction a<;>grind [kv4]
theorem vx5(h:(jd d9).m[i]?=some x)(hi:d9.m.length<=i):∃y∈d9.P,x=y.2:=by have e:(jd d9).m=d9.m++(kv5<|newF d9.Z d9.P).map (kv4<|newF d9.Z d9.P):=rfl;rw[e,Ji hi]at h;obtain⟨k,b,rfl⟩:=tY.1<|wB h;have a:=(kz7 _).mem_iff.1 b;obtain⟨y,y1,y2⟩:=px3 _ _ a;exact⟨y,(Ju.1 y1).1,y2⟩
structure PInv (a:Mach)(s:SSt):Prop where
 inv:SInv s
 m:WOk a (jd s).m
 calm:∀i x,i<s.m.length->(jd s).m[i]?=some x->Calm a x
 new:∀i x,s.m.length<=i+1->(jd s).m[i+1]?=some x->x.J<s.m.length
 cur:ky5 a s.cur
theorem keep_next(h:PInv a d9)(hn:kwc f)(l:FOk a (jd d9).m f)(q:ky5 a c)(j:∀y∈(jd d9).m.drop d9.m.length,Calm a y)(m:∀y∈f,y.2.J<(jd d9).m.length):PInv a ⟨(jd d9).m,(jd d9).Z,f,c⟩:=by
 have e:∀i,i<(jd d9).m.length->(jd ⟨(jd d9).m,(jd d9).Z,f,c⟩).m[i]?=(jd d9).m[i]?:=λi hi=>by grind [jd]
 have k:∀x,vkv a (jd d9).m x->vkv a (jd ⟨(jd d9).m,(jd d9).Z,f,c⟩).m x:=λx b=>by obtain⟨h1,y,u,p⟩:=b;exact⟨h1,y,by grind,p⟩
 have g:∀i x,(jd d9).m.length<=i->(jd ⟨(jd d9).m,(jd d9).Z,f,c⟩).m[i]?=some x->∃y∈f,x=y.2:=λi x hi b=>vx5 b hi
 refine⟨zxz h.inv hn,⟨?_,λx b=>?_,λi x b=>?_⟩,λi x hi b=>?_,λi x hi b=>?_,q⟩
 ·obtain⟨x,x1,x2⟩:=h.m.f;grind
 ·obtain⟨i,hi,rfl⟩:=wG b;by_cases d:i<(jd d9).m.length
  ·have:=e i d;rw[wW hi]at this;exact h.m.ok _<|wB this.symm
  ·obtain⟨y,y1,y2⟩:=g i _ aj<|wW hi;rw[y2];exact(l y y1).1
 ·by_cases d:i+1<(jd d9).m.length
  ·rw[e _ d]at b;obtain⟨s,t⟩:=h.m.by_ i x b;simp_all
  ·obtain⟨y,y1,rfl⟩:=g _ _ aj b;have:=m y y1;exact⟨aj,k _<|l y y1⟩
 ·simp only at hi;rw[e _ hi]at b;by_cases d:i<d9.m.length
  ·exact h.calm i x d b
  ·refine j x (wB (i:=i-d9.m.length) ?_);simp_all
 grind
theorem jvm(m:MachGood tab kz sz a)(h:PInv a d9)(d:(jd d9).m[k]?=some x)(b:k=0\/d9.m.length<=k)(l:(k=0/\e=0)\/(e≠0/\∃v,lookO a x.U=some v/\endOf v=e)):∃r,qxm (jd d9) k e=some r/\RepOk a r:=by
 obtain⟨p,z,q,A,s⟩:=vkn m h.m (k+1) k aj x d;refine⟨⟨0,e,p.reverse,(jd d9).m.length⟩,?_,⟨λg=>?_,λg=>?_⟩⟩
 ·grind [qxm]
 ·simp_all
 ·obtain⟨_,rfl⟩|⟨_,v,t,w⟩:=l
  ·simp_all
  ·refine⟨x.U,v,q,t,w,λj c=>?_⟩;rw[Zb]at c;obtain⟨i,y,i1,i2,i3,i4⟩:=s j c;have f:i<d9.m.length:=by
    obtain rfl|b:=b
    ·omega
    ·cases k with
     |zero=>omega
     |succ k=>have:=h.new k x b d;omega
   obtain⟨u,B,C⟩:=h.calm i y f i3;simp_all
theorem jk4(b:MachGood tab kz sz a)(f:0<a.size/\a.size<=1000)(k:Tot a ts):∀(fuel:Nat)(s:SSt),PInv a s->most+2<=fuel+s.m.length->1<=fuel->∃r,kjk a ts most fuel s=some r/\(r=qq3 9\/(r.err=0/\1<=r.xr/\RepOk a r))
 |0,s,_,_,h=>aj
 |n+1,s,h,hfu,_=>by
  rw[kjk];obtain⟨x0,f1,f2⟩:=h.m.f;by_cases t:most<(jd s).m.length
  ·simp_all
  ·rw[Xy t];by_cases g:((jd s).m.length==s.m.length)=true
   ·rw[lJ g];obtain⟨r,A,B⟩:=jvm b h f1 (.inl rfl) (e:=0)<|.inl ⟨rfl,rfl⟩;grind [kkf]
   ·rw[Xy g];have C:s.m.length<(jd s).m.length:=by grind [kyo]
    obtain⟨x,x1,x2⟩:=jyc b f.2 ((jd s).m.drop s.m.length) s.m.length (λy c=>h.m.ok y<|Je c);rw[x1];simp only[rQ];obtain⟨x2,x3⟩|⟨x2,j,y,v,l,j2,u,w⟩:=x2
    ·rw[lJ (by simp_all)];obtain⟨q,m,p,z⟩:=zkv (most:=most) b f k h.m.ok _ s.m.length rfl [] (jd s).cur (λy c=>by cases c) h.cur;rw[m];simp only[rQ];have i:=(kkh _ _ _ _ _ m).2 lq;have d:=keep_next h i p z x3 (λy c=>(rY.1 (p y c).2.choose_spec.1).1);exact jk4 b f k n _ d (by grind) aj
    ·rw[Xy (by simp_all)];rw[J3]at l;rw[j2];obtain⟨r,A,B⟩:=jvm b h l (.inr aj) (e:=x.2)<|.inr ⟨x2,v,u,w⟩;grind [kkf]
end
end
section
def vkw(sets:List Int)(v:MVar):Prop:=(v.g=-1\/∃k:Nat,v.g=k/\sets[k]?=some (v.d:Int))/\(v.B=-1\/∃k n:Nat,v.B=k/\sets[k]?=some (n:Int)/\v.a.length<=n+1)
theorem qww:∀{l:List PSet}{s:List UInt8}{k:Nat},kkq l s=some k->∃x,l[k]?=some x/\x.y.x.toList=s
 |x::l,s,k,h=>by
  rw[kkq]at h;split at h
  ·grind
  ·obtain⟨j,a,rfl⟩:=wX.1 h;obtain⟨y,y1,y2⟩:=qww a;simp_all
theorem jqk(h:Right t):kkq t.j []=none:=by
 obtain⟨L,c,b⟩:=h.M;have a:=kxk b c;cases d:kkq t.j [] with
 |none=>rfl
 |some k=>
  obtain⟨x,x1,x2⟩:=qww d;have:=a.nm _<|jjj (wB x1);have h1:=this.1;grind [ByteArray.toList_eq,jz7]
theorem pvl(h:NamesFine t)(b:q∈t.j){e7:PKind}(a:e7∈t.p):q.y.x.toList≠e7.y.x.toList:=by intro e;have hn:=kyi h;rw[kye,Qw,Jw]at hn;refine hn.2.2 _ (Qx (f:=λq:Tok=>q.x.toList)<|rM.2 ⟨q,b,rZ ..⟩) _ (Qx (f:=λq:Tok=>q.x.toList)<|jT (rM.2 ⟨e7,a,rZ ..⟩)) e
theorem pq4(h:ss[k]?=some q):(kje ss)[k]?=some (mg q.size.x):=by grind [kje]
theorem xqt(h:Right t)(hv:d7∈t.z)(b:qw4 t.j t.p z (jw d7)=some u):vkw (kje t.j) u:=by
 obtain⟨L,p,w⟩:=h.M;obtain⟨h1,g⟩:=p.z d7 hv;unfold qw4 at b;obtain⟨c,A,b⟩:=wu.1 b;obtain⟨x,d,rfl⟩:=wX.1 b;have a:=jqk h;refine⟨?_,?_⟩
 ·show kji t.j d7.g.x.toList=-1\/∃k:Nat,kji t.j d7.g.x.toList=k/\(kje t.j)[k]?=some (c:Int);cases l:(jw d7).K
  ·refine .inl ?_;have f:(!(d7.g.t.toList==[]))=false:=l;obtain e|e:=h1
   ·rw[e];unfold kji;rw[show zh.x.toList=[] from dh,a]
   simp_all
  grind [kkx,pq4,kji,jw]
 ·show kji t.j (jw d7).si.y.x.toList=-1\/∃k n:Nat,kji t.j (jw d7).si.y.x.toList=k/\(kje t.j)[k]?=some (n:Int)/\x.length<=n+1;obtain⟨k1,k2,_⟩|⟨k1,k2,_,_⟩|⟨k1,_⟩:=g
  ·have e:(jw d7).si=⟨0,zh,zh⟩:=by unfold jw;simp_all
   rw[e];refine .inl ?_;unfold kji;rw[show zh.x.toList=[] from dh,a]
  ·have e:(jw d7).si=⟨1,d7.R,zh⟩:=by unfold jw;simp_all
   rw[e];refine .inl ?_;unfold kji;rw[show zh.x.toList=[] from dh,a]
  ·have e:(jw d7).si=⟨2,zh,d7.k⟩:=by unfold jw;simp_all
   rw[e]at d |-;have i:vqi t.j t.p ⟨2,zh,d7.k⟩=match kwe t.p d7.k.x.toList with|some k=>some (k.i.map (·.x))|none=>(qzt t.j d7.k.x.toList).map λm=>⟨#[45]⟩::kvx m:=rfl
   rw[i]at d;cases f:kwe t.p d7.k.x.toList with
   |some k=>
    refine .inl ?_;obtain⟨s,v⟩:=qju f;unfold kji;cases q:kkq t.j d7.k.x.toList with
    |none=>rfl
    |some j=>
     obtain⟨y,y1,y2⟩:=qww q;exact absurd (y2.trans v.symm)<|pvl h.xt (wB y1) s
   |none=>
    rw[f]at d;obtain⟨m,B,rfl⟩:=wX.1 d;grind [kkx,pq4,kx1,kji]
theorem vqk(h:Right t):∀(l:List PVar),(∀v∈l,v∈t.z)->∀(sz:Nat)(us:List MVar)(z:Nat),vmk t.j t.p (l.map jw) sz=some (us,z)->(∀u∈us,vkw (kje t.j) u)/\∀i,sz<=i->i<z->∃u∈us,u.f<=i/\i<u.f+u.d
 |[],_,sz,us,z,e=>by
  grind [vmk]
 |v::l,hl,sz,us,z,e=>by
  rw[Qm,vmk]at e;obtain⟨u,a,e⟩:=wu.1 e;obtain⟨r,g,e⟩:=wX.1 e;injection e with d f;subst d;subst f;obtain⟨i1,i2⟩:=vqk h l (λx b=>hl x<|jS b) _ r.1 r.2 g;have k:u.f=sz:=by unfold qw4 at a;obtain⟨c,j,a⟩:=wu.1 a;obtain⟨x,b,rfl⟩:=wX.1 a;rfl
  grind [xqt,List.mem_cons_self]
structure MachTurn (a:Mach):Prop where
 j:a.j.length<=2/\∀n∈a.j,n=2\/n=3
 z:∀v∈a.z,vkw a.j v
 all:∀i,i<a.size->∃u∈a.z,u.f<=i/\i<u.f+u.d
theorem jv1(h:(qq4 b8).1=0)(c:qx5 b8=some a):MachTurn a:=by
 have hR:=qk7 h;unfold qx5 at c;generalize (uz (jv b8).1).1=t at hR c;obtain⟨L,m,l⟩:=hR.M;have p:=kxk l m;obtain⟨us,z,g,s⟩:=jw3 hR t.z (λ_ hv=>hv) 0;have u:(t.z.map jw).length<=4:=hR.bnd.z;have v:z<=12:=by have:=s.R;omega
 obtain⟨f,k1,k2⟩:=pyj hR p g aj;split at c
 ·obtain⟨b,hb,c⟩:=wu.1 c;split at c
  ·injection c with c;subst c;unfold jy5 at hb;obtain⟨w,d,hb⟩:=wu.1 hb;obtain⟨x,e,hb⟩:=wu.1 hb;obtain⟨st,_,hb⟩:=wu.1 hb;obtain⟨nv,_,rfl⟩:=wX.1 hb;rw[show(ql t).p=t.p from rfl,k1]at d;injection d with d;subst d;rw[show qjh (ql t).j (ql t).p (ql t).z 0 f [] 0=qjh t.j t.p (t.z.map jw) 0 f [] 0 from rfl,k2]at e;injection e with e;subst e;obtain⟨j,k⟩:=vqk hR t.z (λ_ hv=>hv) 0 us z g;refine⟨⟨?_,λn hn=>?_⟩,j,λi hi=>k i jR hi⟩
   ·show(kje t.j).length<=2;unfold kje;rw[Ql];exact hR.bnd.j
   ·obtain⟨y,q,rfl⟩:=tY.1 (hn:n∈t.j.map (λb8=>mg b8.size.x));have:=hR.bnd.size y q;omega
  simp_all
 simp_all
def qxj(sets:List Int)(t:Turn):Prop:=∀(k:Nat)(n:Nat),sets[k]?=some (n:Int)->∃o,t[k]?=some o/\o.length=n/\n<=3/\∀x∈o,0<=x/\x<n
def pki(l:List Int):Bool:=match kkm l [[]] with
 |some ts=>ts.all λt=>(List.range l.length).all λk=>match t[k]?,l[k]? with
  |some o,some n=>decide ((o.length:Int)=n)&&(decide (n<=3)&&o.all λx=>decide (0<=x)&&decide (x<n))
  |_,_=>false
 |none=>false
theorem pke(h:pki c=true):∃ts,kkm c [[]]=some ts/\∀t∈ts,qxj c t:=by
 unfold pki at h;split at h
 ·rename_i ts a;refine⟨ts,a,λt d k n b=>?_⟩;grind
 simp_all
theorem pka(h:c.length<=2/\∀n∈c,n=2\/n=3):∃ts,kkm c [[]]=some ts/\∀t∈ts,qxj c t:=by
 obtain⟨h1,d⟩:=h;apply pke;match c,h1,d with
 |[],_,_=>decide +kernel
 |[a],_,d=>
  obtain rfl|rfl:=d a ay<;>decide +kernel
 |[a,b],_,d=>
  obtain rfl|rfl:=d a ay<;>obtain rfl|rfl:=d b ay<;>decide +kernel
 |_::_::_::_,h1,_=>simp_all
section
variable {tab:Tab} {kz sz:List UInt8->Nat} {a:Mach}
theorem pwy(hv:vkw sets u)(b:qxj sets T)(hi:i<u.d):∃p,kvz u T i=some p/\0<=p/\p<u.d:=by
 unfold kvz;obtain e|⟨k,e,a⟩:=hv.1
 ·simp_all
 ·obtain⟨o,o1,o2,o3,o4⟩:=b k u.d a;simp_all
theorem pkr(hv:vkw sets u)(c:qxj sets T)(d:0<=b)(h1:b<u.a.length)(f:u.a.length<=200):∃y,qv3 u T b=some y/\0<=y/\y<=255:=by
 unfold qv3;obtain e|⟨k,n,e,a,hn⟩:=hv.2
 ·grind
 ·by_cases g:b=0
  ·simp_all
  ·obtain⟨o,o1,o2,o3,o4⟩:=c k n a;have hb:((u.B==-1)||(b==0))=false:=by simp_all
   rw[hb,Xy ay,e,Xy aj,show(k:Int).toNat=k by omega,o1];grind
theorem pzh(h:kxl c=true)(h1:0<=b)(a:b<=255):kxl (c.set j b)=true:=by grind [kxl]
theorem vqm(d:MachTurn a)(b:MachGood tab kz sz a)(hv:u∈a.z)(e:qxj a.j T)(f:yg a.z a.size st):∀(l:List Nat),(∀i∈l,i<u.d)->∀c,ky5 a c->∃r,kw0 u T st l c=some r/\ky5 a r
 |[],_,c,hc=>⟨c,rfl,hc⟩
 |i::l,hl,c,hc=>by have hi:=hl i<|rZ ..;obtain⟨p,h,k,q⟩:=pwy (d.z u hv) e hi;obtain⟨x,x1,x2,x3⟩:=f.val u hv i hi;obtain⟨y,y1,y2,y3⟩:=pkr (d.z u hv) e x2 x3 (b.txt u hv).1;have m:=(b.fit u hv).1.1;rw[kw0,h];simp only[rQ];rw[x1];simp only[rQ];rw[y1];simp only[rQ];rw[lJ ⟨k,by rw[hc.1];omega⟩];exact vqm d b hv e f l (λj g=>hl j<|jS g) _ ⟨by rw[Jq];exact hc.1,pzh hc.2 y2 y3⟩
theorem jw9(d:MachTurn a)(b:MachGood tab kz sz a)(f:qxj a.j T)(e:yg a.z a.size st):∀(vs:List MVar),(∀v∈vs,v∈a.z)->∀c,ky5 a c->∃r,qqw T st vs c=some r/\ky5 a r
 |[],_,c,hc=>⟨c,rfl,hc⟩
 |v::vs,hl,c,hc=>by obtain⟨r,h,j⟩:=vqm d b (hl v<|rZ ..) f e (List.range v.d) (λi hi=>Qo.1 hi) c hc;rw[qqw,h];exact jw9 d b f e vs (λx g=>hl x<|jS g) r j
theorem vzf(d:MachTurn a)(b:MachGood tab kz sz a)(e:yg a.z a.size st):∀(ts:List Turn),(∀t∈ts,qxj a.j t)->∀lo c,kxl lo=true->ky5 a c->∃r,kvk a.z st ts lo c=some r/\kxl r.1=true/\ky5 a r.2
 |[],_,lo,c,hl,hc=>⟨_,rfl,hl,hc⟩
 |t::ts,ht,lo,c,hl,hc=>by obtain⟨r,i,f⟩:=jw9 d b (ht t<|rZ ..) e a.z (λ_ h=>h) c hc;rw[kvk,i];exact vzf d b e ts (λx g=>ht x<|jS g) _ r (by unfold jxx;split;exact f.2;exact hl) f
theorem jwx(e:MachTurn a)(d:MachGood tab kz sz a)(b:yg a.z a.size st):kxl st=true:=by
 unfold kxl;refine sJ.2 λx f=>?_
 obtain⟨i,hi,rfl⟩:=wG f;obtain⟨u,c,g,h⟩:=e.all i (by rw[<-b.T];exact hi);obtain⟨y,y1,y2,y3⟩:=b.val u c (i-u.f) aj;rw[show u.f+(i-u.f)=i by omega,wW hi]at y1;injection y1 with y1;have:=(d.txt u c).1;grind
theorem pv7(b:MachTurn a)(d:MachGood tab kz sz a):∃ts,kkm a.j [[]]=some ts/\Tot a ts:=by obtain⟨ts,h1,f⟩:=pka b.j;exact⟨ts,h1,λst c e g=>vzf b d e ts f st c (jwx b d e) g⟩
end
structure SrcOk (s:ByteArray)(a:Mach)(n:Nat)(r:SRep):Prop where
 src:kvn s n=some r
 how:r=qq3 9\/(r.err=0/\1<=r.xr/\r.xr<=n/\RepOk a r)
 few:r.err=0->∀m:Nat,1<=m->m<=500->(r.xr<=m->kvn s m=some r)/\(m<r.xr->kvn s m=some (qq3 9))
theorem pz9(h:(qq4 y).1=0)(A:qx5 y=some a)(hM:MachOf t a)(h1:1<=n)(z:n<=500):∃r,SrcOk y a n r:=by
 have b:=hM.M;have l:=jv1 h A;obtain⟨ts,H,q⟩:=pv7 l b;have s:0<a.size/\a.size<=1000:=by refine⟨?_,b.env.size⟩;have h1:=b.one;have z:=(b.fit _<|wZ h1).1;omega
 have j:ky5 a (List.replicate a.size 0):=⟨Qh,jwx l b hM.f⟩;obtain⟨k,c,f1,f2,f3⟩:=find_ok s q (x:=kzs a) hM.f [] j;have f:qzc [] k (kzs a)=[(k,kzs a)]:=rfl;rw[f]at f1;have C:∀m:Nat,1<=m->m<=500->kvn y m=kjk a ts m 502 ⟨[],[],[(k,kzs a)],c⟩:=λm D E=>by grind [kvn,jqy]
 have d:(jd ⟨[],[],[(k,kzs a)],c⟩).m=[kzs a]:=by simp[jd,newF,kv5,sortL,insL,kv4]
 have p:SInv ⟨[],[],[(k,kzs a)],c⟩:=⟨rfl,lq⟩;have B:PInv a ⟨[],[],[(k,kzs a)],c⟩:=by
  refine⟨p,?_,λi x hi=>by simp_all,λi x hi e=>?_,f2⟩
  ·rw[d];refine⟨⟨kzs a,rfl,rfl⟩,λx e=>?_,λi x e=>by simp_all⟩;rw[Qq]at e;rw[e];exact hM.f
  simp_all
 obtain⟨r,F,u⟩:=jk4 b s q (most:=n) 502 _ B aj aj;refine⟨r,by simp_all,?_,λG m D E=>?_⟩
 ·obtain u|⟨g,v,w⟩:=u
  ·simp_all
  ·exact .inr ⟨g,v,(qyr _ _ _ F g).2,w⟩
 grind [jqw]
end
section
abbrev Tau:=List UInt8->Int->Int
variable {ssz':List UInt8->Nat} {τ σ:Tau}
theorem kz5.inv(h:kz5 ssz' τ):∃σ,kz5 ssz' σ/\∀s (v:Int),0<=v->v<=(ssz' s:Int)->σ s (τ s v+1)=v-1/\τ s (σ s v+1)=v-1:=by
 have l:∀s (z:Int),0<z/\z<=(ssz' s:Int)->∃x:Int,0<x/\x<=(ssz' s:Int)/\τ s x+1=z:=by
  intro s z h1;apply Qp;intro hn;have A:=zx3 (z::(List.range<|ssz' s).map λi:Nat=>τ s ((i:Int)+1)+1) ((List.range<|ssz' s).map λi:Nat=>(i:Int)+1) (QM.2 ⟨λB=>?_,J6.2<|sQ.2 λi j hi p t e=>?_⟩)<|λx g=>?_
  ·grind
  ·grind
  ·rw[Zn,Zn]at e;rw[List.length_range]at hi p;have:=h.inj s ((i:Int)+1) ((j:Int)+1) aj aj aj aj aj;omega
  ·have key:∀y:Int,0<y->y<=(ssz' s:Int)->y∈(List.range<|ssz' s).map λi:Nat=>(i:Int)+1:=λy y1 y2=>tY.2 ⟨y.toNat-1,Qo.2 aj,aj⟩
   obtain rfl|g:=tZ.1 g
   ·simp_all
   ·obtain⟨i,hi,rfl⟩:=tY.1 g;have hi:=Qo.1 hi;have:=h.rng s ((i:Int)+1) aj aj;grind
 have key:∀s (z:Int),∃y:Int,(z=0->y=-1)/\(0<z->z<=(ssz' s:Int)->0<=y/\y<(ssz' s:Int)/\τ s (y+1)+1=z):=λs z=>by
  by_cases k:0<z/\z<=(ssz' s:Int)
  ·obtain⟨x,x1,x2,x3⟩:=l s z k;exact⟨x-1,λe=>aj,λ_ _=>⟨aj,aj,by simp_all⟩⟩
  ·exact⟨-1,λ_=>rfl,λa b=>absurd ⟨a,b⟩ k⟩
 refine⟨λs z=>Classical.choose<|key s z,⟨λs=>(Zu<|key s 0).1 rfl,λs x h1 w=>?_,λs x y a1 a2 b1 u e=>?_⟩,λs v q m=>⟨?_,?_⟩⟩
 ·grind
 ·grind
 ·have d:=Zu<|key s (τ s v+1);show Classical.choose (key s<|τ s v+1)=v-1;generalize Classical.choose (key s<|τ s v+1)=c at d;by_cases f:v=0
  ·subst f;rw[h.zero]at d;omega
  ·have h1:=h.rng s v aj m;obtain⟨c1,c2,c3⟩:=d.2 aj aj;have:=h.inj s (c+1) v aj aj q m aj;omega
 ·have d:=Zu<|key s v;show τ s (Classical.choose (key s v)+1)=v-1;generalize Classical.choose (key s v)=c at d;by_cases f:v=0
  ·rw[d.1 f,show(-1:Int)+1=0 by decide,h.zero];omega
  omega
theorem kz5.comp(h1:kz5 ssz' τ)(d:kz5 ssz' σ):kz5 ssz' λs v=>σ s (τ s v+1):=by
 refine⟨λs=>by show σ s (τ s 0+1)=-1;rw[h1.zero];exact d.zero s,λs x a b=>?_,λs x y a1 a2 b1 c e=>?_⟩
 ·have:=h1.rng s x a b;exact d.rng s _ aj aj
 ·have r:∀v:Int,0<=v->v<=(ssz' s:Int)->0<=τ s v+1/\τ s v+1<=(ssz' s:Int):=λv h g=>by
   by_cases f:v=0
   ·rw[f,h1.zero];omega
   ·have:=h1.rng s v aj g;omega
  have:=d.inj s _ _ (r x a1 a2).1 (r x a1 a2).2 (r y b1 c).1 (r y b1 c).2 e;exact h1.inj s x y a1 a2 b1 c aj
structure Sym (t:PTree)(a:Mach):Prop where
 right:Right t
 B:MachOf t a
 turn:MachTurn a
 T:a.z.length=t.z.length
 var:∀k (hk:k<t.z.length),∃u,a.z[k]?=some u/\UOk (ql t) u (jw t.z[k])
 C:a.C=kzg (ql t)
 X:a.X=(kq4 t t.l).map zwm
 q:a.q=(kq4 t t.q).map pzr
 R:pkj t (qm<|ql t) a.z a.C
 txt:xvn t a.z (tuV t idτ)
variable {t:PTree} {a:Mach} {x y z:List Int} {S:List (List Int)}
def StT(t:PTree)(a:Mach)(τ:Tau)(x y:List Int):Prop:=∀k u,a.z[k]?=some u->∀j,j<u.d->∃b c,x[u.f+j]?=some b/\y[u.f+(tuV t τ k).1 j]?=some c/\(tuV t idτ k).2 c=(tuV t τ k).2 b
theorem Sym.v(h:Sym t a)(c:a.z[k]?=some u):∃b:k<t.z.length,UOk (ql t) u (jw t.z[k]):=by
 have b:k<t.z.length:=by rw[<-h.T];grind
 obtain⟨u',d,e⟩:=h.var k b;simp_all
theorem Sym.both(h:Sym t a)(b:kz5 (ssz (ql t)) τ):Both t (qm (ql t)) a.z a.C (ksz (ql t)) (ssz (ql t)) a.size (tuV t τ) τ:=
 ⟨h.B.M.env,h.B.M.disj,by rw[h.C];exact pw8 h.right b,h.R⟩
theorem StT.refl(h:Sym t a)(e:yg a.z a.size x):StT t a idτ x x:=λk u c j d=>by obtain⟨f,_⟩:=h.v c;obtain⟨b,hb,_⟩:=e.val u (wB c) j d;simp_all [kxc,pqk]
theorem vwl(h:kz5 ssz' τ)(a:ty.b≠5)(e:ftT idτ ty b7=ftT τ ty b):(ty.b=4->b7=τ ty.y.toList b+1)/\(ty.b≠4->b7=b):=by grind [idτ,ftT]
theorem pq3{e8:Tab}{e9:SiT}:(kqm e8 e9).b≠5:=zzg e8 e9
theorem yg.range(h:Sym t a)(i:yg a.z a.size x)(c:a.z[k]?=some u)(g:j<u.d)(hb:x[u.f+j]?=some b)(p:k<t.z.length):(kqm (qm (ql t)) (jw t.z[k]).si).b=4->0<=b/\b<=ssz (ql t) (kqm (qm (ql t)) (jw t.z[k]).si).y.toList:=λd=>by obtain⟨_,f⟩:=h.v c;obtain⟨l,e,b1,m⟩:=i.val u (wB c) j g;rw[hb]at e;injection e with e;subst e;have:=f.set d;omega
theorem StT.symm(h:Sym t a)(w:kz5 (ssz (ql t)) τ)(C:yg a.z a.size x)(A:StT t a τ x y):∃σ,kz5 (ssz (ql t)) σ/\StT t a σ y x:=by
 obtain⟨σ,f,hi⟩:=w.inv;refine⟨σ,f,λk u p j s=>?_⟩;obtain⟨m,i⟩:=h.v p;have v:plX τ (jw t.z[k]).K (jw t.z[k]).g.x.toList (plX σ (jw t.z[k]).K (jw t.z[k]).g.x.toList j)=j:=by
  have l:=i.cnt;unfold plX;cases B:(jw t.z[k]).K
  ·rfl
  ·rw[B]at l;have l:u.d=ssz (ql t) (jw t.z[k]).g.x.toList:=l;have:=f.rng (jw t.z[k]).g.x.toList ((j:Int)+1) aj aj;grind
 obtain⟨b,c,q,d,g⟩:=A k u p _<|jqs f i.cnt s;rw[kxc m]at d g |-;rw[kxc m]at g |-;dsimp only at d;rw[v]at d;refine⟨c,b,d,q,?_⟩;obtain⟨f1,f2⟩:=vwl w (pq3) g;show ftT idτ _ b=ftT σ _ c;by_cases e:(kqm (qm<|ql t) (jw t.z[k]).si).b=4
 ·obtain⟨b1,z⟩:=C.range h p (jqs f i.cnt s) q m e;rw[f1 e,kvv e,kvv e,(hi _ b b1 z).1];rfl
 grind [ftT]
theorem StT.trans(h:Sym t a)(A:kz5 (ssz (ql t)) τ)(I:kz5 (ssz (ql t)) σ)(h1:StT t a τ x y)(E:StT t a σ y z):StT t a (λs v=>σ s (τ s v+1)) x z:=λk u i j q=>by
 obtain⟨f,p⟩:=h.v i;obtain⟨b,c,B,e,l⟩:=h1 k u i j q;rw[kxc f]at e l;rw[kxc f]at l;have w:=jqs A p.cnt q;obtain⟨G,d,C,D,m⟩:=E k u i _ w;have e:y[u.f+plX τ _ _ j]?=some c:=e;rw[C]at e;injection e with e;subst e;rw[kxc f]at D m |-;rw[kxc f]at m |-;refine⟨b,d,B,?_,?_⟩
 ·have H:plX (λs v=>σ s<|τ s v+1) (jw t.z[k]).K (jw t.z[k]).g.x.toList j=plX σ (jw t.z[k]).K (jw t.z[k]).g.x.toList (plX τ (jw t.z[k]).K (jw t.z[k]).g.x.toList j):=by
   have g:=p.cnt;unfold plX;cases F:(jw t.z[k]).K
   ·rfl
   ·rw[F]at g;have g:u.d=ssz (ql t) (jw t.z[k]).g.x.toList:=g;have:=A.rng (jw t.z[k]).g.x.toList ((j:Int)+1) aj aj;grind
  simp_all
 grind [vwl,ftT]
end
section
variable {t:PTree} {a:Mach} {τ:Tau} {x y:List Int} {S:List (List Int)}
def pkm(t:PTree)(a:Mach)(x:List Int):List (List Int):=(List.range a.z.length).map λk=>match a.z[k]? with|some u=>(List.range u.d).map λj=>(tuV t idτ k).2 (x.getD (u.f+j) 0)|none=>[]
theorem zyf(k j:Nat):(tuV t idτ k).1 j=j:=by
 unfold tuV;split
 ·exact pqk _
 ·rfl
theorem vyr(e:yg a.z a.size x):RSt a.z (tuV t idτ) (pkm t a x) x:=by
 refine⟨by simp[pkm],λk u c=>?_⟩;have f:=(rY.1 c).1;refine⟨(List.range u.d).map λj=>(tuV t idτ k).2<|x.getD (u.f+j) 0,?_,ay,λj d=>?_⟩
 ·grind [pkm]
 ·obtain⟨b,hb,_⟩:=e.val u (wB c) j d;grind [zyf]
theorem StT.back(h:Sym t a)(p:kz5 (ssz (ql t)) τ)(i:StT t a τ x y)(e:RSt a.z (tuV t idτ) S y):RSt a.z (tuV t τ) S x:=by
 refine⟨e.1,λk u d=>?_⟩;obtain⟨m,l⟩:=h.v d;obtain⟨w,h1,g,A⟩:=e.2 k u d;refine⟨w,h1,g,λj f=>?_⟩;obtain⟨b,c,s,v,z⟩:=i k u d j f;have q:(tuV t τ k).1 j<u.d:=by rw[kxc m];exact jqs p l.cnt f
 grind [zyf]
theorem StT.B(h:Sym t a)(B:kz5 (ssz (ql t)) τ)(h1:RSt a.z (tuV t τ) S x)(p:RSt a.z (tuV t idτ) S y):StT t a τ x y:=λk u e j q=>by
 obtain⟨A,z⟩:=h.v e;obtain⟨w,i,s,l⟩:=h1.2 k u e;obtain⟨w',d,v,m⟩:=p.2 k u e;rw[i]at d;injection d with d;subst d;have f:(tuV t τ k).1 j<u.d:=by grind
 obtain⟨b,b1,g⟩:=l j q;obtain⟨c,c1,c2⟩:=m _ f;rw[zyf,g]at c2;simp_all
theorem pj0(h:Right t)(x:kz5 (ssz (ql t)) τ)(v:∀r∈rs,r∈t.l++t.q)(w:d0∈kq4 t rs):(⟨d0.r,msT τ d0.r.u d0.ms⟩:RIn)∈kq4 t rs:=by
 obtain⟨r,h1,c,rfl⟩:=pyb w;refine rM.2 ⟨d0.r,h1,?_⟩;have k:∀p∈d0.r.u,szN t p.Q.x.toList=ssz (ql t) p.Q.x.toList:=λp e=>by obtain⟨n,_,_,A,B⟩:=jwp h<|h.xt.psets _ (v _ h1) p e;omega
 have e:d0.r.u.length<=2:=h.bnd.pars _<|v _ h1;have g:∀s (i:Nat),i<ssz (ql t) s->∃j:Nat,j<ssz (ql t) s/\τ s ((i:Int)+1)=j:=λs i hi=>by have:=x.rng s ((i:Int)+1) aj aj;exact⟨(τ s<|(i:Int)+1).toNat,aj,aj⟩
 unfold qx8 qx7 at c |-;obtain⟨i,hi,c⟩:=rM.1 c;obtain⟨j,a,c⟩:=tY.1 c;rw[<-c];have hi:=Qo.1 hi;have a:=Qo.1 a;unfold kwo at hi a;generalize d:d0.r.u=l at *;match l,e,d with
 |[],_,d=>exact rM.2 ⟨i,Qo.2 hi,tY.2 ⟨j,Qo.2 a,rfl⟩⟩
 |[p],_,d=>
  have hi:i<szN t p.Q.x.toList:=hi;rw[k p ay]at hi;obtain⟨b,u,f⟩:=g _ i hi;refine rM.2 ⟨b,Qo.2 ?_,tY.2 ⟨j,Qo.2 a,?_⟩⟩
  ·show b<szN t p.Q.x.toList;grind
  ·show(⟨d0.r,[(b:Int)]⟩:RIn)=⟨d0.r,[τ p.Q.x.toList ((i:Int)+1)]⟩;rw[f]
 |[p,q],_,d=>
  have hi:i<szN t p.Q.x.toList:=hi;have a:j<szN t q.Q.x.toList:=a;rw[k p ay]at hi;rw[k q ay]at a;obtain⟨b,u,f⟩:=g _ i hi;obtain⟨m,y,z⟩:=g _ j a;refine rM.2 ⟨b,Qo.2 ?_,tY.2 ⟨m,Qo.2 ?_,?_⟩⟩
  ·show b<szN t p.Q.x.toList;grind
  ·show m<szN t q.Q.x.toList;grind
  ·show(⟨d0.r,[(b:Int),(m:Int)]⟩:RIn)=⟨d0.r,[τ p.Q.x.toList ((i:Int)+1),τ q.Q.x.toList ((j:Int)+1)]⟩;simp_all
 |_::_::_::_,e,_=>grind
theorem jk0(h:Sym t a)(e:kz5 (ssz (ql t)) τ)(s:yg a.z a.size x)(d:yg a.z a.size y)(m:StT t a τ x y){f:MStep}(l:f∈a.X){b:List Int×Int}(c:zkd a x f=some b):∃s'∈a.X,∃r',zkd a y s'=some r'/\r'.2=b.2/\(b.2=1->StT t a τ b.1 r'.1):=by
 rw[h.X]at l;obtain⟨X,i,rfl⟩:=tY.1 l;have j:=pj0 h.right e (λb c=>jT c) i;have p:=(qjq h.right<|jT i).1;have k:=(qjq h.right<|jT j).1;have g:=vyr (t:=t) d;obtain⟨S',w,z,_⟩:=p.same (h.both e) s (m.back h e g) b c;have q:zwm ⟨X.r,msT τ X.r.u X.ms⟩∈a.X:=by rw[h.X];grind
 obtain⟨r',u,_,_⟩:=out_ok h.B.M d q;obtain⟨v,A,B,_⟩:=k.one (h.both<|zjz) d g r' u;grind [StT.B]
theorem xqz(h:Sym t a)(e:kz5 (ssz (ql t)) τ)(u:yg a.z a.size x)(d:yg a.z a.size y)(l:StT t a τ x y){g6:MNever}(j:g6∈a.q)(q:zwo a.z a.C g6.u g6.xy x g6.xp=some g7):∃s'∈a.q,zwo a.z a.C s'.u s'.xy y s'.xp=some g7:=by
 rw[h.q]at j;obtain⟨X,g,rfl⟩:=tY.1 j;have i:=pj0 h.right e (λr s=>jN s) g;have m:=(qjq h.right<|jN g).1;have b:=(qjq h.right<|jN i).1;have f:=vyr (t:=t) d;obtain⟨c,c1,c2⟩:=m.brk (h.both e) u (l.back h e f) q;have p:pzr ⟨X.r,msT τ X.r.u X.ms⟩∈a.q:=by rw[h.q];grind
 obtain⟨A,v⟩:=xqx h.B.M.env d<|h.B.M.q _ p;obtain⟨w,k,z⟩:=b.brk (h.both<|zjz) d f v;rw[pqb _ _ b.par.T,c1]at k;grind
theorem vwu:∀(l:List MNever)(br r:List ByteArray),lbO a.z a.C st l br=some r->(r=[]↔br=[]/\∀s∈l,∀q,zwo a.z a.C s.u s.xy st s.xp=some q->q=false)
 |[],br,r,h=>by grind [lbO]
 |s::l,br,r,h=>by
  rw[lbO]at h;obtain⟨c,b,h⟩:=wu.1 h;cases c
  ·rw[Xy ay]at h;rw[vwu l br r h];simp_all
  ·rw[lJ rfl]at h;rw[vwu l _ r h];simp_all
def qxx(a:Mach)(x:List Int):Prop:=(∃s∈a.X,qwh a x s=1)/\(∀s∈a.X,qwh a x s≠2)/\∀s∈a.q,∀q,zwo a.z a.C s.u s.xy x s.xp=some q->q=false
theorem vzl{l:List α}:l.length=0↔l=[]:=List.length_eq_zero_iff
theorem zxp(h:Sym t a)(k:yg a.z a.size x){g8:MView}(hv:lookO a x=some g8):endOf g8=0↔qxx a x:=by
 obtain⟨p,e,h1,f⟩:=look_ok h.B.M k;rw[hv]at e;injection e with e;subst e;have g:g8.xs=[]↔∀s∈a.q,∀q,zwo a.z a.C s.u s.xy x s.xp=some q->q=false:=by unfold lookO at hv;obtain⟨_,_,hv⟩:=wu.1 hv;obtain⟨_,_,hv⟩:=wu.1 hv;obtain⟨b,hb,rfl⟩:=wX.1 hv;rw[vwu _ _ _ hb];simp
 have m:g8.xn=[]↔¬∃s∈a.X,qwh a x s=1:=by simp_all
 have i:g8.xz=[]↔∀s∈a.X,qwh a x s≠2:=by rw[f];simp;grind
 unfold qxx;rw[<-i,<-g];have j:(∃s∈a.X,qwh a x s=1)↔g8.xn≠[]:=by simp_all
 rw[j];refine⟨λe=>?_,λ⟨d,c,l⟩=>?_⟩
 ·unfold endOf kx2 at e;split at e
  ·cases e
  ·rename_i c1;split at e
   ·cases e
   ·rename_i c2;split at e
    ·cases e
    ·rename_i c3;have c:g8.xz=[]:=vzl.1 aj;rw[c]at c2;exact⟨λd=>c2 (by simp_all),c,vzl.1 aj⟩
 grind [endOf,kx2]
theorem pk1(h:Sym t a)(w:kz5 (ssz (ql t)) τ)(f:yg a.z a.size x)(k:yg a.z a.size y)(d:StT t a τ x y)(j:qxx a x):qxx a y:=by
 obtain⟨σ,p,g⟩:=d.symm h w f;have out:∀{z s},yg a.z a.size z->s∈a.X->∃r,zkd a z s=some r/\qwh a z s=r.2:=λC b=>by obtain⟨r,A,E,_⟩:=out_ok h.B.M C b;simp_all
 have l:∀{ρ:Tau}{u v:List Int}{n:Int},kz5 (ssz<|ql t) ρ->yg a.z a.size u->yg a.z a.size v->StT t a ρ u v->(∃s∈a.X,qwh a u s=n)->∃s∈a.X,qwh a v s=n:=λD m hv d ⟨s,b,e⟩=>by obtain⟨r,A,E⟩:=out m b;obtain⟨s',c,r',F,G,_⟩:=jk0 h D m hv d b A;grind
 refine⟨l w f k d j.1,λs b e=>?_,λs b q B=>?_⟩
 ·obtain⟨s',c,i⟩:=l p k f g ⟨s,b,e⟩;exact j.2.1 s' c i
 ·obtain⟨s',c,i⟩:=xqz h p k f g b B;exact j.2.2 s' c q i
end
section
structure VarT (t:PTree)(v:PVar)(u:MVar):Prop where
 noOver:(jw v).K=false->u.g=-1/\kwv v=false
 g:(jw v).K=true->kwv v=true/\∃k:Nat,kkq t.j v.g.x.toList=some k/\u.g=k
 noOf:(kqm (qm<|ql t) (jw v).si).b≠4->u.B=-1/\(ofB v&&decide (0<=stI t v.k))=false
 B:(kqm (qm<|ql t) (jw v).si).b=4->ofB v=true/\(kqm (qm<|ql t) (jw v).si).y=v.k.x/\∃k:Nat,kkq t.j v.k.x.toList=some k/\u.B=k
theorem pkh(h:Right t)(hv:d7∈t.z)(d:qw4 t.j t.p sz (jw d7)=some u):VarT t d7 u:=by
 obtain⟨L,w,y⟩:=h.M;obtain⟨l,m⟩:=w.z d7 hv;have a:=jqk h;have j:kji t.j zh.x.toList=-1:=by unfold kji;rw[show zh.x.toList=[] from dh,a]
 unfold qw4 at d;obtain⟨c,_,d⟩:=wu.1 d;obtain⟨x,_,rfl⟩:=wX.1 d;have g:∀{s:List UInt8},¬zx (ug t) s<0->∃k:Nat,kkq t.j s=some k/\kji t.j s=k:=λb=>by obtain⟨k,x,h1,_⟩:=zzb t.j _<|qwa b;exact⟨k,h1,by unfold kji;rw[h1]⟩
 have i:((jw d7).K=false->kji t.j d7.g.x.toList=-1/\kwv d7=false)/\((jw d7).K=true->kwv d7=true/\∃k:Nat,kkq t.j d7.g.x.toList=some k/\kji t.j d7.g.x.toList=k):=by
  obtain e|e:=l
  ·grind [jw,dh,kwv]
  ·have hA:(jw d7).K=true:=by show(!(d7.g.t.toList==[]))=true;simp_all
   rw[hA];exact⟨λe=>mZ,λ_=>⟨e,g<|h.xt.g d7 hv e⟩⟩
 suffices b:((kqm (qm<|ql t) (jw d7).si).b≠4->kji t.j (jw d7).si.y.x.toList=-1/\(ofB d7&&decide (0<=stI t d7.k))=false)/\((kqm (qm<|ql t) (jw d7).si).b=4->ofB d7=true/\(kqm (qm<|ql t) (jw d7).si).y=d7.k.x/\∃k:Nat,kkq t.j d7.k.x.toList=some k/\kji t.j (jw d7).si.y.x.toList=k) from⟨i.1,i.2,b.1,b.2⟩
 have word:∀{f:Int}{p:Tok},f=0\/f=1->d7.k.t.toList=nV->(jw d7).si=⟨f,p,zh⟩->((kqm (qm<|ql t) (jw d7).si).b≠4->kji t.j (jw d7).si.y.x.toList=-1/\(ofB d7&&decide (0<=stI t d7.k))=false)/\((kqm (qm<|ql t) (jw d7).si).b=4->ofB d7=true/\(kqm (qm<|ql t) (jw d7).si).y=d7.k.x/\∃k:Nat,kkq t.j d7.k.x.toList=some k/\kji t.j (jw d7).si.y.x.toList=k):=λv k1 e=>by
  rw[e];refine⟨λ_=>⟨j,by unfold ofB;simp_all⟩,λe=>?_⟩;obtain rfl|rfl:=v
  ·exact absurd e (by show ¬(1:Int)=4;decide)
  ·exact absurd e (by show ¬(2:Int)=4;decide)
 obtain⟨k1,k2,k3⟩|⟨k1,k2,k3,k4⟩|⟨k1,k3⟩:=m
 ·grind [jw]
 ·grind [jw]
 ·have e:(jw d7).si=⟨2,zh,d7.k⟩:=by unfold jw;simp_all
  rw[e];have q:kqm (qm<|ql t) ⟨2,zh,d7.k⟩=if (zl (qm<|ql t) d7.k.x.toList).V==1 then ⟨4,d7.k.x⟩ else ⟨3,d7.k.x⟩:=rfl
  rw[q];have z:ofB d7=true:=by unfold ofB;simp_all
  by_cases b:zx (ug t) d7.k.x.toList<0
  ·have A:((zl (qm<|ql t) d7.k.x.toList).V==1)=false:=by grind [qz0]
   grind [stI,kji,kym,ug]
  grind [qz0]
def kxr(ss:List PSet)(T:Turn):Tau:=λs v=>if v<=0 then -1 else match (kkq ss s).bind λk=>T[k]? with|some o=>o.getD (v.toNat-1) 0|none=>0
def kw7(t:PTree)(T:Turn):Prop:=∀(k:Nat)(q:PSet),t.j[k]?=some q->∃o:List Int,T[k]?=some o/\(o.length:Int)=mg q.size.x/\o.Nodup/\∀x∈o,0<=x/\x<mg q.size.x
variable {t:PTree} {a:Mach} {T:Turn}
theorem vv3(c:Right t)(b:kkq t.j s=some k):∃q,t.j[k]?=some q/\q.y.x.toList=s/\mg q.size.x=ssz (ql t) s:=by obtain⟨q,a,d⟩:=qww b;have hb:=c.bnd.size q<|wB a;refine⟨q,a,d,?_⟩;unfold ssz qzt;rw[show(ql t).j=t.j from rfl,b];simp only[rQ];rw[a];simp only[rQ];unfold jym;grind
theorem vv2(a:kkq t.j s=none):ssz (ql t) s=0:=by grind [ssz,qzt,ql]
theorem jq3(b:Right t)(h:kw7 t T)(a:kkq t.j s=some k):∃o,T[k]?=some o/\o.length=ssz (ql t) s/\o.Nodup/\(∀x∈o,0<=x/\x<ssz (ql t) s)/\∀(j:Nat)(hj:j<o.length),kxr t.j T s ((j:Int)+1)=o[j]:=by obtain⟨q,c,e,d⟩:=vv3 b a;obtain⟨o,o1,o2,o3,o4⟩:=h k q c;rw[d]at o2 o4;grind [kxr]
theorem qv6(c:Right t)(h:kw7 t T):kz5 (ssz (ql t)) (kxr t.j T):=by
 refine⟨λs=>rfl,λs x h1 f=>?_,λs x y a1 a2 b1 b e=>?_⟩
 ·cases a:kkq t.j s with
  |none=>rw[vv2 a]at f;omega
  |some k=>
   obtain⟨o,_,o2,_,o4,d⟩:=jq3 c h a;have:=d (x.toNat-1) aj;grind [List.getElem_mem]
 ·cases a:kkq t.j s with
  |none=>rw[vv2 a]at a2 b;omega
  |some k=>
   obtain⟨o,_,o2,o3,o4,d⟩:=jq3 c h a;have key:∀v:Int,0<v->v<=ssz (ql t) s->∃j,∃g:j<o.length,v=(j:Int)+1/\kxr t.j T s v=o[j]/\0<=o[j]:=λv w z=>⟨v.toNat-1,aj,aj,by grind,(o4 _<|wZ _).1⟩
   by_cases m:x=0
   ·grind [kxr]
   ·obtain⟨i,hi,i1,i2,i3⟩:=key x aj a2;by_cases p:y=0
    ·grind [kxr]
    ·obtain⟨j,g,q,j2,u⟩:=key y aj b;rw[i2,j2]at e;have l:=sQ.1 o3;grind
theorem qvq(e:Right t)(h:kw7 t T)(c:VarT t d7 u)(d:UOk (ql t) u (jw d7))(g:j<u.d):kvz u T j=some ((plX (kxr t.j T) (jw d7).K (jw d7).g.x.toList j:Nat):Int):=by
 have b:=d.cnt;unfold kvz plX;cases a:(jw d7).K
 ·rw[(c.noOver a).1];rfl
 ·obtain⟨_,k,k1,k2⟩:=c.g a;rw[a]at b;have b:u.d=ssz (ql t) d7.g.x.toList:=b;obtain⟨o,o1,o2,_,o4,i⟩:=jq3 e h k1;have f:j<o.length:=aj;rw[k2,Xy ay,Xy aj,tX,o1];show o[j]?=some (((kxr t.j T d7.g.x.toList<|(j:Int)+1).toNat:Nat):Int);grind [List.getElem_mem]
theorem vkc(g:Right t)(h:kw7 t T)(e:VarT t d7 u)(d:UOk (ql t) u (jw d7))(m:0<=b)(h1:b<u.a.length):∃y,qv3 u T b=some y/\ftT idτ (kqm (qm (ql t)) (jw d7).si) y=ftT (kxr t.j T) (kqm (qm (ql t)) (jw d7).si) b:=by
 unfold qv3;have l:=d.few;by_cases a:(kqm (qm<|ql t) (jw d7).si).b=4
 ·obtain⟨_,k2,k,k3,k4⟩:=e.B a;have i:=d.set a;rw[kvv (τ:=kxr t.j T) a,k2];rw[k2]at i;rw[k4];have f:((k:Int)==-1)=false:=ay;rw[f,QX];by_cases j:b=0
  ·rw[j,lJ (by rfl)];exact⟨0,rfl,by rw[kvv a];rfl⟩
  ·obtain⟨o,o1,o2,_,o4,q⟩:=jq3 g h k3;have c:b.toNat-1<o.length:=aj;have p:=o4 _<|wZ c;rw[Xy (by simp_all),Xy aj,tX,o1];simp only[rQ];rw[wW c];simp only[rQ];rw[lJ aj];grind [kvv,idτ]
 ·rw[(e.noOf a).1];grind [ftT]
theorem jxf{u:MVar}{st:List Int}:∀(l:List Nat)(c r:List Int),kw0 u T st l c=some r->∀i∈l,∀p,kvz u T i=some p->0<=p
 |i::l,c,r,h,j,a,p,hp=>by
  rw[kw0]at h;obtain⟨p',h1,h⟩:=wu.1 h;obtain⟨x,b,h⟩:=wu.1 h;obtain⟨y,d,h⟩:=wu.1 h;split at h
  ·rename_i e;obtain rfl|a:=tZ.1 a
   ·simp_all
   ·exact jxf l _ r h j a p hp
  simp_all
theorem vqh(d:∀i j p q,i<u.d->j<u.d->kvz u T i=some p->kvz u T j=some q->0<=p->0<=q->p.toNat=q.toNat->i=j):∀(l:List Nat)(c r:List Int),(∀i∈l,i<u.d)->l.Nodup->kw0 u T st l c=some r ->
  (∀q,(∀i∈l,∀p,kvz u T i=some p->u.f+p.toNat≠q)->r[q]?=c[q]?)/\∀i∈l,∃p x y,kvz u T i=some p/\st[u.f+i]?=some x/\qv3 u T x=some y/\r[u.f+p.toNat]?=some y
 |[],c,r,_,_,h=>by
  grind [kw0]
 |i::l,c,r,hl,hn,h=>by
  rw[QM]at hn;rw[kw0]at h;obtain⟨p,h1,t⟩:=wu.1 h;obtain⟨x,m,hb⟩:=wu.1 t;obtain⟨y,s,b⟩:=wu.1 hb;split at b
  ·rename_i v;have f:∀j∈l,j<u.d:=λj a=>hl j (jS a)
   obtain⟨i1,i2⟩:=vqh d l _ r f hn.2 b;refine⟨λq g=>?_,λj a=>?_⟩
   ·grind
   ·obtain rfl|a:=tZ.1 a
    ·refine⟨p,x,y,h1,m,s,?_⟩;rw[i1 _ λk w q g e=>?_,Zk v.2];have z:0<=q:=by exact jxf l _ r b k w q g
     grind
    ·exact i2 j a
  simp_all
end
section
variable {t:PTree} {a:Mach} {T:Turn} {τ τ':Tau} {x y z:List Int}
def xy3(T:Turn)(v:MVar):Prop:=(∀i,i<v.d->∀p,kvz v T i=some p->p.toNat<v.d)/\∀i j p q,i<v.d->j<v.d->kvz v T i=some p->kvz v T j=some q->0<=p->0<=q->p.toNat=q.toNat->i=j
theorem vqb:∀(vs:List MVar)(c r:List Int),(∀v∈vs,xy3 T v)->vs.Pairwise (λu v=>u.f+u.d<=v.f\/v.f+v.d<=u.f)->qqw T st vs c=some r ->
  (∀q,(∀v∈vs,¬(v.f<=q/\q<v.f+v.d))->r[q]?=c[q]?)/\∀v∈vs,∀i,i<v.d->∃p x y,kvz v T i=some p/\st[v.f+i]?=some x/\qv3 v T x=some y/\r[v.f+p.toNat]?=some y
 |[],c,r,_,_,h=>by
  grind [qqw]
 |v::vs,c,r,hv,hp,h=>by
  rw[JW]at hp;rw[qqw]at h;obtain⟨m,f,h⟩:=wu.1 h;obtain⟨k1,k2⟩:=hv v<|rZ ..;obtain⟨c1,c2⟩:=vqh k2 (List.range v.d) c m (λi hi=>Qo.1 hi) Za f;obtain⟨i1,i2⟩:=vqb vs m r (λu a=>hv u<|jS a) hp.2 h;refine⟨λq j=>?_,λu a i hi=>?_⟩
  ·grind
  ·obtain rfl|a:=tZ.1 a
   ·obtain⟨p,x,y,b,d,e,g4⟩:=c2 i<|Qo.2 hi;refine⟨p,x,y,b,d,e,?_⟩;have:=k1 i hi p b;rw[i1 _ λw g=>?_]
    ·exact g4
    ·have:=hp.1 w g;omega
   ·exact i2 u a i hi
def xx7(t:PTree)(a:Mach):Prop:=∀k (hk:k<t.z.length) u,a.z[k]?=some u->VarT t t.z[k] u
theorem jw8(h:Sym t a)(C:xx7 t a)(m:kw7 t T)(J:yg a.z a.size x)(K:qqw T x a.z c=some y):StT t a (kxr t.j T) x y:=by
 have E:=qv6 h.right m;have D:∀k u,a.z[k]?=some u->xy3 T u:=λk u l=>by
  obtain⟨g,d⟩:=h.v l;have hv:=C k g u l;refine⟨λi hi p A=>?_,λi j p q hi f h1 s _ _ e=>?_⟩
  ·rw[qvq h.right m hv d hi]at A;injection A with A;have:=jqs E d.cnt hi;omega
  ·rw[qvq h.right m hv d hi]at h1;rw[qvq h.right m hv d f]at s;injection h1 with h1;injection s with s;exact vvl E d.cnt hi f aj
 obtain⟨_,s⟩:=vqb a.z c y (λv hv=>by obtain⟨k,g,rfl⟩:=wG hv;exact D k _<|wW g) (sQ.2 λi j hi f L=>h.B.M.disj i j _ _ (wW hi) (wW f) aj) K;intro k u l j f;obtain⟨g,d⟩:=h.v l;have hv:=C k g u l;obtain⟨p,b,G,z,B,I,g4⟩:=s u (wB l) j f;rw[qvq h.right m hv d f]at z;injection z with z;obtain⟨M,e,b1,F⟩:=J.val u (wB l) j f;rw[B]at e;injection e with e;subst e;obtain⟨c2,w,H⟩:=vkc h.right m hv d b1 F;rw[I]at w;injection w with w;subst w;rw[kxc g,kxc g];exact⟨b,G,B,by grind,H⟩
theorem vvn{g9:List UInt8->Nat}(c:kz5 g9 τ)(hn:n=if g7 then g9 s else 1)(b:j<n):∃i,i<n/\plX τ g7 s i=j:=by
 obtain⟨σ,a,hi⟩:=c.inv;refine⟨plX σ g7 s j,jqs a hn b,?_⟩;unfold plX;cases g7
 ·rfl
 ·have hn:n=g9 s:=hn;have:=a.rng s ((j:Int)+1) aj aj;grind
theorem StT.ok(h:Sym t a)(l:kz5 (ssz (ql t)) τ)(v:yg a.z a.size x)(C:y.length=a.size)(A:StT t a τ x y):yg a.z a.size y:=by
 refine⟨C,λu E j B=>?_⟩;obtain⟨k,m,rfl⟩:=wG E;have f:=wW m;obtain⟨q,s⟩:=h.v f;obtain⟨i,hi,e⟩:=vvn l s.cnt B;obtain⟨b,c,w,d,p⟩:=A k _ f i hi;rw[kxc q]at d p;rw[kxc q]at p;have d:y[a.z[k].f+plX τ _ _ i]?=some c:=d;rw[e]at d;refine⟨c,d,?_⟩;obtain⟨f1,f2⟩:=vwl l (pq3) p;by_cases g:(kqm (qm<|ql t) (jw t.z[k]).si).b=4
 ·have D:=v.range h f hi w q g;have J:=s.set g;rw[f1 g];by_cases z:b=0
  ·rw[z,l.zero];omega
  ·have:=l.rng _ b aj D.2;omega
 ·rw[f2 g];obtain⟨F,G,H,I⟩:=v.val _ (wZ m) i hi;simp_all
theorem pxb(e:ftT idτ ty b=ftT idτ ty b7):b=b7:=by rw[pj3,pj3]at e;omega
theorem StT.uniq(h:Sym t a)(D:kz5 (ssz (ql t)) τ)(h1:StT t a τ x y)(v:StT t a τ x z)(G:y.length=a.size)(H:z.length=a.size):y=z:=by
 apply Jm;intro q;by_cases B:q<a.size
 ·obtain⟨u,C,I,J⟩:=h.turn.all q B;obtain⟨k,g,rfl⟩:=wG C;have d:=wW g;obtain⟨A,w⟩:=h.v d;obtain⟨i,hi,e⟩:=vvn D w.cnt (by omega:q-a.z[k].f<a.z[k].d);obtain⟨b,c,j,l,m⟩:=h1 k _ d i hi;obtain⟨E,F,f,p,s⟩:=v k _ d i hi;rw[j]at f;injection f with f;subst f;rw[kxc A]at l m p s;grind [pxb]
 simp_all
theorem StT.congr(h:Sym t a)(A:yg a.z a.size x)(z:∀s (v:Int),0<=v->v<=ssz (ql t) s->τ s v=τ' s v)(q:StT t a τ x y):StT t a τ' x y:=λk u g j l=>by
 obtain⟨f,w⟩:=h.v g;obtain⟨b,c,i,p,d⟩:=q k u g j l;rw[kxc f]at p d |-;rw[kxc f]at d |-;refine⟨b,c,i,?_,d.trans ?_⟩
 ·have:plX τ (jw t.z[k]).K (jw t.z[k]).g.x.toList j=plX τ' (jw t.z[k]).K (jw t.z[k]).g.x.toList j:=by have B:=w.cnt;grind [plX]
  simp_all
 ·show ftT τ _ b=ftT τ' _ b;by_cases e:(kqm (qm<|ql t) (jw t.z[k]).si).b=4
  ·have m:=A.range h g l i f e;rw[kvv e,kvv e,z _ _ m.1 m.2]
  grind [ftT]
def vq4(t:PTree)(ts:List Turn):Prop:=(∀T∈ts,kw7 t T)/\∀τ,kz5 (ssz (ql t)) τ->∃T∈ts,∀s (v:Int),0<=v->v<=ssz (ql t) s->kxr t.j T s v=τ s v
def Alk(t:PTree)(a:Mach)(x y:List Int):Prop:=∃τ,kz5 (ssz (ql t)) τ/\StT t a τ x y
theorem Alk.refl(h:Sym t a)(b:yg a.z a.size x):Alk t a x x:=⟨idτ,zjz,StT.refl h b⟩
theorem Alk.symm(h:Sym t a)(c:yg a.z a.size x)(hA:Alk t a x y):Alk t a y x:=by obtain⟨τ,h1,b⟩:=hA;exact b.symm h h1 c
theorem Alk.trans(h:Sym t a)(h1:Alk t a x y)(d:Alk t a y z):Alk t a x z:=by obtain⟨τ,b,s1⟩:=h1;obtain⟨σ,c,e⟩:=d;exact⟨_,b.comp c,s1.trans h b c e⟩
structure kwd (t:PTree)(a:Mach)(x k:List Int):Prop where
 ok:yg a.z a.size k
 alike:Alk t a x k
 D:∀z,Alk t a x z->z.length=a.size->cmpL k z<=0
theorem xv5(l c:List Int):cmpL (jxx l c) l<=0/\cmpL (jxx l c) c<=0:=by grind [jxx,ky0]
theorem vzo:∀(ts:List Turn)(lo c:List Int)(r:List Int×List Int),kvk vars st ts lo c=some r->(r.1=lo\/∃T∈ts,∃c',c'.length=c.length/\qqw T st vars c'=some r.1)/\cmpL r.1 lo<=0/\∀T∈ts,∃c' z,c'.length=c.length/\qqw T st vars c'=some z/\cmpL r.1 z<=0
 |[],lo,c,r,h=>by
  grind [kvk,jvt]
 |T::ts,lo,c,r,h=>by rw[kvk]at h;obtain⟨m,a,h⟩:=wu.1 h;obtain⟨i1,i2,i3⟩:=vzo ts _ m r h;grind [qjk,xv5,qzg,jxx]
theorem xzc(h:Sym t a)(k:xx7 t a)(b:vq4 t ts)(d:yg a.z a.size x)(l:c.length=a.size){h7:List Int×List Int}(v:kvk a.z x ts x c=some h7):kwd t a x h7.1:=by
 obtain⟨h1,C,s⟩:=vzo ts x c h7 v;have hA:Alk t a x h7.1/\h7.1.length=a.size:=by
  obtain e|⟨T,g,p,i,f⟩:=h1
  ·rw[e];exact⟨Alk.refl h d,d.T⟩
  ·exact⟨⟨_,qv6 h.right<|b.1 T g,jw8 h k (b.1 T g) d f⟩,by rw[qjk _ _ _ f,i,l]⟩
 obtain⟨τ,A,B⟩:=hA.1;refine⟨B.ok h A d hA.2,hA.1,λz w u=>?_⟩;obtain⟨σ,s1,y⟩:=w;obtain⟨T,g,j⟩:=b.2 σ s1;obtain⟨p,D,i,f,q⟩:=s T g;have m:=jw8 h k (b.1 T g) d f;have:=m.congr h d j;rw[y.uniq h s1 this u (by rw[qjk _ _ _ f,i,l])];exact q
theorem kwd.eq(h:Sym t a)(d:yg a.z a.size x)(hA:Alk t a x y)(h1:kwd t a x c)(b:kwd t a y a9):c=a9:=by have a1:=h1.D a9 (hA.trans h b.alike) b.ok.T;have a2:=b.D c ((hA.symm h d).trans h h1.alike) h1.ok.T;grind [ky0,zv9]
theorem kwd.alike'(h:Sym t a)(d:yg a.z a.size y)(h1:kwd t a x c)(b:kwd t a y c):Alk t a x y:=h1.alike.trans h<|b.alike.symm h d
end
section
def xx9:List Int->Turn->Prop
 |[],os=>os=[]
 |n::l,os=>∃o r,os=o::r/\o∈orders n.toNat/\xx9 l r
theorem jxs:∀(l:List Int)(acc ts:List Turn),kkm l acc=some ts->∀T,T∈ts↔∃c∈acc,∃os,T=c++os/\xx9 l os
 |[],acc,ts,h,T=>by
  rw[kkm]at h;injection h with h;subst h;exact⟨λg=>⟨T,g,[],ay,rfl⟩,λ⟨c,a,os,e,b⟩=>by rw[e,show os=[] from b,Qs];exact a⟩
 |n::l,acc,ts,h,T=>by
  rw[kkm]at h;split at h
  ·rw[jxs l _ _ h T];refine⟨λ⟨c,a,os,e,b⟩=>?_,λ⟨c,a,os,e,o,r,i,h1,f⟩=>?_⟩
   ·obtain⟨c0,d,a⟩:=rM.1 a;obtain⟨o,h1,rfl⟩:=tY.1 a;exact⟨c0,d,o::os,by simp_all,o,os,rfl,h1,b⟩
   ·exact⟨c++[o],rM.2 ⟨c,a,tY.2 ⟨o,h1,rfl⟩⟩,r,by simp_all,f⟩
  simp_all
theorem xxm:∀(ss:List PSet)(os:Turn),xx9 (kje ss) os->∀(k:Nat)(q:PSet),ss[k]?=some q->∃o,os[k]?=some o/\o∈orders (mg q.size.x).toNat
 |s::ss,os,⟨o,r,e,h1,h2⟩,0,q,hq=>by
  simp_all
 |s::ss,os,⟨o,r,e,h1,h2⟩,k+1,q,hq=>by rw[e];exact xxm ss r h2 k q hq
variable {t:PTree} {τ:Tau}
def gT(τ:Tau)(q:PSet):List Int:=(List.range (mg q.size.x).toNat).map λi:Nat=>τ q.y.x.toList ((i:Int)+1)
theorem pzb(hn:n=2\/n=3):∀o∈kj3 n,o.Nodup:=by obtain rfl|rfl:=hn<;>decide +kernel
theorem xz7(hn:n=2\/n=3){h8:Nat->Int}(h1:∀i,i<n->0<=h8 i/\h8 i<n)(e:∀i j,i<j->j<n->h8 i≠h8 j):(List.range n).map h8∈kj3 n:=by
 obtain rfl|rfl:=hn
 ·have a0:=h1 0 aj;have a1:=h1 1 aj;have d:=e 0 1 aj aj;show [h8 0,h8 1]∈kj3 2;have:h8 0=0/\h8 1=1\/h8 0=1/\h8 1=0:=aj;obtain⟨a,b⟩|⟨a,b⟩:=this<;>rw[a,b]<;>decide +kernel
 ·have a0:=h1 0 aj;have a1:=h1 1 aj;have a2:=h1 2 aj;have d:=e 0 1 aj aj;have d2:=e 0 2 aj aj;have d3:=e 1 2 aj aj;show [h8 0,h8 1,h8 2]∈kj3 3;have:h8 0=0/\h8 1=1/\h8 2=2\/h8 0=0/\h8 1=2/\h8 2=1\/h8 0=1/\h8 1=0/\h8 2=2\/h8 0=1/\h8 1=2/\h8 2=0\/h8 0=2/\h8 1=0/\h8 2=1\/h8 0=2/\h8 1=1/\h8 2=0:=aj;obtain⟨a,b,c⟩|⟨a,b,c⟩|⟨a,b,c⟩|⟨a,b,c⟩|⟨a,b,c⟩|⟨a,b,c⟩:=this<;>rw[a,b,c]<;>decide +kernel
theorem jqq(h:NamesFine t):(t.j.map (·.y.x.toList)).Nodup:=by
 have s:(t.j.flatMap λk=>[k.y]).Sublist (jc t):=by rw[kye];exact(qzv (λk=>(List.Sublist.refl _)) t.j).trans (JK _ _)
 have:=(s.map (·.x.toList)).nodup<|kyi h;grind
theorem jqz(h:Right t)(a:q∈t.j):((mg q.size.x).toNat=2\/(mg q.size.x).toNat=3)/\(ssz (ql t) q.y.x.toList:Int)=mg q.size.x:=by have hb:=h.bnd.size q a;refine⟨aj,?_⟩;obtain⟨k,x,h1,b,c⟩:=zzb t.j q.y.x.toList ⟨q,a,rfl⟩;obtain⟨y,y1,y2,y3⟩:=vv3 h h1;rw[<-y3];have hn:=jqq h.xt;obtain⟨i,hi,rfl⟩:=wG a;obtain⟨d,rfl⟩:=rY.1 y1;have e:=sQ.1 hn;grind
theorem pyl(h:Right t)(a:kz5 (ssz (ql t)) τ)(b:q∈t.j):gT τ q∈kj3 (mg q.size.x).toNat:=by
 obtain⟨h1,d⟩:=jqz h b;refine xz7 h1 (λi hi=>?_)<|λi j c f e=>?_
 ·have:=a.rng q.y.x.toList ((i:Int)+1) aj aj;omega
 ·have:=a.inj q.y.x.toList ((i:Int)+1) ((j:Int)+1) aj aj aj aj e;omega
theorem pvx(h:Right t)(b:kz5 (ssz (ql t)) τ)(d:∀(k:Nat)(q:PSet),t.j[k]?=some q->T[k]?=some (gT τ q)):∀s (v:Int),0<=v->v<=ssz (ql t) s->kxr t.j T s v=τ s v:=λs v c h1=>by
 by_cases hv:v=0
 ·rw[hv,b.zero];rfl
 ·cases a:kkq t.j s with
  |none=>rw[vv2 a]at h1;omega
  |some k=>
   grind [vv3,kxr,gT]
theorem vyo(h:Right t)(b:∀(k:Nat)(q:PSet),t.j[k]?=some q->∃o,T[k]?=some o/\o∈kj3 (mg q.size.x).toNat):kw7 t T:=λk q a=>by obtain⟨o,o1,o2⟩:=b k q a;obtain⟨h1,c⟩:=jqz h<|wB a;grind [qky,pzb]
theorem xxb(h:Right t)(a:kz5 (ssz (ql t)) τ):∀ss:List PSet,(∀q∈ss,q∈t.j)->xx9 (kje ss) (ss.map (gT τ))
 |[],_=>rfl
 |q::ss,hs=>⟨_,_,rfl,(kz7 _).mem_iff.2<|pyl h a (hs q<|rZ ..),xxb h a ss λx b=>hs x<|jS b⟩
theorem xqh(h:Right t)(f:kkm (kje t.j) [[]]=some ts):vq4 t ts:=by have d:=jxs _ _ _ f;refine⟨λT i=>vyo h λk q a=>?_,λτ g=>⟨t.j.map<|gT τ,(d _).2 ⟨[],ay,_,rfl,xxb h g _ λ_ a=>a⟩,pvx h g λk q a=>by simp_all⟩⟩;obtain⟨c,b,os,e,j⟩:=(d T).1 i;rw[Qq]at b;subst b;rw[Qd]at e;subst e;obtain⟨o,o1,o2⟩:=xxm _ _ j k q a;exact⟨o,o1,(kz7 _).mem_iff.1 o2⟩
theorem pjp(h:Right t):vq4 t (kzv t):=by
 have j:t.j.length<=2:=h.bnd.j;refine⟨λT b=>vyo h λk q a=>?_,λτ d=>?_⟩
 ·obtain⟨o,h1,b⟩:=rM.1 b;obtain⟨p,c,rfl⟩:=tY.1 b;have i:=(rY.1 a).1;match k,a with
  |0,a=>rw[a]at h1;exact⟨o,rfl,h1⟩
  |1,a=>rw[a]at c;exact⟨p,rfl,c⟩
  |k+2,_=>omega
 ·have key:∀x:Option PSet,(∀q,x=some q->q∈t.j)->∃o∈zxi x,∀q,x=some q->o=gT τ q:=λx f=>by
   cases x with
   |none=>simp_all [zxi]
   |some q=>exact⟨gT τ q,pyl h d<|f q rfl,λm e=>by simp_all⟩
  obtain⟨o,o1,o2⟩:=key t.j[0]? λq e=>wB e
  obtain⟨p,g,l⟩:=key t.j[1]? λq e=>wB e
  refine⟨[o,p],rM.2 ⟨o,o1,tY.2 ⟨p,g,rfl⟩⟩,pvx h d λk q a=>?_⟩;grind
end
section
def xj4(x:Tok):Prop:=x.t.toList=mX->(32:UInt8)∉x.x.toList
theorem vqz(s:ByteArray):∀f k i,k<=i->i<qxv f s k->kzq s i=true
 |0,k,i,h1,h2=>by rw[qxv]at h2;omega
 |f+1,k,i,h1,h2=>by
  rw[qxv]at h2;split at h2
  ·rename_i h;by_cases e:i=k
   ·simp_all
   ·exact vqz s f (k+1) i aj h2
  ·omega
theorem pyx:qy0.toList≠mX/\qj0.toList≠mX/\zqa.toList≠mX:=by rw[yj,yj,yj];decide
theorem pvq(s:ByteArray)(k:Nat):xj4 (uf s k):=by
 intro f c;unfold uf at f c;split at f
 ·rename_i h;rw[lJ h,yj]at c;obtain⟨i,hi,e⟩:=wG c;have d:i<(s.extract k<|qxv 801 s k).size:=by rw[<-btl];exact hi
  have g:(s.extract k<|qxv 801 s k)[i]'d=32:=by rw[<-e];rfl
  rw[JJ]at g;have l:=ByteArray.size_extract (a:=s) (b:=k) (e:=qxv 801 s k);have j:=vqz s 801 k (k+i) aj aj;simp_all [kzq,inB]
 grind [pyx]
theorem zk9(s:ByteArray):∀(f k:Nat)(acc:List Tok),(∀x∈acc,xj4 x)->∀x∈(kvd f s k acc).1,xj4 x
 |0,k,acc,h,x,a=>h x a
 |f+1,k,acc,h,x,a=>by
  have app:∀y,xj4 y->∀x∈acc++[y],xj4 x:=λy c x a=>by grind
  rw[kvd]at a;split at a
  ·split at a
   ·exact zk9 s f _ acc h x a
   ·split at a
    ·simp_all
    ·exact zk9 s f _ _ (app _<|pvq s k) x a
  ·exact app _ (λ_ b=>by simp[kks,yj]at b) x a
theorem pji(h:(qq4 y).1=0):∀x∈kzt (uz (jv y).1).1,(32:UInt8)∉x.x.toList:=by
 unfold qq4 at h;split at h
 ·cases h
 ·rename_i f;split at h
  ·cases h
  ·rename_i c;split at h
   ·cases h
   ·rename_i b;have e:=tree_good (kyh aj c) b;intro x a;obtain⟨d,g⟩:=e.nms.mem x a;exact zk9 y 801 0 [] (λx a=>by cases a) x d (by simp_all)
structure TxtIn (u:MVar):Prop where
 no:∀x∈u.a,(32:UInt8)∉x.data.toList
 inj:∀(i j:Nat)(x y:ByteArray),u.a[i]?=some x->u.a[j]?=some y->x.data.toList=y.data.toList->i=j
theorem xq4(hi:i<10)(a:j<10)(e:(kvh i).data.toList=(kvh j).data.toList):i=j:=by have e:[(48+i).toUInt8]=[(48+j).toUInt8]:=e;injection e with e;have:=congrArg UInt8.toNat e;simp at this;omega
theorem jj5(h:(kvx n)[i]?=some y):i<n/\y=kvh i:=by grind [kvx]
theorem xvy(hi:i<10):(32:UInt8)∉(kvh i).data.toList:=by intro h;have h:(32:UInt8)∈[(48+i).toUInt8]:=h;rw[Qq]at h;have:=congrArg UInt8.toNat h;simp at this;omega
theorem jy2(hn:n<=10):(∀x∈kvx n,(32:UInt8)∉x.data.toList)/\∀(i j:Nat)(x y:ByteArray),(kvx n)[i]?=some x->(kvx n)[j]?=some y->x.data.toList=y.data.toList->i=j:=by
 refine⟨λx b=>?_,λi j x y h1 a e=>?_⟩
 ·obtain⟨i,hi,rfl⟩:=tY.1 b;grind [xvy]
 ·obtain⟨a1,rfl⟩:=jj5 h1;obtain⟨b1,rfl⟩:=jj5 a;exact xq4 aj aj e
theorem xjx(h:Right t)(hN:∀x∈kzt t,(32:UInt8)∉x.x.toList)(l:qw4 t.j t.p sz (jw d7)=some u):TxtIn u:=by
 unfold qw4 at l;obtain⟨c,_,l⟩:=wu.1 l;obtain⟨x,f,rfl⟩:=wX.1 l;unfold vqi at f;split at f
 ·injection f with f;subst f;obtain⟨a,b⟩:=jy2 (n:=2) aj;exact⟨a,b⟩
 ·split at f
  ·obtain⟨d,d1,rfl⟩:=wX.1 f;have:=(zq8 d1).2;obtain⟨a,b⟩:=jy2 (n:=d+1) aj;exact⟨a,b⟩
  ·cases q:kwe t.p (jw d7).si.y.x.toList with
   |some k=>
    rw[q]at f;injection f with f;subst f;have p:=(qju q).1;refine⟨λx f=>?_,λi j x y h1 g e=>?_⟩
    ·obtain⟨m,z,rfl⟩:=tY.1 f;rw[<-yj];exact hN m<|kwy p (jS z)
    ·have A:k.i.Sublist (jc t):=by rw[kye];refine List.Sublist.trans ?_<|J5 _ _;refine List.Sublist.trans ?_<|JK _ _;refine List.Sublist.trans (ZC _ _) (?_:(kx7 k).Sublist _);obtain⟨F,G,e⟩:=List.append_of_mem p;simp_all
     have hn:=(A.map (·.x.toList)).nodup<|kyi h.xt;have h1:(k.i.map (·.x))[i]?=some x:=h1;have g:(k.i.map (·.x))[j]?=some y:=g;rw[QV]at h1 g;obtain⟨s,v,rfl⟩:=wX.1 h1;obtain⟨B,w,rfl⟩:=wX.1 g;obtain⟨i1,rfl⟩:=rY.1 v;obtain⟨E,rfl⟩:=rY.1 w;rw[<-yj,<-yj]at e;have D:=sQ.1 hn;grind
   |none=>
    rw[q]at f;obtain⟨m,s,rfl⟩:=wX.1 f;obtain⟨_,_,_,_,_,B⟩:=kkx s;obtain⟨a,b⟩:=jy2 (n:=m) aj;have C:∀i (x:ByteArray),(kvx m)[i]?=some x->x.data.toList≠[45]:=λi x f e=>by obtain⟨i1,rfl⟩:=jj5 f;have e:[(48+i).toUInt8]=[45]:=e;injection e with e;have:=congrArg UInt8.toNat e;simp at this;omega
    refine⟨λx f=>?_,λi j x y h1 g e=>?_⟩
    ·grind
    grind
theorem vxr(h:l++32::w=s++32::w')(h1:(32:UInt8)∉w)(e:(32:UInt8)∉w'):l=s/\w=w':=by
 obtain⟨c,a,b⟩|⟨c,a,b⟩:=List.append_eq_append_iff.1 h
 ·cases c with
  |nil=>simp_all
  |cons d c=>simp_all
 ·cases c with
  |nil=>simp_all
  |cons d c=>simp_all
variable {st st':List Int}
theorem jw7(c:TxtIn u)(h1:zyl u st i=some b8)(b:zyl u st' i=some y)(e:b8.data.toList=y.data.toList):st[i]?=st'[i]?:=by obtain⟨n,a1,a2⟩:=kyb h1;obtain⟨m,b1,a⟩:=kyb b;rw[a1,b1,c.inj n m b8 y a2 a e]
theorem zk4(a:TxtIn u)(h1:zyl u st i=some y):(32:UInt8)∉y.data.toList:=by obtain⟨n,a1,a2⟩:=kyb h1;exact a.no y<|wB a2
theorem zxh(h:qvg u st (n+1)=some s):∃l x,qvg u st n=some l/\zyl u st (u.f+n)=some x/\s=l++kk9 n++x.data.toList:=by rw[qvg]at h;obtain⟨l,h1,h⟩:=wu.1 h;obtain⟨x,a,h⟩:=wu.1 h;simp_all
def Cut(p p':List UInt8):Prop:=(∃l l',p=l++[32]/\p'=l'++[32])\/(p=[]/\p'=[])
theorem Cut.eq{b:List UInt8}(a:Cut p p')(h:p++(b++w)=p'++(b++w'))(hb:(32:UInt8)∉b)(h1:(32:UInt8)∉w)(c:(32:UInt8)∉w'):p=p'/\w=w':=by
 obtain⟨l,d,rfl,rfl⟩|⟨rfl,rfl⟩:=a
 ·grind [vxr,List.append_cancel_left]
 simp_all
theorem pju(a:TxtIn u){b:List UInt8}(i:Cut p p')(hb:(32:UInt8)∉b):∀(n:Nat)(r r' f:List UInt8),qvg u st (n+1)=some r->qvg u st' (n+1)=some r'->(32:UInt8)∉f->p++(b++(r++f))=p'++(b++(r'++f))->p=p'/\∀j,j<=n->st[u.f+j]?=st'[u.f+j]?
 |0,r,r',f,h1,h2,hf,e=>by
  obtain⟨l,x,a1,a2,rfl⟩:=zxh h1;obtain⟨d,y,b1,c,rfl⟩:=zxh h2;injection a1 with a1;injection b1 with b1;subst a1;subst b1;obtain⟨g,h⟩:=i.eq e hb (by simp[kk9,zk4 a a2,hf]) (by simp[kk9,zk4 a c,hf]);refine⟨g,λj m=>?_⟩;obtain rfl:j=0:=aj;exact jw7 a a2 c<|J8 (h:x.data.toList++f=y.data.toList++f)
 |n+1,r,r',f,h1,h2,hf,e=>by
  obtain⟨l,x,a1,a2,rfl⟩:=zxh h1;obtain⟨d,y,b1,c,rfl⟩:=zxh h2;have k:(p++(b++l))++32::(x.data.toList++f)=(p'++(b++d))++32::(y.data.toList++f):=by simpa[kk9] using e
  obtain⟨g,h⟩:=vxr k (by simp[zk4 a a2,hf]) (by simp[zk4 a c,hf]);obtain⟨i1,i2⟩:=pju a i hb n l d [] a1 b1 ay (by simp_all);grind [jw7,List.append_cancel_right]
theorem vyh(g:∀u∈vars,TxtIn u/\1<=u.d/\((u.g==-1)=true->u.d=1)):∀(n:Nat)(r:List UInt8),zj7 vars st n=some r->zj7 vars st' n=some r->∀k u,k<n->vars[k]?=some u->∀j,j<u.d->st[u.f+j]?=st'[u.f+j]?
 |0,r,_,_,k,u,hk,_,_,_=>aj
 |n+1,r,h1,h2,k,u,hk,hu,j,hj=>by
  obtain⟨l,v,w,a1,a2,a3,_,a4,_⟩:=qxs h1;obtain⟨a,E,w',b1,c,b3,_,b4,_⟩:=qxs h2;rw[a2]at c;injection c with c;subst c;obtain⟨f,C,D⟩:=g v<|wB a2;have e:l++kk9 n++w=a++kk9 n++w':=by simp_all
  have h:Cut (l++kk9 n) (a++kk9 n):=by
   cases n with
   |zero=>
    injection a1 with a1;injection b1 with b1;subst a1;subst b1;exact .inr ⟨rfl,rfl⟩
   |succ n=>exact .inl ⟨l,a,rfl,rfl⟩
  have key:l++kk9 n=a++kk9 n/\∀j,j<v.d->st[v.f+j]?=st'[v.f+j]?:=by
   unfold vq5 at a3 b3;cases i:(v.g==-1)
   ·rw[i,Xy ay]at a3 b3;obtain⟨q,z,rfl⟩:=wX.1 a3;obtain⟨t,A,rfl⟩:=wX.1 b3;have d:v.d-1+1=v.d:=aj;obtain⟨m,p⟩:=pju f h (b:=[91]) ak (v.d-1) q t [93] (by rw[d];exact z) (by rw[d];exact A) ak (by simp_all);grind
   ·rw[i,lJ rfl]at a3 b3;obtain⟨x,x1,a3⟩:=wu.1 a3;obtain⟨y,y1,b3⟩:=wu.1 b3;split at a3
    ·split at b3
     ·injection a3 with a3;injection b3 with b3;subst a3;subst b3;obtain⟨m,p⟩:=h.eq (b:=[]) e ay (zk4 f x1)<|zk4 f y1;grind [jw7]
     simp_all
    simp_all
  by_cases B:k=n
  ·simp_all
  ·have s:l=a:=J8 key.1;subst s;exact vyh g n l a1 b1 k u aj hu j hj
end
section
variable {t:PTree} {a:Mach} {T:Turn} {τ:Tau} {x z:List Int} {S:List (List Int)}
theorem zyg(c:Right t)(a:kw7 t T)(b:kkq t.j s=some k)(d:j<ssz (ql t) s):jxc T (zx (ug t) s) j=some (kxr t.j T s ((j:Int)+1)):=by obtain⟨o,o1,o2,_,_,e⟩:=jq3 c a b;grind [ug,kym,jxc]
theorem xw0(h:Right t)(f:kw7 t T)(c:VarT t d7 u)(g:UOk (ql t) u (jw d7))(l:0<=b)(h1:b<u.a.length):tvR t d7 T (ftT idτ (kqm (qm (ql t)) (jw d7).si) b)=some (ftT (kxr t.j T) (kqm (qm (ql t)) (jw d7).si) b):=by
 unfold tvR;by_cases a:(kqm (qm<|ql t) (jw d7).si).b=4
 ·obtain⟨k1,k2,k,k3,k4⟩:=c.B a;have i:=g.set a;rw[k2]at i;have e:stI t d7.k=k:=kym k3;rw[kvv a,kvv a,k2,k1,QZ,e,Qz aj,QZ];by_cases hb:b=0
  ·rw[hb];rfl
  ·have:=zyg h f k3 (j:=b.toNat-1) aj;unfold idτ;rw[lJ (by grind)];have d:((b.toNat-1:Nat):Int)=b-1:=aj;rw[d,show b-1+1=b by omega]at this;rw[<-e];exact this
 ·rw[(c.noOf a).2,QJ,Xy ay];grind [ftT]
theorem xw2(e:Right t)(c:kw7 t T)(d:VarT t d7 u)(f:UOk (ql t) u (jw d7))(g:j<u.d):tpR t d7 T j=some ((plX (kxr t.j T) (jw d7).K (jw d7).g.x.toList j:Nat):Int):=by
 have b:=f.cnt;unfold tpR plX;cases a:(jw d7).K
 ·rw[(d.noOver a).2];rfl
 ·obtain⟨k1,k,k2,_⟩:=d.g a;rw[a]at b;have b:u.d=ssz (ql t) d7.g.x.toList:=b;have:=(qv6 e c).rng d7.g.x.toList ((j:Int)+1) aj aj;rw[k1,lJ rfl];refine(zyg e c k2 aj).trans ?_;show some _=some (((kxr t.j T d7.g.x.toList<|(j:Int)+1).toNat:Nat):Int);grind
theorem vql(f:Right t)(a:kw7 t T)(g:VarT t d7 u)(d:UOk (ql t) u (jw d7))(h:a9.length=u.d)(k:∀j,j<u.d->∃b,x[u.f+j]?=some b/\0<=b/\b<u.a.length/\a9[j]?=some (ftT idτ (kqm (qm (ql t)) (jw d7).si) b)):∀n,n<=u.d->∃o,qzn t d7 T a9 n=some o/\o.length=u.d/\∀i,i<n->∃b,x[u.f+i]?=some b/\o[plX (kxr t.j T) (jw d7).K (jw d7).g.x.toList i]?=some (ftT (kxr t.j T) (kqm (qm (ql t)) (jw d7).si) b)
 |0,_=>⟨a9,rfl,h,λi hi=>aj⟩
 |n+1,hn=>by
  obtain⟨o,o1,o2,o3⟩:=vql f a g d h k n aj;obtain⟨b,b1,l,b3,b4⟩:=k n aj;have p:=jqs (qv6 f a) d.cnt (by omega:n<u.d);rw[qzn,o1];simp only[rQ];rw[b4];simp only[rQ];rw[xw0 f a g d l b3];simp only[rQ];rw[xw2 f a g d aj];simp only[rQ];rw[lJ aj,tX];refine⟨_,rfl,by simp_all,λi hi=>?_⟩;by_cases e:i=n
  ·simp_all
  ·obtain⟨c,c1,c2⟩:=o3 i aj;refine⟨c,c1,?_⟩;rw[Z8 (λm=>e (vvl (qv6 f a) d.cnt aj aj m.symm))];exact c2
theorem xw1(h:Sym t a)(A:xx7 t a)(w:kw7 t T)(B:yg a.z a.size x)(i:RSt a.z (tuV t idτ) S x):∃S',qjs t S T S.length=some S'/\RSt a.z (tuV t (kxr t.j T)) S' x:=by
 have key:∀n,n<=S.length->∃o,qjs t S T n=some o/\o.length=S.length/\(∀k,n<=k->o[k]?=S[k]?)/\∀k,k<n->∀u,a.z[k]?=some u->∃y,o[k]?=some y/\y.length=u.d/\∀j,j<u.d->∃b,x[u.f+j]?=some b/\y[(tuV t (kxr t.j T) k).1 j]?=some ((tuV t (kxr t.j T) k).2 b):=by
  intro n;induction n with
  |zero=>exact λ_=>⟨S,rfl,rfl,λ_ _=>rfl,λk d=>aj⟩
  |succ n ih=>
   intro hn;obtain⟨o,o1,o2,o3,o4⟩:=ih aj;have m:n<a.z.length:=by rw[<-i.1];omega
   have f:=wW m;obtain⟨d,z⟩:=h.v f;obtain⟨y,y1,y2,y3⟩:=i.2 n _ f;obtain⟨q,C,D,E⟩:=vql (x:=x) h.right w (A n d _ f) z y2 (λj l=>by obtain⟨b,s,b1,p⟩:=B.val _ (wZ m) j l;obtain⟨G,g,v⟩:=y3 j l;rw[s]at g;injection g with g;subst g;rw[zyf,kxc d]at v;simp_all) a.z[n].d jH
   rw[qjs,o1];simp only[rQ];rw[wW d];simp only[rQ];rw[y1];simp only[rQ];rw[y2,C];refine⟨_,rfl,by simp_all,λk d=>by grind,λk F u c=>?_⟩;by_cases e:k=n
   ·subst e;rw[f]at c;injection c with c;subst c;refine⟨q,Zk aj,D,λj l=>?_⟩;obtain⟨b,b1,p⟩:=E j l;rw[kxc d];simp_all
   grind
 obtain⟨o,o1,o2,_,o4⟩:=key S.length<|jH;refine⟨o,o1,by rw[o2];exact i.1,λk u f=>o4 k ?_ u f⟩;rw[i.1];grind
theorem StT.fwd(h:Sym t a)(q:kz5 (ssz (ql t)) τ)(h1:RSt a.z (tuV t τ) S x)(g:StT t a τ x z):RSt a.z (tuV t idτ) S z:=by
 refine⟨h1.1,λk u f=>?_⟩;obtain⟨p,l⟩:=h.v f;obtain⟨w,s,v,w3⟩:=h1.2 k u f;refine⟨w,s,v,λj m=>?_⟩;obtain⟨i,hi,e⟩:=vvn q l.cnt m;obtain⟨b,b1,A⟩:=w3 i hi;obtain⟨y,c,d,B,C⟩:=g k u f i hi;rw[b1]at d;injection d with d;subst d;have D:(tuV t τ k).1 i=j:=by rw[kxc p];exact e
 grind [zyf]
end
section
theorem zyx(a b:UInt8)(x y:List UInt8):Op.bytesLess (a::x) (b::y)=(decide (a.toNat<b.toNat)||(decide (a.toNat=b.toNat)&&Op.bytesLess x y)):=by
 show(decide (a<b)||(a==b&&Op.bytesLess x y))=_;congr 1
 congr 1
 rw[Bool.eq_iff_iff,su,sD];exact⟨λe=>by rw[e],λe=>UInt8.toNat_inj.1 e⟩
theorem xxe:∀x y:List UInt8,Op.bytesLess x y=false->Op.bytesLess y x=false->x=y
 |[],[],_,_=>rfl
 |[],b::y,h,_=>lu
 |a::x,[],_,h=>lu
 |a::x,b::y,h1,h2=>by rw[zyx]at h1 h2;simp only[Qi,decide_eq_false_iff_not,Zg]at h1 h2;have e:a.toNat=b.toNat:=aj;rw[UInt8.toNat_inj.1 e,xxe x y (by simp_all) (by simp_all)]
theorem pjx:∀x:List UInt8,Op.bytesLess x x=false
 |[]=>rfl
 |a::x=>by rw[zyx,pjx x];simp
theorem xqv:∀x y z:List UInt8,Op.bytesLess y x=false->Op.bytesLess z y=false->Op.bytesLess z x=false
 |[],_,z,_,_=>by cases z<;>rfl
 |a::x,[],_,h,_=>lu
 |a::x,b::y,[],_,h=>lu
 |a::x,b::y,c::z,h1,h2=>by
  rw[zyx]at h1 h2 |-;simp only[Qi,decide_eq_false_iff_not,Zg]at h1 h2 |-;refine⟨aj,?_⟩;by_cases e:c.toNat=a.toNat
  ·refine .inr (xqv x y z (by grind)<|by grind)
  omega
theorem vk4:∀{x y:List UInt8},Op.bytesLess x y=true->Op.bytesLess y x=false
 |_,[],h=>lu
 |[],_::_,_=>rfl
 |a::x,b::y,h=>by
  rw[zyx]at h |-;simp only[Q8,rG,sD]at h;simp only[Qi,decide_eq_false_iff_not,Zg];obtain h|⟨h1,c⟩:=h
  ·omega
  ·exact⟨aj,.inr<|vk4 c⟩
theorem min_le(b y:ByteArray):Op.bytesLess b.toList (vwj b y).toList=false/\Op.bytesLess y.toList (vwj b y).toList=false:=by grind [vwj,vk4]
theorem ba_eq(h:b8.toList=y.toList):b8=y:=by rw[yj,yj]at h;exact ByteArray.ext<|Array.toList_inj.1 h
structure Sy (t:PTree)(a:Mach):Prop where
 G:Sym t a
 vt:xx7 t a
 tin:∀u∈a.z,TxtIn u/\1<=u.d/\((u.g==-1)=true->u.d=1)
 j:a.j=kje t.j
variable {t:PTree} {a:Mach} {x y z:List Int} {S:List (List Int)} {b c k k':ByteArray}
def TxB(a:Mach)(x:List Int)(b:ByteArray):Prop:=∃r,zqh a.z x=some r/\b=⟨r.toArray⟩
theorem xxv(h:Sy t a)(d:yg a.z a.size x):∃b,TxB a x b:=by obtain⟨r,c⟩:=vyi h.G.B.M d;exact⟨_,r,c,rfl⟩
theorem pko(h1:TxB a x b)(d:TxB a x c):b=c:=by obtain⟨r,e,rfl⟩:=h1;obtain⟨r',f,rfl⟩:=d;simp_all
theorem vkt(h:Sy t a)(f:yg a.z a.size x)(d:RSt a.z (tuV t idτ) S x)(hb:TxB a x b):zj9 t S S.length=some b:=by
 obtain⟨r,e,rfl⟩:=hb;unfold zqh at e;obtain⟨l,h1,c⟩:=wu.1 e;split at c
 ·cases c
 ·injection c with c;subst c;rw[d.1];exact(zkj f d h.G.txt h.G.B.M.few _ l jH h1).1
theorem vkr(h:Sy t a)(k:x.length=a.size)(m:y.length=a.size)(h1:TxB a x b)(g:TxB a y b):x=y:=by
 obtain⟨r,d,rfl⟩:=h1;obtain⟨r',f,e⟩:=g;have e:r=r':=by simp_all
 subst e;unfold zqh at d f;obtain⟨l,a1,a2⟩:=wu.1 d;obtain⟨p,b1,c⟩:=wu.1 f;split at a2
 ·cases a2
 ·split at c
  ·cases c
  ·injection a2 with a2;injection c with c;subst a2;subst c;apply Jm;intro q;by_cases i:q<a.size
   ·obtain⟨u,j,s,v⟩:=h.G.turn.all q i;obtain⟨n,hn,rfl⟩:=wG j;have:=vyh h.tin _ _ a1 b1 n _ hn (wW hn) (q-a.z[n].f) aj;simp_all
   simp_all
structure zz6 (t:PTree)(a:Mach)(x:List Int)(k:ByteArray):Prop where
 ex:∃z,Alk t a x z/\yg a.z a.size z/\TxB a z k
 D:∀z c,Alk t a x z->yg a.z a.size z->TxB a z c->Op.bytesLess c.toList k.toList=false
theorem zz6.eq(h:Sy t a)(c:yg a.z a.size x)(hA:Alk t a x y)(h1:zz6 t a x k)(b:zz6 t a y k'):k=k':=by obtain⟨z,f,g,i⟩:=h1.ex;obtain⟨w,d,e,w3⟩:=b.ex;exact ba_eq<|xxe _ _ (b.D z k ((hA.symm h.G c).trans h.G f) g i) (h1.D w k' (hA.trans h.G d) e w3)
theorem zz6.alike(h:Sy t a)(c:yg a.z a.size y)(h1:zz6 t a x k)(b:zz6 t a y k):Alk t a x y:=by obtain⟨z,g,i,j⟩:=h1.ex;obtain⟨w,d,f,w3⟩:=b.ex;have e:=vkr h i.T f.T j w3;subst e;exact g.trans h.G<|d.symm h.G c
theorem zz6.B(h:Sy t a)(b:yg a.z a.size x)(hA:Alk t a x y)(h1:zz6 t a x k):zz6 t a y k:=by obtain⟨z,f,g,i⟩:=h1.ex;exact⟨⟨z,(hA.symm h.G b).trans h.G f,g,i⟩,λw c d e w3=>h1.D w c (hA.trans h.G d) e w3⟩
theorem pv0(h:Sy t a)(d:kw7 t T):qxj a.j T:=λk n b=>by rw[h.j]at b;unfold kje at b;rw[QV]at b;obtain⟨q,c,e⟩:=wX.1 b;obtain⟨o,o1,o2,_,o4⟩:=d k q c;have hb:=h.G.right.bnd.size q<|wB c;grind
theorem xjk(h:Sy t a)(c:kw7 t T)(b:yg a.z a.size x):∃z,yg a.z a.size z/\StT t a (kxr t.j T) x z:=by obtain⟨r,d,e⟩:=jw9 h.G.turn h.G.B.M (pv0 h c) b a.z (λ_ hv=>hv) x ⟨b.T,jwx h.G.turn h.G.B.M b⟩;have:=jw8 h.G h.vt c b d;exact⟨r,this.ok h.G (qv6 h.G.right c) b e.1,this⟩
theorem py5(h:Sy t a)(f:yg a.z a.size x)(i:RSt a.z (tuV t idτ) S x):∀(ws:List Turn),(∀T∈ws,kw7 t T)->∀b,∃k,jxz t S ws b=some k/\(k=b\/∃T∈ws,∃z,yg a.z a.size z/\StT t a (kxr t.j T) x z/\TxB a z k)/\Op.bytesLess b.toList k.toList=false/\∀T∈ws,∀z c,StT t a (kxr t.j T) x z->z.length=a.size->TxB a z c->Op.bytesLess c.toList k.toList=false
 |[],_,b=>⟨b,rfl,.inl rfl,pjx _,λT d=>by cases d⟩
 |T::ws,hw,b=>by
  have d:=hw T<|rZ ..;obtain⟨S',s1,A⟩:=xw1 h.G h.vt d f i;obtain⟨z,g,m⟩:=xjk h d f;have l:=qv6 h.G.right d;obtain⟨y,u⟩:=xxv h g;have j:=StT.fwd h.G l A m;obtain⟨k,k1,k2,k3,k4⟩:=py5 h f i ws (λT d=>hw T<|jS d)<|vwj b y;obtain⟨v,C⟩:=min_le b y;refine⟨k,?_,?_,xqv _ _ _ k3 v,λB e w c p q s=>?_⟩
  ·rw[jxz,s1];simp only[rQ];rw[vkt h g j u];exact k1
  ·grind [vwj]
  ·obtain rfl|e:=tZ.1 e
   ·rw[p.uniq h.G l m q g.T]at s;grind [pko,xqv]
   grind
theorem xzd(h:Sy t a)(d:yg a.z a.size x)(j:RSt a.z (tuV t idτ) S x)(hb:TxB a x b):∃k,jxz t S (kzv t) b=some k/\zz6 t a x k:=by
 obtain⟨g,u⟩:=pjp h.G.right;obtain⟨k,k1,k2,k3,k4⟩:=py5 h d j (kzv t) g b;refine⟨k,k1,?_,λz c p m l=>?_⟩
 ·obtain e|⟨T,f,z,w,y,A⟩:=k2
  ·exact⟨x,Alk.refl h.G d,d,by simp_all⟩
  ·exact⟨z,⟨_,qv6 h.G.right<|g T f,y⟩,w,A⟩
 ·obtain⟨σ,s1,q⟩:=p;obtain⟨T,f,e⟩:=u σ s1;exact k4 T f z c (q.congr h.G d λs v h1 i=>(e s v h1 i).symm) m.T l
theorem vvw{Rl:Nat->Nat->Prop}(h1:∀i,i<n->∃j,j<m/\Rl i j)(b:∀i i' j,i<n->i'<n->Rl i j->Rl i' j->i=i'):n<=m:=by
 have key:∀i,∃j,i<n->j<m/\Rl i j:=λi=>by
  by_cases hi:i<n
  ·simp_all
  ·exact⟨0,λe=>absurd e hi⟩
 have:=zx3 ((List.range n).map λi=>Classical.choose<|key i) (List.range m) (J6.2<|sQ.2 λi j hi c a e=>?_)<|λx d=>?_
 ·simp_all
 ·grind
 grind
structure Mir (t:PTree)(a:Mach)(R:List (List Int))(x:SnR):Prop where
 ok:∀y∈R,yg a.z a.size y
 T:x.F.length=R.length
 st:∀(i:Nat)(y:List Int),R[i]?=some y->∃S,x.F[i]?=some S/\RSt a.z (tuV t idτ) S y
 tlen:x.txs.length=R.length
 tx:∀(i:Nat)(y:List Int),R[i]?=some y->∃b,x.txs[i]?=some b/\TxB a y b
 nd:x.L.Nodup
 rnd:R.Nodup
 ob1:∀y∈R,∃k∈x.L,zz6 t a y k
 ob2:∀k∈x.L,∃y∈R,zz6 t a y k
theorem Mir.has(h:Sy t a)(hM:Mir t a R i0)(j:yg a.z a.size y)(hb:TxB a y b):hasB i0.txs b=true↔y∈R:=by
 unfold hasB;rw[Zx];refine⟨λ⟨c,f,e⟩=>?_,λg=>?_⟩
 ·obtain⟨i,hi,rfl⟩:=wG f;have d:i<R.length:=by rw[<-hM.tlen];exact hi
  obtain⟨c,c1,c2⟩:=hM.tx i _<|wW d;rw[wW hi]at c1;injection c1 with c1;rw[su]at e;have e:=ba_eq e;rw[c1]at e;rw[e]at c2;rw[vkr h j.T (hM.ok _ (wZ d)).T hb c2];simp
 ·obtain⟨i,hi,rfl⟩:=wG g;obtain⟨c,c1,c2⟩:=hM.tx i _<|wW hi;grind [pko]
theorem pky(h:Right t):(kzv t).length<=36:=by
 have key:∀x:Option PSet,(∀q,x=some q->q∈t.j)->(zxi x).length<=6:=λx a=>by
  cases x with
  |none=>decide
  |some q=>
   obtain⟨h1,_⟩:=jqz h<|a q rfl;show(kj3 (mg q.size.x).toNat).length<=6;obtain e|e:=h1<;>rw[e]<;>decide +kernel
 have k0:=key t.j[0]? λq e=>wB e
 have k1:=key t.j[1]? λq e=>wB e
 unfold kzv;have:∀(l m:List (List Int)),(l.flatMap λo=>m.map λp=>[o,p]).length=l.length*m.length:=λl m=>by
  induction l with
  |nil=>simp
  |cons o l ih=>grind
 rw[this];exact Jt k0 k1
theorem Mir.few(h:Sy t a)(hM:Mir t a R i0):R.length<=i0.L.length*36:=by
 have d:=pjp h.G.right;have D:=pky h.G.right;refine vvw (Rl:=λi q=>∃y z k T,R[i]?=some y/\i0.L[q / 36]?=some k/\yg a.z a.size z/\TxB a z k/\(kzv t)[q%36]?=some T/\StT t a (kxr t.j T) z y) (λi hi=>?_)<|λi K q hi C h1 c=>?_
 ·have u:=hM.ok _<|wZ hi;obtain⟨k,p,g⟩:=hM.ob1 _<|wZ hi;obtain⟨z,A,f,B⟩:=g.ex;obtain⟨σ,s1,w⟩:=A.symm h.G u;obtain⟨T,m,e⟩:=d.2 σ s1;obtain⟨j,H,rfl⟩:=wG p;obtain⟨l,I,rfl⟩:=wG m;refine⟨j*36+l,aj,R[i],z,_,_,wW hi,by grind,f,B,by grind,w.congr h.G f λs v h1 c=>(e s v h1 c).symm⟩
 ·obtain⟨y,z,k,T,a1,a2,a3,a4,a5,a6⟩:=h1;obtain⟨x,L,k',E,b1,b,b3,b4,b5,b6⟩:=c;rw[a2]at b;injection b with b;subst b;rw[a5]at b5;injection b5 with b5;subst b5;have e:=vkr h a3.T b3.T a4 b4;subst e;have e:=a6.uniq h.G (qv6 h.G.right<|d.1 T (wB a5)) b6 (hM.ok y<|wB a1).T (hM.ok x<|wB b1).T;subst e;obtain⟨_,F⟩:=rY.1 a1;obtain⟨_,G⟩:=rY.1 b1;have J:=sQ.1 hM.rnd;grind
theorem pw2(h:Sy t a)(hM:Mir t a R i0)(j:yg a.z a.size y)(x:RSt a.z (tuV t idτ) S y)(F:i0.L.length<=600):∃x',vjk t i0 S=some x'/\∃R' q,Mir t a R' x'/\R'=R++q/\(∀z,z∈R'↔z∈R\/z=y)/\i0.L.length<=x'.L.length/\x'.L.length<=i0.L.length+1:=by
 obtain⟨b,hb⟩:=xxv h j;have D:=hM.few h;unfold vjk;rw[vkt h j x hb];simp only[rQ];by_cases B:y∈R
 ·rw[lJ ((hM.has h j hb).2 B)];exact⟨i0,rfl,R,[],hM,ay,λz=>⟨λC=>.inl C,λC=>by grind⟩,jH,aj⟩
 ·rw[Xy (λe=>B ((hM.has h j hb).1 e)),lJ (by rw[hM.T];omega)];obtain⟨k,k1,k2⟩:=xzd h j x hb;rw[k1];have app:∀{α:Type}{l:List α}{v:α}{i:Nat},i=l.length->(l++[v])[i]?=some v:=λe=>by simp_all
  have m:∀f:List ByteArray,f.Nodup->k∈f->(∀c∈i0.L,c∈f)->(∀c∈f,c∈i0.L\/c=k)->Mir t a (R++[y]) ⟨i0.F++[S],i0.txs++[b],f⟩:=λf n1 n2 n3 n4=>by
   have cs:∀{i:Nat}{w:List Int},(R++[y])[i]?=some w->R[i]?=some w/\i<R.length\/i=R.length/\w=y:=λ{i w} e=>by grind
   refine⟨λw g=>?_,by simp[hM.T],λi w e=>?_,by simp[hM.tlen],λi w e=>?_,n1,?_,λw g=>?_,λc d=>?_⟩
   ·obtain g|g:=rV.1 g
    ·exact hM.ok w g
    simp_all
   ·obtain⟨p,hi⟩|⟨u,rfl⟩:=cs e
    ·obtain⟨s,s1,E⟩:=hM.st i w p;grind
    ·exact⟨S,app (by rw[hM.T];exact u),x⟩
   ·obtain⟨p,hi⟩|⟨u,rfl⟩:=cs e
    ·obtain⟨s,s1,E⟩:=hM.tx i w p;grind
    ·exact⟨b,app (by rw[hM.tlen];exact u),hb⟩
   ·rw[Jw];exact⟨hM.rnd,ay,λw g v hv e=>by simp_all⟩
   ·obtain g|g:=rV.1 g
    ·obtain⟨c,c1,c2⟩:=hM.ob1 w g;grind
    grind
   ·obtain d|rfl:=n4 c d
    ·obtain⟨w,G,H⟩:=hM.ob2 c d;grind
    simp_all
  have A:hasB i0.L k=true↔k∈i0.L:=by grind [hasB,ba_eq]
  refine⟨_,rfl,R++[y],[y],?_,rfl,λz=>ay,?_⟩
  ·show Mir t a (R++[y]) ⟨_,_,if hasB i0.L k then i0.L else i0.L++[k]⟩;split
   ·rename_i d;exact m _ hM.nd (A.1 d) (λ_ d=>d)<|λ_ d=>.inl d
   ·rename_i d;refine m _ ?_ ay (λc d=>jT d) (λc d=>by simp_all);rw[Jw];exact⟨hM.nd,ay,λw g v hv e=>by simp_all⟩
  grind
end
section
variable {t:PTree} {a:Mach} {y:List Int} {S:List (List Int)}
def Suc(a:Mach)(y z:List Int):Prop:=∃s∈a.X,zkd a y s=some (z,1)
def Rch(a:Mach):Nat->List Int->Prop
 |0,x=>x=List.replicate a.size 0
 |n+1,x=>Rch a n x\/∃y,Rch a n y/\Suc a y x
theorem vki(h:Sy t a)(d:yg a.z a.size y)(f:Suc a y c):yg a.z a.size c:=by obtain⟨s,b,e⟩:=f;obtain⟨r,g,_,i⟩:=out_ok h.G.B.M d b;simp_all
theorem jwr(h:Sy t a):∀(n:Nat)(x:List Int),Rch a n x->yg a.z a.size x
 |0,x,e=>by rw[show x=_ from e];exact h.G.B.f
 |n+1,x,e=>by
  obtain e|⟨y,b,c⟩:=e
  ·exact jwr h n x e
  ·exact vki h (jwr h n y b) c
theorem pz5(h:Sy t a)(l:yg a.z a.size c)(m:yg a.z a.size y)(hA:Alk t a c y)(p:Suc a c a9):∃w,Suc a y w/\Alk t a a9 w:=by obtain⟨τ,f,q⟩:=hA;obtain⟨s,j,e⟩:=p;obtain⟨s',d,r',g,b,i⟩:=jk0 h.G f l m q j e;obtain⟨w,k⟩:=r';have b:k=1:=b;subst b;exact⟨w,⟨s',d,g⟩,τ,f,i rfl⟩
theorem jzq(h:Sy t a)(d:yg a.z a.size c)(e:yg a.z a.size y)(hA:Alk t a c y)(b:qxx a c):qxx a y:=by obtain⟨τ,f,g⟩:=hA;exact pk1 h.G f d e g b
theorem jq4(h:Sy t a)(b:yg a.z a.size y)(d:RSt a.z (tuV t idτ) S y):∀(L:List RIn),(∀X∈L,X∈kq4 t t.l)->∀(R:List (List Int)) (x:SnR),Mir t a R x->x.L.length+L.length<=600 ->
  ∃x',qjf t S L x=some x'/\∃R' q,Mir t a R' x'/\R'=R++q/\(∀z,z∈R'↔z∈R\/∃X∈L,zkd a y (zwm X)=some (z,1))/\x.L.length<=x'.L.length/\x'.L.length<=x.L.length+L.length
 |[],_,R,x,hM,_=>⟨x,rfl,R,[],hM,ay,λz=>ay,jH,ay⟩
 |X::L,hL,R,x,hM,hf=>by
  rw[Qb]at hf;have f:=hL X<|rZ ..;have c:∀X∈L,X∈kq4 t t.l:=λX f=>hL X<|jS f
  have p:=(qjq h.G.right<|jT f).1;have s:zwm X∈a.X:=by rw[h.G.X];grind
  obtain⟨r,w,_,A⟩:=out_ok h.G.B.M b s;obtain⟨S',l,m,_⟩:=p.one (h.G.both<|zjz) b d r w;rw[qjf,l];simp only[rQ];by_cases e:r.2=1
  ·rw[lJ (by simp_all)];obtain⟨x1,j,g,F,u,B,C,D,E⟩:=pw2 h hM (A e) (m e) aj;rw[j];simp only[rQ];obtain⟨x2,k,i,v,n1,n2,n3,n4,n5⟩:=jq4 h b d L c g x1 u aj;grind
  ·rw[Xy (by simp_all)];obtain⟨x2,k,i,v,n1,n2,n3,n4,n5⟩:=jq4 h b d L c R x hM aj;grind
theorem pvg(h:Sy t a):Suc a y c↔∃X∈kq4 t t.l,zkd a y (zwm X)=some (c,1):=by unfold Suc;rw[h.G.X];grind
theorem pya(h:Sy t a)(f:most<=500):∀(n i:Nat) (R:List (List Int)) (x:SnR),Mir t a R x->i+n<=R.length->x.L.length<=most+45 ->
  ∃x',zwj t most n i x=some x'/\∃R' q,Mir t a R' x'/\R'=R++q/\(∀z∈R',z∈R\/∃(j:Nat)(y:List Int),i<=j/\j<i+n/\R[j]?=some y/\Suc a y z)/\x'.L.length<=most+45/\(most<x'.L.length\/∀(j:Nat)(y:List Int),i<=j->j<i+n->R[j]?=some y->∀z,Suc a y z->z∈R')
 |0,i,R,x,hM,_,hf=>⟨x,rfl,R,[],hM,ay,λz b=>.inl b,hf,.inr λj y h1 A=>aj⟩
 |n+1,i,R,x,hM,hi,hf=>by
  rw[zwj];by_cases hb:x.L.length<=most
  ·rw[lJ hb];have c:i<R.length:=aj;have d:=wW c;obtain⟨S,s1,w⟩:=hM.st i _ d;rw[s1];simp only[rQ];have C:(kq4 t t.l).length<=45:=by have:=h.G.B.few;rw[h.G.X,Ql]at this;omega
   obtain⟨x1,k,e,u,s,D,E,F,G⟩:=jq4 h (hM.ok _<|wZ c) w (kq4 t t.l) (λ_ m=>m) R x hM aj;rw[k];simp only[rQ];obtain⟨x2,l,g,v,n1,n2,n3,n4,n5⟩:=pya h f n (i+1) e x1 s (by grind) aj;have p:∀j,j<R.length->e[j]?=R[j]?:=λj B=>by grind
   refine⟨x2,l,g,u++v,n1,by simp_all,λz b=>?_,n4,?_⟩
   ·grind [pvg]
   grind [pvg]
  ·rw[Xy hb];exact⟨x,rfl,R,[],hM,ay,λz b=>.inl b,hf,.inl aj⟩
theorem pkb(h:Sy t a)(c:yg a.z a.size y)(d:RSt a.z (tuV t idτ) S y):∃v,zzj t S=some v/\(jxu v=false↔qxx a y):=by
 obtain⟨v,hv,_⟩:=look_ok h.G.B.M c;refine⟨v,?_,?_⟩
 ·unfold lookO at hv;obtain⟨tx,i,hv⟩:=wu.1 hv;obtain⟨p,f,hv⟩:=wu.1 hv;obtain⟨b,g,hv⟩:=wX.1 hv;rw[h.G.X]at f;rw[h.G.q]at g;unfold zzj;rw[vkt h c d ⟨tx,i,rfl⟩];simp only[rQ];rw[jyq (h.G.both (zjz)) c d _ _ _ _ (λX e=>(qjq h.G.right (jT e)).1) f];simp only[rQ];rw[jyx (h.G.both (zjz)) c d _ _ _ (λX e=>(qjq h.G.right (jN e)).1) g,<-hv];rfl
 ·rw[<-zxp h.G c hv];grind [jxu,endOf]
theorem pjv(h:Sy t a):∀(R:List (List Int)) (L:List (List (List Int))),L.length=R.length->(∀(i:Nat)(y:List Int),R[i]?=some y->yg a.z a.size y/\∃S,L[i]?=some S/\RSt a.z (tuV t idτ) S y)->∃b,zwv t L=some b/\(b=false↔∀y∈R,qxx a y)
 |[],[],_,_=>⟨false,rfl,ay⟩
 |y::R,S::L,hl,hR=>by
  obtain⟨d,S',e,c⟩:=hR 0 y rfl;injection e with e;subst e;obtain⟨v,f,j⟩:=pkb h d c;rw[zwv,f];simp only[rQ];cases hb:jxu v
  ·rw[Xy ay];obtain⟨b,b1,g⟩:=pjv h R L (by simp_all) λi y hi=>hR (i+1) y (by simp_all)
   simp_all
  simp_all
end
end Go.Proofs.YtpmcnonmkghokaaGreatDoor

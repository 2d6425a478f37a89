import Derived.Test.YtpmcnonmkghokaaGreatDoorT10
import Derived.Test.YtpmcnonmkghokaaGreatDoorT07
import Derived.Test.YtpmcnonmkghokaaGreatDoorT09
set_option linter.unusedVariables false
set_option linter.unusedSimpArgs false
namespace Go.Proofs.YtpmcnonmkghokaaGreatDoor
open Go.Proofs.Tryz Go.RowKit
variable {g9:Bool}{b7 b8:ByteArray}{f:Fnd}{b b6 e:Int}{all:List (List Int)}{b9 c sets st y:List Int}{us vars:List MVar}{ks:List PKind}{rs:List PRule}{ss:List PSet}{ways:List SWay}{ts:List Turn}{p p' s w w':List UInt8}{τ:List UInt8->Int->Int}{e0:List UInt8->Nat}{α:Type}{l:List α}{u:MVar}{a:Mach}{a9:MdL}{i j k m most n sz z:Nat}{a8:PKind}{r:PRule}{q:PSet}{t:PTree}{a6:PVar}{a5:RIn}{e7:SSt}{x:SWay}{tab:Tab}{T:Turn}{ty:VT}
section
variable {t:PTree} {tab:Tab} {vars:List MVar} {mt:kq3} {ksz ssz:List UInt8->Nat} {size:Nat} {st:List Int} {S:List (List Int)} {tu:Tu}
theorem qq8.fit(h:qq8 tab ssz a5):StepFit tab ssz (zwm a5):=
 ⟨h.par,⟨h.guard.xv,h.xx,h.guard.some,h.nod,h.typ⟩,⟨h.S.xv,h.bnum,h.btyp⟩⟩
theorem vxy:∀(L:List RIn)(s:List UInt8),(∀x∈L,(riT x).toList≠s)->zv4 t S L s=some none
 |[],s,_=>rfl
 |x::L,s,h=>by rw[zv4,Xy (by simp_all)];exact vxy L s<|λy d=>h y<|jB d
theorem vxw(h:Both t tab vars mt ksz ssz size tu idτ)(g:yg vars size st)(i:RSt vars tu S st):∀(L:List RIn),(∀x∈L,qq8 tab ssz x)->(L.map (λx=>(riT x).toList)).Nodup->∀(s:List UInt8)(r:List Int×Bool),qw3 vars mt st s (L.map zwm)=some r ->
  ∃q,zv4 t S L s=some q/\(r.2=true->yg vars size r.1/\∃S',q=some S'/\RSt vars tu S' r.1)/\(r.2=false->q=none)
 |[],_,_,s,r,d=>by
  rw[List.map_nil,qw3]at d;injection d with d;subst d;exact⟨none,rfl,(λe=>mZ),λ_=>rfl⟩
 |x::L,hL,hn,s,r,d=>by
  rw[Qm,QM]at hn;rw[Qm,qw3]at d;have j:=hL x<|rZ ..;have l:(zwm x).x=riT x:=rfl;rw[l]at d;cases f:((riT x).toList==s)
  ·rw[f,Xy ay]at d;rw[zv4,f,Xy ay];exact vxw h g i L (λy p=>hL y<|jB p) hn.2 s r d
  ·rw[f,lJ rfl]at d;have⟨q,m,d⟩:=wX.1 d;subst d;have⟨S',k,v,e3⟩:=j.one h g i q m;rw[zv4,f,lJ rfl,k];simp only[rQ];rw[su]at f;cases h1:(q.2==1)
   ·grind [vxy]
   ·rw[lJ rfl];have u:q.2=1:=by simp_all
    have⟨z,g1,w,_⟩:=pj4 h.env h.disj g j.fit;simp_all
theorem jv6(h:Both t tab a.z a.C ksz ssz a.size tu idτ)(h1:a.X=(kq4 t t.l).map zwm)(u:a.q=(kq4 t t.q).map pzr)(hn:((kq4 t t.l).map (λx=>(riT x).toList)).Nodup)(k:∀x∈kq4 t t.l++kq4 t t.q,qq8 tab ssz x)(g:∀st S,yg a.z a.size st->RSt a.z tu S st->∀tx,zqh a.z st=some tx->zj9 t S S.length=some ⟨tx.toArray⟩):∀(ts:List ByteArray) (i:Nat) (st:List Int) (S:List (List Int)) (r:vyp),yg a.z a.size st->RSt a.z tu S st->vq9 a ts i st=some r->qvn t ts i S=some r
 |[],i,st,S,r,hs,hS,d=>by
  rw[vq9]at d;split at d
  ·have⟨v,hv,d⟩:=wX.1 d;subst d;unfold lookO at hv;have⟨tx,j,hv⟩:=wu.1 hv;have⟨p,e,hv⟩:=wu.1 hv;have⟨b,e3,hv⟩:=wX.1 hv;rw[h1]at e;rw[u]at e3;have g1:=g st S hs hS tx j;have m:=jyq h hs hS _ _ _ _ (λx l=>k x<|jU l) e;grind [jyx,qvn,zzj]
  simp_all
 |s::ts,i,st,S,r,hs,hS,d=>by
  rw[vq9]at d;split at d
  ·have⟨q,y,d⟩:=wu.1 d;rw[h1]at y;have⟨f,j,e,e3⟩:=vxw h hs hS _ (λx l=>k x<|jU l) hn s.toList q y;rw[qvn,j];simp only[rQ];cases w:q.2
   ·simp_all
   ·rw[w,lJ rfl]at d;obtain⟨g1,S',rfl,m⟩:=e w;exact jv6 h h1 u hn k g ts (i+1) q.1 S' r g1 m d
  simp_all
end
variable {g9:Bool}{b7 b8:ByteArray}{f:Fnd}{b b6 e:Int}{all:List (List Int)}{b9 c sets st y:List Int}{us vars:List MVar}{ks:List PKind}{rs:List PRule}{ss:List PSet}{ways:List SWay}{ts:List Turn}{p p' s w w':List UInt8}{τ:List UInt8->Int->Int}{e0:List UInt8->Nat}{α:Type}{l:List α}{u:MVar}{a:Mach}{a9:MdL}{i j k m most n sz z:Nat}{a8:PKind}{r:PRule}{q:PSet}{t:PTree}{a6:PVar}{a5:RIn}{e7:SSt}{x:SWay}{tab:Tab}{T:Turn}{ty:VT}
section
variable {t:PTree} {vars:List MVar} {size:Nat} {st:List Int} {S:List (List Int)} {tu:Tu}
def xvn(t:PTree)(vars:List MVar)(tu:Tu):Prop:=t.z.length=vars.length/\∀k u pv,vars[k]?=some u->t.z[k]?=some pv->kwv pv=!(u.g==-1)/\((u.g==-1)=true->u.d=1)/\u.d<=10/\(∀x∈u.a,x.size<=800)/\(∀n:Nat,n<u.a.length->zk1 t pv ((tu k).2 n)=u.a[n]?)/\∀j,(tu k).1 j=j
theorem zqj(a b:List UInt8):(⟨a.toArray⟩:ByteArray)++⟨b.toArray⟩=⟨(a++b).toArray⟩:=by apply ByteArray.ext;simp
theorem xyj(x:ByteArray):(⟨x.data.toList.toArray⟩:ByteArray)=x:=ay
theorem btl(x:ByteArray):x.data.toList.length=x.size:=ay
theorem bsz(a:List UInt8):(⟨a.toArray⟩:ByteArray).size=a.length:=by simp[ByteArray.size]
theorem vjc(hv:∀n:Nat,n<u.a.length->zk1 t a6 ((tu k).2 n)=u.a[n]?)(hi:∀j,(tu k).1 j=j)(p:∀x∈u.a,x.size<=800)(i:∀j,j<u.d->∃x,st[u.f+j]?=some x/\y[(tu k).1 j]?=some ((tu k).2 x)):∀(n:Nat)(r:List UInt8),n<=u.d->n<=10->qvg u st n=some r->rowP t a6 y n=some ⟨r.toArray⟩/\r.length<=801*n
 |0,r,_,_,d=>by rw[qvg]at d;injection d with d;subst d;exact⟨rfl,ay⟩
 |n+1,r,hn,hn2,d=>by
  rw[qvg]at d;have⟨l,q,d⟩:=wu.1 d;have⟨tx,h,d⟩:=wu.1 d;split at d
  ·injection d with d;subst d;have⟨s,A⟩:=vjc hv hi p i n l aj aj q;have⟨m,h1,e⟩:=kyb h;have⟨x,g1,f⟩:=i n aj;rw[hi]at f;rw[h1]at g1;injection g1 with g1;subst g1;have g:=(rY.1 e).1;have w:=p tx<|wB e;have v:(kk9 n).length<=1:=by unfold kk9;grind
   have z:=btl tx;refine⟨?_,by grind⟩;rw[rowP,s];simp only[rQ];rw[f];simp only[rQ];rw[hv m g,e];simp only[rQ];rw[lJ ⟨by rw[bsz];omega,aj⟩];congr 1
   unfold kk9;split
   ·rw[show(⟨#[32]⟩:ByteArray)=⟨([32]:List UInt8).toArray⟩ from rfl,zqj];simp
   ·rw[<-xyj tx,zqj];simp
  simp_all
theorem zkj(C:yg vars size st)(j:RSt vars tu S st)(g:xvn t vars tu)(B:vars.length<=10):∀(n:Nat)(r:List UInt8),n<=vars.length->zj7 vars st n=some r->zj9 t S n=some ⟨r.toArray⟩/\r.length<=9000*n
 |0,r,_,f=>by rw[zj7]at f;injection f with f;subst f;exact⟨rfl,ay⟩
 |n+1,r,hn,f=>by
  obtain⟨l,u,tl,h1,i,d,_,rfl,_⟩:=qxs f;have⟨K,H⟩:=zkj C j g B n l aj h1;have p:n<t.z.length:=by rw[g.1];omega
  have⟨o1,o2,o3,o4,s,v⟩:=g.2 n u t.z[n] i (wW p);have⟨y,g1,w,g3⟩:=j.2 n u i;have E:(kk9 n).length<=1:=by unfold kk9;grind
  have key:∃rw_,rowP t t.z[n] y y.length=some rw_/\rw_.size<=8100/\(⟨tl.toArray⟩:ByteArray)=(if kwv t.z[n] then (⟨#[91]⟩++rw_)++⟨#[93]⟩ else rw_)/\tl.length<=8200:=by
   unfold vq5 at d;cases e:(u.g==-1)
   ·rw[e,Xy ay]at d;have⟨a,z,d⟩:=wX.1 d;subst d;have⟨I,J⟩:=vjc s v o4 g3 u.d a jV o3 z;grind [bsz,zqj]
   ·rw[e,lJ rfl]at d;have⟨tx,q,d⟩:=wu.1 d;split at d
    ·injection d with d;subst d;have A:=o2 e;have⟨m,D,h⟩:=kyb q;have k:=(rY.1 h).1;have F:=o4 tx<|wB h;have⟨x,k1,k2⟩:=g3 0 aj;rw[v]at k2;rw[Qk,D]at k1;injection k1 with k1;subst k1;rw[o1,e,w,A];have G:=btl tx;refine⟨tx,?_,aj,?_,aj⟩
     ·rw[rowP,rowP];simp only[rQ];rw[k2];simp only[rQ];rw[s m k,h];simp only[rQ];rw[lJ ⟨ak,aj⟩,Xy aj];congr 1
     simp
    simp_all
  grind [zj9,bsz,kk9,zqj]
end
theorem kyi(h:NamesFine t):((jc t).map (·.x.toList)).Nodup:=by unfold List.Nodup;rw[sQ];intro i j hi e d;rw[Zz,Zz];exact h.uniq j i d (by simp_all) (by simp_all)
theorem kye(t:PTree):jc t=t.j.flatMap zjy++(t.p.flatMap kx7++(t.z.flatMap zwg++(t.l++t.q).flatMap kyz)):=by grind [jc,qj3,qvs,qvf]
theorem pze(t:PTree):(qx4 (ql t)).map (·.1)=(t.p.flatMap λk=>k.i)++t.z.flatMap zwg:=by
 unfold qx4;rw[Qw,Jp,jxm];congr 1
 ·simp only[jka];rfl
 ·show(t.z.map jw).map (·.y)=_;rw[Jz,Zd];rfl
theorem vzj(t:PTree):((qx4 (ql t)).map (·.1)).Sublist (jc t):=by rw[pze,kye];exact((qzv (λk=>ZC _ _) t.p).append<|JK _ _).trans (J5 _ _)
theorem jjx(h:NamesFine t):((kzg (ql t)).map (·.1.toList)).Nodup:=by
 have e:(kzg<|ql t).map (·.1.toList)=((qx4<|ql t).map (·.1)).map (·.x.toList):=by simp_all [kzg]
 grind [vzj,kyi]
theorem vx0(h:NamesFine t):(t.p.map (·.y.x.toList)).Nodup:=by
 have s:(t.p.flatMap λk=>[k.y]).Sublist (jc t):=by rw[kye];exact((qzv (λk=>((Zj _).cons_cons _)) t.p).trans<|JK _ _).trans (J5 _ _)
 have:=(s.map (·.x.toList)).nodup<|kyi h;grind
theorem vjg(h:NamesFine t):(t.l.map (·.y.x.toList)).Nodup:=by
 have s:(t.l.flatMap kyz).Sublist (jc t):=by grind [kye]
 have:=(s.map (·.x.toList)).nodup<|kyi h;have e:t.l.flatMap kyz=t.l.map (·.y):=by rw[Zd];rfl
 grind
theorem py3(h:NamesFine t)(d:TreeSize t):qwc (qx4 (ql t)) []=some (kzg (ql t)):=by
 rw[pqx (qx4 (ql t)) [] ?_ ?_]
 ·rfl
 ·grind [jjx,kzg]
 ·intro x e;have h1:x.1∈jc t:=(vzj t).subset<|Qx e;have:=(d.nm _<|(qy6 t).subset h1).2;omega
theorem qyi(h:NamesFine t){a7:Tok×Mean}(d:a7∈qx4 (ql t)):kjw (kzg (ql t)) a7.1.x.toList=a7.2:=
 vzr (kzg<|ql t) _ (jjx h) (a7.1.x,a7.2) (Qx (f:=λa7:Tok×Mean=>(a7.1.x,a7.2)) d) rfl
def ssz(m:MdL)(s:List UInt8):Nat:=(qzt m.j s).getD 0
def ksz(m:MdL)(s:List UInt8):Nat:=match kwe m.p s with|some k=>k.i.length|none=>0
theorem zzb:∀(l:List PSet)(s:List UInt8),(∃q∈l,q.y.x.toList=s)->∃k x,kkq l s=some k/\l[k]?=some x/\x∈l
 |[],s,⟨q,d,_⟩=>qY
 |x::l,s,⟨q,d,e⟩=>by
  rw[kkq];cases f:(x.y.x.toList==s)
  ·rw[QG]at f;obtain rfl|d:=tZ.1 d
   ·simp_all
   ·have⟨k,y,h1,g,h⟩:=zzb l s ⟨q,d,e⟩;simp_all
  simp
theorem qwa{f:α->ByteArray}(h:¬zx (l.map f) s<0):∃q∈l,(f q).toList=s:=by apply Qp;simp_all [kwg]
theorem jq7(h:Right t)(f:¬zx (ug t) s<0):∃n,qzt t.j s=some n/\2<=n/\n<=3/\ssz (ql t) s=n:=by
 have⟨k,x,h1,g,d⟩:=zzb t.j s<|qwa f;have hb:=h.bnd.size x d;have e:qzt t.j s=some (mg x.size.x).toNat:=by grind [qzt,jym]
 grind [ssz,ql]
theorem qju:∀{l:List PKind}{s:List UInt8}{k:PKind},kwe l s=some k->k∈l/\k.y.x.toList=s
 |x::l,s,k,h=>by
  rw[kwe]at h;split at h
  ·simp_all
  ·have⟨h1,d⟩:=qju h;simp_all
theorem jyw:∀(l:List PKind)(s:List UInt8),(∃q∈l,q.y.x.toList=s)->∃k,kwe l s=some k
 |[],s,⟨q,d,_⟩=>qY
 |x::l,s,⟨q,d,e⟩=>by
  rw[kwe];cases f:(x.y.x.toList==s)
  ·rw[QG]at f;obtain rfl|d:=tZ.1 d
   ·simp_all
   ·rw[Xy ay];exact jyw l s ⟨q,d,e⟩
  simp
theorem pqa:∀{l:List PKind},(l.map (·.y.x.toList)).Nodup->∀{k:PKind},k∈l->kwe l k.y.x.toList=some k
 |x::l,hn,k,d=>by
  rw[Qm,QM]at hn;rw[kwe];obtain rfl|d:=tZ.1 d
  ·simp
  ·rw[Xy]
   ·exact pqa hn.2 d
   grind
theorem xv9(h:NamesFine t)(d:a8∈t.p):ksz (ql t) a8.y.x.toList=a8.i.length:=by grind [ksz,ql,pqa,vx0]
theorem xvq(h:Right t)(s:List UInt8):ksz (ql t) s<=1000:=by
 unfold ksz;cases d:kwe (ql t).p s with
 |none=>simp
 |some k=>
  have:=h.bnd.xy k (qju d).1;grind
theorem xkd(s:List UInt8):ssz a9 s<=1000:=by
 unfold ssz;cases d:qzt a9.j s with
 |none=>simp
 |some n=>
  grind [kkx]
structure UOk (m:MdL)(u:MVar)(d:VrT):Prop where
 cnt:u.d=if d.K then ssz m d.g.x.toList else 1
 D:1<=u.d
 R:u.d<=3
 few:u.a.length<=200
 ne:0<u.a.length
 tru:(kqm (qm m) d.si).b=1->u.a.length=2
 kin:(kqm (qm m) d.si).b=3->u.a.length=ksz m (kqm (qm m) d.si).y.toList
 set:(kqm (qm m) d.si).b=4->u.a.length=ssz m (kqm (qm m) d.si).y.toList+1
 txt:∀x∈u.a,x.size<=800/\0<x.size
theorem xq2(i:Nat):(kvh i).size=1:=rfl
theorem jj4:∀x∈kvx n,x.size<=800/\0<x.size:=by grind [kvx,xq2]
theorem xvg(h:Right t)(hv:a6∈t.z):∃c,(if (jw a6).K then qzt t.j (jw a6).g.x.toList else some 1)=some c/\1<=c/\c<=3/\c=if (jw a6).K then ssz (ql t) (jw a6).g.x.toList else 1:=by
 have⟨L,d,j⟩:=h.M;have⟨h1,_⟩:=d.z a6 hv;cases k:(jw a6).K
 ·simp
 ·have e:(a6.g.t.toList==mX)=true:=by grind [jw,dh]
  have⟨n,f,g,e3,i⟩:=jq7 h<|h.xt.g a6 hv e;grind [jw]
theorem xkg(h:Right t)(hv:a6∈t.z):∃l,vqi t.j t.p (jw a6).si=some l/\l.length<=200/\0<l.length/\((kqm (qm (ql t)) (jw a6).si).b=1->l.length=2)/\((kqm (qm (ql t)) (jw a6).si).b=3->l.length=ksz (ql t) (kqm (qm (ql t)) (jw a6).si).y.toList)/\((kqm (qm (ql t)) (jw a6).si).b=4->l.length=ssz (ql t) (kqm (qm (ql t)) (jw a6).si).y.toList+1)/\∀x∈l,x.size<=800/\0<x.size:=by
 have⟨L,i,v⟩:=h.M;have q:=kxk v i;have⟨_,u⟩:=i.z a6 hv;obtain⟨k1,k2,_⟩|⟨k1,k2,_,_⟩|⟨k1,_⟩:=u
 ·have e:(jw a6).si=⟨0,zh,zh⟩:=by unfold jw;simp_all
  rw[e];refine⟨kvx 2,rfl,by rw[kx1];omega,by rw[kx1];omega,λ_=>kx1 2,λe=>?_,λe=>?_,jj4⟩
  ·have:(1:Int)=3:=e;omega
  ·have:(1:Int)=4:=e;omega
 ·have e:(jw a6).si=⟨1,a6.R,zh⟩:=by unfold jw;simp_all
  have hb:=h.bnd.R (jw a6) (Qx hv) qG;rw[e]at hb |-;have D:1<=mg a6.R.x/\mg a6.R.x<=3:=hb;refine⟨kvx<|(mg a6.R.x).toNat+1,?_,by rw[kx1];omega,by rw[kx1];omega,λe=>?_,λe=>?_,λe=>?_,jj4⟩
  ·show(jym a6.R.x).map (λn=>kvx<|n+1)=_;grind [jym]
  ·have:(2:Int)=1:=e;omega
  ·have:(2:Int)=3:=e;omega
  ·have:(2:Int)=4:=e;omega
 ·have e:(jw a6).si=⟨2,zh,a6.k⟩:=by unfold jw;simp_all
  rw[e];have w:kqm (qm<|ql t) ⟨2,zh,a6.k⟩=if (zl (qm<|ql t) a6.k.x.toList).V==1 then ⟨4,a6.k.x⟩ else ⟨3,a6.k.x⟩:=rfl
  have z:vqi t.j t.p ⟨2,zh,a6.k⟩=match kwe t.p a6.k.x.toList with|some k=>some (k.i.map (·.x))|none=>(qzt t.j a6.k.x.toList).map λm=>⟨#[45]⟩::kvx m:=rfl
  rw[w,z];by_cases A:(zl (qm<|ql t) a6.k.x.toList).V=1
  ·rw[lJ (by simp_all)];have p:kwe t.p a6.k.x.toList=none:=by
    cases g:kwe t.p a6.k.x.toList with
    |none=>rfl
    |some k=>
     have⟨f,C⟩:=qju g;have:=zy9 h.xt<|zks f;simp_all
   have⟨n,s,E,e3,F⟩:=jq7 h<|(qz0 t).1 A;rw[p,s];refine⟨⟨#[45]⟩::kvx n,rfl,by rw[Qb,kx1];omega,ay,λe=>?_,λe=>?_,λ_=>?_,λx d=>?_⟩
   ·simp_all
   ·simp_all
   ·grind [kx1]
   ·obtain rfl|d:=tZ.1 d
    ·exact⟨ak,ak⟩
    ·exact jj4 x d
  ·rw[Xy (by simp_all)];have j:zx (ug t) a6.k.x.toList<0:=by grind [qz0]
   have⟨k,g⟩:=jyw t.p a6.k.x.toList (qwa<|h.xt.k a6 hv (by simp_all) j);have⟨f,C⟩:=qju g;have G:=h.bnd.xy k f;rw[g];refine⟨k.i.map (·.x),rfl,by grind,by rw[Ql];exact h.M.choose_spec.1.p k f,λe=>?_,λ_=>?_,λe=>?_,λx d=>?_⟩
   ·simp_all
   ·grind [ksz,ql]
   ·simp_all
   ·obtain⟨y,B,rfl⟩:=tY.1 d;have:=q.nm _<|kwy f (jB B);exact⟨this.2,this.1⟩
theorem xvh(h:Right t)(hv:a6∈t.z)(sz:Nat):∃u,qw4 t.j t.p sz (jw a6)=some u/\u.f=sz/\UOk (ql t) u (jw a6):=by have⟨c,c1,c2,c3,c4⟩:=xvg h hv;have⟨l,l1,d,l3,e,f,g,i⟩:=xkg h hv;unfold qw4;rw[c1,l1];exact⟨_,rfl,rfl,c4,c2,c3,d,l3,e,f,g,i⟩
def vmk(ss:List PSet)(ks:List PKind):List VrT->Nat->Option (List MVar×Nat)
 |[],sz=>some ([],sz)
 |v::l,sz=>(qw4 ss ks sz v).bind λu=>(vmk ss ks l<|sz+u.d).map λr=>(u::r.1,r.2)
structure VsOk (m:MdL)(l:List VrT)(sz:Nat)(us:List MVar)(z:Nat):Prop where
 T:us.length=l.length
 D:sz<=z
 R:z<=sz+3*l.length
 v:∀j (hj:j<l.length),∃u,us[j]?=some u/\UOk m u l[j]
 fit:∀u∈us,sz<=u.f/\u.f+u.d<=z
 disj:qzm us
theorem jw3(h:Right t):∀(l:List PVar),(∀v∈l,v∈t.z)->∀sz,∃us z,vmk t.j t.p (l.map jw) sz=some (us,z)/\VsOk (ql t) (l.map jw) sz us z
 |[],_,sz=>⟨[],sz,rfl,rfl,jV,jV,(λj k=>by grind),(λu g=>by cases g),λi j u v g=>ay⟩
 |v::l,hl,sz=>by
  have⟨u,s,w,m⟩:=xvh h (hl v<|rZ ..) sz;have⟨us,z,A,f⟩:=jw3 h l (λx d=>hl x<|jB d)<|sz+u.d;have q:=m.R;have a1:=f.D;have a2:=f.R;have a3:=f.T;refine⟨u::us,z,?_,?_,aj,?_,?_,?_,?_⟩
  ·grind [vmk]
  ·simp_all
  ·grind
  ·intro j k;cases j with
   |zero=>simp_all
   |succ j=>
    have⟨x,x1,x2⟩:=f.v j (by simp_all);simp_all
  ·intro x d;obtain rfl|d:=tZ.1 d
   ·omega
   ·have:=f.fit x d;omega
  ·intro i j x y d e p;cases i with
   |zero=>
    cases j with
    |zero=>omega
    |succ j=>
     rw[sW]at d;injection d with d;subst d;rw[sU]at e;have:=f.fit y<|wB e;omega
   |succ i=>
    rw[sU]at d;cases j with
    |zero=>
     rw[sW]at e;injection e with e;subst e;have:=f.fit x<|wB d;omega
    |succ j=>
     rw[sU]at e;exact f.disj i j x y d e aj
theorem pkc:∀(l:List VrT)(sz:Nat)(r:List MVar×Nat),vmk ss ks l sz=some r->sz<=r.2
 |[],sz,r,h=>by
  have e:some (([]:List MVar),sz)=some r:=h;grind
 |v::l,sz,r,h=>by rw[vmk]at h;have⟨u,g,d⟩:=wu.1 h;have⟨r',f,i⟩:=wX.1 d;have:=pkc l _ _ f;grind
theorem vyn:∀(l:List VrT)(i:Nat)(t t':kq3)(vs us:List MVar)(sz z:Nat),qwc (vqu l i) t=some t'->vmk ss ks l sz=some (us,z)->z<=100000->vs.length+l.length<=1000->qjh ss ks l i t vs sz=some (t',vs++us,z)
 |[],i,t,t',vs,us,sz,z,h1,h2,h3,h4=>by
  have q:some t=some t':=h1;have s:some (([]:List MVar),sz)=some (us,z):=h2;grind [qjh]
 |v::l,i,t,t',vs,us,sz,z,h1,h2,h3,h4=>by
  rw[vqu,qwc]at h1;have⟨d,j,k⟩:=wu.1 h1;rw[vmk]at h2;have⟨u,m,p⟩:=wu.1 h2;have⟨r,g,e⟩:=wX.1 p;injection e with e h;have w:sz+u.d<=z:=by rw[<-h];exact pkc l _ _ g
  have f:zku t v.y.x ⟨true,i⟩=some d:=j;rw[Qb]at h4;rw[qjh,f];show(if sz<=100000/\vs.length<=1000 then (qw4 ss ks sz v).bind λu=>qjh ss ks l (i+1) d (vs++[u]) (sz+u.d) else none)=_;rw[lJ aj,m];show qjh ss ks l (i+1) d (vs++[u]) (sz+u.d)=_;rw[vyn l (i+1) d t' (vs++[u]) r.1 (sz+u.d) r.2 k g aj (by grind),h,<-e];simp
theorem pyj(h:Right t)(f:TreeSize t)(hv:vmk t.j t.p (t.z.map jw) 0=some (us,z))(g:z<=100000):∃d,qxb t.p []=some d/\qjh t.j t.p (t.z.map jw) 0 d [] 0=some (kzg (ql t),us,z):=by
 have e:=py3 h.xt f;unfold qx4 at e;rw[jqh]at e;have⟨d,i,j⟩:=wu.1 e;refine⟨d,by rw[jv8];exact i,?_⟩;have hn:=h.bnd.z;have:=vyn (ss:=t.j) (ks:=t.p) (t.z.map jw) 0 d _ [] us 0 z j hv g (by grind [ql])
 simp_all
theorem xvw(h:Right t)(hv:VsOk (ql t) (t.z.map jw) 0 us z):EnvOk (qm (ql t)) us (kzg (ql t)) (ksz (ql t)) (ssz (ql t)) z:=by
 refine⟨λs d=>?_,λs d=>?_,λs I=>?_,xvq h,xkd,?_⟩
 ·rw[kz0]at d |-;obtain⟨e,_⟩|⟨j,p,g1,G,e⟩:=kz1 (kjl<|ql t) s
  ·rw[e]at d;cases d
  ·rw[e]at d |-;simp only at d |-;obtain g|g|g|g|g|g:=kw3 _ (wZ p)
   ·omega
   ·omega
   ·have⟨_,k,y,A,w⟩:=g;have⟨i,hi,F⟩:=wG A;have l:((kjl<|ql t)[j].1,(⟨false,0+i⟩:Mean))∈qx4 (ql t):=by grind [qx4,jy7]
    have m:=qyi h.xt l;simp only[g1]at m;rw[m,w,xv9 h.xt y];simp_all
   ·omega
   ·omega
   omega
 ·have⟨C,D⟩:=qwo h.xt s;have v:=C.1 d;have⟨hi,ev⟩:=D v;have⟨E,J⟩:=kwu v;have q:(t.z[(zx (zf t) s).toNat]).y.x.toList=s:=by grind [zf]
  generalize (zx (zf t) s).toNat=i at hi ev q;have p:i<(t.z.map jw).length:=by simp_all
  have l:((t.z.map jw)[i].y,(⟨true,0+i⟩:Mean))∈qx4 (ql t):=jP<|zk2 (t.z.map jw) 0 i p;have m:=qyi h.xt l;have en:(t.z.map jw)[i].y.x.toList=s:=by rw[Zz];exact q
  simp only[en]at m;have⟨u,B,f⟩:=hv.v i p;rw[m,ev];refine⟨rfl,u,by simp_all,?_⟩;have x:=hv.fit u<|wB B;rw[Zz]at f;exact⟨x.2,f.cnt,f.D,f.few,f.tru,f.kin,f.set⟩
 ·grind [jjw]
 ·have h1:=hv.R;have H:=h.bnd.z;grind [ql]
theorem pvd{b5:List VrT}(hv:VsOk a9 b5 0 us z):yg us z (List.replicate z 0):=by refine⟨Qh,λv e j k=>?_⟩;obtain⟨i,hi,rfl⟩:=wG e;have⟨u,d,g⟩:=hv.v i (by rw[<-hv.T];exact hi);rw[wW hi]at d;injection d with d;have h:=hv.fit us[i] e;have f:=g.ne;rw[<-d]at f;exact⟨0,by grind,Int.le_refl _,aj⟩
theorem vy2(h:y∈kqh n all):∃c∈all,∃j:Nat,j<n/\y=c++[(j:Int)]:=by grind [kqh]
theorem qxr(n:Nat):∀all:List (List Int),(kqh n all).length=all.length*n
 |[]=>by simp[kqh]
 |c::l=>by have e:kqh n (c::l)=((List.range n).map λ(j:Nat)=>c++[(j:Int)])++kqh n l:=rfl;rw[e,rD,qxr n l,Ql,List.length_range,Qb,Nat.add_mul];omega
theorem jyt(h:all.Nodup):(kqh n all).Nodup:=by grind [kqh,List.nodup_range,List.append_inj']
theorem xxa:∀(l:List PP) (all:List (List Int)),(∀p∈l,∃n,qzt ss p.Q.x.toList=some n/\n<=3)->all.length*3 ^ l.length<=100000->all.Nodup ->
  ∃c,chO ss l all=some c/\c.Nodup/\c.length<=all.length*3 ^ l.length/\∀x∈c,∃y∈all,∃z:List Int,x=y++z/\z.length=l.length/\∀i (hi:i<l.length) (hz:i<z.length),0<=z[i]/\z[i]<((qzt ss l[i].Q.x.toList).getD 0:Nat)
 |[],all,_,hb,hn=>⟨all,rfl,hn,ay,λx e=>⟨x,e,[],ay,rfl,λi hi=>ay⟩⟩
 |p::l,all,hl,hb,hn=>by
  have⟨n,h1,f⟩:=hl p<|rZ ..;have d:=qxr n all;have g:1<=3 ^ l.length:=Nat.one_le_pow _ _ aj;rw[Qb,Nat.pow_succ]at hb;have k:(kqh n all).length*3 ^ l.length<=all.length*(3 ^ l.length*3):=by rw[d,Nat.mul_assoc];refine Z9 _ ?_;rw[Nat.mul_comm];exact Z9 _ f
  have j:(kqh n all).length<=(kqh n all).length*3 ^ l.length:=Nat.le_mul_of_pos_right _ g;have⟨c,c1,c2,c3,c4⟩:=xxa l (kqh n all) (λq h=>hl q<|jB h) aj<|jyt hn;refine⟨c,?_,c2,by grind,λx e=>?_⟩
  ·grind [chO]
  grind [vy2]
def zwy(z:List Int):Prop:=z.length<=2/\∀x∈z,0<=x/\x<4
theorem zk5(h:y.length<=2):y=[]\/(∃a,y=[a])\/∃a b,y=[a,b]:=by
 match y,h with
 |[],_=>simp
 |[a],_=>simp
 |[a,b],_=>simp
 |a::b::c::l,h=>simp at h
def zxx(z:List Int):List UInt8:=Go.Lib.join ((z.map λi=>kvh i.toNat).map (·.data.toList)) [44]
def dgB(a:Int):UInt8:=(48+a.toNat).toUInt8
theorem jjt:zxx []=[]:=rfl
theorem zke(a:Int):zxx [a]=[dgB a]:=kM
theorem zka(a b:Int):zxx [a,b]=[dgB a,44,dgB b]:=kM
theorem xvz(h:zwy y):zqi y=true:=by
 have e:(zxx y).length<=3:=by
  obtain rfl|⟨a,rfl⟩|⟨a,b,rfl⟩:=zk5 h.1
  ·rw[jjt];simp
  ·rw[zke];simp
  ·rw[zka];simp
 unfold zqi;rw[rG,rG,sJ];refine⟨⟨λx d=>?_,?_⟩,?_⟩
 ·have:=h.2 x d;grind
 ·have:=h.1;grind
 grind [zxx]
theorem jvx(n:ByteArray)(z:List Int):(kv0 n z).toList=n.toList++(40::(zxx z++[41])):=by grind [kv0,qvl,yj,ByteArray.data_append,zxx]
theorem jyb(d:0<=e)(h1:e<4):dgB e≠40:=by have:e=0\/e=1\/e=2\/e=3:=aj;obtain rfl|rfl|rfl|rfl:=this<;>decide
theorem pj8(f:0<=b6)(h1:b6<4)(g:0<=b)(h:b<4)(e:dgB b6=dgB b):b6=b:=by have d:b6=0\/b6=1\/b6=2\/b6=3:=aj;have hb:b=0\/b=1\/b=2\/b=3:=aj;obtain rfl|rfl|rfl|rfl:=d<;>obtain rfl|rfl|rfl|rfl:=hb<;>first|rfl|exact absurd e ak
theorem pqi(h:zwy y)(d:zwy b9)(e:(kv0 b7 y).toList=(kv0 b8 b9).toList):b7.toList=b8.toList/\y=b9:=by
 rw[jvx,jvx]at e;have i:=congrArg List.reverse e;obtain rfl|⟨a,rfl⟩|⟨a,b,rfl⟩:=zk5 h.1<;>obtain rfl|⟨a',rfl⟩|⟨a',g,rfl⟩:=zk5 d.1
 ·simp_all
 ·have f:=d.2 a' ay;grind [jjt,zke,jyb]
 ·have hb:=d.2 g ay;grind [jjt,zka,jyb]
 ·have f:=h.2 a ay;grind [jjt,zke,jyb]
 ·have f:=h.2 a ay;have j:=d.2 a' ay;simp only[zke]at e;have⟨k,l⟩:=Zi e rfl;grind [pj8]
 ·simp[zke,zka]at i
 ·have hb:=h.2 b ay;grind [jjt,zka,jyb]
 ·simp[zke,zka]at i
 ·have f:=h.2 a ay;have j:=d.2 a' ay;have hb:=h.2 b ay;have m:=d.2 g ay;simp only[zka]at e;have⟨k,l⟩:=Zi e rfl;grind [pj8]
theorem kx9.xx:∀{x:PX},kx9 x->zxs x
 |.node _ _ x a c,h=>by
  obtain⟨j,rfl,rfl⟩|⟨g,f,rfl⟩|⟨g,f,i⟩:=h
  ·refine⟨λe=>?_,trivial,trivial⟩;obtain(d|d|d)|⟨d,h1,k⟩|⟨d,_⟩:=j
   ·rw[d]at e;exact absurd e ak
   ·rw[d]at e;exact absurd e ak
   ·rw[d]at e;exact absurd e ak
   ·omega
   ·rw[d]at e;exact absurd e ak
  ·exact⟨λe=>by rw[g]at e;exact absurd e ak,f.xx,trivial⟩
  ·refine⟨λe=>?_,f.xx,i.xx⟩;obtain q|q|q|q|q|q|q:=qjz g<;>rw[q]at e<;>exact absurd e ak
theorem kkz.xx:∀{b:PB},kkz b->BSm b->jze b
 |.nil,_,_=>trivial
 |.node _ _ a .nil n,⟨_,h2,_,h⟩,⟨s1,s2⟩=>⟨⟨h2.xx,aj⟩,h.xx s2⟩
 |.node _ _ a (.node _ _ _ t e) n,⟨h1,_,_,h4,h5,h6⟩,⟨s1,s2,s3,s4⟩=>⟨⟨h1.xx,aj⟩,h4.1.xx s2,h5.1.xx s3,h6.xx s4⟩
theorem xjn(h:Right t)(f:r∈t.l++t.q):∃c,chO t.j r.u [[]]=some c/\c.Nodup/\c.length<=9/\∀z∈c,zwy z/\ParOk (ssz (ql t)) r.u z:=by
 have g:r.u.length<=2:=h.bnd.pars r f;have h9:3 ^ r.u.length<=9:=by have:r.u.length=0\/r.u.length=1\/r.u.length=2:=aj;grind
 have⟨c,c1,c2,c3,c4⟩:=xxa (ss:=t.j) r.u [[]] (λp g=>by have⟨n,d,_,e3,_⟩:=jq7 h<|h.xt.psets r f p g;simp_all) (by grind) ay;refine⟨c,c1,c2,by grind,λz q=>?_⟩;have⟨y,j,u,d,k,e3⟩:=c4 z q;rw[Qq]at j;subst j;rw[Qd]at d;subst d;refine⟨⟨aj,λx m=>?_⟩,k,λi hi l=>e3 i hi l⟩;obtain⟨i,hi,rfl⟩:=wG m;have e:i<r.u.length:=aj;have⟨a1,a2⟩:=e3 i e hi;have⟨n,d,_,s,_⟩:=jq7 h<|h.xt.psets r f r.u[i] (wZ e);grind
theorem qyz:∀{b:PB},ky6 b->qxq b=true
 |.nil,_=>rfl
 |.node _ _ a .nil n,h=>qyz (b:=n) h
 |.node _ _ a (.node _ _ _ t e) n,⟨⟨h1,h2⟩,⟨h3,h4⟩,h5⟩=>by rw[qxq,qyz h1,qyz h3,qyz h5,Qz h2,Qz h4];rfl
theorem jxe{d:List Tok}(h:∀y∈d,y.x.size<=1000):zjj d=true:=sJ.2 λy e=>Qz<|h y e
structure RGood (t:PTree)(r:PRule):Prop where
 ch:∃c,chO t.j r.u [[]]=some c/\c.Nodup/\c.length<=9/\∀z∈c,zwy z/\ParOk (ssz<|ql t) r.u z
 par:r.u.length<=1000
 nm:r.y.x.size<=1000
 xv:qj4 r.guard/\zxs r.guard/\isNil r.guard=false/\kk5 r.guard<=4000/\(gy (qm<|ql t) r.u r.guard).b=1
 blk:qzh r.S/\jze r.S
 fitG:zjj (bf r.guard)=true
 fitB:qxq r.S=true/\kqq r.S<=1000/\zjj (je r.S)=true
theorem jqu(h:Right t)(d:r∈t.l++t.q):RGood t r:=by
 have⟨L,f,j⟩:=h.M;have s:=kxk j f;have g:kvw r:=by
  obtain d|d:=rV.1 d
  ·exact f.l r d
  ·exact(f.q r d).1
 have i:(gy (qm<|ql t) r.u r.guard).b=1:=by
  have:=h.typ;unfold qqf at this;rw[rG]at this;obtain d|d:=rV.1 d
  ·have:=sJ.1 this.1 r d;grind [zql]
  ·have:=sJ.1 this.2 r d;grind [vw6]
 have⟨x,b,k,x1,x2⟩:=g;have l:=h.bnd.pars r d;refine⟨xjn h d,aj,?_,⟨x.xv,x.xx,x.some,aj,i⟩,⟨b.xv,b.xx x2⟩,jxe λy e=>?_,qyz b.T,by rw[qkq];omega,jxe λy e=>?_⟩
 ·have:=(s.nm _<|kxv d (rZ ..)).2;omega
 ·rw[kze x]at e;have:=(s.nm _<|kxv d (jkf e)).2;omega
 ·rw[kxo b]at e;have:=(s.nm _<|kxv d (vz8 e)).2;omega
theorem pyf(h:RGood t r){d6:List (List Int)}(g:d6.length<=9)(f:∀z∈d6,zwy z/\ParOk (ssz (ql t)) r.u z)(hn:n<=100000):qzf r d6 n=true:=by have d:=h.par;have e:=h.nm;grind [qzf,xvz]
def xj0(t:PTree)(l:List PRule)(s:MStep):Prop:=∃r∈l,∃z,s=zjm r z/\zwy z/\ParOk (ssz (ql t)) r.u z
theorem vj1:∀(l:List PRule)(acc:List MStep),(∀r∈l,RGood t r)->(l.map (·.y.x.toList)).Nodup->acc.length+9*l.length<=100000 ->
  ∃S,qqo t.j l acc=some (acc++S)/\S.length<=9*l.length/\(∀s∈S,xj0 t l s)/\(S.map (·.x.toList)).Nodup
 |[],acc,_,_,_=>⟨[],by rw[qqo,Qs],ay,(λs d=>qY),ay⟩
 |r::l,acc,hl,hn,hb=>by
  have m:=hl r<|rZ ..;have⟨c,c1,c2,c3,c4⟩:=m.ch;rw[Qm,QM]at hn;rw[Qb]at hb;have⟨S,s1,w,s3,v⟩:=vj1 l (acc++c.map (zjm r)) (λx f=>hl x<|jB f) hn.2 (by grind);refine⟨c.map (zjm r)++S,?_,by grind,λs d=>?_,?_⟩
  ·grind [qqo,pyf]
  ·obtain d|d:=rV.1 d
   ·obtain⟨z,h,rfl⟩:=tY.1 d;exact⟨r,rZ ..,z,rfl,c4 z h⟩
   ·have⟨r',g,z,q⟩:=s3 s d;exact⟨r',jB g,z,q⟩
  ·rw[Qw,Jw];refine⟨?_,v,?_⟩
   ·rw[Jz];unfold List.Nodup;rw[J6];refine List.Pairwise.imp_of_mem ?_ c2;intro a b k j i e;exact i (pqi (c4 a k).1 (c4 b j).1 e).2
   ·intro x f y p e;rw[Jz]at f;obtain⟨z,h,rfl⟩:=tY.1 f;obtain⟨s,d,rfl⟩:=tY.1 p;obtain⟨r',g,A,rfl,u,_⟩:=s3 s d;have:=(pqi (c4 z h).1 u e).1;grind
def xk0(t:PTree)(l:List PRule)(s:MNever):Prop:=∃r∈l,∃z,s=qvv r z/\zwy z/\ParOk (ssz (ql t)) r.u z
theorem jkt:∀(l:List PRule)(acc:List MNever),(∀r∈l,RGood t r)->acc.length+9*l.length<=100000 ->
  ∃S,kvf t.j l acc=some (acc++S)/\S.length<=9*l.length/\(∀s∈S,xk0 t l s)
 |[],acc,_,_=>⟨[],by rw[kvf,Qs],ay,λs d=>qY⟩
 |r::l,acc,hl,hb=>by
  have f:=hl r<|rZ ..;have⟨c,c1,c2,c3,c4⟩:=f.ch;rw[Qb]at hb;have⟨S,s1,i,s3⟩:=jkt l (acc++c.map (qvv r)) (λx g=>hl x<|jB g) (by grind);refine⟨c.map (qvv r)++S,?_,by grind,λs d=>?_⟩
  ·grind [kvf,pyf]
  ·obtain d|d:=rV.1 d
   ·obtain⟨z,h,rfl⟩:=tY.1 d;exact⟨r,rZ ..,z,rfl,c4 z h⟩
   ·have⟨r',e,z,q⟩:=s3 s d;exact⟨r',jB e,z,q⟩
structure MachOf (t:PTree)(a:Mach):Prop where
 M:MachGood (qm<|ql t) (ksz<|ql t) (ssz<|ql t) a
 f:yg a.z a.size (List.replicate a.size 0)
 X:∀s∈a.X,xj0 t t.l s
 q:∀s∈a.q,xk0 t t.q s
 few:a.X.length<=45
theorem xzy{s:ByteArray}(h:(qq4 s).1=0):∃a,qx5 s=some a/\MachOf (uz (jv s).1).1 a:=by
 have hR:=qk7 h;unfold qx5;generalize (uz (jv s).1).1=t at hR;have⟨L,E,C⟩:=hR.M;have I:=kxk C E;have⟨us,z,O,j⟩:=jw3 hR t.z (λ_ hv=>hv) 0;have B:(t.z.map jw).length<=4:=hR.bnd.z;have T:z<=12:=by have:=j.R;omega
 have⟨M,k1,k2⟩:=pyj hR I O aj;have Q:t.l.length<=5:=hR.bnd.l;have P:t.q.length<=3:=hR.bnd.q;have⟨S,s1,U,s3,K⟩:=vj1 (t:=t) t.l [] (λr e=>jqu hR<|jU e) (vjg hR.xt) (by grind);have⟨N,n1,n2,n3⟩:=jkt (t:=t) t.q [] (λr e=>jqu hR<|jP e) (by grind);rw[Qd]at s1 n1;have A:=j.T;have w:∀r∈t.l,kkj (qm<|ql t) r.u r.S=true:=λr e=>by have:=hR.typ;unfold qqf at this;rw[rG]at this;have:=sJ.1 this.1 r e;grind [zql]
 have D:zkh (ql t)=true:=by
  have p:t.j.length<=2:=hR.bnd.j;have q:t.p.length<=2:=hR.bnd.p;unfold zkh;have J:((ql t).p.all λx=>decide (x.i.length<=1000))=true:=sJ.2 λk F=>Qz (by have:=hR.bnd.xy k F;omega)
  grind [ql]
 have H:jy5 (ql t)=some ⟨S,N,kje t.j,us,kzg<|ql t,z⟩:=by unfold jy5;show(qxb t.p []).bind _=_;rw[k1];show(qjh t.j t.p (t.z.map jw) 0 M [] 0).bind _=_;rw[k2];show(qqo t.j t.l []).bind _=_;rw[s1];show(kvf t.j t.q []).map _=_;rw[n1];rfl
 have G:zq0 ⟨S,N,kje t.j,us,kzg<|ql t,z⟩=true:=by
  unfold zq0;have p:S.all qym=true:=sJ.2 λx f=>by obtain⟨r,e,ms,rfl,_⟩:=s3 x f;have g:=jqu hR<|wY t.q e;show qym ⟨_,r.u,ms,r.guard,r.S⟩=true;unfold qym;simp only;rw[Qz g.par,g.fitG,g.fitB.1,Qz g.fitB.2.1,g.fitB.2.2];rfl
  have q:N.all zkm=true:=sJ.2 λx f=>by obtain⟨r,e,ms,rfl,_⟩:=n3 x f;have g:=jqu hR<|rJ t.l e;show zkm ⟨_,r.u,ms,r.guard⟩=true;unfold zkm;simp only;rw[Qz g.par,g.fitG];rfl
  simp only;rw[p,q,Qz (by omega:us.length<=1000),Qz (by omega:S.length<=1000000),Qz (by omega:N.length<=1000000)];rfl
 refine⟨⟨S,N,kje t.j,us,kzg<|ql t,z⟩,?_,?_⟩
 ·simp_all
 ·have y:∀v∈us,∃d,UOk (ql t) v d:=λv hv=>by obtain⟨i,hi,rfl⟩:=wG hv;have⟨u,V,W⟩:=j.v i aj;grind
  have R:=hR.M.choose_spec.1.vne;rw[Ql]at A B;refine⟨⟨xvw hR j,j.disj,λv hv=>?_,λv hv=>?_,?_,?_,λx f=>?_,λx f=>?_,K⟩,pvd j,s3,n3,by grind⟩
  ·have⟨d,l⟩:=y v hv;have p:=j.fit v hv;have q:=l.D;have J:=l.R;grind
  ·have⟨d,l⟩:=y v hv;exact⟨l.few,l.txt⟩
  ·simp_all
  ·grind
  ·obtain⟨r,e,ms,rfl,_,m⟩:=s3 x f;have g:=jqu hR<|wY t.q e;exact⟨m,g.xv,g.blk.1,g.blk.2,w r e⟩
  ·obtain⟨r,e,ms,rfl,_,m⟩:=n3 x f;have g:=jqu hR<|rJ t.l e;exact⟨m,g.xv⟩
section
variable {t:PTree}
theorem kym:∀{l:List PSet}{s:List UInt8}{k:Nat},kkq l s=some k->zx (l.map λq=>q.y.x) s=k
 |x::l,s,k,h=>by
  rw[kkq]at h;rw[Qm,zx];split at h
  ·grind
  ·rename_i d;obtain⟨m,h1,rfl⟩:=wX.1 h;rw[Xy d,kym h1,Xy aj];rfl
theorem jwp(h:Right t)(i:¬zx (ug t) s<0):∃n,qzt t.j s=some n/\jzt t s n/\szN t s=n/\ssz (ql t) s=n:=by have⟨n,d,j,e3,f⟩:=jq7 h i;have⟨k,x,k1,k2,k3,k4⟩:=kkx d;obtain⟨e,rfl⟩:=rY.1 k2;have⟨L,g,l⟩:=h.M;have hA:jzt t s n:=⟨k,e,kym k1,g.j _<|wZ e,k3,aj,aj⟩;exact⟨n,d,hA,hA.eq,f⟩
theorem xqq(n:Nat):kqh n [[]]=(List.range n).map λ(j:Nat)=>[(j:Int)]:=by simp[kqh]
theorem xvp(m n:Nat):kqh m ((List.range n).map λ(j:Nat)=>[(j:Int)])=(List.range n).flatMap λ(a:Nat)=>(List.range m).map λ(b:Nat)=>[(a:Int),(b:Int)]:=by simp[kqh,List.flatMap_map]
theorem xvx(h:a5∈qx8 t r):a5.r=r:=by grind [qx8,qx7]
theorem pym(h:Right t)(g:r∈t.l++t.q):chO t.j r.u [[]]=some ((qx8 t r).map (·.ms)):=by
 have e:r.u.length<=2:=h.bnd.pars r g;have d:∀p∈r.u,qzt t.j p.Q.x.toList=some (szN t p.Q.x.toList)/\szN t p.Q.x.toList<=9:=λp e=>by have⟨n,k,j,e3,_⟩:=jwp h<|h.xt.psets r g p e;have⟨_,_,_,_,_,_,m⟩:=j;simp_all
 unfold qx8 qx7 kwo;generalize r.u=l at e d |-;match l,e,d with
 |[],_,_=>rfl
 |[p],_,d=>
  have⟨f,i⟩:=d p ay;rw[chO,f];simp only[rQ];rw[xqq,lJ (by grind),chO];grind [List.map_flatMap,List.map_eq_flatMap]
 |[p,q],_,d=>
  have⟨f,i⟩:=d p ay;have⟨y1,y2⟩:=d q ay;have s:szN t p.Q.x.toList*szN t q.Q.x.toList<=9*9:=Jt i y2;rw[chO,f];simp only[rQ];rw[xqq,lJ (by grind),chO,y1];simp only[rQ];rw[lJ (by rw[qxr];grind),xvp,chO];simp[Jp,Function.comp_def]
 |p::q::x::l,e,_=>simp_all
theorem vj2:∀(l:List PRule)(acc S:List MStep),(∀r∈l,chO ss r.u [[]]=some ((qx8 t r).map (·.ms)))->qqo ss l acc=some S->S=acc++(kq4 t l).map zwm
 |[],acc,S,_,h=>by
  grind [qqo,kq4]
 |r::l,acc,S,hl,h=>by
  rw[qqo,hl r (rZ ..)]at h;simp only[rQ]at h;split at h
  ·rw[vj2 l _ S (λx d=>hl x (jB d)) h,sZ];unfold kq4;rw[Jy,Qw,Jz];congr 2
   exact Zc λx d=>by rw[<-xvx d];rfl
  simp_all
theorem jkr:∀(l:List PRule)(acc S:List MNever),(∀r∈l,chO ss r.u [[]]=some ((qx8 t r).map (·.ms)))->kvf ss l acc=some S->S=acc++(kq4 t l).map pzr
 |[],acc,S,_,h=>by
  grind [kvf,kq4]
 |r::l,acc,S,hl,h=>by
  rw[kvf,hl r (rZ ..)]at h;simp only[rQ]at h;split at h
  ·rw[jkr l _ S (λx d=>hl x (jB d)) h,sZ];unfold kq4;rw[Jy,Qw,Jz];congr 2
   exact Zc λx d=>by rw[<-xvx d];rfl
  simp_all
theorem pyb(h:a5∈kq4 t rs):∃r∈rs,a5∈qx8 t r/\a5.r=r:=by have⟨r,d,h⟩:=rM.1 h;exact⟨r,d,h,xvx h⟩
theorem qjq(h:Right t)(f:a5∈kq4 t t.l++kq4 t t.q):qq8 (qm (ql t)) (ssz (ql t)) a5/\a5.ms.length<=2/\a5.r∈t.l++t.q:=by
 have key:∃r∈t.l++t.q,a5∈qx8 t r/\a5.r=r/\kkj (qm<|ql t) r.u r.S=true:=by
  have k:=h.typ;unfold qqf at k;rw[rG]at k;have⟨L,i,q⟩:=h.M;obtain f|f:=rV.1 f
  ·have⟨r,d,h1,l⟩:=pyb f;have:=sJ.1 k.1 r d;grind [zql]
  ·have⟨r,d,h1,l⟩:=pyb f;exact⟨r,jP d,h1,l,by rw[(i.q r d).2];rfl⟩
 obtain⟨r,d,B,rfl,hb⟩:=key;have g:=jqu h d;have⟨L,i,q⟩:=h.M;have j:kvw a5.r:=by
  obtain d|d:=rV.1 d
  ·exact i.l _ d
  ·exact(i.q _ d).1
 have⟨c,c1,_,_,c4⟩:=g.ch;rw[pym h d]at c1;injection c1 with c1;have⟨x,z⟩:=c4 a5.ms (by grind);refine⟨⟨z,λs C=>?_,j.1,g.xv.2.1,g.xv.2.2.2.1,g.xv.2.2.2.2,j.2.1,g.blk.2,hb⟩,x.1,d⟩;cases u:fpB a5.r.u s
 ·rfl
 ·have⟨p,v,e⟩:=(zyz).1 u;have A:=(zky t s).2 λy w m=>h.xt.pars a5.r d p v y w (m.trans e.symm)
  omega
end
section
variable {t:PTree}
theorem jw4:∀(l:List VrT)(sz:Nat)(us:List MVar)(z:Nat),vmk ss ks l sz=some (us,z)->∀j (hj:j<l.length),∃u sz',us[j]?=some u/\qw4 ss ks sz' l[j]=some u
 |v::l,sz,us,z,h,j,hj=>by
  rw[vmk]at h;have⟨u,k,e⟩:=wu.1 h;have⟨r,f,d⟩:=wX.1 e;injection d with d m;subst d;cases j with
  |zero=>grind
  |succ j=>
   have⟨x,s',g,i⟩:=jw4 l _ r.1 r.2 f j (by simp_all);grind
theorem zko:∀{l:List PKind}{s:List UInt8}{k:PKind},kwe l s=some k->∃i:Nat,zx (l.map λq=>q.y.x) s=i/\l[i]?=some k
 |x::l,s,k,h=>by
  rw[kwe]at h;rw[Qm,zx];split at h
  ·rename_i d;injection h with h;subst h;exact⟨0,by simp_all,rfl⟩
  ·rename_i d;have⟨i,h1,e⟩:=zko h;exact⟨i+1,by grind,by simp_all⟩
theorem xv1(h:Right t){d7:Tok}(k:d7∈kzt t)(g:s∈lits):d7.x.toList≠s:=by have⟨L,f,d⟩:=h.M;have⟨j,l⟩:=f.nms.mem d7 k;obtain⟨i,hi,rfl⟩:=wG j;have e:tk L i=L[i]:=getD_at hi;have ok:=(d.ok i hi).lit s g;grind [vj9]
theorem Right.txt(h:Right t):TreeTxt t:=by
 have⟨L,e,f⟩:=h.M;have s:=kxk f e;refine⟨λk d=>(s.nm _<|kwy d (rZ ..)).1,λv hv=>⟨e.z v hv,λd=>(s.nm _<|qqm hv ?_).1,λd=>(s.nm _<|qqm hv ?_).1⟩⟩
 ·unfold kxi kyv;simp_all
 ·unfold kxi kyv;simp_all
structure VSame (t:PTree)(v:PVar)(u:MVar)(T:VT):Prop where
 top2:T.b=2->∀x:Int,kky v x=(decide (x<0)||decide ((u.a.length:Int)<=x))
 topN:T.b≠2->∀x:Int,kky v x=false
 g:kwv v=!(u.g==-1)
 one:(u.g==-1)=true->u.d=1
 cnt:qxz t v u.d
 uniq:∀n,qxz t v n->n=u.d
 zero:zvy t v=0-shT T
 txt:∀n:Nat,n<u.a.length->zk1 t v ((n:Int)-shT T)=u.a[n]?
theorem jy3(h:n<m):(kvx m)[n]?=some (kvh n):=by simp[kvx,h]
theorem vqv(h:Right t)(hv:a6∈t.z)(A:qw4 t.j t.p sz (jw a6)=some u):VSame t a6 u (kqm (qm (ql t)) (jw a6).si):=by
 obtain⟨L,I,P⟩:=h.M;have J:=kxk P I;obtain⟨C,K⟩:=I.z a6 hv;obtain⟨es,N⟩:=jq9 h.xt h.txt hv;have i:kx3 (kj2 t a6)=((kqm (qm<|ql t) (jw a6).si).b==4):=by rw[es,zki N]
 have O:=zzg (qm<|ql t) (jw a6).si;unfold qw4 at A;obtain⟨c,j,A⟩:=wu.1 A;obtain⟨tx,g,rfl⟩:=wX.1 A;have D:kwv a6=!(kji t.j a6.g.x.toList==-1)/\(kwv a6=false->c=1)/\qxz t a6 c/\∀n,qxz t a6 n->n=c:=by
  obtain e|e:=C
  ·have H:kwv a6=false:=by unfold kwv;rw[e,dh];rfl
   have hA:(jw a6).K=false:=by show(!(a6.g.t.toList==[]))=false;rw[e,dh];rfl
   rw[hA,Xy ay]at j;injection j with j;have B:kkq t.j a6.g.x.toList=none:=by
    cases p:kkq t.j a6.g.x.toList with
    |none=>rfl
    |some k=>
     have h1:=kym p;obtain⟨q,T,G⟩:=qwa (f:=λq:PSet=>q.y.x) (l:=t.j) (s:=a6.g.x.toList) aj;have X:=(J.nm _<|jjj T).1;rw[e,show zh.x.toList=[] from jh _,yj]at G;grind [btl]
   grind [qxz,kji]
  ·have H:kwv a6=true:=e;have hA:(jw a6).K=true:=by show(!(a6.g.t.toList==[]))=true;simp_all
   rw[hA,lJ rfl]at j;have j:qzt t.j a6.g.x.toList=some c:=j;obtain⟨n,z,G,e3,_⟩:=jwp h<|h.xt.g a6 hv e;rw[j]at z;injection z with z;subst z;obtain⟨k,_,k1,_⟩:=kkx j;unfold qxz kji;rw[H,k1];refine⟨?_,λe=>mZ,by simp_all,λn hn=>?_⟩
   ·simp
   ·rw[lJ rfl]at hn;rw[<-hn.eq,e3]
 obtain⟨c1,c2,c3,c4⟩:=D;have M:zvy t a6=0-shT (kqm (qm<|ql t) (jw a6).si):=by grind [zvy,shT]
 have F:a6.R=zh->∀x:Int,kky a6 x=false:=λe x=>by unfold kky;rw[e,dh];rfl
 have v:a6.k.x.toList∈lits->zx (uy t) a6.k.x.toList<0:=λS=>(kwg _ _).2 λx V=>by obtain⟨k,E,rfl⟩:=tY.1 V;exact xv1 h (kwy E<|rZ ..) S
 have y:(kji t.j a6.g.x.toList==-1)=true->c=1:=λe=>c2 (by simp_all)
 suffices p:(∀n:Nat,n<tx.length->zk1 t a6 ((n:Int)-shT (kqm (qm<|ql t) (jw a6).si))=tx[n]?)/\((kqm (qm<|ql t) (jw a6).si).b=2->∀x:Int,kky a6 x=(decide (x<0)||decide ((tx.length:Int)<=x)))/\((kqm (qm<|ql t) (jw a6).si).b≠2->∀x:Int,kky a6 x=false) from⟨p.2.1,p.2.2,c1,y,c3,c4,M,p.1⟩
 clear c1 c2 c4 M y j C es O;obtain⟨k1,k2,k3⟩|⟨k1,k2,k3,k4⟩|⟨k1,k3⟩:=K
 ·have e:(jw a6).si=⟨0,zh,zh⟩:=by unfold jw;simp_all
  have U:=v (by rw[k2];decide);rw[e]at g i |-;have g:some (kvx 2)=some tx:=g;injection g with g;subst g;refine⟨λn hn=>?_,λe=>absurd e (by show ¬(1:Int)=2;decide),λ_=>F k3⟩;rw[kx1]at hn;grind [zk1,shT,kqm,jy3]
 ·have e:(jw a6).si=⟨1,a6.R,zh⟩:=by unfold jw;simp_all
  have U:=v (by rw[k2];decide);rw[e]at g i |-;have g:(jym a6.R.x).map (λn=>kvx<|n+1)=some tx:=g;obtain⟨d,d1,rfl⟩:=wX.1 g;obtain⟨d2,d3⟩:=zq8 d1;refine⟨λn hn=>?_,λ_ x=>?_,λe=>absurd rfl e⟩
  ·rw[kx1]at hn;grind [zk1,shT,kqm,jy3]
  grind [kky,kx1]
 ·have e:(jw a6).si=⟨2,zh,a6.k⟩:=by unfold jw;simp_all
  rw[e]at g i |-;have Q:kqm (qm<|ql t) ⟨2,zh,a6.k⟩=if (zl (qm<|ql t) a6.k.x.toList).V==1 then ⟨4,a6.k.x⟩ else ⟨3,a6.k.x⟩:=rfl
  have R:vqi t.j t.p ⟨2,zh,a6.k⟩=match kwe t.p a6.k.x.toList with|some k=>some (k.i.map (·.x))|none=>(qzt t.j a6.k.x.toList).map λm=>⟨#[45]⟩::kvx m:=rfl
  rw[Q]at i |-;rw[R]at g;have E:(a6.k.t.toList==mX)=true:=by simp_all
  by_cases w:zx (uy t) a6.k.x.toList<0
  ·have p:¬zx (ug t) a6.k.x.toList<0:=λp=>h.xt.k a6 hv E p w
   rw[(qz0 t).2 p,lJ ak]at i |-;have B:kwe t.p a6.k.x.toList=none:=by grind [zko,uy]
   rw[B]at g;obtain⟨m,Y,rfl⟩:=wX.1 g;grind [kkx,kx1,zk1,shT,jy3]
  ·rw[jv3 h.xt w,Xy ak]at i |-;obtain⟨k,W⟩:=jyw t.p a6.k.x.toList<|qwa w;grind [zko,uy,zk1,shT]
end
section
variable {t:PTree}
def tuV(t:PTree)(τ:List UInt8->Int->Int):Tu:=λk=>match t.z[k]? with|some v=>(plX τ (jw v).K (jw v).g.x.toList,ftT τ (kqm (qm (ql t)) (jw v).si))|none=>(id,id)
theorem kxc(d:k<t.z.length):tuV t τ k=(plX τ (jw t.z[k]).K (jw t.z[k]).g.x.toList,ftT τ (kqm (qm (ql t)) (jw t.z[k]).si)):=by unfold tuV;simp_all
theorem pqt:∀{l:List PKind}{s:List UInt8},0<=(kjj l s).1->∃k∈l,∃j,∃f:j<k.i.length,k.i[j].x.toList=s/\(kjj l s).2=(j:Int)
 |[],s,h=>by simp[kjj]at h
 |k::l,s,h=>by
  rw[kjj]at h |-;by_cases h1:0<=zx (kjp k) s
  ·rw[lJ h1];have⟨hi,e⟩:=kwu h1;grind [kjp]
  ·rw[Xy h1]at h |-;by_cases d:(kjj l s).1<0
   ·simp_all
   ·rw[Xy d];have⟨k',m,j,f,g,i⟩:=pqt (by omega:0<=(kjj l s).1);grind
theorem xzv:∀(l:List PKind)(s:List UInt8),(kjj l s).1<0->(kjj l s).2<0
 |[],s,_=>by simp[kjj]
 |k::l,s,h=>by grind [kjj]
theorem vyl(h:Right t)(j:(zl (qm (ql t)) s).V=4):∃hi:(kjw (kzg (ql t)) s).xx<t.z.length,zx (zf t) s=(kjw (kzg (ql t)) s).xx/\(zl (qm (ql t)) s).var=jw t.z[(kjw (kzg (ql t)) s).xx]:=by
 have⟨k,l⟩:=qwo h.xt s;have d:=k.1 j;have⟨hi,ev⟩:=l d;have⟨m,p⟩:=kwu d;have e:(t.z[(zx (zf t) s).toNat]).y.x.toList=s:=by grind [zf]
 have hn:zx (zf t) s=((zx (zf t) s).toNat:Nat):=aj;generalize (zx (zf t) s).toNat=i at hi ev e hn;have g:i<(t.z.map jw).length:=by simp_all
 have f:((t.z.map jw)[i].y,(⟨true,0+i⟩:Mean))∈qx4 (ql t):=jP<|zk2 (t.z.map jw) 0 i g;have q:=qyi h.xt f;grind [jw]
theorem pw8(h:Right t)(m:kz5 (ssz (ql t)) τ):RSame t (qm (ql t)) (kzg (ql t)) (ssz (ql t)) (tuV t τ) τ:=by
 refine⟨m,λs d=>?_,λs d=>?_⟩
 ·have⟨k,l,j,i,e,f⟩:=pqt<|(jjy h.xt s).1.1 d;have g:(k.i[j],(⟨false,0+j⟩:Mean))∈qx4 (ql t):=jU<|rM.2 ⟨k,l,jy7 k.i 0 j i⟩;have q:=qyi h.xt g;simp_all
 ·have⟨hi,e,f⟩:=vyl h d;refine⟨xzv _ _ ?_,e,?_⟩
  ·apply Qp;intro p;have:=(jjy h.xt s).1.2 aj;omega
  ·rw[kxc hi,f]
theorem vyt(h:Right t)(hv:vmk t.j t.p (t.z.map jw) 0=some (us,z))(e:k<t.z.length):∃u,us[k]?=some u/\VSame t t.z[k] u (kqm (qm (ql t)) (jw t.z[k]).si):=by have⟨u,sz,h1,d⟩:=jw4 _ _ _ _ hv k (by simp_all);grind [vqv]
theorem xxg(h:Right t)(hv:vmk t.j t.p (t.z.map jw) 0=some (us,z)):pkj t (qm (ql t)) us (kzg (ql t)):=by intro s f;have⟨hi,_,e⟩:=vyl h f;have⟨u,g,d⟩:=vyt h hv hi;rw[e];exact⟨_,u,wW hi,g,d.top2,d.topN⟩
theorem xxu(h:Right t)(hv:vmk t.j t.p (t.z.map jw) 0=some (us,z))(g:VsOk (ql t) (t.z.map jw) 0 us z):xvn t us (tuV t idτ):=by refine⟨by rw[g.T,Ql],λk u pv l j=>?_⟩;obtain⟨f,rfl⟩:=rY.1 j;have⟨u',d,e⟩:=vyt h hv f;have⟨q,u4,i⟩:=g.v k (by simp_all);rw[l]at d u4;injection d with d;injection u4 with u4;subst d;subst u4;have p:=i.R;rw[kxc f];refine⟨e.g,e.one,aj,λx m=>(i.txt x m).1,λn hn=>?_,pqk⟩;show zk1 t _ (ftT idτ _ _)=_;rw[pj3];exact e.txt n hn
theorem vj3:∀l:List PVar,(∀v∈l,∃n,qxz t v n)->∃S,kkb t l S
 |[],_=>⟨[],rfl⟩
 |v::l,h=>by have⟨n,hn⟩:=h v<|rZ ..;have⟨S,d⟩:=vj3 l (λx e=>h x<|jB e);exact⟨_,n,S,hn,rfl,d⟩
theorem pqq(h:Right t)(hv:vmk t.j t.p (t.z.map jw) 0=some (us,z))(i:VsOk (ql t) (t.z.map jw) 0 us z):∃S,kkb t t.z S/\RSt us (tuV t idτ) S (List.replicate z 0):=by
 have⟨S,g⟩:=vj3 (t:=t) t.z λv m=>by obtain⟨k,d,rfl⟩:=wG m;have⟨u,_,f⟩:=vyt h hv d;exact⟨_,f.cnt⟩
 refine⟨S,g,by rw[g.T,i.T,Ql],λk u l=>?_⟩;have d:k<t.z.length:=by have h1:=(rY.1 l).1;have q:=i.T;simp_all
 have⟨u',e,f⟩:=vyt h hv d;rw[l]at e;injection e with e;subst e;have⟨n,n1,n2⟩:=g.get k d;have:=f.uniq n n1;subst this;have s:=i.fit u<|wB l;refine⟨_,n2,Qh,λj p=>⟨0,by grind,?_⟩⟩;rw[kxc d];show(List.replicate _ _)[plX idτ _ _ j]?=some (ftT idτ _ 0);rw[pqk,pj3,List.getElem?_replicate,lJ p,f.zero]
theorem xko(h:(qq4 b7).1=0):RefOk (uz (jv b7).1).1:=by grind [qq4,pw7,kyh]
theorem xwz(h:Right t)(d:RefOk t):PlOk t:=by
 have⟨L,j,i⟩:=h.M;have g:=kxk i j;refine⟨d.ok,d.fit,d.tops,d.l,d.q,λr f=>⟨h.bnd.pars r f,λp k=>?_,(g.nm _<|kxv f (rZ ..)).2⟩,λx l=>?_⟩
 ·have⟨n,_,e,_⟩:=jwp h<|h.xt.psets r f p k;grind
 ·have⟨_,v,g3⟩:=qjq h l;have⟨m,_,_,_,q⟩:=d.pars _ g3;have⟨s,_,u,_⟩:=d.gd _ g3;exact⟨u,q,s,m,aj⟩
theorem jy9(hR:Right (uz (jv b7).1).1)(d:qx5 b7=some a):∃us z,vmk (uz (jv b7).1).1.j (uz (jv b7).1).1.p ((uz (jv b7).1).1.z.map jw) 0=some (us,z)/\VsOk (ql (uz (jv b7).1).1) ((uz (jv b7).1).1.z.map jw) 0 us z/\a.z=us/\a.size=z/\a.C=kzg (ql (uz (jv b7).1).1)/\a.X=(kq4 (uz (jv b7).1).1 (uz (jv b7).1).1.l).map zwm/\a.q=(kq4 (uz (jv b7).1).1 (uz (jv b7).1).1.q).map pzr:=by
 unfold qx5 at d;generalize (uz (jv b7).1).1=t at hR d;have⟨L,j,i⟩:=hR.M;have k:=kxk i j;have⟨us,z,g,h⟩:=jw3 hR t.z (λ_ hv=>hv) 0;have l:(t.z.map jw).length<=4:=hR.bnd.z;have q:z<=12:=by have:=h.R;omega
 have⟨f,k1,k2⟩:=pyj hR k g aj;refine⟨us,z,g,h,?_⟩;split at d
 ·have⟨b,hb,d⟩:=wu.1 d;split at d
  ·injection d with d;subst d;unfold jy5 at hb;have k1:qxb (ql t).p []=some f:=k1;have k2:qjh (ql t).j (ql t).p (ql t).z 0 f [] 0=some (kzg<|ql t,us,z):=k2;rw[k1]at hb;simp only[rQ]at hb;rw[k2]at hb;simp only[rQ]at hb;have⟨S,s1,hb⟩:=wu.1 hb;have⟨N,n1,hb⟩:=wX.1 hb;have m:=vj2 (t:=t) _ _ _ (λr e=>pym hR<|jU e) s1;have p:=jkr (t:=t) _ _ _ (λr e=>pym hR<|jP e) n1;grind
  simp_all
 simp_all
theorem xyn{d8:List ByteArray}{d9:vyp}(d:vw1 b7 d8=some d9):xyh b7 d8 d9:=by
 unfold vw1 at d;unfold xyh;rw[<-jz9];split at d
 ·rename_i h;have h:(qq4 b7).1=0:=by simp_all
  have⟨a,m,d⟩:=wu.1 d;have hR:=qk7 h;have⟨a',e,p⟩:=xzy h;rw[m]at e;injection e with e;subst e;unfold xyx at d;split at d
  ·simp_all
  ·rename_i hb;split at d
   ·have⟨us,z,i,q,s,D,t,u,B⟩:=jy9 hR m;have⟨S,y,C⟩:=pqq hR i q;have f:=p.M;refine .inr<|.inr ⟨h,hb,xwz hR<|xko h,S,y,?_⟩;have w:Both (uz (jv b7).1).1 (qm<|ql (uz (jv b7).1).1) a.z a.C (ksz<|ql (uz (jv b7).1).1) (ssz<|ql (uz (jv b7).1).1) a.size (tuV (uz (jv b7).1).1 idτ) idτ:=⟨f.env,f.disj,by rw[t];exact pw8 hR<|zjz,by rw[s,t];exact xxg hR i⟩;refine jv6 w u B ?_ (λx A=>(qjq hR A).1) (λst S h1 j tx k=>?_) d8 0 _ S d9 p.f (by simp_all) d
    ·have:=f.nodup;rw[u,Jz]at this;exact this
    ·unfold zqh at k;have⟨l,v,g⟩:=wu.1 k;split at g
     ·cases g
     ·injection g with g;subst g;rw[j.1];exact(zkj h1 j (by rw[s];exact xxu hR i q) f.few _ l jV v).1
   simp_all
 simp_all
theorem xwe{e5:List UInt8->Nat}(h:MachGood tab e0 e5 a):∀(ts:List ByteArray)(i:Nat)(st:List Int),yg a.z a.size st->∃r,vq9 a ts i st=some r
 |[],i,st,hs=>by
  have:=hs.T;have j:=h.env.size;have⟨v,m,_⟩:=look_ok h hs;rw[vq9,lJ aj,m];simp
 |t::ts,i,st,hs=>by
  have:=hs.T;have j:=h.env.size;rw[vq9,lJ aj];by_cases d:∃x∈a.X,x.x.toList=t.toList
  ·have⟨x,f,e⟩:=d;have⟨r,k,_,l⟩:=xqg h hs a.X (λ_ g=>g) h.nodup x f;rw[<-e,k];simp only[rQ];cases hb:r.2
   ·simp
   ·rw[lJ rfl];exact xwe h ts (i+1) r.1<|l hb
  simp_all [xqy]
theorem xyg(s:ByteArray)(ts:List ByteArray):∃r,vw1 s ts=some r:=by
 unfold vw1;split
 ·rename_i f;have⟨a,e,d⟩:=xzy (s:=s) (by simp_all);have g:=d.M.env.size;rw[e];simp only[rQ];unfold xyx;split
  ·simp
  ·rw[lJ aj];exact xwe d.M ts 0 _ d.f
 simp
end
def kwc(f:Fnd):Prop:=(f.map λy=>y.1).Nodup
theorem xx2(h:kwc f)(k:List Int)(x:SWay):kwc (qzc f k x):=by grind [qzc,kwc]
theorem xx3(f:Fnd)(k:List Int)(x:SWay):f.length<=(qzc f k x).length:=by unfold qzc;grind
theorem jvc{d:Fnd×List Int}(h:qx9 a ts x f c=some d):f.length<=d.1.length/\(kwc f->kwc d.1):=by
 unfold qx9 at h;split at h
 ·have⟨r,_,h⟩:=wu.1 h;grind [xx3,xx2]
 simp_all
theorem kwq:∀(l:List MStep)(f:Fnd)(c:List Int)(q:Fnd×List Int×Bool),kzc a ts most k st l f c=some q->f.length<=q.1.length/\(kwc f->kwc q.1)/\(q.2.2=true->most<q.1.length)
 |[],f,c,q,h=>by grind [kzc]
 |s::l,f,c,q,h=>by
  rw[kzc]at h;have⟨r,_,h⟩:=wu.1 h;split at h
  ·have⟨p,d,h⟩:=wu.1 h;have⟨g1,e⟩:=jvc d;split at h
   ·grind
   ·have⟨i1,i2,i3⟩:=kwq l _ _ q h;grind
  ·exact kwq l _ _ q h
theorem zjk{a:Mach}{ts:List Turn}{n m k:Nat}{st:List Int}:∀(l:List MStep)(f:Fnd)(c:List Int)(g:Fnd)(d:List Int),kzc a ts n k st l f c=some (g,d,false) ->
  (g.length<=m->kzc a ts m k st l f c=some (g,d,false))/\(m<g.length->f.length<=m->∃g' d',kzc a ts m k st l f c=some (g',d',true)/\m<g'.length/\g'.length<=g.length)
 |[],f,c,g,d,h=>by
  grind [kzc]
 |s::l,f,c,g,d,h=>by
  rw[kzc]at h;have⟨r,i,h⟩:=wu.1 h;rw[kzc,i];simp only[rQ];split at h
  ·rename_i h1;rw[lJ h1];have⟨p,e,h⟩:=wu.1 h;have⟨g1,j⟩:=jvc e;rw[e];simp only[rQ];split at h
   ·simp_all
   ·have⟨i1,i2,_⟩:=kwq l _ _ _ h;have⟨j1,j2⟩:=zjk (m:=m) l _ _ _ _ h;grind
  ·rename_i h1;rw[Xy h1];exact zjk l _ _ _ _ h
theorem kkh:∀(l:List SWay)(at_:Nat)(f:Fnd)(c:List Int)(q:Fnd×List Int),kjh a ts most l at_ f c=some q->f.length<=q.1.length/\(kwc f->kwc q.1)
 |[],at_,f,c,q,h=>by grind [kjh]
 |x::l,at_,f,c,q,h=>by
  rw[kjh]at h;split at h
  ·have⟨p,d,h⟩:=wu.1 h;have⟨g1,e,_⟩:=kwq _ _ _ _ d;split at h
   ·grind
   ·have⟨i1,i2⟩:=kkh l _ _ _ q h;grind
  simp_all
theorem jq5{a:Mach}{ts:List Turn}{n m:Nat}:∀(l:List SWay)(at_:Nat)(f:Fnd)(c:List Int)(q:Fnd×List Int),kjh a ts n l at_ f c=some q->q.1.length<=n ->
  (q.1.length<=m->kjh a ts m l at_ f c=some q)/\(m<q.1.length->f.length<=m->∃q',kjh a ts m l at_ f c=some q'/\m<q'.1.length/\q'.1.length<=q.1.length)
 |[],at_,f,c,q,h,_=>by
  grind [kjh]
 |x::l,at_,f,c,q,h,hn=>by
  rw[kjh]at h;rw[kjh];split at h
  ·rename_i g;rw[lJ g];have⟨p,d,h⟩:=wu.1 h;have⟨i,j,k⟩:=p;have⟨_,_,g3⟩:=kwq _ _ _ _ d;simp only at h g3;split at h
   ·grind
   ·rename_i e;rw[Bool.not_eq_true]at e;subst e;have⟨i1,_⟩:=kkh l _ _ _ q h;have⟨j1,j2⟩:=zjk (m:=m) _ _ _ _ _ d;have⟨k1,k2⟩:=jq5 (m:=m) l _ _ _ q h hn;grind
  simp_all
theorem zx3[BEq α][LawfulBEq α]:∀(l s:List α),l.Nodup->(∀x∈l,x∈s)->l.length<=s.length
 |[],_,_,_=>jG
 |x::l,s,h,hs=>by
  rw[QM]at h;have h1:=zx3 l (s.erase x) h.2 (λy d=>by grind)
  grind
theorem jvq(f:Fnd):(kv5 f).length=f.length:=by grind [kv5,qyh]
structure SInv (s:SSt):Prop where
 T:s.m.length=s.Z.length
 nd:kwc s.P
theorem kyo(s:SSt):(jd s).m.length=s.m.length+(newF s.Z s.P).length:=by show(s.m++(kv5<|newF s.Z s.P).map (kv4<|newF s.Z s.P)).length=_;grind [jvq]
theorem zkf(s:SSt):(jd s).Z.length=s.Z.length+(newF s.Z s.P).length:=by show(s.Z++kv5 (newF s.Z s.P)).length=_;rw[rD,jvq]
theorem zxz(h:SInv e7)(d:kwc f):SInv ⟨(jd e7).m,(jd e7).Z,f,c⟩:=
 ⟨by show(jd e7).m.length=(jd e7).Z.length;rw[kyo,zkf,h.T],d⟩
theorem vxp(p:α->Bool):∀l:List α,l.length=(l.filter p).length+(l.filter λx=>!p x).length:=by intro a;induction a<;>grind
theorem jyv(h:SInv e7):e7.P.length<=(jd e7).m.length:=by
 rw[kyo,h.T];have h1:=vxp (λy:List Int×SWay=>e7.Z.any λk=>k==y.1) e7.P;have d:(e7.P.filter λy=>e7.Z.any λk=>k==y.1).length<=e7.Z.length:=by
  have:=zx3 ((e7.P.filter λy=>e7.Z.any λk=>k==y.1).map λy=>y.1) e7.Z (((JM (p:=λy:List Int×SWay=>e7.Z.any λk=>k==y.1) (l:=e7.P)).map _).nodup h.nd) (λx e=>by simp_all)
  simp_all
 unfold newF;omega
theorem kkf{e8:SRep}(h:qxm e7 k e=some e8):e8.xr=e7.m.length/\e8.err=0/\e8.end_=e:=by unfold qxm at h;obtain⟨l,_,rfl⟩:=wX.1 h;simp
theorem qyr:∀(fuel:Nat)(s:SSt)(r:SRep),kjk a ts n fuel s=some r->r.err=0->(jd s).m.length<=r.xr/\r.xr<=n
 |0,s,r,h,_=>by rw[kjk]at h;cases h
 |k+1,s,r,h,he=>by
  rw[kjk]at h;split at h
  ·injection h with h;subst h;cases he
  ·rename_i hn;split at h
   ·grind [kkf]
   ·have⟨x,_,h⟩:=wu.1 h;split at h
    ·have⟨q,d,h⟩:=wu.1 h;have:=qyr k _ r h he;grind [kyo]
    grind [kkf]
theorem jqw{a:Mach}{ts:List Turn}{n m:Nat}:∀(fuel:Nat)(s:SSt)(r:SRep),SInv s->kjk a ts n fuel s=some r->r.err=0->(r.xr<=m->kjk a ts m fuel s=some r)/\(m<r.xr->kjk a ts m fuel s=some (qq3 9))
 |0,s,r,_,h,_=>by rw[kjk]at h;cases h
 |k+1,s,r,hi,h,he=>by
  have v:=qyr _ _ _ h he;rw[kjk]at h;rw[kjk];rw[Xy aj]at h;by_cases t:m<(jd s).m.length
  ·grind
  ·rw[Xy t];split at h
   ·grind [kkf]
   ·rename_i h1;rw[Xy h1];have⟨x,u,h⟩:=wu.1 h;rw[u];simp only[rQ];split at h
    ·rename_i p;rw[lJ p];have⟨q,j,h⟩:=wu.1 h;have i:=(kkh _ _ _ _ _ j).2 lq;have d:=zxz hi (f:=q.1) (c:=q.2) i;have g1:=jyv d;have z:=qyr _ _ _ h he;simp only at g1;have⟨c1,c2⟩:=jq5 (m:=m) _ _ _ _ _ j aj;have⟨j1,j2⟩:=jqw (m:=m) k _ r d h he;by_cases w:q.1.length<=m
     ·simp_all
     ·refine⟨λ_=>aj,λ_=>?_⟩;have⟨l,g,y,e3⟩:=c2 aj ay;rw[g];have e:=(kkh _ _ _ _ _ g).2 lq;have g3:=jyv<|zxz hi (f:=l.1) (c:=l.2) e;simp only at g3;cases k with
      |zero=>rw[kjk]at h;cases h
      |succ k=>
       grind [kjk]
    grind [kkf]
section
def ky5(a:Mach)(c:List Int):Prop:=c.length=a.size/\kxl c=true
def Tot(a:Mach)(ts:List Turn):Prop:=∀st c,yg a.z a.size st->ky5 a c->∃r,kvk a.z st ts st c=some r/\kxl r.1=true/\ky5 a r.2
def vkv(a:Mach)(ways:List SWay)(x:SWay):Prop:=yg a.z a.size x.U/\∃y,ways[x.J]?=some y/\∃s∈a.X,s.x=x.E/\zkd a y.U s=some (x.U,1)
def FOk(a:Mach)(ways:List SWay)(f:Fnd):Prop:=∀y∈f,vkv a ways y.2
section
variable {tab:Tab} {kz sz:List UInt8->Nat} {a:Mach} {ts:List Turn}
theorem find_ok(j:0<a.size/\a.size<=1000)(g:Tot a ts)(d:yg a.z a.size x.U)(f:Fnd)(e:ky5 a c):∃k c',qx9 a ts x f c=some (qzc f k x,c')/\ky5 a c'/\kxl k=true:=by have⟨r,h1,h,i⟩:=g _ c d e;unfold qx9;rw[lJ ⟨by rw[d.T];omega,by rw[d.T,e.1],by rw[d.T];omega⟩,h1];grind
theorem vkx{e9:List Int×SWay}(h:e9∈qzc f b9 x):e9∈f\/e9=(b9,x):=by grind [qzc]
theorem xx1(h:FOk a ways f){k:List Int}(e:vkv a ways x):FOk a ways (qzc f k x):=λy d=>by
 obtain d|rfl:=vkx d
 ·exact h y d
 omega
theorem zkk(g:MachGood tab kz sz a)(m:0<a.size/\a.size<=1000)(i:Tot a ts){g0:SWay}(j:ways[z]?=some g0)(h:yg a.z a.size g0.U):∀(l:List MStep),(∀s∈l,s∈a.X)->∀(f:Fnd)(c:List Int),FOk a ways f->ky5 a c->∃q,kzc a ts most z g0.U l f c=some q/\FOk a ways q.1/\ky5 a q.2.1
 |[],_,f,c,hf,hc=>⟨_,rfl,hf,hc⟩
 |s::l,hl,f,c,hf,hc=>by
  have⟨r,y,_,A⟩:=out_ok g h<|hl s (rZ ..);rw[kzc,show kwi a.z a.C s.u s.xy g0.U s.guard s.block=some r from y];simp only[rQ];have d:∀x∈l,x∈a.X:=λx u=>hl x<|jB u
  by_cases h1:(r.2==1)=true
  ·rw[lJ h1];have t:r.2=1:=by simp_all
   have e:=A t;have⟨k,B,v,w,_⟩:=find_ok m i (x:=⟨r.1,z,s.x⟩) e f hc;rw[v];simp only[rQ];have p:=xx1 (k:=k) hf (x:=⟨r.1,z,s.x⟩) ⟨e,g0,j,s,hl s<|rZ ..,rfl,by grind⟩;split
   ·simp_all
   ·exact zkk g m i j h l d _ _ p w
  ·rw[Xy h1];exact zkk g m i j h l d f c hf hc
theorem zkv(d:MachGood tab kz sz a)(p:0<a.size/\a.size<=1000)(i:Tot a ts)(j:∀x∈ways,yg a.z a.size x.U):∀(l:List SWay)(at_:Nat),l=ways.drop at_->∀(f:Fnd)(c:List Int),FOk a ways f->ky5 a c->∃q,kjh a ts most l at_ f c=some q/\FOk a ways q.1/\ky5 a q.2
 |[],at_,_,f,c,hf,hc=>⟨_,rfl,hf,hc⟩
 |x::l,at_,e,f,c,hf,hc=>by
  have k:ways[at_]?=some x:=by grind [List.getElem?_cons_zero]
  have m:x∈ways:=wB k;have g:=j x m;have s:l=ways.drop (at_+1):=by have:=congrArg (List.drop 1) e;grind [List.drop_drop]
  have⟨q,t,u,v⟩:=zkk (most:=most) d p i k g a.X (λ_ h=>h) f c hf hc;rw[kjh,lJ (by rw[g.T];omega),t];simp only[rQ];split
  ·simp_all
  ·exact zkv d p i j l _ s _ _ u v
def Calm(a:Mach)(x:SWay):Prop:=∃v,lookO a x.U=some v/\endOf v=0
theorem jyc(g:MachGood tab kz sz a)(m:a.size<=1000):∀(l:List SWay)(at_:Nat),(∀x∈l,yg a.z a.size x.U)->∃x,zwz a l at_=some x/\((x.2=0/\∀y∈l,Calm a y)\/(x.2≠0/\∃j y v,l[j]?=some y/\x.1=at_+j/\lookO a y.U=some v/\endOf v=x.2))
 |[],at_,_=>⟨_,rfl,.inl ⟨rfl,λy d=>qY⟩⟩
 |x::l,at_,h=>by
  have i:=h x<|rZ ..;have⟨v,k,_⟩:=look_ok g i;rw[zwz,lJ (by rw[i.T];omega),k];simp only[rQ];by_cases f:(endOf v==0)=true
  ·rw[lJ f];have⟨z,q,e⟩:=jyc g m l (at_+1) (λy d=>h y<|jB d);refine⟨z,q,?_⟩;obtain⟨e,s⟩|⟨e,j,y,u,j1,j2,p,j4⟩:=e
   ·refine .inl ⟨e,λy d=>?_⟩;obtain rfl|d:=tZ.1 d
    ·exact⟨v,k,by simp_all⟩
    simp_all
   ·exact .inr ⟨e,j+1,y,u,by simp_all,aj,p,j4⟩
  ·rw[Xy f];grind
structure WOk (a:Mach)(ways:List SWay):Prop where
 f:∃x,ways[0]?=some x/\x.U=List.replicate a.size 0
 ok:∀x∈ways,yg a.z a.size x.U
 by_:∀i x,ways[i+1]?=some x->x.J<=i/\vkv a ways x
theorem xqu{st:List Int}:∀(l:List MStep),(l.map (·.x.toList)).Nodup->∀s∈l,∀r,zkd a st s=some r->qw3 a.z a.C st s.x.toList l=some (r.1,r.2==1)
 |x::l,hn,s,d,r,hr=>by
  rw[Qm,QM]at hn;obtain rfl|d:=tZ.1 d
  ·rw[qw3,lJ ay,show kwi a.z a.C s.u s.xy st s.guard s.block=some r from hr];rfl
  ·have e:(x.x.toList==s.x.toList)=false:=by grind
   rw[qw3,e,Xy ay];exact xqu l hn.2 s d r hr
theorem vkn(f:MachGood tab kz sz a)(d:WOk a ways):∀(B k:Nat),k<B->∀z,ways[k]?=some z->∃p:List ByteArray,(∀n acc,k<=n->zk7 ways n k acc=some (acc++p))/\qk2 a p.reverse (List.replicate a.size 0)=some z.U/\(k=0->p=[])/\∀j,j<p.length->∃i y,i<k/\i<=z.J/\ways[i]?=some y/\qk2 a (p.reverse.take j) (List.replicate a.size 0)=some y.U
 |0,k,hk,_,_=>aj
 |B+1,0,hk,z,hz=>by
  have⟨x,x1,x2⟩:=d.f;grind [zk7,List.reverse_nil,qk2]
 |B+1,k+1,hk,z,hz=>by
  have⟨h1,w,y,t,s,g,h,l⟩:=d.by_ k z hz;have⟨p,A,u,C,D⟩:=vkn f d B z.J aj y t;have q:qk2 a (p.reverse++[z.E]) (List.replicate a.size 0)=some z.U:=by rw[vju a z.E p.reverse _ _ u,<-h,xqu a.X f.nodup s g _ l];rfl
  refine⟨z.E::p,λn acc hn=>?_,?_,(λe=>mZ),λj m=>?_⟩
  ·cases n with
   |zero=>omega
   |succ n=>
    grind [zk7]
  ·simp_all
  ·rw[List.reverse_cons];rw[Qb]at m;by_cases v:j<p.length
   ·grind
   grind
structure RepOk (a:Mach)(r:SRep):Prop where
 safe:r.end_=0->r.xq=[]
 s:r.end_≠0->∃st v,qk2 a r.xq (List.replicate a.size 0)=some st/\lookO a st=some v/\endOf v=r.end_/\∀j,j<r.xq.length->∃st' v',qk2 a (r.xq.take j) (List.replicate a.size 0)=some st'/\lookO a st'=some v'/\endOf v'=0
theorem px3:∀(f:Fnd)(k:List Int),k∈f.map (·.1)->∃y∈f,kv4 f k=y.2:=by intro a;induction a<;>grind [kv4]
theorem vx5(h:(jd e7).m[i]?=some x)(hi:e7.m.length<=i):∃y∈e7.P,x=y.2:=by have e:(jd e7).m=e7.m++(kv5<|newF e7.Z e7.P).map (kv4<|newF e7.Z e7.P):=rfl;rw[e,Ji hi]at h;obtain⟨k,f,rfl⟩:=tY.1<|wB h;have d:=(kz7 _).mem_iff.1 f;have⟨y,y1,y2⟩:=px3 _ _ d;exact⟨y,(Ju.1 y1).1,y2⟩
structure PInv (a:Mach)(s:SSt):Prop where
 inv:SInv s
 m:WOk a (jd s).m
 calm:∀i x,i<s.m.length->(jd s).m[i]?=some x->Calm a x
 new:∀i x,s.m.length<=i+1->(jd s).m[i+1]?=some x->x.J<s.m.length
 cur:ky5 a s.cur
theorem keep_next(h:PInv a e7)(hn:kwc f)(m:FOk a (jd e7).m f)(s:ky5 a c)(k:∀y∈(jd e7).m.drop e7.m.length,Calm a y)(p:∀y∈f,y.2.J<(jd e7).m.length):PInv a ⟨(jd e7).m,(jd e7).Z,f,c⟩:=by
 have g:∀i,i<(jd e7).m.length->(jd ⟨(jd e7).m,(jd e7).Z,f,c⟩).m[i]?=(jd e7).m[i]?:=λi hi=>by grind [jd]
 have l:∀x,vkv a (jd e7).m x->vkv a (jd ⟨(jd e7).m,(jd e7).Z,f,c⟩).m x:=λx d=>by have⟨h1,y,u,q⟩:=d;exact⟨h1,y,by grind,q⟩
 have j:∀i x,(jd e7).m.length<=i->(jd ⟨(jd e7).m,(jd e7).Z,f,c⟩).m[i]?=some x->∃y∈f,x=y.2:=λi x hi d=>vx5 d hi
 refine⟨zxz h.inv hn,⟨?_,λx d=>?_,λi x d=>?_⟩,λi x hi d=>?_,λi x hi d=>?_,s⟩
 ·have⟨x,x1,x2⟩:=h.m.f;grind
 ·obtain⟨i,hi,rfl⟩:=wG d;by_cases e:i<(jd e7).m.length
  ·have:=g i e;rw[wW hi]at this;exact h.m.ok _<|wB this.symm
  ·have⟨y,y1,y2⟩:=j i _ aj<|wW hi;rw[y2];exact(m y y1).1
 ·by_cases e:i+1<(jd e7).m.length
  ·rw[g _ e]at d;have⟨g1,t⟩:=h.m.by_ i x d;simp_all
  ·obtain⟨y,y1,rfl⟩:=j _ _ aj d;have:=p y y1;exact⟨aj,l _<|m y y1⟩
 ·simp only at hi;rw[g _ hi]at d;by_cases e:i<e7.m.length
  ·exact h.calm i x e d
  ·refine k x (wB (i:=i-e7.m.length) ?_);simp_all
 grind
theorem jvm(s:MachGood tab kz sz a)(h:PInv a e7)(g:(jd e7).m[k]?=some x)(d:k=0\/e7.m.length<=k)(q:(k=0/\e=0)\/(e≠0/\∃v,lookO a x.U=some v/\endOf v=e)):∃r,qxm (jd e7) k e=some r/\RepOk a r:=by
 have⟨p,B,t,C,w⟩:=vkn s h.m (k+1) k aj x g;refine⟨⟨0,e,p.reverse,(jd e7).m.length⟩,?_,⟨λm=>?_,λm=>?_⟩⟩
 ·grind [qxm]
 ·simp_all
 ·obtain⟨_,rfl⟩|⟨_,v,z,A⟩:=q
  ·simp_all
  ·refine⟨x.U,v,t,z,A,λj f=>?_⟩;rw[Zb]at f;have⟨i,y,i1,i2,i3,i4⟩:=w j f;have l:i<e7.m.length:=by
    obtain rfl|d:=d
    ·omega
    ·cases k with
     |zero=>omega
     |succ k=>have:=h.new k x d g;omega
   have⟨u,D,E⟩:=h.calm i y l i3;simp_all
theorem jk4(d:MachGood tab kz sz a)(i:0<a.size/\a.size<=1000)(m:Tot a ts):∀(fuel:Nat)(s:SSt),PInv a s->most+2<=fuel+s.m.length->1<=fuel->∃r,kjk a ts most fuel s=some r/\(r=qq3 9\/(r.err=0/\1<=r.xr/\RepOk a r))
 |0,s,_,_,h=>aj
 |n+1,s,h,hfu,_=>by
  rw[kjk];have⟨x0,f1,f2⟩:=h.m.f;by_cases u:most<(jd s).m.length
  ·simp_all
  ·rw[Xy u];by_cases k:((jd s).m.length==s.m.length)=true
   ·rw[lJ k];have⟨r,A,B⟩:=jvm d h f1 (.inl rfl) (e:=0)<|.inl ⟨rfl,rfl⟩;grind [kkf]
   ·rw[Xy k];have C:s.m.length<(jd s).m.length:=by grind [kyo]
    have⟨x,x1,x2⟩:=jyc d i.2 ((jd s).m.drop s.m.length) s.m.length (λy f=>h.m.ok y<|Je f);rw[x1];simp only[rQ];obtain⟨x2,x3⟩|⟨x2,j,y,v,j1,j2,w,j4⟩:=x2
    ·rw[lJ (by simp_all)];have⟨q,p,t,z⟩:=zkv (most:=most) d i m h.m.ok _ s.m.length rfl [] (jd s).cur (λy f=>by cases f) h.cur;rw[p];simp only[rQ];have l:=(kkh _ _ _ _ _ p).2 lq;have g:=keep_next h l t z x3 (λy f=>(rY.1 (t y f).2.choose_spec.1).1);exact jk4 d i m n _ g (by grind) aj
    ·rw[Xy (by simp_all)];rw[J3]at j1;rw[j2];have⟨r,A,B⟩:=jvm d h j1 (.inr aj) (e:=x.2)<|.inr ⟨x2,v,w,j4⟩;grind [kkf]
end
end
section
def vkw(sets:List Int)(v:MVar):Prop:=(v.g=-1\/∃k:Nat,v.g=k/\sets[k]?=some (v.d:Int))/\(v.B=-1\/∃k n:Nat,v.B=k/\sets[k]?=some (n:Int)/\v.a.length<=n+1)
theorem qww:∀{l:List PSet}{s:List UInt8}{k:Nat},kkq l s=some k->∃x,l[k]?=some x/\x.y.x.toList=s
 |x::l,s,k,h=>by
  rw[kkq]at h;split at h
  ·grind
  ·obtain⟨j,d,rfl⟩:=wX.1 h;have⟨y,y1,y2⟩:=qww d;simp_all
theorem jqk(h:Right t):kkq t.j []=none:=by
 have⟨L,f,e⟩:=h.M;have d:=kxk e f;cases g:kkq t.j [] with
 |none=>rfl
 |some k=>
  have⟨x,x1,x2⟩:=qww g;have:=d.nm _<|jjj (wB x1);have h1:=this.1;grind [ByteArray.toList_eq,jz7]
theorem pvl(h:NamesFine t)(g:q∈t.j)(d:a8∈t.p):q.y.x.toList≠a8.y.x.toList:=by intro e;have hn:=kyi h;rw[kye,Qw,Jw]at hn;refine hn.2.2 _ (Qx (f:=λq:Tok=>q.x.toList)<|rM.2 ⟨q,g,rZ ..⟩) _ (Qx (f:=λq:Tok=>q.x.toList)<|jU (rM.2 ⟨a8,d,rZ ..⟩)) e
theorem pq4(h:ss[k]?=some q):(kje ss)[k]?=some (mg q.size.x):=by grind [kje]
theorem xqt(h:Right t)(hv:a6∈t.z)(f:qw4 t.j t.p z (jw a6)=some u):vkw (kje t.j) u:=by
 have⟨L,s,B⟩:=h.M;have⟨h1,l⟩:=s.z a6 hv;unfold qw4 at f;have⟨c,C,f⟩:=wu.1 f;obtain⟨x,g,rfl⟩:=wX.1 f;have d:=jqk h;refine⟨?_,?_⟩
 ·show kji t.j a6.g.x.toList=-1\/∃k:Nat,kji t.j a6.g.x.toList=k/\(kje t.j)[k]?=some (c:Int);cases q:(jw a6).K
  ·refine .inl ?_;have i:(!(a6.g.t.toList==[]))=false:=q;obtain e|e:=h1
   ·rw[e];unfold kji;rw[show zh.x.toList=[] from dh,d]
   simp_all
  grind [kkx,pq4,kji,jw]
 ·show kji t.j (jw a6).si.y.x.toList=-1\/∃k n:Nat,kji t.j (jw a6).si.y.x.toList=k/\(kje t.j)[k]?=some (n:Int)/\x.length<=n+1;obtain⟨k1,k2,_⟩|⟨k1,k2,_,_⟩|⟨k1,_⟩:=l
  ·have e:(jw a6).si=⟨0,zh,zh⟩:=by unfold jw;simp_all
   rw[e];refine .inl ?_;unfold kji;rw[show zh.x.toList=[] from dh,d]
  ·have e:(jw a6).si=⟨1,a6.R,zh⟩:=by unfold jw;simp_all
   rw[e];refine .inl ?_;unfold kji;rw[show zh.x.toList=[] from dh,d]
  ·have e:(jw a6).si=⟨2,zh,a6.k⟩:=by unfold jw;simp_all
   rw[e]at g |-;have p:vqi t.j t.p ⟨2,zh,a6.k⟩=match kwe t.p a6.k.x.toList with|some k=>some (k.i.map (·.x))|none=>(qzt t.j a6.k.x.toList).map λm=>⟨#[45]⟩::kvx m:=rfl
   rw[p]at g;cases i:kwe t.p a6.k.x.toList with
   |some k=>
    refine .inl ?_;have⟨w,A⟩:=qju i;unfold kji;cases v:kkq t.j a6.k.x.toList with
    |none=>rfl
    |some j=>
     have⟨y,y1,y2⟩:=qww v;exact absurd (y2.trans A.symm)<|pvl h.xt (wB y1) w
   |none=>
    rw[i]at g;obtain⟨m,D,rfl⟩:=wX.1 g;grind [kkx,pq4,kx1,kji]
theorem vqk(h:Right t):∀(l:List PVar),(∀v∈l,v∈t.z)->∀(sz:Nat)(us:List MVar)(z:Nat),vmk t.j t.p (l.map jw) sz=some (us,z)->(∀u∈us,vkw (kje t.j) u)/\∀i,sz<=i->i<z->∃u∈us,u.f<=i/\i<u.f+u.d
 |[],_,sz,us,z,e=>by
  grind [vmk]
 |v::l,hl,sz,us,z,e=>by
  rw[Qm,vmk]at e;have⟨u,d,e⟩:=wu.1 e;have⟨r,k,e⟩:=wX.1 e;injection e with g j;subst g;subst j;have⟨i1,i2⟩:=vqk h l (λx f=>hl x<|jB f) _ r.1 r.2 k;have p:u.f=sz:=by unfold qw4 at d;have⟨c,m,d⟩:=wu.1 d;obtain⟨x,f,rfl⟩:=wX.1 d;rfl
  grind [xqt,List.mem_cons_self]
structure MachTurn (a:Mach):Prop where
 j:a.j.length<=2/\∀n∈a.j,n=2\/n=3
 z:∀v∈a.z,vkw a.j v
 all:∀i,i<a.size->∃u∈a.z,u.f<=i/\i<u.f+u.d
theorem jv1(h:(qq4 b7).1=0)(d:qx5 b7=some a):MachTurn a:=by
 have hR:=qk7 h;unfold qx5 at d;generalize (uz (jv b7).1).1=t at hR d;have⟨L,m,l⟩:=hR.M;have p:=kxk l m;have⟨us,z,j,s⟩:=jw3 hR t.z (λ_ hv=>hv) 0;have u:(t.z.map jw).length<=4:=hR.bnd.z;have v:z<=12:=by have:=s.R;omega
 have⟨g,k1,k2⟩:=pyj hR p j aj;split at d
 ·have⟨b,hb,d⟩:=wu.1 d;split at d
  ·injection d with d;subst d;unfold jy5 at hb;have⟨w,e,hb⟩:=wu.1 hb;have⟨x,f,hb⟩:=wu.1 hb;have⟨st,_,hb⟩:=wu.1 hb;obtain⟨nv,_,rfl⟩:=wX.1 hb;rw[show(ql t).p=t.p from rfl,k1]at e;injection e with e;subst e;rw[show qjh (ql t).j (ql t).p (ql t).z 0 g [] 0=qjh t.j t.p (t.z.map jw) 0 g [] 0 from rfl,k2]at f;injection f with f;subst f;have⟨g1,k⟩:=vqk hR t.z (λ_ hv=>hv) 0 us z j;refine⟨⟨?_,λn hn=>?_⟩,g1,λi hi=>k i jG hi⟩
   ·show(kje t.j).length<=2;unfold kje;rw[Ql];exact hR.bnd.j
   ·obtain⟨y,q,rfl⟩:=tY.1 (hn:n∈t.j.map (λb7=>mg b7.size.x));have:=hR.bnd.size y q;omega
  simp_all
 simp_all
def qxj(sets:List Int)(t:Turn):Prop:=∀(k:Nat)(n:Nat),sets[k]?=some (n:Int)->∃o,t[k]?=some o/\o.length=n/\n<=3/\∀x∈o,0<=x/\x<n
def pki(l:List Int):Bool:=match kkm l [[]] with
 |some ts=>ts.all λt=>(List.range l.length).all λk=>match t[k]?,l[k]? with
  |some o,some n=>decide ((o.length:Int)=n)&&(decide (n<=3)&&o.all λx=>decide (0<=x)&&decide (x<n))
  |_,_=>false
 |none=>false
theorem pke(h:pki y=true):∃ts,kkm y [[]]=some ts/\∀t∈ts,qxj y t:=by
 unfold pki at h;split at h
 ·rename_i ts d;refine⟨ts,d,λt f k n e=>?_⟩;grind
 simp_all
theorem pka(h:y.length<=2/\∀n∈y,n=2\/n=3):∃ts,kkm y [[]]=some ts/\∀t∈ts,qxj y t:=by
 have⟨h1,d⟩:=h;apply pke;match y,h1,d with
 |[],_,_=>decide +kernel
 |[a],_,d=>
  obtain rfl|rfl:=d a ay<;>decide +kernel
 |[a,b],_,d=>
  obtain rfl|rfl:=d a ay<;>obtain rfl|rfl:=d b ay<;>decide +kernel
 |_::_::_::_,h1,_=>simp_all
section
variable {tab:Tab} {kz sz:List UInt8->Nat} {a:Mach}
theorem pwy(hv:vkw sets u)(f:qxj sets T)(hi:i<u.d):∃p,kvz u T i=some p/\0<=p/\p<u.d:=by
 unfold kvz;obtain e|⟨k,e,d⟩:=hv.1
 ·simp_all
 ·have⟨o,o1,o2,o3,o4⟩:=f k u.d d;simp_all
theorem pkr(hv:vkw sets u)(f:qxj sets T)(g:0<=b6)(h1:b6<u.a.length)(h:u.a.length<=200):∃y,qv3 u T b6=some y/\0<=y/\y<=255:=by
 unfold qv3;obtain e|⟨k,n,e,d,hn⟩:=hv.2
 ·grind
 ·by_cases i:b6=0
  ·simp_all
  ·have⟨o,o1,o2,o3,o4⟩:=f k n d;have hb:((u.B==-1)||(b6==0))=false:=by simp_all
   rw[hb,Xy ay,e,Xy aj,show(k:Int).toNat=k by omega,o1];grind
theorem pzh(h:kxl c=true)(h1:0<=e)(d:e<=255):kxl (c.set j e)=true:=by grind [kxl]
theorem vqm(e:MachTurn a)(d:MachGood tab kz sz a)(hv:u∈a.z)(f:qxj a.j T)(g:yg a.z a.size st):∀(l:List Nat),(∀i∈l,i<u.d)->∀c,ky5 a c->∃r,kw0 u T st l c=some r/\ky5 a r
 |[],_,c,hc=>⟨c,rfl,hc⟩
 |i::l,hl,c,hc=>by have hi:=hl i<|rZ ..;have⟨p,k,m,s⟩:=pwy (e.z u hv) f hi;have⟨x,x1,x2,x3⟩:=g.val u hv i hi;have⟨y,y1,y2,y3⟩:=pkr (e.z u hv) f x2 x3 (d.txt u hv).1;have q:=(d.fit u hv).1.1;rw[kw0,k];simp only[rQ];rw[x1];simp only[rQ];rw[y1];simp only[rQ];rw[lJ ⟨m,by rw[hc.1];omega⟩];exact vqm e d hv f g l (λj h=>hl j<|jB h) _ ⟨by rw[Jq];exact hc.1,pzh hc.2 y2 y3⟩
theorem jw9(e:MachTurn a)(d:MachGood tab kz sz a)(g:qxj a.j T)(f:yg a.z a.size st):∀(vs:List MVar),(∀v∈vs,v∈a.z)->∀c,ky5 a c->∃r,qqw T st vs c=some r/\ky5 a r
 |[],_,c,hc=>⟨c,rfl,hc⟩
 |v::vs,hl,c,hc=>by have⟨r,j,k⟩:=vqm e d (hl v<|rZ ..) g f (List.range v.d) (λi hi=>Qo.1 hi) c hc;rw[qqw,j];exact jw9 e d g f vs (λx h=>hl x<|jB h) r k
theorem vzf(e:MachTurn a)(d:MachGood tab kz sz a)(f:yg a.z a.size st):∀(ts:List Turn),(∀t∈ts,qxj a.j t)->∀lo c,kxl lo=true->ky5 a c->∃r,kvk a.z st ts lo c=some r/\kxl r.1=true/\ky5 a r.2
 |[],_,lo,c,hl,hc=>⟨_,rfl,hl,hc⟩
 |t::ts,ht,lo,c,hl,hc=>by have⟨r,j,g⟩:=jw9 e d (ht t<|rZ ..) f a.z (λ_ h=>h) c hc;rw[kvk,j];exact vzf e d f ts (λx i=>ht x<|jB i) _ r (by unfold jxx;split;exact g.2;exact hl) g
theorem jwx(g:MachTurn a)(f:MachGood tab kz sz a)(d:yg a.z a.size st):kxl st=true:=by
 unfold kxl;refine sJ.2 λx h=>?_
 obtain⟨i,hi,rfl⟩:=wG h;have⟨u,e,j,k⟩:=g.all i (by rw[<-d.T];exact hi);have⟨y,y1,y2,y3⟩:=d.val u e (i-u.f) aj;rw[show u.f+(i-u.f)=i by omega,wW hi]at y1;injection y1 with y1;have:=(f.txt u e).1;grind
theorem pv7(d:MachTurn a)(e:MachGood tab kz sz a):∃ts,kkm a.j [[]]=some ts/\Tot a ts:=by have⟨ts,h1,g⟩:=pka d.j;exact⟨ts,h1,λst c f h=>vzf d e f ts g st c (jwx d e f) h⟩
end
structure SrcOk (s:ByteArray)(a:Mach)(n:Nat)(r:SRep):Prop where
 src:kvn s n=some r
 how:r=qq3 9\/(r.err=0/\1<=r.xr/\r.xr<=n/\RepOk a r)
 few:r.err=0->∀m:Nat,1<=m->m<=500->(r.xr<=m->kvn s m=some r)/\(m<r.xr->kvn s m=some (qq3 9))
theorem pz9(h:(qq4 b7).1=0)(z:qx5 b7=some a)(hM:MachOf t a)(h1:1<=n)(y:n<=500):∃r,SrcOk b7 a n r:=by
 have d:=hM.M;have p:=jv1 h z;have⟨ts,G,s⟩:=pv7 p d;have u:0<a.size/\a.size<=1000:=by refine⟨?_,d.env.size⟩;have h1:=d.one;have y:=(d.fit _<|wZ h1).1;omega
 have l:ky5 a (List.replicate a.size 0):=⟨Qh,jwx p d hM.f⟩;have⟨k,c,f1,f2,f3⟩:=find_ok u s (x:=kzs a) hM.f [] l;have g:qzc [] k (kzs a)=[(k,kzs a)]:=rfl;rw[g]at f1;have B:∀m:Nat,1<=m->m<=500->kvn b7 m=kjk a ts m 502 ⟨[],[],[(k,kzs a)],c⟩:=λm C D=>by grind [kvn,jqy]
 have e:(jd ⟨[],[],[(k,kzs a)],c⟩).m=[kzs a]:=by simp[jd,newF,kv5,sortL,insL,kv4]
 have q:SInv ⟨[],[],[(k,kzs a)],c⟩:=⟨rfl,lq⟩;have A:PInv a ⟨[],[],[(k,kzs a)],c⟩:=by
  refine⟨q,?_,λi x hi=>by simp_all,λi x hi f=>?_,f2⟩
  ·rw[e];refine⟨⟨kzs a,rfl,rfl⟩,λx f=>?_,λi x f=>by simp_all⟩;rw[Qq]at f;rw[f];exact hM.f
  simp_all
 have⟨r,E,v⟩:=jk4 d u s (most:=n) 502 _ A aj aj;refine⟨r,by simp_all,?_,λF m C D=>?_⟩
 ·obtain v|⟨j,w,e3⟩:=v
  ·simp_all
  ·exact .inr ⟨j,w,(qyr _ _ _ E j).2,e3⟩
 grind [jqw]
end
section
abbrev Tau:=List UInt8->Int->Int
variable {ssz':List UInt8->Nat} {τ σ:Tau}
theorem kz5.inv(h:kz5 ssz' τ):∃σ,kz5 ssz' σ/\∀s (v:Int),0<=v->v<=(ssz' s:Int)->σ s (τ s v+1)=v-1/\τ s (σ s v+1)=v-1:=by
 have l:∀s (z:Int),0<z/\z<=(ssz' s:Int)->∃x:Int,0<x/\x<=(ssz' s:Int)/\τ s x+1=z:=by
  intro s z h1;apply Qp;intro hn;have w:=zx3 (z::(List.range<|ssz' s).map λi:Nat=>τ s ((i:Int)+1)+1) ((List.range<|ssz' s).map λi:Nat=>(i:Int)+1) (QM.2 ⟨λA=>?_,J6.2<|sQ.2 λi j hi p t e=>?_⟩)<|λx g=>?_
  ·grind
  ·grind
  ·rw[Zn,Zn]at e;rw[List.length_range]at hi p;have:=h.inj s ((i:Int)+1) ((j:Int)+1) aj aj aj aj aj;omega
  ·have key:∀y:Int,0<y->y<=(ssz' s:Int)->y∈(List.range<|ssz' s).map λi:Nat=>(i:Int)+1:=λy y1 y2=>tY.2 ⟨y.toNat-1,Qo.2 aj,aj⟩
   obtain rfl|g:=tZ.1 g
   ·simp_all
   ·obtain⟨i,hi,rfl⟩:=tY.1 g;have hi:=Qo.1 hi;have:=h.rng s ((i:Int)+1) aj aj;grind
 have key:∀s (z:Int),∃y:Int,(z=0->y=-1)/\(0<z->z<=(ssz' s:Int)->0<=y/\y<(ssz' s:Int)/\τ s (y+1)+1=z):=λs z=>by
  by_cases k:0<z/\z<=(ssz' s:Int)
  ·have⟨x,x1,x2,x3⟩:=l s z k;exact⟨x-1,λe=>aj,λ_ _=>⟨aj,aj,by simp_all⟩⟩
  ·exact⟨-1,λ_=>rfl,λa b=>absurd ⟨a,b⟩ k⟩
 refine⟨λs z=>Classical.choose<|key s z,⟨λs=>(Zu<|key s 0).1 rfl,λs x h1 u=>?_,λs x y a1 a2 b1 b2 e=>?_⟩,λs v q m=>⟨?_,?_⟩⟩
 ·grind
 ·grind
 ·have d:=Zu<|key s (τ s v+1);show Classical.choose (key s<|τ s v+1)=v-1;generalize Classical.choose (key s<|τ s v+1)=c at d;by_cases f:v=0
  ·subst f;rw[h.zero]at d;omega
  ·have h1:=h.rng s v aj m;have⟨c1,c2,c3⟩:=d.2 aj aj;have:=h.inj s (c+1) v aj aj q m aj;omega
 ·have d:=Zu<|key s v;show τ s (Classical.choose (key s v)+1)=v-1;generalize Classical.choose (key s v)=c at d;by_cases f:v=0
  ·rw[d.1 f,show(-1:Int)+1=0 by decide,h.zero];omega
  omega
theorem kz5.comp(h1:kz5 ssz' τ)(d:kz5 ssz' σ):kz5 ssz' λs v=>σ s (τ s v+1):=by
 refine⟨λs=>by show σ s (τ s 0+1)=-1;rw[h1.zero];exact d.zero s,λs x a b=>?_,λs x y a1 a2 b1 b2 e=>?_⟩
 ·have:=h1.rng s x a b;exact d.rng s _ aj aj
 ·have r:∀v:Int,0<=v->v<=(ssz' s:Int)->0<=τ s v+1/\τ s v+1<=(ssz' s:Int):=λv h g=>by
   by_cases f:v=0
   ·rw[f,h1.zero];omega
   ·have:=h1.rng s v aj g;omega
  have:=d.inj s _ _ (r x a1 a2).1 (r x a1 a2).2 (r y b1 b2).1 (r y b1 b2).2 e;exact h1.inj s x y a1 a2 b1 b2 aj
structure Sym (t:PTree)(a:Mach):Prop where
 right:Right t
 B:MachOf t a
 turn:MachTurn a
 T:a.z.length=t.z.length
 var:∀k (hk:k<t.z.length),∃u,a.z[k]?=some u/\UOk (ql t) u (jw t.z[k])
 C:a.C=kzg (ql t)
 X:a.X=(kq4 t t.l).map zwm
 q:a.q=(kq4 t t.q).map pzr
 R:pkj t (qm<|ql t) a.z a.C
 txt:xvn t a.z (tuV t idτ)
variable {t:PTree} {a:Mach} {x y z:List Int} {S:List (List Int)}
def StT(t:PTree)(a:Mach)(τ:Tau)(x y:List Int):Prop:=∀k u,a.z[k]?=some u->∀j,j<u.d->∃b c,x[u.f+j]?=some b/\y[u.f+(tuV t τ k).1 j]?=some c/\(tuV t idτ k).2 c=(tuV t τ k).2 b
theorem Sym.v(h:Sym t a)(e:a.z[k]?=some u):∃d:k<t.z.length,UOk (ql t) u (jw t.z[k]):=by
 have d:k<t.z.length:=by rw[<-h.T];grind
 have⟨u',f,g⟩:=h.var k d;simp_all
theorem Sym.both(h:Sym t a)(d:kz5 (ssz (ql t)) τ):Both t (qm (ql t)) a.z a.C (ksz (ql t)) (ssz (ql t)) a.size (tuV t τ) τ:=
 ⟨h.B.M.env,h.B.M.disj,by rw[h.C];exact pw8 h.right d,h.R⟩
theorem StT.refl(h:Sym t a)(f:yg a.z a.size x):StT t a idτ x x:=λk u d j e=>by have⟨g,_⟩:=h.v d;have⟨b,hb,_⟩:=f.val u (wB d) j e;simp_all [kxc,pqk]
theorem vwl(h:kz5 ssz' τ)(d:ty.b≠5)(e:ftT idτ ty b6=ftT τ ty b):(ty.b=4->b6=τ ty.y.toList b+1)/\(ty.b≠4->b6=b):=by grind [idτ,ftT]
theorem pq3{g5:SiT}:(kqm tab g5).b≠5:=zzg tab g5
theorem yg.range(h:Sym t a)(l:yg a.z a.size x)(d:a.z[k]?=some u)(i:j<u.d)(hb:x[u.f+j]?=some b)(p:k<t.z.length):(kqm (qm (ql t)) (jw t.z[k]).si).b=4->0<=b/\b<=ssz (ql t) (kqm (qm (ql t)) (jw t.z[k]).si).y.toList:=λf=>by have⟨_,g⟩:=h.v d;have⟨m,e,b1,b2⟩:=l.val u (wB d) j i;rw[hb]at e;injection e with e;subst e;have:=g.set f;omega
theorem StT.symm(h:Sym t a)(v:kz5 (ssz (ql t)) τ)(A:yg a.z a.size x)(w:StT t a τ x y):∃σ,kz5 (ssz (ql t)) σ/\StT t a σ y x:=by
 have⟨σ,f,hi⟩:=v.inv;refine⟨σ,f,λk u m j q=>?_⟩;have⟨l,g⟩:=h.v m;have s:plX τ (jw t.z[k]).K (jw t.z[k]).g.x.toList (plX σ (jw t.z[k]).K (jw t.z[k]).g.x.toList j)=j:=by
  have i:=g.cnt;unfold plX;cases z:(jw t.z[k]).K
  ·rfl
  ·rw[z]at i;have i:u.d=ssz (ql t) (jw t.z[k]).g.x.toList:=i;have:=f.rng (jw t.z[k]).g.x.toList ((j:Int)+1) aj aj;grind
 have⟨b,c,p,d,e3⟩:=w k u m _<|jqs f g.cnt q;rw[kxc l]at d e3 |-;rw[kxc l]at e3 |-;dsimp only at d;rw[s]at d;refine⟨c,b,d,p,?_⟩;have⟨f1,f2⟩:=vwl v (pq3) e3;show ftT idτ _ b=ftT σ _ c;by_cases e:(kqm (qm<|ql t) (jw t.z[k]).si).b=4
 ·have⟨b1,b2⟩:=A.range h m (jqs f g.cnt q) p l e;rw[f1 e,kvv e,kvv e,(hi _ b b1 b2).1];rfl
 grind [ftT]
theorem StT.trans(h:Sym t a)(q:kz5 (ssz (ql t)) τ)(F:kz5 (ssz (ql t)) σ)(h1:StT t a τ x y)(B:StT t a σ y z):StT t a (λs v=>σ s (τ s v+1)) x z:=λk u i j m=>by
 have⟨f,l⟩:=h.v i;have⟨b,c,w,e,e3⟩:=h1 k u i j m;rw[kxc f]at e e3;rw[kxc f]at e3;have p:=jqs q l.cnt m;have⟨D,d,g1,A,g3⟩:=B k u i _ p;have e:y[u.f+plX τ _ _ j]?=some c:=e;rw[g1]at e;injection e with e;subst e;rw[kxc f]at A g3 |-;rw[kxc f]at g3 |-;refine⟨b,d,w,?_,?_⟩
 ·have E:plX (λs v=>σ s<|τ s v+1) (jw t.z[k]).K (jw t.z[k]).g.x.toList j=plX σ (jw t.z[k]).K (jw t.z[k]).g.x.toList (plX τ (jw t.z[k]).K (jw t.z[k]).g.x.toList j):=by
   have g:=l.cnt;unfold plX;cases C:(jw t.z[k]).K
   ·rfl
   ·rw[C]at g;have g:u.d=ssz (ql t) (jw t.z[k]).g.x.toList:=g;have:=q.rng (jw t.z[k]).g.x.toList ((j:Int)+1) aj aj;grind
  simp_all
 grind [vwl,ftT]
end
section
variable {t:PTree} {a:Mach} {τ:Tau} {x y:List Int} {S:List (List Int)}
def pkm(t:PTree)(a:Mach)(x:List Int):List (List Int):=(List.range a.z.length).map λk=>match a.z[k]? with|some u=>(List.range u.d).map λj=>(tuV t idτ k).2 (x.getD (u.f+j) 0)|none=>[]
theorem zyf(k j:Nat):(tuV t idτ k).1 j=j:=by
 unfold tuV;split
 ·exact pqk _
 ·rfl
theorem vyr(f:yg a.z a.size x):RSt a.z (tuV t idτ) (pkm t a x) x:=by
 refine⟨by simp[pkm],λk u d=>?_⟩;have g:=(rY.1 d).1;refine⟨(List.range u.d).map λj=>(tuV t idτ k).2<|x.getD (u.f+j) 0,?_,ay,λj e=>?_⟩
 ·grind [pkm]
 ·have⟨b,hb,_⟩:=f.val u (wB d) j e;grind [zyf]
theorem StT.back(h:Sym t a)(p:kz5 (ssz (ql t)) τ)(i:StT t a τ x y)(e:RSt a.z (tuV t idτ) S y):RSt a.z (tuV t τ) S x:=by
 refine⟨e.1,λk u d=>?_⟩;have⟨m,l⟩:=h.v d;have⟨w,h1,g,z⟩:=e.2 k u d;refine⟨w,h1,g,λj f=>?_⟩;have⟨b,c,s,v,e3⟩:=i k u d j f;have q:(tuV t τ k).1 j<u.d:=by rw[kxc m];exact jqs p l.cnt f
 grind [zyf]
theorem StT.B(h:Sym t a)(s:kz5 (ssz (ql t)) τ)(h1:RSt a.z (tuV t τ) S x)(g:RSt a.z (tuV t idτ) S y):StT t a τ x y:=λk u d j i=>by
 have⟨q,p⟩:=h.v d;have⟨w,f,l,e3⟩:=h1.2 k u d;have⟨w',g1,m,g3⟩:=g.2 k u d;rw[f]at g1;injection g1 with g1;subst g1;have e:(tuV t τ k).1 j<u.d:=by grind
 have⟨b,b1,b2⟩:=e3 j i;have⟨c,c1,c2⟩:=g3 _ e;rw[zyf,b2]at c2;simp_all
theorem pj0(h:Right t)(A:kz5 (ssz (ql t)) τ)(y:∀r∈rs,r∈t.l++t.q)(z:a5∈kq4 t rs):(⟨a5.r,msT τ a5.r.u a5.ms⟩:RIn)∈kq4 t rs:=by
 obtain⟨r,h1,f,rfl⟩:=pyb z;refine rM.2 ⟨a5.r,h1,?_⟩;have v:∀p∈a5.r.u,szN t p.Q.x.toList=ssz (ql t) p.Q.x.toList:=λp k=>by have⟨n,_,_,e3,D⟩:=jwp h<|h.xt.psets _ (y _ h1) p k;omega
 have k:a5.r.u.length<=2:=h.bnd.pars _<|y _ h1;have u:∀s (i:Nat),i<ssz (ql t) s->∃j:Nat,j<ssz (ql t) s/\τ s ((i:Int)+1)=j:=λs i hi=>by have:=A.rng s ((i:Int)+1) aj aj;exact⟨(τ s<|(i:Int)+1).toNat,aj,aj⟩
 unfold qx8 qx7 at f |-;have⟨i,hi,f⟩:=rM.1 f;have⟨j,d,f⟩:=tY.1 f;rw[<-f];have hi:=Qo.1 hi;have d:=Qo.1 d;unfold kwo at hi d;generalize g:a5.r.u=l at *;match l,k,g with
 |[],_,g=>exact rM.2 ⟨i,Qo.2 hi,tY.2 ⟨j,Qo.2 d,rfl⟩⟩
 |[p],_,g=>
  have hi:i<szN t p.Q.x.toList:=hi;rw[v p ay]at hi;have⟨e,x,m⟩:=u _ i hi;refine rM.2 ⟨e,Qo.2 ?_,tY.2 ⟨j,Qo.2 d,?_⟩⟩
  ·show e<szN t p.Q.x.toList;grind
  ·show(⟨a5.r,[(e:Int)]⟩:RIn)=⟨a5.r,[τ p.Q.x.toList ((i:Int)+1)]⟩;rw[m]
 |[p,q],_,g=>
  have hi:i<szN t p.Q.x.toList:=hi;have d:j<szN t q.Q.x.toList:=d;rw[v p ay]at hi;rw[v q ay]at d;have⟨e,x,m⟩:=u _ i hi;have⟨w,B,C⟩:=u _ j d;refine rM.2 ⟨e,Qo.2 ?_,tY.2 ⟨w,Qo.2 ?_,?_⟩⟩
  ·show e<szN t p.Q.x.toList;grind
  ·show w<szN t q.Q.x.toList;grind
  ·show(⟨a5.r,[(e:Int),(w:Int)]⟩:RIn)=⟨a5.r,[τ p.Q.x.toList ((i:Int)+1),τ q.Q.x.toList ((j:Int)+1)]⟩;simp_all
 |_::_::_::_,k,_=>grind
theorem jk0(h:Sym t a)(f:kz5 (ssz (ql t)) τ)(s:yg a.z a.size x)(e:yg a.z a.size y)(m:StT t a τ x y){g6:MStep}(l:g6∈a.X){g7:List Int×Int}(d:zkd a x g6=some g7):∃s'∈a.X,∃r',zkd a y s'=some r'/\r'.2=g7.2/\(g7.2=1->StT t a τ g7.1 r'.1):=by
 rw[h.X]at l;obtain⟨X,i,rfl⟩:=tY.1 l;have j:=pj0 h.right f (λg7 d=>jU d) i;have p:=(qjq h.right<|jU i).1;have k:=(qjq h.right<|jU j).1;have g:=vyr (t:=t) e;have⟨S',w,z,_⟩:=p.same (h.both f) s (m.back h f g) g7 d;have q:zwm ⟨X.r,msT τ X.r.u X.ms⟩∈a.X:=by rw[h.X];grind
 have⟨r',u,_,_⟩:=out_ok h.B.M e q;have⟨v,g1,A,_⟩:=k.one (h.both<|zjz) e g r' u;grind [StT.B]
theorem xqz(h:Sym t a)(f:kz5 (ssz (ql t)) τ)(u:yg a.z a.size x)(e:yg a.z a.size y)(l:StT t a τ x y){g8:MNever}(k:g8∈a.q)(q:zwo a.z a.C g8.u g8.xy x g8.xp=some g9):∃s'∈a.q,zwo a.z a.C s'.u s'.xy y s'.xp=some g9:=by
 rw[h.q]at k;obtain⟨X,i,rfl⟩:=tY.1 k;have j:=pj0 h.right f (λr s=>jP s) i;have m:=(qjq h.right<|jP i).1;have d:=(qjq h.right<|jP j).1;have g:=vyr (t:=t) e;have⟨c,c1,c2⟩:=m.brk (h.both f) u (l.back h f g) q;have p:pzr ⟨X.r,msT τ X.r.u X.ms⟩∈a.q:=by rw[h.q];grind
 have⟨A,v⟩:=xqx h.B.M.env e<|h.B.M.q _ p;have⟨w,g1,z⟩:=d.brk (h.both<|zjz) e g v;rw[pqb _ _ d.par.T,c1]at g1;grind
theorem vwu:∀(l:List MNever)(br r:List ByteArray),lbO a.z a.C st l br=some r->(r=[]↔br=[]/\∀s∈l,∀q,zwo a.z a.C s.u s.xy st s.xp=some q->q=false)
 |[],br,r,h=>by grind [lbO]
 |s::l,br,r,h=>by
  rw[lbO]at h;have⟨c,d,h⟩:=wu.1 h;cases c
  ·rw[Xy ay]at h;rw[vwu l br r h];simp_all
  ·rw[lJ rfl]at h;rw[vwu l _ r h];simp_all
def qxx(a:Mach)(x:List Int):Prop:=(∃s∈a.X,qwh a x s=1)/\(∀s∈a.X,qwh a x s≠2)/\∀s∈a.q,∀q,zwo a.z a.C s.u s.xy x s.xp=some q->q=false
theorem vzl:l.length=0↔l=[]:=List.length_eq_zero_iff
theorem zxp(h:Sym t a)(l:yg a.z a.size x){h7:MView}(hv:lookO a x=some h7):endOf h7=0↔qxx a x:=by
 have⟨p,e,h1,g⟩:=look_ok h.B.M l;rw[hv]at e;injection e with e;subst e;have i:h7.xs=[]↔∀s∈a.q,∀q,zwo a.z a.C s.u s.xy x s.xp=some q->q=false:=by unfold lookO at hv;have⟨_,_,hv⟩:=wu.1 hv;have⟨_,_,hv⟩:=wu.1 hv;obtain⟨b,hb,rfl⟩:=wX.1 hv;rw[vwu _ _ _ hb];simp
 have m:h7.xn=[]↔¬∃s∈a.X,qwh a x s=1:=by simp_all
 have j:h7.xz=[]↔∀s∈a.X,qwh a x s≠2:=by rw[g];simp;grind
 unfold qxx;rw[<-j,<-i];have k:(∃s∈a.X,qwh a x s=1)↔h7.xn≠[]:=by simp_all
 rw[k];refine⟨λe=>?_,λ⟨f,d,e3⟩=>?_⟩
 ·unfold endOf kx2 at e;split at e
  ·cases e
  ·rename_i c1;split at e
   ·cases e
   ·rename_i c2;split at e
    ·cases e
    ·rename_i c3;have d:h7.xz=[]:=vzl.1 aj;rw[d]at c2;exact⟨λf=>c2 (by simp_all),d,vzl.1 aj⟩
 grind [endOf,kx2]
theorem pk1(h:Sym t a)(B:kz5 (ssz (ql t)) τ)(i:yg a.z a.size x)(m:yg a.z a.size y)(g:StT t a τ x y)(l:qxx a x):qxx a y:=by
 have⟨σ,A,j⟩:=g.symm h B i;have out:∀{z s},yg a.z a.size z->s∈a.X->∃r,zkd a z s=some r/\qwh a z s=r.2:=λE d=>by have⟨r,C,G,_⟩:=out_ok h.B.M E d;simp_all
 have p:∀{ρ:Tau}{u v:List Int}{n:Int},kz5 (ssz<|ql t) ρ->yg a.z a.size u->yg a.z a.size v->StT t a ρ u v->(∃s∈a.X,qwh a u s=n)->∃s∈a.X,qwh a v s=n:=λF w hv g ⟨s,d,e⟩=>by have⟨r,C,G⟩:=out w d;have⟨s',f,r',H,I,_⟩:=jk0 h F w hv g d C;grind
 refine⟨p B i m g l.1,λs d e=>?_,λs d q D=>?_⟩
 ·have⟨s',f,k⟩:=p A m i j ⟨s,d,e⟩;exact l.2.1 s' f k
 ·have⟨s',f,k⟩:=xqz h A m i j d D;exact l.2.2 s' f q k
end
section
structure VarT (t:PTree)(v:PVar)(u:MVar):Prop where
 noOver:(jw v).K=false->u.g=-1/\kwv v=false
 g:(jw v).K=true->kwv v=true/\∃k:Nat,kkq t.j v.g.x.toList=some k/\u.g=k
 noOf:(kqm (qm<|ql t) (jw v).si).b≠4->u.B=-1/\(ofB v&&decide (0<=stI t v.k))=false
 B:(kqm (qm<|ql t) (jw v).si).b=4->ofB v=true/\(kqm (qm<|ql t) (jw v).si).y=v.k.x/\∃k:Nat,kkq t.j v.k.x.toList=some k/\u.B=k
theorem pkh(h:Right t)(hv:a6∈t.z)(i:qw4 t.j t.p sz (jw a6)=some u):VarT t a6 u:=by
 have⟨L,z,A⟩:=h.M;have⟨q,v⟩:=z.z a6 hv;have d:=jqk h;have m:kji t.j zh.x.toList=-1:=by unfold kji;rw[show zh.x.toList=[] from dh,d]
 unfold qw4 at i;have⟨c,_,i⟩:=wu.1 i;obtain⟨x,_,rfl⟩:=wX.1 i;have j:∀{s:List UInt8},¬zx (ug t) s<0->∃k:Nat,kkq t.j s=some k/\kji t.j s=k:=λg=>by have⟨k,x,h1,_⟩:=zzb t.j _<|qwa g;exact⟨k,h1,by unfold kji;rw[h1]⟩
 have l:((jw a6).K=false->kji t.j a6.g.x.toList=-1/\kwv a6=false)/\((jw a6).K=true->kwv a6=true/\∃k:Nat,kkq t.j a6.g.x.toList=some k/\kji t.j a6.g.x.toList=k):=by
  obtain e|e:=q
  ·grind [jw,dh,kwv]
  ·have hA:(jw a6).K=true:=by show(!(a6.g.t.toList==[]))=true;simp_all
   rw[hA];exact⟨λe=>mZ,λ_=>⟨e,j<|h.xt.g a6 hv e⟩⟩
 suffices g:((kqm (qm<|ql t) (jw a6).si).b≠4->kji t.j (jw a6).si.y.x.toList=-1/\(ofB a6&&decide (0<=stI t a6.k))=false)/\((kqm (qm<|ql t) (jw a6).si).b=4->ofB a6=true/\(kqm (qm<|ql t) (jw a6).si).y=a6.k.x/\∃k:Nat,kkq t.j a6.k.x.toList=some k/\kji t.j (jw a6).si.y.x.toList=k) from⟨l.1,l.2,g.1,g.2⟩
 have word:∀{f:Int}{p:Tok},f=0\/f=1->a6.k.t.toList=nV->(jw a6).si=⟨f,p,zh⟩->((kqm (qm<|ql t) (jw a6).si).b≠4->kji t.j (jw a6).si.y.x.toList=-1/\(ofB a6&&decide (0<=stI t a6.k))=false)/\((kqm (qm<|ql t) (jw a6).si).b=4->ofB a6=true/\(kqm (qm<|ql t) (jw a6).si).y=a6.k.x/\∃k:Nat,kkq t.j a6.k.x.toList=some k/\kji t.j (jw a6).si.y.x.toList=k):=λy k1 e=>by
  rw[e];refine⟨λ_=>⟨m,by unfold ofB;simp_all⟩,λe=>?_⟩;obtain rfl|rfl:=y
  ·exact absurd e (by show ¬(1:Int)=4;decide)
  ·exact absurd e (by show ¬(2:Int)=4;decide)
 obtain⟨k1,k2,k3⟩|⟨k1,k2,k3,k4⟩|⟨k1,k3⟩:=v
 ·grind [jw]
 ·grind [jw]
 ·have e:(jw a6).si=⟨2,zh,a6.k⟩:=by unfold jw;simp_all
  rw[e];have w:kqm (qm<|ql t) ⟨2,zh,a6.k⟩=if (zl (qm<|ql t) a6.k.x.toList).V==1 then ⟨4,a6.k.x⟩ else ⟨3,a6.k.x⟩:=rfl
  rw[w];have B:ofB a6=true:=by unfold ofB;simp_all
  by_cases g:zx (ug t) a6.k.x.toList<0
  ·have C:((zl (qm<|ql t) a6.k.x.toList).V==1)=false:=by grind [qz0]
   grind [stI,kji,kym,ug]
  grind [qz0]
def kxr(ss:List PSet)(T:Turn):Tau:=λs v=>if v<=0 then -1 else match (kkq ss s).bind λk=>T[k]? with|some o=>o.getD (v.toNat-1) 0|none=>0
def kw7(t:PTree)(T:Turn):Prop:=∀(k:Nat)(q:PSet),t.j[k]?=some q->∃o:List Int,T[k]?=some o/\(o.length:Int)=mg q.size.x/\o.Nodup/\∀x∈o,0<=x/\x<mg q.size.x
variable {t:PTree} {a:Mach} {T:Turn}
theorem vv3(f:Right t)(e:kkq t.j s=some k):∃q,t.j[k]?=some q/\q.y.x.toList=s/\mg q.size.x=ssz (ql t) s:=by have⟨q,d,g⟩:=qww e;have hb:=f.bnd.size q<|wB d;refine⟨q,d,g,?_⟩;unfold ssz qzt;rw[show(ql t).j=t.j from rfl,e];simp only[rQ];rw[d];simp only[rQ];unfold jym;grind
theorem vv2(d:kkq t.j s=none):ssz (ql t) s=0:=by grind [ssz,qzt,ql]
theorem jq3(e:Right t)(h:kw7 t T)(d:kkq t.j s=some k):∃o,T[k]?=some o/\o.length=ssz (ql t) s/\o.Nodup/\(∀x∈o,0<=x/\x<ssz (ql t) s)/\∀(j:Nat)(hj:j<o.length),kxr t.j T s ((j:Int)+1)=o[j]:=by have⟨q,f,i,g⟩:=vv3 e d;have⟨o,o1,o2,o3,o4⟩:=h k q f;rw[g]at o2 o4;grind [kxr]
theorem qv6(f:Right t)(h:kw7 t T):kz5 (ssz (ql t)) (kxr t.j T):=by
 refine⟨λs=>rfl,λs x h1 l=>?_,λs x y a1 a2 b1 b2 e=>?_⟩
 ·cases d:kkq t.j s with
  |none=>rw[vv2 d]at l;omega
  |some k=>
   have⟨o,_,o2,_,o4,g⟩:=jq3 f h d;have:=g (x.toNat-1) aj;grind [List.getElem_mem]
 ·cases d:kkq t.j s with
  |none=>rw[vv2 d]at a2 b2;omega
  |some k=>
   have⟨o,_,o2,o3,o4,g⟩:=jq3 f h d;have key:∀v:Int,0<v->v<=ssz (ql t) s->∃j,∃m:j<o.length,v=(j:Int)+1/\kxr t.j T s v=o[j]/\0<=o[j]:=λv z A=>⟨v.toNat-1,aj,aj,by grind,(o4 _<|wZ _).1⟩
   by_cases q:x=0
   ·grind [kxr]
   ·have⟨i,hi,i1,i2,i3⟩:=key x aj a2;by_cases u:y=0
    ·grind [kxr]
    ·have⟨j,m,j1,j2,w⟩:=key y aj b2;rw[i2,j2]at e;have p:=sQ.1 o3;grind
theorem qvq(i:Right t)(h:kw7 t T)(f:VarT t a6 u)(g:UOk (ql t) u (jw a6))(m:j<u.d):kvz u T j=some ((plX (kxr t.j T) (jw a6).K (jw a6).g.x.toList j:Nat):Int):=by
 have e:=g.cnt;unfold kvz plX;cases d:(jw a6).K
 ·rw[(f.noOver d).1];rfl
 ·have⟨_,k,k1,k2⟩:=f.g d;rw[d]at e;have e:u.d=ssz (ql t) a6.g.x.toList:=e;have⟨o,o1,o2,_,o4,p⟩:=jq3 i h k1;have l:j<o.length:=aj;rw[k2,Xy ay,Xy aj,tX,o1];show o[j]?=some (((kxr t.j T a6.g.x.toList<|(j:Int)+1).toNat:Nat):Int);grind [List.getElem_mem]
theorem vkc(l:Right t)(h:kw7 t T)(i:VarT t a6 u)(g:UOk (ql t) u (jw a6))(s:0<=e)(h1:e<u.a.length):∃y,qv3 u T e=some y/\ftT idτ (kqm (qm (ql t)) (jw a6).si) y=ftT (kxr t.j T) (kqm (qm (ql t)) (jw a6).si) e:=by
 unfold qv3;have q:=g.few;by_cases d:(kqm (qm<|ql t) (jw a6).si).b=4
 ·have⟨_,k2,k,k3,k4⟩:=i.B d;have m:=g.set d;rw[kvv (τ:=kxr t.j T) d,k2];rw[k2]at m;rw[k4];have j:((k:Int)==-1)=false:=ay;rw[j,QX];by_cases p:e=0
  ·rw[p,lJ (by rfl)];exact⟨0,rfl,by rw[kvv d];rfl⟩
  ·have⟨o,o1,o2,_,o4,w⟩:=jq3 l h k3;have f:e.toNat-1<o.length:=aj;have v:=o4 _<|wZ f;rw[Xy (by simp_all),Xy aj,tX,o1];simp only[rQ];rw[wW f];simp only[rQ];rw[lJ aj];grind [kvv,idτ]
 ·rw[(i.noOf d).1];grind [ftT]
theorem jxf{u:MVar}{st:List Int}:∀(l:List Nat)(c r:List Int),kw0 u T st l c=some r->∀i∈l,∀p,kvz u T i=some p->0<=p
 |i::l,c,r,h,j,d,p,hp=>by
  rw[kw0]at h;have⟨p',h1,h⟩:=wu.1 h;have⟨x,e,h⟩:=wu.1 h;have⟨y,f,h⟩:=wu.1 h;split at h
  ·rename_i g;obtain rfl|d:=tZ.1 d
   ·simp_all
   ·exact jxf l _ r h j d p hp
  simp_all
theorem vqh(g:∀i j p q,i<u.d->j<u.d->kvz u T i=some p->kvz u T j=some q->0<=p->0<=q->p.toNat=q.toNat->i=j):∀(l:List Nat)(c r:List Int),(∀i∈l,i<u.d)->l.Nodup->kw0 u T st l c=some r ->
  (∀q,(∀i∈l,∀p,kvz u T i=some p->u.f+p.toNat≠q)->r[q]?=c[q]?)/\∀i∈l,∃p x y,kvz u T i=some p/\st[u.f+i]?=some x/\qv3 u T x=some y/\r[u.f+p.toNat]?=some y
 |[],c,r,_,_,h=>by
  grind [kw0]
 |i::l,c,r,hl,hn,h=>by
  rw[QM]at hn;rw[kw0]at h;have⟨p,h1,w⟩:=wu.1 h;have⟨x,t,hb⟩:=wu.1 w;have⟨y,v,f⟩:=wu.1 hb;split at f
  ·rename_i z;have m:∀j∈l,j<u.d:=λj d=>hl j (jB d)
   have⟨i1,i2⟩:=vqh g l _ r m hn.2 f;refine⟨λq s=>?_,λj d=>?_⟩
   ·grind
   ·obtain rfl|d:=tZ.1 d
    ·refine⟨p,x,y,h1,t,v,?_⟩;rw[i1 _ λk A q s e=>?_,Zk z.2];have B:0<=q:=by exact jxf l _ r f k A q s
     grind
    ·exact i2 j d
  simp_all
end
section
variable {t:PTree} {a:Mach} {T:Turn} {τ τ':Tau} {x y z:List Int}
def xy3(T:Turn)(v:MVar):Prop:=(∀i,i<v.d->∀p,kvz v T i=some p->p.toNat<v.d)/\∀i j p q,i<v.d->j<v.d->kvz v T i=some p->kvz v T j=some q->0<=p->0<=q->p.toNat=q.toNat->i=j
theorem vqb:∀(vs:List MVar)(c r:List Int),(∀v∈vs,xy3 T v)->vs.Pairwise (λu v=>u.f+u.d<=v.f\/v.f+v.d<=u.f)->qqw T st vs c=some r ->
  (∀q,(∀v∈vs,¬(v.f<=q/\q<v.f+v.d))->r[q]?=c[q]?)/\∀v∈vs,∀i,i<v.d->∃p x y,kvz v T i=some p/\st[v.f+i]?=some x/\qv3 v T x=some y/\r[v.f+p.toNat]?=some y
 |[],c,r,_,_,h=>by
  grind [qqw]
 |v::vs,c,r,hv,hp,h=>by
  rw[JW]at hp;rw[qqw]at h;have⟨m,f,h⟩:=wu.1 h;have⟨k1,k2⟩:=hv v<|rZ ..;have⟨c1,c2⟩:=vqh k2 (List.range v.d) c m (λi hi=>Qo.1 hi) Za f;have⟨i1,i2⟩:=vqb vs m r (λu d=>hv u<|jB d) hp.2 h;refine⟨λq j=>?_,λu d i hi=>?_⟩
  ·grind
  ·obtain rfl|d:=tZ.1 d
   ·have⟨p,x,y,g1,e,g3,g4⟩:=c2 i<|Qo.2 hi;refine⟨p,x,y,g1,e,g3,?_⟩;have:=k1 i hi p g1;rw[i1 _ λw g=>?_]
    ·exact g4
    ·have:=hp.1 w g;omega
   ·exact i2 u d i hi
def xx7(t:PTree)(a:Mach):Prop:=∀k (hk:k<t.z.length) u,a.z[k]?=some u->VarT t t.z[k] u
theorem jw8(h:Sym t a)(B:xx7 t a)(m:kw7 t T)(G:yg a.z a.size x)(H:qqw T x a.z c=some y):StT t a (kxr t.j T) x y:=by
 have D:=qv6 h.right m;have C:∀k u,a.z[k]?=some u->xy3 T u:=λk u l=>by
  have⟨g,d⟩:=h.v l;have hv:=B k g u l;refine⟨λi hi p z=>?_,λi j p q hi f h1 s _ _ e=>?_⟩
  ·rw[qvq h.right m hv d hi]at z;injection z with z;have:=jqs D d.cnt hi;omega
  ·rw[qvq h.right m hv d hi]at h1;rw[qvq h.right m hv d f]at s;injection h1 with h1;injection s with s;exact vvl D d.cnt hi f aj
 have⟨_,s⟩:=vqb a.z c y (λv hv=>by obtain⟨k,g,rfl⟩:=wG hv;exact C k _<|wW g) (sQ.2 λi j hi f I=>h.B.M.disj i j _ _ (wW hi) (wW f) aj) H;intro k u l j f;have⟨g,d⟩:=h.v l;have hv:=B k g u l;have⟨p,b,E,g1,A,g3,g4⟩:=s u (wB l) j f;rw[qvq h.right m hv d f]at g1;injection g1 with g1;have⟨J,e,b1,b2⟩:=G.val u (wB l) j f;rw[A]at e;injection e with e;subst e;have⟨c2,w,F⟩:=vkc h.right m hv d b1 b2;rw[g3]at w;injection w with w;subst w;rw[kxc g,kxc g];exact⟨b,E,A,by grind,F⟩
theorem vvn(f:kz5 e0 τ)(hn:n=if g9 then e0 s else 1)(e:j<n):∃i,i<n/\plX τ g9 s i=j:=by
 have⟨σ,d,hi⟩:=f.inv;refine⟨plX σ g9 s j,jqs d hn e,?_⟩;unfold plX;cases g9
 ·rfl
 ·have hn:n=e0 s:=hn;have:=d.rng s ((j:Int)+1) aj aj;grind
theorem StT.ok(h:Sym t a)(l:kz5 (ssz (ql t)) τ)(s:yg a.z a.size x)(B:y.length=a.size)(z:StT t a τ x y):yg a.z a.size y:=by
 refine⟨B,λu D j A=>?_⟩;obtain⟨k,m,rfl⟩:=wG D;have f:=wW m;have⟨p,q⟩:=h.v f;have⟨i,hi,e⟩:=vvn l q.cnt A;have⟨b,c,v,d,e3⟩:=z k _ f i hi;rw[kxc p]at d e3;rw[kxc p]at e3;have d:y[a.z[k].f+plX τ _ _ i]?=some c:=d;rw[e]at d;refine⟨c,d,?_⟩;have⟨f1,f2⟩:=vwl l (pq3) e3;by_cases g:(kqm (qm<|ql t) (jw t.z[k]).si).b=4
 ·have C:=s.range h f hi v p g;have G:=q.set g;rw[f1 g];by_cases w:b=0
  ·rw[w,l.zero];omega
  ·have:=l.rng _ b aj C.2;omega
 ·rw[f2 g];have⟨E,g1,F,g3⟩:=s.val _ (wZ m) i hi;simp_all
theorem pxb(e:ftT idτ ty b=ftT idτ ty b6):b=b6:=by rw[pj3,pj3]at e;omega
theorem StT.uniq(h:Sym t a)(A:kz5 (ssz (ql t)) τ)(h1:StT t a τ x y)(m:StT t a τ x z)(D:y.length=a.size)(E:z.length=a.size):y=z:=by
 apply Jm;intro q;by_cases v:q<a.size
 ·have⟨u,w,F,G⟩:=h.turn.all q v;obtain⟨k,f,rfl⟩:=wG w;have d:=wW f;have⟨s,p⟩:=h.v d;have⟨i,hi,e⟩:=vvn A p.cnt (by omega:q-a.z[k].f<a.z[k].d);have⟨b,c,g,j,e3⟩:=h1 k _ d i hi;have⟨B,C,g1,l,g3⟩:=m k _ d i hi;rw[g]at g1;injection g1 with g1;subst g1;rw[kxc s]at j e3 l g3;grind [pxb]
 simp_all
theorem StT.congr(h:Sym t a)(z:yg a.z a.size x)(w:∀s (v:Int),0<=v->v<=ssz (ql t) s->τ s v=τ' s v)(p:StT t a τ x y):StT t a τ' x y:=λk u f j i=>by
 have⟨e,q⟩:=h.v f;have⟨b,c,g,m,e3⟩:=p k u f j i;rw[kxc e]at m e3 |-;rw[kxc e]at e3 |-;refine⟨b,c,g,?_,e3.trans ?_⟩
 ·have:plX τ (jw t.z[k]).K (jw t.z[k]).g.x.toList j=plX τ' (jw t.z[k]).K (jw t.z[k]).g.x.toList j:=by have A:=q.cnt;grind [plX]
  simp_all
 ·show ftT τ _ b=ftT τ' _ b;by_cases d:(kqm (qm<|ql t) (jw t.z[k]).si).b=4
  ·have l:=z.range h f i g e d;rw[kvv d,kvv d,w _ _ l.1 l.2]
  grind [ftT]
def vq4(t:PTree)(ts:List Turn):Prop:=(∀T∈ts,kw7 t T)/\∀τ,kz5 (ssz (ql t)) τ->∃T∈ts,∀s (v:Int),0<=v->v<=ssz (ql t) s->kxr t.j T s v=τ s v
def Alk(t:PTree)(a:Mach)(x y:List Int):Prop:=∃τ,kz5 (ssz (ql t)) τ/\StT t a τ x y
theorem Alk.refl(h:Sym t a)(d:yg a.z a.size x):Alk t a x x:=⟨idτ,zjz,StT.refl h d⟩
theorem Alk.symm(h:Sym t a)(e:yg a.z a.size x)(hA:Alk t a x y):Alk t a y x:=by have⟨τ,h1,d⟩:=hA;exact d.symm h h1 e
theorem Alk.trans(h:Sym t a)(h1:Alk t a x y)(f:Alk t a y z):Alk t a x z:=by have⟨τ,d,s1⟩:=h1;have⟨σ,e,g⟩:=f;exact⟨_,d.comp e,s1.trans h d e g⟩
structure kwd (t:PTree)(a:Mach)(x k:List Int):Prop where
 ok:yg a.z a.size k
 alike:Alk t a x k
 D:∀z,Alk t a x z->z.length=a.size->cmpL k z<=0
theorem xv5(l c:List Int):cmpL (jxx l c) l<=0/\cmpL (jxx l c) c<=0:=by grind [jxx,ky0]
theorem vzo:∀(ts:List Turn)(lo c:List Int)(r:List Int×List Int),kvk vars st ts lo c=some r->(r.1=lo\/∃T∈ts,∃c',c'.length=c.length/\qqw T st vars c'=some r.1)/\cmpL r.1 lo<=0/\∀T∈ts,∃c' z,c'.length=c.length/\qqw T st vars c'=some z/\cmpL r.1 z<=0
 |[],lo,c,r,h=>by
  grind [kvk,jvt]
 |T::ts,lo,c,r,h=>by rw[kvk]at h;have⟨m,d,h⟩:=wu.1 h;have⟨i1,i2,i3⟩:=vzo ts _ m r h;grind [qjk,xv5,qzg,jxx]
theorem xzc(h:Sym t a)(l:xx7 t a)(d:vq4 t ts)(f:yg a.z a.size x)(m:c.length=a.size){h8:List Int×List Int}(v:kvk a.z x ts x c=some h8):kwd t a x h8.1:=by
 have⟨h1,C,s⟩:=vzo ts x c h8 v;have hA:Alk t a x h8.1/\h8.1.length=a.size:=by
  obtain e|⟨T,i,q,j,g⟩:=h1
  ·rw[e];exact⟨Alk.refl h f,f.T⟩
  ·exact⟨⟨_,qv6 h.right<|d.1 T i,jw8 h l (d.1 T i) f g⟩,by rw[qjk _ _ _ g,j,m]⟩
 have⟨τ,A,B⟩:=hA.1;refine⟨B.ok h A f hA.2,hA.1,λz w u=>?_⟩;have⟨σ,s1,y⟩:=w;have⟨T,i,k⟩:=d.2 σ s1;have⟨q,D,j,g,e3⟩:=s T i;have p:=jw8 h l (d.1 T i) f g;have:=p.congr h f k;rw[y.uniq h s1 this u (by rw[qjk _ _ _ g,j,m])];exact e3
theorem kwd.eq(h:Sym t a){e:List Int}(f:yg a.z a.size x)(hA:Alk t a x y)(h1:kwd t a x b9)(d:kwd t a y e):b9=e:=by have a1:=h1.D e (hA.trans h d.alike) d.ok.T;have a2:=d.D b9 ((hA.symm h f).trans h h1.alike) h1.ok.T;grind [ky0,zv9]
theorem kwd.alike'(h:Sym t a)(e:yg a.z a.size y)(h1:kwd t a x b9)(d:kwd t a y b9):Alk t a x y:=h1.alike.trans h<|d.alike.symm h e
end
section
def xx9:List Int->Turn->Prop
 |[],os=>os=[]
 |n::l,os=>∃o r,os=o::r/\o∈orders n.toNat/\xx9 l r
theorem jxs:∀(l:List Int)(acc ts:List Turn),kkm l acc=some ts->∀T,T∈ts↔∃c∈acc,∃os,T=c++os/\xx9 l os
 |[],acc,ts,h,T=>by
  rw[kkm]at h;injection h with h;subst h;exact⟨λj=>⟨T,j,[],ay,rfl⟩,λ⟨c,d,os,e,f⟩=>by rw[e,show os=[] from f,Qs];exact d⟩
 |n::l,acc,ts,h,T=>by
  rw[kkm]at h;split at h
  ·rw[jxs l _ _ h T];refine⟨λ⟨c,d,os,e,f⟩=>?_,λ⟨c,d,os,e,o,r,k,h1,i⟩=>?_⟩
   ·have⟨c0,g,d⟩:=rM.1 d;obtain⟨o,h1,rfl⟩:=tY.1 d;exact⟨c0,g,o::os,by simp_all,o,os,rfl,h1,f⟩
   ·exact⟨c++[o],rM.2 ⟨c,d,tY.2 ⟨o,h1,rfl⟩⟩,r,by simp_all,i⟩
  simp_all
theorem xxm:∀(ss:List PSet)(os:Turn),xx9 (kje ss) os->∀(k:Nat)(q:PSet),ss[k]?=some q->∃o,os[k]?=some o/\o∈orders (mg q.size.x).toNat
 |s::ss,os,⟨o,r,e,h1,h2⟩,0,q,hq=>by
  simp_all
 |s::ss,os,⟨o,r,e,h1,h2⟩,k+1,q,hq=>by rw[e];exact xxm ss r h2 k q hq
variable {t:PTree} {τ:Tau}
def gT(τ:Tau)(q:PSet):List Int:=(List.range (mg q.size.x).toNat).map λi:Nat=>τ q.y.x.toList ((i:Int)+1)
theorem pzb(hn:n=2\/n=3):∀o∈kj3 n,o.Nodup:=by obtain rfl|rfl:=hn<;>decide +kernel
theorem xz7(hn:n=2\/n=3){i5:Nat->Int}(h1:∀i,i<n->0<=i5 i/\i5 i<n)(g:∀i j,i<j->j<n->i5 i≠i5 j):(List.range n).map i5∈kj3 n:=by
 obtain rfl|rfl:=hn
 ·have a0:=h1 0 aj;have a1:=h1 1 aj;have d:=g 0 1 aj aj;show [i5 0,i5 1]∈kj3 2;have:i5 0=0/\i5 1=1\/i5 0=1/\i5 1=0:=aj;obtain⟨e,f⟩|⟨e,f⟩:=this<;>rw[e,f]<;>decide +kernel
 ·have a0:=h1 0 aj;have a1:=h1 1 aj;have a2:=h1 2 aj;have d:=g 0 1 aj aj;have d2:=g 0 2 aj aj;have d3:=g 1 2 aj aj;show [i5 0,i5 1,i5 2]∈kj3 3;have:i5 0=0/\i5 1=1/\i5 2=2\/i5 0=0/\i5 1=2/\i5 2=1\/i5 0=1/\i5 1=0/\i5 2=2\/i5 0=1/\i5 1=2/\i5 2=0\/i5 0=2/\i5 1=0/\i5 2=1\/i5 0=2/\i5 1=1/\i5 2=0:=aj;obtain⟨e,f,e3⟩|⟨e,f,e3⟩|⟨e,f,e3⟩|⟨e,f,e3⟩|⟨e,f,e3⟩|⟨e,f,e3⟩:=this<;>rw[e,f,e3]<;>decide +kernel
theorem jqq(h:NamesFine t):(t.j.map (·.y.x.toList)).Nodup:=by
 have s:(t.j.flatMap λk=>[k.y]).Sublist (jc t):=by rw[kye];exact(qzv (λk=>(List.Sublist.refl _)) t.j).trans (JK _ _)
 have:=(s.map (·.x.toList)).nodup<|kyi h;grind
theorem jqz(h:Right t)(d:q∈t.j):((mg q.size.x).toNat=2\/(mg q.size.x).toNat=3)/\(ssz (ql t) q.y.x.toList:Int)=mg q.size.x:=by have hb:=h.bnd.size q d;refine⟨aj,?_⟩;have⟨k,x,h1,e,f⟩:=zzb t.j q.y.x.toList ⟨q,d,rfl⟩;have⟨y,y1,y2,y3⟩:=vv3 h h1;rw[<-y3];have hn:=jqq h.xt;obtain⟨i,hi,rfl⟩:=wG d;obtain⟨g,rfl⟩:=rY.1 y1;have j:=sQ.1 hn;grind
theorem pyl(h:Right t)(d:kz5 (ssz (ql t)) τ)(f:q∈t.j):gT τ q∈kj3 (mg q.size.x).toNat:=by
 have⟨h1,k⟩:=jqz h f;refine xz7 h1 (λi hi=>?_)<|λi j g l e=>?_
 ·have:=d.rng q.y.x.toList ((i:Int)+1) aj aj;omega
 ·have:=d.inj q.y.x.toList ((i:Int)+1) ((j:Int)+1) aj aj aj aj e;omega
theorem pvx(h:Right t)(e:kz5 (ssz (ql t)) τ)(g:∀(k:Nat)(q:PSet),t.j[k]?=some q->T[k]?=some (gT τ q)):∀s (v:Int),0<=v->v<=ssz (ql t) s->kxr t.j T s v=τ s v:=λs v f h1=>by
 by_cases hv:v=0
 ·rw[hv,e.zero];rfl
 ·cases d:kkq t.j s with
  |none=>rw[vv2 d]at h1;omega
  |some k=>
   grind [vv3,kxr,gT]
theorem vyo(h:Right t)(e:∀(k:Nat)(q:PSet),t.j[k]?=some q->∃o,T[k]?=some o/\o∈kj3 (mg q.size.x).toNat):kw7 t T:=λk q d=>by have⟨o,o1,o2⟩:=e k q d;have⟨h1,f⟩:=jqz h<|wB d;grind [qky,pzb]
theorem xxb(h:Right t)(d:kz5 (ssz (ql t)) τ):∀ss:List PSet,(∀q∈ss,q∈t.j)->xx9 (kje ss) (ss.map (gT τ))
 |[],_=>rfl
 |q::ss,hs=>⟨_,_,rfl,(kz7 _).mem_iff.2<|pyl h d (hs q<|rZ ..),xxb h d ss λx e=>hs x<|jB e⟩
theorem xqh(h:Right t)(i:kkm (kje t.j) [[]]=some ts):vq4 t ts:=by have g:=jxs _ _ _ i;refine⟨λT l=>vyo h λk q d=>?_,λτ j=>⟨t.j.map<|gT τ,(g _).2 ⟨[],ay,_,rfl,xxb h j _ λ_ d=>d⟩,pvx h j λk q d=>by simp_all⟩⟩;have⟨c,f,os,e,m⟩:=(g T).1 l;rw[Qq]at f;subst f;rw[Qd]at e;subst e;have⟨o,o1,o2⟩:=xxm _ _ m k q d;exact⟨o,o1,(kz7 _).mem_iff.1 o2⟩
theorem pjp(h:Right t):vq4 t (kzv t):=by
 have s:t.j.length<=2:=h.bnd.j;refine⟨λT f=>vyo h λk q d=>?_,λτ i=>?_⟩
 ·have⟨o,h1,f⟩:=rM.1 f;obtain⟨p,g,rfl⟩:=tY.1 f;have m:=(rY.1 d).1;match k,d with
  |0,d=>rw[d]at h1;exact⟨o,rfl,h1⟩
  |1,d=>rw[d]at g;exact⟨p,rfl,g⟩
  |k+2,_=>omega
 ·have key:∀x:Option PSet,(∀q,x=some q->q∈t.j)->∃o∈zxi x,∀q,x=some q->o=gT τ q:=λx j=>by
   cases x with
   |none=>simp_all [zxi]
   |some q=>exact⟨gT τ q,pyl h i<|j q rfl,λv e=>by simp_all⟩
  have⟨o,o1,o2⟩:=key t.j[0]? λq e=>wB e
  have⟨p,l,u⟩:=key t.j[1]? λq e=>wB e
  refine⟨[o,p],rM.2 ⟨o,o1,tY.2 ⟨p,l,rfl⟩⟩,pvx h i λk q d=>?_⟩;grind
end
section
def xj4(x:Tok):Prop:=x.t.toList=mX->(32:UInt8)∉x.x.toList
theorem vqz(s:ByteArray):∀f k i,k<=i->i<qxv f s k->kzq s i=true
 |0,k,i,h1,h2=>by rw[qxv]at h2;omega
 |f+1,k,i,h1,h2=>by
  rw[qxv]at h2;split at h2
  ·rename_i h;by_cases e:i=k
   ·simp_all
   ·exact vqz s f (k+1) i aj h2
  ·omega
theorem pyx:qy0.toList≠mX/\qj0.toList≠mX/\zqa.toList≠mX:=by rw[yj,yj,yj];decide
theorem pvq(s:ByteArray)(k:Nat):xj4 (uf s k):=by
 intro g d;unfold uf at g d;split at g
 ·rename_i j;rw[lJ j,yj]at d;have⟨i,hi,e⟩:=wG d;have f:i<(s.extract k<|qxv 801 s k).size:=by rw[<-btl];exact hi
  have h:(s.extract k<|qxv 801 s k)[i]'f=32:=by rw[<-e];rfl
  rw[JJ]at h;have m:=lX (a:=s) (b:=k) (e:=qxv 801 s k);have l:=vqz s 801 k (k+i) aj aj;simp_all [kzq,inB]
 grind [pyx]
theorem zk9(s:ByteArray):∀(f k:Nat)(acc:List Tok),(∀x∈acc,xj4 x)->∀x∈(kvd f s k acc).1,xj4 x
 |0,k,acc,h,x,d=>h x d
 |f+1,k,acc,h,x,d=>by
  have app:∀y,xj4 y->∀x∈acc++[y],xj4 x:=λy g x d=>by grind
  rw[kvd]at d;split at d
  ·split at d
   ·exact zk9 s f _ acc h x d
   ·split at d
    ·simp_all
    ·exact zk9 s f _ _ (app _<|pvq s k) x d
  ·exact app _ (λ_ e=>by simp[kks,yj]at e) x d
theorem pji(h:(qq4 b7).1=0):∀x∈kzt (uz (jv b7).1).1,(32:UInt8)∉x.x.toList:=by
 unfold qq4 at h;split at h
 ·cases h
 ·rename_i j;split at h
  ·cases h
  ·rename_i f;split at h
   ·cases h
   ·rename_i e;have i:=tree_good (kyh aj f) e;intro x d;have⟨g,k⟩:=i.nms.mem x d;exact zk9 b7 801 0 [] (λx d=>qY) x g (by simp_all)
structure TxtIn (u:MVar):Prop where
 no:∀x∈u.a,(32:UInt8)∉x.data.toList
 inj:∀(i j:Nat)(x y:ByteArray),u.a[i]?=some x->u.a[j]?=some y->x.data.toList=y.data.toList->i=j
theorem xq4(hi:i<10)(d:j<10)(e:(kvh i).data.toList=(kvh j).data.toList):i=j:=by have e:[(48+i).toUInt8]=[(48+j).toUInt8]:=e;injection e with e;have:=congrArg UInt8.toNat e;simp at this;omega
theorem jj5(h:(kvx n)[i]?=some b7):i<n/\b7=kvh i:=by grind [kvx]
theorem xvy(hi:i<10):(32:UInt8)∉(kvh i).data.toList:=by intro h;have h:(32:UInt8)∈[(48+i).toUInt8]:=h;rw[Qq]at h;have:=congrArg UInt8.toNat h;simp at this;omega
theorem jy2(hn:n<=10):(∀x∈kvx n,(32:UInt8)∉x.data.toList)/\∀(i j:Nat)(x y:ByteArray),(kvx n)[i]?=some x->(kvx n)[j]?=some y->x.data.toList=y.data.toList->i=j:=by
 refine⟨λx f=>?_,λi j x y h1 d e=>?_⟩
 ·obtain⟨i,hi,rfl⟩:=tY.1 f;grind [xvy]
 ·obtain⟨a1,rfl⟩:=jj5 h1;obtain⟨b1,rfl⟩:=jj5 d;exact xq4 aj aj e
theorem xjx(h:Right t)(hN:∀x∈kzt t,(32:UInt8)∉x.x.toList)(l:qw4 t.j t.p sz (jw a6)=some u):TxtIn u:=by
 unfold qw4 at l;have⟨c,_,l⟩:=wu.1 l;obtain⟨x,f,rfl⟩:=wX.1 l;unfold vqi at f;split at f
 ·injection f with f;subst f;have⟨a,b⟩:=jy2 (n:=2) aj;exact⟨a,b⟩
 ·split at f
  ·obtain⟨d,d1,rfl⟩:=wX.1 f;have:=(zq8 d1).2;have⟨a,b⟩:=jy2 (n:=d+1) aj;exact⟨a,b⟩
  ·cases q:kwe t.p (jw a6).si.y.x.toList with
   |some k=>
    rw[q]at f;injection f with f;subst f;have p:=(qju q).1;refine⟨λx f=>?_,λi j x y h1 g e=>?_⟩
    ·obtain⟨m,w,rfl⟩:=tY.1 f;rw[<-yj];exact hN m<|kwy p (jB w)
    ·have z:k.i.Sublist (jc t):=by rw[kye];refine List.Sublist.trans ?_<|J5 _ _;refine List.Sublist.trans ?_<|JK _ _;refine List.Sublist.trans (ZC _ _) (?_:(kx7 k).Sublist _);have⟨l1,D,e⟩:=List.append_of_mem p;simp_all
     have hn:=(z.map (·.x.toList)).nodup<|kyi h.xt;have h1:(k.i.map (·.x))[i]?=some x:=h1;have g:(k.i.map (·.x))[j]?=some y:=g;rw[QV]at h1 g;obtain⟨s,g1,rfl⟩:=wX.1 h1;obtain⟨A,v,rfl⟩:=wX.1 g;obtain⟨i1,rfl⟩:=rY.1 g1;obtain⟨j1,rfl⟩:=rY.1 v;rw[<-yj,<-yj]at e;have C:=sQ.1 hn;grind
   |none=>
    rw[q]at f;obtain⟨m,s,rfl⟩:=wX.1 f;have⟨_,_,_,_,_,A⟩:=kkx s;have⟨a,b⟩:=jy2 (n:=m) aj;have B:∀i (x:ByteArray),(kvx m)[i]?=some x->x.data.toList≠[45]:=λi x f e=>by obtain⟨i1,rfl⟩:=jj5 f;have e:[(48+i).toUInt8]=[45]:=e;injection e with e;have:=congrArg UInt8.toNat e;simp at this;omega
    refine⟨λx f=>?_,λi j x y h1 g e=>?_⟩
    ·grind
    grind
theorem vxr(h:s++32::w=p++32::w')(h1:(32:UInt8)∉w)(g:(32:UInt8)∉w'):s=p/\w=w':=by
 obtain⟨c,e,f⟩|⟨c,e,f⟩:=List.append_eq_append_iff.1 h
 ·cases c with
  |nil=>simp_all
  |cons d c=>simp_all
 ·cases c with
  |nil=>simp_all
  |cons d c=>simp_all
variable {st st':List Int}
theorem jw7(f:TxtIn u)(h1:zyl u st i=some b7)(d:zyl u st' i=some b8)(e:b7.data.toList=b8.data.toList):st[i]?=st'[i]?:=by have⟨n,a1,a2⟩:=kyb h1;have⟨m,b1,b2⟩:=kyb d;rw[a1,b1,f.inj n m b7 b8 a2 b2 e]
theorem zk4(d:TxtIn u)(h1:zyl u st i=some b7):(32:UInt8)∉b7.data.toList:=by have⟨n,a1,a2⟩:=kyb h1;exact d.no b7<|wB a2
theorem zxh(h:qvg u st (n+1)=some s):∃l x,qvg u st n=some l/\zyl u st (u.f+n)=some x/\s=l++kk9 n++x.data.toList:=by rw[qvg]at h;have⟨l,h1,h⟩:=wu.1 h;have⟨x,d,h⟩:=wu.1 h;simp_all
def Cut(p p':List UInt8):Prop:=(∃l l',p=l++[32]/\p'=l'++[32])\/(p=[]/\p'=[])
theorem Cut.eq{b:List UInt8}(d:Cut p p')(h:p++(b++w)=p'++(b++w'))(hb:(32:UInt8)∉b)(h1:(32:UInt8)∉w)(e:(32:UInt8)∉w'):p=p'/\w=w':=by
 obtain⟨l,f,rfl,rfl⟩|⟨rfl,rfl⟩:=d
 ·grind [vxr,List.append_cancel_left]
 simp_all
theorem pju(d:TxtIn u){b:List UInt8}(k:Cut p p')(hb:(32:UInt8)∉b):∀(n:Nat)(r r' f:List UInt8),qvg u st (n+1)=some r->qvg u st' (n+1)=some r'->(32:UInt8)∉f->p++(b++(r++f))=p'++(b++(r'++f))->p=p'/\∀j,j<=n->st[u.f+j]?=st'[u.f+j]?
 |0,r,r',f,h1,h2,hf,e=>by
  obtain⟨l,x,a1,a2,rfl⟩:=zxh h1;obtain⟨g,y,b1,b2,rfl⟩:=zxh h2;injection a1 with a1;injection b1 with b1;subst a1;subst b1;have⟨h,i⟩:=k.eq e hb (by simp[kk9,zk4 d a2,hf]) (by simp[kk9,zk4 d b2,hf]);refine⟨h,λj q=>?_⟩;obtain rfl:j=0:=aj;exact jw7 d a2 b2<|J8 (i:x.data.toList++f=y.data.toList++f)
 |n+1,r,r',f,h1,h2,hf,e=>by
  obtain⟨l,x,a1,a2,rfl⟩:=zxh h1;obtain⟨g,y,b1,b2,rfl⟩:=zxh h2;have m:(p++(b++l))++32::(x.data.toList++f)=(p'++(b++g))++32::(y.data.toList++f):=by simpa[kk9] using e
  have⟨h,i⟩:=vxr m (by simp[zk4 d a2,hf]) (by simp[zk4 d b2,hf]);have⟨i1,i2⟩:=pju d k hb n l g [] a1 b1 ay (by simp_all);grind [jw7,List.append_cancel_right]
theorem vyh(h:∀u∈vars,TxtIn u/\1<=u.d/\((u.g==-1)=true->u.d=1)):∀(n:Nat)(r:List UInt8),zj7 vars st n=some r->zj7 vars st' n=some r->∀k u,k<n->vars[k]?=some u->∀j,j<u.d->st[u.f+j]?=st'[u.f+j]?
 |0,r,_,_,k,u,hk,_,_,_=>aj
 |n+1,r,h1,h2,k,u,hk,hu,j,hj=>by
  obtain⟨l,v,w,a1,a2,a3,_,a4,_⟩:=qxs h1;obtain⟨d,F,w',b1,b2,b3,_,b4,_⟩:=qxs h2;rw[a2]at b2;injection b2 with b2;subst b2;obtain⟨g,D,E⟩:=h v<|wB a2;have e:l++kk9 n++w=d++kk9 n++w':=by simp_all
  have i:Cut (l++kk9 n) (d++kk9 n):=by
   cases n with
   |zero=>
    injection a1 with a1;injection b1 with b1;subst a1;subst b1;exact .inr ⟨rfl,rfl⟩
   |succ n=>exact .inl ⟨l,d,rfl,rfl⟩
  have key:l++kk9 n=d++kk9 n/\∀j,j<v.d->st[v.f+j]?=st'[v.f+j]?:=by
   unfold vq5 at a3 b3;cases m:(v.g==-1)
   ·rw[m,Xy ay]at a3 b3;obtain⟨q,A,rfl⟩:=wX.1 a3;obtain⟨z,B,rfl⟩:=wX.1 b3;have f:v.d-1+1=v.d:=aj;obtain⟨p,s⟩:=pju g i (b:=[91]) ak (v.d-1) q z [93] (by rw[f];exact A) (by rw[f];exact B) ak (by simp_all);grind
   ·rw[m,lJ rfl]at a3 b3;obtain⟨x,x1,a3⟩:=wu.1 a3;obtain⟨y,y1,b3⟩:=wu.1 b3;split at a3
    ·split at b3
     ·injection a3 with a3;injection b3 with b3;subst a3;subst b3;obtain⟨p,s⟩:=i.eq (b:=[]) e ay (zk4 g x1)<|zk4 g y1;grind [jw7]
     simp_all
    simp_all
  by_cases C:k=n
  ·simp_all
  ·have t:l=d:=J8 key.1;subst t;exact vyh h n l a1 b1 k u aj hu j hj
end
section
variable {t:PTree} {a:Mach} {T:Turn} {τ:Tau} {x z:List Int} {S:List (List Int)}
theorem zyg(f:Right t)(d:kw7 t T)(e:kkq t.j s=some k)(g:j<ssz (ql t) s):jxc T (zx (ug t) s) j=some (kxr t.j T s ((j:Int)+1)):=by have⟨o,o1,o2,_,_,h⟩:=jq3 f d e;grind [ug,kym,jxc]
theorem xw0(l:Right t)(h:kw7 t T)(f:VarT t a6 u)(i:UOk (ql t) u (jw a6))(p:0<=b)(h1:b<u.a.length):tvR t a6 T (ftT idτ (kqm (qm (ql t)) (jw a6).si) b)=some (ftT (kxr t.j T) (kqm (qm (ql t)) (jw a6).si) b):=by
 unfold tvR;by_cases d:(kqm (qm<|ql t) (jw a6).si).b=4
 ·have⟨k1,k2,k,k3,k4⟩:=f.B d;have m:=i.set d;rw[k2]at m;have e:stI t a6.k=k:=kym k3;rw[kvv d,kvv d,k2,k1,QZ,e,Qz aj,QZ];by_cases hb:b=0
  ·rw[hb];rfl
  ·have:=zyg l h k3 (j:=b.toNat-1) aj;unfold idτ;rw[lJ (by grind)];have g:((b.toNat-1:Nat):Int)=b-1:=aj;rw[g,show b-1+1=b by omega]at this;rw[<-e];exact this
 ·rw[(f.noOf d).2,QJ,Xy ay];grind [ftT]
theorem xw2(h:Right t)(f:kw7 t T)(g:VarT t a6 u)(i:UOk (ql t) u (jw a6))(l:j<u.d):tpR t a6 T j=some ((plX (kxr t.j T) (jw a6).K (jw a6).g.x.toList j:Nat):Int):=by
 have e:=i.cnt;unfold tpR plX;cases d:(jw a6).K
 ·rw[(g.noOver d).2];rfl
 ·have⟨k1,k,k2,_⟩:=g.g d;rw[d]at e;have e:u.d=ssz (ql t) a6.g.x.toList:=e;have:=(qv6 h f).rng a6.g.x.toList ((j:Int)+1) aj aj;rw[k1,lJ rfl];refine(zyg h f k2 aj).trans ?_;show some _=some (((kxr t.j T a6.g.x.toList<|(j:Int)+1).toNat:Nat):Int);grind
theorem vql(g:Right t)(d:kw7 t T)(h:VarT t a6 u)(f:UOk (ql t) u (jw a6))(k:y.length=u.d)(l:∀j,j<u.d->∃b,x[u.f+j]?=some b/\0<=b/\b<u.a.length/\y[j]?=some (ftT idτ (kqm (qm (ql t)) (jw a6).si) b)):∀n,n<=u.d->∃o,qzn t a6 T y n=some o/\o.length=u.d/\∀i,i<n->∃b,x[u.f+i]?=some b/\o[plX (kxr t.j T) (jw a6).K (jw a6).g.x.toList i]?=some (ftT (kxr t.j T) (kqm (qm (ql t)) (jw a6).si) b)
 |0,_=>⟨y,rfl,k,λi hi=>aj⟩
 |n+1,hn=>by
  have⟨o,o1,o2,o3⟩:=vql g d h f k l n aj;have⟨b,b1,b2,b3,b4⟩:=l n aj;have p:=jqs (qv6 g d) f.cnt (by omega:n<u.d);rw[qzn,o1];simp only[rQ];rw[b4];simp only[rQ];rw[xw0 g d h f b2 b3];simp only[rQ];rw[xw2 g d h f aj];simp only[rQ];rw[lJ aj,tX];refine⟨_,rfl,by simp_all,λi hi=>?_⟩;by_cases e:i=n
  ·simp_all
  ·have⟨c,c1,c2⟩:=o3 i aj;refine⟨c,c1,?_⟩;rw[Z8 (λm=>e (vvl (qv6 g d) f.cnt aj aj m.symm))];exact c2
theorem xw1(h:Sym t a)(z:xx7 t a)(v:kw7 t T)(A:yg a.z a.size x)(l:RSt a.z (tuV t idτ) S x):∃S',qjs t S T S.length=some S'/\RSt a.z (tuV t (kxr t.j T)) S' x:=by
 have key:∀n,n<=S.length->∃o,qjs t S T n=some o/\o.length=S.length/\(∀k,n<=k->o[k]?=S[k]?)/\∀k,k<n->∀u,a.z[k]?=some u->∃y,o[k]?=some y/\y.length=u.d/\∀j,j<u.d->∃b,x[u.f+j]?=some b/\y[(tuV t (kxr t.j T) k).1 j]?=some ((tuV t (kxr t.j T) k).2 b):=by
  intro n;induction n with
  |zero=>exact λ_=>⟨S,rfl,rfl,λ_ _=>rfl,λk f=>aj⟩
  |succ n ih=>
   intro hn;have⟨o,o1,o2,o3,o4⟩:=ih aj;have p:n<a.z.length:=by rw[<-l.1];omega
   have g:=wW p;have⟨f,w⟩:=h.v g;have⟨y,y1,y2,y3⟩:=l.2 n _ g;have⟨q,B,C,D⟩:=vql (x:=x) h.right v (z n f _ g) w y2 (λj m=>by have⟨b,s,b1,b2⟩:=A.val _ (wZ p) j m;have⟨F,i,e3⟩:=y3 j m;rw[s]at i;injection i with i;subst i;rw[zyf,kxc f]at e3;simp_all) a.z[n].d jV
   rw[qjs,o1];simp only[rQ];rw[wW f];simp only[rQ];rw[y1];simp only[rQ];rw[y2,B];refine⟨_,rfl,by simp_all,λk f=>by grind,λk E u d=>?_⟩;by_cases e:k=n
   ·subst e;rw[g]at d;injection d with d;subst d;refine⟨q,Zk aj,C,λj m=>?_⟩;have⟨b,b1,b2⟩:=D j m;rw[kxc f];simp_all
   grind
 have⟨o,o1,o2,_,o4⟩:=key S.length<|jV;refine⟨o,o1,by rw[o2];exact l.1,λk u g=>o4 k ?_ u g⟩;rw[l.1];grind
theorem StT.fwd(h:Sym t a)(q:kz5 (ssz (ql t)) τ)(h1:RSt a.z (tuV t τ) S x)(g:StT t a τ x z):RSt a.z (tuV t idτ) S z:=by
 refine⟨h1.1,λk u f=>?_⟩;have⟨p,l⟩:=h.v f;have⟨w,s,v,w3⟩:=h1.2 k u f;refine⟨w,s,v,λj m=>?_⟩;have⟨i,hi,e⟩:=vvn q l.cnt m;have⟨b,b1,b2⟩:=w3 i hi;have⟨y,c,d,A,e3⟩:=g k u f i hi;rw[b1]at d;injection d with d;subst d;have B:(tuV t τ k).1 i=j:=by rw[kxc p];exact e
 grind [zyf]
end
end Go.Proofs.YtpmcnonmkghokaaGreatDoor

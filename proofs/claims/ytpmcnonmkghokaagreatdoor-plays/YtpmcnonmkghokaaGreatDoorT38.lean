import Derived.Test.YtpmcnonmkghokaaGreatDoorT37
import Derived.Test.YtpmcnonmkghokaaGreatDoorT33
import Derived.Test.YtpmcnonmkghokaaGreatDoorT32
set_option linter.unusedVariables false
set_option linter.unusedSimpArgs false
namespace Go.Proofs.YtpmcnonmkghokaaGreatDoor
open Go.Proofs.Tryz
open Go.RowKit
variable {a:Int}{all:List (List Int)}{us:List MVar}{ks:List PKind}{ss:List PSet}{s:List UInt8}{α:Type}{l:List α}{m:MdL}{k n z:Nat}{t:PTree}{v:PVar}
variable {t:PTree} {tab:Tab} {vars:List MVar} {mt:kq1} {ksz ssz:List UInt8->Nat} {size:Nat} {st:List Int} {S:List (List Int)} {shv:Nat->Int}
theorem qxp.fit {x:RIn}(h:qxp tab ssz x):StepFit tab ssz (zzl x):=
 ⟨h.par,⟨h.guard.full,h.num,h.guard.some,h.nod,h.typ⟩,⟨h.body.full,h.bnum,h.btyp⟩⟩
theorem jke:∀(L:List RIn) (s:List UInt8),(∀x∈L,(riT x).toList≠s)->zjy t S L s=some none
 |[],s,_=>rfl
 |x::L,s,h=>by
  rw[zjy,if_neg (by simpa using h x (rV ..))];exact jke L s (λy a=>h y (rG _ a))
theorem jka (h:Both t tab vars mt ksz ssz size shv)(i:kz2 vars size st)(k:RSt vars shv S st):∀(L:List RIn),(∀x∈L,qxp tab ssz x)->(L.map (λx=>(riT x).toList)).Nodup->∀(s:List UInt8) (r:List Int×Bool),qvi vars mt st s (L.map zzl)=some r ->
  ∃q,zjy t S L s=some q/\(r.2=true->kz2 vars size r.1/\∃c,q=some c/\RSt vars shv c r.1)/\(r.2=false->q=none)
 |[],_,_,s,r,a=>by
  rw[Zj,qvi]at a;injection a with a;subst a;exact⟨none,rfl,(λe=>kX),λ_=>rfl⟩
 |x::L,hL,hn,s,r,a=>by
  rw[Qh,JX]at hn;rw[Qh,qvi]at a;have p:=hL x (rV ..);have w:(zzl x).text=riT x:=rfl;rw[w]at a;cases b:((riT x).toList==s)
  ·rw[b,if_neg au]at a;rw[zjy,b,if_neg au];exact jka h i k L (λy j=>hL y (rG _ j)) hn.2 s r a
  ·rw[b,if_pos rfl]at a;obtain⟨q,l,a⟩:=rJ.mp a;subst a;obtain⟨c,u,v,A⟩:=p.same h i k q l;rw[zjy,b,if_pos rfl,u];simp only[rC];rw[rQ]at b;cases h1:(q.2==1)
   ·rw[if_neg au];refine⟨none,jke L s (λy j e=>hn.1 ?_),(λe=>gZ),λ_=>rfl⟩;rw[b,<-e];exact sV (f:=λx=>(riT x).toList) j
   ·rw[if_pos rfl];have d:q.2=1:=by simpa using h1
    obtain⟨B,g,z,_⟩:=vqn h.env h.disj i (zzl x) p.fit;have m:kyb vars mt (zzl x).params (zzl x).mems st (zzl x).guard (zzl x).block=some q:=l;rw[m]at g;injection g with g;exact⟨some c,rfl,λ_=>⟨by rw[g]at d |-;exact z d,c,rfl,v d⟩,λe=>gZ⟩
theorem jq8 {a:Mach}(h:Both t tab a.vars a.tab ksz ssz a.size shv)(h1:a.steps=(kj3 t t.rules).map zzl)(A:a.nevers=(kj3 t t.nevers).map vyw)(hn:((kj3 t t.rules).map (λx=>(riT x).toList)).Nodup)(l:∀x∈kj3 t t.rules++kj3 t t.nevers,qxp tab ssz x)
  (u:∀st S,kz2 a.vars a.size st->RSt a.vars shv S st->∀m,zxe a.vars st=some m->zxn t S S.length=some ⟨m.toArray⟩):∀(ts:List ByteArray) (i:Nat) (st:List Int) (S:List (List Int)) (r:zzi),kz2 a.vars a.size st->RSt a.vars shv S st->zzm a ts i st=some r->qkg t ts i S=some r
 |[],i,st,S,r,hs,hS,c=>by
  rw[zzm]at c;split at c
  ·obtain⟨v,d,c⟩:=rJ.mp c;subst c;unfold lookO at d;obtain⟨m,w,d⟩:=wQ.mp d;obtain⟨p,g,d⟩:=wQ.mp d;obtain⟨b,j,d⟩:=rJ.mp d;rw[h1]at g;rw[A]at j;have y:=u st S hs hS m w;have z:=vqp h hs hS _ _ _ _ (λx e=>l x (wG _ e)) g;have D:=vqd h hs hS _ _ _ (λx e=>l x (rZ _ e)) j;rw[qkg];unfold jzy;rw[y];simp only[rC];rw[z];simp only[rC];rw[D,<-d];rfl
  ·cases c
 |s::ts,i,st,S,r,hs,hS,c=>by
  rw[zzm]at c;split at c
  ·obtain⟨q,B,c⟩:=wQ.mp c;rw[h1]at B;obtain⟨f,w,g,j⟩:=jka h hs hS _ (λx e=>l x (wG _ e)) hn s.toList q B;rw[qkg,w];simp only[rC];cases k:q.2
   ·rw[k,if_neg au]at c;rw[j k];exact c
   ·rw[k,if_pos rfl]at c;obtain⟨y,C,rfl,z⟩:=g k;exact jq8 h h1 A hn l u ts (i+1) q.1 C r y z c
  ·cases c
end Go.Proofs.YtpmcnonmkghokaaGreatDoor
namespace Go.Proofs.YtpmcnonmkghokaaGreatDoor
open Go.Proofs.Tryz
open Go.RowKit
variable {a:Int}{all:List (List Int)}{us:List MVar}{ks:List PKind}{ss:List PSet}{s:List UInt8}{α:Type}{l:List α}{m:MdL}{k n z:Nat}{t:PTree}{v:PVar}
variable {t:PTree} {vars:List MVar} {size:Nat} {st:List Int} {S:List (List Int)} {shv:Nat->Int}
def px4 (t:PTree)(vars:List MVar)(shv:Nat->Int):Prop:=t.vars.length=vars.length/\∀k u pv,vars[k]?=some u->t.vars[k]?=some pv->qzk pv=!(u.over==-1)/\((u.over==-1)=true->u.count=1)/\u.count<=10/\(∀x∈u.texts,x.size<=800)/\∀n:Nat,n<u.texts.length->zzh t pv ((n:Int)-shv k)=u.texts[n]?
theorem kvc (a b:List UInt8):(⟨a.toArray⟩:ByteArray)++⟨b.toArray⟩=⟨(a++b).toArray⟩:=by apply ByteArray.ext;simp
theorem pz5 (x:ByteArray):(⟨x.data.toList.toArray⟩:ByteArray)=x:=by apply ByteArray.ext;simp
theorem btl (x:ByteArray):x.data.toList.length=x.size:=by rw[Jr];rfl
theorem bsz (a:List UInt8):(⟨a.toArray⟩:ByteArray).size=a.length:=by simp[ByteArray.size]
theorem jxz {u:MVar}{pv:PVar}{k:Nat}{y:List Int}(g:∀n:Nat,n<u.texts.length->zzh t pv ((n:Int)-shv k)=u.texts[n]?)(i:∀x∈u.texts,x.size<=800)(h:∀j,j<u.count->∃x,st[u.first+j]?=some x/\y[j]?=some (x-shv k)):∀(n:Nat) (r:List UInt8),n<=u.count->n<=10->zqx u st n=some r->rowP t pv y n=some ⟨r.toArray⟩/\r.length<=801*n
 |0,r,_,_,a=>by rw[zqx]at a;injection a with a;subst a;exact⟨rfl,au⟩
 |n+1,r,hn,hn2,a=>by
  rw[zqx]at a;obtain⟨l,q,a⟩:=wQ.mp a;obtain⟨c,f,a⟩:=wQ.mp a;split at a
  ·injection a with a;subst a;obtain⟨s,A⟩:=jxz g i h n l aj aj q;obtain⟨m,h1,d⟩:=qv2 f;obtain⟨x,b,p⟩:=h n aj;rw[h1]at b;injection b with b;subst b;have e:=(tZ.mp d).1;have w:=i c (Qp d);have v:(kk4 n).length<=1:=by unfold kk4;split<;>simp
   have z:=btl c;refine⟨?_,iC⟩;rw[rowP,s];simp only[rC];rw[p];simp only[rC];rw[g m e,d];simp only[rC];rw[if_pos ⟨by rw[bsz];omega,aj⟩];congr 1
   unfold kk4;split
   ·rw[show(⟨#[32]⟩:ByteArray)=⟨([32]:List UInt8).toArray⟩ from rfl,kvc];rw[<-pz5 c,kvc]
   ·rw[<-pz5 c,kvc];simp
  ·cases a
theorem zy2 (H:kz2 vars size st)(s:RSt vars shv S st)(h:px4 t vars shv)(G:vars.length<=10):∀(n:Nat) (r:List UInt8),n<=vars.length->zqb vars st n=some r->zxn t S n=some ⟨r.toArray⟩/\r.length<=9000*n
 |0,r,_,e=>by rw[zqb]at e;injection e with e;subst e;exact⟨rfl,au⟩
 |n+1,r,hn,e=>by
  obtain⟨l,u,tl,h1,q,b,_,rfl,_⟩:=qyz e;obtain⟨I,N⟩:=zy2 H s h G n l aj h1;have f:n<t.vars.length:=by rw[h.1];omega
  obtain⟨o1,o2,o3,o4,A⟩:=h.2 n u t.vars[n] q (tY f);obtain⟨y,D,k,p⟩:=s.2 n u q;have K:(kk4 n).length<=1:=by unfold kk4;split<;>simp
  have z:∃d,rowP t t.vars[n] y y.length=some d/\d.size<=8100/\(⟨tl.toArray⟩:ByteArray)=(if qzk t.vars[n] then (⟨#[91]⟩++d)++⟨#[93]⟩ else d)/\tl.length<=8200:=by
   unfold jz9 at b;cases c:(u.over==-1)
   ·rw[c,if_neg au]at b;obtain⟨a,E,b⟩:=rJ.mp b;subst b;obtain⟨g,B⟩:=jxz A o4 p u.count a (wJ _) o3 E;rw[o1,c,k];refine⟨_,g,by rw[bsz];omega,?_,ay⟩;rw[Jc,if_pos rfl,show(⟨#[91]⟩:ByteArray)=⟨([91]:List UInt8).toArray⟩ from rfl,show(⟨#[93]⟩:ByteArray)=⟨([93]:List UInt8).toArray⟩ from rfl,kvc,kvc];simp
   ·rw[c,if_pos rfl]at b;obtain⟨j,w,b⟩:=wQ.mp b;split at b
    ·injection b with b;subst b;have F:=o2 c;obtain⟨m,J,i⟩:=qv2 w;have v:=(tZ.mp i).1;have L:=o4 j (Qp i);obtain⟨x,k1,k2⟩:=p 0 aj;rw[sU,J]at k1;injection k1 with k1;subst k1;rw[o1,c,k,F];have M:=btl j;refine⟨j,?_,aj,?_,aj⟩
     ·rw[rowP,rowP];simp only[rC];rw[k2];simp only[rC];rw[A m v,i];simp only[rC];rw[if_pos ⟨ak,aj⟩,if_neg aj];congr 1
     ·rw[Jt,if_neg au,pz5]
    ·cases b
  obtain⟨d,g,B,C,O⟩:=z;refine⟨?_,iC⟩;rw[zxn,I];simp only[rC];rw[tY f];simp only[rC];rw[D];simp only[rC];rw[g];simp only[rC];rw[if_pos ⟨by rw[bsz];omega,aj⟩,<-C];congr 1
  unfold kk4;split
  ·rw[show(⟨#[32]⟩:ByteArray)=⟨([32]:List UInt8).toArray⟩ from rfl,kvc,kvc]
  ·rw[kvc];simp
end Go.Proofs.YtpmcnonmkghokaaGreatDoor
namespace Go.Proofs.YtpmcnonmkghokaaGreatDoor
open Go.Proofs.Tryz
open Go.RowKit
variable {a:Int}{all:List (List Int)}{us:List MVar}{ks:List PKind}{ss:List PSet}{s:List UInt8}{α:Type}{l:List α}{m:MdL}{k n z:Nat}{t:PTree}{v:PVar}
theorem kvx {g:Nat->α->List Tok}   (h:jy g l k=[])(i:Nat)(hi:i<l.length):g (k+i) l[i]=[]:=by
 apply List.eq_nil_iff_forall_not_mem.mpr;intro y a;have:=(zi (g:=g) (y:=y) l k).mpr ⟨i,hi,a⟩;rw[h]at this;cases this
theorem kkr {c:Bool}{t:Tok}(h:kqk c t=[]):c=false:=by
 cases c
 ·rfl
 ·cases h
structure MdBnd (m:MdL):Prop where
 sets:m.sets.length<=2
 size:∀s∈m.sets,2<=kq8 s.size.text/\kq8 s.size.text<=3
 kinds:m.kinds.length<=2
 mems:∀k∈m.kinds,k.members.length<=4
 vars:m.vars.length<=4
 top:∀v∈m.vars,v.si.form=1->1<=kq8 v.si.top.text/\kq8 v.si.top.text<=3
 rules:m.rules.length<=5
 nevers:m.nevers.length<=3
 pars:∀r∈m.rules++m.nevers,r.params.length<=2
theorem qwh (h:∀i,i<l.length->decide ((n:Int)<=i)=false):l.length<=n:=by
 apply tK;intro a;have:=h n aj;simp at this
theorem pjt (h:kwr m<0):MdBnd m:=by
 rw[zkb]at h;have e:=zks h;rw[QZ,QZ,QZ,QZ]at e;obtain⟨⟨⟨⟨b,c⟩,d⟩,f⟩,g⟩:=e;have f1:=λi hi=>QZ.mp (kvx b i hi)
 have f2:=λi hi=>QZ.mp (kvx c i hi)
 have f3:=λi hi=>QZ.mp (kvx d i hi)
 have f4:=λi hi=>QZ.mp (kvx f i hi)
 have f5:=λi hi=>QZ.mp (kvx g i hi)
 have par:∀l:List PP,jy qP l 0=[]->l.length<=2:=λl u=>qwh (n:=2) λi hi=>by
  have:=kkr (kvx u i hi);simpa using this
 refine⟨qwh (n:=2) λi hi=>by simpa using kkr (f1 i hi).1,λs w=>?_,qwh (n:=2) λi hi=>by simpa using kkr (f2 i hi).1,λk t=>?_,qwh (n:=4) λi hi=>by simpa using kkr (f3 i hi).1,λv x p=>?_,qwh (n:=5) λi hi=>by simpa using kkr (f4 i hi).1,qwh (n:=3) λi hi=>by simpa using kkr (f5 i hi).1,λr a=>?_⟩
 ·obtain⟨i,hi,rfl⟩:=tC w;have:=kkr (f1 i hi).2;unfold vz2 at this;rw[decide_eq_false_iff_not]at this;omega
 ·obtain⟨i,hi,rfl⟩:=tC t;exact qwh (n:=4) λj q=>by
   have:=kkr (kvx (f2 i hi).2 j q);simpa using this
 ·obtain⟨i,hi,rfl⟩:=tC x;have:=kkr (f3 i hi).2;rw[p]at this;unfold vz2 at this;have y:¬(kq8 m.vars[i].si.top.text<1\/3<kq8 m.vars[i].si.top.text):=by simpa using this
  omega
 ·rcases ru.mp a with a|a
  ·obtain⟨i,hi,rfl⟩:=tC a;exact par _ (f4 i hi).2
  ·obtain⟨i,hi,rfl⟩:=tC a;exact par _ (f5 i hi).2
structure Right (t:PTree):Prop where
 bnd:MdBnd (zh t)
 fine:NamesFine t
 typ:kyg (qp (zh t)) (zh t)=true
 good:∃L,qkf L t/\bg L
 sm:TreeSm t
theorem jxk {s:ByteArray}(h:(qxy s).1=0):Right (yx (jo s).1).1:=by
 unfold qxy at h;split at h
 ·cases h
 ·rename_i f;split at h
  ·cases h
  ·rename_i d;split at h
   ·cases h
   ·rename_i c;have b:bg (jo s).1:=qqz s aj d;have a:=tree_good b c;unfold qyk at h;split at h
    ·cases h
    ·rename_i g;split at h
     ·cases h
     ·rename_i i;split at h
      ·rename_i e;refine⟨pjt aj,zkf ?_,e,⟨_,a,b⟩,vwb b c⟩;rw[<-zxw a.vars a.rules a.nevers (jzh (a.pw b))];omega
      ·cases h
def qk8:List (Tok×Mean)->kq1->Option kq1
 |[],t=>some t
 |x::l,t=>(zqi t x.1.text x.2).bind λa=>qk8 l a
theorem zkx:∀(a b:List (Tok×Mean)) (t:kq1),qk8 (a++b) t=(qk8 a t).bind λc=>qk8 b c
 |[],b,t=>rfl
 |x::a,b,t=>by
  show(zqi t x.1.text x.2).bind (λc=>qk8 (a++b) c)=((zqi t x.1.text x.2).bind λc=>qk8 a c).bind λc=>qk8 b c
  cases zqi t x.1.text x.2 with
  |none=>rfl
  |some c=>exact zkx a b c
theorem vq9:∀(l:List (Tok×Mean)) (t:kq1),(t.map (λx=>x.1.toList)++l.map (λx=>x.1.text.toList)).Nodup->(∀x∈l,x.1.text.size<=1000)->qk8 l t=some (t++l.map (λx=>(x.1.text,x.2)))
 |[],t,_,_=>by simp[qk8]
 |x::l,t,hn,hs=>by
  have b:zqi t x.1.text x.2=some (t++[(x.1.text,x.2)]):=by
   unfold zqi;rw[if_neg];rw[Qu,not_or,Jl,sQ];refine⟨λ⟨y,a,e⟩=>?_,by have:=hs x (rV ..);omega⟩;rw[rQ]at e;rw[JU]at hn;exact hn.2.2 _ (sV (f:=λx:ByteArray×Mean=>x.1.toList) a) x.1.text.toList au e
  rw[qk8,b];show qk8 l (t++[(x.1.text,x.2)])=_;rw[vq9 l _ (by simpa using hn) (λy a=>hs y (rG _ a))];simp
def jjp:List Tok->Nat->List (Tok×Mean)
 |[],_=>[]
 |x::l,i=>(x,⟨false,i⟩)::jjp l (i+1)
def jzd:List VrT->Nat->List (Tok×Mean)
 |[],_=>[]
 |v::l,i=>(v.name,⟨true,i⟩)::jzd l (i+1)
theorem jxa:∀(l:List Tok) (i:Nat) (t:kq1),zko l i t=qk8 (jjp l i) t
 |[],i,t=>rfl
 |x::l,i,t=>by
  show(zqi t x.text ⟨false,i⟩).bind (λa=>zko l (i+1) a)=(zqi t x.text ⟨false,i⟩).bind λa=>qk8 (jjp l (i+1)) a
  congr 1
  funext a
  exact jxa l (i+1) a
theorem jq9:∀(l:List PKind) (t:kq1),qjc l t=qk8 (l.flatMap λk=>jjp k.members 0) t
 |[],t=>rfl
 |k::l,t=>by
  rw[qjc,Qb,zkx,jxa];congr 1
  funext t'
  exact jq9 l t'
theorem zyf:∀(l:List Tok) (i:Nat),(jjp l i).map (·.1)=l
 |[],i=>rfl
 |x::l,i=>by rw[jjp,Qh,zyf l (i+1)]
theorem zwl:∀(l:List VrT) (i:Nat),(jzd l i).map (·.1)=l.map (·.name)
 |[],i=>rfl
 |v::l,i=>by rw[jzd,Qh,zwl l (i+1)];rfl
theorem jjg:∀(l:List Tok) (i:Nat) (j:Nat) (h:j<l.length),(l[j],(⟨false,i+j⟩:Mean))∈jjp l i
 |x::l,i,0,_=>rV ..
 |x::l,i,j+1,h=>by
  rw[jjp];have:=jjg l (i+1) j iw;rw[show i+(j+1)=i+1+j by omega];exact rG _ this
theorem zqm:∀(l:List VrT) (i:Nat) (j:Nat) (h:j<l.length),(l[j].name,(⟨true,i+j⟩:Mean))∈jzd l i
 |x::l,i,0,_=>rV ..
 |x::l,i,j+1,h=>by
  rw[jzd];have:=zqm l (i+1) j iw;rw[show i+(j+1)=i+1+j by omega];exact rG _ this
def qj8 (m:MdL):List (Tok×Mean):=(m.kinds.flatMap λk=>jjp k.members 0)++jzd m.vars 0
def kz0 (m:MdL):kq1:=(qj8 m).map λx=>(x.1.text,x.2)
theorem qwn (h:NamesFine t):((jc t).map (λx=>x.text.toList)).Nodup:=by
 unfold List.Nodup;rw[Jj];intro i j hi b a;rw[Jd,Jd];exact h.uniq j i a lY iq
theorem qwr (t:PTree):jc t=t.sets.flatMap qwp++(t.kinds.flatMap kzp++(t.vars.flatMap zzt++(t.rules++t.nevers).flatMap kwz)):=by
 unfold jc kyc qxr qxn;rw[sD,sD]
theorem vz9 (t:PTree):(qj8 (zh t)).map (·.1)=(t.kinds.flatMap λk=>k.members)++t.vars.flatMap zzt:=by
 unfold qj8;rw[Qv,Jp,zwl];congr 1
 ·simp only[zyf];rfl
 ·show(t.vars.map yu).map (·.name)=_;rw[Q7,J6];rfl
theorem jk3 (t:PTree):((qj8 (zh t)).map (·.1)).Sublist (jc t):=by
 rw[vz9,qwr];exact((qzb (λk=>List.sublist_cons_self _ _) t.kinds).append (Zv _ _)).trans (Jm _ _)
theorem zke (h:NamesFine t):((kz0 (zh t)).map (λx=>x.1.toList)).Nodup:=by
 have e:(kz0 (zh t)).map (λx=>x.1.toList)=((qj8 (zh t)).map (·.1)).map (λx=>x.text.toList):=by
  unfold kz0;rw[Q7,Q7];rfl
 rw[e];exact((jk3 t).map _).nodup (qwn h)
theorem jkd (h:NamesFine t):(t.kinds.map (λk=>k.name.text.toList)).Nodup:=by
 have s:(t.kinds.flatMap λk=>[k.name]).Sublist (jc t):=by
  rw[qwr];refine((qzb (λk=>?_) t.kinds).trans (Zv _ _)).trans (Jm _ _);exact(Zw _).cons_cons _
 have:=(s.map (λx=>x.text.toList)).nodup (qwn h);rw[<-J6,Q7]at this;exact this
theorem jx9 (h:NamesFine t):(t.rules.map (λk=>k.name.text.toList)).Nodup:=by
 have s:(t.rules.flatMap kwz).Sublist (jc t):=by
  rw[qwr,Qn];exact(((Zv _ _).trans (Jm _ _)).trans (Jm _ _)).trans (Jm _ _)
 have:=(s.map (λx=>x.text.toList)).nodup (qwn h);have e:t.rules.flatMap kwz=t.rules.map (λr=>r.name):=by rw[J6];rfl
 rw[e,Q7]at this;exact this
theorem vv8 (h:NamesFine t)(a:TreeSize t):qk8 (qj8 (zh t)) []=some (kz0 (zh t)):=by
 rw[vq9 (qj8 (zh t)) [] ?_ ?_]
 ·rfl
 ·have:=zke h;unfold kz0 at this;rw[Q7]at this;exact this
 ·intro x b;have h1:x.1∈jc t:=(jk3 t).subset (sV b);have:=(a.nm _ ((qkt t).subset h1)).2;omega
theorem qvk (h:NamesFine t){x:Tok×Mean}(a:x∈qj8 (zh t)):kj1 (kz0 (zh t)) x.1.text.toList=x.2:=
 zv4 (kz0 (zh t)) _ (zke h) (x.1.text,x.2) (sV (f:=λx:Tok×Mean=>(x.1.text,x.2)) a) rfl
def ssz (m:MdL)(s:List UInt8):Nat:=(qx3 m.sets s).getD 0
def ksz (m:MdL)(s:List UInt8):Nat:=match kwa m.kinds s with|some k=>k.members.length|none=>0
theorem vq3:∀(l:List PSet) (s:List UInt8),(∃q∈l,q.name.text.toList=s)->∃k x,qz1 l s=some k/\l[k]?=some x/\x∈l
 |[],s,⟨q,a,_⟩=>by cases a
 |x::l,s,⟨q,a,e⟩=>by
  rw[qz1];cases b:(x.name.text.toList==s)
  ·rw[Qw]at b;rcases sW.mp a with rfl|a
   ·exact(b e).elim
   ·obtain⟨k,y,h1,c,d⟩:=vq3 l s ⟨q,a,e⟩;exact⟨k+1,y,by rw[if_neg au,h1];rfl,lJ,rG _ d⟩
  ·exact⟨0,x,by rw[if_pos rfl],rfl,rV ..⟩
theorem qya {f:α->ByteArray}   (h:¬qh (l.map f) s<0):∃q∈l,(f q).toList=s:=by
 apply tK;intro a;refine h ((kkm _ _).mpr λx c=>?_);obtain⟨q,b,rfl⟩:=Qj.mp c;exact λe=>a ⟨q,b,e⟩
theorem zxi (h:Right t)  (c:¬qh (dh t) s<0):∃n,qx3 t.sets s=some n/\2<=n/\n<=3/\ssz (zh t) s=n:=by
 obtain⟨k,x,h1,a,b⟩:=vq3 t.sets s (qya c);have hb:=h.bnd.size x b;have e:qx3 t.sets s=some (kq8 x.size.text).toNat:=by
  unfold qx3;rw[h1];show(t.sets[k]?).bind _=_;rw[a];show jjl x.size.text=_;unfold jjl;rw[if_pos aj]
 refine⟨_,e,aj,aj,?_⟩;unfold ssz;rw[show(zh t).sets=t.sets from rfl,e];rfl
theorem qvw:∀{l:List PKind} {s:List UInt8} {k:PKind},kwa l s=some k->k∈l/\k.name.text.toList=s
 |x::l,s,k,h=>by
  rw[kwa]at h;split at h
  ·rename_i b;injection h with h;subst h;exact⟨rV ..,lY⟩
  ·obtain⟨h1,a⟩:=qvw h;exact⟨rG _ h1,a⟩
theorem jjb:∀(l:List PKind) (s:List UInt8),(∃q∈l,q.name.text.toList=s)->∃k,kwa l s=some k
 |[],s,⟨q,a,_⟩=>by cases a
 |x::l,s,⟨q,a,e⟩=>by
  rw[kwa];cases b:(x.name.text.toList==s)
  ·rw[Qw]at b;rcases sW.mp a with rfl|a
   ·exact(b e).elim
   ·rw[if_neg au];exact jjb l s ⟨q,a,e⟩
  ·exact⟨x,by rw[if_pos rfl]⟩
theorem vqm:∀{l:List PKind},(l.map (λk=>k.name.text.toList)).Nodup->∀{k:PKind},k∈l->kwa l k.name.text.toList=some k
 |x::l,hn,k,a=>by
  rw[Qh,JX]at hn;rw[kwa];rcases sW.mp a with rfl|a
  ·rw[if_pos au]
  ·rw[if_neg]
   ·exact vqm hn.2 a
   ·rw[rQ];intro e;exact hn.1 (by rw[e];exact sV (f:=λk:PKind=>k.name.text.toList) a)
theorem vvj (h:NamesFine t){k:PKind}(a:k∈t.kinds):ksz (zh t) k.name.text.toList=k.members.length:=by
 unfold ksz;rw[show(zh t).kinds=t.kinds from rfl,vqm (jkd h) a]
theorem pjs (h:Right t)(s:List UInt8):ksz (zh t) s<=1000:=by
 unfold ksz;cases a:kwa (zh t).kinds s with
 |none=>exact rW _
 |some k=>
  have:=h.bnd.mems k (qvw a).1;show k.members.length<=1000;omega
theorem pj8 (m:MdL)(s:List UInt8):ssz m s<=1000:=by
 unfold ssz;cases a:qx3 m.sets s with
 |none=>exact rW _
 |some n=>
  obtain⟨_,_,_,_,_,h⟩:=kwb a;show n<=1000;omega
structure UOk (m:MdL)(u:MVar)(d:VrT):Prop where
 cnt:u.count=if d.arr then ssz m d.over.text.toList else 1
 low:1<=u.count
 top:u.count<=3
 few:u.texts.length<=200
 ne:0<u.texts.length
 tru:(kjv (qp m) d.si).fam=1->u.texts.length=2
 kin:(kjv (qp m) d.si).fam=3->u.texts.length=ksz m (kjv (qp m) d.si).name.toList
 set:(kjv (qp m) d.si).fam=4->u.texts.length=ssz m (kjv (qp m) d.si).name.toList+1
 txt:∀x∈u.texts,x.size<=800/\0<x.size
theorem vvh (i:Nat):(kw9 i).size=1:=rfl
theorem zkn: ∀x∈kwn n,x.size<=800/\0<x.size:=by
 intro x a;unfold kwn at a;obtain⟨i,_,rfl⟩:=Qj.mp a;rw[vvh];omega
theorem pz0 (h:Right t)  (b:v∈t.vars):∃c,(if (yu v).arr then qx3 t.sets (yu v).over.text.toList else some 1)=some c/\1<=c/\c<=3/\c=if (yu v).arr then ssz (zh t) (yu v).over.text.toList else 1:=by
 obtain⟨L,j,m⟩:=h.good;obtain⟨h1,_⟩:=j.vars v b;cases a:(yu v).arr
 ·exact⟨1,au,aj,aj,au⟩
 ·have k:(v.over.kind.toList==og)=true:=by
   rcases h1 with e|e
   ·have:(yu v).arr=!(v.over.kind.toList==[]):=rfl;rw[this,e,kqw]at a;cases a
   ·exact e
  obtain⟨n,d,l,f,g⟩:=zxi h (h.fine.over v b k);have i:(yu v).over=v.over:=rfl;rw[i];exact⟨n,by rw[if_pos rfl];exact d,aj,f,by rw[if_pos rfl];exact g.symm⟩
theorem pj6 (h:Right t)  (f:v∈t.vars):∃l,vjw t.sets t.kinds (yu v).si=some l/\l.length<=200/\0<l.length/\((kjv (qp (zh t)) (yu v).si).fam=1->l.length=2)/\((kjv (qp (zh t)) (yu v).si).fam=3->l.length=ksz (zh t) (kjv (qp (zh t)) (yu v).si).name.toList)/\((kjv (qp (zh t)) (yu v).si).fam=4->l.length=ssz (zh t) (kjv (qp (zh t)) (yu v).si).name.toList+1)/\∀x∈l,x.size<=800/\0<x.size:=by
 obtain⟨L,i,z⟩:=h.good;have q:=kxl z i;obtain⟨_,w⟩:=i.vars v f;rcases w with⟨k1,k2,_⟩|⟨k1,k2,_,_⟩|⟨k1,_⟩
 ·have e:(yu v).si=⟨0,zf,zf⟩:=by unfold yu;rw[k1,k2];rfl
  rw[e];refine⟨kwn 2,rfl,by rw[kzs];omega,by rw[kzs];omega,λ_=>kzs 2,λe=>?_,λe=>?_,zkn⟩
  ·have:(1:Int)=3:=e;omega
  ·have:(1:Int)=4:=e;omega
 ·have e:(yu v).si=⟨1,v.top,zf⟩:=by unfold yu;rw[k1,k2];rfl
  have hb:=h.bnd.top (yu v) (sV f) (by rw[e]);rw[e]at hb |-;have E:1<=kq8 v.top.text/\kq8 v.top.text<=3:=hb;refine⟨kwn ((kq8 v.top.text).toNat+1),?_,by rw[kzs];omega,by rw[kzs];omega,λe=>?_,λe=>?_,λe=>?_,zkn⟩
  ·show(jjl v.top.text).map (λn=>kwn (n+1))=_;unfold jjl;rw[if_pos aj];rfl
  ·have:(2:Int)=1:=e;omega
  ·have:(2:Int)=3:=e;omega
  ·have:(2:Int)=4:=e;omega
 ·have e:(yu v).si=⟨2,zf,v.type_⟩:=by unfold yu;rw[k1];rfl
  rw[e];have A:kjv (qp (zh t)) ⟨2,zf,v.type_⟩=if (zl (qp (zh t)) v.type_.text.toList).role==1 then ⟨4,v.type_.text⟩ else ⟨3,v.type_.text⟩:=rfl
  have B:vjw t.sets t.kinds ⟨2,zf,v.type_⟩=match kwa t.kinds v.type_.text.toList with|some k=>some (k.members.map (·.text))|none=>(qx3 t.sets v.type_.text.toList).map λm=>⟨#[45]⟩::kwn m:=rfl
  rw[A,B];by_cases a:(zl (qp (zh t)) v.type_.text.toList).role=1
  ·rw[if_pos lg];have p:kwa t.kinds v.type_.text.toList=none:=by
    cases d:kwa t.kinds v.type_.text.toList with
    |none=>rfl
    |some k=>
     obtain⟨b,g⟩:=qvw d;have:=zxq h.fine (zj9 b);simp only[g]at this;rw[this]at a;cases a
   obtain⟨n,s,F,G,u⟩:=zxi h ((qz4 t _).mp a);rw[p,s];refine⟨⟨#[45]⟩::kwn n,rfl,by rw[Qz,kzs];omega,au,λe=>?_,λe=>?_,λ_=>?_,λx c=>?_⟩
   ·have:(4:Int)=1:=e;omega
   ·have:(4:Int)=3:=e;omega
   ·show(⟨#[45]⟩::kwn n).length=ssz (zh t) v.type_.text.toList+1;rw[Qz,kzs,u]
   ·rcases sW.mp c with rfl|c
    ·exact⟨ak,ak⟩
    ·exact zkn x c
  ·rw[if_neg lg];have j:qh (dh t) v.type_.text.toList<0:=by
    apply tK;intro C;exact a ((qz4 t _).mpr C)
   obtain⟨k,d⟩:=jjb t.kinds v.type_.text.toList (qya (h.fine.type_ v f (by rw[rQ];exact k1) j));obtain⟨b,g⟩:=qvw d;have H:=h.bnd.mems k b;rw[d];refine⟨k.members.map (·.text),rfl,by rw[Qe];omega,by rw[Qe];exact h.sm.kinds k b,λe=>?_,λ_=>?_,λe=>?_,λx c=>?_⟩
   ·have:(3:Int)=1:=e;omega
   ·show(k.members.map (·.text)).length=ksz (zh t) v.type_.text.toList;rw[<-g,vvj h.fine b,Qe]
   ·have:(3:Int)=4:=e;omega
   ·obtain⟨y,D,rfl⟩:=Qj.mp c;have:=q.nm _ (kws b (rG _ D));exact⟨this.2,this.1⟩
theorem pz9 (h:Right t)  (a:v∈t.vars)(sz:Nat):∃u,zwm t.sets t.kinds sz (yu v)=some u/\u.first=sz/\UOk (zh t) u (yu v):=by
 obtain⟨c,c1,c2,c3,c4⟩:=pz0 h a;obtain⟨l,b,d,e,f,g,i,j⟩:=pj6 h a;unfold zwm;rw[c1,b];exact⟨_,rfl,rfl,c4,c2,c3,d,e,f,g,i,j⟩
def vmk (ss:List PSet)(ks:List PKind):List VrT->Nat->Option (List MVar×Nat)
 |[],sz=>some ([],sz)
 |v::l,sz=>(zwm ss ks sz v).bind λu=>(vmk ss ks l (sz+u.count)).map λr=>(u::r.1,r.2)
structure VsOk (m:MdL)(l:List VrT)(sz:Nat)(us:List MVar)(z:Nat):Prop where
 len:us.length=l.length
 low:sz<=z
 top:z<=sz+3*l.length
 at_:∀j (hj:j<l.length),∃u,us[j]?=some u/\UOk m u l[j]
 fit:∀u∈us,sz<=u.first/\u.first+u.count<=z
 disj:qqf us
theorem jvd {t:PTree}(h:Right t):∀(l:List PVar),(∀v∈l,v∈t.vars)->∀sz,∃us z,vmk t.sets t.kinds (l.map yu) sz=some (us,z)/\VsOk (zh t) (l.map yu) sz us z
 |[],_,sz=>⟨[],sz,rfl,rfl,wJ _,wJ _,(λj d=>by simp at d),(λu e=>kX),λi j u v e=>gZ⟩
 |v::l,hl,sz=>by
  obtain⟨u,m,A,g⟩:=pz9 h (hl v (rV ..)) sz;obtain⟨us,z,p,c⟩:=jvd h l (λx a=>hl x (rG _ a)) (sz+u.count);have w:=g.top;have q:=c.low;have s:=c.top;have k:=c.len;refine⟨u::us,z,?_,?_,aj,?_,?_,?_,?_⟩
  ·rw[Qh,vmk,m];show(vmk t.sets t.kinds (l.map yu) (sz+u.count)).map _=_;rw[p];rfl
  ·rw[Qh,Qz,Qz,k]
  ·rw[Qh,Qz];omega
  ·intro j d;cases j with
   |zero=>exact⟨u,rfl,by simpa using g⟩
   |succ j=>
    obtain⟨x,x1,x2⟩:=c.at_ j ni;exact⟨x,by simpa using x1,by simpa using x2⟩
  ·intro x a;rcases sW.mp a with rfl|a
   ·omega
   ·have:=c.fit x a;omega
  ·intro i j x y a b f;cases i with
   |zero=>
    cases j with
    |zero=>exact(f rfl).elim
    |succ j=>
     rw[sZ]at a;injection a with a;subst a;rw[tu]at b;have:=c.fit y (Qp b);omega
   |succ i=>
    rw[tu]at a;cases j with
    |zero=>
     rw[sZ]at b;injection b with b;subst b;have:=c.fit x (Qp a);omega
    |succ j=>
     rw[tu]at b;exact c.disj i j x y a b aj
theorem vxw {ss:List PSet}{ks:List PKind}:∀(l:List VrT) (sz:Nat) (r:List MVar×Nat),vmk ss ks l sz=some r->sz<=r.2
 |[],sz,r,h=>by
  have e:some (([]:List MVar),sz)=some r:=h;injection e with e;subst e;exact wJ _
 |v::l,sz,r,h=>by
  rw[vmk]at h;obtain⟨u,d,a⟩:=wQ.mp h;obtain⟨r',b,c⟩:=rJ.mp a;have:=vxw l _ _ b;rw[<-c];show sz<=r'.2;omega
theorem jyo {ss:List PSet}{ks:List PKind}:∀(l:List VrT) (i:Nat) (t t':kq1) (vs us:List MVar) (sz z:Nat),qk8 (jzd l i) t=some t'->vmk ss ks l sz=some (us,z)->z<=100000->vs.length+l.length<=1000->qjn ss ks l i t vs sz=some (t',vs++us,z)
 |[],i,t,t',vs,us,sz,z,h1,h2,h3,h4=>by
  have c:some t=some t':=h1;have a:some (([]:List MVar),sz)=some (us,z):=h2;injection c with c;injection a with a;injection a with a h;subst c;subst a;subst h;rw[qjn,Qg]
 |v::l,i,t,t',vs,us,sz,z,h1,h2,h3,h4=>by
  rw[jzd,qk8]at h1;obtain⟨b,j,k⟩:=wQ.mp h1;rw[vmk]at h2;obtain⟨u,m,p⟩:=wQ.mp h2;obtain⟨r,g,d⟩:=rJ.mp p;injection d with d e;have q:sz+u.count<=z:=by rw[<-e];exact vxw l _ _ g
  have f:zqi t v.name.text ⟨true,i⟩=some b:=j;rw[Qz]at h4;rw[qjn,f];show(if sz<=100000/\vs.length<=1000 then (zwm ss ks sz v).bind λu=>qjn ss ks l (i+1) b (vs++[u]) (sz+u.count) else none)=_;rw[if_pos aj,m];show qjn ss ks l (i+1) b (vs++[u]) (sz+u.count)=_;rw[jyo l (i+1) b t' (vs++[u]) r.1 (sz+u.count) r.2 k g (by rw[e];exact h3) (by rw[wY];simp;omega),e,<-d];simp
theorem pqu (h:Right t)   (c:TreeSize t)(d:vmk t.sets t.kinds (t.vars.map yu) 0=some (us,z))(f:z<=100000):∃a,qjc t.kinds []=some a/\qjn t.sets t.kinds (t.vars.map yu) 0 a [] 0=some (kz0 (zh t),us,z):=by
 have b:=vv8 h.fine c;unfold qj8 at b;rw[zkx]at b;obtain⟨a,g,i⟩:=wQ.mp b;refine⟨a,by rw[jq9];exact g,?_⟩;have hn:=h.bnd.vars;have:=jyo (ss:=t.sets) (ks:=t.kinds) (t.vars.map yu) 0 a _ [] us 0 z i d f (by
  have e:(zh t).vars=t.vars.map yu:=rfl;rw[e]at hn;simp only[Jh];omega)
 rw[Qc]at this;exact this
theorem pje (h:Right t)   (m:VsOk (zh t) (t.vars.map yu) 0 us z):EnvOk (qp (zh t)) us (kz0 (zh t)) (ksz (zh t)) (ssz (zh t)) z:=by
 refine⟨λs a=>?_,λs a=>?_,λs q=>?_,pjs h,pj8 _,?_⟩
 ·rw[kjf]at a |-;rcases kjo (kjg (zh t)) s with⟨e,_⟩|⟨j,f,A,J,e⟩
  ·rw[e]at a;cases a
  ·rw[e]at a |-;simp only at a |-;rcases kvz _ _ (wX f) with g|g|g|g|g|g
   ·have:=g.1;omega
   ·have:=g.1;omega
   ·obtain⟨_,k,v,F,y⟩:=g;obtain⟨i,hi,x⟩:=tC F;have c:((kjg (zh t))[j].1,(⟨false,0+i⟩:Mean))∈qj8 (zh t):=by
     unfold qj8;refine wG _ (su.mpr ⟨k,v,?_⟩);have:=jjg k.members 0 i hi;rw[x]at this;exact this
    have d:=qvk h.fine c;simp only[A]at d;rw[d,y,vvj h.fine v];exact⟨rfl,by show 0+i<_;omega⟩
   ·have:=g.1;omega
   ·have:=g.1;omega
   ·have:=g.1;omega
 ·obtain⟨G,H⟩:=qku h.fine s;have p:=G.mp a;obtain⟨hi,ev⟩:=H p;obtain⟨I,D⟩:=kvd p;have l:(t.vars[(qh (zx t) s).toNat]).name.text.toList=s:=by
   have:(zx t)[(qh (zx t) s).toNat]=(t.vars[(qh (zx t) s).toNat]).name.text:=by simp[zx]
   rw[<-this];exact D
  generalize (qh (zx t) s).toNat=i at hi ev l;have f:i<(t.vars.map yu).length:=iq;have c:((t.vars.map yu)[i].name,(⟨true,0+i⟩:Mean))∈qj8 (zh t):=rZ _ (zqm (t.vars.map yu) 0 i f);have d:=qvk h.fine c;have en:(t.vars.map yu)[i].name.text.toList=s:=by rw[Jd];exact l
  simp only[en]at d;obtain⟨u,w,b⟩:=m.at_ i f;rw[d,ev];refine⟨rfl,u,by rw[QU];exact w,?_⟩;have E:=m.fit u (Qp w);rw[Jd]at b;exact⟨E.2,b.cnt,b.low,b.few,b.tru,b.kin,b.set⟩
 ·apply tK;intro C;rw[zv1 t s C]at q;cases q
 ·have h1:=m.top;have B:=h.bnd.vars;have e:(zh t).vars=t.vars.map yu:=rfl;rw[e]at B;omega
theorem vk0 {l:List VrT}   (b:VsOk m l 0 us z):kz2 us z (List.replicate z 0):=by
 refine⟨Jb,λv c j g=>?_⟩;obtain⟨i,hi,rfl⟩:=tC c;obtain⟨u,a,e⟩:=b.at_ i (by rw[<-b.len];exact hi);rw[tY hi]at a;injection a with a;have f:=b.fit us[i] c;have d:=e.ne;rw[<-a]at d;exact⟨0,by rw[Zy,if_pos aj],Int.le_refl _,aj⟩
theorem jy8 {x:List Int}(h:x∈kq6 n all):∃c∈all,∃j:Nat,j<n/\x=c++[(j:Int)]:=by
 unfold kq6 at h;obtain⟨c,b,a⟩:=su.mp h;obtain⟨j,d,rfl⟩:=Qj.mp a;exact⟨c,b,j,ni,rfl⟩
theorem qjh (n:Nat):∀all:List (List Int),(kq6 n all).length=all.length*n
 |[]=>by simp[kq6]
 |c::l=>by
  have e:kq6 n (c::l)=((List.range n).map λ(j:Nat)=>c++[(j:Int)])++kq6 n l:=rfl;rw[e,wY,qjh n l,Qe,List.length_range,Qz,Nat.add_mul];omega
theorem jjs (h:all.Nodup):(kq6 n all).Nodup:=by
 unfold kq6 List.Nodup;rw[JC];refine⟨λc _=>?_,?_⟩
 ·rw[List.pairwise_map];refine List.Pairwise.imp ?_ (List.nodup_range (n:=n));intro a b d e;have:=List.append_cancel_left e;injection this with this;exact d aj
 ·refine List.Pairwise.imp ?_ h;intro a b d x f y g e;obtain⟨i,_,rfl⟩:=Qj.mp f;obtain⟨j,_,rfl⟩:=Qj.mp g;exact d (Zu e rfl).1
theorem pqb {ss:List PSet}:∀(l:List PP) (all:List (List Int)),(∀p∈l,∃n,qx3 ss p.set_.text.toList=some n/\n<=3)->all.length*3 ^ l.length<=100000->all.Nodup ->
  ∃c,chO ss l all=some c/\c.Nodup/\c.length<=all.length*3 ^ l.length/\∀x∈c,∃y∈all,∃z:List Int,x=y++z/\z.length=l.length/\∀i (hi:i<l.length) (e:i<z.length),0<=z[i]/\z[i]<((qx3 ss l[i].set_.text.toList).getD 0:Nat)
 |[],all,_,hb,hn=>⟨all,rfl,hn,au,λx b=>⟨x,b,[],au,rfl,λi hi=>lW⟩⟩
 |p::l,all,hl,hb,hn=>by
  obtain⟨n,h1,k⟩:=hl p (rV ..);have a:=qjh n all;have m:1<=3 ^ l.length:=Nat.one_le_pow _ _ aj;rw[Qz,Nat.pow_succ]at hb;have w:(kq6 n all).length*3 ^ l.length<=all.length*(3 ^ l.length*3):=by
   rw[a,Nat.mul_assoc];refine ZM _ ?_;rw[Nat.mul_comm];exact ZM _ k
  have u:(kq6 n all).length<=(kq6 n all).length*3 ^ l.length:=Nat.le_mul_of_pos_right _ m;obtain⟨c,c1,c2,c3,c4⟩:=pqb l (kq6 n all) (λq s=>hl q (rG _ s)) aj (jjs hn);refine⟨c,?_,c2,by rw[Qz,Nat.pow_succ];omega,λx b=>?_⟩
  ·rw[chO,h1];show(if (kq6 n all).length<=100000 then chO ss l (kq6 n all) else none)=_;rw[if_pos aj];exact c1
  ·obtain⟨y,t,z,f,g,h⟩:=c4 x b;obtain⟨y0,d,j,v,rfl⟩:=jy8 t;refine⟨y0,d,(j:Int)::z,by rw[f,sD];rfl,by rw[Qz,Qz,g],λi hi e=>?_⟩;cases i with
   |zero=>
    simp only[Qi];rw[h1];show 0<=(j:Int)/\(j:Int)<((n:Nat):Int);omega
   |succ i=>
    simp only[Jy];exact h i iq ou
def zzb (z:List Int):Prop:=z.length<=2/\∀x∈z,0<=x/\x<4
theorem zqh {z:List Int}(h:z.length<=2):z=[]\/(∃a,z=[a])\/∃a b,z=[a,b]:=by
 match z,h with
 |[],_=>exact Or.inl rfl
 |[a],_=>exact Or.inr (Or.inl ⟨a,rfl⟩)
 |[a,b],_=>exact Or.inr (Or.inr ⟨a,b,rfl⟩)
 |a::b::c::l,h=>simp at h
def zq2 (z:List Int):List UInt8:=Go.Lib.join ((z.map λi=>kw9 i.toNat).map (·.data.toList)) [44]
def dgB (a:Int):UInt8:=(48+a.toNat).toUInt8
theorem zjx:zq2 []=[]:=rfl
theorem zjz (a:Int):zq2 [a]=[dgB a]:=lZ
theorem zjj (a b:Int):zq2 [a,b]=[dgB a,44,dgB b]:=lZ
theorem pjo {z:List Int}(h:zzb z):qwq z=true:=by
 have c:(zq2 z).length<=3:=by
  rcases zqh h.1 with rfl|⟨a,rfl⟩|⟨a,b,rfl⟩
  ·rw[zjx];simp
  ·rw[zjz];simp
  ·rw[zjj];simp
 unfold qwq;rw[wW,wW,sG];refine⟨⟨λx d=>?_,?_⟩,?_⟩
 ·have:=h.2 x d;rw[wW];exact⟨tV aj,tV aj⟩
 ·have:=h.1;exact tV aj
 ·exact tV (by unfold zq2 at c;omega)
theorem jqx (n:ByteArray)(z:List Int):(kkt n z).toList=n.toList++(40::(zq2 z++[41])):=by
 unfold kkt qxt;rw[bf,J3,J3,J3,Zq,Zq,Zq,bf];simp[zq2]
theorem jjr (b:0<=a)(h1:a<4):dgB a≠40:=by
 have:a=0\/a=1\/a=2\/a=3:=aj;rcases this with rfl|rfl|rfl|rfl<;>decide
theorem jjn {b: Int}(d:0<=a)(h1:a<4)(f:0<=b)(g:b<4)(e:dgB a=dgB b):a=b:=by
 have c:a=0\/a=1\/a=2\/a=3:=aj;have hb:b=0\/b=1\/b=2\/b=3:=aj;rcases c with rfl|rfl|rfl|rfl<;>rcases hb with rfl|rfl|rfl|rfl<;>first|rfl|exact absurd e ak
theorem vqh {n p:ByteArray}{z l:List Int}(h:zzb z)(g:zzb l)(e:(kkt n z).toList=(kkt p l).toList):n.toList=p.toList/\z=l:=by
 rw[jqx,jqx]at e;have d:=congrArg List.reverse e;rcases zqh h.1 with rfl|⟨a,rfl⟩|⟨a,b,rfl⟩<;>rcases zqh g.1 with rfl|⟨a',rfl⟩|⟨a',m,rfl⟩
 ·simp only[zjx]at e;exact⟨(Zu e rfl).1,rfl⟩
 ·have c:=g.2 a' au;simp[zjx,zjz]at d;exact absurd d.1.symm (jjr c.1 c.2)
 ·have hb:=g.2 m au;simp[zjx,zjj]at d;exact absurd d.1.symm (jjr hb.1 hb.2)
 ·have c:=h.2 a au;simp[zjx,zjz]at d;exact absurd d.1 (jjr c.1 c.2)
 ·have c:=h.2 a au;have f:=g.2 a' au;simp only[zjz]at e;obtain⟨k,i⟩:=Zu e rfl;simp at i;exact⟨k,by rw[jjn c.1 c.2 f.1 f.2 i]⟩
 ·simp[zjz,zjj]at d
 ·have hb:=h.2 b au;simp[zjx,zjj]at d;exact absurd d.1 (jjr hb.1 hb.2)
 ·simp[zjz,zjj]at d
 ·have c:=h.2 a au;have f:=g.2 a' au;have hb:=h.2 b au;have j:=g.2 m au;simp only[zjj]at e;obtain⟨k,i⟩:=Zu e rfl;simp at i;exact⟨k,by rw[jjn c.1 c.2 f.1 f.2 i.1,jjn hb.1 hb.2 j.1 j.2 i.2]⟩
theorem kza.num:∀{x:PX},kza x->zqy x
 |.node _ _ x a c,h=>by
  rcases h with⟨j,rfl,rfl⟩|⟨f,d,rfl⟩|⟨f,d,i⟩
  ·refine⟨λe=>?_,trivial,trivial⟩;rcases j with(b|b|b)|⟨b,h1,g⟩|⟨b,_⟩
   ·rw[b]at e;exact absurd e ak
   ·rw[b]at e;exact absurd e ak
   ·rw[b]at e;exact absurd e ak
   ·exact⟨h1,g⟩
   ·rw[b]at e;exact absurd e ak
  ·exact⟨λe=>by rw[f]at e;exact absurd e ak,d.num,trivial⟩
  ·refine⟨λe=>?_,d.num,i.num⟩;rcases kyr f with q|q|q|q|q|q|q<;>rw[q]at e<;>exact absurd e ak
theorem kxn.num:∀{b:PB},kxn b->BSm b->zw9 b
 |.nil,_,_=>trivial
 |.node _ _ a .nil n,⟨_,h2,_,h⟩,⟨s1,s2⟩=>⟨⟨h2.num,aj⟩,h.num s2⟩
 |.node _ _ a (.node _ _ _ t e) n,⟨h1,_,_,h4,h5,h6⟩,⟨s1,s2,s3,s4⟩=>⟨⟨h1.num,aj⟩,h4.1.num s2,h5.1.num s3,h6.num s4⟩
theorem vwa (h:Right t){r:PRule}(f:r∈t.rules++t.nevers):∃c,chO t.sets r.params [[]]=some c/\c.Nodup/\c.length<=9/\∀z∈c,zzb z/\ParOk (ssz (zh t)) r.params z:=by
 have j:r.params.length<=2:=h.bnd.pars r f;have A:3 ^ r.params.length<=9:=by
  have:r.params.length=0\/r.params.length=1\/r.params.length=2:=aj;rcases this with e|e|e<;>rw[e]<;>decide
 obtain⟨c,c1,c2,c3,c4⟩:=pqb (ss:=t.sets) r.params [[]] (λp j=>by obtain⟨n,a,_,b,_⟩:=zxi h (h.fine.psets r f p j);exact⟨n,a,b⟩) ay au;refine⟨c,c1,c2,by simp at c3;omega,λz s=>?_⟩;obtain⟨y,k,B,a,l,b⟩:=c4 z s;rw[sK]at k;subst k;rw[Qc]at a;subst a;refine⟨⟨aj,λx q=>?_⟩,l,λi hi m=>b i hi m⟩;obtain⟨i,hi,rfl⟩:=tC q;have d:i<r.params.length:=aj;obtain⟨w,g⟩:=b i d hi;obtain⟨n,a,_,v,_⟩:=zxi h (h.fine.psets r f r.params[i] (wX d));rw[a]at g;have u:z[i]<((n:Nat):Int):=g;omega
end Go.Proofs.YtpmcnonmkghokaaGreatDoor

import Derived.Test.YtpmcnonmkghokaaGreatDoorT38
set_option maxRecDepth 100000
set_option maxHeartbeats 8000000
set_option linter.unusedVariables false
set_option linter.unusedSimpArgs false
namespace Go.Proofs.YtpmcnonmkghokaaGreatDoor
open Go.Proofs.Tryz
open Go.RowKit
variable {s:ByteArray}{us:List MVar}{ss:List PSet}{a:Mach}{n z:Nat}{r:PRule}{t:PTree}{x:RIn}
theorem qkl:∀{b:PB},kw5 b->qjj b=true
 |.nil,_=>rfl
 |.node _ _ a .nil n,h=>qkl (b:=n) h
 |.node _ _ a (.node _ _ _ t e) n,⟨⟨h1,h2⟩,⟨h3,h4⟩,h5⟩=>by
  rw[qjj,qkl h1,qkl h3,qkl h5,tV h2,tV h4];rfl
theorem zy1 {l:List Tok}(h:∀y∈l,y.text.size<=1000):qwg l=true:=sG.2 λy a=>tV (h y a)
structure RGood (t:PTree)(r:PRule):Prop where
 ch:∃c,chO t.sets r.params [[]]=some c/\c.Nodup/\c.length<=9/\∀z∈c,zzb z/\ParOk (ssz (zh t)) r.params z
 par:r.params.length<=1000
 nm:r.name.text.size<=1000
 full:kym r.guard/\zqy r.guard/\isNil r.guard=false/\kjd r.guard<=4000/\(uz (qp (zh t)) r.params r.guard).fam=1
 blk:qqo r.body/\zw9 r.body
 fitG:qwg (cu r.guard)=true
 fitB:qjj r.body=true/\kq4 r.body<=1000/\qwg (pz r.body)=true
theorem zk6 (h:Right t)  (a:r∈t.rules++t.nevers):RGood t r:=by
 obtain⟨L,d,i⟩:=h.good;have s:=kxl i d;have e:kka r:=by
  rcases ru.mp a with a|a
  ·exact d.rules r a
  ·exact(d.nevers r a).1
 have f:qy3 r:=by
  rcases ru.mp a with a|a
  ·exact h.sm.rules r a
  ·exact h.sm.nevers r a
 have g:(uz (qp (zh t)) r.params r.guard).fam=1:=by
  have:=h.typ;unfold kyg at this;rw[wW]at this;rcases ru.mp a with a|a
  ·have:=sG.1 this.1 r a;unfold qw4 at this;rw[wW,rQ]at this;exact this.1
  ·have:=sG.1 this.2 r a;unfold jwp at this;rw[rQ]at this;exact this
 obtain⟨x,b,j⟩:=e;obtain⟨x1,x2⟩:=f;have k:=h.bnd.pars r a;refine⟨vwa h a,aj,?_,⟨x.full,x.num,x.some,aj,g⟩,⟨b.full,b.num x2⟩,zy1 λy c=>?_,qkl b.len,by rw[qz8];omega,zy1 λy c=>?_⟩
 ·have:=(s.nm _ (kzn a (rV ..))).2;omega
 ·rw[kzv x]at c;have:=(s.nm _ (kzn a (zyl c))).2;omega
 ·rw[kxk b]at c;have:=(s.nm _ (kzn a (jk0 c))).2;omega
theorem vvp (h:RGood t r){c:List (List Int)}(f:c.length<=9)(d:∀z∈c,zzb z/\ParOk (ssz (zh t)) r.params z)  (hn:n<=100000):kv3 r c n=true:=by
 have a:=h.par;have b:=h.nm;unfold kv3;rw[sG.2 λz e=>pjo (d z e).1,tV (by omega:c.length<=100000),tV hn,tV a,tV b];rfl
def vwk (t:PTree)(l:List PRule)(s:MStep):Prop:=∃r∈l,∃z,s=qkx r z/\zzb z/\ParOk (ssz (zh t)) r.params z
theorem jzf {t:PTree}:∀(l:List PRule) (acc:List MStep),(∀r∈l,RGood t r)->(l.map (λr=>r.name.text.toList)).Nodup->acc.length+9*l.length<=100000 ->
  ∃S,kwc t.sets l acc=some (acc++S)/\S.length<=9*l.length/\(∀s∈S,vwk t l s)/\(S.map (λs=>s.text.toList)).Nodup
 |[],acc,_,_,_=>⟨[],by rw[kwc,Qg],au,(λs d=>by cases d),au⟩
 |r::l,acc,hl,hn,hb=>by
  have m:=hl r (rV ..);obtain⟨c,c1,c2,c3,c4⟩:=m.ch;rw[Qh,JX]at hn;rw[Qz]at hb;obtain⟨S,s1,A,s3,w⟩:=jzf l (acc++c.map (qkx r)) (λx h=>hl x (rG _ h)) hn.2 (by rw[wY,Qe];omega);refine⟨c.map (qkx r)++S,?_,lX,λs d=>?_,?_⟩
  ·rw[kwc,c1];show(if kv3 r c acc.length then kwc t.sets l (acc++c.map (qkx r)) else none)=_;rw[if_pos (vvp m c3 c4 aj),s1,sD]
  ·rcases ru.mp d with d|d
   ·obtain⟨z,i,rfl⟩:=Qj.mp d;exact⟨r,rV ..,z,rfl,c4 z i⟩
   ·obtain⟨r',g,z,q⟩:=s3 s d;exact⟨r',rG _ g,z,q⟩
  ·rw[Qv,JU];refine⟨?_,w,?_⟩
   ·rw[Q7];unfold List.Nodup;rw[List.pairwise_map];refine List.Pairwise.imp_of_mem ?_ c2;intro a b p k j e;exact j (vqh (c4 a p).1 (c4 b k).1 e).2
   ·intro x h y u e;rw[Q7]at h;obtain⟨z,i,rfl⟩:=Qj.mp h;obtain⟨s,d,rfl⟩:=Qj.mp u;obtain⟨r',g,B,rfl,v,_⟩:=s3 s d;have:=(vqh (c4 z i).1 v e).1;exact hn.1 (by rw[this];exact sV (f:=λr:PRule=>r.name.text.toList) g)
def pqh (t:PTree)(l:List PRule)(s:MNever):Prop:=∃r∈l,∃z,s=qj7 r z/\zzb z/\ParOk (ssz (zh t)) r.params z
theorem zym {t:PTree}:∀(l:List PRule) (acc:List MNever),(∀r∈l,RGood t r)->acc.length+9*l.length<=100000 ->
  ∃S,kkg t.sets l acc=some (acc++S)/\S.length<=9*l.length/\(∀s∈S,pqh t l s)
 |[],acc,_,_=>⟨[],by rw[kkg,Qg],au,λs a=>by cases a⟩
 |r::l,acc,hl,hb=>by
  have b:=hl r (rV ..);obtain⟨c,c1,c2,c3,c4⟩:=b.ch;rw[Qz]at hb;obtain⟨S,s1,g,s3⟩:=zym l (acc++c.map (qj7 r)) (λx e=>hl x (rG _ e)) (by rw[wY,Qe];omega);refine⟨c.map (qj7 r)++S,?_,lX,λs a=>?_⟩
  ·rw[kkg,c1];show(if kv3 r c acc.length then kkg t.sets l (acc++c.map (qj7 r)) else none)=_;rw[if_pos (vvp b c3 c4 aj),s1,sD]
  ·rcases ru.mp a with a|a
   ·obtain⟨z,f,rfl⟩:=Qj.mp a;exact⟨r,rV ..,z,rfl,c4 z f⟩
   ·obtain⟨r',d,z,q⟩:=s3 s a;exact⟨r',rG _ d,z,q⟩
structure MachOf (t:PTree)(a:Mach):Prop where
 good:MachGood (qp (zh t)) (ksz (zh t)) (ssz (zh t)) a
 first:kz2 a.vars a.size (List.replicate a.size 0)
 steps:∀s∈a.steps,vwk t t.rules s
 nevers:∀s∈a.nevers,pqh t t.nevers s
 few:a.steps.length<=45
theorem vqg (h:(qxy s).1=0):∃a,jq3 s=some a/\MachOf (yx (jo s).1).1 a:=by
 have b:=jxk h;unfold jq3;generalize (yx (jo s).1).1=t at b;obtain⟨L,J,I⟩:=b.good;have M:=kxl I J;obtain⟨us,z,R,j⟩:=jvd b t.vars (λ_ e=>e) 0;have G:(t.vars.map yu).length<=4:=b.bnd.vars;have W:z<=12:=by have:=j.top;omega
 obtain⟨P,k1,k2⟩:=pqu b M R aj;have U:t.rules.length<=5:=b.bnd.rules;have T:t.nevers.length<=3:=b.bnd.nevers;obtain⟨S,s1,Y,s3,O⟩:=jzf (t:=t) t.rules [] (λr c=>zk6 b (wG _ c)) (jx9 b.fine) (by simp only[Jh];omega);obtain⟨N,n1,X,D⟩:=zym (t:=t) t.nevers [] (λr c=>zk6 b (rZ _ c)) (by simp only[Jh];omega);rw[Qc]at s1 n1;have w:=j.len;have E:∀r∈t.rules,kxr (qp (zh t)) r.params r.body=true:=λr c=>by
  have:=b.typ;unfold kyg at this;rw[wW]at this;have:=sG.1 this.1 r c;unfold qw4 at this;rw[wW]at this;exact this.2
 have y:qwm (zh t)=true:=by
  have m:t.sets.length<=2:=b.bnd.sets;have p:t.kinds.length<=2:=b.bnd.kinds;unfold qwm;have H:((zh t).kinds.all λx=>decide (x.members.length<=1000))=true:=sG.2 λk K=>tV (by have:=b.bnd.mems k K;omega)
  rw[H,tV (show(zh t).sets.length<=1000 by show t.sets.length<=1000;omega),tV (show(zh t).kinds.length<=1000 by show t.kinds.length<=1000;omega),tV (show(zh t).vars.length<=1000 by show(t.vars.map yu).length<=1000;omega),tV (show(zh t).rules.length<=1000 by show t.rules.length<=1000;omega),tV (show(zh t).nevers.length<=1000 by show t.nevers.length<=1000;omega)];rfl
 have B:vz4 (zh t)=some ⟨S,N,kxx t.sets,us,kz0 (zh t),z⟩:=by
  unfold vz4;show(qjc t.kinds []).bind _=_;rw[k1];show(qjn t.sets t.kinds (t.vars.map yu) 0 P [] 0).bind _=_;rw[k2];show(kwc t.sets t.rules []).bind _=_;rw[s1];show(kkg t.sets t.nevers []).map _=_;rw[n1];rfl
 have A:qj9 ⟨S,N,kxx t.sets,us,kz0 (zh t),z⟩=true:=by
  unfold qj9;have m:S.all qv5=true:=sG.2 λx f=>by
   obtain⟨r,c,ms,rfl,_⟩:=s3 x f;have g:=zk6 b (wG t.nevers c);show qv5 ⟨_,r.params,ms,r.guard,r.body⟩=true;unfold qv5;simp only;rw[tV g.par,g.fitG,g.fitB.1,tV g.fitB.2.1,g.fitB.2.2];rfl
  have p:N.all zj4=true:=sG.2 λx f=>by
   obtain⟨r,c,ms,rfl,_⟩:=D x f;have g:=zk6 b (rZ t.rules c);show zj4 ⟨_,r.params,ms,r.guard⟩=true;unfold zj4;simp only;rw[tV g.par,g.fitG];rfl
  simp only;rw[m,p,tV (by omega:us.length<=1000),tV (by omega:S.length<=1000000),tV (by omega:N.length<=1000000)];rfl
 refine⟨⟨S,N,kxx t.sets,us,kz0 (zh t),z⟩,?_,?_⟩
 ·rw[if_pos y,B];show(if qj9 ⟨S,N,kxx t.sets,us,kz0 (zh t),z⟩=true then some (⟨S,N,kxx t.sets,us,kz0 (zh t),z⟩:Mach) else none)=_;rw[if_pos A]
 ·have F:∀v∈us,∃d,UOk (zh t) v d:=λv e=>by
   obtain⟨i,hi,rfl⟩:=tC e;obtain⟨u,q,Q⟩:=j.at_ i (by rw[<-w];exact hi);rw[tY hi]at q;injection q with q;rw[q];exact⟨_,Q⟩
  have V:=b.sm.vars;rw[Qe]at w G;refine⟨⟨pje b j,j.disj,λv e=>?_,λv e=>?_,?_,?_,λx f=>?_,λx f=>?_,O⟩,vk0 j,s3,D,by show S.length<=45;omega⟩
  ·obtain⟨d,l⟩:=F v e;have m:=j.fit v e;have p:=l.low;have H:=l.top;exact⟨⟨m.2,p⟩,aj⟩
  ·obtain⟨d,l⟩:=F v e;exact⟨l.few,l.txt⟩
  ·show 0<us.length;omega
  ·show us.length<=10;omega
  ·obtain⟨r,c,ms,rfl,_,C⟩:=s3 x f;have g:=zk6 b (wG t.nevers c);exact⟨C,g.full,g.blk.1,g.blk.2,E r c⟩
  ·obtain⟨r,c,ms,rfl,_,C⟩:=D x f;have g:=zk6 b (rZ t.rules c);exact⟨C,g.full⟩
end Go.Proofs.YtpmcnonmkghokaaGreatDoor
namespace Go.Proofs.YtpmcnonmkghokaaGreatDoor
open Go.Proofs.Tryz
open Go.RowKit
variable {s:ByteArray}{us:List MVar}{ss:List PSet}{a:Mach}{n z:Nat}{r:PRule}{t:PTree}{x:RIn}
variable {t:PTree}
theorem zqf:∀{l:List PSet} {s:List UInt8} {k:Nat},qz1 l s=some k->qh (l.map λq=>q.name.text) s=k
 |x::l,s,k,h=>by
  rw[qz1]at h;rw[Qh,qh];split at h
  ·rename_i a;injection h with h;subst h;rw[if_pos a];rfl
  ·rename_i a;obtain⟨m,h1,rfl⟩:=rJ.mp h;rw[if_neg a,zqf h1,if_neg aj];rfl
theorem jvi (h:Right t){s:List UInt8}(f:¬qh (dh t) s<0):∃n,qx3 t.sets s=some n/\zw1 t s n/\szN t s=n/\ssz (zh t) s=n:=by
 obtain⟨n,a,g,i,d⟩:=zxi h f;obtain⟨k,x,k1,k2,k3,k4⟩:=kwb a;obtain⟨c,rfl⟩:=tZ.mp k2;obtain⟨L,e,j⟩:=h.good;have b:zw1 t s n:=⟨k,c,zqf k1,e.sets _ (wX c),k3,aj,aj⟩;exact⟨n,a,b,b.eq,d⟩
theorem vvo (n:Nat):kq6 n [[]]=(List.range n).map λ(j:Nat)=>[(j:Int)]:=by simp[kq6]
theorem pz1 (m n:Nat):kq6 m ((List.range n).map λ(j:Nat)=>[(j:Int)])=(List.range n).flatMap λ(a:Nat)=>(List.range m).map λ(b:Nat)=>[(a:Int),(b:Int)]:=by simp[kq6,List.flatMap_map]
theorem pja (h:x∈qzg t r):x.r=r:=by
 unfold qzg qzu at h;obtain⟨a,_,h⟩:=su.mp h;obtain⟨b,_,rfl⟩:=Qj.mp h;rfl
theorem vvw (h:Right t)  (d:r∈t.rules++t.nevers):chO t.sets r.params [[]]=some ((qzg t r).map (·.ms)):=by
 have b:r.params.length<=2:=h.bnd.pars r d;have a:∀p∈r.params,qx3 t.sets p.set_.text.toList=some (szN t p.set_.text.toList)/\szN t p.set_.text.toList<=9:=λp b=>by
  obtain⟨n,f,g,i,_⟩:=jvi h (h.fine.psets r d p b);obtain⟨_,_,_,_,_,_,j⟩:=g;rw[i];exact⟨f,j⟩
 unfold qzg qzu kw7;generalize r.params=l at b a |-;match l,b,a with
 |[],_,_=>rfl
 |[p],_,a=>
  obtain⟨c,e⟩:=a p au;rw[chO,c];simp only[rC];rw[vvo,if_pos ay,chO];rw[Jp];exact congrArg some J6
 |[p,q],_,a=>
  obtain⟨c,e⟩:=a p au;obtain⟨y1,y2⟩:=a q au;have k:szN t p.set_.text.toList*szN t q.set_.text.toList<=9*9:=Zh e y2;rw[chO,c];simp only[rC];rw[vvo,if_pos ay,chO,y1];simp only[rC];rw[if_pos (by rw[qjh];simp;omega),pz1,chO];simp[Jp,Function.comp_def]
 |p::q::x::l,b,_=>simp at b
theorem jzo {ss:List PSet}:∀(l:List PRule) (acc S:List MStep),(∀r∈l,chO ss r.params [[]]=some ((qzg t r).map (·.ms)))->kwc ss l acc=some S->S=acc++(kj3 t l).map zzl
 |[],acc,S,_,h=>by
  rw[kwc]at h;injection h with h;rw[<-h];simp[kj3]
 |r::l,acc,S,hl,h=>by
  rw[kwc,hl r (rV ..)]at h;simp only[rC]at h;split at h
  ·rw[jzo l _ S (λx a=>hl x (rG _ a)) h,sD];unfold kj3;rw[Qb,Qv,Q7];congr 2
   exact Z4 λx a=>by rw[<-pja a];rfl
  ·cases h
theorem zyh {ss:List PSet}:∀(l:List PRule) (acc S:List MNever),(∀r∈l,chO ss r.params [[]]=some ((qzg t r).map (·.ms)))->kkg ss l acc=some S->S=acc++(kj3 t l).map vyw
 |[],acc,S,_,h=>by
  rw[kkg]at h;injection h with h;rw[<-h];simp[kj3]
 |r::l,acc,S,hl,h=>by
  rw[kkg,hl r (rV ..)]at h;simp only[rC]at h;split at h
  ·rw[zyh l _ S (λx a=>hl x (rG _ a)) h,sD];unfold kj3;rw[Qb,Qv,Q7];congr 2
   exact Z4 λx a=>by rw[<-pja a];rfl
  ·cases h
theorem pqg {rs:List PRule}  (h:x∈kj3 t rs):∃r∈rs,x∈qzg t r/\x.r=r:=by
 obtain⟨r,a,h⟩:=su.mp h;exact⟨r,a,h,pja h⟩
theorem vqt (h:Right t)  (b:x∈kj3 t t.rules++kj3 t t.nevers):qxp (qp (zh t)) (ssz (zh t)) x/\x.ms.length<=2/\x.r∈t.rules++t.nevers:=by
 have l:∃r∈t.rules++t.nevers,x∈qzg t r/\x.r=r/\kxr (qp (zh t)) r.params r.body=true:=by
  have k:=h.typ;unfold kyg at k;rw[wW]at k;obtain⟨L,d,q⟩:=h.good;rcases ru.mp b with b|b
  ·obtain⟨r,a,h1,j⟩:=pqg b;have:=sG.1 k.1 r a;unfold qw4 at this;rw[wW]at this;exact⟨r,wG _ a,h1,j,this.2⟩
  ·obtain⟨r,a,h1,j⟩:=pqg b;exact⟨r,rZ _ a,h1,j,by rw[(d.nevers r a).2];rfl⟩
 obtain⟨r,a,v,rfl,hb⟩:=l;have g:=zk6 h a;obtain⟨L,d,q⟩:=h.good;have i:kka x.r:=by
  rcases ru.mp a with a|a
  ·exact d.rules _ a
  ·exact(d.nevers _ a).1
 obtain⟨c,c1,_,_,c4⟩:=g.ch;rw[vvw h a]at c1;injection c1 with c1;obtain⟨A,B⟩:=c4 x.ms (by rw[<-c1];exact sV (f:=λx:RIn=>x.ms) v);refine⟨⟨B,λs D=>?_,i.1,g.full.2.1,g.full.2.2.2.1,g.full.2.2.2.2,i.2.1,g.blk.2,hb⟩,A.1,a⟩;cases u:fpB x.r.params s
 ·rfl
 ·obtain⟨p,w,e⟩:=(zq5 _ _).mp u;have C:=(zqo t s).mpr λy z m=>h.fine.pars x.r a p w y z (m.trans e.symm)
  omega
end Go.Proofs.YtpmcnonmkghokaaGreatDoor
namespace Go.Proofs.YtpmcnonmkghokaaGreatDoor
open Go.Proofs.Tryz
open Go.RowKit
variable {s:ByteArray}{us:List MVar}{ss:List PSet}{a:Mach}{n z:Nat}{r:PRule}{t:PTree}{x:RIn}
variable {t:PTree}
theorem jys {ss:List PSet}{ks:List PKind}:∀(l:List VrT) (sz:Nat) (us:List MVar) (z:Nat),vmk ss ks l sz=some (us,z)->∀j (hj:j<l.length),∃u sz',us[j]?=some u/\zwm ss ks sz' l[j]=some u
 |v::l,sz,us,z,h,j,hj=>by
  rw[vmk]at h;obtain⟨u,d,e⟩:=wQ.mp h;obtain⟨r,f,a⟩:=rJ.mp e;injection a with a i;subst a;cases j with
  |zero=>exact⟨u,sz,rfl,d⟩
  |succ j=>
   obtain⟨x,g,b,c⟩:=jys l _ r.1 r.2 f j (by simpa using hj);exact⟨x,g,lY,lJ⟩
theorem zjq:∀{l:List PKind} {s:List UInt8} {k:PKind},kwa l s=some k->∃i:Nat,qh (l.map λq=>q.name.text) s=i/\l[i]?=some k
 |x::l,s,k,h=>by
  rw[kwa]at h;rw[Qh,qh];split at h
  ·rename_i a;injection h with h;subst h;exact⟨0,by rw[if_pos a];rfl,rfl⟩
  ·rename_i a;obtain⟨i,h1,b⟩:=zjq h;exact⟨i+1,by rw[if_neg a,h1,if_neg aj];rfl,lY⟩
theorem pjh (h:Right t){x:Tok}(j:x∈kzl t){l:List UInt8}(f:l∈lits):x.text.toList≠l:=by
 obtain⟨L,d,c⟩:=h.good;obtain⟨g,a⟩:=d.nms.mem x j;obtain⟨i,hi,rfl⟩:=tC g;have e:tk L i=L[i]:=getD_at _ _ _ hi;have ok:=(c.ok i hi).lit l f;rw[e]at ok;intro b;rw[b]at ok;unfold jx1 at ok;rw[rQ]at a;rw[a]at ok;simp at ok
theorem Right.txt (h:Right t):TreeTxt t:=by
 obtain⟨L,c,d⟩:=h.good;have s:=kxl d c;refine⟨λk a=>(s.nm _ (kws a (rV ..))).1,λv b=>⟨c.vars v b,λa=>(s.nm _ (kyx b ?_)).1,λa=>(s.nm _ (kyx b ?_)).1⟩⟩
 ·unfold kxy kwk;rw[a];simp
 ·unfold kxy kwk;rw[a];simp
structure VSame (t:PTree)(v:PVar)(u:MVar)(T:VT):Prop where
 top2:T.fam=2->∀x:Int,kxo v x=(decide (x<0)||decide ((u.texts.length:Int)<=x))
 topN:T.fam≠2->∀x:Int,kxo v x=false
 over:qzk v=!(u.over==-1)
 one:(u.over==-1)=true->u.count=1
 cnt:qjk t v u.count
 uniq:∀n,qjk t v n->n=u.count
 zero:zjs t v=0-shT T
 txt:∀n:Nat,n<u.texts.length->zzh t v ((n:Int)-shT T)=u.texts[n]?
theorem jjy {m: Nat}(h:n<m):(kwn m)[n]?=some (kw9 n):=by simp[kwn,h]
theorem vxy (h:Right t){v:PVar}(F:v∈t.vars){u:MVar}{sz:Nat}(E:zwm t.sets t.kinds sz (yu v)=some u):VSame t v u (kjv (qp (zh t)) (yu v).si):=by
 obtain⟨L,Q,V⟩:=h.good;have R:=kxl V Q;obtain⟨H,S⟩:=Q.vars v F;obtain⟨es,N⟩:=zk1 h.fine h.txt F;have b:kzd (kqf t v)=((kjv (qp (zh t)) (yu v).si).fam==4):=by rw[es,qvu N]
 have P:=zk2 (qp (zh t)) (yu v).si;unfold zwm at E;obtain⟨c,g,E⟩:=wQ.mp E;obtain⟨B,a,rfl⟩:=rJ.mp E;have K:qzk v=!(kyq t.sets v.over.text.toList==-1)/\(qzk v=false->c=1)/\qjk t v c/\∀n,qjk t v n->n=c:=by
  rcases H with e|e
  ·have J:qzk v=false:=by unfold qzk;rw[e,kqw];rfl
   have I:(yu v).arr=false:=by show(!(v.over.kind.toList==[]))=false;rw[e,kqw];rfl
   rw[I,if_neg au]at g;injection g with g;have z:qz1 t.sets v.over.text.toList=none:=by
    cases j:qz1 t.sets v.over.text.toList with
    |none=>rfl
    |some k=>
     have h1:=zqf j;obtain⟨q,Z,D⟩:=qya (f:=λq:PSet=>q.name.text) (l:=t.sets) (s:=v.over.text.toList) aj;have O:=(R.nm _ (jxi Z)).1;rw[e,show zf.text.toList=[] from jv _,bf]at D;have:q.name.text.size=0:=by rw[<-btl,D];rfl
     omega
   unfold qjk kyq;rw[J,z];exact⟨rfl,λ_=>g.symm,by rw[if_neg au];exact g.symm,λn hn=>by rw[if_neg au]at hn;rw[hn,g]⟩
  ·have J:qzk v=true:=e;have I:(yu v).arr=true:=by
    show(!(v.over.kind.toList==[]))=true;rw[rQ]at e;rw[e];rfl
   rw[I,if_pos rfl]at g;have g:qx3 t.sets v.over.text.toList=some c:=g;obtain⟨n,C,D,U,_⟩:=jvi h (h.fine.over v F e);rw[g]at C;injection C with C;subst C;obtain⟨k,_,k1,_⟩:=kwb g;unfold qjk kyq;rw[J,k1];refine⟨?_,λe=>kX,by rw[if_pos rfl];exact D,λn hn=>?_⟩
   ·have:((k:Int)==-1)=false:=by rw[Qw];omega
    show true=!((k:Int)==-1);rw[this];rfl
   ·rw[if_pos rfl]at hn;rw[<-hn.eq,U]
 obtain⟨c1,c2,c3,c4⟩:=K;have T:zjs t v=0-shT (kjv (qp (zh t)) (yu v).si):=by
  unfold zjs shT;rw[b];have:((kjv (qp (zh t)) (yu v).si).fam==5)=false:=by simpa using P
  rw[this,Qk];split<;>rfl
 have p:v.top=zf->∀x:Int,kxo v x=false:=λe x=>by unfold kxo;rw[e,kqw];rfl
 have w:v.type_.text.toList∈lits->qh (pq t) v.type_.text.toList<0:=λY=>(kkm _ _).mpr λx hx=>by
  obtain⟨k,M,rfl⟩:=Qj.mp hx;exact pjh h (kws M (rV ..)) Y
 have A:(kyq t.sets v.over.text.toList==-1)=true->c=1:=λe=>c2 (by rw[c1,e];rfl)
 suffices j:(∀n:Nat,n<B.length->zzh t v ((n:Int)-shT (kjv (qp (zh t)) (yu v).si))=B[n]?)/\((kjv (qp (zh t)) (yu v).si).fam=2->∀x:Int,kxo v x=(decide (x<0)||decide ((B.length:Int)<=x)))/\((kjv (qp (zh t)) (yu v).si).fam≠2->∀x:Int,kxo v x=false) from⟨j.2.1,j.2.2,c1,A,c3,c4,T,j.1⟩
 clear c1 c2 c3 c4 T A g H es N P;rcases S with⟨k1,k2,k3⟩|⟨k1,k2,k3,k4⟩|⟨k1,k3⟩
 ·have e:(yu v).si=⟨0,zf,zf⟩:=by unfold yu;rw[k1,k2];rfl
  have hw:=w (by rw[k2];decide);rw[e]at a b |-;have a:some (kwn 2)=some B:=a;injection a with a;subst a;refine⟨λn hn=>?_,λe=>absurd e (by show ¬(1:Int)=2;decide),λ_=>p k3⟩;rw[kzs]at hn;unfold zzh;rw[b,if_neg aj,show shT (kjv (qp (zh t)) ⟨0,zf,zf⟩)=0 from rfl,Jz,show((kjv (qp (zh t)) ⟨0,zf,zf⟩).fam==4)=false from rfl,Ql,if_neg au,if_pos aj,jjy hn];rfl
 ·have e:(yu v).si=⟨1,v.top,zf⟩:=by unfold yu;rw[k1,k2];rfl
  have hw:=w (by rw[k2];decide);rw[e]at a b |-;have a:(jjl v.top.text).map (λn=>kwn (n+1))=some B:=a;obtain⟨d,d1,rfl⟩:=rJ.mp a;obtain⟨d2,d3⟩:=zjd d1;refine⟨λn hn=>?_,λ_ x=>?_,λe=>absurd rfl e⟩
  ·rw[kzs]at hn;unfold zzh;rw[b,if_neg aj,show shT (kjv (qp (zh t)) ⟨1,v.top,zf⟩)=0 from rfl,Jz,show((kjv (qp (zh t)) ⟨1,v.top,zf⟩).fam==4)=false from rfl,Ql,if_neg au,if_pos aj,jjy hn];rfl
  ·unfold kxo;rw[k4,d2,kzs];have:decide ((d:Int)<x)=decide (((d+1:Nat):Int)<=x):=decide_eq_decide.mpr aj
   rw[this];rfl
 ·have e:(yu v).si=⟨2,zf,v.type_⟩:=by unfold yu;rw[k1];rfl
  rw[e]at a b |-;have W:kjv (qp (zh t)) ⟨2,zf,v.type_⟩=if (zl (qp (zh t)) v.type_.text.toList).role==1 then ⟨4,v.type_.text⟩ else ⟨3,v.type_.text⟩:=rfl
  have X:vjw t.sets t.kinds ⟨2,zf,v.type_⟩=match kwa t.kinds v.type_.text.toList with|some k=>some (k.members.map (·.text))|none=>(qx3 t.sets v.type_.text.toList).map λm=>⟨#[45]⟩::kwn m:=rfl
  rw[W]at b |-;rw[X]at a;have M:(v.type_.kind.toList==og)=true:=by rw[k1];rfl
  by_cases y:qh (pq t) v.type_.text.toList<0
  ·have j:¬qh (dh t) v.type_.text.toList<0:=λj=>h.fine.type_ v F M j y
   rw[(qz4 t _).mpr j,if_pos ak]at b |-;have z:kwa t.kinds v.type_.text.toList=none:=by
    cases j:kwa t.kinds v.type_.text.toList with
    |none=>rfl
    |some k=>
     obtain⟨i,h1,_⟩:=zjq j;have h1:qh (pq t) v.type_.text.toList=i:=h1;omega
   rw[z]at a;obtain⟨m,m1,rfl⟩:=rJ.mp a;obtain⟨_,_,_,_,_,m2⟩:=kwb m1;refine⟨λn hn=>?_,λe=>absurd e (by show ¬(4:Int)=2;decide),λ_=>p k3⟩;rw[Qz,kzs]at hn;unfold zzh;rw[b,if_neg aj,show shT ⟨4,v.type_.text⟩=1 from rfl,show((4:Int)==4)=true from rfl,QC];cases n with
   |zero=>rfl
   |succ n=>
    rw[if_neg (by rw[sQ];omega),if_pos aj,tu,jjy aj,show((n+1:Nat):Int)-1=n by omega];rfl
  ·rw[jq5 h.fine _ y,if_neg ak]at b |-;obtain⟨k,G⟩:=jjb t.kinds v.type_.text.toList (qya y);obtain⟨i,h1,O⟩:=zjq G;have h1:qh (pq t) v.type_.text.toList=i:=h1;rw[G]at a;injection a with a;subst a;refine⟨λn hn=>?_,λe=>absurd e (by show ¬(3:Int)=2;decide),λ_=>p k3⟩;unfold zzh;rw[h1,if_pos aj,show shT ⟨3,v.type_.text⟩=0 from rfl,Jz,if_neg aj,sJ,O,sJ];simp
end Go.Proofs.YtpmcnonmkghokaaGreatDoor
namespace Go.Proofs.YtpmcnonmkghokaaGreatDoor
open Go.Proofs.Tryz
open Go.RowKit
variable {s:ByteArray}{us:List MVar}{ss:List PSet}{a:Mach}{n z:Nat}{r:PRule}{t:PTree}{x:RIn}
variable {t:PTree}
def shV (t:PTree)(k:Nat):Int:=match t.vars[k]? with|some v=>shT (kjv (qp (zh t)) (yu v).si)|none=>0
theorem vqy:∀{l:List PKind} {s:List UInt8},0<=(kqa l s).1->∃k∈l,∃j,∃b:j<k.members.length,k.members[j].text.toList=s/\(kqa l s).2=(j:Int)
 |[],s,h=>by simp[kqa]at h
 |k::l,s,h=>by
  rw[kqa]at h |-;by_cases h1:0<=qh (kqh k) s
  ·rw[if_pos h1];obtain⟨hi,e⟩:=kvd h1;refine⟨k,rV ..,(qh (kqh k) s).toNat,by simpa[kqh] using hi,by simpa[kqh] using e,?_⟩;show qh (kqh k) s=_;omega
  ·rw[if_neg h1]at h |-;by_cases a:(kqa l s).1<0
   ·rw[if_pos a]at h;exact absurd h ak
   ·rw[if_neg a];obtain⟨g,f,j,b,c,d⟩:=vqy (by omega:0<=(kqa l s).1);exact⟨g,rG _ f,j,b,c,d⟩
theorem vyg:∀(l:List PKind) (s:List UInt8),(kqa l s).1<0->(kqa l s).2<0
 |[],s,_=>by simp[kqa]
 |k::l,s,h=>by
  rw[kqa]at h |-;split at h
  ·exact absurd h (by show ¬(0:Int)<0;omega)
  ·rename_i h1;rw[if_neg h1];split at h
   ·rename_i a;rw[if_pos a];decide
   ·rename_i a;exact absurd h (by show ¬((kqa l s).1+1<0);omega)
theorem jya (h:Right t){s:List UInt8}(g:(zl (qp (zh t)) s).role=4):∃hi:(kj1 (kz0 (zh t)) s).num<t.vars.length,qh (zx t) s=(kj1 (kz0 (zh t)) s).num/\(zl (qp (zh t)) s).var=yu t.vars[(kj1 (kz0 (zh t)) s).num]:=by
 obtain⟨j,k⟩:=qku h.fine s;have b:=j.mp g;obtain⟨hi,ev⟩:=k b;obtain⟨l,e⟩:=kvd b;have a:(t.vars[(qh (zx t) s).toNat]).name.text.toList=s:=by
  have:(zx t)[(qh (zx t) s).toNat]=(t.vars[(qh (zx t) s).toNat]).name.text:=by simp[zx]
  rw[<-this];exact e
 have hn:qh (zx t) s=((qh (zx t) s).toNat:Nat):=aj;generalize (qh (zx t) s).toNat=i at hi ev a hn;have f:i<(t.vars.map yu).length:=iq;have c:((t.vars.map yu)[i].name,(⟨true,0+i⟩:Mean))∈qj8 (zh t):=rZ _ (zqm (t.vars.map yu) 0 i f);have d:=qvk h.fine c;have en:(t.vars.map yu)[i].name.text.toList=s:=by rw[Jd];exact a
 simp only[en,QU]at d;rw[d];exact⟨hi,hn,ev⟩
theorem pjg (h:Right t):RSame t (qp (zh t)) (kz0 (zh t)) (shV t):=by
 refine⟨λs c=>?_,λs c=>?_⟩
 ·obtain⟨k,g,j,f,a,b⟩:=vqy ((zv2 h.fine s).1.mp c);have d:(k.members[j],(⟨false,0+j⟩:Mean))∈qj8 (zh t):=wG _ (su.mpr ⟨k,g,jjg k.members 0 j f⟩);have e:=qvk h.fine d;simp only[a,QU]at e;rw[e,b]
 ·obtain⟨hi,a,b⟩:=jya h c;refine⟨vyg _ _ ?_,a,?_⟩
  ·apply tK;intro i;have:=(zv2 h.fine s).1.mpr aj;omega
  ·unfold shV;rw[tY hi,b]
theorem jyf (h:Right t)   (c:vmk t.sets t.kinds (t.vars.map yu) 0=some (us,z)){k:Nat}(b:k<t.vars.length):∃u,us[k]?=some u/\VSame t t.vars[k] u (kjv (qp (zh t)) (yu t.vars[k]).si):=by
 obtain⟨u,sz,h1,a⟩:=jys _ _ _ _ c k lY;rw[Jd]at a;exact⟨u,h1,vxy h (wX b) a⟩
theorem pzm (h:Right t)   (d:vmk t.sets t.kinds (t.vars.map yu) 0=some (us,z)):vww t (qp (zh t)) us (kz0 (zh t)):=by
 intro s c;obtain⟨hi,_,b⟩:=jya h c;obtain⟨u,e,a⟩:=jyf h d hi;rw[b];exact⟨_,u,tY hi,e,a.top2,a.topN⟩
theorem pzb (h:Right t)   (j:vmk t.sets t.kinds (t.vars.map yu) 0=some (us,z))(e:VsOk (zh t) (t.vars.map yu) 0 us z):px4 t us (shV t):=by
 refine⟨by rw[e.len,Qe],λk u pv i f=>?_⟩;obtain⟨d,rfl⟩:=tZ.mp f;obtain⟨p,a,c⟩:=jyf h j d;obtain⟨q,b,g⟩:=e.at_ k ni;rw[i]at a b;injection a with a;injection b with b;subst a;subst b;have m:=g.top;refine⟨c.over,c.one,aj,λx l=>(g.txt x l).1,λn hn=>?_⟩;unfold shV;rw[f];exact c.txt n hn
theorem jza:∀l:List PVar,(∀v∈l,∃n,qjk t v n)->∃S,kw4 t l S
 |[],_=>⟨[],rfl⟩
 |v::l,h=>by
  obtain⟨n,hn⟩:=h v (rV ..);obtain⟨S,a⟩:=jza l (λx b=>h x (rG _ b));exact⟨_,n,S,hn,rfl,a⟩
theorem vwe (h:Right t)   (g:vmk t.sets t.kinds (t.vars.map yu) 0=some (us,z))(e:VsOk (zh t) (t.vars.map yu) 0 us z):∃S,kw4 t t.vars S/\RSt us (shV t) S (List.replicate z 0):=by
 obtain⟨S,d⟩:=jza (t:=t) t.vars λv i=>by
  obtain⟨k,a,rfl⟩:=tC i;obtain⟨u,_,c⟩:=jyf h g a;exact⟨_,c.cnt⟩
 refine⟨S,d,by rw[d.len,e.len,Qe],λk u f=>?_⟩;have a:k<t.vars.length:=by
  have h1:=(tZ.mp f).1;have l:=e.len;rw[Qe]at l;omega
 obtain⟨s,b,c⟩:=jyf h g a;rw[f]at b;injection b with b;subst b;obtain⟨n,n1,p⟩:=d.get k a;have:=c.uniq n n1;subst this;have q:=e.fit u (Qp f);refine⟨_,p,Jb,λj m=>⟨0,by rw[Zy,if_pos aj],?_⟩⟩;rw[Zy,if_pos m,c.zero];unfold shV;rw[tY a]
theorem pju (h:(qxy s).1=0):RefOk (yx (jo s).1).1:=by
 unfold qxy at h;split at h
 ·cases h
 ·split at h
  ·cases h
  ·rename_i b;split at h
   ·cases h
   ·rename_i a;exact vkw (qqz s aj b) a
theorem pzh (h:Right t)(a:RefOk t):PlOk t:=by
 obtain⟨L,g,f⟩:=h.good;have d:=kxl f g;refine⟨a.ok,a.fit,a.tops,a.rules,a.nevers,λr b=>⟨h.bnd.pars r b,λp i=>?_,(d.nm _ (kzn b (rV ..))).2⟩,λx j=>?_⟩
 ·obtain⟨n,_,e,_⟩:=jvi h (h.fine.psets r b p i);exact⟨n,e⟩
 ·obtain⟨_,s,c⟩:=vqt h j;obtain⟨k,_,_,_,l⟩:=a.pars _ c;obtain⟨m,_,q,_⟩:=a.gd _ c;exact⟨q,l,m,k,aj⟩
theorem vyd (d:Right (yx (jo s).1).1)  (c:jq3 s=some a):∃us z,vmk (yx (jo s).1).1.sets (yx (jo s).1).1.kinds ((yx (jo s).1).1.vars.map yu) 0=some (us,z)/\VsOk (zh (yx (jo s).1).1) ((yx (jo s).1).1.vars.map yu) 0 us z/\a.vars=us/\a.size=z/\a.tab=kz0 (zh (yx (jo s).1).1)/\a.steps=(kj3 (yx (jo s).1).1 (yx (jo s).1).1.rules).map zzl/\a.nevers=(kj3 (yx (jo s).1).1 (yx (jo s).1).1.nevers).map vyw:=by
 unfold jq3 at c;generalize (yx (jo s).1).1=t at d c;obtain⟨L,l,k⟩:=d.good;have m:=kxl k l;obtain⟨us,z,i,j⟩:=jvd d t.vars (λ_ p=>p) 0;have q:(t.vars.map yu).length<=4:=d.bnd.vars;have u:z<=12:=by have:=j.top;omega
 obtain⟨h,k1,k2⟩:=pqu d m i aj;refine⟨us,z,i,j,?_⟩;split at c
 ·obtain⟨b,hb,c⟩:=wQ.mp c;split at c
  ·injection c with c;subst c;unfold vz4 at hb;have k1:qjc (zh t).kinds []=some h:=k1;have k2:qjn (zh t).sets (zh t).kinds (zh t).vars 0 h [] 0=some (kz0 (zh t),us,z):=k2;rw[k1]at hb;simp only[rC]at hb;rw[k2]at hb;simp only[rC]at hb;obtain⟨S,s1,hb⟩:=wQ.mp hb;obtain⟨N,n1,hb⟩:=rJ.mp hb;have f:=jzo (t:=t) _ _ _ (λr e=>vvw d (wG _ e)) s1;have g:=zyh (t:=t) _ _ _ (λr e=>vvw d (rZ _ e)) n1;rw[Qc]at f g;subst hb;exact⟨rfl,rfl,rfl,f,g⟩
  ·cases c
 ·cases c
theorem vjl {ts:List ByteArray}{r:zzi}(b:zyk s ts=some r):vj2 s ts r:=by
 unfold zyk at b;unfold vj2;rw[<-vvf];split at b
 ·rename_i c;have c:(qxy s).1=0:=lJ;obtain⟨a,m,b⟩:=wQ.mp b;have d:=jxk c;obtain⟨a',e,p⟩:=vqg c;rw[m]at e;injection e with e;subst e;unfold jzv at b;split at b
  ·rename_i hb;injection b with b;exact Or.inr (Or.inl ⟨c,hb,b.symm⟩)
  ·rename_i hb;split at b
   ·obtain⟨us,z,h,t,i,C,u,v,D⟩:=vyd d m;obtain⟨S,A,q⟩:=vwe d h t;have f:=p.good;refine Or.inr (Or.inr ⟨c,hb,pzh d (pju c),S,A,?_⟩);have y:Both (yx (jo s).1).1 (qp (zh (yx (jo s).1).1)) a.vars a.tab (ksz (zh (yx (jo s).1).1)) (ssz (zh (yx (jo s).1).1)) a.size (shV (yx (jo s).1).1):=⟨f.env,f.disj,by rw[u];exact pjg d,by rw[i,u];exact pzm d h⟩;refine jq8 y v D ?_ (λx B=>(vqt d B).1) (λst S h1 j E k=>?_) ts 0 _ S r p.first (by rw[i,C];exact q) b
    ·have:=f.nodup;rw[v,Q7]at this;exact this
    ·unfold zxe at k;obtain⟨l,w,g⟩:=wQ.mp k;split at g
     ·cases g
     ·injection g with g;subst g;rw[j.1];exact(zy2 h1 j (by rw[i];exact pzb d h t) f.few _ l (wJ _) w).1
   ·cases b
 ·rename_i c;injection b with b;exact Or.inl ⟨lJ,b.symm⟩
theorem zwr {tab:Tab}{g sz:List UInt8->Nat}{a:Mach}(h:MachGood tab g sz a):∀(ts:List ByteArray) (i:Nat) (st:List Int),kz2 a.vars a.size st->∃r,zzm a ts i st=some r
 |[],i,st,hs=>by
  have:=hs.len;have f:=h.env.size;obtain⟨v,l,_⟩:=look_ok h hs;rw[zzm,if_pos aj,l];exact⟨_,rfl⟩
 |t::ts,i,st,hs=>by
  have:=hs.len;have f:=h.env.size;rw[zzm,if_pos aj];by_cases c:∃x∈a.steps,x.text.toList=t.toList
  ·obtain⟨x,b,e⟩:=c;obtain⟨r,j,_,k⟩:=vw2 h hs a.steps (λ_ d=>d) h.nodup x b;rw[<-e,j];simp only[rC];cases hb:r.2
   ·exact⟨_,rfl⟩
   ·rw[if_pos rfl];exact zwr h ts (i+1) r.1 (k hb)
  ·rw[vw1 a.steps λx b e=>c ⟨x,b,e⟩];exact⟨_,rfl⟩
theorem jw9 (s:ByteArray)(ts:List ByteArray):∃r,zyk s ts=some r:=by
 unfold zyk;split
 ·rename_i d;obtain⟨a,c,b⟩:=vqg (s:=s) ni;have e:=b.good.env.size;rw[c];simp only[rC];unfold jzv;split
  ·exact⟨_,rfl⟩
  ·rw[if_pos aj];exact zwr b.good ts 0 _ b.first
 ·exact⟨_,rfl⟩
end Go.Proofs.YtpmcnonmkghokaaGreatDoor
namespace Go.Proofs.YtpmcnonmkghokaaGreatDoor
open Go.Proofs.Tryz
open Go.RowKit
attribute [local go_sem ↓] Go.wp_at_zero Go.wp_at_succ
variable {s:ByteArray}{us:List MVar}{ss:List PSet}{a:Mach}{n z:Nat}{r:PRule}{t:PTree}{x:RIn}
theorem jxn (n:Int)(w:World):qJ 14 #[.int .i64 n] w λe w'=>e=.returned (.int .i64 n)/\w'=w:=by
 go_enter func14,ntmps14
 go_wp2
 go_ret
 exact⟨rfl,rfl⟩
theorem zkm {w:World}{lo:Nat}{v:Value}  {xs:List Value}(h:w.ownsRow lo 9 1 v n xs):n<=maxLen:=by
 rcases h.2 with⟨_,rfl⟩|⟨_,_,_,_,_,_,h1,a,_⟩
 ·exact rW _
 ·omega
theorem zk4 (w:World)(ts:List ByteArray)(d f:Option Addr)(m p:Nat)(h:kww w d ts)(hb:kww w f ts)(y:ts.length<=9223372036854775807):
  qJ 38 #[.slice d ts.length m,.slice f ts.length p] w λe w'=>e=.returned (.bool true)/\pU w w':=by
 have j:=pG h;have l:=pG hb;clear h hb;go_enter func38,ntmps38
 go_wp2_with fail
 go_loopw [4,5] (λ_ i wr=>pU w wr/\∃k:Nat,k<=ts.length/\i=.int .i64 k) (λ_ i _=>ts.length-(intOf i).toNat)
 case atStart=>exact⟨Below.refl _ _,0,rW _,rfl⟩
 case round=>
  obtain⟨a,k,v,rfl⟩:=hrel;have c:=pG a;by_cases b:k<ts.length
  ·obtain⟨g,o,rfl,h1,s⟩:=(ku j).below a (wJ _) k b;obtain⟨q,z,rfl,t,u⟩:=(ku l).below a (wJ _) k b;clear a;generalize ts[k]=x at *;go_wp2_with fail
   go_region
   go_wp2
   go_roundw
   case rel=>exact⟨(ku c).drew,k+1,aj,eu⟩
   case measure=>exact qQ
  ·go_wp2
   go_ret
   exact⟨rfl,ku c⟩
theorem vj8 (w:World)(T:ByteArray)(d:Bool)(c f g:List ByteArray)(l m p b1 s t:Option Addr)(c1 c2 c3 u v x:Nat)(R:kww w l c)(S:kww w m f)(U:kww w p g)(V:kww w b1 c)(X:kww w s f)(Y:kww w t g)(h1:c.length<=9223372036854775807)(h2:f.length<=9223372036854775807)(h3:g.length<=9223372036854775807):
  qJ 13 #[.agg #[.string T,.slice l c.length c1,.slice m f.length c2,.slice p g.length c3,.bool d],.agg #[.string T,.slice b1 c.length u,.slice s f.length v,.slice t g.length x,.bool d]] w λe w'=>e=.returned (.bool true)/\pU w w':=by
 have Z:=pG (λ(wx:World) (j:pU w wx)=>zk4 wx c l b1 c1 u (R.below j (wJ _)) (V.below j (wJ _)) h1);have H2:=pG (λ(wx:World) (j:pU w wx)=>zk4 wx f m s c2 v (S.below j (wJ _)) (X.below j (wJ _)) h2);have H3:=pG (λ(wx:World) (j:pU w wx)=>zk4 wx g p t c3 x (U.below j (wJ _)) (Y.below j (wJ _)) h3);obtain⟨W,q⟩:∃W,W=(w.alloc (.cells #[.string T,.slice l c.length c1,.slice m f.length c2,.slice p g.length c3,.bool d] 24)).alloc (.cells #[.string T,.slice b1 c.length u,.slice s f.length v,.slice t g.length x,.bool d] 24):=⟨_,rfl⟩;have J:pU w W:=by rw[q];exact kzw w _ _
 have a5:W.heap.size=w.heap.size+2:=by rw[q];simp
 have O:W.heap[w.heap.size]?=some (.cells #[.string T,.slice l c.length c1,.slice m f.length c2,.slice p g.length c3,.bool d] 24 (0,0)):=by rw[q];exact zy (qg _ _)
 have P:W.heap[w.heap.size+1]?=some (.cells #[.string T,.slice b1 c.length u,.slice s f.length v,.slice t g.length x,.bool d] 24 (0,0)):=by rw[q,show w.heap.size+1=(w.alloc (.cells #[.string T,.slice l c.length c1,.slice m f.length c2,.slice p g.length c3,.bool d] 24)).heap.size by simp];exact qg _ _
 have K:=pG O;have L:=pG P;have k:=pG J;have N:=pG q.symm;clear R S U V X Y O P J q;have h:w.heap.size<W.heap.size/\w.heap.size+1<W.heap.size:=aj;go_enter func13,ntmps13
 go_wp2_with fail
 rw[ku N];refine((ku Z) W (ku k)).mono ?_;rintro e w1 ⟨rfl,i⟩;have Q:=i.size;have H:=pG i;obtain⟨y,z,A,B,C,_,_,_,_,_⟩:=jl ((i.block _ h.1).trans (ku K));obtain⟨t0,D,E,F,G,_,_,_,_,_⟩:=jl ((i.block _ h.2).trans (ku L));clear i;go_wp2_with fail
 refine((ku H2) w1 ((ku k).trans ((ku H).mono aj))).mono ?_;rintro e w2 ⟨rfl,a⟩;have a0:=a.size;have a:=(ku H).trans (a.mono Q);have I:=pG a;clear y z A B C t0 D E F G;obtain⟨y,z,A,B,C,_,_,_,_,_⟩:=jl ((a.block _ h.1).trans (ku K));obtain⟨t0,D,E,F,G,_,_,_,_,_⟩:=jl ((a.block _ h.2).trans (ku L));clear a;go_wp2_with fail
 refine((ku H3) w2 ((ku k).trans ((ku I).mono aj))).mono ?_;rintro e w3 ⟨rfl,b⟩;have a4:=b.size;have b:=(ku I).trans (b.mono aj);have M:=pG ((ku k).trans (b.mono aj));clear y z A B C t0 D E F G;obtain⟨y,z,A,B,C,_,_,_,_,_⟩:=jl ((b.block _ h.1).trans (ku K));obtain⟨t0,D,E,F,G,_,_,_,_,_⟩:=jl ((b.block _ h.2).trans (ku L));clear b;go_wp2
 go_ret
 exact⟨au,ku M⟩
theorem vjn (w:World)(s:ByteArray)(ts:List ByteArray)(pa:Option Addr)(pn pc:Nat)(hn:ts.length=pn)(J:kww w pa ts):
  qJ 3 #[.string s,.slice pa pn pc] w λe w'=>e=.returned (.bool true)/\pU w w':=by
 obtain⟨r,K⟩:=jw9 s ts;have U:=pG (λ(wx:World) (L:pU w wx)=>vkr s wx ts pa pn pc hn (J.below L (wJ _)) r K);have S:=pG (λ(wx:World) (L:pU w wx)=>vzu s wx ts pa pn pc hn (J.below L (wJ _)) r (vjl K));clear K J hn;obtain⟨⟨T,v,z,A⟩,d,x,y⟩:=r;go_enter func3,ntmps3
 go_wp2_with fail
 refine((ku U) w (Below.refl _ _)).mono ?_;rintro e h ⟨H,en,I,wa,wn,M,ba,bn,bc,rfl,b,c,f,t⟩;obtain⟨rfl,i⟩:=qzx b;obtain⟨rfl,j⟩:=qzx c;obtain⟨rfl,k⟩:=qzx f;have m1:=zkm b;have m2:=zkm c;have m3:=zkm f;dsimp only at i j k m1 m2 m3 |-;have F:=t.size;have P:=pG i;have Q:=pG j;have R:=pG k;have B:=pG t;clear b c f i j k t;obtain⟨W,q⟩:∃W,W=h.alloc (.cells #[.string T,.slice H v.length I,.slice wa z.length M,.slice ba A.length bc,.bool d] 24):=⟨_,rfl⟩;have E:pU h W:=by rw[q];exact below_alloc1 _ _
 have a1:h.heap.size<W.heap.size:=by rw[q];simp
 have HA:=pG (show W.heap[h.heap.size]?=some (.cells #[.string T,.slice H v.length I,.slice wa z.length M,.slice ba A.length bc,.bool d] 24 (0,0)) by rw[q];exact qg _ _);have C:=pG E;have X:=pG q.symm;clear E q;go_wp2_with fail
 rw[ku X];refine((ku S) W ((ku B).trans ((ku C).mono F))).mono ?_;rintro e u ⟨fa,fn,fc,va,vn,vc,Y,cn,Z,rfl,b,c,f,m⟩;obtain⟨rfl,i⟩:=qzx b;obtain⟨rfl,j⟩:=qzx c;obtain⟨rfl,k⟩:=qzx f;dsimp only at i j k |-;have a0:=m.size;obtain⟨p,l⟩:∃p,p=u.alloc (.cells #[.string T,.slice fa v.length fc,.slice va z.length vc,.slice Y A.length Z,.bool d] 24):=⟨_,rfl⟩;have a:pU u p:=by rw[l];exact below_alloc1 _ _
 have a2:u.heap.size<p.heap.size:=by rw[l];simp
 have hA:=(m.block _ a1).trans (ku HA);have g:pU h p:=(ku C).trans ((m.trans (a.mono a0)).mono aj);have V:=pG (vj8 p T d v z A H wa ba fa va Y I M bc fc vc Z ((ku P).below g (wJ _)) ((ku Q).below g (wJ _)) ((ku R).below g (wJ _)) (i.below a (wJ _)) (j.below a (wJ _)) (k.below a (wJ _)) (by unfold maxLen at m1;omega) (by unfold maxLen at m2;omega) (by unfold maxLen at m3;omega));have O:=pG ((ku B).trans (g.mono F));obtain⟨r0,r1,r2,r3,r4,_,_,_,_,_⟩:=jl hA;have G:=pG l.symm;have a3:h.heap.size<u.heap.size:=aj;clear b c f i j k m a hA g l;go_wp2_with fail
 rw[ku G];refine(ku V).mono ?_;rintro e w3 ⟨rfl,D⟩;have N:=pG ((ku O).trans (D.mono aj));clear D r0 r1 r2 r3 r4;go_wp2_with fail
 refine(jxn x w3).mono ?_;rintro e w4 ⟨rfl,rfl⟩;go_wp2_with fail
 refine(jxn x w4).mono ?_;rintro e w5 ⟨rfl,rfl⟩;go_wp2
 go_ret
 exact⟨au,ku N⟩
end Go.Proofs.YtpmcnonmkghokaaGreatDoor

import Derived.Test.YtpmcnonmkghokaaGreatDoorT11
import Derived.Test.YtpmcnonmkghokaaGreatDoorT10
import Derived.Test.YtpmcnonmkghokaaGreatDoorT09
import Derived.Test.YtpmcnonmkghokaaGreatDoorT06
import Derived.Laws.CopyOwn
import Derived.Laws.BytesArg
import Derived.Maps.RangeRun
import Derived.Laws.IdiomStrings
set_option maxRecDepth 100000
set_option maxHeartbeats 8000000
set_option linter.unusedVariables false
set_option linter.unusedSimpArgs false
namespace Go.Proofs.YtpmcnonmkghokaaGreatDoor
open Go.Proofs.Tryz Go.RowKit
attribute [local go_sem ↓] Go.wp_at_zero Go.wp_at_succ
variable {es:Array MapEntry}{came:Array Nat}{d9:Array Value}{a8:ByteArray}{f:Fnd}{q:Fnd×List Int}{b7 b9:Int}{R ks ls seen:List (List Int)}{b6:List ByteArray}{cur0 k l st:List Int}{vars:List MVar}{g6:List MapEntry}{L bad p:List Nat}{ways ws:List SWay}{ts:List Turn}{cs vs xs:List Value}{b8:MVar}{b5:MView}{a:Mach}{g4 g7:MapEntry}{B E M O S T at_ b c cc clock e fb g gc i j lc ll lo most n nb r sb sc sn so:Nat}{fr:Nat×Nat}{o:Obj}{la sa:Option Addr}{d8:Option Nat}{s:SSt}{x:SWay}{a5:SnR}{t:Turn}{α β:Type}{sv tv v:Value}{w w':World}{tab:kq3}
section
variable {t:PTree} {a:Mach} {ts:List Turn}
def jxp(t:PTree)(a:Mach)(f:Fnd):Prop:=∀e∈f,yg a.z a.size e.2.U/\kwd t a e.2.U e.1
theorem xzi:(∀e∈f,e∈qzc f k x)/\∃e∈qzc f k x,e.1=k:=by
 unfold qzc;split
 ·simp_all
 simp_all
theorem vxu(h:Sy t a)(e:vq4 t ts)(g:yg a.z a.size x.U)(c:l.length=a.size)(b:qx9 a ts x f l=some q):∃k,kwd t a x.U k/\q.1=qzc f k x/\q.2.length=a.size:=by
 unfold qx9 at b;split at b
 ·obtain⟨r,d,b⟩:=wu.1 b;split at b
  ·injection b with b;subst b;have:=zjn _ _ _ _ _ aj d;exact⟨r.1,xzc h.G h.vt e g c d,rfl,this.2.trans c⟩
  simp_all
 simp_all
theorem xx0(c:jxp t a f)(g:yg a.z a.size x.U)(d:kwd t a x.U k):jxp t a (qzc f k x):=λe b=>by
 obtain b|rfl:=vkx b
 ·exact c e b
 simp_all
theorem zkx(h:Sy t a)(g:vq4 t ts)(d:yg a.z a.size st):∀(l:List MStep),(∀s∈l,s∈a.X)->∀(f:Fnd)(c:List Int)(q:Fnd×List Int×Bool),jxp t a f->c.length=a.size->kzc a ts most at_ st l f c=some q->jxp t a q.1/\q.2.1.length=a.size/\(∀e∈f,e∈q.1)/\(q.2.2=false->∀s∈l,∀z,zkd a st s=some (z,1)->∃e∈q.1,kwd t a z e.1)
 |[],_,f,c,q,hf,hc,b=>by
  grind [kzc]
 |s::l,hl,f,c,q,hf,hc,b=>by
  have i:∀s∈l,s∈a.X:=λs d=>hl s<|jS d
  obtain⟨r,v,_,m⟩:=out_ok h.G.B.M d<|hl s (rZ ..);rw[kzc,show kwi a.z a.C s.u s.xy st s.guard s.block=some r from v]at b;simp only[rQ]at b;by_cases e:r.2=1
  ·rw[lJ (by simp_all)]at b;obtain⟨p,u,b⟩:=wu.1 b;obtain⟨k,k1,k2,k3⟩:=vxu h g (x:=⟨r.1,at_,s.x⟩) (m e) hc u;have j:jxp t a p.1:=by rw[k2];exact xx0 hf (m e) k1
   obtain⟨a1,w,a2,a3⟩:=xzi (f:=f) (k:=k) (x:=⟨r.1,at_,s.x⟩);rw[<-k2]at a1 a2;split at b
   ·grind
   ·obtain⟨i1,i2,i3,i4⟩:=zkx h g d l i _ _ q j k3 b;grind
  ·rw[Xy (by simp_all)]at b;obtain⟨i1,i2,i3,i4⟩:=zkx h g d l i _ _ q hf hc b;grind
theorem zjv(h:Sy t a)(g:vq4 t ts):∀(l:List SWay)(at_:Nat),(∀x∈l,yg a.z a.size x.U)->∀(f:Fnd)(c:List Int)(q:Fnd×List Int),jxp t a f->c.length=a.size->kjh a ts most l at_ f c=some q->jxp t a q.1/\(∀e∈f,e∈q.1)/\(q.1.length<=most->∀x∈l,∀z,Suc a x.U z->∃e∈q.1,kwd t a z e.1)
 |[],_,_,f,c,q,hf,hc,b=>by
  grind [kjh]
 |x::l,at_,hl,f,c,q,hf,hc,b=>by
  rw[kjh]at b;split at b
  ·obtain⟨p,i,b⟩:=wu.1 b;obtain⟨s1,u,s3,A⟩:=zkx h g (hl x<|rZ ..) a.X (λ_ j=>j) f c p hf hc i;obtain⟨_,_,v⟩:=kwq _ _ _ _ i;split at b
   ·grind
   ·rename_i hb;obtain⟨i1,i2,i3⟩:=zjv h g l _ (λy d=>hl y<|jS d) _ _ q s1 u b;refine⟨i1,λe k=>i2 e<|s3 e k,λw y d z m=>?_⟩;obtain rfl|d:=tZ.1 d
    ·obtain⟨s,j,e⟩:=m;grind
    grind
  simp_all
theorem vzm:∀(f:Fnd)(k:List Int),k∈f.map (·.1)->∃y∈f,y.1=k/\kv4 f k=y.2
 |[],k,h=>ig
 |y::l,k,h=>by
  rw[kv4];by_cases e:(y.1==k)=true
  ·simp_all
  ·rw[Xy e];rw[Qm]at h;obtain rfl|h:=tZ.1 h
   ·simp_all
   ·obtain⟨z,a,b⟩:=vzm l k h;grind
structure PI (t:PTree)(a:Mach)(r:Nat)(s:SSt):Prop where
 pinv:PInv a s
 fkey:jxp t a s.P
 key:∀(i:Nat)(x:SWay),s.m[i]?=some x->∃k,s.Z[i]?=some k/\kwd t a x.U k
 nd:s.Z.Nodup
 rch:∀x∈(jd s).m,Rch a r x.U
 old:∀x∈s.m,∃q,r=q+1/\Rch a q x.U
 cov:∀y,Rch a r y->∃x∈(jd s).m,Alk t a x.U y
 dep:∃D:Nat->Nat,D 0=0/\(∀(k:Nat)(x:SWay),(jd s).m[k+1]?=some x->D x.J<D (k+1))/\∀k,k<(jd s).m.length->D k<=r
theorem jjb(e:jxp t a s.P)(g:∀(i:Nat)(x:SWay),s.m[i]?=some x->∃k,s.Z[i]?=some k/\kwd t a x.U k)(f:s.m.length=s.Z.length):∀(i:Nat)(x:SWay),(jd s).m[i]?=some x->∃k,(jd s).Z[i]?=some k/\kwd t a x.U k:=λi x b=>by
 have c:(jd s).m=s.m++(kv5<|newF s.Z s.P).map (kv4<|newF s.Z s.P):=rfl;have d:(jd s).Z=s.Z++kv5 (newF s.Z s.P):=rfl;rw[c]at b;rw[d];by_cases hi:i<s.m.length
 ·grind
 ·rw[Ji aj]at b;rw[Ji aj,<-f];rw[QV]at b;obtain⟨k,k1,rfl⟩:=wX.1 b;obtain⟨y,y1,y2,y3⟩:=vzm _ _<|(kz7 _).mem_iff.1 (wB k1);refine⟨k,k1,?_⟩;rw[y3,<-y2];exact(e y (Ju.1 y1).1).2
theorem pqo(hn:s.Z.Nodup)(b:kwc s.P):(jd s).Z.Nodup:=by show(s.Z++kv5 (newF s.Z s.P)).Nodup;rw[Jw];refine⟨hn,(kz7 _).nodup_iff.2<|(JM.map _).nodup b,λk c k' a e=>?_⟩;subst e;obtain⟨y,y1,rfl⟩:=tY.1<|(kz7 _).mem_iff.1 a;have:=(Ju.1 y1).2;grind
theorem pyy(h:Sy t a)(p:∀(i:Nat)(x:SWay),s.m[i]?=some x->∃k,s.Z[i]?=some k/\kwd t a x.U k)(e:s.m.length=s.Z.length)(m:jxp t a s.P){a0:List Int×SWay}(j:a0∈s.P)(u:yg a.z a.size l)(g:kwd t a l a0.1):∃x∈(jd s).m,Alk t a x.U l:=by
 have c:=jjb m p e;have d:a0.1∈(jd s).Z:=by
  show a0.1∈s.Z++kv5 (newF s.Z s.P);by_cases v:a0.1∈s.Z
  ·simp_all
  ·refine jN ((kz7 _).mem_iff.2<|tY.2 ⟨a0,Ju.2 ⟨j,?_⟩,rfl⟩);grind
 obtain⟨i,hi,f⟩:=wG d;have q:(jd s).m.length=(jd s).Z.length:=by rw[kyo,zkf,e]
 have b:i<(jd s).m.length:=aj;obtain⟨k,k1,k2⟩:=c i _<|wW b;rw[wW hi,f]at k1;injection k1 with k1;subst k1;exact⟨_,wZ b,kwd.alike' h.G u k2 g⟩
theorem PI.Y(h:Sy t a)(N:vq4 t ts)(b:PI t a r s)(R:∀y∈(jd s).m.drop s.m.length,Calm a y)(L:kjh a ts most ((jd s).m.drop s.m.length) s.m.length [] (jd s).cur=some q)(f:FOk a (jd s).m q.1)(v:ky5 a q.2)(B:q.1.length<=most):PI t a (r+1) ⟨(jd s).m,(jd s).Z,q.1,q.2⟩:=by
 have g:=jjb b.fkey b.key b.pinv.inv.T;have A:(jd s).m.length=(jd s).Z.length:=by rw[kyo,zkf,b.pinv.inv.T]
 obtain⟨k1,_,k3⟩:=zjv h N ((jd s).m.drop s.m.length) _ (λx c=>b.pinv.m.ok x<|Je c) [] _ q (λe d=>by cases d) b.pinv.cur.1 L;have K:=(kkh _ _ _ _ _ L).2 lq;have J:∀e∈q.1,e.2.J<(jd s).m.length:=λe d=>by obtain⟨_,y,y1,_⟩:=f e d;grind
 have T:∀e∈q.1,Rch a (r+1) e.2.U:=λe d=>by obtain⟨_,y,y1,s',s1,_,s3⟩:=f e d;exact .inr ⟨_,b.rch y<|wB y1,s',s1,s3⟩
 have j:∀(i:Nat)(x:SWay),(jd ⟨(jd s).m,(jd s).Z,q.1,q.2⟩).m[i]?=some x->(i<(jd s).m.length/\(jd s).m[i]?=some x)\/((jd s).m.length<=i/\∃e∈q.1,x=e.2):=λi x c=>by
  by_cases hi:i<(jd s).m.length
  ·grind [jd]
  grind [vx5]
 refine⟨keep_next b.pinv K f v R J,k1,g,pqo b.nd b.pinv.inv.nd,λx c=>?_,λx c=>⟨r,rfl,b.rch x c⟩,λy E=>?_,?_⟩
 ·obtain⟨i,hi,rfl⟩:=wG c;obtain⟨_,e⟩|⟨_,e,d,G⟩:=j i _ (wW hi)
  ·exact .inl (b.rch _<|wB e)
  grind
 ·have u:∀z,(∃x∈(jd s).m,Alk t a x.U z)->∃x∈(jd ⟨(jd s).m,(jd s).Z,q.1,q.2⟩).m,Alk t a x.U z:=λz ⟨x,c,hA⟩=>⟨x,jT c,hA⟩
  obtain E|⟨y0,H,I⟩:=E
  ·exact u _ (b.cov y E)
  ·obtain⟨p,P,V⟩:=b.cov y0 H;have l:=b.pinv.m.ok p P;have m:=jwr h _ _ H;obtain⟨w,F,W⟩:=pz5 h m l (V.symm h.G l) I;have U:=vki h l F;have O:=vki h m I;have fin:(∃x∈(jd ⟨(jd s).m,(jd s).Z,q.1,q.2⟩).m,Alk t a x.U w)->∃x∈(jd ⟨(jd s).m,(jd s).Z,q.1,q.2⟩).m,Alk t a x.U y:=λ⟨x,c,hA⟩=>⟨x,c,hA.trans h.G<|W.symm h.G O⟩
   obtain⟨i,hi,rfl⟩:=wG P;by_cases X:i<s.m.length
   ·have B:(jd s).m[i]∈s.m:=by grind [jd]
    obtain⟨r',e,M⟩:=b.old _ B;exact fin (u _<|b.cov w (by rw[e];exact .inr ⟨_,M,F⟩))
   ·have S:(jd s).m[i]∈(jd s).m.drop s.m.length:=by refine wB (i:=i-s.m.length) ?_;simp_all
    obtain⟨e,Q,G⟩:=k3 B _ S w F;exact fin<|pyy h (s:=⟨(jd s).m,(jd s).Z,q.1,q.2⟩) g A k1 Q U G
 ·obtain⟨D,d0,d1,d2⟩:=b.dep;have C:0<(jd s).m.length:=by obtain⟨x,x1,_⟩:=b.pinv.m.f;grind
  refine⟨λk=>if k<(jd s).m.length then D k else r+1,(lJ C).trans d0,λk x c=>?_,λk _=>?_⟩<;>dsimp only
  ·obtain⟨hi,e⟩|⟨hi,e,d,rfl⟩:=j _ _ c
   ·have hb:=(b.pinv.m.by_ k x e).1;grind
   grind
  grind
theorem pv5{a4:Nat->Nat}(b:∀(k:Nat)(x:SWay),ways[k+1]?=some x->a4 x.J<a4 (k+1)):∀(n k:Nat)(acc q:List ByteArray),zk7 ways n k acc=some q->q.length<=acc.length+a4 k
 |n,0,acc,q,a=>by
  grind [zk7]
 |0,k+1,acc,q,a=>by rw[zk7]at a;cases a
 |n+1,k+1,acc,q,a=>by
  rw[zk7]at a;obtain⟨x,c,a⟩:=wu.1 a;split at a
  ·have:=pv5 b n x.J _ q a;grind
  simp_all
end
variable {es:Array MapEntry}{came:Array Nat}{d9:Array Value}{a8:ByteArray}{f:Fnd}{q:Fnd×List Int}{b7 b9:Int}{R ks ls seen:List (List Int)}{b6:List ByteArray}{cur0 k l st:List Int}{vars:List MVar}{g6:List MapEntry}{L bad p:List Nat}{ways ws:List SWay}{ts:List Turn}{cs vs xs:List Value}{b8:MVar}{b5:MView}{a:Mach}{g4 g7:MapEntry}{B E M O S T at_ b c cc clock e fb g gc i j lc ll lo most n nb r sb sc sn so:Nat}{fr:Nat×Nat}{o:Obj}{la sa:Option Addr}{d8:Option Nat}{s:SSt}{x:SWay}{a5:SnR}{t:Turn}{α β:Type}{sv tv v:Value}{w w':World}{tab:kq3}
section
variable {t:PTree} {a:Mach} {ts:List Turn}
structure Fit (rep:SRep)(res:Int×Bool×Nat×Nat):Prop where
 err:res.1=rep.err
 s:rep.err≠0->res=(rep.err,false,0,0)/\rep=qq3 rep.err
 ok:rep.err=0->rep.xr=res.2.2.2/\(res.2.1=false↔rep.end_=0)/\(rep.end_=0->rep.xq=[])/\(rep.end_≠0->rep.xq.length=res.2.2.1)
structure RIn2 (t:PTree)(a:Mach)(r:Nat)(R:List (List Int))(f:Nat)(x:SnR):Prop where
 mir:Mir t a R x
 mem:∀y,y∈R↔Rch a r y
 D:f<=R.length
 old:∀y∈R.take f,∃q,r=q+1/\Rch a q y
 calm:∀q,q<r->∀y,Rch a q y->qxx a y
def Pair(t:PTree)(a:Mach)(ws:List SWay)(obs:List ByteArray)(i j:Nat):Prop:=∃x k,ws[i]?=some x/\obs[j]?=some k/\zz6 t a x.U k
theorem pqd{l:List α}(h:l.Nodup){x:α}(h1:l[i]?=some x)(a:l[j]?=some x):i=j:=by obtain⟨i1,b⟩:=rY.1 h1;obtain⟨e,c⟩:=rY.1 a;have d:=sQ.1 h;grind
theorem pwl(h:Sy t a)(hM:Mir t a R a5)(d:∀w∈ws,yg a.z a.size w.U)(f:∀y∈R,∃w∈ws,Alk t a w.U y):a5.L.length<=ws.length:=by
 refine vvw (Rl:=λj i=>Pair t a ws a5.L i j) (λj g=>?_)<|λj x i g v h1 s=>?_
 ·obtain⟨y,l,u⟩:=hM.ob2 _<|wZ g;obtain⟨w,b,hA⟩:=f y l;obtain⟨i,hi,rfl⟩:=wG b;exact⟨i,hi,_,_,wW hi,wW g,u.B h (hM.ok y l)<|hA.symm h.G (d _ b)⟩
 ·obtain⟨w,k,m,k1,p⟩:=h1;obtain⟨w',k',c,k2,q⟩:=s;rw[m]at c;injection c with c;subst c;have b:=d w<|wB m;have e:=zz6.eq h b (Alk.refl h.G b) p q;subst e;exact pqd hM.nd k1 k2
theorem vym(h:Sy t a)(hM:Mir t a R a5)(b:∀w∈ws,w.U∈R)(c:∀(i j:Nat)(w w':SWay),ws[i]?=some w->ws[j]?=some w'->Alk t a w.U w'.U->i=j):ws.length<=a5.L.length:=by
 refine vvw (Rl:=Pair t a ws a5.L) (λi hi=>?_)<|λi q j hi u h1 l=>?_
 ·obtain⟨k,p,m⟩:=hM.ob1 _<|b _ (wZ hi);obtain⟨j,d,rfl⟩:=wG p;exact⟨j,d,_,_,wW hi,wW d,m⟩
 ·obtain⟨w,k,s,k1,f⟩:=h1;obtain⟨w',k',e,k2,g⟩:=l;rw[k1]at k2;injection k2 with k2;subst k2;exact c i q w w' s e<|zz6.alike h (hM.ok _<|b w' (wB e)) f g
theorem PI.apart(h:Sy t a)(b:PI t a r s):∀(i j:Nat)(w w':SWay),(jd s).m[i]?=some w->(jd s).m[j]?=some w'->Alk t a w.U w'.U->i=j:=λi j w w' h1 d hA=>by have c:=jjb b.fkey b.key b.pinv.inv.T;obtain⟨k,k1,k2⟩:=c i w h1;obtain⟨k',k3,k4⟩:=c j w' d;have e:=kwd.eq h.G (b.pinv.m.ok w<|wB h1) hA k2 k4;subst e;exact pqd (pqo b.nd b.pinv.inv.nd) k1 k3
theorem pw4(h:Sy t a)(b:PI t a r s)(hR:RIn2 t a r R B a5):a5.L.length=(jd s).m.length:=
 Nat.le_antisymm (pwl h hR.mir b.pinv.m.ok λy d=>b.cov y<|(hR.mem y).1 d) (vym h hR.mir (λw c=>(hR.mem _).2<|b.rch w c)<|b.apart h)
theorem vk2(h:Sy t a)(b:yg a.z a.size x.U):Calm a x↔qxx a x.U:=by obtain⟨v,c,_⟩:=look_ok h.G.B.M b;refine⟨λ⟨w,e,f⟩=>(zxp h.G b e).1 f,λd=>⟨v,c,(zxp h.G b c).2 d⟩⟩
theorem pjk{a7:List UInt8}:∀(l:List MStep)(r:List Int×Bool),(∀x∈l,x∈a.X)->qw3 a.z a.C st a7 l=some r->r.2=true->Suc a st r.1
 |[],r,_,hr,e=>by grind [qw3]
 |x::l,r,hl,hr,e=>by
  rw[qw3]at hr;split at hr
  ·obtain⟨q,c,rfl⟩:=wX.1 hr;exact⟨x,hl x<|rZ ..,by grind [zkd]⟩
  ·exact pjk l r (λy b=>hl y<|jS b) hr e
theorem pq6:∀(l:List ByteArray)(n:Nat)(st z:List Int),Rch a n st->qk2 a l st=some z->Rch a (n+l.length) z
 |[],n,st,z,hs,b=>by grind [qk2]
 |u::l,n,st,z,hs,b=>by
  rw[qk2]at b;obtain⟨r,c,b⟩:=wu.1 b;split at b
  ·rename_i e;have:=pq6 l (n+1) r.1 z (.inr ⟨st,hs,pjk _ _ (λ_ h=>h) c e⟩) b;grind
  simp_all
theorem zvt(h:Sy t a)(M:vq4 t ts)(hT:Tot a ts)(S:most<=500):∀(fuel r:Nat) (s:SSt) (R:List (List Int)) (f:Nat) (x:SnR) (rep:SRep),PI t a r s->RIn2 t a r R f x->x.L.length<=most+45->kjk a ts most fuel s=some rep->∃res,zwt t most fuel r f s.m.length x=some res/\Fit rep res
 |0,r,s,R,f,x,rep,_,_,_,c=>by rw[kjk]at c;cases c
 |n+1,r,s,R,f,x,rep,hP,hR,hf,c=>by
  have A:=h.G.B.M;have B:0<a.size/\a.size<=1000:=by refine⟨?_,A.env.size⟩;have h1:=A.one;have V:=(A.fit _<|wZ h1).1;omega
  have Y:=pw4 h hP hR;rw[kjk]at c;rw[zwt,Y];by_cases hb:most<(jd s).m.length
  ·rw[lJ hb]at c |-;injection c with c;subst c;exact⟨_,rfl,rfl,λ_=>⟨rfl,rfl⟩,λe=>absurd e (by show ¬(9:Int)=0;decide)⟩
  ·rw[Xy hb]at c |-;obtain⟨b,b1,b2⟩:=pjv h (R.drop f) (x.F.drop f) (by rw[JQ,JQ,hR.mir.T]) λi y hi=>by rw[J3]at hi |-;exact⟨hR.mir.ok y<|wB hi,hR.mir.st _ y hi⟩
   rw[b1];simp only[rQ];have H:b=false↔∀w∈(jd s).m,qxx a w.U:=by
    rw[b2];refine⟨λhh w d=>?_,λhh y g=>?_⟩
    ·have I:=(hR.mem _).2<|hP.rch w d;rw[<-Jj f R]at I;obtain I|I:=rV.1 I
     ·obtain⟨q,e,k⟩:=hR.old _ I;exact hR.calm q aj _ k
     simp_all
    ·have U:=Je g;obtain⟨w,d,hA⟩:=hP.cov y<|(hR.mem y).1 U;exact jzq h (hP.pinv.m.ok w d) (hR.mir.ok y U) hA<|hh w d
   have J:∀(i:Nat)(w:SWay),i<s.m.length->(jd s).m[i]?=some w->qxx a w.U:=λi w hi d=>(vk2 h<|hP.pinv.m.ok w (wB d)).1<|hP.pinv.calm i w hi d
   have aB:s.m.length<=(jd s).m.length:=by rw[kyo];omega
   by_cases m:((jd s).m.length==s.m.length)=true
   ·rw[lJ m]at c |-;have G:b=false:=H.2 λw d=>by obtain⟨i,hi,rfl⟩:=wG d;exact J i _ (by grind)<|wW hi
    rw[G,Xy ay];obtain⟨o1,o2,o3⟩:=kkf c;have a7:rep.xq=[]:=by grind [qxm,zk7]
    exact⟨_,rfl,o2.symm,λe=>absurd o2 e,λ_=>⟨o1,by simp_all,λ_=>a7,λe=>absurd o3 e⟩⟩
   ·rw[Xy m]at c |-;obtain⟨e,e1,C⟩:=jyc A B.2 ((jd s).m.drop s.m.length) s.m.length (λy g=>hP.pinv.m.ok y<|Je g);rw[e1]at c;simp only[rQ]at c;obtain⟨C,e3⟩|⟨C,j,y,v,j1,j2,Z,j4⟩:=C
    ·rw[lJ (by simp_all)]at c;have F:∀w∈(jd s).m,qxx a w.U:=λw d=>by
      obtain⟨i,hi,rfl⟩:=wG d;by_cases a4:i<s.m.length
      ·exact J i _ a4 (wW hi)
      ·refine(vk2 h<|hP.pinv.m.ok _ d).1 (e3 _<|wB (i:=i-s.m.length) ?_);simp_all
     have G:=H.2 F;rw[G,Xy ay];obtain⟨q,k,c⟩:=wu.1 c;obtain⟨q',O,g2,g3⟩:=zkv (most:=most) A B hT hP.pinv.m.ok _ s.m.length rfl [] (jd s).cur (λy g=>by cases g) hP.pinv.cur;rw[k]at O;injection O with O;subst O;have aA:=hR.D;obtain⟨x',x1,N,q1,m1,m2,m3,m4,l⟩:=pya h S (R.length-f) f R x hR.mir aj hf;rw[hR.mir.T,x1];simp only[rQ];have u:∀z∈N,Rch a (r+1) z:=λz B=>by
      obtain B|⟨j,w,_,_,Z,j4⟩:=m3 z B
      ·exact .inl ((hR.mem z).1 B)
      ·exact .inr ⟨w,(hR.mem w).1<|wB Z,j4⟩
     have L:∀e∈q.1,Rch a (r+1) e.2.U:=λe m=>by obtain⟨_,y,y1,s',s1,_,s3⟩:=g2 e m;exact .inr ⟨_,hP.rch y<|wB y1,s',s1,s3⟩
     have T:=(kkh _ _ _ _ _ k).2 lq;obtain⟨fk,_,_⟩:=zjv h M ((jd s).m.drop s.m.length) _ (λx hx=>hP.pinv.m.ok x<|Je hx) [] _ q (λe m=>by cases m) hP.pinv.cur.1 k;have Q:(∀(j:Nat)(y:List Int),f<=j->j<f+(R.length-f)->R[j]?=some y->∀z,Suc a y z->z∈N)->RIn2 t a (r+1) N R.length x':=λP=>by
      refine⟨m1,λy=>⟨u y,λg=>?_⟩,by simp_all,λy g=>⟨r,rfl,?_⟩,λq k y g=>?_⟩
      ·obtain g|⟨w,w1,w2⟩:=g
       ·rw[m2];exact jT<|(hR.mem y).2 g
       ·have d:=(hR.mem w).2 w1;obtain⟨j,hj,rfl⟩:=wG d;by_cases aC:j<f
        ·have ht:R[j]∈R.take f:=wB (i:=j) (by simp_all);obtain⟨q,e,k⟩:=hR.old _ ht;rw[m2];exact jT ((hR.mem y).2 (by rw[e];exact .inr ⟨_,k,w2⟩))
        ·exact P j _ aj aj (wW hj) y w2
      ·rw[m2,Jv jH,Qc]at g;exact(hR.mem y).1 g
      ·by_cases e:q=r
       ·subst e;obtain⟨w,d,hA⟩:=hP.cov y g;exact jzq h (hP.pinv.m.ok w d) (jwr h _ _ g) hA<|F w d
       ·exact hR.calm q aj y g
     have big:most<(jd ⟨(jd s).m,(jd s).Z,q.1,q.2⟩).m.length->most<x'.L.length->∃res,zwt t most n (r+1) R.length (jd s).m.length x'=some res/\Fit rep res:=λp1 p2=>by
      cases n with
      |zero=>rw[kjk]at c;cases c
      |succ n=>
       rw[kjk,lJ p1]at c;injection c with c;subst c;rw[zwt,lJ p2];exact⟨_,rfl,rfl,λ_=>⟨rfl,rfl⟩,λe=>absurd e (by show ¬(9:Int)=0;decide)⟩
     have X:SInv ⟨(jd s).m,(jd s).Z,q.1,q.2⟩:=zxz hP.pinv.inv T;by_cases a6:q.1.length<=most
     ·have E:=hP.Y h M e3 k g2 g3 a6;obtain l|l:=l
      ·have:=pwl h m1 E.pinv.m.ok λy g=>E.cov y (u y g)
       grind
      ·exact zvt h M hT S n (r+1) ⟨(jd s).m,(jd s).Z,q.1,q.2⟩ N R.length x' rep E (Q l) m4 c
     ·have W:=jyv X;simp only at W;refine big aj ?_;obtain l|l:=l
      ·exact l
      ·have a0:=Q l;have:=vym h m1 (ws:=q.1.map λe=>e.2) (λw d=>by
        obtain⟨e,m,rfl⟩:=tY.1 d;exact(a0.mem _).2 (L e m)) (λi j w w' h1 V hA=>by rw[QV]at h1 V;obtain⟨e,a1,rfl⟩:=wX.1 h1;obtain⟨e',a2,rfl⟩:=wX.1 V;obtain⟨f1,f2⟩:=fk e<|wB a1;obtain⟨f3,f4⟩:=fk e'<|wB a2;have ek:=kwd.eq h.G f1 hA f2 f4;exact pqd T (x:=e.1) (by simp_all)<|by simp_all)
       grind
    ·rw[Xy (by simp_all)]at c;have a5:(jd s).m[s.m.length+j]?=some y:=by simp_all
     have a9:=wB a5;have a8:¬qxx a y.U:=λhc=>C (by rw[<-j4];exact(zxp h.G (hP.pinv.m.ok y a9) Z).2 hc)
     have a3:b=true:=by grind
     rw[a3,lJ rfl];obtain⟨o1,o2,o3⟩:=kkf c;refine⟨_,rfl,o2.symm,λe=>absurd o2 e,λ_=>⟨o1,by simp_all,λe=>absurd (o3.symm.trans e) C,λ_=>?_⟩⟩;obtain⟨D,d0,d1,d2⟩:=hP.dep;obtain⟨p,p1,p2,_⟩:=vkn A hP.pinv.m (e.1+1) e.1 aj y (by simp_all);unfold qxm at c;rw[p1 e.1 [] jH,Qd]at c;injection c with c;have aF:rep.xq.length=p.length:=by grind
     have aG:=pv5 d1 e.1 e.1 [] p (by simp_all);have hD:=d2 e.1 (by grind);have aD:r<=p.length:=by apply Qp;intro aE;have K:=pq6 p.reverse 0 _ _ rfl p2;rw[Zb,Jc]at K;exact a8<|hR.calm p.length aj _ K
     grind
end
theorem xjb(c:qx5 a8=some a):a.j=kje (uz (jv a8).1).1.j:=by
 unfold qx5 at c;split at c
 ·obtain⟨b,hb,c⟩:=wu.1 c;split at c
  ·injection c with c;subst c;unfold jy5 at hb;obtain⟨f,d,hb⟩:=wu.1 hb;obtain⟨x,e,hb⟩:=wu.1 hb;obtain⟨st,_,hb⟩:=wu.1 hb;obtain⟨nv,_,rfl⟩:=wX.1 hb;rfl
  simp_all
 simp_all
theorem xw3(h:(qq4 a8).1=0)(i:qx5 a8=some a)(hM:MachOf (uz (jv a8).1).1 a):Sy (uz (jv a8).1).1 a:=by
 have hR:=qk7 h;have hN:=pji h;obtain⟨us,z,m,p,q,D,s,m6,A⟩:=jy9 hR i;have x:=jv1 h i;have w:=xjb i;generalize (uz (jv a8).1).1=t at *;have y:us.length=t.z.length:=by rw[p.T,Ql]
 have j:∀k (b:k<t.z.length) u,a.z[k]?=some u->∃sz,qw4 t.j t.p sz (jw t.z[k])=some u:=λk b u l=>by obtain⟨u',sz,B,C⟩:=jw4 _ _ _ _ m k (by simp_all);grind
 have d:∀k (b:k<t.z.length),∃u,a.z[k]?=some u/\UOk (ql t) u (jw t.z[k]):=λk b=>by obtain⟨u,f,v⟩:=p.v k (by simp_all);simp_all
 refine⟨⟨hR,hM,x,by simp_all,d,s,m6,A,by rw[q,s];exact xxg hR m,by rw[q];exact xxu hR m p⟩,λk b u l=>?_,λu l=>?_,w⟩
 ·grind [pkh]
 ·obtain⟨k,b,rfl⟩:=wG l;have c:k<t.z.length:=by grind
  have g:=wW b;obtain⟨sz,e⟩:=j k c _ g;obtain⟨u,f,v⟩:=d k c;rw[g]at f;injection f with f;have hv:=vqv hR (wZ c) e;exact⟨xjx hR hN e,by rw[f];exact v.D,hv.one⟩
theorem vjv(h:(qq4 a8).1=0)(v:qx5 a8=some a)(hM:MachOf (uz (jv a8).1).1 a)(h1:1<=n)(w:n<=500){a9:SRep}(d:kvn a8 n=some a9):∃S res,kkb (uz (jv a8).1).1 (uz (jv a8).1).1.z S/\vj4 (uz (jv a8).1).1 n S=some res/\Fit a9 res:=by
 have b:=xw3 h v hM;have hR:=qk7 h;obtain⟨us,z,M,N,O,P,_⟩:=jy9 hR v;obtain⟨S,W,p⟩:=pqq hR M N;rw[<-O,<-P]at p;have l:=hM.M;have E:=b.G.turn;obtain⟨ts,H,F⟩:=pv7 E l;have s:vq4 (uz (jv a8).1).1 ts:=xqh hR (by rw[<-b.j];exact H);generalize (uz (jv a8).1).1=t at *;have L:0<a.size/\a.size<=1000:=by refine⟨?_,l.env.size⟩;have h1:=l.one;have w:=(l.fit _<|wZ h1).1;omega
 have D:ky5 a (List.replicate a.size 0):=⟨Qh,jwx E l hM.f⟩;unfold kvn at d;rw[h,lJ (by rfl),v]at d;have d:jqy a n=some a9:=d;unfold jqy at d;rw[Xy aj,lJ aj,H]at d;simp only[rQ]at d;obtain⟨q,j,d⟩:=wu.1 d;obtain⟨k,c,f1,f2,_⟩:=find_ok L F (x:=kzs a) hM.f [] D;obtain⟨k',I,u,_⟩:=vxu b s (x:=kzs a) hM.f Qh j;rw[f1]at j;injection j with j;have J:k=k':=by rw[<-j]at u;have u:[(k,kzs a)]=[(k',kzs a)]:=u;simp_all
 subst J;subst j;rw[show(n:Int).toNat=n by omega]at d;have g:(jd ⟨[],[],[(k,kzs a)],c⟩).m=[kzs a]:=by simp[jd,newF,kv5,sortL,insL,kv4]
 have K:PInv a ⟨[],[],[(k,kzs a)],c⟩:=by
  refine⟨⟨rfl,lq⟩,?_,λi x hi=>by simp_all,λi x hi f=>?_,f2⟩
  ·rw[g];refine⟨⟨kzs a,rfl,rfl⟩,λx f=>?_,λi x f=>by simp_all⟩;rw[Qq]at f;rw[f];exact hM.f
  simp_all
 have B:PI t a 0 ⟨[],[],[(k,kzs a)],c⟩:=by
  refine⟨K,λe m=>?_,λi x f=>by simp_all,Jd,λx f=>?_,λx f=>(by cases f),λy G=>?_,⟨λ_=>0,rfl,λk x f=>?_,λ_ _=>jH⟩⟩
  ·have m:e∈[(k,kzs a)]:=m;rw[Qq]at m;rw[m];exact⟨hM.f,I⟩
  ·rw[g,Qq]at f;rw[f];rfl
  ·rw[g];refine⟨kzs a,ay,?_⟩;rw[show y=List.replicate a.size 0 from G];exact Alk.refl b.G hM.f
  simp_all
 have A:Mir t a [] ⟨[],[],[]⟩:=⟨λy b=>(by cases b),rfl,λi y hi=>by simp_all,rfl,λi y hi=>by simp_all,Jd,Jd,λy b=>(by cases b),λy b=>(by cases b)⟩;obtain⟨x,x1,R,q,Q,X,T,Y,Z⟩:=pw2 b A hM.f p ay;have C:RIn2 t a 0 R 0 x:=⟨Q,λy=>by rw[T];simp[Rch],jR,λy b=>by simp_all,λq j=>aj⟩;obtain⟨res,U,V⟩:=zvt b s F w 502 0 ⟨[],[],[(k,kzs a)],c⟩ R 0 x a9 B C (by grind) d;grind [vj4]
theorem xzl:(endOf b5=1/\0<b5.xs.length)\/(endOf b5=2/\kx2 b5=true)\/(endOf b5=3/\0<b5.xz.length)\/endOf b5=0:=by grind [endOf]
section
variable {t:PTree}
theorem xjc(h:Right t):vyw t:=by obtain⟨L,d,j⟩:=h.M;refine⟨by have:t.j.length<=2:=h.bnd.j;omega,λk f=>?_⟩;have a:=wZ f;obtain⟨k',x,h1,g,i⟩:=zzb t.j _ ⟨_,a,rfl⟩;obtain⟨x',b,c⟩:=qww h1;have e:k'=k:=pqd (jqq h.xt) (by rw[QV,b];exact congrArg some c) (by simp_all);have hb:=h.bnd.size _ a;exact⟨(kym h1).trans (by rw[e]),d.j _ a,_,(Xz aj).symm,aj⟩
theorem xjj(h:Right t):jyf (kzv t):=by
 have key:∀k:Nat,(zxi t.j[k]?).length<=24/\∀l∈zxi t.j[k]?,l.length<=100:=λk=>by
  cases c:t.j[k]? with
  |none=>exact⟨by simp[zxi],by simp[zxi]⟩
  |some q=>
   have:=h.bnd.size q<|wB c;have e:(mg q.size.x).toNat<=4:=aj;exact⟨kzl _ e,λl b=>by have:=(qky _ l b).1;omega⟩
 obtain⟨a1,a2⟩:=key 0;obtain⟨b1,d⟩:=key 1;refine⟨?_,λo a=>?_⟩
 ·have:=Jt a1 b1;simp[kzv,List.length_flatMap,List.map_const',List.sum_replicate_nat];omega
 ·obtain⟨x,h1,a⟩:=rM.1 a;grind
theorem pq8:∀(fuel r f k:Nat)(x:SnR)(res:Int×Bool×Nat×Nat),zwt t n fuel r f k x=some res->res.2.2.1<=r+fuel
 |0,_,_,_,_,_,h=>ig
 |fuel+1,r,f,k,x,res,h=>by
  rw[zwt]at h;split at h
  ·grind
  ·obtain⟨b,_,h⟩:=wu.1 h;split at h
   ·grind
   ·split at h
    ·grind
    ·obtain⟨y,_,h⟩:=wu.1 h;have:=pq8 fuel _ _ _ _ _ h;omega
theorem py9(t:(qq4 a8).1=0)(s:qx5 a8=some a)(e:MachOf (uz (jv a8).1).1 a)(h1:qk2 a b6 (List.replicate a.size 0)=some st)(d:lookO a st=some b5):∃S0,kkb (uz (jv a8).1).1 (uz (jv a8).1).1.z S0/\qvn (uz (jv a8).1).1 b6 0 S0=some (b5,kx2 b5,0,0):=by
 have hR:=qk7 t;obtain⟨us,z,f,i,j,C,k,m6,w⟩:=jy9 hR s;obtain⟨S,q,A⟩:=pqq hR f i;have b:=e.M;have B:=b.env.size;obtain⟨u,h⟩:=vyb b [] b6 0 _ st e.f h1;have y:=u.T;rw[Qs,vq9,lJ aj,d]at h;have p:Both (uz (jv a8).1).1 (qm<|ql (uz (jv a8).1).1) a.z a.C (ksz<|ql (uz (jv a8).1).1) (ssz<|ql (uz (jv a8).1).1) a.size (tuV (uz (jv a8).1).1 idτ) idτ:=⟨b.env,b.disj,by rw[k];exact pw8 hR<|zjz,by rw[j,k];exact xxg hR f⟩;refine⟨S,q,jv6 p m6 w ?_ (λx v=>(qjq hR v).1) (λst S h1 d tx g=>?_) b6 0 _ S _ e.f (by simp_all) h⟩
 ·have:=b.nodup;rw[m6,Jz]at this;exact this
 ·unfold zqh at g;obtain⟨l,m,c⟩:=wu.1 g;split at c
  ·cases c
  ·injection c with c;subst c;rw[d.1];exact(zkj h1 d (by rw[j];exact xxu hR f i) b.few _ l jH m).1
def xj1(s:ByteArray)(a:SRep)(res:Int×Bool×Nat×Nat):Prop:=
 res.1=a.err/\a.xr=res.2.2.2/\(((¬res.1=0\/res.2.1=false)/\a.end_=0/\a.xq=[])\/(res.1=0/\res.2.1=true/\a.xq.length=res.2.2.1/\a.xq.length<=1000/\∃v,xk5 s a.xq (v,kx2 v,0,0)/\endOf v=a.end_/\a.end_≠0))
theorem pvc(s:ByteArray)(most:Int):∃c res,kvn s most=some c/\pjc s most res/\xj1 s c res:=by
 by_cases h:(qq4 s).1=0
 ·obtain⟨a,f,hM⟩:=xzy h;have g:(qw0 s).1=0:=by rw[<-jz9];exact h
  by_cases u:most<1\/500<most
  ·refine⟨qq3 8,(8,false,0,0),?_,.inr<|.inl ⟨g,u,rfl⟩,rfl,rfl,.inl ⟨.inl ak,rfl,rfl⟩⟩;grind [kvn,jqy]
  ·obtain⟨n,rfl⟩:∃n:Nat,most=n:=⟨most.toNat,aj⟩;obtain⟨c,j⟩:=pz9 h f hM (n:=n) aj aj;obtain⟨S,res,t,b,d⟩:=vjv h f hM aj aj j.src;have hR:=qk7 h;have l:=xwz hR<|xko h;refine⟨c,res,j.src,.inr<|.inr ⟨g,n,rfl,aj,aj,l,xjc hR,xjj hR,S,t,b⟩,d.err,?_⟩;obtain e|⟨k,_,_,m⟩:=j.how
   ·obtain⟨b1,_⟩:=d.s (by rw[e];decide);subst e;rw[b1];exact⟨rfl,.inl ⟨.inl ak,rfl,rfl⟩⟩
   ·obtain⟨f1,f2,f3,f4⟩:=d.ok k;refine⟨f1,?_⟩;by_cases i:c.end_=0
    ·simp_all
    ·obtain⟨st,v,h1,p,q,_⟩:=m.s i;unfold vj4 at b;obtain⟨x,_,b⟩:=wu.1 b;have:=pq8 _ _ _ _ _ _ b;refine .inr ⟨by rw[d.err,k],?_,f4 i,aj,v,⟨g,l,py9 h f hM h1 p⟩,q,i⟩;simp_all
 ·refine⟨qq3 (qq4 s).1,((qq4 s).1,false,0,0),?_,.inl ⟨by rw[<-jz9];exact h,by rw[<-jz9]⟩,rfl,rfl,.inl ⟨.inl h,rfl,rfl⟩⟩;grind [kvn]
end
def mvV(v:MVar)(ta:Option Addr)(tc:Nat):Value:=.agg #[.int .i64 v.f,.int .i64 v.d,.slice ta v.a.length tc,.int .i64 v.g,.int .i64 v.B]
theorem vya(h:OwnRows 0 w tv t)(f:t[B]?=some l)(C:l[j]?=some b7):∃g c e n2 c2,tv=.slice (some ⟨g,0,none⟩) t.length c/\g<w.heap.size/\e<w.heap.size/\w.cell? ⟨g,B,none⟩=some (.slice (some ⟨e,0,none⟩) n2 c2)/\n2=l.length/\w.cell? ⟨e,j,none⟩=some (.int .i64 b7)/\B<t.length/\j<l.length/\t.length<=maxLen/\l.length<=maxLen:=by
 obtain⟨la,ll,lc,cs,rfl,h1,v⟩:=h;have d:B<t.length:=by grind
 have m:j<l.length:=by grind
 rw[wW d]at f;injection f with f;obtain⟨xa,xc,b,hv⟩:=qp h1;injection b with b q s;subst b;subst q;subst s;obtain⟨g,rfl,_,A,z⟩:=hv B d;obtain⟨a,n,c,k,i⟩:=v.2 B d;rw[f]at i;obtain⟨F,G,e5,p⟩:=qp i;injection e5 with e5 u e7;subst e5;subst u;subst e7;obtain⟨e,rfl,_,y,x⟩:=p j m;have D:t.length<=maxLen:=by
  obtain⟨b,_⟩|⟨_,cap,_,b,_,_,k,e5,_⟩:=h1.2
  ·cases b
  ·omega
 have E:l.length<=maxLen:=by
  obtain⟨b,_⟩|⟨_,cap,_,b,_,_,k,e5,_⟩:=i.2
  ·cases b
  ·omega
 grind
theorem zwr(ta:Option Addr)(tc:Nat)(l:OwnRows 0 w tv t)(a:kvz b8 t i=some b7):Calls prog 228 #[mvV b8 ta tc,tv,.int .i64 i] w λe w'=>e=.returned (.int .i64 b7)/\oq w w':=by
 have b:=jZ w (o:=.cells #[.int .i64 b8.f,.int .i64 b8.d,.slice ta b8.a.length tc,.int .i64 b8.g,.int .i64 b8.B] 213);unfold kvz at a;unfold mvV;by_cases h1:b8.g=-1
 ·rw[h1]at b |-;rw[h1,lJ ak]at a;injection a with a;subst a;go_wp2
  go_ret;simp_all
 ·rw[Xy (by simp_all)]at a;have j:¬b8.g<0:=λh=>by simp_all
  rw[Xy j]at a;obtain⟨o,f,a⟩:=wu.1 a;obtain⟨k,d⟩:∃k:Nat,b8.g=k:=⟨b8.g.toNat,aj⟩;rw[d,tX]at f;obtain⟨g,c,s,n2,c2,rfl,u,m,d1,rfl,d2,q,p,v,x⟩:=vya l f a;rw[d]at b |-;go_wp2
  go_ret;simp_all
theorem zwd(ta:Option Addr)(tc:Nat)(p:OwnRows 0 w tv t)(a:qv3 b8 t b7=some b9):Calls prog 227 #[mvV b8 ta tc,tv,.int .u8 b7] w λe w'=>e=.returned (.int .u8 b9)/\oq w w':=by
 have b:=jZ w (o:=.cells #[.int .i64 b8.f,.int .i64 b8.d,.slice ta b8.a.length tc,.int .i64 b8.g,.int .i64 b8.B] 213);unfold qv3 at a;unfold mvV;by_cases h1:b8.B=-1
 ·rw[h1]at b |-;rw[h1,lJ ay]at a;injection a with a;subst a;go_wp2
  go_ret;simp_all
 ·have s:(b8.B==-1)=false:=by simp_all
  by_cases q:b7=0
  ·subst q;rw[lJ ay]at a;injection a with a;subst a;go_wp2
   go_ret;simp_all
  ·rw[Xy (by simp_all)]at a;have l:¬(b8.B<0\/b7<0\/255<b7):=λh=>by simp_all
   rw[Xy l]at a;obtain⟨o,f,a⟩:=wu.1 a;obtain⟨y,i,a⟩:=wu.1 a;have m:0<=y/\y<255:=by simp_all
   rw[lJ m]at a;injection a with a;obtain⟨k,d⟩:∃k:Nat,b8.B=k:=⟨b8.B.toNat,aj⟩;obtain⟨j,D⟩:∃j:Nat,b7=(j:Int)+1:=⟨b7.toNat-1,aj⟩;rw[d,tX]at f;rw[show b7.toNat-1=j by omega]at i;obtain⟨g,c,B,n2,c2,rfl,C,u,d1,rfl,d2,A,z,E,F⟩:=vya p f i;rw[d]at b |-;have v:¬((j:Int)+1=0):=aj;have x:((j:Int)+1==0)=false:=by simp_all
   go_wp2;go_ret;simp_all
def qqc(v:Value):List Nat:=v.ownBlock.toList
theorem qj8(h:w.ownsRow lo e B v n xs):∀k∈qqc v,∃cs fr,w.heap[k]?=some (.cells cs e fr):=by
 intro k c;obtain⟨a,_⟩|⟨g,cap,cur,a,_,b,_⟩:=h.2
 ·grind [qqc,Value.ownBlock]
 grind [qqc,Value.ownBlock]
theorem jwz(h:kqg p w w')(c:∀k∈p,∃cs fr,w.heap[k]?=some (.cells cs e fr))(d:e∈bad)(x:Option Nat):Tk x bad w w':=
 ⟨h.os,h.tape,h.output,h.size,λi o h1 _ b=>by
  by_cases a:i∈p
  ·grind
  ·exact h.at h1 a⟩
theorem xjm(h:w.ownsRow B e 1 (.slice (some ⟨g,0,none⟩) n c) n xs)(j:Nat)(u:Value):(w.setCell ⟨g,j,none⟩ u).ownsRow B e 1 (.slice (some ⟨g,0,none⟩) n c) n (xs.set j u):=by
 refine⟨lM,?_⟩;obtain⟨a,_⟩|⟨l,cap,cur,a,d,f,i,e5,k,e7⟩:=h.2
 ·cases a
 ·injection a with a _ b;injection a with a;injection a with a;subst a;subst b;refine .inr ⟨g,c,_,rfl,d,Xx w g j _ _ u f,i,e5,by simp_all,?_⟩;grind [List.take_set]
theorem pwb{d6:IntKind}(h:w.ownsRow B e 1 (.slice (some ⟨g,0,none⟩) n c) n (l.map (Value.int d6)))(j:Nat)(f:j<l.length):w.cell? ⟨g,j,none⟩=some (.int d6 l[j]):=by
 obtain⟨xa,xc,a,hv⟩:=qp h;injection a with a b d;have i:l.length=n:=by have:=h.1;simp_all
 grind
theorem pwd(h:w.ownsRow B e 1 (.slice (some ⟨g,0,none⟩) n c) n xs)(j:Nat):w.frozen? ⟨g,j,none⟩=false:=by
 obtain⟨a,_⟩|⟨k,cap,cur,a,b,d,f,e5,i,e7⟩:=h.2
 ·cases a
 grind [World.frozen?]
theorem qql(h:Below B w.drew w'):Below B w w':=⟨h.os,h.tape,h.output,h.size,h.block⟩
theorem jyr(h:w.heap[b]?=some o)(hb:oq w w')(a:b<w.heap.size)(g j:Nat)(u:Value)(c:g≠b):(w'.setCell ⟨g,j,none⟩ u).heap[b]?=some o:=by rw[jz (by grind),hb.block b a];exact h
abbrev TuS(O b gs k:Nat)(a:Value)(v:MVar)(ta:Option Addr)(tc:Nat)(x:Int)(w:World):Prop:=
 w.cell? ⟨O,2,none⟩=some a/\w.cell? ⟨b,0,none⟩=some (.int .i64 v.f)/\w.cell? ⟨b,1,none⟩=some (.int .i64 v.d)/\w.cell? ⟨b,2,none⟩=some (.slice ta v.a.length tc)/\w.cell? ⟨b,3,none⟩=some (.int .i64 v.g)/\w.cell? ⟨b,4,none⟩=some (.int .i64 v.B)/\w.cell? ⟨gs,k,none⟩=some (.int .u8 x)
theorem TuS.below(h:TuS O b gc M tv b8 la fb b7 w)(hb:Below B w w')(c:O<B)(h1:b<B)(a:gc<B):TuS O b gc M tv b8 la fb b7 w':=by obtain⟨d,s1,e,s3,f,g,i⟩:=h;exact⟨(hb.cell (p:=⟨O,2,none⟩) c).trans d,(hb.cell (p:=⟨b,0,none⟩) h1).trans s1,(hb.cell (p:=⟨b,1,none⟩) h1).trans e,(hb.cell (p:=⟨b,2,none⟩) h1).trans s3,(hb.cell (p:=⟨b,3,none⟩) h1).trans f,(hb.cell (p:=⟨b,4,none⟩) h1).trans g,(hb.cell (p:=⟨gc,M,none⟩) a).trans i⟩
theorem pv1{d7:Value}(X:w.heap[O]?=some (.cells #[.pointer (some ⟨M,0,none⟩),d7,.slice (some ⟨gc,0,none⟩) cur0.length cc] 260 (0,0)))(h:Mc 0 w M nb vars tab)(hT:OwnRows 0 w tv t)(hS:kyy .u8 w sv st)(hC:w.ownsRow B 5 1 (.slice (some ⟨gc,0,none⟩) cur0.length cc) cur0.length (cur0.map (Value.int .u8)))(a4:sv.ownBlock≠some gc)(hv:vars.length<=1000)(b6:cur0.length<=1000000)(bC:st.length<=1000000)(hr:qqw t st vars cur0=some l):Calls prog 187 #[.pointer (some ⟨O,0,none⟩),tv,sv] w λe w'=>e=.returned (.tuple #[])/\w'.ownsRow B 5 1 (.slice (some ⟨gc,0,none⟩) cur0.length cc) cur0.length (l.map<|Value.int .u8)/\kqg [gc] w w':=by
 obtain⟨⟨y0,y1,y2,va,vc,z,cs,hM,HV,HI⟩,_⟩:=h;obtain⟨m0,m1,m2,m3,m4,m5,_⟩:=kzh hM;have o0:=row3 X;have aY:=wQ X;have V:∀k∈[gc],∃c fr,w.heap[k]?=some (.cells c 5 fr):=λk hk=>qj8 hC k (by simpa[qqc,Value.ownBlock] using hk)
 have aX:O≠gc:=λe=>by simp_all
 obtain⟨sa,sc,rfl,(aJ:Hid _)⟩:=hS;obtain⟨aE,HO,HT,HC,HR,a2⟩:=qQ a4 X hT hC hr V;have b9:gc<w.heap.size:=by obtain⟨c,fr,J⟩:=V gc ay;grind
 clear X hr hM V a4 y0 y1 y2 m0 m1 m2 m4 m5;go_in;go_wp21;go_loopw [7,8,17] (λ_ _ i wr=>∃(k:Nat)(c:List Int),k<=vars.length/\i=.int .i64 k/\qqw t st (vars.drop k) c=some l/\c.length=cur0.length/\wr.ownsRow B 5 1 (.slice (some ⟨gc,0,none⟩) cur0.length cc) cur0.length (c.map<|Value.int .u8)/\kqg [gc] w wr) (λ_ _ i _=>vars.length-(intOf i).toNat);exact⟨0,cur0,jR,rfl,HR,rfl,HC,kqg.refl _ _⟩;obtain⟨F,rfl⟩:=cpy wr;obtain⟨k,c,hk,rfl,a,Y,f,d⟩:=hrel;have aV:=d.size;by_cases U:k<vars.length
 ·have K:=jwz (bad:=[5]) d a2 ak none;obtain⟨xa,xc,J,I⟩:=qp<|jq HV K (pz.none _) ak;injection J with J _ e3;subst J;subst e3;obtain⟨ta,tc,⟨f0,f1,f2,f3,f4⟩,_⟩:=pqc k U HI;obtain⟨g,rfl,b7,b8,L⟩:=I k U;have e0:=(L (k*5) aj).trans f0;have J:=(L (k*5+1) aj).trans f1;have e2:=(L (k*5+2) aj).trans f2;have e3:=(L (k*5+3) aj).trans f3;have e4:=(L (k*5+4) aj).trans f4;rw[rU U,qqw]at a;obtain⟨c2,(a0:Hid _),a⟩:=wu.1 a;obtain⟨W,aT,a7⟩:=jp a (zjq _ _ _ _ _ a0) (qy (w:=F) (o:=.cells #[.int .i64 vars[k].f,.int .i64 vars[k].d,.slice ta vars[k].a.length tc,.int .i64 vars[k].g,.int .i64 vars[k].B] 213));have aA:=d.alloc<|.cells #[.int .i64 vars[k].f,.int .i64 vars[k].d,.slice ta vars[k].a.length tc,.int .i64 vars[k].g,.int .i64 vars[k].B] 213;have a9:=f.alloc<|.cells #[.int .i64 vars[k].f,.int .i64 vars[k].d,.slice ta vars[k].a.length tc,.int .i64 vars[k].g,.int .i64 vars[k].B] 213;generalize vars[k]=v at *;clear L a d K I f0 f1 f2 f3 f4;go_wp21
  go_loopw [8,23] (λ_ i wr=>∃(j:Nat)(cur:List Int),j<=v.d/\i=.int .i64 j/\kw0 v t st ((List.range v.d).drop j) cur=some c2/\cur.length=cur0.length/\wr.ownsRow B 5 1 (.slice (some ⟨gc,0,none⟩) cur0.length cc) cur0.length (cur.map<|Value.int .u8)/\kqg [gc] w wr/\wr.heap[F.heap.size]?=some (.cells #[.int .i64 v.f,.int .i64 v.d,.slice ta v.a.length tc,.int .i64 v.g,.int .i64 v.B] 213 (0,0))) (λ_ i _=>v.d-(intOf i).toNat);exact⟨0,c,jR,rfl,a0,Y,a9,aA,a7⟩;obtain⟨j,cur,hj,rfl,b,Z,f,d,C⟩:=hrel;have aW:=d.size;have b5:=wQ C;obtain⟨b0,b1,b2,b3,b4,_⟩:=jl C;by_cases aU:j<v.d
  ·have aL:j<(List.range v.d).length:=by simp_all
   rw[rU aL,Zn,kw0]at b;obtain⟨p,hp,b⟩:=wu.1 b;obtain⟨x,hx,b⟩:=wu.1 b;obtain⟨y,hy,b⟩:=wu.1 b;have hq:0<=p/\v.f+p.toNat<cur.length:=by simp_all
   rw[lJ hq]at b;obtain⟨q,aM⟩:∃q:Nat,p=q:=⟨p.toNat,aj⟩;subst aM;rw[tX]at hq b;obtain⟨_,aN⟩:=hq;have aO:v.f+j<st.length:=by grind
   obtain⟨gs,rfl,aK,T⟩:=ku aJ aj;have aS:gs≠gc:=λe=>aE (by rw[e];rfl)
   have a3:wr.cell? ⟨gs,v.f+j,none⟩=some (.int .u8 x):=by rw[Jk (d.block gs aK (by simp_all)),T _ aO];simp_all
   obtain⟨aQ,aR,a5,_⟩:=row3 (d.at HO<|by simp_all);have K:=jwz (bad:=[5]) d a2 ak none;have R:=HT.tk K (pz.none _) ak ak;obtain⟨N,P,m,D,E,a8,aG⟩:=jt (zwr ta tc (R.below<|(Below.refl _ wr).drew) hp) (λ(wx:World)(hb:oq wr wx)=>zwd ta tc (R.below hb) hy) (show TuS O F.heap.size gs (v.f+j) (.slice (some ⟨gc,0,none⟩) cur0.length cc) v ta tc x wr.drew from⟨a5,b0,b1,b2,b3,b4,a3⟩) f d C b;have aC:gc≠F.heap.size:=aj;have aZ:O<wr.heap.size:=aj;have bA:gs<wr.heap.size:=aj;have bB:v.f+q<cur0.length:=aj;have wj:IntKind.i64.wrap ((v.f:Int)+j)=(v.f:Int)+j:=kQ;have wq:IntKind.i64.wrap ((v.f:Int)+q)=(v.f:Int)+q:=kQ;have bF:(0:Int)<=(v.f:Int)+j:=aj;have bG:(v.f:Int)+j<st.length:=aj;have bH:(0:Int)<=(v.f:Int)+q:=aj;have bI:(v.f:Int)+q<cur0.length:=aj;have tj:((v.f:Int)+j).toNat=v.f+j:=aj;have tq:((v.f:Int)+q).toNat=v.f+q:=aj;unfold mvV at N P;clear b f d C hp hx hy R K aQ aR a5 b0 b1 b2 b3 b4 a3 T e0 J e2 e3 e4;go_upto_region 6 with fail
   refine bg (S:=TuS O F.heap.size gs (v.f+j) (.slice (some ⟨gc,0,none⟩) cur0.length cc) v ta tc x) (tl:=[22]) au ?_;refine frS 0 ?_;refine frS 1 ?_;refine frS 2 ?_;refine tkS 3 m ?_;refine frS 4 ?_;refine tkS 5 m ?_;refine tkS 6 m ?_;refine frS 7 ?_;refine frS 8 ?_;refine tkS 11 m ?_;refine frS 12 ?_;refine frS 13 ?_;refine frS 14 ?_;refine tkS 15 m ?_;refine frS 16 ?_;refine frS 17 ?_;refine frS 18 ?_;refine tkS 19 m ?_;refine onS 9 λK u=>?_
   go_simp;go_at_call 228
   refine N.mono ?_;rintro e x1 ⟨rfl,A⟩;have aP:wr.heap.size<=x1.heap.size:=A.size;obtain⟨a1,aD,Q⟩:=jp (m.below A (by omega:O<wr.heap.size) (by omega:F.heap.size<wr.heap.size) (by omega:gs<wr.heap.size)) (show oq wr x1 from qql A) (P x1 (qql A:oq wr x1));clear A;dsimp only;refine u _ _ a1 ?_;clear u K;try simp only[Act.put,Qy,QW,QY]
   refine frS 10 ?_;refine onS 20 λK u=>?_
   go_simp;go_at_call 227
   refine Q.mono ?_;rintro e x2 ⟨rfl,G⟩;have bD:x1.heap.size<=x2.heap.size:=G.size;have aH:=oz (a1.below G (by omega:O<x1.heap.size) (by omega:F.heap.size<x1.heap.size) (by omega:gs<x1.heap.size));have s:oq wr x2:=aD.trans<|G.mono aP;have H:=qj D s;have cd:=pwb H (v.f+q) aN;have fd:=pwd H<|v.f+q;obtain⟨aF,aB,a6⟩:=jp (xjm H (v.f+q) (.int .u8 y)) ((E.trans<|.of_below s).set (p:=⟨gc,v.f+q,none⟩) (.inl ay) (.int .u8 y)) ((jyr a8 s aj gc (v.f+q) (.int .u8 y) aC));clear G s H Q P N;dsimp only;refine u _ _ aH ?_;clear u K;try simp only[Act.put,Qy,QW,QY]
   refine frS 21 ?_;refine kyj ?_;refine onA 22 λK u=>?_
   go_simp;refine u _ _ ?_;clear u K;refine wpAny_done au ?_ _;go_wp2;exact rdM ⟨j+1,cur.set (v.f+q) y,aj,eu,aG,by simp_all,by rw[Zf];exact aF,aB,a6⟩
  ·have:j=v.d:=by omega
   subst this;rw[Qa ay,kw0]at b;injection b with b;subst b;obtain⟨D,E⟩:=ju f d;clear f d C b0 b1 b2 b3 b4;go_wp2
   exact rdM ⟨k+1,cur,aj,eu,W,Z,D,E⟩
 ·have:k=vars.length:=by omega
  subst this;rw[sK,qqw]at a;injection a with a;subst a;obtain⟨HX,aI⟩:=ju f d;clear f d;go_wp2
  go_end0;exact⟨rfl,HX,aI⟩
theorem Mc.tk(h:Mc lo w M nb vars tab)(a:Tk d8 bad w w')(b:pz w d8)(c:d8≠some nb)(d:105∉bad)(h1:213∉bad)(f:9∉bad):Mc lo w' M nb vars tab:=by obtain⟨⟨x0,x1,x2,va,vc,z,cs,hM,i,g⟩,j⟩:=h;exact⟨⟨x0,x1,x2,va,vc,z,cs,a.e hM (λe=>b _ _ _ _ e hM) d,jq i a b h1,g.tk a b f⟩,j.tk a c⟩
theorem pxw(t:TypeId)(z:Value)(s b:Nat)(h:(prog.info? t).map (λi=>(i.zero,i.size,i.bytes))=some (some z,s,b)):(prog.info? t).map (·.size)=some s:=by
 cases hi:prog.info? t with
 |none=>simp_all
 |some i=>simp_all
theorem vjj:kqg [g] w (w.setRow g d9):=
 ⟨rfl,rfl,rfl,ay,λk a hn=>setRow_other w g k d9<|by simp_all⟩
theorem pwc{ys:List Value}(h:w.ownsRow B e 1 (.slice (some ⟨g,0,none⟩) n c) n xs)(l:ys.length=n):∃cur,w.heap[g]?=some (.cells cur e (0,0))/\n<=cur.size/\(w.setRow g (cur.toList.take 0++(ys++cur.toList.drop (0+ys.length))).toArray).ownsRow B e 1 (.slice (some ⟨g,0,none⟩) n c) n ys:=by
 obtain⟨a,_⟩|⟨k,cap,cur,a,f,d,i,e5,j,e7⟩:=h.2
 ·cases a
 ·injection a with a _ b;injection a with a;injection a with a;subst a;subst b;refine⟨cur,d,aj,aj,.inr ⟨g,c,_,rfl,f,setRow_heap w g _ _ e _ d,i,e5,?_,?_⟩⟩
  ·simp_all
  simp_all
theorem px0(hR:w.ownsRow B 5 1 (.slice (some ⟨g,0,none⟩) n c) n (k.map (Value.int .u8)))(z:kyy .u8 w tv l)(I:l.length=k.length)(hn:n<=1000000):Calls prog 188 #[.slice (some ⟨g,0,none⟩) n c,tv] w λe w'=>e=.returned (.tuple #[])/\w'.ownsRow B 5 1 (.slice (some ⟨g,0,none⟩) n c) n ((jxx k l).map<|Value.int .u8)/\kqg [g] w w':=by
 have h:k.length=n:=by have:=hR.1;simp_all
 have A:kyy .u8 w (.slice (some ⟨g,0,none⟩) n c) k:=qk6 (by rw[h];exact hR);have m:=zxg z A aj aj;obtain⟨xa,xc,rfl,(x:Hid _)⟩:=z;obtain⟨cur,(s:Hid _),M,d⟩:=pwc hR (ys:=l.map<|Value.int .u8) (by simp_all);obtain⟨E,u⟩:=ju hR d;have a1:l.length<=n:=aj;have L:=oz (show l=[]->cmpL l k=0 from λe=>by have F:k=[]:=Qv (by simp_all);rw[e,F];rfl)
 have t:=oz (show ∀(b:Int),b=cmpL l k->(if cmpL l k<0 then l else k)=if b<0 then l else k from λb e=>by rw[e]);unfold jxx;clear d I h;obtain⟨b,a⟩:=cpy<|cmpL l k;rw[ku t b a];rw[<-a]at m;have K:=oz a;clear a;by_cases i:b<0
 ·rw[lJ i];go_in;go_wp21;refine m.mono ?_;rintro e J ⟨rfl,q,rfl⟩;by_cases G:0<l.length
  ·obtain⟨f,rfl,N,C⟩:=ku x G;have p:=oz (show ∀j v,(l.map<|Value.int .u8)[j]?=some v->(w.drewN q).cell? ((⟨f,0,none⟩:Addr).add j)=some v from λj v H=>by
    have D:j<l.length:=by grind
    rw[QV,wW D]at H;rw[show((⟨f,0,none⟩:Addr).add j)=⟨f,j,none⟩ by simp[Addr.add];omega];simp_all)
   have y:=oz<|pxw 5 _ _ _ infoU8;clear C;go_wp2_with (refine wpList_copy_own rfl _ _ 95 95 rfl 5 underlying95 y g 0 n c ⟨f,0,none⟩ l.length xc rfl rfl cur 5 s (l.map<|Value.int .u8) (by simp_all) p (by grind) (jvl l) ?_)
   go_wp2;go_end0;exact⟨rfl,(by have h9:=ku u;simp only[List.take_zero,Qd,Ql,Jc]at h9;exact h9),((kqg.refl _ w).drewN q).trans<|vjj⟩
  grind [ku]
 ·rw[Xy i];go_in;go_wp21;refine m.mono ?_;rintro e J ⟨rfl,q,rfl⟩;go_wp2;go_end0;exact⟨rfl,E,((kqg.refl _ w).drewN q)⟩
structure jva (B:Nat)(w:World)(O M gc cc:Nat)(ts:List Turn)(cur:List Int)(tv:Value):Prop where
 e:w.heap[O]?=some (.cells #[.pointer (some ⟨M,0,none⟩),tv,.slice (some ⟨gc,0,none⟩) cur.length cc] 260 (0,0))
 turns:kz6 0 w tv ts
 xu:w.ownsRow B 5 1 (.slice (some ⟨gc,0,none⟩) cur.length cc) cur.length (cur.map<|Value.int .u8)
theorem jva.ty(h:jva B w O M gc cc ts l tv):∀k∈[gc],∃c fr,w.heap[k]?=some (.cells c 5 fr):=λk a=>qj8 h.xu k (by simpa[qqc,Value.ownBlock] using a)
theorem jva.ne(h:jva B w O M gc cc ts k tv):O≠gc:=λe=>by obtain⟨c,fr,a⟩:=h.ty gc ay;rw[<-e,h.e]at a;simp_all
theorem px6(y:jva B w O M gc cc ts cur0 tv)(h:Mc 0 w M nb vars tab)(J:w.ownsRow 0 5 1 (.slice sa sn sc) st.length (st.map (Value.int .u8)))(E:(Value.slice sa sn sc).ownBlock≠some gc)(hv:vars.length<=1000)(h0:0<st.length)(Y:st.length=cur0.length)(a2:st.length<=1000000)(aH:ts.length<=1000000){e8:List Int×List Int}(hr:kvk vars st ts st cur0=some e8):Calls prog 129 #[.pointer (some ⟨O,0,none⟩),.slice sa sn sc] w λe w'=>∃ga ca,e=.returned (.slice (some ⟨ga,0,none⟩) st.length ca)/\w.heap.size<=ga/\w'.ownsRow w.heap.size 5 1 (.slice (some ⟨ga,0,none⟩) st.length ca) st.length (e8.1.map<|Value.int .u8)/\w'.ownsRow B 5 1 (.slice (some ⟨gc,0,none⟩) cur0.length cc) cur0.length (e8.2.map<|Value.int .u8)/\kqg [gc] w w':=by
 have T:=zjt J aj;obtain⟨ya,yc,j,-⟩:=qp J;injection j with j I e3;subst j;subst I;subst e3;obtain⟨m,U,HS,HR⟩:=jb y h J hr;have X:=wQ y.e;have aE:gc<w.heap.size:=by obtain⟨c,fr,j⟩:=y.ty gc ay;grind
 have a6:=y.ne;have a8:st.length<=cur0.length:=aj;have a5:cur0.length<=st.length:=aj;clear hr Y;go_in;go_wp21;refine T.mono ?_;rintro e w1 ⟨ka,kn,C,rfl,D,s⟩;obtain⟨ga,a0,a1⟩:∃ga,w.heap.size<=ga/\(Value.slice ka kn C)=.slice (some ⟨ga,0,none⟩) st.length C:=by
  obtain⟨j,I⟩|⟨g,cap,cur,j,I,_⟩:=D.2
  ·omega
  simp_all
 injection a1 with P Q;subst P;subst Q;have o0:=row3<|(s.block O X).trans m.e;obtain⟨la,ll,lc,cs,V,H,a3⟩:=m.turns;obtain⟨xa,xc,ex,-⟩:=qp H;injection ex with p W q;subst p;subst W;subst q;subst V;go_wp21
 go_loopw [7,15] (λ_ i wr=>∃(k:Nat)(least cur:List Int),k<=ts.length/\i=.int .i64 k/\kvk vars st (ts.drop k) least cur=some e8/\least.length=st.length/\cur.length=cur0.length/\wr.ownsRow w.heap.size 5 1 (.slice (some ⟨ga,0,none⟩) st.length C) st.length (least.map<|Value.int .u8)/\wr.ownsRow B 5 1 (.slice (some ⟨gc,0,none⟩) cur0.length cc) cur0.length (cur.map<|Value.int .u8)/\kqg [gc] w wr) (λ_ i _=>ts.length-(intOf i).toNat);exact⟨0,st,cur0,jR,rfl,HR,rfl,rfl,D,(qj m.xu s),.of_below s⟩;obtain⟨S,rfl⟩:=cpy wr;obtain⟨k,least,cur,b,rfl,a,aF,L,G,Z,d⟩:=hrel;by_cases t:k<ts.length
 ·have K:=jwz (bad:=[5]) d m.ty ak none;obtain⟨aJ,aK,ex,A⟩:=qp<|jq H K (pz.none _) ak;injection ex with p _ q;subst p;subst q;obtain⟨g,rfl,aC,aD,hc⟩:=A k t;obtain⟨v,ev,a4⟩:=(a3.tk K (pz.none _) ak ak).2 k t;have e5:S.cell? ⟨g,k*1,none⟩=some v:=by simp_all
  simp at e5;have u:=d.at m.e (by simp_all);have p0:=row3 u;rw[rU t,kvk]at a;obtain⟨c2,F,a⟩:=wu.1 a;have a7:=qjk _ _ _ F;have z:S.heap[O]?=some (.cells #[.pointer (some ⟨M,0,none⟩),.slice (some ⟨g,0,none⟩) ts.length lc,.slice (some ⟨gc,0,none⟩) cur.length cc] 260 (0,0)):=by simp_all
  have N:S.ownsRow B 5 1 (.slice (some ⟨gc,0,none⟩) cur.length cc) cur.length (cur.map<|Value.int .u8):=by simp_all
  go_wp21;refine(pv1 z (U.tk K (pz.none _) ay ak ak ak) a4 ((qk6 HS).stay d<|λk b hm=>E<|by simp_all) N E hv aj a2 F).mono ?_;rintro e w2 ⟨rfl,l,f⟩;rw[L]at l;have aI:=row3 (f.at u<|by simp_all);have R:=qj7 G f (λk b hm=>by injection b with b;grind)
  go_wp21;refine(px0 R (qk6 (by rw[show c2.length=cur0.length by omega];exact l)) aj aj).mono ?_;rintro e w3 ⟨rfl,a9,x⟩;have aA:=qj7 l x (λk b hm=>by injection b with b;grind)
  have aB:=show kqg [gc] w w3 from(((d.trans f).wide (S':=[gc,ga]) ay).trans<|x.wide (S':=[gc,ga]) ay).wide (λk b hl=>by grind)
  have aG:=vzc (least:=least) (c:=c2) aj;go_wp2;grind [intOf]
 ·have:k=ts.length:=by omega
  subst this;rw[sK,kvk]at a;injection a with a;subst a;go_wp2
  go_ret;exact⟨ga,C,rfl,a0,G,Z,d⟩
section
theorem jj3(h:kxl k=true):∀x∈k,0<=x/\x<=255:=by intro x a;have:=sJ.1 h x a;simp_all
theorem ofNat_inj(a:0<=b7/\b7<=255)(hb:0<=b9/\b9<=255)(h:UInt8.ofNat b7.toNat=UInt8.ofNat b9.toNat):b7=b9:=by grind [UInt8.toNat_ofNat']
theorem vx2(d:kxl k=true)(hb:kxl l=true)(h1:(strOfNums k).data.toList=(strOfNums l).data.toList):k=l:=by
 rw[strOfNums_data,strOfNums_data]at h1;have b:=jj3 d;have c:=jj3 hb;clear d hb;induction k generalizing l with
 |nil=>
  simp_all
 |cons x k ih=>
  cases l with
  |nil=>simp_all
  |cons y l=>
   simp only[Qm,List.cons.injEq]at h1;rw[ofNat_inj (b x ay) (c y ay) h1.1,ih h1.2 (λz a=>b z (by simp[a])) (λz a=>c z<|by simp[a])]
theorem key_inj(a:kxl k=true)(hb:kxl l=true)(h:strOfNums k=strOfNums l):k=l:=vx2 a hb (by rw[h])
theorem qku{l:List α}(h:l.Nodup)(hi:i<l.length)(b:j<l.length)(e:l[i]=l[j]):i=j:=by
 obtain a|rfl|a:=Nat.lt_trichotomy i j
 ·exact absurd e (sQ.1 h i j hi b a)
 ·rfl
 ·exact absurd e.symm (sQ.1 h j i b hi a)
structure kvr (w:World)(b:Nat)(ks:List (List Int))(vs:List Value):Prop where
 ents:∃es clock,w.heap[b]?=some (.map es clock)/\es.toList.map (λe=>(e.key,e.val))=(ks.zip vs).map (λp=>(Value.string<|strOfNums p.1,p.2))/\(es.toList.map (·.born)).Nodup/\∀e∈es.toList,e.born<clock
 T:ks.length=vs.length
 nodup:ks.Nodup
 ok:∀k∈ks,kxl k=true/\k.length<=1000
theorem kvr.lt(h:kvr w b ks vs):b<w.heap.size:=by obtain⟨es,c,h1,_⟩:=h.ents;grind
theorem kvr.stay{S:List Nat}(h:kvr w b ks vs)(d:kqg S w w')(hn:b∉S):kvr w' b ks vs:=by obtain⟨es,c,h1,a⟩:=h.ents;exact⟨⟨es,c,d.at h1 hn,a⟩,h.T,h.nodup,h.ok⟩
theorem qwi(h:k.length<=1000):keyOf prog 9 (.string (strOfNums k))=some (.string (strOfNums k).data.toList):=keyS (by rw[strOfNums_size];exact h)
theorem kvr.ent(a:es.toList.map (λe=>(e.key,e.val))=(ks.zip vs).map (λp=>(Value.string (strOfNums p.1),p.2)))(d:ks.length=vs.length)(j:Nat)(c:j<ks.length):∃e,es.toList[j]?=some e/\e.key=.string (strOfNums ks[j])/\e.val=vs[j]:=by
 have b:(es.toList.map<|λe=>(e.key,e.val))[j]?=some (.string<|strOfNums ks[j],vs[j]):=by grind
 grind
theorem kvr.back(a:es.toList.map (λe=>(e.key,e.val))=(ks.zip vs).map (λp=>(Value.string (strOfNums p.1),p.2)))(d:ks.length=vs.length){e:MapEntry}(c:es.toList[j]?=some e):∃(hj:j<ks.length),e.key=.string (strOfNums ks[j])/\e.val=vs[j]:=by
 have b:es.toList.length=ks.length:=by have:=congrArg List.length a;grind
 grind [kvr.ent]
theorem kvr.xze(h:kvr w b ks vs)(d:es.toList.map (λe=>(e.key,e.val))=(ks.zip vs).map (λp=>(Value.string (strOfNums p.1),p.2))):∀e∈es.toList,∃l,keyOf prog 9 e.key=some l:=λe f=>by obtain⟨j,i,g⟩:=wG f;obtain⟨a,c,_⟩:=kvr.back d h.T (j:=j) (e:=e) (by grind);exact⟨_,by rw[c];exact qwi (h.ok _<|wZ a).2⟩
theorem kvr.findKey(h:kvr w b ks vs)(d:es.toList.map (λe=>(e.key,e.val))=(ks.zip vs).map (λp=>(Value.string (strOfNums p.1),p.2)))(i:kxl k=true)(l:k.length<=1000)(w':World):(k∉ks/\(Instr.findKey 9 (.string<|strOfNums k) es.toList).run prog w'=.ok none w')\/∃j e,∃(a:j<ks.length),ks[j]=k/\es.toList[j]?=some e/\e.val=vs[j]'(by rw[<-h.T];exact a)/\(Instr.findKey 9 (.string<|strOfNums k) es.toList).run prog w'=.ok (some (j,e.val)) w':=by
 obtain⟨f1,f2⟩|⟨j,f,f1,f2,f3⟩:=keyed.find w' (qwi l) es.toList<|h.xze d
 ·refine .inl ⟨λm=>?_,f1⟩;obtain⟨j,a,c⟩:=wG m;obtain⟨e,q,s,_⟩:=kvr.ent d h.T j a;grind
 ·obtain⟨a,c,g⟩:=kvr.back d h.T f2;rw[f3]at c;injection c with c;exact .inr ⟨j,f,a,(key_inj i (h.ok _<|wZ a).1 c).symm,f2,g,f1⟩
section
variable {w:World} {b:Nat} {ks:List (List Int)} {vs:List Value} {T E:Nat} {z:Value}
theorem xxl(h:kvr w b ks vs)(f:prog.underlying T=some (.map 9 E))(i:∀w,(zeroValue E).run prog w=.ok z w)(g:kxl k=true)(a:k.length<=1000)(hn:k∉ks)(c:Bool):(Instr.lookup T (.map (some b)) (.string (strOfNums k)) c).run prog w=.ok (if c then .tuple #[z,.bool false] else z) w:=by
 obtain⟨es,l,h1,d,_⟩:=h.ents;obtain⟨_,f1⟩|⟨j,e,p,m,_⟩:=h.findKey d g a w
 ·simp[Instr.lookup,Q7 f,MapKept.run_getObj_map h1,keyed.check w _ (qwi a),f1,i w,Result.andThen]
 grind
theorem pqm(h:kvr w b ks vs)(l:prog.underlying T=some (.map 9 E))(d:j<ks.length)(hv:j<vs.length)(c:Bool):(Instr.lookup T (.map (some b)) (.string (strOfNums ks[j])) c).run prog w=.ok (if c then .tuple #[vs[j],.bool true] else vs[j]) w:=by
 obtain⟨es,m,h1,k,_⟩:=h.ents;have a:=h.ok _<|wZ d;obtain⟨hn,_⟩|⟨i,e,hi,f,_,g,f1⟩:=h.findKey k a.1 a.2 w
 ·simp_all
 ·have:i=j:=qku h.nodup hi d f;subst this;simp[Instr.lookup,Q7 l,MapKept.run_getObj_map h1,keyed.check w _ (qwi a.2),f1,g,Result.andThen]
theorem qxg{w:World}{b:Nat}(h:w.heap[b]?=some (.map es c)):kqg [b] w (ChangeMaps.setBlock w b o):=
 ⟨rfl,rfl,rfl,lV,λk _ hn=>ChangeMaps.heap_setBlock_other h _<|by simp_all⟩
theorem py0(h:kvr w b ks vs)(l:prog.underlying T=some (.map 9 E))(m:kxl k=true)(i:k.length<=1000)(hn:k∉ks)(v:Value):∃w',(Instr.mapUpdate T (.map (some b)) (.string (strOfNums k)) v).run prog w=.ok () w'/\kvr w' b (ks++[k]) (vs++[v])/\kqg [b] w w':=by
 obtain⟨es,f,h1,g,q,s⟩:=h.ents;obtain⟨_,f1⟩|⟨j,e,y,p,_⟩:=h.findKey g m i w
 ·refine⟨ChangeMaps.setBlock w b<|.map (es.push ⟨.string<|strOfNums k,v,f⟩) (f+1),by simp[Instr.mapUpdate,Q7 l,MapKept.run_getObj_map h1,keyed.check w false (qwi i),f1,MapKept.run_setObj_map _ h1,Result.andThen,ChangeMaps.setBlock],⟨⟨_,_,ChangeMaps.heap_setBlock_same h1 _,?_,?_,?_⟩,by simp[h.T],?_,?_⟩,qxg h1⟩
  ·rw[Array.toList_push,Qw,g,List.zip_append h.T,Qw];rfl
  ·grind
  ·grind
  ·rw[Jw];exact⟨h.nodup,ay,λa t c u e=>by simp_all⟩
  ·intro x d;obtain d|d:=rV.1 d
   ·exact h.ok x d
   simp_all
 grind
end
end
def zqc(B:Nat)(w:World)(gc:Nat)(st:List Int)(v:Value):Prop:=w.ownsRow B 5 1 v st.length (st.map (Value.int .u8))/\v.ownBlock≠some gc
def Sep(w:World)(gc:Nat)(S:List Nat):Prop:=∀k∈S,k=gc\/∀cs fr,w.heap[k]?≠some (.cells cs 5 fr)
theorem zqc.stay{S:List Nat}(h:zqc B w gc st v)(d:kqg S w w')(b:Sep w gc S):zqc B w' gc st v:=by
 refine⟨qj7 h.1 d λk a f=>?_,h.2⟩;obtain rfl|hn:=b k f
 ·exact h.2 a
 ·obtain⟨c,fr,e⟩:=qj8 h.1 k (by simp[qqc,a]);simp_all
def pjl(x:SWay)(sa:Option Addr)(sn sc:Nat):Value:=.agg #[.slice sa sn sc,.int .i64 x.J,.string x.E]
def qyk(B:Nat)(w:World)(gc:Nat)(ways:List SWay)(cs:List Value):Prop:=cs.length=ways.length*3/\∀k (hk:k<ways.length),∃sa sn sc,cs[k*3]?=some (.slice sa sn sc)/\cs[k*3+1]?=some (.int .i64 ways[k].J)/\cs[k*3+2]?=some (.string ways[k].E)/\zqc B w gc ways[k].U (.slice sa sn sc)
theorem qyk.stay{S:List Nat}(h:qyk B w gc ways cs)(e:kqg S w w')(d:Sep w gc S):qyk B w' gc ways cs:=
 ⟨h.1,λk f=>by obtain⟨sa,sn,sc,a,b,c,g⟩:=h.2 k f;exact⟨sa,sn,sc,a,b,c,g.stay e d⟩⟩
def zj6(B:Nat)(w:World)(gc:Nat)(f:Fnd)(vs:List Value):Prop:=vs.length=f.length/\∀k (hk:k<f.length),∃sa sn sc,vs[k]?=some (pjl f[k].2 sa sn sc)/\zqc B w gc f[k].2.U (.slice sa sn sc)
theorem zj6.stay{S:List Nat}(h:zj6 B w gc f vs)(c:kqg S w w')(b:Sep w gc S):zj6 B w' gc f vs:=
 ⟨h.1,λk d=>by obtain⟨sa,sn,sc,a,e⟩:=h.2 k d;exact⟨sa,sn,sc,a,e.stay c b⟩⟩
theorem zj6.snoc(h:zj6 B w gc f vs)(m:zqc B w gc x.U (.slice sa sn sc)):zj6 B w gc (f++[(k,x)]) (vs++[pjl x sa sn sc]):=by
 refine⟨by simp[h.1],λj l=>?_⟩;by_cases b:j<f.length
 ·obtain⟨d,g,e,i,c⟩:=h.2 j b;grind
 ·have:j=f.length:=by grind
  subst this;have a:(f++[(k,x)])[f.length]=(k,x):=ay;refine⟨sa,sn,sc,?_,by simp_all⟩;rw[a,Ji (by rw[h.1];simp),h.1,Nat.sub_self];rfl
structure kjy (B:Nat)(w:World)(S O M gc cc sb fb:Nat)(ts:List Turn)(s:SSt):Prop where
 e:∃la ll lc cs,w.heap[S]?=some (.cells #[.pointer (some ⟨O,0,none⟩),.slice la ll lc,.map (some sb),.map (some fb)] 170 (0,0))/\w.ownsRow B 173 3 (.slice la ll lc) s.m.length cs/\qyk B w gc s.m cs
 orb:∃tv,jva B w O M gc cc ts s.cur tv
 Z:∃vs,kvr w sb s.Z vs/\∀v∈vs,v=.agg #[]
 P:∃vs,kvr w fb (s.P.map (·.1)) vs/\zj6 B w gc s.P vs
 ne:sb≠fb
 ge:B<=S/\B<=gc/\B<=sb/\B<=fb
theorem kjy.jj8(h:kjy B w S O M gc cc sb fb ts s)(l:e≠5):qke w [gc,fb,sb] e:=by
 intro k d c fr j;simp only[tZ,Qu,or_false]at d;obtain rfl|rfl|rfl:=d
 ·obtain⟨tv,g⟩:=h.orb;obtain⟨c2,i,b⟩:=g.ty k ay;simp_all
 ·obtain⟨vs,a,_⟩:=h.P;obtain⟨es,f,b,_⟩:=a.ents;simp_all
 ·obtain⟨vs,a,m⟩:=h.Z;obtain⟨es,f,b,_⟩:=a.ents;simp_all
theorem kjy.sep(h:kjy B w S O M gc cc sb fb ts s):Sep w gc [gc,fb,sb]:=by
 intro k b;simp only[tZ,Qu,or_false]at b;obtain rfl|rfl|rfl:=b
 ·simp
 ·refine .inr λc fr e=>?_
  obtain⟨vs,a,_⟩:=h.P;obtain⟨es,d,f,_⟩:=a.ents;simp_all
 ·refine .inr λc fr e=>?_
  obtain⟨vs,a,g⟩:=h.Z;obtain⟨es,d,f,_⟩:=a.ents;simp_all
theorem jy4(hn:qke w p e)(h:w.heap[b]?=some (.cells d9 e fr)):b∉p:=λa=>hn b a _ _ h
theorem OwnRows.xzj(h:OwnRows B w tv ls)(d:kqg p w w')(h1:qke w p 31)(f:qke w p 3):OwnRows B w' tv ls:=by obtain⟨la,ll,lc,cs,e,g,b⟩:=h;exact⟨la,ll,lc,cs,e,kkv g d h1,b.1,λk i=>by obtain⟨a,n,c,e,j⟩:=b.2 k i;exact⟨a,n,c,e,kkv j d f⟩⟩
theorem kz6.xzj(h:kz6 B w tv ts)(b:kqg p w w')(c:qke w p 256)(h1:qke w p 31)(d:qke w p 3):kz6 B w' tv ts:=by obtain⟨la,ll,lc,cs,e,f,a⟩:=h;exact⟨la,ll,lc,cs,e,kkv f b c,a.1,λk g=>by obtain⟨v,e,i⟩:=a.2 k g;exact⟨v,e,i.xzj b h1 d⟩⟩
theorem kjy.turned(h : kjy B w S O M gc cc sb fb ts s)(a : kqg [gc,fb,sb] w w'){cur:List Int}(d : cur.length = s.cur.length)(j : w'.ownsRow B 5 1 (.slice (some ⟨gc,0,none⟩) s.cur.length cc) s.cur.length (cur.map (Value.int .u8)))(b : kvr w' sb seen vs)(e : ∀v∈vs,v = .agg #[])(i : kvr w' fb (f.map (·.1)) xs)(hv : zj6 B w' gc f xs):kjy B w' S O M gc cc sb fb ts ⟨s.m,seen,f,cur⟩:=by
 obtain⟨la,ll,lc,cs,g,k,l⟩:=h.e
 obtain⟨tv,c⟩:=h.orb
 refine⟨⟨la,ll,lc,cs,a.at g<|jy4 (h.jj8 ak) g,kkv k a<|h.jj8 ak,l.stay a h.sep⟩,⟨tv,?_,c.turns.xzj a (h.jj8 ak) (h.jj8 ak)<|h.jj8 ak,by simp_all⟩,⟨vs,b,e⟩,⟨xs,i,hv⟩,h.ne,h.ge⟩
 show w'.heap[O]? = some (.cells #[_,_,.slice _ cur.length _] _ _)
 rw [d]
 exact a.at c.e<|jy4 (h.jj8 ak) c.e
theorem kjy.pxt(h:kjy B w S O M gc cc sb fb ts s):fb≠gc/\sb≠gc:=by obtain⟨tv,c⟩:=h.orb;obtain⟨c2,f,i⟩:=c.ty gc ay;obtain⟨vs,b,_⟩:=h.P;obtain⟨es,g,j,_⟩:=b.ents;obtain⟨us,a,_⟩:=h.Z;obtain⟨e,d,k,_⟩:=a.ents;grind
theorem kjy.cur(h:kjy B w S O M gc cc sb fb ts s)(a:kqg [gc] w w'){cur:List Int}(c:cur.length=s.cur.length)(b:w'.ownsRow B 5 1 (.slice (some ⟨gc,0,none⟩) s.cur.length cc) s.cur.length (cur.map (Value.int .u8))):kjy B w' S O M gc cc sb fb ts ⟨s.m,s.Z,s.P,cur⟩:=by obtain⟨vs,e,f⟩:=h.Z;obtain⟨us,d,hv⟩:=h.P;exact h.turned (a.wide ay) c b (e.stay a<|by simpa using h.pxt.2) f (d.stay a<|by simpa using h.pxt.1) (hv.stay a λk a=>by simp_all)
theorem kjy.below(h:kjy B w S O M gc cc sb fb ts s)(hb:oq w w'):kjy B w' S O M gc cc sb fb ts s:=by obtain⟨tv,a⟩:=h.orb;exact h.cur (.of_below hb) rfl<|qj a.xu hb
theorem zqc.below(h:zqc B w gc st v)(hb:oq w w'):zqc B w' gc st v:=⟨qj h.1 hb,h.2⟩
theorem kjy.lts(h:kjy B w S O M gc cc sb fb ts s):S<w.heap.size/\O<w.heap.size/\gc<w.heap.size/\sb<w.heap.size/\fb<w.heap.size:=by obtain⟨la,ll,lc,cs,e,_,_⟩:=h.e;obtain⟨tv,a⟩:=h.orb;obtain⟨c2,f,b⟩:=a.ty gc ay;obtain⟨vs,d,g⟩:=h.Z;obtain⟨us,c,_⟩:=h.P;exact⟨wQ e,wQ a.e,wQ b,d.lt,c.lt⟩
theorem xj9(w:World):(zeroValue 173).run prog w=.ok (.agg #[.slice none 0 0,.int .i64 0,.string ⟨#[]⟩]) w:=ay
theorem pkx(w:World):(zeroValue 264).run prog w=.ok (.agg #[]) w:=ay
abbrev FiS(S b O fb:Nat)(sv:Value)(fr:Int)(tx:ByteArray)(w:World):Prop:=w.cell? ⟨S,0,none⟩=some (.pointer (some ⟨O,0,none⟩))/\w.cell? ⟨S,3,none⟩=some (.map (some fb))/\w.cell? ⟨b,0,none⟩=some sv/\w.cell? ⟨b,1,none⟩=some (.int .i64 fr)/\w.cell? ⟨b,2,none⟩=some (.string tx)
theorem FiS.stay(h:FiS S b O fb sv b7 a8 w)(d:kqg L w w')(e:S∉L)(hb:b∉L)(a:S<w.heap.size)(c:b<w.heap.size):FiS S b O fb sv b7 a8 w':=by obtain⟨i,s1,j,s3,k⟩:=h;have f:=d.block S a e;have g:=d.block b c hb;grind [World.cell?_of_block]
theorem xx4(h:k∈f.map (·.1)):qzc f k x=f:=by grind [qzc]
theorem xqr(h:k∉f.map (·.1)):qzc f k x=f++[(k,x)]:=by grind [qzc]
theorem vxg(sa:Option Addr)(sn sc:Nat)(h:kjy B w S O M gc cc sb fb ts s)(hm:Mc 0 w M nb a.z a.C)(hx:zqc B w gc x.U (.slice sa sn sc))(hv:a.z.length<=1000)(aG:ts.length<=1000000)(hB:B<=w.heap.size){X:Fnd×List Int}(l:qx9 a ts x s.P s.cur=some X):Calls prog 76 #[.pointer (some ⟨S,0,none⟩),.agg #[.slice sa sn sc,.int .i64 x.J,.string x.E]] w λe w'=>e=.returned (.tuple #[])/\kjy B w' S O M gc cc sb fb ts ⟨s.m,s.Z,X.1,X.2⟩/\Below B w w':=by
 unfold qx9 at l;have hc:0<x.U.length/\x.U.length=s.cur.length/\x.U.length<=1000:=by grind
 rw[lJ hc]at l;obtain⟨a8,F,aO⟩:=hc;obtain⟨q,hq,l⟩:=wu.1 l;have G:kxl q.1=true:=by simp_all
 rw[lJ G]at l;injection l with l;subst l;have T:=zjn _ _ _ _ _ F.symm hq;obtain⟨W,J⟩:=cpy<|w.alloc (.cells #[.slice sa sn sc,.int .i64 x.J,.string x.E] 173);have a7:oq w W:=by rw[J];exact jZ w
 have aF:w.heap.size<W.heap.size:=by simp_all
 have hR:W.heap[w.heap.size]?=some (.cells #[.slice sa sn sc,.int .i64 x.J,.string x.E] 173 (0,0)):=by rw[J];exact qy
 obtain⟨aN,aL,aS,aT,aQ⟩:=h.lts;have v:oq w W.drew:=a7.drew;have z:=h.below v;obtain⟨tv,ho⟩:=z.orb;obtain⟨la,ll,lc,cs,r1,_,_⟩:=z.e;obtain⟨b0,b1,b2,_⟩:=row3 (hR:W.drew.heap[w.heap.size]?=some (.cells #[.slice sa sn sc,.int .i64 x.J,.string x.E] 173 (0,0)));obtain⟨z0,z1,z2,z3,_⟩:=kz3 r1;have V:=hx.below v;have aM:S≠gc:=λe=>jy4 (z.jj8 (e:=170) ak) r1 (by simp[e])
 have a4:=px6 ho (hm.below v) (qo jR V.1) V.2 hv a8 F aj aG hq;have D:=show FiS S w.heap.size O fb (.slice sa sn sc) x.J x.E W.drew from⟨z0,z3,b0,b1,b2⟩
 have a3:=v.mono hB;obtain⟨a6,N⟩:=ju J.symm T;have R:q.1.length<=1000:=aj;clear l hq J hR r1 b0 b1 b2 z0 z1 z2 z3 T F;go_in;go_upto_region 1 with fail
 rw[a6];refine bg (S:=FiS S w.heap.size O fb (.slice sa sn sc) x.J x.E) (tl:=[7,8]) au ?_;refine frS 0 ?_;refine frS 1 ?_;refine frS 2 ?_;refine tkS 3 D ?_;refine frS 4 ?_;refine tkS 5 D ?_;refine onS 6 λK p=>?_
 go_simp;go_at_call 129
 refine a4.mono ?_;rintro e d ⟨ga,ca,rfl,aR,aB,L,g⟩;have aJ:W.heap.size<=d.heap.size:=g.size;have E:=D.stay g (by simp_all) (by grind) (by omega:S<W.heap.size) aF;have A:=z.cur g (cur:=q.2) N.2 L;have y:=a3.trans (g.below (by omega:B<=W.heap.size) (λk f=>by simp at f;subst f;exact z.ge.2.1));have aP:(convert 95 9<|.slice (some ⟨ga,0,none⟩) x.U.length ca).run prog d=.ok (.string<|strOfNums q.1) d:=by have aC:q.1.length=x.U.length:=N.1;obtain⟨xa,xc,e1,hv⟩:=(qk6 (by rw[aC];exact aB));grind [run_convert_bytes_arg,underlying95,underlying5,underlying9]
 dsimp only;refine p _ _ E ?_;try simp
 refine kyj ?_;refine onA 7 λK p=>?_
 go_simp;refine p _ _ ?_;refine onA 8 λK p=>?_
 go_simp;refine p _ _ ?_;refine wpAny_done au ?_ _;obtain⟨us,C,a0⟩:=A.P;obtain⟨s0,s1,s2,s3,s4⟩:=ku E;have Y:S<d.heap.size:=aj;have Z:w.heap.size<d.heap.size:=aj;by_cases i:q.1∈s.P.map (·.1)
 ·obtain⟨j,hj,ej⟩:=wG i;have aA:j<s.P.length:=by grind
  have Q:j<us.length:=by rw[<-C.T];exact hj
  have m:=pqm C underlying167 hj Q true;rw[ej]at m;simp at m;obtain⟨ta,tn,tc,t,-⟩:=a0.2 j aA;rw[wW Q]at t;injection t with t;rw[t,pjl]at m;have U:=λ(o:Obj)=>(show kjy B (d.alloc o) S O M gc cc sb fb ts ⟨s.m,s.Z,qzc s.P q.1 x,q.2⟩/\Below B w (d.alloc o) by rw[xx4 i];exact⟨A.below<|jZ _,y.alloc (by omega:B<=d.heap.size) _⟩)
  generalize s.P[j].2.J=yf at *;generalize s.P[j].2.E=ys at *;go_wp2;go_end0;simp_all
 ·have m:=xxl C underlying167 xj9 G R i true;simp at m;obtain⟨w4,I⟩:=cpy<|d.alloc (.cells #[.slice none 0 0,.int .i64 0,.string ⟨#[]⟩] 173);have u:oq d w4.drew:=by rw[I];exact(jZ _).drew
  have aK:d.heap.size<=w4.heap.size:=by simp_all
  have c:=A.below u;obtain⟨aV,a9,a1⟩:=c.P;obtain⟨w5,aI,a2,b⟩:=py0 a9 underlying167 G R i<|.agg #[.slice sa sn sc,.int .i64 x.J,.string x.E];have P:=E.stay (kqg.of_below (S:=[]) u) ay ay Y Z;have U:=show kjy B w5 S O M gc cc sb fb ts ⟨s.m,s.Z,qzc s.P q.1 x,q.2⟩/\Below B w w5 by
   obtain⟨aW,aE,aH⟩:=c.Z;obtain⟨aU,aD⟩:=c.orb;have H:Sep w4.drew gc [fb]:=λk f=>c.sep k (by simp_all)
   rw[xqr i];refine⟨c.turned (cur:=q.2) (b.wide ay) rfl ?_ (aE.stay b<|by simpa using c.ne) aH (by rw[Qw];exact a2) ((a1.stay b H).snoc<|((V.stay g<|λk f=>by simp_all).below u).stay b H),?_⟩
   ·exact qj7 aD.xu b (λk f hm=>by injection f with f;have e1:gc=k:=f;simp at hm;exact c.pxt.1 aj)
   ·exact(y.trans<|u.mono aj).trans (b.below (by omega:B<=w4.heap.size) (λk f=>by simp at f;subst f;exact c.ge.2.2.2))
  have a5:=oz I.symm;clear i I s2 s3 s4;go_upto_region 4 with fail
  rw[a5];refine bg (S:=FiS S w.heap.size O fb (.slice sa sn sc) x.J x.E) (tl:=[6]) au ?_;refine frS 0 ?_;try simp
  refine frS 1 ?_;try simp
  refine frS 2 ?_;try simp
  refine tkS 3 P ?_;try simp
  refine frS 4 ?_;try simp
  refine tkS 5 P ?_;try simp
  refine kyj ?_;refine onA 6 λK p=>?_
  go_simp;refine p _ _ ?_;refine wpAny_done au ?_ _;go_wp2;go_end0;simp_all
theorem jq6(d:w.ownsRow lo 95 1 (.slice la ll lc) cs.length cs)(h:qyu .u8 w cs ls)(hn:cs.length<=1000000):Calls prog 189 #[.slice la ll lc] w λe w'=>e=.returned (.tuple #[])/\∃S,(∀k∈S,(Value.slice la ll lc).ownBlock=some k)/\qzb S lo 95 w (.slice la ll lc) cs ls w':=by
 obtain⟨b,i⟩|⟨g,cap,cur,b,i,l,B⟩:=d.2
 ·injection b with b f c;subst b;subst f;subst c;have p:cs=[]:=Qv i;subst p;have s:ls=[]:=Qv h.1;subst s;have a:=AnyF.slices_SortFunc_none (P:=prog) (ρ:=Tryz.sortS_ren) {Tryz.sortS with} none 0 (.func (.func 229) #[] #[]) w;change og 230 _ _ _ at a
  have A:=oz d;clear i hn;go_in;go_wp2_with (go_at_call 230;refine a.mono ?_;rintro e w' ⟨rfl,rfl⟩)
  go_end0;exact⟨rfl,[],ay,kqg.refl _ _,[],List.Perm.refl _,A,rfl⟩
 ·injection b with b f c;subst b;subst f;subst c;have C:∀args w,(callFunc 229 args).run prog w=.ok (.enter 229 args) w:=enters_of func229 au rfl;have a:=Any.slices_SortFunc Tryz.sortS (qy8 cs) (vxt h.slices) (λx y=>cmpL (kxh ls x)<|kxh ls y) (vxf<|kxh ls) 229 #[] g 0 lc (Array.range cs.length) w C (λm os j _ x y=>by have v:=h.sorting d m os j x;have z:=h.sorting d m os j y;exact(zxg v.1 z.1 v.2 z.2).mono λ_ _ ⟨D,q,F⟩=>⟨D,q,#[],by simp_all⟩) (pyr d) (wQ l) (by grind)
  change og 230 _ _ _ at a
  simp only[Array.size_range]at a;have E:=oz (λ(d':Array Nat) (m:Nat) (os:Array Obj) t u=>zvb (ls:=ls) d h.1 (d':=d') (m:=m) (os:=os) t u);clear i l B hn;go_in;go_wp2_with (go_at_call 230;refine a.mono ?_;rintro e w' ⟨rfl,d',n,os,t,u,rfl⟩)
  go_end0;grind [Value.ownBlock,ku]
def zwu(w:World)(v:Value)(l:List Int):Prop:=kyy .u8 w v l/\∀k,v.ownBlock=some k->∃cs fr,w.heap[k]?=some (.cells cs 5 fr)
theorem zwu.stay{S:List Nat}(h:zwu w v l)(b:kqg S w w')(c:qke w S 5):zwu w' v l:=by
 have hn:∀k,v.ownBlock=some k->k∉S:=λk a d=>by obtain⟨cs,fr,e⟩:=h.2 k a;exact c k d _ _ e
 exact⟨h.1.stay b hn,λk a=>by obtain⟨cs,fr,e⟩:=h.2 k a;exact⟨cs,fr,b.at e<|hn k a⟩⟩
def qyy(w:World)(cs:List Value)(ls:List (List Int)):Prop:=ls.length=cs.length/\∀k (hk:k<cs.length) (hl:k<ls.length),zwu w cs[k] ls[k]/\ls[k].length<=1000000
theorem qyy.at(h:qyy w cs ls):qyu .u8 w cs ls:=⟨h.1,λk a b=>⟨(h.2 k a b).1.1,(h.2 k a b).2⟩⟩
theorem qyy.stay{S:List Nat}(h:qyy w cs ls)(d:kqg S w w')(c:qke w S 5):qyy w' cs ls:=⟨h.1,λk a b=>⟨(h.2 k a b).1.stay d c,(h.2 k a b).2⟩⟩
theorem qyy.snoc(h:qyy w cs ls)(hv:zwu w v l)(g:l.length<=1000000):qyy w (cs++[v]) (ls++[l]):=by
 refine⟨by simp[h.1],λk f d=>?_⟩;by_cases b:k<cs.length
 ·have a:k<ls.length:=by rw[h.1];exact b
  rw[Qn b,Qn a];exact h.2 k b a
 ·have c:k=cs.length:=by grind
  have e:(ls++[l])[k]=l:=by simp[c,<-h.1]
  simp_all
def kko(B:Nat)(w:World)(v:Value)(ls:List (List Int)):Prop:=∃la ll lc cs,v=.slice la ll lc/\w.ownsRow B 95 1 (.slice la ll lc) ls.length cs/\qyy w cs ls
theorem xvd(c:kxl k=true)(h:k.length<=B)(a:w.heap[g]?=some (.cells (bytesRow (strOfNums k) B) 5 fr)):zwu w (.slice (some ⟨g,0,none⟩) k.length B) k:=by
 refine⟨⟨some ⟨g,0,none⟩,B,rfl,λd=>⟨g,rfl,wQ a,λj b=>?_⟩⟩,λq eq=>?_⟩
 ·unfold World.cell?;simp only[a];have e:=jj3 c k[j] (wZ b);grind [bytesRow,strOfNums,UInt8.toNat_ofNat']
 ·injection eq with eq;grind
structure Came (n:Nat)(p:List Nat):Prop where
 nodup:p.Nodup
 lt:∀j∈p,j<n
theorem pk0(h:Came n p)(a:∀j,j<n->j∈p):p.Perm (List.range n):=
 (List.perm_ext_iff_of_nodup h.nodup Za).2 λj=>⟨λb=>Qo.2<|h.lt j b,λb=>a j<|Qo.1 b⟩
theorem vxn(ls:List (List Int)):(List.range ls.length).map (kxh ls)=ls:=by apply Jm;grind [kxh]
theorem jx4(h:ks.Perm ls):sortL ks=sortL ls:=zzy ((kz7 ks).trans h)<|qv7 ks
def jzj(es:Array MapEntry)(j:Nat):Nat:=((es.toList[j]?).map (·.born)).getD 0
theorem qkf(h:es.toList[j]?=some g4):jzj es j=g4.born:=by unfold jzj;simp_all
theorem vy5(hn:(es.toList.map (·.born)).Nodup)(hi:i<es.toList.length)(a:j<es.toList.length)(e:jzj es i=jzj es j):i=j:=by rw[qkf (wW hi),qkf (wW a)]at e;exact qku hn (by grind) (by grind) (by simp_all)
def qj2(es:Array MapEntry)(p:List Nat):Array Nat:=(p.map (jzj es)).toArray
theorem left_at(a:g4∈(leftOf es (qj2 es p)).toList):∃j,es.toList[j]?=some g4/\j∉p:=by
 unfold leftOf at a;simp only[Zh,Ju]at a;obtain⟨j,d,b⟩:=wG a.1;refine⟨j,by grind,λe=>?_⟩;have c:(qj2 es p).contains g4.born=true:=by unfold qj2;rw[List.contains_toArray,ZB];grind [qkf]
 simp_all
theorem px5(hn:(es.toList.map (·.born)).Nodup)(d:∀j∈p,j<es.toList.length)(h:(leftOf es (qj2 es p)).size=0):∀j,j<es.toList.length->j∈p:=by
 intro j b;apply Qp;intro c;have a:es.toList[j]∈(leftOf es<|qj2 es p).toList:=by unfold leftOf;simp only[Zh,Ju];grind [qj2,qkf,vy5]
 simp_all
theorem vvz(p:List Nat)(h:es.toList[j]?=some g4):(qj2 es p).push g4.born=qj2 es (p++[j]):=by grind [qj2,qkf]
theorem vk1(h:Came n p):p.length<=n:=rP (h.nodup.length_le_of_subset λj a=>Qo.2<|h.lt j a) ay
theorem qqt(h:w.heap[r]?=some (.mapIter d8 b came c)):w.iterSeen r=came:=by unfold World.iterSeen;rw[h]
theorem qyy.sorted(h:qyy w cs ls)(s:w.ownsRow lo 95 1 (.slice la ll lc) cs.length cs)(q:∀k∈L,(Value.slice la ll lc).ownBlock=some k)(u:qzb L lo 95 w (.slice la ll lc) cs ls w'):kko lo w' (.slice la ll lc) (sortL ls):=by
 obtain⟨j,p,a,t,x⟩:=u;have y:p.length=cs.length:=by rw[a.length_eq];simp
 have i:qke w L 5:=by intro k f c fr e;obtain⟨c2,v,z⟩:=qj8 s k (by simp[qqc,q k f]);simp_all
 refine⟨la,ll,lc,p.map<|qy8 cs,rfl,by simp_all,by simp_all,λk f A=>?_⟩;have g:k<p.length:=by simp_all
 have b:=jqo a g;have d:p[k]<ls.length:=by rw[h.1];exact b
 have e5:(sortL ls)[k]=ls[p[k]]:=by grind [kxh]
 have l:(p.map<|qy8 cs)[k]=cs[p[k]]:=by grind [qy8]
 rw[e5,l];obtain⟨h1,m⟩:=h.2 p[k] b d;exact⟨h1.stay j i,m⟩
theorem vv4(h:kvr w fb ks vs)(hl:ks.length<=100000):Calls prog 130 #[.map (some fb)] w λe w'=>∃v,e=.returned v/\kko w.heap.size w' v (sortL ks)/\oq w w':=by
 obtain⟨es,clock,H1,h2,H3,h4⟩:=h.ents;have aM:=h.lt;have aC:es.toList.length=ks.length:=by have:=congrArg List.length h2;simp[h.T]at this;simp;rw[h.T];omega
 obtain⟨W,hW⟩:=cpy<|w.alloc (.mapIter (some fb) clock #[] clock);have aK:oq w W:=jM;have hR:W.heap[w.heap.size]?=some (.mapIter (some fb) clock #[] clock):=by rw[hW];exact jF
 have aY:=run_range_map (P:=prog) w 167 9 173 fb es clock underlying167 H1;obtain⟨HM,a7⟩:=ju h aC;go_in;go_wp21;rw[(oz hW.symm)];go_loopw [3,4] (λx _ wr=>∃p:List Nat,Came ks.length p/\kko w.heap.size wr x (p.map<|kxh ks)/\wr.heap[w.heap.size]?=some (.mapIter (some fb) clock (qj2 es p) clock)/\oq w wr) (λ_ _ wr=>ks.length-(wr.iterSeen w.heap.size).size);exact⟨[],(⟨Jd,ay⟩:Came ks.length []),(⟨none,0,0,[],rfl,jE,rfl,λk q=>ay⟩:kko w.heap.size W (.slice none 0 0) (([]:List Nat).map<|kxh ks)),hR,aK⟩;obtain⟨p,f,a3,B,hb⟩:=hrel;have a4:=hb.size;have H:wr.heap[fb]?=some (.map es clock):=(hb.block fb aM).trans H1;have aX:=vk1 f;have aZ:=wQ B;obtain⟨hz,z⟩|⟨e,he,w1,M,z⟩:=run_next_at (P:=prog) wr 0 w.heap.size fb clock clock (qj2 es p) es clock B H h4<|jH
 ·have aA:=px5 H3 (λj y=>by rw[a7];exact f.lt j y) hz;obtain⟨la,ll,lc,cs,rfl,J,l⟩:=a3;have s:wr.ownsRow w.heap.size 95 1 (.slice la ll lc) cs.length cs:=by rw[<-l.1];omega
  have aS:cs.length<=100000:=by rw[<-l.1];grind
  have aJ:=show sortL (p.map<|kxh ks)=sortL ks from jx4 (by have:=(pk0 f<|λj y=>aA j aj).map<|kxh ks;rw[vxn]at this;omega)
  go_wp21;refine(jq6 s l.at aj).mono ?_;rintro e w5 ⟨rfl,S,hS,C⟩;have HX:=l.sorted s hS C;rw[aJ]at HX;go_wp2;go_ret;exact⟨_,rfl,HX,(hb.trans<|C.1.below a4 (λk q=>(jo s) k<|hS k q))⟩
 ·obtain⟨j,y,aO⟩:=left_at he;obtain⟨aN,F,_⟩:=kvr.back h2 HM.T y;have Y:e∈es.toList:=wB y;have G:oq w w1:=by obtain rfl|rfl:=M;exact hb;exact hb.drew
  have a2:w1.heap=wr.heap:=by obtain rfl|rfl:=M<;>rfl
  obtain⟨d,N⟩:=cpy<|ChangeMaps.setBlock w1 w.heap.size (.mapIter (some fb) clock ((qj2 es p).push e.born) clock);have g:kqg [w.heap.size] wr d:=by rw[N];refine⟨G.os.trans hb.os.symm,G.tape.trans hb.tape.symm,G.output.trans hb.output.symm,by simp[ChangeMaps.setBlock,a2],λk q hn=>?_⟩;grind [ChangeMaps.setBlock]
  have m:d.heap[w.heap.size]?=some (.mapIter (some fb) clock ((qj2 es p).push e.born) clock):=by grind [ChangeMaps.setBlock]
  have I:d.heap[fb]?=some (.map es clock):=g.at H (by grind);have aB:=run_entry_at (P:=prog) d w.heap.size fb clock (qj2 es p) es clock e m I Y H3;rw[F]at z aB;rw[<-N]at z;have a1:=HM.ok _<|wZ aN;have V:oq w d:=hb.trans<|g.below a4 ay;have aP:qke wr [w.heap.size] 5:=λk q c fr e1=>by simp_all
  have aD:qke wr [w.heap.size] 95:=λk q c fr e1=>by simp_all
  obtain⟨la,ll,lc,cs,rfl,J,l⟩:=a3;have K:=l.stay g aP;have D:=vvz p y;rw[D]at m;have R:Came ks.length (p++[j]):=⟨by rw[Jw];exact⟨f.nodup,ay,λa ha b V e2=>by simp_all⟩,λi A=>by
   obtain A|A:=rV.1 A
   ·exact f.lt i A
   simp_all⟩
  have aF:=vk1 R;rw[rD,JC]at aF;have O:kxh ks j=ks[j]:=by grind [kxh]
  have X:=run_bytes_of_string (P:=prog) d 9 95 5 (strOfNums ks[j]) underlying9 underlying95 underlying5;rw[strOfNums_size]at X;have a0:=grownCap_ge d ks[j].length 0 5;generalize grownCap d ks[j].length 0 5=cap at *;obtain⟨w3,E⟩:=cpy<|d.drew.alloc (.cells (bytesRow (strOfNums ks[j]) cap) 5 ((bytesRow (strOfNums ks[j]) cap).size,(bytesRow (strOfNums ks[j]) cap).size+1));rw[<-E]at X;have t:oq d w3:=by rw[E];exact(Below.refl _ d).drew.trans (jZ d.drew)
  have Z:w3.heap[d.heap.size]?=some (.cells (bytesRow (strOfNums ks[j]) cap) 5 ((bytesRow (strOfNums ks[j]) cap).size,(bytesRow (strOfNums ks[j]) cap).size+1)):=by rw[E];exact Xk d.drew _
  have aL:=xvd a1.1 a0 Z;have aU:=t.size;have aT:=g.size;have aH:=(t.block w.heap.size aj).trans m;have aG:=V.trans<|t.mono aj;have T:=qj (kkv J g aD) t;have a9:=(K.stay (kqg.of_below (S:=[]) t)<|λk q=>by simp_all).snoc aL aj;have a8:=show p.map (kxh ks)++[ks[j]]=(p++[j]).map (kxh ks) by simp_all
  have aI:=oz (by simp:(p.map<|kxh ks).length=p.length);have aV:=show(wr.iterSeen w.heap.size).size=p.length by rw[(qqt B)];simp[qj2]
  generalize p.map (kxh ks)=Lg at *;have aW:Lg.length<=100000:=by rw[aI];omega
  generalize ks[j]=kj at *;clear B m H I D M N E Z a1 O a2 he Y y aO F a0;go_wp2_with (at_builtin;refine apO (T.alloc _) ?_)
  intro v6 w6 Q u _ aR;obtain⟨a6,l6,c6,rfl⟩:=qh Q;have L:kqg (qqc<|.slice la ll lc) w3 w6:=((kqg.refl _ w3).alloc _).grown u (λk q=>.inl<|by simp[qqc,q]);have aE:qke w3 (qqc<|.slice la ll lc) 5:=λk q c fr e1=>by grind [qj8]
  have U:=show kko w.heap.size w6 (.slice a6 l6 c6) (Lg++[kj]) from⟨a6,l6,c6,_,rfl,by simp_all,a9.stay L aE⟩
  have aQ:w.heap.size∉qqc (.slice la ll lc):=λhm=>by grind [qj8]
  have a5:=L.at aH aQ;rw[a8]at U;go_wp2;go_roundw
  case rel=>exact⟨p++[j],R,U,a5,((aG.alloc aj _).grown u ah<|jo T)⟩
  grind [qqt,qj2]
abbrev FZ:=List ((List Int×SWay)×Value)
variable {Z:FZ}
def jz0(z:(List Int×SWay)×Value):Value×Value:=(.string (strOfNums z.1.1),z.2)
structure qve (B:Nat)(w:World)(gc:Nat)(es:List MapEntry)(Z:FZ):Prop where
 eq:es.map (λe=>(e.key,e.val))=Z.map jz0
 nodup:(Z.map λz=>z.1.1).Nodup
 ok:∀z∈Z,kxl z.1.1=true/\z.1.1.length<=1000
 way:∀z∈Z,∃sa sn sc,z.2=pjl z.1.2 sa sn sc/\zqc B w gc z.1.2.U (.slice sa sn sc)
theorem zip_map{c:Type}(f:α->c):∀(l:List α)(m:List β),(l.map f).zip m=(l.zip m).map λz=>(f z.1,z.2)
 |[],_=>ay
 |_::_,[]=>ay
 |a::l,b::m=>by simp[zip_map f l m]
theorem zip_fst:∀(l:List α)(m:List β),l.length=m.length->(l.zip m).map (·.1)=l
 |[],_,_=>ay
 |_::_,[],h=>by simp at h
 |a::l,b::m,h=>by simp at h;simp[zip_fst l m h]
theorem zip_unzip:∀(Z:List (α×β)),(Z.map (·.1)).zip (Z.map (·.2))=Z
 |[]=>rfl
 |z::Z=>by simp[zip_unzip Z]
theorem xzn(h:kvr w fb (f.map (·.1)) vs)(hv:zj6 B w gc f vs):∃es clock,w.heap[fb]?=some (.map es clock)/\(es.toList.map (·.born)).Nodup/\(∀e∈es.toList,e.born<clock)/\qve B w gc es.toList (f.zip vs):=by
 obtain⟨es,c,h1,d,g,i⟩:=h.ents;have j:f.length=vs.length:=hv.1.symm;refine⟨es,c,h1,g,i,?_,?_,λz a=>?_,λz a=>?_⟩
 ·rw[d,zip_map,Jz];rfl
 ·have:((f.zip vs).map λz=>z.1.1)=f.map (·.1):=by rw[show(λz:(List Int×SWay)×Value=>z.1.1)=(λy:List Int×SWay=>y.1)∘(·.1) from rfl,<-Jz,zip_fst f vs j]
  rw[this];exact h.nodup
 ·exact h.ok _ (tY.2 ⟨z.1,(List.of_mem_zip a).1,rfl⟩)
 ·obtain⟨k,p,e⟩:=wG a;rw[List.getElem_zip]at e;have b:k<f.length:=by grind
  obtain⟨sa,sn,sc,l,m⟩:=hv.2 k b;grind
theorem xzr(h1:w.heap[fb]?=some (.map es clock))(c:(es.toList.map (·.born)).Nodup)(d:∀e∈es.toList,e.born<clock)(h:qve B w gc es.toList Z):kvr w fb ((Z.map (·.1)).map (·.1)) (Z.map (·.2))/\zj6 B w gc (Z.map (·.1)) (Z.map (·.2)):=by
 refine⟨⟨⟨es,clock,h1,?_,c,d⟩,ay,by rw[Jz];exact h.nodup,λk a=>?_⟩,ay,λk a=>?_⟩
 ·rw[h.eq,zip_map,zip_unzip,Jz];rfl
 ·obtain⟨y,f,rfl⟩:=tY.1 a;obtain⟨z,g,rfl⟩:=tY.1 f;exact h.ok z g
 ·have b:k<Z.length:=by simp_all
  obtain⟨sa,sn,sc,i,j⟩:=h.way Z[k] (wZ b);grind
theorem qve.stay{S:List Nat}(h:qve B w gc g6 Z)(d:kqg S w w')(c:Sep w gc S):qve B w' gc g6 Z:=
 ⟨h.eq,h.nodup,h.ok,λz e=>by obtain⟨sa,sn,sc,a,b⟩:=h.way z e;exact⟨sa,sn,sc,a,b.stay d c⟩⟩
def qvm(seen:List (List Int))(v:Value):Bool:=seen.any λk=>match v with|.string s=>s.data.toList==(strOfNums k).data.toList|_=>false
theorem jk3(b:∀x∈seen,kxl x=true)(a:kxl k=true):qvm seen (.string (strOfNums k))=seen.any λx=>x==k:=by grind [qvm,vx2]
def qz9(seen:List (List Int))(came:Array Nat)(e:MapEntry):Bool:=!(came.contains e.born&&qvm seen e.key)
theorem pjz(hn:(g6.map (·.born)).Nodup)(a:g4∈g6)(hb:g7∈g6)(e:g4.born=g7.born):g4=g7:=by obtain⟨i,hi,rfl⟩:=wG a;obtain⟨j,b,rfl⟩:=wG hb;have:i=j:=qku hn (by simp_all) (by simp_all) (by simp_all);simp_all
theorem vwc(hn:(g6.map (·.born)).Nodup)(a:g4∈g6)(b:qvm seen g4.key=false):g6.filter (qz9 seen came)=g6.filter (qz9 seen (came.push g4.born)):=by grind [List.filter_congr,qz9,pjz]
theorem vx4(hn:(g6.map (·.born)).Nodup)(a:g4∈g6)(b:qvm seen g4.key=true):(g6.filter (qz9 seen came)).filter (λx=>x.born != g4.born)=g6.filter (qz9 seen (came.push g4.born)):=by grind [List.filter_filter,List.filter_congr,qz9,pjz]
theorem pyu(h:((g6.filter (qz9 seen came)).filter λe=>!came.contains e.born)=[]):g6.filter (qz9 seen came)=g6.filter λe=>!qvm seen e.key:=by apply J7;simp_all [qz9]
theorem qve.xzx(h:qve B w gc g6 Z)(c:∀x∈seen,kxl x=true):qve B w gc (g6.filter λe=>!qvm seen e.key) (Z.filter λz=>!(seen.any λk=>k==z.1.1)):=by
 refine⟨?_,?_,λz a=>h.ok z (Ju.1 a).1,λz a=>h.way z (Ju.1 a).1⟩
 ·have b:(g6.filter λe=>!qvm seen e.key).map (λe=>(e.key,e.val))=(g6.map λe=>(e.key,e.val)).filter λp=>!qvm seen p.1:=by rw[List.filter_map];rfl
  rw[b,h.eq,List.filter_map];congr 1
  apply J7;intro z a;show(!qvm seen (.string (strOfNums z.1.1)))=_;rw[jk3 c (h.ok z a).1]
 ·exact h.nodup.sublist (List.Sublist.map _ JM)
theorem pws(a:f.length=vs.length):((f.zip vs).filter λz=>!(seen.any λk=>k==z.1.1)).map (·.1)=newF seen f:=by unfold newF;have:(λz:(List Int×SWay)×Value=>!(seen.any λk=>k==z.1.1))=(λy:List Int×SWay=>!(seen.any λk=>k==y.1))∘(·.1):=rfl;grind [zip_fst]
theorem jz6:∀(l:List MapEntry)(i:Nat)(hi:i<l.length),(l.map (·.born)).Nodup->l.eraseIdx i=l.filter λx=>x.born != l[i].born
 |a::l,0,_,hn=>by
  simp only[Qm,QM]at hn;grind [List.filter_eq_self]
 |a::l,i+1,hi,hn=>by
  simp only[Qm,QM]at hn;have b:i<l.length:=by simp_all
  rw[List.eraseIdx_cons_succ,List.filter_cons,jz6 l i b hn.2];grind
theorem jx7(h1:w.heap[fb]?=some (.map es clock))(e:prog.underlying T=some (.map 9 E))(a:∀g4∈es.toList,∃l,keyOf prog 9 g4.key=some l)(c:k.length<=1000)(g:g4∈es.toList)(i:g4.key=.string (strOfNums k))(f:∀x∈es.toList,x.key=g4.key->x=g4)(hn:(es.toList.map (·.born)).Nodup)(ty:Nat):∃es',(Builtin.delete_ #[T,9] ty #[.map (some fb),.string (strOfNums k)]).run prog w=.ok (.tuple #[]) (ChangeMaps.setBlock w fb<|.map es' clock)/\es'.toList=es.toList.filter λx=>x.born != g4.born:=by
 obtain⟨f1,f2⟩|⟨j,b,f1,f2,f3⟩:=keyed.find w (qwi c) es.toList a
 ·simp_all
 ·have d:b=g4:=f b (wB f2) (by simp_all);subst d;have h:j<es.toList.length:=by grind
  refine⟨es.eraseIdxIfInBounds j,?_,?_⟩
  ·simp[Builtin.delete_,Q7 e,MapKept.run_getObj_map h1,keyed.check w _ (qwi c),f1,MapKept.run_setObj_map _ h1,Result.andThen,ChangeMaps.setBlock]
  grind [Array.toList_eraseIdx,jz6]
theorem infoWay:(prog.info? 173).map (λi=>(i.zero,i.size,i.bytes))=some (some (.agg #[.slice none 0 0,.int .i64 0,.string ⟨#[]⟩]),3,48):=au
theorem qyk.snoc(h:qyk B w gc ways cs)(l:zqc B w gc x.U (.slice sa sn sc)):qyk B w gc (ways++[x]) (cs++[.slice sa sn sc,.int .i64 x.J,.string x.E]):=by
 refine⟨by simp[h.1];omega,λk i=>?_⟩;have d:=h.1;by_cases b:k<ways.length
 ·obtain⟨a,n,c,e,f,g,j⟩:=h.2 k b;grind
 grind
theorem kjy.pushed(h : kjy B w S O M gc cc sb fb ts s)(I : w.heap[S]? = some (.cells #[.pointer (some ⟨O,0,none⟩),.slice la ll lc,.map (some sb),.map (some fb)] 170 (0,0)))(J : w.ownsRow B 173 3 (.slice la ll lc) s.m.length cs)(K : qyk B w gc s.m cs)(F : (w.alloc o).grownBy w' (Value.slice la ll lc).ownBlock)(p : w'.ownsRow B 173 3 (.slice (some ⟨j,0,none⟩) (s.m.length + 1) most) (s.m.length + 1) (cs ++ [.slice sa sn sc,.int .i64 x.J,.string x.E]))(H : zqc B w gc x.U (.slice sa sn sc)):kjy B (w'.setCell ⟨S,1,none⟩<|.slice (some ⟨j,0,none⟩) (s.m.length + 1) most) S O M gc cc sb fb ts ⟨s.m ++ [x],s.Z,s.P,s.cur⟩/\kqg (S :: qqc (.slice la ll lc)) w (w'.setCell ⟨S,1,none⟩<|.slice (some ⟨j,0,none⟩) (s.m.length + 1) most)/\w'.heap[S]? = some (.cells #[.pointer (some ⟨O,0,none⟩),.slice la ll lc,.map<|some sb,.map (some fb)] 170 (0,0)):=by
 have q : kqg (qqc<|.slice la ll lc) w w':=((kqg.refl _ w).alloc o).grown F (λk d=>.inl<|by simp [qqc,d])
 have R:=qj8 J
 have A : S∉qqc (.slice la ll lc):=λl=>by grind
 have D:=q.at I A
 have a : kqg (S :: qqc (.slice la ll lc)) w (w'.setCell ⟨S,1,none⟩<|.slice (some ⟨j,0,none⟩) (s.m.length + 1) most):=(q.wide<|λk d _=>List.mem_cons_of_mem _ d).set (.inl ay) _
 have P : ∀k∈S :: qqc (.slice la ll lc),∃c t fr,w.heap[k]? = some (.cells c t fr)/\(t = 170\/t = 173):=λk d=>by grind
 have f : ∀e,e≠170->e≠173->qke w (S :: qqc (.slice la ll lc)) e:=λe h1 T k d c fr u=>by grind
 have i : Sep w gc (S :: qqc (.slice la ll lc)):=λk d=>.inr λc fr u=>f 5 ak ak k d c fr u
 have m : ∀b es c,w.heap[b]? = some (.map es c)->b∉S :: qqc (.slice la ll lc):=λb es c e l=>by grind
 obtain⟨tv,v⟩:=h.orb
 obtain⟨vs,l,G⟩:=h.Z
 obtain⟨us,C,hv⟩:=h.P
 obtain⟨L,c1,u,_⟩:=l.ents
 obtain⟨N,c2,E,_⟩:=C.ents
 have Q : j≠S:=by
  obtain⟨z,_⟩ | ⟨g,cap,cur,z,_,e5,_⟩:=p.2
  ·cases z
  grind
 refine⟨⟨⟨some ⟨j,0,none⟩,s.m.length + 1,most,cs ++ [.slice sa sn sc,.int .i64 x.J,.string x.E],?_,?_,(K.stay a i).snoc<|H.stay a i⟩,⟨tv,?_,v.turns.xzj a (f _ ak ak) (f _ ak ak)<|f _ ak ak,kkv v.xu a<|f _ ak ak⟩,⟨vs,l.stay a<|m _ _ _ u,G⟩,⟨us,C.stay a<|m _ _ _ E,hv.stay a i⟩,h.ne,h.ge⟩,a,D⟩
 ·rw [heap_setCell_same w' S 1 _ _ _ D]; rfl
 ·have y : kqg [S] w' (w'.setCell ⟨S,1,none⟩<|.slice (some ⟨j,0,none⟩) (s.m.length + 1) most):=(kqg.refl _ w').set (.inl ay) _
  show World.ownsRow _ _ _ _ _ (s.m ++ [x]).length _
  rw [List.length_append]
  exact qj7 p y (λk d l=>by
   injection d with d
   simp_all)
 ·exact a.at v.e (jy4 (f _ ak ak) v.e)
abbrev KnS(S sb:Nat)(ov:Value)(a:List Int)(w:World):Prop:=w.cell? ⟨S,2,none⟩=some (.map (some sb))/\(convert 95 9 ov).run prog w=.ok (.string (strOfNums a)) w
abbrev KmS(S fb:Nat)(wv ov b:Value)(a:List Int)(w:World):Prop:=w.cell? ⟨S,1,none⟩=some wv/\w.cell? ⟨S,3,none⟩=some (.map (some fb))/\(convert 95 9 ov).run prog w=.ok (.string (strOfNums a)) w/\(Instr.lookup 167 (.map (some fb)) (.string (strOfNums a)) false).run prog w=.ok b w
theorem zwu.conv(h:zwu w v l):(convert 95 9 v).run prog w=.ok (.string (strOfNums l)) w:=by
 obtain⟨⟨xa,xc,rfl,hv⟩,_⟩:=h;by_cases b:0<l.length
 ·grind [run_convert_bytes_arg,underlying95,underlying5,underlying9]
 ·have:l=[]:=Qv aj;subst this;show(convert 95 9<|.slice xa 0 xc).run prog w=_;rw[run_convert_bytes_string w 95 9 5 xa 0 xc underlying95 underlying5 underlying9];cases xa with
  |none=>simp[Conv.bytesToString];rfl
  |some a=>rw[run_bytesToString w a 0 xc [] rfl];rfl
theorem kko.stay(h:kko B w v ls)(a:kqg L w w')(h1:qke w L 95)(b:qke w L 5):kko B w' v ls:=by obtain⟨la,ll,lc,cs,e,c,d⟩:=h;exact⟨la,ll,lc,cs,e,kkv c a h1,d.stay a b⟩
theorem vzn:∀(f:Fnd)(j:Nat)(hj:j<f.length),(f.map (·.1)).Nodup->kv4 f f[j].1=f[j].2
 |y::l,0,_,_=>by rw[kv4];simp
 |y::l,j+1,hj,hn=>by
  simp only[Qm,QM]at hn;have a:j<l.length:=by simp_all
  rw[kv4,Xy]
  ·exact vzn l j a hn.2
  grind
theorem pwf(h:k∈(newF seen f).map (·.1)):k∉seen:=λb=>by obtain⟨y,a,rfl⟩:=tY.1 h;have:=(Ju.1 a).2;grind
theorem vj5(h:ks.Nodup):(sortL ks).Nodup:=(kz7 ks).nodup_iff.2 h
theorem qve.keyOf(h:qve B w gc g6 Z)(a:g4∈g6):∃z∈Z,g4.key=.string (strOfNums z.1.1):=by
 have:(g4.key,g4.val)∈Z.map jz0:=by rw[<-h.eq];grind
 grind [jz0]
theorem qve.uniq(h:qve B w gc g6 Z)(c:g4∈g6)(d:g7∈g6)(e:g4.key=g7.key):g4=g7:=by
 obtain⟨i,hi,rfl⟩:=wG c;obtain⟨j,a,rfl⟩:=wG d;have g:g6.length=Z.length:=by have:=congrArg List.length h.eq;simp_all
 have ge:∀q (b:q<g6.length),g6[q].key=.string (strOfNums (Z[q]'aj).1.1):=λq b=>by
  have h1:(g6.map λe=>(e.key,e.val))[q]?=(Z.map jz0)[q]?:=by rw[h.eq]
  grind [jz0]
 rw[ge i hi,ge j a]at e;injection e with e;have f:=key_inj (h.ok _<|wZ aj).1 (h.ok _<|wZ aj).1 e;have:i=j:=qku h.nodup (by grind) (by grind) (by simp_all);simp_all
theorem vx6(h:kjy B w S O M gc cc sb fb ts s)(eG:s.P.length<=100000)(g3:s.m.length<=100000)(hB:B<=w.heap.size):Calls prog 77 #[.pointer (some ⟨S,0,none⟩)] w λe w'=>e=.returned (.int .i64 s.m.length)/\kjy B w' S O M gc cc sb fb ts (jd s)/\Below B w w':=by
 obtain⟨la,ll,lc,cs,r1,r2,r3⟩:=h.e;obtain⟨xa,xc,ex,-⟩:=qp r2;injection ex with bF bG bH;subst bF;subst bG;subst bH;have z0:=kz3 r1;obtain⟨vs,hf,hv⟩:=h.P;obtain⟨es,clock,h1,H3,(H4:Hid _),HZ⟩:=xzn hf hv;obtain⟨us,b8,(cM:Hid _)⟩:=h.Z;obtain⟨fJ,fI,fQ,g1,d3⟩:=h.lts;obtain⟨i0,hi,bZ,cA,cB⟩:=info_parts infoWay;have eS:S≠fb:=λe=>by simp_all
 have b9:Hid (∀x∈s.Z,kxl x=true):=λx hx=>(b8.ok x hx).1
 have fX:(newF s.Z s.P).length<=100000:=rP (List.length_filter_le _ _) eG;obtain⟨W,hW⟩:=cpy<|w.alloc (.mapIter (some fb) clock #[] clock);have cY:kqg [fb] w W:=by rw[hW];exact .of_below<|jZ w
 have HR:Hid (W.heap[w.heap.size]?=some (.mapIter (some fb) clock #[] clock)):=by rw[hW];exact jF
 have eL:=run_range_map (P:=prog) w 167 9 173 fb es clock underlying167 h1;obtain⟨HH,eX,dM,dU⟩:=jb h (cY.block fb d3) r1 hv.1;have fA:=oz (show ∃d,W.heap[fb]?=some (.map d clock)/\d.toList=es.toList.filter (qz9 s.Z #[]) from⟨es,by grind [heap_alloc_old],by grind [List.filter_eq_self,qz9]⟩)
 have dV:=oz hW.symm;clear h1 hW r1;go_in;go_wp21;rw[ku dV];clear eL;go_loopw [4,5,6] (λ_ _ _ wr=>∃(came:Array Nat)(d:Array MapEntry),wr.heap[fb]?=some (.map d clock)/\d.toList=es.toList.filter (qz9 s.Z came)/\wr.heap[w.heap.size]?=some (.mapIter (some fb) clock came clock)/\kqg [fb] w wr) (λ_ _ _ wr=>(es.toList.filter λx=>!((wr.iterSeen w.heap.size).contains x.born)).length)
 case atStart=>
  grind [ku]
 case round=>
  obtain⟨came,d,a5,V,a6,J⟩:=hrel;have g2:=J.size;have fY:=wQ a6;have aV:=qqt a6;have u:∀x∈d.toList,x∈es.toList:=λx hx=>by simp_all
  have aO:(d.toList.map (·.born)).Nodup:=by rw[V];exact H3.sublist<|List.Sublist.map _ JM
  have rr:=J.at dM (by simp_all);have y0:=kz3 rr;obtain⟨hz,Q⟩|⟨e,he,w1,aY,Q⟩:=run_next_at (P:=prog) wr 0 w.heap.size fb clock clock came d clock a6 a5 (λx hx=>H4 x<|u x hx)<|jH
  ·have bU:((es.toList.filter<|qz9 s.Z came).filter λe=>!came.contains e.born)=[]:=by grind [leftOf,Array.toList_filter]
   have bO:=pyu bU;rw[bO]at V;have cJ:Sep w gc [fb]:=λk H=>HH.sep k (by simp_all)
   have aF:=(HZ.stay J cJ).xzx b9;rw[<-V]at aF;obtain⟨aJ,cQ⟩:=xzr a5 aO (λx hx=>H4 x<|u x hx) aF;rw[pws (ku dU).symm]at aJ cQ;obtain⟨tv,ho⟩:=HH.orb;have dS:kjy B wr S O M gc cc sb fb ts ⟨s.m,s.Z,newF s.Z s.P,s.cur⟩:=HH.turned (J.wide ay) rfl (qj7 ho.xu J (λk H hm=>by injection H with H;have e1:gc=k:=H;simp at hm;exact HH.pxt.1 aj)) (b8.stay J<|by simpa using HH.ne) cM aJ cQ
   have dB:=J.below hB (λk H=>by simp at H;subst H;exact HH.ge.2.2.2);have dT:=vv4 aJ (by simp_all);have cK:=aJ.nodup;obtain⟨dJ,dI,dK,dL,dH⟩:=ja aJ.ok (show ∀k∈(newF s.Z s.P).map (·.1),k∉s.Z from λk H=>pwf H) (show jd s=⟨s.m++(kv5<|newF s.Z s.P).map (kv4<|newF s.Z s.P),s.Z++kv5 (newF s.Z s.P),newF s.Z s.P,s.cur⟩ from rfl) (show sortL ((newF s.Z s.P).map (·.1))=kv5 (newF s.Z s.P) from rfl) (show ∀k∈kv5 (newF s.Z s.P),k∈(newF s.Z s.P).map (·.1) from λk H=>(kz7 _).mem_iff.1 H);have dF:=show(kv5<|newF s.Z s.P).Nodup from vj5 cK
   have fW:(kv5<|newF s.Z s.P).length<=100000:=by grind [kv5,qyh]
   generalize newF s.Z s.P=F at *;clear hz bU bO V a5 a6 aV u rr;go_wp21;refine dT.mono ?_;rintro e l ⟨v5,rfl,bW,cO⟩;rw[ku dL]at bW;generalize kv5 F=a at *;obtain⟨va,vn,vc,L,rfl,aK,aL⟩:=bW;obtain⟨gA,gB,bG,-⟩:=qp aK;injection bG with bF d0 bH;subst bF;subst d0;subst bH;have dQ:=show kko wr.heap.size l (.slice va a.length vc) a from⟨va,a.length,vc,L,rfl,aK,aL⟩
   have cX:=dS.below cO;have dA:=dB.trans<|cO.mono aj;clear y0;go_wp21
   go_loopw [8,44] (λ_ i wr=>∃k:Nat,k<=a.length/\i=.int .i64 k/\kjy B wr S O M gc cc sb fb ts ⟨s.m++(a.take k).map (kv4 F),s.Z++a.take k,F,s.cur⟩/\(∃B',kko B' wr (.slice va a.length vc) a)/\Below B w wr) (λ_ i _=>a.length-(intOf i).toNat);exact⟨0,jR,rfl,by simpa using ku cX,⟨_,dQ⟩,dA⟩;obtain⟨wo,rfl⟩:=cpy wr;obtain⟨k,H,rfl,f,⟨B',eM⟩,hb⟩:=hrel;have eW:=hb.size;by_cases a7:k<a.length
   ·obtain⟨g7,g9,g8,L,ev,aK,aL⟩:=eM;injection ev with e6 e7 e8;subst e6;subst e7;subst e8;have eN:k<L.length:=by rw[<-aL.1];exact a7
    have aX:=(kja aK).2;obtain⟨g,rfl,_,fP,hc⟩:=aX k a7;have e5:wo.cell? ⟨g,k*1,none⟩=some L[k]:=by simp_all
    simp only[Jb]at e5;obtain⟨eC,-⟩:=aL.2 k eN a7;have aU:=(ku dH) a[k] (wZ a7);have bT:=(ku dJ) a[k] aU;have cR:a[k]∉s.Z++a.take k:=λhm=>by
     obtain hm|hm:=rV.1 hm
     ·exact dI _ aU hm
     ·obtain⟨i,fT,e⟩:=wG hm;rw[Zo]at e;have:=qku dF (by grind) a7 e;grind
    obtain⟨ly,ln,g4,fB,q1,q2,q3⟩:=f.e;obtain⟨p0,p1,p2,p3,-⟩:=kz3 q1;obtain⟨g6,R,d9⟩:=f.Z;obtain⟨fF,fL,eT⟩:=f.P;have aQ:oq wo wo.drew:=(Below.refl _ wo).drew;obtain⟨l,Q,d6,D⟩:=py0 (R.stay (kqg.of_below (S:=[]) aQ) ay) underlying166 bT.1 bT.2 cR<|.agg #[];have I:=f.below aQ;obtain⟨g5,eJ⟩:=I.orb;obtain⟨fG,eE,d4⟩:=I.P;have eQ:sb≠fb:=f.ne;have cI:Sep wo.drew gc [sb]:=λq b=>I.sep q (by simp_all)
    have cH:kjy B l S O M gc cc sb fb ts ⟨s.m++(a.take k).map (kv4 F),s.Z++a.take k++[a[k]],F,s.cur⟩:=I.turned (D.wide ay) rfl (qj7 eJ.xu D (λq b hm=>by
     injection b with b;have e1:gc=q:=b;simp at hm;exact I.pxt.2 aj)) d6 (λv hv=>by grind) (eE.stay D<|by grind) (d4.stay D cI)
    have Y:∀t,qke wo.drew [sb] t:=λt q b c fr e1=>by
     have eK:q=sb:=by simp_all
     rw[eK]at e1;obtain⟨e4,c9,e9,_⟩:=R.ents;have fC:wo.drew.heap[sb]?=some (.map e4 c9):=e9;simp_all
    have d7:kko B' wo (.slice (some ⟨g,0,none⟩) a.length vc) a:=⟨_,_,_,L,rfl,aK,aL⟩;have d8:=(d7.stay (kqg.of_below (S:=[]) aQ) (λq b=>by simp_all)<|λq b=>by simp_all).stay D (Y _)<|Y _;have bJ:=eC.stay (kqg.of_below (S:=[]) aQ) (λq b=>by simp_all);have d2:=bJ.stay D<|Y _;have b7:=oz (⟨p2,bJ.conv⟩:KnS S sb L[k] a[k] wo.drew);have b3:Below B w l:=(hb.drew).trans (D.below (by omega:B<=wo.heap.size)<|by simpa using f.ge.2.2.1);have eR:=b3.size;have aM:oq l l.drew:=(Below.refl _ l).drew;have aD:=cH.below aM;obtain⟨a9,aB,aA,e3,t1,aE,cZ⟩:=aD.e;obtain⟨u0,u1,u2,u3,-⟩:=kz3 t1;obtain⟨eA,bN,d5⟩:=aD.P;obtain⟨A,aS,bC⟩:=wG aU;have bQ:A<F.length:=by grind
    have aT:A<eA.length:=by rw[<-bN.T];exact aS
    have C:=pqm bN underlying167 aS aT false;rw[bC]at C;simp only[ru,Xv]at C;obtain⟨ya,yn,yc,ey,e0⟩:=d5.2 A bQ;rw[wW aT]at ey;injection ey with ey;rw[ey,pjl]at C;have cD:Hid (kv4 F a[k]=F[A].2):=by have:=vzn F A bQ cK;simp_all
    have eI:(s.m++(a.take k).map (kv4 F)).length<=200000:=by grind
    have bK:=d2.stay (kqg.of_below (S:=[]) aM) (λq b=>by simp_all);have a4:Below l.drew.heap.size l.drew (l.drew.alloc<|.cells #[.slice ya yn yc,.int .i64 F[A].2.J,.string F[A].2.E] 173):=jZ _;have aH:=oz (⟨u1,u3,bK.conv,C⟩:KmS S fb (.slice a9 aB aA) L[k] (.agg #[.slice ya yn yc,.int .i64 F[A].2.J,.string F[A].2.E]) a[k] l.drew);have cL:=oz (show KmS S fb (.slice a9 aB aA) L[k] (.agg #[.slice ya yn yc,.int .i64 F[A].2.J,.string F[A].2.E]) a[k] (l.drew.alloc<|.cells #[.slice ya yn yc,.int .i64 F[A].2.J,.string F[A].2.E] 173) from by have eO:=aD.below a4;obtain⟨fH,fO,eU⟩:=eO.P;have eF:=bN.stay (kqg.of_below (S:=[]) a4) ay;have aG:=pqm eF underlying167 aS aT false;rw[bC]at aG;simp only[ru,Xv]at aG;rw[ey,pjl]at aG;have cN:S<l.drew.heap.size:=wQ t1;exact⟨(a4.cell (p:=⟨S,1,none⟩) cN).trans u1,(a4.cell (p:=⟨S,3,none⟩) cN).trans u3,(bK.stay (kqg.of_below (S:=[]) a4)<|λq b=>by simp_all).conv,aG⟩)
    have dN:=oz t1;have dW:=qj aE a4;have cV:=oz<|Xk l.drew (.cells #[.slice ya yn yc,.int .i64 F[A].2.J,.string F[A].2.E] 173);have cW:=d8.stay (kqg.of_below (S:=[]) aM) (λq b=>by simp_all) (λq b=>by simp_all);have cE:=oz (tJ a7:a.take (k+1)=a.take k++[a[k]]);have cG:=Q;obtain⟨nw,(aC:Hid _)⟩:∃nw,nw=(s.m++(a.take k).map (kv4 F)).length:=⟨_,rfl⟩;rw[<-aC]at eI;have bB:=dW;rw[show(({m:=s.m++(a.take k).map (kv4 F),Z:=s.Z++a.take k++[a[k]],P:=F,cur:=s.cur}:SSt).m.length)=nw from aC.symm]at bB;have b4:=oz (show B<=S/\(∀q∈qqc (.slice a9 aB aA),B<=q) from⟨f.ge.1,λq b=>jo aE q (by unfold qqc at b;simp_all)⟩)
    have b6:=oz (show ∀t,t≠170->t≠173->qke l.drew (S::qqc (.slice a9 aB aA)) t from λt h1 h2 q b c fr e1=>by
     obtain rfl|b:=tZ.1 b
     ·simp_all
     ·obtain⟨c2,fD,e2⟩:=qj8 aE q b;rw[e2]at e1;injection e1 with e1;injection e1 with _ e1 _;simp_all)
    generalize F[A].2=y at *;generalize eH:a[k]=kk at *;obtain⟨ov,cS⟩:=cpy<|L[k];rw[<-cS]at b7 aH cL e5;clear hc aX aU bT cR q1 p0 p1 p2 p3 d9 Y t1 u0 u1 u2 u3 aS bC bQ aT C ey cS cG eH;go_upto_region 11 with fail
    refine bg (S:=KnS S sb ov kk) (tl:=[7]) au ?_;refine frS 0 ?_;refine frS 1 ?_;refine frS 2 ?_;refine tkS 3 b7 ?_;refine frS 4 ?_;refine tkS 5 b7 ?_;refine frS 6 ?_;refine kyj ?_;refine onA 7 λK m=>?_
    go_simp;refine m _ _ ?_;clear m K;refine wpAny_done au ?_ _;clear Q;go_upto_region 12 with fail
    refine bg (S:=KmS S fb (.slice a9 aB aA) ov (.agg #[.slice ya yn yc,.int .i64 y.J,.string y.E]) kk) (tl:=[13,14,15,16]) au ?_;refine frS 0 ?_;refine frS 1 ?_;refine frS 2 ?_;refine frS 3 ?_;refine tkS 4 aH ?_;refine frS 5 ?_;refine frS 6 ?_;refine frS 7 ?_;refine tkS 8 aH ?_;refine frS 9 ?_;refine tkS 10 aH ?_;refine tkS 11 aH ?_;refine onS 12 λK m=>?_
    go_simp;refine m _ _ cL ?_;clear m K;refine kyj ?_;refine onA 13 λK m=>?_
    refine step_append_lies _ (by rfl) _ _ _ (by rfl) B 173 i0 _ 3 48 underlying168 hi bZ cA cB rfl aj (.slice a9 aB aA) nw e3 (by rfl) bB ⟨l.heap.size,0,none⟩ 1 1 [.slice ya yn yc,.int .i64 y.J,.string y.E] (by rfl) (by rfl) (World.news_of_block (cs:=#[.slice ya yn yc,.int .i64 y.J,.string y.E]) cV) (by intro z hz;simp at hz;obtain rfl|rfl|rfl:=hz<;>rfl) aj iq aj ah (l.heap.size+1) ay ?_;intro gg gcap w6 cF bP d1 eV;refine m _ _ ?_;clear m K;have N:=aD.pushed dN aE cZ bP (by have h9:=cF;rw[ku aC]at h9;exact h9) e0;dsimp only at N;rw[<-ku aC]at N;have cT:=N.2.2;have m0:=kz3 cT;have cU:=N.1;have bA:=N.2.1;clear N cT d1;refine onA 14 λK m=>?_
    go_simp;refine m _ _ ?_;clear m K;refine onA 15 λK m=>?_
    go_simp;refine m _ _ ?_;clear m K;refine onA 16 λK m=>?_
    go_simp;refine m _ _ ?_;clear m K;refine wpAny_done au ?_ _;have dX:=show kjy B _ S O M gc cc sb fb ts ⟨s.m++(a.take<|k+1).map (kv4 F),s.Z++a.take (k+1),F,s.cur⟩ by rw[ku cE,Qw,List.map_singleton,ku cD,<-sZ,<-sZ];exact cU
    have dY:=cW.stay bA (b6 _ ak ak)<|b6 _ ak ak;have dZ:=b3.drew.trans (bA.below (by omega:B<=l.heap.size) (λq b=>by
     obtain rfl|b:=tZ.1 b
     ·exact b4.1
     ·exact b4.2 q b))
    clear m0;go_wp2;exact rdM ⟨k+1,aj,eu,dX,⟨_,dY⟩,dZ⟩
   ·have:k=a.length:=by omega
    subst this;rw[Qc]at f;obtain⟨HX,HB⟩:=ju f hb;go_wp2;go_ret;exact⟨rfl,by rw[ku dK];exact HX,HB⟩
  ·have eD:e∈d.toList/\came.contains e.born=false:=by grind [leftOf]
   obtain⟨aI,cP⟩:=eD;have a0:=u e aI;obtain⟨z,cC,Z⟩:=HZ.keyOf a0;have a8:=HZ.ok z cC;have aP:w1.heap=wr.heap:=by obtain rfl|rfl:=aY<;>rfl
   have bI:oq wr w1:=by obtain rfl|rfl:=aY;exact bR;exact bR.drew
   obtain⟨X,aZ⟩:=cpy<|ChangeMaps.setBlock w1 w.heap.size (.mapIter (some fb) clock (came.push e.born) clock);have U:kqg [w.heap.size] wr X:=by rw[aZ];refine⟨bI.os,bI.tape,bI.output,by simp[ChangeMaps.setBlock,aP],λk H hn=>?_⟩;grind [ChangeMaps.setBlock]
   have a2:X.heap[w.heap.size]?=some (.mapIter (some fb) clock (came.push e.born) clock):=by grind [ChangeMaps.setBlock]
   have a1:X.heap[fb]?=some (.map d clock):=U.at a5 (by grind);have aF:=run_entry_at (P:=prog) X w.heap.size fb clock came d clock e a2 a1 aI aO;rw[Z]at Q aF;rw[<-aZ]at Q;have R:=(b8.stay J<|by simpa using HH.ne).stay U (by grind);have q0:=kz3 (U.at rr<|by grind);have bX:=jk3 (k:=z.1.1) b9 a8.1;rw[<-Z]at bX;have aW:kqg [fb] w X:=(((J.wide (S':=[fb,w.heap.size]) ay).trans<|U.wide ay).wide<|λk H hl=>by grind);have eY:=oz aV;have eZ:=oz (show(es.toList.filter λx=>!((came.push e.born).contains x.born)).length<(es.toList.filter λx=>!(came.contains x.born)).length from filter_lt _ _ (λx hx=>by
    simp_all) e (by simp_all) (by simp) es.toList a0)
   have fZ:=U.size;by_cases aR:z.1.1∈s.Z
   ·obtain⟨j,hj,ej⟩:=wG aR;have bS:j<us.length:=by rw[<-R.T];exact hj
    have C:=pqm R underlying166 hj bS true;rw[ej,(ku cM) _ (wZ bS)]at C;simp only[Xw]at C;have a3:qvm s.Z e.key=true:=by simp_all
    obtain⟨w3,b2⟩:=cpy<|X.alloc (.cells #[] 264);have G:oq X w3:=by rw[b2];exact jZ _
    have aN:w3.heap[fb]?=some (.map d clock):=(G.block fb aj).trans a1;obtain⟨bD,bL,bM⟩:=jx7 (T:=167) (E:=173) aN underlying167 (λx hx=>by obtain⟨z',eP,e'⟩:=HZ.keyOf<|u x hx;exact⟨_,by rw[e'];exact qwi (HZ.ok z' eP).2⟩) a8.2 aI Z (λx hx ex=>HZ.uniq (u x hx) a0 ex) aO 0
    obtain⟨w4,bY⟩:=cpy<|ChangeMaps.setBlock w3 fb (.map bD clock);rw[<-bY]at bL;have bV:kqg [fb] w3 w4:=by rw[bY];exact qxg aN
    have g0:=G.size;have b5:Hid (w4.heap[w.heap.size]?=some (.mapIter (some fb) clock (came.push e.born) clock)):=bV.at ((G.block w.heap.size aj).trans a2) (by grind);obtain⟨dD,dC,dE⟩:=jp (by grind [ChangeMaps.heap_setBlock_same]:w4.heap[fb]?=some (.map bD clock)) (by rw[bM,V];exact vx4 H3 a0 a3:bD.toList=es.toList.filter (qz9 s.Z<|came.push e.born)) (qqt b5);have dO:=(aW.trans<|.of_below G).trans bV;rw[b2]at bL;have eB:S<X.heap.size:=aj;obtain⟨v0,v1,v2,v3,-⟩:=kz3 ((G.block S eB).trans<|U.at rr (by grind));rw[b2]at v0 v1 v2 v3;generalize strOfNums z.1.1=kb at *;clear bZ cA cB hi u aV V a6 a2 a5 a1 aN aY aZ b2 bY aP aI cP a0 cC Z a8 bX a3 aR hj ej bS bM rr he;go_wp2;grind [ku]
   ·have C:=xxl R underlying166 pkx a8.1 a8.2 aR true;simp only[Xw]at C;have a3:qvm s.Z e.key=false:=by grind
    have G:oq X (X.alloc<|.cells #[] 264):=jZ _;obtain⟨b5,dD,dC⟩:=jp ((G.block w.heap.size aj).trans a2) ((G.block fb aj).trans a1) (by rw[V];exact vwc H3 a0 a3:d.toList=es.toList.filter (qz9 s.Z<|came.push e.born));have dE:=oz<|qqt b5;have dO:=aW.trans<|.of_below G;generalize strOfNums z.1.1=kb at *;clear bZ cA cB hi u aV V a6 a2 a5 a1 aY aZ aP aI cP a0 cC Z a8 bX a3 aR rr he;go_wp2
    grind [ku]
section
theorem pxs(h:zz4 so w M nb a)(b:MachOk a)(D:w.ownsRow 0 5 1 (.slice sa sn sc) st.length (st.map (Value.int .u8)))(t:st.length<=1000000)(hv:lookO a st=some b5):Calls prog 78 #[.pointer (some ⟨M,0,none⟩),.slice sa sn sc] w λe w'=>e=.returned (.int .i64<|endOf b5)/\oq w w':=by
 obtain⟨x,⟨ta,tc,cs,h1,y,z⟩,⟨K,L,ds,A,B,C⟩,_,_⟩:=h;go_in;go_wp21;refine(py6 x D h1 y z b.X A B C b.q b.z t b.sl b.nl jR hv).mono ?_;rintro e N ⟨x5,rfl,⟨u,en,v,wa,O,E,ba,bn,bc,rfl,H,q,s⟩,c⟩;obtain⟨F,G,d,-⟩:=qp s;obtain⟨I,J,f,-⟩:=qp q;injection d with k d l;injection f with m f p;subst d;subst f;subst k;subst l;subst m;subst p;have g:=c.alloc c.size<|.cells #[.string b5.x,.slice u en v,.slice wa b5.xz.length E,.slice ba b5.xs.length bc,.bool (kx2 b5)] 24;by_cases c1:0<b5.xs.length
 ·have i:(0:Int)<b5.xs.length:=by omega
  go_wp2;go_ret;simp_all [endOf]
 ·have i:¬(0:Int)<b5.xs.length:=by omega
  cases c2:kx2 b5
  ·rw[c2]at g;by_cases c3:0<b5.xz.length
   ·have j:(0:Int)<b5.xz.length:=by omega
    go_wp2;go_ret;simp_all [endOf]
   ·have j:¬(0:Int)<b5.xz.length:=by omega
    go_wp2;go_ret;simp_all [endOf]
  ·rw[c2]at g;go_wp2;go_ret;simp_all [endOf]
section
open Go.Sort
theorem pw5(h:w.ownsRow B 9 1 (.slice sa sn sc) b6.length (b6.map Value.string))(x:b6.length<=1000000):og 134 #[.slice sa sn sc] w λe w'=>e=.returned (.tuple #[])/\w'.ownsRow B 9 1 (.slice sa sn sc) b6.length (b6.reverse.map Value.string)/\kqg (qqc<|.slice sa sn sc) w w':=by
 obtain⟨c,k⟩|⟨g,cap,cur,c,k,l,m,e5,p,e7⟩:=h.2
 ·injection c with c f d;subst c;subst f;subst d;have hn:b6=[]:=Qv k;subst hn;have a:=Any.slices_Reverse_string_empty Tryz.revS none 0 w;refine a.mono ?_;grind [kqg.refl]
 ·injection c with c f d;subst c;subst f;subst d;have q:∀(b:ByteArray),encStr b.data.toList=.string b:=λb=>ay
  have hH:Holds encStr w g 0 (b6.map λb=>b.data.toList).toArray:=by
   intro j s;have u:j<b6.length:=by simp_all
   refine⟨?_,?_⟩
   ·rw[getElem!_pos _ j s];unfold World.cell?;simp only[l,Jc];have h9:cur.toList[j]?=(b6.map Value.string)[j]?:=by grind
    simp_all
   ·unfold World.frozen?;simp[l]
  have a:=Any.slices_Reverse_string Tryz.revS g 0 sc (b6.map λb=>b.data.toList) w hH (by grind);rw[Ql]at a;refine a.mono ?_;rintro e w' ⟨rfl,n,t⟩;have i:w'=sortWorld encStr w g 0 n (b6.map λb=>b.data.toList).reverse.toArray #[]:=by rw[t];unfold sortWorld;simp
  refine⟨rfl,?_,by rw[i];exact qjo _ _ _ _ _ _ _⟩;refine⟨ay,.inr ⟨g,sc,_,rfl,k,by rw[i];exact zqr _ _ _ _ _ _ l,m,e5,by simp[putCells,p],?_⟩⟩;have v:((b6.map λb=>b.data.toList).reverse.toArray).size=b6.length:=ay;grind [zqf,List.map_reverse,List.map_congr_left]
end
theorem jxa(h:kjy B w S O M gc cc sb fb ts s)(Z:0<b->b<s.m.length)(a0:s.m.length<=1000000)(Y:b<=1000000)(HR:zk7 s.m b b []=some b6):Calls prog 80 #[.pointer (some ⟨S,0,none⟩),.int .i64 b] w λe w'=>∃v,e=.returned v/\w'.ownsRow w.heap.size 9 1 v b6.length (b6.reverse.map Value.string)/\oq w w':=by
 obtain⟨la,ll,lc,cs,D,L,H⟩:=h.e;obtain⟨xa,xc,ex,y⟩:=qp L;injection ex with R T U;have z:=wQ D;go_in
 go_wp21;go_loopw [5,6] (λx i wr=>∃(n k:Nat)(acc:List ByteArray)(sa:Option Addr)(sn sc:Nat),i=.int .i64 k/\k<=n/\k<=b/\acc.length+k<=b/\zk7 s.m n k acc=some b6/\x=.slice sa sn sc/\wr.ownsRow w.heap.size 9 1 (.slice sa sn sc) acc.length (acc.map Value.string)/\oq w wr) (λ_ i _=>(intOf i).toNat)
 ·grind [World.ownsRow_nil,Below.refl]
 obtain⟨n,k,acc,sa,sn,sc,rfl,X,W,V,f,rfl,c,d⟩:=hrel;have G:=d.size;cases k with
 |zero=>
  have K:acc=b6:=by grind [zk7]
  subst K;go_wp21;refine(pw5 c aj).mono ?_;rintro e w5 ⟨rfl,HX,C⟩;have P:=d.trans (C.below G (λq hq=>(jo c) q (by grind [qqc])))
  go_wp2;go_ret;simp_all
 |succ k=>
  cases n with
  |zero=>omega
  |succ n=>
   obtain⟨x,m,f⟩:=wu.1 f;have F:x.J<=k:=by simp_all
   rw[lJ F]at f;have a:k+1<s.m.length:=aj;rw[wW a]at m;injection m with m;obtain⟨wa,wn,wc,c0,c1,c2,-⟩:=H.2 (k+1) a;rw[m]at c1 c2;obtain⟨g,rfl,_,A,J⟩:=y (k+1) a;have z0:=kz3<|(d.block S z).trans D;have e2:wr.cell? ⟨g,(k+1)*3+2,none⟩=some (.string x.E):=by rw[d.cell (p:=⟨g,(k+1)*3+2,none⟩) A,J _ aj];exact c2
   go_wp2_with (at_builtin;refine apO (c.alloc _) ?_)
   intro v6 N t l _ I;obtain⟨a6,l6,c6,rfl⟩:=qh t;have u:=(d.alloc aj<|.cells #[.string x.E] 9).grown l ah<|jo c;have a4:=kz3<|(u.block S z).trans D;have Q:N.cell? ⟨g,(k+1)*3+1,none⟩=some (.int .i64 x.J):=by obtain⟨a1,a3,a2,c0,c1,c2,-⟩:=H.2 (k+1) a;obtain⟨g',j,_,_,E⟩:=y (k+1) a;injection j with j;injection j with j;subst j;rw[u.cell (p:=⟨g,(k+1)*3+1,none⟩) A,E _ aj,c1,m]
   go_wp2;go_roundw
   case rel=>grind
   case measure=>exact ou
end
theorem xqn(f:Fnd)(k:List Int)(x:SWay):(qzc f k x).length<=f.length+1:=by unfold qzc;grind
theorem zv5(h:qx9 a ts x f k=some q):q.1.length<=f.length+1:=by
 unfold qx9 at h;split at h
 ·obtain⟨r,_,h⟩:=wu.1 h;grind [xqn]
 simp_all
theorem zjx:∀(l:List MStep)(f:Fnd)(c:List Int)(q:Fnd×List Int×Bool),kzc a ts most at_ st l f c=some q->f.length<=most->q.1.length<=most+1/\(q.2.2=false->q.1.length<=most)
 |[],f,c,q,h,hf=>by grind [kzc]
 |s::l,f,c,q,h,hf=>by
  rw[kzc]at h;obtain⟨r,_,h⟩:=wu.1 h;split at h
  ·obtain⟨d,b,h⟩:=wu.1 h;have h1:=zv5 b;split at h
   ·grind
   ·exact zjx l _ _ q h aj
  ·exact zjx l _ _ q h hf
theorem zvc:∀(l:List SWay)(at_:Nat)(f:Fnd)(c:List Int)(q:Fnd×List Int),kjh a ts most l at_ f c=some q->f.length<=most->q.1.length<=most+1
 |[],_,f,c,q,h,hf=>by grind [kjh]
 |x::l,at_,f,c,q,h,hf=>by
  rw[kjh]at h;split at h
  ·obtain⟨d,b,h⟩:=wu.1 h;have h1:=zjx _ _ _ _ b hf;cases hb:d.2.2
   ·rw[hb,Xy ay]at h;exact zvc l _ _ _ q h<|h1.2 hb
   grind
  simp_all
theorem pxj(s:SSt):(jd s).m.length<=s.m.length+s.P.length/\s.m.length<=(jd s).m.length:=by grind [jd,kv5,qyh,newF]
theorem zys:∀(l:List Int)(ts r:List Turn),kkm l ts=some r->ts.length<=100000->r.length<=100000
 |[],ts,r,h,ht=>by grind [kkm]
 |n::l,ts,r,h,ht=>by
  rw[kkm]at h;split at h
  ·rename_i a;exact zys l _ r h a.2.2
  simp_all
theorem xjp(h:zz4 so w M nb a)(i:MachOk a)(k:Nat)(d:k<a.X.length):∃g tc pa pn pc ma mn mc p ba bn bc,w.cell? ⟨M,0,none⟩=some (.slice (some ⟨g,0,none⟩) a.X.length tc)/\g<w.heap.size/\w.cell? ⟨g,k*6,none⟩=some (.string a.X[k].x)/\w.cell? ⟨g,k*6+1,none⟩=some (.pointer<|some ⟨M,0,none⟩)/\w.cell? ⟨g,k*6+2,none⟩=some (.slice pa pn pc)/\w.cell? ⟨g,k*6+3,none⟩=some (.slice ma mn mc)/\w.cell? ⟨g,k*6+4,none⟩=some (.pointer p)/\w.cell? ⟨g,k*6+5,none⟩=some (.slice ba bn bc) /\
   ∀(wx:World)(st:List Int)(sa:Option Addr)(sn sc:Nat)(r:List Int×Int),oq w wx->wx.ownsRow 0 5 1 (.slice sa sn sc) st.length (st.map<|Value.int .u8)->st.length<=1000000->kwi a.z a.C a.X[k].u a.X[k].xy st a.X[k].guard a.X[k].block=some r ->
    og 79 #[.agg #[.string a.X[k].x,.pointer<|some ⟨M,0,none⟩,.slice pa pn pc,.slice ma mn mc,.pointer p,.slice ba bn bc],.slice sa sn sc] wx λe w'=>∃v,e=.returned (.tuple #[v,.int .i64 r.2])/\w'.ownsRow wx.heap.size 5 1 v r.1.length (r.1.map<|Value.int .u8)/\oq wx w':=by obtain⟨s,⟨ta,tc,cs,h1,t,u⟩,_,_,_⟩:=h;obtain⟨xa,xc,j,f⟩:=qp t;injection j with j _ q;subst j;subst q;obtain⟨g,rfl,_,l,b⟩:=f k d;obtain⟨pa,pn,pc,ma,mn,mc,p,ba,bn,bc,bs,no,e,i1,i2,i3,i4,i5⟩:=u.2 k d;obtain⟨z,s1,A,s3,B,C⟩:=pvm e;have c:=i.X a.X[k] (wZ _);refine⟨g,tc,pa,pn,pc,ma,mn,mc,p,ba,bn,bc,h1,l,(b _ aj).trans z,(b _ aj).trans s1,(b _ aj).trans A,(b _ aj).trans s3,(b _ aj).trans B,(b _ aj).trans C,?_⟩;intro wx st sa sn sc r hb x m y;exact jks no a.X[k].x ba bn bc bs (s.below hb) (qj i1 hb) (qj i2 hb) x i.z c.1 m (i3.below hb) c.2.1 ⟨qj i4 hb,i5.stay (λk _ d=>hb.block k d),c.2.2.1,c.2.2.2.1,c.2.2.2.2⟩ jR y
def qq7(w:World)(r:SRep)(e:Ending)(w':World):Prop:=
 ∃ta tn tc,e=.returned (.tuple #[.agg #[.int .i64 r.end_,.slice ta tn tc,.int .i64 r.xr],.int .i64 r.err])/\w'.ownsRow w.heap.size 9 1 (.slice ta tn tc) r.xq.length (r.xq.map Value.string)/\oq w w'
theorem jwm{g8:TypeId}(h:w.heap[b]?=some (.cells #[tv,v,sv] g8 (0,0)))(y0 y1 y2:Value):(((w.setCell ⟨b,0,none⟩ y0).setCell ⟨b,1,none⟩ y1).setCell ⟨b,2,none⟩ y2).heap[b]?=some (.cells #[y0,y1,y2] g8 (0,0)):=by have h1:(w.setCell ⟨b,0,none⟩ y0).heap[b]?=some (.cells #[y0,v,sv] g8 (0,0)):=jL b 0 _ _ _ h;have a:((w.setCell ⟨b,0,none⟩ y0).setCell ⟨b,1,none⟩ y1).heap[b]?=some (.cells #[y0,y1,sv] g8 (0,0)):=jL b 1 _ _ _ h1;exact jL b 2 _ _ _ a
theorem qyt(w:World)(b:Nat)(y0 y1 y2:Value):kqg [b] w (((w.setCell ⟨b,0,none⟩ y0).setCell ⟨b,1,none⟩ y1).setCell ⟨b,2,none⟩ y2):=
 (((kqg.refl [b] w).set (.inl ay) y0).set (.inl ay) y1).set (.inl ay) y2
theorem xv2(h:kvr w b ks vs)(c:prog.underlying T=some (.map 9 E))(ty:Nat):(Builtin.len_ #[T] ty #[.map (some b)]).run prog w=.ok (.int .i64 ks.length) w:=by
 obtain⟨es,e,h1,a,_⟩:=h.ents;have d:es.size=ks.length:=by have:=congrArg List.length a;simp[h.T]at this;rw[h.T];omega
 simp[Builtin.len_,Q7 c,MapKept.run_getObj_map h1,Result.andThen,d];rfl
theorem py1(h:kvr w b ks vs)(c:prog.underlying T=some (.map 9 E))(ty:Nat):∃w',(Builtin.clear_ #[T] ty #[.map (some b)]).run prog w=.ok (.tuple #[]) w'/\kvr w' b [] []/\kqg [b] w w':=by obtain⟨es,a,h1,d,_⟩:=h.ents;refine⟨ChangeMaps.setBlock w b<|.map #[] a,?_,⟨⟨#[],a,ChangeMaps.heap_setBlock_same h1 _,rfl,ay,ay⟩,rfl,Jd,ay⟩,qxg h1⟩;simp[Builtin.clear_,Q7 c,MapKept.run_getObj_map h1,MapKept.run_setObj_map _ h1,Result.andThen,ChangeMaps.setBlock]
theorem kjy.zyg(h:kjy B w S O M gc cc sb fb ts s)(k:Nat)(j:k<s.m.length):∃g lc b d c,w.cell? ⟨S,1,none⟩=some (.slice (some ⟨g,0,none⟩) s.m.length lc)/\g<w.heap.size/\w.cell? ⟨g,k*3,none⟩=some (.slice b d c)/\zqc B w gc s.m[k].U (.slice b d c):=by obtain⟨la,ll,lc,cs,l,m,p⟩:=h.e;obtain⟨xa,xc,ex,a⟩:=qp m;injection ex with e f i;subst e;subst f;subst i;have z0:=kz3 l;obtain⟨g,rfl,_,t,q⟩:=a k j;obtain⟨b,d,c,c0,_,_,u⟩:=p.2 k j;grind
theorem kjy.qv2(h:kjy B w S O M gc cc sb fb ts s):∃la lc,w.cell? ⟨S,1,none⟩=some (.slice la s.m.length lc)/\w.cell? ⟨S,3,none⟩=some (.map (some fb)):=by obtain⟨la,ll,lc,cs,d,e,f⟩:=h.e;obtain⟨xa,xc,ex,_⟩:=qp e;injection ex with a b c;subst a;subst b;subst c;have z0:=kz3 d;simp_all
theorem kjy.cleared(h:kjy B w S O M gc cc sb fb ts s)(c:kvr w' fb [] [])(a:kqg [fb] w w'):kjy B w' S O M gc cc sb fb ts ⟨s.m,s.Z,[],s.cur⟩:=by
 obtain⟨tv,d⟩:=h.orb;obtain⟨vs,e,f⟩:=h.Z;exact h.turned (a.wide ay) rfl (qj7 d.xu a (λk b c=>by injection b with b;have g:gc=k:=b;simp at c;exact h.pxt.1 aj)) (e.stay a<|by simpa using h.ne) f c ⟨rfl,λk a=>by grind⟩
def xv6(w:World)(S:Nat):Nat:=match w.cell? ⟨S,1,none⟩ with|some (.slice _ n _)=>n|_=>0
theorem jyz(h:w.cell? ⟨S,1,none⟩=some (.slice la n lc)):xv6 w S=n:=by unfold xv6;rw[h]
end Go.Proofs.YtpmcnonmkghokaaGreatDoor

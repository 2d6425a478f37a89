import Derived.Test.YtpmcnonmkghokaaGreatDoorT29
import Derived.Test.YtpmcnonmkghokaaGreatDoorT23
import Derived.Test.YtpmcnonmkghokaaGreatDoorT27
set_option maxRecDepth 100000
set_option maxHeartbeats 8000000
set_option linter.unusedVariables false
set_option linter.unusedSimpArgs false
namespace Go.Proofs.YtpmcnonmkghokaaGreatDoor
open Go.RowKit
theorem qkn {t:PTree}(h:NamesFine t):((zf t).map (fun x=>x.text.toList)).Nodup:=by
 unfold List.Nodup;rw[Jy];intro i j hi hj hij;rw[QW,QW];exact h.uniq j i hij (by simpa using hj) (by simpa using hi)
theorem qkr (t:PTree):zf t=t.sets.flatMap zvm++(t.kinds.flatMap kkv++(t.vars.flatMap jys++(t.rules++t.nevers).flatMap zj6)):=by
 unfold zf qyl zzx zki;rw[tX,tX]
theorem jwu (t:PTree):(qjs (jq t)).map (·.1)=(t.kinds.flatMap fun k=>k.members)++t.vars.flatMap jys:=by
 unfold qjs;rw[ng,QK,zxh];congr 1
 ·simp only[zkd];rfl
 ·show (t.vars.map cu).map (·.name)=_;rw[fZ,Jl];rfl
theorem jqk (t:PTree):((qjs (jq t)).map (·.1)).Sublist (zf t):=by
 rw[jwu,qkr];exact ((qql (fun k=>List.sublist_cons_self _ _) t.kinds).append (Jg _ _)).trans (Qb _ _)
theorem zje {t:PTree}(h:NamesFine t):((kx2 (jq t)).map (fun x=>x.1.toList)).Nodup:=by
 have e:(kx2 (jq t)).map (fun x=>x.1.toList)=((qjs (jq t)).map (·.1)).map (fun x=>x.text.toList):=by
  unfold kx2;rw[fZ,fZ];rfl
 rw[e];exact ((jqk t).map _).nodup (qkn h)
theorem jqh {t:PTree}(h:NamesFine t):(t.kinds.map (fun k=>k.name.text.toList)).Nodup:=by
 have s:(t.kinds.flatMap fun k=>[k.name]).Sublist (zf t):=by
  rw[qkr];refine ((qql (fun k=>?_) t.kinds).trans (Jg _ _)).trans (Qb _ _);exact (Jd _).cons_cons _
 have:=(s.map (fun x=>x.text.toList)).nodup (qkn h);rw[←Jl,fZ] at this;exact this
theorem zyv {t:PTree}(h:NamesFine t):(t.rules.map (fun k=>k.name.text.toList)).Nodup:=by
 have s:(t.rules.flatMap zj6).Sublist (zf t):=by
  rw[qkr,Qy];exact (((Jg _ _).trans (Qb _ _)).trans (Qb _ _)).trans (Qb _ _)
 have:=(s.map (fun x=>x.text.toList)).nodup (qkn h);have e:t.rules.flatMap zj6=t.rules.map (fun r=>r.name):=by rw[Jl];rfl
 rw[e,fZ] at this;exact this
theorem vjg {t:PTree}(h:NamesFine t)(hs:TreeSize t):qz8 (qjs (jq t)) []=some (kx2 (jq t)):=by
 rw[jkp (qjs (jq t)) [] ?_ ?_]
 ·rfl
 ·have:=zje h;unfold kx2 at this;rw[fZ] at this;exact this
 ·intro x hx;have h1:x.1∈zf t:=(jqk t).subset (tC hx);have:=(hs.nm _ ((qyn t).subset h1)).2;omega
theorem zkb {t:PTree}(h:NamesFine t){x:Tok × Mean}(hx:x∈qjs (jq t)):kjt (kx2 (jq t)) x.1.text.toList=x.2:=
 zz2 (kx2 (jq t)) _ (zje h) (x.1.text,x.2) (tC (f:=fun x:Tok × Mean=>(x.1.text,x.2)) hx) rfl
def ssz (m:MdL)(s:List UInt8):Nat:=(qj8 m.sets s).getD 0
def ksz (m:MdL)(s:List UInt8):Nat:=match kyj m.kinds s with|some k=>k.members.length|none=>0
theorem jkj:∀ (l:List PSet) (s:List UInt8),(∃ q∈l,q.name.text.toList=s)→∃ k x,qz5 l s=some k∧l[k]?=some x∧x∈l
 | [],s,⟨q,hq,_⟩=>by cases hq
 | x::l,s,⟨q,hq,e⟩=>by
  rw[qz5];cases hx:(x.name.text.toList==s)
  ·rw[lu] at hx;rcases tK.mp hq with rfl|hq
   ·exact (hx e).elim
   ·obtain ⟨k,y,h1,h2,h3⟩:=jkj l s ⟨q,hq,e⟩;exact ⟨k+1,y,by rw[if_neg (by simp),h1];rfl,by simpa using h2,rU _ h3⟩
  ·exact ⟨0,x,by rw[if_pos rfl],rfl,rG ..⟩
theorem jqm {α:Type}{f:α→ByteArray}{l:List α}{s:List UInt8}(h:¬vk (l.map f) s<0):∃ q∈l,(f q).toList=s:=by
 apply sJ;intro hc;refine h ((kkk _ _).mpr fun x hx=>?_);obtain ⟨q,hq,rfl⟩:=sV.mp hx;exact fun e=>hc ⟨q,hq,e⟩
theorem zvp {t:PTree}(h:Right t){s:List UInt8}(hs:¬vk (kj6 t) s<0):∃ n,qj8 t.sets s=some n∧2≤n∧n≤3∧ssz (jq t) s=n:=by
 obtain ⟨k,x,h1,h2,h3⟩:=jkj t.sets s (jqm hs);have hb:=h.bnd.size x h3;have e:qj8 t.sets s=some (gu x.size.text).toNat:=by
  unfold qj8;rw[h1];show (t.sets[k]?).bind _=_;rw[h2];show jj3 x.size.text=_;unfold jj3;rw[if_pos (by omega)]
 refine ⟨_,e,by omega,by omega,?_⟩;unfold ssz;rw[show (jq t).sets=t.sets from rfl,e];rfl
theorem qxq:∀ {l:List PKind} {s:List UInt8} {k:PKind},kyj l s=some k→k∈l∧k.name.text.toList=s
 | x::l,s,k,h=>by
  rw[kyj] at h;split at h
  ·rename_i hx;injection h with h;subst h;exact ⟨rG ..,by simpa using hx⟩
  ·obtain ⟨h1,h2⟩:=qxq h;exact ⟨rU _ h1,h2⟩
theorem jv1:∀ (l:List PKind) (s:List UInt8),(∃ q∈l,q.name.text.toList=s)→∃ k,kyj l s=some k
 | [],s,⟨q,hq,_⟩=>by cases hq
 | x::l,s,⟨q,hq,e⟩=>by
  rw[kyj];cases hx:(x.name.text.toList==s)
  ·rw[lu] at hx;rcases tK.mp hq with rfl|hq
   ·exact (hx e).elim
   ·rw[if_neg (by simp)];exact jv1 l s ⟨q,hq,e⟩
  ·exact ⟨x,by rw[if_pos rfl]⟩
theorem jv0:∀ {l:List PKind},(l.map (fun k=>k.name.text.toList)).Nodup→∀ {k:PKind},k∈l→kyj l k.name.text.toList=some k
 | x::l,hn,k,hk=>by
  rw[lC,Qo] at hn;rw[kyj];rcases tK.mp hk with rfl|hk
  ·rw[if_pos (by simp)]
  ·rw[if_neg]
   ·exact jv0 hn.2 hk
   ·rw[wP];intro e;exact hn.1 (by rw[e];exact tC (f:=fun k:PKind=>k.name.text.toList) hk)
theorem vjt {t:PTree}(h:NamesFine t){k:PKind}(hk:k∈t.kinds):ksz (jq t) k.name.text.toList=k.members.length:=by
 unfold ksz;rw[show (jq t).kinds=t.kinds from rfl,jv0 (jqh h) hk]
theorem vvh {t:PTree}(h:Right t)(s:List UInt8):ksz (jq t) s≤1000:=by
 unfold ksz;cases hk:kyj (jq t).kinds s with
 | none=>exact tu _
 | some k=>
  have:=h.bnd.mems k (qxq hk).1;show k.members.length≤1000;omega
theorem vv5 (m:MdL)(s:List UInt8):ssz m s≤1000:=by
 unfold ssz;cases hk:qj8 m.sets s with
 | none=>exact tu _
 | some n=>
  obtain ⟨_,_,_,_,_,h⟩:=qx3 hk;show n≤1000;omega
structure UOk (m:MdL)(u:MVar)(d:VrT):Prop where
 cnt:u.count=if d.arr then ssz m d.over.text.toList else 1
 low:1≤u.count
 top:u.count≤3
 few:u.texts.length≤200
 ne:0<u.texts.length
 tru:(kzc (zx m) d.si).fam=1→u.texts.length=2
 kin:(kzc (zx m) d.si).fam=3→u.texts.length=ksz m (kzc (zx m) d.si).name.toList
 set:(kzc (zx m) d.si).fam=4→u.texts.length=ssz m (kzc (zx m) d.si).name.toList+1
 txt:∀ x∈u.texts,x.size≤800∧0<x.size
theorem vz4 (i:Nat):(kwu i).size=1:=rfl
theorem zjr {n:Nat}:∀ x∈ky9 n,x.size≤800∧0<x.size:=by
 intro x hx;unfold ky9 at hx;obtain ⟨i,_,rfl⟩:=sV.mp hx;rw[vz4];omega
theorem vvo {t:PTree}(h:Right t){v:PVar}(hv:v∈t.vars):∃ c,(if (cu v).arr then qj8 t.sets (cu v).over.text.toList else some 1)=some c∧1≤c∧c≤3∧c=if (cu v).arr then ssz (jq t) (cu v).over.text.toList else 1:=by
 obtain ⟨L,hg,hL⟩:=h.good;obtain ⟨h1,_⟩:=hg.vars v hv;cases ha:(cu v).arr
 ·exact ⟨1,by simp,by omega,by omega,by simp⟩
 ·have hk:(v.over.kind.toList==[110,97,109,101])=true:=by
   rcases h1 with e|e
   ·have:(cu v).arr=!(v.over.kind.toList==[]):=rfl;rw[this,e,kjh] at ha;cases ha
   ·exact e
  obtain ⟨n,e1,e2,e3,e4⟩:=zvp h (h.fine.over v hv hk);have eo:(cu v).over=v.over:=rfl;rw[eo];exact ⟨n,by rw[if_pos rfl];exact e1,by omega,e3,by rw[if_pos rfl];exact e4.symm⟩
theorem vv2 {t:PTree}(h:Right t){v:PVar}(hv:v∈t.vars):∃ l,vq2 t.sets t.kinds (cu v).si=some l∧l.length≤200∧0<l.length∧((kzc (zx (jq t)) (cu v).si).fam=1→l.length=2)∧((kzc (zx (jq t)) (cu v).si).fam=3→l.length=ksz (jq t) (kzc (zx (jq t)) (cu v).si).name.toList)∧((kzc (zx (jq t)) (cu v).si).fam=4→l.length=ssz (jq t) (kzc (zx (jq t)) (cu v).si).name.toList+1)∧∀ x∈l,x.size≤800∧0<x.size:=by
 obtain ⟨L,hg,hL⟩:=h.good;have hsz:=qzi hL hg;obtain ⟨_,h2⟩:=hg.vars v hv;rcases h2 with ⟨k1,k2,_⟩|⟨k1,k2,_,_⟩|⟨k1,_⟩
 ·have e:(cu v).si=⟨0,jk,jk⟩:=by unfold cu;rw[k1,k2];rfl
  rw[e];refine ⟨ky9 2,rfl,by rw[kxa];omega,by rw[kxa];omega,fun _=>kxa 2,fun e=>?_,fun e=>?_,zjr⟩
  ·have:(1:Int)=3:=e;omega
  ·have:(1:Int)=4:=e;omega
 ·have e:(cu v).si=⟨1,v.top,jk⟩:=by unfold cu;rw[k1,k2];rfl
  have hb:=h.bnd.top (cu v) (tC hv) (by rw[e]);rw[e] at hb ⊢;have hb':1≤gu v.top.text∧gu v.top.text≤3:=hb;refine ⟨ky9 ((gu v.top.text).toNat+1),?_,by rw[kxa];omega,by rw[kxa];omega,fun e=>?_,fun e=>?_,fun e=>?_,zjr⟩
  ·show (jj3 v.top.text).map (fun n=>ky9 (n+1))=_;unfold jj3;rw[if_pos (by omega)];rfl
  ·have:(2:Int)=1:=e;omega
  ·have:(2:Int)=3:=e;omega
  ·have:(2:Int)=4:=e;omega
 ·have e:(cu v).si=⟨2,jk,v.type_⟩:=by unfold cu;rw[k1];rfl
  rw[e];have hT:kzc (zx (jq t)) ⟨2,jk,v.type_⟩=if (qo (zx (jq t)) v.type_.text.toList).role==1 then ⟨4,v.type_.text⟩ else ⟨3,v.type_.text⟩:=rfl
  have hX:vq2 t.sets t.kinds ⟨2,jk,v.type_⟩=match kyj t.kinds v.type_.text.toList with|some k=>some (k.members.map (·.text))|none=>(qj8 t.sets v.type_.text.toList).map fun m=>⟨#[45]⟩::ky9 m:=rfl
  rw[hT,hX];by_cases hr:(qo (zx (jq t)) v.type_.text.toList).role=1
  ·rw[if_pos (by rw[wP];exact hr)];have hno:kyj t.kinds v.type_.text.toList=none:=by
    cases hk:kyj t.kinds v.type_.text.toList with
    | none=>rfl
    | some k=>
     obtain ⟨q1,q2⟩:=qxq hk;have:=jko h.fine (zkn q1);simp only[q2] at this;rw[this] at hr;cases hr
   obtain ⟨n,e1,e2,e3,e4⟩:=zvp h ((qvk t _).mp hr);rw[hno,e1];refine ⟨⟨#[45]⟩::ky9 n,rfl,by rw[sU,kxa];omega,by simp,fun e=>?_,fun e=>?_,fun _=>?_,fun x hx=>?_⟩
   ·have:(4:Int)=1:=e;omega
   ·have:(4:Int)=3:=e;omega
   ·show (⟨#[45]⟩::ky9 n).length=ssz (jq t) v.type_.text.toList+1;rw[sU,kxa,e4]
   ·rcases tK.mp hx with rfl|hx
    ·exact ⟨by decide,by decide⟩
    ·exact zjr x hx
  ·rw[if_neg (by rw[wP];exact hr)];have hlt:vk (kj6 t) v.type_.text.toList<0:=by
    apply sJ;intro hc;exact hr ((qvk t _).mpr hc)
   obtain ⟨k,hk⟩:=jv1 t.kinds v.type_.text.toList (jqm (h.fine.type_ v hv (by rw[wP];exact k1) hlt));obtain ⟨q1,q2⟩:=qxq hk;have hm:=h.bnd.mems k q1;rw[hk];refine ⟨k.members.map (·.text),rfl,by rw[sG];omega,by rw[sG];exact h.sm.kinds k q1,fun e=>?_,fun _=>?_,fun e=>?_,fun x hx=>?_⟩
   ·have:(3:Int)=1:=e;omega
   ·show (k.members.map (·.text)).length=ksz (jq t) v.type_.text.toList;rw[←q2,vjt h.fine q1,sG]
   ·have:(3:Int)=4:=e;omega
   ·obtain ⟨y,hy,rfl⟩:=sV.mp hx;have:=hsz.nm _ (qwp q1 (rU _ hy));exact ⟨this.2,this.1⟩
theorem vw4 {t:PTree}(h:Right t){v:PVar}(hv:v∈t.vars)(sz:Nat):∃ u,jxn t.sets t.kinds sz (cu v)=some u∧u.first=sz∧UOk (jq t) u (cu v):=by
 obtain ⟨c,c1,c2,c3,c4⟩:=vvo h hv;obtain ⟨l,l1,l2,l3,l4,l5,l6,l7⟩:=vv2 h hv;unfold jxn;rw[c1,l1];exact ⟨_,rfl,rfl,c4,c2,c3,l2,l3,l4,l5,l6,l7⟩
def vmk (ss:List PSet)(ks:List PKind):List VrT→Nat→Option (List MVar × Nat)
 | [],sz=>some ([],sz)
 | v::l,sz=>(jxn ss ks sz v).bind fun u=>(vmk ss ks l (sz+u.count)).map fun r=>(u::r.1,r.2)
structure VsOk (m:MdL)(l:List VrT)(sz:Nat)(us:List MVar)(z:Nat):Prop where
 len:us.length=l.length
 low:sz≤z
 top:z≤sz+3 * l.length
 at_:∀ j (hj:j<l.length),∃ u,us[j]?=some u∧UOk m u l[j]
 fit:∀ u∈us,sz≤u.first∧u.first+u.count≤z
 disj:qq4 us
theorem jyr {t:PTree}(h:Right t):∀ (l:List PVar),(∀ v∈l,v∈t.vars)→∀ sz,∃ us z,vmk t.sets t.kinds (l.map cu) sz=some (us,z)∧VsOk (jq t) (l.map cu) sz us z
 | [],_,sz=>⟨[],sz,rfl,rfl,wW _,wW _,(fun j hj=>by simp at hj),(fun u hu=>by cases hu),fun i j u v hu=>by simp at hu⟩
 | v::l,hl,sz=>by
  obtain ⟨u,u1,u2,u3⟩:=vw4 h (hl v (rG ..)) sz;obtain ⟨us,z,v1,v2⟩:=jyr h l (fun x hx=>hl x (rU _ hx)) (sz+u.count);have hc:=u3.top;have a1:=v2.low;have a2:=v2.top;have a3:=v2.len;refine ⟨u::us,z,?_,?_,by omega,?_,?_,?_,?_⟩
  ·rw[lC,vmk,u1];show (vmk t.sets t.kinds (l.map cu) (sz+u.count)).map _=_;rw[v1];rfl
  ·rw[lC,sU,sU,a3]
  ·rw[lC,sU];omega
  ·intro j hj;cases j with
   | zero=>exact ⟨u,rfl,by simpa using u3⟩
   | succ j=>
    obtain ⟨x,x1,x2⟩:=v2.at_ j (by simpa using hj);exact ⟨x,by simpa using x1,by simpa using x2⟩
  ·intro x hx;rcases tK.mp hx with rfl|hx
   ·omega
   ·have:=v2.fit x hx;omega
  ·intro i j x y hx hy hij;cases i with
   | zero=>
    cases j with
    | zero=>exact (hij rfl).elim
    | succ j=>
     rw[sW] at hx;injection hx with hx;subst hx;rw[sK] at hy;have:=v2.fit y (lZ hy);omega
   | succ i=>
    rw[sK] at hx;cases j with
    | zero=>
     rw[sW] at hy;injection hy with hy;subst hy;have:=v2.fit x (lZ hx);omega
    | succ j=>
     rw[sK] at hy;exact v2.disj i j x y hx hy (by omega)
theorem jyn {ss:List PSet}{ks:List PKind}:∀ (l:List VrT) (sz:Nat) (r:List MVar × Nat),vmk ss ks l sz=some r→sz≤r.2
 | [],sz,r,h=>by
  have e:some (([]:List MVar),sz)=some r:=h;injection e with e;subst e;exact wW _
 | v::l,sz,r,h=>by
  rw[vmk] at h;obtain ⟨u,q1,q2⟩:=wQ.mp h;obtain ⟨r',q3,q4⟩:=rQ.mp q2;have:=jyn l _ _ q3;rw[←q4];show sz≤r'.2;omega
theorem jxe {ss:List PSet}{ks:List PKind}:∀ (l:List VrT) (i:Nat) (t t':uq) (vs us:List MVar) (sz z:Nat),qz8 (zwo l i) t=some t'→vmk ss ks l sz=some (us,z)→z≤100000→vs.length+l.length≤1000→kyz ss ks l i t vs sz=some (t',vs++us,z)
 | [],i,t,t',vs,us,sz,z,h1,h2,h3,h4=>by
  have e1:some t=some t':=h1;have e2:some (([]:List MVar),sz)=some (us,z):=h2;injection e1 with e1;injection e2 with e2;injection e2 with e2 e3;subst e1;subst e2;subst e3;rw[kyz,ni]
 | v::l,i,t,t',vs,us,sz,z,h1,h2,h3,h4=>by
  rw[zwo,qz8] at h1;obtain ⟨t1,p1,p2⟩:=wQ.mp h1;rw[vmk] at h2;obtain ⟨u,q1,q2⟩:=wQ.mp h2;obtain ⟨r,q3,q4⟩:=rQ.mp q2;injection q4 with q4 q5;have hz:sz+u.count≤z:=by rw[←q5];exact jyn l _ _ q3
  have p1':qwx t v.name.text ⟨true,i⟩=some t1:=p1;rw[sU] at h4;rw[kyz,p1'];show (if sz≤100000∧vs.length≤1000 then (jxn ss ks sz v).bind fun u=>kyz ss ks l (i+1) t1 (vs++[u]) (sz+u.count) else none)=_;rw[if_pos (by omega),q1];show kyz ss ks l (i+1) t1 (vs++[u]) (sz+u.count)=_;rw[jxe l (i+1) t1 t' (vs++[u]) r.1 (sz+u.count) r.2 p2 q3 (by rw[q5];exact h3) (by rw[wU];simp;omega),q5,←q4];simp
theorem vwo {t:PTree}(h:Right t){us:List MVar}{z:Nat}(hs:TreeSize t)(hv:vmk t.sets t.kinds (t.vars.map cu) 0=some (us,z))(hz:z≤100000):∃ t1,qjp t.kinds []=some t1∧kyz t.sets t.kinds (t.vars.map cu) 0 t1 [] 0=some (kx2 (jq t),us,z):=by
 have hp:=vjg h.fine hs;unfold qjs at hp;rw[zjk] at hp;obtain ⟨t1,p1,p2⟩:=wQ.mp hp;refine ⟨t1,by rw[zkr];exact p1,?_⟩;have hn:=h.bnd.vars;have:=jxe (ss:=t.sets) (ks:=t.kinds) (t.vars.map cu) 0 t1 _ [] us 0 z p2 hv hz (by
  have e:(jq t).vars=t.vars.map cu:=rfl;rw[e] at hn;simp only[fP];omega)
 rw[lK] at this;exact this
theorem vvl {t:PTree}(h:Right t){us:List MVar}{z:Nat}(hv:VsOk (jq t) (t.vars.map cu) 0 us z):EnvOk (zx (jq t)) us (kx2 (jq t)) (ksz (jq t)) (ssz (jq t)) z:=by
 refine ⟨fun s hr=>?_,fun s hr=>?_,fun s ha=>?_,vvh h,vv5 _,?_⟩
 ·rw[kjy] at hr ⊢;rcases kju (kqe (jq t)) s with ⟨e,_⟩|⟨j,hj,g1,g2,e⟩
  ·rw[e] at hr;cases hr
  ·rw[e] at hr ⊢;simp only at hr ⊢;rcases kvx _ _ (rJ hj) with g|g|g|g|g|g
   ·have:=g.1;omega
   ·have:=g.1;omega
   ·obtain ⟨_,k,hk,hm,ek⟩:=g;obtain ⟨i,hi,ei⟩:=sZ hm;have hin:((kqe (jq t))[j].1,(⟨false,0+i⟩:Mean))∈qjs (jq t):=by
     unfold qjs;refine wG _ (su.mpr ⟨k,hk,?_⟩);have:=jks k.members 0 i hi;rw[ei] at this;exact this
    have hl:=zkb h.fine hin;simp only[g1] at hl;rw[hl,ek,vjt h.fine hk];exact ⟨rfl,by show 0+i<_;omega⟩
   ·have:=g.1;omega
   ·have:=g.1;omega
   ·have:=g.1;omega
 ·obtain ⟨v1,v2⟩:=vjp h.fine s;have h0:=v1.mp hr;obtain ⟨hi,ev⟩:=v2 h0;obtain ⟨hi2,he⟩:=qqt h0;have he':(t.vars[(vk (uh t) s).toNat]).name.text.toList=s:=by
   have:(uh t)[(vk (uh t) s).toNat]=(t.vars[(vk (uh t) s).toNat]).name.text:=by simp[uh]
   rw[←this];exact he
  generalize (vk (uh t) s).toNat=i at hi ev he';have hj:i<(t.vars.map cu).length:=by simpa using hi
  have hin:((t.vars.map cu)[i].name,(⟨true,0+i⟩:Mean))∈qjs (jq t):=rW _ (zxt (t.vars.map cu) 0 i hj);have hl:=zkb h.fine hin;have en:(t.vars.map cu)[i].name.text.toList=s:=by rw[QW];exact he'
  simp only[en] at hl;obtain ⟨u,u1,u2⟩:=hv.at_ i hj;rw[hl,ev];refine ⟨rfl,u,by rw[Qx];exact u1,?_⟩;have hf:=hv.fit u (lZ u1);rw[QW] at u2;exact ⟨hf.2,u2.cnt,u2.low,u2.few,u2.tru,u2.kin,u2.set⟩
 ·apply sJ;intro hc;rw[jzi t s hc] at ha;cases ha
 ·have h1:=hv.top;have h2:=h.bnd.vars;have e:(jq t).vars=t.vars.map cu:=rfl;rw[e] at h2;omega
theorem vq8 {m:MdL}{l:List VrT}{us:List MVar}{z:Nat}(hv:VsOk m l 0 us z):kqp us z (List.replicate z 0):=by
 refine ⟨JC,fun v hm j hj=>?_⟩;obtain ⟨i,hi,rfl⟩:=sZ hm;obtain ⟨u,u1,u2⟩:=hv.at_ i (by rw[←hv.len];exact hi);rw[ny hi] at u1;injection u1 with u1;have hf:=hv.fit us[i] hm;have hne:=u2.ne;rw[←u1] at hne;exact ⟨0,by rw[List.getElem?_replicate,if_pos (by omega)],Int.le_refl _,by omega⟩
theorem jxp {n:Nat}{all:List (List Int)}{x:List Int}(h:x∈um n all):∃ c∈all,∃ j:Nat,j<n∧x=c++[(j:Int)]:=by
 unfold um at h;obtain ⟨c,hc,h2⟩:=su.mp h;obtain ⟨j,hj,rfl⟩:=sV.mp h2;exact ⟨c,hc,j,by simpa using hj,rfl⟩
theorem qk1 (n:Nat):∀ all:List (List Int),(um n all).length=all.length * n
 | []=>by simp[um]
 | c::l=>by
  have e:um n (c::l)=((List.range n).map fun (j:Nat)=>c++[(j:Int)])++um n l:=rfl;rw[e,wU,qk1 n l,sG,List.length_range,sU,Nat.add_mul];omega
theorem zwx {n:Nat}{all:List (List Int)}(h:all.Nodup):(um n all).Nodup:=by
 unfold um List.Nodup;rw[List.pairwise_flatMap];refine ⟨fun c _=>?_,?_⟩
 ·rw[List.pairwise_map];refine List.Pairwise.imp ?_ (List.nodup_range (n:=n));intro a b hab e;have:=List.append_cancel_left e;injection this with this;exact hab (by omega)
 ·refine List.Pairwise.imp ?_ h;intro a b hab x hx y hy e;obtain ⟨i,_,rfl⟩:=sV.mp hx;obtain ⟨j,_,rfl⟩:=sV.mp hy;exact hab (Jb e rfl).1
theorem vkp {ss:List PSet}:∀ (l:List PP) (all:List (List Int)),(∀ p∈l,∃ n,qj8 ss p.set_.text.toList=some n∧n≤3)→all.length * 3 ^ l.length≤100000→all.Nodup →
  ∃ c,chO ss l all=some c∧c.Nodup∧c.length≤all.length * 3 ^ l.length∧∀ x∈c,∃ y∈all,∃ z:List Int,x=y++z∧z.length=l.length∧∀ i (hi:i<l.length) (hz:i<z.length),0≤z[i]∧z[i]<((qj8 ss l[i].set_.text.toList).getD 0:Nat)
 | [],all,_,hb,hn=>⟨all,rfl,hn,by simp,fun x hx=>⟨x,hx,[],by simp,rfl,fun i hi=>by simp at hi⟩⟩
 | p::l,all,hl,hb,hn=>by
  obtain ⟨n,h1,h2⟩:=hl p (rG ..);have hlen:=qk1 n all;have hP:1≤3 ^ l.length:=Nat.one_le_pow _ _ (by omega);rw[sU,Nat.pow_succ] at hb;have hm:(um n all).length * 3 ^ l.length≤all.length * (3 ^ l.length * 3):=by
   rw[hlen,Nat.mul_assoc];refine J3 _ ?_;rw[Nat.mul_comm];exact J3 _ h2
  have hle:(um n all).length≤(um n all).length * 3 ^ l.length:=Nat.le_mul_of_pos_right _ hP;obtain ⟨c,c1,c2,c3,c4⟩:=vkp l (um n all) (fun q hq=>hl q (rU _ hq)) (by omega) (zwx hn);refine ⟨c,?_,c2,by rw[sU,Nat.pow_succ];omega,fun x hx=>?_⟩
  ·rw[chO,h1];show (if (um n all).length≤100000 then chO ss l (um n all) else none)=_;rw[if_pos (by omega)];exact c1
  ·obtain ⟨y,hy,z,e1,e2,e3⟩:=c4 x hx;obtain ⟨y0,hy0,j,hj,rfl⟩:=jxp hy;refine ⟨y0,hy0,(j:Int)::z,by rw[e1,tX];rfl,by rw[sU,sU,e2],fun i hi hz=>?_⟩;cases i with
   | zero=>
    simp only[fB];rw[h1];show 0≤(j:Int)∧(j:Int)<((n:Nat):Int);omega
   | succ i=>
    simp only[Ql];exact e3 i (by simpa using hi) (by simpa using hz)
def zq0 (z:List Int):Prop:=z.length≤2∧∀ x∈z,0≤x∧x<4
theorem qw2 {z:List Int}(h:z.length≤2):z=[]∨(∃ a,z=[a])∨∃ a b,z=[a,b]:=by
 match z,h with
 | [],_=>exact Or.inl rfl
 | [a],_=>exact Or.inr (Or.inl ⟨a,rfl⟩)
 | [a,b],_=>exact Or.inr (Or.inr ⟨a,b,rfl⟩)
 | a::b::c::l,h=>simp at h
def qzd (z:List Int):List UInt8:=Go.Lib.join ((z.map fun i=>kwu i.toNat).map (·.data.toList)) [44]
def dgB (a:Int):UInt8:=(48+a.toNat).toUInt8
theorem qwn:qzd []=[]:=rfl
theorem qwr (a:Int):qzd [a]=[dgB a]:=by simp[dgB,qzd,Go.Lib.join,kwu,List.intercalate,List.intersperse]
theorem qwt (a b:Int):qzd [a,b]=[dgB a,44,dgB b]:=by simp[dgB,qzd,Go.Lib.join,kwu,List.intercalate,List.intersperse]
theorem vvr {z:List Int}(h:zq0 z):qxe z=true:=by
 have hl:(qzd z).length≤3:=by
  rcases qw2 h.1 with rfl|⟨a,rfl⟩|⟨a,b,rfl⟩
  ·rw[qwn];simp
  ·rw[qwr];simp
  ·rw[qwt];simp
 unfold qxe;rw[wY,wY,nX];refine ⟨⟨fun x hx=>?_,?_⟩,?_⟩
 ·have:=h.2 x hx;rw[wY];exact ⟨sD (by omega),sD (by omega)⟩
 ·have:=h.1;exact sD (by omega)
 ·exact sD (by unfold qzd at hl;omega)
theorem qxz (n:ByteArray)(z:List Int):(kzy n z).toList=n.toList++(40::(qzd z++[41])):=by
 unfold kzy zz5;rw[xg,Q5,Q5,Q5,Js,Js,Js,xg];simp[qzd]
theorem zwj {a:Int}(h0:0≤a)(h1:a<4):dgB a≠40:=by
 have:a=0∨a=1∨a=2∨a=3:=by omega
 rcases this with rfl|rfl|rfl|rfl<;>decide
theorem zwz {a b:Int}(h0:0≤a)(h1:a<4)(h2:0≤b)(h3:b<4)(e:dgB a=dgB b):a=b:=by
 have ha:a=0∨a=1∨a=2∨a=3:=by omega
 have hb:b=0∨b=1∨b=2∨b=3:=by omega
 rcases ha with rfl|rfl|rfl|rfl<;>rcases hb with rfl|rfl|rfl|rfl<;>first|rfl|exact absurd e (by decide)
theorem jv2 {n n':ByteArray}{z z':List Int}(h:zq0 z)(h':zq0 z')(e:(kzy n z).toList=(kzy n' z').toList):n.toList=n'.toList∧z=z':=by
 rw[qxz,qxz] at e;have e2:=congrArg List.reverse e;rcases qw2 h.1 with rfl|⟨a,rfl⟩|⟨a,b,rfl⟩<;>rcases qw2 h'.1 with rfl|⟨a',rfl⟩|⟨a',b',rfl⟩
 ·simp only[qwn] at e;exact ⟨(Jb e rfl).1,rfl⟩
 ·have ha:=h'.2 a' (by simp);simp[qwn,qwr] at e2;exact absurd e2.1.symm (zwj ha.1 ha.2)
 ·have hb:=h'.2 b' (by simp);simp[qwn,qwt] at e2;exact absurd e2.1.symm (zwj hb.1 hb.2)
 ·have ha:=h.2 a (by simp);simp[qwn,qwr] at e2;exact absurd e2.1 (zwj ha.1 ha.2)
 ·have ha:=h.2 a (by simp);have ha':=h'.2 a' (by simp);simp only[qwr] at e;obtain ⟨q1,q2⟩:=Jb e rfl;simp at q2;exact ⟨q1,by rw[zwz ha.1 ha.2 ha'.1 ha'.2 q2]⟩
 ·simp[qwr,qwt] at e2
 ·have hb:=h.2 b (by simp);simp[qwn,qwt] at e2;exact absurd e2.1 (zwj hb.1 hb.2)
 ·simp[qwr,qwt] at e2
 ·have ha:=h.2 a (by simp);have ha':=h'.2 a' (by simp);have hb:=h.2 b (by simp);have hb':=h'.2 b' (by simp);simp only[qwt] at e;obtain ⟨q1,q2⟩:=Jb e rfl;simp at q2;exact ⟨q1,by rw[zwz ha.1 ha.2 ha'.1 ha'.2 q2.1,zwz hb.1 hb.2 hb'.1 hb'.2 q2.2]⟩
theorem kks.num:∀ {x:PX},kks x→zqz x
 | .node _ _ x a c,h=>by
  rcases h with ⟨hl,rfl,rfl⟩|⟨ho,ha,rfl⟩|⟨ho,ha,hc⟩
  ·refine ⟨fun e=>?_,trivial,trivial⟩;rcases hl with (e1|e1|e1)|⟨e1,h1,h2⟩|⟨e1,_⟩
   ·rw[e1] at e;exact absurd e (by decide)
   ·rw[e1] at e;exact absurd e (by decide)
   ·rw[e1] at e;exact absurd e (by decide)
   ·exact ⟨h1,h2⟩
   ·rw[e1] at e;exact absurd e (by decide)
  ·exact ⟨fun e=>by rw[ho] at e;exact absurd e (by decide),ha.num,trivial⟩
  ·refine ⟨fun e=>?_,ha.num,hc.num⟩;rcases zww ho with q|q|q|q|q|q|q<;>rw[q] at e<;>exact absurd e (by decide)
theorem kw1.num:∀ {b:PB},kw1 b→BSm b→zwm b
 | .nil,_,_=>trivial
 | .node _ _ a .nil n,⟨_,h2,_,h⟩,⟨s1,s2⟩=>⟨⟨h2.num,by omega⟩,h.num s2⟩
 | .node _ _ a (.node _ _ _ t e) n,⟨h1,_,_,h4,h5,h6⟩,⟨s1,s2,s3,s4⟩=>⟨⟨h1.num,by omega⟩,h4.1.num s2,h5.1.num s3,h6.num s4⟩
theorem vzi {t:PTree}(h:Right t){r:PRule}(hr:r∈t.rules++t.nevers):∃ c,chO t.sets r.params [[]]=some c∧c.Nodup∧c.length≤9∧∀ z∈c,zq0 z∧ParOk (ssz (jq t)) r.params z:=by
 have hp:r.params.length≤2:=h.bnd.pars r hr;have h9:3 ^ r.params.length≤9:=by
  have:r.params.length=0∨r.params.length=1∨r.params.length=2:=by omega
  rcases this with e|e|e<;>rw[e]<;>decide
 obtain ⟨c,c1,c2,c3,c4⟩:=vkp (ss:=t.sets) r.params [[]] (fun p hp=>by obtain ⟨n,e1,_,e3,_⟩:=zvp h (h.fine.psets r hr p hp);exact ⟨n,e1,e3⟩) (by simp;omega) (by simp);refine ⟨c,c1,c2,by simp at c3;omega,fun z hz=>?_⟩;obtain ⟨y,hy,z',e1,e2,e3⟩:=c4 z hz;rw[tV] at hy;subst hy;rw[lK] at e1;subst e1;refine ⟨⟨by omega,fun x hx=>?_⟩,e2,fun i hi hm=>e3 i hi hm⟩;obtain ⟨i,hi,rfl⟩:=sZ hx;have hi':i<r.params.length:=by omega
 obtain ⟨a1,a2⟩:=e3 i hi' hi;obtain ⟨n,e1,_,e3',_⟩:=zvp h (h.fine.psets r hr r.params[i] (rJ hi'));rw[e1] at a2;have a2':z[i]<((n:Nat):Int):=a2;omega
theorem qzl:∀ {b:PB},kke b→kyl b=true
 | .nil,_=>rfl
 | .node _ _ a .nil n,h=>qzl (b:=n) h
 | .node _ _ a (.node _ _ _ t e) n,⟨⟨h1,h2⟩,⟨h3,h4⟩,h5⟩=>by
  rw[kyl,qzl h1,qzl h3,qzl h5,sD h2,sD h4];rfl
theorem zxo {l:List Tok}(h:∀ y∈l,y.text.size≤1000):qk9 l=true:=nX.2 fun y hy=>sD (h y hy)
structure RGood (t:PTree)(r:PRule):Prop where
 ch:∃ c,chO t.sets r.params [[]]=some c∧c.Nodup∧c.length≤9∧∀ z∈c,zq0 z∧ParOk (ssz (jq t)) r.params z
 par:r.params.length≤1000
 nm:r.name.text.size≤1000
 full:kv9 r.guard∧zqz r.guard∧isNil r.guard=false∧kz9 r.guard≤4000∧(kqg (zx (jq t)) r.params r.guard).fam=1
 blk:kwx r.body∧zwm r.body
 fitG:qk9 (jr r.guard)=true
 fitB:kyl r.body=true∧uz r.body≤1000∧qk9 (zh r.body)=true
theorem zk0 {t:PTree}(h:Right t){r:PRule}(hr:r∈t.rules++t.nevers):RGood t r:=by
 obtain ⟨L,hg,hL⟩:=h.good;have s:=qzi hL hg;have hok:ky6 r:=by
  rcases rM.mp hr with hr|hr
  ·exact hg.rules r hr
  ·exact (hg.nevers r hr).1
 have hsm:qke r:=by
  rcases rM.mp hr with hr|hr
  ·exact h.sm.rules r hr
  ·exact h.sm.nevers r hr
 have hty:(kqg (zx (jq t)) r.params r.guard).fam=1:=by
  have:=h.typ;unfold kwr at this;rw[wY] at this;rcases rM.mp hr with hr|hr
  ·have:=nX.1 this.1 r hr;unfold qxs at this;rw[wY,wP] at this;exact this.1
  ·have:=nX.1 this.2 r hr;unfold jq6 at this;rw[wP] at this;exact this
 obtain ⟨x,b,bl⟩:=hok;obtain ⟨x1,x2⟩:=hsm;have hp:=h.bnd.pars r hr;refine ⟨vzi h hr,by omega,?_,⟨x.full,x.num,x.some,by omega,hty⟩,⟨b.full,b.num x2⟩,zxo fun y hy=>?_,qzl b.len,by rw[qqw];omega,zxo fun y hy=>?_⟩
 ·have:=(s.nm _ (kxm hr (rG ..))).2;omega
 ·rw[kjs x] at hy;have:=(s.nm _ (kxm hr (zkp hy))).2;omega
 ·rw[kzp b] at hy;have:=(s.nm _ (kxm hr (jqj hy))).2;omega
theorem vz0 {t:PTree}{r:PRule}(h:RGood t r){c:List (List Int)}(hl:c.length≤9)(hc:∀ z∈c,zq0 z∧ParOk (ssz (jq t)) r.params z){n:Nat}(hn:n≤100000):kx1 r c n=true:=by
 have h2:=h.par;have h3:=h.nm;unfold kx1;rw[nX.2 fun z hz=>vvr (hc z hz).1,sD (by omega:c.length≤100000),sD hn,sD h2,sD h3];rfl
def vzd (t:PTree)(l:List PRule)(s:MStep):Prop:=∃ r∈l,∃ z,s=kk7 r z∧zq0 z∧ParOk (ssz (jq t)) r.params z
theorem zy2 {t:PTree}:∀ (l:List PRule) (acc:List MStep),(∀ r∈l,RGood t r)→(l.map (fun r=>r.name.text.toList)).Nodup→acc.length+9 * l.length≤100000 →
  ∃ S,kxf t.sets l acc=some (acc++S)∧S.length≤9 * l.length∧(∀ s∈S,vzd t l s)∧(S.map (fun s=>s.text.toList)).Nodup
 | [],acc,_,_,_=>⟨[],by rw[kxf,ni],by simp,(fun s hs=>by cases hs),by simp⟩
 | r::l,acc,hl,hn,hb=>by
  have hg:=hl r (rG ..);obtain ⟨c,c1,c2,c3,c4⟩:=hg.ch;rw[lC,Qo] at hn;rw[sU] at hb;obtain ⟨S,s1,s2,s3,s4⟩:=zy2 l (acc++c.map (kk7 r)) (fun x hx=>hl x (rU _ hx)) hn.2 (by rw[wU,sG];omega);refine ⟨c.map (kk7 r)++S,?_,by rw[wU,sG,sU];omega,fun s hs=>?_,?_⟩
  ·rw[kxf,c1];show (if kx1 r c acc.length then kxf t.sets l (acc++c.map (kk7 r)) else none)=_;rw[if_pos (vz0 hg c3 c4 (by omega)),s1,tX]
  ·rcases rM.mp hs with hs|hs
   ·obtain ⟨z,hz,rfl⟩:=sV.mp hs;exact ⟨r,rG ..,z,rfl,c4 z hz⟩
   ·obtain ⟨r',hr',z,q⟩:=s3 s hs;exact ⟨r',rU _ hr',z,q⟩
  ·rw[ng,Ju];refine ⟨?_,s4,?_⟩
   ·rw[fZ];unfold List.Nodup;rw[List.pairwise_map];refine List.Pairwise.imp_of_mem ?_ c2;intro a b ha hb' hab e;exact hab (jv2 (c4 a ha).1 (c4 b hb').1 e).2
   ·intro x hx y hy e;rw[fZ] at hx;obtain ⟨z,hz,rfl⟩:=sV.mp hx;obtain ⟨s,hs,rfl⟩:=sV.mp hy;obtain ⟨r',hr',z',rfl,q1,_⟩:=s3 s hs;have:=(jv2 (c4 z hz).1 q1 e).1;exact hn.1 (by rw[this];exact tC (f:=fun r:PRule=>r.name.text.toList) hr')
def vkb (t:PTree)(l:List PRule)(s:MNever):Prop:=∃ r∈l,∃ z,s=kzm r z∧zq0 z∧ParOk (ssz (jq t)) r.params z
theorem zku {t:PTree}:∀ (l:List PRule) (acc:List MNever),(∀ r∈l,RGood t r)→acc.length+9 * l.length≤100000 →
  ∃ S,kzk t.sets l acc=some (acc++S)∧S.length≤9 * l.length∧(∀ s∈S,vkb t l s)
 | [],acc,_,_=>⟨[],by rw[kzk,ni],by simp,fun s hs=>by cases hs⟩
 | r::l,acc,hl,hb=>by
  have hg:=hl r (rG ..);obtain ⟨c,c1,c2,c3,c4⟩:=hg.ch;rw[sU] at hb;obtain ⟨S,s1,s2,s3⟩:=zku l (acc++c.map (kzm r)) (fun x hx=>hl x (rU _ hx)) (by rw[wU,sG];omega);refine ⟨c.map (kzm r)++S,?_,by rw[wU,sG,sU];omega,fun s hs=>?_⟩
  ·rw[kzk,c1];show (if kx1 r c acc.length then kzk t.sets l (acc++c.map (kzm r)) else none)=_;rw[if_pos (vz0 hg c3 c4 (by omega)),s1,tX]
  ·rcases rM.mp hs with hs|hs
   ·obtain ⟨z,hz,rfl⟩:=sV.mp hs;exact ⟨r,rG ..,z,rfl,c4 z hz⟩
   ·obtain ⟨r',hr',z,q⟩:=s3 s hs;exact ⟨r',rU _ hr',z,q⟩
structure MachOf (t:PTree)(a:Mach):Prop where
 good:MachGood (zx (jq t)) (ksz (jq t)) (ssz (jq t)) a
 first:kqp a.vars a.size (List.replicate a.size 0)
 steps:∀ s∈a.steps,vzd t t.rules s
 nevers:∀ s∈a.nevers,vkb t t.nevers s
 few:a.steps.length≤45
theorem vxp {s:ByteArray}(h:(ky4 s).1=0):∃ a,qvd s=some a∧MachOf (kqy (gq s).1).1 a:=by
 have hR:=vqp h;unfold qvd;generalize (kqy (gq s).1).1=t at hR;obtain ⟨L,hg,hL⟩:=hR.good;have hs:=qzi hL hg;obtain ⟨us,z,v1,v2⟩:=jyr hR t.vars (fun _ hv=>hv) 0;have hvn:(t.vars.map cu).length≤4:=hR.bnd.vars;have hz:z≤12:=by have:=v2.top;omega
 obtain ⟨t1,k1,k2⟩:=vwo hR hs v1 (by omega);have hrn:t.rules.length≤5:=hR.bnd.rules;have hnn:t.nevers.length≤3:=hR.bnd.nevers;obtain ⟨S,s1,s2,s3,s4⟩:=zy2 (t:=t) t.rules [] (fun r hr=>zk0 hR (wG _ hr)) (zyv hR.fine) (by simp only[fP];omega);obtain ⟨N,n1,n2,n3⟩:=zku (t:=t) t.nevers [] (fun r hr=>zk0 hR (rW _ hr)) (by simp only[fP];omega);rw[lK] at s1 n1;have hul:=v2.len;have hty:∀ r∈t.rules,kzf (zx (jq t)) r.params r.body=true:=fun r hr=>by
  have:=hR.typ;unfold kwr at this;rw[wY] at this;have:=nX.1 this.1 r hr;unfold qxs at this;rw[wY] at this;exact this.2
 have hfit:qkd (jq t)=true:=by
  have q1:t.sets.length≤2:=hR.bnd.sets;have q2:t.kinds.length≤2:=hR.bnd.kinds;unfold qkd;have q3:((jq t).kinds.all fun x=>decide (x.members.length≤1000))=true:=nX.2 fun k hk=>sD (by have:=hR.bnd.mems k hk;omega)
  rw[q3,sD (show (jq t).sets.length≤1000 by show t.sets.length≤1000;omega),sD (show (jq t).kinds.length≤1000 by show t.kinds.length≤1000;omega),sD (show (jq t).vars.length≤1000 by show (t.vars.map cu).length≤1000;omega),sD (show (jq t).rules.length≤1000 by show t.rules.length≤1000;omega),sD (show (jq t).nevers.length≤1000 by show t.nevers.length≤1000;omega)];rfl
 have hnew:jwq (jq t)=some ⟨S,N,kzu t.sets,us,kx2 (jq t),z⟩:=by
  unfold jwq;show (qjp t.kinds []).bind _=_;rw[k1];show (kyz t.sets t.kinds (t.vars.map cu) 0 t1 [] 0).bind _=_;rw[k2];show (kxf t.sets t.rules []).bind _=_;rw[s1];show (kzk t.sets t.nevers []).map _=_;rw[n1];rfl
 have hmok:kyt ⟨S,N,kzu t.sets,us,kx2 (jq t),z⟩=true:=by
  unfold kyt;have q1:S.all qx2=true:=nX.2 fun x hx=>by
   obtain ⟨r,hr,ms,rfl,_⟩:=s3 x hx;have g:=zk0 hR (wG t.nevers hr);show qx2 ⟨_,r.params,ms,r.guard,r.body⟩=true;unfold qx2;simp only;rw[sD g.par,g.fitG,g.fitB.1,sD g.fitB.2.1,g.fitB.2.2];rfl
  have q2:N.all qwg=true:=nX.2 fun x hx=>by
   obtain ⟨r,hr,ms,rfl,_⟩:=n3 x hx;have g:=zk0 hR (rW t.rules hr);show qwg ⟨_,r.params,ms,r.guard⟩=true;unfold qwg;simp only;rw[sD g.par,g.fitG];rfl
  simp only;rw[q1,q2,sD (by omega:us.length≤1000),sD (by omega:S.length≤1000000),sD (by omega:N.length≤1000000)];rfl
 refine ⟨⟨S,N,kzu t.sets,us,kx2 (jq t),z⟩,?_,?_⟩
 ·rw[if_pos hfit,hnew];show (if kyt ⟨S,N,kzu t.sets,us,kx2 (jq t),z⟩=true then some (⟨S,N,kzu t.sets,us,kx2 (jq t),z⟩:Mach) else none)=_;rw[if_pos hmok]
 ·have hu:∀ v∈us,∃ d,UOk (jq t) v d:=fun v hv=>by
   obtain ⟨i,hi,rfl⟩:=sZ hv;obtain ⟨u,u1,u2⟩:=v2.at_ i (by rw[←hul];exact hi);rw[ny hi] at u1;injection u1 with u1;rw[u1];exact ⟨_,u2⟩
  have hvp:=hR.sm.vars;rw[sG] at hul hvn;refine ⟨⟨vvl hR v2,v2.disj,fun v hv=>?_,fun v hv=>?_,?_,?_,fun x hx=>?_,fun x hx=>?_,s4⟩,vq8 v2,s3,n3,by show S.length≤45;omega⟩
  ·obtain ⟨d,hd⟩:=hu v hv;have q1:=v2.fit v hv;have q2:=hd.low;have q3:=hd.top;exact ⟨⟨q1.2,q2⟩,by omega⟩
  ·obtain ⟨d,hd⟩:=hu v hv;exact ⟨hd.few,hd.txt⟩
  ·show 0<us.length;omega
  ·show us.length≤10;omega
  ·obtain ⟨r,hr,ms,rfl,_,hp⟩:=s3 x hx;have g:=zk0 hR (wG t.nevers hr);exact ⟨hp,g.full,g.blk.1,g.blk.2,hty r hr⟩
  ·obtain ⟨r,hr,ms,rfl,_,hp⟩:=n3 x hx;have g:=zk0 hR (rW t.rules hr);exact ⟨hp,g.full⟩
theorem vx8 {s:ByteArray}(h:(ky4 s).1=0){a:Mach}(ha:qvd s=some a)(l:List ByteArray)(hl:l.length≤60)(hz:a.size≤1000000):qz9 s l=zq1 a l 0 (List.replicate a.size 0):=by
 unfold qz9;rw[h];show (qvd s).bind _=_;rw[ha];show zwt a l=_;unfold zwt;rw[if_neg (by omega),if_pos hz]
def gTab:uq:=[(⟨#[110]⟩,⟨true,0⟩),(⟨#[109]⟩,⟨true,1⟩),(⟨#[118]⟩,⟨true,2⟩)]
def dTx:List ByteArray:=[⟨#[48]⟩,⟨#[49]⟩,⟨#[50]⟩]
def kxj:List MVar:=[⟨0,3,dTx,0,-1⟩,⟨3,3,⟨#[45]⟩::dTx,0,0⟩,⟨6,1,⟨#[45]⟩::dTx,-1,0⟩]
theorem jvu:kyz [qw5] [] ([gvN,gvM,gvV].map cu) 0 [] [] 0=some (gTab,kxj,7):=by kernel_rfl
def chG (two:Bool):List (List Int):=if two then [[0,0],[0,1],[0,2],[1,0],[1,1],[1,2],[2,0],[2,1],[2,2]] else [[0],[1],[2]]
theorem zqp (two:Bool)(e1 e2 e3 e4:Nat):chO [qw5] (qqg two e1 e2 e3 e4) [[]]=some (chG two):=by cases two<;>kernel_rfl
theorem qkj {ss:List PSet}{r:PRule}{l:List PRule}{acc st:List MStep}{c:List (List Int)}(hc:chO ss r.params [[]]=some c)(h:kxf ss (r::l) acc=some st):kxf ss l (acc++c.map (kk7 r))=some st:=by
 rw[kxf,hc] at h;have h:(if kx1 r c acc.length then kxf ss l (acc++c.map (kk7 r)) else none)=some st:=h;split at h
 ·exact h
 ·cases h
theorem jq2 {ss:List PSet}{r:PRule}{l:List PRule}{acc st:List MNever}{c:List (List Int)}(hc:chO ss r.params [[]]=some c)(h:kzk ss (r::l) acc=some st):kzk ss l (acc++c.map (kzm r))=some st:=by
 rw[kzk,hc] at h;have h:(if kx1 r c acc.length then kzk ss l (acc++c.map (kzm r)) else none)=some st:=h;split at h
 ·exact h
 ·cases h
def stR (c:Nat)(r:RC)(d:Nat):List MStep:=(chG r.two).map (kk7 (kjk c r d))
def stG (r0 r1 r2:RC):List MStep:=(stR 0 r0 53++stR 1 r1 (kqf r0))++stR 2 r2 (kqs r0 r1)
def nvG (r0 r1 r2:RC)(g1 g2:GC):List MNever:=(chG false).map (kzm (qqb g1 g2 (kqd r0 r1 r2)))
theorem jwd {s:ByteArray}{r0 r1 r2:RC}{g1 g2:GC}(ht:(kqy (gq s).1).1=kk0 r0 r1 r2 g1 g2){a:Mach}(ha:qvd s=some a):a.vars=kxj∧a.tab=gTab∧a.size=7∧a.steps=stG r0 r1 r2∧a.nevers=nvG r0 r1 r2 g1 g2:=by
 unfold qvd at ha;rw[ht] at ha;split at ha
 ·obtain ⟨b,hb,ha⟩:=wQ.mp ha;split at ha
  ·injection ha with ha;subst ha;unfold jwq at hb;obtain ⟨t2,h2,hb⟩:=wQ.mp hb;obtain ⟨x,hx,hb⟩:=wQ.mp hb;obtain ⟨st,h3,hb⟩:=wQ.mp hb;obtain ⟨nv,h4,rfl⟩:=rQ.mp hb;have h2:some []=some t2:=h2;injection h2 with h2;subst h2;have hx:kyz [qw5] [] ([gvN,gvM,gvV].map cu) 0 [] [] 0=some x:=hx;rw[jvu] at hx;injection hx with hx;subst hx;have h3:kxf [qw5] [kjk 0 r0 53,kjk 1 r1 (kqf r0),kjk 2 r2 (kqs r0 r1)] []=some st:=h3;have k1:=qkj (zqp r0.two (53+7) (53+11) (53+14) (53+18)) h3;have k2:=qkj (zqp r1.two (kqf r0+7) (kqf r0+11) (kqf r0+14) (kqf r0+18)) k1;have k3:=qkj (zqp r2.two (kqs r0 r1+7) (kqs r0 r1+11) (kqs r0 r1+14) (kqs r0 r1+18)) k2;rw[kxf] at k3;injection k3 with k3;have h4:kzk [qw5] [qqb g1 g2 (kqd r0 r1 r2)] []=some nv:=h4;have k4:=jq2 (zqp false (kqd r0 r1 r2+8) (kqd r0 r1 r2+12) 0 0) h4;rw[kzk] at k4;injection k4 with k4;exact ⟨rfl,rfl,rfl,by rw[←k3];rfl,by rw[←k4];rfl⟩
  ·cases ha
 ·cases ha
def kwv (o:Nat × Nat × Nat)(x:Int):Int:=if x=1 then o.1+1 else if x=2 then o.2.1+1 else if x=3 then o.2.2+1 else 0
def kka (o:Nat × Nat × Nat):Prop:=o=(0,1,2)∨o=(0,2,1)∨o=(1,0,2)∨o=(1,2,0)∨o=(2,0,1)∨o=(2,1,0)
theorem zkv (n:Nat):kka (jzy n):=by
 unfold jzy kka;repeat' split
 all_goals simp
theorem vv3 {o:Nat × Nat × Nat}(ho:kka o){f:List UInt8→Nat}(hf:∀ s,f s≤3)(hf2:∀ s,f s=0∨f s=3):TauOk f (kwv o):=by
 refine ⟨rfl,fun s x h1 h2=>?_,fun s x y h1 h2 h3 h4 e=>?_⟩
 ·have hx:x=1∨x=2∨x=3:=by have:=hf s;omega
  have h3:f s=3:=by rcases hf2 s with e|e<;>omega
  rw[h3];rcases ho with rfl|rfl|rfl|rfl|rfl|rfl<;>rcases hx with rfl|rfl|rfl<;>exact ⟨by decide,by decide⟩
 ·have hx:x=0∨x=1∨x=2∨x=3:=by have:=hf s;omega
  have hy:y=0∨y=1∨y=2∨y=3:=by have:=hf s;omega
  rcases ho with rfl|rfl|rfl|rfl|rfl|rfl<;>rcases hx with rfl|rfl|rfl|rfl<;>rcases hy with rfl|rfl|rfl|rfl<;>first|rfl|(exfalso;revert e;decide)
def arG (m:Nat):Bool:=decide (m<2)
def svG (m:Nat):Bool:=decide (m=1∨m=2)
theorem qwc (p0 p1 p2 p3:Nat)(s:List UInt8)(h:(qo (kx5 p0 p1 p2 p3) s).role=4):s=[110]∨s=[109]∨s=[118]:=by
 have key:∀ (b:ByteArray) (l:List UInt8),b.toList=l→(b.toList==s)=true→s=l:=fun b l h1 h2=>by rw[wP] at h2;rw[←h2,h1]
 unfold kx5 at h;rw[qo] at h;split at h
 ·exact absurd h (by decide)
 ·rw[qo] at h;split at h
  ·rename_i e;exact Or.inl (key _ _ (by rw[xg]) e)
  ·rw[qo] at h;split at h
   ·rename_i e;exact Or.inr (Or.inl (key _ _ (by rw[xg]) e))
   ·rw[qo] at h;split at h
    ·rename_i e;exact Or.inr (Or.inr (key _ _ (by rw[xg]) e))
    ·rw[qo] at h;split at h
     ·exact absurd h (show ¬(5:Int)=4 by decide)
     ·rw[qo] at h;split at h
      ·exact absurd h (show ¬(5:Int)=4 by decide)
      ·rw[qo] at h;split at h
       ·exact absurd h (show ¬(5:Int)=4 by decide)
       ·rw[qo] at h;split at h
        ·exact absurd h (show ¬(6:Int)=4 by decide)
        ·exact absurd h (show ¬(0:Int)=4 by decide)
theorem zy5 (r0 r1 r2:RC)(g1 g2:GC)(s:List UInt8):ssz (jq (kk0 r0 r1 r2 g1 g2)) s=0∨ssz (jq (kk0 r0 r1 r2 g1 g2)) s=3:=by
 show ((qj8 [qw5] s).getD 0)=0∨((qj8 [qw5] s).getD 0)=3;unfold qj8;rw[qz5];split
 ·right;kernel_rfl
 ·left;rfl
theorem vwx (r0 r1 r2:RC)(g1 g2:GC):ssz (jq (kk0 r0 r1 r2 g1 g2)) [115]=3:=by
 show ((qj8 [qw5] [115]).getD 0)=3;kernel_rfl
theorem vz2 (r0 r1 r2:RC)(g1 g2:GC)(p0 p1 p2 p3:Nat):TurnEnv (kx5 p0 p1 p2 p3) kxj gTab (ssz (jq (kk0 r0 r1 r2 g1 g2))) arG svG:=by
 refine ⟨fun s h=>?_,fun s h=>?_,fun m v h1 h2=>⟨[115],?_⟩⟩
 ·rcases qwc p0 p1 p2 p3 s h with rfl|rfl|rfl<;>kernel_rfl
 ·rcases qwc p0 p1 p2 p3 s h with rfl|rfl|rfl<;>kernel_rfl
 ·rw[vwx];have hm:m=0∨m=1:=by
   unfold arG at h2;have:=of_decide_eq_true h2;omega
  rcases hm with rfl|rfl<;>(injection h1 with h1;rw[←h1])
theorem jxx (o:Nat × Nat × Nat)(ho:kka o):kjg (kwv o) arG svG kxj (List.replicate 7 0) (List.replicate 7 0):=by
 refine ⟨rfl,fun m v hm j hj=>?_⟩;have h3:m<3:=by
  have:=(nJ.mp hm).1;exact this
 rcases (show m=0∨m=1∨m=2 by omega) with rfl|rfl|rfl
 ·injection hm with hm;subst hm;have hj:j<3:=hj;rcases ho with rfl|rfl|rfl|rfl|rfl|rfl<;>rcases (show j=0∨j=1∨j=2 by omega) with rfl|rfl|rfl<;>rfl
 ·injection hm with hm;subst hm;have hj:j<3:=hj;rcases ho with rfl|rfl|rfl|rfl|rfl|rfl<;>rcases (show j=0∨j=1∨j=2 by omega) with rfl|rfl|rfl<;>rfl
 ·injection hm with hm;subst hm;have hj:j<1:=hj;obtain rfl:j=0:=by omega
  rcases ho with rfl|rfl|rfl|rfl|rfl|rfl<;>rfl
theorem vqi (p0 p1 p2 p3:Nat)(two:Bool)(e1 e2 e3 e4:Nat)(y:List UInt8)(h:fpB (qqg two e1 e2 e3 e4) y=true):(qo (kx5 p0 p1 p2 p3) y).role≠4:=by
 intro h4;rcases qwc p0 p1 p2 p3 y h4 with rfl|rfl|rfl<;>cases two<;>(have e:true=false:=h.symm.trans (by kernel_rfl);cases e)
end Go.Proofs.YtpmcnonmkghokaaGreatDoor
namespace Go.Proofs.YtpmcnonmkghokaaGreatDoor
open Go.RowKit
attribute [local go_sem ↓] Go.wp_at_zero Go.wp_at_succ
def qz0 (t:List UInt8)(l:List ByteArray):Nat:=(l.filter fun y=>y.toList==t).length
def kvh (o:Nat × Nat × Nat)(la lb:List ByteArray):Bool:=(la.length==lb.length)&&la.all fun x=>qz0 (kzi o x.toList) lb==1
theorem vz8 (t:List UInt8)(l:List ByteArray)(k:Nat)(hk:k<l.length):qz0 t (l.take (k+1))=if l[k].toList==t then qz0 t (l.take k)+1 else qz0 t (l.take k):=by
 unfold qz0;rw[nG hk,List.filter_append,wU];by_cases e:(l[k].toList==t)=true
 ·rw[if_pos e,Qg,if_pos e];rfl
 ·rw[if_neg e,Qg,if_neg e];rfl
theorem jyq (t:List UInt8)(l:List ByteArray)(k:Nat){Y:ByteArray}(hY:l[k]?=some Y):qz0 t (l.take (k+1))=if Y.toList==t then qz0 t (l.take k)+1 else qz0 t (l.take k):=by
 obtain ⟨hk,e⟩:=nJ.mp hY;rw[vz8 t l k hk,e]
theorem cnt_le (t:List UInt8)(l:List ByteArray):qz0 t l≤l.length:=Qu _ _
theorem byte_back (x:ByteArray):x=⟨x.toList.toArray⟩:=by
 apply qxw;rw[xg,xg]
theorem qqe (l:List UInt8):(⟨l.toArray⟩:ByteArray).toList=l:=by rw[xg]
theorem qv7 (x:ByteArray):x.toList.length=x.size:=by rw[xg];rfl
theorem zj3 (w:World)(b:Nat)(o:Nat × Nat × Nat)(ho:jyp o)(hO:w.heap[b]?=some (kww o))(la lb:List ByteArray)(aa ba:Option Addr)(an ac bn bc lo lo2:Nat)(hA:w.ownsRow lo 9 1 (.slice aa an ac) la.length (la.map Value.string))(hB:w.ownsRow lo2 9 1 (.slice ba bn bc) lb.length (lb.map Value.string))(hl:la.length≤1000)(hl2:lb.length≤1000)(hz:∀ x∈la,x.size≤1000) :
  Calls Tryz.prog 22 #[.slice aa an ac,.slice ba bn bc,.slice (some ⟨b,0,none⟩) 3 3] w fun e w'=>e=.returned (.bool (kvh o la lb))∧Below w.heap.size w w':=by
 have HO:=hide hO;have hbl:=wX hO;obtain ⟨xa,xc,ea,hva⟩:=zq hA;obtain ⟨ya,yc,eb,hvb⟩:=zq hB;injection ea with ea1 ea2 ea3;subst ea1;subst ea2;subst ea3;injection eb with eb1 eb2 eb3;subst eb1;subst eb2;subst eb3;have HVA:=hide hva;have HVB:=hide hvb;have HT:=hide (fun (wx:World) (hx:wx.heap[b]?=some (kww o)) (x:ByteArray) (h:x.size≤1000)=>show Calls Tryz.prog 24 #[.string x,.slice (some ⟨b,0,none⟩) 3 3] wx fun e w'=>e=.returned (.string ⟨(kzi o x.toList).toArray⟩)∧Below wx.heap.size wx w' by
  have:=zqn wx b o ho hx x.toList (by rw[qv7];exact h);rw[←byte_back] at this;exact this)
 have HZ:=hide hz;clear hO hA hB hva hvb hz;by_cases hne:la.length=lb.length
 ·have HS:=hide (show kvh o la lb=la.all fun x=>qz0 (kzi o x.toList) lb==1 by unfold kvh;rw[hne];simp);obtain ⟨N,hN⟩:∃ N,N=la.length:=⟨_,rfl⟩;have HN1:=hide hN;have HN2:=hide (hN.trans hne);rw[←hne,←hN] at HVB hl2 ⊢;rw[←hN] at HVA hl;clear hne hN;go_enter Tryz.func22,Tryz.ntmps22
  go_wp2_with fail
  go_loopw [7,8,9,10] (fun i _ _ _ wr=>∃ k:Nat,k≤N∧i=.int .i64 k∧((la.take k).all fun x=>qz0 (kzi o x.toList) lb==1)=true∧Below w.heap.size w wr) (fun i _ _ _ _=>N-(intOf i).toNat)
  case atStart=>exact ⟨0,tu _,rfl,by simp,Below.refl _ _⟩
  case round=>
   obtain ⟨wo,hwo⟩:∃ wo,wo=wr:=⟨_,rfl⟩;subst hwo;obtain ⟨i,hi,rfl,hall,hB⟩:=hrel;have hsz:=hB.size;have HAL:=hide hall;have HBo:=hide hB;have HOo:=hide ((hB.block b hbl).trans (ku HO));by_cases hlt:i<N
   ·have hla:i<la.length:=by rw[←ku HN1];exact hlt
    obtain ⟨g,rfl,_,hg,hc⟩:=(ku HVA) i hlt;obtain ⟨X,hX⟩:∃ X,la[i]?=some X:=⟨_,ny hla⟩;have q0:wo.cell? ⟨g,i,none⟩=some (.string X):=by
     rw[hB.cell (p:=⟨g,i,none⟩) (by show g<w.heap.size;omega),hc i (by omega),lq,hX];rfl
    have HC:=hide ((ku HT) wo (ku HOo) X ((ku HZ) _ (lZ hX)));have HLA:=hide hla;have HX:=hide hX;clear hX hla hall hB hc;go_wp2_with fail
    refine (ku HC).mono ?_;rintro e w1 ⟨rfl,hb1⟩;have hB1:=(ku HBo).trans (hb1.mono hsz);have hs1:=hb1.size;have HB1:=hide hB1;clear hB1 hb1 HC q0;obtain ⟨T,hT⟩:∃ T,T=(⟨(kzi o X.toList).toArray⟩:ByteArray):=⟨_,rfl⟩;have HTd:=hide (show T.toList=kzi o X.toList by rw[hT,qqe]);rw[←hT];clear hT;go_wp2_with fail
    go_loopw [8,10] (fun n k wm=>∃ j:Nat,j≤N∧k=.int .i64 j∧n=.int .i64 (qz0 T.toList (lb.take j))∧Below w.heap.size w wm) (fun _ k _=>N-(intOf k).toNat)
    case atStart=>exact ⟨0,tu _,rfl,rfl,ku HB1⟩
    case round=>
     obtain ⟨wm,hwm⟩:∃ wm,wm=wr:=⟨_,rfl⟩;subst hwm;obtain ⟨j,hj,rfl,rfl,hBm⟩:=hrel;have hcl:qz0 T.toList (lb.take j)≤1000:=rV (cnt_le _ _) (by rw[QV];omega);have HBm:=hide hBm;by_cases hlj:j<N
     ·have hlb:j<lb.length:=by rw[←ku HN2];exact hlj
      obtain ⟨h,rfl,_,hh,hc⟩:=(ku HVB) j hlj;obtain ⟨Y,hY⟩:∃ Y,lb[j]?=some Y:=⟨_,ny hlb⟩;have q0:wm.cell? ⟨h,j,none⟩=some (.string Y):=by
       rw[hBm.cell (p:=⟨h,j,none⟩) (by show h<w.heap.size;omega),hc j (by omega),lq,hY];rfl
      have HCT:=hide (jyq T.toList lb j hY);clear hY hlb hBm hc;generalize qz0 T.toList (lb.take j)=cn at *;cases hYT:(Y.toList==T.toList)
      ·go_wp2
       case roundEnd=>
        refine ⟨⟨j+1,by omega,by go_num,by rw[ku HCT,hYT];rfl,ku HBm⟩,by simp[intOf];omega⟩
      ·go_wp2
       case roundEnd=>
        refine ⟨⟨j+1,by omega,by go_num,by rw[ku HCT,hYT,if_pos rfl];go_num,ku HBm⟩,by simp[intOf];omega⟩
     ·obtain rfl:j=N:=by omega
      have HCN:=hide (show qz0 T.toList (lb.take j)=qz0 (kzi o X.toList) lb by rw[ku HN2,Qk,ku HTd]);generalize qz0 T.toList (lb.take j)=cn at *;clear hBm;by_cases h1:cn=1
      ·subst h1;go_wp2
       case roundEnd=>
        refine ⟨⟨i+1,by omega,by go_num,?_,ku HBm⟩,by simp[intOf];omega⟩;obtain ⟨hk,e⟩:=nJ.mp (ku HX);rw[nG hk,JZ,ku HAL,e,Qz,Jf,←ku HCN];rfl
      ·have HF:=hide (show kvh o la lb=false by
        rw[ku HS,List.all_eq_false];exact ⟨X,lZ (ku HX),by rw[←ku HCN];simpa using h1⟩)
       have h1':¬(cn:Int)=1:=by omega
       go_wp2
       go_ret
       exact ⟨jf (ku HF).symm,ku HBm⟩
   ·obtain rfl:i=N:=by omega
    have HF:=hide (show kvh o la lb=true by rw[ku HS,←ku HAL,ku HN1,Qk]);go_wp2
    go_ret
    exact ⟨jf (ku HF).symm,ku HBo⟩
 ·have HS:=hide (show kvh o la lb=false by unfold kvh;rw[show (la.length==lb.length)=false by simpa using hne];rfl);have hne':¬(la.length:Int)=(lb.length:Int):=by omega
  go_enter Tryz.func22,Tryz.ntmps22
  go_wp2
  go_ret
  exact ⟨jf (ku HS).symm,Below.refl _ _⟩
end Go.Proofs.YtpmcnonmkghokaaGreatDoor

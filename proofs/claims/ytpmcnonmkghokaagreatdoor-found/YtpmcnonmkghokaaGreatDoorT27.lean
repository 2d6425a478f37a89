import Derived.Test.YtpmcnonmkghokaaGreatDoorT26
import Derived.Test.YtpmcnonmkghokaaGreatDoorT25
import Derived.Test.YtpmcnonmkghokaaGreatDoorT24
set_option maxRecDepth 1000000
set_option maxHeartbeats 8000000
set_option linter.unusedVariables false
set_option linter.unusedSimpArgs false
namespace Go.Proofs.YtpmcnonmkghokaaGreatDoor
open Go.RowKit
theorem qzp:∀ {b:PB},kkd b→kyx b=true
 | .nil,_=>rfl
 | .node _ _ a .nil n,h=>qzp (b:=n) h
 | .node _ _ a (.node _ _ _ t e) n,⟨⟨h1,h2⟩,⟨h3,h4⟩,h5⟩=>by
  rw[kyx,qzp h1,qzp h3,qzp h5,ny h2,ny h4];rfl
theorem zxg {l:List Tok}(h:∀ y∈l,y.text.size≤1000):qk1 l=true:=ng.2 fun y hy=>ny (h y hy)
structure RGood (t:PTree)(r:PRule):Prop where
 ch:∃ c,chO t.sets r.params [[]]=some c∧c.Nodup∧c.length≤9∧∀ z∈c,qyd z∧ParOk (ssz (jk t)) r.params z
 par:r.params.length≤1000
 nm:r.name.text.size≤1000
 full:kwj r.guard∧zx9 r.guard∧isNil r.guard=false∧kzu r.guard≤4000∧(kj7 (zl (jk t)) r.params r.guard).fam=1
 blk:ky3 r.body∧jjz r.body
 fitG:qk1 (je r.guard)=true
 fitB:kyx r.body=true∧um r.body≤1000∧qk1 (zi r.body)=true
theorem zxm {t:PTree}(h:Right t){r:PRule}(hr:r∈t.rules++t.nevers):RGood t r:=by
 obtain ⟨L,hg,hL⟩:=h.good;have s:=kww hL hg;have hok:ky2 r:=by
  rcases rC.mp hr with hr|hr
  ·exact hg.rules r hr
  ·exact (hg.nevers r hr).1
 have hsm:qkg r:=by
  rcases rC.mp hr with hr|hr
  ·exact h.sm.rules r hr
  ·exact h.sm.nevers r hr
 have hty:(kj7 (zl (jk t)) r.params r.guard).fam=1:=by
  have:=h.typ;unfold qqt at this;rw[wG] at this;rcases rC.mp hr with hr|hr
  ·have:=ng.1 this.1 r hr;unfold zqm at this;rw[wG,rZ] at this;exact this.1
  ·have:=ng.1 this.2 r hr;unfold jva at this;rw[rZ] at this;exact this
 obtain ⟨x,b,bl⟩:=hok;obtain ⟨x1,x2⟩:=hsm;have hp:=h.bnd.pars r hr;refine ⟨vzx h hr,by omega,?_,⟨x.full,x.num,x.some,by omega,hty⟩,⟨b.full,b.num x2⟩,zxg fun y hy=>?_,qzp b.len,by rw[qq1];omega,zxg fun y hy=>?_⟩
 ·have:=(s.nm _ (kx8 hr (rY ..))).2;omega
 ·rw[kjt x] at hy;have:=(s.nm _ (kx8 hr (zk3 hy))).2;omega
 ·rw[kzk b] at hy;have:=(s.nm _ (kx8 hr (zyt hy))).2;omega
theorem vjj {t:PTree}{r:PRule}(h:RGood t r){c:List (List Int)}(hl:c.length≤9)(hc:∀ z∈c,qyd z∧ParOk (ssz (jk t)) r.params z){n:Nat}(hn:n≤100000):kxm r c n=true:=by
 have h2:=h.par;have h3:=h.nm;unfold kxm;rw[ng.2 fun z hz=>vv1 (hc z hz).1,ny (by omega:c.length≤100000),ny hn,ny h2,ny h3];rfl
def vjf (t:PTree)(l:List PRule)(s:MStep):Prop:=∃ r∈l,∃ z,s=qkq r z∧qyd z∧ParOk (ssz (jk t)) r.params z
theorem zwm {t:PTree}:∀ (l:List PRule) (acc:List MStep),(∀ r∈l,RGood t r)→(l.map (fun r=>r.name.text.toList)).Nodup→acc.length+9 * l.length≤100000 →
  ∃ S,kyw t.sets l acc=some (acc++S)∧S.length≤9 * l.length∧(∀ s∈S,vjf t l s)∧(S.map (fun s=>s.text.toList)).Nodup
 | [],acc,_,_,_=>⟨[],by rw[kyw,lq],by simp,(fun s hs=>by cases hs),by simp⟩
 | r::l,acc,hl,hn,hb=>by
  have hg:=hl r (rY ..);obtain ⟨c,c1,c2,c3,c4⟩:=hg.ch;rw[lJ,Qb] at hn;rw[nX] at hb;obtain ⟨S,s1,s2,s3,s4⟩:=zwm l (acc++c.map (qkq r)) (fun x hx=>hl x (rJ _ hx)) hn.2 (by rw[wB,ni];omega);refine ⟨c.map (qkq r)++S,?_,by rw[wB,ni,nX];omega,fun s hs=>?_,?_⟩
  ·rw[kyw,c1];show (if kxm r c acc.length then kyw t.sets l (acc++c.map (qkq r)) else none)=_;rw[if_pos (vjj hg c3 c4 (by omega)),s1,tK]
  ·rcases rC.mp hs with hs|hs
   ·obtain ⟨z,hz,rfl⟩:=su.mp hs;exact ⟨r,rY ..,z,rfl,c4 z hz⟩
   ·obtain ⟨r',hr',z,q⟩:=s3 s hs;exact ⟨r',rJ _ hr',z,q⟩
  ·rw[sJ,Qp];refine ⟨?_,s4,?_⟩
   ·rw[Qz];unfold List.Nodup;rw[JD];refine List.Pairwise.imp_of_mem ?_ c2;intro a b ha hb' hab e;exact hab (jkt (c4 a ha).1 (c4 b hb').1 e).2
   ·intro x hx y hy e;rw[Qz] at hx;obtain ⟨z,hz,rfl⟩:=su.mp hx;obtain ⟨s,hs,rfl⟩:=su.mp hy;obtain ⟨r',hr',z',rfl,q1,_⟩:=s3 s hs;have:=(jkt (c4 z hz).1 q1 e).1;exact hn.1 (by rw[this];exact tC (f:=fun r:PRule=>r.name.text.toList) hr')
def vk3 (t:PTree)(l:List PRule)(s:MNever):Prop:=∃ r∈l,∃ z,s=qj2 r z∧qyd z∧ParOk (ssz (jk t)) r.params z
theorem zk2 {t:PTree}:∀ (l:List PRule) (acc:List MNever),(∀ r∈l,RGood t r)→acc.length+9 * l.length≤100000 →
  ∃ S,kvw t.sets l acc=some (acc++S)∧S.length≤9 * l.length∧(∀ s∈S,vk3 t l s)
 | [],acc,_,_=>⟨[],by rw[kvw,lq],by simp,fun s hs=>by cases hs⟩
 | r::l,acc,hl,hb=>by
  have hg:=hl r (rY ..);obtain ⟨c,c1,c2,c3,c4⟩:=hg.ch;rw[nX] at hb;obtain ⟨S,s1,s2,s3⟩:=zk2 l (acc++c.map (qj2 r)) (fun x hx=>hl x (rJ _ hx)) (by rw[wB,ni];omega);refine ⟨c.map (qj2 r)++S,?_,by rw[wB,ni,nX];omega,fun s hs=>?_⟩
  ·rw[kvw,c1];show (if kxm r c acc.length then kvw t.sets l (acc++c.map (qj2 r)) else none)=_;rw[if_pos (vjj hg c3 c4 (by omega)),s1,tK]
  ·rcases rC.mp hs with hs|hs
   ·obtain ⟨z,hz,rfl⟩:=su.mp hs;exact ⟨r,rY ..,z,rfl,c4 z hz⟩
   ·obtain ⟨r',hr',z,q⟩:=s3 s hs;exact ⟨r',rJ _ hr',z,q⟩
structure MachOf (t:PTree)(a:Mach):Prop where
 good:MachGood (zl (jk t)) (ksz (jk t)) (ssz (jk t)) a
 first:kjc a.vars a.size (List.replicate a.size 0)
 steps:∀ s∈a.steps,vjf t t.rules s
 nevers:∀ s∈a.nevers,vk3 t t.nevers s
 few:a.steps.length≤45
theorem vza {s:ByteArray}(h:(kz4 s).1=0):∃ a,qjg s=some a∧MachOf (kqd (dw s).1).1 a:=by
 have hR:=zy1 h;unfold qjg;generalize (kqd (dw s).1).1=t at hR;obtain ⟨L,hg,hL⟩:=hR.good;have hs:=kww hL hg;obtain ⟨us,z,v1,v2⟩:=jjg hR t.vars (fun _ hv=>hv) 0;have hvn:(t.vars.map yg).length≤4:=hR.bnd.vars;have hz:z≤12:=by have:=v2.top;omega
 obtain ⟨t1,k1,k2⟩:=vxf hR hs v1 (by omega);have hrn:t.rules.length≤5:=hR.bnd.rules;have hnn:t.nevers.length≤3:=hR.bnd.nevers;obtain ⟨S,s1,s2,s3,s4⟩:=zwm (t:=t) t.rules [] (fun r hr=>zxm hR (wU _ hr)) (zwe hR.fine) (by simp only[QX];omega);obtain ⟨N,n1,n2,n3⟩:=zk2 (t:=t) t.nevers [] (fun r hr=>zxm hR (rV _ hr)) (by simp only[QX];omega);rw[fD] at s1 n1;have hul:=v2.len;have hty:∀ r∈t.rules,kkh (zl (jk t)) r.params r.body=true:=fun r hr=>by
  have:=hR.typ;unfold qqt at this;rw[wG] at this;have:=ng.1 this.1 r hr;unfold zqm at this;rw[wG] at this;exact this.2
 have hfit:qj4 (jk t)=true:=by
  have q1:t.sets.length≤2:=hR.bnd.sets;have q2:t.kinds.length≤2:=hR.bnd.kinds;unfold qj4;have q3:((jk t).kinds.all fun x=>decide (x.members.length≤1000))=true:=ng.2 fun k hk=>ny (by have:=hR.bnd.mems k hk;omega)
  rw[q3,ny (show (jk t).sets.length≤1000 by show t.sets.length≤1000;omega),ny (show (jk t).kinds.length≤1000 by show t.kinds.length≤1000;omega),ny (show (jk t).vars.length≤1000 by show (t.vars.map yg).length≤1000;omega),ny (show (jk t).rules.length≤1000 by show t.rules.length≤1000;omega),ny (show (jk t).nevers.length≤1000 by show t.nevers.length≤1000;omega)];rfl
 have hnew:zyu (jk t)=some ⟨S,N,kj3 t.sets,us,kzm (jk t),z⟩:=by
  unfold zyu;show (qj5 t.kinds []).bind _=_;rw[k1];show (ky5 t.sets t.kinds (t.vars.map yg) 0 t1 [] 0).bind _=_;rw[k2];show (kyw t.sets t.rules []).bind _=_;rw[s1];show (kvw t.sets t.nevers []).map _=_;rw[n1];rfl
 have hmok:kvy ⟨S,N,kj3 t.sets,us,kzm (jk t),z⟩=true:=by
  unfold kvy;have q1:S.all qzo=true:=ng.2 fun x hx=>by
   obtain ⟨r,hr,ms,rfl,_⟩:=s3 x hx;have g:=zxm hR (wU t.nevers hr);show qzo ⟨_,r.params,ms,r.guard,r.body⟩=true;unfold qzo;simp only;rw[ny g.par,g.fitG,g.fitB.1,ny g.fitB.2.1,g.fitB.2.2];rfl
  have q2:N.all qw2=true:=ng.2 fun x hx=>by
   obtain ⟨r,hr,ms,rfl,_⟩:=n3 x hx;have g:=zxm hR (rV t.rules hr);show qw2 ⟨_,r.params,ms,r.guard⟩=true;unfold qw2;simp only;rw[ny g.par,g.fitG];rfl
  simp only;rw[q1,q2,ny (by omega:us.length≤1000),ny (by omega:S.length≤1000000),ny (by omega:N.length≤1000000)];rfl
 refine ⟨⟨S,N,kj3 t.sets,us,kzm (jk t),z⟩,?_,?_⟩
 ·rw[if_pos hfit,hnew];show (if kvy ⟨S,N,kj3 t.sets,us,kzm (jk t),z⟩=true then some (⟨S,N,kj3 t.sets,us,kzm (jk t),z⟩:Mach) else none)=_;rw[if_pos hmok]
 ·have hu:∀ v∈us,∃ d,UOk (jk t) v d:=fun v hv=>by
   obtain ⟨i,hi,rfl⟩:=rP hv;obtain ⟨u,u1,u2⟩:=v2.at_ i (by rw[←hul];exact hi);rw[wW hi] at u1;injection u1 with u1;rw[u1];exact ⟨_,u2⟩
  have hvp:=hR.sm.vars;rw[ni] at hul hvn;refine ⟨⟨vv2 hR v2,v2.disj,fun v hv=>?_,fun v hv=>?_,?_,?_,fun x hx=>?_,fun x hx=>?_,s4⟩,jyt v2,s3,n3,by show S.length≤45;omega⟩
  ·obtain ⟨d,hd⟩:=hu v hv;have q1:=v2.fit v hv;have q2:=hd.low;have q3:=hd.top;exact ⟨⟨q1.2,q2⟩,by omega⟩
  ·obtain ⟨d,hd⟩:=hu v hv;exact ⟨hd.few,hd.txt⟩
  ·show 0<us.length;omega
  ·show us.length≤10;omega
  ·obtain ⟨r,hr,ms,rfl,_,hp⟩:=s3 x hx;have g:=zxm hR (wU t.nevers hr);exact ⟨hp,g.full,g.blk.1,g.blk.2,hty r hr⟩
  ·obtain ⟨r,hr,ms,rfl,_,hp⟩:=n3 x hx;have g:=zxm hR (rV t.rules hr);exact ⟨hp,g.full⟩
end Go.Proofs.YtpmcnonmkghokaaGreatDoor
namespace Go.Proofs.YtpmcnonmkghokaaGreatDoor
open Go.RowKit
def kve (a:Mach)(c:List Int):Prop:=c.length=a.size∧kzj c=true
def Tot (a:Mach)(ts:List Turn):Prop:=∀ st c,kjc a.vars a.size st→kve a c→∃ r,kw4 a.vars st ts st c=some r∧kzj r.1=true∧kve a r.2
def jj8 (a:Mach)(ways:List SWay)(x:SWay):Prop:=kjc a.vars a.size x.state∧∃ y,ways[x.from_]?=some y∧∃ s∈a.steps,s.text=x.step∧vqc a y.state s=some (x.state,1)
def FOk (a:Mach)(ways:List SWay)(f:Fnd):Prop:=∀ y∈f,jj8 a ways y.2
section
variable {tab:Tab} {kz sz:List UInt8→Nat} {a:Mach} {ts:List Turn}
theorem find_ok (hz:0<a.size∧a.size≤1000)(ht:Tot a ts){x:SWay}(hx:kjc a.vars a.size x.state)(f:Fnd){c:List Int}(hc:kve a c):∃ k c',qqx a ts x f c=some (qjt f k x,c')∧kve a c'∧kzj k=true:=by
 obtain ⟨r,h1,h2,h3⟩:=ht _ c hx hc;unfold qqx;rw[if_pos ⟨by rw[hx.len];exact hz.1,by rw[hx.len,hc.1],by rw[hx.len];exact hz.2⟩,h1];exact ⟨r.1,r.2,by simp only[lK];rw[if_pos h2],h3,h2⟩
theorem vjn {f:Fnd}{k:List Int}{x:SWay}{y:List Int × SWay}(h:y∈qjt f k x):y∈f∨y=(k,x):=by
 unfold qjt at h;split at h
 ·exact Or.inl h
 ·rcases rC.mp h with h|h
  ·exact Or.inl h
  ·exact Or.inr (by simpa using h)
theorem vxz {ways:List SWay}{f:Fnd}(h:FOk a ways f){k:List Int}{x:SWay}(hx:jj8 a ways x):FOk a ways (qjt f k x):=fun y hy=>by
 rcases vjn hy with hy|rfl
 ·exact h y hy
 ·exact hx
theorem qvr (hg:MachGood tab kz sz a)(hz:0<a.size∧a.size≤1000)(ht:Tot a ts){most at_:Nat}{ways:List SWay}{y:SWay}(hy:ways[at_]?=some y)(hs:kjc a.vars a.size y.state):∀ (l:List MStep),(∀ s∈l,s∈a.steps)→∀ (f:Fnd) (c:List Int),FOk a ways f→kve a c→∃ q,kjs a ts most at_ y.state l f c=some q∧FOk a ways q.1∧kve a q.2.1
 | [],_,f,c,hf,hc=>⟨_,rfl,hf,hc⟩
 | s::l,hl,f,c,hf,hc=>by
  obtain ⟨r,r1,_,r3⟩:=out_ok hg hs (hl s (rY ..));rw[kjs,show kwq a.vars a.tab s.params s.mems y.state s.guard s.block=some r from r1];simp only[lK];have hl':∀ x∈l,x∈a.steps:=fun x hx=>hl x (rJ _ hx)
  by_cases h1:(r.2==1)=true
  ·rw[if_pos h1];have e1:r.2=1:=by simpa using h1
   have hst:=r3 e1;obtain ⟨k,c',q1,q2,_⟩:=find_ok hz ht (x:=⟨r.1,at_,s.text⟩) hst f hc;rw[q1];simp only[lK];have hf':=vxz (k:=k) hf (x:=⟨r.1,at_,s.text⟩) ⟨hst,y,hy,s,hl s (rY ..),rfl,by rw[r1,←e1]⟩;split
   ·exact ⟨_,rfl,hf',q2⟩
   ·exact qvr hg hz ht hy hs l hl' _ _ hf' q2
  ·rw[if_neg h1];exact qvr hg hz ht hy hs l hl' f c hf hc
theorem zxp (hg:MachGood tab kz sz a)(hz:0<a.size∧a.size≤1000)(ht:Tot a ts){most:Nat}{ways:List SWay}(hw:∀ x∈ways,kjc a.vars a.size x.state):∀ (l:List SWay) (at_:Nat),l=ways.drop at_→∀ (f:Fnd) (c:List Int),FOk a ways f→kve a c→∃ q,kj9 a ts most l at_ f c=some q∧FOk a ways q.1∧kve a q.2
 | [],at_,_,f,c,hf,hc=>⟨_,rfl,hf,hc⟩
 | x::l,at_,e,f,c,hf,hc=>by
  have hx:ways[at_]?=some x:=by
   have:=congrArg (fun l=>l[0]?) e;simp only[sZ,Qi,nP] at this;exact this.symm
  have hxm:x∈ways:=nU hx;have hs:=hw x hxm;have el:l=ways.drop (at_+1):=by
   have:=congrArg (List.drop 1) e;rw[List.drop_drop] at this;simpa using this
  obtain ⟨q,q1,q2,q3⟩:=qvr (most:=most) hg hz ht hx hs a.steps (fun _ h=>h) f c hf hc;rw[kj9,if_pos (by rw[hs.len];omega),q1];simp only[lK];split
  ·exact ⟨_,rfl,q2,q3⟩
  ·exact zxp hg hz ht hw l _ el _ _ q2 q3
def Calm (a:Mach)(x:SWay):Prop:=∃ v,lookO a x.state=some v∧endOf v=0
theorem jkl (hg:MachGood tab kz sz a)(hz:a.size≤1000):∀ (l:List SWay) (at_:Nat),(∀ x∈l,kjc a.vars a.size x.state)→∃ x,qyu a l at_=some x∧((x.2=0∧∀ y∈l,Calm a y)∨(x.2≠0∧∃ j y v,l[j]?=some y∧x.1=at_+j∧lookO a y.state=some v∧endOf v=x.2))
 | [],at_,_=>⟨_,rfl,Or.inl ⟨rfl,fun y hy=>by cases hy⟩⟩
 | x::l,at_,h=>by
  have hs:=h x (rY ..);obtain ⟨v,v1,_⟩:=look_ok hg hs;rw[qyu,if_pos (by rw[hs.len];omega),v1];simp only[lK];by_cases h0:(endOf v==0)=true
  ·rw[if_pos h0];obtain ⟨z,z1,z2⟩:=jkl hg hz l (at_+1) (fun y hy=>h y (rJ _ hy));refine ⟨z,z1,?_⟩;rcases z2 with ⟨z2,z3⟩|⟨z2,j,y,u,j1,j2,j3,j4⟩
   ·refine Or.inl ⟨z2,fun y hy=>?_⟩;rcases tX.mp hy with rfl|hy
    ·exact ⟨v,v1,by simpa using h0⟩
    ·exact z3 y hy
   ·exact Or.inr ⟨z2,j+1,y,u,by simpa using j1,by omega,j3,j4⟩
  ·rw[if_neg h0];exact ⟨_,rfl,Or.inr ⟨by simpa using h0,0,x,v,rfl,rfl,v1,rfl⟩⟩
structure WOk (a:Mach)(ways:List SWay):Prop where
 first:∃ x,ways[0]?=some x∧x.state=List.replicate a.size 0
 ok:∀ x∈ways,kjc a.vars a.size x.state
 by_:∀ i x,ways[i+1]?=some x→x.from_≤i∧jj8 a ways x
theorem vjb {st:List Int}:∀ (l:List MStep),(l.map (fun s=>s.text.toList)).Nodup→∀ s∈l,∀ r,vqc a st s=some r→qjh a.vars a.tab st s.text.toList l=some (r.1,r.2==1)
 | x::l,hn,s,hm,r,hr=>by
  rw[lJ,Qb] at hn;rcases tX.mp hm with rfl|hm
  ·rw[qjh,if_pos (by simp),show kwq a.vars a.tab s.params s.mems st s.guard s.block=some r from hr];rfl
  ·have hne:(x.text.toList==s.text.toList)=false:=by
    rw[sD];intro e;exact hn.1 (by rw[e];exact tC (f:=fun s:MStep=>s.text.toList) hm)
   rw[qjh,hne,if_neg (by simp)];exact vjb l hn.2 s hm r hr
theorem jyd (hg:MachGood tab kz sz a){ways:List SWay}(hw:WOk a ways):∀ (B k:Nat),k<B→∀ z,ways[k]?=some z→∃ p:List ByteArray,(∀ n acc,k≤n→zzn ways n k acc=some (acc++p))∧qjo a p.reverse (List.replicate a.size 0)=some z.state∧(k=0→p=[])∧∀ j,j<p.length→∃ i y,i<k∧i≤z.from_∧ways[i]?=some y∧qjo a (p.reverse.take j) (List.replicate a.size 0)=some y.state
 | 0,k,hk,_,_=>by omega
 | B+1,0,hk,z,hz=>by
  obtain ⟨x,x1,x2⟩:=hw.first;rw[x1] at hz;injection hz with hz;subst hz;refine ⟨[],fun n acc _=>by cases n<;>simp[zzn],?_,fun _=>rfl,fun j hj=>by simp at hj⟩;rw[List.reverse_nil,qjo,x2]
 | B+1,k+1,hk,z,hz=>by
  obtain ⟨h1,hs,y,hy,s,hs1,hs2,hs3⟩:=hw.by_ k z hz;obtain ⟨p,p1,p2,p3,p4⟩:=jyd hg hw B z.from_ (by omega) y hy;have hrun:qjo a (p.reverse++[z.step]) (List.replicate a.size 0)=some z.state:=by
   rw[zwa a z.step p.reverse _ _ p2,←hs2,vjb a.steps hg.nodup s hs1 _ hs3];rfl
  refine ⟨z.step::p,fun n acc hn=>?_,?_,(fun e=>by cases e),fun j hj=>?_⟩
  ·cases n with
   | zero=>omega
   | succ n=>
    rw[zzn,hz];simp only[lK];rw[if_pos h1,p1 n _ (by omega),tK];rfl
  ·rw[List.reverse_cons];exact hrun
  ·rw[List.reverse_cons];rw[nX] at hj;by_cases hjp:j<p.length
   ·obtain ⟨i,y',i1,i2,i3,i4⟩:=p4 j hjp;exact ⟨i,y',by omega,by omega,i3,by rw[fJ (by rw[QV];omega)];exact i4⟩
   ·have:j=p.length:=by omega
    subst this;exact ⟨z.from_,y,by omega,wX _,hy,by
     rw[fJ (by rw[QV];omega),Ql (by rw[QV];omega)];exact p2⟩
structure RepOk (a:Mach)(r:SRep):Prop where
 safe:r.end_=0→r.trace=[]
 bad:r.end_≠0→∃ st v,qjo a r.trace (List.replicate a.size 0)=some st∧lookO a st=some v∧endOf v=r.end_∧∀ j,j<r.trace.length→∃ st' v',qjo a (r.trace.take j) (List.replicate a.size 0)=some st'∧lookO a st'=some v'∧endOf v'=0
theorem zk8:∀ (f:Fnd) (k:List Int),k∈f.map (fun y=>y.1)→∃ y∈f,kks f k=y.2
 | [],k,h=>by cases h
 | y::l,k,h=>by
  rw[kks];by_cases e:(y.1==k)=true
  ·rw[if_pos e];exact ⟨y,rY ..,rfl⟩
  ·rw[if_neg e];rw[lJ] at h;rcases tX.mp h with rfl|h
   ·exact absurd (by simp) e
   ·obtain ⟨z,z1,z2⟩:=zk8 l k h;exact ⟨z,rJ _ z1,z2⟩
theorem vj3 {s:SSt}{i:Nat}{x:SWay}(h:(gu s).ways[i]?=some x)(hi:s.ways.length≤i):∃ y∈s.found,x=y.2:=by
 have e:(gu s).ways=s.ways++(kvt (newF s.seen s.found)).map (kks (newF s.seen s.found)):=rfl;rw[e,rU hi] at h;obtain ⟨k,hk,rfl⟩:=su.mp (nU h);have hk2:=(kxr _).mem_iff.mp hk;obtain ⟨y,y1,y2⟩:=zk8 _ _ hk2;exact ⟨y,(Qy.mp y1).1,y2⟩
structure PInv (a:Mach)(s:SSt):Prop where
 inv:SInv s
 ways:WOk a (gu s).ways
 calm:∀ i x,i<s.ways.length→(gu s).ways[i]?=some x→Calm a x
 new:∀ i x,s.ways.length≤i+1→(gu s).ways[i+1]?=some x→x.from_<s.ways.length
 cur:kve a s.cur
theorem keep_next {s:SSt}(h:PInv a s){f:Fnd}{c:List Int}(hn:kwz f)(hf:FOk a (gu s).ways f)(hc:kve a c)(hcalm:∀ y∈(gu s).ways.drop s.ways.length,Calm a y)(hfr:∀ y∈f,y.2.from_<(gu s).ways.length):PInv a ⟨(gu s).ways,(gu s).seen,f,c⟩:=by
 have hold:∀ i,i<(gu s).ways.length→(gu ⟨(gu s).ways,(gu s).seen,f,c⟩).ways[i]?=(gu s).ways[i]?:=fun i hi=>by
  show ((gu s).ways++_)[i]?=_;rw[lX hi]
 have hby:∀ x,jj8 a (gu s).ways x→jj8 a (gu ⟨(gu s).ways,(gu s).seen,f,c⟩).ways x:=fun x hx=>by
  obtain ⟨h1,y,h2,h3⟩:=hx;exact ⟨h1,y,by rw[hold _ (nK.mp h2).1];exact h2,h3⟩
 have hnew:∀ i x,(gu s).ways.length≤i→(gu ⟨(gu s).ways,(gu s).seen,f,c⟩).ways[i]?=some x→∃ y∈f,x=y.2:=fun i x hi hx=>vj3 hx hi
 refine ⟨zjr h.inv hn,⟨?_,fun x hx=>?_,fun i x hx=>?_⟩,fun i x hi hx=>?_,fun i x hi hx=>?_,hc⟩
 ·obtain ⟨x,x1,x2⟩:=h.ways.first;exact ⟨x,by rw[hold 0 (nK.mp x1).1];exact x1,x2⟩
 ·obtain ⟨i,hi,rfl⟩:=rP hx;by_cases hlt:i<(gu s).ways.length
  ·have:=hold i hlt;rw[wW hi] at this;exact h.ways.ok _ (nU this.symm)
  ·obtain ⟨y,y1,y2⟩:=hnew i _ (by omega) (wW hi);rw[y2];exact (hf y y1).1
 ·by_cases hlt:i+1<(gu s).ways.length
  ·rw[hold _ hlt] at hx;obtain ⟨g1,g2⟩:=h.ways.by_ i x hx;exact ⟨g1,hby x g2⟩
  ·obtain ⟨y,y1,rfl⟩:=hnew _ _ (by omega) hx;have:=hfr y y1;exact ⟨by omega,hby _ (hf y y1)⟩
 ·simp only at hi;rw[hold _ hi] at hx;by_cases hlt:i<s.ways.length
  ·exact h.calm i x hlt hx
  ·refine hcalm x (nU (i:=i-s.ways.length) ?_);rw[Qi,show s.ways.length+(i-s.ways.length)=i by omega];exact hx
 ·obtain ⟨y,y1,rfl⟩:=hnew _ _ hi hx;exact hfr y y1
theorem zkt (hg:MachGood tab kz sz a){s:SSt}(h:PInv a s){k:Nat}{z:SWay}(hk:(gu s).ways[k]?=some z)(hkl:k=0∨s.ways.length≤k){e:Int}(he:(k=0∧e=0)∨(e≠0∧∃ v,lookO a z.state=some v∧endOf v=e)):∃ r,qzv (gu s) k e=some r∧RepOk a r:=by
 obtain ⟨p,p1,p2,p3,p4⟩:=jyd hg h.ways (k+1) k (by omega) z hk;refine ⟨⟨0,e,p.reverse,(gu s).ways.length⟩,?_,⟨fun h0=>?_,fun h0=>?_⟩⟩
 ·unfold qzv;rw[p1 k [] (wX _),fD];rfl
 ·rcases he with ⟨rfl,_⟩|⟨h1,_⟩
  ·show p.reverse=[];rw[p3 rfl];rfl
  ·exact absurd h0 h1
 ·rcases he with ⟨_,rfl⟩|⟨_,v,v1,v2⟩
  ·exact absurd rfl h0
  ·refine ⟨z.state,v,p2,v1,v2,fun j hj=>?_⟩;rw[QV] at hj;obtain ⟨i,y,i1,i2,i3,i4⟩:=p4 j hj;have hlt:i<s.ways.length:=by
    rcases hkl with rfl|hkl
    ·omega
    ·cases k with
     | zero=>omega
     | succ k=>have:=h.new k z hkl hk;omega
   obtain ⟨u,u1,u2⟩:=h.calm i y hlt i3;exact ⟨y.state,u,i4,u1,u2⟩
theorem zxc (hg:MachGood tab kz sz a)(hz:0<a.size∧a.size≤1000)(ht:Tot a ts){most:Nat}:∀ (fuel:Nat) (s:SSt),PInv a s→most+2≤fuel+s.ways.length→1≤fuel→∃ r,kqo a ts most fuel s=some r∧(r=kxw 9∨(r.err=0∧1≤r.orbits∧RepOk a r))
 | 0,s,_,_,h=>by omega
 | n+1,s,h,hfu,_=>by
  rw[kqo];obtain ⟨x0,f1,f2⟩:=h.ways.first;have hpos:=(nK.mp f1).1;by_cases hm:most<(gu s).ways.length
  ·rw[if_pos hm];exact ⟨_,rfl,Or.inl rfl⟩
  ·rw[if_neg hm];by_cases he:((gu s).ways.length==s.ways.length)=true
   ·rw[if_pos he];obtain ⟨r,r1,r2⟩:=zkt hg h f1 (Or.inl rfl) (e:=0) (Or.inl ⟨rfl,rfl⟩);obtain ⟨o1,o2,_⟩:=kvj r1;exact ⟨r,r1,Or.inr ⟨o2,by omega,r2⟩⟩
   ·rw[if_neg he];have hgr:s.ways.length<(gu s).ways.length:=by
     have:=qx4 s;simp at he;omega
    obtain ⟨x,x1,x2⟩:=jkl hg hz.2 ((gu s).ways.drop s.ways.length) s.ways.length (fun y hy=>h.ways.ok y (Zp hy));rw[x1];simp only[lK];rcases x2 with ⟨x2,x3⟩|⟨x2,j,y,v,j1,j2,j3,j4⟩
    ·rw[if_pos (by rw[x2];rfl)];obtain ⟨q,q1,q2,q3⟩:=zxp (most:=most) hg hz ht h.ways.ok _ s.ways.length rfl [] (gu s).cur (fun y hy=>by cases hy) h.cur;rw[q1];simp only[lK];have hnd:=(kvp _ _ _ _ _ q1).2 (by unfold kwz;simp);have hnext:=keep_next h hnd q2 q3 x3 (fun y hy=>(nK.mp (q2 y hy).2.choose_spec.1).1);exact zxc hg hz ht n _ hnext (by simp only;omega) (by omega)
    ·rw[if_neg (by simpa using x2)];rw[Qi] at j1;rw[j2];obtain ⟨r,r1,r2⟩:=zkt hg h j1 (Or.inr (by omega)) (e:=x.2) (Or.inr ⟨x2,v,j3,j4⟩);obtain ⟨o1,o2,_⟩:=kvj r1;exact ⟨r,r1,Or.inr ⟨o2,by omega,r2⟩⟩
end
end Go.Proofs.YtpmcnonmkghokaaGreatDoor
namespace Go.Proofs.YtpmcnonmkghokaaGreatDoor
open Go.RowKit
def jj9 (sets:List Int)(v:MVar):Prop:=(v.over=-1∨∃ k:Nat,v.over=k∧sets[k]?=some (v.count:Int))∧(v.of_=-1∨∃ k n:Nat,v.of_=k∧sets[k]?=some (n:Int)∧v.texts.length≤n+1)
theorem zqb:∀ {l:List PSet} {s:List UInt8} {k:Nat},kyg l s=some k→∃ x,l[k]?=some x∧x.name.text.toList=s
 | x::l,s,k,h=>by
  rw[kyg] at h;split at h
  ·rename_i hx;injection h with h;subst h;exact ⟨x,rfl,by simpa using hx⟩
  ·obtain ⟨j,hj,rfl⟩:=tu.mp h;obtain ⟨y,y1,y2⟩:=zqb hj;exact ⟨y,by simpa using y1,y2⟩
theorem jje {t:PTree}(h:Right t):kyg t.sets []=none:=by
 obtain ⟨L,hg,hL⟩:=h.good;have hsz:=kww hL hg;cases hk:kyg t.sets [] with
 | none=>rfl
 | some k=>
  obtain ⟨x,x1,x2⟩:=zqb hk;have:=hsz.nm _ (zyh (nU x1));have h1:=this.1;have h2:x.name.text.toList.length=0:=by rw[x2];rfl
  rw[Zh,qvz] at h2;omega
theorem jyf {t:PTree}(h:NamesFine t){x:PSet}(hx:x∈t.sets){k:PKind}(hk:k∈t.kinds):x.name.text.toList≠k.name.text.toList:=by
 intro e;have hn:=qj8 h;rw[qj7,sJ,Qp] at hn;refine hn.2.2 _ (tC (f:=fun x:Tok=>x.text.toList) (tV.mpr ⟨x,hx,rY ..⟩)) _ (tC (f:=fun x:Tok=>x.text.toList) (wU _ (tV.mpr ⟨k,hk,rY ..⟩))) e
theorem jxo {ss:List PSet}{k:Nat}{x:PSet}(h:ss[k]?=some x):(kj3 ss)[k]?=some (yx x.size.text):=by
 unfold kj3;rw[sW,h];rfl
theorem vjt {t:PTree}(h:Right t){v:PVar}(hv:v∈t.vars){z:Nat}{u:MVar}(hu:zx7 t.sets t.kinds z (yg v)=some u):jj9 (kj3 t.sets) u:=by
 obtain ⟨L,hg,hL⟩:=h.good;obtain ⟨h1,h2⟩:=hg.vars v hv;unfold zx7 at hu;obtain ⟨c,hc,hu⟩:=wJ.mp hu;obtain ⟨x,hx,rfl⟩:=tu.mp hu;have hempty:=jje h;refine ⟨?_,?_⟩
 ·show kzr t.sets v.over.text.toList=-1∨∃ k:Nat,kzr t.sets v.over.text.toList=k∧(kj3 t.sets)[k]?=some (c:Int);cases ha:(yg v).arr
  ·refine Or.inl ?_;have hk:(!(v.over.kind.toList==[]))=false:=ha;rcases h1 with e|e
   ·rw[e];unfold kzr;rw[show jy.text.toList=[] from kqh,hempty]
   ·rw[rZ] at e;rw[e] at hk;cases hk
  ·rw[ha,if_pos rfl] at hc;obtain ⟨k,y,k1,k2,k3,_⟩:=kwy hc;refine Or.inr ⟨k,?_,by rw[jxo k2,k3]⟩;unfold kzr;rw[show v.over.text.toList=(yg v).over.text.toList from rfl,k1]
 ·show kzr t.sets (yg v).si.name.text.toList=-1∨∃ k n:Nat,kzr t.sets (yg v).si.name.text.toList=k∧(kj3 t.sets)[k]?=some (n:Int)∧x.length≤n+1;rcases h2 with ⟨k1,k2,_⟩|⟨k1,k2,_,_⟩|⟨k1,_⟩
  ·have e:(yg v).si=⟨0,jy,jy⟩:=by unfold yg;rw[k1,k2];rfl
   rw[e];refine Or.inl ?_;unfold kzr;rw[show jy.text.toList=[] from kqh,hempty]
  ·have e:(yg v).si=⟨1,v.top,jy⟩:=by unfold yg;rw[k1,k2];rfl
   rw[e];refine Or.inl ?_;unfold kzr;rw[show jy.text.toList=[] from kqh,hempty]
  ·have e:(yg v).si=⟨2,jy,v.type_⟩:=by unfold yg;rw[k1];rfl
   rw[e] at hx ⊢;have hX:jvz t.sets t.kinds ⟨2,jy,v.type_⟩=match kwv t.kinds v.type_.text.toList with|some k=>some (k.members.map (·.text))|none=>(qxv t.sets v.type_.text.toList).map fun m=>⟨#[45]⟩::kwt m:=rfl
   rw[hX] at hx;cases hk:kwv t.kinds v.type_.text.toList with
   | some k=>
    refine Or.inl ?_;obtain ⟨q1,q2⟩:=qqq hk;unfold kzr;cases hs:kyg t.sets v.type_.text.toList with
    | none=>rfl
    | some j=>
     obtain ⟨y,y1,y2⟩:=zqb hs;exact absurd (y2.trans q2.symm) (jyf h.fine (nU y1) q1)
   | none=>
    rw[hk] at hx;obtain ⟨m,hm,rfl⟩:=tu.mp hx;obtain ⟨k,y,e1,e2,e3,_⟩:=kwy hm;refine Or.inr ⟨k,m,?_,by rw[jxo e2,e3],by rw[nX,kzl];omega⟩;unfold kzr;rw[e1]
theorem zwz {t:PTree}(h:Right t):∀ (l:List PVar),(∀ v∈l,v∈t.vars)→∀ (sz:Nat) (us:List MVar) (z:Nat),vmk t.sets t.kinds (l.map yg) sz=some (us,z)→(∀ u∈us,jj9 (kj3 t.sets) u)∧∀ i,sz≤i→i<z→∃ u∈us,u.first≤i∧i<u.first+u.count
 | [],_,sz,us,z,e=>by
  rw[Zv,vmk] at e;injection e with e;injection e with e1 e2;subst e1;subst e2;exact ⟨fun u hu=>(by cases hu),fun i h1 h2=>by omega⟩
 | v::l,hl,sz,us,z,e=>by
  rw[lJ,vmk] at e;obtain ⟨u,hu,e⟩:=wJ.mp e;obtain ⟨r,hr,e⟩:=tu.mp e;injection e with e1 e2;subst e1;subst e2;obtain ⟨i1,i2⟩:=zwz h l (fun x hx=>hl x (rJ _ hx)) _ r.1 r.2 hr;have hf:u.first=sz:=by
   unfold zx7 at hu;obtain ⟨c,hc,hu⟩:=wJ.mp hu;obtain ⟨x,hx,rfl⟩:=tu.mp hu;rfl
  refine ⟨fun y hy=>?_,fun i h1 h2=>?_⟩
  ·rcases tX.mp hy with rfl|hy
   ·exact vjt h (hl v (rY ..)) hu
   ·exact i1 y hy
  ·by_cases hlt:i<sz+u.count
   ·exact ⟨u,rY ..,by omega,by omega⟩
   ·obtain ⟨y,y1,y2⟩:=i2 i (by omega) h2;exact ⟨y,rJ _ y1,y2⟩
structure MachTurn (a:Mach):Prop where
 sets:a.sets.length≤2∧∀ n∈a.sets,n=2∨n=3
 vars:∀ v∈a.vars,jj9 a.sets v
 all:∀ i,i<a.size→∃ u∈a.vars,u.first≤i∧i<u.first+u.count
theorem jw6 {s:ByteArray}(h:(kz4 s).1=0){a:Mach}(ha:qjg s=some a):MachTurn a:=by
 have hR:=zy1 h;unfold qjg at ha;generalize (kqd (dw s).1).1=t at hR ha;obtain ⟨L,hg,hL⟩:=hR.good;have hs:=kww hL hg;obtain ⟨us,z,v1,v2⟩:=jjg hR t.vars (fun _ hv=>hv) 0;have hvn:(t.vars.map yg).length≤4:=hR.bnd.vars;have hz:z≤12:=by have:=v2.top;omega
 obtain ⟨t1,k1,k2⟩:=vxf hR hs v1 (by omega);split at ha
 ·obtain ⟨b,hb,ha⟩:=wJ.mp ha;split at ha
  ·injection ha with ha;subst ha;unfold zyu at hb;obtain ⟨t2,h2,hb⟩:=wJ.mp hb;obtain ⟨x,hx,hb⟩:=wJ.mp hb;obtain ⟨st,_,hb⟩:=wJ.mp hb;obtain ⟨nv,_,rfl⟩:=tu.mp hb;rw[show (jk t).kinds=t.kinds from rfl,k1] at h2;injection h2 with h2;subst h2;rw[show ky5 (jk t).sets (jk t).kinds (jk t).vars 0 t1 [] 0=ky5 t.sets t.kinds (t.vars.map yg) 0 t1 [] 0 from rfl,k2] at hx;injection hx with hx;subst hx;obtain ⟨g1,g2⟩:=zwz hR t.vars (fun _ hv=>hv) 0 us z v1;refine ⟨⟨?_,fun n hn=>?_⟩,g1,fun i hi=>g2 i (rG _) hi⟩
   ·show (kj3 t.sets).length≤2;unfold kj3;rw[ni];exact hR.bnd.sets
   ·obtain ⟨y,hy,rfl⟩:=su.mp (show n∈t.sets.map (fun s=>yx s.size.text) from hn);have:=hR.bnd.size y hy;omega
  ·cases ha
 ·cases ha
def qjz (sets:List Int)(t:Turn):Prop:=∀ (k:Nat) (n:Nat),sets[k]?=some (n:Int)→∃ o,t[k]?=some o∧o.length=n∧n≤3∧∀ x∈o,0≤x∧x<n
def jyu (l:List Int):Bool:=match kke l [[]] with
 | some ts=>ts.all fun t=>(List.range l.length).all fun k=>match t[k]?,l[k]? with
  | some o,some n=>decide ((o.length:Int)=n)&&(decide (n≤3)&&o.all fun x=>decide (0≤x)&&decide (x<n))
  | _,_=>false
 | none=>false
theorem jyy {l:List Int}(h:jyu l=true):∃ ts,kke l [[]]=some ts∧∀ t∈ts,qjz l t:=by
 unfold jyu at h;split at h
 ·rename_i ts hts;refine ⟨ts,hts,fun t ht k n hk=>?_⟩;have h1:=ng.1 (ng.1 h t ht) k (QW.mpr (nK.mp hk).1);rw[hk] at h1;split at h1
  ·rename_i o m ho hm;injection hm with hm;subst hm;simp only[wG,nG] at h1;refine ⟨o,ho,by omega,by omega,fun x hx=>?_⟩;have:=ng.1 h1.2.2 x hx;simp only[wG,nG] at this;exact this
  ·cases h1
 ·cases h
theorem jyw {l:List Int}(h:l.length≤2∧∀ n∈l,n=2∨n=3):∃ ts,kke l [[]]=some ts∧∀ t∈ts,qjz l t:=by
 obtain ⟨h1,h2⟩:=h;apply jyy;match l,h1,h2 with
 | [],_,_=>decide +kernel
 | [a],_,h2=>
  rcases h2 a (by simp) with rfl|rfl<;>decide +kernel
 | [a,b],_,h2=>
  rcases h2 a (by simp) with rfl|rfl<;>rcases h2 b (by simp) with rfl|rfl<;>decide +kernel
 | _::_::_::_,h1,_=>simp at h1
section
variable {tab:Tab} {kz sz:List UInt8→Nat} {a:Mach}
theorem vqz {sets:List Int}{v:MVar}(hv:jj9 sets v){t:Turn}(ht:qjz sets t){i:Nat}(hi:i<v.count):∃ p,zj5 v t i=some p∧0≤p∧p<v.count:=by
 unfold zj5;rcases hv.1 with e|⟨k,e,hk⟩
 ·rw[e];exact ⟨i,rfl,by omega,by omega⟩
 ·obtain ⟨o,o1,o2,o3,o4⟩:=ht k v.count hk;rw[e,if_neg (by simp),if_neg (by omega),show (k:Int).toNat=k by omega,o1];have hlt:i<o.length:=by omega
  exact ⟨o[i],by simp[wW hlt],(o4 _ (wY hlt))⟩
theorem jyz {sets:List Int}{v:MVar}(hv:jj9 sets v){t:Turn}(ht:qjz sets t){x:Int}(h0:0≤x)(h1:x<v.texts.length)(h2:v.texts.length≤200):∃ y,zqq v t x=some y∧0≤y∧y≤255:=by
 unfold zqq;rcases hv.2 with e|⟨k,n,e,hk,hn⟩
 ·rw[e];exact ⟨x,rfl,h0,by omega⟩
 ·by_cases hx:x=0
  ·rw[hx];exact ⟨0,by simp,by omega,by omega⟩
  ·obtain ⟨o,o1,o2,o3,o4⟩:=ht k n hk;have hb:((v.of_==-1)||(x==0))=false:=by
    rw[e];have q1:(((k:Int)==-1))=false:=by simp
    have q2:(x==0)=false:=by simpa using hx
    rw[q1,q2];rfl
   rw[hb,if_neg (by simp),e,if_neg (by omega),show (k:Int).toNat=k by omega,o1];have hlt:x.toNat-1<o.length:=by omega
   have hm:=o4 _ (wY hlt);refine ⟨o[x.toNat-1]+1,?_,by omega,by omega⟩;simp only[lK,wW hlt];rw[if_pos (by omega)]
theorem jvs {c:List Int}(h:kzj c=true)(j:Nat){y:Int}(h1:0≤y)(h2:y≤255):kzj (c.set j y)=true:=by
 unfold kzj at *;refine ng.2 fun x hx=>?_
 rcases List.mem_or_eq_of_mem_set hx with hx|rfl
 ·exact ng.1 h x hx
 ·rw[ny h1,ny h2];rfl
theorem zwu (hm:MachTurn a)(hg:MachGood tab kz sz a){v:MVar}(hv:v∈a.vars){t:Turn}(ht:qjz a.sets t){st:List Int}(hs:kjc a.vars a.size st):∀ (l:List Nat),(∀ i∈l,i<v.count)→∀ c,kve a c→∃ r,kyv v t st l c=some r∧kve a r
 | [],_,c,hc=>⟨c,rfl,hc⟩
 | i::l,hl,c,hc=>by
  have hi:=hl i (rY ..);obtain ⟨p,p1,p2,p3⟩:=vqz (hm.vars v hv) ht hi;obtain ⟨x,x1,x2,x3⟩:=hs.val v hv i hi;obtain ⟨y,y1,y2,y3⟩:=jyz (hm.vars v hv) ht x2 x3 (hg.txt v hv).1;have hf:=(hg.fit v hv).1.1;rw[kyv,p1];simp only[lK];rw[x1];simp only[lK];rw[y1];simp only[lK];rw[if_pos ⟨p2,by rw[hc.1];omega⟩];exact zwu hm hg hv ht hs l (fun j hj=>hl j (rJ _ hj)) _ ⟨by rw[Jv];exact hc.1,jvs hc.2 _ y2 y3⟩
theorem jxt (hm:MachTurn a)(hg:MachGood tab kz sz a){t:Turn}(ht:qjz a.sets t){st:List Int}(hs:kjc a.vars a.size st):∀ (vs:List MVar),(∀ v∈vs,v∈a.vars)→∀ c,kve a c→∃ r,qjr t st vs c=some r∧kve a r
 | [],_,c,hc=>⟨c,rfl,hc⟩
 | v::vs,hl,c,hc=>by
  obtain ⟨r,r1,r2⟩:=zwu hm hg (hl v (rY ..)) ht hs (List.range v.count) (fun i hi=>QW.mp hi) c hc;rw[qjr,r1];exact jxt hm hg ht hs vs (fun x hx=>hl x (rJ _ hx)) r r2
theorem jq7 (hm:MachTurn a)(hg:MachGood tab kz sz a){st:List Int}(hs:kjc a.vars a.size st):∀ (ts:List Turn),(∀ t∈ts,qjz a.sets t)→∀ lo c,kzj lo=true→kve a c→∃ r,kw4 a.vars st ts lo c=some r∧kzj r.1=true∧kve a r.2
 | [],_,lo,c,hl,hc=>⟨_,rfl,hl,hc⟩
 | t::ts,ht,lo,c,hl,hc=>by
  obtain ⟨r,r1,r2⟩:=jxt hm hg (ht t (rY ..)) hs a.vars (fun _ h=>h) c hc;rw[kw4,r1];exact jq7 hm hg hs ts (fun x hx=>ht x (rJ _ hx)) _ r (by unfold jzn;split;exact r2.2;exact hl) r2
theorem jyh (hm:MachTurn a)(hg:MachGood tab kz sz a){st:List Int}(hs:kjc a.vars a.size st):kzj st=true:=by
 unfold kzj;refine ng.2 fun x hx=>?_
 obtain ⟨i,hi,rfl⟩:=rP hx;obtain ⟨u,u1,u2,u3⟩:=hm.all i (by rw[←hs.len];exact hi);obtain ⟨y,y1,y2,y3⟩:=hs.val u u1 (i-u.first) (by omega);rw[show u.first+(i-u.first)=i by omega,wW hi] at y1;injection y1 with y1;have:=(hg.txt u u1).1;rw[y1,ny y2,ny (by omega:y≤255)];rfl
theorem vkz (hm:MachTurn a)(hg:MachGood tab kz sz a):∃ ts,kke a.sets [[]]=some ts∧Tot a ts:=by
 obtain ⟨ts,h1,h2⟩:=jyw hm.sets;exact ⟨ts,h1,fun st c hs hc=>jq7 hm hg hs ts h2 st c (jyh hm hg hs) hc⟩
end
structure SrcOk (s:ByteArray)(a:Mach)(n:Nat)(r:SRep):Prop where
 src:kqu s n=some r
 how:r=kxw 9∨(r.err=0∧1≤r.orbits∧r.orbits≤n∧RepOk a r)
 few:r.err=0→∀ m:Nat,1≤m→m≤500→(r.orbits≤m→kqu s m=some r)∧(m<r.orbits→kqu s m=some (kxw 9))
theorem jvv {s:ByteArray}(h:(kz4 s).1=0){a:Mach}(ha:qjg s=some a){tr:PTree}(hM:MachOf tr a){n:Nat}(h1:1≤n)(h2:n≤500):∃ r,SrcOk s a n r:=by
 have hg:=hM.good;have hm:=jw6 h ha;obtain ⟨ts,t1,ht⟩:=vkz hm hg;have hz:0<a.size∧a.size≤1000:=by
  refine ⟨?_,hg.env.size⟩;have h1:=hg.one;have h2:=(hg.fit _ (wY h1)).1;omega
 have hc0:kve a (List.replicate a.size 0):=⟨QJ,jyh hm hg hM.first⟩;obtain ⟨k,c,f1,f2,f3⟩:=find_ok hz ht (x:=kkw a) hM.first [] hc0;have hadd:qjt [] k (kkw a)=[(k,kkw a)]:=rfl;rw[hadd] at f1;have hsrc:∀ m:Nat,1≤m→m≤500→kqu s m=kqo a ts m 502 ⟨[],[],[(k,kkw a)],c⟩:=fun m m1 m2=>by
  unfold kqu;rw[h,if_pos (by rfl),ha];show zy0 a m=_;unfold zy0;rw[if_neg (by omega),if_pos (by omega),t1];show (qqx a ts (kkw a) [] (List.replicate a.size 0)).bind _=_;rw[f1];show kqo a ts (m:Int).toNat 502 _=_;rw[show (m:Int).toNat=m by omega]
 have hways:(gu ⟨[],[],[(k,kkw a)],c⟩).ways=[kkw a]:=by
  simp[gu,newF,kvt,sortL,insL,kks]
 have hsi:SInv ⟨[],[],[(k,kkw a)],c⟩:=⟨rfl,by unfold kwz;simp⟩;have hp:PInv a ⟨[],[],[(k,kkw a)],c⟩:=by
  refine ⟨hsi,?_,fun i x hi=>by simp at hi,fun i x hi hx=>?_,f2⟩
  ·rw[hways];refine ⟨⟨kkw a,rfl,rfl⟩,fun x hx=>?_,fun i x hx=>by simp at hx⟩;rw[tY] at hx;rw[hx];exact hM.first
  ·rw[hways] at hx;simp at hx
 obtain ⟨r,r1,r2⟩:=zxc hg hz ht (most:=n) 502 _ hp (by simp only[QX];omega) (by omega);refine ⟨r,by rw[hsrc n h1 h2];exact r1,?_,fun he m m1 m2=>?_⟩
 ·rcases r2 with r2|⟨e1,e2,e3⟩
  ·exact Or.inl r2
  ·exact Or.inr ⟨e1,e2,(qza _ _ _ r1 e1).2,e3⟩
 ·rw[hsrc m m1 m2];exact zqn 502 _ r hsi r1 he
end Go.Proofs.YtpmcnonmkghokaaGreatDoor
namespace Go.Proofs.YtpmcnonmkghokaaGreatDoor
open Go.RowKit
theorem vzp {s:ByteArray}(h:(kz4 s).1=0){a:Mach}(ha:qjg s=some a)(l:List ByteArray)(hl:l.length≤60)(hz:a.size≤1000000):kw8 s l=qyb a l 0 (List.replicate a.size 0):=by
 unfold kw8;rw[h];show (qjg s).bind _=_;rw[ha];show zw9 a l=_;unfold zw9;rw[if_neg (by omega),if_pos hz]
theorem qvj {v:MView}(h:endOf v=0):v.broken.length=0∧v.wrong.length=0∧kqg v=false:=by
 unfold endOf at h;split at h
 ·cases h
 ·split at h
  ·cases h
  ·split at h
   ·cases h
   ·rename_i h1 h2 h3;exact ⟨by omega,by omega,by simpa using h2⟩
theorem jjd {s:ByteArray}(h:(kz4 s).1=0){a:Mach}(ha:qjg s=some a){tr:PTree}(hM:MachOf tr a){r:SRep}(hr:RepOk a r)(he:r.end_≠0)(k:Nat)(hk:k≤r.trace.length)(hk2:k≤60):∃ v,kw8 s (r.trace.take k)=some (v,kqg v,0,0)∧(k<r.trace.length→endOf v=0)∧(k=r.trace.length→endOf v=r.end_):=by
 obtain ⟨st,v,h1,h2,h3,h4⟩:=hr.bad he;have hg:=hM.good;have hz:=hg.env.size;have key:∀ (l:List ByteArray) (st:List Int) (v:MView),l.length≤60→qjo a l (List.replicate a.size 0)=some st→lookO a st=some v→kw8 s l=some (v,kqg v,0,0):=fun l st v hl hr hv=>by
  obtain ⟨hs,hw⟩:=jxc hg [] l 0 _ st hM.first hr;have hsl:=hs.len;rw[vzp h ha l hl (by omega)];rw[lq] at hw;rw[hw,qyb,if_pos (by omega),hv];rfl
 by_cases hlt:k<r.trace.length
 ·obtain ⟨st',v',g1,g2,g3⟩:=h4 k hlt;exact ⟨v',key _ st' v' (by rw[Qo];omega) g1 g2,fun _=>g3,fun e=>by omega⟩
 ·have e:k=r.trace.length:=by omega
  subst e;rw[Qq];exact ⟨v,key _ st v hk2 h1 h2,fun e=>by omega,fun _=>h3⟩
def vvo:ByteArray:=(⟨#[115,101,116,32,112,32,51,59,32,107,105,110,100,32,109,111,100,101,32,123,32,105,100,108,101,44,32,98,117,115,121,44,32,99,114,105,116,32,125,32,118,97,114,32,115,116,32,58,32,91,112,93,32,109,111,100,101,59,32,118,97,114,32,111,119,110,32,58,32,112,59,10,114,117,108,101,32,97,115,107,40,105,32,58,32,112,41,32,105,102,32,115,116,91,105,93,32,61,61,32,105,100,108,101,32,123,32,115,116,91,105,93,32,61,32,98,117,115,121,59,32,125,32,114,117,108,101,32,103,101,116,40,105,32,58,32,112,41,32,105,102,32,115,116,91,105,93,32,61,61,32,98,117,115,121]⟩:ByteArray)
def vwz:ByteArray:=(⟨#[32,38,32,111,119,110,32,61,61,32,110,111,110,101]⟩:ByteArray)
def vvf:ByteArray:=(⟨#[32,123,32,115,116,91,105,93,32,61,32,99,114,105,116,59,32,111,119,110,32,61,32,105,59,32,125,32,114,117,108,101,32,112,117,116,40,105,32,58,32,112,41,32,105,102,32,115,116,91,105,93,32,61,61,32,99,114,105,116,32,123,32,115,116,91,105,93,32,61,32,105,100,108,101,59,32,111,119,110,32,61,32,110,111,110,101,59,32,125,10,110,101,118,101,114,32,98,111,116,104,40,105,32,58,32,112,44,32,106,32,58,32,112,41,32,105,32,33,61,32,106,32,38,32,115,116,91,105,93,32,61,61,32,99,114,105,116,32,38,32,115,116,91,106,93,32,61,61,32,99,114,105,116,59]⟩:ByteArray)
def mtx:ByteArray:=(vvo++vwz)++vvf
def jxa:ByteArray:=(⟨#[115,101,116,32,112,32,52,59]⟩:ByteArray)
def qwh:ByteArray:=(⟨#[97,115,107,40,49,41]⟩:ByteArray)
def getOne:ByteArray:=(⟨#[103,101,116,40,49,41]⟩:ByteArray)
theorem jw2:kz4 mtx=(0,0):=by decide +kernel
theorem jx1:kz4 jxa=(3,8):=by decide +kernel
theorem vql:(match kw8 mtx [qwh,getOne] with|some r=>(r.1.text.toList==[91,105,100,108,101,32,99,114,105,116,32,105,100,108,101,93,32,49])&&((r.1.enabled.map (·.toList))==[[97,115,107,40,48,41],[97,115,107,40,50,41],[112,117,116,40,49,41]])&&(r.1.wrong.length==0)&&(r.1.broken.length==0)&&(r.2.1==false)&&(r.2.2.1==0)&&(r.2.2.2==0)|none=>false)=true:=by decide +kernel
theorem jzb:∃ r,kw8 mtx [qwh,getOne]=some r∧r.1.text.toList=[91,105,100,108,101,32,99,114,105,116,32,105,100,108,101,93,32,49]∧r.1.enabled.map (·.toList)=[[97,115,107,40,48,41],[97,115,107,40,50,41],[112,117,116,40,49,41]]∧r.1.wrong=[]∧r.1.broken=[]∧r.2.1=false∧r.2.2.1=0∧r.2.2.2=0:=by
 have h:=vql;cases hp:kw8 mtx [qwh,getOne] with
 | none=>rw[hp] at h;cases h
 | some r=>
  rw[hp] at h;simp only[wG,rZ] at h;obtain ⟨⟨⟨⟨⟨⟨h1,h2⟩,h3⟩,h4⟩,h5⟩,h6⟩,h7⟩:=h;exact ⟨r,rfl,h1,h2,sG h3,sG h4,h5,h6,h7⟩
end Go.Proofs.YtpmcnonmkghokaaGreatDoor
namespace Go.Proofs.YtpmcnonmkghokaaGreatDoor
open Go.RowKit
attribute [local go_sem ↓] Go.wp_at_zero Go.wp_at_succ
theorem zjw (w:World):Calls Tryz.prog 39 #[.bool true] w fun e w'=>e=.returned (.string mtx)∧w'=w:=by
 go_enter Tryz.func39,Tryz.ntmps39
 go_wp2
 go_ret
 exact ⟨rfl,rfl⟩
def kz9 (c:Int)(n:Nat):Nat:=((if c<0 then -(c+1) else c) % n).toNat
theorem pick_any (c:Int)(n:Nat)(w:World)(h0:-9223372036854775808≤c)(h1:c≤9223372036854775807)(hn:0<n)(hn2:n≤1000000):Calls Tryz.prog 19 #[.int .i64 c,.int .i64 n] w fun e w'=>e=.returned (.int .i64 (kz9 c n))∧kz9 c n<n∧w'=w:=by
 have hnz:((n:Int)==0)=false:=by simp;omega
 have hnz':¬((n:Int)=0):=by omega
 by_cases hc:c<0
 ·have e:(kz9 c n:Int)=(-(c+1)).tmod n:=by
   rw[kz9,if_pos hc,Ju (Jw _ (by omega)),Jb (by omega)]
  have hlt:kz9 c n<n:=by
   have:=JU (-(c+1)) (b:=(n:Int)) (by omega);have h3:=Jw (-(c+1)) (b:=(n:Int)) (by omega);rw[kz9,if_pos hc];omega
  have w1:IntKind.i64.wrap (c+1)=c+1:=by rw[Qj];omega
  have w2:IntKind.i64.wrap (-(c+1))=-(c+1):=by rw[Qj];omega
  have w3:IntKind.i64.wrap (-1+-c)=-1+-c:=by rw[Qj];omega
  have w4:IntKind.i64.wrap ((-(c+1)).tmod n)=(-(c+1)).tmod n:=by rw[←e,Qj];omega
  have HE:=hide e.symm;have HL:=hide hlt;clear e hlt;go_enter Tryz.func19,Tryz.ntmps19
  go_wp2
  go_ret
  exact ⟨kvv (by rw[←ku HE,Int.neg_tmod]),ku HL,rfl⟩
 ·have e:(kz9 c n:Int)=c.tmod n:=by
   rw[kz9,if_neg hc,Ju (Jw _ (by omega)),Jb (by omega)]
  have hlt:kz9 c n<n:=by
   have:=JU c (b:=(n:Int)) (by omega);have h3:=Jw c (b:=(n:Int)) (by omega);rw[kz9,if_neg hc];omega
  have w4:IntKind.i64.wrap (c.tmod n)=c.tmod n:=by rw[←e,Qj];omega
  have HE:=hide e.symm;have HL:=hide hlt;clear e hlt;go_enter Tryz.func19,Tryz.ntmps19
  go_wp2
  go_ret
  exact ⟨kvv (by rw[←ku HE,Jb (by omega)]),ku HL,rfl⟩
theorem str_eq {a:ByteArray}{l:List UInt8}(h:a.toList=l)(b:ByteArray)(hb:b.toList=l):a=b:=zve (h.trans hb.symm)
theorem qxq (w:World):Calls Tryz.prog 15 #[] w fun e w'=>e=.returned (.bool true)∧Below w.heap.size w w':=by
 obtain ⟨r,hp,h1,h2,h3,h4,h5,h6,h7⟩:=jzb;have htxt:r.1.text=⟨#[91,105,100,108,101,32,99,114,105,116,32,105,100,108,101,93,32,49]⟩:=str_eq h1 _ (by decide +kernel);have hel:r.1.enabled.length=3:=by have:=congrArg List.length h2;simpa using this
 have he2:r.1.enabled[2]?=some ⟨#[112,117,116,40,49,41]⟩:=by
  have h9:(r.1.enabled.map (·.toList))[2]?=some [112,117,116,40,49,41]:=by rw[h2];rfl
  rw[sW] at h9;obtain ⟨x,hx,hx2⟩:=tu.mp h9;rw[hx,str_eq hx2 ⟨#[112,117,116,40,49,41]⟩ (by decide +kernel)]
 have HMT:=hide zjw;have HC1:=hide (fun wx=>(show Calls Tryz.prog 16 #[.string mtx] wx fun e w'=>e=.returned (.tuple #[.int .i64 0,.int .i64 0])∧Below wx.heap.size wx w' from by have:=check_any mtx wx;rw[jw2] at this;exact this));have HC2:=hide (fun wx=>(show Calls Tryz.prog 16 #[.string ⟨#[115,101,116,32,112,32,52,59]⟩] wx fun e w'=>e=.returned (.tuple #[.int .i64 3,.int .i64 8])∧Below wx.heap.size wx w' from by have:=check_any jxa wx;rw[jx1] at this;exact this));have HPL:=hide (fun (wx:World) (pa:Option Addr) (pn pc:Nat) (ho:wx.ownsRow 0 9 1 (.slice pa pn pc) 2 [.string qwh,.string getOne])=>qv2 mtx wx [qwh,getOne] pa pn pc ho (by simp) r hp);clear hp h1 h2;generalize mtx=mm at *;go_enter Tryz.func15,Tryz.ntmps15
 go_wp2_with fail
 refine ((ku HMT) _).mono ?_;rintro e w0 ⟨rfl,rfl⟩;go_wp2_with fail
 refine ((ku HC1) _).mono ?_;rintro e w1 ⟨rfl,hb1⟩;have HB1:=hide hb1;have hs1:=hb1.size;clear hb1;go_wp2_with fail
 refine ((ku HC2) _).mono ?_;rintro e w2 ⟨rfl,hb2⟩;have HB2:=hide ((ku HB1).trans (hb2.mono hs1));have hs2:=hb2.size;clear hb2;go_wp2_with fail
 refine ((ku HMT) _).mono ?_;rintro e w3 ⟨rfl,rfl⟩;have HST:=hide (show (w3.alloc (.cells #[.string ⟨#[97,115,107,40,49,41]⟩,.string ⟨#[103,101,116,40,49,41]⟩] 9)).ownsRow 0 9 1 (.slice (some ⟨w3.heap.size,0,none⟩) 2 2) 2 [.string qwh,.string getOne] from ⟨rfl,Or.inr ⟨w3.heap.size,2,_,rfl,rG _,qg _ _,wX _,by unfold maxLen;omega,rfl,rfl⟩⟩);have HB3:=hide ((ku HB2).alloc (by omega) (.cells #[.string ⟨#[97,115,107,40,49,41]⟩,.string ⟨#[103,101,116,40,49,41]⟩] 9));go_wp2_with fail
 refine ((ku HPL) _ _ _ _ (ku HST)).mono ?_;rintro e w4 ⟨ea,en,ec,wa,wn,wc,ba,bn,bc,rfl,hp1,hp2,hp3,hb4⟩;rw[h3] at hp2;rw[h4] at hp3;rw[h5,h6,h7,htxt];obtain ⟨za,zc,ez,hv⟩:=qm hp1;injection ez with ez1 ez2 ez3;subst ez1;subst ez2;subst ez3;obtain ⟨g,rfl,hg1,hg2,hc⟩:=hv 2 (by omega);have e2:w4.cell? ⟨g,2,none⟩=some (.string ⟨#[112,117,116,40,49,41]⟩):=by rw[hc 2 (by omega),sW,he2];rfl
 obtain ⟨za,zc,ez,_⟩:=qm hp2;injection ez with ez1 ez2 ez3;subst ez1;subst ez2;subst ez3;obtain ⟨za,zc,ez,_⟩:=qm hp3;injection ez with ez1 ez2 ez3;subst ez1;subst ez2;subst ez3;rw[hel];have hs4:=hb4.size;have HB4:=hide ((ku HB3).trans (hb4.mono (by simp;omega)));clear hp1 hp2 hp3 hb4 hc hv HPL HC1 HC2 HMT;simp only[QX];go_wp2
 go_ret
 exact ⟨rfl,(ku HB4).alloc (by simp at hs4;omega) _⟩
end Go.Proofs.YtpmcnonmkghokaaGreatDoor

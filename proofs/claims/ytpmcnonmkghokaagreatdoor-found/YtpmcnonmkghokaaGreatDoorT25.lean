import Derived.Test.YtpmcnonmkghokaaGreatDoorT24
import Derived.Test.YtpmcnonmkghokaaGreatDoorT23
import Derived.Test.YtpmcnonmkghokaaGreatDoorT21
set_option linter.unusedVariables false
set_option linter.unusedSimpArgs false
namespace Go.Proofs.YtpmcnonmkghokaaGreatDoor
open Go.RowKit
def kwz (f:Fnd):Prop:=(f.map fun y=>y.1).Nodup
theorem vxx {f:Fnd}(h:kwz f)(k:List Int)(x:SWay):kwz (qjt f k x):=by
 unfold qjt;split
 ·exact h
 ·rename_i hn;unfold kwz;rw[sJ,Qp];refine ⟨h,by simp,?_⟩;intro a ha b hb e;simp at hb;subst hb;subst e;obtain ⟨y,hy,hy2⟩:=su.mp ha;exact hn (l9.2 ⟨y,hy,by simp[hy2]⟩)
theorem vxk (f:Fnd)(k:List Int)(x:SWay):f.length≤(qjt f k x).length:=by
 unfold qjt;split<;>simp
theorem zkm {a:Mach}{ts:List Turn}{x:SWay}{f:Fnd}{c:List Int}{q:Fnd × List Int}(h:qqx a ts x f c=some q):f.length≤q.1.length∧(kwz f→kwz q.1):=by
 unfold qqx at h;split at h
 ·obtain ⟨r,_,h⟩:=wJ.mp h;split at h
  ·injection h with h;subst h;exact ⟨vxk _ _ _,fun hf=>vxx hf _ _⟩
  ·cases h
 ·cases h
theorem kvg {a:Mach}{ts:List Turn}{most at_:Nat}{st:List Int}:∀ (l:List MStep) (f:Fnd) (c:List Int) (q:Fnd × List Int × Bool),kjs a ts most at_ st l f c=some q→f.length≤q.1.length∧(kwz f→kwz q.1)∧(q.2.2=true→most<q.1.length)
 | [],f,c,q,h=>by rw[kjs] at h;injection h with h;subst h;exact ⟨wX _,id,by simp⟩
 | s::l,f,c,q,h=>by
  rw[kjs] at h;obtain ⟨r,_,h⟩:=wJ.mp h;split at h
  ·obtain ⟨p,hp,h⟩:=wJ.mp h;obtain ⟨g1,g2⟩:=zkm hp;split at h
   ·rename_i hm;injection h with h;subst h;exact ⟨g1,g2,fun _=>hm⟩
   ·obtain ⟨i1,i2,i3⟩:=kvg l _ _ q h;exact ⟨rQ g1 i1,fun hf=>i2 (g2 hf),i3⟩
  ·exact kvg l _ _ q h
theorem qk4 {a:Mach}{ts:List Turn}{n m at_:Nat}{st:List Int}:∀ (l:List MStep) (f:Fnd) (c:List Int) (g:Fnd) (d:List Int),kjs a ts n at_ st l f c=some (g,d,false) →
  (g.length≤m→kjs a ts m at_ st l f c=some (g,d,false))∧(m<g.length→f.length≤m→∃ g' d',kjs a ts m at_ st l f c=some (g',d',true)∧m<g'.length∧g'.length≤g.length)
 | [],f,c,g,d,h=>by
  rw[kjs] at h;injection h with h;injection h with h1 h2;subst h1;refine ⟨fun _=>by rw[kjs];exact congrArg some (by rw[h2]),fun h1 h2=>by omega⟩
 | s::l,f,c,g,d,h=>by
  rw[kjs] at h;obtain ⟨r,hr,h⟩:=wJ.mp h;rw[kjs,hr];simp only[lK];split at h
  ·rename_i h1;rw[if_pos h1];obtain ⟨p,hp,h⟩:=wJ.mp h;obtain ⟨g1,g2⟩:=zkm hp;rw[hp];simp only[lK];split at h
   ·injection h with h;injection h with _ h;injection h with _ h;cases h
   ·obtain ⟨i1,i2,_⟩:=kvg l _ _ _ h;obtain ⟨j1,j2⟩:=qk4 (m:=m) l _ _ _ _ h;refine ⟨fun hg=>?_,fun hg hf=>?_⟩
    ·rw[if_neg (by simp only at i1;omega)];exact j1 hg
    ·by_cases hp2:m<p.1.length
     ·rw[if_pos hp2];exact ⟨p.1,p.2,rfl,hp2,i1⟩
     ·rw[if_neg hp2];exact j2 hg (by omega)
  ·rename_i h1;rw[if_neg h1];exact qk4 l _ _ _ _ h
theorem kvp {a:Mach}{ts:List Turn}{most:Nat}:∀ (l:List SWay) (at_:Nat) (f:Fnd) (c:List Int) (q:Fnd × List Int),kj9 a ts most l at_ f c=some q→f.length≤q.1.length∧(kwz f→kwz q.1)
 | [],at_,f,c,q,h=>by rw[kj9] at h;injection h with h;subst h;exact ⟨wX _,id⟩
 | x::l,at_,f,c,q,h=>by
  rw[kj9] at h;split at h
  ·obtain ⟨p,hp,h⟩:=wJ.mp h;obtain ⟨g1,g2,_⟩:=kvg _ _ _ _ hp;split at h
   ·injection h with h;subst h;exact ⟨g1,g2⟩
   ·obtain ⟨i1,i2⟩:=kvp l _ _ _ q h;exact ⟨rQ g1 i1,fun hf=>i2 (g2 hf)⟩
  ·cases h
theorem zqu {a:Mach}{ts:List Turn}{n m:Nat}:∀ (l:List SWay) (at_:Nat) (f:Fnd) (c:List Int) (q:Fnd × List Int),kj9 a ts n l at_ f c=some q→q.1.length≤n →
  (q.1.length≤m→kj9 a ts m l at_ f c=some q)∧(m<q.1.length→f.length≤m→∃ q',kj9 a ts m l at_ f c=some q'∧m<q'.1.length∧q'.1.length≤q.1.length)
 | [],at_,f,c,q,h,_=>by
  rw[kj9] at h;injection h with h;subst h;exact ⟨fun _=>by rw[kj9],fun h1 h2=>by simp only at h1;omega⟩
 | x::l,at_,f,c,q,h,hn=>by
  rw[kj9] at h;rw[kj9];split at h
  ·rename_i hx;rw[if_pos hx];obtain ⟨p,hp,h⟩:=wJ.mp h;obtain ⟨p1,p2,p3⟩:=p;obtain ⟨_,_,g3⟩:=kvg _ _ _ _ hp;simp only at h g3;split at h
   ·rename_i hs;injection h with h;subst h;have:=g3 hs;simp only at hn;omega
   ·rename_i hs;rw[Bool.not_eq_true] at hs;subst hs;obtain ⟨i1,_⟩:=kvp l _ _ _ q h;obtain ⟨j1,j2⟩:=qk4 (m:=m) _ _ _ _ _ hp;obtain ⟨k1,k2⟩:=zqu (m:=m) l _ _ _ q h hn;refine ⟨fun hm=>?_,fun hm hf=>?_⟩
    ·rw[j1 (by omega)];exact k1 hm
    ·by_cases hp1:m<p1.length
     ·obtain ⟨g',d',e1,e2,e3⟩:=j2 hp1 hf;rw[e1];exact ⟨(g',d'),rfl,e2,rQ e3 i1⟩
     ·rw[j1 (by omega)];exact k2 hm (by omega)
  ·cases h
theorem zyw {α:Type}[BEq α][LawfulBEq α]:∀ (l s:List α),l.Nodup→(∀ x∈l,x∈s)→l.length≤s.length
 | [],_,_,_=>rG _
 | x::l,s,h,hs=>by
  rw[Qb] at h;have h1:=zyw l (s.erase x) h.2 (fun y hy=>by
   have hne:y≠x:=fun e=>h.1 (e ▸ hy)
   exact (List.mem_erase_of_ne hne).2 (hs y (rJ _ hy)))
  have hx:=hs x (rY ..);rw[List.length_erase_of_mem hx] at h1;have:=Zw hx;rw[nX];omega
theorem zkz (f:Fnd):(kvt f).length=f.length:=by unfold kvt;rw[kx3,ni]
structure SInv (s:SSt):Prop where
 len:s.ways.length=s.seen.length
 nd:kwz s.found
theorem qx4 (s:SSt):(gu s).ways.length=s.ways.length+(newF s.seen s.found).length:=by
 show (s.ways++(kvt (newF s.seen s.found)).map (kks (newF s.seen s.found))).length=_;rw[wB,ni,zkz]
theorem jwx (s:SSt):(gu s).seen.length=s.seen.length+(newF s.seen s.found).length:=by
 show (s.seen++kvt (newF s.seen s.found)).length=_;rw[wB,zkz]
theorem zjr {s:SSt}(h:SInv s){f:Fnd}{c:List Int}(hf:kwz f):SInv ⟨(gu s).ways,(gu s).seen,f,c⟩:=
 ⟨by show (gu s).ways.length=(gu s).seen.length;rw[qx4,jwx,h.len],hf⟩
theorem qyy {α:Type}(p:α→Bool):∀ l:List α,l.length=(l.filter p).length+(l.filter fun x=>!p x).length
 | []=>rfl
 | x::l=>by
  have:=qyy p l;cases h:p x<;>simp[Jj,h]<;>omega
theorem jkd {s:SSt}(h:SInv s):s.found.length≤(gu s).ways.length:=by
 rw[qx4,h.len];have h1:=qyy (fun y:List Int × SWay=>s.seen.any fun k=>k==y.1) s.found;have h2:(s.found.filter fun y=>s.seen.any fun k=>k==y.1).length≤s.seen.length:=by
  have:=zyw ((s.found.filter fun y=>s.seen.any fun k=>k==y.1).map fun y=>y.1) s.seen (((JV (p:=fun y:List Int × SWay=>s.seen.any fun k=>k==y.1) (l:=s.found)).map _).nodup h.nd) (fun x hx=>by
   obtain ⟨y,hy,rfl⟩:=su.mp hx;obtain ⟨k,hk,e⟩:=l9.1 (Qy.mp hy).2;rw[rZ] at e;exact e ▸ hk)
  rwa [ni] at this
 unfold newF;omega
theorem kvj {s:SSt}{k:Nat}{e:Int}{r:SRep}(h:qzv s k e=some r):r.orbits=s.ways.length∧r.err=0∧r.end_=e:=by
 unfold qzv at h;obtain ⟨l,_,rfl⟩:=tu.mp h;exact ⟨rfl,rfl,rfl⟩
theorem qza {a:Mach}{ts:List Turn}{n:Nat}:∀ (fuel:Nat) (s:SSt) (r:SRep),kqo a ts n fuel s=some r→r.err=0→(gu s).ways.length≤r.orbits∧r.orbits≤n
 | 0,s,r,h,_=>by rw[kqo] at h;cases h
 | k+1,s,r,h,he=>by
  rw[kqo] at h;split at h
  ·injection h with h;subst h;cases he
  ·rename_i hn;split at h
   ·obtain ⟨e1,_⟩:=kvj h;rw[e1];omega
   ·obtain ⟨x,_,h⟩:=wJ.mp h;split at h
    ·obtain ⟨q,hq,h⟩:=wJ.mp h;have:=qza k _ r h he;rw[qx4 ⟨_,_,_,_⟩] at this;simp only at this;omega
    ·obtain ⟨e1,_⟩:=kvj h;rw[e1];omega
theorem zqn {a:Mach}{ts:List Turn}{n m:Nat}:∀ (fuel:Nat) (s:SSt) (r:SRep),SInv s→kqo a ts n fuel s=some r→r.err=0→(r.orbits≤m→kqo a ts m fuel s=some r)∧(m<r.orbits→kqo a ts m fuel s=some (kxw 9))
 | 0,s,r,_,h,_=>by rw[kqo] at h;cases h
 | k+1,s,r,hi,h,he=>by
  have hlo:=qza _ _ _ h he;rw[kqo] at h;rw[kqo];rw[if_neg (by omega)] at h;by_cases hm:m<(gu s).ways.length
  ·rw[if_pos hm];exact ⟨fun _=>by omega,fun _=>rfl⟩
  ·rw[if_neg hm];split at h
   ·rename_i h1;rw[if_pos h1];obtain ⟨e1,_⟩:=kvj h;exact ⟨fun _=>h,fun _=>by omega⟩
   ·rename_i h1;rw[if_neg h1];obtain ⟨x,hx,h⟩:=wJ.mp h;rw[hx];simp only[lK];split at h
    ·rename_i h2;rw[if_pos h2];obtain ⟨q,hq,h⟩:=wJ.mp h;have hnd:=(kvp _ _ _ _ _ hq).2 (by unfold kwz;simp);have hi':=zjr hi (f:=q.1) (c:=q.2) hnd;have g1:=jkd hi';have g2:=qza _ _ _ h he;simp only at g1;obtain ⟨c1,c2⟩:=zqu (m:=m) _ _ _ _ _ hq (by omega);obtain ⟨j1,j2⟩:=zqn (m:=m) k _ r hi' h he;by_cases hqm:q.1.length≤m
     ·rw[c1 hqm];exact ⟨j1,j2⟩
     ·refine ⟨fun _=>by omega,fun _=>?_⟩;obtain ⟨q',e1,e2,e3⟩:=c2 (by omega) (by simp);rw[e1];have hnd':=(kvp _ _ _ _ _ e1).2 (by unfold kwz;simp);have g3:=jkd (zjr hi (f:=q'.1) (c:=q'.2) hnd');simp only at g3;cases k with
      | zero=>rw[kqo] at h;cases h
      | succ k=>
       show kqo a ts m (k+1) ⟨_,_,q'.1,q'.2⟩=_;rw[kqo,if_pos (by omega)]
    ·rename_i h2;rw[if_neg h2];obtain ⟨e1,_⟩:=kvj h;exact ⟨fun _=>h,fun _=>by omega⟩
end Go.Proofs.YtpmcnonmkghokaaGreatDoor
namespace Go.Proofs.YtpmcnonmkghokaaGreatDoor
open Go.RowKit
structure VIn (ksz ssz:List UInt8→Nat)(B:Nat)(ty:VT)(x:Int):Prop where
 tru:ty.fam=1→x=0∨x=1
 num:ty.fam=2→-(B:Int)≤x∧x≤B
 kin:ty.fam=3→0≤x∧x<ksz ty.name.toList
 set:ty.fam=4→0≤x∧x≤ssz ty.name.toList
 non:ty.fam=5→x=0
 fam:ty.fam=1∨ty.fam=2∨ty.fam=3∨ty.fam=4∨ty.fam=5
structure MvOk (tab:Tab)(ksz ssz:List UInt8→Nat)(size:Nat)(v:MVar)(d:VrT):Prop where
 fit:v.first+v.count≤size
 cnt:v.count=if d.arr then ssz d.over.text.toList else 1
 pos:1≤v.count
 few:v.texts.length≤200
 tru:(kxn tab d.si).fam=1→v.texts.length=2
 kin:(kxn tab d.si).fam=3→v.texts.length=ksz (kxn tab d.si).name.toList
 set:(kxn tab d.si).fam=4→v.texts.length=ssz (kxn tab d.si).name.toList+1
structure EnvOk (tab:Tab)(vars:List MVar)(mt:uw)(ksz ssz:List UInt8→Nat)(size:Nat):Prop where
 mem:∀ s,(zk tab s).role=3→(kje mt s).isVar=false∧(kje mt s).num<ksz (zk tab s).kind.toList
 var:∀ s,(zk tab s).role=4→(kje mt s).isVar=true∧∃ v,vars[(kje mt s).num]?=some v∧MvOk tab ksz ssz size v (zk tab s).var
 arr:∀ s,(zk tab s).var.arr=true→(zk tab s).role=4
 kb:∀ s,ksz s≤1000
 sb:∀ s,ssz s≤1000
 size:size≤1000
structure kjc (vars:List MVar)(size:Nat)(st:List Int):Prop where
 len:st.length=size
 val:∀ v∈vars,∀ j,j<v.count→∃ x,st[v.first+j]?=some x∧0≤x∧x<v.texts.length
structure ParOk (ssz:List UInt8→Nat)(l:List PP)(ms:List Int):Prop where
 len:ms.length=l.length
 val:∀ i (hi:i<l.length) (hm:i<ms.length),0≤ms[i]∧ms[i]<ssz l[i].set_.text.toList
theorem kzt {x:Int}(h1:-1000000000≤x)(h2:x≤1000000000):small x=some x:=by
 unfold small;rw[ny h1,ny h2];rfl
theorem vxe:∀ (l:List PP) (s:List UInt8),fpB l s=true→∃ h:qjm l s<l.length,l[qjm l s]=fpP l s
 | [],s,h=>by simp[fpB] at h
 | p::l,s,h=>by
  cases hp:(p.name.text.toList==s)
  ·have h2:fpB l s=true:=by unfold fpB at h ⊢;rw[Qs,hp] at h;exact h
   obtain ⟨q1,q2⟩:=vxe l s h2;have e:qjm (p::l) s=qjm l s+1:=by rw[qjm,hp];rfl
   refine ⟨by rw[e];simpa using q1,?_⟩;rw[fpP,hp];simp only[e,Qd];exact q2
  ·have e:qjm (p::l) s=0:=by rw[qjm,hp];rfl
   refine ⟨by rw[e];simp,?_⟩;rw[fpP,hp];simp only[e,fG];rfl
theorem vvc (tab:Tab)(x:SiT):(kxn tab x).fam=1∨(kxn tab x).fam=2∨(kxn tab x).fam=3∨(kxn tab x).fam=4:=by
 unfold kxn;split
 ·exact Or.inl rfl
 ·split
  ·exact Or.inr (Or.inl rfl)
  ·split
   ·exact Or.inr (Or.inr (Or.inr rfl))
   ·exact Or.inr (Or.inr (Or.inl rfl))
theorem vxt {tab:Tab}{ksz ssz:List UInt8→Nat}{size:Nat}{v:MVar}{d:VrT}(h:MvOk tab ksz ssz size v d){x:Int}(h0:0≤x)(h1:x<v.texts.length):VIn ksz ssz 200 (kxn tab d.si) x:=by
 have hf:=h.few;refine ⟨fun e=>?_,fun e=>by omega,fun e=>?_,fun e=>?_,fun e=>?_,?_⟩
 ·have:=h.tru e;omega
 ·have:=h.kin e;omega
 ·have:=h.set e;omega
 ·rcases vvc tab d.si with q|q|q|q<;>rw[q] at e<;>cases e
 ·rcases vvc tab d.si with q|q|q|q
  ·exact Or.inl q
  ·exact Or.inr (Or.inl q)
  ·exact Or.inr (Or.inr (Or.inl q))
  ·exact Or.inr (Or.inr (Or.inr (Or.inl q)))
theorem VIn.mono {ksz ssz:List UInt8→Nat}{B B':Nat}{ty:VT}{x:Int}(h:VIn ksz ssz B ty x)(hb:B≤B'):VIn ksz ssz B' ty x:=
 ⟨h.tru,fun e=>by have:=h.num e;omega,h.kin,h.set,h.non,h.fam⟩
theorem VIn.small {ksz ssz:List UInt8→Nat}{B:Nat}{ty:VT}{x:Int}(h:VIn ksz ssz B ty x)(hk:∀ s,ksz s≤1000)(hs:∀ s,ssz s≤1000)(hb:B≤1000000):-1000000≤x∧x≤1000000:=by
 rcases h.fam with e|e|e|e|e
 ·have:=h.tru e;omega
 ·have:=h.num e;omega
 ·have:=h.kin e;have:=hk ty.name.toList;omega
 ·have:=h.set e;have:=hs ty.name.toList;omega
 ·have:=h.non e;omega
variable {tab:Tab} {vars:List MVar} {mt:uw} {ksz ssz:List UInt8→Nat} {size:Nat} {l:List PP} {ms st:List Int}
theorem jyn (he:EnvOk tab vars mt ksz ssz size)(hp:ParOk ssz l ms)(hs:kjc vars size st)(n:Tok)(ht:(kk0 tab l n).fam≠0):∃ x,jjl vars mt l ms st n.text.toList=some x∧VIn ksz ssz 200 (kk0 tab l n) x:=by
 cases hf:fpB l n.text.toList
 ·cases h3:((zk tab n.text.toList).role==3)
  ·cases h4:((zk tab n.text.toList).role==4&&!(zk tab n.text.toList).var.arr)
   ·exact absurd (by unfold kk0;rw[hf,h3,h4];rfl) ht
   ·have hT:kk0 tab l n=kxn tab (zk tab n.text.toList).var.si:=by unfold kk0;rw[hf,h3,h4];rfl
    rw[wG,rZ,lQ] at h4;obtain ⟨hv,v,hv1,hv2⟩:=he.var _ h4.1;obtain ⟨x,hx,h0,h1⟩:=hs.val v (nU hv1) 0 (by have:=hv2.pos;omega);rw[nP] at hx;have hfew:=hv2.few;refine ⟨x,?_,by rw[hT];exact vxt hv2 h0 h1⟩;unfold jjl;rw[hf,hv,hv1];show (st[v.first]?).bind small=some x;rw[hx];exact kzt (by omega) (by omega)
  ·have hT:kk0 tab l n=⟨3,(zk tab n.text.toList).kind⟩:=by unfold kk0;rw[hf,h3];rfl
   rw[rZ] at h3;obtain ⟨hv,hk⟩:=he.mem _ h3;refine ⟨(kje mt n.text.toList).num,by unfold jjl;rw[hf,hv];rfl,?_⟩;rw[hT];exact ⟨fun e=>by simp at e,fun e=>by simp at e,fun _=>⟨by omega,by show _<((ksz (zk tab n.text.toList).kind.toList:Nat):Int);omega⟩,fun e=>by simp at e,fun e=>by simp at e,by simp⟩
 ·have hT:kk0 tab l n=⟨4,(fpP l n.text.toList).set_.text⟩:=by unfold kk0;rw[hf];rfl
  obtain ⟨q1,q2⟩:=vxe l _ hf;have hm:qjm l n.text.toList<ms.length:=by rw[hp.len];exact q1
  obtain ⟨h0,h1⟩:=hp.val _ q1 hm;rw[q2] at h1;have hb:=he.sb (fpP l n.text.toList).set_.text.toList;refine ⟨ms[qjm l n.text.toList]+1,?_,?_⟩
  ·unfold jjl;rw[hf,wW hm];show (small ms[qjm l n.text.toList]).map (·+1)=_;rw[kzt (by omega) (by omega)];rfl
  ·rw[hT];exact ⟨fun e=>by simp at e,fun e=>by simp at e,fun e=>by simp at e,fun _=>⟨by omega,by show _≤((ssz (fpP l n.text.toList).set_.text.toList:Nat):Int);omega⟩,fun e=>by simp at e,by simp⟩
theorem vk2 (he:EnvOk tab vars mt ksz ssz size)(hp:ParOk ssz l ms)(hs:kjc vars size st)(v:MVar)(d:VrT)(hv:MvOk tab ksz ssz size v d)(i:Tok)(hi:(i.kind.toList==[])=false→d.arr=true∧zx3 tab l i d.over=true):∃ j w,atO vars mt l ms st v i=some ((v.first:Int)+(j:Nat),w)∧j<v.count:=by
 unfold atO;have hfit:=hv.fit;have hsz:=he.size;cases hk:(i.kind.toList==[])
 ·obtain ⟨ha,hx⟩:=hi hk;rw[if_neg (by simp)];unfold zx3 at hx;rw[wG,rZ,rZ] at hx;obtain ⟨x,h1,h2⟩:=jyn he hp hs i (by rw[hx.1];decide);have hr:=h2.set hx.1;rw[hx.2] at hr;have hc:=hv.cnt;rw[ha,if_pos rfl] at hc;have hb:=he.sb d.over.text.toList;rw[h1];show ∃ j w,(if x==0 then some ((v.first:Int),true) else (small x).bind fun _=>(small v.first).map fun _=>((v.first:Int)+x-1,false))=some ((v.first:Int)+(j:Nat),w)∧j<v.count;cases h0:(x==0)
  ·have hx0:x≠0:=by simpa using h0
   refine ⟨x.toNat-1,false,?_,by omega⟩;rw[kzt (by omega) (by omega),kzt (by omega) (by omega)];show some ((v.first:Int)+x-1,false)=_;congr 2
   omega
  ·exact ⟨0,true,by simp,hv.pos⟩
 ·exact ⟨0,false,by simp,hv.pos⟩
theorem vkr (he:EnvOk tab vars mt ksz ssz size)(hp:ParOk ssz l ms)(hs:kjc vars size st)(n i:Tok)(ht:(kwb tab l n i).fam≠0):∃ r,zy9 vars mt l ms st n i=some r∧VIn ksz ssz 200 (kwb tab l n i) r.1:=by
 cases hk:(i.kind.toList==[])
 ·cases ha:(zk tab n.text.toList).var.arr
  ·exact absurd (by unfold kwb;rw[hk,ha];rfl) ht
  ·cases hx:zx3 tab l i (zk tab n.text.toList).var.over
   ·exact absurd (by unfold kwb;rw[hk,ha,hx];rfl) ht
   ·have hT:kwb tab l n i=kxn tab (zk tab n.text.toList).var.si:=by unfold kwb;rw[hk,ha,hx];rfl
    obtain ⟨_,v,hv1,hv2⟩:=he.var _ (he.arr _ ha);obtain ⟨j,w,h1,h2⟩:=vk2 he hp hs v _ hv2 i (fun _=>⟨ha,hx⟩);obtain ⟨x,hx1,hx2,hx3⟩:=hs.val v (nU hv1) j h2;have hfew:=hv2.few;refine ⟨(x,w),?_,by rw[hT];exact vxt hv2 hx2 hx3⟩;unfold zy9;rw[hk,if_neg (by simp),hv1];show (atO vars mt l ms st v i).bind _=_;rw[h1];show (if (v.first:Int)+(j:Nat)<0 then none else (st[((v.first:Int)+(j:Nat)).toNat]?).bind fun x=>(small x).map fun y=>(y,w))=_;rw[if_neg (by omega),show ((v.first:Int)+(j:Nat)).toNat=v.first+j by omega,hx1];show (small x).map _=_;rw[kzt (by omega) (by omega)];rfl
 ·have hT:kwb tab l n i=kk0 tab l n:=by unfold kwb;rw[hk];rfl
  rw[hT] at ht ⊢;obtain ⟨x,h1,h2⟩:=jyn he hp hs n ht;refine ⟨(x,false),?_,h2⟩;unfold zy9;rw[hk,if_pos rfl,h1];rfl
def kzu:PX→Nat
 | .nil=>0
 | .node _ _ _ a c=>kzu a+kzu c+1
def zx9:PX→Prop
 | .nil=>True
 | .node _ _ x a c=>((opN x.op.toList==3)=true→0≤x.n∧x.n≤9)∧zx9 a∧zx9 c
theorem zv2 (ksz ssz:List UInt8→Nat)(B:Nat)(c:Bool):VIn ksz ssz B ⟨1,⟨#[]⟩⟩ (zqz c):=
 ⟨fun _=>by cases c;exact Or.inl rfl;exact Or.inr rfl,fun e=>by simp at e,fun e=>by simp at e,fun e=>by simp at e,fun e=>by simp at e,Or.inl rfl⟩
theorem qz8 {f:Int}{c:Bool}(h:(kkx f c).fam≠0):c=true∧kkx f c=⟨f,⟨#[]⟩⟩:=by
 unfold kkx at h ⊢;cases c
 ·exact absurd rfl h
 ·exact ⟨rfl,rfl⟩
theorem kv6 {c:Prop}[Decidable c]{a b:Int}(ha:0≤a)(hb:0≤b):0≤if c then a else b:=by split<;>assumption
theorem vkn (o:List UInt8):0≤opN o:=by
 unfold opN;exact kv6 (by decide) (kv6 (by decide) (kv6 (by decide) (kv6 (by decide) (kv6 (by decide) (kv6 (by decide) (kv6 (by decide) (kv6 (by decide) (kv6 (by decide) (kv6 (by decide) (kv6 (by decide) (kv6 (by decide) (kv6 (by decide) (by decide)))))))))))))
theorem vjp {o:Int}{x y:VT}(h:(zz9 o x y).fam≠0):x.fam≠0∧y.fam≠0∧((o==6||o==7)=true→(x.fam=1∧y.fam=1)∧zz9 o x y=⟨1,⟨#[]⟩⟩)∧((o==6||o==7)=false→(o==11||o==12)=true→(x.fam=2∧y.fam=2)∧zz9 o x y=⟨2,⟨#[]⟩⟩)∧((o==6||o==7)=false→(o==11||o==12)=false→zz9 o x y=⟨1,⟨#[]⟩⟩):=by
 unfold zz9 at h ⊢;cases h6:(o==6||o==7)
 ·rw[h6] at h;simp only[if_neg (show ¬false=true by simp)] at h ⊢;cases h11:(o==11||o==12)
  ·rw[h11] at h;simp only[if_neg (show ¬false=true by simp)] at h ⊢;cases h10:(o==10)
   ·rw[h10] at h;simp only[if_neg (show ¬false=true by simp)] at h ⊢;obtain ⟨hc,hm⟩:=qz8 h;have hf:x.fam≠0∧y.fam≠0:=by
     unfold jxx qjv at hc;simp only[lY,wG,rZ,lQ,sD] at hc;rcases hc with (((⟨⟨⟨h1,_⟩,h2⟩,_⟩)|⟨h1,h2⟩)|⟨h1,h2⟩)
     ·exact ⟨h2,by rw[←h1];exact h2⟩
     ·exact ⟨by rw[h1];decide,by rw[h2];decide⟩
     ·exact ⟨by rw[h1];decide,by rw[h2];decide⟩
    exact ⟨hf.1,hf.2,(fun e=>by cases e),(fun _ e=>by cases e),fun _ _=>hm⟩
   ·rw[h10] at h;simp only[if_pos rfl] at h ⊢;obtain ⟨hc,hm⟩:=qz8 h;rw[wG,rZ,rZ] at hc;exact ⟨by rw[hc.1];decide,by rw[hc.2];decide,(fun e=>by cases e),(fun _ e=>by cases e),fun _ _=>hm⟩
  ·rw[h11] at h;simp only[if_pos rfl] at h ⊢;obtain ⟨hc,hm⟩:=qz8 h;rw[wG,rZ,rZ] at hc;exact ⟨by rw[hc.1];decide,by rw[hc.2];decide,(fun e=>by cases e),(fun _ _=>⟨hc,hm⟩),fun _ e=>by cases e⟩
 ·rw[h6] at h;simp only[if_pos rfl] at h ⊢;obtain ⟨hc,hm⟩:=qz8 h;rw[wG,rZ,rZ] at hc;exact ⟨by rw[hc.1];decide,by rw[hc.2];decide,(fun _=>⟨hc,hm⟩),(fun e=>by cases e),fun e=>by cases e⟩
theorem val_ok (he:EnvOk tab vars mt ksz ssz size)(hp:ParOk ssz l ms)(hs:kjc vars size st):∀ (x:PX),kwj x→zx9 x→isNil x=false→kzu x≤4000→(kj7 tab l x).fam≠0→∃ r,qxi vars mt l ms st x=some r∧VIn ksz ssz (200 * kzu x) (kj7 tab l x) r.1
 | .nil,_,_,hn,_,_=>by cases hn
 | .node i j x a c,hx,hnum,hn,hsz,ht=>by
  obtain ⟨⟨hxa,hxc⟩,hfa,hfc⟩:=hx;obtain ⟨hn3,hna,hnc⟩:=hnum;have hS:kzu (.node i j x a c)=kzu a+kzu c+1:=rfl;rw[hS] at hsz ⊢;have iha:=val_ok he hp hs a hfa hna;have ihc:=val_ok he hp hs c hfc hnc;rw[kj7] at ht ⊢;rw[qxi];have hop:=vkn x.op.toList;generalize opN x.op.toList=o at *;cases h0:(o==0)
  ·cases h1:(o==1)
   ·cases h2:(o==2)
    ·cases h3:(o==3)
     ·cases h4:(o==4)
      ·cases h5:(o==5)
       ·
        have ho:6≤o:=by
         have:o≠0∧o≠1∧o≠2∧o≠3∧o≠4∧o≠5:=⟨by simpa using h0,by simpa using h1,by simpa using h2,by simpa using h3,by simpa using h4,by simpa using h5⟩;omega
        simp only[h0,h1,h2,h3,h4,h5,Qx,lW,Ji,if_neg (show ¬false=true by simp)] at ht ⊢;obtain ⟨ga,gc,k1,k2,k3⟩:=vjp ht;obtain ⟨p,hp1,hp2⟩:=iha (hxa (by omega)) (by omega) ga;obtain ⟨q,hq1,hq2⟩:=ihc (hxc ho) (by omega) gc;have sp:=hp2.small he.kb he.sb (by omega);have sq:=hq2.small he.kb he.sb (by omega);refine ⟨(kzh o p.1 q.1,p.2||q.2),?_,?_⟩
        ·rw[hp1,hq1];show (small p.1).bind _=_;rw[kzt (by omega) (by omega)];show (small q.1).map _=_;rw[kzt (by omega) (by omega)];rfl
        ·show VIn ksz ssz (200 * (kzu a+kzu c+1)) (zz9 o (kj7 tab l a) (kj7 tab l c)) (kzh o p.1 q.1);cases h6:(o==6||o==7)
         ·cases h11:(o==11||o==12)
          ·rw[k3 h6 h11];rw[QG] at h6 h11;unfold kzh;rw[h6.1,h6.2,h11.1,h11.2];cases h10:(o==10)
           ·cases h9:(o==9)
            ·exact zv2 _ _ _ _
            ·exact zv2 _ _ _ _
           ·exact zv2 _ _ _ _
          ·obtain ⟨⟨e1,e2⟩,e3⟩:=k2 h6 h11;rw[e3];have b1:=hp2.num e1;have b2:=hq2.num e2;rw[QG] at h6;have hj:kzh o p.1 q.1=p.1+q.1∨kzh o p.1 q.1=p.1-q.1:=by
            unfold kzh;rw[h6.1,h6.2];cases h12:(o==11)
            ·rw[h12,Qx] at h11;rw[h11];exact Or.inr rfl
            ·exact Or.inl rfl
           refine ⟨fun e=>by simp at e,fun _=>?_,fun e=>by simp at e,fun e=>by simp at e,fun e=>by simp at e,Or.inr (Or.inl rfl)⟩;rcases hj with e|e<;>rw[e]<;>constructor<;>omega
         ·obtain ⟨⟨e1,e2⟩,e3⟩:=k1 h6;rw[e3];have b1:=hp2.tru e1;have b2:=hq2.tru e2;refine ⟨fun _=>?_,fun e=>by simp at e,fun e=>by simp at e,fun e=>by simp at e,fun e=>by simp at e,Or.inl rfl⟩;unfold kzh;cases h66:(o==6)
          ·rw[h66,Qx] at h6;rw[h6];show max p.1 q.1=0∨max p.1 q.1=1;omega
          ·show min p.1 q.1=0∨min p.1 q.1=1;omega
       ·
        have ho:o=5:=by simpa using h5
        subst ho;simp only[h0,h1,h2,h3,h4,Qx,lW,Ji,if_neg (show ¬false=true by simp),if_pos rfl,beq_self_eq_true] at ht ⊢;obtain ⟨hc,hm⟩:=qz8 ht;rw[hm];rw[rZ] at hc;obtain ⟨r,hr1,hr2⟩:=iha (hxa (by decide)) (by omega) (by rw[hc];decide);have:=hr2.tru hc;rw[hr1];refine ⟨(1-r.1,r.2),?_,⟨fun _=>by show (1-r.1=0∨1-r.1=1);omega,fun e=>by simp at e,fun e=>by simp at e,fun e=>by simp at e,fun e=>by simp at e,Or.inl rfl⟩⟩;show (small r.1).map _=_;rw[kzt (by omega) (by omega)];rfl
      ·simp only[h0,h1,h2,h3,h4,Qx,lW,Ji,if_neg (show ¬false=true by simp),if_pos rfl] at ht ⊢;obtain ⟨r,h1,h2⟩:=vkr he hp hs x.name x.index ht;exact ⟨r,h1,h2.mono (by omega)⟩
     ·simp only[h0,h1,h2,Qx,lW,Ji,if_neg (show ¬false=true by simp),if_pos rfl] at ht ⊢;obtain ⟨n0,n9⟩:=hn3 h3;exact ⟨_,rfl,⟨fun e=>by simp at e,fun _=>⟨by show -(((200 * (kzu a+kzu c+1):Nat)):Int)≤x.n;omega,by show x.n≤((200 * (kzu a+kzu c+1):Nat):Int);omega⟩,fun e=>by simp at e,fun e=>by simp at e,fun e=>by simp at e,Or.inr (Or.inl rfl)⟩⟩
    ·have ho:o=2:=by simpa using h2
     subst ho;simp only[h0,h1,Qx,lW,Ji,if_neg (show ¬false=true by simp),if_pos rfl,beq_self_eq_true,show ((2:Int)==3)=false from rfl,Jd] at ht ⊢;exact ⟨_,rfl,⟨fun e=>by simp at e,fun e=>by simp at e,fun e=>by simp at e,fun e=>by simp at e,fun _=>rfl,by simp⟩⟩
   ·simp only[h0,h1,Qx,QY,Jd,if_neg (show ¬false=true by simp),if_pos rfl] at ht ⊢;exact ⟨_,rfl,⟨fun _=>Or.inl rfl,fun e=>by simp at e,fun e=>by simp at e,fun e=>by simp at e,fun e=>by simp at e,Or.inl rfl⟩⟩
  ·simp only[h0,QY,if_pos rfl] at ht ⊢;exact ⟨_,rfl,⟨fun _=>Or.inr rfl,fun e=>by simp at e,fun e=>by simp at e,fun e=>by simp at e,fun e=>by simp at e,Or.inl rfl⟩⟩
end Go.Proofs.YtpmcnonmkghokaaGreatDoor
namespace Go.Proofs.YtpmcnonmkghokaaGreatDoor
open Go.RowKit
def qwn (vars:List MVar):Prop:=∀ (i j:Nat) (u v:MVar),vars[i]?=some u→vars[j]?=some v→i≠j→u.first+u.count≤v.first∨v.first+v.count≤u.first
theorem kjc.put {vars:List MVar}{size:Nat}{st:List Int}(h:kjc vars size st)(hd:qwn vars){k:Nat}{v:MVar}(hv:vars[k]?=some v){j:Nat}(hj:j<v.count){x:Int}(h0:0≤x)(h1:x<v.texts.length):kjc vars size (st.set (v.first+j) x):=by
 refine ⟨by rw[Jv];exact h.len,fun u hu i hi=>?_⟩;obtain ⟨y,hy,hy0,hy1⟩:=h.val u hu i hi;obtain ⟨m,hm,rfl⟩:=rP hu;have hm':vars[m]?=some vars[m]:=wW hm;by_cases e:vars[m].first+i=v.first+j
 ·by_cases hmk:m=k
  ·subst hmk;have:vars[m]=v:=by rw[hm'] at hv;injection hv
   rw[e];have hlt:v.first+j<st.length:=by
    have:=(nK.mp hy).1;omega
   refine ⟨x,by rw[List.getElem?_set_self hlt],h0,by rw[this];exact h1⟩
  ·rcases hd m k _ _ hm' hv hmk with q|q<;>omega
 ·exact ⟨y,by rw[List.getElem?_set_ne (by omega)];exact hy,hy0,hy1⟩
def jjz:PB→Prop
 | .nil=>True
 | .node _ _ a .nil n=>(zx9 a.value∧kzu a.value≤4000)∧jjz n
 | .node _ _ a (.node _ _ _ t e) n=>(zx9 a.cond∧kzu a.cond≤4000)∧jjz t∧jjz e∧jjz n
variable {tab:Tab} {vars:List MVar} {mt:uw} {ksz ssz:List UInt8→Nat} {size:Nat} {l:List PP} {ms st:List Int}
theorem vzt:opN [112,108,97,99,101]=4:=by decide
theorem jvq (tab:Tab)(l:List PP)(x:ELab)(h:x.op.toList=[112,108,97,99,101]):kj7 tab l (.node 0 0 x .nil .nil)=kwb tab l x.name x.index:=by
 rw[kj7,h,vzt];rfl
theorem jya {tab:Tab}{l:List PP}{p v:PX}(h:jye tab l p v=true):(zk tab (qyi p).toList).role=4∧(kj7 tab l p).fam≠0∧(kj7 tab l v).fam≠0:=by
 unfold jye qjv at h;simp only[lY,wG,rZ,lQ,sD] at h;rcases h with ⟨hr,⟨⟨⟨h1,_⟩,h2⟩,_⟩|⟨h1,h2⟩⟩
 ·exact ⟨hr,h2,by rw[←h1];exact h2⟩
 ·exact ⟨hr,by rw[h1];decide,by rw[h2];decide⟩
theorem vvq (he:EnvOk tab vars mt ksz ssz size)(hd:qwn vars)(hp:ParOk ssz l ms)(hs:kjc vars size st)(x:ELab)(v:PX)(hop:x.op.toList=[112,108,97,99,101])(hf:kwj v)(hn:zx9 v)(hnil:isNil v=false)(hz:kzu v≤4000)(ht:jye tab l (.node 0 0 x .nil .nil) v=true):∃ r,jy2 vars mt l ms st x.name x.index v=some r∧kjc vars size r.1:=by
 obtain ⟨hr,hpf,hvf⟩:=jya ht;rw[jvq tab l x hop] at hpf;obtain ⟨p,hp1,hp2⟩:=val_ok he hp hs v hf hn hnil hz hvf;obtain ⟨_,u,hu1,hu2⟩:=he.var _ hr;obtain ⟨j,w,ha1,ha2⟩:=vk2 he hp hs u _ hu2 x.index (fun hk=>by
  unfold kwb at hpf;rw[hk] at hpf;cases ha:(zk tab x.name.text.toList).var.arr
  ·rw[ha] at hpf;exact absurd rfl hpf
  ·cases hx:zx3 tab l x.index (zk tab x.name.text.toList).var.over
   ·rw[ha,hx] at hpf;exact absurd rfl hpf
   ·exact ⟨ha,hx⟩)
 have hfit:=hu2.fit;have hlen:=hs.len;have hfew:=hu2.few;unfold jy2;rw[hp1];show ∃ r,((vars[(kje mt x.name.text.toList).num]?).bind fun v=>(atO vars mt l ms st v x.index).bind fun q=>if p.1<0||p.1 ≥ (v.texts.length:Int) then some (st,true) else if p.1 > 255||q.1<0||q.1 ≥ (st.length:Int) then none else some (st.set q.1.toNat p.1,p.2||q.2))=some r∧kjc vars size r.1;rw[show qyi (.node 0 0 x .nil .nil)=x.name.text from rfl] at hu1;rw[hu1];show ∃ r,((atO vars mt l ms st u x.index).bind fun q=>if p.1<0||p.1 ≥ (u.texts.length:Int) then some (st,true) else if p.1 > 255||q.1<0||q.1 ≥ (st.length:Int) then none else some (st.set q.1.toNat p.1,p.2||q.2))=some r∧kjc vars size r.1;rw[ha1];show ∃ r,(if p.1<0||p.1 ≥ (u.texts.length:Int) then some (st,true) else if p.1 > 255||((u.first:Int)+(j:Nat))<0||((u.first:Int)+(j:Nat)) ≥ (st.length:Int) then none else some (st.set ((u.first:Int)+(j:Nat)).toNat p.1,p.2||w))=some r∧kjc vars size r.1;by_cases hc:p.1<0∨p.1 ≥ (u.texts.length:Int)
 ·rw[if_pos (by simpa using hc)];exact ⟨_,rfl,hs⟩
 ·have hc1:0≤p.1∧p.1<(u.texts.length:Int):=by omega
  rw[if_neg (by simpa using hc),if_neg (by simp;omega)];refine ⟨_,rfl,?_⟩;show kjc vars size (st.set ((u.first:Int)+(j:Nat)).toNat p.1);rw[show ((u.first:Int)+(j:Nat)).toNat=u.first+j by omega];exact hs.put hd hu1 ha2 hc1.1 hc1.2
theorem zkr (he:EnvOk tab vars mt ksz ssz size)(hd:qwn vars)(hp:ParOk ssz l ms):∀ (b:PB),ky3 b→jjz b→kkh tab l b=true→∀ st,kjc vars size st→∃ r,doO vars mt l ms b st=some r∧kjc vars size r.1
 | .nil,_,_,_,st,hs=>⟨_,rfl,hs⟩
 | .node _ _ a .nil n,hf,hn,ht,st,hs=>by
  obtain ⟨⟨h1,h2,x,h3,h4⟩,hfn⟩:=hf;obtain ⟨⟨n1,n2⟩,hnn⟩:=hn;rw[kkh,wG,h3] at ht;obtain ⟨p,hp1,hp2⟩:=vvq he hd hp hs x a.value h4 h1 n1 h2 n2 ht.1;obtain ⟨q,hq1,hq2⟩:=zkr he hd hp n hfn hnn ht.2 p.1 hp2;refine ⟨(q.1,p.2||q.2),?_,hq2⟩;rw[doO,h3];show (jy2 vars mt l ms st x.name x.index a.value).bind _=_;rw[hp1];show (doO vars mt l ms n p.1).map _=_;rw[hq1];rfl
 | .node _ _ a (.node _ _ _ t e) n,hf,hn,ht,st,hs=>by
  obtain ⟨⟨h1,h2⟩,hft,hfe,hfn⟩:=hf;obtain ⟨⟨n1,n2⟩,hnt,hne,hnn⟩:=hn;rw[kkh,wG,wG,wG,rZ] at ht;obtain ⟨⟨⟨t1,t2⟩,t3⟩,t4⟩:=ht;obtain ⟨c,hc1,hc2⟩:=val_ok he hp hs a.cond h1 n1 h2 n2 (by rw[t1];decide);obtain ⟨pt,ht1,ht2⟩:=zkr he hd hp t hft hnt t2 st hs;obtain ⟨pe,he1,he2⟩:=zkr he hd hp e hfe hne t3 st hs;rw[doO,hc1];show ∃ r,((if c.1==1 then doO vars mt l ms t st else doO vars mt l ms e st).bind fun p=>(doO vars mt l ms n p.1).map fun q=>(q.1,c.2||p.2||q.2))=some r∧kjc vars size r.1;cases hcc:(c.1==1)
  ·obtain ⟨q,hq1,hq2⟩:=zkr he hd hp n hfn hnn t4 pe.1 he2;rw[if_neg (by simp),he1];show ∃ r,((doO vars mt l ms n pe.1).map fun q=>(q.1,c.2||pe.2||q.2))=some r∧kjc vars size r.1;rw[hq1];exact ⟨_,rfl,hq2⟩
  ·obtain ⟨q,hq1,hq2⟩:=zkr he hd hp n hfn hnn t4 pt.1 ht2;rw[if_pos rfl,ht1];show ∃ r,((doO vars mt l ms n pt.1).map fun q=>(q.1,c.2||pt.2||q.2))=some r∧kjc vars size r.1;rw[hq1];exact ⟨_,rfl,hq2⟩
structure StepFit (tab:Tab)(ssz:List UInt8→Nat)(s:MStep):Prop where
 par:ParOk ssz s.params s.mems
 full:kwj s.guard∧zx9 s.guard∧isNil s.guard=false∧kzu s.guard≤4000∧(kj7 tab s.params s.guard).fam=1
 blk:ky3 s.block∧jjz s.block∧kkh tab s.params s.block=true
structure NevFit (tab:Tab)(ssz:List UInt8→Nat)(s:MNever):Prop where
 par:ParOk ssz s.params s.mems
 full:kwj s.expr∧zx9 s.expr∧isNil s.expr=false∧kzu s.expr≤4000∧(kj7 tab s.params s.expr).fam=1
theorem vx1 (he:EnvOk tab vars mt ksz ssz size)(hd:qwn vars)(hs:kjc vars size st)(s:MStep)(h:StepFit tab ssz s):∃ r,kwq vars mt s.params s.mems st s.guard s.block=some r∧(r.2=1→kjc vars size r.1)∧(r.2=0∨r.2=1∨r.2=2):=by
 obtain ⟨f1,f2,f3,f4,f5⟩:=h.full;obtain ⟨b1,b2,b3⟩:=h.blk;obtain ⟨c,hc1,hc2⟩:=val_ok he h.par hs s.guard f1 f2 f3 f4 (by rw[f5];decide);obtain ⟨p,hp1,hp2⟩:=zkr he hd h.par s.block b1 b2 b3 st hs;unfold kwq;rw[hc1];show ∃ r,((if c.1==1 then doO vars mt s.params s.mems s.block st else some (st,false)).map fun p=>if (c.2||p.2) then (([],2):List Int × Int) else if c.1==1 then (p.1,1) else ([],0))=some r∧_;cases hcc:(c.1==1)
 ·rw[if_neg (by simp)];refine ⟨_,rfl,?_,?_⟩
  ·show (if (c.2||false) then (([],2):List Int × Int) else if false=true then (st,1) else ([],0)).2=1→_;cases c.2<;>intro e<;>simp at e
  ·show (if (c.2||false) then (([],2):List Int × Int) else if false=true then (st,1) else ([],0)).2=0∨_;cases c.2
   ·exact Or.inl rfl
   ·exact Or.inr (Or.inr rfl)
 ·rw[if_pos rfl,hp1];refine ⟨_,rfl,?_,?_⟩
  ·show (if (c.2||p.2) then (([],2):List Int × Int) else if true=true then (p.1,1) else ([],0)).2=1→kjc vars size (if (c.2||p.2) then (([],2):List Int × Int) else if true=true then (p.1,1) else ([],0)).1;cases (c.2||p.2)
   ·intro _;exact hp2
   ·intro e;cases e
  ·have key:∀ b:Bool,(if b then (([],2):List Int × Int) else if true=true then (p.1,1) else ([],0)).2=0∨(if b then (([],2):List Int × Int) else if true=true then (p.1,1) else ([],0)).2=1∨(if b then (([],2):List Int × Int) else if true=true then (p.1,1) else ([],0)).2=2:=fun b=>by
    cases b
    ·exact Or.inr (Or.inl rfl)
    ·exact Or.inr (Or.inr rfl)
   exact key (c.2||p.2)
theorem vv7 (he:EnvOk tab vars mt ksz ssz size)(hs:kjc vars size st)(s:MNever)(h:NevFit tab ssz s):∃ r,jwa vars mt s.params s.mems st s.expr=some r:=by
 obtain ⟨f1,f2,f3,f4,f5⟩:=h.full;obtain ⟨c,hc1,hc2⟩:=val_ok he h.par hs s.expr f1 f2 f3 f4 (by rw[f5];decide);unfold jwa;rw[hc1];exact ⟨_,rfl⟩
end Go.Proofs.YtpmcnonmkghokaaGreatDoor
namespace Go.Proofs.YtpmcnonmkghokaaGreatDoor
open Go.RowKit
structure MachGood (tab:Tab)(ksz ssz:List UInt8→Nat)(a:Mach):Prop where
 env:EnvOk tab a.vars a.tab ksz ssz a.size
 disj:qwn a.vars
 fit:∀ v∈a.vars,(v.first+v.count≤a.size∧1≤v.count)∧v.count≤10
 txt:∀ v∈a.vars,v.texts.length≤200∧∀ t∈v.texts,t.size≤800∧0<t.size
 one:0<a.vars.length
 few:a.vars.length≤10
 steps:∀ s∈a.steps,StepFit tab ssz s
 nevers:∀ s∈a.nevers,NevFit tab ssz s
 nodup:(a.steps.map (fun s=>s.text.toList)).Nodup
variable {tab:Tab} {ksz ssz:List UInt8→Nat} {a:Mach} {st:List Int}
def vqc (a:Mach)(st:List Int)(s:MStep):Option (List Int × Int):=kwq a.vars a.tab s.params s.mems st s.guard s.block
def qyn (a:Mach)(st:List Int)(s:MStep):Int:=match vqc a st s with|some r=>r.2|none=>0
theorem out_ok (h:MachGood tab ksz ssz a)(hs:kjc a.vars a.size st){s:MStep}(hm:s∈a.steps):∃ r,vqc a st s=some r∧qyn a st s=r.2∧(r.2=1→kjc a.vars a.size r.1):=by
 obtain ⟨r,h1,h2,h3⟩:=vx1 h.env h.disj hs s (h.steps s hm);have h1':vqc a st s=some r:=h1;exact ⟨r,h1',by unfold qyn;rw[h1'],h2⟩
theorem vxl (h:MachGood tab ksz ssz a)(hs:kjc a.vars a.size st):∀ (l:List MStep),(∀ s∈l,s∈a.steps)→∀ en wr,lkO a.vars a.tab st l en wr=some (en++(l.filter fun s=>qyn a st s==1).map (·.text),wr++(l.filter fun s=>!(qyn a st s==1)&&qyn a st s==2).map (·.text))
 | [],_,en,wr=>by rw[lkO];simp
 | s::l,hl,en,wr=>by
  obtain ⟨r,h1,h2,_⟩:=out_ok h hs (hl s (rY ..));have ih:=vxl h hs l (fun x hx=>hl x (rJ _ hx));rw[lkO,show kwq a.vars a.tab s.params s.mems st s.guard s.block=some r from h1];show (if r.2==1 then lkO a.vars a.tab st l (en++[s.text]) wr else if r.2==2 then lkO a.vars a.tab st l en (wr++[s.text]) else lkO a.vars a.tab st l en wr)=_;rw[Jj,Jj,h2];cases c1:(r.2==1)
  ·cases c2:(r.2==2)
   ·simp only[if_neg (show ¬false=true by simp),QD,Bool.and_self,Jm];exact ih en wr
   ·simp only[if_neg (show ¬false=true by simp),if_pos rfl,QD,Bool.and_self];rw[ih];simp
  ·simp only[if_pos rfl,JW,fC,if_neg (show ¬false=true by simp)];rw[ih];simp
theorem vj0 (h:MachGood tab ksz ssz a)(hs:kjc a.vars a.size st):∀ (l:List MNever),(∀ s∈l,s∈a.nevers)→∀ br,∃ r,lbO a.vars a.tab st l br=some r
 | [],_,br=>⟨br,rfl⟩
 | s::l,hl,br=>by
  obtain ⟨c,hc⟩:=vv7 h.env hs s (h.nevers s (hl s (rY ..)));rw[lbO,hc];show ∃ r,(if c then lbO a.vars a.tab st l (br++[s.text]) else lbO a.vars a.tab st l br)=some r;cases c
  ·exact vj0 h hs l (fun x hx=>hl x (rJ _ hx)) br
  ·exact vj0 h hs l (fun x hx=>hl x (rJ _ hx)) (br++[s.text])
theorem jyv {v:MVar}(hv:v∈a.vars)(hs:kjc a.vars a.size st)(ht:∀ t∈v.texts,t.size≤800∧0<t.size)(j:Nat)(hj:j<v.count):∃ t,zww v st (v.first+j)=some t∧t.size≤800∧0<t.size:=by
 obtain ⟨x,h1,h2,h3⟩:=hs.val v hv j hj;have hl:x.toNat<v.texts.length:=by omega
 refine ⟨v.texts[x.toNat],?_,ht _ (wY hl)⟩;unfold zww;rw[h1];show (if 0≤x then v.texts[x.toNat]? else none)=_;rw[if_pos h2,wW hl]
theorem zwf (n:Nat):(kkj n).length≤1:=by unfold kkj;split<;>simp
theorem qvz (t:ByteArray):t.data.toList.length=t.size:=by rw[Qn];rfl
theorem vjh {v:MVar}(hv:v∈a.vars)(hs:kjc a.vars a.size st)(ht:∀ t∈v.texts,t.size≤800∧0<t.size)(hc:v.count≤1000):∀ n,n≤v.count→∃ l,zzy v st n=some l∧l.length≤n * 801
 | 0,_=>⟨[],rfl,by simp⟩
 | n+1,hn=>by
  obtain ⟨l,h1,h2⟩:=vjh hv hs ht hc n (by omega);obtain ⟨t,h3,h4,_⟩:=jyv hv hs ht n (by omega);have hs1:=zwf n;have hl:(l++kkj n++t.data.toList).length≤(n+1) * 801:=by
   rw[wB,wB,qvz];omega
  refine ⟨_,?_,hl⟩;rw[zzy,h1];show (zww v st (v.first+n)).bind _=_;rw[h3];show (if (l++kkj n++t.data.toList).length≤1000000 then some (l++kkj n++t.data.toList) else none)=_;rw[if_pos (by omega)]
theorem vk9 (h:MachGood tab ksz ssz a){v:MVar}(hv:v∈a.vars)(hs:kjc a.vars a.size st):∃ l,jjk v st=some l∧l.length≤8020∧l≠[]:=by
 obtain ⟨_,ht⟩:=h.txt v hv;obtain ⟨⟨hf0,hf2⟩,hf1⟩:=h.fit v hv;have hz:=h.env.size;unfold jjk;cases ho:(v.over==-1)
 ·obtain ⟨l,h1,h2⟩:=vjh hv hs ht (by omega) v.count (wX _);rw[if_neg (by simp),h1];refine ⟨_,rfl,?_,by simp⟩;simp only[nX,wB,QX];omega
 ·obtain ⟨t,h1,h2,h3⟩:=jyv hv hs ht 0 (by omega);rw[nP] at h1;rw[if_pos rfl,h1];show ∃ l,(if t.size≤1000000 then some t.data.toList else none)=some l∧_;rw[if_pos (by omega)];refine ⟨_,rfl,by rw[qvz];omega,?_⟩;intro e;have:=qvz t;rw[e] at this;simp at this;omega
theorem jy8 (h:MachGood tab ksz ssz a)(hs:kjc a.vars a.size st):∀ n,n≤a.vars.length→∃ l,zq7 a.vars st n=some l∧l.length≤n * 8021∧(0<n→l≠[])
 | 0,_=>⟨[],rfl,by simp,fun h=>by omega⟩
 | n+1,hn=>by
  obtain ⟨l,h1,h2,_⟩:=jy8 h hs n (by omega);have hm:a.vars[n]?=some a.vars[n]:=wW (by omega);have hv:a.vars[n]∈a.vars:=wY _;obtain ⟨t,h3,h4,h5⟩:=vk9 h hv hs;have hs1:=zwf n;have hfew:=h.few;have hl:(l++kkj n++t).length≤(n+1) * 8021:=by rw[wB,wB];omega
  have hfit:jjp a.vars[n]=true:=by
   obtain ⟨⟨q1,q2⟩,q3⟩:=h.fit _ hv;obtain ⟨q4,_⟩:=h.txt _ hv;have hz:=h.env.size;unfold jjp;rw[ny (by omega:a.vars[n].first≤1000000),ny (by omega:a.vars[n].count≤1000000),ny (by omega:a.vars[n].texts.length≤1000000)];rfl
  refine ⟨_,?_,hl,fun _ e=>h5 (lC.mp e).2⟩;rw[zq7,h1];show (a.vars[n]?).bind _=_;rw[hm];show (jjk a.vars[n] st).bind _=_;rw[h3];show (if (l++kkj n++t).length≤1000000∧jjp a.vars[n]=true then some (l++kkj n++t) else none)=_;rw[if_pos ⟨by omega,hfit⟩]
theorem vz5 (h:MachGood tab ksz ssz a)(hs:kjc a.vars a.size st):∃ t,zwc a.vars st=some t:=by
 obtain ⟨l,h1,_,h3⟩:=jy8 h hs a.vars.length (wX _);unfold zwc;rw[h1];show ∃ t,(if l=[] then none else some l)=some t;rw[if_neg (h3 h.one)];exact ⟨_,rfl⟩
theorem look_ok (h:MachGood tab ksz ssz a)(hs:kjc a.vars a.size st):∃ v,lookO a st=some v∧v.enabled=(a.steps.filter fun s=>qyn a st s==1).map (·.text)∧v.wrong=(a.steps.filter fun s=>!(qyn a st s==1)&&qyn a st s==2).map (·.text):=by
 obtain ⟨t,h1⟩:=vz5 h hs;have h2:=vxl h hs a.steps (fun _ hx=>hx) [] [];obtain ⟨b,h3⟩:=vj0 h hs a.nevers (fun _ hx=>hx) [];unfold lookO;rw[h1];show ∃ v,((lkO a.vars a.tab st a.steps [] []).bind fun p=>(lbO a.vars a.tab st a.nevers []).map fun b=>(⟨⟨t.toArray⟩,p.1,p.2,b⟩:MView))=some v∧_;rw[h2];show ∃ v,((lbO a.vars a.tab st a.nevers []).map fun b=>(⟨⟨t.toArray⟩,[]++(a.steps.filter fun s=>qyn a st s==1).map (·.text),[]++(a.steps.filter fun s=>!(qyn a st s==1)&&qyn a st s==2).map (·.text),b⟩:MView))=some v∧_;rw[h3];exact ⟨_,rfl,rfl,rfl⟩
theorem vjm (h:MachGood tab ksz ssz a)(hs:kjc a.vars a.size st):∀ (l:List MStep),(∀ s∈l,s∈a.steps)→(l.map (fun s=>s.text.toList)).Nodup→∀ s∈l,∃ r,qjh a.vars a.tab st s.text.toList l=some r∧r.2=(qyn a st s==1)∧(r.2=true→kjc a.vars a.size r.1)
 | x::l,hl,hn,s,hm=>by
  rw[lJ,Qb] at hn;rcases tX.mp hm with rfl|hm
  ·obtain ⟨r,h1,h2,h3⟩:=out_ok h hs (hl s (rY ..));rw[qjh,if_pos (by simp),show kwq a.vars a.tab s.params s.mems st s.guard s.block=some r from h1];refine ⟨_,rfl,by rw[h2],fun e=>h3 (by simpa using e)⟩
  ·have hne:(x.text.toList==s.text.toList)=false:=by
    rw[sD];intro e;exact hn.1 (by rw[e];exact tC (f:=fun s:MStep=>s.text.toList) hm)
   rw[qjh,hne,if_neg (by simp)];exact vjm h hs l (fun y hy=>hl y (rJ _ hy)) hn.2 s hm
theorem vjc {vars:List MVar}{mt:uw}{t:List UInt8}:∀ (l:List MStep),(∀ s∈l,s.text.toList≠t)→qjh vars mt st t l=some ([],false)
 | [],_=>rfl
 | x::l,h=>by
  rw[qjh,if_neg (by rw[rZ];exact h x (rY ..))];exact vjc l fun y hy=>h y (rJ _ hy)
def qjo (a:Mach):List ByteArray→List Int→Option (List Int)
 | [],st=>some st
 | t::l,st=>(qjh a.vars a.tab st t.toList a.steps).bind fun r=>if r.2 then qjo a l r.1 else none
theorem zwa (a:Mach)(t:ByteArray):∀ (l:List ByteArray) (st st':List Int),qjo a l st=some st'→qjo a (l++[t]) st=(qjh a.vars a.tab st' t.toList a.steps).bind fun r=>if r.2 then some r.1 else none
 | [],st,st',h=>by
  rw[qjo] at h;injection h with h;subst h;rfl
 | x::l,st,st',h=>by
  rw[qjo] at h;obtain ⟨r,h1,h2⟩:=wJ.mp h;cases hr:r.2
  ·rw[hr] at h2;cases h2
  ·rw[hr,if_pos rfl] at h2;rw[Qe,qjo,h1];show (if r.2 then qjo a (l++[t]) r.1 else none)=_;rw[hr,if_pos rfl];exact zwa a t l r.1 st' h2
theorem jxc (h:MachGood tab ksz ssz a)(us:List ByteArray):∀ (l:List ByteArray) (i:Nat) (st st':List Int),kjc a.vars a.size st→qjo a l st=some st'→kjc a.vars a.size st'∧qyb a (l++us) i st=qyb a us (i+l.length) st'
 | [],i,st,st',hs,hr=>by
  rw[qjo] at hr;injection hr with hr;subst hr;exact ⟨hs,rfl⟩
 | t::l,i,st,st',hs,hr=>by
  rw[qjo] at hr;obtain ⟨r,h1,h2⟩:=wJ.mp hr;cases hb:r.2
  ·rw[hb] at h2;cases h2
  ·rw[hb,if_pos rfl] at h2;have hs':kjc a.vars a.size r.1:=by
    by_cases hm:∃ s∈a.steps,s.text.toList=t.toList
    ·obtain ⟨s,hs1,hs2⟩:=hm;obtain ⟨q,k1,k2,k3⟩:=vjm h hs a.steps (fun _ hx=>hx) h.nodup s hs1;rw[hs2,h1] at k1;injection k1 with k1;subst k1;exact k3 hb
    ·rw[vjc a.steps (fun s hs1 e=>hm ⟨s,hs1,e⟩)] at h1;injection h1 with h1;subst h1;cases hb
   obtain ⟨q1,q2⟩:=jxc h us l (i+1) r.1 st' hs' h2;refine ⟨q1,?_⟩;have hz:=h.env.size;have hl:=hs.len;rw[Qe,qyb,if_pos (by omega),h1];show (if r.2 then qyb a (l++us) (i+1) r.1 else some (noView,false,7,(i:Int)))=_;rw[hb,if_pos rfl,q2,nX];congr 1
   omega
end Go.Proofs.YtpmcnonmkghokaaGreatDoor

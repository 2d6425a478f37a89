import Derived.Test.YtpmcnonmkghokaaGreatDoorT23
import Derived.Test.YtpmcnonmkghokaaGreatDoorT21
set_option linter.unusedVariables false
set_option linter.unusedSimpArgs false
namespace Go.Proofs.YtpmcnonmkghokaaGreatDoor
open Go.RowKit
structure VIn (ksz ssz:List UInt8→Nat)(B:Nat)(ty:VT)(x:Int):Prop where
 tru:ty.fam=1→x=0∨x=1
 num:ty.fam=2→-(B:Int)≤x∧x≤B
 kin:ty.fam=3→0≤x∧x<ksz ty.name.toList
 set:ty.fam=4→0≤x∧x≤ssz ty.name.toList
 non:ty.fam=5→x=0
 fam:ty.fam=1∨ty.fam=2∨ty.fam=3∨ty.fam=4∨ty.fam=5
structure MvOk (tab:Tab)(ksz ssz:List UInt8→Nat)(size:Nat)(v:MVar)(d:VrT):Prop where
 fit:v.first+v.count≤size
 cnt:v.count=if d.arr then ssz d.over.text.toList else 1
 pos:1≤v.count
 few:v.texts.length≤200
 tru:(kzc tab d.si).fam=1→v.texts.length=2
 kin:(kzc tab d.si).fam=3→v.texts.length=ksz (kzc tab d.si).name.toList
 set:(kzc tab d.si).fam=4→v.texts.length=ssz (kzc tab d.si).name.toList+1
structure EnvOk (tab:Tab)(vars:List MVar)(mt:uq)(ksz ssz:List UInt8→Nat)(size:Nat):Prop where
 mem:∀ s,(qo tab s).role=3→(kjt mt s).isVar=false∧(kjt mt s).num<ksz (qo tab s).kind.toList
 var:∀ s,(qo tab s).role=4→(kjt mt s).isVar=true∧∃ v,vars[(kjt mt s).num]?=some v∧MvOk tab ksz ssz size v (qo tab s).var
 arr:∀ s,(qo tab s).var.arr=true→(qo tab s).role=4
 kb:∀ s,ksz s≤1000
 sb:∀ s,ssz s≤1000
 size:size≤1000
structure kqp (vars:List MVar)(size:Nat)(st:List Int):Prop where
 len:st.length=size
 val:∀ v∈vars,∀ j,j<v.count→∃ x,st[v.first+j]?=some x∧0≤x∧x<v.texts.length
structure ParOk (ssz:List UInt8→Nat)(l:List PP)(ms:List Int):Prop where
 len:ms.length=l.length
 val:∀ i (hi:i<l.length) (hm:i<ms.length),0≤ms[i]∧ms[i]<ssz l[i].set_.text.toList
theorem kx6 {x:Int}(h1:-1000000000≤x)(h2:x≤1000000000):small x=some x:=by
 unfold small;rw[sD h1,sD h2];rfl
theorem vku:∀ (l:List PP) (s:List UInt8),fpB l s=true→∃ h:qji l s<l.length,l[qji l s]=fpP l s
 | [],s,h=>by simp[fpB] at h
 | p::l,s,h=>by
  cases hp:(p.name.text.toList==s)
  ·have h2:fpB l s=true:=by unfold fpB at h ⊢;rw[Qi,hp] at h;exact h
   obtain ⟨q1,q2⟩:=vku l s h2;have e:qji (p::l) s=qji l s+1:=by rw[qji,hp];rfl
   refine ⟨by rw[e];simpa using q1,?_⟩;rw[fpP,hp];simp only[e,Ql];exact q2
  ·have e:qji (p::l) s=0:=by rw[qji,hp];rfl
   refine ⟨by rw[e];simp,?_⟩;rw[fpP,hp];simp only[e,fB];rfl
theorem vwk (tab:Tab)(x:SiT):(kzc tab x).fam=1∨(kzc tab x).fam=2∨(kzc tab x).fam=3∨(kzc tab x).fam=4:=by
 unfold kzc;split
 ·exact Or.inl rfl
 ·split
  ·exact Or.inr (Or.inl rfl)
  ·split
   ·exact Or.inr (Or.inr (Or.inr rfl))
   ·exact Or.inr (Or.inr (Or.inl rfl))
theorem vkx {tab:Tab}{ksz ssz:List UInt8→Nat}{size:Nat}{v:MVar}{d:VrT}(h:MvOk tab ksz ssz size v d){x:Int}(h0:0≤x)(h1:x<v.texts.length):VIn ksz ssz 200 (kzc tab d.si) x:=by
 have hf:=h.few;refine ⟨fun e=>?_,fun e=>by omega,fun e=>?_,fun e=>?_,fun e=>?_,?_⟩
 ·have:=h.tru e;omega
 ·have:=h.kin e;omega
 ·have:=h.set e;omega
 ·rcases vwk tab d.si with q|q|q|q<;>rw[q] at e<;>cases e
 ·rcases vwk tab d.si with q|q|q|q
  ·exact Or.inl q
  ·exact Or.inr (Or.inl q)
  ·exact Or.inr (Or.inr (Or.inl q))
  ·exact Or.inr (Or.inr (Or.inr (Or.inl q)))
theorem VIn.mono {ksz ssz:List UInt8→Nat}{B B':Nat}{ty:VT}{x:Int}(h:VIn ksz ssz B ty x)(hb:B≤B'):VIn ksz ssz B' ty x:=
 ⟨h.tru,fun e=>by have:=h.num e;omega,h.kin,h.set,h.non,h.fam⟩
theorem VIn.small {ksz ssz:List UInt8→Nat}{B:Nat}{ty:VT}{x:Int}(h:VIn ksz ssz B ty x)(hk:∀ s,ksz s≤1000)(hs:∀ s,ssz s≤1000)(hb:B≤1000000):-1000000≤x∧x≤1000000:=by
 rcases h.fam with e|e|e|e|e
 ·have:=h.tru e;omega
 ·have:=h.num e;omega
 ·have:=h.kin e;have:=hk ty.name.toList;omega
 ·have:=h.set e;have:=hs ty.name.toList;omega
 ·have:=h.non e;omega
variable {tab:Tab} {vars:List MVar} {mt:uq} {ksz ssz:List UInt8→Nat} {size:Nat} {l:List PP} {ms st:List Int}
theorem jji (he:EnvOk tab vars mt ksz ssz size)(hp:ParOk ssz l ms)(hs:kqp vars size st)(n:Tok)(ht:(kjd tab l n).fam≠0):∃ x,zx7 vars mt l ms st n.text.toList=some x∧VIn ksz ssz 200 (kjd tab l n) x:=by
 cases hf:fpB l n.text.toList
 ·cases h3:((qo tab n.text.toList).role==3)
  ·cases h4:((qo tab n.text.toList).role==4&&!(qo tab n.text.toList).var.arr)
   ·exact absurd (by unfold kjd;rw[hf,h3,h4];rfl) ht
   ·have hT:kjd tab l n=kzc tab (qo tab n.text.toList).var.si:=by unfold kjd;rw[hf,h3,h4];rfl
    rw[wY,wP,nP] at h4;obtain ⟨hv,v,hv1,hv2⟩:=he.var _ h4.1;obtain ⟨x,hx,h0,h1⟩:=hs.val v (lZ hv1) 0 (by have:=hv2.pos;omega);rw[nV] at hx;have hfew:=hv2.few;refine ⟨x,?_,by rw[hT];exact vkx hv2 h0 h1⟩;unfold zx7;rw[hf,hv,hv1];show (st[v.first]?).bind small=some x;rw[hx];exact kx6 (by omega) (by omega)
  ·have hT:kjd tab l n=⟨3,(qo tab n.text.toList).kind⟩:=by unfold kjd;rw[hf,h3];rfl
   rw[wP] at h3;obtain ⟨hv,hk⟩:=he.mem _ h3;refine ⟨(kjt mt n.text.toList).num,by unfold zx7;rw[hf,hv];rfl,?_⟩;rw[hT];exact ⟨fun e=>by simp at e,fun e=>by simp at e,fun _=>⟨by omega,by show _<((ksz (qo tab n.text.toList).kind.toList:Nat):Int);omega⟩,fun e=>by simp at e,fun e=>by simp at e,by simp⟩
 ·have hT:kjd tab l n=⟨4,(fpP l n.text.toList).set_.text⟩:=by unfold kjd;rw[hf];rfl
  obtain ⟨q1,q2⟩:=vku l _ hf;have hm:qji l n.text.toList<ms.length:=by rw[hp.len];exact q1
  obtain ⟨h0,h1⟩:=hp.val _ q1 hm;rw[q2] at h1;have hb:=he.sb (fpP l n.text.toList).set_.text.toList;refine ⟨ms[qji l n.text.toList]+1,?_,?_⟩
  ·unfold zx7;rw[hf,ny hm];show (small ms[qji l n.text.toList]).map (·+1)=_;rw[kx6 (by omega) (by omega)];rfl
  ·rw[hT];exact ⟨fun e=>by simp at e,fun e=>by simp at e,fun e=>by simp at e,fun _=>⟨by omega,by show _≤((ssz (fpP l n.text.toList).set_.text.toList:Nat):Int);omega⟩,fun e=>by simp at e,by simp⟩
theorem vkc (he:EnvOk tab vars mt ksz ssz size)(hp:ParOk ssz l ms)(hs:kqp vars size st)(v:MVar)(d:VrT)(hv:MvOk tab ksz ssz size v d)(i:Tok)(hi:(i.kind.toList==[])=false→d.arr=true∧qkh tab l i d.over=true):∃ j w,atO vars mt l ms st v i=some ((v.first:Int)+(j:Nat),w)∧j<v.count:=by
 unfold atO;have hfit:=hv.fit;have hsz:=he.size;cases hk:(i.kind.toList==[])
 ·obtain ⟨ha,hx⟩:=hi hk;rw[if_neg (by simp)];unfold qkh at hx;rw[wY,wP,wP] at hx;obtain ⟨x,h1,h2⟩:=jji he hp hs i (by rw[hx.1];decide);have hr:=h2.set hx.1;rw[hx.2] at hr;have hc:=hv.cnt;rw[ha,if_pos rfl] at hc;have hb:=he.sb d.over.text.toList;rw[h1];show ∃ j w,(if x==0 then some ((v.first:Int),true) else (small x).bind fun _=>(small v.first).map fun _=>((v.first:Int)+x-1,false))=some ((v.first:Int)+(j:Nat),w)∧j<v.count;cases h0:(x==0)
  ·have hx0:x≠0:=by simpa using h0
   refine ⟨x.toNat-1,false,?_,by omega⟩;rw[kx6 (by omega) (by omega),kx6 (by omega) (by omega)];show some ((v.first:Int)+x-1,false)=_;congr 2
   omega
  ·exact ⟨0,true,by simp,hv.pos⟩
 ·exact ⟨0,false,by simp,hv.pos⟩
theorem vvy (he:EnvOk tab vars mt ksz ssz size)(hp:ParOk ssz l ms)(hs:kqp vars size st)(n i:Tok)(ht:(kx4 tab l n i).fam≠0):∃ r,zju vars mt l ms st n i=some r∧VIn ksz ssz 200 (kx4 tab l n i) r.1:=by
 cases hk:(i.kind.toList==[])
 ·cases ha:(qo tab n.text.toList).var.arr
  ·exact absurd (by unfold kx4;rw[hk,ha];rfl) ht
  ·cases hx:qkh tab l i (qo tab n.text.toList).var.over
   ·exact absurd (by unfold kx4;rw[hk,ha,hx];rfl) ht
   ·have hT:kx4 tab l n i=kzc tab (qo tab n.text.toList).var.si:=by unfold kx4;rw[hk,ha,hx];rfl
    obtain ⟨_,v,hv1,hv2⟩:=he.var _ (he.arr _ ha);obtain ⟨j,w,h1,h2⟩:=vkc he hp hs v _ hv2 i (fun _=>⟨ha,hx⟩);obtain ⟨x,hx1,hx2,hx3⟩:=hs.val v (lZ hv1) j h2;have hfew:=hv2.few;refine ⟨(x,w),?_,by rw[hT];exact vkx hv2 hx2 hx3⟩;unfold zju;rw[hk,if_neg (by simp),hv1];show (atO vars mt l ms st v i).bind _=_;rw[h1];show (if (v.first:Int)+(j:Nat)<0 then none else (st[((v.first:Int)+(j:Nat)).toNat]?).bind fun x=>(small x).map fun y=>(y,w))=_;rw[if_neg (by omega),show ((v.first:Int)+(j:Nat)).toNat=v.first+j by omega,hx1];show (small x).map _=_;rw[kx6 (by omega) (by omega)];rfl
 ·have hT:kx4 tab l n i=kjd tab l n:=by unfold kx4;rw[hk];rfl
  rw[hT] at ht ⊢;obtain ⟨x,h1,h2⟩:=jji he hp hs n ht;refine ⟨(x,false),?_,h2⟩;unfold zju;rw[hk,if_pos rfl,h1];rfl
def kz9:PX→Nat
 | .nil=>0
 | .node _ _ _ a c=>kz9 a+kz9 c+1
def zqz:PX→Prop
 | .nil=>True
 | .node _ _ x a c=>((opN x.op.toList==3)=true→0≤x.n∧x.n≤9)∧zqz a∧zqz c
theorem zvk (ksz ssz:List UInt8→Nat)(B:Nat)(c:Bool):VIn ksz ssz B ⟨1,⟨#[]⟩⟩ (zql c):=
 ⟨fun _=>by cases c;exact Or.inl rfl;exact Or.inr rfl,fun e=>by simp at e,fun e=>by simp at e,fun e=>by simp at e,fun e=>by simp at e,Or.inl rfl⟩
theorem kxe {f:Int}{c:Bool}(h:(kkh f c).fam≠0):c=true∧kkh f c=⟨f,⟨#[]⟩⟩:=by
 unfold kkh at h ⊢;cases c
 ·exact absurd rfl h
 ·exact ⟨rfl,rfl⟩
theorem kvv {c:Prop}[Decidable c]{a b:Int}(ha:0≤a)(hb:0≤b):0≤if c then a else b:=by split<;>assumption
theorem vj3 (o:List UInt8):0≤opN o:=by
 unfold opN;exact kvv (by decide) (kvv (by decide) (kvv (by decide) (kvv (by decide) (kvv (by decide) (kvv (by decide) (kvv (by decide) (kvv (by decide) (kvv (by decide) (kvv (by decide) (kvv (by decide) (kvv (by decide) (kvv (by decide) (by decide)))))))))))))
theorem jjz {o:Int}{x y:VT}(h:(qzr o x y).fam≠0):x.fam≠0∧y.fam≠0∧((o==6||o==7)=true→(x.fam=1∧y.fam=1)∧qzr o x y=⟨1,⟨#[]⟩⟩)∧((o==6||o==7)=false→(o==11||o==12)=true→(x.fam=2∧y.fam=2)∧qzr o x y=⟨2,⟨#[]⟩⟩)∧((o==6||o==7)=false→(o==11||o==12)=false→qzr o x y=⟨1,⟨#[]⟩⟩):=by
 unfold qzr at h ⊢;cases h6:(o==6||o==7)
 ·rw[h6] at h;simp only[if_neg (show ¬false=true by simp)] at h ⊢;cases h11:(o==11||o==12)
  ·rw[h11] at h;simp only[if_neg (show ¬false=true by simp)] at h ⊢;cases h10:(o==10)
   ·rw[h10] at h;simp only[if_neg (show ¬false=true by simp)] at h ⊢;obtain ⟨hc,hm⟩:=kxe h;have hf:x.fam≠0∧y.fam≠0:=by
     unfold zwk kyw at hc;simp only[lg,wY,wP,nP,lu] at hc;rcases hc with (((⟨⟨⟨h1,_⟩,h2⟩,_⟩)|⟨h1,h2⟩)|⟨h1,h2⟩)
     ·exact ⟨h2,by rw[←h1];exact h2⟩
     ·exact ⟨by rw[h1];decide,by rw[h2];decide⟩
     ·exact ⟨by rw[h1];decide,by rw[h2];decide⟩
    exact ⟨hf.1,hf.2,(fun e=>by cases e),(fun _ e=>by cases e),fun _ _=>hm⟩
   ·rw[h10] at h;simp only[if_pos rfl] at h ⊢;obtain ⟨hc,hm⟩:=kxe h;rw[wY,wP,wP] at hc;exact ⟨by rw[hc.1];decide,by rw[hc.2];decide,(fun e=>by cases e),(fun _ e=>by cases e),fun _ _=>hm⟩
  ·rw[h11] at h;simp only[if_pos rfl] at h ⊢;obtain ⟨hc,hm⟩:=kxe h;rw[wY,wP,wP] at hc;exact ⟨by rw[hc.1];decide,by rw[hc.2];decide,(fun e=>by cases e),(fun _ _=>⟨hc,hm⟩),fun _ e=>by cases e⟩
 ·rw[h6] at h;simp only[if_pos rfl] at h ⊢;obtain ⟨hc,hm⟩:=kxe h;rw[wY,wP,wP] at hc;exact ⟨by rw[hc.1];decide,by rw[hc.2];decide,(fun _=>⟨hc,hm⟩),(fun e=>by cases e),fun e=>by cases e⟩
theorem val_ok (he:EnvOk tab vars mt ksz ssz size)(hp:ParOk ssz l ms)(hs:kqp vars size st):∀ (x:PX),kv9 x→zqz x→isNil x=false→kz9 x≤4000→(kqg tab l x).fam≠0→∃ r,qja vars mt l ms st x=some r∧VIn ksz ssz (200 * kz9 x) (kqg tab l x) r.1
 | .nil,_,_,hn,_,_=>by cases hn
 | .node i j x a c,hx,hnum,hn,hsz,ht=>by
  obtain ⟨⟨hxa,hxc⟩,hfa,hfc⟩:=hx;obtain ⟨hn3,hna,hnc⟩:=hnum;have hS:kz9 (.node i j x a c)=kz9 a+kz9 c+1:=rfl;rw[hS] at hsz ⊢;have iha:=val_ok he hp hs a hfa hna;have ihc:=val_ok he hp hs c hfc hnc;rw[kqg] at ht ⊢;rw[qja];have hop:=vj3 x.op.toList;generalize opN x.op.toList=o at *;cases h0:(o==0)
  ·cases h1:(o==1)
   ·cases h2:(o==2)
    ·cases h3:(o==3)
     ·cases h4:(o==4)
      ·cases h5:(o==5)
       ·
        have ho:6≤o:=by
         have:o≠0∧o≠1∧o≠2∧o≠3∧o≠4∧o≠5:=⟨by simpa using h0,by simpa using h1,by simpa using h2,by simpa using h3,by simpa using h4,by simpa using h5⟩;omega
        simp only[h0,h1,h2,h3,h4,h5,lQ,nM,Qn,if_neg (show ¬false=true by simp)] at ht ⊢;obtain ⟨ga,gc,k1,k2,k3⟩:=jjz ht;obtain ⟨p,hp1,hp2⟩:=iha (hxa (by omega)) (by omega) ga;obtain ⟨q,hq1,hq2⟩:=ihc (hxc ho) (by omega) gc;have sp:=hp2.small he.kb he.sb (by omega);have sq:=hq2.small he.kb he.sb (by omega);refine ⟨(kz5 o p.1 q.1,p.2||q.2),?_,?_⟩
        ·rw[hp1,hq1];show (small p.1).bind _=_;rw[kx6 (by omega) (by omega)];show (small q.1).map _=_;rw[kx6 (by omega) (by omega)];rfl
        ·show VIn ksz ssz (200 * (kz9 a+kz9 c+1)) (qzr o (kqg tab l a) (kqg tab l c)) (kz5 o p.1 q.1);cases h6:(o==6||o==7)
         ·cases h11:(o==11||o==12)
          ·rw[k3 h6 h11];rw[fC] at h6 h11;unfold kz5;rw[h6.1,h6.2,h11.1,h11.2];cases h10:(o==10)
           ·cases h9:(o==9)
            ·exact zvk _ _ _ _
            ·exact zvk _ _ _ _
           ·exact zvk _ _ _ _
          ·obtain ⟨⟨e1,e2⟩,e3⟩:=k2 h6 h11;rw[e3];have b1:=hp2.num e1;have b2:=hq2.num e2;rw[fC] at h6;have hj:kz5 o p.1 q.1=p.1+q.1∨kz5 o p.1 q.1=p.1-q.1:=by
            unfold kz5;rw[h6.1,h6.2];cases h12:(o==11)
            ·rw[h12,lQ] at h11;rw[h11];exact Or.inr rfl
            ·exact Or.inl rfl
           refine ⟨fun e=>by simp at e,fun _=>?_,fun e=>by simp at e,fun e=>by simp at e,fun e=>by simp at e,Or.inr (Or.inl rfl)⟩;rcases hj with e|e<;>rw[e]<;>constructor<;>omega
         ·obtain ⟨⟨e1,e2⟩,e3⟩:=k1 h6;rw[e3];have b1:=hp2.tru e1;have b2:=hq2.tru e2;refine ⟨fun _=>?_,fun e=>by simp at e,fun e=>by simp at e,fun e=>by simp at e,fun e=>by simp at e,Or.inl rfl⟩;unfold kz5;cases h66:(o==6)
          ·rw[h66,lQ] at h6;rw[h6];show max p.1 q.1=0∨max p.1 q.1=1;omega
          ·show min p.1 q.1=0∨min p.1 q.1=1;omega
       ·
        have ho:o=5:=by simpa using h5
        subst ho;simp only[h0,h1,h2,h3,h4,lQ,nM,Qn,if_neg (show ¬false=true by simp),if_pos rfl,beq_self_eq_true] at ht ⊢;obtain ⟨hc,hm⟩:=kxe ht;rw[hm];rw[wP] at hc;obtain ⟨r,hr1,hr2⟩:=iha (hxa (by decide)) (by omega) (by rw[hc];decide);have:=hr2.tru hc;rw[hr1];refine ⟨(1-r.1,r.2),?_,⟨fun _=>by show (1-r.1=0∨1-r.1=1);omega,fun e=>by simp at e,fun e=>by simp at e,fun e=>by simp at e,fun e=>by simp at e,Or.inl rfl⟩⟩;show (small r.1).map _=_;rw[kx6 (by omega) (by omega)];rfl
      ·simp only[h0,h1,h2,h3,h4,lQ,nM,Qn,if_neg (show ¬false=true by simp),if_pos rfl] at ht ⊢;obtain ⟨r,h1,h2⟩:=vvy he hp hs x.name x.index ht;exact ⟨r,h1,h2.mono (by omega)⟩
     ·simp only[h0,h1,h2,lQ,nM,Qn,if_neg (show ¬false=true by simp),if_pos rfl] at ht ⊢;obtain ⟨n0,n9⟩:=hn3 h3;exact ⟨_,rfl,⟨fun e=>by simp at e,fun _=>⟨by show -(((200 * (kz9 a+kz9 c+1):Nat)):Int)≤x.n;omega,by show x.n≤((200 * (kz9 a+kz9 c+1):Nat):Int);omega⟩,fun e=>by simp at e,fun e=>by simp at e,fun e=>by simp at e,Or.inr (Or.inl rfl)⟩⟩
    ·have ho:o=2:=by simpa using h2
     subst ho;simp only[h0,h1,lQ,nM,Qn,if_neg (show ¬false=true by simp),if_pos rfl,beq_self_eq_true,show ((2:Int)==3)=false from rfl,Qw] at ht ⊢;exact ⟨_,rfl,⟨fun e=>by simp at e,fun e=>by simp at e,fun e=>by simp at e,fun e=>by simp at e,fun _=>rfl,by simp⟩⟩
   ·simp only[h0,h1,lQ,Qc,Qw,if_neg (show ¬false=true by simp),if_pos rfl] at ht ⊢;exact ⟨_,rfl,⟨fun _=>Or.inl rfl,fun e=>by simp at e,fun e=>by simp at e,fun e=>by simp at e,fun e=>by simp at e,Or.inl rfl⟩⟩
  ·simp only[h0,Qc,if_pos rfl] at ht ⊢;exact ⟨_,rfl,⟨fun _=>Or.inr rfl,fun e=>by simp at e,fun e=>by simp at e,fun e=>by simp at e,fun e=>by simp at e,Or.inl rfl⟩⟩
end Go.Proofs.YtpmcnonmkghokaaGreatDoor
namespace Go.Proofs.YtpmcnonmkghokaaGreatDoor
open Go.RowKit
def qq4 (vars:List MVar):Prop:=∀ (i j:Nat) (u v:MVar),vars[i]?=some u→vars[j]?=some v→i≠j→u.first+u.count≤v.first∨v.first+v.count≤u.first
theorem kqp.put {vars:List MVar}{size:Nat}{st:List Int}(h:kqp vars size st)(hd:qq4 vars){k:Nat}{v:MVar}(hv:vars[k]?=some v){j:Nat}(hj:j<v.count){x:Int}(h0:0≤x)(h1:x<v.texts.length):kqp vars size (st.set (v.first+j) x):=by
 refine ⟨by rw[Qa];exact h.len,fun u hu i hi=>?_⟩;obtain ⟨y,hy,hy0,hy1⟩:=h.val u hu i hi;obtain ⟨m,hm,rfl⟩:=sZ hu;have hm':vars[m]?=some vars[m]:=ny hm;by_cases e:vars[m].first+i=v.first+j
 ·by_cases hmk:m=k
  ·subst hmk;have:vars[m]=v:=by rw[hm'] at hv;injection hv
   rw[e];have hlt:v.first+j<st.length:=by
    have:=(nJ.mp hy).1;omega
   refine ⟨x,by rw[QB hlt],h0,by rw[this];exact h1⟩
  ·rcases hd m k _ _ hm' hv hmk with q|q<;>omega
 ·exact ⟨y,by rw[Qr (by omega)];exact hy,hy0,hy1⟩
def zwm:PB→Prop
 | .nil=>True
 | .node _ _ a .nil n=>(zqz a.value∧kz9 a.value≤4000)∧zwm n
 | .node _ _ a (.node _ _ _ t e) n=>(zqz a.cond∧kz9 a.cond≤4000)∧zwm t∧zwm e∧zwm n
variable {tab:Tab} {vars:List MVar} {mt:uq} {ksz ssz:List UInt8→Nat} {size:Nat} {l:List PP} {ms st:List Int}
theorem vxw:opN [112,108,97,99,101]=4:=by decide
theorem zxl (tab:Tab)(l:List PP)(x:ELab)(h:x.op.toList=[112,108,97,99,101]):kqg tab l (.node 0 0 x .nil .nil)=kx4 tab l x.name x.index:=by
 rw[kqg,h,vxw];rfl
theorem zy8 {tab:Tab}{l:List PP}{p v:PX}(h:jz2 tab l p v=true):(qo tab (zqw p).toList).role=4∧(kqg tab l p).fam≠0∧(kqg tab l v).fam≠0:=by
 unfold jz2 kyw at h;simp only[lg,wY,wP,nP,lu] at h;rcases h with ⟨hr,⟨⟨⟨h1,_⟩,h2⟩,_⟩|⟨h1,h2⟩⟩
 ·exact ⟨hr,h2,by rw[←h1];exact h2⟩
 ·exact ⟨hr,by rw[h1];decide,by rw[h2];decide⟩
theorem vzw (he:EnvOk tab vars mt ksz ssz size)(hd:qq4 vars)(hp:ParOk ssz l ms)(hs:kqp vars size st)(x:ELab)(v:PX)(hop:x.op.toList=[112,108,97,99,101])(hf:kv9 v)(hn:zqz v)(hnil:isNil v=false)(hz:kz9 v≤4000)(ht:jz2 tab l (.node 0 0 x .nil .nil) v=true):∃ r,zxd vars mt l ms st x.name x.index v=some r∧kqp vars size r.1:=by
 obtain ⟨hr,hpf,hvf⟩:=zy8 ht;rw[zxl tab l x hop] at hpf;obtain ⟨p,hp1,hp2⟩:=val_ok he hp hs v hf hn hnil hz hvf;obtain ⟨_,u,hu1,hu2⟩:=he.var _ hr;obtain ⟨j,w,ha1,ha2⟩:=vkc he hp hs u _ hu2 x.index (fun hk=>by
  unfold kx4 at hpf;rw[hk] at hpf;cases ha:(qo tab x.name.text.toList).var.arr
  ·rw[ha] at hpf;exact absurd rfl hpf
  ·cases hx:qkh tab l x.index (qo tab x.name.text.toList).var.over
   ·rw[ha,hx] at hpf;exact absurd rfl hpf
   ·exact ⟨ha,hx⟩)
 have hfit:=hu2.fit;have hlen:=hs.len;have hfew:=hu2.few;unfold zxd;rw[hp1];show ∃ r,((vars[(kjt mt x.name.text.toList).num]?).bind fun v=>(atO vars mt l ms st v x.index).bind fun q=>if p.1<0||p.1 ≥ (v.texts.length:Int) then some (st,true) else if p.1 > 255||q.1<0||q.1 ≥ (st.length:Int) then none else some (st.set q.1.toNat p.1,p.2||q.2))=some r∧kqp vars size r.1;rw[show zqw (.node 0 0 x .nil .nil)=x.name.text from rfl] at hu1;rw[hu1];show ∃ r,((atO vars mt l ms st u x.index).bind fun q=>if p.1<0||p.1 ≥ (u.texts.length:Int) then some (st,true) else if p.1 > 255||q.1<0||q.1 ≥ (st.length:Int) then none else some (st.set q.1.toNat p.1,p.2||q.2))=some r∧kqp vars size r.1;rw[ha1];show ∃ r,(if p.1<0||p.1 ≥ (u.texts.length:Int) then some (st,true) else if p.1 > 255||((u.first:Int)+(j:Nat))<0||((u.first:Int)+(j:Nat)) ≥ (st.length:Int) then none else some (st.set ((u.first:Int)+(j:Nat)).toNat p.1,p.2||w))=some r∧kqp vars size r.1;by_cases hc:p.1<0∨p.1 ≥ (u.texts.length:Int)
 ·rw[if_pos (by simpa using hc)];exact ⟨_,rfl,hs⟩
 ·have hc1:0≤p.1∧p.1<(u.texts.length:Int):=by omega
  rw[if_neg (by simpa using hc),if_neg (by simp;omega)];refine ⟨_,rfl,?_⟩;show kqp vars size (st.set ((u.first:Int)+(j:Nat)).toNat p.1);rw[show ((u.first:Int)+(j:Nat)).toNat=u.first+j by omega];exact hs.put hd hu1 ha2 hc1.1 hc1.2
theorem qya (he:EnvOk tab vars mt ksz ssz size)(hd:qq4 vars)(hp:ParOk ssz l ms):∀ (b:PB),kwx b→zwm b→kzf tab l b=true→∀ st,kqp vars size st→∃ r,doO vars mt l ms b st=some r∧kqp vars size r.1
 | .nil,_,_,_,st,hs=>⟨_,rfl,hs⟩
 | .node _ _ a .nil n,hf,hn,ht,st,hs=>by
  obtain ⟨⟨h1,h2,x,h3,h4⟩,hfn⟩:=hf;obtain ⟨⟨n1,n2⟩,hnn⟩:=hn;rw[kzf,wY,h3] at ht;obtain ⟨p,hp1,hp2⟩:=vzw he hd hp hs x a.value h4 h1 n1 h2 n2 ht.1;obtain ⟨q,hq1,hq2⟩:=qya he hd hp n hfn hnn ht.2 p.1 hp2;refine ⟨(q.1,p.2||q.2),?_,hq2⟩;rw[doO,h3];show (zxd vars mt l ms st x.name x.index a.value).bind _=_;rw[hp1];show (doO vars mt l ms n p.1).map _=_;rw[hq1];rfl
 | .node _ _ a (.node _ _ _ t e) n,hf,hn,ht,st,hs=>by
  obtain ⟨⟨h1,h2⟩,hft,hfe,hfn⟩:=hf;obtain ⟨⟨n1,n2⟩,hnt,hne,hnn⟩:=hn;rw[kzf,wY,wY,wY,wP] at ht;obtain ⟨⟨⟨t1,t2⟩,t3⟩,t4⟩:=ht;obtain ⟨c,hc1,hc2⟩:=val_ok he hp hs a.cond h1 n1 h2 n2 (by rw[t1];decide);obtain ⟨pt,ht1,ht2⟩:=qya he hd hp t hft hnt t2 st hs;obtain ⟨pe,he1,he2⟩:=qya he hd hp e hfe hne t3 st hs;rw[doO,hc1];show ∃ r,((if c.1==1 then doO vars mt l ms t st else doO vars mt l ms e st).bind fun p=>(doO vars mt l ms n p.1).map fun q=>(q.1,c.2||p.2||q.2))=some r∧kqp vars size r.1;cases hcc:(c.1==1)
  ·obtain ⟨q,hq1,hq2⟩:=qya he hd hp n hfn hnn t4 pe.1 he2;rw[if_neg (by simp),he1];show ∃ r,((doO vars mt l ms n pe.1).map fun q=>(q.1,c.2||pe.2||q.2))=some r∧kqp vars size r.1;rw[hq1];exact ⟨_,rfl,hq2⟩
  ·obtain ⟨q,hq1,hq2⟩:=qya he hd hp n hfn hnn t4 pt.1 ht2;rw[if_pos rfl,ht1];show ∃ r,((doO vars mt l ms n pt.1).map fun q=>(q.1,c.2||pt.2||q.2))=some r∧kqp vars size r.1;rw[hq1];exact ⟨_,rfl,hq2⟩
structure StepFit (tab:Tab)(ssz:List UInt8→Nat)(s:MStep):Prop where
 par:ParOk ssz s.params s.mems
 full:kv9 s.guard∧zqz s.guard∧isNil s.guard=false∧kz9 s.guard≤4000∧(kqg tab s.params s.guard).fam=1
 blk:kwx s.block∧zwm s.block∧kzf tab s.params s.block=true
structure NevFit (tab:Tab)(ssz:List UInt8→Nat)(s:MNever):Prop where
 par:ParOk ssz s.params s.mems
 full:kv9 s.expr∧zqz s.expr∧isNil s.expr=false∧kz9 s.expr≤4000∧(kqg tab s.params s.expr).fam=1
theorem vxs (he:EnvOk tab vars mt ksz ssz size)(hd:qq4 vars)(hs:kqp vars size st)(s:MStep)(h:StepFit tab ssz s):∃ r,kv7 vars mt s.params s.mems st s.guard s.block=some r∧(r.2=1→kqp vars size r.1)∧(r.2=0∨r.2=1∨r.2=2):=by
 obtain ⟨f1,f2,f3,f4,f5⟩:=h.full;obtain ⟨b1,b2,b3⟩:=h.blk;obtain ⟨c,hc1,hc2⟩:=val_ok he h.par hs s.guard f1 f2 f3 f4 (by rw[f5];decide);obtain ⟨p,hp1,hp2⟩:=qya he hd h.par s.block b1 b2 b3 st hs;unfold kv7;rw[hc1];show ∃ r,((if c.1==1 then doO vars mt s.params s.mems s.block st else some (st,false)).map fun p=>if (c.2||p.2) then (([],2):List Int × Int) else if c.1==1 then (p.1,1) else ([],0))=some r∧_;cases hcc:(c.1==1)
 ·rw[if_neg (by simp)];refine ⟨_,rfl,?_,?_⟩
  ·show (if (c.2||false) then (([],2):List Int × Int) else if false=true then (st,1) else ([],0)).2=1→_;cases c.2<;>intro e<;>simp at e
  ·show (if (c.2||false) then (([],2):List Int × Int) else if false=true then (st,1) else ([],0)).2=0∨_;cases c.2
   ·exact Or.inl rfl
   ·exact Or.inr (Or.inr rfl)
 ·rw[if_pos rfl,hp1];refine ⟨_,rfl,?_,?_⟩
  ·show (if (c.2||p.2) then (([],2):List Int × Int) else if true=true then (p.1,1) else ([],0)).2=1→kqp vars size (if (c.2||p.2) then (([],2):List Int × Int) else if true=true then (p.1,1) else ([],0)).1;cases (c.2||p.2)
   ·intro _;exact hp2
   ·intro e;cases e
  ·have key:∀ b:Bool,(if b then (([],2):List Int × Int) else if true=true then (p.1,1) else ([],0)).2=0∨(if b then (([],2):List Int × Int) else if true=true then (p.1,1) else ([],0)).2=1∨(if b then (([],2):List Int × Int) else if true=true then (p.1,1) else ([],0)).2=2:=fun b=>by
    cases b
    ·exact Or.inr (Or.inl rfl)
    ·exact Or.inr (Or.inr rfl)
   exact key (c.2||p.2)
theorem zwv (he:EnvOk tab vars mt ksz ssz size)(hs:kqp vars size st)(s:MNever)(h:NevFit tab ssz s):∃ r,zxg vars mt s.params s.mems st s.expr=some r:=by
 obtain ⟨f1,f2,f3,f4,f5⟩:=h.full;obtain ⟨c,hc1,hc2⟩:=val_ok he h.par hs s.expr f1 f2 f3 f4 (by rw[f5];decide);unfold zxg;rw[hc1];exact ⟨_,rfl⟩
end Go.Proofs.YtpmcnonmkghokaaGreatDoor
namespace Go.Proofs.YtpmcnonmkghokaaGreatDoor
open Go.RowKit
structure TauOk (ssz:List UInt8→Nat)(τ:Int→Int):Prop where
 zero:τ 0=0
 rng:∀ s (x:Int),0<x→x≤(ssz s:Int)→0<τ x∧τ x≤(ssz s:Int)
 inj:∀ s (x y:Int),0≤x→x≤(ssz s:Int)→0≤y→y≤(ssz s:Int)→τ x=τ y→x=y
def vlT (τ:Int→Int)(b:Bool)(x:Int):Int:=if b then τ x else x
def tvT (τ:Int→Int)(ty:VT)(x:Int):Int:=vlT τ (ty.fam==4) x
def zve (τ:Int→Int)(b:Bool)(j:Nat):Nat:=if b then (τ ((j:Int)+1)).toNat-1 else j
structure kjg (τ:Int→Int)(ar sv:Nat→Bool)(vars:List MVar)(st st':List Int):Prop where
 len:st'.length=st.length
 val:∀ m v,vars[m]?=some v→∀ j,j<v.count→st'[v.first+zve τ (ar m) j]?=(st[v.first+j]?).map (vlT τ (sv m))
def msT (τ:Int→Int)(ms:List Int):List Int:=ms.map fun m=>τ (m+1)-1
structure TurnEnv (tab:Tab)(vars:List MVar)(mt:uq)(ssz:List UInt8→Nat)(ar sv:Nat→Bool):Prop where
 arr:∀ s,(qo tab s).role=4→ar (kjt mt s).num=(qo tab s).var.arr
 set:∀ s,(qo tab s).role=4→sv (kjt mt s).num=((kzc tab (qo tab s).var.si).fam==4)
 cnt:∀ m v,vars[m]?=some v→ar m=true→∃ s,v.count=ssz s
theorem vzl {ssz:List UInt8→Nat}{τ:Int→Int}(h:TauOk ssz τ)(b:Bool):vlT τ b 0=0:=by
 cases b
 ·rfl
 ·exact h.zero
theorem kw8 {τ:Int→Int}{ty:VT}(h:ty.fam≠4)(x:Int):tvT τ ty x=x:=by
 unfold tvT;rw[show (ty.fam==4)=false by simpa using h];rfl
theorem qk8 {τ:Int→Int}{ty:VT}(h:ty.fam=4)(x:Int):tvT τ ty x=τ x:=by
 unfold tvT;rw[show (ty.fam==4)=true by simpa using h];rfl
theorem jyi (τ:Int→Int)(b:ByteArray)(x:Int):tvT τ ⟨1,b⟩ x=x:=rfl
theorem vka (τ:Int→Int)(b:ByteArray)(x:Int):tvT τ ⟨3,b⟩ x=x:=rfl
theorem vkq {ssz:List UInt8→Nat}{τ:Int→Int}(h:TauOk ssz τ){b:Bool}{n:Nat}(hn:b=true→∃ s,n=ssz s){j:Nat}(hj:j<n):zve τ b j<n:=by
 cases b
 ·exact hj
 ·obtain ⟨s,rfl⟩:=hn rfl;have:=h.rng s ((j:Int)+1) (by omega) (by omega);show (τ ((j:Int)+1)).toNat-1<ssz s;omega
theorem vvu {ssz:List UInt8→Nat}{τ:Int→Int}(h:TauOk ssz τ){b:Bool}{n:Nat}(hn:b=true→∃ s,n=ssz s){i j:Nat}(hi:i<n)(hj:j<n)(e:zve τ b i=zve τ b j):i=j:=by
 cases b
 ·exact e
 ·obtain ⟨s,rfl⟩:=hn rfl;have h1:=h.rng s ((i:Int)+1) (by omega) (by omega);have h2:=h.rng s ((j:Int)+1) (by omega) (by omega);have e':(τ ((i:Int)+1)).toNat-1=(τ ((j:Int)+1)).toNat-1:=e;have:=h.inj s ((i:Int)+1) ((j:Int)+1) (by omega) (by omega) (by omega) (by omega) (by omega);omega
variable {tab:Tab} {vars:List MVar} {mt:uq} {ksz ssz:List UInt8→Nat} {size:Nat} {l:List PP} {ms st st':List Int} {τ:Int→Int} {ar sv:Nat→Bool}
theorem kwd {x y:Int}(h:small x=some y):y=x:=by
 unfold small at h;split at h
 ·injection h with h;exact h.symm
 ·cases h
theorem zy6 (he:EnvOk tab vars mt ksz ssz size)(hE:TurnEnv tab vars mt ssz ar sv)(hs:kqp vars size st)(hT:kjg τ ar sv vars st st')(n:Tok)(ht:(kjd tab l n).fam≠0){x y:Int}(hx:zx7 vars mt l ms st n.text.toList=some x)(hy:zx7 vars mt l (msT τ ms) st' n.text.toList=some y):y=tvT τ (kjd tab l n) x:=by
 unfold zx7 at hx hy;cases hf:fpB l n.text.toList
 ·rw[hf,if_neg (by simp)] at hx hy;cases h3:((qo tab n.text.toList).role==3)
  ·cases h4:((qo tab n.text.toList).role==4&&!(qo tab n.text.toList).var.arr)
   ·exact absurd (by unfold kjd;rw[hf,h3,h4];rfl) ht
   ·have hTy:kjd tab l n=kzc tab (qo tab n.text.toList).var.si:=by unfold kjd;rw[hf,h3,h4];rfl
    rw[wY,wP,nP] at h4;obtain ⟨hv,v,hv1,hv2⟩:=he.var _ h4.1;rw[hv,if_pos rfl,hv1] at hx hy;have ha:=hE.arr _ h4.1;have hb:=hE.set _ h4.1;rw[h4.2] at ha;have hval:=hT.val _ v hv1 0 (by have:=hv2.pos;omega);rw[ha,hb] at hval;have hval:st'[v.first]?=(st[v.first]?).map (vlT τ ((kzc tab (qo tab n.text.toList).var.si).fam==4)):=hval;have hx':(st[v.first]?).bind small=some x:=hx;have hy':(st'[v.first]?).bind small=some y:=hy;obtain ⟨u,u1,u2⟩:=wQ.mp hx';rw[hval,u1] at hy';rw[kwd u2,hTy];exact kwd hy'
  ·have hTy:kjd tab l n=⟨3,(qo tab n.text.toList).kind⟩:=by unfold kjd;rw[hf,h3];rfl
   rw[wP] at h3;obtain ⟨hv,hk⟩:=he.mem _ h3;rw[hv,if_neg (by simp)] at hx hy;injection hx with hx;injection hy with hy;rw[hTy,vka,←hx,←hy]
 ·have hTy:kjd tab l n=⟨4,(fpP l n.text.toList).set_.text⟩:=by unfold kjd;rw[hf];rfl
  rw[hf,if_pos rfl] at hx hy;unfold msT at hy;rw[lq] at hy;obtain ⟨u,u1,u2⟩:=wQ.mp hx;rw[u1] at hy;obtain ⟨a,a1,a2⟩:=rQ.mp u2;have hy':(small (τ (u+1)-1)).map (·+1)=some y:=hy;obtain ⟨b,b1,b2⟩:=rQ.mp hy';rw[hTy,qk8 rfl,←a2,←b2,kwd a1,kwd b1];omega
theorem jv8 (he:EnvOk tab vars mt ksz ssz size)(hτ:TauOk ssz τ)(hE:TurnEnv tab vars mt ssz ar sv)(hp:ParOk ssz l ms)(hs:kqp vars size st)(hT:kjg τ ar sv vars st st')(m:Nat)(v:MVar)(d:VrT)(hm:vars[m]?=some v)(hv:MvOk tab ksz ssz size v d)(hda:ar m=d.arr)(i:Tok)(hi:(i.kind.toList==[])=false→d.arr=true∧qkh tab l i d.over=true)(hj:(i.kind.toList==[])=true→d.arr=false){p q:Int × Bool}(h1:atO vars mt l ms st v i=some p)(h2:atO vars mt l (msT τ ms) st' v i=some q):p.2=q.2∧(p.2=false→∃ j,j<v.count∧p.1=(v.first:Int)+(j:Nat)∧q.1=(v.first:Int)+((zve τ (ar m) j:Nat):Int)):=by
 unfold atO at h1 h2;cases hk:(i.kind.toList==[])
 ·obtain ⟨ha,hx⟩:=hi hk;rw[hk,if_neg (by simp)] at h1 h2;unfold qkh at hx;rw[wY,wP,wP] at hx;obtain ⟨x,x1,x2⟩:=jji he hp hs i (by rw[hx.1];decide);have hr:=x2.set hx.1;rw[hx.2] at hr;have hc:=hv.cnt;rw[ha,if_pos rfl] at hc;obtain ⟨y,y1,y2⟩:=wQ.mp h2;have hxy:=zy6 he hE hs hT i (by rw[hx.1];decide) x1 y1;rw[qk8 hx.1] at hxy;rw[x1] at h1;have h1':(if x==0 then some ((v.first:Int),true) else (small x).bind fun _=>(small v.first).map fun _=>((v.first:Int)+x-1,false))=some p:=h1;cases h0:(x==0)
  ·have hx0:x≠0:=by simpa using h0
   have hr2:=hτ.rng _ x (by omega) hr.2;have hy0:(y==0)=false:=by rw[hxy];simp;omega
   rw[h0,if_neg (by simp)] at h1';rw[hy0,if_neg (by simp)] at y2;obtain ⟨_,_,h1'⟩:=wQ.mp h1';obtain ⟨_,_,rfl⟩:=rQ.mp h1';obtain ⟨_,_,y2⟩:=wQ.mp y2;obtain ⟨_,_,rfl⟩:=rQ.mp y2;refine ⟨rfl,fun _=>⟨x.toNat-1,by omega,by show (v.first:Int)+x-1=_;omega,?_⟩⟩;rw[hda,ha];show (v.first:Int)+y-1=(v.first:Int)+(((τ (((x.toNat-1:Nat):Int)+1)).toNat-1:Nat):Int);rw[show ((x.toNat-1:Nat):Int)+1=x by omega,hxy];omega
  ·have hx0:x=0:=by simpa using h0
   have hy0:(y==0)=true:=by rw[hxy,hx0,hτ.zero];rfl
   rw[h0,if_pos rfl] at h1';rw[hy0,if_pos rfl] at y2;injection h1' with h1';injection y2 with y2;rw[←h1',←y2];exact ⟨rfl,fun e=>by cases e⟩
 ·rw[hk,if_pos rfl] at h1 h2;injection h1 with h1;injection h2 with h2;rw[←h1,←h2];refine ⟨rfl,fun _=>⟨0,hv.pos,by show (v.first:Int)=_;omega,?_⟩⟩;rw[hda,hj hk];show (v.first:Int)=(v.first:Int)+((0:Nat):Int);omega
theorem vqs (he:EnvOk tab vars mt ksz ssz size)(hτ:TauOk ssz τ)(hE:TurnEnv tab vars mt ssz ar sv)(hp:ParOk ssz l ms)(hs:kqp vars size st)(hT:kjg τ ar sv vars st st')(n i:Tok)(ht:(kx4 tab l n i).fam≠0){p q:Int × Bool}(h1:zju vars mt l ms st n i=some p)(h2:zju vars mt l (msT τ ms) st' n i=some q):p.2=q.2∧(p.2=false→q.1=tvT τ (kx4 tab l n i) p.1):=by
 unfold zju at h1 h2;cases hk:(i.kind.toList==[])
 ·rw[hk,if_neg (by simp)] at h1 h2;cases ha:(qo tab n.text.toList).var.arr
  ·exact absurd (by unfold kx4;rw[hk,ha];rfl) ht
  ·cases hx:qkh tab l i (qo tab n.text.toList).var.over
   ·exact absurd (by unfold kx4;rw[hk,ha,hx];rfl) ht
   ·have hTy:kx4 tab l n i=kzc tab (qo tab n.text.toList).var.si:=by unfold kx4;rw[hk,ha,hx];rfl
    have hr:=he.arr _ ha;obtain ⟨_,v,hv1,hv2⟩:=he.var _ hr;rw[hv1] at h1 h2;obtain ⟨a,a1,a2⟩:=wQ.mp (show (atO vars mt l ms st v i).bind _=some p from h1);obtain ⟨b,b1,b2⟩:=wQ.mp (show (atO vars mt l (msT τ ms) st' v i).bind _=some q from h2);obtain ⟨e1,e2⟩:=jv8 he hτ hE hp hs hT _ v _ hv1 hv2 (hE.arr _ hr) i (fun _=>⟨ha,hx⟩) (fun e=>by rw[hk] at e;cases e) a1 b1;split at a2
    ·cases a2
    ·split at b2
     ·cases b2
     ·obtain ⟨x,x1,x2⟩:=wQ.mp a2;obtain ⟨x',x3,rfl⟩:=rQ.mp x2;obtain ⟨y,y1,y2⟩:=wQ.mp b2;obtain ⟨y',y3,rfl⟩:=rQ.mp y2;refine ⟨e1,fun hw=>?_⟩;obtain ⟨j,j1,j2,j3⟩:=e2 hw;have hval:=hT.val _ v hv1 j j1;rw[hE.set _ hr] at hval;rw[j2,show ((v.first:Int)+(j:Nat)).toNat=v.first+j by omega] at x1;rw[j3,show ∀ k:Nat,((v.first:Int)+(k:Int)).toNat=v.first+k from fun k=>by omega,hval,x1] at y1;injection y1 with y1;show y'=tvT τ (kx4 tab l n i) x';rw[kwd x3,kwd y3,←y1,hTy];rfl
 ·have hTy:kx4 tab l n i=kjd tab l n:=by unfold kx4;rw[hk];rfl
  rw[hTy] at ht ⊢;rw[hk,if_pos rfl] at h1 h2;obtain ⟨x,x1,rfl⟩:=rQ.mp h1;obtain ⟨y,y1,rfl⟩:=rQ.mp h2;exact ⟨rfl,fun _=>zy6 he hE hs hT n ht x1 y1⟩
theorem vxe (hτ:TauOk ssz τ){B C:Nat}{x y:VT}(hc:zwk x y=true){a b:Int}(ha:VIn ksz ssz B x a)(hb:VIn ksz ssz C y b):(tvT τ x a==tvT τ y b)=(a==b):=by
 have key:∀ {c d e f:Int},(c=d↔e=f)→(c==d)=(e==f):=fun {c d e f} h=>by
  rw[Bool.eq_iff_iff,wP,wP];exact h
 unfold zwk kyw at hc;simp only[lg,wY,wP,nP,lu] at hc;rcases hc with (((⟨⟨⟨h1,h2⟩,_⟩,_⟩)|⟨h1,h2⟩)|⟨h1,h2⟩)
 ·by_cases h4:x.fam=4
  ·have r1:=ha.set h4;have r2:=hb.set (by rw[←h1];exact h4);rw[←h2] at r2;rw[qk8 h4,qk8 (by rw[←h1];exact h4)];exact key ⟨fun e=>hτ.inj _ _ _ r1.1 r1.2 r2.1 r2.2 e,fun e=>by rw[e]⟩
  ·rw[kw8 h4,kw8 (by rw[←h1];exact h4)]
 ·have r1:=ha.set h1;have r2:=hb.non h2;rw[qk8 h1,kw8 (by rw[h2];decide),r2];exact key ⟨fun e=>hτ.inj x.name.toList _ _ r1.1 r1.2 (by omega) (by omega) (by rw[e,hτ.zero]),fun e=>by rw[e,hτ.zero]⟩
 ·have r1:=hb.set h2;have r2:=ha.non h1;rw[qk8 h2,kw8 (by rw[h1];decide),r2];exact key ⟨fun e=>(hτ.inj y.name.toList _ _ r1.1 r1.2 (by omega) (by omega) (by rw[←e,hτ.zero])).symm,fun e=>by rw[←e,hτ.zero]⟩
theorem jwl (hτ:TauOk ssz τ){B C:Nat}{o:Int}(ho:6≤o){x y:VT}(h:(qzr o x y).fam≠0){a b:Int}(ha:VIn ksz ssz B x a)(hb:VIn ksz ssz C y b):kz5 o (tvT τ x a) (tvT τ y b)=tvT τ (qzr o x y) (kz5 o a b):=by
 unfold qzr at h ⊢;cases h6:(o==6||o==7)
 ·rw[h6] at h;simp only[if_neg (show ¬false=true by simp)] at h ⊢;cases h11:(o==11||o==12)
  ·rw[h11] at h;simp only[if_neg (show ¬false=true by simp)] at h ⊢;cases h10:(o==10)
   ·rw[h10] at h;simp only[if_neg (show ¬false=true by simp)] at h ⊢;obtain ⟨hc,hm⟩:=kxe h;rw[hm,jyi];rw[fC] at h6 h11;unfold kz5;rw[h6.1,h6.2,h11.1,h11.2,h10,vxe hτ hc ha hb];rfl
   ·rw[h10] at h;simp only[if_pos rfl] at h ⊢;obtain ⟨hc,hm⟩:=kxe h;rw[wY,wP,wP] at hc;rw[hm,kw8 (ty:=x) (by rw[hc.1];decide),kw8 (ty:=y) (by rw[hc.2];decide)];rfl
  ·rw[h11] at h;simp only[if_pos rfl] at h ⊢;obtain ⟨hc,hm⟩:=kxe h;rw[wY,wP,wP] at hc;rw[hm,kw8 (ty:=x) (by rw[hc.1];decide),kw8 (ty:=y) (by rw[hc.2];decide)];rfl
 ·rw[h6] at h;simp only[if_pos rfl] at h ⊢;obtain ⟨hc,hm⟩:=kxe h;rw[wY,wP,wP] at hc;rw[hm,kw8 (ty:=x) (by rw[hc.1];decide),kw8 (ty:=y) (by rw[hc.2];decide)];rfl
theorem qq6 (he:EnvOk tab vars mt ksz ssz size)(hτ:TauOk ssz τ)(hE:TurnEnv tab vars mt ssz ar sv)(hp:ParOk ssz l ms)(hs:kqp vars size st)(hT:kjg τ ar sv vars st st'):∀ (x:PX),kv9 x→zqz x→isNil x=false→kz9 x≤4000→(kqg tab l x).fam≠0→∀ {p q:Int × Bool},qja vars mt l ms st x=some p→qja vars mt l (msT τ ms) st' x=some q→p.2=q.2∧(p.2=false→q.1=tvT τ (kqg tab l x) p.1)
 | .nil,_,_,hn,_,_,_,_,_,_=>by cases hn
 | .node i j x a c,hx,hnum,hn,hsz,ht,p,q,hv,hw=>by
  obtain ⟨⟨hxa,hxc⟩,hfa,hfc⟩:=hx;obtain ⟨hn3,hna,hnc⟩:=hnum;have hS:kz9 (.node i j x a c)=kz9 a+kz9 c+1:=rfl;rw[hS] at hsz;have oka:=val_ok he hp hs a hfa hna;have okc:=val_ok he hp hs c hfc hnc;have iha:=fun h1 h2 h3=>@qq6 he hτ hE hp hs hT a hfa hna h1 h2 h3
  have ihc:=fun h1 h2 h3=>@qq6 he hτ hE hp hs hT c hfc hnc h1 h2 h3
  rw[kqg] at ht ⊢;rw[qja] at hv hw;have hop:=vj3 x.op.toList;generalize opN x.op.toList=o at *;cases h0:(o==0)
  ·cases h1:(o==1)
   ·cases h2:(o==2)
    ·cases h3:(o==3)
     ·cases h4:(o==4)
      ·cases h5:(o==5)
       ·have ho:6≤o:=by
         have:o≠0∧o≠1∧o≠2∧o≠3∧o≠4∧o≠5:=⟨by simpa using h0,by simpa using h1,by simpa using h2,by simpa using h3,by simpa using h4,by simpa using h5⟩;omega
        simp only[h0,h1,h2,h3,h4,h5,lQ,nM,Qn,if_neg (show ¬false=true by simp)] at ht hv hw ⊢;obtain ⟨ga,gc,_,_,_⟩:=jjz ht;obtain ⟨pa,pa1,pa2⟩:=oka (hxa (by omega)) (by omega) ga;obtain ⟨pc,pc1,pc2⟩:=okc (hxc ho) (by omega) gc;obtain ⟨pa',e,hv⟩:=wQ.mp hv;rw[pa1] at e;injection e with e;subst e;obtain ⟨pc',e,hv⟩:=wQ.mp hv;rw[pc1] at e;injection e with e;subst e;obtain ⟨_,_,hv⟩:=wQ.mp hv;obtain ⟨_,_,rfl⟩:=rQ.mp hv;obtain ⟨qa,qa1,hw⟩:=wQ.mp hw;obtain ⟨qc,qc1,hw⟩:=wQ.mp hw;obtain ⟨_,_,hw⟩:=wQ.mp hw;obtain ⟨_,_,rfl⟩:=rQ.mp hw;obtain ⟨a1,a2⟩:=iha (hxa (by omega)) (by omega) ga pa1 qa1;obtain ⟨c1,c2⟩:=ihc (hxc ho) (by omega) gc pc1 qc1;refine ⟨by show (pa.2||pc.2)=(qa.2||qc.2);rw[a1,c1],fun hf=>?_⟩;have hf:(pa.2||pc.2)=false:=hf;rw[fC] at hf;show kz5 o qa.1 qc.1=tvT τ (qzr o (kqg tab l a) (kqg tab l c)) (kz5 o pa.1 pc.1);rw[a2 hf.1,c2 hf.2];exact jwl hτ ho ht pa2 pc2
       ·have ho:o=5:=by simpa using h5
        subst ho;simp only[h0,h1,h2,h3,h4,lQ,nM,Qn,if_neg (show ¬false=true by simp),if_pos rfl,beq_self_eq_true] at ht hv hw ⊢;obtain ⟨hc,hm⟩:=kxe ht;rw[wP] at hc;obtain ⟨pa,pa1,hv⟩:=wQ.mp hv;obtain ⟨_,_,rfl⟩:=rQ.mp hv;obtain ⟨qa,qa1,hw⟩:=wQ.mp hw;obtain ⟨_,_,rfl⟩:=rQ.mp hw;obtain ⟨a1,a2⟩:=iha (hxa (by decide)) (by omega) (by rw[hc];decide) pa1 qa1;refine ⟨a1,fun hf=>?_⟩;show 1-qa.1=tvT τ _ (1-pa.1);rw[hm,if_pos trivial,jyi,a2 hf,kw8 (by rw[hc];decide)]
      ·simp only[h0,h1,h2,h3,h4,lQ,nM,Qn,if_neg (show ¬false=true by simp),if_pos rfl] at ht hv hw ⊢;exact vqs he hτ hE hp hs hT x.name x.index ht hv hw
     ·simp only[h0,h1,h2,h3,lQ,nM,Qn,if_neg (show ¬false=true by simp),if_pos rfl] at ht hv hw ⊢;injection hv with hv;injection hw with hw;rw[←hv,←hw];exact ⟨rfl,fun _=>rfl⟩
    ·have ho:o=2:=by simpa using h2
     subst ho;simp only[h0,h1,lQ,nM,Qn,if_neg (show ¬false=true by simp),if_pos rfl,beq_self_eq_true,show ((2:Int)==3)=false from rfl,Qw] at ht hv hw ⊢;injection hv with hv;injection hw with hw;rw[←hv,←hw];exact ⟨rfl,fun _=>rfl⟩
   ·simp only[h0,h1,lQ,Qc,Qw,if_neg (show ¬false=true by simp),if_pos rfl] at ht hv hw ⊢;injection hv with hv;injection hw with hw;rw[←hv,←hw];exact ⟨rfl,fun _=>rfl⟩
  ·simp only[h0,Qc,if_pos rfl] at ht hv hw ⊢;injection hv with hv;injection hw with hw;rw[←hv,←hw];exact ⟨rfl,fun _=>rfl⟩
end Go.Proofs.YtpmcnonmkghokaaGreatDoor

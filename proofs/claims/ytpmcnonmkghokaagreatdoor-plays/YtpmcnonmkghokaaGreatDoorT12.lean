import Derived.Test.YtpmcnonmkghokaaGreatDoorT11
import Derived.Test.YtpmcnonmkghokaaGreatDoorT01
import Derived.Test.YtpmcnonmkghokaaGreatDoorT09
import Derived.Test.YtpmcnonmkghokaaGreatDoorT04
set_option maxRecDepth 100000
set_option maxHeartbeats 8000000
set_option linter.unusedVariables false
set_option linter.unusedSimpArgs false
namespace Go.Proofs.YtpmcnonmkghokaaGreatDoor
open Go.Proofs.Tryz
open Go.RowKit
variable {L:List Tok}{lit:List UInt8}{α:Type}{l:List α}{fin:List α×RS}{m:MdL}{b:Nat}{s st:RS}{one:RS->α×RS}{t:Tok}{x0 x1 x2 x3 x4:Value}{w:World}{e:α}
def qy9 (L:List Tok):Prop:=∀i,i<L.length->((tk L i).kind.toList==pJ)=false->i+1<L.length
theorem bg.qve (h:bg L):qy9 L:=by
 intro i hi a;by_cases e:i+1<L.length
 ·exact e
 ·have:i=L.length-1:=by omega
  subst this;rw[h.last]at a;cases a
def uw (L:List Tok):Nat->Nat->List Tok->Prop
 |a,b,[]=>a<=b
 |a,b,t::l=>∃i,a<=i/\i<L.length/\t=tk L i/\(t.kind.toList==og)=true/\uw L (i+1) b l
theorem uw.le {L:List Tok}:∀{l:List Tok} {a b:Nat},uw L a b l->a+l.length<=b
 |[],a,b,h=>h
 |t::l,a,b,⟨i,h1,_,_,_,h⟩=>by have:=h.le;simp;omega
theorem uw.low {a a': Nat}(c:a'<=a):∀{l:List Tok},uw L a b l->uw L a' b l
 |[],h=>rU c h
 |t::l,⟨i,h1,h⟩=>⟨i,rU c h1,h⟩
theorem uw.high {L:List Tok}{b c:Nat}(hb:b<=c):∀{l:List Tok} {a:Nat},uw L a b l->uw L a c l
 |[],a,h=>rU h hb
 |t::l,a,⟨i,h1,h2,h3,h4,h⟩=>⟨i,h1,h2,h3,h4,h.high hb⟩
theorem uw.app {L:List Tok}{b c:Nat}{m:List Tok}(d:uw L b c m):∀{l:List Tok} {a:Nat},uw L a b l->uw L a c (l++m)
 |[],a,h=>d.low h
 |t::l,a,⟨i,h1,h2,h3,h4,h⟩=>⟨i,h1,h2,h3,h4,uw.app d h⟩
theorem uw.mem {L:List Tok}:∀{l:List Tok} {a b:Nat},uw L a b l->∀t∈l,t∈L/\(t.kind.toList==og)=true
 |[],_,_,_,t,c=>by simp at c
 |u::l,a,b,⟨i,h1,h2,h3,h4,h⟩,t,c=>by
  rcases sW.mp c with rfl|c
  ·exact⟨h3▸pj5 h2,h4⟩
  ·exact h.mem t c
theorem uw.ats {L:List Tok}(e:L.Pairwise (λa b=>a.at_<b.at_)):∀{l:List Tok} {a b:Nat},uw L a b l->(∀t∈l,∀i,i<a->i<L.length->(tk L i).at_<t.at_)/\l.Pairwise (λa b=>a.at_<b.at_)
 |[],_,_,_=>⟨λt c=>by simp at c,List.Pairwise.nil⟩
 |u::l,a,b,⟨i,h1,h2,h3,h4,h⟩=>by
  obtain⟨d,p⟩:=h.ats e;have lt:∀i j,i<j->j<L.length->(tk L i).at_<(tk L j).at_:=by
   intro i j f g;have hi:i<L.length:=aj;have:=Jj.mp e i j hi g f;unfold tk;rw[show L.getD i (kx9 0)=L[i] by simp[List.getD,hi],show L.getD j (kx9 0)=L[j] by simp[List.getD,g]];exact this
  refine⟨?_,Zf.mpr ⟨λt c=>?_,p⟩⟩
  ·intro t c k q m;rcases sW.mp c with rfl|c
   ·rw[h3];exact lt k i aj h2
   ·exact d t c k aj m
  ·rw[h3];exact d t c i aj h2
theorem vyy {s:List UInt8}  (a:qy9 L)(b:st.at_<L.length)(hn:qo L s st=true):st.bad=false/\st.at_+1<L.length:=by
 unfold qo kwv at hn;simp only[wW,Qu,Qm]at hn;refine⟨hn.1.1,a _ b ?_⟩;rcases hn.1.2 with e|e<;>(rw[rQ]at e;rw[e];rfl)
theorem yw {s:List UInt8}  (a:qy9 L)(b:st.at_<L.length)(h:(qy L s st).bad=false):st.bad=false/\(qy L s st).at_=st.at_+1/\(qy L s st).at_<L.length:=by
 have h1:=kv0 h;have hn:qo L s st=true:=by
  cases hn:qo L s st
  ·unfold qy at h;rw[hn]at h;simp at h
  ·rfl
 have:=vyy a b hn;exact⟨this.1,h1,aj⟩
theorem kjr {s:List UInt8}  (b:qy9 L)(c:st.at_<L.length)(d:(s==pJ)=false)(h:(qm L s st).2.bad=false):
  st.bad=false/\(qm L s st).1=tk L st.at_/\((tk L st.at_).kind.toList==s)=true/\(qm L s st).2.at_=st.at_+1/\(qm L s st).2.at_<L.length:=by
 have h1:=zkz h;have hn:kqc L s st=true:=by
  cases hn:kqc L s st
  ·unfold qm at h;rw[hn]at h;simp at h
  ·rfl
 have e:(qm L s st).1=tk L st.at_:=by unfold qm;rw[hn];rfl
 unfold kqc at hn;simp only[wW,Qm]at hn;have a:=hn.2;have:st.at_+1<L.length:=b _ c (by rw[rQ]at a;rw[a];exact d);exact⟨hn.1,e,a,h1,aj⟩
theorem qxj (o:ByteArray)(a b:PX)(c:(o.toList==oK)=false):uo (opX o a b)=uo a++uo b:=by
 show(ownNames _++uo a)++uo b=_;unfold ownNames;rw[c];rfl
theorem jv8 {n:Nat}  (h:kk3 n t=true):(t.text.toList==oK)=false/\qqg t.text=false:=by
 unfold kk3 at h;rw[wW]at h;have h1:=h.1;rw[Jl]at h1;obtain⟨s,a,e⟩:=h1;rw[rQ]at e;unfold qqg;rw[<-e];have all:∀n,∀s∈kqo n,s.toList=[124]\/s.toList=[38]\/s.toList=[61,61]\/s.toList=[33,61]\/s.toList=[60]\/s.toList=[43]\/s.toList=[45]:=by
  intro n s a;have:∀l:List UInt8,(⟨l.toArray⟩:ByteArray).toList=l:=jv;rcases n with _|_|_|n<;>simp only[kqo,sW,Qa,or_false]at a
  ·subst a;exact Or.inl (this [124])
  ·subst a;exact Or.inr (Or.inl (this [38]))
  ·rcases a with rfl|rfl|rfl
   ·exact Or.inr (Or.inr (Or.inl (this [61,61])))
   ·exact Or.inr (Or.inr (Or.inr (Or.inl (this [33,61]))))
   ·exact Or.inr (Or.inr (Or.inr (Or.inr (Or.inl (this [60])))))
  ·rcases a with rfl|rfl
   ·exact Or.inr (Or.inr (Or.inr (Or.inr (Or.inr (Or.inl (this [43]))))))
   ·exact Or.inr (Or.inr (Or.inr (Or.inr (Or.inr (Or.inr (this [45]))))))
 rcases all n s a with e|e|e|e|e|e|e<;>rw[e]<;>decide
theorem jy6 (h:isConst t=true):(t.text.toList==oK)=false/\qqg t.text=true:=by
 unfold isConst at h;rw[wW]at h;have h1:=h.2;unfold qqg;simp only[Qu,rQ]at h1;rcases h1 with(e|e)|e<;>rw[e]<;>decide
theorem zkg (a:qy9 L)(c:st.at_<L.length)(h:(yt L st).2.bad=false):
  st.bad=false/\XOk (yt L st).1/\isNil (yt L st).1=false/\(yt L st).2.at_<L.length/\uw L st.at_ (yt L st).2.at_ (uo (yt L st).1):=by
 have d:qqg kv9=true:=by
  unfold qqg;rw[show kv9.toList=oK from jv _];rfl
 have e:(kv9.toList==oK)=true:=by rw[show kv9.toList=oK from jv _];rfl
 unfold yt at h |-;simp only at h |-;by_cases hn:qo L [91] (qm L og st).2=true
 ·rw[if_pos hn]at h |-;simp only at h |-;have m:(qm L og st).2.bad=false:=by
   cases hb:(qm L og st).2.bad
   ·rfl
   ·rw[kq7 hb]at hn;cases hn
  obtain⟨f,g,i,l,j⟩:=kjr a c rfl m;have b:(qm L og (qy L [91] (qm L og st).2)).2.bad=false:=by
   cases hb:(qm L og (qy L [91] (qm L og st).2)).2.bad
   ·rfl
   ·rw[kj2 hb]at h;cases h
  have p:(qy L [91] (qm L og st).2).bad=false:=by
   cases hb:(qy L [91] (qm L og st).2).bad
   ·rfl
   ·rw[kys hb]at b;cases b
  obtain⟨b1,q,k⟩:=yw a j p;obtain⟨c1,c2,c3,c4,c5⟩:=kjr a k rfl b;obtain⟨d1,d2,d3⟩:=yw a c5 h;refine⟨f,⟨Or.inl d,trivial,trivial⟩,rfl,d3,?_⟩;rw[show uo (.node 0 0 {op:=kv9,name:=(qm L og st).1,index:=(qm L og (qy L [91] (qm L og st).2)).1,n:=0} .nil .nil)=[tk L st.at_,tk L (qy L [91] (qm L og st).2).at_] by
   simp only[uo,ownNames];rw[e,g,c2,c3];rfl]
  exact⟨st.at_,wJ _,c,rfl,i,_,aj,k,rfl,c3,by show _<=_;omega⟩
 ·rw[if_neg hn]at h |-;simp only at h |-;obtain⟨f,g,i,l,j⟩:=kjr a c rfl h;refine⟨f,⟨Or.inl d,trivial,trivial⟩,rfl,j,?_⟩;rw[show uo (.node 0 0 {op:=kv9,name:=(qm L og st).1,index:=zf,n:=0} .nil .nil)=[tk L st.at_] by
   simp only[uo,ownNames];rw[e,g,show(zf.kind.toList==og)=false by rw[show zf.kind.toList=[] from jv _];rfl];rfl]
  exact⟨st.at_,wJ _,c,rfl,i,by show _<=_;omega⟩
def ndC (tag:Nat):Nat:=if tag<10 then 7-tag else if tag<20 then 1 else 2
def zkk (tag:Nat)(x:PX):List Tok:=if 10<=tag/\tag<20 then uo x else []
theorem vkg (L:List Tok)(m:qy9 L):∀(f tag:Nat) (x:PX) (st:RS),(tag<=4\/(10<=tag/\tag<=13)\/(20<=tag/\tag<=32))->8*(L.length-st.at_)+ndC tag<=f->st.at_<L.length ->
  (10<=tag->tag<20->isNil x=false/\XOk x)->(rX f tag x L st).2.bad=false ->
  st.bad=false/\XOk (rX f tag x L st).1/\isNil (rX f tag x L st).1=false/\(rX f tag x L st).2.at_<L.length/\∃l,uo (rX f tag x L st).1=zkk tag x++l/\uw L st.at_ (rX f tag x L st).2.at_ l
 |0,tag,x,st,ht,hf,hl,hx,h=>kY
 |f+1,tag,x,st,ht,hf,hl,hx,h=>by
  have s:=vkg L m f;have hb:st.bad=false:=by
   cases hb:st.bad
   ·rfl
   ·rw[kjz hb]at h;rw[hb]at h;cases h
  refine⟨hb,?_⟩;have u:¬st.bad=true:=by rw[hb];simp
  rw[rX]at h |-;by_cases U:tag<4
  ·rw[if_pos U,if_neg u]at h |-;have P:ndC tag=7-tag:=jG;have h1:(rX f (tag+1) .nil L st).2.bad=false:=by
    cases a:(rX f (tag+1) .nil L st).2.bad
    ·rfl
    ·rw[kjz a,a]at h;cases h
   obtain⟨y,c,j,d,i,e,b⟩:=s (tag+1) .nil st (Or.inl aj) (by rw[show ndC (tag+1)=7-(tag+1) by unfold ndC;rw[if_pos aj]];omega) hl (λh1 z=>aj) h1;have R:=b.le;obtain⟨b1,H,I,J,N,K,M⟩:=s (10+tag) (rX f (tag+1) .nil L st).1 (rX f (tag+1) .nil L st).2 (Or.inr (Or.inl ⟨aj,aj⟩)) jZ d (λ_ _=>⟨j,c⟩) h;refine⟨H,I,J,i++N,?_,M.app b⟩;rw[K];simp only[zkk];rw[if_pos ⟨aj,aj⟩,if_neg aj,e];simp only[zkk];rw[if_neg aj];simp
  ·rw[if_neg U]at h |-;by_cases E:tag<10
   ·rw[if_pos E,if_neg u]at h |-;have t:tag=4:=aj;subst t;have P:ndC 4=3:=rfl;obtain⟨y,c,j,d,i,e,b⟩:=s 20 .nil st (Or.inr (Or.inr ⟨aj,aj⟩)) (by show _+2<=f;omega) hl (λh1 z=>aj) h;exact⟨c,j,d,i,e,b⟩
   ·rw[if_neg E]at h |-;by_cases q:tag<20
    ·rw[if_pos q,if_neg u]at h |-;obtain⟨x1,x2⟩:=hx aj q;have k:zkk tag x=uo x:=by unfold zkk;rw[if_pos ⟨aj,q⟩]
     have P:ndC tag=1:=by unfold ndC;rw[if_neg aj,if_pos aj]
     by_cases g:kk3 (tag-10) (tk L st.at_)=true
     ·rw[if_pos g]at h |-;obtain⟨A,S⟩:=jv8 g;have p:st.at_+1<L.length:=m _ hl (by
       unfold kk3 at g;rw[wW]at g;have:=g.2;rw[rQ]at this;rw[this];rfl)
      have T:ndC (tag-9)=7-(tag-9):=jG;have D:(rX f (tag-9) .nil L {st with at_:=st.at_+1}).2.bad=false->XOk (rX f (tag-9) .nil L {st with at_:=st.at_+1}).1/\isNil (rX f (tag-9) .nil L {st with at_:=st.at_+1}).1=false/\(rX f (tag-9) .nil L {st with at_:=st.at_+1}).2.at_<L.length /\
        ∃l,uo (rX f (tag-9) .nil L {st with at_:=st.at_+1}).1=l/\uw L (st.at_+1) (rX f (tag-9) .nil L {st with at_:=st.at_+1}).2.at_ l:=by
       intro h1;obtain⟨y,c,j,d,i,e,b⟩:=s (tag-9) .nil {st with at_:=st.at_+1} (Or.inl aj) (by rw[T];simp only;omega) p (λh1 z=>aj) h1;refine⟨c,j,d,i,?_,b⟩;rw[e];unfold zkk;rw[if_neg aj];rfl
      by_cases F:tag=12
      ·rw[if_pos F]at h |-;simp only at h |-;obtain⟨c,j,d,i,e,b⟩:=D h;refine⟨⟨Or.inr x1,x2,c⟩,rfl,d,i,?_,b.low aj⟩;rw[qxj _ _ _ A,e,k]
      ·rw[if_neg F]at h |-;have h1:(rX f (tag-9) .nil L {st with at_:=st.at_+1}).2.bad=false:=by
        cases a:(rX f (tag-9) .nil L {st with at_:=st.at_+1}).2.bad
        ·rfl
        ·rw[kjz a,a]at h;cases h
       obtain⟨c,j,d,i,e,b⟩:=D h1;have R:=b.le;obtain⟨b1,H,I,J,N,K,M⟩:=s tag (opX (tk L st.at_).text x (rX f (tag-9) .nil L {st with at_:=st.at_+1}).1) (rX f (tag-9) .nil L {st with at_:=st.at_+1}).2 (Or.inr (Or.inl ⟨aj,aj⟩)) (by rw[P];omega) d (λ_ _=>⟨rfl,⟨Or.inr x1,x2,c⟩⟩) h;refine⟨H,I,J,i++N,?_,M.app (b.low aj)⟩;rw[K];rw[show zkk tag (opX (tk L st.at_).text x (rX f (tag-9) .nil L {st with at_:=st.at_+1}).1)=uo (opX (tk L st.at_).text x (rX f (tag-9) .nil L {st with at_:=st.at_+1}).1) by unfold zkk;rw[if_pos ⟨aj,q⟩],qxj _ _ _ A,e,k,sD]
     ·rw[if_neg g]at h |-;exact⟨x2,x1,hl,[],by rw[k,Qg],wJ _⟩
    ·rw[if_neg q,if_neg u]at h |-;have k:zkk tag x=[]:=by unfold zkk;rw[if_neg aj]
     by_cases B:qo L [33] st=true
     ·rw[if_pos B]at h |-;by_cases G:tag=32
      ·rw[if_pos G]at h;simp at h
      ·rw[if_neg G]at h |-;simp only at h |-;have h1:(qy L [33] st).bad=false:=by
        cases a:(qy L [33] st).bad
        ·rfl
        ·rw[kjz a,a]at h;cases h
       obtain⟨X,Y,O⟩:=yw m hl h1;obtain⟨y,c,j,d,i,e,b⟩:=s (tag+1) .nil (qy L [33] st) (Or.inr (Or.inr ⟨aj,aj⟩)) jX O (λh1 z=>aj) h;refine⟨⟨Or.inr j,c,trivial⟩,rfl,d,i,?_,b.low aj⟩;rw[qxj _ _ _ lu,e,k];simp only[zkk];rw[if_neg aj];simp[uo]
     ·rw[if_neg B]at h |-;by_cases C:qo L [40] st=true
      ·rw[if_pos C]at h |-;simp only at h |-;have h1:(rX f 0 .nil L (qy L [40] st)).2.bad=false:=by
        cases a:(rX f 0 .nil L (qy L [40] st)).2.bad
        ·rfl
        ·rw[kj2 a]at h;cases h
       have W:(qy L [40] st).bad=false:=by
        cases a:(qy L [40] st).bad
        ·rfl
        ·rw[kjz a,a]at h1;cases h1
       obtain⟨X,Y,O⟩:=yw m hl W;obtain⟨y,c,j,d,i,e,b⟩:=s 0 .nil (qy L [40] st) (Or.inl aj) (by show _+7<=f;omega) O (λh1 z=>aj) h1;obtain⟨e1,e2,V⟩:=yw m d h;exact⟨c,j,V,i,by rw[e,k];rfl,(b.low aj).high aj⟩
      ·rw[if_neg C]at h |-;by_cases v:isConst (tk L st.at_)=true
       ·rw[if_pos v]at h |-;obtain⟨A,S⟩:=jy6 v;have p:st.at_+1<L.length:=m _ hl (by
         unfold isConst at v;rw[wW]at v;have:=v.1;rw[rQ]at this;rw[this];rfl)
        refine⟨⟨Or.inl S,trivial,trivial⟩,rfl,p,[],?_,by show _<=_;simp⟩;rw[qxj _ _ _ A,k];rfl
       ·rw[if_neg v]at h |-;by_cases w:qkd (tk L st.at_)=true
        ·rw[if_pos w]at h |-;have p:st.at_+1<L.length:=m _ hl (by
          unfold qkd at w;rw[rQ]at w;rw[w];rfl)
         have Q:kyp.toList=oQ:=jv _;refine⟨⟨Or.inl (by unfold qqg;simp only;rw[Q];rfl),trivial,trivial⟩,rfl,p,[],?_,by show _<=_;simp⟩;rw[k];show(ownNames _++_)++_=_;unfold ownNames;simp only;rw[Q];rfl
        ·rw[if_neg w]at h |-;obtain⟨p1,Z,p3,p4,p5⟩:=zkg m hl h;exact⟨Z,p3,p4,_,by rw[k];rfl,p5⟩
theorem vyl (g:qy9 L)  (i:st.at_<L.length)(h:(rX (yg L) 0 .nil L st).2.bad=false):
  st.bad=false/\XOk (rX (yg L) 0 .nil L st).1/\isNil (rX (yg L) 0 .nil L st).1=false/\(rX (yg L) 0 .nil L st).2.at_<L.length/\uw L st.at_ (rX (yg L) 0 .nil L st).2.at_ (uo (rX (yg L) 0 .nil L st).1):=by
 obtain⟨a,b,c,d,l,e,f⟩:=vkg L g (yg L) 0 .nil st (Or.inl aj) (by show _+7<=_;unfold yg;omega) i (λh1 _=>aj) h;exact⟨a,b,c,d,by rw[e];exact f⟩
end Go.Proofs.YtpmcnonmkghokaaGreatDoor
namespace Go.Proofs.YtpmcnonmkghokaaGreatDoor
open Go.Proofs.Tryz
open Go.RowKit
attribute [local go_sem ↓] Go.wp_at_zero Go.wp_at_succ
variable {L:List Tok}{lit:List UInt8}{α:Type}{l:List α}{fin:List α×RS}{m:MdL}{b:Nat}{s st:RS}{one:RS->α×RS}{t:Tok}{x0 x1 x2 x3 x4:Value}{w:World}{e:α}
def loopA {α:Type}(L:List Tok)(lit:List UInt8)(one:RS->α×RS):Nat->List α->RS->List α×RS
 |0,l,s=>(l,s)
 |f+1,l,s=>if qo L lit s then loopA L lit one f (l++[(one s).1]) (one s).2 else (l,s)
def kzg {α:Type}(L:List Tok)(lit:List UInt8)(one:RS->α×RS):Nat->List α->RS->List α×RS
 |0,l,s=>(l,s)
 |f+1,l,s=>if s.bad then (l,s) else if qo L lit (one s).2 then kzg L lit one f (l++[(one s).1]) (one s).2 else (l++[(one s).1],(one s).2)
theorem qv9 (L:List Tok):∀(f:Nat) (l:List PSet) (s:RS),kvy f L l s=loopA L oW (kki L) f l s
 |0,_,_=>rfl
 |f+1,l,s=>by rw[kvy,loopA];split;exact qv9 L f _ _;rfl
theorem qz6 (L:List Tok):∀(f:Nat) (l:List PKind) (s:RS),kwh f L l s=loopA L oV (kzt L) f l s
 |0,_,_=>rfl
 |f+1,l,s=>by rw[kwh,loopA];split;exact qz6 L f _ _;rfl
theorem kyl (L:List Tok):∀(f:Nat) (l:List PRule) (s:RS),kyt f L l s=loopA L oM (kjm L) f l s
 |0,_,_=>rfl
 |f+1,l,s=>by rw[kyt,loopA];split;exact kyl L f _ _;rfl
theorem qx5 (L:List Tok):∀(f:Nat) (l:List PVar) (s:RS),qw5 f L l s=kzg L oZ (kwm L) f l s
 |0,_,_=>rfl
 |f+1,l,s=>by rw[qw5,kzg];split;rfl;split;exact qx5 L f _ _;rfl
theorem qz5 (L:List Tok):∀(f:Nat) (l:List PRule) (s:RS),qx6 f L l s=kzg L oD (kj6 L) f l s
 |0,_,_=>rfl
 |f+1,l,s=>by rw[qx6,kzg];split;rfl;split;exact qz5 L f _ _;rfl
theorem jq4 {α β:Type}(h:α->β)(L:List Tok)(lit:List UInt8)(one:RS->α×RS):∀(f:Nat) (l:List α) (s:RS),kzg L lit (λs=>(h (one s).1,(one s).2)) f (l.map h) s=((kzg L lit one f l s).1.map h,(kzg L lit one f l s).2)
 |0,_,_=>rfl
 |f+1,l,s=>by
  rw[kzg,kzg];split
  ·rfl
  ·simp only;split
   ·rw[show l.map h++[h (one s).1]=(l++[(one s).1]).map h by simp];exact jq4 h L lit one f _ _
   ·simp
theorem kkb (hb:s.bad=true):∀(f:Nat) (l:List α),loopA L lit one f l s=(l,s)
 |0,_=>rfl
 |f+1,l=>by rw[loopA,kq7 hb];rfl
theorem kkc (hb:s.bad=true):∀(f:Nat) (l:List α),kzg L lit one f l s=(l,s)
 |0,_=>rfl
 |f+1,l=>by rw[kzg,hb];rfl
def zwq {α:Type}(L:List Tok)(lit:List UInt8)(one:RS->α×RS)(fin:List α×RS)(l:List α)(s:RS):Prop:=
 (s.bad=true/\fin.2=s)\/(s.bad=false/\∃g,L.length<s.at_+g/\loopA L lit one g l s=fin)
def jqh {α:Type}(L:List Tok)(lit:List UInt8)(one:RS->α×RS)(fin:List α×RS)(l:List α)(s:RS):Prop:=
 (s.bad=true/\fin.2=s)\/(s.bad=false/\∃g,L.length<s.at_+g/\(if qo L lit s then kzg L lit one g l s else (l,s))=fin)
theorem qks (s:RS):zwq L lit one (loopA L lit one (gy L) [] s) [] s:=by
 cases hb:s.bad
 ·exact Or.inr ⟨hb,gy L,nD,rfl⟩
 ·exact Or.inl ⟨hb,by rw[kkb hb]⟩
theorem qy0 (h:zwq L lit one fin l s)(c:s.at_<L.length)(hn:qo L lit s=true)(f:s.at_+1<=(one s).2.at_)(b:(one s).2.bad=false->e=(one s).1):zwq L lit one fin (l++[e]) (one s).2:=by
 rcases h with⟨hb,_⟩|⟨hb,g,d,h1⟩
 ·rw[kq7 hb]at hn;cases hn
 ·obtain⟨g,rfl⟩:∃k,g=k+1:=⟨g-1,aj⟩;rw[loopA,hn]at h1;simp only[if_true]at h1;cases a:(one s).2.bad
  ·exact Or.inr ⟨a,g,aj,by rw[b a];exact h1⟩
  ·exact Or.inl ⟨a,by rw[<-h1,kkb a]⟩
theorem zjh (h:zwq L lit one fin l s)(a:s.at_<L.length)(hn:qo L lit s=false):fin.2=s/\(s.bad=false->fin.1=l):=by
 rcases h with⟨hb,h1⟩|⟨hb,g,b,h1⟩
 ·exact⟨h1,λh=>iZ⟩
 ·obtain⟨g,rfl⟩:∃k,g=k+1:=⟨g-1,aj⟩;rw[loopA,hn]at h1;simp only[wU,if_false]at h1;rw[<-h1];exact⟨rfl,λ_=>rfl⟩
theorem zzy (b:s.bad=true->(one s).2=s)(d:s.bad=false->s.at_<=(one s).2.at_)(c:(one s).2.bad=false->e=(one s).1):jqh L lit one (kzg L lit one (gy L) [] s) [e] (one s).2:=by
 cases hb:s.bad
 ·unfold gy;rw[kzg,hb];simp only[wU,if_false,Qc];cases a:(one s).2.bad
  ·exact Or.inr ⟨a,L.length+1,aj,by rw[c a]⟩
  ·exact Or.inl ⟨a,by rw[kq7 a];rfl⟩
 ·rw[kkc hb,b hb];exact Or.inl ⟨hb,rfl⟩
theorem zvk (h:jqh L lit one fin l s)(d:s.at_<L.length)(hn:qo L lit s=true)(c:(one s).2.bad=false->s.at_+1<=(one s).2.at_)(b:(one s).2.bad=false->e=(one s).1):jqh L lit one fin (l++[e]) (one s).2:=by
 rcases h with⟨hb,_⟩|⟨hb,g,f,h1⟩
 ·rw[kq7 hb]at hn;cases hn
 ·rw[hn]at h1;simp only[if_true]at h1;obtain⟨g,rfl⟩:∃k,g=k+1:=⟨g-1,aj⟩;rw[kzg,hb]at h1;simp only[wU,if_false]at h1;cases a:(one s).2.bad
  ·have:=c a;exact Or.inr ⟨a,g,aj,by rw[b a];exact h1⟩
  ·refine Or.inl ⟨a,?_⟩;rw[kq7 a]at h1;rw[<-h1];rfl
theorem jqk (h:jqh L lit one fin l s)(hn:qo L lit s=false):fin.2=s/\(s.bad=false->fin.1=l):=by
 rcases h with⟨hb,h1⟩|⟨hb,g,a,h1⟩
 ·exact⟨h1,λh=>iZ⟩
 ·rw[hn]at h1;simp only[wU,if_false]at h1;rw[<-h1];exact⟨rfl,λ_=>rfl⟩
theorem zz4 (h:st.bad=true):(kjb L st).2=st:=by unfold kjb;rw[kq7 h];rfl
theorem zk8 (h:st.bad=true):(kxe L st).2=st:=by unfold kxe;rw[kq7 h,kq7 h];exact kjs h
theorem jw3 (h:st.bad=true):(kwm L st).2=st:=by
 show qy L [59] (kxe L (kjb L (qy L [58] (qm L og (qy L oZ st)).2)).2).2=st;rw[kqp (L:=L) (s:=oZ) h,kjs h,kqp (L:=L) (s:=[58]) h,zz4 h,zk8 h,kqp h]
theorem jw4 (h:st.bad=true):∀(f:Nat) (l:List PP),kvf f L l st=(l,st)
 |0,_=>rfl
 |f+1,l=>by rw[kvf,h];rfl
theorem zwy (h:st.bad=true):(kql L st).2=st:=by
 unfold kql;rw[kqp (L:=L) (s:=[40]) h,kq7 h];simp only[wU,if_false];rw[jw4 h,kqp h]
theorem jj9 (h:st.bad=true):(kj6 L st).2=st:=by
 rw[zy7 (L:=L) (st:=st) rfl rfl rfl rfl rfl rfl];simp only;rw[kqp (L:=L) (s:=oD) h,kjs h,zwy h,kqp (L:=L) (s:=oh) h,kjz h,kk6 h]
def yu (x:PVar):VrT:=⟨x.name,!(x.over.kind.toList==[]),x.over,if x.type_.kind.toList==oU then (if x.type_.text.toList==pX then ⟨0,zf,zf⟩ else ⟨1,x.top,zf⟩) else ⟨2,zf,x.type_⟩⟩
theorem zj3 (d:bg L)(a:st.at_<L.length){l:List UInt8}(g:l∈lits)(i:∃c r,l=c::r/\(decide (97<=(c.toNat:Int))&&decide ((c.toNat:Int)<=122))=true)(h:qo L l st=true):((tk L st.at_).kind.toList==oU)=true:=by
 obtain⟨c,r,e,f⟩:=i;have b:=(kqt h).1;exact(d.ok _ a).vxj g b (by rw[zj7 (b.trans e)];exact f)
theorem pjq (d:bg L)(b:st.at_<L.length)(hb:(kxe L st).2.bad=false):siT L st=if (tk L st.at_).kind.toList==oU then (if (tk L st.at_).text.toList==pX then ⟨0,zf,zf⟩ else ⟨1,(kxe L st).1,zf⟩) else ⟨2,zf,tk L st.at_⟩:=by
 unfold siT kxe at *;cases h1:qo L pX st
 ·rw[h1]at hb;simp only[wU,if_false]at hb |-;cases c:qo L o8 st
  ·rw[c]at hb;simp only[wU,if_false]at hb |-;have a:kqc L og st=true:=by
    cases a:kqc L og st
    ·unfold qm at hb;rw[a]at hb;simp at hb
    ·rfl
   have e:(qm L og st).1=tk L st.at_:=by unfold qm;rw[a];rfl
   unfold kqc at a;simp only[wW]at a;have:=a.2;rw[rQ]at this;rw[e,this];rfl
  ·simp only[if_true];rw[zj3 d b ak ⟨_,_,rfl,ak⟩ c];rw[((kqt c).1)];rfl
 ·simp only[if_true];rw[zj3 d b ak ⟨_,_,rfl,ak⟩ h1];rw[((kqt h1).1)];rfl
theorem jzw (m:bg L)(c:qy9 L)(k:st.at_<L.length)(hb:(kwm L st).2.bad=false):vrT L st=yu (kwm L st).1:=by
 have g:(kxe L (kjb L (qwy L st)).2).2.bad=false:=kja (s:=[59]) hb;have b:(kjb L (qwy L st)).2.bad=false:=by
  cases a:(kjb L (qwy L st)).2.bad
  ·rfl
  ·rw[zk8 a,a]at g;cases g
 have j:(qwy L st).bad=false:=by
  cases a:(qwy L st).bad
  ·rfl
  ·rw[zz4 a,a]at b;cases b
 have f:(qm L og (qy L oZ st)).2.bad=false:=kja (s:=[58]) j;have h1:(qy L oZ st).bad=false:=by
  cases a:(qy L oZ st).bad
  ·rfl
  ·rw[kjs a,a]at f;cases f
 obtain⟨_,_,q⟩:=yw c k h1;obtain⟨_,_,_,_,t⟩:=kjr c q rfl f;obtain⟨_,_,u⟩:=yw c t j;have d:qo L [91] (qwy L st)=(!((kjb L (qwy L st)).1.kind.toList==[]))/\(kjb L (qwy L st)).2.at_<L.length:=by
  have e:(qwy L st).at_<L.length:=u;generalize qwy L st=s3 at *;unfold kjb at b |-;cases hn:qo L [91] s3
  ·simp only[wU,if_false];exact⟨by rw[kqw];rfl,e⟩
  ·rw[hn]at b;simp only[if_true]at b |-;have h:(qm L og (qy L [91] s3)).2.bad=false:=kja b;have p:(qy L [91] s3).bad=false:=by
    cases a:(qy L [91] s3).bad
    ·rfl
    ·rw[kjs a,a]at h;cases h
   obtain⟨_,_,v⟩:=yw c e p;obtain⟨_,l,i,_,w⟩:=kjr c v rfl h;obtain⟨_,_,x⟩:=yw c w b;refine⟨?_,x⟩;rw[l];rw[rQ]at i;rw[i];rfl
 show(⟨_,qo L [91] (qwy L st),_,siT L (kjb L (qwy L st)).2⟩:VrT)=_;rw[d.1,(pjq m d.2 g)];rfl
def pzk (P:Nat)(v:Value)(L:List Tok)(w:World)(e:Ending)(w':World):Prop:=
 ∃x0 x1 x2 x3 x4 m,e=.returned (.agg #[x0,x1,x2,x3,x4])/\kvm w.heap.size w' x0 x1 x2 x3 x4 m/\((kx6 L).2.bad=false->m=⟨(yx L).1.sets,(yx L).1.kinds,(yx L).1.vars.map yu,(yx L).1.rules,(yx L).1.nevers⟩)/\Pd w' P v L (kx6 L).2/\Kept P w w'/\((∃a l c,x0=.slice a l c)/\(∃a l c,x1=.slice a l c)/\(∃a l c,x2=.slice a l c)/\(∃a l c,x3=.slice a l c)/\(∃a l c,x4=.slice a l c))
def zxd (L:List Tok)(s:RS):VrT×RS:=(yu (kwm L s).1,(kwm L s).2)
theorem vqk {l:List UInt8}  (h:qo L l s=true)(a:opens l=false)(b:shuts l=false):(qy L l s).at_=s.at_+1:=by
 rw[kzx a b];unfold zj0;rw[h];rfl
theorem pzw (h:qo L oZ s=true):s.at_+1<=(zxd L s).2.at_:=by
 have:=qv8 L s;rw[vqk h rfl rfl]at this;exact this
theorem pzd (h:qo L oD s=true):s.at_+1<=(kj6 L s).2.at_:=by
 have:=qj2 L s;rw[vqk h rfl rfl]at this;exact this
theorem pzy (L:List Tok)(s:RS):s.at_<=(zxd L s).2.at_:=rU (jh L oZ s) (qv8 L s)
theorem pzc (L:List Tok)(s:RS):s.at_<=(kj6 L s).2.at_:=rU (jh L oD s) (qj2 L s)
theorem zy0 {b:List PSet×RS}{a:List PKind×RS}{d:List VrT×RS}{c e:List PRule×RS}(l:b=loopA L oW (kki L) (gy L) [] gu)(j:a=loopA L oV (kzt L) (gy L) [] b.2)
  (m:d=kzg L oZ (zxd L) (gy L) [] a.2) (k:c=kzg L oD (kj6 L) (gy L) [] d.2) (hN:e=loopA L oM (kjm L) (gy L) [] c.2):
  kx6 L=e/\kx5 L=c/\d=((kzz L).1.map yu,(kzz L).2)/\a=(kqq L gu).2/\(kqq L gu).1=b.1:=by
 have i:kvy (gy L) L [] gu=b:=by rw[qv9,l]
 have f:kqq L gu=(b.1,a):=by
  unfold kqq;rw[i,qz6,j]
 have h:d=((kzz L).1.map yu,(kzz L).2):=by
  unfold kzz;rw[f,qx5,m];exact jq4 yu L oZ (kwm L) (gy L) [] a.2
 have g:kx5 L=c:=by
  unfold kx5;rw[qz5,k,h]
 refine⟨?_,g,h,by rw[f],by rw[f]⟩;unfold kx6;rw[kyl,hN,g]
theorem qkv {lo:Nat}    (h:kvm lo w x0 x1 x2 x3 x4 m):(∃a l c,x0=.slice a l c)/\(∃a l c,x1=.slice a l c)/\(∃a l c,x2=.slice a l c)/\(∃a l c,x3=.slice a l c)/\(∃a l c,x4=.slice a l c):=
 ⟨zq h.o0,zq h.o1.choose_spec.1,zq h.o2,zq h.o3.choose_spec.1,zq h.o4.choose_spec.1⟩
theorem kze.b1g {P:Nat}{v:Value}  {B0 B1:Nat}{x: Value}   {wx wy:World}{o:Obj}(h:kze w P v L B0 B1 x0 x1 x2 x3 x4 m s wx)(b:(wx.alloc o).grownBy wy x.ownBlock)(a:∀k,x.ownBlock=some k->B1+1<=k):wy.heap[B1]?=some (.cells #[x0,x1,x2,x3,x4] 68 (0,0)):=
 (b.block _ (by have:=wu h.b1;simp;omega) (λe=>by have:=a _ e.symm;omega)).trans ((tX _ _ _ (wu h.b1)).trans h.b1)
theorem jw8 (w:World)(P:Nat)(v:Value)(L:List Tok)(hF:qy9 L)(H:Pd w P v L gu):
  qJ 88 #[.pointer (some ⟨P,0,none⟩)] w λe w'=>pzk P v L w e w':=by
 have hX:=H.in;have HV:=pG H.mg;have hL:=H.ok;have cJ:=hL.len;have bH:=pG (qks (L:=L) (lit:=oW) (one:=kki L) gu);obtain⟨U,aW⟩:∃f,f=loopA L oW (kki L) (gy L) [] gu:=⟨_,rfl⟩;rw[<-aW]at bH;have bI:=pG (qks (L:=L) (lit:=oV) (one:=kzt L) U.2);obtain⟨a9,b6⟩:∃f,f=loopA L oV (kzt L) (gy L) [] U.2:=⟨_,rfl⟩;rw[<-b6]at bI;obtain⟨aA,b9⟩:∃f,f=kzg L oZ (zxd L) (gy L) [] a9.2:=⟨_,rfl⟩;have cE:=pG b9.symm;obtain⟨T,b8⟩:∃f,f=kzg L oD (kj6 L) (gy L) [] aA.2:=⟨_,rfl⟩;have cF:=pG b8.symm;have bJ:=pG (qks (L:=L) (lit:=oM) (one:=kjm L) T.2);obtain⟨bX,b7⟩:∃f,f=loopA L oM (kjm L) (gy L) [] T.2:=⟨_,rfl⟩;rw[<-b7]at bJ;have aT:=pG b6;have aX:=pG b9;have aV:=pG b8;have aU:=pG b7;clear b6 b9 b8 b7;go_enter func88,ntmps88
 obtain⟨R0,aZ⟩:∃R:World->Prop,Hid (∀u,R u↔∃(x:Value) (l:List PSet) (s:RS),zwq L oW (kki L) U l s/\l.length<=s.at_/\kze w P v L w.heap.size (w.heap.size+1) x (.slice none 0 0) (.slice none 0 0) (.slice none 0 0) (.slice none 0 0) ⟨l,[],[],[],[]⟩ s u):=⟨_,λ_=>Iff.rfl⟩;have aC:=pG (show R0 ((w.alloc (.cells #[.slice none 0 0,.slice none 0 0,.slice none 0 0,.slice none 0 0,.slice none 0 0] 68)).alloc (.cells #[.slice none 0 0,.slice none 0 0,.slice none 0 0,.slice none 0 0,.slice none 0 0] 68)) from(aZ _).2
  ⟨.slice none 0 0,[],gu,bH,au,⟨zy (qg _ _),by have:=qg (w.alloc (.cells #[.slice none 0 0,.slice none 0 0,.slice none 0 0,.slice none 0 0,.slice none 0 0] 68)) (.cells #[.slice none 0 0,.slice none 0 0,.slice none 0 0,.slice none 0 0,.slice none 0 0] 68);simpa using this,⟨wB _ _ _ _,⟨[],wB _ _ _ _,rfl⟩,wB _ _ _ _,⟨[],wB _ _ _ _,rfl⟩,⟨[],wB _ _ _ _,rfl⟩⟩,(H.alloc _).alloc _,((Kept.refl _ _).alloc _).alloc _⟩⟩)
 go_wp2_with fail
 go_loopw [] (λwr=>R0 wr) (λwr=>L.length-qvf wr P)
 case atStart=>exact aC
 case round=>
  obtain⟨y0,l0,s0,d,Q,E⟩:=(aZ _).1 hrel;have h:=E.pd.lt;have aO:=pG d;have aJ:=pG E;clear d E aC;go_wp2_with fail
  refine(qqb oW ak _ P v L s0 aJ.pd).mono ?_;rintro e cH ⟨rfl,O,z⟩;have K:=pG (aJ.kept' z O aj aj);clear O z;cases k:qo L oW s0
  ·obtain⟨bB,bO⟩:=zjh aO h k;have bY:=pG bO;clear bO aO aJ;clear Q;obtain⟨R1,b2⟩:∃R:World->Prop,Hid (∀u,R u↔∃(x:Value) (l:List PKind) (s:RS),zwq L oV (kzt L) a9 l s/\l.length<=s.at_/\kze w P v L w.heap.size (w.heap.size+1) y0 x (.slice none 0 0) (.slice none 0 0) (.slice none 0 0) ⟨l0,l,[],[],[]⟩ s u):=⟨_,λ_=>Iff.rfl⟩;have aD:=pG (show R1 cH from(b2 _).2 ⟨_,[],s0,by rw[<-show U.2=s0 from bB];exact bI,au,K⟩);clear h k K;go_wp2_with fail
   go_loopw [] (λwr=>R1 wr) (λwr=>L.length-qvf wr P)
   case atStart=>exact aD
   case round=>
    obtain⟨y1,l1,s1,d,Q,E⟩:=(b2 _).1 hrel;have h:=E.pd.lt;have aP:=pG d;have aK:=pG E;clear d E aD;go_wp2_with fail
    refine(qqb oV ak _ P v L s1 aK.pd).mono ?_;rintro e cL ⟨rfl,O,z⟩;have q:=pG (aK.kept' z O aj aj);clear O z;cases k:qo L oV s1
    ·obtain⟨bC,bP⟩:=zjh aP h k;have bZ:=pG bP;clear bP aP aK;clear Q;go_upto_region 6 with fail
     go_cut [] from 22 to 28 (λwx=>∃(x:Value) (e:VrT),(((zxd L) s1).2.bad=false->e=((zxd L) s1).1)/\kze w P v L w.heap.size (w.heap.size+1) y0 y1 x (.slice none 0 0) (.slice none 0 0) ⟨l0,l1,[e],[],[]⟩ ((zxd L) s1).2 wx)
     case first=>
      have q2:=jl q.b1;have W:=wu q.b1;go_region_law (first
       |(refine apL (news:=(kjp (vrT L s1))) (g.md.o2.alloc _) (heap_alloc_new S _) ?_;intro gg cap w6 c b G V;have r6:=jl (g.b1g b p))
       |(go_simp;go_at_call 149;refine(qw6 _ P v L s1 (q.pd.below ((Below.refl _ _).drew))).mono ?_;rintro e S ⟨rfl,D,i⟩;have a:=q.kept' ((Kept.refl _ _).drew.trans i) D aj aj;have q5:=jl a.b1;have p:=xg a.md.o2;have g:=pG a;have X:=wu a.b1;unfold vrV kjp;clear D i a;dsimp only))
      all_goals
       go_wp2_with fail
       go_meet
       exact⟨_,vrT L s1,λhb=>(by unfold zxd;exact jzw hL hF h hb),g.more2 (e:=vrT L s1) b c HV hX rfl aj⟩
     case rest=>
     obtain⟨xv,ev,aI,aH⟩:=hcut;obtain⟨R2,b3⟩:∃R:World->Prop,Hid (∀u,R u↔∃(x:Value) (l:List VrT) (s:RS),jqh L oZ (zxd L) aA l s/\l.length<=s.at_+1/\kze w P v L w.heap.size (w.heap.size+1) y0 y1 x (.slice none 0 0) (.slice none 0 0) ⟨l0,l1,l,[],[]⟩ s u):=⟨_,λ_=>Iff.rfl⟩;have aE:=pG (show R2 wc from(b3 _).2 ⟨xv,[ev],((zxd L) s1).2,by rw[<-cE,show a9.2=s1 from bC];exact zzy (λhb=>jw3 hb) (λhb=>pzy L s1) aI,au,aH⟩);clear h k q aI aH;go_wp2_with fail
     go_loopw [] (λwr=>R2 wr) (λwr=>L.length-qvf wr P)
     case atStart=>exact aE
     case round=>
      obtain⟨y2,l2,Z,d,Q,E⟩:=(b3 _).1 hrel;have h:=E.pd.lt;have aQ:=pG d;have aL:=pG E;clear d E aE;go_wp2_with fail
      refine(qqb oZ ak _ P v L Z aL.pd).mono ?_;rintro e cM ⟨rfl,O,z⟩;have t:=pG (aL.kept' z O aj aj);clear O z;cases k:qo L oZ Z
      ·obtain⟨bL,bQ⟩:=jqk aQ k;have bD:=pG bL;have cA:=pG bQ;clear bL bQ aQ aL;clear Q;go_upto_region 9 with fail
       go_cut [] from 38 to 44 (λwx=>∃(x:Value) (e:PRule),(((kj6 L) Z).2.bad=false->e=((kj6 L) Z).1)/\kze w P v L w.heap.size (w.heap.size+1) y0 y1 y2 x (.slice none 0 0) ⟨l0,l1,l2,[e],[]⟩ ((kj6 L) Z).2 wx)
       case first=>
        have q2:=jl t.b1;have W:=wu t.b1;go_region_law (first
         |(refine apL (a7.alloc _) (heap_alloc_new S _) ?_ (h1:=sG.2 a8);intro gg cap w6 c b G V;have r6:=jl (g.b1g b p))
         |(go_simp;go_at_call 150;refine(zyx _ P v L Z (t.pd.below ((Below.refl _ _).drew))).mono ?_;rintro e S ⟨c0,c1,c2,c3,c4,rr,rfl,A,J,Y,D,i⟩;have a:=t.kept' ((Kept.refl _ _).drew.trans i) D aj aj;have q5:=jl a.b1;have p:=xg a.md.o3.choose_spec.1;have g:=pG a;have X:=wu a.b1;obtain⟨aY,I,y⟩:=a.md.o3;have a7:=pG I;have a5:=pG y;have a6:=pG (A.mono (lo':=w.heap.size+1+1) (by have:=wu t.b1;simp;omega));have aB:=pG Y;have a8:=pG J;clear I y A Y J;clear D i a;dsimp only))
        all_goals
         go_wp2_with fail
         go_meet
         exact⟨_,_,aB,g.more3 b c a5 a6 HV hX rfl aj⟩
       case rest=>
       obtain⟨xv,ev,aI,aH⟩:=hcut;obtain⟨R3,b4⟩:∃R:World->Prop,Hid (∀u,R u↔∃(x:Value) (l:List PRule) (s:RS),jqh L oD (kj6 L) T l s/\l.length<=s.at_+1/\kze w P v L w.heap.size (w.heap.size+1) y0 y1 y2 x (.slice none 0 0) ⟨l0,l1,l2,l,[]⟩ s u):=⟨_,λ_=>Iff.rfl⟩;have aF:=pG (show R3 wc from(b4 _).2 ⟨xv,[ev],((kj6 L) Z).2,by rw[<-cF,show aA.2=Z from bD];exact zzy (λhb=>jj9 hb) (λhb=>pzc L Z) aI,au,aH⟩);clear h k t aI aH;go_wp2_with fail
       go_loopw [] (λwr=>R3 wr) (λwr=>L.length-qvf wr P)
       case atStart=>exact aF
       case round=>
        obtain⟨y3,l3,s3,d,Q,E⟩:=(b4 _).1 hrel;have h:=E.pd.lt;have aR:=pG d;have aM:=pG E;clear d E aF;go_wp2_with fail
        refine(qqb oD ak _ P v L s3 aM.pd).mono ?_;rintro e cI ⟨rfl,O,z⟩;have F:=pG (aM.kept' z O aj aj);clear O z;cases k:qo L oD s3
        ·obtain⟨bM,bT⟩:=jqk aR k;have bF:=pG bM;have cB:=pG bT;clear bM bT aR aM;clear Q;obtain⟨R4,b5⟩:∃R:World->Prop,Hid (∀u,R u↔∃(x:Value) (l:List PRule) (s:RS),zwq L oM (kjm L) bX l s/\l.length<=s.at_/\kze w P v L w.heap.size (w.heap.size+1) y0 y1 y2 y3 x ⟨l0,l1,l2,l3,l⟩ s u):=⟨_,λ_=>Iff.rfl⟩;have aG:=pG (show R4 cI from(b5 _).2 ⟨_,[],s3,by rw[<-show T.2=s3 from bF];exact bJ,au,F⟩);clear h k F;go_wp2_with fail
         go_loopw [] (λwr=>R4 wr) (λwr=>L.length-qvf wr P)
         case atStart=>exact aG
         case round=>
          obtain⟨y4,l4,s4,d,Q,E⟩:=(b5 _).1 hrel;have h:=E.pd.lt;have aS:=pG d;have aN:=pG E;clear d E aG;go_wp2_with fail
          refine(qqb oM ak _ P v L s4 aN.pd).mono ?_;rintro e cN ⟨rfl,O,z⟩;have m:=pG (aN.kept' z O aj aj);clear O z;cases k:qo L oM s4
          ·obtain⟨bN,bU⟩:=zjh aS h k;have bG:=pG bN;have cC:=pG bU;clear bN bU aS aN;clear Q;obtain⟨d0,d1,d2,d3,d4,e0,e1,e2,e3,e4⟩:=jl m.b0;obtain⟨g0,g1,g2,g3,g4,_⟩:=jl m.b1;have cG:=qkv m.md;obtain⟨⟨a0,n0,k0,rfl⟩,⟨a1,n1,k1,rfl⟩,⟨a2,n2,k2,rfl⟩,⟨a3,n3,k3,rfl⟩,⟨a4,n4,k4,rfl⟩⟩:=cG;go_wp2
           refine rY (v:=.agg #[.slice a0 n0 k0,.slice a1 n1 k1,.slice a2 n2 k2,.slice a3 n3 k3,.slice a4 n4 k4]) (rP results88 _ _ w.heap.size _ _ _ _ rfl (kjw m.b0 _ _ _ _ _) underlying68 rfl ah) rfl ?_;refine⟨_,_,_,_,_,⟨l0,l1,l2,l3,l4⟩,rfl,?_,?_,?_,m.kept.kw6 (wJ _) _ _ _ _ _,⟨⟨_,_,_,rfl⟩,⟨_,_,_,rfl⟩,⟨_,_,_,rfl⟩,⟨_,_,_,rfl⟩,⟨_,_,_,rfl⟩⟩⟩
           ·exact(m.md.stay ((kj4.refl (w.heap.size+1+1) _).kw6 (Or.inl aj) _ _ _ _ _).block).mono aj
           ·have hT:=zy0 aW aT aX aV aU;intro hb;rw[hT.1]at hb;have bR:T.2.bad=false:=by
             cases hh:T.2.bad
             ·rfl
             ·rw[aU,kkb hh]at hb;simp only at hb;rw[hh]at hb;cases hb
            have bV:aA.2.bad=false:=by
             cases hh:aA.2.bad
             ·rfl
             ·rw[aV,kkc hh]at bR;simp only at bR;rw[hh]at bR;cases bR
            have bK:a9.2.bad=false:=by
             cases hh:a9.2.bad
             ·rfl
             ·rw[aX,kkc hh]at bV;simp only at bV;rw[hh]at bV;cases bV
            have bS:U.2.bad=false:=by
             cases hh:U.2.bad
             ·rfl
             ·rw[aT,kkb hh]at bK;simp only at bK;rw[hh]at bK;cases bK
            have q0:=bY (by rw[<-bB];exact bS);have q1:=bZ (by rw[<-bC];exact bK);have q2:=cA (by rw[<-bD];exact bV);have q3:=cB (by rw[<-bF];exact bR);have q4:=cC (by rw[<-bG];exact hb);rw[<-q0,<-q1,<-q2,<-q3,<-q4];show(⟨_,_,_,_,_⟩:MdL)=⟨(kqq L gu).1,(kqq L gu).2.1,(kzz L).1.map yu,(kx5 L).1,(kx6 L).1⟩;rw[hT.1,hT.2.1,<-hT.2.2.2.1,hT.2.2.2.2];rw[hT.2.2.1]
           ·have hT:=zy0 aW aT aX aV aU;rw[hT.1,bG];exact m.pd.kw6 HV hX (wJ _) _ _ _ _ _
          ·have B:=kjq hL h k;have C:=qyh k;obtain⟨xa,xl,xc,rfl⟩:=zq m.md.o4.choose_spec.1;go_wp2_with fail
           have q2:=jl m.b1;have W:=wu m.b1;go_region_law (first
            |(refine apL (a7.alloc _) (heap_alloc_new S _) ?_ (h1:=sG.2 a8);intro gg cap w6 c b G V;have r6:=jl (g.b1g b p))
            |(go_simp;go_at_call 151;refine(jw7 _ P v L s4 (m.pd.below ((Below.refl _ _).drew))).mono ?_;rintro e S ⟨c0,c1,c2,c3,rr,rfl,A,J,Y,D,i⟩;have a:=m.kept' ((Kept.refl _ _).drew.trans i) D aj aj;have q5:=jl a.b1;have p:=xg a.md.o4.choose_spec.1;have g:=pG a;have X:=wu a.b1;obtain⟨aY,I,y⟩:=a.md.o4;have a7:=pG I;have a5:=pG y;have a6:=pG (A.mono (lo':=w.heap.size+1+1) (by have:=wu m.b1;simp;omega));have aB:=pG Y;have a8:=pG J;clear I y A Y J;clear D i a;dsimp only))
           all_goals
            have j:=g.more4 b c a5 a6 HV hX rfl aj;have M:=pG (kky aN.pd j.pd B.1 B.2 (λ_=>C));have N:=pG ((b5 _).2 ⟨_,_,_,qy0 aS h k C (aB),ay,j⟩);clear j c b G;go_wp2
            go_roundw
            case rel=>exact N
            case measure=>exact M
        ·have B:=kjq hL h k;have C:=pzd k;obtain⟨xa,xl,xc,rfl⟩:=zq F.md.o3.choose_spec.1;go_wp2_with fail
         have q2:=jl F.b1;have W:=wu F.b1;go_region_law (first
          |(refine apL (a7.alloc _) (heap_alloc_new S _) ?_ (h1:=sG.2 a8);intro gg cap w6 c b G V;have r6:=jl (g.b1g b p))
          |(go_simp;go_at_call 150;refine(zyx _ P v L s3 (F.pd.below ((Below.refl _ _).drew))).mono ?_;rintro e S ⟨c0,c1,c2,c3,c4,rr,rfl,A,J,Y,D,i⟩;have a:=F.kept' ((Kept.refl _ _).drew.trans i) D aj aj;have q5:=jl a.b1;have p:=xg a.md.o3.choose_spec.1;have g:=pG a;have X:=wu a.b1;obtain⟨aY,I,y⟩:=a.md.o3;have a7:=pG I;have a5:=pG y;have a6:=pG (A.mono (lo':=w.heap.size+1+1) (by have:=wu F.b1;simp;omega));have aB:=pG Y;have a8:=pG J;clear I y A Y J;clear D i a;dsimp only))
         all_goals
          have j:=g.more3 b c a5 a6 HV hX rfl aj;have M:=pG (kky aM.pd j.pd B.1 B.2 (λ_=>C));have N:=pG ((b4 _).2 ⟨_,_,_,zvk aR h k (λ_=>C) (aB),ay,j⟩);clear j c b G;go_wp2
          go_roundw
          case rel=>exact N
          case measure=>exact M
      ·have B:=kjq hL h k;have C:=pzw k;obtain⟨xa,xl,xc,rfl⟩:=zq t.md.o2;go_wp2_with fail
       have q2:=jl t.b1;have W:=wu t.b1;go_region_law (first
        |(refine apL (news:=(kjp (vrT L Z))) (g.md.o2.alloc _) (heap_alloc_new S _) ?_;intro gg cap w6 c b G V;have r6:=jl (g.b1g b p))
        |(go_simp;go_at_call 149;refine(qw6 _ P v L Z (t.pd.below ((Below.refl _ _).drew))).mono ?_;rintro e S ⟨rfl,D,i⟩;have a:=t.kept' ((Kept.refl _ _).drew.trans i) D aj aj;have q5:=jl a.b1;have p:=xg a.md.o2;have g:=pG a;have X:=wu a.b1;unfold vrV kjp;clear D i a;dsimp only))
       all_goals
        have j:=g.more2 (e:=vrT L Z) b c HV hX rfl aj;have M:=pG (kky aL.pd j.pd B.1 B.2 (λ_=>C));have N:=pG ((b3 _).2 ⟨_,_,_,zvk aQ h k (λ_=>C) (λhb=>by unfold zxd;exact jzw hL hF h hb),ay,j⟩);clear j c b G;go_wp2
        go_roundw
        case rel=>exact N
        case measure=>exact M
    ·have B:=kjq hL h k;have C:=zz5 k;obtain⟨xa,xl,xc,rfl⟩:=zq q.md.o1.choose_spec.1;go_wp2_with fail
     have q2:=jl q.b1;have W:=wu q.b1;go_region_law (first
      |(refine apL (a7.alloc _) (heap_alloc_new S _) ?_;intro gg cap w6 c b G V;have r6:=jl (g.b1g b p))
      |(go_simp;go_at_call 148;refine(vja _ P v L s1 (q.pd.below ((Below.refl _ _).drew))).mono ?_;rintro e S ⟨xk,lk,rfl,bA,bW,D,i,cK⟩;obtain⟨ma,mn,mc,rfl⟩:=zq bA;have a:=q.kept' ((Kept.refl _ _).drew.trans i) D aj aj;have q5:=jl a.b1;have p:=xg a.md.o1.choose_spec.1;have g:=pG a;have X:=wu a.b1;obtain⟨aY,I,y⟩:=a.md.o1;have a7:=pG I;have a5:=pG y;have a6:=pG (show kxz (w.heap.size+1+1) S [⟨(kzt L s1).1.name,lk⟩] [Value.string (kzt L s1).1.name.text,.int .i64 (kzt L s1).1.name.at_,.slice ma mn mc] from⟨ma,mn,mc,[],rfl,zu (by have:=wu q.b1;simp;omega) bA,rfl⟩);have cD:=pG bW;clear I y bA bW;clear D i a;dsimp only))
     all_goals
      have j:=g.more1 b c a5 a6 HV hX rfl aj;have M:=pG (kky aK.pd j.pd B.1 B.2 (λ_=>C));have N:=pG ((b2 _).2 ⟨_,_,_,qy0 aP h k C (λhb=>by rw[cD hb]),ay,j⟩);clear j c b G;go_wp2
      go_roundw
      case rel=>exact N
      case measure=>exact M
  ·have B:=kjq hL h k;have C:=zk9 k;obtain⟨xa,xl,xc,rfl⟩:=zq K.md.o0;go_wp2_with fail
   have q2:=jl K.b1;have W:=wu K.b1;go_region_law (first
    |(refine apL (news:=(qvs (kki L s0).1)) (g.md.o0.alloc _) (heap_alloc_new S _) ?_;intro gg cap w6 c b G V;have r6:=jl (g.b1g b p))
    |(go_simp;go_at_call 147;refine(vkc _ P v L s0 (K.pd.below ((Below.refl _ _).drew))).mono ?_;rintro e S ⟨rfl,D,i⟩;have a:=K.kept' ((Kept.refl _ _).drew.trans i) D aj aj;have q5:=jl a.b1;have p:=xg a.md.o0;have g:=pG a;have X:=wu a.b1;unfold stV;clear D i a;dsimp only))
   all_goals
    have j:=g.more0 (e:=(kki L s0).1) b c HV hX rfl aj;have M:=pG (kky aJ.pd j.pd B.1 B.2 (λ_=>C));have N:=pG ((aZ _).2 ⟨_,_,_,qy0 aO h k C (λ_=>rfl),ay,j⟩);clear j c b G;go_wp2
    go_roundw
    case rel=>exact N
    case measure=>exact M
end Go.Proofs.YtpmcnonmkghokaaGreatDoor

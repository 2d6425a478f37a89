import Derived.Test.YtpmcnonmkghokaaGreatDoorT28
import Derived.Test.YtpmcnonmkghokaaGreatDoorT25
set_option maxRecDepth 100000
set_option maxHeartbeats 4000000
set_option linter.unusedVariables false
set_option linter.unusedSimpArgs false
namespace Go.Proofs.YtpmcnonmkghokaaGreatDoor
open Go.Proofs.Tryz
open Go.RowKit
variable {k:PKind}{t:PTree}{v:PVar}{y:Tok}{α:Type}{g:α->List Tok}
theorem kzv:∀{x:PX},kza x->cu x=uo x
 |.nil,h=>rfl
 |.node _ _ x a c,h=>by
  have own:qxf x=ownNames x:=by
   unfold qxf ownNames kz7;by_cases b:x.op.toList=oK
   ·have d:(x.op.toList==oK)=true:=by rw[rQ];exact b
    simp only[d,if_true];have hi:x.index=zf\/(x.index.kind.toList==og)=true:=by
     rcases h with⟨h1,_⟩|⟨h1,_⟩|⟨h1,_⟩
     ·rcases h1 with(h1|h1|h1)|⟨h1,_⟩|⟨_,_,h1⟩
      ·rw[b]at h1;cases h1
      ·rw[b]at h1;cases h1
      ·rw[b]at h1;cases h1
      ·rw[b]at h1;cases h1
      ·exact h1
     ·rw[b]at h1;cases h1
     ·rw[b]at h1;exact absurd h1 ak
    rcases hi with hi|hi
    ·rw[hi,kqw];rfl
    ·rw[rQ]at hi;rw[hi];rfl
   ·have d:(x.op.toList==oK)=false:=by rw[Qw];exact b
    simp only[d];rfl
  rw[cu,uo,own];rcases h with⟨_,rfl,rfl⟩|⟨_,e,rfl⟩|⟨_,e,f⟩
  ·rfl
  ·rw[kzv e];rfl
  ·rw[kzv e,kzv f]
theorem kxk:∀{b:PB},kxn b->pz b=uf b
 |.nil,_=>rfl
 |.node _ _ a .nil n,⟨⟨h1,x,hx,ho⟩,h2,h3,h4⟩=>by
  rw[pz,uf,kxk h4,kvo,h3,kzv h2];have e:vkl a.place=uo a.place:=by
   have w:=kzv h1;rw[hx]at w |-;rw[<-w];show kz7 x.name x.index=(qxf x++[])++[];unfold qxf;rw[if_pos (by rw[rQ];exact ho)];simp
  rw[e,show uo (Go.Deep.BT.nil:PX)=[] from rfl,Qg]
 |.node _ _ a (.node _ _ _ t e) n,⟨h1,h2,h3,h4,h5,h6⟩=>by
  rw[pz,uf,kxk h4.1,kxk h5.1,kxk h6,kvo,h2,h3,kzv h1];rfl
def fS (tab:Tab)(s:PSet):List Tok:=kqk (kx8 tab s.name) s.name
def fM (tab:Tab)(m:Tok):List Tok:=kqk (kx8 tab m) m
def fK (tab:Tab)(k:PKind):List Tok:=kqk (kx8 tab k.name) k.name++k.members.flatMap (fM tab)
def fV (tab:Tab)(v:VrT):List Tok:=kqk (kx8 tab v.name) v.name++(kqk (v.arr&&qyg tab v.over) v.over++kqk ((v.si.form==2)&&jvo tab v.si.name) v.si.name)
def fE (tab:Tab)(l:List PP)(i:Nat)(p:PP):List Tok:=kqk (jy5 tab l i p) p.name++kqk (qyg tab p.set_) p.set_
def fU (tab:Tab)(l:List PP)(n:Tok):List Tok:=kqk (vj9 tab l n) n
def fN (tab:Tab)(r:PRule):List Tok:=(kqk (kx8 tab r.name) r.name++jy (fE tab r.params) r.params 0)++(cu r.guard).flatMap (fU tab r.params)
def fR (tab:Tab)(r:PRule):List Tok:=fN tab r++(pz r.body).flatMap (fU tab r.params)
theorem jvg (tab:Tab)(m:MdL):kyu tab m=kqz (-1) ((((m.sets.flatMap (fS tab)++m.kinds.flatMap (fK tab))++m.vars.flatMap (fV tab))++m.rules.flatMap (fR tab))++m.nevers.flatMap (fN tab)):=by
 have c:(-1:Int)<=-1:=aj;have val:∀(l:List PP) (d:List Tok) (a:Int),-1<=a->d.foldl (kwp tab l) a=kqz a (d.flatMap (fU tab l)):=λl d a b=>kkq (f:=kwp tab l) (g:=fU tab l) (λa x _=>kzk _ _ _) d a b
 have nev:∀(a:Int) (r:PRule),-1<=a->wN tab a r=kqz a (fN tab r):=λa r b=>by
  unfold wN fN;rw[ug,ug,kzk];have e:=kqj (kqk (kx8 tab r.name) r.name) b;rw[yh (g:=fE tab r.params) (λa i x _=>by unfold jv4 fE;rw[kzk,kzk,ug]) _ _ _ e];exact val _ _ _ (kqj _ e)
 have h:wt1 tab m=kqz (-1) (m.sets.flatMap (fS tab)):=kkq (λa x _=>by unfold wS fS;exact kzk _ _ _) _ _ c;have j:wt2 tab m=kqz (-1) (m.sets.flatMap (fS tab)++m.kinds.flatMap (fK tab)):=by
  unfold wt2;rw[h,ug];exact kkq (λa x b=>by
   unfold wK fK;rw[kzk,ug];exact kkq (λa x _=>by unfold wM fM;exact kzk _ _ _) _ _ (kqj _ b)) _ _ (kqj _ c)
 have k:wt3 tab m=kqz (-1) ((m.sets.flatMap (fS tab)++m.kinds.flatMap (fK tab))++m.vars.flatMap (fV tab)):=by
  unfold wt3;rw[j];refine Eq.trans ?_ (ug _ _ _).symm;exact kkq (λa x b=>by
   unfold wV vwc fV;rw[ug,ug,kzk,kzk,kzk];cases q:(x.si.form==2)
   ·rw[if_neg au];rfl
   ·rw[if_pos rfl];rfl) _ _ (kqj _ c)
 have p:wt4 tab m=kqz (-1) (((m.sets.flatMap (fS tab)++m.kinds.flatMap (fK tab))++m.vars.flatMap (fV tab))++m.rules.flatMap (fR tab)):=by
  unfold wt4;rw[k];refine Eq.trans ?_ (ug _ _ _).symm;exact kkq (λa x b=>by
   unfold fR;rw[ug,<-nev a x b];have g:=kqj (fN tab x) b;rw[<-nev a x b]at g;exact val _ _ _ g) _ _ (kqj _ c)
 unfold kyu;rw[p];refine Eq.trans ?_ (ug _ _ _).symm;exact kkq nev _ _ (kqj _ c)
def dG (g:List Tok)(i:Nat)(x:Tok):List Tok:=jy (λ_ y=>kqk (y.text.toList==x.text.toList) x) (g.take i) 0
def dP (g:List Tok)(ps:List PP)(k:Nat)(p:PP):List Tok:=jy (λ_ y=>kqk (y.text.toList==p.name.text.toList) p.name) g 0++jy (λ_ q=>kqk (q.name.text.toList==p.name.text.toList) p.name) (ps.take k) 0
def dR (g:List Tok)(_:Nat)(r:PRule):List Tok:=jy (dP g r.params) r.params 0
def uV (t:PTree)(_:Nat)(v:PVar):List Tok:=kqk ((v.over.kind.toList==og)&&decide (qh (dh t) v.over.text.toList<0)) v.over ++
 kqk ((v.type_.kind.toList==og)&&decide (qh (dh t) v.type_.text.toList<0)&&decide (qh (pq t) v.type_.text.toList<0)) v.type_
def uP (t:PTree)(_:Nat)(p:PP):List Tok:=kqk (decide (qh (dh t) p.set_.text.toList<0)) p.set_
def uN (t:PTree)(ps:List PP)(_:Nat)(n:Tok):List Tok:=kqk (!qjd t ps n.text.toList) n
def uR (t:PTree)(_:Nat)(r:PRule):List Tok:=jy (uP t) r.params 0++jy (uN t r.params) (uo r.guard++uf r.body) 0
theorem zvv (t:PTree):kwi t=kqz (-1) (jy (dG (jc t)) (jc t) 0++jy (dR (jc t)) (t.rules++t.nevers) 0):=by
 have c:(-1:Int)<=-1:=aj;have sm:∀(x:Tok) (l:List Tok) (a:Int),-1<=a->uh (qz0 x) l 0 a=kqz a (jy (λ_ y=>kqk (y.text.toList==x.text.toList) x) l 0):=λx l a b=>yh (λa i y _=>by
  unfold qz0 kqk;cases (y.text.toList==x.text.toList)<;>rfl) _ _ _ b
 have sp:∀(x:Tok) (l:List PP) (a:Int),-1<=a->uh (zk5 x) l 0 a=kqz a (jy (λ_ q=>kqk (q.name.text.toList==x.text.toList) x) l 0):=λx l a b=>yh (λa i q _=>by
  unfold zk5 kqk;cases (q.name.text.toList==x.text.toList)<;>rfl) _ _ _ b
 unfold kwi;rw[ug,yh (f:=zvw (jc t)) (g:=dG (jc t)) (λa i x b=>by unfold zvw dG;exact sm _ _ _ b) _ _ _ c];exact yh (λa i r b=>by
  unfold jqy dR;exact yh (λa k p b=>by unfold jqu dP;rw[ug,sm _ _ _ b];exact sp _ _ _ (kqj _ b)) _ _ _ b) _ _ _ (kqj _ c)
theorem zwo (t:PTree):qjs t=kqz (-1) (jy (uV t) t.vars 0++jy (uR t) (t.rules++t.nevers) 0):=by
 have c:(-1:Int)<=-1:=aj;unfold qjs pq5;rw[ug,yh (f:=zwa t) (g:=uV t) (λa i x b=>by
  unfold zwa uV qq8 qq9 kqk;rw[ug];cases (x.over.kind.toList==og&&decide (qh (dh t) x.over.text.toList<0))<;>cases (x.type_.kind.toList==og&&decide (qh (dh t) x.type_.text.toList<0)&&decide (qh (pq t) x.type_.text.toList<0))<;>rfl) _ _ _ c]
 exact yh (λa i r b=>by
  unfold zwe uR;rw[ug,yh (f:=zxh t) (g:=uP t) (λa i p _=>by
   unfold zxh uP kqk;by_cases h:qh (dh t) p.set_.text.toList<0
   ·rw[if_pos h,if_pos iw];rfl
   ·rw[if_neg h,if_neg iw];rfl) _ _ _ b]
  exact yh (λa i n _=>by unfold zwi uN kqk;cases qjd t r.params n.text.toList<;>rfl) _ _ _ (kqj _ b)) _ _ _ (kqj _ c)
theorem qzb {α:Type}{f g:α->List Tok}(h:∀x,(f x).Sublist (g x)):∀l:List α,(l.flatMap f).Sublist (l.flatMap g)
 |[]=>List.Sublist.slnil
 |x::l=>by rw[Qb,Qb];exact(h x).append (qzb h l)
theorem qkt (t:PTree):(jc t).Sublist (kzl t):=by
 unfold jc kyc qxr qxn kzl;rw[Qn,sD,sD];refine(List.Sublist.refl _).append ((List.Sublist.refl _).append ?_);refine(qzb (λv=>?_) _).append ((qzb (λr=>?_) _).append (qzb (λr=>?_) _))
 ·exact(Zw _).cons_cons _
 ·exact(Zw _).cons_cons _
 ·exact(Zw _).cons_cons _
structure TreeOrd (t:PTree):Prop where
 glob:(jc t).Pairwise (λa b=>a.at_<b.at_)
 kv:∀x∈t.kinds.flatMap kzp,∀y∈t.vars.flatMap kxy,x.at_<y.at_
 kr:∀x∈t.kinds.flatMap kzp,∀r∈t.rules++t.nevers,∀y∈kqx r,x.at_<y.at_
 vr:∀x∈t.vars.flatMap kxy,∀r∈t.rules++t.nevers,∀y∈kqx r,x.at_<y.at_
theorem jzh (h:(kzl t).Pairwise (λa b=>a.at_<b.at_)):TreeOrd t:=by
 have f:=h;unfold kzl at f;rw[QW,QW,QW]at f;obtain⟨_,⟨_,⟨_,_,i⟩,g⟩,_⟩:=f;have mem:∀r∈t.rules++t.nevers,∀y∈kqx r,y∈t.rules.flatMap kqx++t.nevers.flatMap kqx:=λr d y c=>by
  rw[<-Qn];exact su.mpr ⟨r,d,c⟩
 exact⟨h.sublist (qkt t),λx e y c=>g x e y (wG _ c),λx e r d y c=>g x e y (rZ _ (mem r d y c)),λx e r d y c=>i x e y (mem r d y c)⟩
theorem qzw (l:List α):y∈jy (λ_=>g) l 0↔∃x∈l,y∈g x:=by
 rw[zi];constructor
 ·rintro⟨i,hi,h⟩;exact⟨_,wX hi,h⟩
 ·rintro⟨x,a,h⟩;obtain⟨i,hi,rfl⟩:=tC a;exact⟨i,hi,h⟩
theorem jju {g:List Tok}  : y∈jy (dG g) g 0↔∃i,∃hi:i<g.length,y=g[i]/\∃j,∃a:j<i,(g[j]'aj).text.toList=(g[i]).text.toList:=by
 rw[zi];constructor
 ·rintro⟨i,hi,h⟩;unfold dG at h;rw[QU,zi]at h;obtain⟨j,a,h⟩:=h;rw[zo,rQ,JG]at h;have b:j<i:=by simp at a;omega
  exact⟨i,hi,h.2,j,b,h.1⟩
 ·rintro⟨i,hi,rfl,j,a,e⟩;refine⟨i,hi,?_⟩;unfold dG;rw[QU,zi];refine⟨j,ay,?_⟩;rw[zo,rQ,JG];exact⟨e,rfl⟩
theorem jqw (g:TreeOrd t){i:Nat}(hi:i<(jc t).length):kx8 (qp (zh t)) (jc t)[i]=true↔∃j,∃d:j<i,((jc t)[j]'aj).text.toList=((jc t)[i]).text.toList:=by
 have c:i<(kjg (zh t)).length:=by rw[qq0];exact hi
 unfold kx8;rw[kjf];rcases kjo (kjg (zh t)) (jc t)[i].text.toList with⟨_,h⟩|⟨j,d,h1,a,e⟩
 ·exact(h _ (wX c) (by rw[kva])).elim
 ·rw[e];simp only;rw[kva t d]at h1 |-;have l:j<=i:=by
   apply tK;intro b;have:=a i aj;rw[kva]at this;exact this rfl
  constructor
  ·intro h;refine⟨j,?_,h1⟩;apply tK;intro b;have:j=i:=aj;subst this;simp at h
  ·rintro⟨k,m,f⟩;have:j<i:=by
    apply tK;intro b;have:=a k aj;rw[kva]at this;exact this f
   have:=Jj.mp g.glob j i aj hi this;simp only[Qm,Qw];omega
theorem qkq {x:Tok×Ent}(d:x∈kjg (zh t))(a:(zl (qp (zh t)) x.1.text.toList).role≠x.2.role):x.1∈jy (dG (jc t)) (jc t) 0:=by
 obtain⟨i,hi,rfl⟩:=tC d;rw[kjf]at a;rcases kjo (kjg (zh t)) (kjg (zh t))[i].1.text.toList with⟨_,h⟩|⟨j,c,h1,b,e⟩
 ·exact(h _ (wX hi) rfl).elim
 ·rw[e]at a;have f:j<=i:=by
   apply tK;intro k;exact b i aj rfl
  have g:j≠i:=by rintro rfl;exact a rfl
  rw[jju];refine⟨i,nK,kva t hi,j,aj,?_⟩;rw[<-kva t c,<-kva t hi];exact h1
theorem zj9 (a:k∈t.kinds):(k.name,(⟨2,0,bE,kkl⟩:Ent))∈kjg (zh t):=by
 unfold kjg;exact rZ _ (wG _ (su.mpr ⟨k,a,rV ..⟩))
theorem jk2 (a:k∈t.kinds){x:Tok}(b:x∈k.members):(x,(⟨3,0,k.name.text,kkl⟩:Ent))∈kjg (zh t):=by
 unfold kjg;exact rZ _ (wG _ (su.mpr ⟨k,a,rG _ (sV (f:=λx=>(x,(⟨3,0,k.name.text,kkl⟩:Ent))) b)⟩))
theorem jzp (a:v∈t.vars):(v.name,(⟨4,0,bE,yu v⟩:Ent))∈kjg (zh t):=by
 unfold kjg;exact rZ _ (rZ _ (wG _ (su.mpr ⟨yu v,sV a,sK.mpr rfl⟩)))
theorem qki (h:qwk v):((yu v).si.form==2)=(v.type_.kind.toList==og)/\((v.type_.kind.toList==og)=true->(yu v).si.name=v.type_):=by
 obtain⟨_,h1|h1|h1⟩:=h
 ·obtain⟨a,b,c⟩:=h1;unfold yu;simp only;rw[a,b];exact⟨rfl,λh=>gY⟩
 ·obtain⟨a,b,c,d⟩:=h1;unfold yu;simp only;rw[a,b];exact⟨rfl,λh=>gY⟩
 ·obtain⟨a,c⟩:=h1;unfold yu;simp only;rw[a];exact⟨rfl,λ_=>rfl⟩
theorem jql (h:qwk v):(yu v).arr=(v.over.kind.toList==og):=by
 obtain⟨h1|h1,_⟩:=h
 ·unfold yu;simp only;rw[h1,kqw];rfl
 ·unfold yu;simp only;rw[h1];rw[rQ]at h1;rw[h1];rfl
theorem qji (t:PTree)(n:Tok):qyg (qp (zh t)) n=decide (qh (dh t) n.text.toList<0):=by
 unfold qyg;by_cases h:qh (dh t) n.text.toList<0
 ·rw[tV h];have:¬(zl (qp (zh t)) n.text.toList).role=1:=λe=>(qz4 t _).mp e h
  simp[this]
 ·rw[decide_eq_false h,(qz4 t _).mpr h];rfl
theorem zxw (K:∀v∈t.vars,qwk v)(G:∀r∈t.rules,kka r)(hn:∀r∈t.nevers,kka r/\r.body=.nil)(S:TreeOrd t):kyu (qp (zh t)) (zh t)=jd (kwi t) (qjs t):=by
 rw[zvv,zwo,zzu,jvg];have Z:((((zh t).sets.flatMap (fS (qp (zh t)))++(zh t).kinds.flatMap (fK (qp (zh t))))++(zh t).vars.flatMap (fV (qp (zh t))))++(zh t).rules.flatMap (fR (qp (zh t))))++(zh t).nevers.flatMap (fN (qp (zh t))) =
   ((t.sets.flatMap (fS (qp (zh t)))++t.kinds.flatMap (fK (qp (zh t))))++(t.vars.map yu).flatMap (fV (qp (zh t))))++(t.rules++t.nevers).flatMap (fR (qp (zh t))):=by
  rw[Qn,<-sD];congr 1
  show t.nevers.flatMap _=t.nevers.flatMap _;have:∀l:List PRule,(∀r∈l,r.body=.nil)->l.flatMap (fN (qp (zh t)))=l.flatMap (fR (qp (zh t))):=by
   intro l;induction l with
   |nil=>intro _;rfl
   |cons r l ih=>
    intro h;rw[Qb,Qb,ih λr G=>h r (rG _ G)];congr 1
    unfold fR;rw[h r (rV ..)];simp[pz]
  exact this _ λr G=>(hn r G).2
 rw[Z];have N:∀r∈t.rules++t.nevers,kka r:=λr h=>by
  rcases ru.mp h with h|h
  ·exact G r h
  ·exact(hn r h).1
 have M:∀n∈jc t,kx8 (qp (zh t)) n=true->n∈jy (dG (jc t)) (jc t) 0:=λn hn c=>by
  obtain⟨i,hi,rfl⟩:=tC hn;obtain⟨j,E,e⟩:=(jqw S hi).mp c;rw[jju];exact⟨i,hi,rfl,j,E,e⟩
 have a5:∀s∈t.sets,s.name∈jc t:=λs T=>by
  unfold jc kyc qxr qxn;exact wG _ (wG _ (wG _ (su.mpr ⟨s,T,sK.mpr rfl⟩)))
 have X:∀k∈t.kinds,∀x∈kzp k,x∈jc t:=λk d x b=>by
  unfold jc kyc qxr;exact wG _ (wG _ (rZ _ (su.mpr ⟨k,d,b⟩)))
 have a6:∀v∈t.vars,v.name∈jc t:=λv K=>by
  unfold jc kyc;exact wG _ (rZ _ (su.mpr ⟨v,K,sK.mpr rfl⟩))
 have a4:∀r∈t.rules++t.nevers,r.name∈jc t:=λr G=>by
  unfold jc;exact rZ _ (su.mpr ⟨r,G,sK.mpr rfl⟩)
 have kN:∀k∈t.kinds,∀x∈kzp k,x∈t.kinds.flatMap kzp:=λk d x b=>su.mpr ⟨k,d,b⟩
 apply jxl
 ·intro x b;simp only[ru,su]at b;rcases b with((⟨s,T,b⟩|⟨k,d,b⟩)|⟨v',a1,b⟩)|⟨r,A,b⟩
  ·unfold fS at b;rw[zo]at b;obtain⟨c,rfl⟩:=b;exact⟨_,wG _ (wG _ (M _ (a5 s T) c)),wJ _⟩
  ·unfold fK at b;rw[ru,zo,su]at b;rcases b with⟨c,rfl⟩|⟨m,u,b⟩
   ·exact⟨_,wG _ (wG _ (M _ (X k d _ (rV ..)) c)),wJ _⟩
   ·unfold fM at b;rw[zo]at b;obtain⟨c,rfl⟩:=b;exact⟨_,wG _ (wG _ (M _ (X k d _ (rG _ u)) c)),wJ _⟩
  ·obtain⟨v,C,rfl⟩:=Qj.mp a1;have w:=K v C;unfold fV at b;rw[ru,ru,zo,zo,zo,wW,wW,jql w,qji,(qki w).1]at b;rcases b with⟨c,rfl⟩|⟨⟨h1,B⟩,rfl⟩|⟨⟨h1,B⟩,rfl⟩
   ·exact⟨_,wG _ (wG _ (M _ (a6 v C) c)),wJ _⟩
   ·refine⟨v.over,rZ _ (wG _ ?_),wJ _⟩;rw[zi];obtain⟨i,hi,rfl⟩:=tC C;refine⟨i,hi,?_⟩;unfold uV;rw[ru,zo,wW];exact Or.inl ⟨⟨h1,B⟩,rfl⟩
   ·rw[(qki w).2 h1]at B |-;unfold jvo at B;rw[wW,qji]at B;by_cases H:qh (pq t) v.type_.text.toList<0
    ·refine⟨v.type_,rZ _ (wG _ ?_),wJ _⟩;rw[zi];obtain⟨i,hi,rfl⟩:=tC C;refine⟨i,hi,?_⟩;unfold uV;refine rZ _ (zo.mpr ⟨?_,rfl⟩);rw[wW,wW];exact⟨⟨h1,B.2⟩,tV H⟩
    ·obtain⟨hi,O⟩:=kvd (show 0<=qh (pq t) v.type_.text.toList by omega);have Q:(qh (pq t) v.type_.text.toList).toNat<t.kinds.length:=by simpa[pq] using hi
     have P:(t.kinds[(qh (pq t) v.type_.text.toList).toNat]).name.text.toList=v.type_.text.toList:=by
      have:(pq t)[(qh (pq t) v.type_.text.toList).toNat]=(t.kinds[(qh (pq t) v.type_.text.toList).toNat]).name.text:=by simp[pq]
      rw[<-this];exact O
     have d:=wX Q;refine⟨_,wG _ (wG _ (qkq (zj9 d) ?_)),?_⟩
     ·simp only;rw[P];intro e;rw[e]at B;simp at B
     ·refine Qs (S.kv _ (kN _ d _ (rV ..)) _ (su.mpr ⟨v,C,?_⟩));unfold kxy kwk;rw[h1];simp
  ·replace A:r∈t.rules++t.nevers:=ru.mpr A
   have w:=N r A;unfold fR fN at b;rw[kzv w.1,kxk w.2.1]at b;simp only[ru,zo,zi,su]at b;have Y:∀n:Tok,(n∈uo r.guard\/n∈uf r.body)->x∈fU (qp (zh t)) r.params n->∃y∈(jy (dG (jc t)) (jc t) 0++jy (dR (jc t)) (t.rules++t.nevers) 0)++(jy (uV t) t.vars 0++jy (uR t) (t.rules++t.nevers) 0),y.at_<=x.at_:=by
    intro n D b;have R:n∈kqx r:=by
     unfold kqx;refine rG _ (rZ _ ?_);rcases D with h|h
     ·exact wG _ h
     ·exact rZ _ h
    unfold fU at b;rw[zo]at b;obtain⟨c,rfl⟩:=b;unfold vj9 at c;simp only[wW,Qm,Qw]at c;by_cases I:qjd t r.params x.text.toList=true
    ·unfold qjd at I;simp only[Qu,sQ]at I;rcases I with(h1|h1)|h1
     ·obtain⟨hi,y,a,O⟩:=qyo h1;have d:=wX hi;refine⟨y,wG _ (wG _ (qkq (jk2 d a) ?_)),Qs (S.kr _ (kN _ d _ (rG _ a)) r A _ R)⟩;simp only;rw[O];exact c.1.2
     ·obtain⟨hi,O⟩:=kvd h1;have Q:(qh (zx t) x.text.toList).toNat<t.vars.length:=by simpa[zx] using hi
      have P:(t.vars[(qh (zx t) x.text.toList).toNat]).name.text.toList=x.text.toList:=by
       have:(zx t)[(qh (zx t) x.text.toList).toNat]=(t.vars[(qh (zx t) x.text.toList).toNat]).name.text:=by simp[zx]
       rw[<-this];exact O
      have d:=wX Q;refine⟨_,wG _ (wG _ (qkq (jzp d) ?_)),Qs (S.vr _ (su.mpr ⟨_,d,rV ..⟩) r A _ R)⟩;simp only;rw[P];exact c.2
     ·have:=(qyr r.params x.text.toList).mpr c.1.1;omega
    ·refine⟨x,rZ _ (rZ _ ?_),wJ _⟩;rw[zi];obtain⟨i,hi,rfl⟩:=tC A;refine⟨i,hi,?_⟩;unfold uR;rw[ru];right
     rw[zi];obtain⟨j,E,rfl⟩:=tC (show x∈uo (t.rules++t.nevers)[i].guard++uf (t.rules++t.nevers)[i].body from ru.mpr D);refine⟨j,E,?_⟩;unfold uN;rw[zo];exact⟨by simpa using I,rfl⟩
   rcases b with((⟨c,rfl⟩|⟨k,d,b⟩)|⟨n,D,b⟩)|⟨n,D,b⟩
   ·exact⟨_,wG _ (wG _ (M _ (a4 r A) c)),wJ _⟩
   ·unfold fE at b;rw[ru,zo,zo,qji,QU]at b;rcases b with⟨c,rfl⟩|⟨c,rfl⟩
    ·refine⟨_,wG _ (rZ _ ?_),wJ _⟩;rw[zi];obtain⟨i,hi,rfl⟩:=tC A;refine⟨i,hi,?_⟩;unfold dR;rw[zi];refine⟨k,d,?_⟩;unfold dP;rw[ru,QU];unfold jy5 at c;rw[Qu]at c;rcases c with c|c
     ·right
      obtain⟨p,hp,e⟩:=(zq5 _ _).mp c;rw[qzw (g:=λq:PP=>kqk (q.name.text.toList==_) _)];exact⟨p,hp,by rw[zo,rQ];exact⟨e,rfl⟩⟩
     ·left
      rw[qzw (g:=λy:Tok=>kqk (y.text.toList==_) _)];have:¬(zl (qp (zh t)) (t.rules++t.nevers)[i].params[k].name.text.toList).role=0:=lJ;rw[zqo]at this;apply tK;intro W;apply this;intro y a e;exact W ⟨y,a,by rw[zo,rQ];exact⟨e,rfl⟩⟩
    ·refine⟨_,rZ _ (rZ _ ?_),wJ _⟩;rw[zi];obtain⟨i,hi,rfl⟩:=tC A;refine⟨i,hi,?_⟩;unfold uR;rw[ru];left
     rw[zi];exact⟨k,d,by unfold uP;rw[zo];exact⟨c,rfl⟩⟩
   ·exact Y n (Or.inl D) b
   ·exact Y n (Or.inr D) b
 ·intro y a;refine⟨y,?_,wJ _⟩;simp only[ru]at a;rcases a with(a|a)|(a|a)
  ·rw[jju]at a;obtain⟨i,hi,rfl,E⟩:=a;have c:=(jqw S hi).mpr E;have u:=wX hi;generalize (jc t)[i]=n at c u;unfold jc kyc qxr qxn at u;simp only[ru,su]at u |-;rcases u with((⟨s,T,u⟩|⟨k,d,u⟩)|⟨v,C,u⟩)|⟨r,a0,u⟩
   ·unfold qwp at u;rw[sK]at u;subst u;exact Or.inl (Or.inl (Or.inl ⟨s,T,by unfold fS;rw[zo];exact⟨c,rfl⟩⟩))
   ·unfold kzp at u;refine Or.inl (Or.inl (Or.inr ⟨k,d,?_⟩));unfold fK;rw[ru,zo,su];rcases sW.mp u with rfl|u
    ·exact Or.inl ⟨c,rfl⟩
    ·exact Or.inr ⟨n,u,by unfold fM;rw[zo];exact⟨c,rfl⟩⟩
   ·unfold zzt at u;rw[sK]at u;subst u;exact Or.inl (Or.inr ⟨yu v,sV C,by unfold fV;rw[ru,zo];exact Or.inl ⟨c,rfl⟩⟩)
   ·unfold kwz at u;rw[sK]at u;subst u;refine Or.inr ⟨r,a0,?_⟩;unfold fR fN;exact wG _ (wG _ (wG _ (zo.mpr ⟨c,rfl⟩)))
  ·rw[zi]at a;obtain⟨i,hi,a⟩:=a;unfold dR at a;rw[zi]at a;obtain⟨k,d,a⟩:=a;refine rZ _ (su.mpr ⟨_,wX hi,?_⟩);unfold fR fN;simp only[ru];refine Or.inl (Or.inl (Or.inr ?_));rw[zi];refine⟨k,d,?_⟩;unfold dP at a;unfold fE;rw[ru,zo];rw[ru,QU,qzw (g:=λy:Tok=>kqk (y.text.toList==_) _),qzw (g:=λq:PP=>kqk (q.name.text.toList==_) _)]at a;rw[QU];rcases a with⟨z,hz,a⟩|⟨q,hq,a⟩
   ·rw[zo,rQ]at a;refine Or.inl ⟨?_,a.2⟩;unfold jy5;have:¬(zl (qp (zh t)) (t.rules++t.nevers)[i].params[k].name.text.toList).role=0:=by
     rw[zqo];intro W;exact W z hz a.1
    simp[this]
   ·rw[zo,rQ]at a;refine Or.inl ⟨?_,a.2⟩;unfold jy5;rw[(zq5 _ _).mpr ⟨q,hq,a.1⟩];rfl
  ·rw[zi]at a;obtain⟨i,hi,a⟩:=a;have w:=K _ (wX hi);refine wG _ (rZ _ (su.mpr ⟨_,sV (wX hi),?_⟩));unfold uV at a;unfold fV;rw[ru,zo,zo]at a;rw[ru,ru,zo,zo,zo,jql w,qji,(qki w).1];rcases a with⟨h1,B⟩|⟨h1,B⟩
   ·exact Or.inr (Or.inl ⟨h1,B⟩)
   ·rw[wW,wW]at h1;refine Or.inr (Or.inr ⟨?_,by rw[(qki w).2 h1.1.1];exact B⟩);rw[(qki w).2 h1.1.1,h1.1.1,QC];unfold jvo;rw[qji,h1.1.2,Jg];have H:=h1.2;rw[sQ,kkm]at H;have:¬(zl (qp (zh t)) t.vars[i].type_.text.toList).role=2:=by
     intro e;rw[kjf]at e;rcases kjo (kjg (zh t)) t.vars[i].type_.text.toList with⟨F,_⟩|⟨j,E,V,g2,F⟩
     ·rw[F]at e;cases e
     ·rw[F]at e;simp only at e;rcases kvz _ _ (wX E) with g|g|g|g|g|g
      ·have:=g.1;omega
      ·obtain⟨_,k,d,L⟩:=g;exact H k.name.text (sV (f:=λs:PKind=>s.name.text) d) (by rw[<-L];exact V)
      all_goals (have:=g.1;omega)
    simp[this]
  ·rw[zi]at a;obtain⟨i,hi,a⟩:=a;have w:=N _ (wX hi);refine rZ _ (su.mpr ⟨_,wX hi,?_⟩);unfold uR at a;unfold fR fN;rw[kzv w.1,kxk w.2.1];simp only[ru,su];rw[ru,zi,zi]at a;rcases a with⟨k,d,a⟩|⟨k,d,a⟩
   ·unfold uP at a;rw[zo]at a;refine Or.inl (Or.inl (Or.inr ?_));rw[zi];refine⟨k,d,?_⟩;unfold fE;rw[ru,zo,zo,qji];exact Or.inr a
   ·unfold uN at a;rw[zo]at a;have u:=wX d;obtain⟨J,rfl⟩:=a;generalize (uo (t.rules++t.nevers)[i].guard++uf (t.rules++t.nevers)[i].body)[k]=n at J u;have U:n∈fU (qp (zh t)) (t.rules++t.nevers)[i].params n:=by
     unfold fU;rw[zo];refine⟨?_,rfl⟩;unfold qjd at J;simp only[Qm,QY,decide_eq_false_iff_not]at J;obtain⟨⟨h1,B⟩,W⟩:=J;unfold vj9;rw[(qyr _ _).mp (show _<_ by omega)];have:¬(zl (qp (zh t)) n.text.toList).role=3/\¬(zl (qp (zh t)) n.text.toList).role=4:=by
      rw[kjf];rcases kjo (kjg (zh t)) n.text.toList with⟨F,_⟩|⟨j,E,V,g2,F⟩
      ·rw[F];exact⟨ak,ak⟩
      ·rw[F];simp only;rcases kvz _ _ (wX E) with g|g|g|g|g|g
       ·have:=g.1;omega
       ·have:=g.1;omega
       ·obtain⟨_,k,d,L,_⟩:=g;exact(((zka t.kinds n.text.toList).mp aj) k d _ L V).elim
       ·obtain⟨_,v,K,L,_⟩:=g;have a3:v∈t.vars.map yu:=K;obtain⟨v0,a2,rfl⟩:=Qj.mp a3;refine(((kkm (zx t) n.text.toList).mp aj) v0.name.text (sV (f:=λs:PVar=>s.name.text) a2) ?_).elim;rw[<-V,L];rfl
       ·have:=g.1;omega
       ·have:=g.1;omega
     simp[this.1,this.2]
    rcases ru.mp u with u|u
    ·exact Or.inl (Or.inr ⟨n,u,U⟩)
    ·exact Or.inr ⟨n,u,U⟩
end Go.Proofs.YtpmcnonmkghokaaGreatDoor
namespace Go.Proofs.YtpmcnonmkghokaaGreatDoor
open Go.Proofs.Tryz
open Go.RowKit
attribute [local go_sem ↓] Go.wp_at_zero Go.wp_at_succ
variable {k:PKind}{t:PTree}{v:PVar}{y:Tok}{α:Type}{g:α->List Tok}
structure VT where
 fam:Int
 name:ByteArray
def vtV (x:VT):Value:=.agg #[.int .i64 x.fam,.string x.name]
def qvo:VT:=⟨0,⟨#[]⟩⟩
def kqm (f:Int)(c:Bool):VT:=if c then ⟨f,⟨#[]⟩⟩ else qvo
theorem zj5 (w:World)(f:Int)(c:Bool):
  qJ 245 #[.int .i64 f,.bool c] w λe w'=>e=.returned (vtV (kqm f c))/\pU w w':=by
 cases c;all_goals
  go_enter func245,ntmps245
  go_wp2
  refine rY (rP results245 _ _ w.heap.size _ _ _ _ rfl (qg _ _) underlying362 rfl ah) rfl ?_;exact⟨rfl,below_alloc1 _ _⟩
def kkn (x y:VT):Bool:=((x.fam==y.fam&&x.name.toList==y.name.toList)&&!(x.fam==0))&&!(x.fam==5)
theorem kzw (w:World)(o p:Obj):pU w ((w.alloc o).alloc p):=(below_alloc1 w _).trans ((below_alloc1 _ _).mono au)
theorem jx7 (w:World)(x y:VT):
  qJ 247 #[vtV x,vtV y] w λe w'=>e=.returned (.bool (kkn x y))/\pU w w':=by
 unfold vtV;go_enter func247,ntmps247
 go_wp2
 all_goals
  go_ret
  exact⟨jf (by simp[kkn,bne, *]),kzw _ _ _⟩
def qwo (x y:VT):Bool:=(kkn x y||(x.fam==4&&y.fam==5))||(x.fam==5&&y.fam==4)
theorem vya (w:World)(x y:VT):
  qJ 264 #[vtV x,vtV y] w λe w'=>e=.returned (.bool (qwo x y))/\pU w w':=by
 have E:=pG (show qwo x y=((kkn x y||(x.fam==4&&y.fam==5))||(x.fam==5&&y.fam==4)) from rfl);have b:=pG (jx7 ((w.alloc (.cells #[.int .i64 x.fam,.string x.name] 362)).alloc (.cells #[.int .i64 y.fam,.string y.name] 362)) x y);unfold vtV at *;generalize qwo x y=fin at *;go_enter func264,ntmps264
 go_wp2_with fail
 refine(ku b).mono ?_;rintro e k ⟨rfl,a⟩;have c:=a.block w.heap.size ay;have d:=a.block (w.heap.size+1) au;obtain⟨g,_⟩:=kj0 (c.trans (zy (qg _ _)));obtain⟨b0,_⟩:=kj0 (d.trans (by have:=qg (w.alloc (.cells #[.int .i64 x.fam,.string x.name] 362)) (.cells #[.int .i64 y.fam,.string y.name] 362);simp only[tJ]at this;exact this));have f:=pG ((kzw w (.cells #[.int .i64 x.fam,.string x.name] 362) (.cells #[.int .i64 y.fam,.string y.name] 362)).trans (a.mono ay));generalize kkn x y=s at *;clear a c d b;cases s<;>cases h:(x.fam==4)<;>cases i:(x.fam==5)<;>cases j:(y.fam==5);all_goals
  go_wp2
  go_ret
  exact⟨jf (by rw[ku E];simp[*]),ku f⟩
def qwa (o:Int)(x y:VT):VT:=
 if (o==6||o==7) then kqm 1 (x.fam==1&&y.fam==1) else if (o==11||o==12) then kqm 2 (x.fam==2&&y.fam==2) else if o==10 then kqm 1 (x.fam==2&&y.fam==2) else kqm 1 (qwo x y)
theorem jyx (w:World)(o:Int)(x y:VT):
  qJ 246 #[.int .i64 o,vtV x,vtV y] w λe w'=>e=.returned (vtV (qwa o x y))/\pU w w':=by
 have E:=pG (show qwa o x y=if (o==6||o==7) then kqm 1 (x.fam==1&&y.fam==1) else if (o==11||o==12) then kqm 2 (x.fam==2&&y.fam==2) else if o==10 then kqm 1 (x.fam==2&&y.fam==2) else kqm 1 (qwo x y) from rfl);have i:=pG (show(((w.alloc (.cells #[.int .i64 x.fam,.string x.name] 362)).alloc (.cells #[.int .i64 y.fam,.string y.name] 362)).alloc (.cells #[.int .i64 0,.string ⟨#[]⟩] 362)).heap[w.heap.size+2]?=some (.cells #[.int .i64 0,.string ⟨#[]⟩] 362 (0,0)) by
  have:=qg ((w.alloc (.cells #[.int .i64 x.fam,.string x.name] 362)).alloc (.cells #[.int .i64 y.fam,.string y.name] 362)) (.cells #[.int .i64 0,.string ⟨#[]⟩] 362);simp only[tJ]at this;exact this)
 have h:=pG (show pU w (((w.alloc (.cells #[.int .i64 x.fam,.string x.name] 362)).alloc (.cells #[.int .i64 y.fam,.string y.name] 362)).alloc (.cells #[.int .i64 0,.string ⟨#[]⟩] 362)) from(kzw w _ _).trans ((below_alloc1 _ _).mono ay));have l:=pG (λf c=>zj5 (((w.alloc (.cells #[.int .i64 x.fam,.string x.name] 362)).alloc (.cells #[.int .i64 y.fam,.string y.name] 362)).alloc (.cells #[.int .i64 0,.string ⟨#[]⟩] 362)) f c);have k:=pG (vya (((w.alloc (.cells #[.int .i64 x.fam,.string x.name] 362)).alloc (.cells #[.int .i64 y.fam,.string y.name] 362)).alloc (.cells #[.int .i64 0,.string ⟨#[]⟩] 362)) x y);have A:(((w.alloc (.cells #[.int .i64 x.fam,.string x.name] 362)).alloc (.cells #[.int .i64 y.fam,.string y.name] 362)).alloc (.cells #[.int .i64 0,.string ⟨#[]⟩] 362)).heap.size=w.heap.size+3:=au;generalize qwa o x y=fin at *;unfold vtV at *;go_enter func246,ntmps246
 cases B:(o==6);case' false=>
  cases C:(o==7);case' false=>
   cases v:(o==11);case' false=>
    cases z:(o==12);case' false=>
     cases u:(o==10);case' false=>
      go_wp2_with fail
      refine(ku k).mono ?_;rintro e t ⟨rfl,b⟩;have m:=pG ((b.block (w.heap.size+2) au).trans (ku i));have j:=pG ((ku h).trans (b.mono ay));have p:=b.size;simp at p;clear l k i h b;go_wp2_with fail
      refine(zj5 t 1 (qwo x y)).mono ?_;rintro e s ⟨rfl,a⟩;have d:=(a.block (w.heap.size+2) aj).trans (ku m);have g:=(ku j).trans (a.mono aj)
 all_goals try
  cases D:(x.fam==1)<;>cases F:(x.fam==2);all_goals go_wp2_with fail
  all_goals
   refine((ku l) _ _).mono ?_;rintro e s ⟨rfl,a⟩;have d:=(a.block (w.heap.size+2) au).trans (ku i);have g:=(ku h).trans (a.mono ay)
 all_goals
  have q:=kj0 d;try unfold vtV
  go_wp2
  refine rY (rP results246 _ _ (w.heap.size+2) _ _ _ _ rfl (set2 d _ _) underlying362 rfl ah) rfl ?_;exact⟨by rw[ku E];first|rfl|(simp[*];done)|(simp[*];rfl),(g.setCell (show w.heap.size<=w.heap.size+2 by omega) _).setCell (show w.heap.size<=w.heap.size+2 by omega) _⟩
def tyV (b:Nat)(ps:Value):Value:=.agg #[.map (some b),ps]
def kjv (tab:Tab)(x:SiT):VT:=if x.form==0 then ⟨1,⟨#[]⟩⟩ else if x.form==1 then ⟨2,⟨#[]⟩⟩ else if (zl tab x.name.text.toList).role==1 then ⟨4,x.name.text⟩ else ⟨3,x.name.text⟩
theorem zjo (w:World)(b:Nat)(tab:Tab)(ps:Value)(x:SiT)(p:kqi w b tab)(s:x.name.text.size<=1000)(u:ps.oneCell'=true):
  qJ 263 #[tyV b ps,siV x] w λe w'=>e=.returned (vtV (kjv tab x))/\pU w w':=by
 have E:=pG (show kjv tab x=if x.form==0 then ⟨1,⟨#[]⟩⟩ else if x.form==1 then ⟨2,⟨#[]⟩⟩ else if (zl tab x.name.text.toList).role==1 then ⟨4,x.name.text⟩ else ⟨3,x.name.text⟩ from rfl);obtain⟨W,a⟩:∃W,W=((w.alloc (.cells #[.map (some b),ps] 301)).alloc (.cells #[.int .i64 x.form,.int .i64 (kq8 x.top.text),.int .i64 x.top.at_,.string x.name.text,.int .i64 x.name.at_] 119)).alloc (.cells #[.int .i64 0,.string ⟨#[]⟩] 362):=⟨_,rfl⟩;have c:pU w W:=by rw[a];exact(kzw w _ _).trans ((below_alloc1 _ _).mono ay)
 have m:W.heap.size=w.heap.size+3:=by rw[a];simp
 have k:W.heap[w.heap.size]?=some (.cells #[.map (some b),ps] 301 (0,0)):=by rw[a];exact zy (zy (qg _ _))
 have l:W.heap[w.heap.size+1]?=some (.cells #[.int .i64 x.form,.int .i64 (kq8 x.top.text),.int .i64 x.top.at_,.string x.name.text,.int .i64 x.name.at_] 119 (0,0)):=by
  rw[a];have:=qg (w.alloc (.cells #[.map (some b),ps] 301)) (.cells #[.int .i64 x.form,.int .i64 (kq8 x.top.text),.int .i64 x.top.at_,.string x.name.text,.int .i64 x.name.at_] 119);simp only[tJ]at this;exact zy this
 have h:W.heap[w.heap.size+2]?=some (.cells #[.int .i64 0,.string ⟨#[]⟩] 362 (0,0)):=by
  rw[a];have:=qg ((w.alloc (.cells #[.map (some b),ps] 301)).alloc (.cells #[.int .i64 x.form,.int .i64 (kq8 x.top.text),.int .i64 x.top.at_,.string x.name.text,.int .i64 x.name.at_] 119)) (.cells #[.int .i64 0,.string ⟨#[]⟩] 362);simp only[tJ]at this;exact this
 have hM:kqi W b tab:=p.kept c;have t:=kv1 hM s;have v:=kvk (zl tab x.name.text.toList);obtain⟨t0,C,_⟩:=kj0 k;obtain⟨x0,x1,x2,x3,x4,_⟩:=jl l;obtain⟨y,z,A,B⟩:=kj0 h;have f:=pG h;have d:=pG c;have i:=pG a.symm;generalize kjv tab x=fin at *;generalize zl tab x.name.text.toList=q at *;clear h c a hM p k l m;unfold tyV siV vtV;go_enter func263,ntmps263
 go_upto_region 1 with fail
 rw[ku i,show w.heap.size+1+1=w.heap.size+2 from rfl];cases g:(x.form==0)
 ·cases h1:(x.form==1)
  ·cases j:(q.role==1)
   ·rw[g,h1,j]at E;go_wp2
    refine rY (rP results263 _ _ (w.heap.size+2) _ _ _ _ rfl (set2 (ku f) _ _) underlying362 rfl ah) rfl ?_;exact⟨iJ,((ku d).setCell (show w.heap.size<=w.heap.size+2 by omega) _).setCell (show w.heap.size<=w.heap.size+2 by omega) _⟩
   ·rw[g,h1,j]at E;go_wp2
    refine rY (rP results263 _ _ (w.heap.size+2) _ _ _ _ rfl (set2 (ku f) _ _) underlying362 rfl ah) rfl ?_;exact⟨iJ,((ku d).setCell (show w.heap.size<=w.heap.size+2 by omega) _).setCell (show w.heap.size<=w.heap.size+2 by omega) _⟩
  ·rw[g,h1]at E;go_wp2
   refine rY (rP results263 _ _ (w.heap.size+2) _ _ _ _ rfl (set2 (ku f) _ _) underlying362 rfl ah) rfl ?_;exact⟨iJ,((ku d).setCell (show w.heap.size<=w.heap.size+2 by omega) _).setCell (show w.heap.size<=w.heap.size+2 by omega) _⟩
 ·rw[g]at E;go_wp2
  refine rY (rP results263 _ _ (w.heap.size+2) _ _ _ _ rfl (set2 (ku f) _ _) underlying362 rfl ah) rfl ?_;exact⟨iJ,((ku d).setCell (show w.heap.size<=w.heap.size+2 by omega) _).setCell (show w.heap.size<=w.heap.size+2 by omega) _⟩
def qwv (tab:Tab):Prop:=∀s,(zl tab s).var.si.name.text.size<=1000
def kjc (tab:Tab)(l:List PP)(n:Tok):VT:=
 if fpB l n.text.toList then ⟨4,(fpP l n.text.toList).set_.text⟩
 else if (zl tab n.text.toList).role==3 then ⟨3,(zl tab n.text.toList).kind⟩
 else if (zl tab n.text.toList).role==4&&!(zl tab n.text.toList).var.arr then kjv tab (zl tab n.text.toList).var.si else qvo
theorem zk0 (w:World)(b lo:Nat)(tab:Tab)(l:List PP)(pa:Option Addr)(pn pc:Nat)(n:Tok)(U:kqi w b tab)(V:qwv tab)(B:w.ownsRow lo 352 4 (.slice pa pn pc) l.length (xu l))(X:l.length<=1000)(hs:n.text.size<=1000):
  qJ 261 #[tyV b (.slice pa pn pc),ptV n] w λe w'=>e=.returned (vtV (kjc tab l n))/\pU w w':=by
 obtain⟨ps,y⟩:∃ps,ps=Value.slice pa pn pc:=⟨_,rfl⟩;rw[<-y]at B |-;have E:=pG (show kjc tab l n=if fpB l n.text.toList then ⟨4,(fpP l n.text.toList).set_.text⟩
  else if (zl tab n.text.toList).role==3 then ⟨3,(zl tab n.text.toList).kind⟩
  else if (zl tab n.text.toList).role==4&&!(zl tab n.text.toList).var.arr then kjv tab (zl tab n.text.toList).var.si else qvo from rfl)
 obtain⟨W,f⟩:∃W,W=((w.alloc (.cells #[.map (some b),ps] 301)).alloc (.cells #[.string n.text,.int .i64 n.at_] 107)).alloc (.cells #[.int .i64 0,.string ⟨#[]⟩] 362):=⟨_,rfl⟩;have h:pU w W:=by rw[f];exact(kzw w _ _).trans ((below_alloc1 _ _).mono ay)
 have T:W.heap.size=w.heap.size+3:=by rw[f];simp
 have z:W.heap[w.heap.size]?=some (.cells #[.map (some b),ps] 301 (0,0)):=by rw[f];exact zy (zy (qg _ _))
 have A:W.heap[w.heap.size+1]?=some (.cells #[.string n.text,.int .i64 n.at_] 107 (0,0)):=by
  rw[f];have:=qg (w.alloc (.cells #[.map (some b),ps] 301)) (.cells #[.string n.text,.int .i64 n.at_] 107);simp only[tJ]at this;exact zy this
 have O:W.heap[w.heap.size+2]?=some (.cells #[.int .i64 0,.string ⟨#[]⟩] 362 (0,0)):=by
  rw[f];have:=qg ((w.alloc (.cells #[.map (some b),ps] 301)).alloc (.cells #[.string n.text,.int .i64 n.at_] 107)) (.cells #[.int .i64 0,.string ⟨#[]⟩] 362);simp only[tJ]at this;exact this
 have hM:kqi W b tab:=U.kept h;have v:=pG (kv2 W lo l ps n (qj B h) X);have Q:=V n.text.toList;obtain⟨t0,t1,_⟩:=kj0 z;obtain⟨x0,x1,_⟩:=kj0 A;have J:=pG z;have L:=pG A;have H:=pG O;have C:=pG h;have F:=pG hM;have K:=pG f.symm;generalize kjc tab l n=fin at *;clear O h f hM U z A B;subst y;unfold tyV ptV vtV at *;go_enter func261,ntmps261
 go_upto_region 1 with fail
 rw[ku K,show w.heap.size+1+1=w.heap.size+2 from rfl];go_wp2_with fail
 refine(ku v).mono ?_;rintro e u ⟨rfl,a⟩;have R:=a.size;generalize fpP l n.text.toList=p at *;generalize fpB l n.text.toList=r at *;have k:=(a.block (w.heap.size+2) aj).trans (ku H);have s:=(a.block w.heap.size aj).trans (ku J);have x:=(a.block (w.heap.size+1) aj).trans (ku L);have j:=(ku F).kept a;have t:=kv1 (j.kept (below_alloc1 u (.cells #[.string p.name.text,.int .i64 p.name.at_,.string p.set_.text,.int .i64 p.set_.at_] 352))) hs;obtain⟨t0,t1,_⟩:=kj0 s;obtain⟨x0,x1,_⟩:=kj0 x;obtain⟨r0,r1,r2,r3⟩:=kj0 k;have c:=pG ((ku C).trans (a.mono aj));have d:=pG k;have a1:=pG s;have G:=pG j;have Y:w.heap.size<u.heap.size:=aj;have Z:w.heap.size+1<u.heap.size:=aj;have a0:w.heap.size+2<u.heap.size:=aj;clear a k s x j v H J L F C R T;unfold paV;cases r
 case true=>
  go_wp2
  refine rY (rP results261 _ _ (w.heap.size+2) _ _ _ _ rfl (zy (set2 (ku d) _ _)) underlying362 rfl ah) rfl ?_;exact⟨iJ,((((ku c).setCell (show w.heap.size<=w.heap.size+2 by omega) _).setCell (show w.heap.size<=w.heap.size+2 by omega) _).alloc iQ _)⟩
 case false=>
  generalize zl tab n.text.toList=q at *;simp only[qxw,qzt,kjp,QD,Qc]at t;cases M:(q.role==3)
  ·rw[M]at E;cases N:(q.role==4)
   ·rw[N]at E;go_wp2
    refine rY (rP results261 _ _ (w.heap.size+2) _ _ _ _ rfl (zy (zy (set2 (ku d) _ _))) underlying362 rfl ah) rfl ?_;exact⟨iJ,(((((ku c).setCell (show w.heap.size<=w.heap.size+2 by omega) _).setCell (show w.heap.size<=w.heap.size+2 by omega) _).alloc iQ _).alloc iQ _)⟩
   ·rw[N]at E;cases P:q.var.arr
    ·rw[P]at E t;have i:=pG (zjo ((u.alloc (.cells #[.string p.name.text,.int .i64 p.name.at_,.string p.set_.text,.int .i64 p.set_.at_] 352)).alloc (.cells #[.int .i64 q.role,.int .i64 q.place,.string q.kind,.string q.var.name.text,.int .i64 q.var.name.at_,.bool false,.string q.var.over.text,.int .i64 q.var.over.at_,.int .i64 q.var.si.form,.int .i64 (kq8 q.var.si.top.text),.int .i64 q.var.si.top.at_,.string q.var.si.name.text,.int .i64 q.var.si.name.at_] 294)) b tab (.slice pa pn pc) q.var.si (((ku G).kept (below_alloc1 _ _)).kept (below_alloc1 _ _)) Q rfl);unfold tyV siV vtV at i;go_wp2_with fail
     refine(ku i).mono ?_;rintro e w3 ⟨rfl,g⟩;have S:=g.size;simp at S;have m:=(g.block (w.heap.size+2) ay).trans (zy (zy (ku d)));obtain⟨s0,s1,s2,s3⟩:=kj0 m;have I:=pG m;have D:=pG ((((ku c).alloc aj _).alloc ay _).trans (g.mono ay));clear g m i;go_wp2
     refine rY (rP results261 _ _ (w.heap.size+2) _ _ _ _ rfl (set2 (ku I) _ _) underlying362 rfl ah) rfl ?_;exact⟨iJ,((ku D).setCell (show w.heap.size<=w.heap.size+2 by omega) _).setCell (show w.heap.size<=w.heap.size+2 by omega) _⟩
    ·rw[P]at E t;go_wp2
     refine rY (rP results261 _ _ (w.heap.size+2) _ _ _ _ rfl (zy (zy (set2 (ku d) _ _))) underlying362 rfl ah) rfl ?_;exact⟨iJ,(((((ku c).setCell (show w.heap.size<=w.heap.size+2 by omega) _).setCell (show w.heap.size<=w.heap.size+2 by omega) _).alloc iQ _).alloc iQ _)⟩
  ·rw[M]at E;go_wp2
   refine rY (rP results261 _ _ (w.heap.size+2) _ _ _ _ rfl (zy (zy (set2 (ku d) _ _))) underlying362 rfl ah) rfl ?_;exact⟨iJ,(((((ku c).setCell (show w.heap.size<=w.heap.size+2 by omega) _).setCell (show w.heap.size<=w.heap.size+2 by omega) _).alloc iQ _).alloc iQ _)⟩
def qkh (tab:Tab)(l:List PP)(i s:Tok):Bool:=(kjc tab l i).fam==4&&(kjc tab l i).name.toList==s.text.toList
theorem jkh (w:World)(b lo:Nat)(tab:Tab)(l:List PP)(pa:Option Addr)(pn pc:Nat)(i s:Tok)(k:kqi w b tab)(f:qwv tab)(j:w.ownsRow lo 352 4 (.slice pa pn pc) l.length (xu l))(p:l.length<=1000)(t:i.text.size<=1000):
  qJ 262 #[tyV b (.slice pa pn pc),ptV i,ptV s] w λe w'=>e=.returned (.bool (qkh tab l i s))/\pU w w':=by
 have E:=pG (show qkh tab l i s=((kjc tab l i).fam==4&&(kjc tab l i).name.toList==s.text.toList) from rfl);have c:=pG ((kzw w (.cells #[.map (some b),.slice pa pn pc] 301) (.cells #[.string i.text,.int .i64 i.at_] 107)).trans ((below_alloc1 _ (.cells #[.string s.text,.int .i64 s.at_] 107)).mono ay)).drew;have d:=pG (zk0 (((w.alloc (.cells #[.map (some b),.slice pa pn pc] 301)).alloc (.cells #[.string i.text,.int .i64 i.at_] 107)).alloc (.cells #[.string s.text,.int .i64 s.at_] 107)).drew b lo tab l pa pn pc i (k.kept (ku c)) f (qj j (ku c)) p t);have g:=pG (show(((w.alloc (.cells #[.map (some b),.slice pa pn pc] 301)).alloc (.cells #[.string i.text,.int .i64 i.at_] 107)).alloc (.cells #[.string s.text,.int .i64 s.at_] 107)).drew.heap[w.heap.size+2]?=some (.cells #[.string s.text,.int .i64 s.at_] 107 (0,0)) by
  have:=qg ((w.alloc (.cells #[.map (some b),.slice pa pn pc] 301)).alloc (.cells #[.string i.text,.int .i64 i.at_] 107)) (.cells #[.string s.text,.int .i64 s.at_] 107);simp only[tJ]at this;exact this)
 unfold tyV ptV vtV at *;generalize qkh tab l i s=fin at *;generalize kjc tab l i=q at *;clear k j f;go_enter func262,ntmps262
 go_wp2
 by_cases h:q.fam=4
 ·by_cases hn:q.name.toList=s.text.toList
  ·go_region_law ((go_simp;go_at_call 261;refine(ku d).mono ?_;rintro e m ⟨rfl,a⟩;obtain⟨y0,y1,_⟩:=kj0 ((a.block (w.heap.size+2) au).trans (ku g));dsimp only))
   all_goals
    go_wp2
    go_ret
    exact⟨jf (by rw[ku E];simp[h,hn]),(ku c).trans (a.mono ay)⟩
  ·go_region_law ((go_simp;go_at_call 261;refine(ku d).mono ?_;rintro e m ⟨rfl,a⟩;obtain⟨y0,y1,_⟩:=kj0 ((a.block (w.heap.size+2) au).trans (ku g));dsimp only))
   all_goals
    go_wp2
    go_ret
    exact⟨jf (by rw[ku E];simp[h,hn]),(ku c).trans (a.mono ay)⟩
 ·go_region_law ((go_simp;go_at_call 261;refine(ku d).mono ?_;rintro e m ⟨rfl,a⟩;obtain⟨y0,y1,_⟩:=kj0 ((a.block (w.heap.size+2) au).trans (ku g));dsimp only))
  all_goals
   go_wp2
   go_ret
   exact⟨jf (by rw[ku E];simp[h]),(ku c).trans (a.mono ay)⟩
end Go.Proofs.YtpmcnonmkghokaaGreatDoor

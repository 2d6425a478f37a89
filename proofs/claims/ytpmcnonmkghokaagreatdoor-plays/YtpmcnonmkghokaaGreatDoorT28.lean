import Derived.Test.YtpmcnonmkghokaaGreatDoorT27
import Derived.Test.YtpmcnonmkghokaaGreatDoorT19
import Derived.Test.YtpmcnonmkghokaaGreatDoorT11
import Derived.Test.YtpmcnonmkghokaaGreatDoorT10
set_option linter.unusedVariables false
set_option linter.unusedSimpArgs false
namespace Go.Proofs.YtpmcnonmkghokaaGreatDoor
open Go.Proofs.Tryz
open Go.RowKit
variable {l:List Tok}{s:List UInt8}{i j:Nat}{α:Type}{g:Nat->α->List Tok}{t:PTree}{u:Tab}{y:Tok}
def kqz (z:Int)(l:List Tok):Int:=l.foldl (λz t=>jd z t.at_) z
theorem ug (z:Int)(a b:List Tok):kqz z (a++b)=kqz (kqz z a) b:=QJ ..
theorem vzs {z:Int}(n:Nat)(h:-1<=z):-1<=jd z n:=mY
theorem kqj:∀(l:List Tok) {z:Int},-1<=z->-1<=kqz z l
 |[],z,h=>h
 |t::l,z,h=>kqj l (vzs _ h)
theorem zkl:∀(l:List Tok) (z:Int),0<=z->kqz z l<=z/\(∀y∈l,kqz z l<=y.at_)/\(kqz z l=z\/∃y∈l,kqz z l=y.at_)
 |[],z,h=>⟨Int.le_refl _,λy f=>by simp at f,Or.inl rfl⟩
 |t::l,z,h=>by
  have g:0<=jd z t.at_:=mY;have i:jd z t.at_<=z/\jd z t.at_<=t.at_/\(jd z t.at_=z\/jd z t.at_=t.at_):=mY;obtain⟨a,b,c⟩:=zkl l _ g;have e:kqz z (t::l)=kqz (jd z t.at_) l:=rfl;rw[e];refine⟨aj,?_,?_⟩
  ·intro y f;rcases sW.mp f with rfl|f
   ·omega
   ·exact b y f
  ·rcases c with c|⟨y,f,c⟩
   ·rcases i.2.2 with d|d
    ·exact Or.inl aj
    ·exact Or.inr ⟨t,rV ..,aj⟩
   ·exact Or.inr ⟨y,rG _ f,c⟩
theorem qj5:∀(l:List Tok),l≠[]->(∃y∈l,kqz (-1) l=y.at_)/\∀y∈l,kqz (-1) l<=y.at_
 |[],h=>(h rfl).elim
 |t::l,_=>by
  have e:kqz (-1) (t::l)=kqz t.at_ l:=by
   show kqz (jd (-1) t.at_) l=_;rw[show jd (-1) (t.at_:Int)=t.at_ by unfold jd;rw[if_pos aj]]
  obtain⟨a,b,c⟩:=zkl l t.at_ aj;rw[e];constructor
  ·rcases c with c|⟨y,d,c⟩
   ·exact⟨t,rV ..,c⟩
   ·exact⟨y,rG _ d,c⟩
  ·intro y d;rcases sW.mp d with rfl|d
   ·exact a
   ·exact b y d
theorem zks (h:kqz (-1) l<0):l=[]:=by
 by_cases e:l=[]
 ·exact e
 ·obtain⟨⟨y,_,a⟩,_⟩:=qj5 l e;omega
theorem jxl {a b:List Tok}(h1:∀x∈a,∃y∈b,y.at_<=x.at_)(g:∀y∈b,∃x∈a,x.at_<=y.at_):kqz (-1) a=kqz (-1) b:=by
 by_cases f:a=[]
 ·subst f;by_cases c:b=[]
  ·subst c;rfl
  ·obtain⟨y,e⟩:=ZX b c;obtain⟨x,d,_⟩:=g y e;simp at d
 ·by_cases c:b=[]
  ·subst c;obtain⟨x,d⟩:=ZX a f;obtain⟨y,e,_⟩:=h1 x d;simp at e
  ·obtain⟨⟨x,d,p⟩,j⟩:=qj5 a f;obtain⟨⟨y,e,q⟩,k⟩:=qj5 b c;obtain⟨m,i,s⟩:=h1 x d;obtain⟨l,h,t⟩:=g y e;have:=j l h;have:=k m i;omega
theorem qwc:∀(b:List Tok) (z:Int),0<=z->kqz z b=jd z (kqz (-1) b)
 |[],z,h=>by
  show z=jd z (-1);unfold jd;rw[if_neg aj]
 |t::b,z,h=>by
  have a:kqz z (t::b)=kqz (jd z t.at_) b:=rfl;have c:kqz (-1) (t::b)=kqz t.at_ b:=by
   show kqz (jd (-1) t.at_) b=_;rw[show jd (-1) (t.at_:Int)=t.at_ by unfold jd;rw[if_pos aj]]
  have d:=kqj b (z:=-1) aj;rw[a,c,qwc b _ mY,qwc b t.at_ aj];generalize kqz (-1) b=m at d;unfold jd;repeat' split
  all_goals omega
theorem zzu (a b:List Tok):jd (kqz (-1) a) (kqz (-1) b)=kqz (-1) (a++b):=by
 rw[ug];by_cases e:a=[]
 ·subst e;show jd (-1) _=_;unfold jd;rw[if_pos aj];rfl
 ·obtain⟨⟨y,_,c⟩,_⟩:=qj5 a e;exact(qwc b _ (by rw[c];omega)).symm
def kqk (c:Bool)(t:Tok):List Tok:=if c then [t] else []
theorem zo {c:Bool}{t: Tok}:y∈kqk c t↔c=true/\y=t:=by
 unfold kqk;cases c<;>simp
def jy {α:Type}(g:Nat->α->List Tok):List α->Nat->List Tok
 |[],_=>[]
 |x::l,i=>g i x++jy g l (i+1)
theorem zi {α:Type}{g:Nat->α->List Tok}{y:Tok}:∀(l:List α) (k:Nat),y∈jy g l k↔∃i,∃h:i<l.length,y∈g (k+i) l[i]
 |[],k=>by simp[jy]
 |x::l,k=>by
  rw[jy,ru,zi l (k+1)];constructor
  ·rintro(h|⟨i,hi,h⟩)
   ·exact⟨0,au,iw⟩
   ·exact⟨i+1,iq,by simpa[ZK,ZG 1 i] using h⟩
  ·rintro⟨i,hi,h⟩;rcases i with _|i
   ·exact Or.inl iw
   ·exact Or.inr ⟨i,iq,by simpa[ZK,ZG 1 i] using h⟩
theorem yh {α:Type}{f:Int->Nat->α->Int}{g:Nat->α->List Tok}(h:∀a i x,-1<=a->f a i x=kqz a (g i x)):∀(l:List α) (i:Nat) (a:Int),-1<=a->uh f l i a=kqz a (jy g l i)
 |[],i,a,_=>rfl
 |x::l,i,a,ha=>by
  rw[uh,jy,ug,h a i x ha];exact yh h l _ _ (kqj _ ha)
theorem kkq {α:Type}{f:Int->α->Int}{g:α->List Tok}(h:∀a x,-1<=a->f a x=kqz a (g x)):∀(l:List α) (a:Int),-1<=a->l.foldl f a=kqz a (l.flatMap g)
 |[],a,_=>rfl
 |x::l,a,ha=>by
  rw[JK,Qb,ug,h a x ha];exact kkq h l _ (kqj _ ha)
theorem kvg (a:Int)(n:Nat)(b:Int)(t:Tok)(c:-1<=a):jd a (kx1 n b t)=kqz a (kqk ((n:Int)==b) t):=by
 unfold kx1 kqk;split
 ·rfl
 ·show jd a (-1)=a;unfold jd;split<;>omega
theorem jxt (a:Int)(t:Tok)(lo hi:Int)(b:-1<=a):jd a (zzf t lo hi)=kqz a (kqk (decide (kq8 t.text<lo\/hi<kq8 t.text)) t):=by
 unfold zzf kqk;by_cases h:kq8 t.text<lo\/hi<kq8 t.text
 ·rw[if_pos h,if_pos iw];rfl
 ·rw[if_neg h,if_neg iw];show jd a (-1)=a;unfold jd;split<;>omega
theorem kyw (a:Int)(n:Nat)(b:Int)(t:Tok):qjm a n b t=kqz a (kqk (decide (b<=(n:Int))) t):=by
 unfold qjm kqk;by_cases h:b<=(n:Int)
 ·rw[if_pos h,if_pos iw];rfl
 ·rw[if_neg h,if_neg iw];rfl
theorem jx0 (a:Int)(t:Tok)(lo hi:Int):jva a t lo hi=kqz a (kqk (decide (kq8 t.text<lo\/hi<kq8 t.text)) t):=by
 unfold jva kqk;by_cases h:kq8 t.text<lo\/hi<kq8 t.text
 ·rw[if_pos h,if_pos iw];rfl
 ·rw[if_neg h,if_neg iw];rfl
theorem kzk (c:Bool)(z:Int)(n:Tok):kjt c z n=kqz z (kqk c n):=by
 unfold kjt kqk;cases c<;>rfl
def vz2 (t:Tok)(lo hi:Int):Bool:=decide (kq8 t.text<lo\/hi<kq8 t.text)
def mS (i:Nat)(s:PSet):List Tok:=kqk ((i:Int)==2) s.name++kqk (vz2 s.size 2 3) s.size
def mM (i:Nat)(m:Tok):List Tok:=kqk ((i:Int)==4) m
def mK (i:Nat)(k:PKind):List Tok:=kqk ((i:Int)==2) k.name++jy mM k.members 0
def mV (i:Nat)(v:PVar):List Tok:=kqk ((i:Int)==4) v.name++kqk ((v.top.kind.toList==oQ)&&vz2 v.top 1 3) v.top
def mR (i:Nat)(r:PRule):List Tok:=kqk ((i:Int)==5) r.name
def mN (i:Nat)(r:PRule):List Tok:=kqk ((i:Int)==3) r.name
def mP (i:Nat)(p:PP):List Tok:=kqk ((i:Int)==2) p.name
def mQ (_:Nat)(r:PRule):List Tok:=jy mP r.params 0
theorem jqe (t:PTree):kxm t=kqz (-1) (((((jy mS t.sets 0++jy mK t.kinds 0)++jy mV t.vars 0)++jy mR t.rules 0)++jy mN t.nevers 0)++jy mQ (t.rules++t.nevers) 0):=by
 have h:-1<=kqz (-1) (jy mS t.sets 0):=kqj _ aj;have c:many1 t=kqz (-1) (jy mS t.sets 0):=yh (λa i x b=>by unfold jkq mS;rw[kvg _ _ _ _ b,jxt _ _ _ _ (kqj _ b),ug];rfl) _ _ _ aj;have d:jq1 t=kqz (-1) (jy mS t.sets 0++jy mK t.kinds 0):=by
  unfold jq1;rw[c,ug];exact yh (λa i x b=>by
   unfold jkx mK;rw[kvg _ _ _ _ b,ug];exact yh (λa i x b=>by unfold zya mM;exact kvg _ _ _ _ b) _ _ _ (kqj _ b)) _ _ _ h
 have e:jq0 t=kqz (-1) ((jy mS t.sets 0++jy mK t.kinds 0)++jy mV t.vars 0):=by
  unfold jq0;rw[d];refine Eq.trans ?_ (ug _ _ _).symm;exact yh (λa i x b=>by
   unfold jk9 mV;cases j:(x.top.kind.toList==oQ)
   ·rw[if_neg au,kvg _ _ _ _ b,ug];rfl
   ·rw[if_pos rfl,kvg _ _ _ _ b,jxt _ _ _ _ (kqj _ b),ug];rfl) _ _ _ (kqj (jy mS t.sets 0++jy mK t.kinds 0) (z:=-1) aj)
 have f:zyi t=kqz (-1) (((jy mS t.sets 0++jy mK t.kinds 0)++jy mV t.vars 0)++jy mR t.rules 0):=by
  unfold zyi;rw[e];refine Eq.trans ?_ (ug _ _ _).symm;exact yh (λa i x b=>by unfold jkj mR;exact kvg _ _ _ _ b) _ _ _ (kqj ((jy mS t.sets 0++jy mK t.kinds 0)++jy mV t.vars 0) (z:=-1) aj)
 have g:zye t=kqz (-1) ((((jy mS t.sets 0++jy mK t.kinds 0)++jy mV t.vars 0)++jy mR t.rules 0)++jy mN t.nevers 0):=by
  unfold zye;rw[f];refine Eq.trans ?_ (ug _ _ _).symm;exact yh (λa i x b=>by unfold manyN mN;exact kvg _ _ _ _ b) _ _ _ (kqj (((jy mS t.sets 0++jy mK t.kinds 0)++jy mV t.vars 0)++jy mR t.rules 0) (z:=-1) aj)
 unfold kxm;rw[g];refine Eq.trans ?_ (ug _ _ _).symm;exact yh (λa i x b=>by
  unfold jkz mQ;exact yh (λa i x b=>by unfold zyo mP;exact kvg _ _ _ _ b) _ _ _ b) _ _ _ (kqj ((((jy mS t.sets 0++jy mK t.kinds 0)++jy mV t.vars 0)++jy mR t.rules 0)++jy mN t.nevers 0) (z:=-1) aj)
def qS (i:Nat)(s:PSet):List Tok:=kqk (decide ((2:Int)<=i)) s.name++kqk (vz2 s.size 2 3) s.size
def qM (i:Nat)(m:Tok):List Tok:=kqk (decide ((4:Int)<=i)) m
def qK (i:Nat)(k:PKind):List Tok:=kqk (decide ((2:Int)<=i)) k.name++jy qM k.members 0
def qV (i:Nat)(v:VrT):List Tok:=kqk (decide ((4:Int)<=i)) v.name++kqk ((v.si.form==1)&&vz2 v.si.top 1 3) v.si.top
def qP (i:Nat)(p:PP):List Tok:=kqk (decide ((2:Int)<=i)) p.name
def qR (i:Nat)(r:PRule):List Tok:=kqk (decide ((5:Int)<=i)) r.name++jy qP r.params 0
def qN (i:Nat)(r:PRule):List Tok:=kqk (decide ((3:Int)<=i)) r.name++jy qP r.params 0
theorem zkb (m:MdL):kwr m=kqz (-1) ((((jy qS m.sets 0++jy qK m.kinds 0)++jy qV m.vars 0)++jy qR m.rules 0)++jy qN m.nevers 0):=by
 have d:pm1 m=kqz (-1) (jy qS m.sets 0):=yh (λa i x b=>by unfold pS qS;rw[kyw,jx0,ug];rfl) _ _ _ aj;have h:-1<=kqz (-1) (jy qS m.sets 0):=kqj _ aj;have e:pm2 m=kqz (-1) (jy qS m.sets 0++jy qK m.kinds 0):=by
  unfold pm2;rw[d,ug];exact yh (λa i x b=>by
   unfold pK qK;rw[kyw,ug];exact yh (λa i x b=>by unfold pM qM;exact kyw _ _ _ _) _ _ _ (kqj _ b)) _ _ _ h
 have f:pm3 m=kqz (-1) ((jy qS m.sets 0++jy qK m.kinds 0)++jy qV m.vars 0):=by
  unfold pm3;rw[e];refine Eq.trans ?_ (ug _ _ _).symm;exact yh (λa i x b=>by
   unfold pV qV;cases j:(x.si.form==1)
   ·rw[if_neg au,kyw,ug];rfl
   ·rw[if_pos rfl,kyw,jx0,ug];rfl) _ _ _ (kqj (jy qS m.sets 0++jy qK m.kinds 0) (z:=-1) aj)
 have c:∀(l:List PP) (a:Int),-1<=a->uh jy7 l 0 a=kqz a (jy qP l 0):=λl a b=>yh (λa i x b=>by unfold jy7 qP;exact kyw _ _ _ _) _ _ _ b
 have g:pm4 m=kqz (-1) (((jy qS m.sets 0++jy qK m.kinds 0)++jy qV m.vars 0)++jy qR m.rules 0):=by
  unfold pm4;rw[f];refine Eq.trans ?_ (ug _ _ _).symm;exact yh (λa i x b=>by unfold pR qR;rw[kyw,ug];exact c _ _ (kqj _ b)) _ _ _ (kqj ((jy qS m.sets 0++jy qK m.kinds 0)++jy qV m.vars 0) (z:=-1) aj)
 unfold kwr;rw[g];refine Eq.trans ?_ (ug _ _ _).symm;exact yh (λa i x b=>by unfold pN qN;rw[kyw,ug];exact c _ _ (kqj _ b)) _ _ _ (kqj (((jy qS m.sets 0++jy qK m.kinds 0)++jy qV m.vars 0)++jy qR m.rules 0) (z:=-1) aj)
structure TreeInc (t:PTree):Prop where
 sets:(t.sets.flatMap qwp).Pairwise (λa b=>a.at_<b.at_)
 kinds:(t.kinds.flatMap kzp).Pairwise (λa b=>a.at_<b.at_)
 vars:(t.vars.flatMap kxy).Pairwise (λa b=>a.at_<b.at_)
 rules:(t.rules.flatMap kqx).Pairwise (λa b=>a.at_<b.at_)
 nevers:(t.nevers.flatMap kqx).Pairwise (λa b=>a.at_<b.at_)
theorem qkf.pw {L:List Tok}  (c:bg L)(h:qkf L t):(kzl t).Pairwise (λa b=>a.at_<b.at_):=(h.nms.ats c.inc).2
theorem vxm (h:(kzl t).Pairwise (λa b=>a.at_<b.at_)):TreeInc t:=by
 unfold kzl at h;rw[QW,QW,QW,QW]at h;exact⟨h.1,h.2.1.1,h.2.1.2.1.1,h.2.1.2.1.2.1.1,h.2.1.2.1.2.1.2.1⟩
theorem qzd {f:α->List Tok}{nm:α->Tok}(c:∀x,nm x∈f x){l:List α}(h:(l.flatMap f).Pairwise (λa b=>a.at_<b.at_))  (g:i<=j)(d:j<l.length):(nm (l[i]'aj)).at_<=(nm l[j]).at_:=by
 rw[JC]at h;by_cases e:i=j
 ·subst e;exact wJ _
 ·have:=Jj.mp h.2 i j aj d aj;exact Qs (this _ (c _) _ (c _))
theorem vwm (h:l.Pairwise (λa b=>a.at_<b.at_))  (d:i<=j)(c:j<l.length):(l[i]'aj).at_<=(l[j]).at_:=by
 by_cases e:i=j
 ·subst e;exact wJ _
 ·exact Qs (Jj.mp h i j aj c aj)
theorem vy8 (p:PP):p.name∈kwt p:=rV ..
theorem vjc {r:PRule}(h:(kqx r).Pairwise (λa b=>a.at_<b.at_)):(r.params.flatMap kwt).Pairwise (λa b=>a.at_<b.at_):=by
 unfold kqx at h;rw[Zf,QW]at h;exact h.2.1
theorem jxc {l:List PP}(h:(l.flatMap kwt).Pairwise (λa b=>a.at_<b.at_))  (c:y∈jy qP l 0):∃x∈jy mP l 0,x.at_<=y.at_:=by
 rw[zi]at c;obtain⟨i,hi,c⟩:=c;unfold qP at c;rw[zo,sQ]at c;obtain⟨e,rfl⟩:=c;have d:2<=i:=aj;refine⟨(l[2]'aj).name,?_,qzd vy8 h d hi⟩;rw[zi];exact⟨2,aj,by unfold mP;rw[zo];exact⟨rfl,rfl⟩⟩
theorem zyg {l:List PP}  (a:y∈jy mP l 0):y∈jy qP l 0:=by
 rw[zi]at a |-;obtain⟨i,hi,a⟩:=a;refine⟨i,hi,?_⟩;unfold mP at a;unfold qP;rw[zo,rQ]at a;rw[zo,sQ];exact⟨aj,a.2⟩
theorem vzj (H:∀v∈t.vars,qwk v)(h:TreeInc t):kwr (zh t)=kxm t:=by
 rw[zkb,jqe];have I:∀k∈t.kinds,k.members.Pairwise (λa b=>a.at_<b.at_):=λk E=>by
  have:=h.kinds;rw[JC]at this;have:=this.1 k E;unfold kzp at this;rw[Zf]at this;exact this.2
 have C:∀(l:List PRule),(l.flatMap kqx).Pairwise (λa b=>a.at_<b.at_)->∀r∈l,(r.params.flatMap kwt).Pairwise (λa b=>a.at_<b.at_):=λl B r G=>by
  rw[JC]at B;exact vjc (B.1 r G)
 have D:∀v∈t.vars,((yu v).si.form==1)=(v.top.kind.toList==oQ)/\(((yu v).si.form==1)=true->(yu v).si.top=v.top):=λv F=>by
  obtain⟨_,h1|h1|h1⟩:=H v F
  ·obtain⟨a,b,c⟩:=h1;unfold yu;simp only;rw[a,b,c,kqw];exact⟨rfl,λh=>gY⟩
  ·obtain⟨a,b,c,d⟩:=h1;unfold yu;simp only;rw[a,b,d];exact⟨rfl,λ_=>rfl⟩
  ·obtain⟨a,c⟩:=h1;unfold yu;simp only;rw[a,c,kqw];exact⟨rfl,λh=>gY⟩
 apply jxl
 ·intro x g;simp only[ru]at g;rcases g with(((g|g)|g)|g)|g
  ·rw[zi]at g;obtain⟨i,hi,g⟩:=g;have m:i<t.sets.length:=hi;unfold qS at g;rw[ru,zo,zo,sQ]at g;rcases g with⟨p,rfl⟩|⟨p,rfl⟩
   ·refine⟨(t.sets[2]'aj).name,?_,qzd (f:=qwp) (nm:=λs:PSet=>s.name) (λx=>rV ..) h.sets aj m⟩;simp only[ru,zi];exact Or.inl (Or.inl (Or.inl (Or.inl (Or.inl ⟨2,aj,by unfold mS;rw[ru,zo];exact Or.inl ⟨rfl,rfl⟩⟩))))
   ·refine⟨(t.sets[i]'m).size,?_,wJ _⟩;simp only[ru,zi];exact Or.inl (Or.inl (Or.inl (Or.inl (Or.inl ⟨i,m,by unfold mS;rw[ru,zo,zo];exact Or.inr ⟨p,rfl⟩⟩))))
  ·rw[zi]at g;obtain⟨i,hi,g⟩:=g;have m:i<t.kinds.length:=hi;unfold qK at g;rw[ru,zo,sQ,zi]at g;rcases g with⟨p,rfl⟩|⟨j,w,g⟩
   ·refine⟨(t.kinds[2]'aj).name,?_,qzd (f:=kzp) (nm:=λs:PKind=>s.name) (λx=>rV ..) h.kinds aj m⟩;simp only[ru,zi];exact Or.inl (Or.inl (Or.inl (Or.inl (Or.inr ⟨2,aj,by unfold mK;rw[ru,zo];exact Or.inl ⟨rfl,rfl⟩⟩))))
   ·unfold qM at g;rw[zo,sQ]at g;obtain⟨K,rfl⟩:=g;have A:j<(t.kinds[i]'m).members.length:=w;refine⟨(t.kinds[i]'m).members[4]'aj,?_,vwm (I _ (wX m)) aj A⟩;simp only[ru,zi];refine Or.inl (Or.inl (Or.inl (Or.inl (Or.inr ⟨i,m,?_⟩))));unfold mK;rw[ru,zi];exact Or.inr ⟨4,aj,by unfold mM;rw[zo];exact⟨rfl,rfl⟩⟩
  ·rw[zi]at g;obtain⟨i,hi,g⟩:=g;have m:i<t.vars.length:=by simpa[zh] using hi
   have ev:(zh t).vars[i]=yu (t.vars[i]'m):=by simp[zh]
   rw[ev]at g;obtain⟨f1,f2⟩:=D _ (wX m);unfold qV at g;rw[ru,zo,zo,sQ,wW]at g;rcases g with⟨p,rfl⟩|⟨⟨p,z⟩,rfl⟩
   ·refine⟨(t.vars[4]'aj).name,?_,qzd (f:=kxy) (nm:=λs:PVar=>s.name) (λx=>rV ..) h.vars aj m⟩;simp only[ru,zi];exact Or.inl (Or.inl (Or.inl (Or.inr ⟨4,aj,by unfold mV;rw[ru,zo];exact Or.inl ⟨rfl,rfl⟩⟩)))
   ·rw[f2 p]at z;refine⟨(t.vars[i]'m).top,?_,by rw[f2 p];exact wJ _⟩;simp only[ru,zi];exact Or.inl (Or.inl (Or.inl (Or.inr ⟨i,m,by unfold mV;rw[ru,zo,zo,<-f1,p,z];exact Or.inr ⟨rfl,rfl⟩⟩)))
  ·rw[zi]at g;obtain⟨i,hi,g⟩:=g;have m:i<t.rules.length:=hi;unfold qR at g;rw[ru,zo,sQ]at g;rcases g with⟨p,rfl⟩|g
   ·refine⟨(t.rules[5]'aj).name,?_,qzd (f:=kqx) (nm:=λs:PRule=>s.name) (λx=>rV ..) h.rules aj m⟩;simp only[ru,zi];exact Or.inl (Or.inl (Or.inr ⟨5,aj,by unfold mR;rw[zo];exact⟨rfl,rfl⟩⟩))
   ·obtain⟨y,e,q⟩:=jxc (C _ h.rules _ (wX m)) g;refine⟨y,?_,q⟩;rw[ru,zi (t.rules++t.nevers)];refine Or.inr ⟨i,ay,?_⟩;rw[QX m];exact e
  ·rw[zi]at g;obtain⟨i,hi,g⟩:=g;have m:i<t.nevers.length:=hi;unfold qN at g;rw[ru,zo,sQ]at g;rcases g with⟨p,rfl⟩|g
   ·refine⟨(t.nevers[3]'aj).name,?_,qzd (f:=kqx) (nm:=λs:PRule=>s.name) (λx=>rV ..) h.nevers aj m⟩;simp only[ru,zi];exact Or.inl (Or.inr ⟨3,aj,by unfold mN;rw[zo];exact⟨rfl,rfl⟩⟩)
   ·obtain⟨y,e,q⟩:=jxc (C _ h.nevers _ (wX m)) g;refine⟨y,?_,q⟩;rw[ru,zi (t.rules++t.nevers)];refine Or.inr ⟨t.rules.length+i,ay,?_⟩;rw[ZJ aj];simpa[mQ] using e
 ·intro y e;refine⟨y,?_,wJ _⟩;simp only[ru]at e |-;rcases e with((((e|e)|e)|e)|e)|e
  ·rw[zi]at e;obtain⟨i,hi,e⟩:=e;refine Or.inl (Or.inl (Or.inl (Or.inl ?_)));rw[zi];refine⟨i,hi,?_⟩;unfold mS at e;unfold qS;rw[ru,zo,zo,rQ]at e;rw[ru,zo,zo,sQ];rcases e with⟨a,b⟩|e
   ·exact Or.inl ⟨aj,b⟩
   ·exact Or.inr e
  ·rw[zi]at e;obtain⟨i,hi,e⟩:=e;refine Or.inl (Or.inl (Or.inl (Or.inr ?_)));rw[zi];refine⟨i,hi,?_⟩;unfold mK at e;unfold qK;rw[ru,zo,rQ,zi]at e;rw[ru,zo,sQ,zi];rcases e with⟨a,b⟩|⟨j,w,e⟩
   ·exact Or.inl ⟨aj,b⟩
   ·refine Or.inr ⟨j,w,?_⟩;unfold mM at e;unfold qM;rw[zo,rQ]at e;rw[zo,sQ];exact⟨aj,e.2⟩
  ·rw[zi]at e;obtain⟨i,hi,e⟩:=e;refine Or.inl (Or.inl (Or.inr ?_));rw[zi];refine⟨i,by simpa[zh] using hi,?_⟩;have ev:(zh t).vars[i]'(by simpa[zh] using hi)=yu (t.vars[i]'hi):=by simp[zh]
   rw[ev];obtain⟨f1,f2⟩:=D _ (wX hi);unfold mV at e;unfold qV;rw[ru,zo,zo,rQ,wW,<-f1]at e;rw[ru,zo,zo,sQ,wW];rcases e with⟨a,b⟩|⟨⟨a,b⟩,c⟩
   ·exact Or.inl ⟨aj,b⟩
   ·exact Or.inr ⟨⟨a,by rw[f2 a];exact b⟩,by rw[f2 a];exact c⟩
  ·rw[zi]at e;obtain⟨i,hi,e⟩:=e;refine Or.inl (Or.inr ?_);rw[zi];refine⟨i,hi,?_⟩;unfold mR at e;unfold qR;rw[zo,rQ]at e;rw[ru,zo,sQ];exact Or.inl ⟨aj,e.2⟩
  ·rw[zi]at e;obtain⟨i,hi,e⟩:=e;refine Or.inr ?_;rw[zi];refine⟨i,hi,?_⟩;unfold mN at e;unfold qN;rw[zo,rQ]at e;rw[ru,zo,sQ];exact Or.inl ⟨aj,e.2⟩
  ·rw[zi]at e;obtain⟨i,hi,e⟩:=e;by_cases u:i<t.rules.length
   ·rw[QX u]at e;refine Or.inl (Or.inr ?_);rw[zi];refine⟨i,u,?_⟩;unfold qR;rw[ru];exact Or.inr (zyg e)
   ·rw[ZJ aj]at e;refine Or.inr ?_;rw[zi];have J:i<t.rules.length+t.nevers.length:=iq;refine⟨i-t.rules.length,by show i-t.rules.length<t.nevers.length;omega,?_⟩;unfold qN;rw[ru];exact Or.inr (zyg e)
def qq9 (o:Int)(x:Tok)(a:Int):Int:=if x.kind.toList==og&&decide (o<0) then jd a x.at_ else a
def qq8 (s k:Int)(x:Tok)(a:Int):Int:=if x.kind.toList==og&&decide (s<0)&&decide (k<0) then jd a x.at_ else a
def zwa (t:PTree)(a:Int)(_:Nat)(v:PVar):Int:=
 qq8 (qh (dh t) v.type_.text.toList) (qh (pq t) v.type_.text.toList) v.type_ (qq9 (qh (dh t) v.over.text.toList) v.over a)
def zxh (t:PTree)(a:Int)(_:Nat)(p:PP):Int:=if qh (dh t) p.set_.text.toList<0 then jd a p.set_.at_ else a
def zwi (t:PTree)(ps:List PP)(a:Int)(_:Nat)(n:Tok):Int:=if qjd t ps n.text.toList then a else jd a n.at_
def zwe (t:PTree)(a:Int)(_:Nat)(r:PRule):Int:=uh (zwi t r.params) (uo r.guard++uf r.body) 0 (uh (zxh t) r.params 0 a)
def pq5 (t:PTree):Int:=uh (zwa t) t.vars 0 (-1)
def qjs (t:PTree):Int:=uh (zwe t) (t.rules++t.nevers) 0 (pq5 t)
def jy4 (s:PSet):List (Tok×Ent):=[(s.name,⟨1,0,bE,kkl⟩)]
def jv3 (k:PKind):List (Tok×Ent):=(k.name,⟨2,0,bE,kkl⟩)::k.members.map (λx=>(x,⟨3,0,k.name.text,kkl⟩))
def jv0 (v:VrT):List (Tok×Ent):=[(v.name,⟨4,0,bE,v⟩)]
def jv1 (r:PRule):List (Tok×Ent):=[(r.name,⟨5,0,bE,kkl⟩)]
def jv2 (r:PRule):List (Tok×Ent):=[(r.name,⟨6,0,bE,kkl⟩)]
def kjg (m:MdL):List (Tok×Ent):=m.sets.flatMap jy4++(m.kinds.flatMap jv3++(m.vars.flatMap jv0++(m.rules.flatMap jv1++m.nevers.flatMap jv2)))
def jks (t:Tab)(x:Tok×Ent):Tab:=kve t x.1 x.2
theorem foldl_flat {α β γ:Type}(f:α->List β)(g:γ->β->γ):∀(l:List α) (c:γ),(l.flatMap f).foldl g c=l.foldl (λc x=>(f x).foldl g c) c
 |[],c=>rfl
 |x::l,c=>by rw[Qb,QJ,JK,foldl_flat f g l]
theorem jko (m:MdL):qp m=(kjg m).foldl jks []:=by
 unfold qp gt4 gt3 gt2 gt1 kjg;rw[QJ,QJ,QJ,QJ,foldl_flat,foldl_flat,foldl_flat,foldl_flat,foldl_flat];have e:(λ(c:Tab) (k:PKind)=>(jv3 k).foldl jks c)=gK:=by
  funext c k
  unfold jv3 gK;rw[JK,List.foldl_map];rfl
 rw[e];rfl
def zzp (l:List (Tok×Ent))(s:List UInt8):Ent:=match l.find? (λx=>x.1.text.toList==s) with|none=>zyb|some x=>{x.2 with place:=x.1.at_}
theorem jkv {s:List UInt8}{u:Tab}:∀{t:Tab},(zl t s).role≠0->zl (t++u) s=zl t s
 |[],h=>(h rfl).elim
 |x::l,h=>by
  rw[QD,zl,zl];rw[zl]at h;split
  ·rfl
  ·rename_i a;rw[if_neg a]at h;exact jkv h
theorem zj6 {s:List UInt8}{u:Tab}:∀{t:Tab},kw2 t->(zl t s).role=0->zl (t++u) s=zl u s/\zl t s=zyb
 |[],_,_=>⟨rfl,rfl⟩
 |x::l,ht,h=>by
  rw[QD,zl,zl];rw[zl]at h;split
  ·rename_i a;rw[if_pos a]at h;have:=ht x (rV ..);omega
  ·rename_i a;rw[if_neg a]at h;exact zj6 (λy b=>ht y (rG _ b)) h
theorem vzx {t:Tab}(f:kw2 t)(n:Tok)(e:Ent)(s:List UInt8):zl (kve t n e) s=if (zl t s).role=0/\n.text.toList=s then {e with place:=n.at_} else zl t s:=by
 unfold kve;by_cases d:(zl t n.text.toList).role=0
 ·rw[if_pos (by rw[rQ];exact d)];by_cases h1:(zl t s).role=0
  ·obtain⟨a,b⟩:=zj6 (u:=[(n.text,{e with place:=n.at_})]) f h1;rw[a];by_cases c:n.text.toList=s
   ·rw[if_pos ⟨h1,c⟩,zl,if_pos (by rw[rQ];exact c)]
   ·rw[if_neg (λh=>c h.2),zl,if_neg (by rw[rQ];exact c),b];rfl
  ·rw[jkv h1,if_neg (λh=>h1 h.1)]
 ·rw[if_neg (by rw[rQ];exact d),if_neg];rintro⟨h1,rfl⟩;exact d h1
theorem jq6 {s:List UInt8}:∀(l:List (Tok×Ent)) (t:Tab),kw2 t->(∀x∈l,1<=x.2.role)->zl (l.foldl jks t) s=if (zl t s).role=0 then zzp l s else zl t s
 |[],t,ht,_=>by
  split
  ·rename_i h;exact(zj6 (u:=[]) ht h).2
  ·rfl
 |x::l,t,ht,hl=>by
  rw[JK,jq6 l (jks t x) (qqt ht (hl x (rV ..))) (λy d=>hl y (rG _ d))];have b:=vzx ht x.1 x.2 s;have c:zl (jks t x) s=zl (kve t x.1 x.2) s:=rfl;rw[c];have e:=hl x (rV ..);by_cases a:(zl t s).role=0
  ·rw[if_pos a];by_cases h1:x.1.text.toList=s
   ·rw[if_pos ⟨a,h1⟩]at b;rw[b,if_neg (by show ¬x.2.role=0;omega)];unfold zzp;rw[List.find?_cons,show(x.1.text.toList==s)=true by rw[rQ];exact h1]
   ·rw[if_neg (λh=>h1 h.2)]at b;rw[b,if_pos a];unfold zzp;rw[List.find?_cons,show(x.1.text.toList==s)=false by rw[Qw];exact h1]
  ·rw[if_neg (λh=>a h.1)]at b;rw[b,if_neg a,if_neg a]
theorem kvz (m:MdL):∀x∈kjg m,(x.2.role=1/\∃q∈m.sets,x.1=q.name)\/(x.2.role=2/\∃k∈m.kinds,x.1=k.name)\/(x.2.role=3/\∃k∈m.kinds,x.1∈k.members/\x.2.kind=k.name.text) \/
  (x.2.role=4/\∃v∈m.vars,x.1=v.name/\x.2.var=v)\/(x.2.role=5/\∃r∈m.rules,x.1=r.name)\/(x.2.role=6/\∃r∈m.nevers,x.1=r.name):=by
 intro x a;unfold kjg at a;simp only[ru,su]at a;rcases a with⟨q,b,a⟩|⟨q,b,a⟩|⟨q,b,a⟩|⟨q,b,a⟩|⟨q,b,a⟩
 ·unfold jy4 at a;rw[sK]at a;subst a;exact Or.inl ⟨rfl,q,b,rfl⟩
 ·unfold jv3 at a;rw[sW,Qj]at a;rcases a with rfl|⟨y,c,rfl⟩
  ·exact Or.inr (Or.inl ⟨rfl,q,b,rfl⟩)
  ·exact Or.inr (Or.inr (Or.inl ⟨rfl,q,b,c,rfl⟩))
 ·unfold jv0 at a;rw[sK]at a;subst a;exact Or.inr (Or.inr (Or.inr (Or.inl ⟨rfl,q,b,rfl,rfl⟩)))
 ·unfold jv1 at a;rw[sK]at a;subst a;exact Or.inr (Or.inr (Or.inr (Or.inr (Or.inl ⟨rfl,q,b,rfl⟩))))
 ·unfold jv2 at a;rw[sK]at a;subst a;exact Or.inr (Or.inr (Or.inr (Or.inr (Or.inr ⟨rfl,q,b,rfl⟩))))
theorem jqv (m:MdL):∀x∈kjg m,1<=x.2.role:=λx a=>by
 rcases kvz m x a with h|h|h|h|h|h<;>have:=h.1<;>omega
theorem kjf (m:MdL)(s:List UInt8):zl (qp m) s=zzp (kjg m) s:=by
 rw[jko,jq6 _ _ (λx a=>by cases a) (jqv m),if_pos (show(zl [] s).role=0 from rfl)]
theorem kjo (l:List (Tok×Ent))(s:List UInt8):(zzp l s=zyb/\∀x∈l,x.1.text.toList≠s) \/
  ∃j,∃hj:j<l.length,(l[j]).1.text.toList=s/\(∀k (c:k<j),(l[k]'aj).1.text.toList≠s)/\zzp l s={(l[j]).2 with place:=(l[j]).1.at_}:=by
 unfold zzp;cases a:l.find? (λx=>x.1.text.toList==s) with
 |none=>
  refine Or.inl ⟨rfl,λx f=>?_⟩;have:=List.find?_eq_none.mp a x f;simpa using this
 |some b=>
  obtain⟨h1,i,hi,e,d⟩:=List.find?_eq_some_iff_getElem.mp a;refine Or.inr ⟨i,hi,by rw[e];simpa using h1,λk c=>?_,by rw[e]⟩;have:=d k c;simpa using this
theorem qwl (t:PTree):(kjg (zh t)).map (·.1)=jc t:=by
 unfold kjg jc kyc qxr qxn zh;have a:∀l:List PSet,(l.flatMap jy4).map (·.1)=l.flatMap qwp:=λl=>by rw[Jp];rfl
 have b:∀l:List PKind,(l.flatMap jv3).map (·.1)=l.flatMap kzp:=λl=>by
  rw[Jp];congr 1
  funext k
  unfold jv3 kzp;rw[Qh,Q7];congr 1
  exact List.map_id _
 have c:∀l:List PVar,((l.map yu).flatMap jv0).map (·.1)=l.flatMap zzt:=λl=>by rw[List.flatMap_map,Jp];rfl
 have d:∀l:List PRule,(l.flatMap jv1).map (·.1)=l.flatMap kwz:=λl=>by rw[Jp];rfl
 have e:∀l:List PRule,(l.flatMap jv2).map (·.1)=l.flatMap kwz:=λl=>by rw[Jp];rfl
 simp only[Qv,a,b,c,d,e,Qn,sD]
theorem qq0 (t:PTree):(kjg (zh t)).length=(jc t).length:=by rw[<-qwl,Qe]
theorem kva (t:PTree)  (hi:i<(kjg (zh t)).length):((kjg (zh t))[i]).1=(jc t)[i]'nK:=by
 have:((kjg (zh t)).map (·.1))[i]'iq=(jc t)[i]'nK:=by simp only[qwl]
 rw[<-this,Jd]
theorem kkm:∀(l:List ByteArray) (s:List UInt8),qh l s<0↔∀x∈l,x.toList≠s
 |[],s=>by simp[qh]
 |x::l,s=>by
  rw[qh];have c:=kkm l s;by_cases h:x.toList=s
  ·rw[if_pos (by rw[rQ];exact h)];constructor
   ·intro a;omega
   ·intro a;exact(a x (rV ..) h).elim
  ·rw[if_neg (by rw[rQ];exact h)];constructor
   ·intro a y b;have h1:qh l s<0:=by
     by_cases h1:qh l s<0
     ·exact h1
     ·rw[if_neg h1]at a;omega
    rcases sW.mp b with rfl|b
    ·exact h
    ·exact c.mp h1 y b
   ·intro a;rw[if_pos (c.mpr λy b=>a y (rG _ b))];omega
theorem kvd {l:List ByteArray}  (h:0<=qh l s):∃hi:(qh l s).toNat<l.length,(l[(qh l s).toNat]).toList=s:=by
 induction l with
 |nil=>simp[qh]at h
 |cons x l ih=>
  rw[qh]at h;by_cases a:x.toList=s
  ·have e:qh (x::l) s=0:=by rw[qh,if_pos lg]
   rw[e];exact⟨au,lq⟩
  ·rw[if_neg lg]at h;by_cases h1:qh l s<0
   ·rw[if_pos h1]at h;omega
   ·have e:qh (x::l) s=qh l s+1:=by rw[qh,if_neg lg,if_neg h1]
    obtain⟨hi,c⟩:=ih aj;rw[e];have b:(qh l s+1).toNat=(qh l s).toNat+1:=aj;refine⟨by rw[b];simpa using hi,?_⟩;simp only[b,Jy];exact c
theorem zka:∀(l:List PKind) (s:List UInt8),(kqa l s).1<0↔∀k∈l,∀x∈k.members,x.text.toList≠s
 |[],s=>by simp[kqa]
 |k::l,s=>by
  have f:=zka l s;have g:=kkm (kqh k) s;have c:qh (kqh k) s<0↔∀x∈k.members,x.text.toList≠s:=by
   rw[g];unfold kqh;simp
  rw[kqa];by_cases h:0<=qh (kqh k) s
  ·rw[if_pos h];constructor
   ·intro h1;simp at h1
   ·intro h1;have:=c.mpr (h1 k (rV ..));omega
  ·rw[if_neg h];have i:=c.mp aj;constructor
   ·intro h1 d a x e;have b:(kqa l s).1<0:=by
     by_cases b:(kqa l s).1<0
     ·exact b
     ·rw[if_neg b]at h1;simp only at h1;omega
    rcases sW.mp a with rfl|a
    ·exact i x e
    ·exact f.mp b d a x e
   ·intro h1;rw[if_pos (f.mpr λd a=>h1 d (rG _ a))];simp
theorem qyo:∀{l:List PKind} {s:List UInt8},0<=(kqa l s).1->∃hi:(kqa l s).1.toNat<l.length,∃x∈(l[(kqa l s).1.toNat]).members,x.text.toList=s
 |[],s,h=>by simp[kqa]at h
 |k::l,s,h=>by
  rw[kqa]at h;by_cases b:0<=qh (kqh k) s
  ·have e:(kqa (k::l) s).1=0:=by rw[kqa,if_pos b]
   obtain⟨hi,a⟩:=kvd b;rw[e];refine⟨au,?_⟩;unfold kqh at hi a;rw[Jd]at a;exact⟨_,wX iq,lq⟩
  ·rw[if_neg b]at h;by_cases h1:(kqa l s).1<0
   ·rw[if_pos h1]at h;simp at h
   ·have e:(kqa (k::l) s).1=(kqa l s).1+1:=by rw[kqa,if_neg b,if_neg h1]
    obtain⟨hi,x,d,a⟩:=qyo (l:=l) (s:=s) aj;rw[e];have c:((kqa l s).1+1).toNat=(kqa l s).1.toNat+1:=aj;refine⟨by rw[c];simpa using hi,x,?_,a⟩;simp only[c,Jy];exact d
theorem zq5 (l:List PP)(s:List UInt8):fpB l s=true↔∃p∈l,p.name.text.toList=s:=by
 unfold fpB;rw[Jl];simp
theorem qyr (l:List PP)(s:List UInt8):qh (je l) s<0↔fpB l s=false:=by
 rw[kkm];unfold je;cases h:fpB l s
 ·simp only[iff_true];intro x b e;rw[Qj]at b;obtain⟨p,a,rfl⟩:=b;have:=(zq5 l s).mpr ⟨p,a,e⟩;rw[h]at this;cases this
 ·obtain⟨p,a,e⟩:=(zq5 l s).mp h;simp only[Bool.true_eq_false,iff_false];intro c;exact c _ (sV a) e
theorem qz4 (t:PTree)(s:List UInt8):(zl (qp (zh t)) s).role=1↔¬qh (dh t) s<0:=by
 rw[kjf,kkm];constructor
 ·intro h f;rcases kjo (kjg (zh t)) s with⟨e,_⟩|⟨j,l,h1,m,e⟩
  ·rw[e]at h;cases h
  ·rw[e]at h;simp only at h;rcases kvz _ _ (wX l) with g|g|g|g|g|g
   ·obtain⟨_,q,a,i⟩:=g;exact f q.name.text (sV a) (by rw[<-i];exact h1)
   all_goals (have:=g.1;omega)
 ·intro h;have:∃q∈t.sets,q.name.text.toList=s:=by
   apply tK;intro k;apply h;intro x c;unfold dh at c;rw[Qj]at c;obtain⟨q,a,rfl⟩:=c;exact λe=>k ⟨q,a,e⟩
  obtain⟨q,a,e⟩:=this;unfold zzp kjg;rw[List.find?_append];cases d:(((zh t).sets.flatMap jy4).find? (λx=>x.1.text.toList==s)) with
  |none=>
   have:=List.find?_eq_none.mp d (q.name,⟨1,0,bE,kkl⟩) (su.mpr ⟨q,a,sK.mpr rfl⟩);simp only[rQ]at this;exact(this e).elim
  |some b=>
   have hb:=List.mem_of_find?_eq_some d;rw[su]at hb;obtain⟨p,_,hb⟩:=hb;unfold jy4 at hb;rw[sK]at hb;subst hb;rfl
theorem zqo (t:PTree)(s:List UInt8):(zl (qp (zh t)) s).role=0↔∀x∈jc t,x.text.toList≠s:=by
 rw[kjf,<-qwl];rcases kjo (kjg (zh t)) s with⟨e,h⟩|⟨j,b,h1,f,e⟩
 ·rw[e];refine⟨λ_ x c=>?_,λ_=>rfl⟩;rw[Qj]at c;obtain⟨y,d,rfl⟩:=c;exact h y d
 ·rw[e];have:=jqv _ _ (wX b);constructor
  ·intro a;simp only at a;omega
  ·intro a;exact(a _ (sV (wX b)) h1).elim
end Go.Proofs.YtpmcnonmkghokaaGreatDoor

import Derived.Test.YtpmcnonmkghokaaGreatDoorT07
import Derived.Test.YtpmcnonmkghokaaGreatDoorT03
set_option maxRecDepth 100000
set_option maxHeartbeats 8000000
set_option linter.unusedVariables false
set_option linter.unusedSimpArgs false
namespace Go.Proofs.YtpmcnonmkghokaaGreatDoor
open Go.Proofs.Tryz Go.RowKit
attribute [local go_sem ↓] Go.wp_at_zero Go.wp_at_succ
variable {ops:Array Oper}{d6:ELab}{Q:Exit->Act->World->Prop}{ts:List ByteArray}{l:List PP}{L:List Tok}{a6:List UInt8}{α:Type}{items:List α}{h9:Mach}{m:MdL}{B M b bb i lo nb pc pn so:Nat}{d7 pa:Option Addr}{k:PKind}{r:PRule}{t:PTree}{v:PVar}{c p:PX}{P:Program}{md:Region.Mode}{tab:Tab}{n x y:Tok}{a5:Tok×Ent}{x0 x1 x2 x3 x4:Value}{w w':World}{f g:α->List Tok}
theorem kze:∀{x:PX},kx9 x->bf x=yu x
 |.nil,h=>rfl
 |.node _ _ x a c,h=>by
  have own:qw1 x=ownNames x:=by
   unfold qw1 ownNames kzu;by_cases f:x.op.toList=ng
   ·have d:(x.op.toList==ng)=true:=by simp_all
    simp only[d,Xw];have hi:x.c=zh\/(x.c.t.toList==mX)=true:=by
     obtain⟨h1,_⟩|⟨h1,_⟩|⟨h1,_⟩:=h
     ·obtain(h1|h1|h1)|⟨h1,_⟩|⟨_,_,h1⟩:=h1
      ·simp_all
      ·simp_all
      ·simp_all
      ·simp_all
      omega
     ·simp_all
     ·rw[f]at h1;exact absurd h1 ak
    grind [dh]
   simp_all
  rw[bf,yu,own];obtain⟨_,rfl,rfl⟩|⟨_,b,rfl⟩|⟨_,b,e⟩:=h
  ·rfl
  ·rw[kze b];rfl
  ·rw[kze b,kze e]
theorem kxo:∀{b:PB},kkz b->je b=uo b
 |.nil,_=>rfl
 |.node _ _ a .nil n,⟨⟨h1,x,hx,ho⟩,h2,h3,h4⟩=>by
  rw[je,uo,kxo h4,kwa,h3,kze h2];have e:pwu a.N=yu a.N:=by have w:=kze h1;rw[hx]at w |-;rw[<-w];show kzu x.y x.c=(qw1 x++[])++[];grind [qw1]
  grind [yu]
 |.node _ _ a (.node _ _ _ t e) n,⟨h1,h2,h3,h4,h5,h6⟩=>by rw[je,uo,kxo h4.1,kxo h5.1,kxo h6,kwa,h2,h3,kze h1];rfl
def fS(tab:Tab)(s:PSet):List Tok:=kqd (kk3 tab s.y) s.y
def fM(tab:Tab)(m:Tok):List Tok:=kqd (kk3 tab m) m
def fK(tab:Tab)(k:PKind):List Tok:=kqd (kk3 tab k.y) k.y++k.i.flatMap (fM tab)
def fV(tab:Tab)(v:VrT):List Tok:=kqd (kk3 tab v.y) v.y++(kqd (v.K&&zzd tab v.g) v.g++kqd ((v.si.I==2)&&vv5 tab v.si.y) v.si.y)
def fE(tab:Tab)(l:List PP)(i:Nat)(p:PP):List Tok:=kqd (pxr tab l i p) p.y++kqd (zzd tab p.Q) p.Q
def fU(tab:Tab)(l:List PP)(n:Tok):List Tok:=kqd (pjo tab l n) n
def fN(tab:Tab)(r:PRule):List Tok:=(kqd (kk3 tab r.y) r.y++jf (fE tab r.u) r.u 0)++(bf r.guard).flatMap (fU tab r.u)
def fR(tab:Tab)(r:PRule):List Tok:=fN tab r++(je r.S).flatMap (fU tab r.u)
theorem vkp(tab:Tab)(m:MdL):qxk tab m=kqw (-1) ((((m.j.flatMap (fS tab)++m.p.flatMap (fK tab))++m.z.flatMap (fV tab))++m.l.flatMap (fR tab))++m.q.flatMap (fN tab)):=by
 have c:(-1:Int)<=-1:=aj;have val:∀(l:List PP)(ns:List Tok)(a:Int),-1<=a->ns.foldl (kyd tab l) a=kqw a (ns.flatMap<|fU tab l):=(by grind [kw4,kyd,fU,kkl]);have nev:∀(a:Int)(r:PRule),-1<=a->wN tab a r=kqw a (fN tab r):=λa r b=>by grind [wN,fN,kq0,kkl,kqr,kq7,fE,vxh]
 have f:wt1 tab m=kqw (-1) (m.j.flatMap<|fS tab):=kw4 (λa x _=>by unfold wS fS;exact kkl) _ _ c;have d:wt2 tab m=kqw (-1) (m.j.flatMap (fS tab)++m.p.flatMap (fK tab)):=by grind [wt2,kq0,kw4,wK,fK,kkl,wM,fM,kqr]
 have e:wt3 tab m=kqw (-1) ((m.j.flatMap (fS tab)++m.p.flatMap (fK tab))++m.z.flatMap (fV tab)):=by
  unfold wt3;rw[d];refine Eq.trans ?_ (kq0).symm;exact kw4 (λa x b=>by
   unfold wV xjz fV;rw[kq0,kq0,kkl,kkl,kkl];cases i:(x.si.I==2)
   ·rw[Xy ay];rfl
   simp) _ _ (kqr _ c)
 have h:wt4 tab m=kqw (-1) (((m.j.flatMap (fS tab)++m.p.flatMap (fK tab))++m.z.flatMap (fV tab))++m.l.flatMap (fR tab)):=by
  unfold wt4;rw[e];refine Eq.trans ?_ (kq0).symm;exact kw4 (λa x b=>by unfold fR;rw[kq0,<-nev a x b];have g:=kqr (fN tab x) b;rw[<-nev a x b]at g;exact val _ _ _ g) _ _ (kqr _ c)
 grind [qxk,kq0,kw4,kqr]
def dG(g:List Tok)(i:Nat)(x:Tok):List Tok:=jf (λ_ y=>kqd (y.x.toList==x.x.toList) x) (g.take i) 0
def dP(g:List Tok)(ps:List PP)(k:Nat)(p:PP):List Tok:=jf (λ_ y=>kqd (y.x.toList==p.y.x.toList) p.y) g 0++jf (λ_ q=>kqd (q.y.x.toList==p.y.x.toList) p.y) (ps.take k) 0
def dR(g:List Tok)(_:Nat)(r:PRule):List Tok:=jf (dP g r.u) r.u 0
def uV(t:PTree)(_:Nat)(v:PVar):List Tok:=kqd ((v.g.t.toList==mX)&&decide (zx (ug t) v.g.x.toList<0)) v.g ++
 kqd ((v.k.t.toList==mX)&&decide (zx (ug t) v.k.x.toList<0)&&decide (zx (uy t) v.k.x.toList<0)) v.k
def uP(t:PTree)(_:Nat)(p:PP):List Tok:=kqd (decide (zx (ug t) p.Q.x.toList<0)) p.Q
def uN(t:PTree)(ps:List PP)(_:Nat)(n:Tok):List Tok:=kqd (!qxc t ps n.x.toList) n
def uR(t:PTree)(_:Nat)(r:PRule):List Tok:=jf (uP t) r.u 0++jf (uN t r.u) (yu r.guard++uo r.S) 0
theorem jji(t:PTree):qq0 t=kqw (-1) (jf (dG (jc t)) (jc t) 0++jf (dR (jc t)) (t.l++t.q) 0):=by
 have sm:∀(x:Tok)(l:List Tok)(a:Int),-1<=a->yx (qk1 x) l 0 a=kqw a (jf (λ_ y=>kqd (y.x.toList==x.x.toList) x) l 0):=λx l a b=>kq7 (λa i y _=>by unfold qk1 kqd;cases (y.x.toList==x.x.toList)<;>rfl) _ _ _ b
 have c:∀(x:Tok)(l:List PP)(a:Int),-1<=a->yx (jqx x) l 0 a=kqw a (jf (λ_ q=>kqd (q.y.x.toList==x.x.toList) x) l 0):=λx l a b=>kq7 (λa i q _=>by unfold jqx kqd;cases (q.y.x.toList==x.x.toList)<;>rfl) _ _ _ b
 unfold qq0;grind [kq0,kq7,jvp,dG,jvu,dR,jvg,dP,kqr]
theorem jxt(t:PTree):qxo t=kqw (-1) (jf (uV t) t.z 0++jf (uR t) (t.l++t.q) 0):=by
 have c:(-1:Int)<=-1:=aj;unfold qxo xxk;rw[kq0,kq7 (f:=jxr t) (g:=uV t) (λa i x b=>by unfold jxr uV qjn qjl kqd;rw[kq0];cases (x.g.t.toList==mX&&decide (zx (ug t) x.g.x.toList<0))<;>cases (x.k.t.toList==mX&&decide (zx (ug t) x.k.x.toList<0)&&decide (zx (uy t) x.k.x.toList<0))<;>rfl) _ _ _ c]
 exact kq7 (λa i r b=>by
  unfold jxn uR;rw[kq0,kq7 (f:=zyr t) (g:=uP t) (λa i p _=>by
   unfold zyr uP kqd;by_cases h:zx (ug t) p.Q.x.toList<0
   ·rw[lJ h,lJ kV];rfl
   ·rw[Xy h,Xy kV];rfl) _ _ _ b]
  exact kq7 (λa i n _=>by unfold jxl uN kqd;cases qxc t r.u n.x.toList<;>rfl) _ _ _<|kqr _ b) _ _ _ (kqr _ c)
theorem qzv(h:∀x,(f x).Sublist (g x)):∀l:List α,(l.flatMap f).Sublist (l.flatMap g)
 |[]=>List.Sublist.slnil
 |x::l=>by rw[Jy,Jy];exact(h x).append (qzv h l)
theorem qy6(t:PTree):(jc t).Sublist (kzt t):=by
 unfold jc qj3 qvs qvf kzt;rw[JZ,sZ,sZ];refine(List.Sublist.refl _).append ((List.Sublist.refl _).append ?_);refine(qzv (λv=>?_) _).append ((qzv (λr=>?_) _).append<|qzv (λr=>?_) _)
 ·exact(Zj _).cons_cons _
 ·exact(Zj _).cons_cons _
 ·exact(Zj _).cons_cons _
structure TreeOrd (t:PTree):Prop where
 glob:(jc t).Pairwise (λa b=>a.v<b.v)
 kv:∀x∈t.p.flatMap kx7,∀y∈t.z.flatMap kxi,x.v<y.v
 kr:∀x∈t.p.flatMap kx7,∀r∈t.l++t.q,∀y∈kqp r,x.v<y.v
 vr:∀x∈t.z.flatMap kxi,∀r∈t.l++t.q,∀y∈kqp r,x.v<y.v
theorem vqr(h:(kzt t).Pairwise (λa b=>a.v<b.v)):TreeOrd t:=by have c:=h;unfold kzt at c;rw[QC,QC,QC]at c;obtain⟨_,⟨_,⟨_,_,d⟩,e⟩,_⟩:=c;have mem:∀r∈t.l++t.q,∀y∈kqp r,y∈t.l.flatMap kqp++t.q.flatMap kqp:=(by grind);exact⟨h.sublist<|qy6 t,(by grind),(by grind),(by grind)⟩
theorem qkp{l:List α}:y∈jf (λ_=>g) l 0↔∃x∈l,y∈g x:=by grind [zo,List.getElem_of_mem]
theorem jy6:y∈jf (dG L) L 0↔∃i,∃hi:i<L.length,y=L[i]/\∃j,∃hj:j<i,(L[j]'aj).x.toList=(L[i]).x.toList:=by grind [zo,dG,jk]
theorem jvy(c:TreeOrd t)(hi:i<(jc t).length):kk3 (qm (ql t)) (jc t)[i]=true↔∃j,∃b:j<i,((jc t)[j]'aj).x.toList=((jc t)[i]).x.toList:=by
 have a:i<(kjl<|ql t).length:=by rw[zq5];exact hi
 unfold kk3;rw[kz0];obtain⟨_,h⟩|⟨j,b,h1,g,e⟩:=kz1 (kjl<|ql t) (jc t)[i].x.toList
 ·exact(h _ (wZ a)<|by rw[qkb]).elim
 ·rw[e];simp only;rw[qkb t b]at h1 |-;have d:j<=i:=by grind [qkb]
  constructor
  ·grind
  ·rintro⟨k,l,f⟩;have:j<i:=by grind [qkb]
   have:=sQ.1 c.glob j i aj hi this;grind
theorem qwt(b:a5∈kjl (ql t))(a:(zl (qm (ql t)) a5.1.x.toList).V≠a5.2.V):a5.1∈jf (dG (jc t)) (jc t) 0:=by
 obtain⟨i,hi,rfl⟩:=wG b;rw[kz0]at a;obtain⟨_,h⟩|⟨j,d,h1,c,e⟩:=kz1 (kjl<|ql t) (kjl<|ql t)[i].1.x.toList
 ·grind
 grind [jy6,qkb]
theorem zks(a:k∈t.p):(k.y,(⟨2,0,bE,kv3⟩:Ent))∈kjl (ql t):=by unfold kjl;exact jN<|jT (rM.2 ⟨k,a,rZ ..⟩)
theorem vzq(a:k∈t.p)(b:x∈k.i):(x,(⟨3,0,k.y.x,kv3⟩:Ent))∈kjl (ql t):=by unfold kjl;exact jN<|jT (rM.2 ⟨k,a,jS<|Qx (f:=λx=>(x,(⟨3,0,k.y.x,kv3⟩:Ent))) b⟩)
theorem vqy(hv:v∈t.z):(v.y,(⟨4,0,bE,jw v⟩:Ent))∈kjl (ql t):=by unfold kjl;exact jN<|jN (jT<|rM.2 ⟨jw v,Qx hv,Qq.2 rfl⟩)
theorem qyd(h:zxr v):((jw v).si.I==2)=(v.k.t.toList==mX)/\((v.k.t.toList==mX)=true->(jw v).si.y=v.k):=by
 obtain⟨_,h1|h1|h1⟩:=h
 ·grind [jw]
 ·grind [jw]
 grind [jw]
theorem jw2(h:zxr v):(jw v).K=(v.g.t.toList==mX):=by
 obtain⟨h1|h1,_⟩:=h
 ·grind [jw,dh]
 grind [jw]
theorem qk0(t:PTree)(n:Tok):zzd (qm (ql t)) n=decide (zx (ug t) n.x.toList<0):=by grind [zzd,qz0]
theorem zyy(hv:∀v∈t.z,zxr v)(S:∀r∈t.l,kvw r)(hn:∀r∈t.q,kvw r/\r.S=.nil)(K:TreeOrd t):qxk (qm (ql t)) (ql t)=xu (qq0 t) (qxo t):=by
 rw[jji,jxt,zw9,vkp];have M:((((ql t).j.flatMap (fS<|qm (ql t))++(ql t).p.flatMap (fK<|qm (ql t)))++(ql t).z.flatMap (fV<|qm (ql t)))++(ql t).l.flatMap (fR<|qm (ql t)))++(ql t).q.flatMap (fN<|qm (ql t)) =
   ((t.j.flatMap (fS<|qm (ql t))++t.p.flatMap (fK<|qm (ql t)))++(t.z.map jw).flatMap (fV<|qm (ql t)))++(t.l++t.q).flatMap (fR<|qm (ql t)):=by
  rw[JZ,<-sZ];congr 1
  show t.q.flatMap _=t.q.flatMap _;have:∀l:List PRule,(∀r∈l,r.S=.nil)->l.flatMap (fN<|qm (ql t))=l.flatMap (fR<|qm (ql t)):=by
   intro l;induction l with
   |nil=>simp
   |cons r l ih=>
    grind [fR,je]
  simp_all
 rw[M];have D:∀r∈t.l++t.q,kvw r:=(by grind);have O:∀n∈jc t,kk3 (qm<|ql t) n=true->n∈jf (dG<|jc t) (jc t) 0:=(by grind [List.getElem_of_mem,jvy,jy6]);have a2:∀s∈t.j,s.y∈jc t:=λs P=>by unfold jc qj3 qvs qvf;exact jT<|jT (jT<|rM.2 ⟨s,P,Qq.2 rfl⟩)
 have L:∀k∈t.p,∀x∈kx7 k,x∈jc t:=λk c x b=>by unfold jc qj3 qvs;grind
 have X:∀v∈t.z,v.y∈jc t:=λv hv=>by unfold jc qj3;exact jT<|jN (rM.2 ⟨v,hv,Qq.2 rfl⟩)
 have a1:∀r∈t.l++t.q,r.y∈jc t:=λr S=>by unfold jc;exact jN<|rM.2 ⟨r,S,Qq.2 rfl⟩
 have Y:∀k∈t.p,∀x∈kx7 k,x∈t.p.flatMap kx7:=(by grind);apply vz2
 ·intro x b;simp only[rV,rM]at b;obtain((⟨s,P,b⟩|⟨k,c,b⟩)|⟨v',U,b⟩)|⟨r,u,b⟩:=b
  ·grind [fS,jk]
  ·unfold fK at b;rw[rV,jk,rM]at b;obtain⟨h,rfl⟩|⟨m,p,b⟩:=b
   ·exact⟨_,jT<|jT (O _ (L k c _<|rZ ..) h),jH⟩
   ·unfold fM at b;rw[jk]at b;obtain⟨h,rfl⟩:=b;exact⟨_,jT<|jT (O _ (L k c _<|jS p) h),jH⟩
  ·obtain⟨v,z,rfl⟩:=tY.1 U;have d:=hv v z;unfold fV at b;rw[rV,rV,jk,jk,jk,rG,rG,jw2 d,qk0,(qyd d).1]at b;obtain⟨h,rfl⟩|⟨⟨h1,w⟩,rfl⟩|⟨⟨h1,w⟩,rfl⟩:=b
   ·exact⟨_,jT<|jT (O _ (X v z) h),jH⟩
   ·refine⟨v.g,jN<|jT ?_,jH⟩;rw[zo];obtain⟨i,hi,rfl⟩:=wG z;refine⟨i,hi,?_⟩;unfold uV;rw[rV,jk,rG];exact .inl ⟨⟨h1,w⟩,rfl⟩
   ·rw[(qyd d).2 h1]at w |-;unfold vv5 at w;rw[rG,qk0]at w;by_cases F:zx (uy t) v.k.x.toList<0
    ·refine⟨v.k,jN<|jT ?_,jH⟩;rw[zo];obtain⟨i,hi,rfl⟩:=wG z;refine⟨i,hi,?_⟩;unfold uV;refine jN<|jk.2 ⟨?_,rfl⟩;simp_all
    ·obtain⟨hi,Q⟩:=kwu (by omega:0<=zx (uy t) v.k.x.toList);have E:(zx (uy t) v.k.x.toList).toNat<t.p.length:=by simpa[uy] using hi
     have R:(t.p[(zx (uy t) v.k.x.toList).toNat]).y.x.toList=v.k.x.toList:=by grind [uy]
     have c:=wZ E;refine⟨_,jT<|jT (qwt (zks c) ?_),?_⟩
     ·simp_all
     ·refine Qr (K.kv _ (Y _ c _<|rZ ..) _<|rM.2 ⟨v,z,?_⟩);grind [kxi,kyv]
  ·replace u:r∈t.l++t.q:=rV.2 u
   have d:=D r u;unfold fR fN at b;rw[kze d.1,kxo d.2.1]at b;simp only[rV,jk,zo,rM]at b;have a3:∀n:Tok,(n∈yu r.guard\/n∈uo r.S)->x∈fU (qm<|ql t) r.u n->∃y∈(jf (dG<|jc t) (jc t) 0++jf (dR<|jc t) (t.l++t.q) 0)++(jf (uV t) t.z 0++jf (uR t) (t.l++t.q) 0),y.v<=x.v:=by
    intro n I b;have H:n∈kqp r:=by grind [kqp]
    unfold fU at b;rw[jk]at b;obtain⟨h,rfl⟩:=b;unfold pjo at h;simp only[rG,QD,QG]at h;by_cases G:qxc t r.u x.x.toList=true
    ·unfold qxc at G;simp only[Q8,sD]at G;obtain(h1|h1)|h1:=G
     ·obtain⟨hi,y,a,Q⟩:=zx6 h1;have c:=wZ hi;refine⟨y,jT<|jT (qwt (vzq c a) ?_),Qr<|K.kr _ (Y _ c _<|jS a) r u _ H⟩;simp_all
     ·obtain⟨hi,Q⟩:=kwu h1;have E:(zx (zf t) x.x.toList).toNat<t.z.length:=by simpa[zf] using hi
      have R:(t.z[(zx (zf t) x.x.toList).toNat]).y.x.toList=x.x.toList:=by grind [zf]
      have c:=wZ E;refine⟨_,jT<|jT (qwt (vqy c) ?_),Qr<|K.vr _ (rM.2 ⟨_,c,rZ ..⟩) r u _ H⟩;simp_all
     ·have:=(zza r.u (s:=x.x.toList)).2 h.1.1;omega
    ·refine⟨x,jN<|jN ?_,jH⟩;rw[zo];obtain⟨i,hi,rfl⟩:=wG u;refine⟨i,hi,?_⟩;unfold uR;rw[rV];right
     rw[zo];obtain⟨j,C,rfl⟩:=wG (rV.2 I:x∈yu (t.l++t.q)[i].guard++uo (t.l++t.q)[i].S);grind [uN,jk]
   obtain((⟨h,rfl⟩|⟨k,c,b⟩)|⟨n,I,b⟩)|⟨n,I,b⟩:=b
   ·grind
   ·unfold fE at b;rw[rV,jk,jk,qk0,Jc]at b;obtain⟨h,rfl⟩|⟨h,rfl⟩:=b
    ·refine⟨_,jT<|jN ?_,jH⟩;rw[zo];obtain⟨i,hi,rfl⟩:=wG u;refine⟨i,hi,?_⟩;unfold dR;rw[zo];refine⟨k,c,?_⟩;unfold dP;rw[rV,Jc];unfold pxr at h;rw[Q8]at h;obtain h|h:=h
     ·simp_all [zyz,qkp,jk]
     ·left
      rw[qkp (g:=λy:Tok=>kqd (y.x.toList==_) _)];grind [zky,jk]
    ·refine⟨_,jN<|jN ?_,jH⟩;grind [zo,List.getElem_of_mem,uR,uP,jk]
   ·grind
   grind
 ·intro y a;refine⟨y,?_,jH⟩;simp only[rV]at a;obtain(a|a)|(a|a):=a
  ·rw[jy6]at a;obtain⟨i,hi,rfl,C⟩:=a;have h:=(jvy K hi).2 C;have p:=wZ hi;generalize (jc t)[i]=n at h p;unfold jc qj3 qvs qvf at p;simp only[rV,rM]at p |-;obtain((⟨s,P,p⟩|⟨k,c,p⟩)|⟨v,z,p⟩)|⟨r,T,p⟩:=p
   ·grind [zjy,fS,jk]
   ·grind [kx7,fK,jk,fM]
   ·grind [zwg,jw,List.mem_map_of_mem,fV,jk]
   ·unfold kyz at p;rw[Qq]at p;subst p;refine .inr ⟨r,T,?_⟩;unfold fR fN;exact jT<|jT (jT<|jk.2 ⟨h,rfl⟩)
  ·rw[zo]at a;obtain⟨i,hi,a⟩:=a;unfold dR at a;rw[zo]at a;obtain⟨k,c,a⟩:=a;refine jN<|rM.2 ⟨_,wZ hi,?_⟩;unfold fR fN;simp only[rV];refine .inl<|.inl (.inr ?_);rw[zo];refine⟨k,c,?_⟩;unfold dP at a;unfold fE;rw[rV,jk];rw[rV,Jc,qkp (g:=λy:Tok=>kqd (y.x.toList==_) _),qkp (g:=λq:PP=>kqd (q.y.x.toList==_) _)]at a;grind [jk,pxr,zky,zyz]
  ·rw[zo]at a;obtain⟨i,hi,a⟩:=a;have d:=hv _<|wZ hi;refine jT<|jN (rM.2 ⟨_,Qx<|wZ hi,?_⟩);unfold uV at a;unfold fV;rw[rV,jk,jk]at a;rw[rV,rV,jk,jk,jk,jw2 d,qk0,(qyd d).1];obtain⟨h1,w⟩|⟨h1,w⟩:=a
   ·exact .inr (.inl ⟨h1,w⟩)
   ·rw[rG,rG]at h1;refine .inr (.inr ⟨?_,by rw[(qyd d).2 h1.1.1];exact w⟩);rw[(qyd d).2 h1.1.1,h1.1.1,QZ];unfold vv5;rw[qk0,h1.1.2,Jh];have F:=h1.2;rw[sD,kwg]at F;have:¬(zl (qm<|ql t) t.z[i].k.x.toList).V=2:=by
     intro e;rw[kz0]at e;obtain⟨A,_⟩|⟨j,C,N,Z,A⟩:=kz1 (kjl<|ql t) t.z[i].k.x.toList
     ·rw[A]at e;cases e
     ·rw[A]at e;simp only at e;obtain g|g|g|g|g|g:=kw3 _ (wZ C)
      ·omega
      ·obtain⟨_,k,c,J⟩:=g;exact F k.y.x (Qx (f:=λs:PKind=>s.y.x) c) (by simp_all)
      all_goals omega
    simp_all
  ·rw[zo]at a;obtain⟨i,hi,a⟩:=a;have d:=D _<|wZ hi;refine jN<|rM.2 ⟨_,wZ hi,?_⟩;unfold uR at a;unfold fR fN;rw[kze d.1,kxo d.2.1];simp only[rV,rM];rw[rV,zo,zo]at a;obtain⟨k,c,a⟩|⟨k,c,a⟩:=a
   ·grind [uP,zo,fE,qk0]
   ·unfold uN at a;rw[jk]at a;have p:=wZ c;obtain⟨B,rfl⟩:=a;generalize (yu (t.l++t.q)[i].guard++uo (t.l++t.q)[i].S)[k]=n at B p;have a0:n∈fU (qm<|ql t) (t.l++t.q)[i].u n:=by
     unfold fU;rw[jk];refine⟨?_,rfl⟩;unfold qxc at B;simp only[QD,Qi,decide_eq_false_iff_not]at B;obtain⟨⟨h1,w⟩,h3⟩:=B;unfold pjo;rw[(zza _).1 (show _<_ by omega)];have:¬(zl (qm<|ql t) n.x.toList).V=3/\¬(zl (qm<|ql t) n.x.toList).V=4:=by
      rw[kz0];obtain⟨A,_⟩|⟨j,C,N,Z,A⟩:=kz1 (kjl<|ql t) n.x.toList
      ·rw[A];exact⟨ak,ak⟩
      ·rw[A];simp only;obtain g|g|g|g|g|g:=kw3 _ (wZ C)
       ·omega
       ·omega
       ·obtain⟨_,k,c,J,_⟩:=g;exact(((jjz t.p n.x.toList).1 aj) k c _ J N).elim
       ·obtain⟨_,v,hv,J,_⟩:=g;have W:v∈t.z.map jw:=hv;obtain⟨v0,V,rfl⟩:=tY.1 W;refine(((kwg (zf t) n.x.toList).1 aj) v0.y.x (Qx (f:=λs:PVar=>s.y.x) V) ?_).elim;rw[<-N,J];rfl
       ·omega
       omega
     simp_all
    grind
structure VT where
 b:Int
 y:ByteArray
variable {a a9:VT}
def vtV(x:VT):Value:=.agg #[.int .i64 x.b,.string x.y]
def zqg:VT:=⟨0,⟨#[]⟩⟩
def kjc(f:Int)(c:Bool):VT:=if c then ⟨f,⟨#[]⟩⟩ else zqg
theorem zkt(w:World)(f:Int)(c:Bool):Calls prog 245 #[.int .i64 f,.bool c] w λe w'=>e=.returned (vtV<|kjc f c)/\oq w w':=by
 cases c;all_goals
  go_wp2;exact kx0 results245 underlying362 (qy) ⟨rfl,jZ _⟩
def kwx(x y:VT):Bool:=((x.b==y.b&&x.y.toList==y.y.toList)&&!(x.b==0))&&!(x.b==5)
theorem kxw(w:World){o p:Obj}:oq w ((w.alloc o).alloc p):=(jZ w).trans<|(jZ _).mono ay
theorem vjw(w:World)(x y:VT):Calls prog 247 #[vtV x,vtV y] w λe w'=>e=.returned (.bool<|kwx x y)/\oq w w':=by
 unfold vtV;go_wp2;all_goals
  go_ret;exact⟨um (by simp[kwx,bne, *]),kxw _⟩
def zvq(x y:VT):Bool:=(kwx x y||(x.b==4&&y.b==5))||(x.b==5&&y.b==4)
theorem xzf(w:World)(x y:VT):Calls prog 264 #[vtV x,vtV y] w λe w'=>e=.returned (.bool<|zvq x y)/\oq w w':=by
 have E:=oz (show zvq x y=((kwx x y||(x.b==4&&y.b==5))||(x.b==5&&y.b==4)) from rfl);have f:=vjw ((w.alloc<|.cells #[.int .i64 x.b,.string x.y] 362).alloc<|.cells #[.int .i64 y.b,.string y.y] 362) x y;unfold vtV at *;generalize zvq x y=fin at *;go_in;go_wp21;refine f.mono ?_;rintro e j ⟨rfl,a⟩;have b:=a.block w.heap.size ah;have c:=a.block (w.heap.size+1) ay;have a0:=kj6<|b.trans (zy<|qy);have b0:=kj6 (c.trans (by have:=qy (w:=w.alloc<|.cells #[.int .i64 x.b,.string x.y] 362) (o:=.cells #[.int .i64 y.b,.string y.y] 362);simp only[tV]at this;exact this));have d:=(kxw w (o:=.cells #[.int .i64 x.b,.string x.y] 362) (p:=.cells #[.int .i64 y.b,.string y.y] 362)).trans<|a.mono ah;generalize kwx x y=s at *;clear b c;cases s<;>cases g:(x.b==4)<;>cases h:(x.b==5)<;>cases i:(y.b==5);all_goals
  go_wp2;go_ret;exact⟨um (by rw[ku E];simp[*]),d⟩
def zji(o:Int)(x y:VT):VT:=
 if (o==6||o==7) then kjc 1 (x.b==1&&y.b==1) else if (o==11||o==12) then kjc 2 (x.b==2&&y.b==2) else if o==10 then kjc 1 (x.b==2&&y.b==2) else kjc 1 (zvq x y)
theorem vy7(o:Int)(x y:VT):Calls prog 246 #[.int .i64 o,vtV x,vtV y] w λe w'=>e=.returned (vtV<|zji o x y)/\oq w w':=by
 have E:=oz (show zji o x y=if (o==6||o==7) then kjc 1 (x.b==1&&y.b==1) else if (o==11||o==12) then kjc 2 (x.b==2&&y.b==2) else if o==10 then kjc 1 (x.b==2&&y.b==2) else kjc 1 (zvq x y) from rfl);have j:=oz (show(((w.alloc<|.cells #[.int .i64 x.b,.string x.y] 362).alloc<|.cells #[.int .i64 y.b,.string y.y] 362).alloc<|.cells #[.int .i64 0,.string ⟨#[]⟩] 362).heap[w.heap.size+2]?=some (.cells #[.int .i64 0,.string ⟨#[]⟩] 362 (0,0)) by grind [qy,World.size_alloc])
 have h:=show oq w (((w.alloc<|.cells #[.int .i64 x.b,.string x.y] 362).alloc<|.cells #[.int .i64 y.b,.string y.y] 362).alloc<|.cells #[.int .i64 0,.string ⟨#[]⟩] 362) from(kxw w).trans ((jZ _).mono ah)
 have p:=oz (λf c=>zkt (((w.alloc<|.cells #[.int .i64 x.b,.string x.y] 362).alloc<|.cells #[.int .i64 y.b,.string y.y] 362).alloc<|.cells #[.int .i64 0,.string ⟨#[]⟩] 362) f c);have m:=xzf (((w.alloc<|.cells #[.int .i64 x.b,.string x.y] 362).alloc<|.cells #[.int .i64 y.b,.string y.y] 362).alloc<|.cells #[.int .i64 0,.string ⟨#[]⟩] 362) x y;have A:(((w.alloc<|.cells #[.int .i64 x.b,.string x.y] 362).alloc<|.cells #[.int .i64 y.b,.string y.y] 362).alloc<|.cells #[.int .i64 0,.string ⟨#[]⟩] 362).heap.size=w.heap.size+3:=ay;generalize zji o x y=fin at *;unfold vtV at *;go_in;cases B:(o==6);case' false=>
  cases h7:(o==7);case' false=>
   cases v:(o==11);case' false=>
    cases z:(o==12);case' false=>
     cases u:(o==10);case' false=>
      go_wp21;refine m.mono ?_;rintro e t ⟨rfl,d⟩;have k:=oz<|(d.block (w.heap.size+2) ay).trans j;have i:=h.trans<|d.mono aj;have l:=d.size;simp at l;go_wp21
      refine(zkt t 1<|zvq x y).mono ?_;rintro e s ⟨rfl,a⟩;have b:=(a.block (w.heap.size+2) aj).trans k;have g:=i.trans<|a.mono aj
 all_goals try
  cases C:(x.b==1)<;>cases D:(x.b==2);all_goals go_wp21
  all_goals
   refine(p _ _).mono ?_;rintro e s ⟨rfl,a⟩;have b:=(a.block (w.heap.size+2) ay).trans j;have g:=h.trans<|a.mono aj
 all_goals
  have q:=kj6 b;try unfold vtV
  go_wp2;exact kx0 results246 underlying362 (set2 b) ⟨by grind [ku],(g.setCell (by omega:w.heap.size<=w.heap.size+2) _).setCell (by omega:w.heap.size<=w.heap.size+2) _⟩
def tyV(b:Nat)(ps:Value):Value:=.agg #[.map (some b),ps]
def kqm(tab:Tab)(x:SiT):VT:=if x.I==0 then ⟨1,⟨#[]⟩⟩ else if x.I==1 then ⟨2,⟨#[]⟩⟩ else if (zl tab x.y.x.toList).V==1 then ⟨4,x.y.x⟩ else ⟨3,x.y.x⟩
theorem zvg(ps:Value)(x:SiT)(l:kj5 w b tab)(k:x.y.x.size<=1000)(p:ps.oneCell'=true):Calls prog 263 #[tyV b ps,siV x] w λe w'=>e=.returned (vtV<|kqm tab x)/\oq w w':=by
 have E:=oz (show kqm tab x=if x.I==0 then ⟨1,⟨#[]⟩⟩ else if x.I==1 then ⟨2,⟨#[]⟩⟩ else if (zl tab x.y.x.toList).V==1 then ⟨4,x.y.x⟩ else ⟨3,x.y.x⟩ from rfl);obtain⟨W,c⟩:=cpy<|((w.alloc<|.cells #[.map (some b),ps] 301).alloc<|.cells #[.int .i64 x.I,.int .i64<|mg x.R.x,.int .i64 x.R.v,.string x.y.x,.int .i64 x.y.v] 119).alloc (.cells #[.int .i64 0,.string ⟨#[]⟩] 362);have a:oq w W:=by rw[c];exact(kxw w).trans ((jZ _).mono ah)
 have i:W.heap[w.heap.size]?=some (.cells #[.map (some b),ps] 301 (0,0)):=by grind [zy,qy]
 have j:W.heap[w.heap.size+1]?=some (.cells #[.int .i64 x.I,.int .i64<|mg x.R.x,.int .i64 x.R.v,.string x.y.x,.int .i64 x.y.v] 119 (0,0)):=by rw[c];have:=qy (w:=w.alloc<|.cells #[.map (some b),ps] 301) (o:=.cells #[.int .i64 x.I,.int .i64 (mg x.R.x),.int .i64 x.R.v,.string x.y.x,.int .i64 x.y.v] 119);grind [World.size_alloc,zy]
 have hR:W.heap[w.heap.size+2]?=some (.cells #[.int .i64 0,.string ⟨#[]⟩] 362 (0,0)):=by rw[c];have:=qy (w:=(w.alloc<|.cells #[.map (some b),ps] 301).alloc<|.cells #[.int .i64 x.I,.int .i64 (mg x.R.x),.int .i64 x.R.v,.string x.y.x,.int .i64 x.y.v] 119) (o:=.cells #[.int .i64 0,.string ⟨#[]⟩] 362);simp_all
 have hM:kj5 W b tab:=l.kept a;have m:=kvb hM k;have s:=kw6<|zl tab x.y.x.toList;have t0:=kj6 i;have x0:=jl j;have t:=kj6 hR;obtain⟨d,g⟩:=ju hR c.symm;generalize kqm tab x=fin at *;generalize zl tab x.y.x.toList=q at *;clear hR c i j;unfold tyV siV vtV;go_in
 go_upto_region 1 with fail
 rw[ku g,show w.heap.size+1+1=w.heap.size+2 from rfl];cases f:(x.I==0)
 ·cases h1:(x.I==1)
  ·cases h:(q.V==1)
   ·rw[f,h1,h]at E;go_wp2;refine kx0 results263 underlying362 (set2 d) ?_;exact⟨jJ,(a.setCell (by omega:w.heap.size<=w.heap.size+2) _).setCell (by omega:w.heap.size<=w.heap.size+2) _⟩
   ·rw[f,h1,h]at E;go_wp2;refine kx0 results263 underlying362 (set2 d) ?_;exact⟨jJ,(a.setCell (by omega:w.heap.size<=w.heap.size+2) _).setCell (by omega:w.heap.size<=w.heap.size+2) _⟩
  ·rw[f,h1]at E;go_wp2;refine kx0 results263 underlying362 (set2 d) ?_;exact⟨jJ,(a.setCell (by omega:w.heap.size<=w.heap.size+2) _).setCell (by omega:w.heap.size<=w.heap.size+2) _⟩
 ·rw[f]at E;go_wp2;refine kx0 results263 underlying362 (set2 d) ?_;exact⟨jJ,(a.setCell (by omega:w.heap.size<=w.heap.size+2) _).setCell (by omega:w.heap.size<=w.heap.size+2) _⟩
def zj4(tab:Tab):Prop:=∀s,(zl tab s).var.si.y.x.size<=1000
def kjf(tab:Tab)(l:List PP)(n:Tok):VT:=
 if fpB l n.x.toList then ⟨4,(fpP l n.x.toList).Q.x⟩
 else if (zl tab n.x.toList).V==3 then ⟨3,(zl tab n.x.toList).t⟩
 else if (zl tab n.x.toList).V==4&&!(zl tab n.x.toList).var.K then kqm tab (zl tab n.x.toList).var.si else zqg
theorem jq8(n:Tok)(V:kj5 w b tab)(L:zj4 tab)(G:w.ownsRow lo 352 4 (.slice pa pn pc) l.length (uq l))(Q:l.length<=1000)(U:n.x.size<=1000):Calls prog 261 #[tyV b (.slice pa pn pc),ptV n] w λe w'=>e=.returned (vtV<|kjf tab l n)/\oq w w':=by
 obtain⟨ps,s⟩:=cpy<|Value.slice pa pn pc;rw[<-s]at G |-;have E:=oz (show kjf tab l n=if fpB l n.x.toList then ⟨4,(fpP l n.x.toList).Q.x⟩
  else if (zl tab n.x.toList).V==3 then ⟨3,(zl tab n.x.toList).t⟩
  else if (zl tab n.x.toList).V==4&&!(zl tab n.x.toList).var.K then kqm tab (zl tab n.x.toList).var.si else zqg from rfl)
 obtain⟨W,v⟩:=cpy<|((w.alloc<|.cells #[.map (some b),ps] 301).alloc<|.cells #[.string n.x,.int .i64 n.v] 107).alloc (.cells #[.int .i64 0,.string ⟨#[]⟩] 362);have t:oq w W:=by rw[v];exact(kxw w).trans ((jZ _).mono ah)
 have K:W.heap.size=w.heap.size+3:=by simp_all
 have u:W.heap[w.heap.size]?=some (.cells #[.map (some b),ps] 301 (0,0)):=by grind [zy,qy]
 have x:W.heap[w.heap.size+1]?=some (.cells #[.string n.x,.int .i64 n.v] 107 (0,0)):=by grind [qy,zy]
 have hR:W.heap[w.heap.size+2]?=some (.cells #[.int .i64 0,.string ⟨#[]⟩] 362 (0,0)):=by grind [qy]
 have M:kj5 W b tab:=V.kept t;have z:=kvm n (qj G t) Q;have H:=L n.x.toList;have t0:=kj6 u;have x0:=kj6 x;obtain⟨O,P,N,B⟩:=jb u x hR v.symm;generalize kjf tab l n=fin at *;clear hR v u x;subst s;unfold tyV ptV vtV at *;go_in;go_upto_region 1 with fail
 rw[ku B,show w.heap.size+1+1=w.heap.size+2 from rfl];go_wp21;refine z.mono ?_;rintro e h ⟨rfl,c⟩;have I:=c.size;generalize fpP l n.x.toList=p at *;generalize fpB l n.x.toList=r at *;have a:=oz<|(c.block (w.heap.size+2) aj).trans N;have A:=oz<|(c.block w.heap.size aj).trans O;have m:=(c.block (w.heap.size+1) aj).trans P;have i:=M.kept c;have g:=kvb (i.kept<|jZ h (o:=.cells #[.string p.y.x,.int .i64 p.y.v,.string p.Q.x,.int .i64 p.Q.v] 352)) U;have t0:=kj6 A;have x0:=kj6 m;have X:=kj6 a;have d:=t.trans<|c.mono aj;have R:w.heap.size<h.heap.size:=aj;have S:w.heap.size+1<h.heap.size:=aj;have T:w.heap.size+2<h.heap.size:=aj;clear m I K;unfold paV;cases r
 case true=>
  go_wp2;refine kx0 results261 underlying362 (zy<|set2 a) ?_;exact⟨jJ,(((d.setCell (by omega:w.heap.size<=w.heap.size+2) _).setCell (by omega:w.heap.size<=w.heap.size+2) _).alloc jQ _)⟩
 case false=>
  generalize zl tab n.x.toList=q at *;simp only[qy7,qkr,kjs,QU,Qd]at g;cases C:(q.V==3)
  ·rw[C]at E;cases D:(q.V==4)
   ·rw[D]at E;go_wp2;refine kx0 results261 underlying362 (zy<|zy (set2 a)) ?_;exact⟨jJ,((((d.setCell (by omega:w.heap.size<=w.heap.size+2) _).setCell (by omega:w.heap.size<=w.heap.size+2) _).alloc jQ _).alloc jQ _)⟩
   ·rw[D]at E;cases F:q.var.K
    ·rw[F]at E g;have k:=zvg (w:=(h.alloc<|.cells #[.string p.y.x,.int .i64 p.y.v,.string p.Q.x,.int .i64 p.Q.v] 352).alloc<|.cells #[.int .i64 q.V,.int .i64 q.N,.string q.t,.string q.var.y.x,.int .i64 q.var.y.v,.bool false,.string q.var.g.x,.int .i64 q.var.g.v,.int .i64 q.var.si.I,.int .i64 (mg q.var.si.R.x),.int .i64 q.var.si.R.v,.string q.var.si.y.x,.int .i64 q.var.si.y.v] 294) (.slice pa pn pc) q.var.si ((i.kept<|jZ _).kept<|jZ _) H rfl;unfold tyV siV vtV at k;go_wp21;refine k.mono ?_;rintro e w3 ⟨rfl,f⟩;have J:=f.size;simp at J;have j:=oz ((f.block (w.heap.size+2)<|by simp_all).trans<|zy (zy a));have Y:=kj6 j;have y:=((d.alloc aj _).alloc ah _).trans<|f.mono ah;go_wp2
     refine kx0 results261 underlying362 (set2 j) ?_;exact⟨jJ,(y.setCell (by omega:w.heap.size<=w.heap.size+2) _).setCell (by omega:w.heap.size<=w.heap.size+2) _⟩
    ·rw[F]at E g;go_wp2;refine kx0 results261 underlying362 (zy<|zy (set2 a)) ?_;exact⟨jJ,((((d.setCell (by omega:w.heap.size<=w.heap.size+2) _).setCell (by omega:w.heap.size<=w.heap.size+2) _).alloc jQ _).alloc jQ _)⟩
  ·rw[C]at E;go_wp2;refine kx0 results261 underlying362 (zy<|zy (set2 a)) ?_;exact⟨jJ,((((d.setCell (by omega:w.heap.size<=w.heap.size+2) _).setCell (by omega:w.heap.size<=w.heap.size+2) _).alloc jQ _).alloc jQ _)⟩
def qy5(tab:Tab)(l:List PP)(i s:Tok):Bool:=(kjf tab l i).b==4&&(kjf tab l i).y.toList==s.x.toList
theorem vx8(i s:Tok)(u:kj5 w b tab)(g:zj4 tab)(m:w.ownsRow lo 352 4 (.slice pa pn pc) l.length (uq l))(k:l.length<=1000)(t:i.x.size<=1000):Calls prog 262 #[tyV b (.slice pa pn pc),ptV i,ptV s] w λe w'=>e=.returned (.bool<|qy5 tab l i s)/\oq w w':=by
 have E:=oz (show qy5 tab l i s=((kjf tab l i).b==4&&(kjf tab l i).y.toList==s.x.toList) from rfl);have c:=oz ((kxw w (o:=.cells #[.map (some b),.slice pa pn pc] 301) (p:=.cells #[.string i.x,.int .i64 i.v] 107)).trans<|(jZ _ (o:=.cells #[.string s.x,.int .i64 s.v] 107)).mono ah).drew;have d:=jq8 i (u.kept c) g (qj m c) k t;have f:=oz (show(((w.alloc<|.cells #[.map (some b),.slice pa pn pc] 301).alloc<|.cells #[.string i.x,.int .i64 i.v] 107).alloc<|.cells #[.string s.x,.int .i64 s.v] 107).drew.heap[w.heap.size+2]?=some (.cells #[.string s.x,.int .i64 s.v] 107 (0,0)) by have:=qy (w:=(w.alloc<|.cells #[.map (some b),.slice pa pn pc] 301).alloc<|.cells #[.string i.x,.int .i64 i.v] 107) (o:=.cells #[.string s.x,.int .i64 s.v] 107);simp only[tV]at this;exact this)
 unfold tyV ptV vtV at *;generalize qy5 tab l i s=fin at *;generalize kjf tab l i=q at *;go_wp2;by_cases j:q.b=4
 ·by_cases hn:q.y.toList=s.x.toList
  ·go_region_law ((go_simp;go_at_call 261;refine d.mono ?_;rintro e h ⟨rfl,a⟩;have y0:=kj6<|(a.block (w.heap.size+2) ay).trans f;dsimp only))
   all_goals
    go_wp2;go_ret;exact⟨um oP,c.trans<|a.mono ah⟩
  ·go_region_law ((go_simp;go_at_call 261;refine d.mono ?_;rintro e h ⟨rfl,a⟩;have y0:=kj6<|(a.block (w.heap.size+2) ay).trans f;dsimp only))
   all_goals
    go_wp2;go_ret;exact⟨um oP,c.trans<|a.mono ah⟩
 ·go_region_law ((go_simp;go_at_call 261;refine d.mono ?_;rintro e h ⟨rfl,a⟩;have y0:=kj6<|(a.block (w.heap.size+2) ay).trans f;dsimp only))
  all_goals
   go_wp2;go_ret;exact⟨um (by rw[ku E];simp[j]),c.trans<|a.mono ah⟩
theorem vws(q:Ent)(w:World):(Instr.field 294 (qy7 q) 3).run prog w=.ok (.agg #[.string q.var.y.x,.int .i64 q.var.y.v,.bool q.var.K,.string q.var.g.x,.int .i64 q.var.g.v,.int .i64 q.var.si.I,.int .i64 (mg q.var.si.R.x),.int .i64 q.var.si.R.v,.string q.var.si.y.x,.int .i64 q.var.si.y.v]) w:=au
def kxj(tab:Tab)(l:List PP)(n i:Tok):VT:=
 if (!(i.t.toList==[])) then (if (zl tab n.x.toList).var.K then (if qy5 tab l i (zl tab n.x.toList).var.g then kqm tab (zl tab n.x.toList).var.si else zqg) else zqg) else kjf tab l n
theorem jq0(n i:Tok)(ht:kj5 w b tab)(m:zj4 tab)(R:w.ownsRow lo 352 4 (.slice pa pn pc) l.length (uq l))(P:l.length<=1000)(H:∀y∈kzu n i,y.x.size<=1000):Calls prog 244 #[tyV b (.slice pa pn pc),pl5 n i] w λe w'=>e=.returned (vtV<|kxj tab l n i)/\oq w w':=by
 obtain⟨ps,x⟩:=cpy<|Value.slice pa pn pc;have z:n.x.size<=1000:=H n (by unfold kzu;grind);have k:(!(i.t.toList==[]))=true->i.x.size<=1000:=λe=>H i (by grind [kzu])
 have E:=oz (show kxj tab l n i=if (!(i.t.toList==[])) then (if (zl tab n.x.toList).var.K then (if qy5 tab l i (zl tab n.x.toList).var.g then kqm tab (zl tab n.x.toList).var.si else zqg) else zqg) else kjf tab l n from rfl);have S:=m n.x.toList;generalize kxj tab l n i=fin at *;unfold pl5;generalize (!(i.t.toList==[]))=d at *;rw[<-x]at R |-;obtain⟨W,D⟩:=cpy<|((w.alloc<|.cells #[.map (some b),ps] 301).alloc<|.cells #[.string n.x,.int .i64 n.v,.bool d,.string i.x,.int .i64 i.v] 332).alloc (.cells #[.int .i64 0,.string ⟨#[]⟩] 362);have h:oq w W:=by rw[D];exact(kxw w).trans ((jZ _).mono ah)
 have U:W.heap.size=w.heap.size+3:=by simp_all
 have C:W.heap[w.heap.size]?=some (.cells #[.map (some b),ps] 301 (0,0)):=by grind [zy,qy]
 have F:W.heap[w.heap.size+1]?=some (.cells #[.string n.x,.int .i64 n.v,.bool d,.string i.x,.int .i64 i.v] 332 (0,0)):=by grind [qy,zy]
 have hR:W.heap[w.heap.size+2]?=some (.cells #[.int .i64 0,.string ⟨#[]⟩] 362 (0,0)):=by grind [qy]
 have p:kj5 W b tab:=ht.kept h;have K:=qj R h;have Q:=kvb p z;have G:=vws<|zl tab n.x.toList;subst x;have L:=jq8 n p m K P z;have t0:=kj6 C;have x0:=jl F;have r0:=kj6 hR;obtain⟨V,HX,B,M⟩:=jb C F hR D.symm;have X:w.heap.size<W.heap.size:=aj;have Y:w.heap.size+1<W.heap.size:=aj;have Z:w.heap.size+2<W.heap.size:=aj;clear hR D C F H U;unfold tyV ptV vtV at *;go_in
 go_upto_region 1 with fail
 rw[ku M,show w.heap.size+1+1=w.heap.size+2 from rfl];cases d
 case false=>
  clear k Q G;go_wp21;refine L.mono ?_;rintro e w1 ⟨rfl,a⟩;have f:=oz<|(a.block (w.heap.size+2) aj).trans B;have s0:=kj6 f;have g:=h.trans<|a.mono aj;go_wp2
  refine kx0 results244 underlying362 (set2 f) ?_;exact⟨jJ,(g.setCell (by omega:w.heap.size<=w.heap.size+2) _).setCell (by omega:w.heap.size<=w.heap.size+2) _⟩
 case true=>
 have I:=k rfl;have j:=vx8 (w:=W.alloc<|.cells #[.string (zl tab n.x.toList).var.y.x,.int .i64 (zl tab n.x.toList).var.y.v,.bool (zl tab n.x.toList).var.K,.string (zl tab n.x.toList).var.g.x,.int .i64 (zl tab n.x.toList).var.g.v,.int .i64 (zl tab n.x.toList).var.si.I,.int .i64<|mg (zl tab n.x.toList).var.si.R.x,.int .i64 (zl tab n.x.toList).var.si.R.v,.string (zl tab n.x.toList).var.si.y.x,.int .i64 (zl tab n.x.toList).var.si.y.v] 121) i (zl tab n.x.toList).var.g (p.kept<|jZ _) m (K.alloc _) P I;unfold tyV ptV at j;generalize zl tab n.x.toList=q at *;clear k;cases O:q.var.K
 ·rw[O]at E G;go_wp2;refine kx0 results244 underlying362 (zy<|set2 B) ?_;exact⟨jJ,(((h.setCell (by omega:w.heap.size<=w.heap.size+2) _).setCell (by omega:w.heap.size<=w.heap.size+2) _).alloc jQ _)⟩
 ·rw[O]at E G j;go_wp21;refine j.mono ?_;rintro e w1 ⟨rfl,a⟩;generalize qy5 tab l i q.var.g=c at *;have T:=a.size;simp at T;have A:=(a.block W.heap.size ay).trans<|qy;have u:=(a.block w.heap.size ah).trans<|zy V;have f:=oz<|(a.block (w.heap.size+2) ah).trans (zy B);have N:=(p.kept<|jZ _).kept a;have g5:=kju A;have t0:=kj6 u;have s0:=kj6 f;have g:=(h.alloc aj _).trans<|a.mono ah;have t:=zvg (.slice pa pn pc) q.var.si N S rfl;unfold tyV siV vtV at t;clear A u;cases c
  ·go_wp2;refine kx0 results244 underlying362 (set2 f) ?_;exact⟨jJ,(g.setCell (by omega:w.heap.size<=w.heap.size+2) _).setCell (by omega:w.heap.size<=w.heap.size+2) _⟩
  ·go_wp21;refine t.mono ?_;rintro e w3 ⟨rfl,v⟩;have s:=oz<|(v.block (w.heap.size+2) aj).trans f;have u0:=kj6 s;have J:=g.trans<|v.mono aj;go_wp2
   refine kx0 results244 underlying362 (set2 s) ?_;exact⟨jJ,(J.setCell (by omega:w.heap.size<=w.heap.size+2) _).setCell (by omega:w.heap.size<=w.heap.size+2) _⟩
structure NamesFine (t:PTree):Prop where
 uniq:∀i j,j<i->∀hi:i<(jc t).length,∀hj:j<(jc t).length,((jc t)[j]).x.toList≠((jc t)[i]).x.toList
 pars:∀r∈t.l++t.q,∀p∈r.u,∀x∈jc t,x.x.toList≠p.y.x.toList
 psets:∀r∈t.l++t.q,∀p∈r.u,¬zx (ug t) p.Q.x.toList<0
 g:∀v∈t.z,(v.g.t.toList==mX)=true->¬zx (ug t) v.g.x.toList<0
 k:∀v∈t.z,(v.k.t.toList==mX)=true->zx (ug t) v.k.x.toList<0->¬zx (uy t) v.k.x.toList<0
theorem jj9(h:xu (qq0 t) (qxo t)<0):NamesFine t:=by
 rw[jji,jxt,zw9]at h;have e:=jj7 h;have no:∀y,y∉(jf (dG<|jc t) (jc t) 0++jf (dR<|jc t) (t.l++t.q) 0)++(jf (uV t) t.z 0++jf (uR t) (t.l++t.q) 0):=(by simp_all);refine⟨?_,?_,?_,?_,?_⟩
 ·intro i j f hi q e;exact no _<|jT (jT<|jy6.2 ⟨i,hi,rfl,j,f,e⟩)
 ·intro r d p c x m e;obtain⟨i,hi,rfl⟩:=wG d;obtain⟨k,a,rfl⟩:=wG c;refine no (t.l++t.q)[i].u[k].y (jT<|jN ((zo _ _).2 ⟨i,hi,?_⟩));unfold dR;refine(zo _ _).2 ⟨k,a,?_⟩;unfold dP;refine jT ((qkp (g:=λy:Tok=>kqd (y.x.toList==_) _)).2 ⟨x,m,?_⟩);grind [jk]
 ·intro r d p c b;obtain⟨i,hi,rfl⟩:=wG d;obtain⟨k,a,rfl⟩:=wG c;refine no (t.l++t.q)[i].u[k].Q (jN<|jN ((zo _ _).2 ⟨i,hi,?_⟩));grind [uR,zo,uP,jk]
 ·intro v hv a b;obtain⟨i,hi,rfl⟩:=wG hv;refine no t.z[i].g (jN<|jT ((zo _ _).2 ⟨i,hi,?_⟩));grind [uV,jk]
 ·intro v hv a b l;obtain⟨i,hi,rfl⟩:=wG hv;refine no t.z[i].k (jN<|jT ((zo _ _).2 ⟨i,hi,?_⟩));unfold uV;refine jN<|jk.2 ⟨?_,rfl⟩;simp_all
theorem zy9(h:NamesFine t)(b:a5∈kjl (ql t)):zl (qm (ql t)) a5.1.x.toList={a5.2 with N:=a5.1.v}:=by
 rw[kz0];obtain⟨i,hi,rfl⟩:=wG b;obtain⟨_,hn⟩|⟨j,a,h1,f,e⟩:=kz1 (kjl<|ql t) (kjl<|ql t)[i].1.x.toList
 ·grind
 ·have c:j<=i:=by grind
  by_cases d:j=i
  ·simp_all
  ·have:=h.uniq i j aj (by rw[<-zq5];exact hi) (by rw[<-zq5];exact a);grind [qkb]
theorem jjy(h:NamesFine t)(s:List UInt8):((zl (qm (ql t)) s).V=3↔0<=(kjj t.p s).1)/\(0<=(kjj t.p s).1->(zl (qm (ql t)) s).t=(t.p.getD (kjj t.p s).1.toNat ⟨zh,[]⟩).y.x):=by
 have back:0<=(kjj t.p s).1->(zl (qm<|ql t) s).V=3/\(zl (qm<|ql t) s).t=(t.p.getD (kjj t.p s).1.toNat ⟨zh,[]⟩).y.x:=by intro a;obtain⟨hi,y,l,q⟩:=zx6 a;have:=zy9 h<|vzq (wZ hi) l;simp_all
 refine⟨⟨?_,λa=>(back a).1⟩,λa=>(back a).2⟩;intro b;rw[kz0]at b;obtain⟨e,_⟩|⟨j,f,d,m,e⟩:=kz1 (kjl<|ql t) s
 ·rw[e]at b;cases b
 ·rw[e]at b;simp only at b;obtain g|g|g|g|g|g:=kw3 _ (wZ f)
  ·omega
  ·omega
  ·obtain⟨_,k,i,c,_⟩:=g;have:=(jjz t.p s);apply Qp;intro p;exact this.1 aj k i _ c d
  ·omega
  ·omega
  omega
theorem qwo(h:NamesFine t)(s:List UInt8):((zl (qm (ql t)) s).V=4↔0<=zx (zf t) s)/\(0<=zx (zf t) s->∃hi:(zx (zf t) s).toNat<t.z.length,(zl (qm (ql t)) s).var=jw t.z[(zx (zf t) s).toNat]):=by
 have back:0<=zx (zf t) s->(zl (qm<|ql t) s).V=4/\∃hi:(zx (zf t) s).toNat<t.z.length,(zl (qm<|ql t) s).var=jw t.z[(zx (zf t) s).toNat]:=by
  intro a;obtain⟨hi,x⟩:=kwu a;have c:(zx (zf t) s).toNat<t.z.length:=by simpa[zf] using hi
  have q:(t.z[(zx (zf t) s).toNat]).y.x.toList=s:=by grind [zf]
  have:=zy9 h<|vqy (wZ c);simp_all
 refine⟨⟨?_,λa=>(back a).1⟩,λa=>(back a).2⟩;intro b;rw[kz0]at b;obtain⟨e,_⟩|⟨j,m,l,u,e⟩:=kz1 (kjl<|ql t) s
 ·rw[e]at b;cases b
 ·rw[e]at b;simp only at b;obtain g|g|g|g|g|g:=kw3 _ (wZ m)
  ·omega
  ·omega
  ·omega
  ·obtain⟨_,v,hv,k,_⟩:=g;have i:v∈t.z.map jw:=hv;obtain⟨p,d,rfl⟩:=tY.1 i;apply Qp;intro w;exact(kwg (zf t) s).1 aj p.y.x (Qx (f:=λs:PVar=>s.y.x) d) (by rw[<-l,k];rfl)
  ·omega
  omega
theorem jjw(t:PTree)(s:List UInt8)(h:¬(zl (qm (ql t)) s).V=4):(zl (qm (ql t)) s).var.K=false:=by
 have all:∀x∈kjl (ql t),¬x.2.V=4->x.2.var.K=false:=by
  intro x a g;unfold kjl at a;simp only[rV,rM]at a;obtain⟨q,b,a⟩|⟨q,b,a⟩|⟨q,b,a⟩|⟨q,b,a⟩|⟨q,b,a⟩:=a
  ·unfold vwa at a;rw[Qq]at a;subst a;rfl
  ·unfold vxm at a;rw[tZ,tY]at a;obtain rfl|⟨y,i,rfl⟩:=a<;>rfl
  ·grind [vxd]
  ·unfold vxc at a;rw[Qq]at a;subst a;rfl
  ·unfold vxb at a;rw[Qq]at a;subst a;rfl
 rw[kz0]at h |-;obtain⟨e,_⟩|⟨j,f,c,d,e⟩:=kz1 (kjl<|ql t) s
 ·rw[e];rfl
 grind
theorem jv3(h:NamesFine t)(c:¬zx (uy t) a6<0):(zl (qm (ql t)) a6).V=2:=by
 obtain⟨hi,d⟩:=kwu (by omega:0<=zx (uy t) a6);have a:(zx (uy t) a6).toNat<t.p.length:=by simpa[uy] using hi
 have b:(t.p[(zx (uy t) a6).toNat]).y.x.toList=a6:=by grind [uy]
 have:=zy9 h<|zks (wZ a);simp_all
def kk0(v:VT):ByteArray:=if v.b==1 then kvj else if v.b==2 then kwn else if v.b==3 then qje++v.y else if v.b==4 then qqg++v.y else if v.b==5 then vjy else kjx
def zqd(v:VT):Prop:=((v.b=0\/v.b=1\/v.b=2\/v.b=5)/\v.y=⟨#[]⟩)\/((v.b=3\/v.b=4)/\0<v.y.size)
theorem jzu(a b:ByteArray):(a++b).toList=a.toList++b.toList:=by grind [yj,ByteArray.data_append]
theorem xv7:kvj.toList=nY:=jh _
theorem xzg:kwn.toList=nC:=jh _
theorem xwb:vjy.toList=mG:=jh _
theorem xv8:kjx.toList=[]:=jh _
theorem xwm(n:ByteArray):(qje++n).toList=[107,105,110,100,32]++n.toList:=by rw[jzu];rw[show qje.toList=[107,105,110,100,32] from jh _]
theorem xy9(n:ByteArray):(qqg++n).toList=[115,101,116,32]++n.toList:=by rw[jzu];rw[show qqg.toList=[115,101,116,32] from jh _]
def vtL(v:VT):List UInt8:=if v.b==1 then nY else if v.b==2 then nC else if v.b==3 then [107,105,110,100,32]++v.y.toList else if v.b==4 then [115,101,116,32]++v.y.toList else if v.b==5 then mG else []
theorem kxx(v:VT):(kk0 v).toList=vtL v:=by grind [kk0,vtL,xv7,xzg,xwm,xy9,xwb,xv8]
theorem pkp(c:zqd a)(hb:zqd a9):(vtL a==vtL a9)=(a.b==a9.b&&a.y.toList==a9.y.toList):=by obtain⟨d,f⟩:=a;obtain⟨fb,nb⟩:=a9;have b:(ByteArray.mk #[]).toList=[]:=jh _;obtain⟨rfl|rfl|rfl|rfl,rfl⟩|⟨rfl|rfl,h1⟩:=c<;>obtain⟨rfl|rfl|rfl|rfl,rfl⟩|⟨rfl|rfl,e⟩:=hb<;>simp[vtL,b]
theorem zki(h:zqd a):kx3 (kk0 a)=(a.b==4):=by
 obtain⟨f,n⟩:=a;have ex:∀s:ByteArray,(s.extract 0 4).toList=s.toList.take 4:=(by grind [yj,ByteArray.data_extract,Array.toList_extract]);unfold kx3;rw[ex,kxx];have sz:(kk0 ⟨f,n⟩).size=(vtL ⟨f,n⟩).length:=by rw[<-kxx,yj];simp
 rw[sz];obtain⟨rfl|rfl|rfl|rfl,rfl⟩|⟨rfl|rfl,h1⟩:=h
 ·rfl
 ·rfl
 ·rfl
 ·rfl
 ·simp[vtL]
 simp_all [yj,vtL]
theorem zq9(b:zqd a)(hb:zqd a9):zj3 (kk0 a) (kk0 a9)=kwx a a9:=by
 unfold zj3 kwx;rw[kxx,kxx,pkp b hb];congr 1
 ·congr 1
  obtain⟨c,d⟩:=a;obtain⟨rfl|rfl|rfl|rfl,rfl⟩|⟨rfl|rfl,h1⟩:=b<;>simp[vtL]
 grind [vtL]
theorem qyc(b:zqd a):((kk0 a).toList==nY)=(a.b==1):=by grind [kxx,vtL]
theorem vkm(b:zqd a):((kk0 a).toList==nC)=(a.b==2):=by grind [kxx,vtL]
theorem vqd(b:zqd a):((kk0 a).toList==mG)=(a.b==5):=by grind [kxx,vtL]
theorem pja(b:zqd a):(kk0 a).toList.isEmpty=(a.b==0):=by rw[kxx];obtain⟨c,d⟩:=a;obtain⟨rfl|rfl|rfl|rfl,rfl⟩|⟨rfl|rfl,h1⟩:=b<;>simp[vtL]
theorem zyd(f:Int)(a:f=1\/f=2)(c:Bool):zqd (kjc f c):=by
 unfold kjc;cases c
 ·exact .inl ⟨.inl rfl,rfl⟩
 ·obtain rfl|rfl:=a
  ·exact .inl ⟨.inr<|.inl rfl,rfl⟩
  ·exact .inl ⟨.inr<|.inr (.inl rfl),rfl⟩
theorem zyn(c:Bool):kk0 (kjc 1 c)=if c then kvj else kjx:=by cases c<;>rfl
theorem vkh(c:Bool):kk0 (kjc 2 c)=if c then kwn else kjx:=by cases c<;>rfl
structure TreeTxt (t:PTree):Prop where
 p:∀k∈t.p,0<k.y.x.size
 z:∀v∈t.z,zxr v/\((v.k.t.toList==mX)=true->0<v.k.x.size)/\((v.g.t.toList==mX)=true->0<v.g.x.size)
theorem jq9(h:NamesFine t)(q:TreeTxt t)(hv:v∈t.z):kj2 t v=kk0 (kqm (qm (ql t)) (jw v).si)/\zqd (kqm (qm (ql t)) (jw v).si):=by
 obtain⟨⟨_,p⟩,k,_⟩:=q.z v hv;obtain h1|h1|h1:=p
 ·obtain⟨a,b,c⟩:=h1;unfold kj2 jw kqm;simp only;rw[a,b];exact⟨rfl,.inl ⟨.inr<|.inl rfl,rfl⟩⟩
 ·obtain⟨a,b,c,d⟩:=h1;unfold kj2 jw kqm;simp only;rw[a,b];exact⟨rfl,.inl ⟨.inr<|.inr (.inl rfl),rfl⟩⟩
 ·obtain⟨a,c⟩:=h1;have j:(v.k.t.toList==mX)=true:=by simp_all
  have g:=k j;have e:(jw v).si=⟨2,zh,v.k⟩:=by unfold jw;simp_all
  rw[e];have l:kj2 t v=if 0<=zx (uy t) v.k.x.toList then qje++v.k.x else qqg++v.k.x:=by unfold kj2;simp_all
  have m:kqm (qm<|ql t) ⟨2,zh,v.k⟩=if (zl (qm<|ql t) v.k.x.toList).V==1 then ⟨4,v.k.x⟩ else ⟨3,v.k.x⟩:=rfl
  rw[l,m];by_cases f:zx (uy t) v.k.x.toList<0
  ·have i:¬zx (ug t) v.k.x.toList<0:=λi=>h.k v hv j i f
   rw[Xy aj,(qz0 t).2 i];exact⟨rfl,.inr ⟨.inr rfl,g⟩⟩
  ·rw[lJ aj,jv3 h f];exact⟨rfl,.inr ⟨.inl rfl,g⟩⟩
theorem pj5:∀(l:List PP)(s:List UInt8),0<=zx (pq l) s->l.getD (zx (pq l) s).toNat ⟨zh,zh⟩=fpP l s
 |[],s,h=>by simp[pq,zx]at h
 |p::l,s,h=>by
  have e:zx (pq (p::l)) s=if p.y.x.toList==s then 0 else if zx (pq l) s<0 then -1 else zx (pq l) s+1:=rfl
  rw[e]at h |-;rw[fpP];by_cases a:(p.y.x.toList==s)=true
  ·simp_all
  ·rw[Xy a]at h |-;rw[Xy a];by_cases c:zx (pq l) s<0
   ·omega
   ·rw[Xy c];have b:(zx (pq l) s+1).toNat=(zx (pq l) s).toNat+1:=aj;rw[b,List.getD_cons_succ];exact pj5 l s aj
theorem pj6:∀(l:List PP)(s:List UInt8),fpB l s=true->fpP l s∈l
 |[],s,h=>ig
 |p::l,s,h=>by
  rw[fpP];by_cases a:(p.y.x.toList==s)=true
  ·simp_all
  ·rw[Xy a];refine jS<|pj6 l s ?_;grind [fpB]
theorem jzg(h:NamesFine t)(i:TreeTxt t)(m:∀p∈l,0<p.Q.x.size)(n:Tok):kxb t l n.x.toList=kk0 (kjf (qm (ql t)) l n)/\zqd (kjf (qm (ql t)) l n):=by
 have a:kxb t l n.x.toList=if 0<=zx (pq l) n.x.toList then qqg++(l.getD (zx (pq l) n.x.toList).toNat ⟨zh,zh⟩).Q.x
  else if 0<=(kjj t.p n.x.toList).1 then qje++(t.p.getD (kjj t.p n.x.toList).1.toNat ⟨zh,[]⟩).y.x
  else if 0<=zx (zf t) n.x.toList then
   (if (t.z.getD (zx (zf t) n.x.toList).toNat ⟨zh,zh,zh,zh⟩).g.t.toList==mX then kjx else kj2 t (t.z.getD (zx (zf t) n.x.toList).toNat ⟨zh,zh,zh,zh⟩))
  else kjx:=rfl
 have es:kjf (qm<|ql t) l n=if fpB l n.x.toList then ⟨4,(fpP l n.x.toList).Q.x⟩
  else if (zl (qm<|ql t) n.x.toList).V==3 then ⟨3,(zl (qm<|ql t) n.x.toList).t⟩
  else if (zl (qm<|ql t) n.x.toList).V==4&&!(zl (qm<|ql t) n.x.toList).var.K then kqm (qm<|ql t) (zl (qm<|ql t) n.x.toList).var.si else zqg:=rfl
 by_cases d:fpB l n.x.toList=true
 ·have c:0<=zx (pq l) n.x.toList:=by grind [zza]
  rw[lJ c,pj5 l _ c]at a;rw[lJ d]at es;rw[a,es];exact⟨rfl,.inr ⟨.inr rfl,m _<|pj6 l _ d⟩⟩
 ·have c:¬0<=zx (pq l) n.x.toList:=by simp_all [zza]
  rw[Xy c]at a;rw[Xy d]at es;obtain⟨j,q⟩:=jjy h n.x.toList;by_cases b:0<=(kjj t.p n.x.toList).1
  ·rw[lJ b]at a;rw[lJ (by rw[su];exact j.2 b),q b]at es;rw[a,es];obtain⟨hi,_⟩:=zx6 b;refine⟨rfl,.inr ⟨.inl rfl,?_⟩⟩;simp only;rw[getD_at hi];exact i.p _<|wZ hi
  ·rw[Xy b]at a;rw[Xy (by rw[su];exact λe=>b<|j.1 e)]at es;obtain⟨k,s⟩:=qwo h n.x.toList;by_cases hv:0<=zx (zf t) n.x.toList
   ·obtain⟨hi,e⟩:=s hv;have g:=(i.z _<|wZ hi).1;rw[lJ hv,getD_at hi]at a;rw[k.2 hv,e,jw2 g]at es;cases f:(t.z[(zx (zf t) n.x.toList).toNat].g.t.toList==mX)
    ·grind [jq9]
    ·rw[f,lJ rfl]at a;rw[f,Xy ak]at es;rw[a,es];exact⟨rfl,.inl ⟨.inl rfl,rfl⟩⟩
   ·rw[Xy hv]at a;rw[Xy (by rw[rG,su];exact λe=>hv<|k.1 e.1)]at es;rw[a,es];exact⟨rfl,.inl ⟨.inl rfl,rfl⟩⟩
theorem vvt(h:NamesFine t)(c:TreeTxt t)(j:∀p∈l,0<p.Q.x.size)(hi:d6.c=zh\/(d6.c.t.toList==mX)=true):kw2 t l d6=kk0 (kxj (qm<|ql t) l d6.y d6.c)/\zqd (kxj (qm<|ql t) l d6.y d6.c):=by
 unfold kw2 kxj;obtain hi|hi:=hi
 ·grind [dh,jzg]
 ·have d:(!(d6.c.t.toList==[]))=true:=by simp_all
  rw[lJ hi,lJ d];obtain⟨u,q⟩:=qwo h d6.y.x.toList;by_cases hv:zx (zf t) d6.y.x.toList<0
  ·rw[lJ hv,Xy]
   ·exact⟨rfl,.inl ⟨.inl rfl,rfl⟩⟩
   grind [jjw]
  ·rw[Xy hv];obtain⟨b,e⟩:=q aj;obtain⟨f,s,g⟩:=c.z _<|wZ b;rw[e,getD_at b,jw2 f];cases k:(t.z[(zx (zf t) d6.y.x.toList).toNat].g.t.toList==mX)
   ·exact⟨rfl,.inl ⟨.inl rfl,rfl⟩⟩
   ·rw[Xy ay,lJ rfl];obtain⟨a1,a2⟩:=jzg h c j d6.c;have a:(jw t.z[(zx (zf t) d6.y.x.toList).toNat]).g=t.z[(zx (zf t) d6.y.x.toList).toNat].g:=rfl;have m:((kxb t l d6.c.x.toList).toList==(qqg++t.z[(zx (zf t) d6.y.x.toList).toNat].g.x).toList)=qy5 (qm<|ql t) l d6.c t.z[(zx (zf t) d6.y.x.toList).toNat].g:=by rw[a1];have i:qqg++t.z[(zx (zf t) d6.y.x.toList).toNat].g.x=kk0 ⟨4,t.z[(zx (zf t) d6.y.x.toList).toNat].g.x⟩:=rfl;rw[i,kxx,kxx,pkp a2 (.inr ⟨.inr rfl,g k⟩)];rfl
    rw[m,a];cases qy5 (qm<|ql t) l d6.c t.z[(zx (zf t) d6.y.x.toList).toNat].g
    ·exact⟨rfl,.inl ⟨.inl rfl,rfl⟩⟩
    ·exact jq9 h c (wZ b)
def qj4:PX->Prop
 |.nil=>True
 |.node _ _ x a c=>((5<=opN x.op.toList->isNil a=false)/\(6<=opN x.op.toList->isNil c=false))/\qj4 a/\qj4 c
def gy(tab:Tab)(l:List PP):PX->VT
 |.nil=>zqg
 |.node _ _ x a c=>
  if (opN x.op.toList==0||opN x.op.toList==1) then ⟨1,⟨#[]⟩⟩ else if opN x.op.toList==3 then ⟨2,⟨#[]⟩⟩ else if opN x.op.toList==2 then ⟨5,⟨#[]⟩⟩
  else if opN x.op.toList==4 then kxj tab l x.y x.c else if opN x.op.toList==5 then kjc 1 ((gy tab l a).b==1) else zji (opN x.op.toList) (gy tab l a) (gy tab l c)
def jwd(tab:Tab)(l:List PP)(p v:PX):Bool:=((zl tab (qj9 p).toList).V==4)&&(kwx (gy tab l p) (gy tab l v)||((gy tab l p).b==4&&(gy tab l v).b==5))
def kkj(tab:Tab)(l:List PP):PB->Bool
 |.nil=>true
 |.node _ _ a .nil n=>jwd tab l a.N a.value&&kkj tab l n
 |.node _ _ a (.node _ _ _ t e) n=>(((gy tab l a.A).b==1&&kkj tab l t)&&kkj tab l e)&&kkj tab l n
def qzh:PB->Prop
 |.nil=>True
 |.node _ _ a .nil n=>(qj4 a.value/\isNil a.value=false/\∃x,a.N=.node 0 0 x .nil .nil/\x.op.toList=ng)/\qzh n
 |.node _ _ a (.node _ _ _ t e) n=>(qj4 a.A/\isNil a.A=false)/\qzh t/\qzh e/\qzh n
def zql(tab:Tab)(r:PRule):Bool:=(gy tab r.u r.guard).b==1&&kkj tab r.u r.S
def vw6(tab:Tab)(r:PRule):Bool:=(gy tab r.u r.guard).b==1
def qqf(tab:Tab)(m:MdL):Bool:=m.l.all (zql tab)&&m.q.all (vw6 tab)
theorem qjz(h:a6∈qyq):a6=[124]\/a6=[38]\/a6=[61,61]\/a6=[33,61]\/a6=[60]\/a6=[43]\/a6=[45]:=by unfold qyq at h;simp_all
theorem kx9.xv:∀{x:PX},kx9 x->qj4 x
 |.nil,h=>trivial
 |.node _ _ x a c,h=>by
  obtain⟨h1,rfl,rfl⟩|⟨h1,d,rfl⟩|⟨h1,d,e⟩:=h
  ·refine⟨⟨λb=>?_,λb=>?_⟩,trivial,trivial⟩<;>(exfalso;obtain(h1|h1|h1)|⟨h1,_⟩|⟨h1,_⟩:=h1<;>rw[h1]at b<;>revert b<;>decide)
  ·refine⟨⟨λ_=>d.some,λb=>?_⟩,d.xv,trivial⟩;exfalso;rw[h1]at b;revert b;decide
  ·exact⟨⟨λ_=>d.some,λ_=>e.some⟩,d.xv,e.xv⟩
theorem kvi(h:NamesFine t)(q:TreeTxt t)(m:∀p∈l,0<p.Q.x.size):∀{x:PX},kx9 x->kq5 t l x=kk0 (gy (qm (ql t)) l x)/\zqd (gy (qm (ql t)) l x)
 |.nil,hw=>hw.elim
 |.node i j x a c,hw=>by
  obtain⟨h1,rfl,rfl⟩|⟨h1,w,rfl⟩|⟨h1,w,E⟩:=hw
  ·rw[kyc,gy];obtain(h1|h1|h1)|⟨h1,_⟩|⟨h1,P,J⟩:=h1
   ·rw[h1];exact⟨rfl,.inl ⟨.inr<|.inl rfl,rfl⟩⟩
   ·rw[h1];exact⟨rfl,.inl ⟨.inr<|.inl rfl,rfl⟩⟩
   ·rw[h1];exact⟨rfl,.inl ⟨.inr<|.inr (.inr rfl),rfl⟩⟩
   ·rw[h1];exact⟨rfl,.inl ⟨.inr<|.inr (.inl rfl),rfl⟩⟩
   ·rw[h1];exact vvt h q m J
  ·obtain⟨e,ok⟩:=kvi h q m w;have y:kq5 t l (.node i j x a .nil)=opT x.op (kq5 t l a) (kq5 t l a):=by rw[kyc,h1];rfl
   have L:gy (qm<|ql t) l (.node i j x a .nil)=kjc 1 ((gy (qm<|ql t) l a).b==1):=by rw[gy,h1];rfl
   have M:∀A C:ByteArray,opT x.op A C=if zj3 A C&&(A.toList==nY) then kvj else kjx:=λA C=>by unfold opT;simp_all
   grind [zyd,zyn,zq9,qyc,kwx]
  ·obtain⟨H,u⟩:=kvi h q m w;obtain⟨I,v⟩:=kvi h q m E;have hn:isNil c=false:=E.some;have sm:∀f:Int,(f=1\/f=2)->(kwx (gy (qm<|ql t) l a) (gy (qm<|ql t) l c)&&((gy (qm<|ql t) l a).b==f))=((gy (qm<|ql t) l a).b==f&&(gy (qm<|ql t) l c).b==f):=by intro f K;generalize gy (qm<|ql t) l a=A at u;generalize gy (qm<|ql t) l c=C at v;obtain⟨N,Q⟩:=A;obtain⟨O,R⟩:=C;have G:(ByteArray.mk #[]).toList=[]:=jh _;obtain rfl|rfl:=K<;>obtain⟨rfl|rfl|rfl|rfl,rfl⟩|⟨rfl|rfl,z⟩:=u<;>obtain⟨rfl|rfl|rfl|rfl,rfl⟩|⟨rfl|rfl,D⟩:=v<;>simp[kwx,G]
   have s:(zj3 (kk0<|gy (qm<|ql t) l a) (kk0<|gy (qm<|ql t) l c)||(((kk0<|gy (qm<|ql t) l a).toList==mG)&&kx3 (kk0<|gy (qm<|ql t) l c))||(((kk0<|gy (qm<|ql t) l c).toList==mG)&&kx3 (kk0<|gy (qm<|ql t) l a)))=zvq (gy (qm<|ql t) l a) (gy (qm<|ql t) l c):=by grind [zq9,vqd,zki,zvq]
   have k:(zj3 (kk0<|gy (qm<|ql t) l a) (kk0<|gy (qm<|ql t) l c)&&((kk0<|gy (qm<|ql t) l a).toList==nY))=((gy (qm<|ql t) l a).b==1&&(gy (qm<|ql t) l c).b==1):=by simp_all [zq9,qyc]
   have d:(zj3 (kk0<|gy (qm<|ql t) l a) (kk0<|gy (qm<|ql t) l c)&&((kk0<|gy (qm<|ql t) l a).toList==nC))=((gy (qm<|ql t) l a).b==2&&(gy (qm<|ql t) l c).b==2):=by simp_all [zq9,vkm]
   have y:kq5 t l (.node i j x a c)=opT x.op (kq5 t l a) (kq5 t l c):=by rw[kyc,hn];obtain o|o|o|o|o|o|o:=qjz h1<;>rw[o]<;>rfl
   rw[y,H,I];have tr:∀(b:Bool)(B:VT),gy (qm<|ql t) l (.node i j x a c)=kjc 1 b->opT x.op (kk0<|gy (qm<|ql t) l a) (kk0<|gy (qm<|ql t) l c)=(if b then kvj else kjx)->opT x.op (kk0<|gy (qm<|ql t) l a) (kk0<|gy (qm<|ql t) l c)=kk0 (gy (qm<|ql t) l<|.node i j x a c)/\zqd (gy (qm<|ql t) l<|.node i j x a c):=λb B z D=>by grind [zyn,zyd]
   have F:∀(b:Bool)(B:VT),gy (qm<|ql t) l (.node i j x a c)=kjc 2 b->opT x.op (kk0<|gy (qm<|ql t) l a) (kk0<|gy (qm<|ql t) l c)=(if b then kwn else kjx)->opT x.op (kk0<|gy (qm<|ql t) l a) (kk0<|gy (qm<|ql t) l c)=kk0 (gy (qm<|ql t) l<|.node i j x a c)/\zqd (gy (qm<|ql t) l<|.node i j x a c):=λb B z D=>by grind [vkh,zyd]
   have g:gy (qm<|ql t) l (.node i j x a c)=zji (opN x.op.toList) (gy (qm<|ql t) l a) (gy (qm<|ql t) l c):=by rw[gy];obtain o|o|o|o|o|o|o:=qjz h1<;>rw[o]<;>rfl
   obtain o|o|o|o|o|o|o:=qjz h1
   ·exact tr _ zqg lK (by rw[<-k];unfold opT;simp_all)
   ·exact tr _ zqg lK (by rw[<-k];unfold opT;simp_all)
   ·exact tr _ zqg lK (by rw[<-s];unfold opT;simp_all)
   ·exact tr _ zqg lK (by rw[<-s];unfold opT;simp_all)
   ·exact tr _ zqg lK lU
   ·exact F _ zqg lK lU
   ·exact F _ zqg lK lU
theorem zzg(tab:Tab)(x:SiT):¬(kqm tab x).b=5:=by unfold kqm;grind
theorem pz7:¬(kjf tab l n).b=5:=by
 unfold kjf;split
 ·simp
 ·split
  ·simp
  ·split
   ·exact zzg _ _
   ·decide
theorem pv6:¬(kxj tab l n x).b=5:=by
 unfold kxj;split
 ·split
  ·split
   ·exact zzg _ _
   ·decide
  ·decide
 ·exact pz7
theorem pzu(h:p=.node 0 0 d6 .nil .nil)(a:d6.op.toList=ng):¬(gy tab l p).b=5:=by rw[h,gy,a];exact pv6
theorem pxm(h:NamesFine t)(f:TreeTxt t)(e:∀p∈l,0<p.Q.x.size)(j:kx9 p)(k:¬(gy (qm (ql t)) l p).b=5)(hv:kx9 c):qkh (zx (zf t) (qj9 p).toList) (kq5 t l p) (kq5 t l c)=jwd (qm (ql t)) l p c:=by
 obtain⟨g,a⟩:=kvi h f e j;obtain⟨i,d⟩:=kvi h f e hv;rw[g,i];unfold qkh jwd;have b:((zl (qm<|ql t) (qj9 p).toList).V==4)=!decide (zx (zf t) (qj9 p).toList<0):=by grind [qwo]
 rw[b,pja a,vqd d,zki a,kxx,kxx,pkp a d];grind [kwx]
theorem qxl(h:NamesFine t)(d:TreeTxt t)(c:∀p∈l,0<p.Q.x.size):∀{b:PB},kkz b->kzi t l b=kkj (qm (ql t)) l b
 |.nil,_=>rfl
 |.node _ _ a .nil n,⟨h1,h2,_,h4⟩=>by
  obtain⟨k,x,g,f⟩:=h1;rw[kzi,kkj,pxm h d c k (pzu g f) h2,qxl h d c h4]
 |.node _ _ a (.node _ _ _ t e) n,⟨h1,_,_,h4,h5,h6⟩=>by obtain⟨j,i⟩:=kvi h d c h1;rw[kzi,kkj,j,qyc i,qxl h d c h4.1,qxl h d c h5.1,qxl h d c h6]
def qw8(t:PTree):Bool:=(t.l++t.q).all (λr=>((kq5 t r.u r.guard).toList==nY)&&kzi t r.u r.S)
theorem vkb(h:NamesFine t)(e:TreeTxt t)(d:∀r∈t.l++t.q,∀p∈r.u,0<p.Q.x.size)(k:∀r∈t.l,kvw r)(hn:∀r∈t.q,kvw r/\r.S=.nil):qqf (qm (ql t)) (ql t)=qw8 t:=by
 unfold qqf qw8;rw[List.all_append];have one:∀r∈t.l++t.q,kvw r->(((kq5 t r.u r.guard).toList==nY)&&kzi t r.u r.S)=zql (qm<|ql t) r:=λr a c=>by obtain⟨j,i⟩:=kvi h e (d r a) c.1;rw[j,qyc i,qxl h e (d r a) c.2.1];rfl
 have b:∀(l:List PRule)(f g:PRule->Bool),(∀r∈l,f r=g r)->l.all f=l.all g:=by grind
 congr 1
 ·exact b _ _ _ λr a=>(one r (jT a)<|k r a).symm
 ·refine b _ _ _ λr a=>?_
  rw[one r (jN a) (hn r a).1];unfold zql vw6;rw[(hn r a).2,kkj,Jh]
theorem qks{a:Addr}(h:a.block≠b)(c:w.cell? a=some x0):((w.setCell ⟨b,0,none⟩ x1).setCell ⟨b,1,none⟩ x2).cell? a=some x0:=by refine(Jk (w:=w) ?_).trans c;rw[jz h,jz h]
theorem jxb(f:Int)(s:ByteArray)(w:World):(Instr.field 362 (.agg #[.int .i64 f,.string s]) 0).run prog w=.ok (.int .i64 f) w:=au
theorem pzm(o:List UInt8):0<=opN o/\opN o<=13:=by unfold opN;repeat (first|(split;· omega)|omega)
def zqz(x:PX):Prop:=∀(w:World)(b lo xo:Nat)(tab:Tab)(l:List PP)(pa:Option Addr)(pn pc:Nat)(v:Value),kj5 w b tab->zj4 tab->w.ownsRow lo 352 4 (.slice pa pn pc) l.length (uq l)->l.length<=1000 ->
  XIs xo w x v->qj4 x->isNil x=false->(∀y∈bf x,y.x.size<=1000) ->
  Calls prog 217 #[tyV b (.slice pa pn pc),v] w λe w'=>e=.returned (vtV<|gy tab l x)/\oq w w'
theorem vkf(i j:Nat)(x:ELab){a:PX}(aX:zqz a)(aY:zqz c):zqz (.node i j x a c):=by
 intro w b lo xo tab l pa pn pc v ht U ho hl hX hF _ Z;obtain⟨k,va,vb,rfl,hk,hh,ha,hb⟩:=hX;obtain⟨p1,rfl⟩:=ha.ptr;obtain⟨p2,rfl⟩:=hb.ptr;have aC:∀y∈bf a,y.x.size<=1000:=λy X=>Z y (by rw[bf];simp[X])
 have aD:∀y∈bf c,y.x.size<=1000:=λy X=>Z y (by rw[bf];simp[X])
 have aE:∀y∈qw1 x,y.x.size<=1000:=λy X=>Z y (by rw[bf];simp[X])
 have D:=zkc x.op.toList;have aV:=pzm x.op.toList;obtain⟨W,G⟩:=cpy<|(w.alloc<|.cells #[.map (some b),.slice pa pn pc] 301).alloc (.cells #[.int .i64 0,.string ⟨#[]⟩] 362);have t:oq w W:=by rw[G];exact kxw w
 have T:W.heap.size=w.heap.size+2:=by rw[G];simp
 have HT:Hid (W.heap[w.heap.size]?=some (.cells #[.map (some b),.slice pa pn pc] 301 (0,0))):=by rw[G];exact zy<|qy
 have A:Hid (W.heap[w.heap.size+1]?=some (.cells #[.int .i64 0,.string ⟨#[]⟩] 362 (0,0))):=by rw[G];have:=qy (w:=w.alloc<|.cells #[.map (some b),.slice pa pn pc] 301) (o:=.cells #[.int .i64 0,.string ⟨#[]⟩] 362);simp only[tV]at this;exact this
 have aT:=wQ hh;have HX:=oz<|(t.block k aT).trans hh;unfold kyu at HX;have E:=oz (show gy tab l (.node i j x a c)=if (opN x.op.toList==0||opN x.op.toList==1) then ⟨1,⟨#[]⟩⟩ else if opN x.op.toList==3 then ⟨2,⟨#[]⟩⟩ else if opN x.op.toList==2 then ⟨5,⟨#[]⟩⟩
  else if opN x.op.toList==4 then kxj tab l x.y x.c else if opN x.op.toList==5 then kjc 1 ((gy tab l a).b==1) else zji (opN x.op.toList) (gy tab l a) (gy tab l c) from rfl)
 have m:oq w W.drew:=t.drew;obtain⟨aL,HA,HC⟩:=jp (λe:qw1 x=kzu x.y x.c=>jq0 x.y x.c (ht.kept m) U (qj ho m) hl (by rw[<-e];exact aE)) (λe:isNil a=false=>aX W.drew b lo xo tab l pa pn pc _ (ht.kept m) U (qj ho m) hl (ha.below m) hF.2.1 e aC) (λ(e:isNil c=false)(z:World)(h1:oq w z)=>aY z b lo xo tab l pa pn pc _ (ht.kept h1) U (qj ho h1) hl (hb.below h1) hF.2.2 e aD);have K:=hF.1;obtain⟨⟨q0,q1,q2,q3,q4,q5,q6,q7,q8⟩,_⟩:=kki HX;obtain⟨t0,t1,_⟩:=kj6 HT;have r0:=kj6 A;have aP:=oz G.symm;have R:w.heap.size<W.heap.size:=aj;have u:w.heap.size+1<W.heap.size:=aj;have S:k<W.heap.size:=aj;have Q:(⟨k,0,none⟩:Addr).block≠w.heap.size+1:=by show k≠_;omega
 have aG:(⟨w.heap.size,0,none⟩:Addr).block≠w.heap.size+1:=by show w.heap.size≠_;omega
 generalize gy tab l (.node i j x a c)=fin at *;clear G hh Z aC aD aE;unfold tyV pl5 vtV at *;generalize (!(x.c.t.toList==[]))=d at *;go_in;generalize opN x.op.toList=o at *;go_upto_region 1 with fail
 rw[ku aP];cases Y:(o==0)
 case true=>
  rw[Y]at E;go_wp2;refine kx0 results217 underlying362 (set2 A) ?_;exact⟨jJ,(t.setCell (by omega:w.heap.size<=w.heap.size+1) _).setCell (by omega:w.heap.size<=w.heap.size+1) _⟩
 case false=>
 cases h1:(o==1)
 case true=>
  rw[Y,h1]at E;go_wp2;refine kx0 results217 underlying362 (set2 A) ?_;exact⟨jJ,(t.setCell (by omega:w.heap.size<=w.heap.size+1) _).setCell (by omega:w.heap.size<=w.heap.size+1) _⟩
 case false=>
 rw[Y,h1]at E;cases h3:(o==3)
 case true=>
  rw[h3]at E;go_wp2;refine kx0 results217 underlying362 (set2 A) ?_;exact⟨jJ,(t.setCell (by omega:w.heap.size<=w.heap.size+1) _).setCell (by omega:w.heap.size<=w.heap.size+1) _⟩
 case false=>
 rw[h3]at E;cases h2:(o==2)
 case true=>
  rw[h2]at E;go_wp2;refine kx0 results217 underlying362 (set2 A) ?_;exact⟨jJ,(t.setCell (by omega:w.heap.size<=w.heap.size+1) _).setCell (by omega:w.heap.size<=w.heap.size+1) _⟩
 case false=>
 rw[h2]at E;cases h4:(o==4)
 case true=>
  rw[h4]at E D;have aI:=aL (by unfold qw1;rw[<-D];rfl);clear D;go_upto_region 10 with fail
  go_region_law ((go_simp;go_at_call 244;refine aI.mono ?_;rintro e z ⟨rfl,f⟩;have g:=(f.block (w.heap.size+1)<|by simpa using u).trans A;have s0:=kj6 g;have B:=oz g;have q:=t.drew.trans (f.mono (by have:=T;simp;omega));clear g;dsimp only))
  all_goals
   go_wp2;refine kx0 results217 underlying362 (set2 B) ?_;exact⟨jJ,(q.setCell (by omega:w.heap.size<=w.heap.size+1) _).setCell (by omega:w.heap.size<=w.heap.size+1) _⟩
 case false=>
 rw[h4]at E;have a5:¬o=0:=by simpa using Y
 have a6:¬o=1:=by simpa using h1
 have a9:¬o=2:=by simpa using h2
 have aA:¬o=3:=by simpa using h3
 have aB:¬o=4:=by simpa using h4
 have H:=HA<|K.1 aj;clear D;cases h5:(o==5)
 case true=>
  rw[h5]at E;have aZ:=jxb (gy tab l a).b (gy tab l a).y;generalize gy tab l a=ta at *;clear a5 a6 a9 aA aB;go_upto_region 12 with fail
  go_region_law (first|(go_simp;go_at_call 217;refine H.mono ?_;rintro e z ⟨rfl,f⟩;have p:=f.size;have g:=(f.block (w.heap.size+1)<|by simpa using u).trans A;have B:=oz g;have q:=t.drew.trans (f.mono (by have:=T;simp;omega));clear g;dsimp only)|(go_simp;go_at_call 245;refine(zkt _ _ _).mono ?_;rintro e w2 ⟨rfl,h⟩;have s:=(h.block (w.heap.size+1) (by simp at p;omega)).trans B;have s0:=kj6 s;have J:=oz s;have I:=q.trans (h.mono (by simp at p;omega));clear s;dsimp only[vtV]))
  all_goals
   go_wp2;refine kx0 results217 underlying362 (set2 J) ?_;exact⟨jJ,(I.setCell (by omega:w.heap.size<=w.heap.size+1) _).setCell (by omega:w.heap.size<=w.heap.size+1) _⟩
 case false=>
 rw[h5]at E;have aU:¬o=5:=by simpa using h5
 have aK:=oz<|HC (K.2 aj);generalize gy tab l a=ta at *;generalize gy tab l c=tc at *;clear a5 a6 a9 aA aB aU aV K;go_upto_region 13 with fail
 go_region_held3 (λw'=>w'.cell? ⟨k,0,none⟩=some (.int .i64 o)/\w'.cell? ⟨k,7,none⟩=some (.pointer p1)/\w'.cell? ⟨k,8,none⟩=some (.pointer p2)/\w'.cell? ⟨w.heap.size,0,none⟩=some (.map<|some b)/\w'.cell? ⟨w.heap.size,1,none⟩=some (.slice pa pn pc))
  (first|exact⟨q0,q7,q8,t0,t1⟩|exact⟨a0,a7,a8,b0,b1⟩|exact⟨c0,c7,c8,d0,d1⟩|exact⟨e0,e7,e8,f0,f1⟩|exact⟨qks Q e0,qks (a:=⟨k,7,none⟩) Q e7,qks (a:=⟨k,8,none⟩) Q e8,qks aG f0,qks (a:=⟨w.heap.size,1,none⟩) aG f1⟩)
  (first
  |(go_at_call 217;refine H.mono ?_;rintro e z ⟨rfl,f⟩;have p:=f.size;have O:=(f.block k<|by simpa using S).trans HX;have M:=(f.block w.heap.size<|by simpa using R).trans HT;have g:=(f.block (w.heap.size+1)<|by simpa using u).trans A;obtain⟨⟨a0,_,_,_,_,_,_,a7,a8⟩,_⟩:=kki O;obtain⟨b0,b1,_⟩:=kj6 M;obtain⟨aQ,aN,B,q⟩:=jb O M g (t.drew.trans<|f.mono (by have:=T;simp;omega));have a1:=oz<|aK z q;have aH:w.heap.size+1<z.heap.size:=sV u p;have a4:k<z.heap.size:=sV S p;have V:w.heap.size<z.heap.size:=sV R p;clear f O M g p H)
  |(go_at_call 217;refine a1.mono ?_;rintro e w2 ⟨rfl,h⟩;have F:=h.size;have P:=(h.block k a4).trans aQ;have N:=(h.block w.heap.size V).trans aN;have s:=(h.block (w.heap.size+1) aH).trans B;obtain⟨⟨c0,_,_,_,_,_,_,c7,c8⟩,_⟩:=kki P;obtain⟨d0,d1,_⟩:=kj6 N;obtain⟨aR,aO,J,I⟩:=jb P N s (q.trans (h.mono<|Qr V));have aW:w.heap.size+1<w2.heap.size:=sV aH F;have aS:k<w2.heap.size:=sV a4 F;have aF:w.heap.size<w2.heap.size:=sV V F;clear h P N s F a1)
  |(go_at_call 246;refine(vy7 o ta tc).mono ?_;rintro e w3 ⟨rfl,C⟩;have a3:=(C.block k aS).trans aR;have a2:=(C.block w.heap.size aF).trans aO;have L:=(C.block (w.heap.size+1) aW).trans J;obtain⟨⟨e0,_,_,_,_,_,_,e7,e8⟩,_⟩:=kki a3;obtain⟨f0,f1,_⟩:=kj6 a2;obtain⟨s0,s1,s2,s3⟩:=kj6 L;obtain⟨aM,aJ⟩:=ju L (I.trans (C.mono<|Qr aF));clear C L a3 a2;dsimp only[vtV]))
 all_goals
  go_wp2;refine kx0 results217 underlying362 (set2 aM) ?_;exact⟨jJ,(aJ.setCell (by omega:w.heap.size<=w.heap.size+1) _).setCell (by omega:w.heap.size<=w.heap.size+1) _⟩
theorem qyb:∀x:PX,zqz x
 |.nil=>λw b lo xo tab l pa pn pc v _ _ _ _ _ _ h _=>ig
 |.node i j x a c=>vkf i j x (qyb a)<|qyb c
theorem qy1(m:kj5 w b tab)(f:zj4 tab)(j:w.ownsRow lo 352 4 (.slice pa pn pc) l.length (uq l))(i:l.length<=1000)(a:XIs so w c x0)(h:qj4 c)(hn:isNil c=false)(k:∀y∈bf c,y.x.size<=1000):Calls prog 162 #[tyV b (.slice pa pn pc),x0] w λe w'=>e=.returned (.bool<|(gy tab l c).b==1)/\oq w w':=by have g:=qyb c (w.alloc<|.cells #[.map (some b),.slice pa pn pc] 301) b lo so tab l pa pn pc x0 (m.kept<|jZ _) f (j.alloc _) i (a.below<|jZ _) h hn k;have q:=jxb (gy tab l c).b (gy tab l c).y;obtain⟨p,rfl⟩:=a.ptr;generalize gy tab l c=ty at *;unfold tyV vtV at *;go_in;go_wp21;refine g.mono ?_;rintro e s ⟨rfl,d⟩;go_wp2;go_ret;exact⟨rfl,((jZ w (o:=.cells #[.map (some b),.slice pa pn pc] 301)).trans<|d.mono ay)⟩
def qv1(b:PB):Prop:=∀(w:World)(bb lo so:Nat)(no:Option Nat)(tab:Tab)(l:List PP)(pa:Option Addr)(pn pc:Nat)(v:Value)(cs:List Value),kj5 w bb tab->zj4 tab->w.ownsRow lo 352 4 (.slice pa pn pc) l.length (uq l)->l.length<=1000 ->
  w.ownsRow so 334 9 v (kqq b) cs->BIs so no w b cs->ky6 b->qzh b->kqq b<=1000->(∀y∈je b,y.x.size<=1000) ->
  Calls prog 163 #[tyV bb (.slice pa pn pc),v] w λe w'=>e=.returned (.bool<|kkj tab l b)/\oq w w'
def smV(c:Bool)(n i:Tok)(p vt a:Value):Value:=.agg #[.bool c,.string n.x,.int .i64 n.v,.bool (!(i.t.toList==[])),.string i.x,.int .i64 i.v,p,vt,a]
theorem vv0(no:Option Nat)(n i:Tok)(t e:PB)(ta:Option Addr)(u tc:Nat)(p:Option Addr)(en q:Nat)(E D:List Value)(hM:kj5 w bb tab)(j:zj4 tab)(H:w.ownsRow lo 352 4 (.slice pa pn pc) l.length (uq l))(G:l.length<=1000)(hx:XIs so w c (.pointer d7))(hF:qj4 c)(hn:isNil c=false)(T:∀y∈bf c,y.x.size<=1000)(hT:qv1 t)(U:w.ownsRow so 334 9 (.slice ta u tc) (kqq t) E)(V:BIs so no w t E)(X:ky6 t)(Y:qzh t)(Z:kqq t<=1000)(C:∀y∈je t,y.x.size<=1000)(hE:qv1 e)(O:w.ownsRow so 334 9 (.slice p en q) (kqq e) D)(P:BIs so no w e D)(Q:ky6 e)(R:qzh e)(S:kqq e<=1000)(B:∀y∈je e,y.x.size<=1000):Calls prog 218 #[tyV bb (.slice pa pn pc),smV true n i (.pointer d7) (.slice ta u tc) (.slice p en q)] w λr w'=>r=.returned (.bool<|((gy tab l c).b==1&&kkj tab l t)&&kkj tab l e)/\oq w w':=by
 unfold smV;generalize (!(i.t.toList==[]))=d;obtain⟨W,s⟩:=cpy<|(w.alloc<|.cells #[.map (some bb),.slice pa pn pc] 301).alloc (.cells #[.bool true,.string n.x,.int .i64 n.v,.bool d,.string i.x,.int .i64 i.v,.pointer d7,.slice ta u tc,.slice p en q] 334);have m:oq w W:=by rw[s];exact kxw w
 have a1:W.heap.size=w.heap.size+2:=by simp_all
 have x:W.heap[w.heap.size]?=some (.cells #[.map (some bb),.slice pa pn pc] 301 (0,0)):=by rw[s];exact zy<|qy
 have g:W.heap[w.heap.size+1]?=some (.cells #[.bool true,.string n.x,.int .i64 n.v,.bool d,.string i.x,.int .i64 i.v,.pointer d7,.slice ta u tc,.slice p en q] 334 (0,0)):=by grind [qy]
 have L:=qy1 (hM.kept m) j (qj H m) G (hx.below m) hF hn T;have J:=λ(a:World)(h1:oq w a)=>hT a bb lo so no tab l pa pn pc _ E (hM.kept h1) j (qj H h1) G (qj U h1) (V.stay λk _ F=>h1.block k F) X Y Z C
 have I:=λ(a:World)(h1:oq w a)=>hE a bb lo so no tab l pa pn pc _ D (hM.kept h1) j (qj H h1) G (qj O h1) (P.stay λk _ F=>h1.block k F) Q R S B
 have t0:=kj6 x;have q0:=kki g;obtain⟨K,M⟩:=ju g s.symm;generalize (gy tab l c).b=fc at *;generalize kkj tab l t=gt at *;generalize kkj tab l e=ge at *;clear T C B g s;unfold tyV at *;go_in;go_upto_region 1 with fail
 rw[M];go_wp21;refine L.mono ?_;rintro r a ⟨rfl,b⟩;have A:=(b.block w.heap.size aj).trans x;have z:=(b.block (w.heap.size+1) aj).trans K;have v:=m.trans<|b.mono aj;have a0:=b.size;have t0:=kj6 A;have q7:=kki z;cases hc:(fc==1)
 ·go_wp2;go_ret;simp_all
 ·go_wp21;refine(J a v).mono ?_;rintro r w2 ⟨rfl,h⟩;have f:=v.trans<|h.mono aj;have t0:=kj6<|(h.block w.heap.size aj).trans A;have q8:=kki<|(h.block (w.heap.size+1) aj).trans (oz z);cases gt
  ·go_wp2;go_ret;simp_all
  ·go_wp21;refine(I w2 f).mono ?_;rintro r w3 ⟨rfl,N⟩;go_wp2;go_ret;exact⟨um (by simp_all),(f.trans<|N.mono f.size)⟩
theorem count_set:∀(l:List Bool)(i:Nat),l[i]?=some false->(l.set i true).countP (λb=>!b)+1=l.countP (λb=>!b)
 |[],i,h=>by simp at h
 |b::l,0,h=>by simp_all
 |b::l,i+1,h=>by grind
theorem vwi:∀(l:List Bool)(i:Nat),l.countP (λb=>!b)=0->l[i]?≠some false
 |[],i,_,h=>by simp at h
 |b::l,0,h,e=>by simp_all
 |b::l,i+1,h,e=>by grind
theorem kk6{d8:Oper}{d9:Act}{e9:Act->World->Prop}(b:ops[i]?=some d8)(a:d8.guard=none)(h:∀K',(∀a' w',e9 a' w'->K' a' w')->d8.wp P d9 w K' Q):wpOp P ops Q i e9 d9 w:=by grind [wpOp,Region.wanted]
theorem vjm{a:Array Bool}(h:i∈Region.ready md ops a):a.toList[i]?=some false:=by
 have:=(mem_ready.1 h).1;by_cases b:i<a.size
 ·simp_all
 simp_all
theorem jxd{I:Array Bool->Act->World->Prop}(d:∀l a w i,I l a w->i∈Region.ready md ops l->wpOp P ops Q i (λa' w'=>I (l.setIfInBounds i true) a' w') a w)(c:∀l a w,I l a w->Region.ready md ops l=[]->Q .normal a w):∀(fuel:Nat)(l:Array Bool)(a:Act)(w:World),l.toList.countP (λb=>!b)<=fuel->I l a w->wpAny P md ops Q fuel l a w
 |0,l,a,w,hc,h=>by
  have e:Region.ready md ops l=[]:=by
   cases e:Region.ready md ops l with
   |nil=>rfl
   |cons i r=>exact(vwi _ i aj<|vjm (by simp_all:i∈Region.ready md ops l)).elim
  exact⟨e,c l a w h e⟩
 |fuel+1,l,a,w,hc,h=>by refine⟨λe=>c l a w h e,λi hi=>?_⟩;refine wpOp_mono (λa' w' f=>jxd d c fuel _ a' w' ?_ f)<|d l a w i h hi;have:=count_set _ i<|vjm hi;grind
def zxl(bb:Nat)(pa:Option Addr)(pn pc:Nat)(n i:Tok)(d:Bool)(p:Option Addr)(w:World)(q:Ent)(k l a b c e f g h j:Value):Act:=
 ⟨#[.agg #[.map (some bb),.slice pa pn pc],.agg #[.bool false,.string n.x,.int .i64 n.v,.bool d,.string i.x,.int .i64 i.v,.pointer p,.slice none 0 0,.slice none 0 0],.pointer<|some ⟨w.heap.size,0,none⟩,.pointer<|some ⟨w.heap.size+1,0,none⟩,.bool false,k,l,.pointer<|some ⟨w.heap.size+1,0,none⟩,.bool false,undef,undef,undef,undef,undef,undef,undef,undef,undef,undef,undef,undef,undef,undef,undef,undef,
  .pointer (some ⟨w.heap.size,0,none⟩),.map<|some bb,.pointer<|some ⟨w.heap.size+1,1,none⟩,.pointer<|some ⟨w.heap.size+1,1,none⟩,.pointer<|some ⟨w.heap.size+1,1,none⟩,.string n.x,qy7 q,.int .i64 q.V,.bool false,a,b,c,e,f,g,h,j,undef,undef,undef,undef,undef,undef,undef,undef,undef,undef,undef,undef,undef],[]⟩
structure RInv (bb:Nat)(pa:Option Addr)(pn pc:Nat)(n i:Tok)(d:Bool)(p:Option Addr)(tp tx:VT)(w W:World)(b0 b1 b2 b3 b4 b5 b6 b7 b8 b9 b10 b11:Bool)(u5 u6 u34 u35 u36 u37 u38 u39 u40 u41:Value)(wx:World):Prop where
 k0:b0=true->u34=.agg #[.map (some bb),.slice pa pn pc]
 k1:b1=true->u35=.pointer (some ⟨w.heap.size+1,1,none⟩)
 k2:b2=true->u36=.agg #[.string n.x,.int .i64 n.v,.bool d,.string i.x,.int .i64 i.v]
 k3:b3=true->u37=.agg #[.int .i64 tp.b,.string tp.y]
 k4:b4=true->u38=.agg #[.map (some bb),.slice pa pn pc]
 k5:b5=true->u39=.pointer (some ⟨w.heap.size+1,6,none⟩)
 k6:b6=true->u40=.pointer p
 k7:b7=true->u41=.agg #[.int .i64 tx.b,.string tx.y]
 k8:b8=true->∃g x y,u5=.pointer (some ⟨g,0,none⟩)/\W.heap.size<=g/\wx.heap[g]?=some (.cells #[x,y] 362 (0,0))/\(b10=true->x=.int .i64 tp.b/\y=.string tp.y)
 k9:b9=true->∃g x y,u6=.pointer (some ⟨g,0,none⟩)/\W.heap.size<=g/\wx.heap[g]?=some (.cells #[x,y] 362 (0,0))/\(b11=true->x=.int .i64 tx.b/\y=.string tx.y)
 kn:b8=true->b9=true->u5≠u6
 d10:b10=true->b8=true
 d11:b11=true->b9=true
 ty:wx.heap[w.heap.size]?=some (.cells #[.map (some bb),.slice pa pn pc] 301 (0,0))
 st:wx.heap[w.heap.size+1]?=some (.cells #[.bool false,.string n.x,.int .i64 n.v,.bool d,.string i.x,.int .i64 i.v,.pointer p,.slice none 0 0,.slice none 0 0] 334 (0,0))
 be:oq w wx
 sz:W.heap.size<=wx.heap.size
def RI(bb:Nat)(pa:Option Addr)(pn pc:Nat)(n i:Tok)(d:Bool)(p:Option Addr)(b tx:VT)(q:Ent)(w W:World)(l:Array Bool)(a:Act)(wx:World):Prop:=
 ∃(b0 b1 b2 b3 b4 b5 b6 b7 b8 b9 b10 b11:Bool)(u5 u6 u34 u35 u36 u37 u38 u39 u40 u41:Value),l=#[b0,b1,b2,b3,b4,b5,b6,b7,b8,b9,b10,b11]/\a=zxl bb pa pn pc n i d p w q u5 u6 u34 u35 u36 u37 u38 u39 u40 u41/\RInv bb pa pn pc n i d p b tx w W b0 b1 b2 b3 b4 b5 b6 b7 b8 b9 b10 b11 u5 u6 u34 u35 u36 u37 u38 u39 u40 u41 wx
theorem vj0{g4:Tok}{p:Option Addr}(hM:kj5 w bb tab)(T:zj4 tab)(E:w.ownsRow lo 352 4 (.slice pa pn pc) l.length (uq l))(hl:l.length<=1000)(hx:XIs so w c (.pointer p))(hF:qj4 c)(hn:isNil c=false)(hs:∀y∈bf c,y.x.size<=1000)(S:∀y∈kzu n g4,y.x.size<=1000)(a3:n.x.size<=1000):Calls prog 218 #[tyV bb (.slice pa pn pc),smV false n g4 (.pointer p) (.slice none 0 0) (.slice none 0 0)] w λr w'=>r=.returned (.bool<|((zl tab n.x.toList).V==4)&&(kwx (kxj tab l n g4) (gy tab l c)||((kxj tab l n g4).b==4&&(gy tab l c).b==5)))/\oq w w':=by
 have O:=λ(G:World)(h1:oq w G)=>jq0 n g4 (hM.kept h1) T (qj E h1) hl S
 have Y:=λ(G:World)(h1:oq w G)=>qyb c G bb lo so tab l pa pn pc (.pointer p) (hM.kept h1) T (qj E h1) hl (hx.below h1) hF hn hs
 unfold smV;unfold pl5 at O;generalize (!(g4.t.toList==[]))=d at *;obtain⟨W,M⟩:∃W,W=(w.alloc<|.cells #[.map (some bb),.slice pa pn pc] 301).alloc (.cells #[.bool false,.string n.x,.int .i64 n.v,.bool d,.string g4.x,.int .i64 g4.v,.pointer p,.slice none 0 0,.slice none 0 0] 334):=⟨_,rfl⟩;have U:oq w W:=by rw[M];exact kxw w
 have aJ:W.heap.size=w.heap.size+2:=by simp_all
 have P:W.heap[w.heap.size]?=some (.cells #[.map (some bb),.slice pa pn pc] 301 (0,0)):=by rw[M];exact zy<|qy
 have J:W.heap[w.heap.size+1]?=some (.cells #[.bool false,.string n.x,.int .i64 n.v,.bool d,.string g4.x,.int .i64 g4.v,.pointer p,.slice none 0 0,.slice none 0 0] 334 (0,0)):=by grind [qy]
 have aI:=kvb (hM.kept U) a3;have hf:=kw6<|zl tab n.x.toList;have t0:=kj6 P;have q0:=kki J;obtain⟨Z,a0⟩:=ju J M.symm;generalize zl tab n.x.toList=q at *;generalize kxj tab l n g4=F at *;generalize gy tab l c=tx at *;clear hs S J M;unfold tyV vtV at *;go_in
 go_upto_region 1 with fail
 rw[a0];cases N:(q.V==4)
 ·have a2:(q.V != 4)=true:=by simp_all
  go_wp2;go_ret;exact⟨um (by simp_all),U⟩
 ·have a2:(q.V != 4)=false:=by simp_all
  go_upto_region 5 with fail
  go_cut [5,6] from 34 to 41 (λv5 v6 wx=>∃D g6,v5=.pointer (some ⟨D,0,none⟩)/\v6=.pointer (some ⟨g6,0,none⟩)/\(wx.cell? ⟨D,0,none⟩=some (.int .i64 F.b)/\wx.cell? ⟨D,1,none⟩=some (.string F.y))/\(wx.cell? ⟨g6,0,none⟩=some (.int .i64 tx.b)/\wx.cell? ⟨g6,1,none⟩=some (.string tx.y))/\D<wx.heap.size/\g6<wx.heap.size/\oq w wx)
  case first=>
   refine wp_region_any au ?_;change wpAny _ _ _ _ _ _ _ (World.drew _)
   refine jxd (I:=RI bb pa pn pc n g4 d p F tx q w W) ?_ ?_ _ _ _ _ ak ⟨false,false,false,false,false,false,false,false,false,false,false,false,undef,undef,undef,undef,undef,undef,undef,undef,undef,undef,rfl,rfl,⟨(λh=>ig),(λh=>ig),(λh=>ig),(λh=>ig),(λh=>ig),(λh=>ig),(λh=>ig),(λh=>ig),(λh=>ig),(λh=>ig),(λh=>ig),(λh=>ig),(λh=>ig),P,Z,U.drew,jH⟩⟩
   ·intro l a wx j V N;obtain⟨b0,b1,v,b3,b4,b5,b6,b7,b8,b9,f,i,u5,u6,a6,a7,a8,a9,aA,aB,aC,aD,rfl,rfl,h⟩:=V;obtain⟨u,o,E,s⟩:=mem_ready.1 N;have hj:j<12:=by apply Qp;intro b;have:j=(j-12)+12:=aj;rw[this]at E;cases E
    have b:j=0\/j=1\/j=2\/j=3\/j=4\/j=5\/j=6\/j=7\/j=8\/j=9\/j=10\/j=11:=aj;obtain rfl|rfl|rfl|rfl|rfl|rfl|rfl|rfl|rfl|rfl|rfl|rfl:=b<;>(injection E with E;subst E)
    ·have m:b0=false:=by simpa using u
     have t0:=kj6 h.ty;refine kk6 rfl rfl (λK k=>?_);unfold zxl;go_simp;refine k _ _ ⟨true,b1,v,b3,b4,b5,b6,b7,b8,b9,f,i,_,_,_,_,_,_,_,_,_,_,rfl,rfl,⟨λ_=>rfl,h.k1,h.k2,h.k3,h.k4,h.k5,h.k6,h.k7,h.k8,h.k9,h.kn,h.d10,h.d11,h.ty,h.st,h.be,h.sz⟩⟩
    ·have m:b1=false:=by simpa using u
     refine kk6 rfl rfl (λK k=>?_);unfold zxl;go_simp;refine k _ _ ⟨b0,true,v,b3,b4,b5,b6,b7,b8,b9,f,i,_,_,_,_,_,_,_,_,_,_,rfl,rfl,⟨h.k0,λ_=>rfl,h.k2,h.k3,h.k4,h.k5,h.k6,h.k7,h.k8,h.k9,h.kn,h.d10,h.d11,h.ty,h.st,h.be,h.sz⟩⟩
    ·have m:v=false:=by simpa using u
     have c1:b1=true:=by simpa using s ⟨1,.data⟩ ay rfl
     have q0:=kki h.st;obtain rfl:=h.k1 c1;refine kk6 rfl rfl (λK k=>?_);unfold zxl;go_simp;refine k _ _ ⟨b0,b1,true,b3,b4,b5,b6,b7,b8,b9,f,i,_,_,_,_,_,_,_,_,_,_,rfl,rfl,⟨h.k0,λ_=>rfl,λ_=>rfl,h.k3,h.k4,h.k5,h.k6,h.k7,h.k8,h.k9,h.kn,h.d10,h.d11,h.ty,h.st,h.be,h.sz⟩⟩
    ·have m:b3=false:=by simpa using u
     have c0:b0=true:=by simpa using s ⟨0,.data⟩ ay rfl
     have c2:v=true:=by simpa using s ⟨2,.data⟩ ay rfl
     obtain rfl:=h.k0 c0;obtain rfl:=h.k2 c2;refine kk6 rfl rfl (λK k=>?_);unfold zxl;go_simp;go_at_call 244
     refine(O wx h.be).mono ?_;rintro e G ⟨rfl,t⟩;dsimp only;refine k _ _ ⟨b0,b1,v,true,b4,b5,b6,b7,b8,b9,f,i,_,_,_,_,_,_,_,_,_,_,rfl,rfl,⟨λ_=>rfl,h.k1,λ_=>rfl,λ_=>rfl,h.k4,h.k5,h.k6,h.k7,λb=>by
       obtain⟨g,c,y,z,A,x,B⟩:=h.k8 b;exact⟨g,c,y,z,A,(t.block g<|wQ x).trans x,B⟩,λb=>by obtain⟨g,c,y,z,A,x,B⟩:=h.k9 b;exact⟨g,c,y,z,A,(t.block g<|wQ x).trans x,B⟩,h.kn,h.d10,h.d11,(t.block _<|wQ h.ty).trans h.ty,(t.block _<|wQ h.st).trans h.st,h.be.trans<|t.mono h.be.size,rP h.sz t.size⟩⟩
    ·have m:b4=false:=by simpa using u
     have t0:=kj6 h.ty;refine kk6 rfl rfl (λK k=>?_);unfold zxl;go_simp;refine k _ _ ⟨b0,b1,v,b3,true,b5,b6,b7,b8,b9,f,i,_,_,_,_,_,_,_,_,_,_,rfl,rfl,⟨h.k0,h.k1,h.k2,h.k3,λ_=>rfl,h.k5,h.k6,h.k7,h.k8,h.k9,h.kn,h.d10,h.d11,h.ty,h.st,h.be,h.sz⟩⟩
    ·have m:b5=false:=by simpa using u
     refine kk6 rfl rfl (λK k=>?_);unfold zxl;go_simp;refine k _ _ ⟨b0,b1,v,b3,b4,true,b6,b7,b8,b9,f,i,_,_,_,_,_,_,_,_,_,_,rfl,rfl,⟨h.k0,h.k1,h.k2,h.k3,h.k4,λ_=>rfl,h.k6,h.k7,h.k8,h.k9,h.kn,h.d10,h.d11,h.ty,h.st,h.be,h.sz⟩⟩
    ·have m:b6=false:=by simpa using u
     have c5:b5=true:=by simpa using s ⟨5,.data⟩ ay rfl
     have q0:=kki h.st;obtain rfl:=h.k5 c5;refine kk6 rfl rfl (λK k=>?_);unfold zxl;go_simp;refine k _ _ ⟨b0,b1,v,b3,b4,b5,true,b7,b8,b9,f,i,_,_,_,_,_,_,_,_,_,_,rfl,rfl,⟨h.k0,h.k1,h.k2,h.k3,h.k4,λ_=>rfl,λ_=>rfl,h.k7,h.k8,h.k9,h.kn,h.d10,h.d11,h.ty,h.st,h.be,h.sz⟩⟩
    ·have m:b7=false:=by simpa using u
     have c4:b4=true:=by simpa using s ⟨4,.data⟩ ay rfl
     have c6:b6=true:=by simpa using s ⟨6,.data⟩ ay rfl
     obtain rfl:=h.k4 c4;obtain rfl:=h.k6 c6;refine kk6 rfl rfl (λK k=>?_);unfold zxl;go_simp;go_at_call 217
     refine(Y wx h.be).mono ?_;rintro e G ⟨rfl,t⟩;dsimp only;refine k _ _ ⟨b0,b1,v,b3,b4,b5,b6,true,b8,b9,f,i,_,_,_,_,_,_,_,_,_,_,rfl,rfl,⟨h.k0,h.k1,h.k2,h.k3,λ_=>rfl,h.k5,λ_=>rfl,λ_=>rfl,λb=>by
       obtain⟨g,c,y,z,A,x,B⟩:=h.k8 b;exact⟨g,c,y,z,A,(t.block g<|wQ x).trans x,B⟩,λb=>by obtain⟨g,c,y,z,A,x,B⟩:=h.k9 b;exact⟨g,c,y,z,A,(t.block g<|wQ x).trans x,B⟩,h.kn,h.d10,h.d11,(t.block _<|wQ h.ty).trans h.ty,(t.block _<|wQ h.st).trans h.st,h.be.trans<|t.mono h.be.size,rP h.sz t.size⟩⟩
    ·have m:b8=false:=by simpa using u
     refine kk6 rfl rfl (λK k=>?_);unfold zxl;go_simp;refine k _ _ ⟨b0,b1,v,b3,b4,b5,b6,b7,true,b9,f,i,_,_,_,_,_,_,_,_,_,_,rfl,rfl,⟨h.k0,h.k1,h.k2,h.k3,h.k4,h.k5,h.k6,h.k7,λ_=>⟨wx.heap.size,_,_,rfl,h.sz,jF,λb=>by rw[h.d10 b]at m;cases m⟩,λb=>by
       obtain⟨g,c,y,z,A,x,B⟩:=h.k9 b;exact⟨g,c,y,z,A,zy x,B⟩,λ_ b e=>by obtain⟨g,c,y,z,A,x,B⟩:=h.k9 b;grind,λ_=>rfl,h.d11,zy h.ty,zy h.st,h.be.alloc h.be.size _,by simp;exact Nat.le_succ_of_le h.sz⟩⟩
    ·have m:b9=false:=by simpa using u
     refine kk6 rfl rfl (λK k=>?_);unfold zxl;go_simp;refine k _ _ ⟨b0,b1,v,b3,b4,b5,b6,b7,b8,true,f,i,_,_,_,_,_,_,_,_,_,_,rfl,rfl,⟨h.k0,h.k1,h.k2,h.k3,h.k4,h.k5,h.k6,h.k7,λb=>by
       obtain⟨g,c,y,z,A,x,B⟩:=h.k8 b;exact⟨g,c,y,z,A,zy x,B⟩,λ_=>⟨wx.heap.size,_,_,rfl,h.sz,jF,λb=>by rw[h.d11 b]at m;cases m⟩,λb _ e=>by obtain⟨g,c,y,z,A,x,B⟩:=h.k8 b;grind,h.d10,λ_=>rfl,zy h.ty,zy h.st,h.be.alloc h.be.size _,by simp;exact Nat.le_succ_of_le h.sz⟩⟩
    ·have m:f=false:=by simpa using u
     have c8:b8=true:=by simpa using s ⟨8,.data⟩ ay rfl
     have c3:b3=true:=by simpa using s ⟨3,.data⟩ ay rfl
     obtain⟨g,c,y,rfl,X,C,_⟩:=h.k8 c8;obtain rfl:=h.k3 c3;have z0:=kj6 C;refine kk6 rfl rfl (λK k=>?_);unfold zxl;go_simp;refine k _ _ ⟨b0,b1,v,b3,b4,b5,b6,b7,b8,b9,true,i,_,_,_,_,_,_,_,_,_,_,rfl,rfl,⟨h.k0,h.k1,h.k2,λ_=>rfl,h.k4,h.k5,h.k6,h.k7,λ_=>⟨g,_,_,rfl,X,set2 C,λ_=>⟨rfl,rfl⟩⟩,λb=>by
       obtain⟨H,x2,y2,f1,f2,f3,f4⟩:=h.k9 b;refine⟨H,x2,y2,f1,f2,?_,f4⟩;have a1:H≠g:=λe=>h.kn c8 b (by rw[f1,e])
       grind [Below.heap_setCell],h.kn,λ_=>c8,h.d11,jY,jK,(h.be.setCell (by omega:w.heap.size<=g) _).setCell (by omega:w.heap.size<=g) _,by simpa[World.setCell] using h.sz⟩⟩
    ·have m:i=false:=by simpa using u
     have c9:b9=true:=by simpa using s ⟨9,.data⟩ ay rfl
     have c7:b7=true:=by simpa using s ⟨7,.data⟩ ay rfl
     obtain⟨g,c,y,rfl,X,C,_⟩:=h.k9 c9;obtain rfl:=h.k7 c7;have z0:=kj6 C;refine kk6 rfl rfl (λK k=>?_);unfold zxl;go_simp;refine k _ _ ⟨b0,b1,v,b3,b4,b5,b6,b7,b8,b9,f,true,_,_,_,_,_,_,_,_,_,_,rfl,rfl,⟨h.k0,h.k1,h.k2,h.k3,h.k4,h.k5,h.k6,λ_=>rfl,λb=>by
       obtain⟨H,x2,y2,f1,f2,f3,f4⟩:=h.k8 b;refine⟨H,x2,y2,f1,f2,?_,f4⟩;have a1:H≠g:=λe=>h.kn b c9 (by rw[f1,e])
       grind [Below.heap_setCell],λ_=>⟨g,_,_,rfl,X,set2 C,λ_=>⟨rfl,rfl⟩⟩,h.kn,h.d10,λ_=>c9,jY,jK,(h.be.setCell (by omega:w.heap.size<=g) _).setCell (by omega:w.heap.size<=g) _,by simpa[World.setCell] using h.sz⟩⟩
   ·intro l a wx V N;obtain⟨b0,b1,v,b3,b4,b5,b6,b7,b8,b9,f,i,u5,u6,a6,a7,a8,a9,aA,aB,aC,aD,rfl,rfl,h⟩:=V;have no:∀j:Nat,¬j∈Region.ready .any _ #[b0,b1,v,b3,b4,b5,b6,b7,b8,b9,f,i]:=λj=>by rw[N];simp
    obtain rfl:b0=true:=by
     cases b0 with
     |true=>rfl
     |false=>exact(no 0<|mem_ready.2 ⟨rfl,_,rfl,ay⟩).elim
    obtain rfl:b1=true:=by
     cases b1 with
     |true=>rfl
     |false=>exact(no 1<|mem_ready.2 ⟨rfl,_,rfl,ay⟩).elim
    obtain rfl:v=true:=by
     cases v with
     |true=>rfl
     |false=>exact(no 2<|mem_ready.2 ⟨rfl,_,rfl,ay⟩).elim
    obtain rfl:b3=true:=by
     cases b3 with
     |true=>rfl
     |false=>exact(no 3<|mem_ready.2 ⟨rfl,_,rfl,ay⟩).elim
    obtain rfl:b4=true:=by
     cases b4 with
     |true=>rfl
     |false=>exact(no 4<|mem_ready.2 ⟨rfl,_,rfl,ay⟩).elim
    obtain rfl:b5=true:=by
     cases b5 with
     |true=>rfl
     |false=>exact(no 5<|mem_ready.2 ⟨rfl,_,rfl,ay⟩).elim
    obtain rfl:b6=true:=by
     cases b6 with
     |true=>rfl
     |false=>exact(no 6<|mem_ready.2 ⟨rfl,_,rfl,ay⟩).elim
    obtain rfl:b7=true:=by
     cases b7 with
     |true=>rfl
     |false=>exact(no 7<|mem_ready.2 ⟨rfl,_,rfl,ay⟩).elim
    obtain rfl:b8=true:=by
     cases b8 with
     |true=>rfl
     |false=>exact(no 8<|mem_ready.2 ⟨rfl,_,rfl,ay⟩).elim
    obtain rfl:b9=true:=by
     cases b9 with
     |true=>rfl
     |false=>exact(no 9<|mem_ready.2 ⟨rfl,_,rfl,ay⟩).elim
    obtain rfl:f=true:=by
     cases f with
     |true=>rfl
     |false=>exact(no 10<|mem_ready.2 ⟨rfl,_,rfl,ay⟩).elim
    obtain rfl:i=true:=by
     cases i with
     |true=>rfl
     |false=>exact(no 11<|mem_ready.2 ⟨rfl,_,rfl,ay⟩).elim
    obtain⟨D,x5,y5,rfl,aG,Q,a4⟩:=h.k8 rfl;obtain⟨g6,x6,y6,rfl,aH,R,a5⟩:=h.k9 rfl;obtain⟨rfl,rfl⟩:=a4 rfl;obtain⟨rfl,rfl⟩:=a5 rfl;obtain⟨v0,v1,_⟩:=kj6 Q;obtain⟨v2,v3,_⟩:=kj6 R;unfold zxl;go_wp21;go_meet
    exact⟨D,g6,rfl,rfl,⟨v0,v1⟩,⟨v2,v3⟩,wQ Q,wQ R,h.be⟩
  case rest=>
   obtain⟨D,g6,rfl,rfl,⟨c0,c1⟩,⟨d0,d1⟩,l5,l6,hb⟩:=hcut;go_wp21;refine(vjw _ F tx).mono ?_;rintro r w3 ⟨rfl,L⟩;have e0:=(L.cell (p:=⟨D,0,none⟩) l5).trans c0;have z:=(L.cell (p:=⟨g6,0,none⟩) l6).trans d0;have aE:=(oz hb).trans<|L.mono hb.size;generalize aF:kwx F tx=sm;cases sm
   ·cases h4:(F.b==4)
    ·go_wp2;go_ret;simp_all
    ·go_wp2;go_ret;simp_all
   ·go_wp2;go_ret;simp_all
def zz8:PB->Prop
 |.nil=>True
 |.node _ _ _ .nil n=>zz8 n
 |.node _ _ _ (.node _ _ _ t e) n=>qv1 t/\qv1 e/\zz8 n
def xy6(W:World)(so:Nat)(no:Option Nat)(tab:Tab)(l:List PP)(fin:Bool)(len:Nat)(cs:List Value)(i:Value)(wr:World):Prop:=
 ∃(k:Nat)(rest:PB),k+kqq rest=len/\i=.int .i64 k/\BIs so no wr rest (cs.drop<|k*9)/\zz8 rest/\ky6 rest/\qzh rest/\(∀y∈je rest,y.x.size<=1000)/\kkj tab l rest=fin/\oq W wr
theorem pzg(h:p=.node 0 0 d6 .nil .nil):plC p=[.string d6.y.x,.int .i64 d6.y.v,.bool (!(d6.c.t.toList==[])),.string d6.c.x,.int .i64 d6.c.v]/\pwu p=kzu d6.y d6.c/\qj9 p=d6.y.x:=by subst h;exact⟨rfl,rfl,rfl⟩
theorem zvj{g7:PB}(hI:zz8 g7):qv1 g7:=by
 intro w bb lo so no tab l pa pn pc v cs hM aC ho hl hv aG c A aP h;obtain⟨xa,cap,rfl,P⟩:=qp hv;obtain⟨W,hW⟩:=cpy<|w.alloc (.cells #[.map (some bb),.slice pa pn pc] 301);have J:oq w W:=by rw[hW];exact jZ _
 have aQ:W.heap.size=w.heap.size+1:=by simp_all
 have aD:Hid (W.heap[w.heap.size]?=some (.cells #[.map (some bb),.slice pa pn pc] 301 (0,0))):=kK;have HW:=oz (show ∀i,i<kqq g7->∃g,xa=some ⟨g,0,none⟩/\∀j,j<kqq g7*9->∀u,cs[j]?=some u->W.cell? ⟨g,j,none⟩=some u from λi hi=>by obtain⟨g,rfl,_,hg,N⟩:=P i hi;exact⟨g,rfl,λj U u hu=>(J.cell (p:=⟨g,j,none⟩) hg).trans<|(N j U).trans hu⟩)
 have HR:=show xy6 W so no tab l (kkj tab l g7) (kqq g7) cs (.int .i64 0) W from⟨0,g7,aj,rfl,by simpa using aG.stay (λk _ b=>J.block k b),hI,c,A,h,rfl,bR⟩
 have HM:=hM.kept J;have HO:=qj ho J;have aE:=oz hW.symm;generalize kkj tab l g7=fin at *;generalize kqq g7=len at *;clear P h hW;unfold tyV;go_in;go_upto_region 2 with fail
 rw[ku aE];go_loopw [6,9] (λ_ i wr=>xy6 W so no tab l fin len cs i wr) (λ_ i _=>len-(intOf i).toNat);exact HR;obtain⟨k,rest,b,rfl,C,z,c,A,h,(L:Hid _),m⟩:=hrel;have aA:=m.size;have a3:=oz<|(m.block w.heap.size aj).trans aD;have t0:=kj6 a3;have aR:=wQ a3;have a1:=HM.kept m;have a2:=qj HO m;match rest,C,z,c,A,h,L,b with
 |.nil,C,z,c,A,h,L,b=>
  have aO:¬k<len:=oG;clear h b;go_wp2;go_ret;exact⟨by rw[<-ku L];rfl,J.trans<|m.mono aj⟩
 |.node _ _ la .nil nx,C,z,c,A,h,L,b=>
  obtain⟨p,aN,S,hx,aK⟩:=C;have X:k<len:=oG;obtain⟨g,rfl,N⟩:=ku HW k X;obtain⟨⟨R,f,a,Y,a6⟩,M⟩:=A;obtain⟨H,O,a5⟩:=pzg Y;obtain⟨T,G⟩:=qjc S<|qzl;have cc:∀j,j<9->∀u,(stC false la (.pointer p) (.slice none 0 0)<|.slice none 0 0)[j]?=some u->wr.cell? ⟨g,k*9+j,none⟩=some u:=λj U u hu=>wU m<|N (k*9+j) aj u ((G j U).trans hu)
  unfold stC at cc;rw[H]at cc;have e0:=cc 0 aj _ rfl;have e1:=cc 1 aj _ rfl;have e2:=cc 2 aj _ rfl;have e3:=cc 3 aj _ rfl;have e4:=cc 4 aj _ rfl;have e5:=cc 5 aj _ rfl;have e6:=cc 6 aj _ rfl;have e7:=cc 7 aj _ rfl;have e8:=cc 8 aj _ rfl;simp only[Qk]at e0;have Z:∀y∈kzu a.y a.c,y.x.size<=1000:=λy x=>h y (by rw[je,O];simp[x])
  have a9:∀y∈bf la.value,y.x.size<=1000:=λy x=>h y oV
  have I:∀y∈je nx,y.x.size<=1000:=λy x=>h y oV
  have a4:a.y.x.size<=1000:=Z _ (by unfold kzu;split<;>simp);have aB:gy tab l la.N=kxj tab l a.y a.c:=by rw[Y,gy,a6];rfl
  have E:=oz (by rw[<-ku L,kkj,jwd,a5,aB]:(((zl tab a.y.x.toList).V==4)&&(kwx (kxj tab l a.y a.c) (gy tab l la.value)||((kxj tab l a.y a.c).b==4&&(gy tab l la.value).b==5))&&kkj tab l nx)=fin);have Q:=show BIs so no wr nx (cs.drop<|(k+1)*9) by simp_all
  have F:=vj0 (w:=wr.alloc<|.cells #[.bool false,.string a.y.x,.int .i64 a.y.v,.bool<|!(a.c.t.toList==[]),.string a.c.x,.int .i64 a.c.v,.pointer p,.slice none 0 0,.slice none 0 0] 334) (a1.kept<|jZ _) aC (a2.alloc _) hl (hx.below<|jZ _) R f a9 Z a4;have q:=oz (⟨z,c,M,I⟩:zz8 nx/\ky6 nx/\qzh nx/\∀y∈je nx,y.x.size<=1000);have V:k+1+kqq nx=len:=oG;unfold smV tyV at F;generalize (((zl tab a.y.x.toList).V==4)&&(kwx (kxj tab l a.y a.c) (gy tab l la.value)||((kxj tab l a.y a.c).b==4&&(gy tab l la.value).b==5)))=s at *;generalize (!(a.c.t.toList==[]))=d at *;clear cc N G T S H O a5 Y a6 aB h Z a9 I a4 f b;go_wp21;refine F.mono ?_;rintro r w2 ⟨rfl,f⟩;have D:=m.trans<|((jZ wr).trans<|f.mono ay).mono aA;have K:=(jZ wr (o:=.cells #[.bool false,.string a.y.x,.int .i64 a.y.v,.bool d,.string a.c.x,.int .i64 a.c.v,.pointer p,.slice none 0 0,.slice none 0 0] 334)).trans<|f.mono ay;cases s
  ·go_wp2;go_ret;exact⟨by rw[<-ku E];rfl,J.trans<|D.mono aj⟩
  ·go_wp2;exact rdM ⟨k+1,nx,V,eu,Q.stay (λk _ b=>K.block k b),q.1,q.2.1,q.2.2.1,q.2.2.2,by rw[<-ku E];rfl,D⟩
 |.node _ _ la (.node _ _ _ t e) nx,C,z,c,A,h,L,b=>
  obtain⟨p,ta,tn,tc,ea,en,ec,ct,ce,aN,S,hx,⟨aL,_,aM⟩,⟨aI,_,aJ⟩,aK⟩:=C;have X:k<len:=oG;obtain⟨g,rfl,N⟩:=ku HW k X;obtain⟨n,i,H,O⟩:=jqf la.N;obtain⟨⟨R,f⟩,aH,aF,M⟩:=A;obtain⟨T,G⟩:=qjc S<|qzl;have cc:∀j,j<9->∀u,(stC true la (.pointer p) (.slice ta tn tc)<|.slice ea en ec)[j]?=some u->wr.cell? ⟨g,k*9+j,none⟩=some u:=λj U u hu=>wU m<|N (k*9+j) aj u ((G j U).trans hu)
  unfold stC at cc;rw[H]at cc;have e0:=cc 0 aj _ rfl;have e1:=cc 1 aj _ rfl;have e2:=cc 2 aj _ rfl;have e3:=cc 3 aj _ rfl;have e4:=cc 4 aj _ rfl;have e5:=cc 5 aj _ rfl;have e6:=cc 6 aj _ rfl;have e7:=cc 7 aj _ rfl;have e8:=cc 8 aj _ rfl;simp only[Qk]at e0;have a7:∀y∈bf la.A,y.x.size<=1000:=λy x=>h y oV
  have a0:∀y∈je t,y.x.size<=1000:=λy x=>h y oV
  have a8:∀y∈je e,y.x.size<=1000:=λy x=>h y oV
  have I:∀y∈je nx,y.x.size<=1000:=λy x=>h y oV
  have E:=oz (by rw[<-ku L,kkj]:((((gy tab l la.A).b==1&&kkj tab l t)&&kkj tab l e)&&kkj tab l nx)=fin);have Q:=show BIs so no wr nx (cs.drop<|(k+1)*9) by simp_all
  have B:∀o:Obj,oq wr (wr.alloc o):=λo=>jZ _
  have F:=vv0 (w:=wr.alloc<|.cells #[.bool true,.string n.x,.int .i64 n.v,.bool<|!(i.t.toList==[]),.string i.x,.int .i64 i.v,.pointer p,.slice ta tn tc,.slice ea en ec] 334) no n i t e ta tn tc ea en ec ct ce (a1.kept<|B _) aC (a2.alloc _) hl (hx.below<|B _) R f a7
   z.1 (qj aL<|B _) (aM.stay λk _ b=>(B _).block k b) c.1.1 aH c.1.2 a0 z.2.1 (qj aI<|B _) (aJ.stay λk _ b=>(B _).block k b) c.2.1.1 aF c.2.1.2 a8
  have q:=oz (⟨z.2.2,c.2.2,M,I⟩:zz8 nx/\ky6 nx/\qzh nx/\∀y∈je nx,y.x.size<=1000);have V:k+1+kqq nx=len:=oG;unfold smV tyV at F;generalize (((gy tab l la.A).b==1&&kkj tab l t)&&kkj tab l e)=s at *;generalize (!(i.t.toList==[]))=d at *;clear cc N G T S H O h a7 a0 a8 I f b B;go_wp21;refine F.mono ?_;rintro r w2 ⟨rfl,f⟩;have D:=m.trans<|((jZ wr).trans<|f.mono ay).mono aA;have K:=(jZ wr (o:=.cells #[.bool true,.string n.x,.int .i64 n.v,.bool d,.string i.x,.int .i64 i.v,.pointer p,.slice ta tn tc,.slice ea en ec] 334)).trans<|f.mono ay;cases s
  ·go_wp2;go_ret;exact⟨by rw[<-ku E];rfl,J.trans<|D.mono aj⟩
  ·go_wp2;exact rdM ⟨k+1,nx,V,eu,Q.stay (λk _ b=>K.block k b),q.1,q.2.1,q.2.2.1,q.2.2.2,by rw[<-ku E];rfl,D⟩
theorem qzy:∀b:PB,zz8 b
 |.nil=>trivial
 |.node _ _ _ .nil n=>qzy n
 |.node _ _ _ (.node _ _ _ t e) n=>⟨zvj<|qzy t,zvj<|qzy e,qzy n⟩
theorem xqw(b:PB):qv1 b:=zvj<|qzy b
structure MdTy (m:MdL):Prop where
 l:∀r∈m.l,qj4 r.guard/\isNil r.guard=false/\qzh r.S
 q:∀r∈m.q,qj4 r.guard/\isNil r.guard=false
def vkg{α:Type}(W:World)(f:α->Bool)(items:List α)(i:Value)(wr:World):Prop:=
 ∃k:Nat,k<=items.length/\i=.int .i64 k/\(items.drop k).all f=items.all f/\oq W wr
theorem vkg.start{W wr:World}{f:α->Bool}(hb:oq W wr):vkg W f items (.int .i64 0) wr:=⟨0,jR,rfl,rfl,hb⟩
theorem jzp{f:α->Bool}(a:lo<items.length)(h:(items.drop lo).all f=items.all f):items.all f=(f items[lo]&&(items.drop (lo+1)).all f):=by grind [List.drop_eq_getElem_cons]
theorem jzd{f:α->Bool}(a:¬lo<items.length)(h:(items.drop lo).all f=items.all f):items.all f=true:=by grind [List.drop_of_length_le]
theorem jw6(h:kwm lo w x0 x1 x2 x3 x4 m)(hM:kj5 w b tab)(S:zj4 tab)(aT:MdOk m)(aE:MdNm m)(aF:MdTy m):Calls prog 94 #[.agg #[x0,x1,x2,x3,x4],.map (some b)] w λe w'=>e=.returned (.bool<|qqf tab m)/\oq w w':=by
 obtain⟨h0,⟨c1,h1,k1⟩,h2,⟨c3,h3,aJ⟩,⟨c4,h4,aK⟩⟩:=h;obtain⟨_,_,_,aV,aW,_,_⟩:=aT;obtain⟨W,Z⟩:=cpy<|w.alloc (.cells #[x0,x1,x2,x3,x4] 68);have I:oq w W:=by rw[Z];exact jZ _
 have aX:W.heap.size=w.heap.size+1:=by simp_all
 have a6:Hid (W.heap[w.heap.size]?=some (.cells #[x0,x1,x2,x3,x4] 68 (0,0))):=by rw[Z];exact qy
 have vw:∀{e size:Nat}{v:Value}{n:Nat}{xs:List Value},w.ownsRow lo e size v n xs->∃a cap,v=.slice a n cap/\∀i,i<n->∃g,a=some ⟨g,0,none⟩/\∀j,j<n*size->∀u,xs[j]?=some u->W.cell? ⟨g,j,none⟩=some u:=by intro e size v n xs h;obtain⟨a,cap,N,hv⟩:=qp h;refine⟨a,cap,N,λi hi=>?_⟩;obtain⟨g,O,_,hg,s⟩:=hv i hi;exact⟨g,O,λj hj u hu=>(I.cell (p:=⟨g,j,none⟩) hg).trans<|(s j hj).trans hu⟩
 obtain⟨a0,l0,n0,rfl⟩:=qh h0;obtain⟨a1,l1,n1,rfl⟩:=qh h1;obtain⟨a2,l2,n2,rfl⟩:=qh h2;obtain⟨a3,p3,rfl,(aN:Hid _)⟩:=vw h3;obtain⟨a4,p4,rfl,(aO:Hid _)⟩:=vw h4;have HM:=oz hM;have m0:=jl a6;have aQ:=oz Z.symm;have aL:=vkg.start (W:=W) (wr:=W) (f:=zql tab) (items:=m.l)<|bR;have K:=oz (show qqf tab m=(m.l.all (zql tab)&&m.q.all (vw6 tab)) from rfl);generalize qqf tab m=fin at *;clear Z vw;go_in
 go_upto_region 1 with fail
 rw[ku aQ];go_wp21;go_loopw [6,7,14] (λ_ _ i wr=>vkg W (zql tab) m.l i wr) (λ_ _ i _=>m.l.length-(intOf i).toNat);exact aL;obtain⟨k,hk,rfl,q,c⟩:=hrel;have G:=c.size;by_cases l:k<m.l.length
 ·obtain⟨g,rfl,s⟩:=ku aN k l;obtain⟨pa,pn,pc,gp,ba,bn,bc,aR,⟨f0,f1,f2,f3,f4⟩,B,E,aD,aC⟩:=vjd k l aJ;have e0:=wU c<|s (k*5) aj _ f0;have N:=wU c<|s (k*5+1) aj _ f1;have O:=wU c<|s (k*5+2) aj _ f2;have e3:=wU c<|s (k*5+3) aj _ f3;have e4:=wU c<|s (k*5+4) aj _ f4;have d:=oz<|jzp l q;obtain⟨t,H,y,aG,U,V⟩:=aE.l _<|wZ l;obtain⟨y1,y2,y3⟩:=aF.l _<|wZ l;generalize m.l[k]=r at e0 N O e3 e4 B E aD aC t H y aG U V y1 y2 y3 d;obtain⟨X,x⟩:=cpy<|(wr.alloc<|.cells #[.string r.y.x,.int .i64 r.y.v,.slice pa pn pc,.pointer gp,.slice ba bn bc] 127).alloc (.cells #[.map (some b),.slice pa pn pc] 301);have C:oq wr X:=by rw[x];exact kxw _
  have aU:X.heap.size=wr.heap.size+2:=by simp_all
  have a7:Hid (X.heap[wr.heap.size]?=some (.cells #[.string r.y.x,.int .i64 r.y.v,.slice pa pn pc,.pointer gp,.slice ba bn bc] 127 (0,0))):=by rw[x];exact zy<|qy
  have a8:Hid (X.heap[wr.heap.size+1]?=some (.cells #[.map (some b),.slice pa pn pc] 301 (0,0))):=by rw[x];have:=qy (w:=wr.alloc<|.cells #[.string r.y.x,.int .i64 r.y.v,.slice pa pn pc,.pointer gp,.slice ba bn bc] 127) (o:=.cells #[.map (some b),.slice pa pn pc] 301);simp_all
  have J:oq w X:=I.trans<|(c.trans<|C.mono G).mono aj;have L:=qy1 (HM.kept J) S (qj B J) t (E.below J) y1 y2 y;have aI:=oz (λ(Y:World)(h1:oq w Y)=>xqw r.S Y b lo lo none tab r.u pa pn pc (.slice ba bn bc) aR (HM.kept h1) S (qj B h1) t (qj aD h1) (aC.stay λk _ hk=>h1.block k hk) aG y3 U V);have F:zql tab r=((gy tab r.u r.guard).b==1&&kkj tab r.u r.S):=rfl;rw[F]at d;have M:=oz x.symm;have q0:=jl a7;have t0:=kj6 a8;generalize (gy tab r.u r.guard).b=fc at *;generalize kkj tab r.u r.S=gb at *;unfold tyV at *;clear s f0 f1 f2 f3 f4 t H y U V y2 x q F;go_upto_region 5 with fail
  rw[ku M];go_wp21;refine L.mono ?_;rintro e Y ⟨rfl,A⟩;have P:=(A.block wr.heap.size aj).trans a7;have Q:=(A.block (wr.heap.size+1) aj).trans a8;have z:=c.trans<|(C.trans<|A.mono aj).mono G;have aP:=J.trans<|A.mono aj;have aH:=aI Y aP;clear q0 t0;have q0:=jl P;have t0:=kj6 Q;clear P Q;cases D:(fc==1)
  ·rw[D]at d;go_wp2;go_ret;exact⟨by rw[ku K,ku d];rfl,I.trans<|z.mono aj⟩
  ·rw[D]at d;go_wp21;refine aH.mono ?_;rintro e w2 ⟨rfl,aS⟩;have a5:=z.trans<|aS.mono z.size;cases gb
   ·go_wp2;go_ret;exact⟨by rw[ku K,ku d];rfl,I.trans<|a5.mono aj⟩
   ·go_wp2;exact rdM ⟨k+1,aj,eu,lD,a5⟩
 ·have R:=jzd l q;rw[R,QZ]at K;have a9:=(c.block w.heap.size aj).trans a6;have z4:=jl a9;have aM:=vkg.start (W:=W) (wr:=wr) (f:=vw6 tab) (items:=m.q) c;clear R q a9 m0;go_wp21;go_loopw [9,10,38] (λ_ _ i wr=>vkg W (vw6 tab) m.q i wr) (λ_ _ i _=>m.q.length-(intOf i).toNat);exact aM;obtain⟨k,hk,rfl,q,c⟩:=hrel;have G:=c.size;by_cases l:k<m.q.length
  ·obtain⟨g,rfl,s⟩:=ku aO k l;obtain⟨pa,pn,pc,gp,⟨f0,f1,f2,f3⟩,B,E⟩:=vz0 k l aK;have e0:=wU c<|s (k*4) aj _ f0;have N:=wU c<|s (k*4+1) aj _ f1;have O:=wU c<|s (k*4+2) aj _ f2;have e3:=wU c<|s (k*4+3) aj _ f3;have d:=oz<|jzp l q;obtain⟨t,H,y⟩:=aE.q _<|wZ l;obtain⟨y1,y2⟩:=aF.q _<|wZ l;generalize m.q[k]=r at e0 N O e3 B E t H y y1 y2 d;obtain⟨X,x⟩:=cpy<|(wr.alloc<|.cells #[.string r.y.x,.int .i64 r.y.v,.slice pa pn pc,.pointer gp] 130).alloc (.cells #[.map (some b),.slice pa pn pc] 301);have C:oq wr X:=by rw[x];exact kxw _
   have aU:X.heap.size=wr.heap.size+2:=by simp_all
   have aA:X.heap[wr.heap.size]?=some (.cells #[.string r.y.x,.int .i64 r.y.v,.slice pa pn pc,.pointer gp] 130 (0,0)):=by rw[x];exact zy<|qy
   have aB:X.heap[wr.heap.size+1]?=some (.cells #[.map (some b),.slice pa pn pc] 301 (0,0)):=by rw[x];have:=qy (w:=wr.alloc<|.cells #[.string r.y.x,.int .i64 r.y.v,.slice pa pn pc,.pointer gp] 130) (o:=.cells #[.map (some b),.slice pa pn pc] 301);simp_all
   have T:oq w X:=I.trans<|(c.trans<|C.mono G).mono aj;have L:=qy1 (HM.kept T) S (qj B T) t (E.below T) y1 y2 y;have F:vw6 tab r=((gy tab r.u r.guard).b==1):=rfl;rw[F]at d;have M:=oz x.symm;have q0:=kz3 aA;have t0:=kj6 aB;generalize (gy tab r.u r.guard).b=fc at *;unfold tyV at *;clear s f0 f1 f2 f3 t H y y2 x aA aB q F;go_upto_region 12 with fail
   rw[ku M];go_wp21;refine L.mono ?_;rintro e Y ⟨rfl,A⟩;have z:=c.trans<|(C.trans<|A.mono aj).mono G;clear q0 t0;cases D:(fc==1)
   ·rw[D]at d;go_wp2;go_ret;exact⟨by rw[ku K,ku d];rfl,I.trans<|z.mono aj⟩
   ·rw[D]at d;go_wp2;exact rdM ⟨k+1,aj,eu,lD,z⟩
  ·have R:=jzd l q;rw[R]at K;clear R q;go_wp2;go_ret;exact⟨by rw[ku K];rfl,I.trans<|c.mono aj⟩
def zzx(m:MdL):Int×Int:=
 if 0<=qz2 m then (4,qz2 m) else if 0<=qxk (qm m) m then (5,qxk (qm m) m) else if qqf (qm m) m then (0,0) else (6,0)
structure MdAll (m:MdL):Prop where
 ok:MdOk m
 sz:MdSz m
 nm:MdNm m
 ty:MdTy m
 C:zj4 (qm m)
theorem kwm.below(h:kwm lo w x0 x1 x2 x3 x4 m)(hb:oq w w'):kwm lo w' x0 x1 x2 x3 x4 m:=h.stay λk _ a=>hb.block k a
theorem pzw(h:kwm lo w x0 x1 x2 x3 x4 m)(c:MdAll m):Calls prog 53 #[.agg #[x0,x1,x2,x3,x4]] w λe w'=>e=.returned (.tuple #[.int .i64 (zzx m).1,.int .i64 (zzx m).2])/\oq w w':=by
 obtain⟨⟨a0,n0,k0,rfl⟩,⟨a1,n1,k1,rfl⟩,⟨a2,n2,k2,rfl⟩,⟨a3,n3,k3,rfl⟩,⟨a4,n4,k4,rfl⟩⟩:=qws h;obtain⟨W,q⟩:=cpy<|w.alloc (.cells #[.slice a0 n0 k0,.slice a1 n1 k1,.slice a2 n2 k2,.slice a3 n3 k3,.slice a4 n4 k4] 68);have H:oq w W:=by rw[q];exact jZ _
 have a6:W.heap.size=w.heap.size+1:=by simp_all
 have B:Hid (W.heap[w.heap.size]?=some (.cells #[.slice a0 n0 k0,.slice a1 n1 k1,.slice a2 n2 k2,.slice a3 n3 k3,.slice a4 n4 k4] 68 (0,0))):=by rw[q];exact qy
 have E:=oz (show zzx m=if 0<=qz2 m then (4,qz2 m) else if 0<=qxk (qm m) m then (5,qxk (qm m) m) else if qqf (qm m) m then (0,0) else (6,0) from rfl);have L:=jwo (h.below H) c.ok;obtain⟨U,O,K,M⟩:=jb (λ(d:World)(h1:oq w d)=>vwn (h.below h1) c.ok c.sz) (λ(d:World) (b:Nat) (h1:oq w d) (G:kj5 d b (qm m))=>jx0 (h.below h1) G c.ok c.sz c.nm) (λ(d:World) (b:Nat) (h1:oq w d) (G:kj5 d b (qm m))=>jw6 (h.below h1) G c.C c.ok c.nm c.ty) q.symm;have g:=jl B;generalize zzx m=R at *;generalize qz2 m=P at *;generalize qxk (qm m) m=N at *;generalize qqf (qm m) m=T at *;generalize qm m=tab at *;clear q;go_in;go_upto_region 1 with fail
 rw[ku M];go_wp21;refine L.mono ?_;rintro e d ⟨rfl,l⟩;have s:=H.trans<|l.mono aj;have j:=oz<|(l.block w.heap.size aj).trans B;have a7:=l.size;clear g;have g:=jl j;have Y:=wQ j;by_cases D:0<=P
 ·rw[lJ D]at E;have f:fAt P=P:=by unfold fAt;omega
  rw[f];clear f;go_wp2;go_region
  all_goals
   go_wp2;go_ret2;rw[ku E];exact⟨rfl,(s.alloc aj _).drew⟩
 ·rw[Xy D]at E;have F:decide (0<=P)=false:=by simp_all
  have a:=(s.alloc (by omega:w.heap.size<=d.heap.size)<|.cells #[.bool (decide (0<=P)),.int .i64 (fAt P)] 199);have y:=U _ a;have A:=oz (zy j:(d.alloc<|.cells #[.bool (decide (0<=P)),.int .i64 (fAt P)] 199).heap[w.heap.size]?=some (.cells #[.slice a0 n0 k0,.slice a1 n1 k1,.slice a2 n2 k2,.slice a3 n3 k3,.slice a4 n4 k4] 68 (0,0)));rw[F]at y a A |-;clear D;generalize fAt P=fp at *;go_wp21
  refine y.mono ?_;rintro e X ⟨b,rfl,C,_,V,p⟩;have t:=a.trans<|p.mono ah;have k:=oz<|(p.block w.heap.size ah).trans A;have S:=p.size;simp at S;clear g;have g:=jl k;have Z:=wQ k;have I:=O X b t C;go_wp21
  refine I.mono ?_;rintro e w3 ⟨rfl,i⟩;have u:=t.trans<|i.mono aj;have z:=oz<|(i.block w.heap.size aj).trans k;have J:=C.kept i;have a8:=i.size;clear g;have g:=jl z;have a5:=wQ z;by_cases hN:0<=N
  ·rw[lJ hN]at E;have f:fAt N=N:=by unfold fAt;omega
   rw[f];clear f;go_wp2;go_region
   all_goals
    go_wp2;go_ret2;rw[ku E];exact⟨rfl,(u.alloc aj _).drew⟩
  ·rw[Xy hN]at E;have F:decide (0<=N)=false:=by simp_all
   have a:=(u.alloc (by omega:w.heap.size<=w3.heap.size)<|.cells #[.bool (decide (0<=N)),.int .i64 (fAt N)] 199);have x:=K _ b a<|J.kept (jZ _);rw[F]at x a |-;clear hN;generalize fAt N=fn at *;go_wp21
   refine x.mono ?_;rintro e w4 ⟨rfl,Q⟩;have v:=a.trans<|Q.mono ah;clear g;cases T
   ·go_wp2;go_ret2;rw[ku E];exact⟨rfl,v⟩
   ·go_wp2;go_ret2;rw[ku E];exact⟨rfl,v⟩
def qq4(s:ByteArray):Int×Int:=
 if 800<s.size then (1,0) else match (jv s).2 with
  |some k=>(2,k)
  |none=>match (uz (jv s).1).2 with
   |some k=>(3,k)
   |none=>zzx<|ql (uz (jv s).1).1
def jzm(s:ByteArray)(w:World)(e:Ending)(w':World):Prop:=
 oq w w'/\∃x0 x1 x2 x3 x4,e=.returned (.tuple #[.agg #[x0,x1,x2,x3,x4],.int .i64 (qq4 s).1,.int .i64 (qq4 s).2])/\((qq4 s).1=0->kwm w.heap.size w' x0 x1 x2 x3 x4 (ql (uz (jv s).1).1)) /\
  (∃a l c,x0=.slice a l c)/\(∃a l c,x1=.slice a l c)/\(∃a l c,x2=.slice a l c)/\(∃a l c,x3=.slice a l c)/\(∃a l c,x4=.slice a l c)
theorem qq6(h:Below B w' w):Below B w' (puts B [x0,x1,x2,x3,x4] 0 w):=qzp jH _ _ h
theorem qzw(a:∀x,1<=(f x).length):∀l:List α,l.length<=(l.flatMap f).length
 |[]=>jH
 |x::l=>by rw[Jy,rD,Qb];have:=qzw a l;grind
theorem jz2{α:Type}{f:α->List Tok}:∀{l:List α}{x:α},x∈l->(f x).length<=(l.flatMap f).length
 |y::l,x,h=>by
  rw[Jy,rD];obtain rfl|h:=tZ.1 h
  ·omega
  ·have:=jz2 (f:=f) h;omega
theorem qkq:∀b:PB,kqq b=kvt b
 |.nil=>rfl
 |.node _ _ _ _ n=>by rw[kqq,kvt,qkq n]
def xy4(t:Tok):Prop:=0<t.x.size/\t.x.size<=800
theorem xky(h:zxn x)(a:(x.t.toList==mX)=true):xy4 x:=by refine⟨?_,h.size⟩;have:=h.y;grind [kzq,inB]
structure TreeSize (t:PTree):Prop where
 nm:∀x∈kzt t,xy4 x
 j:t.j.length<=801
 p:t.p.length<=801
 z:t.z.length<=801
 l:t.l.length<=801
 q:t.q.length<=801
 i:∀k∈t.p,k.i.length<=801
 all:∀r∈t.l++t.q,(kqp r).length<=801
theorem kxk(a:kq6 L)(h:qyw L t):TreeSize t:=by
 have j:=h.nms.le;have c:=a.T;have h1:(kzt t).length<=801:=aj;unfold kzt at h1;simp only[rD]at h1;have k:=qzw (f:=zjy) (λx=>jH) t.j;have l:=qzw (f:=kx7) (λx=>by unfold kx7;simp) t.p;have m:=qzw (f:=kxi) (λx=>by unfold kxi;simp) t.z;have p:=qzw (f:=kqp) (λx=>by unfold kqp;simp) t.l;have q:=qzw (f:=kqp) (λx=>by unfold kqp;simp) t.q;refine⟨?_,aj,aj,aj,aj,aj,?_,?_⟩
 ·intro x g;obtain⟨d,b⟩:=h.nms.mem x g;obtain⟨i,hi,rfl⟩:=wG d;have e:tk L i=L[i]:=getD_at hi;have ok:=a.ok i hi;rw[e]at ok;exact xky ok b
 ·grind [jz2,kx7]
 grind [jz2]
theorem jjj{g8:PSet}(h:g8∈t.j):g8.y∈kzt t:=jT<|rM.2 ⟨g8,h,rZ ..⟩
theorem kwy(h:k∈t.p)(a:x∈kx7 k):x∈kzt t:=jN<|jT (rM.2 ⟨k,h,a⟩)
theorem qqm(h:v∈t.z)(a:x∈kxi v):x∈kzt t:=jN<|jN (jT<|rM.2 ⟨v,h,a⟩)
theorem kxv(h:r∈t.l++t.q)(a:x∈kqp r):x∈kzt t:=by refine jN<|jN (jN ?_);grind
theorem zy8{g9:PP}(h:g9∈r.u):g9.y∈kqp r/\g9.Q∈kqp r:=by unfold kqp;exact⟨jS<|jT (rM.2 ⟨g9,h,rZ ..⟩),jS<|jT (rM.2 ⟨g9,h,jS<|rZ ..⟩)⟩
theorem jkf(h:x∈yu r.guard):x∈kqp r:=jS<|jN (jT h)
theorem vz8(h:x∈uo r.S):x∈kqp r:=jS<|jN (jN h)
theorem vjp(h:(kqp r).length<=801):r.u.length<=801/\(yu r.guard).length<=801/\(uo r.S).length<=801:=by grind [kqp,qzw,qqi]
theorem kkz.T:∀{b:PB},kkz b->ky6 b
 |.nil,_=>trivial
 |.node _ _ a .nil n,⟨_,_,_,h⟩=>h.T
 |.node _ _ a (.node _ _ _ t e) n,⟨_,_,_,h4,h5,h6⟩=>⟨⟨h4.1.T,by rw[qkq];omega⟩,⟨h5.1.T,by rw[qkq];omega⟩,h6.T⟩
theorem kkz.xv:∀{b:PB},kkz b->qzh b
 |.nil,_=>trivial
 |.node _ _ a .nil n,⟨h1,h2,_,h⟩=>⟨⟨h2.xv,h2.some,h1.2⟩,h.xv⟩
 |.node _ _ a (.node _ _ _ t e) n,⟨h1,_,_,h4,h5,h6⟩=>⟨⟨h1.xv,h1.some⟩,h4.1.xv,h5.1.xv,h6.xv⟩
theorem kkz.sok:∀{b:PB},kkz b->SOk b
 |.nil,_=>trivial
 |.node _ _ a .nil n,⟨h1,h2,h3,h⟩=>⟨by rw[h3];rfl,h1.1.some,h1.1.ok,h2.some,h2.ok,h.sok⟩
 |.node _ _ a (.node _ _ _ t e) n,⟨h1,_,_,h4,h5,h6⟩=>⟨h1.some,h1.ok,⟨h4.1.sok,aj⟩,⟨h5.1.sok,aj⟩,h6.sok⟩
theorem kkz.slen:∀{b:PB},kkz b->qqk b
 |.nil,_=>trivial
 |.node _ _ a .nil n,⟨_,_,_,h⟩=>h.slen
 |.node _ _ a (.node _ _ _ t e) n,⟨_,_,_,h4,h5,h6⟩=>⟨h4.1.slen,h5.1.slen,aj,aj,h6.slen⟩
theorem zjc:zh.x.size=0:=rfl
theorem zyc(b:TreeSize t)(hv:v∈t.z)(a:zxr v):(jw v).g.x.size<=800/\(jw v).si.y.x.size<=800:=by
 constructor
 ·show v.g.x.size<=800;obtain⟨h1|h1,_⟩:=a
  ·rw[h1,zjc];omega
  ·refine(b.nm _<|qqm hv ?_).2;unfold kxi kyv;simp_all
 ·obtain⟨f1,f2⟩:=qyd a;cases c:(v.k.t.toList==mX)
  ·grind [jw,zjc]
  ·rw[f2 c];refine(b.nm _<|qqm hv ?_).2;unfold kxi kyv;simp_all
theorem xv4(B:kq6 L)(h:(uz L).2=none):MdAll (ql (uz L).1):=by
 have g:=tree_good B h;have s:=kxk B g;generalize (uz L).1=t at g s;have w:∀r∈t.l++t.q,kvw r:=λr d=>by
  obtain d|d:=rV.1 d
  ·exact g.l r d
  ·exact(g.q r d).1
 have u:∀r∈t.l++t.q,r.u.length<=1000/\(∀p∈r.u,p.y.x.size<=1000/\p.Q.x.size<=1000)/\(∀y∈bf r.guard,y.x.size<=1000)/\ky6 r.S/\kqq r.S<=1000/\(∀y∈je r.S,y.x.size<=1000):=λr d=>by
  obtain⟨x,b,E,_⟩:=w r d;obtain⟨F,G,H⟩:=vjp<|s.all r d;refine⟨aj,λp C=>?_,λy m=>?_,b.T,by rw[qkq];omega,λy m=>?_⟩
  ·have a1:=(s.nm _<|kxv d (zy8 C).1).2;have a2:=(s.nm _<|kxv d (zy8 C).2).2;omega
  ·rw[kze x]at m;have:=(s.nm _<|kxv d (jkf m)).2;omega
  ·rw[kxo b]at m;have:=(s.nm _<|kxv d (vz8 m)).2;omega
 refine⟨⟨?_,?_,?_,?_,?_,?_,?_⟩,⟨?_,?_,?_,?_,?_⟩,⟨?_,?_,?_⟩,⟨?_,?_⟩,?_⟩
 ·exact rP s.j aj
 ·exact rP s.p aj
 ·show(t.z.map jw).length<=1000;rw[Ql];exact rP s.z aj
 ·exact rP s.l aj
 ·exact rP s.q aj
 ·intro k A;exact rP (s.i k A) aj
 ·intro r d;exact(u r d).1
 ·intro x f;have:=(s.nm _<|jjj f).2;omega
 ·intro k A;refine⟨?_,λx f=>?_⟩
  ·have:=(s.nm _<|kwy A (rZ ..)).2;omega
  ·have:=(s.nm _<|kwy A (jS f)).2;omega
 ·intro v hv;obtain⟨z,i,rfl⟩:=tY.1 (hv:v∈t.z.map jw);have:=(s.nm _<|qqm i (rZ ..)).2;show z.y.x.size<=1000;omega
 ·intro r d;have:=(s.nm _<|kxv (jT d) (rZ ..)).2;omega
 ·intro r d;have:=(s.nm _<|kxv (jN d) (rZ ..)).2;omega
 ·intro v hv;obtain⟨z,i,rfl⟩:=tY.1 (hv:v∈t.z.map jw);have:=zyc s i<|g.z z i;omega
 ·intro r d;exact u r<|jT d
 ·intro r d;obtain⟨a,b,c,_⟩:=u r<|jN d;simp_all
 ·intro r d;obtain⟨x,b,_⟩:=w r<|jT d;exact⟨x.xv,x.some,b.xv⟩
 ·intro r d;obtain⟨x,_⟩:=w r<|jN d;exact⟨x.xv,x.some⟩
 ·intro q;have D:kv3.si.y.x.size<=1000:=by show zh.x.size<=1000;rw[zjc];omega
  have all:∀x∈kjl (ql t),x.2.var.si.y.x.size<=1000:=by
   intro x f;unfold kjl at f;simp only[rV,rM]at f;obtain⟨q,l,f⟩|⟨q,l,f⟩|⟨q,l,f⟩|⟨q,l,f⟩|⟨q,l,f⟩:=f
   ·grind [vwa]
   ·grind [vxm]
   ·unfold vxd at f;rw[Qq]at f;subst f;obtain⟨z,i,rfl⟩:=tY.1 (l:q∈t.z.map jw);have:=(zyc s i<|g.z z i).2;grind
   ·grind [vxc]
   grind [vxb]
  rw[kz0];obtain⟨e,_⟩|⟨j,I,_,_,e⟩:=kz1 (kjl<|ql t) q
  ·rw[e];exact D
  grind
def zyo(t:PTree):Int×Int:=
 if 0<=kk7 t then (4,kk7 t) else if 0<=xu (qq0 t) (qxo t) then (5,xu (qq0 t)<|qxo t) else if qw8 t then (0,0) else (6,0)
theorem pje(a:kq6 L)(h:(uz L).2=none):zzx (ql (uz L).1)=zyo (uz L).1:=by
 have g:=tree_good a h;have s:=kxk a g;generalize (uz L).1=t at g s;have pw:=g.pw a;unfold zzx zyo;rw[pzi g.z (pv3 pw),zyy g.z g.l g.q (vqr pw)];by_cases h1:0<=kk7 t
 ·simp_all
 ·rw[Xy h1,Xy h1];by_cases c:0<=xu (qq0 t) (qxo t)
  ·simp_all
  ·rw[Xy c,Xy c,vkb (jj9 aj) ⟨?_,?_⟩ ?_ g.l g.q]
   ·intro k b;exact(s.nm _<|kwy b (rZ ..)).1
   ·intro v hv;refine⟨g.z v hv,λb=>(s.nm _<|qqm hv ?_).1,λb=>(s.nm _<|qqm hv ?_).1⟩
    ·unfold kxi kyv;simp_all
    ·unfold kxi kyv;simp_all
   ·intro r e p d;exact(s.nm _<|kxv e (zy8 d).2).1
theorem pvz(s:ByteArray)(w:World):Calls prog 33 #[.string s] w λe w'=>jzm s w e w':=by
 have d:∀a:Option Addr,∀l c:Nat,∃a' l' c',Value.slice a l c=.slice a' l' c':=λa l c=>⟨a,l,c,rfl⟩
 by_cases T:800<s.size
 ·have q:qq4 s=(1,0):=by unfold qq4;simp_all
  obtain⟨f,S⟩:=ju q (qy (w:=w) (o:=.cells #[.slice none 0 0,.slice none 0 0,.slice none 0 0,.slice none 0 0,.slice none 0 0] 68));clear q;go_wp2;refine tK (kqn results33 _ _ w.heap.size _ _ _ _ rfl S underlying68 rfl au) rfl ?_;unfold jzm;rw[ku f];exact⟨jZ _,_,_,_,_,_,rfl,(λe=>mZ),d _ _ _,d _ _ _,d _ _ _,d _ _ _,d _ _ _⟩
 ·have E:s.size<=800:=by omega
  have q:qq4 s=match (jv s).2 with|some k=>(2,(k:Int))|none=>match (uz (jv s).1).2 with|some k=>(3,(k:Int))|none=>zzx (ql (uz (jv s).1).1):=by unfold qq4;grind
  have f:=oz q;clear q;go_in;go_wp21;refine(pw3 s E).mono ?_;rintro e U ⟨u,I⟩;have j:=oz<|(u.block w.heap.size ay).trans (qy);have z:=(jZ w (o:=.cells #[.slice none 0 0,.slice none 0 0,.slice none 0 0,.slice none 0 0,.slice none 0 0] 68)).trans<|u.mono ay;have O:=u.size;simp at O;have x0:=jl j;obtain⟨D,v,rfl,hv⟩|⟨k,G,rfl⟩:=I
  ·rw[D]at f;have M:=kyh E D;have R:=qo jR hv;obtain⟨va,X,vc,rfl⟩:=qh hv;go_wp21;refine(parse_any M R).mono ?_;rintro e Q ⟨x,I⟩;have h:=oz<|(x.block w.heap.size aj).trans j;have A:=z.trans<|x.mono aj;have V:=x.size;clear x0;have x0:=jl h;obtain⟨y,y0,y1,y2,y3,y4,rfl,C⟩|⟨k,G,rfl⟩:=I
   ·rw[y]at f;have t:=xv4 M y;obtain⟨⟨a0,n0,k0,rfl⟩,⟨a1,n1,k1,rfl⟩,⟨a2,n2,k2,rfl⟩,⟨a3,n3,k3,rfl⟩,⟨a4,n4,k4,rfl⟩⟩:=qws C;have i:=C.mono (by omega:w.heap.size+1<=U.heap.size);obtain⟨m,H⟩:=cpy<|ql (uz (jv s).1).1;rw[<-H]at f i t;have K:=oz H;have L:=pzw (w:=Q.alloc<|.cells #[.slice a0 n0 k0,.slice a1 n1 k1,.slice a2 n2 k2,.slice a3 n3 k3,.slice a4 n4 k4] 68) (i.below<|jZ _) t;clear H;go_wp21
    refine L.mono ?_;rintro e w3 ⟨rfl,g⟩;have P:=g.size;simp at P;have p:=oz<|(g.block w.heap.size ah).trans (zy h);have B:=(g.block Q.heap.size ay).trans<|qy;have J:=(A.alloc aj _).trans<|g.mono ah;have F:=(i.below<|jZ _).below g;clear x0;have x0:=jl p;have W:=jl B;have N:=wQ p;clear B;go_wp2
    refine tK (kqn results33 _ _ w.heap.size _ _ _ _ rfl (kxy p) underlying68 rfl au) rfl ?_;unfold jzm;rw[<-ku K,ku f];exact⟨qq6 J,_,_,_,_,_,rfl,λ_=>(F.stay ((kjz.refl _ w3).ky7 (b:=w.heap.size) (.inl aj) _ _ _ _ _).block).mono aj,d _ _ _,d _ _ _,d _ _ _,d _ _ _,d _ _ _⟩
   ·rw[G]at f;have N:=wQ h;go_wp2;refine tK (kqn results33 _ _ w.heap.size _ _ _ _ rfl (zy<|kxy h) underlying68 rfl au) rfl ?_;unfold jzm;rw[ku f];exact⟨(qq6 A).alloc (by simp[puts,World.setCell];omega) _,_,_,_,_,_,rfl,(λe=>mZ),d _ _ _,d _ _ _,d _ _ _,d _ _ _,d _ _ _⟩
  ·rw[G]at f;go_wp2;refine tK (kqn results33 _ _ w.heap.size _ _ _ _ rfl (kxy j) underlying68 rfl au) rfl ?_;unfold jzm;rw[ku f];exact⟨qq6 z,_,_,_,_,_,rfl,(λe=>mZ),d _ _ _,d _ _ _,d _ _ _,d _ _ _,d _ _ _⟩
abbrev vyp:=MView×Bool×Int×Int
def noView:MView:=⟨⟨#[]⟩,[],[],[]⟩
def vq9(a:Mach):List ByteArray->Nat->List Int->Option vyp
 |[],_,st=>if st.length<=1000000 then (lookO a st).map λv=>(v,kx2 v,0,0) else none
 |t::l,i,st=>if st.length<=1000000 then (qw3 a.z a.C st t.toList a.X).bind λr=>if r.2 then vq9 a l (i+1) r.1 else some (noView,false,7,i) else none
def qyv(w:World)(r:vyp)(e:Ending)(w':World):Prop:=
 ∃ea en ec wa wn wc ba bn bc,e=.returned (.tuple #[.agg #[.string r.1.x,.slice ea en ec,.slice wa wn wc,.slice ba bn bc,.bool r.2.1],.int .i64 r.2.2.1,.int .i64 r.2.2.2])/\w'.ownsRow w.heap.size 9 1 (.slice ea en ec) r.1.xn.length (r.1.xn.map Value.string)/\w'.ownsRow w.heap.size 9 1 (.slice wa wn wc) r.1.xz.length (r.1.xz.map Value.string)/\w'.ownsRow w.heap.size 9 1 (.slice ba bn bc) r.1.xs.length (r.1.xs.map Value.string)/\oq w w'
structure zz4 (so:Nat)(w:World)(M nb:Nat)(a:Mach):Prop where
 mc:Mc 0 w M nb a.z a.C
 X:∃ta tc cs,w.cell? ⟨M,0,none⟩=some (.slice ta a.X.length tc)/\w.ownsRow 0 178 6 (.slice ta a.X.length tc) a.X.length cs/\qqx 0 so w M a.X cs
 q:∃na nc ds,w.cell? ⟨M,1,none⟩=some (.slice na a.q.length nc)/\w.ownsRow 0 208 5 (.slice na a.q.length nc) a.q.length ds/\qxn 0 so w M a.q ds
 size:w.cell? ⟨M,5,none⟩=some (.int .i64 a.size)
 lt:M<w.heap.size
theorem zz4.below(h:zz4 so w M nb h9)(hb:oq w w'):zz4 so w' M nb h9:=by have a:=yt hb none [];have b:=pz.none w;obtain⟨c,⟨ta,tc,cs,h1,d,e⟩,⟨j,k,ds,f,g,i⟩,h7,h8⟩:=h;exact⟨c.below hb,⟨ta,tc,cs,(hb.cell (p:=⟨M,0,none⟩) h8).trans h1,qj d hb,e.tk a b ay ay⟩,⟨j,k,ds,(hb.cell (p:=⟨M,1,none⟩) h8).trans f,qj g hb,i.tk a b ay ay⟩,(hb.cell (p:=⟨M,5,none⟩) h8).trans h7,sV h8 hb.size⟩
theorem kzd.xy8(h:kzd lo so w M nb h9.X h9.q h9.j h9.z h9.C h9.size x0 x1 x2 x3):zz4 so w M nb h9:=by obtain⟨a,⟨c1,h1,k1⟩,⟨c2,b,k2⟩,p,⟨c4,c,k4⟩,g,q,h7⟩:=h;obtain⟨ta,tc,d,_⟩:=qp h1;obtain⟨l,m,e,_⟩:=qp b;obtain⟨va,vc,f,_⟩:=qp c;subst d;subst e;subst f;obtain⟨i,j,s,t,u,k,_⟩:=kzh a;exact⟨⟨⟨_,_,_,va,vc,_,c4,a,qo jR c,k4⟩,g⟩,⟨ta,tc,c1,i,qo jR h1,k1⟩,⟨l,m,c2,j,qo jR b,k2⟩,k,wQ a⟩
structure MachOk (a:Mach):Prop where
 X:∀s∈a.X,jye s
 q:∀s∈a.q,pjh s
 z:a.z.length<=1000
 sl:a.X.length<=1000000
 nl:a.q.length<=1000000
def jzh(w:World)(a:Option Addr)(ts:List ByteArray):Prop:=∀i (hi:i<ts.length),∃g o,a=some ⟨g,o,none⟩/\g<w.heap.size/\w.cell? ⟨g,o+i,none⟩=some (.string ts[i])
theorem jzh.below(h:jzh w d7 ts)(hb:Below B w w')(b:w.heap.size<=B):jzh w' d7 ts:=λi hi=>by obtain⟨g,o,e,h1,a⟩:=h i hi;have:=hb.size;exact⟨g,o,e,aj,(hb.cell (p:=⟨g,o+i,none⟩)<|by grind).trans a⟩
theorem zzi(f:w.ownsRow lo 9 1 (.slice pa pn pc) ts.length (ts.map Value.string)):ts.length=pn/\jzh w pa ts:=by obtain⟨g,h,e,d⟩:=qp f;injection e with a b c;subst a;subst b;subst c;refine⟨rfl,λi hi=>?_⟩;grind
end Go.Proofs.YtpmcnonmkghokaaGreatDoor

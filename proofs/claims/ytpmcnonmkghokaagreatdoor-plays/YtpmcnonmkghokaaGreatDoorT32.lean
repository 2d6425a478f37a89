import Derived.Test.YtpmcnonmkghokaaGreatDoorT31
import Derived.Test.YtpmcnonmkghokaaGreatDoorT30
import Derived.Test.YtpmcnonmkghokaaGreatDoorT24
set_option maxRecDepth 100000
set_option maxHeartbeats 8000000
set_option linter.unusedVariables false
set_option linter.unusedSimpArgs false
namespace Go.Proofs.YtpmcnonmkghokaaGreatDoor
open Go.Proofs.Tryz
open Go.RowKit
attribute [local go_sem ↓] Go.wp_at_zero Go.wp_at_succ
variable {ts:List ByteArray}{L:List Tok}{a:Mach}{B M lo nb so:Nat}{r:PRule}{t:PTree}{v:PVar}{x:Tok}{α:Type}{w w':World}{f:α->List Tok}
def qyk (m:MdL):Int×Int:=
 if 0<=kwr m then (4,kwr m) else if 0<=kyu (qp m) m then (5,kyu (qp m) m) else if kyg (qp m) m then (0,0) else (6,0)
structure MdAll (m:MdL):Prop where
 ok:MdOk m
 sz:MdSz m
 nm:MdNm m
 ty:MdTy m
 tab:qwv (qp m)
theorem kvm.below {x0 x1 x2 x3 x4:Value}{m:MdL}(h:kvm lo w x0 x1 x2 x3 x4 m)(hb:pU w w'):kvm lo w' x0 x1 x2 x3 x4 m:=h.stay λk _ a=>hb.block k a
theorem vjr (w:World)(lo:Nat)(x0 x1 x2 x3 x4:Value)(m:MdL)(h:kvm lo w x0 x1 x2 x3 x4 m)(d:MdAll m):
  qJ 53 #[.agg #[x0,x1,x2,x3,x4]] w λe w'=>e=.returned (.tuple #[.int .i64 (qyk m).1,.int .i64 (qyk m).2])/\pU w w':=by
 obtain⟨⟨a0,n0,k0,rfl⟩,⟨a1,n1,k1,rfl⟩,⟨a2,n2,k2,rfl⟩,⟨a3,n3,k3,rfl⟩,⟨a4,n4,k4,rfl⟩⟩:=qkv h;obtain⟨W,H⟩:∃W,W=w.alloc (.cells #[.slice a0 n0 k0,.slice a1 n1 k1,.slice a2 n2 k2,.slice a3 n3 k3,.slice a4 n4 k4] 68):=⟨_,rfl⟩;have I:pU w W:=by rw[H];exact below_alloc1 _ _
 have aD:W.heap.size=w.heap.size+1:=by rw[H];simp
 have F:W.heap[w.heap.size]?=some (.cells #[.slice a0 n0 k0,.slice a1 n1 k1,.slice a2 n2 k2,.slice a3 n3 k3,.slice a4 n4 k4] 68 (0,0)):=by rw[H];exact qg _ _
 have E:=pG (show qyk m=if 0<=kwr m then (4,kwr m) else if 0<=kyu (qp m) m then (5,kyu (qp m) m) else if kyg (qp m) m then (0,0) else (6,0) from rfl);have Y:=pG (jjj W lo _ _ _ _ _ m (h.below I) d.ok);have HG:=pG (λ(a:World) (h1:pU w a)=>jy1 a lo _ _ _ _ _ m (h.below h1) d.ok d.sz);have Z:=pG (λ(a:World) (b:Nat) (h1:pU w a) (hm:kqi a b (qp m))=>zwj a lo b (qp m) _ _ _ _ _ m (h.below h1) hm d.ok d.sz d.nm);have X:=pG (λ(a:World) (b:Nat) (h1:pU w a) (hm:kqi a b (qp m))=>jqf a lo b (qp m) _ _ _ _ _ m (h.below h1) hm d.tab d.ok d.nm d.ty);have Q:=pG F;have HB:=pG I;have a7:=pG H.symm;obtain⟨j,k,l,p,q,_⟩:=jl F;generalize qyk m=R at *;generalize kwr m=P at *;generalize kyu (qp m) m=N at *;generalize kyg (qp m) m=T at *;generalize qp m=tab at *;clear h d I F H;go_enter func53,ntmps53
 go_upto_region 1 with fail
 rw[ku a7];go_wp2_with fail
 refine(ku Y).mono ?_;rintro e a ⟨rfl,v⟩;have y:=pG ((ku HB).trans (v.mono aj));have s:=(v.block w.heap.size aj).trans (ku Q);have M:=pG s;have aE:=v.size;clear j k l p q;obtain⟨j,k,l,p,q,_⟩:=jl s;have aA:=wu s;clear v s Y Q HB;by_cases G:0<=P
 ·rw[if_pos G]at E;have J:decide (0<=P)=true:=by simpa using G
  have i:fAt P=P:=by unfold fAt;rw[if_neg aj]
  rw[i];clear i;go_wp2
  go_region
  all_goals
   go_wp2
   go_ret2
   rw[ku E];exact⟨rfl,((ku y).alloc aj _).drew⟩
 ·rw[if_neg G]at E;have J:decide (0<=P)=false:=by simpa using G
  have f:=((ku y).alloc (show w.heap.size<=a.heap.size by omega) (.cells #[.bool (decide (0<=P)),.int .i64 (fAt P)] 199));have C:=pG (ku HG _ f);have c:=pG f;have D:=pG (show(a.alloc (.cells #[.bool (decide (0<=P)),.int .i64 (fAt P)] 199)).heap[w.heap.size]?=some (.cells #[.slice a0 n0 k0,.slice a1 n1 k1,.slice a2 n2 k2,.slice a3 n3 k3,.slice a4 n4 k4] 68 (0,0)) from zy (ku M));rw[J]at C c D |-;clear y M HG f G;generalize fAt P=fp at *;go_wp2_with fail
  refine(ku C).mono ?_;rintro e w2 ⟨b,rfl,K,_,a9,x⟩;have z:=pG ((ku c).trans (x.mono ay));have t:=(x.block w.heap.size ay).trans (ku D);have O:=pG t;have U:=pG K;have a8:=x.size;simp at a8;clear j k l p q;obtain⟨j,k,l,p,q,_⟩:=jl t;have aB:=wu t;have S:=pG (ku Z w2 b (ku z) K);clear x t K C D c Z;go_wp2_with fail
  refine(ku S).mono ?_;rintro e w3 ⟨rfl,g⟩;have A:=pG ((ku z).trans (g.mono aj));have u:=(g.block w.heap.size aj).trans (ku O);have a6:=pG u;have V:=pG ((ku U).kept g);have aF:=g.size;clear j k l p q;obtain⟨j,k,l,p,q,_⟩:=jl u;have aC:=wu u;clear g u S O z U;by_cases hN:0<=N
  ·rw[if_pos hN]at E;have J:decide (0<=N)=true:=by simpa using hN
   have i:fAt N=N:=by unfold fAt;rw[if_neg aj]
   rw[i];clear i;go_wp2
   go_region
   all_goals
    go_wp2
    go_ret2
    rw[ku E];exact⟨rfl,((ku A).alloc aj _).drew⟩
  ·rw[if_neg hN]at E;have J:decide (0<=N)=false:=by simpa using hN
   have f:=((ku A).alloc (show w.heap.size<=w3.heap.size by omega) (.cells #[.bool (decide (0<=N)),.int .i64 (fAt N)] 199));have B:=pG (ku X _ b f ((ku V).kept (below_alloc1 _ _)));have c:=pG f;rw[J]at B c |-;clear A a6 X f hN V;generalize fAt N=fn at *;go_wp2_with fail
   refine(ku B).mono ?_;rintro e w4 ⟨rfl,a5⟩;have L:=pG ((ku c).trans (a5.mono ay));clear a5 B c j k l p q;cases T
   ·go_wp2
    go_ret2
    rw[ku E];exact⟨rfl,ku L⟩
   ·go_wp2
    go_ret2
    rw[ku E];exact⟨rfl,ku L⟩
def qxy (s:ByteArray):Int×Int:=
 if 800<s.size then (1,0) else match (jo s).2 with
  |some k=>(2,k)
  |none=>match (yx (jo s).1).2 with
   |some k=>(3,k)
   |none=>qyk (zh (yx (jo s).1).1)
def zvi (s:ByteArray)(w:World)(e:Ending)(w':World):Prop:=
 pU w w'/\∃x0 x1 x2 x3 x4,e=.returned (.tuple #[.agg #[x0,x1,x2,x3,x4],.int .i64 (qxy s).1,.int .i64 (qxy s).2])/\((qxy s).1=0->kvm w.heap.size w' x0 x1 x2 x3 x4 (zh (yx (jo s).1).1)) /\
  (∃a l c,x0=.slice a l c)/\(∃a l c,x1=.slice a l c)/\(∃a l c,x2=.slice a l c)/\(∃a l c,x3=.slice a l c)/\(∃a l c,x4=.slice a l c)
theorem kz9 {a: World}(h:Below B a w)(x0 x1 x2 x3 x4:Value):Below B a (puts B [x0,x1,x2,x3,x4] 0 w):=qxu (wJ _) _ _ h
end Go.Proofs.YtpmcnonmkghokaaGreatDoor
namespace Go.Proofs.YtpmcnonmkghokaaGreatDoor
open Go.Proofs.Tryz
open Go.RowKit
variable {ts:List ByteArray}{L:List Tok}{a:Mach}{B M lo nb so:Nat}{r:PRule}{t:PTree}{v:PVar}{x:Tok}{α:Type}{w w':World}{f:α->List Tok}
theorem qqr {α:Type}{f:α->List Tok}(a:∀x,1<=(f x).length):∀l:List α,l.length<=(l.flatMap f).length
 |[]=>wJ _
 |x::l=>by rw[Qb,wY,Qz];have:=qqr a l;have:=a x;omega
theorem zq6 {α:Type}{f:α->List Tok}:∀{l:List α} {x:α},x∈l->(f x).length<=(l.flatMap f).length
 |y::l,x,h=>by
  rw[Qb,wY];rcases sW.mp h with rfl|h
  ·omega
  ·have:=zq6 (f:=f) h;omega
theorem qz8:∀b:PB,kq4 b=kko b
 |.nil=>rfl
 |.node _ _ _ _ n=>by rw[kq4,kko,qz8 n]
def px5 (t:Tok):Prop:=0<t.text.size/\t.text.size<=800
theorem pj4 {t:Tok}(h:zqv t)(c:(t.kind.toList==og)=true):px5 t:=by
 refine⟨?_,h.size⟩;have:=h.name;rw[c,wW]at this;have a:=this.1;unfold kz5 inB at a;by_cases b:0<t.text.size
 ·exact b
 ·rw[dif_neg b]at a;cases a
structure TreeSize (t:PTree):Prop where
 nm:∀x∈kzl t,px5 x
 sets:t.sets.length<=801
 kinds:t.kinds.length<=801
 vars:t.vars.length<=801
 rules:t.rules.length<=801
 nevers:t.nevers.length<=801
 members:∀k∈t.kinds,k.members.length<=801
 all:∀r∈t.rules++t.nevers,(kqx r).length<=801
theorem kxl (c:bg L)(h:qkf L t):TreeSize t:=by
 have l:=h.nms.le;have d:=c.len;have h1:(kzl t).length<=801:=aj;unfold kzl at h1;simp only[wY]at h1;have m:=qqr (f:=qwp) (λx=>wJ _) t.sets;have p:=qqr (f:=kzp) (λx=>by unfold kzp;simp) t.kinds;have q:=qqr (f:=kxy) (λx=>by unfold kxy;simp) t.vars;have s:=qqr (f:=kqx) (λx=>by unfold kqx;simp) t.rules;have u:=qqr (f:=kqx) (λx=>by unfold kqx;simp) t.nevers;refine⟨?_,aj,aj,aj,aj,aj,?_,?_⟩
 ·intro x j;obtain⟨g,b⟩:=h.nms.mem x j;obtain⟨i,hi,rfl⟩:=tC g;have e:tk L i=L[i]:=getD_at _ _ _ hi;have ok:=c.ok i hi;rw[e]at ok;exact pj4 ok b
 ·intro k b;have:=zq6 (f:=kzp) b;unfold kzp at this;simp only[Qz]at this;have e:(t.kinds.flatMap (λk=>k.name::k.members)).length=(t.kinds.flatMap kzp).length:=rfl;omega
 ·intro r a;rcases ru.mp a with a|a
  ·have:=zq6 (f:=kqx) a;omega
  ·have:=zq6 (f:=kqx) a;omega
theorem jxi {s:PSet}(h:s∈t.sets):s.name∈kzl t:=wG _ (su.mpr ⟨s,h,rV ..⟩)
theorem kws {k:PKind}(h:k∈t.kinds)  (a:x∈kzp k):x∈kzl t:=rZ _ (wG _ (su.mpr ⟨k,h,a⟩))
theorem kyx (h:v∈t.vars)  (a:x∈kxy v):x∈kzl t:=rZ _ (rZ _ (wG _ (su.mpr ⟨v,h,a⟩)))
theorem kzn (h:r∈t.rules++t.nevers)  (a:x∈kqx r):x∈kzl t:=by
 refine rZ _ (rZ _ (rZ _ ?_));rw[<-Qn];exact su.mpr ⟨r,h,a⟩
theorem zx9 {p:PP}(h:p∈r.params):p.name∈kqx r/\p.set_∈kqx r:=by
 unfold kqx;exact⟨rG _ (wG _ (su.mpr ⟨p,h,rV ..⟩)),rG _ (wG _ (su.mpr ⟨p,h,rG _ (rV ..)⟩))⟩
theorem zyl (h:x∈uo r.guard):x∈kqx r:=rG _ (rZ _ (wG _ h))
theorem jk0 (h:x∈uf r.body):x∈kqx r:=rG _ (rZ _ (rZ _ h))
theorem jxq (h:(kqx r).length<=801):r.params.length<=801/\(uo r.guard).length<=801/\(uf r.body).length<=801:=by
 unfold kqx at h;simp only[Qz,wY]at h;have:=qqr (f:=kwt) (λx=>by unfold kwt;simp) r.params;omega
theorem kxn.len:∀{b:PB},kxn b->kw5 b
 |.nil,_=>trivial
 |.node _ _ a .nil n,⟨_,_,_,h⟩=>h.len
 |.node _ _ a (.node _ _ _ t e) n,⟨_,_,_,h4,h5,h6⟩=>⟨⟨h4.1.len,by rw[qz8];omega⟩,⟨h5.1.len,by rw[qz8];omega⟩,h6.len⟩
theorem kxn.full:∀{b:PB},kxn b->qqo b
 |.nil,_=>trivial
 |.node _ _ a .nil n,⟨h1,h2,_,h⟩=>⟨⟨h2.full,h2.some,h1.2⟩,h.full⟩
 |.node _ _ a (.node _ _ _ t e) n,⟨h1,_,_,h4,h5,h6⟩=>⟨⟨h1.full,h1.some⟩,h4.1.full,h5.1.full,h6.full⟩
theorem kxn.sok:∀{b:PB},kxn b->SOk b
 |.nil,_=>trivial
 |.node _ _ a .nil n,⟨h1,h2,h3,h⟩=>⟨by rw[h3];rfl,h1.1.some,h1.1.ok,h2.some,h2.ok,h.sok⟩
 |.node _ _ a (.node _ _ _ t e) n,⟨h1,_,_,h4,h5,h6⟩=>⟨h1.some,h1.ok,⟨h4.1.sok,aj⟩,⟨h5.1.sok,aj⟩,h6.sok⟩
theorem kxn.slen:∀{b:PB},kxn b->ky5 b
 |.nil,_=>trivial
 |.node _ _ a .nil n,⟨_,_,_,h⟩=>h.slen
 |.node _ _ a (.node _ _ _ t e) n,⟨_,_,_,h4,h5,h6⟩=>⟨h4.1.slen,h5.1.slen,aj,aj,h6.slen⟩
theorem qx8:zf.text.size=0:=rfl
theorem zxp (g:TreeSize t)  (h:v∈t.vars)(e:qwk v):(yu v).over.text.size<=800/\(yu v).si.name.text.size<=800:=by
 constructor
 ·show v.over.text.size<=800;obtain⟨h1|h1,_⟩:=e
  ·rw[h1,qx8];omega
  ·refine(g.nm _ (kyx h ?_)).2;unfold kxy kwk;rw[h1];simp
 ·obtain⟨f1,f2⟩:=qki e;cases f:(v.type_.kind.toList==og)
  ·obtain⟨_,h1|h1|h1⟩:=e
   ·obtain⟨a,b,c⟩:=h1;unfold yu;simp only;rw[a,b];show zf.text.size<=800;rw[qx8];omega
   ·obtain⟨a,b,c,d⟩:=h1;unfold yu;simp only;rw[a,b];show zf.text.size<=800;rw[qx8];omega
   ·rw[h1.1]at f;cases f
  ·rw[f2 f];refine(g.nm _ (kyx h ?_)).2;unfold kxy kwk;rw[f];simp
theorem pjr (D:bg L)(h:(yx L).2=none):MdAll (zh (yx L).1):=by
 have g:=tree_good D h;have s:=kxl D g;generalize (yx L).1=t at g s;have A:∀r∈t.rules++t.nevers,kka r:=λr f=>by
  rcases ru.mp f with f|f
  ·exact g.rules r f
  ·exact(g.nevers r f).1
 have z:∀r∈t.rules++t.nevers,r.params.length<=1000/\(∀p∈r.params,p.name.text.size<=1000/\p.set_.text.size<=1000)/\(∀y∈cu r.guard,y.text.size<=1000)/\kw5 r.body/\kq4 r.body<=1000/\(∀y∈pz r.body,y.text.size<=1000):=λr f=>by
  obtain⟨x,b,I⟩:=A r f;obtain⟨J,K,M⟩:=jxq (s.all r f);refine⟨aj,λp E=>?_,λy m=>?_,b.len,by rw[qz8];omega,λy m=>?_⟩
  ·have G:=(s.nm _ (kzn f (zx9 E).1)).2;have H:=(s.nm _ (kzn f (zx9 E).2)).2;omega
  ·rw[kzv x]at m;have:=(s.nm _ (kzn f (zyl m))).2;omega
  ·rw[kxk b]at m;have:=(s.nm _ (kzn f (jk0 m))).2;omega
 refine⟨⟨?_,?_,?_,?_,?_,?_,?_⟩,⟨?_,?_,?_,?_,?_⟩,⟨?_,?_,?_⟩,⟨?_,?_⟩,?_⟩
 ·exact rU s.sets aj
 ·exact rU s.kinds aj
 ·show(t.vars.map yu).length<=1000;rw[Qe];exact rU s.vars aj
 ·exact rU s.rules aj
 ·exact rU s.nevers aj
 ·intro k B;exact rU (s.members k B) aj
 ·intro r f;exact(z r f).1
 ·intro x d;have:=(s.nm _ (jxi d)).2;omega
 ·intro k B;refine⟨?_,λx d=>?_⟩
  ·have:=(s.nm _ (kws B (rV ..))).2;omega
  ·have:=(s.nm _ (kws B (rG _ d))).2;omega
 ·intro v C;obtain⟨u,i,rfl⟩:=Qj.mp (show v∈t.vars.map yu from C);have:=(s.nm _ (kyx i (rV ..))).2;show u.name.text.size<=1000;omega
 ·intro r f;have:=(s.nm _ (kzn (wG _ f) (rV ..))).2;omega
 ·intro r f;have:=(s.nm _ (kzn (rZ _ f) (rV ..))).2;omega
 ·intro v C;obtain⟨u,i,rfl⟩:=Qj.mp (show v∈t.vars.map yu from C);have:=zxp s i (g.vars u i);omega
 ·intro r f;exact z r (wG _ f)
 ·intro r f;obtain⟨a,b,c,_⟩:=z r (rZ _ f);exact⟨a,b,c⟩
 ·intro r f;obtain⟨x,b,_⟩:=A r (wG _ f);exact⟨x.full,x.some,b.full⟩
 ·intro r f;obtain⟨x,_⟩:=A r (rZ _ f);exact⟨x.full,x.some⟩
 ·intro q;have l:kkl.si.name.text.size<=1000:=by show zf.text.size<=1000;rw[qx8];omega
  have all:∀x∈kjg (zh t),x.2.var.si.name.text.size<=1000:=by
   intro x d;unfold kjg at d;simp only[ru,su]at d;rcases d with⟨q,w,d⟩|⟨q,w,d⟩|⟨q,w,d⟩|⟨q,w,d⟩|⟨q,w,d⟩
   ·unfold jy4 at d;rw[sK]at d;subst d;exact l
   ·unfold jv3 at d;rw[sW,Qj]at d;rcases d with rfl|⟨y,m,rfl⟩
    ·exact l
    ·exact l
   ·unfold jv0 at d;rw[sK]at d;subst d;obtain⟨u,i,rfl⟩:=Qj.mp (show q∈t.vars.map yu from w);have:=(zxp s i (g.vars u i)).2;show(yu u).si.name.text.size<=1000;omega
   ·unfold jv1 at d;rw[sK]at d;subst d;exact l
   ·unfold jv2 at d;rw[sK]at d;subst d;exact l
  rw[kjf];rcases kjo (kjg (zh t)) q with⟨e,_⟩|⟨j,F,_,_,e⟩
  ·rw[e];exact l
  ·rw[e];exact all _ (wX F)
def zxs (t:PTree):Int×Int:=
 if 0<=kxm t then (4,kxm t) else if 0<=jd (kwi t) (qjs t) then (5,jd (kwi t) (qjs t)) else if qxe t then (0,0) else (6,0)
theorem vjj (c:bg L)(h:(yx L).2=none):qyk (zh (yx L).1)=zxs (yx L).1:=by
 have g:=tree_good c h;have s:=kxl c g;generalize (yx L).1=t at g s;have pw:=g.pw c;unfold qyk zxs;rw[vzj g.vars (vxm pw),zxw g.vars g.rules g.nevers (jzh pw)];by_cases h1:0<=kxm t
 ·rw[if_pos h1,if_pos h1]
 ·rw[if_neg h1,if_neg h1];by_cases b:0<=jd (kwi t) (qjs t)
  ·rw[if_pos b,if_pos b]
  ·rw[if_neg b,if_neg b,jvb (zkf aj) ⟨?_,?_⟩ ?_ g.rules g.nevers]
   ·intro k a;exact(s.nm _ (kws a (rV ..))).1
   ·intro v d;refine⟨g.vars v d,λa=>(s.nm _ (kyx d ?_)).1,λa=>(s.nm _ (kyx d ?_)).1⟩
    ·unfold kxy kwk;rw[a];simp
    ·unfold kxy kwk;rw[a];simp
   ·intro r f p e;exact(s.nm _ (kzn f (zx9 e).2)).1
end Go.Proofs.YtpmcnonmkghokaaGreatDoor
namespace Go.Proofs.YtpmcnonmkghokaaGreatDoor
open Go.Proofs.Tryz
open Go.RowKit
attribute [local go_sem ↓] Go.wp_at_zero Go.wp_at_succ
variable {ts:List ByteArray}{L:List Tok}{a:Mach}{B M lo nb so:Nat}{r:PRule}{t:PTree}{v:PVar}{x:Tok}{α:Type}{w w':World}{f:α->List Tok}
theorem vxs (s:ByteArray)(w:World):qJ 33 #[.string s] w λe w'=>zvi s w e w':=by
 have d:∀a:Option Addr,∀l c:Nat,∃a' l' c',Value.slice a l c=.slice a' l' c':=λa l c=>⟨a,l,c,rfl⟩
 by_cases z:800<s.size
 ·have x:qxy s=(1,0):=by unfold qxy;rw[if_pos z]
  have f:=pG x;have Y:=pG (qg w (.cells #[.slice none 0 0,.slice none 0 0,.slice none 0 0,.slice none 0 0,.slice none 0 0] 68));clear x;go_enter func33,ntmps33
  go_wp2
  refine rY (um results33 _ _ w.heap.size _ _ _ _ rfl (ku Y) underlying68 rfl ah) rfl ?_;unfold zvi;rw[ku f];exact⟨below_alloc1 _ _,_,_,_,_,_,rfl,(λe=>kX),d _ _ _,d _ _ _,d _ _ _,d _ _ _,d _ _ _⟩
 ·have I:s.size<=800:=by omega
  have x:qxy s=match (jo s).2 with|some k=>(2,(k:Int))|none=>match (yx (jo s).1).2 with|some k=>(3,(k:Int))|none=>qyk (zh (yx (jo s).1).1):=by unfold qxy;rw[if_neg z]<;>rfl
  have f:=pG x;clear x;go_enter func33,ntmps33
  go_wp2_with fail
  refine(vkk s _ I).mono ?_;rintro e V ⟨i,M⟩;have q:=(i.block w.heap.size au).trans (qg _ _);have C:=pG ((below_alloc1 w (.cells #[.slice none 0 0,.slice none 0 0,.slice none 0 0,.slice none 0 0,.slice none 0 0] 68)).trans (i.mono au));have F:=pG q;have T:=i.size;simp at T;obtain⟨x0,x1,x2,x3,x4,f0,f1,f2,f3,f4⟩:=jl q;rcases M with⟨H,v,rfl,N⟩|⟨k,K,rfl⟩
  ·rw[H]at f;have R:=qqz s I H;have X:=pG (zu (rW _) N);obtain⟨va,vl,vc,rfl⟩:=zq N;clear i q N;go_wp2_with fail
   refine(parse_any V _ _ R (ku X)).mono ?_;rintro e W ⟨j,M⟩;have h:=(j.block w.heap.size aj).trans (ku F);have D:=pG ((ku C).trans (j.mono aj));have G:=pG h;have a6:=j.size;clear x0 x1 x2 x3 x4 f0 f1 f2 f3 f4;obtain⟨x0,x1,x2,x3,x4,f0,f1,f2,f3,f4⟩:=jl h;rcases M with⟨B,y0,y1,y2,y3,y4,rfl,A⟩|⟨k,K,rfl⟩
   ·rw[B]at f;have p:=pjr R B;obtain⟨⟨Z,n0,k0,rfl⟩,⟨a1,n1,k1,rfl⟩,⟨a2,n2,k2,rfl⟩,⟨a3,n3,k3,rfl⟩,⟨a4,n4,k4,rfl⟩⟩:=qkv A;have u:=pG (A.mono (show w.heap.size+1<=V.heap.size by omega));obtain⟨m,L⟩:∃m,m=zh (yx (jo s).1).1:=⟨_,rfl⟩;rw[<-L]at f u p;have P:=pG L;have E:=pG (vjr (W.alloc (.cells #[.slice Z n0 k0,.slice a1 n1 k1,.slice a2 n2 k2,.slice a3 n3 k3,.slice a4 n4 k4] 68)) (w.heap.size+1) _ _ _ _ _ m ((ku u).below (below_alloc1 _ _)) p);clear L;clear j h A p;go_wp2_with fail
    refine(ku E).mono ?_;rintro e w3 ⟨rfl,g⟩;have U:=g.size;simp at U;have t:=(g.block w.heap.size ay).trans (zy (ku G));have y:=(g.block W.heap.size au).trans (qg _ _);have O:=pG (((ku D).alloc aj _).trans (g.mono ay));have J:=pG (((ku u).below (below_alloc1 _ _)).below g);have Q:=pG t;clear x0 x1 x2 x3 x4 f0 f1 f2 f3 f4;obtain⟨x0,x1,x2,x3,x4,f0,f1,f2,f3,f4⟩:=jl t;obtain⟨g0,g1,g2,g3,g4,_⟩:=jl y;have S:=wu t;have a5:=wu y;clear g t y E;go_wp2
    refine rY (um results33 _ _ w.heap.size _ _ _ _ rfl (kjw (ku Q) _ _ _ _ _) underlying68 rfl ah) rfl ?_;unfold zvi;rw[<-ku P,ku f];exact⟨kz9 (ku O) _ _ _ _ _,_,_,_,_,_,rfl,λ_=>((ku J).stay ((kj4.refl _ w3).kw6 (b:=w.heap.size) (Or.inl aj) _ _ _ _ _).block).mono aj,d _ _ _,d _ _ _,d _ _ _,d _ _ _,d _ _ _⟩
   ·rw[K]at f;have S:=wu h;clear j h;go_wp2
    refine rY (um results33 _ _ w.heap.size _ _ _ _ rfl (zy (kjw (ku G) _ _ _ _ _)) underlying68 rfl ah) rfl ?_;unfold zvi;rw[ku f];exact⟨(kz9 (ku D) _ _ _ _ _).alloc (by simp[puts,World.setCell];omega) _,_,_,_,_,_,rfl,(λe=>kX),d _ _ _,d _ _ _,d _ _ _,d _ _ _,d _ _ _⟩
  ·rw[K]at f;clear i q;go_wp2
   refine rY (um results33 _ _ w.heap.size _ _ _ _ rfl (kjw (ku F) _ _ _ _ _) underlying68 rfl ah) rfl ?_;unfold zvi;rw[ku f];exact⟨kz9 (ku C) _ _ _ _ _,_,_,_,_,_,rfl,(λe=>kX),d _ _ _,d _ _ _,d _ _ _,d _ _ _,d _ _ _⟩
abbrev zzi:=MView×Bool×Int×Int
def noView:MView:=⟨⟨#[]⟩,[],[],[]⟩
def zzm (a:Mach):List ByteArray->Nat->List Int->Option zzi
 |[],_,st=>if st.length<=1000000 then (lookO a st).map λv=>(v,kvj v,0,0) else none
 |t::l,i,st=>if st.length<=1000000 then (qvi a.vars a.tab st t.toList a.steps).bind λr=>if r.2 then zzm a l (i+1) r.1 else some (noView,false,7,i) else none
def jzv (a:Mach)(ts:List ByteArray):Option zzi:=if 60<ts.length then some (noView,false,8,0) else if a.size<=1000000 then zzm a ts 0 (List.replicate a.size 0) else none
def kkz (w:World)(r:zzi)(e:Ending)(w':World):Prop:=
 ∃ea en ec wa wn wc ba bn bc,e=.returned (.tuple #[.agg #[.string r.1.text,.slice ea en ec,.slice wa wn wc,.slice ba bn bc,.bool r.2.1],.int .i64 r.2.2.1,.int .i64 r.2.2.2])/\w'.ownsRow w.heap.size 9 1 (.slice ea en ec) r.1.enabled.length (r.1.enabled.map Value.string)/\w'.ownsRow w.heap.size 9 1 (.slice wa wn wc) r.1.wrong.length (r.1.wrong.map Value.string)/\w'.ownsRow w.heap.size 9 1 (.slice ba bn bc) r.1.broken.length (r.1.broken.map Value.string)/\pU w w'
structure zw5 (so:Nat)(w:World)(M nb:Nat)(a:Mach):Prop where
 mc:Mc 0 w M nb a.vars a.tab
 steps:∃ta tc cs,w.cell? ⟨M,0,none⟩=some (.slice ta a.steps.length tc)/\w.ownsRow 0 178 6 (.slice ta a.steps.length tc) a.steps.length cs/\kw3 0 so w M a.steps cs
 nevers:∃na nc ds,w.cell? ⟨M,1,none⟩=some (.slice na a.nevers.length nc)/\w.ownsRow 0 208 5 (.slice na a.nevers.length nc) a.nevers.length ds/\qjt 0 so w M a.nevers ds
 size:w.cell? ⟨M,5,none⟩=some (.int .i64 a.size)
 lt:M<w.heap.size
theorem zw5.below (h:zw5 so w M nb a)(hb:pU w w'):zw5 so w' M nb a:=by
 have c:=kqg hb none [];have d:=dw.none w;obtain⟨e,⟨s,t,cs,h1,f,g⟩,⟨m,q,ds,i,j,k⟩,l,b⟩:=h;exact⟨e.below hb,⟨s,t,cs,(hb.cell (p:=⟨M,0,none⟩) b).trans h1,qj f hb,g.tk c d au au⟩,⟨m,q,ds,(hb.cell (p:=⟨M,1,none⟩) b).trans i,qj j hb,k.tk c d au au⟩,(hb.cell (p:=⟨M,5,none⟩) b).trans l,Qy b hb.size⟩
theorem kz8.px9 {sv nv tv vv:Value}(h:kz8 lo so w M nb a.steps a.nevers a.sets a.vars a.tab a.size sv nv tv vv):zw5 so w M nb a:=by
 obtain⟨b,⟨c1,h1,k1⟩,⟨c2,c,k2⟩,u,⟨c4,d,k4⟩,i,v,x⟩:=h;obtain⟨q,s,e,_⟩:=ql h1;obtain⟨m,p,f,_⟩:=ql c;obtain⟨va,t,g,_⟩:=ql d;subst e;subst f;subst g;obtain⟨j,k,y,z,A,l,_⟩:=kzb b;exact⟨⟨⟨_,_,_,va,t,_,c4,b,zu (rW _) d,k4⟩,i⟩,⟨q,s,c1,j,zu (rW _) h1,k1⟩,⟨m,p,c2,k,zu (rW _) c,k2⟩,l,wu b⟩
structure MachOk (a:Mach):Prop where
 steps:∀s∈a.steps,zjt s
 nevers:∀s∈a.nevers,vj3 s
 vars:a.vars.length<=1000
 sl:a.steps.length<=1000000
 nl:a.nevers.length<=1000000
def kww (w:World)(a:Option Addr)(ts:List ByteArray):Prop:=∀i (hi:i<ts.length),∃g o,a=some ⟨g,o,none⟩/\g<w.heap.size/\w.cell? ⟨g,o+i,none⟩=some (.string ts[i])
theorem kww.below {a:Option Addr}   (h:kww w a ts)(hb:Below B w w')(c:w.heap.size<=B):kww w' a ts:=λi hi=>by
 obtain⟨g,o,e,h1,b⟩:=h i hi;have:=hb.size;exact⟨g,o,e,aj,(hb.cell (p:=⟨g,o+i,none⟩) (by show g<B;omega)).trans b⟩
theorem qzx {pa:Option Addr}{pn pc:Nat}  (j:w.ownsRow lo 9 1 (.slice pa pn pc) ts.length (ts.map Value.string)):ts.length=pn/\kww w pa ts:=by
 obtain⟨k,l,e,a⟩:=ql j;injection e with b c d;subst b;subst c;subst d;refine⟨rfl,λi hi=>?_⟩;obtain⟨g,rfl,_,f,h⟩:=a i hi;exact⟨g,0,rfl,f,by rw[QU,h i aj,QV,tY hi];rfl⟩
theorem walk_any (w:World)(so M nb:Nat)(a:Mach)(ts:List ByteArray)(pa:Option Addr)(pn pc:Nat)(h:zw5 so w M nb a)(a3:MachOk a)(hn:ts.length=pn)(H:kww w pa ts)(r:zzi)(j:jzv a ts=some r):
  qJ 34 #[.pointer (some ⟨M,0,none⟩),.slice pa pn pc] w λe w'=>kkz w r e w':=by
 subst hn;obtain⟨W,G⟩:∃W,W=w.alloc (.cells #[.string ⟨#[]⟩,.slice none 0 0,.slice none 0 0,.slice none 0 0,.bool false] 24):=⟨_,rfl⟩;have z:pU w W:=by rw[G];exact below_alloc1 w _
 have a8:w.heap.size<W.heap.size:=by rw[G];simp
 have U:W.heap[w.heap.size]?=some (.cells #[.string ⟨#[]⟩,.slice none 0 0,.slice none 0 0,.slice none 0 0,.bool false] 24 (0,0)):=by rw[G];exact qg _ _
 have N:=λ(wx:World) (m:pU w wx) (hx:wx.heap[w.heap.size]?=some (.cells #[.string ⟨#[]⟩,.slice none 0 0,.slice none 0 0,.slice none 0 0,.bool false] 24 (0,0))) (e:Int) (p:Int)=>(show kkz w (noView,false,e,p) (.returned (.tuple #[.agg #[.string ⟨#[]⟩,.slice none 0 0,.slice none 0 0,.slice none 0 0,.bool false],.int .i64 e,.int .i64 p])) (((((wx.setCell ⟨w.heap.size,0,none⟩ (.string ⟨#[]⟩)).setCell ⟨w.heap.size,1,none⟩ (.slice none 0 0)).setCell ⟨w.heap.size,2,none⟩ (.slice none 0 0)).setCell ⟨w.heap.size,3,none⟩ (.slice none 0 0)).setCell ⟨w.heap.size,4,none⟩ (.bool false)) from
  ⟨none,0,0,none,0,0,none,0,0,rfl,wB _ _ _ _,wB _ _ _ _,wB _ _ _ _,kz9 m _ _ _ _ _⟩)
 have L:=pG h;have d:=pG a3;obtain⟨r0,r1,r2,r3,r4,y0,y1,y2,y3,y4⟩:=jl U;unfold jzv at j;by_cases A:60<ts.length
 ·rw[if_pos A]at j;injection j with j;subst j;have a9:(60:Int)<ts.length:=aj;have HE:=N W z U 8 0;go_enter func34,ntmps34
  go_wp2
  refine rY (v:=.tuple #[.agg #[.string ⟨#[]⟩,.slice none 0 0,.slice none 0 0,.slice none 0 0,.bool false],.int .i64 8,.int .i64 0]) (um results34 _ _ w.heap.size _ _ _ _ rfl (qg _ _) underlying24 rfl ah) rfl ?_;exact⟨none,0,0,none,0,0,none,0,0,rfl,wB _ _ _ _,wB _ _ _ _,wB _ _ _ _,below_alloc1 _ _⟩
 ·rw[if_neg A]at j;have D:a.size<=1000000:=by
   apply tK;intro u;rw[if_neg u]at j;cases j
  rw[if_pos D]at j;go_enter func34,ntmps34
  go_wp2_with fail
  rw[(pG G.symm)];refine(jki W M a.size (h.below z).size D).mono ?_;rintro e w1 ⟨v1,rfl,R,P⟩;obtain⟨xa,xn,xc,rfl⟩:=zq R;go_wp2_with fail
  go_loopw [7,8,9,10,11,20] (λx _ _ _ _ i wr=>∃(k:Nat) (st:List Int) (sa:Option Addr) (sn sc:Nat),k<=ts.length/\i=.int .i64 k/\x=.slice sa sn sc/\wr.ownsRow 0 5 1 (.slice sa sn sc) st.length (st.map (Value.int .u8))/\zzm a (ts.drop k) k st=some r/\pU w wr/\wr.heap[w.heap.size]?=some (.cells #[.string ⟨#[]⟩,.slice none 0 0,.slice none 0 0,.slice none 0 0,.bool false] 24 (0,0))) (λ_ _ _ _ _ i _=>ts.length-(intOf i).toNat)
  case atStart=>exact⟨0,_,xa,xn,xc,rW _,rfl,rfl,(show w1.ownsRow 0 5 1 (.slice xa xn xc) (List.replicate a.size (0:Int)).length ((List.replicate a.size (0:Int)).map (Value.int .u8)) by rw[Jb];exact zu (rW _) R),(pG j),((pG z).trans (P.mono aj)),((P.block w.heap.size a8).trans U)⟩
  case round=>
   obtain⟨k,st,sa,sn,sc,hk,rfl,rfl,ho,b,m,C⟩:=hrel;have s:=m.size;have O:=wu C;by_cases Q:k<ts.length
   ·obtain⟨g,o,rfl,a2,u⟩:=(pG H) k Q;have e0:wr.cell? ⟨g,o+k,none⟩=some (.string ts[k]):=(m.cell (p:=⟨g,o+k,none⟩) a2).trans u;rw[rM Q,zzm]at b;have f:st.length<=1000000:=by
     apply tK;intro u;rw[if_neg u]at b;cases b
    rw[if_pos f]at b;obtain⟨q,hq,b⟩:=wQ.mp b;obtain⟨V,⟨Z,tc,cs,h1,X,Y⟩,_,_,_⟩:=L.below m;have a0:=jyv wr 0 so M nb a.vars a.tab a.steps st ts[k] sa Z sn sc tc cs V ho h1 X Y d.steps d.vars f d.sl (rW _) q hq;have y:=pG b;generalize ts[k]=t at *;go_wp2_with fail
    refine a0.mono ?_;rintro e w5 ⟨v5,rfl,S,l⟩;obtain⟨a5,l5,c5,rfl⟩:=zq S;have aB:=l.size;have B:=m.trans (l.mono s);have c:=(l.block w.heap.size O).trans (pG C);obtain⟨r0,r1,r2,r3,r4,y0,y1,y2,y3,y4⟩:=jl c;have aA:=wu c;cases T:q.2
    ·have hE:r=(noView,false,7,(k:Int)):=by
      have:=y;rw[T,if_neg au]at this;injection this with this;exact this.symm
     subst hE;go_wp2
     refine rY (v:=.tuple #[.agg #[.string ⟨#[]⟩,.slice none 0 0,.slice none 0 0,.slice none 0 0,.bool false],.int .i64 7,.int .i64 k]) (um results34 _ _ w.heap.size _ _ _ _ rfl (kjw c _ _ _ _ _) underlying24 rfl ah) rfl ?_;exact(N w5 B c 7 k)
    ·have a1:=show zzm a (ts.drop (k+1)) (k+1) q.1=some r by have:=y;rw[T,if_pos rfl]at this;exact this
     go_wp2
     go_roundw
     case rel=>exact⟨k+1,q.1,a5,l5,c5,aj,eu,rfl,(zu (rW _) S),a1,(pG B),c⟩
     case measure=>exact qQ
   ·have:k=ts.length:=by omega
    subst this;rw[Qd,zzm]at b;have f:st.length<=1000000:=by
     apply tK;intro u;rw[if_neg u]at b;cases b
    rw[if_pos f]at b;obtain⟨v,hv,b⟩:=rJ.mp b;subst b;obtain⟨V,⟨Z,tc,cs,h1,X,Y⟩,⟨na,nc,ds,h4,h5,h6⟩,_,_⟩:=L.below m;go_wp2_with fail
    refine(vv9 wr 0 so M nb a st sa Z na sn sc tc nc cs ds V ho h1 X Y d.steps h4 h5 h6 d.nevers d.vars f d.sl d.nl (rW _) v hv).mono ?_;rintro e w5 ⟨x5,rfl,⟨E,en,F,wa,J,I,ba,bn,bc,rfl,a4,a6,a7⟩,l⟩;have c:=(l.block w.heap.size O).trans (pG C);obtain⟨r0,r1,r2,r3,r4,y0,y1,y2,y3,y4⟩:=jl c;have K:=qv6 c (bad:=[24]) ak (.string v.text) (.slice E en F) (.slice wa J I) (.slice ba bn bc) (.bool (kvj v));go_wp2
    refine rY (v:=.tuple #[.agg #[.string v.text,.slice E en F,.slice wa J I,.slice ba bn bc,.bool (kvj v)],.int .i64 0,.int .i64 0]) (um results34 _ _ w.heap.size _ _ _ _ rfl (kjw c _ _ _ _ _) underlying24 rfl ah) rfl ?_;exact(show kkz w (v,kvj v,0,0) (.returned (.tuple #[.agg #[.string v.text,.slice E en F,.slice wa J I,.slice ba bn bc,.bool (kvj v)],.int .i64 0,.int .i64 0])) _ from⟨E,en,F,wa,J,I,ba,bn,bc,rfl,zu s (jw a4 K (dw.none _) ak),zu s (jw a6 K (dw.none _) ak),zu s (jw a7 K (dw.none _) ak),kz9 (m.trans (l.mono s)) _ _ _ _ _⟩)
end Go.Proofs.YtpmcnonmkghokaaGreatDoor

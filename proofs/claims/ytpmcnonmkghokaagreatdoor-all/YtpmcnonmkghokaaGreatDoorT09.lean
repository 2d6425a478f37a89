import Derived.Test.YtpmcnonmkghokaaGreatDoorT08
import Derived.Test.YtpmcnonmkghokaaGreatDoorT01
import Derived.Test.YtpmcnonmkghokaaGreatDoorT06
import Derived.Test.YtpmcnonmkghokaaGreatDoorT05
set_option maxRecDepth 100000
set_option maxHeartbeats 8000000
set_option linter.unusedVariables false
set_option linter.unusedSimpArgs false
namespace Go.Proofs.YtpmcnonmkghokaaGreatDoor
open Go.Proofs.Tryz Go.RowKit
attribute [local go_sem ↓] Go.wp_at_zero Go.wp_at_succ
variable {a4 b r:ByteArray}{g9:Int}{b7:Int×List (List Int)}{j0:List (List (List Int))}{S ls:List (List Int)}{gs:List (Nat×Nat)}{e8 ms st:List Int}{bad:List Nat}{l:List PP}{rs:List PRule}{L:List RIn}{cs xs:List Value}{j2:MView}{B C T X bc bn c i j k lo n n0 n1 o pc xc xn:Nat}{ba ga pa xa:Option Addr}{x:Option Nat}{a7:PRule}{t:PTree}{i7:PVar}{b6:RIn}{a:SLab}{a8 a9 b2 b3 b4 wv xv y:Value}{w w' w4 wa wb:World}
theorem dw.v(h:dw lo w rs xs)(hi:i<rs.length):∃vp vg vb,(xs[i*6]?=some (.string (rs[i]).y.t)/\xs[i*6+1]?=some (.string (rs[i]).y.x)/\xs[i*6+2]?=some (i_ (rs[i]).y.v)/\xs[i*6+3]?=some vp/\xs[i*6+4]?=some vg/\xs[i*6+5]?=some vb)/\vq0 w rs[i] vp vg vb:=by have⟨vp,vg,vb,ps,e,h1,d,f,g⟩:=qji i hi h;obtain⟨pa,pc,rfl,_⟩:=qp h1;obtain⟨ga,rfl⟩:=d.ptr;obtain⟨ba,bc,rfl,_⟩:=qp f;exact⟨_,_,_,e,pa,pc,ga,ba,bc,ps,rfl,rfl,rfl,qo jG h1,d.mono<|jG,qo jG f,g.mono<|jG⟩
def OwnIn(B:Nat)(w:World)(y:Value)(L:List RIn):Prop:=∃cs,w.ownsRow B 159 8 y L.length cs/\jzf w L cs
theorem OwnIn.below(h:OwnIn B w y L)(hb:oq w w'):OwnIn B w' y L:=by have⟨cs,h1,d⟩:=h;exact⟨cs,qj h1 hb,d.below hb⟩
def nAt(n0 n1 q:Nat):Array Value:=#[i_ (if 0<q then n0 else 1:Nat),i_ (if 1<q then n1 else 1:Nat)]
theorem xzk(h:l.length<=2):nAt (kwo t l 0) (kwo t l 1) l.length=#[i_ (kwo t l 0),i_ (kwo t l 1)]:=by
 obtain _|⟨p,_|⟨q,_|⟨z,l⟩⟩⟩:=l
 ·rfl
 ·rfl
 ·rfl
 simp_all
theorem pwe(h:j<2):(nAt n0 n1 j).setIfInBounds j (i_ (if j=0 then n0 else n1:Nat))=nAt n0 n1 (j+1):=by
 obtain _|_|j:=j
 ·rfl
 ·rfl
 ·omega
theorem vwr(r:PRule)(n1:Nat):∀q,((List.range q).flatMap λa=>qx7 r n1 a).length=q*n1
 |0=>ay
 |q+1=>by rw[Jf,JZ,rD,vwr r n1 q,Nat.succ_mul];simp[qx7]
theorem qjp:∀{rs:List PRule},(∀r∈rs,zvk t r)->(kq4 t rs).length<=81*rs.length
 |[],_=>by simp[kq4]
 |r::rs,h=>by
  have g:=qjp (rs:=rs) (λx f=>h x<|jB f);have d:=(h r<|rZ ..).bd 0;have h1:=(h r<|rZ ..).bd 1;have e:(qx8 t r).length=kwo t r.u 0*kwo t r.u 1:=vwr r _ _;have:kwo t r.u 0*kwo t r.u 1<=9*9:=Jt d.2 h1.2;have:kq4 t (r::rs)=qx8 t r++kq4 t rs:=by simp[kq4]
  grind
theorem pxv{a b:Nat}(hn:a4.size<=800)(m:Nat):(vx9 a4 a b m).size<=810:=by
 have h1:∀i,(kvh i).size=1:=λ_=>rfl
 obtain _|_|m:=m<;>simp only[vx9,ZM,h1]
 ·have:(⟨#[40]⟩:ByteArray).size=1:=rfl;omega
 ·have:(⟨#[40]⟩:ByteArray).size=1:=rfl;omega
 ·have:(⟨#[40]⟩:ByteArray).size=1:=rfl;have:(⟨#[44]⟩:ByteArray).size=1:=rfl;omega
theorem pwm(w:World)(q p:Nat)(d:T<=2):(w.alloc (.cells #[i_ q,i_ p] 3)).ownsRow 0 3 1 (sL w.heap.size T 2) T ((([(q:Int),(p:Int)]).take T).map (Value.int .i64)):=by refine⟨by simp_all,.inr ⟨w.heap.size,2,_,rfl,jG,qy,d,iq,rfl,?_⟩⟩;simp
structure zxa (w:World)(o:Nat)(r:PRule)(pa:Option Addr)(pc:Nat)(ga ba:Option Addr)(bn bc n0 n1:Nat)(wa:World):Prop where
 D:oq w wa
 rul:wa.heap[o]?=some (.cells #[.string r.y.t,.string r.y.x,i_ r.y.v,.slice pa r.u.length pc,.pointer ga,.slice ba bn bc] 147 (0,0))
 xx:wa.heap[o+1]?=some (.cells #[i_ n0,i_ n1] 3 (0,0))
 v:vq0 wa r (.slice pa r.u.length pc) (.pointer ga) (.slice ba bn bc)
theorem zxa.below(h:zxa w o a7 pa pc ga ba bn bc n0 n1 wa)(hb:oq wa wb):zxa w o a7 pa pc ga ba bn bc n0 n1 wb:=
 ⟨h.D.trans<|hb.mono h.D.size,(hb.block _<|wQ h.rul).trans h.rul,(hb.block _<|wQ h.xx).trans h.xx,h.v.below hb⟩
theorem zxa.gr(h:zxa w o a7 pa pc ga ba bn bc n0 n1 wa)(hv:wa.ownsRow w.heap.size 159 8 xv n xs)(d:wa.grownBy wb xv.ownBlock):zxa w o a7 pa pc ga ba bn bc n0 n1 wb:=
 ⟨h.D.grown d h.D.size<|jo hv,(d.block _ (wQ h.rul)<|not_row hv h.rul ak).trans h.rul,(d.block _ (wQ h.xx)<|not_row hv h.xx ak).trans h.xx,h.v.gr hv d⟩
theorem jjc(h:kqc w T t)(ht:TreeOk t)(A:w.ownsRow lo 147 6 xv rs.length xs)(bK:dw lo w rs xs)(hp:∀r∈rs,zvk t r)(hl:rs.length<=801):Calls prog 70 #[pT T,xv] w λe w'=>∃y,e=.returned y/\OwnIn w.heap.size w' y (kq4 t rs)/\oq w w':=by
 obtain⟨xa,xc,rfl,(HV:Hid _)⟩:=qp A;obtain⟨HT,b6,aG⟩:=jF h bK hp;clear hp;go_in;go_wp21;go_loopw [5,6,7,8,9,10,11,12,13,14] (λy i _ _ _ _ _ _ _ _ wr=>∃k:Nat,k<=rs.length/\i=.int .i64 k/\OwnIn w.heap.size wr y (kq4 t<|rs.take k)/\oq w wr) (λ_ i _ _ _ _ _ _ _ _ _=>rs.length-(intOf i).toNat);exact⟨0,jG,rfl,⟨[],jT,by simp[kq4],λk hk=>by simp[kq4]at hk⟩,bR⟩;obtain⟨d,bS⟩:∃d,d=wr:=⟨_,rfl⟩;subst bS;obtain⟨k,hk,rfl,l,E⟩:=hrel;have bN:=E.size;have K:=oz l;obtain⟨cs,f,_⟩:=l;obtain⟨ya,yc,rfl,_⟩:=qp f;by_cases a3:k<rs.length
 case neg=>
  rw[show rs.take k=rs by grind]at K;go_wp2;go_ret;exact⟨_,rfl,by rw[show rs.take k=rs by rw[show k=rs.length by omega,Qc]];exact K,E⟩
 case pos=>
 obtain⟨g,rfl,_,hg,hc⟩:=ku HV k a3;obtain⟨vp,vg,vb,⟨f0,f1,f2,f3,f4,f5⟩,bL⟩:=b6.v a3;have I:=(ku aG) _<|wZ a3;have b8:=oz (by grind [List.take_succ_eq_append_getElem,kq4]:kq4 t (rs.take<|k+1)=kq4 t (rs.take k)++qx8 t rs[k]);have cc:∀j,j<6->d.cell? ⟨g,k*6+j,none⟩=xs[k*6+j]?:=λj hj=>(E.cell (p:=⟨g,k*6+j,none⟩) hg).trans<|hc _ aj
 have e0:=(cc 0 aj).trans f0;have e1:=(cc 1 aj).trans f1;have e2:=(cc 2 aj).trans f2;have e3:=(cc 3 aj).trans f3;have e4:=(cc 4 aj).trans f4;have e5:=(cc 5 aj).trans f5;simp only[Qk]at e0;have Y:=bL.below E;generalize rs[k]=r at *;obtain⟨pa,pc,ga,ba,bc,ps,rfl,rfl,rfl,aZ,_,_,_⟩:=ku Y;have bU:=I.bd 0;have aY:=I.bd 1;have a5:=I.1;obtain⟨W,hW⟩:∃W,W=(d.alloc<|.cells #[.string r.y.t,.string r.y.x,.int .i64 r.y.v,.slice pa r.u.length pc,.pointer ga,.slice ba ps.length bc] 147).alloc (.cells #[.int .i64 1,.int .i64 1] 3):=⟨_,rfl⟩;have aB:oq d W:=by rw[hW];exact(jZ d).trans ((jZ _).mono ay)
 have cK:d.heap.size+2=W.heap.size:=by simp_all
 have HR:Hid (W.heap[d.heap.size]?=some (.cells #[.string r.y.t,.string r.y.x,.int .i64 r.y.v,.slice pa r.u.length pc,.pointer ga,.slice ba ps.length bc] 147 (0,0))):=by rw[hW];exact zy<|qy
 have aF:Hid (W.heap[d.heap.size+1]?=some (.cells (nAt (kwo t r.u 0) (kwo t r.u 1) 0) 3 (0,0))):=by rw[hW];have:=qy (w:=d.alloc<|.cells #[.string r.y.t,.string r.y.x,.int .i64 r.y.v,.slice pa r.u.length pc,.pointer ga,.slice ba ps.length bc] 147) (o:=.cells #[.int .i64 1,.int .i64 1] 3);simp only[tV]at this;exact this
 have aM:=oz hW.symm;have bY:=(HT.below E).below aB;obtain⟨cN,cO,e9,a7⟩:=qp aZ;injection e9 with aN bA bB;rw[<-aN]at a7;clear aN bA bB;have aH:=oz a7;have aL:=HT.below E;clear cc hc f0 f1 f2 f3 f4 f5 hW a7;go_wp21
 rw[ku aM];go_loopw [9] (λq u=>∃j:Nat,j<=r.u.length/\q=.int .i64 j/\u.heap[d.heap.size+1]?=some (.cells (nAt (kwo t r.u 0) (kwo t r.u 1) j) 3 (0,0))/\Kept (d.heap.size+1) W u) (λq _=>r.u.length-(intOf q).toNat);exact⟨0,jG,rfl,aF,Kept.refl _ _⟩;obtain⟨u,bQ⟩:∃u,u=wr:=⟨_,rfl⟩;subst bQ;obtain⟨j,hj,rfl,(v:Hid _),B⟩:=hrel;have C:oq d u:=aB.trans<|B.toBelow aj aj;have cL:=B.size;have m0:=kzh<|(B.block d.heap.size aj aj).trans HR;by_cases N:j<r.u.length
 case pos=>
  obtain⟨gp,bF,_,bD,aR⟩:=(ku aH) j N;subst bF;have cG:u.cell? ⟨gp,j*6+4,none⟩=some (.string (r.u[j]).Q.x):=by rw[C.cell (p:=⟨gp,j*6+4,none⟩) bD,aR _ aj];exact kqo kwf 6 (λ_=>rfl) r.u j 4 N aj
  obtain⟨nn,a8⟩:=I.2.1 _<|wZ N;have a6:(if j=0 then kwo t r.u 0 else kwo t r.u 1)=nn:=by
   have:kwo t r.u j=nn:=by unfold kwo;rw[wW N];exact a8.eq
   obtain _|_|j:=j
   ·simp_all
   ·simp_all
   ·omega
  obtain⟨sk,bM,sl,sd,sv,cP,cQ⟩:=a8;have aK:=qk5 (aL.below C) ht.j bM sl sd;rw[sv]at aK;have c9:∃z,u.cell? ⟨d.heap.size+1,j,none⟩=some z:=by
   have cF:j<2:=aj;rw[QK u _ j _ _ _ v];obtain _|_|j:=j
   ·exact⟨_,rfl⟩
   ·exact⟨_,rfl⟩
   ·omega
  obtain⟨z,c9⟩:=c9;have f9:=Zt u (d.heap.size+1) j _ _ v;have U:=oz (show(u.setCell ⟨d.heap.size+1,j,none⟩<|.int .i64 nn).heap[d.heap.size+1]?=some (.cells (nAt (kwo t r.u 0) (kwo t r.u 1)<|j+1) 3 (0,0)) by rw[<-pwe (show j<2 by omega),a6];exact jD _ j _ _ _ v)
  generalize (r.u[j]).Q.x=X at *;clear aR sl sv a6;go_wp21;refine zM aK ?_;rintro w1 rfl;go_wp2;exact rdM ⟨j+1,aj,eu,U,B.kzr j _⟩
 case neg=>
 have bG:j=r.u.length:=aj;subst bG;rw[xzk a5]at v;obtain⟨aJ,U,aE,b5,Z⟩:=jz ((B.block d.heap.size aj aj).trans HR) v (E.trans (C.mono bN)) (K.below C) (Y.below C);have a4:qx8 t r=(List.range<|kwo t r.u 0).flatMap λa=>qx7 r (kwo t r.u 1) a:=rfl
 have aV:=oz a4;generalize kwo t r.u 0=n0 at *;generalize kwo t r.u 1=n1 at *;have b3:=oz (show zxa w d.heap.size r pa pc ga ba ps.length bc n0 n1 u from⟨aE,aJ,v,Z⟩);clear C K E B v Y HR aF aM aH aL a4 aE aJ U Z;have bZ:(kq4 t<|rs.take k).length<=70000:=by have:=qjp (t:=t) (rs:=rs.take k) (λx hx=>aG x<|Zp hx);rw[Ze]at this;omega
 generalize kq4 t (rs.take k)=F at *;have bH:=I.2.2;go_wp21;clear m0;go_loopw [5,10,11,12,13,14] (λy aa _ _ _ _ wa=>∃q:Nat,q<=n0/\aa=.int .i64 q/\OwnIn w.heap.size wa y (F++(List.range q).flatMap λa=>qx7 r n1 a)/\zxa w d.heap.size r pa pc ga ba ps.length bc n0 n1 wa) (λ_ aa _ _ _ _ _=>n0-(intOf aa).toNat);exact⟨0,jG,rfl,by simpa using ku b5,b3⟩;obtain⟨wa,bO⟩:∃wa,wa=wr:=⟨_,rfl⟩;subst bO;obtain⟨q,hq,rfl,l,a2⟩:=hrel;obtain⟨a0,a1,_⟩:=kj6 a2.xx;obtain⟨S,aC⟩:=jS l a2;obtain⟨cs,f,_⟩:=l;obtain⟨cU,cV,rfl,_⟩:=qp f;clear f a2;by_cases cH:q<n0
 case neg=>
  have aT:q=n0:=aj;obtain⟨R,Q⟩:=jS (show OwnIn w.heap.size wa _ (kq4 t<|rs.take (k+1)) by rw[ku b8,ku aV,<-aT];exact S) aC.D;clear aT;go_wp2;exact rdM ⟨k+1,aj,eu,R,Q⟩
 case pos=>
 have cE:((List.range q).flatMap λa=>qx7 r n1 a).length<=81:=by rw[vwr];exact rP (Jt (by omega:q<=9) aY.2) aj
 have aW:=oz (by rw[Jf,JZ];simp[qx7]:((List.range<|q+1).flatMap λa=>qx7 r n1 a)=((List.range q).flatMap λa=>qx7 r n1 a)++(List.range n1).map λ(b:Nat)=>(⟨r,([(q:Int),(b:Int)]).take r.u.length⟩:RIn));generalize ((List.range q).flatMap λa=>qx7 r n1 a)=O at *;go_wp21;go_loopw [5,11,12,13,14] (λy bb _ _ _ wb=>∃p:Nat,p<=n1/\bb=.int .i64 p/\OwnIn w.heap.size wb y ((F++O)++(List.range p).map λ(b:Nat)=>(⟨r,([(q:Int),(b:Int)]).take r.u.length⟩:RIn))/\zxa w d.heap.size r pa pc ga ba ps.length bc n0 n1 wb) (λ_ bb _ _ _ _=>n1-(intOf bb).toNat);exact⟨0,jG,rfl,by simpa using ku S,aC⟩;obtain⟨wb,bP⟩:∃wb,wb=wr:=⟨_,rfl⟩;subst bP;obtain⟨p,hp,rfl,l,M⟩:=hrel;obtain⟨b0,b1,_⟩:=kj6 M.xx;obtain⟨aU,aD,L⟩:=jF l M M.rul;obtain⟨cs,f,J⟩:=l;obtain⟨yb,cW,rfl,_⟩:=qp f;clear M;by_cases a6:p<n1
 case neg=>
  have aS:p=n1:=aj;have R:=oz (show OwnIn w.heap.size wb _ (F++((List.range<|q+1).flatMap λa=>qx7 r n1 a)) by rw[ku aW,<-sZ,<-aS];exact aU);clear aS f J;go_wp2;exact rdM ⟨q+1,aj,eu,R,aD⟩
 case pos=>
 obtain⟨m0,m1,m2,m3,m4,m5,_⟩:=kzh L;have bX:=wQ L;obtain⟨m,G⟩:∃m,m=wb.alloc (.cells #[.int .i64 q,.int .i64 p] 3):=⟨_,rfl⟩;have H:oq wb m:=by rw[G];exact jZ _
 have cI:wb.heap.size+1=m.heap.size:=by simp_all
 have aO:m.heap[wb.heap.size]?=some (.cells #[.int .i64 q,.int .i64 p] 3 (0,0)):=by rw[G];exact qy
 have b2:=oz (show m.ownsRow 0 3 1 (.slice (some ⟨wb.heap.size,0,none⟩) r.u.length 2) r.u.length ((([(q:Int),(p:Int)]).take r.u.length).map<|Value.int .i64) by rw[G];exact pwm wb q p a5);obtain⟨s0,s1,_⟩:=kj6 aO;obtain⟨b4,V,aI,P,aX⟩:=jz (J.below H) (qj f H) ((H.block d.heap.size<|wQ L).trans L) (aD.below H) G.symm;have cB:((F++O)++(List.range p).map λ(b:Nat)=>(⟨r,([(q:Int),(b:Int)]).take r.u.length⟩:RIn)).length<=80000:=ah;have b7:=oz (by rw[Jf,Qw];simp:((F++O)++(List.range<|p+1).map λ(b:Nat)=>(⟨r,([(q:Int),(b:Int)]).take r.u.length⟩:RIn))=((F++O)++(List.range p).map λ(b:Nat)=>(⟨r,([(q:Int),(b:Int)]).take r.u.length⟩:RIn))++[⟨r,([(q:Int),(p:Int)]).take r.u.length⟩]);generalize ((F++O)++(List.range p).map λ(b:Nat)=>(⟨r,([(q:Int),(b:Int)]).take r.u.length⟩:RIn))=LC at *;have bJ:q<10:=aj;have bI:p<10:=aj;clear f J H aO G;go_wp21;rw[ku aX];go_loopw [13,14] (λs kk ww=>∃z:Nat,z<=r.u.length/\kk=.int .i64 z/\s=.string (vx9 r.y.x q p z)/\ww=m) (λ_ kk _=>r.u.length-(intOf kk).toNat);exact⟨0,jG,rfl,rfl,rfl⟩;obtain⟨z,hz,rfl,rfl,a9⟩:=hrel;have a9:=a9.symm;subst a9;have cJ:=pxv (a:=q) (b:=p) bH z;have aP:∀i,(kvh i).size=1:=λ_=>rfl
 have cC:=aP q;have cD:=aP p;by_cases cM:z<r.u.length
 case pos=>
  by_cases aA:z=0
  ·subst aA;go_wp2_with (first|(go_at_call 28;refine zM (qzq q bJ _) ?_;rintro w2 rfl))
   go_wp2;exact rdM ⟨1,aj,eu,rfl,ay⟩
  ·have aA:z=1:=by omega
   subst aA;go_wp2_with (first|(go_at_call 28;refine zM (qzq p bI _) ?_;rintro w2 rfl))
   go_wp2;exact rdM ⟨2,aj,eu,rfl,ay⟩
 case neg=>
 have bT:z=r.u.length:=aj;subst bT;have b9:=oz<|pyc r.y.x q p r.u.length a5;obtain⟨m0,m1,m2,m3,m4,m5,_⟩:=kzh aI;have bW:=wQ aI;have bV:w.heap.size<=m.heap.size:=P.D.size;generalize cA:vx9 r.y.x q p r.u.length=PP at *;go_wp2_with (at_builtin;refine apO (V.alloc _) ?_)
 intro v' w' A D _ bC;have R:=oz (show OwnIn w.heap.size w' v' ((F++O)++(List.range<|p+1).map λ(b:Nat)=>(⟨r,([(q:Int),(b:Int)]).take r.u.length⟩:RIn)) by
  rw[ku b7];refine⟨_,by rw[rD];exact A,jzf.snoc (V.alloc _) D (b4.below<|jZ m) rfl ?_⟩;have aQ:(([(q:Int),(p:Int)]).take r.u.length).length=r.u.length:=by simp_all
  refine⟨.slice pa r.u.length pc,.pointer ga,.slice ba ps.length bc,some ⟨wb.heap.size,0,none⟩,2,?_,P.v.below<|jZ m,?_⟩
  ·rw[aQ,show riT ⟨r,([(q:Int),(p:Int)]).take r.u.length⟩=PP++⟨#[41]⟩ from b9.symm]
  ·rw[aQ];exact qj b2<|jZ m)
 have Q:=oz<|(P.below<|jZ m).gr (V.alloc _) D;obtain⟨cR,cT,cS,rfl⟩:=qh A;clear A D bC;go_wp2
 exact rdM ⟨p+1,aj,eu,R,Q⟩
def zwc(t:PTree)(S:List (List Int))(x:RIn):Option (Int×List (List Int)):=
 (zqy t x.r.u x.ms S x.r.guard).bind λc=>if c.2 then some (2,S) else if c.1==0 then some (0,S) else (doR t x.r.u x.ms x.r.S S).map λp=>if p.2 then (2,S) else (1,p.1)
structure RiOk (x:RIn):Prop where
 S:SOk x.r.S
 kvt:kvt x.r.S<=1000
 guard:isNil x.r.guard=false
 pars:x.r.u.length<=801
 xy:x.ms.length<=801
theorem vjb{b5:TypeId}(h:Rw w T #[xv,y,wv,a8,a9,b2,b3,b4] b5):Ce w T 0 xv/\Ce w T 1 y/\Ce w T 2 wv/\Ce w T 3 a8/\Ce w T 4 a9/\Ce w T 5 b2/\Ce w T 6 b3:=
 ⟨rc h 0,rc h 1,rc h 2,rc h 3,rc h 4,rc h 5,rc h 6⟩
def ky4(S:List (List Int)):Prop:=S.length<=1000/\∀l∈S,0<l.length/\l.length<=1000
theorem jjd(h:kqc w T t)(ht:TreeOk t)(U:vyv t)(F:StA lo w xv S gs)(O:ky4 S)(I:zwa w b6 cs)(j:RiOk b6)(d:zwc t S b6=some b7):Calls prog 71 #[pT T,xv,.agg cs.toArray] w λe w'=>∃y gs',rT e (.tuple #[i_ b7.1,y])/\StA 0 w' y b7.2 gs'/\oq w w':=by
 obtain⟨vp,vg,vb,aa,ac,rfl,⟨pa,pc,ga,ba,bc,ps,rfl,rfl,rfl,h1,G,h3,N⟩,h5⟩:=I;obtain⟨i,rfl⟩:∃i,ga=some (Ad i 0):=by
  cases Q:b6.r.guard with
  |nil=>have:=j.guard;rw[Q]at this;cases this
  |node _ _ _ _ _=>rw[Q]at G;have⟨i,_,_,e,_⟩:=G;simp_all
 have⟨W,x⟩:=cpy<|w.alloc (.cells #[.string b6.r.y.t,.string b6.r.y.x,i_ b6.r.y.v,.slice pa b6.r.u.length pc,pT i,.slice ba ps.length bc,.slice aa b6.ms.length ac,.string (riT b6)] 159);have f:oq w W:=by rw[x];exact jZ w
 have g:w.heap.size<W.heap.size:=by simp_all
 have v:W.heap[w.heap.size]?=some (.cells #[.string b6.r.y.t,.string b6.r.y.x,i_ b6.r.y.v,.slice pa b6.r.u.length pc,pT i,.slice ba ps.length bc,.slice aa b6.ms.length ac,.string (riT b6)] 159 (0,0)):=by rw[x];exact qy
 have⟨i0,i1,i2,i3,i4,i5,i6⟩:=vjb v;have J:=λ(wx:World)(I:oq W wx)=>zja ((F.below f).below I) O.2 O.1
 have C:=(F.below f).mono<|jG;have M:=oz x.symm;have z:=λ(xa:Option Addr)(xn xc:Nat)=>(⟨h.below f,ht,qj h1 f,j.pars,qj h5 f,j.xy⟩:Cx W T t b6.r.u b6.ms ⟨b6.r.y,pa,b6.r.u.length,pc,some (Ad i 0),ba,ps.length,bc,aa,b6.ms.length,ac,xa,xn,xc⟩)
 have Y:=G.below f;have K:=qj h3 f;have L:=N.below f;have H:ps.length<=1000:=by rw[N.T];exact j.kvt
 unfold zwc at d;obtain⟨⟨c1,c2⟩,(X:Hid _),d⟩:=wu.1 d;dsimp only at d;have Z:=oz d;clear x d;go_in;go_upto_region 1 with fail
 rw[M];go_region_held3 (λw'=>w'.cell? (Ad w.heap.size 0)=some (.string b6.r.y.t)/\w'.cell? (Ad w.heap.size 1)=some (.string b6.r.y.x)/\w'.cell? (Ad w.heap.size 2)=some (i_ b6.r.y.v)/\w'.cell? (Ad w.heap.size 3)=some (.slice pa b6.r.u.length pc)/\w'.cell? (Ad w.heap.size 4)=some (pT i)/\Ce w' w.heap.size 5 (.slice ba ps.length bc)/\Ce w' w.heap.size 6 (.slice aa b6.ms.length ac)) (first|exact⟨i0,i1,i2,i3,i4,i5,i6⟩|exact vjb A|exact vjb (zy A))
  (first|(go_at_call 123;refine(J _ bR.drew).mono ?_;rintro e u ⟨x2,D,rfl,q,P⟩;have m:=(Below.refl W.heap.size W).drew.trans P;have A:=(m.block w.heap.size g).trans v;have⟨xa,xc,ex,_⟩:=qp q.out;subst ex;dsimp only))
 have R:=m.size;have⟨w3,s⟩:=cpy<|u.alloc (.cells #[pT T,.string b6.r.y.t,.string b6.r.y.x,i_ b6.r.y.v,.slice pa b6.r.u.length pc,pT i,.slice ba ps.length bc,.slice aa b6.ms.length ac,.slice xa S.length xc,.bool false] 251);have l:oq u w3:=by rw[s];exact jZ _
 have V:Wk W T u.heap.size ⟨b6.r.y,pa,b6.r.u.length,pc,some (Ad i 0),ba,ps.length,bc,aa,b6.ms.length,ac,xa,S.length,xc⟩ D w3 S false:=
  ⟨m.trans<|l.mono aj,R,by rw[s];exact qy,(q.mono<|jV).below l⟩
 have⟨_,_,_,_,j4,j5,_⟩:=vjb<|(l.block w.heap.size aj).trans ((m.block w.heap.size g).trans v);go_wp21
 rw[(oz s.symm)];refine zM (kyg b6.r.guard 0 i (z xa S.length xc) V Y _ X) λw4 k=>?_;rw[QX]at k;have b8:=kju k.e;have d:=Z;have B:=C.below k.D;cases c2
 case true=>
  rw[lJ rfl]at d;injection d with d;subst d;go_wp2
  go_ret2;exact⟨_,rfl,⟨gs,B⟩,f.trans<|k.D.mono (Qr g)⟩
 case false=>
 rw[Xy ay]at d;cases E:(c1==0)
 case true=>
  rw[E,lJ rfl]at d;injection d with d;subst d;go_wp2
  go_ret2;exact⟨_,rfl,⟨gs,B⟩,f.trans<|k.D.mono (Qr g)⟩
 case false=>
 rw[E,Xy ay]at d;have⟨⟨p1,p2⟩,hp,d⟩:=wX.1 d;have a0:=(vjb<|(k.D.block w.heap.size g).trans v).2.2.2.2.2.1;go_wp21;refine zM (xzb b6.r.S 0 _ ps (z xa S.length xc) U k K L j.S H _ hp) λw5 p=>?_;have⟨⟨_,_,_,_,_,_,_,_,y8,y9⟩,_⟩:=kju p.e;cases p2
 case true=>
  simp at d;subst d;go_wp2;go_ret2;exact⟨_,rfl,⟨gs,(C.below p.D)⟩,f.trans<|p.D.mono (Qr g)⟩
 case false=>
  simp at d;subst d;go_upto_region 10 with fail
  go_region_held3 (λw'=>w'.cell? (Ad u.heap.size 8)=some (.slice xa S.length xc)) (exact y8) (fail)
  go_wp2;go_ret2;exact⟨_,rfl,⟨D,(p.st.mono<|jG).below bR.drew⟩,f.trans<|(p.D.drew).mono (Qr g)⟩
section
def stI(t:PTree)(k:Tok):Int:=zx (ug t) k.x.toList
def ofB(v:PVar):Bool:=v.k.t.toList==mX
def jxc(way:List (List Int))(k x:Int):Option Int:=if k<0\/x<0 then none else (way[k.toNat]?).bind λo=>o[x.toNat]?
def tvR(t:PTree)(v:PVar)(way:List (List Int))(x:Int):Option Int:=if ofB v&&decide (0<=stI t v.k)&&decide (0<=x) then jxc way (stI t v.k) x else some x
def tpR(t:PTree)(v:PVar)(way:List (List Int))(k:Nat):Option Int:=if kwv v then jxc way (stI t v.g) k else some k
def qzn(t:PTree)(v:PVar)(way:List (List Int))(y:List Int):Nat->Option (List Int)
 |0=>some y
 |k+1=>(qzn t v way y k).bind λo=>(y[k]?).bind λx=>(tvR t v way x).bind λz=>(tpR t v way k).bind λp=>if 0<=p/\p<o.length then some (o.set p.toNat z) else none
def qjs(t:PTree)(S:List (List Int))(way:List (List Int)):Nat->Option (List (List Int))
 |0=>some S
 |i+1=>(qjs t S way i).bind λo=>(t.z[i]?).bind λv=>(S[i]?).bind λy=>(qzn t v way y y.length).map λr=>o.set i r
section
variable {t:PTree} {v:PVar} {way:List (List Int)} {S:List (List Int)}
theorem vqn:∀{n:Nat}{r:List Int},qzn t v way e8 n=some r->k<=n->∃s,qzn t v way e8 k=some s
 |0,r,h,hk=>by
  simp_all
 |n+1,r,h,hk=>by
  by_cases e:k=n+1
  ·simp_all
  ·rw[qzn]at h;have⟨s,d,_⟩:=wu.1 h;exact vqn d aj
theorem zya{g7:List Int}(h:qzn t v way e8 (n+1)=some g7):∃o x z p,qzn t v way e8 n=some o/\e8[n]?=some x/\tvR t v way x=some z/\tpR t v way n=some p/\0<=p/\p<o.length/\g7=o.set p.toNat z:=by rw[qzn]at h;have⟨o,h1,h⟩:=wu.1 h;have⟨x,d,h⟩:=wu.1 h;have⟨z,e,h⟩:=wu.1 h;have⟨p,f,h⟩:=wu.1 h;simp_all
theorem zk8:∀{n:Nat}{r:List Int},qzn t v way e8 n=some r->r.length=e8.length
 |0,r,h=>by rw[qzn]at h;simp_all
 |n+1,r,h=>by obtain⟨o,x,z,p,h1,_,_,_,_,_,rfl⟩:=zya h;rw[Jq,zk8 h1]
theorem vqs:∀{n:Nat} {r:List (List Int)},qjs t S way n=some r->k<=n->∃s,qjs t S way k=some s
 |0,r,h,hk=>by
  simp_all
 |n+1,r,h,hk=>by
  by_cases e:k=n+1
  ·simp_all
  ·rw[qjs]at h;have⟨s,d,_⟩:=wu.1 h;exact vqs d aj
theorem zye(h:qjs t S way (n+1)=some ls):∃o v y q,qjs t S way n=some o/\t.z[n]?=some v/\S[n]?=some y/\qzn t v way y y.length=some q/\ls=o.set n q:=by rw[qjs]at h;have⟨o,h1,h⟩:=wu.1 h;have⟨v,d,h⟩:=wu.1 h;have⟨y,e,h⟩:=wu.1 h;have⟨q,f,h⟩:=wX.1 h;simp_all
theorem zyi:∀{n:Nat} {r:List (List Int)},qjs t S way n=some r->r.length=S.length/\(∀k,n<=k->r[k]?=S[k]?)/\∀l∈r,∃l'∈S,l.length=l'.length
 |0,r,h=>by grind [qjs]
 |n+1,r,h=>by obtain⟨o,v,y,q,h1,_,d,e,rfl⟩:=zye h;have⟨i1,i2,i3⟩:=zyi h1;grind [zk8]
end
end
theorem OwnRows.way(h:OwnRows B w xv S)(D:S[k]?=some e8)(hi:e8[i]?=some g9):∃d cO g c,xv=.slice (some ⟨d,0,none⟩) S.length cO/\d<w.heap.size/\w.cell? ⟨d,k,none⟩=some (.slice (some ⟨g,0,none⟩) e8.length c)/\g<w.heap.size/\w.cell? ⟨g,i,none⟩=some (.int .i64 g9)/\k<S.length/\i<e8.length:=by obtain⟨la,ll,lc,cs,rfl,h1,H,z⟩:=h;obtain⟨j,rfl⟩:=rY.1 D;obtain⟨f,rfl⟩:=rY.1 hi;have⟨a,n,c,e,E⟩:=z k j;have⟨K,L,y,G⟩:=qp h1;injection y with q s t;subst q;subst s;subst t;obtain⟨d,rfl,_,v,A⟩:=G k j;have⟨I,J,x,F⟩:=qp E;injection x with l m p;subst l;subst m;subst p;obtain⟨g,rfl,_,C,u⟩:=F i f;refine⟨d,_,g,_,rfl,v,(A k aj).trans e,C,?_,j,f⟩;rw[u i aj,QV,wW f];rfl
theorem vza(h:kqc w T t)(ht:TreeOk t)(aG:StA lo w xv S gs)(hS:ky4 S)(hw:OwnRows 0 w wv ls)(aH:ls.length<=100/\∀o∈ls,o.length<=100){h6:List (List Int)}(hr:qjs t S ls S.length=some h6):Calls prog 193 #[pT T,xv,wv] w λe w'=>∃x' gs',e=.returned x'/\StA w.heap.size w' x' h6 gs'/\oq w w':=by
 obtain⟨za,zc,rfl,_⟩:=qp aG.out;have⟨HT,L,HR⟩:=jF h aG hr;have b4:=hS.1;have a5:=oz hS.2;have cI:=ht.z;have⟨HW,a9⟩:=jS hw aH.2;obtain⟨_,_,_,_,rfl,bB,_⟩:=hw;have⟨wa,wc,ew,_⟩:=qp bB;injection ew with u X e3;subst u;subst X;subst e3;clear hr aH;go_in
 go_wp21;refine(zja L a5 b4).mono ?_;rintro e w1 ⟨x1,l,rfl,a2,b7⟩;obtain⟨oa,oc,rfl,_⟩:=qp a2.out;go_wp21;go_loopw [8,9,10,11,12,13,14] (λi _ _ _ _ _ _ wr=>∃(k:Nat) (o:List (List Int)),k<=S.length/\i=i_ k/\qjs t S ls k=some o/\StA w.heap.size wr (.slice oa S.length oc) o l/\oq w wr) (λi _ _ _ _ _ _ _=>S.length-(intOf i).toNat);exact⟨0,S,jG,rfl,rfl,a2,b7⟩;obtain⟨D,rfl⟩:=cpy wr;obtain⟨k,o,hk,rfl,G,HO,Q⟩:=hrel;have bA:=Q.size;by_cases C:k<S.length
 case neg=>
  have aC:k=S.length:=aj;have e:=ku HR;rw[<-aC,G]at e;injection e with e;subst e;clear G aC;go_wp2
  go_ret;exact⟨_,_,rfl,HO,Q⟩
 case pos=>
 have⟨o2,a0⟩:=vqs HR (by omega:k+1<=S.length);obtain⟨o',V,y,q,u,hV,hy,(HQ:Hid _),X⟩:=zye a0;rw[G]at u;injection u with u;subst u;subst X;have⟨b5,aA⟩:=rY.1 hV;have a3:=(ku a5) y<|wB hy;have⟨J,bC,_⟩:=zyi G;have a4:Hid (o[k]?=some y):=(bC k<|jV).trans hy;have⟨HY,aR⟩:=jS hy a0;have a7:=HT.below Q;have bJ:=L.below Q;have⟨gt,ct,bV,cC,tq,tv⟩:=a7.var b5;rw[aA]at tv;have⟨t0,t1,t2,t3,t4,t5,t6,t7,t8,t9,bF,bG⟩:=tv;have⟨W,Y⟩:=cpy<|D.alloc (.cells #[.string V.y.t,.string V.y.x,i_ V.y.v,.string V.g.t,.string V.g.x,i_ V.g.v,.string V.k.t,.string V.k.x,i_ V.k.v,.string V.R.t,.string V.R.x,i_ V.R.v] 222);have M:oq D W:=by rw[Y];exact jZ D
 have cH:D.heap.size<W.heap.size:=by rw[Y];simp
 have a6:=a7.below M;have⟨aV,a8⟩:=jS Y.symm (by rw[Y];exact qy (w:=D):Rw W D.heap.size #[.string V.y.t,.string V.y.x,i_ V.y.v,.string V.g.t,.string V.g.x,i_ V.g.v,.string V.k.t,.string V.k.x,i_ V.k.v,.string V.R.t,.string V.R.x,i_ V.R.v] 222);clear G hV aA hy a0 Y;go_wp21;rw[ku aV];clear t0 t1 t2 t3 t4 t5 t6 t7 t8 t9 bF bG tq;refine zM (set_any V.k.x a6 ht.j) ?_;rintro W rfl;obtain⟨d0,d1,d2,d3,d4,d5,d6,d7,d8,d9,d10,d11,_⟩:=qwy a8;go_wp21;refine zM (set_any V.g.x a6 ht.j) ?_;rintro W rfl;clear d0 d1 d2 d3 d4 d5 d6 d7 d8 d9 d10 d11;have N:k<l.length:=by rw[(ku HO).T,J];exact C
 have cA:l[k].1<D.heap.size:=by have⟨g,c,e,_,h2⟩:=qkw (HO.rows k (by rw[J];exact C) N) (by rw[show o[k]=y by have:=ku a4;rw[wW (by rw[J];exact C)]at this;injection this];exact a3.1);unfold rwV at e;injection e with e;injection e with e;rw[Addr.mk.injEq]at e;rw[e.1];exact h2
 have aN:=oz (show o.set k y=o from by have⟨h1,h2⟩:=rY.1 a4;rw[<-h2];exact List.set_getElem_self h1)
 have aS:=HO.below M;have aL:=oz<|Q.trans (M.mono bA);clear M;generalize b9:zx (ug t) V.k.x.toList=si at *;generalize b8:zx (ug t) V.g.x.toList=oi at *;go_wp21
 go_loopw [12,13,14] (λq _ _ K=>∃(j:Nat)(p:List Int),j<=y.length/\q=i_ j/\qzn t V ls y j=some p/\StA w.heap.size K (.slice oa S.length oc) (o.set k p) l/\oq w K/\Rw K D.heap.size #[.string V.y.t,.string V.y.x,i_ V.y.v,.string V.g.t,.string V.g.x,i_ V.g.v,.string V.k.t,.string V.k.x,i_ V.k.v,.string V.R.t,.string V.R.x,i_ V.R.v] 222) (λq _ _ _=>y.length-(intOf q).toNat);exact⟨0,y,jG,rfl,rfl,by rw[ku aN];exact aS,aL,a8⟩;obtain⟨K,rfl⟩:=cpy wr;obtain⟨j,p,hj,rfl,H,f,B,I⟩:=hrel;have⟨aM,aU,bK⟩:=jF B f I;have⟨gO,cO,gr,cg,eS,bY,k1,cB,k0,_,_,Z,F⟩:=(L.below B).get HY<|wW a3.1;clear F Z k0;injection eS with E aW aX;subst E;clear aW aX;by_cases cE:j<y.length
 case neg=>
  have aB:j=y.length:=aj;have e:=ku HQ;rw[<-aB,H]at e;injection e with e;subst e;clear B f H I aB;go_wp2
  exact rdM ⟨k+1,_,aj,eu,aR,aU,aM⟩
 case pos=>
 have⟨p2,a1⟩:=vqn HQ (by omega:j+1<=y.length);have aT:=oz a1;have⟨p',x,z,at_,u,hx,d,s,b6,bW,X⟩:=zya a1;rw[H]at u;injection u with u;subst u;subst X;obtain⟨an,rfl⟩:=sG b6;have⟨bQ,bL,bT,bN,eS,_,m,bH,cJ,_,_,Z,F⟩:=(L.below B).get HY hx;clear F Z;injection eS with E _ _;injection E with E;rw[Addr.mk.injEq]at E;obtain⟨rfl,_⟩:=E;rw[k1]at m;injection m with m;injection m with m _ aK;injection m with m;rw[Addr.mk.injEq]at m;obtain⟨rfl,_⟩:=m;subst aK;have O:(o.set k p)[k]?=some p:=Zk (by rw[J];exact C);have⟨gU,cU,gu,cu,eU,bZ,u1,cD,u2,_,_,_,F⟩:=f.get O (wW (by omega:an<p.length));injection eU with aY aZ b2;subst aY;subst F;clear aZ b2;have bX:=f.frz (k:=k) (i:=an) (by rw[Jq,J];exact C) N;have cG:p.length<=1000:=by rw[zk8 H];exact a3.2
 have aQ:=oz (show StA w.heap.size (K.setCell (Ad (l[k].1) an)<|i_ z) (sL gU S.length oc) (o.set k<|p.set an z) l from by have:=f.set (i:=an) O N z;rw[List.set_set]at this;exact this)
 have aO:=oz (show oq w (K.setCell (Ad (l[k].1) an)<|i_ z) from B.setCell (f.ge (k:=k) (by rw[Jq,J];exact C) N (by have:=wW (by rw[Jq,J];exact C:k<(o.set k p).length);rw[O]at this;injection this with this;rw[<-this];omega)) _);have aP:=oz (show(K.setCell (Ad (l[k].1) an)<|i_ z).heap[D.heap.size]?=_ from by rw[jN (show D.heap.size≠l[k].1 by omega),I])
 obtain⟨_,_,_,d3,_,_,d6,_⟩:=qwy I;have R:=oz<|HW.below B;unfold tvR stI ofB at d;unfold tpR stI kwv at s;rw[b9]at d;rw[b8]at s;have aJ:∀(q c v:Int),jxc ls q c=some v->∃(i n:Nat),q=i/\c=n/\∃P,ls[i]?=some P/\P[n]?=some v:=λq c v e=>by
  unfold jxc at e;split at e
  ·cases e
  ·rename_i hc;have⟨P,o1,o2⟩:=wu.1 e;exact⟨q.toNat,c.toNat,aj,aj,P,o1,o2⟩
 have U:=oz aJ;clear aJ B f H I a1 O hx;cases aD:(V.k.t.toList==mX);case' false=>
  rw[aD,QJ,QJ,Xy ay]at d;injection d with d;subst d
 case' true=>
  rw[aD,QZ]at d;by_cases aF:0<=si
  case' neg=>
   rw[decide_eq_false aF,QJ,Xy ay]at d;injection d with d;subst d
  case' pos=>
   rw[Qz aF,QZ]at d;by_cases aI:0<=x
   case' neg=>
    rw[decide_eq_false aI,Xy ay]at d;injection d with d;subst d
   case' pos=>
    rw[Qz aI,lJ rfl]at d;obtain⟨cL,xn,rfl,rfl,P,w1,w2⟩:=ku U _ _ _ d;have⟨gW,cW,gw,cw,eW,_,r1,_,r2,r3,r4⟩:=R.way w1 w2;injection eW with eW _ b3;subst eW;subst b3;have cF:=ku a9 P<|wB w1;clear d w1 w2
 all_goals
  cases aE:(V.g.t.toList==mX);case' false=>
   rw[aE,Xy ay]at s;injection s with s;obtain rfl:j=an:=aj
  case' true=>
   rw[aE,lJ rfl]at s;obtain⟨cK,jn,rfl,ej,bD,v1,v2⟩:=ku U _ _ _ s;obtain rfl:j=jn:=aj;clear ej;have⟨bS,bM,bU,bO,A,_,s1,_,s2,s3,s4⟩:=R.way v1 v2;injection A with A _ bP;first|(subst A)|(injection A with A;rw[Addr.mk.injEq]at A;obtain⟨rfl,_⟩:=A)
   have bI:=ku a9 bD<|wB v1;clear s v1 v2
  all_goals
   clear R U;go_wp2;exact rdM ⟨j+1,_,aj,eu,aT,aQ,aO,aP⟩
def zk1(t:PTree)(v:PVar)(x:Int):Option ByteArray:=
 if 0<=zx (uy t) v.k.x.toList then (if x<0 then none else (t.p[(zx (uy t) v.k.x.toList).toNat]?).bind λK=>(K.i[x.toNat]?).map λm=>m.x)
 else if kx3 (kj2 t v)&&decide (x<0) then some ⟨#[45]⟩ else if 0<=x/\x<=9 then some (kvh x.toNat) else none
theorem kqc.mem(h:kqc w T t){h7:PKind}{h8:Tok}(z:t.p[k]?=some h7)(A:h7.i[j]?=some h8):∃g cap d l,T<w.heap.size/\g<w.heap.size/\d<w.heap.size/\Ce w T 1 (sL g t.p.length cap)/\Ce w g (k*4+3) (sL d h7.i.length l)/\Ce w d (j*3+1) (.string h8.x)/\k<t.p.length/\j<h7.i.length:=by obtain⟨e,rfl⟩:=rY.1 z;obtain⟨f,rfl⟩:=rY.1 A;have⟨x0,x1,x2,x3,x4,y1,y3,y4,m,_,⟨B,s⟩,_⟩:=h;have⟨E,C,F,G,H,_⟩:=kzk m;obtain⟨a,cap,rfl,i⟩:=qp B;obtain⟨g,rfl,_,y,x⟩:=i k e;have⟨I,_,_,_,e3,u⟩:=qz8 k e s;obtain⟨D,l,rfl,v⟩:=qp u;obtain⟨d,rfl,_,q,p⟩:=v j f;exact⟨g,cap,d,l,wQ m,y,q,C,(x _ aj).trans e3,(p _ aj).trans<|qw9 j f,e,f⟩
theorem vwg(h:kqc w T t)(q:TreeOk t)(hv:i7.k.x.size<=800)(d:zk1 t i7 g9=some r):Calls prog 183 #[pT T,pjf i7,i_ g9] w λe w'=>rT e (.string r)/\oq w w':=by
 have z:=qj5 t i7 hv;have i:=λ(wx:World)(k:oq w wx)=>zkl i7.k.x (h.below k) q.p
 unfold zk1 at d;generalize y:zx (uy t) i7.k.x.toList=v at d i;unfold pjf kj7 ji at *;go_in;go_wp21;refine zM (i _<|jZ _) ?_;rintro E rfl;go_wp21;refine zM ((λ(wx:World)(k:oq w wx)=>qv8 i7 (h.below k) q.p hv) _<|jZ _) λx p=>?_;have l:=(jZ w).trans<|p.mono ay;go_wp21
 refine zM (qjg _ aj) ?_;rintro x rfl;generalize kx3 (kj2 t i7)=bs at *;by_cases j:0<=v
 ·rw[lJ j]at d;by_cases f:g9<0
  ·simp_all
  rw[Xy f]at d;have⟨K,s,d⟩:=wu.1 d;obtain⟨m,u,rfl⟩:=wX.1 d;have⟨g,cap,D,B,g1,C,g3,k1,k2,k3,k4,k5⟩:=(h.below l).mem s u;go_wp2;go_ret;simp_all
 ·rw[Xy j]at d;by_cases f:g9<0
  ·cases bs
   ·grind
   ·rw[Qz f,QZ,lJ rfl]at d;injection d with d;subst d;go_wp2
    go_ret;simp_all
  ·rw[decide_eq_false f,Jr,Xy ay]at d;by_cases A:g9<=9
   ·rw[lJ aj]at d;injection d with d;subst d;obtain⟨xn,rfl⟩:=sG (by omega:0<=g9);cases bs;all_goals
     go_wp21;refine zM (qzq xn aj _) ?_;rintro w3 rfl;go_wp2;go_ret;simp_all
   simp_all
def rowP(t:PTree)(v:PVar)(l:List Int):Nat->Option ByteArray
 |0=>some ⟨#[]⟩
 |k+1=>(rowP t v l k).bind λs=>(l[k]?).bind λx=>(zk1 t v x).bind λy=>if s.size<=100000/\y.size<=100000 then some ((if 0<k then s++⟨#[32]⟩ else s)++y) else none
def zj9(t:PTree)(S:List (List Int)):Nat->Option ByteArray
 |0=>some ⟨#[]⟩
 |k+1=>(zj9 t S k).bind λs=>(t.z[k]?).bind λv=>(S[k]?).bind λl=>(rowP t v l l.length).bind λr=>if s.size<=1000000/\r.size<=1000000 then some ((if 0<k then s++⟨#[32]⟩ else s)++(if kwv v then (⟨#[91]⟩++r)++⟨#[93]⟩ else r)) else none
theorem pq7:∀{n:Nat}{r:ByteArray},rowP t i7 e8 n=some r->k<=n->∃s,rowP t i7 e8 k=some s
 |0,r,h,hk=>by
  obtain rfl:k=0:=aj;exact⟨r,h⟩
 |n+1,r,h,hk=>by
  by_cases e:k=n+1
  ·subst e;exact⟨r,h⟩
  ·rw[rowP]at h;have⟨s,d,_⟩:=wu.1 h;exact pq7 d aj
theorem vys:∀{n:Nat}{r:ByteArray},zj9 t S n=some r->k<=n->∃s,zj9 t S k=some s
 |0,r,h,hk=>by
  obtain rfl:k=0:=aj;exact⟨r,h⟩
 |n+1,r,h,hk=>by
  by_cases e:k=n+1
  ·subst e;exact⟨r,h⟩
  ·rw[zj9]at h;have⟨s,d,_⟩:=wu.1 h;exact vys d aj
theorem vx7{i8:Prop}[Decidable i8](h:(if i8 then some a4 else none)=some b):i8/\a4=b:=by
 split at h
 ·rename_i d;injection h with h;exact⟨d,h⟩
 ·cases h
theorem zq2(h:kqc w T t)(ht:TreeOk t)(hf:TreeFit t)(a7:StA lo w xv S gs)(hS:ky4 S)(hr:zj9 t S S.length=some r):Calls prog 126 #[pT T,xv] w λe w'=>rT e (.string r)/\oq w w':=by
 obtain⟨za,zc,rfl,_⟩:=qp a7.out;have⟨HT,aF,HR⟩:=jF h a7 hr;have aX:=hS.1;have aD:=oz hS.2;clear hr;go_in;go_wp21;go_loopw [5,6,7,8,9] (λo i _ _ _ wr=>∃(k:Nat)(s:ByteArray),k<=S.length/\i=i_ k/\o=.string s/\zj9 t S k=some s/\oq w wr) (λ_ i _ _ _ _=>S.length-(intOf i).toNat);exact⟨0,⟨#[]⟩,jG,rfl,rfl,rfl,bR⟩;obtain⟨B,rfl⟩:=cpy wr;obtain⟨k,s,hk,rfl,rfl,E,G⟩:=hrel;by_cases b2:k<S.length
 case neg=>
  have a4:k=S.length:=aj;have e:=ku HR;rw[<-a4,E]at e;injection e with e;subst e;clear E a4;go_wp2
  go_ret;exact⟨rfl,G⟩
 case pos=>
 have⟨s',f⟩:=vys HR (by omega:k+1<=S.length);have aE:=oz f;rw[zj9,E]at f;simp only[rQ]at f;have⟨V,hV,f⟩:=wu.1 f;have⟨y,W,f⟩:=wu.1 f;obtain⟨aP,(K:Hid _),f⟩:=wu.1 f;have⟨⟨aS,aT⟩,f⟩:=vx7 f;have⟨O,C⟩:=rY.1 hV;have aL:V.k.x.size<=800:=by rw[<-C];exact(hf.z _<|wZ O).1
 have aM:=(ku aD) y<|wB W;have⟨HY,aH,v⟩:=jF W C f;have L:=HT.below G;have Y:=aF.below G;have⟨U,cO,gr,cg,eS,aJ,k1,aY,_,_,_,Q,P⟩:=Y.get W<|wW aM.1;clear P Q;injection eS with u M N;subst u;clear M N;have aU:=oz (show ∀wx,oq B wx->∃gt F,Ce wx T 2 (sL gt t.z.length F)/\xqf wx gt k V from λwx d=>by have⟨gt,F,_,_,q,e⟩:=(L.below d).var O;rw[C]at e;exact⟨gt,F,q,e⟩)
 have aG:=oz (λ(wx:World)(d:oq B wx)(z:Int)(q:ByteArray)(hq:zk1 t V z=some q)=>vwg (L.below d) ht aL hq);have aA:=Below.refl B.heap.size B;clear E f hV C W;by_cases a3:0<k
 case' pos=>rw[lJ a3]at v
 case' neg=>rw[Xy a3]at v
 all_goals
  go_wp21;go_loopw [7,8,9] (λo i _ A=>∃(j:Nat)(q:ByteArray),j<=y.length/\i=i_ j/\o=.string q/\rowP t V y j=some q/\oq B A) (λ_ i _ _=>y.length-(intOf i).toNat);exact⟨0,⟨#[]⟩,jG,rfl,rfl,rfl,aA⟩;obtain⟨A,rfl⟩:=cpy wr;obtain⟨j,q,hj,rfl,rfl,D,m⟩:=hrel;have a6:=m.size;have o1:=(m.cell (p:=⟨U,k,none⟩) aJ).trans k1;have⟨gt,F,aI,g,tq,tv⟩:=(L.below m).var O;rw[ku aH]at tv;have⟨t0,t1,t2,t3,t4,t5,t6,t7,t8,t9,aQ,aR⟩:=tv;by_cases aZ:j<y.length
  case pos=>
   have⟨q',l⟩:=pq7 K (by omega:j+1<=y.length);have aC:=oz l;rw[rowP,D]at l;simp only[rQ]at l;have⟨z,hz,l⟩:=wu.1 l;have⟨vl,R,l⟩:=wu.1 l;have⟨⟨b3,b4⟩,l⟩:=vx7 l;have⟨aW,aV,x,Z,eS,a8,aN,a9,aO,_,_,Q,P⟩:=(Y.below m).get HY hz;clear P Q;injection eS with u M N;injection u with u;rw[Addr.mk.injEq]at u;obtain⟨rfl,_⟩:=u;have⟨I,aB,J⟩:=jF (λ(wx:World)(d:oq A wx)=>show Ce wx T 2 (sL gt t.z.length F)/\Ce wx gt (k*12) (.string V.y.t)/\Ce wx gt (k*12+1) (.string V.y.x)/\Ce wx gt (k*12+2) (i_ V.y.v)/\Ce wx gt (k*12+3) (.string V.g.t)/\Ce wx gt (k*12+4) (.string V.g.x)/\Ce wx gt (k*12+5) (i_ V.g.v)/\Ce wx gt (k*12+6) (.string V.k.t)/\Ce wx gt (k*12+7) (.string V.k.x)/\Ce wx gt (k*12+8) (i_ V.k.v)/\Ce wx gt (k*12+9) (.string V.R.t)/\Ce wx gt (k*12+10) (.string V.R.x)/\Ce wx gt (k*12+11) (i_ V.R.v)/\Ce wx U k (sL x y.length Z)/\Ce wx x j (i_ z) from⟨(d.cell (p:=⟨T,2,none⟩) aI).trans tq,(d.cell (p:=⟨gt,k*12,none⟩) g).trans t0,(d.cell (p:=⟨gt,k*12+1,none⟩) g).trans t1,(d.cell (p:=⟨gt,k*12+2,none⟩) g).trans t2,(d.cell (p:=⟨gt,k*12+3,none⟩) g).trans t3,(d.cell (p:=⟨gt,k*12+4,none⟩) g).trans t4,(d.cell (p:=⟨gt,k*12+5,none⟩) g).trans t5,(d.cell (p:=⟨gt,k*12+6,none⟩) g).trans t6,(d.cell (p:=⟨gt,k*12+7,none⟩) g).trans t7,(d.cell (p:=⟨gt,k*12+8,none⟩) g).trans t8,(d.cell (p:=⟨gt,k*12+9,none⟩) g).trans t9,(d.cell (p:=⟨gt,k*12+10,none⟩) g).trans aQ,(d.cell (p:=⟨gt,k*12+11,none⟩) g).trans aR,(d.cell (p:=⟨U,k,none⟩) a8).trans aN,(d.cell (p:=⟨x,j,none⟩) a9).trans aO⟩) (λ(wx:World)(d:oq A wx)=>aG wx (m.trans<|d.mono a6) z vl R) l;clear D hz R l o1 M N;by_cases a1:0<j
   case' pos=>rw[lJ a1]at J
   case' neg=>rw[Xy a1]at J
   all_goals
    go_upto_region 13 with fail
    go_region_held3 (λw'=>w'.cell? (Ad T 2)=some (sL gt t.z.length F)/\w'.cell? (Ad gt (k*12))=some (.string V.y.t)/\w'.cell? (Ad gt (k*12+1))=some (.string V.y.x)/\w'.cell? (Ad gt (k*12+2))=some (i_ V.y.v)/\w'.cell? (Ad gt (k*12+3))=some (.string V.g.t)/\w'.cell? (Ad gt (k*12+4))=some (.string V.g.x)/\Ce w' gt (k*12+5) (i_ V.g.v)/\Ce w' gt (k*12+6) (.string V.k.t)/\Ce w' gt (k*12+7) (.string V.k.x)/\Ce w' gt (k*12+8) (i_ V.k.v)/\Ce w' gt (k*12+9) (.string V.R.t)/\Ce w' gt (k*12+10) (.string V.R.x)/\Ce w' gt (k*12+11) (i_ V.R.v)/\Ce w' U k (sL x y.length Z)/\Ce w' x j (i_ z)) (first|exact I _ bR|exact I _ bR.drew|exact I _ X)
     (first|(go_at_call 183;refine zM (aB _ bR.drew) λwz a0=>?_;have X:=oz<|(Below.refl A.heap.size A).drew.trans a0;clear a0;dsimp only))
    have H:=oz<|m.trans (X.mono a6);go_wp2
    exact rdM ⟨j+1,q',aj,eu,by rw[<-ku J],aC,H⟩
  case neg=>
  have a2:j=y.length:=aj;have aK:q=aP:=by have:=ku K;rw[<-a2,D]at this;injection this
  subst aK;have H:=oz<|G.trans (m.mono G.size);clear D a2;cases ho:(V.g.t.toList==mX);all_goals
   have a5:kwv V=_:=ho;rw[a5]at v;simp only[ru,Xv,Xw]at v;clear a5;go_wp2;exact rdM ⟨k+1,s',aj,eu,by rw[<-ku v],aE,H⟩
section
variable {w w':World}
theorem yw.tk(d:Tk none qw7 w w'):∀{x:PX}{p:Value},yw lo w x p->yw lo w' x p
 |.nil,_,h=>h
 |.node _ _ _ _ _,_,⟨k,va,vb,e1,hn,hh,ha,hb⟩=>⟨k,va,vb,e1,hn,d.e hh ay ak,yw.tk d ha,yw.tk d hb⟩
theorem qva.tk(d:Tk none qw7 w w')(h:qva lo w a xv y wv):qva lo w' a xv y wv:=⟨h.1.tk d,h.2.1.tk d,h.2.2.tk d⟩
theorem jg.tk(d:Tk none qw7 w w'):∀{b:PB}{ps:List Value},jg lo x w b ps->jg lo x w' b ps
 |.nil,_,h=>h
 |.node _ _ a .nil n,ps,⟨k,vp,vv,vi,qs,e,hl,hh,ha,hn⟩=>⟨k,vp,vv,vi,qs,e,hl,d.e hh ay ak,ha.tk d,jg.tk d hn⟩
 |.node _ _ a (.node _ _ _ t e) n,ps,⟨k,vp,vv,vi,vt,ve,qt,qe,qs,e1,hl,hh,ha,⟨ht1,ht3,ht2⟩,⟨he1,he3,he2⟩,hn⟩=>
  ⟨k,vp,vv,vi,vt,ve,qt,qe,qs,e1,hl,d.e hh ay ak,ha.tk d,⟨jq ht1 d (pz.none _) ak,ht3,jg.tk d ht2⟩,⟨jq he1 d (pz.none _) ak,he3,jg.tk d he2⟩,jg.tk d hn⟩
theorem jzf.tk(d:Tk none qw7 w w')(h:jzf w L cs):jzf w' L cs:=by refine⟨h.1,λk p=>?_⟩;have⟨vp,vg,vb,aa,ac,e,⟨pa,pc,ga,ba,bc,ps,f,g,e3,h1,i,j,l⟩,m⟩:=h.2 k p;exact⟨vp,vg,vb,aa,ac,e,⟨pa,pc,ga,ba,bc,ps,f,g,e3,jq h1 d (pz.none _) ak,i.tk d,jq j d (pz.none _) ak,l.tk d⟩,jq m d (pz.none _) ak⟩
theorem OwnIn.tk(d:Tk none qw7 w w')(h:OwnIn B w y L):OwnIn B w' y L:=by have⟨cs,h1,e⟩:=h;exact⟨cs,jq h1 d (pz.none _) ak,e.tk d⟩
theorem xq0(e0:(cs.drop (k*8)).take 8=[xv,y,wv,a8,a9,b2,b3,b4]):cs[k*8]?=some xv/\cs[k*8+1]?=some y/\cs[k*8+2]?=some wv/\cs[k*8+3]?=some a8/\cs[k*8+4]?=some a9/\cs[k*8+5]?=some b2/\cs[k*8+6]?=some b3/\cs[k*8+7]?=some b4:=by
 have z:∀j,j<8->cs[k*8+j]?=([xv,y,wv,a8,a9,b2,b3,b4]:List Value)[j]?:=λj d=>by grind
 exact⟨z 0 aj,z 1 aj,z 2 aj,z 3 aj,z 4 aj,z 5 aj,z 6 aj,z 7 aj⟩
theorem OwnIn.get(h:OwnIn B w y L)(i:k<L.length):∃g f vp vg vb aa ac,y=sL g L.length f/\g<w.heap.size /\
  (Ce w g (k*8) (.string L[k].r.y.t)/\Ce w g (k*8+1) (.string L[k].r.y.x)/\Ce w g (k*8+2) (i_ L[k].r.y.v)/\Ce w g (k*8+3) vp/\Ce w g (k*8+4) vg/\Ce w g (k*8+5) vb/\Ce w g (k*8+6) (.slice aa L[k].ms.length ac)/\Ce w g (k*8+7) (.string<|riT L[k])) /\
  zwa w L[k] [.string L[k].r.y.t,.string L[k].r.y.x,i_ L[k].r.y.v,vp,vg,vb,.slice aa L[k].ms.length ac,.string (riT L[k])]:=by have⟨cs,h1,j⟩:=h;obtain⟨a,f,rfl,hv⟩:=qp h1;obtain⟨g,rfl,_,p,d⟩:=hv k i;have⟨vp,vg,vb,aa,ac,e,l,m⟩:=(j.2 k i);have⟨z0,q,s,t,u,v,x,z⟩:=xq0 e;exact⟨g,f,vp,vg,vb,aa,ac,rfl,p,⟨(d _ aj).trans z0,(d _ aj).trans q,(d _ aj).trans s,(d _ aj).trans t,(d _ aj).trans u,(d _ aj).trans v,(d _ aj).trans x,(d _ aj).trans z⟩,⟨vp,vg,vb,aa,ac,rfl,l,m⟩⟩
def lkR(t:PTree)(S:List (List Int)):List RIn->List ByteArray->List ByteArray->Option (List ByteArray×List ByteArray)
 |[],en,wr=>some (en,wr)
 |x::l,en,wr=>(zwc t S x).bind λr=>if r.1==1 then lkR t S l (en++[riT x]) wr else if r.1==2 then lkR t S l en (wr++[riT x]) else lkR t S l en wr
def lbR(t:PTree)(S:List (List Int)):List RIn->List ByteArray->Option (List ByteArray)
 |[],br=>some br
 |x::l,br=>(zqy t x.r.u x.ms S x.r.guard).bind λc=>if (c.1==1)||c.2 then lbR t S l (br++[riT x]) else lbR t S l br
theorem zxq(t:PTree)(S:List (List Int)):∀(l:List RIn)(en wr:List ByteArray)(r:List ByteArray×List ByteArray),lkR t S l en wr=some r->en.length<=r.1.length/\wr.length<=r.2.length/\r.1.length+r.2.length<=en.length+wr.length+l.length
 |[],en,wr,r,h=>by grind [lkR]
 |s::l,en,wr,r,h=>by
  rw[lkR]at h;have⟨q,_,h⟩:=wu.1 h;split at h
  ·have:=zxq t S l _ _ r h;grind
  ·split at h
   ·have:=zxq t S l _ _ r h;grind
   ·have:=zxq t S l _ _ r h;grind
theorem zyq(t:PTree)(S:List (List Int)):∀(l:List RIn)(br r:List ByteArray),lbR t S l br=some r->br.length<=r.length/\r.length<=br.length+l.length
 |[],br,r,h=>by grind [lbR]
 |s::l,br,r,h=>by
  rw[lbR]at h;have⟨q,_,h⟩:=wu.1 h;split at h
  ·have:=zyq t S l _ r h;grind
  ·have:=zyq t S l _ r h;grind
def zzj(t:PTree)(S:List (List Int)):Option MView:=(zj9 t S S.length).bind λtx=>(lkR t S (kq4 t t.l) [] []).bind λp=>(lbR t S (kq4 t t.q) []).map λb=>⟨tx,p.1,p.2,b⟩
structure PlOk (t:PTree):Prop where
 ok:TreeOk t
 fit:TreeFit t
 tops:vyv t
 l:t.l.length<=801
 q:t.q.length<=801
 pars:∀r∈t.l++t.q,zvk t r
 insts:∀x∈kq4 t t.l++kq4 t t.q,RiOk x
end
def zxi:Option PSet->List (List Int)
 |some q=>kj3 (mg q.size.x).toNat
 |none=>[[0,1,2]]
def kzv(t:PTree):List (List (List Int)):=(zxi t.j[0]?).flatMap λo=>(zxi t.j[1]?).map λp=>[o,p]
def vwj(b y:ByteArray):ByteArray:=if Op.bytesLess y.toList b.toList then y else b
def jxz(t:PTree)(S:List (List Int)):List (List (List Int))->ByteArray->Option ByteArray
 |[],b=>some b
 |w::ws,b=>(qjs t S w S.length).bind λS'=>(zj9 t S' S'.length).bind λy=>jxz t S ws<|vwj b y
structure SnR where
 F:List (List<|List Int)
 txs:List ByteArray
 L:List ByteArray
variable {j1 x':SnR}
def hasB(l:List ByteArray)(s:ByteArray):Bool:=l.any λy=>y.toList==s.toList
def vjk(t:PTree)(x:SnR)(S:List (List Int)):Option SnR:=
 (zj9 t S S.length).bind λb=>if hasB x.txs b then some x else if x.F.length<=100000 then (jxz t S (kzv t) b).map λk=>⟨x.F++[S],x.txs++[b],if hasB x.L k then x.L else x.L++[k]⟩ else none
def jxu(v:MView):Bool:=(decide (0<v.xz.length)||decide (0<v.xs.length))||kx2 v
def zwv(t:PTree):List (List (List Int))->Option Bool
 |[]=>some false
 |S::l=>(zzj t S).bind λv=>if jxu v then some true else zwv t l
def qjf(t:PTree)(S:List (List Int)):List RIn->SnR->Option SnR
 |[],x=>some x
 |X::l,x=>(zwc t S X).bind λr=>if r.1==1 then (vjk t x r.2).bind λx'=>qjf t S l x' else qjf t S l x
def zwj(t:PTree)(most:Nat):Nat->Nat->SnR->Option SnR
 |0,_,x=>some x
 |n+1,i,x=>if x.L.length<=most then (x.F[i]?).bind λS=>(qjf t S (kq4 t t.l) x).bind λx'=>zwj t most n (i+1) x' else some x
def zwt(t:PTree)(most:Nat):Nat->Nat->Nat->Nat->SnR->Option (Int×Bool×Nat×Nat)
 |0,_,_,_,_=>none
 |n+1,round,from_,known,x=>
  if most<x.L.length then some (9,false,0,0)
  else (zwv t<|x.F.drop from_).bind λb=>if b then some (0,true,round,x.L.length) else if x.L.length==known then some (0,false,round,x.L.length) else (zwj t most (x.F.length-from_) from_ x).bind λy=>zwt t most n (round+1) x.F.length x.L.length y
def vj4(t:PTree)(most:Nat)(S:List (List Int)):Option (Int×Bool×Nat×Nat):=(vjk t ⟨[],[],[]⟩ S).bind λx=>zwt t most 502 0 0 0 x
abbrev Turn:=List (List Int)
variable {ts:List Turn}
def kql(n:Nat)(ts:List Turn):List Turn:=ts.flatMap λt=>(orders n).map λo=>t++[o]
def kkm:List Int->List Turn->Option (List Turn)
 |[],ts=>some ts
 |n::l,ts=>if 0<=n/\n<=4/\(kql n.toNat ts).length<=100000 then kkm l (kql n.toNat ts) else none
theorem jx1(n:Nat)(ts:List Turn)(j:Nat)(d:j<ts.length):kql n (ts.take (j+1))=kql n (ts.take j)++(orders n).map λo=>ts[j]++[o]:=by grind [List.take_succ_eq_append_getElem,kql]
theorem vqc(n:Nat)(ts:List Turn)(j:Nat):(kql n (ts.take j)).length<=(kql n ts).length:=by grind [List.take_append_drop,kql]
def kvz(v:MVar)(t:Turn)(i:Nat):Option Int:=if v.g==-1 then some i else if v.g<0 then none else (t[v.g.toNat]?).bind λo=>o[i]?
def qv3(v:MVar)(t:Turn)(x:Int):Option Int:=if (v.B==-1)||(x==0) then some x else if v.B<0\/x<0\/255<x then none else (t[v.B.toNat]?).bind λo=>(o[x.toNat-1]?).bind λy=>if 0<=y/\y<255 then some (y+1) else none
def kw0(v:MVar)(t:Turn)(st:List Int):List Nat->List Int->Option (List Int)
 |[],cur=>some cur
 |i::l,cur=>(kvz v t i).bind λp=>(st[v.f+i]?).bind λx=>(qv3 v t x).bind λy=>if 0<=p/\v.f+p.toNat<cur.length then kw0 v t st l (cur.set (v.f+p.toNat) y) else none
def qqw(t:Turn)(st:List Int):List MVar->List Int->Option (List Int)
 |[],cur=>some cur
 |v::vs,cur=>(kw0 v t st (List.range v.d) cur).bind λc=>qqw t st vs c
def jxx(least c:List Int):List Int:=if cmpL c least<0 then c else least
def kvk(vars:List MVar)(st:List Int):List Turn->List Int->List Int->Option (List Int×List Int)
 |[],least,cur=>some (least,cur)
 |t::ts,least,cur=>(qqw t st vars cur).bind λc=>kvk vars st ts (jxx least c) c
theorem zjq(v:MVar)(t:Turn){st:List Int}:∀(l:List Nat)(cur r:List Int),kw0 v t st l cur=some r->r.length=cur.length
 |[],cur,r,h=>by rw[kw0]at h;simp_all
 |i::l,cur,r,h=>by
  rw[kw0]at h;have⟨p,_,h⟩:=wu.1 h;have⟨x,_,h⟩:=wu.1 h;have⟨y,_,h⟩:=wu.1 h;split at h
  ·have:=zjq v t (st:=st) l _ r h;simp_all
  simp_all
theorem qjk{t:Turn}{st:List Int}:∀(vs:List MVar)(cur r:List Int),qqw t st vs cur=some r->r.length=cur.length
 |[],cur,r,h=>by rw[qqw]at h;simp_all
 |v::vs,cur,r,h=>by rw[qqw]at h;have⟨c,d,h⟩:=wu.1 h;rw[qjk (t:=t) (st:=st) vs c r h,zjq _ _ _ _ _ d]
theorem vzc{least c:List Int}(h:c.length=least.length):(jxx least c).length=least.length:=by unfold jxx;grind
theorem zjn(vars:List MVar){st:List Int}:∀(ts:List Turn)(least cur:List Int)(r:List Int×List Int),cur.length=least.length->kvk vars st ts least cur=some r->r.1.length=least.length/\r.2.length=cur.length
 |[],least,cur,r,_,h=>by grind [kvk]
 |t::ts,least,cur,r,hl,h=>by rw[kvk]at h;have⟨c,d,h⟩:=wu.1 h;have h1:=qjk _ _ _ d;have e:=vzc (least:=least) (c:=c) aj;have f:=zjn vars (st:=st) ts _ c r aj h;omega
structure SWay where
 U:List Int
 J:Nat
 E:ByteArray
abbrev Fnd:=List (List Int×SWay)
structure SSt where
 m:List SWay
 Z:List (List Int)
 P:Fnd
 cur:List Int
def kxl(k:List Int):Bool:=k.all λx=>decide (0<=x)&&decide (x<=255)
def qzc(f:Fnd)(k:List Int)(x:SWay):Fnd:=if f.any λy=>y.1==k then f else f++[(k,x)]
def qx9(a:Mach)(ts:List Turn)(x:SWay)(f:Fnd)(cur:List Int):Option (Fnd×List Int):=
 if 0<x.U.length/\x.U.length=cur.length/\x.U.length<=1000 then (kvk a.z x.U ts x.U cur).bind λr=>if kxl r.1 then some (qzc f r.1 x,r.2) else none else none
def xwv:SWay:=⟨[],0,⟨#[]⟩⟩
def kv4:Fnd->List Int->SWay
 |[],_=>xwv
 |y::l,k=>if y.1==k then y.2 else kv4 l k
def newF(seen:List (List Int))(f:Fnd):Fnd:=f.filter λy=>!(seen.any λk=>k==y.1)
def kv5(f:Fnd):List (List Int):=sortL (f.map λy=>y.1)
def jd(s:SSt):SSt:=let f:=newF s.Z s.P;⟨s.m++(kv5 f).map (kv4 f),s.Z++kv5 f,f,s.cur⟩
def endOf(v:MView):Int:=if 0<v.xs.length then 1 else if kx2 v then 2 else if 0<v.xz.length then 3 else 0
def zwz(a:Mach):List SWay->Nat->Option (Nat×Int)
 |[],_=>some (0,0)
 |x::l,at_=>if x.U.length<=1000000 then (lookO a x.U).bind λv=>if endOf v==0 then zwz a l (at_+1) else some (at_,endOf v) else none
def kzc(a:Mach)(ts:List Turn)(most at_:Nat)(st:List Int):List MStep->Fnd->List Int->Option (Fnd×List Int×Bool)
 |[],f,c=>some (f,c,false)
 |s::l,f,c=>(kwi a.z a.C s.u s.xy st s.guard s.block).bind λr=>if r.2==1 then (qx9 a ts ⟨r.1,at_,s.x⟩ f c).bind λq=>if most<q.1.length then some (q.1,q.2,true) else kzc a ts most at_ st l q.1 q.2 else kzc a ts most at_ st l f c
def kjh(a:Mach)(ts:List Turn)(most:Nat):List SWay->Nat->Fnd->List Int->Option (Fnd×List Int)
 |[],_,f,c=>some (f,c)
 |x::l,at_,f,c=>if x.U.length<=1000000 then (kzc a ts most at_ x.U a.X f c).bind λq=>if q.2.2 then some (q.1,q.2.1) else kjh a ts most l (at_+1) q.1 q.2.1 else none
def zk7(ways:List SWay):Nat->Nat->List ByteArray->Option (List ByteArray)
 |_,0,acc=>some acc
 |0,_+1,_=>none
 |n+1,k+1,acc=>(ways[k+1]?).bind λx=>if x.J<=k then zk7 ways n x.J (acc++[x.E]) else none
structure SRep where
 err:Int
 end_:Int
 xq:List ByteArray
 xr:Nat
def qq3(e:Int):SRep:=⟨e,0,[],0⟩
def qxm(s:SSt)(last:Nat)(e:Int):Option SRep:=(zk7 s.m last last []).map λl=>⟨0,e,l.reverse,s.m.length⟩
def kjk(a:Mach)(ts:List Turn)(most:Nat):Nat->SSt->Option SRep
 |0,_=>none
 |n+1,s=>
  if most<(jd s).m.length then some (qq3 9)
  else if (jd s).m.length==s.m.length then qxm (jd s) 0 0
  else (zwz a ((jd s).m.drop s.m.length) s.m.length).bind λx=>if x.2==0 then (kjh a ts most ((jd s).m.drop s.m.length) s.m.length [] (jd s).cur).bind λq=>kjk a ts most n ⟨(jd s).m,(jd s).Z,q.1,q.2⟩ else qxm (jd s) x.1 x.2
def kzs(a:Mach):SWay:=⟨List.replicate a.size 0,0,⟨#[]⟩⟩
def jqy(a:Mach)(most:Int):Option SRep:=
 if most<1\/500<most then some (qq3 8)
 else if a.size<=1000000 then (kkm a.j [[]]).bind λts=>(qx9 a ts (kzs a) []<|List.replicate a.size 0).bind λq=>kjk a ts most.toNat 502 ⟨[],[],q.1,q.2⟩ else none
def kvn(s:ByteArray)(most:Int):Option SRep:=if (qq4 s).1==0 then (qx5 s).bind λa=>jqy a most else some (qq3 (qq4 s).1)
theorem OwnRows.tk(h:OwnRows B w xv ls)(d:Tk x bad w w')(f:pz w x)(h1:31∉bad)(g:3∉bad):OwnRows B w' xv ls:=by have⟨la,ll,lc,cs,e,i,j⟩:=h;exact⟨la,ll,lc,cs,e,jq i d f h1,j.tk d f g⟩
theorem kx4.one(h:kx4 w ls cs):∀y∈cs,y.oneCell'=true:=by intro y f;obtain⟨k,d,rfl⟩:=wG f;have⟨a,n,c,e,_⟩:=h.2 k (by rw[<-h.1];exact d);rw[wW d]at e;injection e with e;rw[e];rfl
def qqz(w:World)(ts:List Turn)(cs:List Value):Prop:=cs.length=ts.length/\∀k (hk:k<ts.length),∃v,cs[k]?=some v/\OwnRows 0 w v ts[k]
theorem qqz.tk(h:qqz w ts cs)(f:Tk x bad w w')(j:pz w x)(h1:31∉bad)(d:3∉bad):qqz w' ts cs:=
 ⟨h.1,λk g=>by have⟨v,e,i⟩:=h.2 k g;exact⟨v,e,i.tk f j h1 d⟩⟩
theorem qqz.snoc{i9:Turn}(h:qqz w ts cs)(i:OwnRows 0 w xv i9):qqz w (ts++[i9]) (cs++[xv]):=by
 refine⟨by simp[h.1],λk g=>?_⟩;by_cases d:k<ts.length
 ·have⟨j,e,f⟩:=h.2 k d;grind
 ·have:k=ts.length:=by grind
  subst this;exact⟨xv,by rw[<-h.1];simp,by simp_all⟩
def kz6(B:Nat)(w:World)(x:Value)(ts:List Turn):Prop:=∃la ll lc cs,x=.slice la ll lc/\w.ownsRow B 256 1 (.slice la ll lc) ts.length cs/\qqz w ts cs
theorem kz6.tk(h:kz6 B w xv ts)(d:Tk x bad w w')(f:pz w x)(g:256∉bad)(h1:31∉bad)(i:3∉bad):kz6 B w' xv ts:=by have⟨la,ll,lc,cs,e,j,k⟩:=h;exact⟨la,ll,lc,cs,e,jq j d f g,k.tk d f h1 i⟩
theorem jxw(k:w.ownsRow lo 31 1 (.slice xa T B) n cs)(u:∀y∈cs,y.oneCell'=true)(A:n<=1000000):Calls prog 128 #[.slice xa T B] w λe w'=>∃ca cn cc,rT e (.slice ca cn cc)/\w'.ownsRow w.heap.size 31 1 (.slice ca cn cc) n cs/\oq w w':=by
 obtain⟨d,p⟩|⟨g,cap,cur,d,p,e3,z⟩:=k.2
 ·injection d with d j f;subst p;have hn:cs=[]:=Qv (by simpa using k.1);subst hn;have l:=λw=>Go.Lib.run_eql_slice_nil (P:=prog) w 256 31 none 0 0 0 0 underlying256
  go_wp2;go_ret;exact⟨none,0,0,rfl,jT,bR⟩
 ·injection d with d j f;subst d;subst j;subst f;have m:=show(w.alloc<|.cells #[] 31).ownsRow w.heap.size 31 1 (sL w.heap.size 0 0) 0 [] from⟨rfl,.inr ⟨w.heap.size,0,_,rfl,jV,qy,jV,ay,rfl,rfl⟩⟩
  have⟨x,hi,q,s,t⟩:=info_parts infoInts;have l:=λw=>Go.Lib.run_eql_slice_nil (P:=prog) w 256 31 (some (Ad g 0)) T B 0 0 underlying256
  go_in;go_wp2_with (at_builtin;refine kqv rfl 256 rfl w.heap.size 31 x _ 1 24 underlying256 hi q s t rfl ak (sL w.heap.size 0 0) 0 [] rfl m (sL g T B) T _ _ rfl (qj k<|jZ w (o:=.cells #[] 31)) u aj aj ay ?_)
  intro C w3 i h v;obtain⟨a3,l3,c3,rfl⟩:=qh i;go_wp2;go_ret;exact⟨a3,l3,c3,rfl,i,((jZ w).grown h ay<|jo m)⟩
theorem jy0(n:Nat)(hn:n<=4):(orders n).length<=24:=by grind [orders,qyh,kzl]
def pjm(B:Nat)(w:World)(M size:Nat)(ts:List Turn)(e:Ending)(w':World):Prop:=
 ∃O tv cv,rT e (pT O)/\w'.heap[O]?=some (.cells #[pT M,tv,cv] 260 (0,0))/\kz6 B w' tv ts/\w'.ownsRow B 5 1 cv size ((List.replicate size (0:Int)).map<|Value.int .u8)/\B<=O/\Below B w w'
theorem vw3(hM:T<w.heap.size)(aI:Ce w T 2 (.slice ga B n0))(hS:w.ownsRow 0 3 1 (.slice ga B n0) e8.length (e8.map (Value.int .i64)))(b5:Ce w T 5 (i_ lo))(cA:lo<=1000000)(cX:e8.length<=1000)(hr:kkm e8 [[]]=some ts):Calls prog 75 #[pT T] w (pjm w.heap.size w T lo ts):=by
 obtain⟨W,hW⟩:∃W,W=w.alloc (.cells #[nS] 256):=⟨_,rfl⟩;have U:oq w W:=jM;have cW:w.heap.size<W.heap.size:=by simp_all
 have hA:Rw W w.heap.size #[nS] 256:=kK;have bH:kz6 w.heap.size W (sL w.heap.size 1 1) [[]]:=
  ⟨_,_,_,[nS],rfl,⟨rfl,.inr ⟨w.heap.size,1,_,rfl,jV,hA,jV,iq,rfl,rfl⟩⟩,rfl,λk hk=>by
   have:k=0:=by simp_all
   subst this;exact⟨nS,rfl,none,0,0,[],rfl,jT,rfl,λk hk=>by grind⟩⟩
 obtain⟨ya,yc,e1,(HW:Hid _)⟩:=qp<|qj hS U;injection e1 with e1 e2 e3;subst e1;subst e2;subst e3;have c2:(w.alloc<|.cells #[nS] 256).cell? (Ad T 2)=some (.slice ga e8.length n0):=by rw[<-hW];exact(U.cell (p:=⟨T,2,none⟩) hM).trans aI
 have⟨bK,HR⟩:=jS hW.symm hr;clear hr hA hW aI;go_in;go_wp21;rw[bK];go_loopw [3,5,6,8,10,17] (λx _ _ _ _ i wr=>∃(k:Nat)(all:List Turn),k<=e8.length/\i=i_ k/\kz6 w.heap.size wr x all/\kkm (e8.drop k) all=some ts/\all.length<=100000/\(∀t∈all,t.length<=k)/\oq W wr) (λ_ _ _ _ _ i _=>e8.length-(intOf i).toNat);exact⟨0,[[]],jG,rfl,bH,HR,ay,ay,bR⟩;obtain⟨u,cD⟩:∃u,u=wr:=⟨_,rfl⟩;subst cD;obtain⟨k,all,hk,rfl,A,l,cR,(X:Hid _),hb⟩:=hrel;obtain⟨xa,xn,xc,cs,rfl,f,d⟩:=A;have⟨za,zc,ez,aB⟩:=qp f;injection ez with bS bT bU;subst bS;subst bT;subst bU;have cP:=hb.size;by_cases a4:k<e8.length
 ·obtain⟨g,rfl,cS,bX,hc⟩:=HW k a4;have e0:u.cell? (Ad g k)=some (i_ e8[k]):=by rw[hb.cell (p:=⟨g,k,none⟩) bX,hc k aj,QV,wW a4];rfl
  rw[rU a4,kkm]at l;have D:0<=e8[k]/\e8[k]<=4/\(kql e8[k].toNat all).length<=100000:=by simp_all
  rw[lJ D]at l;obtain⟨n,hn⟩:∃n:Nat,e8[k]=(n:Int):=⟨e8[k].toNat,aj⟩;rw[hn]at D l e0;simp only[tX]at D l;have⟨_,bY,D⟩:=D;have a7:n<=4:=aj;have⟨bM,bC,HB⟩:=jF aB d hb;have bD:=show kz6 u.heap.size u nS (kql n<|all.take 0) from⟨none,0,0,[],rfl,by grind [kql,World.ownsRow_nil],by simp[kql],λk hk=>by simp[kql]at hk⟩
  clear hc hb f d aB hn bY;go_wp21;go_loopw [6,8,10,23] (λy _ _ i M=>∃j:Nat,j<=all.length/\i=i_ j/\kz6 u.heap.size M y (kql n<|all.take j)/\oq u M) (λ_ _ _ i _=>all.length-(intOf i).toNat);exact⟨0,jG,rfl,bD,bR⟩;obtain⟨M,cC⟩:∃M,M=wr:=⟨_,rfl⟩;subst cC;obtain⟨j,cT,rfl,A,v⟩:=hrel;obtain⟨Q,S,R,ds,rfl,f,d⟩:=A;have aW:=v.size;by_cases F:j<all.length
  ·obtain⟨g5,rfl,cK,cL,aJ⟩:=bM j F;have⟨v5,aH,bW⟩:=bC.2 j F;have e5:M.cell? (Ad g5 (j*1))=some v5:=by rw[v.cell (p:=⟨g5,j*1,none⟩) aj,aJ (j*1) aj,Jb];exact aH
   simp only[Jb]at e5;have cJ:all[j].length<=k:=X _<|wZ F;have aT:=bW.below v;obtain⟨ta,tn,tc,d1,rfl,bI,bJ⟩:=aT;have⟨aO,aC,b3,E⟩:=jE f d v (jx1 n all j F);have cO:=vqc n all<|j+1;have b9:=vw2 M n a7;generalize all[j]=c at *;clear f d v aJ aH;go_wp21
   refine b9.mono ?_;rintro e w3 ⟨v3,rfl,bZ,H⟩;obtain⟨oa,on,oc,cY,rfl,aG,bA⟩:=bZ;have⟨qa,qc,eq,a9⟩:=qp aG;injection eq with a0 bQ a1;subst a0;subst bQ;subst a1;have cU:=jy0 n a7;have aP:=qj bI H;have aQ:=bJ.tk (yt H none []) (pz.none _) ay;have bF:=show kz6 u.heap.size w3 (.slice Q S R) (kql n (all.take j)++((orders n).take 0).map λo=>c++[o]) from⟨Q,S,R,ds,rfl,by simpa using qj aO H,by simpa using aC.tk (yt H none []) (pz.none _) ay ay⟩
   have aY:=b3.trans<|H.mono aW;generalize orders n=h at *;clear a9;go_wp21
   go_loopw [6,10,30] (λy _ i C=>∃q:Nat,q<=h.length/\i=i_ q/\kz6 u.heap.size C y (kql n (all.take j)++(h.take q).map λo=>c++[o])/\oq u C/\Tk none [256] w3 C) (λ_ _ i _=>h.length-(intOf i).toNat);exact⟨0,jG,rfl,bF,aY,Tk.refl _ _ _⟩;obtain⟨C,cB⟩:∃C,C=wr:=⟨_,rfl⟩;subst cB;obtain⟨q,hq,rfl,A,I,s⟩:=hrel;obtain⟨y1,y2,y3,bN,rfl,f,d⟩:=A;have aV:=I.size;have cI:=s.size;by_cases a3:q<h.length
   ·have⟨cZ,d0,bP,aK⟩:=qp<|jq aG s (pz.none _) ak;injection bP with a0 _ a1;subst a0;subst a1;obtain⟨g6,rfl,cM,cN,bV⟩:=aK q a3;have⟨cE,cG,cF,bO,bB⟩:=(bA.tk s (pz.none _) ak).2 q a3;have e6:C.cell? (Ad g6 (q*1))=some (.slice cE cG cF):=by simp_all
    simp only[Jb]at e6;have⟨b6,aE,aD,Y,V,aN⟩:=ju (jq aP s (pz.none _) ak) (aQ.tk s (pz.none _) ak) f d I s;have aL:(kql n (all.take j)++(h.take<|q+1).map λo=>c++[o])=(kql n (all.take j)++(h.take q).map λo=>c++[o])++[c++[h[q]]]:=by rw[tJ a3,Qw,<-sZ];rfl
    have bG:=oz aL;have cH:(kql n (all.take j)++(h.take q).map λo=>c++[o]).length<=100000:=by
     have h1:(kql n (all.take j)++(h.take q).map λo=>c++[o]).length<=(kql n<|all.take (j+1)).length:=by rw[E];simp_all
     omega
    have aX:=oz<|aE.one;generalize h[q]=od at *;generalize (kql n (all.take j)++(h.take q).map λo=>c++[o])=Lg at *;clear f d I s bV bO aL aK;go_wp21
    refine(jxw b6 aX aj).mono ?_;rintro e w4 ⟨ka,kn,kc,rfl,aF,a2⟩;have aU:=a2.size;have aZ:=oz a2;clear a2;go_wp2_with (at_builtin;refine apO (aF.alloc _) ?_)
    intro v5 L G J _ aR;obtain⟨a5,l5,c5,rfl⟩:=qh G;have m:oq C L:=(aZ.alloc aU _).grown J ah<|jo aF;have cQ:=m.size;have⟨b8,N⟩:=jS (show OwnRows 0 L (.slice a5 l5 c5) (c++[od]) from⟨a5,l5,c5,_,rfl,by rw[rD];exact qo jG G,(aE.tk (yt m none []) (pz.none _) ay).snoc<|qj bB m⟩) (qj aD m);clear G J aR;go_wp2_with (at_builtin;refine apO (N.alloc _) ?_)
    intro v6 w6 P z _ aS;obtain⟨a6,l6,c6,rfl⟩:=qh P;have k6:Tk none [256] L w6:=(yt (jZ L) _ _).trans<|kz4 (N.alloc _) z ay;have⟨bL,b2,aM⟩:=jF (show kz6 u.heap.size w6 (.slice a6 l6 c6) (Lg++[c++[od]]) from⟨a6,l6,c6,_,rfl,by simp_all,((Y.tk (yt m none [256]) (pz.none _) ak ak).snoc b8).tk k6 (pz.none _) ak ak⟩) (((V.trans<|m.mono aV).alloc aj _).grown z ah (jo N)) ((aN.trans<|yt m _ _).trans k6);clear P z aS k6;go_wp2
    exact rdM ⟨q+1,aj,eu,by rw[bG];exact bL,b2,aM⟩
   ·have:q=h.length:=by omega
    subst this;rw[Qc]at f d;have⟨Z,V⟩:=jS (show kz6 u.heap.size C (.slice y1 y2 y3) (kql n<|all.take (j+1)) from⟨y1,y2,y3,bN,rfl,by rw[E];omega,by rw[E];omega⟩) I;clear f d I s;go_wp2;exact rdM ⟨j+1,aj,eu,Z,V⟩
  ·have:j=all.length:=by omega
   subst this;rw[Qc]at f d;have⟨Z,b4⟩:=jS (show kz6 w.heap.size M (.slice Q S R) (kql n all) from⟨Q,S,R,ds,rfl,qo aj f,d⟩) (HB.trans (v.mono aj));have b7:=oz (show ∀t∈kql n all,t.length<=k+1 from λt ht=>by have⟨c,hc,h2⟩:=rM.1 ht;obtain⟨o,_,rfl⟩:=tY.1 h2;have:=X c hc;simp_all)
   clear f d v;go_wp2;exact rdM ⟨k+1,kql n all,aj,eu,Z,l,D,b7,b4⟩
 ·have:k=e8.length:=by omega
  subst this;rw[sK,kkm]at l;injection l with l;subst l;have Z:=oz (show kz6 w.heap.size u (.slice xa all.length xc) all from⟨xa,all.length,xc,cs,rfl,f,d⟩);have O:=U.trans<|hb.mono aj;have aA:=O.size;have⟨HF,HB⟩:=jS (zw8 u T lo ((O.cell (p:=⟨T,5,none⟩) hM).trans b5) cA) O;clear f d hb aB O;go_wp21
  refine HF.mono ?_;rintro e L ⟨v5,rfl,a8,m⟩;obtain⟨a5,l5,c5,rfl⟩:=qh a8;have cV:=m.size;have K:=(yt m none []).alloc<|.cells #[pT T,.slice xa all.length xc,.slice a5 l5 c5] 260;have HP:=oz (show pjm w.heap.size w T lo all (.returned<|pT L.heap.size) (L.alloc<|.cells #[pT T,.slice xa all.length xc,.slice a5 l5 c5] 260) from
   ⟨L.heap.size,_,_,rfl,qy,Z.tk K (pz.none _) ay ay ay,qo aA<|a8.alloc _,aj,(HB.trans<|m.mono aA).alloc aj _⟩)
  clear a8 K HF;go_wp2;go_ret;exact HP
def kzf(B:Nat)(w:World)(x:Value)(ts:List (List (List Int))):Prop:=∃la ll lc cs,x=.slice la ll lc/\w.ownsRow B 79 1 (.slice la ll lc) ts.length cs/\qqz w ts cs
theorem OwnRows.mono(h:OwnRows B w xv S)(e:C<=B):OwnRows C w xv S:=by obtain⟨a,n,c,cs,rfl,h1,d⟩:=h;exact⟨a,n,c,cs,rfl,qo e h1,d⟩
theorem OwnRows.I(h:OwnRows B w xv S):∃a c,xv=.slice a S.length c:=by obtain⟨a,n,c,cs,rfl,h1,d⟩:=h;grind [qp]
theorem OwnRows.get(h:OwnRows B w (.slice xa S.length c) S)(f:k<S.length):∃g ra rn rc,xa=some (Ad g 0)/\g<w.heap.size/\Ce w g k (.slice ra rn rc)/\w.ownsRow 0 3 1 (.slice ra rn rc) S[k].length (S[k].map (Value.int .i64)):=by have⟨_,_,_,cs,e,h1,_,d⟩:=h;grind [qp]
theorem kzf.snoc{l:List (List Int)}(f:qqz w j0 cs)(p:w.ownsRow B 79 1 xv j0.length cs)(m:OwnRows 0 w wv l)(h:w'.ownsRow B 79 1 y (j0.length+1) (cs++[wv]))(j:w.grownBy w' xv.ownBlock):kzf B w' y (j0++[l]):=by
 obtain⟨a,n,c,rfl⟩:=qh h;have g:∀{wv:Value} {l:List (List Int)},OwnRows 0 w wv l->OwnRows 0 w' wv l:=λhv=>by obtain⟨a,n,c,cs,rfl,h1,i,q⟩:=hv;exact⟨a,n,c,cs,rfl,kqx h1 p ak j,i,λk d=>by grind [kqx]⟩
 exact⟨a,n,c,_,rfl,by simp_all,qqz.snoc ⟨f.1,λk d=>by have⟨wv,e,hv⟩:=f.2 k d;simp_all⟩<|g m⟩
abbrev xy1(g1 j d m:Nat)(e f:Value)(w:World):Prop:=w.cell? ⟨g1,j,none⟩=some e/\w.cell? ⟨d,m,none⟩=some f
def vyw(t:PTree):Prop:=t.j.length<=801/\∀k (hk:k<t.j.length),zx (ug t) (t.j[k]).y.x.toList=k/\zz9 (t.j[k]).size/\∃n:Nat,mg (t.j[k]).size.x=n/\n<=4
theorem px8(h:kqc w T t)(hs:vyw t):Calls prog 81 #[pT T] w λe w'=>∃v,e=.returned v/\kzf w.heap.size w' v (kzv t)/\oq w w':=by
 have HT:=oz h;have⟨aE,O⟩:=hs;have O:=oz O;have⟨x0,x1,x2,x3,x4,y1,y3,y4,hT,hv,_⟩:=h;have⟨q0,q1,q2,q3,q4,_⟩:=kzk hT;have aW:=wQ hT;obtain⟨sa,sc,rfl,(HV:Hid _)⟩:=qp hv;clear q1 q2 q3 q4 hT;have HN:∀k,Hid (∀E:k<t.j.length,∃g,sa=some ⟨g,0,none⟩/\g<w.heap.size/\w.cell? ⟨g,k*6+1,none⟩=some (.string (t.j[k]).y.x)):=λk E=>by have⟨g,e,_,hg,hc⟩:=ku HV k E;exact⟨g,e,hg,(hc _ aj).trans<|kqo kwz 6 (λ_=>rfl) t.j k 1 E aj⟩
 obtain⟨W,hW⟩:∃W,W=(((w.alloc<|.cells #[.int .i64 0,.int .i64 1,.int .i64 2] 3).alloc<|.cells #[.slice (some ⟨w.heap.size,0,none⟩) 3 3] 31).alloc<|.cells #[.int .i64 0,.int .i64 1,.int .i64 2] 3).alloc (.cells #[.slice (some ⟨w.heap.size+1+1,0,none⟩) 3 3] 31):=⟨_,rfl⟩;have C:oq w W:=by rw[hW];exact(((jZ w).alloc ay _).alloc ah _).alloc ah _
 have b9:W.heap.size=w.heap.size+4:=by simp_all
 have c0:((((w.alloc<|.cells #[.int .i64 0,.int .i64 1,.int .i64 2] 3).alloc<|.cells #[.slice (some ⟨w.heap.size,0,none⟩) 3 3] 31).alloc<|.cells #[.int .i64 0,.int .i64 1,.int .i64 2] 3).alloc<|.cells #[.slice (some ⟨w.heap.size+1+1,0,none⟩) 3 3] 31).cell? ⟨T,0,none⟩=some (.slice sa t.j.length sc):=by rw[<-hW];exact(C.cell (p:=⟨T,0,none⟩) aW).trans q0
 have Q:W.heap[w.heap.size]?=some (.cells #[.int .i64 0,.int .i64 1,.int .i64 2] 3 (0,0))/\W.heap[w.heap.size+1]?=some (.cells #[.slice (some ⟨w.heap.size,0,none⟩) 3 3] 31 (0,0))/\W.heap[w.heap.size+1+1]?=some (.cells #[.int .i64 0,.int .i64 1,.int .i64 2] 3 (0,0))/\W.heap[w.heap.size+1+1+1]?=some (.cells #[.slice (some ⟨w.heap.size+1+1,0,none⟩) 3 3] 31 (0,0)):=by rw[hW];have a0:=qy (w:=w) (o:=.cells #[.int .i64 0,.int .i64 1,.int .i64 2] 3);have a1:=qy (w:=w.alloc<|.cells #[.int .i64 0,.int .i64 1,.int .i64 2] 3) (o:=.cells #[.slice (some ⟨w.heap.size,0,none⟩) 3 3] 31);have a2:=qy (w:=(w.alloc<|.cells #[.int .i64 0,.int .i64 1,.int .i64 2] 3).alloc<|.cells #[.slice (some ⟨w.heap.size,0,none⟩) 3 3] 31) (o:=.cells #[.int .i64 0,.int .i64 1,.int .i64 2] 3);have a3:=qy (w:=((w.alloc<|.cells #[.int .i64 0,.int .i64 1,.int .i64 2] 3).alloc<|.cells #[.slice (some ⟨w.heap.size,0,none⟩) 3 3] 31).alloc<|.cells #[.int .i64 0,.int .i64 1,.int .i64 2] 3) (o:=.cells #[.slice (some ⟨w.heap.size+1+1,0,none⟩) 3 3] 31);simp only[tV]at a1 a2 a3;exact⟨zy<|zy (zy a0),zy<|zy a1,zy a2,a3⟩
 have Z:∀{g b:Nat},w.heap.size<=b->W.heap[g]?=some (.cells #[.int .i64 0,.int .i64 1,.int .i64 2] 3 (0,0))->W.heap[b]?=some (.cells #[.slice (some ⟨g,0,none⟩) 3 3] 31 (0,0))->OwnRows w.heap.size W (.slice (some ⟨b,0,none⟩) 1 1) [[0,1,2]]:=λhb h1 h2=>
  ⟨_,_,_,[.slice (some ⟨_,0,none⟩) 3 3],rfl,⟨rfl,.inr ⟨_,1,_,rfl,hb,h2,jV,iq,rfl,rfl⟩⟩,rfl,λk E=>by
   obtain rfl:k=0:=by simp_all
   exact⟨_,_,_,rfl,rfl,.inr ⟨_,3,_,rfl,jG,h1,jV,iq,rfl,rfl⟩⟩⟩
 have H1:=Z aj Q.1 Q.2.1;have H2:=Z aj Q.2.2.1 Q.2.2.2;clear Z Q;have I:=oz hW.symm;clear hW q0;have G:∀k (E:k<t.j.length) (n:Nat),mg (t.j[k]).size.x=n->zxi t.j[k]?=kj3 n:=λk E n e=>by rw[wW E];show kj3 (mg (t.j[k]).size.x).toNat=_;simp_all
 have z:∀k,t.j.length<=k->zxi t.j[k]?=[[0,1,2]]:=λk E=>by rw[Jo E];rfl
 have B:=oz (show kzv t=(zxi t.j[0]?).flatMap λo=>(zxi t.j[1]?).map λp=>[o,p] from rfl);have H1:Hid (∀wx,oq W wx->OwnRows w.heap.size wx (.slice (some ⟨w.heap.size+1,0,none⟩) 1 1) [[0,1,2]]):=λwx N=>H1.below N
 have H2:Hid (∀wx,oq W wx->OwnRows w.heap.size wx (.slice (some ⟨w.heap.size+1+1+1,0,none⟩) 1 1) [[0,1,2]]):=λwx N=>H2.below N
 have b7:([[0,1,2]]:List (List Int)).length<=24:=ay;obtain hn|hn|hn:=Nat.lt_trichotomy t.j.length 1;case' inl=>
  have aN:t.j.length=0:=aj;rw[z 0 aj,z 1 aj]at B;rw[aN]at c0;clear hn HN G z aN;go_in;go_wp21;rw[ku I];obtain⟨A,b3⟩:∃A,A=W:=⟨_,rfl⟩;subst b3;have J:=ku H1 A<|bR;have F:=ku H2 A<|bR;have X:=C;clear c0;obtain⟨f,u⟩:∃L,L=([[0,1,2]]:List (List Int)):=⟨_,rfl⟩;obtain⟨d,x⟩:∃L,L=([[0,1,2]]:List (List Int)):=⟨_,rfl⟩;have B:=oz (by rw[u,x];exact B:kzv t=f.flatMap λo=>d.map λp=>[o,p]);have a5:f.length<=24:=by simp_all
  have a6:d.length<=24:=by simp_all
  rw[<-u]at J;rw[<-x]at F;clear u x;generalize (Value.slice (some ⟨w.heap.size+1,0,none⟩) 1 1)=v1 at J |-;generalize (Value.slice (some ⟨w.heap.size+1+1+1,0,none⟩) 1 1)=v2 at F |-
 case' inr.inl=>
  obtain⟨g,rfl,hg,cn⟩:=HN 0 aj;have⟨l0,aC,n0,e0,Y⟩:=ku O 0 aj;rw[G 0 aj n0 e0,z 1 aj]at B;have V:=(C.cell (p:=⟨g,1,none⟩) hg).trans cn;rw[<-ku I]at V;have U:=HT.below C;have a4:=qk5 U aE aj l0 aC;rw[hn]at c0;clear HN cn G z;generalize (t.j[0]).y.x=nm at *;go_in;go_wp21;rw[ku I];refine zM a4 ?_;rintro W rfl;rw[e0];go_wp21;refine(qzo n0 _ Y).mono ?_;rintro e A ⟨v1,rfl,J,D,_⟩;have J:=J.mono (by omega:w.heap.size<=W.heap.size);have F:=ku H2 A D;have cT:A.cell? ⟨T,0,none⟩=some (.slice (some ⟨g,0,none⟩) 1 sc):=(D.cell (p:=⟨T,0,none⟩)<|by grind).trans (by rw[<-ku I];exact c0);have X:=C.trans (D.mono (by omega:w.heap.size<=W.heap.size));have a5:=kzl n0 Y;obtain⟨f,u⟩:∃L,L=kj3 n0:=⟨_,rfl⟩;obtain⟨d,x⟩:∃L,L=([[0,1,2]]:List (List Int)):=⟨_,rfl⟩;have B:=oz (by rw[u,x];exact B:kzv t=f.flatMap λo=>d.map λp=>[o,p]);have a6:d.length<=24:=by simp_all
  rw[<-u]at J a5;rw[<-x]at F;clear u x c0 V e0;generalize (Value.slice (some ⟨w.heap.size+1+1+1,0,none⟩) 1 1)=v2 at F |-
 case' inr.inr=>
  obtain⟨g,rfl,hg,cn⟩:=HN 0 aj;have⟨g',eg,_,cm⟩:=HN 1 aj;injection eg with eg;rw[Addr.mk.injEq]at eg;obtain⟨rfl,_⟩:=eg;have⟨l0,aC,n0,e0,Y⟩:=ku O 0 aj;have⟨l1,aX,n1,e1,aM⟩:=ku O 1 aj;rw[G 0 aj n0 e0,G 1 aj n1 e1]at B;have V:=(C.cell (p:=⟨g,1,none⟩) hg).trans cn;rw[<-ku I]at V;have U:=oz<|HT.below C;have⟨a4,aI,HC⟩:=jF (qk5 U aE aj l0 aC) (λwx (N:oq W wx)=>qk5 (U.below N) aE aj l1 aX) (λwx (N:oq W wx)=>show wx.cell? ⟨T,0,none⟩=some (.slice (some ⟨g,0,none⟩) t.j.length sc)/\wx.cell? ⟨g,7,none⟩=some (.string (t.j[1]).y.x) from⟨(N.cell (p:=⟨T,0,none⟩)<|by grind).trans (by rw[<-ku I];exact c0),(N.cell (p:=⟨g,7,none⟩)<|by grind).trans<|(C.cell (p:=⟨g,7,none⟩) hg).trans cm⟩);clear HN cn cm G z;generalize (t.j[0]).y.x=nm at *;generalize (t.j[1]).y.x=nn at *;go_in
  go_wp21;rw[ku I];refine zM a4 ?_;rintro W rfl;rw[e0];go_wp21;refine(qzo n0 _ Y).mono ?_;rintro e w1 ⟨v1,rfl,aO,D,_⟩;have⟨cT,cG⟩:=ku HC w1 D;have b6:=D.size;clear c0 V;go_wp21;refine zM (aI w1 D) ?_;rintro w1 rfl;rw[e1];go_wp21;refine(qzo n1 _ aM).mono ?_;rintro e A ⟨v2,rfl,F,aB,_⟩;have J:=(aO.mono (by omega:w.heap.size<=W.heap.size)).below aB;have F:=F.mono (by omega:w.heap.size<=w1.heap.size);have X:=(C.trans<|D.mono (by omega:w.heap.size<=W.heap.size)).trans (aB.mono (by omega:w.heap.size<=w1.heap.size));have a5:=kzl n0 Y;have a6:=kzl n1 aM;obtain⟨f,u⟩:∃L,L=kj3 n0:=⟨_,rfl⟩;obtain⟨d,x⟩:∃L,L=kj3 n1:=⟨_,rfl⟩;have B:=oz (by rw[u,x];exact B:kzv t=f.flatMap λo=>d.map λp=>[o,p]);rw[<-u]at J a5;rw[<-x]at F a6;clear u x I HT C H1 H2 U a4 aI HC e0 e1 D aB aO cT cG
 all_goals
  obtain⟨a1,c1,rfl⟩:=J.I;obtain⟨a2,c2,rfl⟩:=F.I;have⟨J,F⟩:=jS J F;have aQ:=X.size;have aS:=oz X;clear X O;go_wp21;go_loopw [5,6,7] (λy i _ wr=>∃j:Nat,j<=f.length/\i=.int .i64 j/\kzf A.heap.size wr y ((f.take j).flatMap λo=>d.map λp=>[o,p])/\oq A wr) (λ_ i _ _=>f.length-(intOf i).toNat);exact⟨0,jG,rfl,⟨none,0,0,[],rfl,by simp;exact jT,ay,λk E=>by grind⟩,bR⟩;obtain⟨wo,b5⟩:∃wo,wo=wr:=⟨_,rfl⟩;subst b5;obtain⟨j,hj,rfl,HO,aJ⟩:=hrel;obtain⟨ya,yn,yc,_,rfl,_⟩:=id HO;have⟨HO,aU⟩:=jS HO aJ;by_cases aL:j<f.length
  case neg=>
   have HE:=oz (show kzf w.heap.size wo (.slice ya yn yc) (kzv t) from by have:=ku HO;rw[show j=f.length by omega,Qc,<-ku B]at this;have⟨a,n,c,cs,e,h1,h2⟩:=this;exact⟨a,n,c,cs,e,qo aQ h1,h2⟩)
   clear aJ;go_wp2;go_ret;exact⟨_,rfl,HE,aS.trans<|aU.mono aQ⟩
  case pos=>
  have aF:=oz (show((f.take<|j+1).flatMap λo=>d.map λp=>[o,p])=((f.take j).flatMap λo=>d.map λp=>[o,p])++(d.take d.length).map λp=>[f[j],p] by rw[tJ aL,JZ,Qc];simp)
  have b8:((f.take j).flatMap λo=>d.map λp=>[o,p]).length<=600:=by
   have:∀(l m:List (List Int)),(l.flatMap λo=>m.map λp=>[o,p]).length=l.length*m.length:=λl m=>by
    induction l with
    |nil=>simp
    |cons o l ih=>grind
   rw[this,Ze];exact rP (Jt (by omega:min j f.length<=24) a6) aj
  generalize ((f.take j).flatMap λo=>d.map λp=>[o,p])=pre at *;have HI:=oz (show kzf A.heap.size wo (.slice ya yn yc) (pre++(d.take 0).map λp=>[f[j],p]) from by simp_all);clear HO;go_wp21;go_loopw [5,7] (λy q s=>∃m:Nat,m<=d.length/\q=.int .i64 m/\kzf A.heap.size s y (pre++(d.take m).map λp=>[f[j],p])/\oq A s) (λ_ q _=>d.length-(intOf q).toNat)
  ·grind
  obtain⟨s,b4⟩:∃s,s=wr:=⟨_,rfl⟩;subst b4;obtain⟨m,hm,rfl,⟨za,zn,zc,cs,rfl,a7,a8⟩,P⟩:=hrel;have aG:=oz P;by_cases aK:m<d.length
  case neg=>
   have HE:=oz (show kzf A.heap.size s (.slice za zn zc) ((f.take<|j+1).flatMap λo=>d.map λp=>[o,p]) from by rw[ku aF,<-show m=d.length by omega];exact⟨za,zn,zc,cs,rfl,a7,a8⟩)
   clear a7 a8 P;go_wp2;exact rdM ⟨j+1,aj,eu,HE,aG⟩
  case pos=>
  have b2:=P.size;obtain⟨g1,r1,n1,k1,rfl,aY,p1,o1⟩:=(J.below P).get aL;obtain⟨g2,r2,n2,k2,rfl,aZ,p2,o2⟩:=(F.below P).get aK;have bA:(pre++(d.take m).map λp=>[f[j],p]).length<=700:=by grind
  have aR:=oz (show OwnRows 0 (s.alloc<|.cells #[.slice r1 n1 k1,.slice r2 n2 k2] 31) (.slice (some ⟨s.heap.size,0,none⟩) 2 2) [f[j],d[m]] from
   ⟨_,_,_,[.slice r1 n1 k1,.slice r2 n2 k2],rfl,⟨rfl,.inr ⟨_,2,_,rfl,jG,qy (w:=s),jV,iq,rfl,rfl⟩⟩,rfl,λk E=>by
    match k,E with
    |0,_=>exact⟨_,_,_,rfl,o1.alloc _⟩
    |1,_=>exact⟨_,_,_,rfl,o2.alloc _⟩⟩)
  have aV:=oz (show(pre++(d.take<|m+1).map λp=>[f[j],p])=(pre++(d.take m).map λp=>[f[j],p])++[[f[j],d[m]]] by rw[tJ aK,Qw,<-sZ];rfl)
  have⟨a9,aH⟩:=jS a7 a8;generalize (pre++(d.take m).map λp=>[f[j],p])=Lg at *;clear a7 a8 o1 o2 P;have aA:Hid (∀wx,oq s wx->xy1 g1 j g2 m (.slice r1 n1 k1) (.slice r2 n2 k2) wx):=λwx N=>⟨(N.cell (p:=⟨g1,j,none⟩) aY).trans p1,(N.cell (p:=⟨g2,m,none⟩) aZ).trans p2⟩
  have HD:=oz<|(Below.refl s.heap.size s).drew;clear p1 p2;go_upto_region 14 with fail
  refine bg (S:=xy1 g1 j g2 m (.slice r1 n1 k1)<|.slice r2 n2 k2) (tl:=[10,11,12]) au ?_;refine frS 0 ?_;refine frS 1 ?_;refine frS 2 ?_;refine frS 3 ?_;refine tkS 4 (aA _ HD) ?_;refine frS 5 ?_;refine frS 6 ?_;refine frS 7 ?_;refine tkS 8 (aA _ HD) ?_;refine onS 9 λK M=>?_
  go_simp;refine M _ _ (aA _<|HD.alloc HD.size _) ?_;clear M K;refine kyj ?_;refine onA 10 λK M=>?_
  go_simp;refine M _ _ ?_;clear M K;refine onA 11 λK M=>?_
  refine apL (qj a9<|(HD.alloc HD.size _).alloc ay _) (alloc_at (s.heap.size+1) ay) ?_ (H:=s.heap.size+2) (hH:=ay);intro gg gcap w5 aP aD _ _;refine M _ _ ?_;clear M K;refine onA 12 λK M=>?_
  go_simp;refine M _ _ ?_;clear M K;refine wpAny_done au ?_ _;have R:oq s ((s.alloc<|.cells #[.slice r1 n1 k1,.slice r2 n2 k2] 31).alloc<|.cells #[.slice (some ⟨s.heap.size,0,none⟩) 2 2] 79).drew:=((jZ s).alloc ay _).drew;have⟨HX,aT⟩:=jS (kzf.snoc (w:=((s.alloc<|.cells #[.slice r1 n1 k1,.slice r2 n2 k2] 31).alloc<|.cells #[.slice (some ⟨s.heap.size,0,none⟩) 2 2] 79).drew) ⟨aH.1,λk E=>by have⟨v,e,hv⟩:=aH.2 k E;exact⟨v,e,hv.below R⟩⟩ (qj a9 R) (aR.below (jZ _).drew) aP aD) ((aG.trans<|R.mono b2).grown aD (by have:=R.size;omega)<|jo a9);clear aP aD R;go_wp2;exact rdM ⟨m+1,aj,eu,by rw[ku aV];exact HX,aT⟩
theorem kzf.below(h:kzf B w xv j0)(hb:oq w w'):kzf B w' xv j0:=by obtain⟨a,n,c,cs,rfl,h1,d⟩:=h;exact⟨a,n,c,cs,rfl,qj h1 hb,d.1,λk f=>by have⟨v,e,hv⟩:=d.2 k f;exact⟨v,e,hv.below hb⟩⟩
theorem kzf.get(h:kzf B w xv j0):∃a c,xv=.slice a j0.length c/\∀k (hk:k<j0.length),∃g u,a=some ⟨g,0,none⟩/\g<w.heap.size/\w.cell? ⟨g,k,none⟩=some u/\OwnRows 0 w u j0[k]:=by obtain⟨_,_,_,cs,rfl,h1,_,d⟩:=h;grind [qp]
def jyf(ws:List (List (List Int))):Prop:=ws.length<=1000/\∀o∈ws,o.length<=100/\∀l∈o,l.length<=100
abbrev LsC(X T g i:Nat)(wv u:Value)(w:World):Prop:=w.cell? ⟨X,0,none⟩=some (.pointer (some ⟨T,0,none⟩))/\w.cell? ⟨X,1,none⟩=some wv/\w.cell? ⟨g,i,none⟩=some u
theorem vwd(h : kqc w T t)(N : TreeOk t)(hf : TreeFit t)(hX : X < w.heap.size)(x0 : w.cell? (Ad X 0) = some (pT T))(x1 : w.cell? (Ad X 1) = some wv)(hw : kzf 0 w wv j0)(L : jyf j0)(G : StA lo w xv S gs)(J : ky4 S)(hb : zj9 t S S.length = some b)(hr : jxz t S j0 b = some r):Calls prog 137 #[pT X,xv] w λe w'=>e = .returned (.string r)/\oq w w':=by
 obtain⟨za,zc,rfl,_⟩:=qp G.out
 obtain⟨wa,O,rfl,H⟩:=hw.get
 have a7:=L.1
 go_in;go_wp21;refine zM (zq2 h N hf G J hb) λw1 a5=>?_
 go_wp21;go_loopw [5,6,7] (λq i _ wr=>∃(k : Nat)(I : ByteArray),k<=j0.length/\i = i_ k/\q = .string I/\jxz t S (j0.drop k) I = some r/\oq w wr) (λ_ i _ _=>j0.length - (intOf i).toNat)
 ·grind
 obtain⟨m,rfl⟩:=cpy wr
 obtain⟨k,I,hk,rfl,rfl,d,j⟩:=hrel
 have B:=j.size
 have⟨c0,c1⟩:=(λ(wx : World)(f : oq w wx)=>show wx.cell? (Ad X 0) = some (pT T)/\wx.cell? (Ad X 1) = some (.slice wa j0.length O) from⟨(f.cell (p:=⟨X,0,none⟩) hX).trans x0,(f.cell (p:=⟨X,1,none⟩) hX).trans x1⟩) m j
 by_cases F : k < j0.length
 case neg=>
  rw [List.drop_eq_nil_of_le aj,jxz]at d
  injection d with d
  subst d
  go_wp2;go_ret;simp_all
 case pos=>
 rw [List.drop_eq_getElem_cons F,jxz]at d
 have⟨S',E,d⟩:=Option.bind_eq_some_iff.1 d
 have⟨y,hy,d⟩:=Option.bind_eq_some_iff.1 d
 have⟨_,_,ew,H⟩:=((oz hw).below j).get
 injection ew with Y _ Z
 subst Y; subst Z
 obtain⟨g,u,rfl,hg,W,hu⟩:=H k F
 have a4:=(oz L.2) _<|List.getElem_mem F
 have⟨sl,_,sr⟩:=zyi E
 have a1 : ky4 S':=⟨by rw [sl]; exact J.1,λl hl=>by have⟨l',h1,h2⟩:=sr l hl; rw [h2]; exact J.2 l' h1⟩
 have V:=λ(wx : World)(f : oq m wx)=>vza (h.below<|j.trans (f.mono B)) N ((oz G).below<|j.trans (f.mono B)) J (hu.below f) a4 E
 have R:=λ(wx : World) (f : oq m wx) (v : Value) (lo' : Nat) (a0 : List (Nat×Nat)) (hv : StA lo' wx v S' a0)=>zq2 (h.below<|j.trans (f.mono B)) N hf hv a1 hy
 have s : Hid (∀wx,oq m wx->LsC X T g k (sL g j0.length O) u wx):=λwx f=>⟨(f.cell (p:=⟨X,0,none⟩)<|by grind).trans c0,(f.cell (p:=⟨X,1,none⟩)<|by grind).trans c1,(f.cell (p:=⟨g,k,none⟩) hg).trans W⟩
 have x:=(Below.refl m.heap.size m).drew
 have Q:=oz d
 clear H W E hy d sr sl
 go_upto_region 5 with fail
 refine bg (S:=LsC X T g k (sL g j0.length O) u) (tl:=[17,18]) au ?_
 refine frS 0 ?_
 refine frS 1 ?_
 refine frS 2 ?_
 refine tkS 3 (s _ x) ?_
 refine frS 4 ?_
 refine frS 5 ?_
 refine frS 6 ?_
 refine tkS 7 (s _ x) ?_
 refine frS 8 ?_
 refine frS 9 ?_
 refine frS 10 ?_
 refine frS 11 ?_
 refine tkS 12 (s _ x) ?_
 refine frS 13 ?_
 refine frS 14 ?_
 refine tkS 15 (s _ x) ?_
 refine onS 16 λK D=>?_
 go_simp;go_at_call 193
 refine(V _ x).mono ?_
 rintro e w2 ⟨v2,a6,rfl,C,a2⟩
 have z:=x.trans<|a2.mono x.size
 obtain⟨va,vc,rfl,_⟩:=qp C.out
 dsimp only
 refine D _ _ (s _ z) ?_
 try simp only [Act.put,List.setIfInBounds_toArray,List.set_cons_zero,List.set_cons_succ]
 refine kyj ?_
 refine onA 17 λK D=>?_
 go_simp;go_at_call 126
 have U:=R w2 z _ _ _ C
 refine zM U λw3 a3=>?_
 have P:=j.trans<|(z.trans<|a3.mono z.size).mono B
 dsimp only
 refine D _ _ ?_
 refine onA 18 λK D=>?_
 go_simp;refine D _ _ ?_
 refine wpAny_done au ?_ _
 cases M : Op.bytesLess y.toList I.toList
 all_goals
  have A:=Q
  unfold vwj at A
  rw [M]at A
  simp only [Bool.false_eq_true,if_false,if_true]at A
  go_wp2;exact rdM ⟨k + 1,_,aj,eu,rfl,A,P⟩
section
theorem StA.tk(h:StA B w xv S gs)(d:Tk none bad w w')(h1:31∉bad)(f:3∉bad):StA B w' xv S gs:=
 ⟨jq h.out d (pz.none _) h1,h.T,h.apart,λk e g=>jq (h.rows k e g) d (pz.none _) f⟩
def zww(w:World)(L:List (List (List Int)))(cs:List Value):Prop:=cs.length=L.length/\∀k (hk:k<L.length),∃v gs,cs[k]?=some v/\StA 0 w v L[k] gs
structure qka (B X T:Nat)(ws:List (List (List Int)))(x:SnR)(wv sv tv ov:Value)(w:World):Prop where
 big:B<=X
 e:w.heap[X]?=some (.cells #[pT T,wv,sv,tv,ov] 188 (0,0))
 m:kzf 0 w wv ws
 F:∃cs,w.ownsRow B 149 1 sv x.F.length cs/\zww w x.F cs
 txs:w.ownsRow B 9 1 tv x.txs.length (x.txs.map Value.string)
 L:w.ownsRow B 9 1 ov x.L.length (x.L.map Value.string)
 apart:Apart tv ov
variable {B X T:Nat} {ws:List (List (List Int))} {x:SnR} {wv sv tv ov:Value} {w w':World}
theorem kzf.tk(h:kzf C w xv ws)(d:Tk none bad w w')(f:79∉bad)(h1:31∉bad)(g:3∉bad):kzf C w' xv ws:=by have⟨la,ll,lc,cs,e,i,j⟩:=h;exact⟨la,ll,lc,cs,e,jq i d (pz.none _) f,j.tk d (pz.none _) h1 g⟩
theorem zww.tk(h:zww w j0 cs)(f:Tk none bad w w')(h1:31∉bad)(d:3∉bad):zww w' j0 cs:=
 ⟨h.1,λk g=>by have⟨v,gs,e,i⟩:=h.2 k g;exact⟨v,gs,e,i.tk f h1 d⟩⟩
theorem zww.snoc(h:zww w j0 cs)(hv:StA 0 w xv S gs):zww w (j0++[S]) (cs++[xv]):=by
 refine⟨by simp[h.1],λk f=>?_⟩;by_cases d:k<j0.length
 ·have⟨u,gs,e,g⟩:=h.2 k d;grind
 ·have:k=j0.length:=by grind
  subst this;exact⟨xv,gs,by rw[<-h.1];simp,by simp_all⟩
theorem qka.below(h:qka B X T ws x wv sv tv ov w)(hb:oq w w'):qka B X T ws x wv sv tv ov w':=by have⟨cs,h1,d⟩:=h.F;exact⟨h.big,(hb.block X<|wQ h.e).trans h.e,h.m.below hb,⟨cs,qj h1 hb,d.tk (yt hb none []) ay ay⟩,qj h.txs hb,qj h.L hb,h.apart⟩
theorem qka.xwj{o:Obj}(h:qka B X T ws x wv sv tv ov w)(e:w.ownsRow B 149 1 sv x.F.length cs)(f:zww w x.F cs)(hv:StA 0 w xv S gs)(g:(w.alloc o).grownBy w4 sv.ownBlock)(i:w4.ownsRow B 149 1 (.slice xa xn xc) (x.F.length+1) (cs++[xv])):Rw w4 X #[pT T,wv,sv,tv,ov] 188/\Tk none qw7 w (w4.setCell (Ad X 2)<|.slice xa xn xc)/\qka B X T ws ⟨x.F++[S],x.txs,x.L⟩ wv (.slice xa xn xc) tv ov (w4.setCell (Ad X 2)<|.slice xa xn xc):=by have k4:Tk none [149] w w4:=(yt (jZ w (o:=o)) none [149]).trans<|kz4 (e.alloc _) g ak;have d:=k4.e h.e ay ak;have k5:Tk none [188] w4 (w4.setCell (Ad X 2)<|.slice xa xn xc):=qqa d ak 2 _;have k:Tk none [149,188] w (w4.setCell (Ad X 2)<|.slice xa xn xc):=(k4.wide ak).trans<|k5.wide ak;exact⟨d,k.wide ak,h.big,jD X 2 _ _ _ d,h.m.tk k ak ak ak,⟨_,by grind [jq,pz.none],(f.snoc hv).tk k ak ak⟩,jq h.txs k (pz.none _) ak,jq h.L k (pz.none _) ak,h.apart⟩
theorem qka.xwq(h:qka B X T ws x wv sv tv ov w)(g:(w.alloc (.cells #[.string b] 9)).grownBy w4 tv.ownBlock)(j:w4.ownsRow B 9 1 (.slice xa xn xc) (x.txs.length+1) (x.txs.map Value.string++[.string b]))(e:(Value.slice xa xn xc).ownBlock=tv.ownBlock\/(Value.slice xa xn xc).ownBlock=some (w.heap.size+1)):Rw w4 X #[pT T,wv,sv,tv,ov] 188/\Tk none qw7 w (w4.setCell (Ad X 3)<|.slice xa xn xc)/\qka B X T ws ⟨x.F,x.txs++[b],x.L⟩ wv sv (.slice xa xn xc) ov (w4.setCell (Ad X 3)<|.slice xa xn xc):=by have⟨cs,f,i⟩:=h.F;have k4:Tk none [9] w w4:=(yt (jZ w) none [9]).trans<|kz4 (h.txs.alloc _) g ak;have d:=k4.e h.e ay ak;have k5:Tk none [188] w4 (w4.setCell (Ad X 3)<|.slice xa xn xc):=qqa d ak 3 _;have k:Tk none [9,188] w (w4.setCell (Ad X 3)<|.slice xa xn xc):=(k4.wide ak).trans<|k5.wide ak;exact⟨d,k.wide ak,h.big,jD X 3 _ _ _ d,h.m.tk k ak ak ak,⟨cs,jq f k (pz.none _) ak,i.tk k ak ak⟩,by grind [jq,pz.none],jq ((h.L.alloc<|.cells #[.string b] 9).kept g<|qqs h.apart) k5 (pz.none _) ak,kwp h.apart e h.L⟩
theorem qka.xw9(h:qka B X T ws x wv sv tv ov w)(g:(w.alloc (.cells #[.string b] 9)).grownBy w4 ov.ownBlock)(j:w4.ownsRow B 9 1 (.slice xa xn xc) (x.L.length+1) (x.L.map Value.string++[.string b]))(e:(Value.slice xa xn xc).ownBlock=ov.ownBlock\/(Value.slice xa xn xc).ownBlock=some (w.heap.size+1)):Rw w4 X #[pT T,wv,sv,tv,ov] 188/\Tk none qw7 w (w4.setCell (Ad X 4)<|.slice xa xn xc)/\qka B X T ws ⟨x.F,x.txs,x.L++[b]⟩ wv sv tv (.slice xa xn xc) (w4.setCell (Ad X 4)<|.slice xa xn xc):=by have⟨cs,f,i⟩:=h.F;have k4:Tk none [9] w w4:=(yt (jZ w) none [9]).trans<|kz4 (h.L.alloc _) g ak;have d:=k4.e h.e ay ak;have k5:Tk none [188] w4 (w4.setCell (Ad X 4)<|.slice xa xn xc):=qqa d ak 4 _;have k:Tk none [9,188] w (w4.setCell (Ad X 4)<|.slice xa xn xc):=(k4.wide ak).trans<|k5.wide ak;exact⟨d,k.wide ak,h.big,jD X 4 _ _ _ d,h.m.tk k ak ak ak,⟨cs,jq f k (pz.none _) ak,i.tk k ak ak⟩,jq ((h.txs.alloc<|.cells #[.string b] 9).kept g<|qqs (kzm h.apart)) k5 (pz.none _) ak,by grind [jq,pz.none],kzm<|kwp (kzm h.apart) e h.txs⟩
theorem pj1{ls:List ByteArray}(s:ByteArray){w:World}(v:ls.length<=1000000)(p:w.ownsRow lo 9 1 xv ls.length (ls.map Value.string)):Calls prog 136 #[xv,.string s] w λe w'=>rT e (.bool<|hasB ls s)/\w'=w:=by
 obtain⟨a,c,rfl,l⟩:=qp p;go_in;go_wp21;go_loop [5] (λi=>∃k:Nat,k<=ls.length/\i=i_ k/\hasB ls s=hasB (ls.drop k) s) (λi=>ls.length-(intOf i).toNat)
 ·grind
 obtain⟨k,u,rfl,(j:Hid _)⟩:=hrel;by_cases d:k<ls.length
 case neg=>
  have f:=oz (show hasB ls s=false by rw[j,JG aj];rfl);go_wp2;go_ret;exact⟨um f.symm,rfl⟩
 case pos=>
 obtain⟨g,rfl,_,t,m⟩:=l k d;have q:w.cell? (Ad g k)=some (.string ls[k]):=by simp_all
 have f:=show hasB ls s=((ls[k].toList==s.toList)||hasB (ls.drop<|k+1) s) by rw[j,rU d];rfl
 clear m;generalize ls[k]=y at *;cases x:(y.toList==s.toList);case' true=>
  have h:=oz (by simp_all:hasB ls s=true);clear f;go_wp2;go_ret;exact⟨um h.symm,rfl⟩
 case' false=>
  go_wp2;grind [intOf]
end
structure SnB (x:SnR):Prop where
 txs:x.txs.length=x.F.length
 L:x.L.length<=x.F.length
 R:x.F.length<=100001
 rows:∀S∈x.F,ky4 S
theorem xxy(d:vjk t j1 S=some x')(h:SnB j1)(f:ky4 S):SnB x'/\∃q,x'.F=j1.F++q:=by
 have⟨b,_,d⟩:=wu.1 d;split at d
 ·simp_all
 ·split at d
  ·rename_i g;obtain⟨k,_,rfl⟩:=wX.1 d;refine⟨⟨by simp[h.txs],?_,by simp_all,λT e=>?_⟩,[S],rfl⟩
   ·show(if hasB j1.L k then j1.L else j1.L++[k]).length<=_;have:=h.L;grind
   ·obtain e|e:=rV.1 e
    ·exact h.rows T e
    simp_all
  simp_all
theorem vze(h : kqc w4 T t)(ht : TreeOk t)(hf : TreeFit t)(a7 : jyf (kzv t))(hb : oq w4 w)(E : qka w4.heap.size X T (kzv t) j1 wv y a8 a9 w)(x : SnB j1)(H : StA 0 w xv S gs)(hS : ky4 S)(j : vjk t j1 S = some x'):Calls prog 82 #[pT X,xv] w λe w'=>e = .returned (.tuple #[])/\(∃sv' tv' ov',qka w4.heap.size X T (kzv t) x' wv sv' tv' ov' w')/\Tk none qw7 w w'/\oq w4 w':=by
 have x : j1.F.length<=100001/\j1.txs.length<=100001/\j1.L.length<=100001:=⟨x.R,by rw [x.txs]; exact x.R,Nat.le_trans x.L x.R⟩
 obtain⟨za,zc,rfl,_⟩:=qp H.out
 obtain⟨ta,tc,rfl,_⟩:=qp E.txs
 obtain⟨oa,oc,rfl,_⟩:=qp E.L
 unfold vjk at j
 have⟨b,P,j⟩:=Option.bind_eq_some_iff.1 j
 have a6:=hb.size
 have c0:=kzk E.e
 have aE:=lt_of_block E.e
 go_in;go_wp21;refine zM (zq2 (h.below hb) ht hf H hS P) λw1 u=>?_
 have s:=E.below u
 have C:=(oz H).below u
 have Z:=(oz hb).trans<|u.mono a6
 have R:=yt u none qw7
 have aG:=u.size
 have⟨c0,c1,c2,c3,c4,f0,f1,f2,f3,f4⟩:=kzk s.e
 go_wp21;refine zM (pj1 b aj s.txs) ?_;rintro w1 rfl
 cases hh : hasB j1.txs b
 case true=>
  rw [hh,if_pos rfl]at j
  injection j with j
  subst j
  go_wp2;refine bodyPost_ret (results_none rfl _ _ _) rfl ?_
  grind
 case false=>
 rw [hh,if_neg ay]at j
 have j : (jxz t S (kzv t) b).map (λk=>(⟨j1.F ++ [S],j1.txs ++ [b],if hasB j1.L k then j1.L else j1.L ++ [k]⟩ : SnR)) = some x':=by simp_all
 obtain⟨k,hk,rfl⟩:=Option.map_eq_some_iff.1 j
 have⟨cs,q,a5⟩:=s.F
 obtain⟨sa,sc,rfl,_⟩:=qp q
 have a3 : (.slice sa j1.F.length sc : Value).ownBlock≠some X:=(not_row q s.e ak).symm
 have U : X < w1.heap.size:=aj
 go_wp2_with (at_builtin; refine apO (q.alloc _) ?_)
 intro v6 z f d _ _
 obtain⟨g6,K,k6,rfl⟩:=qh f
 have aF : z.frozen? (Ad X 2) = false:=(d.frozen_far _ ah<|Ne.symm a3).trans<|kv1 (jZ _) U f2
 have⟨G,O,g⟩:=s.xwj q (oz a5) C d f
 have Q:=(Z.alloc aj _).grown d ah<|jo q
 have p0:=kzk G
 have⟨Y,I⟩:=cpy<|z.setCell (Ad X 2) (.slice g6 K k6)
 have B:=oz I.symm
 rw [<- I]at g O
 have L:=show oq w4 Y by rw [I]; exact Q.setCell (g.big : w4.heap.size<=X) _
 have⟨c0,c1,c2,c3,c4,f0,f1,f2,f3,f4⟩:=kzk g.e
 have a1 : Hid ((z.setCell (Ad X 2)<|.slice g6 K k6).ownsRow w4.heap.size 9 1 (.slice ta j1.txs.length tc) j1.txs.length<|j1.txs.map Value.string):=by unfold Hid; rw [B]; exact g.txs
 have aH : z.heap.size<=Y.heap.size/\Y.heap.size<=z.heap.size:=by simp_all
 have aD:=L.size
 rw [<- B]at c3 f3
 go_wp2_with (at_builtin; refine apO (a1.alloc _) ?_)
 intro v8 w8 v i _ aC
 rw [B]at i
 obtain⟨g8,n8,k8,rfl⟩:=qh v
 have⟨a4,W,l⟩:=g.xwq i v (by simp_all)
 have p8:=kzk a4
 have D:=O.trans W
 have⟨w9,J⟩:=cpy<|w8.setCell (Ad X 3) (.slice g8 n8 k8)
 rw [<- J]at l D
 have A:=show oq w4 w9 by rw [J]; exact((L.alloc aj _).grown i ah<|jo g.txs).setCell (l.big : w4.heap.size<=X) _
 have⟨c0,c1,c2,c3,c4,f0,f1,f2,f3,f4⟩:=kzk l.e
 have a0:=vwd ((oz h).below A) ht hf (lt_of_block l.e) c0 c1 l.m a7 (C.tk D ak ak) (oz hS) P hk
 go_wp21;rw [(oz J.symm)]
 refine zM a0 λwa F=>?_
 have m:=l.below F
 have M:=A.trans<|F.mono A.size
 have a2:=(R.trans D).trans<|yt F none qw7
 have aI:=M.size
 have c0:=kzk m.e
 have aA:=lt_of_block m.e
 go_wp21;refine zM (pj1 (lo:=w4.heap.size) (ls:=j1.L) k (w:=wa) aj m.L) ?_;rintro wa rfl
 cases hq : hasB j1.L k
 case true=>
  simp only [if_true]
  go_wp2;first | go_end0 | refine bodyPost_ret (results_none rfl _ _ _) rfl ?_
  grind
 case false=>
 simp only [Bool.false_eq_true,if_false]
 have N:=m.L
 go_wp2_with (at_builtin; refine apO (N.alloc _) ?_)
 intro v6 z f d _ aB
 obtain⟨g6,K,k6,rfl⟩:=qh f
 have⟨G,V,g⟩:=m.xw9 d f (by omega)
 have p4:=kzk G
 go_wp2;first | go_end0 | refine bodyPost_ret (results_none rfl _ _ _) rfl ?_
 exact⟨rfl,⟨_,_,_,g⟩,(a2.trans V),(((M.alloc aj _).grown d ah<|jo N).setCell (p:=⟨X,4,none⟩) (m.big : w4.heap.size<=X)<|.slice g6 K k6)⟩
theorem kqc.rul(h:kqc w T t):∃a c ys,Ce w T 3 (.slice a t.l.length c)/\w.ownsRow (T+1) 147 6 (.slice a t.l.length c) t.l.length ys/\dw (T+1) w t.l ys/\T<w.heap.size:=by have⟨x0,x1,x2,x3,x4,y1,y3,y4,f,_,_,_,⟨d,e⟩,_⟩:=h;have⟨i,j,k,g,l,_⟩:=kzk f;obtain⟨a,c,rfl,_⟩:=qp d;exact⟨a,c,y3,g,d,e,wQ f⟩
theorem kqc.nev(h:kqc w T t):∃a c ys,Ce w T 4 (.slice a t.q.length c)/\w.ownsRow (T+1) 147 6 (.slice a t.q.length c) t.q.length ys/\dw (T+1) w t.q ys/\T<w.heap.size:=by have⟨x0,x1,x2,x3,x4,y1,y3,y4,f,_,_,_,_,⟨d,e⟩⟩:=h;have⟨i,j,k,l,g,_⟩:=kzk f;obtain⟨a,c,rfl,_⟩:=qp d;exact⟨a,c,y4,g,d,e,wQ f⟩
theorem xvk(h:xv.ownBlock=some T\/T=lo):(sL T n c).ownBlock=xv.ownBlock\/(sL T n c).ownBlock=some lo:=by
 obtain e|e:=h
 ·exact .inl e.symm
 ·exact .inr (by rw[e];rfl)
theorem jv7(h:kqc w T t)(D:PlOk t)(X:StA lo w xv S gs)(hS:ky4 S)(hr:zzj t S=some j2):Calls prog 72 #[pT T,xv] w λe w'=>jzs w j2 e w':=by
 unfold zzj at hr;have⟨tt,bF,hr⟩:=wu.1 hr;have⟨⟨EN,WR⟩,aQ,hr⟩:=wu.1 hr;obtain⟨BR,aP,rfl⟩:=wX.1 hr;have d4:=qjp (t:=t) (rs:=t.l) (λx l=>D.pars x<|jU l);have d5:=qjp (t:=t) (rs:=t.q) (λx l=>D.pars x<|jP l);have bQ:=zxq _ _ _ _ _ _ aQ;have bP:=zyq _ _ _ _ _ aP;simp only[Zw,Jc]at bQ bP;have cN:=D.l;have cO:=D.q;obtain⟨za,zc,rfl,_⟩:=qp X.out;have⟨i0,hi,dD,dE,dF⟩:=info_parts infoStr0;have⟨W,hW⟩:=cpy<|(w.alloc<|.cells #[e_,nS,nS,nS,.bool false] 24).alloc (.cells #[e_,nS,nS,nS,.bool false] 24);have⟨V,hV⟩:=cpy<|w.heap.size+1;have a9:oq w W:=jX;have cQ:W.heap.size=w.heap.size+2:=by rw[hW];simp
 have b6:W.heap[w.heap.size]?=some (.cells #[e_,nS,nS,nS,.bool false] 24 (0,0)):=by rw[hW];exact zy<|qy
 have bA:W.heap[V]?=some (.cells #[e_,nS,nS,nS,.bool false] 24 (0,0)):=by rw[hW,hV];have:=qy (w:=w.alloc<|.cells #[e_,nS,nS,nS,.bool false] 24) (o:=.cells #[e_,nS,nS,nS,.bool false] 24);simp only[tV]at this;exact this
 have⟨b4,aE,bO,bY,HT,d2,b3,b2⟩:=jx (zq2 (h.below a9) D.ok D.fit (X.below a9) hS bF) (λ(wx:World) (l:oq w wx) (rs:List PRule) (a:Option Addr) (c:Nat) (ys:List Value) (h1:wx.ownsRow (T+1) 147 6 (.slice a rs.length c) rs.length ys) (Z:dw (T+1) wx rs ys) (h3:∀j2∈rs,zvk t j2) (h4:rs.length<=801)=>jjc (h.below l) D.ok h1 Z h3 h4) (λ(wx:World) (l:oq w wx) (x:RIn) (c:List Value) (hi:zwa wx x c) (hk:RiOk x) (q:Int×List (List Int)) (hq:zwc t S x=some q)=>jjd (h.below l) D.ok D.tops (X.below l) hS hi hk hq) (λ(wx:World)(l:oq w wx)=>zja (X.below l) hS.2 hS.1) h X aQ aP;have⟨cB,cC,aC,cE,cD⟩:=jz b6 bA a9 hW.symm hV;have bS:w.heap.size<V:=aj;have cZ:V<W.heap.size:=aj;have d0:w.heap.size<W.heap.size:=aj;clear hV cQ hr h X aQ aP bF b6 bA a9 hW;go_enter func72,ntmps72
 go_wp21;rw[ku cE,<-ku cD];refine zM b4 λw1 U=>?_;have dA:=U.size;have aJ:=(U.block V aj).trans cC;have⟨v0,v1,v2,v3,v4,g0,g1,g2,g3,g4⟩:=jl aJ;have⟨w2,Y⟩:=cpy<|w1.setCell (Ad V 0) (.string tt);have bB:w2.heap[V]?=some (.cells #[.string tt,nS,nS,nS,.bool false] 24 (0,0)):=by rw[Y];exact jD V 0 _ _ _ aJ
 have a2:oq w w2:=by rw[Y];exact(aC.trans<|U.mono aj).setCell (by show w.heap.size<=V;omega) _
 have b7:w2.heap[w.heap.size]?=some (.cells #[e_,nS,nS,nS,.bool false] 24 (0,0)):=by rw[Y,jN (by show w.heap.size≠V;omega)];exact(U.block w.heap.size aj).trans cB
 have HC:=Vc.new bB a2 b7 bS;have⟨ra,rc,cY,rq,aV,bI,b8⟩:=(HT.below a2).rul;have cX:Ce w1 T 3 (.slice ra t.l.length rc):=by
  have⟨a',c',dI,dH,_⟩:=(HT.below<|aC.trans (U.mono aj)).rul;have e:=rq;rw[Y]at e;have cI:T<w.heap.size:=by have⟨_,_,_,_,_,_,h9⟩:=HT.rul;exact h9
  have e2:=((Below.refl w.heap.size w1).setCell (p:=⟨V,0,none⟩) (by show w.heap.size<=V;omega)<|.string tt).cell (p:=⟨T,3,none⟩) cI;exact e2.symm.trans e
 have⟨aZ,d1,bV⟩:=jF (aE w2 a2 t.l ra rc cY aV bI (λx l=>D.pars x<|jU l) cN) a2 Y.symm;have d7:T<w.heap.size:=by have⟨_,_,_,_,_,_,h9⟩:=HT.rul;exact h9
 clear U aJ bB a2 b7 Y rq aV bI b4 b8;go_wp21;rw[ku bV];refine aZ.mono ?_;rintro e w3 ⟨lv,rfl,s,aL⟩;have dB:=aL.size;have bL:=oz (show OwnIn 0 w3 lv (kq4 t t.l) from qJ);have bX:=HC.below aL;have⟨cF,O,_⟩:=s;obtain⟨la,lc,rfl,_⟩:=qp O;have⟨bN,bM⟩:=jS (λx (l:x∈kq4 t t.l)=>D.insts x<|jU l) (λx (l:x∈kq4 t t.q)=>D.insts x<|jP l);generalize kq4 t t.l=J at *;generalize b5:kq4 t t.q=N at *;have cA:=oz b5;clear b5;clear O aL aZ HC v0 v1 v2 v3 v4 g0 g1 g2 g3 g4 cX;go_wp21;go_loopw [7,8,9] (λi _ _ wr=>∃(k:Nat)(en z:List ByteArray)(ea:Option Addr)(ec:Nat)(wa:Option Addr)(wc:Nat),k<=J.length/\i=i_ k/\lkR t S (J.drop k) en z=some (EN,WR)/\Vc w V tt en z [] (.slice ea en.length ec) (.slice wa z.length wc) nS wr/\OwnIn 0 wr (.slice la J.length lc) J) (λi _ _ _=>J.length-(intOf i).toNat);exact⟨0,[],[],none,0,none,0,jG,rfl,b3,bX,bL⟩;obtain⟨P,rfl⟩:=cpy wr;obtain⟨k,en,z,ea,ec,wa,wc,hk,rfl,d,y,s⟩:=hrel;have hb:=y.be;have bD:=hb.size;have aK:=wQ y.vw.1;have a4:=zxq _ _ _ _ _ _ d;dsimp only at a4;by_cases I:k<J.length
 case pos=>
  have⟨g,yc,vp,vg,vb,aa,ac,ey,F,⟨e0,e1,e2,e3,e4,e5,e6,e7⟩,aA⟩:=s.get I;injection ey with aG aH aI;subst aG;clear aH aI;rw[rU I,lkR]at d;have⟨q,hq,d⟩:=wu.1 d;have HF:=oz<|bO P hb J[k] _ aA (bN _<|wZ I) q hq;rw[JQ]at a4;have⟨f,L⟩:=jS d s;generalize J[k]=x at *;have⟨q1,q2⟩:=q;clear d hb s aA hq;go_wp21
  refine HF.mono ?_;rintro e w5 ⟨yv,d3,rfl,_,A⟩;have cP:=A.size;have v:=y.below A;have⟨v0,v1,v2,v3,v4,g0,g1,g2,g3,g4⟩:=jl v.vw.1;have cG:=(A.cell (p:=⟨g,k*8+7,none⟩) F).trans e7;have cK:g<w5.heap.size:=aj;have cJ:V<w5.heap.size:=aj;have⟨M,E⟩:=jS v.vw.1 (L.below A);clear A HF e0 e1 e2 e3 e4 e5 e6 e7 L;dsimp only;cases h1:(q1==1)
  case false=>
   cases Z:(q1==2)
   case false=>
    have C:=oz (show lkR t S (J.drop<|k+1) en z=some (EN,WR) from by have:=ku f;rw[h1,Z]at this;exact this);clear f;go_wp2;exact rdM ⟨k+1,en,z,ea,ec,wa,wc,aj,eu,C,v,E⟩
   case true=>
    have C:=oz (show lkR t S (J.drop<|k+1) en (z++[riT x])=some (EN,WR) from by have:=ku f;rw[h1,Z]at this;exact this);clear f;have G:=v.vw.2.b;have a5:(.slice wa z.length wc:Value).ownBlock≠some V:=(not_row G M ak).symm;go_upto_region 11 with fail
    go_region_law ((refine apL ((G.alloc _).drew) (Xk w5 _) ?_;intro gg cap w6 u j H aR;have r6:=jl<|(j.block V ah<|Ne.symm a5).trans (zy M)))
    all_goals
     have⟨_,K,k6⟩:=(v.below bR.drew).xy0 j u<|xvk H;have B:=oz<|(E.below bR.drew).tk k6;clear u j H k6;go_wp2
     exact rdM ⟨k+1,en,z++[riT x],ea,ec,some (Ad gg 0),cap,aj,eu,C,qU,B⟩
  case true=>
   have C:=oz (show lkR t S (J.drop<|k+1) (en++[riT x]) z=some (EN,WR) from qX);clear f;have G:=v.vw.2.a;have a5:(.slice ea en.length ec:Value).ownBlock≠some V:=(not_row G M ak).symm;go_upto_region 9 with fail
   go_region_law ((refine apL ((G.alloc _).drew) (Xk w5 _) ?_;intro gg cap w6 u j H aR;have r6:=jl<|(j.block V ah<|Ne.symm a5).trans (zy M)))
   all_goals
    have⟨_,K,k6⟩:=(v.below bR.drew).app1 j u<|xvk H;have B:=oz<|(E.below bR.drew).tk k6;clear u j H k6;go_wp2
    exact rdM ⟨k+1,en++[riT x],z,some (Ad gg 0),cap,wa,wc,aj,eu,C,qU,B⟩
 case neg=>
  have a3:k=J.length:=aj;rw[a3,sK,lkR]at d;injection d with d;injection d with bT bU;subst bT;subst bU;have⟨na,nc,cT,nq,aU,bH,b8⟩:=(HT.below hb).nev;have aD:=oz (aE P hb t.q na nc cT aU bH (λx l=>D.pars x<|jP l) cO);rw[ku cA]at aD;clear hb s aU bH a3 a4;go_wp21
  refine aD.mono ?_;rintro e w6 ⟨ln,rfl,s,aM⟩;have dC:=aM.size;have B:=oz (show OwnIn 0 w6 ln N from qJ);have K:=y.below aM;have⟨cF,O,_⟩:=s;obtain⟨cR,cS,rfl,_⟩:=qp O;clear O aM aD y nq aK I;go_wp21;go_loopw [11,12,13] (λi _ _ wr=>∃(k:Nat)(Q:List ByteArray)(xa:Option Addr)(xc:Nat),k<=N.length/\i=i_ k/\lbR t S (N.drop k) Q=some BR/\Vc w V tt en z Q (.slice ea en.length ec) (.slice wa z.length wc) (.slice xa Q.length xc) wr/\OwnIn 0 wr (.slice cR N.length cS) N) (λi _ _ _=>N.length-(intOf i).toNat);exact⟨0,[],none,0,jG,rfl,b2,K,B⟩;obtain⟨P,rfl⟩:=cpy wr;obtain⟨k,Q,xa,xc,hk,rfl,d,y,s⟩:=hrel;have hb:=y.be;have bD:=hb.size;have aK:=wQ y.vw.1;have a4:=zyq _ _ _ _ _ d;by_cases I:k<N.length
  case pos=>
   have⟨g,yc,vp,vg,vb,aa,ac,ey,F,⟨e0,e1,e2,e3,e4,e5,e6,e7⟩,aA⟩:=s.get I;injection ey with aG aH aI;subst aG;clear aH aI;rw[rU I,lbR]at d;have⟨⟨c1,c2⟩,hq,d⟩:=wu.1 d;rw[JQ]at a4;have aS:=(ku bM) _<|wZ I;have⟨f,L⟩:=jS d s;generalize N[k]=x at *;obtain⟨_,_,_,_,_,m,⟨pa,pc,ga,ba,bc,ps,rfl,rfl,rfl,h1,Z,h3,h4⟩,h5⟩:=aA;injection m with _ m;injection m with _ m;injection m with _ m;injection m with q3 m;injection m with q4 m;injection m with q5 m;injection m with q6 m;subst q3;subst q4;subst q5;injection q6 with cU cV cW;subst cU;subst cW;clear cV m;obtain⟨R,rfl⟩:∃R,ga=some (Ad R 0):=by
    cases F:x.r.guard with
    |nil=>have:=aS.guard;rw[F]at this;cases this
    |node _ _ _ _ _=>rw[F]at Z;have⟨R,_,_,e,_⟩:=Z;injection e with e;exact⟨R,e⟩
   have⟨bZ,HG,HQ,a1,bK⟩:=jz (λ(xa:Option Addr)(xn xc:Nat)=>(⟨HT.below hb,D.ok,h1,aS.pars,h5,aS.xy⟩:Cx P T t x.r.u x.ms ⟨x.r.y,pa,x.r.u.length,pc,some (Ad R 0),ba,ps.length,bc,aa,x.ms.length,ac,xa,xn,xc⟩)) Z hq (λ(wx:World)(l:oq P wx)=>show Ce wx g (k*8) (.string x.r.y.t)/\Ce wx g (k*8+1) (.string x.r.y.x)/\Ce wx g (k*8+2) (i_ x.r.y.v)/\Ce wx g (k*8+3) (.slice pa x.r.u.length pc)/\Ce wx g (k*8+4) (pT R)/\Ce wx g (k*8+5) (.slice ba ps.length bc)/\Ce wx g (k*8+6) (.slice aa x.ms.length ac) from⟨(l.cell (p:=⟨g,k*8,none⟩) F).trans e0,(l.cell (p:=⟨g,k*8+1,none⟩) F).trans e1,(l.cell (p:=⟨g,k*8+2,none⟩) F).trans e2,(l.cell (p:=⟨g,k*8+3,none⟩) F).trans e3,(l.cell (p:=⟨g,k*8+4,none⟩) F).trans e4,(l.cell (p:=⟨g,k*8+5,none⟩) F).trans e5,(l.cell (p:=⟨g,k*8+6,none⟩) F).trans e6⟩) (λ(wx:World)(l:oq P wx)=>bY wx<|hb.trans (l.mono bD));clear d hb s h1 Z h3 h4 h5 hq e0 e1 e2 e3 e4 e5 e6;go_upto_region 16 with fail
   go_region_held3 (λw'=>w'.cell? (Ad g (k*8))=some (.string x.r.y.t)/\w'.cell? (Ad g (k*8+1))=some (.string x.r.y.x)/\w'.cell? (Ad g (k*8+2))=some (i_ x.r.y.v)/\w'.cell? (Ad g (k*8+3))=some (.slice pa x.r.u.length pc)/\w'.cell? (Ad g (k*8+4))=some (pT R)/\w'.cell? (Ad g (k*8+5))=some (.slice ba ps.length bc)/\Ce w' g (k*8+6) (.slice aa x.ms.length ac)) (first|exact a1 _ bR|exact a1 _ bR.drew|exact a1 _ a0|exact a1 _ (a0.alloc aT _))
    (first|(go_at_call 123;refine(bK _ bR.drew).mono ?_;rintro e w8 ⟨x2,cH,rfl,a7,bC⟩;have a0:=oz<|(Below.refl P.heap.size P).drew.trans bC;have aT:=a0.size;have aF:=oz a7;have⟨aW,aX,ex,_⟩:=qp a7.out;subst ex;clear a7 bC;dsimp only))
   have⟨bJ,aB⟩:=cpy<|w8.alloc (.cells #[pT T,.string x.r.y.t,.string x.r.y.x,i_ x.r.y.v,.slice pa x.r.u.length pc,pT R,.slice ba ps.length bc,.slice aa x.ms.length ac,.slice aW S.length aX,.bool false] 251);have a6:oq w8 bJ:=by rw[aB];exact jZ _
   have bG:Wk P T w8.heap.size ⟨x.r.y,pa,x.r.u.length,pc,some (Ad R 0),ba,ps.length,bc,aa,x.ms.length,ac,aW,S.length,aX⟩ cH bJ S false:=
    ⟨a0.trans<|a6.mono aT,aT,by rw[aB];exact qy,(aF.mono<|jV).below a6⟩
   have j4:=(a1 w8 a0).2.2.2.2.1;have d9:g<w8.heap.size:=aj;have⟨aY,bW⟩:=jS (kyg x.r.guard 0 R (bZ aW S.length aX) bG HG _ HQ) aB.symm;clear bG a6 aB aF;go_wp21;rw[ku bW];refine zM aY λw5 h5=>?_;rw[QX]at h5;have A:=h5.D;have cP:=A.size;have⟨⟨_,_,_,_,_,_,_,_,_,b9⟩,_⟩:=kju h5.e;have v:=y.below A;have⟨v0,v1,v2,v3,v4,g0,g1,g2,g3,g4⟩:=jl v.vw.1;have cG:=(A.cell (p:=⟨g,k*8+7,none⟩) F).trans e7;have cK:g<w5.heap.size:=aj;have cJ:V<w5.heap.size:=aj;have⟨M,E⟩:=jS v.vw.1 (L.below A);clear A h5 aY e7 L j4;dsimp only;cases h1:(c1==1);all_goals cases c2
   case false.false=>
    have C:=oz (show lbR t S (N.drop<|k+1) Q=some BR from qX);clear f;go_wp2;exact rdM ⟨k+1,Q,xa,xc,aj,eu,C,v,E⟩
   all_goals
    have C:=oz (show lbR t S (N.drop<|k+1) (Q++[riT x])=some BR from qX);clear f;have G:=v.vw.2.c;have a5:(.slice xa Q.length xc:Value).ownBlock≠some V:=(not_row G M ak).symm;go_upto_region 19 with fail
    go_region_law ((refine apL ((G.alloc _).drew) (Xk w5 _) ?_;intro gg cap w6 u j H aR;have r6:=jl<|(j.block V ah<|Ne.symm a5).trans (zy M)))
    all_goals
     have⟨_,K,k6⟩:=(v.below bR.drew).xwi j u<|xvk H;have B:=oz<|(E.below bR.drew).tk k6;clear u j H k6;go_wp2
     exact rdM ⟨k+1,Q++[riT x],some (Ad gg 0),cap,aj,eu,C,qU,B⟩
  case neg=>
   have a3:k=N.length:=aj;rw[a3,sK,lbR]at d;injection d with d;subst d;clear a3 s;have v0:=jl y.vw.1;have⟨HE,a8⟩:=jS (y.fin _ rfl) (show kx2 ⟨tt,en,z,Q⟩=((en.length==0)&&(z.length==0)) from rfl);have r0:=jl y.rr;have d8:V≠w.heap.size:=aj;have d6:=wQ y.rr;have cL:((en.length:Int)==0)=(en.length==0):=by cases en<;>simp<;>omega
   have cM:((z.length:Int)==0)=(z.length==0):=by cases z<;>simp<;>omega
   cases aN:(en.length==0);all_goals cases aO:(z.length==0)
   all_goals
    rw[aN]at cL;rw[aO]at cM;rw[ku a8,aN,aO]at HE;clear a8 b3 b2 aC aN aO hb;go_wp2;exact kx0 results72 underlying24 HE.1 HE.2
theorem pyg(h:kqc w T t)(s:PlOk t)(k:StA lo w xv S gs)(q:ky4 S)(u:zzj t S=some j2):Calls prog 83 #[pT T,xv] w λe w'=>rT e (.bool<|jxu j2)/\oq w w':=by
 have l:=jv7 h s k q u;go_in;go_wp21;refine l.mono ?_;rintro e A ⟨v,rfl,⟨y,en,ec,wa,C,B,ba,bn,bc,rfl,h1,m,p⟩,g⟩;have⟨_,_,i,_⟩:=qp h1;injection i with _ i _;have⟨_,_,j,_⟩:=qp m;injection j with _ j _;have⟨_,_,e3,_⟩:=qp p;injection e3 with _ e3 _;have f:=show jxu j2=((decide (0<j2.xz.length)||decide (0<j2.xs.length))||kx2 j2) from rfl
 generalize j2.xz.length=a at *;generalize j2.xs.length=b at *;generalize kx2 j2=d at *;by_cases z:0<a
 case' pos=>have f:=show jxu j2=true by simp_all
 case' neg=>
  by_cases x:0<b
  case' pos=>have f:=show jxu j2=true by simp_all
  case' neg=>
   have f:=show jxu j2=d by simp_all
 all_goals
  go_wp2;go_ret;exact⟨um f.symm,g.trans (by first|exact bR|exact(jZ _).mono g.size)⟩
def zv4(t:PTree)(S:List (List Int)):List RIn->List UInt8->Option (Option (List (List Int)))
 |[],_=>some none
 |x::l,s=>if (riT x).toList==s then (zwc t S x).bind λr=>if r.1==1 then some (some r.2) else zv4 t S l s else zv4 t S l s
def qvn(t:PTree):List ByteArray->Nat->List (List Int)->Option vyp
 |[],_,S=>(zzj t S).map λv=>(v,kx2 v,0,0)
 |s::l,i,S=>(zv4 t S (kq4 t t.l) s.toList).bind λq=>match q with|some S'=>qvn t l (i+1) S'|none=>some (noView,false,7,(i:Int))
def lens(S:List (List Int)):List Nat:=S.map List.length
theorem vkq{d:List (List Int)×Bool}(h:vyj t l ms S a=some d):lens d.1=lens S:=by
 unfold vyj at h;split at h
 ·cases h
 ·split at h
  ·cases h
  ·have⟨p,_,h⟩:=wu.1 h;have⟨q,_,h⟩:=wu.1 h;split at h
   ·cases h
   ·have⟨u,_,h⟩:=wu.1 h;split at h
    ·grind
    ·have⟨y,e,h⟩:=wu.1 h;split at h
     ·cases h
     ·injection h with h;rw[<-h];unfold lens;rw[Zf,Jq];have⟨h1,f⟩:=rY.1 e;apply Jm;grind
theorem zxu:∀{b:PB} {S:List (List Int)} {r:List (List Int)×Bool},doR t l ms b S=some r->lens r.1=lens S
 |.nil,S,r,h=>by grind [doR]
 |.node _ _ a .nil n,S,r,h=>by
  rw[doR]at h;have⟨p,d,h⟩:=wu.1 h;split at h
  ·grind [vkq]
  ·exact(zxu h).trans (vkq d)
 |.node _ _ a (.node _ _ _ th el) n,S,r,h=>by
  rw[doR]at h;split at h
  ·cases h
  ·have⟨c,_,h⟩:=wu.1 h;split at h
   ·grind
   ·have⟨p,d,h⟩:=wu.1 h;have e:lens p.1=lens S:=by
     split at d
     ·exact zxu d
     ·exact zxu d
    split at h
    ·simp_all
    ·exact(zxu h).trans e
theorem vqt(h:zwc t S b6=some b7):lens b7.2=lens S:=by
 have⟨c,_,h⟩:=wu.1 h;split at h
 ·grind
 ·split at h
  ·grind
  ·have⟨p,d,h⟩:=wX.1 h;grind [zxu]
theorem ky4.pqg(h:ky4 S)(e:lens ls=lens S):ky4 ls:=by
 have f:ls.length=S.length:=by have:=congrArg List.length e;simpa[lens] using this
 refine⟨by rw[f];exact h.1,λy g=>?_⟩;have:y.length∈lens ls:=Qx g;rw[e]at this;have⟨z,i,d⟩:=tY.1 this;rw[<-d];exact h.2 z i
theorem pxq(h:kqc w T t)(m:PlOk t){j6:List ByteArray}(pn pc:Nat)(hn:j6.length=pn)(a7:jzh w pa j6)(cB:j6.length<=1000000)(Q:kkb t t.z ls){j7:vyp}(hr:qvn t j6 0 ls=some j7):Calls prog 37 #[pT T,.slice pa pn pc] w λe w'=>qyv w j7 e w':=by
 subst hn;have bL:=qjp (t:=t) (rs:=t.l) (λx F=>m.pars x<|jU F);have bQ:=m.l;have b3:ky4 ls:=by refine⟨by rw[Q.T];have:=m.ok.z;omega,λy hy=>?_⟩;obtain⟨k,hk,rfl⟩:=wG hy;have⟨n,hn,e⟩:=Q.get k (by rw[<-Q.T];exact hk);rw[wW hk]at e;injection e with e;rw[e,Qh];have:=hn.bd;omega
 have⟨W,hW⟩:=cpy<|w.alloc (.cells #[e_,nS,nS,nS,.bool false] 24);have a9:oq w W:=jM;have aH:w.heap.size<W.heap.size:=by simp_all
 have HR:Hid (Rw W w.heap.size #[e_,nS,nS,nS,.bool false] 24):=kK;have aM:=jk1 (h.below a9) m.ok m.fit Q;have X:=λ(wx:World) (F:oq w wx) (a:Option Addr) (c:Nat) (ys:List Value) (h1:wx.ownsRow (T+1) 147 6 (.slice a t.l.length c) t.l.length ys) (h2:dw (T+1) wx t.l ys)=>jjc (h.below F) m.ok h1 h2 (λx F=>m.pars x<|jU F) bQ
 have aN:=λ(wx:World) (F:oq w wx) (xv:Value) (S:List (List Int)) (gs:List (Nat×Nat)) (E:StA 0 wx xv S gs) (hS:ky4 S) (x:RIn) (c:List Value) (hi:zwa wx x c) (hk:RiOk x) (q:Int×List (List Int)) (hq:zwc t S x=some q)=>jjd (h.below F) m.ok m.tops E hS hi hk hq
 have aO:=λ(wx:World) (F:oq w wx) (xv:Value) (S:List (List Int)) (gs:List (Nat×Nat)) (E:StA 0 wx xv S gs) (hS:ky4 S) (v:MView) (hv:zzj t S=some v)=>jv7 (h.below F) m E hS hv
 have aZ:=show ∀(wx:World),oq w wx->Rw wx w.heap.size #[e_,nS,nS,nS,.bool false] 24->∀(x y:Int),qyv w (noView,false,x,y) (.returned<|.tuple #[.agg #[e_,nS,nS,nS,.bool false],i_ x,i_ y]) (((((wx.setCell (Ad w.heap.size 0)<|e_).setCell (Ad w.heap.size 1)<|nS).setCell (Ad w.heap.size 2)<|nS).setCell (Ad w.heap.size 3)<|nS).setCell (Ad w.heap.size 4)<|.bool false) from λwx J H x y=>
  ⟨none,0,0,none,0,0,none,0,0,rfl,Vw3.no,qq6 J⟩
 have⟨bB,a6,aX⟩:=jF hW.symm a7 hr;have Z:=λx (F:x∈kq4 t t.l)=>m.insts x<|jU F
 have aA:=show ∀(s:ByteArray) (l:List ByteArray) (i:Nat) (S:List (List Int)),qvn t (s::l) i S=(zv4 t S (kq4 t t.l) s.toList).bind λq=>match q with|some S'=>qvn t l (i+1) S'|none=>some (noView,false,7,(i:Int)) from λ_ _ _ _=>rfl
 generalize bX:kq4 t t.l=D at X Z aA bL;go_in;go_wp21;rw[bB];refine aM.mono ?_;rintro e w1 ⟨x1,G,rfl,a4,aD⟩;obtain⟨cC,cD,rfl,_⟩:=qp a4.out;have O:=a9.trans<|aD.mono (Qr aH);have⟨ra,rc,bT,rq,aR,bS,bY⟩:=(h.below O).rul;have aV:=X w1 O ra rc bT aR bS;have a2:=(aD.block w.heap.size aH).trans HR;have b6:=a4.mono<|jG;go_wp21
 refine aV.mono ?_;rintro e w2 ⟨lv,rfl,R,a3⟩;have aK:=show OwnIn 0 w2 lv D by have⟨cs,q1,q2⟩:=R;exact⟨cs,qo jG q1,q2⟩
 have⟨bV,aQ,_⟩:=R;obtain⟨la,lc,rfl,_⟩:=qp aQ;have aS:=O.trans<|a3.mono O.size;have b4:=(a3.block w.heap.size<|wQ a2).trans a2;have b7:=b6.below a3;clear a2 rq;go_wp21
 go_loopw [7,9,10,11,12,13] (λx i _ _ _ _ wr=>∃(k:Nat) (S:List (List Int)) (gs:List (Nat×Nat)),k<=j6.length/\i=i_ k/\StA 0 wr x S gs/\ky4 S/\qvn t (j6.drop k) k S=some j7/\oq w wr/\Rw wr w.heap.size #[e_,nS,nS,nS,.bool false] 24/\OwnIn 0 wr (.slice la D.length lc) D) (λ_ i _ _ _ _ _=>j6.length-(intOf i).toNat);exact⟨0,ls,G,jG,rfl,b7,b3,aX,aS,b4,aK⟩;obtain⟨wo,rfl⟩:=cpy wr;obtain⟨k,S,gs,hk,rfl,E,aB,f,J,H,R⟩:=hrel;obtain⟨sa,sc,rfl,_⟩:=qp E.out;have a5:=J.size;have aC:=wQ H;by_cases aG:k<j6.length
 case neg=>
  have aF:k=j6.length:=aj;rw[aF,sK,qvn]at f;have⟨v,hv,f⟩:=wX.1 f;subst f;have aY:=aO wo J _ S gs E aB v hv;have a1:=oz H;clear H hv aF;go_wp21;refine aY.mono ?_;rintro e w5 ⟨x5,rfl,⟨ea,en,ec,wa,wn,wc,ba,bn,bc,rfl,m⟩,I⟩;have aP:=J.trans<|I.mono a5;have a0:=(I.block w.heap.size aC).trans a1;have r0:=jl a0;have K:=pq5 a0 (bad:=[24]) ak (.string v.x) (.slice ea en ec) (.slice wa wn wc) (.slice ba bn bc)<|.bool (kx2 v);have HE:=show qyv w (v,kx2 v,0,0) (.returned<|.tuple #[.agg #[.string v.x,.slice ea en ec,.slice wa wn wc,.slice ba bn bc,.bool (kx2 v)],i_ 0,i_ 0]) _ from⟨ea,en,ec,wa,wn,wc,ba,bn,bc,rfl,m.tk K a5,qq6 aP⟩
  go_wp2;exact tK (v:=.tuple #[.agg #[.string v.x,.slice ea en ec,.slice wa wn wc,.slice ba bn bc,.bool (kx2 v)],i_ 0,i_ 0]) (kqn results37 _ _ w.heap.size _ _ _ _ rfl (kxy a0) underlying24 rfl au) rfl HE
 case pos=>
 obtain⟨g,o,rfl,bM,hc⟩:=a6 k aG;have e0:Ce wo g (o+k) (.string j6[k]):=(J.cell (p:=⟨g,o+k,none⟩) bM).trans hc;rw[rU aG,aA]at f;obtain⟨fin,(aJ:Hid _),f⟩:=wu.1 f;have bN:g<wo.heap.size:=aj;have⟨bU,a1,aW,b9⟩:=jE f H R E;generalize j6[k]=s at *;clear hc f H;go_wp21;go_loopw [7,10,11,12,13] (λx d i _ _ N=>∃(j:Nat) (dn:Bool) (M:List (List Int)) (G:List (Nat×Nat)),j<=D.length/\i=i_ j/\d=.bool dn/\StA 0 N x M G/\ky4 M/\(if dn then fin=some M else x=.slice sa S.length sc/\M=S/\G=gs/\zv4 t S (D.drop j) s.toList=some fin)/\oq wo N) (λ_ _ i _ _ _=>D.length-(intOf i).toNat);exact⟨0,false,S,gs,jG,rfl,rfl,b9,aB,⟨rfl,rfl,rfl,aJ⟩,bR⟩;obtain⟨N,rfl⟩:=cpy wr;obtain⟨j,dn,M,G,hj,rfl,rfl,C,B,u,z⟩:=hrel;have cA:=z.size;have⟨xs,cE,ex,_⟩:=qp C.out;subst ex;have L:=J.trans<|z.mono a5;have P:=(z.block w.heap.size aC).trans a1;have Y:=aW.below z;have bC:=(z.cell (p:=⟨g,o+k,none⟩) bN).trans e0;cases dn
 case true=>
  simp only[Xw]at u;have b5:=show qvn t (j6.drop<|k+1) (k+1) M=some j7 by simp_all
  clear u;by_cases U:j<D.length
  all_goals
   go_wp2;exact rdM ⟨k+1,M,G,aj,eu,C,B,b5,L,P,Y⟩
 case false=>
 simp only[ru,Xv]at u;obtain⟨ex,rfl,rfl,A⟩:=u;injection ex with bD bF bG;subst bD;subst bG;clear bF;by_cases U:j<D.length
 case neg=>
  have aE:j=D.length:=aj;rw[aE,sK,zv4]at A;injection A with A;subst A;have hE:j7=(noView,false,7,(k:Int)):=by simp_all
  subst hE;have HE:=aZ N L P 7 k;have r0:=jl P;clear aE;go_wp2;exact tK (v:=.tuple #[.agg #[e_,nS,nS,nS,.bool false],i_ 7,i_ k]) (kqn results37 _ _ w.heap.size _ _ _ _ rfl (kxy P) underlying24 rfl au) rfl HE
 case pos=>
 have⟨gl,yc,vp,vg,vb,aa,ac,ey,bZ,⟨bW,e1,e2,e3,e4,e5,e6,e7⟩,bO⟩:=Y.get U;injection ey with bH bI bJ;subst bH;clear bI bJ;rw[rU U,zv4]at A;have bP:=Z _<|wZ U;generalize D[j]=x at *;go_upto_region 10 with fail
 go_region_held3 (λw'=>w'.cell? (Ad gl (j*8+7))=some (.string<|riT x)/\w'.cell? (Ad g (o+k))=some (.string s)) (exact⟨e7,bC⟩) (fail)
 cases aI:((riT x).toList==s.toList)
 case false=>
  rw[aI,Xy ay]at A;have bA:=C.below bR.drew;have aT:=z.drew;go_wp2;exact rdM ⟨j+1,false,_,_,aj,eu,rfl,bA,B,⟨rfl,rfl,rfl,A⟩,aT⟩
 case true=>
 rw[aI,lJ rfl]at A;have⟨⟨q1,q2⟩,hq,A⟩:=wu.1 A;have b2:=vqt hq;have aU:=aN N.drew (L.drew) _ _ _ (C.below bR.drew) B x _ (bO.below bR.drew) bP _ hq;clear hq;go_wp21;refine aU.mono ?_;rintro e w5 ⟨yv,bK,rfl,aL,I⟩;have a8:=z.drew.trans (I.mono<|by simp_all);have b8:=C.below<|(Below.refl N.heap.size N).drew.trans I;dsimp only;cases h1:(q1==1)
 case false=>
  have V:=show zv4 t _ (D.drop<|j+1) s.toList=some fin by have:=A;rw[h1]at this;exact this
  go_wp2;exact rdM ⟨j+1,false,_,_,aj,eu,rfl,b8,B,⟨rfl,rfl,rfl,V⟩,a8⟩
 case true=>
  have V:=show fin=some q2 by simp_all
  go_wp2;exact rdM ⟨j+1,true,q2,bK,aj,eu,rfl,aL,B.pqg b2,V,a8⟩
end Go.Proofs.YtpmcnonmkghokaaGreatDoor

import Derived.Test.YtpmcnonmkghokaaGreatDoorT18
import Derived.Test.YtpmcnonmkghokaaGreatDoorT04
import Derived.Test.YtpmcnonmkghokaaGreatDoorT20
set_option maxRecDepth 100000
set_option maxHeartbeats 8000000
set_option linter.unusedVariables false
set_option linter.unusedSimpArgs false
namespace Go.Proofs.YtpmcnonmkghokaaGreatDoor
open Go.Proofs.Tryz
open Go.RowKit
attribute [local go_sem ↓] Go.wp_at_zero Go.wp_at_succ
variable {c cs xs:List Value}{B b bc bn j k lo n n0 n1 o pc:Nat}{ba ga pa:Option Addr}{r:PRule}{t:PTree}{v vb vg vp:Value}{w wa wb:World}
def qxt (xs:List ByteArray):ByteArray:=⟨(Go.Lib.join (xs.map (·.data.toList)) [44]).toArray⟩
theorem vzd (w:World)(lo:Nat)(xs:List ByteArray)(l:Option Addr)(m f:Nat)(k:w.ownsRow lo 9 1 (.slice l m f) xs.length (xs.map Value.string))(hn:xs.length<=1000000)(y:(Go.Lib.join (xs.map (·.data.toList)) [44]).length<=1000000):
  qJ 221 #[.slice l m f,.string ⟨#[44]⟩] w λe w'=>e=.returned (.string (qxt xs))/\pU w w':=by
 rcases k.2 with⟨a,i⟩|⟨g,cap,s,a,i,p,q,t,u,v⟩
 ·injection a with a c b;subst a;subst c;subst b;have d:xs=[]:=Jk i;subst d;refine(Tryz.strings_Join_none none 0 ⟨#[44]⟩ w).mono ?_;rintro e w' ⟨rfl,rfl⟩;exact⟨rfl,Below.refl _ _⟩
 ·injection a with a c b;subst a;subst c;subst b;refine(Tryz.strings_Join g 0 f xs ⟨#[44]⟩ w ?_ (wu p) aj q (by show(Go.Lib.join (xs.map (·.data.toList)) [44]).length<=_;omega)).mono ?_
  ·intro j x d;have:=k.cells (g:=g) rfl j (.string x) (by simp[d]);rw[show((⟨g,0,none⟩:Addr).add j)=⟨g,j,none⟩ from lC]at this;rw[QU];exact this
  ·rintro e w' ⟨rfl,hb⟩;exact⟨rfl,hb⟩
def kkt (n:ByteArray)(ms:List Int):ByteArray:=((n++⟨#[40]⟩)++qxt (ms.map λi=>kw9 i.toNat))++⟨#[41]⟩
def qwq (ms:List Int):Bool:=ms.all (λi=>decide (0<=i)&&decide (i<=9))&&decide (ms.length<=1000)&&decide ((Go.Lib.join ((ms.map λi=>kw9 i.toNat).map (·.data.toList)) [44]).length<=1000000)
theorem jwi {ms:List Int}(h:qwq ms=true):(∀i∈ms,0<=i/\i<=9)/\ms.length<=1000/\(Go.Lib.join ((ms.map λi=>kw9 i.toNat).map (·.data.toList)) [44]).length<=1000000:=by
 unfold qwq at h;rw[wW,wW]at h;refine⟨λi hi=>?_,of_decide_eq_true h.1.2,of_decide_eq_true h.2⟩;have:=sG.1 h.1.1 i hi;rw[wW]at this;exact⟨of_decide_eq_true this.1,of_decide_eq_true this.2⟩
theorem zjk (w:World)(lo:Nat)(n:Tok)(ms:List Int)(X:Option Addr)(Y mc:Nat)(hM:w.ownsRow lo 3 1 (.slice X Y mc) ms.length (ms.map (Value.int .i64)))(C:qwq ms=true)(a6:n.text.size<=1000):
  qJ 172 #[.agg #[.string n.text,.int .i64 n.at_],.slice X Y mc] w λe w'=>e=.returned (.string (kkt n.text ms))/\pU w w':=by
 obtain⟨q,hl,B⟩:=jwi C;obtain⟨W,j⟩:∃W,W=w.alloc (.cells #[.string n.text,.int .i64 n.at_] 107):=⟨_,rfl⟩;have m:pU w W:=by rw[j];exact below_alloc1 w _
 have D:w.heap.size<W.heap.size:=by rw[j];simp
 have hN:W.heap[w.heap.size]?=some (.cells #[.string n.text,.int .i64 n.at_] 107 (0,0)):=by rw[j];exact qg _ _
 obtain⟨xa,cap,H,h⟩:=ql (qj hM m);injection H with H e2 e3;subst H;subst e2;subst e3;have HW:=pG h;have E:=pG q;have A:=pG B;have HN:=pG hN;have L:=pG m;have O:=pG j.symm;clear h hM m j q C hN B;go_enter func172,ntmps172
 go_wp2_with fail
 rw[ku O];go_loopw [5,7,10] (λx _ i wr=>∃(k:Nat) (u:Option Addr) (y v:Nat),k<=ms.length/\i=.int .i64 k/\x=.slice u y v/\wr.ownsRow W.heap.size 9 1 (.slice u y v) k (((ms.take k).map λi=>kw9 i.toNat).map Value.string)/\pU W wr) (λ_ _ i _=>ms.length-(intOf i).toNat)
 case atStart=>exact⟨0,none,0,0,rW _,rfl,rfl,wB _ _ _ _,Below.refl _ _⟩
 case round=>
  obtain⟨k,u,y,v,hk,rfl,rfl,s,hb⟩:=hrel;have F:=pG s;have I:=pG hb;have T:=hb.size;by_cases f:k<ms.length
  ·obtain⟨g,rfl,a4,S,R⟩:=ku HW k f;have e0:wr.cell? ⟨g,k,none⟩=some (.int .i64 ms[k]):=by
    rw[hb.cell (p:=⟨g,k,none⟩) S,R k aj,QV,tY f];rfl
   obtain⟨d0,d9⟩:=(ku E) ms[k] (wX f);have z:=pG (qqc ms[k].toNat aj wr);rw[Z5 d0]at z;have t:=pG (show((ms.take (k+1)).map λi=>kw9 i.toNat).map Value.string=((ms.take k).map λi=>kw9 i.toNat).map Value.string++[.string (kw9 ms[k].toNat)] by rw[Qx f,Qv,Qv];rfl);generalize kw9 ms[k].toNat=dk at *;generalize ms[k]=x at *;clear R s hb;go_wp2_with fail
   refine(ku z).mono ?_;rintro e w2 ⟨rfl,rfl⟩;go_wp2_with (at_builtin;refine apO ((ku F).alloc _) ?_)
   intro v' w' a c _ Q;obtain⟨P,V,c3,rfl⟩:=zq a;have N:=pG (show w'.ownsRow W.heap.size 9 1 (.slice P V c3) (k+1) (((ms.take (k+1)).map λi=>kw9 i.toNat).map Value.string) by rw[ku t,Q7,List.map_take];exact a);have J:=pG (((ku I).alloc T _).grown c ay (xg (ku F)));clear a c Q;go_wp2
   go_roundw
   case rel=>exact⟨k+1,P,V,c3,aj,eu,rfl,ku N,ku J⟩
   case measure=>exact qQ
  ·have:k=ms.length:=by omega
   subst this;rw[QM]at s;have Z:=pG (vzd wr.drew W.heap.size (ms.map λi=>kw9 i.toNat) u y v (by rw[Qe];exact s) (by rw[Qe];omega) (ku A));have b:=(hb.block w.heap.size D).trans (ku HN);obtain⟨q0,q1,_,_⟩:=kj0 b;have G:=pG b;clear s hb F b;have d:kkt n.text ms=((n.text++⟨#[40]⟩)++qxt (ms.map λi=>kw9 i.toNat))++⟨#[41]⟩:=rfl;have M:=pG d;have a5:(qxt (ms.map λi=>kw9 i.toNat)).size<=1000000:=by have:=ku A;simpa[qxt,ByteArray.size] using this
   generalize qxt (ms.map λi=>kw9 i.toNat)=U at *;have a0:¬(9223372036854775807<n.text.size+1):=aj;have a1:¬(9223372036854775807<n.text.size+1+U.size):=aj;have a2:¬(9223372036854775807<n.text.size+1+U.size+1):=aj;clear d;go_upto_region 7 with fail
   go_region_held3 (λw'=>w'.cell? ⟨w.heap.size,0,none⟩=some (.string n.text)) (first|exact q0|exact u0)
    ((go_at_call 221;refine(ku Z).mono ?_;rintro e w1 ⟨rfl,l⟩;obtain⟨u0,u1,_⟩:=kj0 ((l.block w.heap.size (by show w.heap.size<wr.heap.size;omega)).trans (ku G));have K:=pG ((ku L).trans (((ku I).drew.trans (l.mono (by show W.heap.size<=wr.heap.size;omega))).mono (Qs D)));clear l;dsimp only))
   go_wp2
   go_ret
   rw[ku M];exact⟨rfl,ku K⟩
end Go.Proofs.YtpmcnonmkghokaaGreatDoor
namespace Go.Proofs.YtpmcnonmkghokaaGreatDoor
open Go.Proofs.Tryz
open Go.RowKit
variable {c cs xs:List Value}{B b bc bn j k lo n n0 n1 o pc:Nat}{ba ga pa:Option Addr}{r:PRule}{t:PTree}{v vb vg vp:Value}{w wa wb:World}
variable {w w':World}
def jz4 (w:World)(r:PRule)(vp vg vb:Value):Prop:=
 ∃pa pc ga ba bc ps,vp=.slice pa r.params.length pc/\vg=.pointer ga/\vb=.slice ba ps.length bc/\w.ownsRow 0 236 6 vp r.params.length (kjh r.params)/\yj 0 w r.guard vg/\w.ownsRow 0 245 1 vb ps.length ps/\jm 0 none w r.body ps
theorem jz4.below (h:jz4 w r vp vg vb)(hb:pU w w'):jz4 w' r vp vg vb:=by
 obtain⟨pa,pc,ga,ba,bc,ps,a,b,c,h1,d,e,f⟩:=h;exact⟨pa,pc,ga,ba,bc,ps,a,b,c,qj h1 hb,d.below hb,qj e hb,f.below hb⟩
structure RIn where
 r:PRule
 ms:List Int
variable {L:List RIn}{x:RIn}
def riT (x:RIn):ByteArray:=kkt x.r.name.text x.ms
def zx0 (w:World)(x:RIn)(c:List Value):Prop:=
 ∃vp vg vb aa ac,c=[.string x.r.name.kind,.string x.r.name.text,.int .i64 x.r.name.at_,vp,vg,vb,.slice aa x.ms.length ac,.string (riT x)]/\jz4 w x.r vp vg vb/\w.ownsRow 0 3 1 (.slice aa x.ms.length ac) x.ms.length (x.ms.map (Value.int .i64))
theorem zx0.below (h:zx0 w x c)(hb:pU w w'):zx0 w' x c:=by
 obtain⟨vp,vg,vb,aa,ac,e,h1,a⟩:=h;exact⟨vp,vg,vb,aa,ac,e,h1.below hb,qj a hb⟩
def zw6 (w:World)(L:List RIn)(cs:List Value):Prop:=cs.length=L.length*8/\∀k (hk:k<L.length),zx0 w L[k] ((cs.drop (k*8)).take 8)
theorem zw6.below (h:zw6 w L cs)(hb:pU w w'):zw6 w' L cs:=⟨h.1,λk a=>(h.2 k a).below hb⟩
theorem yj.gr (b:w.ownsRow B 159 8 v n xs)(a:w.grownBy w' v.ownBlock){x:PX}{p:Value}(h:yj lo w x p):yj lo w' x p:=h.far b ak a
theorem jz4.gr (b:w.ownsRow B 159 8 v n xs)(a:w.grownBy w' v.ownBlock)   (h:jz4 w r vp vg vb):jz4 w' r vp vg vb:=by
 obtain⟨pa,pc,ga,ba,bc,ps,c,d,e,h1,f,g,i⟩:=h;exact⟨pa,pc,ga,ba,bc,ps,c,d,e,ji h1 b ak a,f.gr b a,ji g b ak a,i.far b ak ak ak a⟩
theorem zx0.gr (b:w.ownsRow B 159 8 v n xs)(a:w.grownBy w' v.ownBlock)   (h:zx0 w x c):zx0 w' x c:=by
 obtain⟨vp,vg,vb,aa,ac,e,h1,d⟩:=h;exact⟨vp,vg,vb,aa,ac,e,h1.gr b a,ji d b ak a⟩
theorem zw6.snoc (e:w.ownsRow B 159 8 v n cs)(b:w.grownBy w' v.ownBlock)   (h:zw6 w L cs)(a:c.length=8)(g:zx0 w x c):zw6 w' (L++[x]) (cs++c):=by
 refine⟨by simp[h.1,a];omega,λk f=>?_⟩;by_cases d:k<L.length
 ·have a:=h.1;rw[Jo aj,Jf ay,QX d];exact(h.2 k d).gr e b
 ·have:k=L.length:=by simp at f;omega
  subst this;rw[<-h.1,Zx,Jw aj];simpa using g.gr e b
def szN (t:PTree)(s:List UInt8):Nat:=(kq8 (t.sets.getD (qh (dh t) s).toNat ⟨zf,zf⟩).size.text).toNat
theorem zw1.eq {s:List UInt8}  (h:zw1 t s n):szN t s=n:=by
 obtain⟨k,b,h1,_,a,_⟩:=h;unfold szN;rw[h1,sJ,getD_at _ _ _ b,a];rfl
def kw7 (t:PTree)(l:List PP)(i:Nat):Nat:=match l[i]? with|some p=>szN t p.set_.text.toList|none=>1
def qzu (r:PRule)(n1:Nat)(a:Nat):List RIn:=(List.range n1).map λ(b:Nat)=>⟨r,([(a:Int),(b:Int)]).take r.params.length⟩
def qzg (t:PTree)(r:PRule):List RIn:=(List.range (kw7 t r.params 0)).flatMap λa=>qzu r (kw7 t r.params 1) a
def kj3 (t:PTree)(rs:List PRule):List RIn:=rs.flatMap (qzg t)
def zjr (t:PTree)(r:PRule):Prop:=r.params.length<=2/\(∀p∈r.params,∃n,zw1 t p.set_.text.toList n)/\r.name.text.size<=800
theorem zjr.bd (h:zjr t r)(i:Nat):1<=kw7 t r.params i/\kw7 t r.params i<=9:=by
 unfold kw7;split
 ·rename_i p b;obtain⟨n,hn⟩:=h.2.1 p (Qp b);rw[hn.eq];obtain⟨_,_,_,_,_,h1,a⟩:=hn;exact⟨h1,a⟩
 ·omega
def jkr (n:ByteArray)(a b:Nat):Nat->ByteArray
 |0=>n++⟨#[40]⟩
 |1=>(n++⟨#[40]⟩)++kw9 a
 |_+2=>(((n++⟨#[40]⟩)++kw9 a)++⟨#[44]⟩)++kw9 b
theorem vvv (n:ByteArray)(a b m:Nat)(g:m<=2):jkr n a b m++⟨#[41]⟩=kkt n (([(a:Int),(b:Int)]).take m):=by
 have d:qxt []=⟨#[]⟩:=rfl;have e:∀x:ByteArray,qxt [x]=x:=λx=>by
  unfold qxt;simp[Go.Lib.join]
 have f:∀x y:ByteArray,qxt [x,y]=(x++⟨#[44]⟩)++y:=λx y=>by
  unfold qxt;apply ByteArray.ext;simp[Go.Lib.join]
 have c:∀x:ByteArray,x++(⟨#[]⟩:ByteArray)=x:=λx=>by apply ByteArray.ext;simp
 unfold kkt;rcases m with _|_|_|m
 ·simp only[jkr,Ze,Zj,d,c]
 ·simp only[jkr,Zr,Ze,Qh,Zj,sJ,e]
 ·simp only[jkr,Zr,Ze,Qh,Zj,sJ,f];simp only[ByteArray.append_assoc]
 ·omega
end Go.Proofs.YtpmcnonmkghokaaGreatDoor
namespace Go.Proofs.YtpmcnonmkghokaaGreatDoor
open Go.Proofs.Tryz
open Go.RowKit
attribute [local go_sem ↓] Go.wp_at_zero Go.wp_at_succ
variable {L:List RIn}{c cs xs:List Value}{B b bc bn j k lo n n0 n1 o pc:Nat}{ba ga pa:Option Addr}{r:PRule}{t:PTree}{x:RIn}{v vb vg vp:Value}{w wa wb:World}
theorem kq3.at_ {rs:List PRule}  (h:kq3 lo w rs xs){i:Nat}(hi:i<rs.length):∃vp vg vb,(xs[i*6]?=some (.string (rs[i]).name.kind)/\xs[i*6+1]?=some (.string (rs[i]).name.text)/\xs[i*6+2]?=some (.int .i64 (rs[i]).name.at_)/\xs[i*6+3]?=some vp/\xs[i*6+4]?=some vg/\xs[i*6+5]?=some vb)/\jz4 w rs[i] vp vg vb:=by
 obtain⟨vp,vg,vb,ps,e,h1,a,b,c⟩:=kvl i hi h;obtain⟨pa,pc,rfl,_⟩:=ql h1;obtain⟨ga,rfl⟩:=a.ptr;obtain⟨ba,bc,rfl,_⟩:=ql b;exact⟨_,_,_,e,pa,pc,ga,ba,bc,ps,rfl,rfl,rfl,zu (rW _) h1,a.mono (rW _),zu (rW _) b,c.mono (rW _)⟩
def OwnIn (B:Nat)(w:World)(y:Value)(L:List RIn):Prop:=∃cs,w.ownsRow B 159 8 y L.length cs/\zw6 w L cs
theorem OwnIn.below {w': World}{y:Value}  (h:OwnIn B w y L)(hb:pU w w'):OwnIn B w' y L:=by
 obtain⟨cs,h1,a⟩:=h;exact⟨cs,qj h1 hb,a.below hb⟩
def nAt (n0 n1 q:Nat):Array Value:=#[.int .i64 (if 0<q then n0 else 1:Nat),.int .i64 (if 1<q then n1 else 1:Nat)]
theorem vyu {l:List PP}(h:l.length<=2):nAt (kw7 t l 0) (kw7 t l 1) l.length=#[.int .i64 (kw7 t l 0),.int .i64 (kw7 t l 1)]:=by
 rcases l with _|⟨p,_|⟨q,_|⟨z,l⟩⟩⟩
 ·rfl
 ·rfl
 ·rfl
 ·simp at h
theorem vv3 (h:j<2):(nAt n0 n1 j).setIfInBounds j (.int .i64 (if j=0 then n0 else n1:Nat))=nAt n0 n1 (j+1):=by
 rcases j with _|_|j
 ·rfl
 ·rfl
 ·omega
theorem jy0 (r:PRule)(n1:Nat):∀q,((List.range q).flatMap λa=>qzu r n1 a).length=q*n1
 |0=>au
 |q+1=>by rw[J5,Qn,wY,jy0 r n1 q,ZU];simp[qzu]
theorem qzp {t:PTree}:∀{rs:List PRule},(∀r∈rs,zjr t r)->(kj3 t rs).length<=81*rs.length
 |[],_=>by simp[kj3]
 |r::rs,h=>by
  have c:=qzp (rs:=rs) (λx b=>h x (rG _ b));have a:=(h r (rV ..)).bd 0;have h1:=(h r (rV ..)).bd 1;have e:(qzg t r).length=kw7 t r.params 0*kw7 t r.params 1:=jy0 r _ _;have:kw7 t r.params 0*kw7 t r.params 1<=9*9:=Zh a.2 h1.2;have:kj3 t (r::rs)=qzg t r++kj3 t rs:=by simp[kj3]
  rw[this,wY,Qz];omega
theorem vzc {n:ByteArray}{a: Nat}(hn:n.size<=800)(m:Nat):(jkr n a b m).size<=810:=by
 have h1:∀i,(kw9 i).size=1:=λ_=>rfl
 rcases m with _|_|m<;>simp only[jkr,ZC,h1]
 ·have:(⟨#[40]⟩:ByteArray).size=1:=rfl;omega
 ·have:(⟨#[40]⟩:ByteArray).size=1:=rfl;omega
 ·have:(⟨#[40]⟩:ByteArray).size=1:=rfl;have:(⟨#[44]⟩:ByteArray).size=1:=rfl;omega
theorem vko (w:World)(q p m:Nat)(a:m<=2):(w.alloc (.cells #[.int .i64 q,.int .i64 p] 3)).ownsRow 0 3 1 (.slice (some ⟨w.heap.size,0,none⟩) m 2) m ((([(q:Int),(p:Int)]).take m).map (Value.int .i64)):=by
 refine⟨by rcases m with _|_|_|m<;>simp at a |-,Or.inr ⟨w.heap.size,2,_,rfl,rW _,qg _ _,a,gW,rfl,?_⟩⟩;rcases m with _|_|_|m
 ·rfl
 ·rfl
 ·rfl
 ·omega
structure zqp (w:World)(o:Nat)(r:PRule)(pa:Option Addr)(pc:Nat)(ga ba:Option Addr)(bn bc n0 n1:Nat)(wa:World):Prop where
 low:pU w wa
 rul:wa.heap[o]?=some (.cells #[.string r.name.kind,.string r.name.text,.int .i64 r.name.at_,.slice pa r.params.length pc,.pointer ga,.slice ba bn bc] 147 (0,0))
 num:wa.heap[o+1]?=some (.cells #[.int .i64 n0,.int .i64 n1] 3 (0,0))
 at_:jz4 wa r (.slice pa r.params.length pc) (.pointer ga) (.slice ba bn bc)
theorem zqp.below (h:zqp w o r pa pc ga ba bn bc n0 n1 wa)(hb:pU wa wb):zqp w o r pa pc ga ba bn bc n0 n1 wb:=
 ⟨h.low.trans (hb.mono h.low.size),(hb.block _ (wu h.rul)).trans h.rul,(hb.block _ (wu h.num)).trans h.num,h.at_.below hb⟩
theorem zqp.gr (h:zqp w o r pa pc ga ba bn bc n0 n1 wa)(b:wa.ownsRow w.heap.size 159 8 v n xs)(a:wa.grownBy wb v.ownBlock):zqp w o r pa pc ga ba bn bc n0 n1 wb:=
 ⟨h.low.grown a h.low.size (xg b),(a.block _ (wu h.rul) (not_row b h.rul ak)).trans h.rul,(a.block _ (wu h.num) (not_row b h.num ak)).trans h.num,h.at_.gr b a⟩
theorem jkp (w:World)(T lo:Nat)(t:PTree)(h:kqr w T t)(ht:TreeOk t)(rs:List PRule)(xv:Value)(ys:List Value)(l:w.ownsRow lo 147 6 xv rs.length ys)(aX:kq3 lo w rs ys)(hp:∀r∈rs,zjr t r)(hl:rs.length<=801):
  qJ 70 #[.pointer (some ⟨T,0,none⟩),xv] w λe w'=>∃y,e=.returned y/\OwnIn w.heap.size w' y (kj3 t rs)/\pU w w':=by
 obtain⟨xa,xc,rfl,O⟩:=ql l;have HV:=pG O;have HT:=pG h;have bC:=pG aX;have aJ:=pG hp;clear O l h aX hp;go_enter func70,ntmps70
 go_wp2_with fail
 go_loopw [5,6,7,8,9,10,11,12,13,14] (λy i _ _ _ _ _ _ _ _ wr=>∃k:Nat,k<=rs.length/\i=.int .i64 k/\OwnIn w.heap.size wr y (kj3 t (rs.take k))/\pU w wr) (λ_ i _ _ _ _ _ _ _ _ _=>rs.length-(intOf i).toNat)
 case atStart=>exact⟨0,rW _,rfl,⟨[],wB _ _ _ _,by simp[kj3],λk hk=>by simp[kj3]at hk⟩,Below.refl _ _⟩
 case round=>
  obtain⟨c,bV⟩:∃c,c=wr:=⟨_,rfl⟩;subst bV;obtain⟨k,hk,rfl,u,hb⟩:=hrel;have bR:=hb.size;have J:=pG u;have HB:=pG hb;obtain⟨cs,d,_⟩:=u;obtain⟨ya,yc,rfl,_⟩:=ql d;clear d;by_cases N:k<rs.length
  case neg=>
   rw[show rs.take k=rs by rw[show k=rs.length by omega,QM]]at J;clear hb;go_wp2
   go_ret
   exact⟨_,rfl,by rw[show rs.take k=rs by rw[show k=rs.length by omega,QM]];exact ku J,ku HB⟩
  case pos=>
  obtain⟨g,rfl,_,hg,hc⟩:=ku HV k N;obtain⟨vp,vg,vb,⟨f0,f1,f2,f3,f4,f5⟩,aY⟩:=(ku bC).at_ N;have G:=(ku aJ) _ (wX N);have bF:=pG (show kj3 t (rs.take (k+1))=kj3 t (rs.take k)++qzg t rs[k] by rw[Qx N,kj3,Qn];simp[kj3]);have H:∀j,j<6->c.cell? ⟨g,k*6+j,none⟩=ys[k*6+j]?:=λj hj=>(hb.cell (p:=⟨g,k*6+j,none⟩) hg).trans (hc _ aj)
  have e0:=(H 0 aj).trans f0;have e1:=(H 1 aj).trans f1;have e2:=(H 2 aj).trans f2;have e3:=(H 3 aj).trans f3;have e4:=(H 4 aj).trans f4;have e5:=(H 5 aj).trans f5;simp only[sU]at e0;have a2:=pG (aY.below hb);generalize rs[k]=r at *;obtain⟨pa,pc,ga,ba,bc,ps,rfl,rfl,rfl,a7,_,_,_⟩:=ku a2;have bX:=G.bd 0;have b5:=G.bd 1;have a8:=G.1;obtain⟨W,Q⟩:∃W,W=(c.alloc (.cells #[.string r.name.kind,.string r.name.text,.int .i64 r.name.at_,.slice pa r.params.length pc,.pointer ga,.slice ba ps.length bc] 147)).alloc (.cells #[.int .i64 1,.int .i64 1] 3):=⟨_,rfl⟩;have a4:pU c W:=by rw[Q];exact(below_alloc1 c _).trans ((below_alloc1 _ _).mono au)
  have cN:c.heap.size+2=W.heap.size:=by rw[Q];simp
  have hR:W.heap[c.heap.size]?=some (.cells #[.string r.name.kind,.string r.name.text,.int .i64 r.name.at_,.slice pa r.params.length pc,.pointer ga,.slice ba ps.length bc] 147 (0,0)):=by rw[Q];exact zy (qg _ _)
  have hn:W.heap[c.heap.size+1]?=some (.cells (nAt (kw7 t r.params 0) (kw7 t r.params 1) 0) 3 (0,0)):=by
   rw[Q];have:=qg (c.alloc (.cells #[.string r.name.kind,.string r.name.text,.int .i64 r.name.at_,.slice pa r.params.length pc,.pointer ga,.slice ba ps.length bc] 147)) (.cells #[.int .i64 1,.int .i64 1] 3);simp only[tJ]at this;exact this
  have HR:=pG hR;have aI:=pG hn;have b7:=pG a4;have aP:=pG Q.symm;have cB:=pG (((ku HT).below hb).below a4);obtain⟨cQ,cR,e9,aA⟩:=ql a7;injection e9 with aQ bH bI;rw[<-aQ]at aA;clear aQ bH bI;have aK:=pG aA;have aO:=pG ((ku HT).below hb);clear H hc f0 f1 f2 f3 f4 f5 aY hb Q a4 hR hn a7 aA;go_wp2_with fail
  rw[ku aP];go_loopw [9] (λq m=>∃j:Nat,j<=r.params.length/\q=.int .i64 j/\m.heap[c.heap.size+1]?=some (.cells (nAt (kw7 t r.params 0) (kw7 t r.params 1) j) 3 (0,0))/\Kept (c.heap.size+1) W m) (λq _=>r.params.length-(intOf q).toNat)
  case atStart=>exact⟨0,rW _,rfl,ku aI,Kept.refl _ _⟩
  case round=>
   obtain⟨m,bU⟩:∃m,m=wr:=⟨_,rfl⟩;subst bU;obtain⟨j,hj,rfl,f,B⟩:=hrel;have A:pU c m:=(ku b7).trans (B.toBelow aj aj);have cO:=B.size;obtain⟨m0,m1,m2,m3,m4,m5,_⟩:=kzb ((B.block c.heap.size aj aj).trans (ku HR));have aH:=pG B;have bB:=pG f;by_cases M:j<r.params.length
   case pos=>
    obtain⟨gp,bL,_,bK,aU⟩:=(ku aK) j M;subst bL;have cJ:m.cell? ⟨gp,j*6+4,none⟩=some (.string (r.params[j]).set_.text):=by
     rw[A.cell (p:=⟨gp,j*6+4,none⟩) bK,aU _ aj];exact xq kkw 6 (λ_=>rfl) r.params j 4 M aj
    obtain⟨nn,aB⟩:=G.2.1 _ (wX M);have a9:(if j=0 then kw7 t r.params 0 else kw7 t r.params 1)=nn:=by
     have:kw7 t r.params j=nn:=by unfold kw7;rw[tY M];exact aB.eq
     rcases j with _|_|j
     ·exact this
     ·exact this
     ·omega
    obtain⟨sk,bQ,sl,sd,sv,cS,cT⟩:=aB;have aN:=pG (zy5 m T t (r.params[j]).set_.text ((ku aO).below A) ht.sets sk bQ sl sd);rw[sv]at aN;have c9:∃z,m.cell? ⟨c.heap.size+1,j,none⟩=some z:=by
     have cI:j<2:=aj;rw[QK m _ j _ _ _ f];rcases j with _|_|j
     ·exact⟨_,rfl⟩
     ·exact⟨_,rfl⟩
     ·omega
    obtain⟨z,c9⟩:=c9;have f9:=Zn m (c.heap.size+1) j _ _ f;have Y:=pG (show(m.setCell ⟨c.heap.size+1,j,none⟩ (.int .i64 nn)).heap[c.heap.size+1]?=some (.cells (nAt (kw7 t r.params 0) (kw7 t r.params 1) (j+1)) 3 (0,0)) by
     rw[<-vv3 (show j<2 by omega),a9];exact heap_setCell_same _ _ j _ _ _ f)
    generalize (r.params[j]).set_.text=X at *;clear aU f B A sl sd sv a9;go_wp2_with fail
    refine(ku aN).mono ?_;rintro e w1 ⟨rfl,rfl⟩;go_wp2
    go_roundw
    case rel=>exact⟨j+1,aj,eu,ku Y,(ku aH).kzq j _⟩
    case measure=>exact qQ
   case neg=>
   have bM:j=r.params.length:=aj;subst bM;rw[vyu a8]at f;have aM:=pG ((B.block c.heap.size aj aj).trans (ku HR));have Y:=pG f;have aG:=pG ((ku HB).trans (A.mono bR));have bA:=pG ((ku J).below A);have a3:=pG ((ku a2).below A);have a6:qzg t r=(List.range (kw7 t r.params 0)).flatMap λa=>qzu r (kw7 t r.params 1) a:=rfl
   have b2:=pG a6;generalize kw7 t r.params 0=n0 at *;generalize kw7 t r.params 1=n1 at *;have b8:=pG (show zqp w c.heap.size r pa pc ga ba ps.length bc n0 n1 m from⟨ku aG,ku aM,f,ku a3⟩);clear f B A J HB aH bB a2 HR aI aP aK aO a6 aG aM Y a3;have cC:(kj3 t (rs.take k)).length<=70000:=by
    have:=qzp (t:=t) (rs:=rs.take k) (λx hx=>(ku aJ) x (Zt hx));rw[JJ]at this;omega
   generalize kj3 t (rs.take k)=E at *;have bN:=G.2.2;go_wp2_with fail
   clear m0 m1 m2 m3 m4 m5;go_loopw [5,10,11,12,13,14] (λy aa _ _ _ _ wa=>∃q:Nat,q<=n0/\aa=.int .i64 q/\OwnIn w.heap.size wa y (E++(List.range q).flatMap λa=>qzu r n1 a)/\zqp w c.heap.size r pa pc ga ba ps.length bc n0 n1 wa) (λ_ aa _ _ _ _ _=>n0-(intOf aa).toNat)
   case atStart=>exact⟨0,rW _,rfl,by simpa using ku bA,ku b8⟩
   case round=>
    obtain⟨wa,bS⟩:∃wa,wa=wr:=⟨_,rfl⟩;subst bS;obtain⟨q,hq,rfl,u,a5⟩:=hrel;obtain⟨a0,a1,_⟩:=kj0 a5.num;have V:=pG u;have aE:=pG a5;obtain⟨cs,d,_⟩:=u;obtain⟨cX,cY,rfl,_⟩:=ql d;clear d a5;by_cases cK:q<n0
    case neg=>
     have aW:q=n0:=aj;have U:=pG (show OwnIn w.heap.size wa _ (kj3 t (rs.take (k+1))) by rw[ku bF,ku b2,<-aW];exact ku V);have S:=pG (ku aE).low;clear aW;go_wp2
     go_roundw
     case rel=>exact⟨k+1,aj,eu,ku U,ku S⟩
     case measure=>exact qQ
    case pos=>
    have cH:((List.range q).flatMap λa=>qzu r n1 a).length<=81:=by
     rw[jy0];exact rU (Zh (by omega:q<=9) b5.2) aj
    have b3:=pG (show((List.range (q+1)).flatMap λa=>qzu r n1 a)=((List.range q).flatMap λa=>qzu r n1 a)++(List.range n1).map λ(b:Nat)=>(⟨r,([(q:Int),(b:Int)]).take r.params.length⟩:RIn) by rw[J5,Qn];simp[qzu]);generalize ((List.range q).flatMap λa=>qzu r n1 a)=P at *;go_wp2_with fail
    go_loopw [5,11,12,13,14] (λy bb _ _ _ wb=>∃p:Nat,p<=n1/\bb=.int .i64 p/\OwnIn w.heap.size wb y ((E++P)++(List.range p).map λ(b:Nat)=>(⟨r,([(q:Int),(b:Int)]).take r.params.length⟩:RIn))/\zqp w c.heap.size r pa pc ga ba ps.length bc n0 n1 wb) (λ_ bb _ _ _ _=>n1-(intOf bb).toNat)
    case atStart=>exact⟨0,rW _,rfl,by simpa using ku V,ku aE⟩
    case round=>
     obtain⟨wb,bT⟩:∃wb,wb=wr:=⟨_,rfl⟩;subst bT;obtain⟨p,hp,rfl,u,L⟩:=hrel;obtain⟨b0,b1,_⟩:=kj0 L.num;have aZ:=pG u;have aF:=pG L;have K:=pG L.rul;obtain⟨cs,d,I⟩:=u;obtain⟨yb,cZ,rfl,_⟩:=ql d;clear L;by_cases a9:p<n1
     case neg=>
      have aV:p=n1:=aj;have U:=pG (show OwnIn w.heap.size wb _ (E++((List.range (q+1)).flatMap λa=>qzu r n1 a)) by rw[ku b3,<-sD,<-aV];exact ku aZ);clear aV d I;go_wp2
      go_roundw
      case rel=>exact⟨q+1,aj,eu,ku U,ku aF⟩
      case measure=>exact qQ
     case pos=>
     obtain⟨m0,m1,m2,m3,m4,m5,_⟩:=kzb (ku K);have cA:=wu (ku K);obtain⟨v,C⟩:∃v,v=wb.alloc (.cells #[.int .i64 q,.int .i64 p] 3):=⟨_,rfl⟩;have F:pU wb v:=by rw[C];exact below_alloc1 _ _
     have cL:wb.heap.size+1=v.heap.size:=by rw[C];simp
     have aR:v.heap[wb.heap.size]?=some (.cells #[.int .i64 q,.int .i64 p] 3 (0,0)):=by rw[C];exact qg _ _
     have b6:=pG (show v.ownsRow 0 3 1 (.slice (some ⟨wb.heap.size,0,none⟩) r.params.length 2) r.params.length ((([(q:Int),(p:Int)]).take r.params.length).map (Value.int .i64)) by rw[C];exact vko wb q p _ a8);obtain⟨s0,s1,_⟩:=kj0 aR;have b9:=pG (I.below F);have Z:=pG (qj d F);have aL:=pG ((F.block c.heap.size (wu (ku K))).trans (ku K));have R:=pG ((ku aF).below F);have b4:=pG C.symm;have cE:((E++P)++(List.range p).map λ(b:Nat)=>(⟨r,([(q:Int),(b:Int)]).take r.params.length⟩:RIn)).length<=80000:=ay;have bD:=pG (show((E++P)++(List.range (p+1)).map λ(b:Nat)=>(⟨r,([(q:Int),(b:Int)]).take r.params.length⟩:RIn))=((E++P)++(List.range p).map λ(b:Nat)=>(⟨r,([(q:Int),(b:Int)]).take r.params.length⟩:RIn))++[⟨r,([(q:Int),(p:Int)]).take r.params.length⟩] by rw[J5,Qv];simp);generalize ((E++P)++(List.range p).map λ(b:Nat)=>(⟨r,([(q:Int),(b:Int)]).take r.params.length⟩:RIn))=LC at *;have bP:q<10:=aj;have bO:p<10:=aj;clear d I F aR C;go_wp2_with fail
     rw[ku b4];go_loopw [13,14] (λs kk ww=>∃z:Nat,z<=r.params.length/\kk=.int .i64 z/\s=.string (jkr r.name.text q p z)/\ww=v) (λ_ kk _=>r.params.length-(intOf kk).toNat)
     case atStart=>exact⟨0,rW _,rfl,rfl,rfl⟩
     case round=>
      obtain⟨z,hz,rfl,rfl,aC⟩:=hrel;have aC:=aC.symm;subst aC;have cM:=vzc (a:=q) (b:=p) bN z;have aS:∀i,(kw9 i).size=1:=λ_=>rfl
      have cF:=aS q;have cG:=aS p;by_cases cP:z<r.params.length
      case pos=>
       by_cases aD:z=0
       ·subst aD;go_wp2_with (first|(go_at_call 28;refine(qqc q bP _).mono ?_;rintro e w2 ⟨rfl,rfl⟩))
        go_wp2
        go_roundw
        case rel=>exact⟨1,aj,eu,rfl,mW⟩
        case measure=>exact qQ
       ·have aD:z=1:=by omega
        subst aD;go_wp2_with (first|(go_at_call 28;refine(qqc p bO _).mono ?_;rintro e w2 ⟨rfl,rfl⟩))
        go_wp2
        go_roundw
        case rel=>exact⟨2,aj,eu,rfl,mW⟩
        case measure=>exact qQ
      case neg=>
      have bW:z=r.params.length:=aj;subst bW;have bG:=pG (vvv r.name.text q p r.params.length a8);obtain⟨m0,m1,m2,m3,m4,m5,_⟩:=kzb (ku aL);have bZ:=wu (ku aL);have bY:w.heap.size<=v.heap.size:=(ku R).low.size;generalize cD:jkr r.name.text q p r.params.length=PP at *;go_wp2_with (at_builtin;refine apO ((ku Z).alloc _) ?_)
      intro v' w' l D _ bJ;have U:=pG (show OwnIn w.heap.size w' v' ((E++P)++(List.range (p+1)).map λ(b:Nat)=>(⟨r,([(q:Int),(b:Int)]).take r.params.length⟩:RIn)) by
       rw[ku bD];refine⟨_,by rw[wY];exact l,zw6.snoc ((ku Z).alloc _) D ((ku b9).below (below_alloc1 v _)) rfl ?_⟩;have aT:(([(q:Int),(p:Int)]).take r.params.length).length=r.params.length:=by rw[JJ];simp;omega
       refine⟨.slice pa r.params.length pc,.pointer ga,.slice ba ps.length bc,some ⟨wb.heap.size,0,none⟩,2,?_,(ku R).at_.below (below_alloc1 v _),?_⟩
       ·rw[aT,show riT ⟨r,([(q:Int),(p:Int)]).take r.params.length⟩=PP++⟨#[41]⟩ from(ku bG).symm]
       ·rw[aT];exact qj (ku b6) (below_alloc1 v _))
      have S:=pG (((ku R).below (below_alloc1 v _)).gr ((ku Z).alloc _) D);obtain⟨cU,cW,cV,rfl⟩:=zq l;clear l D bJ;go_wp2
      go_roundw
      case rel=>exact⟨p+1,aj,eu,ku U,ku S⟩
      case measure=>exact qQ
def zxl (t:PTree)(S:List (List Int))(x:RIn):Option (Int×List (List Int)):=
 (qwu t x.r.params x.ms S x.r.guard).bind λc=>if c.2 then some (2,S) else if c.1==0 then some (0,S) else (doR t x.r.params x.ms x.r.body S).map λp=>if p.2 then (2,S) else (1,p.1)
structure RiOk (x:RIn):Prop where
 body:SOk x.r.body
 kko:kko x.r.body<=1000
 guard:isNil x.r.guard=false
 pars:x.r.params.length<=801
 mems:x.ms.length<=801
theorem jxx {x0 x1 x2 x3 x4 x5 x6 x7:Value}{t:TypeId}(h:w.heap[b]?=some (.cells #[x0,x1,x2,x3,x4,x5,x6,x7] t (0,0))):
  Ce w b 0 x0/\Ce w b 1 x1/\Ce w b 2 x2/\Ce w b 3 x3/\Ce w b 4 x4/\Ce w b 5 x5/\Ce w b 6 x6:=
 ⟨rc h 0,rc h 1,rc h 2,rc h 3,rc h 4,rc h 5,rc h 6⟩
def qko (S:List (List Int)):Prop:=S.length<=1000/\∀l∈S,0<l.length/\l.length<=1000
theorem jkg (w:World)(T lo:Nat)(t:PTree)(h:kqr w T t)(ht:TreeOk t)(a2:jyd t)(xv:Value)(S:List (List Int))(gs:List (Nat×Nat))(s:StA lo w xv S gs)(hS:qko S)(x:RIn)(c:List Value)(Q:zx0 w x c)(j:RiOk x)(r:Int×List (List Int))(a:zxl t S x=some r):
  qJ 71 #[.pointer (some ⟨T,0,none⟩),xv,.agg c.toArray] w λe w'=>∃y gs',e=.returned (.tuple #[.int .i64 r.1,y])/\StA 0 w' y r.2 gs'/\pU w w':=by
 obtain⟨vp,vg,vb,aa,ac,rfl,⟨pa,pc,ga,ba,bc,ps,rfl,rfl,rfl,h1,E,h3,g⟩,k⟩:=Q;obtain⟨za,zc,rfl,_⟩:=ql s.out;obtain⟨f,rfl⟩:∃f,ga=some ⟨f,0,none⟩:=by
  cases hg:x.r.guard with
  |nil=>have:=j.guard;rw[hg]at this;cases this
  |node _ _ _ _ _=>rw[hg]at E;obtain⟨f,_,_,e,_⟩:=E;injection e with e;exact⟨f,e⟩
 obtain⟨W,B⟩:∃W,W=w.alloc (.cells #[.string x.r.name.kind,.string x.r.name.text,.int .i64 x.r.name.at_,.slice pa x.r.params.length pc,.pointer (some ⟨f,0,none⟩),.slice ba ps.length bc,.slice aa x.ms.length ac,.string (riT x)] 159):=⟨_,rfl⟩;have b:pU w W:=by rw[B];exact below_alloc1 w _
 have d:w.heap.size<W.heap.size:=by rw[B];simp
 have O:W.heap[w.heap.size]?=some (.cells #[.string x.r.name.kind,.string x.r.name.text,.int .i64 x.r.name.at_,.slice pa x.r.params.length pc,.pointer (some ⟨f,0,none⟩),.slice ba ps.length bc,.slice aa x.ms.length ac,.string (riT x)] 159 (0,0)):=by rw[B];exact qg _ _
 obtain⟨i0,i1,i2,i3,i4,i5,i6⟩:=jxx O;have U:=pG (λ(wx:World) (Q:pU W wx)=>zvd wx lo _ S gs ((s.below b).below Q) hS.2 hS.1);have I:=pG ((s.below b).mono (rW _));have N:=pG O;have p:=pG b;have a0:=pG B.symm;have G:=pG (λ(xa:Option Addr) (xn xc:Nat)=>(⟨h.below b,ht,qj h1 b,j.pars,qj k b,j.mems⟩:Cx W T t x.r.params x.ms ⟨x.r.name,pa,x.r.params.length,pc,some ⟨f,0,none⟩,ba,ps.length,bc,aa,x.ms.length,ac,xa,xn,xc⟩));have HG:=pG (E.below b);have V:=pG (qj h3 b);have X:=pG (g.below b);have P:ps.length<=1000:=by rw[g.len];exact j.kko
 unfold zxl at a;obtain⟨⟨c1,c2⟩,hc,a⟩:=wQ.mp a;dsimp only at a;have HC:=pG hc;have HR:=pG a;clear h h1 E h3 g k s B b O hc a;go_enter func71,ntmps71
 go_upto_region 1 with fail
 rw[ku a0];go_region_held3 (λw'=>w'.cell? ⟨w.heap.size,0,none⟩=some (.string x.r.name.kind)/\w'.cell? ⟨w.heap.size,1,none⟩=some (.string x.r.name.text)/\w'.cell? ⟨w.heap.size,2,none⟩=some (.int .i64 x.r.name.at_)/\w'.cell? ⟨w.heap.size,3,none⟩=some (.slice pa x.r.params.length pc)/\w'.cell? ⟨w.heap.size,4,none⟩=some (.pointer (some ⟨f,0,none⟩))/\w'.cell? ⟨w.heap.size,5,none⟩=some (.slice ba ps.length bc)/\w'.cell? ⟨w.heap.size,6,none⟩=some (.slice aa x.ms.length ac)) (first|exact⟨i0,i1,i2,i3,i4,i5,i6⟩|exact jxx (ku z)|exact jxx (zy (ku z)))
  (first|(go_at_call 123;refine((ku U) _ (Below.refl _ _).drew).mono ?_;rintro e v ⟨x2,J,rfl,l,K⟩;have m:=pG ((Below.refl W.heap.size W).drew.trans K);have z:=pG (((ku m).block w.heap.size d).trans (ku N));have A:=pG l;obtain⟨xa,xc,ex,_⟩:=ql l.out;subst ex;clear l K;dsimp only))
 have a1:=(ku m).size;obtain⟨w3,u⟩:∃w3,w3=v.alloc (.cells #[.pointer (some ⟨T,0,none⟩),.string x.r.name.kind,.string x.r.name.text,.int .i64 x.r.name.at_,.slice pa x.r.params.length pc,.pointer (some ⟨f,0,none⟩),.slice ba ps.length bc,.slice aa x.ms.length ac,.slice xa S.length xc,.bool false] 251):=⟨_,rfl⟩;have i:pU v w3:=by rw[u];exact below_alloc1 _ _
 have C:Wk W T v.heap.size ⟨x.r.name,pa,x.r.params.length,pc,some ⟨f,0,none⟩,ba,ps.length,bc,aa,x.ms.length,ac,xa,S.length,xc⟩ J w3 S false:=
  ⟨(ku m).trans (i.mono aj),a1,by rw[u];exact qg _ _,((ku A).mono (wJ _)).below i⟩
 have q:=(i.block w.heap.size aj).trans (((ku m).block w.heap.size d).trans (ku N));obtain⟨_,_,_,_,j4,j5,_⟩:=jxx q;have a3:=pG q;have F:=pG (kwu x.r.guard 0 f ((ku G) xa S.length xc) C (ku HG) _ (ku HC));have a6:w.heap.size<w3.heap.size:=wu q;have R:=pG u.symm;have a5:w.heap.size<v.heap.size:=aj;have a4:=pG C;clear C i u q z A i0 i1 i2 i3 i4 i5 i6;go_wp2_with fail
 rw[ku R];refine(ku F).mono ?_;rintro e w4 ⟨rfl,g⟩;rw[Qr]at g;obtain⟨⟨_,_,_,_,_,_,_,_,b8,b9⟩,_⟩:=kjj g.row;have a:=ku HR;have D:=pG g;have H:=pG ((ku I).below g.low);clear g F j4;cases c2
 case true=>
  rw[if_pos rfl]at a;injection a with a;subst a;go_wp2
  go_ret2
  exact⟨_,rfl,⟨gs,ku H⟩,(ku p).trans ((ku D).low.mono (Qs d))⟩
 case false=>
 rw[if_neg au]at a;cases L:(c1==0)
 case true=>
  rw[L,if_pos rfl]at a;injection a with a;subst a;go_wp2
  go_ret2
  exact⟨_,rfl,⟨gs,ku H⟩,(ku p).trans ((ku D).low.mono (Qs d))⟩
 case false=>
 rw[L,if_neg au]at a;obtain⟨⟨p1,p2⟩,hp,a⟩:=rJ.mp a;have Y:=pG (vyh x.r.body 0 _ ps ((ku G) xa S.length xc) a2 (ku D) (ku V) (ku X) j.body P _ hp);have a7:=(jxx (((ku D).low.block w.heap.size d).trans (ku N))).2.2.2.2.2.1;clear hp j5;go_wp2_with fail
 refine(ku Y).mono ?_;rintro e w5 ⟨rfl,k⟩;obtain⟨⟨_,_,_,_,_,_,_,_,y8,y9⟩,_⟩:=kjj k.row;have Z:=pG ((ku I).below k.low);have M:=pG k;clear k;cases p2
 case true=>
  simp only[if_true]at a;subst a;go_wp2
  go_ret2
  exact⟨_,rfl,⟨gs,ku Z⟩,(ku p).trans ((ku M).low.mono (Qs d))⟩
 case false=>
  simp only[wU,if_false]at a;subst a;go_upto_region 10 with fail
  go_region_held3 (λw'=>w'.cell? ⟨v.heap.size,8,none⟩=some (.slice xa S.length xc)) (exact y8) (fail)
  go_wp2
  go_ret2
  exact⟨_,rfl,⟨J,((ku M).st.mono (rW _)).below (Below.refl _ _).drew⟩,(ku p).trans (((ku M).low.drew).mono (Qs d))⟩
def zzh (t:PTree)(v:PVar)(x:Int):Option ByteArray:=
 if 0<=qh (pq t) v.type_.text.toList then (if x<0 then none else (t.kinds[(qh (pq t) v.type_.text.toList).toNat]?).bind λK=>(K.members[x.toNat]?).map λm=>m.text)
 else if kzd (kqf t v)&&decide (x<0) then some ⟨#[45]⟩ else if 0<=x/\x<=9 then some (kw9 x.toNat) else none
theorem kqr.mem {T:Nat}  (h:kqr w T t)  {K:PKind}{m:Tok}(z:t.kinds[k]?=some K)(A:K.members[j]?=some m):∃g cap b f,T<w.heap.size/\g<w.heap.size/\b<w.heap.size/\w.cell? ⟨T,1,none⟩=some (.slice (some ⟨g,0,none⟩) t.kinds.length cap)/\w.cell? ⟨g,k*4+3,none⟩=some (.slice (some ⟨b,0,none⟩) K.members.length f)/\w.cell? ⟨b,j*3+1,none⟩=some (.string m.text)/\k<t.kinds.length/\j<K.members.length:=by
 obtain⟨c,rfl⟩:=tZ.mp z;obtain⟨d,rfl⟩:=tZ.mp A;obtain⟨x0,x1,x2,x3,x4,y1,y3,y4,i,_,⟨B,q⟩,_⟩:=h;obtain⟨E,C,F,G,H,_⟩:=kxh i;obtain⟨a,cap,rfl,e⟩:=ql B;obtain⟨g,rfl,_,y,x⟩:=e k c;obtain⟨I,_,_,_,v,s⟩:=qqd k c q;obtain⟨D,f,rfl,u⟩:=ql s;obtain⟨b,rfl,_,p,l⟩:=u j d;exact⟨g,cap,b,f,wu i,y,p,C,(x _ aj).trans v,(l _ aj).trans (qxi _ j d),c,d⟩
theorem jwf (w:World)(T:Nat)(t:PTree)(h:kqr w T t)(i:TreeOk t)(V:PVar)(v:V.type_.text.size<=800)(x:Int)(r:ByteArray)(a:zzh t V x=some r):
  qJ 183 #[.pointer (some ⟨T,0,none⟩),jzu V,.int .i64 x] w λe w'=>e=.returned (.string r)/\pU w w':=by
 have l:=pG h;have D:=kyh t V v;have j:=pG (λ(wx:World) (q:pU w wx)=>zj8 wx T t V.type_.text ((ku l).below q) i.kinds);have s:=pG (λ(wx:World) (q:pU w wx)=>qx4 wx T t V ((ku l).below q) i.kinds v);have C:=i.kinds;have u:=i.members;clear h;unfold zzh at a;generalize B:qh (pq t) V.type_.text.toList=y at a j;unfold jzu kqu jr at *;simp only[QD,Qc]at *;go_enter func183,ntmps183
 go_wp2_with fail
 refine((ku j) _ (below_alloc1 _ _)).mono ?_;rintro e L ⟨rfl,rfl⟩;go_wp2_with fail
 refine((ku s) _ (below_alloc1 _ _)).mono ?_;rintro e z ⟨rfl,k⟩;have c:=pG ((below_alloc1 w _).trans (k.mono au));clear k;go_wp2_with fail
 refine(kyi _ _ aj).mono ?_;rintro e z ⟨rfl,rfl⟩;generalize kzd (kqf t V)=bs at *;by_cases d:0<=y
 ·rw[if_pos d]at a;by_cases b:x<0
  ·rw[if_pos b]at a;cases a
  rw[if_neg b]at a;obtain⟨K,f,a⟩:=wQ.mp a;obtain⟨m,p,rfl⟩:=rJ.mp a;obtain⟨kn,rfl⟩:=Qq d;obtain⟨xn,rfl⟩:=Qq (show 0<=x by omega);rw[sJ]at f p;have A:=u K (Qp f);obtain⟨g,cap,J,F,G,H,I,k1,k2,k3,k4,k5⟩:=((ku l).below (ku c)).mem f p;clear a f p b d;go_wp2
  go_ret
  exact⟨rfl,ku c⟩
 ·rw[if_neg d]at a;by_cases b:x<0
  ·cases bs
   ·rw[tV b,Ql,if_neg au,if_neg aj]at a;cases a
   ·rw[tV b,QC,if_pos rfl]at a;injection a with a;subst a;go_wp2
    go_ret
    exact⟨rfl,ku c⟩
  ·rw[decide_eq_false b,Q5,if_neg au]at a;by_cases E:x<=9
   ·rw[if_pos aj]at a;injection a with a;subst a;obtain⟨xn,rfl⟩:=Qq (show 0<=x by omega);cases bs;all_goals
     go_wp2_with fail
     refine(qqc xn aj _).mono ?_;rintro e w3 ⟨rfl,rfl⟩;go_wp2
     go_ret
     exact⟨rfl,ku c⟩
   ·rw[if_neg aj]at a;cases a
def rowP (t:PTree)(v:PVar)(l:List Int):Nat->Option ByteArray
 |0=>some ⟨#[]⟩
 |k+1=>(rowP t v l k).bind λs=>(l[k]?).bind λx=>(zzh t v x).bind λy=>if s.size<=100000/\y.size<=100000 then some ((if 0<k then s++⟨#[32]⟩ else s)++y) else none
def zxn (t:PTree)(S:List (List Int)):Nat->Option ByteArray
 |0=>some ⟨#[]⟩
 |k+1=>(zxn t S k).bind λs=>(t.vars[k]?).bind λv=>(S[k]?).bind λl=>(rowP t v l l.length).bind λr=>if s.size<=1000000/\r.size<=1000000 then some ((if 0<k then s++⟨#[32]⟩ else s)++(if qzk v then (⟨#[91]⟩++r)++⟨#[93]⟩ else r)) else none
theorem vq5 {t:PTree}{v:PVar}{l:List Int}{k:Nat}:∀{n:Nat} {r:ByteArray},rowP t v l n=some r->k<=n->∃s,rowP t v l k=some s
 |0,r,h,hk=>by
  obtain rfl:k=0:=aj;exact⟨r,h⟩
 |n+1,r,h,hk=>by
  by_cases e:k=n+1
  ·subst e;exact⟨r,h⟩
  ·rw[rowP]at h;obtain⟨s,a,_⟩:=wQ.mp h;exact vq5 a aj
theorem jye {t:PTree}{S:List (List Int)}{k:Nat}:∀{n:Nat} {r:ByteArray},zxn t S n=some r->k<=n->∃s,zxn t S k=some s
 |0,r,h,hk=>by
  obtain rfl:k=0:=aj;exact⟨r,h⟩
 |n+1,r,h,hk=>by
  by_cases e:k=n+1
  ·subst e;exact⟨r,h⟩
  ·rw[zxn]at h;obtain⟨s,a,_⟩:=wQ.mp h;exact jye a aj
theorem jkm {c:Prop}[Decidable c]{a b:ByteArray}(h:(if c then some a else none)=some b):c/\a=b:=by
 split at h
 ·rename_i d;injection h with h;exact⟨d,h⟩
 ·cases h
theorem vzy (w:World)(T lo:Nat)(t:PTree)(h:kqr w T t)(ht:TreeOk t)(hf:TreeFit t)(xv:Value)(S:List (List Int))(gs:List (Nat×Nat))(O:StA lo w xv S gs)(hS:qko S)(r:ByteArray)(hr:zxn t S S.length=some r):
  qJ 126 #[.pointer (some ⟨T,0,none⟩),xv] w λe w'=>e=.returned (.string r)/\pU w w':=by
 obtain⟨za,zc,rfl,_⟩:=ql O.out;have HT:=pG h;have aE:=pG O;have HR:=pG hr;have aY:=hS.1;have aC:=pG hS.2;have b4:=ht.vars;clear h O hr hS;go_enter func126,ntmps126
 go_wp2_with fail
 go_loopw [5,6,7,8,9] (λo i _ _ _ wr=>∃(k:Nat) (s:ByteArray),k<=S.length/\i=.int .i64 k/\o=.string s/\zxn t S k=some s/\pU w wr) (λ_ i _ _ _ _=>S.length-(intOf i).toNat)
 case atStart=>exact⟨0,⟨#[]⟩,rW _,rfl,rfl,rfl,Below.refl _ _⟩
 case round=>
  obtain⟨m,aM⟩:∃m,m=wr:=⟨_,rfl⟩;subst aM;obtain⟨k,s,hk,rfl,rfl,C,hb⟩:=hrel;have HB:=pG hb;by_cases b3:k<S.length
  case neg=>
   have a2:k=S.length:=aj;have e:=ku HR;rw[<-a2,C]at e;injection e with e;subst e;clear hb C a2;go_wp2
   go_ret
   exact⟨rfl,ku HB⟩
  case pos=>
  obtain⟨s',c⟩:=jye (ku HR) (show k+1<=S.length by omega);have aD:=pG c;rw[zxn,C]at c;simp only[rC]at c;obtain⟨V,hV,c⟩:=wQ.mp c;obtain⟨y,R,c⟩:=wQ.mp c;obtain⟨aQ,a4,c⟩:=wQ.mp c;obtain⟨⟨aT,aU⟩,c⟩:=jkm c;obtain⟨L,A⟩:=tZ.mp hV;have aK:V.type_.text.size<=800:=by rw[<-A];exact(hf.vars _ (wX L)).1
  have aN:=(ku aC) y (Qp R);have HY:=pG R;have aG:=pG A;have H:=pG a4;have v:=pG c;have I:=pG ((ku HT).below hb);have W:=pG ((ku aE).below hb);obtain⟨Q,cO,gr,cg,eS,aI,k1,aZ,_,_,_,N,M⟩:=(ku W).get R (tY aN.1);clear M N;injection eS with u J K;subst u;clear J K;have aV:=pG (show ∀wx,pU m wx->∃a D,wx.cell? ⟨T,2,none⟩=some (.slice (some ⟨a,0,none⟩) t.vars.length D)/\vwq wx a k V from λwx b=>by
   obtain⟨a,D,_,_,q,e⟩:=((ku I).below b).var L;rw[A]at e;exact⟨a,D,q,e⟩)
  have aF:=pG (λ(wx:World) (b:pU m wx) (z:Int) (q:ByteArray) (hq:zzh t V z=some q)=>jwf wx T t ((ku I).below b) ht V aK z q hq);have a8:=pG (Below.refl m.heap.size m);clear hb C c hV A R a4;by_cases a1:0<k
  case' pos=>rw[if_pos a1]at v
  case' neg=>rw[if_neg a1]at v
  all_goals
   go_wp2_with fail
   go_loopw [7,8,9] (λo i _ l=>∃(j:Nat) (q:ByteArray),j<=y.length/\i=.int .i64 j/\o=.string q/\rowP t V y j=some q/\pU m l) (λ_ i _ _=>y.length-(intOf i).toNat)
   case atStart=>exact⟨0,⟨#[]⟩,rW _,rfl,rfl,rfl,ku a8⟩
   case round=>
    obtain⟨l,aL⟩:∃l,l=wr:=⟨_,rfl⟩;subst aL;obtain⟨j,q,hj,rfl,rfl,B,g⟩:=hrel;have a9:=pG g;have a5:=g.size;have o1:=(g.cell (p:=⟨Q,k,none⟩) aI).trans k1;obtain⟨a,D,aH,d,tq,tv⟩:=((ku I).below g).var L;rw[ku aG]at tv;obtain⟨t0,t1,t2,t3,t4,t5,t6,t7,t8,t9,aR,aS⟩:=tv;by_cases b2:j<y.length
    case pos=>
     obtain⟨q',f⟩:=vq5 (ku H) (show j+1<=y.length by omega);have aB:=pG f;rw[rowP,B]at f;simp only[rC]at f;obtain⟨z,hz,f⟩:=wQ.mp f;obtain⟨vl,P,f⟩:=wQ.mp f;obtain⟨⟨b5,b6⟩,f⟩:=jkm f;obtain⟨aX,aW,x,X,eS,a6,aO,a7,aP,_,_,N,M⟩:=((ku W).below g).get (ku HY) hz;clear M N;injection eS with u J K;injection u with u;rw[Addr.mk.injEq]at u;obtain⟨rfl,_⟩:=u;have F:=pG (λ(wx:World) (b:pU l wx)=>show wx.cell? ⟨T,2,none⟩=some (.slice (some ⟨a,0,none⟩) t.vars.length D)/\wx.cell? ⟨a,k*12,none⟩=some (.string V.name.kind)/\wx.cell? ⟨a,k*12+1,none⟩=some (.string V.name.text)/\wx.cell? ⟨a,k*12+2,none⟩=some (.int .i64 V.name.at_)/\wx.cell? ⟨a,k*12+3,none⟩=some (.string V.over.kind)/\wx.cell? ⟨a,k*12+4,none⟩=some (.string V.over.text)/\wx.cell? ⟨a,k*12+5,none⟩=some (.int .i64 V.over.at_)/\wx.cell? ⟨a,k*12+6,none⟩=some (.string V.type_.kind)/\wx.cell? ⟨a,k*12+7,none⟩=some (.string V.type_.text)/\wx.cell? ⟨a,k*12+8,none⟩=some (.int .i64 V.type_.at_)/\wx.cell? ⟨a,k*12+9,none⟩=some (.string V.top.kind)/\wx.cell? ⟨a,k*12+10,none⟩=some (.string V.top.text)/\wx.cell? ⟨a,k*12+11,none⟩=some (.int .i64 V.top.at_)/\wx.cell? ⟨Q,k,none⟩=some (.slice (some ⟨x,0,none⟩) y.length X)/\wx.cell? ⟨x,j,none⟩=some (.int .i64 z) from⟨(b.cell (p:=⟨T,2,none⟩) aH).trans tq,(b.cell (p:=⟨a,k*12,none⟩) d).trans t0,(b.cell (p:=⟨a,k*12+1,none⟩) d).trans t1,(b.cell (p:=⟨a,k*12+2,none⟩) d).trans t2,(b.cell (p:=⟨a,k*12+3,none⟩) d).trans t3,(b.cell (p:=⟨a,k*12+4,none⟩) d).trans t4,(b.cell (p:=⟨a,k*12+5,none⟩) d).trans t5,(b.cell (p:=⟨a,k*12+6,none⟩) d).trans t6,(b.cell (p:=⟨a,k*12+7,none⟩) d).trans t7,(b.cell (p:=⟨a,k*12+8,none⟩) d).trans t8,(b.cell (p:=⟨a,k*12+9,none⟩) d).trans t9,(b.cell (p:=⟨a,k*12+10,none⟩) d).trans aR,(b.cell (p:=⟨a,k*12+11,none⟩) d).trans aS,(b.cell (p:=⟨Q,k,none⟩) a6).trans aO,(b.cell (p:=⟨x,j,none⟩) a7).trans aP⟩);have aA:=pG (λ(wx:World) (b:pU l wx)=>(ku aF) wx (g.trans (b.mono a5)) z vl P);have G:=pG f;clear g B hz P f o1 J K;by_cases Z:0<j
     case' pos=>rw[if_pos Z]at G
     case' neg=>rw[if_neg Z]at G
     all_goals
      go_upto_region 13 with fail
      go_region_held3 (λw'=>w'.cell? ⟨T,2,none⟩=some (.slice (some ⟨a,0,none⟩) t.vars.length D)/\w'.cell? ⟨a,k*12,none⟩=some (.string V.name.kind)/\w'.cell? ⟨a,k*12+1,none⟩=some (.string V.name.text)/\w'.cell? ⟨a,k*12+2,none⟩=some (.int .i64 V.name.at_)/\w'.cell? ⟨a,k*12+3,none⟩=some (.string V.over.kind)/\w'.cell? ⟨a,k*12+4,none⟩=some (.string V.over.text)/\w'.cell? ⟨a,k*12+5,none⟩=some (.int .i64 V.over.at_)/\w'.cell? ⟨a,k*12+6,none⟩=some (.string V.type_.kind)/\w'.cell? ⟨a,k*12+7,none⟩=some (.string V.type_.text)/\w'.cell? ⟨a,k*12+8,none⟩=some (.int .i64 V.type_.at_)/\w'.cell? ⟨a,k*12+9,none⟩=some (.string V.top.kind)/\w'.cell? ⟨a,k*12+10,none⟩=some (.string V.top.text)/\w'.cell? ⟨a,k*12+11,none⟩=some (.int .i64 V.top.at_)/\w'.cell? ⟨Q,k,none⟩=some (.slice (some ⟨x,0,none⟩) y.length X)/\w'.cell? ⟨x,j,none⟩=some (.int .i64 z)) (first|exact(ku F) _ (Below.refl _ _)|exact(ku F) _ (Below.refl _ _).drew|exact(ku F) _ (ku U))
       (first|(go_at_call 183;refine((ku aA) _ (Below.refl _ _).drew).mono ?_;rintro e wz ⟨rfl,Y⟩;have U:=pG ((Below.refl l.heap.size l).drew.trans Y);clear Y;dsimp only))
      have E:=pG ((ku a9).trans ((ku U).mono a5));go_wp2
      go_roundw
      case rel=>exact⟨j+1,q',aj,eu,by rw[<-ku G],ku aB,ku E⟩
      case measure=>exact qQ
    case neg=>
    have a0:j=y.length:=aj;have aJ:q=aQ:=by have:=ku H;rw[<-a0,B]at this;injection this
    subst aJ;have E:=pG ((ku HB).trans (g.mono (ku HB).size));clear g B a0;cases ho:(V.over.kind.toList==og);all_goals
     have a3:qzk V=_:=ho;rw[a3]at v;simp only[wU,if_false,if_true]at v;clear a3;go_wp2
     go_roundw
     case rel=>exact⟨k+1,s',aj,eu,by rw[<-ku v],ku aD,ku E⟩
     case measure=>exact qQ
end Go.Proofs.YtpmcnonmkghokaaGreatDoor

import Derived.Test.YtpmcnonmkghokaaGreatDoorT12
import Derived.Test.YtpmcnonmkghokaaGreatDoorT11
set_option maxRecDepth 100000
set_option maxHeartbeats 8000000
set_option linter.unusedVariables false
set_option linter.unusedSimpArgs false
namespace Go.Proofs.YtpmcnonmkghokaaGreatDoor
open Go.Proofs.Tryz
open Go.RowKit
variable {a z:Int}{α:Type}{f:Int->Nat->α->Int}{L:List Tok}{items:List α}{B P b k:Nat}{r:PR}{v:Value}{W w wr:World}
theorem um {P:Program}{b:Func}{p e f:Tmp}{ty:TypeId}(h:b.results=#[.cell p ty,.tmp e,.tmp f])(a:Array Value)(w:World)(g:Nat)(t:TypeId)(cs:Array Value)(fr:Nat×Nat)(d:TypeDesc)
  (k:a.getD p undef=.pointer (some ⟨g,0,none⟩)) (j:w.heap[g]?=some (.cells cs t fr))
  (l:P.underlying ty=some d) (i:(match d with|.struct _|.array _ _=>true|_=>false)=true) (hi:(P.info? ty).map (·.size)=some cs.size):
  (results b a).run P w=.ok (.tuple #[.agg cs,a.getD e undef,a.getD f undef]) w:=by
 have c:a[p]?.getD undef=.pointer (some ⟨g,0,none⟩):=by simpa using k
 simp[results,h,c,asAddr,run_loadVar_row w g t ty cs fr d j l i hi]
theorem Pw.away {i: Nat}(h:Pw w P v L r)(hb:P≠b)(a:v.ownBlock≠some b)(u:Value):Pw (w.setCell ⟨b,i,none⟩ u) P v L r:=
 ⟨by rw[wP _ _ _ _ hb];exact h.pd,ownsRow_setCell_other h.own a u,h.ne,h.ok,h.lt⟩
theorem Pw.pqm (h:Pw w P v L r)(hb:P≠b)(a:v.ownBlock≠some b)(y0 y1 y2 y3 y4:Value):
  Pw (((((w.setCell ⟨b,0,none⟩ y0).setCell ⟨b,1,none⟩ y1).setCell ⟨b,2,none⟩ y2).setCell ⟨b,3,none⟩ y3).setCell ⟨b,4,none⟩ y4) P v L r:=
 ((((h.away hb a y0).away hb a y1).away hb a y2).away hb a y3).away hb a y4
def zh (t:PTree):MdL:=⟨t.sets,t.kinds,t.vars.map yu,t.rules,t.nevers⟩
def pzj (L:List Tok)(w:World)(e:Ending)(w':World):Prop:=
 pU w w'/\(((yx L).2=none/\∃x0 x1 x2 x3 x4,e=.returned (.tuple #[.agg #[x0,x1,x2,x3,x4],.int .i64 0,.bool true])/\kvm w.heap.size w' x0 x1 x2 x3 x4 (zh (yx L).1)) \/
  ∃k:Nat,(yx L).2=some k/\e=.returned (.tuple #[.agg #[.slice none 0 0,.slice none 0 0,.slice none 0 0,.slice none 0 0,.slice none 0 0],.int .i64 k,.bool false]))
theorem zqa (L:List Tok):(yx L).2=if (kx6 L).2.bad||!((tk L (kx6 L).2.at_).kind.toList==pJ) then some (tk L (kx6 L).2.at_).at_ else none:=rfl
theorem parse_any (w:World)(v:Value)(L:List Tok)(q:bg L)(Q:w.ownsRow 0 194 2 v L.length (kqe L)):
  qJ 52 #[v] w λe w'=>pzj L w e w':=by
 have HV:=pG (mg Q);have aI:=q.len;have D:=q.pos;obtain⟨va,S,R,rfl⟩:=zq Q;have X:Pd ((w.alloc (.cells #[.slice none 0 0,.slice none 0 0,.slice none 0 0,.slice none 0 0,.slice none 0 0] 68)).alloc (.cells #[.slice va S R,.int .i64 0,.int .i64 0,.bool false,.int .i64 0] 196)) (w.heap.size+1) (.slice va S R) L gu:=by
  refine⟨⟨0,0,false,0⟩,⟨?_,(Q.alloc _).alloc _,?_,q,D⟩,⟨D,by simp[gu],by simp[gu],λ_=>⟨rfl,rfl,rfl,rfl⟩,λh=>gY⟩⟩
  ·have:=qg (w.alloc (.cells #[.slice none 0 0,.slice none 0 0,.slice none 0 0,.slice none 0 0,.slice none 0 0] 68)) (.cells #[.slice va S R,.int .i64 0,.int .i64 0,.bool false,.int .i64 0] 196);simpa using this
  ·intro e;have:=ku HV _ e;omega
 have V:=pG X;clear X Q;go_enter func52,ntmps52
 go_wp2_with fail
 refine(jw8 _ (w.heap.size+1) _ L q.qve (ku V)).mono ?_;rintro e w1 ⟨x0,x1,x2,x3,x4,m,rfl,Y,Z,h1,B,⟨t,n0,k0,rfl⟩,⟨u,n1,k1,rfl⟩,⟨x,G,k2,rfl⟩,⟨y,H,k3,rfl⟩,⟨z,I,k4,rfl⟩⟩;have F:=B.row (b:=w.heap.size) aj (zy (qg _ _));obtain⟨J,d1,d2,d3,d4,K,M,N,O,P⟩:=jl F;have aJ:=h1.in;have W:=pG F;have T:=pG ((((Kept.refl (w.heap.size+1) w).alloc _).alloc _).trans B);have U:=pG Y;have aD:=pG Z;have f:=pG (zqa L);obtain⟨r,a8,a6⟩:=h1;have s:=pG a8;have c:=pG a6;clear Y Z B F a8 a6 V;generalize (kx6 L).2=j at *;have hq:((tk L r.next).text.toList==[])=(j.bad||((tk L j.at_).kind.toList==pJ)):=by
  cases hb:j.bad
  ·rw[((ku c).good hb).2.1,(q.ok _ (ku c).lt).fin];rfl
  ·rw[((ku c).bad hb).2.1,q.lastText];rfl
 go_wp2_with fail
 clear J d1 d2 d3 d4 K M N O P;have a7:(Value.slice va S R).ownBlock≠some w.heap.size:=λe=>by have:=ku HV _ e;omega
 refine(jwa ⟨#[]⟩ _ (w.heap.size+1) _ L r ((ku s).pqm aj a7 _ _ _ _ _)).mono ?_;rintro e w2 ⟨rfl,i⟩;rw[show(⟨#[]⟩:ByteArray).toList=[] from jv [],hq];have a9:=((ku s).pqm aj a7 (.slice t n0 k0) (.slice u n1 k1) (.slice x G k2) (.slice y H k3) (.slice z I k4)).below i;have aA:=(i.block w.heap.size iQ).trans (kjw (ku W) (.slice t n0 k0) (.slice u n1 k1) (.slice x G k2) (.slice y H k3) (.slice z I k4));have l:=pG (((ku T).kw6 (b:=w.heap.size) (wJ _) (.slice t n0 k0) (.slice u n1 k1) (.slice x G k2) (.slice y H k3) (.slice z I k4)).trans (.of_below i));have aC:=pG (((ku U).stay ((kj4.refl _ w1).kw6 (b:=w.heap.size) (Or.inl ay) (.slice t n0 k0) (.slice u n1 k1) (.slice x G k2) (.slice y H k3) (.slice z I k4)).block).stay (λk _ hk=>i.block k hk));have g:=pG a9;have d:=pG aA;clear i a9 aA s W T U hq;cases a:j.bad
 ·cases A:((tk L j.at_).kind.toList==pJ)
  ·rw[a,A]at f;go_wp2_with fail
   refine(qzh _ (w.heap.size+1) _ L r (ku g)).mono ?_;rintro e w3 ⟨rfl,E,C⟩;have a5:(kkj L r).place=(tk L j.at_).at_:=by
    unfold kkj;rw[((ku c).good a).1,((ku c).good a).2.1];rfl
   obtain⟨c0,c1,c2,c3,c4,_⟩:=qj3 E.pd;rw[a5]at c4;rw[show(kkj L r).failed=true from rfl]at c3;have p:=C.row (b:=w.heap.size) aj (ku d);obtain⟨J,d1,d2,d3,d4,K,M,N,O,P⟩:=jl p;have aH:=wu E.pd;have aG:=wu p;have aB:=pG ((ku l).trans C);have aF:=pG p;clear E C p a5 g d l;go_wp2
   go_region
   all_goals
    go_wp2
    refine rY (v:=.tuple #[.agg #[.slice none 0 0,.slice none 0 0,.slice none 0 0,.slice none 0 0,.slice none 0 0],.int .i64 (tk L j.at_).at_,.bool false]) ?_ rfl ?_
    ·have:=kjw (ku aF) (.slice none 0 0) (.slice none 0 0) (.slice none 0 0) (.slice none 0 0) (.slice none 0 0);exact um results52 _ _ w.heap.size _ _ _ _ rfl this underlying68 rfl ah
    ·exact⟨Kept.toBelow ((ku aB).kw6 (b:=w.heap.size) (wJ _) _ _ _ _ _).drew aj (wJ _),Or.inr ⟨_,ku f,rfl⟩⟩
  ·rw[a,A]at f;obtain⟨c0,c1,c2,c3,c4,_⟩:=qj3 (ku g).pd;rw[((ku c).good a).1]at c3;obtain⟨J,d1,d2,d3,d4,K,M,N,O,P⟩:=jl (ku d);have aE:=pG ((ku aD) a);go_wp2
   refine rY (v:=.tuple #[.agg #[.slice t n0 k0,.slice u n1 k1,.slice x G k2,.slice y H k3,.slice z I k4],.int .i64 0,.bool true]) (um results52 _ _ w.heap.size _ _ _ _ rfl (kjw (ku d) _ _ _ _ _) underlying68 rfl ah) rfl ?_;refine⟨Kept.toBelow ((ku l).kw6 (b:=w.heap.size) (wJ _) _ _ _ _ _) aj (wJ _),Or.inl ⟨ku f,_,_,_,_,_,rfl,?_⟩⟩;rw[show zh (yx L).1=m from(ku aE).symm];exact((ku aC).stay ((kj4.refl _ w2).kw6 (b:=w.heap.size) (Or.inl ay) _ _ _ _ _).block).mono ay
 ·rw[a]at f;obtain⟨c0,c1,c2,c3,c4,_⟩:=qj3 (ku g).pd;rw[((ku c).bad a).1]at c3;rw[((ku c).bad a).2.2]at c4;obtain⟨J,d1,d2,d3,d4,K,M,N,O,P⟩:=jl (ku d);have aH:=wu (ku g).pd;have aG:=wu (ku d);go_wp2
  go_region
  all_goals
   go_wp2
   refine rY (v:=.tuple #[.agg #[.slice none 0 0,.slice none 0 0,.slice none 0 0,.slice none 0 0,.slice none 0 0],.int .i64 (tk L j.at_).at_,.bool false]) ?_ rfl ?_
   ·have:=kjw (ku d) (.slice none 0 0) (.slice none 0 0) (.slice none 0 0) (.slice none 0 0) (.slice none 0 0);exact um results52 _ _ w.heap.size _ _ _ _ rfl this underlying68 rfl ah
   ·exact⟨Kept.toBelow ((ku l).kw6 (b:=w.heap.size) (wJ _) _ _ _ _ _).drew aj (wJ _),Or.inr ⟨_,ku f,rfl⟩⟩
def uh {α:Type}(f:Int->Nat->α->Int):List α->Nat->Int->Int
 |[],_,a=>a
 |x::xs,i,a=>uh f xs (i+1) (f a i x)
def jkq (a:Int)(i:Nat)(s:PSet):Int:=jd (jd a (kx1 i 2 s.name)) (zzf s.size 2 3)
def zya (a:Int)(i:Nat)(m:Tok):Int:=jd a (kx1 i 4 m)
def jkx (a:Int)(i:Nat)(k:PKind):Int:=uh zya k.members 0 (jd a (kx1 i 2 k.name))
def jk9 (a:Int)(i:Nat)(v:PVar):Int:=if v.top.kind.toList==oQ then jd (jd a (kx1 i 4 v.name)) (zzf v.top 1 3) else jd a (kx1 i 4 v.name)
def jkj (a:Int)(i:Nat)(r:PRule):Int:=jd a (kx1 i 5 r.name)
def manyN (a:Int)(i:Nat)(r:PRule):Int:=jd a (kx1 i 3 r.name)
def zyo (a:Int)(i:Nat)(p:PP):Int:=jd a (kx1 i 2 p.name)
def jkz (a:Int)(_:Nat)(r:PRule):Int:=uh zyo r.params 0 a
def many1 (t:PTree):Int:=uh jkq t.sets 0 (-1)
def jq1 (t:PTree):Int:=uh jkx t.kinds 0 (many1 t)
def jq0 (t:PTree):Int:=uh jk9 t.vars 0 (jq1 t)
def zyi (t:PTree):Int:=uh jkj t.rules 0 (jq0 t)
def zye (t:PTree):Int:=uh manyN t.nevers 0 (zyi t)
def kxm (t:PTree):Int:=uh jkz (t.rules++t.nevers) 0 (zye t)
def kju {α:Type}(W:World)(f:Int->Nat->α->Int)(items:List α)(z:Int)(at_ i:Value)(wr:World):Prop:=
 ∃(k:Nat) (a:Int),k<=items.length/\i=.int .i64 k/\at_=.int .i64 a/\uh f (items.drop k) k a=uh f items 0 z/\pU W wr
theorem kju.start (hb:pU W wr):kju W f items z (.int .i64 z) (.int .i64 0) wr:=
 ⟨0,z,rW _,rfl,rfl,rfl,hb⟩
theorem kju.next {b: Int}  (c:k<items.length)(h:uh f (items.drop k) k a=uh f items 0 z)(hb:b=f a k items[k])(d:pU W wr):
  kju W f items z (.int .i64 b) (.int .i64 ((k:Int)+1)) wr:=by
 refine⟨k+1,b,c,eu,rfl,?_,d⟩;rw[rM c,uh]at h;rw[hb];exact h
theorem kqy (b:¬k<items.length)(h:uh f (items.drop k) k a=uh f items 0 z):a=uh f items 0 z:=by
 rw[QG aj,uh]at h;exact h
def qyj (t:Tok):Prop:=∃h:0<t.text.size,48<=((t.text[0]'h).toNat:Int)/\((t.text[0]'h).toNat:Int)<=57
theorem jzt (w:World)(T:Nat)(t:PTree)(h:kqr w T t)(ht:TreeOk t)(hr:t.rules.length<=801)(hn:t.nevers.length<=801)(hp:∀r∈t.rules++t.nevers,r.params.length<=801)
  (b3:∀s∈t.sets,qyj s.size) (b4:∀v∈t.vars,(v.top.kind.toList==oQ)=true->qyj v.top):
  qJ 62 #[.pointer (some ⟨T,0,none⟩)] w λe w'=>e=.returned (.int .i64 (kxm t))/\pU w w':=by
 have HT:=pG h;obtain⟨bU,bT,bV,b5⟩:=ht;obtain⟨x0,x1,x2,x3,x4,y1,y3,y4,hT,h0,⟨h1,aW⟩,h2,⟨h3,aX⟩,⟨h4,aY⟩⟩:=h;obtain⟨q0,q1,q2,q3,q4,_⟩:=kxh hT;obtain⟨a0,bO,rfl,aC⟩:=kq5 h0;obtain⟨a1,bP,rfl,aD⟩:=kq5 h1;obtain⟨a2,bQ,rfl,aE⟩:=kq5 h2;obtain⟨a3,bR,rfl,aF⟩:=kq5 h3;obtain⟨a4,bS,rfl,aG⟩:=kq5 h4;have bF:=pG aC;have bG:=pG aD;have bH:=pG aE;have bI:=pG aF;have bJ:=pG aG;have HK:=pG aW;have bC:=pG aX;have bD:=pG aY;have b9:=pG b3;have bA:=pG b4;have HP:=pG hp;have bB:=pG b5;have E:=pG (kju.start (f:=jkq) (items:=t.sets) (z:=-1) (Below.refl w.heap.size w));clear h0 h1 aW h2 h3 aX h4 aY aC aD aE aF aG hT b3 b4 hp b5;go_enter func62,ntmps62
 go_wp2_with fail
 go_loopw [3,4] (λat_ i wr=>kju w jkq t.sets (-1) at_ i wr) (λ_ i _=>t.sets.length-(intOf i).toNat)
 case atStart=>exact ku E
 case round=>
  obtain⟨k,a,aA,rfl,rfl,m,c⟩:=hrel;have F:=pG m;have K:=pG c;have J:=c.size;have p0:=wZ c q0;by_cases d:k<t.sets.length
  ·obtain⟨g,rfl,u⟩:=ku bF k d;have Z:w.cell? ⟨g,k*6,none⟩=some (.string (t.sets[k]).name.kind):=(u _ aj).trans (xq kz6 6 (λ_=>rfl) t.sets k 0 d aj);have e1:w.cell? ⟨g,k*6+1,none⟩=some (.string (t.sets[k]).name.text):=(u _ aj).trans (xq kz6 6 (λ_=>rfl) t.sets k 1 d aj);have e2:w.cell? ⟨g,k*6+2,none⟩=some (.int .i64 (t.sets[k]).name.at_):=(u _ aj).trans (xq kz6 6 (λ_=>rfl) t.sets k 2 d aj);have e3:w.cell? ⟨g,k*6+3,none⟩=some (.string (t.sets[k]).size.kind):=(u _ aj).trans (xq kz6 6 (λ_=>rfl) t.sets k 3 d aj);have e4:w.cell? ⟨g,k*6+4,none⟩=some (.string (t.sets[k]).size.text):=(u _ aj).trans (xq kz6 6 (λ_=>rfl) t.sets k 4 d aj);have e5:w.cell? ⟨g,k*6+5,none⟩=some (.int .i64 (t.sets[k]).size.at_):=(u _ aj).trans (xq kz6 6 (λ_=>rfl) t.sets k 5 d aj);have c0:=wZ c Z;have c1:=wZ c e1;have c2:=wZ c e2;have V:=ku b9 _ (wX d);have q:=pG (λ(w':World) (b:Int) (hb:b=jd (jd a (kx1 (k:Int) 2 (t.sets[k]).name)) (zzf (t.sets[k]).size 2 3)) N=>kju.next (W:=w) (wr:=w') (f:=jkq) (items:=t.sets) (z:=(-1)) (a:=a) (b:=b) d m hb N);generalize (t.sets[k]).name=x at Z e1 e2 c0 c1 c2 q;generalize (t.sets[k]).size=y at e3 e4 e5 V q;have aI:=pG V;clear u m F c V;go_wp2_with fail
   refine(kyz (k:Int) 2 x _).mono ?_;rintro e u1 ⟨rfl,C⟩;generalize B:kx1 (k:Int) 2 x=Q;have H:=pG B;have l:=pG ((ku K).trans (C.mono J));have X:=(ku l).size;clear B C;go_wp2_with fail
   refine(first_any _ _ _).mono ?_;rintro e a5 ⟨rfl,rfl⟩;generalize A:jd a Q=Y;have G:=pG A;clear A;have p1:=wZ (ku l) q0;have c3:=wZ (ku l) e3;have c4:=wZ (ku l) e4;have c5:=wZ (ku l) e5;go_wp2_with fail
   refine(vqx y 2 3 _ (ku aI)).mono ?_;rintro e u2 ⟨rfl,U⟩;generalize S:zzf y 2 3=P2;have a8:=pG S;have M:=pG ((ku l).trans (U.mono X));have b6:=(ku M).size;clear S U;go_wp2_with fail
   refine(first_any _ _ _).mono ?_;rintro e b7 ⟨rfl,rfl⟩;generalize R:jd Y P2=F2;have a7:=pG R;clear R;have p2:=wZ (ku M) q0;go_wp2
   go_roundw
   case rel=>exact ku q _ _ (by rw[ku H,ku G,ku a8,ku a7]) (ku M)
   case measure=>exact qQ
  ·have p:=kqy d m;have L:=pG (show kju w jkx t.kinds (many1 t) (.int .i64 a) (.int .i64 0) wr by rw[p];exact kju.start c);clear p m F E c K;have E:=L;clear L;go_wp2_with fail
   go_loopw [3,5,6] (λat_ i _ wr=>kju w jkx t.kinds (many1 t) at_ i wr) (λ_ i _ _=>t.kinds.length-(intOf i).toNat)
   case atStart=>exact ku E
   case round=>
    obtain⟨k,a,aA,rfl,rfl,m,c⟩:=hrel;have F:=pG m;have K:=pG c;have J:=c.size;have p0:=wZ c q1;by_cases d:k<t.kinds.length
    ·obtain⟨g,rfl,u⟩:=ku bG k d;obtain⟨vm,f0,f1,f2,f3,hm⟩:=qqd k d (ku HK);have Z:=wZ c ((u (k*4) aj).trans f0);have e1:=wZ c ((u (k*4+1) aj).trans f1);have e2:=wZ c ((u (k*4+2) aj).trans f2);have e3:=(u (k*4+3) aj).trans f3;have bL:=ku bB _ (wX d);have q:=pG (λ(w':World) (b:Int) (hb:b=uh zya (t.kinds[k]).members 0 (jd a (kx1 (k:Int) 2 (t.kinds[k]).name))) N=>kju.next (W:=w) (wr:=w') (f:=jkx) (items:=t.kinds) (z:=(many1 t)) (a:=a) (b:=b) d m hb N);generalize (t.kinds[k]).name=x0 at Z e1 e2 q;generalize (t.kinds[k]).members=ms at q hm bL;obtain⟨ma,mc,rfl,aB⟩:=kq5 hm;have aK:=pG aB;clear u f0 f1 f2 f3 hm aB m F c;go_wp2_with fail
     refine(kyz (k:Int) 2 x0 _).mono ?_;rintro e u1 ⟨rfl,C⟩;generalize B:kx1 (k:Int) 2 x0=Q;have H:=pG B;have l:=pG ((ku K).trans (C.mono J));have X:=(ku l).size;clear B C;go_wp2_with fail
     refine(first_any _ _ _).mono ?_;rintro e a5 ⟨rfl,rfl⟩;generalize A:jd a Q=Y;have G:=pG A;clear A;have p1:=wZ (ku l) q1;have c3:=wZ (ku l) e3;have aJ:=pG (kju.start (f:=zya) (items:=ms) (z:=Y) (ku l));go_wp2_with fail
     go_loopw [3,6] (λat_ i wr=>kju w zya ms Y at_ i wr) (λ_ i _=>ms.length-(intOf i).toNat)
     case atStart=>exact ku aJ
     case round=>
      obtain⟨j,b,bK,rfl,rfl,P,D⟩:=hrel;have aH:=pG D;have aR:=D.size;have pi:=wZ D q1;have c3:=wZ D e3;by_cases I:j<ms.length
      ·obtain⟨gm,rfl,O⟩:=ku aK j I;have d0:=wZ D ((O (j*3) aj).trans (xq jr 3 (λ_=>rfl) ms j 0 I aj));have d1:=wZ D ((O (j*3+1) aj).trans (xq jr 3 (λ_=>rfl) ms j 1 I aj));have d2:=wZ D ((O (j*3+2) aj).trans (xq jr 3 (λ_=>rfl) ms j 2 I aj));have a9:=pG (λ(w':World) (b':Int) (hb:b'=jd b (kx1 (j:Int) 4 (ms[j]))) N=>kju.next (W:=w) (wr:=w') (f:=zya) (items:=ms) (z:=Y) (a:=b) (b:=b') I P hb N);generalize hx:ms[j]=x at a9;replace d0:wr.cell? ⟨gm,j*3,none⟩=some (Value.string x.kind):=by rw[<-hx];exact d0
       replace d1:wr.cell? ⟨gm,j*3+1,none⟩=some (Value.string x.text):=by rw[<-hx];exact d1
       replace d2:wr.cell? ⟨gm,j*3+2,none⟩=some (Value.int .i64 x.at_):=by rw[<-hx];exact d2
       clear hx O D P;go_wp2_with fail
       refine(kyz (j:Int) 4 x _).mono ?_;rintro e u2 ⟨rfl,U⟩;generalize S:kx1 (j:Int) 4 x=P2;have a8:=pG S;have M:=pG ((ku aH).trans (U.mono aR));have b6:=(ku M).size;clear S U;go_wp2_with fail
       refine(first_any _ _ _).mono ?_;rintro e b7 ⟨rfl,rfl⟩;generalize R:jd b P2=F2;have a7:=pG R;clear R;go_wp2
       go_roundw
       case rel=>exact ku a9 _ _ (by rw[ku a8,ku a7]) (ku M)
       case measure=>exact qQ
      ·have p:=kqy I P;have aL:=pG (ku q _ b (by rw[ku H,ku G];exact p) D);clear p P D;go_wp2
       go_roundw
       case rel=>exact ku aL
       case measure=>exact qQ
    ·have p:=kqy d m;have L:=pG (show kju w jk9 t.vars (jq1 t) (.int .i64 a) (.int .i64 0) wr by rw[p];exact kju.start c);clear p m F E c K;have E:=L;clear L;go_wp2_with fail
     go_loopw [3,7] (λat_ i wr=>kju w jk9 t.vars (jq1 t) at_ i wr) (λ_ i _=>t.vars.length-(intOf i).toNat)
     case atStart=>exact ku E
     case round=>
      obtain⟨k,a,aA,rfl,rfl,m,c⟩:=hrel;have F:=pG m;have K:=pG c;have J:=c.size;have p0:=wZ c q2;by_cases d:k<t.vars.length
      ·obtain⟨g,rfl,u⟩:=ku bH k d;have Z:w.cell? ⟨g,k*12,none⟩=some (.string (t.vars[k]).name.kind):=(u _ aj).trans (xq kqu 12 (λ_=>rfl) t.vars k 0 d aj);have e1:w.cell? ⟨g,k*12+1,none⟩=some (.string (t.vars[k]).name.text):=(u _ aj).trans (xq kqu 12 (λ_=>rfl) t.vars k 1 d aj);have e2:w.cell? ⟨g,k*12+2,none⟩=some (.int .i64 (t.vars[k]).name.at_):=(u _ aj).trans (xq kqu 12 (λ_=>rfl) t.vars k 2 d aj);have e9:w.cell? ⟨g,k*12+9,none⟩=some (.string (t.vars[k]).top.kind):=(u _ aj).trans (xq kqu 12 (λ_=>rfl) t.vars k 9 d aj);have aM:w.cell? ⟨g,k*12+10,none⟩=some (.string (t.vars[k]).top.text):=(u _ aj).trans (xq kqu 12 (λ_=>rfl) t.vars k 10 d aj);have aN:w.cell? ⟨g,k*12+11,none⟩=some (.int .i64 (t.vars[k]).top.at_):=(u _ aj).trans (xq kqu 12 (λ_=>rfl) t.vars k 11 d aj);have c0:=wZ c Z;have c1:=wZ c e1;have c2:=wZ c e2;have V:=ku bA _ (wX d);have q:=pG (λ(w':World) (b:Int) (hb:b=if (t.vars[k]).top.kind.toList==oQ then jd (jd a (kx1 (k:Int) 4 (t.vars[k]).name)) (zzf (t.vars[k]).top 1 3) else jd a (kx1 (k:Int) 4 (t.vars[k]).name)) N=>kju.next (W:=w) (wr:=w') (f:=jk9) (items:=t.vars) (z:=(jq1 t)) (a:=a) (b:=b) d m hb N);generalize (t.vars[k]).name=x at Z e1 e2 c0 c1 c2 q;generalize (t.vars[k]).top=y at e9 aM aN V q;clear u m F c;cases cd:(y.kind.toList==oQ)
       ·rw[cd]at q;clear V;go_wp2_with fail
        refine(kyz (k:Int) 4 x _).mono ?_;rintro e u1 ⟨rfl,C⟩;generalize B:kx1 (k:Int) 4 x=Q;have H:=pG B;have l:=pG ((ku K).trans (C.mono J));have X:=(ku l).size;clear B C;go_wp2_with fail
        refine(first_any _ _ _).mono ?_;rintro e a5 ⟨rfl,rfl⟩;generalize A:jd a Q=Y;have G:=pG A;clear A;have p1:=wZ (ku l) q2;have c9:=wZ (ku l) e9;have c10:=wZ (ku l) aM;have c11:=wZ (ku l) aN;go_wp2
        go_roundw
        case rel=>exact ku q _ _ (by rw[ku H,ku G,if_neg ak]) (ku l)
        case measure=>exact qQ
       ·rw[cd]at q;have aI:=pG (V cd);clear V;go_wp2_with fail
        refine(kyz (k:Int) 4 x _).mono ?_;rintro e u1 ⟨rfl,C⟩;generalize B:kx1 (k:Int) 4 x=Q;have H:=pG B;have l:=pG ((ku K).trans (C.mono J));have X:=(ku l).size;clear B C;go_wp2_with fail
        refine(first_any _ _ _).mono ?_;rintro e a5 ⟨rfl,rfl⟩;generalize A:jd a Q=Y;have G:=pG A;clear A;have p1:=wZ (ku l) q2;have c9:=wZ (ku l) e9;have c10:=wZ (ku l) aM;have c11:=wZ (ku l) aN;go_wp2_with fail
        refine(vqx y 1 3 _ (ku aI)).mono ?_;rintro e u2 ⟨rfl,U⟩;generalize S:zzf y 1 3=P2;have a8:=pG S;have M:=pG ((ku l).trans (U.mono X));have b6:=(ku M).size;clear S U;go_wp2_with fail
        refine(first_any _ _ _).mono ?_;rintro e b7 ⟨rfl,rfl⟩;generalize R:jd Y P2=F2;have a7:=pG R;clear R;have p2:=wZ (ku M) q2;go_wp2
        go_roundw
        case rel=>exact ku q _ _ (by rw[if_pos (by trivial),ku H,ku G,ku a8,ku a7]) (ku M)
        case measure=>exact qQ
      ·have p:=kqy d m;have L:=pG (show kju w jkj t.rules (jq0 t) (.int .i64 a) (.int .i64 0) wr by rw[p];exact kju.start c);clear p m F E c K;have E:=L;clear L;go_wp2_with fail
       go_loopw [3,8] (λat_ i wr=>kju w jkj t.rules (jq0 t) at_ i wr) (λ_ i _=>t.rules.length-(intOf i).toNat)
       case atStart=>exact ku E
       case round=>
        obtain⟨k,a,aA,rfl,rfl,m,c⟩:=hrel;have F:=pG m;have K:=pG c;have J:=c.size;have p0:=wZ c q3;by_cases d:k<t.rules.length
        ·obtain⟨g,rfl,u⟩:=ku bI k d;obtain⟨_,_,_,_,⟨f0,f1,f2,_⟩,_⟩:=kvl k d (ku bC);have Z:=wZ c ((u (k*6) aj).trans f0);have e1:=wZ c ((u (k*6+1) aj).trans f1);have e2:=wZ c ((u (k*6+2) aj).trans f2);have q:=pG (λ(w':World) (b:Int) (hb:b=jd a (kx1 (k:Int) 5 (t.rules[k]).name)) N=>kju.next (W:=w) (wr:=w') (f:=jkj) (items:=t.rules) (z:=(jq0 t)) (a:=a) (b:=b) d m hb N);generalize (t.rules[k]).name=x at Z e1 e2 q;clear u f0 f1 f2 m F c;go_wp2_with fail
         refine(kyz (k:Int) 5 x _).mono ?_;rintro e u1 ⟨rfl,C⟩;generalize B:kx1 (k:Int) 5 x=Q;have H:=pG B;have l:=pG ((ku K).trans (C.mono J));have X:=(ku l).size;clear B C;go_wp2_with fail
         refine(first_any _ _ _).mono ?_;rintro e a5 ⟨rfl,rfl⟩;generalize A:jd a Q=Y;have G:=pG A;clear A;have p1:=wZ (ku l) q3;go_wp2
         go_roundw
         case rel=>exact ku q _ _ (by rw[ku H,ku G]) (ku l)
         case measure=>exact qQ
        ·have p:=kqy d m;have L:=pG (show kju w manyN t.nevers (zyi t) (.int .i64 a) (.int .i64 0) wr by rw[p];exact kju.start c);clear p m F E c K;have E:=L;clear L;go_wp2_with fail
         go_loopw [3,9] (λat_ i wr=>kju w manyN t.nevers (zyi t) at_ i wr) (λ_ i _=>t.nevers.length-(intOf i).toNat)
         case atStart=>exact ku E
         case round=>
          obtain⟨k,a,aA,rfl,rfl,m,c⟩:=hrel;have F:=pG m;have K:=pG c;have J:=c.size;have p0:=wZ c q4;by_cases d:k<t.nevers.length
          ·obtain⟨g,rfl,u⟩:=ku bJ k d;obtain⟨_,_,_,_,⟨f0,f1,f2,_⟩,_⟩:=kvl k d (ku bD);have Z:=wZ c ((u (k*6) aj).trans f0);have e1:=wZ c ((u (k*6+1) aj).trans f1);have e2:=wZ c ((u (k*6+2) aj).trans f2);have q:=pG (λ(w':World) (b:Int) (hb:b=jd a (kx1 (k:Int) 3 (t.nevers[k]).name)) N=>kju.next (W:=w) (wr:=w') (f:=manyN) (items:=t.nevers) (z:=(zyi t)) (a:=a) (b:=b) d m hb N);generalize (t.nevers[k]).name=x at Z e1 e2 q;clear u f0 f1 f2 m F c;go_wp2_with fail
           refine(kyz (k:Int) 3 x _).mono ?_;rintro e u1 ⟨rfl,C⟩;generalize B:kx1 (k:Int) 3 x=Q;have H:=pG B;have l:=pG ((ku K).trans (C.mono J));have X:=(ku l).size;clear B C;go_wp2_with fail
           refine(first_any _ _ _).mono ?_;rintro e a5 ⟨rfl,rfl⟩;generalize A:jd a Q=Y;have G:=pG A;clear A;have p1:=wZ (ku l) q4;go_wp2
           go_roundw
           case rel=>exact ku q _ _ (by rw[ku H,ku G]) (ku l)
           case measure=>exact qQ
          ·have p:=kqy d m;clear E;go_wp2_with fail
           refine(qz2 _ T t ((ku HT).below c) hr hn).mono ?_;rintro e w4 ⟨rv,rs,rfl,a6,aP,b2⟩;have aU:=pG aP;have aS:=pG (c.trans (b2.mono J));obtain⟨ra,rc,rfl,aQ⟩:=kq5 a6;have aV:=pG aQ;have E:=pG (show kju w4 jkz (t.rules++t.nevers) (zye t) (.int .i64 a) (.int .i64 0) w4 by rw[p];exact kju.start (Below.refl _ _));have aT:=pG (show t.rules++t.nevers=t.rules++t.nevers from rfl);have bN:(t.rules++t.nevers).length<=1602:=kQ;generalize aZ:t.rules++t.nevers=RN at E aU aV bN HP aQ a6;replace aT:=pG aZ
           clear a6 aP b2 c aQ p m F K p0 q0 q1 q2 q3 q4 aZ;go_wp2_with fail
           go_loopw [3,11,12] (λat_ i _ wr=>kju w4 jkz RN (zye t) at_ i wr) (λ_ i _ _=>RN.length-(intOf i).toNat)
           case atStart=>exact ku E
           case round=>
            obtain⟨k,a,aA,rfl,rfl,m,c⟩:=hrel;have F:=pG m;have K:=pG c;have J:=c.size;by_cases d:k<RN.length
            ·obtain⟨g,rfl,u⟩:=ku aV k d;obtain⟨vp,_,_,_,⟨_,_,_,f3,_,_⟩,aO,_⟩:=kvl k d (ku aU);have e3:=(u (k*6+3) aj).trans f3;have bM:=ku HP _ (wX d);have q:=pG (λ(w':World) (b:Int) (hb:b=uh zyo (RN[k]).params 0 a) N=>kju.next (W:=w4) (wr:=w') (f:=jkz) (items:=RN) (z:=(zye t)) (a:=a) (b:=b) d m hb N);generalize (RN[k]).params=ps at q aO bM;obtain⟨ma,mc,rfl,aB⟩:=kq5 aO;have aK:=pG aB;have aJ:=pG (kju.start (f:=zyo) (items:=ps) (z:=a) c);have c3:=wZ c e3;clear u f3 aO aB m F c;go_wp2_with fail
             go_loopw [3,12] (λat_ i wr=>kju w4 zyo ps a at_ i wr) (λ_ i _=>ps.length-(intOf i).toNat)
             case atStart=>exact ku aJ
             case round=>
              obtain⟨j,b,bK,rfl,rfl,P,D⟩:=hrel;have aH:=pG D;have aR:=D.size;have c3:=wZ D e3;by_cases I:j<ps.length
              ·obtain⟨gm,rfl,O⟩:=ku aK j I;have d0:=wZ D ((O (j*6) aj).trans (xq kkw 6 (λ_=>rfl) ps j 0 I aj));have d1:=wZ D ((O (j*6+1) aj).trans (xq kkw 6 (λ_=>rfl) ps j 1 I aj));have d2:=wZ D ((O (j*6+2) aj).trans (xq kkw 6 (λ_=>rfl) ps j 2 I aj));have a9:=pG (λ(w':World) (b':Int) (hb:b'=jd b (kx1 (j:Int) 2 (ps[j]).name)) N=>kju.next (W:=w4) (wr:=w') (f:=zyo) (items:=ps) (z:=a) (a:=b) (b:=b') I P hb N);generalize hx:(ps[j]).name=x at a9;replace d0:wr.cell? ⟨gm,j*6,none⟩=some (Value.string x.kind):=by rw[<-hx];exact d0
               replace d1:wr.cell? ⟨gm,j*6+1,none⟩=some (Value.string x.text):=by rw[<-hx];exact d1
               replace d2:wr.cell? ⟨gm,j*6+2,none⟩=some (Value.int .i64 x.at_):=by rw[<-hx];exact d2
               clear hx O D P;go_wp2_with fail
               refine(kyz (j:Int) 2 x _).mono ?_;rintro e u1 ⟨rfl,C⟩;generalize B:kx1 (j:Int) 2 x=Q;have H:=pG B;have l:=pG ((ku aH).trans (C.mono aR));have X:=(ku l).size;clear B C;go_wp2_with fail
               refine(first_any _ _ _).mono ?_;rintro e a5 ⟨rfl,rfl⟩;generalize A:jd b Q=Y;have G:=pG A;clear A;go_wp2
               go_roundw
               case rel=>exact ku a9 _ _ (by rw[ku H,ku G]) (ku l)
               case measure=>exact qQ
              ·have p:=kqy I P;have aL:=pG (ku q _ b p D);clear p P D;go_wp2
               go_roundw
               case rel=>exact ku aL
               case measure=>exact qQ
            ·have p:=kqy d m;have HE:=pG (show a=kxm t by rw[p,kxm,<-ku aT]);have b8:=pG ((ku aS).trans ((ku K).mono (ku aS).size));clear p m F E;go_wp2
             go_ret
             exact⟨kqv (ku HE),ku b8⟩
def fAt (z:Int):Int:=if z<0 then 0 else z
def qj4 (w:World)(B o:Nat)(z a:Int):World:=if z<0\/a<z then (w.setCell ⟨B,o,none⟩ (.bool true)).setCell ⟨B,o+1,none⟩ (.int .i64 a) else w
theorem note_any (w:World)(B o:Nat)(z a:Int)(c0:w.cell? ⟨B,o,none⟩=some (.bool (decide (0<=z))))(c1:w.cell? ⟨B,o+1,none⟩=some (.int .i64 (fAt z)))(f0:w.frozen? ⟨B,o,none⟩=false)(f1:w.frozen? ⟨B,o+1,none⟩=false):
  qJ 212 #[.pointer (some ⟨B,o,none⟩),.int .i64 a] w λe w'=>e=.returned (.tuple #[])/\w'=qj4 w B o z a:=by
 by_cases b:z<0
 ·have E:=pG (show qj4 w B o z a=(w.setCell ⟨B,o,none⟩ (.bool true)).setCell ⟨B,o+1,none⟩ (.int .i64 a) by unfold qj4;rw[if_pos (Or.inl b)]);rw[show decide (0<=z)=false by simp;omega]at c0;go_enter func212,ntmps212
  go_wp2
  go_end0
  rw[ku E];exact⟨rfl,rfl⟩
 ·rw[show decide (0<=z)=true by simp;omega]at c0;rw[show fAt z=z by unfold fAt;rw[if_neg b]]at c1;by_cases c:a<z
  ·have E:=pG (show qj4 w B o z a=(w.setCell ⟨B,o,none⟩ (.bool true)).setCell ⟨B,o+1,none⟩ (.int .i64 a) by unfold qj4;rw[if_pos (Or.inr c)]);go_enter func212,ntmps212
   go_wp2
   go_end0
   rw[ku E];exact⟨rfl,rfl⟩
  ·have E:=pG (show qj4 w B o z a=w by unfold qj4;rw[if_neg aj]);go_enter func212,ntmps212
   go_wp2
   go_end0
   rw[ku E];exact⟨rfl,rfl⟩
def FB (w:World)(B:Nat)(z:Int):Prop:=w.heap[B]?=some (.cells #[.bool (decide (0<=z)),.int .i64 (fAt z)] 199 (0,0))
theorem zzg (z a:Int)(b:0<=a):jd z a=if z<0\/a<z then a else z:=by
 unfold jd;by_cases h:z<0\/a<z
 ·rw[if_pos h,if_pos aj]
 ·rw[if_neg h,if_neg aj]
theorem FB.note (h:FB w B z)  (c:0<=a):FB (qj4 w B 0 z a) B (jd z a):=by
 unfold FB at *;rw[zzg z a c];unfold qj4;by_cases b:z<0\/a<z
 ·rw[if_pos b,if_pos b];have:=set2 h (.bool true) (.int .i64 a);rw[show decide (0<=a)=true by simp;omega,show fAt a=a by unfold fAt;rw[if_neg aj]];exact this
 ·rw[if_neg b,if_neg b];exact h
theorem Kept.note (B o:Nat)(w:World)(z a:Int):Kept B w (qj4 w B o z a):=by
 unfold qj4;split
 ·exact((Kept.refl _ _).kzq _ _).kzq _ _
 ·exact Kept.refl _ _
theorem FB.kept {w': World}   (h:FB w B z)(hb:pU w w'):FB w' B z:=by
 unfold FB at *;rw[hb.block B (wu h)];exact h
def qjm (z:Int)(n:Int)(a:Int)(t:Tok):Int:=if a<=n then jd z t.at_ else z
def jva (z:Int)(t:Tok)(lo hi:Int):Int:=if kq8 t.text<lo\/hi<kq8 t.text then jd z t.at_ else z
theorem count_any (w:World)(B:Nat)(z n a:Int)(t:Tok)(h:FB w B z):
  qJ 153 #[.pointer (some ⟨B,0,none⟩),.int .i64 n,.int .i64 a,ptV t] w λe w'=>e=.returned (.tuple #[])/\FB w' B (qjm z n a t)/\Kept B w w':=by
 unfold ptV;have f:=wu h;by_cases b:a<=n
 ·have E:=pG (show qjm z n a t=jd z t.at_ by unfold qjm;rw[if_pos b]);have h1:FB (w.alloc (.cells #[.string t.text,.int .i64 t.at_] 107)) B z:=h.kept (below_alloc1 _ _);obtain⟨c0,c1,f0,f1⟩:=kj0 h1;have c:=pG h1;go_enter func153,ntmps153
  go_wp2_with fail
  refine(note_any _ B 0 z t.at_ c0 c1 f0 f1).mono ?_;rintro e g ⟨rfl,d⟩;subst d;go_wp2
  go_end0
  rw[ku E];exact⟨rfl,(ku c).note aj,(Kept.kqn _).trans (Kept.note _ _ _ _ _)⟩
 ·have E:=pG (show qjm z n a t=z by unfold qjm;rw[if_neg b]);go_enter func153,ntmps153
  go_wp2
  go_end0
  rw[ku E];exact⟨rfl,h.kept (below_alloc1 _ _),Kept.kqn _⟩
theorem size_any (w:World)(B:Nat)(z lo hi:Int)(t:Tok)(h:FB w B z):
  qJ 154 #[.pointer (some ⟨B,0,none⟩),dgV t,.int .i64 lo,.int .i64 hi] w λe w'=>e=.returned (.tuple #[])/\FB w' B (jva z t lo hi)/\Kept B w w':=by
 unfold dgV;have i:=wu h;have h1:FB (w.alloc (.cells #[.int .i64 (kq8 t.text),.int .i64 t.at_] 109)) B z:=h.kept (below_alloc1 _ _);obtain⟨c0,c1,f0,f1⟩:=kj0 h1;have a:=pG h1;have c:=pG (note_any _ B 0 z t.at_ c0 c1 f0 f1);have E:=pG (show jva z t lo hi=if kq8 t.text<lo\/hi<kq8 t.text then jd z t.at_ else z from rfl);generalize kq8 t.text=d at *;clear h1 c0 c1 f0 f1;by_cases h1:d<lo
 ·rw[if_pos (Or.inl h1)]at E;go_enter func154,ntmps154
  go_wp2_with fail
  refine(ku c).mono ?_;rintro e g ⟨rfl,b⟩;subst b;go_wp2
  go_end0
  rw[ku E];exact⟨rfl,(ku a).note aj,(Kept.kqn _).trans (Kept.note _ _ _ _ _)⟩
 ·by_cases f:hi<d
  ·rw[if_pos (Or.inr f)]at E;go_enter func154,ntmps154
   go_wp2_with fail
   refine(ku c).mono ?_;rintro e g ⟨rfl,b⟩;subst b;go_wp2
   go_end0
   rw[ku E];exact⟨rfl,(ku a).note aj,(Kept.kqn _).trans (Kept.note _ _ _ _ _)⟩
  ·rw[if_neg aj]at E;go_enter func154,ntmps154
   go_wp2
   go_end0
   rw[ku E];exact⟨rfl,ku a,Kept.kqn _⟩
theorem ql {lo e size:Nat}  {n:Nat}{xs:List Value}(h:w.ownsRow lo e size v n xs):
  ∃a cap,v=.slice a n cap/\∀i,i<n->∃g,a=some ⟨g,0,none⟩/\lo<=g/\g<w.heap.size/\∀j,j<n*size->w.cell? ⟨g,j,none⟩=xs[j]?:=by
 rcases h.2 with⟨rfl,rfl⟩|⟨g,cap,k,rfl,d,b,l,m,p,c⟩
 ·exact⟨none,0,rfl,λi hi=>aj⟩
 ·refine⟨_,cap,rfl,λi hi=>⟨g,rfl,d,wu b,λj f=>?_⟩⟩;rw[QK w g j _ _ _ b,<-c,Qo f];simp
def kvv {α:Type}(W:World)(B:Nat)(f:Int->Nat->α->Int)(items:List α)(z0:Int)(i:Value)(wr:World):Prop:=
 ∃(k:Nat) (a:Int),k<=items.length/\i=.int .i64 k/\uh f (items.drop k) k a=uh f items 0 z0/\FB wr B a/\Kept B W wr
theorem kvv.start (a:FB wr B z)(b:Kept B W wr):kvv W B f items z (.int .i64 0) wr:=
 ⟨0,z,rW _,rfl,rfl,a,b⟩
theorem kvv.next (b:k<items.length)(h:uh f (items.drop k) k a=uh f items 0 z)(c:FB wr B (f a k items[k]))(d:Kept B W wr):
  kvv W B f items z (.int .i64 ((k:Int)+1)) wr:=by
 refine⟨k+1,_,b,eu,?_,c,d⟩;rw[rM b,uh]at h;exact h
def jy7 (a:Int)(i:Nat)(p:PP):Int:=qjm a i 2 p.name
theorem qxl (w:World)(B lo:Nat)(z:Int)(l:List PP)(x:Value)(h:FB w B z)(V:l.length<=1000)(P:w.ownsRow lo 352 4 x l.length (xu l))(L:x.ownBlock≠some B):
  qJ 155 #[.pointer (some ⟨B,0,none⟩),x] w λe w'=>e=.returned (.tuple #[])/\FB w' B (uh jy7 l 0 z)/\Kept B w w':=by
 obtain⟨xa,cap,rfl,m⟩:=ql P;have K:=pG m;have H:=pG h;clear m h;go_enter func155,ntmps155
 go_wp2_with fail
 go_loopw [4,5,8] (λ_ _ i wr=>kvv w B jy7 l z i wr) (λ_ _ i _=>l.length-(intOf i).toNat)
 case atStart=>exact kvv.start (ku H) (Kept.refl _ _)
 case round=>
  obtain⟨k,a,U,rfl,A,y,b⟩:=hrel;have q:=pG A;have v:=pG y;have D:=pG b;have T:=b.size;clear A y;by_cases d:k<l.length
  ·obtain⟨g,rfl,R,S,u⟩:=ku K k d;have c:g≠B:=λe=>L (by simp[Value.ownBlock,e])
   have t:=λj (O:j<4)=>xq kzj 4 (λ_=>rfl) l k j d O
   have E:=b.cell (a:=⟨g,k*4+0,none⟩) c ((u (k*4+0) aj).trans (t 0 aj));have F:=b.cell (a:=⟨g,k*4+1,none⟩) c ((u (k*4+1) aj).trans (t 1 aj));have G:=b.cell (a:=⟨g,k*4+2,none⟩) c ((u (k*4+2) aj).trans (t 2 aj));have I:=b.cell (a:=⟨g,k*4+3,none⟩) c ((u (k*4+3) aj).trans (t 3 aj));have s:=pG (λ(w':World) (N:FB w' B (qjm a k 2 (l[k]).name)) (Q:Kept B w w')=>kvv.next (W:=w) (wr:=w') (B:=B) (f:=jy7) (items:=l) (z:=z) (a:=a) d (ku q) N Q);simp only[kzj,sZ,tu,sU]at E F G I;generalize l[k]=p at E F G I s;clear u t b q;go_wp2_with fail
   refine(count_any _ B a k 2 p.name ((ku v).kept (below_alloc1 _ _))).mono ?_;rintro e X ⟨rfl,h1,C⟩;have J:=pG (ku s _ h1 (((ku D).alloc _).trans C));clear h1 C s;go_wp2
   go_roundw
   case rel=>exact ku J
   case measure=>exact qQ
  ·have M:=kqy d (ku q);go_wp2
   go_end0
   rw[<-M];exact⟨rfl,ku v,ku D⟩
end Go.Proofs.YtpmcnonmkghokaaGreatDoor

import Derived.Test.YtpmcnonmkghokaaGreatDoorT07
import Derived.ArgAppend
import Derived.Laws.CopyOwn
import Derived.Laws.OwnMore
import Derived.Test.YtpmcnonmkghokaaGreatDoorT02
import Derived.Test.YtpmcnonmkghokaaGreatDoorT01
import Derived.Test.YtpmcnonmkghokaaGreatDoorT05
import Derived.Test.YtpmcnonmkghokaaGreatDoorT06
import Derived.Test.YtpmcnonmkghokaaGreatDoorT03
import Derived.Sort.LotA
import Derived.BigQuiet
import Derived.Shelf.SlSortCmp.NoneTotal
import Derived.Shelf.Spec.SlicesInsertGrow
import Derived.Shelf.Slices.ReverseS
import Derived.Shelf.SlLaysF
import Derived.Test.YtpmcnonmkghokaaGreatDoorRows
import Derived.Deep.CutRange
import Derived.Test.YtpmcnonmkghokaaGreatDoorT04
set_option maxRecDepth 100000
set_option maxHeartbeats 8000000
set_option linter.unusedVariables false
set_option linter.unusedSimpArgs false
namespace Go.Proofs.YtpmcnonmkghokaaGreatDoor
open Go.Proofs.Tryz Go.RowKit
attribute [local go_sem ↓] Go.wp_at_zero Go.wp_at_succ
variable {h9:Act}{ops:Array Oper}{j4:Array Value}{s:ByteArray}{j7:ELab}{Q:Exit->Act->World->Prop}{i7 y:Int}{kd:IntKind}{ls:List (List Int)}{gs:List (Nat×Nat)}{ps:List (Value×Nat)}{ts:List ByteArray}{i6 l:List Int}{S:List Nat}{rest:List Oper}{cs xs:List Value}{B C M b blk c cap e g i j k lc ll lo n nk pc size tt:Nat}{fr:Nat×Nat}{o:Oper}{i1 i2:Operand}{la pa:Option Addr}{b3:PB}{r:PRule}{t:PTree}{l1:PX}{α:Type}{p v va vb vg vp x x':Value}{a w w':World}{m:α}
def qxq:PB->Bool
 |.nil=>true
 |.node _ _ a .nil n=>qxq n
 |.node _ _ a (.node _ _ _ t e) n=>(qxq t&&decide (kqq t<=1000))&&((qxq e&&decide (kqq e<=1000))&&qxq n)
theorem qko{a7 a8:SLab}{b4 b5:PB}(h:qxq (.node i j a7 (.node k B a8 b3 b4) b5)=true):((qxq b3=true/\kqq b3<=1000)/\(qxq b4=true/\kqq b4<=1000)/\qxq b5=true):=by grind [qxq]
theorem qyj:∀(b:PB),qxq b=true->ky6 b
 |.nil,_=>trivial
 |.node _ _ a .nil n,h=>qyj n h
 |.node _ _ a (.node _ _ _ t e) n,h=>⟨⟨qyj t (qko h).1.1,(qko h).1.2⟩,⟨qyj e (qko h).2.1.1,(qko h).2.1.2⟩,qyj n (qko h).2.2⟩
def zjj(l:List Tok):Bool:=l.all λy=>decide (y.x.size<=1000)
theorem zkq{b6:List Tok}(h:zjj b6=true):∀y∈b6,y.x.size<=1000:=λy d=>of_decide_eq_true<|sJ.1 h y d
def qym(s:MStep):Bool:=decide (s.u.length<=1000)&&(zjj (bf s.guard)&&(qxq s.block&&(decide (kqq s.block<=1000)&&zjj (je s.block))))
theorem vv1{b7:MStep}(h:qym b7=true):jye b7:=by unfold qym at h;simp only[rG,sD]at h;exact⟨h.1,zkq h.2.1,qyj _ h.2.2.1,h.2.2.2.1,zkq h.2.2.2.2⟩
def zkm(s:MNever):Bool:=decide (s.u.length<=1000)&&zjj (bf s.xp)
theorem pzs{d6:MNever}(h:zkm d6=true):pjh d6:=by unfold zkm at h;simp only[rG,sD]at h;exact⟨h.1,zkq h.2⟩
def zq0(a:Mach):Bool:=a.X.all qym&&(a.q.all zkm&&(decide (a.z.length<=1000)&&(decide (a.X.length<=1000000)&&decide (a.q.length<=1000000))))
theorem vwv{e8:Mach}(h:zq0 e8=true):MachOk e8:=by unfold zq0 at h;simp only[rG,sD]at h;exact⟨λs d=>vv1<|sJ.1 h.1 s d,λs d=>pzs<|sJ.1 h.2.1 s d,h.2.2.1,h.2.2.2.1,h.2.2.2.2⟩
def zkh(m:MdL):Bool:=decide (m.j.length<=1000)&&(decide (m.p.length<=1000)&&((m.p.all λx=>decide (x.i.length<=1000))&&(decide (m.z.length<=1000)&&(decide (m.l.length<=1000)&&decide (m.q.length<=1000)))))
theorem jke{e9:MdL}(h:zkh e9=true):MdFit e9:=by unfold zkh at h;simp only[rG,sD]at h;exact⟨h.1,h.2.1,λx d=>of_decide_eq_true<|sJ.1 h.2.2.1 x d,h.2.2.2.1,h.2.2.2.2.1,h.2.2.2.2.2⟩
def qx5(s:ByteArray):Option Mach:=if zkh (ql (uz (jv s).1).1) then (jy5 (ql (uz (jv s).1).1)).bind λa=>if zq0 a then some a else none else none
def vw1(s:ByteArray)(ts:List ByteArray):Option vyp:=if (qq4 s).1==0 then (qx5 s).bind λa=>xyx a ts else some (noView,false,(qq4 s).1,(qq4 s).2)
theorem xyf(pn pc:Nat)(hn:ts.length=pn)(V:jzh w pa ts){g8:vyp}(t:vw1 s ts=some g8):Calls prog 11 #[.string s,.slice pa pn pc] w λe w'=>qyv w g8 e w':=by
 have⟨W,I⟩:=cpy<|w.alloc (.cells #[e_,nS,nS,nS,.bool false] 24);have O:oq w W:=by rw[I];exact jZ w
 have U:w.heap.size<W.heap.size:=by simp_all
 have X:W.heap[w.heap.size]?=some (.cells #[e_,nS,nS,nS,.bool false] 24 (0,0)):=by rw[I];exact qy
 go_in;go_wp21;rw[(oz I.symm)];refine(pvz s W).mono ?_;rintro e u ⟨B,x0,x1,x2,x3,x4,rfl,i,⟨a0,n0,k0,rfl⟩,⟨a1,n1,k1,rfl⟩,⟨a2,n2,k2,rfl⟩,⟨a3,n3,k3,rfl⟩,⟨a4,n4,k4,rfl⟩⟩;have g:oq w u:=O.trans<|B.mono aj;have f:=(B.block w.heap.size U).trans X;have H:=wQ f;unfold vw1 at t;obtain⟨c1,c2,Z⟩:∃c1 c2,qq4 s=(c1,c2):=⟨_,_,rfl⟩;rw[Z]at t i |-;dsimp only at t i |-;cases R:(c1==0)
 ·have Y:g8=(noView,false,c1,c2):=by simp_all
  subst Y;have S:(c1 != 0)=true:=by simp_all
  have r0:=jl f;go_wp2;exact tK (v:=.tuple #[.agg #[e_,nS,nS,nS,.bool false],i_ c1,i_ c2]) (kqn results11 _ _ w.heap.size _ _ _ _ rfl (zy<|kxy f) underlying24 rfl au) rfl ⟨none,0,0,none,0,0,none,0,0,rfl,Vw3.no,(qq6 g).alloc (qq6 g).size _⟩
 ·have S:(c1 != 0)=false:=by simp_all
  have J:c1=0:=by simp_all
  have E:=t;rw[R,lJ rfl]at E;have⟨a,d,Q⟩:=wu.1 E;unfold qx5 at d;have m:zkh (ql (uz (jv s).1).1)=true:=by simp_all
  rw[lJ m]at d;have⟨a',L,d⟩:=wu.1 d;have p:zq0 a'=true:=by grind
  rw[lJ p]at d;injection d with d;subst d;have⟨wb,F⟩:=cpy<|u.alloc (.cells #[.slice a0 n0 k0,.slice a1 n1 k1,.slice a2 n2 k2,.slice a3 n3 k3,.slice a4 n4 k4] 68);have l:oq u wb:=by rw[F];exact jZ _
  have z:=new_any ((i J).stay λk _ hk=>l.block k hk) (jke m) L;unfold mdV at z;have N:=g.trans<|l.mono aj;have P:=(l.block _ H).trans f;go_wp21
  rw[(oz F.symm)];refine z.mono ?_;rintro e w2 ⟨M,nb,sv,nv,tv,vv,rfl,T,C⟩;have h:=N.trans (C.mono<|by grind);have A:=(C.block w.heap.size<|by grind).trans P;go_wp21;refine(walk_any pc T.xy8 (vwv p) hn (V.below h<|jV) Q).mono ?_;rintro e w3 ⟨q,en,ec,wa,y,x,ba,bn,bc,rfl,hp,D⟩;have G:=h.size;have j:=(D.block w.heap.size<|wQ A).trans A;have r0:=jl j;have K:=pq5 j (bad:=[24]) ak (.string g8.1.x) (.slice q en ec) (.slice wa y x) (.slice ba bn bc)<|.bool g8.2.1;go_wp2
  exact tK (v:=.tuple #[.agg #[.string g8.1.x,.slice q en ec,.slice wa y x,.slice ba bn bc,.bool g8.2.1],i_ g8.2.2.1,i_ g8.2.2.2]) (kqn results11 _ _ w.heap.size _ _ _ _ rfl (kxy j) underlying24 rfl au) rfl<|(⟨q,en,ec,wa,y,x,ba,bn,bc,rfl,hp.tk K G,qq6<|h.trans (D.mono G)⟩:qyv w g8 (.returned<|.tuple #[.agg #[.string g8.1.x,.slice q en ec,.slice wa y x,.slice ba bn bc,.bool g8.2.1],i_ g8.2.2.1,i_ g8.2.2.2]) _)
def mkF(k:Nat)(s:ByteArray):ByteArray:=if k=0 then s else mkF (k / 2) (s++(ByteArray.mk #[48,49]).extract (k%2) (k%2+1))
def mkN(k:Nat):ByteArray:=mkF k ⟨#[109,97,114,107]⟩
theorem pwk(k:Nat)(g:k<=1000)(w:World):Calls prog 85 #[i_ k] w λe w'=>rT e (.string<|mkN k)/\w'=w:=by
 go_in;go_wp21;go_loop [0,3] (λi x=>∃(j:Nat)(s:ByteArray),i=i_ j/\x=.string s/\s.size+j<=2000/\mkN k=mkF j s) (λi _=>(intOf i).toNat)
 ·exact⟨k,_,rfl,rfl,by (show 4+k<=2000);omega,rfl⟩
 obtain⟨j,s,rfl,rfl,h,(d:Hid _)⟩:=hrel;by_cases f:0<j
 ·have h1:(0:Int)<j:=by omega
  have d:=oz (d.out.trans<|by rw[mkF,Xy aj]);go_wp2;exact rdM ⟨j / 2,_,eu,rfl,by simp[ZM,lX];omega,d⟩
 ·obtain rfl:j=0:=by omega
  rw[mkF,lJ rfl]at d;go_wp2;go_ret;exact⟨by rw[d];rfl,rfl⟩
theorem xye{l:List α}(hn:l.take n=List.replicate n m)(d:l.take k=List.replicate k m)(h:n+j<=l.length):(l.take n++List.replicate j m++l.drop (n+j)).take k=List.replicate k m:=by
 rw[hn,lQ];by_cases e:k<=n+j
 ·rw[Jv ah];simp;omega
 ·have:=congrArg (List.take<|n+j) d;rw[List.take_take,List.take_replicate,Nat.min_eq_left aj]at this;rw[<-this,Jj,d]
abbrev Mkd(lo:Nat)(m:Value)(w:World)(v:Value)(n:Nat):Prop:=w.ownsRow lo 9 1 v n (List.replicate n m)
structure MkA (lo:Nat)(m:Value)(w:World)(v:Value)(n:Nat)(v':Value)(w':World):Prop where
 xu:Mkd lo m w' v' n
 stay:∀u k,Mkd lo m w u k->Mkd lo m w' u k
 grown:w.grownBy w' v.ownBlock
 lies:v'.ownBlock=v.ownBlock\/∀k,v'.ownBlock=some k->w.heap.size<=k
theorem uq0{ty:Nat}(q:Mkd lo x w v n)(hb:Rw w b ((List.replicate j x).toArray) tt)(h1:x.oneCell'=true)(T:0<j)(Q:lo<=w.heap.size)(hn:n+j<=2000000):∃m w',(Builtin.append_ #[22,22] ty #[v,sL b j c]).run prog w=.ok m w'/\MkA lo x w v (n+j) m w':=by
 have ⟨i,z,g1,G,g3,g4,g5,g6,g7⟩:=pye (t:=22) (e:=9) (size:=1) au;have E:(n+j)*i.bytes<=140737488355328:=rP (Jt hn g6) aj;have p:=World.news_of_block hb;have D:∀u∈List.replicate j x,u.oneCell'=true:=λu R=>by rw[List.eq_of_mem_replicate R];exact h1
 have hN:∀{m w'},w'.ownsRow w.heap.size 9 1 m (n+j) (List.replicate n x++List.replicate j x)->w.grownBy w' none->MkA lo x w v (n+j) m w':=λf d=>
  ⟨by rw[lQ]at f;exact qo Q f,λu k h=>h.kept d (by cases u.ownBlock<;>simp),⟨d.os,d.tape,d.output,d.size,λk I _=>d.block k I ay⟩,.inr<|jo f⟩
 obtain⟨rfl,rfl⟩|⟨g,cap,cur,rfl,L,C,S,M,N,l⟩:=q.2
 ·have⟨m,w',y,f,d,_⟩:=run_append_own (P:=prog) w w.heap.size 22 ty 9 i z 1 i.bytes g1 G g3 g4 rfl g5 g7 nS 0 [] jT ⟨b,0,none⟩ j c _ ay p D iq E<|jV;exact⟨m,w',y,hN f d⟩
 ·by_cases s:n+j<=cap
  ·have y:=run_append_room (P:=prog) w 22 ty 9 i g1 G g n cap cur C ⟨b,0,none⟩ j c _ (by simp[g4]) p D s (by simp[g4];omega);simp only[g4,Jb,Qh]at y l N;have O:∀k,cur.toList.take k=List.replicate k x->_:=λk h=>xye (j:=j) l h ah
   refine⟨_,_,y,⟨ay,.inr ⟨g,cap,_,rfl,L,setRow_heap w g cur _ _ _ C,s,M,ah,?_⟩⟩,λu k h=>⟨h.1,h.2.imp id λ⟨B,A,F,f,d,H,J,K,h7,h8⟩=>?_⟩,⟨rfl,rfl,rfl,ay,λk _ I=>setRow_other w g k _<|λe=>I<|by simp[Value.ownBlock,e]⟩,.inl rfl⟩
   ·rw[sZ,<-sZ,l,lQ,Jb];exact ZJ ay
   ·by_cases e:B=g
    ·subst e;rw[C]at H;obtain⟨rfl⟩:=H;exact⟨B,A,_,f,d,setRow_heap w B cur _ _ _ C,J,K,ah,by rw[Jb]at h8 |-;exact O k h8⟩
    ·exact⟨B,A,F,f,d,(setRow_other w g B _ e).trans H,J,K,h7,h8⟩
  ·have⟨m,w',y,f,d⟩:=run_append_arg_grows (P:=prog) w 22 ty 9 i z 1 i.bytes g1 G g3 g4 rfl g5 g7 ⟨g,0,none⟩ n cap _ q.1 (q.cells rfl) (Ad b 0) j c _ ay p aj iq E;exact⟨m,w',y,hN f d⟩
theorem uq1(e:Mkd lo vb w v n)(h:∀d w',MkA lo vb w v (n+j) d w'->wpList prog ops Q rest (h9.put o.dst d) w')(m:o.op=.call {callee:=.builtin .append,args:=#[i1,i2],argTypes:=#[22,22]}:=by exact rfl)(f:o.guard=none:=by exact rfl)(q:h9.eval i1=v:=by exact rfl)(t:h9.eval i2=sL b j c:=by exact rfl)(s:Rw w b ((List.replicate j vb).toArray) tt:=by exact jH)(h1:vb.oneCell'=true:=by rfl)(k:0<j:=by omega)(l:lo<=w.heap.size:=by simp;omega)(hn:n+j<=2000000:=by omega):wpList prog ops Q (o::rest) h9 w:=by
 refine wpList_plain f λK i=>?_
 have⟨d,w',p,g⟩:=uq0 (c:=c) (ty:=o.type) e s h1 k l hn;unfold Oper.wp execOp;simp only[m,resolve,invoke,builtin,Sem.run_bind,Sem.run_pure,Result.andThen_ok,List.map_toArray,Qm,List.map_nil,q,t,p];exact i _ _<|h d w' g
theorem xyy(h:w.ownsRow lo e size v n xs):n<=9223372036854775807:=by
 rcases h.2 with⟨_,rfl⟩|⟨_,_,_,_,_,_,h1,d,_⟩
 ·omega
 ·unfold maxLen at d;omega
structure Bk (lo M:Nat)(ps:List (Value×Nat))(n:Nat)(w:World):Prop where
 ge:lo<=M
 e:∃v cs,w.heap[M]?=some (.cells #[v] 57 (0,0))/\w.ownsRow lo 22 1 v (4*n) cs/\∀i,i<4*n->∃u k,cs[i]?=some u/\Mkd lo (.string<|mkN (1+i / 4)) w u k/\∀p∈ps,Apart u p.1
 pend:∀p∈ps,p.2<=1000000/\∃xs,w.ownsRow lo 9 1 p.1 p.2 xs
 pair:ps.Pairwise λa b=>Apart a.1 b.1
theorem apM(d:w.ownsRow B e size v n xs)(h:∀v' w',w'.ownsRow B e size v' (n+j) (xs++cs)->w.grownBy w' v.ownBlock->(v'=nS↔v=nS/\j=0)->(v'.ownBlock=v.ownBlock\/v'.ownBlock=some w.heap.size)->wpList prog ops Q rest (h9.put o.dst v') w')(m:o.op=.call {callee:=.builtin .append,args:=#[i1,i2],argTypes:=#[lo,lo]}:=by exact rfl)(f:o.guard=none:=by exact rfl)(p:h9.eval i1=v:=by exact rfl)(t:h9.eval i2=sL b j j:=by exact rfl)(s:Rw w b cs.toArray tt:=by first|exact jH|exact alloc_at _ ay)(h1:cs.all Value.oneCell'=true:=by rfl)(l:cs.length=j*size:=by rfl)(g:pyi prog lo e size=true:=by kernel_rfl)(hn:n+j<=1000001:=by first|omega|(simp;done)|(simp;omega))(hb:B<=w.heap.size:=by first|omega|(simp;done)|(simp;omega)):wpList prog ops Q (o::rest) h9 w:=by have ⟨i,z,g1,k,g3,g4,g5,g6,g7⟩:=pye g;exact Ja _ f i1 i2 lo m B e i z size i.bytes g1 k g3 g4 rfl g5 g7 v n xs p d ⟨b,0,none⟩ j j cs t l (World.news_of_block s) (λu q=>sJ.1 h1 u q) iq (rP (Jt hn g6) aj) hb h
theorem zwh(h:Apart x p)(f:v.ownBlock=x.ownBlock\/∀k,v.ownBlock=some k->B<=k)(g:∀k,p.ownBlock=some k->k<C)(i:C<=B):Apart v p:=λk h1 d=>by
 rcases f with e|e
 ·exact h k (e▸h1) d
 ·have:=g k d;have:=e k h1;omega
theorem xya{xs:List α}(h:k<xs.length):(List.replicate k m++xs.drop k).set k m=List.replicate (k+1) m++xs.drop (k+1):=by rw[List.set_append_right _ _ ay,Qh,Nat.sub_self,rU h,QW,lG,sZ];rfl
theorem jwh{i4:Value×Nat}(h:Bk lo M (i4::ps) n w)(hn:n<=100):Calls prog 49 #[pT M,i4.1] w λe w'=>rT e (.tuple #[])/\Bk lo M ps (n+1) w'/\Below lo w w'/\Tk none [9,22,57] w w':=by
 have⟨x,l⟩:=i4;have⟨J,⟨v,cs,h1,t,W⟩,L,X⟩:=h;have⟨hl,xs,p⟩:=L _<|rZ;obtain⟨pa,pn,pc,rfl⟩:=qh p;dsimp only at hl p |-;obtain⟨va,vn,vc,rfl⟩:=qh t;obtain⟨rfl,_⟩:=kja t;obtain⟨rfl,_⟩:=kja p;have c0:Ce w M 0 (.slice va (4*n) vc):=rc h1 0;have f0:Fr w M 0:=rf h1 0;have⟨S,H3,U⟩:=jF h1 W L;clear h1 W L;go_in
 go_wp21;refine zM (pwk (1+n) aj w) ?_;rintro P rfl;have⟨m,O⟩:=cpy<|mkN (1+n);rw[<-O];have HM:=oz O;clear O;go_wp21
 go_loopw [5] (λi wr=>∃k:Nat,i=i_ k/\k<=pn/\wr.ownsRow lo 9 1 (.slice pa pn pc) pn (List.replicate k (.string m)++xs.drop k)/\P.grownBy wr (Value.slice pa pn pc).ownBlock) (λi _=>pn-(intOf i).toNat)
 ·exact⟨0,rfl,jG,p,⟨rfl,rfl,rfl,jV,λ_ _ _=>rfl⟩⟩
 obtain⟨k,rfl,Z,f,H⟩:=hrel;by_cases a0:k<pn
 ·obtain⟨e,_⟩|⟨g,cap,cur,e,_,hg,_⟩:=f.2
  ·grind
  obtain⟨rfl,rfl⟩:pa=some (Ad g 0)/\pc=cap:=by grind
  have ⟨y,hc⟩:∃y,Ce wr g k y:=⟨_,(f.cellAt k aj).trans<|wW (by rw[f.1];omega)⟩;have ⟨hs,a1⟩:=f.stored k<|.string m;rw[xya (by rw[p.1];omega)]at hs;have hf:=f.frozenAt k;clear f;go_wp2
  exact rdM ⟨k+1,eu,a0,hs,H.trans a1⟩
 ·obtain rfl:k=pn:=by omega
  rw[Qa (by rw[p.1];omega),Qs]at f;have a5:=H.size;have a3:=wQ S;go_wp2_with (at_builtin;refine uq1 (f.alloc _) ?_)
  intro v1 w2 C;have Q:=C.stay _ _<|f.alloc _;have s2:wr.heap.size<w2.heap.size:=by have:=C.grown.size;simp at this;omega
  go_wp2_with (at_builtin;refine uq1 (Q.alloc _) ?_)
  intro v2 w3 B1;have R:=B1.stay _ _<|Q.alloc _;have s3:w2.heap.size<w3.heap.size:=by have:=B1.grown.size;simp at this;omega
  go_wp2_with (at_builtin;refine uq1 (R.alloc _) ?_)
  intro v3 w4 j;have s4:w3.heap.size<w4.heap.size:=by have:=j.grown.size;simp at this;omega
  have G:P.grownBy w4 (Value.slice pa k pc).ownBlock:=((H.trans<|(lZ _ _ _).trans C.grown).trans<|(lZ _ _ _).trans B1.grown).trans<|(lZ _ _ _).trans j.grown;obtain⟨x1,y1,z1,rfl⟩:=qh C.xu;obtain⟨x2,y2,z2,rfl⟩:=qh B1.xu;obtain⟨x3,y3,z3,rfl⟩:=qh j.xu;have K:=kz4 (x:=none) (bad:=[9]) p G ak;have h1:=K.e S ay ak;have F:=jq t K (pz.none _) ak;have hx:Ne (Value.slice va (4*n) vc).ownBlock (some M):=λe=>by
   obtain⟨D,_⟩|⟨g,_,_,D,_,s,_⟩:=F.2<;>rw[D]at e
   ·cases e
   ·cases e;rw[h1]at s;cases s
  have a4:=wQ h1;have c0:=rc h1 0;have f0:=rf h1 0;have T:=oz h1;clear h1;go_wp2_with (at_builtin;refine apM (F.alloc _) ?_)
  intro v5 w5 B A _ a2;obtain⟨x5,y5,z5,rfl⟩:=qh B;have V:=(yt (bR.alloc jV _) none []).wide (bad':=[22]) ay |>.trans (kz4 (F.alloc _) A ak);have z:=V.e T ay ak;have c5:=rc z 0;have f5:=rf z 0;have E:=oz z;clear z;go_wp2
  go_end0;have I:Tk none [22,57] w4 (w5.setCell (Ad M 0)<|.slice x5 y5 z5):=(V.wide ak).trans<|qqa E ak 0 _;have hA:=(JW.1 X).1;have N:∀i4∈ps,∀k,i4.1.ownBlock=some k->k<P.heap.size:=λi4 d k Z=>by have⟨_,_,o⟩:=U i4<|jB d;exact(o.lt k Z).2
  refine⟨rfl,⟨J,⟨_,_,jD M 0 _ _ _ E,jq B (qqa (bad:=[57]) E ak 0 _) (pz.none _) ak,λi hi=>?_⟩,λi4 d=>?_,(JW.1 X).2⟩,(((bR.grown G aj<|jo p).alloc aj _).grown A ah<|jo t).setCell J _,(K.wide ak).trans<|I.wide ak⟩
  ·by_cases Y:i<4*n
   ·have⟨u,q,D,s,e3⟩:=H3 i Y;exact⟨u,q,by rw[ZV (by rw[t.1];omega)];exact D,jq (s.kept G<|qqs (kzm<|e3 _ rZ)) I (pz.none _) ak,λi4 d=>e3 i4<|jB d⟩
   ·have hN:∀r,r<4->∃u q,[Value.slice pa k pc,.slice x1 y1 z1,.slice x2 y2 z2,.slice x3 y3 z3][r]?=some u/\Mkd lo (.string m) w4 u q/\∀i4∈ps,Apart u i4.1:=λr hr=>
     match r,hr with
     |0,_=>⟨_,_,rfl,j.stay _ _<|R.alloc _,hA⟩
     |1,_=>⟨_,_,rfl,j.stay _ _<|(B1.stay _ _<|C.xu.alloc _).alloc _,λi4 d=>zwh (hA i4 d) C.lies (N i4 d) ah⟩
     |2,_=>⟨_,_,rfl,j.stay _ _<|B1.xu.alloc _,λi4 d=>zwh (hA i4 d) B1.lies (N i4 d) ah⟩
     |3,_=>⟨_,_,rfl,j.xu,λi4 d=>zwh (hA i4 d) j.lies (N i4 d) ah⟩
    have⟨u,q,D,s,e3⟩:=hN (i-4*n) aj;rw[HM,show 1+n=1+i / 4 by omega]at s;exact⟨u,q,by rw[Ji (by rw[t.1];omega),t.1,Jb];exact D,jq s I (pz.none _) ak,e3⟩
  ·have⟨q1,xs,q2⟩:=U i4<|jB d;exact⟨q1,xs,jq (q2.kept G<|qqs (hA i4 d)) I (pz.none _) ak⟩
theorem xyp(h:Bk lo M ps n w)(hn:n<=100):Calls prog 50 #[pT M] w λe w'=>rT e (.bool true)/\w'=w:=by
 obtain⟨G,⟨v,cs,h1,s,(B:Hid _)⟩,-,-⟩:=h;obtain⟨va,vn,vc,rfl⟩:=qh s;obtain⟨rfl,(A:Hid _)⟩:=kja s;have c0:Ce w M 0 (.slice va (4*n) vc):=rc h1 0;clear h1 s;go_in;go_wp21;go_loop [3,4,5] (λi _ _=>∃k:Nat,i=i_ k/\k<=4*n) (λi _ _=>4*n-(intOf i).toNat)
 ·exact⟨0,rfl,jG⟩
 obtain⟨i,rfl,hi⟩:=hrel;by_cases f:i<4*n
 ·have x:(i:Int)<4*n:=by omega
  obtain⟨u,q,z,l,-⟩:=B i f;obtain⟨g,rfl,-,H,hv⟩:=A i f;obtain⟨K,y,L,rfl⟩:=qh l;obtain⟨rfl,(C:Hid _)⟩:=kja l;have I:=xyy l;have c1:=(hv i aj).trans z;clear z l hv;go_wp21;refine zM (pwk (1+i / 4) aj w) ?_;rintro E rfl;generalize mkN (1+i / 4)=m at *;go_wp21;go_loop [5] (λj=>∃t:Nat,j=i_ t/\t<=y) (λj=>y-(intOf j).toNat)
  ·exact⟨0,rfl,jG⟩
  obtain⟨t,rfl,J⟩:=hrel;by_cases d:t<y
  ·obtain⟨D,rfl,-,F,p⟩:=C t d;have c2:Ce E D t (.string m):=(p t aj).trans (by simp[d]);clear p;go_wp2;exact rdM ⟨t+1,eu,d⟩
  ·go_wp2;exact rdM ⟨i+1,eu,f⟩
 ·have x:¬(i:Int)<4*n:=by omega
  go_wp2;go_ret;exact⟨rfl,rfl⟩
abbrev mkV:Value:=.string ⟨#[109,97,114,107]⟩
abbrev Hnd(w:World)(g:Nat)(ts:List ByteArray):Prop:=w.heap[g]?=some (.cells (ts.map Value.string++[mkV,mkV]).toArray 9 (0,0))
theorem xj8(s:jzh w pa ts)(hn:ts.length<=8796093022208):Calls prog 29 #[.slice pa ts.length pc] w λe w'=>rT e (sL w.heap.size ts.length<|ts.length+2)/\Hnd w' w.heap.size ts/\oq w w':=by
 have ⟨i,z,g1,l,g3,g4,g5,g6,g7⟩:=pye (t:=22) (e:=9) (size:=1) au;have H:i.bytes=16:=by have h:=(by kernel_rfl:(prog.info? 9).map (·.bytes)=some 16);rw[l]at h;simpa using h
 have⟨x,u,f,q⟩:=run_make_full (P:=prog) w w.heap.size 22 9 i z 1 g1 l g3 g4 .i64 .i64 (ts.length+2) (by rw[H];omega) iq<|jV;rw[Int.natCast_add,show((2:Nat):Int)=2 from rfl]at u;obtain⟨e,_⟩|⟨g,cap,cur,e,_,F,_,_,m,_⟩:=f.2
 ·cases e
 obtain⟨rfl,rfl⟩:w.heap.size=g/\ts.length+2=cap:=by grind
 have y:oq w x:=bR.grown q jV (λk Q=>by cases Q);have⟨B,K⟩:=jS (show(prog.info? 9).map (·.size)=some 1 by rw[l,ZQ,g4]) (show Rw x w.heap.size cur.toList.toArray 9 from F);have J:=oz (show(0<(ts.map Value.string).length->∃ad,pa=some ad/\∀j v,(ts.map Value.string)[j]?=some v->x.cell? (ad.add j)=some v) from λh=>by have⟨g,o,e,h1,_⟩:=s 0 kV;refine⟨_,e,λj v O=>?_⟩;obtain⟨G,rfl⟩:=rY.1 O;have⟨_,_,C,L,M⟩:=s j (by simpa using G);rw[e]at C;cases C;rw[Addr.add_lit];exact((y.cell (p:=⟨g,o+j,none⟩) L).trans M).trans ay)
 have S:cur.size=ts.length+2:=by simpa using m
 clear g1 l g3 g4 g5 H f q F m e s;go_in;go_wp2_with (refine wpList_copy_splice rfl _ _ 22 22 rfl 9 underlying22 B _ pa (ts.length+2) (ts.length+2) ts.length pc rfl rfl w.heap.size 0 cur.toList 9 K (ts.map Value.string) (by simp[Nat.min_def]) (λh=>⟨rfl,J h⟩) ah (by simp[Value.oneCell']) w.heap.size w y jV ?_)
 intro I d A;obtain⟨a,b,e⟩:∃a b,cur.toList.drop ts.length=[a,b]:=by
  generalize N:cur.toList.drop ts.length=D;have:D.length=2:=by rw[<-N];simp;omega
  match D,this with
  |[a,b],_=>exact⟨a,b,rfl⟩
 have E:splice cur.toList 0 (ts.map Value.string)=ts.map Value.string++[a,b]:=by simp[splice,e]
 rw[E]at d;have R:=wQ d;have c0:Ce I w.heap.size ts.length a:=(rc d _).trans ay;have c1:Ce I w.heap.size (ts.length+1) b:=(rc d _).trans ay;have f0:=rf d ts.length;have f1:=rf d<|ts.length+1;clear E e;go_wp2
 go_ret;exact⟨rfl,(jD _ _ _ _ _<|jD _ _ _ _ _ d).trans (by simp[List.set_append]),(A.setCell jV _).setCell jV _⟩
theorem xyw{i5:Option Addr}{ec fc:Nat}(h:jzh w la ts)(j:jzh w i5 ts)(t:ts.length<=9223372036854775807):Calls prog 38 #[.slice la ts.length ec,.slice i5 ts.length fc] w λe w'=>rT e (.bool true)/\oq w w':=by
 go_in;go_wp21;go_loopw [4,5] (λ_ i wr=>oq w wr/\∃k:Nat,k<=ts.length/\i=i_ k) (λ_ i _=>ts.length-(intOf i).toNat)
 ·exact⟨bR,0,jG,rfl⟩
 obtain⟨d,k,s,rfl⟩:=hrel;by_cases f:k<ts.length
 ·obtain⟨g,o,rfl,h1,m⟩:=h.below d jV k f;obtain⟨l,u,rfl,p,q⟩:=j.below d jV k f;generalize ts[k]=x at *;go_wp2;go_region
  go_wp2;exact rdM ⟨d.drew,k+1,aj,eu⟩
 ·go_wp2;go_ret;exact⟨rfl,d⟩
theorem Hnd.str(h:Hnd w g ts):jzh w (some (Ad g 0)) ts:=λi hi=>⟨g,0,rfl,wQ h,(rc h _).trans (by rw[Jc,lY,ZV (by simpa using hi)];simp[hi])⟩
theorem xyk(h:Hnd w g ts)(j:jzh w pa ts)(hn:ts.length<=8796093022208):Calls prog 32 #[sL g ts.length (ts.length+2),.slice pa ts.length pc] w λe w'=>rT e (.bool true)/\oq w w':=by have i:=xyw (ec:=ts.length+2) (fc:=pc) h.str j aj;have d:=oz h;clear h;go_in;go_wp21;refine zM i λf hb=>?_;have h:=(hb.block g<|wQ d).trans d;have c0:Ce f g ts.length mkV:=(rc h _).trans ay;have c1:Ce f g (ts.length+1) mkV:=(rc h _).trans ay;clear h;go_wp2;go_ret;exact⟨rfl,hb⟩
section
theorem pk9(hn:n<=1000000)(hb:b<=1000):n*b<=140737488355328:=rP (Jt hn hb) aj
section
variable {w:World} {base lo e size n m c t:Nat} {v u:Value} {xs ys:List Value} {ad:Addr} {ops:Array Oper} {rest:List Oper} {o:Oper} {a:Act} {Q:Exit->Act->World->Prop} {s x:Operand}
theorem apI(e:w.ownsRow base 3 1 v l.length (l.map (Value.int .i64)))(y:∀j,j<i6.length->w.cell? ⟨g,B+j,none⟩=(i6.map (Value.int .i64))[j]?)(h:∀d w',w'.ownsRow base 3 1 d (l++i6).length ((l++i6).map<|Value.int .i64)->w.grownBy w' v.ownBlock->(d=nS↔v=nS/\m=0)->(d.ownBlock=v.ownBlock\/d.ownBlock=some w.heap.size)->wpList prog ops Q rest (a.put o.dst d) w')(p:o.op=.call {callee:=.builtin .append,args:=#[s,x],argTypes:=#[31,31]}:=by exact rfl)(f:o.guard=none:=by exact rfl)(q:a.eval s=v:=by exact rfl)(t:a.eval x=.slice la m c:=by exact rfl)(hA:la=some (Ad g B):=by first|rfl|(split<;>rfl))(C:i6.length=m:=by first|omega|(simp;done)|(simp;omega))(hn:l.length+i6.length<=1000000:=by first|omega|(simp;done)|(simp;omega))(hb:base<=w.heap.size:=by first|omega|(simp;done)|(simp;omega)):wpList prog ops Q (o::rest) a w:=by
 subst hA;have⟨i,z,g1,k,g3,g4,g5,g6,g7⟩:=pye (by kernel_rfl:pyi prog 31 3 1=true);refine Ja _ f s x _ p base _ i z 1 i.bytes g1 k g3 g4 rfl g5 g7 v _ _ q e ⟨g,B,none⟩ m c (i6.map<|Value.int .i64) t (by simp_all) (λj u A=>?_) (jjl i6) iq (pk9 aj g6) hb λd w' k1 k2 k3 k4=>h d w' (by simp_all) k2 k3 k4
 grind [Addr.add]
end
theorem OwnRows.below(h:OwnRows B w x ls)(hb:oq w w'):OwnRows B w' x ls:=by obtain⟨a,n,c,cs,rfl,h1,d⟩:=h;exact⟨a,n,c,cs,rfl,qj h1 hb,d.1,λk f=>by have⟨a,n,c,e,g⟩:=d.2 k f;exact⟨a,n,c,e,qj g hb⟩⟩
theorem OwnRows.snoc(d:kx4 w ls cs)(j:w.ownsRow B 31 1 x ls.length cs)(i:w.ownsRow 0 3 1 (.slice la ll lc) l.length (l.map (Value.int .i64)))(h:w'.ownsRow B 31 1 x' (ls.length+1) (cs++[.slice la ll lc]))(f:w.grownBy w' x.ownBlock):OwnRows B w' x' (ls++[l]):=by obtain⟨a,n,c,rfl⟩:=qh h;refine⟨a,n,c,_,rfl,by simp_all,kx4.snoc ⟨d.1,λk g=>?_⟩<|kqx i j ak f⟩;have⟨a,n,c,e,h1⟩:=d.2 k g;grind [kqx]
end
theorem qk5(h:kqc w B t)(q:t.j.length<=801)(f:k<t.j.length)(z:zx (ug t) s.toList=k)(p:zz9 (t.j[k]).size):Calls prog 122 #[pT B,.string s] w λe w'=>rT e (i_<|mg (t.j[k]).size.x)/\w'=w:=by
 have j:=oz h;have⟨x0,x1,x2,x3,x4,y1,y3,y4,l,u,_⟩:=h;have A:=kzk l;obtain⟨a,cap,rfl,d⟩:=kq8 u;obtain⟨g,rfl,m⟩:=d k f;have v:w.cell? (Ad g (k*6+4))=some (.string (t.j[k]).size.x):=by rw[m _ aj];exact kqo kwz 6 (λ_=>rfl) t.j k 4 f aj
 have⟨i,h1,y⟩:=p;have x:=show mg (t.j[k]).size.x=(((t.j[k]).size.x[0]'i).toNat:Int)-48 by simp[mg,i]
 go_in;go_wp21;refine zM (set_any s j q) ?_;rintro C rfl;go_wp2;go_ret;simp_all
theorem qkw(h:w.ownsRow lo e size v n xs)(hn:0<n):∃g c,v=sL g n c/\lo<=g/\g<w.heap.size:=by grind [qp]
def rwV(g:Nat×Nat)(l:List Int):Value:=sL g.1 l.length g.2
structure StA (B:Nat)(w:World)(x:Value)(S:List (List Int))(gs:List (Nat×Nat)):Prop where
 out:w.ownsRow B 31 1 x S.length (List.zipWith rwV gs S)
 T:gs.length=S.length
 apart:(gs.map (·.1)).Nodup
 rows:∀k (hk:k<S.length) (hg:k<gs.length),w.ownsRow B 3 1 (rwV gs[k] S[k]) S[k].length (S[k].map (Value.int .i64))
theorem StA.below(h:StA B w x ls gs)(hb:oq w w'):StA B w' x ls gs:=
 ⟨qj h.out hb,h.T,h.apart,λk e d=>qj (h.rows k e d) hb⟩
theorem StA.mono(h:StA B w x ls gs)(hb:C<=B):StA C w x ls gs:=
 ⟨qo hb h.out,h.T,h.apart,λk e d=>qo hb<|h.rows k e d⟩
theorem StA.lt(h:StA B w x ls gs)(hn:∀l∈ls,0<l.length):∀g∈gs.map (·.1),g<w.heap.size:=by
 intro g i;obtain⟨y,j,rfl⟩:=tY.1 i;obtain⟨k,f,rfl⟩:=wG j;have d:k<ls.length:=by rw[<-h.T];exact f
 have⟨g,c,e,_,m⟩:=qkw (h.rows k d f)<|hn _ (wZ d);injection e with e;simp_all
theorem StA.nil(w:World)(B:Nat):StA B w nS [] []:=⟨jT,rfl,Jd,λk d=>ay⟩
theorem StA.snoc(h:StA B w x ls gs)(p:g∉gs.map (·.1))(i:w.ownsRow B 3 1 (sL g l.length c) l.length (l.map (Value.int .i64)))(j:w'.ownsRow B 31 1 x' (ls.length+1) (List.zipWith rwV gs ls++[sL g l.length c]))(f:w.grownBy w' x.ownBlock):StA B w' x' (ls++[l]) (gs++[(g,c)]):=by
 refine⟨?_,by simp[h.T],?_,?_⟩
 ·rw[rD,List.zipWith_append h.T];exact j
 ·rw[Qw];refine Jw.2 ⟨h.apart,ay,?_⟩;grind
 ·intro k q m;by_cases e:k<ls.length
  ·have d:k<gs.length:=by rw[h.T];exact e
   rw[Qn e,Qn d];exact kqx (h.rows k e d) h.out ak f
  ·have:k=ls.length:=by grind
   subst this;have d:(gs++[(g,c)])[ls.length]=(g,c):=by simp[<-h.T]
   rw[d];simp;exact kqx i h.out ak f
theorem zja(h:StA lo w x ls gs)(hn:∀l∈ls,0<l.length/\l.length<=1000)(hl:ls.length<=1000):Calls prog 123 #[x] w λe w'=>∃x' f,e=.returned x'/\StA w.heap.size w' x' ls f/\oq w w':=by
 have⟨R,hi,K,L,M⟩:=info_parts infoInt;obtain⟨za,zc,rfl,H⟩:=qp h.out;go_in;go_wp21;go_loopw [3,4,5] (λy i _ wr=>∃(k:Nat) (f:List (Nat×Nat)),k<=ls.length/\i=i_ k/\StA w.heap.size wr y (ls.take k) f/\oq w wr) (λ_ i _ _=>ls.length-(intOf i).toNat);exact⟨0,[],jG,rfl,StA.nil _ _,bR⟩;obtain⟨s,rfl⟩:=cpy wr;obtain⟨k,f,Z,rfl,d,t⟩:=hrel;have C:=t.size;obtain⟨ya,yc,rfl,Y⟩:=qp d.out;have z:(ls.take k).length=k:=by simp_all
 rw[z]at d |-;by_cases j:k<ls.length
 ·obtain⟨g,rfl,V,I,O⟩:=H k j;have J:k<gs.length:=by rw[h.T];exact j
  have e0:s.cell? (Ad g k)=some (rwV gs[k] ls[k]):=by rw[t.cell (p:=⟨g,k,none⟩) I,O k aj,Zy];simp_all
  have D:=qj (h.rows k j J) t;have X:=hn _<|wZ j;have G:=tJ j;have F:=rC s s.heap.size 3 1;generalize ls[k]=l at *;generalize gs[k]=gg at *;go_wp2_with (at_builtin;refine kqv rfl 31 rfl s.heap.size 3 R _ 1 8 underlying31 hi K L M rfl ak nS 0 [] rfl F (sL gg.1 l.length gg.2) l.length _ _ rfl D (jjl l) iq aj jV ?_)
  intro v3 w3 q v N;have B:=(Below.refl s.heap.size s).grown v jV<|jo F;obtain⟨g3,c3,rfl,S,T⟩:=qkw q aj;have u:=d.below B;go_wp2_with (at_builtin;refine apO (by have:=u.out.alloc<|.cells #[sL g3 l.length c3] 31;rw[z]at this;exact this) ?_)
  intro v' w' E m _ U;have A:=StA.snoc (u.below<|jZ w3 (o:=.cells #[sL g3 l.length c3] 31)) (show g3∉f.map (·.1) from λP=>by have:=d.lt (λy Q=>(hn y<|Zp Q).1) g3 P;omega) (qj (qo C q)<|jZ w3) (by rw[z];exact E) m;rw[<-G]at A;go_wp2;exact rdM ⟨k+1,_,aj,eu,A,(((t.trans<|B.mono C).alloc aj _).grown m ah<|jo u.out)⟩
 ·have W:k=ls.length:=by omega
  rw[show ls.take k=ls by simp_all]at d;go_wp2;go_ret;exact⟨_,_,rfl,d,t⟩
def qxt(a b:Int):Int:=if a<b then -1 else if b<a then 1 else 0
def cmpL:List Int->List Int->Int
 |[],[]=>0
 |[],_::_=>-1
 |_::_,[]=>1
 |a::l,b::m=>if a==b then cmpL l m else qxt a b
theorem xq9(a b:Int):qxt b a=- qxt a b:=by grind [qxt]
theorem ky0:∀l m:List Int,cmpL m l=- cmpL l m
 |[],[]=>rfl
 |[],_::_=>rfl
 |_::_,[]=>rfl
 |a::l,b::m=>by
  rw[cmpL,cmpL];by_cases h:a=b
  ·subst h;simp[ky0 l m]
  grind [xq9]
theorem pxe(h:qxt y i7=0):y=i7:=by grind [qxt]
theorem zv9:∀l m:List Int,cmpL l m=0->l=m
 |[],[],_=>rfl
 |[],_::_,h=>by simp[cmpL]at h
 |_::_,[],h=>by simp[cmpL]at h
 |a::l,b::m,h=>by
  rw[cmpL]at h;by_cases e:a=b
  ·subst e;simp at h;rw[zv9 l m h]
  grind [pxe]
theorem jvt(l:List Int):cmpL l l=0:=by have:=ky0 l l;omega
theorem pjq(h:qxt y i7<=0):y<=i7:=by grind [qxt]
theorem pj9(h:y<i7):qxt y i7=-1:=by simp[qxt,h]
theorem qzg:∀a b c:List Int,cmpL a b<=0->cmpL b c<=0->cmpL a c<=0
 |[],_,[],_,_=>by simp[cmpL]
 |[],_,_::_,_,_=>by simp[cmpL]
 |_::_,[],_,h,_=>by simp[cmpL]at h
 |_::_,_::_,[],_,h=>by simp[cmpL]at h
 |x::a,y::b,z::c,h1,h2=>by
  rw[cmpL]at h1 h2 |-;by_cases e:x=y
  ·subst e;by_cases d:x=z
   ·subst d;simp at h1 h2 |-;exact qzg a b c h1 h2
   simp_all
  ·simp[e]at h1;by_cases d:y=z
   ·simp_all
   ·simp[d]at h2;have g1:=pjq h1;have f:=pjq h2;grind [pj9]
theorem vxf(c:α->List Int):Go.Sort.SWO (λx y:α=>decide (cmpL (c x) (c y)<0)) where
 irrefl x:=by simp[jvt]
 trans x y z h1 h2:=by grind [qzg,ky0]
 ntrans x y z h1 h2:=by grind [ky0,qzg]
def insL(x:List Int):List (List Int)->List (List Int)
 |[]=>[x]
 |y::l=>if cmpL x y<=0 then x::y::l else y::insL x l
def sortL:List (List Int)->List (List Int)
 |[]=>[]
 |x::l=>insL x<|sortL l
theorem zv1(x:List Int):∀l,(insL x l).Perm (x::l)
 |[]=>List.Perm.refl _
 |y::l=>by
  rw[insL];split
  ·simp
  ·exact((zv1 x l).cons y).trans (List.Perm.swap x y l)
theorem kz7:∀l,(sortL l).Perm l
 |[]=>List.Perm.refl _
 |x::l=>(zv1 x _).trans<|(kz7 l).cons x
theorem qyh(l:List (List Int)):(sortL l).length=l.length:=(kz7 l).length_eq
theorem zw6(x:List Int):∀l,l.Pairwise (λa b=>cmpL a b<=0)->(insL x l).Pairwise (λa b=>cmpL a b<=0)
 |[],_=>by simp[insL]
 |y::l,h=>by
  rw[insL];rw[JW]at h;split
  ·grind [List.pairwise_cons,qzg]
  ·rename_i d;rw[JW];refine⟨λz e=>?_,zw6 x l h.2⟩;grind [zv1,ky0]
theorem qv7:∀l,(sortL l).Pairwise (λa b=>cmpL a b<=0)
 |[]=>List.Pairwise.nil
 |x::l=>zw6 x _<|qv7 l
theorem zzy{i8:List (List Int)}(d:i8.Perm ls)(e:i8.Pairwise (λa b=>cmpL a b<=0)):i8=sortL ls:=by grind [List.Perm.eq_of_pairwise,qv7,kz7,ky0,zv9]
def kx8(x:Int)(o:List Int)(k:Nat):List Int:=o.take k++x::o.drop k
def jjf(x:Int)(o:List Int):List (List Int):=(List.range (o.length+1)).map (kx8 x o)
def kqj(x:Int)(all:List (List Int)):List (List Int):=all.flatMap (jjf x)
def kj3:Nat->List (List Int)
 |0=>[[]]
 |n+1=>kqj n<|kj3 n
def orders(n:Nat):List (List Int):=sortL (kj3 n)
theorem jvk(x:Int)(o:List Int)(k:Nat)(d:k<=o.length):(kx8 x o k).length=o.length+1:=by simp[kx8];omega
theorem zx0(x:Int)(all:List (List Int))(j:Nat)(d:j<all.length):kqj x (all.take (j+1))=kqj x (all.take j)++jjf x all[j]:=by grind [List.take_succ_eq_append_getElem,kqj]
theorem qky:∀n,∀o∈kj3 n,o.length=n/\∀x∈o,0<=x/\x<n
 |0,o,h=>by simp[kj3]at h;simp_all
 |n+1,o,h=>by
  rw[kj3,kqj]at h;have⟨c,i,g⟩:=rM.1 h;obtain⟨k,l,rfl⟩:=tY.1 g;have⟨f,j⟩:=qky n c i;have e:k<=c.length:=by grind
  refine⟨by rw[jvk _ _ _ e,f],λx d=>?_⟩;obtain d|d:=rV.1 d
  ·grind
  grind
def kyy(kd:IntKind)(w:World)(v:Value)(l:List Int):Prop:=∃xa xc,v=.slice xa l.length xc/\(0<l.length->∃g,xa=some (Ad g 0)/\g<w.heap.size/\∀j (hj:j<l.length),w.cell? (Ad g j)=some (.int kd l[j]))
theorem qk6(h:w.ownsRow lo e 1 v l.length (l.map (Value.int kd))):kyy kd w v l:=by have⟨xa,xc,d,hv⟩:=qp h;refine⟨xa,xc,d,λf=>?_⟩;grind
theorem kyy.cells(h:kyy kd w v l)(y:w.heap.size<=w'.heap.size)(s:∀(g:Nat)(cs:Array Value)(e:Nat)(fr:Nat×Nat),w.heap[g]?=some (Obj.cells cs e fr)->(∃x,cs[0]?=some (Value.int kd x))->w'.heap[g]?=w.heap[g]?):kyy kd w' v l:=by
 have⟨xa,xc,p,hv⟩:=h;refine⟨xa,xc,p,λk=>?_⟩;have⟨g,q,u,m⟩:=hv k;refine⟨g,q,aj,λj t=>?_⟩;have d:=m 0 k;have f:=m j t;unfold World.cell? at d f |-;cases i:w.heap[g]? with
 |none=>simp_all
 |some o=>
  rw[i]at d f;cases o with
  |cells cs e fr=>
   rw[s g cs e fr i ⟨_,by simpa using d⟩,i];exact f
  |_=>simp_all
theorem jvr(d:k<l.length)(hb:k<i6.length):cmpL (l.drop k) (i6.drop k)=if l[k]==i6[k] then cmpL (l.drop (k+1)) (i6.drop (k+1)) else qxt l[k] i6[k]:=by grind [List.drop_eq_getElem_cons,cmpL]
theorem vxo{a b:List Int}(h:k=min a.length b.length):cmpL (a.drop k) (b.drop k)=qxt a.length b.length:=by
 by_cases h1:a.length<b.length
 ·have e:k=a.length:=by omega
  subst e;rw[sK,pj9 aj];cases d:b.drop a.length with
  |nil=>have:=congrArg List.length d;simp at this;omega
  |cons _ _=>rfl
 ·have e:k=b.length:=by omega
  subst e;rw[sK];by_cases f:b.length<a.length
  ·have:qxt (a.length:Int) (b.length:Int)=1:=by grind [qxt]
   rw[this];cases d:a.drop b.length with
   |nil=>have:=congrArg List.length d;simp at this;omega
   |cons _ _=>rfl
  ·have e:a.length=b.length:=by omega
   rw[<-e,sK];unfold qxt;rw[Xy aj,Xy aj];rfl
theorem pxx:Calls prog 276 #[i_ y] w λe w'=>rT e (.bool false)/\w'=w:=by go_wp2;go_ret;simp
theorem zje(x y:Int)(w:World):Calls prog 253 #[i_ x,i_ y] w λe w'=>rT e (i_ (qxt x y))/\w'=w:=by
 go_in;go_wp2_with (go_at_call 276;refine(pxx).mono ?_;rintro e w' ⟨rfl,d⟩;rw[d])
 all_goals (go_ret;refine⟨?_,rfl⟩;unfold qxt;(repeat' split)<;>first|rfl|(exfalso;omega))
theorem vxs:og 253 #[i_ i7,i_ y] w λe w'=>rT e (i_ (qxt i7 y))/\∃q,w'=w.drewN q:=(zje i7 y w).mono λ_ _ h=>⟨h.1,0,h.2⟩
theorem vxa{a b:List Int}(hA:kyy .i64 w va a)(E:kyy .i64 w vb b)(G:a.length<=1000000)(H:b.length<=1000000):Calls prog 226 #[va,vb] w λe w'=>e=.returned (.int .i64<|cmpL a b)/\∃q,w'=w.drewN q:=by
 have⟨xa,xc,D,t⟩:=hA;have⟨M,N,D,A⟩:=E;have⟨m,C⟩:=cpy<|min a.length b.length;go_wp2
 go_loopw [5,11] (λ_ i wr=>∃k:Nat,i=.int .i64 k/\k<=m/\cmpL (a.drop k) (b.drop k)=cmpL a b/\∃q,wr=w.drewN q) (λ_ i _=>m-(intOf i).toNat);exact⟨0,rfl,jG,rfl,0,rfl⟩;obtain⟨k,rfl,K,p,q,rfl⟩:=hrel;by_cases I:k<m
 ·have g:k<a.length:=by omega
  have h:k<b.length:=aj;obtain⟨g1,rfl,_,d⟩:=t aj;obtain⟨v,rfl,_,f⟩:=A aj;have c1:w.cell? ⟨g1,k,none⟩=some (.int .i64 a[k]):=d k g;have c2:w.cell? ⟨v,k,none⟩=some (.int .i64 b[k]):=f k h;have l:=jvr g h;rw[p]at l;generalize a[k]=x at *;generalize b[k]=y at *;clear d f p;by_cases B:x=y
  ·subst B;go_wp2;go_quiet (fail)
   go_wp2;grind [intOf]
  ·have hb:(x==y)=false:=by simp_all
   go_wp2;go_quiet (fail)
   go_wp21;have⟨s,j⟩:=cpy<|(w.drewN q).drewN nq;rw[<-j];have c3:s.cell? ⟨g1,k,none⟩=some (.int .i64 x):=by simp_all
   have c4:s.cell? ⟨v,k,none⟩=some (.int .i64 y):=by simp_all
   have u:=show ∃n,s=w.drewN n from⟨q+nq,by simp_all⟩
   clear j c1 c2;go_quiet (first|(go_at_call 253;refine Calls.quiet_of<|vxs))
   go_wp2;go_ret;have⟨F,J⟩:=u;refine⟨by simp_all,F+nq,by simp_all⟩
 ·have z:k=m:=by omega
  subst z;have l:=vxo (a:=a) (b:=b) C;rw[p]at l;go_wp21;refine zM (zje _ _ _) ?_;rintro L rfl;go_wp2;go_ret;exact⟨by simp_all,_,rfl⟩
theorem vwm:Calls prog 277 #[.int .u8 y] w λe w'=>rT e (.bool false)/\w'=w:=by go_wp2;go_ret;simp
theorem vxl(x y:Int)(w:World):Calls prog 254 #[.int .u8 x,.int .u8 y] w λe w'=>rT e (i_ (qxt x y))/\w'=w:=by
 go_in;go_wp2_with (go_at_call 277;refine(vwm).mono ?_;rintro e w' ⟨rfl,d⟩;rw[d])
 all_goals (go_ret;refine⟨?_,rfl⟩;unfold qxt;(repeat' split)<;>first|rfl|(exfalso;omega))
theorem jyh:og 254 #[.int .u8 i7,.int .u8 y] w λe w'=>rT e (i_ (qxt i7 y))/\∃q,w'=w.drewN q:=(vxl i7 y w).mono λ_ _ h=>⟨h.1,0,h.2⟩
theorem zxg{a b:List Int}(hA:kyy .u8 w va a)(E:kyy .u8 w vb b)(G:a.length<=1000000)(H:b.length<=1000000):Calls prog 229 #[va,vb] w λe w'=>e=.returned (.int .i64<|cmpL a b)/\∃q,w'=w.drewN q:=by
 have⟨xa,xc,D,t⟩:=hA;have⟨M,N,D,A⟩:=E;have⟨m,C⟩:=cpy<|min a.length b.length;go_wp2
 go_loopw [5,11] (λ_ i wr=>∃k:Nat,i=.int .i64 k/\k<=m/\cmpL (a.drop k) (b.drop k)=cmpL a b/\∃q,wr=w.drewN q) (λ_ i _=>m-(intOf i).toNat);exact⟨0,rfl,jG,rfl,0,rfl⟩;obtain⟨k,rfl,K,p,q,rfl⟩:=hrel;by_cases I:k<m
 ·have g:k<a.length:=by omega
  have h:k<b.length:=aj;obtain⟨g1,rfl,_,d⟩:=t aj;obtain⟨v,rfl,_,f⟩:=A aj;have c1:w.cell? ⟨g1,k,none⟩=some (.int .u8 a[k]):=d k g;have c2:w.cell? ⟨v,k,none⟩=some (.int .u8 b[k]):=f k h;have l:=jvr g h;rw[p]at l;generalize a[k]=x at *;generalize b[k]=y at *;clear d f p;by_cases B:x=y
  ·subst B;go_wp2;go_quiet (fail)
   go_wp2;grind [intOf]
  ·have hb:(x==y)=false:=by simp_all
   go_wp2;go_quiet (fail)
   go_wp21;have⟨s,j⟩:=cpy<|(w.drewN q).drewN nq;rw[<-j];have c3:s.cell? ⟨g1,k,none⟩=some (.int .u8 x):=by simp_all
   have c4:s.cell? ⟨v,k,none⟩=some (.int .u8 y):=by simp_all
   have u:=show ∃n,s=w.drewN n from⟨q+nq,by simp_all⟩
   clear j c1 c2;go_quiet (first|(go_at_call 254;refine Calls.quiet_of<|jyh))
   go_wp2;go_ret;have⟨F,J⟩:=u;refine⟨by simp_all,F+nq,by simp_all⟩
 ·have z:k=m:=by omega
  subst z;have l:=vxo (a:=a) (b:=b) C;rw[p]at l;go_wp21;refine zM (zje _ _ _) ?_;rintro L rfl;go_wp2;go_ret;exact⟨by simp_all,_,rfl⟩
section
structure kqg (S:List Nat)(w w':World):Prop where
 os:w'.os=w.os
 tape:w'.tape=w.tape
 output:w'.output=w.output
 size:w.heap.size<=w'.heap.size
 block:∀k,k<w.heap.size->k∉S->w'.heap[k]?=w.heap[k]?
theorem kqg.refl(S:List Nat)(w:World):kqg S w w:=⟨rfl,rfl,rfl,jV,λ_ _ _=>rfl⟩
theorem kqg.trans{b:World}(h:kqg S a b)(k:kqg S b w):kqg S a w:=
 ⟨k.os.trans h.os,k.tape.trans h.tape,k.output.trans h.output,rP h.size k.size,λi hi hn=>(k.block i (sV hi h.size) hn).trans<|h.block i hi hn⟩
theorem kqg.wide{S':List Nat}(h:kqg S w w')(f:∀k∈S,k<w.heap.size->k∈S'):kqg S' w w':=
 ⟨h.os,h.tape,h.output,h.size,λk d hn=>h.block k d λe=>hn<|f k e d⟩
theorem kqg.of_below(h:oq w w'):kqg S w w':=⟨h.os,h.tape,h.output,h.size,λk d _=>h.block k d⟩
theorem kqg.alloc(h:kqg S a w)(o:Obj):kqg S a (w.alloc o):=h.trans<|.of_below (jZ w (o:=o))
theorem kqg.drewN(h:kqg S a w)(n:Nat):kqg S a (w.drewN n):=⟨h.os,h.tape,h.output,h.size,h.block⟩
theorem kqg.set(h:kqg S a w){p:Addr}(f:p.block∈S\/a.heap.size<=p.block)(u:Value):kqg S a (w.setCell p u):=
 ⟨h.os,h.tape,h.output,lW,λk d hn=>(jN (λe=>by grind)).trans (h.block k d hn)⟩
theorem kqg.grown{i9:Option Nat}(h:kqg S a w)(d:w.grownBy w' i9)(g:∀k,i9=some k->k∈S\/a.heap.size<=k):kqg S a w':=
 ⟨d.os.trans h.os,d.tape.trans h.tape,d.output.trans h.output,rP h.size d.size,λk f hn=>(d.block k (sV f h.size) (λe=>by grind)).trans (h.block k f hn)⟩
theorem kqg.below(h:kqg S w w')(d:B<=w.heap.size)(g:∀k∈S,B<=k):Below B w w':=
 ⟨h.os,h.tape,h.output,h.size,λk e=>h.block k aj λf=>by grind⟩
theorem kqg.at{e:Obj}(h:kqg S w w')(d:w.heap[k]?=some e)(hn:k∉S):w'.heap[k]?=some e:=(h.block k (wQ d) hn).trans d
theorem qj7(h:w.ownsRow lo e size v n xs)(j:kqg S w w')(hn:∀k,v.ownBlock=some k->k∉S):w'.ownsRow lo e size v n xs:=by
 refine⟨h.1,?_⟩;obtain l|⟨g,cap,cur,d,f,e3,i⟩:=h.2
 ·simp_all
 ·exact .inr ⟨g,cap,cur,d,f,j.at e3 (hn g (by rw[d];rfl)),i⟩
def qke(w:World)(S:List Nat)(e:Nat):Prop:=∀k∈S,∀cs fr,w.heap[k]?≠some (.cells cs e fr)
theorem kkv(h:w.ownsRow lo e size v n xs)(i:kqg S w w')(hn:qke w S e):w'.ownsRow lo e size v n xs:=by
 refine qj7 h i λk d j=>?_
 obtain⟨f,_⟩|⟨g,cap,cur,f,_,e3,_⟩:=h.2
 ·rw[f]at d;cases d
 ·rw[f]at d;injection d with d;exact hn k j _ _ (by rw[<-d];exact e3)
theorem kyy.stay(h:kyy kd w v l)(f:kqg S w w')(hn:∀k,v.ownBlock=some k->k∉S):kyy kd w' v l:=by have⟨xa,xc,d,hv⟩:=h;refine⟨xa,xc,d,λi=>?_⟩;have⟨g,e,m,p⟩:=hv i;have s:=f.size;refine⟨g,e,aj,λj q=>?_⟩;rw[<-p j q];exact Jk (f.block g m<|hn g (by rw[d,e];rfl))
section
open Go.Sort
variable {P:Program}
def qy8(cs:List Value)(k:Nat):Value:=cs.getD k nS
def kxh(ls:List (List Int))(k:Nat):List Int:=ls.getD k []
theorem vxt(h:∀y∈cs,∃a n c,y=.slice a n c):Go.Proofs.OneCell (qy8 cs):=by
 intro k;unfold qy8;obtain d|d:=JY k cs.length
 ·rw[QB,wW d,Zq];have⟨a,n,c,e⟩:=h _<|wZ d;rw[e];rfl
 ·rw[QB,Jo d];rfl
theorem pyr(h:w.ownsRow lo e 1 (sL blk cs.length cap) cs.length cs):Holds (qy8 cs) w blk 0 (Array.range cs.length):=by
 obtain⟨d,_⟩|⟨g,c,cur,d,_,e3,f,e5,i,e7⟩:=h.2
 ·cases d
 ·injection d with d _ _;injection d with d;injection d with d;subst d;intro j k;grind [World.cell?,qy8,World.frozen?]
theorem qjo[Inhabited α](enc:α->Value)(w:World)(blk off m:Nat)(d:Array α)(os:Array Obj):kqg [blk] w (sortWorld enc w blk off m d os):=by
 unfold sortWorld;refine⟨rfl,rfl,rfl,?_,λk g hn=>?_⟩
 ·simp
 ·have f:blk≠k:=λe=>hn (by simp[e])
  rw[heap_grow_old _ _ (by simp_all)];simp[putRow,mapBlock,ahead,Z5,f]
theorem zqr[Inhabited α](enc:α->Value)(w:World)(blk m:Nat)(d:Array α)(os:Array Obj)(h:w.heap[blk]?=some (.cells j4 e fr)):(sortWorld enc w blk 0 m d os).heap[blk]?=some (.cells (putCells enc 0 d j4) e fr):=by unfold sortWorld;rw[heap_grow_old _ _ (by rw[size_putRow];exact wQ h)];simp_all [putRow,mapBlock,Z5,onCells]
theorem zqf[Inhabited α](enc:α->Value)(d:Array α)(cur:Array Value)(h:d.size<=cur.size):(putCells enc 0 d cur).toList.take d.size=d.toList.map enc:=by apply Jm;grind [putCells]
def qzb(S:List Nat)(lo e:Nat)(w:World)(v:Value)(cs:List Value)(ls:List (List Int))(w':World):Prop:=
 kqg S w w'/\∃p:List Nat,p.Perm (List.range cs.length)/\w'.ownsRow lo e 1 v cs.length (p.map<|qy8 cs)/\sortL ls=p.map (kxh ls)
theorem zvb(h:w.ownsRow lo e 1 (sL blk cs.length cap) cs.length cs)(E:ls.length=cs.length){d':Array Nat}{m:Nat}{os:Array Obj}(v:PermIn 0 (Array.range cs.length).size (Array.range cs.length) d')(z:SortedIn (ltOf λx y=>cmpL (kxh ls x)<|kxh ls y) 0 (Array.range cs.length).size d'):qzb [blk] lo e w (sL blk cs.length cap) cs ls (sortWorld (qy8 cs) w blk 0 m d' os):=by
 have⟨h1,_,C⟩:=v;have q:d'.size=cs.length:=by simp_all
 have f:d'.toList.Perm (List.range cs.length):=by
  have d:d'.extract 0 (Array.range cs.length).size=d':=by simp_all
  grind
 refine⟨qjo _ _ _ _ _ _ _,d'.toList,f,?_,?_⟩
 ·obtain⟨d,_⟩|⟨g,c,cur,d,s,e3,t,e5,u,e7⟩:=h.2
  ·cases d
  ·injection d with d _ k;injection d with d;injection d with d;subst d;subst k;refine⟨by simp_all,.inr ⟨blk,cap,_,rfl,s,zqr _ _ _ _ _ _ e3,t,e5,by simp[putCells,u],?_⟩⟩;rw[Jb,<-q];exact zqf _ _ _ aj
 ·symm
  refine zzy ?_ ?_
  ·have D:(List.range cs.length).map (kxh ls)=ls:=by
    apply Jm;intro j;rw[QV];by_cases p:j<cs.length
    ·rw[List.getElem?_range p,ZQ,kxh,QB,wW aj,Zq]
    simp_all
   grind
  ·rw[J6,sQ];intro i j hi p l;have A:i<d'.size:=aj;have B:j<d'.size:=aj;have:=z i j jG l aj;grind [ltOf,ky0]
end
end
end Go.Proofs.YtpmcnonmkghokaaGreatDoor
namespace Go.Proofs
open Go.Proofs.Tryz
open Go.Shelf
def Tryz.insI_ren:Go.Shelf.Ren:=⟨fun|21=>184|27=>223|28=>224|35=>250|39=>266|n=>n,fun|22=>31|3=>3|4=>4|0=>0|n=>n,fun|n=>n⟩
theorem Tryz.insI:Go.Proofs.Lays2.n21 prog Tryz.insI_ren:={
 mixed:=au
 f21:=func184.trans<|congrArg some au
 f27:=func223.trans<|congrArg some au
 f28:=func224.trans<|congrArg some au
 f35:=func250.trans<|congrArg some au
 f39:=func266.trans<|congrArg some au
 t0:=underlying0
 a0:=Tryz.isAgg0
 z0:=Tryz.sizeOf0
 v0:=Tryz.zeroValue0
 t3:=underlying3
 a3:=Tryz.isAgg3
 z3:=Tryz.sizeOf3
 v3:=Tryz.zeroValue3
 t4:=underlying4
 a4:=Tryz.isAgg4
 z4:=Tryz.sizeOf4
 v4:=Tryz.zeroValue4
 t22:=underlying31
 a22:=Tryz.isAgg31
 z22:=Tryz.sizeOf31
 v22:=Tryz.zeroValue31
 i3:=au}
def Tryz.revS_ren:Go.Shelf.Ren:=⟨fun|17=>134|n=>n,fun|24=>22|9=>9|3=>3|4=>4|0=>0|n=>n,fun|n=>n⟩
theorem Tryz.revS:Go.Proofs.Lays2.n17 prog Tryz.revS_ren:={
 mixed:=au
 f17:=func134.trans<|congrArg some au
 t0:=underlying0
 a0:=Tryz.isAgg0
 z0:=Tryz.sizeOf0
 v0:=Tryz.zeroValue0
 t3:=underlying3
 a3:=Tryz.isAgg3
 z3:=Tryz.sizeOf3
 v3:=Tryz.zeroValue3
 t4:=underlying4
 a4:=Tryz.isAgg4
 z4:=Tryz.sizeOf4
 v4:=Tryz.zeroValue4
 t9:=underlying9
 a9:=Tryz.isAgg9
 z9:=Tryz.sizeOf9
 v9:=Tryz.zeroValue9
 t24:=underlying22
 a24:=Tryz.isAgg22
 z24:=Tryz.sizeOf22
 v24:=Tryz.zeroValue22}
def Tryz.sortI_ren:Go.Shelf.Ren:=⟨fun|6=>225|15=>252|14=>251|28=>275|29=>195|20=>267|21=>268|22=>269|23=>270|24=>271|25=>272|26=>273|27=>274|46=>288|47=>289|48=>290|49=>291|50=>292|57=>297|n=>n,fun|22=>79|24=>31|25=>373|3=>3|39=>341|0=>0|53=>338|55=>274|4=>4|46=>404|45=>403|50=>408|5=>5|9=>9|66=>416|70=>420|76=>424|77=>317|n=>n,fun|n=>n⟩
theorem Tryz.sortI:Go.Proofs.SlLaysF.n6 prog Tryz.sortI_ren:={
 mixed:=au
 f6:=⟨Tryz.f225.name,ak,func225.trans<|congrArg some au⟩
 f14:=⟨Tryz.f251.name,ak,func251.trans<|congrArg some au⟩
 f15:=func252.trans<|congrArg some au
 f20:=⟨Tryz.f267.name,ak,func267.trans<|congrArg some au⟩
 f21:=⟨Tryz.f268.name,ak,func268.trans<|congrArg some au⟩
 f22:=⟨Tryz.f269.name,ak,func269.trans<|congrArg some au⟩
 f23:=⟨Tryz.f270.name,ak,func270.trans<|congrArg some au⟩
 f24:=⟨Tryz.f271.name,ak,func271.trans<|congrArg some au⟩
 f25:=⟨Tryz.f272.name,ak,func272.trans<|congrArg some au⟩
 f26:=⟨Tryz.f273.name,ak,func273.trans<|congrArg some au⟩
 f27:=⟨Tryz.f274.name,ak,func274.trans<|congrArg some au⟩
 f28:=func275.trans<|congrArg some au
 f29:=func195.trans<|congrArg some au
 f46:=⟨Tryz.f288.name,ak,func288.trans<|congrArg some au⟩
 f47:=func289.trans<|congrArg some au
 f48:=func290.trans<|congrArg some au
 f49:=⟨Tryz.f291.name,ak,func291.trans<|congrArg some au⟩
 f50:=⟨Tryz.f292.name,ak,func292.trans<|congrArg some au⟩
 f57:=⟨Tryz.f297.name,ak,func297.trans<|congrArg some au⟩
 t0:=underlying0
 a0:=Tryz.isAgg0
 z0:=Tryz.sizeOf0
 v0:=Tryz.zeroValue0
 t3:=underlying3
 a3:=Tryz.isAgg3
 z3:=Tryz.sizeOf3
 v3:=Tryz.zeroValue3
 t4:=underlying4
 a4:=Tryz.isAgg4
 z4:=Tryz.sizeOf4
 v4:=Tryz.zeroValue4
 t5:=underlying5
 a5:=Tryz.isAgg5
 z5:=Tryz.sizeOf5
 v5:=Tryz.zeroValue5
 t9:=underlying9
 a9:=Tryz.isAgg9
 z9:=Tryz.sizeOf9
 v9:=Tryz.zeroValue9
 t22:=underlying79
 a22:=Tryz.isAgg79
 z22:=Tryz.sizeOf79
 v22:=Tryz.zeroValue79
 a24:=Tryz.isAgg31
 z24:=Tryz.sizeOf31
 t25:=underlying373
 a25:=Tryz.isAgg373
 z25:=Tryz.sizeOf373
 v25:=Tryz.zeroValue373
 t39:=underlying341
 a39:=Tryz.isAgg341
 z39:=Tryz.sizeOf341
 v39:=Tryz.zeroValue341
 t45:=underlying403
 a45:=Tryz.isAgg403
 z45:=Tryz.sizeOf403
 v45:=Tryz.zeroValue403
 t46:=underlying404
 a46:=Tryz.isAgg404
 z46:=Tryz.sizeOf404
 v46:=Tryz.zeroValue404
 t50:=underlying408
 a50:=Tryz.isAgg408
 z50:=Tryz.sizeOf408
 v50:=Tryz.zeroValue408
 t53:=underlying338
 a53:=Tryz.isAgg338
 z53:=Tryz.sizeOf338
 v53:=Tryz.zeroValue338
 t55:=underlying274
 a55:=Tryz.isAgg274
 z55:=Tryz.sizeOf274
 v55:=Tryz.zeroValue274
 t66:=underlying416
 a66:=Tryz.isAgg416
 z66:=Tryz.sizeOf416
 v66:=Tryz.zeroValue416
 t70:=underlying420
 a70:=Tryz.isAgg420
 z70:=Tryz.sizeOf420
 v70:=Tryz.zeroValue420
 t76:=underlying424
 a76:=Tryz.isAgg424
 z76:=Tryz.sizeOf424
 v76:=Tryz.zeroValue424
 t77:=underlying317
 a77:=Tryz.isAgg317
 z77:=Tryz.sizeOf317
 v77:=Tryz.zeroValue317}
def Tryz.sortS_ren:Go.Shelf.Ren:=⟨fun|6=>230|15=>252|14=>255|28=>275|29=>195|20=>278|21=>279|22=>280|23=>281|24=>282|25=>283|26=>284|27=>285|46=>293|47=>289|48=>290|49=>294|50=>295|57=>298|n=>n,fun|22=>266|24=>95|25=>376|3=>3|39=>341|0=>0|53=>338|55=>274|4=>4|46=>404|45=>403|50=>408|5=>5|9=>9|66=>416|70=>420|76=>424|77=>317|n=>n,fun|n=>n⟩
theorem Tryz.sortS:Go.Proofs.SlLaysF.n6 prog Tryz.sortS_ren:={
 mixed:=au
 f6:=⟨Tryz.f230.name,ak,func230.trans<|congrArg some au⟩
 f14:=⟨Tryz.f255.name,ak,func255.trans<|congrArg some au⟩
 f15:=func252.trans<|congrArg some au
 f20:=⟨Tryz.f278.name,ak,func278.trans<|congrArg some au⟩
 f21:=⟨Tryz.f279.name,ak,func279.trans<|congrArg some au⟩
 f22:=⟨Tryz.f280.name,ak,func280.trans<|congrArg some au⟩
 f23:=⟨Tryz.f281.name,ak,func281.trans<|congrArg some au⟩
 f24:=⟨Tryz.f282.name,ak,func282.trans<|congrArg some au⟩
 f25:=⟨Tryz.f283.name,ak,func283.trans<|congrArg some au⟩
 f26:=⟨Tryz.f284.name,ak,func284.trans<|congrArg some au⟩
 f27:=⟨Tryz.f285.name,ak,func285.trans<|congrArg some au⟩
 f28:=func275.trans<|congrArg some au
 f29:=func195.trans<|congrArg some au
 f46:=⟨Tryz.f293.name,ak,func293.trans<|congrArg some au⟩
 f47:=func289.trans<|congrArg some au
 f48:=func290.trans<|congrArg some au
 f49:=⟨Tryz.f294.name,ak,func294.trans<|congrArg some au⟩
 f50:=⟨Tryz.f295.name,ak,func295.trans<|congrArg some au⟩
 f57:=⟨Tryz.f298.name,ak,func298.trans<|congrArg some au⟩
 t0:=underlying0
 a0:=Tryz.isAgg0
 z0:=Tryz.sizeOf0
 v0:=Tryz.zeroValue0
 t3:=underlying3
 a3:=Tryz.isAgg3
 z3:=Tryz.sizeOf3
 v3:=Tryz.zeroValue3
 t4:=underlying4
 a4:=Tryz.isAgg4
 z4:=Tryz.sizeOf4
 v4:=Tryz.zeroValue4
 t5:=underlying5
 a5:=Tryz.isAgg5
 z5:=Tryz.sizeOf5
 v5:=Tryz.zeroValue5
 t9:=underlying9
 a9:=Tryz.isAgg9
 z9:=Tryz.sizeOf9
 v9:=Tryz.zeroValue9
 t22:=underlying266
 a22:=Tryz.isAgg266
 z22:=Tryz.sizeOf266
 v22:=Tryz.zeroValue266
 a24:=Tryz.isAgg95
 z24:=Tryz.sizeOf95
 t25:=underlying376
 a25:=Tryz.isAgg376
 z25:=Tryz.sizeOf376
 v25:=Tryz.zeroValue376
 t39:=underlying341
 a39:=Tryz.isAgg341
 z39:=Tryz.sizeOf341
 v39:=Tryz.zeroValue341
 t45:=underlying403
 a45:=Tryz.isAgg403
 z45:=Tryz.sizeOf403
 v45:=Tryz.zeroValue403
 t46:=underlying404
 a46:=Tryz.isAgg404
 z46:=Tryz.sizeOf404
 v46:=Tryz.zeroValue404
 t50:=underlying408
 a50:=Tryz.isAgg408
 z50:=Tryz.sizeOf408
 v50:=Tryz.zeroValue408
 t53:=underlying338
 a53:=Tryz.isAgg338
 z53:=Tryz.sizeOf338
 v53:=Tryz.zeroValue338
 t55:=underlying274
 a55:=Tryz.isAgg274
 z55:=Tryz.sizeOf274
 v55:=Tryz.zeroValue274
 t66:=underlying416
 a66:=Tryz.isAgg416
 z66:=Tryz.sizeOf416
 v66:=Tryz.zeroValue416
 t70:=underlying420
 a70:=Tryz.isAgg420
 z70:=Tryz.sizeOf420
 v70:=Tryz.zeroValue420
 t76:=underlying424
 a76:=Tryz.isAgg424
 z76:=Tryz.sizeOf424
 v76:=Tryz.zeroValue424
 t77:=underlying317
 a77:=Tryz.isAgg317
 z77:=Tryz.sizeOf317
 v77:=Tryz.zeroValue317}
end Go.Proofs
namespace Go.Proofs.YtpmcnonmkghokaaGreatDoor
open Go.Proofs.Tryz Go.RowKit
attribute [local go_sem ↓] Go.wp_at_zero Go.wp_at_succ
variable {h9:Act}{ops:Array Oper}{j4:Array Value}{s:ByteArray}{j7:ELab}{Q:Exit->Act->World->Prop}{i7 y:Int}{kd:IntKind}{ls:List (List Int)}{gs:List (Nat×Nat)}{ps:List (Value×Nat)}{ts:List ByteArray}{i6 l:List Int}{S:List Nat}{rest:List Oper}{cs xs:List Value}{B C M b blk c cap e g i j k lc ll lo n nk pc size tt:Nat}{fr:Nat×Nat}{o:Oper}{i1 i2:Operand}{la pa:Option Addr}{b3:PB}{r:PRule}{t:PTree}{l1:PX}{α:Type}{p v va vb vg vp x x':Value}{a w w':World}{m:α}
theorem pzj:kyy kd w nS []:=⟨none,0,rfl,λh=>by simp at h⟩
def qyu(kd:IntKind)(w:World)(cs:List Value)(ls:List (List Int)):Prop:=ls.length=cs.length/\∀k (hk:k<cs.length) (hl:k<ls.length),kyy kd w cs[k] ls[k]/\ls[k].length<=1000000
theorem qyu.slices(h:qyu kd w cs ls):∀y∈cs,∃a n c,y=.slice a n c:=by intro y f;obtain⟨k,d,rfl⟩:=wG f;have⟨⟨a,c,e,_⟩,_⟩:=h.2 k d (by rw[h.1];exact d);simp_all
theorem qyu.sorting(h:qyu kd w cs ls)(q:w.ownsRow lo e 1 (sL blk cs.length cap) cs.length cs)(m:Nat)(os:Array Obj)(k:Array Nat)(x:Nat):kyy kd (sortWorld (qy8 cs) w blk 0 m k os) (qy8 cs x) (kxh ls x)/\(kxh ls x).length<=1000000:=by
 unfold qy8 kxh;obtain i|i:=JY x cs.length
 ·have l:x<ls.length:=by rw[h.1];exact i
  rw[QB,wW i,QB,wW l,Zq,Zq];have⟨h1,p⟩:=h.2 x i l;refine⟨?_,p⟩;have j:=qjo (qy8 cs) w blk 0 m k os;refine h1.cells j.size λg c t fr f ⟨y,A⟩=>j.block g (wQ f) λz=>?_
  have d:g=blk:=by simp_all
  subst d;obtain⟨d,_⟩|⟨v,c2,cur,d,_,e3,s,e5,u,e7⟩:=q.2
  ·cases d
  ·injection d with d _ _;injection d with d;injection d with d;subst d;rw[e3]at f;injection f with f;injection f with f _ _;subst f;have⟨a,n,c,ec⟩:=h.slices cs[0] (wZ aj);grind
 ·rw[QB,Jo i,QB,Jo (by rw[h.1];exact i)];exact⟨pzj,ay⟩
theorem jwv(j:w.ownsRow lo 31 1 (.slice la ll lc) cs.length cs)(h:qyu .i64 w cs ls)(hn:cs.length<=1000000):Calls prog 186 #[.slice la ll lc] w λe w'=>rT e (.tuple #[])/\∃S,(∀k∈S,(Value.slice la ll lc).ownBlock=some k)/\qzb S lo 31 w (.slice la ll lc) cs ls w':=by
 obtain⟨f,p⟩|⟨g,cap,cur,f,p,e3,D⟩:=j.2
 ·injection f with f l i;subst f;subst l;subst i;have t:cs=[]:=Qv p;subst t;have u:ls=[]:=Qv h.1;subst u;have d:=AnyF.slices_SortFunc_none (P:=prog) (ρ:=Tryz.sortI_ren) {Tryz.sortI with} none 0 (.func (.func 226) #[] #[]) w;change og 225 _ _ _ at d
  have C:=oz j;clear p hn;go_in;go_wp2_with (go_at_call 225;refine d.mono ?_;rintro e w' ⟨rfl,rfl⟩)
  go_end0;exact⟨rfl,[],ay,kqg.refl _ _,[],List.Perm.refl _,C,rfl⟩
 ·injection f with f l i;subst f;subst l;subst i;have E:∀args w,(callFunc 226 args).run prog w=.ok (.enter 226 args) w:=enters_of func226 au rfl;have d:=Any.slices_SortFunc Tryz.sortI (qy8 cs) (vxt h.slices) (λx y=>cmpL (kxh ls x)<|kxh ls y) (vxf<|kxh ls) 226 #[] g 0 lc (Array.range cs.length) w E (λm os s _ x y=>by have A:=h.sorting j m os s x;have B:=h.sorting j m os s y;exact(vxa A.1 B.1 A.2 B.2).mono λ_ _ ⟨F,q,H⟩=>⟨F,q,#[],by simp_all⟩) (pyr j) (wQ e3) (by grind)
  change og 225 _ _ _ at d
  simp only[Array.size_range]at d;have G:=oz (λ(d':Array Nat) (m:Nat) (os:Array Obj) v z=>zvb (ls:=ls) j h.1 (d':=d') (m:=m) (os:=os) v z);clear p e3 D hn;go_in;go_wp2_with (go_at_call 225;refine d.mono ?_;rintro e w' ⟨rfl,d',n,os,v,z,rfl⟩)
  go_end0;grind [Value.ownBlock,ku]
theorem pqe(l:List Int):∀y∈l.map (Value.int .i64),y.oneCell'=true:=by intro y d;obtain⟨x,_,rfl⟩:=tY.1 d;rfl
def jx3(l:List Value)(o:Nat):List Value->List Value
 |[]=>l
 |v::r=>jx3 (l.set o v) (o+1) r
theorem kke:∀(r l:List Value)(o:Nat),o+r.length<=l.length->jx3 l o r=l.take o++(r++l.drop (o+r.length))
 |[],l,o,_=>by simp[jx3]
 |v::r,l,o,h=>by
  simp only[Qb]at h;rw[jx3,kke r _ _ (by grind)];have h1:(l.set o v).take (o+1)=l.take o++[v]:=by rw[List.set_eq_take_append_cons_drop,lJ aj,List.take_append];grind
  grind [List.drop_set_of_lt]
theorem kzp(b:Nat){d:TypeId}:∀(vs:List Value)(o:Nat)(w:World)(cur:List Value),w.heap[b]?=some (.cells cur.toArray d (0,0))->(w.setCells b o vs).heap[b]?=some (.cells (jx3 cur o vs).toArray d (0,0))
 |[],_,_,_,h=>h
 |v::r,o,w,cur,h=>by rw[World.setCells,jx3];refine kzp b r (o+1) _ _ ?_;rw[Xx w b o _ _ v h];simp
theorem kxn(hb:B<=b):∀(vs:List Value)(o:Nat)(w:World),Below B w (w.setCells b o vs)
 |[],_,w=>bR
 |v::r,o,w=>by rw[World.setCells];exact(⟨rfl,rfl,rfl,ay,λk d=>jN<|by grind⟩:Below B w (w.setCell (Ad b o) v)).trans (kxn hb r _ _)
theorem pyd(cs r:List Value)(k:Nat)(v:Value)(f:k<=cs.length)(h:1<=r.length):(jx3 (jx3 (cs++r) (k+1) (cs.drop k)) k [v]).take (cs.length+1)=cs.take k++v::cs.drop k:=by
 have g:(cs.drop k).length=cs.length-k:=JQ;rw[kke (cs.drop k) _ _ (by grind)];have hA:((cs++r).take<|k+1).length=k+1:=by grind
 have e:((cs++r).take<|k+1).take k=cs.take k:=by grind
 generalize (cs++r).take (k+1)=A at *;generalize (cs++r).drop (k+1+(cs.drop k).length)=R;rw[kke [v] _ _ (by simp_all)];simp only[JC];have h1:(A++(cs.drop k++R)).take k=cs.take k:=by grind
 have d:(A++(cs.drop k++R)).drop (k+1)=cs.drop k++R:=List.drop_left' hA;rw[h1,d,<-sZ [v],<-sZ];exact(ZJ<|by grind).trans ay
theorem pxk(cs Z:List Value)(k:Nat)(v:Value)(e:k<cs.length)(d:cs.length+1-k<=Z.length):(jx3 (jx3 (cs.take k++Z) k [v]) (k+1) (cs.drop k)).take (cs.length+1)=cs.take k++v::cs.drop k:=by
 have f:(cs.drop k).length=cs.length-k:=JQ;have hA:(cs.take k).length=k:=by grind
 rw[kke [v] _ _ (by grind),ZJ hA,kke (cs.drop k) _ _ (by grind)];have h1:(cs.take k++([v]++(cs.take k++Z).drop (k+[v].length))).take (k+1)=cs.take k++[v]:=by grind
 rw[h1,<-sZ];exact(ZJ<|by grind).trans ay
def zxf(B:Nat)(w:World)(l:List Int)(e:Ending)(w':World):Prop:=∃ra rn rc,rT e (.slice ra rn rc)/\w'.ownsRow B 3 1 (.slice ra rn rc) l.length (l.map (Value.int .i64))/\Below B w w'
theorem vxq(k:Nat)(x:Int)(vb:Nat)(hS:w.ownsRow B 3 1 (.slice la lo i) l.length (l.map (Value.int .i64)))(Q:Rw w vb #[.int .i64 x] 3)(a4:(Value.slice la lo i).ownBlock≠some vb)(hk:k<=l.length)(hl:l.length<=1000000)(D:B<=w.heap.size):og 184 #[.slice la lo i,.int .i64 k,sL vb 1 1] w (zxf B w<|kx8 x l k):=by
 have C:∀j v,[Value.int .i64 x][j]?=some v->w.cell? ⟨vb,0+j,none⟩=some v:=by grind [World.cell?]
 have z:∀v∈[Value.int .i64 x],v.oneCell'=true:=by simp[Value.oneCell']
 have p:(kx8 x l k).length=l.length+1:=jvk x l k hk;have q:(kx8 x l k).map (Value.int .i64)=(l.map<|Value.int .i64).take k++Value.int .i64 x::(l.map<|Value.int .i64).drop k:=by simp[kx8]
 have I:(l.map<|Value.int .i64).length=l.length:=ay;have M:∀(base:Option Addr)(c:Nat),k=l.length->(base=none->l.length=0)->(∀a,base=some a->∀j v,(l.map<|Value.int .i64)[j]?=some v->w.cell? (a.add j)=some v)->l.length<=c->c<l.length+1 ->
   og 184 #[.slice base l.length c,.int .i64 k,.slice (some ⟨vb,0,none⟩) 1 1] w (zxf B w<|kx8 x l k):=by
  intro base c a0 T W a1 f;subst a0;have d:=Any2.slices_Insert_int_end_grow Tryz.insI base l.length c vb 0 1 1 (l.map<|Value.int .i64) [.int .i64 x] w aj a1 f aj I rfl T W C z;change og 184 _ _ _ at d
  refine d.mono ?_;rintro e w' ⟨rfl,rfl⟩;have J:=grownCap_ge w (l.length+1) c 3;have K:=grownCap_le_maxLen w (l.length+1) c 3 iq;change zxf B w _ (.returned<|.slice (some ⟨w.heap.size,0,none⟩) (l.length+1) (grownCap w (l.length+1) c 3)) (w.drew.alloc<|.cells ((l.map (Value.int .i64)++[Value.int .i64 x]).toArray++Builtin.zeroCells (Value.int .i64 0).cells (grownCap w (l.length+1) c 3-(l.length+1))) 3)
  generalize grownCap w (l.length+1) c 3=gc at *;refine⟨_,_,_,rfl,?_,((Below.refl B w).drew).alloc D _⟩;rw[p,q];refine⟨ay,.inr ⟨w.heap.size,gc,_,rfl,D,qy (w:=w.drew),J,K,?_,?_⟩⟩
  ·simp[size_zeroCells,Value.cells];omega
  grind
 obtain⟨t,s⟩|⟨g,cap,cur,t,s,e3,U,e5,e6,e7⟩:=hS.2
 ·injection t with t G u;subst t;subst G;subst u;have:=M none 0 aj (λ_=>s) (λa h=>ig) aj aj;rw[s]at this;exact this
 ·injection t with t G u;subst t;subst G;subst u;have Y:vb≠g:=λe=>a4 (by rw[e];rfl)
  have N:w.heap[g]?=some (.cells cur.toList.toArray 3 (0,0)):=by rw[e3]
  have y:∀j v,(l.map<|Value.int .i64)[j]?=some v->w.cell? ⟨g,j,none⟩=some v:=by
   intro j v E;have a6:j<l.length:=by grind
   rw[<-e7,ZU aj]at E;unfold World.cell?;simp_all
  have S:cur.toList=l.map (Value.int .i64)++cur.toList.drop l.length:=by grind [List.take_append_drop]
  by_cases f:l.length+1<=i
  ·have X:1<=(cur.toList.drop l.length).length:=by simp;omega
   have A:∀j,j<l.length+1->(w.cell? ⟨g,j,none⟩).isSome=true:=λj E=>by grind [World.cell?]
   have P:∀j,w.frozen? ⟨g,j,none⟩=false:=λj=>by unfold World.frozen?;simp[e3]
   have O:∀w',w'=(w.drew.setCells g (k+1)<|(l.map<|Value.int .i64).drop k).setCells g k [.int .i64 x]->zxf B w (kx8 x l k) (.returned<|.slice (some ⟨g,0,none⟩) (l.length+1) i) w':=by
    rintro w' rfl;refine⟨_,_,_,rfl,?_,((Below.refl B w).drew).trans<|(kxn s _ _ _).trans (kxn s _ _ _)⟩;have m:=kzp g [.int .i64 x] k _ _<|kzp g ((l.map<|Value.int .i64).drop k) (k+1) w.drew cur.toList N;rw[p,q];refine⟨ah,.inr ⟨g,i,_,rfl,s,m,f,e5,?_,?_⟩⟩
    ·rw[kke [.int .i64 x] _ _ (by grind [kke]),kke _ _ _ ah];simp;omega
    ·rw[S,Jb];have:=pyd (l.map<|Value.int .i64) (cur.toList.drop l.length) k (.int .i64 x) aj X;grind
   by_cases L:k<l.length
   ·have d:=Any2.slices_Insert_int_shift Tryz.insI g 0 l.length i k vb 0 1 1 (l.map<|Value.int .i64) [.int .i64 x] w L aj f (by unfold maxLen at e5;omega) Y I rfl (by simpa using y) (by simpa using A) (by simpa using λj _=>P j) C (pqe l) z 3 3 1 cur.size (by simp[World.shape?,Q]) (by simp[World.shape?,e3]) aj (by unfold World.frozen?;simp[Q]) (by unfold World.frozen?;simp[Q]);change og 184 _ _ _ at d
    refine d.mono ?_;rintro e w' ⟨rfl,F⟩;exact O w' (by rw[F];simp)
   ·obtain rfl:k=l.length:=by omega
    have d:=Any2.slices_Insert_int_end_room Tryz.insI g 0 l.length i vb 0 1 1 [.int .i64 x] w aj f (by unfold maxLen at e5;omega) rfl (λj E=>by have:=A (l.length+j) aj;simpa using this) (λj E=>P _) C z;change og 184 _ _ _ at d
    refine d.mono ?_;rintro e w' ⟨rfl,rfl⟩;refine⟨_,_,_,rfl,?_,kxn s _ _ _⟩;have m:=kzp g [.int .i64 x] (0+l.length) w cur.toList N;have h7:(l.map<|Value.int .i64).take l.length=l.map (Value.int .i64):=Q9 ay;have h8:(l.map<|Value.int .i64).drop l.length=[]:=Qa ay;rw[p,q,h7,h8];refine⟨ay,.inr ⟨g,i,_,rfl,s,m,f,e5,?_,?_⟩⟩
    ·grind [kke]
    grind [kke]
  ·by_cases L:k<l.length
   ·have d:=Any2.slices_Insert_int_grow Tryz.insI g 0 l.length i k vb 0 1 1 (l.map<|Value.int .i64) [.int .i64 x] w L aj U aj aj I rfl (by simpa using y) C (pqe l) z;change og 184 _ _ _ at d
    refine d.mono ?_;rintro e w' ⟨rfl,F⟩;have J:=grownCap_ge w (l.length+1) i 3;have K:=grownCap_le_maxLen w (l.length+1) i 3 iq;change w'=(((w.alloc<|.cells (((l.map<|Value.int .i64).take k).toArray++Builtin.zeroCells (Value.int .i64 0).cells (l.length+1-k)++Builtin.zeroCells (Value.int .i64 0).cells (grownCap w (l.length+1) i 3-(l.length+1))) 3).drew.setCells w.heap.size k [.int .i64 x]).drew).setCells w.heap.size (k+1) ((l.map<|Value.int .i64).drop k) at F
    change zxf B w _ (.returned<|.slice (some ⟨w.heap.size,0,none⟩) (l.length+1) (grownCap w (l.length+1) i 3)) w'
    generalize grownCap w (l.length+1) i 3=gc at *;have⟨Z,V⟩:=cpy<|(Builtin.zeroCells (Value.int .i64 0).cells (l.length+1-k)++Builtin.zeroCells (Value.int .i64 0).cells (gc-(l.length+1))).toList;have a5:Z.length=gc-k:=by rw[V];simp[size_zeroCells,Value.cells];omega
    have H:((l.map<|Value.int .i64).take k).toArray++Builtin.zeroCells (Value.int .i64 0).cells (l.length+1-k)++Builtin.zeroCells (Value.int .i64 0).cells (gc-(l.length+1))=(((l.map<|Value.int .i64).take k)++Z).toArray:=by rw[V];simp
    rw[H]at F;have a2:(w.alloc<|.cells (((l.map<|Value.int .i64).take k)++Z).toArray 3).drew.heap[w.heap.size]?=some (.cells (((l.map<|Value.int .i64).take k)++Z).toArray 3 (0,0)):=qy (w:=w);have a3:=kzp w.heap.size [.int .i64 x] k _ _ a2;have m:=kzp w.heap.size ((l.map<|Value.int .i64).drop k) (k+1) (((w.alloc<|.cells (((l.map<|Value.int .i64).take k)++Z).toArray 3).drew.setCells w.heap.size k [.int .i64 x]).drew) _ a3;rw[<-F]at m;refine⟨_,_,_,rfl,?_,?_⟩
    ·rw[p,q];refine⟨ah,.inr ⟨w.heap.size,gc,_,rfl,D,m,J,K,?_,?_⟩⟩
     ·have a7:((l.map<|Value.int .i64).take k).length=k:=by simp;omega
      rw[kke _ _ _ (by rw[kke _ _ _ ah];simp;omega),kke _ _ _ ah];simp;omega
     ·have:=pxk (l.map<|Value.int .i64) Z k (.int .i64 x) aj aj;grind
    ·rw[F];exact((jZ w).mono D).drew.trans (((kxn D _ _ _).drew).trans<|kxn D _ _ _)
   ·exact M (some ⟨g,0,none⟩) i aj (λh=>ig) (λa R j v E=>by injection R with R;subst R;have:=y j v E;rw[show((⟨g,0,none⟩:Addr).add j)=⟨g,j,none⟩ by simp[Addr.add];omega];omega) U aj
theorem kx4.at(h:kx4 w ls cs)(g:∀x∈ls,x.length<=1000000):qyu .i64 w cs ls:=by refine⟨h.1.symm,λk f d=>?_⟩;have⟨a,n,c,e,i⟩:=h.2 k d;grind [qk6]
theorem jqo(e:S.Perm (List.range n))(d:k<S.length):S[k]<n:=by grind [List.getElem_mem]
theorem kx4.sorted(h:kx4 w ls cs)(s:w.ownsRow lo 31 1 (.slice la ll lc) cs.length cs)(q:∀k∈S,(Value.slice la ll lc).ownBlock=some k)(u:qzb S lo 31 w (.slice la ll lc) cs ls w'):OwnRows lo w' (.slice la ll lc) (sortL ls):=by
 have⟨z,p,d,t,v⟩:=u;have y:p.length=cs.length:=by rw[d.length_eq];simp
 have x:qke w S 3:=by
  intro k l c fr e;have f:=q k l;obtain⟨i,_⟩|⟨g,cap,cur,i,_,e3,_⟩:=s.2
  ·rw[i]at f;cases f
  ·rw[i]at f;injection f with f;simp_all
 refine⟨la,ll,lc,p.map<|qy8 cs,rfl,by simp_all,by simp_all,λk l=>?_⟩;have m:k<p.length:=by simp_all
 have j:p[k]<ls.length:=by rw[<-h.1];exact(jqo d m)
 have⟨a,n,c,e,how⟩:=h.2 p[k] j;grind [kxh,qy8,kkv]
theorem kzl:∀k,k<=4->(kj3 k).length<=24:=by intro k d;have:k=0\/k=1\/k=2\/k=3\/k=4:=aj;obtain rfl|rfl|rfl|rfl|rfl:=this<;>decide
theorem jj1(x:Int)(all:List (List Int))(j:Nat):(kqj x (all.take j)).length<=(kqj x all).length:=by grind [List.take_append_drop,kqj]
theorem vw2(w:World)(n:Nat)(hn:n<=4):Calls prog 127 #[i_ n] w λe w'=>∃v,e=.returned v/\OwnRows w.heap.size w' v (orders n)/\oq w w':=by
 have⟨W,hW⟩:=cpy<|w.alloc (.cells #[nS] 31);have b3:oq w W:=jM;have hA:Rw W w.heap.size #[nS] 31:=kK;have b7:OwnRows w.heap.size W (sL w.heap.size 1 1) (kj3 0):=
  ⟨_,_,_,[nS],rfl,⟨rfl,.inr ⟨w.heap.size,1,_,rfl,jV,hA,jV,iq,rfl,rfl⟩⟩,rfl,λk H=>by grind [kj3,World.ownsRow_nil]⟩
 go_in;go_wp21;rw[(oz hW.symm)];go_loopw [3,4,5,7,8] (λx i _ _ _ wr=>∃k:Nat,k<=n/\i=i_ k/\OwnRows w.heap.size wr x (kj3 k)/\oq w wr) (λ_ i _ _ _ _=>n-(intOf i).toNat)
 ·grind
 obtain⟨h,rfl⟩:=cpy wr;obtain⟨k,H,rfl,l,hb⟩:=hrel;obtain⟨xa,xn,xc,cs,rfl,f,d⟩:=l;have T:=qky k;have bC:=kzl k aj;by_cases bB:k<n
 ·have I:=kzl (k+1) aj;have⟨za,zc,ez,aG⟩:=qp f;injection ez with aN aO aP;subst aN;subst aO;subst aP;have V:=hb.size;have⟨aD,HB,a9⟩:=jF d hb T;have b5:=show OwnRows h.heap.size h nS (kqj k<|(kj3 k).take 0) from⟨none,0,0,[],rfl,by grind [kqj,World.ownsRow_nil],by simp[kqj],λk H=>by simp[kqj]at H⟩
  have aB:=show kj3 (k+1)=kqj k (kj3 k) from rfl
  have aZ:(kqj k<|kj3 k).length<=24:=I;generalize kj3 k=all at *;clear d hb T I;go_wp21;go_loopw [5,7,8,18] (λy _ _ i D=>∃j:Nat,j<=all.length/\i=i_ j/\OwnRows h.heap.size D y (kqj k<|all.take j)/\oq h D) (λ_ _ _ i _=>all.length-(intOf i).toNat)
  ·grind [Below.refl]
  obtain⟨D,rfl⟩:=cpy wr;obtain⟨j,b9,rfl,l,G⟩:=hrel;obtain⟨N,P,O,ds,rfl,f,d⟩:=l;by_cases t:j<all.length
  ·obtain⟨g5,rfl,aW,aX,aR⟩:=aG j t;have⟨ca,cn,aH,aJ,R⟩:=aD.2 j t;have e5:D.cell? (Ad g5 (j*1))=some (.slice ca cn aH):=by rw[G.cell (p:=⟨g5,j*1,none⟩) aj,aR (j*1) aj,Jb];exact aJ
   simp only[Jb]at e5;have aV:all[j].length<=4:=by have:=(a9 _<|wZ t).1;omega
   have⟨xq,cq,eq,_⟩:=qp R;injection eq with aK aL aM;subst aK;subst aL;subst aM;have⟨a3,s⟩:=jS G (zx0 k all j t);have aY:=jj1 k all<|j+1;have aE:=show OwnRows h.heap.size D (.slice N P O) (kqj k (all.take j)++(List.range 0).map (kx8 k all[j])) from⟨N,P,O,ds,rfl,by simp_all,by simp_all⟩
   generalize all[j]=c at *;go_wp21;go_loopw [5,8,25] (λy _ i C=>∃q:Nat,q<=c.length+1/\i=i_ q/\OwnRows h.heap.size C y (kqj k (all.take j)++(List.range q).map (kx8 k c))/\oq h C) (λ_ _ i _=>c.length+1-(intOf i).toNat);exact⟨0,jG,rfl,aE,a3⟩;obtain⟨C,rfl⟩:=cpy wr;obtain⟨q,hq,rfl,l,A⟩:=hrel;obtain⟨X,Z,Y,aI,rfl,f,d⟩:=l;have a1:=A.size;by_cases bA:q<c.length+1
   ·have a4:=qj R A;have⟨J,F⟩:=jS f d;have aT:(kqj k (all.take j)++(List.range q).map (kx8 k c)).length<=24:=by
     have h1:(kqj k (all.take j)++(List.range q).map (kx8 k c)).length<=(kqj k<|all.take (j+1)).length:=by rw[s];simp[jjf];omega
     omega
    have b6:=show(kqj k (all.take j)++(List.range<|q+1).map (kx8 k c))=(kqj k (all.take j)++(List.range q).map (kx8 k c))++[kx8 k c q] by rw[Jf,Qw,<-sZ];rfl
    generalize (kqj k (all.take j)++(List.range q).map (kx8 k c))=Lg at *;go_wp21;refine(zj2 a4 aj).mono ?_;rintro e w4 ⟨ka,kn,kc,rfl,U,Q⟩;have a0:=Q.size;have a8:=vxq q k w4.heap.size (U.alloc _) (qy) (λe=>by
     obtain⟨e1,_⟩|⟨g,cap,cur,e1,_,e3,_⟩:=U.2
     ·rw[e1]at e;cases e
     ·rw[e1]at e;injection e with e;simp_all) aj aj ah
    go_wp21;refine a8.mono ?_;rintro e M ⟨a5,l5,c5,rfl,aS,aQ⟩;have m:oq C M:=(Q.alloc a0 _).trans aQ;have b2:=m.size;have aA:=qo jG aS;have z:=qj J m;go_wp2_with (at_builtin;refine apO (z.alloc _) ?_)
    intro v6 w6 L u _ aU;obtain⟨a6,l6,c6,rfl⟩:=qh L;have k6:Tk none [31] M w6:=(yt (jZ M) _ _).trans<|kz4 (z.alloc _) u ay;have b8:=show OwnRows h.heap.size w6 (.slice a6 l6 c6) (Lg++[kx8 k c q]) from⟨a6,l6,c6,_,rfl,by simp_all,((F.tk (yt m none [31]) (pz.none _) ak).snoc aA).tk k6 (pz.none _) ak⟩
    have a2:=((A.trans<|m.mono a1).alloc aj _).grown u ah<|jo z;go_wp2
    exact rdM ⟨q+1,aj,eu,by simp_all,a2⟩
   ·have:q=c.length+1:=by omega
    subst this;have K:=show OwnRows h.heap.size C (.slice X Z Y) (kqj k<|all.take (j+1)) from⟨X,Z,Y,aI,rfl,by rw[s];exact f,by rw[s];exact d⟩
    go_wp2;exact rdM ⟨j+1,aj,eu,K,A⟩
  ·have:j=all.length:=by omega
   subst this;rw[Qc]at f d;have K:=show OwnRows w.heap.size D (.slice N P O) (kj3<|k+1) by rw[aB];exact⟨N,P,O,ds,rfl,qo aj f,d⟩
   have b4:=HB.trans<|G.mono aj;go_wp2
   grind [intOf]
 ·have:k=n:=by omega
  subst this;have E:h.ownsRow w.heap.size 31 1 (.slice xa xn xc) cs.length cs:=by rw[d.1];omega
  have aC:=oz d;have aF:=jwv E (d.at λx hx=>by grind) (by rw[d.1];omega);have a7:=jo E;have HB:=oz hb;have V:=hb.size;go_wp21;refine zM aF ?_;rintro M ⟨S,hS,B⟩;have K:=aC.sorted E hS B;have m:=HB.trans (B.1.below V<|λk H=>a7 k<|hS k H);go_wp2;go_ret;exact⟨_,rfl,K,m⟩
theorem kx4.below(h:kx4 w ls cs)(hb:oq w w'):kx4 w' ls cs:=
 ⟨h.1,λk d=>by have⟨a,n,c,e,f⟩:=h.2 k d;exact⟨a,n,c,e,qj f hb⟩⟩
theorem kx4.alloc(h:kx4 w ls cs)(o:Obj):kx4 (w.alloc o) ls cs:=h.below<|jZ w (o:=o)
theorem qzo:∀(n:Nat)(w:World),n<=4 ->
  Calls prog 135 #[i_ n] w λe w'=>∃v,e=.returned v/\OwnRows w.heap.size w' v (kj3 n)/\oq w w'/\(n=0->∃g h,v=sL h 1 1/\w'.cell? ⟨h,0,none⟩=some (sL g 0 0))
 |0,w,hn=>by
  have H0:=qy (w:=w) (o:=.cells #[] 3);have H1:=qy (w:=w.alloc<|.cells #[] 3) (o:=.cells #[sL w.heap.size 0 0] 31);simp only[tV]at H1;go_in;go_wp21;go_ret;refine⟨_,rfl,⟨_,_,_,[sL w.heap.size 0 0],rfl,⟨rfl,.inr ⟨_,1,_,rfl,aj,H1,jV,iq,rfl,rfl⟩⟩,rfl,λk x=>?_⟩,(jZ w).alloc ay _,λ_=>⟨w.heap.size,w.heap.size+1,rfl,?_⟩⟩
  ·simp[kj3]at x;subst x;exact⟨_,_,_,rfl,rfl,.inr ⟨_,0,_,rfl,jG,zy H0,jV,ay,rfl,rfl⟩⟩
  simp
 |n+1,w,hn=>by
  have IH:=qzo n w aj;go_in;go_wp21;refine IH.mono ?_;rintro e u ⟨v,rfl,⟨xa,xn,xc,cs,rfl,aD,U⟩,hb,hz⟩;have a1:=qky n;have bF:=kzl n aj;have S:=kzl (n+1) hn;have⟨za,zc,ez,a8⟩:=qp aD;injection ez with aU aV aW;subst aU;subst aV;subst aW;have HA:Hid (∀(j:Nat) (hj:j<(kj3 n).length),∃h g c,xa=some (Ad h 0)/\h<u.heap.size/\Ce u h j (sL g n c)/\u.ownsRow 0 3 1 (sL g n c) n ((kj3 n)[j].map (Value.int .i64))):=by intro j hj;obtain⟨h,rfl,_,h2,hc⟩:=a8 j hj;have⟨a,m,c,e,ho⟩:=U.2 j hj;grind [qkw]
  have a7:=hb.size;have b9:(kqj n<|kj3 n).length<=24:=S;have⟨aM,aN⟩:=jS a1 (show kj3 (n+1)=kqj n (kj3 n) from rfl);generalize kj3 n=all at *;clear hz a1 a8 S;go_wp21;go_loopw [4,5,6,7] (λy i _ _ V=>∃j:Nat,j<=all.length/\i=i_ j/\OwnRows u.heap.size V y (kqj n<|all.take j)/\oq u V) (λ_ i _ _ _=>all.length-(intOf i).toNat);exact⟨0,jG,rfl,⟨none,0,0,[],rfl,by grind [kqj,World.ownsRow_nil],by simp[kqj],λk x=>by simp[kqj]at x⟩,bR⟩;obtain⟨V,rfl⟩:=cpy wr;obtain⟨j,bC,rfl,⟨ya,yn,yc,ds,rfl,s,t⟩,K⟩:=hrel;have bB:=K.size;by_cases O:j<all.length
  case neg=>
   have:j=all.length:=aj;subst this;rw[Qc]at s t;go_wp2;go_ret;exact⟨_,rfl,by rw[ku aN];exact⟨_,_,_,_,rfl,qo a7 s,t⟩,hb.trans<|K.mono a7,λh=>aj⟩
  case pos=>
  obtain⟨T,g0,c0,rfl,b2,X,W⟩:=ku HA j O;have⟨aL,aK⟩:=jS X W;have aC:all[j].length=n:=(aM _<|wZ O).1;have C:=oz<|zx0 n all j O;have b8:=jj1 n all<|j+1;have aR:=oz (show OwnRows u.heap.size V (.slice ya yn yc) (kqj n (all.take j)++(List.range 0).map (kx8 n all[j])) from⟨ya,yn,yc,ds,rfl,by simp_all,by simp_all⟩);generalize all[j]=c at *;clear s t W X;go_wp21
  go_loopw [4,6,7] (λy i _ d=>∃q:Nat,q<=n+1/\i=i_ q/\OwnRows u.heap.size d y (kqj n (all.take j)++(List.range q).map (kx8 n c))/\oq u d) (λ_ i _ _=>n+1-(intOf i).toNat);exact⟨0,jG,rfl,aR,K⟩;obtain⟨d,rfl⟩:=cpy wr;obtain⟨q,hq,rfl,⟨a9,aB,aA,aT,rfl,s,t⟩,A⟩:=hrel;have aG:=A.size;by_cases bD:q<n+1
  case neg=>
   have:q=n+1:=aj;subst this;have HX:=oz (show OwnRows u.heap.size d (.slice a9 aB aA) (kqj n<|all.take (j+1)) by rw[ku C,jjf,aC];exact⟨a9,aB,aA,aT,rfl,s,t⟩);clear s t;go_wp2;exact rdM ⟨j+1,aj,eu,HX,A⟩
  case pos=>
  have aY:=(A.cell (p:=⟨T,j,none⟩) b2).trans aL;have F:=qj aK A;have E:Hid (∀k,k<n->d.cell? (Ad g0 k)=(c.map<|Value.int .i64)[k]?):=by intro k x;grind [qp]
  have b7:n<=c0:=by
   obtain⟨e,_⟩|⟨g,cap,cur,e,_,_,h,_⟩:=F.2
   ·cases e
   simp_all
  have aZ:g0<d.heap.size:=by
   obtain⟨e,_⟩|⟨g,cap,cur,e,_,h,_⟩:=F.2
   ·cases e
   grind
  clear F;have⟨aP,aQ⟩:=jS s t;have B:=rC d d.heap.size 3 1;have b6:(kqj n (all.take j)++(List.range q).map (kx8 n c)).length<=24:=by
   have h1:(kqj n (all.take j)++(List.range q).map (kx8 n c)).length<=(kqj n<|all.take (j+1)).length:=by rw[ku C];simp[jjf];omega
   omega
  have aS:=oz (by rw[Jf,Qw,<-sZ];rfl:(kqj n (all.take j)++(List.range<|q+1).map (kx8 n c))=(kqj n (all.take j)++(List.range q).map (kx8 n c))++[kx8 n c q]);generalize (kqj n (all.take j)++(List.range q).map (kx8 n c))=Lg at *;clear s t;obtain⟨f,hf⟩:∃f,f=if c0=q then 0 else q:=⟨_,rfl⟩
  have⟨d1,L⟩:=cpy<|c.take q;have⟨d2,M⟩:=cpy<|c.drop q;have b3:d1.length=q:=by grind
  have b4:d2.length=n-q:=by simp_all
  have aH:Hid (∀k,k<d1.length->d.cell? (Ad g0 (0+k))=(d1.map<|Value.int .i64)[k]?):=λk x=>by rw[Jc,ku E k aj,L,ZY,ZU aj]
  have aI:Hid (∀k,k<d2.length->d.cell? (Ad g0 (f+k))=(d2.map<|Value.int .i64)[k]?):=λk x=>by rw[hf,Xy aj,ku E (q+k) aj,M,List.map_drop,J3]
  have⟨HE,HF⟩:=jS (by rw[L,M,kx8];simp:kx8 n c q=(d1++[(n:Int)])++d2) hf;clear hf L M E;go_wp2_with (at_builtin;refine apI (l:=[]) B aH ?_)
  intro v2 w2 P Y _ _;have J:oq d w2:=bR.grown Y jV<|jo B;have aE:=J.size;obtain⟨a2,l2,c2,rfl⟩:=qh P;have G:=oz P;clear Y B P;go_wp2_with (at_builtin;refine apO (G.alloc _) ?_)
  intro v3 w3 a6 Z _ _;have z:oq d w3:=(J.alloc aE _).grown Z ah<|jo G;have H:Hid (w3.ownsRow d.heap.size 3 1 v3 (d1++[(n:Int)]).length<|(d1++[(n:Int)]).map (Value.int .i64)):=by unfold Hid;simp_all
  obtain⟨a3,l3,c3,rfl⟩:=qh a6;have aF:=z.size;have b5:Ce w3 T j (sL g0 n c0):=(z.cell (p:=⟨T,j,none⟩) (by show T<_;omega)).trans aY;have aJ:Hid (∀k,k<d2.length->w3.cell? (Ad g0 (f+k))=(d2.map<|Value.int .i64)[k]?):=λk x=>(z.cell (p:=⟨g0,f+k,none⟩) aZ).trans<|aI k x
  clear a6 Z J G;go_wp2_with (at_builtin;refine apI H aJ ?_ (hA:=by rw[ku HF];split<;>rfl))
  all_goals
   intro v4 w4 Q a0 _ _;have D:oq d w4:=z.grown a0 aF<|jo H;have aO:Hid (w4.ownsRow 0 3 1 v4 (kx8 n c q).length<|(kx8 n c q).map (Value.int .i64)):=by unfold Hid;rw[ku HE];simpa[b3,b4] using qo jG Q
   obtain⟨a4,l4,c4,rfl⟩:=qh Q;have bA:=D.size;have I:=oz<|qj aP D;clear Q a0 z H;go_wp2_with (at_builtin;refine apO (I.alloc _) ?_)
   intro v5 w5 R N _ _;have aX:=((A.trans<|D.mono aG).alloc aj _).grown N ah<|jo I;have HX:=oz<|OwnRows.snoc (kx4.alloc (kx4.below aQ D) _) (I.alloc _) (aO.alloc _) R N;obtain⟨a5,l5,c5,rfl⟩:=qh R;clear R N;go_wp2
   exact rdM ⟨q+1,aj,eu,by rw[ku aS];exact HX,aX⟩
def xqf(w:World)(g k:Nat)(V:PVar):Prop:=
 w.cell? (Ad g (k*12))=some (.string V.y.t)/\w.cell? (Ad g (k*12+1))=some (.string V.y.x)/\w.cell? (Ad g (k*12+2))=some (i_ V.y.v)/\w.cell? (Ad g (k*12+3))=some (.string V.g.t)/\w.cell? (Ad g (k*12+4))=some (.string V.g.x)/\w.cell? (Ad g (k*12+5))=some (i_ V.g.v)/\w.cell? (Ad g (k*12+6))=some (.string V.k.t)/\w.cell? (Ad g (k*12+7))=some (.string V.k.x)/\w.cell? (Ad g (k*12+8))=some (i_ V.k.v)/\w.cell? (Ad g (k*12+9))=some (.string V.R.t)/\w.cell? (Ad g (k*12+10))=some (.string V.R.x)/\w.cell? (Ad g (k*12+11))=some (i_ V.R.v)
theorem kqc.var(h:kqc w B t)(e:k<t.z.length):∃g cap,B<w.heap.size/\g<w.heap.size/\Ce w B 2 (sL g t.z.length cap)/\xqf w g k t.z[k]:=by
 have⟨x0,x1,x2,x3,x4,y1,y3,y4,l,_,_,s,_⟩:=h;have⟨v,x,u,y,z,_⟩:=kzk l;obtain⟨a,cap,rfl,d⟩:=qp s;obtain⟨g,rfl,_,p,m⟩:=d k e;have E:=λj (q:j<12)=>(m (k*12+j) aj).trans<|kqo kj7 12 (λ_=>rfl) t.z k j e q
 refine⟨g,cap,wQ l,p,u,?_⟩;have k0:=E 0 aj;have k1:=E 1 aj;have k2:=E 2 aj;have k3:=E 3 aj;have k4:=E 4 aj;have k5:=E 5 aj;have k6:=E 6 aj;have k7:=E 7 aj;have k8:=E 8 aj;have k9:=E 9 aj;have f:=E 10 aj;have i:=E 11 aj;simp only[kj7,ji,QU,Qd,sW,sU,Qk]at k0 k1 k2 k3 k4 k5 k6 k7 k8 k9 f i;exact⟨k0,k1,k2,k3,k4,k5,k6,k7,k8,k9,f,i⟩
def jzt(t:PTree)(s:List UInt8)(n:Nat):Prop:=∃k,∃h:k<t.j.length,zx (ug t) s=k/\zz9 (t.j[k]).size/\mg (t.j[k]).size.x=n/\1<=n/\n<=9
def kwv(v:PVar):Bool:=v.g.t.toList==mX
def qxz(t:PTree)(v:PVar)(n:Nat):Prop:=if kwv v then jzt t v.g.x.toList n else n=1
def zvy(t:PTree)(v:PVar):Int:=if kx3 (kj2 t v) then -1 else 0
def kkb(t:PTree):List PVar->List (List Int)->Prop
 |[],S=>S=[]
 |v::l,S=>∃n S',qxz t v n/\S=List.replicate n (zvy t v)::S'/\kkb t l S'
theorem kkb.T:∀{l:List PVar} {S:List (List Int)},kkb t l S->S.length=l.length
 |[],_,h=>by rw[show _=_ from h];rfl
 |v::l,S,⟨n,S',_,e,h⟩=>by rw[e,Qb,Qb,h.T]
theorem kkb.get:∀{l:List PVar} {S:List (List Int)} (k:Nat) (hk:k<l.length),kkb t l S->∃n,qxz t l[k] n/\S[k]?=some (List.replicate n (zvy t l[k]))
 |v::l,S,0,_,⟨n,S',c,e,h⟩=>⟨n,c,by simp_all⟩
 |v::l,S,k+1,hk,⟨n,S',c,e,h⟩=>by simp_all [kkb.get]
theorem qxz.bd{j6:PVar}(h:qxz t j6 n):1<=n/\n<=9:=by
 unfold qxz at h;split at h
 ·have⟨_,_,_,_,_,h1,d⟩:=h;omega
 ·omega
theorem jk1(h:kqc w B t)(Z:TreeOk t)(hf:TreeFit t)(hS:kkb t t.z ls):Calls prog 69 #[pT B] w λe w'=>∃x' s,e=.returned x'/\StA w.heap.size w' x' ls s/\oq w w':=by
 have b3:=hS.T;have⟨HS,X⟩:=jS hS h;have b5:=Z.z;have aL:∃a c,Ce w B 2 (.slice a t.z.length c):=by have⟨x0,x1,x2,x3,x4,y1,y3,y4,hT,_,_,hs,_⟩:=h;have q0:=kzk hT;grind [qp]
 obtain⟨aR,aS,(a6:Hid _)⟩:=aL;have aI:B<w.heap.size:=by have⟨x0,x1,x2,x3,x4,y1,y3,y4,hT,_⟩:=h;grind
 go_in;go_wp21;go_loopw [3,4,5,6,7,8,9,10] (λy i _ _ _ _ _ _ wr=>∃(k:Nat) (s:List (Nat×Nat)),k<=t.z.length/\i=i_ k/\StA w.heap.size wr y (ls.take k) s/\oq w wr) (λ_ i _ _ _ _ _ _ _=>t.z.length-(intOf i).toNat);exact⟨0,[],jG,rfl,StA.nil _ _,bR⟩;obtain⟨E,rfl⟩:=cpy wr;obtain⟨k,s,hk,rfl,f,u⟩:=hrel;have U:=u.size;obtain⟨ya,yc,rfl,aO⟩:=qp f.out;have J:(ls.take k).length=k:=by simp_all
 rw[J]at f |-;have q2:Ce E B 2 (.slice aR t.z.length aS):=(u.cell (p:=⟨B,2,none⟩) aI).trans a6;clear aO;by_cases K:k<t.z.length
 ·have⟨g,cap,_,hg,qq,k0,k1,k2,k3,k4,k5,k6,k7,k8,k9,aP,aQ⟩:=(X.below u).var K;have⟨n,a3,R⟩:=HS.get k K;have aV:=a3.bd;have aB:=oz (by rw[List.take_add_one,R];rfl:ls.take (k+1)=ls.take k++[List.replicate n (zvy t t.z[k])]);have T:=(hf.z _<|wZ K).1;generalize t.z[k]=V at *;have⟨W,Y⟩:=cpy<|E.alloc (.cells #[.string V.y.t,.string V.y.x,i_ V.y.v,.string V.g.t,.string V.g.x,i_ V.g.v,.string V.k.t,.string V.k.x,i_ V.k.v,.string V.R.t,.string V.R.x,i_ V.R.v] 222);have I:oq E W:=by rw[Y];exact jZ E
  have b2:E.heap.size<W.heap.size:=by simp_all
  have aD:=X.below<|u.trans (I.mono U);have O:=u.trans<|I.mono U;have aA:=f.below I;have aC:=X.below u;have aE:=oz Y.symm;have b4:=qj5 t V T;have⟨a9,HZ⟩:=jS (λwx (hx:oq W wx)=>qv8 V (aD.below hx) Z.p T) (show zvy t V=if kx3 (kj2 t V) then -1 else 0 from rfl);have a5:=oz (λy (hy:y∈ls.take k)=>(show 0<y.length from by obtain⟨q,hq,rfl⟩:=wG<|Zp hy;have⟨m,aK,C⟩:=HS.get q aj;rw[wW hq]at C;injection C with C;rw[C,Qh];have:=aK.bd;omega))
  clear q2 Y R;cases ho:(V.g.t.toList==mX);case' false=>
   have aY:n<=1:=by grind [ku,qxz,kwv]
  case' true=>
   obtain⟨sk,aM,sl,sd,sv,_⟩:jzt t V.g.x.toList n:=by grind [ku,qxz,kwv]
   go_wp21;refine zM (qk5 (aC.below<|jZ _) Z.j aM sl sd) ?_;rintro wz rfl;rw[sv]
  all_goals
   go_wp21;rw[ku aE];clear k0 k1 k2 k3 k4 k5 k6 k7 k8 k9 aP aQ qq;refine zM (a9 W<|bR) λx H=>?_;have aZ:=H.size;have N:=O.trans<|H.mono O.size;have P:=aA.below H;have L:=N.size;go_wp21
   refine zM (qjg _ aj) ?_;rintro x rfl;generalize kx3 (kj2 t V)=bs at *;have HO:=rC x x.heap.size 3 1;generalize zvy t V=z at *;go_wp21;go_loopw [7,9,10] (λy q _ M=>∃j:Nat,j<=n/\q=i_ j/\M.ownsRow x.heap.size 3 1 y j (List.replicate j<|i_ z)/\oq x M) (λ_ q _ _=>n-(intOf q).toNat);exact⟨0,jG,rfl,HO,bR⟩;obtain⟨M,rfl⟩:=cpy wr;obtain⟨j,aW,rfl,D,A⟩:=hrel;have aN:=A.size;obtain⟨za,zn,zc,rfl⟩:=qh D;by_cases aX:j<n
   ·cases bs;all_goals
     have hz:=ku HZ;simp only[Xw,Xv,ru]at hz;subst hz;go_wp2_with (at_builtin;refine apO (D.alloc _) ?_)
     intro v' w' v d _ G;have a7:=show w'.ownsRow x.heap.size 3 1 v' (j+1) (List.replicate (j+1)<|i_ _) by rw[lG];exact v
     have a0:=(A.alloc aN _).grown d ah<|jo D;clear G;go_wp2
     exact rdM ⟨j+1,aj,eu,a7,a0⟩
   ·have aJ:j=n:=by omega
    rw[aJ]at D;have⟨g3,c3,e3,aT,aU⟩:=qkw D aj;injection e3.symm with aF aG aH;subst aF;subst aG;subst aH;have F:=P.below A;have a8:=qo L D;have a4:=oz (show g3∉s.map (·.1) from λhx=>by have:=P.lt a5 g3 hx;omega);have a1:=N.trans<|A.mono L;go_wp2_with (at_builtin;refine apO (by have:=F.out.alloc<|.cells #[sL g3 n c3] 31;rw[J]at this;exact this) ?_)
    intro v' w' v d _ G;have S:(List.replicate n z).length=n:=Qh;have Q:=StA.snoc (F.below<|jZ M (o:=.cells #[sL g3 n c3] 31)) a4 (l:=List.replicate n z) (by rw[S,List.map_replicate];exact qj a8<|jZ M) (by rw[J,S];exact v) d;have a2:=(a1.alloc aj _).grown d ah<|jo F.out;rw[<-ku aB]at Q;clear G;go_wp2
    exact rdM ⟨k+1,_,aj,eu,Q,a2⟩
 ·
  rw[show ls.take k=ls by grind]at f;go_wp2;go_ret;exact⟨_,_,rfl,f,u⟩
section
structure WV where
 n:Tok
 pa:Option Addr
 pn:Nat
 pc:Nat
 vg:Option Addr
 ba:Option Addr
 bn:Nat
 bc:Nat
 aa:Option Addr
 an:Nat
 ac:Nat
 sa:Option Addr
 sn:Nat
 sc:Nat
structure Cx (w0:World)(T:Nat)(t:PTree)(l:List PP)(ms:List Int)(v:WV):Prop where
 tree:kqc w0 T t
 ok:TreeOk t
 pars:w0.ownsRow 0 236 6 (.slice v.pa v.pn v.pc) l.length (kjm l)
 kqq:l.length<=801
 args:w0.ownsRow 0 3 1 (.slice v.aa v.an v.ac) ms.length (ms.map<|Value.int .i64)
 mlen:ms.length<=801
structure Wk (w0:World)(T R:Nat)(v:WV)(gs:List (Nat×Nat))(w:World)(S:List (List Int))(b:Bool):Prop where
 D:oq w0 w
 big:w0.heap.size<=R
 e:w.heap[R]?=some (.cells #[pT T,.string v.n.t,.string v.n.x,i_ v.n.v,.slice v.pa v.pn v.pc,.pointer v.vg,.slice v.ba v.bn v.bc,.slice v.aa v.an v.ac,.slice v.sa v.sn v.sc,.bool b] 251 (0,0))
 st:StA w0.heap.size w (.slice v.sa v.sn v.sc) S gs
variable {w0 w w':World} {T R:Nat} {t:PTree} {l:List PP} {ms:List Int} {v:WV} {gs:List (Nat×Nat)} {S:List (List Int)} {b:Bool}
theorem StA.other(h:StA B w x S gs)(e:w.heap[R]?=some (.cells j4 251 fr))(j:Nat)(u:Value):StA B (w.setCell (Ad R j) u) x S gs:=
 ⟨ownsRow_setCell_other h.out (not_row h.out e ak).symm u,h.T,h.apart,λk f d=>ownsRow_setCell_other (h.rows k f d) (not_row (h.rows k f d) e ak).symm u⟩
theorem Wk.xz(h:Wk w0 T R v gs w S b):Wk w0 T R v gs (w.setCell (Ad R 9) (.bool true)) S true:=
 ⟨h.D.setCell h.big _,h.big,jD R 9 _ _ _ h.e,h.st.other h.e 9 _⟩
theorem Wk.below(h:Wk w0 T R v gs w S b)(hb:oq w w'):Wk w0 T R v gs w' S b:=
 ⟨h.D.trans<|hb.mono h.D.size,h.big,(hb.block R<|wQ h.e).trans h.e,h.st.below hb⟩
theorem StA.get{l:List Int}(h:StA B w x S gs)(v:S[k]?=some l)(u:l[i]?=some i7):∃f cO g c,x=sL f S.length cO/\f<w.heap.size/\w.cell? (Ad f k)=some (sL g l.length c)/\g<w.heap.size/\w.cell? (Ad g i)=some (i_ i7)/\k<S.length/\i<l.length/\∃j:k<gs.length,g=gs[k].1:=by
 obtain⟨d,rfl⟩:=rY.1 v;obtain⟨m,rfl⟩:=rY.1 u;have j:k<gs.length:=by rw[h.T];exact d
 obtain⟨a,c,rfl,hv⟩:=qp h.out;obtain⟨f,rfl,_,h1,t⟩:=hv k d;have⟨a',y,e,q⟩:=qp<|h.rows k d j;unfold rwV at e;injection e with s z e3;subst s;have⟨g,p,_,A,C⟩:=q i m;injection p with p;rw[Addr.mk.injEq]at p;refine⟨f,c,gs[k].1,gs[k].2,rfl,h1,?_,aj,?_,d,m,j,rfl⟩
 ·rw[t k aj,Zy];simp[d,j];rfl
 simp_all
def Rl7(R nk o:Nat)(v:WV)(s:ByteArray)(w:World):Prop:=w.cell? (Ad R 1)=some (.string v.n.t)/\w.cell? (Ad R 2)=some (.string v.n.x)/\w.cell? (Ad R 3)=some (i_ v.n.v)/\w.cell? (Ad R 4)=some (.slice v.pa v.pn v.pc)/\w.cell? (Ad R 5)=some (.pointer v.vg)/\w.cell? (Ad R 6)=some (.slice v.ba v.bn v.bc)/\w.cell? (Ad nk o)=some (.string s)
theorem Rl7.below{o:Nat}(h:Rl7 R nk o v s w)(hR:R<w.heap.size)(hn:nk<w.heap.size)(hb:oq w w'):Rl7 R nk o v s w':=
 ⟨(hb.cell (p:=⟨R,1,none⟩) hR).trans h.1,(hb.cell (p:=⟨R,2,none⟩) hR).trans h.2.1,(hb.cell (p:=⟨R,3,none⟩) hR).trans h.2.2.1,(hb.cell (p:=⟨R,4,none⟩) hR).trans h.2.2.2.1,(hb.cell (p:=⟨R,5,none⟩) hR).trans h.2.2.2.2.1,(hb.cell (p:=⟨R,6,none⟩) hR).trans h.2.2.2.2.2.1,(hb.cell (p:=⟨nk,o,none⟩) hn).trans h.2.2.2.2.2.2⟩
def vqj(t:PTree)(l:List PP)(ms:List Int)(S:List (List Int))(n i:Tok):Option ((Int×Int)×Bool):=
 if i.t.toList==mX then (if 0<=zx (pq l) i.x.toList then ms[(zx (pq l) i.x.toList).toNat]? else if 0<=zx (zf t) i.x.toList then (S[(zx (zf t) i.x.toList).toNat]?).bind λy=>y[0]? else none).map λj=>((zx (zf t) n.x.toList,j),decide (j<0))
 else some ((zx (zf t) n.x.toList,0),false)
theorem jjp(q:Cx w0 T t l ms v)(h:Wk w0 T R v gs w S b)(hN:Rw w0 nk (kww j7 va vb) 242){I:(Int×Int)×Bool}(m:vqj t l ms S j7.y j7.c=some I):Calls prog 182 #[pT R,pT nk] w λe w'=>e=.returned (.tuple #[.int .i64 I.1.1,.int .i64 I.1.2])/\Wk w0 T R v gs w' S (b||I.2):=by
 have i:=h.D;have A:=(i.block nk<|wQ hN).trans hN;unfold kww at A;have⟨⟨n0,n1,n2,n3,n4,n5,n6,n7,n8,n9⟩,_⟩:=kju A;have⟨⟨c0,c1,c2,c3,c4,c5,c6,c7,c8,c9⟩,⟨_,_,_,_,_,_,_,_,_,f9⟩⟩:=kju h.e;have U:=oz h;have W:=q.tree.below i;have V:=qj q.pars i;have HA:=qj q.args i;have N:=wQ h.e;have C:nk<w.heap.size:=sV (wQ hN) i.size;have F:=show Rl7 R nk 7 v j7.c.x w from⟨c1,c2,c3,c4,c5,c6,n7⟩
 clear A hN;unfold vqj at m;have x:=oz (λ(wx:World)(s:oq w wx)=>qjt j7.y.x (W.below s) q.ok.z);generalize zx (zf t) j7.y.x.toList=p at m x;cases hk:(j7.c.t.toList==mX)
 ·rw[hk,Xy ay]at m;injection m with m;subst m;go_in
  go_upto_region 1 with fail
  go_region_held3 (λw'=>w'.cell? ⟨R,0,none⟩=some (.pointer<|some ⟨T,0,none⟩)/\w'.cell? ⟨nk,4,none⟩=some (.string j7.y.x)) (exact⟨c0,n4⟩)
   (first|(go_at_call 119;refine zM (x _ jC) ?_;rintro J rfl;dsimp only))
  go_wp2;go_ret2;exact⟨rfl,by rw[Qg];exact U.below bR.drew⟩
 ·rw[hk,lJ rfl]at m;obtain⟨j,k,rfl⟩:=wX.1 m;by_cases G:0<=zx (pq l) j7.c.x.toList
  ·rw[lJ G]at k;have⟨a1,a2,e1,O⟩:=qp HA;have⟨E,Q⟩:=sG G;rw[Q,tX]at k;have a5:E<ms.length:=by grind
   obtain⟨ga,rfl,a9,a3,a4⟩:=O E a5;injection e1 with L M a8;have a0:w.cell? ⟨ga,E,none⟩=some (.int .i64 j):=by simp_all
   rw[L,M]at c7;have u:=oz (λ(wx:World)(s:oq w wx)=>qkx v.n v.vg v.ba v.bn v.bc j7.c.x (qj V s) q.kqq);rw[Q]at u;clear O a4 G k m;go_in;go_upto_region 1 with fail
   go_region_held3 (λw'=>w'.cell? ⟨R,0,none⟩=some (.pointer<|some ⟨T,0,none⟩)/\w'.cell? ⟨nk,4,none⟩=some (.string j7.y.x)) (exact⟨c0,n4⟩)
    (first|(go_at_call 119;refine zM (x _ jC) ?_;rintro J rfl;dsimp only))
   go_upto_region 5 with fail
   go_region_held3 (λw'=>w'.cell? ⟨R,1,none⟩=some (.string v.n.t)/\w'.cell? ⟨R,2,none⟩=some (.string v.n.x)/\w'.cell? ⟨R,3,none⟩=some (.int .i64 v.n.v)/\w'.cell? ⟨R,4,none⟩=some (.slice v.pa v.pn v.pc)/\w'.cell? ⟨R,5,none⟩=some (.pointer v.vg)/\w'.cell? ⟨R,6,none⟩=some (.slice v.ba v.bn v.bc)/\w'.cell? ⟨nk,7,none⟩=some (.string j7.c.x)) (first|exact F|exact z)
    (first|(go_at_call 179;refine zM (u _ bR.drew.drew) λJ B=>?_;have d:=(Below.refl w.heap.size w).drew.drew.trans B;have z:=F.below N C d ;dsimp only))
   have f:=U.below d;have⟨⟨d0,_,_,_,_,_,_,d7,d8,d9⟩,⟨_,_,_,_,_,_,_,_,_,g9⟩⟩:=kju f.e;have a7:=(d.cell (p:=⟨ga,E,none⟩) a3).trans a0;rw[L,M]at d7;by_cases P:j<0
   ·go_wp2;go_ret2;exact⟨rfl,by rw[Qz P,Js];exact f.xz⟩
   ·go_wp2;go_ret2;exact⟨rfl,by rw[show decide (j<0)=false by simp_all,Qg];exact f⟩
  ·rw[Xy G]at k;by_cases H:0<=zx (zf t) j7.c.x.toList
   ·rw[lJ H]at k;have⟨vk,D⟩:=sG H;rw[D,tX]at k;obtain⟨y,(Y:Hid _),(Z:Hid _)⟩:=wu.1 k;have u:=oz (λ(wx:World)(s:oq w wx)=>qkx v.n v.vg v.ba v.bn v.bc j7.c.x (qj V s) q.kqq);generalize zx (pq l) j7.c.x.toList=E at *;have K:=oz (λ(wx:World)(s:oq w wx)=>qjt j7.c.x (W.below s) q.ok.z);rw[D]at K;clear k m H D;go_in;go_upto_region 1 with fail
    go_region_held3 (λw'=>w'.cell? ⟨R,0,none⟩=some (.pointer<|some ⟨T,0,none⟩)/\w'.cell? ⟨nk,4,none⟩=some (.string j7.y.x)) (exact⟨c0,n4⟩)
     (first|(go_at_call 119;refine zM (x _ jC) ?_;rintro J rfl;dsimp only))
    go_upto_region 5 with fail
    go_region_held3 (λw'=>w'.cell? ⟨R,1,none⟩=some (.string v.n.t)/\w'.cell? ⟨R,2,none⟩=some (.string v.n.x)/\w'.cell? ⟨R,3,none⟩=some (.int .i64 v.n.v)/\w'.cell? ⟨R,4,none⟩=some (.slice v.pa v.pn v.pc)/\w'.cell? ⟨R,5,none⟩=some (.pointer v.vg)/\w'.cell? ⟨R,6,none⟩=some (.slice v.ba v.bn v.bc)/\w'.cell? ⟨nk,7,none⟩=some (.string j7.c.x)) (first|exact F|exact z)
     (first|(go_at_call 179;refine zM (u _ bR.drew.drew) λJ B=>?_;have d:=(Below.refl w.heap.size w).drew.drew.trans B;have z:=F.below N C d ;dsimp only))
    have f:=U.below d;have⟨gO,cO,g,cg,eS,aA,k1,hg,k2,aB,aC,_⟩:=f.st.get Y Z;have⟨⟨d0,_,_,_,_,_,_,d7,d8,d9⟩,⟨_,_,_,_,_,_,_,_,_,g9⟩⟩:=kju f.e;rw[eS]at d8;have a6:=(d.cell (p:=⟨nk,7,none⟩) C).trans n7;go_upto_region 8 with fail
    go_region_held3 (λw'=>w'.cell? ⟨R,8,none⟩=some (.slice (some ⟨gO,0,none⟩) S.length cO)/\w'.cell? ⟨R,0,none⟩=some (.pointer<|some ⟨T,0,none⟩)/\w'.cell? ⟨nk,7,none⟩=some (.string j7.c.x)/\w'.cell? ⟨gO,vk,none⟩=some (.slice (some ⟨g,0,none⟩) y.length cg)/\w'.cell? ⟨g,0,none⟩=some (.int .i64 j)) (exact⟨d8,d0,a6,k1,k2⟩)
     (first|(go_at_call 119;refine zM (K _ d.drew) ?_;rintro wy rfl;dsimp only))
    have X:=f.below bR.drew;by_cases P:j<0
    ·go_wp2;go_ret2;exact⟨rfl,f.xz.below bR.drew⟩
    ·go_wp2;go_ret2;exact⟨rfl,by rw[show decide (j<0)=false by simp_all,Qg];exact X⟩
   ·rw[Xy H]at k;cases k
end
section
variable {w0 w w':World} {T R:Nat} {t:PTree} {l:List PP} {ms:List Int} {v:WV} {gs:List (Nat×Nat)} {S:List (List Int)} {b:Bool}
def vvh(t:PTree)(l:List PP)(ms:List Int)(S:List (List Int))(n i:Tok):Option (Int×Bool):=
 if 0<=zx (pq l) n.x.toList then (ms[(zx (pq l) n.x.toList).toNat]?).map λj=>(j,false)
 else if 0<=(kjj t.p n.x.toList).2 then some ((kjj t.p n.x.toList).2,false)
 else (vqj t l ms S n i).bind λr=>if r.1.2<0 then some (0,r.2) else if 0<=r.1.1 then ((S[r.1.1.toNat]?).bind λy=>y[r.1.2.toNat]?).map λj=>(j,r.2) else none
theorem Cx.arg(d:Cx w0 T t l ms v)(hb:oq w0 w)(f:ms[k]?=some y):∃g,v.aa=some (Ad g 0)/\v.an=ms.length/\g<w.heap.size/\Ce w g k (i_ y)/\k<ms.length:=by obtain⟨h,rfl⟩:=rY.1 f;have⟨a,c,e,hv⟩:=qp<|qj d.args hb;grind
theorem vwp(i:Cx w0 T t l ms v)(h:Wk w0 T R v gs w S b)(hN:Rw w0 nk (kww j7 va vb) 242){j9:Int×Bool}(d:vvh t l ms S j7.y j7.c=some j9):Calls prog 180 #[pT R,pT nk] w λe w'=>rT e (i_ j9.1)/\Wk w0 T R v gs w' S (b||j9.2):=by
 have f:=h.D;have I:=(f.block nk<|wQ hN).trans hN;have⟨⟨n0,n1,n2,n3,n4,n5,n6,n7,n8,n9⟩,_⟩:=kju I;have⟨⟨c0,c1,c2,c3,c4,c5,c6,c7,c8,c9⟩,_⟩:=kju h.e;have z:nk<w.heap.size:=sV (wQ hN) f.size;have E:=show Rl7 R nk 4 v j7.y.x w from⟨c1,c2,c3,c4,c5,c6,n4⟩
 have x:=λ(wx:World)(D:oq w wx)=>qkx v.n v.vg v.ba v.bn v.bc j7.y.x (qj (qj i.pars f) D) i.kqq
 have G:=λ(wx:World)(D:oq w wx)=>zjh j7.y.x ((i.tree.below f).below D) i.ok.p i.ok.i
 unfold vvh at d;generalize kjj t.p j7.y.x.toList=U at d G;have⟨m1,Q⟩:=U;generalize zx (pq l) j7.y.x.toList=V at d x;go_in;go_upto_region 1 with fail
 go_region_held3 (λw'=>w'.cell? (Ad R 1)=some (.string v.n.t)/\w'.cell? (Ad R 2)=some (.string v.n.x)/\w'.cell? (Ad R 3)=some (i_ v.n.v)/\w'.cell? (Ad R 4)=some (.slice v.pa v.pn v.pc)/\w'.cell? (Ad R 5)=some (.pointer v.vg)/\w'.cell? (Ad R 6)=some (.slice v.ba v.bn v.bc)/\w'.cell? (Ad nk 4)=some (.string j7.y.x)) (first|exact E|exact F)
  (first|(go_at_call 179;refine zM (x _ bR.drew) λwz J=>?_;have k:=(Below.refl w.heap.size w).drew.trans J;have F:=E.below (wQ h.e) z k;dsimp only))
 have s:=h.below k;have⟨⟨N,_,_,_,_,_,_,d7,d8,d9⟩,_⟩:=kju s.e;go_upto_region 2 with fail
 go_region_held3 (λw'=>w'.cell? (Ad R 0)=some (pT T)/\w'.cell? (Ad nk 4)=some (.string j7.y.x)) (exact⟨N,((k.cell (p:=⟨nk,4,none⟩) z).trans n4)⟩)
  (first|(go_at_call 178;refine zM (G _ k.drew) ?_;rintro wy rfl;dsimp only))
 have H:=s.below bR.drew;by_cases L:0<=V
 ·rw[lJ L]at d;obtain⟨j,C,rfl⟩:=wX.1 d;have⟨g,e1,e2,P,hc,u⟩:=i.arg s.D C;go_wp2;go_ret;simp_all
 ·rw[Xy L]at d;by_cases K:0<=Q
  ·rw[lJ K]at d;injection d with d;subst d;go_wp2
   go_ret;simp_all
  ·rw[Xy K]at d;have⟨⟨⟨W,M⟩,qb⟩,u,d⟩:=wu.1 d;go_wp21;refine zM ((λ(q:(Int×Int)×Bool) (u:vqj t l ms S j7.y j7.c=some q) (wx:World) (m:Wk w0 T R v gs wx S b)=>jjp i m hN u) _ u _ H) λwx m=>?_;by_cases hi:M<0
   ·rw[lJ hi]at d;injection d with d;subst d;go_wp2
    go_ret;simp_all
   ·rw[Xy hi]at d;by_cases hv:0<=W
    ·rw[lJ hv]at d;obtain⟨j,C,rfl⟩:=wX.1 d;have⟨y,A,B⟩:=wu.1 C;obtain⟨kv,rfl⟩:=sG hv;obtain⟨ki,rfl⟩:=sG (by omega:0<=M);rw[tX]at A B;have⟨gO,cO,g,cg,O,X,k1,P,k2,Y,Z,_⟩:=m.st.get A B;have⟨⟨_,_,_,_,_,_,_,_,b8,_⟩,_⟩:=kju m.e;rw[O]at b8;go_wp2;go_ret;simp_all
    simp_all
end
theorem kyf{l0:Bool}:Calls prog 181 #[.bool l0] w λe w'=>rT e (i_ (kvq l0))/\w'=w:=by
 cases l0;all_goals
  go_wp2;go_ret;exact⟨rfl,rfl⟩
def opI(o:List UInt8)(a b:Int):Int:=
 if o==[33] then kvq (a==0) else if o==[38] then kvq ((a==1)&&(b==1)) else if o==[124] then kvq ((a==1)||(b==1)) else if o==[43] then a+b else if o==[45] then a-b else if o==[60] then kvq (decide (a<b)) else if o==[61,61] then kvq (a==b) else kvq (!(a==b))
def opR(t:PTree)(l:List PP)(ms:List Int)(S:List (List Int))(x:ELab)(p q:Int×Bool):Option (Int×Bool):=
 if x.op.toList==nJ then some (1,p.2||q.2) else if x.op.toList==nZ then some (0,p.2||q.2) else if x.op.toList==mG then some (-1,p.2||q.2) else if x.op.toList==mW then some (x.n,p.2||q.2)
 else if x.op.toList==ng then (vvh t l ms S x.y x.c).map λr=>(r.1,(p.2||q.2)||r.2)
 else (small p.1).bind λ_=>(small q.1).map λ_=>(opI x.op.toList p.1 q.1,p.2||q.2)
def zqy(t:PTree)(l:List PP)(ms:List Int)(S:List (List Int)):PX->Option (Int×Bool)
 |.nil=>some (0,false)
 |.node _ _ x a c=>(zqy t l ms S a).bind λp=>(zqy t l ms S c).bind λq=>opR t l ms S x p q
def zxt(x:PX):Prop:=∀{w0 w:World} {T R:Nat} {t:PTree} {l:List PP} {ms:List Int} {v:WV} {gs:List (Nat×Nat)} {S:List (List Int)} {b:Bool} (lo k:Nat),Cx w0 T t l ms v->Wk w0 T R v gs w S b->yw lo w0 x (pT k)->∀r:Int×Bool,zqy t l ms S x=some r ->
  Calls prog 124 #[pT R,pT k] w λe w'=>rT e (i_ r.1)/\Wk w0 T R v gs w' S (b||r.2)
theorem vj7(h:small i7=some y):-1000000000<=i7/\i7<=1000000000:=by grind [small]
theorem vq8(i j:Nat)(x:ELab){N:PX}(a3:zxt l1)(a4:zxt N):zxt (.node i j x l1 N):=by
 intro w0 w T R t l ms v gs S b lo k X W hN r d;have⟨k',va,vb,e,_,z,L,M⟩:=hN;injection e with e;injection e with e;rw[Addr.mk.injEq]at e;obtain⟨rfl,_⟩:=e;rw[zqy]at d;have⟨⟨f,P⟩,D,d⟩:=wu.1 d;have⟨⟨g,Z⟩,Y,d⟩:=wu.1 d;have HA:=λ(wx:World) (F:Bool) (I:Wk w0 T R v gs wx S F) (m:Nat) (hn:yw lo w0 l1 (pT m))=>a3 lo m X I hn _ D
 have HC:=λ(wx:World) (F:Bool) (I:Wk w0 T R v gs wx S F) (m:Nat) (hn:yw lo w0 N (pT m))=>a4 lo m X I hn _ Y
 have Q:=λ(wx:World)(F:Bool)(I:Wk w0 T R v gs wx S F)(r:Int×Bool)(d:vvh t l ms S x.y x.c=some r)=>vwp X I z d
 obtain⟨pa,rfl⟩:=L.ptr;obtain⟨pc,rfl⟩:=M.ptr;have⟨HP,HQ⟩:=jS D Y;have G:=(W.D.block k<|wQ z).trans z;unfold kww at G;have n0:=kju G;clear G D Y;go_in;go_upto_if 11 with fail
 go_cut [5] from 12 to 17 (λy wx=>y=i_ f/\Wk w0 T R v gs wx S (b||P))
 case first=>
  cases l1 with
  |nil=>
   have A:pa=none:=by have:Value.pointer pa=.pointer none:=L;simp_all
   have B:(0,false)=(f,P):=by have:=HP;rw[zqy]at this;injection this
   injection B with B e3;subst A;subst B;subst e3;go_wp21
   go_meet
   exact⟨rfl,by rw[Qg];exact W⟩
  |node i' j' x' a' c'=>
   obtain⟨m,A⟩:∃m,pa=some (Ad m 0):=by have⟨m,_,_,e,_⟩:=L;simp_all
   subst A;have s:=HA w b W m L;go_wp21;refine zM s λw1 H1=>?_;go_wp21;go_meet
   simp_all
 case rest=>
 obtain⟨rfl,U⟩:=hcut;have⟨wA,H⟩:=cpy wc;subst H;have q:=(U.D.block k<|wQ z).trans z;unfold kww at q;clear n0;have n0:=kju q;clear q;go_upto_if 22 with fail
 go_cut [6] from 23 to 28 (λy wx=>y=i_ g/\Wk w0 T R v gs wx S ((b||P)||Z))
 case first=>
  cases N with
  |nil=>
   have A:pc=none:=by have:Value.pointer pc=.pointer none:=M;simp_all
   have B:(0,false)=(g,Z):=by have:=HQ;rw[zqy]at this;injection this
   injection B with B e3;subst A;subst B;subst e3;go_wp21
   go_meet
   simp_all
  |node i' j' x' a' c'=>
   obtain⟨m,A⟩:∃m,pc=some (Ad m 0):=by have⟨m,_,_,e,_⟩:=M;simp_all
   subst A;have s:=HC wA _ U m M;go_wp21;refine zM s λw1 H1=>?_;go_wp21;go_meet
   simp_all
 case rest=>
 obtain⟨rfl,a0⟩:=hcut;have⟨wC,H⟩:=cpy wc;subst H;have q:=(a0.D.block k<|wQ z).trans z;unfold kww at q;have p:=show Wk w0 T R v gs wC S (b||(P||Z)) by grind
 clear n0;have n0:=kju q;clear q HA HC;unfold opR at d;dsimp only at d;cases o0:(x.op.toList==nJ)
 case true=>
  rw[o0,lJ rfl]at d;injection d with d;subst d;go_wp2
  go_ret;simp_all
 case false=>
 rw[o0,Xy ay]at d;cases o1:(x.op.toList==nZ)
 case true=>
  rw[o1,lJ rfl]at d;injection d with d;subst d;go_wp2
  go_ret;simp_all
 case false=>
 rw[o1,Xy ay]at d;cases o2:(x.op.toList==mG)
 case true=>
  rw[o2,lJ rfl]at d;injection d with d;subst d;go_wp2
  go_ret;simp_all
 case false=>
 rw[o2,Xy ay]at d;cases o3:(x.op.toList==mW)
 case true=>
  rw[o3,lJ rfl]at d;injection d with d;subst d;go_wp2
  go_ret;simp_all
 case false=>
 rw[o3,Xy ay]at d;cases o4:(x.op.toList==ng)
 case true=>
  rw[o4,lJ rfl]at d;obtain⟨⟨r1,r2⟩,D,rfl⟩:=wX.1 d;have s:=Q wC _ p _ D;clear D d;go_wp21;refine zM s λw1 H1=>?_;go_wp2;go_ret;simp_all [Bool.or_assoc]
 case false=>
 rw[o4,Xy ay]at d;have⟨_,s1,d⟩:=wu.1 d;have⟨_,s2,d⟩:=wX.1 d;have b1:=vj7 s1;have b2:=vj7 s2;subst d;clear s1 s2 Q;cases u:(x.op.toList==[33])
 case true=>
  have h:=oz (by simp[opI,u]:opI x.op.toList f g=kvq (f==0));go_wp2_with (go_at_call 181;refine(kyf).mono ?_;rintro e w' ⟨rfl,rfl⟩)
  go_wp2;all_goals
   go_ret;exact⟨kqi (by rw[h];try simp),p⟩
 case false=>
 cases C:(x.op.toList==[38])
 case true=>
  have h:=oz (by simp[opI,u,C]:opI x.op.toList f g=kvq ((f==1)&&(g==1)));cases a1:(f==1)<;>cases a2:(g==1);all_goals
   go_wp2_with (go_at_call 181;refine(kyf).mono ?_;rintro e w' ⟨rfl,rfl⟩)
   go_wp2;all_goals
    go_ret;exact⟨kqi (by rw[h,a1,a2];rfl),p⟩
 case false=>
 cases E:(x.op.toList==[124])
 case true=>
  have h:=oz (by simp[opI,u,C,E]:opI x.op.toList f g=kvq ((f==1)||(g==1)));cases a1:(f==1)<;>cases a2:(g==1);all_goals
   go_wp2_with (go_at_call 181;refine(kyf).mono ?_;rintro e w' ⟨rfl,rfl⟩)
   go_wp2;all_goals
    go_ret;exact⟨kqi (by rw[h,a1,a2];rfl),p⟩
 case false=>
 cases K:(x.op.toList==[43])
 case true=>
  have h:=oz (by simp[opI,u,C,E,K]:opI x.op.toList f g=f+g);go_wp2;go_ret;exact⟨kqi (by rw[h]),p⟩
 case false=>
 cases O:(x.op.toList==[45])
 case true=>
  have h:=oz (by simp[opI,u,C,E,K,O]:opI x.op.toList f g=f-g);go_wp2;go_ret;exact⟨kqi (by rw[h]),p⟩
 case false=>
 cases J:(x.op.toList==[60])
 case true=>
  have h:=oz (by simp[opI,u,C,E,K,O,J]:opI x.op.toList f g=kvq (decide (f<g)));go_wp2_with (go_at_call 181;refine(kyf).mono ?_;rintro e w' ⟨rfl,rfl⟩)
  go_wp2;all_goals
   go_ret;exact⟨kqi (by rw[h];try simp),p⟩
 case false=>
 cases V:(x.op.toList==[61,61])
 case true=>
  have h:=oz (by simp[opI,u,C,E,K,O,J,V]:opI x.op.toList f g=kvq (f==g));go_wp2_with (go_at_call 181;refine(kyf).mono ?_;rintro e w' ⟨rfl,rfl⟩)
  go_wp2;all_goals
   go_ret;exact⟨kqi (by rw[h];try simp),p⟩
 case false=>
 have h:=oz (by simp[opI,u,C,E,K,O,J,V]:opI x.op.toList f g=kvq (!(f==g)));go_wp2_with (go_at_call 181;refine(kyf).mono ?_;rintro e w' ⟨rfl,rfl⟩)
 go_wp2;all_goals
  go_ret;exact⟨kqi (by rw[h];rfl),p⟩
theorem kyg:∀x:PX,zxt x
 |.nil=>λlo k _ _ hN=>by
  have:pT k=.pointer none:=hN;cases this
 |.node i j x a c=>vq8 i j x (kyg a)<|kyg c
section
variable {w0 w w':World} {T R:Nat} {t:PTree} {l:List PP} {ms:List Int} {v:WV} {gs:List (Nat×Nat)} {S:List (List Int)} {b:Bool}
theorem jj0(h:w.ownsRow lo e 1 (.slice (some ⟨g,0,none⟩) n c) n xs):∃cs,w.heap[g]?=some (.cells cs e (0,0)):=by
 obtain⟨d,_⟩|⟨f,cap,cur,d,_,i,_⟩:=h.2
 ·cases d
 simp_all
theorem StA.set{l:List Int}(h:StA B w x S gs)(s:S[k]?=some l)(f:k<gs.length)(n:Int):StA B (w.setCell (Ad (gs[k].1) i) (i_ n)) x (S.set k (l.set i n)) gs:=by
 obtain⟨d,rfl⟩:=rY.1 s;have⟨cs,q⟩:=jj0<|h.rows k d f;refine⟨?_,by rw[Jq];exact h.T,h.apart,?_⟩
 ·have e:List.zipWith rwV gs (S.set k<|S[k].set i n)=List.zipWith rwV gs S:=by apply Jm;grind [rwV]
  rw[e,Jq];exact ownsRow_setCell_other h.out (not_row h.out q ak).symm _
 ·intro j t g;have m:j<S.length:=by simp_all
  by_cases e:k=j
  ·subst e;have:=jkd (h.rows k d f) i<|i_ n;grind [rwV,List.map_set]
  ·have p:(S.set k<|S[k].set i n)[j]=S[j]:=by simp_all
   rw[p];refine ownsRow_setCell_other (h.rows j m g) ?_ _;unfold rwV;simp only[Value.ownBlock];intro e3;injection e3 with e3;have u:=sQ.1 h.apart;grind
theorem StA.frz(h:StA B w x S gs)(f:k<S.length)(d:k<gs.length):Fr w (gs[k].1) i:=by have⟨cs,e⟩:=jj0<|h.rows k f d;exact Zt w _ i _ _ e
theorem StA.ge(h:StA B w x S gs)(f:k<S.length)(d:k<gs.length)(hn:0<S[k].length):B<=gs[k].1:=by have⟨g,c,e,h1,_⟩:=qkw (h.rows k f d) hn;injection e with e;simp_all
theorem Wk.set{l:List Int}(h:Wk w0 T R v gs w S b)(g:S[k]?=some l)(hi:i<l.length)(f:k<gs.length)(n:Int):Wk w0 T R v gs (w.setCell (Ad (gs[k].1) i) (i_ n)) (S.set k (l.set i n)) b:=by
 obtain⟨d,rfl⟩:=rY.1 g;have⟨cs,m⟩:=jj0<|h.st.rows k d f;refine⟨h.D.setCell (h.st.ge d f aj) _,h.big,?_,h.st.set g f n⟩;rw[jN ?_]
 ·exact h.e
 ·show R≠gs[k].1;intro e;have j:=h.e;simp_all
def kky(u:PVar)(n:Int):Bool:=(u.R.t.toList==mW)&&(decide (n<0)||decide (mg u.R.x<n))
def vyj(t:PTree)(l:List PP)(ms:List Int)(S:List (List Int))(a:SLab):Option (List (List Int)×Bool):=
 match a.N with
 |.nil=>none
 |.node _ _ px _ _=>if isNil a.value||!(isNil a.A) then none else (zqy t l ms S a.value).bind λp=>(vqj t l ms S px.y px.c).bind λq=>if q.1.1<0 then none else (t.z[q.1.1.toNat]?).bind λu=>
  if (p.2||q.2)||kky u p.1 then some (S,true) else (S[q.1.1.toNat]?).bind λy=>if decide (q.1.2<0)||decide ((y.length:Int)<=q.1.2) then none else some (S.set q.1.1.toNat<|y.set q.1.2.toNat p.1,false)
def doR(t:PTree)(l:List PP)(ms:List Int):PB->List (List Int)->Option (List (List Int)×Bool)
 |.nil,S=>some (S,false)
 |.node _ _ a .nil n,S=>(vyj t l ms S a).bind λp=>if p.2 then some p else doR t l ms n p.1
 |.node _ _ a (.node _ _ _ th el) n,S=>if isNil a.A then none else (zqy t l ms S a.A).bind λc=>if c.2 then some (S,true) else (if c.1==1 then doR t l ms th S else doR t l ms el S).bind λp=>if p.2 then some p else doR t l ms n p.1
end
def vyv(t:PTree):Prop:=∀u∈t.z,(u.R.t.toList==mW)=true->zz9 u.R
def zyw(d:PB):Prop:=∀{w0 w:World} {T R:Nat} {t:PTree} {l:List PP} {ms:List Int} {v:WV} {gs:List (Nat×Nat)} {S:List (List Int)} (lo:Nat) (vl:Value) (ps:List Value),Cx w0 T t l ms v->vyv t->Wk w0 T R v gs w S false ->
 w0.ownsRow lo 245 1 vl ps.length ps->jg lo none w0 d ps->SOk d->ps.length<=1000->∀r:List (List Int)×Bool,doR t l ms d S=some r ->
 Calls prog 125 #[pT R,vl] w λe w'=>rT e (.tuple #[])/\Wk w0 T R v gs w' r.1 r.2
def zz7:PB->Prop
 |.nil=>True
 |.node _ _ _ .nil n=>zz7 n
 |.node _ _ _ (.node _ _ _ t e) n=>zyw t/\zyw e/\zz7 n
def xk6(w0:World)(T R:Nat)(t:PTree)(l:List PP)(ms:List Int)(v:WV)(gs:List (Nat×Nat))(lo:Nat)(ps:List Value)(r:List (List Int)×Bool)(i:Value)(wr:World):Prop:=
 ∃(k:Nat) (rest:PB) (S:List (List Int)) (b:Bool),k<=ps.length/\i=i_ k/\jg lo none w0 rest (ps.drop k)/\SOk rest/\zz7 rest/\Wk w0 T R v gs wr S b/\(if b then r=(S,true) else doR t l ms rest S=some r)
theorem jjm(hI:zz7 b3):zyw b3:=by
 intro w0 w T R t l ms v gs S lo vl ps V a3 h aP s hS bI r hr;obtain⟨a,cap,rfl,(X:Hid _)⟩:=qp aP;have aS:=show xk6 w0 T R t l ms v gs lo ps r (i_ 0) w from⟨0,b3,S,false,jG,rfl,by rw[List.drop_zero];exact s,hS,hI,h,hr⟩
 clear hr;go_in;go_wp21;go_loopw [4,5,6,7,8,9,10] (λi _ _ _ _ _ _ wr=>xk6 w0 T R t l ms v gs lo ps r i wr) (λi _ _ _ _ _ _ _=>ps.length-(intOf i).toNat);exact aS;obtain⟨wo,rfl⟩:=cpy wr;obtain⟨k,rest,O,b1,hk,rfl,s,j,z,I,d⟩:=hrel;have c0:=kju I.e;have bC:=wQ I.e;cases b1
 case true=>
  simp only[Xw]at d;subst d;by_cases Q:k<ps.length
  all_goals
   go_wp2;go_end0;exact⟨rfl,I⟩
 case false=>
 simp only[ru,Xv]at d;match rest,s,j,z,d with
 |.nil,s,j,z,d=>
  have p:ps.drop k=[]:=s;have bG:ps.length<=k:=by simpa using p
  have bH:¬k<ps.length:=aj;rw[doR]at d;injection d with d;subst d;clear p;go_wp2
  go_end0;exact⟨rfl,I⟩
 |.node _ _ la .nil nx,s,j,z,d=>
  have⟨kd,vp,vv,vi,qs,p,_,J,C,a1⟩:=s;have Q:k<ps.length:=by
   obtain h|h:=JY k ps.length
   ·exact h
   ·rw[Qa h]at p;cases p
  have K:ps[k]?=some (pT kd):=by have:=congrArg (λl=>l[0]?) p;simpa using this
  have L:ps.drop (k+1)=qs:=by have:=congrArg List.tail p;simpa using this
  obtain⟨g,rfl,_,aZ,Z⟩:=ku X k Q;have B:Ce w0 g k (pT kd):=(Z k aj).trans K;have P:=J;rw[doR]at d;have⟨⟨p1,p2⟩,f,d⟩:=wu.1 d;have b6:vi=.pointer none:=by
   have h1:=C.2.2;cases a7:la.A with
   |nil=>rw[a7]at h1;exact h1
   |node _ _ _ _ _=>have:=j.1;rw[a7]at this;cases this
  subst b6;unfold vyj at f;match hla:la.N,C.1,f with
  |.nil,_,f=>cases f
  |.node pi pj px pa' pb',hNP,f=>
  dsimp only at f;obtain⟨kp,bM,bN,rfl,_,b4,_,_⟩:=hNP;match hlv:la.value,C.2.1,f with
  |.nil,_,f=>cases f
  |.node ui uj ux ua ub,hNV,f=>
  have aO:=hNV;obtain⟨kv,bO,bP,rfl,_,_,_,_⟩:=hNV;have aY:isNil la.A=true:=j.1;rw[aY]at f;simp only[isNil,JV,Qg,ru,Xv]at f;have⟨⟨x1,x2⟩,hx,f⟩:=wu.1 f;have⟨⟨⟨q1,q2⟩,q3⟩,W,f⟩:=wu.1 f;dsimp only at f;have Y:=kyg _ lo kv V I aO _ hx;have aW:=oz (λ(wx:World)(bx:Bool)(N:Wk w0 T R v gs wx O bx)=>jjp V N b4 W);by_cases aE:q1<0
  ·rw[lJ aE]at f;cases f
  rw[Xy aE]at f;obtain⟨qn,rfl⟩:=sG (by omega:0<=q1);rw[tX]at f;have⟨u,hu,f⟩:=wu.1 f;have a2:qn<t.z.length:=by
   obtain h|h:=JY qn t.z.length
   ·exact h
   ·rw[Jo h]at hu;cases hu
  have a4:t.z[qn]=u:=by rw[wW a2]at hu;injection hu
  have b5:=a3 u (by rw[<-a4];exact wZ a2);have G:=show jg lo none w0 nx (ps.drop<|k+1) by rw[L];exact a1
  have H:=j.2.2.2.2.2;have F:=show zz7 nx from z
  have⟨gt,aM,aX,b2,tq,tk⟩:=V.tree.var a2;rw[a4]at tk;have aV:=oz (⟨tq,tk⟩:Ce w0 T 2 (sL gt t.z.length aM)/\xqf w0 gt qn u);have x:=I.D;have d1:=wU x<|(kzk J).2.1;have d2:=wU x<|(kzk J).2.2.1;have ck:=wU x B;clear hx W hu a4 J tq L p K B Z;go_wp21
  refine zM Y λw1 D=>?_;have e0:=wU D.D<|(kzk P).1;clear d1 d2 ck;go_wp21
  refine zM (aW _ _ D) λw2 m=>?_;rw[QX]at m;have⟨⟨b0,_,_,_,_,_,_,_,b8,b9⟩,⟨_,_,_,_,_,_,_,_,_,g9⟩⟩:=kju m.e;have⟨tq,_,_,_,_,_,_,_,_,_,t9,aK,aL⟩:=ku aV;have tq:=wU m.D tq;have t9:=wU m.D t9;have aK:=wU m.D aK;have aL:=wU m.D aL;have b7:=wQ m.e;have H3:=m.below<|jZ w2 (o:=.cells #[.string u.R.t,.string u.R.x,i_ u.R.v] 142);have bB:gt<w2.heap.size:=sV b2 m.D.size;have bA:T<w2.heap.size:=sV aX m.D.size;clear e0;dsimp only;have E:∀c:Bool,kky u x1=c->Hid (kky u x1=c):=λc h=>h
  generalize aH:(x2||q3)=wf at *;cases M:(u.R.t.toList==mW);case' false=>
   have U:=E false (by unfold kky;rw[M];rfl);obtain⟨z0,z1,z2⟩:True/\True/\True:=⟨trivial,trivial,trivial⟩
  case' true=>
   have⟨z0,z1,z2⟩:=b5 M;have X:=oz (by simp[mg,z0]:mg u.R.x=((u.R.x[0]'z0).toNat:Int)-48);by_cases aI:x1<0
   case' pos=>have U:=E true (by unfold kky;rw[M,Qz aI];rfl)
   case' neg=>
    by_cases aJ:((u.R.x[0]'z0).toNat:Int)-48<x1
    case' pos=>have U:=E true (by unfold kky;rw[M,ku X,Qz aJ];simp)
    case' neg=>have U:=E false (by unfold kky;rw[M,ku X,decide_eq_false aJ,decide_eq_false aI];rfl)
  all_goals
   rw[ku U]at f;cases wf
  all_goals
   simp only[Qg,Js,Jg,QX,Xw,Xv,ru]at f;first
   |injection f with f
    injection f with e1 e2;subst e1;subst e2;rw[lJ rfl]at d;injection d with d;have A:=oz d.symm;clear d aH E;go_wp2
    exact rdM ⟨k+1,nx,O,true,aj,eu,G,H,F,by first|exact H3|exact m.xz.below (jZ _),A⟩
   |have⟨y,hy,f⟩:=wu.1 f
    by_cases aC:q2<0
    ·rw[Qz aC]at f;cases f
    obtain⟨qi,rfl⟩:=sG (by omega:0<=q2);by_cases aD:(y.length:Int)<=qi
    ·rw[Qz aD,Js]at f;cases f
    rw[decide_eq_false aC,decide_eq_false aD]at f;simp only[Qg,ru,Xv,tX]at f;injection f with f;injection f with e1 e2;subst e1;subst e2;simp only[ru,Xv]at d;have aB:qi<y.length:=aj;obtain⟨gO,cO,gr,cg,eS,bD,k1,bF,k2,aQ,bJ,a0,rfl⟩:=m.st.get hy<|wW aB;have k3:=m.st.frz (i:=qi) aQ a0;have aT:=(m.set hy aB a0 x1).below<|jZ _ (o:=.cells #[.string u.R.t,.string u.R.x,i_ u.R.v] 142);rw[eS]at b8;have A:=oz d;clear d aH E hy eS;go_wp2
    exact rdM ⟨k+1,nx,_,false,aj,eu,G,H,F,aT,A⟩
 |.node _ _ la (.node _ _ _ th el) nx,s,j,z,d=>
  have⟨kd,vp,vv,vi,vt,ve,qt,qe,qs,p,_,J,C,⟨aF,_,aG⟩,⟨a9,_,aA⟩,a1⟩:=s;have Q:k<ps.length:=by
   obtain h|h:=JY k ps.length
   ·exact h
   ·rw[Qa h]at p;cases p
  have K:ps[k]?=some (pT kd):=by have:=congrArg (λl=>l[0]?) p;simpa using this
  have L:ps.drop (k+1)=qs:=by have:=congrArg List.tail p;simpa using this
  obtain⟨g,rfl,_,aZ,Z⟩:=ku X k Q;have B:Ce w0 g k (pT kd):=(Z k aj).trans K;have P:=J;rw[doR]at d;match hlc:la.A,C.2.2,d with
  |.nil,_,d=>simp[isNil]at d
  |.node ci cj cx' ca cb,hNC,d=>
  have aN:=hNC;obtain⟨kc,bK,bL,rfl,_,_,_,_⟩:=hNC;simp only[isNil,ru,Xv]at d;have⟨⟨c1,c2⟩,a8,d⟩:=wu.1 d;dsimp only at d;obtain⟨ta,tc,rfl,_⟩:=qp aF;obtain⟨ea,ec,rfl,_⟩:=qp a9;have Y:=kyg _ lo kc V I aN _ a8;have G:=show jg lo none w0 nx (ps.drop<|k+1) by rw[L];exact a1
  have H:=j.2.2.2.2;have F:=show zz7 nx from z.2.2
  have⟨aU,aR⟩:=jS (λ(wx:World) (N:Wk w0 T R v gs wx O false) (q:List (List Int)×Bool) (W:doR t l ms th O=some q)=>z.1 lo _ qt V a3 N aF aG j.2.2.1.1 (by rw[aG.T];exact j.2.2.1.2) q W) (λ(wx:World) (N:Wk w0 T R v gs wx O false) (q:List (List Int)×Bool) (W:doR t l ms el O=some q)=>z.2.1 lo _ qe V a3 N a9 aA j.2.2.2.1.1 (by rw[aA.T];exact j.2.2.2.1.2) q W);have x:=I.D;have d2:=wU x<|(kzk J).2.2.1;have ck:=wU x B;clear a8 J L p K B Z;go_wp21
  refine zM Y λw1 D=>?_;rw[QX]at D;have b9:=kju D.e;have e3:=wU D.D<|(kzk P).2.2.2.1;have e4:=wU D.D<|(kzk P).2.2.2.2.1;clear d2 ck;cases c2
  case true=>
   rw[lJ rfl]at d;injection d with d;have A:=oz d.symm;clear d;go_wp2
   exact rdM ⟨k+1,nx,O,true,aj,eu,G,H,F,D,A⟩
  case false=>
  rw[Xy ay]at d;have⟨⟨p1,p2⟩,f,d⟩:=wu.1 d;have A:=show(if p2 then r=(p1,true) else doR t l ms nx p1=some r) by
   cases p2
   ·simpa using d
   ·simp only[Xw]at d |-;injection d with d;exact d.symm
  clear d;cases a6:(c1==1);case' false=>
   rw[a6,Xy ay]at f;have a5:=aR w1 D _ f
  case' true=>
   rw[a6,lJ rfl]at f;have a5:=aU w1 D _ f
  all_goals
   clear f;go_wp21;refine zM a5 λw2 m=>?_;go_wp2;exact rdM ⟨k+1,nx,p1,p2,aj,eu,G,H,F,m,A⟩
theorem qz7:∀b:PB,zz7 b
 |.nil=>trivial
 |.node _ _ _ .nil n=>qz7 n
 |.node _ _ _ (.node _ _ _ t e) n=>⟨jjm<|qz7 t,jjm<|qz7 e,qz7 n⟩
theorem xzb(b:PB):zyw b:=jjm<|qz7 b
section
variable {w w':World}
def vq0(w:World)(r:PRule)(vp vg vb:Value):Prop:=
 ∃pa pc ga ba bc ps,vp=.slice pa r.u.length pc/\vg=.pointer ga/\vb=.slice ba ps.length bc/\w.ownsRow 0 236 6 vp r.u.length (kjm r.u)/\yw 0 w r.guard vg/\w.ownsRow 0 245 1 vb ps.length ps/\jg 0 none w r.S ps
theorem vq0.below(h:vq0 w r vp vg vb)(hb:oq w w'):vq0 w' r vp vg vb:=by have⟨pa,pc,ga,ba,bc,ps,d,e,e3,h1,f,g,i⟩:=h;exact⟨pa,pc,ga,ba,bc,ps,d,e,e3,qj h1 hb,f.below hb,qj g hb,i.below hb⟩
structure RIn where
 r:PRule
 ms:List Int
variable {L:List RIn}{l8:RIn}
def riT(x:RIn):ByteArray:=kv0 x.r.y.x x.ms
def zwa(w:World)(x:RIn)(c:List Value):Prop:=
 ∃vp vg vb aa ac,c=[.string x.r.y.t,.string x.r.y.x,i_ x.r.y.v,vp,vg,vb,.slice aa x.ms.length ac,.string (riT x)]/\vq0 w x.r vp vg vb/\w.ownsRow 0 3 1 (.slice aa x.ms.length ac) x.ms.length (x.ms.map<|Value.int .i64)
theorem zwa.below(h:zwa w l8 cs)(hb:oq w w'):zwa w' l8 cs:=by have⟨vp,vg,vb,aa,ac,e,h1,d⟩:=h;exact⟨vp,vg,vb,aa,ac,e,h1.below hb,qj d hb⟩
def jzf(w:World)(L:List RIn)(cs:List Value):Prop:=cs.length=L.length*8/\∀k (hk:k<L.length),zwa w L[k] ((cs.drop (k*8)).take 8)
theorem jzf.below(h:jzf w L cs)(hb:oq w w'):jzf w' L cs:=⟨h.1,λk d=>(h.2 k d).below hb⟩
theorem yw.gr(hv:w.ownsRow B 159 8 v n xs)(d:w.grownBy w' v.ownBlock)(h:yw lo w l1 p):yw lo w' l1 p:=h.far hv ak d
theorem vq0.gr(hv:w.ownsRow B 159 8 v n xs)(d:w.grownBy w' v.ownBlock)(h:vq0 w r vp vg vb):vq0 w' r vp vg vb:=by have⟨pa,pc,ga,ba,bc,ps,e,f,e3,h1,g,i,j⟩:=h;exact⟨pa,pc,ga,ba,bc,ps,e,f,e3,kqx h1 hv ak d,g.gr hv d,kqx i hv ak d,j.far hv ak ak ak d⟩
theorem zwa.gr(hv:w.ownsRow B 159 8 v n xs)(d:w.grownBy w' v.ownBlock)(h:zwa w l8 cs):zwa w' l8 cs:=by have⟨vp,vg,vb,aa,ac,e,h1,f⟩:=h;exact⟨vp,vg,vb,aa,ac,e,h1.gr hv d,kqx f hv ak d⟩
theorem jzf.snoc(hv:w.ownsRow B 159 8 v n cs)(e:w.grownBy w' v.ownBlock)(h:jzf w L cs)(d:xs.length=8)(g:zwa w l8 xs):jzf w' (L++[l8]) (cs++xs):=by
 refine⟨by simp[h.1,d];omega,λk i=>?_⟩;by_cases f:k<L.length
 ·have d:=h.1;rw[Jl aj,Jv (by grind),Qn f];exact(h.2 k f).gr hv e
 ·have:k=L.length:=by grind
  subst this;rw[<-h.1,J4,Q9 aj];simpa using g.gr hv e
def szN(t:PTree)(s:List UInt8):Nat:=(mg (t.j.getD (zx (ug t) s).toNat ⟨zh,zh⟩).size.x).toNat
theorem jzt.eq{d:List UInt8}(h:jzt t d n):szN t d=n:=by have⟨k,f,h1,_,e,_⟩:=h;grind [szN]
def kwo(t:PTree)(l:List PP)(i:Nat):Nat:=match l[i]? with|some p=>szN t p.Q.x.toList|none=>1
def qx7(r:PRule)(n1:Nat)(a:Nat):List RIn:=(List.range n1).map λ(b:Nat)=>⟨r,([(a:Int),(b:Int)]).take r.u.length⟩
def qx8(t:PTree)(r:PRule):List RIn:=(List.range (kwo t r.u 0)).flatMap λa=>qx7 r (kwo t r.u 1) a
def kq4(t:PTree)(rs:List PRule):List RIn:=rs.flatMap (qx8 t)
def zvk(t:PTree)(r:PRule):Prop:=r.u.length<=2/\(∀p∈r.u,∃n,jzt t p.Q.x.toList n)/\r.y.x.size<=800
theorem zvk.bd(h:zvk t r)(i:Nat):1<=kwo t r.u i/\kwo t r.u i<=9:=by
 unfold kwo;split
 ·rename_i p d;have⟨n,hn⟩:=h.2.1 p<|wB d;rw[hn.eq];have⟨_,_,_,_,_,h1,e⟩:=hn;omega
 ·omega
def vx9(n:ByteArray)(a b:Nat):Nat->ByteArray
 |0=>n++⟨#[40]⟩
 |1=>(n++⟨#[40]⟩)++kvh a
 |_+2=>(((n++⟨#[40]⟩)++kvh a)++⟨#[44]⟩)++kvh b
theorem pyc(n:ByteArray)(a b m:Nat)(d:m<=2):vx9 n a b m++⟨#[41]⟩=kv0 n (([(a:Int),(b:Int)]).take m):=by
 have j0:qvl []=⟨#[]⟩:=rfl;have j1:∀x:ByteArray,qvl [x]=x:=λx=>by unfold qvl;simp[Go.Lib.join]
 have j2:∀x y:ByteArray,qvl [x,y]=(x++⟨#[44]⟩)++y:=λx y=>by unfold qvl;apply ByteArray.ext;simp[Go.Lib.join]
 have e0:∀x:ByteArray,x++(⟨#[]⟩:ByteArray)=x:=λx=>by apply ByteArray.ext;simp
 unfold kv0;obtain _|_|_|m:=m
 ·grind [vx9]
 ·grind [vx9]
 ·grind [vx9,ByteArray.append_assoc]
 ·omega
end
variable {L:List RIn}{l8:RIn}
end Go.Proofs.YtpmcnonmkghokaaGreatDoor

import Derived.Test.YtpmcnonmkghokaaGreatDoorT00
import Derived.Maps.AppendAt
import Derived.Deep.AppendLies
import Derived.Deep.RegionHeld3
import Derived.Deep.RegionLaw
set_option maxRecDepth 100000
set_option maxHeartbeats 8000000
set_option linter.unusedVariables false
set_option linter.unusedSimpArgs false
namespace Go.Proofs.YtpmcnonmkghokaaGreatDoor
open Go.Proofs.Tryz Go.RowKit
variable {p:Addr}{b9:ByteArray}{L:List Tok}{l r:List UInt8}{xs zs:List Value}{B F P R b base c f g i j k lo n size:Nat}{o:Obj}{x:PX}{a0 fin:PX×RS}{s s1 st st':RS}{blk:RS->PB×RS}{i3:Tok}{a5 a6:Tok×RS}{t:TypeId}{i4:UInt8}{d u v va vb x0 x1 x10 x11 x2 x3 x4 x5 x6 x7 x8 x9 y y0 y1 y10 y11 y2 y3 y4 y5 y6 y7 y8 y9 z:Value}{a w w':World}
def qzd(L:List Tok)(k c:Nat)(st:RS)(f:Nat):Prop:=if st.s then k<=f else 4*(L.length-st.v)+c<=f
theorem zxm(h:4*(L.length-st.v)+c<=f)(d:k<=f):qzd L k c st f:=by grind [qzd]
theorem zxb(hb:st.s=false)(h:qzd L k c st f):4*(L.length-st.v)+c<=f:=by simpa[qzd,hb] using h
theorem pk5(hb:st.s=true)(h:qzd L k c st f):k<=f:=by simpa[qzd,hb] using h
theorem vy9(d:st.v<L.length)(g:4*(L.length-st.v)+P<=f+1)(e:c<=P+3)(h:k<=f):qzd L k c (qg L l st) f:=by grind [qzd,qqd]
def xk9(R:Nat)(v:Value)(L:List Tok)(w:World)(r:PB×RS)(e:Ending)(w':World):Prop:=
 ∃vs ps,e=.returned vs/\w'.ownsRow w.heap.size 245 1 vs ps.length ps/\jg w.heap.size none w' r.1 ps/\Rd w' R v L r.2/\Kept R w w'
def xy7(R:Nat)(v:Value)(L:List Tok)(w:World)(r:PB×RS)(e:Ending)(w':World):Prop:=
 ∃p,rT e (.pointer p)/\jg w.heap.size none w' r.1 [.pointer p]/\Rd w' R v L r.2/\Kept R w w'
def zqw(f:Nat):Prop:=∀(w:World)(R:Nat)(v:Value)(L:List Tok)(st:RS),Rd w R v L st->jzo L->qzd L 2 3 st f ->
 Calls prog 109 #[pT R] w (xk9 R v L w<|rS f 0 L st)
def xj6(f:Nat):Prop:=∀(w:World)(R:Nat)(v:Value)(L:List Tok)(st:RS),Rd w R v L st->jzo L->qzd L 2 2 st (f+1) ->
 Calls prog 177 #[pT R] w (xy7 R v L w<|rDo (rS f 0 L) L st)
theorem qvu(h:Rd w R v L st)(d:jzo L):og 108 #[pT R,i_ 0] w (xql R v L w<|rX (kqb L) 0 .nil L st):=
 (levels<|kqb L).1 0 w R v L st aj h d (zy6 (by unfold kqb;omega) (by unfold kqb;omega))
theorem kzk(h:Rw w b #[x0,x1,x2,x3,x4] t):Ce w b 0 x0/\Ce w b 1 x1/\Ce w b 2 x2/\Ce w b 3 x3/\Ce w b 4 x4 /\
  Fr w b 0/\Fr w b 1/\Fr w b 2/\Fr w b 3/\Fr w b 4:=
 ⟨rc h 0,rc h 1,rc h 2,rc h 3,rc h 4,
  rf h 0,rf h 1,rf h 2,rf h 3,rf h 4⟩
theorem kj9{o:Nat}:∀k,P+1<=k->k<w.heap.size->(w.setCell ⟨P,o,none⟩ u).heap[k]?=w.heap[k]?:=λk h _=>hsC (by grind)
theorem qh(h:w.ownsRow lo P size v n xs):∃a l c,v=.slice a l c:=by
 obtain⟨rfl,_⟩|⟨g,cap,cur,rfl,_⟩:=h.2
 ·simp
 simp
theorem xja(hi:zk L mY st=false):rDo blk L st=(pvs (kqy L st).1 (rX (kqb L) 0 .nil L<|qg L [61] (kqy L st).2).1,qg L [59] (rX (kqb L) 0 .nil L<|qg L [61] (kqy L st).2).2):=by unfold rDo;simp_all
theorem xke{a1:PB×RS}(hi:zk L mY st=true)(d:rX (kqb L) 0 .nil L (qg L mY st)=a0)(e:blk a0.2=a1):rDo blk L st=if zk L nU a1.2 then (ifS a0.1 a1.1 (blk<|qg L nU a1.2).1,(blk<|qg L nU a1.2).2) else (ifS a0.1 a1.1 .nil,a1.2):=by grind [rDo]
theorem xzs(f:Nat)(hB:zqw f):xj6 f:=by
 intro w R v L st h J hf;have E:R<w.heap.size:=wQ h.rd;have A:=kq9 h.xu;have aA:=h.lt;go_in;go_wp21;refine zM (kjg mY<|h.below (jZ _)) ?_;rintro w1 ⟨H1,Y⟩;have N:=((Kept.refl R w).alloc _).trans Y;have m:=oz<|(Y.block w.heap.size ay aj).trans jH;cases hi:zk L mY st
 ·have z:=xja (blk:=rS f 0 L) hi;go_wp21;refine(jkk H1).mono ?_;rintro e w2 ⟨K,rfl,Z,h2,q⟩;have g:=(q.block w.heap.size (wQ m) aj).trans m;have I:=kzk g;obtain⟨K,rfl⟩:=Z.ptr;generalize kqy L st=P at *;go_wp21;refine zM (kq1 [61]<|(oz h2).jm A E ay _) ?_;rintro w3 ⟨h3,l⟩;have i:=(l.block w.heap.size (by simpa using wQ g) aj).trans<|jD _ 0 _ _ (.pointer K) g;go_wp21
  refine(qvu (oz h3) J).mono ?_;rintro e w4 ⟨H,rfl,a1,h4,k⟩;have j:=(k.block w.heap.size (wQ i) aj).trans i;have I:=kzk j;obtain⟨H,rfl⟩:=a1.ptr;generalize rX (kqb L) 0 .nil L (qg L [61] P.2)=V at *;go_wp21;refine zM (kq1 [59]<|(oz h4).jm A E ay _) ?_;rintro w5 ⟨h5,d⟩;have x:=(((((N.trans q).jm (p:=⟨w.heap.size,0,none⟩) ay<|.pointer K).trans l).trans k).jm (p:=⟨w.heap.size,1,none⟩) ay<|.pointer H).trans d;have y:=(((((Z.mono (lo':=w.heap.size+1)<|wQ m).stay<|kj9 (o:=0) (u:=.pointer K)).kept l aj).kept k aj).stay<|kj9 (o:=1) (u:=.pointer H)).kept d aj;go_wp2;go_ret;rw[z];exact⟨_,rfl,⟨_,_,_,_,[],rfl,jV,((d.block w.heap.size (by simpa using wQ j) aj).trans<|jD _ 1 _ _ (.pointer H) j),⟨y.mono aj,(((a1.mono (lo':=w.heap.size+1)<|wQ i).stay<|kj9 (o:=1) (u:=.pointer H)).kept d aj).mono aj,rfl⟩,rfl⟩,(oz h5),x⟩
 ·have a9:4*(L.length-st.v)+2<=f+1:=zxb (next_lt H1 hi).2 hf;go_wp21;refine zM (kq1 mY H1) ?_;rintro w2 ⟨h2,q⟩;have g:=(q.block w.heap.size (wQ m) aj).trans m;have a8:(qg L mY st).v=st.v+1:=by apply qqd;unfold qg;rw[hi];rfl
  go_wp21;refine(qvu (oz h2) J).mono ?_;rintro e w3 ⟨M,rfl,a0,H3,l⟩;have i:=(l.block w.heap.size (wQ g) aj).trans g;have I:=kzk i;have O:=a0.mono (lo':=w.heap.size+1)<|wQ g;obtain⟨M,rfl⟩:=a0.ptr;have a4:=kvl (kqb L) 0 .nil L<|qg L mY st;generalize HC:rX (kqb L) 0 .nil L (qg L mY st)=C at O H3 a4;go_wp21
  refine(hB _ R v L C.2 (H3.jm A E ay _) J<|zxm aj aj).mono ?_;rintro e w4 ⟨vs,qs,rfl,a3,a7,H4,k⟩;have F:=wQ i;have j:=(k.block w.heap.size (by simp_all) aj).trans<|jD _ 2 _ _ (.pointer M) i;have I:=kzk j;have Q:=a7.mono (lo':=w.heap.size+1) (by have:=F;simp;omega);obtain⟨sa,sl,sc,rfl⟩:=qh a3;have a5:=kkc L f 0 C.2;generalize ht:rS f 0 L C.2=T at Q H4 a5;have z:=oz<|xke (blk:=rS f 0 L) hi HC ht;go_wp21
  refine zM (kjg nU<|H4.jm A E ay _) ?_;rintro w5 ⟨H5,d⟩;have B:=(d.block w.heap.size (by simpa using wQ j) aj).trans<|jD _ 3 _ _ (.slice sa sl sc) j;have x:=(((((N.trans q).trans l).jm (p:=⟨w.heap.size,2,none⟩) ay<|.pointer M).trans k).jm (p:=⟨w.heap.size,3,none⟩) ay<|.slice sa sl sc).trans d;have y:=(((O.stay<|kj9 (o:=2) (u:=.pointer M)).kept k aj).stay<|kj9 (o:=3) (u:=.slice sa sl sc)).kept d aj;have S:=(Q.stay<|kj9 (o:=3) (u:=.slice sa sl sc)).kept d aj;have U:=jr (xg (kj9 (o:=3) (u:=.slice sa sl sc))<|qo (lo':=w.heap.size+1) (by have:=F;simp;omega) a3) d aj;cases X:zk L nU T.2
  ·rw[X]at z;go_wp2;go_ret;rw[z];exact⟨_,rfl,⟨_,_,_,_,_,_,_,[],[],rfl,jV,B,⟨rfl,rfl,y.mono aj⟩,⟨qo aj U,(λ_ _ h=>ig),S.mono aj⟩,⟨oN,(λ_ _ h=>ig),rfl⟩,rfl⟩,H5,x⟩
  ·rw[X]at z;go_wp21;refine zM (kq1 nU H5) ?_;rintro w6 ⟨h6,s⟩;have D:=(s.block w.heap.size (wQ B) aj).trans B;have aB:=yh L nU T.2;go_wp21;refine(hB _ R v L _ (oz h6) J<|zxm aj aj).mono ?_;rintro e w7 ⟨ve,qe,rfl,a2,a6,h7,t⟩;have G:=wQ D;have W:=(t.block w.heap.size (wQ D) aj).trans D;have I:=kzk W;obtain⟨ea,el,ec,rfl⟩:=qh a2;go_wp2;go_ret;rw[z];exact⟨_,rfl,⟨_,_,_,_,_,_,_,_,[],rfl,jV,jD _ 4 _ _ (.slice ea el ec) W,⟨rfl,rfl,(((y.kept s aj).kept t aj).stay kj9).mono aj⟩,⟨qo aj<|xg kj9 (jr (jr U s aj) t aj),(λ_ _ h=>ig),(((S.kept s aj).kept t aj).stay kj9).mono aj⟩,
    ⟨qo aj<|xg kj9 (qo (lo':=w.heap.size+1) G a2),(λ_ _ h=>ig),((a6.mono (lo':=w.heap.size+1) G).stay kj9).mono aj⟩,rfl⟩,(oz h7).jm A E ay _,((x.trans s).trans t).jm ay _⟩
section
def pyi(P:Program)(t e size:Nat):Bool:=
 (match P.underlying t with|some (.slice e')=>e'==e|_=>false) &&
 (match P.info? e with|some i=>i.size==size&&decide (i.bytes<=1000)&&(match i.zero with|some z=>z.cells.size==size|none=>false)|none=>false)&&decide (0<size)
theorem pye{t e:Nat}(h:pyi prog t e size=true):∃i z,prog.underlying t=some (.slice e)/\prog.info? e=some i/\i.zero=some z/\i.size=size/\z.cells.size=size/\i.bytes<=1000/\0<size:=by grind [pyi]
theorem vkj(hn:n<=1000000)(hb:b<=1000):(n+1)*b<=140737488355328:=rP (Jt (Nat.add_le_add_right hn 1) hb) aj
theorem alloc_at(b:Nat)(h:w.heap.size=b):(w.alloc o).heap[b]?=some o:=by subst h;exact Xk w o
section
variable {w:World} {base e size n t b tt:Nat} {v:Value} {xs news:List Value} {ops:Array Oper} {rest:List Oper} {o:Oper} {a:Act} {Q:Exit->Act->World->Prop} {s x:Operand}
theorem apO(d:w.ownsRow base e size v n xs)(h:∀v' w',w'.ownsRow base e size v' (n+1) (xs++news)->w.grownBy w' v.ownBlock->(v'=nS↔v=nS/\1=0)->(v'.ownBlock=v.ownBlock\/v'.ownBlock=some w.heap.size)->wpList prog ops Q rest (a.put o.dst v') w')(l:o.op=.call {callee:=.builtin .append,args:=#[s,x],argTypes:=#[t,t]}:=by exact rfl)(f:o.guard=none:=by exact rfl)(m:a.eval s=v:=by exact rfl)(y:a.eval x=sL b 1 1:=by exact rfl)(q:Rw w b news.toArray tt:=by first|exact jH|exact alloc_at _ ay)(h1:news.all Value.oneCell'=true:=by rfl)(k:news.length=1*size:=by rfl)(g:pyi prog t e size=true:=by kernel_rfl)(hn:n<=1000000:=by first|omega|(simp;done)|(simp;omega))(hb:base<=w.heap.size:=by first|omega|(simp;done)|(simp;omega)):wpList prog ops Q (o::rest) a w:=by have ⟨i,z,g1,j,g3,g4,g5,g6,g7⟩:=pye g;exact Ja _ f s x t l base e i z size i.bytes g1 j g3 g4 rfl g5 g7 v n xs m d ⟨b,0,none⟩ 1 1 news y k (World.news_of_block q) (λu p=>sJ.1 h1 u p) iq (vkj hn g6) hb h
theorem apL{a2:Act->World->Prop}{a3:Prop}{H:Nat}(d:w.ownsRow base e size v n xs)(y:Rw w b news.toArray tt)(h:∀g cap w',w'.ownsRow base e size (sL g (n+1) cap) (n+1) (xs++news)->w.grownBy w' v.ownBlock->(v.ownBlock=some g\/g=H)->g<w'.heap.size->a2 (a.put o.dst<|sL g (n+1) cap) w')(m:o.op=.call {callee:=.builtin .append,args:=#[s,x],argTypes:=#[t,t]}:=by exact rfl)(f:o.guard=none:=by exact rfl)(p:a.eval s=v:=by exact rfl)(A:a.eval x=sL b 1 1:=by exact rfl)(hH:w.heap.size=H:=by exact tV _ _)(h1:news.all Value.oneCell'=true:=by rfl)(l:news.length=1*size:=by rfl)(j:pyi prog t e size=true:=by kernel_rfl)(hn:n<=1000000:=by first|omega|(simp;done)|(simp;omega))(hb:base<=w.heap.size:=by first|omega|(simp;done)|(simp;omega)):if Region.wanted o (yielded ops a.tmps)=true then Oper.wp prog o a w a2 Q else a3:=by have ⟨i,z,g1,k,g3,g4,g5,g6,g7⟩:=pye j;exact step_append_lies _ f s x t m base e i z size i.bytes g1 k g3 g4 rfl g5 g7 v n xs p d ⟨b,0,none⟩ 1 1 news A l (World.news_of_block y) (λu q=>sJ.1 h1 u q) aj iq (vkj hn g6) hb H hH h
end
end
def xj7(f:Nat)(w:World)(R:Nat)(v:Value)(L:List Tok)(fin:PB×RS)(l m:Value)(wr:World):Prop:=
 ∃(ps:List Value)(acc:PB)(st:RS)(g:Nat),m=.bool (zk L [125] st)/\wr.ownsRow w.heap.size 245 1 l ps.length ps/\jg w.heap.size l.ownBlock wr acc ps/\Rd wr R v L st/\Kept R w wr /\
  (kkp acc (rS g 1 L st).1,(rS g 1 L st).2)=fin/\qzd L 1 2 st g/\g<=f/\ps.length<=st.v+st.s.toNat
def zqp(w:World)(R:Nat):Nat:=match w.cell? (Ad R 3) with
 |some (.bool false)=>1
 |_=>0
theorem Rd.zqp(h:Rd w R v L st):Go.Proofs.YtpmcnonmkghokaaGreatDoor.zqp w R=(!st.s).toNat:=by have ⟨c0,c1,c2,c3,_⟩:=row4 h.rd;unfold Go.Proofs.YtpmcnonmkghokaaGreatDoor.zqp;rw[c3];cases st.s<;>rfl
theorem jg.kva{no':Option Nat}(hv:w.ownsRow base 245 1 v n xs)(d:w.grownBy w' v.ownBlock)(g:∀k,no'=some k->v.ownBlock=some k\/w.heap.size<=k):∀{b:PB}{ps:List Value},jg lo v.ownBlock w b ps->jg lo no' w' b ps
 |.nil,_,h=>h
 |.node _ _ a .nil nx,ps,⟨k,vp,vv,vi,qs,e,hl,hh,ha,hn⟩=>⟨k,vp,vv,vi,qs,e,hl,pU,⟨ha.1.grown hv ak d,ha.2.1.grown hv ak d,ha.2.2.grown hv ak d⟩,jg.kva hv d g hn⟩
 |.node _ _ a (.node _ _ _ t e) nx,ps,⟨k,vp,vv,vi,vt,ve,qt,qe,qs,e1,hl,hh,ha,⟨ht1,ht3,ht2⟩,⟨he1,he3,he2⟩,hn⟩=>by
  have f:∀{u:Value}{q:List Value},w.ownsRow lo 245 1 u q.length q->(∀j,u.ownBlock=some j->v.ownBlock≠some j)->w'.ownsRow lo 245 1 u q.length q/\∀j,u.ownBlock=some j->no'≠some j:=by
   intro u q h1 m;refine⟨h1.kept d ?_,λj i p=>?_⟩
   ·cases s:u.ownBlock with
    |none=>simp
    |some j=>grind
   ·have l:=kq9 h1 j i;grind
  exact⟨k,vp,vv,vi,vt,ve,qt,qe,qs,e1,hl,pU,⟨ha.1.grown hv ak d,ha.2.1.grown hv ak d,ha.2.2.grown hv ak d⟩,
   ⟨(f ht1 ht3).1,(f ht1 ht3).2,jg.kva hv d g ht2⟩,⟨(f he1 he3).1,(f he1 he3).2,jg.kva hv d g he2⟩,jg.kva hv d g hn⟩
theorem vw0(d:x0.ownBlock=v.ownBlock\/x0.ownBlock=some B):∀k,x0.ownBlock=some k->v.ownBlock=some k\/B<=k:=by grind
theorem Kept.grown(h:Kept R a w)(d:w.grownBy w' v.ownBlock)(hv:∀k,v.ownBlock=some k->a.heap.size<=k):Kept R a w':=
 ⟨d.os.trans h.os,d.tape.trans h.tape,d.output.trans h.output,rP h.size d.size,λk f hn=>(d.block k (sV f h.size)<|λe=>by grind).trans<|h.block k f hn⟩
theorem Rd.grown(h:Rd w R v L st)(d:w.grownBy w' u.ownBlock)(i:∀k,u.ownBlock=some k->B<=k)(f:∀g,v.ownBlock=some g->g<B)(hR:R<B):Rd w' R v L st:=by
 refine⟨by rw[d.block R (wQ h.rd) (λe=>by grind)];exact h.rd,?_,h.ne,h.lt,h.T,h.fin,h.nlo,h.nhi⟩;refine h.xu.kept d ?_;cases hv:v.ownBlock with
 |none=>simp
 |some j=>grind
theorem vy6(f:Nat)(W:∀g,g+1<=f->xj6 g):zqw (f+1):=by
 intro w R v L st h hD hf;have y:R<w.heap.size:=wQ h.rd;have U:=show rS (f+1) 0 L st=((rS f 1 L<|qg L [123] st).1,qg L [125] (rS f 1 L<|qg L [123] st).2) by rw[rS]
 have Z:qzd L 1 2 (qg L [123] st) f:=by
  cases hb:st.s
  ·have:=zxb hb hf;exact vy9 h.lt this aj aj
  grind [qzd,kkk]
 go_in;go_wp21;refine zM (kq1 [123] h) ?_;rintro w1 ⟨h1,a0⟩;go_wp21;refine zM (kjg [125] h1) ?_;rintro w2 ⟨h2,a1⟩;have HR:=show xj7 f w R v L (rS f 1 L<|qg L [123] st) nS (.bool<|zk L [125] (qg L [123] st)) w2 from
  ⟨[],.nil,qg L [123] st,f,rfl,oN,rfl,h2,a0.trans a1,rfl,Z,jV,jG⟩
 go_wp2;go_loopw [3,4] (λl m wr=>xj7 f w R v L (rS f 1 L<|qg L [123] st) l m wr) (λ_ _ wr=>2*(L.length-kk4 wr R)+zqp wr R);exact HR;obtain⟨ps,acc,q,g,rfl,B,O,z,E,(x:Hid _),D,a9,M⟩:=hrel;have a4:=z.T;have ⟨c0,c1,c2,c3,f0,f1,f2,f3⟩:=row4 z.rd;have a2:=E.size;obtain⟨la,ll,lc,rfl⟩:=qh B;cases hn:(zk L [125] q||q.s)
 ·rw[Qi]at hn;have⟨K,j⟩:=hn;have a3:=zxb j D;obtain⟨g,rfl⟩:=qqy g;rw[j]at c3;have A:=x;rw[rS,K,j]at A;simp only[Qg,ru,Xv]at A;have x:=oz A;go_wp21;refine(W g aj _ R v L q z hD<|zxm aj aj).mono ?_;rintro e w3 ⟨p,rfl,hp,N,i⟩;have C:=jr B i y;have H:=(O.kept i y).app ((hp.shun (no':=(Value.slice la ll lc).ownBlock)<|λk u=>.inr<|.inr ((kq9 B) k u)).mono a2);have a5:=i.size;have G:(rDo (rS g 0 L) L q).2.s=false->q.v+1<=(rDo (rS g 0 L) L q).2.v:=qwd (λs=>kkc L g 0 s) (λs hs=>qwg hs g 0);have F:=zzo (λs=>kkc L g 0 s) L q;generalize rDo (rS g 0 L) L q=d at H N x G F;have a7:=N.lt;rw[j]at M;simp only[JB,Qk]at M;go_wp2_with (at_builtin;refine apO (C.alloc _) ?_)
  intro v' w4 V t _ X;have I:=jo C;have S:jg w.heap.size v'.ownBlock w4 (kkp acc d.1) (ps++[.pointer p]):=jg.kva (C.alloc _) t (λk u=>(vw0 X k u).imp id<|λh=>by simp_all) (H.stay<|λk _ u=>jR u);obtain⟨va,vl,vc,rfl⟩:=qh V;go_wp21;refine zM (kjg [125]<|oz ((N.below<|jZ _).grown t I (kq9 h.xu) y)) ?_;rintro T ⟨Q,J⟩;have a6:=show xj7 f w R v L (rS f 1 L<|qg L [123] st) (.slice va vl vc) (.bool<|zk L [125] d.2) T from
   ⟨ps++[.pointer p],kkp acc d.1,d.2,g,rfl,by grind [jr],(oz S).kept J y,Q,(oz<|((E.trans i).alloc _).grown t I).trans J,by rw[zz0];exact x,
    by
     grind [qzd],aj,by
     rw[rD];cases Y:d.2.s
     ·grind
     grind⟩
  have HM:=show 2*(L.length-kk4 T R)+zqp T R<2*(L.length-kk4 wr R)+zqp wr R by
   rw[Q.kk4,Q.zqp,z.kk4,z.zqp,j];cases Y:d.2.s
   ·grind
   grind
  go_wp2;simp_all
 ·have a8:1<=g:=by
   cases j:q.s
   ·have:=zxb j D;omega
   ·exact pk5 j D
  obtain⟨g,rfl⟩:=qqy g;have A:=x;rw[rS,hn]at A;simp only[Xw,jzk]at A;have x:=oz A;cases K:zk L [125] q
  ·have j:q.s=true:=by simp_all
   rw[j]at c3;go_wp21;refine zM (kq1 [125] z) ?_;rintro w3 ⟨P,i⟩;go_wp2;go_ret;rw[U,<-x];exact⟨_,ps,rfl,(jr B i y),((O.kept i y).shun (no':=none)<|λk u=>by cases u),(oz P),(E.trans i)⟩
  ·go_wp21;refine zM (kq1 [125] z) ?_;rintro w3 ⟨P,i⟩;go_wp2;go_ret;rw[U,<-x];exact⟨_,ps,rfl,(jr B i y),((O.kept i y).shun (no':=none)<|λk u=>by cases u),(oz P),(E.trans i)⟩
theorem blocks(f:Nat):zqw f:=by
 have h:∀f,∀g,g<=f->zqw g:=by
  intro f;induction f with
  |zero=>
   intro g i w R v L st h _ d;have:g=0:=aj;subst this;have:=h.lt;unfold qzd at d;split at d<;>omega
  |succ f ih=>
   intro g i;by_cases e:g<=f
   ·simp_all
   ·have:g=f+1:=by omega
    grind [vy6,xzs]
 exact h f f<|jV
def qqn(L:List Tok):Nat:=4*L.length+4
theorem pk3(h:Rd w R v L st)(d:jzo L):og 109 #[pT R] w (xk9 R v L w<|rS (qqn L) 0 L st):=
 blocks (qqn L) w R v L st h d (zxm (by unfold qqn;omega) (by unfold qqn;omega))
def kkn:Nat->List Tok->List Tok->RS->List Tok×RS
 |0,_,l,st=>(l,st)
 |f+1,L,l,st=>
  if st.s then (l,st)
  else if zk L [44] (zq L mX st).2||decide (l.length+1<2) then kkn f L (l++[(zq L mX st).1]) (qg L [44] (zq L mX st).2)
  else (l++[(zq L mX st).1],(zq L mX st).2)
def kq2(L:List Tok):Nat:=L.length+2
def kkr(L:List Tok)(st:RS):List Tok×RS:=
 ((kkn (kq2 L) L []<|qg L [123] st).1,qg L [125] (kkn (kq2 L) L []<|qg L [123] st).2)
def qwf(L:List Tok)(st:RS)(f:Nat):Prop:=if st.s then 1<=f else L.length-st.v+1<=f
theorem qx6:qwf L st (kq2 L):=by unfold qwf kq2;grind
theorem zq1(h:qwf L st f):1<=f:=by unfold qwf at h;grind
theorem qvy(d:st.v<L.length)(hb:st.s=false)(h:qwf L st (f+1))(e:st'.s=false->st.v+1<=st'.v):qwf L st' f:=by grind [qwf]
theorem jv9{s:List UInt8}(h:(zq L s st).2.s=false):st.v+1<=(zq L s st).2.v:=by rw[jqm h];omega
theorem jkl{s:List UInt8}(d:st.s=false->st'.v+1<=st.v)(h:(qg L s st).s=false):st'.v+1<=(qg L s st).v:=by grind [kkk,yh]
def vq2(w:World)(R:Nat)(v:Value)(L:List Tok)(fin:List Tok×RS)(x m:Value)(wr:World):Prop:=
 ∃(l:List Tok)(st:RS)(g:Nat)(b:Bool),m=.bool b/\wr.ownsRow w.heap.size 142 3 x l.length (uw l)/\Rd wr R v L st/\Kept R w wr /\
  (b=true->kkn g L l st=fin/\qwf L st g)/\(b=false->(l,st)=fin)/\l.length<=st.v+st.s.toNat
def xxj(R:Nat)(v:Value)(L:List Tok)(w:World)(r:List Tok×RS)(e:Ending)(w':World):Prop:=
 ∃x,e=.returned x/\w'.ownsRow w.heap.size 142 3 x r.1.length (uw r.1)/\Rd w' R v L r.2/\Kept R w w'/\r.1.length<=801
theorem jwi{a4:Option Addr}(h:w.ownsRow lo P size (.slice a4 R c) n xs):R=n:=by
 obtain⟨d,e⟩|⟨_,_,_,d,_⟩:=h.2
 ·simp_all
 simp_all
theorem qqp(h:Rd w R v L st)(hn:n<=st.v+st.s.toNat):n<=801:=by
 have h1:=h.lt;have d:=h.T;have:st.s.toNat<=1:=by cases st.s<;>simp
 omega
theorem qyn(h:Rd w R v L st)(d:Rd w' R v L st')(hb:st.s=false)(g:st.v<=st'.v)(i:st'.s=false->st.v+1<=st'.v):2*(L.length-kk4 w' R)+zqp w' R<2*(L.length-kk4 w R)+zqp w R:=by
 rw[h.kk4,d.kk4,h.zqp,d.zqp,hb];have f:=d.lt;cases e:st'.s
 ·grind
 grind
theorem vz7(h:Rd w R v L st):Calls prog 175 #[pT R] w (xxj R v L w<|kkr L st):=by
 have y:R<w.heap.size:=wQ h.rd;go_in;go_wp21;refine zM (kq1 [123] h) ?_;rintro w1 ⟨h1,S⟩;have Y:=show vq2 w R v L (kkn (kq2 L) L []<|qg L [123] st) nS (.bool true) w1 from
  ⟨[],qg L [123] st,kq2 L,true,rfl,oN,h1,S,λ_=>⟨rfl,qx6⟩,λh=>ig,jG⟩
 go_wp2;go_loopw [3,4] (λl m wr=>vq2 w R v L (kkn (kq2 L) L []<|qg L [123] st) l m wr) (λ_ _ wr=>2*(L.length-kk4 wr R)+zqp wr R);exact Y;obtain⟨l,D,g,b,rfl,u,j,B,hT,hF,p⟩:=hrel;have ⟨c0,c1,c2,c3,f0,f1,f2,f3⟩:=row4 j.rd;have a8:=B.size;obtain⟨la,ll,lc,rfl⟩:=qh u;have U:=jwi u;subst U;cases b
 ·have d:=hF rfl;go_wp21;refine zM (kq1 [125] j) ?_;rintro w3 ⟨t,f⟩;go_wp2;go_ret;unfold kkr;rw[<-d];exact⟨_,rfl,(jr u f y),(oz t),(B.trans f),(qqp j p)⟩
 ·have ⟨d,G⟩:=hT rfl;obtain⟨g,rfl⟩:∃g',g=g'+1:=⟨g-1,by have:=zq1 G;omega⟩;cases i:D.s
  ·rw[kkn,i]at d;simp only[ru,Xv]at d;rw[i]at c3;go_wp21;refine zM (kxu mX j rfl) ?_;rintro w3 ⟨t,f⟩;have A:=jv9 (L:=L) (s:=mX) (st:=D);have z:=kj1 L mX D;generalize zq L mX D=k at d t A z |-;have F:=jr u f y;have a1:=f.size;unfold kxt;go_wp2_with (at_builtin;refine apO (news:=ji k.1) ((F.alloc _).alloc _) ?_ (hn:=by have:=qqp j p;omega))
   intro v' w4 x q _ a3;have I:=jo F;obtain⟨va,vl,vc,rfl⟩:=qh x;have W:=jwi x;subst W;go_wp21;refine zM (kjg [44]<|oz (((oz t).below<|(bR.alloc jV _).alloc ay _).grown q I (kq9 h.xu) y)) ?_;rintro w5 ⟨Z,J⟩;have a2:=jr x J y;have E:=((((B.trans f).alloc _).alloc _).grown q I).trans J;have M:=oz Z;rw[i]at p;simp only[JB,Qk]at p;have a0:l.length+1<=k.2.v+k.2.s.toNat:=by
    cases a6:k.2.s
    ·grind
    grind
   cases C:(zk L [44] k.2||decide (l.length+1<2))
   ·have d:=d;rw[C]at d;simp only[ru,Xv]at d;rw[Qi]at C;have⟨H,Q⟩:=C;have a4:2<=l.length+1:=by simp_all
    have a5:decide ((l.length:Int)+1<2)=false:=by grind
    have N:=show vq2 w R v L (kkn (kq2 L) L []<|qg L [123] st) (.slice va (l.length+1) vc) (.bool false) w5 from
     ⟨l++[k.1],k.2,g,false,rfl,by grind [kwt],M,E,(λh=>ig),(λ_=>d),by simp_all⟩
    go_wp2;exact⟨N,(qyn j M i z A)⟩
   ·have d:=d;rw[C]at d;simp only[Xw]at d;have X:Hid ((zk L [44] k.2=true)\/(zk L [44] k.2=false/\l.length+1<2)):=by
     cases hx:zk L [44] k.2
     ·simp_all
     simp_all
    have K:=jkl (L:=L) (s:=[44]) A;have V:=rP z<|yh L [44] k.2;have a7:l.length+1<=(qg L [44] k.2).v+(qg L [44] k.2).s.toNat:=by grind [qg]
    obtain H|⟨H,Q⟩:=X;all_goals
     go_wp21;refine zM (kq1 [44] M) ?_;rintro w6 ⟨P,T⟩;have O:=show vq2 w R v L (kkn (kq2 L) L []<|qg L [123] st) (.slice va (l.length+1) vc) (.bool true) w6 from
      ⟨l++[k.1],qg L [44] k.2,g,true,rfl,by grind [kwt,jr],P,E.trans T,(λ_=>⟨d,qvy j.lt i G K⟩),(λh=>ig),by simp_all⟩
     go_wp2;exact⟨O,(qyn j P i V K)⟩
  ·rw[kkn,i]at d;simp only[Xw]at d;rw[i]at c3;go_wp21;refine zM (kq1 [125] j) ?_;rintro w3 ⟨t,f⟩;go_wp2;go_ret;unfold kkr;rw[<-d];exact⟨_,rfl,(jr u f y),(oz t),(B.trans f),(qqp j p)⟩
structure PP where
 y:Tok
 Q:Tok
variable {acc:List PP}{b7:List PP×RS}
def kwf(p:PP):List Value:=ji p.y++ji p.Q
def kjm(l:List PP):List Value:=l.flatMap kwf
theorem zqo(l:List PP)(p:PP):kjm (l++[p])=kjm l++kwf p:=by simp[kjm]
def rPP(L:List Tok)(st:RS):PP×RS:=
 (⟨(zq L mX st).1,(zq L mX<|qg L [58] (zq L mX st).2).1⟩,(zq L mX<|qg L [58] (zq L mX st).2).2)
def kws:Nat->List Tok->List PP->RS->List PP×RS
 |0,_,l,st=>(l,st)
 |f+1,L,l,st=>
  if st.s then (l,st)
  else if zk L [44] (rPP L st).2 then kws f L (l++[(rPP L st).1]) (qg L [44] (rPP L st).2)
  else (l++[(rPP L st).1],(rPP L st).2)
def kj0(L:List Tok)(st:RS):List PP×RS:=
 if zk L [41] (qg L [40] st) then ([],qg L [41]<|qg L [40] st)
 else ((kws (kq2 L) L []<|qg L [40] st).1,qg L [41] (kws (kq2 L) L []<|qg L [40] st).2)
theorem qk8(L:List Tok)(st:RS):st.v<=(rPP L st).2.v:=rP (kj1 L _ st)<|rP (yh L [58] _) (kj1 L _ _)
theorem pwq(h:(rPP L st).2.s=false):st.v+1<=(rPP L st).2.v:=by grind [rPP,jv9,yh,kj1]
theorem kzh(h:Rw w b #[x0,x1,x2,x3,x4,x5] t):Ce w b 0 x0/\Ce w b 1 x1/\Ce w b 2 x2/\Ce w b 3 x3/\Ce w b 4 x4/\Ce w b 5 x5 /\
  Fr w b 0/\Fr w b 1/\Fr w b 2/\Fr w b 3/\Fr w b 4/\Fr w b 5:=
 ⟨rc h 0,rc h 1,rc h 2,rc h 3,rc h 4,rc h 5,
  rf h 0,rf h 1,rf h 2,rf h 3,rf h 4,rf h 5⟩
theorem pvf(h:Rw w b #[x0,x1,x2,x3,x4,x5] t):Rw (puts b [v,x6,d] 0 w) b #[v,x6,d,x3,x4,x5] t:=zju h
theorem xxw(h:Rw w b #[x0,x1,x2,x3,x4,x5] t):Rw (puts b [v,x6,d] 3 w) b #[x0,x1,x2,v,x6,d] t:=zju h
theorem kwk(h:w.ownsRow lo P size v n xs)(d:∀g,v.ownBlock=some g->g<B)(e:B<=p.block)(u:Value):(w.setCell p u).ownsRow lo P size v n xs:=
 (by grind [ownsRow_setCell_other])
theorem Rd.qwv(h:Rd w R v L st)(d:∀g,v.ownBlock=some g->g<B)(hR:R<B)(hb:B<=b){x:Value}:Rd (((w.setCell (Ad b i) x).setCell (Ad b j) y).setCell (Ad b k) z) R v L st:=(by grind [jm])
theorem zkp(h:w.ownsRow lo P size v n xs)(d:∀g,v.ownBlock=some g->g<B)(hb:B<=b):(((w.setCell (Ad b i) x0).setCell (Ad b j) y).setCell (Ad b k) z).ownsRow lo P size v n xs:=kwk (kwk (kwk h d (p:=⟨b,i,none⟩) hb x0) d (p:=⟨b,j,none⟩) hb y) d (p:=⟨b,k,none⟩) hb z
theorem Kept.qwv(h:Kept R a w)(hb:a.heap.size<=b){x:Value}:Kept R a (((w.setCell (Ad b i) x).setCell (Ad b j) y).setCell (Ad b k) z):=
 (by grind [jm])
def vq1(w:World)(R:Nat)(v:Value)(L:List Tok)(fin:List PP×RS)(x m:Value)(wr:World):Prop:=
 ∃(l:List PP)(st:RS)(g:Nat)(b:Bool),m=.bool b/\wr.ownsRow w.heap.size 236 6 x l.length (kjm l)/\Rd wr R v L st/\Kept R w wr /\
  (b=true->kws g L l st=fin/\qwf L st g)/\(b=false->(l,st)=fin)/\l.length<=st.v+st.s.toNat
def xx8(R:Nat)(v:Value)(L:List Tok)(w:World)(r:List PP×RS)(e:Ending)(w':World):Prop:=
 ∃x,e=.returned x/\w'.ownsRow w.heap.size 236 6 x r.1.length (kjm r.1)/\Rd w' R v L r.2/\Kept R w w'/\r.1.length<=801
theorem jqe(h:Rd w R v L st):Calls prog 107 #[pT R] w (xx8 R v L w<|kj0 L st):=by
 have B:R<w.heap.size:=wQ h.rd;have HV:=kq9 h.xu;go_in;go_wp21;refine zM (kq1 [40] h) ?_;rintro w0 ⟨h0,O⟩;go_wp21;refine zM (kjg [41] h0) ?_;rintro w1 ⟨h1,Y⟩;have a2:∃fin b,b=!(zk L [41]<|qg L [40] st)/\kj0 L st=(fin.1,qg L [41] fin.2)/\vq1 w R v L fin nS (.bool b) w1:=by
  cases hn:zk L [41] (qg L [40] st)
  ·exact⟨kws (kq2 L) L []<|qg L [40] st,true,rfl,by rw[kj0,hn];rfl,[],qg L [40] st,kq2 L,true,rfl,oN,h1,O.trans Y,λ_=>⟨rfl,qx6⟩,λh=>ig,jG⟩
  ·exact⟨([],qg L [40] st),false,rfl,by rw[kj0,hn];rfl,[],qg L [40] st,kq2 L,false,rfl,oN,h1,O.trans Y,λh=>ig,λ_=>rfl,jG⟩
 obtain⟨fin,b0,a5,(H:Hid _),HR⟩:=a2;have a1:zk L [41] (qg L [40] st)=!b0:=by simp_all
 rw[a1];clear a1 a5;go_wp2;go_loopw [3,5] (λl m wr=>vq1 w R v L fin l m wr) (λ_ _ wr=>2*(L.length-kk4 wr R)+zqp wr R)
 case atStart=>first|exact HR|(have:=HR;simpa using this)
 case round=>
  obtain⟨l,t,g,b,rfl,I,q,N,hT,hF,x⟩:=hrel;have F:=wQ q.rd;have ⟨c0,c1,c2,c3,f0,f1,f2,f3⟩:=row4 q.rd;have A:=N.size;obtain⟨la,ll,lc,rfl⟩:=qh I;cases b
  ·have HF:=hF rfl;go_wp21;refine zM (kq1 [41] q) ?_;rintro w3 ⟨h3,f⟩;go_wp2;go_ret;rw[H,<-HF];exact⟨_,rfl,(jr I f B),(oz h3),(N.trans f),(qqp q x)⟩
  ·have ⟨d,W⟩:=hT rfl;obtain⟨g,rfl⟩:∃g',g=g'+1:=⟨g-1,by have:=zq1 W;omega⟩;cases i:t.s
   ·rw[kws,i]at d;simp only[ru,Xv]at d;rw[i]at c3;have u:=oz d;go_wp21;refine zM (kxu mX (q.below<|jZ _) rfl) ?_;rintro w3 ⟨H3,f⟩;have E:=show ∀g,v.ownBlock=some g->g<wr.heap.size from λg hg=>sV (HV g hg) A
    have C:=kq9 I;have J:=(f.block wr.heap.size ay aj).trans<|Xk wr _;have d0:=kzh J;have z:=pwq (L:=L) (st:=t);have y:=qk8 L t;have D:=show rPP L t=(⟨(zq L mX t).1,(zq L mX<|qg L [58] (zq L mX t).2).1⟩,(zq L mX<|qg L [58] (zq L mX t).2).2) from rfl
    generalize rPP L t=P at u z y D;generalize zq L mX t=k at D H3 |-;unfold kxt;go_wp21
    refine zM (kq1 [58]<|((H3.jm E F ay _).jm E F ay _).jm E F ay _) ?_;rintro w4 ⟨h4,K⟩;have V:=(K.block wr.heap.size (by simpa using wQ J) aj).trans<|pvf J;go_wp21
    refine zM (kxu mX (oz h4) rfl) ?_;rintro w5 ⟨H5,M⟩;have d0:=kzh<|(M.block wr.heap.size (wQ V) aj).trans V;have T:=jr (jr (kwk (kwk (kwk (jr (I.alloc _) f B) C (p:=⟨wr.heap.size,0,none⟩) ay<|.string k.1.t) C (p:=⟨wr.heap.size,1,none⟩) ay<|.string k.1.x) C (p:=⟨wr.heap.size,2,none⟩) ay<|i_ k.1.v) K B) M B;have Q:=((((((N.alloc _).trans f).jm (p:=⟨wr.heap.size,0,none⟩) A<|.string k.1.t).jm (p:=⟨wr.heap.size,1,none⟩) A<|.string k.1.x).jm (p:=⟨wr.heap.size,2,none⟩) A<|i_ k.1.v).trans K).trans M;generalize zq L mX (qg L [58] k.2)=j at D H5 |-;unfold kxt;have aA:=qqp q x;go_wp2_with (at_builtin;refine apO (news:=kwf ⟨k.1,j.1⟩) ((zkp T C<|jV).alloc _) ?_ (hb:=by have:=Q.size;simp;omega))
    intro v' w6 U G _ a9;have X:=jo T;obtain⟨va,vl,vc,rfl⟩:=qh U;go_wp21;refine zM (kjg [44] ((H5.qwv E F<|jV).below (jZ _) |>.grown G X HV B)) ?_;rintro w7 ⟨H7,Z⟩;have a8:=jr U Z B;have S:=(((Q.qwv A).alloc _).grown G X).trans Z;rw[D]at u z y;simp only at u z y;rw[i]at x;simp only[JB,Qk]at x;cases hc:zk L [44] j.2
    ·have d:=ku u;rw[hc]at d;simp only[ru,Xv]at d;have a3:=show vq1 w R v L fin (.slice va vl vc) (.bool false) w7 from
      ⟨l++[⟨k.1,j.1⟩],j.2,g,false,rfl,by grind [zqo],H7,S,(λh=>ig),(λ_=>d),by
       rw[rD];cases aB:j.2.s
       ·grind
       grind⟩
     go_wp2;exact⟨a3,(qyn q H7 i y z)⟩
    ·have d:=ku u;rw[hc]at d;simp only[Xw]at d;have a0:=jkl (L:=L) (s:=[44]) z;have a7:=rP y<|yh L [44] j.2;go_wp21
     refine zM (kq1 [44] H7) ?_;rintro w8 ⟨h8,a6⟩;have a4:=show vq1 w R v L fin (.slice va vl vc) (.bool true) w8 from
      ⟨l++[⟨k.1,j.1⟩],qg L [44] j.2,g,true,rfl,by grind [zqo,jr],h8,S.trans a6,(λ_=>⟨ku<|oz d,qvy q.lt i W a0⟩),(λh=>ig),by grind [qg]⟩
     go_wp2;exact⟨a4,(qyn q h8 i a7 a0)⟩
   ·rw[kws,i]at d;simp only[Xw]at d;rw[i]at c3;go_wp21;refine zM (kq1 [41] q) ?_;rintro w3 ⟨h3,f⟩;go_wp2;go_ret;rw[H,<-(oz d)];exact⟨_,rfl,(jr I f B),(oz h3),(N.trans f),(qqp q x)⟩
structure PVar where
 y:Tok
 g:Tok
 k:Tok
 R:Tok
def kj7(x:PVar):List Value:=ji x.y++(ji x.g++(ji x.k++ji x.R))
def pjf(x:PVar):Value:=.agg (kj7 x).toArray
def kjn(L:List Tok)(st:RS):Tok×RS:=
 if zk L [91] st then ((zq L mX<|qg L [91] st).1,qg L [93] (zq L mX<|qg L [91] st).2) else (zh,st)
def kku(L:List Tok)(st:RS):Tok×RS:=
 if zk L nP st then (zh,qg L nP st)
 else if zk L nD st then zq L mW (qg L nD st)
 else (zh,(zq L mX st).2)
def kyt(L:List Tok)(st:RS):PVar×RS:=
 ({y:=(zq L mX<|qg L mD st).1,
   g:=(kjn L<|qg L [58] (zq L mX<|qg L mD st).2).1,
   k:=tk L (kjn L<|qg L [58] (zq L mX<|qg L mD st).2).2.v,
   R:=(kku L (kjn L<|qg L [58] (zq L mX<|qg L mD st).2).2).1},
  qg L [59] (kku L (kjn L<|qg L [58] (zq L mX<|qg L mD st).2).2).2)
theorem pqj{a7:Tok×RS}(h1:qg L mD st=s1)(d:zq L mX s1=a5)(e:qg L [58] a5.2=s)(f:kjn L s=a6)(g:kku L a6.2=a7):kyt L st=({y:=a5.1,g:=a6.1,k:=tk L a6.2.v,R:=a7.1},qg L [59] a7.2):=by subst h1;subst d;subst e;subst f;subst g;rfl
def xx6(R:Nat)(v:Value)(L:List Tok)(w:World)(r:PVar×RS)(e:Ending)(w':World):Prop:=
 rT e (pjf r.1)/\Rd w' R v L r.2/\Kept R w w'
structure Row12 (w:World)(b:Nat)(x0 x1 x2 x3 x4 x5 x6 x7 x8 x9 x10 x11:Value):Prop where
 c0:w.cell? (Ad b 0)=some x0
 c1:w.cell? (Ad b 1)=some x1
 c2:w.cell? (Ad b 2)=some x2
 c3:w.cell? (Ad b 3)=some x3
 c4:w.cell? (Ad b 4)=some x4
 c5:w.cell? (Ad b 5)=some x5
 c6:w.cell? (Ad b 6)=some x6
 c7:w.cell? (Ad b 7)=some x7
 c8:w.cell? (Ad b 8)=some x8
 c9:w.cell? (Ad b 9)=some x9
 c10:w.cell? (Ad b 10)=some x10
 c11:w.cell? (Ad b 11)=some x11
 f0:w.frozen? (Ad b 0)=false
 f1:w.frozen? (Ad b 1)=false
 f2:w.frozen? (Ad b 2)=false
 f3:w.frozen? (Ad b 3)=false
 f4:w.frozen? (Ad b 4)=false
 f5:w.frozen? (Ad b 5)=false
 f6:w.frozen? (Ad b 6)=false
 f7:w.frozen? (Ad b 7)=false
 f8:w.frozen? (Ad b 8)=false
 f9:w.frozen? (Ad b 9)=false
 f10:w.frozen? (Ad b 10)=false
 f11:w.frozen? (Ad b 11)=false
theorem qwy(h:Rw w b #[x0,x1,x2,x3,x4,x5,x6,x7,x8,x9,x10,x11] t):Row12 w b x0 x1 x2 x3 x4 x5 x6 x7 x8 x9 x10 x11:=
 ⟨rc h 0,rc h 1,rc h 2,rc h 3,rc h 4,rc h 5,rc h 6,rc h 7,rc h 8,rc h 9,rc h 10,rc h 11,rf h 0,rf h 1,rf h 2,rf h 3,rf h 4,rf h 5,rf h 6,rf h 7,rf h 8,rf h 9,rf h 10,rf h 11⟩
theorem pw0(h:Rw w b #[x0,x1,x2,x3,x4,x5,x6,x7,x8,x9,x10,x11] t)(a c d:Value):Rw (((w.setCell (Ad b 0) a).setCell (Ad b 1) c).setCell (Ad b 2) d) b #[a,c,d,x3,x4,x5,x6,x7,x8,x9,x10,x11] t:=
 jD b 2 _ _ _ (jD b 1 _ _ _<|jD b 0 _ _ _ h)
theorem pvi(h:Rw w b #[x0,x1,x2,x3,x4,x5,x6,x7,x8,x9,x10,x11] t)(a c d:Value):Rw (((w.setCell (Ad b 3) a).setCell (Ad b 4) c).setCell (Ad b 5) d) b #[x0,x1,x2,a,c,d,x6,x7,x8,x9,x10,x11] t:=
 jD b 5 _ _ _ (jD b 4 _ _ _<|jD b 3 _ _ _ h)
theorem pve(h:Rw w b #[x0,x1,x2,x3,x4,x5,x6,x7,x8,x9,x10,x11] t)(a c d:Value):Rw (((w.setCell (Ad b 6) a).setCell (Ad b 7) c).setCell (Ad b 8) d) b #[x0,x1,x2,x3,x4,x5,a,c,d,x9,x10,x11] t:=
 jD b 8 _ _ _ (jD b 7 _ _ _<|jD b 6 _ _ _ h)
theorem pva(h:Rw w b #[x0,x1,x2,x3,x4,x5,x6,x7,x8,x9,x10,x11] t)(a c d:Value):Rw (((w.setCell (Ad b 9) a).setCell (Ad b 10) c).setCell (Ad b 11) d) b #[x0,x1,x2,x3,x4,x5,x6,x7,x8,a,c,d] t:=
 jD b 11 _ _ _ (jD b 10 _ _ _<|jD b 9 _ _ _ h)
theorem zvm(h:Rw w b #[x0,x1,x2,x3,x4,x5,x6,x7,x8,x9,x10,x11] t):Rw ((((((((((((w.setCell (Ad b 0) y0).setCell (Ad b 1) y1).setCell (Ad b 2) y2).setCell (Ad b 3) y3).setCell (Ad b 4) y4).setCell (Ad b 5) y5).setCell (Ad b 6) y6).setCell (Ad b 7) y7).setCell (Ad b 8) y8).setCell (Ad b 9) y9).setCell (Ad b 10) y10).setCell (Ad b 11) y11) b #[y0,y1,y2,y3,y4,y5,y6,y7,y8,y9,y10,y11] t:=
 pva (pve (pvi (pw0 h y0 y1 y2) y3 y4 y5) y6 y7 y8) y9 y10 y11
theorem Rd.zvm(h:Rd w R v L st)(d:∀g,v.ownBlock=some g->g<B)(hR:R<B)(hb:B<=b):Rd ((((((((((((w.setCell (Ad b 0) y0).setCell (Ad b 1) y1).setCell (Ad b 2) y2).setCell (Ad b 3) y3).setCell (Ad b 4) y4).setCell (Ad b 5) y5).setCell (Ad b 6) y6).setCell (Ad b 7) y7).setCell (Ad b 8) y8).setCell (Ad b 9) y9).setCell (Ad b 10) y10).setCell (Ad b 11) y11) R v L st:=
 ((((((((((((h.jm d hR (p:=⟨b,0,none⟩) hb y0).jm d hR (p:=⟨b,1,none⟩) hb y1).jm d hR (p:=⟨b,2,none⟩) hb y2).jm d hR (p:=⟨b,3,none⟩) hb y3).jm d hR (p:=⟨b,4,none⟩) hb y4).jm d hR (p:=⟨b,5,none⟩) hb y5).jm d hR (p:=⟨b,6,none⟩) hb y6).jm d hR (p:=⟨b,7,none⟩) hb y7).jm d hR (p:=⟨b,8,none⟩) hb y8).jm d hR (p:=⟨b,9,none⟩) hb y9).jm d hR (p:=⟨b,10,none⟩) hb y10).jm d hR (p:=⟨b,11,none⟩) hb y11)
theorem Kept.zvm(h:Kept R a w)(hb:a.heap.size<=b):Kept R a ((((((((((((w.setCell (Ad b 0) y0).setCell (Ad b 1) y1).setCell (Ad b 2) y2).setCell (Ad b 3) y3).setCell (Ad b 4) y4).setCell (Ad b 5) y5).setCell (Ad b 6) y6).setCell (Ad b 7) y7).setCell (Ad b 8) y8).setCell (Ad b 9) y9).setCell (Ad b 10) y10).setCell (Ad b 11) y11):=
 ((((((((((((h.jm (p:=⟨b,0,none⟩) hb y0).jm (p:=⟨b,1,none⟩) hb y1).jm (p:=⟨b,2,none⟩) hb y2).jm (p:=⟨b,3,none⟩) hb y3).jm (p:=⟨b,4,none⟩) hb y4).jm (p:=⟨b,5,none⟩) hb y5).jm (p:=⟨b,6,none⟩) hb y6).jm (p:=⟨b,7,none⟩) hb y7).jm (p:=⟨b,8,none⟩) hb y8).jm (p:=⟨b,9,none⟩) hb y9).jm (p:=⟨b,10,none⟩) hb y10).jm (p:=⟨b,11,none⟩) hb y11)
theorem jw5(h:Rd w R v L st):Calls prog 104 #[pT R] w (xx6 R v L w<|kyt L st):=by
 have hX:R<w.heap.size:=wQ h.rd;have V:=oz<|kq9 h.xu;go_in
 go_wp21;refine zM (kq1 mD<|h.below ((bR.alloc jV _).alloc ay _)) ?_;rintro w1 ⟨H1,aK⟩;have b7:=(aK.block (w.heap.size+1) ay aj).trans<|heap_alloc_new' (w:=w.alloc _) (b:=w.heap.size+1) ay;have b2:=(aK.block w.heap.size ah aj).trans<|(tC (w.alloc _) _ w.heap.size ay).trans (Xk w _);have b9:=(((Kept.refl R w).alloc _).alloc _).trans aK;have⟨aV,aS⟩:=jS b7 b2;clear b7 b2;generalize b3:qg L mD st=s1 at H1;have E1:=oz b3;clear b3;go_wp21
 refine zM (kxu mX H1 rfl) ?_;rintro w2 ⟨H2,aL⟩;have aP:=(aL.block (w.heap.size+1) (wQ aV) aj).trans aV;have aT:=oz<|(aL.block w.heap.size (wQ aS) aj).trans aS;have bA:=b9.trans aL;have aW:=oz aP;have ⟨E,d1,d2,d3,d4,d5,d6,d7,d8,d9,d10,d11,e0,F,G,e3,H,e5,I,e7,e8,e9,p,q⟩:=qwy aP;clear aP;generalize hk:zq L mX s1=k at H2 |-;have E2:=oz hk;clear hk;unfold kxt;go_wp21
 refine zM (kq1 [58]<|H2.qwv V hX ay) ?_;rintro w3 ⟨H3,aM⟩;have⟨aX,aU⟩:=jS ((aM.block (w.heap.size+1) (by simpa using wQ aW) aj).trans<|pw0 aW _ _ _) ((aM.block w.heap.size (by simpa using wQ aT) aj).trans<|(hsC ay).trans ((hsC ay).trans<|(hsC ay).trans aT));have bB:=(bA.qwv (b:=w.heap.size+1) ay).trans aM;clear E d1 d2 d3 d4 d5 d6 d7 d8 d9 d10 d11 e0 F G e3 H e5 I e7 e8 e9 p q;generalize b4:qg L [58] k.2=s3 at H3;have E3:=oz b4;clear b4;go_wp21;refine zM (kjg [91] H3) ?_;rintro w4 ⟨H4,aN⟩;have a1:=oz<|(aN.block (w.heap.size+1) (wQ aX) aj).trans aX;have Z:=oz<|(aN.block w.heap.size (wQ aU) aj).trans aU;have aD:=bB.trans aN;cases aZ:zk L [91] s3;case' false=>
  have E4:=oz (by simp[kjn,aZ]:kjn L s3=(zh,s3));have ⟨N,aO⟩:=cpy w4;rw[<-aO];rw[<-aO]at a1 H4 Z aD;clear aO;obtain⟨o,(a6:Hid _)⟩:∃o:Tok×RS,o=(zh,s3):=⟨_,rfl⟩;have K:=oz (show N.heap[w.heap.size+1]?=some (.cells #[.string k.1.t,.string k.1.x,.int .i64 k.1.v,.string o.1.t,.string o.1.x,.int .i64 o.1.v,.string ⟨#[]⟩,.string ⟨#[]⟩,.int .i64 0,.string ⟨#[]⟩,.string ⟨#[]⟩,.int .i64 0] 222 (0,0)) by rw[a6];exact a1);have O:=show Rd N R v L o.2 by rw[a6];exact H4
  have aG:=Z;have aE:=aD;rw[<-a6]at E4
 case' true=>
  have E4:=oz (by simp[kjn,aZ]:kjn L s3=((zq L mX<|qg L [91] s3).1,qg L [93] (zq L mX<|qg L [91] s3).2));go_wp21;refine zM (kq1 [91] H4) ?_;rintro bS ⟨aQ,X⟩;have W:=oz<|(X.block (w.heap.size+1) (wQ a1) aj).trans a1;have S:=oz<|(X.block w.heap.size (wQ Z) aj).trans Z;have aB:=aD.trans X;go_wp21
  refine zM (kxu mX aQ rfl) ?_;rintro bT ⟨a8,Y⟩;have D:=oz<|(Y.block (w.heap.size+1) (wQ W) aj).trans W;have T:=oz<|(Y.block w.heap.size (wQ S) aj).trans S;have aC:=aB.trans Y;have ⟨E,d1,d2,d3,d4,d5,d6,d7,d8,d9,d10,d11,e0,F,G,e3,H,e5,I,e7,e8,e9,p,q⟩:=qwy D;clear aB aQ W S;generalize b8:zq L mX (qg L [91] s3)=ov at a8 E4 |-;unfold kxt;go_wp21
  refine zM (kq1 [93]<|a8.qwv V hX ay) ?_;rintro N ⟨h5,a3⟩;obtain⟨o,ho⟩:∃o:Tok×RS,o=(ov.1,qg L [93] ov.2):=⟨_,rfl⟩;have bF:=(a3.block (w.heap.size+1) (by simpa using wQ D) aj).trans<|pvi D _ _ _;have⟨K,O,aG,aE⟩:=jE (by simp_all:N.heap[w.heap.size+1]?=some (.cells #[.string k.1.t,.string k.1.x,.int .i64 k.1.v,.string o.1.t,.string o.1.x,.int .i64 o.1.v,.string ⟨#[]⟩,.string ⟨#[]⟩,.int .i64 0,.string ⟨#[]⟩,.string ⟨#[]⟩,.int .i64 0] 222 (0,0))) (show Rd N R v L o.2 by simp_all) ((a3.block w.heap.size (by simpa using wQ T) aj).trans<|(hsC ay).trans ((hsC ay).trans<|(hsC ay).trans T)) ((aC.qwv (b:=w.heap.size+1) ay).trans a3);rw[<-ho]at E4;have a6:=oz ho;clear ho h5 a3 bF D a8 T aC b8 E d1 d2 d3 d4 d5 d6 d7 d8 d9 d10 d11 e0 F G e3 H e5 I e7 e8 e9 p q
 all_goals
  have ⟨c0,c1,c2,c3,f0,f1,f2,f3⟩:=row4 O.rd;have ⟨gb,cap,hv,hg,bN,bL,t0,t1,t2⟩:=O.open;rw[hv]at c0;have bO:gb<w.heap.size:=ku V gb (by rw[hv];rfl);have bK:=O.lt;have bJ:=O.T;have ⟨E,d1,d2,d3,d4,d5,d6,d7,d8,d9,d10,d11,e0,F,G,e3,H,e5,I,e7,e8,e9,p,q⟩:=qwy K;have bP:=wQ K;clear hv;generalize b6:tk L o.2.v=ty at t0 t1 t2;have E6:=oz b6;clear b6;go_wp2;go_region
  have⟨a2,a0,aF,H6⟩:=jE (show((((N.setCell ⟨w.heap.size+1,6,none⟩<|.string ty.t).setCell ⟨w.heap.size+1,7,none⟩<|.string ty.x).setCell ⟨w.heap.size+1,8,none⟩<|.int .i64 ty.v).drew).heap[w.heap.size+1]?=_ from pve K _ _ _) (show((((N.setCell ⟨w.heap.size+1,6,none⟩<|.string ty.t).setCell ⟨w.heap.size+1,7,none⟩<|.string ty.x).setCell ⟨w.heap.size+1,8,none⟩<|.int .i64 ty.v).drew).heap[w.heap.size]?=_ from(hsC ay).trans ((hsC ay).trans<|(hsC ay).trans aG)) ((aE.qwv (b:=w.heap.size+1) (i:=6) (j:=7) (k:=8) (x:=.string ty.t) (y:=.string ty.x) (z:=.int .i64 ty.v) ay).drew) ((O.qwv (b:=w.heap.size+1) (i:=6) (j:=7) (k:=8) (x:=.string ty.t) (y:=.string ty.x) (z:=.int .i64 ty.v) V hX ay).below (bR.drew));clear c0 c1 c2 c3 f0 f1 f2 f3 t0 t1 t2 E d1 d2 d3 d4 d5 d6 d7 d8 d9 d10 d11 e0 F G e3 H e5 I e7 e8 e9 p q K aG aE O;generalize ((((N.setCell ⟨w.heap.size+1,6,none⟩<|.string ty.t).setCell ⟨w.heap.size+1,7,none⟩<|.string ty.x).setCell ⟨w.heap.size+1,8,none⟩<|.int .i64 ty.v).drew)=w6 at a2 a0 aF H6 |-;go_wp21
  refine zM (kjg nP H6) ?_;rintro w7 ⟨h7,a4⟩;have⟨aI,aH,aR,H7⟩:=jE ((a4.block (w.heap.size+1) (wQ a2) aj).trans a2) ((a4.block w.heap.size (wQ a0) aj).trans a0) (aF.trans a4) h7;clear h7 a4 aF H6 a2 a0;go_wp21;refine zM (kjg nD H7) ?_;rintro w8 ⟨h8,a5⟩;have⟨m,l,A,H8⟩:=jE ((a5.block (w.heap.size+1) (wQ aI) aj).trans aI) ((a5.block w.heap.size (wQ aH) aj).trans aH) (aR.trans a5) h8;clear h8 a5 aR H7 aI aH;cases aJ:zk L nP o.2;case' false=>
   cases b5:zk L nD o.2;case' true=>
    have E5:=oz (by simp[kku,aJ,b5]:kku L o.2=zq L mW (qg L nD o.2));go_wp21;refine zM (kq1 nD H8) ?_;rintro w9 ⟨h9,d⟩;have⟨t,s,B,H9⟩:=jE ((d.block (w.heap.size+1) (wQ m) aj).trans m) ((d.block w.heap.size (wQ l) aj).trans l) (A.trans d) h9;clear h9 d A H8 m l;go_wp21;refine zM (kxu mW H9 rfl) ?_;rintro bQ ⟨aY,J⟩;have⟨C,Q,aA,a7⟩:=jE ((J.block (w.heap.size+1) (wQ t) aj).trans t) ((J.block w.heap.size (wQ s) aj).trans s) (B.trans J) aY;have ⟨E,d1,d2,d3,d4,d5,d6,d7,d8,d9,d10,d11,e0,F,G,e3,H,e5,I,e7,e8,e9,p,q⟩:=qwy C;clear aY J B H9 t s;generalize bM:zq L mW (qg L nD o.2)=dg at a7 E5 |-;unfold kxt;go_wp21
    refine zM (kq1 [59]<|a7.qwv V hX ay) ?_;rintro bI ⟨M,f⟩;have u:=(f.block (w.heap.size+1) (by simpa using wQ C) aj).trans<|pva C _ _ _;have g:=(f.block w.heap.size (by simpa using wQ Q) aj).trans<|(hsC ay).trans ((hsC ay).trans<|(hsC ay).trans Q);have⟨P,a9,U⟩:=jF ((aA.qwv (b:=w.heap.size+1) ay).trans f) M g;clear E d1 d2 d3 d4 d5 d6 d7 d8 d9 d10 d11 e0 F G e3 H e5 I e7 e8 e9 p q;have ⟨E,d1,d2,d3,d4,d5,d6,d7,d8,d9,d10,d11,e0,F,G,e3,H,e5,I,e7,e8,e9,p,q⟩:=qwy u;have ⟨g0,g1,g2,g3,g4,g5,g6,g7,g8,g9,bC,bD,m0,m1,m2,m3,m4,m5,m6,m7,m8,m9,bG,bH⟩:=qwy g;have HE:=oz<|pqj E1 E2 E3 E4 E5;rw[ku E6]at HE;clear M f u g aA a7 C Q;go_wp2
    refine kx0 results104 underlying222 (zvm U) ?_;rw[ku HE];exact⟨rfl,a9.zvm V hX<|jV,P.zvm<|jV⟩
   case' false=>
    have E5:=oz (by simp[kku,aJ,b5]:kku L o.2=(zh,(zq L mX o.2).2));go_wp21;refine zM (kxu mX H8 rfl) ?_;rintro w9 ⟨h9,d⟩;have⟨t,s,B,H9⟩:=jE ((d.block (w.heap.size+1) (wQ m) aj).trans m) ((d.block w.heap.size (wQ l) aj).trans l) (A.trans d) h9;clear h9 d A H8 m l
  case' true=>
   have E5:=oz (by simp[kku,aJ]:kku L o.2=(zh,qg L nP o.2));go_wp21;refine zM (kq1 nP H8) ?_;rintro w9 ⟨h9,d⟩;have⟨t,s,B,H9⟩:=jE ((d.block (w.heap.size+1) (wQ m) aj).trans m) ((d.block w.heap.size (wQ l) aj).trans l) (A.trans d) h9;clear h9 d A H8 m l
  all_goals
   go_wp21;refine zM (kq1 [59] H9) ?_;rintro bI ⟨M,f⟩;have u:=(f.block (w.heap.size+1) (wQ t) aj).trans t;have g:=(f.block w.heap.size (wQ s) aj).trans s;have⟨P,a9,U⟩:=jF (B.trans f) M g;have ⟨E,d1,d2,d3,d4,d5,d6,d7,d8,d9,d10,d11,e0,F,G,e3,H,e5,I,e7,e8,e9,p,q⟩:=qwy u;have ⟨g0,g1,g2,g3,g4,g5,g6,g7,g8,g9,bC,bD,m0,m1,m2,m3,m4,m5,m6,m7,m8,m9,bG,bH⟩:=qwy g;have HE:=oz<|pqj E1 E2 E3 E4 E5;rw[ku E6]at HE;clear M f u g B H9 t s;go_wp2
   refine kx0 results104 underlying222 (zvm U) ?_;rw[ku HE];exact⟨rfl,a9.zvm V hX<|jV,P.zvm<|jV⟩
structure PSet where
 y:Tok
 size:Tok
def kwz(s:PSet):List Value:=ji s.y++ji s.size
def kwj(l:List PSet):List Value:=l.flatMap kwz
theorem jqj(l:List PSet)(p:PSet):kwj (l++[p])=kwj l++kwz p:=by simp[kwj]
def kvc(L:List Tok)(st:RS):PSet×RS:=
 (⟨(zq L mX<|qg L ni st).1,(zq L mW (zq L mX<|qg L ni st).2).1⟩,
  qg L [59] (zq L mW (zq L mX<|qg L ni st).2).2)
def kyx:Nat->List Tok->List PSet->RS->List PSet×RS
 |0,_,l,st=>(l,st)
 |f+1,L,l,st=>if zk L ni st then kyx f L (l++[(kvc L st).1]) (kvc L st).2 else (l,st)
structure PKind where
 y:Tok
 i:List Tok
def kxz(L:List Tok)(st:RS):PKind×RS:=
 (⟨(zq L mX<|qg L ny st).1,(kkr L (zq L mX<|qg L ny st).2).1⟩,(kkr L (zq L mX<|qg L ny st).2).2)
def qqe:Nat->List Tok->List PKind->RS->List PKind×RS
 |0,_,l,st=>(l,st)
 |f+1,L,l,st=>if zk L ny st then qqe f L (l++[(kxz L st).1]) (kxz L st).2 else (l,st)
theorem qvj(h:zk L l st=true)(d:opens l=false):(qg L l st).v=st.v+1:=by grind [qg]
theorem jqd(h:zk L ni st=true):st.v+1<=(kvc L st).2.v:=by have h1:=qvj h rfl;have d:=kj1 L mX<|qg L ni st;have e:=kj1 L mW (zq L mX<|qg L ni st).2;have f:=yh L [59] (zq L mW (zq L mX<|qg L ni st).2).2;show st.v+1<=(qg L [59] (zq L mW (zq L mX<|qg L ni st).2).2).v;omega
theorem kv1{a8:Bool}(hb:oq w w')(d:p.block<w.heap.size)(h:w.frozen? p=a8):w'.frozen? p=a8:=(hb.frozen d).trans h
theorem Kept.toBelow(h:Kept R w w')(d:B<=R)(f:B<=w.heap.size):Below B w w':=
 ⟨h.os,h.tape,h.output,h.size,λk e=>h.block k aj aj⟩
def vyy(B R T:Nat)(w:World)(v:Value)(L:List Tok)(fin:List PSet×RS)(m:Value)(wr:World):Prop:=
 ∃(l:List PSet)(st:RS)(g:Nat)(x:Value),m=.bool (zk L ni st)/\wr.heap[T]?=some (.cells #[x,nS,nS,nS,nS] 157 (0,0)) /\
  wr.ownsRow (T+1) 231 6 x l.length (kwj l)/\Rd wr R v L st/\Below B w wr/\kyx g L l st=fin/\L.length-st.v+1<=g/\l.length<=st.v
theorem kqx(h:w.ownsRow lo B P u f xs)(hv:w.ownsRow base R size v n zs)(i:B≠R)(d:w.grownBy w' v.ownBlock):w'.ownsRow lo B P u f xs:=by
 refine h.kept d ?_;cases e:u.ownBlock with
 |none=>simp
 |some j=>
  refine .inr λl=>?_
  obtain⟨rfl,_⟩|⟨g,cap,cur,rfl,_,k,_⟩:=h.2
  ·simp[Value.ownBlock]at e
  grind [Value.ownBlock,not_row]
def kjt(lo:Nat)(w:World):List PKind->List Value->Prop
 |[],xs=>xs=[]
 |k::ks,xs=>∃vm ys,xs=ji k.y++(vm::ys)/\w.ownsRow lo 142 3 vm k.i.length (uw k.i)/\kjt lo w ks ys
theorem kjt.stay(d:∀k,lo<=k->k<w.heap.size->w'.heap[k]?=w.heap[k]?):∀{ks:List PKind}{xs:List Value},kjt lo w ks xs->kjt lo w' ks xs
 |[],_,h=>h
 |k::ks,xs,⟨vm,ys,e,h1,h2⟩=>⟨vm,ys,e,xg d h1,kjt.stay d h2⟩
theorem kjt.kept{a9:List PKind}(h:kjt lo w a9 xs)(e:Kept R w w')(hR:R<lo):kjt lo w' a9 xs:=h.stay λk h1 d=>e.block k d aj
theorem kjt.snoc{k:PKind}(d:w.ownsRow lo 142 3 x0 k.i.length (uw k.i)):∀{ks:List PKind}{xs:List Value},kjt lo w ks xs->kjt lo w (ks++[k]) (xs++(ji k.y++[x0]))
 |[],xs,h=>by
  have:xs=[]:=h;subst this;exact⟨x0,[],rfl,d,rfl⟩
 |k'::ks,xs,⟨v,ys,e,h1,h2⟩=>⟨v,ys++(ji k.y++[x0]),by simp_all,h1,kjt.snoc d h2⟩
theorem kjt.grown(hv:w.ownsRow base P size v n zs)(d:142≠P)(e:w.grownBy w' v.ownBlock):∀{ks:List PKind}{xs:List Value},kjt lo w ks xs->kjt lo w' ks xs
 |[],_,h=>h
 |k::ks,xs,⟨vm,ys,e1,h1,h2⟩=>⟨vm,ys,e1,kqx h1 hv d e,kjt.grown hv d e h2⟩
theorem infoKind:(prog.info? 234).map (λi=>(i.zero,i.size,i.bytes))=some (some (.agg #[e_,e_,i_ 0,nS]),4,64):=au
theorem xjh(h:Rw w b #[x0,x1,x2,x3] t):Rw (puts b [v,x4,d] 0 w) b #[v,x4,d,x3] t:=zju h
def vyd(B R T:Nat)(w:World)(v:Value)(L:List Tok)(sets:List PSet)(fin:List PKind×RS)(m:Value)(wr:World):Prop:=
 ∃(l:List PKind)(st:RS)(g:Nat)(x0 x:Value)(xs:List Value),m=.bool (zk L ny st)/\wr.heap[T]?=some (.cells #[x0,x,nS,nS,nS] 157 (0,0)) /\
  wr.ownsRow (T+1) 231 6 x0 sets.length (kwj sets)/\wr.ownsRow (T+1) 234 4 x l.length xs/\kjt (T+1) wr l xs/\Rd wr R v L st/\Below B w wr/\qqe g L l st=fin/\L.length-st.v+1<=g/\l.length<=st.v
def kzb(L:List Tok)(st:RS):List PSet×List PKind×RS:=
 ((kyx (kq2 L) L [] st).1,qqe (kq2 L) L [] (kyx (kq2 L) L [] st).2)
def pkz(B R T:Nat)(v:Value)(L:List Tok)(w:World)(r:List PSet×List PKind×RS)(e:Ending)(w':World):Prop:=
 rT e (.tuple #[])/\∃x0 x1 ys,w'.heap[T]?=some (.cells #[x0,x1,nS,nS,nS] 157 (0,0))/\w'.ownsRow (T+1) 231 6 x0 r.1.length (kwj r.1) /\
  w'.ownsRow (T+1) 234 4 x1 r.2.1.length ys/\kjt (T+1) w' r.2.1 ys/\Rd w' R v L r.2.2/\Below B w w'/\r.1.length<=801/\r.2.1.length<=801
theorem jxq(L:List Tok)(st:RS):st.v<=(kkr L st).2.v:=by
 have h:∀(f:Nat)(l:List Tok)(s:RS),s.v<=(kkn f L l s).2.v:=by
  intro f;induction f with
  |zero=>intro l s;exact jV
  |succ f ih=>
   grind [kkn,kj1,yh]
 exact rP (yh L [123] st)<|rP (h _ _ _) (yh L [125] _)
theorem zvs(h:zk L ny st=true):st.v+1<=(kxz L st).2.v:=by have h1:=qvj h rfl;have d:=kj1 L mX<|qg L ny st;have e:=jxq L (zq L mX<|qg L ny st).2;show st.v+1<=(kkr L (zq L mX<|qg L ny st).2).2.v;omega
theorem pxu(T:Nat)(h:Rd w R v L st)(A:B<=R)(b6:R<T)(hV:∀g,v.ownBlock=some g->g<B)(hT:Rw w T #[nS,nS,nS,nS,nS] 157):Calls prog 102 #[pT R,pT T] w (pkz B R T v L w<|kzb L st):=by
 have ⟨i1,hj,cZ,d1,d2⟩:=info_parts infoKind;have HV:=oz hV;have cE:=wQ hT;go_in;go_wp21;refine zM (kjg ni h) ?_;rintro w1 ⟨h1,b9⟩;have HR:=show vyy B R T w v L (kyx (kq2 L) L [] st) (.bool<|zk L ni st) w1 from
  ⟨[],st,kq2 L,.slice none 0 0,rfl,(b9.block T cE aj).trans hT,oN,h1,b9.toBelow A aj,rfl,by unfold kq2;omega,jG⟩
 clear hV hT;go_wp2;go_loopw [4] (λm wr=>vyy B R T w v L (kyx (kq2 L) L [] st) m wr) (λ_ wr=>L.length-kk4 wr R);exact HR;obtain⟨l,P,g,x,rfl,(V:Hid _),U,H2,S,(HF:Hid _),cF,cX⟩:=hrel;have bL:=H2.lt;have cO:=H2.T;have aA:=wQ H2.rd;have aD:=wQ V;have cB:=S.size;cases hn:zk L ni P
 ·obtain⟨g,rfl⟩:=qqy g;have i:=ku HF;rw[kyx,hn]at i;simp only[ru,Xv]at i;have HF:=oz i;have cG:l.length<=801:=aj;clear i cF;go_wp21;refine zM (kjg ny H2) ?_;rintro w3 ⟨h3,y⟩;have bS:=show vyd B R T w v L l (qqe (kq2 L) L [] P) (.bool<|zk L ny P) w3 from
   ⟨[],P,kq2 L,x,.slice none 0 0,[],rfl,(y.block T aD aj).trans V,jr U y aj,oN,rfl,h3,S.trans<|y.toBelow A aj,rfl,by unfold kq2;omega,jG⟩
  go_wp2;go_loopw [6] (λm wr=>vyd B R T w v L l (qqe (kq2 L) L [] P) m wr) (λ_ wr=>L.length-kk4 wr R);exact bS;clear aD aA cB bL;obtain⟨G,s5,g5,x0,x1,xs,rfl,(V:Hid _),aX,U,aW,D,S,(aV:Hid _),cN,cW⟩:=hrel;have cP:=D.lt;have cI:=D.T;have b5:=wQ D.rd;have cD:=wQ V;have cK:=S.size;cases aK:zk L ny s5
  ·obtain⟨g5,rfl⟩:=qqy g5;have i:=ku aV;rw[qqe,aK]at i;simp only[ru,Xv]at i;have a3:=oz i;clear i;go_wp2;go_end0;have e1:=ku HF;have e2:=ku a3;have e3:kzb L st=(l,G,s5):=by grind [kzb]
   rw[e3];exact⟨rfl,x0,x1,xs,V,aX,U,aW,D,S,cG,by grind⟩
  ·obtain⟨g5,rfl⟩:=qqy g5;have i:=ku aV;rw[qqe,lJ aK]at i;have a3:=oz i;clear i;have F:=zvs aK;have⟨K,J⟩:=jS (show ∀g,v.ownBlock=some g->g<wr.heap.size from λg t=>qQ) (kq9 U);go_wp21;refine zM (kq1 ny<|D.below (jZ _)) ?_;rintro w6 ⟨H6,C⟩;have a8:=oz<|(C.block wr.heap.size ay aj).trans (Xk wr _);have I:=((Kept.refl R wr).alloc _).trans C;go_wp21
   refine zM (kxu mX H6 rfl) ?_;rintro w7 ⟨H7,bA⟩;have aP:=(bA.block wr.heap.size (wQ a8) aj).trans a8;have E:=row4 aP;have a9:=oz aP;have bQ:=I.trans bA;clear aP;generalize W:zq L mX (qg L ny s5)=k at H7 |-;have E1:=oz W;clear W;unfold kxt;go_wp21
   refine(vz7<|H7.qwv K b5 jV).mono ?_;rintro e w8 ⟨vm,rfl,bF,H8,bB,cY⟩;have aQ:=(bB.block wr.heap.size (by simpa using wQ a9) aj).trans<|xjh a9;have cC:=(bQ.qwv (b:=wr.heap.size)<|jV).trans bB;have cS:=wQ a9;have a6:=qo (lo':=wr.heap.size+1) ah bF;clear E;have E:=row4 aQ;obtain⟨ma,q,mc,rfl⟩:=qh bF;generalize bD:kkr L k.2=M at a6 H8;have E2:=oz bD;have bC:(Value.slice ma q mc).ownBlock≠some wr.heap.size:=λe=>by have:=jo a6 _ e;omega
   have a1:=Xx w8 wr.heap.size 3 _ _ (.slice ma q mc) aQ;have s:=cC.jm (p:=⟨wr.heap.size,3,none⟩) jV<|.slice ma q mc;have H9:=H8.jm K b5 (p:=⟨wr.heap.size,3,none⟩) jV<|.slice ma q mc;have a7:=ownsRow_setCell_other a6 (a:=⟨wr.heap.size,3,none⟩) bC<|.slice ma q mc;clear bD;go_wp2
   generalize w8.setCell ⟨wr.heap.size,3,none⟩ (.slice ma q mc)=H at a1 s H9 a7 |-;clear E;have E:=row4 a1;have Z:=(s.block T cD aj).trans V;have ⟨q0,q1,q2,q3,q4,r0,r1,r2,r3,r4⟩:=kzk Z;have aF:=wQ Z;have cT:=wQ a1;have d4:=s.size;have bZ:=oz Z;have X:=jr U s aj;have bI:=jr aX s aj;have bH:=aW.kept s aj;have z:x1.ownBlock≠some T:=λe=>by have:=jo X T e;omega
   have cH:x1.ownBlock≠some wr.heap.size:=λe=>by have:=ku J _ e;omega
   clear aQ a1 Z bC;go_region_law ((refine apL (news:=(ji k.1++[Value.slice ma q mc])) ((X.alloc _).drew) (Xk H _) ?_;intro gg cap Q aL f aG cJ;have cM:Q.frozen? ⟨T,1,none⟩=false:=(f.frozen_far _ ah<|Ne.symm z).trans<|kv1 (jy _) aF r1;have cL:Q.cell? ⟨T,1,none⟩=some x1:=(f.cell_far _ ah<|Ne.symm z).trans<|wU (jy _) q1))
   all_goals
    have N:=jo X;have cA:=(H9.below<|jy _).grown f N (λg t=>qQ) aj;have bM:=cA.jm (B:=T) (λg t=>qQ) b6 (p:=⟨T,1,none⟩) jV<|.slice (some ⟨gg,0,none⟩) (G.length+1) cap;have aB:=(f.block T ah<|Ne.symm z).trans<|(tC H _ T aF).trans bZ;have aC:=Xx Q T 1 _ _ (.slice (some ⟨gg,0,none⟩) (G.length+1) cap) aB;have bJ:=ownsRow_setCell_below aL (a:=⟨T,1,none⟩) ay<|.slice (some ⟨gg,0,none⟩) (G.length+1) cap;have aM:=(X.alloc<|.cells (ji k.1++[Value.slice ma q mc]).toArray 234).drew;have aS:=ownsRow_setCell_below (kqx (xg (w':=(H.alloc<|.cells (ji k.1++[Value.slice ma q mc]).toArray 234).drew) (λj _ hj=>tC H _ j hj) bI) aM ak f) (a:=⟨T,1,none⟩) ay<|.slice (some ⟨gg,0,none⟩) (G.length+1) cap;have aR:=((((bH.snoc (k:=⟨k.1,M.1⟩)<|qo aj a7).stay (w':=(H.alloc<|.cells (ji k.1++[Value.slice ma q mc]).toArray 234).drew)<|λj _ hj=>tC H (.cells (ji k.1++[Value.slice ma q mc]).toArray 234) j hj).grown aM ak f).stay (w':=Q.setCell ⟨T,1,none⟩<|.slice (some ⟨gg,0,none⟩) (G.length+1) cap)<|λj hj _=>hsC<|by grind);have a2:Below B w (Q.setCell ⟨T,1,none⟩<|.slice (some ⟨gg,0,none⟩) (G.length+1) cap):=
     ((((S.trans<|s.toBelow A aj).alloc aj _).drew).grown f ah<|λk W=>by grind).setCell (by grind) _
    have a5:=oz aC;clear aB aC N aG;go_wp21;refine zM (kjg ny bM) ?_;rintro bG ⟨b4,u⟩;have O:kxz L s5=(⟨k.1,M.1⟩,M.2):=by unfold kxz;rw[ku E1,ku E2]
    have i:=ku a3;rw[O]at i F;have bK:=show vyd B R T w v L l (qqe (kq2 L) L [] P) (.bool<|zk L ny M.2) bG from
     ⟨G++[⟨k.1,M.1⟩],M.2,g5,x0,.slice (some ⟨gg,0,none⟩) (G.length+1) cap,xs++(ji k.1++[Value.slice ma q mc]),rfl,(u.block T (by simpa using wQ a5) aj).trans a5,jr aS u aj,
      by rw[rD];exact jr bJ u aj,aR.kept u aj,b4,a2.trans (u.toBelow A (by have:=a2.size;omega)),i,by grind,by grind⟩
    have HM:=oz (by rw[b4.kk4,(ku D).kk4];grind:L.length-kk4 bG R<L.length-kk4 wr R);clear O i;go_wp2;exact⟨bK,HM⟩
 ·obtain⟨g,rfl⟩:=qqy g;have i:=ku HF;rw[kyx,lJ hn]at i;have HF:=oz i;clear i;have F:=jqd hn;have⟨K,J⟩:=jS (show ∀g,v.ownBlock=some g->g<wr.heap.size from λg t=>qQ) (kq9 U);go_wp21;refine zM (kq1 ni<|H2.below (jZ _)) ?_;rintro w3 ⟨H3,y⟩;have aZ:=oz<|(y.block wr.heap.size ay aj).trans (Xk wr _);have bN:=((Kept.refl R wr).alloc _).trans y;have bT:=jr (U.alloc _) y aj;go_wp21
  refine zM (kxu mX H3 rfl) ?_;rintro w4 ⟨H4,aH⟩;have aN:=(aH.block wr.heap.size (wQ aZ) aj).trans aZ;have E:=kzh aN;have b2:=oz aN;have bO:=bN.trans aH;have bU:=jr bT aH aj;clear aN;generalize W:zq L mX (qg L ni P)=k at H4 |-;have E1:=oz W;clear W;unfold kxt;go_wp21
  refine zM (kxu mW (H4.qwv K aA<|jV) rfl) ?_;rintro w5 ⟨D,aI⟩;have aO:=(aI.block wr.heap.size (by simpa using wQ b2) aj).trans<|pvf b2;have bP:=(bO.qwv (b:=wr.heap.size)<|jV).trans aI;have bV:=jr (zkp bU J<|jV) aI aj;clear E;have E:=kzh aO;have b3:=oz aO;clear aO;generalize hd:zq L mW k.2=d at D |-;have E2:=oz hd;clear hd;unfold kxt;go_wp21
  refine zM (kq1 [59]<|D.qwv K aA jV) ?_;rintro w6 ⟨H6,C⟩;have a0:=(C.block wr.heap.size (by simpa using wQ b3) aj).trans<|xxw b3;have I:=(bP.qwv (b:=wr.heap.size)<|jV).trans C;have a4:=jr (zkp bV J<|jV) C aj;have Y:=(I.block T aD aj).trans V;clear E;have E:=kzh a0;have ⟨q0,q1,q2,q3,q4,r0,r1,r2,r3,r4⟩:=kzk Y;have d3:=I.size;have cR:=wQ a0;have aE:=wQ Y;have z:x.ownBlock≠some T:=λe=>by have:=jo a4 T e;omega
  have cH:x.ownBlock≠some wr.heap.size:=λe=>by have:=ku J _ e;omega
  have⟨a8,bY⟩:=jS a0 Y;clear a0 Y;go_wp2;go_region_law ((refine apL (news:=(kwz ⟨k.1,d.1⟩)) ((a4.alloc _).drew) (Xk w6 _) ?_;intro gg cap w7 aT f aG cQ;have cV:w7.frozen? ⟨T,0,none⟩=false:=(f.frozen_far _ ah<|Ne.symm z).trans<|kv1 (jy _) aE r0;have cU:w7.cell? ⟨T,0,none⟩=some x:=(f.cell_far _ ah<|Ne.symm z).trans<|wU (jy _) q0))
  all_goals
   have N:=jo a4;have h7:=(H6.below<|jy _).grown f N (λg t=>qQ) aj;have H8:=h7.jm (B:=T) (λg t=>qQ) b6 (p:=⟨T,0,none⟩) jV<|.slice (some ⟨gg,0,none⟩) (l.length+1) cap;have b7:=(f.block T ah<|Ne.symm z).trans<|(tC w6 _ T aE).trans bY;have b8:=Xx w7 T 0 _ _ (.slice (some ⟨gg,0,none⟩) (l.length+1) cap) b7;have bW:=ownsRow_setCell_below aT (a:=⟨T,0,none⟩) ay<|.slice (some ⟨gg,0,none⟩) (l.length+1) cap;have aU:Below B w (w7.setCell ⟨T,0,none⟩<|.slice (some ⟨gg,0,none⟩) (l.length+1) cap):=
    ((((S.trans<|I.toBelow A aj).alloc aj _).drew).grown f ah<|λk W=>by grind).setCell (by grind) _
   have aY:=oz b8;clear b7 b8 N aG;go_wp21;refine zM (kjg ni H8) ?_;rintro H ⟨h9,aJ⟩;have O:kvc L P=(⟨k.1,d.1⟩,qg L [59] d.2):=by unfold kvc;rw[ku E1,ku E2]
   have i:=ku HF;rw[O]at i F;have bX:=show vyy B R T w v L (kyx (kq2 L) L [] st) (.bool<|zk L ni (qg L [59] d.2)) H from
    ⟨l++[⟨k.1,d.1⟩],qg L [59] d.2,g,.slice (some ⟨gg,0,none⟩) (l.length+1) cap,rfl,(aJ.block T (by simpa using wQ aY) aj).trans aY,
     by rw[jqj,rD];exact jr bW aJ aj,h9,aU.trans (aJ.toBelow A (by have:=aU.size;omega)),i,by grind,by grind⟩
   have HM:=oz (by rw[h9.kk4,(ku H2).kk4];grind:L.length-kk4 H R<L.length-kk4 wr R);clear O i;go_wp2;exact⟨bX,HM⟩
theorem Kept.e(d:Kept P w w')(hb:b≠P)(h:w.heap[b]?=some o):w'.heap[b]?=some o:=(d.block b (wQ h) hb).trans h
theorem zy{b2:Obj}(h:w.heap[b]?=some o):(w.alloc b2).heap[b]?=some o:=(jR<|wQ h).trans h
theorem qy:(w.alloc o).heap[w.heap.size]?=some o:=Xk w o
theorem Kept.kqe(o:Obj):Kept P w (w.alloc o):=(Kept.refl _ _).alloc _
theorem Pd.alloc(h:Pd w P v L st)(o:Obj):Pd (w.alloc o) P v L st:=h.below<|jZ _
theorem Pd.kq9(h:Pd w P v L st):∀g,v.ownBlock=some g->g<w.heap.size:=Go.Proofs.YtpmcnonmkghokaaGreatDoor.kq9 h.xu
theorem Pd.set2(h:Pd w P v L st)(d:∀g,v.ownBlock=some g->g<B)(e:P<B){b3:Addr}(f:B<=p.block)(i:B<=b3.block)(a b:Value):Pd ((w.setCell p a).setCell b3 b) P v L st:=
 (h.setOther d e f a).setOther d e i b
def sqT(L:List Tok)(st:RS):Tok×RS:=zq L mX (qg L [91] st)
theorem zxv(h:Pd w P v L st):Calls prog 207 #[pT P] w λe w'=>rT e (ptV (sqT L st).1)/\Pd w' P v L (qg L [93] (sqT L st).2)/\Kept P w w':=by
 have s:=h.in;go_in;go_wp21;refine zM (qwr [91] ak rfl<|h.alloc _) ?_;rintro y ⟨l,g⟩;go_wp21;refine zM (kxs l) ?_;rintro t ⟨p,j⟩;have m:=show sqT L st=zq L mX (qg L [91] st) from rfl
 generalize zq L mX (qg L [91] st)=i at *;have f:=j.e aj<|g.e (b:=w.heap.size) aj (qy);have u:=wQ f;unfold ptV;go_wp21
 refine zM (qxi [93] ak rfl rfl<|p.alloc _) ?_;rintro w3 ⟨q,d⟩;have k:=d.e aj<|zy f;have x:=kj6 k;have g0:=kj6<|d.e (b:=t.heap.size) aj (qy);go_wp2
 refine kx0 results207 underlying107 (set2 k) ?_;rw[m];exact⟨rfl,q.set2 (oz h.kq9) s jV jV _ _,((((((Kept.kqe _).trans g).trans j).alloc _).trans d).jm jV _).jm jV _⟩
theorem jl(h:Rw w b #[x0,x1,x2,x3,x4] t):Ce w b 0 x0/\Ce w b 1 x1/\Ce w b 2 x2/\Ce w b 3 x3/\Ce w b 4 x4 /\
  Fr w b 0/\Fr w b 1/\Fr w b 2/\Fr w b 3/\Fr w b 4:=
 ⟨rc h 0,rc h 1,rc h 2,rc h 3,rc h 4,
  rf h 0,rf h 1,rf h 2,rf h 3,rf h 4⟩
theorem kxy(h:Rw w b #[x0,x1,x2,x3,x4] t):Rw (puts b [y0,y1,y2,y3,y4] 0 w) b #[y0,y1,y2,y3,y4] t:=zju h
theorem Pd.qk9(h:Pd w P v L st)(d:∀g,v.ownBlock=some g->g<B)(e:P<B)(hb:B<=b):∀(ys:List Value)(k:Nat),Pd (puts b ys k w) P v L st:=λys=>by
 induction ys generalizing w with
 |nil=>exact λ_=>h
 |cons y ys ih=>exact λk=>ih (h.setOther d e hb y)<|k+1
theorem Pd.ky7(h:Pd w P v L st)(d:∀g,v.ownBlock=some g->g<B)(e:P<B)(hb:B<=b)(y0 y1 y2 y3 y4:Value):Pd (puts b [y0,y1,y2,y3,y4] 0 w) P v L st:=h.qk9 d e hb _ _
theorem Kept.ky7(h:Kept P a w)(hb:a.heap.size<=b)(y0 y1 y2 y3 y4:Value):Kept P a (puts b [y0,y1,y2,y3,y4] 0 w):=h.qk9 hb _ _
def vvs(L:List Tok)(st:RS):Bool:=zk L [91] (zq L mX st).2
def plT(L:List Tok)(st:RS):Tok×Bool×Tok×RS:=
 if vvs L st then ((zq L mX st).1,true,(sqT L (zq L mX st).2).1,qg L [93] (sqT L (zq L mX st).2).2)
 else ((zq L mX st).1,false,zh,(zq L mX st).2)
def plV(x:Tok×Bool×Tok×RS):Value:=.agg #[.string x.1.x,i_ x.1.v,.bool x.2.1,.string x.2.2.1.x,i_ x.2.2.1.v]
theorem jqr(h:Pd w P v L st):Calls prog 260 #[pT P] w λe w'=>rT e (plV<|plT L st)/\Pd w' P v L (plT L st).2.2.2/\Kept P w w':=by
 have s:=h.in;have q:=oz h.kq9;go_in;go_wp21;refine zM (kxs<|h.alloc _) ?_;rintro l ⟨A,u⟩;have m:=show plT L st=if zk L [91] (zq L mX st).2 then ((zq L mX st).1,true,(sqT L (zq L mX st).2).1,qg L [93] (sqT L (zq L mX st).2).2)
  else ((zq L mX st).1,false,zh,(zq L mX st).2) from rfl
 generalize zq L mX st=k at *;have x:=u.e (b:=w.heap.size) aj<|qy;have D:=wQ x;unfold ptV;go_wp21
 refine zM (qzj [91] ak<|A.alloc _) ?_;rintro E ⟨z,g⟩;have f:=g.e (b:=l.heap.size) aj<|qy;have t:=(((Kept.kqe _).trans u).alloc _).trans g;have d:=oz<|g.e aj (zy x);cases hn:zk L [91] k.2
 ·rw[hn]at m;have B:=jl d;have g0:=jl f;go_wp2;refine kx0 results260 underlying332 (kxy d) ?_;rw[m];exact⟨rfl,z.ky7 q s jV _ _ _ _ _,t.ky7 jV _ _ _ _ _⟩
 ·rw[hn]at m;have g0:=jl f;go_wp21;refine zM (zxv<|z.setOther q s (by grind) _) ?_;rintro w3 ⟨C,j⟩;generalize sqT L k.2=i at *;have y:=j.e (b:=w.heap.size) aj ((hsC<|by grind).trans d);have B:=jl y;have g0:=jl<|j.e (b:=l.heap.size) aj (jD _ 2 _ _ _ f);unfold ptV;go_wp2
  refine kx0 results260 underlying332 (kxy (w:=(w3.setCell (Ad l.heap.size 3) _).setCell (Ad l.heap.size 4) _) ((hsC (by grind)).trans ((hsC (by grind)).trans y))) ?_;rw[m];exact⟨rfl,(C.set2 q s (by grind) (by grind) _ _).ky7 q s jV _ _ _ _ _,((((t.jm (p:=⟨l.heap.size,2,none⟩) (by grind)<|.bool true).trans j).jm (by grind) _).jm (by grind) _).ky7 jV _ _ _ _ _⟩
structure PRule where
 y:Tok
 u:List PP
 guard:PX
 S:PB
structure PTree where
 j:List PSet
 p:List PKind
 z:List PVar
 l:List PRule
 q:List PRule
def kyp(l:List PVar):List Value:=l.flatMap kj7
theorem zym(l:List PVar)(p:PVar):kyp (l++[p])=kyp l++kj7 p:=by simp[kyp]
def zzr:Nat->List Tok->List PVar->RS->List PVar×RS
 |0,_,l,st=>(l,st)
 |f+1,L,l,st=>
  if st.s then (l,st)
  else if zk L mD (kyt L st).2 then zzr f L (l++[(kyt L st).1]) (kyt L st).2
  else (l++[(kyt L st).1],(kyt L st).2)
def jqv(L:List Tok)(st:RS):Tok×RS:=zq L mX (qg L nX st)
def qvh(L:List Tok)(st:RS):List PP×RS:=kj0 L (jqv L st).2
def qzs(L:List Tok)(st:RS):PX×RS:=rX (kqb L) 0 .nil L (qg L mY (qvh L st).2)
def kjr(L:List Tok)(st:RS):PRule×RS:=
 (⟨(jqv L st).1,(qvh L st).1,(qzs L st).1,(rS (qqn L) 0 L (qzs L st).2).1⟩,(rS (qqn L) 0 L (qzs L st).2).2)
def qwp:Nat->List Tok->List PRule->RS->List PRule×RS
 |0,_,l,st=>(l,st)
 |f+1,L,l,st=>
  if st.s then (l,st)
  else if zk L nX (kjr L st).2 then qwp f L (l++[(kjr L st).1]) (kjr L st).2
  else (l++[(kjr L st).1],(kjr L st).2)
def zjb(L:List Tok)(st:RS):Tok×RS:=zq L mX (qg L nK st)
def qwn(L:List Tok)(st:RS):List PP×RS:=kj0 L (zjb L st).2
def qvz(L:List Tok)(st:RS):PX×RS:=rX (kqb L) 0 .nil L (qwn L st).2
def kzw(L:List Tok)(st:RS):PRule×RS:=
 (⟨(zjb L st).1,(qwn L st).1,(qvz L st).1,.nil⟩,qg L [59] (qvz L st).2)
def qze:Nat->List Tok->List PRule->RS->List PRule×RS
 |0,_,l,st=>(l,st)
 |f+1,L,l,st=>if zk L nK st then qze f L (l++[(kzw L st).1]) (kzw L st).2 else (l,st)
def kqa:RS:={v:=0,nest:=0,s:=false}
def kw9(L:List Tok):List PVar×RS:=zzr (kq2 L) L [] (kzb L kqa).2.2
def kyq(L:List Tok):List PRule×RS:=qwp (kq2 L) L [] (kw9 L).2
def kwh(L:List Tok):List PRule×RS:=qze (kq2 L) L [] (kyq L).2
def uz(L:List Tok):PTree×Option Nat:=
 (⟨(kzb L kqa).1,(kzb L kqa).2.1,(kw9 L).1,(kyq L).1,(kwh L).1⟩,
  if (kwh L).2.s||!((tk L (kwh L).2.v).t.toList==nG) then some (tk L (kwh L).2.v).v else none)
theorem zzl(L:List Tok):st.v<=(kj0 L st).2.v:=by
 have h:∀(f:Nat)(l:List PP)(s:RS),s.v<=(kws f L l s).2.v:=by
  intro f;induction f with
  |zero=>intro l s;exact jV
  |succ f ih=>
   grind [kws,qk8,yh]
 grind [kj0,yh]
theorem vvg(L:List Tok):st.v<=(kjn L st).2.v:=by grind [kjn,yh,kj1]
theorem pzk(L:List Tok):st.v<=(kku L st).2.v:=by grind [kku,yh,kj1]
theorem qyl(L:List Tok)(st:RS):(qg L mD st).v<=(kyt L st).2.v:=
 rP (kj1 L _ _) (rP (yh L [58] _)<|rP (vvg L) (rP (pzk L)<|yh L [59] _))
theorem jk8(h:st.s=true):(kjn L st).2.s=true:=by simp[kjn,kqk h,h]
theorem vjt(h:st.s=true):(kku L st).2.s=true:=by simp[kku,kqk h,qyf h]
theorem pzx(h:(kyt L st).2.s=false):st.v+1<=(kyt L st).2.v:=by grind [kyt,kkk,vjt,jk8,qyf,qyl,qqd]
theorem qza(L:List Tok)(st:RS):(qg L nX st).v<=(kjr L st).2.v:=
 rP (kj1 L _ _) (rP (zzl L)<|rP (yh L mY _) (rP (kvl _ _ _ L _)<|kkc L _ _ _))
theorem jqc(h:st.s=true):∀(f:Nat)(l:List PP),(kws f L l st).2=st
 |0,_=>rfl
 |f+1,l=>by rw[kws,h];rfl
theorem zvn(h:st.s=true):(kj0 L st).2.s=true:=by grind [kj0,kkk,jqc]
theorem vjr(h:(kjr L st).2.s=false):st.v+1<=(kjr L st).2.v:=by
 have h1:(qg L nX st).s=false:=by
  cases hb:(qg L nX st).s
  ·rfl
  ·have d:(qzs L st).2.s=true:=by unfold qzs;have:(qg L mY (qvh L st).2).s=true:=kkk<|zvn (qyf hb);rw[kk2 this];omega
   grind [kjr,qwg]
 grind [qza,qqd]
theorem zzs(h:zk L nK st=true):st.v+1<=(kzw L st).2.v:=by
 have h1:=qvj h rfl;have d:(qg L nK st).v<=(kzw L st).2.v:=
  rP (kj1 L _ _) (rP (zzl L)<|rP (kvl _ _ _ L _) (yh L [59] _))
 omega
def dw(lo:Nat)(w:World):List PRule->List Value->Prop
 |[],xs=>xs=[]
 |r::rs,xs=>∃vp vg vb ps ys,xs=ji r.y++(vp::vg::vb::ys)/\w.ownsRow lo 236 6 vp r.u.length (kjm r.u)/\yw lo w r.guard vg /\
   w.ownsRow lo 245 1 vb ps.length ps/\jg lo none w r.S ps/\dw lo w rs ys
theorem dw.stay(d:∀k,lo<=k->k<w.heap.size->w'.heap[k]?=w.heap[k]?):∀{rs:List PRule}{xs:List Value},dw lo w rs xs->dw lo w' rs xs
 |[],_,h=>h
 |r::rs,xs,⟨vp,vg,vb,ps,ys,e,h1,h2,h3,h4,h5⟩=>⟨vp,vg,vb,ps,ys,e,xg d h1,h2.stay d,xg d h3,h4.stay d,dw.stay d h5⟩
theorem dw.kept{b4:List PRule}(h:dw lo w b4 xs)(e:Kept R w w')(hR:R<lo):dw lo w' b4 xs:=h.stay λk h1 d=>e.block k d aj
theorem dw.snoc{r:PRule}{ps:List Value}(h1:w.ownsRow lo 236 6 v r.u.length (kjm r.u))(d:yw lo w r.guard x0)(f:w.ownsRow lo 245 1 vb ps.length ps)(g:jg lo none w r.S ps):∀{rs:List PRule}{xs:List Value},dw lo w rs xs->dw lo w (rs++[r]) (xs++(ji r.y++[v,x0,vb]))
 |[],xs,h=>by
  have:xs=[]:=h;subst this;exact⟨v,x0,vb,ps,[],rfl,h1,d,f,g,rfl⟩
 |r'::rs,xs,⟨a,b,c,q,ys,e,k1,k2,k3,k4,k5⟩=>⟨a,b,c,q,ys++(ji r.y++[v,x0,vb]),by simp_all,k1,k2,k3,k4,dw.snoc h1 d f g k5⟩
theorem yw.far(hv:w.ownsRow base P size v n xs)(d:242≠P)(e:w.grownBy w' v.ownBlock):∀{x:PX}{p:Value},yw lo w x p->yw lo w' x p
 |.nil,_,h=>h
 |.node _ _ _ _ _,_,⟨k,va,vb,e1,hn,hh,ha,hb⟩=>⟨k,va,vb,e1,hn,by rw[e.block k (wQ hh) (not_row hv hh d)];exact hh,yw.far hv d e ha,yw.far hv d e hb⟩
theorem jg.far{b5:Option Nat}(hv:w.ownsRow base P size v n xs)(e:242≠P)(f:247≠P)(g:245≠P)(d:w.grownBy w' v.ownBlock):∀{b:PB}{ps:List Value},jg lo b5 w b ps->jg lo b5 w' b ps
 |.nil,_,h=>h
 |.node _ _ a .nil nx,ps,⟨k,vp,vv,vi,qs,e1,hl,hh,ha,hn⟩=>⟨k,vp,vv,vi,qs,e1,hl,by rw[d.block k (wQ hh) (not_row hv hh f)];exact hh,⟨ha.1.far hv e d,ha.2.1.far hv e d,ha.2.2.far hv e d⟩,jg.far hv e f g d hn⟩
 |.node _ _ a (.node _ _ _ t e') nx,ps,⟨k,vp,vv,vi,vt,ve,qt,qe,qs,e1,hl,hh,ha,⟨ht1,ht3,ht2⟩,⟨he1,he3,he2⟩,hn⟩=>
  ⟨k,vp,vv,vi,vt,ve,qt,qe,qs,e1,hl,by rw[d.block k (wQ hh) (not_row hv hh f)];exact hh,⟨ha.1.far hv e d,ha.2.1.far hv e d,ha.2.2.far hv e d⟩,
   ⟨kqx ht1 hv g d,ht3,jg.far hv e f g d ht2⟩,⟨kqx he1 hv g d,he3,jg.far hv e f g d he2⟩,jg.far hv e f g d hn⟩
theorem dw.far(hv:w.ownsRow base P size v n zs)(e:242≠P)(g:247≠P)(f:245≠P)(i:236≠P)(d:w.grownBy w' v.ownBlock):∀{rs:List PRule}{xs:List Value},dw lo w rs xs->dw lo w' rs xs
 |[],_,h=>h
 |r::rs,xs,⟨vp,vg,vb,ps,ys,e1,h1,h2,h3,h4,h5⟩=>⟨vp,vg,vb,ps,ys,e1,kqx h1 hv i d,h2.far hv e d,kqx h3 hv f d,h4.far hv e g f d,dw.far hv e g f i d h5⟩
def kqc(w:World)(T:Nat)(t:PTree):Prop:=
 ∃x0 x1 x2 x3 x4 y1 y3 y4,w.heap[T]?=some (.cells #[x0,x1,x2,x3,x4] 157 (0,0))/\w.ownsRow (T+1) 231 6 x0 t.j.length (kwj t.j) /\
  (w.ownsRow (T+1) 234 4 x1 t.p.length y1/\kjt (T+1) w t.p y1)/\w.ownsRow (T+1) 222 12 x2 t.z.length (kyp t.z) /\
  (w.ownsRow (T+1) 147 6 x3 t.l.length y3/\dw (T+1) w t.l y3)/\(w.ownsRow (T+1) 147 6 x4 t.q.length y4/\dw (T+1) w t.q y4)
theorem infoRule:(prog.info? 147).map (λi=>(i.zero,i.size,i.bytes))=some (some (.agg #[e_,e_,i_ 0,nS,.pointer none,nS]),6,96):=au
theorem vy4(h:w.cell? p=some v):p.block<w.heap.size:=by
 by_cases d:p.block<w.heap.size
 ·exact d
 ·have:w.heap[p.block]?=none:=Array.getElem?_eq_none aj;simp[World.cell?,this]at h
theorem Kept.cell{a:Addr}(d:Kept P w w')(hb:a.block≠P)(h:w.cell? a=some v):w'.cell? a=some v:=
 (Jk (w:=w)<|d.block a.block (vy4 h) hb).trans h
def stV(s:PSet):Value:=.agg #[.string s.y.x,i_ s.y.v,i_ (mg s.size.x),i_ s.size.v]
theorem kz3(h:Rw w b #[x0,x1,x2,x3] t):Ce w b 0 x0/\Ce w b 1 x1/\Ce w b 2 x2/\Ce w b 3 x3 /\
  Fr w b 0/\Fr w b 1/\Fr w b 2/\Fr w b 3:=
 ⟨rc h 0,rc h 1,rc h 2,rc h 3,
  rf h 0,rf h 1,rf h 2,rf h 3⟩
theorem zzc(h:Rw w b #[x0,x1,x2,x3] t):Rw (puts b [y0,y1,y2,y3] 0 w) b #[y0,y1,y2,y3] t:=zju h
theorem Pd.jx5(h:Pd w P v L st)(d:∀g,v.ownBlock=some g->g<B)(e:P<B)(hb:B<=b)(y0 y1 y2 y3:Value):Pd (puts b [y0,y1,y2,y3] 0 w) P v L st:=h.qk9 d e hb _ _
theorem Kept.jx5(h:Kept P a w)(hb:a.heap.size<=b)(y0 y1 y2 y3:Value):Kept P a (puts b [y0,y1,y2,y3] 0 w):=h.qk9 hb _ _
theorem pw9(h1:qg L ni st=s1)(d:zq L mX s1=a5)(e:zq L mW a5.2=a6):kvc L st=(⟨a5.1,a6.1⟩,qg L [59] a6.2):=by subst h1;subst d;subst e;rfl
theorem pwj(h:Pd w P v L st):Calls prog 147 #[pT P] w λe w'=>rT e (stV (kvc L st).1)/\Pd w' P v L (kvc L st).2/\Kept P w w':=by
 have F:=h.in;have E:=oz h.kq9;go_in;go_wp21;refine zM (kjb ni ak rfl rfl<|h.alloc _) ?_;rintro I ⟨z,j⟩;have D:=oz<|pw9 (L:=L) (st:=st) rfl rfl rfl;generalize qg L ni st=s1 at *;have x:=oz<|j.e (b:=w.heap.size) aj (qy);have q:=(Kept.kqe _).trans j;go_wp21
 refine zM (kxs z) ?_;rintro J ⟨A,l⟩;generalize zq L mX s1=k at *;have s:=q.trans l;have y:=oz<|l.e aj x;go_wp21
 refine zM (zv7 A) ?_;rintro w3 ⟨B,m⟩;generalize zq L mW k.2=d at *;have t:=s.trans m;have g:=oz<|m.e aj y;have G:=wQ g;unfold ptV dgV;go_wp21
 refine zM (kjb [59] ak rfl rfl<|B.alloc _) ?_;rintro w4 ⟨C,f⟩;have i:=oz<|f.e aj (zy g);have p:=f.e (b:=w3.heap.size) aj<|qy;have H:=kz3 i;have g0:=kz3 p;have u:=(t.alloc _).trans f;clear p;go_wp2
 refine kx0 results147 underlying111 (zzc i) ?_;rw[ku D];exact⟨rfl,C.jx5 E F jV _ _ _ _,u.jx5 jV _ _ _ _⟩
theorem jvn(hb:p.block≠b)(h:w.cell? p=some v):((((w.setCell (Ad b 0) y0).setCell (Ad b 1) y1).setCell (Ad b 2) y2).setCell (Ad b 3) y3).cell? p=some v:=by refine(Jk (w:=w) ?_).trans h;rw[hsC hb,hsC hb,hsC hb,hsC hb]
def paV(p:PP):Value:=.agg #[.string p.y.x,i_ p.y.v,.string p.Q.x,i_ p.Q.v]
theorem xka(h1:zq L mX st=a5)(d:qg L [58] a5.2=s)(e:zq L mX s=a6):rPP L st=(⟨a5.1,a6.1⟩,a6.2):=by subst h1;subst d;subst e;rfl
theorem jqn(h:Pd w P v L st):Calls prog 240 #[pT P] w λe w'=>rT e (paV (rPP L st).1)/\Pd w' P v L (rPP L st).2/\Kept P w w':=by
 have C:=h.in;have B:=oz h.kq9;go_in;go_wp21;refine zM (kxs<|h.alloc _) ?_;rintro d ⟨x,l⟩;have A:=oz<|xka (L:=L) (st:=st) rfl rfl rfl;generalize zq L mX st=k at *;have j:=oz<|l.e (b:=w.heap.size) aj (qy);have D:=wQ j;have p:=(Kept.kqe _).trans l;unfold ptV;go_wp21
 refine zM (kjb [58] ak rfl rfl<|x.alloc _) ?_;rintro G ⟨y,g⟩;generalize qg L [58] k.2=F at *;have t:=oz<|g.e aj (zy j);have m:=g.e (b:=d.heap.size) aj<|qy;have ⟨g0,g1,_,_⟩:=kj6 m;have q:=(p.alloc _).trans g;clear m;go_wp2
 go_region_held3 (λw'=>w'.cell? (Ad d.heap.size 0)=some (.string k.1.x)/\w'.cell? (Ad d.heap.size 1)=some (i_ k.1.v))
  (first|exact⟨k0,k1⟩|exact⟨g0,g1⟩|exact⟨jvn ah k0,jvn ah k1⟩)
  ((go_at_call 202;refine zM (kxs<|y.below (bR.drew)) ?_;rintro w3 ⟨z,f⟩;have k0:=f.cell (a:=⟨d.heap.size,0,none⟩) (by omega:d.heap.size≠P) g0;have k1:=f.cell (a:=⟨d.heap.size,1,none⟩) (by omega:d.heap.size≠P) g1;have i:=f.e (b:=w.heap.size) aj t;have E:=kz3 i;have u:=oz i;have s:=q.drew.trans f;clear i;unfold ptV))
 go_wp2;refine kx0 results240 underlying352 (zzc u) ?_;rw[ku A];exact⟨rfl,z.jx5 B C jV _ _ _ _,s.jx5 jV _ _ _ _⟩
structure SiT where
 I:Int
 R:Tok
 y:Tok
def siV(x:SiT):Value:=.agg #[i_ x.I,i_ (mg x.R.x),i_ x.R.v,.string x.y.x,i_ x.y.v]
def siT(L:List Tok)(st:RS):SiT:=
 if zk L nP st then ⟨0,zh,zh⟩
 else if zk L nD st then ⟨1,(zq L mW<|qg L nD st).1,zh⟩
 else ⟨2,zh,(zq L mX st).1⟩
theorem qkk(h:zk L l st=true)(d:opens l=false)(e:shuts l=false):zze L l st=qg L l st:=by grind [kzo,zze,zkg]
theorem qj6(h:zk L l st=false):zze L l st=st:=mJ
theorem zva(h:Pd w P v L st):Calls prog 208 #[pT P] w λe w'=>rT e (siV<|siT L st)/\Pd w' P v L (kku L st).2/\Kept P w w':=by
 have A:=h.in;have z:=oz h.kq9;go_in;go_wp21;refine zM (kxm nP ak<|h.alloc _) ?_;rintro D ⟨p,u⟩;have m:=u.e (b:=w.heap.size) aj<|qy;have s:=(Kept.kqe _).trans u;cases hb:zk L nP st
 ·rw[qj6 hb]at p;go_wp21;refine zM (kxm nD ak p) ?_;rintro E ⟨q,x⟩;have t:=s.trans x;have g:=x.e aj m;cases C:zk L nD st
  ·have i:=show siT L st=⟨2,zh,(zq L mX st).1⟩ by unfold siT;simp_all
   have j:=show(kku L st).2=(zq L mX st).2 by unfold kku;simp_all
   rw[qj6 C]at q;go_wp21;refine zM (kxs q) ?_;rintro w3 ⟨y,f⟩;generalize zq L mX st=k at *;have d:=f.e aj g;have B:=jl d;have l:=t.trans f;clear g;unfold ptV;go_wp2;refine kx0 results208 underlying119 (kxy d) ?_;rw[ku i,ku j];exact⟨rfl,y.ky7 z A jV _ _ _ _ _,l.ky7 jV _ _ _ _ _⟩
  ·have i:=show siT L st=⟨1,(zq L mW<|qg L nD st).1,zh⟩ by unfold siT;simp_all
   have j:=show(kku L st).2=(zq L mW<|qg L nD st).2 by unfold kku;simp_all
   rw[qkk C rfl rfl]at q;go_wp21;refine zM (zv7 q) ?_;rintro w3 ⟨y,f⟩;generalize zq L mW (qg L nD st)=k at *;have d:=f.e aj g;have B:=jl d;have l:=t.trans f;clear g;unfold dgV;go_wp2;refine kx0 results208 underlying119 (kxy d) ?_;rw[ku i,ku j];exact⟨rfl,y.ky7 z A jV _ _ _ _ _,l.ky7 jV _ _ _ _ _⟩
 ·have i:=show siT L st=⟨0,zh,zh⟩ by unfold siT;simp_all
  have j:=show(kku L st).2=qg L nP st by unfold kku;simp_all
  rw[qkk hb rfl rfl]at p;have B:=jl m;go_wp2;refine kx0 results208 underlying119 (kxy m) ?_;rw[ku i,ku j];exact⟨rfl,p.ky7 z A jV _ _ _ _ _,s.ky7 jV _ _ _ _ _⟩
def kzn(p:PP):List Value:=[.string p.y.x,i_ p.y.v,.string p.Q.x,i_ p.Q.v]
def uq(l:List PP):List Value:=l.flatMap kzn
theorem jxj(l:List PP)(p:PP):uq (l++[p])=uq l++kzn p:=by simp[uq]
theorem zw0{b6:PP}:∀u∈kzn b6,u.oneCell'=true:=by intro u h;simp only[kzn,tZ,Qu,or_false]at h;obtain rfl|rfl|rfl|rfl:=h<;>rfl
theorem infoPa:(prog.info? 352).map (λi=>(i.zero,i.size,i.bytes))=some (some (.agg #[e_,i_ 0,e_,i_ 0]),4,48):=au
theorem kqs{s:List UInt8}(h:st.s=true):qg L s st=st:=by unfold qg;rw[kqk h];simp only[JD,Jg,Xw];cases st;simp_all
theorem kza{s:List UInt8}(h:st.s=true):(zq L s st).2=st:=by unfold zq kqf;rw[h];simp only[JV,QJ,ru,Xv];cases st;simp_all
theorem jk7(h:st.s=true):(rPP L st).2=st:=by show(zq L _<|qg L [58] (zq L _ st).2).2=st;grind [kza,kqs]
def jzr(L:List Tok)(fin:List PP×RS)(acc:List PP)(s:RS):Prop:=
 (s.s=true/\fin.2=s)\/(s.s=false/\∃f,L.length<=s.v+f/\(if zk L [44] s then kws f L acc (qg L [44] s) else (acc,s))=fin)
def xj3(w:World)(P:Nat)(v:Value)(L:List Tok)(fin:List PP×RS)(x:Value)(wr:World):Prop:=
 ∃(acc:List PP)(s:RS),jzr L fin acc s/\acc.length<=s.v+1/\wr.ownsRow w.heap.size 352 4 x acc.length (uq acc)/\Pd wr P v L s/\Kept P w wr
def xvs(P:Nat)(v:Value)(L:List Tok)(w:World)(r:List PP×RS)(e:Ending)(w':World):Prop:=
 ∃x l,e=.returned x/\w'.ownsRow w.heap.size 352 4 x l.length (uq l)/\(r.2.s=false->l=r.1)/\Pd w' P v L r.2/\Kept P w w'/\l.length<=801
theorem jwe(e:L.length<=s.v+f):jzr L (kws (f+1) L [] s) [(rPP L s).1] (rPP L s).2:=by
 cases hb:s.s
 ·have g:=qk8 L s;rw[kws];simp only[hb,ru,Xv];cases d:(rPP L s).2.s
  ·exact .inr ⟨d,f,aj,rfl⟩
  ·refine .inl ⟨d,?_⟩;rw[kqk d];rfl
 ·refine .inl ⟨by rw[jk7 hb];exact hb,?_⟩;grind [kws,jk7]
theorem vjo(k:s.v<L.length)(h:jzr L b7 acc s)(hn:zk L [44] s=true):jzr L b7 (acc++[(rPP L (qg L [44] s)).1]) (rPP L (qg L [44] s)).2:=by
 obtain⟨hb,_⟩|⟨hb,f,m,e⟩:=h
 ·rw[kqk hb]at hn;cases hn
 ·rw[lJ hn]at e;have i:qg L [44] s={s with v:=s.v+1}:=jW;have j:(qg L [44] s).v=s.v+1:=by rw[i]
  have g:(qg L [44] s).s=false:=by simp_all
  obtain⟨f,rfl⟩:=qqy f;generalize qg L [44] s=s' at *;rw[kws]at e;simp only[g,ru,Xv]at e;have l:=qk8 L s';cases d:(rPP L s').2.s
  ·exact .inr ⟨d,f,aj,e⟩
  ·refine .inl ⟨d,?_⟩;grind [kqk]
theorem vvi(h:jzr L b7 acc s)(hn:zk L [44] s=false):b7.2=s/\(s.s=false->b7.1=acc):=by
 obtain⟨hb,e⟩|⟨hb,f,d,e⟩:=h
 ·simp_all
 grind
theorem jx8(L:List Tok)(st:RS):(zk L [41] (qg L [40] st)=true->kj0 L st=([],qg L [41] (qg L [40] st))) /\
  (zk L [41] (qg L [40] st)=false->kj0 L st=((kws (kq2 L) L []<|qg L [40] st).1,qg L [41] (kws (kq2 L) L []<|qg L [40] st).2)):=by grind [kj0]
theorem kz2{s:List UInt8}(h:(qg L s st).s=false):st.s=false:=by grind [kkk]
theorem Pd.grown(h:Pd w P v L st)(d:w.grownBy w' u.ownBlock)(l:∀k,u.ownBlock=some k->B<=k)(f:∀g,v.ownBlock=some g->g<B)(i:P<B):Pd w' P v L st:=by
 refine h.same (d.block P h.in<|λe=>by grind) <| h.xu.kept d ?_;cases hv:v.ownBlock with
 |none=>simp
 |some j=>grind
def zx2(w:World)(P:Nat):Nat:=match w.cell? (Ad P 1) with
 |some (.int _ n)=>n.toNat
 |_=>0
theorem Pd.nx(h:Pd w P v L s):zx2 w P=if s.s then L.length-1 else s.v:=by
 have⟨r,h1,d⟩:=h;unfold zx2;rw[(qzi h1.pd).2.1];simp only[tX];cases hb:s.s
 ·simp[(d.M hb).2.1]
 ·simp[(d.s hb).2.1]
theorem Pd.xzq(h:Pd w P v L s)(hb:s.s=false):zx2 w P=s.v:=by rw[h.nx,hb];rfl
theorem qqq(h:Pd w P v L s)(d:Pd w' P v L st')(hb:s.s=false)(e:s.v+1<L.length)(f:st'.s=false->s.v+1<=st'.v):L.length-zx2 w' P<L.length-zx2 w P:=by have:=d.lt;rw[h.xzq hb,d.nx];grind
theorem zve(h:Pd w P v L st):Calls prog 209 #[pT P] w λe w'=>xvs P v L w (kj0 L st) e w':=by
 have ⟨i0,hi,O,Q,R⟩:=info_parts infoPa;have y:=h.in;have HV:=oz h.kq9;have a8:=h.ok.T;go_in;go_wp21;refine zM (qwr [40] ak rfl h) ?_;rintro w1 ⟨H1,a0⟩;obtain⟨(a1:Hid _),(a2:Hid _)⟩:=jx8 L st;generalize qg L [40] st=s1 at *;go_wp21;refine zM (qzj [41] ak H1) ?_;rintro w2 ⟨W,a3⟩;have H:=a0.trans a3;cases hn:zk L [41] s1
 ·have T:=oz<|a2 hn;go_wp21
  refine zM (jqn W) ?_;rintro w3 ⟨H3,a4⟩;have D:=jwe (L:=L) (s:=s1) (f:=L.length+1) aj;have aF:=qk8 L s1;have I:=H.trans a4;have a9:=I.size;have HF:=oz (show kws (L.length+1+1) L [] s1=kws (kq2 L) L [] s1 from rfl);generalize kws (L.length+1+1) L [] s1=fin at *;generalize rPP L s1=q at *;unfold paV;go_wp2_with (at_builtin;refine wpList_append_own _ rfl _ _ 123 rfl w.heap.size 352 i0 _ 4 48 underlying123 hi O Q R rfl ak _ _ _ rfl (oN) (Ad w3.heap.size 0) 1 1 (kzn q.1) rfl rfl ?c1 ?c2 ?c3 ?c4 ?c5 ?_)
  case c1=>exact qjb w3 (kzn q.1) rfl
  case c2=>exact zw0
  case c3=>unfold maxLen;simp
  case c4=>simp
  case c5=>simp;omega
  intro v' w4 F l _;have a5:Kept P w w4:=(I.alloc _).grown (v:=nS) l (λk U=>by simp[Value.ownBlock]at U);have h4:Pd w4 P v L q.2:=(H3.alloc _).grown (u:=nS) (B:=w.heap.size) l (λk U=>by simp[Value.ownBlock]at U) HV y;have HR:=show xj3 w P v L fin v' w4 from⟨[q.1],q.2,D,ay,by simpa[uq] using F,h4,a5⟩
  go_wp2;go_loopw [3] (λx wr=>xj3 w P v L fin x wr) (λ_ wr=>L.length-zx2 wr P);exact HR;have⟨acc,s,D,aE,HO,E,Z⟩:=hrel;have M:=E.lt;have aI:=Z.size;go_wp21;refine zM (kxm [44] ak E) ?_;rintro w5 ⟨t,K⟩;have J:=jr HO K y;have p:=Z.trans K;have aA:=p.size;cases z:zk L [44] s
  ·rw[qj6 z]at t;obtain⟨(X:Hid _),(Y:Hid _)⟩:=vvi D z;have S:=oz t;clear t;go_wp21;refine zM (qxi [41] ak rfl rfl S) ?_;rintro G ⟨m,d⟩;have j:=jr J d y;have g:=p.trans d;go_wp2;go_ret;rw[ku T,<-ku HF,ku X];exact⟨_,acc,rfl,j,λhb=>(Y<|kz2 hb).symm,m,g,aj⟩
  ·rw[qkk z rfl rfl]at t;have N:=kz9 E.ok M z;have aG:(qg L [44] s).v=s.v+1:=jW;have HM:=vjo M D z;have S:=oz t;generalize qg L [44] s=s' at *;have aH:=qk8 L s';go_wp21;refine zM (jqn S) ?_;rintro G ⟨m,d⟩;have j:=jr J d y;have g:=p.trans d;have aB:=g.size;generalize rPP L s'=C at *;unfold paV;go_wp2_with (at_builtin;refine wpList_append_own _ rfl _ _ 123 rfl w.heap.size 352 i0 _ 4 48 underlying123 hi O Q R rfl ak _ _ _ rfl (j.alloc _) (Ad G.heap.size 0) 1 1 (kzn C.1) rfl rfl ?k1 ?k2 ?k3 ?k4 ?k5 ?_)
   case k1=>exact qjb G (kzn C.1) rfl
   case k2=>exact zw0
   case k3=>unfold maxLen;omega
   case k4=>omega
   case k5=>simp;omega
   intro v7 V a7 i _;have A:=jo j;have a6:Kept P w V:=(g.alloc _).grown i A;have h7:Pd V P v L C.2:=(m.alloc _).grown i A HV y;have aD:=show xj3 w P v L fin v7 V from⟨acc++[C.1],C.2,HM,by grind,by grind [jxj],h7,a6⟩
   have aC:=oz (qqq E h7 N.1 N.2<|λ_=>aj);clear A;go_wp2;grind [ku]
 ·have T:=oz<|a1 hn;go_wp21
  refine zM (qxi [41] ak rfl rfl W) ?_;rintro G ⟨m,d⟩;have g:=H.trans d;go_wp2;go_ret;rw[ku T];exact⟨_,[],rfl,oN,λ_=>rfl,m,g,ay⟩
def opN(o:List UInt8):Int:=
 if o==nJ then 0 else if o==nZ then 1 else if o==mG then 2 else if o==mW then 3 else if o==ng then 4
 else if o==[33] then 5 else if o==[38] then 6 else if o==[124] then 7 else if o==[61,61] then 8 else if o==[33,61] then 9 else if o==[60] then 10 else if o==[43] then 11 else if o==[45] then 12 else 13
def kyu(x:ELab)(a b:Value):Array Value:=#[i_ (opN x.op.toList),i_ x.n,.string x.y.x,i_ x.y.v,.bool (!(x.c.t.toList==[])),.string x.c.x,i_ x.c.v,a,b]
def XIs(lo:Nat)(w:World):PX->Value->Prop
 |.nil,v=>v=.pointer none
 |.node _ _ x a b,v=>∃k va vb,v=pT k/\lo<=k/\w.heap[k]?=some (.cells (kyu x va vb) 358 (0,0))/\XIs lo w a va/\XIs lo w b vb
theorem XIs.ptr(h:XIs lo w x v):∃p,v=.pointer p:=by
 cases x with
 |nil=>exact⟨_,h⟩
 |node _ _ _ _ _=>have⟨k,_,_,e,_⟩:=h;simp_all
theorem XIs.stay(d:∀k,lo<=k->k<w.heap.size->w'.heap[k]?=w.heap[k]?):∀{x:PX}{v:Value},XIs lo w x v->XIs lo w' x v
 |.nil,_,h=>h
 |.node _ _ _ _ _,_,⟨k,va,vb,e,hn,hh,ha,hb⟩=>⟨k,va,vb,e,hn,by grind,ha.stay d,hb.stay d⟩
theorem XIs.kept(h:XIs lo w x v)(e:Kept P w w')(f:P<lo):XIs lo w' x v:=
 h.stay λk h1 d=>e.block k d aj
theorem XIs.below(h:XIs lo w x v)(e:oq w w'):XIs lo w' x v:=
 h.stay λk _ d=>e.block k d
theorem XIs.mono{lo':Nat}(d:lo'<=lo):∀{x:PX}{v:Value},XIs lo w x v->XIs lo' w x v
 |.nil,_,h=>h
 |.node _ _ _ _ _,_,⟨k,va,vb,e,hn,hh,ha,hb⟩=>⟨k,va,vb,e,rP d hn,hh,ha.mono d,hb.mono d⟩
theorem XIs.new{x:ELab}{a b:PX}{b8:Array Value}(d:XIs lo w a va)(hb:XIs lo w b vb)(f:lo<=w.heap.size)(e:b8=kyu x va vb):XIs lo (w.alloc<|.cells b8 358) (.node 0 0 x a b) (pT w.heap.size):=by subst e;exact⟨_,va,vb,rfl,f,jH,d.below<|jZ _,hb.below<|jZ _⟩
theorem dh:zh.t.toList=[]:=jh _
theorem qz3{i2:Int}(h:opN b9.toList=i2):#[i_ i2,i_ 0,e_,i_ 0,.bool false,e_,i_ 0,va,vb]=kyu {op:=b9,y:=zh,c:=zh,n:=0} va vb:=by unfold kyu;simp only;rw[h,dh];rfl
theorem pxf{n:Int}:#[i_ 3,i_ n,e_,i_ 0,.bool false,e_,i_ 0,.pointer none,.pointer none]=kyu {op:=qj0,y:=zh,c:=zh,n:=n} (.pointer none) (.pointer none):=by unfold kyu;simp only;rw[show qj0.toList=mW from jh _,dh];rfl
def EPost(P:Nat)(v:Value)(L:List Tok)(w:World)(r:PX×RS)(e:Ending)(w':World):Prop:=
 ∃p t,rT e (.pointer p)/\XIs w.heap.size w' t (.pointer p)/\(r.2.s=false->t=r.1)/\Pd w' P v L r.2/\Kept P w w'
theorem pqw(h:Pd w P v L st):og 152 #[pT P] w λe w'=>∃t,rT e (ptV t)/\kzx t.x 0=kqf L mW st/\(kzq t.x 0&&!qwu t.x)=kqf L mX st/\oq w w':=by have⟨r,h1,d⟩:=h;exact(qwm h1).mono λe w' ⟨a,b⟩=>⟨_,a,d.digit h1.ok,d.y h1.ok,b⟩
def kxf(f:Nat)(L:List Tok)(st:RS):PX×RS:=
 if st.s then (qj1,st)
 else if zk L [40] st then ((rX f 0 .nil L<|qg L [40] st).1,qg L [41] (rX f 0 .nil L<|qg L [40] st).2)
 else if isConst (tk L st.v) then (opX (tk L st.v).x .nil .nil,{st with v:=st.v+1})
 else if zxk (tk L st.v) then (vwe<|mg (tk L st.v).x,{st with v:=st.v+1})
 else kqy L st
theorem xjs(f n:Nat)(x:PX)(L:List Tok)(st:RS)(h:zk L [33] st=false):rX (f+1) (20+n) x L st=kxf f L st:=by grind [zy3,kxf]
theorem jws(h:st.s=true):(kqy L st).2=st:=by grind [kqy,kza,kqk]
theorem jkv(L:List Tok)(st:RS):(plT L st).2.2.2=(kqy L st).2:=by grind [plT,kqy,vvs,sqT]
theorem zvi(st:RS)(g:kq6 L)(f:st.v<L.length):∃x:ELab,#[i_ 4,i_ 0,.string (plT L st).1.x,i_ (plT L st).1.v,.bool (plT L st).2.1,.string (plT L st).2.2.1.x,i_ (plT L st).2.2.1.v,.pointer none,.pointer none]=kyu x (.pointer none) (.pointer none) /\
  ((kqy L st).2.s=false->.node 0 0 x .nil .nil=(kqy L st).1):=by
 have d:qja.toList=ng:=jh _;unfold plT kqy vvs sqT;simp only;cases hn:zk L [91] (zq L mX st).2
 ·refine⟨{op:=qja,y:=(zq L mX st).1,c:=zh,n:=0},?_,λ_=>rfl⟩;unfold kyu;simp only[ru,Xv];rw[d,dh];rfl
 ·simp only[Xw];cases hb:(qg L [93] (zq L mX<|qg L [91] (zq L mX st).2).2).s
  ·refine⟨{op:=qja,y:=(zq L mX st).1,c:=(zq L mX<|qg L [91] (zq L mX st).2).1,n:=0},?_,λ_=>rfl⟩;have i:=kz2 hb;have e:((zq L mX<|qg L [91] (zq L mX st).2).1.t.toList==[])=false:=by grind [zq,kqf]
   unfold kyu;simp only;rw[d,e];rfl
  ·refine⟨{op:=qja,y:=(zq L mX st).1,c:={t:=zw4,x:=(zq L mX<|qg L [91] (zq L mX st).2).1.x,v:=(zq L mX<|qg L [91] (zq L mX st).2).1.v},n:=0},?_,λh=>ig⟩;unfold kyu;simp only;rw[d,show zw4.toList=mX from jh _];rfl
theorem kz8(h:zk L l st=true):(tk L st.v).x.toList=l/\st.s=false:=by grind [zk,qqb]
theorem zxn.pkv(h:zxn i3)(d:l∈lits)(f:i3.x.toList=l)(g:kzq i3.x 0=true):(i3.t.toList==nV)=true:=by have h1:=h.lit l d;have e:=h.word;grind [vj9]
theorem zkn(h:b9.toList=i4::r):kzq b9 0=(decide (97<=(i4.toNat:Int))&&decide ((i4.toNat:Int)<=122)):=by have g:0<b9.size:=qwq (by simp_all);have ⟨i,r',e,f⟩:=qy4 97 122 b9 g;rw[h]at e;injection e with d _;subst d;exact f
theorem qkl(h:kq6 L)(f:st.v<L.length)(hb:st.s=false):isConst (tk L st.v)=(zk L nJ st||zk L nZ st||zk L mG st):=by
 have g:=h.ok _ f;have key:∀l:List UInt8,l∈lits->(∃c r,l=c::r/\(decide (97<=(c.toNat:Int))&&decide ((c.toNat:Int)<=122))=true)->zk L l st=(((tk L st.v).t.toList==nV)&&((tk L st.v).x.toList==l)):=by
  intro l j ⟨c,r,e,i⟩;unfold zk qqb;rw[hb];cases d:((tk L st.v).x.toList==l)
  ·simp
  ·rw[su]at d;have:=g.pkv j d (by rw[zkn (d.trans e)];exact i);simp_all
 rw[key _ ak ⟨_,_,rfl,ak⟩,key _ ak ⟨_,_,rfl,ak⟩,key _ ak ⟨_,_,rfl,ak⟩];grind [isConst]
theorem jvz(hb:st.s=false):zxk (tk L st.v)=kqf L mW st:=by unfold zxk kqf;simp_all
def qvi(n F f:Nat):Prop:=∀(w:World)(P:Nat)(v:Value)(L:List Tok)(st:RS),Pd w P v L st->(st.s=false->8*(L.length-st.v)+(7-n)<=f) ->
 Calls prog F #[pT P] w λe w'=>EPost P v L w (rX f n .nil L st) e w'
theorem xq5(a b:Int)(w:World):(Instr.field 109 (.agg #[i_ a,i_ b]) 0).run prog w=.ok (i_ a) w:=au
theorem zxd(f:Nat)(P:Nat)(v:Value)(L:List Tok)(st:RS)(hE:st.s=false->qvi 0 210 f)(h:Pd w P v L st)(hf:st.s=false->8*(L.length-st.v)+1<=f):Calls prog 299 #[pT P] w λe w'=>EPost P v L w (kxf f L st) e w':=by
 have hX:=h.in;have hL:=h.ok;have a0:=h.lt;go_in;go_wp21;refine zM (qzj [40] ak h) ?_;rintro w1 ⟨Q,H⟩;cases hp:zk L [40] st
 ·go_wp21;refine zM (kxm nJ ak Q) ?_;rintro w2 ⟨s,C⟩;have g:=H.trans C;have F:=g.size;cases ht:zk L nJ st
  ·rw[qj6 ht]at s;have u:=oz s;clear s;go_wp21;refine zM (kxm nZ ak u) ?_;rintro w3 ⟨A,D⟩;have j:=g.trans D;have a1:=j.size;cases N:zk L nZ st
   ·rw[qj6 N]at A;have y:=oz A;clear A;go_wp21;refine zM (kxm mG ak y) ?_;rintro w4 ⟨B,m⟩;have k:=j.trans m;have a2:=k.size;cases O:zk L mG st
    ·rw[qj6 O]at B;have q:=oz B;clear B;go_wp21;refine(pqw q).mono ?_;rintro e w5 ⟨t,rfl,M,_,J⟩;have S:=k.trans<|.of_below J;have H5:=q.below J;go_wp21
     refine zM (zzv t) λw6 K=>?_;rw[M];have I:=S.trans<|.of_below K;have R:=H5.below K;clear M;cases hd:kqf L mW st
     ·go_wp21;refine zM (jqr R) ?_;rintro w7 ⟨z,E⟩;rw[jkv]at z;have d:=oz (show(kxf f L st).2=(kqy L st).2/\((kqy L st).2.s=false->(kxf f L st).1=(kqy L st).1) by grind [kxf,qkl,jvz,jws])
      obtain⟨x,(V:Hid _),(a5:Hid _)⟩:=zvi st hL a0;have l:=I.trans E;have G:=l.size;generalize plT L st=pt at *;unfold plV;go_wp2;go_ret;refine⟨_,.node 0 0 x .nil .nil,rfl,XIs.new rfl rfl G V,?_,?_,l.alloc _⟩
      ·grind [ku]
      ·rw[(ku d).1];exact z.alloc _
     ·have hb:st.s=false:=by grind [kqf]
      have d:=oz (show kxf f L st=(vwe<|mg (tk L st.v).x,{st with v:=st.v+1}) by grind [kxf,qkl,jvz])
      have T:=oz (by unfold zq;simp_all:zq L mW st=(tk L st.v,{st with v:=st.v+1}));go_wp21;refine zM (zv7 R) ?_;rintro w7 ⟨z,E⟩;rw[ku T]at z |-;have l:=I.trans E;have G:=l.size;have a6:=xq5 (mg (tk L st.v).x) (tk L st.v).v;unfold dgV;go_wp2
      go_ret;rw[ku d];exact⟨_,vwe<|mg (tk L st.v).x,rfl,XIs.new rfl rfl G<|pxf,λ_=>rfl,z.alloc _,l.alloc _⟩
    ·have ⟨i,hb⟩:=kz8 O;have d:=oz (show kxf f L st=(opX (tk L st.v).x .nil .nil,{st with v:=st.v+1}) by grind [kxf,qkl])
     have Z:zze L mG st={st with v:=st.v+1}:=mJ;rw[Z]at B;have q:=oz B;clear Z;go_wp2;go_ret;rw[ku d];exact⟨_,opX (tk L st.v).x .nil .nil,rfl,XIs.new rfl rfl a2 (qz3 (by rw[i];rfl)),λ_=>rfl,q.alloc _,k.alloc _⟩
   ·have ⟨i,hb⟩:=kz8 N;have d:=oz (show kxf f L st=(opX (tk L st.v).x .nil .nil,{st with v:=st.v+1}) by grind [kxf,qkl])
    have e3:zze L nZ st={st with v:=st.v+1}:=mJ;rw[e3]at A;have y:=oz A;clear e3;go_wp2;go_ret;rw[ku d];exact⟨_,opX (tk L st.v).x .nil .nil,rfl,XIs.new rfl rfl a1 (qz3 (by rw[i];rfl)),λ_=>rfl,y.alloc _,j.alloc _⟩
  ·have ⟨i,hb⟩:=kz8 ht;have d:=oz (show kxf f L st=(opX (tk L st.v).x .nil .nil,{st with v:=st.v+1}) by grind [kxf,qkl])
   have Y:zze L nJ st={st with v:=st.v+1}:=mJ;rw[Y]at s;have u:=oz s;clear Y;go_wp2;go_ret;rw[ku d];exact⟨_,opX (tk L st.v).x .nil .nil,rfl,XIs.new rfl rfl F (qz3 (by rw[i];rfl)),λ_=>rfl,u.alloc _,g.alloc _⟩
 ·have ⟨i,hb⟩:=kz8 hp;have d:=oz (show kxf f L st=((rX f 0 .nil L<|qg L [40] st).1,qg L [41] (rX f 0 .nil L<|qg L [40] st).2) by unfold kxf;simp_all)
  go_wp21;refine zM (qwr [40] ak rfl Q) ?_;rintro w2 ⟨u,C⟩;have a4:=yh L [40] st;have a7:(qg L [40] st).s=false->(qg L [40] st).v=st.v+1:=qqd;have g:=H.trans C;have F:=g.size;generalize qg L [40] st=s2 at *;go_wp21;refine(hE hb _ P v L s2 u<|λs=>by grind).mono ?_;rintro e w3 ⟨p,t,rfl,a3,(U:Hid _),y,D⟩;have j:=g.trans D;have W:=a3.mono F;generalize rX f 0 .nil L s2=r3 at *;go_wp21;refine zM (qxi [41] ak rfl rfl y) ?_;rintro w4 ⟨q,m⟩;have k:=j.trans m;have X:=W.kept m hX;go_wp2;go_ret;rw[ku d];exact⟨p,t,rfl,X,λhb=>U<|kz2 hb,q,k⟩
def zxc:Nat->PX->PX
 |0,x=>x
 |n+1,x=>opX zvh (zxc n x) .nil
theorem vk6:∀(n:Nat)(x:PX),zxc n (opX zvh x .nil)=zxc (n+1) x
 |0,_=>rfl
 |n+1,x=>by rw[zxc,vk6 n x];rfl
theorem xjf(h:zk L [33] st=true)(hn:n≠12):rX (f+1) (20+n) x L st=(opX zvh (rX f (20+(n+1)) .nil L (qg L [33] st)).1 .nil,(rX f (20+(n+1)) .nil L (qg L [33] st)).2):=by rw[zy3,h,(kz8 h).2];simp[hn]
theorem pzz(h:zk L [33] st=true):rX (f+1) (20+12) x L st=(qj1,{st with s:=true}):=by rw[zy3,h,(kz8 h).2];simp
def zvw(L:List Tok)(fin:PX×RS)(j g:Nat)(s:RS):Prop:=
 fin=(zxc j (rX g (20+j) .nil L s).1,(rX g (20+j) .nil L s).2)/\(s.s=false->8*(L.length-s.v)+2<=g)
theorem vk8(h:zvw L fin j g s)(hn:zk L [33] s=true)(e:j≠12)(i:s.v<L.length):zvw L fin (j+1) (g-1) {s with v:=s.v+1}:=by have⟨h1,d⟩:=h;have hb:=(kz8 hn).2;have k:=d hb;obtain⟨g,rfl⟩:=qqy g;rw[xjf hn e]at h1;have f:qg L [33] s={s with v:=s.v+1}:=jW;rw[f]at h1;simp only[Zr];refine⟨?_,λ_=>by grind⟩;rw[h1,vk6]
theorem vyq(h:zvw L fin j g s)(hn:zk L [33] s=false):fin.2=(kxf (g-1) L s).2/\((kxf (g-1) L s).2.s=false->fin.1=zxc j (kxf (g-1) L s).1):=by
 have⟨h1,d⟩:=h;cases hb:s.s
 ·have e:=d hb;obtain⟨g,rfl⟩:=qqy g;grind [xjs]
 grind [kxf,kk2]
theorem pk8(h:zvw L fin 12 g s)(hn:zk L [33] s=true):fin.2=(kxf 0 L {s with s:=true}).2/\((kxf 0 L {s with s:=true}).2.s=false->fin.1=zxc 12 (kxf 0 L {s with s:=true}).1):=by have⟨h1,d⟩:=h;have hb:=(kz8 hn).2;have e:=d hb;obtain⟨g,rfl⟩:=qqy g;grind [pzz,kxf]
theorem Pd.E(h:Pd w P v L s)(hb:s.s=false)(e:s.v+1<L.length):Ce w P 1 (i_ s.v)/\Fr w P 1/\Pd (w.setCell (Ad P 1) (i_ ((s.v:Int)+1))) P v L {s with v:=s.v+1}:=by have⟨r,h1,d⟩:=h;have ⟨c0,c1,c2,c3,c4,f1,_⟩:=qzi h1.pd;have hn:=(d.M hb).2.1;rw[hn]at c1;refine⟨c1,f1,⟨_,?_,d.E hb e⟩⟩;have:=h1.E aj;simp_all
theorem jkw(f:Nat)(V:st.s=false->∀g,g<f->qvi 0 210 g)(h:Pd w P v L st)(X:st.s=false->8*(L.length-st.v)+2<=f):Calls prog 296 #[pT P] w λe w'=>EPost P v L w (rX f 20 .nil L st) e w':=by
 have W:=h.ok;have a4:=W.T;have⟨H,S⟩:=jS h V;have a5:=show zvw L (rX f 20 .nil L st) 0 f st from⟨rfl,X⟩
 generalize rX f 20 .nil L st=fin at *;clear V X;go_wp2;go_loopw [3] (λrow wr=>∃(j g:Nat)(s:RS),j<=12/\row=i_ j/\zvw L fin j g s/\(s.s=false->g<=f/\st.s=false)/\Pd wr P v L s/\Kept P w wr) (λrow _=>12-(intOf row).toNat)
 ·grind [ku,Kept.refl]
 obtain⟨j,g,s,hj,rfl,C,(K:Hid _),k,d⟩:=hrel;have F:=k.lt;go_wp21;refine zM (qzj [33] ak k) ?_;rintro w2 ⟨G,Z⟩;have q:=d.trans Z;have a1:=q.size;cases hn:zk L [33] s
 ·have J:=oz<|vyq C hn;have a6:=C.2;go_wp21
  refine(zxd (g-1) P v L s (λhb=>S (K hb).2 (g-1)<|by grind [ku]) G<|λhb=>by grind).mono ?_;rintro e w5 ⟨N,R,rfl,B,(U:Hid _),I,z⟩;have u:=q.trans z;have y:=B.mono a1;generalize kxf (g-1) L s=Q at *;go_wp2;go_loopw [4,23] (λO m wr=>∃(i:Nat)(p:Option Addr),i<=j/\m=i_ i/\O=.pointer p/\XIs w.heap.size wr (zxc i R) (.pointer p)/\Pd wr P v L Q.2/\Kept P w wr) (λ_ m _=>j-(intOf m).toNat);exact⟨0,N,jG,rfl,rfl,y,I,u⟩;obtain⟨i,p,Y,rfl,rfl,x,k,d⟩:=hrel;have A:=d.size;by_cases M:i<j
  ·go_wp2;exact rdM ⟨i+1,_,aj,eu,rfl,XIs.new x rfl A<|qz3 kD,k.alloc _,d.alloc _⟩
  ·have l:i=j:=by omega
   subst l;go_wp2;go_ret;refine⟨p,_,rfl,x,?_,?_,d⟩
   ·grind [ku]
   ·rw[(ku J).1];exact k
 ·have t:=kz9 W F hn;by_cases E:j=12
  ·subst E;have J:=oz<|pk8 C hn;go_wp21
   refine zM (pyo G) ?_;rintro w3 ⟨H3,a0⟩;have D:=q.trans a0;have a2:=D.size;go_wp21;refine(zxd 0 P v L {s with s:=true} (λhb=>by simp_all) H3 (λhb=>by simp_all)).mono ?_;rintro e w5 ⟨N,R,rfl,B,(U:Hid _),I,z⟩;have u:=D.trans z;have y:=B.mono a2;generalize kxf 0 L {s with s:=true}=Q at *;go_wp2;go_loopw [4,23] (λO m wr=>∃(i:Nat)(p:Option Addr),i<=12/\m=i_ i/\O=.pointer p/\XIs w.heap.size wr (zxc i R) (.pointer p)/\Pd wr P v L Q.2/\Kept P w wr) (λ_ m _=>12-(intOf m).toNat);exact⟨0,N,jG,rfl,rfl,y,I,u⟩;obtain⟨i,p,Y,rfl,rfl,x,k,d⟩:=hrel;have A:=d.size;by_cases M:i<12
   ·go_wp2;exact rdM ⟨i+1,_,aj,eu,rfl,XIs.new x rfl A<|qz3 kD,k.alloc _,d.alloc _⟩
   ·have l:i=12:=by omega
    subst l;go_wp2;go_ret;refine⟨p,_,rfl,x,?_,?_,d⟩
    ·grind [ku]
    ·rw[(ku J).1];exact k
  ·have a3:j<12:=by omega
   have ⟨c1,f1,T⟩:=G.E t.1 t.2;have HR:=vk8 C hn E F;go_wp2;exact rdM ⟨j+1,g-1,_,aj,eu,HR,λ_=>⟨by have:=(K t.1).1;omega,(K t.1).2⟩,T,q.kzr _ _⟩
theorem zxn.xv0(h:zxn i3)(e:i3.x.toList=i4::r)(d:(decide (97<=(i4.toNat:Int))&&decide ((i4.toNat:Int)<=122))=false):(i3.t.toList==nV)=false:=by have h1:=h.word;grind [zkn]
theorem qya(g:kq6 L)(d:st.v<L.length)(hb:st.s=false)(i:∃c r,l=c::r/\(decide (97<=(c.toNat:Int))&&decide ((c.toNat:Int)<=122))=false):zk L l st=(((tk L st.v).t.toList==nM)&&((tk L st.v).x.toList==l)):=by
 have⟨c,r,e,h⟩:=i;unfold zk qqb;rw[hb];cases f:((tk L st.v).x.toList==l)
 ·simp
 ·rw[su]at f;rw[(g.ok _ d).xv0 (f.trans e) h];simp
theorem xwa(e:kq6 L)(d:st.v<L.length)(hb:st.s=false):kv6 0 (tk L st.v)=zk L [124] st:=by grind [qya,kv6,kj4,jh]
theorem xwo(e:kq6 L)(d:st.v<L.length)(hb:st.s=false):kv6 1 (tk L st.v)=zk L [38] st:=by grind [qya,kv6,kj4,jh]
theorem xws(e:kq6 L)(d:st.v<L.length)(hb:st.s=false):kv6 3 (tk L st.v)=(zk L [43] st||zk L [45] st):=by grind [qya,kv6,kj4,jh]
theorem xwf(e:kq6 L)(d:st.v<L.length)(hb:st.s=false):kv6 2 (tk L st.v)=(zk L [61,61] st||zk L [33,61] st||zk L [60] st):=by grind [qya,kv6,kj4,jh]
def jvf(L:List Tok)(n F:Nat)(fin:PX×RS)(t:PX)(s:RS):Prop:=
 (s.s=true/\fin.2=s)\/(s.s=false/\∃g,g<F/\8*(L.length-s.v)+1<=g/\rX g (10+n) t L s=fin)
theorem zvd{t:PX}(hn:n<4)(e:st.s=false->8*(L.length-st.v)+(7-n)<=f)(g:(rX (f-1) (n+1) .nil L st).2.s=false->t=(rX (f-1) (n+1) .nil L st).1):jvf L n f (rX f n .nil L st) t (rX (f-1) (n+1) .nil L st).2:=by
 cases hb:st.s
 ·have:=e hb;obtain⟨f,rfl⟩:=qqy f;simp only[Zr]at g |-;have h:=kvl f (n+1) .nil L st;rw[jqg f n .nil L st hn];simp only[hb,ru,Xv];cases d:(rX f (n+1) .nil L st).2.s
  ·refine .inr ⟨d,f,aj,aj,?_⟩;simp_all
  ·exact .inl ⟨d,kk2 d _ _ _⟩
 ·rw[kk2 hb];exact .inl ⟨hb,kk2 hb _ _ _⟩
theorem jxi(hn:n<4)(h:jvf L n F fin x s)(hb:s.s=false->kv6 n (tk L s.v)=false):fin.2=s/\(s.s=false->fin.1=x):=by
 rcases h with⟨h1,d⟩|⟨h1,g,_,d,e⟩
 ·simp_all
 ·obtain⟨g,rfl⟩:=qqy g;grind [zy2]
theorem vke(hn:n<4)(h:jvf L n F fin x s)(hb:s.s=false)(hi:kv6 n (tk L s.v)=true):∃g,g+1<F/\8*(L.length-s.v)+1<=g+1 /\
  (if n=2 then (opX (tk L s.v).x x (rX g (n+1) .nil L {s with v:=s.v+1}).1,(rX g (n+1) .nil L {s with v:=s.v+1}).2)
   else rX g (10+n) (opX (tk L s.v).x x (rX g (n+1) .nil L {s with v:=s.v+1}).1) L (rX g (n+1) .nil L {s with v:=s.v+1}).2)=fin:=by
 rcases h with⟨h1,d⟩|⟨h1,g,f,d,e⟩
 ·simp_all
 ·obtain⟨g,rfl⟩:=qqy g;grind [zy2]
theorem vka{i5:PX}(d:g+1<F)(f:8*(L.length-s.v)+1<=g+1)(i:s.v+1<=a0.2.v)(e:s.v<L.length)(h:rX g (10+n) (opX b9 x a0.1) L a0.2=fin)(j:a0.2.s=false->i5=a0.1):jvf L n F fin (opX b9 x i5) a0.2:=by
 cases hb:a0.2.s
 ·refine .inr ⟨hb,g,aj,aj,?_⟩;simp_all
 ·refine .inl ⟨hb,?_⟩;rw[<-h,kk2 hb]
def vky(n F:Nat):Prop:=∀(g:Nat)(w:World)(P:Nat)(v:Value)(L:List Tok)(st:RS),st.s=true->Pd w P v L st ->
 Calls prog F #[pT P] w λe w'=>EPost P v L w (rX g n .nil L st) e w'
theorem EPost.U{i6:PX×RS}{i7:Ending}(h:EPost P v L w a0 i7 w')(e:i6.2=a0.2)(h1:a0.2.s=false->i6.1=a0.1):EPost P v L w i6 i7 w':=by have⟨p,t,a,b,c,d,k⟩:=h;exact⟨p,t,a,b,λhb=>by simp_all,by simp_all,k⟩
theorem xwt(d:vky n F)(i:s.s=false->∀g,g<f->qvi n F g)(g:Nat)(w:World)(P:Nat)(v:Value)(L:List Tok)(st:RS)(h:Pd w P v L st)(j:st.s=false->s.s=false/\g<f/\8*(L.length-st.v)+(7-n)<=g):og F #[pT P] w λe w'=>EPost P v L w (rX g n .nil L st) e w':=by
 cases hb:st.s
 ·have:=j hb;exact i this.1 g this.2.1 w P v L st h<|λ_=>this.2.2
 ·exact d g w P v L st hb h
theorem jzy:vky 4 296:=λg w P v L st hb h=>by have:=jkw 0 (λh=>ay) h (λh=>by simp_all);exact this.mono λe w' d=>d.U (by rw[kk2 hb,kk2 hb]) (λh=>by rw[kk2 hb,hb]at h;cases h)
theorem pk7(f:Nat)(d:∀g,g<f->qvi 0 210 g):qvi 4 296 f:=λw P v L st h e=>by
 cases hb:st.s
 ·have:=e hb;obtain⟨f,rfl⟩:=qqy f;rw[jwn];simp only[hb,ru,Xv];exact jkw f (λ_ g i=>d g aj) h<|λ_=>aj
 ·exact jzy f w P v L st hb h
theorem vkk(l:List UInt8)(d:l∈lits)(w:World)(P:Nat)(v:Value)(L:List Tok)(st:RS)(h:Pd w P v L st):og 205 #[pT P,.string ⟨l.toArray⟩] w λe w'=>∃b,rT e (.bool b)/\zk L l st=b/\Pd w' P v L (if b then {st with v:=st.v+1} else st)/\Kept P w w':=
 (kxm l d h).mono λ_ _ ⟨a,b,c⟩=>⟨_,a,rfl,b,c⟩
theorem py4(i:kq6 L)(e:s.v<L.length)(h:jvf L n F fin x s)(d:zk L l s=true)(hi:s.s=false->kv6 n (tk L s.v)=true)(hn:n<4:=by omega):s.s=false/\s.v+1<L.length/\(tk L s.v).x.toList=l/\∃g,g+1<F/\8*(L.length-s.v)+1<=g+1 /\
  (if n=2 then (opX (tk L s.v).x x (rX g (n+1) .nil L {s with v:=s.v+1}).1,(rX g (n+1) .nil L {s with v:=s.v+1}).2)
   else rX g (10+n) (opX (tk L s.v).x x (rX g (n+1) .nil L {s with v:=s.v+1}).1) L (rX g (n+1) .nil L {s with v:=s.v+1}).2)=fin:=
 have ⟨f,hb⟩:=kz8 d
 ⟨hb,(kz9 i e d).2,f,vke hn h hb<|hi hb⟩
theorem qwb(Y:n=3/\F=286/\lo=296\/n=1/\F=241/\lo=259\/n=0/\F=210/\lo=241)(f:Nat)(w:World)(P:Nat)(v:Value)(L:List Tok)(st:RS)(V:vky (n+1) lo)(W:st.s=false->∀g,g<f->qvi (n+1) lo g)(h:Pd w P v L st)(X:st.s=false->8*(L.length-st.v)+(7-n)<=f):Calls prog F #[pT P] w λe w'=>EPost P v L w (rX f n .nil L st) e w':=by
 have E:=h.in;have j:=h.ok;have H:=xwt V W;have I:=λ(t:PX) Z=>zvd (L:=L) (st:=st) (t:=t) (n:=n) aj X Z
 generalize rX f n .nil L st=fin at *;have U:(rX (f-1) (n+1) .nil L st).2.s=false->st.s=false:=λhb=>by grind [kk2]
 have O:n≠2/\n<4:=aj;obtain⟨(q:Hid _),rfl,rfl⟩|⟨(q:Hid _),rfl,rfl⟩|⟨(q:Hid _),rfl,rfl⟩:=Y;all_goals
  go_in;go_wp21;refine(H (f-1) _ P v L st h<|λhb=>⟨hb,by grind,by grind⟩).mono ?_;rintro e w1 ⟨p1,t1,rfl,a1,Q,H1,a0⟩;have D:=I t1 Q;generalize (rX (f-1) (n+1) .nil L st).2=s1 at *;go_wp21;go_loopw [3] (λle wr=>∃(p:Option Addr)(t:PX)(s:RS),le=.pointer p/\XIs w.heap.size wr t (.pointer p)/\jvf L n f fin t s/\(s.s=false->st.s=false)/\Pd wr P v L s/\Kept P w wr) (λ_ wr=>L.length-zx2 wr P)
  ·grind
  obtain⟨p,t,s,rfl,k,D,G,C,i⟩:=hrel;have d:=C.lt;go_wp21;refine(vkk _ ak _ P v L s C).mono ?_;rintro e u ⟨b,rfl,J,B,l⟩;have k:=k.kept l E;have i:=i.trans l;cases b;case' true=>go_wp21
  case' false=>
   go_wp21;try
    refine(vkk _ ak _ P v L s B).mono ?_;rintro e u ⟨b,rfl,J,B,l⟩;have k:=k.kept l E;have i:=i.trans l;cases b;all_goals go_wp21
  all_goals first
   |have ⟨hb,N,S,g,K,M,x⟩:=py4 j d D J (λhb=>by cases q;simp[xws j d hb,xwo j d hb,xwa j d hb, *])
    rw[Xy O.1]at x;refine(H g _ P v L {s with v:=s.v+1} B (λ_=>⟨G hb,aj,by grind⟩)).mono ?_;rintro e w6 ⟨p6,t6,rfl,T,R,m,z⟩;have A:=kvl g (n+1) .nil L {s with v:=s.v+1};have y:=i.trans z;generalize rX g (n+1) .nil L {s with v:=s.v+1}=r6 at *;go_wp2;exact⟨⟨_,_,r6.2,rfl,XIs.new (k.kept z E) (T.mono i.size) y.size (qz3 (by rw[S];rfl)),(vka K M A d x R),λ_=>G hb,m.alloc _,y.alloc _⟩,by have:=(qqq C m hb N<|λ_=>A);exact(by rw[(m.alloc _).nx,<-m.nx];omega)⟩
   |have ⟨a2,a3⟩:=jxi aj D (λhb=>by cases q;simp[xws j d hb,xwo j d hb,xwa j d hb, *])
    go_ret;exact⟨p,t,rfl,k,λhb=>by simp_all,by simp_all,i⟩
theorem qvt(f:Nat)(K:vky 3 286)(M:st.s=false->∀g,g<f->qvi 3 286 g)(h:Pd w P v L st)(N:st.s=false->8*(L.length-st.v)+(7-2)<=f):Calls prog 259 #[pT P] w λe w'=>EPost P v L w (rX f 2 .nil L st) e w':=by
 have m:=h.in;have z:=h.ok;have C:=xwt K M;have D:=λ(t:PX) O=>zvd (L:=L) (st:=st) (t:=t) (n:=2) aj N O
 generalize rX f 2 .nil L st=fin at *;go_in;go_wp21;refine(C (f-1) _ P v L st h<|λhb=>⟨hb,by grind,by grind⟩).mono ?_;rintro e Z ⟨p,t,rfl,i,F,B,d⟩;have E:=D t F;have J:(rX (f-1) 3 .nil L st).2.s=false->st.s=false:=λhb=>by grind [kk2]
 generalize (rX (f-1) 3 .nil L st).2=s at *;have l:=B.lt;go_wp21;refine(vkk _ ak _ P v L s B).mono ?_;rintro e u ⟨b,rfl,A,k,j⟩;have i:=i.kept j m;have d:=d.trans j;cases b;case' false=>
  go_wp21;refine(vkk _ ak _ P v L s k).mono ?_;rintro e u ⟨b,rfl,A,k,j⟩;have i:=i.kept j m;have d:=d.trans j;cases b;case' false=>
   go_wp21;refine(vkk _ ak _ P v L s k).mono ?_;rintro e u ⟨b,rfl,A,k,j⟩;have i:=i.kept j m;have d:=d.trans j;cases b;case' false=>
    have ⟨S,T⟩:=jxi aj E (λhb=>by simp[xwf z l hb, *]);go_wp2;go_ret;exact⟨p,t,rfl,i,λhb=>by simp_all,by simp_all,d⟩
 all_goals
  have ⟨hb,W,G,g,U,V,q⟩:=py4 z l E A (λhb=>by simp[xwf z l hb, *]);rw[lJ rfl]at q;go_wp21;refine(C g _ P v L {s with v:=s.v+1} k (λ_=>⟨J hb,aj,by grind⟩)).mono ?_;rintro e w6 ⟨X,Q,rfl,H,R,I,y⟩;have x:=d.trans y;generalize rX g _ .nil L {s with v:=s.v+1}=Y at *;go_wp2;go_ret;rw[<-q];exact⟨_,opX (tk L s.v).x t Q,rfl,XIs.new (i.kept y m) (H.mono d.size) x.size (qz3 (by rw[G];rfl)),λhb=>by simp_all,I.alloc _,x.alloc _⟩
theorem xq1(h:∀(w:World)(P:Nat)(v:Value)(L:List Tok)(st:RS),st.s=true->Pd w P v L st->og F #[pT P] w λe w'=>EPost P v L w (rX 0 n .nil L st) e w'):vky n F:=λg w P v L st hb f=>
 (h w P v L st hb f).mono λe w' d=>d.U (by rw[kk2 hb,kk2 hb]) (λh=>by rw[kk2 hb,hb]at h;cases h)
theorem pq0:vky 3 286:=xq1 λw P v L st hb h=>
 qwb (.inl ⟨rfl,rfl,rfl⟩) 0 w P v L st jzy (by simp[hb]) h (by simp[hb])
theorem qy9:vky 2 259:=xq1 λw P v L st hb h=>
 qvt 0 pq0 (by simp[hb]) h (by simp[hb])
theorem xza:vky 1 241:=xq1 λw P v L st hb h=>
 qwb (.inr<|.inl ⟨rfl,rfl,rfl⟩) 0 w P v L st qy9 (by simp[hb]) h (by simp[hb])
theorem exprs(f:Nat):qvi 0 210 f/\qvi 1 241 f/\qvi 2 259 f/\qvi 3 286 f/\qvi 4 296 f:=by
 induction f using Nat.strongRecOn with
 |ind f ih=>
  refine⟨?_,?_,?_,?_,(pk7 f<|λg d=>(ih g d).1)⟩
  ·exact λw P v L st h e=>qwb (.inr<|.inr ⟨rfl,rfl,rfl⟩) f w P v L st xza (λ_ g d=>(ih g d).2.1) h e
  ·exact λw P v L st h e=>qwb (.inr<|.inl ⟨rfl,rfl,rfl⟩) f w P v L st qy9 (λ_ g d=>(ih g d).2.2.1) h e
  ·exact λw P v L st h e=>qvt f pq0 (λ_ g d=>(ih g d).2.2.2.1) h e
  ·exact λw P v L st h e=>qwb (.inl ⟨rfl,rfl,rfl⟩) f w P v L st jzy (λ_ g d=>(ih g d).2.2.2.2) h e
theorem qyo(h:Pd w P v L st):og 210 #[pT P] w λe w'=>EPost P v L w (rX (kqb L) 0 .nil L st) e w':=
 (exprs<|kqb L).1 w P v L st h (λ_=>by unfold kqb;omega)
end Go.Proofs.YtpmcnonmkghokaaGreatDoor

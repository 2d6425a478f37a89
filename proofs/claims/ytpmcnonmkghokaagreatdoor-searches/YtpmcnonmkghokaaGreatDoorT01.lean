import Derived.Test.YtpmcnonmkghokaaGreatDoorT00
import Derived.Deep.RegionHeld3
import Derived.Deep.RegionLaw
import Derived.Deep.AppendLies
import Derived.Laws.AppendOwnNone
import Derived.Lib.Strings
import Derived.Lib.Slices
import Derived.Lib.Walk
import Derived.Lib.Bytealg
import Derived.OwnWalk
import Derived.Maps.AppendAt
set_option maxRecDepth 100000
set_option maxHeartbeats 4000000
set_option linter.unusedVariables false
set_option linter.unusedSimpArgs false
namespace Go.Proofs.YtpmcnonmkghokaaGreatDoor
open Go.Proofs.Tryz Go.RowKit
variable {a:Act}{p:Addr}{ops:Array Oper}{a0:Bool}{s:ByteArray}{Q:Exit->Act->World->Prop}{a6 d:Int}{rest:List Oper}{a8:List PP}{e5:List PP×RS}{L m:List Tok}{l:List UInt8}{xs zs:List Value}{A B P R T b base f i k lo n size:Nat}{b8:Obj}{o:Oper}{b3 b4:Operand}{d6 st:RS}{b7:Tok}{d7 d8:Tok×RS}{α:Type}{a3:TypeId}{u v x x0 x1 x2 x3 x4 y0 y1 y2 y3 z:Value}{U w w' w0:World}
structure PSet where
 y:Tok
 size:Tok
def kwz(s:PSet):List Value:=ji s.y++ji s.size
def kwj(l:List PSet):List Value:=l.flatMap kwz
theorem jqj(l:List PSet)(p:PSet):kwj (l++[p])=kwj l++kwz p:=by simp[kwj]
def kvc(L:List Tok)(st:RS):PSet×RS:=
 (⟨(zq L mX<|qg L ni st).1,(zq L mW (zq L mX<|qg L ni st).2).1⟩,
  qg L [59] (zq L mW (zq L mX<|qg L ni st).2).2)
def kyx:Nat->List Tok->List PSet->RS->List PSet×RS
 |0,_,l,st=>(l,st)
 |f+1,L,l,st=>if zk L ni st then kyx f L (l++[(kvc L st).1]) (kvc L st).2 else (l,st)
structure PKind where
 y:Tok
 i:List Tok
def kxz(L:List Tok)(st:RS):PKind×RS:=
 (⟨(zq L mX<|qg L ny st).1,(kkr L (zq L mX<|qg L ny st).2).1⟩,(kkr L (zq L mX<|qg L ny st).2).2)
def qqe:Nat->List Tok->List PKind->RS->List PKind×RS
 |0,_,l,st=>(l,st)
 |f+1,L,l,st=>if zk L ny st then qqe f L (l++[(kxz L st).1]) (kxz L st).2 else (l,st)
theorem qvj(h:zk L l st=true)(a:opens l=false):(qg L l st).v=st.v+1:=by grind [qg]
theorem jqd(h:zk L ni st=true):st.v+1<=(kvc L st).2.v:=by have h1:=qvj h rfl;have a:=kj1 L mX<|qg L ni st;have b:=kj1 L mW (zq L mX<|qg L ni st).2;have c:=yh L [59] (zq L mW (zq L mX<|qg L ni st).2).2;show st.v+1<=(qg L [59] (zq L mW (zq L mX<|qg L ni st).2).2).v;omega
theorem kv1(hb:oq w w')(a:p.block<w.heap.size)(h:w.frozen? p=a0):w'.frozen? p=a0:=(hb.frozen a).trans h
theorem Kept.toBelow(h:Kept R w w')(a:B<=R)(c:B<=w.heap.size):Below B w w':=
 ⟨h.os,h.tape,h.output,h.size,λk b=>h.block k aj aj⟩
def vyy(B R T:Nat)(w:World)(v:Value)(L:List Tok)(fin:List PSet×RS)(m:Value)(wr:World):Prop:=
 ∃(l:List PSet)(st:RS)(g:Nat)(x:Value),m=.bool (zk L ni st)/\wr.heap[T]?=some (.cells #[x,.slice none 0 0,.slice none 0 0,.slice none 0 0,.slice none 0 0] 157 (0,0)) /\
  wr.ownsRow (T+1) 231 6 x l.length (kwj l)/\Rd wr R v L st/\Below B w wr/\kyx g L l st=fin/\L.length-st.v+1<=g/\l.length<=st.v
theorem kqx(h:w.ownsRow lo B P u A xs)(hv:w.ownsRow base b size v n zs)(d:B≠b)(a:w.grownBy w' v.ownBlock):w'.ownsRow lo B P u A xs:=by
 refine h.kept a ?_;cases c:u.ownBlock with
 |none=>simp
 |some j=>
  refine .inr λf=>?_
  obtain⟨rfl,_⟩|⟨g,cap,cur,rfl,_,e,_⟩:=h.2
  ·simp[Value.ownBlock]at c
  grind [Value.ownBlock,not_row]
def kjt(lo:Nat)(w:World):List PKind->List Value->Prop
 |[],xs=>xs=[]
 |k::ks,xs=>∃vm ys,xs=ji k.y++(vm::ys)/\w.ownsRow lo 142 3 vm k.i.length (uw k.i)/\kjt lo w ks ys
theorem kjt.stay(a:∀k,lo<=k->k<w.heap.size->w'.heap[k]?=w.heap[k]?):∀{ks:List PKind}{xs:List Value},kjt lo w ks xs->kjt lo w' ks xs
 |[],_,h=>h
 |k::ks,xs,⟨vm,ys,e,h1,h2⟩=>⟨vm,ys,e,xg a h1,kjt.stay a h2⟩
theorem kjt.kept{a2:List PKind}(h:kjt lo w a2 xs)(b:Kept R w w')(hR:R<lo):kjt lo w' a2 xs:=h.stay λk h1 a=>b.block k a aj
theorem kjt.snoc{k:PKind}(a:w.ownsRow lo 142 3 u k.i.length (uw k.i)):∀{ks:List PKind}{xs:List Value},kjt lo w ks xs->kjt lo w (ks++[k]) (xs++(ji k.y++[u]))
 |[],xs,h=>by
  have:xs=[]:=h;subst this;exact⟨u,[],rfl,a,rfl⟩
 |k'::ks,xs,⟨v,ys,e,h1,h2⟩=>⟨v,ys++(ji k.y++[u]),by simp_all,h1,kjt.snoc a h2⟩
theorem kjt.grown(hv:w.ownsRow base P size v n zs)(a:142≠P)(b:w.grownBy w' v.ownBlock):∀{ks:List PKind}{xs:List Value},kjt lo w ks xs->kjt lo w' ks xs
 |[],_,h=>h
 |k::ks,xs,⟨vm,ys,e1,h1,h2⟩=>⟨vm,ys,e1,kqx h1 hv a b,kjt.grown hv a b h2⟩
theorem infoKind:(prog.info? 234).map (λi=>(i.zero,i.size,i.bytes))=some (some (.agg #[.string ⟨#[]⟩,.string ⟨#[]⟩,.int .i64 0,.slice none 0 0]),4,64):=au
theorem xjh(h:w.heap[b]?=some (.cells #[x0,x1,x2,x3] a3 (0,0))):(puts b [v,u,x] 0 w).heap[b]?=some (.cells #[v,u,x,x3] a3 (0,0)):=zju h
def vyd(B R T:Nat)(w:World)(v:Value)(L:List Tok)(sets:List PSet)(fin:List PKind×RS)(m:Value)(wr:World):Prop:=
 ∃(l:List PKind)(st:RS)(g:Nat)(x0 x:Value)(xs:List Value),m=.bool (zk L ny st)/\wr.heap[T]?=some (.cells #[x0,x,.slice none 0 0,.slice none 0 0,.slice none 0 0] 157 (0,0)) /\
  wr.ownsRow (T+1) 231 6 x0 sets.length (kwj sets)/\wr.ownsRow (T+1) 234 4 x l.length xs/\kjt (T+1) wr l xs/\Rd wr R v L st/\Below B w wr/\qqe g L l st=fin/\L.length-st.v+1<=g/\l.length<=st.v
def kzb(L:List Tok)(st:RS):List PSet×List PKind×RS:=
 ((kyx (kq2 L) L [] st).1,qqe (kq2 L) L [] (kyx (kq2 L) L [] st).2)
def pkz(B R T:Nat)(v:Value)(L:List Tok)(w:World)(r:List PSet×List PKind×RS)(e:Ending)(w':World):Prop:=
 e=.returned (.tuple #[])/\∃x0 x1 ys,w'.heap[T]?=some (.cells #[x0,x1,.slice none 0 0,.slice none 0 0,.slice none 0 0] 157 (0,0))/\w'.ownsRow (T+1) 231 6 x0 r.1.length (kwj r.1) /\
  w'.ownsRow (T+1) 234 4 x1 r.2.1.length ys/\kjt (T+1) w' r.2.1 ys/\Rd w' R v L r.2.2/\Below B w w'/\r.1.length<=801/\r.2.1.length<=801
theorem jxq(L:List Tok)(st:RS):st.v<=(kkr L st).2.v:=by
 have h:∀(f:Nat)(l:List Tok)(s:RS),s.v<=(kkn f L l s).2.v:=by
  intro f;induction f with
  |zero=>intro l s;exact jH
  |succ f ih=>
   grind [kkn,kj1,yh]
 exact rP (yh L [123] st)<|rP (h _ _ _) (yh L [125] _)
theorem zvs(h:zk L ny st=true):st.v+1<=(kxz L st).2.v:=by have h1:=qvj h rfl;have a:=kj1 L mX<|qg L ny st;have b:=jxq L (zq L mX<|qg L ny st).2;show st.v+1<=(kkr L (zq L mX<|qg L ny st).2).2.v;omega
theorem pxu(T:Nat)(h:Rd w R v L st)(z:B<=R)(b4:R<T)(hV:∀g,v.ownBlock=some g->g<B)(hT:w.heap[T]?=some (.cells #[.slice none 0 0,.slice none 0 0,.slice none 0 0,.slice none 0 0,.slice none 0 0] 157 (0,0))):Calls prog 102 #[.pointer (some ⟨R,0,none⟩),.pointer (some ⟨T,0,none⟩)] w (pkz B R T v L w<|kzb L st):=by
 have ⟨i1,hj,cX,cY,cZ⟩:=info_parts infoKind;have HV:=oz hV;have cC:=wQ hT;go_in;go_wp21;refine(kjg ni h).mono ?_;rintro e w1 ⟨rfl,h1,b7⟩;have HR:=show vyy B R T w v L (kyx (kq2 L) L [] st) (.bool<|zk L ni st) w1 from
  ⟨[],st,kq2 L,.slice none 0 0,rfl,(b7.block T cC aj).trans hT,oN,h1,b7.toBelow z aj,rfl,by unfold kq2;omega,jR⟩
 clear hV hT;go_wp2;go_loopw [4] (λm wr=>vyy B R T w v L (kyx (kq2 L) L [] st) m wr) (λ_ wr=>L.length-kk4 wr R);exact HR;obtain⟨l,N,g,x,rfl,(S:Hid _),Q,H2,P,(HF:Hid _),cD,cV⟩:=hrel;have bJ:=H2.lt;have cM:=H2.T;have a8:=wQ H2.rd;have aB:=wQ S;have bZ:=P.size;cases hn:zk L ni N
 ·obtain⟨g,rfl⟩:=qqy g;have f:=ku HF;rw[kyx,hn]at f;simp only[ru,Xv]at f;have HF:=oz f;have cE:l.length<=801:=aj;clear f cD;go_wp21;refine(kjg ny H2).mono ?_;rintro e w3 ⟨rfl,h3,u⟩;have bP:=show vyd B R T w v L l (qqe (kq2 L) L [] N) (.bool<|zk L ny N) w3 from
   ⟨[],N,kq2 L,x,.slice none 0 0,[],rfl,(u.block T aB aj).trans S,jr Q u aj,oN,rfl,h3,P.trans<|u.toBelow z aj,rfl,by unfold kq2;omega,jR⟩
  go_wp2;go_loopw [6] (λm wr=>vyd B R T w v L l (qqe (kq2 L) L [] N) m wr) (λ_ wr=>L.length-kk4 wr R);exact bP;clear aB a8 bZ bJ;obtain⟨E,s5,g5,x0,x1,xs,rfl,(S:Hid _),aV,Q,aU,C,P,(aT:Hid _),cL,cU⟩:=hrel;have cN:=C.lt;have cG:=C.T;have b3:=wQ C.rd;have cB:=wQ S;have cI:=P.size;cases aI:zk L ny s5
  ·obtain⟨g5,rfl⟩:=qqy g5;have f:=ku aT;rw[qqe,aI]at f;simp only[ru,Xv]at f;have a1:=oz f;clear f;go_wp2;go_end0;have e1:=ku HF;have e2:=ku a1;have e3:kzb L st=(l,E,s5):=by grind [kzb]
   rw[e3];exact⟨rfl,x0,x1,xs,S,aV,Q,aU,C,P,cE,by grind⟩
  ·obtain⟨g5,rfl⟩:=qqy g5;have f:=ku aT;rw[qqe,lJ aI]at f;have a1:=oz f;clear f;have D:=zvs aI;obtain⟨I,H⟩:=ju (show ∀g,v.ownBlock=some g->g<wr.heap.size from λg s=>kP) (kq9 Q);go_wp21;refine(kq1 ny<|C.below (jZ _)).mono ?_;rintro e w6 ⟨rfl,H6,A⟩;have a6:=oz<|(A.block wr.heap.size ay aj).trans (Xk wr _);have G:=((Kept.refl R wr).alloc _).trans A;go_wp21
   refine(kxu mX H6 rfl).mono ?_;rintro e w7 ⟨rfl,H7,b8⟩;have aN:=(b8.block wr.heap.size (wQ a6) aj).trans a6;have d0:=row4 aN;have a7:=oz aN;have bO:=G.trans b8;clear aN;generalize U:zq L mX (qg L ny s5)=k at H7 |-;have E1:=oz U;clear U;unfold kxt;go_wp21
   refine(vz7<|H7.qwv I b3 jH).mono ?_;rintro e w8 ⟨vm,rfl,bC,H8,b9,cW⟩;have aO:=(b9.block wr.heap.size (by simpa using wQ a7) aj).trans<|xjh a7;have cA:=(bO.qwv (b:=wr.heap.size)<|jH).trans b9;have cQ:=wQ a7;have a4:=qo (lo':=wr.heap.size+1) ah bC;clear d0;have d0:=row4 aO;obtain⟨ma,i,mc,rfl⟩:=qh bC;generalize bB:kkr L k.2=M at a4 H8;have E2:=oz bB;have bA:(Value.slice ma i mc).ownBlock≠some wr.heap.size:=λe=>by have:=jo a4 _ e;omega
   have Z:=Xx w8 wr.heap.size 3 _ _ (.slice ma i mc) aO;have q:=cA.jm (p:=⟨wr.heap.size,3,none⟩) jH<|.slice ma i mc;have H9:=H8.jm I b3 (p:=⟨wr.heap.size,3,none⟩) jH<|.slice ma i mc;have a5:=ownsRow_setCell_other a4 (a:=⟨wr.heap.size,3,none⟩) bA<|.slice ma i mc;clear bB;go_wp2
   generalize w8.setCell ⟨wr.heap.size,3,none⟩ (.slice ma i mc)=F at Z q H9 a5 |-;clear d0;have d0:=row4 Z;have X:=(q.block T cB aj).trans S;have ⟨q0,q1,q2,q3,q4,r0,r1,r2,r3,r4⟩:=kzk X;have aD:=wQ X;have cR:=wQ Z;have d2:=q.size;have bX:=oz X;have V:=jr Q q aj;have bG:=jr aV q aj;have bF:=aU.kept q aj;have y:x1.ownBlock≠some T:=λe=>by have:=jo V T e;omega
   have cF:x1.ownBlock≠some wr.heap.size:=λe=>by have:=ku H _ e;omega
   clear aO Z X bA;go_region_law ((refine apL (news:=(ji k.1++[Value.slice ma i mc])) ((V.alloc _).drew) (Xk F _) ?_;intro gg cap O aJ c aE cH;have cK:O.frozen? ⟨T,1,none⟩=false:=(c.frozen_far _ ah<|Ne.symm y).trans<|kv1 (jy _) aD r1;have cJ:O.cell? ⟨T,1,none⟩=some x1:=(c.cell_far _ ah<|Ne.symm y).trans<|wU (jy _) q1))
   all_goals
    have J:=jo V;have bY:=(H9.below<|jy _).grown c J (λg s=>kP) aj;have bK:=bY.jm (B:=T) (λg s=>kP) b4 (p:=⟨T,1,none⟩) jH<|.slice (some ⟨gg,0,none⟩) (E.length+1) cap;have a9:=(c.block T ah<|Ne.symm y).trans<|(tC F _ T aD).trans bX;have aA:=Xx O T 1 _ _ (.slice (some ⟨gg,0,none⟩) (E.length+1) cap) a9;have bH:=ownsRow_setCell_below aJ (a:=⟨T,1,none⟩) ay<|.slice (some ⟨gg,0,none⟩) (E.length+1) cap;have aK:=(V.alloc<|.cells (ji k.1++[Value.slice ma i mc]).toArray 234).drew;have aQ:=ownsRow_setCell_below (kqx (xg (w':=(F.alloc<|.cells (ji k.1++[Value.slice ma i mc]).toArray 234).drew) (λj _ hj=>tC F _ j hj) bG) aK ak c) (a:=⟨T,1,none⟩) ay<|.slice (some ⟨gg,0,none⟩) (E.length+1) cap;have aP:=((((bF.snoc (k:=⟨k.1,M.1⟩)<|qo aj a5).stay (w':=(F.alloc<|.cells (ji k.1++[Value.slice ma i mc]).toArray 234).drew)<|λj _ hj=>tC F (.cells (ji k.1++[Value.slice ma i mc]).toArray 234) j hj).grown aK ak c).stay (w':=O.setCell ⟨T,1,none⟩<|.slice (some ⟨gg,0,none⟩) (E.length+1) cap)<|λj hj _=>hsC<|by grind);have a0:Below B w (O.setCell ⟨T,1,none⟩<|.slice (some ⟨gg,0,none⟩) (E.length+1) cap):=
     ((((P.trans<|q.toBelow z aj).alloc aj _).drew).grown c ah<|λk U=>by grind).setCell (by grind) _
    have a3:=oz aA;clear a9 aA J aE;go_wp21;refine(kjg ny bK).mono ?_;rintro e bD ⟨rfl,b2,t⟩;have K:kxz L s5=(⟨k.1,M.1⟩,M.2):=by unfold kxz;rw[ku E1,ku E2]
    have f:=ku a1;rw[K]at f D;have bI:=show vyd B R T w v L l (qqe (kq2 L) L [] N) (.bool<|zk L ny M.2) bD from
     ⟨E++[⟨k.1,M.1⟩],M.2,g5,x0,.slice (some ⟨gg,0,none⟩) (E.length+1) cap,xs++(ji k.1++[Value.slice ma i mc]),rfl,(t.block T (by simpa using wQ a3) aj).trans a3,jr aQ t aj,
      by rw[rD];exact jr bH t aj,aP.kept t aj,b2,a0.trans (t.toBelow z (by have:=a0.size;omega)),f,by grind,by grind⟩
    have HM:=oz (by rw[b2.kk4,(ku C).kk4];grind:L.length-kk4 bD R<L.length-kk4 wr R);clear K f;go_wp2;exact⟨bI,HM⟩
 ·obtain⟨g,rfl⟩:=qqy g;have f:=ku HF;rw[kyx,lJ hn]at f;have HF:=oz f;clear f;have D:=jqd hn;obtain⟨I,H⟩:=ju (show ∀g,v.ownBlock=some g->g<wr.heap.size from λg s=>kP) (kq9 Q);go_wp21;refine(kq1 ni<|H2.below (jZ _)).mono ?_;rintro e w3 ⟨rfl,H3,u⟩;have aX:=oz<|(u.block wr.heap.size ay aj).trans (Xk wr _);have bL:=((Kept.refl R wr).alloc _).trans u;have bQ:=jr (Q.alloc _) u aj;go_wp21
  refine(kxu mX H3 rfl).mono ?_;rintro e w4 ⟨rfl,H4,aF⟩;have aL:=(aF.block wr.heap.size (wQ aX) aj).trans aX;have d0:=kzh aL;have aY:=oz aL;have bM:=bL.trans aF;have bS:=jr bQ aF aj;clear aL;generalize U:zq L mX (qg L ni N)=k at H4 |-;have E1:=oz U;clear U;unfold kxt;go_wp21
  refine(kxu mW (H4.qwv I a8<|jH) rfl).mono ?_;rintro e w5 ⟨rfl,C,aG⟩;have aM:=(aG.block wr.heap.size (by simpa using wQ aY) aj).trans<|pvf aY;have bN:=(bM.qwv (b:=wr.heap.size)<|jH).trans aG;have bT:=jr (zkp bS H<|jH) aG aj;clear d0;have d0:=kzh aM;have aZ:=oz aM;clear aM;generalize hd:zq L mW k.2=d at C |-;have E2:=oz hd;clear hd;unfold kxt;go_wp21
  refine(kq1 [59]<|C.qwv I a8 jH).mono ?_;rintro e w6 ⟨rfl,H6,A⟩;have Y:=(A.block wr.heap.size (by simpa using wQ aZ) aj).trans<|xxw aZ;have G:=(bN.qwv (b:=wr.heap.size)<|jH).trans A;have a2:=jr (zkp bT H<|jH) A aj;have W:=(G.block T aB aj).trans S;clear d0;have d0:=kzh Y;have ⟨q0,q1,q2,q3,q4,r0,r1,r2,r3,r4⟩:=kzk W;have d1:=G.size;have cP:=wQ Y;have aC:=wQ W;have y:x.ownBlock≠some T:=λe=>by have:=jo a2 T e;omega
  have cF:x.ownBlock≠some wr.heap.size:=λe=>by have:=ku H _ e;omega
  obtain⟨a6,bW⟩:=ju Y W;clear Y W;go_wp2;go_region_law ((refine apL (news:=(kwz ⟨k.1,d.1⟩)) ((a2.alloc _).drew) (Xk w6 _) ?_;intro gg cap w7 aR c aE cO;have cT:w7.frozen? ⟨T,0,none⟩=false:=(c.frozen_far _ ah<|Ne.symm y).trans<|kv1 (jy _) aC r0;have cS:w7.cell? ⟨T,0,none⟩=some x:=(c.cell_far _ ah<|Ne.symm y).trans<|wU (jy _) q0))
  all_goals
   have J:=jo a2;have h7:=(H6.below<|jy _).grown c J (λg s=>kP) aj;have H8:=h7.jm (B:=T) (λg s=>kP) b4 (p:=⟨T,0,none⟩) jH<|.slice (some ⟨gg,0,none⟩) (l.length+1) cap;have b5:=(c.block T ah<|Ne.symm y).trans<|(tC w6 _ T aC).trans bW;have b6:=Xx w7 T 0 _ _ (.slice (some ⟨gg,0,none⟩) (l.length+1) cap) b5;have bU:=ownsRow_setCell_below aR (a:=⟨T,0,none⟩) ay<|.slice (some ⟨gg,0,none⟩) (l.length+1) cap;have aS:Below B w (w7.setCell ⟨T,0,none⟩<|.slice (some ⟨gg,0,none⟩) (l.length+1) cap):=
    ((((P.trans<|G.toBelow z aj).alloc aj _).drew).grown c ah<|λk U=>by grind).setCell (by grind) _
   have aW:=oz b6;clear b5 b6 J aE;go_wp21;refine(kjg ni H8).mono ?_;rintro e F ⟨rfl,h9,aH⟩;have K:kvc L N=(⟨k.1,d.1⟩,qg L [59] d.2):=by unfold kvc;rw[ku E1,ku E2]
   have f:=ku HF;rw[K]at f D;have bV:=show vyy B R T w v L (kyx (kq2 L) L [] st) (.bool<|zk L ni (qg L [59] d.2)) F from
    ⟨l++[⟨k.1,d.1⟩],qg L [59] d.2,g,.slice (some ⟨gg,0,none⟩) (l.length+1) cap,rfl,(aH.block T (by simpa using wQ aW) aj).trans aW,
     by rw[jqj,rD];exact jr bU aH aj,h9,aS.trans (aH.toBelow z (by have:=aS.size;omega)),f,by grind,by grind⟩
   have HM:=oz (by rw[h9.kk4,(ku H2).kk4];grind:L.length-kk4 F R<L.length-kk4 wr R);clear K f;go_wp2;exact⟨bV,HM⟩
structure PRule where
 y:Tok
 u:List PP
 guard:PX
 S:PB
structure PTree where
 j:List PSet
 p:List PKind
 z:List PVar
 l:List PRule
 q:List PRule
variable {a7:PTree}
def kyp(l:List PVar):List Value:=l.flatMap kj7
theorem zym(l:List PVar)(p:PVar):kyp (l++[p])=kyp l++kj7 p:=by simp[kyp]
def zzr:Nat->List Tok->List PVar->RS->List PVar×RS
 |0,_,l,st=>(l,st)
 |f+1,L,l,st=>
  if st.s then (l,st)
  else if zk L mD (kyt L st).2 then zzr f L (l++[(kyt L st).1]) (kyt L st).2
  else (l++[(kyt L st).1],(kyt L st).2)
def jqv(L:List Tok)(st:RS):Tok×RS:=zq L mX (qg L nX st)
def qvh(L:List Tok)(st:RS):List PP×RS:=kj0 L (jqv L st).2
def qzs(L:List Tok)(st:RS):PX×RS:=rX (kqb L) 0 .nil L (qg L mY (qvh L st).2)
def kjr(L:List Tok)(st:RS):PRule×RS:=
 (⟨(jqv L st).1,(qvh L st).1,(qzs L st).1,(rS (qqn L) 0 L (qzs L st).2).1⟩,(rS (qqn L) 0 L (qzs L st).2).2)
def qwp:Nat->List Tok->List PRule->RS->List PRule×RS
 |0,_,l,st=>(l,st)
 |f+1,L,l,st=>
  if st.s then (l,st)
  else if zk L nX (kjr L st).2 then qwp f L (l++[(kjr L st).1]) (kjr L st).2
  else (l++[(kjr L st).1],(kjr L st).2)
def zjb(L:List Tok)(st:RS):Tok×RS:=zq L mX (qg L nK st)
def qwn(L:List Tok)(st:RS):List PP×RS:=kj0 L (zjb L st).2
def qvz(L:List Tok)(st:RS):PX×RS:=rX (kqb L) 0 .nil L (qwn L st).2
def kzw(L:List Tok)(st:RS):PRule×RS:=
 (⟨(zjb L st).1,(qwn L st).1,(qvz L st).1,.nil⟩,qg L [59] (qvz L st).2)
def qze:Nat->List Tok->List PRule->RS->List PRule×RS
 |0,_,l,st=>(l,st)
 |f+1,L,l,st=>if zk L nK st then qze f L (l++[(kzw L st).1]) (kzw L st).2 else (l,st)
def kqa:RS:={v:=0,nest:=0,s:=false}
def kw9(L:List Tok):List PVar×RS:=zzr (kq2 L) L [] (kzb L kqa).2.2
def kyq(L:List Tok):List PRule×RS:=qwp (kq2 L) L [] (kw9 L).2
def kwh(L:List Tok):List PRule×RS:=qze (kq2 L) L [] (kyq L).2
def uz(L:List Tok):PTree×Option Nat:=
 (⟨(kzb L kqa).1,(kzb L kqa).2.1,(kw9 L).1,(kyq L).1,(kwh L).1⟩,
  if (kwh L).2.s||!((tk L (kwh L).2.v).t.toList==nG) then some (tk L (kwh L).2.v).v else none)
theorem zzl(L:List Tok):st.v<=(kj0 L st).2.v:=by
 have h:∀(f:Nat)(l:List PP)(s:RS),s.v<=(kws f L l s).2.v:=by
  intro f;induction f with
  |zero=>intro l s;exact jH
  |succ f ih=>
   grind [kws,qk8,yh]
 grind [kj0,yh]
theorem vvg(L:List Tok):st.v<=(kjn L st).2.v:=by grind [kjn,yh,kj1]
theorem pzk(L:List Tok):st.v<=(kku L st).2.v:=by grind [kku,yh,kj1]
theorem qyl(L:List Tok)(st:RS):(qg L mD st).v<=(kyt L st).2.v:=
 rP (kj1 L _ _) (rP (yh L [58] _)<|rP (vvg L) (rP (pzk L)<|yh L [59] _))
theorem jk8(h:st.s=true):(kjn L st).2.s=true:=by simp[kjn,kqk h,h]
theorem vjt(h:st.s=true):(kku L st).2.s=true:=by simp[kku,kqk h,qyf h]
theorem pzx(h:(kyt L st).2.s=false):st.v+1<=(kyt L st).2.v:=by grind [kyt,kkk,vjt,jk8,qyf,qyl,qqd]
theorem qza(L:List Tok)(st:RS):(qg L nX st).v<=(kjr L st).2.v:=
 rP (kj1 L _ _) (rP (zzl L)<|rP (yh L mY _) (rP (kvl _ _ _ L _)<|kkc L _ _ _))
theorem jqc(h:st.s=true):∀(f:Nat)(l:List PP),(kws f L l st).2=st
 |0,_=>rfl
 |f+1,l=>by rw[kws,h];rfl
theorem zvn(h:st.s=true):(kj0 L st).2.s=true:=by grind [kj0,kkk,jqc]
theorem vjr(h:(kjr L st).2.s=false):st.v+1<=(kjr L st).2.v:=by
 have h1:(qg L nX st).s=false:=by
  cases hb:(qg L nX st).s
  ·rfl
  ·have a:(qzs L st).2.s=true:=by unfold qzs;have:(qg L mY (qvh L st).2).s=true:=kkk<|zvn (qyf hb);rw[kk2 this];omega
   grind [kjr,qwg]
 grind [qza,qqd]
theorem zzs(h:zk L nK st=true):st.v+1<=(kzw L st).2.v:=by
 have h1:=qvj h rfl;have a:(qg L nK st).v<=(kzw L st).2.v:=
  rP (kj1 L _ _) (rP (zzl L)<|rP (kvl _ _ _ L _) (yh L [59] _))
 omega
def dw(lo:Nat)(w:World):List PRule->List Value->Prop
 |[],xs=>xs=[]
 |r::rs,xs=>∃vp vg vb ps ys,xs=ji r.y++(vp::vg::vb::ys)/\w.ownsRow lo 236 6 vp r.u.length (kjm r.u)/\yw lo w r.guard vg /\
   w.ownsRow lo 245 1 vb ps.length ps/\jg lo none w r.S ps/\dw lo w rs ys
theorem dw.stay(a:∀k,lo<=k->k<w.heap.size->w'.heap[k]?=w.heap[k]?):∀{rs:List PRule}{xs:List Value},dw lo w rs xs->dw lo w' rs xs
 |[],_,h=>h
 |r::rs,xs,⟨vp,vg,vb,ps,ys,e,h1,h2,h3,h4,h5⟩=>⟨vp,vg,vb,ps,ys,e,xg a h1,h2.stay a,xg a h3,h4.stay a,dw.stay a h5⟩
theorem dw.kept{a4:List PRule}(h:dw lo w a4 xs)(b:Kept R w w')(hR:R<lo):dw lo w' a4 xs:=h.stay λk h1 a=>b.block k a aj
theorem dw.snoc{r:PRule}{ps:List Value}(h1:w.ownsRow lo 236 6 v r.u.length (kjm r.u))(d:yw lo w r.guard u)(f:w.ownsRow lo 245 1 x ps.length ps)(g:jg lo none w r.S ps):∀{rs:List PRule}{xs:List Value},dw lo w rs xs->dw lo w (rs++[r]) (xs++(ji r.y++[v,u,x]))
 |[],xs,h=>by
  have:xs=[]:=h;subst this;exact⟨v,u,x,ps,[],rfl,h1,d,f,g,rfl⟩
 |r'::rs,xs,⟨a,b,c,q,ys,e,k1,k2,k3,k4,k5⟩=>⟨a,b,c,q,ys++(ji r.y++[v,u,x]),by simp_all,k1,k2,k3,k4,dw.snoc h1 d f g k5⟩
theorem yw.far(hv:w.ownsRow base P size v n xs)(a:242≠P)(b:w.grownBy w' v.ownBlock):∀{x:PX}{p:Value},yw lo w x p->yw lo w' x p
 |.nil,_,h=>h
 |.node _ _ _ _ _,_,⟨k,va,vb,e1,hn,hh,ha,hb⟩=>⟨k,va,vb,e1,hn,jB,yw.far hv a b ha,yw.far hv a b hb⟩
theorem jg.far{a5:Option Nat}(hv:w.ownsRow base P size v n xs)(d:242≠P)(e:247≠P)(f:245≠P)(c:w.grownBy w' v.ownBlock):∀{b:PB}{ps:List Value},jg lo a5 w b ps->jg lo a5 w' b ps
 |.nil,_,h=>h
 |.node _ _ a .nil nx,ps,⟨k,vp,vv,vi,qs,e1,hl,hh,ha,hn⟩=>⟨k,vp,vv,vi,qs,e1,hl,by rw[c.block k (wQ hh) (not_row hv hh e)];exact hh,⟨ha.1.far hv d c,ha.2.1.far hv d c,ha.2.2.far hv d c⟩,jg.far hv d e f c hn⟩
 |.node _ _ a (.node _ _ _ t e') nx,ps,⟨k,vp,vv,vi,vt,ve,qt,qe,qs,e1,hl,hh,ha,⟨ht1,ht3,ht2⟩,⟨he1,he3,he2⟩,hn⟩=>
  ⟨k,vp,vv,vi,vt,ve,qt,qe,qs,e1,hl,by rw[c.block k (wQ hh) (not_row hv hh e)];exact hh,⟨ha.1.far hv d c,ha.2.1.far hv d c,ha.2.2.far hv d c⟩,
   ⟨kqx ht1 hv f c,ht3,jg.far hv d e f c ht2⟩,⟨kqx he1 hv f c,he3,jg.far hv d e f c he2⟩,jg.far hv d e f c hn⟩
theorem dw.far(hv:w.ownsRow base P size v n zs)(b:242≠P)(d:247≠P)(c:245≠P)(e:236≠P)(a:w.grownBy w' v.ownBlock):∀{rs:List PRule}{xs:List Value},dw lo w rs xs->dw lo w' rs xs
 |[],_,h=>h
 |r::rs,xs,⟨vp,vg,vb,ps,ys,e1,h1,h2,h3,h4,h5⟩=>⟨vp,vg,vb,ps,ys,e1,kqx h1 hv e a,h2.far hv b a,kqx h3 hv c a,h4.far hv b d c a,dw.far hv b d c e a h5⟩
def kqc(w:World)(T:Nat)(t:PTree):Prop:=
 ∃x0 x1 x2 x3 x4 y1 y3 y4,w.heap[T]?=some (.cells #[x0,x1,x2,x3,x4] 157 (0,0))/\w.ownsRow (T+1) 231 6 x0 t.j.length (kwj t.j) /\
  (w.ownsRow (T+1) 234 4 x1 t.p.length y1/\kjt (T+1) w t.p y1)/\w.ownsRow (T+1) 222 12 x2 t.z.length (kyp t.z) /\
  (w.ownsRow (T+1) 147 6 x3 t.l.length y3/\dw (T+1) w t.l y3)/\(w.ownsRow (T+1) 147 6 x4 t.q.length y4/\dw (T+1) w t.q y4)
theorem infoRule:(prog.info? 147).map (λi=>(i.zero,i.size,i.bytes))=some (some (.agg #[.string ⟨#[]⟩,.string ⟨#[]⟩,.int .i64 0,.slice none 0 0,.pointer none,.slice none 0 0]),6,96):=au
def xu(a b:Int):Int:=if a<0\/(0<=b/\b<a) then b else a
theorem first_any:Calls prog 63 #[.int .i64 d,.int .i64 a6] w λe w'=>e=.returned (.int .i64 (xu d a6))/\w'=w:=by
 by_cases h1:d<0
 ·go_wp2;go_ret;simp_all [xu]
 ·by_cases a:0<=a6
  ·by_cases b:a6<d
   ·go_wp2;go_ret;simp_all [xu]
   ·go_wp2;go_ret;exact⟨kqi (by rw[xu,Xy aj]),rfl⟩
  ·go_wp2;go_ret;exact⟨kqi (by rw[xu,Xy aj]),rfl⟩
def qkz(n most:Int)(t:Tok):Int:=if n==most then t.v else -1
theorem qz1(m:Int)(t:Tok):Calls prog 110 #[.int .i64 d,.int .i64 m,kxt t] w λe w'=>e=.returned (.int .i64 (qkz d m t))/\oq w w':=by
 unfold kxt;cases h:(d==m);all_goals
  go_wp2;go_ret;simp_all [qkz,jZ]
def vji(t:Tok)(lo hi:Int):Int:=if mg t.x<lo\/hi<mg t.x then t.v else -1
theorem pqu(t:Tok)(lo hi:Int)(d:∃h:0<t.x.size,48<=((t.x[0]'h).toNat:Int)/\((t.x[0]'h).toNat:Int)<=57):Calls prog 111 #[kxt t,.int .i64 lo,.int .i64 hi] w λe w'=>e=.returned (.int .i64<|vji t lo hi)/\oq w w':=by
 obtain⟨a,h1,f⟩:=d;have b:=oz (by simp[mg,a]:mg t.x=((t.x[0]'a).toNat:Int)-48);unfold kxt;by_cases c:((t.x[0]'a).toNat:Int)-48<lo
 ·go_wp2;go_ret;exact⟨kqi (by rw[vji,ku b,lJ (.inl c)]),jZ _⟩
 ·by_cases g:hi<((t.x[0]'a).toNat:Int)-48
  ·go_wp2;go_ret;exact⟨kqi (by grind [vji,ku]),jZ _⟩
  ·go_wp2;go_ret;exact⟨kqi (by rw[vji,ku b,Xy aj]),jZ _⟩
def zx:List ByteArray->List UInt8->Int
 |[],_=>-1
 |t::l,s=>if t.toList==s then 0 else if zx l s<0 then -1 else zx l s+1
theorem zx9:∀(l:List ByteArray)(s:List UInt8),-1<=zx l s/\zx l s<l.length
 |[],_=>by simp[zx]
 |t::l,s=>by have a:=zx9 l s;grind [zx]
theorem kys:∀(l:List ByteArray)(s:List UInt8),(∀i,i<l.length->((l.getD i ByteArray.empty).toList==s)=false)->zx l s=-1
 |[],_,_=>rfl
 |t::l,s,h=>by have a:=h 0 ay;have b:=kys l s (λi hi=>by have:=h (i+1) (by simp_all);simp_all);grind [zx]
theorem qjy:∀(l:List ByteArray)(s:List UInt8)(k:Nat),k<l.length->(∀i,i<k->((l.getD i ByteArray.empty).toList==s)=false)->((l.getD k ByteArray.empty).toList==s)=true->zx l s=k
 |[],_,k,hk,_,_=>by simp_all
 |t::l,s,0,_,_,h=>by
  rw[zx,lJ (by simp_all)];rfl
 |t::l,s,k+1,hk,hn,h=>by have a:=hn 0 aj;have b:=qjy l s k (by simp_all) (λi hi=>by grind) (by simp_all);grind [zx]
theorem kqo(f:α->List Value)(n:Nat)(b:∀x,(f x).length=n):∀(l:List α)(i j:Nat)(hi:i<l.length),j<n->(l.flatMap f)[i*n+j]?=(f l[i])[j]?
 |[],i,_,hi,_=>by grind
 |a::l,0,j,_,hj=>by
  grind
 |a::l,i+1,j,hi,hj=>by have c:=kqo f n b l i j (by simp_all) hj;grind
theorem kq8(h:w.ownsRow lo P size v n xs):∃a cap,v=.slice a n cap/\∀i,i<n->∃g,a=some ⟨g,0,none⟩/\∀j,j<n*size->w.cell? ⟨g,j,none⟩=xs[j]?:=by
 obtain⟨rfl,rfl⟩|⟨g,cap,cur,rfl,f,k,b,c,d,e⟩:=h.2
 ·simp
 grind [cell_of_row]
def ug(t:PTree):List ByteArray:=t.j.map (·.y.x)
theorem set_any(s:ByteArray)(h:kqc w T a7)(y:a7.j.length<=801):Calls prog 113 #[.pointer (some ⟨T,0,none⟩),.string s] w λe w'=>e=.returned (.int .i64<|zx (ug a7) s.toList)/\w'=w:=by
 obtain⟨x0,x1,x2,x3,x4,y1,y3,y4,f,u,_⟩:=h;have z:=kzk f;obtain⟨a,cap,rfl,(q:Hid _)⟩:=kq8 u;clear f;go_wp2;go_loop [5] (λi=>∃k:Nat,k<=a7.j.length/\i=.int .i64 k/\∀j,j<k->(((ug a7).getD j ByteArray.empty).toList==s.toList)=false) (λi=>a7.j.length-(intOf i).toNat)
 ·grind
 obtain⟨k,v,rfl,(d:Hid _)⟩:=hrel;by_cases b:k<a7.j.length
 ·obtain⟨g,rfl,l⟩:=ku q k b;have m:(ug a7).getD k ByteArray.empty=(a7.j[k]).y.x:=by simp[ug,b]
  have c:w.cell? ⟨g,k*6+1,none⟩=some (.string (a7.j[k]).y.x):=by rw[l _ aj];exact kqo kwz 6 (λ_=>rfl) a7.j k 1 b aj
  rw[<-m]at c;generalize p:(ug a7).getD k ByteArray.empty=x at c;have t:=oz p;clear l m p;go_wp2
  ·go_ret;exact⟨kqi (qjy _ _ k (by simpa[ug] using b) d (by rw[ku t];omega)).symm,rfl⟩
  grind [ku,intOf]
 ·go_wp2;go_ret;exact⟨kqi (kys _ _<|λi hi=>d i (by simp[ug]at hi;omega)).symm,rfl⟩
theorem qz8:∀{ks:List PKind}{xs:List Value}(i:Nat)(hi:i<ks.length),kjt lo w ks xs ->
  ∃vm,xs[i*4]?=some (.string (ks[i]).y.t)/\xs[i*4+1]?=some (.string (ks[i]).y.x)/\xs[i*4+2]?=some (.int .i64 (ks[i]).y.v)/\xs[i*4+3]?=some vm/\w.ownsRow lo 142 3 vm (ks[i]).i.length (uw (ks[i]).i)
 |[],_,i,hi,_=>by grind
 |k::ks,xs,0,_,⟨vm,ys,e,h1,h2⟩=>by subst e;exact⟨vm,rfl,rfl,rfl,rfl,h1⟩
 |k::ks,xs,i+1,hi,⟨vm,ys,e,h1,h2⟩=>by subst e;have a:=qz8 i (by simp_all) h2;grind [ji]
theorem qji:∀{rs:List PRule}{xs:List Value}(i:Nat)(hi:i<rs.length),dw lo w rs xs ->
  ∃vp vg vb ps,(xs[i*6]?=some (.string (rs[i]).y.t)/\xs[i*6+1]?=some (.string (rs[i]).y.x)/\xs[i*6+2]?=some (.int .i64 (rs[i]).y.v)/\xs[i*6+3]?=some vp/\xs[i*6+4]?=some vg/\xs[i*6+5]?=some vb) /\
   w.ownsRow lo 236 6 vp (rs[i]).u.length (kjm (rs[i]).u)/\yw lo w (rs[i]).guard vg/\w.ownsRow lo 245 1 vb ps.length ps/\jg lo none w (rs[i]).S ps
 |[],_,i,hi,_=>by grind
 |r::rs,xs,0,_,⟨vp,vg,vb,ps,ys,e,h1,h2,h3,h4,h5⟩=>by subst e;exact⟨vp,vg,vb,ps,⟨rfl,rfl,rfl,rfl,rfl,rfl⟩,h1,h2,h3,h4⟩
 |r::rs,xs,i+1,hi,⟨vp,vg,vb,ps,ys,e,h1,h2,h3,h4,h5⟩=>by
  subst e;have a:=qji i (by simp_all) h5;have b:∀j,(ji r.y++vp::vg::vb::ys)[j+6]?=ys[j]?:=λj=>by grind [ji]
  grind
def uy(t:PTree):List ByteArray:=t.p.map (·.y.x)
theorem zkl(s:ByteArray)(h:kqc w T a7)(z:a7.p.length<=801):Calls prog 114 #[.pointer (some ⟨T,0,none⟩),.string s] w λe w'=>e=.returned (.int .i64<|zx (uy a7) s.toList)/\w'=w:=by
 obtain⟨x0,x1,x2,x3,x4,y1,y3,y4,f,_,⟨u,v⟩,_⟩:=h;have A:=kzk f;obtain⟨a,cap,rfl,(p:Hid _)⟩:=kq8 u;clear f;go_wp2;go_loop [5] (λi=>∃k:Nat,k<=a7.p.length/\i=.int .i64 k/\∀j,j<k->(((uy a7).getD j ByteArray.empty).toList==s.toList)=false) (λi=>a7.p.length-(intOf i).toNat)
 ·grind
 obtain⟨k,y,rfl,(d:Hid _)⟩:=hrel;by_cases b:k<a7.p.length
 ·obtain⟨g,rfl,t⟩:=ku p k b;have l:(uy a7).getD k ByteArray.empty=(a7.p[k]).y.x:=by simp[uy,b]
  have c:w.cell? ⟨g,k*4+1,none⟩=some (.string (a7.p[k]).y.x):=by grind [qz8]
  rw[<-l]at c;generalize m:(uy a7).getD k ByteArray.empty=x at c;have q:=oz m;clear t l m;go_wp2
  ·go_ret;exact⟨kqi (qjy _ _ k (by simpa[uy] using b) d (by rw[ku q];omega)).symm,rfl⟩
  grind [ku,intOf]
 ·go_wp2;go_ret;exact⟨kqi (kys _ _<|λi hi=>d i (by simp[uy]at hi;omega)).symm,rfl⟩
def zf(t:PTree):List ByteArray:=t.z.map (·.y.x)
theorem qjt(s:ByteArray)(h:kqc w T a7)(y:a7.z.length<=801):Calls prog 119 #[.pointer (some ⟨T,0,none⟩),.string s] w λe w'=>e=.returned (.int .i64<|zx (zf a7) s.toList)/\w'=w:=by
 obtain⟨x0,x1,x2,x3,x4,y1,y3,y4,f,_,_,u,_⟩:=h;have z:=kzk f;obtain⟨a,cap,rfl,(q:Hid _)⟩:=kq8 u;clear f;go_wp2;go_loop [5] (λi=>∃k:Nat,k<=a7.z.length/\i=.int .i64 k/\∀j,j<k->(((zf a7).getD j ByteArray.empty).toList==s.toList)=false) (λi=>a7.z.length-(intOf i).toNat)
 ·grind
 obtain⟨k,v,rfl,(d:Hid _)⟩:=hrel;by_cases b:k<a7.z.length
 ·obtain⟨g,rfl,l⟩:=ku q k b;have m:(zf a7).getD k ByteArray.empty=(a7.z[k]).y.x:=by simp[zf,b]
  have c:w.cell? ⟨g,k*12+1,none⟩=some (.string (a7.z[k]).y.x):=by rw[l _ aj];exact kqo kj7 12 (λ_=>rfl) a7.z k 1 b aj
  rw[<-m]at c;generalize p:(zf a7).getD k ByteArray.empty=x at c;have t:=oz p;clear l m p;go_wp2
  ·go_ret;exact⟨kqi (qjy _ _ k (by simpa[zf] using b) d (by rw[ku t];omega)).symm,rfl⟩
  grind [ku,intOf]
 ·go_wp2;go_ret;exact⟨kqi (kys _ _<|λi hi=>d i (by simp[zf]at hi;omega)).symm,rfl⟩
def kjp(k:PKind):List ByteArray:=k.i.map (·.x)
def kjj:List PKind->List UInt8->Int×Int
 |[],_=>(-1,-1)
 |k::ks,s=>if 0<=zx (kjp k) s then (0,zx (kjp k) s) else if (kjj ks s).1<0 then (-1,-1) else ((kjj ks s).1+1,(kjj ks s).2)
theorem jko:∀(l:List PKind)(s:List UInt8),(∀i (hi:i<l.length),zx (kjp l[i]) s=-1)->kjj l s=(-1,-1)
 |[],_,_=>rfl
 |t::l,s,h=>by have a:=h 0 ay;have b:=jko l s (λi hi=>by have:=h (i+1) (by simp_all);simp_all);grind [kjj]
theorem vz9:∀(l:List PKind)(s:List UInt8)(k:Nat)(hk:k<l.length),(∀i (hi:i<k),zx (kjp (l[i]'aj)) s=-1)->0<=zx (kjp l[k]) s->kjj l s=((k:Int),zx (kjp l[k]) s)
 |[],_,k,hk,_,_=>by grind
 |t::l,s,0,_,_,h=>by
  grind [kjj]
 |t::l,s,k+1,hk,hn,h=>by have a:=hn 0 aj;have b:=vz9 l s k (by grind) (λi hi=>by grind) (by simp_all);grind [kjj]
theorem qw9(j:Nat)(a:j<L.length):(uw L)[j*3+1]?=some (.string (L[j]).x):=kqo ji 3 (λ_=>rfl) L j 1 a aj
theorem zjh(s:ByteArray)(h:kqc w T a7)(D:a7.p.length<=801)(E:∀k∈a7.p,k.i.length<=801):Calls prog 178 #[.pointer (some ⟨T,0,none⟩),.string s] w λe w'=>e=.returned (.tuple #[.int .i64 (kjj a7.p s.toList).1,.int .i64 (kjj a7.p s.toList).2])/\w'=w:=by
 obtain⟨x0,x1,x2,x3,x4,y1,y3,y4,B,_,⟨R,t⟩,_⟩:=h;have W:=kzk B;obtain⟨a,cap,rfl,(L:Hid _)⟩:=kq8 R;have J:=oz E;clear B E;go_wp2;go_loop [6,7] (λi _=>∃k:Nat,k<=a7.p.length/\i=.int .i64 k/\∀j (Q:j<k) (D:k<=a7.p.length),zx (kjp<|a7.p[j]'aj) s.toList=-1) (λi _=>a7.p.length-(intOf i).toNat)
 ·grind
 obtain⟨k,V,rfl,(q:Hid _)⟩:=hrel;by_cases b:k<a7.p.length
 ·obtain⟨g,rfl,O⟩:=ku L k b;have ⟨S,_,_,_,H,m⟩:=qz8 k b t;have U:w.cell? ⟨g,k*4+3,none⟩=some S:=by grind
  have F:=ku J _<|wZ b;generalize A:a7.p[k]=K at m F;have p:=oz A;obtain⟨ma,mc,rfl,(u:Hid _)⟩:=kq8 m;clear O H A;go_wp2
  go_loop [7] (λi=>∃j:Nat,j<=K.i.length/\i=.int .i64 j/\∀i,i<j->(((kjp K).getD i ByteArray.empty).toList==s.toList)=false) (λi=>K.i.length-(intOf i).toNat)
  ·grind
  obtain⟨j,Q,rfl,(d:Hid _)⟩:=hrel;by_cases f:j<K.i.length
  ·obtain⟨N,rfl,C⟩:=ku u j f;have G:(kjp K).getD j ByteArray.empty=(K.i[j]).x:=by simp[kjp,f]
   have l:w.cell? ⟨N,j*3+1,none⟩=some (.string (K.i[j]).x):=by grind [qw9]
   rw[<-G]at l;generalize I:(kjp K).getD j ByteArray.empty=x at l;have y:=oz I;clear C G I;go_wp2
   ·go_ret2;have z:=qjy (kjp K) s.toList j (by simpa[kjp] using f) d (by rw[ku y];omega);have M:=vz9 a7.p s.toList k b (λi hi=>q i hi aj) (by rw[ku p,z];omega);rw[ku p,z]at M;simp_all
   ·have P:(x.toList==s.toList)=false:=by omega
    go_round
    case rel=>exact⟨j+1,aj,eu,λi hi=>if e:i=j then by rw[e,ku y];exact P else d i aj⟩
    case measure=>exact ou
  ·have c:=kys (kjp K) s.toList (λi hi=>d i (by simp[kjp]at hi;omega));have v:=oz c;clear c;go_wp2;go_round
   case rel=>exact⟨k+1,aj,eu,λi hi D=>if e:i=k then by subst e;rw[ku p];exact v else q i aj aj⟩
   case measure=>exact ou
 ·go_wp2;go_ret2;rw[jko a7.p s.toList (λi hi=>ku q i aj aj)];simp
def pq(l:List PP):List ByteArray:=l.map (·.y.x)
def qk4(n:Tok)(vp vg vb:Value):Value:=.agg #[.string n.t,.string n.x,.int .i64 n.v,vp,vg,vb]
theorem qkx(n:Tok){a9:Option Addr}(vg:Option Addr)(ba:Option Addr)(bn bc:Nat)(s:ByteArray)(h:w.ownsRow lo 236 6 (.slice a9 P b) a8.length (kjm a8))(v:a8.length<=801):Calls prog 179 #[qk4 n (.slice a9 P b) (.pointer vg) (.slice ba bn bc),.string s] w λe w'=>e=.returned (.int .i64<|zx (pq a8) s.toList)/\oq w w':=by
 have hn:=jwi h;subst hn;have ⟨a,cap,hv,q⟩:=kq8 h;cases hv;unfold qk4;go_wp2;go_loop [5] (λi=>∃k:Nat,k<=a8.length/\i=.int .i64 k/\∀j,j<k->(((pq a8).getD j ByteArray.empty).toList==s.toList)=false) (λi=>a8.length-(intOf i).toNat)
 ·grind
 obtain⟨k,u,rfl,f⟩:=hrel;by_cases c:k<a8.length
 ·obtain⟨g,rfl,l⟩:=ku q k c;have p:(pq a8).getD k ByteArray.empty=(a8[k]).y.x:=by simp[pq,c]
  have d:w.cell? ⟨g,k*6+1,none⟩=some (.string (a8[k]).y.x):=by rw[l _ aj];exact kqo kwf 6 (λ_=>rfl) a8 k 1 c aj
  have m:=block_lt_of_cell d;simp only at m;rw[<-p]at d;generalize t:(pq a8).getD k ByteArray.empty=x at d;clear l p;go_wp2
  ·go_ret;exact⟨kqi (qjy _ _ k (by simpa[pq] using c) f (by rw[ku t];omega)).symm,jZ _⟩
  grind [ku,intOf]
 ·go_wp2;go_ret;exact⟨kqi (kys _ _<|λi hi=>f i (by simp[pq]at hi;omega)).symm,jZ _⟩
theorem kqv{k:Program}(q:o.guard=none)(t:TypeId)(A:o.op=.call {callee:=.builtin .append,args:=#[b3,b4],argTypes:=#[t,t]})(base:Nat)(e:TypeId)(i:TypeInfo)(z:Value)(size b:Nat)(D:k.underlying t=some (.slice e))(hi:k.info? e=some i)(I:i.zero=some z)(p:i.size=size)(x:i.bytes=b)(F:z.cells.size=size)(C:0<size)(v:Value)(n:Nat)(xs:List Value)(B:a.eval b3=v)(f:w.ownsRow base e size v n xs)(u:Value)(m:Nat)(ys:List Value)(lo:Nat)(E:a.eval b4=u)(j:w.ownsRow lo e size u m ys)(h1:∀y∈ys,y.oneCell'=true)(s:n+m<=maxLen)(d:(n+m)*b<=140737488355328)(l:base<=w.heap.size)(h:∀c w',w'.ownsRow base e size c (n+m) (xs++ys)->w.grownBy w' v.ownBlock->(c.ownBlock=v.ownBlock\/c.ownBlock=some w.heap.size)->wpList k ops Q rest (a.put o.dst c) w'):wpList k ops Q (o::rest) a w:=by
 have G:=j.1;obtain⟨rfl,rfl⟩|⟨g,cap,cur,rfl,N,O,J,K,L,M⟩:=j.2
 ·have H:ys=[]:=by simp_all
  subst H;refine wpList_append_own_none q b3 b4 t A base e i size D hi v n xs B f E (h v w ?_ ⟨rfl,rfl,rfl,jH,λ_ _ _=>rfl⟩<|.inl rfl);simp_all
 ·refine Ja w q b3 b4 t A base e i z size b D hi I p x F C v n xs B f ⟨g,0,none⟩ m cap ys E G ?_ h1 s d l (λc w' k1 k2 k3 k4=>h c w' k1 k2 k4);grind [Addr.add,cell_of_row]
def ownNames(x:ELab):List Tok:=if x.op.toList==ng then (if x.c.t.toList==mX then [x.y,x.c] else [x.y]) else []
def yu:PX->List Tok
 |.nil=>[]
 |.node _ _ x a b=>(ownNames x++yu a)++yu b
theorem qxw:∀y∈uw L,y.oneCell'=true:=by grind [uw,kk1]
theorem qxy(a b:List Tok):uw (a++b)=uw a++uw b:=by simp[uw]
def zqx(x:PX):Prop:=∀(w:World)(lo:Nat)(p:Value),(yu x).length<=100000->yw lo w x p ->
 Calls prog 115 #[p] w λe w'=>∃v,e=.returned v/\w'.ownsRow w.heap.size 142 3 v (yu x).length (uw<|yu x)/\oq w w'
abbrev Tks(w:World)(lo:Nat)(v:Value)(l:List Tok):Prop:=w.ownsRow lo 142 3 v l.length (uw l)
structure Acc (w0 U:World)(A base:Nat)(w:World)(v:Value)(l:List Tok):Prop where
 xu:Tks w base v l
 bel:Below base w0 w
 far:∀k,v.ownBlock=some k->k<A\/U.heap.size<=k
 sz:U.heap.size<=w.heap.size
 mid:∀k,A<=k->k<U.heap.size->w.heap[k]?=U.heap[k]?
theorem xjy(h:Tks U A u m)(d:∀k,A<=k->k<U.heap.size->w.heap[k]?=U.heap[k]?):Tks w A u m:=by obtain⟨h1,c⟩:=h;refine⟨h1,c.imp id ?_⟩;rintro⟨g,cap,cur,rfl,a,b,r⟩;exact⟨g,cap,cur,rfl,a,(d g a<|wQ b).trans b,r⟩
theorem Acc.grown(c:Acc w0 U A base w v L)(h1:Tks w' base u m)(b:w.grownBy w' v.ownBlock)(f:u.ownBlock=v.ownBlock\/u.ownBlock=some w.heap.size)(hb:base<=w.heap.size):Acc w0 U A base w' u m:=by
 refine⟨h1,c.bel.grown b hb<|jo c.xu,?_,rP c.sz b.size,?_⟩
 ·intro k a;obtain e|e:=f
  ·exact c.far k (e▸a)
  ·rw[e]at a;injection a with a;exact .inr<|a▸c.sz
 ·exact λk g d=>(b.block k (sV d c.sz) (λe=>by obtain h|h:=c.far k e.symm<;>omega)).trans<|c.mid k g d
theorem Acc.app(c:Acc w0 U A base w v L)(p:Tks U A u m)(h:∀b w',Acc w0 U A base w' b (L++m)->wpList prog ops Q rest (a.put o.dst b) w')(k:o.op=.call {callee:=.builtin .append,args:=#[b3,b4],argTypes:=#[132,132]}:=by exact rfl)(d:o.guard=none:=by exact rfl)(l:a.eval b3=v:=by exact rfl)(q:a.eval b4=u:=by exact rfl)(hn:L.length+m.length<=1000000:=by omega)(hb:base<=w.heap.size:=by omega):wpList prog ops Q (o::rest) a w:=by have ⟨i0,hi,e,f,g⟩:=info_parts infoTok;refine kqv d _ k base 142 i0 _ 3 40 underlying132 hi e f g rfl ak v _ _ l c.xu u _ _ A q (xjy p c.mid) (qxw) iq aj hb λb w' h1 i j=>h b w' (c.grown (by grind [qxy]) i j hb)
theorem xqm(c:Tks w base v L)(d:Below base w0 w)(p:Tks w lo u m)(h:∀b w',Tks w' base b (L++m)->Below base w0 w'->wpList prog ops Q rest (a.put o.dst b) w')(k:o.op=.call {callee:=.builtin .append,args:=#[b3,b4],argTypes:=#[132,132]}:=by exact rfl)(e:o.guard=none:=by exact rfl)(l:a.eval b3=v:=by exact rfl)(q:a.eval b4=u:=by exact rfl)(hn:L.length+m.length<=1000000:=by first|omega|(simp;done)|(simp;omega))(hb:base<=w.heap.size:=by first|omega|(simp;done)|(simp;omega)):wpList prog ops Q (o::rest) a w:=by have ⟨i0,hi,f,g,i⟩:=info_parts infoTok;exact kqv e _ k base 142 i0 _ 3 40 underlying132 hi f g i rfl ak v _ _ l c u _ _ lo q p (qxw) iq aj hb λb w' h1 j _=>h b w' (by grind [qxy])<|d.grown j hb (jo c)
theorem qvp{l:List Tok}{t:Tok}(d:Tks w base v l)(e:Below base w0 w)(q:w.heap[b]?=some (.cells (ji t).toArray 142 (0,0)))(h:∀c w',Tks w' base c (l++[t])->Below base w0 w'->wpList prog ops Q rest (a.put o.dst c) w')(m:o.op=.call {callee:=.builtin .append,args:=#[b3,b4],argTypes:=#[132,132]}:=by exact rfl)(f:o.guard=none:=by exact rfl)(p:a.eval b3=v:=by exact rfl)(s:a.eval b4=.slice (some ⟨b,0,none⟩) 1 1:=by exact rfl)(hn:l.length<=1000000:=by first|omega|(simp;done)|(simp;omega))(hb:base<=w.heap.size:=by first|omega|(simp;done)|(simp;omega)):wpList prog ops Q (o::rest) a w:=by have ⟨i0,hi,g,i,j⟩:=info_parts infoTok;exact Ja _ f b3 b4 _ m base 142 i0 _ 3 40 underlying132 hi g i j rfl ak v _ _ p d ⟨b,0,none⟩ 1 1 (ji t) s rfl (World.news_of_block q) (kk1) iq aj hb λc w' h1 k _ _=>h c w' (by grind [uw])<|e.grown k hb (jo d)
theorem Acc.alloc{l:List Tok}(c:Acc w0 U A base w v l)(o:Obj)(hb:base<=w.heap.size:=by omega):Acc w0 U A base (w.alloc o) v l:=
 ⟨World.ownsRow.alloc c.xu _,c.bel.alloc hb _,c.far,by have:=c.sz;simp;omega,λk h1 a=>(jj<|sV a c.sz).trans<|c.mid k h1 a⟩
theorem Acc.qvp{l:List Tok}{t:Tok}(c:Acc w0 U A base w v l)(q:w.heap[b]?=some (.cells (ji t).toArray 142 (0,0)))(h:∀d w',Acc w0 U A base w' d (l++[t])->wpList prog ops Q rest (a.put o.dst d) w')(m:o.op=.call {callee:=.builtin .append,args:=#[b3,b4],argTypes:=#[132,132]}:=by exact rfl)(e:o.guard=none:=by exact rfl)(p:a.eval b3=v:=by exact rfl)(s:a.eval b4=.slice (some ⟨b,0,none⟩) 1 1:=by exact rfl)(hn:l.length<=1000000:=by first|omega|(simp;done)|(simp;omega))(hb:base<=w.heap.size:=by first|omega|(simp;done)|(simp;omega)):wpList prog ops Q (o::rest) a w:=by have ⟨i0,hi,f,g,i⟩:=info_parts infoTok;exact Ja _ e b3 b4 _ m base 142 i0 _ 3 40 underlying132 hi f g i rfl ak v _ _ p c.xu ⟨b,0,none⟩ 1 1 (ji t) s rfl (World.news_of_block q) (kk1) iq aj hb λd w' h1 j _ k=>h d w' (c.grown (by grind [uw]) j k hb)
theorem vw9(i j:Nat)(x:ELab){b5 b6:PX}(P:zqx b5)(hb:zqx b6):zqx (.node i j x b5 b6):=by
 intro w lo p E hN;obtain⟨k,pa,F,rfl,_,v,J,K⟩:=hN;have Y:(ownNames x).length+(yu b5).length+(yu b6).length<=100000:=by grind [yu]
 have d:=zzh (v:w.heap[k]?=some (.cells #[.string x.op,pa,F,.string x.y.t,.string x.y.x,.int .i64 x.y.v,.string x.c.t,.string x.c.x,.int .i64 x.c.v,.int .i64 x.n] _ (0,0)));have D:=oz λ(u:World)(R:oq w u)=>zzh<|(R.block k<|wQ v).trans (v:w.heap[k]?=some (.cells #[.string x.op,pa,F,.string x.y.t,.string x.y.x,.int .i64 x.y.v,.string x.c.t,.string x.c.x,.int .i64 x.c.v,.int .i64 x.n] _ (0,0)))
 clear E;cases c1:(x.op.toList==ng);case' false=>
  have f:ownNames x=[]:=by simp[ownNames,c1]
  go_in;go_wp21;obtain⟨w0,H,a⟩:∃w0,w0=w/\oq w w0:=⟨w,rfl,bR⟩;rw[<-H];obtain⟨s,I,b⟩:∃s,s=Value.slice none 0 0/\Tks w0 w.heap.size s []:=⟨_,rfl,oN⟩;rw[<-I];clear H I
 case' true=>
  go_in;go_wp2_with (at_builtin;refine qvp (l:=[]) (t:=x.y) (oN) (jZ w) (Xk w _) ?_)
  intro s w0 b a;have q:=(ku D) w0 a;have m:=a.size;obtain⟨_,_,_,rfl⟩:=qh b;cases c2:(x.c.t.toList==mX);case' false=>
   have f:ownNames x=[x.y]:=by simp[ownNames,c1,c2]
   go_wp21
  case' true=>
   have f:ownNames x=[x.y,x.c]:=by simp[ownNames,c1,c2]
   go_wp2_with (at_builtin;refine qvp (t:=x.c) (b.alloc _) (a.alloc a.size _) (Xk w0 _) ?_)
   clear q m;intro s w0 b a;have q:=(ku D) w0 a;obtain⟨_,_,_,rfl⟩:=qh b;go_wp21
 all_goals
  rw[<-f]at b;clear f;have m:=a.size;refine(P _ lo pa aj<|J.below a).mono ?_;rintro e U ⟨Z,rfl,y,c⟩;have S:=(ku D) U<|a.trans (c.mono m);have A:=c.size;obtain⟨_,_,_,rfl⟩:=qh y;go_wp21
  refine(hb _ lo F aj<|K.below (a.trans<|c.mono m)).mono ?_;rintro e L ⟨v2,rfl,z,h⟩;have W:=h.size;obtain⟨_,_,_,rfl⟩:=qh z;have g:=c.trans<|h.mono A;have C:=show Acc w L w0.heap.size w.heap.size L _ (ownNames x) from⟨qj b g,a.trans<|g.mono m,λk Q=>.inl<|kq9 b k Q,jH,λ_ _ _=>rfl⟩
  have N:=qj y h;have O:=qo A z;clear v d S;go_wp2_with (at_builtin;refine C.app N ?_)
  intro v3 w3 B;obtain⟨_,_,_,rfl⟩:=qh B.xu;have X:=B.sz;have V:(ownNames x++yu b5).length+(yu b6).length<=100000:=by simp_all
  go_wp2_with (at_builtin;refine B.app O ?_)
  intro T w4 G;have M:=show Tks w4 w.heap.size T (yu<|.node i j x b5 b6) from by rw[yu,sZ];exact G.xu
  go_wp2;go_ret;exact⟨_,rfl,M,G.bel⟩
theorem qjw:∀x:PX,zqx x
 |.nil=>λw lo p _ hN=>by
  have c:p=.pointer none:=hN;subst c;go_wp2;go_ret;exact⟨_,rfl,oN,bR⟩
 |.node i j x a b=>vw9 i j x (qjw a)<|qjw b
theorem zq4(lo hi:Int)(s:ByteArray)(k i:Nat):inB lo hi (s.extract k s.size) i=inB lo hi s (k+i):=by
 unfold inB;by_cases h:k+i<s.size
 ·have a:i<(s.extract k s.size).size:=by grind [extract_size]
  rw[dif_pos h,dif_pos a,JJ]
 grind [extract_size]
theorem zyp(s:ByteArray)(k:Nat):∀f i,k+qxv f (s.extract k s.size) i=qxv f s (k+i)
 |0,i=>rfl
 |f+1,i=>by
  rw[qxv,qxv,kzq,kzq,zq4];split
  ·exact zyp s k f (i+1)
  ·rfl
theorem jvh(s:ByteArray)(k i j:Nat)(h:k+j<=s.size):(s.extract k s.size).extract i j=s.extract (k+i) (k+j):=by grind [ByteArray.extract_extract]
theorem pxc(s:ByteArray)(k:Nat)(h:k<s.size):(s.extract k s.size).get! 0=s.get! k:=by
 have a:0<(s.extract k s.size).size:=by grind [extract_size]
 have e:(s.extract k s.size)[0]'a=s[k]:=by rw[JJ];rfl
 have a1:∀(b:ByteArray)(i:Nat)(hb:i<b.size),b.get! i=b[i]:=λb i hb=>getElem!_pos b.data i hb
 grind
theorem vqa(s:ByteArray)(k:Nat)(h:k<s.size):(uf (s.extract k s.size) 0).t=(uf s k).t/\(uf (s.extract k s.size) 0).x=(uf s k).x:=by
 have a:kzq (s.extract k s.size) 0=kzq s k:=by rw[kzq,kzq,zq4];rfl
 have b:kzx (s.extract k s.size) 0=kzx s k:=by rw[kzx,kzx,zq4];rfl
 have c:kzx (s.extract k s.size) (0+1)=kzx s (k+1):=by rw[kzx,kzx,zq4]
 have d:qxa (s.extract k s.size) 0=qxa s k:=by grind [qxa,jvh,extract_size]
 grind [qwz,pxc,zyp,uf,jvh,qyp,qxa]
def lits:List (List UInt8):=[ni,ny,mD,nP,nD,nX,mY,nU,nK,nJ,nZ,mG,
 [40],[41],[91],[93],[123],[125],[58],[59],[44],[33],[38],[124],[43],[45],[60],[61],[61,61],[33,61]]
def vj9(t:Tok):Bool:=(t.t.toList==nM)||(t.t.toList==nV)
structure zxn (t:Tok):Prop where
 y:(kzq t.x 0&&!qwu t.x)=(t.t.toList==mX)
 digit:kzx t.x 0=(t.t.toList==mW)
 lit:∀l∈lits,(t.x.toList==l)=(vj9 t&&(t.x.toList==l))
 fin:(t.x.toList==[])=(t.t.toList==nG)
 size:t.x.size<=800
 word:kzq t.x 0=((t.t.toList==nV)||(t.t.toList==mX))
theorem yj(b:ByteArray):b.toList=b.data.toList:=JX b
theorem jh(l:List UInt8):(ByteArray.mk l.toArray).toList=l:=yj _
theorem qy4(lo hi:Int)(b:ByteArray)(h:0<b.size):∃c r,b.toList=c::r/\inB lo hi b 0=(decide (lo<=(c.toNat:Int))&&decide ((c.toNat:Int)<=hi)):=by
 have a:b.data.toList≠[]:=λe=>by
  have:b.data.size=0:=by simp_all
  exact absurd (show b.size=0 from this) aj
 have ⟨c,r,e⟩:=List.exists_cons_of_ne_nil a;refine⟨c,r,by rw[yj,e],?_⟩;unfold inB;rw[dif_pos h];have:b[0]=c:=by show b.data[0]=c;rw[<-Array.getElem_toList];simp[e]
 rw[this]
theorem pw6(b:ByteArray):qwu b=true↔b.toList∈qw6.map ByteArray.toList:=by grind [qwu]
theorem pxl(n:Nat):zxn (kks n):=by
 have a:(kks n).t.toList=nG:=jh _;have b:(kks n).x.toList=[]:=jh _;have d:(kks n).x.size=0:=rfl;have hi:∀lo hi,inB lo hi (kks n).x 0=false:=(by grind [inB]);refine⟨?_,?_,?_,?_,aj,by rw[kzq,hi,a];rfl⟩
 ·rw[kzq,hi,a];rfl
 ·rw[kzx,hi,a];rfl
 ·intro l c;rw[b];have:([]==l)=false:=by revert l;decide
  simp_all
 simp_all
theorem xzm(lo hi:Int)(s:ByteArray)(k e:Nat)(h1:k<e)(a:e<=s.size):inB lo hi (s.extract k e) 0=inB lo hi s k:=by unfold inB;rw[dif_pos (show k<s.size by omega),dif_pos (show 0<(s.extract k e).size by rw[extract_size a];omega),JJ];rfl
theorem pxy(h:kzq s k=true):kzx s k=false:=by grind [kzq,kzx,inB]
theorem px4:∀l∈lits,∀c r,l=c::r->(decide (97<=(c.toNat:Int))&&decide ((c.toNat:Int)<=122))=true->l∈qw6.map ByteArray.toList:=by
 have a:qw6.map ByteArray.toList=[ni,ny,mD,nP,nD,nX,mY,nU,nK,nJ,nZ,mG]:=by simp only[qw6,List.map,yj]
 simp_all [lits]
theorem vww:∀l∈lits,∀c r,l=c::r->(decide (48<=(c.toNat:Int))&&decide ((c.toNat:Int)<=57))=false:=by simp_all [lits]
theorem pvj(s:ByteArray)(k:Nat)(t:k<s.size)(x:s.size<=800)(u:(uf s k).t.toList.isEmpty=false):zxn (uf s k):=by
 have w:=qv5 s k t;have B:jvj.toList=nV:=yj _;have z:zw4.toList=mX:=yj _;have y:qj0.toList=mW:=yj _;have A:zqa.toList=nM:=yj _;have k0:qy0.toList=[]:=yj _;have hcut:∀lo hi,inB lo hi (uf s k).x 0=inB lo hi s k:=by grind [uf,qyp,extract_size,qxa,xzm]
 have d:(uf s k).x.size<=800:=aj;have v:((uf s k).x.toList==[])=false:=by have ⟨c,r,e,_⟩:=qy4 0 0 (uf s k).x aj;simp_all
 by_cases g:kzq s k=true
 ·have f:=pxy g;have i:kzq (uf s k).x 0=true:=by rw[kzq,hcut];exact g
  have h:kzx (uf s k).x 0=false:=by rw[kzx,hcut];exact f
  have a:(uf s k).t=if qwu (uf s k).x then jvj else zw4:=by unfold uf;simp[g]
  cases p:qwu (uf s k).x
  ·rw[p]at a;refine⟨by simp_all,by simp_all,?_,by simp_all,d,by simp_all⟩;intro l b;have:((uf s k).x.toList==l)=false:=by
    cases j:((uf s k).x.toList==l)
    ·rfl
    ·rw[su]at j;have ⟨c,r,e,m⟩:=qy4 97 122 (uf s k).x aj;have:=px4 l b c r (by simp_all) (by rw[<-m];exact i);grind [pw6]
   simp_all
  ·rw[p]at a;have a:(uf s k).t.toList=nV:=by simp_all
   refine⟨by simp_all,by simp_all,?_,by simp_all,d,by simp_all⟩;intro l b;rw[vj9,a];simp
 ·have g:kzq s k=false:=by simp_all
  have i:kzq (uf s k).x 0=false:=by rw[kzq,hcut];exact g
  by_cases f:kzx s k=true
  ·have h:kzx (uf s k).x 0=true:=by rw[kzx,hcut];exact f
   have a:(uf s k).t=if kzx s (k+1) then qy0 else qj0:=by unfold uf;simp_all
   cases q:kzx s (k+1)
   ·rw[q]at a;refine⟨by simp_all,by simp_all,?_,by simp_all,d,by simp_all⟩;intro l b;have:((uf s k).x.toList==l)=false:=by
     cases j:((uf s k).x.toList==l)
     ·rfl
     ·rw[su]at j;have ⟨c,r,e,m⟩:=qy4 48 57 (uf s k).x aj;grind [vww,kzx]
    simp_all
   simp_all
  ·have f:kzx s k=false:=by simp_all
   have h:kzx (uf s k).x 0=false:=by rw[kzx,hcut];exact f
   have a:(uf s k).t.toList=nM:=by grind [uf]
   refine⟨by simp_all,by simp_all,?_,by simp_all,d,by simp_all⟩;intro l b;rw[vj9,a];simp
structure AccOk (acc:List Tok)(k:Nat):Prop where
 ok:∀t∈acc,zxn t/\(t.t.toList==nG)=false/\t.v<k
 inc:acc.Pairwise (λa b=>a.v<b.v)
 T:acc.length<=k
theorem vqe(s:ByteArray)(k:Nat):(uf s k).v=k:=by unfold uf;grind
theorem jq2(s:ByteArray)(g:s.size<=800):∀(f k:Nat)(acc:List Tok),k<=s.size->AccOk acc k->(kvd f s k acc).2=none->∃acc',(kvd f s k acc).1=acc'++[kks s.size]/\AccOk acc' s.size
 |0,k,acc,_,_,h=>by simp[kvd]at h
 |f+1,k,acc,hk,ha,h=>by
  rw[kvd]at h |-;by_cases h1:k<s.size
  ·rw[lJ h1]at h |-;by_cases i:qq5 s k=true
   ·rw[lJ i]at h |-;exact jq2 s g f (k+1) acc h1 ⟨λt d=>⟨(ha.ok t d).1,(ha.ok t d).2.1,by have:=(ha.ok t d).2.2;omega⟩,ha.inc,by have:=ha.T;omega⟩ h
   ·rw[Xy i]at h |-;by_cases q:(uf s k).t.toList.isEmpty=true
    ·simp_all
    ·rw[Xy q]at h |-;have p:=qv5 s k h1;have m:=pvj s k h1 g (by simp_all);have l:=vqe s k;have u:((uf s k).t.toList==nG)=false:=by rw[<-m.fin];have ⟨c,r,e,_⟩:=qy4 0 0 (uf s k).x aj;simp_all
     refine jq2 s g f _ _ p.2 ⟨?_,?_,?_⟩ h
     ·intro t d;obtain d|d:=rV.1 d
      ·exact⟨(ha.ok t d).1,(ha.ok t d).2.1,by have:=(ha.ok t d).2.2;omega⟩
      grind
     ·rw[QC];refine⟨ha.inc,ay,?_⟩;intro a j b hb;rw[Qq]at hb;subst hb;rw[l];exact(ha.ok a j).2.2
     ·rw[rD];have:=ha.T;grind
  grind
structure kq6 (L:List Tok):Prop where
 T:L.length<=801
 pos:0<L.length
 ok:∀i,i<L.length->zxn (tk L i)
 mid:∀i,i+1<L.length->((tk L i).t.toList==nG)=false
 last:((tk L<|L.length-1).t.toList==nG)=true
 inc:L.Pairwise (λa b=>a.v<b.v)
 le:∀t∈L,t.v<=800
theorem xku(h:i<L.length):tk L i∈L:=by grind [tk]
theorem kyh(g:s.size<=800)(h:(jv s).2=none):kq6 (jv s).1:=by
 have ⟨acc,e,c⟩:=jq2 s g 801 0 [] jR ⟨ay,List.Pairwise.nil,ay⟩ h;have k:(jv s).1=acc++[kks s.size]:=e;rw[k];have p:xvj.toList=nG:=yj _;have m:=c.T;have f:∀i,i<acc.length->tk (acc++[kks s.size]) i∈acc:=by grind [tk,List.getElem_mem]
 have j:tk (acc++[kks s.size]) acc.length=kks s.size:=by unfold tk;simp
 refine⟨by grind,ay,?_,?_,?_,?_,?_⟩
 ·intro i hi;simp at hi;by_cases l:i<acc.length
  ·exact(c.ok _<|f i l).1
  grind [pxl]
 ·intro i hi;simp at hi;exact(c.ok _<|f i hi).2.1
 ·simp only[rD,JC,Zr];rw[j];show(xvj.toList==_)=true;simp_all
 ·rw[QC];refine⟨c.inc,ay,?_⟩;intro a h1 b hb;rw[Qq]at hb;subst hb;exact(c.ok a h1).2.2
 ·intro t d;obtain d|d:=rV.1 d
  ·have:=(c.ok t d).2.2;omega
  ·rw[Qq]at d;subst d;exact g
theorem zw5:Calls prog 86 #[.int .u8 d] w λe w'=>e=.returned (.bool ((d==32)||(d==10)))/\w'=w:=by
 cases h:(d==32);all_goals
  go_wp2;go_ret;simp
theorem kxg:Calls prog 142 #[.int .u8 d] w λe w'=>e=.returned (.bool (decide (97<=d)&&decide (d<=122)))/\w'=w:=by
 by_cases h:97<=d
 all_goals
  go_wp2;go_ret;exact⟨um (by first|(simp[h];done)|(simp;omega)),rfl⟩
theorem qqr:Calls prog 144 #[.int .u8 d] w λe w'=>e=.returned (.bool (decide (48<=d)&&decide (d<=57)))/\w'=w:=by
 by_cases h:48<=d
 all_goals
  go_wp2;go_ret;exact⟨um (by first|(simp[h];done)|(simp;omega)),rfl⟩
theorem kya(h:i<s.size):(decide (d<=((s[i]).toNat:Int))&&decide (((s[i]).toNat:Int)<=a6))=inB d a6 s i:=by simp[inB,h]
theorem zyu(s:ByteArray)(g:s.size<=800):Calls prog 143 #[.string s] w λe w'=>e=.returned (.int .i64<|qxv 801 s 0)/\w'=w:=by
 go_wp2;go_loop [3] (λi=>∃k:Nat,k<=s.size/\i=.int .i64 k/\∀j,0<=j->j<k->kzq s j=true) (λi=>s.size-(intOf i).toNat)
 ·grind
 obtain⟨k,f,rfl,(d:Hid _)⟩:=hrel;by_cases b:k<s.size
 ·cases a:kzq s k
  ·have c:=oz<|zwi a 801 0 jR aj d;go_wp21
   refine(kxg).mono ?_;rintro e w' ⟨rfl,rfl⟩;rw[kya b,show inB 97 122 s k=false from a];go_wp2;go_ret;rw[ku c];simp
  ·go_wp21;refine(kxg).mono ?_;rintro e w' ⟨rfl,rfl⟩;rw[kya b,show inB 97 122 s k=true from a];go_wp2;grind [ku,intOf]
 ·have a:kzq s k=false:=by
   cases h:kzq s k
   ·rfl
   ·exact absurd (jyj h) b
  have c:=oz<|zwi a 801 0 jR aj d;go_wp2
  go_ret;rw[ku c];simp
theorem jxv(s p:ByteArray)(w:World):Calls prog 145 #[.string s,.string p] w λe w'=>e=.returned (.bool<|decide (p.size<=s.size)&&((s.extract 0 p.size).toList==p.toList))/\w'=w:=by
 have a:Calls prog 199 #[.string s,.string p] w λe w'=>e=.returned (.bool<|decide (p.size<=s.size)&&((s.extract 0 p.size).toList==p.toList))/\w'=w:=by
  by_cases h:p.size<=s.size
  ·go_wp2;go_ret;simp_all
  ·go_wp2;go_ret;exact⟨um (by simp[h]),rfl⟩
 go_in;go_wp21;refine a.mono ?_;rintro e w' ⟨rfl,rfl⟩;go_wp2;go_ret;simp
theorem jxk:Calls prog 146 #[.string s,.int .u8 d] w λe w'=>e=.returned (.int .i64<|Lib.indexByte s.data.toList d.toNat.toUInt8)/\w'=w:=by
 have a:Calls prog 200 #[.string s,.int .u8 d] w λe w'=>e=.returned (.int .i64<|Lib.indexByte s.data.toList d.toNat.toUInt8)/\w'=w:=by go_wp2;rw[run_callFunc_extern func237 au au au (e:=Extern.BytealgIndexByte.indexByte) au,Lib.run_indexByteString];simp only[Result.andThen];rw[Oper.upon_value];go_wp2;go_ret;simp
 go_in;go_wp21;refine a.mono ?_;rintro e w' ⟨rfl,rfl⟩;go_wp2;go_ret;simp
theorem zj0(c:UInt8):∀l:List UInt8,(0<=Lib.indexByte l c↔l.any (λb=>b.toNat==c.toNat)=true)
 |[]=>by simp[Lib.indexByte]
 |b::l=>by
  have e:=zj0 c l;have d:=Lib.indexByte_ge l c;rw[Lib.indexByte,ZG];cases h:(b==c)
  ·have hn:(b.toNat==c.toNat)=false:=by
    cases a:(b.toNat==c.toNat)
    ·rfl
    ·rw[su]at a;have:b=c:=UInt8.toNat_inj.1 a;simp_all
   grind
  simp_all
theorem pvh(s:ByteArray)(h:0<s.size):decide ((0:Int)<=Lib.indexByte kwr.data.toList (((s[0]).toNat:Int).toNat.toUInt8))=qwz s 0:=by have a1:s.get! 0=s[0]:=getElem!_pos s.data 0 h;simp_all [qwz,yj,zj0]
def zqu(t:Tok):Nat:=if t.t.toList.isEmpty then 0 else t.x.size
theorem pz4(a:kzq s 0=true):zqu (uf s 0)=qxv 801 s 0:=by
 have hb:=qyp s 801 0<|jR;have b:(uf s 0).t.toList.isEmpty=false:=by
  unfold uf;rw[lJ a];simp only;split
  ·rw[show jvj.toList=nV from jh _];rfl
  ·rw[show zw4.toList=mX from jh _];rfl
 grind [zqu,uf,extract_size]
theorem vko(c:0<s.size)(b:kzq s 0=false)(a:kzx s 0=true):zqu (uf s 0)=if kzx s 1 then 0 else 1:=by
 unfold zqu uf;simp only[b,a,ru,Xv,Xw,Jc];cases h:kzx s 1
 ·simp only[ru,Xv];rw[show qj0.toList=mW from jh _,extract_size aj];rfl
 ·simp only[Xw];rw[show qy0.toList=[] from jh _];rfl
theorem pvy(c:kzq s 0=false)(b:kzx s 0=false)(a:qxa s 0=true):zqu (uf s 0)=2:=by
 have:0+1<s.size:=by unfold qxa at a;simp_all
 unfold zqu uf;simp only[c,b,a,ru,Xv,Xw];rw[show zqa.toList=nM from jh _,extract_size aj];rfl
theorem pvu(d:0<s.size)(c:kzq s 0=false)(b:kzx s 0=false)(a:qxa s 0=false):zqu (uf s 0)=if qwz s 0 then 1 else 0:=by
 unfold zqu uf;simp only[c,b,a,ru,Xv];cases h:qwz s 0
 ·simp only[ru,Xv];rw[show qy0.toList=[] from jh _];rfl
 ·simp only[Xw];rw[show zqa.toList=nM from jh _,extract_size aj];rfl
theorem vyf(s:ByteArray):qxa s 0=((decide (2<=s.size)&&((s.extract 0 2).toList==[61,61]))||(decide (2<=s.size)&&((s.extract 0 2).toList==[33,61]))):=by grind [qxa]
theorem qv9(s:ByteArray)(a b:UInt8):og 145 #[.string s,.string ⟨#[a,b]⟩] w λe w'=>e=.returned (.bool<|decide (2<=s.size)&&((s.extract 0 2).toList==[a,b]))/\w'=w:=by have h:=jxv s ⟨#[a,b]⟩ w;rw[show(⟨#[a,b]⟩:ByteArray).toList=[a,b] from jh _]at h;exact h
theorem zwb(s:ByteArray)(b:0<s.size)(k:s.size<=800):Calls prog 87 #[.string s] w λe w'=>e=.returned (.int .i64<|zqu (uf s 0))/\w'=w:=by
 cases f:kzq s 0
 ·cases h:kzx s 0
  ·cases d:qxa s 0
   ·have a:=oz<|pvu b f h d;rw[vyf,Qi]at d;go_in
    go_wp21;refine(kxg).mono ?_;rintro e w' ⟨rfl,rfl⟩;rw[kya b,show inB 97 122 s 0=false from f];go_wp21;refine(qqr).mono ?_;rintro e w' ⟨rfl,rfl⟩;rw[kya b,show inB 48 57 s 0=false from h];go_wp21;refine(qv9 s 61 61).mono ?_;rintro e w' ⟨rfl,rfl⟩;rw[d.1];go_wp21;refine(qv9 s 33 61).mono ?_;rintro e w' ⟨rfl,rfl⟩;rw[d.2];go_wp21;refine(jxk).mono ?_;rintro e w' ⟨rfl,rfl⟩;have g:=pvh s b;unfold kwr at g;generalize Lib.indexByte _ _=z at g |-;cases i:qwz s 0
    ·rw[i]at a g;have l:¬0<=z:=by simp_all
     go_wp2;go_ret;rw[ku a];simp
    ·rw[i]at a g;have l:0<=z:=by simp_all
     go_wp2;go_ret;rw[ku a];simp
   ·have a:=oz<|pvy f h d;rw[vyf]at d;go_in
    go_wp21;refine(kxg).mono ?_;rintro e w' ⟨rfl,rfl⟩;rw[kya b,show inB 97 122 s 0=false from f];go_wp21;refine(qqr).mono ?_;rintro e w' ⟨rfl,rfl⟩;rw[kya b,show inB 48 57 s 0=false from h];go_wp21;refine(qv9 s 61 61).mono ?_;rintro e w' ⟨rfl,rfl⟩;cases j:(decide (2<=s.size)&&((s.extract 0 2).toList==[61,61]))
    ·rw[j,QX]at d;go_wp21;refine(qv9 s 33 61).mono ?_;rintro e w' ⟨rfl,rfl⟩;rw[d];go_wp2;go_ret;rw[ku a];simp
    ·clear d;go_wp2;go_ret;rw[ku a];simp
  ·have a:=oz<|vko b f h;go_in
   go_wp21;refine(kxg).mono ?_;rintro e w' ⟨rfl,rfl⟩;rw[kya b,show inB 97 122 s 0=false from f];go_wp21;refine(qqr).mono ?_;rintro e w' ⟨rfl,rfl⟩;rw[kya b,show inB 48 57 s 0=true from h];by_cases h1:1<s.size
   ·go_wp21;refine(qqr).mono ?_;rintro e w' ⟨rfl,rfl⟩;rw[kya h1];cases c:kzx s 1
    ·rw[c]at a;rw[show inB 48 57 s 1=false from c];go_wp2;go_ret;rw[ku a];simp
    ·rw[c]at a;rw[show inB 48 57 s 1=true from c];go_wp2;go_ret;rw[ku a];simp
   ·have c:kzx s 1=false:=qy3 h1;rw[c]at a;go_wp2;go_ret;rw[ku a];simp
 ·have a:=oz<|pz4 f;go_in
  go_wp21;refine(kxg).mono ?_;rintro e w' ⟨rfl,rfl⟩;rw[kya b,show inB 97 122 s 0=true from f];go_wp21;refine(zyu s k).mono ?_;rintro e w' ⟨rfl,rfl⟩;go_wp2;go_ret;rw[ku a];simp
def kzy(t:Tok):List Value:=[.string t.x,.int .i64 t.v]
def ptV(t:Tok):Value:=.agg #[.string t.x,.int .i64 t.v]
def kjq(l:List Tok):List Value:=l.flatMap kzy
theorem qxp(l:List Tok)(t:Tok):kjq (l++[t])=kjq l++kzy t:=by simp[kjq]
theorem zvo(t:Tok):∀u∈kzy t,u.oneCell'=true:=by intro u h;simp only[kzy,tZ,Qu,or_false]at h;obtain rfl|rfl:=h<;>rfl
theorem infoToken:(prog.info? 194).map (λi=>(i.zero,i.size,i.bytes))=some (some (.agg #[.string ⟨#[]⟩,.int .i64 0]),2,24):=au
def jyi(s:ByteArray)(w:World)(v i:Value)(wr:World):Prop:=
 ∃(k f:Nat)(acc:List Tok),k<=s.size/\i=.int .i64 k/\acc.length<=k/\s.size-k<f/\kvd f s k acc=jv s /\
  wr.ownsRow w.heap.size 194 2 v acc.length (kjq acc)/\oq w wr
def xj2(s:ByteArray)(w:World)(e:Ending)(w':World):Prop:=
 oq w w'/\(((jv s).2=none/\∃v,e=.returned (.tuple #[v,.int .i64 0,.bool true])/\w'.ownsRow w.heap.size 194 2 v (jv s).1.length (kjq (jv s).1)) \/
  ∃k:Nat,(jv s).2=some k/\e=.returned (.tuple #[.slice none 0 0,.int .i64 k,.bool false]))
theorem xju(h:b7.t.toList.isEmpty=false):zqu b7=b7.x.size:=by unfold zqu;simp_all
theorem xjg(h:b7.t.toList.isEmpty=true):zqu b7=0:=by unfold zqu;simp_all
theorem jzz(h:k<s.size):((((s[k]).toNat:Int)==32)||(((s[k]).toNat:Int)==10))=qq5 s k:=by simp[qq5,h]
theorem jx6{wr:World}(hb:qq5 s k=true)(d:k<s.size)(c:kvd f s k L=jv s)(g:s.size-k<f)(e:L.length<=k)(b:wr.ownsRow w.heap.size 194 2 v L.length (kjq L))(a:oq w wr):jyi s w v (.int .i64<|(k:Int)+1) wr:=by obtain⟨f,rfl⟩:=qqy f;rw[zvp hb d]at c;exact⟨k+1,f,L,aj,eu,aj,aj,c,b,a⟩
theorem pz3(s:ByteArray)(k:Nat)(a:k<s.size):s.extract k (k+(uf s k).x.size)=(uf s k).x:=by grind [uf,qyp,extract_size,qxa]
theorem pw3(s:ByteArray)(T:s.size<=800):Calls prog 51 #[.string s] w λe w'=>xj2 s w e w':=by
 have ⟨i0,hi,C,D,E⟩:=info_parts infoToken;go_enter func51,ntmps51
 go_wp2;go_loopw [2,5,6] (λv i _ wr=>jyi s w v i wr) (λ_ i _ _=>s.size-(intOf i).toNat);exact⟨0,801,[],aj,rfl,ay,aj,rfl,oN,bR⟩;obtain⟨k,f,acc,S,rfl,G,O,d,y,h⟩:=hrel;obtain⟨u,m,p⟩:=jp d y h;have Q:=h.size;clear d y h;by_cases c:k<s.size
 ·cases j:qq5 s k
  ·go_wp21;refine(zw5).mono ?_;rintro e w' ⟨rfl,rfl⟩;rw[jzz c,j];go_wp21;have I:=vqa s k c;have B:zqu (uf (s.extract k s.size) 0)=zqu (uf s k):=by unfold zqu;simp_all
   refine(zwb (s.extract k s.size) (by grind [extract_size])<|by grind [extract_size]).mono ?_;rintro e w' ⟨rfl,rfl⟩;rw[B];have J:=qv5 s k c;have hcut:=pz3 s k c;have x:=oz<|jq1 j c u;have H:=vqe s k;clear I B u;generalize uf s k=t at J x hcut H |-;cases l:t.t.toList.isEmpty
   ·rw[xju l];have P:¬((t.x.size:Int)=0):=aj;have L:s.extract k (k+t.x.size)=t.x:=hcut;have N:((k:Int)+(t.x.size:Int)).toNat=k+t.x.size:=aj;go_wp2_with (at_builtin;refine wpList_append_own _ rfl _ _ 89 rfl w.heap.size 194 i0 _ 2 24 underlying89 hi C D E rfl ak _ _ _ rfl (m.alloc _) ⟨w'.heap.size,0,none⟩ 1 1 (kzy t) rfl rfl ?c1 ?c2 ?c3 ?c4 ?c5 ?_)
    case c1=>
     grind [qjb,kzy]
    case c2=>exact zvo t
    case c3=>unfold maxLen;omega
    case c4=>omega
    case c5=>simp;omega
    intro K z b a _;have g:oq w z:=(p.alloc aj _).grown a ah<|jo m;obtain⟨A,q⟩:=ju b g;clear b a g;have R:jyi s w K (.int .i64<|(k:Int)+t.x.size) z:=
     ⟨k+t.x.size,f-1,acc++[t],aj,eu,by grind,aj,(x (f-1) aj).2 l,by grind [qxp,ku],q⟩
    have M:=oz R;clear R;go_wp2;grind [ku,intOf]
   ·rw[xjg l];go_wp2;go_ret3;exact⟨p,.inr ⟨k,by rw[((ku x) (f-1) aj).1 l],rfl⟩⟩
  ·have M:=oz<|jx6 j c u O G m p;go_wp21
   refine(zw5).mono ?_;rintro e w' ⟨rfl,rfl⟩;rw[jzz c,j];go_wp2;grind [ku,intOf]
 ·go_wp2_with (at_builtin;refine wpList_append_own _ rfl _ _ 89 rfl w.heap.size 194 i0 _ 2 24 underlying89 hi C D E rfl ak _ _ _ rfl (m.alloc _) ⟨wr.heap.size,0,none⟩ 1 1 (kzy<|kks s.size) rfl rfl ?d1 ?d2 ?d3 ?d4 ?d5 ?_)
  case d1=>grind [qjb,kzy,kks]
  case d2=>exact zvo _
  case d3=>unfold maxLen;omega
  case d4=>omega
  case d5=>simp;omega
  intro K z b a _;have g:oq w z:=(p.alloc aj _).grown a ah<|jo m;obtain⟨f,rfl⟩:=qqy f;have d:=ku u;rw[kvd,Xy c]at d;obtain⟨F,A,q⟩:=jp d b g;clear b a d g u m p;go_wp2
  go_ret3;refine⟨q,.inl ⟨by rw[<-ku F],_,rfl,?_⟩⟩;have:=ku A;rw[<-ku F,qxp,rD];simp_all
theorem any_cons(p:α->Bool)(a:α)(l:List α):(a::l).any p=(p a||l.any p):=rfl
theorem jjr:Calls prog 258 #[.string s] w λe w'=>e=.returned (.bool (qwu s))/\w'=w:=by
 have e:qwu s=(((s.toList==ni)||(s.toList==ny)||(s.toList==mD)||(s.toList==nP)||(s.toList==nD)||(s.toList==nX)) ||
   ((s.toList==mY)||(s.toList==nU)||(s.toList==nK)||(s.toList==nJ)||(s.toList==nZ)||(s.toList==mG))):=by unfold qwu;simp only[qw6,ZG,List.any_nil,yj,Qg];grind
 have E:=oz e;clear e;cases h1:(s.toList==ni)
 ·cases a:(s.toList==ny)
  ·cases b:(s.toList==mD)
   ·cases c:(s.toList==nP)
    ·cases d:(s.toList==nD)
     ·cases f:(s.toList==nX)
      ·cases h7:(s.toList==mY)
       ·cases h8:(s.toList==nU)
        ·cases h9:(s.toList==nK)
         ·cases g:(s.toList==nJ)
          ·cases h:(s.toList==nZ)
           ·cases i:(s.toList==mG);all_goals
             go_wp2;go_ret;exact⟨um (by grind [ku]),rfl⟩
           ·go_wp2;go_ret;exact⟨um oP,rfl⟩
          ·go_wp2;go_ret;exact⟨um oP,rfl⟩
         ·go_wp2;go_ret;exact⟨um (by rw[ku E];simp[h9]),rfl⟩
        ·go_wp2;go_ret;exact⟨um (by rw[ku E];simp[h8]),rfl⟩
       ·go_wp2;go_ret;exact⟨um (by rw[ku E];simp[h7]),rfl⟩
      ·go_wp2;go_ret;exact⟨um (by rw[ku E];simp[f]),rfl⟩
     ·go_wp2;go_ret;exact⟨um (by rw[ku E];simp[d]),rfl⟩
    ·go_wp2;go_ret;exact⟨um (by rw[ku E];simp[c]),rfl⟩
   ·go_wp2;go_ret;exact⟨um (by rw[ku E];simp[b]),rfl⟩
  ·go_wp2;go_ret;exact⟨um (by rw[ku E];simp[a]),rfl⟩
 ·go_wp2;go_ret;exact⟨um (by rw[ku E];simp[h1]),rfl⟩
theorem toList_empty(h:(s.toList==[])=true):¬0<s.size:=by
 rw[su,yj]at h;have:s.data.size=0:=by simp_all
 intro hb;have:s.size=0:=this;omega
theorem qwq(h:(s.toList==[])=false):0<s.size:=by
 cases hb:s.size with
 |zero=>
  simp_all
 |succ n=>omega
theorem jjn(t:Tok):Calls prog 238 #[ptV t] w λe w'=>e=.returned (.bool (kzq t.x 0&&!qwu t.x))/\oq w w':=by
 unfold ptV;cases b:(t.x.toList==[])
 ·have c:=qwq b;cases a:kzq t.x 0
  ·go_in;go_wp21;refine(kxg).mono ?_;rintro e w' ⟨rfl,rfl⟩;rw[kya c,show inB 97 122 t.x 0=false from a];go_wp2;go_ret;exact⟨rfl,jZ _⟩
  ·cases d:qwu t.x;all_goals
    go_in;go_wp21;refine(kxg).mono ?_;rintro e w' ⟨rfl,rfl⟩;rw[kya c,show inB 97 122 t.x 0=true from a];go_wp21;refine(jjr).mono ?_;rintro e w' ⟨rfl,rfl⟩;rw[d];go_wp2;go_ret;exact⟨rfl,jZ _⟩
 ·have a:kzq t.x 0=false:=qy3<|toList_empty b;go_wp2
  go_ret;simp_all [jZ]
theorem zzv(t:Tok):Calls prog 239 #[ptV t] w λe w'=>e=.returned (.bool (kzx t.x 0))/\oq w w':=by
 unfold ptV;cases a:(t.x.toList==[])
 ·have b:=qwq a;go_in;go_wp21;refine(qqr).mono ?_;rintro e w' ⟨rfl,rfl⟩;rw[kya b];go_wp2;go_ret;exact⟨rfl,jZ _⟩
 ·have c:kzx t.x 0=false:=qy3<|toList_empty a;go_wp2
  go_ret;simp_all [jZ]
structure PR where
 Y:Nat
 depth:Int
 failed:Bool
 N:Int
variable {r:PR}
structure Pw (w:World)(P:Nat)(v:Value)(L:List Tok)(r:PR):Prop where
 pd:w.heap[P]?=some (.cells #[v,.int .i64 r.Y,.int .i64 r.depth,.bool r.failed,.int .i64 r.N] 196 (0,0))
 xu:w.ownsRow 0 194 2 v L.length (kjq L)
 ne:v.ownBlock≠some P
 ok:kq6 L
 lt:r.Y<L.length
theorem qzi(h:w.heap[b]?=some (.cells #[x,v,z,u,x0] a3 (0,0))):Ce w b 0 x/\Ce w b 1 v/\Ce w b 2 z/\Ce w b 3 u/\Ce w b 4 x0/\Fr w b 1/\Fr w b 2/\Fr w b 3/\Fr w b 4:=
 ⟨rc h 0,rc h 1,rc h 2,rc h 3,rc h 4,rf h 1,rf h 2,rf h 3,rf h 4⟩
theorem vvq(h:w.heap[b]?=some (.cells #[x,v,z,u,x0] a3 (0,0)))(n:Value):(w.setCell ⟨b,1,none⟩ n).heap[b]?=some (.cells #[x,n,z,u,x0] a3 (0,0)):=Xx w b 1 _ _ _ h
theorem xkn(h:w.heap[b]?=some (.cells #[x,v,z,u,x0] a3 (0,0))):(w.setCell ⟨b,2,none⟩ x1).heap[b]?=some (.cells #[x,v,x1,u,x0] a3 (0,0)):=Xx w b 2 _ _ _ h
theorem xkr(h:w.heap[b]?=some (.cells #[x,v,z,u,x0] a3 (0,0))):(w.setCell ⟨b,3,none⟩ x1).heap[b]?=some (.cells #[x,v,z,x1,x0] a3 (0,0)):=Xx w b 3 _ _ _ h
theorem xkt(h:w.heap[b]?=some (.cells #[x,v,z,u,x0] a3 (0,0)))(n:Value):(w.setCell ⟨b,4,none⟩ n).heap[b]?=some (.cells #[x,v,z,u,n] a3 (0,0)):=Xx w b 4 _ _ _ h
theorem Pw.kept{r':PR}(h:Pw w P v L r)(a:Kept P w w')(c:w'.heap[P]?=some (.cells #[v,.int .i64 r'.Y,.int .i64 r'.depth,.bool r'.failed,.int .i64 r'.N] 196 (0,0)))(b:r'.Y<L.length):Pw w' P v L r':=
 ⟨c,qkv h.xu h.ne a,h.ne,h.ok,b⟩
theorem Pw.below(h:Pw w P v L r)(a:oq w w'):Pw w' P v L r:=
 h.kept (.of_below a) (by rw[a.block P (wQ h.pd)];exact h.pd) h.lt
theorem zvf:∀(L:List Tok)(k:Nat),k<L.length->(kjq L)[k*2]?=some (.string (tk L k).x)/\(kjq L)[k*2+1]?=some (.int .i64 (tk L k).v)
 |[],k,h=>by simp at h
 |a::L,0,_=>⟨rfl,rfl⟩
 |a::L,k+1,h=>by
  have b:=zvf L k (by simp_all);have e:∀i,(kjq (a::L))[i+2]?=(kjq L)[i]?:=λi=>by grind [kzy,kjq]
  grind [tk]
theorem Pw.open(h:Pw w P v L r):∃g cap,v=.slice (some ⟨g,0,none⟩) L.length cap/\g≠P/\g<w.heap.size/\P<w.heap.size/\w.cell? ⟨g,r.Y*2,none⟩=some (.string (tk L r.Y).x)/\w.cell? ⟨g,r.Y*2+1,none⟩=some (.int .i64 (tk L r.Y).v):=by
 have ⟨h1,a⟩:=h.xu;have b:=h.lt;obtain⟨_,a⟩|⟨g,cap,cur,hv,l,c,f,i,j,k⟩:=a
 ·omega
 ·have d:=zvf L r.Y b;refine⟨g,cap,hv,λe=>h.ne (by rw[hv];simp[Value.ownBlock,e]),wQ c,wQ h.pd,?_⟩;grind [cell_of_row]
theorem qwm(h:Pw w P v L r):Calls prog 152 #[.pointer (some ⟨P,0,none⟩)] w λe w'=>e=.returned (ptV<|tk L r.Y)/\oq w w':=by
 have ⟨c0,c1,c2,c3,c4,_⟩:=qzi h.pd;obtain⟨g,cap,rfl,j,f,c,t0,k⟩:=h.open;have i:=h.lt;generalize tk L r.Y=t at *;obtain⟨n,d,b,a⟩:=r;simp only at *;go_wp2;go_region
 go_wp2;exact tK (v:=ptV t) (by simp[results,results152,go_sem,ptV]) rfl ⟨rfl,jy w⟩
theorem Tryz.fTok0(a:ByteArray)(b:Int)(w:World):(Instr.field 194 (.agg #[.string a,.int .i64 b]) 0).run prog w=.ok (.string a) w:=au
theorem Tryz.fTok1(a:ByteArray)(b:Int)(w:World):(Instr.field 194 (.agg #[.string a,.int .i64 b]) 1).run prog w=.ok (.int .i64 b) w:=au
theorem vwb(s:ByteArray)(h:Pw w P v L r):Calls prog 89 #[.pointer (some ⟨P,0,none⟩),.string s] w λe w'=>e=.returned (.bool<|(tk L r.Y).x.toList==s.toList)/\oq w w':=by go_in;go_wp21;refine(qwm h).mono ?_;rintro e b ⟨rfl,hb⟩;have a:=Tryz.fTok0 (tk L r.Y).x (tk L r.Y).v;unfold ptV;go_wp2;go_ret;simp_all
def kv9(L:List Tok)(r:PR):PR:={Y:=L.length-1,depth:=r.depth,failed:=true,N:=if r.failed then r.N else (tk L r.Y).v}
theorem qkt(h:Pw w P v L r):Calls prog 90 #[.pointer (some ⟨P,0,none⟩)] w λe w'=>e=.returned (.tuple #[])/\Pw w' P v L (kv9 L r)/\Kept P w w':=by
 have ⟨c0,c1,c2,c3,c4,f1,f2,f3,f4⟩:=qzi h.pd;have j:=h.ok.pos;have i:=h.ok.T;have ⟨g,cap,hv,_⟩:=h.open;cases b:r.failed
 ·rw[b]at c3;have c:Pw (w.setCell ⟨P,3,none⟩<|.bool true) P v L {r with failed:=true}:=h.kept ((Kept.refl _ _).kzr _ _) (xkr h.pd) h.lt;have H:=oz h;go_in;go_wp21;refine(qwm c).mono ?_;rintro e k ⟨rfl,hb⟩;have a:=c.below hb;have f:Kept P w k:=((Kept.refl _ _).kzr _ _).trans<|.of_below hb;clear c0 c1 c2 c3 c4 f1 f2 f3 f4;have ⟨c0,c1,c2,c3,c4,f1,f2,f3,f4⟩:=qzi a.pd;subst hv;have l:=Tryz.fTok1 (tk L r.Y).x (tk L r.Y).v;unfold ptV;go_wp2
  go_end0;refine⟨rfl,a.kept (((Kept.refl _ _).kzr _ _).kzr _ _) ?_ (by show L.length-1<_;omega),f.trans<|((Kept.refl _ _).kzr _ _).kzr _ _⟩;have:=vvq (xkt a.pd<|.int .i64 (tk L r.Y).v)<|.int .i64 ((L.length:Int)-1);rw[show kv9 L r=⟨L.length-1,r.depth,true,(tk L r.Y).v⟩ by unfold kv9;simp_all];grind
 ·rw[b]at c3;have H:=oz h;subst hv;go_wp2;go_end0;refine⟨rfl,H.kept ((Kept.refl _ _).kzr _ _) ?_ (by show L.length-1<_;omega),(Kept.refl _ _).kzr _ _⟩;have d:=H.pd;rw[b]at d;have:=vvq d<|.int .i64 ((L.length:Int)-1);rw[show kv9 L r=⟨L.length-1,r.depth,true,r.N⟩ by unfold kv9;simp_all];grind
theorem kq6.fin(h:kq6 L)(hi:i<L.length)(a:((tk L i).x.toList==[])=false):i+1<L.length:=by
 by_cases e:i+1<L.length
 ·exact e
 ·have:i=L.length-1:=by omega
  subst this;rw[(h.ok _ hi).fin,h.last]at a;cases a
theorem kq6.lastText(h:kq6 L):(tk L (L.length-1)).x.toList=[]:=by have a:=h.pos;have:=(h.ok (L.length-1) aj).fin;rw[h.last,su]at this;omega
theorem Pw.E(h:Pw w P v L r)(h1:r.Y+1<L.length):Pw (w.setCell ⟨P,1,none⟩ (.int .i64 ((r.Y:Int)+1))) P v L {r with Y:=r.Y+1}:=
 h.kept (r':={r with Y:=r.Y+1}) ((Kept.refl _ _).kzr _ _) (vvq h.pd _) h1
def isR(L:List Tok)(s:List UInt8)(r:PR):Bool:=(tk L r.Y).x.toList==s
def jzb(L:List Tok)(s:List UInt8)(r:PR):PR:=if isR L s r then {r with Y:=r.Y+1} else r
def qq1(L:List Tok)(s:List UInt8)(r:PR):PR:=if isR L s r then {r with Y:=r.Y+1} else kv9 L r
theorem jz5(L:List Tok)(s:List UInt8)(r:PR):(qq1 L s r).depth=r.depth:=by unfold qq1;split<;>rfl
def jkb(L:List Tok)(s:List UInt8)(d:Int)(r:PR):PR:=if r.depth==12 then kv9 L r else {qq1 L s r with depth:=d}
theorem jzc(s:ByteArray)(h:Pw w P v L r)(i:(s.toList==[])=false):Calls prog 205 #[.pointer (some ⟨P,0,none⟩),.string s] w λe w'=>e=.returned (.bool<|isR L s.toList r)/\Pw w' P v L (jzb L s.toList r)/\Kept P w w':=by
 go_in;go_wp21;refine(vwb s h).mono ?_;rintro e j ⟨rfl,hb⟩;have a:=h.below hb;have c:=Kept.of_below (R:=P) hb;rw[show((tk L r.Y).x.toList==s.toList)=isR L s.toList r from rfl];cases f:isR L s.toList r
 ·have g:=show jzb L s.toList r=r by unfold jzb;simp_all
  go_wp2;go_ret;simp_all
 ·have b:r.Y+1<L.length:=a.ok.fin a.lt (by grind [isR]);have d:=a.ok.T;have ⟨c0,c1,c2,c3,c4,f1,f2,f3,f4⟩:=qzi a.pd;go_wp2;go_ret;rw[(show jzb L s.toList r={r with Y:=r.Y+1} by unfold jzb;simp_all)];exact⟨um f.symm,a.E b,c.trans<|(Kept.refl _ _).kzr _ _⟩
theorem zjf(h:Pw w P v L r)(g:(s.toList==[])=false):Calls prog 201 #[.pointer (some ⟨P,0,none⟩),.string s] w λe w'=>e=.returned (.tuple #[])/\Pw w' P v L (qq1 L s.toList r)/\Kept P w w':=by
 go_in;go_wp21;refine(jzc s h g).mono ?_;rintro e j ⟨rfl,a,f⟩;cases i:isR L s.toList r
 ·have b:=show qq1 L s.toList r=kv9 L r by unfold qq1;simp_all
  rw[show jzb L s.toList r=r by unfold jzb;simp_all]at a;go_wp21;refine(qkt a).mono ?_;rintro e k ⟨rfl,d,c⟩;go_wp2;go_end0;rw[b];exact⟨rfl,d,f.trans c⟩
 ·have b:=show qq1 L s.toList r={r with Y:=r.Y+1} by unfold qq1;simp_all
  rw[show jzb L s.toList r={r with Y:=r.Y+1} by unfold jzb;simp_all]at a;go_wp2;go_end0;simp_all
theorem Pw.zzp(h:Pw w P v L r)(d:Int):Pw (w.setCell ⟨P,2,none⟩ (.int .i64 d)) P v L {r with depth:=d}:=
 h.kept (r':={r with depth:=d}) ((Kept.refl _ _).kzr _ _) (xkn h.pd) h.lt
theorem open_any(s:ByteArray)(H:Pw w P v L r)(f:(s.toList==[])=false):Calls prog 204 #[.pointer (some ⟨P,0,none⟩),.string s] w λe w'=>e=.returned (.tuple #[]) /\
   (∃d,Pw w' P v L (jkb L s.toList d r)/\(-1000<=r.depth->r.depth<=1000->d=r.depth+1))/\Kept P w w':=by
 have ⟨c0,c1,c2,c3,c4,f1,f2,f3,f4⟩:=qzi H.pd;cases i:(r.depth==12)
 ·have H:=oz H;go_in;go_wp21;refine(zjf H f).mono ?_;rintro e g ⟨rfl,h1,b⟩;have a:Pw g P v L (qq1 L s.toList r):=h1;have c:=show ∀d,jkb L s.toList d r={qq1 L s.toList r with depth:=d} from λd=>by unfold jkb;simp_all
  have ⟨c0,c1,c2,c3,c4,f1,f2,f3,f4⟩:=qzi a.pd;rw[(jz5 L s.toList r)]at c2;by_cases hb:-1000<=r.depth/\r.depth<=1000
  ·go_wp2;go_end0;exact⟨rfl,⟨r.depth+1,by rw[c];exact a.zzp _,λ_ _=>rfl⟩,b.trans<|(Kept.refl _ _).kzr _ _⟩
  ·go_wp2;go_end0;exact⟨rfl,⟨_,by rw[c];exact a.zzp _,λx y=>absurd ⟨x,y⟩ hb⟩,b.trans<|(Kept.refl _ _).kzr _ _⟩
 ·have H:=oz H;go_in;go_wp21;refine(qkt H).mono ?_;rintro e k ⟨rfl,j,h⟩;go_wp2;refine tK (v:=.tuple #[]) (by simp[results,results204]) rfl ?_;simp_all [jkb]
theorem pvn(s:ByteArray)(h:Pw w P v L r)(c:(s.toList==[])=false):Calls prog 206 #[.pointer (some ⟨P,0,none⟩),.string s] w λe w'=>e=.returned (.tuple #[]) /\
   (∃d,Pw w' P v L {qq1 L s.toList r with depth:=d}/\(-1000<=r.depth->r.depth<=1000->d=r.depth-1))/\Kept P w w':=by
 go_in;go_wp21;refine(zjf h c).mono ?_;rintro e f ⟨rfl,h1,b⟩;have a:Pw f P v L (qq1 L s.toList r):=h1;have ⟨c0,c1,c2,c3,c4,f1,f2,f3,f4⟩:=qzi a.pd;rw[(jz5 L s.toList r)]at c2;by_cases hb:-1000<=r.depth/\r.depth<=1000
 ·go_wp2;go_end0;exact⟨rfl,⟨_,a.zzp _,λ_ _=>rfl⟩,b.trans<|(Kept.refl _ _).kzr _ _⟩
 ·go_wp2;go_end0;exact⟨rfl,⟨_,a.zzp _,λx y=>absurd ⟨x,y⟩ hb⟩,b.trans<|(Kept.refl _ _).kzr _ _⟩
def nameB(L:List Tok)(r:PR):Bool:=kzq (tk L r.Y).x 0&&!qwu (tk L r.Y).x
def xxh(L:List Tok)(r:PR):Tok:=if nameB L r then tk L r.Y else zh
def xxt(L:List Tok)(r:PR):PR:=if nameB L r then {r with Y:=r.Y+1} else kv9 L r
def xwl(L:List Tok)(r:PR):PR:=if kzx (tk L r.Y).x 0 then {r with Y:=r.Y+1} else kv9 L r
def xwn(L:List Tok)(r:PR):Tok:=if kzx (tk L r.Y).x 0 then tk L r.Y else zh
def dgV(t:Tok):Value:=.agg #[.int .i64 (mg t.x),.int .i64 t.v]
theorem kj6(h:w.heap[b]?=some (.cells #[x,v] a3 (0,0))):Ce w b 0 x/\Ce w b 1 v/\Fr w b 0/\Fr w b 1:=
 ⟨rc h 0,rc h 1,rf h 0,rf h 1⟩
theorem set2(h:w.heap[b]?=some (.cells #[x,v] a3 (0,0))){m n:Value}:(puts b [m,n] 0 w).heap[b]?=some (.cells #[m,n] a3 (0,0)):=zju h
theorem jv5(h:inB 97 122 s 0=true\/inB 48 57 s 0=true):(s.toList==[])=false:=by grind [toList_empty,qy3]
theorem Pw.setOther(h:Pw w P v L r)(a:∀g,v.ownBlock=some g->g<B)(b:P<B)(c:B<=p.block)(u:Value):Pw (w.setCell p u) P v L r:=by refine⟨by rw[hsC aj];exact h.pd,?_,h.ne,h.ok,h.lt⟩;exact ownsRow_setCell_other h.xu (λe=>by grind) u
theorem name_any(h:Pw w P v L r):Calls prog 202 #[.pointer (some ⟨P,0,none⟩)] w λe w'=>e=.returned (ptV<|xxh L r)/\Pw w' P v L (xxt L r)/\Kept P w w':=by
 have m:P<w.heap.size:=wQ h.pd;have k:=oz<|kq9 h.xu;have H:=h.ok.T;go_in
 go_wp21;refine(qwm<|h.below (jZ _)).mono ?_;rintro e d ⟨rfl,hb⟩;have x:Pw d P v L r:=h.below<|(jZ w).trans (hb.mono ay);have B:Kept P w d:=.of_below<|(jZ w).trans (hb.mono ay);have q:=oz<|(hb.block w.heap.size ay).trans jF;have E:=wQ q;have f:=x.ok.fin x.lt;obtain⟨i,j⟩:=ju (show xxh L r=if nameB L r then tk L r.Y else zh from rfl) (show xxt L r=if nameB L r then {r with Y:=r.Y+1} else kv9 L r from rfl);unfold ptV;go_wp21
 refine(jjn<|tk L r.Y).mono ?_;rintro e F ⟨rfl,a⟩;have z:nameB L r=true->r.Y+1<L.length:=λhn=>f (jv5<|.inl (by unfold nameB at hn;rw[rG]at hn;exact hn.1))
 rw[show(kzq (tk L r.Y).x 0&&!qwu (tk L r.Y).x)=nameB L r from rfl];have b:=(a.block w.heap.size ah).trans<|(tC d _ _ E).trans q;have g:=(a.block d.heap.size ay).trans<|jF;have l:Pw F P v L r:=x.below<|(jZ d).trans (a.mono ay);have p:Kept P w F:=B.trans<|.of_below ((jZ d).trans<|a.mono ay);have A:=a.size;simp only[tV]at A;clear f;cases hn:nameB L r
 ·rw[hn]at i j;obtain⟨y,c⟩:=ju l b;clear l b g;go_wp21;refine(qkt y).mono ?_;rintro e w3 ⟨rfl,G,u⟩;have s:=oz<|(u.block w.heap.size (wQ c) aj).trans c;have d0:=kj6 s;have C:=p.trans u;go_wp2
  refine kx0 results202 underlying107 (set2 s) ?_;rw[ku i,ku j];exact⟨rfl,(G.setOther k m ay _).setOther k m ay _,(C.jm ay _).jm ay _⟩
 ·rw[hn]at i j;have D:=z hn;have ⟨c0,c1,c2,c3,c4,f1,f2,f3,f4⟩:=qzi l.pd;have d0:=kj6 b;have I:=kj6 g;obtain⟨y,c⟩:=ju l (b);clear b g;generalize tk L r.Y=t at *;go_wp2;refine kx0 results202 underlying107 (set2 (by rw[hsC (by grind)];exact c)) ?_;rw[ku i,ku j];exact⟨rfl,((y.E D).setOther k m ay _).setOther k m ay _,((p.kzr _ _).jm ay _).jm ay _⟩
theorem pxo(h:kzx s 0=true):∃hp:0<s.size,48<=((s[0]'hp).toNat:Int)/\((s[0]'hp).toNat:Int)<=57:=by grind [kzx,inB]
theorem vvf(h:Pw w P v L r):Calls prog 203 #[.pointer (some ⟨P,0,none⟩)] w λe w'=>e=.returned (dgV<|xwn L r)/\Pw w' P v L (xwl L r)/\Kept P w w':=by
 have p:P<w.heap.size:=wQ h.pd;have l:=oz<|kq9 h.xu;have K:=h.ok.T;go_in
 go_wp21;refine(qwm<|h.below (jZ _)).mono ?_;rintro e f ⟨rfl,hb⟩;have z:Pw f P v L r:=h.below<|(jZ w).trans (hb.mono ay);have E:Kept P w f:=.of_below<|(jZ w).trans (hb.mono ay);have u:=oz<|(hb.block w.heap.size ay).trans jF;have H:=wQ u;have g:=z.ok.fin z.lt;obtain⟨j,k⟩:=ju (show xwn L r=if kzx (tk L r.Y).x 0 then tk L r.Y else zh from rfl) (show xwl L r=if kzx (tk L r.Y).x 0 then {r with Y:=r.Y+1} else kv9 L r from rfl);unfold ptV;go_wp21
 refine(zzv<|tk L r.Y).mono ?_;rintro e q ⟨rfl,b⟩;have C:kzx (tk L r.Y).x 0=true->r.Y+1<L.length:=λhn=>g<|jv5 (.inr hn)
 have a:=(b.block w.heap.size ah).trans<|(tC f _ _ H).trans u;have i:=(b.block f.heap.size ay).trans<|jF;have m:Pw q P v L r:=z.below<|(jZ f).trans (b.mono ay);have s:Kept P w q:=E.trans<|.of_below ((jZ f).trans<|b.mono ay);have D:=b.size;simp only[tV]at D;clear g;cases hn:kzx (tk L r.Y).x 0
 ·rw[hn]at j k;obtain⟨A,c⟩:=ju m a;clear m a i;go_wp21;refine(qkt A).mono ?_;rintro e w3 ⟨rfl,I,y⟩;have x:=oz<|(y.block w.heap.size (wQ c) aj).trans c;have d0:=kj6 x;have F:=s.trans y;go_wp2
  refine kx0 results203 underlying109 (set2 x) ?_;rw[ku j,ku k];exact⟨rfl,(I.setOther l p ay _).setOther l p ay _,(F.jm ay _).jm ay _⟩
 ·rw[hn]at j k;have G:=C hn;have ⟨d,N,O⟩:=pxo hn;have J:=oz (by simp[mg,d]:mg (tk L r.Y).x=(((tk L r.Y).x[0]'d).toNat:Int)-48);have ⟨c0,c1,c2,c3,c4,f1,f2,f3,f4⟩:=qzi m.pd;have d0:=kj6 a;have Q:=kj6 i;obtain⟨A,c⟩:=ju m (a);have M:=a;clear a i;generalize tk L r.Y=t at *;go_wp2;go_region
  go_wp2;have B:(((q.setCell ⟨P,1,none⟩<|.int .i64 ((r.Y:Int)+1)).setCell ⟨w.heap.size,0,none⟩<|.int .i64 (((t.x[0]'d).toNat:Int)-48)).setCell ⟨w.heap.size,1,none⟩<|.int .i64 (t.v:Int)).drew.heap[w.heap.size]? =
    some (.cells #[.int .i64 (((t.x[0]'d).toNat:Int)-48),.int .i64 (t.v:Int)] 109 (0,0)):=
   set2 (w:=q.setCell ⟨P,1,none⟩<|.int .i64 ((r.Y:Int)+1)) (by rw[hsC (by grind)];exact c)
  refine kx0 results203 underlying109 B ?_;rw[ku j,ku k];refine⟨?_,(((A.E G).setOther l p ay _).setOther l p ay _).below<|bR.drew,(((s.kzr _ _).jm ay _).jm ay _).drew⟩;simp only[Xw];unfold dgV;rw[ku J]
structure PS (L:List Tok)(st:RS)(r:PR):Prop where
 lt:st.v<L.length
 nlo:-(st.v:Int)<=st.nest
 nhi:st.nest<=12
 M:st.s=false->r.failed=false/\r.Y=st.v/\r.depth=st.nest/\r.N=0
 s:st.s=true->r.failed=true/\r.Y=L.length-1/\r.N=(tk L st.v).v
def Pd(w:World)(P:Nat)(v:Value)(L:List Tok)(st:RS):Prop:=∃r,Pw w P v L r/\PS L st r
theorem Pd.below(h:Pd w P v L st)(b:oq w w'):Pd w' P v L st:=by obtain⟨r,h1,a⟩:=h;exact⟨r,h1.below b,a⟩
theorem Pd.setOther(h:Pd w P v L st)(b:∀g,v.ownBlock=some g->g<B)(c:P<B)(d:B<=p.block)(u:Value):Pd (w.setCell p u) P v L st:=by obtain⟨r,h1,a⟩:=h;exact⟨r,h1.setOther b c d u,a⟩
theorem Pd.same(h:Pd w P v L st)(b:w'.heap[P]?=w.heap[P]?)(c:w'.ownsRow 0 194 2 v L.length (kjq L)):Pd w' P v L st:=by obtain⟨r,h1,a⟩:=h;exact⟨r,⟨by rw[b];exact h1.pd,c,h1.ne,h1.ok,h1.lt⟩,a⟩
theorem Pd.xu(h:Pd w P v L st):w.ownsRow 0 194 2 v L.length (kjq L):=by obtain⟨r,h1,a⟩:=h;exact h1.xu
theorem Pd.in(h:Pd w P v L st):P<w.heap.size:=by obtain⟨r,h1,a⟩:=h;exact wQ h1.pd
theorem Pd.ok(h:Pd w P v L st):kq6 L:=by obtain⟨r,h1,a⟩:=h;exact h1.ok
theorem Pd.lt(h:Pd w P v L st):st.v<L.length:=by obtain⟨r,h1,a⟩:=h;exact a.lt
theorem xzu:∀l∈lits,(([]:List UInt8)==l)=false:=ak
theorem zxj:∀l∈lits,(l==([]:List UInt8))=false:=ak
theorem PS.is(h:PS L st r)(a:kq6 L)(b:l∈lits):isR L l r=zk L l st:=by
 unfold isR zk qqb;cases hb:st.s
 ·rw[(h.M hb).2.1];exact(a.ok _ h.lt).lit l b
 ·rw[(h.s hb).2.1,a.lastText,xzu l b];rfl
theorem PS.y(h:PS L st r)(a:kq6 L):nameB L r=kqf L mX st:=by
 unfold nameB kqf;cases hb:st.s
 ·rw[(h.M hb).2.1,(a.ok _ h.lt).y];rfl
 ·have:kzq (tk L<|L.length-1).x 0=false:=qy3 (toList_empty (by rw[a.lastText];rfl));rw[(h.s hb).2.1,this];rfl
theorem PS.digit(h:PS L st r)(a:kq6 L):kzx (tk L r.Y).x 0=kqf L mW st:=by
 unfold kqf;cases hb:st.s
 ·rw[(h.M hb).2.1,(a.ok _ h.lt).digit];rfl
 ·have:kzx (tk L<|L.length-1).x 0=false:=qy3 (toList_empty (by rw[a.lastText];rfl));rw[(h.s hb).2.1,this];rfl
theorem PS.fail(h:PS L st r):PS L {st with s:=true} (kv9 L r):=by
 refine⟨h.lt,h.nlo,h.nhi,λhb=>by simp_all,λ_=>⟨rfl,rfl,?_⟩⟩;unfold kv9;cases hb:st.s
 ·rw[(h.M hb).1,(h.M hb).2.1];rfl
 ·rw[(h.s hb).1,(h.s hb).2.2];rfl
theorem PS.E(h:PS L st r)(hb:st.s=false)(d:st.v+1<L.length):PS L {st with v:=st.v+1} {r with Y:=r.Y+1}:=by have ⟨a,b,c,g4⟩:=h.M hb;exact⟨d,by have:=h.nlo;grind,h.nhi,λ_=>⟨a,by simp[b],c,g4⟩,λe=>by simp_all⟩
def zze(L:List Tok)(l:List UInt8)(st:RS):RS:=if zk L l st then {st with v:=st.v+1} else st
def zkg(L:List Tok)(l:List UInt8)(st:RS):RS:=if zk L l st then {st with v:=st.v+1} else {st with s:=true}
theorem kz9(a:kq6 L)(b:st.v<L.length)(h:zk L l st=true):st.s=false/\st.v+1<L.length:=by
 unfold zk qqb at h;simp only[rG,Q8,QD]at h;have c:((tk L st.v).t.toList==nG)=false:=by grind
 exact⟨h.1.1,a.fin b (by rw[(a.ok _ b).fin];exact c)⟩
theorem PS.acc(h:PS L st r)(a:kq6 L)(b:l∈lits):PS L (zze L l st) (jzb L l r):=by
 unfold zze jzb;rw[h.is a b];cases hn:zk L l st
 ·exact h
 ·have:=kz9 a h.lt hn;exact h.E this.1 this.2
theorem PS.exp(h:PS L st r)(a:kq6 L)(b:l∈lits):PS L (zkg L l st) (qq1 L l r):=by
 unfold zkg qq1;rw[h.is a b];cases hn:zk L l st
 ·exact h.fail
 ·have:=kz9 a h.lt hn;exact h.E this.1 this.2
theorem kzo(a:opens l=false)(b:shuts l=false):qg L l st=zkg L l st:=by grind [qg,zkg,zk,qqb]
theorem PS.depth(h:PS L st r)(hb:st.s=true)(d:Int):PS L st {r with depth:=d}:=
 ⟨h.lt,h.nlo,h.nhi,(λa=>by simp_all),λa=>h.s a⟩
theorem PS.open(h:PS L st r)(a:kq6 L)(b:l∈lits)(j:opens l=true)(t:-1000<=r.depth->r.depth<=1000->d=r.depth+1):PS L (qg L l st) (jkb L l d r):=by
 have i:=a.T;have s:=h.nlo;have q:=h.nhi;unfold qg jkb;rw[j];cases hb:st.s
 ·have ⟨c,f,g,g4⟩:=h.M hb;rw[g];cases m:(st.nest==12)
  ·cases hn:zk L l st
   ·have e:qq1 L l r=kv9 L r:=by unfold qq1;rw[h.is a b,hn];rfl
    simp only[JD,Jg,Xw,ru,Xv];rw[e];exact(h.fail).depth rfl d
   ·have e:qq1 L l r={r with Y:=r.Y+1}:=by unfold qq1;rw[h.is a b,hn];rfl
    have k:=kz9 a h.lt hn;simp only[JV,Jr,Qg,ru,Xv,Xw];rw[e];exact⟨k.2,by grind,by grind,λ_=>⟨c,by simp[f],by grind,g4⟩,λp=>by simp_all⟩
  ·simp only[Jh,Js,Xw];exact h.fail
 ·rw[kqk hb];simp only[JD,Jg,Xw];have e:qq1 L l r=kv9 L r:=by unfold qq1;rw[h.is a b,kqk hb];rfl
  rw[e];have h1:=h.fail;split
  ·exact h1
  ·exact h1.depth rfl d
theorem PS.shut(h:PS L st r)(a:kq6 L)(b:l∈lits)(j:opens l=false)(c:shuts l=true)(s:-1000<=r.depth->r.depth<=1000->d=r.depth-1):PS L (qg L l st) {qq1 L l r with depth:=d}:=by
 have i:=a.T;have p:=h.nlo;have m:=h.nhi;unfold qg;rw[j,c];cases hb:st.s
 ·have ⟨f,g,q,g4⟩:=h.M hb;cases hn:zk L l st
  ·have e:qq1 L l r=kv9 L r:=by unfold qq1;rw[h.is a b,hn];rfl
   simp only[JD,Jg,Xw];rw[e];exact(h.fail).depth rfl d
  ·have e:qq1 L l r={r with Y:=r.Y+1}:=by unfold qq1;rw[h.is a b,hn];rfl
   have c:=kz9 a h.lt hn;simp only[JV,QJ,Qg,ru,Xv,Xw];rw[e];exact⟨c.2,by grind,by grind,λ_=>⟨f,by simp[g],by grind,g4⟩,λk=>by simp_all⟩
 ·rw[kqk hb];simp only[JD,Jg,Xw];have e:qq1 L l r=kv9 L r:=by unfold qq1;rw[h.is a b,kqk hb];rfl
  rw[e];exact h.fail.depth rfl d
theorem qzj(l:List UInt8)(d:l∈lits)(h:Pd w P v L st):og 89 #[.pointer (some ⟨P,0,none⟩),.string ⟨l.toArray⟩] w λe w'=>e=.returned (.bool<|zk L l st)/\Pd w' P v L st/\Kept P w w':=by
 obtain⟨r,h1,c⟩:=h;refine(vwb ⟨l.toArray⟩ h1).mono λe w' ⟨a,b⟩=>⟨?_,⟨r,h1.below b,c⟩,.of_below b⟩
 rw[a,<-c.is h1.ok d];unfold isR;simp
theorem kxm(l:List UInt8)(d:l∈lits)(h:Pd w P v L st):og 205 #[.pointer (some ⟨P,0,none⟩),.string ⟨l.toArray⟩] w λe w'=>e=.returned (.bool<|zk L l st)/\Pd w' P v L (zze L l st)/\Kept P w w':=by
 obtain⟨r,h1,f⟩:=h;refine(jzc ⟨l.toArray⟩ h1 (by rw[jh l];exact zxj l d)).mono λe w' ⟨a,b,c⟩=>⟨?_,⟨_,b,?_⟩,c⟩
 ·rw[a,jh l,f.is h1.ok d]
 ·rw[jh l];exact f.acc h1.ok d
theorem kjb(l:List UInt8)(d:l∈lits)(g:opens l=false)(i:shuts l=false)(h:Pd w P v L st):og 201 #[.pointer (some ⟨P,0,none⟩),.string ⟨l.toArray⟩] w λe w'=>e=.returned (.tuple #[])/\Pd w' P v L (qg L l st)/\Kept P w w':=by
 obtain⟨r,h1,f⟩:=h;refine(zjf (s:=⟨l.toArray⟩) h1 (by rw[jh l];exact zxj l d)).mono λe w' ⟨a,b,c⟩=>⟨a,⟨_,b,?_⟩,c⟩
 rw[jh l,kzo g i];exact f.exp h1.ok d
theorem qwr(l:List UInt8)(f:l∈lits)(j:opens l=true)(h:Pd w P v L st):og 204 #[.pointer (some ⟨P,0,none⟩),.string ⟨l.toArray⟩] w λe w'=>e=.returned (.tuple #[])/\Pd w' P v L (qg L l st)/\Kept P w w':=by
 obtain⟨r,h1,g⟩:=h;refine(open_any ⟨l.toArray⟩ h1 (by rw[jh l];exact zxj l f)).mono λe w' ⟨a,⟨d,b,i⟩,c⟩=>⟨a,⟨_,b,?_⟩,c⟩
 rw[jh l];exact g.open h1.ok f j i
theorem qxi(l:List UInt8)(f:l∈lits)(j:opens l=false)(k:shuts l=true)(h:Pd w P v L st):og 206 #[.pointer (some ⟨P,0,none⟩),.string ⟨l.toArray⟩] w λe w'=>e=.returned (.tuple #[])/\Pd w' P v L (qg L l st)/\Kept P w w':=by
 obtain⟨r,h1,g⟩:=h;refine(pvn ⟨l.toArray⟩ h1 (by rw[jh l];exact zxj l f)).mono λe w' ⟨a,⟨d,b,i⟩,c⟩=>⟨a,⟨_,b,?_⟩,c⟩
 rw[jh l];exact g.shut h1.ok f j k i
theorem PS.t(h:PS L st r)(b:kq6 L){k:List UInt8}(c:(k==nG)=false)(hb:a0=kqf L k st):PS L (zq L k st).2 (if a0 then {r with Y:=r.Y+1} else kv9 L r)/\(if a0 then tk L r.Y else zh)=(zq L k st).1:=by
 subst hb;unfold zq;cases hn:kqf L k st
 ·exact⟨h.fail,rfl⟩
 ·have h1:=hn;unfold kqf at h1;simp only[rG,QD]at h1;have a:=h1.2;rw[su]at a;refine⟨h.E h1.1 (b.fin h.lt (by rw[(b.ok _ h.lt).fin,a];exact c)),?_⟩;simp only[Xw];rw[(h.M h1.1).2.1]
theorem kxs(h:Pd w P v L st):og 202 #[.pointer (some ⟨P,0,none⟩)] w λe w'=>e=.returned (ptV (zq L mX st).1)/\Pd w' P v L (zq L mX st).2/\Kept P w w':=by obtain⟨r,h1,d⟩:=h;have f:=d.t h1.ok (k:=mX) rfl<|d.y h1.ok;exact(name_any h1).mono λe w' ⟨a,b,c⟩=>⟨by rw[a,<-f.2];rfl,⟨_,b,f.1⟩,c⟩
theorem zv7(h:Pd w P v L st):og 203 #[.pointer (some ⟨P,0,none⟩)] w λe w'=>e=.returned (dgV (zq L mW st).1)/\Pd w' P v L (zq L mW st).2/\Kept P w w':=by obtain⟨r,h1,d⟩:=h;have f:=d.t h1.ok (k:=mW) rfl<|d.digit h1.ok;exact(vvf h1).mono λe w' ⟨a,b,c⟩=>⟨by rw[a,<-f.2];rfl,⟨_,b,f.1⟩,c⟩
theorem pyo(h:Pd w P v L st):og 90 #[.pointer (some ⟨P,0,none⟩)] w λe w'=>e=.returned (.tuple #[])/\Pd w' P v L {st with s:=true}/\Kept P w w':=by obtain⟨r,h1,d⟩:=h;exact(qkt h1).mono λe w' ⟨a,b,c⟩=>⟨a,⟨_,b,d.fail⟩,c⟩
theorem Kept.e(a:Kept P w w')(hb:b≠P)(h:w.heap[b]?=some b8):w'.heap[b]?=some b8:=(a.block b (wQ h) hb).trans h
theorem zy{o:Obj}(h:w.heap[b]?=some o):(w.alloc b8).heap[b]?=some o:=(jj<|wQ h).trans h
theorem qy{o:Obj}:(w.alloc o).heap[w.heap.size]?=some o:=Xk w o
theorem Kept.kqe(o:Obj):Kept P w (w.alloc o):=(Kept.refl _ _).alloc _
theorem Pd.alloc(h:Pd w P v L st)(o:Obj):Pd (w.alloc o) P v L st:=h.below<|jZ _
theorem Pd.kq9(h:Pd w P v L st):∀g,v.ownBlock=some g->g<w.heap.size:=Go.Proofs.YtpmcnonmkghokaaGreatDoor.kq9 h.xu
theorem Pd.set2(h:Pd w P v L st)(c:∀g,v.ownBlock=some g->g<B)(d:P<B){b9:Addr}(e:B<=p.block)(f:B<=b9.block)(a b:Value):Pd ((w.setCell p a).setCell b9 b) P v L st:=
 (h.setOther c d e a).setOther c d f b
def sqT(L:List Tok)(st:RS):Tok×RS:=zq L mX (qg L [91] st)
theorem zxv(h:Pd w P v L st):Calls prog 207 #[.pointer (some ⟨P,0,none⟩)] w λe w'=>e=.returned (ptV (sqT L st).1)/\Pd w' P v L (qg L [93] (sqT L st).2)/\Kept P w w':=by
 have p:=h.in;go_in;go_wp21;refine(qwr [91] ak rfl<|h.alloc _).mono ?_;rintro e u ⟨rfl,j,d⟩;go_wp21;refine(kxs j).mono ?_;rintro e q ⟨rfl,l,f⟩;have k:=show sqT L st=zq L mX (qg L [91] st) from rfl
 generalize zq L mX (qg L [91] st)=i at *;have c:=f.e aj<|d.e (b:=w.heap.size) aj (qy);have s:=wQ c;unfold ptV;go_wp21
 refine(qxi [93] ak rfl rfl<|l.alloc _).mono ?_;rintro e w3 ⟨rfl,m,a⟩;have g:=a.e aj<|zy c;have d0:=kj6 g;have t:=kj6<|a.e (b:=q.heap.size) aj (qy);go_wp2
 refine kx0 results207 underlying107 (set2 g) ?_;rw[k];exact⟨rfl,m.set2 (oz h.kq9) p jH jH _ _,((((((Kept.kqe _).trans d).trans f).alloc _).trans a).jm jH _).jm jH _⟩
theorem jl(h:w.heap[b]?=some (.cells #[x0,x1,x2,x3,x4] a3 (0,0))):Ce w b 0 x0/\Ce w b 1 x1/\Ce w b 2 x2/\Ce w b 3 x3/\Ce w b 4 x4 /\
  Fr w b 0/\Fr w b 1/\Fr w b 2/\Fr w b 3/\Fr w b 4:=
 ⟨rc h 0,rc h 1,rc h 2,rc h 3,rc h 4,
  rf h 0,rf h 1,rf h 2,rf h 3,rf h 4⟩
theorem kxy(h:w.heap[b]?=some (.cells #[x0,x1,x2,x3,x4] a3 (0,0))){y4:Value}:(puts b [y0,y1,y2,y3,y4] 0 w).heap[b]?=some (.cells #[y0,y1,y2,y3,y4] a3 (0,0)):=zju h
theorem Pd.qk9(h:Pd w P v L st)(a:∀g,v.ownBlock=some g->g<B)(c:P<B)(hb:B<=b):∀(ys:List Value)(k:Nat),Pd (puts b ys k w) P v L st:=λys=>by
 induction ys generalizing w with
 |nil=>exact λ_=>h
 |cons y ys ih=>exact λk=>ih (h.setOther a c hb y)<|k+1
theorem Pd.ky7(h:Pd w P v L st)(a:∀g,v.ownBlock=some g->g<B)(c:P<B)(hb:B<=b)(y0 y1 y2 y3 y4:Value):Pd (puts b [y0,y1,y2,y3,y4] 0 w) P v L st:=h.qk9 a c hb _ _
theorem Kept.ky7(h:Kept P w' w)(hb:w'.heap.size<=b)(y0 y1 y2 y3 y4:Value):Kept P w' (puts b [y0,y1,y2,y3,y4] 0 w):=h.qk9 hb _ _
def vvs(L:List Tok)(st:RS):Bool:=zk L [91] (zq L mX st).2
def plT(L:List Tok)(st:RS):Tok×Bool×Tok×RS:=
 if vvs L st then ((zq L mX st).1,true,(sqT L (zq L mX st).2).1,qg L [93] (sqT L (zq L mX st).2).2)
 else ((zq L mX st).1,false,zh,(zq L mX st).2)
def plV(x:Tok×Bool×Tok×RS):Value:=.agg #[.string x.1.x,.int .i64 x.1.v,.bool x.2.1,.string x.2.2.1.x,.int .i64 x.2.2.1.v]
theorem jqr(h:Pd w P v L st):Calls prog 260 #[.pointer (some ⟨P,0,none⟩)] w λe w'=>e=.returned (plV<|plT L st)/\Pd w' P v L (plT L st).2.2.2/\Kept P w w':=by
 have m:=h.in;have l:=oz h.kq9;go_in;go_wp21;refine(kxs<|h.alloc _).mono ?_;rintro e g ⟨rfl,z,s⟩;have j:=show plT L st=if zk L [91] (zq L mX st).2 then ((zq L mX st).1,true,(sqT L (zq L mX st).2).1,qg L [93] (sqT L (zq L mX st).2).2)
  else ((zq L mX st).1,false,zh,(zq L mX st).2) from rfl
 generalize zq L mX st=k at *;have t:=s.e (b:=w.heap.size) aj<|qy;have B:=wQ t;unfold ptV;go_wp21
 refine(qzj [91] ak<|z.alloc _).mono ?_;rintro e C ⟨rfl,x,d⟩;have c:=d.e (b:=g.heap.size) aj<|qy;have q:=(((Kept.kqe _).trans s).alloc _).trans d;have a:=oz<|d.e aj (zy t);cases hn:zk L [91] k.2
 ·rw[hn]at j;have d0:=jl a;have y:=jl c;go_wp2;refine kx0 results260 underlying332 (kxy a) ?_;rw[j];exact⟨rfl,x.ky7 l m jH _ _ _ _ _,q.ky7 jH _ _ _ _ _⟩
 ·rw[hn]at j;have y:=jl c;go_wp21;refine(zxv<|x.setOther l m (by grind) _).mono ?_;rintro e w3 ⟨rfl,A,f⟩;generalize sqT L k.2=i at *;have u:=f.e (b:=w.heap.size) aj ((hsC<|by grind).trans a);have d0:=jl u;have y:=jl<|f.e (b:=g.heap.size) aj (jL _ 2 _ _ _ c);unfold ptV;go_wp2
  refine kx0 results260 underlying332 (kxy (w:=(w3.setCell ⟨g.heap.size,3,none⟩ _).setCell ⟨g.heap.size,4,none⟩ _) (by rw[hsC (by grind),hsC (by grind)];exact u)) ?_;rw[j];exact⟨rfl,(A.set2 l m (by grind) (by grind) _ _).ky7 l m jH _ _ _ _ _,((((q.jm (p:=⟨g.heap.size,2,none⟩) (by grind)<|.bool true).trans f).jm (by grind) _).jm (by grind) _).ky7 jH _ _ _ _ _⟩
theorem vy4(h:w.cell? p=some v):p.block<w.heap.size:=by
 by_cases a:p.block<w.heap.size
 ·exact a
 ·have:w.heap[p.block]?=none:=Array.getElem?_eq_none aj;simp[World.cell?,this]at h
theorem Kept.cell{a:Addr}(b:Kept P w w')(hb:a.block≠P)(h:w.cell? a=some v):w'.cell? a=some v:=
 (Jk (w:=w)<|b.block a.block (vy4 h) hb).trans h
def stV(s:PSet):Value:=.agg #[.string s.y.x,.int .i64 s.y.v,.int .i64 (mg s.size.x),.int .i64 s.size.v]
theorem kz3(h:w.heap[b]?=some (.cells #[x0,x1,x2,x3] a3 (0,0))):Ce w b 0 x0/\Ce w b 1 x1/\Ce w b 2 x2/\Ce w b 3 x3 /\
  Fr w b 0/\Fr w b 1/\Fr w b 2/\Fr w b 3:=
 ⟨rc h 0,rc h 1,rc h 2,rc h 3,
  rf h 0,rf h 1,rf h 2,rf h 3⟩
theorem zzc(h:w.heap[b]?=some (.cells #[x0,x1,x2,x3] a3 (0,0))):(puts b [y0,y1,y2,y3] 0 w).heap[b]?=some (.cells #[y0,y1,y2,y3] a3 (0,0)):=zju h
theorem Pd.jx5(h:Pd w P v L st)(a:∀g,v.ownBlock=some g->g<B)(c:P<B)(hb:B<=b)(y0 y1 y2 y3:Value):Pd (puts b [y0,y1,y2,y3] 0 w) P v L st:=h.qk9 a c hb _ _
theorem Kept.jx5(h:Kept P w' w)(hb:w'.heap.size<=b)(y0 y1 y2 y3:Value):Kept P w' (puts b [y0,y1,y2,y3] 0 w):=h.qk9 hb _ _
theorem pw9(h1:qg L ni st=d6)(a:zq L mX d6=d7)(b:zq L mW d7.2=d8):kvc L st=(⟨d7.1,d8.1⟩,qg L [59] d8.2):=by subst h1;subst a;subst b;rfl
theorem pwj(h:Pd w P v L st):Calls prog 147 #[.pointer (some ⟨P,0,none⟩)] w λe w'=>e=.returned (stV (kvc L st).1)/\Pd w' P v L (kvc L st).2/\Kept P w w':=by
 have D:=h.in;have C:=oz h.kq9;go_in;go_wp21;refine(kjb ni ak rfl rfl<|h.alloc _).mono ?_;rintro e G ⟨rfl,x,g⟩;have B:=oz<|pw9 (L:=L) (st:=st) rfl rfl rfl;generalize qg L ni st=s1 at *;have t:=oz<|g.e (b:=w.heap.size) aj (qy);have m:=(Kept.kqe _).trans g;go_wp21
 refine(kxs x).mono ?_;rintro e H ⟨rfl,y,i⟩;generalize zq L mX s1=k at *;have p:=m.trans i;have u:=oz<|i.e aj t;go_wp21
 refine(zv7 y).mono ?_;rintro e w3 ⟨rfl,z,j⟩;generalize zq L mW k.2=d at *;have q:=p.trans j;have c:=oz<|j.e aj u;have E:=wQ c;unfold ptV dgV;go_wp21
 refine(kjb [59] ak rfl rfl<|z.alloc _).mono ?_;rintro e w4 ⟨rfl,A,a⟩;have f:=oz<|a.e aj (zy c);have l:=a.e (b:=w3.heap.size) aj<|qy;have d0:=kz3 f;have F:=kz3 l;have s:=(q.alloc _).trans a;clear l;go_wp2
 refine kx0 results147 underlying111 (zzc f) ?_;rw[ku B];exact⟨rfl,A.jx5 C D jH _ _ _ _,s.jx5 jH _ _ _ _⟩
theorem jvn(hb:p.block≠b)(h:w.cell? p=some v):((((w.setCell ⟨b,0,none⟩ y0).setCell ⟨b,1,none⟩ y1).setCell ⟨b,2,none⟩ y2).setCell ⟨b,3,none⟩ y3).cell? p=some v:=by refine(Jk (w:=w) ?_).trans h;rw[hsC hb,hsC hb,hsC hb,hsC hb]
def paV(p:PP):Value:=.agg #[.string p.y.x,.int .i64 p.y.v,.string p.Q.x,.int .i64 p.Q.v]
theorem xka(h1:zq L mX st=d7)(a:qg L [58] d7.2=d6)(b:zq L mX d6=d8):rPP L st=(⟨d7.1,d8.1⟩,d8.2):=by subst h1;subst a;subst b;rfl
theorem jqn(h:Pd w P v L st):Calls prog 240 #[.pointer (some ⟨P,0,none⟩)] w λe w'=>e=.returned (paV (rPP L st).1)/\Pd w' P v L (rPP L st).2/\Kept P w w':=by
 have D:=h.in;have C:=oz h.kq9;go_in;go_wp21;refine(kxs<|h.alloc _).mono ?_;rintro e c ⟨rfl,y,j⟩;have B:=oz<|xka (L:=L) (st:=st) rfl rfl rfl;generalize zq L mX st=k at *;have i:=oz<|j.e (b:=w.heap.size) aj (qy);have E:=wQ i;have m:=(Kept.kqe _).trans j;unfold ptV;go_wp21
 refine(kjb [58] ak rfl rfl<|y.alloc _).mono ?_;rintro e G ⟨rfl,z,f⟩;generalize qg L [58] k.2=F at *;have s:=oz<|f.e aj (zy i);have l:=f.e (b:=c.heap.size) aj<|qy;have ⟨u,x,_,_⟩:=kj6 l;have p:=(m.alloc _).trans f;clear l;go_wp2
 go_region_held3 (λw'=>w'.cell? ⟨c.heap.size,0,none⟩=some (.string k.1.x)/\w'.cell? ⟨c.heap.size,1,none⟩=some (.int .i64 k.1.v))
  (first|exact⟨k0,k1⟩|exact⟨u,x⟩|exact⟨jvn ah k0,jvn ah k1⟩)
  ((go_at_call 202;refine(kxs<|z.below (bR.drew)).mono ?_;rintro e w3 ⟨rfl,A,d⟩;have k0:=d.cell (a:=⟨c.heap.size,0,none⟩) (by omega:c.heap.size≠P) u;have k1:=d.cell (a:=⟨c.heap.size,1,none⟩) (by omega:c.heap.size≠P) x;have g:=d.e (b:=w.heap.size) aj s;have d0:=kz3 g;have t:=oz g;have q:=p.drew.trans d;clear g;unfold ptV))
 go_wp2;refine kx0 results240 underlying352 (zzc t) ?_;rw[ku B];exact⟨rfl,A.jx5 C D jH _ _ _ _,q.jx5 jH _ _ _ _⟩
structure SiT where
 I:Int
 R:Tok
 y:Tok
def siV(x:SiT):Value:=.agg #[.int .i64 x.I,.int .i64 (mg x.R.x),.int .i64 x.R.v,.string x.y.x,.int .i64 x.y.v]
def siT(L:List Tok)(st:RS):SiT:=
 if zk L nP st then ⟨0,zh,zh⟩
 else if zk L nD st then ⟨1,(zq L mW<|qg L nD st).1,zh⟩
 else ⟨2,zh,(zq L mX st).1⟩
theorem qkk(h:zk L l st=true)(a:opens l=false)(b:shuts l=false):zze L l st=qg L l st:=by grind [kzo,zze,zkg]
theorem qj6(h:zk L l st=false):zze L l st=st:=mJ
theorem zva(h:Pd w P v L st):Calls prog 208 #[.pointer (some ⟨P,0,none⟩)] w λe w'=>e=.returned (siV<|siT L st)/\Pd w' P v L (kku L st).2/\Kept P w w':=by
 have y:=h.in;have x:=oz h.kq9;go_in;go_wp21;refine(kxm nP ak<|h.alloc _).mono ?_;rintro e A ⟨rfl,l,s⟩;have j:=s.e (b:=w.heap.size) aj<|qy;have p:=(Kept.kqe _).trans s;cases hb:zk L nP st
 ·rw[qj6 hb]at l;go_wp21;refine(kxm nD ak l).mono ?_;rintro e B ⟨rfl,m,t⟩;have q:=p.trans t;have d:=t.e aj j;cases z:zk L nD st
  ·have f:=show siT L st=⟨2,zh,(zq L mX st).1⟩ by unfold siT;simp_all
   have g:=show(kku L st).2=(zq L mX st).2 by unfold kku;simp_all
   rw[qj6 z]at m;go_wp21;refine(kxs m).mono ?_;rintro e w3 ⟨rfl,u,c⟩;generalize zq L mX st=k at *;have a:=c.e aj d;have d0:=jl a;have i:=q.trans c;clear d;unfold ptV;go_wp2;refine kx0 results208 underlying119 (kxy a) ?_;rw[ku f,ku g];exact⟨rfl,u.ky7 x y jH _ _ _ _ _,i.ky7 jH _ _ _ _ _⟩
  ·have f:=show siT L st=⟨1,(zq L mW<|qg L nD st).1,zh⟩ by unfold siT;simp_all
   have g:=show(kku L st).2=(zq L mW<|qg L nD st).2 by unfold kku;simp_all
   rw[qkk z rfl rfl]at m;go_wp21;refine(zv7 m).mono ?_;rintro e w3 ⟨rfl,u,c⟩;generalize zq L mW (qg L nD st)=k at *;have a:=c.e aj d;have d0:=jl a;have i:=q.trans c;clear d;unfold dgV;go_wp2;refine kx0 results208 underlying119 (kxy a) ?_;rw[ku f,ku g];exact⟨rfl,u.ky7 x y jH _ _ _ _ _,i.ky7 jH _ _ _ _ _⟩
 ·have f:=show siT L st=⟨0,zh,zh⟩ by unfold siT;simp_all
  have g:=show(kku L st).2=qg L nP st by unfold kku;simp_all
  rw[qkk hb rfl rfl]at l;have d0:=jl j;go_wp2;refine kx0 results208 underlying119 (kxy j) ?_;rw[ku f,ku g];exact⟨rfl,l.ky7 x y jH _ _ _ _ _,p.ky7 jH _ _ _ _ _⟩
def kzn(p:PP):List Value:=[.string p.y.x,.int .i64 p.y.v,.string p.Q.x,.int .i64 p.Q.v]
def uq(l:List PP):List Value:=l.flatMap kzn
theorem jxj(l:List PP)(p:PP):uq (l++[p])=uq l++kzn p:=by simp[uq]
theorem zw0{d9:PP}:∀u∈kzn d9,u.oneCell'=true:=by intro u h;simp only[kzn,tZ,Qu,or_false]at h;obtain rfl|rfl|rfl|rfl:=h<;>rfl
theorem infoPa:(prog.info? 352).map (λi=>(i.zero,i.size,i.bytes))=some (some (.agg #[.string ⟨#[]⟩,.int .i64 0,.string ⟨#[]⟩,.int .i64 0]),4,48):=au
theorem kqs{s:List UInt8}(h:st.s=true):qg L s st=st:=by unfold qg;rw[kqk h];simp only[JD,Jg,Xw];cases st;simp_all
theorem kza{s:List UInt8}(h:st.s=true):(zq L s st).2=st:=by unfold zq kqf;rw[h];simp only[JV,QJ,ru,Xv];cases st;simp_all
theorem jk7(h:st.s=true):(rPP L st).2=st:=by show(zq L _<|qg L [58] (zq L _ st).2).2=st;grind [kza,kqs]
def jzr(L:List Tok)(fin:List PP×RS)(acc:List PP)(s:RS):Prop:=
 (s.s=true/\fin.2=s)\/(s.s=false/\∃f,L.length<=s.v+f/\(if zk L [44] s then kws f L acc (qg L [44] s) else (acc,s))=fin)
def xj3(w:World)(P:Nat)(v:Value)(L:List Tok)(fin:List PP×RS)(x:Value)(wr:World):Prop:=
 ∃(acc:List PP)(s:RS),jzr L fin acc s/\acc.length<=s.v+1/\wr.ownsRow w.heap.size 352 4 x acc.length (uq acc)/\Pd wr P v L s/\Kept P w wr
def xvs(P:Nat)(v:Value)(L:List Tok)(w:World)(r:List PP×RS)(e:Ending)(w':World):Prop:=
 ∃x l,e=.returned x/\w'.ownsRow w.heap.size 352 4 x l.length (uq l)/\(r.2.s=false->l=r.1)/\Pd w' P v L r.2/\Kept P w w'/\l.length<=801
theorem jwe{s:RS}(b:L.length<=s.v+f):jzr L (kws (f+1) L [] s) [(rPP L s).1] (rPP L s).2:=by
 cases hb:s.s
 ·have c:=qk8 L s;rw[kws];simp only[hb,ru,Xv];cases a:(rPP L s).2.s
  ·exact .inr ⟨a,f,aj,rfl⟩
  ·refine .inl ⟨a,?_⟩;rw[kqk a];rfl
 ·refine .inl ⟨by rw[jk7 hb];exact hb,?_⟩;grind [kws,jk7]
theorem vjo(g:d6.v<L.length)(h:jzr L e5 a8 d6)(hn:zk L [44] d6=true):jzr L e5 (a8++[(rPP L (qg L [44] d6)).1]) (rPP L (qg L [44] d6)).2:=by
 obtain⟨hb,_⟩|⟨hb,f,j,e⟩:=h
 ·rw[kqk hb]at hn;cases hn
 ·rw[lJ hn]at e;have c:qg L [44] d6={d6 with v:=d6.v+1}:=jW;have d:(qg L [44] d6).v=d6.v+1:=by rw[c]
  have b:(qg L [44] d6).s=false:=by simp_all
  obtain⟨f,rfl⟩:=qqy f;generalize qg L [44] d6=s' at *;rw[kws]at e;simp only[b,ru,Xv]at e;have i:=qk8 L s';cases a:(rPP L s').2.s
  ·exact .inr ⟨a,f,aj,e⟩
  ·refine .inl ⟨a,?_⟩;grind [kqk]
theorem vvi(h:jzr L e5 a8 d6)(hn:zk L [44] d6=false):e5.2=d6/\(d6.s=false->e5.1=a8):=by
 obtain⟨hb,e⟩|⟨hb,f,a,e⟩:=h
 ·simp_all
 grind
theorem jx8(L:List Tok)(st:RS):(zk L [41] (qg L [40] st)=true->kj0 L st=([],qg L [41] (qg L [40] st))) /\
  (zk L [41] (qg L [40] st)=false->kj0 L st=((kws (kq2 L) L []<|qg L [40] st).1,qg L [41] (kws (kq2 L) L []<|qg L [40] st).2)):=by grind [kj0]
theorem kz2{s:List UInt8}(h:(qg L s st).s=false):st.s=false:=by grind [kkk]
theorem Pd.grown(h:Pd w P v L st)(a:w.grownBy w' u.ownBlock)(d:∀k,u.ownBlock=some k->B<=k)(b:∀g,v.ownBlock=some g->g<B)(c:P<B):Pd w' P v L st:=by
 refine h.same (a.block P h.in<|λe=>by grind) <| h.xu.kept a ?_;cases hv:v.ownBlock with
 |none=>simp
 |some j=>grind
def zx2(w:World)(P:Nat):Nat:=match w.cell? ⟨P,1,none⟩ with
 |some (.int _ n)=>n.toNat
 |_=>0
theorem Pd.nx(h:Pd w P v L d6):zx2 w P=if d6.s then L.length-1 else d6.v:=by
 obtain⟨r,h1,a⟩:=h;unfold zx2;rw[(qzi h1.pd).2.1];simp only[tX];cases hb:d6.s
 ·simp[(a.M hb).2.1]
 ·simp[(a.s hb).2.1]
theorem Pd.xzq(h:Pd w P v L d6)(hb:d6.s=false):zx2 w P=d6.v:=by rw[h.nx,hb];rfl
theorem qqq{a:RS}(h:Pd w P v L d6)(b:Pd w' P v L a)(hb:d6.s=false)(c:d6.v+1<L.length)(d:a.s=false->d6.v+1<=a.v):L.length-zx2 w' P<L.length-zx2 w P:=by have:=b.lt;rw[h.xzq hb,b.nx];grind
theorem zve(h:Pd w P v L st):Calls prog 209 #[.pointer (some ⟨P,0,none⟩)] w λe w'=>xvs P v L w (kj0 L st) e w':=by
 have ⟨i0,hi,K,M,N⟩:=info_parts infoPa;have m:=h.in;have HV:=oz h.kq9;have a5:=h.ok.T;go_in;go_wp21;refine(qwr [40] ak rfl h).mono ?_;rintro e w1 ⟨rfl,H1,X⟩;obtain⟨(Y:Hid _),(Z:Hid _)⟩:=jx8 L st;generalize qg L [40] st=s1 at *;go_wp21;refine(qzj [41] ak H1).mono ?_;rintro e w2 ⟨rfl,T,a0⟩;have E:=X.trans a0;cases hn:zk L [41] s1
 ·have Q:=oz<|Z hn;go_wp21
  refine(jqn T).mono ?_;rintro e w3 ⟨rfl,H3,a1⟩;have z:=jwe (L:=L) (s:=s1) (f:=L.length+1) aj;have aC:=qk8 L s1;have F:=E.trans a1;have a6:=F.size;have HF:=oz (show kws (L.length+1+1) L [] s1=kws (kq2 L) L [] s1 from rfl);generalize kws (L.length+1+1) L [] s1=fin at *;generalize rPP L s1=q at *;unfold paV;go_wp2_with (at_builtin;refine wpList_append_own _ rfl _ _ 123 rfl w.heap.size 352 i0 _ 4 48 underlying123 hi K M N rfl ak _ _ _ rfl (oN) ⟨w3.heap.size,0,none⟩ 1 1 (kzn q.1) rfl rfl ?c1 ?c2 ?c3 ?c4 ?c5 ?_)
  case c1=>exact qjb w3 (kzn q.1) rfl
  case c2=>exact zw0
  case c3=>unfold maxLen;simp
  case c4=>simp
  case c5=>simp;omega
  intro v' w4 C g _;have a2:Kept P w w4:=(F.alloc _).grown (v:=.slice none 0 0) g (λk R=>by simp[Value.ownBlock]at R);have h4:Pd w4 P v L q.2:=(H3.alloc _).grown (u:=.slice none 0 0) (B:=w.heap.size) g (λk R=>by simp[Value.ownBlock]at R) HV m;have HR:=show xj3 w P v L fin v' w4 from⟨[q.1],q.2,z,ay,by simpa[uq] using C,h4,a2⟩
  go_wp2;go_loopw [3] (λx wr=>xj3 w P v L fin x wr) (λ_ wr=>L.length-zx2 wr P);exact HR;obtain⟨acc,s,z,aB,HO,A,W⟩:=hrel;have I:=A.lt;have aF:=W.size;go_wp21;refine(kxm [44] ak A).mono ?_;rintro e w5 ⟨rfl,l,H⟩;have G:=jr HO H m;have j:=W.trans H;have a7:=j.size;cases p:zk L [44] s
  ·rw[qj6 p]at l;obtain⟨(U:Hid _),(V:Hid _)⟩:=vvi z p;have O:=oz l;clear l;go_wp21;refine(qxi [41] ak rfl rfl O).mono ?_;rintro e D ⟨rfl,i,a⟩;have d:=jr G a m;have b:=j.trans a;go_wp2;go_ret;rw[ku Q,<-ku HF,ku U];exact⟨_,acc,rfl,d,λhb=>(V<|kz2 hb).symm,i,b,aj⟩
  ·rw[qkk p rfl rfl]at l;have J:=kz9 A.ok I p;have aD:(qg L [44] s).v=s.v+1:=jW;have HM:=vjo I z p;have O:=oz l;generalize qg L [44] s=s' at *;have aE:=qk8 L s';go_wp21;refine(jqn O).mono ?_;rintro e D ⟨rfl,i,a⟩;have d:=jr G a m;have b:=j.trans a;have a8:=b.size;generalize rPP L s'=y at *;unfold paV;go_wp2_with (at_builtin;refine wpList_append_own _ rfl _ _ 123 rfl w.heap.size 352 i0 _ 4 48 underlying123 hi K M N rfl ak _ _ _ rfl (d.alloc _) ⟨D.heap.size,0,none⟩ 1 1 (kzn y.1) rfl rfl ?k1 ?k2 ?k3 ?k4 ?k5 ?_)
   case k1=>exact qjb D (kzn y.1) rfl
   case k2=>exact zw0
   case k3=>unfold maxLen;omega
   case k4=>omega
   case k5=>simp;omega
   intro v7 S a4 c _;have t:=jo d;have a3:Kept P w S:=(b.alloc _).grown c t;have h7:Pd S P v L y.2:=(i.alloc _).grown c t HV m;have aA:=show xj3 w P v L fin v7 S from⟨acc++[y.1],y.2,HM,by grind,by grind [jxj],h7,a3⟩
   have a9:=oz (qqq A h7 J.1 J.2<|λ_=>aj);clear t;go_wp2;grind [ku]
 ·have Q:=oz<|Y hn;go_wp21
  refine(qxi [41] ak rfl rfl T).mono ?_;rintro e D ⟨rfl,i,a⟩;have b:=E.trans a;go_wp2;go_ret;rw[ku Q];exact⟨_,[],rfl,oN,λ_=>rfl,i,b,ay⟩
end Go.Proofs.YtpmcnonmkghokaaGreatDoor

import Derived.Test.YtpmcnonmkghokaaGreatDoorT04
import Derived.Deep.RegionHeld3
import Derived.Deep.RegionLaw
import Derived.Deep.AppendLies
import Derived.Test.YtpmcnonmkghokaaGreatDoorT03
set_option maxRecDepth 100000
set_option maxHeartbeats 4000000
set_option linter.unusedVariables false
set_option linter.unusedSimpArgs false
namespace Go.Proofs.YtpmcnonmkghokaaGreatDoor
open Go.Proofs.Tryz
open Go.RowKit
variable {a:Addr}{L:List Tok}{l:List UInt8}{xs zs:List Value}{B P R b base e lo n size:Nat}{o:Obj}{st:RS}{d k:Tok×RS}{t:TypeId}{v x0 x1 x2 x3 x4:Value}{w w':World}
structure PSet where
 name:Tok
 size:Tok
def kz6 (s:PSet):List Value:=jr s.name++jr s.size
def kvw (l:List PSet):List Value:=l.flatMap kz6
theorem zk3 (l:List PSet)(p:PSet):kvw (l++[p])=kvw l++kz6 p:=by simp[kvw]
def kki (L:List Tok)(st:RS):PSet×RS:=
 (⟨(qm L og (qy L oW st)).1,(qm L oQ (qm L og (qy L oW st)).2).1⟩,
  qy L [59] (qm L oQ (qm L og (qy L oW st)).2).2)
def kvy:Nat->List Tok->List PSet->RS->List PSet×RS
 |0,_,l,st=>(l,st)
 |f+1,L,l,st=>if qo L oW st then kvy f L (l++[(kki L st).1]) (kki L st).2 else (l,st)
structure PKind where
 name:Tok
 members:List Tok
def kzt (L:List Tok)(st:RS):PKind×RS:=
 (⟨(qm L og (qy L oV st)).1,(kk7 L (qm L og (qy L oV st)).2).1⟩,(kk7 L (qm L og (qy L oV st)).2).2)
def kwh:Nat->List Tok->List PKind->RS->List PKind×RS
 |0,_,l,st=>(l,st)
 |f+1,L,l,st=>if qo L oV st then kwh f L (l++[(kzt L st).1]) (kzt L st).2 else (l,st)
theorem qx9 {s:List UInt8}  (h:qo L s st=true)(a:opens s=false):(qy L s st).at_=st.at_+1:=by
 apply kv0;unfold qy;rw[h,a];rfl
theorem zk9 (h:qo L oW st=true):st.at_+1<=(kki L st).2.at_:=by
 have h1:=qx9 h rfl;have a:=kq9 L og (qy L oW st);have b:=kq9 L oQ (qm L og (qy L oW st)).2;have c:=jh L [59] (qm L oQ (qm L og (qy L oW st)).2).2;show st.at_+1<=(qy L [59] (qm L oQ (qm L og (qy L oW st)).2).2).at_;omega
theorem kjl {wx: World}  {b:Bool}(hb:pU w wx)(c:a.block<w.heap.size)(h:w.frozen? a=b):wx.frozen? a=b:=(hb.frozen c).trans h
theorem Kept.toBelow (h:Kept R w w')(a:B<=R)(c:B<=w.heap.size):Below B w w':=
 ⟨h.os,h.tape,h.output,h.size,λk b=>h.block k aj aj⟩
def jyc (B R T:Nat)(w:World)(v:Value)(L:List Tok)(fin:List PSet×RS)(m:Value)(wr:World):Prop:=
 ∃(l:List PSet) (st:RS) (g:Nat) (x:Value),m=.bool (qo L oW st)/\wr.heap[T]?=some (.cells #[x,.slice none 0 0,.slice none 0 0,.slice none 0 0,.slice none 0 0] 157 (0,0)) /\
  wr.ownsRow (T+1) 231 6 x l.length (kvw l)/\Rd wr R v L st/\Below B w wr/\kvy g L l st=fin/\L.length-st.at_+1<=g/\l.length<=st.at_
theorem ji {a b: Nat}  {u: Value}{m: Nat}  (h:w.ownsRow lo b a u m xs)(l:w.ownsRow base e size v n zs)(d:b≠e)(f:w.grownBy w' v.ownBlock):w'.ownsRow lo b a u m xs:=by
 refine h.kept f ?_;cases c:u.ownBlock with
 |none=>exact Or.inl rfl
 |some j=>
  refine Or.inr λk=>?_
  rcases h.2 with⟨rfl,_⟩|⟨g,cap,p,rfl,_,i,_⟩
  ·simp[Value.ownBlock]at c
  ·simp[Value.ownBlock]at c;subst c;exact not_row l i d k
def kz3 (lo:Nat)(w:World):List PKind->List Value->Prop
 |[],xs=>xs=[]
 |k::ks,xs=>∃vm ys,xs=jr k.name++(vm::ys)/\w.ownsRow lo 142 3 vm k.members.length (uq k.members)/\kz3 lo w ks ys
theorem kz3.stay {lo:Nat}{w w':World}(a:∀k,lo<=k->k<w.heap.size->w'.heap[k]?=w.heap[k]?):∀{ks:List PKind} {xs:List Value},kz3 lo w ks xs->kz3 lo w' ks xs
 |[],_,h=>h
 |k::ks,xs,⟨vm,ys,e,h1,h2⟩=>⟨vm,ys,e,jq a h1,kz3.stay a h2⟩
theorem kz3.kept {ks:List PKind}  (h:kz3 lo w ks xs)(b:Kept R w w')(c:R<lo):kz3 lo w' ks xs:=h.stay λk h1 a=>b.block k a aj
theorem kz3.snoc {lo:Nat}{w:World}{k:PKind}{a:Value}(b:w.ownsRow lo 142 3 a k.members.length (uq k.members)):∀{ks:List PKind} {xs:List Value},kz3 lo w ks xs->kz3 lo w (ks++[k]) (xs++(jr k.name++[a]))
 |[],xs,h=>by
  have:xs=[]:=h;subst this;exact⟨a,[],rfl,b,rfl⟩
 |k'::ks,xs,⟨v,ys,e,h1,h2⟩=>⟨v,ys++(jr k.name++[a]),by rw[e];simp,h1,kz3.snoc b h2⟩
theorem kz3.grown {lo base size e:Nat}{w w':World}{v:Value}{n:Nat}{zs:List Value}(c:w.ownsRow base e size v n zs)(a:142≠e)(b:w.grownBy w' v.ownBlock):∀{ks:List PKind} {xs:List Value},kz3 lo w ks xs->kz3 lo w' ks xs
 |[],_,h=>h
 |k::ks,xs,⟨vm,ys,e1,h1,h2⟩=>⟨vm,ys,e1,ji h1 c a b,kz3.grown c a b h2⟩
theorem infoKind:(prog.info? 234).map (λi=>(i.zero,i.size,i.bytes))=some (some (.agg #[.string ⟨#[]⟩,.string ⟨#[]⟩,.int .i64 0,.slice none 0 0]),4,64):=ah
theorem vwl (h:w.heap[b]?=some (.cells #[x0,x1,x2,x3] t (0,0)))(a c d:Value):
  (puts b [a,c,d] 0 w).heap[b]?=some (.cells #[a,c,d,x3] t (0,0)):=zqe _ _ h
def jym (B R T:Nat)(w:World)(v:Value)(L:List Tok)(sets:List PSet)(fin:List PKind×RS)(m:Value)(wr:World):Prop:=
 ∃(l:List PKind) (st:RS) (g:Nat) (x0 x:Value) (xs:List Value),m=.bool (qo L oV st)/\wr.heap[T]?=some (.cells #[x0,x,.slice none 0 0,.slice none 0 0,.slice none 0 0] 157 (0,0)) /\
  wr.ownsRow (T+1) 231 6 x0 sets.length (kvw sets)/\wr.ownsRow (T+1) 234 4 x l.length xs/\kz3 (T+1) wr l xs/\Rd wr R v L st/\Below B w wr/\kwh g L l st=fin/\L.length-st.at_+1<=g/\l.length<=st.at_
def kqq (L:List Tok)(st:RS):List PSet×List PKind×RS:=
 ((kvy (gy L) L [] st).1,kwh (gy L) L [] (kvy (gy L) L [] st).2)
def vx9 (B R T:Nat)(v:Value)(L:List Tok)(w:World)(r:List PSet×List PKind×RS)(e:Ending)(w':World):Prop:=
 e=.returned (.tuple #[])/\∃x0 x1 ys,w'.heap[T]?=some (.cells #[x0,x1,.slice none 0 0,.slice none 0 0,.slice none 0 0] 157 (0,0))/\w'.ownsRow (T+1) 231 6 x0 r.1.length (kvw r.1) /\
  w'.ownsRow (T+1) 234 4 x1 r.2.1.length ys/\kz3 (T+1) w' r.2.1 ys/\Rd w' R v L r.2.2/\Below B w w'/\r.1.length<=801/\r.2.1.length<=801
theorem zwu (L:List Tok)(st:RS):st.at_<=(kk7 L st).2.at_:=by
 have h:∀(f:Nat) (l:List Tok) (s:RS),s.at_<=(kk9 f L l s).2.at_:=by
  intro f;induction f with
  |zero=>intro l s;exact wJ _
  |succ f ih=>
   intro l s;rw[kk9];split
   ·exact wJ _
   ·split
    ·exact rU (rU (kq9 L _ s) (jh L [44] _)) (ih _ _)
    ·exact kq9 L _ s
 exact rU (jh L [123] st) (rU (h _ _ _) (jh L [125] _))
theorem zz5 (h:qo L oV st=true):st.at_+1<=(kzt L st).2.at_:=by
 have h1:=qx9 h rfl;have a:=kq9 L og (qy L oV st);have b:=zwu L (qm L og (qy L oV st)).2;show st.at_+1<=(kk7 L (qm L og (qy L oV st)).2).2.at_;omega
theorem vzm (B R T:Nat)(w:World)(v:Value)(L:List Tok)(st:RS)(h:Rd w R v L st)(K:B<=R)(cC:R<T)(hV:∀g,v.ownBlock=some g->g<B)
  (E:w.heap[T]?=some (.cells #[.slice none 0 0,.slice none 0 0,.slice none 0 0,.slice none 0 0,.slice none 0 0] 157 (0,0))):
  qJ 102 #[.pointer (some ⟨R,0,none⟩),.pointer (some ⟨T,0,none⟩)] w (vx9 B R T v L w (kqq L st)):=by
 obtain⟨i1,hj,dT,dU,dV⟩:=info_parts infoKind;have HV:=pG hV;have cF:=wu E;go_enter func102,ntmps102
 go_wp2_with fail
 refine(kjx oW _ R v L st h).mono ?_;rintro e w1 ⟨rfl,h1,bA⟩;have HR:=pG (show jyc B R T w v L (kvy (gy L) L [] st) (.bool (qo L oW st)) w1 from
  ⟨[],st,gy L,.slice none 0 0,rfl,(bA.block T cF aj).trans E,wB _ _ _ _,h1,bA.toBelow K aj,rfl,nD,rW _⟩)
 clear h h1 bA hV E;go_wp2_with fail
 go_loopw [4] (λm wr=>jyc B R T w v L (kvy (gy L) L [] st) m wr) (λ_ wr=>L.length-kxd wr R)
 case atStart=>exact ku HR
 case round=>
  obtain⟨l,J,g,x,rfl,E,H,h2,b8,f,cZ,dQ⟩:=hrel;have cP:=h2.lt;have dF:=h2.len;have aZ:=wu h2.rd;have b4:=wu E;have cX:=b8.size;have hw:=cF;have N:=pG H;have H2:=pG h2;have HB:=pG b8;have HT:=pG E;have V:=pG f;clear H h2 b8 E f;cases hn:qo L oW J
  ·obtain⟨g,rfl⟩:∃g',g=g'+1:=⟨g-1,aj⟩;have f:=ku V;clear V;rw[kvy,hn]at f;simp only[wU,if_false]at f;have V:=pG f;have d6:l.length<=801:=aj;clear f cZ;go_wp2_with fail
   refine(kjx oV _ R v L J (ku H2)).mono ?_;rintro e w3 ⟨rfl,h3,q⟩;have cS:=pG (show jym B R T w v L l (kwh (gy L) L [] J) (.bool (qo L oV J)) w3 from
    ⟨[],J,gy L,x,.slice none 0 0,[],rfl,(q.block T b4 aj).trans (ku HT),jg (ku N) q aj,wB _ _ _ _,rfl,h3,(ku HB).trans (q.toBelow K aj),rfl,nD,rW _⟩)
   clear h3 q H2 N HT HB;go_wp2_with fail
   go_loopw [6] (λm wr=>jym B R T w v L l (kwh (gy L) L [] J) m wr) (λ_ wr=>L.length-kxd wr R)
   case atStart=>exact ku cS
   case round=>
    clear b4 aZ cX cP;obtain⟨S,s5,g5,x0,x1,xs,rfl,E,aL,H,cG,Y,b9,bY,dE,dO⟩:=hrel;have dH:=Y.lt;have d8:=Y.len;have cB:=wu Y.rd;have cY:=wu E;have dB:=b9.size;have a7:=pG aL;have N:=pG H;have aR:=pG cG;have H5:=pG Y;have HB:=pG b9;have HT:=pG E;have a5:=pG bY;clear aL H cG Y b9 E bY;cases bD:qo L oV s5
    ·obtain⟨g5,rfl⟩:∃g',g5=g'+1:=⟨g5-1,aj⟩;have f:=ku a5;rw[kwh,bD]at f;simp only[wU,if_false]at f;have aQ:=pG f;clear a5 f;go_wp2
     go_end0
     have A:=ku V;have C:=ku aQ;have D:kqq L st=(l,S,s5):=by unfold kqq;rw[<-A];simp only;rw[<-C]
     rw[D];exact⟨rfl,x0,x1,xs,ku HT,ku a7,ku N,ku aR,ku H5,ku HB,d6,gU⟩
    ·obtain⟨g5,rfl⟩:∃g',g5=g'+1:=⟨g5-1,aj⟩;have f:=ku a5;rw[kwh,if_pos bD]at f;have aQ:=pG f;clear a5 f;have i:=zz5 bD;have X:=pG (show ∀g,v.ownBlock=some g->g<wr.heap.size from λg F=>kM);have W:=pG (mg (ku N));have dA:=pG (mg (ku a7));go_wp2_with fail
     refine(kq0 oV _ R v L s5 ((ku H5).below (below_alloc1 _ _))).mono ?_;rintro e w6 ⟨rfl,h6,u⟩;have aA:=pG ((u.block wr.heap.size au aj).trans (heap_alloc_new wr _));have a6:=pG (((Kept.refl R wr).alloc _).trans u);have H6:=pG h6;clear h6 u;go_wp2_with fail
     refine(kzf og _ R v L _ (ku H6) rfl).mono ?_;rintro e w7 ⟨rfl,h7,bB⟩;have bI:=(bB.block wr.heap.size (wu (ku aA)) aj).trans (ku aA);obtain⟨O,d1,d2,d3,P,A,C,D⟩:=row4 bI;have aB:=pG bI;have bQ:=pG ((ku a6).trans bB);have H7:=pG h7;clear h7 bB bI aA a6 H6;generalize Q:qm L og (qy L oV s5)=k at H7 |-;have E1:=pG Q;clear Q;unfold kx2;go_wp2_with fail
     refine(jxe _ R v L k.2 ((ku H7).qjy (ku X) cB (wJ _))).mono ?_;rintro e w8 ⟨vm,rfl,bF,h8,bC,dS⟩;have bJ:=(bC.block wr.heap.size (by simpa using wu (ku aB)) aj).trans (vwl (ku aB) _ _ _);have bZ:=((ku bQ).qjy (b:=wr.heap.size) (wJ _)).trans bC;have dK:=wu (ku aB);have a9:=pG (zu (lo':=wr.heap.size+1) ay bF);have H8:=pG h8;clear O d1 d2 d3 P A C D aB bQ H7;obtain⟨O,d1,d2,d3,P,A,C,D⟩:=row4 bJ;obtain⟨y,z,mc,rfl⟩:=zq bF;generalize cI:kk7 L k.2=M at a9 H8;have E2:=pG cI;have cH:(Value.slice y z mc).ownBlock≠some wr.heap.size:=λe=>by have:=xg (ku a9) _ e;omega
     have aO:=heap_setCell_same w8 wr.heap.size 3 _ _ (.slice y z mc) bJ;have t:=bZ.jk (p:=⟨wr.heap.size,3,none⟩) (wJ _) (.slice y z mc);have Z:=(ku H8).jk (ku X) cB (p:=⟨wr.heap.size,3,none⟩) (wJ _) (.slice y z mc);have a3:=ownsRow_setCell_other (ku a9) (a:=⟨wr.heap.size,3,none⟩) cH (.slice y z mc);clear cI;go_wp2_with fail
     generalize w8.setCell ⟨wr.heap.size,3,none⟩ (.slice y z mc)=U at aO t Z a3 |-;clear O d1 d2 d3 P A C D;obtain⟨O,d1,d2,d3,P,A,C,D⟩:=row4 aO;have aH:=(t.block T cY aj).trans (ku HT);obtain⟨q0,q1,q2,q3,q4,r0,r1,r2,r3,r4⟩:=kxh aH;have b6:=wu aH;have dL:=wu aO;have dX:=t.size;have cR:=pG t;have cW:=pG aH;have H9:=pG Z;have cO:=pG a3;have a8:=pG (jg (ku N) t aj);have cL:=pG (jg (ku a7) t aj);have cK:=pG ((ku aR).kept t aj);have I:x1.ownBlock≠some T:=λe=>by have:=xg (ku a8) T e;omega
     have d7:x1.ownBlock≠some wr.heap.size:=λe=>by have:=ku W _ e;omega
     clear bF h8 bC bJ bZ N a7 aR aO t Z a3 aH a9 H8 cH;go_region_law ((refine apL (news:=(jr k.1++[Value.slice y z mc])) (((ku a8).alloc _).drew) (heap_alloc_new U _) ?_;intro gg cap a2 a0 c b7 d9;have dD:a2.frozen? ⟨T,1,none⟩=false:=(c.frozen_far _ ay (Ne.symm I)).trans (kjl (zk _ _) b6 r1);have dC:a2.cell? ⟨T,1,none⟩=some x1:=(c.cell_far _ ay (Ne.symm I)).trans (wZ (zk _ _) q1)))
     all_goals
      have G:=xg (ku a8);have bV:=((ku H9).below (zk _ _)).grown c G (λg F=>kM) aj;have bW:=bV.jk (B:=T) (λg F=>kM) cC (p:=⟨T,1,none⟩) (wJ _) (.slice (some ⟨gg,0,none⟩) (S.length+1) cap);have b2:=(c.block T ay (Ne.symm I)).trans ((tX U _ T b6).trans (ku cW));have b3:=heap_setCell_same a2 T 1 _ _ (.slice (some ⟨gg,0,none⟩) (S.length+1) cap) b2;have aY:=ownsRow_setCell_below a0 (a:=⟨T,1,none⟩) au (.slice (some ⟨gg,0,none⟩) (S.length+1) cap);have a4:=((ku a8).alloc (.cells (jr k.1++[Value.slice y z mc]).toArray 234)).drew;have aF:=ownsRow_setCell_below (ji (jq (w':=(U.alloc (.cells (jr k.1++[Value.slice y z mc]).toArray 234)).drew) (λj _ hj=>tX U _ j hj) (ku cL)) a4 ak c) (a:=⟨T,1,none⟩) au (.slice (some ⟨gg,0,none⟩) (S.length+1) cap);have aE:=(((((ku cK).snoc (k:=⟨k.1,M.1⟩) (zu aj (ku cO))).stay (w':=(U.alloc (.cells (jr k.1++[Value.slice y z mc]).toArray 234)).drew) (λj _ hj=>tX U (.cells (jr k.1++[Value.slice y z mc]).toArray 234) j hj)).grown a4 ak c).stay (w':=a2.setCell ⟨T,1,none⟩ (.slice (some ⟨gg,0,none⟩) (S.length+1) cap)) (λj hj _=>wP _ _ _ _ gU));have aX:Below B w (a2.setCell ⟨T,1,none⟩ (.slice (some ⟨gg,0,none⟩) (S.length+1) cap)):=
       (((((ku HB).trans ((ku cR).toBelow K aj)).alloc aj _).drew).grown c ay (λk Q=>by have:=G k Q;omega)).setCell gU _
      have cQ:=pG bW;have aT:=pG b3;have cM:=pG aY;have bL:=pG aF;have bK:=pG aE;have aP:=pG aX;clear bV bW b2 b3 aY aF aE aX G a0 c b7 a4;go_wp2_with fail
      refine(kjx oV _ R v L _ (ku cQ)).mono ?_;rintro e cJ ⟨rfl,aC,s⟩;have a1:kzt L s5=(⟨k.1,M.1⟩,M.2):=by unfold kzt;rw[ku E1,ku E2]
      have f:=ku aQ;rw[a1]at f i;have cN:=pG (show jym B R T w v L l (kwh (gy L) L [] J) (.bool (qo L oV M.2)) cJ from
       ⟨S++[⟨k.1,M.1⟩],M.2,g5,x0,.slice (some ⟨gg,0,none⟩) (S.length+1) cap,xs++(jr k.1++[Value.slice y z mc]),rfl,(s.block T (by simpa using wu (ku aT)) aj).trans (ku aT),jg (ku bL) s aj,
        by rw[wY];exact jg (ku cM) s aj,(ku bK).kept s aj,aC,(ku aP).trans (s.toBelow K (by have:=(ku aP).size;omega)),f,by simp only at i;omega,by rw[wY];simp only at i;simp;omega⟩)
      have HM:=pG (show L.length-kxd cJ R<L.length-kxd wr R by rw[aC.kxd,(ku H5).kxd];simp only at i;have:=aC.lt;omega);clear aC s a1 f;go_wp2
      go_roundw
      case rel=>exact ku cN
      case measure=>exact ku HM
  ·obtain⟨g,rfl⟩:∃g',g=g'+1:=⟨g-1,aj⟩;have f:=ku V;clear V;rw[kvy,if_pos hn]at f;have V:=pG f;clear f;have i:=zk9 hn;have X:=pG (show ∀g,v.ownBlock=some g->g<wr.heap.size from λg F=>kM);have W:=pG (mg (ku N));go_wp2_with fail
   refine(kq0 oW _ R v L J ((ku H2).below (below_alloc1 _ _))).mono ?_;rintro e w3 ⟨rfl,h3,q⟩;have aU:=pG ((q.block wr.heap.size au aj).trans (heap_alloc_new wr _));have bN:=pG (((Kept.refl R wr).alloc _).trans q);have bR:=pG (jg ((ku N).alloc _) q aj);have H3:=pG h3;clear h3 q;go_wp2_with fail
   refine(kzf og _ R v L _ (ku H3) rfl).mono ?_;rintro e w4 ⟨rfl,h4,aI⟩;have bG:=(aI.block wr.heap.size (wu (ku aU)) aj).trans (ku aU);obtain⟨O,d1,d2,d3,d4,d5,P,A,C,D,e4,e5⟩:=kzb bG;have aV:=pG bG;have bO:=pG ((ku bN).trans aI);have bS:=pG (jg (ku bR) aI aj);have H4:=pG h4;clear h4 aI bG aU bN bR H3;generalize Q:qm L og (qy L oW J)=k at H4 |-;have E1:=pG Q;clear Q;unfold kx2;go_wp2_with fail
   refine(kzf oQ _ R v L k.2 ((ku H4).qjy (ku X) aZ (wJ _)) rfl).mono ?_;rintro e w5 ⟨rfl,Y,aJ⟩;have bH:=(aJ.block wr.heap.size (by simpa using wu (ku aV)) aj).trans (jx3 (ku aV) _ _ _);have bP:=pG (((ku bO).qjy (b:=wr.heap.size) (wJ _)).trans aJ);have bT:=pG (jg (zj1 (ku bS) (ku W) (wJ _)) aJ aj);have H5:=pG Y;clear O d1 d2 d3 d4 d5 P A C D e4 e5 aV bO bS H4;obtain⟨O,d1,d2,d3,d4,d5,P,A,C,D,e4,e5⟩:=kzb bH;have aW:=pG bH;clear Y aJ bH;generalize hd:qm L oQ k.2=d at H5 |-;have E2:=pG hd;clear hd;unfold kx2;go_wp2_with fail
   refine(kq0 [59] _ R v L d.2 ((ku H5).qjy (ku X) aZ (wJ _))).mono ?_;rintro e w6 ⟨rfl,h6,u⟩;have aN:=(u.block wr.heap.size (by simpa using wu (ku aW)) aj).trans (pq8 (ku aW) _ _ _);have aD:=((ku bP).qjy (b:=wr.heap.size) (wJ _)).trans u;have aS:=pG (jg (zj1 (ku bT) (ku W) (wJ _)) u aj);have aG:=(aD.block T b4 aj).trans (ku HT);have H6:=pG h6;clear O d1 d2 d3 d4 d5 P A C D e4 e5 aW bP bT H5;obtain⟨O,d1,d2,d3,d4,d5,P,A,C,D,e4,e5⟩:=kzb aN;obtain⟨q0,q1,q2,q3,q4,r0,r1,r2,r3,r4⟩:=kxh aG;have dW:=aD.size;have dJ:=wu aN;have b5:=wu aG;have I:x.ownBlock≠some T:=λe=>by have:=xg (ku aS) T e;omega
   have d7:x.ownBlock≠some wr.heap.size:=λe=>by have:=ku W _ e;omega
   have aA:=pG aN;have cV:=pG aG;have a6:=pG aD;clear h6 u aN aD aG;go_wp2_with fail
   go_region_law ((refine apL (news:=(kz6 ⟨k.1,d.1⟩)) (((ku aS).alloc _).drew) (heap_alloc_new w6 _) ?_;intro gg cap w7 aM c b7 dI;have dN:w7.frozen? ⟨T,0,none⟩=false:=(c.frozen_far _ ay (Ne.symm I)).trans (kjl (zk _ _) b5 r0);have dM:w7.cell? ⟨T,0,none⟩=some x:=(c.cell_far _ ay (Ne.symm I)).trans (wZ (zk _ _) q0)))
   all_goals
    have G:=xg (ku aS);have h7:=((ku H6).below (zk _ _)).grown c G (λg F=>kM) aj;have h8:=h7.jk (B:=T) (λg F=>kM) cC (p:=⟨T,0,none⟩) (wJ _) (.slice (some ⟨gg,0,none⟩) (l.length+1) cap);have cD:=(c.block T ay (Ne.symm I)).trans ((tX w6 _ T b5).trans (ku cV));have cE:=heap_setCell_same w7 T 0 _ _ (.slice (some ⟨gg,0,none⟩) (l.length+1) cap) cD;have cA:=ownsRow_setCell_below aM (a:=⟨T,0,none⟩) au (.slice (some ⟨gg,0,none⟩) (l.length+1) cap);have bX:Below B w (w7.setCell ⟨T,0,none⟩ (.slice (some ⟨gg,0,none⟩) (l.length+1) cap)):=
     (((((ku HB).trans ((ku a6).toBelow K aj)).alloc aj _).drew).grown c ay (λk Q=>by have:=G k Q;omega)).setCell gU _
    have H8:=pG h8;have bU:=pG cE;have cT:=pG cA;have bM:=pG bX;clear h7 h8 cD cE cA bX G aM c b7;go_wp2_with fail
    refine(kjx oW _ R v L _ (ku H8)).mono ?_;rintro e U ⟨rfl,Z,aK⟩;have a1:kki L J=(⟨k.1,d.1⟩,qy L [59] d.2):=by unfold kki;rw[ku E1,ku E2]
    have f:=ku V;rw[a1]at f i;have cU:=pG (show jyc B R T w v L (kvy (gy L) L [] st) (.bool (qo L oW (qy L [59] d.2))) U from
     ⟨l++[⟨k.1,d.1⟩],qy L [59] d.2,g,.slice (some ⟨gg,0,none⟩) (l.length+1) cap,rfl,(aK.block T (by simpa using wu (ku bU)) aj).trans (ku bU),
      by rw[zk3,wY];exact jg (ku cT) aK aj,Z,(ku bM).trans (aK.toBelow K (by have:=(ku bM).size;omega)),f,by simp only at i;omega,by rw[wY];simp only at i;simp;omega⟩)
    have HM:=pG (show L.length-kxd U R<L.length-kxd wr R by rw[Z.kxd,(ku H2).kxd];simp only at i;have:=Z.lt;omega);clear Z aK a1 f;go_wp2
    go_roundw
    case rel=>exact ku cU
    case measure=>exact ku HM
theorem Kept.row (a:Kept P w w')(hb:b≠P)(h:w.heap[b]?=some o):w'.heap[b]?=some o:=(a.block b (wu h) hb).trans h
theorem zy {p: Obj}(h:w.heap[b]?=some o):(w.alloc p).heap[b]?=some o:=(tX _ _ _ (wu h)).trans h
theorem qg (w:World)(o:Obj):(w.alloc o).heap[w.heap.size]?=some o:=heap_alloc_new w o
theorem Kept.kqn (o:Obj):Kept P w (w.alloc o):=(Kept.refl _ _).alloc _
theorem Pd.alloc (h:Pd w P v L st)(o:Obj):Pd (w.alloc o) P v L st:=h.below (below_alloc1 _ _)
theorem Pd.mg (h:Pd w P v L st):∀g,v.ownBlock=some g->g<w.heap.size:=Go.Proofs.YtpmcnonmkghokaaGreatDoor.mg h.own
theorem Pd.set2 (h:Pd w P v L st)(c:∀g,v.ownBlock=some g->g<B)(d:P<B){p q:Addr}(e:B<=p.block)(f:B<=q.block)(a b:Value):Pd ((w.setCell p a).setCell q b) P v L st:=
 (h.setOther c d e a).setOther c d f b
def sqT (L:List Tok)(st:RS):Tok×RS:=qm L og (qy L [91] st)
theorem zq3 (w:World)(P:Nat)(v:Value)(L:List Tok)(st:RS)(h:Pd w P v L st):
  qJ 207 #[.pointer (some ⟨P,0,none⟩)] w λe w'=>e=.returned (ptV (sqT L st).1)/\Pd w' P v L (qy L [93] (sqT L st).2)/\Kept P w w':=by
 have p:=h.in;go_enter func207,ntmps207
 go_wp2_with fail
 refine(qkj [91] ak rfl _ P v L st (h.alloc _)).mono ?_;rintro e y ⟨rfl,j,d⟩;go_wp2_with fail
 refine(kx7 _ P v L _ j).mono ?_;rintro e q ⟨rfl,l,f⟩;have k:=show sqT L st=qm L og (qy L [91] st) from rfl
 generalize qm L og (qy L [91] st)=i at *;have c:=f.row aj (d.row (b:=w.heap.size) aj (qg _ _));have s:=wu c;unfold ptV;go_wp2_with fail
 refine(qje [93] ak rfl rfl _ P v L _ (l.alloc _)).mono ?_;rintro e w3 ⟨rfl,m,a⟩;have g:=a.row aj (zy c);have t:=kj0 g;obtain⟨u,x,_,_⟩:=kj0 (a.row (b:=q.heap.size) aj (qg _ _));go_wp2
 refine rY (v:=ptV i.1) (rP results207 _ _ w.heap.size _ _ _ _ rfl (set2 g _ _) underlying107 rfl ah) rfl ?_;rw[k];exact⟨rfl,m.set2 (pG h.mg) p (wJ _) (wJ _) _ _,((((((Kept.kqn _).trans d).trans f).alloc _).trans a).jk (wJ _) _).jk (wJ _) _⟩
theorem jl (h:w.heap[b]?=some (.cells #[x0,x1,x2,x3,x4] t (0,0))):
  Ce w b 0 x0/\Ce w b 1 x1/\Ce w b 2 x2/\Ce w b 3 x3/\Ce w b 4 x4 /\
  Fr w b 0/\Fr w b 1/\Fr w b 2/\Fr w b 3/\Fr w b 4:=
 ⟨rc h 0,rc h 1,rc h 2,rc h 3,rc h 4,
  rf h 0,rf h 1,rf h 2,rf h 3,rf h 4⟩
theorem kjw (h:w.heap[b]?=some (.cells #[x0,x1,x2,x3,x4] t (0,0)))(y0 y1 y2 y3 y4:Value):
  (puts b [y0,y1,y2,y3,y4] 0 w).heap[b]?=some (.cells #[y0,y1,y2,y3,y4] t (0,0)):=zqe _ _ h
theorem Pd.qz7 (h:Pd w P v L st)(c:∀g,v.ownBlock=some g->g<B)(d:P<B)(hb:B<=b):∀(a:List Value) (k:Nat),Pd (puts b a k w) P v L st:=λa=>by
 induction a generalizing w with
 |nil=>exact λ_=>h
 |cons y a ih=>exact λk=>ih (h.setOther c d hb y) (k+1)
theorem Pd.kw6 (h:Pd w P v L st)(a:∀g,v.ownBlock=some g->g<B)(c:P<B)  (hb:B<=b)(y0 y1 y2 y3 y4:Value):
  Pd (puts b [y0,y1,y2,y3,y4] 0 w) P v L st:=h.qz7 a c hb _ _
theorem Kept.kw6 {a: World}(h:Kept P a w)  (hb:a.heap.size<=b)(y0 y1 y2 y3 y4:Value):
  Kept P a (puts b [y0,y1,y2,y3,y4] 0 w):=h.qz7 hb _ _
def jwz (L:List Tok)(st:RS):Bool:=qo L [91] (qm L og st).2
def plT (L:List Tok)(st:RS):Tok×Bool×Tok×RS:=
 if jwz L st then ((qm L og st).1,true,(sqT L (qm L og st).2).1,qy L [93] (sqT L (qm L og st).2).2)
 else ((qm L og st).1,false,zf,(qm L og st).2)
def plV (x:Tok×Bool×Tok×RS):Value:=.agg #[.string x.1.text,.int .i64 x.1.at_,.bool x.2.1,.string x.2.2.1.text,.int .i64 x.2.2.1.at_]
theorem zkv (w:World)(P:Nat)(v:Value)(L:List Tok)(st:RS)(h:Pd w P v L st):
  qJ 260 #[.pointer (some ⟨P,0,none⟩)] w λe w'=>e=.returned (plV (plT L st))/\Pd w' P v L (plT L st).2.2.2/\Kept P w w':=by
 have m:=h.in;have l:=pG h.mg;go_enter func260,ntmps260
 go_wp2_with fail
 refine(kx7 _ P v L st (h.alloc _)).mono ?_;rintro e g ⟨rfl,D,s⟩;have j:=show plT L st=if qo L [91] (qm L og st).2 then ((qm L og st).1,true,(sqT L (qm L og st).2).1,qy L [93] (sqT L (qm L og st).2).2)
  else ((qm L og st).1,false,zf,(qm L og st).2) from rfl
 generalize qm L og st=k at *;have t:=s.row (b:=w.heap.size) aj (qg _ _);have N:=wu t;unfold ptV;go_wp2_with fail
 refine(qqb [91] ak _ P v L _ (D.alloc _)).mono ?_;rintro e O ⟨rfl,K,d⟩;have c:=d.row (b:=g.heap.size) aj (qg _ _);have q:=(((Kept.kqn _).trans s).alloc _).trans d;have x:=pG K;have a:=pG (d.row aj (zy t));cases hn:qo L [91] k.2
 ·rw[hn]at j;obtain⟨E,d1,d2,d3,d4,F,G,H,I,J⟩:=jl a;obtain⟨y,z,A,B,C,_⟩:=jl c;go_wp2
  refine rY (v:=plV (k.1,false,zf,k.2)) (rP results260 _ _ w.heap.size _ _ _ _ rfl (kjw a _ _ _ _ _) underlying332 rfl ah) rfl ?_;rw[j];exact⟨rfl,x.kw6 l m (wJ _) _ _ _ _ _,q.kw6 (wJ _) _ _ _ _ _⟩
 ·rw[hn]at j;obtain⟨y,z,A,B,C,f0,f1,f2,f3,f4⟩:=jl c;go_wp2_with fail
  refine(zq3 _ P v L _ (x.setOther l m ay _)).mono ?_;rintro e w3 ⟨rfl,M,f⟩;generalize sqT L k.2=i at *;have u:=f.row (b:=w.heap.size) aj ((wP _ _ _ _ ay).trans a);obtain⟨E,d1,d2,d3,d4,F,G,H,I,J⟩:=jl u;obtain⟨y,z,A,B,C,f0,f1,f2,f3,f4⟩:=jl (f.row (b:=g.heap.size) aj (heap_setCell_same _ _ 2 _ _ _ c));unfold ptV;go_wp2
  refine rY (v:=plV (k.1,true,i.1,qy L [93] i.2)) (rP results260 _ _ w.heap.size _ _ _ _ rfl (kjw (w:=(w3.setCell ⟨g.heap.size,3,none⟩ _).setCell ⟨g.heap.size,4,none⟩ _) (by rw[wP _ _ _ _ ay,wP _ _ _ _ ay];exact u) _ _ _ _ _) underlying332 rfl ah) rfl ?_;rw[j];exact⟨rfl,(M.set2 l m ay ay _ _).kw6 l m (wJ _) _ _ _ _ _,((((q.jk (p:=⟨g.heap.size,2,none⟩) ay (.bool true)).trans f).jk ay _).jk ay _).kw6 (wJ _) _ _ _ _ _⟩
structure PRule where
 name:Tok
 params:List PP
 guard:PX
 body:PB
structure PTree where
 sets:List PSet
 kinds:List PKind
 vars:List PVar
 rules:List PRule
 nevers:List PRule
def kwg (l:List PVar):List Value:=l.flatMap kqu
theorem qxa (l:List PVar)(p:PVar):kwg (l++[p])=kwg l++kqu p:=by simp[kwg]
def qw5:Nat->List Tok->List PVar->RS->List PVar×RS
 |0,_,l,st=>(l,st)
 |f+1,L,l,st=>
  if st.bad then (l,st)
  else if qo L oZ (kwm L st).2 then qw5 f L (l++[(kwm L st).1]) (kwm L st).2
  else (l++[(kwm L st).1],(kwm L st).2)
def zz1 (L:List Tok)(st:RS):Tok×RS:=qm L og (qy L oD st)
def qj0 (L:List Tok)(st:RS):List PP×RS:=kql L (zz1 L st).2
def qqj (L:List Tok)(st:RS):PX×RS:=rX (yg L) 0 .nil L (qy L oh (qj0 L st).2)
def kj6 (L:List Tok)(st:RS):PRule×RS:=
 (⟨(zz1 L st).1,(qj0 L st).1,(qqj L st).1,(rS (kyv L) 0 L (qqj L st).2).1⟩,(rS (kyv L) 0 L (qqj L st).2).2)
def qx6:Nat->List Tok->List PRule->RS->List PRule×RS
 |0,_,l,st=>(l,st)
 |f+1,L,l,st=>
  if st.bad then (l,st)
  else if qo L oD (kj6 L st).2 then qx6 f L (l++[(kj6 L st).1]) (kj6 L st).2
  else (l++[(kj6 L st).1],(kj6 L st).2)
def qkz (L:List Tok)(st:RS):Tok×RS:=qm L og (qy L oM st)
def qxq (L:List Tok)(st:RS):List PP×RS:=kql L (qkz L st).2
def qjg (L:List Tok)(st:RS):PX×RS:=rX (yg L) 0 .nil L (qxq L st).2
def kjm (L:List Tok)(st:RS):PRule×RS:=
 (⟨(qkz L st).1,(qxq L st).1,(qjg L st).1,.nil⟩,qy L [59] (qjg L st).2)
def kyt:Nat->List Tok->List PRule->RS->List PRule×RS
 |0,_,l,st=>(l,st)
 |f+1,L,l,st=>if qo L oM st then kyt f L (l++[(kjm L st).1]) (kjm L st).2 else (l,st)
def gu:RS:={at_:=0,nest:=0,bad:=false}
def kzz (L:List Tok):List PVar×RS:=qw5 (gy L) L [] (kqq L gu).2.2
def kx5 (L:List Tok):List PRule×RS:=qx6 (gy L) L [] (kzz L).2
def kx6 (L:List Tok):List PRule×RS:=kyt (gy L) L [] (kx5 L).2
def yx (L:List Tok):PTree×Option Nat:=
 (⟨(kqq L gu).1,(kqq L gu).2.1,(kzz L).1,(kx5 L).1,(kx6 L).1⟩,
  if (kx6 L).2.bad||!((tk L (kx6 L).2.at_).kind.toList==pJ) then some (tk L (kx6 L).2.at_).at_ else none)
theorem qym (L:List Tok)(st:RS):st.at_<=(kql L st).2.at_:=by
 have h:∀(f:Nat) (l:List PP) (s:RS),s.at_<=(kvf f L l s).2.at_:=by
  intro f;induction f with
  |zero=>intro l s;exact wJ _
  |succ f ih=>
   intro l s;rw[kvf];split
   ·exact wJ _
   ·split
    ·exact rU (rU (qqx L s) (jh L [44] _)) (ih _ _)
    ·exact qqx L s
 unfold kql;split
 ·exact rU (jh L [40] st) (jh L [41] _)
 ·exact rU (jh L [40] st) (rU (h _ _ _) (jh L [41] _))
theorem jw5 (L:List Tok)(st:RS):st.at_<=(kjb L st).2.at_:=by
 unfold kjb;split
 ·exact rU (jh L [91] st) (rU (kq9 L _ _) (jh L [93] _))
 ·exact wJ _
theorem vjh (L:List Tok)(st:RS):st.at_<=(kxe L st).2.at_:=by
 unfold kxe;split
 ·exact jh L _ st
 ·split
  ·exact rU (jh L o8 st) (kq9 L _ _)
  ·exact kq9 L _ st
theorem qv8 (L:List Tok)(st:RS):(qy L oZ st).at_<=(kwm L st).2.at_:=
 rU (kq9 L _ _) (rU (jh L [58] _) (rU (jw5 L _) (rU (vjh L _) (jh L [59] _))))
theorem zy9 (h:st.bad=true):(kjb L st).2.bad=true:=by simp[kjb,kq7 h,h]
theorem jxw (h:st.bad=true):(kxe L st).2.bad=true:=by simp[kxe,kq7 h,kys h]
theorem vjm (h:(kwm L st).2.bad=false):st.at_+1<=(kwm L st).2.at_:=by
 have h1:(qy L oZ st).bad=false:=by
  cases hb:(qy L oZ st).bad
  ·rfl
  ·have:(kwm L st).2.bad=true:=kj2 (jxw (zy9 (kj2 (kys hb))));rw[this]at h;cases h
 have a:=qv8 L st;rw[kv0 h1]at a;exact a
theorem qj2 (L:List Tok)(st:RS):(qy L oD st).at_<=(kj6 L st).2.at_:=
 rU (kq9 L _ _) (rU (qym L _) (rU (jh L oh _) (rU (kx3 _ _ _ L _) (kk2 L _ _ _))))
theorem zkq (h:st.bad=true):∀(f:Nat) (l:List PP),(kvf f L l st).2=st
 |0,_=>rfl
 |f+1,l=>by rw[kvf,h];rfl
theorem zz3 (h:st.bad=true):(kql L st).2.bad=true:=by
 unfold kql;rw[kq7 (kj2 h)];exact kj2 (by rw[zkq (kj2 h)];exact kj2 h)
theorem jxy (h:(kj6 L st).2.bad=false):st.at_+1<=(kj6 L st).2.at_:=by
 have h1:(qy L oD st).bad=false:=by
  cases hb:(qy L oD st).bad
  ·rfl
  ·have a:(qqj L st).2.bad=true:=by
    unfold qqj;have:(qy L oh (qj0 L st).2).bad=true:=kj2 (zz3 (kys hb));rw[kjz this];exact this
   have:(kj6 L st).2.bad=true:=qk6 a _ _;rw[this]at h;cases h
 have a:=qj2 L st;rw[kv0 h1]at a;exact a
theorem qyh (h:qo L oM st=true):st.at_+1<=(kjm L st).2.at_:=by
 have h1:=qx9 h rfl;have a:(qy L oM st).at_<=(kjm L st).2.at_:=
  rU (kq9 L _ _) (rU (qym L _) (rU (kx3 _ _ _ L _) (jh L [59] _)))
 omega
def kq3 (lo:Nat)(w:World):List PRule->List Value->Prop
 |[],xs=>xs=[]
 |r::rs,xs=>∃vp vg vb ps ys,xs=jr r.name++(vp::vg::vb::ys)/\w.ownsRow lo 236 6 vp r.params.length (kjh r.params)/\yj lo w r.guard vg /\
   w.ownsRow lo 245 1 vb ps.length ps/\jm lo none w r.body ps/\kq3 lo w rs ys
theorem kq3.stay {lo:Nat}{w w':World}(a:∀k,lo<=k->k<w.heap.size->w'.heap[k]?=w.heap[k]?):∀{rs:List PRule} {xs:List Value},kq3 lo w rs xs->kq3 lo w' rs xs
 |[],_,h=>h
 |r::rs,xs,⟨vp,vg,vb,ps,ys,e,h1,h2,h3,h4,h5⟩=>⟨vp,vg,vb,ps,ys,e,jq a h1,h2.stay a,jq a h3,h4.stay a,kq3.stay a h5⟩
theorem kq3.kept {rs:List PRule}  (h:kq3 lo w rs xs)(b:Kept R w w')(c:R<lo):kq3 lo w' rs xs:=h.stay λk h1 a=>b.block k a aj
theorem kq3.snoc {lo:Nat}{w:World}{r:PRule}{vp vg vb:Value}{ps:List Value}(h1:w.ownsRow lo 236 6 vp r.params.length (kjh r.params))(d:yj lo w r.guard vg)(f:w.ownsRow lo 245 1 vb ps.length ps)(g:jm lo none w r.body ps):
  ∀{rs:List PRule} {xs:List Value},kq3 lo w rs xs->kq3 lo w (rs++[r]) (xs++(jr r.name++[vp,vg,vb]))
 |[],xs,h=>by
  have:xs=[]:=h;subst this;exact⟨vp,vg,vb,ps,[],rfl,h1,d,f,g,rfl⟩
 |r'::rs,xs,⟨a,b,c,q,ys,e,k1,k2,k3,k4,k5⟩=>⟨a,b,c,q,ys++(jr r.name++[vp,vg,vb]),by rw[e];simp,k1,k2,k3,k4,kq3.snoc h1 d f g k5⟩
theorem yj.far {lo base e size:Nat}{w w':World}{v:Value}{n:Nat}{xs:List Value}(c:w.ownsRow base e size v n xs)(a:242≠e)(b:w.grownBy w' v.ownBlock):∀{x:PX} {p:Value},yj lo w x p->yj lo w' x p
 |.nil,_,h=>h
 |.node _ _ _ _ _,_,⟨k,va,vb,e1,hn,hh,ha,hb⟩=>⟨k,va,vb,e1,hn,jY,yj.far c a b ha,yj.far c a b hb⟩
theorem jm.far {lo base e size:Nat}{no:Option Nat}{w w':World}{v:Value}{n:Nat}{xs:List Value}(d:w.ownsRow base e size v n xs)(f:242≠e)(g:247≠e)(i:245≠e)(c:w.grownBy w' v.ownBlock):
  ∀{b:PB} {ps:List Value},jm lo no w b ps->jm lo no w' b ps
 |.nil,_,h=>h
 |.node _ _ a .nil nx,ps,⟨k,vp,vv,vi,qs,e1,hl,hh,ha,hn⟩=>⟨k,vp,vv,vi,qs,e1,hl,by rw[c.block k (wu hh) (not_row d hh g)];exact hh,⟨ha.1.far d f c,ha.2.1.far d f c,ha.2.2.far d f c⟩,jm.far d f g i c hn⟩
 |.node _ _ a (.node _ _ _ t e') nx,ps,⟨k,vp,vv,vi,vt,ve,qt,qe,qs,e1,hl,hh,ha,⟨ht1,ht3,ht2⟩,⟨he1,he3,he2⟩,hn⟩=>
  ⟨k,vp,vv,vi,vt,ve,qt,qe,qs,e1,hl,by rw[c.block k (wu hh) (not_row d hh g)];exact hh,⟨ha.1.far d f c,ha.2.1.far d f c,ha.2.2.far d f c⟩,
   ⟨ji ht1 d i c,ht3,jm.far d f g i c ht2⟩,⟨ji he1 d i c,he3,jm.far d f g i c he2⟩,jm.far d f g i c hn⟩
theorem kq3.far {lo base e size:Nat}{w w':World}{v:Value}{n:Nat}{zs:List Value}(b:w.ownsRow base e size v n zs)(c:242≠e)(f:247≠e)(d:245≠e)(g:236≠e)(a:w.grownBy w' v.ownBlock):
  ∀{rs:List PRule} {xs:List Value},kq3 lo w rs xs->kq3 lo w' rs xs
 |[],_,h=>h
 |r::rs,xs,⟨vp,vg,vb,ps,ys,e1,h1,h2,h3,h4,h5⟩=>⟨vp,vg,vb,ps,ys,e1,ji h1 b g a,h2.far b c a,ji h3 b d a,h4.far b c f d a,kq3.far b c f d g a h5⟩
def kqr (w:World)(T:Nat)(t:PTree):Prop:=
 ∃x0 x1 x2 x3 x4 y1 y3 y4,w.heap[T]?=some (.cells #[x0,x1,x2,x3,x4] 157 (0,0))/\w.ownsRow (T+1) 231 6 x0 t.sets.length (kvw t.sets) /\
  (w.ownsRow (T+1) 234 4 x1 t.kinds.length y1/\kz3 (T+1) w t.kinds y1)/\w.ownsRow (T+1) 222 12 x2 t.vars.length (kwg t.vars) /\
  (w.ownsRow (T+1) 147 6 x3 t.rules.length y3/\kq3 (T+1) w t.rules y3)/\(w.ownsRow (T+1) 147 6 x4 t.nevers.length y4/\kq3 (T+1) w t.nevers y4)
theorem infoRule:(prog.info? 147).map (λi=>(i.zero,i.size,i.bytes))=some (some (.agg #[.string ⟨#[]⟩,.string ⟨#[]⟩,.int .i64 0,.slice none 0 0,.pointer none,.slice none 0 0]),6,96):=ah
theorem jyq (h:w.cell? a=some v):a.block<w.heap.size:=by
 by_cases b:a.block<w.heap.size
 ·exact b
 ·have:w.heap[a.block]?=none:=Jq aj;simp[World.cell?,this]at h
theorem Kept.cell (b:Kept P w w')(hb:a.block≠P)(h:w.cell? a=some v):w'.cell? a=some v:=
 (Zm (w:=w) (b.block a.block (jyq h) hb)).trans h
def stV (s:PSet):Value:=.agg #[.string s.name.text,.int .i64 s.name.at_,.int .i64 (kq8 s.size.text),.int .i64 s.size.at_]
theorem kk5 (h:w.heap[b]?=some (.cells #[x0,x1,x2,x3] t (0,0))):
  Ce w b 0 x0/\Ce w b 1 x1/\Ce w b 2 x2/\Ce w b 3 x3 /\
  Fr w b 0/\Fr w b 1/\Fr w b 2/\Fr w b 3:=
 ⟨rc h 0,rc h 1,rc h 2,rc h 3,
  rf h 0,rf h 1,rf h 2,rf h 3⟩
theorem qyp (h:w.heap[b]?=some (.cells #[x0,x1,x2,x3] t (0,0)))(y0 y1 y2 y3:Value):
  (puts b [y0,y1,y2,y3] 0 w).heap[b]?=some (.cells #[y0,y1,y2,y3] t (0,0)):=zqe _ _ h
theorem Pd.zwk (h:Pd w P v L st)(a:∀g,v.ownBlock=some g->g<B)(c:P<B)  (hb:B<=b)(y0 y1 y2 y3:Value):
  Pd (puts b [y0,y1,y2,y3] 0 w) P v L st:=h.qz7 a c hb _ _
theorem Kept.zwk {a: World}(h:Kept P a w)  (hb:a.heap.size<=b)(y0 y1 y2 y3:Value):
  Kept P a (puts b [y0,y1,y2,y3] 0 w):=h.qz7 hb _ _
theorem vkp {s1: RS}  (h1:qy L oW st=s1)(a:qm L og s1=k)(b:qm L oQ k.2=d):
  kki L st=(⟨k.1,d.1⟩,qy L [59] d.2):=by
 subst h1;subst a;subst b;rfl
theorem vkc (w:World)(P:Nat)(v:Value)(L:List Tok)(st:RS)(h:Pd w P v L st):
  qJ 147 #[.pointer (some ⟨P,0,none⟩)] w λe w'=>e=.returned (stV (kki L st).1)/\Pd w' P v L (kki L st).2/\Kept P w w':=by
 have J:=h.in;have I:=pG h.mg;go_enter func147,ntmps147
 go_wp2_with fail
 refine(kjy oW ak rfl rfl _ P v L st (h.alloc _)).mono ?_;rintro e W ⟨rfl,h1,c⟩;have H:=pG (vkp (L:=L) (st:=st) rfl rfl rfl);generalize qy L oW st=s1 at *;have u:=c.row (b:=w.heap.size) aj (qg _ _);have l:=pG ((Kept.kqn _).trans c);have y:=pG h1;have q:=pG u;clear h1 c u h;go_wp2_with fail
 refine(kx7 _ P v L _ (ku y)).mono ?_;rintro e X ⟨rfl,D,f⟩;generalize qm L og s1=k at *;have m:=pG ((ku l).trans f);have s:=pG (f.row aj (ku q));have z:=pG D;clear D f l q y;go_wp2_with fail
 refine(zjg _ P v L _ (ku z)).mono ?_;rintro e w3 ⟨rfl,E,g⟩;generalize qm L oQ k.2=d at *;have p:=pG ((ku m).trans g);have i:=g.row aj (ku s);have K:=wu i;have t:=pG i;have A:=pG E;clear E g m s z i;unfold ptV dgV;go_wp2_with fail
 refine(kjy [59] ak rfl rfl _ P v L _ ((ku A).alloc _)).mono ?_;rintro e w4 ⟨rfl,F,a⟩;have j:=a.row aj (zy (ku t));have x:=a.row (b:=w3.heap.size) aj (qg _ _);obtain⟨M,d1,d2,d3,N,O,Q,R⟩:=kk5 j;obtain⟨S,T,U,V,_⟩:=kk5 x;have B:=pG (((ku p).alloc _).trans a);have G:=pG F;have C:=pG j;clear F a j x A t p;go_wp2
 refine rY (v:=stV ⟨k.1,d.1⟩) (rP results147 _ _ w.heap.size _ _ _ _ rfl (qyp (ku C) _ _ _ _) underlying111 rfl ah) rfl ?_;rw[ku H];exact⟨rfl,(ku G).zwk (ku I) J (wJ _) _ _ _ _,(ku B).zwk (wJ _) _ _ _ _⟩
theorem jqd (hb:a.block≠b)(h:w.cell? a=some v)(y0 y1 y2 y3:Value):((((w.setCell ⟨b,0,none⟩ y0).setCell ⟨b,1,none⟩ y1).setCell ⟨b,2,none⟩ y2).setCell ⟨b,3,none⟩ y3).cell? a=some v:=by
 refine(Zm (w:=w) ?_).trans h;rw[wP _ _ _ _ hb,wP _ _ _ _ hb,wP _ _ _ _ hb,wP _ _ _ _ hb]
def paV (p:PP):Value:=.agg #[.string p.name.text,.int .i64 p.name.at_,.string p.set_.text,.int .i64 p.set_.at_]
theorem pjp {a: RS}  (h1:qm L og st=k)(b:qy L [58] k.2=a)(c:qm L og a=d):
  rPP L st=(⟨k.1,d.1⟩,d.2):=by
 subst h1;subst b;subst c;rfl
theorem zkw (w:World)(P:Nat)(v:Value)(L:List Tok)(st:RS)(h:Pd w P v L st):
  qJ 240 #[.pointer (some ⟨P,0,none⟩)] w λe w'=>e=.returned (paV (rPP L st).1)/\Pd w' P v L (rPP L st).2/\Kept P w w':=by
 have H:=h.in;have G:=pG h.mg;go_enter func240,ntmps240
 go_wp2_with fail
 refine(kx7 _ P v L st (h.alloc _)).mono ?_;rintro e d ⟨rfl,h1,g⟩;have F:=pG (pjp (L:=L) (st:=st) rfl rfl rfl);generalize qm L og st=k at *;have i:=g.row (b:=w.heap.size) aj (qg _ _);have J:=wu i;have l:=pG ((Kept.kqn _).trans g);have s:=pG h1;have m:=pG i;clear h1 g i h;unfold ptV;go_wp2_with fail
 refine(kjy [58] ak rfl rfl _ P v L _ ((ku s).alloc _)).mono ?_;rintro e R ⟨rfl,B,f⟩;generalize qy L [58] k.2=I at *;have p:=f.row aj (zy (ku m));have q:=f.row (b:=d.heap.size) aj (qg _ _);obtain⟨z,A,_,_⟩:=kj0 q;have t:=pG (((ku l).alloc _).trans f);have D:=pG B;have x:=pG p;clear B f p q s m l;go_wp2_with fail
 go_region_held3 (λw'=>w'.cell? ⟨d.heap.size,0,none⟩=some (.string k.1.text)/\w'.cell? ⟨d.heap.size,1,none⟩=some (.int .i64 k.1.at_))
  (first|exact⟨k0,k1⟩|exact⟨z,A⟩|exact⟨jqd ay k0 _ _ _ _,jqd ay k1 _ _ _ _⟩)
  ((go_at_call 202;refine(kx7 _ P v L _ ((ku D).below ((Below.refl _ _).drew))).mono ?_;rintro e w3 ⟨rfl,C,c⟩;have k0:=c.cell (a:=⟨d.heap.size,0,none⟩) (show d.heap.size≠P by omega) z;have k1:=c.cell (a:=⟨d.heap.size,1,none⟩) (show d.heap.size≠P by omega) A;have j:=c.row (b:=w.heap.size) aj (ku x);obtain⟨K,d1,d2,d3,M,N,O,Q⟩:=kk5 j;have y:=pG j;have E:=pG C;have u:=pG ((ku t).drew.trans c);clear C j c;unfold ptV))
 go_wp2
 refine rY (v:=paV ⟨k.1,(qm L og I).1⟩) (rP results240 _ _ w.heap.size _ _ _ _ rfl (qyp (ku y) _ _ _ _) underlying352 rfl ah) rfl ?_;rw[ku F];exact⟨rfl,(ku E).zwk (ku G) H (wJ _) _ _ _ _,(ku u).zwk (wJ _) _ _ _ _⟩
structure SiT where
 form:Int
 top:Tok
 name:Tok
def siV (x:SiT):Value:=.agg #[.int .i64 x.form,.int .i64 (kq8 x.top.text),.int .i64 x.top.at_,.string x.name.text,.int .i64 x.name.at_]
def siT (L:List Tok)(st:RS):SiT:=
 if qo L pX st then ⟨0,zf,zf⟩
 else if qo L o8 st then ⟨1,(qm L oQ (qy L o8 st)).1,zf⟩
 else ⟨2,zf,(qm L og st).1⟩
theorem qzj (h:qo L l st=true)(a:opens l=false)(b:shuts l=false):kw8 L l st=qy L l st:=by
 rw[kzx a b];unfold kw8 zj0;rw[h];rfl
theorem kx4 (h:qo L l st=false):kw8 L l st=st:=by unfold kw8;rw[h];rfl
theorem zz8 (w:World)(P:Nat)(v:Value)(L:List Tok)(st:RS)(h:Pd w P v L st):
  qJ 208 #[.pointer (some ⟨P,0,none⟩)] w λe w'=>e=.returned (siV (siT L st))/\Pd w' P v L (kxe L st).2/\Kept P w w':=by
 have D:=h.in;have C:=pG h.mg;go_enter func208,ntmps208
 go_wp2_with fail
 refine(kj7 pX ak _ P v L st (h.alloc _)).mono ?_;rintro e K ⟨rfl,h1,g⟩;have i:=g.row (b:=w.heap.size) aj (qg _ _);have s:=pG ((Kept.kqn _).trans g);have u:=pG i;cases hb:qo L pX st
 ·rw[kx4 hb]at h1;have A:=pG h1;clear h1 g i h;go_wp2_with fail
  refine(kj7 o8 ak _ P v L st (ku A)).mono ?_;rintro e M ⟨rfl,j,z⟩;have d:=pG ((ku s).trans z);have f:=pG (z.row aj (ku u));clear z A s u;cases l:qo L o8 st
  ·have p:=pG (show siT L st=⟨2,zf,(qm L og st).1⟩ by unfold siT;rw[hb,l];rfl);have q:=pG (show(kxe L st).2=(qm L og st).2 by unfold kxe;rw[hb,l];rfl);rw[kx4 l]at j;have m:=pG j;clear j;go_wp2_with fail
   refine(kx7 _ P v L st (ku m)).mono ?_;rintro e w3 ⟨rfl,y,a⟩;generalize qm L og st=k at *;have c:=a.row aj (ku f);obtain⟨E,d1,d2,d3,d4,F,G,H,I,J⟩:=jl c;have x:=pG c;have B:=pG y;have t:=pG ((ku d).trans a);clear y c a m d f;unfold ptV;go_wp2
   refine rY (v:=siV ⟨2,zf,k.1⟩) (rP results208 _ _ w.heap.size _ _ _ _ rfl (kjw (ku x) _ _ _ _ _) underlying119 rfl ah) rfl ?_;rw[ku p,ku q];exact⟨rfl,(ku B).kw6 (ku C) D (wJ _) _ _ _ _ _,(ku t).kw6 (wJ _) _ _ _ _ _⟩
  ·have p:=pG (show siT L st=⟨1,(qm L oQ (qy L o8 st)).1,zf⟩ by unfold siT;rw[hb,l];rfl);have q:=pG (show(kxe L st).2=(qm L oQ (qy L o8 st)).2 by unfold kxe;rw[hb,l];rfl);rw[qzj l rfl rfl]at j;have m:=pG j;clear j;go_wp2_with fail
   refine(zjg _ P v L _ (ku m)).mono ?_;rintro e w3 ⟨rfl,y,a⟩;generalize qm L oQ (qy L o8 st)=k at *;have c:=a.row aj (ku f);obtain⟨E,d1,d2,d3,d4,F,G,H,I,J⟩:=jl c;have x:=pG c;have B:=pG y;have t:=pG ((ku d).trans a);clear y c a m d f;unfold dgV;go_wp2
   refine rY (v:=siV ⟨1,k.1,zf⟩) (rP results208 _ _ w.heap.size _ _ _ _ rfl (kjw (ku x) _ _ _ _ _) underlying119 rfl ah) rfl ?_;rw[ku p,ku q];exact⟨rfl,(ku B).kw6 (ku C) D (wJ _) _ _ _ _ _,(ku t).kw6 (wJ _) _ _ _ _ _⟩
 ·have p:=pG (show siT L st=⟨0,zf,zf⟩ by unfold siT;rw[hb];rfl);have q:=pG (show(kxe L st).2=qy L pX st by unfold kxe;rw[hb];rfl);rw[qzj hb rfl rfl]at h1;obtain⟨E,d1,d2,d3,d4,F,G,H,I,J⟩:=jl i;have A:=pG h1;clear h1 g i h;go_wp2
  refine rY (v:=siV ⟨0,zf,zf⟩) (rP results208 _ _ w.heap.size _ _ _ _ rfl (kjw (ku u) _ _ _ _ _) underlying119 rfl ah) rfl ?_;rw[ku p,ku q];exact⟨rfl,(ku A).kw6 (ku C) D (wJ _) _ _ _ _ _,(ku s).kw6 (wJ _) _ _ _ _ _⟩
end Go.Proofs.YtpmcnonmkghokaaGreatDoor

import Derived.Test.YtpmcnonmkghokaaGreatDoorT05
import Derived.Test.YtpmcnonmkghokaaGreatDoorT04
set_option maxRecDepth 100000
set_option maxHeartbeats 8000000
set_option linter.unusedVariables false
set_option linter.unusedSimpArgs false
namespace Go.Proofs.YtpmcnonmkghokaaGreatDoor
open Go.Proofs.Tryz
open Go.RowKit
variable {kinds:List PKind}{rules:List PRule}{sets:List PSet}{vars:List PVar}{y1 y3 zs:List Value}{T b base e n size:Nat}{t:TypeId}{v x0 x1 x2 x3 x4 x5:Value}{w w':World}
def kyy (w:World)(T:Nat)(x0 x1:Value)(y1:List Value)(sets:List PSet)(kinds:List PKind):Prop:=
 w.ownsRow (T+1) 231 6 x0 sets.length (kvw sets)/\w.ownsRow (T+1) 234 4 x1 kinds.length y1/\kz3 (T+1) w kinds y1
theorem kyy.stay (h:kyy w T x0 x1 y1 sets kinds)(a:∀k,T+1<=k->k<w.heap.size->w'.heap[k]?=w.heap[k]?):kyy w' T x0 x1 y1 sets kinds:=
 ⟨jq a h.1,jq a h.2.1,h.2.2.stay a⟩
theorem kyy.far (h:kyy w T x0 x1 y1 sets kinds)(b:w.ownsRow base e size v n zs)(c:231≠e)(h1:234≠e)(d:142≠e)
  (a:w.grownBy w' v.ownBlock):kyy w' T x0 x1 y1 sets kinds:=⟨ji h.1 b c a,ji h.2.1 b h1 a,h.2.2.grown b d a⟩
def jje (B R T:Nat)(w:World)(v:Value)(L:List Tok)(sets:List PSet)(kinds:List PKind)(fin:List PVar×RS)(m:Value)(wr:World):Prop:=
 ∃(l:List PVar) (st:RS) (g:Nat) (b:Bool) (x0 x1 x:Value) (y1:List Value),m=.bool b/\wr.heap[T]?=some (.cells #[x0,x1,x,.slice none 0 0,.slice none 0 0] 157 (0,0)) /\
  kyy wr T x0 x1 y1 sets kinds/\wr.ownsRow (T+1) 222 12 x l.length (kwg l)/\Rd wr R v L st/\Below B w wr/\(b=true->qw5 g L l st=fin/\qkw L st g)/\(b=false->(l,st)=fin)/\l.length<=st.at_+st.bad.toNat
def qjz (w:World)(T:Nat)(x0 x1 x2:Value)(y1:List Value)(sets:List PSet)(kinds:List PKind)(vars:List PVar):Prop:=
 kyy w T x0 x1 y1 sets kinds/\w.ownsRow (T+1) 222 12 x2 vars.length (kwg vars)
theorem qjz.stay (h:qjz w T x0 x1 x2 y1 sets kinds vars)(a:∀k,T+1<=k->k<w.heap.size->w'.heap[k]?=w.heap[k]?):qjz w' T x0 x1 x2 y1 sets kinds vars:=
 ⟨h.1.stay a,jq a h.2⟩
theorem qjz.far (h:qjz w T x0 x1 x2 y1 sets kinds vars)(b:w.ownsRow base e size v n zs)(c:231≠e)(h1:234≠e)(d:142≠e)(f:222≠e)
  (a:w.grownBy w' v.ownBlock):qjz w' T x0 x1 x2 y1 sets kinds vars:=⟨h.1.far b c h1 d a,ji h.2 b f a⟩
def jz3 (B R T:Nat)(w:World)(v:Value)(L:List Tok)(sets:List PSet)(kinds:List PKind)(vars:List PVar)(fin:List PRule×RS)(m:Value)(wr:World):Prop:=
 ∃(l:List PRule) (st:RS) (g:Nat) (b:Bool) (x0 x1 x2 x:Value) (y1 ys:List Value),m=.bool b/\wr.heap[T]?=some (.cells #[x0,x1,x2,x,.slice none 0 0] 157 (0,0)) /\
  qjz wr T x0 x1 x2 y1 sets kinds vars/\(wr.ownsRow (T+1) 147 6 x l.length ys/\kq3 (T+1) wr l ys)/\Rd wr R v L st/\Below B w wr/\(b=true->qx6 g L l st=fin/\qkw L st g)/\(b=false->(l,st)=fin)/\l.length<=st.at_+st.bad.toNat
theorem pq7 (h:w.heap[b]?=some (.cells #[x0,x1,x2,x3,x4,x5] t (0,0)))(a:Value):(w.setCell ⟨b,3,none⟩ a).heap[b]?=some (.cells #[x0,x1,x2,a,x4,x5] t (0,0)):=heap_setCell_same _ b 3 _ _ _ h
theorem pq6 (h:w.heap[b]?=some (.cells #[x0,x1,x2,x3,x4,x5] t (0,0)))(a:Value):(w.setCell ⟨b,4,none⟩ a).heap[b]?=some (.cells #[x0,x1,x2,x3,a,x5] t (0,0)):=heap_setCell_same _ b 4 _ _ _ h
theorem pzg (h:w.heap[b]?=some (.cells #[x0,x1,x2,x3,x4,x5] t (0,0)))(a:Value):(w.setCell ⟨b,5,none⟩ a).heap[b]?=some (.cells #[x0,x1,x2,x3,x4,a] t (0,0)):=heap_setCell_same _ b 5 _ _ _ h
def qy4 (w:World)(T:Nat)(x0 x1 x2 x3:Value)(y1 y3:List Value)(sets:List PSet)(kinds:List PKind)(vars:List PVar)(rules:List PRule):Prop:=
 qjz w T x0 x1 x2 y1 sets kinds vars/\w.ownsRow (T+1) 147 6 x3 rules.length y3/\kq3 (T+1) w rules y3
theorem qy4.stay (h:qy4 w T x0 x1 x2 x3 y1 y3 sets kinds vars rules)(a:∀k,T+1<=k->k<w.heap.size->w'.heap[k]?=w.heap[k]?):qy4 w' T x0 x1 x2 x3 y1 y3 sets kinds vars rules:=
 ⟨h.1.stay a,jq a h.2.1,h.2.2.stay a⟩
theorem qy4.far (h:qy4 w T x0 x1 x2 x3 y1 y3 sets kinds vars rules)(c:w.ownsRow base 147 size v n zs)(b:x3.ownBlock=none\/x3.ownBlock≠v.ownBlock)
  (a:w.grownBy w' v.ownBlock):qy4 w' T x0 x1 x2 x3 y1 y3 sets kinds vars rules:=
 ⟨h.1.far c ak ak ak ak a,h.2.1.kept a b,h.2.2.far c ak ak ak ak a⟩
def jyb (B R T:Nat)(w:World)(v:Value)(L:List Tok)(sets:List PSet)(kinds:List PKind)(vars:List PVar)(rules:List PRule)(fin:List PRule×RS)(m:Value)(wr:World):Prop:=
 ∃(l:List PRule) (st:RS) (g:Nat) (x0 x1 x2 x3 x:Value) (y1 y3 ys:List Value),m=.bool (qo L oM st)/\wr.heap[T]?=some (.cells #[x0,x1,x2,x3,x] 157 (0,0)) /\
  qy4 wr T x0 x1 x2 x3 y1 y3 sets kinds vars rules/\(wr.ownsRow (T+1) 147 6 x l.length ys/\kq3 (T+1) wr l ys)/\(x3.ownBlock=none\/x3.ownBlock≠x.ownBlock)/\Rd wr R v L st/\Below B w wr/\kyt g L l st=fin/\L.length-st.at_+1<=g/\l.length<=st.at_
def vwj (v:Value)(L:List Tok)(w:World)(e:Ending)(w':World):Prop:=
 pU w w'/\((∃k:Nat,(yx L).2=some k/\e=.returned (.tuple #[.pointer none,.int .i64 k])) \/
  ((yx L).2=none/\∃T,w.heap.size<=T/\e=.returned (.tuple #[.pointer (some ⟨T,0,none⟩),.int .i64 (-1)])/\kqr w' T (yx L).1))
theorem vxh (w:World)(v:Value)(L:List Tok)(y:w.ownsRow 0 142 3 v L.length (uq L))(eY:0<L.length)(eX:L.length<=801)
  (cW:∀i,i<L.length->((tk L i).kind.toList==pJ)=false->i+1<L.length) (hD:zw7 L):
  qJ 61 #[v] w (vwj v L w):=by
 obtain⟨i1,hj,gE,gF,gG⟩:=info_parts infoRule;have HV:=pG (mg y);have eQ:v.ownBlock≠some w.heap.size:=λe=>by have:=mg y _ e;omega
 have hW:=below_alloc1 w (.cells #[v,.int .i64 0,.int .i64 0,.bool false] 219);have eF:Rd ((w.alloc (.cells #[v,.int .i64 0,.int .i64 0,.bool false] 219)).alloc (.cells #[.slice none 0 0,.slice none 0 0,.slice none 0 0,.slice none 0 0,.slice none 0 0] 157)) w.heap.size v L gu:=
  ⟨(tX _ _ _ au).trans (heap_alloc_new w _),(y.alloc _).alloc _,eQ,eY,eX,cW,by simp[gu],by simp[gu]⟩
 have eI:((w.alloc (.cells #[v,.int .i64 0,.int .i64 0,.bool false] 219)).alloc (.cells #[.slice none 0 0,.slice none 0 0,.slice none 0 0,.slice none 0 0,.slice none 0 0] 157)).heap[w.heap.size+1]?=some (.cells #[.slice none 0 0,.slice none 0 0,.slice none 0 0,.slice none 0 0,.slice none 0 0] 157 (0,0)):=
  heap_alloc_new' _ _ _ au
 obtain⟨va,vl,vc,rfl⟩:=zq y;have dQ:=pG eF;have dT:=pG eI;clear y eQ hW eF eI cW;go_enter func61,ntmps61
 go_wp2_with fail
 refine(vzm w.heap.size w.heap.size (w.heap.size+1) _ _ L gu (ku dQ) (wJ _) aj (ku HV) (ku dT)).mono ?_;rintro e w1 ⟨rfl,x0,x1,y1,hT,dU,dV,dW,h1,eK,gB,gC⟩;have HR:=pG (show jje w.heap.size w.heap.size (w.heap.size+1) w (.slice va vl vc) L (kqq L gu).1 (kqq L gu).2.1 (kzz L) (.bool true) w1 from
  ⟨[],(kqq L gu).2.2,gy L,true,x0,x1,.slice none 0 0,y1,rfl,hT,⟨dU,dV,dW⟩,wB _ _ _ _,h1,(((Below.refl _ _).alloc (wJ _) _).alloc au _).trans eK,λ_=>⟨rfl,qjq _ _⟩,λh=>gY,rW _⟩)
 clear hT dU dV dW h1 eK dQ dT;go_wp2_with fail
 go_loopw [6] (λm wr=>jje w.heap.size w.heap.size (w.heap.size+1) w (.slice va vl vc) L (kqq L gu).1 (kqq L gu).2.1 (kzz L) m wr) (λ_ wr=>2*(L.length-kxd wr w.heap.size)+qva wr w.heap.size)
 case atStart=>exact ku HR
 case round=>
  obtain⟨l,f,g,b,x0,x1,x,y1,rfl,hT,hH,y,s,q,aV,a1,a2⟩:=hrel;have aB:=s.lt;have M:=wu s.rd;have aF:=wu hT;obtain⟨c0,c1,c2,c3,f0,f1,f2,f3⟩:=row4 s.rd;have K:=pG y;have HH:=pG hH;have H2:=pG s;have HB:=pG q;have HT:=pG hT;have cV:=kyj s a2;clear y hH s q hT;cases b;case' false=>
   have HF:=pG (a1 rfl);clear aV a1
  case' true=>
   obtain⟨d,b6⟩:=aV rfl;clear aV a1;obtain⟨g,rfl⟩:∃g',g=g'+1:=⟨g-1,by have:=qvv b6;omega⟩;cases q:f.bad;case' false=>
    rw[qw5,q]at d;simp only[wU,if_false]at d;rw[q]at c3;have I:=pG d;clear d;go_wp2_with fail
    refine(jqs _ _ _ L f (ku H2)).mono ?_;rintro e w3 ⟨rfl,h3,C⟩;have E:=vjm (L:=L) (st:=f);have b7:=rU (jh L oZ f) (qv8 L f);generalize kwm L f=V at I h3 E b7 |-;have gH:=C.size;have cE:=(C.block (w.heap.size+1) aF aj).trans (ku HT);obtain⟨q0,q1,q2,q3,q4,r0,r1,r2,r3,r4⟩:=kxh cE;have fL:=pG cE;have cM:=pG (jg (ku K) C aj);have fC:=pG ((ku HH).stay (λk h1 s=>C.block k s aj));have fA:=pG ((ku HB).trans (C.toBelow (wJ _) aj));have H3:=pG h3;have eU:=wu cE;have Q:x.ownBlock≠some (w.heap.size+1):=λe=>by have:=xg (ku cM) _ e;omega
    have eS:=mg (ku cM);have fT:=pG eS;clear h3 C cE K HH HT HB eS c0 c1 c2 c3 f0 f1 f2 f3;unfold jzu kqu jr;simp only[QD,Qc];go_wp2_with fail
    have J:=heap_alloc_new w3 (.cells #[.string V.1.name.kind,.string V.1.name.text,.int .i64 V.1.name.at_,.string V.1.over.kind,.string V.1.over.text,.int .i64 V.1.over.at_,.string V.1.type_.kind,.string V.1.type_.text,.int .i64 V.1.type_.at_,.string V.1.top.kind,.string V.1.top.text,.int .i64 V.1.top.at_] 222);have aG:=below_alloc1 w3 (.cells #[.string V.1.name.kind,.string V.1.name.text,.int .i64 V.1.name.at_,.string V.1.over.kind,.string V.1.over.text,.int .i64 V.1.over.at_,.string V.1.type_.kind,.string V.1.type_.text,.int .i64 V.1.type_.at_,.string V.1.top.kind,.string V.1.top.text,.int .i64 V.1.top.at_] 222);generalize w3.alloc (.cells #[.string V.1.name.kind,.string V.1.name.text,.int .i64 V.1.name.at_,.string V.1.over.kind,.string V.1.over.text,.int .i64 V.1.over.at_,.string V.1.type_.kind,.string V.1.type_.text,.int .i64 V.1.type_.at_,.string V.1.top.kind,.string V.1.top.text,.int .i64 V.1.top.at_] 222)=w4 at J aG |-;obtain⟨R,d1,d2,d3,d4,d5,d6,d7,d8,d9,d10,d11,S,T,U,W,X,Y,e6,e7,e8,e9,g5,g6⟩:=qyc J;have cF:=(aG.block _ eU).trans (ku fL);clear q0 q1 q2 q3 q4 r0 r1 r2 r3 r4;obtain⟨q0,q1,q2,q3,q4,r0,r1,r2,r3,r4⟩:=kxh cF;have dH:=wu J;have cT:=wu cF;have gI:=aG.size;have eR:x.ownBlock≠some w3.heap.size:=λe=>by have:=ku fT _ e;omega
    have H4:=pG ((ku H3).below aG);have cN:=pG (jq (λk _ hk=>aG.block k hk) (ku cM));have fD:=pG ((ku fC).stay (λk _ hk=>aG.block k hk));have fB:=pG ((ku fA).trans (aG.mono aj));have fO:=pG cF;clear J aG cF;go_region_law ((refine apL (news:=(kqu V.1)) (((ku cN).alloc _).drew) (heap_alloc_new w4 _) ?_;intro gg cap w5 cJ c b5 g0;have g9:w5.frozen? ⟨w.heap.size+1,2,none⟩=false:=(c.frozen_far _ ay (Ne.symm Q)).trans (kjl (zk _ _) cT r2);have g8:w5.cell? ⟨w.heap.size+1,2,none⟩=some x:=(c.cell_far _ ay (Ne.symm Q)).trans (wZ (zk _ _) q2)))
    all_goals
     have N:=xg (ku cN);have D:=((ku cN).alloc (.cells (kqu V.1).toArray 222)).drew;have h5:=((ku H4).below (zk _ _)).grown c N (λg Z=>jK) aj;have h6:=h5.jk (B:=w.heap.size+1) (λg Z=>jK) aj (p:=⟨w.heap.size+1,2,none⟩) (wJ _) (.slice (some ⟨gg,0,none⟩) (l.length+1) cap);have eG:=(c.block (w.heap.size+1) ay (Ne.symm Q)).trans ((tX w4 _ _ cT).trans (ku fO));have eH:=heap_setCell_same w5 (w.heap.size+1) 2 _ _ (.slice (some ⟨gg,0,none⟩) (l.length+1) cap) eG;have eD:=ownsRow_setCell_below cJ (a:=⟨w.heap.size+1,2,none⟩) au (.slice (some ⟨gg,0,none⟩) (l.length+1) cap);have eB:=(((ku fD).stay (w':=(w4.alloc (.cells (kqu V.1).toArray 222)).drew) (λj _ hj=>tX w4 _ j hj)).far D ak ak ak c).stay (w':=w5.setCell ⟨w.heap.size+1,2,none⟩ (.slice (some ⟨gg,0,none⟩) (l.length+1) cap)) (λj hj _=>wP _ _ _ _ gU);have dY:pU w (w5.setCell ⟨w.heap.size+1,2,none⟩ (.slice (some ⟨gg,0,none⟩) (l.length+1) cap)):=
      ((((ku fB).alloc aj _).drew).grown c ay (λk hk=>by have:=N k hk;omega)).setCell gU _
     have H6:=pG h6;have dS:=pG eH;have fH:=pG eD;have fF:=pG eB;have dL:=pG dY;clear h5 h6 eG eH eD eB dY N D cJ c b5;go_wp2_with fail
     refine(kjx oZ _ _ _ L V.2 (ku H6)).mono ?_;rintro e w7 ⟨rfl,h7,A⟩;have cG:=(A.block (w.heap.size+1) (by simpa using wu (ku dS)) aj).trans (ku dS);have cD:=jg (ku fH) A aj;have cC:=(ku fF).stay (λk h1 s=>A.block k s aj);have cB:=(ku dL).trans (A.toBelow (wJ _) (by have:=(ku dL).size;omega));have aJ:(l++[V.1]).length<=V.2.at_+V.2.bad.toNat:=by
      rw[q]at a2;simp only[Js,sU]at a2;rw[wY];cases cX:V.2.bad
      ·have:=E cX;simp;omega
      ·simp;omega
     have HM:=pG (qv7 (ku H2) h7 q b7 E);cases bQ:qo L oZ V.2
     ·have d:=ku I;rw[bQ]at d;simp only[wU,if_false]at d;have cP:=pG (show jje w.heap.size w.heap.size (w.heap.size+1) w (.slice va vl vc) L (kqq L gu).1 (kqq L gu).2.1 (kzz L) (.bool false) w7 from
       ⟨l++[V.1],V.2,g,false,x0,x1,_,y1,rfl,cG,cC,by rw[qxa,wY];exact cD,h7,cB,(λh=>gY),(λ_=>d),aJ⟩)
      clear h7 A cG cD cC cB d aJ;go_wp2
      go_roundw
      case rel=>exact ku cP
      case measure=>exact ku HM
     ·have d:=ku I;rw[bQ]at d;simp only[if_true]at d;have cP:=pG (show jje w.heap.size w.heap.size (w.heap.size+1) w (.slice va vl vc) L (kqq L gu).1 (kqq L gu).2.1 (kzz L) (.bool true) w7 from
       ⟨l++[V.1],V.2,g,true,x0,x1,_,y1,rfl,cG,cC,by rw[qxa,wY];exact cD,h7,cB,(λ_=>⟨d,qxk aB q b6 E⟩),(λh=>gY),aJ⟩)
      clear h7 A cG cD cC cB d aJ;go_wp2
      go_roundw
      case rel=>exact ku cP
      case measure=>exact ku HM
   case' true=>
    rw[qw5,q]at d;simp only[if_true]at d;rw[q]at c3;have HF:=pG d;clear d
  all_goals
   have dC:(l,f)=kzz L:=ku HF;have bD:(kzz L).1=l:=by rw[<-dC]
   have cZ:(kzz L).2=f:=by rw[<-dC]
   have g4:=pG bD;have fI:=pG (show jz3 w.heap.size w.heap.size (w.heap.size+1) w (.slice va vl vc) L (kqq L gu).1 (kqq L gu).2.1 (kzz L).1 (kx5 L) (.bool true) wr from
    ⟨[],f,gy L,true,x0,x1,x,.slice none 0 0,y1,[],rfl,ku HT,by rw[bD];exact⟨ku HH,ku K⟩,⟨wB _ _ _ _,rfl⟩,ku H2,ku HB,λ_=>⟨by unfold kx5;rw[cZ],qjq _ _⟩,λh=>gY,rW _⟩)
   clear dC bD cZ;go_wp2_with fail
   clear HT HH K H2 HB HF;go_loopw [8] (λm wr=>jz3 w.heap.size w.heap.size (w.heap.size+1) w (.slice va vl vc) L (kqq L gu).1 (kqq L gu).2.1 (kzz L).1 (kx5 L) m wr) (λ_ wr=>2*(L.length-kxd wr w.heap.size)+qva wr w.heap.size)
   case atStart=>exact ku fI
   case round=>
    clear aB M aF cV a2;obtain⟨l,f,g,b,x0,x1,x2,x,y1,ys,rfl,hT,hH,y,s,q,aV,a1,a2⟩:=hrel;have aB:=s.lt;have M:=wu s.rd;have aF:=wu hT;obtain⟨c0,c1,c2,c3,f0,f1,f2,f3⟩:=row4 s.rd;have K:=pG y;have HH:=pG hH;have H2:=pG s;have HB:=pG q;have HT:=pG hT;have cV:=kyj s a2;clear y hH s q hT;cases b;case' false=>
     have HF:=pG (a1 rfl);clear aV a1
    case' true=>
     obtain⟨d,b6⟩:=aV rfl;clear aV a1;obtain⟨g,rfl⟩:∃g',g=g'+1:=⟨g-1,by have:=qvv b6;omega⟩;cases q:f.bad;case' false=>
      rw[qx6,q]at d;simp only[wU,if_false]at d;rw[q]at c3;have I:=pG d;clear d;have aC:=pG (show ∀g,(Value.slice va vl vc).ownBlock=some g->g<wr.heap.size from λg Z=>jK);have E:=jxy (L:=L) (st:=f);have b7:=rU (jh L oD f) (qj2 L f);go_wp2_with fail
      refine(kq0 oD _ _ _ L f ((ku H2).below (below_alloc1 _ _))).mono ?_;rintro e w3 ⟨rfl,h3,C⟩;have aO:=pG ((C.block wr.heap.size au aj).trans (heap_alloc_new wr _));have bF:=pG (((Kept.refl w.heap.size wr).alloc _).trans C);have H3:=pG h3;clear h3 C c0 c1 c2 c3 f0 f1 f2 f3;go_wp2_with fail
      refine(kzf og _ _ _ L _ (ku H3) rfl).mono ?_;rintro e w4 ⟨rfl,h4,aW⟩;have J:=(aW.block wr.heap.size (wu (ku aO)) aj).trans (ku aO);obtain⟨R,d1,d2,d3,d4,d5,S,T,U,W,X,Y⟩:=kzb J;have a6:=pG J;have bG:=pG ((ku bF).trans aW);have H4:=pG h4;clear h4 aW J aO bF H3;generalize hk:qm L og (qy L oD f)=k at H4 |-;have E1:=pG (show zz1 L f=k from hk);clear hk;unfold kx2;go_wp2_with fail
      refine(zkc _ _ _ L k.2 ((ku H4).qjy (ku aC) M (wJ _))).mono ?_;rintro e w5 ⟨vp,rfl,a3,h5,aX,bX⟩;have dH:=wu (ku a6);have aZ:=(aX.block wr.heap.size nZ aj).trans (jx3 (ku a6) _ _ _);clear R d1 d2 d3 d4 d5 S T U W X Y;obtain⟨R,d1,d2,d3,d4,d5,S,T,U,W,X,Y⟩:=kzb aZ;have aD:=pG aZ;have bH:=pG (((ku bG).qjy (b:=wr.heap.size) (wJ _)).trans aX);have a5:=pG (zu (lo':=wr.heap.size+1) ay a3);have H5:=pG h5;obtain⟨pa,pn,pc,rfl⟩:=zq a3;clear a3 h5 aX aZ a6 bG H4 bX;generalize hP:kql L k.2=P at H5 a5;have E2:=pG (show qj0 L f=P from by unfold qj0;rw[ku E1];exact hP);clear hP;have bR:(Value.slice pa pn pc).ownBlock≠some wr.heap.size:=λe=>by have:=xg (ku a5) _ e;omega
      go_wp2_with fail
      refine(kq0 oh _ _ _ L P.2 ((ku H5).jk (ku aC) M (p:=⟨wr.heap.size,3,none⟩) (wJ _) _)).mono ?_;rintro e w6 ⟨rfl,h6,cH⟩;have cA:=pG ((cH.block wr.heap.size (by simpa using wu (ku aD)) aj).trans (pq7 (ku aD) (.slice pa pn pc)));have dM:=pG (((ku bH).jk (p:=⟨wr.heap.size,3,none⟩) (wJ _) (.slice pa pn pc)).trans cH);have dO:=pG (jg (ownsRow_setCell_other (ku a5) (a:=⟨wr.heap.size,3,none⟩) bR (.slice pa pn pc)) cH aj);have H6:=pG h6;clear R d1 d2 d3 d4 d5 S T U W X Y h6 cH aD bH a5 H5;go_wp2_with fail
      refine(qxv _ _ _ L _ (ku H6) hD).mono ?_;rintro e w7 ⟨H,rfl,aY,h7,A⟩;have g2:=wu (ku cA);have b2:=(A.block wr.heap.size (wu (ku cA)) aj).trans (ku cA);obtain⟨R,d1,d2,d3,d4,d5,S,T,U,W,X,Y⟩:=kzb b2;have aE:=pG b2;have bI:=pG ((ku dM).trans A);have bK:=pG (jg (ku dO) A aj);have aL:=pG (aY.mono (lo':=wr.heap.size+1) aj);have H7:=pG h7;obtain⟨H,rfl⟩:=aY.ptr;clear aY h7 A b2 cA dM dO H6;generalize hG:rX (yg L) 0 .nil L (qy L oh P.2)=G at H7 aL;have E3:=pG (show qqj L f=G from by unfold qqj;rw[ku E2];exact hG);clear hG;go_wp2_with fail
      refine(vx3 _ _ _ L G.2 ((ku H7).jk (ku aC) M (p:=⟨wr.heap.size,4,none⟩) (wJ _) _) hD).mono ?_;rintro e w8 ⟨vb,qs,rfl,dD,eO,h8,bO⟩;have g3:=wu (ku aE);have dI:=(bO.block wr.heap.size (by simpa using wu (ku aE)) aj).trans (pq6 (ku aE) (.pointer H));clear R d1 d2 d3 d4 d5 S T U W X Y;obtain⟨R,d1,d2,d3,d4,d5,S,T,U,W,X,Y⟩:=kzb dI;have eC:=((ku bI).jk (p:=⟨wr.heap.size,4,none⟩) (wJ _) (.pointer H)).trans bO;have eE:=jg (ownsRow_setCell_other (ku bK) (a:=⟨wr.heap.size,4,none⟩) bR (.pointer H)) bO aj;have eA:=((ku aL).stay (kje (o:=4) (u:=.pointer H))).kept bO aj;have cR:=eO.mono (lo':=wr.heap.size+1) ay;have eJ:=zu (lo':=wr.heap.size+1) ay dD;obtain⟨ba,bn,bc,rfl⟩:=zq dD;generalize dZ:rS (kyv L) 0 L G.2=Bd at h8 cR;have E4:=pG (show kj6 L f=(⟨k.1,P.1,G.1,Bd.1⟩,Bd.2) from by unfold kj6;rw[ku E1,ku E2,ku E3,dZ]);clear dZ;have aH:=pzg dI (.slice ba bn bc);have z:=eC.jk (p:=⟨wr.heap.size,5,none⟩) (wJ _) (.slice ba bn bc);have h9:=h8.jk (ku aC) M (p:=⟨wr.heap.size,5,none⟩) (wJ _) (.slice ba bn bc);have b4:=jq (kje (o:=5) (u:=.slice ba bn bc)) eE;have b3:=eA.stay (kje (o:=5) (u:=.slice ba bn bc));have cS:=cR.stay (kje (o:=5) (u:=.slice ba bn bc));have cU:=jq (kje (o:=5) (u:=.slice ba bn bc)) eJ;go_wp2_with fail
      generalize w8.setCell ⟨wr.heap.size,5,none⟩ (.slice ba bn bc)=w9 at aH z h9 b4 b3 cS cU |-;clear R d1 d2 d3 d4 d5 S T U W X Y;obtain⟨R,d1,d2,d3,d4,d5,S,T,U,W,X,Y⟩:=kzb aH;have a8:=(z.block (w.heap.size+1) aF aj).trans (ku HT);obtain⟨q0,q1,q2,q3,q4,r0,r1,r2,r3,r4⟩:=kxh a8;have aU:=wu a8;have eZ:=wu aH;have fW:=z.size;have bJ:=pG z;have cQ:=pG a8;have H9:=pG h9;have cO:=pG b4;have cL:=pG b3;have fJ:=pG cS;have fQ:=pG cU;have a4:=pG (jg (ku K).1 z aj);have bW:=pG ((ku K).2.kept z aj);have bZ:=pG ((ku HH).stay (λk h1 s=>z.block k s aj));have Q:x.ownBlock≠some (w.heap.size+1):=λe=>by have:=xg (ku a4) _ e;omega
      have eR:x.ownBlock≠some wr.heap.size:=λe=>by have:=mg (ku K).1 _ e;omega
      rw[ku E4]at I E b7;simp only at I E b7;clear dD eO h8 bO dI eC eE eA cR eJ aH z h9 b4 b3 cS cU a8 aE bI bK aL H7 K HH HT;go_region_law ((refine apL (news:=(jr k.1++[Value.slice pa pn pc,Value.pointer H,Value.slice ba bn bc])) (((ku a4).alloc _).drew) (heap_alloc_new w9 _) ?_;intro gg cap F O c b5 dK;have eW:F.frozen? ⟨w.heap.size+1,3,none⟩=false:=(c.frozen_far _ ay (Ne.symm Q)).trans (kjl (zk _ _) aU r3);have eV:F.cell? ⟨w.heap.size+1,3,none⟩=some x:=(c.cell_far _ ay (Ne.symm Q)).trans (wZ (zk _ _) q3)))
      all_goals
       have N:=xg (ku a4);have D:=((ku a4).alloc (.cells (jr k.1++[Value.slice pa pn pc,Value.pointer H,Value.slice ba bn bc]).toArray 147)).drew;have bL:=((ku H9).below (zk _ _)).grown c N (λg Z=>jK) aj;have bM:=bL.jk (B:=w.heap.size+1) (λg Z=>jK) aj (p:=⟨w.heap.size+1,3,none⟩) (wJ _) (.slice (some ⟨gg,0,none⟩) (l.length+1) cap);have aS:=(c.block (w.heap.size+1) ay (Ne.symm Q)).trans ((tX w9 _ _ aU).trans (ku cQ));have aT:=heap_setCell_same F (w.heap.size+1) 3 _ _ (.slice (some ⟨gg,0,none⟩) (l.length+1) cap) aS;have aR:=ownsRow_setCell_below O (a:=⟨w.heap.size+1,3,none⟩) au (.slice (some ⟨gg,0,none⟩) (l.length+1) cap);have aQ:=(((ku bZ).stay (w':=(w9.alloc (.cells (jr k.1++[Value.slice pa pn pc,Value.pointer H,Value.slice ba bn bc]).toArray 147)).drew) (λj _ hj=>tX w9 _ j hj)).far D ak ak ak ak c).stay (w':=F.setCell ⟨w.heap.size+1,3,none⟩ (.slice (some ⟨gg,0,none⟩) (l.length+1) cap)) (λj hj _=>wP _ _ _ _ gU);have fX:=(ku bJ).size;have bN:=(ku bW).snoc (r:=⟨k.1,P.1,G.1,Bd.1⟩) (zu aj (ku cO)) ((ku cL).mono aj) (zu aj (ku fQ)) ((ku fJ).mono aj);have a7:=((bN.stay (w':=(w9.alloc (.cells (jr k.1++[Value.slice pa pn pc,Value.pointer H,Value.slice ba bn bc]).toArray 147)).drew) (λj _ hj=>tX w9 _ j hj)).far D ak ak ak ak c).stay (w':=F.setCell ⟨w.heap.size+1,3,none⟩ (.slice (some ⟨gg,0,none⟩) (l.length+1) cap)) (λj hj _=>wP _ _ _ _ gU);have aP:pU w (F.setCell ⟨w.heap.size+1,3,none⟩ (.slice (some ⟨gg,0,none⟩) (l.length+1) cap)):=
        (((((ku HB).trans ((ku bJ).toBelow (wJ _) aj)).alloc aj _).drew).grown c ay (λk hk=>by have:=N k hk;omega)).setCell gU _
       have cK:=pG bM;have aN:=pG aT;have bV:=pG aR;have bU:=pG aQ;have b8:=pG a7;have aK:=pG aP;clear bL bM aS aT aR aQ bN a7 aP N D O c b5;go_wp2_with fail
       refine(kjx oD _ _ _ L Bd.2 (ku cK)).mono ?_;rintro e bT ⟨rfl,a0,t⟩;have bC:=(t.block (w.heap.size+1) (by simpa using wu (ku aN)) aj).trans (ku aN);have bB:=jg (ku bV) t aj;have aI:=(ku b8).kept t aj;have bA:=(ku bU).stay (λk h1 s=>t.block k s aj);have b9:=(ku aK).trans (t.toBelow (wJ _) (by have:=(ku aK).size;omega));have a9:(l++[(⟨k.1,P.1,G.1,Bd.1⟩:PRule)]).length<=Bd.2.at_+Bd.2.bad.toNat:=by
        rw[q]at a2;simp only[Js,sU]at a2;rw[wY];cases cX:Bd.2.bad
        ·have:=E cX;simp;omega
        ·simp;omega
       have HM:=pG (qv7 (ku H2) a0 q b7 E);cases bQ:qo L oD Bd.2
       ·have d:=ku I;rw[bQ]at d;simp only[wU,if_false]at d;have aM:=pG (show jz3 w.heap.size w.heap.size (w.heap.size+1) w (.slice va vl vc) L (kqq L gu).1 (kqq L gu).2.1 (kzz L).1 (kx5 L) (.bool false) bT from
         ⟨l++[⟨k.1,P.1,G.1,Bd.1⟩],Bd.2,g,false,x0,x1,x2,_,y1,_,rfl,bC,bA,⟨by rw[wY];exact bB,aI⟩,a0,b9,(λh=>gY),(λ_=>d),a9⟩)
        clear a0 t bC bB aI bA b9 d a9;go_wp2
        go_roundw
        case rel=>exact ku aM
        case measure=>exact ku HM
       ·have d:=ku I;rw[bQ]at d;simp only[if_true]at d;have aM:=pG (show jz3 w.heap.size w.heap.size (w.heap.size+1) w (.slice va vl vc) L (kqq L gu).1 (kqq L gu).2.1 (kzz L).1 (kx5 L) (.bool true) bT from
         ⟨l++[⟨k.1,P.1,G.1,Bd.1⟩],Bd.2,g,true,x0,x1,x2,_,y1,_,rfl,bC,bA,⟨by rw[wY];exact bB,aI⟩,a0,b9,(λ_=>⟨d,qxk aB q b6 E⟩),(λh=>gY),a9⟩)
        clear a0 t bC bB aI bA b9 d a9;go_wp2
        go_roundw
        case rel=>exact ku aM
        case measure=>exact ku HM
     case' true=>
      rw[qx6,q]at d;simp only[if_true]at d;rw[q]at c3;have HF:=pG d;clear d
    all_goals
     have dB:(l,f)=kx5 L:=ku HF;have bS:(kx5 L).1=l:=by rw[<-dB]
     have cY:(kx5 L).2=f:=by rw[<-dB]
     go_wp2_with fail
     refine(kjx oM _ _ _ L f (ku H2)).mono ?_;rintro e fY ⟨rfl,dX,aA⟩;have fG:=pG (show jyb w.heap.size w.heap.size (w.heap.size+1) w (.slice va vl vc) L (kqq L gu).1 (kqq L gu).2.1 (kzz L).1 (kx5 L).1 (kx6 L) (.bool (qo L oM f)) fY from
      ⟨[],f,gy L,x0,x1,x2,x,.slice none 0 0,y1,ys,[],rfl,(aA.block (w.heap.size+1) aF aj).trans (ku HT),by rw[bS];exact⟨(ku HH).stay (λk h1 s=>aA.block k s aj),jg (ku K).1 aA aj,(ku K).2.kept aA aj⟩,⟨wB _ _ _ _,rfl⟩,(by cases gD:x.ownBlock with|none=>exact Or.inl rfl|some j=>exact Or.inr (by simp[Value.ownBlock])),dX,(ku HB).trans (aA.toBelow (wJ _) aj),by unfold kx6;rw[cY],nD,rW _⟩)
     clear dB bS cY dX aA HT HH K H2 HB HF;go_wp2_with fail
     go_loopw [10] (λm wr=>jyb w.heap.size w.heap.size (w.heap.size+1) w (.slice va vl vc) L (kqq L gu).1 (kqq L gu).2.1 (kzz L).1 (kx5 L).1 (kx6 L) m wr) (λ_ wr=>L.length-kxd wr w.heap.size)
     case atStart=>exact ku fG
     case round=>
      clear aB M aF cV a2;obtain⟨l,f,g,x0,x1,x2,x3,x,y1,y3,ys,rfl,hT,hH,y,eN,s,q,a1,b6,a2⟩:=hrel;have aB:=s.lt;have fZ:=s.len;have M:=wu s.rd;have aF:=wu hT;have gJ:=q.size;obtain⟨c0,c1,c2,c3,f0,f1,f2,f3⟩:=row4 s.rd;have K:=pG y;have HH:=pG hH;have H2:=pG s;have HB:=pG q;have HT:=pG hT;have dN:=pG eN;have bY:=pG a1;clear y hH s q hT eN a1;obtain⟨g,rfl⟩:∃g',g=g'+1:=⟨g-1,aj⟩;cases hn:qo L oM f
      ·have hF:=ku bY;rw[kyt,hn]at hF;simp only[wU,if_false]at hF;have eP:(kx6 L).2=f:=by rw[<-hF]
       have dA:(kx6 L).1=l:=by rw[<-hF]
       have fP:=pG eP;have eT:=pG dA;clear hF eP dA bY;obtain⟨gb,cap,hv,Z,gA,g7,t0,t1,t2⟩:=(ku H2).open;cases hv;have hE:(yx L).2=if f.bad||!((tk L f.at_).kind.toList==pJ) then some (tk L f.at_).at_ else none:=by unfold yx;simp only;rw[ku fP]
       have HE:=pG hE;clear hE;generalize tk L f.at_=tt at t0 t1 t2 HE;cases eL:f.bad
       ·rw[eL]at c3 HE;cases eM:(tt.kind.toList==pJ)
        ·rw[eM]at HE;go_wp2
         go_quiet (fail)
         go_wp2
         go_ret2
         exact⟨below_drewN (ku HB) _,Or.inl ⟨_,ku HE,rfl⟩⟩
        ·rw[eM]at HE;go_wp2
         go_ret2
         refine⟨ku HB,Or.inr ⟨ku HE,_,aj,rfl,x0,x1,x2,x3,x,y1,y3,ys,ku HT,?_⟩⟩;have hH:=ku HH;have hO:=ku K;unfold yx;simp only;rw[ku eT];exact⟨hH.1.1.1,⟨hH.1.1.2.1,hH.1.1.2.2⟩,hH.1.2,⟨hH.2.1,hH.2.2⟩,hO⟩
       ·rw[eL]at c3 HE;go_wp2
        go_quiet (fail)
        go_wp2
        go_ret2
        exact⟨below_drewN (ku HB) _,Or.inl ⟨_,ku HE,rfl⟩⟩
      ·have hF:=ku bY;rw[kyt,if_pos hn]at hF;have I:=pG hF;clear hF bY;have E:=qyh hn;have aC:=pG (show ∀g,(Value.slice va vl vc).ownBlock=some g->g<wr.heap.size from λg Z=>jK);go_wp2_with fail
       refine(kq0 oM _ _ _ L f ((ku H2).below (below_alloc1 _ _))).mono ?_;rintro e w3 ⟨rfl,h3,C⟩;have aO:=pG ((C.block wr.heap.size au aj).trans (heap_alloc_new wr _));have bF:=pG (((Kept.refl w.heap.size wr).alloc _).trans C);have H3:=pG h3;clear h3 C c0 c1 c2 c3 f0 f1 f2 f3;go_wp2_with fail
       refine(kzf og _ _ _ L _ (ku H3) rfl).mono ?_;rintro e w4 ⟨rfl,h4,aW⟩;have J:=(aW.block wr.heap.size (wu (ku aO)) aj).trans (ku aO);obtain⟨R,d1,d2,d3,d4,d5,S,T,U,W,X,Y⟩:=kzb J;have a6:=pG J;have bG:=pG ((ku bF).trans aW);have H4:=pG h4;clear h4 aW J aO bF H3;generalize hk:qm L og (qy L oM f)=k at H4 |-;have E1:=pG (show qkz L f=k from hk);clear hk;unfold kx2;go_wp2_with fail
       refine(zkc _ _ _ L k.2 ((ku H4).qjy (ku aC) M (wJ _))).mono ?_;rintro e w5 ⟨vp,rfl,a3,h5,aX,bX⟩;have dH:=wu (ku a6);have aZ:=(aX.block wr.heap.size nZ aj).trans (jx3 (ku a6) _ _ _);clear R d1 d2 d3 d4 d5 S T U W X Y;obtain⟨R,d1,d2,d3,d4,d5,S,T,U,W,X,Y⟩:=kzb aZ;have aD:=pG aZ;have bH:=pG (((ku bG).qjy (b:=wr.heap.size) (wJ _)).trans aX);have a5:=pG (zu (lo':=wr.heap.size+1) ay a3);have H5:=pG h5;obtain⟨pa,pn,pc,rfl⟩:=zq a3;clear a3 h5 aX aZ a6 bG H4 bX;generalize hP:kql L k.2=P at H5 a5;have E2:=pG (show qxq L f=P from by unfold qxq;rw[ku E1];exact hP);clear hP;have bR:(Value.slice pa pn pc).ownBlock≠some wr.heap.size:=λe=>by have:=xg (ku a5) _ e;omega
       go_wp2_with fail
       refine(qxv _ _ _ L P.2 ((ku H5).jk (ku aC) M (p:=⟨wr.heap.size,3,none⟩) (wJ _) _) hD).mono ?_;rintro e w7 ⟨H,rfl,aY,h7,A⟩;have g1:=wu (ku aD);have b2:=(A.block wr.heap.size (by simpa using wu (ku aD)) aj).trans (pq7 (ku aD) (.slice pa pn pc));clear R d1 d2 d3 d4 d5 S T U W X Y;obtain⟨R,d1,d2,d3,d4,d5,S,T,U,W,X,Y⟩:=kzb b2;have aE:=pG b2;have bI:=pG (((ku bH).jk (p:=⟨wr.heap.size,3,none⟩) (wJ _) (.slice pa pn pc)).trans A);have bK:=pG (jg (ownsRow_setCell_other (ku a5) (a:=⟨wr.heap.size,3,none⟩) bR (.slice pa pn pc)) A aj);have aL:=pG (aY.mono (lo':=wr.heap.size+1) ay);have H7:=pG h7;obtain⟨H,rfl⟩:=aY.ptr;clear aY h7 A b2 aD bH a5 H5;generalize hG:rX (yg L) 0 .nil L P.2=G at H7 aL;have E3:=pG (show qjg L f=G from by unfold qjg;rw[ku E2];exact hG);clear hG;go_wp2_with fail
       refine(kq0 [59] _ _ _ L G.2 ((ku H7).jk (ku aC) M (p:=⟨wr.heap.size,4,none⟩) (wJ _) _)).mono ?_;rintro e w9 ⟨rfl,h9,bP⟩;have aH:=(bP.block wr.heap.size (by simpa using wu (ku aE)) aj).trans (pq6 (ku aE) (.pointer H));have z:=((ku bI).jk (p:=⟨wr.heap.size,4,none⟩) (wJ _) (.pointer H)).trans bP;have b4:=jg (ownsRow_setCell_other (ku bK) (a:=⟨wr.heap.size,4,none⟩) bR (.pointer H)) bP aj;have b3:=((ku aL).stay (kje (o:=4) (u:=.pointer H))).kept bP aj;have E4:=pG (show kjm L f=(⟨k.1,P.1,G.1,.nil⟩,qy L [59] G.2) from by unfold kjm;rw[ku E1,ku E2,ku E3]);clear R d1 d2 d3 d4 d5 S T U W X Y;obtain⟨R,d1,d2,d3,d4,d5,S,T,U,W,X,Y⟩:=kzb aH;have a8:=(z.block (w.heap.size+1) aF aj).trans (ku HT);obtain⟨q0,q1,q2,q3,q4,r0,r1,r2,r3,r4⟩:=kxh a8;have aU:=wu a8;have eZ:=wu aH;have fW:=z.size;have bJ:=pG z;have cQ:=pG a8;have H9:=pG h9;have cO:=pG b4;have cL:=pG b3;have a4:=pG (jg (ku K).1 z aj);have bW:=pG ((ku K).2.kept z aj);have bZ:=pG ((ku HH).stay (λk h1 s=>z.block k s aj));have Q:x.ownBlock≠some (w.heap.size+1):=λe=>by have:=xg (ku a4) _ e;omega
       have eR:x.ownBlock≠some wr.heap.size:=λe=>by have:=mg (ku K).1 _ e;omega
       rw[ku E4]at I E;simp only at I E;clear h9 bP aH z b4 b3 a8 aE bI bK aL H7 K HH HT;go_wp2_with fail
       go_region_law ((refine apL (news:=(jr k.1++[Value.slice pa pn pc,Value.pointer H,Value.slice none 0 0])) (((ku a4).alloc _).drew) (heap_alloc_new w9 _) ?_;intro gg cap F O c b5 dK;have eW:F.frozen? ⟨w.heap.size+1,4,none⟩=false:=(c.frozen_far _ ay (Ne.symm Q)).trans (kjl (zk _ _) aU r4);have eV:F.cell? ⟨w.heap.size+1,4,none⟩=some x:=(c.cell_far _ ay (Ne.symm Q)).trans (wZ (zk _ _) q4)))
       all_goals
        have N:=xg (ku a4);have D:=((ku a4).alloc (.cells (jr k.1++[Value.slice pa pn pc,Value.pointer H,Value.slice none 0 0]).toArray 147)).drew;have bL:=((ku H9).below (zk _ _)).grown c N (λg Z=>jK) aj;have bM:=bL.jk (B:=w.heap.size+1) (λg Z=>jK) aj (p:=⟨w.heap.size+1,4,none⟩) (wJ _) (.slice (some ⟨gg,0,none⟩) (l.length+1) cap);have aS:=(c.block (w.heap.size+1) ay (Ne.symm Q)).trans ((tX w9 _ _ aU).trans (ku cQ));have aT:=heap_setCell_same F (w.heap.size+1) 4 _ _ (.slice (some ⟨gg,0,none⟩) (l.length+1) cap) aS;have aR:=ownsRow_setCell_below O (a:=⟨w.heap.size+1,4,none⟩) au (.slice (some ⟨gg,0,none⟩) (l.length+1) cap);have dF:=mg (ku bZ).2.1;have cI:x3.ownBlock=none\/x3.ownBlock≠(Value.slice (some ⟨gg,0,none⟩) (l.length+1) cap).ownBlock:=by
         cases dE:x3.ownBlock with
         |none=>exact Or.inl rfl
         |some j=>
          refine Or.inr λhe=>?_
          simp[Value.ownBlock]at he;subst he;have:=dF _ dE;rcases b5 with e|e
          ·rcases ku dN with e'|e'
           ·rw[dE]at e';cases e'
           ·rw[dE]at e';exact e' e.symm
          ·omega
        have aQ:=(((ku bZ).stay (w':=(w9.alloc (.cells (jr k.1++[Value.slice pa pn pc,Value.pointer H,Value.slice none 0 0]).toArray 147)).drew) (λj _ hj=>tX w9 _ j hj)).far D (ku dN) c).stay (w':=F.setCell ⟨w.heap.size+1,4,none⟩ (.slice (some ⟨gg,0,none⟩) (l.length+1) cap)) (λj hj _=>wP _ _ _ _ gU);have fX:=(ku bJ).size;have bN:=(ku bW).snoc (r:=⟨k.1,P.1,G.1,.nil⟩) (ps:=[]) (zu aj (ku cO)) ((ku cL).mono aj) (wB _ _ _ _) rfl;have a7:=((bN.stay (w':=(w9.alloc (.cells (jr k.1++[Value.slice pa pn pc,Value.pointer H,Value.slice none 0 0]).toArray 147)).drew) (λj _ hj=>tX w9 _ j hj)).far D ak ak ak ak c).stay (w':=F.setCell ⟨w.heap.size+1,4,none⟩ (.slice (some ⟨gg,0,none⟩) (l.length+1) cap)) (λj hj _=>wP _ _ _ _ gU);have aP:pU w (F.setCell ⟨w.heap.size+1,4,none⟩ (.slice (some ⟨gg,0,none⟩) (l.length+1) cap)):=
         (((((ku HB).trans ((ku bJ).toBelow (wJ _) aj)).alloc aj _).drew).grown c ay (λk hk=>by have:=N k hk;omega)).setCell gU _
        have cK:=pG bM;have aN:=pG aT;have bV:=pG aR;have bU:=pG aQ;have b8:=pG a7;have aK:=pG aP;have dJ:=pG cI;clear bL bM aS aT aR aQ bN a7 aP N D O c b5 dF cI;go_wp2_with fail
        refine(kjx oM _ _ _ L _ (ku cK)).mono ?_;rintro e bT ⟨rfl,a0,t⟩;have aM:=pG (show jyb w.heap.size w.heap.size (w.heap.size+1) w (.slice va vl vc) L (kqq L gu).1 (kqq L gu).2.1 (kzz L).1 (kx5 L).1 (kx6 L) (.bool (qo L oM (qy L [59] G.2))) bT from
         ⟨l++[⟨k.1,P.1,G.1,.nil⟩],qy L [59] G.2,g,x0,x1,x2,x3,_,y1,y3,_,rfl,(t.block (w.heap.size+1) (by simpa using wu (ku aN)) aj).trans (ku aN),(ku bU).stay (λk h1 s=>t.block k s aj),⟨by rw[wY];exact jg (ku bV) t aj,(ku b8).kept t aj⟩,ku dJ,a0,(ku aK).trans (t.toBelow (wJ _) (by have:=(ku aK).size;omega)),ku I,aj,by rw[wY];simp;omega⟩)
        have HM:=pG (show L.length-kxd bT w.heap.size<L.length-kxd wr w.heap.size by rw[a0.kxd,(ku H2).kxd];have:=a0.lt;omega);clear a0 t;go_wp2
        go_roundw
        case rel=>exact ku aM
        case measure=>exact ku HM
end Go.Proofs.YtpmcnonmkghokaaGreatDoor

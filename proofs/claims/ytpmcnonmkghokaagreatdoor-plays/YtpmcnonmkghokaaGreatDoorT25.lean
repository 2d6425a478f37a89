import Derived.Test.YtpmcnonmkghokaaGreatDoorT24
import Derived.Test.YtpmcnonmkghokaaGreatDoorT04
import Derived.Test.YtpmcnonmkghokaaGreatDoorT16
set_option maxRecDepth 100000
set_option maxHeartbeats 8000000
set_option linter.unusedVariables false
set_option linter.unusedSimpArgs false
namespace Go.Proofs.YtpmcnonmkghokaaGreatDoor
open Go.Proofs.Tryz
open Go.RowKit
attribute [local go_sem ↓] Go.wp_at_zero Go.wp_at_succ
variable {xs:List Value}{T cap e lo n size:Nat}{a:Option Addr}{t:PTree}{w:World}
theorem kqr.rul (h:kqr w T t):∃a c ys,w.cell? ⟨T,3,none⟩=some (.slice a t.rules.length c)/\w.ownsRow (T+1) 147 6 (.slice a t.rules.length c) t.rules.length ys/\kq3 (T+1) w t.rules ys/\T<w.heap.size:=by
 obtain⟨x0,x1,x2,x3,x4,y1,y3,y4,e,_,_,_,⟨b,d⟩,_⟩:=h;obtain⟨g,i,j,f,k,_⟩:=kxh e;obtain⟨a,c,rfl,_⟩:=ql b;exact⟨a,c,y3,f,b,d,wu e⟩
theorem kqr.nev (h:kqr w T t):∃a c ys,w.cell? ⟨T,4,none⟩=some (.slice a t.nevers.length c)/\w.ownsRow (T+1) 147 6 (.slice a t.nevers.length c) t.nevers.length ys/\kq3 (T+1) w t.nevers ys/\T<w.heap.size:=by
 obtain⟨x0,x1,x2,x3,x4,y1,y3,y4,e,_,_,_,_,⟨b,d⟩⟩:=h;obtain⟨g,i,j,k,f,_⟩:=kxh e;obtain⟨a,c,rfl,_⟩:=ql b;exact⟨a,c,y4,f,b,d,wu e⟩
theorem vzw (w:World)(T lo:Nat)(t:PTree)(h:kqr w T t)(hp:PlOk t)(xv:Value)(S:List (List Int))(gs:List (Nat×Nat))(aJ:StA lo w xv S gs)(hS:qko S)(r:MView)(hr:jzy t S=some r):
  qJ 72 #[.pointer (some ⟨T,0,none⟩),xv] w λe w'=>zqu w r e w':=by
 unfold jzy at hr;obtain⟨tt,cM,hr⟩:=wQ.mp hr;obtain⟨⟨EN,WR⟩,bM,hr⟩:=wQ.mp hr;obtain⟨BR,bL,rfl⟩:=rJ.mp hr;have eC:=qzp (t:=t) (rs:=t.rules) (λx s=>hp.pars x (wG _ s));have eD:=qzp (t:=t) (rs:=t.nevers) (λx s=>hp.pars x (rZ _ s));have d0:=qyi _ _ _ _ _ _ bM;have cZ:=zxj _ _ _ _ _ bL;simp only[Jh,QU]at d0 cZ;have dL:=hp.rules;have dM:=hp.nevers;obtain⟨za,zc,rfl,_⟩:=ql aJ.out;obtain⟨i0,hi,eL,eM,eN⟩:=info_parts infoStr0;obtain⟨W,hW⟩:∃W,W=(w.alloc (.cells #[.string ⟨#[]⟩,.slice none 0 0,.slice none 0 0,.slice none 0 0,.bool false] 24)).alloc (.cells #[.string ⟨#[]⟩,.slice none 0 0,.slice none 0 0,.slice none 0 0,.bool false] 24):=⟨_,rfl⟩;obtain⟨V,hV⟩:∃V,V=w.heap.size+1:=⟨_,rfl⟩;have aZ:pU w W:=iM;have dO:W.heap.size=w.heap.size+2:=jC;have cF:W.heap[w.heap.size]?=some (.cells #[.string ⟨#[]⟩,.slice none 0 0,.slice none 0 0,.slice none 0 0,.bool false] 24 (0,0)):=by rw[hW];exact zy (qg _ _)
 have aH:W.heap[V]?=some (.cells #[.string ⟨#[]⟩,.slice none 0 0,.slice none 0 0,.slice none 0 0,.bool false] 24 (0,0)):=by
  rw[hW,hV];have:=qg (w.alloc (.cells #[.string ⟨#[]⟩,.slice none 0 0,.slice none 0 0,.slice none 0 0,.bool false] 24)) (.cells #[.string ⟨#[]⟩,.slice none 0 0,.slice none 0 0,.slice none 0 0,.bool false] 24);simp only[tJ]at this;exact this
 have bZ:=pG (vzy W T lo t (h.below aZ) hp.ok hp.fit _ S gs (aJ.below aZ) hS tt cM);have bB:=pG (λ(wx:World) (s:pU w wx) (rs:List PRule) (a:Option Addr) (c:Nat) (ys:List Value) (h1:wx.ownsRow (T+1) 147 6 (.slice a rs.length c) rs.length ys) (h2:kq3 (T+1) wx rs ys) (h3:∀r∈rs,zjr t r) (h4:rs.length<=801)=>jkp wx T (T+1) t (h.below s) hp.ok rs _ ys h1 h2 h3 h4);have cX:=pG (λ(wx:World) (s:pU w wx) (x:RIn) (c:List Value) (hi:zx0 wx x c) (hk:RiOk x) (q:Int×List (List Int)) (hq:zxl t S x=some q)=>jkg wx T lo t (h.below s) hp.ok hp.tops _ S gs (aJ.below s) hS x c hi hk q hq);have d6:=pG (λ(wx:World) (s:pU w wx)=>zvd wx lo _ S gs (aJ.below s) hS.2 hS.1);have HT:=pG h;have eA:=pG aJ;have bY:=pG bM;have bX:=pG bL;have d9:=pG cF;have bF:=pG aH;have b7:=pG aZ;have dC:=pG hW.symm;have dB:=pG hV;have dZ:w.heap.size<V:=aj;have e8:V<W.heap.size:=aj;have e9:w.heap.size<W.heap.size:=aj;clear hV dO hr h aJ bM bL cM cF aH aZ hW;go_enter func72,ntmps72
 go_wp2_with fail
 rw[ku dC,<-ku dB];refine(ku bZ).mono ?_;rintro e w1 ⟨rfl,aI⟩;have eI:=aI.size;have bJ:=(aI.block V aj).trans (ku bF);obtain⟨v0,v1,v2,v3,v4,g0,g1,g2,g3,g4⟩:=jl bJ;obtain⟨w2,aK⟩:∃w2,w2=w1.setCell ⟨V,0,none⟩ (.string tt):=⟨_,rfl⟩;have cI:w2.heap[V]?=some (.cells #[.string tt,.slice none 0 0,.slice none 0 0,.slice none 0 0,.bool false] 24 (0,0)):=by rw[aK];exact heap_setCell_same _ V 0 _ _ _ bJ
 have aY:pU w w2:=by rw[aK];exact((ku b7).trans (aI.mono aj)).setCell (by show w.heap.size<=V;omega) _
 have cG:w2.heap[w.heap.size]?=some (.cells #[.string ⟨#[]⟩,.slice none 0 0,.slice none 0 0,.slice none 0 0,.bool false] 24 (0,0)):=by rw[aK,wP _ _ _ _ (by show w.heap.size≠V;omega)];exact(aI.block w.heap.size aj).trans (ku d9)
 have aV:Apart (.slice none 0 0) (.slice none 0 0):=λk hk=>by cases hk
 have cD:=pG (show qy1 w.heap.size w2 V tt [] [] [] (.slice none 0 0) (.slice none 0 0) (.slice none 0 0) from⟨cI,wB _ _ _ _,wB _ _ _ _,wB _ _ _ _,aV,aV,aV⟩);obtain⟨ra,rc,dY,rq,bS,cS,cH⟩:=((ku HT).below aY).rul;have dX:w1.cell? ⟨T,3,none⟩=some (.slice ra t.rules.length rc):=by
  obtain⟨a',c',eP,eO,_⟩:=((ku HT).below ((ku b7).trans (aI.mono aj))).rul;have e:=rq;rw[aK]at e;have dH:T<w.heap.size:=by obtain⟨_,_,_,_,_,_,h9⟩:=(ku HT).rul;exact h9
  have e2:=((Below.refl w.heap.size w1).setCell (p:=⟨V,0,none⟩) (by show w.heap.size<=V;omega) (.string tt)).cell (p:=⟨T,3,none⟩) dH;rw[e2]at e;exact e
 have bW:=pG ((ku bB) w2 aY t.rules ra rc dY bS cS (λx s=>hp.pars x (wG _ s)) dL);have b6:=pG aY;have bC:=pG cG;have d3:=pG aK.symm;have eF:T<w.heap.size:=by obtain⟨_,_,_,_,_,_,h9⟩:=(ku HT).rul;exact h9
 clear aI bJ cI aY cG aK rq bS cS bZ cH;go_wp2_with fail
 rw[ku d3];refine(ku bW).mono ?_;rintro e w3 ⟨lv,rfl,A,aN⟩;have eJ:=aN.size;have cU:=pG (show OwnIn 0 w3 lv (kj3 t t.rules) from lQ);have cY:=pG ((ku cD).below aN);have d5:=pG ((ku b6).trans (aN.mono (ku b6).size));have dA:=pG ((aN.block w.heap.size (wu (ku bC))).trans (ku bC));obtain⟨dD,aF,_⟩:=A;obtain⟨la,lc,rfl,_⟩:=ql aF;have cW:=pG (λx (s:x∈kj3 t t.rules)=>hp.insts x (wG _ s));have cV:=pG (λx (s:x∈kj3 t t.nevers)=>hp.insts x (rZ _ s));generalize kj3 t t.rules=LR at *;generalize cE:kj3 t t.nevers=LN at *;have d8:=pG cE;clear cE;clear aF aN bW cD b6 bC v0 v1 v2 v3 v4 g0 g1 g2 g3 g4 dX;go_wp2_with fail
 go_loopw [7,8,9] (λi _ _ wr=>∃(k:Nat) (en j:List ByteArray) (E:Option Addr) (F:Nat) (wa:Option Addr) (G:Nat),k<=LR.length/\i=.int .i64 k/\lkR t S (LR.drop k) en j=some (EN,WR)/\qy1 w.heap.size wr V tt en j [] (.slice E en.length F) (.slice wa j.length G) (.slice none 0 0)/\pU w wr/\wr.heap[w.heap.size]?=some (.cells #[.string ⟨#[]⟩,.slice none 0 0,.slice none 0 0,.slice none 0 0,.bool false] 24 (0,0))/\OwnIn 0 wr (.slice la LR.length lc) LR) (λi _ _ _=>LR.length-(intOf i).toNat)
 case atStart=>exact⟨0,[],[],none,0,none,0,rW _,rfl,ku bY,ku cY,ku d5,ku dA,ku cU⟩
 case round=>
  obtain⟨D,bQ⟩:∃D,D=wr:=⟨_,rfl⟩;subst bQ;obtain⟨k,en,j,E,F,wa,G,hk,rfl,f,Q,hb,a3,A⟩:=hrel;have aR:=hb.size;have bK:=wu Q.1;have aQ:=qyi _ _ _ _ _ _ f;dsimp only at aQ;by_cases a9:k<LR.length
  case pos=>
   obtain⟨g,yc,vp,vg,vb,aa,ac,ey,hg,⟨e0,e1,e2,e3,e4,e5,e6,e7⟩,b3⟩:=A.get a9;injection ey with bG bH bI;subst bG;clear bH bI;rw[rM a9,lkR]at f;obtain⟨q,hq,f⟩:=wQ.mp f;have HF:=pG ((ku cX) D hb LR[k] _ b3 ((ku cW) _ (wX a9)) q hq);rw[List.length_drop]at aQ;have m:=pG f;have N:=pG Q;have aG:=pG hb;have M:=pG a3;have aD:=pG A;generalize LR[k]=x at *;obtain⟨q1,q2⟩:=q;clear f Q hb a3 A b3 hq;go_wp2_with fail
   refine(ku HF).mono ?_;rintro e B ⟨yv,eB,rfl,_,z⟩;have dN:=z.size;have I:=(ku N).below z;obtain⟨v0,v1,v2,v3,v4,g0,g1,g2,g3,g4⟩:=jl I.1;have dE:=(z.cell (p:=⟨g,k*8+7,none⟩) hg).trans e7;have dI:g<B.heap.size:=aj;have aX:V<B.heap.size:=aj;have aW:=pG I.1;have H:=pG I;have a4:=pG ((ku aG).trans (z.mono aR));have Z:=pG ((z.block w.heap.size (wu (ku M))).trans (ku M));have a5:=pG ((ku aD).below z);clear z I HF e0 e1 e2 e3 e4 e5 e6 e7 N M aD;dsimp only;cases h1:(q1==1)
   case false=>
    cases h2:(q1==2)
    case false=>
     have a0:=pG (show lkR t S (LR.drop (k+1)) en j=some (EN,WR) from by have:=ku m;rw[h1,h2]at this;exact this);clear m;go_wp2
     go_roundw
     case rel=>exact⟨k+1,en,j,E,F,wa,G,aj,eu,ku a0,ku H,ku a4,ku Z,ku a5⟩
     case measure=>exact qQ
    case true=>
     have a0:=pG (show lkR t S (LR.drop (k+1)) en (j++[riT x])=some (EN,WR) from by have:=ku m;rw[h1,h2]at this;exact this);clear m;have u:=pG (ku H).2.2.1;have aA:(.slice wa j.length G:Value).ownBlock≠some V:=(not_row (ku u) (ku aW) ak).symm;go_upto_region 11 with fail
     go_region_law ((refine apL (((ku u).alloc _).drew) (heap_alloc_new B _) ?_;intro gg cap L C b a7 bN;have cL:L.frozen? ⟨V,2,none⟩=false:=(b.frozen_far _ ay (Ne.symm aA)).trans (kjl (zk _ _) aX g2);have cK:L.cell? ⟨V,2,none⟩=some (.slice wa j.length G):=(b.cell_far _ ay (Ne.symm aA)).trans (wZ (zk _ _) v2)))
     all_goals
      have a8:((B.drew).alloc (.cells #[.string (riT x)] 9)).grownBy L ((.slice wa j.length G:Value)).ownBlock:=b;have O:(Value.slice (some ⟨gg,0,none⟩) (j.length+1) cap).ownBlock=((.slice wa j.length G:Value)).ownBlock\/(Value.slice (some ⟨gg,0,none⟩) (j.length+1) cap).ownBlock=some (B.drew.heap.size+1):=by
       rcases a7 with e|e
       ·exact Or.inl e.symm
       ·exact Or.inr oz
      obtain⟨a6,P⟩:=jyn ((ku H).below (Below.refl _ _).drew) a8 C O;have U:=pG P;have k6:Tk none zxm B (L.setCell ⟨V,2,none⟩ (.slice (some ⟨gg,0,none⟩) (j.length+1) cap)):=(((kqg (below_alloc1 B (.cells #[.string (riT x)] 9)) none zxm).drew).trans (kjk (((ku u).alloc _).drew) b ak)).trans (kxa a6 ak 2 _);have aB:=pG ((((ku a4).alloc aj _).drew.grown b ay (xg (ku u))).setCell (p:=⟨V,2,none⟩) (by show w.heap.size<=V;omega) (.slice (some ⟨gg,0,none⟩) (j.length+1) cap));have R:=pG ((ku a5).tk k6);have aE:=pG (show(L.setCell ⟨V,2,none⟩ (.slice (some ⟨gg,0,none⟩) (j.length+1) cap)).heap[w.heap.size]?=some (.cells #[.string ⟨#[]⟩,.slice none 0 0,.slice none 0 0,.slice none 0 0,.bool false] 24 (0,0)) from(wP _ _ _ _ (by show w.heap.size≠V;omega)).trans ((b.block w.heap.size ay (not_row (((ku u).alloc _).drew) (show(B.alloc (.cells #[.string (riT x)] 9)).drew.heap[w.heap.size]?=some (.cells #[.string ⟨#[]⟩,.slice none 0 0,.slice none 0 0,.slice none 0 0,.bool false] 24 (0,0)) from zy (ku Z)) ak)).trans (zy (ku Z))));clear C b a7 a6 P k6 a8 O;go_wp2
      go_roundw
      case rel=>exact⟨k+1,en,j++[riT x],E,F,some ⟨gg,0,none⟩,cap,aj,eu,ku a0,mD,ku aB,ku aE,ku R⟩
      case measure=>exact qQ
   case true=>
    have a0:=pG (show lkR t S (LR.drop (k+1)) (en++[riT x]) j=some (EN,WR) from lG);clear m;have u:=pG (ku H).2.1;have aA:(.slice E en.length F:Value).ownBlock≠some V:=(not_row (ku u) (ku aW) ak).symm;go_upto_region 9 with fail
    go_region_law ((refine apL (((ku u).alloc _).drew) (heap_alloc_new B _) ?_;intro gg cap L C b a7 bN;have cL:L.frozen? ⟨V,1,none⟩=false:=(b.frozen_far _ ay (Ne.symm aA)).trans (kjl (zk _ _) aX g1);have cK:L.cell? ⟨V,1,none⟩=some (.slice E en.length F):=(b.cell_far _ ay (Ne.symm aA)).trans (wZ (zk _ _) v1)))
    all_goals
     have a8:((B.drew).alloc (.cells #[.string (riT x)] 9)).grownBy L ((.slice E en.length F:Value)).ownBlock:=b;have O:(Value.slice (some ⟨gg,0,none⟩) (en.length+1) cap).ownBlock=((.slice E en.length F:Value)).ownBlock\/(Value.slice (some ⟨gg,0,none⟩) (en.length+1) cap).ownBlock=some (B.drew.heap.size+1):=by
      rcases a7 with e|e
      ·exact Or.inl e.symm
      ·exact Or.inr oz
     obtain⟨a6,P⟩:=jyl ((ku H).below (Below.refl _ _).drew) a8 C O;have U:=pG P;have k6:Tk none zxm B (L.setCell ⟨V,1,none⟩ (.slice (some ⟨gg,0,none⟩) (en.length+1) cap)):=(((kqg (below_alloc1 B (.cells #[.string (riT x)] 9)) none zxm).drew).trans (kjk (((ku u).alloc _).drew) b ak)).trans (kxa a6 ak 1 _);have aB:=pG ((((ku a4).alloc aj _).drew.grown b ay (xg (ku u))).setCell (p:=⟨V,1,none⟩) (by show w.heap.size<=V;omega) (.slice (some ⟨gg,0,none⟩) (en.length+1) cap));have R:=pG ((ku a5).tk k6);have aE:=pG (show(L.setCell ⟨V,1,none⟩ (.slice (some ⟨gg,0,none⟩) (en.length+1) cap)).heap[w.heap.size]?=some (.cells #[.string ⟨#[]⟩,.slice none 0 0,.slice none 0 0,.slice none 0 0,.bool false] 24 (0,0)) from(wP _ _ _ _ (by show w.heap.size≠V;omega)).trans ((b.block w.heap.size ay (not_row (((ku u).alloc _).drew) (show(B.alloc (.cells #[.string (riT x)] 9)).drew.heap[w.heap.size]?=some (.cells #[.string ⟨#[]⟩,.slice none 0 0,.slice none 0 0,.slice none 0 0,.bool false] 24 (0,0)) from zy (ku Z)) ak)).trans (zy (ku Z))));clear C b a7 a6 P k6 a8 O;go_wp2
     go_roundw
     case rel=>exact⟨k+1,en++[riT x],j,some ⟨gg,0,none⟩,cap,wa,G,aj,eu,ku a0,mD,ku aB,ku aE,ku R⟩
     case measure=>exact qQ
  case neg=>
   have aP:k=LR.length:=aj;rw[aP,Qd,lkR]at f;injection f with f;injection f with d1 d2;subst d1;subst d2;obtain⟨na,nc,dT,nq,bR,cR,cH⟩:=((ku HT).below hb).nev;have bA:=pG ((ku bB) D hb t.nevers na nc dT bR cR (λx s=>hp.pars x (rZ _ s)) dM);rw[ku d8]at bA;have N:=pG Q;have aG:=pG hb;have M:=pG a3;clear Q hb a3 A bR cR aP aQ;go_wp2_with fail
   refine(ku bA).mono ?_;rintro e L ⟨ln,rfl,A,aO⟩;have eK:=aO.size;have R:=pG (show OwnIn 0 L ln LN from lQ);have U:=pG ((ku N).below aO);have aB:=pG ((ku aG).trans (aO.mono aR));have aE:=pG ((aO.block w.heap.size (wu (ku M))).trans (ku M));obtain⟨dD,aF,_⟩:=A;obtain⟨dQ,dS,rfl,_⟩:=ql aF;clear aF aO bA N aG M nq bK a9;go_wp2_with fail
   go_loopw [11,12,13] (λi _ _ wr=>∃(k:Nat) (l:List ByteArray) (xa:Option Addr) (xc:Nat),k<=LN.length/\i=.int .i64 k/\lbR t S (LN.drop k) l=some BR/\qy1 w.heap.size wr V tt en j l (.slice E en.length F) (.slice wa j.length G) (.slice xa l.length xc)/\pU w wr/\wr.heap[w.heap.size]?=some (.cells #[.string ⟨#[]⟩,.slice none 0 0,.slice none 0 0,.slice none 0 0,.bool false] 24 (0,0))/\OwnIn 0 wr (.slice dQ LN.length dS) LN) (λi _ _ _=>LN.length-(intOf i).toNat)
   case atStart=>exact⟨0,[],none,0,rW _,rfl,ku bX,ku U,ku aB,ku aE,ku R⟩
   case round=>
    obtain⟨D,bQ⟩:∃D,D=wr:=⟨_,rfl⟩;subst bQ;obtain⟨k,l,xa,xc,hk,rfl,f,Q,hb,a3,A⟩:=hrel;have aR:=hb.size;have bK:=wu Q.1;have aQ:=zxj _ _ _ _ _ f;by_cases a9:k<LN.length
    case pos=>
     obtain⟨g,yc,vp,vg,vb,aa,ac,ey,hg,⟨e0,e1,e2,e3,e4,e5,e6,e7⟩,b3⟩:=A.get a9;injection ey with bG bH bI;subst bG;clear bH bI;rw[rM a9,lbR]at f;obtain⟨⟨c1,c2⟩,hq,f⟩:=wQ.mp f;rw[List.length_drop]at aQ;have bO:=(ku cV) _ (wX a9);have m:=pG f;have N:=pG Q;have aG:=pG hb;have M:=pG a3;have aD:=pG A;generalize LN[k]=x at *;obtain⟨_,_,_,_,_,y,⟨pa,pc,ga,ba,bc,ps,rfl,rfl,rfl,h1,h2,h3,h4⟩,h5⟩:=b3;injection y with _ y;injection y with _ y;injection y with _ y;injection y with q3 y;injection y with q4 y;injection y with q5 y;injection y with q6 y;subst q3;subst q4;subst q5;injection q6 with dU dV dW;subst dU;subst dW;clear dV y;obtain⟨kg,rfl⟩:∃kg,ga=some ⟨kg,0,none⟩:=by
      cases hg:x.r.guard with
      |nil=>have:=bO.guard;rw[hg]at this;cases this
      |node _ _ _ _ _=>rw[hg]at h2;obtain⟨kg,_,_,e,_⟩:=h2;injection e with e;exact⟨kg,e⟩
     have d7:=pG (λ(xa:Option Addr) (xn xc:Nat)=>(⟨(ku HT).below hb,hp.ok,h1,bO.pars,h5,bO.mems⟩:Cx D T t x.r.params x.ms ⟨x.r.name,pa,x.r.params.length,pc,some ⟨kg,0,none⟩,ba,ps.length,bc,aa,x.ms.length,ac,xa,xn,xc⟩));have HG:=pG h2;have HQ:=pG hq;have aM:=pG (λ(wx:World) (s:pU D wx)=>show wx.cell? ⟨g,k*8,none⟩=some (.string x.r.name.kind)/\wx.cell? ⟨g,k*8+1,none⟩=some (.string x.r.name.text)/\wx.cell? ⟨g,k*8+2,none⟩=some (.int .i64 x.r.name.at_)/\wx.cell? ⟨g,k*8+3,none⟩=some (.slice pa x.r.params.length pc)/\wx.cell? ⟨g,k*8+4,none⟩=some (.pointer (some ⟨kg,0,none⟩))/\wx.cell? ⟨g,k*8+5,none⟩=some (.slice ba ps.length bc)/\wx.cell? ⟨g,k*8+6,none⟩=some (.slice aa x.ms.length ac) from⟨(s.cell (p:=⟨g,k*8,none⟩) hg).trans e0,(s.cell (p:=⟨g,k*8+1,none⟩) hg).trans e1,(s.cell (p:=⟨g,k*8+2,none⟩) hg).trans e2,(s.cell (p:=⟨g,k*8+3,none⟩) hg).trans e3,(s.cell (p:=⟨g,k*8+4,none⟩) hg).trans e4,(s.cell (p:=⟨g,k*8+5,none⟩) hg).trans e5,(s.cell (p:=⟨g,k*8+6,none⟩) hg).trans e6⟩);have cT:=pG (λ(wx:World) (s:pU D wx)=>(ku d6) wx (hb.trans (s.mono aR)));clear f Q hb a3 A h1 h2 h3 h4 h5 hq e0 e1 e2 e3 e4 e5 e6;go_upto_region 16 with fail
     go_region_held3 (λw'=>w'.cell? ⟨g,k*8,none⟩=some (.string x.r.name.kind)/\w'.cell? ⟨g,k*8+1,none⟩=some (.string x.r.name.text)/\w'.cell? ⟨g,k*8+2,none⟩=some (.int .i64 x.r.name.at_)/\w'.cell? ⟨g,k*8+3,none⟩=some (.slice pa x.r.params.length pc)/\w'.cell? ⟨g,k*8+4,none⟩=some (.pointer (some ⟨kg,0,none⟩))/\w'.cell? ⟨g,k*8+5,none⟩=some (.slice ba ps.length bc)/\w'.cell? ⟨g,k*8+6,none⟩=some (.slice aa x.ms.length ac)) (first|exact(ku aM) _ (Below.refl _ _)|exact(ku aM) _ (Below.refl _ _).drew|exact(ku aM) _ (ku aL)|exact(ku aM) _ ((ku aL).alloc bP _))
      (first|(go_at_call 123;refine((ku cT) _ (Below.refl _ _).drew).mono ?_;rintro e w8 ⟨x2,dF,rfl,aU,cJ⟩;have aL:=pG ((Below.refl D.heap.size D).drew.trans cJ);have bP:=(ku aL).size;have bD:=pG aU;obtain⟨bT,bU,ex,_⟩:=ql aU.out;subst ex;clear aU cJ;dsimp only))
     obtain⟨b5,b4⟩:∃b5,b5=w8.alloc (.cells #[.pointer (some ⟨T,0,none⟩),.string x.r.name.kind,.string x.r.name.text,.int .i64 x.r.name.at_,.slice pa x.r.params.length pc,.pointer (some ⟨kg,0,none⟩),.slice ba ps.length bc,.slice aa x.ms.length ac,.slice bT S.length bU,.bool false] 251):=⟨_,rfl⟩;have aT:pU w8 b5:=by rw[b4];exact below_alloc1 _ _
     have cQ:Wk D T w8.heap.size ⟨x.r.name,pa,x.r.params.length,pc,some ⟨kg,0,none⟩,ba,ps.length,bc,aa,x.ms.length,ac,bT,S.length,bU⟩ dF b5 S false:=
      ⟨(ku aL).trans (aT.mono bP),bP,by rw[b4];exact qg _ _,((ku bD).mono (wJ _)).below aT⟩
     have j4:=((ku aM) w8 (ku aL)).2.2.2.2.1;have eH:g<w8.heap.size:=aj;have bV:=pG (kwu x.r.guard 0 kg ((ku d7) bT S.length bU) cQ (ku HG) _ (ku HQ));have d4:=pG b4.symm;clear cQ aT b4 bD;go_wp2_with fail
     rw[ku d4];refine(ku bV).mono ?_;rintro e B ⟨rfl,h5⟩;rw[Qr]at h5;have z:=h5.low;have dN:=z.size;obtain⟨⟨_,_,_,_,_,_,_,_,_,b9⟩,_⟩:=kjj h5.row;have I:=(ku N).below z;obtain⟨v0,v1,v2,v3,v4,g0,g1,g2,g3,g4⟩:=jl I.1;have dE:=(z.cell (p:=⟨g,k*8+7,none⟩) hg).trans e7;have dI:g<B.heap.size:=aj;have aX:V<B.heap.size:=aj;have aW:=pG I.1;have H:=pG I;have a4:=pG ((ku aG).trans (z.mono aR));have Z:=pG ((z.block w.heap.size (wu (ku M))).trans (ku M));have a5:=pG ((ku aD).below z);clear z h5 I bV e7 N M aD j4;dsimp only;cases h1:(c1==1);all_goals cases c2
     case false.false=>
      have a0:=pG (show lbR t S (LN.drop (k+1)) l=some BR from lG);clear m;go_wp2
      go_roundw
      case rel=>exact⟨k+1,l,xa,xc,aj,eu,ku a0,ku H,ku a4,ku Z,ku a5⟩
      case measure=>exact qQ
     all_goals
      have a0:=pG (show lbR t S (LN.drop (k+1)) (l++[riT x])=some BR from lG);clear m;have u:=pG (ku H).2.2.2.1;have aA:(.slice xa l.length xc:Value).ownBlock≠some V:=(not_row (ku u) (ku aW) ak).symm;go_upto_region 19 with fail
      go_region_law ((refine apL (((ku u).alloc _).drew) (heap_alloc_new B _) ?_;intro gg cap L C b a7 bN;have cL:L.frozen? ⟨V,3,none⟩=false:=(b.frozen_far _ ay (Ne.symm aA)).trans (kjl (zk _ _) aX g3);have cK:L.cell? ⟨V,3,none⟩=some (.slice xa l.length xc):=(b.cell_far _ ay (Ne.symm aA)).trans (wZ (zk _ _) v3)))
      all_goals
       have a8:((B.drew).alloc (.cells #[.string (riT x)] 9)).grownBy L (.slice xa l.length xc:Value).ownBlock:=b;have O:(Value.slice (some ⟨gg,0,none⟩) (l.length+1) cap).ownBlock=(.slice xa l.length xc:Value).ownBlock\/(Value.slice (some ⟨gg,0,none⟩) (l.length+1) cap).ownBlock=some (B.drew.heap.size+1):=by
        rcases a7 with e|e
        ·exact Or.inl e.symm
        ·exact Or.inr oz
       obtain⟨a6,P⟩:=jyr ((ku H).below (Below.refl _ _).drew) a8 C O;have U:=pG P;have k6:Tk none zxm B (L.setCell ⟨V,3,none⟩ (.slice (some ⟨gg,0,none⟩) (l.length+1) cap)):=(((kqg (below_alloc1 B (.cells #[.string (riT x)] 9)) none zxm).drew).trans (kjk (((ku u).alloc _).drew) b ak)).trans (kxa a6 ak 3 _);have aB:=pG ((((ku a4).alloc aj _).drew.grown b ay (xg (ku u))).setCell (p:=⟨V,3,none⟩) (by show w.heap.size<=V;omega) (.slice (some ⟨gg,0,none⟩) (l.length+1) cap));have R:=pG ((ku a5).tk k6);have aE:=pG (show(L.setCell ⟨V,3,none⟩ (.slice (some ⟨gg,0,none⟩) (l.length+1) cap)).heap[w.heap.size]?=some (.cells #[.string ⟨#[]⟩,.slice none 0 0,.slice none 0 0,.slice none 0 0,.bool false] 24 (0,0)) from(wP _ _ _ _ (by show w.heap.size≠V;omega)).trans ((b.block w.heap.size ay (not_row (((ku u).alloc _).drew) (show(B.alloc (.cells #[.string (riT x)] 9)).drew.heap[w.heap.size]?=some (.cells #[.string ⟨#[]⟩,.slice none 0 0,.slice none 0 0,.slice none 0 0,.bool false] 24 (0,0)) from zy (ku Z)) ak)).trans (zy (ku Z))));clear C b a7 a6 P k6 a8 O;go_wp2
       go_roundw
       case rel=>exact⟨k+1,l++[riT x],some ⟨gg,0,none⟩,cap,aj,eu,ku a0,mD,ku aB,ku aE,ku R⟩
       case measure=>exact qQ
    case neg=>
     have aP:k=LN.length:=aj;rw[aP,Qd,lbR]at f;injection f with f;subst f;clear aP A;obtain⟨aH,cN,cO,cP,_⟩:=Q;obtain⟨v0,v1,v2,v3,v4,g0,g1,g2,g3,g4⟩:=jl aH;have bF:=pG aH;have cA:=pG cN;have cB:=pG cO;have cC:=pG cP;have b8:=pG hb;have aS:=pG a3;have b2:kvj ⟨tt,en,j,l⟩=((en.length==0)&&(j.length==0)):=rfl;have Y:=pG b2;clear aH cN cO cP hb a3 b2;obtain⟨r0,r1,r2,r3,r4,y0,y1,y2,y3,y4⟩:=jl (ku aS);have eG:V≠w.heap.size:=aj;have eE:=wu (ku aS);have aC:=pG (λ(d:Bool) (hd:kvj ⟨tt,en,j,l⟩=d)=>(show(((((((D.setCell ⟨V,4,none⟩ (.bool d)).setCell ⟨w.heap.size,0,none⟩ (.string tt)).setCell ⟨w.heap.size,1,none⟩ (.slice E en.length F)).setCell ⟨w.heap.size,2,none⟩ (.slice wa j.length G)).setCell ⟨w.heap.size,3,none⟩ (.slice xa l.length xc)).setCell ⟨w.heap.size,4,none⟩ (.bool d))).heap[w.heap.size]?=some (.cells #[.string tt,.slice E en.length F,.slice wa j.length G,.slice xa l.length xc,.bool d] 24 (0,0))/\zqu w ⟨tt,en,j,l⟩ (.returned (.agg #[.string tt,.slice E en.length F,.slice wa j.length G,.slice xa l.length xc,.bool d])) (((((((D.setCell ⟨V,4,none⟩ (.bool d)).setCell ⟨w.heap.size,0,none⟩ (.string tt)).setCell ⟨w.heap.size,1,none⟩ (.slice E en.length F)).setCell ⟨w.heap.size,2,none⟩ (.slice wa j.length G)).setCell ⟨w.heap.size,3,none⟩ (.slice xa l.length xc)).setCell ⟨w.heap.size,4,none⟩ (.bool d))) from by
      have k1:Tk none [24] D (D.setCell ⟨V,4,none⟩ (.bool d)):=kxa (ku bF) ak 4 _;have q1:(D.setCell ⟨V,4,none⟩ (.bool d)).heap[w.heap.size]?=some (.cells #[.string ⟨#[]⟩,.slice none 0 0,.slice none 0 0,.slice none 0 0,.bool false] 24 (0,0)):=(wP _ _ _ _ ay).trans (ku aS);have q6:=kjw q1 (.string tt) (.slice E en.length F) (.slice wa j.length G) (.slice xa l.length xc) (.bool d);have K:=k1.trans (qv6 q1 (bad:=[24]) ak (.string tt) (.slice E en.length F) (.slice wa j.length G) (.slice xa l.length xc) (.bool d));have nr:=dw.none D;refine⟨q6,_,rfl,⟨E,_,F,wa,_,G,xa,_,xc,by rw[hd],jw (ku cA) K nr ak,jw (ku cB) K nr ak,jw (ku cC) K nr ak⟩,?_⟩;exact((((((ku b8).setCell (p:=⟨V,4,none⟩) ay _).setCell (p:=⟨w.heap.size,0,none⟩) au _).setCell (p:=⟨w.heap.size,1,none⟩) au _).setCell (p:=⟨w.heap.size,2,none⟩) au _).setCell (p:=⟨w.heap.size,3,none⟩) au _).setCell (p:=⟨w.heap.size,4,none⟩) au _))
     have dJ:((en.length:Int)==0)=(en.length==0):=by cases en<;>simp<;>omega
     have dK:((j.length:Int)==0)=(j.length==0):=by cases j<;>simp<;>omega
     cases a1:(en.length==0);all_goals cases a2:(j.length==0)
     all_goals rw[a1]at dJ
     all_goals rw[a2]at dK
     case' false.false=>have HE:=pG ((ku aC) false nG)
     case' false.true=>have HE:=pG ((ku aC) false nG)
     case' true.false=>have HE:=pG ((ku aC) false nG)
     case' true.true=>have HE:=pG ((ku aC) true nG)
     all_goals clear aC Y cA cB cC bY bX b8 b7
     case false.false=>
      clear a1 a2;go_wp2
      obtain⟨X,J⟩:=ku HE;refine rY (v:=.agg #[.string tt,.slice E en.length F,.slice wa j.length G,.slice xa l.length xc,.bool false]) (rP results72 _ _ w.heap.size _ _ _ _ rfl X underlying24 rfl ah) rfl ?_;exact J
     case false.true=>
      clear a1 a2;go_wp2
      obtain⟨X,J⟩:=ku HE;refine rY (v:=.agg #[.string tt,.slice E en.length F,.slice wa j.length G,.slice xa l.length xc,.bool false]) (rP results72 _ _ w.heap.size _ _ _ _ rfl X underlying24 rfl ah) rfl ?_;exact J
     case true.false=>
      clear a1 a2;go_wp2
      obtain⟨X,J⟩:=ku HE;refine rY (v:=.agg #[.string tt,.slice E en.length F,.slice wa j.length G,.slice xa l.length xc,.bool false]) (rP results72 _ _ w.heap.size _ _ _ _ rfl X underlying24 rfl ah) rfl ?_;exact J
     case true.true=>
      clear a1 a2;go_wp2
      obtain⟨X,J⟩:=ku HE;refine rY (v:=.agg #[.string tt,.slice E en.length F,.slice wa j.length G,.slice xa l.length xc,.bool true]) (rP results72 _ _ w.heap.size _ _ _ _ rfl X underlying24 rfl ah) rfl ?_;exact J
theorem vji {i: Nat}  (h:w.ownsRow lo e size (.slice a n cap) n xs)(hi:i<=n):w.ownsRow lo e size (.slice a i cap) i (xs.take (i*size)):=by
 have u:i*size<=n*size:=Nat.mul_le_mul_right _ hi;refine⟨by rw[JJ,h.1];omega,?_⟩;rcases h.2 with⟨h1,s⟩|⟨g,f,d,h1,p,q,t,k,l,m⟩
 ·injection h1 with b j c;subst b c;have:i=0:=aj;subst this;exact Or.inl ⟨rfl,rfl⟩
 ·injection h1 with b j c;subst b c;refine Or.inr ⟨g,cap,d,rfl,p,q,aj,k,l,?_⟩;rw[<-m,List.take_take];congr 1
  omega
theorem vkf (h:w.ownsRow lo e size (.slice a n cap) n xs):n<=cap:=by
 rcases h.2 with⟨h1,j⟩|⟨g,b,c,h1,q,s,k,l,m,p⟩
 ·omega
 ·injection h1 with d f i;omega
theorem jxd:∀(l:List PP) (i:Nat),xu (l.take i)=(xu l).take (i*4)
 |[],i=>by simp[xu]
 |p::l,0=>by simp[xu]
 |p::l,i+1=>by
  have:=jxd l i;unfold xu at *;rw[Zr,Qb,Qb,this,List.take_append,show(i+1)*4=i*4+4 by omega];simp[kzj]
def jy5 (tab:Tab)(l:List PP)(i:Nat)(p:PP):Bool:=fpB (l.take i) p.name.text.toList||!((zl tab p.name.text.toList).role==0)
def jv4 (tab:Tab)(l:List PP)(a:Int)(i:Nat)(p:PP):Int:=kjt (qyg tab p.set_) (kjt (jy5 tab l i p) a p.name) p.set_
theorem Nm.pzu {B b:Nat}{tab:Tab}{ps:Value}{z:Int}(h:Nm w B b tab ps z)(u:Value):Nm (w.setCell ⟨B,1,none⟩ u) B b tab u z:=
 ⟨heap_setCell_same _ B 1 _ _ _ h.nm,h.tab.other (by simpa using h.ne) _,h.ne⟩
def pqf (W:World)(B b:Nat)(tab:Tab)(l:List PP)(ps:Value)(fin:Int)(i:Value)(wr:World):Prop:=
 ∃(k:Nat) (a:Int),k<=l.length/\i=.int .i64 k/\uh (jv4 tab l) (l.drop k) k a=fin/\Nm wr B b tab ps a/\Kept B W wr
theorem jqp (w:World)(B b lo:Nat)(tab:Tab)(l:List PP)(aG:Value)(pa:Option Addr)(pn pc:Nat)(z:Int)(h:Nm w B b tab aG z)(V:w.ownsRow lo 352 4 (.slice pa pn pc) l.length (xu l))(hl:l.length<=1000)(hs:∀p∈l,p.name.text.size<=1000/\p.set_.text.size<=1000):
  qJ 159 #[.pointer (some ⟨B,0,none⟩),.slice pa pn pc] w λe w'=>e=.returned (.tuple #[])/\Nm w' B b tab (.slice pa pn pc) (uh (jv4 tab l) l 0 z)/\Kept B w w':=by
 have aI:=wu h.nm;obtain⟨_,_,_,_,f1,_,_⟩:=h.cells;obtain⟨c0,c1,c2,c3,_⟩:=h.cells;obtain⟨xa,cap,aF,G⟩:=ql V;injection aF with e1 e2 e3;subst e1 e2 e3;have HW:=pG (show ∀i,i<l.length->∃g,pa=some ⟨g,0,none⟩/\g≠B/\∀j,j<l.length*4->w.cell? ⟨g,j,none⟩=(xu l)[j]? from λi hi=>by
  obtain⟨g,rfl,_,_,C⟩:=G i hi;exact⟨g,rfl,λe=>not_row V h.nm ak (by rw[<-e];rfl),C⟩)
 obtain⟨W,U⟩:∃W,W=w.setCell ⟨B,1,none⟩ (.slice pa l.length pc):=⟨_,rfl⟩;have a5:Kept B w W:=by rw[U];exact(Kept.refl _ _).kzq _ _
 have a6:Nm W B b tab (.slice pa l.length pc) z:=by rw[U];exact h.pzu _
 have hR:pqf W B b tab l (.slice pa l.length pc) (uh (jv4 tab l) l 0 z) (.int .i64 0) W:=⟨0,z,rW _,rfl,rfl,a6,Kept.refl _ _⟩;have HR:=pG hR;have Z:=pG a5;have HN:=pG h;have HO:=pG V;have HS:=pG hs;have aB:=pG U.symm;generalize uh (jv4 tab l) l 0 z=fin at *;clear h V G hs U a5 a6 hR;go_enter func159,ntmps159
 go_wp2_with fail
 rw[ku aB];go_loopw [4,5,6,7,14] (λ_ _ _ _ i wr=>pqf W B b tab l (.slice pa l.length pc) fin i wr) (λ_ _ _ _ i _=>l.length-(intOf i).toNat)
 case atStart=>exact ku HR
 case round=>
  obtain⟨k,I,hk,rfl,d,hN,T⟩:=hrel;have a2:=pG hN;have a1:=pG ((ku Z).trans T);have y:=pG T;have a3:=pG (kqb (ku HO) (ku HN).nm ak ((ku Z).trans T));have aJ:=wu hN.nm;clear hN T;by_cases F:k<l.length
  ·obtain⟨g,rfl,aC,C⟩:=ku HW k F;have fl:=λj (hj:j<4)=>xq kzj 4 (λ_=>rfl) l k j F hj
   have O:∀j,j<4->∀u,(kzj l[k])[j]?=some u->wr.cell? ⟨g,k*4+j,none⟩=some u:=λj hj u hu=>(ku a1).cell (a:=⟨g,k*4+j,none⟩) aC ((C (k*4+j) aj).trans ((fl j hj).trans hu))
   have e0:=O 0 aj _ rfl;have e1:=O 1 aj _ rfl;have e2:=O 2 aj _ rfl;have e3:=O 3 aj _ rfl;simp only[sU]at e0;obtain⟨a8,a9⟩:=ku HS l[k] (wX F);rw[rM F,uh]at d;have H:=pG d;have D:=pG (show jv4 tab l I k l[k]=kjt (qyg tab l[k].set_) (kjt (jy5 tab l k l[k]) I l[k].name) l[k].set_ from rfl);have c:=pG (show jy5 tab l k l[k]=(fpB (l.take k) l[k].name.text.toList||!((zl tab l[k].name.text.toList).role==0)) from rfl);have t:=vji (i:=k) (ku a3) aj;rw[<-jxd]at t;have aA:(l.take k).length=k:=jU;generalize aD:l.take k=lt at t aA c;generalize l[k]=p at e0 e1 e2 e3 a8 a9 H D c;clear O fl C d aD;subst aA;have aH:lt.length<=pc:=by have:=vkf (ku a3);omega
   have Q:lt.length<=1000:=aj;have X:=pG (kv2 (wr.alloc (.cells #[.string p.name.text,.int .i64 p.name.at_,.string p.set_.text,.int .i64 p.set_.at_] 352)).drew lo lt _ p.name (t.alloc _).drew Q);have Y:=pG (kv2 (((wr.alloc (.cells #[.string p.name.text,.int .i64 p.name.at_,.string p.set_.text,.int .i64 p.set_.at_] 352)).alloc (.cells #[.string ⟨#[]⟩,.int .i64 0,.string ⟨#[]⟩,.int .i64 0] 352)).drew) lo lt _ p.name ((t.alloc _).alloc _).drew Q);have HZ:=pG (show(((wr.alloc (.cells #[.string p.name.text,.int .i64 p.name.at_,.string p.set_.text,.int .i64 p.set_.at_] 352)).alloc (.cells #[.string ⟨#[]⟩,.int .i64 0,.string ⟨#[]⟩,.int .i64 0] 352)).drew).heap[wr.heap.size+1]?=some (.cells #[.string ⟨#[]⟩,.int .i64 0,.string ⟨#[]⟩,.int .i64 0] 352 (0,0)) by
    have:=qg (wr.alloc (.cells #[.string p.name.text,.int .i64 p.name.at_,.string p.set_.text,.int .i64 p.set_.at_] 352)) (.cells #[.string ⟨#[]⟩,.int .i64 0,.string ⟨#[]⟩,.int .i64 0] 352);simp only[tJ]at this;exact this)
   have a4:=pG (qg wr (.cells #[.string p.name.text,.int .i64 p.name.at_,.string p.set_.text,.int .i64 p.set_.at_] 352));clear t;unfold ptV at *;go_upto_region 4 with fail
   go_cut [7] from 19 to 27 (λv wx=>v=.bool (fpB lt p.name.text.toList)/\Below (wr.heap.size+1) (wr.alloc (.cells #[.string p.name.text,.int .i64 p.name.at_,.string p.set_.text,.int .i64 p.set_.at_] 352)) wx)
   case first=>
    go_region_law ((go_simp;go_at_call 215;(first|(refine(ku X).mono ?_;rintro e w2 ⟨rfl,x⟩)|(refine(ku Y).mono ?_;rintro e w2 ⟨rfl,x⟩;obtain⟨z0,z1,z2,z3,z4,z5,z6,z7⟩:=kk5 (show w2.heap[wr.heap.size+1]?=_ from(x.block _ au).trans (ku HZ))));dsimp only[paV]))
    all_goals
     go_wp2_with fail
     go_meet
     refine⟨rfl,?_⟩;have aE:=x.size;simp at aE;first
     |exact(((Below.refl _ _).drew.trans (x.mono au)).alloc aj _)
     |exact zvb ((((Below.refl _ _).alloc au _).drew).trans (x.mono au)) _ _ _ _
   case rest=>
   obtain⟨rfl,hb⟩:=hcut;have E:=((ku a2).alloc (.cells #[.string p.name.text,.int .i64 p.name.at_,.string p.set_.text,.int .i64 p.set_.at_] 352)).below (hb.mono au);have R:=(hb.block wr.heap.size aj).trans (ku a4);obtain⟨d0,d1,d2,d3,_⟩:=kk5 R;have aK:=kv1 E.drew.tab a8;have hf:=kvk (zl tab p.name.text.toList);obtain⟨c0,c1,c2,c3,f1,f2,f3⟩:=E.cells;have M:=pG E;have K:=pG ((Kept.kqn (P:=B) (w:=wr) (.cells #[.string p.name.text,.int .i64 p.name.at_,.string p.set_.text,.int .i64 p.set_.at_] 352)).trans (Kept.of_below (hb.mono au)));have A:=pG R;have N:=pG (λ(W2:World) (z2:Int) (h2:Nm W2 B b tab (.slice (some ⟨g,0,none⟩) l.length pc) z2)=>jj4 W2 B b tab _ z2 p.set_ h2 a9);clear E hb R HZ X Y a4;unfold ptV at *;generalize zl tab p.name.text.toList=q at *;generalize fpB lt p.name.text.toList=r at *;cases r
   case true=>
    rw[Q9]at c;have L:=pG (note_any (wc.drew.drew) B 2 I p.name.at_ c2 c3 f2 f3);go_wp2
    go_region
    go_wp2
    go_region_law ((go_simp;go_at_call 212;refine(ku L).mono ?_;rintro e w1 ⟨rfl,hw⟩;dsimp only))
    all_goals
     subst hw;have S:=((Kept.refl B wc).drew.drew.trans (Kept.note B 2 wc.drew.drew I p.name.at_)).row (b:=wr.heap.size) aj (ku A);obtain⟨_,_,g2,g3,_⟩:=kk5 S;go_wp2_with fail
     refine(ku N _ _ (((ku M).drew.drew).note aj)).mono ?_;rintro e w6 ⟨rfl,s,f⟩;have J:=pG s;have m:=pG (((((Kept.refl B wc).drew.drew).trans (Kept.note _ _ _ _ _))).trans f);clear s f;go_wp2
     go_roundw
     case rel=>exact⟨lt.length+1,_,aj,eu,ku H,by rw[ku D,ku c];exact ku J,(ku y).trans ((ku K).trans (ku m))⟩
     case measure=>exact qQ
   case false=>
    rw[Qr]at c;cases C:(q.role != 0)
    case true=>
     have hE:(!(q.role==0))=true:=C;rw[hE]at c;have L:=pG (note_any (wc.drew.drew) B 2 I p.name.at_ c2 c3 f2 f3);go_wp2
     go_region
     go_wp2
     go_region_law ((go_simp;go_at_call 212;refine(ku L).mono ?_;rintro e w1 ⟨rfl,hw⟩;dsimp only))
     all_goals
      subst hw;have S:=((Kept.refl B wc).drew.drew.trans (Kept.note B 2 wc.drew.drew I p.name.at_)).row (b:=wr.heap.size) aj (ku A);obtain⟨_,_,g2,g3,_⟩:=kk5 S;go_wp2_with fail
      refine(ku N _ _ (((ku M).drew.drew).note aj)).mono ?_;rintro e w6 ⟨rfl,s,f⟩;have J:=pG s;have m:=pG (((((Kept.refl B wc).drew.drew).trans (Kept.note _ _ _ _ _))).trans f);clear s f;go_wp2
      go_roundw
      case rel=>exact⟨lt.length+1,_,aj,eu,ku H,by rw[ku D,ku c];exact ku J,(ku y).trans ((ku K).trans (ku m))⟩
      case measure=>exact qQ
    case false=>
     have hE:(!(q.role==0))=false:=C;rw[hE]at c;go_wp2
     go_region
     obtain⟨_,_,g2,g3,_⟩:=kk5 ((Kept.refl B wc).drew.row (b:=wr.heap.size) aj (ku A));go_wp2_with fail
     refine(ku N _ _ ((ku M).drew)).mono ?_;rintro e w6 ⟨rfl,s,f⟩;have J:=pG s;have m:=pG ((((Kept.refl B wc).drew)).trans f);clear s f;go_wp2
     go_roundw
     case rel=>exact⟨lt.length+1,_,aj,eu,ku H,by rw[ku D,ku c];exact ku J,(ku y).trans ((ku K).trans (ku m))⟩
     case measure=>exact qQ
  ·have a7:k=l.length:=by omega
   rw[a7,Qd]at d;have H:=pG d;clear d a7;go_wp2
   go_end0
   exact⟨rfl,by rw[<-ku H];exact ku a2,ku a1⟩
end Go.Proofs.YtpmcnonmkghokaaGreatDoor

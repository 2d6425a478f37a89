import Derived.Test.YtpmcnonmkghokaaGreatDoorT28
set_option maxRecDepth 100000
set_option maxHeartbeats 8000000
set_option linter.unusedVariables false
set_option linter.unusedSimpArgs false
namespace Go.Proofs.YtpmcnonmkghokaaGreatDoor
open Go.Proofs.Tryz
open Go.RowKit
theorem vy5 (l:List PP)(k:Nat)(h:k<l.length):(kjh l)[k*6+4]?=some (.string (l[k]).set_.text)/\(kjh l)[k*6+5]?=some (.int .i64 (l[k]).set_.at_):=
 ⟨xq kkw 6 (λ_=>rfl) l k 4 h aj,xq kkw 6 (λ_=>rfl) l k 5 h aj⟩
theorem pj0 (l:List PVar)(k j:Nat)(h:k<l.length)(a:j<12):(kwg l)[k*12+j]?=(kqu l[k])[j]?:=xq kqu 12 (λ_=>rfl) l k j h a
theorem vxg (w:World)(T:Nat)(t:PTree)(h:kqr w T t)(ht:TreeOk t)(hr:t.rules.length<=801)(hn:t.nevers.length<=801)(hp:∀r∈t.rules++t.nevers,r.params.length<=801/\(uo r.guard).length<=10000/\(uf r.body).length<=10000/\ky5 r.body/\kko r.body<=1000):
  qJ 65 #[.pointer (some ⟨T,0,none⟩)] w λe w'=>e=.returned (.int .i64 (qjs t))/\pU w w':=by
 obtain⟨i0,hi,aA,aB,aC⟩:=info_parts infoTok;have HI:=pG (⟨hi,aA,aB,aC⟩:_/\_/\_/\_);clear hi aA aB aC;have cD:=pG ht;have HT:=pG h;have HP:=pG hp;obtain⟨aZ,cK,cY,bJ⟩:=ht;have cT:=pG bJ;obtain⟨x0,x1,x2,x3,x4,y1,y3,y4,hT,_,_,h2,_⟩:=h;obtain⟨q0,q1,q2,q3,q4,_⟩:=kxh hT;obtain⟨a2,cS,rfl,a9⟩:=kq5 h2;have cE:=pG a9;have a1:=pG (kju.start (f:=zwa t) (items:=t.vars) (z:=-1) (Below.refl w.heap.size w));clear hp bJ h2 hT a9;go_enter func65,ntmps65
 go_wp2_with fail
 go_loopw [3,4,5,6,7,8] (λat_ i _ _ _ _ wr=>kju w (zwa t) t.vars (-1) at_ i wr) (λ_ i _ _ _ _ _=>t.vars.length-(intOf i).toNat)
 case atStart=>exact ku a1
 case round=>
  obtain⟨k,a,cL,rfl,rfl,D,d⟩:=hrel;have HB:=pG d;have cR:=d.size;have p0:=wZ d q2;by_cases B:k<t.vars.length
  ·obtain⟨g,rfl,P⟩:=ku cE k B;have E:=λj (hj:j<12)=>(P (k*12+j) aj).trans (pj0 t.vars k j B hj)
   have c0:=wZ d (E 0 aj);have c1:=wZ d (E 1 aj);have c2:=wZ d (E 2 aj);have c3:=wZ d (E 3 aj);have c4:=wZ d (E 4 aj);have c5:=wZ d (E 5 aj);have c6:=wZ d (E 6 aj);have c7:=wZ d (E 7 aj);have c8:=wZ d (E 8 aj);have c9:=wZ d (E 9 aj);have c10:=wZ d (E 10 aj);have c11:=wZ d (E 11 aj);have c:=pG (λ(w':World) (b:Int) (hb:b=qq8 (qh (dh t) (t.vars[k]).type_.text.toList) (qh (pq t) (t.vars[k]).type_.text.toList) (t.vars[k]).type_ (qq9 (qh (dh t) (t.vars[k]).over.text.toList) (t.vars[k]).over a)) hw=>kju.next (W:=w) (wr:=w') (f:=zwa t) (items:=t.vars) (z:=-1) (a:=a) (b:=b) B D hb hw);rw[sU]at c0;generalize t.vars[k]=V at c0 c1 c2 c3 c4 c5 c6 c7 c8 c9 c10 c11 c;clear P D d E;go_wp2_with fail
   have A:pU w (wr.alloc (.cells #[.string V.name.kind,.string V.name.text,.int .i64 V.name.at_,.string V.over.kind,.string V.over.text,.int .i64 V.over.at_,.string V.type_.kind,.string V.type_.text,.int .i64 V.type_.at_,.string V.top.kind,.string V.top.text,.int .i64 V.top.at_] 222)):=(ku HB).alloc aj _;have hh:=heap_alloc_new wr (.cells #[.string V.name.kind,.string V.name.text,.int .i64 V.name.at_,.string V.over.kind,.string V.over.text,.int .i64 V.over.at_,.string V.type_.kind,.string V.type_.text,.int .i64 V.type_.at_,.string V.top.kind,.string V.top.text,.int .i64 V.top.at_] 222);refine(set_any _ T t V.over.text ((ku HT).below A) aZ).mono ?_;rintro e u1 ⟨rfl,rfl⟩;generalize wr.alloc (.cells #[.string V.name.kind,.string V.name.text,.int .i64 V.name.at_,.string V.over.kind,.string V.over.text,.int .i64 V.over.at_,.string V.type_.kind,.string V.type_.text,.int .i64 V.type_.at_,.string V.top.kind,.string V.top.text,.int .i64 V.top.at_] 222)=W at A hh |-;have d3:=QK W _ 3 _ _ _ hh;have d4:=QK W _ 4 _ _ _ hh;have d5:=QK W _ 5 _ _ _ hh;have d6:=QK W _ 6 _ _ _ hh;have d7:=QK W _ 7 _ _ _ hh;have d8:=QK W _ 8 _ _ _ hh;simp only[List.getElem?_toArray,tu,sZ,Nat.reduceAdd]at d3 d4 d5 d6 d7 d8;have m:=pG A;have bF:=pG ((ku HT).below A);have p9:=wZ A q2;generalize hO:qh (dh t) V.over.text.toList=O at c |-;clear A hh hO c0 c1 c2 c3 c4 c5 c6 c7 c8 c9 c10 c11 p0;go_wp2_with fail
   refine(set_any _ T t V.type_.text (ku bF) aZ).mono ?_;rintro e u2 ⟨rfl,rfl⟩;generalize I:qh (dh t) V.type_.text.toList=S at c |-;clear I;go_wp2_with fail
   refine(zj8 _ T t V.type_.text (ku bF) cK).mono ?_;rintro e u3 ⟨rfl,rfl⟩;generalize N:qh (pq t) V.type_.text.toList=K at c |-;clear N;generalize V.over=X at d3 d4 d5 c |-;generalize V.type_=Y at d6 d7 d8 c |-;cases cx:(X.kind.toList==og)
   ·have G:=pG cx;cases cy:(Y.kind.toList==og)
    ·have u:=pG cy;go_wp2
     go_roundw
     case rel=>exact ku c _ _ (by simp only[qq8,qq9,ku G,ku u,Jg,Q5,Ql,QC,wU,↓reduceIte]) (ku m)
     case measure=>exact qQ
    ·have u:=pG cy;by_cases I:S<0
     ·have C:=pG (tV I);by_cases N:K<0
      ·have J:=pG (tV N);go_wp2_with fail
       refine(first_any _ _ _).mono ?_;rintro e u9 ⟨rfl,rfl⟩;go_wp2
       go_roundw
       case rel=>exact ku c _ _ iY (ku m)
       case measure=>exact qQ
      ·have J:=pG (decide_eq_false N);go_wp2
       go_roundw
       case rel=>exact ku c _ _ iY (ku m)
       case measure=>exact qQ
     ·have C:=pG (decide_eq_false I);go_wp2
      go_roundw
      case rel=>exact ku c _ _ (by simp only[qq8,qq9,ku G,ku u,ku C,Jg,Q5,Ql,QC,wU,↓reduceIte]) (ku m)
      case measure=>exact qQ
   ·have G:=pG cx;by_cases hO:O<0
    ·have R:=pG (tV hO);go_wp2_with fail
     refine(first_any _ _ _).mono ?_;rintro e u8 ⟨rfl,rfl⟩;cases cy:(Y.kind.toList==og)
     ·have u:=pG cy;go_wp2
      go_roundw
      case rel=>exact ku c _ _ iG (ku m)
      case measure=>exact qQ
     ·have u:=pG cy;by_cases I:S<0
      ·have C:=pG (tV I);by_cases N:K<0
       ·have J:=pG (tV N);go_wp2_with fail
        refine(first_any _ _ _).mono ?_;rintro e u9 ⟨rfl,rfl⟩;go_wp2
        go_roundw
        case rel=>exact ku c _ _ gQ (ku m)
        case measure=>exact qQ
       ·have J:=pG (decide_eq_false N);go_wp2
        go_roundw
        case rel=>exact ku c _ _ gQ (ku m)
        case measure=>exact qQ
      ·have C:=pG (decide_eq_false I);go_wp2
       go_roundw
       case rel=>exact ku c _ _ iU (ku m)
       case measure=>exact qQ
    ·have R:=pG (decide_eq_false hO);cases cy:(Y.kind.toList==og)
     ·have u:=pG cy;go_wp2
      go_roundw
      case rel=>exact ku c _ _ iG (ku m)
      case measure=>exact qQ
     ·have u:=pG cy;by_cases I:S<0
      ·have C:=pG (tV I);by_cases N:K<0
       ·have J:=pG (tV N);go_wp2_with fail
        refine(first_any _ _ _).mono ?_;rintro e u9 ⟨rfl,rfl⟩;go_wp2
        go_roundw
        case rel=>exact ku c _ _ gQ (ku m)
        case measure=>exact qQ
       ·have J:=pG (decide_eq_false N);go_wp2
        go_roundw
        case rel=>exact ku c _ _ gQ (ku m)
        case measure=>exact qQ
      ·have C:=pG (decide_eq_false I);go_wp2
       go_roundw
       case rel=>exact ku c _ _ iU (ku m)
       case measure=>exact qQ
  ·have p:=kqy B D;clear a1;go_wp2_with fail
   refine(qz2 _ T t ((ku HT).below d) hr hn).mono ?_;rintro e w4 ⟨rv,rs,rfl,Z,aE,l⟩;have aQ:=pG aE;have Q:=pG ((ku HB).trans (l.mono cR));obtain⟨ra,rc,rfl,b8⟩:=kq5 Z;have bH:=pG b8;have cO:(t.rules++t.nevers).length<=1602:=kQ;have aP:=pG (show qjs t=uh (zwe t) (t.rules++t.nevers) 0 a by rw[p];rfl);generalize bR:a=z0 at aP;clear bR;have a1:=pG (kju.start (W:=w4) (wr:=w4) (f:=zwe t) (items:=t.rules++t.nevers) (z:=z0) (Below.refl _ _));generalize t.rules++t.nevers=H at a1 aQ bH cO HP aP b8 Z aE;clear Z aE l b8 p D d p0 q0 q1 q2 q3 q4;go_wp2_with fail
   go_loopw [3,10,11,12,13,14,15,16] (λat_ i _ _ _ _ _ _ wr=>kju w4 (zwe t) H z0 at_ i wr) (λ_ i _ _ _ _ _ _ _=>H.length-(intOf i).toNat)
   case atStart=>exact ku a1
   case round=>
    obtain⟨k,a,cL,rfl,rfl,D,a3⟩:=hrel;have bS:=pG a3;have d1:=a3.size;by_cases B:k<H.length
    ·obtain⟨g,rfl,P⟩:=ku bH k B;obtain⟨vp,vg,vb,qs,⟨f0,f1,f2,f3,f4,f5⟩,aM,aK,aU,aN⟩:=kvl k B (ku aQ);have e0:=(P (k*6) aj).trans f0;have e1:=(P (k*6+1) aj).trans f1;have e2:=(P (k*6+2) aj).trans f2;have e3:=(P (k*6+3) aj).trans f3;have e4:=(P (k*6+4) aj).trans f4;have e5:=(P (k*6+5) aj).trans f5;obtain⟨bL,cI,cJ,bM,cH⟩:=ku HP _ (wX B);have cN:=jm.len aN;have c:=pG (λ(w':World) (b:Int) (hb:b=uh (zwi t (H[k]).params) (uo (H[k]).guard++uf (H[k]).body) 0 (uh (zxh t) (H[k]).params 0 a)) hw=>kju.next (W:=w4) (wr:=w') (f:=zwe t) (items:=H) (z:=z0) (a:=a) (b:=b) B D hb hw);generalize (H[k]).params=ps at c aM bL;generalize (H[k]).guard=gd at c aK cI;generalize (H[k]).body=bd at c aN cJ bM cH cN;generalize (H[k]).name=nm at e0 e1 e2;obtain⟨ma,mc,rfl,bK⟩:=kq5 aM;obtain⟨gp,rfl⟩:=aK.ptr;obtain⟨ba,bn,bc,rfl⟩:=zq aU;have bV:=pG bK;have bX:=pG aM;have bW:=pG aK;have bN:=pG aU;have cB:=pG aN;have bY:=pG (kju.start (W:=w4) (f:=zxh t) (items:=ps) (z:=a) a3);have c3:=wZ a3 e3;clear P f0 f1 f2 f3 f4 f5 aM bK D a3 aK aU aN;go_wp2_with fail
     go_loopw [3,11,12] (λat_ i _ wr=>kju w4 (zxh t) ps a at_ i wr) (λ_ i _ _=>ps.length-(intOf i).toNat)
     case atStart=>exact ku bY
     case round=>
      obtain⟨k3,b3,cW,rfl,rfl,aG,y⟩:=hrel;have aO:=pG y;have c3:=wZ y e3;by_cases aI:k3<ps.length
      ·obtain⟨gq,rfl,aW⟩:=ku bV k3 aI;obtain⟨z1,z2⟩:=vy5 ps k3 aI;replace z1:=wZ y ((aW (k3*6+4) aj).trans z1)
       replace z2:=wZ y ((aW (k3*6+5) aj).trans z2)
       have s:=pG (λ(w':World) (b:Int) (hb:b=if qh (dh t) (ps[k3]).set_.text.toList<0 then jd b3 (ps[k3]).set_.at_ else b3) hw=>kju.next (W:=w4) (wr:=w') (f:=zxh t) (items:=ps) (z:=a) (a:=b3) (b:=b) aI aG hb hw);generalize (ps[k3]).set_=x at z1 z2 s;have cC:=pG ((ku HT).below ((ku Q).trans (y.mono (ku Q).size)));clear aW aG y;go_wp2_with fail
       refine(set_any _ T t x.text (ku cC) aZ).mono ?_;rintro e u1 ⟨rfl,rfl⟩;generalize I:qh (dh t) x.text.toList=S at s |-;clear I;by_cases aX:S<0
       ·rw[if_pos aX]at s;go_wp2_with fail
        refine(first_any _ _ _).mono ?_;rintro e u9 ⟨rfl,rfl⟩;generalize hF:jd b3 (x.at_:Int)=F at s;have L:=pG (ku s _ F rfl (ku aO));clear s hF;go_wp2
        go_roundw
        case rel=>exact ku L
        case measure=>exact qQ
       ·rw[if_neg aX]at s;have L:=pG (ku s _ b3 rfl (ku aO));clear s;go_wp2
        go_roundw
        case rel=>exact ku L
        case measure=>exact qQ
      ·have p:=kqy aI aG;have bT:=pG p;have c4:=wZ y e4;have c5:=wZ y e5;clear p aG;go_wp2_with fail
       refine(kyo gd _ (T+1) (.pointer gp) aj ((ku bW).below y)).mono ?_;rintro e w6 ⟨v6,rfl,b6,aS⟩;have cP:=y.size;have a0:=pG ((ku aO).trans (aS.mono cP));have cQ:=(ku a0).size;have cU:=aS.size;have aR:=pG b6;obtain⟨a6,l6,c6,rfl⟩:=zq b6;have cG:=wZ (ku a0) e5;clear b6 aS c3 c4 c5 y;go_wp2_with fail
       refine(jwe bd bM _ (T+1) (.slice ba bn bc) qs aj (qj (ku bN) (ku a0)) ((ku cB).below (ku a0)) aj).mono ?_;rintro e w7 ⟨v7,rfl,b7,aF⟩;have bB:=pG ((ku a0).trans (aF.mono cQ));have d0:=(ku bB).size;have cV:=aF.size;have bG:=pG b7;have aD:=pG (qj (ku aR) aF);have bQ:=mg (ku aR);obtain⟨a7,l7,c7,rfl⟩:=zq b7;clear b7 aF cG aR;obtain⟨hi,aA,aB,aC⟩:=ku HI;go_wp2_with (at_builtin;go_must (refine kqd rfl _ _ 132 rfl wr.heap.size 142 i0 _ 3 40 underlying132 hi aA aB aC rfl ak (.slice a6 l6 c6) _ _ rfl (ku aD) (.slice a7 l7 c7) _ _ _ rfl (ku bG) (qjv _) gW aj aj ?_))
       intro v8 w8 aL a5 bP;have q:=pG ((ku bB).grown a5 aj (λg hg=>by have:=xg (ku aD) g hg;omega));have bC:=pG ((ku Q).trans ((ku q).mono (ku Q).size));have M:w8.ownsRow wr.heap.size 142 3 v8 (uo gd++uf bd).length (uq (uo gd++uf bd)):=by
        rw[kke,wY];exact aL
       obtain⟨a8,c8,rfl,aY⟩:=kq5 M;have cM:(uo gd++uf bd).length<=20000:=kQ;have bD:=pG aY;generalize bI:uo gd++uf bd=U at aY bD cM M;have b9:=pG bI.symm;have j0:=wZ (ku q) e0;have j1:=wZ (ku q) e1;have j2:=wZ (ku q) e2;have j3:=wZ (ku q) e3;have j4:=wZ (ku q) e4;have j5:=wZ (ku q) e5;have bO:=pG (qj (ku bX) (ku q));have cA:=pG (kju.start (W:=w8) (wr:=w8) (f:=zwi t ps) (items:=U) (z:=b3) (Below.refl _ _));clear aL a5 bP M aY bI aD bG hi aA aB aC bQ;go_wp2_with fail
       go_loopw [3,15,16] (λat_ i _ wr=>kju w8 (zwi t ps) U b3 at_ i wr) (λ_ i _ _=>U.length-(intOf i).toNat)
       case atStart=>exact ku cA
       case round=>
        obtain⟨k4,a4,cX,rfl,rfl,aH,l⟩:=hrel;have bA:=pG l;have cZ:=l.size;by_cases aJ:k4<U.length
        ·obtain⟨g4,rfl,aV⟩:=ku bD k4 aJ;obtain⟨y1,y2⟩:=zx3 U k4 aJ;replace y1:=wZ l ((aV (k4*3+1) aj).trans y1)
         have Y2:=pG ((aV (k4*3+2) aj).trans y2);have b0:=wZ l j0;have b1:=wZ l j1;have b2:=wZ l j2;have cF:=wZ l j3;have b4:=wZ l j4;have b5:=wZ l j5;have v:=pG (λ(w':World) (b:Int) (hb:b=if qjd t ps (U[k4]).text.toList then a4 else jd a4 (U[k4]).at_) hw=>kju.next (W:=w8) (wr:=w') (f:=zwi t ps) (items:=U) (z:=b3) (a:=a4) (b:=b) aJ aH hb hw);generalize U[k4]=X at y1 y2 Y2 v;have aT:=((ku bC).trans (l.mono (ku bC).size)).drew;have bU:=pG (vzg wr.drew T (T+1) t nm ps ma ps.length mc gp ba bn bc X.text ((ku HT).below aT) (ku cD) (qj (qj (ku bO) l) ((Below.refl _ _).drew)) bL);clear aH l aV y2 aT;go_wp2_with fail
         go_region_held3 (λw'=>w'.cell? ⟨g,k*6,none⟩=some (.string nm.kind)/\w'.cell? ⟨g,k*6+1,none⟩=some (.string nm.text)/\w'.cell? ⟨g,k*6+2,none⟩=some (.int .i64 nm.at_)/\w'.cell? ⟨g,k*6+3,none⟩=some (.slice ma ps.length mc)/\w'.cell? ⟨g,k*6+4,none⟩=some (.pointer gp)/\w'.cell? ⟨g,k*6+5,none⟩=some (.slice ba bn bc)/\w'.cell? ⟨g4,k4*3+1,none⟩=some (.string X.text))
          (first|go_keep|(go_split_ands;refine⟨?_,?_,?_,?_,?_,?_,?_⟩<;>(refine wZ A ?_;first|assumption|simp[*])))
          ((go_at_call 117;refine(ku bU).mono ?_;rintro e w9 ⟨rfl,A⟩))
         have m:=pG ((ku bA).drew.trans (A.mono (by simpa using(ku bA).size)));have d2:=wZ (ku m) (ku Y2);clear A b0 b1 b2 cF b4 b5 y1;cases ck:qjd t ps X.text.toList
         ·rw[ck]at v;go_wp2_with fail
          refine(first_any _ _ _).mono ?_;rintro e u9 ⟨rfl,rfl⟩;generalize hF:jd a4 (X.at_:Int)=F at v;have L:=pG (ku v _ F nJ (ku m));clear v hF;go_wp2
          go_roundw
          case rel=>exact ku L
          case measure=>exact qQ
         ·rw[ck]at v;have L:=pG (ku v _ a4 (by rw[if_pos (by rfl)]) (ku m));clear v;go_wp2
          go_roundw
          case rel=>exact ku L
          case measure=>exact qQ
        ·have p:=kqy aJ aH;have bZ:=pG (ku c _ a4 (by rw[<-ku b9,<-ku bT];exact p) ((ku q).trans (l.mono (ku q).size)));clear p aH l;go_wp2
         go_roundw
         case rel=>exact ku bZ
         case measure=>exact qQ
    ·have p:=kqy B D;have HE:=pG (show a=qjs t by rw[ku aP];exact p);clear p D;go_wp2
     go_ret
     exact⟨kqv (ku HE),(ku Q).trans ((ku bS).mono (ku Q).size)⟩
end Go.Proofs.YtpmcnonmkghokaaGreatDoor

import Derived.Test.YtpmcnonmkghokaaGreatDoorT06
import Derived.Test.YtpmcnonmkghokaaGreatDoorT01
import Derived.Test.YtpmcnonmkghokaaGreatDoorT03
import Derived.Test.YtpmcnonmkghokaaGreatDoorT07
import Derived.Test.YtpmcnonmkghokaaGreatDoorT09
import Derived.Test.YtpmcnonmkghokaaGreatDoorT08
set_option maxRecDepth 100000
set_option maxHeartbeats 8000000
set_option linter.unusedVariables false
set_option linter.unusedSimpArgs false
namespace Go.Proofs.YtpmcnonmkghokaaGreatDoor
open Go.Proofs.Tryz Go.RowKit
attribute [local go_sem ↓] Go.wp_at_zero Go.wp_at_succ
variable {cs:Array Value}{arr c:Bool}{s:ByteArray}{i6:ELab}{g6 l3:Int}{i5:List Int}{vars:List MVar}{L:List Tok}{j9:List UInt8}{τ:List UInt8->Int->Int}{ksz ssz:List UInt8->Nat}{ds xs y1 y3 y4:List Value}{α:Type}{l:List α}{j6:MStep}{i3:MVar}{B cap e gg i j k n size z:Nat}{o:Obj}{r:PRule}{t:PTree}{i8:PX}{x:RIn}{a0 st':RS}{tab:Tab}{l0:Tok}{i4 ty y:VT}{a1 v x0 x1 x2 x3 x4:Value}{d:VrT}{u u' u4 w w0:World}
theorem xz0(l:List PP)(k:Nat)(h:k<l.length):(kjm l)[k*6+4]?=some (.string (l[k]).Q.x)/\(kjm l)[k*6+5]?=some (i_ (l[k]).Q.v):=
 ⟨kqo kwf 6 (λ_=>rfl) l k 4 h aj,kqo kwf 6 (λ_=>rfl) l k 5 h aj⟩
theorem xkx(l:List PVar)(k j:Nat)(h:k<l.length)(d:j<12):(kyp l)[k*12+j]?=(kj7 l[k])[j]?:=kqo kj7 12 (λ_=>rfl) l k j h d
theorem pkl(h:kqc w B t)(ht:TreeOk t)(hr:t.l.length<=801)(hn:t.q.length<=801)(hp:∀r∈t.l++t.q,r.u.length<=801/\(yu r.guard).length<=10000/\(uo r.S).length<=10000/\qqk r.S/\kvt r.S<=1000):Calls prog 65 #[pT B] w λe w'=>rT e (i_<|qxo t)/\oq w w':=by
 have⟨i0,hi,a1,a3,a5⟩:=info_parts infoTok;have HI:=oz (⟨hi,a1,a3,a5⟩:_/\_/\_/\_);clear hi a1 a3 a5;have⟨bP,HT,HP⟩:=jF ht h hp;obtain⟨aU,bY,cM,(cH:Hid _)⟩:=ht;have⟨x0,x1,x2,x3,x4,y1,y3,y4,hT,_,_,h2,_⟩:=h;have⟨q0,q1,q2,q3,q4,_⟩:=kzk hT;obtain⟨a2,cG,rfl,(bQ:Hid _)⟩:=kq8 h2;have aB:=kjd.start (f:=jxr t) (items:=t.z) (z:=-1)<|Below.refl w.heap.size w;clear hp hT;go_in
 go_wp21;go_loopw [3,4,5,6,7,8] (λat_ i _ _ _ _ wr=>kjd w (jxr t) t.z (-1) at_ i wr) (λ_ i _ _ _ _ _=>t.z.length-(intOf i).toNat);exact aB;obtain⟨k,a,bZ,rfl,rfl,D,u⟩:=hrel;have cF:=u.size;have p0:=wU u q2;by_cases y:k<t.z.length
 ·obtain⟨g,rfl,P⟩:=ku bQ k y;have E:=λj (hj:j<12)=>(P (k*12+j) aj).trans (xkx t.z k j y hj)
  have c0:=wU u<|E 0 aj;have c1:=wU u<|E 1 aj;have c2:=wU u<|E 2 aj;have c3:=wU u<|E 3 aj;have c4:=wU u<|E 4 aj;have c5:=wU u<|E 5 aj;have c6:=wU u<|E 6 aj;have c7:=wU u<|E 7 aj;have c8:=wU u<|E 8 aj;have c9:=wU u<|E 9 aj;have c10:=wU u<|E 10 aj;have c11:=wU u<|E 11 aj;have d:=oz (λ(w':World) (b:Int) (hb:b=qjn (zx (ug t) (t.z[k]).k.x.toList) (zx (uy t) (t.z[k]).k.x.toList) (t.z[k]).k (qjl (zx (ug t) (t.z[k]).g.x.toList) (t.z[k]).g a)) hw=>kjd.Y (W:=w) (wr:=w') (f:=jxr t) (items:=t.z) (z:=-1) (a:=a) (b:=b) y D hb hw);rw[Qk]at c0;generalize t.z[k]=V at c0 c1 c2 c3 c4 c5 c6 c7 c8 c9 c10 c11 d;clear P D E;go_wp21
  have l:oq w (wr.alloc<|.cells #[.string V.y.t,.string V.y.x,i_ V.y.v,.string V.g.t,.string V.g.x,i_ V.g.v,.string V.k.t,.string V.k.x,i_ V.k.v,.string V.R.t,.string V.R.x,i_ V.R.v] 222):=u.alloc aj _;have hh:=Xk wr<|.cells #[.string V.y.t,.string V.y.x,i_ V.y.v,.string V.g.t,.string V.g.x,i_ V.g.v,.string V.k.t,.string V.k.x,i_ V.k.v,.string V.R.t,.string V.R.x,i_ V.R.v] 222;refine zM (set_any V.g.x (HT.below l) aU) ?_;rintro u1 rfl;generalize wr.alloc (.cells #[.string V.y.t,.string V.y.x,.int .i64 V.y.v,.string V.g.t,.string V.g.x,.int .i64 V.g.v,.string V.k.t,.string V.k.x,.int .i64 V.k.v,.string V.R.t,.string V.R.x,.int .i64 V.R.v] 222)=W at l hh |-;have d3:=QK W _ 3 _ _ _ hh;have d4:=QK W _ 4 _ _ _ hh;have d5:=QK W _ 5 _ _ _ hh;have d6:=QK W _ 6 _ _ _ hh;have d7:=QK W _ 7 _ _ _ hh;have d8:=QK W _ 8 _ _ _ hh;simp only[lY,sU,sW,Nat.reduceAdd]at d3 d4 d5 d6 d7 d8;have aZ:=HT.below l;have p9:=wU l q2;generalize hO:zx (ug t) V.g.x.toList=O at d |-;clear hh hO c0 c1 c2 c3 c4 c5 c6 c7 c8 c9 c10 c11 p0;go_wp21
  refine zM (set_any V.k.x aZ aU) ?_;rintro u2 rfl;generalize J:zx (ug t) V.k.x.toList=S at d |-;clear J;go_wp21
  refine zM (zkl V.k.x aZ bY) ?_;rintro u3 rfl;generalize N:zx (uy t) V.k.x.toList=K at d |-;clear N;generalize V.g=X at d3 d4 d5 d |-;generalize V.k=Y at d6 d7 d8 d |-;cases cx:(X.t.toList==mX)
  ·have G:=oz cx;cases Z:(Y.t.toList==mX)
   ·have s:=oz Z;go_wp2;exact rdM (d _ _ (by simp only[qjn,qjl,ku G,ku s,Jh,Jr,QJ,QZ,ru,↓reduceIte]) l)
   ·have s:=oz Z;by_cases J:S<0
    ·have C:=oz<|Qz J;by_cases N:K<0
     ·have L:=oz<|Qz N;go_wp21
      refine zM first_any ?_;rintro u9 rfl;go_wp2;exact rdM<|d _ _ o7 l
     ·have L:=oz<|decide_eq_false N;go_wp2
      exact rdM<|d _ _ o7 l
    ·have C:=oz<|decide_eq_false J;go_wp2
     exact rdM (d _ _ (by simp only[qjn,qjl,ku G,ku s,ku C,Jh,Jr,QJ,QZ,ru,↓reduceIte]) l)
  ·have G:=oz cx;by_cases hO:O<0
   ·have R:=oz<|Qz hO;go_wp21
    refine zM first_any ?_;rintro u8 rfl;cases Z:(Y.t.toList==mX)
    ·have s:=oz Z;go_wp2;exact rdM<|d _ _ o9 l
    ·have s:=oz Z;by_cases J:S<0
     ·have C:=oz<|Qz J;by_cases N:K<0
      ·have L:=oz<|Qz N;go_wp21
       refine zM first_any ?_;rintro u9 rfl;go_wp2;exact rdM<|d _ _ oD l
      ·have L:=oz<|decide_eq_false N;go_wp2
       exact rdM<|d _ _ oD l
     ·have C:=oz<|decide_eq_false J;go_wp2
      exact rdM<|d _ _ o8 l
   ·have R:=oz<|decide_eq_false hO;cases Z:(Y.t.toList==mX)
    ·have s:=oz Z;go_wp2;exact rdM<|d _ _ o9 l
    ·have s:=oz Z;by_cases J:S<0
     ·have C:=oz<|Qz J;by_cases N:K<0
      ·have L:=oz<|Qz N;go_wp21
       refine zM first_any ?_;rintro u9 rfl;go_wp2;exact rdM<|d _ _ oD l
      ·have L:=oz<|decide_eq_false N;go_wp2
       exact rdM<|d _ _ oD l
     ·have C:=oz<|decide_eq_false J;go_wp2
      exact rdM<|d _ _ o8 l
 ·have m:=kqu y D;go_wp21;refine(qk3 (HT.below u) hr hn).mono ?_;rintro e w4 ⟨rv,rs,rfl,aG,a9,bU⟩;have Q:=u.trans<|bU.mono cF;obtain⟨ra,rc,rfl,(aO:Hid _)⟩:=kq8 aG;have cC:(t.l++t.q).length<=1602:=lg;have aI:=oz (by rw[m];rfl:qxo t=yx (jxn t) (t.l++t.q) 0 a);generalize bH:a=z0 at aI;clear bH;have aB:=kjd.start (W:=w4) (wr:=w4) (f:=jxn t) (items:=t.l++t.q) (z:=z0)<|bR;generalize t.l++t.q=I at aB a9 aO cC HP aI aO aG a9;clear m D p0 q0 q1 q2 q3 q4;go_wp21
  go_loopw [3,10,11,12,13,14,15,16] (λat_ i _ _ _ _ _ _ wr=>kjd w4 (jxn t) I z0 at_ i wr) (λ_ i _ _ _ _ _ _ _=>I.length-(intOf i).toNat);exact aB;obtain⟨k,a,bZ,rfl,rfl,D,aA⟩:=hrel;have cP:=aA.size;by_cases y:k<I.length
  ·obtain⟨g,rfl,P⟩:=ku aO k y;have⟨vp,vg,vb,qs,⟨f0,f1,f2,f3,f4,f5⟩,aL,aJ,aH,aM⟩:=qji k y a9;have e0:=(P (k*6) aj).trans f0;have e1:=(P (k*6+1) aj).trans f1;have e2:=(P (k*6+2) aj).trans f2;have e3:=(P (k*6+3) aj).trans f3;have e4:=(P (k*6+4) aj).trans f4;have e5:=(P (k*6+5) aj).trans f5;have⟨bB,bW,bX,bC,bV⟩:=ku HP _<|wZ y;have cB:=jg.T aM;have d:=oz (λ(w':World) (b:Int) (hb:b=yx (jxl t (I[k]).u) (yu (I[k]).guard++uo (I[k]).S) 0 (yx (zyr t) (I[k]).u 0 a)) hw=>kjd.Y (W:=w4) (wr:=w') (f:=jxn t) (items:=I) (z:=z0) (a:=a) (b:=b) y D hb hw);generalize (I[k]).u=ps at d aL bB;generalize (I[k]).guard=gd at d aJ bW;generalize (I[k]).S=bd at d aM bX bC bV cB;generalize (I[k]).y=nm at e0 e1 e2;obtain⟨ma,mc,rfl,(bK:Hid _)⟩:=kq8 aL;obtain⟨gp,rfl⟩:=aJ.ptr;obtain⟨ba,bn,bc,rfl⟩:=qh aH;have bL:=kjd.start (W:=w4) (f:=zyr t) (items:=ps) (z:=a) aA;have c3:=wU aA e3;clear P f0 f1 f2 f3 f4 f5 D;go_wp21
   go_loopw [3,11,12] (λat_ i _ wr=>kjd w4 (zyr t) ps a at_ i wr) (λ_ i _ _=>ps.length-(intOf i).toNat);exact bL;obtain⟨k3,b3,cK,rfl,rfl,aC,v⟩:=hrel;have c3:=wU v e3;by_cases aE:k3<ps.length
   ·obtain⟨gq,rfl,aR⟩:=ku bK k3 aE;have⟨z1,z2⟩:=xz0 ps k3 aE;replace z1:=wU v ((aR (k3*6+4) aj).trans z1)
    replace z2:=wU v<|(aR (k3*6+5) aj).trans z2
    have A:=oz (λ(w':World) (b:Int) (hb:b=if zx (ug t) (ps[k3]).Q.x.toList<0 then xu b3 (ps[k3]).Q.v else b3) hw=>kjd.Y (W:=w4) (wr:=w') (f:=zyr t) (items:=ps) (z:=a) (a:=b3) (b:=b) aE aC hb hw);generalize (ps[k3]).Q=x at z1 z2 A;have bO:=HT.below<|Q.trans (v.mono Q.size);clear aR aC;go_wp21
    refine zM (set_any x.x bO aU) ?_;rintro u1 rfl;generalize J:zx (ug t) x.x.toList=S at A |-;clear J;by_cases aT:S<0
    ·rw[lJ aT]at A;go_wp21;refine zM first_any ?_;rintro u9 rfl;generalize hF:xu b3 (x.v:Int)=F at A;have M:=A _ F rfl v;clear hF;go_wp2;exact rdM M
    ·rw[Xy aT]at A;have M:=A _ b3 rfl v;go_wp2;exact rdM M
   ·have m:=kqu aE aC;have bI:=oz m;have c4:=wU v e4;have c5:=wU v e5;clear m aC;go_wp21;refine(qjw gd _ (B+1) (.pointer gp) aj<|aJ.below v).mono ?_;rintro e w6 ⟨v6,rfl,b6,b9⟩;have cD:=v.size;have U:=v.trans<|b9.mono cD;have cE:=U.size;have cI:=b9.size;obtain⟨a6,l6,c6,rfl⟩:=qh b6;have bT:=wU U e5;clear c3 c4 c5;go_wp21
    refine(vwh bC _ (B+1) (.slice ba bn bc) qs aj (qj aH U) (aM.below U) aj).mono ?_;rintro e w7 ⟨v7,rfl,b7,aP⟩;have aX:=U.trans<|aP.mono cE;have cO:=aX.size;have cJ:=aP.size;have aN:=qj b6 aP;obtain⟨a7,l7,c7,rfl⟩:=qh b7;clear bT;have⟨hi,a1,a3,a5⟩:=ku HI;go_wp2_with (at_builtin;go_must (refine kqv rfl 132 rfl wr.heap.size 142 i0 _ 3 40 underlying132 hi a1 a3 a5 rfl ak (.slice a6 l6 c6) _ _ rfl aN (.slice a7 l7 c7) _ _ _ rfl b7 (qxw) iq aj aj ?_))
    intro v8 w8 aW aS bF;have p:=aX.grown aS aj (λg hg=>by have:=jo aN g hg;omega);have aY:=Q.trans<|p.mono Q.size;have a0:w8.ownsRow wr.heap.size 142 3 v8 (yu gd++uo bd).length (uw<|yu gd++uo bd):=by rw[qxy,rD];exact aW
    obtain⟨a8,c8,rfl,(aK:Hid _)⟩:=kq8 a0;have cA:(yu gd++uo bd).length<=20000:=lg;generalize b8:yu gd++uo bd=T at aK aK cA a0;have aV:=oz b8.symm;have j0:=wU p e0;have j1:=wU p e1;have j2:=wU p e2;have j3:=wU p e3;have j4:=wU p e4;have j5:=wU p e5;have bD:=qj aL p;have bN:=kjd.start (W:=w8) (wr:=w8) (f:=jxl t ps) (items:=T) (z:=b3)<|bR;clear bF b8 hi a1 a3 a5;go_wp21
    go_loopw [3,15,16] (λat_ i _ wr=>kjd w8 (jxl t ps) T b3 at_ i wr) (λ_ i _ _=>T.length-(intOf i).toNat);exact bN;obtain⟨k4,a4,cL,rfl,rfl,aD,q⟩:=hrel;have cN:=q.size;by_cases aF:k4<T.length
    ·obtain⟨g4,rfl,aQ⟩:=ku aK k4 aF;have⟨y1,y2⟩:=zy1 T k4 aF;replace y1:=wU q ((aQ (k4*3+1) aj).trans y1)
     have Y2:=oz<|(aQ (k4*3+2) aj).trans y2;have b0:=wU q j0;have b1:=wU q j1;have b2:=wU q j2;have bS:=wU q j3;have b4:=wU q j4;have b5:=wU q j5;have H:=oz (λ(w':World) (b:Int) (hb:b=if qxc t ps (T[k4]).x.toList then a4 else xu a4 (T[k4]).v) hw=>kjd.Y (W:=w8) (wr:=w') (f:=jxl t ps) (items:=T) (z:=b3) (a:=a4) (b:=b) aF aD hb hw);generalize T[k4]=X at y1 y2 Y2 H;have bG:=(aY.trans<|q.mono aY.size).drew;have bJ:=px9 nm gp ba bn bc X.x (HT.below bG) bP (qj (qj bD q)<|bR.drew) bB;clear aD aQ y2;go_wp21
     go_region_held3 (λw'=>w'.cell? (Ad g (k*6))=some (.string nm.t)/\w'.cell? (Ad g (k*6+1))=some (.string nm.x)/\w'.cell? (Ad g (k*6+2))=some (i_ nm.v)/\w'.cell? (Ad g (k*6+3))=some (.slice ma ps.length mc)/\w'.cell? (Ad g (k*6+4))=some (.pointer gp)/\w'.cell? (Ad g (k*6+5))=some (.slice ba bn bc)/\w'.cell? (Ad g4 (k4*3+1))=some (.string X.x))
      (first|go_keep|(go_split_ands;refine⟨?_,?_,?_,?_,?_,?_,?_⟩<;>(refine wU bA ?_;first|assumption|simp[*])))
      ((go_at_call 117;refine zM bJ λw9 bA=>?_))
     have l:=q.drew.trans (bA.mono<|by simpa using q.size);have cQ:=wU l Y2;clear b0 b1 b2 bS b4 b5 y1;cases ck:qxc t ps X.x.toList
     ·rw[ck]at H;go_wp21;refine zM first_any ?_;rintro u9 rfl;generalize hF:xu a4 (X.v:Int)=F at H;have M:=H _ F (by rw[Xy ak]) l;clear hF;go_wp2;exact rdM M
     ·rw[ck]at H;have M:=H _ a4 (by rw[lJ (by rfl)]) l;go_wp2;exact rdM M
    ·have m:=kqu aF aD;have bM:=d _ a4 (by rw[<-ku aV,<-ku bI];exact m)<|p.trans (q.mono p.size);clear m aD;go_wp2
     exact rdM bM
  ·have m:=kqu y D;have HE:=oz (by rw[ku aI];exact m:a=qxo t);clear m D;go_wp2;go_ret;exact⟨kqi HE,Q.trans<|aA.mono Q.size⟩
structure TrC (w:World)(v:Value)(L:List Tok)(t:PTree)(st:RS)(x0 x1 x2 x3 x4:Value)(y1 y3 y4:List Value)(u:World):Prop where
 e:u.heap[w.heap.size+1]?=some (.cells #[x0,x1,x2,x3,x4] 157 (0,0))
 o0:u.ownsRow (w.heap.size+1+1) 231 6 x0 t.j.length (kwj t.j)
 o1:u.ownsRow (w.heap.size+1+1) 234 4 x1 t.p.length y1
 k1:kjt (w.heap.size+1+1) u t.p y1
 o2:u.ownsRow (w.heap.size+1+1) 222 12 x2 t.z.length (kyp t.z)
 o3:u.ownsRow (w.heap.size+1+1) 147 6 x3 t.l.length y3
 k3:dw (w.heap.size+1+1) u t.l y3
 o4:u.ownsRow (w.heap.size+1+1) 147 6 x4 t.q.length y4
 k4:dw (w.heap.size+1+1) u t.q y4
 ap:x3.ownBlock=none\/x3.ownBlock≠x4.ownBlock
 rd:Rd u w.heap.size v L st
 be:oq w u
 hv:∀g,v.ownBlock=some g->g<w.heap.size
theorem TrC.kept(h:TrC w v L t a0 x0 x1 x2 x3 x4 y1 y3 y4 u)(d:Kept w.heap.size u u')(e:Rd u' w.heap.size v L st'):TrC w v L t st' x0 x1 x2 x3 x4 y1 y3 y4 u':=
 ⟨(d.block _ (wQ h.e) aj).trans h.e,jr h.o0 d aj,jr h.o1 d aj,h.k1.kept d aj,jr h.o2 d aj,jr h.o3 d aj,h.k3.kept d aj,jr h.o4 d aj,h.k4.kept d aj,h.ap,e,h.be.trans<|d.toBelow jV h.be.size,h.hv⟩
theorem TrC.xjl(h:TrC w v L t st' x0 x1 x2 x3 x4 y1 y3 y4 u)(f:u.ownsRow (w.heap.size+1+1) e z a1 n xs)(d:(u.alloc o).drew.grownBy u4 a1.ownBlock):Rw u4 (w.heap.size+1) #[x0,x1,x2,x3,x4] 157:=
 have l:=wQ h.e
 (d.block _ ah (λe=>by have:=jo f _ e.symm;omega)).trans ((jR l).trans h.e)
theorem TrC.grow(h:TrC w v L t st' x0 x1 x2 x3 x4 y1 y3 y4 u)(p:u.ownsRow (w.heap.size+1+1) e z a1 n xs)(f:(u.alloc o).drew.grownBy u4 a1.ownBlock)(i:Nat)(y:Value):∃u5,u5=u4.setCell (Ad (w.heap.size+1) i) y/\Rw u5 (w.heap.size+1) (#[x0,x1,x2,x3,x4].setIfInBounds i y) 157/\Rd u5 w.heap.size v L st'/\oq w u5 /\
  (∀{t' z' x' n' zs'},u4.ownsRow (w.heap.size+1+1) t' z' x' n' zs'->u5.ownsRow (w.heap.size+1+1) t' z' x' n' zs')/\(∀{t' z' x' n' zs'},u.ownsRow (w.heap.size+1+1) t' z' x' n' zs'->(_:t'≠e:=by decide)->u5.ownsRow (w.heap.size+1+1) t' z' x' n' zs') /\
  (∀{t' z' x' n' zs'},u.ownsRow (w.heap.size+1+1) t' z' x' n' zs'->(x'.ownBlock=none\/x'.ownBlock≠a1.ownBlock)->u5.ownsRow (w.heap.size+1+1) t' z' x' n' zs')/\(∀{ks cs},kjt (w.heap.size+1+1) u ks cs->(_:142≠e:=by decide)->kjt (w.heap.size+1+1) u5 ks cs) /\
  ∀{ks cs},dw (w.heap.size+1+1) u ks cs->(_:242≠e:=by decide)->(_:247≠e:=by decide)->(_:245≠e:=by decide)->(_:236≠e:=by decide)->dw (w.heap.size+1+1) u5 ks cs:=by
 have l:=wQ h.e;have j:=jo p;have s:=h.be.size;have hv:=(p.alloc o).drew;have q:∀k,w.heap.size+1+1<=k->k<u.heap.size->(u.alloc o).drew.heap[k]?=u.heap[k]?:=λk _ m=>jR m
 exact⟨_,rfl,jD _ i _ _ _<|h.xjl p f,((h.rd.below<|jy _).grown f j (λg f=>by have:=h.hv g f;omega) aj).jm (B:=w.heap.size+1) (λg f=>by have:=h.hv g f;omega) aj jV y,(((h.be.alloc s _).drew).grown f ah (λk m=>by have:=j k m;omega)).setCell ay y,
  xg kj9,λh1 n=>xg kj9<|kqx ((h1.alloc o).drew) hv n f,λh1 n=>xg kj9<|((h1.alloc o).drew).kept f n,λk n=>(kjt.grown hv n f<|k.stay q).stay kj9,λk a b c d=>(dw.far hv a b c d f<|k.stay q).stay kj9⟩
theorem TrC.xwp{a3:PVar}(h:TrC w v L t st' x0 x1 x2 x3 x4 y1 y3 y4 u)(e:(u.alloc o).drew.grownBy u4 x2.ownBlock)(d:u4.ownsRow (w.heap.size+1+1) 222 12 a1 (t.z.length+1) (kyp t.z++kj7 a3)):TrC w v L {t with z:=t.z++[a3]} st' x0 x1 a1 x3 x4 y1 y3 y4 (u4.setCell (Ad (w.heap.size+1) 2) a1):=by obtain⟨_,rfl,a,b,c,S,O,_,K,R⟩:=h.grow h.o2 e 2 a1;exact⟨a,O h.o0,O h.o1,K h.k1,by rw[zym,rD];exact S d,O h.o3,R h.k3,O h.o4,R h.k4,h.ap,b,c,h.hv⟩
theorem TrC.xwd(h:TrC w v L t st' x0 x1 x2 x3 nS y1 y3 [] u)(f:(u.alloc o).drew.grownBy u4 x3.ownBlock)(d:u4.ownsRow (w.heap.size+1+1) 147 6 (sL gg n cap) (t.l.length+1) (y3++ds))(hi:dw (w.heap.size+1+1) u (t.l++[r]) (y3++ds)):TrC w v L {t with l:=t.l++[r]} st' x0 x1 x2 (sL gg n cap) nS y1 (y3++ds) [] (u4.setCell (Ad (w.heap.size+1) 3)<|sL gg n cap):=by obtain⟨_,rfl,a,b,c,S,O,e,K,R⟩:=h.grow h.o3 f 3<|sL gg n cap;exact⟨a,O h.o0,O h.o1,K h.k1,O h.o2,by rw[rD];exact S d,R hi,e h.o4<|.inl rfl,R h.k4,.inr (by simp[Value.ownBlock]),b,c,h.hv⟩
theorem TrC.xwc(h:TrC w v L t st' x0 x1 x2 x3 x4 y1 y3 y4 u)(k:(u.alloc o).drew.grownBy u4 x4.ownBlock)(d:u4.ownsRow (w.heap.size+1+1) 147 6 (sL gg n cap) (t.q.length+1) (y4++ds))(hi:dw (w.heap.size+1+1) u (t.q++[r]) (y4++ds))(m:x4.ownBlock=some gg\/gg=u.heap.size+1):TrC w v L {t with q:=t.q++[r]} st' x0 x1 x2 x3 (sL gg n cap) y1 y3 (y4++ds) (u4.setCell (Ad (w.heap.size+1) 4)<|sL gg n cap):=by
 obtain⟨_,rfl,a,b,c,S,O,g,K,R⟩:=h.grow h.o4 k 4<|sL gg n cap;have l:=kq9 h.o3;exact⟨a,O h.o0,O h.o1,K h.k1,O h.o2,g h.o3 h.ap,R h.k3,by rw[rD];exact S d,R hi,by
  cases f:x3.ownBlock with
  |none=>exact .inl rfl
  |some j=>
   refine .inr λe=>?_
   have:=l j f;have i:=h.ap;rw[f]at i;simp[Value.ownBlock]at e;grind,b,c,h.hv⟩
structure It (w:World)(v:Value)(L:List Tok)(w0:World)(st:RS)(cs:Array Value)(u:World):Prop where
 e:u.heap[w0.heap.size]?=some (.cells cs 147 (0,0))
 rd:Rd u w.heap.size v L st
 kp:Kept w.heap.size w0 u
 hv:∀g,v.ownBlock=some g->g<w.heap.size
 hR:w.heap.size<w0.heap.size
theorem TrC.it(h:TrC w v L t st' x0 x1 x2 x3 x4 y1 y3 y4 u):It w v L u st' #[e_,e_,i_ 0,nS,.pointer none,nS] (u.alloc (.cells #[e_,e_,i_ 0,nS,.pointer none,nS] 147)):=
 ⟨jH,h.rd.below<|jZ _,(Kept.refl _ _).alloc _,h.hv,wQ h.rd.rd⟩
theorem It.call(h:It w v L w0 a0 cs u)(d:Kept w.heap.size u u')(e:Rd u' w.heap.size v L st'):It w v L w0 st' cs u':=
 ⟨(d.block _ (wQ h.e) (by have:=h.hR;omega)).trans h.e,e,h.kp.trans d,h.hv,h.hR⟩
theorem It.set(h:It w v L w0 st' cs u)(i:Nat)(y:Value):It w v L w0 st' (cs.setIfInBounds i y) (u.setCell (Ad w0.heap.size i) y):=
 ⟨jD _ i _ _ _ h.e,h.rd.jm (B:=w0.heap.size) (λg d=>by have:=h.hv g d;have:=h.hR;omega) h.hR jV y,h.kp.jm jV y,h.hv,h.hR⟩
theorem It.st(h:It w v L w0 st' cs u)(e:Kept w.heap.size (u.setCell (Ad w0.heap.size i) x0) u'):∀k,w0.heap.size+1<=k->k<u.heap.size->u'.heap[k]?=u.heap[k]?:=
 λk h1 d=>(e.block k (by simpa using d) (by have:=h.hR;omega)).trans<|kj9 k h1 d
def vyk(w:World)(v:Value)(L:List Tok)(fin:List PVar×RS)(m:Value)(wr:World):Prop:=
 ∃(l:List PVar)(st:RS)(g:Nat)(b:Bool)(x0 x1 x:Value)(y1:List Value),m=.bool b/\TrC w v L ⟨(kzb L kqa).1,(kzb L kqa).2.1,l,[],[]⟩ st x0 x1 x nS nS y1 [] [] wr/\(b=true->zzr g L l st=fin/\qwf L st g)/\(b=false->(l,st)=fin)/\l.length<=st.v+st.s.toNat
def vyu(w:World)(v:Value)(L:List Tok)(fin:List PRule×RS)(m:Value)(wr:World):Prop:=
 ∃(l:List PRule)(st:RS)(g:Nat)(b:Bool)(x0 x1 x2 x:Value)(y1 ys:List Value),m=.bool b/\TrC w v L ⟨(kzb L kqa).1,(kzb L kqa).2.1,(kw9 L).1,l,[]⟩ st x0 x1 x2 x nS y1 ys [] wr/\(b=true->qwp g L l st=fin/\qwf L st g)/\(b=false->(l,st)=fin)/\l.length<=st.v+st.s.toNat
def vyg(w:World)(v:Value)(L:List Tok)(m:Value)(wr:World):Prop:=
 ∃(l:List PRule)(st:RS)(g:Nat)(x0 x1 x2 x3 x:Value)(y1 y3 ys:List Value),m=.bool (zk L nK st)/\TrC w v L ⟨(kzb L kqa).1,(kzb L kqa).2.1,(kw9 L).1,(kyq L).1,l⟩ st x0 x1 x2 x3 x y1 y3 ys wr/\qze g L l st=kwh L/\L.length-st.v+1<=g/\l.length<=st.v
theorem vzs{x:α}(hb:a0.s=false)(d:l.length<=a0.v+a0.s.toNat)(e:a0.v<=st'.v)(f:st'.s=false->a0.v+1<=st'.v):(l++[x]).length<=st'.v+st'.s.toNat:=by rw[hb]at d;cases h:st'.s<;>simp_all<;>omega
def xqa(v:Value)(L:List Tok)(w:World)(e:Ending)(w':World):Prop:=
 oq w w'/\((∃k:Nat,(uz L).2=some k/\rT e (.tuple #[.pointer none,i_ k])) \/
  ((uz L).2=none/\∃T,w.heap.size<=T/\rT e (.tuple #[pT T,i_ (-1)])/\kqc w' T (uz L).1))
theorem pv4(W:w.ownsRow 0 142 3 v L.length (uw L))(bI:0<L.length)(bH:L.length<=801)(aO:∀i,i<L.length->((tk L i).t.toList==nG)=false->i+1<L.length)(hD:jzo L):Calls prog 61 #[v] w (xqa v L w):=by
 have ⟨i1,hj,cB,cC,cD⟩:=info_parts infoRule;have HV:=oz<|kq9 W;have bF:v.ownBlock≠some w.heap.size:=λe=>by have:=kq9 W _ e;omega
 have b2:Rd ((w.alloc<|.cells #[v,i_ 0,i_ 0,.bool false] 219).alloc<|.cells #[nS,nS,nS,nS,nS] 157) w.heap.size v L kqa:=
  ⟨(jR ay).trans<|Xk w _,(W.alloc _).alloc _,bF,bI,bH,aO,by simp[kqa],by simp[kqa]⟩
 obtain⟨va,vl,vc,rfl⟩:=qh W;clear W bF aO;go_in;go_wp21;refine zM (pxu (w.heap.size+1) b2 jV aj HV<|heap_alloc_new' ay) ?_;rintro w1 ⟨x0,x1,y1,hT,b5,b6,b7,h1,bA,bZ,cA⟩;have HR:vyk w (.slice va vl vc) L (kw9 L) (.bool true) w1:=
  ⟨[],_,kq2 L,true,x0,x1,_,y1,rfl,⟨hT,b5,b6,b7,oN,oN,rfl,oN,rfl,.inl rfl,h1,((bR.alloc jV _).alloc ay _).trans bA,HV⟩,λ_=>⟨rfl,qx6⟩,λh=>ig,jG⟩
 clear hT b5 b6 b7 h1 bA b2;go_wp21;go_loopw [6] (λm wr=>vyk w (.slice va vl vc) L (kw9 L) m wr) (λ_ wr=>2*(L.length-kk4 wr w.heap.size)+zqp wr w.heap.size);exact HR;obtain⟨l,j,g,b,x0,x1,x,y1,rfl,f,T,S,J⟩:=hrel;have F:=f.rd.lt;have aB:=wQ f.rd.rd;have aC:=wQ f.e;have c:=row4 f.rd.rd;have aN:=qqp f.rd J;cases b;case' false=>
  have HF:=oz<|S rfl;clear T S
 case' true=>
  have ⟨t,a3⟩:=T rfl;clear T S;obtain⟨g,rfl⟩:∃g',g=g'+1:=⟨g-1,by have:=zq1 a3;omega⟩;cases z:j.s;case' false=>
   rw[zzr,z]at t;simp only[ru,Xv]at t;rw[z]at c;have s:=oz t;clear t;go_wp21;refine zM (jw5 f.rd) ?_;rintro w3 ⟨Y,I⟩;have A:=pzx (L:=L) (st:=j);have K:=rP (yh L mD j)<|qyl L j;generalize kyt L j=V at s Y A K |-;have aI:=f.kept I Y;have q:=kzk aI.e;have bX:=wQ aI.e;unfold pjf kj7 ji;simp only[QU,Qd];go_wp21
   have ⟨w4,aG⟩:=cpy<|w3.alloc (.cells #[.string V.1.y.t,.string V.1.y.x,i_ V.1.y.v,.string V.1.g.t,.string V.1.g.x,i_ V.1.g.v,.string V.1.k.t,.string V.1.k.x,i_ V.1.k.v,.string V.1.R.t,.string V.1.R.x,i_ V.1.R.v] 222);have aU:w4.heap[w3.heap.size]?=some (.cells (kj7 V.1).toArray 222 (0,0)):=by rw[aG];exact Xk w3 _
   have aM:oq w3 w4:=by rw[aG];exact jZ _
   rw[<-aG];have ⟨d0,d1,d2,d3,d4,d5,d6,d7,d8,d9,d10,d11,e0,e1,e2,e3,e4,e5,e6,e7,e8,e9,bU,bV⟩:=qwy aU;have Z:=aI.kept (.of_below aM)<|Y.below aM;have q:=kzk Z.e;have bT:=wQ aU;have bQ:=wQ Z.e;clear aG aU aM Y I;go_region_law ((refine apL (news:=(kj7 V.1)) ((Z.o2.alloc _).drew) (Xk w4 _) ?_;intro gg cap w5 aF p a2 bS;have r:=kzk<|Z.xjl Z.o2 p))
   all_goals
    have aW:=Z.xwp p aF;clear aF p a2;go_wp21;refine zM (kjg mD aW.rd) ?_;rintro w7 ⟨h7,C⟩;have HM:=oz<|qyn f.rd h7 z K A;have bL:vyk w (.slice va vl vc) L (kw9 L) (.bool<|zk L mD V.2) w7:=
     ⟨l++[V.1],V.2,g,_,x0,x1,_,y1,rfl,aW.kept C h7,λh=>by rw[h]at s;exact⟨s,qvy F z a3 A⟩,λh=>by rw[h]at s;exact s,vzs z J K A⟩
    clear h7 C s;go_wp2;exact⟨bL,HM⟩
  case' true=>
   rw[zzr,z]at t;simp only[Xw]at t;rw[z]at c;have HF:=oz t;clear t
 all_goals
  have aS:(l,j)=kw9 L:=HF;have bM:vyu w (.slice va vl vc) L (kyq L) (.bool true) wr:=
   ⟨[],j,kq2 L,true,x0,x1,x,_,y1,[],rfl,by rw[<-aS];exact f,λ_=>⟨by unfold kyq;rw[<-aS],qx6⟩,λh=>ig,jG⟩
  clear aS;go_wp21;clear f HF c;go_loopw [8] (λm wr=>vyu w (.slice va vl vc) L (kyq L) m wr) (λ_ wr=>2*(L.length-kk4 wr w.heap.size)+zqp wr w.heap.size);exact bM;clear F aB aC aN J;obtain⟨l,j,g,b,x0,x1,x2,x,y1,ys,rfl,f,T,S,J⟩:=hrel;have F:=f.rd.lt;have aB:=wQ f.rd.rd;have aC:=wQ f.e;have c:=row4 f.rd.rd;have aN:=qqp f.rd J;cases b;case' false=>
   have HF:=oz<|S rfl;clear T S
  case' true=>
   have ⟨t,a3⟩:=T rfl;clear T S;obtain⟨g,rfl⟩:∃g',g=g'+1:=⟨g-1,by have:=zq1 a3;omega⟩;cases z:j.s;case' false=>
    rw[qwp,z]at t;simp only[ru,Xv]at t;rw[z]at c;have s:=oz t;clear t;have A:=vjr (L:=L) (st:=j);have K:=rP (yh L nX j)<|qza L j;go_wp21
    refine zM (kq1 nX f.it.rd) ?_;rintro w3 ⟨Y,I⟩;have H3:=f.it.call I Y;clear Y I c;go_wp21;refine zM (kxu mX H3.rd rfl) ?_;rintro w4 ⟨h4,a6⟩;have H4:=H3.call a6 h4;have d:=kzh H4.e;clear h4 a6 H3;generalize hk:zq L mX (qg L nX j)=k at H4 |-;have E1:=oz (show jqv L j=k from hk);have P4:=((H4.set 0<|.string k.1.t).set 1<|.string k.1.x).set 2<|i_ k.1.v;clear hk;unfold kxt;go_wp21
    refine(jqe P4.rd).mono ?_;rintro e w5 ⟨vp,rfl,D,h5,a7,a9⟩;have N:=P4.call a7 h5;have R:=qo (lo':=wr.heap.size+1) (wQ P4.e) D;obtain⟨pa,pn,pc,rfl⟩:=qh D;clear D h5 a7 H4 P4 a9 d;have d:=kzh N.e;generalize hP:kj0 L k.2=P at N R;have E2:=oz (show qvh L j=P from by unfold qvh;rw[ku E1];exact hP);have P5:=N.set 3<|.slice pa pn pc;clear hP;go_wp21
    refine zM (kq1 mY P5.rd) ?_;rintro w6 ⟨h6,aQ⟩;have H6:=P5.call aQ h6;have aY:=xg (N.st aQ) R;clear h6 aQ N P5 R d;go_wp21;refine(qvu H6.rd hD).mono ?_;rintro e w7 ⟨q7,rfl,X,h7,C⟩;have E:=H6.call C h7;have d:=kzh E.e;have a4:=jr aY C aj;have Q:=X.mono (lo':=wr.heap.size+1)<|wQ H6.e;obtain⟨q7,rfl⟩:=X.ptr;clear X h7 C H6 aY;generalize hG:rX (kqb L) 0 .nil L (qg L mY P.2)=G at E Q;have E3:=oz (show qzs L j=G from by unfold qzs;rw[ku E2];exact hG);have P7:=E.set 4<|.pointer q7;clear hG;go_wp21
    refine(pk3 P7.rd hD).mono ?_;rintro e w8 ⟨vb,qs,rfl,aT,bD,h8,aD⟩;have H8:=P7.call aD h8;have aZ:=xg (E.st aD) a4;have aX:=Q.stay<|E.st aD;have aJ:=bD.mono (lo':=wr.heap.size+1)<|wQ P7.e;have b4:=qo (lo':=wr.heap.size+1) (wQ P7.e) aT;obtain⟨ba,bn,bc,rfl⟩:=qh aT;clear aT bD h8 aD E P7 a4 Q d;have d:=kzh H8.e;generalize b9:rS (qqn L) 0 L G.2=Bd at H8 aJ;have E4:=oz (show kjr L j=(⟨k.1,P.1,G.1,Bd.1⟩,Bd.2) from by unfold kjr;rw[ku E1,ku E2,ku E3,b9]);have M:=H8.set 5<|.slice ba bn bc;have a1:=xg (kj9 (o:=5) (u:=.slice ba bn bc)) aZ;have a0:=aX.stay<|kj9 (o:=5) (u:=.slice ba bn bc);have aK:=aJ.stay<|kj9 (o:=5) (u:=.slice ba bn bc);have aL:=xg (kj9 (o:=5) (u:=.slice ba bn bc)) b4;clear b9 aZ aX aJ b4 H8;go_wp21
    generalize w8.setCell (Ad wr.heap.size 5) (.slice ba bn bc)=w9 at M a1 a0 aK aL |-;clear d;have d:=kzh M.e;have y:=f.kept M.kp M.rd;have q:=kzk y.e;have bG:=wQ y.e;have bJ:=wQ M.e;rw[ku E4]at s A K;simp only at s A K;have a5:=y.k3.snoc (r:=⟨k.1,P.1,G.1,Bd.1⟩) (qo aj a1) (a0.mono aj) (qo aj aL)<|aK.mono aj;clear a1 a0 aK aL M E1 E2 E3 E4;go_region_law ((refine apL (news:=(ji k.1++[Value.slice pa pn pc,Value.pointer q7,Value.slice ba bn bc])) ((y.o3.alloc _).drew) (Xk w9 _) ?_;intro gg cap bN B p a2 aV;have r:=kzk<|y.xjl y.o3 p))
    all_goals
     have O:=y.xwd p B a5;clear B p a2 a5;go_wp21;refine zM (kjg nX O.rd) ?_;rintro aH ⟨H,U⟩;have HM:=oz<|qyn f.rd H z K A;have a8:vyu w (.slice va vl vc) L (kyq L) (.bool<|zk L nX Bd.2) aH:=
      ⟨l++[⟨k.1,P.1,G.1,Bd.1⟩],Bd.2,g,_,x0,x1,x2,_,y1,_,rfl,O.kept U H,λh=>by rw[h]at s;exact⟨s,qvy F z a3 A⟩,λh=>by rw[h]at s;exact s,vzs z J K A⟩
     clear H U s;go_wp2;exact⟨a8,HM⟩
   case' true=>
    rw[qwp,z]at t;simp only[Xw]at t;rw[z]at c;have HF:=oz t;clear t
  all_goals
   have aR:(l,j)=kyq L:=HF;go_wp21;refine zM (kjg nK f.rd) ?_;rintro bO ⟨b8,aP⟩;have bK:vyg w (.slice va vl vc) L (.bool<|zk L nK j) bO:=
    ⟨[],j,kq2 L,x0,x1,x2,x,_,y1,ys,[],rfl,by rw[<-aR];exact f.kept aP b8,by unfold kwh;rw[<-aR],by unfold kq2;omega,jG⟩
   clear aR b8 aP f HF c;go_wp21;go_loopw [10] (λm wr=>vyg w (.slice va vl vc) L m wr) (λ_ wr=>L.length-kk4 wr w.heap.size);exact bK;clear F aB aC aN J;obtain⟨l,j,g,x0,x1,x2,x3,x,y1,y3,ys,rfl,f,(aA:Hid _),a3,J⟩:=hrel;have F:=f.rd.lt;have bP:=f.rd.T;have aB:=wQ f.rd.rd;have aC:=wQ f.e;have cE:=f.be.size;have ⟨c0,c1,c2,c3,f0,f1,f2,f3⟩:=row4 f.rd.rd;obtain⟨g,rfl⟩:=qqy g;cases hn:zk L nK j
   ·have hF:=ku aA;rw[qze,hn]at hF;simp only[ru,Xv]at hF;have b3:=oz hF.symm;clear hF aA;have ⟨gb,cap,hv,hg,bY,bW,t0,t1,t2⟩:=f.rd.open;cases hv;have HE:=oz (show(uz L).2=if j.s||!((tk L j.v).t.toList==nG) then some (tk L j.v).v else none by unfold uz;simp only;rw[ku b3]);generalize tk L j.v=tt at t0 t1 t2 HE;cases bB:j.s
    ·rw[bB]at c3 HE;cases bC:(tt.t.toList==nG)
     ·rw[bC]at HE;go_wp2;go_quiet (fail)
      go_wp2;go_ret2;exact⟨below_drewN f.be _,.inl ⟨_,HE,rfl⟩⟩
     ·rw[bC]at HE;go_wp2;go_ret2;refine⟨f.be,.inr ⟨HE,_,aj,rfl,?_⟩⟩;unfold uz;simp only;rw[ku b3];exact⟨x0,x1,x2,x3,x,y1,y3,ys,f.e,f.o0,⟨f.o1,f.k1⟩,f.o2,⟨f.o3,f.k3⟩,f.o4,f.k4⟩
    ·rw[bB]at c3 HE;go_wp2;go_quiet (fail)
     go_wp2;go_ret2;exact⟨below_drewN f.be _,.inl ⟨_,HE,rfl⟩⟩
   ·have hF:=ku aA;rw[qze,lJ hn]at hF;have s:=oz hF;clear hF aA;have A:=zzs hn;go_wp21;refine zM (kq1 nK f.it.rd) ?_;rintro w3 ⟨Y,I⟩;have H3:=f.it.call I Y;clear Y I c0 c1 c2 c3 f0 f1 f2 f3;go_wp21;refine zM (kxu mX H3.rd rfl) ?_;rintro w4 ⟨h4,a6⟩;have H4:=H3.call a6 h4;have d:=kzh H4.e;clear h4 a6 H3;generalize hk:zq L mX (qg L nK j)=k at H4 |-;have E1:=oz (show zjb L j=k from hk);have P4:=((H4.set 0<|.string k.1.t).set 1<|.string k.1.x).set 2<|i_ k.1.v;clear hk;unfold kxt;go_wp21
    refine(jqe P4.rd).mono ?_;rintro e w5 ⟨vp,rfl,D,h5,a7,a9⟩;have N:=P4.call a7 h5;have R:=qo (lo':=wr.heap.size+1) (wQ P4.e) D;obtain⟨pa,pn,pc,rfl⟩:=qh D;clear D h5 a7 H4 P4 a9 d;have d:=kzh N.e;generalize hP:kj0 L k.2=P at N R;have E2:=oz (show qwn L j=P from by unfold qwn;rw[ku E1];exact hP);have P5:=N.set 3<|.slice pa pn pc;clear hP;go_wp21
    refine(qvu P5.rd hD).mono ?_;rintro e w7 ⟨q7,rfl,X,h7,C⟩;have E:=P5.call C h7;have a4:=xg (N.st C) R;have Q:=X.mono (lo':=wr.heap.size+1)<|wQ P5.e;obtain⟨q7,rfl⟩:=X.ptr;clear X h7 C N P5 R d;have d:=kzh E.e;generalize hG:rX (kqb L) 0 .nil L P.2=G at E Q;have E3:=oz (show qvz L j=G from by unfold qvz;rw[ku E2];exact hG);have P7:=E.set 4<|.pointer q7;clear hG;go_wp21
    refine zM (kq1 [59] P7.rd) ?_;rintro w9 ⟨h9,aE⟩;have M:=P7.call aE h9;have a1:=xg (E.st aE) a4;have a0:=Q.stay<|E.st aE;clear h9 aE E P7 a4 Q d;have d:=kzh M.e;have y:=f.kept M.kp M.rd;have q:=kzk y.e;have bG:=wQ y.e;have bJ:=wQ M.e;rw[show kzw L j=(⟨k.1,P.1,G.1,.nil⟩,qg L [59] G.2) from by unfold kzw;rw[ku E1,ku E2,ku E3]]at s A;simp only at s A;have a5:=y.k4.snoc (r:=⟨k.1,P.1,G.1,.nil⟩) (ps:=[]) (qo aj a1) (a0.mono aj) (oN) rfl;clear a1 a0 M E1 E2 E3;go_wp21
    go_region_law ((refine apL (news:=(ji k.1++[Value.slice pa pn pc,Value.pointer q7,nS])) ((y.o4.alloc _).drew) (Xk w9 _) ?_;intro gg cap bN B p a2 aV;have r:=kzk<|y.xjl y.o4 p))
    all_goals
     have O:=y.xwc p B a5 a2;clear B p a2 a5;go_wp21;refine zM (kjg nK O.rd) ?_;rintro aH ⟨H,U⟩;have HM:=oz (show L.length-kk4 aH w.heap.size<L.length-kk4 wr w.heap.size by rw[H.kk4,f.rd.kk4];have:=H.lt;omega);have a8:vyg w (.slice va vl vc) L (.bool<|zk L nK (qg L [59] G.2)) aH:=
      ⟨l++[⟨k.1,P.1,G.1,.nil⟩],qg L [59] G.2,g,x0,x1,x2,x3,_,y1,y3,_,rfl,O.kept U H,ku s,aj,by rw[rD];simp;omega⟩
     clear H U;go_wp2;exact⟨a8,HM⟩
def qw0(s:ByteArray):Int×Int:=
 if 800<s.size then (1,0) else match (jv s).2 with
  |some k=>(2,k)
  |none=>match (uz (jv s).1).2 with
   |some k=>(3,k)
   |none=>zyo (uz (jv s).1).1
theorem jz9(s:ByteArray):qq4 s=qw0 s:=by grind [qq4,qw0,pje,kyh]
structure RefOk (t:PTree):Prop where
 ok:TreeOk t
 fit:TreeFit t
 l:t.l.length<=801
 q:t.q.length<=801
 pars:∀r∈t.l++t.q,r.u.length<=801/\(yu r.guard).length<=10000/\(uo r.S).length<=10000/\qqk r.S/\kvt r.S<=1000
 j:∀s∈t.j,zz9 s.size
 tops:∀v∈t.z,(v.R.t.toList==mW)=true->zz9 v.R
 glob:(jc t).length<=90000
 gd:∀r∈t.l++t.q,isNil r.guard=false/\XOk r.guard/\SOk r.S/\∀p∈r.u,p.Q.x.size<=800
theorem pw7(l:kq6 L)(h:(uz L).2=none):RefOk (uz L).1:=by
 have g:=tree_good l h;have s:=kxk l g;generalize (uz L).1=t at g s;have j:∀r∈t.l++t.q,kvw r:=λr e=>by
  obtain e|e:=rV.1 e
  ·exact g.l r e
  ·exact(g.q r e).1
 refine⟨⟨s.j,s.p,s.z,s.i⟩,⟨?_,?_⟩,s.l,s.q,?_,g.j,?_,?_,?_⟩
 ·intro k f;exact(s.nm _<|kwy f (rZ ..)).2
 ·intro v hv;have i:=g.z v hv;constructor
  ·obtain⟨_,h1|h1|h1⟩:=i
   ·have⟨a,b,c⟩:=h1;have:v.k.x.size=v.k.x.toList.length:=by rw[yj];simp
    simp_all
   ·have⟨a,b,c,d⟩:=h1;have:v.k.x.size=v.k.x.toList.length:=by rw[yj];simp
    simp_all
   ·refine(s.nm _<|qqm hv ?_).2;unfold kxi kyv;simp_all
  ·exact(zyc s hv i).1
 ·intro r e;have⟨x,b,m,_⟩:=j r e;have⟨q,w,e3⟩:=vjp<|s.all r e;exact⟨q,aj,aj,b.slen,aj⟩
 ·intro v hv f;obtain⟨_,h1|h1|h1⟩:=g.z v hv
  ·rw[h1.2.2,dh]at f;cases f
  ·simp_all
  ·rw[h1.2,dh]at f;cases f
 ·have:=(qy6 t).length_le;have:=g.nms.le;have:=l.T;omega
 ·intro r e;have⟨x,b,m,_⟩:=j r e;exact⟨x.some,x.ok,b.sok,λp u=>(s.nm _<|kxv e (zy8 u).2).2⟩
def qvd(s:ByteArray)(w:World)(e:Ending)(w':World):Prop:=
 oq w w'/\((¬(qw0 s).1=0/\rT e (.tuple #[.pointer none,i_ (qw0 s).1,i_ (qw0 s).2])) \/
  ((qw0 s).1=0/\(qw0 s).2=0/\∃T,w.heap.size<=T/\rT e (.tuple #[pT T,i_ 0,i_ 0])/\kqc w' T (uz (jv s).1).1))
def zy0(t:PTree)(r:PRule):Bool:=((kq5 t r.u r.guard).toList==nY)&&kzi t r.u r.S
theorem vqp(t:PTree):qw8 t=(t.l++t.q).all (zy0 t):=rfl
theorem vjh(s:ByteArray)(w:World):Calls prog 36 #[.string s] w λe w'=>qvd s w e w':=by
 by_cases aQ:800<s.size
 ·have I:qw0 s=(1,0):=by unfold qw0;simp_all
  have p:=oz I;clear I;go_wp2;go_ret3;unfold qvd;rw[ku p];simp_all [Below.refl]
 ·have a9:s.size<=800:=by omega
  have I:qw0 s=match (jv s).2 with|some k=>(2,(k:Int))|none=>match (uz (jv s).1).2 with|some k=>(3,(k:Int))|none=>zyo (uz (jv s).1).1:=by unfold qw0;grind
  have p:=oz I;clear I;go_in;go_wp21;refine(pv9 s w a9).mono ?_;rintro e w1 ⟨B,hp⟩;have aP:=B.size;obtain⟨a6,v,rfl,hv⟩|⟨k,Z,rfl⟩:=hp
  ·rw[a6]at p;have J:=kyh a9 a6;have HV:=qo jG hv;obtain⟨va,vl,vc,rfl⟩:=qh hv;go_wp21;refine(pv4 HV J.pos J.T J.jz4<|λi hi Y=>zq7 J hi Y).mono ?_;rintro e w2 ⟨a4,hp⟩;have a0:=B.trans<|a4.mono aP;have aT:=a4.size;obtain⟨k,Z,rfl⟩|⟨Q,T,hT,rfl,aA⟩:=hp
   ·rw[Z]at p;go_wp2;go_ret3;unfold qvd;rw[ku p];exact⟨a0,.inl ⟨ay,rfl⟩⟩
   ·rw[Q]at p;have d:=pw7 J Q;have⟨t,ht⟩:=cpy<|(uz (jv s).1).1;rw[<-ht]at p d aA;have⟨aJ,a3,h⟩:=jF ht aA (show zyo t=if 0<=kk7 t then (4,kk7 t) else if 0<=xu (qq0 t) (qxo t) then (5,xu (qq0 t)<|qxo t) else if qw8 t then (0,0) else (6,0) from rfl);clear ht;go_wp21
    refine zM (vqf a3 d.ok d.l d.q (λr hr=>(d.pars r hr).1) d.j d.tops) λw3 K=>?_;have a1:=a0.trans<|K.mono aj;have D:=a3.below K;have aU:=K.size;generalize kk7 t=P at h |-;by_cases hP:0<=P
    ·rw[lJ hP]at h;go_wp2;go_ret3;unfold qvd;rw[ku p];simp only[ku h];exact⟨a1,.inl ⟨ak,rfl⟩⟩
    ·rw[Xy hP]at h;go_wp21;refine zM (pxd D d.ok d.l d.q (λr hr=>(d.pars r hr).1) d.glob) λw4 L=>?_;have aE:=a1.trans<|L.mono aj;have E:=D.below L;have aV:=L.size;generalize qq0 t=G at h |-;go_wp21
     refine zM (pkl E d.ok d.l d.q d.pars) λw5 M=>?_;have a2:=aE.trans<|M.mono aj;have H:=E.below M;have aW:=M.size;generalize qxo t=U at h |-;go_wp21
     refine zM first_any ?_;rintro w6 rfl;generalize xu G U=F at h |-;by_cases hF:0<=F
     ·rw[lJ hF]at h;go_wp2;go_ret3;unfold qvd;rw[ku p];simp only[ku h];exact⟨a2,.inl ⟨ak,rfl⟩⟩
     ·rw[Xy hF,vqp]at h;go_wp21;refine(qk3 H d.l d.q).mono ?_;rintro e S ⟨rv,rs,rfl,aD,aI,N⟩;have C:=a2.trans<|N.mono aj;have z:=H.below N;have aX:=N.size;obtain⟨ra,rc,rfl,(aL:Hid _)⟩:=kq8 aD;have aR:(t.l++t.q).length<=1602:=by have:=d.l;have:=d.q;grind
      have aH:=vkg.start (W:=S) (wr:=S) (f:=zy0 t) (items:=t.l++t.q)<|bR;have⟨aF,aG⟩:=jS d.gd d.pars;generalize t.l++t.q=V at *;go_wp21
      go_loopw [10,11,12] (λi _ _ wr=>vkg S (zy0 t) V i wr) (λi _ _ _=>V.length-(intOf i).toNat);exact aH;obtain⟨k,Z,rfl,y,j⟩:=hrel;have aS:=j.size;by_cases x:k<V.length
      ·obtain⟨g,rfl,q⟩:=ku aL k x;have⟨vp,vg,vb,qs,⟨f0,f1,f2,f3,f4,f5⟩,A,O,a5,R⟩:=qji k x aI;have e0:=wU j<|(q (k*6) aj).trans f0;have e1:=wU j<|(q (k*6+1) aj).trans f1;have e2:=wU j<|(q (k*6+2) aj).trans f2;have e3:=wU j<|(q (k*6+3) aj).trans f3;have e4:=wU j<|(q (k*6+4) aj).trans f4;have e5:=wU j<|(q (k*6+5) aj).trans f5;have g0:=(q (k*6) aj).trans f0;have g1:=(q (k*6+1) aj).trans f1;have X:=(q (k*6+2) aj).trans f2;have g3:=(q (k*6+3) aj).trans f3;have g4:=(q (k*6+4) aj).trans f4;have g5:=(q (k*6+5) aj).trans f5;have u:=oz<|jzp x y;have⟨y1,y2,y3,y4⟩:=ku aF _<|wZ x;have⟨z1,z2,z3,z4,z5⟩:=ku aG _<|wZ x;have a7:=jg.T R;generalize V[k]=r at e0 e1 e2 g0 g1 X A O R y1 y2 y3 y4 z1 z2 z3 z4 z5 u a7;obtain⟨ma,ml,mc,rfl⟩:=qh A;obtain⟨gp,rfl⟩:=O.ptr;obtain⟨ba,bn,bc,rfl⟩:=qh a5;have aK:=qjx r.guard wr.drew T (T+1) (T+1) t r.y r.u ma ml mc gp ba bn bc (.pointer gp) y1 y2 (z.below j.drew) d.ok d.fit y4 (qj A j.drew) z1<|O.below j.drew;have aN:=oz (λ(w9:World)(h9:oq S w9)=>pkw r.S w9 T (T+1) (T+1) t r.y r.u ma ml mc gp ba bn bc (.slice ba bn bc) qs y3 (z.below h9) d.ok d.fit y4 (qj A h9) z1 (qj a5 h9) (R.below h9) aj);have a8:zy0 t r=(((kq5 t r.u r.guard).toList==nY)&&kzi t r.u r.S):=rfl;rw[a8]at u;generalize kq5 t r.u r.guard=ty at *;generalize kzi t r.u r.S=wl at *;unfold qk4 at *;clear q f0 f1 f2 f3 f4 f5 y1 y4 z1 z2 z3 z5 a7 a8 y;go_wp21
       go_region_held3 (λw'=>w'.cell? (Ad g (k*6))=some (.string r.y.t)/\w'.cell? (Ad g (k*6+1))=some (.string r.y.x)/\w'.cell? (Ad g (k*6+2))=some (i_ r.y.v)/\w'.cell? (Ad g (k*6+3))=some (.slice ma ml mc)/\w'.cell? (Ad g (k*6+4))=some (.pointer gp)/\w'.cell? (Ad g (k*6+5))=some (.slice ba bn bc))
        (first|simp_all|simp_all)
        ((go_at_call 67;refine zM aK λw9 aO=>?_;have m:=j.drew.trans (aO.mono<|by simp_all);have n0:=wU m g0;have n1:=wU m g1;have n2:=wU m X;have n3:=wU m g3;have n4:=wU m g4;have n5:=wU m g5 ))
       have aM:=aN w9.drew m.drew;clear e0 e1 e2 e3 e4 e5;go_wp21;go_region_held3 (λw'=>w'.cell? (Ad g (k*6))=some (.string r.y.t)/\w'.cell? (Ad g (k*6+1))=some (.string r.y.x)/\w'.cell? (Ad g (k*6+2))=some (i_ r.y.v)/\w'.cell? (Ad g (k*6+3))=some (.slice ma ml mc)/\w'.cell? (Ad g (k*6+4))=some (.pointer gp)/\w'.cell? (Ad g (k*6+5))=some (.slice ba bn bc))
        (first|simp_all|simp_all)
        ((go_at_call 68;refine zM aM λaY aC=>?_;have l:=m.drew.trans (aC.mono<|by simpa using m.size);have p0:=wU l g0;have p1:=wU l g1;have p2:=wU l X;have p3:=wU l g3;have p4:=wU l g4;have p5:=wU l g5 ))
       clear n0 n1 n2 n3 n4 n5 p0 p1 p2 p3 p4 p5 g0 g1 X g3 g4 g5;cases aB:(ty.toList==nY)
       ·rw[aB]at u;go_wp2;go_ret3;unfold qvd;rw[ku p,ku h,ku u];exact⟨C.trans<|l.mono aj,.inl ⟨ay,rfl⟩⟩
       ·rw[aB]at u;cases wl
        ·go_wp2;go_ret3;unfold qvd;rw[ku p,ku h,ku u];exact⟨C.trans<|l.mono aj,.inl ⟨ay,rfl⟩⟩
        ·go_wp2;exact rdM ⟨k+1,aj,eu,by rw[ku u];rfl,l⟩
      ·have Y:=jzd x y;rw[Y]at h;clear Y y;go_wp2;go_ret3;unfold qvd;rw[<-ku aJ,ku p,ku h];exact⟨C.trans<|j.mono aj,.inr ⟨rfl,rfl,T,aj,rfl,z.below j⟩⟩
  ·rw[Z]at p;go_wp2;go_ret3;unfold qvd;rw[ku p];exact⟨B,.inl ⟨ay,rfl⟩⟩
theorem xyu(s:ByteArray)(w:World):Calls prog 48 #[.string s] w λe w'=>rT e (.tuple #[i_ (qw0 s).1,i_ (qw0 s).2])/\oq w w':=by
 go_in;go_wp21;refine(vjh s w).mono ?_;rintro e l ⟨f,⟨d,rfl⟩|⟨d,(i:Hid _),T,k,rfl,j⟩⟩
 ·have g:=oz f;clear d;go_wp2;go_ret2;exact⟨rfl,g⟩
 ·have⟨g,h⟩:=jS f d;clear d;go_wp2;go_ret2;rw[ku h,ku i];exact⟨rfl,g⟩
theorem kwl{a5:Func}{a9 b6 b7 b8:Tmp}(h:a5.results=#[.tmp a9,.tmp b6,.tmp b7,.tmp b8]){b9:Program}:(results a5 cs).run b9 w=.ok (.tuple #[cs.getD a9 undef,cs.getD b6 undef,cs.getD b7 undef,cs.getD b8 undef]) w:=by simp[results,h]
def pjc(s:ByteArray)(most:Int)(r:Int×Bool×Nat×Nat):Prop:=
 (¬(qw0 s).1=0/\r=((qw0 s).1,false,0,0))\/((qw0 s).1=0/\(most<1\/500<most)/\r=(8,false,0,0)) \/
  ((qw0 s).1=0/\∃n:Nat,most=n/\1<=n/\n<=500/\PlOk (uz (jv s).1).1/\vyw (uz (jv s).1).1/\jyf (kzv (uz (jv s).1).1)/\∃S0,kkb (uz (jv s).1).1 (uz (jv s).1).1.z S0/\vj4 (uz (jv s).1).1 n S0=some r)
abbrev xqo(X g d j k:Nat)(sv u:Value)(x:RIn)(vp vg vb va:Value)(w:World):Prop:=w.cell? ⟨X,2,none⟩=some sv/\w.cell? ⟨g,j,none⟩=some u/\w.cell? ⟨d,k*8,none⟩=some (.string x.r.y.t)/\w.cell? ⟨d,k*8+1,none⟩=some (.string x.r.y.x)/\w.cell? ⟨d,k*8+2,none⟩=some (.int .i64 x.r.y.v)/\w.cell? ⟨d,k*8+3,none⟩=some vp/\w.cell? ⟨d,k*8+4,none⟩=some vg/\w.cell? ⟨d,k*8+5,none⟩=some vb/\w.cell? ⟨d,k*8+6,none⟩=some va/\w.cell? ⟨d,k*8+7,none⟩=some (.string (riT x))
theorem xqo.below(h:xqo B z gg j k x0 x1 x x2 x3 x4 a1 w)(h1:B<w.heap.size)(d:z<w.heap.size)(f:gg<w.heap.size)(hb:oq w u4):xqo B z gg j k x0 x1 x x2 x3 x4 a1 u4:=by
 have⟨a,b,c0,c1,c2,c3,c4,c5,c6,c7⟩:=h;have q:∀{i:Nat}{v:Value},Ce w gg i v->Ce u4 gg i v:=λ{i v} e=>(hb.cell (p:=⟨gg,i,none⟩) f).trans e
 exact⟨(hb.cell (p:=⟨B,2,none⟩) h1).trans a,(hb.cell (p:=⟨z,j,none⟩) d).trans b,q c0,q c1,q c2,q c3,q c4,q c5,q c6,q c7⟩
theorem vzi(w:World)(hm:-9223372036854775808<=g6/\g6<=9223372036854775807){g7:Int×Bool×Nat×Nat}(hr:pjc s g6 g7):Calls prog 45 #[.string s,i_ g6] w λe w'=>rT e (.tuple #[i_ g7.1,.bool g7.2.1,i_ g7.2.2.1,i_ g7.2.2.2])/\oq w w':=by
 have bX:=oz<|vjh s w;go_in
 go_wp21;refine bX.mono ?_;rintro e w1 ⟨b6,K⟩;have dK:=b6.size;have aH:=oz b6;clear b6 bX;obtain⟨c1,c2,hc⟩:∃c1 c2,qw0 s=(c1,c2):=⟨_,_,rfl⟩;unfold pjc at hr;rw[hc]at hr K;dsimp only at hr K;obtain⟨aO,rfl⟩|⟨rfl,rfl,T,hT,rfl,aQ⟩:=K
 ·have hE:g7=(c1,false,0,0):=by
   obtain⟨_,h⟩|⟨h,_⟩|⟨h,_⟩:=hr
   ·exact h
   ·exact absurd h aO
   ·exact absurd h aO
  subst hE;have eB:(c1 != 0)=true:=by simp[aO]
  clear hr aO;go_wp2;exact tK (kwl rfl) rfl ⟨rfl,aH⟩
 ·obtain⟨h,_⟩|⟨_,a4,rfl⟩|⟨_,n,rfl,eD,eE,C,dN,aR,S0,a7,bH⟩:=hr
  ·exact absurd rfl h
  ·by_cases bB:g6<1
   case' pos=>clear a4
   case' neg=>have eC:(500:Int)<g6:=aj
   all_goals
    clear aQ;go_wp2;exact tK (kwl rfl) rfl ⟨rfl,aH⟩
  ·have h1:¬((n:Int)<1):=by omega
   have h2:¬((500:Int)<n):=aj;have bZ:=oz aQ;generalize (uz (jv s).1).1=t at *;have cC:=oz<|px8 aQ dN;clear aQ hc;go_wp21
   refine cC.mono ?_;rintro e B ⟨wv,rfl,bL,cM⟩;obtain⟨wa,wc,rfl,_⟩:=bL.get;have⟨cB,a6⟩:=jS bL cM;clear bL cM cC;obtain⟨W,hW⟩:∃W,W=B.alloc (.cells #[pT T,.slice wa (kzv t).length wc,nS,nS,nS] 188):=⟨_,rfl⟩;have aL:oq B W:=by rw[hW];exact jZ B
   have bC:Rw W B.heap.size #[pT T,.slice wa (kzv t).length wc,nS,nS,nS] 188:=kK;have dM:W.heap.size=B.heap.size+1:=by rw[hW];simp
   have A:Hid (qka B.heap.size B.heap.size T (kzv t) ⟨[],[],[]⟩ (.slice wa (kzv t).length wc) nS nS nS W):=⟨jV,bC,by have⟨a,m,c,cs,e,g1,g2⟩:=cB.below aL;exact⟨a,m,c,cs,e,qo jG g1,g2⟩,⟨[],jT,rfl,λk hk=>by simp at hk⟩,jT,jT,λk hk=>by cases hk⟩
   have cA:=oz hW.symm;have a3:=bZ.below a6;have⟨a2,aY⟩:=jS a3 (jk1 (a3.below aL) C.ok C.fit a7);have b5:ky4 S0:=by refine⟨by rw[a7.T];have:=C.ok.z;omega,λy hy=>?_⟩;obtain⟨k,hk,rfl⟩:=wG hy;have⟨m,hm,e⟩:=a7.get k (by rw[<-a7.T];exact hk);rw[wW hk]at e;injection e with e;rw[e,Qh];have:=hm.bd;omega
   unfold vj4 at bH;have⟨x1,bM,cW⟩:=wu.1 bH;have b4:SnB ⟨[],[],[]⟩:=⟨rfl,jV,ay,λS hS=>by cases hS⟩;have dF:=(xxy bM b4 b5).1;have⟨P,d9⟩:=jS (λ(wx:World) (hx:oq W wx) (v:Value) (gs:List (Nat×Nat)) (hv:StA 0 wx v S0 gs)=>vze a3 C.ok C.fit aR (aL.trans<|hx.mono aj) (A.below hx) b4 hv b5 bM) cW;clear hW bC a3 b5 bH bM cW b4 cB a7 A;go_wp21;rw[ku cA];refine aY.mono ?_;rintro e w3 ⟨x3,dE,rfl,aE,cN⟩;have bY:=oz<|P w3 cN x3 dE (aE.mono<|jG);obtain⟨eO,eQ,rfl,_⟩:=qp aE.out;clear aY P aE cN cA aL;go_wp21
   refine zM bY ?_;rintro w4 ⟨⟨sv,tv,ov,bF⟩,_,aK⟩;have dL:=aK.size;have aZ:=oz<|a2.below aK;have⟨ra,rc,ys,q3,cX,cV,eA⟩:=aZ.rul;have⟨aV,aW,bQ⟩:=jF (jjc aZ C.ok cX cV (λx hx=>C.pars x<|jU hx) C.l) bF aK;clear bY cX cV bF aK;go_wp21
   refine aV.mono ?_;rintro e w5 ⟨lv,rfl,b8,Y⟩;have⟨M,O,U⟩:=jF b8 (aW.below Y) (bQ.trans (Y.mono dL));have⟨eJ,bB,_⟩:=b8;obtain⟨la,lc,rfl,_⟩:=qp bB;clear aV q3 aW bQ Y bB;have e8:=qjp (t:=t) (rs:=t.l) (λx hx=>C.pars x<|jU hx);have M:=oz (show OwnIn 0 w5 (.slice la (kq4 t t.l).length lc) (kq4 t t.l) from by have⟨cs,g1,g2⟩:=ku M;exact⟨cs,qo jG g1,g2⟩)
   have aD:=oz (λ(wx:World)(hx:oq B wx)=>aH.trans<|(a6.trans<|hx.mono a6.size).mono dK);have eG:=a6.size;obtain⟨X,hX⟩:∃X,X=B.heap.size:=⟨_,rfl⟩;have O:Hid (qka B.heap.size X T (kzv t) x1 (.slice wa (kzv t).length wc) sv tv ov w5):=by rw[hX];exact O
   rw[<-hX];have e0:B.heap.size<=X:=aj;have e9:=C.l;clear hX dM bZ aH a6 aZ;go_wp21;go_loopw [13,14,15,16,17,18,19,20,21,22] (λfr kn rd _ _ _ _ _ _ _ wr=>∃(rr f kw:Nat)(x:SnR)(sv tv ov:Value),fr=i_ f/\kn=i_ kw/\rd=i_ rr/\rr<=502/\zwt t n (502-rr) rr f kw x=some g7/\qka B.heap.size X T (kzv t) x (.slice wa (kzv t).length wc) sv tv ov wr/\SnB x/\f<=x.F.length/\OwnIn 0 wr (.slice la (kq4 t t.l).length lc) (kq4 t t.l)/\oq B wr) (λ_ _ rd _ _ _ _ _ _ _ _=>503-(intOf rd).toNat);exact⟨0,0,0,x1,_,_,_,rfl,rfl,rfl,aj,d9,O,dF,jG,M,U⟩;obtain⟨wo,dT⟩:∃wo,wo=wr:=⟨_,rfl⟩;subst dT;obtain⟨rr,f,kw,x,sv,tv,ov,rfl,rfl,rfl,eF,l,p,aS,cQ,F,hb⟩:=hrel;obtain⟨m,hm⟩:∃m,502-rr=m+1:=by
    cases hq:502-rr with
    |zero=>rw[hq,zwt]at l;cases l
    |succ m=>exact⟨m,rfl⟩
   rw[hm,zwt]at l;have⟨cs,G,L⟩:=p.F;obtain⟨sa,sc,rfl,_⟩:=qp G;obtain⟨ta,tc,rfl,_⟩:=qp p.txs;obtain⟨oa,oc,rfl,_⟩:=qp p.L;have⟨c0,c1,c2,c3,c4,_⟩:=kzk p.e;have aJ:=wQ p.e;have⟨A,E,I⟩:=jF p F hb;have eH:=aS.R;have dV:=aS.L;have V:=oz aS;clear p F hb aS G L;by_cases a4:n<x.L.length
   case pos=>
    rw[lJ a4]at l;injection l with l;subst l;have bP:((n:Int)<x.L.length):=aj;go_wp2
    exact tK (kwl rfl) rfl ⟨rfl,aD _ I⟩
   case neg=>
   rw[Xy a4]at l;have⟨b,aM,l⟩:=wu.1 l;have bP:¬((n:Int)<x.L.length):=aj;have⟨aT,N⟩:=jS aM l;clear aM l;go_wp21;go_loopw [17,18] (λi _ R=>∃j:Nat,j<=x.F.length/\i=i_ j/\zwv t (x.F.drop j)=some b/\qka B.heap.size X T (kzv t) x (.slice wa (kzv t).length wc) (.slice sa x.F.length sc) (.slice ta x.txs.length tc) (.slice oa x.L.length oc) R/\OwnIn 0 R (.slice la (kq4 t t.l).length lc) (kq4 t t.l)/\oq B R) (λi _ _=>x.F.length-(intOf i).toNat);exact⟨f,cQ,rfl,aT,A,E,I⟩;clear c0 c1 c2 c3 c4 aT A E I;obtain⟨R,dS⟩:∃R,R=wr:=⟨_,rfl⟩;subst dS;obtain⟨j,hj,rfl,J,p,F,hb⟩:=hrel;have⟨c0,c1,c2,c3,c4,_⟩:=kzk p.e;have aJ:=wQ p.e;have⟨A,E,I⟩:=jF p F hb;have dO:=hb.size;by_cases Z:j<x.F.length
   case pos=>
    rw[rU Z,zwv]at J;have⟨v,hv,J⟩:=wu.1 J;have⟨cs,G,b7,L⟩:=p.F;have⟨u,gs,e1,D⟩:=L j Z;have⟨_,_,e2,aB⟩:=qp G;injection e2 with e2 e3 e4;subst e2;subst e4;clear e3;obtain⟨g,rfl,_,hg,a8⟩:=aB j Z;have cu:=(a8 j aj).trans e1;have⟨bS,a0⟩:=jS (pyg (a2.below hb) C D (V.rows _<|wZ Z) hv) J;obtain⟨ua,uc,rfl,_⟩:=qp D.out;clear G b7 L D aB a8 J hv p F hb e1;go_wp21
    refine zM bS λwn aN=>?_;have⟨aX,bT,d1⟩:=jF (A.below aN) (I.trans (aN.mono dO)) (E.tk (yt aN none qw7));clear bS aN c0 c1 c2 c3 c4 A E I cu;have⟨c0,c1,c2,c3,c4,_⟩:=kzk aX.e;cases cP:jxu v
    case true=>
     have aA:=ku a0;rw[cP,lJ rfl]at aA;injection aA with aA;have aP:=ku N;rw[<-aA,lJ rfl]at aP;injection aP with aP;subst aP;clear N a0 aA;go_wp2
     go_region
     go_wp2;exact tK (kwl rfl) rfl ⟨rfl,aD _ bT.drew⟩
    case false=>
    have cY:=oz (by have:=ku a0;rw[cP,Xy ay]at this;exact this:zwv t (x.F.drop<|j+1)=some b);clear a0;go_wp2;exact rdM ⟨j+1,aj,eu,cY,aX,d1,bT⟩
   case neg=>
   rw[JG aj,zwv]at J;injection J with J;subst J;have l:=ku N;rw[Xy ay]at l;clear N p F hb;by_cases b9:x.L.length=kw
   case pos=>
    rw[lJ (by simpa using b9)]at l;injection l with l;subst l;subst b9;go_wp2
    go_region
    go_wp2;exact tK (kwl rfl) rfl ⟨rfl,aD _ I.drew⟩
   case neg=>
   rw[Xy (by simpa using b9)]at l;have⟨y,hy,l⟩:=wu.1 l;have⟨HY,N⟩:=jS hy l;have e5:((x.L.length:Int)==kw)=false:=by rw[QG];omega
   clear hy l;go_wp21;go_loopw [19,20,21,22] (λi _ _ _ R=>∃(j:Nat)(x':SnR)(sv tv ov:Value),j<=x.F.length/\i=i_ j/\zwj t n (x.F.length-j) j x'=some y/\qka B.heap.size X T (kzv t) x' (.slice wa (kzv t).length wc) sv tv ov R/\SnB x'/\(∃q,x'.F=x.F++q)/\OwnIn 0 R (.slice la (kq4 t t.l).length lc) (kq4 t t.l)/\oq B R) (λi _ _ _ _=>x.F.length-(intOf i).toNat);exact⟨f,x,_,_,_,cQ,rfl,HY,A,V,⟨[],(Qs _).symm⟩,E,I⟩;clear c0 c1 c2 c3 c4 A E I HY;obtain⟨wk,aR⟩:∃wk,wk=wr:=⟨_,rfl⟩;subst aR;obtain⟨j,x',sv,tv,ov,hj,rfl,H,p,aG,⟨q,hq⟩,F,hb⟩:=hrel;have⟨cs,G,L⟩:=p.F;obtain⟨eM,eP,rfl,_⟩:=qp G;obtain⟨eR,eS,rfl,_⟩:=qp p.txs;obtain⟨eK,eL,rfl,_⟩:=qp p.L;have⟨c0,c1,c2,c3,c4,_⟩:=kzk p.e;have aJ:=wQ p.e;have dV:=aG.L;have⟨A,E,I,V,HQ⟩:=jz p F hb aG (⟨q,hq⟩:∃q,x'.F=x.F++q);have d4:x.F.length<=x'.F.length:=by rw[hq,rD];omega
   have K:(j<x.F.length/\x'.L.length<=n/\∃S x2,x'.F[j]?=some S/\qjf t S (kq4 t t.l) x'=some x2/\zwj t n (x.F.length-(j+1)) (j+1) x2=some y)\/(¬(j<x.F.length/\x'.L.length<=n)/\x'=y):=by
    cases hd:x.F.length-j with
    |zero=>rw[hd,zwj]at H;exact .inr ⟨aj,by injection H⟩
    |succ d=>
     rw[hd,zwj]at H;split at H
     ·have⟨S,s1,H⟩:=wu.1 H;have⟨x2,s2,H⟩:=wu.1 H;exact .inl ⟨aj,by assumption,S,x2,s1,s2,by rw[show x.F.length-(j+1)=d by omega];exact H⟩
     ·exact .inr ⟨aj,by injection H⟩
   clear p F hb aG G L H;rcases K with⟨Z,dI,S,x2,hS,D,cU⟩|⟨dJ,rfl⟩
   case inr=>
    have cZ:=oz (show zwt t n (502-(rr+1)) (rr+1) x.F.length x.L.length x'=some g7 from by rw[show 502-(rr+1)=m by omega];exact N);by_cases Z:j<x.F.length
    case' pos=>have dI:¬((x'.L.length:Int)<=n):=aj
    all_goals
     clear hq dJ;go_wp2;exact rdM ⟨rr+1,x.F.length,x.L.length,x',_,_,_,rfl,rfl,eu,aj,cZ,A,V,d4,E,I⟩
   case inl=>
   have e6:(x'.L.length:Int)<=n:=aj;have⟨d6,Q,HS⟩:=jF cU D hS;clear cU D hq hS;go_wp21;go_loopw [20,21,22] (λkk _ _ wq=>∃(k:Nat)(z:SnR)(sv tv ov:Value),k<=(kq4 t t.l).length/\kk=i_ k/\qjf t S ((kq4 t t.l).drop k) z=some x2/\qka B.heap.size X T (kzv t) z (.slice wa (kzv t).length wc) sv tv ov wq/\SnB z/\(∃q,z.F=x'.F++q)/\OwnIn 0 wq (.slice la (kq4 t t.l).length lc) (kq4 t t.l)/\oq B wq) (λkk _ _ _=>(kq4 t t.l).length-(intOf kk).toNat);exact⟨0,x',_,_,_,jG,rfl,Q,A,V,⟨[],(Qs _).symm⟩,E,I⟩;clear c0 c1 c2 c3 c4 A E I Q V;obtain⟨wq,dU⟩:∃wq,wq=wr:=⟨_,rfl⟩;subst dU;obtain⟨k,z,sv,tv,ov,hk,rfl,D,p,aC,a9,F,hb⟩:=hrel;have⟨A,E,I,aI,bV⟩:=jz p F hb aC a9;have dQ:=hb.size;by_cases bA:k<(kq4 t t.l).length
   case neg=>
    rw[JG aj,qjf]at D;injection D with D;subst D;have d7:=oz (show ∃q',z.F=x.F++q' from by have⟨q2,e2⟩:=a9;have⟨q1,e1⟩:=ku HQ;exact⟨q1++q2,by rw[e2,e1,sZ]⟩)
    clear p F hb aC a9;go_wp2;exact rdM ⟨j+1,z,_,_,_,aj,eu,d6,A,aI,d7,E,I⟩
   case pos=>
   rw[rU bA,qjf]at D;have⟨⟨q1,S2⟩,aF,D⟩:=wu.1 D;have bO:z.F[j]?=some S:=by have⟨q2,e2⟩:=a9;rw[e2,ZV (rY.1 (ku HS)).1];exact HS
   have⟨cT,cS⟩:=rY.1 bO;have⟨cs,G,b7,L⟩:=p.F;have⟨u,gs,e1,a5⟩:=L j cT;rw[cS]at a5;obtain⟨eN,dX,rfl,aB⟩:=qp G;obtain⟨g,rfl,_,hg,a8⟩:=aB j cT;have cu:=(a8 j aj).trans e1;have⟨c0,c1,c2,c3,c4,_⟩:=kzk p.e;have aJ:=wQ p.e;have bD:=aC.rows S<|wB bO;have⟨gl,yc,vp,vg,vb,aa,ac,ey,dH,⟨cD,cE,cF,cG,cH,cI,cJ,cK⟩,cR⟩:=F.get bA;injection ey with dB dC dD;subst dB;have⟨bU,bW,Q⟩:=jF (jjd (a2.below hb.drew) C.ok C.tops (a5.below bR.drew) bD (cR.below bR.drew) (C.insts _<|jU (wZ bA)) aF) (bD.pqg (vqt aF)) D;obtain⟨ua,uc,rfl,_⟩:=qp a5.out;have eI:=aC.R;have b2:=oz (show xqo X g gl j k _ _ _ _ _ _ _ wq from⟨c2,cu,cD,cE,cF,cG,cH,cI,cJ,cK⟩);clear dC dD cR aF D bO cS G b7 L e1 a5 aB a8 bD p F hb aC a9 c0 c1 c3 c4;generalize (kq4 t t.l)[k]=ix at *;go_wp21
   go_region_held3 (xqo X g gl j k (sL g z.F.length dX) (.slice ua S.length uc) ix vp vg vb<|.slice aa ix.ms.length ac) (first|exact b2|exact b3)
    (first|(go_at_call 71;refine bU.mono ?_;rintro e w5 ⟨yv,e7,rfl,bJ,Y⟩;have U:=oz<|(Below.refl wq.heap.size wq).drew.trans Y;have⟨b3,a1⟩:=jS (b2.below aJ hg dH U) bJ;clear bJ Y;dsimp only))
   clear c2 cu cD cE cF cG cH cI cJ cK b2 b3 bU;have⟨O,M,aU⟩:=jF (A.below U) (E.tk (yt U none qw7)) (I.trans (U.mono dQ));cases h1:(q1==1)
   case false=>
    have HF:=oz (show qjf t S ((kq4 t t.l).drop<|k+1) z=some x2 from by have:=ku Q;rw[h1]at this;exact this);clear Q a1;go_wp2;exact rdM ⟨k+1,z,_,_,_,aj,eu,HF,O,aI,bV,M,aU⟩
   case true=>
   have⟨z2,bN,bI⟩:=wu.1 (show(vjk t z S2).bind (λx'=>qjf t S ((kq4 t t.l).drop<|k+1) x')=some x2 from by have:=ku Q;rw[h1]at this;exact this);have⟨cL,q3,e3⟩:=xxy bN aI bW;have d8:=oz (show ∃q,z2.F=x'.F++q from by have⟨q2,e2⟩:=ku bV;exact⟨q2++q3,by rw[e3,e2,sZ]⟩)
   have⟨P,dA,d3⟩:=jF (vze a2 C.ok C.fit aR aU O aI (a1.mono<|jG) bW bN) bI cL;obtain⟨ya,yd,rfl,_⟩:=qp (ku a1).out;clear bN bI cL e3 Q a1;go_wp21;refine zM P ?_;rintro w6 ⟨⟨dY,dZ,dW,bG⟩,bK,cO⟩;have⟨d0,d2,d5⟩:=jF (M.tk bK) bG cO;clear bG bK cO P;go_wp2;exact rdM ⟨k+1,z2,dY,dZ,dW,aj,eu,dA,d2,d3,d8,d0,d5⟩
def xk5(s:ByteArray)(ts:List ByteArray)(r:vyp):Prop:=
 (qw0 s).1=0/\PlOk (uz (jv s).1).1/\∃S0,kkb (uz (jv s).1).1 (uz (jv s).1).1.z S0/\qvn (uz (jv s).1).1 ts 0 S0=some r
theorem vx1{g8:List ByteArray}{g9:Option Addr}(pn pc:Nat)(hn:g8.length=pn)(N:jzh w g9 g8)(H:g8.length<=1000000){i2:vyp}(Q:xk5 s g8 i2):Calls prog 46 #[.string s,.slice g9 pn pc] w λe w'=>qyv w i2 e w':=by
 subst hn;have⟨W,g⟩:=cpy<|w.alloc (.cells #[e_,nS,nS,nS,.bool false] 24);have z:oq w W:=by rw[g];exact jZ w
 have t:w.heap.size<W.heap.size:=by rw[g];simp
 have M:Hid (W.heap[w.heap.size]?=some (.cells #[e_,nS,nS,nS,.bool false] 24 (0,0))):=by rw[g];exact qy
 have⟨C,L⟩:=jS g.symm N;have B:=vjh s W;clear g;go_in;go_wp21;rw[ku C];refine B.mono ?_;rintro e R ⟨m,i⟩;have⟨E,G,S,D,q⟩:=Q;obtain⟨F,_⟩|⟨_,_,T,U,rfl,I⟩:=i
 ·exact absurd E F
 have f:oq w R:=z.trans<|m.mono (Qr t);have l:=oz<|(m.block w.heap.size t).trans M;have x:=wQ l;have A:=pxq I G g8.length pc rfl (L.below f<|jV) H D q;have u:=f.size;clear q E;go_wp21
 refine A.mono ?_;rintro e X ⟨h,en,ec,wa,k,j,ba,bn,bc,rfl,P,p⟩;have y:=f.trans<|p.mono u;have d:=oz<|(p.block w.heap.size x).trans l;have V:=jl d;have O:=wQ d;have K:=pq5 d (bad:=[24]) ak (.string i2.1.x) (.slice h en ec) (.slice wa k j) (.slice ba bn bc)<|.bool i2.2.1;have J:=show qyv w i2 (.returned<|.tuple #[.agg #[.string i2.1.x,.slice h en ec,.slice wa k j,.slice ba bn bc,.bool i2.2.1],i_ i2.2.2.1,i_ i2.2.2.2]) _ from⟨h,en,ec,wa,k,j,ba,bn,bc,rfl,P.tk K u,qq6 y⟩
 go_wp2;exact tK (v:=.tuple #[.agg #[.string i2.1.x,.slice h en ec,.slice wa k j,.slice ba bn bc,.bool i2.2.1],i_ i2.2.2.1,i_ i2.2.2.2]) (kqn results46 _ _ w.heap.size _ _ _ _ rfl (kxy d) underlying24 rfl au) rfl J
def xyh(s:ByteArray)(ts:List ByteArray)(r:vyp):Prop:=
 (¬(qw0 s).1=0/\r=(noView,false,(qw0 s).1,(qw0 s).2))\/((qw0 s).1=0/\60<ts.length/\r=(noView,false,8,0)) \/
  ((qw0 s).1=0/\¬60<ts.length/\PlOk (uz (jv s).1).1/\∃S0,kkb (uz (jv s).1).1 (uz (jv s).1).1.z S0/\qvn (uz (jv s).1).1 ts 0 S0=some r)
theorem xyl(s:ByteArray)(w:World)(ts:List ByteArray)(pa:Option Addr)(pn pc:Nat)(hn:ts.length=pn)(I:jzh w pa ts)(r:vyp)(B:xyh s ts r):Calls prog 12 #[.string s,.slice pa pn pc] w λe w'=>qyv w r e w':=by
 subst hn;have⟨W,z⟩:=cpy<|w.alloc (.cells #[e_,nS,nS,nS,.bool false] 24);have C:oq w W:=by rw[z];exact jZ w
 have t:w.heap.size<W.heap.size:=by simp_all
 have J:W.heap[w.heap.size]?=some (.cells #[e_,nS,nS,nS,.bool false] 24 (0,0)):=by rw[z];exact qy
 go_in;go_wp21;rw[(oz z.symm)];refine(vjh s W).mono ?_;rintro e H ⟨p,g⟩;have f:oq w H:=C.trans<|p.mono (Qr t);have d:=(p.block w.heap.size t).trans J;have O:=jl d;have P:∀(x y:Int),qyv w (noView,false,x,y) (.returned<|.tuple #[.agg #[e_,nS,nS,nS,.bool false],i_ x,i_ y]) (((((H.setCell (Ad w.heap.size 0)<|e_).setCell (Ad w.heap.size 1)<|nS).setCell (Ad w.heap.size 2)<|nS).setCell (Ad w.heap.size 3)<|nS).setCell (Ad w.heap.size 4)<|.bool false):=λx y=>
  ⟨none,0,0,none,0,0,none,0,0,rfl,Vw3.no,qq6 f⟩
 obtain⟨c1,c2,M⟩:∃c1 c2,qw0 s=(c1,c2):=⟨_,_,rfl⟩;unfold xyh at B;rw[M]at B g;obtain⟨Q,rfl⟩|⟨rfl,rfl,T,S,rfl,G⟩:=g
 ·have L:r=(noView,false,c1,c2):=by simp_all
  subst L;go_wp2;refine tK (v:=.tuple #[.agg #[e_,nS,nS,nS,.bool false],i_ c1,i_ c2]) (kqn results12 _ _ w.heap.size _ _ _ _ rfl (kxy d) underlying24 rfl au) rfl ?_;simp_all
 ·obtain⟨h,_⟩|⟨_,A,rfl⟩|⟨_,A,F,R,D,E⟩:=B
  ·omega
  ·have k:(60:Int)<ts.length:=by omega
   go_wp2;refine tK (v:=.tuple #[.agg #[e_,nS,nS,nS,.bool false],i_ 8,i_ 0]) (kqn results12 _ _ w.heap.size _ _ _ _ rfl (kxy d) underlying24 rfl au) rfl ?_;simp_all
  ·have k:¬(60:Int)<ts.length:=by omega
   have u:=f.size;go_wp21;refine(pxq G F ts.length pc rfl (I.below f<|jV) aj D E).mono ?_;rintro e U ⟨j,en,ec,wa,m,l,ba,bn,bc,rfl,N,q⟩;have i:=(q.block w.heap.size<|wQ d).trans d;have O:=jl i;have K:=pq5 i (bad:=[24]) ak (.string r.1.x) (.slice j en ec) (.slice wa m l) (.slice ba bn bc)<|.bool r.2.1;go_wp2
   exact tK (v:=.tuple #[.agg #[.string r.1.x,.slice j en ec,.slice wa m l,.slice ba bn bc,.bool r.2.1],i_ r.2.2.1,i_ r.2.2.2]) (kqn results12 _ _ w.heap.size _ _ _ _ rfl (kxy i) underlying24 rfl au) rfl<|(⟨j,en,ec,wa,m,l,ba,bn,bc,rfl,N.tk K u,qq6<|f.trans (q.mono u)⟩:qyv w r (.returned<|.tuple #[.agg #[.string r.1.x,.slice j en ec,.slice wa m l,.slice ba bn bc,.bool r.2.1],i_ r.2.2.1,i_ r.2.2.2]) _)
section
structure VIn (ksz ssz:List UInt8->Nat)(B:Nat)(ty:VT)(x:Int):Prop where
 tru:ty.b=1->x=0\/x=1
 xx:ty.b=2->-(B:Int)<=x/\x<=B
 kin:ty.b=3->0<=x/\x<ksz ty.y.toList
 set:ty.b=4->0<=x/\x<=ssz ty.y.toList
 non:ty.b=5->x=0
 b:ty.b=1\/ty.b=2\/ty.b=3\/ty.b=4\/ty.b=5
structure MvOk (tab:Tab)(ksz ssz:List UInt8->Nat)(size:Nat)(v:MVar)(d:VrT):Prop where
 fit:v.f+v.d<=size
 cnt:v.d=if d.K then ssz d.g.x.toList else 1
 pos:1<=v.d
 few:v.a.length<=200
 tru:(kqm tab d.si).b=1->v.a.length=2
 kin:(kqm tab d.si).b=3->v.a.length=ksz (kqm tab d.si).y.toList
 set:(kqm tab d.si).b=4->v.a.length=ssz (kqm tab d.si).y.toList+1
structure EnvOk (tab:Tab)(vars:List MVar)(mt:kq3)(ksz ssz:List UInt8->Nat)(size:Nat):Prop where
 mem:∀s,(zl tab s).V=3->(kjw mt s).isVar=false/\(kjw mt s).xx<ksz (zl tab s).t.toList
 var:∀s,(zl tab s).V=4->(kjw mt s).isVar=true/\∃v,vars[(kjw mt s).xx]?=some v/\MvOk tab ksz ssz size v (zl tab s).var
 K:∀s,(zl tab s).var.K=true->(zl tab s).V=4
 kb:∀s,ksz s<=1000
 sb:∀s,ssz s<=1000
 size:size<=1000
structure yg (vars:List MVar)(size:Nat)(st:List Int):Prop where
 T:st.length=size
 val:∀v∈vars,∀j,j<v.d->∃x,st[v.f+j]?=some x/\0<=x/\x<v.a.length
structure ParOk (ssz:List UInt8->Nat)(l:List PP)(ms:List Int):Prop where
 T:ms.length=l.length
 val:∀i (hi:i<l.length) (hm:i<ms.length),0<=ms[i]/\ms[i]<ssz l[i].Q.x.toList
theorem kw1(h1:-1000000000<=g6)(d:g6<=1000000000):small g6=some g6:=by grind [small]
theorem pys:∀(l:List PP)(s:List UInt8),fpB l s=true->∃h:qw2 l s<l.length,l[qw2 l s]=fpP l s
 |[],s,h=>by simp[fpB]at h
 |p::l,s,h=>by
  cases e:(p.y.x.toList==s)
  ·have d:fpB l s=true:=by grind [fpB]
   have⟨f,g⟩:=pys l s d;grind [qw2,fpP]
  grind [qw2,fpP]
theorem xkc(tab:Tab)(x:SiT):(kqm tab x).b=1\/(kqm tab x).b=2\/(kqm tab x).b=3\/(kqm tab x).b=4:=by grind [kqm]
theorem xxr(h:MvOk tab ksz ssz size i3 d)(f:0<=g6)(h1:g6<i3.a.length):VIn ksz ssz 200 (kqm tab d.si) g6:=by
 have g:=h.few;refine⟨λe=>?_,λe=>aj,λe=>?_,λe=>?_,λe=>?_,?_⟩
 ·have:=h.tru e;omega
 ·have:=h.kin e;omega
 ·have:=h.set e;omega
 ·grind [xkc]
 grind [xkc]
theorem VIn.mono(h:VIn ksz ssz B ty g6)(hb:B<=j):VIn ksz ssz j ty g6:=
 ⟨h.tru,λe=>by have:=h.xx e;omega,h.kin,h.set,h.non,h.b⟩
theorem VIn.small(h:VIn ksz ssz B ty g6)(d:∀s,ksz s<=1000)(f:∀s,ssz s<=1000)(hb:B<=1000000):-1000000<=g6/\g6<=1000000:=by
 obtain e|e|e|e|e:=h.b
 ·have:=h.tru e;omega
 ·have:=h.xx e;omega
 ·have:=h.kin e;grind
 ·have:=h.set e;grind
 ·have:=h.non e;omega
variable {tab:Tab} {vars:List MVar} {mt:kq3} {ksz ssz:List UInt8->Nat} {size:Nat} {l:List PP} {ms st:List Int}
theorem jww(i:EnvOk tab vars mt ksz ssz size)(k:ParOk ssz l ms)(t:yg vars size st)(n:Tok)(u:(kjf tab l n).b≠0):∃x,jwy vars mt l ms st n.x.toList=some x/\VIn ksz ssz 200 (kjf tab l n) x:=by
 cases j:fpB l n.x.toList
 ·cases g:((zl tab n.x.toList).V==3)
  ·cases h:((zl tab n.x.toList).V==4&&!(zl tab n.x.toList).var.K)
   ·exact absurd (by unfold kjf;rw[j,g,h];rfl) u
   ·have d:kjf tab l n=kqm tab (zl tab n.x.toList).var.si:=by unfold kjf;simp_all
    rw[rG,su,QD]at h;have⟨hv,v,z,f⟩:=i.var _ h.1;have⟨x,w,p,h1⟩:=t.val v (by grind) 0 (by have:=f.pos;omega);rw[Qk]at w;have q:=f.few;grind [xxr,jwy,kw1]
  ·have d:kjf tab l n=⟨3,(zl tab n.x.toList).t⟩:=by unfold kjf;simp_all
   rw[su]at g;have⟨hv,A⟩:=i.mem _ g;refine⟨(kjw mt n.x.toList).xx,by unfold jwy;simp_all,?_⟩;rw[d];exact⟨λe=>iy,λe=>iy,(by simp_all),λe=>iy,λe=>iy,ay⟩
 ·have d:kjf tab l n=⟨4,(fpP l n.x.toList).Q.x⟩:=by unfold kjf;simp_all
  have⟨m,y⟩:=pys l _ j;have s:qw2 l n.x.toList<ms.length:=by rw[k.T];exact m
  have⟨p,h1⟩:=k.val _ m s;rw[y]at h1;have hb:=i.sb (fpP l n.x.toList).Q.x.toList;refine⟨ms[qw2 l n.x.toList]+1,?_,?_⟩
  ·grind [jwy,kw1]
  ·rw[d];exact⟨λe=>iy,λe=>iy,λe=>iy,(by grind),λe=>iy,ay⟩
theorem xqp(f:EnvOk tab vars mt ksz ssz size)(q:ParOk ssz l ms)(t:yg vars size st)(hv:MvOk tab ksz ssz size i3 d)(i:Tok)(hi:(i.t.toList==[])=false->d.K=true/\qy5 tab l i d.g=true):∃j w,atO vars mt l ms st i3 i=some ((i3.f:Int)+(j:Nat),w)/\j<i3.d:=by
 unfold atO;have m:=hv.fit;have u:=f.size;cases p:(i.t.toList==[])
 ·have⟨h,e⟩:=hi p;rw[Xy ay];unfold qy5 at e;rw[rG,su,su]at e;have⟨x,h1,g⟩:=jww f q t i aj;have s:=g.set e.1;rw[e.2]at s;have k:=hv.cnt;rw[h,lJ rfl]at k;rw[h1];show ∃j w,(if x==0 then some ((i3.f:Int),true) else (small x).bind λ_=>(small i3.f).map λ_=>((i3.f:Int)+x-1,false))=some ((i3.f:Int)+(j:Nat),w)/\j<i3.d;cases y:(x==0)
  ·have v:x≠0:=by simp_all
   refine⟨x.toNat-1,false,?_,aj⟩;grind [kw1]
  ·exact⟨0,true,ay,hv.pos⟩
 ·exact⟨0,false,ay,hv.pos⟩
theorem pwv(f:EnvOk tab vars mt ksz ssz size)(q:ParOk ssz l ms)(m:yg vars size st)(n i:Tok)(g:(kxj tab l n i).b≠0):∃r,jql vars mt l ms st n i=some r/\VIn ksz ssz 200 (kxj tab l n i) r.1:=by
 cases k:(i.t.toList==[])
 ·cases e:(zl tab n.x.toList).var.K
  ·exact absurd (by unfold kxj;rw[k,e];rfl) g
  ·cases t:qy5 tab l i (zl tab n.x.toList).var.g
   ·exact absurd (by unfold kxj;rw[k,e,t];rfl) g
   ·have h:kxj tab l n i=kqm tab (zl tab n.x.toList).var.si:=by unfold kxj;simp_all
    have⟨_,v,s,d⟩:=f.var _<|f.K _ e;have⟨j,w,h1,p⟩:=xqp f q m d i (λ_=>⟨e,t⟩);have⟨x,A,u,y⟩:=m.val v (by grind) j p;have z:=d.few;refine⟨(x,w),?_,by rw[h];exact xxr d u y⟩;unfold jql;rw[k,Xy ay,s];show(atO vars mt l ms st v i).bind _=_;grind [kw1]
 ·have h:kxj tab l n i=kjf tab l n:=by unfold kxj;simp_all
  rw[h]at g |-;have⟨x,h1,p⟩:=jww f q m n g;simp_all [jql]
def zxs:PX->Prop
 |.nil=>True
 |.node _ _ x a c=>((opN x.op.toList==3)=true->0<=x.n/\x.n<=9)/\zxs a/\zxs c
theorem xjv(ksz ssz:List UInt8->Nat)(B:Nat)(c:Bool):VIn ksz ssz B ⟨1,⟨#[]⟩⟩ (kvq c):=
 ⟨λ_=>by cases c;exact .inl rfl;exact .inr rfl,λe=>iy,λe=>iy,λe=>iy,λe=>iy,.inl rfl⟩
theorem zx7(h:(kjc g6 c).b≠0):c=true/\kjc g6 c=⟨g6,⟨#[]⟩⟩:=by
 unfold kjc at h |-;cases c
 ·exact absurd rfl h
 simp
theorem xki(o:List UInt8):0<=opN o:=by unfold opN;omega
theorem vk5(h:(zji g6 i4 y).b≠0):i4.b≠0/\y.b≠0/\((g6==6||g6==7)=true->(i4.b=1/\y.b=1)/\zji g6 i4 y=⟨1,⟨#[]⟩⟩)/\((g6==6||g6==7)=false->(g6==11||g6==12)=true->(i4.b=2/\y.b=2)/\zji g6 i4 y=⟨2,⟨#[]⟩⟩)/\((g6==6||g6==7)=false->(g6==11||g6==12)=false->zji g6 i4 y=⟨1,⟨#[]⟩⟩):=by grind [zji,zx7,zvq,kwx]
theorem val_ok(f:EnvOk tab vars mt ksz ssz size)(B:ParOk ssz l ms)(C:yg vars size st):∀(x:PX),qj4 x->zxs x->isNil x=false->kk5 x<=4000->(gy tab l x).b≠0->∃r,qqv vars mt l ms st x=some r/\VIn ksz ssz (200*kk5 x) (gy tab l x) r.1
 |.nil,_,_,hn,_,_=>by cases hn
 |.node i j x a c,hx,hnum,hn,hsz,ht=>by
  have⟨⟨t,L⟩,E,F⟩:=hx;have⟨G,H,I⟩:=hnum;have O:kk5 (.node i j x a c)=kk5 a+kk5 c+1:=rfl;rw[O]at hsz |-;have u:=val_ok f B C a E H;have M:=val_ok f B C c F I;rw[gy]at ht |-;rw[qqv];have Q:=xki x.op.toList;generalize opN x.op.toList=o at *;cases d:(o==0)
  ·cases h1:(o==1)
   ·cases g:(o==2)
    ·cases s:(o==3)
     ·cases y:(o==4)
      ·cases N:(o==5)
       ·
        have h:6<=o:=by grind
        simp only[d,h1,g,s,y,N,QX,Qg,Zv,Xy (show ¬false=true by simp)]at ht |-;have⟨ga,gc,k1,k2,k3⟩:=vk5 ht;have⟨p,R,k⟩:=u (t aj) aj ga;have⟨q,S,m⟩:=M (L h) aj gc;have sp:=k.small f.kb f.sb aj;have V:=m.small f.kb f.sb aj;refine⟨(kxa o p.1 q.1,p.2||q.2),?_,?_⟩
        ·grind [kw1]
        ·show VIn ksz ssz (200*(kk5 a+kk5 c+1)) (zji o (gy tab l a)<|gy tab l c) (kxa o p.1 q.1);cases z:(o==6||o==7)
         ·cases D:(o==11||o==12)
          ·grind [kxa,xjv]
          ·have⟨⟨v,w⟩,e3⟩:=k2 z D;rw[e3];have b1:=k.xx v;have b2:=m.xx w;rw[Qi]at z;have T:kxa o p.1 q.1=p.1+q.1\/kxa o p.1 q.1=p.1-q.1:=by grind [kxa]
           refine⟨λe=>iy,λ_=>?_,λe=>iy,λe=>iy,λe=>iy,.inr<|.inl rfl⟩;omega
         ·have⟨⟨v,w⟩,e3⟩:=k1 z;rw[e3];have b1:=k.tru v;have b2:=m.tru w;refine⟨λ_=>?_,λe=>iy,λe=>iy,λe=>iy,λe=>iy,.inl rfl⟩;grind [kxa]
       ·
        have h:o=5:=by simp_all
        subst h;simp only[d,h1,g,s,y,QX,Qg,Zv,Xy (show ¬false=true by simp),lJ rfl,beq_self_eq_true]at ht |-;have⟨A,P⟩:=zx7 ht;rw[P];rw[su]at A;have⟨r,J,K⟩:=u (t ak) aj (by rw[A];decide);have:=K.tru A;rw[J];refine⟨(1-r.1,r.2),?_,⟨aj,λe=>iy,λe=>iy,λe=>iy,λe=>iy,.inl rfl⟩⟩;grind [kw1]
      ·simp only[d,h1,g,s,y,QX,Qg,Zv,Xy (show ¬false=true by simp),lJ rfl]at ht |-;have⟨r,h1,g⟩:=pwv f B C x.y x.c ht;exact⟨r,h1,g.mono aj⟩
     ·simp only[d,h1,g,QX,Qg,Zv,Xy (show ¬false=true by simp),lJ rfl]at ht |-;have⟨n0,U⟩:=G s;exact⟨_,rfl,⟨λe=>iy,aj,λe=>iy,λe=>iy,λe=>iy,.inr<|.inl rfl⟩⟩
    ·have h:o=2:=by simp_all
     subst h;simp only[d,h1,QX,Qg,Zv,Xy (show ¬false=true by simp),lJ rfl,beq_self_eq_true,show((2:Int)==3)=false from rfl,Js]at ht |-;exact⟨_,rfl,⟨λe=>iy,λe=>iy,λe=>iy,λe=>iy,λ_=>rfl,ay⟩⟩
   ·simp only[d,h1,QX,Jg,Js,Xy (show ¬false=true by simp),lJ rfl]at ht |-;exact⟨_,rfl,⟨λ_=>.inl rfl,λe=>iy,λe=>iy,λe=>iy,λe=>iy,.inl rfl⟩⟩
  ·simp only[d,Jg,lJ rfl]at ht |-;exact⟨_,rfl,⟨λ_=>.inr rfl,λe=>iy,λe=>iy,λe=>iy,λe=>iy,.inl rfl⟩⟩
end
section
def qzm(vars:List MVar):Prop:=∀(i j:Nat)(u v:MVar),vars[i]?=some u->vars[j]?=some v->i≠j->u.f+u.d<=v.f\/v.f+v.d<=u.f
theorem yg.put(h:yg vars size i5)(l:qzm vars)(hv:vars[k]?=some i3)(w:j<i3.d)(v:0<=g6)(h1:g6<i3.a.length):yg vars size (i5.set (i3.f+j) g6):=by
 refine⟨by rw[Jq];exact h.T,λu g i hi=>?_⟩;have⟨y,x,s,t⟩:=h.val u g i hi;obtain⟨m,p,rfl⟩:=wG g;have d:vars[m]?=some vars[m]:=wW p;by_cases e:vars[m].f+i=i3.f+j
 ·by_cases f:m=k
  ·grind
  ·obtain q|q:=l m k _ _ d hv f<;>omega
 grind
def jze:PB->Prop
 |.nil=>True
 |.node _ _ a .nil n=>(zxs a.value/\kk5 a.value<=4000)/\jze n
 |.node _ _ a (.node _ _ _ t e) n=>(zxs a.A/\kk5 a.A<=4000)/\jze t/\jze e/\jze n
variable {tab:Tab} {vars:List MVar} {mt:kq3} {ksz ssz:List UInt8->Nat} {size:Nat} {l:List PP} {ms st:List Int}
theorem xz9:opN ng=4:=ak
theorem zk3(tab:Tab)(l:List PP)(h:i6.op.toList=ng):gy tab l (.node 0 0 i6 .nil .nil)=kxj tab l i6.y i6.c:=by rw[gy,h,xz9];rfl
theorem vjq{tab:Tab}{i7:List PP}{i9:PX}(h:jwd tab i7 i8 i9=true):(zl tab (qj9 i8).toList).V=4/\(gy tab i7 i8).b≠0/\(gy tab i7 i9).b≠0:=by grind [jwd,kwx]
theorem xqd(k:EnvOk tab vars mt ksz ssz size)(B:qzm vars)(x:ParOk ssz l ms)(g:yg vars size st)(v:i6.op.toList=ng)(C:qj4 i8)(hn:zxs i8)(m:isNil i8=false)(J:kk5 i8<=4000)(I:jwd tab l (.node 0 0 i6 .nil .nil) i8=true):∃r,vk9 vars mt l ms st i6.y i6.c i8=some r/\yg vars size r.1:=by
 have⟨H,d,z⟩:=vjq I;rw[zk3 tab l v]at d;have⟨p,y,K⟩:=val_ok k x g i8 C hn m J z;have⟨_,u,e,f⟩:=k.var _ H;have⟨j,w,s,t⟩:=xqp k x g f i6.c (λF=>by
  unfold kxj at d;rw[F]at d;cases i:(zl tab i6.y.x.toList).var.K
  ·rw[i]at d;exact absurd rfl d
  ·cases A:qy5 tab l i6.c (zl tab i6.y.x.toList).var.g
   ·rw[i,A]at d;exact absurd rfl d
   ·exact⟨i,A⟩)
 have E:=f.fit;have G:=g.T;have D:=f.few;unfold vk9;rw[y];show ∃r,((vars[(kjw mt i6.y.x.toList).xx]?).bind λi8=>(atO vars mt l ms st i8 i6.c).bind λq=>if p.1<0||p.1 >= (i8.a.length:Int) then some (st,true) else if p.1 > 255||q.1<0||q.1 >= (st.length:Int) then none else some (st.set q.1.toNat p.1,p.2||q.2))=some r/\yg vars size r.1;rw[show qj9 (.node 0 0 i6 .nil .nil)=i6.y.x from rfl]at e;rw[e];show ∃r,((atO vars mt l ms st u i6.c).bind λq=>if p.1<0||p.1 >= (u.a.length:Int) then some (st,true) else if p.1 > 255||q.1<0||q.1 >= (st.length:Int) then none else some (st.set q.1.toNat p.1,p.2||q.2))=some r/\yg vars size r.1;rw[s];show ∃r,(if p.1<0||p.1 >= (u.a.length:Int) then some (st,true) else if p.1 > 255||((u.f:Int)+(j:Nat))<0||((u.f:Int)+(j:Nat)) >= (st.length:Int) then none else some (st.set ((u.f:Int)+(j:Nat)).toNat p.1,p.2||w))=some r/\yg vars size r.1;by_cases L:p.1<0\/p.1 >= (u.a.length:Int)
 ·simp_all
 ·have h:0<=p.1/\p.1<(u.a.length:Int):=by omega
  rw[Xy (by simp_all),Xy (by grind)];refine⟨_,rfl,?_⟩;show yg vars size (st.set ((u.f:Int)+(j:Nat)).toNat p.1);rw[show((u.f:Int)+(j:Nat)).toNat=u.f+j by omega];exact g.put B e t h.1 h.2
theorem zwx(d:EnvOk tab vars mt ksz ssz size)(i:qzm vars)(f:ParOk ssz l ms):∀(b:PB),qzh b->jze b->kkj tab l b=true->∀st,yg vars size st->∃r,doO vars mt l ms b st=some r/\yg vars size r.1
 |.nil,_,_,_,st,hs=>⟨_,rfl,hs⟩
 |.node _ _ a .nil n,hf,hn,ht,st,hs=>by
  have⟨⟨h1,m,x,s,E⟩,g⟩:=hf;have⟨⟨n1,n2⟩,h⟩:=hn;rw[kkj,rG,s]at ht;have⟨p,M,B⟩:=xqd d i f hs E h1 n1 m n2 ht.1;have⟨q,k,j⟩:=zwx d i f n g h ht.2 p.1 B;refine⟨(q.1,p.2||q.2),?_,j⟩;rw[doO,s];show(vk9 vars mt l ms st x.y x.c a.value).bind _=_;simp_all
 |.node _ _ a (.node _ _ _ t e) n,hf,hn,ht,st,hs=>by
  have⟨⟨h1,m⟩,y,w,g⟩:=hf;have⟨⟨n1,n2⟩,A,z,h⟩:=hn;rw[kkj,rG,rG,rG,su]at ht;have⟨⟨⟨O,H⟩,I⟩,D⟩:=ht;have⟨c,u,J⟩:=val_ok d f hs a.A h1 n1 m n2 aj;have⟨G,N,C⟩:=zwx d i f t y A H st hs;have⟨F,L,v⟩:=zwx d i f e w z I st hs;rw[doO,u];show ∃r,((if c.1==1 then doO vars mt l ms t st else doO vars mt l ms e st).bind λp=>(doO vars mt l ms n p.1).map λq=>(q.1,c.2||p.2||q.2))=some r/\yg vars size r.1;cases K:(c.1==1)
  ·have⟨q,k,j⟩:=zwx d i f n g h D F.1 v;simp_all
  ·have⟨q,k,j⟩:=zwx d i f n g h D G.1 C;simp_all
structure StepFit (tab:Tab)(ssz:List UInt8->Nat)(s:MStep):Prop where
 par:ParOk ssz s.u s.xy
 xv:qj4 s.guard/\zxs s.guard/\isNil s.guard=false/\kk5 s.guard<=4000/\(gy tab s.u s.guard).b=1
 blk:qzh s.block/\jze s.block/\kkj tab s.u s.block=true
structure NevFit (tab:Tab)(ssz:List UInt8->Nat)(s:MNever):Prop where
 par:ParOk ssz s.u s.xy
 xv:qj4 s.xp/\zxs s.xp/\isNil s.xp=false/\kk5 s.xp<=4000/\(gy tab s.u s.xp).b=1
theorem pj4(e:EnvOk tab vars mt ksz ssz size)(i:qzm vars)(g:yg vars size st)(h:StepFit tab ssz j6):∃r,kwi vars mt j6.u j6.xy st j6.guard j6.block=some r/\(r.2=1->yg vars size r.1)/\(r.2=0\/r.2=1\/r.2=2):=by
 have⟨f1,f2,f3,f4,f5⟩:=h.xv;have⟨b1,b2,b3⟩:=h.blk;have⟨c,d,j⟩:=val_ok e h.par g j6.guard f1 f2 f3 f4 aj;have⟨p,f,l⟩:=zwx e i h.par j6.block b1 b2 b3 st g;unfold kwi;rw[d];show ∃r,((if c.1==1 then doO vars mt j6.u j6.xy j6.block st else some (st,false)).map λp=>if (c.2||p.2) then (([],2):List Int×Int) else if c.1==1 then (p.1,1) else ([],0))=some r/\_;cases k:(c.1==1)
 ·rw[Xy ay];refine⟨_,rfl,?_,?_⟩
  ·grind
  grind
 ·rw[lJ rfl,f];refine⟨_,rfl,?_,?_⟩
  ·grind
  grind
theorem xqx(d:EnvOk tab vars mt ksz ssz size)(e:yg vars size st){j7:MNever}(h:NevFit tab ssz j7):∃r,zwo vars mt j7.u j7.xy st j7.xp=some r:=by have⟨f1,f2,f3,f4,f5⟩:=h.xv;have⟨c,f,g⟩:=val_ok d h.par e j7.xp f1 f2 f3 f4 aj;unfold zwo;simp_all
end
section
structure MachGood (tab:Tab)(ksz ssz:List UInt8->Nat)(a:Mach):Prop where
 env:EnvOk tab a.z a.C ksz ssz a.size
 disj:qzm a.z
 fit:∀v∈a.z,(v.f+v.d<=a.size/\1<=v.d)/\v.d<=10
 txt:∀v∈a.z,v.a.length<=200/\∀t∈v.a,t.size<=800/\0<t.size
 one:0<a.z.length
 few:a.z.length<=10
 X:∀s∈a.X,StepFit tab ssz s
 q:∀s∈a.q,NevFit tab ssz s
 nodup:(a.X.map (·.x.toList)).Nodup
variable {tab:Tab} {ksz ssz:List UInt8->Nat} {a:Mach} {st:List Int}
def zkd(a:Mach)(st:List Int)(s:MStep):Option (List Int×Int):=kwi a.z a.C s.u s.xy st s.guard s.block
def qwh(a:Mach)(st:List Int)(s:MStep):Int:=match zkd a st s with|some r=>r.2|none=>0
theorem out_ok(h:MachGood tab ksz ssz a)(e:yg a.z a.size st)(d:j6∈a.X):∃r,zkd a st j6=some r/\qwh a st j6=r.2/\(r.2=1->yg a.z a.size r.1):=by have⟨r,h1,f,g⟩:=pj4 h.env h.disj e<|h.X j6 d;grind [zkd,qwh]
theorem xxs(h:MachGood tab ksz ssz a)(d:yg a.z a.size st):∀(l:List MStep),(∀s∈l,s∈a.X)->∀en wr,lkO a.z a.C st l en wr=some (en++(l.filter λs=>qwh a st s==1).map (·.x),wr++(l.filter λs=>!(qwh a st s==1)&&qwh a st s==2).map (·.x))
 |[],_,en,wr=>by rw[lkO];simp
 |s::l,hl,en,wr=>by have⟨r,h1,f,_⟩:=out_ok h d<|hl s (rZ ..);have g:=xxs h d l (λx e=>hl x<|jB e);rw[lkO,show kwi a.z a.C s.u s.xy st s.guard s.block=some r from h1];grind
theorem pyq(h:MachGood tab ksz ssz a)(d:yg a.z a.size st):∀(l:List MNever),(∀s∈l,s∈a.q)->∀br,∃r,lbO a.z a.C st l br=some r
 |[],_,br=>⟨br,rfl⟩
 |s::l,hl,br=>by
  have⟨c,f⟩:=xqx h.env d<|h.q s (hl s<|rZ ..);rw[lbO,f];show ∃r,(if c then lbO a.z a.C st l (br++[s.x]) else lbO a.z a.C st l br)=some r;cases c
  ·exact pyq h d l (λx e=>hl x<|jB e) br
  ·exact pyq h d l (λx e=>hl x<|jB e) (br++[s.x])
theorem pkf(hv:i3∈a.z)(e:yg a.z a.size st)(h:∀t∈i3.a,t.size<=800/\0<t.size)(j:Nat)(d:j<i3.d):∃t,zyl i3 st (i3.f+j)=some t/\t.size<=800/\0<t.size:=by have⟨x,h1,f,g⟩:=e.val i3 hv j d;simp_all [zyl]
theorem pw1(n:Nat):(kk9 n).length<=1:=by unfold kk9;grind
theorem jz7(t:ByteArray):t.data.toList.length=t.size:=ay
theorem xqb(hv:i3∈a.z)(e:yg a.z a.size st)(f:∀t∈i3.a,t.size<=800/\0<t.size)(d:i3.d<=1000):∀n,n<=i3.d->∃l,qvg i3 st n=some l/\l.length<=n*801
 |0,_=>⟨[],rfl,ay⟩
 |n+1,hn=>by have⟨l,h1,g⟩:=xqb hv e f d n aj;grind [pkf,kk9,jz7,qvg]
theorem xkq(h:MachGood tab ksz ssz a)(hv:i3∈a.z)(d:yg a.z a.size st):∃l,vq5 i3 st=some l/\l.length<=8020/\l≠[]:=by
 have⟨_,e⟩:=h.txt i3 hv;have⟨⟨g,j⟩,i⟩:=h.fit i3 hv;unfold vq5;cases m:(i3.g==-1)
 ·have⟨l,h1,f⟩:=xqb hv d e aj i3.d<|jV;grind [List.length_nil]
 ·have⟨t,h1,f,k⟩:=pkf hv d e 0 aj;rw[Qk]at h1;rw[lJ rfl,h1];show ∃l,(if t.size<=1000000 then some t.data.toList else none)=some l/\_;rw[lJ aj];grind [jz7]
theorem pku(h:MachGood tab ksz ssz a)(d:yg a.z a.size st):∀n,n<=a.z.length->∃l,zj7 a.z st n=some l/\l.length<=n*8021/\(0<n->l≠[])
 |0,_=>⟨[],rfl,ay,λh=>aj⟩
 |n+1,hn=>by
  have⟨l,h1,m,_⟩:=pku h d n aj;have s:a.z[n]?=some a.z[n]:=wW aj;have hv:a.z[n]∈a.z:=wZ _;have⟨t,p,q,f⟩:=xkq h hv d;have k:=pw1 n;have g:=h.few;have j:(l++kk9 n++t).length<=(n+1)*8021:=by grind
  have i:pkn a.z[n]=true:=by have⟨⟨v,w⟩,x⟩:=h.fit _ hv;have⟨y,_⟩:=h.txt _ hv;have u:=h.env.size;grind [pkn]
  refine⟨_,?_,j,λ_ e=>f (Qe.1 e).2⟩;rw[zj7,h1];grind
theorem vyi(h:MachGood tab ksz ssz a)(e:yg a.z a.size st):∃t,zqh a.z st=some t:=by have⟨l,h1,_,d⟩:=pku h e a.z.length<|jV;unfold zqh;rw[h1];show ∃t,(if l=[] then none else some l)=some t;rw[Xy (d h.one)];simp
theorem look_ok(h:MachGood tab ksz ssz a)(d:yg a.z a.size st):∃v,lookO a st=some v/\v.xn=(a.X.filter λs=>qwh a st s==1).map (·.x)/\v.xz=(a.X.filter λs=>!(qwh a st s==1)&&qwh a st s==2).map (·.x):=by have⟨t,h1⟩:=vyi h d;have f:=xxs h d a.X (λ_ e=>e) [] [];have⟨b,g⟩:=pyq h d a.q (λ_ e=>e) [];simp_all [lookO]
theorem xqg(h:MachGood tab ksz ssz a)(f:yg a.z a.size st):∀(l:List MStep),(∀s∈l,s∈a.X)->(l.map (·.x.toList)).Nodup->∀s∈l,∃r,qw3 a.z a.C st s.x.toList l=some r/\r.2=(qwh a st s==1)/\(r.2=true->yg a.z a.size r.1)
 |x::l,hl,hn,s,d=>by
  rw[Qm,QM]at hn;obtain rfl|d:=tZ.1 d
  ·have⟨r,h1,i,j⟩:=out_ok h f<|hl s (rZ ..);rw[qw3,lJ ay,show kwi a.z a.C s.u s.xy st s.guard s.block=some r from h1];simp_all
  ·have e:(x.x.toList==s.x.toList)=false:=by grind
   rw[qw3,e,Xy ay];exact xqg h f l (λy g=>hl y<|jB g) hn.2 s d
theorem xqy{e:kq3}:∀(l:List MStep),(∀s∈l,s.x.toList≠j9)->qw3 vars e st j9 l=some ([],false)
 |[],_=>rfl
 |x::l,h=>by rw[qw3,Xy (by simp_all)];exact xqy l λy d=>h y<|jB d
def qk2(a:Mach):List ByteArray->List Int->Option (List Int)
 |[],st=>some st
 |t::l,st=>(qw3 a.z a.C st t.toList a.X).bind λr=>if r.2 then qk2 a l r.1 else none
theorem vju(a:Mach)(t:ByteArray):∀(l:List ByteArray)(st st':List Int),qk2 a l st=some st'->qk2 a (l++[t]) st=(qw3 a.z a.C st' t.toList a.X).bind λr=>if r.2 then some r.1 else none
 |[],st,st',h=>by
  grind [qk2]
 |x::l,st,st',h=>by
  rw[qk2]at h;have⟨r,h1,d⟩:=wu.1 h;cases e:r.2
  ·simp_all
  ·rw[e,lJ rfl]at d;rw[QU,qk2,h1];show(if r.2 then qk2 a (l++[t]) r.1 else none)=_;rw[e,lJ rfl];exact vju a t l r.1 st' d
theorem vyb(h:MachGood tab ksz ssz a)(us:List ByteArray):∀(l:List ByteArray)(i:Nat)(st st':List Int),yg a.z a.size st->qk2 a l st=some st'->yg a.z a.size st'/\vq9 a (l++us) i st=vq9 a us (i+l.length) st'
 |[],i,st,st',hs,hr=>by
  grind [qk2]
 |t::l,i,st,st',hs,hr=>by
  rw[qk2]at hr;have⟨r,h1,d⟩:=wu.1 hr;cases hb:r.2
  ·simp_all
  ·rw[hb,lJ rfl]at d;have e:yg a.z a.size r.1:=by
    by_cases g:∃s∈a.X,s.x.toList=t.toList
    ·have⟨s,f,m⟩:=g;have⟨q,k1,k2,k3⟩:=xqg h hs a.X (λ_ j=>j) h.nodup s f;simp_all
    grind [xqy]
   have⟨k,v⟩:=vyb h us l (i+1) r.1 st' e d;refine⟨k,?_⟩;have u:=h.env.size;have p:=hs.T;grind [vq9]
end
section
structure kz5 (ssz:List UInt8->Nat)(τ:List UInt8->Int->Int):Prop where
 zero:∀s,τ s 0=-1
 rng:∀s (x:Int),0<x->x<=(ssz s:Int)->0<=τ s x/\τ s x<(ssz s:Int)
 inj:∀s (x y:Int),0<=x->x<=(ssz s:Int)->0<=y->y<=(ssz s:Int)->τ s x=τ s y->x=y
def ftT(τ:List UInt8->Int->Int)(ty:VT)(x:Int):Int:=if ty.b==4 then τ ty.y.toList x else if ty.b==5 then x-1 else x
def plX(τ:List UInt8->Int->Int)(arr:Bool)(s:List UInt8)(j:Nat):Nat:=if arr then (τ s ((j:Int)+1)).toNat else j
def msT(τ:List UInt8->Int->Int)(l:List PP)(ms:List Int):List Int:=List.zipWith (λp m=>τ p.Q.x.toList (m+1)) l ms
abbrev Tu:=Nat->(Nat->Nat)×(Int->Int)
structure RSame (t:PTree)(tab:Tab)(mt:kq3)(ssz:List UInt8->Nat)(tu:Tu)(τ:List UInt8->Int->Int):Prop where
 tau:kz5 ssz τ
 mem:∀s,(zl tab s).V=3->(kjj t.p s).2=(kjw mt s).xx
 var:∀s,(zl tab s).V=4->(kjj t.p s).2<0/\zx (zf t) s=(kjw mt s).xx/\tu (kjw mt s).xx=(plX τ (zl tab s).var.K (zl tab s).var.g.x.toList,ftT τ<|kqm tab (zl tab s).var.si)
def RSt(vars:List MVar)(tu:Tu)(S:List (List Int))(st:List Int):Prop:=
 S.length=vars.length/\∀k u,vars[k]?=some u->∃y,S[k]?=some y/\y.length=u.d/\∀j,j<u.d->∃x,st[u.f+j]?=some x/\y[(tu k).1 j]?=some ((tu k).2 x)
theorem kv7(h:ty.b=1\/ty.b=2\/ty.b=3)(x:Int):ftT τ ty x=x:=by grind [ftT]
theorem kvv(h:ty.b=4)(x:Int):ftT τ ty x=τ ty.y.toList x:=by unfold ftT;simp_all
theorem jyg(h:ty.b=5)(x:Int):ftT τ ty x=x-1:=by unfold ftT;simp_all
theorem jqs(h:kz5 ssz τ)(hn:n=if arr then ssz j9 else 1)(d:j<n):plX τ arr j9 j<n:=by
 cases arr
 ·exact d
 ·have hn:n=ssz j9:=hn;have:=h.rng j9 ((j:Int)+1) aj aj;show(τ j9<|(j:Int)+1).toNat<n;omega
theorem vvl(h:kz5 ssz τ)(hn:n=if arr then ssz j9 else 1)(hi:i<n)(d:j<n)(e:plX τ arr j9 i=plX τ arr j9 j):i=j:=by
 cases arr
 ·exact e
 ·have hn:n=ssz j9:=hn;have e:(τ j9<|(i:Int)+1).toNat=(τ j9<|(j:Int)+1).toNat:=e;have f:=h.rng j9 ((i:Int)+1) aj aj;have g:=h.rng j9 ((j:Int)+1) aj aj;have:=h.inj j9 ((i:Int)+1) ((j:Int)+1) aj aj aj aj aj;omega
def idτ(_:List UInt8)(x:Int):Int:=x-1
def shT(ty:VT):Int:=if ty.b==4||ty.b==5 then 1 else 0
theorem zjz:kz5 ssz idτ:=⟨λ_=>rfl,λs x h1 d=>by unfold idτ;omega,λs x y _ _ _ _ e=>by unfold idτ at e;omega⟩
theorem pj3(ty:VT)(x:Int):ftT idτ ty x=x-shT ty:=by grind [ftT,shT,idτ]
theorem pqk(j:Nat):plX idτ arr j9 j=j:=by
 cases arr
 ·rfl
 ·show((j:Int)+1-1).toNat=j;omega
theorem pqb:∀(l:List PP)(ms:List Int),ms.length=l.length->msT idτ l ms=ms
 |[],[],_=>rfl
 |p::l,m::ms,h=>by show(m+1-1)::msT idτ l ms=m::ms;rw[pqb l ms (by simp_all),show m+1-1=m by omega]
theorem jwa:∀{l:List PP}{s:List UInt8},fpB l s=true->zx (pq l) s=qw2 l s
 |[],s,h=>by simp[fpB]at h
 |p::l,s,h=>by
  cases e:(p.y.x.toList==s)
  ·have d:fpB l s=true:=by grind [fpB]
   have f:=jwa d;grind [qw2,pq,zx]
  grind [qw2,pq,zx]
theorem vve:∀{l:List PP}{s:List UInt8},fpB l s=false->zx (pq l) s<0
 |[],s,_=>by show(-1:Int)<0;decide
 |p::l,s,h=>by
  cases e:(p.y.x.toList==s)
  ·have d:fpB l s=false:=by grind [fpB]
   have f:=vve d;grind [pq,zx]
  grind [fpB]
variable {t:PTree} {tab:Tab} {vars:List MVar} {mt:kq3} {ksz ssz:List UInt8->Nat} {size:Nat} {l:List PP} {ms st:List Int} {S:List (List Int)} {tu:Tu} {τ:List UInt8->Int->Int}
def pvb(t:PTree)(l:List PP)(ms:List Int)(S:List (List Int))(s:List UInt8):Option Int:=
 if 0<=zx (pq l) s then ms[(zx (pq l) s).toNat]? else if 0<=(kjj t.p s).2 then some (kjj t.p s).2 else if 0<=zx (zf t) s then (S[(zx (zf t) s).toNat]?).bind λy=>y[0]? else none
theorem vj6(k:EnvOk tab vars mt ksz ssz size)(C:ParOk ssz l ms)(E:yg vars size st)(hR:RSame t tab mt ssz tu τ)(B:RSt vars tu S st)(n:Tok)(v:(kjf tab l n).b≠0):∃x,jwy vars mt l ms st n.x.toList=some x/\pvb t l (msT τ l ms) S n.x.toList=some (ftT τ (kjf tab l n) x):=by
 have⟨x,d,K⟩:=jww k C E n v;refine⟨x,d,?_⟩;unfold jwy at d;cases e:fpB l n.x.toList
 ·rw[e,Xy ay]at d;unfold pvb;rw[Xy (by have:=vve e;omega)];cases i:((zl tab n.x.toList).V==3)
  ·cases f:((zl tab n.x.toList).V==4&&!(zl tab n.x.toList).var.K)
   ·exact absurd (by unfold kjf;rw[e,i,f];rfl) v
   ·have g:kjf tab l n=kqm tab (zl tab n.x.toList).var.si:=by unfold kjf;simp_all
    rw[rG,su,QD]at f;have⟨N,I,J⟩:=hR.var _ f.1;have⟨i1,u,w,s⟩:=k.var _ f.1;rw[i1,lJ rfl,w]at d;rw[Xy aj,I,lJ aj,tX,g];have⟨y,F,L,j⟩:=B.2 _ _ w;rw[J,f.2]at j;have D:=s.pos;have⟨z,M,A⟩:=j 0 aj;rw[F];refine Eq.trans A ?_;grind [small]
  ·have g:kjf tab l n=⟨3,(zl tab n.x.toList).t⟩:=by unfold kjf;simp_all
   rw[su]at i;have p:=hR.mem _ i;have⟨i1,_⟩:=k.mem _ i;rw[i1,Xy ay]at d;injection d with d;rw[lJ aj,p,g,<-d];rfl
 ·have g:kjf tab l n=⟨4,(fpP l n.x.toList).Q.x⟩:=by unfold kjf;simp_all
  rw[e,lJ rfl]at d;have⟨m,p,d⟩:=wu.1 d;have⟨q,h,d⟩:=wX.1 d;have⟨G,H⟩:=pys l _ e;unfold pvb msT;rw[jwa e,lJ aj,tX,Zy,p,wW G,g];unfold small at h;split at h
  ·injection h with h;rw[<-d,<-h];show some (τ l[qw2 l n.x.toList].Q.x.toList (m+1))=_;rw[H];rfl
  simp_all
end
section
variable {t:PTree} {tab:Tab} {vars:List MVar} {mt:kq3} {ksz ssz:List UInt8->Nat} {size:Nat} {l:List PP} {ms st:List Int} {S:List (List Int)} {tu:Tu} {τ:List UInt8->Int->Int}
theorem vqq(s:EnvOk tab vars mt ksz ssz size)(D:ParOk ssz l ms)(E:yg vars size st)(hR:RSame t tab mt ssz tu τ)(M:RSt vars tu S st){l1:Tok}(I:(zl tab l0.x.toList).V=4)(C:l1=zh\/(l1.t.toList==mX)=true)(hi:(l1.t.toList==[])=false->(zl tab l0.x.toList).var.K=true/\qy5 tab l l1 (zl tab l0.x.toList).var.g=true)(H:(l1.t.toList==[])=true->(zl tab l0.x.toList).var.K=false):∃(u:MVar)(j:Nat)(w:Bool),vars[(kjw mt l0.x.toList).xx]?=some u/\MvOk tab ksz ssz size u (zl tab l0.x.toList).var/\j<u.d/\atO vars mt l ms st u l1=some ((u.f:Int)+j,w)/\∃q:Int,vqj t l (msT τ l ms) S l0 l1=some ((((kjw mt l0.x.toList).xx:Int),q),w)/\(w=false->q=((tu (kjw mt l0.x.toList).xx).1 j:Nat))/\(w=true->q<0):=by
 have⟨V,R,L⟩:=hR.var _ I;have⟨_,u,Q,z⟩:=s.var _ I;have⟨j,w,d,P⟩:=xqp s D E z l1 hi;refine⟨u,j,w,Q,z,P,d,?_⟩;unfold atO at d;unfold vqj;rw[R];obtain rfl|C:=C
 ·rw[show(zh.t.toList==([]:List UInt8))=true by rw[dh];rfl,lJ rfl]at d;injection d with d;injection d with v m;rw[show(zh.t.toList==mX)=false by rw[dh];rfl,Xy ay];refine⟨0,by rw[m],λ_=>?_,λe=>by simp_all⟩;rw[L,H (by rw[dh];rfl)];show(0:Int)=((j:Nat):Int);omega
 ·have A:(l1.t.toList==([]:List UInt8))=false:=by simp_all
  have⟨B,f⟩:=hi A;unfold qy5 at f;rw[rG,su,su]at f;have⟨x,K,h⟩:=vj6 s D E hR M l1 aj;have⟨x',g,G⟩:=jww s D E l1 aj;rw[K]at g;injection g with g;subst g;have p:=G.set f.1;rw[kvv f.1,f.2]at h;rw[f.2]at p;rw[A,Xy ay,K]at d;simp only[rQ]at d;rw[C,lJ rfl];have J:(if 0<=zx (pq l) l1.x.toList then (msT τ l ms)[(zx (pq l) l1.x.toList).toNat]? else if 0<=zx (zf t) l1.x.toList then (S[(zx (zf t) l1.x.toList).toNat]?).bind λy=>y[0]? else none)=some (τ (zl tab l0.x.toList).var.g.x.toList x):=by
   unfold pvb at h;split at h
   ·simp_all
   ·rename_i N;rw[Xy N];split at h
    ·rename_i U;exfalso
     have O:fpB l l1.x.toList=false:=by grind [jwa]
     have i:=f.1;unfold kjf at i;rw[O,Xy ay]at i;split at i
     ·cases i
     ·split at i
      ·rename_i F;rw[rG,su]at F;have:=(hR.var _ F.1).1;omega
      ·cases i
    omega
  rw[J];cases k:(x==0)
  ·rw[k,Xy ay]at d;rw[QG]at k;have⟨_,_,d⟩:=wu.1 d;have⟨_,_,d⟩:=wX.1 d;injection d with v m;have T:=hR.tau.rng _ x aj p.2;refine⟨τ (zl tab l0.x.toList).var.g.x.toList x,?_,λ_=>?_,λe=>by simp_all⟩
   ·simp_all
   ·rw[L,B];show _=((τ (zl tab l0.x.toList).var.g.x.toList<|(j:Int)+1).toNat:Int);rw[show(j:Int)+1=x by omega];omega
  ·rw[k,lJ rfl]at d;rw[su]at k;injection d with d;injection d with v m;rw[k,hR.tau.zero];simp_all
theorem pww(p:EnvOk tab vars mt ksz ssz size)(D:ParOk ssz l ms)(H:yg vars size st)(hR:RSame t tab mt ssz tu τ)(B:RSt vars tu S st)(hN:∀s,(zl tab s).V=4->fpB l s=false)(n i:Tok)(Q:i=zh\/(i.t.toList==mX)=true)(I:(kxj tab l n i).b≠0)(r:Int×Bool)(d:jql vars mt l ms st n i=some r):∃q:Int,vvh t l (msT τ l ms) S n i=some (q,r.2)/\-2000<=q/\q<=2000/\(r.2=false->q=ftT τ (kxj tab l n i) r.1):=by
 have⟨r',m,f⟩:=pwv p D H n i I;rw[d]at m;injection m with m;subst m;have W:-2000<=ftT τ (kxj tab l n i) r.1/\ftT τ (kxj tab l n i) r.1<=2000:=by
  obtain e|e|e|e|e:=f.b
  ·have:=f.tru e;rw[kv7 (.inl e)];omega
  ·have:=f.xx e;rw[kv7 (.inr (.inl e))];omega
  ·have:=f.kin e;have:=p.kb (kxj tab l n i).y.toList;rw[kv7 (.inr (.inr e))];omega
  ·have h1:=f.set e;have:=p.sb (kxj tab l n i).y.toList;rw[kvv e];by_cases N:r.1=0
   ·rw[N,hR.tau.zero];omega
   ·have:=hR.tau.rng _ r.1 aj h1.2;omega
  ·have:=f.non e;rw[jyg e];omega
 unfold jql at d;cases v:(i.t.toList==[])
 · -- a place of an array
  rw[v,Xy ay]at d;have g:=I;unfold kxj at g;rw[v]at g;simp only[JD,Xw]at g;cases h:(zl tab n.x.toList).var.K
  ·rw[h]at g;exact absurd rfl g
  ·rw[h]at g;simp only[Xw]at g;cases A:qy5 tab l i (zl tab n.x.toList).var.g
   ·rw[A]at g;exact absurd rfl g
   ·have V:kxj tab l n i=kqm tab (zl tab n.x.toList).var.si:=by unfold kxj;simp_all
    have k:=p.K _ h;have⟨u,j,w,J,X,P,O,q,R,E,Y⟩:=vqq p D H hR B k Q (λ_=>⟨h,A⟩) (λe=>by simp_all);have⟨v1,v2,v3⟩:=hR.var _ k;rw[J]at d;simp only[rQ]at d;rw[O]at d;simp only[rQ]at d;rw[Xy aj]at d;have⟨z,hz,d⟩:=wu.1 d;have⟨U,a1,G⟩:=wX.1 d;have M:U=z:=by grind [small]
    subst M;subst G;unfold vvh;have C:¬0<=zx (pq l) n.x.toList:=by have:=vve<|hN _ k;omega
    rw[Xy C,Xy aj,R];simp only[rQ];cases w
    ·have F:=E rfl;rw[F,Xy aj,lJ aj,tX,tX];have⟨y,T,a0,L⟩:=B.2 _ _ J;have⟨x,Z,K⟩:=L j P;rw[T];simp only[rQ];rw[K];have e:((u.f:Int)+j).toNat=u.f+j:=aj;simp_all
    simp_all
 grind [kxj,vj6,vvh,pvb,vqj]
end
theorem kw5{g:Nat->α->List Tok}(h:jf g l k=[])(i:Nat)(hi:i<l.length):g (k+i) l[i]=[]:=by apply List.eq_nil_iff_forall_not_mem.2;intro y d;have:=(zo (g:=g) (y:=y) l k).2 ⟨i,hi,d⟩;simp_all
theorem kv2(h:kqd c l0=[]):c=false:=by
 cases c
 ·rfl
 ·cases h
structure MdBnd (m:MdL):Prop where
 j:m.j.length<=2
 size:∀s∈m.j,2<=mg s.size.x/\mg s.size.x<=3
 p:m.p.length<=2
 xy:∀k∈m.p,k.i.length<=4
 z:m.z.length<=4
 R:∀v∈m.z,v.si.I=1->1<=mg v.si.R.x/\mg v.si.R.x<=3
 l:m.l.length<=5
 q:m.q.length<=3
 pars:∀r∈m.l++m.q,r.u.length<=2
theorem zjr(h:∀i,i<l.length->decide ((n:Int)<=i)=false):l.length<=n:=by grind
theorem xv3{f:MdL}(h:qz2 f<0):MdBnd f:=by
 rw[jqi]at h;have e:=jj7 h;rw[Qe,Qe,Qe,Qe]at e;have⟨⟨⟨⟨g,m⟩,e3⟩,p⟩,e5⟩:=e;have f1:=λi hi=>Qe.1<|kw5 g i hi
 have f2:=λi hi=>Qe.1<|kw5 m i hi
 have f3:=λi hi=>Qe.1<|kw5 e3 i hi
 have f4:=λi hi=>Qe.1<|kw5 p i hi
 have f5:=λi hi=>Qe.1<|kw5 e5 i hi
 have par:∀l:List PP,jf qP l 0=[]->l.length<=2:=λl u=>zjr (n:=2) λi hi=>by have:=kv2<|kw5 u i hi;simp_all
 refine⟨zjr (n:=2) λi hi=>by simpa using kv2 (f1 i hi).1,λs w=>?_,zjr (n:=2) λi hi=>by simpa using kv2 (f2 i hi).1,λk t=>?_,zjr (n:=4) λi hi=>by simpa using kv2 (f3 i hi).1,λv hv x=>?_,zjr (n:=5) λi hi=>by simpa using kv2 (f4 i hi).1,zjr (n:=3) λi hi=>by simpa using kv2 (f5 i hi).1,λr d=>?_⟩
 ·obtain⟨i,hi,rfl⟩:=wG w;have:=kv2 (f1 i hi).2;unfold pzt at this;simp_all
 ·obtain⟨i,hi,rfl⟩:=wG t;exact zjr (n:=4) λj q=>by have:=kv2<|kw5 (f2 i hi).2 j q;simp_all
 ·obtain⟨i,hi,rfl⟩:=wG hv;have:=kv2 (f3 i hi).2;grind [pzt]
 ·obtain d|d:=rV.1 d
  ·obtain⟨i,hi,rfl⟩:=wG d;simp_all
  ·obtain⟨i,hi,rfl⟩:=wG d;simp_all
structure Right (t:PTree):Prop where
 bnd:MdBnd (ql t)
 xt:NamesFine t
 typ:qqf (qm<|ql t) (ql t)=true
 M:∃L,qyw L t/\kq6 L
theorem qk7(h:(qq4 s).1=0):Right (uz (jv s).1).1:=by
 unfold qq4 at h;split at h
 ·cases h
 ·rename_i j;split at h
  ·cases h
  ·rename_i g;split at h
   ·cases h
   ·rename_i f;have e:kq6 (jv s).1:=kyh aj g;have d:=tree_good e f;unfold zzx at h;split at h
    ·cases h
    ·rename_i k;split at h
     ·cases h
     ·rename_i l;split at h
      ·rename_i i;refine⟨xv3 aj,jj9 ?_,i,⟨_,d,e⟩⟩;rw[<-zyy d.z d.l d.q (vqr (d.pw e))];omega
      omega
def qwc:List (Tok×Mean)->kq3->Option kq3
 |[],t=>some t
 |x::l,t=>(zku t x.1.x x.2).bind λd=>qwc l d
theorem jqh:∀(a b:List (Tok×Mean)) (t:kq3),qwc (a++b) t=(qwc a t).bind λd=>qwc b d
 |[],b,t=>rfl
 |x::a,b,t=>by
  show(zku t x.1.x x.2).bind (λd=>qwc (a++b) d)=((zku t x.1.x x.2).bind λd=>qwc a d).bind λd=>qwc b d
  cases zku t x.1.x x.2 with
  |none=>rfl
  |some d=>exact jqh a b d
theorem pqx:∀(l:List (Tok×Mean)) (t:kq3),(t.map (·.1.toList)++l.map (·.1.x.toList)).Nodup->(∀x∈l,x.1.x.size<=1000)->qwc l t=some (t++l.map (λx=>(x.1.x,x.2)))
 |[],t,_,_=>by simp[qwc]
 |x::l,t,hn,hs=>by
  have d:zku t x.1.x x.2=some (t++[(x.1.x,x.2)]):=by grind [zku]
  rw[qwc,d];show qwc l (t++[(x.1.x,x.2)])=_;rw[pqx l _ (by simp_all) (λy e=>hs y (jB e))];simp
def jy8:List Tok->Nat->List (Tok×Mean)
 |[],_=>[]
 |x::l,i=>(x,⟨false,i⟩)::jy8 l (i+1)
def vqu:List VrT->Nat->List (Tok×Mean)
 |[],_=>[]
 |v::l,i=>(v.y,⟨true,i⟩)::vqu l (i+1)
theorem vz6:∀(l:List Tok)(i:Nat)(t:kq3),jjq l i t=qwc (jy8 l i) t
 |[],i,t=>rfl
 |x::l,i,t=>by
  show(zku t x.x ⟨false,i⟩).bind (λd=>jjq l (i+1) d)=(zku t x.x ⟨false,i⟩).bind λd=>qwc (jy8 l<|i+1) d
  congr 1
  funext d
  exact vz6 l (i+1) d
theorem jv8:∀(l:List PKind)(t:kq3),qxb l t=qwc (l.flatMap λk=>jy8 k.i 0) t
 |[],t=>rfl
 |k::l,t=>by
  rw[qxb,Jy,jqh,vz6];congr 1
  funext t'
  exact jv8 l t'
theorem jka:∀(l:List Tok)(i:Nat),(jy8 l i).map (·.1)=l
 |[],i=>rfl
 |x::l,i=>by rw[jy8,Qm,jka l (i+1)]
theorem jxm:∀(l:List VrT)(i:Nat),(vqu l i).map (·.1)=l.map (·.y)
 |[],i=>rfl
 |v::l,i=>by rw[vqu,Qm,jxm l (i+1)];rfl
theorem jy7:∀(l:List Tok)(i:Nat)(j:Nat)(h:j<l.length),(l[j],(⟨false,i+j⟩:Mean))∈jy8 l i
 |x::l,i,0,_=>rZ ..
 |x::l,i,j+1,h=>by rw[jy8];have:=jy7 l (i+1) j (by simp_all);grind
theorem zk2:∀(l:List VrT)(i:Nat)(j:Nat)(h:j<l.length),(l[j].y,(⟨true,i+j⟩:Mean))∈vqu l i
 |x::l,i,0,_=>rZ ..
 |x::l,i,j+1,h=>by rw[vqu];have:=zk2 l (i+1) j (by simp_all);grind
def qx4(m:MdL):List (Tok×Mean):=(m.p.flatMap λk=>jy8 k.i 0)++vqu m.z 0
def kzg(m:MdL):kq3:=(qx4 m).map λx=>(x.1.x,x.2)
theorem vye(c:Bool):0<=kvq c/\kvq c<=1:=by cases c<;>decide
theorem xwx(o:List UInt8)(a c:Int)(h1:-g6<=a)(d:a<=g6)(e:-l3<=c)(f:c<=l3):-(g6+l3+1)<=opI o a c/\opI o a c<=g6+l3+1:=by grind [kvq,opI]
theorem xxo(h1:i4.b=y.b)(d:i4.y.toList=y.y.toList)(a:Int):ftT τ i4 a=ftT τ y a:=by unfold ftT;simp_all
theorem xqj(g:kz5 ssz τ)(j:zvq i4 y=true)(i:VIn ksz ssz B i4 g6)(hb:VIn ksz ssz B y l3):(ftT τ i4 g6==ftT τ y l3)=(g6==l3):=by
 rw[Bool.eq_iff_iff,su,su];unfold zvq kwx at j;simp only[Q8,rG,su,QD,QG]at j;obtain(((⟨⟨⟨h1,d⟩,_⟩,_⟩)|⟨h1,d⟩)|⟨h1,d⟩):=j
 ·rw[xxo h1.symm d.symm];obtain e|e|e|e|e:=i.b
  ·rw[kv7 (.inl e),kv7 (.inl e)]
  ·grind [kv7]
  ·grind [kv7]
  ·have f:=i.set e;have h:=hb.set<|h1.symm.trans e;rw[<-d]at h;rw[kvv e,kvv e];exact⟨λe=>g.inj _ _ _ f.1 f.2 h.1 h.2 e,λe=>qG⟩
  omega
 ·have f:=i.set h1;have h:=hb.non d;rw[kvv h1,jyg d,h];exact⟨λe=>g.inj _ _ _ f.1 f.2 aj aj (by rw[e,g.zero];rfl),λe=>by rw[e,g.zero];rfl⟩
 ·have f:=hb.set d;have h:=i.non h1;rw[kvv d,jyg h1,h];exact⟨λe=>(g.inj _ _ _ f.1 f.2 aj aj (by rw[<-e,g.zero];rfl)).symm,λe=>by rw[<-e,g.zero];rfl⟩
theorem qqh(hn:g6=1\/g6=2)(h:(kjc g6 c).b≠0)(x:Int):c=true/\ftT τ (kjc g6 c) x=x:=by have⟨h1,d⟩:=zx7 h;exact⟨h1,by rw[d];obtain rfl|rfl:=hn<;>rfl⟩
theorem xz8(p:kz5 ssz τ){g:VT}{l l8:Int}(m:j9∈qyq)(i:(zji (opN j9) i4 g).b≠0)(j:VIn ksz ssz B i4 g6)(k:VIn ksz ssz B g l3)(e:l=ftT τ i4 g6)(ec:l8=ftT τ g l3):opI j9 l l8=ftT τ (zji (opN j9) i4 g) (kxa (opN j9) g6 l3):=by
 have one:∀{x y:VT}{f:Int},(f=1\/f=2)->(x.b==f&&y.b==f)=true->x.b=f/\y.b=f/\(x.b=1\/x.b=2\/x.b=3)/\(y.b=1\/y.b=2\/y.b=3):=λq h=>by grind
 simp only[qyq,tZ,Qu,or_false]at m;obtain rfl|rfl|rfl|rfl|rfl|rfl|rfl:=m
 ·have⟨h1,d⟩:=qqh (τ:=τ) (.inl rfl) (i:(kjc 1<|i4.b==1&&g.b==1).b≠0)<|max g6 l3;have⟨f1,f2,f3,f4⟩:=one (.inl rfl) h1;rw[kv7 f3]at e;rw[kv7 f4]at ec;refine Eq.trans ?_ d.symm;rw[e,ec];obtain rfl|rfl:=j.tru f1<;>obtain rfl|rfl:=k.tru f2<;>decide
 ·have⟨h1,d⟩:=qqh (τ:=τ) (.inl rfl) (i:(kjc 1<|i4.b==1&&g.b==1).b≠0)<|min g6 l3;have⟨f1,f2,f3,f4⟩:=one (.inl rfl) h1;rw[kv7 f3]at e;rw[kv7 f4]at ec;refine Eq.trans ?_ d.symm;rw[e,ec];obtain rfl|rfl:=j.tru f1<;>obtain rfl|rfl:=k.tru f2<;>decide
 ·have⟨h1,d⟩:=qqh (τ:=τ) (.inl rfl) (i:(kjc 1<|zvq i4 g).b≠0)<|kvq (g6==l3);refine Eq.trans ?_ d.symm;show kvq (l==l8)=_;rw[e,ec,xqj p h1 j k]
 ·have⟨h1,d⟩:=qqh (τ:=τ) (.inl rfl) (i:(kjc 1<|zvq i4 g).b≠0)<|kvq (!(g6==l3));refine Eq.trans ?_ d.symm;show kvq (!(l==l8))=_;rw[e,ec,xqj p h1 j k]
 ·have⟨h1,d⟩:=qqh (τ:=τ) (.inl rfl) (i:(kjc 1<|i4.b==2&&g.b==2).b≠0)<|kvq (decide (g6<l3));have⟨_,_,f3,f4⟩:=one (.inr rfl) h1;rw[kv7 f3]at e;rw[kv7 f4]at ec;rw[e,ec];exact d.symm
 ·have⟨h1,d⟩:=qqh (τ:=τ) (.inr rfl) (i:(kjc 2<|i4.b==2&&g.b==2).b≠0)<|g6+l3;have⟨_,_,f3,f4⟩:=one (.inr rfl) h1;rw[kv7 f3]at e;rw[kv7 f4]at ec;rw[e,ec];exact d.symm
 ·have⟨h1,d⟩:=qqh (τ:=τ) (.inr rfl) (i:(kjc 2<|i4.b==2&&g.b==2).b≠0)<|g6-l3;have⟨_,_,f3,f4⟩:=one (.inr rfl) h1;rw[kv7 f3]at e;rw[kv7 f4]at ec;rw[e,ec];exact d.symm
section
variable {t:PTree} {tab:Tab} {vars:List MVar} {mt:kq3} {ksz ssz:List UInt8->Nat} {size:Nat} {l:List PP} {ms st:List Int} {S:List (List Int)} {tu:Tu} {τ:List UInt8->Int->Int}
theorem qjr(A:EnvOk tab vars mt ksz ssz size)(C:ParOk ssz l ms)(D:yg vars size st)(hR:RSame t tab mt ssz tu τ)(L:RSt vars tu S st)(hN:∀s,(zl tab s).V=4->fpB l s=false):∀(x:PX),kx9 x->zxs x->kk5 x<=4000->(gy tab l x).b≠0->∀r,qqv vars mt l ms st x=some r ->
  ∃q:Int,zqy t l (msT τ l ms) S x=some (q,r.2)/\-(2000*(kk5 x:Int))<=q/\q<=2000*(kk5 x:Int)/\(r.2=false->q=ftT τ (gy tab l x) r.1)
 |.nil,h,_,_,_,_,_=>h.elim
 |.node i j x a c,hw,hnum,hsz,ht,r,hr=>by
  have U:kk5 (.node i j x a c)=kk5 a+kk5 c+1:=rfl;have⟨W,z,H⟩:=hnum;rw[U]at hsz |-;obtain⟨V,rfl,rfl⟩|⟨B,v,rfl⟩|⟨B,v,w⟩:=hw
  ·have hv:zqy t l (msT τ l ms) S (.node i j x .nil .nil)=opR t l (msT τ l ms) S x (0,false) (0,false):=rfl;rw[hv];unfold opR;obtain(h|h|h)|⟨h,n1,n2⟩|⟨h,h1,X⟩:=V
   ·have d:some ((1:Int),false)=some r:=by rw[qqv,h]at hr;exact hr
    have g:gy tab l (.node i j x .nil .nil)=⟨1,⟨#[]⟩⟩:=by rw[gy,h];rfl
    injection d with d;subst d;rw[h];exact⟨1,rfl,aj,aj,λ_=>by rw[g];rfl⟩
   ·have d:some ((0:Int),false)=some r:=by rw[qqv,h]at hr;exact hr
    have g:gy tab l (.node i j x .nil .nil)=⟨1,⟨#[]⟩⟩:=by rw[gy,h];rfl
    injection d with d;subst d;rw[h];exact⟨0,rfl,aj,aj,λ_=>by rw[g];rfl⟩
   ·have d:some ((0:Int),false)=some r:=by rw[qqv,h]at hr;exact hr
    have g:gy tab l (.node i j x .nil .nil)=⟨5,⟨#[]⟩⟩:=by rw[gy,h];rfl
    injection d with d;subst d;rw[h];exact⟨-1,rfl,aj,aj,λ_=>by rw[g];rfl⟩
   ·have d:some (x.n,false)=some r:=by rw[qqv,h]at hr;exact hr
    have g:gy tab l (.node i j x .nil .nil)=⟨2,⟨#[]⟩⟩:=by rw[gy,h];rfl
    injection d with d;subst d;rw[h];exact⟨x.n,rfl,aj,aj,λ_=>by rw[g];rfl⟩
   ·have d:jql vars mt l ms st x.y x.c=some r:=by rw[qqv,h]at hr;exact hr
    have g:gy tab l (.node i j x .nil .nil)=kxj tab l x.y x.c:=by rw[gy,h];rfl
    grind [pww]
  ·have g:gy tab l (.node i j x a .nil)=kjc 1 ((gy tab l a).b==1):=by rw[gy,B];rfl
   rw[g]at ht |-;have w:=(zx7 ht).1;rw[su]at w;have d:((qqv vars mt l ms st a).bind λp=>(small p.1).map λ_=>(1-p.1,p.2))=some r:=by rw[qqv,B]at hr;exact hr
   have⟨p,u,d⟩:=wu.1 d;have⟨_,_,d⟩:=wX.1 d;subst d;have⟨p',f,F⟩:=val_ok A C D a v.xv z v.some aj aj;rw[u]at f;injection f with f;subst f;have Q:=F.tru w;have⟨y,J,b1,b2,e⟩:=qjr A C D hR L hN a v z aj aj p u;refine⟨kvq<|y==0,?_,by have:=vye<|y==0;omega,by have:=vye<|y==0;omega,λM=>?_⟩
   ·show(zqy t l (msT τ l ms) S a).bind (λp=>(some ((0:Int),false)).bind λq=>opR t l (msT τ l ms) S x p q)=_;grind [opR,opI,kw1]
   ·have:=e M;rw[kv7 (.inl w)]at this;rw[(qqh (.inl rfl) ht _).2,this];obtain q|q:=Q<;>rw[q]<;>rfl
  ·have G:6<=opN x.op.toList:=by simp only[qyq,tZ,Qu,or_false]at B;obtain e|e|e|e|e|e|e:=B<;>rw[e]<;>decide
   have g:gy tab l (.node i j x a c)=zji (opN x.op.toList) (gy tab l a) (gy tab l c):=by grind [gy]
   rw[g]at ht |-;have⟨ga,gc,_⟩:=vk5 ht;have d:((qqv vars mt l ms st a).bind λp=>(qqv vars mt l ms st c).bind λq=>(small p.1).bind λ_=>(small q.1).map λ_=>(kxa (opN x.op.toList) p.1 q.1,p.2||q.2))=some r:=by grind [qqv]
   have⟨p,u,d⟩:=wu.1 d;have⟨q,K,d⟩:=wu.1 d;have⟨_,_,d⟩:=wu.1 d;have⟨_,_,d⟩:=wX.1 d;subst d;have⟨p',f,F⟩:=val_ok A C D a v.xv z v.some aj ga;rw[u]at f;injection f with f;subst f;have⟨Z,k,N⟩:=val_ok A C D c w.xv H w.some aj gc;rw[K]at k;injection k with k;subst k;have⟨y,J,b1,b2,R⟩:=qjr A C D hR L hN a v z aj ga p u;have⟨O,P,b3,b4,T⟩:=qjr A C D hR L hN c w H aj gc q K;have hb:=xwx x.op.toList y O b1 b2 b3 b4;refine⟨opI x.op.toList y O,?_,aj,aj,λM=>?_⟩
   ·show(zqy t l (msT τ l ms) S a).bind (λp=>(zqy t l (msT τ l ms) S c).bind λq=>opR t l (msT τ l ms) S x p q)=_;rw[J,P];show opR t l (msT τ l ms) S x (y,p.2) (O,q.2)=_;unfold opR;have m:∀o∈[nJ,nZ,mG,mW,(ng:List UInt8)],(x.op.toList==o)=false:=by intro Y I;rw[QG];intro e;rw[e]at G;simp only[tZ,Qu,or_false]at I;obtain rfl|rfl|rfl|rfl|rfl:=I<;>exact absurd G ak
    rw[m _ ay,m _ ay,m _ ay,m _ ay,m _ ay];grind [small]
   ·have E:(p.2||q.2)=false:=M;rw[Qi]at E;exact xz8 hR.tau B ht (F.mono (by omega:200*kk5 a<=1000000)) (N.mono (by omega:200*kk5 c<=1000000)) (R E.1)<|T E.2
end
section
variable {t:PTree} {tab:Tab} {vars:List MVar} {mt:kq3} {ksz ssz:List UInt8->Nat} {size:Nat} {l:List PP} {ms st:List Int} {S:List (List Int)} {tu:Tu} {τ:List UInt8->Int->Int}
def pkj(t:PTree)(tab:Tab)(vars:List MVar)(mt:kq3):Prop:=∀s,(zl tab s).V=4->∃pv u,t.z[(kjw mt s).xx]?=some pv/\vars[(kjw mt s).xx]?=some u /\
 ((kqm tab (zl tab s).var.si).b=2->∀x:Int,kky pv x=(decide (x<0)||decide ((u.a.length:Int)<=x)))/\((kqm tab (zl tab s).var.si).b≠2->∀x:Int,kky pv x=false)
theorem RSt.put(h:RSt vars tu S st)(p:qzm vars)(d:vars[k]?=some i3)(u:S[k]?=some i5)(y:j<i3.d)(s:i3.f+i3.d<=st.length)(t:∀i,i<i3.d->(tu k).1 j=(tu k).1 i->j=i)(x:Int):RSt vars tu (S.set k (i5.set ((tu k).1 j) ((tu k).2 x))) (st.set (i3.f+j) x):=by
 refine⟨lM,λm v hv=>?_⟩;have⟨z,A,f,g⟩:=h.2 m v hv;have w:=(rY.1 u).1;by_cases e:k=m
 ·subst e;rw[d]at hv;injection hv with hv;subst hv;grind
 ·refine⟨z,by simp_all,f,λi hi=>?_⟩;have⟨x',h1,l⟩:=g i hi;refine⟨x',?_,l⟩;rw[Z8 ?_]
  ·exact h1
  ·obtain q|q:=p k m i3 v d hv e<;>omega
theorem xqc(T:EnvOk tab vars mt ksz ssz size)(hd:qzm vars)(V:ParOk ssz l ms)(I:yg vars size st)(hR:RSame t tab mt ssz tu τ)(hT:pkj t tab vars mt)(F:RSt vars tu S st)(hN:∀s,(zl tab s).V=4->fpB l s=false){h:SLab}(O:h.N=.node 0 0 i6 .nil .nil)(a0:i6.op.toList=ng)(H:i6.c=zh\/(i6.c.t.toList==mX)=true)(X:isNil h.A=true)(K:kx9 h.value)(hn:zxs h.value)(L:kk5 h.value<=4000)(ht:jwd tab l h.N h.value=true){M:List Int×Bool}(m:vk9 vars mt l ms st i6.y i6.c h.value=some M):∃S',vyj t l (msT τ l ms) S h=some (S',M.2)/\(M.2=false->RSt vars tu S' M.1):=by
 rw[O]at ht;have⟨d,g,P⟩:=vjq ht;rw[zk3 tab l a0]at g;rw[show qj9 (.node 0 0 i6 .nil .nil)=i6.y.x from rfl]at d;have Y:(i6.c.t.toList==[])=false->(zl tab i6.y.x.toList).var.K=true/\qy5 tab l i6.c (zl tab i6.y.x.toList).var.g=true:=λH=>by
  unfold kxj at g;rw[H]at g;cases B:(zl tab i6.y.x.toList).var.K
  ·rw[B]at g;exact absurd rfl g
  ·cases hx:qy5 tab l i6.c (zl tab i6.y.x.toList).var.g
   ·rw[B,hx]at g;exact absurd rfl g
   simp
 have aA:kxj tab l i6.y i6.c=kqm tab (zl tab i6.y.x.toList).var.si:=by
  cases aC:(i6.c.t.toList==[])
  ·grind [kxj]
  ·have e:kxj tab l i6.y i6.c=kjf tab l i6.y:=by unfold kxj;simp_all
   rw[e]at g |-;unfold kjf at g |-;rw[hN _ d,Xy ay,Xy (by simp_all)]at g |-;split at g
   ·simp_all
   ·exact absurd rfl g
 have Z:(i6.c.t.toList==[])=true->(zl tab i6.y.x.toList).var.K=false:=λH=>by
  cases B:(zl tab i6.y.x.toList).var.K
  ·rfl
  ·have Q:(kjf tab l i6.y).b≠0:=by grind [kxj]
   unfold kjf at Q;rw[hN _ d,d,B]at Q;exact absurd rfl Q
 have⟨u,j,w,J,k,U,B,q,hq,a2,aD⟩:=vqq T V I hR F d H Y Z;have⟨pv,u',a1,A,aE,a5⟩:=hT _ d;rw[J]at A;injection A with A;subst A;have⟨v1,v2,v3⟩:=hR.var _ d;have⟨p,E,v⟩:=val_ok T V I h.value K.xv hn K.some L P;have⟨N,a3,b1,b2,e1⟩:=qjr T V I hR F hN h.value K hn L P p E;unfold vk9 at m;rw[E]at m;simp only[rQ]at m;rw[J]at m;simp only[rQ]at m;rw[B]at m;simp only[rQ]at m;have R:vyj t l (msT τ l ms) S h=if (p.2||w)||kky pv N then some (S,true) else (S[(kjw mt i6.y.x.toList).xx]?).bind λy=>if decide (q<0)||decide ((y.length:Int)<=q) then none else some (S.set (kjw mt i6.y.x.toList).xx<|y.set q.toNat N,false):=by unfold vyj;rw[O];dsimp only;rw[K.some,X];simp only[JV,Qg,ru,Xv];rw[a3];simp only[rQ];rw[hq];simp only[rQ];rw[Xy aj,tX,a1];rfl
 rw[R];cases C:(p.2||w)
 ·rw[Qi]at C;have eq:=a2 C.2;have D:(gy tab l h.value).b=(kqm tab (zl tab i6.y.x.toList).var.si).b/\(gy tab l h.value).y.toList=(kqm tab (zl tab i6.y.x.toList).var.si).y.toList\/(kqm tab (zl tab i6.y.x.toList).var.si).b=4/\(gy tab l h.value).b=5:=by grind [zk3,jwd,kwx]
  have W:N=(tu (kjw mt i6.y.x.toList).xx).2 p.1:=by
   rw[v3,e1 C.1];obtain⟨h1,x⟩|⟨h1,x⟩:=D
   ·exact xxo h1 x _
   ·show _=ftT τ _ _;rw[jyg x,kvv h1,v.non x,hR.tau.zero];rfl
  have G:kky pv N=(decide (p.1<0)||decide ((u.a.length:Int)<=p.1)):=by
   by_cases f2:(kqm tab (zl tab i6.y.x.toList).var.si).b=2
   ·grind [kv7]
   ·rw[a5 f2];have a4:0<=p.1/\p.1<(u.a.length:Int):=by
     obtain⟨h1,x⟩|⟨h1,x⟩:=D
     ·obtain f|f|f|f:=xkc tab (zl tab i6.y.x.toList).var.si
      ·have:=v.tru<|h1.trans f;have:=k.tru f;omega
      ·omega
      ·have:=v.kin<|h1.trans f;have:=k.kin f;simp_all
      ·have:=v.set<|h1.trans f;have:=k.set f;grind
     ·have:=v.non x;have:=k.set h1;omega
    simp_all
  rw[QX,G];cases hc:(decide (p.1<0)||decide ((u.a.length:Int)<=p.1))
  ·have aB:0<=p.1/\p.1<(u.a.length:Int):=by simp_all
   have a8:=k.fit;have a9:=I.T;have a7:=k.few;rw[Xy (by simp_all),Xy (by simp_all)]at m;injection m with m;subst m;have⟨y,hy,aF,a6⟩:=F.2 _ _ J;have⟨z,_,L⟩:=a6 j U;have aG:=(rY.1 L).1;rw[Xy ay,hy];simp only[rQ];rw[eq,Xy (by simp_all),tX];refine⟨_,by rw[C.1,C.2];rfl,λ_=>?_⟩;show RSt vars tu _ (st.set ((u.f:Int)+(j:Nat)).toNat p.1);rw[show((u.f:Int)+(j:Nat)).toNat=u.f+j by omega,W];refine F.put hd J hy U aj (λi hi e=>?_) p.1;rw[v3]at e;exact vvl hR.tau k.cnt U hi e
  grind
 grind
end
section
variable {t:PTree} {tab:Tab} {vars:List MVar} {mt:kq3} {ksz ssz:List UInt8->Nat} {size:Nat} {l:List PP} {ms st:List Int} {S:List (List Int)} {tu:Tu} {τ:List UInt8->Int->Int}
theorem pzy(h:kx9 (.node i j i6 .nil .nil))(e:i6.op.toList=ng):i6.c=zh\/(i6.c.t.toList==mX)=true:=by
 obtain⟨d,_⟩|⟨h,_⟩|⟨h,_⟩:=h
 ·obtain(h|h|h)|⟨h,_⟩|⟨_,_,h⟩:=d
  ·simp_all
  ·simp_all
  ·simp_all
  ·simp_all
  omega
 ·simp_all
 ·rw[e]at h;exact absurd h ak
theorem zxy(g:EnvOk tab vars mt ksz ssz size)(m:qzm vars)(k:ParOk ssz l ms)(hR:RSame t tab mt ssz tu τ)(z:pkj t tab vars mt)(hN:∀s,(zl tab s).V=4->fpB l s=false):∀(b:PB),kkz b->jze b->kkj tab l b=true->∀st S,yg vars size st->RSt vars tu S st->∀r,doO vars mt l ms b st=some r ->
  ∃S',doR t l (msT τ l ms) b S=some (S',r.2)/\(r.2=false->RSt vars tu S' r.1)
 |.nil,_,_,_,st,S,_,hS,r,d=>by
  rw[doO]at d;injection d with d;subst d;exact⟨S,rfl,λ_=>hS⟩
 |.node i j a .nil n,hw,hn,ht,st,S,hs,hS,r,d=>by
  have⟨⟨R,x,B,A⟩,hv,M,C⟩:=hw;have⟨⟨n1,n2⟩,P⟩:=hn;rw[kkj,rG]at ht;rw[B]at R;rw[doO,show kyk a.N=(x.y,x.c) by rw[B];rfl]at d;have⟨p,f,d⟩:=wu.1 d;have⟨q,J,d⟩:=wX.1 d;subst d;have u:yg vars size p.1:=by have⟨p',h1,h2⟩:=xqd g m k hs A hv.xv n1 hv.some n2 (by simp_all);simp_all
  have⟨w,X,Y⟩:=xqc g m k hs hR z hS hN B A (pzy R A) (by rw[M];rfl) hv n1 n2 ht.1 f;rw[doR,X];simp only[rQ];cases I:p.2
  ·rw[Xy ay];have⟨K,e3,L⟩:=zxy g m k hR z hN n C P ht.2 p.1 w u (Y I) q J;simp_all
  simp
 |.node i j a (.node _ _ _ th el) n,hw,hn,ht,st,S,hs,hS,r,d=>by
  have⟨D,_,_,⟨H,_⟩,⟨G,_⟩,C⟩:=hw;have⟨⟨n1,n2⟩,T,ne,Z⟩:=hn;rw[kkj,rG,rG,rG,su]at ht;have⟨⟨⟨U,V⟩,W⟩,t4⟩:=ht;rw[doO]at d;have⟨c,E,d⟩:=wu.1 d;have⟨p,f,d⟩:=wu.1 d;have⟨q,J,d⟩:=wX.1 d;subst d;have⟨c',v,O⟩:=val_ok g k hs a.A D.xv n1 D.some n2 aj;rw[E]at v;injection v with v;subst v;have a0:=O.tru U;have⟨qc,Q,_,_,e⟩:=qjr g k hs hR hS hN a.A D n1 n2 aj c E;rw[doR,D.some,Xy ay,Q];simp only[rQ];cases I:c.2
  ·rw[Xy ay];have F:=e I;rw[kv7 (.inl U)]at F;subst F;have u:yg vars size p.1/\∃w,(if c.1==1 then doR t l (msT τ l ms) th S else doR t l (msT τ l ms) el S)=some (w,p.2)/\(p.2=false->RSt vars tu w p.1):=by
    cases h1:(c.1==1)
    ·rw[h1,Xy ay]at f;rw[Xy ay];have⟨p',g1,y⟩:=zwx g m k el G.xv ne W st hs;rw[f]at g1;injection g1 with g1;exact⟨by rw[g1];exact y,zxy g m k hR z hN el G ne W st S hs hS p f⟩
    ·rw[h1,lJ rfl]at f;rw[lJ rfl];have⟨p',g1,y⟩:=zwx g m k th H.xv T V st hs;rw[f]at g1;injection g1 with g1;exact⟨by rw[g1];exact y,zxy g m k hR z hN th H T V st S hs hS p f⟩
   have⟨u,w,g1,y⟩:=u;rw[g1];simp only[rQ];cases N:p.2
   ·rw[Xy ay];have⟨K,e3,L⟩:=zxy g m k hR z hN n C Z t4 p.1 w u (y N) q J;exact⟨K,by rw[e3];simp,λh=>L kV⟩
   simp
  simp
theorem pv2(l:EnvOk tab vars mt ksz ssz size)(F:qzm vars)(u:ParOk ssz x.r.u x.ms)(v:yg vars size st)(hR:RSame t tab mt ssz tu τ)(E:pkj t tab vars mt)(w:RSt vars tu S st)(hN:∀s,(zl tab s).V=4->fpB x.r.u s=false)(q:kx9 x.r.guard)(n1:zxs x.r.guard)(n2:kk5 x.r.guard<=4000)(D:(gy tab x.r.u x.r.guard).b=1)(hb:kkz x.r.S)(y:jze x.r.S)(z:kkj tab x.r.u x.r.S=true){h:List Int×Int}(d:kwi vars mt x.r.u x.ms st x.r.guard x.r.S=some h):∃S',zwc t S ⟨x.r,msT τ x.r.u x.ms⟩=some (h.2,S')/\(h.2=1->RSt vars tu S' h.1)/\(h.2≠1->S'=S):=by
 unfold kwi at d;have⟨c,i,d⟩:=wu.1 d;have⟨p,f,d⟩:=wX.1 d;have⟨I,g,B⟩:=val_ok l u v x.r.guard q.xv n1 q.some n2 aj;rw[i]at g;injection g with g;subst g;have G:=B.tru D;have⟨K,C,_,_,e⟩:=qjr l u v hR w hN x.r.guard q n1 n2 aj c i;unfold zwc;rw[C];simp only[rQ];cases m:c.2
 ·rw[Xy ay];have j:=e m;rw[kv7 (.inl D)]at j;subst j;rw[m,QX]at d;cases h1:(c.1==1)
  ·rw[h1,Xy ay]at f;injection f with f;subst f;rw[h1]at d;have k:c.1=0:=by grind
   rw[k,lJ ak];subst d;simp
  ·rw[h1,lJ rfl]at f;rw[h1]at d;have k:c.1=1:=by simpa using h1
   rw[k,Xy ak];have⟨H,g1,J⟩:=zxy l F u hR E hN x.r.S hb y z st S v w p f;rw[g1];cases A:p.2
   ·grind
   ·rw[A]at d;simp only[Xw]at d;subst d;simp
 ·rw[lJ rfl];rw[m,Jg]at d;simp only[Xw]at d;subst d;simp
end
section
variable {t:PTree} {tab:Tab} {vars:List MVar} {mt:kq3} {ksz ssz:List UInt8->Nat} {size:Nat} {st:List Int} {S:List (List Int)} {tu:Tu} {τ:List UInt8->Int->Int}
structure Both (t:PTree)(tab:Tab)(vars:List MVar)(mt:kq3)(ksz ssz:List UInt8->Nat)(size:Nat)(tu:Tu)(τ:List UInt8->Int->Int):Prop where
 env:EnvOk tab vars mt ksz ssz size
 disj:qzm vars
 same:RSame t tab mt ssz tu τ
 R:pkj t tab vars mt
structure qq8 (tab:Tab)(ssz:List UInt8->Nat)(x:RIn):Prop where
 par:ParOk ssz x.r.u x.ms
 new:∀s,(zl tab s).V=4->fpB x.r.u s=false
 guard:kx9 x.r.guard
 xx:zxs x.r.guard
 nod:kk5 x.r.guard<=4000
 typ:(gy tab x.r.u x.r.guard).b=1
 S:kkz x.r.S
 bnum:jze x.r.S
 btyp:kkj tab x.r.u x.r.S=true
def zwm(x:RIn):MStep:=zjm x.r x.ms
def pzr(x:RIn):MNever:=qvv x.r x.ms
theorem qq8.same(h:Both t tab vars mt ksz ssz size tu τ)(d:qq8 tab ssz x)(g:yg vars size st)(e:RSt vars tu S st)(r:List Int×Int)(f:kwi vars mt x.r.u x.ms st x.r.guard x.r.S=some r):∃S',zwc t S ⟨x.r,msT τ x.r.u x.ms⟩=some (r.2,S')/\(r.2=1->RSt vars tu S' r.1)/\(r.2≠1->S'=S):=
 pv2 h.env h.disj d.par g h.same h.R e d.new d.guard d.xx d.nod d.typ d.S d.bnum d.btyp f
theorem qq8.one(h:Both t tab vars mt ksz ssz size tu idτ)(d:qq8 tab ssz x)(g:yg vars size st)(e:RSt vars tu S st)(r:List Int×Int)(f:kwi vars mt x.r.u x.ms st x.r.guard x.r.S=some r):∃S',zwc t S x=some (r.2,S')/\(r.2=1->RSt vars tu S' r.1)/\(r.2≠1->S'=S):=by have:=d.same h g e r f;rw[pqb _ _ d.par.T]at this;omega
theorem qq8.brk(h:Both t tab vars mt ksz ssz size tu τ)(d:qq8 tab ssz x)(m:yg vars size st)(j:RSt vars tu S st){i:Bool}(f:zwo vars mt x.r.u x.ms st x.r.guard=some i):∃c,zqy t x.r.u (msT τ x.r.u x.ms) S x.r.guard=some c/\((c.1==1)||c.2)=i:=by
 unfold zwo at f;obtain⟨c,k,rfl⟩:=wX.1 f;have⟨p,g,_,_,e⟩:=qjr h.env d.par m h.same j d.new x.r.guard d.guard d.xx d.nod (by rw[d.typ];decide) c k;refine⟨_,g,?_⟩;cases l:c.2
 ·have:=e l;rw[kv7 (.inl d.typ)]at this;rw[this]
 simp
theorem jyq(h:Both t tab vars mt ksz ssz size tu idτ)(j:yg vars size st)(g:RSt vars tu S st):∀(L:List RIn)(en e:List ByteArray)(r:List ByteArray×List ByteArray),(∀x∈L,qq8 tab ssz x)->lkO vars mt st (L.map zwm) en e=some r->lkR t S L en e=some r
 |[],en,e,r,_,d=>d
 |x::L,en,e,r,hL,d=>by
  rw[Qm,lkO]at d;have⟨q,m,d⟩:=wu.1 d;have⟨S',l,_,_⟩:=(hL x<|rZ ..).one h j g q m;have k:=λen e=>jyq h j g L en e r<|λy p=>hL y<|jB p
  rw[lkR,l];simp only[rQ];split at d
  ·rename_i f;rw[lJ f];exact k _ _ d
  ·rename_i f;rw[Xy f];split at d
   ·rename_i i;rw[lJ i];exact k _ _ d
   simp_all
theorem jyx(h:Both t tab vars mt ksz ssz size tu idτ)(g:yg vars size st)(f:RSt vars tu S st):∀(L:List RIn)(br r:List ByteArray),(∀x∈L,qq8 tab ssz x)->lbO vars mt st (L.map pzr) br=some r->lbR t S L br=some r
 |[],br,r,_,d=>d
 |x::L,br,r,hL,d=>by
  rw[Qm,lbO]at d;have⟨q,j,d⟩:=wu.1 d;have i:=hL x<|rZ ..;have l:=λbr=>jyx h g f L br r<|λy k=>hL y<|jB k
  have⟨c,e,hb⟩:=i.brk h g f j;rw[pqb _ _ i.par.T]at e;rw[lbR,e];simp only[rQ];rw[hb];split at d
  ·rename_i e;rw[lJ e];exact l _ d
  simp_all
end
end Go.Proofs.YtpmcnonmkghokaaGreatDoor

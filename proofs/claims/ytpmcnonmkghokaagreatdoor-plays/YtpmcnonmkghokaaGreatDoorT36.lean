import Derived.Test.YtpmcnonmkghokaaGreatDoorT34
import Derived.Test.YtpmcnonmkghokaaGreatDoorT35
import Derived.Test.YtpmcnonmkghokaaGreatDoorT13
import Derived.Test.YtpmcnonmkghokaaGreatDoorT32
import Derived.Test.YtpmcnonmkghokaaGreatDoorT33
import Derived.Test.YtpmcnonmkghokaaGreatDoorT30
set_option maxRecDepth 100000
set_option maxHeartbeats 8000000
set_option linter.unusedVariables false
set_option linter.unusedSimpArgs false
namespace Go.Proofs.YtpmcnonmkghokaaGreatDoor
open Go.Proofs.Tryz
open Go.RowKit
attribute [local go_sem ↓] Go.wp_at_zero Go.wp_at_succ
variable {x:Int}{vars:List MVar}{ksz ssz:List UInt8->Nat}{v:MVar}{B size:Nat}{tab:Tab}{ty:VT}
def qk5 (s:ByteArray):Int×Int:=
 if 800<s.size then (1,0) else match (jo s).2 with
  |some k=>(2,k)
  |none=>match (yx (jo s).1).2 with
   |some k=>(3,k)
   |none=>zxs (yx (jo s).1).1
theorem vvf (s:ByteArray):qxy s=qk5 s:=by
 unfold qxy qk5;split
 ·rfl
 ·rename_i hb;cases h1:(jo s).2 with
  |some k=>rfl
  |none=>
   simp only;cases a:(yx (jo s).1).2 with
   |some k=>rfl
   |none=>exact vjj (qqz s aj h1) a
structure RefOk (t:PTree):Prop where
 ok:TreeOk t
 fit:TreeFit t
 rules:t.rules.length<=801
 nevers:t.nevers.length<=801
 pars:∀r∈t.rules++t.nevers,r.params.length<=801/\(uo r.guard).length<=10000/\(uf r.body).length<=10000/\ky5 r.body/\kko r.body<=1000
 sets:∀s∈t.sets,qyj s.size
 tops:∀v∈t.vars,(v.top.kind.toList==oQ)=true->qyj v.top
 glob:(jc t).length<=90000
 gd:∀r∈t.rules++t.nevers,isNil r.guard=false/\XOk r.guard/\SOk r.body/\∀p∈r.params,p.set_.text.size<=800
theorem vkw {L:List Tok}(m:bg L)(h:(yx L).2=none):RefOk (yx L).1:=by
 have g:=tree_good m h;have s:=kxl m g;generalize (yx L).1=t at g s;have l:∀r∈t.rules++t.nevers,kka r:=λr e=>by
  rcases ru.mp e with e|e
  ·exact g.rules r e
  ·exact(g.nevers r e).1
 refine⟨⟨s.sets,s.kinds,s.vars,s.members⟩,⟨?_,?_⟩,s.rules,s.nevers,?_,g.sets,?_,?_,?_⟩
 ·intro k f;exact(s.nm _ (kws f (rV ..))).2
 ·intro v i;have j:=g.vars v i;constructor
  ·obtain⟨_,h1|h1|h1⟩:=j
   ·obtain⟨a,b,c⟩:=h1;have:v.type_.text.size=v.type_.text.toList.length:=by rw[bf];simp
    rw[this,b];simp
   ·obtain⟨a,b,c,d⟩:=h1;have:v.type_.text.size=v.type_.text.toList.length:=by rw[bf];simp
    rw[this,b];simp
   ·refine(s.nm _ (kyx i ?_)).2;unfold kxy kwk;rw[h1.1];simp
  ·exact(zxp s i j).1
 ·intro r e;obtain⟨x,b,q⟩:=l r e;obtain⟨u,y,z⟩:=jxq (s.all r e);exact⟨u,aj,aj,b.slen,aj⟩
 ·intro v i f;obtain⟨_,h1|h1|h1⟩:=g.vars v i
  ·rw[h1.2.2,kqw]at f;cases f
  ·exact h1.2.2.1
  ·rw[h1.2,kqw]at f;cases f
 ·have:=(qkt t).length_le;have:=g.nms.le;have:=m.len;omega
 ·intro r e;obtain⟨x,b,q⟩:=l r e;exact⟨x.some,x.ok,b.sok,λp w=>(s.nm _ (kzn e (zx9 w).2)).2⟩
def qxd (s:ByteArray)(w:World)(e:Ending)(w':World):Prop:=
 pU w w'/\((¬(qk5 s).1=0/\e=.returned (.tuple #[.pointer none,.int .i64 (qk5 s).1,.int .i64 (qk5 s).2])) \/
  ((qk5 s).1=0/\(qk5 s).2=0/\∃T,w.heap.size<=T/\e=.returned (.tuple #[.pointer (some ⟨T,0,none⟩),.int .i64 0,.int .i64 0])/\kqr w' T (yx (jo s).1).1))
def zx2 (t:PTree)(r:PRule):Bool:=((kq2 t r.params r.guard).toList==o7)&&kzy t r.params r.body
theorem jzb (t:PTree):qxe t=(t.rules++t.nevers).all (zx2 t):=rfl
theorem vky (s:ByteArray)(w:World):qJ 36 #[.string s] w λe w'=>qxd s w e w':=by
 by_cases V:800<s.size
 ·have Q:qk5 s=(1,0):=by unfold qk5;rw[if_pos V]
  have h:=pG Q;clear Q;go_enter func36,ntmps36
  go_wp2
  go_ret3
  unfold qxd;rw[ku h];exact⟨Below.refl _ _,Or.inl ⟨ak,rfl⟩⟩
 ·have aE:s.size<=800:=by omega
  have Q:qk5 s=match (jo s).2 with|some k=>(2,(k:Int))|none=>match (yx (jo s).1).2 with|some k=>(3,(k:Int))|none=>zxs (yx (jo s).1).1:=by unfold qk5;rw[if_neg V]
  have h:=pG Q;clear Q;go_enter func36,ntmps36
  go_wp2_with fail
  refine(vxn s w aE).mono ?_;rintro e w1 ⟨B,hp⟩;have a1:=pG B;have aO:=B.size;rcases hp with⟨aA,v,rfl,hv⟩|⟨k,hk,rfl⟩
  ·rw[aA]at h;have R:=qqz s aE aA;have HV:=pG (zu (rW _) hv);obtain⟨va,vl,vc,rfl⟩:=zq hv;clear B hv;go_wp2_with fail
   refine(vxh w1 _ _ (ku HV) R.pos R.len R.qve (λi hi hd=>qvp R hi hd)).mono ?_;rintro e w2 ⟨C,hp⟩;have a2:=pG ((ku a1).trans (C.mono aO));have aQ:=C.size;rcases hp with⟨k,hk,rfl⟩|⟨Y,T,hT,rfl,a0⟩
   ·rw[hk]at h;clear C;go_wp2
    go_ret3
    unfold qxd;rw[ku h];exact⟨ku a2,Or.inl ⟨au,rfl⟩⟩
   ·rw[Y]at h;have a:=vkw R Y;obtain⟨t,ht⟩:∃t,t=(yx (jo s).1).1:=⟨_,rfl⟩;rw[<-ht]at h a a0;have aL:=pG ht;have N:=pG a0;have b:=pG (show zxs t=if 0<=kxm t then (4,kxm t) else if 0<=jd (kwi t) (qjs t) then (5,jd (kwi t) (qjs t)) else if qxe t then (0,0) else (6,0) from rfl);clear C ht a0;go_wp2_with fail
    refine(jzt w2 T t (ku N) a.ok a.rules a.nevers (λr hr=>(a.pars r hr).1) a.sets a.tops).mono ?_;rintro e w3 ⟨rfl,D⟩;have a3:=pG ((ku a2).trans (D.mono aj));have x:=pG ((ku N).below D);have aR:=D.size;generalize kxm t=P at b |-;clear D N;by_cases hP:0<=P
    ·rw[if_pos hP]at b;go_wp2
     go_ret3
     unfold qxd;rw[ku h];simp only[ku b];exact⟨ku a3,Or.inl ⟨ak,rfl⟩⟩
    ·rw[if_neg hP]at b;go_wp2_with fail
     refine(vzr w3 T t (ku x) a.ok a.rules a.nevers (λr hr=>(a.pars r hr).1) a.glob).mono ?_;rintro e w4 ⟨rfl,E⟩;have aH:=pG ((ku a3).trans (E.mono aj));have y:=pG ((ku x).below E);have aS:=E.size;generalize kwi t=G at b |-;clear E x;go_wp2_with fail
     refine(vxg w4 T t (ku y) a.ok a.rules a.nevers a.pars).mono ?_;rintro e w5 ⟨rfl,H⟩;have a4:=pG ((ku aH).trans (H.mono aj));have z:=pG ((ku y).below H);have aT:=H.size;generalize qjs t=U at b |-;clear H y;go_wp2_with fail
     refine(first_any _ _ _).mono ?_;rintro e w6 ⟨rfl,rfl⟩;generalize jd G U=F at b |-;by_cases hF:0<=F
     ·rw[if_pos hF]at b;go_wp2
      go_ret3
      unfold qxd;rw[ku h];simp only[ku b];exact⟨ku a4,Or.inl ⟨ak,rfl⟩⟩
     ·rw[if_neg hF,jzb]at b;go_wp2_with fail
      refine(qz2 w6 T t (ku z) a.rules a.nevers).mono ?_;rintro e w7 ⟨rv,rs,rfl,Z,aC,I⟩;have L:=pG ((ku a4).trans (I.mono aj));have A:=pG ((ku z).below I);have aU:=I.size;obtain⟨ra,rc,rfl,aG⟩:=kq5 Z;have aM:=pG aG;have aK:=pG aC;have aP:(t.rules++t.nevers).length<=1602:=by have:=a.rules;have:=a.nevers;rw[wY];omega
      have a5:=pG (jvu.start (W:=w7) (wr:=w7) (f:=zx2 t) (items:=t.rules++t.nevers) (Below.refl _ _));have aI:=pG a.gd;have aJ:=pG a.pars;generalize t.rules++t.nevers=RN at *;clear I z Z aC aG;go_wp2_with fail
      go_loopw [10,11,12] (λi _ _ wr=>jvu w7 (zx2 t) RN i wr) (λi _ _ _=>RN.length-(intOf i).toNat)
      case atStart=>exact ku a5
      case round=>
       obtain⟨k,hk,rfl,m,hb⟩:=hrel;have M:=pG hb;have aN:=hb.size;by_cases l:k<RN.length
       ·obtain⟨g,rfl,j⟩:=ku aM k l;obtain⟨vp,vg,vb,qs,⟨f0,f1,f2,f3,f4,f5⟩,u,J,X,K⟩:=kvl k l (ku aK);have e0:=wZ hb ((j (k*6) aj).trans f0);have e1:=wZ hb ((j (k*6+1) aj).trans f1);have e2:=wZ hb ((j (k*6+2) aj).trans f2);have e3:=wZ hb ((j (k*6+3) aj).trans f3);have e4:=wZ hb ((j (k*6+4) aj).trans f4);have e5:=wZ hb ((j (k*6+5) aj).trans f5);have g0:=(j (k*6) aj).trans f0;have g1:=(j (k*6+1) aj).trans f1;have g2:=(j (k*6+2) aj).trans f2;have g3:=(j (k*6+3) aj).trans f3;have g4:=(j (k*6+4) aj).trans f4;have g5:=(j (k*6+5) aj).trans f5;have p:=zvf l m;obtain⟨y1,y2,y3,y4⟩:=ku aI _ (wX l);obtain⟨z1,z2,z3,z4,z5⟩:=ku aJ _ (wX l);have aB:=jm.len K;generalize RN[k]=r at e0 e1 e2 g0 g1 g2 u J K y1 y2 y3 y4 z1 z2 z3 z4 z5 p aB;obtain⟨ma,ml,mc,rfl⟩:=zq u;obtain⟨O,rfl⟩:=J.ptr;obtain⟨ba,bn,bc,rfl⟩:=zq X;have a6:=pG (kyn r.guard wr.drew T (T+1) (T+1) t r.name r.params ma ml mc O ba bn bc (.pointer O) y1 y2 ((ku A).below hb.drew) a.ok a.fit y4 (qj u hb.drew) z1 (J.below hb.drew));have a8:=pG (λ(w9:World) (h9:pU w7 w9)=>vxz r.body w9 T (T+1) (T+1) t r.name r.params ma ml mc O ba bn bc (.slice ba bn bc) qs y3 ((ku A).below h9) a.ok a.fit y4 (qj u h9) z1 (qj X h9) (K.below h9) aj);have aD:zx2 t r=(((kq2 t r.params r.guard).toList==o7)&&kzy t r.params r.body):=rfl;rw[aD]at p;have q:=pG p;generalize kq2 t r.params r.guard=ty at *;generalize kzy t r.params r.body=wl at *;unfold qz3 at *;clear j f0 f1 f2 f3 f4 f5 u J X K y1 y2 y3 y4 z1 z2 z3 z4 z5 aB p aD m hb a5;go_wp2_with fail
        go_region_held3 (λw'=>w'.cell? ⟨g,k*6,none⟩=some (.string r.name.kind)/\w'.cell? ⟨g,k*6+1,none⟩=some (.string r.name.text)/\w'.cell? ⟨g,k*6+2,none⟩=some (.int .i64 r.name.at_)/\w'.cell? ⟨g,k*6+3,none⟩=some (.slice ma ml mc)/\w'.cell? ⟨g,k*6+4,none⟩=some (.pointer O)/\w'.cell? ⟨g,k*6+5,none⟩=some (.slice ba bn bc))
         (first|exact⟨e0,e1,e2,e3,e4,e5⟩|exact⟨n0,n1,n2,n3,n4,n5⟩)
         ((go_at_call 67;refine(ku a6).mono ?_;rintro e w9 ⟨rfl,a9⟩;have d:=pG ((ku M).drew.trans (a9.mono (by simpa using aN)));have n0:=wZ (ku d) g0;have n1:=wZ (ku d) g1;have n2:=wZ (ku d) g2;have n3:=wZ (ku d) g3;have n4:=wZ (ku d) g4;have n5:=wZ (ku d) g5;clear a9))
        have a7:=pG (ku a8 w9.drew (ku d).drew);clear e0 e1 e2 e3 e4 e5 a8 a6;go_wp2_with fail
        go_region_held3 (λw'=>w'.cell? ⟨g,k*6,none⟩=some (.string r.name.kind)/\w'.cell? ⟨g,k*6+1,none⟩=some (.string r.name.text)/\w'.cell? ⟨g,k*6+2,none⟩=some (.int .i64 r.name.at_)/\w'.cell? ⟨g,k*6+3,none⟩=some (.slice ma ml mc)/\w'.cell? ⟨g,k*6+4,none⟩=some (.pointer O)/\w'.cell? ⟨g,k*6+5,none⟩=some (.slice ba bn bc))
         (first|exact⟨n0,n1,n2,n3,n4,n5⟩|exact⟨p0,p1,p2,p3,p4,p5⟩)
         ((go_at_call 68;refine(ku a7).mono ?_;rintro e aV ⟨rfl,S⟩;have c:=pG ((ku d).drew.trans (S.mono (by simpa using(ku d).size)));have p0:=wZ (ku c) g0;have p1:=wZ (ku c) g1;have p2:=wZ (ku c) g2;have p3:=wZ (ku c) g3;have p4:=wZ (ku c) g4;have p5:=wZ (ku c) g5;clear S))
        clear n0 n1 n2 n3 n4 n5 p0 p1 p2 p3 p4 p5 a7 g0 g1 g2 g3 g4 g5;cases aF:(ty.toList==o7)
        ·rw[aF]at q;go_wp2
         go_ret3
         unfold qxd;rw[ku h,ku b,ku q];exact⟨(ku L).trans ((ku c).mono aj),Or.inl ⟨au,rfl⟩⟩
        ·rw[aF]at q;cases wl
         ·go_wp2
          go_ret3
          unfold qxd;rw[ku h,ku b,ku q];exact⟨(ku L).trans ((ku c).mono aj),Or.inl ⟨au,rfl⟩⟩
         ·go_wp2
          go_roundw
          case rel=>exact⟨k+1,aj,eu,by rw[ku q];rfl,ku c⟩
          case measure=>exact qQ
       ·have hd:=zvo l m;rw[hd]at b;clear hd m;go_wp2
        go_ret3
        unfold qxd;rw[<-ku aL,ku h,ku b];exact⟨(ku L).trans ((ku M).mono aj),Or.inr ⟨rfl,rfl,T,aj,rfl,(ku A).below (ku M)⟩⟩
  ·rw[hk]at h;clear B;go_wp2
   go_ret3
   unfold qxd;rw[ku h];exact⟨ku a1,Or.inl ⟨au,rfl⟩⟩
def vj2 (s:ByteArray)(ts:List ByteArray)(r:zzi):Prop:=
 (¬(qk5 s).1=0/\r=(noView,false,(qk5 s).1,(qk5 s).2))\/((qk5 s).1=0/\60<ts.length/\r=(noView,false,8,0)) \/
  ((qk5 s).1=0/\¬60<ts.length/\PlOk (yx (jo s).1).1/\∃S0,kw4 (yx (jo s).1).1 (yx (jo s).1).1.vars S0/\qkg (yx (jo s).1).1 ts 0 S0=some r)
theorem vzu (s:ByteArray)(w:World)(ts:List ByteArray)(pa:Option Addr)(pn pc:Nat)(hn:ts.length=pn)(hP:kww w pa ts)(r:zzi)(k:vj2 s ts r):
  qJ 12 #[.string s,.slice pa pn pc] w λe w'=>kkz w r e w':=by
 subst hn;obtain⟨W,q⟩:∃W,W=w.alloc (.cells #[.string ⟨#[]⟩,.slice none 0 0,.slice none 0 0,.slice none 0 0,.bool false] 24):=⟨_,rfl⟩;have J:pU w W:=by rw[q];exact below_alloc1 w _
 have Q:w.heap.size<W.heap.size:=by rw[q];simp
 have hR:W.heap[w.heap.size]?=some (.cells #[.string ⟨#[]⟩,.slice none 0 0,.slice none 0 0,.slice none 0 0,.bool false] 24 (0,0)):=by rw[q];exact qg _ _
 have X:=pG hR;have V:=pG J;have Z:=pG q.symm;have HP:=pG hP;have H:=pG (vky s W);clear hP J q hR;go_enter func12,ntmps12
 go_wp2_with fail
 rw[ku Z];refine(ku H).mono ?_;rintro e U ⟨f,a⟩;have a2:=f.size;have c:pU w U:=(ku V).trans (f.mono (Qs Q));have d:=(f.block w.heap.size Q).trans (ku X);have R:=wu d;obtain⟨r0,r1,r2,r3,r4,y0,y1,y2,y3,y4⟩:=jl d;have l:=pG c;have p:=pG d;have G:∀(x y:Int),kkz w (noView,false,x,y) (.returned (.tuple #[.agg #[.string ⟨#[]⟩,.slice none 0 0,.slice none 0 0,.slice none 0 0,.bool false],.int .i64 x,.int .i64 y])) (((((U.setCell ⟨w.heap.size,0,none⟩ (.string ⟨#[]⟩)).setCell ⟨w.heap.size,1,none⟩ (.slice none 0 0)).setCell ⟨w.heap.size,2,none⟩ (.slice none 0 0)).setCell ⟨w.heap.size,3,none⟩ (.slice none 0 0)).setCell ⟨w.heap.size,4,none⟩ (.bool false)):=λx y=>
  ⟨none,0,0,none,0,0,none,0,0,rfl,wB _ _ _ _,wB _ _ _ _,wB _ _ _ _,kz9 c _ _ _ _ _⟩
 have F:=pG G;clear f c d X H G;obtain⟨c1,c2,hc⟩:∃c1 c2,qk5 s=(c1,c2):=⟨_,_,rfl⟩;unfold vj2 at k;rw[hc]at k a;dsimp only at k a;rcases a with⟨i,rfl⟩|⟨rfl,rfl,T,hT,rfl,u⟩
 ·have hE:r=(noView,false,c1,c2):=by
   rcases k with⟨_,h⟩|⟨h,_⟩|⟨h,_⟩
   ·exact h
   ·exact absurd h i
   ·exact absurd h i
  subst hE;have a1:(c1 != 0)=true:=by simp[i]
  have m:=pG ((ku F) c1 c2);clear k i;go_wp2
  refine rY (v:=.tuple #[.agg #[.string ⟨#[]⟩,.slice none 0 0,.slice none 0 0,.slice none 0 0,.bool false],.int .i64 c1,.int .i64 c2]) (um results12 _ _ w.heap.size _ _ _ _ rfl (kjw (ku p) _ _ _ _ _) underlying24 rfl ah) rfl ?_;exact ku m
 ·rcases k with⟨h,_⟩|⟨_,S,rfl⟩|⟨_,S,P,S0,I,L⟩
  ·exact absurd rfl h
  ·have B:(60:Int)<ts.length:=by omega
   have m:=pG ((ku F) 8 0);clear u;go_wp2
   refine rY (v:=.tuple #[.agg #[.string ⟨#[]⟩,.slice none 0 0,.slice none 0 0,.slice none 0 0,.bool false],.int .i64 8,.int .i64 0]) (um results12 _ _ w.heap.size _ _ _ _ rfl (kjw (ku p) _ _ _ _ _) underlying24 rfl ah) rfl ?_;exact ku m
  ·have B:¬(60:Int)<ts.length:=by omega
   have E:=pG (vzp U T _ u P ts pa ts.length pc rfl ((ku HP).below (ku l) (wJ _)) aj S0 I r L);have j:=(ku l).size;clear u P I L r0 r1 r2 r3 r4 y0 y1 y2 y3 y4;go_wp2_with fail
   refine(ku E).mono ?_;rintro e w5 ⟨z,en,A,wa,D,C,ba,bn,bc,rfl,M,N,O,g⟩;have a3:=g.size;have t:=(ku l).trans (g.mono j);have b:=(g.block w.heap.size R).trans (ku p);obtain⟨r0,r1,r2,r3,r4,y0,y1,y2,y3,y4⟩:=jl b;have a0:=wu b;have K:=qv6 b (bad:=[24]) ak (.string r.1.text) (.slice z en A) (.slice wa D C) (.slice ba bn bc) (.bool r.2.1);have m:=pG (show kkz w r (.returned (.tuple #[.agg #[.string r.1.text,.slice z en A,.slice wa D C,.slice ba bn bc,.bool r.2.1],.int .i64 r.2.2.1,.int .i64 r.2.2.2])) _ from⟨z,en,A,wa,D,C,ba,bn,bc,rfl,zu j (jw M K (dw.none _) ak),zu j (jw N K (dw.none _) ak),zu j (jw O K (dw.none _) ak),kz9 t _ _ _ _ _⟩);have Y:=pG b;clear M N O g t b K E;go_wp2
   refine rY (v:=.tuple #[.agg #[.string r.1.text,.slice z en A,.slice wa D C,.slice ba bn bc,.bool r.2.1],.int .i64 r.2.2.1,.int .i64 r.2.2.2]) (um results12 _ _ w.heap.size _ _ _ _ rfl (kjw (ku Y) _ _ _ _ _) underlying24 rfl ah) rfl ?_;exact ku m
end Go.Proofs.YtpmcnonmkghokaaGreatDoor
namespace Go.Proofs.YtpmcnonmkghokaaGreatDoor
open Go.Proofs.Tryz
open Go.RowKit
variable {x:Int}{vars:List MVar}{ksz ssz:List UInt8->Nat}{v:MVar}{B size:Nat}{tab:Tab}{ty:VT}
structure VIn (ksz ssz:List UInt8->Nat)(B:Nat)(ty:VT)(x:Int):Prop where
 tru:ty.fam=1->x=0\/x=1
 num:ty.fam=2->-(B:Int)<=x/\x<=B
 kin:ty.fam=3->0<=x/\x<ksz ty.name.toList
 set:ty.fam=4->0<=x/\x<=ssz ty.name.toList
 non:ty.fam=5->x=0
 fam:ty.fam=1\/ty.fam=2\/ty.fam=3\/ty.fam=4\/ty.fam=5
structure MvOk (tab:Tab)(ksz ssz:List UInt8->Nat)(size:Nat)(v:MVar)(d:VrT):Prop where
 fit:v.first+v.count<=size
 cnt:v.count=if d.arr then ssz d.over.text.toList else 1
 pos:1<=v.count
 few:v.texts.length<=200
 tru:(kjv tab d.si).fam=1->v.texts.length=2
 kin:(kjv tab d.si).fam=3->v.texts.length=ksz (kjv tab d.si).name.toList
 set:(kjv tab d.si).fam=4->v.texts.length=ssz (kjv tab d.si).name.toList+1
structure EnvOk (tab:Tab)(vars:List MVar)(mt:kq1)(ksz ssz:List UInt8->Nat)(size:Nat):Prop where
 mem:∀s,(zl tab s).role=3->(kj1 mt s).isVar=false/\(kj1 mt s).num<ksz (zl tab s).kind.toList
 var:∀s,(zl tab s).role=4->(kj1 mt s).isVar=true/\∃v,vars[(kj1 mt s).num]?=some v/\MvOk tab ksz ssz size v (zl tab s).var
 arr:∀s,(zl tab s).var.arr=true->(zl tab s).role=4
 kb:∀s,ksz s<=1000
 sb:∀s,ssz s<=1000
 size:size<=1000
structure kz2 (vars:List MVar)(size:Nat)(st:List Int):Prop where
 len:st.length=size
 val:∀v∈vars,∀j,j<v.count->∃x,st[v.first+j]?=some x/\0<=x/\x<v.texts.length
structure ParOk (ssz:List UInt8->Nat)(l:List PP)(ms:List Int):Prop where
 len:ms.length=l.length
 val:∀i (hi:i<l.length) (hm:i<ms.length),0<=ms[i]/\ms[i]<ssz l[i].set_.text.toList
theorem kzu (h1:-1000000000<=x)(a:x<=1000000000):small x=some x:=by
 unfold small;rw[tV h1,tV a];rfl
theorem pqp:∀(l:List PP) (s:List UInt8),fpB l s=true->∃h:qjb l s<l.length,l[qjb l s]=fpP l s
 |[],s,h=>by simp[fpB]at h
 |p::l,s,h=>by
  cases a:(p.name.text.toList==s)
  ·have b:fpB l s=true:=by unfold fpB at h |-;rw[QB,a]at h;exact h
   obtain⟨c,d⟩:=pqp l s b;have e:qjb (p::l) s=qjb l s+1:=by rw[qjb,a];rfl
   refine⟨by rw[e];simpa using c,?_⟩;rw[fpP,a];simp only[e,Jy];exact d
  ·have e:qjb (p::l) s=0:=by rw[qjb,a];rfl
   refine⟨by rw[e];simp,?_⟩;rw[fpP,a];simp only[e,Qi];rfl
theorem pj9 (tab:Tab)(x:SiT):(kjv tab x).fam=1\/(kjv tab x).fam=2\/(kjv tab x).fam=3\/(kjv tab x).fam=4:=by
 unfold kjv;split
 ·exact Or.inl rfl
 ·split
  ·exact Or.inr (Or.inl rfl)
  ·split
   ·exact Or.inr (Or.inr (Or.inr rfl))
   ·exact Or.inr (Or.inr (Or.inl rfl))
theorem pqx {d:VrT}(h:MvOk tab ksz ssz size v d)  (a:0<=x)(h1:x<v.texts.length):VIn ksz ssz 200 (kjv tab d.si) x:=by
 have b:=h.few;refine⟨λe=>?_,λe=>aj,λe=>?_,λe=>?_,λe=>?_,?_⟩
 ·have:=h.tru e;omega
 ·have:=h.kin e;omega
 ·have:=h.set e;omega
 ·rcases pj9 tab d.si with q|q|q|q<;>rw[q]at e<;>cases e
 ·rcases pj9 tab d.si with q|q|q|q
  ·exact Or.inl q
  ·exact Or.inr (Or.inl q)
  ·exact Or.inr (Or.inr (Or.inl q))
  ·exact Or.inr (Or.inr (Or.inr (Or.inl q)))
theorem VIn.mono {a: Nat}   (h:VIn ksz ssz B ty x)(hb:B<=a):VIn ksz ssz a ty x:=
 ⟨h.tru,λe=>by have:=h.num e;omega,h.kin,h.set,h.non,h.fam⟩
theorem VIn.small (h:VIn ksz ssz B ty x)(a:∀s,ksz s<=1000)(b:∀s,ssz s<=1000)(hb:B<=1000000):-1000000<=x/\x<=1000000:=by
 rcases h.fam with e|e|e|e|e
 ·have:=h.tru e;omega
 ·have:=h.num e;omega
 ·have:=h.kin e;have:=a ty.name.toList;omega
 ·have:=h.set e;have:=b ty.name.toList;omega
 ·have:=h.non e;omega
variable {tab:Tab} {vars:List MVar} {mt:kq1} {ksz ssz:List UInt8->Nat} {size:Nat} {l:List PP} {ms st:List Int}
theorem jj1 (h:EnvOk tab vars mt ksz ssz size)(m:ParOk ssz l ms)(t:kz2 vars size st)(n:Tok)(u:(kjc tab l n).fam≠0):∃x,jj2 vars mt l ms st n.text.toList=some x/\VIn ksz ssz 200 (kjc tab l n) x:=by
 cases a:fpB l n.text.toList
 ·cases b:((zl tab n.text.toList).role==3)
  ·cases f:((zl tab n.text.toList).role==4&&!(zl tab n.text.toList).var.arr)
   ·exact absurd (by unfold kjc;rw[a,b,f];rfl) u
   ·have c:kjc tab l n=kjv tab (zl tab n.text.toList).var.si:=by unfold kjc;rw[a,b,f];rfl
    rw[wW,rQ,Qm]at f;obtain⟨i,v,g,d⟩:=h.var _ f.1;obtain⟨x,p,j,h1⟩:=t.val v (Qp g) 0 (by have:=d.pos;omega);rw[sU]at p;have s:=d.few;refine⟨x,?_,by rw[c];exact pqx d j h1⟩;unfold jj2;rw[a,i,g];show(st[v.first]?).bind small=some x;rw[p];exact kzu aj aj
  ·have c:kjc tab l n=⟨3,(zl tab n.text.toList).kind⟩:=by unfold kjc;rw[a,b];rfl
   rw[rQ]at b;obtain⟨i,y⟩:=h.mem _ b;refine⟨(kj1 mt n.text.toList).num,by unfold jj2;rw[a,i];rfl,?_⟩;rw[c];exact⟨λe=>gZ,λe=>gZ,λ_=>⟨aj,by show _<((ksz (zl tab n.text.toList).kind.toList:Nat):Int);omega⟩,λe=>gZ,λe=>gZ,au⟩
 ·have c:kjc tab l n=⟨4,(fpP l n.text.toList).set_.text⟩:=by unfold kjc;rw[a];rfl
  obtain⟨q,w⟩:=pqp l _ a;have k:qjb l n.text.toList<ms.length:=by rw[m.len];exact q
  obtain⟨j,h1⟩:=m.val _ q k;rw[w]at h1;have hb:=h.sb (fpP l n.text.toList).set_.text.toList;refine⟨ms[qjb l n.text.toList]+1,?_,?_⟩
  ·unfold jj2;rw[a,tY k];show(small ms[qjb l n.text.toList]).map (·+1)=_;rw[kzu aj aj];rfl
  ·rw[c];exact⟨λe=>gZ,λe=>gZ,λe=>gZ,λ_=>⟨aj,by show _<=((ssz (fpP l n.text.toList).set_.text.toList:Nat):Int);omega⟩,λe=>gZ,au⟩
theorem vw3 (c:EnvOk tab vars mt ksz ssz size)(p:ParOk ssz l ms)(s:kz2 vars size st)(v:MVar)(d:VrT)(b:MvOk tab ksz ssz size v d)(i:Tok)(hi:(i.kind.toList==[])=false->d.arr=true/\qkh tab l i d.over=true):∃j w,atO vars mt l ms st v i=some ((v.first:Int)+(j:Nat),w)/\j<v.count:=by
 unfold atO;have k:=b.fit;have t:=c.size;cases m:(i.kind.toList==[])
 ·obtain⟨g,a⟩:=hi m;rw[if_neg au];unfold qkh at a;rw[wW,rQ,rQ]at a;obtain⟨x,h1,f⟩:=jj1 c p s i (by rw[a.1];decide);have q:=f.set a.1;rw[a.2]at q;have h:=b.cnt;rw[g,if_pos rfl]at h;have hb:=c.sb d.over.text.toList;rw[h1];show ∃j w,(if x==0 then some ((v.first:Int),true) else (small x).bind λ_=>(small v.first).map λ_=>((v.first:Int)+x-1,false))=some ((v.first:Int)+(j:Nat),w)/\j<v.count;cases e:(x==0)
  ·have u:x≠0:=by simpa using e
   refine⟨x.toNat-1,false,?_,aj⟩;rw[kzu aj aj,kzu aj aj];show some ((v.first:Int)+x-1,false)=_;congr 2
   omega
  ·exact⟨0,true,au,b.pos⟩
 ·exact⟨0,false,au,b.pos⟩
theorem vkh (d:EnvOk tab vars mt ksz ssz size)(p:ParOk ssz l ms)(k:kz2 vars size st)(n i:Tok)(e:(kzh tab l n i).fam≠0):∃r,zky vars mt l ms st n i=some r/\VIn ksz ssz 200 (kzh tab l n i) r.1:=by
 cases a:(i.kind.toList==[])
 ·cases b:(zl tab n.text.toList).var.arr
  ·exact absurd (by unfold kzh;rw[a,b];rfl) e
  ·cases m:qkh tab l i (zl tab n.text.toList).var.over
   ·exact absurd (by unfold kzh;rw[a,b,m];rfl) e
   ·have h:kzh tab l n i=kjv tab (zl tab n.text.toList).var.si:=by unfold kzh;rw[a,b,m];rfl
    obtain⟨_,v,f,c⟩:=d.var _ (d.arr _ b);obtain⟨j,w,h1,g⟩:=vw3 d p k v _ c i (λ_=>⟨b,m⟩);obtain⟨x,q,s,t⟩:=k.val v (Qp f) j g;have u:=c.few;refine⟨(x,w),?_,by rw[h];exact pqx c s t⟩;unfold zky;rw[a,if_neg au,f];show(atO vars mt l ms st v i).bind _=_;rw[h1];show(if (v.first:Int)+(j:Nat)<0 then none else (st[((v.first:Int)+(j:Nat)).toNat]?).bind λx=>(small x).map λy=>(y,w))=_;rw[if_neg aj,show((v.first:Int)+(j:Nat)).toNat=v.first+j by omega,q];show(small x).map _=_;rw[kzu aj aj];rfl
 ·have h:kzh tab l n i=kjc tab l n:=by unfold kzh;rw[a];rfl
  rw[h]at e |-;obtain⟨x,h1,g⟩:=jj1 d p k n e;refine⟨(x,false),?_,g⟩;unfold zky;rw[a,if_pos rfl,h1];rfl
def kjd:PX->Nat
 |.nil=>0
 |.node _ _ _ a c=>kjd a+kjd c+1
def zqy:PX->Prop
 |.nil=>True
 |.node _ _ x a c=>((opN x.op.toList==3)=true->0<=x.n/\x.n<=9)/\zqy a/\zqy c
theorem jqo (ksz ssz:List UInt8->Nat)(B:Nat)(c:Bool):VIn ksz ssz B ⟨1,⟨#[]⟩⟩ (kxf c):=
 ⟨λ_=>by cases c;exact Or.inl rfl;exact Or.inr rfl,λe=>gZ,λe=>gZ,λe=>gZ,λe=>gZ,Or.inl rfl⟩
theorem qqw {f:Int}{c:Bool}(h:(kqm f c).fam≠0):c=true/\kqm f c=⟨f,⟨#[]⟩⟩:=by
 unfold kqm at h |-;cases c
 ·exact absurd rfl h
 ·exact⟨rfl,rfl⟩
theorem ky0 {c:Prop}[Decidable c]{a b:Int}(ha:0<=a)(hb:0<=b):0<=if c then a else b:=by split<;>assumption
theorem pjb (o:List UInt8):0<=opN o:=by
 unfold opN;exact ky0 ak (ky0 ak (ky0 ak (ky0 ak (ky0 ak (ky0 ak (ky0 ak (ky0 ak (ky0 ak (ky0 ak (ky0 ak (ky0 ak (ky0 ak ak))))))))))))
theorem jv9 {o:Int}{x y:VT}(h:(qwa o x y).fam≠0):x.fam≠0/\y.fam≠0/\((o==6||o==7)=true->(x.fam=1/\y.fam=1)/\qwa o x y=⟨1,⟨#[]⟩⟩)/\((o==6||o==7)=false->(o==11||o==12)=true->(x.fam=2/\y.fam=2)/\qwa o x y=⟨2,⟨#[]⟩⟩)/\((o==6||o==7)=false->(o==11||o==12)=false->qwa o x y=⟨1,⟨#[]⟩⟩):=by
 unfold qwa at h |-;cases g:(o==6||o==7)
 ·rw[g]at h;simp only[if_neg (show ¬false=true by simp)]at h |-;cases f:(o==11||o==12)
  ·rw[f]at h;simp only[if_neg (show ¬false=true by simp)]at h |-;cases d:(o==10)
   ·rw[d]at h;simp only[if_neg (show ¬false=true by simp)]at h |-;obtain⟨a,b⟩:=qqw h;have i:x.fam≠0/\y.fam≠0:=by
     unfold qwo kkn at a;simp only[Qu,wW,rQ,Qm,Qw]at a;rcases a with(((⟨⟨⟨h1,_⟩,c⟩,_⟩)|⟨h1,c⟩)|⟨h1,c⟩)
     ·exact⟨c,by rw[<-h1];exact c⟩
     ·exact⟨by rw[h1];decide,by rw[c];decide⟩
     ·exact⟨by rw[h1];decide,by rw[c];decide⟩
    exact⟨i.1,i.2,(λe=>kX),(λ_ e=>kX),λ_ _=>b⟩
   ·rw[d]at h;simp only[if_pos rfl]at h |-;obtain⟨a,b⟩:=qqw h;rw[wW,rQ,rQ]at a;exact⟨by rw[a.1];decide,by rw[a.2];decide,(λe=>kX),(λ_ e=>kX),λ_ _=>b⟩
  ·rw[f]at h;simp only[if_pos rfl]at h |-;obtain⟨a,b⟩:=qqw h;rw[wW,rQ,rQ]at a;exact⟨by rw[a.1];decide,by rw[a.2];decide,(λe=>kX),(λ_ _=>⟨a,b⟩),λ_ e=>kX⟩
 ·rw[g]at h;simp only[if_pos rfl]at h |-;obtain⟨a,b⟩:=qqw h;rw[wW,rQ,rQ]at a;exact⟨by rw[a.1];decide,by rw[a.2];decide,(λ_=>⟨a,b⟩),(λe=>kX),λe=>kX⟩
theorem val_ok (h:EnvOk tab vars mt ksz ssz size)(D:ParOk ssz l ms)(E:kz2 vars size st):∀(x:PX),kym x->zqy x->isNil x=false->kjd x<=4000->(uz tab l x).fam≠0->∃r,ky7 vars mt l ms st x=some r/\VIn ksz ssz (200*kjd x) (uz tab l x) r.1
 |.nil,_,_,hn,_,_=>by cases hn
 |.node i j x a c,hx,hnum,hn,hsz,ht=>by
  obtain⟨⟨v,Q⟩,H,I⟩:=hx;obtain⟨J,K,L⟩:=hnum;have U:kjd (.node i j x a c)=kjd a+kjd c+1:=rfl;rw[U]at hsz |-;have w:=val_ok h D E a H K;have R:=val_ok h D E c I L;rw[uz]at ht |-;rw[ky7];have Y:=pjb x.op.toList;generalize opN x.op.toList=o at *;cases f:(o==0)
  ·cases h1:(o==1)
   ·cases g:(o==2)
    ·cases k:(o==3)
     ·cases u:(o==4)
      ·cases B:(o==5)
       ·
        have m:6<=o:=by
         have:o≠0/\o≠1/\o≠2/\o≠3/\o≠4/\o≠5:=⟨by simpa using f,by simpa using h1,by simpa using g,by simpa using k,by simpa using u,by simpa using B⟩;omega
        simp only[f,h1,g,k,u,B,Qr,Qk,Zp,if_neg (show ¬false=true by simp)]at ht |-;obtain⟨ga,T,k1,k2,k3⟩:=jv9 ht;obtain⟨p,M,s⟩:=w (v aj) aj ga;obtain⟨q,N,t⟩:=R (Q m) aj T;have sp:=s.small h.kb h.sb aj;have sq:=t.small h.kb h.sb aj;refine⟨(kxv o p.1 q.1,p.2||q.2),?_,?_⟩
        ·rw[M,N];show(small p.1).bind _=_;rw[kzu aj aj];show(small q.1).map _=_;rw[kzu aj aj];rfl
        ·show VIn ksz ssz (200*(kjd a+kjd c+1)) (qwa o (uz tab l a) (uz tab l c)) (kxv o p.1 q.1);cases d:(o==6||o==7)
         ·cases b:(o==11||o==12)
          ·rw[k3 d b];rw[QY]at d b;unfold kxv;rw[d.1,d.2,b.1,b.2];cases X:(o==10)
           ·cases Z:(o==9)
            ·exact jqo _ _ _ _
            ·exact jqo _ _ _ _
           ·exact jqo _ _ _ _
          ·obtain⟨⟨y,z⟩,A⟩:=k2 d b;rw[A];have b1:=s.num y;have S:=t.num z;rw[QY]at d;have V:kxv o p.1 q.1=p.1+q.1\/kxv o p.1 q.1=p.1-q.1:=by
            unfold kxv;rw[d.1,d.2];cases F:(o==11)
            ·rw[F,Qr]at b;rw[b];exact Or.inr rfl
            ·exact Or.inl rfl
           refine⟨λe=>gZ,λ_=>?_,λe=>gZ,λe=>gZ,λe=>gZ,Or.inr (Or.inl rfl)⟩;rcases V with e|e<;>rw[e]<;>constructor<;>omega
         ·obtain⟨⟨y,z⟩,A⟩:=k1 d;rw[A];have b1:=s.tru y;have S:=t.tru z;refine⟨λ_=>?_,λe=>gZ,λe=>gZ,λe=>gZ,λe=>gZ,Or.inl rfl⟩;unfold kxv;cases G:(o==6)
          ·rw[G,Qr]at d;rw[d];show max p.1 q.1=0\/max p.1 q.1=1;omega
          ·show min p.1 q.1=0\/min p.1 q.1=1;omega
       ·
        have m:o=5:=by simpa using B
        subst m;simp only[f,h1,g,k,u,Qr,Qk,Zp,if_neg (show ¬false=true by simp),if_pos rfl,beq_self_eq_true]at ht |-;obtain⟨C,W⟩:=qqw ht;rw[W];rw[rQ]at C;obtain⟨r,O,P⟩:=w (v ak) aj (by rw[C];decide);have:=P.tru C;rw[O];refine⟨(1-r.1,r.2),?_,⟨λ_=>by show(1-r.1=0\/1-r.1=1);omega,λe=>gZ,λe=>gZ,λe=>gZ,λe=>gZ,Or.inl rfl⟩⟩;show(small r.1).map _=_;rw[kzu aj aj];rfl
      ·simp only[f,h1,g,k,u,Qr,Qk,Zp,if_neg (show ¬false=true by simp),if_pos rfl]at ht |-;obtain⟨r,h1,g⟩:=vkh h D E x.name x.index ht;exact⟨r,h1,g.mono aj⟩
     ·simp only[f,h1,g,Qr,Qk,Zp,if_neg (show ¬false=true by simp),if_pos rfl]at ht |-;obtain⟨n0,n9⟩:=J k;exact⟨_,rfl,⟨λe=>gZ,λ_=>⟨by show -(((200*(kjd a+kjd c+1):Nat)):Int)<=x.n;omega,by show x.n<=((200*(kjd a+kjd c+1):Nat):Int);omega⟩,λe=>gZ,λe=>gZ,λe=>gZ,Or.inr (Or.inl rfl)⟩⟩
    ·have m:o=2:=by simpa using g
     subst m;simp only[f,h1,Qr,Qk,Zp,if_neg (show ¬false=true by simp),if_pos rfl,beq_self_eq_true,show((2:Int)==3)=false from rfl,Ju]at ht |-;exact⟨_,rfl,⟨λe=>gZ,λe=>gZ,λe=>gZ,λe=>gZ,λ_=>rfl,au⟩⟩
   ·simp only[f,h1,Qr,Q9,Ju,if_neg (show ¬false=true by simp),if_pos rfl]at ht |-;exact⟨_,rfl,⟨λ_=>Or.inl rfl,λe=>gZ,λe=>gZ,λe=>gZ,λe=>gZ,Or.inl rfl⟩⟩
  ·simp only[f,Q9,if_pos rfl]at ht |-;exact⟨_,rfl,⟨λ_=>Or.inr rfl,λe=>gZ,λe=>gZ,λe=>gZ,λe=>gZ,Or.inl rfl⟩⟩
end Go.Proofs.YtpmcnonmkghokaaGreatDoor
namespace Go.Proofs.YtpmcnonmkghokaaGreatDoor
open Go.Proofs.Tryz
open Go.RowKit
variable {x:Int}{vars:List MVar}{ksz ssz:List UInt8->Nat}{v:MVar}{B size:Nat}{tab:Tab}{ty:VT}
def qqf (vars:List MVar):Prop:=∀(i j:Nat) (u v:MVar),vars[i]?=some u->vars[j]?=some v->i≠j->u.first+u.count<=v.first\/v.first+v.count<=u.first
theorem kz2.put {st:List Int}(h:kz2 vars size st)(t:qqf vars){k:Nat}  (c:vars[k]?=some v){j:Nat}(z:j<v.count)  (s:0<=x)(h1:x<v.texts.length):kz2 vars size (st.set (v.first+j) x):=by
 refine⟨by rw[Jv];exact h.len,λu f i hi=>?_⟩;obtain⟨y,g,l,p⟩:=h.val u f i hi;obtain⟨m,w,rfl⟩:=tC f;have a:vars[m]?=some vars[m]:=tY w;by_cases e:vars[m].first+i=v.first+j
 ·by_cases b:m=k
  ·subst b;have:vars[m]=v:=by rw[a]at c;injection c
   rw[e];have d:v.first+j<st.length:=by
    have:=(tZ.mp g).1;omega
   refine⟨x,by rw[JD d],s,by rw[this];exact h1⟩
  ·rcases t m k _ _ a c b with q|q<;>omega
 ·exact⟨y,by rw[JQ aj];exact g,l,p⟩
def zw9:PB->Prop
 |.nil=>True
 |.node _ _ a .nil n=>(zqy a.value/\kjd a.value<=4000)/\zw9 n
 |.node _ _ a (.node _ _ _ t e) n=>(zqy a.cond/\kjd a.cond<=4000)/\zw9 t/\zw9 e/\zw9 n
variable {tab:Tab} {vars:List MVar} {mt:kq1} {ksz ssz:List UInt8->Nat} {size:Nat} {l:List PP} {ms st:List Int}
theorem vyx:opN oK=4:=ak
theorem qv0 (tab:Tab)(l:List PP)(x:ELab)(h:x.op.toList=oK):uz tab l (.node 0 0 x .nil .nil)=kzh tab l x.name x.index:=by
 rw[uz,h,vyx];rfl
theorem jx2 {l:List PP}{p v:PX}(h:zwx tab l p v=true):(zl tab (kkp p).toList).role=4/\(uz tab l p).fam≠0/\(uz tab l v).fam≠0:=by
 unfold zwx kkn at h;simp only[Qu,wW,rQ,Qm,Qw]at h;rcases h with⟨b,⟨⟨⟨h1,_⟩,a⟩,_⟩|⟨h1,a⟩⟩
 ·exact⟨b,a,by rw[<-h1];exact a⟩
 ·exact⟨b,by rw[h1];decide,by rw[a];decide⟩
theorem vw4 (g:EnvOk tab vars mt ksz ssz size)(B:qqf vars)(t:ParOk ssz l ms)(b:kz2 vars size st)(x:ELab)(v:PX)(s:x.op.toList=oK)(C:kym v)(hn:zqy v)(h:isNil v=false)(J:kjd v<=4000)(I:zwx tab l (.node 0 0 x .nil .nil) v=true):∃r,jvx vars mt l ms st x.name x.index v=some r/\kz2 vars size r.1:=by
 obtain⟨H,a,z⟩:=jx2 I;rw[qv0 tab l x s]at a;obtain⟨p,y,K⟩:=val_ok g t b v C hn h J z;obtain⟨_,u,c,d⟩:=g.var _ H;obtain⟨j,w,i,k⟩:=vw3 g t b u _ d x.index (λF=>by
  unfold kzh at a;rw[F]at a;cases f:(zl tab x.name.text.toList).var.arr
  ·rw[f]at a;exact absurd rfl a
  ·cases A:qkh tab l x.index (zl tab x.name.text.toList).var.over
   ·rw[f,A]at a;exact absurd rfl a
   ·exact⟨f,A⟩)
 have E:=d.fit;have G:=b.len;have D:=d.few;unfold jvx;rw[y];show ∃r,((vars[(kj1 mt x.name.text.toList).num]?).bind λv=>(atO vars mt l ms st v x.index).bind λq=>if p.1<0||p.1 >= (v.texts.length:Int) then some (st,true) else if p.1 > 255||q.1<0||q.1 >= (st.length:Int) then none else some (st.set q.1.toNat p.1,p.2||q.2))=some r/\kz2 vars size r.1;rw[show kkp (.node 0 0 x .nil .nil)=x.name.text from rfl]at c;rw[c];show ∃r,((atO vars mt l ms st u x.index).bind λq=>if p.1<0||p.1 >= (u.texts.length:Int) then some (st,true) else if p.1 > 255||q.1<0||q.1 >= (st.length:Int) then none else some (st.set q.1.toNat p.1,p.2||q.2))=some r/\kz2 vars size r.1;rw[i];show ∃r,(if p.1<0||p.1 >= (u.texts.length:Int) then some (st,true) else if p.1 > 255||((u.first:Int)+(j:Nat))<0||((u.first:Int)+(j:Nat)) >= (st.length:Int) then none else some (st.set ((u.first:Int)+(j:Nat)).toNat p.1,p.2||w))=some r/\kz2 vars size r.1;by_cases m:p.1<0\/p.1 >= (u.texts.length:Int)
 ·rw[if_pos (by simpa using m)];exact⟨_,rfl,b⟩
 ·have e:0<=p.1/\p.1<(u.texts.length:Int):=by omega
  rw[if_neg (by simpa using m),if_neg ay];refine⟨_,rfl,?_⟩;show kz2 vars size (st.set ((u.first:Int)+(j:Nat)).toNat p.1);rw[show((u.first:Int)+(j:Nat)).toNat=u.first+j by omega];exact b.put B c k e.1 e.2
theorem zzd (g:EnvOk tab vars mt ksz ssz size)(k:qqf vars)(h:ParOk ssz l ms):∀(b:PB),qqo b->zw9 b->kxr tab l b=true->∀st,kz2 vars size st->∃r,doO vars mt l ms b st=some r/\kz2 vars size r.1
 |.nil,_,_,_,st,hs=>⟨_,rfl,hs⟩
 |.node _ _ a .nil n,hf,hn,ht,st,hs=>by
  obtain⟨⟨h1,m,x,w,K⟩,i⟩:=hf;obtain⟨⟨n1,s⟩,j⟩:=hn;rw[kxr,wW,w]at ht;obtain⟨p,F,G⟩:=vw4 g k h hs x a.value K h1 n1 m s ht.1;obtain⟨q,d,f⟩:=zzd g k h n i j ht.2 p.1 G;refine⟨(q.1,p.2||q.2),?_,f⟩;rw[doO,w];show(jvx vars mt l ms st x.name x.index a.value).bind _=_;rw[F];show(doO vars mt l ms n p.1).map _=_;rw[d];rfl
 |.node _ _ a (.node _ _ _ t e) n,hf,hn,ht,st,hs=>by
  obtain⟨⟨h1,m⟩,C,B,i⟩:=hf;obtain⟨⟨n1,s⟩,E,D,j⟩:=hn;rw[kxr,wW,wW,wW,rQ]at ht;obtain⟨⟨⟨L,M⟩,N⟩,J⟩:=ht;obtain⟨c,y,O⟩:=val_ok g h hs a.cond h1 n1 m s (by rw[L];decide);obtain⟨v,H,I⟩:=zzd g k h t C E M st hs;obtain⟨u,z,A⟩:=zzd g k h e B D N st hs;rw[doO,y];show ∃r,((if c.1==1 then doO vars mt l ms t st else doO vars mt l ms e st).bind λp=>(doO vars mt l ms n p.1).map λq=>(q.1,c.2||p.2||q.2))=some r/\kz2 vars size r.1;cases P:(c.1==1)
  ·obtain⟨q,d,f⟩:=zzd g k h n i j J u.1 A;rw[if_neg au,z];show ∃r,((doO vars mt l ms n u.1).map λq=>(q.1,c.2||u.2||q.2))=some r/\kz2 vars size r.1;rw[d];exact⟨_,rfl,f⟩
  ·obtain⟨q,d,f⟩:=zzd g k h n i j J v.1 I;rw[if_pos rfl,H];show ∃r,((doO vars mt l ms n v.1).map λq=>(q.1,c.2||v.2||q.2))=some r/\kz2 vars size r.1;rw[d];exact⟨_,rfl,f⟩
structure StepFit (tab:Tab)(ssz:List UInt8->Nat)(s:MStep):Prop where
 par:ParOk ssz s.params s.mems
 full:kym s.guard/\zqy s.guard/\isNil s.guard=false/\kjd s.guard<=4000/\(uz tab s.params s.guard).fam=1
 blk:qqo s.block/\zw9 s.block/\kxr tab s.params s.block=true
structure NevFit (tab:Tab)(ssz:List UInt8->Nat)(s:MNever):Prop where
 par:ParOk ssz s.params s.mems
 full:kym s.expr/\zqy s.expr/\isNil s.expr=false/\kjd s.expr<=4000/\(uz tab s.params s.expr).fam=1
theorem vqn (d:EnvOk tab vars mt ksz ssz size)(m:qqf vars)(i:kz2 vars size st)(s:MStep)(h:StepFit tab ssz s):∃r,kyb vars mt s.params s.mems st s.guard s.block=some r/\(r.2=1->kz2 vars size r.1)/\(r.2=0\/r.2=1\/r.2=2):=by
 obtain⟨f1,f2,f3,f4,f5⟩:=h.full;obtain⟨b1,k,l⟩:=h.blk;obtain⟨c,a,q⟩:=val_ok d h.par i s.guard f1 f2 f3 f4 (by rw[f5];decide);obtain⟨p,f,g⟩:=zzd d m h.par s.block b1 k l st i;unfold kyb;rw[a];show ∃r,((if c.1==1 then doO vars mt s.params s.mems s.block st else some (st,false)).map λp=>if (c.2||p.2) then (([],2):List Int×Int) else if c.1==1 then (p.1,1) else ([],0))=some r/\_;cases t:(c.1==1)
 ·rw[if_neg au];refine⟨_,rfl,?_,?_⟩
  ·show(if (c.2||false) then (([],2):List Int×Int) else if false=true then (st,1) else ([],0)).2=1->_;cases c.2<;>intro e<;>simp at e
  ·show(if (c.2||false) then (([],2):List Int×Int) else if false=true then (st,1) else ([],0)).2=0\/_;cases c.2
   ·exact Or.inl rfl
   ·exact Or.inr (Or.inr rfl)
 ·rw[if_pos rfl,f];refine⟨_,rfl,?_,?_⟩
  ·show(if (c.2||p.2) then (([],2):List Int×Int) else if true=true then (p.1,1) else ([],0)).2=1->kz2 vars size (if (c.2||p.2) then (([],2):List Int×Int) else if true=true then (p.1,1) else ([],0)).1;cases (c.2||p.2)
   ·intro _;exact g
   ·intro e;cases e
  ·have j:∀b:Bool,(if b then (([],2):List Int×Int) else if true=true then (p.1,1) else ([],0)).2=0\/(if b then (([],2):List Int×Int) else if true=true then (p.1,1) else ([],0)).2=1\/(if b then (([],2):List Int×Int) else if true=true then (p.1,1) else ([],0)).2=2:=λb=>by
    cases b
    ·exact Or.inr (Or.inl rfl)
    ·exact Or.inr (Or.inr rfl)
   exact j (c.2||p.2)
theorem pz3 (b:EnvOk tab vars mt ksz ssz size)(d:kz2 vars size st)(s:MNever)(h:NevFit tab ssz s):∃r,jyj vars mt s.params s.mems st s.expr=some r:=by
 obtain⟨f1,f2,f3,f4,f5⟩:=h.full;obtain⟨c,a,e⟩:=val_ok b h.par d s.expr f1 f2 f3 f4 (by rw[f5];decide);unfold jyj;rw[a];exact⟨_,rfl⟩
end Go.Proofs.YtpmcnonmkghokaaGreatDoor
namespace Go.Proofs.YtpmcnonmkghokaaGreatDoor
open Go.Proofs.Tryz
open Go.RowKit
variable {x:Int}{vars:List MVar}{ksz ssz:List UInt8->Nat}{v:MVar}{B size:Nat}{tab:Tab}{ty:VT}
structure MachGood (tab:Tab)(ksz ssz:List UInt8->Nat)(a:Mach):Prop where
 env:EnvOk tab a.vars a.tab ksz ssz a.size
 disj:qqf a.vars
 fit:∀v∈a.vars,(v.first+v.count<=a.size/\1<=v.count)/\v.count<=10
 txt:∀v∈a.vars,v.texts.length<=200/\∀t∈v.texts,t.size<=800/\0<t.size
 one:0<a.vars.length
 few:a.vars.length<=10
 steps:∀s∈a.steps,StepFit tab ssz s
 nevers:∀s∈a.nevers,NevFit tab ssz s
 nodup:(a.steps.map (λs=>s.text.toList)).Nodup
variable {tab:Tab} {ksz ssz:List UInt8->Nat} {a:Mach} {st:List Int}
def pjc (a:Mach)(st:List Int)(s:MStep):Option (List Int×Int):=kyb a.vars a.tab s.params s.mems st s.guard s.block
def zzs (a:Mach)(st:List Int)(s:MStep):Int:=match pjc a st s with|some r=>r.2|none=>0
theorem out_ok (h:MachGood tab ksz ssz a)(e:kz2 a.vars a.size st){s:MStep}(d:s∈a.steps):∃r,pjc a st s=some r/\zzs a st s=r.2/\(r.2=1->kz2 a.vars a.size r.1):=by
 obtain⟨r,h1,c,f⟩:=vqn h.env h.disj e s (h.steps s d);have b:pjc a st s=some r:=h1;exact⟨r,b,by unfold zzs;rw[b],c⟩
theorem pqv (h:MachGood tab ksz ssz a)(c:kz2 a.vars a.size st):∀(l:List MStep),(∀s∈l,s∈a.steps)->∀en wr,lkO a.vars a.tab st l en wr=some (en++(l.filter λs=>zzs a st s==1).map (·.text),wr++(l.filter λs=>!(zzs a st s==1)&&zzs a st s==2).map (·.text))
 |[],_,en,wr=>by rw[lkO];simp
 |s::l,hl,en,wr=>by
  obtain⟨r,h1,d,_⟩:=out_ok h c (hl s (rV ..));have b:=pqv h c l (λx e=>hl x (rG _ e));rw[lkO,show kyb a.vars a.tab s.params s.mems st s.guard s.block=some r from h1];show(if r.2==1 then lkO a.vars a.tab st l (en++[s.text]) wr else if r.2==2 then lkO a.vars a.tab st l en (wr++[s.text]) else lkO a.vars a.tab st l en wr)=_;rw[List.filter_cons,List.filter_cons,d];cases c1:(r.2==1)
  ·cases c2:(r.2==2)
   ·simp only[if_neg (show ¬false=true by simp),Jc,Bool.and_self,Q5];exact b en wr
   ·simp only[if_neg (show ¬false=true by simp),if_pos rfl,Jc,Bool.and_self];rw[b];simp
  ·simp only[if_pos rfl,Jt,Ql,if_neg (show ¬false=true by simp)];rw[b];simp
theorem vvq (h:MachGood tab ksz ssz a)(b:kz2 a.vars a.size st):∀(l:List MNever),(∀s∈l,s∈a.nevers)->∀br,∃r,lbO a.vars a.tab st l br=some r
 |[],_,br=>⟨br,rfl⟩
 |s::l,hl,br=>by
  obtain⟨c,e⟩:=pz3 h.env b s (h.nevers s (hl s (rV ..)));rw[lbO,e];show ∃r,(if c then lbO a.vars a.tab st l (br++[s.text]) else lbO a.vars a.tab st l br)=some r;cases c
  ·exact vvq h b l (λx d=>hl x (rG _ d)) br
  ·exact vvq h b l (λx d=>hl x (rG _ d)) (br++[s.text])
theorem vxd (g:v∈a.vars)(e:kz2 a.vars a.size st)(f:∀t∈v.texts,t.size<=800/\0<t.size)(j:Nat)(d:j<v.count):∃t,jzm v st (v.first+j)=some t/\t.size<=800/\0<t.size:=by
 obtain⟨x,h1,c,h⟩:=e.val v g j d;have b:x.toNat<v.texts.length:=aj;refine⟨v.texts[x.toNat],?_,f _ (wX b)⟩;unfold jzm;rw[h1];show(if 0<=x then v.texts[x.toNat]? else none)=_;rw[if_pos c,tY b]
theorem jx6 (n:Nat):(kk4 n).length<=1:=by unfold kk4;split<;>simp
theorem zvu (t:ByteArray):t.data.toList.length=t.size:=by rw[Jr];rfl
theorem vw6 {v:MVar}(d:v∈a.vars)(b:kz2 a.vars a.size st)(c:∀t∈v.texts,t.size<=800/\0<t.size)(f:v.count<=1000):∀n,n<=v.count->∃l,zqx v st n=some l/\l.length<=n*801
 |0,_=>⟨[],rfl,au⟩
 |n+1,hn=>by
  obtain⟨l,h1,i⟩:=vw6 d b c f n aj;obtain⟨t,e,j,_⟩:=vxd d b c n aj;have h:=jx6 n;have g:(l++kk4 n++t.data.toList).length<=(n+1)*801:=by
   rw[wY,wY,zvu];omega
  refine⟨_,?_,g⟩;rw[zqx,h1];show(jzm v st (v.first+n)).bind _=_;rw[e];show(if (l++kk4 n++t.data.toList).length<=1000000 then some (l++kk4 n++t.data.toList) else none)=_;rw[if_pos aj]
theorem pqe (h:MachGood tab ksz ssz a)  (b:v∈a.vars)(c:kz2 a.vars a.size st):∃l,jz9 v st=some l/\l.length<=8020/\l≠[]:=by
 obtain⟨_,d⟩:=h.txt v b;obtain⟨⟨g,j⟩,i⟩:=h.fit v b;have p:=h.env.size;unfold jz9;cases m:(v.over==-1)
 ·obtain⟨l,h1,f⟩:=vw6 b c d aj v.count (wJ _);rw[if_neg au,h1];refine⟨_,rfl,?_,au⟩;simp only[Qz,wY,Jh];omega
 ·obtain⟨t,h1,f,k⟩:=vxd b c d 0 aj;rw[sU]at h1;rw[if_pos rfl,h1];show ∃l,(if t.size<=1000000 then some t.data.toList else none)=some l/\_;rw[if_pos aj];refine⟨_,rfl,by rw[zvu];omega,?_⟩;intro e;have:=zvu t;rw[e]at this;simp at this;omega
theorem vxx (h:MachGood tab ksz ssz a)(d:kz2 a.vars a.size st):∀n,n<=a.vars.length->∃l,zqb a.vars st n=some l/\l.length<=n*8021/\(0<n->l≠[])
 |0,_=>⟨[],rfl,au,λh=>aj⟩
 |n+1,hn=>by
  obtain⟨l,h1,p,_⟩:=vxx h d n aj;have k:a.vars[n]?=some a.vars[n]:=tY aj;have c:a.vars[n]∈a.vars:=wX _;obtain⟨t,f,q,g⟩:=pqe h c d;have m:=jx6 n;have i:=h.few;have j:(l++kk4 n++t).length<=(n+1)*8021:=by rw[wY,wY];omega
  have b:jvc a.vars[n]=true:=by
   obtain⟨⟨u,v⟩,w⟩:=h.fit _ c;obtain⟨x,_⟩:=h.txt _ c;have s:=h.env.size;unfold jvc;rw[tV (by omega:a.vars[n].first<=1000000),tV (by omega:a.vars[n].count<=1000000),tV (by omega:a.vars[n].texts.length<=1000000)];rfl
  refine⟨_,?_,j,λ_ e=>g (QZ.mp e).2⟩;rw[zqb,h1];show(a.vars[n]?).bind _=_;rw[k];show(jz9 a.vars[n] st).bind _=_;rw[f];show(if (l++kk4 n++t).length<=1000000/\jvc a.vars[n]=true then some (l++kk4 n++t) else none)=_;rw[if_pos ⟨aj,b⟩]
theorem vwt (h:MachGood tab ksz ssz a)(c:kz2 a.vars a.size st):∃t,zxe a.vars st=some t:=by
 obtain⟨l,h1,_,b⟩:=vxx h c a.vars.length (wJ _);unfold zxe;rw[h1];show ∃t,(if l=[] then none else some l)=some t;rw[if_neg (b h.one)];exact⟨_,rfl⟩
theorem look_ok (h:MachGood tab ksz ssz a)(c:kz2 a.vars a.size st):∃v,lookO a st=some v/\v.enabled=(a.steps.filter λs=>zzs a st s==1).map (·.text)/\v.wrong=(a.steps.filter λs=>!(zzs a st s==1)&&zzs a st s==2).map (·.text):=by
 obtain⟨t,h1⟩:=vwt h c;have e:=pqv h c a.steps (λ_ d=>d) [] [];obtain⟨b,f⟩:=vvq h c a.nevers (λ_ d=>d) [];unfold lookO;rw[h1];show ∃v,((lkO a.vars a.tab st a.steps [] []).bind λp=>(lbO a.vars a.tab st a.nevers []).map λb=>(⟨⟨t.toArray⟩,p.1,p.2,b⟩:MView))=some v/\_;rw[e];show ∃v,((lbO a.vars a.tab st a.nevers []).map λb=>(⟨⟨t.toArray⟩,[]++(a.steps.filter λs=>zzs a st s==1).map (·.text),[]++(a.steps.filter λs=>!(zzs a st s==1)&&zzs a st s==2).map (·.text),b⟩:MView))=some v/\_;rw[f];exact⟨_,rfl,rfl,rfl⟩
theorem vw2 (h:MachGood tab ksz ssz a)(d:kz2 a.vars a.size st):∀(l:List MStep),(∀s∈l,s∈a.steps)->(l.map (λs=>s.text.toList)).Nodup->∀s∈l,∃r,qvi a.vars a.tab st s.text.toList l=some r/\r.2=(zzs a st s==1)/\(r.2=true->kz2 a.vars a.size r.1)
 |x::l,hl,hn,s,b=>by
  rw[Qh,JX]at hn;rcases sW.mp b with rfl|b
  ·obtain⟨r,h1,g,i⟩:=out_ok h d (hl s (rV ..));rw[qvi,if_pos au,show kyb a.vars a.tab s.params s.mems st s.guard s.block=some r from h1];refine⟨_,rfl,by rw[g],λe=>i ou⟩
  ·have c:(x.text.toList==s.text.toList)=false:=by
    rw[Qw];intro e;exact hn.1 (by rw[e];exact sV (f:=λs:MStep=>s.text.toList) b)
   rw[qvi,c,if_neg au];exact vw2 h d l (λy j=>hl y (rG _ j)) hn.2 s b
theorem vw1 {vars:List MVar}{mt:kq1}{t:List UInt8}:∀(l:List MStep),(∀s∈l,s.text.toList≠t)->qvi vars mt st t l=some ([],false)
 |[],_=>rfl
 |x::l,h=>by
  rw[qvi,if_neg jB];exact vw1 l λy a=>h y (rG _ a)
end Go.Proofs.YtpmcnonmkghokaaGreatDoor

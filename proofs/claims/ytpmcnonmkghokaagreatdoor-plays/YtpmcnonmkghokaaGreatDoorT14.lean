import Derived.Test.YtpmcnonmkghokaaGreatDoorT13
import Derived.Maps.Own
import Derived.BigRegion
set_option maxRecDepth 100000
set_option maxHeartbeats 8000000
set_option linter.unusedVariables false
set_option linter.unusedSimpArgs false
namespace Go.Proofs.YtpmcnonmkghokaaGreatDoor
open Go.Proofs.Tryz
open Go.RowKit
variable {es:Array MapEntry}{s:ByteArray}{e:MapEntry}{M b lo nb:Nat}{w w':World}
theorem zv8 {lo:Nat}{w:World}:∀{ks:List PKind} {cs:List Value} (i:Nat) (hi:i<ks.length),kxz lo w ks cs ->
  ∃ma mn mc,cs[i*3]?=some (.string (ks[i]).name.text)/\cs[i*3+1]?=some (.int .i64 (ks[i]).name.at_)/\cs[i*3+2]?=some (.slice ma mn mc)/\w.ownsRow lo 107 2 (.slice ma mn mc) (ks[i]).members.length (kqe (ks[i]).members)
 |[],_,i,hi,_=>lW
 |k::ks,cs,0,_,⟨ma,mn,mc,rest,e,h1,h2⟩=>by subst e;exact⟨ma,mn,mc,rfl,rfl,rfl,h1⟩
 |k::ks,cs,i+1,hi,⟨ma,mn,mc,rest,e,h1,h2⟩=>by
  subst e;obtain⟨a,b,c,d,f,g,h⟩:=zv8 i iq h2;refine⟨a,b,c,?_,?_,?_,h⟩
  ·rw[show(i+1)*3=i*3+3 by omega,rD au];simpa using d
  ·rw[show(i+1)*3+1=i*3+1+3 by omega,rD au];simpa using f
  ·rw[show(i+1)*3+2=i*3+2+3 by omega,rD au];simpa using g
theorem jxj {lo:Nat}{w:World}:∀{rs:List PRule} {cs:List Value} (i:Nat) (hi:i<rs.length),kxq lo w rs cs ->
  ∃pa pn pc gp ba bn bc bcs,(cs[i*5]?=some (.string (rs[i]).name.text)/\cs[i*5+1]?=some (.int .i64 (rs[i]).name.at_)/\cs[i*5+2]?=some (.slice pa pn pc)/\cs[i*5+3]?=some (.pointer gp)/\cs[i*5+4]?=some (.slice ba bn bc)) /\
   w.ownsRow lo 352 4 (.slice pa pn pc) (rs[i]).params.length (xu (rs[i]).params)/\XIs lo w (rs[i]).guard (.pointer gp)/\w.ownsRow lo 334 9 (.slice ba bn bc) (kq4 (rs[i]).body) bcs/\BIs lo none w (rs[i]).body bcs
 |[],_,i,hi,_=>lW
 |r::rs,cs,0,_,⟨pa,pn,pc,gp,ba,bn,bc,bcs,rest,e,h1,h2,h3,h4,h5⟩=>jD
 |r::rs,cs,i+1,hi,⟨pa,pn,pc,gp,ba,bn,bc,bcs,rest,e,h1,h2,h3,h4,h5⟩=>by
  subst e;obtain⟨a,b,c,d,f,g,h,j,⟨k,l,m,p,q⟩,s⟩:=jxj i iq h5;refine⟨a,b,c,d,f,g,h,j,⟨?_,?_,?_,?_,?_⟩,s⟩
  ·rw[show(i+1)*5=i*5+5 by omega,rD au];simpa using k
  ·rw[show(i+1)*5+1=i*5+1+5 by omega,rD au];simpa using l
  ·rw[show(i+1)*5+2=i*5+2+5 by omega,rD au];simpa using m
  ·rw[show(i+1)*5+3=i*5+3+5 by omega,rD au];simpa using p
  ·rw[show(i+1)*5+4=i*5+4+5 by omega,rD au];simpa using q
theorem jxr {lo:Nat}{w:World}:∀{rs:List PRule} {cs:List Value} (i:Nat) (hi:i<rs.length),kxj lo w rs cs ->
  ∃pa pn pc gp,(cs[i*4]?=some (.string (rs[i]).name.text)/\cs[i*4+1]?=some (.int .i64 (rs[i]).name.at_)/\cs[i*4+2]?=some (.slice pa pn pc)/\cs[i*4+3]?=some (.pointer gp)) /\
   w.ownsRow lo 352 4 (.slice pa pn pc) (rs[i]).params.length (xu (rs[i]).params)/\XIs lo w (rs[i]).guard (.pointer gp)
 |[],_,i,hi,_=>lW
 |r::rs,cs,0,_,⟨pa,pn,pc,gp,rest,e,h1,h2,h5⟩=>by subst e;exact⟨pa,pn,pc,gp,⟨rfl,rfl,rfl,rfl⟩,h1,h2⟩
 |r::rs,cs,i+1,hi,⟨pa,pn,pc,gp,rest,e,h1,h2,h5⟩=>by
  subst e;obtain⟨a,b,c,d,⟨f,g,h,j⟩,k⟩:=jxr i iq h5;refine⟨a,b,c,d,⟨?_,?_,?_,?_⟩,k⟩
  ·rw[show(i+1)*4=i*4+4 by omega,rD au];simpa using f
  ·rw[show(i+1)*4+1=i*4+1+4 by omega,rD au];simpa using g
  ·rw[show(i+1)*4+2=i*4+2+4 by omega,rD au];simpa using h
  ·rw[show(i+1)*4+3=i*4+3+4 by omega,rD au];simpa using j
def pS (a:Int)(i:Nat)(s:PSet):Int:=jva (qjm a i 2 s.name) s.size 2 3
def pM (a:Int)(i:Nat)(m:Tok):Int:=qjm a i 4 m
def pK (a:Int)(i:Nat)(k:PKind):Int:=uh pM k.members 0 (qjm a i 2 k.name)
def pV (a:Int)(i:Nat)(v:VrT):Int:=if v.si.form==1 then jva (qjm a i 4 v.name) v.si.top 1 3 else qjm a i 4 v.name
def pR (a:Int)(i:Nat)(r:PRule):Int:=uh jy7 r.params 0 (qjm a i 5 r.name)
def pN (a:Int)(i:Nat)(r:PRule):Int:=uh jy7 r.params 0 (qjm a i 3 r.name)
def pm1 (m:MdL):Int:=uh pS m.sets 0 (-1)
def pm2 (m:MdL):Int:=uh pK m.kinds 0 (pm1 m)
def pm3 (m:MdL):Int:=uh pV m.vars 0 (pm2 m)
def pm4 (m:MdL):Int:=uh pR m.rules 0 (pm3 m)
def kwr (m:MdL):Int:=uh pN m.nevers 0 (pm4 m)
structure MdOk (m:MdL):Prop where
 sets:m.sets.length<=1000
 kinds:m.kinds.length<=1000
 vars:m.vars.length<=1000
 rules:m.rules.length<=1000
 nevers:m.nevers.length<=1000
 members:∀k∈m.kinds,k.members.length<=1000
 params:∀r∈m.rules++m.nevers,r.params.length<=1000
theorem jjj (w:World)(lo:Nat)(x0 x1 x2 x3 x4:Value)(m:MdL)(h:kvm lo w x0 x1 x2 x3 x4 m)(aA:MdOk m):
  qJ 91 #[.agg #[x0,x1,x2,x3,x4]] w λe w'=>e=.returned (.agg #[.bool (decide (0<=kwr m)),.int .i64 (fAt (kwr m))])/\pU w w':=by
 obtain⟨h0,⟨c1,h1,k1⟩,L,⟨c3,h3,k3⟩,⟨c4,h4,k4⟩⟩:=h;have l0:=mg h0;have l1:=mg h1;have l2:=mg L;have l3:=mg h3;have l4:=mg h4;obtain⟨bB,bC,bD,bF,bG,aR,aS⟩:=aA;have aA:MdOk m:=⟨bB,bC,bD,bF,bG,aR,aS⟩;obtain⟨W,hW⟩:∃W,W=((w.alloc (.cells #[x0,x1,x2,x3,x4] 68)).alloc (.cells #[.bool false,.int .i64 0] 199)).alloc (.cells #[.bool false,.int .i64 0] 199):=⟨_,rfl⟩;have aF:pU w W:=by
  rw[hW];exact((below_alloc1 w _).trans ((below_alloc1 _ _).mono au)).trans ((below_alloc1 _ _).mono ay)
 have bU:W.heap.size=w.heap.size+3:=jC;obtain⟨B,hB⟩:∃B,B=w.heap.size+1+1:=⟨_,rfl⟩;have bT:=pG hW.symm;have a8:=pG (show W.heap[w.heap.size]?=some (.cells #[x0,x1,x2,x3,x4] 68 (0,0)) by rw[hW];exact zy (zy (qg _ _)));have bH:=pG (show W.heap[w.heap.size+1]?=some (.cells #[.bool false,.int .i64 0] 199 (0,0)) by
  rw[hW];have:=qg (w.alloc (.cells #[x0,x1,x2,x3,x4] 68)) (.cells #[.bool false,.int .i64 0] 199);simp only[tJ]at this;exact zy this)
 have bM:=pG (show FB W B (-1) by
  rw[hW,hB];have:=qg ((w.alloc (.cells #[x0,x1,x2,x3,x4] 68)).alloc (.cells #[.bool false,.int .i64 0] 199)) (.cells #[.bool false,.int .i64 0] 199);simp only[tJ]at this;exact this)
 have st:∀k,lo<=k->k<w.heap.size->W.heap[k]?=w.heap[k]?:=λk _ Z=>aF.block k Z
 have vw:∀{e size:Nat} {v:Value} {n:Nat} {xs:List Value},w.ownsRow lo e size v n xs->∃a cap,v=.slice a n cap/\∀i,i<n->∃g,a=some ⟨g,0,none⟩/\lo<=g/\g<w.heap.size/\∀j,j<n*size->W.cell? ⟨g,j,none⟩=xs[j]?:=by
  intro e size v n xs h;obtain⟨a,cap,A,hv⟩:=ql h;refine⟨a,cap,A,λi hi=>?_⟩;obtain⟨g,q1,q2,q3,q4⟩:=hv i hi;exact⟨g,q1,q2,q3,λj hj=>(aF.cell (p:=⟨g,j,none⟩) q3).trans (q4 j hj)⟩
 have b8:=pG (λ(v:Value) (n:Nat) (xs:List Value) (h:W.ownsRow lo 107 2 v n xs)=>h);obtain⟨a0,bZ,rfl,v0⟩:=vw h0;obtain⟨a1,cA,rfl,v1⟩:=vw h1;obtain⟨a2,cB,rfl,v2⟩:=vw L;obtain⟨a3,cC,rfl,v3⟩:=vw h3;obtain⟨a4,cD,rfl,v4⟩:=vw h4;have bO:=pG v0;have bP:=pG v1;have bQ:=pG v2;have bR:=pG v3;have bS:=pG v4;have bJ:=pG k1;have bK:=pG k3;have bL:=pG k4;have a7:=pG aF;clear h0 h1 L h3 h4 k1 k3 k4 v0 v1 v2 v3 v4 vw b8 l0 l1 l2 l3 l4;have bI:=pG hB;have cE:w.heap.size+1<B:=aj;have cF:B<W.heap.size:=aj;clear bU hB hW aF st aR aS;have aU:=pG (show kvv W B pS m.sets (-1) (.int .i64 0) W from kvv.start (ku bM) (Kept.refl _ _));go_enter func91,ntmps91
 go_wp2_with fail
 rw[ku bT,<-ku bI];go_loopw [4,5,19] (λ_ _ i wr=>kvv W B pS m.sets (-1) i wr) (λ_ _ i _=>m.sets.length-(intOf i).toNat)
 case atStart=>exact ku aU
 case round=>
  obtain⟨k,a,Z,rfl,D,C,c⟩:=hrel;have q:=pG D;have s:=pG C;have I:=pG c;have aI:=c.size;clear D C aU;by_cases l:k<m.sets.length
  ·obtain⟨g,rfl,aG,aH,u⟩:=ku bO k l;have d:g≠B:=aj;have F:=λj (hj:j<4)=>xq qvs 4 (λ_=>rfl) m.sets k j l hj
   have G:=c.cell (a:=⟨g,k*4+0,none⟩) d ((u (k*4+0) aj).trans (F 0 aj));have A:=c.cell (a:=⟨g,k*4+1,none⟩) d ((u (k*4+1) aj).trans (F 1 aj));have K:=c.cell (a:=⟨g,k*4+2,none⟩) d ((u (k*4+2) aj).trans (F 2 aj));have O:=c.cell (a:=⟨g,k*4+3,none⟩) d ((u (k*4+3) aj).trans (F 3 aj));simp only[qvs,sZ,tu,sU]at G A K O;have t:=pG (λ(w':World) (U:FB w' B (pS a k (m.sets[k]))) (Y:Kept B W w')=>kvv.next (W:=W) (wr:=w') (B:=B) (f:=pS) (items:=m.sets) (z:=(-1)) (a:=a) l (ku q) U Y);generalize m.sets[k]=p at G A K O t;clear u F c q;go_wp2_with fail
   refine(count_any _ B a k 2 p.name ((ku s).kept (below_alloc1 _ _))).mono ?_;rintro e w1 ⟨rfl,h1,x⟩;have E:=x.row (b:=wr.heap.size) aj (qg _ _);have y:=pG (((ku I).alloc _).trans x);have aJ:=(ku y).size;have S:=pG h1;clear h1 x G A K O;obtain⟨_,_,g2,g3,_⟩:=kk5 E;clear E;go_wp2_with fail
   refine(size_any _ B _ 2 3 p.size (ku S)).mono ?_;rintro e w2 ⟨rfl,L,J⟩;have N:=pG (ku t _ L ((ku y).trans J));clear L J t;go_wp2
   go_roundw
   case rel=>exact ku N
   case measure=>exact qQ
  ·have M:=kqy l (ku q);rw[M]at s;have H:=c.row (b:=w.heap.size) aj (ku a8);obtain⟨_,qx,_,_,_,_⟩:=jl H;have aV:=pG (show kvv W B pK m.kinds (pm1 m) (.int .i64 0) wr from kvv.start (ku s) (ku I));clear M H c s I q;go_wp2_with fail
   go_loopw [6,7,8,9,35] (λ_ _ _ _ i wr=>kvv W B pK m.kinds (pm1 m) i wr) (λ_ _ _ _ i _=>m.kinds.length-(intOf i).toNat)
   case atStart=>exact ku aV
   case round=>
    obtain⟨k,a,Z,rfl,D,C,c⟩:=hrel;have q:=pG D;have s:=pG C;have I:=pG c;have aI:=c.size;clear D C aV;by_cases l:k<m.kinds.length
    ·obtain⟨g,rfl,aG,aH,u⟩:=ku bP k l;have d:g≠B:=aj;obtain⟨ma,mn,mc,P,Q,R,hm⟩:=zv8 k l (ku bJ);have G:=c.cell (a:=⟨g,k*3,none⟩) d ((u (k*3) aj).trans P);have A:=c.cell (a:=⟨g,k*3+1,none⟩) d ((u (k*3+1) aj).trans Q);have K:=c.cell (a:=⟨g,k*3+2,none⟩) d ((u (k*3+2) aj).trans R);have t:=pG (λ(w':World) (U:FB w' B (pK a k (m.kinds[k]))) (Y:Kept B W w')=>kvv.next (W:=W) (wr:=w') (B:=B) (f:=pK) (items:=m.kinds) (z:=(pm1 m)) (a:=a) l (ku q) U Y);have X:=aA.members _ (wX l);have T:=pG hm;generalize m.kinds[k]=p at G A K t T X;clear u P Q R hm c q;go_wp2_with fail
     refine(count_any _ B a k 2 p.name ((ku s).kept (below_alloc1 _ _))).mono ?_;rintro e w1 ⟨rfl,h1,x⟩;have E:=x.row (b:=wr.heap.size) aj (qg _ _);have y:=pG (((ku I).alloc _).trans x);have aJ:=(ku y).size;have S:=pG h1;clear h1 x G A K;obtain⟨_,_,g2,_⟩:=row3 E;clear E;obtain⟨mb,bX,bA,b6⟩:=ql (ku T);injection bA with q1 q2 q3;subst q1;subst q2;subst q3;have bN:=pG b6;have cH:=mg (ku T);have aZ:=pG (show kvv W B pM p.members (qjm a k 2 p.name) (.int .i64 0) w1 from kvv.start (ku S) (ku y));clear b6 S;go_wp2_with fail
     go_loopw [8,9,47] (λ_ _ i wr=>kvv W B pM p.members (qjm a k 2 p.name) i wr) (λ_ _ i _=>p.members.length-(intOf i).toNat)
     case atStart=>exact ku aZ
     case round=>
      obtain⟨k5,a5,cG,rfl,aO,aN,V⟩:=hrel;have aD:=pG aO;have aC:=pG aN;have aT:=pG V;have bW:=V.size;clear aO aN aZ;by_cases a6:k5<p.members.length
      ·obtain⟨g5,rfl,bV,aP,aM⟩:=ku bN k5 a6;have aQ:g5≠B:=aj;have F:=λj (hj:j<2)=>xq kj9 2 (λ_=>rfl) p.members k5 j a6 hj
       have G:=V.cell (a:=⟨g5,k5*2+0,none⟩) aQ (((ku a7).cell (p:=⟨g5,k5*2+0,none⟩) aP).trans ((aM (k5*2+0) aj).trans (F 0 aj)));have A:=V.cell (a:=⟨g5,k5*2+1,none⟩) aQ (((ku a7).cell (p:=⟨g5,k5*2+1,none⟩) aP).trans ((aM (k5*2+1) aj).trans (F 1 aj)));simp only[kj9,sZ,tu,sU]at G A;have aE:=pG (λ(w':World) (U:FB w' B (pM a5 k5 (p.members[k5]))) (Y:Kept B W w')=>kvv.next (W:=W) (wr:=w') (B:=B) (f:=pM) (items:=p.members) (z:=qjm a k 2 p.name) (a:=a5) a6 (ku aD) U Y);generalize p.members[k5]=t5 at G A aE;clear aM F V aD;go_wp2_with fail
       refine(count_any _ B a5 k5 4 t5 ((ku aC).kept (below_alloc1 _ _))).mono ?_;rintro e w6 ⟨rfl,h6,b5⟩;have N:=pG (ku aE _ h6 (((ku aT).alloc _).trans b5));clear h6 b5 aE;go_wp2
       go_roundw
       case rel=>exact ku N
       case measure=>exact qQ
      ·have b3:=kqy a6 (ku aD);rw[b3]at aC;have N:=pG (ku t _ (ku aC) (ku aT));clear b3 t;go_wp2
       go_roundw
       case rel=>exact ku N
       case measure=>exact qQ
    ·have M:=kqy l (ku q);rw[M]at s;have H:=c.row (b:=w.heap.size) aj (ku a8);obtain⟨_,_,qx,_,_,_⟩:=jl H;have aW:=pG (show kvv W B pV m.vars (pm2 m) (.int .i64 0) wr from kvv.start (ku s) (ku I));clear M H c s I q;go_wp2_with fail
     go_loopw [10,11,60] (λ_ _ i wr=>kvv W B pV m.vars (pm2 m) i wr) (λ_ _ i _=>m.vars.length-(intOf i).toNat)
     case atStart=>exact ku aW
     case round=>
      obtain⟨k,a,Z,rfl,D,C,c⟩:=hrel;have q:=pG D;have s:=pG C;have I:=pG c;have aI:=c.size;clear D C aW;by_cases l:k<m.vars.length
      ·obtain⟨g,rfl,aG,aH,u⟩:=ku bQ k l;have d:g≠B:=aj;have F:=λj (hj:j<10)=>xq kjp 10 (λ_=>rfl) m.vars k j l hj
       have G:=c.cell (a:=⟨g,k*10+0,none⟩) d ((u (k*10+0) aj).trans (F 0 aj));have A:=c.cell (a:=⟨g,k*10+1,none⟩) d ((u (k*10+1) aj).trans (F 1 aj));have K:=c.cell (a:=⟨g,k*10+2,none⟩) d ((u (k*10+2) aj).trans (F 2 aj));have O:=c.cell (a:=⟨g,k*10+3,none⟩) d ((u (k*10+3) aj).trans (F 3 aj));have e4:=c.cell (a:=⟨g,k*10+4,none⟩) d ((u (k*10+4) aj).trans (F 4 aj));have e5:=c.cell (a:=⟨g,k*10+5,none⟩) d ((u (k*10+5) aj).trans (F 5 aj));have e6:=c.cell (a:=⟨g,k*10+6,none⟩) d ((u (k*10+6) aj).trans (F 6 aj));have e7:=c.cell (a:=⟨g,k*10+7,none⟩) d ((u (k*10+7) aj).trans (F 7 aj));have e8:=c.cell (a:=⟨g,k*10+8,none⟩) d ((u (k*10+8) aj).trans (F 8 aj));have e9:=c.cell (a:=⟨g,k*10+9,none⟩) d ((u (k*10+9) aj).trans (F 9 aj));simp only[kjp,sZ,tu,sU]at G A K O e4 e5 e6 e7 e8 e9;have t:=pG (λ(w':World) (U:FB w' B (pV a k (m.vars[k]))) (Y:Kept B W w')=>kvv.next (W:=W) (wr:=w') (B:=B) (f:=pV) (items:=m.vars) (z:=(pm2 m)) (a:=a) l (ku q) U Y);generalize m.vars[k]=p at G A K O e4 e5 e6 e7 e8 e9 t;clear u F c q;go_wp2_with fail
       refine(count_any _ B a k 4 p.name ((ku s).kept (below_alloc1 _ _))).mono ?_;rintro e w1 ⟨rfl,h1,x⟩;have E:=x.row (b:=wr.heap.size) aj (qg _ _);have y:=pG (((ku I).alloc _).trans x);have aJ:=(ku y).size;have S:=pG h1;clear h1 x G A K O e4 e5 e6 e7 e8 e9;obtain⟨⟨_,_,_,_,_,g5,g6,g7,_,_⟩,_⟩:=kjj E;clear E;cases b4:(p.si.form==1)
       ·have HP:=pG (show pV a k p=qjm a k 4 p.name by unfold pV;rw[b4];rfl);rw[ku HP]at t;have N:=pG (ku t _ (ku S) (ku y));clear t S;go_wp2
        go_roundw
        case rel=>exact ku N
        case measure=>exact qQ
       ·have HP:=pG (show pV a k p=jva (qjm a k 4 p.name) p.si.top 1 3 by unfold pV;rw[b4];rfl);rw[ku HP]at t;go_wp2_with fail
        refine(size_any _ B _ 1 3 p.si.top (ku S)).mono ?_;rintro e w2 ⟨rfl,L,J⟩;have N:=pG (ku t _ L ((ku y).trans J));clear L J t;go_wp2
        go_roundw
        case rel=>exact ku N
        case measure=>exact qQ
      ·have M:=kqy l (ku q);rw[M]at s;have H:=c.row (b:=w.heap.size) aj (ku a8);obtain⟨_,_,_,qx,_,_⟩:=jl H;have aX:=pG (show kvv W B pR m.rules (pm3 m) (.int .i64 0) wr from kvv.start (ku s) (ku I));clear M H c s I q;go_wp2_with fail
       go_loopw [12,13,81] (λ_ _ i wr=>kvv W B pR m.rules (pm3 m) i wr) (λ_ _ i _=>m.rules.length-(intOf i).toNat)
       case atStart=>exact ku aX
       case round=>
        obtain⟨k,a,Z,rfl,D,C,c⟩:=hrel;have q:=pG D;have s:=pG C;have I:=pG c;have aI:=c.size;clear D C aX;by_cases l:k<m.rules.length
        ·obtain⟨g,rfl,aG,aH,u⟩:=ku bR k l;have d:g≠B:=aj;obtain⟨pa,pn,pc,gp,ba,bn,bc,bY,⟨P,Q,R,a9,b2⟩,hm,_⟩:=jxj k l (ku bK);have G:=c.cell (a:=⟨g,k*5,none⟩) d ((u (k*5) aj).trans P);have A:=c.cell (a:=⟨g,k*5+1,none⟩) d ((u (k*5+1) aj).trans Q);have K:=c.cell (a:=⟨g,k*5+2,none⟩) d ((u (k*5+2) aj).trans R);have O:=c.cell (a:=⟨g,k*5+3,none⟩) d ((u (k*5+3) aj).trans a9);have e4:=c.cell (a:=⟨g,k*5+4,none⟩) d ((u (k*5+4) aj).trans b2);have t:=pG (λ(w':World) (U:FB w' B (pR a k (m.rules[k]))) (Y:Kept B W w')=>kvv.next (W:=W) (wr:=w') (B:=B) (f:=pR) (items:=m.rules) (z:=(pm3 m)) (a:=a) l (ku q) U Y);have X:=aA.params _ (wG _ (wX l));have T:=pG hm;generalize m.rules[k]=p at G A K O e4 t T X;clear u P Q R a9 b2 hm c q;go_wp2_with fail
         refine(count_any _ B a k 5 p.name ((ku s).kept (below_alloc1 _ _))).mono ?_;rintro e w1 ⟨rfl,h1,x⟩;have E:=x.row (b:=wr.heap.size) aj (qg _ _);have y:=pG (((ku I).alloc _).trans x);have aJ:=(ku y).size;have S:=pG h1;clear h1 x G A K O e4;obtain⟨_,_,g2,_⟩:=jl E;clear E;have aB:(Value.slice pa pn pc).ownBlock≠some B:=λe=>by have:=mg (ku T) _ e;omega
         have aK:=pG (qzz (jq (λk _ Z=>(ku a7).block k Z) (ku T)) aB (ku y));go_wp2_with fail
         refine(qxl _ B _ _ p.params _ (ku S) X (ku aK) aB).mono ?_;rintro e w2 ⟨rfl,L,J⟩;have N:=pG (ku t _ L ((ku y).trans J));clear L J t;go_wp2
         go_roundw
         case rel=>exact ku N
         case measure=>exact qQ
        ·have M:=kqy l (ku q);rw[M]at s;have H:=c.row (b:=w.heap.size) aj (ku a8);obtain⟨_,_,_,_,qx,_⟩:=jl H;have aY:=pG (show kvv W B pN m.nevers (pm4 m) (.int .i64 0) wr from kvv.start (ku s) (ku I));clear M H c s I q;go_wp2_with fail
         go_loopw [14,15,97] (λ_ _ i wr=>kvv W B pN m.nevers (pm4 m) i wr) (λ_ _ i _=>m.nevers.length-(intOf i).toNat)
         case atStart=>exact ku aY
         case round=>
          obtain⟨k,a,Z,rfl,D,C,c⟩:=hrel;have q:=pG D;have s:=pG C;have I:=pG c;have aI:=c.size;clear D C aY;by_cases l:k<m.nevers.length
          ·obtain⟨g,rfl,aG,aH,u⟩:=ku bS k l;have d:g≠B:=aj;obtain⟨pa,pn,pc,gp,⟨P,Q,R,a9⟩,hm,_⟩:=jxr k l (ku bL);have G:=c.cell (a:=⟨g,k*4,none⟩) d ((u (k*4) aj).trans P);have A:=c.cell (a:=⟨g,k*4+1,none⟩) d ((u (k*4+1) aj).trans Q);have K:=c.cell (a:=⟨g,k*4+2,none⟩) d ((u (k*4+2) aj).trans R);have O:=c.cell (a:=⟨g,k*4+3,none⟩) d ((u (k*4+3) aj).trans a9);have t:=pG (λ(w':World) (U:FB w' B (pN a k (m.nevers[k]))) (Y:Kept B W w')=>kvv.next (W:=W) (wr:=w') (B:=B) (f:=pN) (items:=m.nevers) (z:=(pm4 m)) (a:=a) l (ku q) U Y);have X:=aA.params _ (rZ _ (wX l));have T:=pG hm;generalize m.nevers[k]=p at G A K O t T X;clear u P Q R a9 hm c q;go_wp2_with fail
           refine(count_any _ B a k 3 p.name ((ku s).kept (below_alloc1 _ _))).mono ?_;rintro e w1 ⟨rfl,h1,x⟩;have E:=x.row (b:=wr.heap.size) aj (qg _ _);have y:=pG (((ku I).alloc _).trans x);have aJ:=(ku y).size;have S:=pG h1;clear h1 x G A K O;obtain⟨_,_,g2,_⟩:=kk5 E;clear E;have aB:(Value.slice pa pn pc).ownBlock≠some B:=λe=>by have:=mg (ku T) _ e;omega
           have aK:=pG (qzz (jq (λk _ Z=>(ku a7).block k Z) (ku T)) aB (ku y));go_wp2_with fail
           refine(qxl _ B _ _ p.params _ (ku S) X (ku aK) aB).mono ?_;rintro e w2 ⟨rfl,L,J⟩;have N:=pG (ku t _ L ((ku y).trans J));clear L J t;go_wp2
           go_roundw
           case rel=>exact ku N
           case measure=>exact qQ
          ·have M:=kqy l (ku q);rw[M]at s;have H:=c.row (b:=w.heap.size) aj (ku a8);have aL:=c.row (b:=w.heap.size+1) aj (ku bH);obtain⟨d0,d1,G,A⟩:=kj0 aL;obtain⟨g0,g1,_,_⟩:=kj0 (ku s);have b7:=pG aL;clear M H aL q;go_wp2
           refine rY (v:=.agg #[.bool (decide (0<=kwr m)),.int .i64 (fAt (kwr m))]) (rP results91 _ _ (w.heap.size+1) _ _ _ _ rfl (set2 (ku b7) _ _) underlying199 rfl ah) rfl ?_;refine⟨rfl,?_⟩;have b9:pU w wr:=(ku a7).trans (Kept.toBelow (B:=w.heap.size) (ku I) aj aj);exact(b9.setCell au _).setCell au _
structure Ent where
 role:Int
 place:Int
 kind:ByteArray
 var:VrT
def kkl:VrT:=⟨zf,false,zf,⟨0,zf,zf⟩⟩
def zyb:Ent:=⟨0,0,⟨#[]⟩,kkl⟩
def qzt (e:Ent):List Value:=[.int .i64 e.role,.int .i64 e.place,.string e.kind]++kjp e.var
def qxw (e:Ent):Value:=.agg (qzt e).toArray
abbrev Tab:=List (ByteArray×Ent)
variable {t:Tab}
def zl:Tab->List UInt8->Ent
 |[],_=>zyb
 |x::l,s=>if x.1.toList==s then x.2 else zl l s
def kqi (w:World)(b:Nat)(t:Tab):Prop:=
 (∃es clock,w.heap[b]?=some (.map es clock)/\es.toList.map (λe=>(e.key,e.val))=t.map (λx=>(Value.string x.1,qxw x.2)))/\(t.map (λx=>x.1.toList)).Nodup/\∀x∈t,x.1.size<=1000
theorem kqi.kept (h:kqi w b t)(hb:pU w w'):kqi w' b t:=by
 obtain⟨⟨es,c,h1,d⟩,e⟩:=h;have a:b<w.heap.size:=by
  by_cases a:b<w.heap.size
  ·exact a
  ·rw[Jq aj]at h1;cases h1
 exact⟨⟨es,c,by rw[hb.block b a];exact h1,d⟩,e⟩
theorem keyed:Maps.Keyed prog 9:=Maps.string_keyed underlying9
theorem keyS (a:s.size<=1000):keyOf prog 9 (.string s)=some (.string s.data.toList):=WideMaps.keyOf_string_mk underlying9 gW
theorem vwd (w:World):(zeroValue 294).run prog w=.ok (qxw zyb) w:=ah
theorem qyf (h:es.toList.map (λe=>(e.key,e.val))=t.map (λx=>(Value.string x.1,qxw x.2)))  (b:e∈es.toList):∃x∈t,e.key=.string x.1/\e.val=qxw x.2:=by
 have:(e.key,e.val)∈t.map (λx=>(Value.string x.1,qxw x.2)):=by rw[<-h];exact sV b
 obtain⟨x,c,a⟩:=Qj.mp this;simp only[Prod.mk.injEq]at a;exact⟨x,c,a.1.symm,a.2.symm⟩
theorem pair_mem (h:es.toList.map (λe=>(e.key,e.val))=t.map (λx=>(Value.string x.1,qxw x.2))){x:ByteArray×Ent}(c:x∈t):∃e∈es.toList,e.key=.string x.1/\e.val=qxw x.2:=by
 have:(Value.string x.1,qxw x.2)∈es.toList.map (λe=>(e.key,e.val)):=by rw[h];exact sV c
 obtain⟨e,b,a⟩:=Qj.mp this;simp only[Prod.mk.injEq]at a;exact⟨e,b,a.1,a.2⟩
theorem jkw:∀(t:Tab) (s:List UInt8),(∀x∈t,x.1.toList≠s)->zl t s=zyb
 |[],_,_=>rfl
 |x::l,s,h=>by
  rw[zl,if_neg jB];exact jkw l s λy a=>h y (rG _ a)
theorem zv3:∀(t:Tab) (s:List UInt8),(t.map (λx=>x.1.toList)).Nodup->∀x∈t,x.1.toList=s->zl t s=x.2
 |y::l,s,hn,x,a,e=>by
  rw[Qh,JX]at hn;rw[zl];rcases sW.mp a with rfl|a
  ·rw[if_pos ng]
  ·rw[if_neg (by
    rw[rQ];intro b;exact hn.1 (by rw[b,<-e];exact sV a))]
   exact zv3 l s hn.2 x a e
theorem vqo {a b:ByteArray}(h:a.toList=b.toList):a=b:=by
 rw[bf,bf]at h;cases a;cases b;simp at h;rw[h]
theorem kv1 (h:kqi w b t)(z:s.size<=1000):(Instr.lookup 202 (.map (some b)) (.string s) false).run prog w=.ok (qxw (zl t s.toList)) w:=by
 obtain⟨⟨es,c,h1,f⟩,q,u⟩:=h;have i:=keyS z;have g:∀e∈es.toList,∃l,keyOf prog 9 e.key=some l:=λe v=>by
  obtain⟨x,d,a,_⟩:=qyf f v;exact⟨_,by rw[a];exact keyS (u x d)⟩
 rcases keyed.find w i es.toList g with⟨f1,f2⟩|⟨j,A,f1,f2,f3⟩
 ·rw[jkw t s.toList (λx d e=>by
   obtain⟨m,k,a,_⟩:=pair_mem f d;exact f2 m k (by rw[a,vqo e]))]
  simp[Instr.lookup,JY underlying202,MapKept.run_getObj_map h1,keyed.check w _ i,f1,vwd w,Result.andThen]
 ·have y:=Qp f2;obtain⟨x,d,a,p⟩:=qyf f y;rw[f3]at a;injection a with a;rw[zv3 t s.toList q x d (by rw[a]),<-p];simp[Instr.lookup,JY underlying202,MapKept.run_getObj_map h1,keyed.check w _ i,f1,Result.andThen]
theorem vy3 {e:Ent}(h:kqi w b t)(u:s.size<=1000)(g:∀x∈t,x.1.toList≠s.toList):∃w',(Instr.mapUpdate 202 (.map (some b)) (.string s) (qxw e)).run prog w=.ok () w'/\kqi w' b (t++[(s,e)])/\Kept b w w':=by
 obtain⟨⟨es,c,h1,i⟩,v,p⟩:=h;have q:=keyS u;have m:∀e∈es.toList,∃l,keyOf prog 9 e.key=some l:=λe z=>by
  obtain⟨x,d,f,_⟩:=qyf i z;exact⟨_,by rw[f];exact keyS (p x d)⟩
 rcases keyed.find w q es.toList m with⟨f1,f2⟩|⟨j,A,f1,f2,f3⟩
 ·refine⟨ChangeMaps.setBlock w b (.map (es.push ⟨.string s,qxw e,c⟩) (c+1)),by simp[Instr.mapUpdate,JY underlying202,MapKept.run_getObj_map h1,keyed.check w false q,f1,MapKept.run_setObj_map _ h1,Result.andThen,ChangeMaps.setBlock],⟨⟨_,_,ChangeMaps.heap_setBlock_same h1 _,?_⟩,?_,?_⟩,⟨rfl,rfl,rfl,by simp[ChangeMaps.setBlock],λk _ hn=>ChangeMaps.heap_setBlock_other h1 _ hn⟩⟩
  ·rw[Array.toList_push,Qv,Qv,i];rfl
  ·rw[Qv,JU];refine⟨v,au,?_⟩;intro a y b hb;simp only[Qh,Zj,sK]at hb;obtain⟨x,d,rfl⟩:=Qj.mp y;rw[hb];exact g x d
  ·intro x d;rcases ru.mp d with d|d
   ·exact p x d
   ·rw[sK]at d;subst d;exact u
 ·exfalso
  obtain⟨x,d,f,_⟩:=qyf i (Qp f2);rw[f3]at f;injection f with f;exact g x d (by rw[f])
def kw2 (t:Tab):Prop:=∀x∈t,1<=x.2.role
theorem vzz (h:kw2 t)(hn:(t.map (λx=>x.1.toList)).Nodup){s:List UInt8}(b:(zl t s).role=0):∀x∈t,x.1.toList≠s:=by
 intro x a e;rw[zv3 t s hn x a e]at b;have:=h x a;omega
def kve (t:Tab)(n:Tok)(e:Ent):Tab:=if (zl t n.text.toList).role==0 then t++[(n.text,{e with place:=n.at_})] else t
theorem qqt (h:kw2 t){n:Tok}{e:Ent}(b:1<=e.role):kw2 (kve t n e):=by
 unfold kve;split
 ·intro x a;rcases ru.mp a with a|a
  ·exact h x a
  ·rw[sK]at a;subst a;exact b
 ·exact h
theorem kvk (e:Ent)(w:World):(Instr.field 294 (qxw e) 0).run prog w=.ok (.int .i64 e.role) w:=ah
theorem jy3 (e:Ent)(w:World):(Instr.field 294 (qxw e) 1).run prog w=.ok (.int .i64 e.place) w:=ah
structure MVar where
 first:Nat
 count:Nat
 texts:List ByteArray
 over:Int
 of_:Int
variable {vars:List MVar}
structure Mean where
 isVar:Bool
 num:Nat
def jwu:Mean:=⟨false,0⟩
def kyd (e:Mean):Value:=.agg #[.bool e.isVar,.int .i64 e.num]
abbrev kq1:=List (ByteArray×Mean)
variable {tab:kq1}
def kj1:kq1->List UInt8->Mean
 |[],_=>jwu
 |x::l,s=>if x.1.toList==s then x.2 else kj1 l s
def kk1 (w:World)(b:Nat)(t:kq1):Prop:=
 (∃es clock,w.heap[b]?=some (.map es clock)/\es.toList.map (λe=>(e.key,e.val))=t.map (λx=>(Value.string x.1,kyd x.2)))/\(t.map (λx=>x.1.toList)).Nodup/\∀x∈t,x.1.size<=1000
theorem kk1.lt {t:kq1}(h:kk1 w b t):b<w.heap.size:=by
 obtain⟨⟨es,c,h1,a⟩,d⟩:=h;exact wu h1
theorem kk1.stay {t:kq1}(h:kk1 w b t)(hb:w'.heap[b]?=w.heap[b]?):kk1 w' b t:=by
 obtain⟨⟨es,c,h1,a⟩,d⟩:=h;exact⟨⟨es,c,by rw[hb];exact h1,a⟩,d⟩
theorem vxq (w:World):(zeroValue 116).run prog w=.ok (kyd jwu) w:=ah
theorem qvx {t:kq1}(h:es.toList.map (λe=>(e.key,e.val))=t.map (λx=>(Value.string x.1,kyd x.2)))  (b:e∈es.toList):∃x∈t,e.key=.string x.1/\e.val=kyd x.2:=by
 have:(e.key,e.val)∈t.map (λx=>(Value.string x.1,kyd x.2)):=by rw[<-h];exact sV b
 obtain⟨x,c,a⟩:=Qj.mp this;simp only[Prod.mk.injEq]at a;exact⟨x,c,a.1.symm,a.2.symm⟩
theorem vz8 {t:kq1}(h:es.toList.map (λe=>(e.key,e.val))=t.map (λx=>(Value.string x.1,kyd x.2))){x:ByteArray×Mean}(c:x∈t):∃e∈es.toList,e.key=.string x.1/\e.val=kyd x.2:=by
 have:(Value.string x.1,kyd x.2)∈es.toList.map (λe=>(e.key,e.val)):=by rw[h];exact sV c
 obtain⟨e,b,a⟩:=Qj.mp this;simp only[Prod.mk.injEq]at a;exact⟨e,b,a.1,a.2⟩
theorem jky:∀(t:kq1) (s:List UInt8),(∀x∈t,x.1.toList≠s)->kj1 t s=jwu
 |[],_,_=>rfl
 |x::l,s,h=>by
  rw[kj1,if_neg jB];exact jky l s λy a=>h y (rG _ a)
theorem zv4:∀(t:kq1) (s:List UInt8),(t.map (λx=>x.1.toList)).Nodup->∀x∈t,x.1.toList=s->kj1 t s=x.2
 |y::l,s,hn,x,a,e=>by
  rw[Qh,JX]at hn;rw[kj1];rcases sW.mp a with rfl|a
  ·rw[if_pos ng]
  ·rw[if_neg (by
    rw[rQ];intro b;exact hn.1 (by rw[b,<-e];exact sV (f:=λx:ByteArray×Mean=>x.1.toList) a))]
   exact zv4 l s hn.2 x a e
theorem qzv {t:kq1}  (h:kk1 w b t)(z:s.size<=1000):(Instr.lookup 100 (.map (some b)) (.string s) false).run prog w=.ok (kyd (kj1 t s.toList)) w:=by
 obtain⟨⟨es,c,h1,f⟩,q,u⟩:=h;have i:=keyS z;have g:∀e∈es.toList,∃l,keyOf prog 9 e.key=some l:=λe v=>by
  obtain⟨x,d,a,_⟩:=qvx f v;exact⟨_,by rw[a];exact keyS (u x d)⟩
 rcases keyed.find w i es.toList g with⟨f1,f2⟩|⟨j,A,f1,f2,f3⟩
 ·rw[jky t s.toList (λx d e=>by
   obtain⟨m,k,a,_⟩:=vz8 f d;exact f2 m k (by rw[a,vqo e]))]
  simp[Instr.lookup,JY underlying100,MapKept.run_getObj_map h1,keyed.check w _ i,f1,vxq w,Result.andThen]
 ·have y:=Qp f2;obtain⟨x,d,a,p⟩:=qvx f y;rw[f3]at a;injection a with a;rw[zv4 t s.toList q x d (by rw[a]),<-p];simp[Instr.lookup,JY underlying100,MapKept.run_getObj_map h1,keyed.check w _ i,f1,Result.andThen]
theorem jxo {t:kq1}  {e:Mean}(h:kk1 w b t)(u:s.size<=1000)(g:∀x∈t,x.1.toList≠s.toList):∃w',(Instr.mapUpdate 100 (.map (some b)) (.string s) (kyd e)).run prog w=.ok () w'/\kk1 w' b (t++[(s,e)])/\Kept b w w':=by
 obtain⟨⟨es,c,h1,i⟩,v,p⟩:=h;have q:=keyS u;have m:∀e∈es.toList,∃l,keyOf prog 9 e.key=some l:=λe z=>by
  obtain⟨x,d,f,_⟩:=qvx i z;exact⟨_,by rw[f];exact keyS (p x d)⟩
 rcases keyed.find w q es.toList m with⟨f1,f2⟩|⟨j,A,f1,f2,f3⟩
 ·refine⟨ChangeMaps.setBlock w b (.map (es.push ⟨.string s,kyd e,c⟩) (c+1)),by simp[Instr.mapUpdate,JY underlying100,MapKept.run_getObj_map h1,keyed.check w false q,f1,MapKept.run_setObj_map _ h1,Result.andThen,ChangeMaps.setBlock],⟨⟨_,_,ChangeMaps.heap_setBlock_same h1 _,?_⟩,?_,?_⟩,⟨rfl,rfl,rfl,by simp[ChangeMaps.setBlock],λk _ hn=>ChangeMaps.heap_setBlock_other h1 _ hn⟩⟩
  ·rw[Array.toList_push,Qv,Qv,i];rfl
  ·rw[Qv,JU];refine⟨v,au,?_⟩;intro a y b hb;simp only[Qh,Zj,sK]at hb;obtain⟨x,d,rfl⟩:=Qj.mp y;rw[hb];exact g x d
  ·intro x d;rcases ru.mp d with d|d
   ·exact p x d
   ·rw[sK]at d;subst d;exact u
 ·exfalso
  obtain⟨x,d,f,_⟩:=qvx i (Qp f2);rw[f3]at f;injection f with f;exact g x d (by rw[f])
theorem jk4 (e:Mean)(w:World):(Instr.field 116 (kyd e) 1).run prog w=.ok (.int .i64 e.num) w:=ah
def qzo (lo:Nat)(w:World):List MVar->List Value->Prop
 |[],cs=>cs=[]
 |v::vs,cs=>∃ta tc rest,cs=[.int .i64 v.first,.int .i64 v.count,.slice ta v.texts.length tc,.int .i64 v.over,.int .i64 v.of_]++rest/\w.ownsRow lo 9 1 (.slice ta v.texts.length tc) v.texts.length (v.texts.map Value.string)/\qzo lo w vs rest
theorem qzo.stay {lo:Nat}{w w':World}(c:∀(k:Nat) (e:TypeId) (cs:Array Value) (fr:Nat×Nat),w.heap[k]?=some (Obj.cells cs e fr)->e=9->w'.heap[k]?=w.heap[k]?):∀{vs:List MVar} {cs:List Value},qzo lo w vs cs->qzo lo w' vs cs
 |[],_,h=>h
 |v::vs,cs,⟨ta,tc,rest,e,h1,h2⟩=>⟨ta,tc,rest,e,by
   refine⟨h1.1,?_⟩;rcases h1.2 with j|⟨g,cap,a,d,f,b,i⟩
   ·exact Or.inl j
   ·exact Or.inr ⟨g,cap,a,d,f,by rw[c g _ _ _ b rfl];exact b,i⟩,qzo.stay c h2⟩
theorem vv4 {lo:Nat}{w:World}:∀{vs:List MVar} {cs:List Value} (i:Nat) (hi:i<vs.length),qzo lo w vs cs ->
  ∃ta tc,(cs[i*5]?=some (.int .i64 (vs[i]).first)/\cs[i*5+1]?=some (.int .i64 (vs[i]).count)/\cs[i*5+2]?=some (.slice ta (vs[i]).texts.length tc)/\cs[i*5+3]?=some (.int .i64 (vs[i]).over)/\cs[i*5+4]?=some (.int .i64 (vs[i]).of_)) /\
   w.ownsRow lo 9 1 (.slice ta (vs[i]).texts.length tc) (vs[i]).texts.length ((vs[i]).texts.map Value.string)
 |[],_,i,hi,_=>lW
 |v::vs,cs,0,_,⟨ta,tc,rest,e,h1,h2⟩=>by subst e;exact⟨ta,tc,⟨rfl,rfl,rfl,rfl,rfl⟩,h1⟩
 |v::vs,cs,i+1,hi,⟨ta,tc,rest,e,h1,h2⟩=>by
  subst e;obtain⟨a,b,⟨c,d,f,g,h⟩,j⟩:=vv4 i iq h2;refine⟨a,b,⟨?_,?_,?_,?_,?_⟩,j⟩
  ·rw[show(i+1)*5=i*5+5 by omega,rD au];simpa using c
  ·rw[show(i+1)*5+1=i*5+1+5 by omega,rD au];simpa using d
  ·rw[show(i+1)*5+2=i*5+2+5 by omega,rD au];simpa using f
  ·rw[show(i+1)*5+3=i*5+3+5 by omega,rD au];simpa using g
  ·rw[show(i+1)*5+4=i*5+4+5 by omega,rD au];simpa using h
theorem qzo.len {lo:Nat}{w:World}:∀{vs:List MVar} {cs:List Value},qzo lo w vs cs->cs.length=vs.length*5
 |[],_,h=>by rw[show _=_ from h];rfl
 |v::vs,cs,⟨ta,tc,rest,e,h1,h2⟩=>by rw[e];have:=qzo.len h2;simp;omega
end Go.Proofs.YtpmcnonmkghokaaGreatDoor
namespace Go.Proofs.YtpmcnonmkghokaaGreatDoor
open Go.Proofs.Tryz
open Go.RowKit
attribute [local go_sem ↓] Go.wp_at_zero Go.wp_at_succ
variable {es:Array MapEntry}{s:ByteArray}{vars:List MVar}{e:MapEntry}{M b lo nb:Nat}{t:Tab}{w w':World}{tab:kq1}
structure Mc (lo:Nat)(w:World)(M nb:Nat)(vars:List MVar)(tab:kq1):Prop where
 mc:∃x0 x1 x2 va vc z cs,w.heap[M]?=some (.cells #[x0,x1,x2,.slice va vars.length vc,.map (some nb),z] 105 (0,0))/\w.ownsRow lo 213 5 (.slice va vars.length vc) vars.length cs/\qzo lo w vars cs
 tab:kk1 w nb tab
structure Rn (lo:Nat)(w:World)(R M nb:Nat)(vars:List MVar)(tab:kq1)(l:List PP)(ms st:List Int)(sv:Value)(b:Bool):Prop where
 rn:∃tx pa pn pc ma mn mc,w.heap[R]?=some (.cells #[.string tx,.pointer (some ⟨M,0,none⟩),.slice pa pn pc,.slice ma mn mc,sv,.bool b] 269 (0,0))/\w.ownsRow lo 352 4 (.slice pa pn pc) l.length (xu l)/\w.ownsRow lo 3 1 (.slice ma mn mc) ms.length (ms.map (Value.int .i64))
 mc:Mc lo w M nb vars tab
 st:w.ownsRow lo 5 1 sv st.length (st.map (Value.int .u8))
theorem Mc.below (h:Mc lo w M nb vars tab)(hb:pU w w'):Mc lo w' M nb vars tab:=by
 obtain⟨⟨x0,x1,x2,va,f,z,cs,h1,b,c⟩,a⟩:=h;exact⟨⟨x0,x1,x2,va,f,z,cs,(hb.block M (wu h1)).trans h1,qj b hb,c.stay λk e cs fr d _=>hb.block k (wu d)⟩,a.stay (hb.block nb a.lt)⟩
theorem Rn.below {R: Nat}   {l:List PP}{ms st:List Int}{sv:Value}{b:Bool}(h:Rn lo w R M nb vars tab l ms st sv b)(hb:pU w w'):Rn lo w' R M nb vars tab l ms st sv b:=by
 obtain⟨⟨i,pa,pn,pc,f,g,mc,h1,a,c⟩,d,e⟩:=h;exact⟨⟨i,pa,pn,pc,f,g,mc,(hb.block R (wu h1)).trans h1,qj a hb,qj c hb⟩,d.below hb,qj e hb⟩
def kxf (c:Bool):Int:=if c then 1 else 0
theorem zqr (c:Bool)(w:World):qJ 257 #[.bool c] w λe w'=>e=.returned (.int .i64 (kxf c))/\w'=w:=by
 cases c
 ·go_enter func257,ntmps257
  go_wp2
  go_ret
  exact⟨rfl,rfl⟩
 ·go_enter func257,ntmps257
  go_wp2
  go_ret
  exact⟨rfl,rfl⟩
def kxv (o a b:Int):Int:=
 if o==6 then min a b else if o==7 then max a b else if o==11 then a+b else if o==12 then a-b
 else if o==10 then kxf (decide (a<b)) else if o==9 then kxf (!(a==b)) else kxf (a==b)
theorem vvk (o a b:Int)(w:World)(p:-1000000000<=a)(l:a<=1000000000)(hb:-1000000000<=b)(m:b<=1000000000):qJ 232 #[.int .i64 o,.int .i64 a,.int .i64 b] w λe w'=>e=.returned (.int .i64 (kxv o a b))/\w'=w:=by
 cases d:(o==6)
 case true=>
  rw[show kxv o a b=min a b by simp[kxv,d]];go_enter func232,ntmps232
  go_wp2
  all_goals
   go_ret
   exact⟨kqv aj,rfl⟩
 case false=>
 cases g:(o==7)
 case true=>
  rw[show kxv o a b=max a b by simp[kxv,d,g]];go_enter func232,ntmps232
  go_wp2
  all_goals
   go_ret
   exact⟨kqv aj,rfl⟩
 case false=>
 cases c:(o==11)
 case true=>
  rw[show kxv o a b=a+b by simp[kxv,d,g,c]];go_enter func232,ntmps232
  go_wp2
  go_ret
  exact⟨rfl,rfl⟩
 case false=>
 cases f:(o==12)
 case true=>
  rw[show kxv o a b=a-b by simp[kxv,d,g,c,f]];go_enter func232,ntmps232
  go_wp2
  go_ret
  exact⟨rfl,rfl⟩
 case false=>
 cases i:(o==10)
 case true=>
  rw[show kxv o a b=kxf (decide (a<b)) by simp[kxv,d,g,c,f,i]];have h:=pG (zqr (decide (a<b)) w);generalize kxf (decide (a<b))=y at *;go_enter func232,ntmps232
  go_wp2_with fail
  refine(ku h).mono ?_;rintro e k ⟨rfl,rfl⟩;go_wp2
  go_ret
  exact⟨rfl,rfl⟩
 case false=>
 cases j:(o==9)
 case true=>
  rw[show kxv o a b=kxf (!(a==b)) by simp[kxv,d,g,c,f,i,j]];have h:=pG (zqr (!(a==b)) w);generalize kxf (!(a==b))=y at *;go_enter func232,ntmps232
  go_wp2_with fail
  refine(ku h).mono ?_;rintro e k ⟨rfl,rfl⟩;go_wp2
  go_ret
  exact⟨rfl,rfl⟩
 case false=>
  rw[show kxv o a b=kxf (a==b) by simp[kxv,d,g,c,f,i,j]];have h:=pG (zqr (a==b) w);generalize kxf (a==b)=y at *;go_enter func232,ntmps232
  go_wp2_with fail
  refine(ku h).mono ?_;rintro e k ⟨rfl,rfl⟩;go_wp2
  go_ret
  exact⟨rfl,rfl⟩
def kkd (v:MVar)(a:Option Addr)(b:Nat):Array Value:=#[.int .i64 v.first,.int .i64 v.count,.slice a v.texts.length b,.int .i64 v.over,.int .i64 v.of_]
theorem pzp {x0 x1 x2 x3 x4:Value}{t:TypeId}(h:w.heap[b]?=some (.cells #[x0,x1,x2,x3,x4] t (0,0)))(y0 y1 y2 y3 y4:Value):
  (puts b [y0,y1,y2,y3,y4] 0 w).heap[b]?=some (.cells #[y0,y1,y2,y3,y4] t (0,0)):=zqe _ _ h
def small (x:Int):Option Int:=if decide (-1000000000<=x)&&decide (x<=1000000000) then some x else none
theorem ky8 {x y:Int}(h:small x=some y):y=x/\-1000000000<=x/\x<=1000000000:=by
 unfold small at h;split at h
 ·rename_i a;simp at a;injection h with h;exact⟨h.symm,a⟩
 ·cases h
theorem vz6 (v:MVar)(a:Option Addr)(b:Nat)(w:World):(Instr.field 213 (.agg (kkd v a b)) 0).run prog w=.ok (.int .i64 v.first) w:=ah
def vj0 (lo:Nat)(w:World)(v:MVar)(a:Option Addr)(b:Nat):Prop:=
 w.ownsRow lo 9 1 (.slice a v.texts.length b) v.texts.length (v.texts.map Value.string)
theorem qjp (w:World)(lo R M nb:Nat)(vars:List MVar)(tab:kq1)(l:List PP)(ms st:List Int)(sv:Value)(b:Bool)(n:Tok)(h:Rn lo w R M nb vars tab l ms st sv b)(N:n.text.size<=1000)(v:MVar)(x:vars[(kj1 tab n.text.toList).num]?=some v)(hv:vars.length<=1000):
  qJ 233 #[.pointer (some ⟨R,0,none⟩),ptV n] w λe w'=>∃k m,e=.returned (.agg (kkd v k m))/\vj0 lo w v k m/\pU w w':=by
 obtain⟨hi,rfl⟩:=tZ.mp x;clear x;obtain⟨W,f⟩:∃W,W=(w.alloc (.cells #[.string n.text,.int .i64 n.at_] 107)).alloc (.cells #[.int .i64 0,.int .i64 0,.slice none 0 0,.int .i64 0,.int .i64 0] 213):=⟨_,rfl⟩;have a:pU w W:=jQ;have a0:w.heap.size+1<W.heap.size:=by rw[f];simp
 have y:W.heap[w.heap.size]?=some (.cells #[.string n.text,.int .i64 n.at_] 107 (0,0)):=by rw[f];exact zy (qg _ _)
 have u:W.heap[w.heap.size+1]?=some (.cells #[.int .i64 0,.int .i64 0,.slice none 0 0,.int .i64 0,.int .i64 0] 213 (0,0)):=by
  rw[f];have:=qg (w.alloc (.cells #[.string n.text,.int .i64 n.at_] 107)) (.cells #[.int .i64 0,.int .i64 0,.slice none 0 0,.int .i64 0,.int .i64 0] 213);simp only[tJ]at this;exact this
 obtain⟨⟨tx,pa,pn,pc,ma,mn,mc,B,_,_⟩,⟨⟨x0,x1,x2,va,vc,z,cs,hM,H,C⟩,s⟩,_⟩:=h;obtain⟨k,m,i,t⟩:=vv4 _ hi C;obtain⟨xa,cap,P,c⟩:=ql H;injection P with Q _ S;subst Q;subst S;obtain⟨g,rfl,X,L,J⟩:=c _ hi;have I:=wu B;have G:=wu hM;have hl:=qzv (s.stay (a.block nb s.lt)) N;have Z:=qzv (show kk1 W.drew nb tab from(s.stay (a.block nb s.lt)).stay rfl) N;obtain⟨_,r1,_⟩:=kzb ((a.block R I).trans B);obtain⟨_,_,_,m3,m4,_⟩:=kzb ((a.block M G).trans hM);obtain⟨n0,n1,_⟩:=kj0 y;obtain⟨v0,v1,v2,v3,v4,f0,f1,f2,f3,f4⟩:=jl u;have A:=pG (show vj0 lo w (vars[(kj1 tab n.text.toList).num]) k m from t);clear t;have K:=C.len;have d:∀j,j<5->W.cell? ⟨g,(kj1 tab n.text.toList).num*5+j,none⟩=cs[(kj1 tab n.text.toList).num*5+j]?:=λj hj=>(a.cell (p:=⟨g,_,none⟩) L).trans (J _ aj)
 have c0:=(d 0 aj).trans i.1;have c1:=(d 1 aj).trans i.2.1;have c2:=(d 2 aj).trans i.2.2.1;have c3:=(d 3 aj).trans i.2.2.2.1;have c4:=(d 4 aj).trans i.2.2.2.2;rw[sU]at c0;have V:=jk4 (kj1 tab n.text.toList);generalize kj1 tab n.text.toList=q at *;have E:=pG u;have D:=pG a;have F:=pG f.symm;have Y:g<W.heap.size:=aj;have U:R<W.heap.size:=aj;have T:M<W.heap.size:=aj;generalize O:vars[q.num]=vv at *;clear O K d i J c C H s hM B y u a f;unfold ptV;go_enter func233,ntmps233
 go_wp2_with fail
 rw[ku F];go_region
 go_wp2
 refine rY (v:=.agg (kkd vv k m)) (rP results233 _ _ (w.heap.size+1) _ _ _ _ rfl (pzp (ku E) _ _ _ _ _) underlying213 rfl ah) rfl ?_;exact⟨k,m,rfl,ku A,((((((ku D).drew.setCell (show w.heap.size<=w.heap.size+1 by omega) _).setCell (show w.heap.size<=w.heap.size+1 by omega) _).setCell (show w.heap.size<=w.heap.size+1 by omega) _).setCell (show w.heap.size<=w.heap.size+1 by omega) _).setCell (show w.heap.size<=w.heap.size+1 by omega) _)⟩
end Go.Proofs.YtpmcnonmkghokaaGreatDoor
namespace Go.Proofs.YtpmcnonmkghokaaGreatDoor
open Go.Proofs.Tryz
open Go.RowKit
variable {es:Array MapEntry}{s:ByteArray}{vars:List MVar}{e:MapEntry}{M b lo nb:Nat}{t:Tab}{w w':World}{tab:kq1}
theorem kqi.nodup (h:kqi w b t):(t.map (λx=>x.1.toList)).Nodup:=h.2.1
theorem kqi.lt (h:kqi w b t):b<w.heap.size:=by
 obtain⟨⟨es,c,h1,d⟩,e⟩:=h;by_cases a:b<w.heap.size
 ·exact a
 ·rw[Jq aj]at h1;cases h1
theorem kqi.other (h:kqi w b t){p:Addr}(e:b≠p.block)(u:Value):kqi (w.setCell p u) b t:=by
 obtain⟨⟨es,c,h1,a⟩,d⟩:=h;exact⟨⟨es,c,by rw[wP _ _ _ _ e];exact h1,a⟩,d⟩
theorem jkl (w:World)(b:Nat)(t:Tab)(n:Tok)(e:Ent)(h:kqi w b t)(z:kw2 t)(y:n.text.size<=1000):
  qJ 156 #[.map (some b),ptV n,qxw e] w λr w'=>r=.returned (.tuple #[])/\kqi w' b (kve t n e)/\Kept b w w':=by
 have D:=h.lt;obtain⟨W,f⟩:∃W,W=(w.alloc (.cells #[.string n.text,.int .i64 n.at_] 107)).alloc (.cells (qzt e).toArray 294):=⟨_,rfl⟩;have a:pU w W:=jQ;have hM:=h.kept a;have x:=pG (h.kept ((below_alloc1 w (.cells #[.string n.text,.int .i64 n.at_] 107)).trans ((below_alloc1 _ (.cells (qzt {e with place:=n.at_}).toArray 294)).mono au)));have B:=kv1 hM y;have F:=kvk (zl t n.text.toList);have E:=pG (show kve t n e=if (zl t n.text.toList).role==0 then t++[(n.text,{e with place:=n.at_})] else t from rfl);have u:=pG hM;have C:=pG a;have A:=pG (vzz z h.nodup (s:=n.text.toList));generalize l:zl t n.text.toList=q at *;have i:Kept b w W:=.of_below a;have p:=pG i;rw[f]at B;clear l h z a i hM;unfold ptV qxw qzt kjp at *;simp only[QD,Qc]at *;cases c:(q.role==0)
 ·rw[c]at E;simp only[wU,if_false]at E;go_enter func156,ntmps156
  go_wp2
  go_end0
  rw[ku E,<-f];exact⟨rfl,ku u,ku p⟩
 ·rw[c]at E;simp only[if_true]at E;rw[rQ]at c;have k:=(ku A) c;have G:(q.role==0)=true:=by rw[rQ];exact c
  clear c;obtain⟨w',d,j,g⟩:=vy3 (e:={e with place:=n.at_}) (ku x) y k;unfold qxw qzt kjp at d;simp only[QD,Qc]at d;have v:=pG j;have m:=pG ((((Kept.refl b w).alloc _).alloc _).trans g);clear j g k u f;go_enter func156,ntmps156
  go_wp2
  go_end0
  rw[ku E];exact⟨rfl,ku v,ku m⟩
end Go.Proofs.YtpmcnonmkghokaaGreatDoor

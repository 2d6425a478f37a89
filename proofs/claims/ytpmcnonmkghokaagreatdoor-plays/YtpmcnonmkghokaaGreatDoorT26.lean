import Derived.Test.YtpmcnonmkghokaaGreatDoorT25
set_option maxRecDepth 100000
set_option maxHeartbeats 8000000
set_option linter.unusedVariables false
set_option linter.unusedSimpArgs false
namespace Go.Proofs.YtpmcnonmkghokaaGreatDoor
open Go.Proofs.Tryz
open Go.RowKit
variable {a z0:Int}{α:Type}{g:Int->α->Int}{items:List α}{B b k:Nat}{tab:Tab}{ps:Value}{W wr:World}
def wS (tab:Tab)(z:Int)(s:PSet):Int:=kjt (kx8 tab s.name) z s.name
def wM (tab:Tab)(z:Int)(n:Tok):Int:=kjt (kx8 tab n) z n
def wK (tab:Tab)(z:Int)(k:PKind):Int:=k.members.foldl (wM tab) (kjt (kx8 tab k.name) z k.name)
def wV (tab:Tab)(z:Int)(v:VrT):Int:=vwc tab (kjt (kx8 tab v.name) z v.name) v
def wN (tab:Tab)(z:Int)(r:PRule):Int:=(cu r.guard).foldl (kwp tab r.params) (uh (jv4 tab r.params) r.params 0 (kjt (kx8 tab r.name) z r.name))
def wR (tab:Tab)(z:Int)(r:PRule):Int:=(pz r.body).foldl (kwp tab r.params) ((cu r.guard).foldl (kwp tab r.params) (uh (jv4 tab r.params) r.params 0 (kjt (kx8 tab r.name) z r.name)))
def wt1 (tab:Tab)(m:MdL):Int:=m.sets.foldl (wS tab) (-1)
def wt2 (tab:Tab)(m:MdL):Int:=m.kinds.foldl (wK tab) (wt1 tab m)
def wt3 (tab:Tab)(m:MdL):Int:=m.vars.foldl (wV tab) (wt2 tab m)
def wt4 (tab:Tab)(m:MdL):Int:=m.rules.foldl (wR tab) (wt3 tab m)
def kyu (tab:Tab)(m:MdL):Int:=m.nevers.foldl (wN tab) (wt4 tab m)
structure MdNm (m:MdL):Prop where
 vars:∀v∈m.vars,v.over.text.size<=1000/\v.si.name.text.size<=1000
 rules:∀r∈m.rules,r.params.length<=1000/\(∀p∈r.params,p.name.text.size<=1000/\p.set_.text.size<=1000)/\(∀y∈cu r.guard,y.text.size<=1000)/\kw5 r.body/\kq4 r.body<=1000/\(∀y∈pz r.body,y.text.size<=1000)
 nevers:∀r∈m.nevers,r.params.length<=1000/\(∀p∈r.params,p.name.text.size<=1000/\p.set_.text.size<=1000)/\(∀y∈cu r.guard,y.text.size<=1000)
def kwq {α:Type}(W:World)(B b:Nat)(tab:Tab)(g:Int->α->Int)(items:List α)(z0:Int)(i:Value)(wr:World):Prop:=
 ∃(k:Nat) (a:Int) (ps:Value),k<=items.length/\i=.int .i64 k/\(items.drop k).foldl g a=items.foldl g z0/\Nm wr B b tab ps a/\Kept B W wr
theorem kwq.start {z:Int}  (a:Nm wr B b tab ps z)(c:Kept B W wr):kwq W B b tab g items z (.int .i64 0) wr:=
 ⟨0,z,ps,rW _,rfl,rfl,a,c⟩
theorem kwq.next (c:k<items.length)(h:(items.drop k).foldl g a=items.foldl g z0)(d:Nm wr B b tab ps (g a items[k]))(e:Kept B W wr):
  kwq W B b tab g items z0 (.int .i64 ((k:Int)+1)) wr:=by
 refine⟨k+1,_,ps,c,eu,?_,d,e⟩;rw[rM c,JK]at h;exact h
theorem zqc (b:¬k<items.length)(h:(items.drop k).foldl g a=items.foldl g z0):a=items.foldl g z0:=by
 rw[QG aj,List.foldl_nil]at h;exact h
theorem zwj (w:World)(lo b:Nat)(tab:Tab)(x0 x1 x2 x3 x4:Value)(m:MdL)(h:kvm lo w x0 x1 x2 x3 x4 m)(ht:kqi w b tab)(b8:MdOk m)(aB:MdSz m)(aQ:MdNm m):
  qJ 93 #[.agg #[x0,x1,x2,x3,x4],.map (some b)] w λe w'=>e=.returned (.agg #[.bool (decide (0<=kyu tab m)),.int .i64 (fAt (kyu tab m))])/\pU w w':=by
 obtain⟨h0,⟨c1,h1,k1⟩,h2,⟨c3,h3,k3⟩,⟨c4,h4,k4⟩⟩:=h;obtain⟨bU,bV,bW,bX,bY,b9,bA⟩:=b8;have b8:MdOk m:=⟨bU,bV,bW,bX,bY,b9,bA⟩;obtain⟨W,hW⟩:∃W,W=((w.alloc (.cells #[x0,x1,x2,x3,x4] 68)).alloc (.cells #[.bool false,.int .i64 0] 199)).alloc (.cells #[.map (some b),.slice none 0 0,.bool false,.int .i64 0] 296):=⟨_,rfl⟩;have d0:b<w.heap.size:=by obtain⟨⟨es,c,hb,_⟩,_⟩:=ht;exact wu hb
 have aE:pU w W:=by
  rw[hW];exact((below_alloc1 w _).trans ((below_alloc1 _ _).mono au)).trans ((below_alloc1 _ _).mono ay)
 have cO:W.heap.size=w.heap.size+3:=jC;obtain⟨B,hB⟩:∃B,B=w.heap.size+2:=⟨_,rfl⟩;have cM:=pG hW.symm;have aH:=pG (show W.heap[w.heap.size]?=some (.cells #[x0,x1,x2,x3,x4] 68 (0,0)) by rw[hW];exact zy (zy (qg _ _)));have cG:=pG (show W.heap[w.heap.size+1]?=some (.cells #[.bool false,.int .i64 0] 199 (0,0)) by
  rw[hW];have:=qg (w.alloc (.cells #[x0,x1,x2,x3,x4] 68)) (.cells #[.bool false,.int .i64 0] 199);simp only[tJ]at this;exact zy this)
 have b2:Nm W B b tab (.slice none 0 0) (-1):=by
  refine⟨?_,ht.kept aE,aj⟩;rw[hW,hB];have:=qg ((w.alloc (.cells #[x0,x1,x2,x3,x4] 68)).alloc (.cells #[.bool false,.int .i64 0] 199)) (.cells #[.map (some b),.slice none 0 0,.bool false,.int .i64 0] 296);simp only[tJ]at this;exact this
 have vw:∀{e size:Nat} {v:Value} {n:Nat} {xs:List Value},w.ownsRow lo e size v n xs->∃a cap,v=.slice a n cap/\∀i,i<n->∃g,a=some ⟨g,0,none⟩/\lo<=g/\g<w.heap.size/\∀j,j<n*size->W.cell? ⟨g,j,none⟩=xs[j]?:=by
  intro e size v n xs h;obtain⟨a,cap,F,hv⟩:=ql h;refine⟨a,cap,F,λi hi=>?_⟩;obtain⟨g,q1,q2,q3,q4⟩:=hv i hi;exact⟨g,q1,q2,q3,λj hj=>(aE.cell (p:=⟨g,j,none⟩) q3).trans (q4 j hj)⟩
 obtain⟨A,cT,rfl,v0⟩:=vw h0;obtain⟨a1,cU,rfl,v1⟩:=vw h1;obtain⟨a2,cV,rfl,v2⟩:=vw h2;obtain⟨a3,cW,rfl,v3⟩:=vw h3;obtain⟨a4,cX,rfl,v4⟩:=vw h4;have cH:=pG v0;have cI:=pG v1;have cJ:=pG v2;have cK:=pG v3;have cL:=pG v4;have cA:=pG k1;have cB:=pG (k3.stay (w':=W) (λk _ h=>aE.block k h));have cC:=pG (k4.stay (w':=W) (λk _ h=>aE.block k h));have aW:=pG aE;have bZ:=pG hB;have aD:=pG b2;have cY:w.heap.size+1<B:=aj;have cZ:B<W.heap.size:=aj;clear h0 h1 h2 h3 h4 k1 k3 k4 v0 v1 v2 v3 v4 vw cO hB hW aE b9 bA ht;have bD:=pG (show kwq W B b tab (wS tab) m.sets (-1) (.int .i64 0) W from kwq.start b2 (Kept.refl _ _));clear b2;go_enter func93,ntmps93
 go_wp2_with fail
 rw[ku cM,<-ku bZ];go_loopw [7,23] (λ_ i wr=>kwq W B b tab (wS tab) m.sets (-1) i wr) (λ_ i _=>m.sets.length-(intOf i).toNat)
 case atStart=>exact ku bD
 case round=>
  obtain⟨k,A,K,hk,rfl,D,E,d⟩:=hrel;have s:=pG D;have f:=pG E;have L:=pG d;have aU:=d.size;clear D E bD;by_cases l:k<m.sets.length
  ·obtain⟨g,rfl,aS,aT,t⟩:=ku cH k l;have q:g≠B:=aj;have G:=λj (hj:j<4)=>xq qvs 4 (λ_=>rfl) m.sets k j l hj
   have I:=d.cell (a:=⟨g,k*4+0,none⟩) q ((t (k*4+0) aj).trans (G 0 aj));have F:=d.cell (a:=⟨g,k*4+1,none⟩) q ((t (k*4+1) aj).trans (G 1 aj));have N:=d.cell (a:=⟨g,k*4+2,none⟩) q ((t (k*4+2) aj).trans (G 2 aj));have Q:=d.cell (a:=⟨g,k*4+3,none⟩) q ((t (k*4+3) aj).trans (G 3 aj));simp only[qvs,sZ,tu,sU]at I F N Q;have x:=pG (λ(w':World) (ps:Value) (hf:Nm w' B b tab ps ((wS tab) A (m.sets[k]))) (hw:Kept B W w')=>kwq.next (W:=W) (wr:=w') (B:=B) (b:=b) (tab:=tab) (g:=(wS tab)) (items:=m.sets) (z0:=(-1)) (a:=A) l (ku s) hf hw);have C:=aB.sets _ (wX l);have aV:=wu (ku f).nm;generalize m.sets[k]=p at I F N Q x C;clear t G d s;go_wp2_with fail
   refine(qq1 _ B b tab K A p.name ((ku f).alloc _) C).mono ?_;rintro e X ⟨rfl,h1,u⟩;have z:=u.row (b:=wr.heap.size) aj (qg _ _);have J:=pG ((Kept.kqn _).trans u);have a6:=pG h1;have R:=pG z;clear h1 u z I F N Q;have Z:=pG (ku x _ _ (ku a6) ((ku L).trans (ku J)));clear x;go_wp2
   go_roundw
   case rel=>exact ku Z
   case measure=>exact qQ
  ·have P:=zqc l (ku s);rw[P]at f;have H:=d.row (b:=w.heap.size) aj (ku aH);obtain⟨_,qx,_,_,_,_⟩:=jl H;have bF:=pG (show kwq W B b tab (wK tab) m.kinds (wt1 tab m) (.int .i64 0) wr from kwq.start (ku f) (ku L));clear P H d f L s;go_wp2_with fail
   go_loopw [9,11,34] (λ_ _ i wr=>kwq W B b tab (wK tab) m.kinds (wt1 tab m) i wr) (λ_ _ i _=>m.kinds.length-(intOf i).toNat)
   case atStart=>exact ku bF
   case round=>
    obtain⟨k,A,K,hk,rfl,D,E,d⟩:=hrel;have s:=pG D;have f:=pG E;have L:=pG d;have aU:=d.size;clear D E bF;by_cases l:k<m.kinds.length
    ·obtain⟨g,rfl,aS,aT,t⟩:=ku cI k l;have q:g≠B:=aj;obtain⟨ma,mn,mc,S,T,U,hm⟩:=zv8 k l (ku cA);have I:=d.cell (a:=⟨g,k*3,none⟩) q ((t (k*3) aj).trans S);have F:=d.cell (a:=⟨g,k*3+1,none⟩) q ((t (k*3+1) aj).trans T);have N:=d.cell (a:=⟨g,k*3+2,none⟩) q ((t (k*3+2) aj).trans U);have x:=pG (λ(w':World) (ps:Value) (hf:Nm w' B b tab ps ((wK tab) A (m.kinds[k]))) (hw:Kept B W w')=>kwq.next (W:=W) (wr:=w') (B:=B) (b:=b) (tab:=tab) (g:=(wK tab)) (items:=m.kinds) (z0:=(wt1 tab m)) (a:=A) l (ku s) hf hw);have C:=aB.kinds _ (wX l);have cN:=b8.members _ (wX l);have HM:=pG hm;have aV:=wu (ku f).nm;generalize m.kinds[k]=p at I F N x C HM cN;clear t S T U hm d s;go_wp2_with fail
     refine(qq1 _ B b tab K A p.name ((ku f).alloc _) C.1).mono ?_;rintro e X ⟨rfl,h1,u⟩;have z:=u.row (b:=wr.heap.size) aj (qg _ _);have J:=pG ((Kept.kqn _).trans u);have a6:=pG h1;have R:=pG z;have d3:=(ku J).size;have d2:=wu z;have aO:=pG ((ku L).trans (ku J));obtain⟨_,_,g2,_⟩:=row3 z;obtain⟨mb,cS,bT,bR⟩:=ql (ku HM);injection bT with q1 q2 q3;subst q1;subst q2;subst q3;have cE:=pG bR;have bJ:=pG (show kwq X B b tab (wM tab) p.members (kjt (kx8 tab p.name) A p.name) (.int .i64 0) X from kwq.start h1 (Kept.refl _ _));clear bR h1 u z I F N;go_wp2_with fail
     go_loopw [11,44] (λ_ i wr=>kwq X B b tab (wM tab) p.members (kjt (kx8 tab p.name) A p.name) i wr) (λ_ i _=>p.members.length-(intOf i).toNat)
     case atStart=>exact ku bJ
     case round=>
      obtain⟨k5,a5,cP,d1,rfl,b4,b6,a9⟩:=hrel;have aN:=pG b4;have aX:=pG b6;have bC:=pG a9;have cR:=a9.size;clear b4 b6 bJ;by_cases aA:k5<p.members.length
      ·obtain⟨g5,rfl,cQ,b5,b3⟩:=ku cE k5 aA;have aG:g5≠B:=aj;have G:=λj (hj:j<2)=>xq kj9 2 (λ_=>rfl) p.members k5 j aA hj
       have I:=a9.cell (a:=⟨g5,k5*2+0,none⟩) aG ((ku aO).cell aG (((ku aW).cell (p:=⟨g5,k5*2+0,none⟩) b5).trans ((b3 (k5*2+0) aj).trans (G 0 aj))));have F:=a9.cell (a:=⟨g5,k5*2+1,none⟩) aG ((ku aO).cell aG (((ku aW).cell (p:=⟨g5,k5*2+1,none⟩) b5).trans ((b3 (k5*2+1) aj).trans (G 1 aj))));simp only[kj9,sZ,tu,sU]at I F;have b7:=C.2 _ (wX aA);have aP:=pG (λ(w':World) (ps:Value) (hf:Nm w' B b tab ps (wM tab a5 (p.members[k5]))) (hw:Kept B X w')=>kwq.next (W:=X) (wr:=w') (B:=B) (b:=b) (tab:=tab) (g:=wM tab) (items:=p.members) (z0:=kjt (kx8 tab p.name) A p.name) (a:=a5) aA (ku aN) hf hw);generalize p.members[k5]=y5 at I F aP b7;clear b3 G a9 aN;go_wp2_with fail
       refine(qq1 _ B b tab cP a5 y5 ((ku aX).alloc _) b7).mono ?_;rintro e w6 ⟨rfl,h6,bQ⟩;have Z:=pG (ku aP _ _ h6 (((ku bC).alloc _).trans bQ));clear h6 bQ aP;go_wp2
       go_roundw
       case rel=>exact ku Z
       case measure=>exact qQ
      ·have bM:=zqc aA (ku aN);rw[bM]at aX;have Z:=pG (ku x _ _ (ku aX) ((ku aO).trans (ku bC)));clear bM x;go_wp2
       go_roundw
       case rel=>exact ku Z
       case measure=>exact qQ
    ·have P:=zqc l (ku s);rw[P]at f;have H:=d.row (b:=w.heap.size) aj (ku aH);obtain⟨_,_,qx,_,_,_⟩:=jl H;have bG:=pG (show kwq W B b tab (wV tab) m.vars (wt2 tab m) (.int .i64 0) wr from kwq.start (ku f) (ku L));clear P H d f L s;go_wp2_with fail
     go_loopw [13,55] (λ_ i wr=>kwq W B b tab (wV tab) m.vars (wt2 tab m) i wr) (λ_ i _=>m.vars.length-(intOf i).toNat)
     case atStart=>exact ku bG
     case round=>
      obtain⟨k,A,K,hk,rfl,D,E,d⟩:=hrel;have s:=pG D;have f:=pG E;have L:=pG d;have aU:=d.size;clear D E bG;by_cases l:k<m.vars.length
      ·obtain⟨g,rfl,aS,aT,t⟩:=ku cJ k l;have q:g≠B:=aj;have G:=λj (hj:j<10)=>xq kjp 10 (λ_=>rfl) m.vars k j l hj
       have I:=d.cell (a:=⟨g,k*10+0,none⟩) q ((t (k*10+0) aj).trans (G 0 aj));have F:=d.cell (a:=⟨g,k*10+1,none⟩) q ((t (k*10+1) aj).trans (G 1 aj));have N:=d.cell (a:=⟨g,k*10+2,none⟩) q ((t (k*10+2) aj).trans (G 2 aj));have Q:=d.cell (a:=⟨g,k*10+3,none⟩) q ((t (k*10+3) aj).trans (G 3 aj));have e4:=d.cell (a:=⟨g,k*10+4,none⟩) q ((t (k*10+4) aj).trans (G 4 aj));have e5:=d.cell (a:=⟨g,k*10+5,none⟩) q ((t (k*10+5) aj).trans (G 5 aj));have e6:=d.cell (a:=⟨g,k*10+6,none⟩) q ((t (k*10+6) aj).trans (G 6 aj));have e7:=d.cell (a:=⟨g,k*10+7,none⟩) q ((t (k*10+7) aj).trans (G 7 aj));have e8:=d.cell (a:=⟨g,k*10+8,none⟩) q ((t (k*10+8) aj).trans (G 8 aj));have e9:=d.cell (a:=⟨g,k*10+9,none⟩) q ((t (k*10+9) aj).trans (G 9 aj));simp only[kjp,sZ,tu,sU]at I F N Q e4 e5 e6 e7 e8 e9;have x:=pG (λ(w':World) (ps:Value) (hf:Nm w' B b tab ps ((wV tab) A (m.vars[k]))) (hw:Kept B W w')=>kwq.next (W:=W) (wr:=w') (B:=B) (b:=b) (tab:=tab) (g:=(wV tab)) (items:=m.vars) (z0:=(wt2 tab m)) (a:=A) l (ku s) hf hw);have C:=aB.vars _ (wX l);have y:=aQ.vars _ (wX l);have aV:=wu (ku f).nm;generalize m.vars[k]=p at I F N Q e4 e5 e6 e7 e8 e9 x C y;clear t G d s;go_wp2_with fail
       refine(qq1 _ B b tab K A p.name ((ku f).alloc _) C).mono ?_;rintro e X ⟨rfl,h1,u⟩;have z:=u.row (b:=wr.heap.size) aj (qg _ _);have J:=pG ((Kept.kqn _).trans u);have a6:=pG h1;have R:=pG z;obtain⟨⟨g0,g1,g2,g3,g4,g5,g6,g7,g8,g9⟩,_⟩:=kjj z;have aY:=pG (jzg X B b tab K _ p h1 y.1 y.2);unfold vrV kjp at aY;clear h1 u z I F N Q e4 e5 e6 e7 e8 e9;go_wp2_with fail
       refine(ku aY).mono ?_;rintro e w2 ⟨rfl,h2,O⟩;have M:=pG ((ku J).trans O);have a7:=pG h2;clear h2 O aY;have Z:=pG (ku x _ _ (ku a7) ((ku L).trans (ku M)));clear x;go_wp2
       go_roundw
       case rel=>exact ku Z
       case measure=>exact qQ
      ·have P:=zqc l (ku s);rw[P]at f;have H:=d.row (b:=w.heap.size) aj (ku aH);obtain⟨_,_,_,qx,_,_⟩:=jl H;have bH:=pG (show kwq W B b tab (wR tab) m.rules (wt3 tab m) (.int .i64 0) wr from kwq.start (ku f) (ku L));clear P H d f L s;go_wp2_with fail
       go_loopw [15,68] (λ_ i wr=>kwq W B b tab (wR tab) m.rules (wt3 tab m) i wr) (λ_ i _=>m.rules.length-(intOf i).toNat)
       case atStart=>exact ku bH
       case round=>
        obtain⟨k,A,K,hk,rfl,D,E,d⟩:=hrel;have s:=pG D;have f:=pG E;have L:=pG d;have aU:=d.size;clear D E bH;by_cases l:k<m.rules.length
        ·obtain⟨g,rfl,aS,aT,t⟩:=ku cK k l;have q:g≠B:=aj;obtain⟨pa,pn,pc,gp,ba,bn,bc,aZ,⟨S,T,U,aK,bL⟩,aL,aM,bN,bO⟩:=jxj k l (ku cB);have I:=d.cell (a:=⟨g,k*5,none⟩) q ((t (k*5) aj).trans S);have F:=d.cell (a:=⟨g,k*5+1,none⟩) q ((t (k*5+1) aj).trans T);have N:=d.cell (a:=⟨g,k*5+2,none⟩) q ((t (k*5+2) aj).trans U);have Q:=d.cell (a:=⟨g,k*5+3,none⟩) q ((t (k*5+3) aj).trans aK);have e4:=d.cell (a:=⟨g,k*5+4,none⟩) q ((t (k*5+4) aj).trans bL);have x:=pG (λ(w':World) (ps:Value) (hf:Nm w' B b tab ps ((wR tab) A (m.rules[k]))) (hw:Kept B W w')=>kwq.next (W:=W) (wr:=w') (B:=B) (b:=b) (tab:=tab) (g:=(wR tab)) (items:=m.rules) (z0:=(wt3 tab m)) (a:=A) l (ku s) hf hw);have C:=aB.rules _ (wX l);have y:=aQ.rules _ (wX l);have V:=pG (⟨kqb aL (ku aD).nm ak d,XIs.nm (ku aD).nm ak d aM,kqb bN (ku aD).nm ak d,BIs.nm (ku aD).nm ak ak d bO⟩:wr.ownsRow lo 352 4 (.slice pa pn pc) (m.rules[k]).params.length (xu (m.rules[k]).params)/\XIs lo wr (m.rules[k]).guard (.pointer gp)/\wr.ownsRow lo 334 9 (.slice ba bn bc) (kq4 (m.rules[k]).body) aZ/\BIs lo none wr (m.rules[k]).body aZ);have aV:=wu (ku f).nm;clear aL aM bN bO;generalize m.rules[k]=p at I F N Q e4 x C y V;clear t S T U aK bL d s;go_wp2_with fail
         refine(qq1 _ B b tab K A p.name ((ku f).alloc _) C).mono ?_;rintro e X ⟨rfl,h1,u⟩;have z:=u.row (b:=wr.heap.size) aj (qg _ _);have J:=pG ((Kept.kqn _).trans u);have a6:=pG h1;have R:=pG z;obtain⟨_,_,g2,_,_,_⟩:=jl z;have aI:=pG (jqp X B b lo tab p.params K pa pn pc _ h1 (kqb ((ku V).1.alloc _) ((ku f).alloc _).nm ak u) y.1 y.2.1);clear h1 u z I F N Q e4;go_wp2_with fail
         refine(ku aI).mono ?_;rintro e w2 ⟨rfl,h2,O⟩;have aC:=O.row (b:=wr.heap.size) aj (ku R);obtain⟨_,_,_,g3,_,_⟩:=jl aC;have aJ:=pG aC;have M:=pG ((ku J).trans O);have a7:=pG h2;clear h2 O aI g2 aC R J a6;go_wp2_with fail
         refine(kyf p.guard w2 B b lo lo tab p.params pa pn pc _ _ (ku a7) (kqb (ku V).1 (ku f).nm ak (ku M)) y.1 (XIs.nm (ku f).nm ak (ku M) (ku V).2.1) y.2.2.1).mono ?_;rintro e w3 ⟨rfl,h3,a8⟩;have aF:=a8.row (b:=wr.heap.size) aj (ku aJ);have bK:=pG aF;have Y:=pG ((ku M).trans a8);have aR:=pG h3;obtain⟨_,_,_,_,g4,_⟩:=jl aF;clear h3 a8 g3 aF aJ M a7;go_wp2_with fail
         refine(jwc p.body w3 B b lo lo none tab p.params pa pn pc _ _ aZ (ku aR) (kqb (ku V).1 (ku f).nm ak (ku Y)) y.1 (kqb (ku V).2.2.1 (ku f).nm ak (ku Y)) (BIs.nm (ku f).nm ak ak (ku Y) (ku V).2.2.2) y.2.2.2.1 y.2.2.2.2.1 y.2.2.2.2.2).mono ?_;rintro e w4 ⟨rfl,h4,bP⟩;have cD:=pG ((ku Y).trans bP);have cF:=pG h4;clear h4 bP g4 bK Y aR;have Z:=pG (ku x _ _ (ku cF) ((ku L).trans (ku cD)));clear x;go_wp2
         go_roundw
         case rel=>exact ku Z
         case measure=>exact qQ
        ·have P:=zqc l (ku s);rw[P]at f;have H:=d.row (b:=w.heap.size) aj (ku aH);obtain⟨_,_,_,_,qx,_⟩:=jl H;have bI:=pG (show kwq W B b tab (wN tab) m.nevers (wt4 tab m) (.int .i64 0) wr from kwq.start (ku f) (ku L));clear P H d f L s;go_wp2_with fail
         go_loopw [17,88] (λ_ i wr=>kwq W B b tab (wN tab) m.nevers (wt4 tab m) i wr) (λ_ i _=>m.nevers.length-(intOf i).toNat)
         case atStart=>exact ku bI
         case round=>
          obtain⟨k,A,K,hk,rfl,D,E,d⟩:=hrel;have s:=pG D;have f:=pG E;have L:=pG d;have aU:=d.size;clear D E bI;by_cases l:k<m.nevers.length
          ·obtain⟨g,rfl,aS,aT,t⟩:=ku cL k l;have q:g≠B:=aj;obtain⟨pa,pn,pc,gp,⟨S,T,U,aK⟩,aL,aM⟩:=jxr k l (ku cC);have I:=d.cell (a:=⟨g,k*4,none⟩) q ((t (k*4) aj).trans S);have F:=d.cell (a:=⟨g,k*4+1,none⟩) q ((t (k*4+1) aj).trans T);have N:=d.cell (a:=⟨g,k*4+2,none⟩) q ((t (k*4+2) aj).trans U);have Q:=d.cell (a:=⟨g,k*4+3,none⟩) q ((t (k*4+3) aj).trans aK);have x:=pG (λ(w':World) (ps:Value) (hf:Nm w' B b tab ps ((wN tab) A (m.nevers[k]))) (hw:Kept B W w')=>kwq.next (W:=W) (wr:=w') (B:=B) (b:=b) (tab:=tab) (g:=(wN tab)) (items:=m.nevers) (z0:=(wt4 tab m)) (a:=A) l (ku s) hf hw);have C:=aB.nevers _ (wX l);have y:=aQ.nevers _ (wX l);have V:=pG (⟨kqb aL (ku aD).nm ak d,XIs.nm (ku aD).nm ak d aM⟩:wr.ownsRow lo 352 4 (.slice pa pn pc) (m.nevers[k]).params.length (xu (m.nevers[k]).params)/\XIs lo wr (m.nevers[k]).guard (.pointer gp));have aV:=wu (ku f).nm;clear aL aM;generalize m.nevers[k]=p at I F N Q x C y V;clear t S T U aK d s;go_wp2_with fail
           refine(qq1 _ B b tab K A p.name ((ku f).alloc _) C).mono ?_;rintro e X ⟨rfl,h1,u⟩;have z:=u.row (b:=wr.heap.size) aj (qg _ _);have J:=pG ((Kept.kqn _).trans u);have a6:=pG h1;have R:=pG z;obtain⟨_,_,g2,_,_⟩:=kk5 z;have aI:=pG (jqp X B b lo tab p.params K pa pn pc _ h1 (kqb ((ku V).1.alloc _) ((ku f).alloc _).nm ak u) y.1 y.2.1);clear h1 u z I F N Q;go_wp2_with fail
           refine(ku aI).mono ?_;rintro e w2 ⟨rfl,h2,O⟩;have aC:=O.row (b:=wr.heap.size) aj (ku R);obtain⟨_,_,_,g3,_⟩:=kk5 aC;have aJ:=pG aC;have M:=pG ((ku J).trans O);have a7:=pG h2;clear h2 O aI g2 aC R J a6;go_wp2_with fail
           refine(kyf p.guard w2 B b lo lo tab p.params pa pn pc _ _ (ku a7) (kqb (ku V).1 (ku f).nm ak (ku M)) y.1 (XIs.nm (ku f).nm ak (ku M) (ku V).2) y.2.2).mono ?_;rintro e w3 ⟨rfl,h3,a8⟩;have aF:=a8.row (b:=wr.heap.size) aj (ku aJ);have bK:=pG aF;have Y:=pG ((ku M).trans a8);have aR:=pG h3;clear h3 a8 g3 aF aJ M a7;have Z:=pG (ku x _ _ (ku aR) ((ku L).trans (ku Y)));clear x;go_wp2
           go_roundw
           case rel=>exact ku Z
           case measure=>exact qQ
          ·have P:=zqc l (ku s);rw[P]at f;have H:=d.row (b:=w.heap.size) aj (ku aH);have bB:=d.row (b:=w.heap.size+1) aj (ku cG);obtain⟨_,_,s2,s3,_⟩:=(ku f).cells;obtain⟨t0,t1,t2,t3⟩:=kj0 bB;have bS:=pG bB;clear P H s bB;go_wp2
           refine rY (v:=.agg #[.bool (decide (0<=kyu tab m)),.int .i64 (fAt (kyu tab m))]) (rP results93 _ _ (w.heap.size+1) _ _ _ _ rfl (set2 (ku bS) _ _) underlying199 rfl ah) rfl ?_;refine⟨rfl,?_⟩;exact(((ku aW).trans (Kept.toBelow (B:=w.heap.size) (ku L) aj aj)).setCell au _).setCell au _
end Go.Proofs.YtpmcnonmkghokaaGreatDoor

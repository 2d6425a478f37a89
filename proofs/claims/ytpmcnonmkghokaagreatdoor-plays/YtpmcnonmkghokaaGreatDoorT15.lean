import Derived.Test.YtpmcnonmkghokaaGreatDoorT14
import Derived.Deep.CutRange
set_option maxRecDepth 100000
set_option maxHeartbeats 8000000
set_option linter.unusedVariables false
set_option linter.unusedSimpArgs false
namespace Go.Proofs.YtpmcnonmkghokaaGreatDoor
open Go.Proofs.Tryz
open Go.RowKit
variable {cs:Array Value}{z:Int}{α:Type}{items:List α}{B b k lo:Nat}{fr:Nat×Nat}{t t0 tab:Tab}{g:Tab->α->Tab}{ps:Value}{W w w' wr:World}
def bE:ByteArray:=⟨#[]⟩
def gS (t:Tab)(s:PSet):Tab:=kve t s.name ⟨1,0,bE,kkl⟩
def gM (kn:ByteArray)(t:Tab)(m:Tok):Tab:=kve t m ⟨3,0,kn,kkl⟩
def gK (t:Tab)(k:PKind):Tab:=k.members.foldl (gM k.name.text) (kve t k.name ⟨2,0,bE,kkl⟩)
def gV (t:Tab)(v:VrT):Tab:=kve t v.name ⟨4,0,bE,v⟩
def gR (t:Tab)(r:PRule):Tab:=kve t r.name ⟨5,0,bE,kkl⟩
def gN (t:Tab)(r:PRule):Tab:=kve t r.name ⟨6,0,bE,kkl⟩
def gt1 (m:MdL):Tab:=m.sets.foldl gS []
def gt2 (m:MdL):Tab:=m.kinds.foldl gK (gt1 m)
def gt3 (m:MdL):Tab:=m.vars.foldl gV (gt2 m)
def gt4 (m:MdL):Tab:=m.rules.foldl gR (gt3 m)
def qp (m:MdL):Tab:=m.nevers.foldl gN (gt4 m)
structure MdSz (m:MdL):Prop where
 sets:∀s∈m.sets,s.name.text.size<=1000
 kinds:∀k∈m.kinds,k.name.text.size<=1000/\∀x∈k.members,x.text.size<=1000
 vars:∀v∈m.vars,v.name.text.size<=1000
 rules:∀r∈m.rules,r.name.text.size<=1000
 nevers:∀r∈m.nevers,r.name.text.size<=1000
def kwj {α:Type}(W:World)(b:Nat)(g:Tab->α->Tab)(items:List α)(t0:Tab)(i:Value)(wr:World):Prop:=
 ∃(k:Nat) (t:Tab),k<=items.length/\i=.int .i64 k/\(items.drop k).foldl g t=items.foldl g t0/\kw2 t/\kqi wr b t/\Kept b W wr
theorem kwj.start (d:kw2 t)(a:kqi wr b t)(c:Kept b W wr):kwj W b g items t (.int .i64 0) wr:=
 ⟨0,t,rW _,rfl,rfl,d,a,c⟩
theorem kwj.next (a:k<items.length)(h:(items.drop k).foldl g t=items.foldl g t0)(d:kw2 (g t items[k]))(c:kqi wr b (g t items[k]))(e:Kept b W wr):
  kwj W b g items t0 (.int .i64 ((k:Int)+1)) wr:=by
 refine⟨k+1,_,a,eu,?_,d,c,e⟩;rw[rM a,JK]at h;exact h
theorem qjo (a:¬k<items.length)(h:(items.drop k).foldl g t=items.foldl g t0):t=items.foldl g t0:=by
 rw[QG aj,List.foldl_nil]at h;exact h
theorem qzc (w:World)(b:Nat)(t:Tab)(n:Tok)(r:Int)(kn:ByteArray)(h:kqi w b t)(c:kw2 t)(a:n.text.size<=1000):
  qJ 156 #[.map (some b),.agg #[.string n.text,.int .i64 n.at_],.agg #[.int .i64 r,.int .i64 0,.string kn,.string ⟨#[]⟩,.int .i64 0,.bool false,.string ⟨#[]⟩,.int .i64 0,.int .i64 0,.int .i64 0,.int .i64 0,.string ⟨#[]⟩,.int .i64 0]] w λe w'=>e=.returned (.tuple #[])/\kqi w' b (kve t n ⟨r,0,kn,kkl⟩)/\Kept b w w':=
 jkl w b t n ⟨r,0,kn,kkl⟩ h c a
theorem vvg (w:World)(b:Nat)(t:Tab)(n:Tok)(r:Int)(x:VrT)(h:kqi w b t)(c:kw2 t)(a:n.text.size<=1000):
  qJ 156 #[.map (some b),.agg #[.string n.text,.int .i64 n.at_],.agg #[.int .i64 r,.int .i64 0,.string ⟨#[]⟩,.string x.name.text,.int .i64 x.name.at_,.bool x.arr,.string x.over.text,.int .i64 x.over.at_,.int .i64 x.si.form,.int .i64 (kq8 x.si.top.text),.int .i64 x.si.top.at_,.string x.si.name.text,.int .i64 x.si.name.at_]] w λe w'=>e=.returned (.tuple #[])/\kqi w' b (kve t n ⟨r,0,bE,x⟩)/\Kept b w w':=
 jkl w b t n ⟨r,0,bE,x⟩ h c a
theorem jy1 (w:World)(lo:Nat)(x0 x1 x2 x3 x4:Value)(m:MdL)(h:kvm lo w x0 x1 x2 x3 x4 m)(aM:MdOk m)(V:MdSz m):
  qJ 92 #[.agg #[x0,x1,x2,x3,x4]] w λe w'=>∃b,e=.returned (.map (some b))/\kqi w' b (qp m)/\kw2 (qp m)/\w.heap.size<=b/\pU w w':=by
 obtain⟨h0,⟨c1,h1,k1⟩,h2,⟨c3,h3,k3⟩,⟨c4,h4,k4⟩⟩:=h;obtain⟨b5,b6,b7,b8,b9,aN,aO⟩:=aM;have aM:MdOk m:=⟨b5,b6,b7,b8,b9,aN,aO⟩;obtain⟨W,hW⟩:∃W,W=(w.alloc (.cells #[x0,x1,x2,x3,x4] 68)).alloc (.map #[] 0):=⟨_,rfl⟩;have aG:pU w W:=by
  rw[hW];exact(below_alloc1 w _).trans ((below_alloc1 _ _).mono au)
 have bS:W.heap.size=w.heap.size+2:=jC;obtain⟨b,hB⟩:∃b,b=w.heap.size+1:=⟨_,rfl⟩;have bP:=pG hW.symm;have a5:=pG (show W.heap[w.heap.size]?=some (.cells #[x0,x1,x2,x3,x4] 68 (0,0)) by rw[hW];exact zy (qg _ _));have bH:=pG (show kqi W b [] by
  rw[hW,hB];have:=qg (w.alloc (.cells #[x0,x1,x2,x3,x4] 68)) (.map #[] 0);simp only[tJ]at this;exact⟨⟨#[],0,this,rfl⟩,Zi,λx hx=>by simp at hx⟩)
 have vw:∀{e size:Nat} {v:Value} {n:Nat} {xs:List Value},w.ownsRow lo e size v n xs->∃a cap,v=.slice a n cap/\∀i,i<n->∃g,a=some ⟨g,0,none⟩/\lo<=g/\g<w.heap.size/\∀j,j<n*size->W.cell? ⟨g,j,none⟩=xs[j]?:=by
  intro e size v n xs h;obtain⟨a,cap,F,hv⟩:=ql h;refine⟨a,cap,F,λi hi=>?_⟩;obtain⟨g,q1,q2,q3,q4⟩:=hv i hi;exact⟨g,q1,q2,q3,λj hj=>(aG.cell (p:=⟨g,j,none⟩) q3).trans (q4 j hj)⟩
 obtain⟨a0,bY,rfl,v0⟩:=vw h0;obtain⟨a1,bZ,rfl,v1⟩:=vw h1;obtain⟨a2,cA,rfl,v2⟩:=vw h2;obtain⟨a3,cB,rfl,v3⟩:=vw h3;obtain⟨a4,cC,rfl,v4⟩:=vw h4;have bK:=pG v0;have bL:=pG v1;have bM:=pG v2;have bN:=pG v3;have bO:=pG v4;have bC:=pG k1;have bD:=pG k3;have bF:=pG k4;have aF:=pG aG;have bB:=pG hB;have cD:w.heap.size<b:=aj;have cE:b<W.heap.size:=aj;clear h0 h1 h2 h3 h4 k1 k3 k4 v0 v1 v2 v3 v4 vw bS hB hW aG aN aO;have aS:=pG (show kwj W b gS m.sets [] (.int .i64 0) W from kwj.start (λx hx=>by simp at hx) (ku bH) (Kept.refl _ _));have bQ:∀W:World,(Instr.makeMap 202 none).run prog W=.ok (.map (some W.heap.size)) (W.alloc (.map #[] 0)):=λW=>rfl
 go_enter func92,ntmps92
 go_wp2_with fail
 clear bQ;rw[ku bP,<-ku bB];go_loopw [5,20] (λ_ i wr=>kwj W b gS m.sets [] i wr) (λ_ i _=>m.sets.length-(intOf i).toNat)
 case atStart=>exact ku aS
 case round=>
  obtain⟨k,t,hk,rfl,C,E,D,c⟩:=hrel;have q:=pG C;have l:=pG E;have s:=pG D;have J:=pG c;have aD:=c.size;clear C E D aS;by_cases f:k<m.sets.length
  ·obtain⟨g,rfl,aB,aC,u⟩:=ku bK k f;have d:g≠b:=aj;have G:=λj (hj:j<4)=>xq qvs 4 (λ_=>rfl) m.sets k j f hj
   have I:=c.cell (a:=⟨g,k*4+0,none⟩) d ((u (k*4+0) aj).trans (G 0 aj));have F:=c.cell (a:=⟨g,k*4+1,none⟩) d ((u (k*4+1) aj).trans (G 1 aj));have K:=c.cell (a:=⟨g,k*4+2,none⟩) d ((u (k*4+2) aj).trans (G 2 aj));have M:=c.cell (a:=⟨g,k*4+3,none⟩) d ((u (k*4+3) aj).trans (G 3 aj));simp only[qvs,sZ,tu,sU]at I F K M;have y:=pG (λ(w':World) (U:kw2 (gS t (m.sets[k]))) (S:kqi w' b (gS t (m.sets[k]))) (X:Kept b W w')=>kwj.next (W:=W) (wr:=w') (b:=b) (g:=gS) (items:=m.sets) (t0:=[]) (t:=t) f (ku q) U S X);have A:=V.sets _ (wX f);generalize m.sets[k]=p at I F K M y A;clear u G c q;go_wp2_with fail
   refine(qzc _ b t p.name 1 ⟨#[]⟩ ((ku s).kept (below_alloc1 _ _)) (ku l) A).mono ?_;rintro e w1 ⟨rfl,h1,z⟩;have R:=pG (ku y _ (qqt (ku l) au) h1 (((ku J).alloc _).trans z));clear h1 z y I F K M;go_wp2
   go_roundw
   case rel=>exact ku R
   case measure=>exact qQ
  ·have L:=qjo f (ku q);rw[L]at s l;have H:=c.row (b:=w.heap.size) aj (ku a5);obtain⟨_,qx,_,_,_,_⟩:=jl H;have aT:=pG (show kwj W b gK m.kinds (gt1 m) (.int .i64 0) wr from kwj.start (ku l) (ku s) (ku J));clear L H c s l J q;go_wp2_with fail
   go_loopw [7,9,33] (λ_ _ i wr=>kwj W b gK m.kinds (gt1 m) i wr) (λ_ _ i _=>m.kinds.length-(intOf i).toNat)
   case atStart=>exact ku aT
   case round=>
    obtain⟨k,t,hk,rfl,C,E,D,c⟩:=hrel;have q:=pG C;have l:=pG E;have s:=pG D;have J:=pG c;have aD:=c.size;clear C E D aT;by_cases f:k<m.kinds.length
    ·obtain⟨g,rfl,aB,aC,u⟩:=ku bL k f;have d:g≠b:=aj;obtain⟨ma,mn,mc,O,P,Q,hm⟩:=zv8 k f (ku bC);have I:=c.cell (a:=⟨g,k*3,none⟩) d ((u (k*3) aj).trans O);have F:=c.cell (a:=⟨g,k*3+1,none⟩) d ((u (k*3+1) aj).trans P);have K:=c.cell (a:=⟨g,k*3+2,none⟩) d ((u (k*3+2) aj).trans Q);have y:=pG (λ(w':World) (U:kw2 (gK t (m.kinds[k]))) (S:kqi w' b (gK t (m.kinds[k]))) (X:Kept b W w')=>kwj.next (W:=W) (wr:=w') (b:=b) (g:=gK) (items:=m.kinds) (t0:=(gt1 m)) (t:=t) f (ku q) U S X);have A:=V.kinds _ (wX f);have bR:=aM.members _ (wX f);have HM:=pG hm;generalize m.kinds[k]=p at I F K y A HM bR;clear u O P Q hm c q;go_wp2_with fail
     refine(qzc _ b t p.name 2 ⟨#[]⟩ ((ku s).kept (below_alloc1 _ _)) (ku l) A.1).mono ?_;rintro e w1 ⟨rfl,h1,z⟩;have aE:=z.row (b:=wr.heap.size) aj (qg _ _);have aA:=pG (((ku J).alloc _).trans z);have cH:=(ku aA).size;have cG:=wu aE;have bI:=pG (qqt (t:=t) (ku l) (n:=p.name) (e:=⟨2,0,bE,kkl⟩) au);obtain⟨_,_,g2,_⟩:=row3 aE;have bJ:=pG aE;obtain⟨mb,bW,b4,b3⟩:=ql (ku HM);injection b4 with q1 q2 q3;subst q1;subst q2;subst q3;have bG:=pG b3;have aX:=pG (show kwj w1 b (gM p.name.text) p.members (kve t p.name ⟨2,0,bE,kkl⟩) (.int .i64 0) w1 from kwj.start (ku bI) h1 (Kept.refl _ _));clear b3 h1 z aE I F K;go_wp2_with fail
     go_loopw [9,45] (λ_ i wr=>kwj w1 b (gM p.name.text) p.members (kve t p.name ⟨2,0,bE,kkl⟩) i wr) (λ_ i _=>p.members.length-(intOf i).toNat)
     case atStart=>exact ku aX
     case round=>
      obtain⟨k5,t5,cF,rfl,aI,aP,aK,N⟩:=hrel;have a7:=pG aI;have Y:=pG aP;have a8:=pG aK;have aR:=pG N;have bU:=N.size;clear aI aP aK aX;by_cases T:k5<p.members.length
      ·obtain⟨g5,rfl,bT,aJ,aH⟩:=ku bG k5 T;have Z:g5≠b:=aj;have G:=λj (hj:j<2)=>xq kj9 2 (λ_=>rfl) p.members k5 j T hj
       have I:=N.cell (a:=⟨g5,k5*2+0,none⟩) Z ((ku aA).cell Z (((ku aF).cell (p:=⟨g5,k5*2+0,none⟩) aJ).trans ((aH (k5*2+0) aj).trans (G 0 aj))));have F:=N.cell (a:=⟨g5,k5*2+1,none⟩) Z ((ku aA).cell Z (((ku aF).cell (p:=⟨g5,k5*2+1,none⟩) aJ).trans ((aH (k5*2+1) aj).trans (G 1 aj))));simp only[kj9,sZ,tu,sU]at I F;have aQ:=N.row aj (ku bJ);obtain⟨v0,_⟩:=row3 aQ;have bA:=wu aQ;have bV:=Nat.ne_of_lt bA;have aL:=A.2 _ (wX T);have a9:=pG (λ(w':World) (U:kw2 (gM p.name.text t5 (p.members[k5]))) (S:kqi w' b (gM p.name.text t5 (p.members[k5]))) (X:Kept b w1 w')=>kwj.next (W:=w1) (wr:=w') (b:=b) (g:=gM p.name.text) (items:=p.members) (t0:=kve t p.name ⟨2,0,bE,kkl⟩) (t:=t5) T (ku a7) U S X);generalize p.members[k5]=y5 at I F a9 aL;clear aH G N a7 aQ;go_wp2_with fail
       refine(qzc _ b t5 y5 3 p.name.text ((ku a8).kept (below_alloc1 _ _)) (ku Y) aL).mono ?_;rintro e w6 ⟨rfl,h6,b2⟩;have R:=pG (ku a9 _ (qqt (ku Y) au) h6 (((ku aR).alloc _).trans b2));clear h6 b2 a9;go_wp2
       go_roundw
       case rel=>exact ku R
       case measure=>exact qQ
      ·have aZ:=qjo T (ku a7);rw[aZ]at a8 Y;have R:=pG (ku y _ (ku Y) (ku a8) ((ku aA).trans (ku aR)));clear aZ y;go_wp2
       go_roundw
       case rel=>exact ku R
       case measure=>exact qQ
    ·have L:=qjo f (ku q);rw[L]at s l;have H:=c.row (b:=w.heap.size) aj (ku a5);obtain⟨_,_,qx,_,_,_⟩:=jl H;have aU:=pG (show kwj W b gV m.vars (gt2 m) (.int .i64 0) wr from kwj.start (ku l) (ku s) (ku J));clear L H c s l J q;go_wp2_with fail
     go_loopw [11,61] (λ_ i wr=>kwj W b gV m.vars (gt2 m) i wr) (λ_ i _=>m.vars.length-(intOf i).toNat)
     case atStart=>exact ku aU
     case round=>
      obtain⟨k,t,hk,rfl,C,E,D,c⟩:=hrel;have q:=pG C;have l:=pG E;have s:=pG D;have J:=pG c;have aD:=c.size;clear C E D aU;by_cases f:k<m.vars.length
      ·obtain⟨g,rfl,aB,aC,u⟩:=ku bM k f;have d:g≠b:=aj;have G:=λj (hj:j<10)=>xq kjp 10 (λ_=>rfl) m.vars k j f hj
       have I:=c.cell (a:=⟨g,k*10+0,none⟩) d ((u (k*10+0) aj).trans (G 0 aj));have F:=c.cell (a:=⟨g,k*10+1,none⟩) d ((u (k*10+1) aj).trans (G 1 aj));have K:=c.cell (a:=⟨g,k*10+2,none⟩) d ((u (k*10+2) aj).trans (G 2 aj));have M:=c.cell (a:=⟨g,k*10+3,none⟩) d ((u (k*10+3) aj).trans (G 3 aj));have e4:=c.cell (a:=⟨g,k*10+4,none⟩) d ((u (k*10+4) aj).trans (G 4 aj));have e5:=c.cell (a:=⟨g,k*10+5,none⟩) d ((u (k*10+5) aj).trans (G 5 aj));have e6:=c.cell (a:=⟨g,k*10+6,none⟩) d ((u (k*10+6) aj).trans (G 6 aj));have e7:=c.cell (a:=⟨g,k*10+7,none⟩) d ((u (k*10+7) aj).trans (G 7 aj));have e8:=c.cell (a:=⟨g,k*10+8,none⟩) d ((u (k*10+8) aj).trans (G 8 aj));have e9:=c.cell (a:=⟨g,k*10+9,none⟩) d ((u (k*10+9) aj).trans (G 9 aj));simp only[kjp,sZ,tu,sU]at I F K M e4 e5 e6 e7 e8 e9;have y:=pG (λ(w':World) (U:kw2 (gV t (m.vars[k]))) (S:kqi w' b (gV t (m.vars[k]))) (X:Kept b W w')=>kwj.next (W:=W) (wr:=w') (b:=b) (g:=gV) (items:=m.vars) (t0:=(gt2 m)) (t:=t) f (ku q) U S X);have A:=V.vars _ (wX f);generalize m.vars[k]=p at I F K M e4 e5 e6 e7 e8 e9 y A;clear u G c q;go_wp2_with fail
       refine(vvg _ b t p.name 4 p ((ku s).kept (below_alloc1 _ _)) (ku l) A).mono ?_;rintro e w1 ⟨rfl,h1,z⟩;have R:=pG (ku y _ (qqt (ku l) au) h1 (((ku J).alloc _).trans z));clear h1 z y I F K M e4 e5 e6 e7 e8 e9;go_wp2
       go_roundw
       case rel=>exact ku R
       case measure=>exact qQ
      ·have L:=qjo f (ku q);rw[L]at s l;have H:=c.row (b:=w.heap.size) aj (ku a5);obtain⟨_,_,_,qx,_,_⟩:=jl H;have aV:=pG (show kwj W b gR m.rules (gt3 m) (.int .i64 0) wr from kwj.start (ku l) (ku s) (ku J));clear L H c s l J q;go_wp2_with fail
       go_loopw [13,75] (λ_ i wr=>kwj W b gR m.rules (gt3 m) i wr) (λ_ i _=>m.rules.length-(intOf i).toNat)
       case atStart=>exact ku aV
       case round=>
        obtain⟨k,t,hk,rfl,C,E,D,c⟩:=hrel;have q:=pG C;have l:=pG E;have s:=pG D;have J:=pG c;have aD:=c.size;clear C E D aV;by_cases f:k<m.rules.length
        ·obtain⟨g,rfl,aB,aC,u⟩:=ku bN k f;have d:g≠b:=aj;obtain⟨pa,pn,pc,gp,ba,bn,bc,bX,⟨O,P,Q,a6,aY⟩,_⟩:=jxj k f (ku bD);have I:=c.cell (a:=⟨g,k*5,none⟩) d ((u (k*5) aj).trans O);have F:=c.cell (a:=⟨g,k*5+1,none⟩) d ((u (k*5+1) aj).trans P);have K:=c.cell (a:=⟨g,k*5+2,none⟩) d ((u (k*5+2) aj).trans Q);have M:=c.cell (a:=⟨g,k*5+3,none⟩) d ((u (k*5+3) aj).trans a6);have e4:=c.cell (a:=⟨g,k*5+4,none⟩) d ((u (k*5+4) aj).trans aY);have y:=pG (λ(w':World) (U:kw2 (gR t (m.rules[k]))) (S:kqi w' b (gR t (m.rules[k]))) (X:Kept b W w')=>kwj.next (W:=W) (wr:=w') (b:=b) (g:=gR) (items:=m.rules) (t0:=(gt3 m)) (t:=t) f (ku q) U S X);have A:=V.rules _ (wX f);generalize m.rules[k]=p at I F K M e4 y A;clear u O P Q a6 aY c q;go_wp2_with fail
         refine(qzc _ b t p.name 5 ⟨#[]⟩ ((ku s).kept (below_alloc1 _ _)) (ku l) A).mono ?_;rintro e w1 ⟨rfl,h1,z⟩;have R:=pG (ku y _ (qqt (ku l) au) h1 (((ku J).alloc _).trans z));clear h1 z y I F K M e4;go_wp2
         go_roundw
         case rel=>exact ku R
         case measure=>exact qQ
        ·have L:=qjo f (ku q);rw[L]at s l;have H:=c.row (b:=w.heap.size) aj (ku a5);obtain⟨_,_,_,_,qx,_⟩:=jl H;have aW:=pG (show kwj W b gN m.nevers (gt4 m) (.int .i64 0) wr from kwj.start (ku l) (ku s) (ku J));clear L H c s l J q;go_wp2_with fail
         go_loopw [15,88] (λ_ i wr=>kwj W b gN m.nevers (gt4 m) i wr) (λ_ i _=>m.nevers.length-(intOf i).toNat)
         case atStart=>exact ku aW
         case round=>
          obtain⟨k,t,hk,rfl,C,E,D,c⟩:=hrel;have q:=pG C;have l:=pG E;have s:=pG D;have J:=pG c;have aD:=c.size;clear C E D aW;by_cases f:k<m.nevers.length
          ·obtain⟨g,rfl,aB,aC,u⟩:=ku bO k f;have d:g≠b:=aj;obtain⟨pa,pn,pc,gp,⟨O,P,Q,a6⟩,_⟩:=jxr k f (ku bF);have I:=c.cell (a:=⟨g,k*4,none⟩) d ((u (k*4) aj).trans O);have F:=c.cell (a:=⟨g,k*4+1,none⟩) d ((u (k*4+1) aj).trans P);have K:=c.cell (a:=⟨g,k*4+2,none⟩) d ((u (k*4+2) aj).trans Q);have M:=c.cell (a:=⟨g,k*4+3,none⟩) d ((u (k*4+3) aj).trans a6);have y:=pG (λ(w':World) (U:kw2 (gN t (m.nevers[k]))) (S:kqi w' b (gN t (m.nevers[k]))) (X:Kept b W w')=>kwj.next (W:=W) (wr:=w') (b:=b) (g:=gN) (items:=m.nevers) (t0:=(gt4 m)) (t:=t) f (ku q) U S X);have A:=V.nevers _ (wX f);generalize m.nevers[k]=p at I F K M y A;clear u O P Q a6 c q;go_wp2_with fail
           refine(qzc _ b t p.name 6 ⟨#[]⟩ ((ku s).kept (below_alloc1 _ _)) (ku l) A).mono ?_;rintro e w1 ⟨rfl,h1,z⟩;have R:=pG (ku y _ (qqt (ku l) au) h1 (((ku J).alloc _).trans z));clear h1 z y I F K M;go_wp2
           go_roundw
           case rel=>exact ku R
           case measure=>exact qQ
          ·have L:=qjo f (ku q);rw[L]at s l;have H:=c.row (b:=w.heap.size) aj (ku a5);clear L H q;go_wp2
           go_ret
           refine⟨b,rfl,ku s,ku l,aj,(ku aF).trans (Kept.toBelow (B:=w.heap.size) (ku J) aj aj)⟩
end Go.Proofs.YtpmcnonmkghokaaGreatDoor
namespace Go.Proofs.YtpmcnonmkghokaaGreatDoor
open Go.Proofs.Tryz
open Go.RowKit
attribute [local go_sem ↓] Go.wp_at_zero Go.wp_at_succ
variable {cs:Array Value}{z:Int}{α:Type}{items:List α}{B b k lo:Nat}{fr:Nat×Nat}{t t0 tab:Tab}{g:Tab->α->Tab}{ps:Value}{W w w' wr:World}
structure Nm (w:World)(B b:Nat)(tab:Tab)(ps:Value)(z:Int):Prop where
 nm:w.heap[B]?=some (.cells #[.map (some b),ps,.bool (decide (0<=z)),.int .i64 (fAt z)] 296 (0,0))
 tab:kqi w b tab
 ne:b≠B
theorem Nm.below (h:Nm w B b tab ps z)(hb:pU w w'):Nm w' B b tab ps z:=
 ⟨by rw[hb.block B (wu h.nm)];exact h.nm,h.tab.kept hb,h.ne⟩
theorem Nm.alloc (h:Nm w B b tab ps z)(o:Obj):Nm (w.alloc o) B b tab ps z:=h.below (below_alloc1 _ _)
theorem Nm.drew (h:Nm w B b tab ps z):Nm w.drew B b tab ps z:=h.below ((Below.refl _ _).drew)
theorem Nm.note (h:Nm w B b tab ps z){a:Int}(d:0<=a):Nm (qj4 w B 2 z a) B b tab ps (jd z a):=by
 refine⟨?_,?_,h.ne⟩
 ·rw[zzg z a d];unfold qj4;by_cases c:z<0\/a<z
  ·rw[if_pos c,if_pos c,show decide (0<=a)=true by simp;omega,show fAt a=a by unfold fAt;rw[if_neg aj]];exact heap_setCell_same _ B 3 _ _ _ (heap_setCell_same _ B 2 _ _ _ h.nm)
  ·rw[if_neg c,if_neg c];exact h.nm
 ·unfold qj4;split
  ·exact(h.tab.other (by simpa using h.ne) _).other (by simpa using h.ne) _
  ·exact h.tab
theorem Nm.cells (h:Nm w B b tab ps z):
  w.cell? ⟨B,0,none⟩=some (.map (some b))/\w.cell? ⟨B,1,none⟩=some ps/\w.cell? ⟨B,2,none⟩=some (.bool (decide (0<=z)))/\w.cell? ⟨B,3,none⟩=some (.int .i64 (fAt z))/\w.frozen? ⟨B,1,none⟩=false/\w.frozen? ⟨B,2,none⟩=false/\w.frozen? ⟨B,3,none⟩=false:=by
 obtain⟨a,b,c,d,_,f,g,i⟩:=kk5 h.nm;exact⟨a,b,c,d,f,g,i⟩
def kjt (c:Bool)(z:Int)(n:Tok):Int:=if c then jd z n.at_ else z
def kx8 (tab:Tab)(n:Tok):Bool:=!((zl tab n.text.toList).place==n.at_)
theorem qq1 (w:World)(B b:Nat)(tab:Tab)(ps:Value)(z:Int)(n:Tok)(h:Nm w B b tab ps z)(g:n.text.size<=1000):
  qJ 157 #[.pointer (some ⟨B,0,none⟩),ptV n] w λe w'=>e=.returned (.tuple #[])/\Nm w' B b tab ps (kjt (kx8 tab n) z n)/\Kept B w w':=by
 have j:=wu h.nm;have h1:=h.alloc (.cells #[.string n.text,.int .i64 n.at_] 107);obtain⟨c0,c1,c2,c3,f1,f2,f3⟩:=h1.cells;have l:=kv1 h1.drew.tab g;have k:=jy3 (zl tab n.text.toList);have c:=pG h1;have E:=pG (show kjt (kx8 tab n) z n=if !((zl tab n.text.toList).place==n.at_) then jd z n.at_ else z from rfl);generalize zl tab n.text.toList=q at *;clear h h1;unfold ptV;go_enter func157,ntmps157
 go_wp2
 go_region
 cases f:(q.place != (n.at_:Int))
 ·have a:(!(q.place==(n.at_:Int)))=false:=f;rw[a]at E;go_wp2
  go_end0
  rw[ku E];exact⟨rfl,(ku c).drew,(Kept.kqn _).drew⟩
 ·have a:(!(q.place==(n.at_:Int)))=true:=f;rw[a]at E;have d:=pG (note_any ((w.alloc (.cells #[.string n.text,.int .i64 n.at_] 107)).drew.drew) B 2 z n.at_ c2 c3 f2 f3);go_wp2
  go_region_law ((go_simp;go_at_call 212;refine(ku d).mono ?_;rintro e m ⟨rfl,i⟩;dsimp only))
  all_goals
   subst i;go_wp2
   go_end0
   rw[ku E];exact⟨rfl,((ku c).drew.drew).note aj,((Kept.kqn _).drew.drew).trans (Kept.note _ _ _ _ _)⟩
def qyg (tab:Tab)(n:Tok):Bool:=!((zl tab n.text.toList).role==1)
theorem jj4 (w:World)(B b:Nat)(tab:Tab)(ps:Value)(z:Int)(n:Tok)(h:Nm w B b tab ps z)(g:n.text.size<=1000):
  qJ 213 #[.pointer (some ⟨B,0,none⟩),ptV n] w λe w'=>e=.returned (.tuple #[])/\Nm w' B b tab ps (kjt (qyg tab n) z n)/\Kept B w w':=by
 have j:=wu h.nm;have h1:=h.alloc (.cells #[.string n.text,.int .i64 n.at_] 107);obtain⟨c0,c1,c2,c3,f1,f2,f3⟩:=h1.cells;have l:=kv1 h1.drew.tab g;have k:=kvk (zl tab n.text.toList);have c:=pG h1;have E:=pG (show kjt (qyg tab n) z n=if !((zl tab n.text.toList).role==1) then jd z n.at_ else z from rfl);generalize zl tab n.text.toList=q at *;clear h h1;unfold ptV;go_enter func213,ntmps213
 go_wp2
 go_region
 cases f:(q.role != 1)
 ·have a:(!(q.role==1))=false:=f;rw[a]at E;go_wp2
  go_end0
  rw[ku E];exact⟨rfl,(ku c).drew,(Kept.kqn _).drew⟩
 ·have a:(!(q.role==1))=true:=f;rw[a]at E;have d:=pG (note_any ((w.alloc (.cells #[.string n.text,.int .i64 n.at_] 107)).drew.drew) B 2 z n.at_ c2 c3 f2 f3);go_wp2
  go_region_law ((go_simp;go_at_call 212;refine(ku d).mono ?_;rintro e m ⟨rfl,i⟩;dsimp only))
  all_goals
   subst i;go_wp2
   go_end0
   rw[ku E];exact⟨rfl,((ku c).drew.drew).note aj,((Kept.kqn _).drew.drew).trans (Kept.note _ _ _ _ _)⟩
def jvo (tab:Tab)(n:Tok):Bool:=!((zl tab n.text.toList).role==2)&&qyg tab n
theorem vq2 (w:World)(B b:Nat)(tab:Tab)(ps:Value)(z:Int)(n:Tok)(h:Nm w B b tab ps z)(j:n.text.size<=1000):
  qJ 214 #[.pointer (some ⟨B,0,none⟩),ptV n] w λe w'=>e=.returned (.tuple #[])/\Nm w' B b tab ps (kjt (jvo tab n) z n)/\Kept B w w':=by
 have m:=wu h.nm;have h1:=h.alloc (.cells #[.string n.text,.int .i64 n.at_] 107);obtain⟨c0,c1,c2,c3,f1,f2,f3⟩:=h1.cells;have s:=kv1 h1.drew.tab j;have p:=kvk (zl tab n.text.toList);have k:=pG h1;have E:=pG (show jvo tab n=(!((zl tab n.text.toList).role==2)&&qyg tab n) from rfl);have f:=pG (jj4 ((w.alloc (.cells #[.string n.text,.int .i64 n.at_] 107)).drew) B b tab ps z n h1.drew j);generalize zl tab n.text.toList=q at *;clear h h1;unfold ptV at *;go_enter func214,ntmps214
 go_wp2
 go_region
 cases i:(q.role != 2)
 ·have c:(!(q.role==2))=false:=i;rw[c]at E;go_wp2
  go_end0
  rw[ku E];exact⟨rfl,(ku k).drew,(Kept.kqn _).drew⟩
 ·have c:(!(q.role==2))=true:=i;rw[c,QC]at E;go_wp2_with fail
  refine(ku f).mono ?_;rintro e t ⟨rfl,g,a⟩;have l:=pG g;have d:=pG a;clear g a;go_wp2
  go_end0
  rw[ku E];exact⟨rfl,ku l,((Kept.kqn _).drew).trans (ku d)⟩
def vwc (tab:Tab)(z:Int)(x:VrT):Int:=
 if x.si.form==2 then kjt (jvo tab x.si.name) (kjt (x.arr&&qyg tab x.over) z x.over) x.si.name else kjt (x.arr&&qyg tab x.over) z x.over
theorem jzg (w:World)(B b:Nat)(tab:Tab)(ps:Value)(z:Int)(x:VrT)(h:Nm w B b tab ps z)(m:x.over.text.size<=1000)(f:x.si.name.text.size<=1000):
  qJ 158 #[.pointer (some ⟨B,0,none⟩),vrV x] w λe w'=>e=.returned (.tuple #[])/\Nm w' B b tab ps (vwc tab z x)/\Kept B w w':=by
 have q:=wu h.nm;have E:=pG (show vwc tab z x=if x.si.form==2 then kjt (jvo tab x.si.name) (kjt (x.arr&&qyg tab x.over) z x.over) x.si.name else kjt (x.arr&&qyg tab x.over) z x.over from rfl);unfold vrV kjp;go_enter func158,ntmps158
 cases i:x.arr
 ·rw[i,Ql,show kjt false z x.over=z from rfl]at E;cases c:(x.si.form==2)
  ·rw[c]at E;go_wp2
   go_end0
   rw[ku E];exact⟨rfl,h.alloc _,Kept.kqn _⟩
  ·rw[c]at E;go_wp2_with fail
   refine(vq2 _ B b tab ps z x.si.name (h.alloc _) f).mono ?_;rintro e p ⟨rfl,h1,a⟩;go_wp2
   go_end0
   rw[ku E];exact⟨rfl,h1,(Kept.kqn _).trans a⟩
 ·rw[i,QC]at E;go_wp2_with fail
  refine(jj4 _ B b tab ps z x.over (h.alloc _) m).mono ?_;rintro e p ⟨rfl,h1,a⟩;have k:=a.row (b:=w.heap.size) aj (qg _ _);obtain⟨⟨_,_,_,_,_,s,_,_,t,u⟩,_⟩:=kjj k;have g:=pG h1;have d:=pG ((Kept.kqn _).trans a);clear k h1 a h;cases c:(x.si.form==2)
  ·rw[c]at E;go_wp2
   go_end0
   rw[ku E];exact⟨rfl,ku g,ku d⟩
  ·rw[c]at E;go_wp2_with fail
   refine(vq2 _ B b tab ps _ x.si.name (ku g) f).mono ?_;rintro e v ⟨rfl,l,j⟩;go_wp2
   go_end0
   rw[ku E];exact⟨rfl,l,(ku d).trans j⟩
theorem qj1 {P:Program}{b:Func}{p e:Tmp}{ty:TypeId}(h:b.results=#[.cell p ty,.tmp e])(a:Array Value)(w:World)(g:Nat)(t:TypeId)(cs:Array Value)(fr:Nat×Nat)(d:TypeDesc)
  (j:a.getD p undef=.pointer (some ⟨g,0,none⟩)) (i:w.heap[g]?=some (.cells cs t fr))
  (k:P.underlying ty=some d) (f:(match d with|.struct _|.array _ _=>true|_=>false)=true) (hi:(P.info? ty).map (·.size)=some cs.size):
  (results b a).run P w=.ok (.tuple #[.agg cs,a.getD e undef]) w:=by
 have c:a[p]?.getD undef=.pointer (some ⟨g,0,none⟩):=by simpa using j
 simp[results,h,c,asAddr,run_loadVar_row w g t ty cs fr d i k f hi]
def fpP:List PP->List UInt8->PP
 |[],_=>⟨zf,zf⟩
 |p::l,s=>if p.name.text.toList==s then p else fpP l s
def fpB (l:List PP)(s:List UInt8):Bool:=l.any (λp=>p.name.text.toList==s)
theorem zq4:∀(l:List PP) (k:Nat) (s:List UInt8),(∀i (hi:i<l.length),i<k->(l[i].name.text.toList==s)=false)->fpP l s=fpP (l.drop k) s/\fpB l s=fpB (l.drop k) s
 |[],k,s,_=>au
 |p::l,0,s,_=>⟨rfl,rfl⟩
 |p::l,k+1,s,h=>by
  have c:=h 0 au aj;simp only[Qi]at c;obtain⟨a,b⟩:=zq4 l k s (λi hi d=>ig);constructor
  ·rw[fpP,c];exact a
  ·unfold fpB at *;rw[QB,c,Qr];exact b
theorem kv2 (w:World)(lo:Nat)(l:List PP)(x:Value)(n:Tok)(Q:w.ownsRow lo 352 4 x l.length (xu l))(hl:l.length<=1000):
  qJ 215 #[x,ptV n] w λe w'=>e=.returned (.tuple #[paV (fpP l n.text.toList),.bool (fpB l n.text.toList)])/\pU w w':=by
 obtain⟨xa,cap,rfl,c⟩:=ql Q;obtain⟨W,f⟩:∃W,W=(w.alloc (.cells #[.string n.text,.int .i64 n.at_] 107)).alloc (.cells #[.string ⟨#[]⟩,.int .i64 0,.string ⟨#[]⟩,.int .i64 0] 352):=⟨_,rfl⟩;have C:pU w W:=jQ;have X:w.heap.size+1<W.heap.size:=by rw[f];simp
 have H:=pG (show W.heap[w.heap.size]?=some (.cells #[.string n.text,.int .i64 n.at_] 107 (0,0)) by rw[f];exact zy (qg _ _));have G:=pG (show W.heap[w.heap.size+1]?=some (.cells #[.string ⟨#[]⟩,.int .i64 0,.string ⟨#[]⟩,.int .i64 0] 352 (0,0)) by
  rw[f];have:=qg (w.alloc (.cells #[.string n.text,.int .i64 n.at_] 107)) (.cells #[.string ⟨#[]⟩,.int .i64 0,.string ⟨#[]⟩,.int .i64 0] 352);simp only[tJ]at this;exact this)
 have S:=pG c;have q:=pG C;have J:=pG f.symm;clear c Q C f;unfold ptV;go_enter func215,ntmps215
 go_wp2_with fail
 rw[ku J];go_loopw [7,10] (λ_ i wr=>∃k:Nat,k<=l.length/\i=.int .i64 k/\(∀i (hi:i<l.length),i<k->(l[i].name.text.toList==n.text.toList)=false)/\pU W wr) (λ_ i _=>l.length-(intOf i).toNat)
 case atStart=>exact⟨0,rW _,rfl,λi _ h=>aj,Below.refl _ _⟩
 case round=>
  obtain⟨k,Z,rfl,D,hb⟩:=hrel;have s:=pG D;have E:=pG hb;have R:=hb.size;have z:=(hb.block w.heap.size aj).trans (ku H);have b:=(hb.block (w.heap.size+1) aj).trans (ku G);obtain⟨m0,m1,_,_⟩:=kj0 z;obtain⟨Y,d1,d2,d3,f0,f1,f2,f3⟩:=kk5 b;have m:=pG b;have V:=wu z;have T:=wu b;clear D z b;by_cases y:k<l.length
  ·obtain⟨g,rfl,U,P,O⟩:=ku S k y;have u:=λj (F:j<4)=>xq kzj 4 (λ_=>rfl) l k j y F
   have t:∀j,j<l.length*4->wr.cell? ⟨g,j,none⟩=(xu l)[j]?:=λj F=>(hb.cell (p:=⟨g,j,none⟩) ay).trans (((ku q).cell (p:=⟨g,j,none⟩) P).trans (O j F))
   have K:=(t (k*4+0) aj).trans (u 0 aj);have L:=(t (k*4+1) aj).trans (u 1 aj);have M:=(t (k*4+2) aj).trans (u 2 aj);have N:=(t (k*4+3) aj).trans (u 3 aj);simp only[kzj,sZ,tu,sU]at K L M N;have a:=zq4 l k n.text.toList (ku s);rw[rM y]at a;have d:=pG a;have B:=pG (λ(A:(l[k].name.text.toList==n.text.toList)=false)=>(show ∀i (hi:i<l.length),i<k+1->(l[i].name.text.toList==n.text.toList)=false from λi hi h=>by
    by_cases e:i=k
    ·subst e;exact A
    ·exact(ku s) i hi aj))
   generalize l[k]=p at K L M N d B;clear t u O a hb;cases A:(p.name.text.toList==n.text.toList)
   ·have I:=pG ((ku B) A);go_wp2
    go_roundw
    case rel=>exact⟨k+1,aj,eu,ku I,(ku E).alloc R _⟩
    case measure=>exact qQ
   ·go_wp2
    refine rY (v:=.tuple #[paV p,.bool true]) (qj1 results215 _ _ (w.heap.size+1) _ _ _ _ rfl (zy (qyp (ku m) _ _ _ _)) underlying352 rfl ah) rfl ?_;rw[(ku d).1,(ku d).2];refine⟨by simp[fpP,fpB,A],?_⟩;exact(((((ku q).trans ((ku E).mono aj)).setCell au _).setCell au _ |>.setCell au _).setCell au _).alloc iQ _
  ·have a:=zq4 l l.length n.text.toList (λi hi _=>(ku s) i hi aj);rw[Qd]at a;have d:=pG a;clear a;go_wp2
   refine rY (v:=.tuple #[paV ⟨zf,zf⟩,.bool false]) (qj1 results215 _ _ (w.heap.size+1) _ _ _ _ rfl (qyp (ku m) _ _ _ _) underlying352 rfl ah) rfl ?_;rw[(ku d).1,(ku d).2];refine⟨rfl,?_⟩;exact((((ku q).trans ((ku E).mono aj)).setCell au _).setCell au _ |>.setCell au _).setCell au _
def vj9 (tab:Tab)(l:List PP)(n:Tok):Bool:=(!fpB l n.text.toList&&!((zl tab n.text.toList).role==3))&&!((zl tab n.text.toList).role==4)
theorem zvb {a: World}(h:Below B a w)(x0 x1 x2 x3:Value):Below B a (puts B [x0,x1,x2,x3] 0 w):=qxu (wJ _) _ _ h
theorem zwf (w:World)(B b lo:Nat)(tab:Tab)(l:List PP)(pa:Option Addr)(pn pc:Nat)(z:Int)(n:Tok)(h:Nm w B b tab (.slice pa pn pc) z)(s:w.ownsRow lo 352 4 (.slice pa pn pc) l.length (xu l))(p:l.length<=1000)(F:n.text.size<=1000):
  qJ 243 #[.pointer (some ⟨B,0,none⟩),ptV n] w λe w'=>e=.returned (.tuple #[])/\Nm w' B b tab (.slice pa pn pc) (kjt (vj9 tab l n) z n)/\Kept B w w':=by
 have H:=wu h.nm;have h1:=h.alloc (.cells #[.string n.text,.int .i64 n.at_] 107);obtain⟨c0,c1,c2,c3,f1,f2,f3⟩:=h1.cells;have t:=pG h1;have g:=pG (kv2 (w.alloc (.cells #[.string n.text,.int .i64 n.at_] 107)).drew lo l _ n (s.alloc _).drew p);have i:=pG (kv2 (((w.alloc (.cells #[.string n.text,.int .i64 n.at_] 107)).alloc (.cells #[.string ⟨#[]⟩,.int .i64 0,.string ⟨#[]⟩,.int .i64 0] 352)).drew) lo l _ n ((s.alloc _).alloc _).drew p);have E:=pG (show vj9 tab l n=((!fpB l n.text.toList&&!((zl tab n.text.toList).role==3))&&!((zl tab n.text.toList).role==4)) from rfl);have x:=pG (show(w.alloc (.cells #[.string n.text,.int .i64 n.at_] 107)).heap[w.heap.size]?=some (.cells #[.string n.text,.int .i64 n.at_] 107 (0,0)) from qg _ _);have y:=pG (show(((w.alloc (.cells #[.string n.text,.int .i64 n.at_] 107)).alloc (.cells #[.string ⟨#[]⟩,.int .i64 0,.string ⟨#[]⟩,.int .i64 0] 352)).drew).heap[w.heap.size+1]?=some (.cells #[.string ⟨#[]⟩,.int .i64 0,.string ⟨#[]⟩,.int .i64 0] 352 (0,0)) by
  have:=qg (w.alloc (.cells #[.string n.text,.int .i64 n.at_] 107)) (.cells #[.string ⟨#[]⟩,.int .i64 0,.string ⟨#[]⟩,.int .i64 0] 352);simp only[tJ]at this;exact this)
 clear h h1 s;unfold ptV at *;go_enter func243,ntmps243
 go_upto_region 1 with fail
 go_cut [5] from 7 to 15 (λv wx=>v=.bool (fpB l n.text.toList)/\Below (w.heap.size+1) (w.alloc (.cells #[.string n.text,.int .i64 n.at_] 107)) wx)
 case first=>
  go_region_law ((go_simp;go_at_call 215;(first|(refine(ku g).mono ?_;rintro e D ⟨rfl,a⟩)|(refine(ku i).mono ?_;rintro e D ⟨rfl,a⟩;obtain⟨z0,L,M,N,O,P,Q,R⟩:=kk5 (show D.heap[w.heap.size+1]?=_ from(a.block _ au).trans (ku y))));dsimp only[paV]))
  all_goals
   go_wp2_with fail
   go_meet
   refine⟨rfl,?_⟩;have C:=a.size;simp at C;first
   |exact(((Below.refl _ _).drew.trans (a.mono au)).alloc aj _)
   |exact zvb ((((Below.refl _ _).alloc au _).drew).trans (a.mono au)) _ _ _ _
 case rest=>
 obtain⟨rfl,hb⟩:=hcut;have hN:=(ku t).below (hb.mono au);have k:=(hb.block w.heap.size aj).trans (ku x);obtain⟨I,d1,_,_⟩:=kj0 k;have p:=kv1 hN.drew.tab F;have J:=kvk (zl tab n.text.toList);obtain⟨c0,c1,c2,c3,f1,f2,f3⟩:=hN.cells;have f:=pG hN;have d:=pG hb;clear hN hb k y g i x t;generalize zl tab n.text.toList=q at *;generalize fpB l n.text.toList=r at *;go_wp2
 go_region
 cases r
 case true=>
  rw[show(!true)=false from rfl,Ql,Ql]at E;go_wp2
  go_end0
  rw[ku E];exact⟨rfl,(ku f).drew,((Kept.kqn _).trans (Kept.of_below ((ku d).mono au))).drew⟩
 case false=>
 rw[show(!false)=true from rfl,QC]at E;cases A:(q.role != 3)
 case false=>
  have m:(!(q.role==3))=false:=A;rw[m,Ql]at E;go_wp2
  go_end0
  rw[ku E];exact⟨rfl,(ku f).drew,((Kept.kqn _).trans (Kept.of_below ((ku d).mono au))).drew⟩
 case true=>
 have m:(!(q.role==3))=true:=A;rw[m,QC]at E;cases j:(q.role != 4)
 case false=>
  have c:(!(q.role==4))=false:=j;rw[c]at E;go_wp2
  go_end0
  rw[ku E];exact⟨rfl,(ku f).drew,((Kept.kqn _).trans (Kept.of_below ((ku d).mono au))).drew⟩
 case true=>
 have c:(!(q.role==4))=true:=j;rw[c]at E;have u:=pG (note_any (wc.drew.drew) B 2 z n.at_ c2 c3 f2 f3);go_wp2
 go_region_law ((go_simp;go_at_call 212;refine(ku u).mono ?_;rintro e K ⟨rfl,G⟩;dsimp only))
 all_goals
  subst G;go_wp2
  go_end0
  rw[ku E];exact⟨rfl,((ku f).drew.drew).note aj,(((Kept.kqn _).trans (Kept.of_below ((ku d).mono au))).drew.drew).trans (Kept.note _ _ _ _ _)⟩
theorem kqb {e size: Nat}{t:TypeId}{v:Value}{n:Nat}{xs:List Value}   (h:w.ownsRow lo e size v n xs)(c:w.heap[B]?=some (.cells cs t fr))(d:t≠e)(a:Kept B w w'):w'.ownsRow lo e size v n xs:=
 h.kept (row:=some B) ⟨a.os,a.tape,a.output,a.size,λk h1 b=>a.block k h1 (λe=>b (by rw[e]))⟩ (Or.inr λe=>not_row h c d e.symm)
theorem XIs.nm {lo B:Nat}{w w':World}{t:TypeId}{cs:Array Value}{fr:Nat×Nat}(a:w.heap[B]?=some (.cells cs t fr))(b:t≠358)(c:Kept B w w'):∀{x:PX} {v:Value},XIs lo w x v->XIs lo w' x v
 |.nil,_,h=>h
 |.node _ _ _ _ _,_,⟨k,va,vb,e,hn,hh,ha,hb⟩=>⟨k,va,vb,e,hn,by
   rw[c.block k (wu hh) (λe=>by rw[e,a]at hh;injection hh with h1;injection h1 with f d;exact b d)];exact hh,ha.nm a b c,hb.nm a b c⟩
def kwp (tab:Tab)(l:List PP)(z:Int)(n:Tok):Int:=kjt (vj9 tab l n) z n
def kz7 (n i:Tok):List Tok:=if i.kind.toList==[] then [n] else [n,i]
def qxf (x:ELab):List Tok:=if x.op.toList==oK then kz7 x.name x.index else []
def cu:PX->List Tok
 |.nil=>[]
 |.node _ _ x a b=>(qxf x++cu a)++cu b
def pl5 (n i:Tok):Value:=.agg #[.string n.text,.int .i64 n.at_,.bool (!(i.kind.toList==[])),.string i.text,.int .i64 i.at_]
theorem zyv (w:World)(B b lo:Nat)(tab:Tab)(l:List PP)(pa:Option Addr)(pn pc:Nat)(z:Int)(n i:Tok)(h:Nm w B b tab (.slice pa pn pc) z)(p:w.ownsRow lo 352 4 (.slice pa pn pc) l.length (xu l))(m:l.length<=1000)(q:∀y∈kz7 n i,y.text.size<=1000):
  qJ 216 #[.pointer (some ⟨B,0,none⟩),pl5 n i] w λe w'=>e=.returned (.tuple #[])/\Nm w' B b tab (.slice pa pn pc) ((kz7 n i).foldl (kwp tab l) z)/\Kept B w w':=by
 have F:=wu h.nm;have s:n.text.size<=1000:=q n kV;have d:(i.kind.toList==[])=false->i.text.size<=1000:=λe=>q i (by unfold kz7;rw[e];simp)
 have E:=show(kz7 n i).foldl (kwp tab l) z=if i.kind.toList==[] then kwp tab l z n else kwp tab l (kwp tab l z n) i by unfold kz7;split<;>rfl
 have g:=zwf _ B b lo tab l pa pn pc z n (h.alloc (.cells #[.string n.text,.int .i64 n.at_,.bool (!(i.kind.toList==[])),.string i.text,.int .i64 i.at_] 332)) (p.alloc _) m s;have x:=p.alloc (.cells #[.string n.text,.int .i64 n.at_,.bool (!(i.kind.toList==[])),.string i.text,.int .i64 i.at_] 332);have v:=h.alloc (.cells #[.string n.text,.int .i64 n.at_,.bool (!(i.kind.toList==[])),.string i.text,.int .i64 i.at_] 332);unfold pl5 ptV at *;generalize (i.kind.toList==[])=c at *;go_enter func216,ntmps216
 cases c
 ·have f:=d rfl;go_wp2_with fail
  refine g.mono ?_;rintro e t ⟨rfl,h1,a⟩;obtain⟨_,_,A,C,D,_⟩:=jl (a.row (b:=w.heap.size) aj (qg _ _));have j:=zwf t B b lo tab l pa pn pc _ i h1 (kqb x v.nm ak a) m f;go_wp2_with fail
  refine j.mono ?_;rintro e G ⟨rfl,u,k⟩;go_wp2
  go_end0
  rw[E];exact⟨rfl,u,((Kept.kqn _).trans a).trans k⟩
 ·clear d;go_wp2_with fail
  refine g.mono ?_;rintro e t ⟨rfl,h1,a⟩;obtain⟨_,_,A,C,D,_⟩:=jl (a.row (b:=w.heap.size) aj (qg _ _));go_wp2
  go_end0
  rw[E];exact⟨rfl,h1,(Kept.kqn _).trans a⟩
theorem zj2 (o:List UInt8):(opN o==4)=(o==oK):=by
 unfold opN;cases a:(o==oK)
 ·cases (o==oG)
  ·cases (o==oP)
   ·cases (o==oJ)
    ·cases (o==oQ)
     ·cases (o==[33])
      ·cases (o==[38])
       ·cases (o==[124])
        ·cases (o==[61,61])
         ·cases (o==[33,61])
          ·cases (o==[60])
           ·cases (o==[43])
            ·cases (o==[45])<;>rfl
            ·rfl
           ·rfl
          ·rfl
         ·rfl
        ·rfl
       ·rfl
      ·rfl
     ·rfl
    ·rfl
   ·rfl
  ·rfl
 ·have:o=oK:=by simpa using a
  subst this;rfl
def qvt (x:PX):Prop:=∀(w:World) (B b lo xo:Nat) (tab:Tab) (l:List PP) (pa:Option Addr) (pn pc:Nat) (z:Int) (v:Value),Nm w B b tab (.slice pa pn pc) z->w.ownsRow lo 352 4 (.slice pa pn pc) l.length (xu l)->l.length<=1000 ->
  XIs xo w x v->(∀y∈cu x,y.text.size<=1000) ->
  qJ 160 #[.pointer (some ⟨B,0,none⟩),v] w λe w'=>e=.returned (.tuple #[])/\Nm w' B b tab (.slice pa pn pc) ((cu x).foldl (kwp tab l) z)/\Kept B w w'
theorem jwg (i j:Nat)(x:ELab)(a c:PX)(L:qvt a)(M:qvt c):qvt (.node i j x a c):=by
 intro w B b lo G tab l pa pn pc z v h X W hX Q;obtain⟨k,va,vb,rfl,hk,A,ha,hb⟩:=hX;have E:=show(cu (.node i j x a c)).foldl (kwp tab l) z=(cu c).foldl (kwp tab l) ((cu a).foldl (kwp tab l) ((qxf x).foldl (kwp tab l) z)) by rw[cu,QJ,QJ]
 have Y:∀y∈cu a,y.text.size<=1000:=λy C=>Q y (by rw[cu];simp[C])
 have Z:∀y∈cu c,y.text.size<=1000:=λy C=>Q y (by rw[cu];simp[C])
 have a0:∀y∈qxf x,y.text.size<=1000:=λy C=>Q y (by rw[cu];simp[C])
 have K:=A;obtain⟨⟨q0,q1,q2,q3,q4,q5,q6,q7,q8⟩,_⟩:=kkv A;have m:=zj2 x.op.toList;have q:k≠B:=λe=>by rw[e,h.nm]at K;injection K with h1;injection h1 with D N;exact absurd N ak
 have u:=λe:qxf x=kz7 x.name x.index=>zyv w B b lo tab l pa pn pc z x.name x.index h X W (by rw[<-e];exact a0)
 unfold pl5 at u;have s:=pG h;have O:=pG X;have S:=pG ha;have T:=pG hb;have I:=pG Y;have J:=pG Z;have F:=pG W;go_enter func160,ntmps160
 generalize opN x.op.toList=o at *;generalize (!(x.index.kind.toList==[]))=d at *;cases U:(o==4)
 ·rw[U]at m;rw[show(qxf x).foldl (kwp tab l) z=z by unfold qxf;rw[<-m];rfl]at E;clear m;go_wp2_with fail
  refine(L w B b lo G tab l pa pn pc z _ s O F S I).mono ?_;rintro e R ⟨rfl,h1,f⟩;obtain⟨⟨_,_,_,_,_,_,_,_,r8⟩,_⟩:=kkv (f.row q A);go_wp2_with fail
  refine(M R B b lo G tab l pa pn pc _ _ h1 (kqb O s.nm ak f) F (T.nm s.nm ak f) J).mono ?_;rintro e w2 ⟨rfl,D,g⟩;go_wp2
  go_end0
  rw[E];exact⟨rfl,D,f.trans g⟩
 ·rw[U]at m;have p:qxf x=kz7 x.name x.index:=by unfold qxf;rw[<-m];rfl
  rw[p]at E;have P:=u p;clear m p u;go_wp2_with fail
  refine P.mono ?_;rintro e R ⟨rfl,h1,f⟩;obtain⟨⟨_,_,_,_,_,_,_,r7,r8⟩,_⟩:=kkv (f.row q A);have H:=kqb O s.nm ak f;have t:=pG h1;go_wp2_with fail
  refine(L R B b lo G tab l pa pn pc _ _ t H F (S.nm s.nm ak f) I).mono ?_;rintro e w2 ⟨rfl,D,g⟩;obtain⟨⟨_,_,_,_,_,_,_,_,a1⟩,_⟩:=kkv (g.row q (f.row q A));go_wp2_with fail
  refine(M w2 B b lo G tab l pa pn pc _ _ D (kqb H t.nm ak g) F ((T.nm s.nm ak f).nm t.nm ak g) J).mono ?_;rintro e w3 ⟨rfl,N,V⟩;go_wp2
  go_end0
  rw[E];exact⟨rfl,N,(f.trans g).trans V⟩
theorem kyf:∀x:PX,qvt x
 |.nil=>λw B b lo m tab l pa pn pc z v h f e d k=>by
  have g:v=.pointer none:=d;go_enter func160,ntmps160
  go_wp2
  refine rY (results_none rfl _ _ _) rfl ?_;exact⟨rfl,h,Kept.refl _ _⟩
 |.node i j x a c=>jwg i j x a c (kyf a) (kyf c)
end Go.Proofs.YtpmcnonmkghokaaGreatDoor

import Derived.Test.YtpmcnonmkghokaaGreatDoorT03
import Derived.Deep.CutRange
import Derived.Lib.SliceRun
import Derived.Laws.OwnMore
import Derived.Test.YtpmcnonmkghokaaGreatDoorT00
set_option maxRecDepth 100000
set_option maxHeartbeats 8000000
set_option linter.unusedVariables false
set_option linter.unusedSimpArgs false
namespace Go.Proofs.YtpmcnonmkghokaaGreatDoor
open Go.Proofs.Tryz Go.RowKit
attribute [local simp] kzy zjw kjs
attribute [local go_sem ↓] Go.wp_at_zero Go.wp_at_succ
variable {cs cs':Array Value}{d8:Bool}{f z:Int}{r:Int×Bool}{ms st:List Int}{vars:List MVar}{ks:List PKind}{l:List PP}{i1:List PSet}{xs:List Value}{α:Type}{items:List α}{B M R b c0 c1 cap e g k lo mc mn n n0 n1 nb pc pn sc size sn so xo:Nat}{fr:Nat×Nat}{a0 a1 ma p pa sa:Option Addr}{g7 no:Option Nat}{g8:PB}{i2:PSet}{b8 c x:PX}{t t0:Tab}{d9 i:Tok}{b7:TypeId}{ps sv v x0 x1 x2 x3 y0 y1 y2 y3 y4 y5:Value}{W a w w' wr:World}{tab:kq3}
def bE:ByteArray:=⟨#[]⟩
def gS(t:Tab)(s:PSet):Tab:=kyw t s.y ⟨1,0,bE,kv3⟩
def gM(kn:ByteArray)(t:Tab)(m:Tok):Tab:=kyw t m ⟨3,0,kn,kv3⟩
def gK(t:Tab)(k:PKind):Tab:=k.i.foldl (gM k.y.x) (kyw t k.y ⟨2,0,bE,kv3⟩)
def gV(t:Tab)(v:VrT):Tab:=kyw t v.y ⟨4,0,bE,v⟩
def gR(t:Tab)(r:PRule):Tab:=kyw t r.y ⟨5,0,bE,kv3⟩
def gN(t:Tab)(r:PRule):Tab:=kyw t r.y ⟨6,0,bE,kv3⟩
def gt1(m:MdL):Tab:=m.j.foldl gS []
def gt2(m:MdL):Tab:=m.p.foldl gK (gt1 m)
def gt3(m:MdL):Tab:=m.z.foldl gV (gt2 m)
def gt4(m:MdL):Tab:=m.l.foldl gR (gt3 m)
def qm(m:MdL):Tab:=m.q.foldl gN (gt4 m)
structure MdSz (m:MdL):Prop where
 j:∀s∈m.j,s.y.x.size<=1000
 p:∀k∈m.p,k.y.x.size<=1000/\∀x∈k.i,x.x.size<=1000
 z:∀v∈m.z,v.y.x.size<=1000
 l:∀r∈m.l,r.y.x.size<=1000
 q:∀r∈m.q,r.y.x.size<=1000
def ky9{α:Type}(W:World)(b:Nat)(g:Tab->α->Tab)(items:List α)(t0:Tab)(i:Value)(wr:World):Prop:=
 ∃(k:Nat)(t:Tab),k<=items.length/\i=.int .i64 k/\(items.drop k).foldl g t=items.foldl g t0/\ky3 t/\kj5 wr b t/\Kept b W wr
theorem ky9.start{g:Tab->α->Tab}(d:ky3 t)(a:kj5 wr b t)(c:Kept b W wr):ky9 W b g items t (.int .i64 0) wr:=
 ⟨0,t,jR,rfl,rfl,d,a,c⟩
theorem ky9.Y{g:Tab->α->Tab}(c:k<items.length)(h:(items.drop k).foldl g t=items.foldl g t0)(d:ky3 (g t items[k]))(a:kj5 wr b (g t items[k]))(e:Kept b W wr):ky9 W b g items t0 (.int .i64<|(k:Int)+1) wr:=by refine⟨k+1,_,c,eu,?_,d,a,e⟩;grind [List.drop_eq_getElem_cons]
theorem qxe{g:Tab->α->Tab}(a:¬k<items.length)(h:(items.drop k).foldl g t=items.foldl g t0):t=items.foldl g t0:=by grind [List.drop_of_length_le]
theorem qkm(n:Tok)(r:Int)(kn:ByteArray)(h:kj5 w b t)(c:ky3 t)(a:n.x.size<=1000):og 156 #[.map (some b),.agg #[.string n.x,.int .i64 n.v],.agg #[.int .i64 r,.int .i64 0,.string kn,.string ⟨#[]⟩,.int .i64 0,.bool false,.string ⟨#[]⟩,.int .i64 0,.int .i64 0,.int .i64 0,.int .i64 0,.string ⟨#[]⟩,.int .i64 0]] w λe w'=>e=.returned (.tuple #[])/\kj5 w' b (kyw t n ⟨r,0,kn,kv3⟩)/\Kept b w w':=
 vxz n ⟨r,0,kn,kv3⟩ h c a
theorem pyn(n:Tok)(r:Int)(x:VrT)(h:kj5 w b t)(c:ky3 t)(a:n.x.size<=1000):og 156 #[.map (some b),.agg #[.string n.x,.int .i64 n.v],.agg #[.int .i64 r,.int .i64 0,.string ⟨#[]⟩,.string x.y.x,.int .i64 x.y.v,.bool x.K,.string x.g.x,.int .i64 x.g.v,.int .i64 x.si.I,.int .i64<|mg x.si.R.x,.int .i64 x.si.R.v,.string x.si.y.x,.int .i64 x.si.y.v]] w λe w'=>e=.returned (.tuple #[])/\kj5 w' b (kyw t n ⟨r,0,bE,x⟩)/\Kept b w w':=
 vxz n ⟨r,0,bE,x⟩ h c a
theorem vwn{a9:MdL}(h:kwm lo w x0 x1 x2 x3 sv a9)(aA:MdOk a9)(K:MdSz a9):Calls prog 92 #[.agg #[x0,x1,x2,x3,sv]] w λe w'=>∃b,e=.returned (.map<|some b)/\kj5 w' b (qm a9)/\ky3 (qm a9)/\w.heap.size<=b/\oq w w':=by
 obtain⟨h0,⟨c1,h1,aR⟩,h2,⟨c3,h3,aS⟩,⟨c4,h4,aT⟩⟩:=h;obtain⟨aL,aM,aN,aO,aP,aB,aC⟩:=aA;have aA:MdOk a9:=⟨aL,aM,aN,aO,aP,aB,aC⟩;obtain⟨W,hW⟩:∃W,W=(w.alloc<|.cells #[x0,x1,x2,x3,sv] 68).alloc (.map #[] 0):=⟨_,rfl⟩;have Z:oq w W:=by rw[hW];exact(jZ w).trans ((jZ _).mono ay)
 have bF:W.heap.size=w.heap.size+2:=by simp_all
 obtain⟨b,hB⟩:∃b,b=w.heap.size+1:=⟨_,rfl⟩;obtain⟨bA,P⟩:=ju hW.symm (by rw[hW];exact zy (qy):W.heap[w.heap.size]?=some (.cells #[x0,x1,x2,x3,sv] 68 (0,0)));have aV:=show kj5 W b [] by rw[hW,hB];have:=qy (w:=w.alloc<|.cells #[x0,x1,x2,x3,sv] 68) (o:=.map #[] 0);simp only[tV]at this;exact⟨⟨#[],0,this,rfl⟩,Jd,λx hx=>by simp_all⟩
 have vw:∀{e size:Nat}{v:Value}{n:Nat}{xs:List Value},w.ownsRow lo e size v n xs->∃a cap,v=.slice a n cap/\∀i,i<n->∃g,a=some ⟨g,0,none⟩/\lo<=g/\g<w.heap.size/\∀j,j<n*size->W.cell? ⟨g,j,none⟩=xs[j]?:=by intro e size v n xs h;obtain⟨a,cap,M,hv⟩:=qp h;refine⟨a,cap,M,λi hi=>?_⟩;obtain⟨g,q1,q2,q3,q4⟩:=hv i hi;exact⟨g,q1,q2,q3,λj hj=>(Z.cell (p:=⟨g,j,none⟩) q3).trans<|q4 j hj⟩
 obtain⟨a0,bL,rfl,(b5:Hid _)⟩:=vw h0;obtain⟨a1,bM,rfl,(b6:Hid _)⟩:=vw h1;obtain⟨a2,bN,rfl,(b7:Hid _)⟩:=vw h2;obtain⟨a3,bO,rfl,(b8:Hid _)⟩:=vw h3;obtain⟨a4,bP,rfl,(b9:Hid _)⟩:=vw h4;have aQ:=oz hB;have bQ:w.heap.size<b:=aj;have bS:b<W.heap.size:=aj;clear vw bF hB hW aB aC;have aW:=show ky9 W b gS a9.j [] (.int .i64 0) W from ky9.start (λx hx=>by simp_all) aV<|Kept.refl _ _
 have bC:∀W:World,(Instr.makeMap 202 none).run prog W=.ok (.map<|some W.heap.size) (W.alloc<|.map #[] 0):=λW=>rfl
 go_in;go_wp21;clear bC;rw[ku bA,<-ku aQ];go_loopw [5,20] (λ_ i wr=>ky9 W b gS a9.j [] i wr) (λ_ i _=>a9.j.length-(intOf i).toNat);exact aW;obtain⟨k,t,hk,rfl,(u:Hid _),f,l,d⟩:=hrel;have Y:=d.size;by_cases c:k<a9.j.length
 ·obtain⟨g,rfl,V,X,q⟩:=ku b5 k c;have m:g≠b:=aj;have e:=jyd q (λ_=>rfl) c d m;have y:=oz (λ(w':World) (J:ky3 (gS t<|a9.j[k])) (H:kj5 w' b (gS t<|a9.j[k])) (L:Kept b W w')=>ky9.Y (W:=W) (wr:=w') (g:=gS) (items:=a9.j) (t0:=[]) c u J H L);have s:=K.j _<|wZ c;generalize a9.j[k]=p at e y s;clear q;go_wp21
  refine(qkm p.y 1 ⟨#[]⟩ (l.kept<|jZ _) f s).mono ?_;rintro e O ⟨rfl,h1,A⟩;have G:=y _ (qzk f ay) h1<|(d.alloc _).trans A;clear e;go_wp2
  exact rdM G
 ·have C:=qxe c u;rw[C]at l f;have z:=d.e (b:=w.heap.size) aj P;have qx:=jl z;have aX:=show ky9 W b gK a9.p (gt1 a9) (.int .i64 0) wr from ky9.start f l d
  clear C z;go_wp21;go_loopw [7,9,33] (λ_ _ i wr=>ky9 W b gK a9.p (gt1 a9) i wr) (λ_ _ i _=>a9.p.length-(intOf i).toNat);exact aX;obtain⟨k,t,hk,rfl,(u:Hid _),f,l,d⟩:=hrel;have Y:=d.size;by_cases c:k<a9.p.length
  ·obtain⟨g,rfl,V,X,q⟩:=ku b6 k c;have m:g≠b:=aj;obtain⟨ma,mn,mc,D,E,F,HM⟩:=jjh k c aR;have R:=d.cell (a:=⟨g,k*3,none⟩) m<|(q (k*3) aj).trans D;have M:=d.cell (a:=⟨g,k*3+1,none⟩) m<|(q (k*3+1) aj).trans E;have S:=d.cell (a:=⟨g,k*3+2,none⟩) m<|(q (k*3+2) aj).trans F;have y:=oz (λ(w':World) (J:ky3 (gK t<|a9.p[k])) (H:kj5 w' b (gK t<|a9.p[k])) (L:Kept b W w')=>ky9.Y (W:=W) (wr:=w') (g:=gK) (items:=a9.p) (t0:=(gt1 a9)) c u J H L);have s:=K.p _<|wZ c;have bD:=aA.i _<|wZ c;generalize a9.p[k]=p at R M S y s HM bD;clear q D E F;go_wp21
   refine(qkm p.y 2 ⟨#[]⟩ (l.kept<|jZ _) f s.1).mono ?_;rintro e O ⟨rfl,h1,A⟩;have a7:=oz<|A.e (b:=wr.heap.size) aj (qy);have aE:=(d.alloc _).trans A;have bU:=wQ a7;have b4:=qzk (t:=t) f (n:=p.y) (e:=⟨2,0,bE,kv3⟩) ay;have g2:=row3 a7;obtain⟨mb,bJ,aK,(aU:Hid _)⟩:=qp HM;injection aK with q1 q2 q3;subst q1;subst q2;subst q3;have b3:=show ky9 O b (gM p.y.x) p.i (kyw t p.y ⟨2,0,bE,kv3⟩) (.int .i64 0) O from ky9.start b4 h1<|Kept.refl _ _
   clear R M S;go_wp21;go_loopw [9,45] (λ_ i wr=>ky9 O b (gM p.y.x) p.i (kyw t p.y ⟨2,0,bE,kv3⟩) i wr) (λ_ i _=>p.i.length-(intOf i).toNat);exact b3;obtain⟨k5,t5,bT,rfl,(a5:Hid _),N,U,Q⟩:=hrel;have bH:=Q.size;by_cases I:k5<p.i.length
   ·obtain⟨g5,rfl,bG,aI,aG⟩:=ku aU k5 I;have aJ:g5≠b:=aj;have e:=jyd (λj hj=>(Z.cell (p:=⟨g5,j,none⟩) aI).trans<|aG j hj) (λ_=>rfl) I (aE.trans Q) aJ;have aD:=Q.e aj a7;have v0:=row3 aD;have bI:=wQ aD;have a8:=s.2 _<|wZ I;have a6:=oz (λ(w':World) (J:ky3 (gM p.y.x t5<|p.i[k5])) (H:kj5 w' b (gM p.y.x t5<|p.i[k5])) (L:Kept b O w')=>ky9.Y (W:=O) (wr:=w') (g:=gM p.y.x) (items:=p.i) (t0:=kyw t p.y ⟨2,0,bE,kv3⟩) I a5 J H L);generalize p.i[k5]=y5 at e a6 a8;clear aG aD;go_wp21
    refine(qkm y5 3 p.y.x (U.kept<|jZ _) N a8).mono ?_;rintro e w6 ⟨rfl,h6,bB⟩;have G:=a6 _ (qzk N ay) h6<|(Q.alloc _).trans bB;go_wp2
    exact rdM G
   ·have aH:=qxe I a5;rw[aH]at U N;have G:=y _ N U<|aE.trans Q;clear aH;go_wp2
    exact rdM G
  ·have C:=qxe c u;rw[C]at l f;have z:=d.e (b:=w.heap.size) aj P;have qx:=jl z;have aY:=show ky9 W b gV a9.z (gt2 a9) (.int .i64 0) wr from ky9.start f l d
   clear C z;go_wp21;go_loopw [11,61] (λ_ i wr=>ky9 W b gV a9.z (gt2 a9) i wr) (λ_ i _=>a9.z.length-(intOf i).toNat);exact aY;obtain⟨k,t,hk,rfl,(u:Hid _),f,l,d⟩:=hrel;have Y:=d.size;by_cases c:k<a9.z.length
   ·obtain⟨g,rfl,V,X,q⟩:=ku b7 k c;have m:g≠b:=aj;have e:=jyd q (λ_=>rfl) c d m;have y:=oz (λ(w':World) (J:ky3 (gV t<|a9.z[k])) (H:kj5 w' b (gV t<|a9.z[k])) (L:Kept b W w')=>ky9.Y (W:=W) (wr:=w') (g:=gV) (items:=a9.z) (t0:=(gt2 a9)) c u J H L);have s:=K.z _<|wZ c;generalize a9.z[k]=p at e y s;clear q;go_wp21
    refine(pyn p.y 4 p (l.kept<|jZ _) f s).mono ?_;rintro e O ⟨rfl,h1,A⟩;have G:=y _ (qzk f ay) h1<|(d.alloc _).trans A;clear e;go_wp2
    exact rdM G
   ·have C:=qxe c u;rw[C]at l f;have z:=d.e (b:=w.heap.size) aj P;have qx:=jl z;have aZ:=show ky9 W b gR a9.l (gt3 a9) (.int .i64 0) wr from ky9.start f l d
    clear C z;go_wp21;go_loopw [13,75] (λ_ i wr=>ky9 W b gR a9.l (gt3 a9) i wr) (λ_ i _=>a9.l.length-(intOf i).toNat);exact aZ;obtain⟨k,t,hk,rfl,(u:Hid _),f,l,d⟩:=hrel;have Y:=d.size;by_cases c:k<a9.l.length
    ·obtain⟨g,rfl,V,X,q⟩:=ku b8 k c;have m:g≠b:=aj;obtain⟨pa,pn,pc,gp,ba,bn,bc,bK,⟨D,E,F,T,aF⟩,_⟩:=vjd k c aS;have R:=d.cell (a:=⟨g,k*5,none⟩) m<|(q (k*5) aj).trans D;have M:=d.cell (a:=⟨g,k*5+1,none⟩) m<|(q (k*5+1) aj).trans E;have S:=d.cell (a:=⟨g,k*5+2,none⟩) m<|(q (k*5+2) aj).trans F;have e3:=d.cell (a:=⟨g,k*5+3,none⟩) m<|(q (k*5+3) aj).trans T;have e4:=d.cell (a:=⟨g,k*5+4,none⟩) m<|(q (k*5+4) aj).trans aF;have y:=oz (λ(w':World) (J:ky3 (gR t<|a9.l[k])) (H:kj5 w' b (gR t<|a9.l[k])) (L:Kept b W w')=>ky9.Y (W:=W) (wr:=w') (g:=gR) (items:=a9.l) (t0:=(gt3 a9)) c u J H L);have s:=K.l _<|wZ c;generalize a9.l[k]=p at R M S e3 e4 y s;clear q D E F T aF;go_wp21
     refine(qkm p.y 5 ⟨#[]⟩ (l.kept<|jZ _) f s).mono ?_;rintro e O ⟨rfl,h1,A⟩;have G:=y _ (qzk f ay) h1<|(d.alloc _).trans A;clear R M S e3 e4;go_wp2
     exact rdM G
    ·have C:=qxe c u;rw[C]at l f;have z:=d.e (b:=w.heap.size) aj P;have qx:=jl z;have b2:=show ky9 W b gN a9.q (gt4 a9) (.int .i64 0) wr from ky9.start f l d
     clear C z;go_wp21;go_loopw [15,88] (λ_ i wr=>ky9 W b gN a9.q (gt4 a9) i wr) (λ_ i _=>a9.q.length-(intOf i).toNat);exact b2;obtain⟨k,t,hk,rfl,(u:Hid _),f,l,d⟩:=hrel;have Y:=d.size;by_cases c:k<a9.q.length
     ·obtain⟨g,rfl,V,X,q⟩:=ku b9 k c;have m:g≠b:=aj;obtain⟨pa,pn,pc,gp,⟨D,E,F,T⟩,_⟩:=vz0 k c aT;have R:=d.cell (a:=⟨g,k*4,none⟩) m<|(q (k*4) aj).trans D;have M:=d.cell (a:=⟨g,k*4+1,none⟩) m<|(q (k*4+1) aj).trans E;have S:=d.cell (a:=⟨g,k*4+2,none⟩) m<|(q (k*4+2) aj).trans F;have e3:=d.cell (a:=⟨g,k*4+3,none⟩) m<|(q (k*4+3) aj).trans T;have y:=oz (λ(w':World) (J:ky3 (gN t<|a9.q[k])) (H:kj5 w' b (gN t<|a9.q[k])) (L:Kept b W w')=>ky9.Y (W:=W) (wr:=w') (g:=gN) (items:=a9.q) (t0:=(gt4 a9)) c u J H L);have s:=K.q _<|wZ c;generalize a9.q[k]=p at R M S e3 y s;clear q D E F T;go_wp21
      refine(qkm p.y 6 ⟨#[]⟩ (l.kept<|jZ _) f s).mono ?_;rintro e O ⟨rfl,h1,A⟩;have G:=y _ (qzk f ay) h1<|(d.alloc _).trans A;clear R M S e3;go_wp2
      exact rdM G
     ·have C:=qxe c u;rw[C]at l f;have z:=d.e (b:=w.heap.size) aj P;clear C z;go_wp2;go_ret;refine⟨b,rfl,l,f,aj,Z.trans<|Kept.toBelow (B:=w.heap.size) d aj aj⟩
structure Nm (w:World)(B b:Nat)(tab:Tab)(ps:Value)(z:Int):Prop where
 nm:w.heap[B]?=some (.cells #[.map (some b),ps,.bool<|decide (0<=z),.int .i64 (fAt z)] 296 (0,0))
 C:kj5 w b tab
 ne:b≠B
theorem Nm.below(h:Nm w B b t ps z)(hb:oq w w'):Nm w' B b t ps z:=
 ⟨by rw[hb.block B (wQ h.nm)];exact h.nm,h.C.kept hb,h.ne⟩
theorem Nm.alloc(h:Nm w B b t ps z)(o:Obj):Nm (w.alloc o) B b t ps z:=h.below<|jZ _
theorem Nm.drew(h:Nm w B b t ps z):Nm w.drew B b t ps z:=h.below<|bR.drew
theorem Nm.note(h:Nm w B b t ps z)(c:0<=f):Nm (qx0 w B 2 z f) B b t ps (xu z f):=by
 refine⟨?_,?_,h.ne⟩
 ·rw[zwq z f c];unfold qx0;by_cases a:z<0\/f<z
  ·rw[lJ a,lJ a,show decide (0<=f)=true by simp_all,show fAt f=f by unfold fAt;omega];exact jL B 3 _ _ _<|jL B 2 _ _ _ h.nm
  ·rw[Xy a,Xy a];exact h.nm
 ·unfold qx0;split
  ·exact(h.C.other (by simpa using h.ne) _).other (by simpa using h.ne) _
  ·exact h.C
theorem Nm.cells(h:Nm w B b t ps z):w.cell? ⟨B,0,none⟩=some (.map<|some b)/\w.cell? ⟨B,1,none⟩=some ps/\w.cell? ⟨B,2,none⟩=some (.bool<|decide (0<=z))/\w.cell? ⟨B,3,none⟩=some (.int .i64<|fAt z)/\w.frozen? ⟨B,1,none⟩=false/\w.frozen? ⟨B,2,none⟩=false/\w.frozen? ⟨B,3,none⟩=false:=by have a:=kz3 h.nm;simp_all
def kjo(c:Bool)(z:Int)(n:Tok):Int:=if c then xu z n.v else z
def kk3(tab:Tab)(n:Tok):Bool:=!((zl tab n.x.toList).N==n.v)
theorem qjd(n:Tok)(h:Nm w B b t ps z)(g:n.x.size<=1000):Calls prog 157 #[.pointer (some ⟨B,0,none⟩),ptV n] w λe w'=>e=.returned (.tuple #[])/\Nm w' B b t ps (kjo (kk3 t n) z n)/\Kept B w w':=by
 have a:=h.alloc<|.cells #[.string n.x,.int .i64 n.v] 107;obtain⟨c0,c1,c2,c3,f1,f2,f3⟩:=a.cells;have k:=kvb a.drew.C g;have j:=vwo<|zl t n.x.toList;have E:=oz (show kjo (kk3 t n) z n=if !((zl t n.x.toList).N==n.v) then xu z n.v else z from rfl);generalize zl t n.x.toList=q at *;unfold ptV;go_wp2
 go_region
 cases f:(q.N != (n.v:Int))
 ·have c:(!(q.N==(n.v:Int)))=false:=f;rw[c]at E;go_wp2;go_end0;rw[ku E];exact⟨rfl,a.drew,(Kept.kqe _).drew⟩
 ·have c:(!(q.N==(n.v:Int)))=true:=f;rw[c]at E;have d:=note_any (w:=(w.alloc<|.cells #[.string n.x,.int .i64 n.v] 107).drew.drew) n.v c2 c3 f2 f3;go_wp2;go_region_law ((go_simp;go_at_call 212;refine d.mono ?_;rintro e l ⟨rfl,i⟩;dsimp only))
  all_goals
   subst i;go_wp2;go_end0;rw[ku E];exact⟨rfl,(a.drew.drew).note aj,((Kept.kqe _).drew.drew).trans<|Kept.note _ _ _ _ _⟩
def zzd(tab:Tab)(n:Tok):Bool:=!((zl tab n.x.toList).V==1)
theorem jwg(n:Tok)(h:Nm w B b t ps z)(g:n.x.size<=1000):Calls prog 213 #[.pointer (some ⟨B,0,none⟩),ptV n] w λe w'=>e=.returned (.tuple #[])/\Nm w' B b t ps (kjo (zzd t n) z n)/\Kept B w w':=by
 have a:=h.alloc<|.cells #[.string n.x,.int .i64 n.v] 107;obtain⟨c0,c1,c2,c3,f1,f2,f3⟩:=a.cells;have k:=kvb a.drew.C g;have j:=kw6<|zl t n.x.toList;have E:=oz (show kjo (zzd t n) z n=if !((zl t n.x.toList).V==1) then xu z n.v else z from rfl);generalize zl t n.x.toList=q at *;unfold ptV;go_wp2
 go_region
 cases f:(q.V != 1)
 ·have c:(!(q.V==1))=false:=f;rw[c]at E;go_wp2;go_end0;rw[ku E];exact⟨rfl,a.drew,(Kept.kqe _).drew⟩
 ·have c:(!(q.V==1))=true:=f;rw[c]at E;have d:=note_any (w:=(w.alloc<|.cells #[.string n.x,.int .i64 n.v] 107).drew.drew) n.v c2 c3 f2 f3;go_wp2;go_region_law ((go_simp;go_at_call 212;refine d.mono ?_;rintro e l ⟨rfl,i⟩;dsimp only))
  all_goals
   subst i;go_wp2;go_end0;rw[ku E];exact⟨rfl,(a.drew.drew).note aj,((Kept.kqe _).drew.drew).trans<|Kept.note _ _ _ _ _⟩
def vv5(tab:Tab)(n:Tok):Bool:=!((zl tab n.x.toList).V==2)&&zzd tab n
theorem pq2(n:Tok)(h:Nm w B b t ps z)(i:n.x.size<=1000):Calls prog 214 #[.pointer (some ⟨B,0,none⟩),ptV n] w λe w'=>e=.returned (.tuple #[])/\Nm w' B b t ps (kjo (vv5 t n) z n)/\Kept B w w':=by
 have a:=h.alloc<|.cells #[.string n.x,.int .i64 n.v] 107;obtain⟨c0,c1,c2,c3,f1,f2,f3⟩:=a.cells;have l:=kvb a.drew.C i;have k:=kw6<|zl t n.x.toList;have E:=oz (show vv5 t n=(!((zl t n.x.toList).V==2)&&zzd t n) from rfl);have f:=jwg n a.drew i;generalize zl t n.x.toList=q at *;unfold ptV at *;go_wp2
 go_region
 cases g:(q.V != 2)
 ·have c:(!(q.V==2))=false:=g;rw[c]at E;go_wp2;go_end0;rw[ku E];exact⟨rfl,a.drew,(Kept.kqe _).drew⟩
 ·have c:(!(q.V==2))=true:=g;rw[c,QZ]at E;go_wp21;refine f.mono ?_;rintro e m ⟨rfl,j,d⟩;go_wp2;go_end0;rw[ku E];exact⟨rfl,j,((Kept.kqe _).drew).trans d⟩
def xjz(tab:Tab)(z:Int)(x:VrT):Int:=
 if x.si.I==2 then kjo (vv5 tab x.si.y) (kjo (x.K&&zzd tab x.g) z x.g) x.si.y else kjo (x.K&&zzd tab x.g) z x.g
theorem vqw(x:VrT)(h:Nm w B b t ps z)(l:x.g.x.size<=1000)(d:x.si.y.x.size<=1000):Calls prog 158 #[.pointer (some ⟨B,0,none⟩),vrV x] w λe w'=>e=.returned (.tuple #[])/\Nm w' B b t ps (xjz t z x)/\Kept B w w':=by
 have p:=wQ h.nm;have E:=oz (show xjz t z x=if x.si.I==2 then kjo (vv5 t x.si.y) (kjo (x.K&&zzd t x.g) z x.g) x.si.y else kjo (x.K&&zzd t x.g) z x.g from rfl);unfold vrV kjs;go_in;cases g:x.K
 ·rw[g,QJ,show kjo false z x.g=z from rfl]at E;cases c:(x.si.I==2)
  ·rw[c]at E;go_wp2;go_end0;rw[ku E];exact⟨rfl,h.alloc _,Kept.kqe _⟩
  ·rw[c]at E;go_wp21;refine(pq2 x.si.y (h.alloc _) d).mono ?_;rintro e m ⟨rfl,h1,a⟩;go_wp2;go_end0;rw[ku E];exact⟨rfl,h1,(Kept.kqe _).trans a⟩
 ·rw[g,QZ]at E;go_wp21;refine(jwg x.g (h.alloc _) l).mono ?_;rintro e m ⟨rfl,j,a⟩;have hv:=a.e (b:=w.heap.size) aj<|qy;have q:=kju hv;have f:=(Kept.kqe _).trans a;clear hv;cases c:(x.si.I==2)
  ·rw[c]at E;go_wp2;go_end0;grind [ku]
  ·rw[c]at E;go_wp21;refine(pq2 x.si.y j d).mono ?_;rintro e s ⟨rfl,k,i⟩;go_wp2;go_end0;rw[ku E];exact⟨rfl,k,f.trans i⟩
theorem kjv{b:Program}{b4:Func}{b5 b6:Tmp}{b7:TypeId}(h:b4.results=#[.cell b5 b7,.tmp b6])(a:Array Value)(w:World)(g:Nat)(t:TypeId)(cs:Array Value)(fr:Nat×Nat)(d:TypeDesc)(j:a.getD b5 undef=.pointer (some ⟨g,0,none⟩))(f:w.heap[g]?=some (.cells cs t fr))(hu:b.underlying b7=some d)(e:(match d with|.struct _|.array _ _=>true|_=>false)=true)(hi:(b.info? b7).map (·.size)=some cs.size):(results b4 a).run b w=.ok (.tuple #[.agg cs,a.getD b6 undef]) w:=by
 have c:a[b5]?.getD undef=.pointer (some ⟨g,0,none⟩):=by simp_all
 simp[results,h,c,asAddr,run_loadVar_row w g t b7 cs fr d f hu e hi]
def fpP:List PP->List UInt8->PP
 |[],_=>⟨zh,zh⟩
 |p::l,s=>if p.y.x.toList==s then p else fpP l s
def fpB(l:List PP)(s:List UInt8):Bool:=l.any (λp=>p.y.x.toList==s)
theorem zxw:∀(l:List PP)(k:Nat)(s:List UInt8),(∀i (hi:i<l.length),i<k->(l[i].y.x.toList==s)=false)->fpP l s=fpP (l.drop k) s/\fpB l s=fpB (l.drop k) s
 |[],k,s,_=>ay
 |p::l,0,s,_=>⟨rfl,rfl⟩
 |p::l,k+1,s,h=>by have c:=h 0 ay aj;simp only[JU]at c;obtain⟨a,b⟩:=zxw l k s (λi hi d=>by grind);grind [fpP,fpB]
theorem kvm(n:Tok)(M:w.ownsRow lo 352 4 sv l.length (uq l))(S:l.length<=1000):Calls prog 215 #[sv,ptV n] w λe w'=>e=.returned (.tuple #[paV (fpP l n.x.toList),.bool (fpB l n.x.toList)])/\oq w w':=by
 obtain⟨xa,cap,rfl,(L:Hid _)⟩:=qp M;obtain⟨W,s⟩:=cpy<|(w.alloc<|.cells #[.string n.x,.int .i64 n.v] 107).alloc (.cells #[.string ⟨#[]⟩,.int .i64 0,.string ⟨#[]⟩,.int .i64 0] 352);have d:oq w W:=by rw[s];exact(jZ w).trans ((jZ _).mono ay)
 have Q:w.heap.size+1<W.heap.size:=by simp_all
 have B:=oz (by rw[s];exact zy (qy):W.heap[w.heap.size]?=some (.cells #[.string n.x,.int .i64 n.v] 107 (0,0)));have A:=oz (show W.heap[w.heap.size+1]?=some (.cells #[.string ⟨#[]⟩,.int .i64 0,.string ⟨#[]⟩,.int .i64 0] 352 (0,0)) by grind [qy,World.size_alloc])
 have D:=oz s.symm;clear s;unfold ptV;go_in;go_wp21;rw[ku D];go_loopw [7,10] (λ_ i wr=>∃k:Nat,k<=l.length/\i=.int .i64 k/\(∀i (hi:i<l.length),i<k->(l[i].y.x.toList==n.x.toList)=false)/\oq W wr) (λ_ i _=>l.length-(intOf i).toNat)
 ·grind [Below.refl]
 obtain⟨k,R,rfl,(t:Hid _),b⟩:=hrel;have K:=b.size;have q:=(b.block w.heap.size aj).trans B;have a:=oz<|(b.block (w.heap.size+1) aj).trans A;have T:=kj6 q;have d0:=kz3 a;have P:=wQ q;have N:=wQ a;clear q;by_cases m:k<l.length
 ·obtain⟨g,rfl,O,J,I⟩:=ku L k m;have f:=λj (y:j<4)=>kqo kzn 4 (λ_=>rfl) l k j m y
  have cc:∀j,j<l.length*4->wr.cell? ⟨g,j,none⟩=(uq l)[j]?:=λj y=>(b.cell (p:=⟨g,j,none⟩)<|by grind).trans<|(d.cell (p:=⟨g,j,none⟩) J).trans (I j y)
  have E:=(cc (k*4+0) aj).trans<|f 0 aj;have F:=(cc (k*4+1) aj).trans<|f 1 aj;have G:=(cc (k*4+2) aj).trans<|f 2 aj;have H:=(cc (k*4+3) aj).trans<|f 3 aj;simp only[kzn,sW,sU,Qk]at E F G H;have c:=oz<|zxw l k n.x.toList t;rw[rU m]at c;have u:=oz (λ(z:(l[k].y.x.toList==n.x.toList)=false)=>(show ∀i (hi:i<l.length),i<k+1->(l[i].y.x.toList==n.x.toList)=false from λi hi h=>by grind [ku]))
  generalize l[k]=p at E F G H c u;clear cc f I;cases z:(p.y.x.toList==n.x.toList)
  ·have C:=oz<|u z;go_wp2
   exact rdM ⟨k+1,aj,eu,C,b.alloc K _⟩
  ·go_wp2;refine tK (v:=.tuple #[paV p,.bool true]) (kjv results215 _ _ (w.heap.size+1) _ _ _ _ rfl (zy<|zzc a) underlying352 rfl au) rfl ?_;rw[(ku c).1,(ku c).2];refine⟨by simp[fpP,fpB,z],?_⟩;exact((((d.trans<|b.mono aj).setCell ay _).setCell ay _ |>.setCell ay _).setCell ay _).alloc jQ _
 ·have x:=zxw l l.length n.x.toList (λi hi _=>t i hi aj);rw[sK]at x;have c:=oz x;clear x;go_wp2;refine tK (v:=.tuple #[paV ⟨zh,zh⟩,.bool false]) (kjv results215 _ _ (w.heap.size+1) _ _ _ _ rfl (zzc a) underlying352 rfl au) rfl ?_;rw[(ku c).1,(ku c).2];exact⟨rfl,(((d.trans<|b.mono aj).setCell ay _).setCell ay _ |>.setCell ay _).setCell ay _⟩
def pjo(tab:Tab)(l:List PP)(n:Tok):Bool:=(!fpB l n.x.toList&&!((zl tab n.x.toList).V==3))&&!((zl tab n.x.toList).V==4)
theorem jzx(h:Below B a w):Below B a (puts B [x0,x1,x2,x3] 0 w):=qzp jH _ _ h
theorem jxh(n:Tok)(h:Nm w B b t (.slice pa pn pc) z)(y:w.ownsRow lo 352 4 (.slice pa pn pc) l.length (uq l))(k:l.length<=1000)(G:n.x.size<=1000):Calls prog 243 #[.pointer (some ⟨B,0,none⟩),ptV n] w λe w'=>e=.returned (.tuple #[])/\Nm w' B b t (.slice pa pn pc) (kjo (pjo t l n) z n)/\Kept B w w':=by
 have I:=wQ h.nm;have m:=h.alloc<|.cells #[.string n.x,.int .i64 n.v] 107;obtain⟨c0,c1,c2,c3,f1,f2,f3⟩:=m.cells;have p:=kvm (w:=(w.alloc<|.cells #[.string n.x,.int .i64 n.v] 107).drew) (lo:=lo) (l:=l) n (y.alloc _).drew k;have s:=kvm (w:=((w.alloc<|.cells #[.string n.x,.int .i64 n.v] 107).alloc<|.cells #[.string ⟨#[]⟩,.int .i64 0,.string ⟨#[]⟩,.int .i64 0] 352).drew) (lo:=lo) (l:=l) n ((y.alloc _).alloc _).drew k;obtain⟨E,D⟩:=ju (show pjo t l n=((!fpB l n.x.toList&&!((zl t n.x.toList).V==3))&&!((zl t n.x.toList).V==4)) from rfl) (qy:(w.alloc<|.cells #[.string n.x,.int .i64 n.v] 107).heap[w.heap.size]?=some (.cells #[.string n.x,.int .i64 n.v] 107 (0,0)));have F:=oz (show(((w.alloc<|.cells #[.string n.x,.int .i64 n.v] 107).alloc<|.cells #[.string ⟨#[]⟩,.int .i64 0,.string ⟨#[]⟩,.int .i64 0] 352).drew).heap[w.heap.size+1]?=some (.cells #[.string ⟨#[]⟩,.int .i64 0,.string ⟨#[]⟩,.int .i64 0] 352 (0,0)) by have:=qy (w:=w.alloc<|.cells #[.string n.x,.int .i64 n.v] 107) (o:=.cells #[.string ⟨#[]⟩,.int .i64 0,.string ⟨#[]⟩,.int .i64 0] 352);simp only[tV]at this;exact this)
 unfold ptV at *;go_in;go_upto_region 1 with fail
 go_cut [5] from 7 to 15 (λv wx=>v=.bool (fpB l n.x.toList)/\Below (w.heap.size+1) (w.alloc<|.cells #[.string n.x,.int .i64 n.v] 107) wx)
 case first=>
  go_region_law ((go_simp;go_at_call 215;(first|(refine p.mono ?_;rintro e C ⟨rfl,a⟩)|(refine s.mono ?_;rintro e C ⟨rfl,a⟩;have z0:=kz3 ((a.block _ ay).trans F:C.heap[w.heap.size+1]?=_)));dsimp only[paV]))
  all_goals
   go_wp21;go_meet
   refine⟨rfl,?_⟩;have A:=a.size;simp at A;first
   |exact((bR.drew.trans<|a.mono ay).alloc aj _)
   |exact jzx (((bR.alloc ay _).drew).trans<|a.mono ay)
 case rest=>
 obtain⟨rfl,c⟩:=hcut;have d:=m.below<|c.mono ay;have i:=(c.block w.heap.size aj).trans D;have d0:=kj6 i;have k:=kvb d.drew.C G;have J:=kw6<|zl t n.x.toList;obtain⟨c0,c1,c2,c3,f1,f2,f3⟩:=d.cells;clear i;generalize zl t n.x.toList=q at *;generalize fpB l n.x.toList=r at *;go_wp2
 go_region
 cases r
 case true=>
  rw[show(!true)=false from rfl,QJ,QJ]at E;go_wp2;go_end0;rw[ku E];exact⟨rfl,d.drew,((Kept.kqe _).trans<|Kept.of_below (c.mono ay)).drew⟩
 case false=>
 rw[show(!false)=true from rfl,QZ]at E;cases x:(q.V != 3)
 case false=>
  have j:(!(q.V==3))=false:=x;rw[j,QJ]at E;go_wp2;go_end0;rw[ku E];exact⟨rfl,d.drew,((Kept.kqe _).trans<|Kept.of_below (c.mono ay)).drew⟩
 case true=>
 have j:(!(q.V==3))=true:=x;rw[j,QZ]at E;cases g:(q.V != 4)
 case false=>
  have f:(!(q.V==4))=false:=g;rw[f]at E;go_wp2;go_end0;rw[ku E];exact⟨rfl,d.drew,((Kept.kqe _).trans<|Kept.of_below (c.mono ay)).drew⟩
 case true=>
 have f:(!(q.V==4))=true:=g;rw[f]at E;have u:=note_any (w:=wc.drew.drew) (B:=B) (o:=2) (z:=z) n.v c2 c3 f2 f3;go_wp2;go_region_law ((go_simp;go_at_call 212;refine u.mono ?_;rintro e K ⟨rfl,H⟩;dsimp only))
 all_goals
  subst H;go_wp2;go_end0;rw[ku E];exact⟨rfl,(d.drew.drew).note aj,(((Kept.kqe _).trans<|Kept.of_below (c.mono ay)).drew.drew).trans<|Kept.note _ _ _ _ _⟩
theorem kqt(h:w.ownsRow lo e size v n xs)(c:w.heap[B]?=some (.cells cs b7 fr))(d:b7≠e)(a:Kept B w w'):w'.ownsRow lo e size v n xs:=
 h.kept (row:=some B) ⟨a.os,a.tape,a.output,a.size,λk h1 b=>a.block k h1<|λe=>b<|by rw[e]⟩ (.inr λe=>not_row h c d e.symm)
theorem XIs.nm(b:w.heap[B]?=some (.cells cs b7 fr))(c:b7≠358)(a:Kept B w w'):∀{x:PX}{v:Value},XIs lo w x v->XIs lo w' x v
 |.nil,_,h=>h
 |.node _ _ _ _ _,_,⟨k,va,vb,e,hn,hh,ha,hb⟩=>⟨k,va,vb,e,hn,by rw[a.block k (wQ hh) (λe=>by simp_all)];exact hh,ha.nm b c a,hb.nm b c a⟩
def kyd(tab:Tab)(l:List PP)(z:Int)(n:Tok):Int:=kjo (pjo tab l n) z n
def kzu(n i:Tok):List Tok:=if i.t.toList==[] then [n] else [n,i]
def qw1(x:ELab):List Tok:=if x.op.toList==ng then kzu x.y x.c else []
def bf:PX->List Tok
 |.nil=>[]
 |.node _ _ x a b=>(qw1 x++bf a)++bf b
def pl5(n i:Tok):Value:=.agg #[.string n.x,.int .i64 n.v,.bool (!(i.t.toList==[])),.string i.x,.int .i64 i.v]
theorem jkx(n i:Tok)(h:Nm w B b t (.slice pa pn pc) z)(p:w.ownsRow lo 352 4 (.slice pa pn pc) l.length (uq l))(m:l.length<=1000)(q:∀y∈kzu n i,y.x.size<=1000):Calls prog 216 #[.pointer (some ⟨B,0,none⟩),pl5 n i] w λe w'=>e=.returned (.tuple #[])/\Nm w' B b t (.slice pa pn pc) ((kzu n i).foldl (kyd t l) z)/\Kept B w w':=by
 have D:=wQ h.nm;have s:n.x.size<=1000:=q n (by unfold kzu;grind);have d:(i.t.toList==[])=false->i.x.size<=1000:=λe=>q i (by unfold kzu;simp_all)
 have E:=show(kzu n i).foldl (kyd t l) z=if i.t.toList==[] then kyd t l z n else kyd t l (kyd t l z n) i by unfold kzu;grind
 have g:=jxh n (h.alloc<|.cells #[.string n.x,.int .i64 n.v,.bool<|!(i.t.toList==[]),.string i.x,.int .i64 i.v] 332) (p.alloc _) m s;have x:=p.alloc<|.cells #[.string n.x,.int .i64 n.v,.bool<|!(i.t.toList==[]),.string i.x,.int .i64 i.v] 332;have v:=h.alloc<|.cells #[.string n.x,.int .i64 n.v,.bool<|!(i.t.toList==[]),.string i.x,.int .i64 i.v] 332;unfold pl5 ptV at *;generalize (i.t.toList==[])=c at *;go_in
 cases c
 ·have f:=d rfl;go_wp21;refine g.mono ?_;rintro e C ⟨rfl,h1,a⟩;have A:=jl<|a.e (b:=w.heap.size) aj (qy);have j:=jxh i h1 (kqt x v.nm ak a) m f;go_wp21
  refine j.mono ?_;rintro e F ⟨rfl,u,k⟩;go_wp2;go_end0;rw[E];exact⟨rfl,u,((Kept.kqe _).trans a).trans k⟩
 ·clear d;go_wp21;refine g.mono ?_;rintro e C ⟨rfl,h1,a⟩;have A:=jl<|a.e (b:=w.heap.size) aj (qy);go_wp2
  go_end0;rw[E];exact⟨rfl,h1,(Kept.kqe _).trans a⟩
theorem zkc(o:List UInt8):(opN o==4)=(o==ng):=by
 unfold opN;cases a:(o==ng)
 ·cases (o==nJ)
  ·cases (o==nZ)
   ·cases (o==mG)
    ·cases (o==mW)
     ·grind
     ·rfl
    ·rfl
   ·rfl
  ·rfl
 simp_all
def zqk(x:PX):Prop:=∀(w:World)(B b lo xo:Nat)(tab:Tab)(l:List PP)(pa:Option Addr)(pn pc:Nat)(z:Int)(v:Value),Nm w B b tab (.slice pa pn pc) z->w.ownsRow lo 352 4 (.slice pa pn pc) l.length (uq l)->l.length<=1000 ->
  XIs xo w x v->(∀y∈bf x,y.x.size<=1000) ->
  Calls prog 160 #[.pointer (some ⟨B,0,none⟩),v] w λe w'=>e=.returned (.tuple #[])/\Nm w' B b tab (.slice pa pn pc) ((bf x).foldl (kyd tab l) z)/\Kept B w w'
theorem vw5(i j:Nat)(x:ELab)(H:zqk b8)(I:zqk c):zqk (.node i j x b8 c):=by
 intro w B b lo xo tab l pa pn pc z v g C S V L;obtain⟨k,va,vb,rfl,Y,t,N,O⟩:=V;have E:=show(bf<|.node i j x b8 c).foldl (kyd tab l) z=(bf c).foldl (kyd tab l) ((bf b8).foldl (kyd tab l)<|(qw1 x).foldl (kyd tab l) z) by grind [bf]
 have F:Hid (∀y∈bf b8,y.x.size<=1000):=λy u=>L y (by rw[bf];simp[u])
 have G:Hid (∀y∈bf c,y.x.size<=1000):=λy u=>L y (by rw[bf];simp[u])
 have W:∀y∈qw1 x,y.x.size<=1000:=λy u=>L y (by rw[bf];simp[u])
 have Q:=t;have Z:=kki t;have p:=zkc x.op.toList;have m:k≠B:=λe=>by rw[e,g.nm]at Q;simp_all
 have s:=λe:qw1 x=kzu x.y x.c=>jkx x.y x.c g C S (by simp_all)
 unfold pl5 at s;have A:=oz S;go_in;generalize opN x.op.toList=o at *;generalize (!(x.c.t.toList==[]))=d at *;cases P:(o==4)
 ·rw[P]at p;rw[show(qw1 x).foldl (kyd tab l) z=z by unfold qw1;simp_all]at E;clear p;go_wp21;refine(H w B b lo xo tab l pa pn pc z _ g C A N F).mono ?_;rintro e M ⟨rfl,h1,a⟩;have r8:=kki<|a.e m t;go_wp21
  refine(I M B b lo xo tab l pa pn pc _ _ h1 (kqt C g.nm ak a) A (O.nm g.nm ak a) G).mono ?_;rintro e T ⟨rfl,J,f⟩;go_wp2;go_end0;rw[E];exact⟨rfl,J,a.trans f⟩
 ·rw[P]at p;have h:qw1 x=kzu x.y x.c:=by unfold qw1;simp_all
  rw[h]at E;have K:=s h;clear p h s;go_wp21;refine K.mono ?_;rintro e M ⟨rfl,q,a⟩;have r7:=kki<|a.e m t;have D:=kqt C g.nm ak a;go_wp21
  refine(H M B b lo xo tab l pa pn pc _ _ q D A (N.nm g.nm ak a) F).mono ?_;rintro e T ⟨rfl,J,f⟩;have X:=kki<|f.e m (a.e m t);go_wp21
  refine(I T B b lo xo tab l pa pn pc _ _ J (kqt D q.nm ak f) A ((O.nm g.nm ak a).nm q.nm ak f) G).mono ?_;rintro e w3 ⟨rfl,U,R⟩;go_wp2;go_end0;rw[E];exact⟨rfl,U,(a.trans f).trans R⟩
theorem qjv:∀x:PX,zqk x
 |.nil=>λw B b lo xo tab l pa pn pc z v h f e d k=>by
  have g:v=.pointer none:=d;go_wp2;exact tK (results_none rfl _ _ _) rfl ⟨rfl,h,Kept.refl _ _⟩
 |.node i j x a c=>vw5 i j x (qjv a)<|qjv c
theorem BIs.nm(d:w.heap[B]?=some (.cells cs b7 fr))(g:b7≠358)(c:b7≠334)(f:Kept B w w'):∀{b:PB}{xs:List Value},BIs lo no w b xs->BIs lo no w' b xs
 |.nil,_,h=>h
 |.node _ _ a .nil n,cs,⟨p,rest,e,hx,hn⟩=>⟨p,rest,e,hx.nm d g f,BIs.nm d g c f hn⟩
 |.node _ _ a (.node _ _ _ b7 e) n,cs,⟨p,ta,tn,tc,ea,en,ec,ct,ce,rest,e1,hx,⟨ht1,ht3,ht2⟩,⟨he1,he3,hee2⟩,hn⟩=>
  ⟨p,ta,tn,tc,ea,en,ec,ct,ce,rest,e1,hx.nm d g f,⟨kqt ht1 d c f,ht3,BIs.nm d g c f ht2⟩,⟨kqt he1 d c f,he3,BIs.nm d g c f hee2⟩,BIs.nm d g c f hn⟩
def pwu:PX->List Tok
 |.nil=>[zh]
 |.node _ _ x _ _=>kzu x.y x.c
theorem jqf:∀x:PX,∃n i:Tok,plC x=[.string n.x,.int .i64 n.v,.bool (!(i.t.toList==[])),.string i.x,.int .i64 i.v]/\pwu x=kzu n i
 |.nil=>⟨zh,zh,by rw[dh];rfl,by unfold kzu;rw[dh];rfl⟩
 |.node _ _ x _ _=>⟨x.y,x.c,rfl,rfl⟩
def je:PB->List Tok
 |.nil=>[]
 |.node _ _ a .nil n=>(pwu a.N++bf a.value)++je n
 |.node _ _ a (.node _ _ _ t e) n=>((bf a.A++je t)++je e)++je n
def ky6:PB->Prop
 |.nil=>True
 |.node _ _ a .nil n=>ky6 n
 |.node _ _ a (.node _ _ _ t e) n=>(ky6 t/\kqq t<=1000)/\(ky6 e/\kqq e<=1000)/\ky6 n
def kka(b:PB):Prop:=∀(w:World)(B bb lo so:Nat)(no:Option Nat)(tab:Tab)(l:List PP)(pa:Option Addr)(pn pc:Nat)(z:Int)(v:Value)(cs:List Value),Nm w B bb tab (.slice pa pn pc) z->w.ownsRow lo 352 4 (.slice pa pn pc) l.length (uq l)->l.length<=1000 ->
  w.ownsRow so 334 9 v (kqq b) cs->BIs so no w b cs->ky6 b->kqq b<=1000->(∀y∈je b,y.x.size<=1000) ->
  Calls prog 161 #[.pointer (some ⟨B,0,none⟩),v] w λe w'=>e=.returned (.tuple #[])/\Nm w' B bb tab (.slice pa pn pc) ((je b).foldl (kyd tab l) z)/\Kept B w w'
def zz3:PB->Prop
 |.nil=>True
 |.node _ _ _ .nil n=>kka .nil/\zz3 n
 |.node _ _ _ (.node _ _ _ t e) n=>kka t/\kka e/\zz3 n
def xk2(w:World)(B bb so:Nat)(no:Option Nat)(tab:Tab)(l:List PP)(ps:Value)(fin:Int)(len:Nat)(cs:List Value)(i:Value)(wr:World):Prop:=
 ∃(k:Nat)(rest:PB)(a:Int),k+kqq rest=len/\i=.int .i64 k/\BIs so no wr rest (cs.drop<|k*9)/\zz3 rest/\ky6 rest/\(∀y∈je rest,y.x.size<=1000)/\(je rest).foldl (kyd tab l) a=fin/\Nm wr B bb tab ps a/\Kept B w wr
theorem qjc{b9 d6:List Value}(h:xs.drop (k*9)=b9++d6)(b:b9.length=9):xs.drop ((k+1)*9)=d6/\∀j,j<9->xs[k*9+j]?=b9[j]?:=by
 constructor
 ·grind [List.drop_drop,List.drop_left]
 ·intro j a;rw[<-J3,h,ZV aj]
theorem qx2{b:PB}(hI:zz3 b):kka b:=by
 intro w B bb lo so no tab l pa pn pc z v cs HN HO R hv aL f aW h;have aT:=wQ HN.nm;obtain⟨xa,cap,rfl,U⟩:=qp hv;have HW:=oz (show ∀i,i<kqq b->∃g,xa=some ⟨g,0,none⟩/\g≠B/\∀j,j<kqq b*9->w.cell? ⟨g,j,none⟩=cs[j]? from λi hi=>by obtain⟨g,rfl,_,_,Q⟩:=U i hi;exact⟨g,rfl,λe=>not_row hv HN.nm ak (by rw[<-e];rfl),Q⟩)
 have HR:=show xk2 w B bb so no tab l (.slice pa pn pc) ((je b).foldl (kyd tab l) z) (kqq b) cs (.int .i64 0) w from⟨0,b,z,aj,rfl,by simp_all,hI,f,h,rfl,HN,Kept.refl _ _⟩
 have aS:=oz (aL.T:cs.length=kqq b*9);generalize (je b).foldl (kyd tab l) z=fin at *;generalize kqq b=len at *;clear U h;go_in;go_wp21;go_loopw [5,8] (λ_ i wr=>xk2 w B bb so no tab l (.slice pa pn pc) fin len cs i wr) (λ_ i _=>len-(intOf i).toNat);exact HR;obtain⟨k,rest,a0,s,rfl,E,m,f,h,(P:Hid _),c,x⟩:=hrel;have S:=kqt HO HN.nm ak x;have aX:=x.size;have aU:=wQ c.nm;match rest,E,m,f,h,P,s with
 |.nil,E,m,f,h,P,s=>
  have aV:¬k<len:=jV;clear h s;go_wp2;go_end0;exact⟨rfl,by rw[<-ku P];exact c,x⟩
 |.node _ _ la .nil nx,E,m,f,h,P,s=>
  obtain⟨p,aR,hd,aK,aO⟩:=E;have a8:k<len:=jV;obtain⟨g,rfl,a5,Q⟩:=ku HW k a8;obtain⟨n,i,M,N⟩:=jqf la.N;obtain⟨a4,L⟩:=qjc hd<|qzl;have cc:∀j,j<9->∀u,(stC false la (.pointer p) (.slice none 0 0)<|.slice none 0 0)[j]?=some u->wr.cell? ⟨g,k*9+j,none⟩=some u:=λj hj u hu=>x.cell (a:=⟨g,k*9+j,none⟩) a5<|(Q (k*9+j) aj).trans ((L j hj).trans hu)
  unfold stC at cc;rw[M]at cc;have e0:=cc 0 aj _ rfl;have e1:=cc 1 aj _ rfl;have e2:=cc 2 aj _ rfl;have e3:=cc 3 aj _ rfl;have e4:=cc 4 aj _ rfl;have e5:=cc 5 aj _ rfl;have e6:=cc 6 aj _ rfl;have e7:=cc 7 aj _ rfl;have e8:=cc 8 aj _ rfl;simp only[Qk]at e0;have aH:∀y∈kzu n i,y.x.size<=1000:=λy q=>h y (by rw[je,N];simp[q])
  have aJ:Hid (∀y∈bf la.value,y.x.size<=1000):=λy q=>h y lQ
  have O:∀y∈je nx,y.x.size<=1000:=λy q=>h y lQ
  have Z:=oz (by rw[<-ku P,je,N,Q5,Q5]:(je nx).foldl (kyd tab l) ((bf la.value).foldl (kyd tab l)<|(kzu n i).foldl (kyd tab l) a0)=fin);have X:=show BIs so no wr nx (cs.drop<|(k+1)*9) by simp_all
  have aD:=jkx n i (c.alloc<|.cells #[.bool false,.string n.x,.int .i64 n.v,.bool<|!(i.t.toList==[]),.string i.x,.int .i64 i.v,.pointer p,.slice none 0 0,.slice none 0 0] 334) (S.alloc _) R aH;have A:=oz (⟨m.2,f,O⟩:zz3 nx/\ky6 nx/\∀y∈je nx,y.x.size<=1000);have a9:=m.1;have a7:k+1+kqq nx=len:=jV;clear cc Q L a4 hd M N h aH O s;unfold pl5 at aD;generalize (!(i.t.toList==[]))=d at *;go_wp21;refine aD.mono ?_;rintro e w2 ⟨rfl,aB,T⟩;have aE:=oz<|T.e (b:=wr.heap.size) aj (qy);have r6:=kki aE;have aC:=kqt (S.alloc _) (c.alloc _).nm ak T;have Y:=qjv la.value w2 B bb lo so tab l pa pn pc _ _ aB aC R (XIs.nm (c.alloc _).nm ak T<|aK.below (jZ _)) aJ;have aI:=(Kept.kqe _).trans T;clear e0 e1 e2 e3 e4 e5 e6 e7 e8;go_wp21
  refine Y.mono ?_;rintro e w3 ⟨rfl,I,C⟩;have K:=oz<|C.e (b:=wr.heap.size) aj aE;have t7:=kki K;have J:=kqt aC aB.nm ak C;have F:=aI.trans C;clear r6;go_wp21
  refine(a9 w3 B bb lo so no tab l pa pn pc _ _ [] I J R jE rfl trivial (by simp[kqq])<|by simp[je]).mono ?_;rintro e w4 ⟨rfl,a1,D⟩;have r4:=D.e (b:=wr.heap.size) aj K;have s8:=kki r4;have a3:=kqt J I.nm ak D;have G:=F.trans D;clear r4 t7;go_wp21;refine(a9 w4 B bb lo so no tab l pa pn pc _ _ [] a1 a3 R jE rfl trivial (by simp[kqq])<|by simp[je]).mono ?_;rintro e w5 ⟨rfl,a2,a6⟩;have H:=G.trans a6;clear s8;go_wp2;exact rdM ⟨k+1,nx,_,a7,eu,X.nm c.nm ak ak H,A.1,A.2.1,A.2.2,Z,a2,x.trans H⟩
 |.node _ _ la (.node _ _ _ t e) nx,E,m,f,h,P,s=>
  obtain⟨p,ta,tn,tc,ea,en,ec,ct,ce,aR,hd,hx,⟨aP,_,aQ⟩,⟨aM,_,aN⟩,aO⟩:=E;have a8:k<len:=jV;obtain⟨g,rfl,a5,Q⟩:=ku HW k a8;obtain⟨n,i,M,N⟩:=jqf la.N;obtain⟨a4,L⟩:=qjc hd<|qzl;have cc:∀j,j<9->∀u,(stC true la (.pointer p) (.slice ta tn tc)<|.slice ea en ec)[j]?=some u->wr.cell? ⟨g,k*9+j,none⟩=some u:=λj hj u hu=>x.cell (a:=⟨g,k*9+j,none⟩) a5<|(Q (k*9+j) aj).trans ((L j hj).trans hu)
  unfold stC at cc;rw[M]at cc;have e0:=cc 0 aj _ rfl;have e1:=cc 1 aj _ rfl;have e2:=cc 2 aj _ rfl;have e3:=cc 3 aj _ rfl;have e4:=cc 4 aj _ rfl;have e5:=cc 5 aj _ rfl;have e6:=cc 6 aj _ rfl;have e7:=cc 7 aj _ rfl;have e8:=cc 8 aj _ rfl;simp only[Qk]at e0;have aF:∀y∈bf la.A,y.x.size<=1000:=λy q=>h y lQ
  have aA:∀y∈je t,y.x.size<=1000:=λy q=>h y lQ
  have aG:∀y∈je e,y.x.size<=1000:=λy q=>h y lQ
  have O:∀y∈je nx,y.x.size<=1000:=λy q=>h y lQ
  have Z:=oz (by rw[<-ku P,je,Q5,Q5,Q5]:(je nx).foldl (kyd tab l) ((je e).foldl (kyd tab l)<|(je t).foldl (kyd tab l) ((bf la.A).foldl (kyd tab l) a0))=fin);have X:=show BIs so no wr nx (cs.drop<|(k+1)*9) by simp_all
  obtain⟨W,V⟩:=ju (⟨aP,aQ,f.1.1,f.1.2,aA,m.1⟩:wr.ownsRow so 334 9 (.slice ta tn tc) (kqq t) ct/\BIs so no wr t ct/\ky6 t/\kqq t<=1000/\(∀y∈je t,y.x.size<=1000)/\kka t) (⟨aM,aN,f.2.1.1,f.2.1.2,aG,m.2.1⟩:wr.ownsRow so 334 9 (.slice ea en ec) (kqq e) ce/\BIs so no wr e ce/\ky6 e/\kqq e<=1000/\(∀y∈je e,y.x.size<=1000)/\kka e);have Y:=qjv la.A _ B bb lo so tab l pa pn pc a0 _ (c.alloc<|.cells #[.bool true,.string n.x,.int .i64 n.v,.bool (!(i.t.toList==[])),.string i.x,.int .i64 i.v,.pointer p,.slice ta tn tc,.slice ea en ec] 334) (S.alloc _) R (hx.below<|jZ _) aF;have A:=oz (⟨m.2.2,f.2.2,O⟩:zz3 nx/\ky6 nx/\∀y∈je nx,y.x.size<=1000);have a7:k+1+kqq nx=len:=jV;clear cc Q L a4 hd M N h aF O s aA aG;generalize (!(i.t.toList==[]))=d at *;go_wp21;refine Y.mono ?_;rintro e' w3 ⟨rfl,I,C⟩;have K:=oz<|C.e (b:=wr.heap.size) aj (qy);have t7:=kki K;have J:=kqt (S.alloc _) (c.alloc _).nm ak C;have F:=(Kept.kqe _).trans C;clear e0 e1 e2 e3 e4 e5 e6 e7 e8;go_wp21
  refine(W.2.2.2.2.2 w3 B bb lo so no tab l pa pn pc _ _ ct I J R (kqt W.1 c.nm ak F) (W.2.1.nm c.nm ak ak F) W.2.2.1 W.2.2.2.1 W.2.2.2.2.1).mono ?_;rintro e' w4 ⟨rfl,a1,D⟩;have r4:=D.e (b:=wr.heap.size) aj K;have s8:=kki r4;have a3:=kqt J I.nm ak D;have G:=F.trans D;clear r4 t7;go_wp21;refine(V.2.2.2.2.2 w4 B bb lo so no tab l pa pn pc _ _ ce a1 a3 R (kqt V.1 c.nm ak G) (V.2.1.nm c.nm ak ak G) V.2.2.1 V.2.2.2.1 V.2.2.2.2.1).mono ?_;rintro e' w5 ⟨rfl,a2,a6⟩;have H:=G.trans a6;clear s8;go_wp2;exact rdM ⟨k+1,nx,_,a7,eu,X.nm c.nm ak ak H,A.1,A.2.1,A.2.2,Z,a2,x.trans H⟩
theorem vw7:kka .nil:=qx2 trivial
theorem qz4:∀b:PB,zz3 b
 |.nil=>trivial
 |.node _ _ _ .nil n=>⟨vw7,qz4 n⟩
 |.node _ _ _ (.node _ _ _ t e) n=>⟨qx2<|qz4 t,qx2<|qz4 e,qz4 n⟩
theorem vw8(b:PB):kka b:=qx2<|qz4 b
theorem vk0{d7:Addr}{o:Obj}(h:w.cell? d7=some v)(a:d7.block<w.heap.size):(w.alloc o).cell? d7=some v:=((jZ w (o:=o)).cell a).trans h
def qw2:List PP->List UInt8->Nat
 |[],_=>0
 |p::l,s=>if p.y.x.toList==s then 0 else qw2 l s+1
theorem jvd:∀(l:List PP)(k:Nat)(s:List UInt8),k<=l.length->(∀i (hi:i<l.length),i<k->(l[i].y.x.toList==s)=false)->qw2 l s=k+qw2 (l.drop k) s
 |[],k,s,a,_=>by simp_all
 |p::l,0,s,_,_=>ay
 |p::l,k+1,s,a,h=>by have b:=h 0 ay aj;simp only[JU]at b;have:=jvd l k s (by simp_all) (λi hi a=>by grind);grind [qw2]
def jwy(vars:List MVar)(tab:kq3)(l:List PP)(ms st:List Int)(s:List UInt8):Option Int:=
 if fpB l s then (ms[qw2 l s]?).bind λm=>(small m).map (·+1)
 else if (kjw tab s).isVar then (vars[(kjw tab s).xx]?).bind λv=>(st[v.f]?).bind small
 else some (kjw tab s).xx
theorem zw2(h:Rn lo w R M nb vars tab l ms st sv d8)(hv:vars.length<=1000)(aQ:l.length<=1000)(U:d9.x.size<=1000)(I:jwy vars tab l ms st d9.x.toList=some z):Calls prog 256 #[.pointer (some ⟨R,0,none⟩),ptV d9] w λe w'=>e=.returned (.int .i64 z)/\oq w w':=by
 obtain⟨W,Q⟩:=cpy<|w.alloc (.cells #[.string d9.x,.int .i64 d9.v] 107);have c:oq w W:=by rw[Q];exact jZ w
 have aR:w.heap.size<W.heap.size:=by simp_all
 have a2:=oz (by rw[Q];exact qy:W.heap[w.heap.size]?=some (.cells #[.string d9.x,.int .i64 d9.v] 107 (0,0)));have a3:=h.below c;have aF:R<w.heap.size:=by obtain⟨⟨tx,pa,pn,pc,ma,mn,mc,hR,_,_⟩,_⟩:=h;grind
 obtain⟨⟨tx,pa,pn,pc,ma,mn,mc,(HR:Hid _),b,a9⟩,aO,aG⟩:=h.below c;obtain⟨xa,cap,N,(HW:Hid _)⟩:=qp b;injection N with ea en ec;subst ea;subst en;subst ec;obtain⟨ya,yc,O,(a6:Hid _)⟩:=qp a9;injection O with ea en ec;subst ea;subst en;subst ec;obtain⟨za,zc,P,(a7:Hid _)⟩:=qp aG;subst P;have a8:=oz Q.symm;have E:=oz (show(if fpB l d9.x.toList then (ms[qw2 l d9.x.toList]?).bind λm=>(small m).map (·+1)
 else if (kjw tab d9.x.toList).isVar then (vars[(kjw tab d9.x.toList).xx]?).bind λv=>(st[v.f]?).bind small
 else some ((kjw tab d9.x.toList).xx:Int))=some z from I)
 have r2:w.cell? ⟨R,2,none⟩=some (.slice pa l.length pc):=(c.cell (p:=⟨R,2,none⟩) aF).symm.trans (kzh HR).2.2.1;clear Q I;unfold ptV;go_in;go_wp21;rw[ku a8];go_loopw [5,6,14] (λ_ _ i wr=>∃k:Nat,k<=l.length/\i=.int .i64 k/\(∀i (hi:i<l.length),i<k->(l[i].y.x.toList==d9.x.toList)=false)/\oq W wr) (λ_ _ i _=>l.length-(intOf i).toNat)
 ·grind [Below.refl]
 obtain⟨k,hk,rfl,(B:Hid _),a⟩:=hrel;have aH:=a.size;have L:=(a.block w.heap.size aj).trans a2;obtain⟨m0,m1,_,_⟩:=kj6 L;obtain⟨r0,r1,r2,r3,r4,r5,_⟩:=kzh<|(a.block R aj).trans HR;have Z:=wQ L;have aA:R<wr.heap.size:=aj;clear L;by_cases A:k<l.length
 ·obtain⟨g,rfl,aC,J,H⟩:=ku HW k A;have C:=λj (hj:j<4)=>kqo kzn 4 (λ_=>rfl) l k j A hj
  have cc:∀j,j<l.length*4->wr.cell? ⟨g,j,none⟩=(uq l)[j]?:=λj hj=>(a.cell (p:=⟨g,j,none⟩) J).trans<|H j hj
  have e0:=(cc (k*4+0) aj).trans<|C 0 aj;have N:=(cc (k*4+1) aj).trans<|C 1 aj;have O:=(cc (k*4+2) aj).trans<|C 2 aj;have P:=(cc (k*4+3) aj).trans<|C 3 aj;simp only[kzn,sW,sU,Qk]at e0 N O P;have HF:=oz<|jvd l k d9.x.toList hk B;rw[rU A]at HF;have b:=zxw l k d9.x.toList B;rw[rU A]at b;have HP:=oz b.2;have V:=oz (λ(T:(l[k].y.x.toList==d9.x.toList)=false)=>(show ∀i (hi:i<l.length),i<k+1->(l[i].y.x.toList==d9.x.toList)=false from λi hi h=>by grind [ku]))
  generalize l[k]=p at e0 N O P HP V HF;clear cc C H b;cases T:(p.y.x.toList==d9.x.toList)
  ·have a4:=oz<|V T;go_wp2
   exact rdM ⟨k+1,aj,eu,a4,a.alloc aH _⟩
  ·have h1:=ku E;rw[ku HP,ku HF,show fpB (p::l.drop (k+1)) d9.x.toList=true by simp[fpB,T],show qw2 (p::l.drop (k+1)) d9.x.toList=0 by simp[qw2,T],lJ rfl,Qk]at h1;obtain⟨mk,K,D⟩:=wu.1 h1;obtain⟨y,F,(H4:Hid _)⟩:=wX.1 D;obtain⟨rfl,aK,aL⟩:=qqu F;obtain⟨aD,aE⟩:=rY.1 K;obtain⟨g',rfl,aM,a1,X⟩:=ku a6 k aD;have d0:=(a.cell (p:=⟨g',k,none⟩) a1).trans<|X k aj;rw[QV,K,ZQ]at d0;have Y:g'<wr.heap.size:=aj;clear X h1 D F K aE;go_wp2
   go_ret;refine⟨kqi ?_,?_⟩
   ·rw[<-ku H4]
   ·exact((c.trans<|a.mono aj).alloc aj _)
 ·have b:=(zxw l l.length d9.x.toList<|λi hi _=>B i hi aj).2;rw[sK]at b;have h1:=ku E;rw[show fpB l d9.x.toList=false from b,Xy ay]at h1;have f:=a3.below a;have S:=qkg f.mc.C U;have t:=qkg (f.below bR.drew).mc.C U;have u:=qkg (f.below (bR.alloc jH<|.cells #[.bool false,.int .i64 0] 116).drew).mc.C U;obtain⟨⟨y0,y1,y2,y3,y4,y5,y6,G,_,_⟩,_⟩:=f.mc;have m4:=kzh G;have aN:=wQ G;clear G;cases s:(kjw tab d9.x.toList).isVar
  ·rw[s,Xy ay]at h1;injection h1 with h1;have H1:=oz h1;unfold qx3 at S t u;rw[s]at S t u;generalize (kjw tab d9.x.toList).xx=q at *;clear h1 b;go_wp2
   go_region
   all_goals
    go_wp2;go_ret;exact⟨kqi H1,((c.trans<|a.mono aj).alloc aj _).drew⟩
  ·rw[s,lJ rfl]at h1;obtain⟨v,a0,D⟩:=wu.1 h1;obtain⟨x,hx,F⟩:=wu.1 D;obtain⟨rfl,aK,aL⟩:=qqu F;obtain⟨aJ,aI⟩:=rY.1 hx;obtain⟨g,rfl,aC,J,H⟩:=ku a7 v.f aJ;have d0:=(a.cell (p:=⟨g,v.f,none⟩) J).trans<|H v.f aj;rw[QV,hx,ZQ]at d0;have Y:g<wr.heap.size:=aj;unfold qx3 at S t u;rw[s]at S t u;have a5:=oz (λw' (aB:oq wr w')=>qxd (f.below aB) U a0 hv);have aP:=pzf v;generalize (kjw tab d9.x.toList).xx=q at *;clear H h1 D F b a0 hx aI;go_upto_region 10 with fail
   go_region
   all_goals
    go_upto_region 10 with fail
    go_region_held3 (λw'=>w'.cell? ⟨R,4,none⟩=some (.slice (some ⟨g,0,none⟩) st.length zc)/\w'.cell? ⟨w.heap.size,0,none⟩=some (.string d9.x)/\w'.cell? ⟨w.heap.size,1,none⟩=some (.int .i64 d9.v)/\w'.cell? ⟨g,v.f,none⟩=some (.int .u8 z))
     (first|exact⟨z0,z1,z2,z3⟩|simp_all [vk0])
     ((go_at_call 233;refine(a5 _<|(bR.alloc jH _).drew.drew).mono ?_;rintro e w2 ⟨ta,tc,rfl,_,d⟩;have z0:=(d.cell (p:=⟨R,4,none⟩) ah).trans<|vk0 r4 aA;have z1:=(d.cell (p:=⟨w.heap.size,0,none⟩) ah).trans<|vk0 m0 Z;have z2:=(d.cell (p:=⟨w.heap.size,1,none⟩) ah).trans<|vk0 m1 Z;have z3:=(d.cell (p:=⟨g,v.f,none⟩) ah).trans (vk0 d0 Y) ;dsimp only))
    go_wp2;go_ret;exact⟨kqi kQ,(((c.trans<|a.mono aj).alloc aj _).drew.drew).trans<|d.mono ah⟩
theorem zy7{e9:TypeId}{a:Nat×Nat}(h:w.heap[k]?=some (.cells cs b7 fr))(hR:w.heap[R]?=some (.cells cs' e9 a))(b:e9≠b7):k≠R:=λe=>by simp_all
theorem Mc.nm(h:Mc lo w M nb vars tab)(hR:w.heap[R]?=some (.cells cs' b7 fr))(h1:b7≠105)(f:b7≠213)(j:b7≠9)(a:Kept R w w'):Mc lo w' M nb vars tab:=by obtain⟨⟨x0,x1,x2,va,vc,z,cs,hM,g,i⟩,b⟩:=h;refine⟨⟨x0,x1,x2,va,vc,z,cs,(a.block M (wQ hM)<|zy7 hM hR h1).trans hM,kqt g hR f a,i.stay λk e cs fr d m=>a.block k (wQ d)<|zy7 d hR (by simp_all)⟩,b.stay<|a.block nb b.lt ?_⟩;obtain⟨⟨es,c,l,_⟩,_⟩:=b;grind
theorem Rn.xz(h:Rn lo w R M nb vars tab l ms st sv d8)(c:Bool):Rn lo (w.setCell ⟨R,5,none⟩ (.bool c)) R M nb vars tab l ms st sv c:=by obtain⟨⟨tx,pa,pn,pc,ma,mn,mc,hR,e,hM⟩,b,d⟩:=h;have a:Kept R w (w.setCell ⟨R,5,none⟩<|.bool c):=(Kept.refl _ _).kzr 5 _;exact⟨⟨tx,pa,pn,pc,ma,mn,mc,jL R 5 _ _ _ hR,kqt e hR ak a,kqt hM hR ak a⟩,b.nm hR ak ak ak a,kqt d hR ak a⟩
theorem Rn.lt(h:Rn lo w R M nb vars tab l ms st sv d8):R<w.heap.size:=by obtain⟨⟨tx,pa,pn,pc,ma,mn,mc,hR,_⟩,_⟩:=h;grind
theorem Rn.cells(h:Rn lo w R M nb vars tab l ms st sv d8):w.cell? ⟨R,1,none⟩=some (.pointer (some ⟨M,0,none⟩))/\w.cell? ⟨R,4,none⟩=some sv/\w.cell? ⟨R,5,none⟩=some (.bool d8)/\w.frozen? ⟨R,5,none⟩=false:=by obtain⟨⟨tx,pa,pn,pc,ma,mn,mc,hR,_⟩,_⟩:=h;have a:=kzh hR;simp_all
theorem Rn.orF(h:Rn lo w R M nb vars tab l ms st sv d8):Rn lo w R M nb vars tab l ms st sv (d8||false):=by simp_all
def atO(vars:List MVar)(tab:kq3)(l:List PP)(ms st:List Int)(v:MVar)(i:Tok):Option (Int×Bool):=
 if i.t.toList==[] then some (v.f,false)
 else (jwy vars tab l ms st i.x.toList).bind λx=>if x==0 then some (v.f,true) else (small x).bind λ_=>(small v.f).map λ_=>((v.f:Int)+x-1,false)
theorem pqr{b:MVar}(ta:Option Addr)(tc:Nat)(n:Tok)(h:Rn lo w R M nb vars tab l ms st sv d8)(hv:vars.length<=1000)(u:l.length<=1000)(A:(i.t.toList==[])=false->i.x.size<=1000)(a:atO vars tab l ms st b i=some r):Calls prog 234 #[.pointer (some ⟨R,0,none⟩),.agg<|kvo b ta tc,pl5 n i] w λe w'=>e=.returned (.int .i64 r.1)/\Rn lo w' R M nb vars tab l ms st sv (d8||r.2)/\Kept R w w':=by
 unfold kvo pl5;unfold atO at a;cases q:(i.t.toList==[])
 ·rw[q,Xy ay]at a;obtain⟨x,B,a⟩:=wu.1 a;obtain⟨W,p⟩:=cpy<|(w.alloc<|.cells #[.int .i64 b.f,.int .i64 b.d,.slice ta b.a.length tc,.int .i64 b.g,.int .i64 b.B] 213).alloc (.cells #[.string n.x,.int .i64 n.v,.bool true,.string i.x,.int .i64 i.v] 332);have c:oq w W:=by rw[p];exact(jZ w).trans ((jZ _).mono ay)
  have v:w.heap.size+1<W.heap.size:=by simp_all
  have s:W.heap[w.heap.size]?=some (.cells #[.int .i64 b.f,.int .i64 b.d,.slice ta b.a.length tc,.int .i64 b.g,.int .i64 b.B] 213 (0,0)):=by rw[p];exact zy<|qy
  have t:W.heap[w.heap.size+1]?=some (.cells #[.string n.x,.int .i64 n.v,.bool true,.string i.x,.int .i64 i.v] 332 (0,0)):=by grind [qy,World.size_alloc]
  have g:=zw2 (h.below c) hv u (A q) B;have J:=jl t;unfold ptV at g;go_in;go_wp21;rw[(oz p.symm)];refine g.mono ?_;rintro e L ⟨rfl,d⟩;have K:=jl<|(d.block w.heap.size aj).trans s;have m:=(h.below c).below d;have f:=c.trans<|d.mono (Qr<|Nat.lt_trans (Nat.lt_succ_self _) v);obtain⟨c1,c4,c5,I⟩:=m.cells;have a:=a;cases k:(x==0)
  ·rw[k,Xy ay]at a;obtain⟨y,C,a⟩:=wu.1 a;obtain⟨z,D,a⟩:=wX.1 a;obtain⟨_,E,F⟩:=qqu C;obtain⟨_,G,H⟩:=qqu D;subst a;go_wp2;go_ret;exact⟨rfl,m,Kept.of_below f⟩
  ·rw[k,lJ rfl]at a;injection a with a;subst a;go_wp2
   go_ret;exact⟨rfl,m.xz true,(Kept.of_below f).kzr _ _⟩
 ·rw[q,lJ rfl]at a;injection a with a;subst a;go_wp2
  go_ret;have j:oq w ((w.alloc<|.cells #[.int .i64 b.f,.int .i64 b.d,.slice ta b.a.length tc,.int .i64 b.g,.int .i64 b.B] 213).alloc<|.cells #[.string n.x,.int .i64 n.v,.bool false,.string i.x,.int .i64 i.v] 332):=(jZ w).trans<|(jZ _).mono ay;exact⟨rfl,(λ(w':World)(hb:oq w w')=>(by rw[Qg];exact h.below hb:Rn lo w' R M nb vars tab l ms st sv (d8||false))) _ j,Kept.of_below j⟩
def jql(vars:List MVar)(tab:kq3)(l:List PP)(ms st:List Int)(n i:Tok):Option (Int×Bool):=
 if i.t.toList==[] then (jwy vars tab l ms st n.x.toList).map λx=>(x,false)
 else (vars[(kjw tab n.x.toList).xx]?).bind λv=>(atO vars tab l ms st v i).bind λp=>if p.1<0 then none else (st[p.1.toNat]?).bind λx=>(small x).map λy=>(y,p.2)
def qqv(vars:List MVar)(tab:kq3)(l:List PP)(ms st:List Int):PX->Option (Int×Bool)
 |.nil=>none
 |.node _ _ x a c=>
  if opN x.op.toList==0 then some (1,false) else if (opN x.op.toList==1||opN x.op.toList==2) then some (0,false) else if opN x.op.toList==3 then some (x.n,false)
  else if opN x.op.toList==4 then jql vars tab l ms st x.y x.c
  else if opN x.op.toList==5 then (qqv vars tab l ms st a).bind λp=>(small p.1).map λ_=>(1-p.1,p.2)
  else (qqv vars tab l ms st a).bind λp=>(qqv vars tab l ms st c).bind λq=>(small p.1).bind λ_=>(small q.1).map λ_=>(kxa (opN x.op.toList) p.1 q.1,p.2||q.2)
def pjb:Prop:=∀(w:World)(lo R M nb:Nat)(vars:List MVar)(tab:kq3)(l:List PP)(ms st:List Int)(sv:Value)(b:Bool)(n i:Tok),Rn lo w R M nb vars tab l ms st sv b->vars.length<=1000->l.length<=1000->(∀y∈kzu n i,y.x.size<=1000) ->
  ∀r:Int×Bool,jql vars tab l ms st n i=some r ->
  Calls prog 231 #[.pointer (some ⟨R,0,none⟩),pl5 n i] w λe w'=>e=.returned (.int .i64 r.1)/\Rn lo w' R M nb vars tab l ms st sv (b||r.2)/\Kept R w w'
def zyv(x:PX):Prop:=∀(w:World)(lo xo R M nb:Nat)(vars:List MVar)(tab:kq3)(l:List PP)(ms st:List Int)(sv:Value)(b:Bool)(v:Value),Rn lo w R M nb vars tab l ms st sv b->vars.length<=1000->l.length<=1000->XIs xo w x v->(∀y∈bf x,y.x.size<=1000) ->
  ∀r:Int×Bool,qqv vars tab l ms st x=some r ->
  Calls prog 190 #[.pointer (some ⟨R,0,none⟩),v] w λe w'=>e=.returned (.int .i64 r.1)/\Rn lo w' R M nb vars tab l ms st sv (b||r.2)/\Kept R w w'
theorem Rn.blk(h:Rn lo w R M nb vars tab l ms st sv d8):∃cs fr,w.heap[R]?=some (.cells cs 269 fr):=by obtain⟨⟨tx,pa,pn,pc,ma,mn,mc,hR,_⟩,_⟩:=h;simp_all
theorem Rn.drew{b:Bool}(h:Rn lo w R M nb vars tab l ms st sv b):Rn lo w.drew R M nb vars tab l ms st sv b:=h.below bR.drew
theorem Rn.or2{a g4:Bool}(h:Rn lo w R M nb vars tab l ms st sv (d8||a||g4)):Rn lo w R M nb vars tab l ms st sv (d8||(a||g4)):=by grind
theorem Rn.xkf(h:Rn lo w R M nb vars tab l ms st sv d8):∃sa sc,sv=.slice sa st.length sc/\∀i (hi:i<st.length),∃g,sa=some ⟨g,0,none⟩/\g<w.heap.size/\w.cell? ⟨g,i,none⟩=some (.int .u8 st[i])/\w.frozen? ⟨g,i,none⟩=false:=by
 obtain⟨h1,b⟩|⟨g,cap,cur,h1,_,a,_,_,_,h7⟩:=h.st.2
 ·simp_all
 ·refine⟨_,cap,h1,λi hi=>⟨g,rfl,wQ a,?_,Zt w g i _ _ a⟩⟩;rw[QK w g i _ _ _ a];have:(cur.toList.take<|st.length*1)[i]?=some (.int .u8 st[i]):=by simp_all
  grind
theorem Rn.sat(h:Rn lo w R M nb vars tab l ms st (.slice (some ⟨g,0,none⟩) n sc) d8)(b:k<st.length):w.cell? ⟨g,k,none⟩=some (.int .u8 st[k]):=by obtain⟨sa,a,e,c⟩:=h.xkf;grind
theorem Kept.xkk(h:Kept R w.drew w'):Kept R w w':=⟨h.os,h.tape,h.output,h.size,h.block⟩
theorem vwq:pjb:=by
 intro w lo R M nb vars tab l ms st sv b n i h hv J f r a;have H:n.x.size<=1000:=f n (by unfold kzu;grind);have u:(i.t.toList==[])=false->i.x.size<=1000:=λe=>f i (by unfold kzu;simp_all)
 unfold jql at a;unfold pl5;have a2:=h.lt;cases S:(i.t.toList==[])
 ·rw[S,Xy ay]at a;obtain⟨v,N,a⟩:=wu.1 a;obtain⟨⟨p1,pw⟩,hp,a⟩:=wu.1 a;by_cases I:p1<0
  ·rw[lJ I]at a;cases a
  rw[Xy I]at a;obtain⟨k,rfl⟩:=sG (by omega:0<=p1);obtain⟨x,j,a⟩:=wu.1 a;obtain⟨y,hy,K⟩:=wX.1 a;obtain⟨O,a5,a6⟩:=qqu hy;rw[O]at K;subst K;replace j:st[k]?=some x:=j
  obtain⟨G,F⟩:=rY.1 j;obtain⟨sa,sc,rfl,L⟩:=h.xkf;obtain⟨g,rfl,a1,D,_⟩:=L k G;obtain⟨W,z⟩:=cpy<|w.alloc (.cells #[.string n.x,.int .i64 n.v,.bool true,.string i.x,.int .i64 i.v] 332);have c:oq w W:=by rw[z];exact jZ w
  have a3:w.heap.size<W.heap.size:=by simp_all
  have X:Hid (W.heap[w.heap.size]?=some (.cells #[.string n.x,.int .i64 n.v,.bool true,.string i.x,.int .i64 i.v] 332 (0,0))):=by rw[z];exact qy
  have t:=h.below c;obtain⟨_,r4,_,_⟩:=t.cells;have q0:=jl X;have s0:W.cell? ⟨g,k,none⟩=some (.int .u8 x):=by rw[<-F];exact(c.cell (p:=⟨g,k,none⟩) a1).trans D
  have Z:=qxd t.drew H N hv;have m:=oz (λ(A:World) (h1:Rn lo A R M nb vars tab l ms st (.slice (some ⟨g,0,none⟩) st.length sc) b) (va:Option Addr) (vc:Nat)=>pqr va vc n h1 hv J u hp);have q:=t.drew;have a0:=oz z.symm;unfold pl5 at m;rw[S]at m;clear hp N hy O a D L z f u;go_in;go_upto_region 2 with fail
  rw[ku a0];go_region_held3 (λw'=>w'.cell? ⟨R,4,none⟩=some (.slice (some ⟨g,0,none⟩) st.length sc)/\w'.cell? ⟨w.heap.size,0,none⟩=some (.string n.x)/\w'.cell? ⟨w.heap.size,1,none⟩=some (.int .i64 n.v)/\w'.cell? ⟨w.heap.size,2,none⟩=some (.bool true)/\w'.cell? ⟨w.heap.size,3,none⟩=some (.string i.x)/\w'.cell? ⟨w.heap.size,4,none⟩=some (.int .i64 i.v)/\w'.cell? ⟨g,k,none⟩=some (.int .u8 x))
   (first|simp_all|simp_all|simp_all)
   (first
   |(go_at_call 233;refine Z.mono ?_;rintro e A ⟨va,vc,rfl,_,d⟩;have h1:=q.below d;have s:=(d.block w.heap.size<|by simp_all).trans X;obtain⟨_,a4,_,_⟩:=h1.cells;have b0:=jl s;have t0:=(d.cell (p:=⟨g,k,none⟩) (by show g<W.heap.size;omega)).trans s0;have Q:=m A h1 va vc;have Y:=oz s;have U:=(c.drew).trans (d.mono (by show w.heap.size<=W.heap.size;omega));clear s)
   |(go_at_call 234;refine Q.mono ?_;rintro e w2 ⟨rfl,P,E⟩;have C:=E.e (b:=w.heap.size) aj Y;obtain⟨_,c4,_,_⟩:=P.cells;have d0:=jl C;have u0:w2.cell? ⟨g,k,none⟩=some (.int .u8 x):=(by rw[<-F];exact P.sat G);have V:=(Kept.of_below U).trans E;clear C;dsimp only))
  all_goals
   go_wp2;go_ret;exact⟨kqi kQ,P,V⟩
 ·rw[S,lJ rfl]at a;obtain⟨x,j,a⟩:=wX.1 a;subst a;have c:=jZ w (o:=.cells #[.string n.x,.int .i64 n.v,.bool false,.string i.x,.int .i64 i.v] 332);have B:=zw2 (h.below c) hv J H j;have q:=h.below c;unfold ptV at B;clear j f u;go_in;go_wp21;refine B.mono ?_;rintro e A ⟨rfl,d⟩;have H1:=q.below d;have T:=c.trans<|d.mono ay;go_wp2
  go_ret;exact⟨rfl,H1.orF,Kept.of_below T⟩
theorem vz3(a4:pjb)(i j:Nat)(x:ELab)(T:zyv b8)(aB:zyv c):zyv (.node i j x b8 c):=by
 intro w lo xo R M nb vars tab l ms st sv b v f hv u hX J r hr;obtain⟨k,va,vb,rfl,hk,A,X,hb⟩:=hX;obtain⟨p1,rfl⟩:=X.ptr;obtain⟨p2,rfl⟩:=hb.ptr;obtain⟨aC,aD,D⟩:=f.blk;have O:k≠R:=zy7 A D ak;have I:∀y∈bf b8,y.x.size<=1000:=λy g=>J y (by rw[bf];simp[g])
 have P:∀y∈bf c,y.x.size<=1000:=λy g=>J y (by rw[bf];simp[g])
 have a6:∀y∈qw1 x,y.x.size<=1000:=λy g=>J y (by rw[bf];simp[g])
 have t:=zkc x.op.toList;have a5:=A;unfold kyu at A;have q0:=kki A;have E:(if opN x.op.toList==0 then some (1,false) else if (opN x.op.toList==1||opN x.op.toList==2) then some (0,false) else if opN x.op.toList==3 then some (x.n,false)
  else if opN x.op.toList==4 then jql vars tab l ms st x.y x.c
  else if opN x.op.toList==5 then (qqv vars tab l ms st b8).bind λp=>(small p.1).map λ_=>(1-p.1,p.2)
  else (qqv vars tab l ms st b8).bind λp=>(qqv vars tab l ms st c).bind λq=>(small p.1).bind λ_=>(small q.1).map λ_=>(kxa (opN x.op.toList) p.1 q.1,p.2||q.2))=some r:=hr
 obtain⟨B,Y,K,Z,HX⟩:=ja (λ(e:qw1 x=kzu x.y x.c)(he:jql vars tab l ms st x.y x.c=some r)=>a4 w lo R M nb vars tab l ms st sv b x.y x.c f hv u (by simp_all) r he) (λp e=>T w lo xo R M nb vars tab l ms st sv b _ f hv u X I p e) (λp e=>T w.drew lo xo R M nb vars tab l ms st sv b _ f.drew hv u (X.below bR.drew) I p e) (λ(h:World) (b1:Bool) (h1:Rn lo h R M nb vars tab l ms st sv b1) (a:Kept R w.drew h) q e=>aB h lo xo R M nb vars tab l ms st sv b1 _ h1 hv u ((hb.below bR.drew).nm (w:=w.drew) D ak a) P q e) A;unfold pl5 at B;generalize (!(x.c.t.toList==[]))=d at *;clear hr A a5 J I P a6 D hk;go_in;generalize opN x.op.toList=o at *;cases h0:(o==0)
 case true=>
  rw[h0,lJ rfl]at E;injection E with E;subst E;go_wp2
  go_ret;exact⟨rfl,f,Kept.refl _ _⟩
 case false=>
 rw[h0,Xy ay]at E;cases h1:(o==1)
 case true=>
  rw[h1,Jg,lJ rfl]at E;injection E with E;subst E;go_wp2
  go_ret;exact⟨rfl,f,Kept.refl _ _⟩
 case false=>
 cases C:(o==2)
 case true=>
  rw[h1,C,Js,lJ rfl]at E;injection E with E;subst E;go_wp2
  go_ret;exact⟨rfl,f,Kept.refl _ _⟩
 case false=>
 rw[h1,C,Qg,Xy ay]at E;cases h3:(o==3)
 case true=>
  rw[h3,lJ rfl]at E;injection E with E;subst E;go_wp2
  go_ret;exact⟨rfl,f,Kept.refl _ _⟩
 case false=>
 rw[h3,Xy ay]at E;cases W:(o==4)
 case true=>
  rw[W,lJ rfl]at E;rw[W]at t;have V:=B (by unfold qw1;simp_all) E;clear E t;go_wp21;refine V.mono ?_;rintro e h ⟨rfl,U,m⟩;go_wp2;go_ret;exact⟨rfl,U,m⟩
 case false=>
 rw[W,Xy ay]at E;cases h5:(o==5)
 case true=>
  rw[h5,lJ rfl]at E;obtain⟨p,H,E⟩:=wu.1 E;obtain⟨y,g,E⟩:=wX.1 E;obtain⟨_,Q,S⟩:=qqu g;subst E;have s:=Y p H;clear t H g;go_wp21;refine s.mono ?_;rintro e h ⟨rfl,h1,a⟩;obtain⟨U,m⟩:=ju h1 a;clear h1 a;go_wp2;go_ret;exact⟨rfl,U,m⟩
 case false=>
 rw[h5,Xy ay]at E;obtain⟨p,H,E⟩:=wu.1 E;obtain⟨q,hq,E⟩:=wu.1 E;obtain⟨y,g,E⟩:=wu.1 E;obtain⟨z,hz,E⟩:=wX.1 E;obtain⟨_,Q,S⟩:=qqu g;obtain⟨_,a9,aA⟩:=qqu hz;subst E;obtain⟨s,a1⟩:=ju (K p H) (λh b1 h1 a=>Z h b1 h1 a q hq);clear B t Y K Z H g hz hq;go_upto_region 13 with fail
 go_region_held3 (λw'=>w'.cell? ⟨k,0,none⟩=some (.int .i64 o)/\w'.cell? ⟨k,7,none⟩=some (.pointer p1)/\w'.cell? ⟨k,8,none⟩=some (.pointer p2))
  (first|simp_all|simp_all|simp_all)
  (first
  |(go_at_call 190;refine s.mono ?_;rintro e h ⟨rfl,h1,a⟩;have F:=a.e O HX;obtain⟨⟨a0,_,_,_,_,_,_,a7,a8⟩,_⟩:=kki F;obtain⟨L,a3,m⟩:=jp (a1 h _ h1 a) F a;clear h1 a F s)
  |(go_at_call 190;refine L.mono ?_;rintro e w2 ⟨rfl,C,G⟩;have N:=G.e O a3;obtain⟨⟨c0,_,_,_,_,_,_,c7,c8⟩,_⟩:=kki N;obtain⟨H2,a2⟩:=ju C (m.trans G);clear C G N L)
  |(go_at_call 232;refine(pyp o p.1 q.1 Q S a9 aA).mono ?_;rintro e w3 ⟨rfl,rfl⟩;dsimp only))
 all_goals
  go_wp2;go_ret;exact⟨rfl,H2.or2,a2.xkk⟩
theorem qvk:∀x:PX,zyv x
 |.nil=>λw lo xo R M nb vars tab l ms st sv b v _ _ _ _ _ r h=>ig
 |.node i j x a c=>vz3 vwq i j x (qvk a)<|qvk c
structure kxe (R:Nat)(o:Option Nat)(w w':World):Prop where
 os:w'.os=w.os
 tape:w'.tape=w.tape
 output:w'.output=w.output
 size:w.heap.size<=w'.heap.size
 block:∀k,k<w.heap.size->k≠R->o≠some k->w'.heap[k]?=w.heap[k]?
theorem kxe.refl(R:Nat)(o:Option Nat)(w:World):kxe R o w w:=⟨rfl,rfl,rfl,jH,λ_ _ _ _=>rfl⟩
theorem kxe.trans{o:Option Nat}{b:World}(h:kxe R o a b)(k:kxe R o b w):kxe R o a w:=
 ⟨k.os.trans h.os,k.tape.trans h.tape,k.output.trans h.output,rP h.size k.size,λi h1 c d=>(k.block i (sV h1 h.size) c d).trans<|h.block i h1 c d⟩
theorem Kept.o(h:Kept R w w')(o:Option Nat):kxe R o w w':=⟨h.os,h.tape,h.output,h.size,λk h1 a _=>h.block k h1 a⟩
theorem zqq(h:oq w w')(R:Nat)(o:Option Nat):kxe R o w w':=⟨h.os,h.tape,h.output,h.size,λk h1 _ _=>h.block k h1⟩
theorem kxe.alone(h:kxe R none w w'):Kept R w w':=⟨h.os,h.tape,h.output,h.size,λk h1 a=>h.block k h1 a ay⟩
theorem kxe.split(h:kxe R (some lo) w w')(b:lo<w.heap.size):∃m,Kept R w m/\m.heap[lo]?=w.heap[lo]?/\Kept lo m w':=by
 obtain⟨x,d⟩:∃x,w.heap[lo]?=some x:=⟨_,Array.getElem?_eq_getElem b⟩;have c:lo<w'.heap.size:=sV b h.size;refine⟨ChangeMaps.setBlock w' lo x,⟨h.os,h.tape,h.output,by simpa[ChangeMaps.setBlock] using h.size,λk h1 a=>?_⟩,?_,⟨rfl,rfl,rfl,lV,λk h1 a=>?_⟩⟩
 ·by_cases e:k=lo
  ·grind [ChangeMaps.setBlock]
  ·rw[<-h.block k h1 a (by grind)];grind [ChangeMaps.setBlock]
 ·grind [ChangeMaps.setBlock]
 grind [ChangeMaps.setBlock]
theorem jkd(h:w.ownsRow lo e 1 (.slice (some ⟨g,0,none⟩) n cap) n xs)(q:Nat)(u:Value):(w.setCell ⟨g,q,none⟩ u).ownsRow lo e 1 (.slice (some ⟨g,0,none⟩) n cap) n (xs.set q u):=by
 refine⟨lM,?_⟩;obtain⟨h1,_⟩|⟨k,c,cur,a,d,f,i,e5,j,e7⟩:=h.2
 ·cases h1
 ·injection a with a _ b;injection a with a;injection a with a;subst a;subst b;exact .inr ⟨g,cap,_,rfl,d,Go.heap_setCell_same _ g q _ _ _ f,i,e5,by simp_all,by grind [List.take_set]⟩
theorem qwl(h:Rn lo w R M nb vars tab l ms st sv d8)(hv:vars.length<=1000)(a:l.length<=1000)(b:XIs xo w x (.pointer p))(d:∀y∈bf x,y.x.size<=1000)(c:qqv vars tab l ms st x=some r):Calls prog 132 #[.pointer (some ⟨R,0,none⟩),.pointer p] w λe w'=>e=.returned (.bool<|r.1==1)/\Rn lo w' R M nb vars tab l ms st sv (d8||r.2)/\Kept R w w':=by go_in;go_wp21;refine(qvk x w lo xo R M nb vars tab l ms st sv d8 _ h hv a b d r c).mono ?_;rintro e i ⟨rfl,g,f⟩;go_wp2;go_ret;simp_all
def vk9(vars:List MVar)(tab:kq3)(l:List PP)(ms st:List Int)(n i:Tok)(x:PX):Option (List Int×Bool):=
 (qqv vars tab l ms st x).bind λp=>(vars[(kjw tab n.x.toList).xx]?).bind λv=>(atO vars tab l ms st v i).bind λq=>
  if p.1<0||p.1 >= (v.a.length:Int) then some (st,true) else if p.1 > 255||q.1<0||q.1 >= (st.length:Int) then none else some (st.set q.1.toNat p.1,p.2||q.2)
theorem Rn.setSt(h:Rn lo w R M nb vars tab l ms st (.slice (some ⟨g,0,none⟩) n cap) d8)(q:Nat)(y:Int):Rn lo (w.setCell ⟨g,q,none⟩ (.int .u8 y)) R M nb vars tab l ms (st.set q y) (.slice (some ⟨g,0,none⟩) n cap) d8:=by
 obtain⟨⟨tx,pa,pn,pc,ma,mn,mc,hR,k,hM⟩,f,c⟩:=h;obtain⟨p,s,d,_⟩:=qp c;injection d with j e d;subst e;have a:∃cur,w.heap[g]?=some (.cells cur 5 (0,0)):=by
  obtain⟨h1,_⟩|⟨m,i,cur,j,e,d,_⟩:=c.2
  ·cases h1
  simp_all
 obtain⟨cur,a⟩:=a;have b:Kept g w (w.setCell ⟨g,q,none⟩<|.int .u8 y):=(Kept.refl _ _).kzr q _;refine⟨⟨tx,pa,pn,pc,ma,mn,mc,b.e (zy7 hR a ak) hR,kqt k a ak b,kqt hM a ak b⟩,f.nm a ak ak ak b,?_⟩;grind [jkd,List.map_set]
theorem kxe.pvs{q:Nat}{u:Value}(h:kxe R (Value.ownBlock (.slice (some ⟨g,0,none⟩) n cap)) a w):kxe R (Value.ownBlock (.slice (some ⟨g,0,none⟩) n cap)) a (w.setCell ⟨g,q,none⟩ u):=by have b:Kept g w (w.setCell ⟨g,q,none⟩ u):=(Kept.refl _ _).kzr q _;exact h.trans ⟨b.os,b.tape,b.output,b.size,λk h1 _ c=>b.block k h1<|λe=>c (by rw[e];rfl)⟩
theorem vzw{b:Bool}(ta P:Option Addr)(S tc en Q:Nat)(c:Bool)(h:Rn lo w R M nb vars tab l ms st sv b)(hv:vars.length<=1000)(O:l.length<=1000)(hX:XIs xo w x (.pointer p))(hs:∀y∈bf x,y.x.size<=1000)(t:∀y∈kzu d9 i,y.x.size<=1000){g6:List Int×Bool}(a:vk9 vars tab l ms st d9 i x=some g6):Calls prog 192 #[.pointer (some ⟨R,0,none⟩),.agg #[.bool c,.string d9.x,.int .i64 d9.v,.bool<|!(i.t.toList==[]),.string i.x,.int .i64 i.v,.pointer p,.slice ta S tc,.slice P en Q]] w λe w'=>e=.returned (.tuple #[])/\Rn lo w' R M nb vars tab l ms g6.1 sv (b||g6.2)/\kxe R sv.ownBlock w w':=by
 unfold vk9 at a;obtain⟨pv,hp,a⟩:=wu.1 a;obtain⟨v,(a2:Hid _),a⟩:=wu.1 a;obtain⟨q,hq,a⟩:=wu.1 a;have a5:d9.x.size<=1000:=t d9 (by unfold kzu;grind);have K:(i.t.toList==[])=false->i.x.size<=1000:=λe=>t i (by unfold kzu;simp_all)
 obtain⟨W,G⟩:=cpy<|w.alloc (.cells #[.bool c,.string d9.x,.int .i64 d9.v,.bool<|!(i.t.toList==[]),.string i.x,.int .i64 i.v,.pointer p,.slice ta S tc,.slice P en Q] 334);have C:oq w W:=by rw[G];exact jZ w
 have HS:Hid (W.heap[w.heap.size]?=some (.cells #[.bool c,.string d9.x,.int .i64 d9.v,.bool<|!(i.t.toList==[]),.string i.x,.int .i64 i.v,.pointer p,.slice ta S tc,.slice P en Q] 334 (0,0))):=by rw[G];exact qy
 have aA:=h.lt;have HV:=qvk x W lo xo R M nb vars tab l ms st sv b _ (h.below C) hv O (hX.below C) hs pv hp;have q0:=kki HS;have s:=zqq C R sv.ownBlock;obtain⟨a3,HR,A⟩:=jp G.symm a (λ(w3:World)(b3:Bool)(h3:Rn lo w3 R M nb vars tab l ms st sv b3)(va:Option Addr)(vc:Nat)=>pqr va vc d9 h3 hv O K hq);unfold kvo pl5 at A;generalize (!(i.t.toList==[]))=d at *;clear a hq hp hs t K G;go_in;go_wp21;rw[ku a3];refine HV.mono ?_;rintro e w1 ⟨rfl,U,L⟩;have B:=oz<|L.e (b:=w.heap.size) aj HS;have a0:=kki B;have a1:=qxd U a5 a2 hv;have X:=s.trans<|L.o _;clear q0;go_wp21
 refine a1.mono ?_;rintro e T ⟨va,vc,rfl,hT,f⟩;have t:=f.size;have a6:w.heap.size<w1.heap.size:=wQ B;have b0:=kki<|(f.block w.heap.size a6).trans B;have h2:=(U.below f);have a9:=h2.lt;have V:=A (T.alloc<|.cells (kvo v va vc) 213) _ (h2.below<|jZ _) va vc;have Y:=X.trans<|zqq f R sv.ownBlock;unfold kvo at *;have a8:w.heap.size<T.heap.size:=aj;clear a0;go_wp21
 refine V.mono ?_;rintro e w4 ⟨rfl,F,N⟩;have J:=N.e (b:=T.heap.size) aj<|qy;have v0:=jl J;obtain⟨r1,r4,r5,rf⟩:=F.cells;obtain⟨sa,sc,D,z⟩:=F.xkf;have H:=Y.trans<|(zqq (jZ _) R sv.ownBlock).trans (N.o _);have a:=ku HR;clear J b0;have I:=oz (λ(e:g6=(st,true))=>(by rw[e,Js];exact F.xz true:Rn lo (w4.setCell ⟨R,5,none⟩<|.bool true) R M nb vars tab l ms g6.1 sv (b||g6.2)));have s:=H.trans<|((Kept.refl R w4).kzr 5<|.bool true).o sv.ownBlock;by_cases a7:pv.1<0
 ·rw[lJ (by simp_all)]at a;injection a with a;have j:=I a.symm;generalize pv.1=y at *;clear z D a;go_wp2
  exact tK (results_none rfl _ _ _) rfl ⟨rfl,j,s⟩
 ·by_cases aE:(v.a.length:Int)<=pv.1
  ·rw[lJ (by simp_all)]at a;injection a with a;have j:=I a.symm;generalize pv.1=y at *;clear z D a;go_wp2
   exact tK (results_none rfl _ _ _) rfl ⟨rfl,j,s⟩
  ·rw[Xy (by simp_all)]at a;by_cases m:(pv.1 > 255||q.1<0||q.1 >= (st.length:Int))=true
   ·simp_all
   ·rw[Xy m]at a;injection a with a;simp only[Q8,sD,not_or,ge_iff_le,gt_iff_lt]at m;obtain⟨⟨aB,f⟩,aC⟩:=m;obtain⟨E,pw⟩:=pv;obtain⟨q1,qw⟩:=q;obtain⟨k,rfl⟩:=sG (by omega:0<=q1);have a4:k<st.length:=aj;obtain⟨g,rfl,aG,aD,aF⟩:=z k a4;subst D;have hc:=F.setSt k E;have HC:=show Rn lo (w4.setCell ⟨g,k,none⟩<|.int .u8 E) R M nb vars tab l ms g6.1 (.slice (some ⟨g,0,none⟩) st.length sc) (b||g6.2) by grind
    have Z:=H.pvs (q:=k) (u:=.int .u8 E);dsimp only at *;have aH:IntKind.u8.wrap E=E:=by rw[IntKind.wrap_u8];omega
    clear z a;go_wp2;go_end0;exact⟨rfl,HC,Z⟩
theorem Rn.sty(h:Rn lo w R M nb vars tab l ms st sv d8):∀s,sv.ownBlock=some s->∃cs fr,w.heap[s]?=some (.cells cs 5 fr):=by
 intro s a;obtain⟨h1,b⟩|⟨g,cap,cur,h1,_,c,_⟩:=h.st.2
 ·rw[h1]at a;cases a
 ·rw[h1]at a;injection a with a;simp_all
theorem kxe.via(h:kxe R g7 w w')(a:∀s,g7=some s->∃cs fr,w.heap[s]?=some (.cells cs 5 fr)):Kept R w w'\/∃s m cs fr,Kept R w m/\m.heap[s]?=some (.cells cs 5 fr)/\Kept s m w':=by
 cases g7 with
 |none=>exact .inl h.alone
 |some s=>
  obtain⟨cs,fr,hb⟩:=a s rfl;obtain⟨m,h1,b,c⟩:=h.split<|wQ hb;grind
theorem zy5(h:w.ownsRow lo e size v n xs)(hR:∃cs fr,w.heap[R]?=some (.cells cs 269 fr))(g:∀s,g7=some s->∃cs fr,w.heap[s]?=some (.cells cs 5 fr))(a:269≠e)(b:5≠e)(f:kxe R g7 w w'):w'.ownsRow lo e size v n xs:=by
 obtain⟨cs,fr,hR⟩:=hR;obtain h1|⟨s,m,cs',i,h1,c,d⟩:=f.via g
 ·exact kqt h hR a h1
 ·exact kqt (kqt h hR a h1) c b d
theorem BIs.ko(h:BIs lo no w g8 xs)(hR:∃cs fr,w.heap[R]?=some (.cells cs 269 fr))(b:∀s,g7=some s->∃cs fr,w.heap[s]?=some (.cells cs 5 fr))(a:kxe R g7 w w'):BIs lo no w' g8 xs:=by
 obtain⟨cs,fr,hR⟩:=hR;obtain h1|⟨s,m,cs',c,h1,d,e⟩:=a.via b
 ·exact h.nm hR ak ak h1
 grind [nm]
def kyk:PX->Tok×Tok
 |.nil=>(zh,zh)
 |.node _ _ x _ _=>(x.y,x.c)
theorem pqv:∀x:PX,plC x=[.string (kyk x).1.x,.int .i64 (kyk x).1.v,.bool (!((kyk x).2.t.toList==[])),.string (kyk x).2.x,.int .i64 (kyk x).2.v]/\pwu x=kzu (kyk x).1 (kyk x).2
 |.nil=>⟨by rw[show(kyk .nil).2=zh from rfl,dh];rfl,by rw[show(kyk .nil).2=zh from rfl];unfold kzu;rw[dh];rfl⟩
 |.node _ _ x _ _=>⟨rfl,rfl⟩
def doO(vars:List MVar)(tab:kq3)(l:List PP)(ms:List Int):PB->List Int->Option (List Int×Bool)
 |.nil,st=>some (st,false)
 |.node _ _ a .nil n,st=>(vk9 vars tab l ms st (kyk a.N).1 (kyk a.N).2 a.value).bind λp=>(doO vars tab l ms n p.1).map λq=>(q.1,p.2||q.2)
 |.node _ _ a (.node _ _ _ t e) n,st=>(qqv vars tab l ms st a.A).bind λc=>(if c.1==1 then doO vars tab l ms t st else doO vars tab l ms e st).bind λp=>(doO vars tab l ms n p.1).map λq=>(q.1,c.2||p.2||q.2)
def zqv(b:PB):Prop:=∀(w:World)(lo so R M nb:Nat)(no:Option Nat)(vars:List MVar)(tab:kq3)(l:List PP)(ms st:List Int)(sv:Value)(bb:Bool)(v:Value)(cs:List Value),Rn lo w R M nb vars tab l ms st sv bb->vars.length<=1000->l.length<=1000 ->
  w.ownsRow so 334 9 v (kqq b) cs->BIs so no w b cs->ky6 b->kqq b<=1000->(∀y∈je b,y.x.size<=1000)->∀r,doO vars tab l ms b st=some r ->
  Calls prog 133 #[.pointer (some ⟨R,0,none⟩),v] w λe w'=>e=.returned (.tuple #[])/\Rn lo w' R M nb vars tab l ms r.1 sv (bb||r.2)/\kxe R sv.ownBlock w w'
theorem vzk{g9:PB}(K:zqv g8)(J:zqv g9)(no:Option Nat){b:Bool}(n i:Tok)(d:Bool)(ta u:Option Addr)(z tc en v:Nat)(E D:List Value)(h:Rn lo w R M nb vars tab l ms st sv b)(hv:vars.length<=1000)(s:l.length<=1000)(L:XIs so w x (.pointer p))(O:∀y∈bf x,y.x.size<=1000)(t:w.ownsRow so 334 9 (.slice ta z tc) (kqq g8) E/\BIs so no w g8 E/\ky6 g8/\kqq g8<=1000/\(∀y∈je g8,y.x.size<=1000))(m:w.ownsRow so 334 9 (.slice u en v) (kqq g9) D/\BIs so no w g9 D/\ky6 g9/\kqq g9<=1000/\(∀y∈je g9,y.x.size<=1000))(c:Int×Bool)(N:qqv vars tab l ms st x=some c)(r:List Int×Bool)(j:(if c.1==1 then doO vars tab l ms g8 st else doO vars tab l ms g9 st)=some r):Calls prog 191 #[.pointer (some ⟨R,0,none⟩),.agg #[.bool true,.string n.x,.int .i64 n.v,.bool d,.string i.x,.int .i64 i.v,.pointer p,.slice ta z tc,.slice u en v]] w λg9 w'=>g9=.returned (.tuple #[])/\Rn lo w' R M nb vars tab l ms r.1 sv (b||c.2||r.2)/\kxe R sv.ownBlock w w':=by
 obtain⟨W,F⟩:=cpy<|w.alloc (.cells #[.bool true,.string n.x,.int .i64 n.v,.bool d,.string i.x,.int .i64 i.v,.pointer p,.slice ta z tc,.slice u en v] 334);have f:oq w W:=by rw[F];exact jZ w
 have I:W.heap[w.heap.size]?=some (.cells #[.bool true,.string n.x,.int .i64 n.v,.bool d,.string i.x,.int .i64 i.v,.pointer p,.slice ta z tc,.slice u en v] 334 (0,0)):=by rw[F];exact qy
 have Q:=h.lt;have e:=h.below f;have S:=kki I;go_in;go_wp21;rw[(oz F.symm)];refine(qwl e hv s (L.below f) O N).mono ?_;rintro ex g ⟨rfl,h1,a⟩;have a0:=kki<|a.e (b:=w.heap.size) aj I;have A:=(zqq f R sv.ownBlock).trans<|a.o _;have j:=(oz j);cases B:(c.1==1)
 ·rw[B,Xy ay]at j;go_wp21;refine(((λ(g:World)(b1:Bool)(h1:Rn lo g R M nb vars tab l ms st sv b1)(a:Kept R W g)(G:doO vars tab l ms g9 st=some r)=>J g lo so R M nb no vars tab l ms st sv b1 _ D h1 hv s (zy5 (qj m.1 f) e.blk e.sty ak ak<|a.o _) ((m.2.1.stay λk _ H=>f.block k H).ko e.blk e.sty<|a.o _) m.2.2.1 m.2.2.2.1 m.2.2.2.2 r G) g _ h1 a) j).mono ?_;rintro ex P ⟨rfl,C,q⟩;go_wp2;go_end0;exact⟨rfl,C,(A.trans q)⟩
 ·rw[B,lJ rfl]at j;go_wp21;refine(((λ(g:World)(b1:Bool)(h1:Rn lo g R M nb vars tab l ms st sv b1)(a:Kept R W g)(G:doO vars tab l ms g8 st=some r)=>K g lo so R M nb no vars tab l ms st sv b1 _ E h1 hv s (zy5 (qj t.1 f) e.blk e.sty ak ak<|a.o _) ((t.2.1.stay λk _ H=>f.block k H).ko e.blk e.sty<|a.o _) t.2.2.1 t.2.2.2.1 t.2.2.2.2 r G) g _ h1 a) j).mono ?_;rintro ex P ⟨rfl,C,q⟩;go_wp2;go_end0;exact⟨rfl,C,(A.trans q)⟩
def zz5:PB->Prop
 |.nil=>True
 |.node _ _ _ .nil n=>zz5 n
 |.node _ _ _ (.node _ _ _ t e) n=>zqv t/\zqv e/\zz5 n
def xk8(w:World)(lo so R M nb:Nat)(no:Option Nat)(vars:List MVar)(tab:kq3)(l:List PP)(ms:List Int)(sv:Value)(fin:List Int×Bool)(len:Nat)(cs:List Value)(i:Value)(wr:World):Prop:=
 ∃(k:Nat)(rest:PB)(st:List Int)(b:Bool),k+kqq rest=len/\i=.int .i64 k/\BIs so no wr rest (cs.drop<|k*9)/\zz5 rest/\ky6 rest/\(∀y∈je rest,y.x.size<=1000)/\(∃q,doO vars tab l ms rest st=some q/\(q.1,b||q.2)=fin)/\Rn lo wr R M nb vars tab l ms st sv b/\kxe R sv.ownBlock w wr
theorem jjk(hI:zz5 g8):zqv g8:=by
 intro w lo so R M nb no vars tab l ms st sv bb v cs h hv Z O aK b aH f r hr;obtain⟨xa,cap,rfl,_⟩:=qp O;have HR:=show xk8 w lo so R M nb no vars tab l ms sv (r.1,bb||r.2) (kqq g8) cs (.int .i64 0) w from⟨0,g8,st,bb,aj,rfl,by simp_all,hI,b,f,⟨r,hr,rfl⟩,h,kxe.refl _ _ _⟩
 obtain⟨a5,a4,a6⟩:=jp (show ∀(w':World)(st':List Int)(b':Bool),(st',b')=(r.1,bb||r.2)->Rn lo w' R M nb vars tab l ms st' sv b'->Rn lo w' R M nb vars tab l ms r.1 sv (bb||r.2) from λw' st' b' e hh=>by simp_all) h.blk h.sty;generalize a7:(r.1,bb||r.2)=fin at *;generalize kqq g8=len at *;clear f hr a7;go_in;go_wp21;go_loopw [5,8] (λ_ i wr=>xk8 w lo so R M nb no vars tab l ms sv fin len cs i wr) (λ_ i _=>len-(intOf i).toNat);exact HR;obtain⟨k,rest,s1,b1,m,rfl,C,B,b,f,⟨q,a,(HF:Hid _)⟩,A,E⟩:=hrel;obtain⟨ya,aI,P,x⟩:=qp<|zy5 O a4 a6 ak ak E;injection P with P _ e3;subst P;subst e3;have aM:=E.size;have aJ:=A.lt;match rest,C,B,b,f,a,m with
 |.nil,C,B,b,f,a,m=>
  have aL:¬k<len:=oZ;rw[doO]at a;injection a with a;subst a;have HE:=a5 wr s1 (b1||false) HF A.orF;clear f m x;go_wp2
  go_end0;exact⟨rfl,HE,E⟩
 |.node _ _ la .nil nx,C,B,b,f,a,m=>
  obtain⟨p,aG,S,hx,aD⟩:=C;have W:k<len:=oZ;obtain⟨g,rfl,_,aC,Q⟩:=x k W;obtain⟨H,K⟩:=pqv la.N;obtain⟨T,F⟩:=qjc S<|qzl;have cc:∀j,j<9->∀u,(stC false la (.pointer p) (.slice none 0 0)<|.slice none 0 0)[j]?=some u->wr.cell? ⟨g,k*9+j,none⟩=some u:=λj hj u hu=>(Q (k*9+j) aj).trans<|(F j hj).trans hu
  unfold stC at cc;rw[H]at cc;have e0:=cc 0 aj _ rfl;have P:=cc 1 aj _ rfl;have e2:=cc 2 aj _ rfl;have e3:=cc 3 aj _ rfl;have e4:=cc 4 aj _ rfl;have e5:=cc 5 aj _ rfl;have e6:=cc 6 aj _ rfl;have e7:=cc 7 aj _ rfl;have e8:=cc 8 aj _ rfl;simp only[Qk]at e0;rw[doO]at a;obtain⟨L,G,a⟩:=wu.1 a;obtain⟨q2,I,a⟩:=wX.1 a;have a2:∀y∈kzu (kyk la.N).1 (kyk la.N).2,y.x.size<=1000:=λy z=>f y (by rw[je,K];simp[z])
  have a3:∀y∈bf la.value,y.x.size<=1000:=λy z=>f y lZ
  have J:∀y∈je nx,y.x.size<=1000:=λy z=>f y lZ
  have s:=oz (⟨B,b,J,⟨q2,I,by rw[<-ku HF,<-a,Bool.or_assoc]⟩⟩:zz5 nx/\ky6 nx/\(∀y∈je nx,y.x.size<=1000)/\∃q,doO vars tab l ms nx L.1=some q/\(q.1,(b1||L.2)||q.2)=fin);have N:=show BIs so no wr nx (cs.drop<|(k+1)*9) by simp_all
  generalize (kyk la.N).1=n at *;generalize (kyk la.N).2=i at *;have a8:=vzw (w:=wr.alloc<|.cells #[.bool false,.string n.x,.int .i64 n.v,.bool<|!(i.t.toList==[]),.string i.x,.int .i64 i.v,.pointer p,.slice none 0 0,.slice none 0 0] 334) none none 0 0 0 0 false (A.below<|jZ _) hv Z (hx.below<|jZ _) a3 a2 G;have V:k+1+kqq nx=len:=oZ;clear cc Q F T S H K f a2 J m a3 x G a I;generalize (!(i.t.toList==[]))=d at *;go_wp21;refine a8.mono ?_;rintro e w2 ⟨rfl,H2,U⟩;have D:=(zqq (jZ _) R sv.ownBlock).trans U;go_wp2;exact rdM ⟨k+1,nx,_,_,V,eu,N.ko A.blk A.sty D,s.1,s.2.1,s.2.2.1,s.2.2.2,H2,E.trans D⟩
 |.node _ _ la (.node _ _ _ t e) nx,C,B,b,f,a,m=>
  obtain⟨p,ta,tn,tc,ea,en,ec,ct,ce,aG,S,hx,⟨aE,_,aF⟩,⟨aA,_,aB⟩,aD⟩:=C;have W:k<len:=oZ;obtain⟨g,rfl,_,aC,Q⟩:=x k W;obtain⟨H,K⟩:=pqv la.N;obtain⟨T,F⟩:=qjc S<|qzl;have cc:∀j,j<9->∀u,(stC true la (.pointer p) (.slice ta tn tc)<|.slice ea en ec)[j]?=some u->wr.cell? ⟨g,k*9+j,none⟩=some u:=λj hj u hu=>(Q (k*9+j) aj).trans<|(F j hj).trans hu
  unfold stC at cc;rw[H]at cc;have e0:=cc 0 aj _ rfl;have P:=cc 1 aj _ rfl;have e2:=cc 2 aj _ rfl;have e3:=cc 3 aj _ rfl;have e4:=cc 4 aj _ rfl;have e5:=cc 5 aj _ rfl;have e6:=cc 6 aj _ rfl;have e7:=cc 7 aj _ rfl;have e8:=cc 8 aj _ rfl;simp only[Qk]at e0;rw[doO]at a;obtain⟨c,Y,a⟩:=wu.1 a;obtain⟨L,G,a⟩:=wu.1 a;obtain⟨q2,I,a⟩:=wX.1 a;have a0:∀y∈bf la.A,y.x.size<=1000:=λy z=>f y lZ
  have X:∀y∈je t,y.x.size<=1000:=λy z=>f y lZ
  have a1:∀y∈je e,y.x.size<=1000:=λy z=>f y lZ
  have J:∀y∈je nx,y.x.size<=1000:=λy z=>f y lZ
  have s:=oz (⟨B.2.2,b.2.2,J,⟨q2,I,by rw[<-ku HF,<-a];grind⟩⟩:zz5 nx/\ky6 nx/\(∀y∈je nx,y.x.size<=1000)/\∃q,doO vars tab l ms nx L.1=some q/\(q.1,(b1||c.2||L.2)||q.2)=fin);have N:=show BIs so no wr nx (cs.drop<|(k+1)*9) by simp_all
  generalize (kyk la.N).1=n at *;generalize (kyk la.N).2=i at *;generalize (!(i.t.toList==[]))=d at *;have a9:=vzk B.1 B.2.1 (w:=wr.alloc<|.cells #[.bool true,.string n.x,.int .i64 n.v,.bool d,.string i.x,.int .i64 i.v,.pointer p,.slice ta tn tc,.slice ea en ec] 334) no n i d ta ea tn tc en ec ct ce (A.below<|jZ _) hv Z (hx.below<|jZ _) a0
   ⟨qj aE<|jZ _,aF.stay (λk _ m=>(jZ _).block k m),b.1.1,b.1.2,X⟩ ⟨qj aA<|jZ _,aB.stay (λk _ m=>(jZ _).block k m),b.2.1.1,b.2.1.2,a1⟩ c Y L G
  have V:k+1+kqq nx=len:=oZ;clear cc Q F T S H K f a0 X a1 J m x G a I Y;go_wp21;refine a9.mono ?_;rintro e' w2 ⟨rfl,H2,U⟩;have D:=(zqq (jZ _) R sv.ownBlock).trans U;go_wp2;exact rdM ⟨k+1,nx,_,_,V,eu,N.ko A.blk A.sty D,s.1,s.2.1,s.2.2.1,s.2.2.2,H2,E.trans D⟩
theorem qz5:∀b:PB,zz5 b
 |.nil=>trivial
 |.node _ _ _ .nil n=>qz5 n
 |.node _ _ _ (.node _ _ _ t e) n=>⟨jjk<|qz5 t,jjk<|qz5 e,qz5 n⟩
theorem xzw(b:PB):zqv b:=jjk<|qz5 b
def zwo(vars:List MVar)(tab:kq3)(l:List PP)(ms st:List Int)(x:PX):Option Bool:=(qqv vars tab l ms st x).map λr=>(r.1==1)||r.2
theorem vzv(tx:ByteArray)(h:Mc lo w M nb vars tab)(k:w.ownsRow lo 352 4 (.slice pa pn pc) l.length (uq l))(hM:w.ownsRow lo 3 1 (.slice ma mn mc) ms.length (ms.map (Value.int .i64)))(m:w.ownsRow lo 5 1 (.slice sa sn sc) st.length (st.map (Value.int .u8)))(hv:vars.length<=1000)(g:l.length<=1000)(q:XIs xo w x (.pointer p))(u:∀y∈bf x,y.x.size<=1000)(t:zwo vars tab l ms st x=some d8):Calls prog 96 #[.agg #[.string tx,.pointer<|some ⟨M,0,none⟩,.slice pa pn pc,.slice ma mn mc,.pointer p],.slice sa sn sc] w λe w'=>e=.returned (.bool d8)/\oq w w':=by
 obtain⟨c,s,rfl⟩:=wX.1 t;obtain⟨W,d⟩:=cpy<|(w.alloc<|.cells #[.string tx,.pointer<|some ⟨M,0,none⟩,.slice pa pn pc,.slice ma mn mc,.pointer p] 208).alloc (.cells #[.string tx,.pointer<|some ⟨M,0,none⟩,.slice pa pn pc,.slice ma mn mc,.slice sa sn sc,.bool false] 269);have a:oq w W:=jD;have z:w.heap.size+1<W.heap.size:=by simp_all
 have hR:W.heap[w.heap.size+1]?=some (.cells #[.string tx,.pointer<|some ⟨M,0,none⟩,.slice pa pn pc,.slice ma mn mc,.slice sa sn sc,.bool false] 269 (0,0)):=by grind [qy,World.size_alloc]
 have b:Rn lo W (w.heap.size+1) M nb vars tab l ms st (.slice sa sn sc) false:=⟨⟨tx,pa,pn,pc,ma,mn,mc,hR,qj k a,qj hM a⟩,h.below a,qj m a⟩;have i:=qwl b hv g (q.below a) u s;generalize (c.1==1)=j at *;go_in;go_wp21;rw[(oz d.symm)];refine i.mono ?_;rintro e A ⟨rfl,h1,f⟩;obtain⟨_,_,c5,_⟩:=h1.cells;have v:=a.trans<|f.toBelow (B:=w.heap.size) aj aj;cases j
 ·go_wp2;go_ret;simp_all
 ·go_wp2;go_ret;simp_all
theorem jvl(st:List Int):∀y∈st.map (Value.int .u8),y.oneCell'=true:=by intro y a;obtain⟨x,_,rfl⟩:=tY.1 a;rfl
theorem infoU8:(prog.info? 5).map (λi=>(i.zero,i.size,i.bytes))=some (some (.int .u8 0),1,1):=au
theorem zjt(k:w.ownsRow lo 5 1 (.slice sa sn sc) st.length (st.map (Value.int .u8)))(v:st.length<=1000000):Calls prog 131 #[.slice sa sn sc] w λe w'=>∃ca cn cc,e=.returned (.slice ca cn cc)/\w'.ownsRow w.heap.size 5 1 (.slice ca cn cc) st.length (st.map<|Value.int .u8)/\oq w w':=by
 obtain⟨a,j⟩|⟨g,cap,cur,a,j,t,u⟩:=k.2
 ·injection a with a f b;have hn:st=[]:=Qv j;subst hn;have h:=λw=>Go.Lib.run_eql_slice_nil (P:=prog) w 95 5 none 0 0 0 0 underlying95
  go_wp2;go_ret;exact⟨none,0,0,rfl,jE,bR⟩
 ·injection a with a f b;subst a;subst f;subst b;have i:=show(w.alloc<|.cells #[] 5).ownsRow w.heap.size 5 1 (.slice (some ⟨w.heap.size,0,none⟩) 0 0) 0 [] from⟨rfl,.inr ⟨w.heap.size,0,_,rfl,jH,qy,jH,ay,rfl,rfl⟩⟩
  obtain⟨i0,hi,l,m,p⟩:=info_parts infoU8;have h:=λw=>Go.Lib.run_eql_slice_nil (P:=prog) w 95 5 (some ⟨g,0,none⟩) st.length sc 0 0 underlying95
  go_in;go_wp2_with (at_builtin;refine kqv rfl 95 rfl w.heap.size 5 i0 _ 1 1 underlying95 hi l m p rfl ak (.slice (some ⟨w.heap.size,0,none⟩) 0 0) 0 [] rfl i (.slice (some ⟨g,0,none⟩) st.length sc) st.length _ _ rfl (qj k<|jZ w (o:=.cells #[] 5)) (jvl st) aj aj ay ?_)
  intro x w3 d c q;obtain⟨a3,s,c3,rfl⟩:=qh d;go_wp2;go_ret;exact⟨a3,s,c3,rfl,d,((jZ w).grown c ay<|jo i)⟩
theorem xz4(h:w.ownsRow lo e size v n xs):∀k,v.ownBlock=some k->lo<=k:=jo h
theorem vja(h:w.ownsRow lo e size v n xs)(c:∀k,v.ownBlock=some k->B<=k):w.ownsRow B e size v n xs:=by
 refine⟨h.1,?_⟩;obtain h1|⟨g,cap,cur,a,d,b⟩:=h.2
 ·simp_all
 ·exact .inr ⟨g,cap,cur,a,c g (by rw[a];rfl),b⟩
theorem kxe.toBelow(h:kxe R g7 w w')(a:B<=R)(d:B<=w.heap.size)(c:∀k,g7=some k->B<=k):Below B w w':=
 ⟨h.os,h.tape,h.output,h.size,λk b=>h.block k aj aj<|λe=>by grind⟩
theorem pzc(h:w.ownsRow lo e size v n xs)(hb:∀k,v.ownBlock=some k->b+1<=k):(puts b [y0,y1,y2,y3,y4,y5] 0 w).ownsRow lo e size v n xs:=jkc (λe=>by grind) _ _ h
theorem vy8(h:Below B a w)(hb:B<=b):Below B a (puts b [y0,y1,y2,y3,y4,y5] 0 w):=qzp hb _ _ h
def kwi(vars:List MVar)(tab:kq3)(l:List PP)(ms st:List Int)(x:PX)(b:PB):Option (List Int×Int):=
 (qqv vars tab l ms st x).bind λc=>(if c.1==1 then doO vars tab l ms b st else some (st,false)).map λp=>if (c.2||p.2) then ([],2) else if c.1==1 then (p.1,1) else ([],0)
theorem jks(no:Option Nat)(tx:ByteArray)(ba:Option Addr)(bn bc:Nat)(cs:List Value)(h:Mc lo w M nb vars tab)(hP:w.ownsRow lo 352 4 (.slice pa pn pc) l.length (uq l))(hM:w.ownsRow lo 3 1 (.slice ma mn mc) ms.length (ms.map (Value.int .i64)))(hS:w.ownsRow lo 5 1 (.slice sa sn sc) st.length (st.map (Value.int .u8)))(hv:vars.length<=1000)(a0:l.length<=1000)(a1:st.length<=1000000)(hX:XIs so w x (.pointer p))(hs:∀y∈bf x,y.x.size<=1000)(G:w.ownsRow so 334 9 (.slice ba bn bc) (kqq g8) cs/\BIs so no w g8 cs/\ky6 g8/\kqq g8<=1000/\(∀y∈je g8,y.x.size<=1000))(aF:lo<=w.heap.size){h8:List Int×Int}(a:kwi vars tab l ms st x g8=some h8):Calls prog 79 #[.agg #[.string tx,.pointer<|some ⟨M,0,none⟩,.slice pa pn pc,.slice ma mn mc,.pointer p,.slice ba bn bc],.slice sa sn sc] w λe w'=>∃v,e=.returned (.tuple #[v,.int .i64 h8.2])/\w'.ownsRow w.heap.size 5 1 v h8.1.length (h8.1.map<|Value.int .u8)/\oq w w':=by
 unfold kwi at a;obtain⟨c,hc,a⟩:=wu.1 a;obtain⟨d,j,a⟩:=wX.1 a;obtain⟨W,P⟩:=cpy<|w.alloc (.cells #[.string tx,.pointer (some ⟨M,0,none⟩),.slice pa pn pc,.slice ma mn mc,.pointer p,.slice ba bn bc] 178);have J:oq w W:=by rw[P];exact jZ w
 have A:w.heap.size<W.heap.size:=by simp_all
 have N:W.heap[w.heap.size]?=some (.cells #[.string tx,.pointer<|some ⟨M,0,none⟩,.slice pa pn pc,.slice ma mn mc,.pointer p,.slice ba bn bc] 178 (0,0)):=by rw[P];exact qy
 have a8:=zjt (qj hS J.drew) a1;have aD:oq w (W.alloc<|.cells #[.string ⟨#[]⟩,.pointer none,.slice none 0 0,.slice none 0 0,.slice none 0 0,.bool false] 269).drew:=(J.trans<|(jZ W).mono aj).drew;have a9:=zjt (qj hS aD) a1;have HZ:=show(W.alloc<|.cells #[.string ⟨#[]⟩,.pointer none,.slice none 0 0,.slice none 0 0,.slice none 0 0,.bool false] 269).drew.heap[W.heap.size]?=some (.cells #[.string ⟨#[]⟩,.pointer none,.slice none 0 0,.slice none 0 0,.slice none 0 0,.bool false] 269 (0,0)) from qy
 have t0:=kzh N;have U:=λ(wx:World) (R:Nat) (g:Option Addr) (i cc:Nat) (hb:oq w wx) (hR:wx.heap[R]?=some (.cells #[.string tx,.pointer<|some ⟨M,0,none⟩,.slice pa pn pc,.slice ma mn mc,.slice g i cc,.bool false] 269 (0,0))) (O:wx.ownsRow lo 5 1 (.slice g i cc) st.length (st.map<|Value.int .u8))=>(⟨⟨tx,pa,pn,pc,ma,mn,mc,hR,qj hP hb,qj hM hb⟩,h.below hb,O⟩:Rn lo wx R M nb vars tab l ms st (.slice g i cc) false)
 have X:=λ(wx:World)(R:Nat)(sv:Value)(b:Bool)(hb:oq w wx)(hR:Rn lo wx R M nb vars tab l ms st sv b)=>qwl hR hv a0 (hX.below hb) hs hc
 have T:=λ(wx wy:World)(R:Nat)(sv:Value)(b b':Bool)(hb:oq w wx)(hR:Rn lo wx R M nb vars tab l ms st sv b)(H:Kept R wx wy)(aC:Rn lo wy R M nb vars tab l ms st sv b')(q:List Int×Bool)(hq:doO vars tab l ms g8 st=some q)=>xzw g8 wy lo so R M nb no vars tab l ms st sv b' _ cs aC hv a0 (zy5 (qj G.1 hb) hR.blk hR.sty ak ak<|H.o _) ((G.2.1.stay λk _ H=>hb.block k H).ko hR.blk hR.sty<|H.o _) G.2.2.1 G.2.2.2.1 G.2.2.2.2 q hq
 have aB:=oz P.symm;clear hc hs G P;go_in;go_upto_region 1 with fail
 rw[ku aB];go_cut [6] from 8 to 12 (λv wx=>∃R g i cc,v=.pointer (some ⟨R,0,none⟩)/\w.heap.size<R/\wx.heap[R]?=some (.cells #[.string tx,.pointer (some ⟨M,0,none⟩),.slice pa pn pc,.slice ma mn mc,.slice g i cc,.bool false] 269 (0,0))/\wx.ownsRow w.heap.size 5 1 (.slice g i cc) st.length (st.map<|Value.int .u8)/\oq W wx)
 case first=>
  go_region_law ((go_simp;go_at_call 131;(first|(refine a8.mono ?_;rintro e t ⟨g,i,cc,rfl,F,f⟩;have a2:w.heap.size<t.heap.size:=(by have:=f.size;simp at this;omega);have L:=kzh ((f.block _<|by simpa using A).trans N:t.heap[w.heap.size]?=_))|(refine a9.mono ?_;rintro e t ⟨g,i,cc,rfl,F,f⟩;have a2:w.heap.size<t.heap.size:=(by have:=f.size;simp at this;omega);have L:=kzh ((f.block _ ah).trans (zy N):t.heap[w.heap.size]?=_);have z0:=kzh ((f.block _ ay).trans HZ:t.heap[W.heap.size]?=_)));dsimp only))
  all_goals
   go_wp21;go_meet
   refine⟨_,g,i,cc,rfl,?_⟩;first
   |refine⟨a2,?_,?_,?_⟩
    ·exact qy (w:=t)
    ·exact qj (qo (Qr A) F) (jZ _)
    ·exact(bR.drew.trans<|f.mono ay).alloc (by have:=f.size;simp_all) _
   |refine⟨A,?_,?_,?_⟩
    ·exact xxw (pvf ((f.block _ ay).trans HZ:t.heap[W.heap.size]?=_))
    ·exact pzc (qo ah F) (λk H=>by have:=xz4 F k H;simp_all)
    ·exact vy8 (((bR.alloc jH _).drew).trans<|f.mono ay) jH
 case rest=>
 obtain⟨R,g,i,cc,rfl,Z,hR,O,hb⟩:=hcut;have u:=J.trans<|hb.mono (Qr A);have Y:=(ku U) _ R g i cc u hR<|qo aF O;have V:=(hb.block w.heap.size A).trans N;have L:=kzh V;have a5:=X _ R _ false u Y;have s:=λQ b1 h1 m d j=>T _ Q R _ false b1 u Y m h1 d j
 have K:=jo O;have a6:R≠w.heap.size:=aj;have a3:w.heap.size<=wc.heap.size:=u.size;clear hR U X T HZ t0;go_wp21;refine a5.mono ?_;rintro e Q ⟨rfl,h1,m⟩;have D:=m.e (Ne.symm a6) V;have y0:=kzh D;obtain⟨_,r4,C,_⟩:=h1.cells;have I:=u.trans<|m.toBelow (B:=w.heap.size) (Qr Z) a3;have a:=ku a;have j:=ku j;cases E:(c.1==1)
 ·rw[E,Xy ay]at j;injection j with j;subst j;rw[E]at a;simp only[Qg,Xy (Zl)]at a;cases z:c.2
  ·rw[z]at a C;simp only[Xy (Zl)]at a;subst a;clear D s L;go_wp2;go_ret2;exact⟨_,rfl,jE,I⟩
  ·rw[z]at a C;simp only[lJ]at a;subst a;clear D s L;go_wp2;go_ret2;exact⟨_,rfl,jE,I⟩
 ·rw[E,lJ rfl]at j;rw[E,lJ rfl]at a;have a4:=s Q _ h1 m d j;have a7:w.heap.size<=Q.heap.size:=rP a3 m.size;clear D s L r4 C;go_wp21;refine a4.mono ?_;rintro e t ⟨rfl,h2,aE⟩;obtain⟨_,r4,C,_⟩:=h2.cells;have S:=I.trans<|aE.toBelow (Qr Z) a7 K;have aA:=vja h2.st K;rw[QX]at C;clear K y0;cases z:(c.2||d.2)
  ·rw[z]at a C;simp only[Xy (Zl)]at a;subst a;go_wp2;go_ret2;exact⟨_,rfl,aA,S⟩
  ·rw[z]at a C;simp only[lJ]at a;subst a;go_wp2;go_ret2;exact⟨_,rfl,jE,S⟩
structure MStep where
 x:ByteArray
 u:List PP
 xy:List Int
 guard:PX
 block:PB
structure MNever where
 x:ByteArray
 u:List PP
 xy:List Int
 xp:PX
def jye(s:MStep):Prop:=s.u.length<=1000/\(∀y∈bf s.guard,y.x.size<=1000)/\ky6 s.block/\kqq s.block<=1000/\(∀y∈je s.block,y.x.size<=1000)
def zz2(lo so:Nat)(w:World)(M:Nat)(s:MStep)(cs:List Value):Prop:=
 ∃pa pn pc ma mn mc p ba bn bc bs no,cs=[.string s.x,.pointer (some ⟨M,0,none⟩),.slice pa pn pc,.slice ma mn mc,.pointer p,.slice ba bn bc]/\w.ownsRow lo 352 4 (.slice pa pn pc) s.u.length (uq s.u)/\w.ownsRow lo 3 1 (.slice ma mn mc) s.xy.length (s.xy.map<|Value.int .i64)/\XIs so w s.guard (.pointer p)/\w.ownsRow so 334 9 (.slice ba bn bc) (kqq s.block) bs/\BIs so no w s.block bs
def qqx(lo so:Nat)(w:World)(M:Nat)(l:List MStep)(cs:List Value):Prop:=cs.length=l.length*6/\∀k (hk:k<l.length),zz2 lo so w M l[k] ((cs.drop (k*6)).take 6)
theorem pvm(h:(xs.drop (k*6)).take 6=[sv,ps,v,x0,x1,x2]):xs[k*6]?=some sv/\xs[k*6+1]?=some ps/\xs[k*6+2]?=some v/\xs[k*6+3]?=some x0/\xs[k*6+4]?=some x1/\xs[k*6+5]?=some x2:=by
 have g:∀j,j<6->xs[k*6+j]?=([sv,ps,v,x0,x1,x2]:List Value)[j]?:=λj a=>by grind
 exact⟨g 0 aj,g 1 aj,g 2 aj,g 3 aj,g 4 aj,g 5 aj⟩
def qw3(vars:List MVar)(tab:kq3)(st:List Int)(t:List UInt8):List MStep->Option (List Int×Bool)
 |[]=>some ([],false)
 |s::l=>if s.x.toList==t then (kwi vars tab s.u s.xy st s.guard s.block).map λr=>(r.1,r.2==1) else qw3 vars tab st t l
theorem vwk(n:Nat):(madeCells (Value.int .u8 0).cells (n*1)).toList=(List.replicate n (0:Int)).map (Value.int .u8):=by rw[show(Value.int .u8 0).cells=#[Value.int .u8 0] from rfl,toList_madeCells_one,Jb,List.map_replicate]
theorem zw8(w:World)(M n:Nat)(hM:w.cell? ⟨M,5,none⟩=some (.int .i64 n))(hn:n<=1000000):Calls prog 54 #[.pointer (some ⟨M,0,none⟩)] w λe w'=>∃v,e=.returned v/\w'.ownsRow w.heap.size 5 1 v n ((List.replicate n (0:Int)).map<|Value.int .u8)/\oq w w':=by
 obtain⟨i0,hi,c,d,i⟩:=info_parts infoU8;obtain⟨w',h,a,b⟩:=run_makeSlice_full (P:=prog) (w:=w) w.heap.size 95 5 i0 _ 1 underlying95 hi c d .i64 .i64 n aj (by grind) iq<|jH;have f:=show w'.ownsRow w.heap.size 5 1 (.slice (some ⟨w.heap.size,0,none⟩) n n) n ((List.replicate n (0:Int)).map<|Value.int .u8) by rw[vwk]at a;omega
 go_wp2;go_ret;exact⟨_,rfl,f,(bR.grown b jH (λk g=>by cases g):oq w w')⟩
def kvh(i:Nat):ByteArray:=⟨#[(48+i).toUInt8]⟩
theorem qzq(i:Nat)(hi:i<10)(w:World):Calls prog 28 #[.int .i64 i] w λe w'=>e=.returned (.string (kvh i))/\w'=w:=by
 have h:i=0\/i=1\/i=2\/i=3\/i=4\/i=5\/i=6\/i=7\/i=8\/i=9:=aj;obtain rfl|rfl|rfl|rfl|rfl|rfl|rfl|rfl|rfl|rfl:=h;all_goals
  go_wp2;go_ret;exact⟨rfl,rfl⟩
theorem infoStr0:(prog.info? 9).map (λi=>(i.zero,i.size,i.bytes))=some (some (.string ⟨#[]⟩),1,16):=au
def kvx(n:Nat):List ByteArray:=(List.range n).map kvh
theorem pzn(k:Nat):kvx (k+1)=kvx k++[kvh k]:=by grind [kvx,List.range_succ]
theorem kx1(k:Nat):(kvx k).length=k:=by simp[kvx]
def xk1(w:World)(n:Nat)(x i:Value)(wr:World):Prop:=
 ∃(k:Nat)(la:Option Addr)(ll lc:Nat),k<=n/\i=.int .i64 k/\x=.slice la ll lc/\wr.ownsRow w.heap.size 9 1 (.slice la ll lc) k ((kvx k).map Value.string)/\oq w wr
theorem qvr(n:Nat)(hn:n<=10)(w:World):Calls prog 167 #[.int .i64 n] w λe w'=>∃v,e=.returned v/\w'.ownsRow w.heap.size 9 1 v n ((kvx n).map Value.string)/\oq w w':=by
 have s:=show xk1 w n (.slice none 0 0) (.int .i64 0) w from⟨0,none,0,0,jR,rfl,rfl,jE,bR⟩
 go_in;go_wp21;go_loopw [3,4,6] (λx _ i wr=>xk1 w n x i wr) (λ_ _ i _=>n-(intOf i).toNat);exact s;obtain⟨k,la,ll,lc,y,rfl,rfl,c,b⟩:=hrel;have m:=b.size;by_cases t:k<n
 ·have d:k<10:=by omega
  have h:=qzq k d wr;have q:=oz<|pzn k;generalize kvh k=u at *;go_wp2_with (first
   |(go_at_call 28;refine h.mono ?_;rintro e A ⟨rfl,rfl⟩)
   |(at_builtin;refine apO (c.alloc _) ?_))
  intro z w' f a _ l;obtain⟨a3,p,c3,rfl⟩:=qh f;have j:=show w'.ownsRow w.heap.size 9 1 (.slice a3 p c3) (k+1) ((kvx<|k+1).map Value.string) by grind [ku]
  have g:=(b.alloc m _).grown a ah<|jo c;clear l;go_wp2
  exact rdM ⟨k+1,a3,p,c3,aj,eu,rfl,j,g⟩
 ·have:k=n:=by omega
  subst this;go_wp2;go_ret;exact⟨_,rfl,c,b⟩
def xk3(w W:World)(l:List Tok)(x i:Value)(wr:World):Prop:=
 ∃(k:Nat)(la:Option Addr)(ll lc:Nat),k<=l.length/\i=.int .i64 k/\x=.slice la ll lc/\wr.ownsRow W.heap.size 9 1 (.slice la ll lc) k ((l.take k).map<|λt=>Value.string t.x)/\oq W wr
theorem zwn{h9:List Tok}(nm:Tok)(hM:w.ownsRow lo 107 2 (.slice ma mn mc) h9.length (kjq h9))(O:h9.length<=1000):Calls prog 168 #[.agg #[.string nm.x,.int .i64 nm.v,.slice ma mn mc]] w λe w'=>∃v,e=.returned v/\w'.ownsRow w.heap.size 9 1 v h9.length (h9.map<|λt=>Value.string t.x)/\oq w w':=by
 obtain⟨W,y⟩:=cpy<|w.alloc (.cells #[.string nm.x,.int .i64 nm.v,.slice ma mn mc] 114);have m:oq w W:=by rw[y];exact jZ w
 have s:w.heap.size<W.heap.size:=by simp_all
 obtain⟨xa,cap,c,(I:Hid _)⟩:=qp<|qj hM m;injection c with c K L;subst c;subst K;subst L;have H:=show xk3 w W h9 (.slice none 0 0) (.int .i64 0) W from⟨0,none,0,0,jR,rfl,rfl,jE,bR⟩
 have B:=oz y.symm;clear y;go_in;go_wp21;rw[ku B];go_loopw [3,5,9] (λx _ i wr=>xk3 w W h9 x i wr) (λ_ _ i _=>h9.length-(intOf i).toNat);exact H;obtain⟨k,la,ll,lc,N,rfl,rfl,f,d⟩:=hrel;have F:=d.size;by_cases q:k<h9.length
 ·obtain⟨g,rfl,M,E,D⟩:=ku I k q;have u:=λj (z:j<2)=>kqo kzy 2 (λ_=>rfl) h9 k j q z
  have cc:∀j,j<h9.length*2->wr.cell? ⟨g,j,none⟩=(kjq h9)[j]?:=λj z=>(d.cell (p:=⟨g,j,none⟩) E).trans<|D j z
  have J:=(cc (k*2+0) aj).trans<|u 0 aj;have c:=(cc (k*2+1) aj).trans<|u 1 aj;simp only[kzy,sW,sU,Qk]at J c;have h:=oz (by grind [List.take_succ_eq_append_getElem]:(h9.take<|k+1).map (λt=>Value.string t.x)=(h9.take k).map (λt=>Value.string t.x)++[.string h9[k].x]);generalize h9[k]=t at *;clear cc u D;go_wp2_with (at_builtin;refine apO ((f.alloc _).alloc _) ?_)
  intro P w' A l _ C;obtain⟨a3,G,c3,rfl⟩:=qh A;have b:=show w'.ownsRow W.heap.size 9 1 (.slice a3 G c3) (k+1) ((h9.take<|k+1).map<|λt=>Value.string t.x) by rw[ku h,ZY];omega
  have a:=((d.alloc F _).alloc ah _).grown l ah<|jo f;clear C;go_wp2
  exact rdM ⟨k+1,a3,G,c3,aj,eu,rfl,b,a⟩
 ·have:k=h9.length:=by omega
  subst this;rw[Qc]at f;have b:=qo (Qr s) f;have a:=m.trans<|d.mono (Qr s);go_wp2
  go_ret;exact⟨_,rfl,b,a⟩
def kkq:List PSet->List UInt8->Option Nat
 |[],_=>none
 |x::l,s=>if x.y.x.toList==s then some 0 else (kkq l s).map (·+1)
def kji(l:List PSet)(s:List UInt8):Int:=match kkq l s with|some k=>k|none=>-1
theorem zkw:∀(l:List PSet)(k:Nat)(s:List UInt8),(∀i (hi:i<l.length),i<k->(l[i].y.x.toList==s)=false)->k<=l.length->kkq l s=(kkq (l.drop k) s).map (·+k)
 |[],k,s,_,b=>by simp_all
 |x::l,0,s,_,_=>ay
 |x::l,k+1,s,h,b=>by have a:=h 0 ay aj;simp only[JU]at a;have:=zkw l k s (λi hi b=>by grind) (by simp_all);rw[kkq,a,Xj,Xy ay,this,Option.map_map];rfl
theorem jyy(H:w.ownsRow lo 111 4 (.slice ma M nb) i1.length (jx2 i1))(b:w.heap[R]?=some (.cells #[.string d9.x,.int .i64 d9.v] 107 (0,0)))(K:i1.length<=1000):Calls prog 169 #[.slice ma M nb,.func (.func 170) #[] #[.pointer (some ⟨R,0,none⟩)]] w λe w'=>e=.returned (.int .i64<|kji i1 d9.x.toList)/\oq w w':=by
 obtain⟨N,O,c,(E:Hid _)⟩:=qp H;injection c with c u v;subst c;subst u;subst v;have D:=oz b;have B:=wQ b;clear b;go_in
 go_wp21;go_loopw [5,8] (λ_ i wr=>∃k:Nat,k<=i1.length/\i=.int .i64 k/\(∀i (hi:i<i1.length),i<k->(i1[i].y.x.toList==d9.x.toList)=false)/\oq w wr) (λ_ i _=>i1.length-(intOf i).toNat)
 ·grind [Below.refl]
 obtain⟨k,G,rfl,(m:Hid _),a⟩:=hrel;have s:=a.size;have L:=kj6<|(a.block R B).trans D;have I:R<wr.heap.size:=aj;by_cases f:k<i1.length
 ·obtain⟨g,rfl,J,C,b⟩:=ku E k f;have d:=λj (x:j<4)=>kqo zjw 4 (λ_=>rfl) i1 k j f x
  have cc:∀j,j<i1.length*4->wr.cell? ⟨g,j,none⟩=(jx2 i1)[j]?:=λj x=>(a.cell (p:=⟨g,j,none⟩) C).trans<|b j x
  have F:=(cc (k*4+0) aj).trans<|d 0 aj;have c:=(cc (k*4+1) aj).trans<|d 1 aj;have u:=(cc (k*4+2) aj).trans<|d 2 aj;have v:=(cc (k*4+3) aj).trans<|d 3 aj;simp only[zjw,sW,sU,Qk]at F c u v;have q:=oz<|zkw i1 k d9.x.toList m G;rw[rU f,kkq]at q;have A:=oz (λ(y:(i1[k].y.x.toList==d9.x.toList)=false)=>(show ∀i (hi:i<i1.length),i<k+1->(i1[i].y.x.toList==d9.x.toList)=false from λi hi h=>by grind [ku]))
  generalize i1[k]=p at *;clear cc d b;cases y:(p.y.x.toList==d9.x.toList)
  ·have z:=oz<|A y;go_wp2
   exact rdM ⟨k+1,aj,eu,z,a.alloc s _⟩
  ·have t:=oz (by rw[kji,ku q,y];simp:kji i1 d9.x.toList=k);go_wp2;go_ret;exact⟨kqi t.symm,a.alloc s _⟩
 ·have l:=zkw i1 i1.length d9.x.toList (λi hi _=>m i hi aj)<|jH;rw[sK,kkq]at l;have t:=oz (by rw[kji,l];rfl:kji i1 d9.x.toList=-1);clear l;go_wp2
  go_ret;exact⟨kqi t.symm,a⟩
theorem qxu(n:Tok)(a1 a2 a3 a4:Option Addr)(n1 n2 n3 n4:Nat)(c1 c2 c3 c4:Nat)(j:w.ownsRow lo 111 4 (.slice a0 n0 c0) i1.length (jx2 i1))(i:i1.length<=1000):Calls prog 99 #[.agg #[.slice a0 n0 c0,.slice a1 n1 c1,.slice a2 n2 c2,.slice a3 n3 c3,.slice a4 n4 c4],ptV n] w λe w'=>e=.returned (.int .i64<|kji i1 n.x.toList)/\oq w w':=by
 obtain⟨W,b⟩:=cpy<|(w.alloc<|.cells #[.slice a0 n0 c0,.slice a1 n1 c1,.slice a2 n2 c2,.slice a3 n3 c3,.slice a4 n4 c4] 68).alloc (.cells #[.string n.x,.int .i64 n.v] 107);have a:oq w W:=by rw[b];exact(jZ w).trans ((jZ _).mono ay)
 have hN:W.heap[w.heap.size+1]?=some (.cells #[.string n.x,.int .i64 n.v] 107 (0,0)):=by grind [qy,World.size_alloc]
 have h:=jyy (qj j a) hN i;have g:w.heap.size<=W.heap.size:=a.size;have d:=oz b.symm;clear hN b;generalize kji i1 n.x.toList=y at *;unfold ptV;go_in;go_wp21;rw[ku d];refine h.mono ?_;rintro e k ⟨rfl,f⟩;have c:=a.trans<|f.mono g;go_wp2
 go_ret;exact⟨rfl,c⟩
theorem qwx(a1 a2 a3 a4:Option Addr)(n1 n2 n3 n4:Nat)(c1 c2 c3 c4:Nat)(x:w.ownsRow lo 111 4 (.slice a0 n0 c0) i1.length (jx2 i1))(C:i1.length<=1000)(v:kkq i1 i.x.toList=some k)(y:i1[k]?=some i2):Calls prog 97 #[.agg #[.slice a0 n0 c0,.slice a1 n1 c1,.slice a2 n2 c2,.slice a3 n3 c3,.slice a4 n4 c4],ptV i] w λe w'=>e=.returned (.int .i64<|mg i2.size.x)/\oq w w':=by
 obtain⟨j,h⟩:=rY.1 y;obtain⟨W,d⟩:=cpy<|(w.alloc<|.cells #[.slice a0 n0 c0,.slice a1 n1 c1,.slice a2 n2 c2,.slice a3 n3 c3,.slice a4 n4 c4] 68).alloc (.cells #[.string i.x,.int .i64 i.v] 107);have c:oq w W:=jD;have F:w.heap.size+1<W.heap.size:=by simp_all
 have q:Hid (W.heap[w.heap.size]?=some (.cells #[.slice a0 n0 c0,.slice a1 n1 c1,.slice a2 n2 c2,.slice a3 n3 c3,.slice a4 n4 c4] 68 (0,0))):=by rw[d];exact zy<|qy
 have hN:W.heap[w.heap.size+1]?=some (.cells #[.string i.x,.int .i64 i.v] 107 (0,0)):=by grind [qy,World.size_alloc]
 have f:=qxu i a1 a2 a3 a4 n1 n2 n3 n4 c1 c2 c3 c4 (qj x c.drew) C;rw[show kji i1 i.x.toList=(k:Int) by rw[kji,v]]at f;obtain⟨L,M,l,b⟩:=qp<|qj x c;injection l with l A B;subst l;subst A;subst B;obtain⟨g,rfl,D,u,t⟩:=b k j;have d0:=(t (k*4+2) aj).trans (kqo zjw 4 (λ_=>rfl) i1 k 2 j aj);simp only[zjw,sW,sU]at d0;rw[h]at d0;have H:=jl q;have G:=kj6 hN;obtain⟨z,s⟩:=ju hN d.symm;have E:g<W.heap.size:=u;clear b t hN d y h v;unfold ptV at *;go_in
 go_upto_region 1 with fail
 rw[ku s];go_region_held3 (λw'=>w'.cell? ⟨w.heap.size,0,none⟩=some (.slice (some ⟨g,0,none⟩) i1.length c0)/\w'.cell? ⟨w.heap.size,1,none⟩=some (.slice a1 n1 c1)/\w'.cell? ⟨w.heap.size,2,none⟩=some (.slice a2 n2 c2)/\w'.cell? ⟨w.heap.size,3,none⟩=some (.slice a3 n3 c3)/\w'.cell? ⟨w.heap.size,4,none⟩=some (.slice a4 n4 c4)/\w'.cell? ⟨w.heap.size+1,0,none⟩=some (.string i.x)/\w'.cell? ⟨w.heap.size+1,1,none⟩=some (.int .i64 i.v)/\w'.cell? ⟨g,k*4+2,none⟩=some (.int .i64<|mg i2.size.x))
  (first|simp_all|simp_all)
  ((go_at_call 99;refine f.mono ?_;rintro e K ⟨rfl,a⟩;have I:=jl ((a.block w.heap.size (by show w.heap.size<W.heap.size;omega)).trans q);have J:=kj6 ((a.block (w.heap.size+1)<|by simp_all).trans z);have z0:=(a.cell (p:=⟨g,k*4+2,none⟩)<|by simp_all).trans d0;have m:=c.drew.trans (a.mono (by show w.heap.size<=W.heap.size;omega)) ;dsimp only))
 go_wp2;go_ret;exact⟨rfl,m⟩
theorem qxf(w:World)(f t:Int)(ta:Nat)(n:Tok)(a0 a1 a2 a3 a4:Option Addr)(n0 n1 n2 n3 n4 c0 c1 c2 c3 c4:Nat)(k:Nat)(u:k<=10)(c:(f==0&&k==2)=true\/(f==0)=false/\(f==1)=true/\t+1=k):Calls prog 98 #[.agg #[.slice a0 n0 c0,.slice a1 n1 c1,.slice a2 n2 c2,.slice a3 n3 c3,.slice a4 n4 c4],.agg #[.int .i64 f,.int .i64 t,.int .i64 ta,.string n.x,.int .i64 n.v]] w λe w'=>∃v,e=.returned v/\w'.ownsRow w.heap.size 9 1 v k ((kvx k).map Value.string)/\oq w w':=by
 obtain⟨W,i⟩:=cpy<|(w.alloc<|.cells #[.slice a0 n0 c0,.slice a1 n1 c1,.slice a2 n2 c2,.slice a3 n3 c3,.slice a4 n4 c4] 68).alloc (.cells #[.int .i64 f,.int .i64 t,.int .i64 ta,.string n.x,.int .i64 n.v] 119);have b:oq w W:=by rw[i];exact(jZ w).trans ((jZ _).mono ay)
 have l:=qvr k u W;have a:=b.size;have d:=oz i.symm;clear i;obtain c|⟨q,h1,y⟩:=c
 ·rw[rG]at c;obtain⟨q,s⟩:=c;have m:k=2:=by simp_all
  subst m;clear s;go_in;go_wp21;rw[ku d];refine l.mono ?_;rintro e x ⟨v,rfl,j,hb⟩;have h:=qo a j;have g:=b.trans<|hb.mono a;go_wp2
  go_ret;exact⟨_,rfl,h,g⟩
 ·have p:t=(k:Int)-1:=by omega
  subst p;go_in;go_wp21;rw[ku d];refine l.mono ?_;rintro e x ⟨v,rfl,j,hb⟩;have h:=qo a j;have g:=b.trans<|hb.mono a;go_wp2
  go_ret;exact⟨_,rfl,h,g⟩
def kwe:List PKind->List UInt8->Option PKind
 |[],_=>none
 |x::l,s=>if x.y.x.toList==s then some x else kwe l s
theorem zq3:∀(l:List PKind)(k:Nat)(s:List UInt8),(∀i (hi:i<l.length),i<k->(l[i].y.x.toList==s)=false)->kwe l s=kwe (l.drop k) s
 |[],k,s,_=>ay
 |x::l,0,s,_=>rfl
 |x::l,k+1,s,h=>by have a:=h 0 ay aj;simp only[JU]at a;rw[kwe,a,Xj];exact zq3 l k s (λi hi b=>by grind)
theorem zwp(t:Int)(ta:Nat)(a0:Option Addr)(a2 a3 a4:Option Addr)(n0:Nat)(n2 n3 n4 c0:Nat)(c2 c3 c4:Nat)(ho:w.ownsRow lo 114 3 (.slice a1 n1 c1) ks.length xs)(Q:kvp lo w ks xs)(hl:ks.length<=1000)(s:∀x∈ks,x.i.length<=1000)(h0:(f==0)=false)(h1:(f==1)=false){i3:PKind}(q:kwe ks d9.x.toList=some i3):Calls prog 98 #[.agg #[.slice a0 n0 c0,.slice a1 n1 c1,.slice a2 n2 c2,.slice a3 n3 c3,.slice a4 n4 c4],.agg #[.int .i64 f,.int .i64 t,.int .i64 ta,.string d9.x,.int .i64 d9.v]] w λe w'=>∃v,e=.returned v/\w'.ownsRow w.heap.size 9 1 v i3.i.length (i3.i.map<|λt=>Value.string t.x)/\oq w w':=by
 obtain⟨W,u⟩:=cpy<|(w.alloc<|.cells #[.slice a0 n0 c0,.slice a1 n1 c1,.slice a2 n2 c2,.slice a3 n3 c3,.slice a4 n4 c4] 68).alloc (.cells #[.int .i64 f,.int .i64 t,.int .i64 ta,.string d9.x,.int .i64 d9.v] 119);have c:oq w W:=oQ;have S:w.heap.size+1<W.heap.size:=by simp_all
 have L:W.heap[w.heap.size+1]?=some (.cells #[.int .i64 f,.int .i64 t,.int .i64 ta,.string d9.x,.int .i64 d9.v] 119 (0,0)):=by grind [qy,World.size_alloc]
 obtain⟨ya,yc,m,(X:Hid _)⟩:=qp<|qj ho c;injection m with m K Y;subst m;subst K;subst Y;have C:=show kvp lo W ks xs from Q.stay λk _ P=>c.block k P
 obtain⟨V,J,B,D⟩:=jb L u.symm q s;clear L u q s;go_in;go_wp21;rw[ku J];go_loopw [6,22] (λ_ i wr=>∃k:Nat,k<=ks.length/\i=.int .i64 k/\(∀i (hi:i<ks.length),i<k->(ks[i].y.x.toList==d9.x.toList)=false)/\oq W wr) (λ_ i _=>ks.length-(intOf i).toNat)
 ·grind [Below.refl]
 obtain⟨k,P,rfl,(F:Hid _),b⟩:=hrel;have l:=b.size;have m0:=jl<|(b.block (w.heap.size+1) S).trans V;have a5:w.heap.size+1<wr.heap.size:=aj;have d:k<ks.length:=by grind [zq3,ku,List.drop_length,kwe]
 obtain⟨g,rfl,a6,O,N⟩:=ku X k d;obtain⟨ma,mn,mc,T,s1,U,y⟩:=jjh k d C;have cc:∀j,j<ks.length*3->wr.cell? ⟨g,j,none⟩=xs[j]?:=λj Z=>(b.cell (p:=⟨g,j,none⟩) O).trans<|N j Z
 have e0:=(cc (k*3) aj).trans T;have m:=(cc (k*3+1) aj).trans s1;have K:=(cc (k*3+2) aj).trans U;have a:=(zq3 ks k d9.x.toList F).symm.trans B;rw[rU d,kwe]at a;have I:=oz (λ(z:(ks[k].y.x.toList==d9.x.toList)=false)=>(show ∀i (hi:i<ks.length),i<k+1->(ks[i].y.x.toList==d9.x.toList)=false from λi hi h=>by grind [ku]))
 have E:=zwn (w:=wr.alloc<|.cells #[.string ks[k].y.x,.int .i64 ks[k].y.v,.slice ma mn mc] 114) ks[k].y (qj y<|b.alloc l _) (D _<|wZ _);generalize ks[k]=p at *;clear cc N T s1 U;cases z:(p.y.x.toList==d9.x.toList)
 ·have H:=oz<|I z;clear a;go_wp2
  exact rdM ⟨k+1,aj,eu,H,b.alloc l _⟩
 ·rw[z,lJ rfl]at a;injection a with a;subst a;go_wp21
  refine E.mono ?_;rintro e w2 ⟨v,rfl,R,M⟩;have G:=oz (qo ah R:w2.ownsRow w.heap.size 9 1 v _ _);have A:=c.trans<|((b.alloc l _).mono aj).trans (M.mono ah);go_wp2
  go_ret;exact⟨_,rfl,G,A⟩
theorem zyh(t:Int)(ta:Nat)(a2 a3 a4:Option Addr)(n2 n3 n4:Nat)(c2 c3 c4:Nat)(ho:w.ownsRow lo 114 3 (.slice a1 n1 c1) ks.length xs)(a8:kvp lo w ks xs)(hl:ks.length<=1000)(aD:w.ownsRow lo 111 4 (.slice a0 n0 c0) i1.length (jx2 i1))(aC:i1.length<=1000)(z:kkq i1 d9.x.toList=some R)(H:i1[R]?=some i2)(hm:mg i2.size.x=M)(J:M<=10)(h0:(f==0)=false)(h1:(f==1)=false)(F:kwe ks d9.x.toList=none):Calls prog 98 #[.agg #[.slice a0 n0 c0,.slice a1 n1 c1,.slice a2 n2 c2,.slice a3 n3 c3,.slice a4 n4 c4],.agg #[.int .i64 f,.int .i64 t,.int .i64 ta,.string d9.x,.int .i64 d9.v]] w λe w'=>∃v,e=.returned v/\w'.ownsRow w.heap.size 9 1 v (M+1) (Value.string ⟨#[45]⟩::(kvx M).map Value.string)/\oq w w':=by
 obtain⟨W,u⟩:=cpy<|(w.alloc<|.cells #[.slice a0 n0 c0,.slice a1 n1 c1,.slice a2 n2 c2,.slice a3 n3 c3,.slice a4 n4 c4] 68).alloc (.cells #[.int .i64 f,.int .i64 t,.int .i64 ta,.string d9.x,.int .i64 d9.v] 119);have b:oq w W:=oQ;have aB:w.heap.size+1<W.heap.size:=by simp_all
 have Z:W.heap[w.heap.size+1]?=some (.cells #[.int .i64 f,.int .i64 t,.int .i64 ta,.string d9.x,.int .i64 d9.v] 119 (0,0)):=by grind [qy,World.size_alloc]
 obtain⟨ya,yc,s,(HW:Hid _)⟩:=qp<|qj ho b;injection s with s Y e3;subst s;subst Y;subst e3;have P:=show kvp lo W ks xs from a8.stay λk _ hk=>b.block k hk
 obtain⟨HS,X,O⟩:=jp Z u.symm F;have HD:Hid (W.heap[w.heap.size]?=some (.cells #[.slice a0 n0 c0,.slice a1 ks.length c1,.slice a2 n2 c2,.slice a3 n3 c3,.slice a4 n4 c4] 68 (0,0))):=by rw[u];exact zy<|qy
 have E:=oz (λ(wx:World)(hb:oq w wx)=>qwx a1 a2 a3 a4 ks.length n2 n3 n4 c1 c2 c3 c4 (qj aD hb) aC z H);rw[hm]at E;obtain⟨i0,hi,aF,aG,aH⟩:=info_parts infoStr0;clear Z u F H z;go_in;go_wp21;rw[ku X];go_loopw [6,22] (λ_ i wr=>∃k:Nat,k<=ks.length/\i=.int .i64 k/\(∀i (hi:i<ks.length),i<k->(ks[i].y.x.toList==d9.x.toList)=false)/\oq W wr) (λ_ i _=>ks.length-(intOf i).toNat)
 ·grind [Below.refl]
 obtain⟨k,hk,rfl,(Q:Hid _),a⟩:=hrel;have aE:=a.size;have m0:=jl<|(a.block (w.heap.size+1) aB).trans HS;have aJ:w.heap.size+1<wr.heap.size:=aj;by_cases m:k<ks.length
 ·obtain⟨g,rfl,aK,a7,hc⟩:=ku HW k m;obtain⟨ma,mn,mc,s0,s1,s2,aI⟩:=jjh k m P;have cc:∀R,R<ks.length*3->wr.cell? ⟨g,R,none⟩=xs[R]?:=λR z=>(a.cell (p:=⟨g,R,none⟩) a7).trans (hc R z)
  have e0:=(cc (k*3) aj).trans s0;have s:=(cc (k*3+1) aj).trans s1;have Y:=(cc (k*3+2) aj).trans s2;have G:=(zq3 ks k d9.x.toList Q).symm.trans O;rw[rU m,kwe]at G;have V:=oz (λ(hq:(ks[k].y.x.toList==d9.x.toList)=false)=>(show ∀i (hi:i<ks.length),i<k+1->(ks[i].y.x.toList==d9.x.toList)=false from λi hi h=>by grind [ku]))
  have a9:(ks[k].y.x.toList==d9.x.toList)=false:=by grind
  have U:=oz<|V a9;generalize ks[k]=p at *;clear cc hc s0 s1 s2 G;go_wp2
  exact rdM ⟨k+1,aj,eu,U,a.alloc aE _⟩
 ·have q0:=jl<|(a.block w.heap.size aj).trans HD;have aM:w.heap.size<wr.heap.size:=aj;have B:oq w wr:=b.trans<|a.mono aj;have c:=E (wr.alloc<|.cells #[.string ⟨#[45]⟩] 9)<|B.alloc aj _;unfold ptV at c;go_wp21
  refine c.mono ?_;rintro e w2 ⟨rfl,d⟩;have aA:=d.size;have q:=qj (⟨rfl,.inr ⟨wr.heap.size,1,_,rfl,aj,qy,jH,iq,rfl,rfl⟩⟩:(wr.alloc<|.cells #[.string ⟨#[45]⟩] 9).ownsRow w.heap.size 9 1 (.slice (some ⟨wr.heap.size,0,none⟩) 1 1) 1 [.string ⟨#[45]⟩]) d;have K:=(B.alloc aj _).trans<|d.mono ah;have S:=qvr M J w2;simp at aA;go_wp21
  refine S.mono ?_;rintro e w3 ⟨v3,rfl,D,j⟩;have aL:=j.size;obtain⟨a5,l5,c5,rfl⟩:=qh D;have C:=qj q j;have L:=K.trans<|j.mono aj;go_wp2_with (at_builtin;refine kqv rfl 22 rfl w.heap.size 9 i0 _ 1 16 underlying22 hi aF aG aH rfl ak (.slice (some ⟨wr.heap.size,0,none⟩) 1 1) 1 _ rfl C (.slice a5 l5 c5) M _ _ rfl D (by intro y hy;obtain⟨x,_,rfl⟩:=tY.1 hy;rfl) iq aj aj ?_)
  intro v4 w4 A l I;obtain⟨a6,l6,c6,rfl⟩:=qh A;have T:=show w4.ownsRow w.heap.size 9 1 (.slice a6 l6 c6) (M+1) (Value.string ⟨#[45]⟩::(kvx M).map Value.string) by grind
  have N:=L.grown l aj<|jo C;clear I;go_wp2
  go_ret;exact⟨_,rfl,T,N⟩
end Go.Proofs.YtpmcnonmkghokaaGreatDoor

import Derived.Test.YtpmcnonmkghokaaGreatDoorT03
import Derived.Deep.CutRange
import Derived.Lib.SliceRun
import Derived.Laws.OwnMore
import Derived.Test.YtpmcnonmkghokaaGreatDoorT01
set_option maxRecDepth 100000
set_option maxHeartbeats 8000000
set_option linter.unusedVariables false
set_option linter.unusedSimpArgs false
namespace Go.Proofs.YtpmcnonmkghokaaGreatDoor
open Go.Proofs.Tryz Go.RowKit
attribute [local simp] kzy zjw kjs
attribute [local go_sem ↓] Go.wp_at_zero Go.wp_at_succ
variable {cs':Array Value}{b7:Bool}{f z:Int}{r:Int×Bool}{ms st:List Int}{g0:List Int×Bool}{vars:List MVar}{ks:List PKind}{l:List PP}{h8:List PSet}{cs xs:List Value}{α:Type}{items:List α}{B M R b c0 c1 cap e g k lo mc mn n n0 n1 nb pc pn sc size sn so xo:Nat}{fr:Nat×Nat}{a0 a1 ma p pa sa:Option Addr}{g1 no:Option Nat}{g3:PB}{h9:PSet}{b4 c x:PX}{t t0:Tab}{b8 i:Tok}{b2:TypeId}{ps sv v x0 x1 x2 x3 y0 y1 y2 y3 y4 y5:Value}{W a w w' wr:World}{tab:kq3}
def bE:ByteArray:=⟨#[]⟩
def gS(t:Tab)(s:PSet):Tab:=kyw t s.y ⟨1,0,bE,kv3⟩
def gM(kn:ByteArray)(t:Tab)(m:Tok):Tab:=kyw t m ⟨3,0,kn,kv3⟩
def gK(t:Tab)(k:PKind):Tab:=k.i.foldl (gM k.y.x) (kyw t k.y ⟨2,0,bE,kv3⟩)
def gV(t:Tab)(v:VrT):Tab:=kyw t v.y ⟨4,0,bE,v⟩
def gR(t:Tab)(r:PRule):Tab:=kyw t r.y ⟨5,0,bE,kv3⟩
def gN(t:Tab)(r:PRule):Tab:=kyw t r.y ⟨6,0,bE,kv3⟩
def gt1(m:MdL):Tab:=m.j.foldl gS []
def gt2(m:MdL):Tab:=m.p.foldl gK (gt1 m)
def gt3(m:MdL):Tab:=m.z.foldl gV (gt2 m)
def gt4(m:MdL):Tab:=m.l.foldl gR (gt3 m)
def qm(m:MdL):Tab:=m.q.foldl gN (gt4 m)
structure MdSz (m:MdL):Prop where
 j:∀s∈m.j,s.y.x.size<=1000
 p:∀k∈m.p,k.y.x.size<=1000/\∀x∈k.i,x.x.size<=1000
 z:∀v∈m.z,v.y.x.size<=1000
 l:∀r∈m.l,r.y.x.size<=1000
 q:∀r∈m.q,r.y.x.size<=1000
def ky9{α:Type}(W:World)(b:Nat)(g:Tab->α->Tab)(items:List α)(t0:Tab)(i:Value)(wr:World):Prop:=
 ∃(k:Nat)(t:Tab),k<=items.length/\i=i_ k/\(items.drop k).foldl g t=items.foldl g t0/\ky3 t/\kj5 wr b t/\Kept b W wr
theorem ky9.start{g:Tab->α->Tab}(f:ky3 t)(d:kj5 wr b t)(e:Kept b W wr):ky9 W b g items t (i_ 0) wr:=
 ⟨0,t,jG,rfl,rfl,f,d,e⟩
theorem ky9.Y{g:Tab->α->Tab}(e:k<items.length)(h:(items.drop k).foldl g t=items.foldl g t0)(f:ky3 (g t items[k]))(d:kj5 wr b (g t items[k]))(i:Kept b W wr):ky9 W b g items t0 (i_<|(k:Int)+1) wr:=by refine⟨k+1,_,e,eu,?_,f,d,i⟩;grind [List.drop_eq_getElem_cons]
theorem qxe{g:Tab->α->Tab}(d:¬k<items.length)(h:(items.drop k).foldl g t=items.foldl g t0):t=items.foldl g t0:=by grind [List.drop_of_length_le]
theorem qkm(n:Tok)(r:Int)(kn:ByteArray)(h:kj5 w b t)(f:ky3 t)(d:n.x.size<=1000):og 156 #[.map (some b),.agg #[.string n.x,i_ n.v],.agg #[i_ r,i_ 0,.string kn,e_,i_ 0,.bool false,e_,i_ 0,i_ 0,i_ 0,i_ 0,e_,i_ 0]] w λe w'=>rT e (.tuple #[])/\kj5 w' b (kyw t n ⟨r,0,kn,kv3⟩)/\Kept b w w':=
 vxz n ⟨r,0,kn,kv3⟩ h f d
theorem pyn(n:Tok)(r:Int)(x:VrT)(h:kj5 w b t)(f:ky3 t)(d:n.x.size<=1000):og 156 #[.map (some b),.agg #[.string n.x,i_ n.v],.agg #[i_ r,i_ 0,e_,.string x.y.x,i_ x.y.v,.bool x.K,.string x.g.x,i_ x.g.v,i_ x.si.I,i_<|mg x.si.R.x,i_ x.si.R.v,.string x.si.y.x,i_ x.si.y.v]] w λe w'=>rT e (.tuple #[])/\kj5 w' b (kyw t n ⟨r,0,bE,x⟩)/\Kept b w w':=
 vxz n ⟨r,0,bE,x⟩ h f d
theorem vwn{a9:MdL}(h:kwm lo w x0 x1 x2 x3 sv a9)(aA:MdOk a9)(L:MdSz a9):Calls prog 92 #[.agg #[x0,x1,x2,x3,sv]] w λe w'=>∃b,rT e (.map<|some b)/\kj5 w' b (qm a9)/\ky3 (qm a9)/\w.heap.size<=b/\oq w w':=by
 have⟨h0,⟨c1,h1,aR⟩,h2,⟨c3,h3,aS⟩,⟨c4,h4,aT⟩⟩:=h;have⟨aL,aM,aN,aO,aP,aB,aC⟩:=aA;have aA:MdOk a9:=⟨aL,aM,aN,aO,aP,aB,aC⟩;obtain⟨W,hW⟩:∃W,W=(w.alloc<|.cells #[x0,x1,x2,x3,sv] 68).alloc (.map #[] 0):=⟨_,rfl⟩;have Z:oq w W:=by rw[hW];exact(jZ w).trans ((jZ _).mono ay)
 have bF:W.heap.size=w.heap.size+2:=by simp_all
 obtain⟨b,hB⟩:∃b,b=w.heap.size+1:=⟨_,rfl⟩;have⟨bA,Q⟩:=jS hW.symm (by rw[hW];exact zy (qy):Rw W w.heap.size #[x0,x1,x2,x3,sv] 68);have aV:=show kj5 W b [] by rw[hW,hB];have:=qy (w:=w.alloc<|.cells #[x0,x1,x2,x3,sv] 68) (o:=.map #[] 0);simp only[tV]at this;exact⟨⟨#[],0,this,rfl⟩,Jd,λx hx=>by simp_all⟩
 have vw:∀{e size:Nat}{v:Value}{n:Nat}{xs:List Value},w.ownsRow lo e size v n xs->∃a cap,v=.slice a n cap/\∀i,i<n->∃g,a=some (Ad g 0)/\lo<=g/\g<w.heap.size/\∀j,j<n*size->W.cell? (Ad g j)=xs[j]?:=by intro e size v n xs h;have⟨a,cap,N,hv⟩:=qp h;refine⟨a,cap,N,λi hi=>?_⟩;have⟨g,q1,q2,q3,q4⟩:=hv i hi;exact⟨g,q1,q2,q3,λj hj=>(Z.cell (p:=⟨g,j,none⟩) q3).trans<|q4 j hj⟩
 obtain⟨a0,bL,rfl,(b5:Hid _)⟩:=vw h0;obtain⟨a1,bM,rfl,(b6:Hid _)⟩:=vw h1;obtain⟨a2,bN,rfl,(b7:Hid _)⟩:=vw h2;obtain⟨a3,bO,rfl,(b8:Hid _)⟩:=vw h3;obtain⟨a4,bP,rfl,(b9:Hid _)⟩:=vw h4;have aQ:=oz hB;have bQ:w.heap.size<b:=aj;have bS:b<W.heap.size:=aj;clear vw bF hB hW aB aC;have aW:=show ky9 W b gS a9.j [] (i_ 0) W from ky9.start (λx hx=>by simp_all) aV<|Kept.refl _ _
 have bC:∀W:World,(Instr.makeMap 202 none).run prog W=.ok (.map<|some W.heap.size) (W.alloc<|.map #[] 0):=λW=>rfl
 go_in;go_wp21;clear bC;rw[ku bA,<-ku aQ];go_loopw [5,20] (λ_ i wr=>ky9 W b gS a9.j [] i wr) (λ_ i _=>a9.j.length-(intOf i).toNat);exact aW;obtain⟨k,t,hk,rfl,(y:Hid _),l,m,f⟩:=hrel;have Y:=f.size;by_cases d:k<a9.j.length
 ·obtain⟨g,rfl,V,X,s⟩:=ku b5 k d;have q:g≠b:=aj;have e:=jyd s (λ_=>rfl) d f q;have z:=oz (λ(w':World) (K:ky3 (gS t<|a9.j[k])) (I:kj5 w' b (gS t<|a9.j[k])) (M:Kept b W w')=>ky9.Y (W:=W) (wr:=w') (g:=gS) (items:=a9.j) (t0:=[]) d y K I M);have u:=L.j _<|wZ d;generalize a9.j[k]=p at e z u;clear s;go_wp21
  refine zM (qkm p.y 1 ⟨#[]⟩ (m.kept<|jZ _) l u) ?_;rintro P ⟨h1,C⟩;have H:=z _ (qzk l ay) h1<|(f.alloc _).trans C;clear e;go_wp2
  exact rdM H
 ·have D:=qxe d y;rw[D]at m l;have A:=f.e (b:=w.heap.size) aj Q;have qx:=jl A;have aX:=show ky9 W b gK a9.p (gt1 a9) (i_ 0) wr from ky9.start l m f
  clear D A;go_wp21;go_loopw [7,9,33] (λ_ _ i wr=>ky9 W b gK a9.p (gt1 a9) i wr) (λ_ _ i _=>a9.p.length-(intOf i).toNat);exact aX;obtain⟨k,t,hk,rfl,(y:Hid _),l,m,f⟩:=hrel;have Y:=f.size;by_cases d:k<a9.p.length
  ·obtain⟨g,rfl,V,X,s⟩:=ku b6 k d;have q:g≠b:=aj;have⟨ma,mn,mc,E,F,G,HM⟩:=jjh k d aR;have e0:=f.cell (a:=⟨g,k*3,none⟩) q<|(s (k*3) aj).trans E;have N:=f.cell (a:=⟨g,k*3+1,none⟩) q<|(s (k*3+1) aj).trans F;have S:=f.cell (a:=⟨g,k*3+2,none⟩) q<|(s (k*3+2) aj).trans G;have z:=oz (λ(w':World) (K:ky3 (gK t<|a9.p[k])) (I:kj5 w' b (gK t<|a9.p[k])) (M:Kept b W w')=>ky9.Y (W:=W) (wr:=w') (g:=gK) (items:=a9.p) (t0:=(gt1 a9)) d y K I M);have u:=L.p _<|wZ d;have bD:=aA.i _<|wZ d;generalize a9.p[k]=p at e0 N S z u HM bD;clear s E F G;go_wp21
   refine zM (qkm p.y 2 ⟨#[]⟩ (m.kept<|jZ _) l u.1) ?_;rintro P ⟨h1,C⟩;have a7:=oz<|C.e (b:=wr.heap.size) aj (qy);have aE:=(f.alloc _).trans C;have bU:=wQ a7;have b4:=qzk (t:=t) l (n:=p.y) (e:=⟨2,0,bE,kv3⟩) ay;have g2:=row3 a7;obtain⟨mb,bJ,aK,(aU:Hid _)⟩:=qp HM;injection aK with q1 q2 q3;subst q1;subst q2;subst q3;have b3:=show ky9 P b (gM p.y.x) p.i (kyw t p.y ⟨2,0,bE,kv3⟩) (i_ 0) P from ky9.start b4 h1<|Kept.refl _ _
   clear e0 N S;go_wp21;go_loopw [9,45] (λ_ i wr=>ky9 P b (gM p.y.x) p.i (kyw t p.y ⟨2,0,bE,kv3⟩) i wr) (λ_ i _=>p.i.length-(intOf i).toNat);exact b3;obtain⟨k5,t5,bT,rfl,(a5:Hid _),O,U,R⟩:=hrel;have bH:=R.size;by_cases J:k5<p.i.length
   ·obtain⟨g5,rfl,bG,aI,aG⟩:=ku aU k5 J;have aJ:g5≠b:=aj;have e:=jyd (λj hj=>(Z.cell (p:=⟨g5,j,none⟩) aI).trans<|aG j hj) (λ_=>rfl) J (aE.trans R) aJ;have aD:=R.e aj a7;have v0:=row3 aD;have bI:=wQ aD;have a8:=u.2 _<|wZ J;have a6:=oz (λ(w':World) (K:ky3 (gM p.y.x t5<|p.i[k5])) (I:kj5 w' b (gM p.y.x t5<|p.i[k5])) (M:Kept b P w')=>ky9.Y (W:=P) (wr:=w') (g:=gM p.y.x) (items:=p.i) (t0:=kyw t p.y ⟨2,0,bE,kv3⟩) J a5 K I M);generalize p.i[k5]=y5 at e a6 a8;clear aG aD;go_wp21
    refine zM (qkm y5 3 p.y.x (U.kept<|jZ _) O a8) ?_;rintro w6 ⟨h6,bB⟩;have H:=a6 _ (qzk O ay) h6<|(R.alloc _).trans bB;go_wp2
    exact rdM H
   ·have aH:=qxe J a5;rw[aH]at U O;have H:=z _ O U<|aE.trans R;clear aH;go_wp2
    exact rdM H
  ·have D:=qxe d y;rw[D]at m l;have A:=f.e (b:=w.heap.size) aj Q;have qx:=jl A;have aY:=show ky9 W b gV a9.z (gt2 a9) (i_ 0) wr from ky9.start l m f
   clear D A;go_wp21;go_loopw [11,61] (λ_ i wr=>ky9 W b gV a9.z (gt2 a9) i wr) (λ_ i _=>a9.z.length-(intOf i).toNat);exact aY;obtain⟨k,t,hk,rfl,(y:Hid _),l,m,f⟩:=hrel;have Y:=f.size;by_cases d:k<a9.z.length
   ·obtain⟨g,rfl,V,X,s⟩:=ku b7 k d;have q:g≠b:=aj;have e:=jyd s (λ_=>rfl) d f q;have z:=oz (λ(w':World) (K:ky3 (gV t<|a9.z[k])) (I:kj5 w' b (gV t<|a9.z[k])) (M:Kept b W w')=>ky9.Y (W:=W) (wr:=w') (g:=gV) (items:=a9.z) (t0:=(gt2 a9)) d y K I M);have u:=L.z _<|wZ d;generalize a9.z[k]=p at e z u;clear s;go_wp21
    refine zM (pyn p.y 4 p (m.kept<|jZ _) l u) ?_;rintro P ⟨h1,C⟩;have H:=z _ (qzk l ay) h1<|(f.alloc _).trans C;clear e;go_wp2
    exact rdM H
   ·have D:=qxe d y;rw[D]at m l;have A:=f.e (b:=w.heap.size) aj Q;have qx:=jl A;have aZ:=show ky9 W b gR a9.l (gt3 a9) (i_ 0) wr from ky9.start l m f
    clear D A;go_wp21;go_loopw [13,75] (λ_ i wr=>ky9 W b gR a9.l (gt3 a9) i wr) (λ_ i _=>a9.l.length-(intOf i).toNat);exact aZ;obtain⟨k,t,hk,rfl,(y:Hid _),l,m,f⟩:=hrel;have Y:=f.size;by_cases d:k<a9.l.length
    ·obtain⟨g,rfl,V,X,s⟩:=ku b8 k d;have q:g≠b:=aj;have⟨pa,pn,pc,gp,ba,bn,bc,bK,⟨E,F,G,T,aF⟩,_⟩:=vjd k d aS;have e0:=f.cell (a:=⟨g,k*5,none⟩) q<|(s (k*5) aj).trans E;have N:=f.cell (a:=⟨g,k*5+1,none⟩) q<|(s (k*5+1) aj).trans F;have S:=f.cell (a:=⟨g,k*5+2,none⟩) q<|(s (k*5+2) aj).trans G;have e3:=f.cell (a:=⟨g,k*5+3,none⟩) q<|(s (k*5+3) aj).trans T;have e4:=f.cell (a:=⟨g,k*5+4,none⟩) q<|(s (k*5+4) aj).trans aF;have z:=oz (λ(w':World) (K:ky3 (gR t<|a9.l[k])) (I:kj5 w' b (gR t<|a9.l[k])) (M:Kept b W w')=>ky9.Y (W:=W) (wr:=w') (g:=gR) (items:=a9.l) (t0:=(gt3 a9)) d y K I M);have u:=L.l _<|wZ d;generalize a9.l[k]=p at e0 N S e3 e4 z u;clear s E F G T aF;go_wp21
     refine zM (qkm p.y 5 ⟨#[]⟩ (m.kept<|jZ _) l u) ?_;rintro P ⟨h1,C⟩;have H:=z _ (qzk l ay) h1<|(f.alloc _).trans C;clear e0 N S e3 e4;go_wp2
     exact rdM H
    ·have D:=qxe d y;rw[D]at m l;have A:=f.e (b:=w.heap.size) aj Q;have qx:=jl A;have b2:=show ky9 W b gN a9.q (gt4 a9) (i_ 0) wr from ky9.start l m f
     clear D A;go_wp21;go_loopw [15,88] (λ_ i wr=>ky9 W b gN a9.q (gt4 a9) i wr) (λ_ i _=>a9.q.length-(intOf i).toNat);exact b2;obtain⟨k,t,hk,rfl,(y:Hid _),l,m,f⟩:=hrel;have Y:=f.size;by_cases d:k<a9.q.length
     ·obtain⟨g,rfl,V,X,s⟩:=ku b9 k d;have q:g≠b:=aj;have⟨pa,pn,pc,gp,⟨E,F,G,T⟩,_⟩:=vz0 k d aT;have e0:=f.cell (a:=⟨g,k*4,none⟩) q<|(s (k*4) aj).trans E;have N:=f.cell (a:=⟨g,k*4+1,none⟩) q<|(s (k*4+1) aj).trans F;have S:=f.cell (a:=⟨g,k*4+2,none⟩) q<|(s (k*4+2) aj).trans G;have e3:=f.cell (a:=⟨g,k*4+3,none⟩) q<|(s (k*4+3) aj).trans T;have z:=oz (λ(w':World) (K:ky3 (gN t<|a9.q[k])) (I:kj5 w' b (gN t<|a9.q[k])) (M:Kept b W w')=>ky9.Y (W:=W) (wr:=w') (g:=gN) (items:=a9.q) (t0:=(gt4 a9)) d y K I M);have u:=L.q _<|wZ d;generalize a9.q[k]=p at e0 N S e3 z u;clear s E F G T;go_wp21
      refine zM (qkm p.y 6 ⟨#[]⟩ (m.kept<|jZ _) l u) ?_;rintro P ⟨h1,C⟩;have H:=z _ (qzk l ay) h1<|(f.alloc _).trans C;clear e0 N S e3;go_wp2
      exact rdM H
     ·have D:=qxe d y;rw[D]at m l;have A:=f.e (b:=w.heap.size) aj Q;clear D A;go_wp2;go_ret;refine⟨b,rfl,m,l,aj,Z.trans<|Kept.toBelow (B:=w.heap.size) f aj aj⟩
structure Nm (w:World)(B b:Nat)(tab:Tab)(ps:Value)(z:Int):Prop where
 nm:w.heap[B]?=some (.cells #[.map (some b),ps,.bool<|decide (0<=z),i_ (fAt z)] 296 (0,0))
 C:kj5 w b tab
 ne:b≠B
theorem Nm.below(h:Nm w B b t ps z)(hb:oq w w'):Nm w' B b t ps z:=
 ⟨by rw[hb.block B (wQ h.nm)];exact h.nm,h.C.kept hb,h.ne⟩
theorem Nm.alloc(h:Nm w B b t ps z)(o:Obj):Nm (w.alloc o) B b t ps z:=h.below<|jZ _
theorem Nm.drew(h:Nm w B b t ps z):Nm w.drew B b t ps z:=h.below<|bR.drew
theorem Nm.note(h:Nm w B b t ps z)(e:0<=f):Nm (qx0 w B 2 z f) B b t ps (xu z f):=by
 refine⟨?_,?_,h.ne⟩
 ·rw[zwq z f e];unfold qx0;by_cases d:z<0\/f<z
  ·rw[lJ d,lJ d,show decide (0<=f)=true by simp_all,show fAt f=f by unfold fAt;omega];exact jD B 3 _ _ _<|jD B 2 _ _ _ h.nm
  ·rw[Xy d,Xy d];exact h.nm
 ·unfold qx0;split
  ·exact(h.C.other (by simpa using h.ne) _).other (by simpa using h.ne) _
  ·exact h.C
theorem Nm.cells(h:Nm w B b t ps z):w.cell? ⟨B,0,none⟩=some (.map<|some b)/\w.cell? ⟨B,1,none⟩=some ps/\w.cell? ⟨B,2,none⟩=some (.bool<|decide (0<=z))/\w.cell? ⟨B,3,none⟩=some (.int .i64<|fAt z)/\w.frozen? ⟨B,1,none⟩=false/\w.frozen? ⟨B,2,none⟩=false/\w.frozen? ⟨B,3,none⟩=false:=by have a:=kz3 h.nm;simp_all
def kjo(c:Bool)(z:Int)(n:Tok):Int:=if c then xu z n.v else z
def kk3(tab:Tab)(n:Tok):Bool:=!((zl tab n.x.toList).N==n.v)
theorem qjd(n:Tok)(h:Nm w B b t ps z)(j:n.x.size<=1000):Calls prog 157 #[pT B,ptV n] w λe w'=>rT e (.tuple #[])/\Nm w' B b t ps (kjo (kk3 t n) z n)/\Kept B w w':=by
 have d:=h.alloc<|.cells #[.string n.x,i_ n.v] 107;have⟨c0,c1,c2,c3,f1,f2,f3⟩:=d.cells;have m:=kvb d.drew.C j;have l:=vwo<|zl t n.x.toList;have E:=oz (show kjo (kk3 t n) z n=if !((zl t n.x.toList).N==n.v) then xu z n.v else z from rfl);generalize zl t n.x.toList=q at *;unfold ptV;go_wp2
 go_region
 cases i:(q.N != (n.v:Int))
 ·have f:(!(q.N==(n.v:Int)))=false:=i;rw[f]at E;go_wp2;go_end0;rw[ku E];exact⟨rfl,d.drew,(Kept.kqe _).drew⟩
 ·have f:(!(q.N==(n.v:Int)))=true:=i;rw[f]at E;have g:=note_any (w:=(w.alloc<|.cells #[.string n.x,i_ n.v] 107).drew.drew) n.v c2 c3 f2 f3;go_wp2;go_region_law ((go_simp;go_at_call 212;refine zM g λp k=>?_;dsimp only))
  all_goals
   subst k;go_wp2;go_end0;rw[ku E];exact⟨rfl,(d.drew.drew).note aj,((Kept.kqe _).drew.drew).trans<|Kept.note _ _ _ _ _⟩
def zzd(tab:Tab)(n:Tok):Bool:=!((zl tab n.x.toList).V==1)
theorem jwg(n:Tok)(h:Nm w B b t ps z)(j:n.x.size<=1000):Calls prog 213 #[pT B,ptV n] w λe w'=>rT e (.tuple #[])/\Nm w' B b t ps (kjo (zzd t n) z n)/\Kept B w w':=by
 have d:=h.alloc<|.cells #[.string n.x,i_ n.v] 107;have⟨c0,c1,c2,c3,f1,f2,f3⟩:=d.cells;have m:=kvb d.drew.C j;have l:=kw6<|zl t n.x.toList;have E:=oz (show kjo (zzd t n) z n=if !((zl t n.x.toList).V==1) then xu z n.v else z from rfl);generalize zl t n.x.toList=q at *;unfold ptV;go_wp2
 go_region
 cases i:(q.V != 1)
 ·have f:(!(q.V==1))=false:=i;rw[f]at E;go_wp2;go_end0;rw[ku E];exact⟨rfl,d.drew,(Kept.kqe _).drew⟩
 ·have f:(!(q.V==1))=true:=i;rw[f]at E;have g:=note_any (w:=(w.alloc<|.cells #[.string n.x,i_ n.v] 107).drew.drew) n.v c2 c3 f2 f3;go_wp2;go_region_law ((go_simp;go_at_call 212;refine zM g λp k=>?_;dsimp only))
  all_goals
   subst k;go_wp2;go_end0;rw[ku E];exact⟨rfl,(d.drew.drew).note aj,((Kept.kqe _).drew.drew).trans<|Kept.note _ _ _ _ _⟩
def vv5(tab:Tab)(n:Tok):Bool:=!((zl tab n.x.toList).V==2)&&zzd tab n
theorem pq2(n:Tok)(h:Nm w B b t ps z)(k:n.x.size<=1000):Calls prog 214 #[pT B,ptV n] w λe w'=>rT e (.tuple #[])/\Nm w' B b t ps (kjo (vv5 t n) z n)/\Kept B w w':=by
 have d:=h.alloc<|.cells #[.string n.x,i_ n.v] 107;have⟨c0,c1,c2,c3,f1,f2,f3⟩:=d.cells;have p:=kvb d.drew.C k;have m:=kw6<|zl t n.x.toList;have E:=oz (show vv5 t n=(!((zl t n.x.toList).V==2)&&zzd t n) from rfl);have i:=jwg n d.drew k;generalize zl t n.x.toList=q at *;unfold ptV at *;go_wp2
 go_region
 cases j:(q.V != 2)
 ·have f:(!(q.V==2))=false:=j;rw[f]at E;go_wp2;go_end0;rw[ku E];exact⟨rfl,d.drew,(Kept.kqe _).drew⟩
 ·have f:(!(q.V==2))=true:=j;rw[f,QZ]at E;go_wp21;refine zM i ?_;rintro s ⟨l,g⟩;go_wp2;go_end0;rw[ku E];exact⟨rfl,l,((Kept.kqe _).drew).trans g⟩
def xjz(tab:Tab)(z:Int)(x:VrT):Int:=
 if x.si.I==2 then kjo (vv5 tab x.si.y) (kjo (x.K&&zzd tab x.g) z x.g) x.si.y else kjo (x.K&&zzd tab x.g) z x.g
theorem vqw(x:VrT)(h:Nm w B b t ps z)(p:x.g.x.size<=1000)(g:x.si.y.x.size<=1000):Calls prog 158 #[pT B,vrV x] w λe w'=>rT e (.tuple #[])/\Nm w' B b t ps (xjz t z x)/\Kept B w w':=by
 have s:=wQ h.nm;have E:=oz (show xjz t z x=if x.si.I==2 then kjo (vv5 t x.si.y) (kjo (x.K&&zzd t x.g) z x.g) x.si.y else kjo (x.K&&zzd t x.g) z x.g from rfl);unfold vrV kjs;go_in;cases j:x.K
 ·rw[j,QJ,show kjo false z x.g=z from rfl]at E;cases f:(x.si.I==2)
  ·rw[f]at E;go_wp2;go_end0;rw[ku E];exact⟨rfl,h.alloc _,Kept.kqe _⟩
  ·rw[f]at E;go_wp21;refine zM (pq2 x.si.y (h.alloc _) g) ?_;rintro q ⟨h1,d⟩;go_wp2;go_end0;rw[ku E];exact⟨rfl,h1,(Kept.kqe _).trans d⟩
 ·rw[j,QZ]at E;go_wp21;refine zM (jwg x.g (h.alloc _) p) ?_;rintro q ⟨l,d⟩;have hv:=d.e (b:=w.heap.size) aj<|qy;have g5:=kju hv;have i:=(Kept.kqe _).trans d;clear hv;cases f:(x.si.I==2)
  ·rw[f]at E;go_wp2;go_end0;grind [ku]
  ·rw[f]at E;go_wp21;refine zM (pq2 x.si.y l g) ?_;rintro u ⟨m,k⟩;go_wp2;go_end0;rw[ku E];exact⟨rfl,m,i.trans k⟩
theorem kjv{P:Program}{f:Func}{p j:Tmp}{ty:TypeId}(h:f.results=#[.cell p ty,.tmp j])(e:Array Value)(w:World)(g:Nat)(t:TypeId)(cs:Array Value)(fr:Nat×Nat)(d:TypeDesc)(m:e.getD p undef=pT g)(l:w.heap[g]?=some (.cells cs t fr))(hu:P.underlying ty=some d)(k:(match d with|.struct _|.array _ _=>true|_=>false)=true)(hi:(P.info? ty).map (·.size)=some cs.size):(results f e).run P w=.ok (.tuple #[.agg cs,e.getD j undef]) w:=by
 have i:e[p]?.getD undef=pT g:=by simp_all
 simp[results,h,i,asAddr,run_loadVar_row w g t ty cs fr d l hu k hi]
def fpP:List PP->List UInt8->PP
 |[],_=>⟨zh,zh⟩
 |p::l,s=>if p.y.x.toList==s then p else fpP l s
def fpB(l:List PP)(s:List UInt8):Bool:=l.any (λp=>p.y.x.toList==s)
theorem zxw:∀(l:List PP)(k:Nat)(s:List UInt8),(∀i (hi:i<l.length),i<k->(l[i].y.x.toList==s)=false)->fpP l s=fpP (l.drop k) s/\fpB l s=fpB (l.drop k) s
 |[],k,s,_=>ay
 |p::l,0,s,_=>⟨rfl,rfl⟩
 |p::l,k+1,s,h=>by have d:=h 0 ay aj;simp only[JU]at d;have⟨a,b⟩:=zxw l k s (λi hi e=>by grind);grind [fpP,fpB]
theorem kvm(n:Tok)(N:w.ownsRow lo 352 4 sv l.length (uq l))(U:l.length<=1000):Calls prog 215 #[sv,ptV n] w λe w'=>rT e (.tuple #[paV (fpP l n.x.toList),.bool (fpB l n.x.toList)])/\oq w w':=by
 obtain⟨xa,cap,rfl,(M:Hid _)⟩:=qp N;have⟨W,x⟩:=cpy<|(w.alloc<|.cells #[.string n.x,i_ n.v] 107).alloc (.cells #[e_,i_ 0,e_,i_ 0] 352);have q:oq w W:=by rw[x];exact(jZ w).trans ((jZ _).mono ay)
 have R:w.heap.size+1<W.heap.size:=by simp_all
 have E:=oz (by rw[x];exact zy (qy):Rw W w.heap.size #[.string n.x,i_ n.v] 107);have D:=oz (show W.heap[w.heap.size+1]?=some (.cells #[e_,i_ 0,e_,i_ 0] 352 (0,0)) by grind [qy,World.size_alloc])
 have G:=oz x.symm;clear x;unfold ptV;go_in;go_wp21;rw[ku G];go_loopw [7,10] (λ_ i wr=>∃k:Nat,k<=l.length/\i=i_ k/\(∀i (hi:i<l.length),i<k->(l[i].y.x.toList==n.x.toList)=false)/\oq W wr) (λ_ i _=>l.length-(intOf i).toNat)
 ·grind [Below.refl]
 obtain⟨k,T,rfl,(y:Hid _),f⟩:=hrel;have L:=f.size;have u:=(f.block w.heap.size aj).trans E;have d:=oz<|(f.block (w.heap.size+1) aj).trans D;have V:=kj6 u;have S:=kz3 d;have Q:=wQ u;have O:=wQ d;clear u;by_cases t:k<l.length
 ·obtain⟨g,rfl,P,K,J⟩:=ku M k t;have s:=λj (B:j<4)=>kqo kzn 4 (λ_=>rfl) l k j t B
  have cc:∀j,j<l.length*4->wr.cell? (Ad g j)=(uq l)[j]?:=λj B=>(f.cell (p:=⟨g,j,none⟩)<|by grind).trans<|(q.cell (p:=⟨g,j,none⟩) K).trans (J j B)
  have e0:=(cc (k*4+0) aj).trans<|s 0 aj;have H:=(cc (k*4+1) aj).trans<|s 1 aj;have I:=(cc (k*4+2) aj).trans<|s 2 aj;have e3:=(cc (k*4+3) aj).trans<|s 3 aj;simp only[kzn,sW,sU,Qk]at e0 H I e3;have m:=oz<|zxw l k n.x.toList y;rw[rU t]at m;have z:=oz (λ(C:(l[k].y.x.toList==n.x.toList)=false)=>(show ∀i (hi:i<l.length),i<k+1->(l[i].y.x.toList==n.x.toList)=false from λi hi h=>by grind [ku]))
  generalize l[k]=p at e0 H I e3 m z;clear cc s J;cases C:(p.y.x.toList==n.x.toList)
  ·have F:=oz<|z C;go_wp2
   exact rdM ⟨k+1,aj,eu,F,f.alloc L _⟩
  ·go_wp2;refine tK (v:=.tuple #[paV p,.bool true]) (kjv results215 _ _ (w.heap.size+1) _ _ _ _ rfl (zy<|zzc d) underlying352 rfl au) rfl ?_;rw[(ku m).1,(ku m).2];refine⟨by simp[fpP,fpB,C],?_⟩;exact((((q.trans<|f.mono aj).setCell ay _).setCell ay _ |>.setCell ay _).setCell ay _).alloc jQ _
 ·have A:=zxw l l.length n.x.toList (λi hi _=>y i hi aj);rw[sK]at A;have m:=oz A;clear A;go_wp2;refine tK (v:=.tuple #[paV ⟨zh,zh⟩,.bool false]) (kjv results215 _ _ (w.heap.size+1) _ _ _ _ rfl (zzc d) underlying352 rfl au) rfl ?_;rw[(ku m).1,(ku m).2];exact⟨rfl,(((q.trans<|f.mono aj).setCell ay _).setCell ay _ |>.setCell ay _).setCell ay _⟩
def pjo(tab:Tab)(l:List PP)(n:Tok):Bool:=(!fpB l n.x.toList&&!((zl tab n.x.toList).V==3))&&!((zl tab n.x.toList).V==4)
theorem jzx(h:Below B a w):Below B a (puts B [x0,x1,x2,x3] 0 w):=qzp jV _ _ h
theorem jxh(n:Tok)(h:Nm w B b t (.slice pa pn pc) z)(C:w.ownsRow lo 352 4 (.slice pa pn pc) l.length (uq l))(p:l.length<=1000)(I:n.x.size<=1000):Calls prog 243 #[pT B,ptV n] w λe w'=>rT e (.tuple #[])/\Nm w' B b t (.slice pa pn pc) (kjo (pjo t l n) z n)/\Kept B w w':=by
 have K:=wQ h.nm;have s:=h.alloc<|.cells #[.string n.x,i_ n.v] 107;have⟨c0,c1,c2,c3,f1,f2,f3⟩:=s.cells;have u:=kvm (w:=(w.alloc<|.cells #[.string n.x,i_ n.v] 107).drew) (lo:=lo) (l:=l) n (C.alloc _).drew p;have x:=kvm (w:=((w.alloc<|.cells #[.string n.x,i_ n.v] 107).alloc<|.cells #[e_,i_ 0,e_,i_ 0] 352).drew) (lo:=lo) (l:=l) n ((C.alloc _).alloc _).drew p;have⟨E,G⟩:=jS (show pjo t l n=((!fpB l n.x.toList&&!((zl t n.x.toList).V==3))&&!((zl t n.x.toList).V==4)) from rfl) (qy:Rw (w.alloc<|.cells #[.string n.x,i_ n.v] 107) w.heap.size #[.string n.x,i_ n.v] 107);have H:=oz (show(((w.alloc<|.cells #[.string n.x,i_ n.v] 107).alloc<|.cells #[e_,i_ 0,e_,i_ 0] 352).drew).heap[w.heap.size+1]?=some (.cells #[e_,i_ 0,e_,i_ 0] 352 (0,0)) by have:=qy (w:=w.alloc<|.cells #[.string n.x,i_ n.v] 107) (o:=.cells #[e_,i_ 0,e_,i_ 0] 352);simp only[tV]at this;exact this)
 unfold ptV at *;go_in;go_upto_region 1 with fail
 go_cut [5] from 7 to 15 (λv wx=>v=.bool (fpB l n.x.toList)/\Below (w.heap.size+1) (w.alloc<|.cells #[.string n.x,i_ n.v] 107) wx)
 case first=>
  go_region_law ((go_simp;go_at_call 215;(first|(refine zM u λF d=>?_)|(refine zM x λF d=>?_;have z0:=kz3 ((d.block _ ay).trans H:F.heap[w.heap.size+1]?=_)));dsimp only[paV]))
  all_goals
   go_wp21;go_meet
   refine⟨rfl,?_⟩;have D:=d.size;simp at D;first
   |exact((bR.drew.trans<|d.mono ay).alloc aj _)
   |exact jzx (((bR.alloc ay _).drew).trans<|d.mono ay)
 case rest=>
 obtain⟨rfl,f⟩:=hcut;have g:=s.below<|f.mono ay;have k:=(f.block w.heap.size aj).trans G;have L:=kj6 k;have p:=kvb g.drew.C I;have M:=kw6<|zl t n.x.toList;have⟨c0,c1,c2,c3,f1,f2,f3⟩:=g.cells;clear k;generalize zl t n.x.toList=q at *;generalize fpB l n.x.toList=r at *;go_wp2
 go_region
 cases r
 case true=>
  rw[show(!true)=false from rfl,QJ,QJ]at E;go_wp2;go_end0;rw[ku E];exact⟨rfl,g.drew,((Kept.kqe _).trans<|Kept.of_below (f.mono ay)).drew⟩
 case false=>
 rw[show(!false)=true from rfl,QZ]at E;cases A:(q.V != 3)
 case false=>
  have m:(!(q.V==3))=false:=A;rw[m,QJ]at E;go_wp2;go_end0;rw[ku E];exact⟨rfl,g.drew,((Kept.kqe _).trans<|Kept.of_below (f.mono ay)).drew⟩
 case true=>
 have m:(!(q.V==3))=true:=A;rw[m,QZ]at E;cases j:(q.V != 4)
 case false=>
  have i:(!(q.V==4))=false:=j;rw[i]at E;go_wp2;go_end0;rw[ku E];exact⟨rfl,g.drew,((Kept.kqe _).trans<|Kept.of_below (f.mono ay)).drew⟩
 case true=>
 have i:(!(q.V==4))=true:=j;rw[i]at E;have y:=note_any (w:=wc.drew.drew) (B:=B) (o:=2) (z:=z) n.v c2 c3 f2 f3;go_wp2;go_region_law ((go_simp;go_at_call 212;refine zM y λN J=>?_;dsimp only))
 all_goals
  subst J;go_wp2;go_end0;rw[ku E];exact⟨rfl,(g.drew.drew).note aj,(((Kept.kqe _).trans<|Kept.of_below (f.mono ay)).drew.drew).trans<|Kept.note _ _ _ _ _⟩
theorem kqt(h:w.ownsRow lo e size v n xs)(g:w.heap[B]?=some (.cells cs' b2 fr))(i:b2≠e)(d:Kept B w w'):w'.ownsRow lo e size v n xs:=
 h.kept (row:=some B) ⟨d.os,d.tape,d.output,d.size,λk h1 f=>d.block k h1<|λe=>f qG⟩ (.inr λe=>not_row h g i e.symm)
theorem XIs.nm(f:w.heap[B]?=some (.cells cs' b2 fr))(g:b2≠358)(d:Kept B w w'):∀{x:PX}{v:Value},XIs lo w x v->XIs lo w' x v
 |.nil,_,h=>h
 |.node _ _ _ _ _,_,⟨k,va,vb,e,hn,hh,ha,hb⟩=>⟨k,va,vb,e,hn,by rw[d.block k (wQ hh) (λe=>by simp_all)];exact hh,ha.nm f g d,hb.nm f g d⟩
def kyd(tab:Tab)(l:List PP)(z:Int)(n:Tok):Int:=kjo (pjo tab l n) z n
def kzu(n i:Tok):List Tok:=if i.t.toList==[] then [n] else [n,i]
def qw1(x:ELab):List Tok:=if x.op.toList==ng then kzu x.y x.c else []
def bf:PX->List Tok
 |.nil=>[]
 |.node _ _ x a b=>(qw1 x++bf a)++bf b
def pl5(n i:Tok):Value:=.agg #[.string n.x,i_ n.v,.bool (!(i.t.toList==[])),.string i.x,i_ i.v]
theorem jkx(n i:Tok)(h:Nm w B b t (.slice pa pn pc) z)(q:w.ownsRow lo 352 4 (.slice pa pn pc) l.length (uq l))(p:l.length<=1000)(s:∀y∈kzu n i,y.x.size<=1000):Calls prog 216 #[pT B,pl5 n i] w λe w'=>rT e (.tuple #[])/\Nm w' B b t (.slice pa pn pc) ((kzu n i).foldl (kyd t l) z)/\Kept B w w':=by
 have F:=wQ h.nm;have u:n.x.size<=1000:=s n (by unfold kzu;grind);have f:(i.t.toList==[])=false->i.x.size<=1000:=λe=>s i (by unfold kzu;simp_all)
 have E:=show(kzu n i).foldl (kyd t l) z=if i.t.toList==[] then kyd t l z n else kyd t l (kyd t l z n) i by unfold kzu;grind
 have j:=jxh n (h.alloc<|.cells #[.string n.x,i_ n.v,.bool<|!(i.t.toList==[]),.string i.x,i_ i.v] 332) (q.alloc _) p u;have A:=q.alloc<|.cells #[.string n.x,i_ n.v,.bool<|!(i.t.toList==[]),.string i.x,i_ i.v] 332;have x:=h.alloc<|.cells #[.string n.x,i_ n.v,.bool<|!(i.t.toList==[]),.string i.x,i_ i.v] 332;unfold pl5 ptV at *;generalize (i.t.toList==[])=c at *;go_in
 cases c
 ·have g:=f rfl;go_wp21;refine zM j ?_;rintro D ⟨h1,d⟩;have C:=jl<|d.e (b:=w.heap.size) aj (qy);have k:=jxh i h1 (kqt A x.nm ak d) p g;go_wp21
  refine zM k ?_;rintro G ⟨v,m⟩;go_wp2;go_end0;rw[E];exact⟨rfl,v,((Kept.kqe _).trans d).trans m⟩
 ·clear f;go_wp21;refine zM j ?_;rintro D ⟨h1,d⟩;have C:=jl<|d.e (b:=w.heap.size) aj (qy);go_wp2
  go_end0;rw[E];exact⟨rfl,h1,(Kept.kqe _).trans d⟩
theorem zkc(o:List UInt8):(opN o==4)=(o==ng):=by
 unfold opN;cases d:(o==ng)
 ·cases (o==nJ)
  ·cases (o==nZ)
   ·cases (o==mG)
    ·cases (o==mW)
     ·grind
     ·rfl
    ·rfl
   ·rfl
  ·rfl
 simp_all
def zqk(x:PX):Prop:=∀(w:World)(B b lo xo:Nat)(tab:Tab)(l:List PP)(pa:Option Addr)(pn pc:Nat)(z:Int)(v:Value),Nm w B b tab (.slice pa pn pc) z->w.ownsRow lo 352 4 (.slice pa pn pc) l.length (uq l)->l.length<=1000 ->
  XIs xo w x v->(∀y∈bf x,y.x.size<=1000) ->
  Calls prog 160 #[pT B,v] w λe w'=>rT e (.tuple #[])/\Nm w' B b tab (.slice pa pn pc) ((bf x).foldl (kyd tab l) z)/\Kept B w w'
theorem vw5(i j:Nat)(x:ELab)(I:zqk b4)(J:zqk c):zqk (.node i j x b4 c):=by
 intro w B b lo xo tab l pa pn pc z v h D T W M;obtain⟨k,va,vb,rfl,Z,u,O,P⟩:=W;have E:=show(bf<|.node i j x b4 c).foldl (kyd tab l) z=(bf c).foldl (kyd tab l) ((bf b4).foldl (kyd tab l)<|(qw1 x).foldl (kyd tab l) z) by grind [bf]
 have G:Hid (∀y∈bf b4,y.x.size<=1000):=λy A=>M y (by rw[bf];simp[A])
 have H:Hid (∀y∈bf c,y.x.size<=1000):=λy A=>M y (by rw[bf];simp[A])
 have X:∀y∈qw1 x,y.x.size<=1000:=λy A=>M y (by rw[bf];simp[A])
 have R:=u;have q0:=kki u;have q:=zkc x.op.toList;have p:k≠B:=λe=>by rw[e,h.nm]at R;simp_all
 have t:=λe:qw1 x=kzu x.y x.c=>jkx x.y x.c h D T (by simp_all)
 unfold pl5 at t;have C:=oz T;go_in;generalize opN x.op.toList=o at *;generalize (!(x.c.t.toList==[]))=d at *;cases Q:(o==4)
 ·rw[Q]at q;rw[show(qw1 x).foldl (kyd tab l) z=z by unfold qw1;simp_all]at E;clear q;go_wp21;refine zM (I w B b lo xo tab l pa pn pc z _ h D C O G) ?_;rintro N ⟨h1,f⟩;have r8:=kki<|f.e p u;go_wp21
  refine zM (J N B b lo xo tab l pa pn pc _ _ h1 (kqt D h.nm ak f) C (P.nm h.nm ak f) H) ?_;rintro U ⟨K,g⟩;go_wp2;go_end0;rw[E];exact⟨rfl,K,f.trans g⟩
 ·rw[Q]at q;have m:qw1 x=kzu x.y x.c:=by unfold qw1;simp_all
  rw[m]at E;have L:=t m;clear q m t;go_wp21;refine zM L ?_;rintro N ⟨s,f⟩;have r7:=kki<|f.e p u;have F:=kqt D h.nm ak f;go_wp21
  refine zM (I N B b lo xo tab l pa pn pc _ _ s F C (O.nm h.nm ak f) G) ?_;rintro U ⟨K,g⟩;have Y:=kki<|g.e p (f.e p u);go_wp21
  refine zM (J U B b lo xo tab l pa pn pc _ _ K (kqt F s.nm ak g) C ((P.nm h.nm ak f).nm s.nm ak g) H) ?_;rintro w3 ⟨V,S⟩;go_wp2;go_end0;rw[E];exact⟨rfl,V,(f.trans g).trans S⟩
theorem qjv:∀x:PX,zqk x
 |.nil=>λw B b lo xo tab l pa pn pc z v h f e d k=>by
  have g:v=.pointer none:=d;go_wp2;exact tK (results_none rfl _ _ _) rfl ⟨rfl,h,Kept.refl _ _⟩
 |.node i j x a c=>vw5 i j x (qjv a)<|qjv c
theorem BIs.nm(f:w.heap[B]?=some (.cells cs' b2 fr))(i:b2≠358)(d:b2≠334)(g:Kept B w w'):∀{b:PB}{xs:List Value},BIs lo no w b xs->BIs lo no w' b xs
 |.nil,_,h=>h
 |.node _ _ a .nil n,cs',⟨p,rest,e,hx,hn⟩=>⟨p,rest,e,hx.nm f i g,BIs.nm f i d g hn⟩
 |.node _ _ a (.node _ _ _ b2 e) n,cs',⟨p,ta,tn,tc,ea,en,ec,ct,ce,rest,e1,hx,⟨ht1,ht3,ht2⟩,⟨he1,he3,hee2⟩,hn⟩=>
  ⟨p,ta,tn,tc,ea,en,ec,ct,ce,rest,e1,hx.nm f i g,⟨kqt ht1 f d g,ht3,BIs.nm f i d g ht2⟩,⟨kqt he1 f d g,he3,BIs.nm f i d g hee2⟩,BIs.nm f i d g hn⟩
def pwu:PX->List Tok
 |.nil=>[zh]
 |.node _ _ x _ _=>kzu x.y x.c
theorem jqf:∀x:PX,∃n i:Tok,plC x=[.string n.x,i_ n.v,.bool (!(i.t.toList==[])),.string i.x,i_ i.v]/\pwu x=kzu n i
 |.nil=>⟨zh,zh,by rw[dh];rfl,by unfold kzu;rw[dh];rfl⟩
 |.node _ _ x _ _=>⟨x.y,x.c,rfl,rfl⟩
def je:PB->List Tok
 |.nil=>[]
 |.node _ _ a .nil n=>(pwu a.N++bf a.value)++je n
 |.node _ _ a (.node _ _ _ t e) n=>((bf a.A++je t)++je e)++je n
def ky6:PB->Prop
 |.nil=>True
 |.node _ _ a .nil n=>ky6 n
 |.node _ _ a (.node _ _ _ t e) n=>(ky6 t/\kqq t<=1000)/\(ky6 e/\kqq e<=1000)/\ky6 n
def kka(b:PB):Prop:=∀(w:World)(B bb lo so:Nat)(no:Option Nat)(tab:Tab)(l:List PP)(pa:Option Addr)(pn pc:Nat)(z:Int)(v:Value)(cs:List Value),Nm w B bb tab (.slice pa pn pc) z->w.ownsRow lo 352 4 (.slice pa pn pc) l.length (uq l)->l.length<=1000 ->
  w.ownsRow so 334 9 v (kqq b) cs->BIs so no w b cs->ky6 b->kqq b<=1000->(∀y∈je b,y.x.size<=1000) ->
  Calls prog 161 #[pT B,v] w λe w'=>rT e (.tuple #[])/\Nm w' B bb tab (.slice pa pn pc) ((je b).foldl (kyd tab l) z)/\Kept B w w'
def zz3:PB->Prop
 |.nil=>True
 |.node _ _ _ .nil n=>kka .nil/\zz3 n
 |.node _ _ _ (.node _ _ _ t e) n=>kka t/\kka e/\zz3 n
def xk2(w:World)(B bb so:Nat)(no:Option Nat)(tab:Tab)(l:List PP)(ps:Value)(fin:Int)(len:Nat)(cs:List Value)(i:Value)(wr:World):Prop:=
 ∃(k:Nat)(rest:PB)(a:Int),k+kqq rest=len/\i=i_ k/\BIs so no wr rest (cs.drop<|k*9)/\zz3 rest/\ky6 rest/\(∀y∈je rest,y.x.size<=1000)/\(je rest).foldl (kyd tab l) a=fin/\Nm wr B bb tab ps a/\Kept B w wr
theorem qjc{b5:List Value}(h:cs.drop (k*9)=xs++b5)(e:xs.length=9):cs.drop ((k+1)*9)=b5/\∀j,j<9->cs[k*9+j]?=xs[j]?:=by
 constructor
 ·grind [List.drop_drop,List.drop_left]
 ·intro j d;rw[<-J3,h,ZV aj]
theorem qx2{b:PB}(hI:zz3 b):kka b:=by
 intro w B bb lo so no tab l pa pn pc z v cs HN HO S hv aM h aX m;have aU:=wQ HN.nm;obtain⟨xa,cap,rfl,V⟩:=qp hv;have HW:=oz (show ∀i,i<kqq b->∃g,xa=some (Ad g 0)/\g≠B/\∀j,j<kqq b*9->w.cell? (Ad g j)=cs[j]? from λi hi=>by obtain⟨g,rfl,_,_,R⟩:=V i hi;exact⟨g,rfl,λe=>not_row hv HN.nm ak (by rw[<-e];rfl),R⟩)
 have HR:=show xk2 w B bb so no tab l (.slice pa pn pc) ((je b).foldl (kyd tab l) z) (kqq b) cs (i_ 0) w from⟨0,b,z,aj,rfl,by simp_all,hI,h,m,rfl,HN,Kept.refl _ _⟩
 have aT:=oz (aM.T:cs.length=kqq b*9);generalize (je b).foldl (kyd tab l) z=fin at *;generalize kqq b=len at *;clear V m;go_in;go_wp21;go_loopw [5,8] (λ_ i wr=>xk2 w B bb so no tab l (.slice pa pn pc) fin len cs i wr) (λ_ i _=>len-(intOf i).toNat);exact HR;obtain⟨k,rest,a0,x,rfl,F,q,h,m,(Q:Hid _),f,A⟩:=hrel;have T:=kqt HO HN.nm ak A;have aY:=A.size;have aV:=wQ f.nm;match rest,F,q,h,m,Q,x with
 |.nil,F,q,h,m,Q,x=>
  have aW:¬k<len:=oM;clear m x;go_wp2;go_end0;exact⟨rfl,by rw[<-ku Q];exact f,A⟩
 |.node _ _ la .nil nx,F,q,h,m,Q,x=>
  have⟨p,aS,hd,aL,aP⟩:=F;have a9:k<len:=oM;obtain⟨g,rfl,a6,R⟩:=ku HW k a9;have⟨n,i,N,O⟩:=jqf la.N;have⟨a5,M⟩:=qjc hd<|qzl;have cc:∀j,j<9->∀u,(stC false la (.pointer p) nS<|nS)[j]?=some u->Ce wr g (k*9+j) u:=λj hj u hu=>A.cell (a:=⟨g,k*9+j,none⟩) a6<|(R (k*9+j) aj).trans ((M j hj).trans hu)
  unfold stC at cc;rw[N]at cc;have e0:=cc 0 aj _ rfl;have e1:=cc 1 aj _ rfl;have e2:=cc 2 aj _ rfl;have e3:=cc 3 aj _ rfl;have e4:=cc 4 aj _ rfl;have e5:=cc 5 aj _ rfl;have e6:=cc 6 aj _ rfl;have e7:=cc 7 aj _ rfl;have e8:=cc 8 aj _ rfl;simp only[Qk]at e0;have aI:∀y∈kzu n i,y.x.size<=1000:=λy s=>m y (by rw[je,O];simp[s])
  have aK:Hid (∀y∈bf la.value,y.x.size<=1000):=λy s=>m y qZ
  have P:∀y∈je nx,y.x.size<=1000:=λy s=>m y qZ
  have a1:=oz (by rw[<-ku Q,je,O,Q5,Q5]:(je nx).foldl (kyd tab l) ((bf la.value).foldl (kyd tab l)<|(kzu n i).foldl (kyd tab l) a0)=fin);have Y:=show BIs so no wr nx (cs.drop<|(k+1)*9) by simp_all
  have aE:=jkx n i (f.alloc<|.cells #[.bool false,.string n.x,i_ n.v,.bool<|!(i.t.toList==[]),.string i.x,i_ i.v,.pointer p,nS,nS] 334) (T.alloc _) S aI;have C:=oz (⟨q.2,h,P⟩:zz3 nx/\ky6 nx/\∀y∈je nx,y.x.size<=1000);have aA:=q.1;have a8:k+1+kqq nx=len:=oM;clear cc R M a5 hd N O m aI P x;unfold pl5 at aE;generalize (!(i.t.toList==[]))=d at *;go_wp21;refine zM aE ?_;rintro w2 ⟨aC,U⟩;have aF:=oz<|U.e (b:=wr.heap.size) aj (qy);have r6:=kki aF;have aD:=kqt (T.alloc _) (f.alloc _).nm ak U;have Z:=qjv la.value w2 B bb lo so tab l pa pn pc _ _ aC aD S (XIs.nm (f.alloc _).nm ak U<|aL.below (jZ _)) aK;have aJ:=(Kept.kqe _).trans U;clear e0 e1 e2 e3 e4 e5 e6 e7 e8;go_wp21
  refine zM Z ?_;rintro w3 ⟨J,D⟩;have L:=oz<|D.e (b:=wr.heap.size) aj aF;have t7:=kki L;have K:=kqt aD aC.nm ak D;have G:=aJ.trans D;clear r6;go_wp21
  refine zM (aA w3 B bb lo so no tab l pa pn pc _ _ [] J K S jT rfl trivial (by simp[kqq])<|by simp[je]) ?_;rintro w4 ⟨a2,E⟩;have r4:=E.e (b:=wr.heap.size) aj L;have s8:=kki r4;have a4:=kqt K J.nm ak E;have H:=G.trans E;clear r4 t7;go_wp21;refine zM (aA w4 B bb lo so no tab l pa pn pc _ _ [] a2 a4 S jT rfl trivial (by simp[kqq])<|by simp[je]) ?_;rintro w5 ⟨a3,a7⟩;have I:=H.trans a7;clear s8;go_wp2;exact rdM ⟨k+1,nx,_,a8,eu,Y.nm f.nm ak ak I,C.1,C.2.1,C.2.2,a1,a3,A.trans I⟩
 |.node _ _ la (.node _ _ _ t e) nx,F,q,h,m,Q,x=>
  have⟨p,ta,tn,tc,ea,en,ec,ct,ce,aS,hd,hx,⟨aQ,_,aR⟩,⟨aN,_,aO⟩,aP⟩:=F;have a9:k<len:=oM;obtain⟨g,rfl,a6,R⟩:=ku HW k a9;have⟨n,i,N,O⟩:=jqf la.N;have⟨a5,M⟩:=qjc hd<|qzl;have cc:∀j,j<9->∀u,(stC true la (.pointer p) (.slice ta tn tc)<|.slice ea en ec)[j]?=some u->Ce wr g (k*9+j) u:=λj hj u hu=>A.cell (a:=⟨g,k*9+j,none⟩) a6<|(R (k*9+j) aj).trans ((M j hj).trans hu)
  unfold stC at cc;rw[N]at cc;have e0:=cc 0 aj _ rfl;have e1:=cc 1 aj _ rfl;have e2:=cc 2 aj _ rfl;have e3:=cc 3 aj _ rfl;have e4:=cc 4 aj _ rfl;have e5:=cc 5 aj _ rfl;have e6:=cc 6 aj _ rfl;have e7:=cc 7 aj _ rfl;have e8:=cc 8 aj _ rfl;simp only[Qk]at e0;have aG:∀y∈bf la.A,y.x.size<=1000:=λy s=>m y qZ
  have aB:∀y∈je t,y.x.size<=1000:=λy s=>m y qZ
  have aH:∀y∈je e,y.x.size<=1000:=λy s=>m y qZ
  have P:∀y∈je nx,y.x.size<=1000:=λy s=>m y qZ
  have a1:=oz (by rw[<-ku Q,je,Q5,Q5,Q5]:(je nx).foldl (kyd tab l) ((je e).foldl (kyd tab l)<|(je t).foldl (kyd tab l) ((bf la.A).foldl (kyd tab l) a0))=fin);have Y:=show BIs so no wr nx (cs.drop<|(k+1)*9) by simp_all
  have⟨X,W⟩:=jS (⟨aQ,aR,h.1.1,h.1.2,aB,q.1⟩:wr.ownsRow so 334 9 (.slice ta tn tc) (kqq t) ct/\BIs so no wr t ct/\ky6 t/\kqq t<=1000/\(∀y∈je t,y.x.size<=1000)/\kka t) (⟨aN,aO,h.2.1.1,h.2.1.2,aH,q.2.1⟩:wr.ownsRow so 334 9 (.slice ea en ec) (kqq e) ce/\BIs so no wr e ce/\ky6 e/\kqq e<=1000/\(∀y∈je e,y.x.size<=1000)/\kka e);have Z:=qjv la.A _ B bb lo so tab l pa pn pc a0 _ (f.alloc<|.cells #[.bool true,.string n.x,i_ n.v,.bool (!(i.t.toList==[])),.string i.x,i_ i.v,.pointer p,.slice ta tn tc,.slice ea en ec] 334) (T.alloc _) S (hx.below<|jZ _) aG;have C:=oz (⟨q.2.2,h.2.2,P⟩:zz3 nx/\ky6 nx/\∀y∈je nx,y.x.size<=1000);have a8:k+1+kqq nx=len:=oM;clear cc R M a5 hd N O m aG P x aB aH;generalize (!(i.t.toList==[]))=d at *;go_wp21;refine Z.mono ?_;rintro e' w3 ⟨rfl,J,D⟩;have L:=oz<|D.e (b:=wr.heap.size) aj (qy);have t7:=kki L;have K:=kqt (T.alloc _) (f.alloc _).nm ak D;have G:=(Kept.kqe _).trans D;clear e0 e1 e2 e3 e4 e5 e6 e7 e8;go_wp21
  refine(X.2.2.2.2.2 w3 B bb lo so no tab l pa pn pc _ _ ct J K S (kqt X.1 f.nm ak G) (X.2.1.nm f.nm ak ak G) X.2.2.1 X.2.2.2.1 X.2.2.2.2.1).mono ?_;rintro e' w4 ⟨rfl,a2,E⟩;have r4:=E.e (b:=wr.heap.size) aj L;have s8:=kki r4;have a4:=kqt K J.nm ak E;have H:=G.trans E;clear r4 t7;go_wp21;refine(W.2.2.2.2.2 w4 B bb lo so no tab l pa pn pc _ _ ce a2 a4 S (kqt W.1 f.nm ak H) (W.2.1.nm f.nm ak ak H) W.2.2.1 W.2.2.2.1 W.2.2.2.2.1).mono ?_;rintro e' w5 ⟨rfl,a3,a7⟩;have I:=H.trans a7;clear s8;go_wp2;exact rdM ⟨k+1,nx,_,a8,eu,Y.nm f.nm ak ak I,C.1,C.2.1,C.2.2,a1,a3,A.trans I⟩
theorem vw7:kka .nil:=qx2 trivial
theorem qz4:∀b:PB,zz3 b
 |.nil=>trivial
 |.node _ _ _ .nil n=>⟨vw7,qz4 n⟩
 |.node _ _ _ (.node _ _ _ t e) n=>⟨qx2<|qz4 t,qx2<|qz4 e,qz4 n⟩
theorem vw8(b:PB):kka b:=qx2<|qz4 b
theorem vk0{b6:Addr}{o:Obj}(h:w.cell? b6=some v)(d:b6.block<w.heap.size):(w.alloc o).cell? b6=some v:=((jZ w (o:=o)).cell d).trans h
def qw2:List PP->List UInt8->Nat
 |[],_=>0
 |p::l,s=>if p.y.x.toList==s then 0 else qw2 l s+1
theorem jvd:∀(l:List PP)(k:Nat)(s:List UInt8),k<=l.length->(∀i (hi:i<l.length),i<k->(l[i].y.x.toList==s)=false)->qw2 l s=k+qw2 (l.drop k) s
 |[],k,s,d,_=>by simp_all
 |p::l,0,s,_,_=>ay
 |p::l,k+1,s,d,h=>by have e:=h 0 ay aj;simp only[JU]at e;have:=jvd l k s (by simp_all) (λi hi d=>by grind);grind [qw2]
def jwy(vars:List MVar)(tab:kq3)(l:List PP)(ms st:List Int)(s:List UInt8):Option Int:=
 if fpB l s then (ms[qw2 l s]?).bind λm=>(small m).map (·+1)
 else if (kjw tab s).isVar then (vars[(kjw tab s).xx]?).bind λv=>(st[v.f]?).bind small
 else some (kjw tab s).xx
theorem zw2(h:Rn lo w R M nb vars tab l ms st sv b7)(hv:vars.length<=1000)(aT:l.length<=1000)(Y:b8.x.size<=1000)(L:jwy vars tab l ms st b8.x.toList=some z):Calls prog 256 #[pT R,ptV b8] w λe w'=>rT e (i_ z)/\oq w w':=by
 obtain⟨W,U⟩:=cpy<|w.alloc (.cells #[.string b8.x,i_ b8.v] 107);have s:oq w W:=by rw[U];exact jZ w
 have aU:w.heap.size<W.heap.size:=by simp_all
 have a5:=oz (by rw[U];exact qy:Rw W w.heap.size #[.string b8.x,i_ b8.v] 107);have a6:=h.below s;have aI:R<w.heap.size:=by obtain⟨⟨tx,pa,pn,pc,ma,mn,mc,hR,_,_⟩,_⟩:=h;grind
 obtain⟨⟨tx,pa,pn,pc,ma,mn,mc,(HR:Hid _),f,aC⟩,aR,aJ⟩:=h.below s;obtain⟨xa,cap,S,(HW:Hid _)⟩:=qp f;injection S with ea en ec;subst ea;subst en;subst ec;obtain⟨ya,yc,T,(a9:Hid _)⟩:=qp aC;injection T with ea en ec;subst ea;subst en;subst ec;obtain⟨za,zc,e3,(aA:Hid _)⟩:=qp aJ;subst e3;have aB:=oz U.symm;have E:=oz (show(if fpB l b8.x.toList then (ms[qw2 l b8.x.toList]?).bind λm=>(small m).map (·+1)
 else if (kjw tab b8.x.toList).isVar then (vars[(kjw tab b8.x.toList).xx]?).bind λv=>(st[v.f]?).bind small
 else some ((kjw tab b8.x.toList).xx:Int))=some z from L)
 have r2:Ce w R 2 (.slice pa l.length pc):=(s.cell (p:=⟨R,2,none⟩) aI).symm.trans (kzh HR).2.2.1;clear U L;unfold ptV;go_in;go_wp21;rw[ku aB];go_loopw [5,6,14] (λ_ _ i wr=>∃k:Nat,k<=l.length/\i=i_ k/\(∀i (hi:i<l.length),i<k->(l[i].y.x.toList==b8.x.toList)=false)/\oq W wr) (λ_ _ i _=>l.length-(intOf i).toNat)
 ·grind [Below.refl]
 obtain⟨k,hk,rfl,(F:Hid _),d⟩:=hrel;have aK:=d.size;have P:=(d.block w.heap.size aj).trans a5;obtain⟨m0,m1,_,_⟩:=kj6 P;obtain⟨r0,r1,r2,r3,r4,r5,_⟩:=kzh<|(d.block R aj).trans HR;have a2:=wQ P;have aD:R<wr.heap.size:=aj;clear P;by_cases D:k<l.length
 ·obtain⟨g,rfl,aF,N,K⟩:=ku HW k D;have G:=λj (hj:j<4)=>kqo kzn 4 (λ_=>rfl) l k j D hj
  have cc:∀j,j<l.length*4->wr.cell? (Ad g j)=(uq l)[j]?:=λj hj=>(d.cell (p:=⟨g,j,none⟩) N).trans<|K j hj
  have e0:=(cc (k*4+0) aj).trans<|G 0 aj;have S:=(cc (k*4+1) aj).trans<|G 1 aj;have T:=(cc (k*4+2) aj).trans<|G 2 aj;have e3:=(cc (k*4+3) aj).trans<|G 3 aj;simp only[kzn,sW,sU,Qk]at e0 S T e3;have HF:=oz<|jvd l k b8.x.toList hk F;rw[rU D]at HF;have f:=zxw l k b8.x.toList F;rw[rU D]at f;have HP:=oz f.2;have Z:=oz (λ(X:(l[k].y.x.toList==b8.x.toList)=false)=>(show ∀i (hi:i<l.length),i<k+1->(l[i].y.x.toList==b8.x.toList)=false from λi hi h=>by grind [ku]))
  generalize l[k]=p at e0 S T e3 HP Z HF;clear cc G K f;cases X:(p.y.x.toList==b8.x.toList)
  ·have a7:=oz<|Z X;go_wp2
   exact rdM ⟨k+1,aj,eu,a7,d.alloc aK _⟩
  ·have h1:=ku E;rw[ku HP,ku HF,show fpB (p::l.drop (k+1)) b8.x.toList=true by simp[fpB,X],show qw2 (p::l.drop (k+1)) b8.x.toList=0 by simp[qw2,X],lJ rfl,Qk]at h1;obtain⟨mk,O,H⟩:=wu.1 h1;obtain⟨y,I,(H4:Hid _)⟩:=wX.1 H;obtain⟨rfl,aN,aO⟩:=qqu I;obtain⟨aG,aH⟩:=rY.1 O;obtain⟨g',rfl,aP,a4,a0⟩:=ku a9 k aG;have Q:=(d.cell (p:=⟨g',k,none⟩) a4).trans<|a0 k aj;rw[QV,O,ZQ]at Q;have a1:g'<wr.heap.size:=aj;clear a0 h1 H I O aH;go_wp2
   go_ret;refine⟨kqi ?_,?_⟩
   ·rw[<-ku H4]
   ·exact((s.trans<|d.mono aj).alloc aj _)
 ·have f:=(zxw l l.length b8.x.toList<|λi hi _=>F i hi aj).2;rw[sK]at f;have h1:=ku E;rw[show fpB l b8.x.toList=false from f,Xy ay]at h1;have u:=a6.below d;have V:=qkg u.mc.C Y;have B:=qkg (u.below bR.drew).mc.C Y;have C:=qkg (u.below (bR.alloc jV<|.cells #[.bool false,i_ 0] 116).drew).mc.C Y;obtain⟨⟨y0,y1,y2,y3,y4,y5,y6,J,_,_⟩,_⟩:=u.mc;have m4:=kzh J;have aQ:=wQ J;clear J;cases A:(kjw tab b8.x.toList).isVar
  ·rw[A,Xy ay]at h1;injection h1 with h1;have H1:=oz h1;unfold qx3 at V B C;rw[A]at V B C;generalize (kjw tab b8.x.toList).xx=q at *;clear h1 f;go_wp2
   go_region
   all_goals
    go_wp2;go_ret;exact⟨kqi H1,((s.trans<|d.mono aj).alloc aj _).drew⟩
  ·rw[A,lJ rfl]at h1;obtain⟨v,a3,H⟩:=wu.1 h1;obtain⟨x,hx,I⟩:=wu.1 H;obtain⟨rfl,aN,aO⟩:=qqu I;obtain⟨aM,aL⟩:=rY.1 hx;obtain⟨g,rfl,aF,N,K⟩:=ku aA v.f aM;have Q:=(d.cell (p:=⟨g,v.f,none⟩) N).trans<|K v.f aj;rw[QV,hx,ZQ]at Q;have a1:g<wr.heap.size:=aj;unfold qx3 at V B C;rw[A]at V B C;have a8:=oz (λw' (aE:oq wr w')=>qxd (u.below aE) Y a3 hv);have aS:=pzf v;generalize (kjw tab b8.x.toList).xx=q at *;clear K h1 H I f a3 hx aL;go_upto_region 10 with fail
   go_region
   all_goals
    go_upto_region 10 with fail
    go_region_held3 (λw'=>w'.cell? (Ad R 4)=some (sL g st.length zc)/\w'.cell? (Ad w.heap.size 0)=some (.string b8.x)/\w'.cell? (Ad w.heap.size 1)=some (i_ b8.v)/\w'.cell? (Ad g v.f)=some (.int .u8 z))
     (first|exact⟨z0,z1,z2,z3⟩|simp_all [vk0])
     ((go_at_call 233;refine(a8 _<|(bR.alloc jV _).drew.drew).mono ?_;rintro e w2 ⟨ta,tc,rfl,_,t⟩;have z0:=(t.cell (p:=⟨R,4,none⟩) ah).trans<|vk0 r4 aD;have z1:=(t.cell (p:=⟨w.heap.size,0,none⟩) ah).trans<|vk0 m0 a2;have z2:=(t.cell (p:=⟨w.heap.size,1,none⟩) ah).trans<|vk0 m1 a2;have z3:=(t.cell (p:=⟨g,v.f,none⟩) ah).trans (vk0 Q a1) ;dsimp only))
    go_wp2;go_ret;exact⟨kqi kQ,(((s.trans<|d.mono aj).alloc aj _).drew.drew).trans<|t.mono ah⟩
theorem zy7{b9:Array Value}{d6:TypeId}{d7:Nat×Nat}(h:w.heap[k]?=some (.cells b9 b2 fr))(hR:w.heap[R]?=some (.cells cs' d6 d7))(d:d6≠b2):k≠R:=λe=>by simp_all
theorem Mc.nm(h:Mc lo w M nb vars tab)(hR:w.heap[R]?=some (.cells cs' b2 fr))(h1:b2≠105)(i:b2≠213)(m:b2≠9)(d:Kept R w w'):Mc lo w' M nb vars tab:=by have⟨⟨x0,x1,x2,va,vc,z,cs,hM,j,l⟩,f⟩:=h;refine⟨⟨x0,x1,x2,va,vc,z,cs,(d.block M (wQ hM)<|zy7 hM hR h1).trans hM,kqt j hR i d,l.stay λk e cs fr g q=>d.block k (wQ g)<|zy7 g hR (by simp_all)⟩,f.stay<|d.block nb f.lt ?_⟩;have⟨⟨es,c,p,_⟩,_⟩:=f;grind
theorem Rn.xz(h:Rn lo w R M nb vars tab l ms st sv b7)(c:Bool):Rn lo (w.setCell (Ad R 5) (.bool c)) R M nb vars tab l ms st sv c:=by have⟨⟨tx,pa,pn,pc,ma,mn,mc,hR,g,hM⟩,e,f⟩:=h;have d:Kept R w (w.setCell (Ad R 5)<|.bool c):=(Kept.refl _ _).kzr 5 _;exact⟨⟨tx,pa,pn,pc,ma,mn,mc,jD R 5 _ _ _ hR,kqt g hR ak d,kqt hM hR ak d⟩,e.nm hR ak ak ak d,kqt f hR ak d⟩
theorem Rn.lt(h:Rn lo w R M nb vars tab l ms st sv b7):R<w.heap.size:=by obtain⟨⟨tx,pa,pn,pc,ma,mn,mc,hR,_⟩,_⟩:=h;grind
theorem Rn.cells(h:Rn lo w R M nb vars tab l ms st sv b7):w.cell? ⟨R,1,none⟩=some (.pointer (some ⟨M,0,none⟩))/\w.cell? ⟨R,4,none⟩=some sv/\w.cell? ⟨R,5,none⟩=some (.bool b7)/\w.frozen? ⟨R,5,none⟩=false:=by obtain⟨⟨tx,pa,pn,pc,ma,mn,mc,hR,_⟩,_⟩:=h;have a:=kzh hR;simp_all
theorem Rn.orF(h:Rn lo w R M nb vars tab l ms st sv b7):Rn lo w R M nb vars tab l ms st sv (b7||false):=by simp_all
def atO(vars:List MVar)(tab:kq3)(l:List PP)(ms st:List Int)(v:MVar)(i:Tok):Option (Int×Bool):=
 if i.t.toList==[] then some (v.f,false)
 else (jwy vars tab l ms st i.x.toList).bind λx=>if x==0 then some (v.f,true) else (small x).bind λ_=>(small v.f).map λ_=>((v.f:Int)+x-1,false)
theorem pqr{d8:MVar}(ta:Option Addr)(tc:Nat)(n:Tok)(h:Rn lo w R M nb vars tab l ms st sv b7)(hv:vars.length<=1000)(A:l.length<=1000)(C:(i.t.toList==[])=false->i.x.size<=1000)(d:atO vars tab l ms st d8 i=some r):Calls prog 234 #[pT R,.agg<|kvo d8 ta tc,pl5 n i] w λe w'=>rT e (i_ r.1)/\Rn lo w' R M nb vars tab l ms st sv (b7||r.2)/\Kept R w w':=by
 unfold kvo pl5;unfold atO at d;cases t:(i.t.toList==[])
 ·rw[t,Xy ay]at d;have⟨x,D,d⟩:=wu.1 d;have⟨W,s⟩:=cpy<|(w.alloc<|.cells #[i_ d8.f,i_ d8.d,.slice ta d8.a.length tc,i_ d8.g,i_ d8.B] 213).alloc (.cells #[.string n.x,i_ n.v,.bool true,.string i.x,i_ i.v] 332);have f:oq w W:=by rw[s];exact(jZ w).trans ((jZ _).mono ay)
  have B:w.heap.size+1<W.heap.size:=by simp_all
  have u:W.heap[w.heap.size]?=some (.cells #[i_ d8.f,i_ d8.d,.slice ta d8.a.length tc,i_ d8.g,i_ d8.B] 213 (0,0)):=by rw[s];exact zy<|qy
  have v:W.heap[w.heap.size+1]?=some (.cells #[.string n.x,i_ n.v,.bool true,.string i.x,i_ i.v] 332 (0,0)):=by grind [qy,World.size_alloc]
  have k:=zw2 (h.below f) hv A (C t) D;have L:=jl v;unfold ptV at k;go_in;go_wp21;rw[(oz s.symm)];refine zM k λO g=>?_;have N:=jl<|(g.block w.heap.size aj).trans u;have q:=(h.below f).below g;have j:=f.trans<|g.mono (Qr<|Nat.lt_trans (Nat.lt_succ_self _) B);have⟨c1,c4,c5,K⟩:=q.cells;have d:=d;cases p:(x==0)
  ·rw[p,Xy ay]at d;have⟨y,E,d⟩:=wu.1 d;have⟨z,F,d⟩:=wX.1 d;have⟨_,G,H⟩:=qqu E;have⟨_,I,J⟩:=qqu F;subst d;go_wp2;go_ret;exact⟨rfl,q,Kept.of_below j⟩
  ·rw[p,lJ rfl]at d;injection d with d;subst d;go_wp2
   go_ret;exact⟨rfl,q.xz true,(Kept.of_below j).kzr _ _⟩
 ·rw[t,lJ rfl]at d;injection d with d;subst d;go_wp2
  go_ret;have m:oq w ((w.alloc<|.cells #[i_ d8.f,i_ d8.d,.slice ta d8.a.length tc,i_ d8.g,i_ d8.B] 213).alloc<|.cells #[.string n.x,i_ n.v,.bool false,.string i.x,i_ i.v] 332):=(jZ w).trans<|(jZ _).mono ay;exact⟨rfl,(λ(w':World)(hb:oq w w')=>(by rw[Qg];exact h.below hb:Rn lo w' R M nb vars tab l ms st sv (b7||false))) _ m,Kept.of_below m⟩
def jql(vars:List MVar)(tab:kq3)(l:List PP)(ms st:List Int)(n i:Tok):Option (Int×Bool):=
 if i.t.toList==[] then (jwy vars tab l ms st n.x.toList).map λx=>(x,false)
 else (vars[(kjw tab n.x.toList).xx]?).bind λv=>(atO vars tab l ms st v i).bind λp=>if p.1<0 then none else (st[p.1.toNat]?).bind λx=>(small x).map λy=>(y,p.2)
def qqv(vars:List MVar)(tab:kq3)(l:List PP)(ms st:List Int):PX->Option (Int×Bool)
 |.nil=>none
 |.node _ _ x a c=>
  if opN x.op.toList==0 then some (1,false) else if (opN x.op.toList==1||opN x.op.toList==2) then some (0,false) else if opN x.op.toList==3 then some (x.n,false)
  else if opN x.op.toList==4 then jql vars tab l ms st x.y x.c
  else if opN x.op.toList==5 then (qqv vars tab l ms st a).bind λp=>(small p.1).map λ_=>(1-p.1,p.2)
  else (qqv vars tab l ms st a).bind λp=>(qqv vars tab l ms st c).bind λq=>(small p.1).bind λ_=>(small q.1).map λ_=>(kxa (opN x.op.toList) p.1 q.1,p.2||q.2)
def pjb:Prop:=∀(w:World)(lo R M nb:Nat)(vars:List MVar)(tab:kq3)(l:List PP)(ms st:List Int)(sv:Value)(b:Bool)(n i:Tok),Rn lo w R M nb vars tab l ms st sv b->vars.length<=1000->l.length<=1000->(∀y∈kzu n i,y.x.size<=1000) ->
  ∀r:Int×Bool,jql vars tab l ms st n i=some r ->
  Calls prog 231 #[pT R,pl5 n i] w λe w'=>rT e (i_ r.1)/\Rn lo w' R M nb vars tab l ms st sv (b||r.2)/\Kept R w w'
def zyv(x:PX):Prop:=∀(w:World)(lo xo R M nb:Nat)(vars:List MVar)(tab:kq3)(l:List PP)(ms st:List Int)(sv:Value)(b:Bool)(v:Value),Rn lo w R M nb vars tab l ms st sv b->vars.length<=1000->l.length<=1000->XIs xo w x v->(∀y∈bf x,y.x.size<=1000) ->
  ∀r:Int×Bool,qqv vars tab l ms st x=some r ->
  Calls prog 190 #[pT R,v] w λe w'=>rT e (i_ r.1)/\Rn lo w' R M nb vars tab l ms st sv (b||r.2)/\Kept R w w'
theorem Rn.blk(h:Rn lo w R M nb vars tab l ms st sv b7):∃cs fr,w.heap[R]?=some (.cells cs 269 fr):=by obtain⟨⟨tx,pa,pn,pc,ma,mn,mc,hR,_⟩,_⟩:=h;simp_all
theorem Rn.drew{b:Bool}(h:Rn lo w R M nb vars tab l ms st sv b):Rn lo w.drew R M nb vars tab l ms st sv b:=h.below bR.drew
theorem Rn.or2{d9 e9:Bool}(h:Rn lo w R M nb vars tab l ms st sv (b7||d9||e9)):Rn lo w R M nb vars tab l ms st sv (b7||(d9||e9)):=by grind
theorem Rn.xkf(h:Rn lo w R M nb vars tab l ms st sv b7):∃sa sc,sv=.slice sa st.length sc/\∀i (hi:i<st.length),∃g,sa=some ⟨g,0,none⟩/\g<w.heap.size/\w.cell? ⟨g,i,none⟩=some (.int .u8 st[i])/\w.frozen? ⟨g,i,none⟩=false:=by
 obtain⟨h1,e⟩|⟨g,cap,cur,h1,_,d,_,_,_,h7⟩:=h.st.2
 ·simp_all
 ·refine⟨_,cap,h1,λi hi=>⟨g,rfl,wQ d,?_,Zt w g i _ _ d⟩⟩;rw[QK w g i _ _ _ d];have:(cur.toList.take<|st.length*1)[i]?=some (.int .u8 st[i]):=by simp_all
  grind
theorem Rn.sat(h:Rn lo w R M nb vars tab l ms st (sL g n sc) b7)(f:k<st.length):Ce w g k (.int .u8 st[k]):=by have⟨sa,d,e,i⟩:=h.xkf;grind
theorem Kept.xkk(h:Kept R w.drew w'):Kept R w w':=⟨h.os,h.tape,h.output,h.size,h.block⟩
theorem vwq:pjb:=by
 intro w lo R M nb vars tab l ms st sv b n i h hv L m r d;have J:n.x.size<=1000:=m n (by unfold kzu;grind);have A:(i.t.toList==[])=false->i.x.size<=1000:=λe=>m i (by unfold kzu;simp_all)
 unfold jql at d;unfold pl5;have a5:=h.lt;cases U:(i.t.toList==[])
 ·rw[U,Xy ay]at d;have⟨v,P,d⟩:=wu.1 d;have⟨⟨p1,pw⟩,hp,d⟩:=wu.1 d;by_cases K:p1<0
  ·rw[lJ K]at d;cases d
  rw[Xy K]at d;obtain⟨k,rfl⟩:=sG (by omega:0<=p1);have⟨x,q,d⟩:=wu.1 d;have⟨y,hy,N⟩:=wX.1 d;have⟨Q,a7,a8⟩:=qqu hy;rw[Q]at N;subst N;replace q:st[k]?=some x:=q
  have⟨I,H⟩:=rY.1 q;obtain⟨sa,sc,rfl,O⟩:=h.xkf;obtain⟨g,rfl,a3,F,_⟩:=O k I;have⟨W,B⟩:=cpy<|w.alloc (.cells #[.string n.x,i_ n.v,.bool true,.string i.x,i_ i.v] 332);have f:oq w W:=by rw[B];exact jZ w
  have a6:w.heap.size<W.heap.size:=by simp_all
  have Z:Hid (W.heap[w.heap.size]?=some (.cells #[.string n.x,i_ n.v,.bool true,.string i.x,i_ i.v] 332 (0,0))):=by rw[B];exact qy
  have z:=h.below f;have⟨_,r4,_,_⟩:=z.cells;have q0:=jl Z;have s0:W.cell? (Ad g k)=some (.int .u8 x):=by rw[<-H];exact(f.cell (p:=⟨g,k,none⟩) a3).trans F
  have a1:=qxd z.drew J P hv;have s:=oz (λ(C:World) (h1:Rn lo C R M nb vars tab l ms st (sL g st.length sc) b) (va:Option Addr) (vc:Nat)=>pqr va vc n h1 hv L A hp);have t:=z.drew;have a2:=oz B.symm;unfold pl5 at s;rw[U]at s;clear hp P hy Q d F O B m A;go_in;go_upto_region 2 with fail
  rw[ku a2];go_region_held3 (λw'=>w'.cell? (Ad R 4)=some (sL g st.length sc)/\w'.cell? (Ad w.heap.size 0)=some (.string n.x)/\w'.cell? (Ad w.heap.size 1)=some (i_ n.v)/\w'.cell? (Ad w.heap.size 2)=some (.bool true)/\w'.cell? (Ad w.heap.size 3)=some (.string i.x)/\w'.cell? (Ad w.heap.size 4)=some (i_ i.v)/\w'.cell? (Ad g k)=some (.int .u8 x))
   (first|simp_all|simp_all|simp_all)
   (first
   |(go_at_call 233;refine a1.mono ?_;rintro e C ⟨va,vc,rfl,_,j⟩;have h1:=t.below j;have u:=(j.block w.heap.size<|by simp_all).trans Z;have⟨_,a4,_,_⟩:=h1.cells;have b0:=jl u;have t0:=(j.cell (p:=⟨g,k,none⟩) (by show g<W.heap.size;omega)).trans s0;have T:=s C h1 va vc;have a0:=oz u;have X:=(f.drew).trans (j.mono (by show w.heap.size<=W.heap.size;omega));clear u)
   |(go_at_call 234;refine zM T ?_;rintro w2 ⟨S,G⟩;have E:=G.e (b:=w.heap.size) aj a0;have⟨_,c4,_,_⟩:=S.cells;have d0:=jl E;have u0:w2.cell? (Ad g k)=some (.int .u8 x):=(by rw[<-H];exact S.sat I);have Y:=(Kept.of_below X).trans G;clear E;dsimp only))
  all_goals
   go_wp2;go_ret;exact⟨kqi kQ,S,Y⟩
 ·rw[U,lJ rfl]at d;have⟨x,q,d⟩:=wX.1 d;subst d;have f:=jZ w (o:=.cells #[.string n.x,i_ n.v,.bool false,.string i.x,i_ i.v] 332);have D:=zw2 (h.below f) hv L J q;have t:=h.below f;unfold ptV at D;clear q m A;go_in;go_wp21;refine zM D λC j=>?_;have H1:=t.below j;have V:=f.trans<|j.mono ay;go_wp2
  go_ret;exact⟨rfl,H1.orF,Kept.of_below V⟩
theorem vz3(a4:pjb)(i j:Nat)(x:ELab)(U:zyv b4)(aB:zyv c):zyv (.node i j x b4 c):=by
 intro w lo xo R M nb vars tab l ms st sv b v g hv A hX K r hr;obtain⟨k,va,vb,rfl,hk,B,Y,hb⟩:=hX;obtain⟨p1,rfl⟩:=Y.ptr;obtain⟨p2,rfl⟩:=hb.ptr;have⟨aC,aD,F⟩:=g.blk;have P:k≠R:=zy7 B F ak;have J:∀y∈bf b4,y.x.size<=1000:=λy h=>K y (by rw[bf];simp[h])
 have Q:∀y∈bf c,y.x.size<=1000:=λy h=>K y (by rw[bf];simp[h])
 have a6:∀y∈qw1 x,y.x.size<=1000:=λy h=>K y (by rw[bf];simp[h])
 have u:=zkc x.op.toList;have a5:=B;unfold kyu at B;have q0:=kki B;have E:(if opN x.op.toList==0 then some (1,false) else if (opN x.op.toList==1||opN x.op.toList==2) then some (0,false) else if opN x.op.toList==3 then some (x.n,false)
  else if opN x.op.toList==4 then jql vars tab l ms st x.y x.c
  else if opN x.op.toList==5 then (qqv vars tab l ms st b4).bind λp=>(small p.1).map λ_=>(1-p.1,p.2)
  else (qqv vars tab l ms st b4).bind λp=>(qqv vars tab l ms st c).bind λq=>(small p.1).bind λ_=>(small q.1).map λ_=>(kxa (opN x.op.toList) p.1 q.1,p.2||q.2))=some r:=hr
 have⟨C,Z,L,HC,HX⟩:=jz (λ(e:qw1 x=kzu x.y x.c)(he:jql vars tab l ms st x.y x.c=some r)=>a4 w lo R M nb vars tab l ms st sv b x.y x.c g hv A (by simp_all) r he) (λp e=>U w lo xo R M nb vars tab l ms st sv b _ g hv A Y J p e) (λp e=>U w.drew lo xo R M nb vars tab l ms st sv b _ g.drew hv A (Y.below bR.drew) J p e) (λ(m:World) (b1:Bool) (h1:Rn lo m R M nb vars tab l ms st sv b1) (f:Kept R w.drew m) q e=>aB m lo xo R M nb vars tab l ms st sv b1 _ h1 hv A ((hb.below bR.drew).nm (w:=w.drew) F ak f) Q q e) B;unfold pl5 at C;generalize (!(x.c.t.toList==[]))=d at *;clear hr B a5 K J Q a6 F hk;go_in;generalize opN x.op.toList=o at *;cases h0:(o==0)
 case true=>
  rw[h0,lJ rfl]at E;injection E with E;subst E;go_wp2
  go_ret;exact⟨rfl,g,Kept.refl _ _⟩
 case false=>
 rw[h0,Xy ay]at E;cases h1:(o==1)
 case true=>
  rw[h1,Jg,lJ rfl]at E;injection E with E;subst E;go_wp2
  go_ret;exact⟨rfl,g,Kept.refl _ _⟩
 case false=>
 cases D:(o==2)
 case true=>
  rw[h1,D,Js,lJ rfl]at E;injection E with E;subst E;go_wp2
  go_ret;exact⟨rfl,g,Kept.refl _ _⟩
 case false=>
 rw[h1,D,Qg,Xy ay]at E;cases h3:(o==3)
 case true=>
  rw[h3,lJ rfl]at E;injection E with E;subst E;go_wp2
  go_ret;exact⟨rfl,g,Kept.refl _ _⟩
 case false=>
 rw[h3,Xy ay]at E;cases X:(o==4)
 case true=>
  rw[X,lJ rfl]at E;rw[X]at u;have W:=C (by unfold qw1;simp_all) E;clear E u;go_wp21;refine zM W ?_;rintro m ⟨V,s⟩;go_wp2;go_ret;exact⟨rfl,V,s⟩
 case false=>
 rw[X,Xy ay]at E;cases h5:(o==5)
 case true=>
  rw[h5,lJ rfl]at E;have⟨p,I,E⟩:=wu.1 E;have⟨y,h,E⟩:=wX.1 E;have⟨_,S,T⟩:=qqu h;subst E;have t:=Z p I;clear u I h;go_wp21;refine zM t ?_;rintro m ⟨h1,f⟩;have⟨V,s⟩:=jS h1 f;clear h1 f;go_wp2;go_ret;exact⟨rfl,V,s⟩
 case false=>
 rw[h5,Xy ay]at E;have⟨p,I,E⟩:=wu.1 E;have⟨q,hq,E⟩:=wu.1 E;have⟨y,h,E⟩:=wu.1 E;have⟨z,hz,E⟩:=wX.1 E;have⟨_,S,T⟩:=qqu h;have⟨_,a9,aA⟩:=qqu hz;subst E;have⟨t,a1⟩:=jS (L p I) (λm b1 h1 f=>HC m b1 h1 f q hq);clear C u Z L HC I h hz hq;go_upto_region 13 with fail
 go_region_held3 (λw'=>w'.cell? ⟨k,0,none⟩=some (.int .i64 o)/\w'.cell? ⟨k,7,none⟩=some (.pointer p1)/\w'.cell? ⟨k,8,none⟩=some (.pointer p2))
  (first|simp_all|simp_all|simp_all)
  (first
  |(go_at_call 190;refine zM t ?_;rintro m ⟨h1,f⟩;have G:=f.e P HX;have⟨⟨a0,_,_,_,_,_,_,a7,a8⟩,_⟩:=kki G;have⟨N,a3,s⟩:=jF (a1 m _ h1 f) G f;clear h1 f G t)
  |(go_at_call 190;refine zM N ?_;rintro w2 ⟨D,H⟩;have O:=H.e P a3;have⟨⟨c0,_,_,_,_,_,_,c7,c8⟩,_⟩:=kki O;have⟨H2,a2⟩:=jS D (s.trans H);clear D H O N)
  |(go_at_call 232;refine zM (pyp o p.1 q.1 S T a9 aA) ?_;rintro w3 rfl;dsimp only))
 all_goals
  go_wp2;go_ret;exact⟨rfl,H2.or2,a2.xkk⟩
theorem qvk:∀x:PX,zyv x
 |.nil=>λw lo xo R M nb vars tab l ms st sv b v _ _ _ _ _ r h=>ig
 |.node i j x a c=>vz3 vwq i j x (qvk a)<|qvk c
structure kxe (R:Nat)(o:Option Nat)(w w':World):Prop where
 os:w'.os=w.os
 tape:w'.tape=w.tape
 output:w'.output=w.output
 size:w.heap.size<=w'.heap.size
 block:∀k,k<w.heap.size->k≠R->o≠some k->w'.heap[k]?=w.heap[k]?
theorem kxe.refl(R:Nat)(o:Option Nat)(w:World):kxe R o w w:=⟨rfl,rfl,rfl,jV,λ_ _ _ _=>rfl⟩
theorem kxe.trans{o:Option Nat}{b:World}(h:kxe R o a b)(k:kxe R o b w):kxe R o a w:=
 ⟨k.os.trans h.os,k.tape.trans h.tape,k.output.trans h.output,rP h.size k.size,λi h1 d e=>(k.block i (sV h1 h.size) d e).trans<|h.block i h1 d e⟩
theorem Kept.o(h:Kept R w w')(o:Option Nat):kxe R o w w':=⟨h.os,h.tape,h.output,h.size,λk h1 d _=>h.block k h1 d⟩
theorem zqq(h:oq w w')(R:Nat)(o:Option Nat):kxe R o w w':=⟨h.os,h.tape,h.output,h.size,λk h1 _ _=>h.block k h1⟩
theorem kxe.alone(h:kxe R none w w'):Kept R w w':=⟨h.os,h.tape,h.output,h.size,λk h1 d=>h.block k h1 d ay⟩
theorem kxe.split(h:kxe R (some lo) w w')(f:lo<w.heap.size):∃m,Kept R w m/\m.heap[lo]?=w.heap[lo]?/\Kept lo m w':=by
 obtain⟨x,i⟩:∃x,w.heap[lo]?=some x:=⟨_,Array.getElem?_eq_getElem f⟩;have g:lo<w'.heap.size:=sV f h.size;refine⟨ChangeMaps.setBlock w' lo x,⟨h.os,h.tape,h.output,by simpa[ChangeMaps.setBlock] using h.size,λk h1 d=>?_⟩,?_,⟨rfl,rfl,rfl,lV,λk h1 d=>?_⟩⟩
 ·by_cases e:k=lo
  ·grind [ChangeMaps.setBlock]
  ·rw[<-h.block k h1 d (by grind)];grind [ChangeMaps.setBlock]
 ·grind [ChangeMaps.setBlock]
 grind [ChangeMaps.setBlock]
theorem jkd(h:w.ownsRow lo e 1 (sL g n cap) n xs)(q:Nat)(u:Value):(w.setCell (Ad g q) u).ownsRow lo e 1 (sL g n cap) n (xs.set q u):=by
 refine⟨lM,?_⟩;obtain⟨h1,_⟩|⟨m,i,cur,d,j,e3,k,e5,l,e7⟩:=h.2
 ·cases h1
 ·injection d with d _ f;injection d with d;injection d with d;subst d;subst f;exact .inr ⟨g,cap,_,rfl,j,Go.heap_setCell_same _ g q _ _ _ e3,k,e5,by simp_all,by grind [List.take_set]⟩
theorem qwl(h:Rn lo w R M nb vars tab l ms st sv b7)(hv:vars.length<=1000)(d:l.length<=1000)(f:XIs xo w x (.pointer p))(i:∀y∈bf x,y.x.size<=1000)(g:qqv vars tab l ms st x=some r):Calls prog 132 #[pT R,.pointer p] w λe w'=>rT e (.bool<|r.1==1)/\Rn lo w' R M nb vars tab l ms st sv (b7||r.2)/\Kept R w w':=by go_in;go_wp21;refine zM (qvk x w lo xo R M nb vars tab l ms st sv b7 _ h hv d f i r g) ?_;rintro m ⟨k,j⟩;go_wp2;go_ret;simp_all
def vk9(vars:List MVar)(tab:kq3)(l:List PP)(ms st:List Int)(n i:Tok)(x:PX):Option (List Int×Bool):=
 (qqv vars tab l ms st x).bind λp=>(vars[(kjw tab n.x.toList).xx]?).bind λv=>(atO vars tab l ms st v i).bind λq=>
  if p.1<0||p.1 >= (v.a.length:Int) then some (st,true) else if p.1 > 255||q.1<0||q.1 >= (st.length:Int) then none else some (st.set q.1.toNat p.1,p.2||q.2)
theorem Rn.setSt(h:Rn lo w R M nb vars tab l ms st (sL g n cap) b7)(q:Nat)(y:Int):Rn lo (w.setCell (Ad g q) (.int .u8 y)) R M nb vars tab l ms (st.set q y) (sL g n cap) b7:=by
 have⟨⟨tx,pa,pn,pc,ma,mn,mc,hR,p,hM⟩,j,f⟩:=h;have⟨t,u,e3,_⟩:=qp f;injection e3 with m i e3;subst i;have d:∃cur,w.heap[g]?=some (.cells cur 5 (0,0)):=by
  obtain⟨h1,_⟩|⟨s,k,cur,m,i,e3,_⟩:=f.2
  ·cases h1
  simp_all
 have⟨cur,d⟩:=d;have e:Kept g w (w.setCell ⟨g,q,none⟩<|.int .u8 y):=(Kept.refl _ _).kzr q _;refine⟨⟨tx,pa,pn,pc,ma,mn,mc,e.e (zy7 hR d ak) hR,kqt p d ak e,kqt hM d ak e⟩,j.nm d ak ak ak e,?_⟩;grind [jkd,List.map_set]
theorem kxe.pvs{q:Nat}{u:Value}(h:kxe R (Value.ownBlock (sL g n cap)) a w):kxe R (Value.ownBlock (sL g n cap)) a (w.setCell (Ad g q) u):=by have d:Kept g w (w.setCell (Ad g q) u):=(Kept.refl _ _).kzr q _;exact h.trans ⟨d.os,d.tape,d.output,d.size,λk h1 _ f=>d.block k h1<|λe=>f (by rw[e];rfl)⟩
theorem vzw{b:Bool}(ta Q:Option Addr)(S tc en ec:Nat)(c:Bool)(h:Rn lo w R M nb vars tab l ms st sv b)(hv:vars.length<=1000)(P:l.length<=1000)(hX:XIs xo w x (.pointer p))(hs:∀y∈bf x,y.x.size<=1000)(z:∀y∈kzu b8 i,y.x.size<=1000)(f:vk9 vars tab l ms st b8 i x=some g0):Calls prog 192 #[pT R,.agg #[.bool c,.string b8.x,i_ b8.v,.bool<|!(i.t.toList==[]),.string i.x,i_ i.v,.pointer p,.slice ta S tc,.slice Q en ec]] w λe w'=>rT e (.tuple #[])/\Rn lo w' R M nb vars tab l ms g0.1 sv (b||g0.2)/\kxe R sv.ownBlock w w':=by
 unfold vk9 at f;have⟨pv,hp,f⟩:=wu.1 f;obtain⟨v,(a2:Hid _),f⟩:=wu.1 f;have⟨q,hq,f⟩:=wu.1 f;have a5:b8.x.size<=1000:=z b8 (by unfold kzu;grind);have L:(i.t.toList==[])=false->i.x.size<=1000:=λe=>z i (by unfold kzu;simp_all)
 have⟨W,H⟩:=cpy<|w.alloc (.cells #[.bool c,.string b8.x,i_ b8.v,.bool<|!(i.t.toList==[]),.string i.x,i_ i.v,.pointer p,.slice ta S tc,.slice Q en ec] 334);have D:oq w W:=by rw[H];exact jZ w
 have HS:Hid (W.heap[w.heap.size]?=some (.cells #[.bool c,.string b8.x,i_ b8.v,.bool<|!(i.t.toList==[]),.string i.x,i_ i.v,.pointer p,.slice ta S tc,.slice Q en ec] 334 (0,0))):=by rw[H];exact qy
 have aA:=h.lt;have HV:=qvk x W lo xo R M nb vars tab l ms st sv b _ (h.below D) hv P (hX.below D) hs pv hp;have q0:=kki HS;have t:=zqq D R sv.ownBlock;have⟨a3,HR,B⟩:=jF H.symm f (λ(w3:World)(b3:Bool)(h3:Rn lo w3 R M nb vars tab l ms st sv b3)(va:Option Addr)(vc:Nat)=>pqr va vc b8 h3 hv P L hq);unfold kvo pl5 at B;generalize (!(i.t.toList==[]))=d at *;clear f hq hp hs z L H;go_in;go_wp21;rw[ku a3];refine zM HV ?_;rintro w1 ⟨U,N⟩;have C:=oz<|N.e (b:=w.heap.size) aj HS;have a0:=kki C;have a1:=qxd U a5 a2 hv;have X:=t.trans<|N.o _;clear q0;go_wp21
 refine a1.mono ?_;rintro e T ⟨va,vc,rfl,hT,j⟩;have z:=j.size;have a6:w.heap.size<w1.heap.size:=wQ C;have b0:=kki<|(j.block w.heap.size a6).trans C;have h2:=(U.below j);have a9:=h2.lt;have V:=B (T.alloc<|.cells (kvo v va vc) 213) _ (h2.below<|jZ _) va vc;have Y:=X.trans<|zqq j R sv.ownBlock;unfold kvo at *;have a8:w.heap.size<T.heap.size:=aj;clear a0;go_wp21
 refine zM V ?_;rintro w4 ⟨G,O⟩;have K:=O.e (b:=T.heap.size) aj<|qy;have v0:=jl K;have⟨r1,r4,r5,rf⟩:=G.cells;have⟨sa,sc,E,A⟩:=G.xkf;have I:=Y.trans<|(zqq (jZ _) R sv.ownBlock).trans (O.o _);have f:=ku HR;clear K b0;have J:=oz (λ(e:g0=(st,true))=>(by rw[e,Js];exact G.xz true:Rn lo (w4.setCell (Ad R 5)<|.bool true) R M nb vars tab l ms g0.1 sv (b||g0.2)));have t:=I.trans<|((Kept.refl R w4).kzr 5<|.bool true).o sv.ownBlock;by_cases a7:pv.1<0
 ·rw[lJ (by simp_all)]at f;injection f with f;have m:=J f.symm;generalize pv.1=y at *;clear A E f;go_wp2
  exact tK (results_none rfl _ _ _) rfl ⟨rfl,m,t⟩
 ·by_cases aE:(v.a.length:Int)<=pv.1
  ·rw[lJ (by simp_all)]at f;injection f with f;have m:=J f.symm;generalize pv.1=y at *;clear A E f;go_wp2
   exact tK (results_none rfl _ _ _) rfl ⟨rfl,m,t⟩
  ·rw[Xy (by simp_all)]at f;by_cases s:(pv.1 > 255||q.1<0||q.1 >= (st.length:Int))=true
   ·simp_all
   ·rw[Xy s]at f;injection f with f;simp only[Q8,sD,not_or,ge_iff_le,gt_iff_lt]at s;have⟨⟨aB,j⟩,aC⟩:=s;have⟨F,pw⟩:=pv;have⟨q1,qw⟩:=q;obtain⟨k,rfl⟩:=sG (by omega:0<=q1);have a4:k<st.length:=aj;obtain⟨g,rfl,aG,aD,aF⟩:=A k a4;subst E;have hc:=G.setSt k F;have HC:=show Rn lo (w4.setCell (Ad g k)<|.int .u8 F) R M nb vars tab l ms g0.1 (sL g st.length sc) (b||g0.2) by grind
    have Z:=I.pvs (q:=k) (u:=.int .u8 F);dsimp only at *;have aH:IntKind.u8.wrap F=F:=by rw[IntKind.wrap_u8];omega
    clear A f;go_wp2;go_end0;exact⟨rfl,HC,Z⟩
theorem Rn.sty(h:Rn lo w R M nb vars tab l ms st sv b7):∀s,sv.ownBlock=some s->∃cs fr,w.heap[s]?=some (.cells cs 5 fr):=by
 intro s d;obtain⟨h1,e⟩|⟨g,cap,cur,h1,_,f,_⟩:=h.st.2
 ·rw[h1]at d;cases d
 ·rw[h1]at d;injection d with d;simp_all
theorem kxe.via(h:kxe R g1 w w')(d:∀s,g1=some s->∃cs fr,w.heap[s]?=some (.cells cs 5 fr)):Kept R w w'\/∃s m cs fr,Kept R w m/\m.heap[s]?=some (.cells cs 5 fr)/\Kept s m w':=by
 cases g1 with
 |none=>exact .inl h.alone
 |some s=>
  have⟨cs,fr,hb⟩:=d s rfl;have⟨m,h1,e,f⟩:=h.split<|wQ hb;grind
theorem zy5(h:w.ownsRow lo e size v n xs)(hR:∃cs fr,w.heap[R]?=some (.cells cs 269 fr))(k:∀s,g1=some s->∃cs fr,w.heap[s]?=some (.cells cs 5 fr))(d:269≠e)(f:5≠e)(j:kxe R g1 w w'):w'.ownsRow lo e size v n xs:=by
 have⟨cs,fr,hR⟩:=hR;obtain h1|⟨s,m,cs',l,h1,g,i⟩:=j.via k
 ·exact kqt h hR d h1
 ·exact kqt (kqt h hR d h1) g f i
theorem BIs.ko(h:BIs lo no w g3 xs)(hR:∃cs fr,w.heap[R]?=some (.cells cs 269 fr))(e:∀s,g1=some s->∃cs fr,w.heap[s]?=some (.cells cs 5 fr))(d:kxe R g1 w w'):BIs lo no w' g3 xs:=by
 have⟨cs,fr,hR⟩:=hR;obtain h1|⟨s,m,cs',f,h1,g,i⟩:=d.via e
 ·exact h.nm hR ak ak h1
 grind [nm]
def kyk:PX->Tok×Tok
 |.nil=>(zh,zh)
 |.node _ _ x _ _=>(x.y,x.c)
theorem pqv:∀x:PX,plC x=[.string (kyk x).1.x,i_ (kyk x).1.v,.bool (!((kyk x).2.t.toList==[])),.string (kyk x).2.x,i_ (kyk x).2.v]/\pwu x=kzu (kyk x).1 (kyk x).2
 |.nil=>⟨by rw[show(kyk .nil).2=zh from rfl,dh];rfl,by rw[show(kyk .nil).2=zh from rfl];unfold kzu;rw[dh];rfl⟩
 |.node _ _ x _ _=>⟨rfl,rfl⟩
def doO(vars:List MVar)(tab:kq3)(l:List PP)(ms:List Int):PB->List Int->Option (List Int×Bool)
 |.nil,st=>some (st,false)
 |.node _ _ a .nil n,st=>(vk9 vars tab l ms st (kyk a.N).1 (kyk a.N).2 a.value).bind λp=>(doO vars tab l ms n p.1).map λq=>(q.1,p.2||q.2)
 |.node _ _ a (.node _ _ _ t e) n,st=>(qqv vars tab l ms st a.A).bind λc=>(if c.1==1 then doO vars tab l ms t st else doO vars tab l ms e st).bind λp=>(doO vars tab l ms n p.1).map λq=>(q.1,c.2||p.2||q.2)
def zqv(b:PB):Prop:=∀(w:World)(lo so R M nb:Nat)(no:Option Nat)(vars:List MVar)(tab:kq3)(l:List PP)(ms st:List Int)(sv:Value)(bb:Bool)(v:Value)(cs:List Value),Rn lo w R M nb vars tab l ms st sv bb->vars.length<=1000->l.length<=1000 ->
  w.ownsRow so 334 9 v (kqq b) cs->BIs so no w b cs->ky6 b->kqq b<=1000->(∀y∈je b,y.x.size<=1000)->∀r,doO vars tab l ms b st=some r ->
  Calls prog 133 #[pT R,v] w λe w'=>rT e (.tuple #[])/\Rn lo w' R M nb vars tab l ms r.1 sv (bb||r.2)/\kxe R sv.ownBlock w w'
theorem vzk{g4:PB}(K:zqv g3)(J:zqv g4)(no:Option Nat){b:Bool}(n i:Tok)(d:Bool)(ta v:Option Addr)(z tc en ec:Nat)(E D:List Value)(h:Rn lo w R M nb vars tab l ms st sv b)(hv:vars.length<=1000)(t:l.length<=1000)(L:XIs so w x (.pointer p))(O:∀y∈bf x,y.x.size<=1000)(u:w.ownsRow so 334 9 (.slice ta z tc) (kqq g3) E/\BIs so no w g3 E/\ky6 g3/\kqq g3<=1000/\(∀y∈je g3,y.x.size<=1000))(q:w.ownsRow so 334 9 (.slice v en ec) (kqq g4) D/\BIs so no w g4 D/\ky6 g4/\kqq g4<=1000/\(∀y∈je g4,y.x.size<=1000))(c:Int×Bool)(N:qqv vars tab l ms st x=some c)(r:List Int×Bool)(m:(if c.1==1 then doO vars tab l ms g3 st else doO vars tab l ms g4 st)=some r):Calls prog 191 #[pT R,.agg #[.bool true,.string n.x,i_ n.v,.bool d,.string i.x,i_ i.v,.pointer p,.slice ta z tc,.slice v en ec]] w λg4 w'=>rT g4 (.tuple #[])/\Rn lo w' R M nb vars tab l ms r.1 sv (b||c.2||r.2)/\kxe R sv.ownBlock w w':=by
 have⟨W,F⟩:=cpy<|w.alloc (.cells #[.bool true,.string n.x,i_ n.v,.bool d,.string i.x,i_ i.v,.pointer p,.slice ta z tc,.slice v en ec] 334);have g:oq w W:=by rw[F];exact jZ w
 have I:W.heap[w.heap.size]?=some (.cells #[.bool true,.string n.x,i_ n.v,.bool d,.string i.x,i_ i.v,.pointer p,.slice ta z tc,.slice v en ec] 334 (0,0)):=by rw[F];exact qy
 have Q:=h.lt;have f:=h.below g;have S:=kki I;go_in;go_wp21;rw[(oz F.symm)];refine(qwl f hv t (L.below g) O N).mono ?_;rintro ex j ⟨rfl,h1,e⟩;have a0:=kki<|e.e (b:=w.heap.size) aj I;have A:=(zqq g R sv.ownBlock).trans<|e.o _;have m:=(oz m);cases B:(c.1==1)
 ·rw[B,Xy ay]at m;go_wp21;refine(((λ(j:World)(b1:Bool)(h1:Rn lo j R M nb vars tab l ms st sv b1)(e:Kept R W j)(G:doO vars tab l ms g4 st=some r)=>J j lo so R M nb no vars tab l ms st sv b1 _ D h1 hv t (zy5 (qj q.1 g) f.blk f.sty ak ak<|e.o _) ((q.2.1.stay λk _ H=>g.block k H).ko f.blk f.sty<|e.o _) q.2.2.1 q.2.2.2.1 q.2.2.2.2 r G) j _ h1 e) m).mono ?_;rintro ex P ⟨rfl,C,s⟩;go_wp2;go_end0;exact⟨rfl,C,(A.trans s)⟩
 ·rw[B,lJ rfl]at m;go_wp21;refine(((λ(j:World)(b1:Bool)(h1:Rn lo j R M nb vars tab l ms st sv b1)(e:Kept R W j)(G:doO vars tab l ms g3 st=some r)=>K j lo so R M nb no vars tab l ms st sv b1 _ E h1 hv t (zy5 (qj u.1 g) f.blk f.sty ak ak<|e.o _) ((u.2.1.stay λk _ H=>g.block k H).ko f.blk f.sty<|e.o _) u.2.2.1 u.2.2.2.1 u.2.2.2.2 r G) j _ h1 e) m).mono ?_;rintro ex P ⟨rfl,C,s⟩;go_wp2;go_end0;exact⟨rfl,C,(A.trans s)⟩
def zz5:PB->Prop
 |.nil=>True
 |.node _ _ _ .nil n=>zz5 n
 |.node _ _ _ (.node _ _ _ t e) n=>zqv t/\zqv e/\zz5 n
def xk8(w:World)(lo so R M nb:Nat)(no:Option Nat)(vars:List MVar)(tab:kq3)(l:List PP)(ms:List Int)(sv:Value)(fin:List Int×Bool)(len:Nat)(cs:List Value)(i:Value)(wr:World):Prop:=
 ∃(k:Nat)(rest:PB)(st:List Int)(b:Bool),k+kqq rest=len/\i=i_ k/\BIs so no wr rest (cs.drop<|k*9)/\zz5 rest/\ky6 rest/\(∀y∈je rest,y.x.size<=1000)/\(∃q,doO vars tab l ms rest st=some q/\(q.1,b||q.2)=fin)/\Rn lo wr R M nb vars tab l ms st sv b/\kxe R sv.ownBlock w wr
theorem jjk(hI:zz5 g3):zqv g3:=by
 intro w lo so R M nb no vars tab l ms st sv bb v cs h hv a1 Q aM m aJ s r hr;obtain⟨xa,cap,rfl,_⟩:=qp Q;have HR:=show xk8 w lo so R M nb no vars tab l ms sv (r.1,bb||r.2) (kqq g3) cs (i_ 0) w from⟨0,g3,st,bb,aj,rfl,by simp_all,hI,m,s,⟨r,hr,rfl⟩,h,kxe.refl _ _ _⟩
 have⟨a7,a6,a8⟩:=jF (show ∀(w':World)(st':List Int)(b':Bool),(st',b')=(r.1,bb||r.2)->Rn lo w' R M nb vars tab l ms st' sv b'->Rn lo w' R M nb vars tab l ms r.1 sv (bb||r.2) from λw' st' b' e hh=>by simp_all) h.blk h.sty;generalize a9:(r.1,bb||r.2)=fin at *;generalize kqq g3=len at *;clear s hr a9;go_in;go_wp21;go_loopw [5,8] (λ_ i wr=>xk8 w lo so R M nb no vars tab l ms sv fin len cs i wr) (λ_ i _=>len-(intOf i).toNat);exact HR;obtain⟨k,rest,s1,b1,x,rfl,E,D,m,s,⟨q,f,(HF:Hid _)⟩,C,G⟩:=hrel;have⟨ya,aK,S,A⟩:=qp<|zy5 Q a6 a8 ak ak G;injection S with S _ e3;subst S;subst e3;have aO:=G.size;have aL:=C.lt;match rest,E,D,m,s,f,x with
 |.nil,E,D,m,s,f,x=>
  have aN:¬k<len:=oM;rw[doO]at f;injection f with f;subst f;have HE:=a7 wr s1 (b1||false) HF C.orF;clear s x A;go_wp2
  go_end0;exact⟨rfl,HE,G⟩
 |.node _ _ la .nil nx,E,D,m,s,f,x=>
  have⟨p,aI,U,hx,aF⟩:=E;have Y:k<len:=oM;obtain⟨g,rfl,_,aE,T⟩:=A k Y;have⟨J,N⟩:=pqv la.N;have⟨V,H⟩:=qjc U<|qzl;have cc:∀j,j<9->∀u,(stC false la (.pointer p) nS<|nS)[j]?=some u->Ce wr g (k*9+j) u:=λj hj u hu=>(T (k*9+j) aj).trans<|(H j hj).trans hu
  unfold stC at cc;rw[J]at cc;have e0:=cc 0 aj _ rfl;have S:=cc 1 aj _ rfl;have e2:=cc 2 aj _ rfl;have e3:=cc 3 aj _ rfl;have e4:=cc 4 aj _ rfl;have e5:=cc 5 aj _ rfl;have e6:=cc 6 aj _ rfl;have e7:=cc 7 aj _ rfl;have e8:=cc 8 aj _ rfl;simp only[Qk]at e0;rw[doO]at f;have⟨O,I,f⟩:=wu.1 f;have⟨q2,K,f⟩:=wX.1 f;have a4:∀y∈kzu (kyk la.N).1 (kyk la.N).2,y.x.size<=1000:=λy B=>s y (by rw[je,N];simp[B])
  have a5:∀y∈bf la.value,y.x.size<=1000:=λy B=>s y pJ
  have L:∀y∈je nx,y.x.size<=1000:=λy B=>s y pJ
  have z:=oz (⟨D,m,L,⟨q2,K,by rw[<-ku HF,<-f,Bool.or_assoc]⟩⟩:zz5 nx/\ky6 nx/\(∀y∈je nx,y.x.size<=1000)/\∃q,doO vars tab l ms nx O.1=some q/\(q.1,(b1||O.2)||q.2)=fin);have P:=show BIs so no wr nx (cs.drop<|(k+1)*9) by simp_all
  generalize (kyk la.N).1=n at *;generalize (kyk la.N).2=i at *;have aA:=vzw (w:=wr.alloc<|.cells #[.bool false,.string n.x,i_ n.v,.bool<|!(i.t.toList==[]),.string i.x,i_ i.v,.pointer p,nS,nS] 334) none none 0 0 0 0 false (C.below<|jZ _) hv a1 (hx.below<|jZ _) a5 a4 I;have X:k+1+kqq nx=len:=oM;clear cc T H V U J N s a4 L x a5 A I f K;generalize (!(i.t.toList==[]))=d at *;go_wp21;refine zM aA ?_;rintro w2 ⟨H2,W⟩;have F:=(zqq (jZ _) R sv.ownBlock).trans W;go_wp2;exact rdM ⟨k+1,nx,_,_,X,eu,P.ko C.blk C.sty F,z.1,z.2.1,z.2.2.1,z.2.2.2,H2,G.trans F⟩
 |.node _ _ la (.node _ _ _ t e) nx,E,D,m,s,f,x=>
  have⟨p,ta,tn,tc,ea,en,ec,ct,ce,aI,U,hx,⟨aG,_,aH⟩,⟨aC,_,aD⟩,aF⟩:=E;have Y:k<len:=oM;obtain⟨g,rfl,_,aE,T⟩:=A k Y;have⟨J,N⟩:=pqv la.N;have⟨V,H⟩:=qjc U<|qzl;have cc:∀j,j<9->∀u,(stC true la (.pointer p) (.slice ta tn tc)<|.slice ea en ec)[j]?=some u->Ce wr g (k*9+j) u:=λj hj u hu=>(T (k*9+j) aj).trans<|(H j hj).trans hu
  unfold stC at cc;rw[J]at cc;have e0:=cc 0 aj _ rfl;have S:=cc 1 aj _ rfl;have e2:=cc 2 aj _ rfl;have e3:=cc 3 aj _ rfl;have e4:=cc 4 aj _ rfl;have e5:=cc 5 aj _ rfl;have e6:=cc 6 aj _ rfl;have e7:=cc 7 aj _ rfl;have e8:=cc 8 aj _ rfl;simp only[Qk]at e0;rw[doO]at f;have⟨c,a0,f⟩:=wu.1 f;have⟨O,I,f⟩:=wu.1 f;have⟨q2,K,f⟩:=wX.1 f;have a2:∀y∈bf la.A,y.x.size<=1000:=λy B=>s y pJ
  have Z:∀y∈je t,y.x.size<=1000:=λy B=>s y pJ
  have a3:∀y∈je e,y.x.size<=1000:=λy B=>s y pJ
  have L:∀y∈je nx,y.x.size<=1000:=λy B=>s y pJ
  have z:=oz (⟨D.2.2,m.2.2,L,⟨q2,K,by rw[<-ku HF,<-f];grind⟩⟩:zz5 nx/\ky6 nx/\(∀y∈je nx,y.x.size<=1000)/\∃q,doO vars tab l ms nx O.1=some q/\(q.1,(b1||c.2||O.2)||q.2)=fin);have P:=show BIs so no wr nx (cs.drop<|(k+1)*9) by simp_all
  generalize (kyk la.N).1=n at *;generalize (kyk la.N).2=i at *;generalize (!(i.t.toList==[]))=d at *;have aB:=vzk D.1 D.2.1 (w:=wr.alloc<|.cells #[.bool true,.string n.x,i_ n.v,.bool d,.string i.x,i_ i.v,.pointer p,.slice ta tn tc,.slice ea en ec] 334) no n i d ta ea tn tc en ec ct ce (C.below<|jZ _) hv a1 (hx.below<|jZ _) a2
   ⟨qj aG<|jZ _,aH.stay (λk _ x=>(jZ _).block k x),m.1.1,m.1.2,Z⟩ ⟨qj aC<|jZ _,aD.stay (λk _ x=>(jZ _).block k x),m.2.1.1,m.2.1.2,a3⟩ c a0 O I
  have X:k+1+kqq nx=len:=oM;clear cc T H V U J N s a2 Z a3 L x A I f K a0;go_wp21;refine aB.mono ?_;rintro e' w2 ⟨rfl,H2,W⟩;have F:=(zqq (jZ _) R sv.ownBlock).trans W;go_wp2;exact rdM ⟨k+1,nx,_,_,X,eu,P.ko C.blk C.sty F,z.1,z.2.1,z.2.2.1,z.2.2.2,H2,G.trans F⟩
theorem qz5:∀b:PB,zz5 b
 |.nil=>trivial
 |.node _ _ _ .nil n=>qz5 n
 |.node _ _ _ (.node _ _ _ t e) n=>⟨jjk<|qz5 t,jjk<|qz5 e,qz5 n⟩
theorem xzw(b:PB):zqv b:=jjk<|qz5 b
def zwo(vars:List MVar)(tab:kq3)(l:List PP)(ms st:List Int)(x:PX):Option Bool:=(qqv vars tab l ms st x).map λr=>(r.1==1)||r.2
theorem vzv(tx:ByteArray)(h:Mc lo w M nb vars tab)(q:w.ownsRow lo 352 4 (.slice pa pn pc) l.length (uq l))(hM:w.ownsRow lo 3 1 (.slice ma mn mc) ms.length (ms.map (Value.int .i64)))(s:w.ownsRow lo 5 1 (.slice sa sn sc) st.length (st.map (Value.int .u8)))(hv:vars.length<=1000)(j:l.length<=1000)(t:XIs xo w x (.pointer p))(z:∀y∈bf x,y.x.size<=1000)(v:zwo vars tab l ms st x=some b7):Calls prog 96 #[.agg #[.string tx,pT M,.slice pa pn pc,.slice ma mn mc,.pointer p],.slice sa sn sc] w λe w'=>rT e (.bool b7)/\oq w w':=by
 obtain⟨c,u,rfl⟩:=wX.1 v;have⟨W,g⟩:=cpy<|(w.alloc<|.cells #[.string tx,pT M,.slice pa pn pc,.slice ma mn mc,.pointer p] 208).alloc (.cells #[.string tx,pT M,.slice pa pn pc,.slice ma mn mc,.slice sa sn sc,.bool false] 269);have d:oq w W:=by rw[g];exact(jZ w).trans ((jZ _).mono ay)
 have C:w.heap.size+1<W.heap.size:=by simp_all
 have hR:W.heap[w.heap.size+1]?=some (.cells #[.string tx,pT M,.slice pa pn pc,.slice ma mn mc,.slice sa sn sc,.bool false] 269 (0,0)):=by grind [qy,World.size_alloc]
 have f:Rn lo W (w.heap.size+1) M nb vars tab l ms st (.slice sa sn sc) false:=⟨⟨tx,pa,pn,pc,ma,mn,mc,hR,qj q d,qj hM d⟩,h.below d,qj s d⟩;have k:=qwl f hv j (t.below d) z u;generalize (c.1==1)=m at *;go_in;go_wp21;rw[(oz g.symm)];refine zM k ?_;rintro D ⟨h1,i⟩;have⟨_,_,c5,_⟩:=h1.cells;have A:=d.trans<|i.toBelow (B:=w.heap.size) aj aj;cases m
 ·go_wp2;go_ret;simp_all
 ·go_wp2;go_ret;simp_all
theorem jvl(st:List Int):∀y∈st.map (Value.int .u8),y.oneCell'=true:=by intro y d;obtain⟨x,_,rfl⟩:=tY.1 d;rfl
theorem infoU8:(prog.info? 5).map (λi=>(i.zero,i.size,i.bytes))=some (some (.int .u8 0),1,1):=au
theorem zjt(p:w.ownsRow lo 5 1 (.slice sa sn sc) st.length (st.map (Value.int .u8)))(y:st.length<=1000000):Calls prog 131 #[.slice sa sn sc] w λe w'=>∃ca cn cc,rT e (.slice ca cn cc)/\w'.ownsRow w.heap.size 5 1 (.slice ca cn cc) st.length (st.map<|Value.int .u8)/\oq w w':=by
 obtain⟨d,m⟩|⟨g,cap,cur,d,m,e3,x⟩:=p.2
 ·injection d with d j f;have hn:st=[]:=Qv m;subst hn;have k:=λw=>Go.Lib.run_eql_slice_nil (P:=prog) w 95 5 none 0 0 0 0 underlying95
  go_wp2;go_ret;exact⟨none,0,0,rfl,jT,bR⟩
 ·injection d with d j f;subst d;subst j;subst f;have l:=show(w.alloc<|.cells #[] 5).ownsRow w.heap.size 5 1 (sL w.heap.size 0 0) 0 [] from⟨rfl,.inr ⟨w.heap.size,0,_,rfl,jV,qy,jV,ay,rfl,rfl⟩⟩
  have⟨v,hi,q,s,t⟩:=info_parts infoU8;have k:=λw=>Go.Lib.run_eql_slice_nil (P:=prog) w 95 5 (some (Ad g 0)) st.length sc 0 0 underlying95
  go_in;go_wp2_with (at_builtin;refine kqv rfl 95 rfl w.heap.size 5 v _ 1 1 underlying95 hi q s t rfl ak (sL w.heap.size 0 0) 0 [] rfl l (sL g st.length sc) st.length _ _ rfl (qj p<|jZ w (o:=.cells #[] 5)) (jvl st) aj aj ay ?_)
  intro z w3 i h u;obtain⟨a3,l3,c3,rfl⟩:=qh i;go_wp2;go_ret;exact⟨a3,l3,c3,rfl,i,((jZ w).grown h ay<|jo l)⟩
theorem xz4(h:w.ownsRow lo e size v n xs):∀k,v.ownBlock=some k->lo<=k:=jo h
theorem vja(h:w.ownsRow lo e size v n xs)(f:∀k,v.ownBlock=some k->B<=k):w.ownsRow B e size v n xs:=by
 refine⟨h.1,?_⟩;obtain h1|⟨g,cap,cur,d,i,e3⟩:=h.2
 ·simp_all
 ·exact .inr ⟨g,cap,cur,d,f g (by rw[d];rfl),e3⟩
theorem kxe.toBelow(h:kxe R g1 w w')(d:B<=R)(i:B<=w.heap.size)(g:∀k,g1=some k->B<=k):Below B w w':=
 ⟨h.os,h.tape,h.output,h.size,λk f=>h.block k aj aj<|λe=>by grind⟩
theorem pzc(h:w.ownsRow lo e size v n xs)(hb:∀k,v.ownBlock=some k->b+1<=k):(puts b [y0,y1,y2,y3,y4,y5] 0 w).ownsRow lo e size v n xs:=jkc (λe=>by grind) _ _ h
theorem vy8(h:Below B a w)(hb:B<=b):Below B a (puts b [y0,y1,y2,y3,y4,y5] 0 w):=qzp hb _ _ h
def kwi(vars:List MVar)(tab:kq3)(l:List PP)(ms st:List Int)(x:PX)(b:PB):Option (List Int×Int):=
 (qqv vars tab l ms st x).bind λc=>(if c.1==1 then doO vars tab l ms b st else some (st,false)).map λp=>if (c.2||p.2) then ([],2) else if c.1==1 then (p.1,1) else ([],0)
theorem jks(no:Option Nat)(tx:ByteArray)(ba:Option Addr)(bn bc:Nat)(cs:List Value)(h:Mc lo w M nb vars tab)(hP:w.ownsRow lo 352 4 (.slice pa pn pc) l.length (uq l))(hM:w.ownsRow lo 3 1 (.slice ma mn mc) ms.length (ms.map (Value.int .i64)))(hS:w.ownsRow lo 5 1 (.slice sa sn sc) st.length (st.map (Value.int .u8)))(hv:vars.length<=1000)(a1:l.length<=1000)(a2:st.length<=1000000)(hX:XIs so w x (.pointer p))(hs:∀y∈bf x,y.x.size<=1000)(H:w.ownsRow so 334 9 (.slice ba bn bc) (kqq g3) cs/\BIs so no w g3 cs/\ky6 g3/\kqq g3<=1000/\(∀y∈je g3,y.x.size<=1000))(aG:lo<=w.heap.size){g6:List Int×Int}(f:kwi vars tab l ms st x g3=some g6):Calls prog 79 #[.agg #[.string tx,pT M,.slice pa pn pc,.slice ma mn mc,.pointer p,.slice ba bn bc],.slice sa sn sc] w λe w'=>∃v,rT e (.tuple #[v,i_ g6.2])/\w'.ownsRow w.heap.size 5 1 v g6.1.length (g6.1.map<|Value.int .u8)/\oq w w':=by
 unfold kwi at f;have⟨c,hc,f⟩:=wu.1 f;have⟨d,m,f⟩:=wX.1 f;have⟨W,Q⟩:=cpy<|w.alloc (.cells #[.string tx,pT M,.slice pa pn pc,.slice ma mn mc,.pointer p,.slice ba bn bc] 178);have K:oq w W:=by rw[Q];exact jZ w
 have C:w.heap.size<W.heap.size:=by simp_all
 have O:W.heap[w.heap.size]?=some (.cells #[.string tx,pT M,.slice pa pn pc,.slice ma mn mc,.pointer p,.slice ba bn bc] 178 (0,0)):=by rw[Q];exact qy
 have a9:=zjt (qj hS K.drew) a2;have aE:oq w (W.alloc<|.cells #[e_,.pointer none,nS,nS,nS,.bool false] 269).drew:=(K.trans<|(jZ W).mono aj).drew;have aA:=zjt (qj hS aE) a2;have HZ:=show(W.alloc<|.cells #[e_,.pointer none,nS,nS,nS,.bool false] 269).drew.heap[W.heap.size]?=some (.cells #[e_,.pointer none,nS,nS,nS,.bool false] 269 (0,0)) from qy
 have t0:=kzh O;have V:=λ(wx:World) (R:Nat) (i:Option Addr) (j cc:Nat) (hb:oq w wx) (hR:Rw wx R #[.string tx,pT M,.slice pa pn pc,.slice ma mn mc,.slice i j cc,.bool false] 269) (P:wx.ownsRow lo 5 1 (.slice i j cc) st.length (st.map<|Value.int .u8))=>(⟨⟨tx,pa,pn,pc,ma,mn,mc,hR,qj hP hb,qj hM hb⟩,h.below hb,P⟩:Rn lo wx R M nb vars tab l ms st (.slice i j cc) false)
 have Y:=λ(wx:World)(R:Nat)(sv:Value)(b:Bool)(hb:oq w wx)(hR:Rn lo wx R M nb vars tab l ms st sv b)=>qwl hR hv a1 (hX.below hb) hs hc
 have U:=λ(wx wy:World)(R:Nat)(sv:Value)(b b':Bool)(hb:oq w wx)(hR:Rn lo wx R M nb vars tab l ms st sv b)(I:Kept R wx wy)(aD:Rn lo wy R M nb vars tab l ms st sv b')(q:List Int×Bool)(hq:doO vars tab l ms g3 st=some q)=>xzw g3 wy lo so R M nb no vars tab l ms st sv b' _ cs aD hv a1 (zy5 (qj H.1 hb) hR.blk hR.sty ak ak<|I.o _) ((H.2.1.stay λk _ I=>hb.block k I).ko hR.blk hR.sty<|I.o _) H.2.2.1 H.2.2.2.1 H.2.2.2.2 q hq
 have aC:=oz Q.symm;clear hc hs H Q;go_in;go_upto_region 1 with fail
 rw[ku aC];go_cut [6] from 8 to 12 (λv wx=>∃R i j cc,v=pT R/\w.heap.size<R/\Rw wx R #[.string tx,pT M,.slice pa pn pc,.slice ma mn mc,.slice i j cc,.bool false] 269/\wx.ownsRow w.heap.size 5 1 (.slice i j cc) st.length (st.map<|Value.int .u8)/\oq W wx)
 case first=>
  go_region_law ((go_simp;go_at_call 131;(first|(refine a9.mono ?_;rintro e u ⟨i,j,cc,rfl,G,g⟩;have a3:w.heap.size<u.heap.size:=(by have:=g.size;simp at this;omega);have N:=kzh ((g.block _<|by simpa using C).trans O:u.heap[w.heap.size]?=_))|(refine aA.mono ?_;rintro e u ⟨i,j,cc,rfl,G,g⟩;have a3:w.heap.size<u.heap.size:=(by have:=g.size;simp at this;omega);have N:=kzh ((g.block _ ah).trans (zy O):u.heap[w.heap.size]?=_);have z0:=kzh ((g.block _ ay).trans HZ:u.heap[W.heap.size]?=_)));dsimp only))
  all_goals
   go_wp21;go_meet
   refine⟨_,i,j,cc,rfl,?_⟩;first
   |refine⟨a3,?_,?_,?_⟩
    ·exact qy (w:=u)
    ·exact qj (qo (Qr C) G) (jZ _)
    ·exact(bR.drew.trans<|g.mono ay).alloc (by have:=g.size;simp_all) _
   |refine⟨C,?_,?_,?_⟩
    ·exact xxw (pvf ((g.block _ ay).trans HZ:u.heap[W.heap.size]?=_))
    ·exact pzc (qo ah G) (λk I=>by have:=xz4 G k I;simp_all)
    ·exact vy8 (((bR.alloc jV _).drew).trans<|g.mono ay) jV
 case rest=>
 obtain⟨R,i,j,cc,rfl,a0,hR,P,hb⟩:=hcut;have z:=K.trans<|hb.mono (Qr C);have Z:=(ku V) _ R i j cc z hR<|qo aG P;have X:=(hb.block w.heap.size C).trans O;have N:=kzh X;have a6:=Y _ R _ false z Z;have t:=λS b1 h1 s d m=>U _ S R _ false b1 z Z s h1 d m
 have L:=jo P;have a7:R≠w.heap.size:=aj;have a4:w.heap.size<=wc.heap.size:=z.size;clear hR V Y U HZ t0;go_wp21;refine zM a6 ?_;rintro S ⟨h1,s⟩;have E:=s.e (Ne.symm a7) X;have y0:=kzh E;have⟨_,r4,D,_⟩:=h1.cells;have J:=z.trans<|s.toBelow (B:=w.heap.size) (Qr a0) a4;have f:=ku f;have m:=ku m;cases F:(c.1==1)
 ·rw[F,Xy ay]at m;injection m with m;subst m;rw[F]at f;simp only[Qg,Xy (Zl)]at f;cases A:c.2
  ·rw[A]at f D;simp only[Xy (Zl)]at f;subst f;clear E t N;go_wp2;go_ret2;exact⟨_,rfl,jT,J⟩
  ·rw[A]at f D;simp only[lJ]at f;subst f;clear E t N;go_wp2;go_ret2;exact⟨_,rfl,jT,J⟩
 ·rw[F,lJ rfl]at m;rw[F,lJ rfl]at f;have a5:=t S _ h1 s d m;have a8:w.heap.size<=S.heap.size:=rP a4 s.size;clear E t N r4 D;go_wp21;refine zM a5 ?_;rintro u ⟨h2,aF⟩;have⟨_,r4,D,_⟩:=h2.cells;have T:=J.trans<|aF.toBelow (Qr a0) a8 L;have aB:=vja h2.st L;rw[QX]at D;clear L y0;cases A:(c.2||d.2)
  ·rw[A]at f D;simp only[Xy (Zl)]at f;subst f;go_wp2;go_ret2;exact⟨_,rfl,aB,T⟩
  ·rw[A]at f D;simp only[lJ]at f;subst f;go_wp2;go_ret2;exact⟨_,rfl,jT,T⟩
structure MStep where
 x:ByteArray
 u:List PP
 xy:List Int
 guard:PX
 block:PB
structure MNever where
 x:ByteArray
 u:List PP
 xy:List Int
 xp:PX
def jye(s:MStep):Prop:=s.u.length<=1000/\(∀y∈bf s.guard,y.x.size<=1000)/\ky6 s.block/\kqq s.block<=1000/\(∀y∈je s.block,y.x.size<=1000)
def zz2(lo so:Nat)(w:World)(M:Nat)(s:MStep)(cs:List Value):Prop:=
 ∃pa pn pc ma mn mc p ba bn bc bs no,cs=[.string s.x,pT M,.slice pa pn pc,.slice ma mn mc,.pointer p,.slice ba bn bc]/\w.ownsRow lo 352 4 (.slice pa pn pc) s.u.length (uq s.u)/\w.ownsRow lo 3 1 (.slice ma mn mc) s.xy.length (s.xy.map<|Value.int .i64)/\XIs so w s.guard (.pointer p)/\w.ownsRow so 334 9 (.slice ba bn bc) (kqq s.block) bs/\BIs so no w s.block bs
def qqx(lo so:Nat)(w:World)(M:Nat)(l:List MStep)(cs:List Value):Prop:=cs.length=l.length*6/\∀k (hk:k<l.length),zz2 lo so w M l[k] ((cs.drop (k*6)).take 6)
theorem pvm(h:(cs.drop (k*6)).take 6=[sv,ps,v,x0,x1,x2]):cs[k*6]?=some sv/\cs[k*6+1]?=some ps/\cs[k*6+2]?=some v/\cs[k*6+3]?=some x0/\cs[k*6+4]?=some x1/\cs[k*6+5]?=some x2:=by
 have g:∀j,j<6->cs[k*6+j]?=([sv,ps,v,x0,x1,x2]:List Value)[j]?:=λj d=>by grind
 exact⟨g 0 aj,g 1 aj,g 2 aj,g 3 aj,g 4 aj,g 5 aj⟩
def qw3(vars:List MVar)(tab:kq3)(st:List Int)(t:List UInt8):List MStep->Option (List Int×Bool)
 |[]=>some ([],false)
 |s::l=>if s.x.toList==t then (kwi vars tab s.u s.xy st s.guard s.block).map λr=>(r.1,r.2==1) else qw3 vars tab st t l
theorem xw4(vars:List MVar)(tab:kq3)(st:List Int)(t:List UInt8):∀(l:List MStep)(k:Nat),(∀i (hi:i<l.length),i<k->(l[i].x.toList==t)=false)->qw3 vars tab st t l=qw3 vars tab st t (l.drop k)
 |[],k,_=>ay
 |s::l,0,_=>rfl
 |s::l,k+1,h=>by have d:=h 0 ay aj;simp only[JU]at d;rw[qw3,d,Xj];exact xw4 vars tab st t l k (λi hi e=>by grind)
theorem xyd{g7:List MStep}{g8:ByteArray}(h:Mc lo w M nb vars tab)(hS:w.ownsRow lo 5 1 (.slice sa sn sc) st.length (st.map (Value.int .u8)))(a1:Ce w M 0 (.slice a0 g7.length R))(hT:w.ownsRow lo 178 6 (.slice a0 g7.length R) g7.length cs)(hI:qqx lo so w M g7 cs)(P:∀s∈g7,jye s)(hv:vars.length<=1000)(U:st.length<=1000000)(a4:g7.length<=1000000)(N:lo<=w.heap.size)(D:qw3 vars tab st g8.toList g7=some g0):Calls prog 55 #[pT M,.slice sa sn sc,.string g8] w λe w'=>∃v,rT e (.tuple #[v,.bool g0.2])/\w'.ownsRow w.heap.size 5 1 v g0.1.length (g0.1.map<|Value.int .u8)/\oq w w':=by
 have⟨xa,cap,e1,HW⟩:=qp hT;have F:=oz D;have E:=λ(wx:World) (d:oq w wx) (s:MStep) (t:jye s) pa pn pc ma mn mc p ba bn bc bs no (h1:w.ownsRow lo 352 4 (.slice pa pn pc) s.u.length (uq s.u)) (y:w.ownsRow lo 3 1 (.slice ma mn mc) s.xy.length (s.xy.map<|Value.int .i64)) (z:XIs so w s.guard (.pointer p)) (A:w.ownsRow so 334 9 (.slice ba bn bc) (kqq s.block) bs) (B:BIs so no w s.block bs) (g0:List Int×Int) (D:kwi vars tab s.u s.xy st s.guard s.block=some g0)=>
  jks no s.x ba bn bc bs (h.below d) (qj h1 d) (qj y d) (qj hS d) hv t.1 U (z.below d) t.2.1 ⟨qj A d,B.stay (λk _ L=>d.block k L),t.2.2.1,t.2.2.2.1,t.2.2.2.2⟩ (rP N d.size) D
 go_in;go_wp21;go_loopw [9,17] (λ_ i wr=>∃k:Nat,k<=g7.length/\i=i_ k/\(∀i (hi:i<g7.length),i<k->(g7[i].x.toList==g8.toList)=false)/\oq w wr) (λ_ i _=>g7.length-(intOf i).toNat)
 ·grind [Below.refl]
 obtain⟨k,L,rfl,u,d⟩:=hrel;have l:=d.size;by_cases m:k<g7.length
 ·obtain⟨g,rfl,a3,K,J⟩:=HW k m;have⟨a2,x⟩:=hI;have⟨pa,pn,pc,ma,mn,mc,p,ba,bn,bc,bs,no,e,h1,y,z,A,B⟩:=x k m;have⟨V,s1,W,s3,X,Y⟩:=pvm e;have cc:∀j,j<g7.length*6->wr.cell? (Ad g j)=cs[j]?:=λj hj=>(d.cell (p:=⟨g,j,none⟩) K).trans (J j hj)
  have e0:=(cc (k*6) aj).trans V;have e1:=(cc (k*6+1) aj).trans s1;have e2:=(cc (k*6+2) aj).trans W;have e3:=(cc (k*6+3) aj).trans s3;have e4:=(cc (k*6+4) aj).trans X;have e5:=(cc (k*6+5) aj).trans Y;have f:=(xw4 vars tab st g8.toList g7 k u).symm.trans F;rw[rU m,qw3]at f;have H:=λ(C:(g7[k].x.toList==g8.toList)=false)=>(show ∀i (hi:i<g7.length),i<k+1->(g7[i].x.toList==g8.toList)=false from λi hi h=>by grind)
  have Z:=λ(q:List Int×Int)(Q:kwi vars tab g7[k].u g7[k].xy st g7[k].guard g7[k].block=some q)=>E (wr.alloc<|.cells #[.string g7[k].x,pT M,.slice pa pn pc,.slice ma mn mc,.pointer p,.slice ba bn bc] 178) (d.alloc l _) g7[k] (P g7[k] (wZ _)) pa pn pc ma mn mc p ba bn bc bs no h1 y z A B q Q
  generalize g7[k]=s at *;clear cc J x e V s1 W s3 X Y;cases C:(s.x.toList==g8.toList)
  ·have G:=H C;go_wp2;exact rdM ⟨k+1,aj,eu,G,d.alloc l _⟩
  ·rw[C,lJ rfl]at f;have⟨q,S,T⟩:=wX.1 f;subst T;go_wp21;refine(Z q S).mono ?_;rintro e w2 ⟨v,rfl,O,I⟩;go_wp2;go_ret2;exact⟨_,rfl,(qo (rP l (by simp:wr.heap.size<=(wr.alloc _).heap.size)) O),((d.alloc l _).trans<|I.mono (rP l ay))⟩
 ·have f:=(xw4 vars tab st g8.toList g7 g7.length<|λi hi _=>u i hi aj).symm.trans F;rw[sK,qw3]at f;injection f with f;subst f;go_wp2
  go_ret2;simp_all [rC]
theorem vwk(n:Nat):(madeCells (Value.int .u8 0).cells (n*1)).toList=(List.replicate n (0:Int)).map (Value.int .u8):=by rw[show(Value.int .u8 0).cells=#[Value.int .u8 0] from rfl,toList_madeCells_one,Jb,List.map_replicate]
theorem zw8(w:World)(M n:Nat)(hM:Ce w M 5 (i_ n))(hn:n<=1000000):Calls prog 54 #[pT M] w λe w'=>∃v,e=.returned v/\w'.ownsRow w.heap.size 5 1 v n ((List.replicate n (0:Int)).map<|Value.int .u8)/\oq w w':=by
 have⟨m,hi,g,h,p⟩:=info_parts infoU8;have⟨w',l,d,f⟩:=run_makeSlice_full (P:=prog) (w:=w) w.heap.size 95 5 m _ 1 underlying95 hi g h .i64 .i64 n aj (by grind) iq<|jV;have i:=show w'.ownsRow w.heap.size 5 1 (sL w.heap.size n n) n ((List.replicate n (0:Int)).map<|Value.int .u8) by rw[vwk]at d;omega
 go_wp2;go_ret;exact⟨_,rfl,i,(bR.grown f jV (λk j=>by cases j):oq w w')⟩
def kvh(i:Nat):ByteArray:=⟨#[(48+i).toUInt8]⟩
theorem qzq(i:Nat)(hi:i<10)(w:World):Calls prog 28 #[i_ i] w λe w'=>rT e (.string (kvh i))/\w'=w:=by
 have h:i=0\/i=1\/i=2\/i=3\/i=4\/i=5\/i=6\/i=7\/i=8\/i=9:=aj;obtain rfl|rfl|rfl|rfl|rfl|rfl|rfl|rfl|rfl|rfl:=h;all_goals
  go_wp2;go_ret;exact⟨rfl,rfl⟩
theorem infoStr0:(prog.info? 9).map (λi=>(i.zero,i.size,i.bytes))=some (some e_,1,16):=au
def kvx(n:Nat):List ByteArray:=(List.range n).map kvh
theorem pzn(k:Nat):kvx (k+1)=kvx k++[kvh k]:=by grind [kvx,List.range_succ]
theorem kx1(k:Nat):(kvx k).length=k:=by simp[kvx]
def xk1(w:World)(n:Nat)(x i:Value)(wr:World):Prop:=
 ∃(k:Nat)(la:Option Addr)(ll lc:Nat),k<=n/\i=i_ k/\x=.slice la ll lc/\wr.ownsRow w.heap.size 9 1 (.slice la ll lc) k ((kvx k).map Value.string)/\oq w wr
theorem qvr(n:Nat)(hn:n<=10)(w:World):Calls prog 167 #[i_ n] w λe w'=>∃v,e=.returned v/\w'.ownsRow w.heap.size 9 1 v n ((kvx n).map Value.string)/\oq w w':=by
 have u:=show xk1 w n nS (i_ 0) w from⟨0,none,0,0,jG,rfl,rfl,jT,bR⟩
 go_in;go_wp21;go_loopw [3,4,6] (λx _ i wr=>xk1 w n x i wr) (λ_ _ i _=>n-(intOf i).toNat);exact u;obtain⟨k,la,ll,lc,A,rfl,rfl,g,f⟩:=hrel;have s:=f.size;by_cases y:k<n
 ·have h:k<10:=by omega
  have m:=qzq k h wr;have t:=oz<|pzn k;generalize kvh k=z at *;go_wp2_with (first
   |(go_at_call 28;refine zM m ?_;rintro C rfl)
   |(at_builtin;refine apO (g.alloc _) ?_))
  intro B w' j d _ q;obtain⟨a3,l3,c3,rfl⟩:=qh j;have p:=show w'.ownsRow w.heap.size 9 1 (.slice a3 l3 c3) (k+1) ((kvx<|k+1).map Value.string) by grind [ku]
  have l:=(f.alloc s _).grown d ah<|jo g;clear q;go_wp2
  exact rdM ⟨k+1,a3,l3,c3,aj,eu,rfl,p,l⟩
 ·have:k=n:=by omega
  subst this;go_wp2;go_ret;exact⟨_,rfl,g,f⟩
def xk3(w W:World)(l:List Tok)(x i:Value)(wr:World):Prop:=
 ∃(k:Nat)(la:Option Addr)(ll lc:Nat),k<=l.length/\i=.int .i64 k/\x=.slice la ll lc/\wr.ownsRow W.heap.size 9 1 (.slice la ll lc) k ((l.take k).map<|λt=>Value.string t.x)/\oq W wr
theorem zwn{g9:List Tok}(nm:Tok)(hM:w.ownsRow lo 107 2 (.slice ma mn mc) g9.length (kjq g9))(O:g9.length<=1000):Calls prog 168 #[.agg #[.string nm.x,i_ nm.v,.slice ma mn mc]] w λe w'=>∃v,e=.returned v/\w'.ownsRow w.heap.size 9 1 v g9.length (g9.map<|λt=>Value.string t.x)/\oq w w':=by
 have⟨W,B⟩:=cpy<|w.alloc (.cells #[.string nm.x,i_ nm.v,.slice ma mn mc] 114);have u:oq w W:=by rw[B];exact jZ w
 have z:w.heap.size<W.heap.size:=by simp_all
 obtain⟨xa,cap,h,(K:Hid _)⟩:=qp<|qj hM u;injection h with h L e3;subst h;subst L;subst e3;have J:=show xk3 w W g9 nS (i_ 0) W from⟨0,none,0,0,jG,rfl,rfl,jT,bR⟩
 have E:=oz B.symm;clear B;go_in;go_wp21;rw[ku E];go_loopw [3,5,9] (λx _ i wr=>xk3 w W g9 x i wr) (λ_ _ i _=>g9.length-(intOf i).toNat);exact J;obtain⟨k,la,ll,lc,N,rfl,rfl,m,l⟩:=hrel;have I:=l.size;by_cases y:k<g9.length
 ·obtain⟨g,rfl,M,H,G⟩:=ku K k y;have A:=λj (C:j<2)=>kqo kzy 2 (λ_=>rfl) g9 k j y C
  have cc:∀j,j<g9.length*2->wr.cell? (Ad g j)=(kjq g9)[j]?:=λj C=>(l.cell (p:=⟨g,j,none⟩) H).trans<|G j C
  have e0:=(cc (k*2+0) aj).trans<|A 0 aj;have h:=(cc (k*2+1) aj).trans<|A 1 aj;simp only[kzy,sW,sU,Qk]at e0 h;have q:=oz (by grind [List.take_succ_eq_append_getElem]:(g9.take<|k+1).map (λt=>Value.string t.x)=(g9.take k).map (λt=>Value.string t.x)++[.string g9[k].x]);generalize g9[k]=t at *;clear cc A G;go_wp2_with (at_builtin;refine apO ((m.alloc _).alloc _) ?_)
  intro P w' D s _ F;obtain⟨a3,l3,c3,rfl⟩:=qh D;have f:=show w'.ownsRow W.heap.size 9 1 (.slice a3 l3 c3) (k+1) ((g9.take<|k+1).map<|λt=>Value.string t.x) by rw[ku q,ZY];omega
  have d:=((l.alloc I _).alloc ah _).grown s ah<|jo m;clear F;go_wp2
  exact rdM ⟨k+1,a3,l3,c3,aj,eu,rfl,f,d⟩
 ·have:k=g9.length:=by omega
  subst this;rw[Qc]at m;have f:=qo (Qr z) m;have d:=u.trans<|l.mono (Qr z);go_wp2
  go_ret;exact⟨_,rfl,f,d⟩
def kkq:List PSet->List UInt8->Option Nat
 |[],_=>none
 |x::l,s=>if x.y.x.toList==s then some 0 else (kkq l s).map (·+1)
def kji(l:List PSet)(s:List UInt8):Int:=match kkq l s with|some k=>k|none=>-1
theorem zkw:∀(l:List PSet)(k:Nat)(s:List UInt8),(∀i (hi:i<l.length),i<k->(l[i].y.x.toList==s)=false)->k<=l.length->kkq l s=(kkq (l.drop k) s).map (·+k)
 |[],k,s,_,e=>by simp_all
 |x::l,0,s,_,_=>ay
 |x::l,k+1,s,h,e=>by have d:=h 0 ay aj;simp only[JU]at d;have:=zkw l k s (λi hi e=>by grind) (by simp_all);rw[kkq,d,Xj,Xy ay,this,Option.map_map];rfl
theorem jyy(I:w.ownsRow lo 111 4 (.slice ma M nb) h8.length (jx2 h8))(f:Rw w R #[.string b8.x,i_ b8.v] 107)(L:h8.length<=1000):Calls prog 169 #[.slice ma M nb,.func (.func 170) #[] #[pT R]] w λe w'=>rT e (i_<|kji h8 b8.x.toList)/\oq w w':=by
 obtain⟨O,P,l,(G:Hid _)⟩:=qp I;injection l with l y e3;subst l;subst y;subst e3;have F:=oz f;have D:=wQ f;clear f;go_in
 go_wp21;go_loopw [5,8] (λ_ i wr=>∃k:Nat,k<=h8.length/\i=i_ k/\(∀i (hi:i<h8.length),i<k->(h8[i].y.x.toList==b8.x.toList)=false)/\oq w wr) (λ_ i _=>h8.length-(intOf i).toNat)
 ·grind [Below.refl]
 obtain⟨k,H,rfl,(t:Hid _),d⟩:=hrel;have v:=d.size;have N:=kj6<|(d.block R D).trans F;have J:R<wr.heap.size:=aj;by_cases q:k<h8.length
 ·obtain⟨g,rfl,K,E,f⟩:=ku G k q;have m:=λj (z:j<4)=>kqo zjw 4 (λ_=>rfl) h8 k j q z
  have cc:∀j,j<h8.length*4->wr.cell? (Ad g j)=(jx2 h8)[j]?:=λj z=>(d.cell (p:=⟨g,j,none⟩) E).trans<|f j z
  have e0:=(cc (k*4+0) aj).trans<|m 0 aj;have l:=(cc (k*4+1) aj).trans<|m 1 aj;have y:=(cc (k*4+2) aj).trans<|m 2 aj;have e3:=(cc (k*4+3) aj).trans<|m 3 aj;simp only[zjw,sW,sU,Qk]at e0 l y e3;have u:=oz<|zkw h8 k b8.x.toList t H;rw[rU q,kkq]at u;have C:=oz (λ(A:(h8[k].y.x.toList==b8.x.toList)=false)=>(show ∀i (hi:i<h8.length),i<k+1->(h8[i].y.x.toList==b8.x.toList)=false from λi hi h=>by grind [ku]))
  generalize h8[k]=p at *;clear cc m f;cases A:(p.y.x.toList==b8.x.toList)
  ·have B:=oz<|C A;go_wp2
   exact rdM ⟨k+1,aj,eu,B,d.alloc v _⟩
  ·have x:=oz (by rw[kji,ku u,A];simp:kji h8 b8.x.toList=k);go_wp2;go_ret;exact⟨kqi x.symm,d.alloc v _⟩
 ·have s:=zkw h8 h8.length b8.x.toList (λi hi _=>t i hi aj)<|jV;rw[sK,kkq]at s;have x:=oz (by rw[kji,s];rfl:kji h8 b8.x.toList=-1);clear s;go_wp2
  go_ret;exact⟨kqi x.symm,d⟩
theorem qxu(n:Tok)(a1 a2 a3 a4:Option Addr)(n1 n2 n3 n4:Nat)(c1 c2 c3 c4:Nat)(m:w.ownsRow lo 111 4 (.slice a0 n0 c0) h8.length (jx2 h8))(l:h8.length<=1000):Calls prog 99 #[.agg #[.slice a0 n0 c0,.slice a1 n1 c1,.slice a2 n2 c2,.slice a3 n3 c3,.slice a4 n4 c4],ptV n] w λe w'=>rT e (i_<|kji h8 n.x.toList)/\oq w w':=by
 have⟨W,f⟩:=cpy<|(w.alloc<|.cells #[.slice a0 n0 c0,.slice a1 n1 c1,.slice a2 n2 c2,.slice a3 n3 c3,.slice a4 n4 c4] 68).alloc (.cells #[.string n.x,i_ n.v] 107);have d:oq w W:=by rw[f];exact(jZ w).trans ((jZ _).mono ay)
 have hN:W.heap[w.heap.size+1]?=some (.cells #[.string n.x,i_ n.v] 107 (0,0)):=by grind [qy,World.size_alloc]
 have k:=jyy (qj m d) hN l;have j:w.heap.size<=W.heap.size:=d.size;have h:=oz f.symm;clear hN f;generalize kji h8 n.x.toList=y at *;unfold ptV;go_in;go_wp21;rw[ku h];refine zM k λp i=>?_;have g:=d.trans<|i.mono j;go_wp2
 go_ret;exact⟨rfl,g⟩
theorem qwx(a1 a2 a3 a4:Option Addr)(n1 n2 n3 n4:Nat)(c1 c2 c3 c4:Nat)(B:w.ownsRow lo 111 4 (.slice a0 n0 c0) h8.length (jx2 h8))(F:h8.length<=1000)(A:kkq h8 i.x.toList=some k)(C:h8[k]?=some h9):Calls prog 97 #[.agg #[.slice a0 n0 c0,.slice a1 n1 c1,.slice a2 n2 c2,.slice a3 n3 c3,.slice a4 n4 c4],ptV i] w λe w'=>rT e (i_<|mg h9.size.x)/\oq w w':=by
 have⟨q,m⟩:=rY.1 C;have⟨W,j⟩:=cpy<|(w.alloc<|.cells #[.slice a0 n0 c0,.slice a1 n1 c1,.slice a2 n2 c2,.slice a3 n3 c3,.slice a4 n4 c4] 68).alloc (.cells #[.string i.x,i_ i.v] 107);have h:oq w W:=pY;have I:w.heap.size+1<W.heap.size:=by simp_all
 have v:Hid (W.heap[w.heap.size]?=some (.cells #[.slice a0 n0 c0,.slice a1 n1 c1,.slice a2 n2 c2,.slice a3 n3 c3,.slice a4 n4 c4] 68 (0,0))):=by rw[j];exact zy<|qy
 have hN:W.heap[w.heap.size+1]?=some (.cells #[.string i.x,i_ i.v] 107 (0,0)):=by grind [qy,World.size_alloc]
 have l:=qxu i a1 a2 a3 a4 n1 n2 n3 n4 c1 c2 c3 c4 (qj B h.drew) F;rw[show kji h8 i.x.toList=(k:Int) by rw[kji,A]]at l;have⟨O,P,t,f⟩:=qp<|qj B h;injection t with t E e3;subst t;subst E;subst e3;obtain⟨g,rfl,G,z,y⟩:=f k q;have s:=(y (k*4+2) aj).trans (kqo zjw 4 (λ_=>rfl) h8 k 2 q aj);simp only[zjw,sW,sU]at s;rw[m]at s;have K:=jl v;have J:=kj6 hN;have⟨D,x⟩:=jS hN j.symm;have H:g<W.heap.size:=z;clear f y hN j C m A;unfold ptV at *;go_in
 go_upto_region 1 with fail
 rw[ku x];go_region_held3 (λw'=>w'.cell? (Ad w.heap.size 0)=some (sL g h8.length c0)/\w'.cell? (Ad w.heap.size 1)=some (.slice a1 n1 c1)/\w'.cell? (Ad w.heap.size 2)=some (.slice a2 n2 c2)/\w'.cell? (Ad w.heap.size 3)=some (.slice a3 n3 c3)/\w'.cell? (Ad w.heap.size 4)=some (.slice a4 n4 c4)/\w'.cell? (Ad (w.heap.size+1) 0)=some (.string i.x)/\w'.cell? (Ad (w.heap.size+1) 1)=some (i_ i.v)/\w'.cell? (Ad g (k*4+2))=some (i_<|mg h9.size.x))
  (first|simp_all|simp_all)
  ((go_at_call 99;refine zM l λN d=>?_;have L:=jl ((d.block w.heap.size (by show w.heap.size<W.heap.size;omega)).trans v);have M:=kj6 ((d.block (w.heap.size+1)<|by simp_all).trans D);have z0:=(d.cell (p:=⟨g,k*4+2,none⟩)<|by simp_all).trans s;have u:=h.drew.trans (d.mono (by show w.heap.size<=W.heap.size;omega)) ;dsimp only))
 go_wp2;go_ret;exact⟨rfl,u⟩
theorem qxf(w:World)(f t:Int)(ta:Nat)(n:Tok)(a0 a1 a2 a3 a4:Option Addr)(n0 n1 n2 n3 n4 c0 c1 c2 c3 c4:Nat)(k:Nat)(z:k<=10)(h:(f==0&&k==2)=true\/(f==0)=false/\(f==1)=true/\t+1=k):Calls prog 98 #[.agg #[.slice a0 n0 c0,.slice a1 n1 c1,.slice a2 n2 c2,.slice a3 n3 c3,.slice a4 n4 c4],.agg #[i_ f,i_ t,i_ ta,.string n.x,i_ n.v]] w λe w'=>∃v,e=.returned v/\w'.ownsRow w.heap.size 9 1 v k ((kvx k).map Value.string)/\oq w w':=by
 have⟨W,m⟩:=cpy<|(w.alloc<|.cells #[.slice a0 n0 c0,.slice a1 n1 c1,.slice a2 n2 c2,.slice a3 n3 c3,.slice a4 n4 c4] 68).alloc (.cells #[i_ f,i_ t,i_ ta,.string n.x,i_ n.v] 119);have g:oq w W:=by rw[m];exact(jZ w).trans ((jZ _).mono ay)
 have q:=qvr k z W;have d:=g.size;have i:=oz m.symm;clear m;obtain h|⟨x,h1,B⟩:=h
 ·rw[rG]at h;have⟨x,y⟩:=h;have s:k=2:=by simp_all
  subst s;clear y;go_in;go_wp21;rw[ku i];refine q.mono ?_;rintro e A ⟨v,rfl,p,hb⟩;have l:=qo d p;have j:=g.trans<|hb.mono d;go_wp2
  go_ret;exact⟨_,rfl,l,j⟩
 ·have u:t=(k:Int)-1:=by omega
  subst u;go_in;go_wp21;rw[ku i];refine q.mono ?_;rintro e A ⟨v,rfl,p,hb⟩;have l:=qo d p;have j:=g.trans<|hb.mono d;go_wp2
  go_ret;exact⟨_,rfl,l,j⟩
def kwe:List PKind->List UInt8->Option PKind
 |[],_=>none
 |x::l,s=>if x.y.x.toList==s then some x else kwe l s
theorem zq3:∀(l:List PKind)(k:Nat)(s:List UInt8),(∀i (hi:i<l.length),i<k->(l[i].y.x.toList==s)=false)->kwe l s=kwe (l.drop k) s
 |[],k,s,_=>ay
 |x::l,0,s,_=>rfl
 |x::l,k+1,s,h=>by have d:=h 0 ay aj;simp only[JU]at d;rw[kwe,d,Xj];exact zq3 l k s (λi hi e=>by grind)
theorem zwp(t:Int)(ta:Nat)(a0:Option Addr)(a2 a3 a4:Option Addr)(n0:Nat)(n2 n3 n4 c0:Nat)(c2 c3 c4:Nat)(ho:w.ownsRow lo 114 3 (.slice a1 n1 c1) ks.length cs)(T:kvp lo w ks cs)(hl:ks.length<=1000)(z:∀x∈ks,x.i.length<=1000)(h0:(f==0)=false)(h1:(f==1)=false){i1:PKind}(y:kwe ks b8.x.toList=some i1):Calls prog 98 #[.agg #[.slice a0 n0 c0,.slice a1 n1 c1,.slice a2 n2 c2,.slice a3 n3 c3,.slice a4 n4 c4],.agg #[i_ f,i_ t,i_ ta,.string b8.x,i_ b8.v]] w λe w'=>∃v,e=.returned v/\w'.ownsRow w.heap.size 9 1 v i1.i.length (i1.i.map<|λt=>Value.string t.x)/\oq w w':=by
 have⟨W,A⟩:=cpy<|(w.alloc<|.cells #[.slice a0 n0 c0,.slice a1 n1 c1,.slice a2 n2 c2,.slice a3 n3 c3,.slice a4 n4 c4] 68).alloc (.cells #[i_ f,i_ t,i_ ta,.string b8.x,i_ b8.v] 119);have m:oq w W:=by rw[A];exact(jZ w).trans ((jZ _).mono ay)
 have V:w.heap.size+1<W.heap.size:=by simp_all
 have O:W.heap[w.heap.size+1]?=some (.cells #[i_ f,i_ t,i_ ta,.string b8.x,i_ b8.v] 119 (0,0)):=by grind [qy,World.size_alloc]
 obtain⟨ya,yc,u,(HW:Hid _)⟩:=qp<|qj ho m;injection u with u N e3;subst u;subst N;subst e3;have F:=show kvp lo W ks cs from T.stay λk _ S=>m.block k S
 have⟨Z,M,E,G⟩:=jE O A.symm y z;clear O A y z;go_in;go_wp21;rw[ku M];go_loopw [6,22] (λ_ i wr=>∃k:Nat,k<=ks.length/\i=i_ k/\(∀i (hi:i<ks.length),i<k->(ks[i].y.x.toList==b8.x.toList)=false)/\oq W wr) (λ_ i _=>ks.length-(intOf i).toNat)
 ·grind [Below.refl]
 obtain⟨k,S,rfl,(I:Hid _),l⟩:=hrel;have s:=l.size;have m0:=jl<|(l.block (w.heap.size+1) V).trans Z;have a5:w.heap.size+1<wr.heap.size:=aj;have q:k<ks.length:=by grind [zq3,ku,List.drop_length,kwe]
 obtain⟨g,rfl,a6,R,Q⟩:=ku HW k q;have⟨ma,mn,mc,X,s1,Y,B⟩:=jjh k q F;have cc:∀j,j<ks.length*3->wr.cell? (Ad g j)=cs[j]?:=λj hj=>(l.cell (p:=⟨g,j,none⟩) R).trans<|Q j hj
 have e0:=(cc (k*3) aj).trans X;have u:=(cc (k*3+1) aj).trans s1;have N:=(cc (k*3+2) aj).trans Y;have d:=(zq3 ks k b8.x.toList I).symm.trans E;rw[rU q,kwe]at d;have L:=oz (λ(C:(ks[k].y.x.toList==b8.x.toList)=false)=>(show ∀i (hi:i<ks.length),i<k+1->(ks[i].y.x.toList==b8.x.toList)=false from λi hi h=>by grind [ku]))
 have H:=zwn (w:=wr.alloc<|.cells #[.string ks[k].y.x,i_ ks[k].y.v,.slice ma mn mc] 114) ks[k].y (qj B<|l.alloc s _) (G _<|wZ _);generalize ks[k]=p at *;clear cc Q X s1 Y;cases C:(p.y.x.toList==b8.x.toList)
 ·have K:=oz<|L C;clear d;go_wp2
  exact rdM ⟨k+1,aj,eu,K,l.alloc s _⟩
 ·rw[C,lJ rfl]at d;injection d with d;subst d;go_wp21
  refine H.mono ?_;rintro e w2 ⟨v,rfl,U,P⟩;have J:=oz (qo ah U:w2.ownsRow w.heap.size 9 1 v _ _);have D:=m.trans<|((l.alloc s _).mono aj).trans (P.mono ah);go_wp2
  go_ret;exact⟨_,rfl,J,D⟩
theorem zyh(t:Int)(ta:Nat)(a2 a3 a4:Option Addr)(n2 n3 n4:Nat)(c2 c3 c4:Nat)(ho:w.ownsRow lo 114 3 (.slice a1 n1 c1) ks.length cs)(a9:kvp lo w ks cs)(hl:ks.length<=1000)(aE:w.ownsRow lo 111 4 (.slice a0 n0 c0) h8.length (jx2 h8))(aD:h8.length<=1000)(C:kkq h8 b8.x.toList=some R)(K:h8[R]?=some h9)(hm:mg h9.size.x=M)(N:M<=10)(h0:(f==0)=false)(h1:(f==1)=false)(I:kwe ks b8.x.toList=none):Calls prog 98 #[.agg #[.slice a0 n0 c0,.slice a1 n1 c1,.slice a2 n2 c2,.slice a3 n3 c3,.slice a4 n4 c4],.agg #[i_ f,i_ t,i_ ta,.string b8.x,i_ b8.v]] w λe w'=>∃v,e=.returned v/\w'.ownsRow w.heap.size 9 1 v (M+1) (Value.string ⟨#[45]⟩::(kvx M).map Value.string)/\oq w w':=by
 have⟨W,B⟩:=cpy<|(w.alloc<|.cells #[.slice a0 n0 c0,.slice a1 n1 c1,.slice a2 n2 c2,.slice a3 n3 c3,.slice a4 n4 c4] 68).alloc (.cells #[i_ f,i_ t,i_ ta,.string b8.x,i_ b8.v] 119);have j:oq w W:=by rw[B];exact(jZ w).trans ((jZ _).mono ay)
 have aC:w.heap.size+1<W.heap.size:=by simp_all
 have hS:W.heap[w.heap.size+1]?=some (.cells #[i_ f,i_ t,i_ ta,.string b8.x,i_ b8.v] 119 (0,0)):=by grind [qy,World.size_alloc]
 obtain⟨ya,yc,A,(HW:Hid _)⟩:=qp<|qj ho j;injection A with A e2 e3;subst A;subst e2;subst e3;have T:=show kvp lo W ks cs from a9.stay λk _ hk=>j.block k hk
 have⟨HS,a7,S⟩:=jF hS B.symm I;have HD:Hid (W.heap[w.heap.size]?=some (.cells #[.slice a0 n0 c0,.slice a1 ks.length c1,.slice a2 n2 c2,.slice a3 n3 c3,.slice a4 n4 c4] 68 (0,0))):=by rw[B];exact zy<|qy
 have H:=oz (λ(wx:World)(hb:oq w wx)=>qwx a1 a2 a3 a4 ks.length n2 n3 n4 c1 c2 c3 c4 (qj aE hb) aD C K);rw[hm]at H;have⟨i0,hi,aG,aH,aI⟩:=info_parts infoStr0;clear hS B I K C;go_in;go_wp21;rw[ku a7];go_loopw [6,22] (λ_ i wr=>∃k:Nat,k<=ks.length/\i=i_ k/\(∀i (hi:i<ks.length),i<k->(ks[i].y.x.toList==b8.x.toList)=false)/\oq W wr) (λ_ i _=>ks.length-(intOf i).toNat)
 ·grind [Below.refl]
 obtain⟨k,hk,rfl,(U:Hid _),d⟩:=hrel;have aF:=d.size;have m0:=jl<|(d.block (w.heap.size+1) aC).trans HS;have aK:w.heap.size+1<wr.heap.size:=aj;by_cases u:k<ks.length
 ·obtain⟨g,rfl,aL,a8,hc⟩:=ku HW k u;have⟨ma,mn,mc,s0,s1,s2,aJ⟩:=jjh k u T;have cc:∀R,R<ks.length*3->wr.cell? (Ad g R)=cs[R]?:=λR C=>(d.cell (p:=⟨g,R,none⟩) a8).trans (hc R C)
  have e0:=(cc (k*3) aj).trans s0;have A:=(cc (k*3+1) aj).trans s1;have e2:=(cc (k*3+2) aj).trans s2;have J:=(zq3 ks k b8.x.toList U).symm.trans S;rw[rU u,kwe]at J;have Z:=oz (λ(hq:(ks[k].y.x.toList==b8.x.toList)=false)=>(show ∀i (hi:i<ks.length),i<k+1->(ks[i].y.x.toList==b8.x.toList)=false from λi hi h=>by grind [ku]))
  have aA:(ks[k].y.x.toList==b8.x.toList)=false:=by grind
  have Y:=oz<|Z aA;generalize ks[k]=p at *;clear cc hc s0 s1 s2 J;go_wp2
  exact rdM ⟨k+1,aj,eu,Y,d.alloc aF _⟩
 ·have q0:=jl<|(d.block w.heap.size aj).trans HD;have aN:w.heap.size<wr.heap.size:=aj;have E:oq w wr:=j.trans<|d.mono aj;have l:=H (wr.alloc<|.cells #[.string ⟨#[45]⟩] 9)<|E.alloc aj _;unfold ptV at l;go_wp21
  refine zM l λw2 m=>?_;have aB:=m.size;have z:=qj (⟨rfl,.inr ⟨wr.heap.size,1,_,rfl,aj,qy,jV,iq,rfl,rfl⟩⟩:(wr.alloc<|.cells #[.string ⟨#[45]⟩] 9).ownsRow w.heap.size 9 1 (sL wr.heap.size 1 1) 1 [.string ⟨#[45]⟩]) m;have O:=(E.alloc aj _).trans<|m.mono ah;have V:=qvr M N w2;simp at aB;go_wp21
  refine V.mono ?_;rintro e w3 ⟨v3,rfl,G,q⟩;have aM:=q.size;obtain⟨a5,l5,c5,rfl⟩:=qh G;have F:=qj z q;have P:=O.trans<|q.mono aj;go_wp2_with (at_builtin;refine kqv rfl 22 rfl w.heap.size 9 i0 _ 1 16 underlying22 hi aG aH aI rfl ak (sL wr.heap.size 1 1) 1 _ rfl F (.slice a5 l5 c5) M _ _ rfl G (by intro y hy;obtain⟨x,_,rfl⟩:=tY.1 hy;rfl) iq aj aj ?_)
  intro v4 w4 D s L;obtain⟨a6,l6,c6,rfl⟩:=qh D;have X:=show w4.ownsRow w.heap.size 9 1 (.slice a6 l6 c6) (M+1) (Value.string ⟨#[45]⟩::(kvx M).map Value.string) by grind
  have Q:=P.grown s aj<|jo F;clear L;go_wp2
  go_ret;exact⟨_,rfl,X,Q⟩
end Go.Proofs.YtpmcnonmkghokaaGreatDoor

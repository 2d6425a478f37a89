import Derived.Test.YtpmcnonmkghokaaGreatDoorT01
import Derived.Deep.AppendLies
import Derived.Deep.RegionLaw
import Derived.Deep.DrawnRows
import Derived.Deep.CutRange
import Derived.Laws.AppendOwnNone
import Derived.Deep.RegionWith
set_option maxRecDepth 100000
set_option maxHeartbeats 4000000
set_option linter.unusedVariables false
set_option linter.unusedSimpArgs false
namespace Go.Proofs.YtpmcnonmkghokaaGreatDoor
open Go.Proofs.Tryz Go.RowKit
attribute [local go_sem ↓] Go.wp_at_zero Go.wp_at_succ
variable {e7:Act}{ops:Array Oper}{c:Bool}{g7 g8 op:ByteArray}{g9:ELab}{Q:Exit->Act->World->Prop}{e3:Int}{rest:List Oper}{e5:List PP}{p:List PP×RS}{L acc l:List Tok}{b7:List Tok×RS}{cs ds xs zs:List Value}{A B B0 B1 F P b base e f lo lo' n size tag vc vn:Nat}{o:Obj}{e9:Oper}{e8 x:Operand}{va:Option Addr}{no no':Option Nat}{a6:PB}{b2 fin:PB×RS}{b9:PRule}{t:PTree}{a0 g4:PX}{g:PX×RS}{s s' s1 s3 st:RS}{blk:RS->PB×RS}{a5:SLab}{name:Tok}{k:Tok×RS}{α:Type}{a9:TypeId}{u v x0 x1 x2 x3 x4 x5 x6 x7 x8 x9 y y0 y1 y2 y3 y4 y5 y6 y7 y8 y9:Value}{U a w w' w0 wx wy:World}
structure kjz (lo:Nat)(w w':World):Prop where
 size:w.heap.size<=w'.heap.size
 block:∀k,lo<=k->k<w.heap.size->w'.heap[k]?=w.heap[k]?
theorem kjz.refl(lo:Nat)(w:World):kjz lo w w:=⟨jV,λ_ _ _=>rfl⟩
theorem kjz.trans{b:World}(h:kjz lo a b)(k:kjz lo b w):kjz lo a w:=
 ⟨rP h.size k.size,λi h1 d=>(k.block i h1<|sV d h.size).trans<|h.block i h1 d⟩
theorem kjz.kept(h:kjz lo a w)(d:Kept P w w')(f:P<lo):kjz lo a w':=
 h.trans ⟨d.size,λk h1 e=>d.block k e aj⟩
theorem kjz.alloc(h:kjz lo a w)(o:Obj):kjz lo a (w.alloc o):=
 h.trans ⟨ay,λk _ d=>jR d⟩
theorem kjz.set(h:kjz lo a w){p:Addr}(e:p.block<lo\/a.heap.size<=p.block)(u:Value):kjz lo a (w.setCell p u):=
 ⟨lW,λk h1 d=>(hsC aj).trans (h.block k h1 d)⟩
theorem kjz.qk9(h:kjz lo a w)(hb:b<lo\/a.heap.size<=b):∀(ys:List Value)(k:Nat),kjz lo a (puts b ys k w):=λys=>by
 induction ys generalizing w with
 |nil=>exact λ_=>h
 |cons y ys ih=>exact λk=>ih (h.set hb y)<|k+1
theorem XIs.zqn(h:XIs lo w a0 v)(d:kjz lo w w'):XIs lo w' a0 v:=h.stay d.block
def kqq:PB->Nat
 |.nil=>0
 |.node _ _ _ _ n=>kqq n+1
theorem qkj:∀a b:PB,kqq (kkp a b)=kqq a+kqq b
 |.nil,b=>by simp[kkp,kqq]
 |.node i j a s n,b=>by rw[kkp,kqq,kqq,qkj n b];omega
def plC:PX->List Value
 |.nil=>[e_,i_ 0,.bool false,e_,i_ 0]
 |.node _ _ x _ _=>[.string x.y.x,i_ x.y.v,.bool<|!(x.c.t.toList==[]),.string x.c.x,i_ x.c.v]
theorem xz1(x:PX):(plC x).length=5:=by cases x<;>rfl
def stC(c:Bool)(a:SLab)(d vt e:Value):List Value:=.bool c::(plC a.N++[d,vt,e])
theorem qzl:(stC c a5 v x0 x1).length=9:=by simp[stC,xz1]
def BIs(lo:Nat)(no:Option Nat)(w:World):PB->List Value->Prop
 |.nil,cs=>cs=[]
 |.node _ _ a .nil n,cs=>∃p rest,cs=stC false a (.pointer p) nS nS++rest/\XIs lo w a.value (.pointer p)/\BIs lo no w n rest
 |.node _ _ a (.node _ _ _ t e) n,cs=>∃p ta tn tc ea en ec ct ce rest,cs=stC true a (.pointer p) (.slice ta tn tc) (.slice ea en ec)++rest/\XIs lo w a.A (.pointer p) /\
   (w.ownsRow lo 334 9 (.slice ta tn tc) (kqq t) ct/\(∀j,(Value.slice ta tn tc).ownBlock=some j->no≠some j)/\BIs lo no w t ct)/\(w.ownsRow lo 334 9 (.slice ea en ec) (kqq e) ce/\(∀j,(Value.slice ea en ec).ownBlock=some j->no≠some j)/\BIs lo no w e ce)/\BIs lo no w n rest
theorem BIs.T:∀{b:PB}{cs:List Value},BIs lo no w b cs->cs.length=kqq b*9
 |.nil,cs,h=>by
  have:cs=[]:=h;subst this;rfl
 |.node _ _ a .nil n,cs,⟨p,rest,e,hx,hn⟩=>by rw[e,rD,qzl,hn.T,kqq];omega
 |.node _ _ a (.node _ _ _ t e) n,cs,⟨p,ta,tn,tc,ea,en,ec,ct,ce,rest,e1,hx,ht,he,hn⟩=>by rw[e1,rD,qzl,hn.T,kqq];omega
theorem BIs.stay(d:∀k,lo<=k->k<w.heap.size->w'.heap[k]?=w.heap[k]?):∀{b:PB}{cs:List Value},BIs lo no w b cs->BIs lo no w' b cs
 |.nil,_,h=>h
 |.node _ _ a .nil n,cs,⟨p,rest,e,hx,hn⟩=>⟨p,rest,e,hx.stay d,BIs.stay d hn⟩
 |.node _ _ a (.node _ _ _ t e) n,cs,⟨p,ta,tn,tc,ea,en,ec,ct,ce,rest,e1,hx,⟨ht1,ht3,ht2⟩,⟨he1,he3,he2⟩,hn⟩=>
  ⟨p,ta,tn,tc,ea,en,ec,ct,ce,rest,e1,hx.stay d,⟨xg d ht1,ht3,BIs.stay d ht2⟩,⟨xg d he1,he3,BIs.stay d he2⟩,BIs.stay d hn⟩
theorem BIs.zqn(h:BIs lo no w a6 cs)(d:kjz lo w w'):BIs lo no w' a6 cs:=h.stay d.block
theorem BIs.mono(d:lo'<=lo):∀{b:PB}{cs:List Value},BIs lo no w b cs->BIs lo' no w b cs
 |.nil,_,h=>h
 |.node _ _ a .nil n,cs,⟨p,rest,e,hx,hn⟩=>⟨p,rest,e,hx.mono d,BIs.mono d hn⟩
 |.node _ _ a (.node _ _ _ t e) n,cs,⟨p,ta,tn,tc,ea,en,ec,ct,ce,rest,e1,hx,⟨ht1,ht3,ht2⟩,⟨he1,he3,he2⟩,hn⟩=>
  ⟨p,ta,tn,tc,ea,en,ec,ct,ce,rest,e1,hx.mono d,⟨qo d ht1,ht3,BIs.mono d ht2⟩,⟨qo d he1,he3,BIs.mono d he2⟩,BIs.mono d hn⟩
theorem BIs.app{lo:Nat}{no:Option Nat}{w:World}:∀{b c:PB}{cs ds:List Value},BIs lo no w b cs->BIs lo no w c ds->BIs lo no w (kkp b c) (cs++ds)
 |.nil,c,cs,ds,h,h'=>by
  have:cs=[]:=h;subst this;exact h'
 |.node _ _ a .nil n,c,cs,ds,⟨p,rest,e,hx,hn⟩,h'=>⟨p,rest++ds,by simp_all,hx,hn.app h'⟩
 |.node _ _ a (.node _ _ _ t e) n,c,cs,ds,⟨p,ta,tn,tc,ea,en,ec,ct,ce,rest,e1,hx,ht,he,hn⟩,h'=>⟨p,ta,tn,tc,ea,en,ec,ct,ce,rest++ds,by simp_all,hx,ht,he,hn.app h'⟩
theorem BIs.shun(d:∀k,no'=some k->no=some k\/w.heap.size<=k\/k<lo):∀{b:PB}{cs:List Value},BIs lo no w b cs->BIs lo no' w b cs
 |.nil,_,h=>h
 |.node _ _ a .nil n,cs,⟨p,rest,e,hx,hn⟩=>⟨p,rest,e,hx,BIs.shun d hn⟩
 |.node _ _ a (.node _ _ _ t e) n,cs,⟨p,ta,tn,tc,ea,en,ec,ct,ce,rest,e1,hx,⟨ht1,ht3,ht2⟩,⟨he1,he3,he2⟩,hn⟩=>by
  have out:∀{v:Value}{m:Nat}{q:List Value},w.ownsRow lo 334 9 v m q->(∀j,v.ownBlock=some j->no≠some j)->∀j,v.ownBlock=some j->no'≠some j:=by intro v m q h1 l j f s;have g:=jo h1 j f;have i:=kq9 h1 j f;grind
  exact⟨p,ta,tn,tc,ea,en,ec,ct,ce,rest,e1,hx,⟨ht1,out ht1 ht3,BIs.shun d ht2⟩,⟨he1,out he1 he3,BIs.shun d he2⟩,BIs.shun d hn⟩
theorem XIs.grown{lo base e size:Nat}{w w':World}{v:Value}{n:Nat}{xs:List Value}(hv:w.ownsRow base e size v n xs)(d:358≠e)(f:w.grownBy w' v.ownBlock):∀{x:PX}{p:Value},XIs lo w x p->XIs lo w' x p
 |.nil,_,h=>h
 |.node _ _ _ _ _,_,⟨k,va,vb,e1,hn,hh,ha,hb⟩=>⟨k,va,vb,e1,hn,by rw[f.block k (wQ hh) (not_row hv hh d)];exact hh,XIs.grown hv d f ha,XIs.grown hv d f hb⟩
theorem BIs.kva(hv:w.ownsRow base 334 9 v n xs)(f:w.grownBy w' v.ownBlock)(g:∀k,no'=some k->v.ownBlock=some k\/w.heap.size<=k):∀{b:PB}{cs:List Value},BIs lo v.ownBlock w b cs->BIs lo no' w' b cs
 |.nil,_,h=>h
 |.node _ _ a .nil nx,cs,⟨p,rest,e,hx,hn⟩=>⟨p,rest,e,hx.grown hv ak f,BIs.kva hv f g hn⟩
 |.node _ _ a (.node _ _ _ t e) nx,cs,⟨p,ta,tn,tc,ea,en,ec,ct,ce,rest,e1,hx,⟨ht1,ht3,ht2⟩,⟨he1,he3,he2⟩,hn⟩=>by
  have d:∀{u:Value}{m:Nat}{q:List Value},w.ownsRow lo 334 9 u m q->(∀j,u.ownBlock=some j->v.ownBlock≠some j)->w'.ownsRow lo 334 9 u m q/\(∀j,u.ownBlock=some j->no'≠some j):=by
   intro u m q h1 s;constructor
   ·refine h1.kept f ?_;cases y:u.ownBlock with
    |none=>simp
    |some j=>grind
   ·intro j i x;have l:=kq9 h1 j i;grind
  exact⟨p,ta,tn,tc,ea,en,ec,ct,ce,rest,e1,hx.grown hv ak f,⟨(d ht1 ht3).1,(d ht1 ht3).2,BIs.kva hv f g ht2⟩,⟨(d he1 he3).1,(d he1 he3).2,BIs.kva hv f g he2⟩,BIs.kva hv f g hn⟩
theorem jwk{a7 a8:Option Addr}:∀u∈stC c a5 (.pointer va) (.slice a7 lo P) (.slice a8 base B0),u.oneCell'=true:=by
 intro u d;unfold stC at d;simp only[tZ,rV,Qu,or_false]at d;obtain rfl|h|rfl|rfl|rfl:=d
 ·rfl
 ·cases e:a5.N with
  |nil=>rw[e]at h;simp only[plC,tZ,Qu,or_false]at h;obtain rfl|rfl|rfl|rfl|rfl:=h<;>rfl
  |node _ _ x _ _=>rw[e]at h;simp only[plC,tZ,Qu,or_false]at h;obtain rfl|rfl|rfl|rfl|rfl:=h<;>rfl
 ·rfl
 ·rfl
 ·rfl
def xy2(P:Nat)(v:Value)(L:List Tok)(w:World)(r:PB×RS)(e:Ending)(w':World):Prop:=
 ∃b cs,rT e (.agg cs.toArray)/\BIs w.heap.size none w' b cs/\kqq b=1/\(∀u∈cs,u.oneCell'=true)/\(r.2.s=false->b=r.1)/\Pd w' P v L r.2/\Kept P w w'
def jza(P:Nat)(v:Value)(L:List Tok)(w:World)(r:PB×RS)(e:Ending)(w':World):Prop:=
 ∃ua un uc b cs,rT e (.slice ua un uc)/\w'.ownsRow w.heap.size 334 9 (.slice ua un uc) (kqq b) cs/\BIs w.heap.size (Value.slice ua un uc).ownBlock w' b cs/\(r.2.s=false->b=r.1)/\Pd w' P v L r.2/\Kept P w w'/\kqq b<=802
theorem vvr(st:RS)(e:kq6 L)(d:st.v<L.length):∃x:ELab,[Value.string (plT L st).1.x,i_ (plT L st).1.v,.bool (plT L st).2.1,.string (plT L st).2.2.1.x,i_ (plT L st).2.2.1.v]=plC (.node 0 0 x .nil .nil) /\
  ((kqy L st).2.s=false->.node 0 0 x .nil .nil=(kqy L st).1):=by grind [zvi,kyu,plC]
theorem kkt(h:st.s=true):∀f tag:Nat,(rS f tag L st).2=st
 |0,_=>rfl
 |f+1,0=>by
  rw[rS,kqs h];show qg L [125] (rS f 1 L st).2=st;rw[kkt h f 1,kqs h]
 |f+1,t+1=>by rw[rS];simp[h]
theorem kki(h:Rw w b #[x0,x1,x2,x3,x4,x5,x6,x7,x8] a9):(Ce w b 0 x0/\Ce w b 1 x1/\Ce w b 2 x2/\Ce w b 3 x3/\Ce w b 4 x4/\Ce w b 5 x5/\Ce w b 6 x6/\Ce w b 7 x7/\Ce w b 8 x8) /\
  (Fr w b 0/\Fr w b 1/\Fr w b 2/\Fr w b 3/\Fr w b 4/\Fr w b 5/\Fr w b 6/\Fr w b 7/\Fr w b 8):=
 ⟨⟨rc h 0,rc h 1,rc h 2,rc h 3,rc h 4,rc h 5,rc h 6,rc h 7,rc h 8⟩,
  ⟨rf h 0,rf h 1,rf h 2,rf h 3,rf h 4,rf h 5,rf h 6,rf h 7,rf h 8⟩⟩
theorem jwc(h:Rw w b #[x0,x1,x2,x3,x4,x5,x6,x7,x8] a9):Rw (puts b [y0,y1,y2,y3,y4,y5,y6,y7,y8] 0 w) b #[y0,y1,y2,y3,y4,y5,y6,y7,y8] a9:=zju h
theorem Pd.qwk(h:Pd w P v L st)(d:∀g,v.ownBlock=some g->g<B)(e:P<B)(hb:B<=b)(y0 y1 y2 y3 y4 y5 y6 y7 y8:Value):Pd (puts b [y0,y1,y2,y3,y4,y5,y6,y7,y8] 0 w) P v L st:=h.qk9 d e hb _ _
theorem Kept.qwk(h:Kept P a w)(hb:a.heap.size<=b)(y0 y1 y2 y3 y4 y5 y6 y7 y8:Value):Kept P a (puts b [y0,y1,y2,y3,y4,y5,y6,y7,y8] 0 w):=h.qk9 hb _ _
theorem kjz.qwk(h:kjz lo a w)(hb:b<lo\/a.heap.size<=b)(y0 y1 y2 y3 y4 y5 y6 y7 y8:Value):kjz lo a (puts b [y0,y1,y2,y3,y4,y5,y6,y7,y8] 0 w):=h.qk9 hb _ _
def vq3(f:Nat):Prop:=∀(w:World)(P:Nat)(v:Value)(L:List Tok)(st:RS),Pd w P v L st->(st.s=false->2*(L.length-st.v)+2<=f) ->
 Calls prog 211 #[pT P] w λe w'=>jza P v L w (rS f 0 L st) e w'
def pjn:Prop:=∀(g:Nat)(w:World)(P:Nat)(v:Value)(L:List Tok)(st:RS),st.s=true->Pd w P v L st ->
 Calls prog 211 #[pT P] w λe w'=>jza P v L w (rS g 0 L st) e w'
theorem xyq(g:s.s=false->pjn)(i:s.s=false->vq3 f)(d:s.s=false)(w:World)(P:Nat)(v:Value)(L:List Tok)(st:RS)(h:Pd w P v L st)(j:st.s=false->2*(L.length-st.v)+2<=f):og 211 #[pT P] w λe w'=>jza P v L w (rS f 0 L st) e w':=by
 cases hb:st.s
 ·exact i d w P v L st h (λ_=>j hb)
 ·exact g d f w P v L st hb h
theorem pwz(h:zk L mY st=false)(h1:qg L [61] (kqy L st).2=s3)(d:rX (kqb L) 0 .nil L s3=g):rDo blk L st=(pvs (kqy L st).1 g.1,qg L [59] g.2):=by subst h1;subst d;unfold rDo;simp_all
theorem xji(h:zk L mY st=true)(h1:qg L mY st=s1)(d:rX (kqb L) 0 .nil L s1=g)(e:blk g.2=b2):(zk L nU b2.2=false->rDo blk L st=(ifS g.1 b2.1 .nil,b2.2))/\(zk L nU b2.2=true->rDo blk L st=(ifS g.1 b2.1 (blk<|qg L nU b2.2).1,(blk<|qg L nU b2.2).2)):=by grind [rDo]
theorem zv2(h:(rX f tag a0 L s).2.s=false):s.s=false:=by grind [kk2]
theorem jkj(f:Nat)(hB:st.s=false->pjn)(hS:st.s=false->vq3 f)(h:Pd w P v L st)(hf:st.s=false->2*(L.length-st.v)<=f):Calls prog 242 #[pT P] w λe w'=>xy2 P v L w (rDo (rS f 0 L) L st) e w':=by
 have V:=h.in;have R:=oz h.kq9;have hL:=h.ok;have aP:=hL.T;have a8:=h.lt;have Q:=oz<|xyq hB hS;clear hB hS;go_in
 go_wp21;refine zM (kxm mY ak<|h.alloc _) ?_;rintro w1 ⟨h1,a7⟩;have S:=oz<|a7.e (b:=w.heap.size) aj (qy);have aU:=wQ S;have a1:=(Kept.kqe _).trans a7;cases hn:zk L mY st
 ·rw[qj6 hn]at h1;have H1:=oz h1;clear h1;go_wp21;refine zM (jqr H1) ?_;rintro z ⟨Z,q⟩;rw[jkv]at Z;obtain⟨xp,(aM:Hid _),(aB:Hid _)⟩:=vvr st hL a8;have⟨J,C,F⟩:=jF (pwz (blk:=rS f 0 L) hn rfl rfl) (show(rX (kqb L) 0 .nil L<|qg L [61] (kqy L st).2).2.s=false->(kqy L st).2.s=false from λh=>kz2<|zv2 h) (q.e aj S);have aK:=wQ F;have K:=a1.trans q;generalize plT L st=g at *;generalize kqy L st=rp at *;unfold plV;go_wp21;refine zM (kjb [61] ak rfl rfl<|Z.alloc _) ?_;rintro w3 ⟨H3,l⟩;generalize qg L [61] rp.2=s3 at *;have T:=oz<|l.e aj (zy F);have a4:=oz<|l.e (b:=z.heap.size) aj (qy);have M:=(K.alloc _).trans l;have aL:=wQ a4;go_wp21
  refine(qyo H3).mono ?_;rintro e w4 ⟨B,t4,rfl,G,(aH:Hid _),H,i⟩;have t:=oz<|i.e aj T;have m:=oz<|i.e (b:=z.heap.size) aj a4;have D:=M.trans i;have g6:=kki m;generalize rX (kqb L) 0 .nil L s3=r4 at *;go_wp21
  clear g6;refine zM (kjb [59] ak rfl rfl<|H.setOther R V (by grind) _) ?_;rintro w5 ⟨H5,d⟩;have u:=oz (d.e (b:=w.heap.size) aj<|(jN<|by grind).trans t);have y:=d.e (b:=z.heap.size) aj<|jD _ 6 _ _ _ m;have N:=(D.jm (p:=⟨z.heap.size,6,none⟩) (by grind)<|.pointer B).trans d;have aG:=(((kjz.refl w3.heap.size w4).set (p:=⟨z.heap.size,6,none⟩) (Or.inl aj)<|.pointer B).kept d aj);have d0:=kki u;have g0:=kki y;clear y;go_wp2
  refine tK (v:=.agg #[.bool false,.string g.1.x,i_ g.1.v,.bool g.2.1,.string g.2.2.1.x,i_ g.2.2.1.v,.pointer B,nS,nS]) (J9 results242 _ _ w.heap.size _ _ _ _ rfl (jwc u) underlying334 rfl au) rfl ?_;rw[ku J];have aJ:[Value.bool false,.string g.1.x,i_ g.1.v,.bool g.2.1,.string g.2.2.1.x,i_ g.2.2.1.v,.pointer B,nS,nS]=stC false {N:=.node 0 0 xp .nil .nil,value:=t4,A:=.nil} (.pointer B) nS nS:=by grind [stC,ku]
  refine⟨.node 0 0 {N:=.node 0 0 xp .nil .nil,value:=t4,A:=.nil} .nil .nil,[Value.bool false,.string g.1.x,i_ g.1.v,.bool g.2.1,.string g.2.2.1.x,i_ g.2.2.1.v,.pointer B,nS,nS],rfl,⟨B,[],by simp_all,?_,rfl⟩,rfl,by rw[aJ];exact jwk,?_,H5.qwk R V jV _ _ _ _ _ _ _ _ _,N.qwk jV _ _ _ _ _ _ _ _ _⟩
  ·exact(G.zqn<|aG.qwk (Or.inl aj) _ _ _ _ _ _ _ _ _).mono aj
  ·intro hb;have a6:=kz2 hb;have aI:rp.2.s=false:=(ku C) a6;rw[(ku aH) a6,(ku aB) aI];rfl
 ·have W:=(kz8 hn).2;have aT:=kz9 hL a8 hn;have aQ:=hf W;have em:zze L mY st=qg L mY st:=qkk hn rfl rfl;have aN:(qg L mY st).v=st.v+1:=jW;rw[em]at h1;have hD:=xji (blk:=rS f 0 L) hn rfl rfl rfl;have⟨aD,aE,H1⟩:=jF hD.1 hD.2 h1;clear em hD;generalize qg L mY st=s1 at *;go_wp21;refine(qyo H1).mono ?_;rintro e z ⟨p2,t2,rfl,G,(a3:Hid _),Z,q⟩;have aR:=kvl (kqb L) 0 .nil L s1;have F:=oz<|q.e aj S;have K:=a1.trans q;have aK:=q.size;generalize rX (kqb L) 0 .nil L s1=Y at *;go_wp21
  refine(Q W _ P v L Y.2 Z<|λ_=>aj).mono ?_;rintro e w3 ⟨ua,un,uc,b3,c3,rfl,a2,I,(a0:Hid _),H3,l,_⟩;have C:Hid ((rS f 0 L Y.2).2.s=false->Y.2.s=false):=λh=>by grind [kkt]
  have aS:=kkc L f 0 Y.2;have T:=oz<|l.e aj F;have aL:=l.size;have M:=K.trans l;have aA:=(kjz.refl w1.heap.size z).kept l aj;generalize rS f 0 L Y.2=r3 at *;go_wp21
  refine zM (kxm nU ak<|H3.alloc _) ?_;rintro w4 ⟨U,i⟩;have t:=oz<|i.e aj (zy T);have m:=oz<|i.e (b:=w3.heap.size) aj (qy);have aV:=wQ m;have D:=(M.alloc _).trans i;have E:=(aA.alloc _).kept i aj;have A:=((kjz.refl z.heap.size w3).alloc _).kept i aj;cases x:zk L nU r3.2
  ·rw[qj6 x]at U;have⟨H,J⟩:=jS U (aD x);clear U;have d0:=kki t;have g0:=kki m;go_wp2;refine tK (v:=.agg (stC true {N:=.nil,value:=.nil,A:=t2} (.pointer p2) (.slice ua un uc) nS).toArray) (J9 results242 _ _ w.heap.size _ _ _ _ rfl (jwc t) underlying334 rfl au) rfl ?_;rw[ku J];refine⟨.node 0 0 {N:=.nil,value:=.nil,A:=t2} (.node 0 0 noS b3 .nil) .nil,_,rfl,⟨p2,ua,un,uc,none,0,0,c3,[],[],ay,?_,⟨?_,(λj _ h=>ig),?_⟩,⟨jT,(λj _ h=>ig),rfl⟩,rfl⟩,rfl,jwk,?_,H.qwk R V jV _ _ _ _ _ _ _ _ _,D.qwk jV _ _ _ _ _ _ _ _ _⟩
   ·exact(G.zqn<|E.qwk (Or.inl aj) _ _ _ _ _ _ _ _ _).mono aj
   ·exact qo aj (xg (A.qwk (Or.inl aj) _ _ _ _ _ _ _ _ _).block a2)
   ·exact((I.shun (no':=none)<|λk X=>by cases X).zqn<|A.qwk (Or.inl aj) _ _ _ _ _ _ _ _ _).mono aj
   ·intro hb;rw[(ku a3) ((ku C) hb),(ku a0) hb];rfl
  ·rw[qkk x rfl rfl]at U;have⟨H,J⟩:=jS U (aE x);have a5:=(kz8 x).2;have aO:(qg L nU r3.2).v=r3.2.v+1:=jW;generalize qg L nU r3.2=s4 at *;go_wp21;refine(Q W _ P v L s4 H<|λ_=>aj).mono ?_;rintro e w5 ⟨va,vn,vc,b5,c5,rfl,aF,a9,(aC:Hid _),H5,d,_⟩;have u:=oz<|d.e aj t;have y:=d.e (b:=w3.heap.size) aj m;have d0:=kki u;have g0:=kki y;have N:=D.trans d;have O:=E.kept d aj;have s:=A.kept d aj;clear y;generalize rS f 0 L s4=r5 at *;go_wp2
   refine tK (v:=.agg (stC true {N:=.nil,value:=.nil,A:=t2} (.pointer p2) (.slice ua un uc) (.slice va vn vc)).toArray) (J9 results242 _ _ w.heap.size _ _ _ _ rfl (jwc (w:=w5.setCell (Ad w3.heap.size 8) _) ((jN (by grind)).trans u)) underlying334 rfl au) rfl ?_;rw[ku J];refine⟨.node 0 0 {N:=.nil,value:=.nil,A:=t2} (.node 0 0 noS b3 b5) .nil,_,rfl,⟨p2,ua,un,uc,va,vn,vc,c3,c5,[],ay,?_,⟨?_,(λj _ h=>ig),?_⟩,⟨?_,(λj _ h=>ig),?_⟩,rfl⟩,rfl,jwk,?_,(H5.setOther R V (by grind) _).qwk R V jV _ _ _ _ _ _ _ _ _,(N.jm (by grind) _).qwk jV _ _ _ _ _ _ _ _ _⟩
   ·exact(G.zqn<|(O.set (Or.inr aj) _).qwk (Or.inl aj) _ _ _ _ _ _ _ _ _).mono aj
   ·exact qo aj (xg ((s.set (Or.inr ay) _).qwk (Or.inl aj) _ _ _ _ _ _ _ _ _).block a2)
   ·exact((I.shun (no':=none)<|λk X=>by cases X).zqn<|(s.set (Or.inr ay) _).qwk (Or.inl aj) _ _ _ _ _ _ _ _ _).mono aj
   ·exact qo aj (xg (((kjz.refl w4.heap.size w5).set (Or.inl aj) _).qwk (Or.inl aj) _ _ _ _ _ _ _ _ _).block aF)
   ·exact((a9.shun (no':=none)<|λk X=>by cases X).zqn<|((kjz.refl w4.heap.size w5).set (Or.inl aj) _).qwk (Or.inl aj) _ _ _ _ _ _ _ _ _).mono aj
   ·intro hb;rw[(ku a3) ((ku C) a5),(ku a0) a5,(ku aC) hb];rfl
theorem xxf(h:zs.length=9):∃c0 c1 c2 c3 c4 c5 c6 c7 c8,zs=[c0,c1,c2,c3,c4,c5,c6,c7,c8]:=by
 match zs,h with
 |[c0,c1,c2,c3,c4,c5,c6,c7,c8],_=>simp
def vku(L:List Tok)(F:Nat)(fin:PB×RS)(acc:PB)(s:RS):Prop:=
 (s.s=true/\fin.2=s)\/(s.s=false/\∃g,g<F/\2*(L.length-s.v)+1<=g/\fin=(kkp acc (rS g 1 L s).1,qg L [125] (rS g 1 L s).2))
theorem vk7(e:st.s=false->2*(L.length-st.v)+2<=f)(g:st.v<L.length):vku L f (rS f 0 L st) .nil (qg L [123] st):=by
 cases hb:st.s
 ·have:=e hb;obtain⟨f,rfl⟩:=qqy f;rw[rS];cases d:(qg L [123] st).s
  ·have:=qqd d;exact .inr ⟨d,f,aj,aj,rfl⟩
  ·exact .inl ⟨d,by grind [kkt,kqs]⟩
 ·rw[kqs hb];exact .inl ⟨hb,kkt hb _ _⟩
def zwl(L:List Tok)(s:RS):Bool:=zk L mY s||kqf L mX s
theorem zv3(h:zwl L s=true):s.s=false/\zk L [125] s=false:=by grind [zwl,zk,qqb,kqf]
theorem pj2(e:kq6 L)(d:s.v<L.length)(h:zwl L s=true):s.v+1<L.length:=by
 unfold zwl at h;rw[Q8]at h;obtain h|h:=h
 ·exact(kz9 e d h).2
 ·unfold kqf at h;simp only[rG]at h;have f:=h.2;rw[su]at f;exact e.fin d (by rw[(e.ok _ d).fin,f];rfl)
theorem jzw(h:vku L F fin a6 s)(d:zwl L s=true):∃g,g+1<F/\2*(L.length-s.v)+1<=g+1 /\
  fin=(kkp a6<|kkp (rDo (rS g 0 L) L s).1 (rS g 1 L (rDo (rS g 0 L) L s).2).1,qg L [125] (rS g 1 L (rDo (rS g 0 L) L s).2).2):=by
 have ⟨hb,hn⟩:=zv3 d;obtain⟨h1,_⟩|⟨h1,g,e,f,i⟩:=h
 ·simp_all
 ·obtain⟨g,rfl⟩:=qqy g;grind [rS]
theorem jzv{g:Nat}{acc b:PB}{s:RS}(h:g+1<F/\(b2.2.s=false->2*(L.length-b2.2.v)+1<=g)/\fin=(kkp acc<|kkp b2.1 (rS g 1 L b2.2).1,qg L [125] (rS g 1 L b2.2).2))(i:kqq b=1)(hb:b2.2.s=false->b=b2.1):vku L F fin (kkp acc b) b2.2:=by
 have⟨h1,e,f⟩:=h;cases d:b2.2.s
 ·refine .inr ⟨d,g,aj,e d,?_⟩;rw[f,hb d,zz0]
 ·refine .inl ⟨d,?_⟩;grind [kkt,kqs]
theorem pk4(h:vku L F fin a6 s)(d:zwl L s=false):fin.2=qg L [125] s/\(fin.2.s=false->fin.1=a6):=by
 unfold zwl at d;rw[Qi]at d;obtain⟨h1,e⟩|⟨h1,g,f,e,i⟩:=h
 ·grind [kqs]
 ·obtain⟨g,rfl⟩:=qqy g;cases hn:zk L [125] s
  ·have j:(rDo (rS g 0 L) L s).2={s with s:=true}:=by grind [zq,kqy,kqk,rDo,kqs,kk2]
   grind [rS,qg,kkt,kqs]
  grind [rS,jzk]
def pjr(w:World)(P:Nat)(v:Value)(L:List Tok)(F:Nat)(fin:PB×RS)(d:RS)(x:Value)(wr:World):Prop:=
 ∃(acc:PB)(cs:List Value)(s:RS),vku L F fin acc s/\(s.s=false->d.s=false)/\kqq acc<=s.v+s.s.toNat/\wr.ownsRow w.heap.size 334 9 x (kqq acc) cs/\BIs w.heap.size x.ownBlock wr acc cs/\Pd wr P v L s/\Kept P w wr
theorem jqa(f:Nat)(T:st.s=false->pjn)(hS:st.s=false->∀g,g<f->vq3 g)(h:Pd w P v L st)(hf:st.s=false->2*(L.length-st.v)+2<=f):Calls prog 211 #[pT P] w λe w'=>jza P v L w (rS f 0 L st) e w':=by
 have D:=h.in;have HV:=oz h.kq9;have hL:=h.ok;have aI:=hL.T;have a9:=vk7 hf h.lt;generalize rS f 0 L st=fin at *;go_in;go_wp21;refine zM (qwr [123] ak rfl h) ?_;rintro w1 ⟨h1,aE⟩;go_wp2;go_loopw [3] (λx wr=>pjr w P v L f fin st x wr) (λ_ wr=>L.length-zx2 wr P);exact(⟨.nil,[],qg L [123] st,a9,λhb=>kz2 hb,by simp[kqq],oN,rfl,h1,aE⟩:pjr w P v L f fin st nS w1);have⟨acc,cs,s,HL,z,a4,a1,aB,HP,l⟩:=hrel;have a7:=HP.lt;have aK:s.s.toNat<=1:=by cases s.s<;>decide
 obtain⟨xa,xl,xc,rfl⟩:=qh a1;go_wp21;refine zM (qzj mY ak HP) ?_;rintro w2 ⟨i,W⟩;have R:=jr (oz a1) W D;have J:=(oz aB).stay (λk h1 i=>W.block k i aj);have N:=(oz l).trans W;cases hn:zk L mY s
 ·go_wp21;refine(pqw i).mono ?_;rintro e w3 ⟨t,rfl,_,aG,a5⟩;have X:Kept P w2 w3:=.of_below a5;go_wp21;refine zM (jjn t) λw4 a6=>?_;rw[aG];have Y:Kept P w3 w4:=.of_below a6;have H4:=(i.below a5).below a6;have S:=jr (jr R X D) Y D;have K:=(J.stay<|λk h1 i=>X.block k i aj).stay (λk h1 i=>Y.block k i aj);have O:=(N.trans X).trans Y;cases aL:kqf L mX s
  ·have ⟨aJ,aC⟩:=pk4 HL (by unfold zwl;simp_all);go_wp21;refine zM (qxi [125] ak rfl rfl H4) ?_;rintro w5 ⟨H5,Z⟩;go_wp2;go_ret;exact⟨xa,xl,xc,acc,cs,rfl,(jr S Z D),(K.stay<|λk h1 i=>Z.block k i aj),λhb=>((oz aC) hb).symm,by simp_all,(O.trans Z),aj⟩
  ·have q:zwl L s=true:=by unfold zwl;simp_all
   have j:=(zv3 q).1;have ⟨g,U,aD,Q⟩:=jzw HL q;go_wp21;refine(jkj g (λ_=>T<|z j) (λ_=>hS (z j) g aj) H4<|λ_=>aj).mono ?_;rintro e w6 ⟨b6,c6,rfl,p,y,M,V,h6,u⟩;have A:=p.T;rw[y]at A;have m:=jr S u D;have C:=O.trans u;have aH:=C.size;have HM:=jzv (L:=L) (F:=f) (g:=g) (fin:=fin) (acc:=acc) (b:=b6) (s:=s) ⟨U,λhb=>by grind [qwd,kkc,qwg],Q⟩ y V;have aF:=zzo (L:=L) (st:=s) (λs=>kkc L g 0 s);have a2:=qwd (L:=L) (st:=s) (λs=>kkc L g 0 s) (λs hb=>qwg hb g 0);generalize rDo (rS g 0 L) L s=I at *;obtain⟨c0,c1,c2,c3,c4,c5,c6,c7,c8,rfl⟩:=xxf aj;go_wp2_with (at_builtin;refine apO (m.alloc _) ?_ (h1:=sJ.2 M))
   intro v7 B a3 d a8 G;have E:=jo m;have a0:Kept P w B:=(C.alloc _).grown d E;have h7:Pd B P v L I.2:=((oz h6).alloc _).grown d E HV D;have H:BIs w.heap.size v7.ownBlock B (kkp acc b6) (cs++[c0,c1,c2,c3,c4,c5,c6,c7,c8]):=
    BIs.kva (m.alloc _) d (λk l=>(vw0 G k l).imp id<|λh=>by simp_all) (((K.stay<|λk h1 i=>u.block k i aj).app<|(p.shun (no':=(Value.slice xa xl xc).ownBlock)<|λk l=>.inr<|.inr (kq9 S k l)).mono O.size).stay<|λk _ l=>jR l)
   go_wp2;exact⟨(⟨kkp acc b6,_,I.2,HM,λ_=>z j,oC,by rw[qkj,y];omega,H,h7,a0⟩:pjr w P v L f fin st v7 B),(qqq HP h7 j (pj2 hL a7 q) a2)⟩
 ·have q:zwl L s=true:=by unfold zwl;simp_all
  have j:=(zv3 q).1;have ⟨g,U,aD,Q⟩:=jzw HL q;go_wp21;refine(jkj g (λ_=>T<|z j) (λ_=>hS (z j) g aj) i<|λ_=>aj).mono ?_;rintro e w6 ⟨b6,c6,rfl,p,y,M,V,h6,u⟩;have A:=p.T;rw[y]at A;have m:=jr R u D;have C:=N.trans u;have aH:=C.size;have HM:=jzv (L:=L) (F:=f) (g:=g) (fin:=fin) (acc:=acc) (b:=b6) (s:=s) ⟨U,λhb=>by grind [qwd,kkc,qwg],Q⟩ y V;have aF:=zzo (L:=L) (st:=s) (λs=>kkc L g 0 s);have a2:=qwd (L:=L) (st:=s) (λs=>kkc L g 0 s) (λs hb=>qwg hb g 0);generalize rDo (rS g 0 L) L s=I at *;obtain⟨c0,c1,c2,c3,c4,c5,c6,c7,c8,rfl⟩:=xxf aj;go_wp2_with (at_builtin;refine apO (m.alloc _) ?_ (h1:=sJ.2 M))
  intro v7 B a3 d a8 G;have E:=jo m;have a0:Kept P w B:=(C.alloc _).grown d E;have h7:Pd B P v L I.2:=((oz h6).alloc _).grown d E HV D;have H:BIs w.heap.size v7.ownBlock B (kkp acc b6) (cs++[c0,c1,c2,c3,c4,c5,c6,c7,c8]):=
   BIs.kva (m.alloc _) d (λk l=>(vw0 G k l).imp id<|λh=>by simp_all) (((J.stay<|λk h1 i=>u.block k i aj).app<|(p.shun (no':=(Value.slice xa xl xc).ownBlock)<|λk l=>.inr<|.inr (kq9 R k l)).mono N.size).stay<|λk _ l=>jR l)
  go_wp2;exact⟨(⟨kkp acc b6,_,I.2,HM,λ_=>z j,oC,by rw[qkj,y];omega,H,h7,a0⟩:pjr w P v L f fin st v7 B),(qqq HP h7 j (pj2 hL a7 q) a2)⟩
theorem pk2:pjn:=λg w P v L st hb h=>by have:=jqa 0 (λh=>by simp_all) (λh=>ay) h (λh=>by simp_all);refine this.mono ?_;rintro e w' ⟨l,p,m,b,cs,h1,f,i,j,d,k⟩;rw[kkt hb]at j d;exact⟨l,p,m,b,cs,h1,f,i,λh=>(by rw[kkt hb,hb]at h;cases h),by rw[kkt hb];exact d,k⟩
theorem xz2(f:Nat):vq3 f:=by
 induction f using Nat.strongRecOn with
 |ind f ih=>exact λw P v L st h d=>jqa f (λ_=>pk2) (λ_ g e=>ih g e) h d
theorem vvo(h:Pd w P v L st):og 211 #[pT P] w λe w'=>jza P v L w (rS (qqn L) 0 L st) e w':=
 xz2 (qqn L) w P v L st h (λ_=>by unfold qqn;omega)
theorem kju(h:Rw w b #[x0,x1,x2,x3,x4,x5,x6,x7,x8,x9] a9):(Ce w b 0 x0/\Ce w b 1 x1/\Ce w b 2 x2/\Ce w b 3 x3/\Ce w b 4 x4/\Ce w b 5 x5/\Ce w b 6 x6/\Ce w b 7 x7/\Ce w b 8 x8/\Ce w b 9 x9) /\
  (Fr w b 0/\Fr w b 1/\Fr w b 2/\Fr w b 3/\Fr w b 4/\Fr w b 5/\Fr w b 6/\Fr w b 7/\Fr w b 8/\Fr w b 9):=
 ⟨⟨rc h 0,rc h 1,rc h 2,rc h 3,rc h 4,rc h 5,rc h 6,rc h 7,rc h 8,rc h 9⟩,
  ⟨rf h 0,rf h 1,rf h 2,rf h 3,rf h 4,rf h 5,rf h 6,rf h 7,rf h 8,rf h 9⟩⟩
theorem vjz(h:Rw w b #[x0,x1,x2,x3,x4,x5,x6,x7,x8,x9] a9):Rw (puts b [y0,y1,y2,y3,y4,y5,y6,y7,y8,y9] 0 w) b #[y0,y1,y2,y3,y4,y5,y6,y7,y8,y9] a9:=zju h
theorem Pd.vjx(h:Pd w P v L st)(d:∀g,v.ownBlock=some g->g<B)(e:P<B)(hb:B<=b)(y0 y1 y2 y3 y4 y5 y6 y7 y8 y9:Value):Pd (puts b [y0,y1,y2,y3,y4,y5,y6,y7,y8,y9] 0 w) P v L st:=h.qk9 d e hb _ _
theorem Kept.vjx(h:Kept P a w)(hb:a.heap.size<=b)(y0 y1 y2 y3 y4 y5 y6 y7 y8 y9:Value):Kept P a (puts b [y0,y1,y2,y3,y4,y5,y6,y7,y8,y9] 0 w):=h.qk9 hb _ _
structure VrT where
 y:Tok
 K:Bool
 g:Tok
 si:SiT
def kjs(x:VrT):List Value:=[.string x.y.x,i_ x.y.v,.bool x.K,.string x.g.x,i_ x.g.v,i_ x.si.I,i_ (mg x.si.R.x),i_ x.si.R.v,.string x.si.y.x,i_ x.si.y.v]
def vrV(x:VrT):Value:=.agg (kjs x).toArray
def zj8(L:List Tok)(st:RS):RS:=qg L [58] (zq L mX (qg L mD st)).2
def vrT(L:List Tok)(st:RS):VrT:=⟨(zq L mX (qg L mD st)).1,zk L [91] (zj8 L st),(kjn L (zj8 L st)).1,siT L (kjn L (zj8 L st)).2⟩
theorem xkj(h1:qg L mD st=s1)(d:zq L mX s1=k)(e:qg L [58] k.2=s3):vrT L st=⟨k.1,zk L [91] s3,(kjn L s3).1,siT L (kjn L s3).2⟩/\(kyt L st).2=qg L [59] (kku L (kjn L s3).2).2:=by subst h1;subst d;subst e;exact⟨rfl,rfl⟩
theorem jja(h:Rw w b #[x0,x1,x2,x3,x4,x5,x6,x7,x8,x9] a9):Rw (puts b [y5,y6,y7,y8,y9] 5 w) b #[x0,x1,x2,x3,x4,y5,y6,y7,y8,y9] a9:=zju h
theorem jjo(h:w.heap[lo]?=some o)(d:lo≠b):(((((w.setCell (Ad b 5) y5).setCell (Ad b 6) y6).setCell (Ad b 7) y7).setCell (Ad b 8) y8).setCell (Ad b 9) y9).heap[lo]?=some o:=(hsC d).trans ((hsC d).trans ((hsC d).trans ((hsC d).trans ((hsC d).trans h))))
theorem zqs(h:Pd w P v L st):Calls prog 149 #[pT P] w λe w'=>rT e (vrV<|vrT L st)/\Pd w' P v L (kyt L st).2/\Kept P w w':=by
 have g:=h.in;have f:=oz h.kq9;go_in;go_wp21;refine zM (kjb mD ak rfl rfl<|h.alloc _) ?_;rintro w1 ⟨H1,K⟩;obtain⟨(F:Hid _),(G:Hid _)⟩:=xkj (L:=L) (st:=st) rfl rfl rfl;generalize qg L mD st=s1 at *;have X:=oz<|K.e (b:=w.heap.size) aj (qy);have U:=(Kept.kqe _).trans K;go_wp21
 refine zM (kxs H1) ?_;rintro d ⟨H2,M⟩;generalize zq L mX s1=k at *;have V:=U.trans M;have I:=oz<|M.e aj X;have a0:=wQ I;unfold ptV;go_wp21
 refine zM (kjb [58] ak rfl rfl<|H2.alloc _) ?_;rintro w3 ⟨H3,D⟩;generalize qg L [58] k.2=s3 at *;have Y:=oz<|D.e aj (zy I);have Z:=oz<|D.e (b:=d.heap.size) aj (qy);have W:=(V.alloc _).trans D;go_wp21
 refine zM (qzj [91] ak H3) ?_;rintro w4 ⟨S,E⟩;have J:=oz<|E.e aj Y;have B:=oz<|E.e aj Z;have H:=W.trans E;cases hn:zk L [91] s3
 ·have z:=oz (by unfold kjn;simp_all:kjn L s3=(zh,s3));rw[hn,ku z]at F;rw[ku z]at G;go_wp21;refine zM (zva S) ?_;rintro w5 ⟨N,j⟩;have A:=oz<|j.e aj J;have s:=oz<|j.e (b:=d.heap.size) aj B;have x:=H.trans j;generalize siT L s3=q at *;have g5:=kju s;unfold siV;go_wp21
  clear g5;refine zM (kjb [59] ak rfl rfl<|((((N.setOther f g (by grind) _).setOther f g (by grind) _).setOther f g (by grind) _).setOther f g (by grind) _).setOther f g (by grind) _) ?_;rintro w6 ⟨O,l⟩;have m:=oz<|l.e (b:=w.heap.size) aj (jjo A aj);have t:=l.e (b:=d.heap.size) aj<|jja s;have y:=((((x.jm (p:=⟨d.heap.size,5,none⟩) (by grind) _).jm (p:=⟨d.heap.size,6,none⟩) (by grind) _).jm (p:=⟨d.heap.size,7,none⟩) (by grind) _).jm (p:=⟨d.heap.size,8,none⟩) (by grind) _).jm (p:=⟨d.heap.size,9,none⟩) (by grind) _ |>.trans l;have d0:=kju m;have g0:=kju t;clear t;go_wp2
  refine kx0 results149 underlying121 (vjz m) ?_;rw[ku F,ku G];exact⟨rfl,O.vjx f g jV _ _ _ _ _ _ _ _ _ _,y.vjx jV _ _ _ _ _ _ _ _ _ _⟩
 ·have z:=oz (by unfold kjn;rw[hn];rfl:kjn L s3=((sqT L s3).1,qg L [93] (sqT L s3).2));rw[hn,ku z]at F;rw[ku z]at G;have g2:=kju B;go_wp21;refine zM (zxv<|S.setOther f g (by grind) _) ?_;rintro a1 ⟨T,u⟩;clear g2;have⟨R,C⟩:=jS (u.e (b:=w.heap.size) aj<|(hsC<|by grind).trans J) (u.e (b:=d.heap.size) aj (jD _ 2 _ _ _ B));have Q:=(H.jm (p:=⟨d.heap.size,2,none⟩) (by grind)<|.bool true).trans u;generalize sqT L s3=i at *;have g3:=kju C;unfold ptV;go_wp21;clear g3;refine zM (zva<|T.set2 f g (by grind) (by grind) _ _) ?_;rintro w5 ⟨N,j⟩;have⟨A,s⟩:=jS (j.e (b:=w.heap.size) aj<|(hsC<|by grind).trans ((hsC<|by grind).trans R)) (j.e (b:=d.heap.size) aj (jD _ 4 _ _ _<|jD _ 3 _ _ _ C));have x:=((Q.jm (p:=⟨d.heap.size,3,none⟩) (by grind) _).jm (p:=⟨d.heap.size,4,none⟩) (by grind) _).trans j;generalize siT L (qg L [93] i.2)=q at *;generalize qg L [93] i.2=s5 at *;have g5:=kju s;unfold siV;go_wp21;clear g5;refine zM (kjb [59] ak rfl rfl<|((((N.setOther f g (by grind) _).setOther f g (by grind) _).setOther f g (by grind) _).setOther f g (by grind) _).setOther f g (by grind) _) ?_;rintro w6 ⟨O,l⟩;have m:=oz<|l.e (b:=w.heap.size) aj (jjo A aj);have t:=l.e (b:=d.heap.size) aj<|jja s;have y:=((((x.jm (p:=⟨d.heap.size,5,none⟩) (by grind) _).jm (p:=⟨d.heap.size,6,none⟩) (by grind) _).jm (p:=⟨d.heap.size,7,none⟩) (by grind) _).jm (p:=⟨d.heap.size,8,none⟩) (by grind) _).jm (p:=⟨d.heap.size,9,none⟩) (by grind) _ |>.trans l;have d0:=kju m;have g0:=kju t;clear t;go_wp2
  refine kx0 results149 underlying121 (vjz m) ?_;rw[ku F,ku G];exact⟨rfl,O.vjx f g jV _ _ _ _ _ _ _ _ _ _,y.vjx jV _ _ _ _ _ _ _ _ _ _⟩
theorem xjt(h:Rw w b #[x0,x1,x2] a9):Rw (puts b [y0,y1,y2] 0 w) b #[y0,y1,y2] a9:=zju h
structure zj5 (w:World)(P:Nat)(v:Value)(L:List Tok)(B0 B1:Nat)(name:Tok)(acc:List Tok)(s:RS)(x:Value)(wx:World):Prop where
 b0:wx.heap[B0]?=some (.cells #[e_,i_ 0,nS] 114 (0,0))
 b1:wx.heap[B1]?=some (.cells #[.string name.x,i_ name.v,x] 114 (0,0))
 xu:wx.ownsRow (B1+1) 107 2 x acc.length (kjq acc)
 pd:Pd wx P v L s
 kept:Kept P w wx
theorem zj5.kept'(h:zj5 w P v L B0 B1 name acc s x0 wx)(d:Kept P wx wy)(f:Pd wy P v L s')(e:B0≠P)(h1:P<B1):zj5 w P v L B0 B1 name acc s' x0 wy:=
 ⟨d.e e h.b0,d.e aj h.b1,jr h.xu d aj,f,h.kept.trans d⟩
theorem zj5.more{b4:Tok}(h:zj5 w P v L B0 B1 name acc s x0 wx)(d:(wx.alloc o).grownBy wy x0.ownBlock)(f:wy.ownsRow (B1+1) 107 2 y (acc.length+1) (kjq acc++kzy b4))(m:∀g,v.ownBlock=some g->g<w.heap.size)(p:P<w.heap.size)(i:w.heap.size=B0)(q:B0<B1):zj5 w P v L B0 B1 name (acc++[b4]) s y (wy.setCell (Ad B1 2) y):=by
 subst i;have j:=jo h.xu;have l0:=wQ h.b0;have l1:=wQ h.b1;have e0:wy.heap[w.heap.size]?=wx.heap[w.heap.size]?:=(d.block _ ah<|λe=>by grind).trans<|jR l0;have l:wy.heap[B1]?=wx.heap[B1]?:=(d.block _ ah<|λe=>by grind).trans<|jR l1;refine⟨by rw[hsC (by grind),e0];exact h.b0,jD _ 2 _ _ _<|l.trans h.b1,?_,?_,?_⟩
 ·rw[qxp,rD];exact ownsRow_setCell_other f (λe=>by have:=jo f _ e;grind) _
 ·exact((h.pd.alloc o).grown d j (λg d=>by grind) aj).setOther (B:=w.heap.size) m p (by grind) _
 ·exact(((h.kept.alloc o).grown d<|λk t=>by grind).jm (by grind) _)
def jzl(L:List Tok)(fin:List Tok×RS)(acc:List Tok)(s:RS):Prop:=
 (s.s=true/\fin.2=s)\/(s.s=false/\1<=acc.length/\∃f,L.length<=s.v+f/\(if zk L [44] s then kkn f L acc (qg L [44] s) else (acc,s))=fin)
theorem vwz(i:L.length<=s.v+f):jzl L (kkn (f+1+1) L [] s) [(zq L mX s).1,(zq L mX (qg L [44] (zq L mX s).2)).1] (zq L mX (qg L [44] (zq L mX s).2)).2:=by
 cases hb:s.s
 ·rw[kkn];simp only[hb,ru,Xv,Zw,Jc,Nat.reduceLT,decide_true,Js,Xw,Qd];have j:=kj1 L mX s;have k:=yh L [44] (zq L mX s).2;generalize qg L [44] (zq L mX s).2=h at *;have l:=kj1 L mX h;rw[kkn];cases d:h.s
  ·simp only[ru,Xv,JC,Nat.reduceAdd,Nat.lt_irrefl,decide_false,Qg,QU,Qd];cases g:(zq L mX h).2.s
   ·exact .inr ⟨g,ay,f,aj,rfl⟩
   ·exact .inl ⟨g,by rw[kqk g];rfl⟩
  ·simp only[Xw];exact .inl ⟨by rw[kza d];exact d,by rw[kza d]⟩
 ·have e:(zq L mX<|qg L [44] (zq L mX s).2).2=s:=by grind [kza,kqs]
  rw[e,kkn];simp only[hb,Xw];exact .inl ⟨hb,rfl⟩
theorem vzx(l:s.v<L.length)(h:jzl L b7 acc s)(hn:zk L [44] s=true):jzl L b7 (acc++[(zq L mX (qg L [44] s)).1]) (zq L mX (qg L [44] s)).2:=by
 obtain⟨hb,_⟩|⟨hb,j,f,p,e⟩:=h
 ·rw[kqk hb]at hn;cases hn
 ·rw[lJ hn]at e;have i:qg L [44] s={s with v:=s.v+1}:=jW;have k:(qg L [44] s).v=s.v+1:=by rw[i]
  have g:(qg L [44] s).s=false:=by simp_all
  obtain⟨f,rfl⟩:=qqy f;generalize qg L [44] s=s' at *;rw[kkn]at e;simp only[g,ru,Xv]at e;rw[show decide (acc.length+1<2)=false by simp_all,Qg]at e;have m:=kj1 L mX s';cases d:(zq L mX s').2.s
  ·exact .inr ⟨d,ay,f,aj,e⟩
  ·refine .inl ⟨d,?_⟩;grind [kqk]
theorem vwx(h:jzl L b7 acc s)(hn:zk L [44] s=false):b7.2=s/\(s.s=false->b7.1=acc):=by
 obtain⟨hb,e⟩|⟨hb,_,f,d,e⟩:=h
 ·simp_all
 grind
theorem pzv(h1:qg L ny st=s1)(d:zq L mX s1=k)(e:qg L [123] k.2=s3):kxz L st=(⟨k.1,(kkn (kq2 L) L [] s3).1⟩,qg L [125] (kkn (kq2 L) L [] s3).2):=by subst h1;subst d;subst e;rfl
def xva(P:Nat)(v:Value)(L:List Tok)(w:World)(r:PKind×RS)(e:Ending)(w':World):Prop:=
 ∃x l,rT e (.agg #[.string r.1.y.x,i_ r.1.y.v,x])/\w'.ownsRow w.heap.size 107 2 x l.length (kjq l)/\(r.2.s=false->l=r.1.i)/\Pd w' P v L r.2/\Kept P w w'/\l.length<=802
def vyc(w:World)(P:Nat)(v:Value)(L:List Tok)(fin:List Tok×RS)(B1:Nat)(name:Tok)(wx:World):Prop:=
 ∃acc s x,jzl L fin acc s/\acc.length<=s.v+2/\zj5 w P v L w.heap.size B1 name acc s x wx
theorem pzp(h:Pd w P v L st):Calls prog 148 #[pT P] w λe w'=>xva P v L w (kxz L st) e w':=by
 have F:=h.in;have E:=oz h.kq9;have aG:=h.ok.T;go_in;go_wp21;refine zM (kjb ny ak rfl rfl<|h.alloc _) ?_;rintro w1 ⟨H1,a4⟩;have HE:=oz<|pzv (L:=L) (st:=st) rfl rfl rfl;generalize qg L ny st=s1 at *;have aE:=oz<|a4.e (b:=w.heap.size) aj (qy);have aB:=(Kept.kqe _).trans a4;go_wp21
 refine zM (kxs H1) ?_;rintro i ⟨H2,a5⟩;generalize zq L mX s1=k at *;have aC:=aB.trans a5;have Z:=oz<|a5.e aj aE;have T:=wQ Z;unfold ptV;go_wp21
 refine zM (qwr [123] ak rfl<|H2.alloc _) ?_;rintro w3 ⟨h3,Q⟩;generalize qg L [123] k.2=s3 at *;have H:=show zj5 w P v L w.heap.size i.heap.size k.1 [] s3 nS w3 from⟨Q.e aj<|zy Z,Q.e (b:=i.heap.size) aj<|qy,oN,h3,(aC.alloc _).trans Q⟩
 go_upto_region 4 with fail
 go_cut [] from 11 to 17 (λwx=>∃x,zj5 w P v L w.heap.size i.heap.size k.1 [(zq L mX s3).1] (zq L mX s3).2 x wx)
 case first=>
  have q2:=row3 H.b1;go_region_law (first
   |(refine apL (news:=(kzy (zq L mX s3).1)) (g.xu.alloc _) (Xk W _) ?_;intro gg cap z j d J R;have N:Fr z i.heap.size 2:=(d.frozen_far _ ah<|by simp[Value.ownBlock]).trans<|kv1 (jZ _) u V;have M:Ce z i.heap.size 2 nS:=(d.cell_far _ ah<|by simp[Value.ownBlock]).trans<|wU (jZ _) U)
   |(go_simp;go_at_call 202;refine zM (kxs<|H.pd.below (bR.drew)) ?_;rintro W ⟨A,t⟩;have g:=H.kept' ((Kept.refl _ _).drew.trans t) A aj aj;have ⟨_,_,U,_,_,V⟩:=row3 g.b1;have u:=wQ g.b1 ;unfold ptV;dsimp only))
  all_goals
   go_wp21;go_meet
   exact⟨_,g.more d j E F rfl T⟩
 case rest=>
 have⟨x4,Y⟩:=hcut;have D:=vwz (L:=L) (s:=s3) (f:=L.length) aj;have HF:=oz (show kkn (L.length+1+1) L [] s3=kkn (kq2 L) L [] s3 from rfl);generalize kkn (L.length+1+1) L [] s3=fin at *;go_wp21;generalize zq L mX s3=k3 at *;refine zM (kjb [44] ak rfl rfl Y.pd) ?_;rintro w7 ⟨h7,aF⟩;have m:=Y.kept' aF h7 aj aj;obtain⟨xa,xl,xc,rfl⟩:=qh m.xu;generalize qg L [44] k3.2=s7 at *;go_upto_region 6 with fail
 go_cut [] from 20 to 26 (λwx=>∃x,zj5 w P v L w.heap.size i.heap.size k.1 [k3.1,(zq L mX s7).1] (zq L mX s7).2 x wx)
 case first=>
  have q2:=row3 m.b1;go_region_law (first
   |(refine apL (news:=(kzy (zq L mX s7).1)) (g.xu.alloc _) (Xk W _) ?_;intro gg cap z j d J R;have N:Fr z i.heap.size 2:=(d.frozen_far _ ah<|show some i.heap.size≠_ from λe=>by grind).trans<|kv1 (jZ _) u V;have M:Ce z i.heap.size 2 (.slice xa xl xc):=(d.cell_far _ ah<|show some i.heap.size≠_ from λe=>by grind).trans<|wU (jZ _) U)
   |(go_simp;go_at_call 202;refine zM (kxs<|m.pd.below (bR.drew)) ?_;rintro W ⟨A,t⟩;have g:=m.kept' ((Kept.refl _ _).drew.trans t) A aj aj;have ⟨_,_,U,_,_,V⟩:=row3 g.b1;have a8:=jo g.xu;have u:=wQ g.b1;clear A t;unfold ptV;dsimp only))
  all_goals
   go_wp21;go_meet
   exact⟨_,g.more d j E F rfl T⟩
 case rest=>
 have⟨x8,a1⟩:=hcut;have X:=oz (show vyc w P v L fin i.heap.size k.1 _ from⟨_,_,x8,D,ay,a1⟩);clear m a1 D;go_wp21;go_loopw [] (λwr=>vyc w P v L fin i.heap.size k.1 wr) (λwr=>L.length-zx2 wr P);exact X;have⟨acc,s,x,C,aI,hR⟩:=hrel;have a6:=hR.pd.lt;have⟨D,G⟩:=jS C hR;clear C hR;go_wp21;refine zM (kxm [44] ak G.pd) ?_;rintro w9 ⟨h9,B⟩;cases K:zk L [44] s
 ·rw[qj6 K]at h9;have ⟨a2,a3⟩:=vwx D K;have⟨p,a9,aA⟩:=jF (G.kept' B h9 aj aj) a2 a3;clear h9 B a2 a3;go_wp21;refine zM (qxi [125] ak rfl rfl p.pd) ?_;rintro aM ⟨a0,O⟩;have q:=p.kept' O a0 aj aj;obtain⟨ya,yl,yc,rfl⟩:=qh q.xu;have ⟨d0,d1,d2,e0,e1,e2⟩:=row3 q.b0;have ⟨g0,g1,g2,_⟩:=row3 q.b1;have l:=oz q;clear a0 O q;go_wp2;refine kx0 results148 underlying114 (xjt l.b0) ?_;rw[ku HE,<-ku HF,ku a9];have aJ:=jo l.xu;refine⟨_,acc,rfl,?_,λhb=>(aA<|kz2 hb).symm,?_,?_,aj⟩
  ·exact qo aj (ownsRow_setCell_other (ownsRow_setCell_other (ownsRow_setCell_other l.xu (λe=>by grind) _) (λe=>by grind) _) (λe=>by grind) _)
  ·exact((l.pd.setOther E F jV _).setOther E F jV _).setOther E F jV _
  ·exact((l.kept.jm jV _).jm jV _).jm jV _
 ·rw[qkk K rfl rfl]at h9;have a7:=kz9 G.pd.ok a6 K;have aK:(qg L [44] s).v=s.v+1:=jW;have HM:=oz<|vzx a6 D K;have I:=G.kept' B h9 aj aj;obtain⟨xa,xl,xc,rfl⟩:=qh I.xu;have p:=oz I;clear h9 B I D;generalize qg L [44] s=s' at *;have aL:=kj1 L mX s';go_wp21
  have ⟨_,_,q2,_,_,r2⟩:=row3 p.b1;have aH:=wQ p.b1;go_region_law (first
  |(refine apL (news:=(kzy (zq L mX s').1)) (g.xu.alloc _) (Xk W _) ?_;intro gg cap z j d J R;have N:Fr z i.heap.size 2:=(d.frozen_far _ ah<|show some i.heap.size≠_ from λe=>by grind).trans<|kv1 (jZ _) u V;have M:Ce z i.heap.size 2 (.slice xa xl xc):=(d.cell_far _ ah<|show some i.heap.size≠_ from λe=>by grind).trans<|wU (jZ _) U)
  |(go_simp;go_at_call 202;refine zM (kxs<|p.pd.below (bR.drew)) ?_;rintro W ⟨A,t⟩;have y:=p.kept' ((Kept.refl _ _).drew.trans t) A aj aj;have ⟨_,_,U,_,_,V⟩:=row3 y.b1;have a8:=jo y.xu;have g:=oz y;have u:=wQ y.b1;clear A t y;unfold ptV;dsimp only))
  all_goals
   have S:=g.more d j E F rfl T;have⟨aD,m⟩:=jS (qqq G.pd S.pd a7.1 a7.2<|λ_=>aj) (show vyc w P v L fin i.heap.size k.1 _ from⟨_,_,_,HM,by grind,S⟩);clear S j d J N M;go_wp2;exact⟨m,aD⟩
def kvy(lo:Nat)(w:World):List PRule->List Value->Prop
 |[],cs=>cs=[]
 |r::rs,cs=>∃pa pn pc gp ba bn bc bcs rest,cs=[.string r.y.x,i_ r.y.v,.slice pa pn pc,.pointer gp,.slice ba bn bc]++rest/\w.ownsRow lo 352 4 (.slice pa pn pc) r.u.length (uq r.u) /\
   XIs lo w r.guard (.pointer gp)/\w.ownsRow lo 334 9 (.slice ba bn bc) (kqq r.S) bcs/\BIs lo none w r.S bcs/\kvy lo w rs rest
def kvg(lo:Nat)(w:World):List PRule->List Value->Prop
 |[],cs=>cs=[]
 |r::rs,cs=>∃pa pn pc gp rest,cs=[.string r.y.x,i_ r.y.v,.slice pa pn pc,.pointer gp]++rest/\w.ownsRow lo 352 4 (.slice pa pn pc) r.u.length (uq r.u) /\
   XIs lo w r.guard (.pointer gp)/\kvg lo w rs rest
theorem kvy.stay(d:∀k,lo<=k->k<w.heap.size->w'.heap[k]?=w.heap[k]?):∀{rs:List PRule}{cs:List Value},kvy lo w rs cs->kvy lo w' rs cs
 |[],_,h=>h
 |r::rs,_,⟨pa,pn,pc,gp,ba,bn,bc,bcs,rest,e,h1,h2,h3,h4,h5⟩=>⟨pa,pn,pc,gp,ba,bn,bc,bcs,rest,e,xg d h1,h2.stay d,xg d h3,h4.stay d,kvy.stay d h5⟩
theorem kvg.stay(d:∀k,lo<=k->k<w.heap.size->w'.heap[k]?=w.heap[k]?):∀{rs:List PRule}{cs:List Value},kvg lo w rs cs->kvg lo w' rs cs
 |[],_,h=>h
 |r::rs,_,⟨pa,pn,pc,gp,rest,e,h1,h2,h5⟩=>⟨pa,pn,pc,gp,rest,e,xg d h1,h2.stay d,kvg.stay d h5⟩
theorem kvy.mono(d:lo'<=lo):∀{rs:List PRule}{cs:List Value},kvy lo w rs cs->kvy lo' w rs cs
 |[],_,h=>h
 |r::rs,_,⟨pa,pn,pc,gp,ba,bn,bc,bcs,rest,e,h1,h2,h3,h4,h5⟩=>⟨pa,pn,pc,gp,ba,bn,bc,bcs,rest,e,qo d h1,h2.mono d,qo d h3,h4.mono d,kvy.mono d h5⟩
theorem kvg.mono(d:lo'<=lo):∀{rs:List PRule}{cs:List Value},kvg lo w rs cs->kvg lo' w rs cs
 |[],_,h=>h
 |r::rs,_,⟨pa,pn,pc,gp,rest,e,h1,h2,h5⟩=>⟨pa,pn,pc,gp,rest,e,qo d h1,h2.mono d,kvg.mono d h5⟩
theorem kvy.app:∀{rs ss:List PRule}{cs ds:List Value},kvy lo w rs cs->kvy lo w ss ds->kvy lo w (rs++ss) (cs++ds)
 |[],_,cs,ds,h,h'=>by
  have:cs=[]:=h;simp_all
 |r::rs,ss,cs,ds,⟨pa,pn,pc,gp,ba,bn,bc,bcs,rest,e,h1,h2,h3,h4,h5⟩,h'=>⟨pa,pn,pc,gp,ba,bn,bc,bcs,rest++ds,by simp_all,h1,h2,h3,h4,h5.app h'⟩
theorem kvg.app:∀{rs ss:List PRule}{cs ds:List Value},kvg lo w rs cs->kvg lo w ss ds->kvg lo w (rs++ss) (cs++ds)
 |[],_,cs,ds,h,h'=>by
  have:cs=[]:=h;simp_all
 |r::rs,ss,cs,ds,⟨pa,pn,pc,gp,rest,e,h1,h2,h5⟩,h'=>⟨pa,pn,pc,gp,rest++ds,by simp_all,h1,h2,h5.app h'⟩
def xvr(P:Nat)(v:Value)(L:List Tok)(w:World)(r:PRule×RS)(e:Ending)(w':World):Prop:=
 ∃c0 c1 c2 c3 c4 rr,rT e (.agg #[c0,c1,c2,c3,c4])/\kvy w.heap.size w' [rr] [c0,c1,c2,c3,c4]/\(∀u∈[c0,c1,c2,c3,c4],u.oneCell'=true)/\(r.2.s=false->rr=r.1)/\Pd w' P v L r.2/\Kept P w w'
def xvf(P:Nat)(v:Value)(L:List Tok)(w:World)(r:PRule×RS)(e:Ending)(w':World):Prop:=
 ∃c0 c1 c2 c3 rr,rT e (.agg #[c0,c1,c2,c3])/\kvg w.heap.size w' [rr] [c0,c1,c2,c3]/\(∀u∈[c0,c1,c2,c3],u.oneCell'=true)/\(r.2.s=false->rr=r.1)/\Pd w' P v L r.2/\Kept P w w'
theorem jk6(h1:qg L nX st=s1)(d:zq L mX s1=k)(e:kj0 L k.2=p)(f:qg L mY p.2=s)(h:rX (kqb L) 0 .nil L s=g)(i:rS (qqn L) 0 L g.2=b2):kjr L st=(⟨k.1,p.1,g.1,b2.1⟩,b2.2):=by subst h1;subst d;subst e;subst f;subst h;subst i;rfl
theorem vvp(h1:qg L nK st=s1)(d:zq L mX s1=k)(e:kj0 L k.2=p)(f:rX (kqb L) 0 .nil L p.2=g):kzw L st=(⟨k.1,p.1,g.1,.nil⟩,qg L [59] g.2):=by subst h1;subst d;subst e;subst f;rfl
theorem kjz.ky7(h:kjz lo a w)(hb:b<lo\/a.heap.size<=b)(y0 y1 y2 y3 y4:Value):kjz lo a (puts b [y0,y1,y2,y3,y4] 0 w):=h.qk9 hb _ _
theorem kjz.jx5(h:kjz lo a w)(hb:b<lo\/a.heap.size<=b)(y0 y1 y2 y3:Value):kjz lo a (puts b [y0,y1,y2,y3] 0 w):=h.qk9 hb _ _
theorem zjg(h:w.ownsRow lo e size v n xs)(d:kjz lo w w'):w'.ownsRow lo e size v n xs:=xg d.block h
theorem xzh(h:(rS f tag L s).2.s=false):s.s=false:=by grind [kkt]
theorem jkz(h:Pd w P v L st):Calls prog 150 #[pT P] w λe w'=>xvr P v L w (kjr L st) e w':=by
 have G:=h.in;have F:=oz h.kq9;go_in;go_wp21;refine zM (kjb nX ak rfl rfl<|h.alloc _) ?_;rintro w1 ⟨H1,z⟩;have HD:=oz<|jk6 (L:=L) (st:=st) rfl rfl rfl rfl rfl rfl;generalize qg L nX st=s1 at *;have m:=oz<|z.e (b:=w.heap.size) aj (qy);have a6:=wQ m;have K:=(Kept.kqe _).trans z;go_wp21
 refine zM (kxs H1) ?_;rintro w2 ⟨H2,A⟩;generalize zq L mX s1=k at *;have q:=oz<|A.e aj m;have a7:=wQ q;have M:=K.trans A;go_wp21
 refine(zve H2).mono ?_;rintro e w3 ⟨x3,l3,rfl,l,(a1:Hid _),H3,B,_⟩;obtain⟨pa,pn,pc,rfl⟩:=qh l;have a5:(qg L mY (kj0 L k.2).2).s=false->(kj0 L k.2).2.s=false:=λhb=>kz2 hb
 have s:=oz<|B.e aj q;have a8:=wQ s;have N:=M.trans B;generalize kj0 L k.2=p at *;unfold ptV;go_wp21
 refine zM (kjb mY ak rfl rfl<|H3.alloc _) ?_;rintro w4 ⟨H4,g⟩;generalize qg L mY p.2=I at *;have V:=oz<|g.e aj (zy s);have x:=oz<|g.e (b:=w3.heap.size) aj (qy);have a9:=wQ x;have O:=(N.alloc _).trans g;have T:=((kjz.refl w2.heap.size w3).alloc<|.cells #[.string k.1.x,i_ k.1.v,.slice pa pn pc,.pointer none,nS] 127).kept g aj;go_wp21
 refine(qyo H4).mono ?_;rintro e w5 ⟨j,t5,rfl,X,(a2:Hid _),H5,f⟩;have a3:(rX (kqb L) 0 .nil L I).2.s=false->I.s=false:=λhb=>zv2 hb
 have W:=oz<|f.e aj V;have y:=oz<|f.e (b:=w3.heap.size) aj x;have aA:=f.size;have Q:=O.trans f;have E:=T.kept f aj;have g3:=jl y;generalize rX (kqb L) 0 .nil L I=H at *;go_wp21
 clear g3;refine(vvo<|H5.setOther F G (by grind) _).mono ?_;rintro e J ⟨ua,un,uc,b6,c6,rfl,S,D,(a0:Hid _),H6,d,_⟩;have a4:(rS (qqn L) 0 L H.2).2.s=false->H.2.s=false:=λhb=>xzh hb
 have t:=oz (d.e (b:=w.heap.size) aj<|(hsC<|by grind).trans W);have C:=d.e (b:=w3.heap.size) aj<|jD _ 3 _ _ _ y;have Z:=d.size;simp only[World.setCell,Array.size_modify]at Z;have R:=(Q.jm (p:=⟨w3.heap.size,3,none⟩) (by grind)<|.pointer j).trans d;have i:=(E.set (p:=⟨w3.heap.size,3,none⟩) (.inr ay)<|.pointer j).kept d aj;have U:=((kjz.refl w4.heap.size w5).set (p:=⟨w3.heap.size,3,none⟩) (.inl aj)<|.pointer j).kept d aj;have d0:=jl t;have g0:=jl C;clear C;generalize rS (qqn L) 0 L H.2=r6 at *;go_wp2
 refine kx0 results150 underlying127 (kxy (w:=J.setCell (Ad w3.heap.size 4) _) ((hsC (by grind)).trans t)) ?_;rw[ku HD];refine⟨_,_,_,_,_,⟨k.1,l3,t5,b6⟩,rfl,⟨pa,pn,pc,j,ua,un,uc,c6,[],rfl,?_,?_,?_,?_,rfl⟩,?_,?_,(H6.setOther F G (by grind) _).ky7 F G jV _ _ _ _ _,(R.jm (by grind) _).ky7 jV _ _ _ _ _⟩
 ·exact qo aj (zjg l<|(i.set (.inr ay) _).ky7 (.inl aj) _ _ _ _ _)
 ·exact(X.zqn<|(U.set (.inl aj) _).ky7 (.inl aj) _ _ _ _ _).mono aj
 ·refine qo ?_ (zjg S<|((kjz.refl _ J).set (.inl ?_) _).ky7 (.inl ?_) _ _ _ _ _)
  ·simp[World.setCell];omega
  ·simp[World.setCell];omega
  ·simp[World.setCell];omega
 ·refine(((D.shun (no':=none)<|λk hk=>by cases hk).zqn<|((kjz.refl _ J).set (.inl ?_) _).ky7 (.inl ?_) _ _ _ _ _)).mono ?_
  ·simp[World.setCell];omega
  ·simp[World.setCell];omega
  ·simp[World.setCell];omega
 ·intro u Y;simp only[tZ,Qu,or_false]at Y;obtain rfl|rfl|rfl|rfl|rfl:=Y<;>rfl
 grind [ku]
theorem vvd(h:Pd w P v L st):Calls prog 151 #[pT P] w λe w'=>xvf P v L w (kzw L st) e w':=by
 have U:=h.in;have T:=oz h.kq9;go_in;go_wp21;refine zM (kjb nK ak rfl rfl<|h.alloc _) ?_;rintro w1 ⟨M,q⟩;have S:=oz<|vvp (L:=L) (st:=st) rfl rfl rfl rfl;generalize qg L nK st=s1 at *;have H:=oz<|q.e (b:=w.heap.size) aj (qy);have A:=(Kept.kqe _).trans q;go_wp21
 refine zM (kxs M) ?_;rintro W ⟨N,s⟩;generalize zq L mX s1=k at *;have i:=oz<|s.e aj H;have a1:=wQ i;have B:=A.trans s;go_wp21
 refine(zve N).mono ?_;rintro e w3 ⟨x3,l3,rfl,g,(X:Hid _),O,t,_⟩;obtain⟨pa,pn,pc,rfl⟩:=qh g;have j:=oz<|t.e aj i;have a2:=wQ j;have C:=B.trans t;generalize kj0 L k.2=p at *;go_wp21
 refine(qyo O).mono ?_;rintro e K ⟨z,V,rfl,I,(Y:Hid _),Q,f⟩;have Z:(rX (kqb L) 0 .nil L p.2).2.s=false->p.2.s=false:=λhb=>zv2 hb
 have l:=oz<|f.e aj j;have a0:=wQ l;have D:=C.trans f;have F:=(kjz.refl W.heap.size w3).kept f aj;generalize rX (kqb L) 0 .nil L p.2=r5 at *;unfold ptV;go_wp21
 refine zM (kjb [59] ak rfl rfl<|Q.alloc _) ?_;rintro w6 ⟨R,d⟩;have m:=oz<|d.e (b:=w.heap.size) aj (zy l);have x:=d.e (b:=K.heap.size) aj<|qy;have E:=(D.alloc _).trans d;have y:=(F.alloc<|.cells #[.string k.1.x,i_ k.1.v,.slice pa pn pc,.pointer z] 130).kept d aj;have G:=((kjz.refl w3.heap.size K).alloc<|.cells #[.string k.1.x,i_ k.1.v,.slice pa pn pc,.pointer z] 130).kept d aj;have d0:=kz3 m;have g0:=kz3 x;clear x;go_wp2
 refine kx0 results151 underlying130 (zzc m) ?_;rw[ku S];refine⟨_,_,_,_,⟨k.1,l3,V,.nil⟩,rfl,⟨pa,pn,pc,z,[],rfl,?_,?_,rfl⟩,?_,?_,R.jx5 T U jV _ _ _ _,E.jx5 jV _ _ _ _⟩
 ·exact qo aj (zjg g<|y.jx5 (.inl aj) _ _ _ _)
 ·exact(I.zqn<|G.jx5 (.inl aj) _ _ _ _).mono aj
 ·intro u J;simp only[tZ,Qu,or_false]at J;obtain rfl|rfl|rfl|rfl:=J<;>rfl
 grind [kz2,ku]
def zjw(s:PSet):List Value:=[.string s.y.x,i_ s.y.v,i_ (mg s.size.x),i_ s.size.v]
def jx2(l:List PSet):List Value:=l.flatMap zjw
def pkd(l:List VrT):List Value:=l.flatMap kjs
theorem pz6(l:List PSet)(p:PSet):jx2 (l++[p])=jx2 l++zjw p:=by simp[jx2]
theorem pjs(l:List VrT)(p:VrT):pkd (l++[p])=pkd l++kjs p:=by simp[pkd]
def kvp(lo:Nat)(w:World):List PKind->List Value->Prop
 |[],cs=>cs=[]
 |k::ks,cs=>∃ma mn mc rest,cs=[.string k.y.x,i_ k.y.v,.slice ma mn mc]++rest/\w.ownsRow lo 107 2 (.slice ma mn mc) k.i.length (kjq k.i)/\kvp lo w ks rest
theorem kvp.stay(d:∀k,lo<=k->k<w.heap.size->w'.heap[k]?=w.heap[k]?):∀{ks:List PKind}{cs:List Value},kvp lo w ks cs->kvp lo w' ks cs
 |[],_,h=>h
 |k::ks,_,⟨ma,mn,mc,rest,e,h1,h2⟩=>⟨ma,mn,mc,rest,e,xg d h1,kvp.stay d h2⟩
theorem kvp.mono(d:lo'<=lo):∀{ks:List PKind}{cs:List Value},kvp lo w ks cs->kvp lo' w ks cs
 |[],_,h=>h
 |k::ks,_,⟨ma,mn,mc,rest,e,h1,h2⟩=>⟨ma,mn,mc,rest,e,qo d h1,kvp.mono d h2⟩
theorem kvp.app:∀{ks js:List PKind}{cs ds:List Value},kvp lo w ks cs->kvp lo w js ds->kvp lo w (ks++js) (cs++ds)
 |[],_,cs,ds,h,h'=>by
  have:cs=[]:=h;simp_all
 |k::ks,_,cs,ds,⟨ma,mn,mc,rest,e,h1,h2⟩,h'=>⟨ma,mn,mc,rest++ds,by simp_all,h1,h2.app h'⟩
theorem kvp.grown(hv:w.ownsRow base e size v n zs)(d:107≠e)(f:w.grownBy w' v.ownBlock):∀{ks:List PKind}{cs:List Value},kvp lo w ks cs->kvp lo w' ks cs
 |[],_,h=>h
 |k::ks,_,⟨ma,mn,mc,rest,e1,h1,h2⟩=>⟨ma,mn,mc,rest,e1,kqx h1 hv d f,kvp.grown hv d f h2⟩
theorem BIs.qzx(hv:w.ownsRow base e size v n zs)(f:334≠e)(g:358≠e)(d:w.grownBy w' v.ownBlock):∀{b:PB}{cs:List Value},BIs lo no w b cs->BIs lo no w' b cs
 |.nil,_,h=>h
 |.node _ _ a .nil n,cs,⟨p,rest,e,h1,hn⟩=>⟨p,rest,e,h1.grown hv g d,BIs.qzx hv f g d hn⟩
 |.node _ _ a (.node _ _ _ t e) n,cs,⟨p,ta,tn,tc,ea,en,ec,ct,ce,rest,e1,h1,⟨ht1,ht3,ht2⟩,⟨he1,he3,he2⟩,hn⟩=>
  ⟨p,ta,tn,tc,ea,en,ec,ct,ce,rest,e1,h1.grown hv g d,⟨kqx ht1 hv f d,ht3,BIs.qzx hv f g d ht2⟩,⟨kqx he1 hv f d,he3,BIs.qzx hv f g d he2⟩,BIs.qzx hv f g d hn⟩
theorem kvy.grown(hv:w.ownsRow base e size v n zs)(i:352≠e)(f:334≠e)(g:358≠e)(d:w.grownBy w' v.ownBlock):∀{rs:List PRule}{cs:List Value},kvy lo w rs cs->kvy lo w' rs cs
 |[],_,h=>h
 |r::rs,_,⟨pa,pn,pc,gp,ba,bn,bc,bcs,rest,e1,h1,h2,h3,h4,h5⟩=>⟨pa,pn,pc,gp,ba,bn,bc,bcs,rest,e1,kqx h1 hv i d,h2.grown hv g d,kqx h3 hv f d,h4.qzx hv f g d,kvy.grown hv i f g d h5⟩
theorem kvg.grown(hv:w.ownsRow base e size v n zs)(f:352≠e)(g:358≠e)(d:w.grownBy w' v.ownBlock):∀{rs:List PRule}{cs:List Value},kvg lo w rs cs->kvg lo w' rs cs
 |[],_,h=>h
 |r::rs,_,⟨pa,pn,pc,gp,rest,e1,h1,h2,h5⟩=>⟨pa,pn,pc,gp,rest,e1,kqx h1 hv f d,h2.grown hv g d,kvg.grown hv f g d h5⟩
structure MdL where
 j:List PSet
 p:List PKind
 z:List VrT
 l:List PRule
 q:List PRule
variable {m:MdL}
structure kwm (lo:Nat)(w:World)(x0 x1 x2 x3 x4:Value)(m:MdL):Prop where
 o0:w.ownsRow lo 111 4 x0 m.j.length (jx2 m.j)
 o1:∃cs,w.ownsRow lo 114 3 x1 m.p.length cs/\kvp lo w m.p cs
 o2:w.ownsRow lo 121 10 x2 m.z.length (pkd m.z)
 o3:∃cs,w.ownsRow lo 127 5 x3 m.l.length cs/\kvy lo w m.l cs
 o4:∃cs,w.ownsRow lo 130 4 x4 m.q.length cs/\kvg lo w m.q cs
theorem kwm.stay(d:∀k,lo<=k->k<w.heap.size->w'.heap[k]?=w.heap[k]?)(h:kwm lo w x0 x1 x2 x3 x4 m):kwm lo w' x0 x1 x2 x3 x4 m:=by have⟨e,⟨c1,h1,k1⟩,f,⟨c3,g,k3⟩,⟨c4,i,k4⟩⟩:=h;exact⟨xg d e,⟨c1,xg d h1,k1.stay d⟩,xg d f,⟨c3,xg d g,k3.stay d⟩,⟨c4,xg d i,k4.stay d⟩⟩
theorem kwm.mono(d:lo'<=lo)(h:kwm lo w x0 x1 x2 x3 x4 m):kwm lo' w x0 x1 x2 x3 x4 m:=by have⟨e,⟨c1,h1,k1⟩,f,⟨c3,g,k3⟩,⟨c4,i,k4⟩⟩:=h;exact⟨qo d e,⟨c1,qo d h1,k1.mono d⟩,qo d f,⟨c3,qo d g,k3.mono d⟩,⟨c4,qo d i,k4.mono d⟩⟩
structure kxd (w:World)(P:Nat)(v:Value)(L:List Tok)(B0 B1:Nat)(x0 x1 x2 x3 x4:Value)(m:MdL)(s:RS)(wx:World):Prop where
 b0:wx.heap[B0]?=some (.cells #[nS,nS,nS,nS,nS] 68 (0,0))
 b1:wx.heap[B1]?=some (.cells #[x0,x1,x2,x3,x4] 68 (0,0))
 md:kwm (B1+1) wx x0 x1 x2 x3 x4 m
 pd:Pd wx P v L s
 kept:Kept P w wx
theorem kxd.kept'(h:kxd w P v L B0 B1 x0 x1 x2 x3 x4 m s wx)(d:Kept P wx wy)(f:Pd wy P v L s')(i:P<B0)(h1:P<B1):kxd w P v L B0 B1 x0 x1 x2 x3 x4 m s' wy:=
 ⟨d.e aj h.b0,d.e aj h.b1,h.md.stay (λk g e=>d.block k e aj),f,h.kept.trans d⟩
theorem kxd.grow(i:Nat)(h:kxd w P v L B0 B1 x0 x1 x2 x3 x4 m s wx)(l:wx.ownsRow (B1+1) lo base x5 n zs)(d:(wx.alloc o).grownBy wy x5.ownBlock)(t:∀g,v.ownBlock=some g->g<w.heap.size)(u:P<w.heap.size)(p:w.heap.size=B0)(z:B0<B1):∃w',w'=wy.setCell ⟨B1,i,none⟩ y/\w'.heap[B0]?=some (.cells #[.slice none 0 0,.slice none 0 0,.slice none 0 0,.slice none 0 0,.slice none 0 0] 68 (0,0))/\w'.heap[B1]?=some (.cells (#[x0,x1,x2,x3,x4].setIfInBounds i y) 68 (0,0))/\Pd w' P v L s/\Kept P w w' /\
  (∀{t' z' x' n' zs'},wy.ownsRow (B1+1) t' z' x' n' zs'->w'.ownsRow (B1+1) t' z' x' n' zs')/\(∀{t' z' x' n' zs'},wx.ownsRow (B1+1) t' z' x' n' zs'->(_:t'≠lo:=by decide)->w'.ownsRow (B1+1) t' z' x' n' zs') /\
  (∀{ks cs},kvp (B1+1) wx ks cs->(_:107≠lo:=by decide)->kvp (B1+1) w' ks cs)/\(∀{ks cs},kvy (B1+1) wx ks cs->(_:352≠lo:=by decide)->(_:334≠lo:=by decide)->(_:358≠lo:=by decide)->kvy (B1+1) w' ks cs) /\
  ∀{ks cs},kvg (B1+1) wx ks cs->(_:352≠lo:=by decide)->(_:358≠lo:=by decide)->kvg (B1+1) w' ks cs:=by
 subst p;have l0:=wQ h.b0;have l1:=wQ h.b1;have hv:=l.alloc o;have q:=jo l;have e:∀b,b<=B1->b<wx.heap.size->wy.heap[b]?=wx.heap[b]?:=λb hb x=>(d.block _ ah<|λe=>by grind).trans<|jR x
 have st:∀k,B1+1<=k->k<wy.heap.size->(wy.setCell (Ad B1 i) y).heap[k]?=wy.heap[k]?:=λk j _=>hsC (by grind)
 have f:∀k,B1+1<=k->k<wx.heap.size->(wx.alloc o).heap[k]?=wx.heap[k]?:=λk _ j=>jR j
 exact⟨_,rfl,by rw[hsC (by grind),e _ aj l0];exact h.b0,jD _ i _ _ _<|(e _ aj l1).trans h.b1,((h.pd.alloc o).grown d q (λg d=>by grind) aj).setOther (B:=w.heap.size) t u (by grind) _,((h.kept.alloc o).grown d<|λk j=>by grind).jm (by grind) _,
  xg st,λh1 n=>xg st<|kqx (h1.alloc o) hv n d,λk n=>(kvp.grown hv n d<|k.stay f).stay st,λk a b c=>(kvy.grown hv a b c d<|k.stay f).stay st,λk a b=>(kvg.grown hv a b d<|k.stay f).stay st⟩
theorem kxd.more0{e:PSet}(h:kxd w P v L B0 B1 x0 x1 x2 x3 x4 m s wx)(x:(wx.alloc o).grownBy wy x0.ownBlock)(d:wy.ownsRow (B1+1) 111 4 y (m.j.length+1) (jx2 m.j++zjw e))(t:∀g,v.ownBlock=some g->g<w.heap.size)(u:P<w.heap.size)(f:w.heap.size=B0)(i:B0<B1):kxd w P v L B0 B1 y x1 x2 x3 x4 {m with j:=m.j++[e]} s (wy.setCell (Ad B1 0) y):=by have ⟨k,⟨c1,h1,k1⟩,l,⟨c3,p,k3⟩,⟨c4,q,k4⟩⟩:=h.md;obtain⟨_,rfl,g0,g1,j,g3,S,O,K,R,N⟩:=h.grow (y:=y) 0 k x t u f i;exact⟨g0,g1,⟨by rw[pz6,rD];exact S d,⟨c1,O h1,K k1⟩,O l,⟨c3,O p,R k3⟩,⟨c4,O q,N k4⟩⟩,j,g3⟩
theorem kxd.more1{b8:PKind}(h : kxd w P v L B0 B1 x0 x1 x2 x3 x4 m s wx)(z : (wx.alloc o).grownBy wy x1.ownBlock)(e : wy.ownsRow (B1 + 1) 114 3 y (m.p.length + 1) (cs ++ ds))(j : kvp (B1 + 1) wx m.p cs)(d : kvp (B1 + 1) wx [b8] ds)(u : ∀g,v.ownBlock = some g->g < w.heap.size)(x : P < w.heap.size)(f : w.heap.size = B0)(i : B0 < B1):kxd w P v L B0 B1 x0 y x2 x3 x4 {m with p:=m.p ++ [b8]} s (wy.setCell (Ad B1 1) y):=by
 have ⟨l,⟨c1,h1,k1⟩,p,⟨c3,q,k3⟩,⟨c4,t,k4⟩⟩:=h.md
 obtain⟨_,rfl,g0,g1,k,g3,S,O,K,R,N⟩:=h.grow (y:=y) 1 h1 z u x f i
 exact⟨g0,g1,⟨O l,⟨cs ++ ds,qW,K<|j.app d⟩,O p,⟨c3,O q,R k3⟩,⟨c4,O t,N k4⟩⟩,k,g3⟩
theorem kxd.more2{e:VrT}(h:kxd w P v L B0 B1 x0 x1 x2 x3 x4 m s wx)(x:(wx.alloc o).grownBy wy x2.ownBlock)(d:wy.ownsRow (B1+1) 121 10 y (m.z.length+1) (pkd m.z++kjs e))(t:∀g,v.ownBlock=some g->g<w.heap.size)(u:P<w.heap.size)(f:w.heap.size=B0)(i:B0<B1):kxd w P v L B0 B1 x0 x1 y x3 x4 {m with z:=m.z++[e]} s (wy.setCell (Ad B1 2) y):=by have ⟨k,⟨c1,h1,k1⟩,l,⟨c3,p,k3⟩,⟨c4,q,k4⟩⟩:=h.md;obtain⟨_,rfl,g0,g1,j,g3,S,O,K,R,N⟩:=h.grow (y:=y) 2 l x t u f i;exact⟨g0,g1,⟨O k,⟨c1,O h1,K k1⟩,by rw[pjs,rD];exact S d,⟨c3,O p,R k3⟩,⟨c4,O q,N k4⟩⟩,j,g3⟩
theorem kxd.more3(h : kxd w P v L B0 B1 x0 x1 x2 x3 x4 m s wx)(z : (wx.alloc o).grownBy wy x3.ownBlock)(e : wy.ownsRow (B1 + 1) 127 5 y (m.l.length + 1) (cs ++ ds))(j : kvy (B1 + 1) wx m.l cs)(d : kvy (B1 + 1) wx [b9] ds)(u : ∀g,v.ownBlock = some g->g < w.heap.size)(x : P < w.heap.size)(f : w.heap.size = B0)(i : B0 < B1):kxd w P v L B0 B1 x0 x1 x2 y x4 {m with l:=m.l ++ [b9]} s (wy.setCell (Ad B1 3) y):=by
 have ⟨l,⟨c1,h1,k1⟩,p,⟨c3,q,k3⟩,⟨c4,t,k4⟩⟩:=h.md
 obtain⟨_,rfl,g0,g1,k,g3,S,O,K,R,N⟩:=h.grow (y:=y) 3 q z u x f i
 exact⟨g0,g1,⟨O l,⟨c1,O h1,K k1⟩,O p,⟨cs ++ ds,qW,R<|j.app d⟩,⟨c4,O t,N k4⟩⟩,k,g3⟩
theorem kxd.more4(h : kxd w P v L B0 B1 x0 x1 x2 x3 x4 m s wx)(z : (wx.alloc o).grownBy wy x4.ownBlock)(e : wy.ownsRow (B1 + 1) 130 4 y (m.q.length + 1) (cs ++ ds))(j : kvg (B1 + 1) wx m.q cs)(d : kvg (B1 + 1) wx [b9] ds)(u : ∀g,v.ownBlock = some g->g < w.heap.size)(x : P < w.heap.size)(f : w.heap.size = B0)(i : B0 < B1):kxd w P v L B0 B1 x0 x1 x2 x3 y {m with q:=m.q ++ [b9]} s (wy.setCell (Ad B1 4) y):=by
 have ⟨l,⟨c1,h1,k1⟩,p,⟨c3,q,k3⟩,⟨c4,t,k4⟩⟩:=h.md
 obtain⟨_,rfl,g0,g1,k,g3,S,O,K,R,N⟩:=h.grow (y:=y) 4 t z u x f i
 exact⟨g0,g1,⟨O l,⟨c1,O h1,K k1⟩,O p,⟨c3,O q,R k3⟩,⟨cs ++ ds,qW,N<|j.app d⟩⟩,k,g3⟩
def xu(a b:Int):Int:=if a<0\/(0<=b/\b<a) then b else a
theorem first_any{d:Int}:Calls prog 63 #[i_ e3,i_ d] w λe w'=>rT e (i_ (xu e3 d))/\w'=w:=by
 by_cases h1:e3<0
 ·go_wp2;go_ret;simp_all [xu]
 ·by_cases f:0<=d
  ·by_cases g:d<e3
   ·go_wp2;go_ret;simp_all [xu]
   ·go_wp2;go_ret;exact⟨kqi (by rw[xu,Xy aj]),rfl⟩
  ·go_wp2;go_ret;exact⟨kqi (by rw[xu,Xy aj]),rfl⟩
def qkz(n most:Int)(t:Tok):Int:=if n==most then t.v else -1
theorem qz1(m:Int)(t:Tok):Calls prog 110 #[i_ e3,i_ m,kxt t] w λe w'=>rT e (i_ (qkz e3 m t))/\oq w w':=by
 unfold kxt;cases h:(e3==m);all_goals
  go_wp2;go_ret;simp_all [qkz,jZ]
def vji(t:Tok)(lo hi:Int):Int:=if mg t.x<lo\/hi<mg t.x then t.v else -1
theorem pqu(t:Tok)(lo hi:Int)(i:∃h:0<t.x.size,48<=((t.x[0]'h).toNat:Int)/\((t.x[0]'h).toNat:Int)<=57):Calls prog 111 #[kxt t,.int .i64 lo,.int .i64 hi] w λe w'=>e=.returned (.int .i64<|vji t lo hi)/\oq w w':=by
 obtain⟨d,h1,j⟩:=i;have f:=oz (by simp[mg,d]:mg t.x=((t.x[0]'d).toNat:Int)-48);unfold kxt;by_cases g:((t.x[0]'d).toNat:Int)-48<lo
 ·go_wp2;go_ret;exact⟨kqi (by rw[vji,ku f,lJ (.inl g)]),jZ _⟩
 ·by_cases k:hi<((t.x[0]'d).toNat:Int)-48
  ·go_wp2;go_ret;exact⟨kqi (by grind [vji,ku]),jZ _⟩
  ·go_wp2;go_ret;exact⟨kqi (by rw[vji,ku f,Xy aj]),jZ _⟩
def zx:List ByteArray->List UInt8->Int
 |[],_=>-1
 |t::l,s=>if t.toList==s then 0 else if zx l s<0 then -1 else zx l s+1
theorem zx9:∀(l:List ByteArray)(s:List UInt8),-1<=zx l s/\zx l s<l.length
 |[],_=>by simp[zx]
 |t::l,s=>by have d:=zx9 l s;grind [zx]
theorem kys:∀(l:List ByteArray)(s:List UInt8),(∀i,i<l.length->((l.getD i ByteArray.empty).toList==s)=false)->zx l s=-1
 |[],_,_=>rfl
 |t::l,s,h=>by have d:=h 0 ay;have e:=kys l s (λi hi=>by have:=h (i+1) (by simp_all);simp_all);grind [zx]
theorem qjy:∀(l:List ByteArray)(s:List UInt8)(k:Nat),k<l.length->(∀i,i<k->((l.getD i ByteArray.empty).toList==s)=false)->((l.getD k ByteArray.empty).toList==s)=true->zx l s=k
 |[],_,k,hk,_,_=>by simp_all
 |t::l,s,0,_,_,h=>by
  rw[zx,lJ (by simp_all)];rfl
 |t::l,s,k+1,hk,hn,h=>by have d:=hn 0 aj;have e:=qjy l s k (by simp_all) (λi hi=>by grind) (by simp_all);grind [zx]
theorem kqo(f:α->List Value)(n:Nat)(d:∀x,(f x).length=n):∀(l:List α)(i j:Nat)(hi:i<l.length),j<n->(l.flatMap f)[i*n+j]?=(f l[i])[j]?
 |[],i,_,hi,_=>by grind
 |a::l,0,j,_,hj=>by
  grind
 |a::l,i+1,j,hi,hj=>by have e:=kqo f n d l i j (by simp_all) hj;grind
theorem kq8(h:w.ownsRow lo e size v n xs):∃a cap,v=.slice a n cap/\∀i,i<n->∃g,a=some ⟨g,0,none⟩/\∀j,j<n*size->w.cell? ⟨g,j,none⟩=xs[j]?:=by
 obtain⟨rfl,rfl⟩|⟨g,cap,cur,rfl,m,p,d,f,k,l⟩:=h.2
 ·simp
 grind [cell_of_row]
def ug(t:PTree):List ByteArray:=t.j.map (·.y.x)
theorem set_any(s:ByteArray)(h:kqc w lo t)(B:t.j.length<=801):Calls prog 113 #[pT lo,.string s] w λe w'=>rT e (i_<|zx (ug t) s.toList)/\w'=w:=by
 have⟨x0,x1,x2,x3,x4,y1,y3,y4,m,z,_⟩:=h;have C:=kzk m;obtain⟨a,cap,rfl,(v:Hid _)⟩:=kq8 z;clear m;go_wp2;go_loop [5] (λi=>∃k:Nat,k<=t.j.length/\i=i_ k/\∀j,j<k->(((ug t).getD j ByteArray.empty).toList==s.toList)=false) (λi=>t.j.length-(intOf i).toNat)
 ·grind
 obtain⟨k,A,rfl,(l:Hid _)⟩:=hrel;by_cases d:k<t.j.length
 ·obtain⟨g,rfl,p⟩:=ku v k d;have q:(ug t).getD k ByteArray.empty=(t.j[k]).y.x:=by simp[ug,d]
  have f:w.cell? (Ad g (k*6+1))=some (.string (t.j[k]).y.x):=by rw[p _ aj];exact kqo kwz 6 (λ_=>rfl) t.j k 1 d aj
  rw[<-q]at f;generalize u:(ug t).getD k ByteArray.empty=x at f;have y:=oz u;clear p q u;go_wp2
  ·go_ret;exact⟨kqi (qjy _ _ k (by simpa[ug] using d) l (by rw[ku y];omega)).symm,rfl⟩
  grind [ku,intOf]
 ·go_wp2;go_ret;exact⟨kqi (kys _ _<|λi hi=>l i (by simp[ug]at hi;omega)).symm,rfl⟩
theorem qz8:∀{ks:List PKind}{xs:List Value}(i:Nat)(hi:i<ks.length),kjt lo w ks xs ->
  ∃vm,xs[i*4]?=some (.string (ks[i]).y.t)/\xs[i*4+1]?=some (.string (ks[i]).y.x)/\xs[i*4+2]?=some (i_ (ks[i]).y.v)/\xs[i*4+3]?=some vm/\w.ownsRow lo 142 3 vm (ks[i]).i.length (uw (ks[i]).i)
 |[],_,i,hi,_=>by grind
 |k::ks,xs,0,_,⟨vm,ys,e,h1,h2⟩=>by subst e;exact⟨vm,rfl,rfl,rfl,rfl,h1⟩
 |k::ks,xs,i+1,hi,⟨vm,ys,e,h1,h2⟩=>by subst e;have d:=qz8 i (by simp_all) h2;grind [ji]
theorem qji:∀{rs:List PRule}{xs:List Value}(i:Nat)(hi:i<rs.length),dw lo w rs xs ->
  ∃vp vg vb ps,(xs[i*6]?=some (.string (rs[i]).y.t)/\xs[i*6+1]?=some (.string (rs[i]).y.x)/\xs[i*6+2]?=some (i_ (rs[i]).y.v)/\xs[i*6+3]?=some vp/\xs[i*6+4]?=some vg/\xs[i*6+5]?=some vb) /\
   w.ownsRow lo 236 6 vp (rs[i]).u.length (kjm (rs[i]).u)/\yw lo w (rs[i]).guard vg/\w.ownsRow lo 245 1 vb ps.length ps/\jg lo none w (rs[i]).S ps
 |[],_,i,hi,_=>by grind
 |r::rs,xs,0,_,⟨vp,vg,vb,ps,ys,e,h1,h2,h3,h4,h5⟩=>by subst e;exact⟨vp,vg,vb,ps,⟨rfl,rfl,rfl,rfl,rfl,rfl⟩,h1,h2,h3,h4⟩
 |r::rs,xs,i+1,hi,⟨vp,vg,vb,ps,ys,e,h1,h2,h3,h4,h5⟩=>by
  subst e;have d:=qji i (by simp_all) h5;have f:∀j,(ji r.y++vp::vg::vb::ys)[j+6]?=ys[j]?:=λj=>by grind [ji]
  grind
def uy(t:PTree):List ByteArray:=t.p.map (·.y.x)
theorem zkl(s:ByteArray)(h:kqc w lo t)(C:t.p.length<=801):Calls prog 114 #[pT lo,.string s] w λe w'=>rT e (i_<|zx (uy t) s.toList)/\w'=w:=by
 have⟨x0,x1,x2,x3,x4,y1,y3,y4,m,_,⟨z,A⟩,_⟩:=h;have D:=kzk m;obtain⟨a,cap,rfl,(u:Hid _)⟩:=kq8 z;clear m;go_wp2;go_loop [5] (λi=>∃k:Nat,k<=t.p.length/\i=i_ k/\∀j,j<k->(((uy t).getD j ByteArray.empty).toList==s.toList)=false) (λi=>t.p.length-(intOf i).toNat)
 ·grind
 obtain⟨k,B,rfl,(l:Hid _)⟩:=hrel;by_cases d:k<t.p.length
 ·obtain⟨g,rfl,y⟩:=ku u k d;have p:(uy t).getD k ByteArray.empty=(t.p[k]).y.x:=by simp[uy,d]
  have f:w.cell? (Ad g (k*4+1))=some (.string (t.p[k]).y.x):=by grind [qz8]
  rw[<-p]at f;generalize q:(uy t).getD k ByteArray.empty=x at f;have v:=oz q;clear y p q;go_wp2
  ·go_ret;exact⟨kqi (qjy _ _ k (by simpa[uy] using d) l (by rw[ku v];omega)).symm,rfl⟩
  grind [ku,intOf]
 ·go_wp2;go_ret;exact⟨kqi (kys _ _<|λi hi=>l i (by simp[uy]at hi;omega)).symm,rfl⟩
def zf(t:PTree):List ByteArray:=t.z.map (·.y.x)
theorem qjt(s:ByteArray)(h:kqc w lo t)(B:t.z.length<=801):Calls prog 119 #[pT lo,.string s] w λe w'=>rT e (i_<|zx (zf t) s.toList)/\w'=w:=by
 have⟨x0,x1,x2,x3,x4,y1,y3,y4,m,_,_,z,_⟩:=h;have C:=kzk m;obtain⟨a,cap,rfl,(v:Hid _)⟩:=kq8 z;clear m;go_wp2;go_loop [5] (λi=>∃k:Nat,k<=t.z.length/\i=i_ k/\∀j,j<k->(((zf t).getD j ByteArray.empty).toList==s.toList)=false) (λi=>t.z.length-(intOf i).toNat)
 ·grind
 obtain⟨k,A,rfl,(l:Hid _)⟩:=hrel;by_cases d:k<t.z.length
 ·obtain⟨g,rfl,p⟩:=ku v k d;have q:(zf t).getD k ByteArray.empty=(t.z[k]).y.x:=by simp[zf,d]
  have f:w.cell? (Ad g (k*12+1))=some (.string (t.z[k]).y.x):=by rw[p _ aj];exact kqo kj7 12 (λ_=>rfl) t.z k 1 d aj
  rw[<-q]at f;generalize u:(zf t).getD k ByteArray.empty=x at f;have y:=oz u;clear p q u;go_wp2
  ·go_ret;exact⟨kqi (qjy _ _ k (by simpa[zf] using d) l (by rw[ku y];omega)).symm,rfl⟩
  grind [ku,intOf]
 ·go_wp2;go_ret;exact⟨kqi (kys _ _<|λi hi=>l i (by simp[zf]at hi;omega)).symm,rfl⟩
def kjp(k:PKind):List ByteArray:=k.i.map (·.x)
def kjj:List PKind->List UInt8->Int×Int
 |[],_=>(-1,-1)
 |k::ks,s=>if 0<=zx (kjp k) s then (0,zx (kjp k) s) else if (kjj ks s).1<0 then (-1,-1) else ((kjj ks s).1+1,(kjj ks s).2)
theorem jko:∀(l:List PKind)(s:List UInt8),(∀i (hi:i<l.length),zx (kjp l[i]) s=-1)->kjj l s=(-1,-1)
 |[],_,_=>rfl
 |t::l,s,h=>by have d:=h 0 ay;have e:=jko l s (λi hi=>by have:=h (i+1) (by simp_all);simp_all);grind [kjj]
theorem vz9:∀(l:List PKind)(s:List UInt8)(k:Nat)(hk:k<l.length),(∀i (hi:i<k),zx (kjp (l[i]'aj)) s=-1)->0<=zx (kjp l[k]) s->kjj l s=((k:Int),zx (kjp l[k]) s)
 |[],_,k,hk,_,_=>by grind
 |t::l,s,0,_,_,h=>by
  grind [kjj]
 |t::l,s,k+1,hk,hn,h=>by have d:=hn 0 aj;have e:=vz9 l s k (by grind) (λi hi=>by grind) (by simp_all);grind [kjj]
theorem qw9(j:Nat)(d:j<l.length):(uw l)[j*3+1]?=some (.string (l[j]).x):=kqo ji 3 (λ_=>rfl) l j 1 d aj
theorem zjh(s:ByteArray)(h:kqc w lo t)(G:t.p.length<=801)(H:∀k∈t.p,k.i.length<=801):Calls prog 178 #[pT lo,.string s] w λe w'=>rT e (.tuple #[i_ (kjj t.p s.toList).1,i_ (kjj t.p s.toList).2])/\w'=w:=by
 have⟨x0,x1,x2,x3,x4,y1,y3,y4,E,_,⟨U,y⟩,_⟩:=h;have Y:=kzk E;obtain⟨a,cap,rfl,(O:Hid _)⟩:=kq8 U;have N:=oz H;clear E H;go_wp2;go_loop [6,7] (λi _=>∃k:Nat,k<=t.p.length/\i=i_ k/\∀j (T:j<k) (G:k<=t.p.length),zx (kjp<|t.p[j]'aj) s.toList=-1) (λi _=>t.p.length-(intOf i).toNat)
 ·grind
 obtain⟨k,X,rfl,(v:Hid _)⟩:=hrel;by_cases d:k<t.p.length
 ·obtain⟨g,rfl,R⟩:=ku O k d;have ⟨V,_,_,_,L,q⟩:=qz8 k d y;have W:w.cell? (Ad g (k*4+3))=some V:=by grind
  have I:=ku N _<|wZ d;generalize D:t.p[k]=K at q I;have u:=oz D;obtain⟨ma,mc,rfl,(z:Hid _)⟩:=kq8 q;clear R L D;go_wp2
  go_loop [7] (λi=>∃j:Nat,j<=K.i.length/\i=i_ j/\∀i,i<j->(((kjp K).getD i ByteArray.empty).toList==s.toList)=false) (λi=>K.i.length-(intOf i).toNat)
  ·grind
  obtain⟨j,T,rfl,(l:Hid _)⟩:=hrel;by_cases m:j<K.i.length
  ·obtain⟨Q,rfl,F⟩:=ku z j m;have J:(kjp K).getD j ByteArray.empty=(K.i[j]).x:=by simp[kjp,m]
   have p:w.cell? (Ad Q (j*3+1))=some (.string (K.i[j]).x):=by grind [qw9]
   rw[<-J]at p;generalize M:(kjp K).getD j ByteArray.empty=x at p;have B:=oz M;clear F J M;go_wp2
   ·go_ret2;have C:=qjy (kjp K) s.toList j (by simpa[kjp] using m) l (by rw[ku B];omega);have P:=vz9 t.p s.toList k d (λi hi=>v i hi aj) (by rw[ku u,C];omega);rw[ku u,C]at P;simp_all
   ·have S:(x.toList==s.toList)=false:=by omega
    go_round
    case rel=>exact⟨j+1,aj,eu,λi hi=>if e:i=j then by rw[e,ku B];exact S else l i aj⟩
    case measure=>exact ou
  ·have f:=kys (kjp K) s.toList (λi hi=>l i (by simp[kjp]at hi;omega));have A:=oz f;clear f;go_wp2;go_round
   case rel=>exact⟨k+1,aj,eu,λi hi G=>if e:i=k then by subst e;rw[ku u];exact A else v i aj aj⟩
   case measure=>exact ou
 ·go_wp2;go_ret2;rw[jko t.p s.toList (λi hi=>ku v i aj aj)];simp
def pq(l:List PP):List ByteArray:=l.map (·.y.x)
def qk4(n:Tok)(vp vg vb:Value):Value:=.agg #[.string n.t,.string n.x,i_ n.v,vp,vg,vb]
theorem qkx(n:Tok)(vg:Option Addr)(ba:Option Addr)(bn bc:Nat)(s:ByteArray)(h:w.ownsRow lo 236 6 (.slice va vn vc) e5.length (kjm e5))(y:e5.length<=801):Calls prog 179 #[qk4 n (.slice va vn vc) (.pointer vg) (.slice ba bn bc),.string s] w λe w'=>rT e (i_<|zx (pq e5) s.toList)/\oq w w':=by
 have hn:=jwi h;subst hn;have ⟨a,cap,hv,t⟩:=kq8 h;cases hv;unfold qk4;go_wp2;go_loop [5] (λi=>∃k:Nat,k<=e5.length/\i=i_ k/\∀j,j<k->(((pq e5).getD j ByteArray.empty).toList==s.toList)=false) (λi=>e5.length-(intOf i).toNat)
 ·grind
 obtain⟨k,v,rfl,l⟩:=hrel;by_cases d:k<e5.length
 ·obtain⟨g,rfl,m⟩:=ku t k d;have q:(pq e5).getD k ByteArray.empty=(e5[k]).y.x:=by simp[pq,d]
  have f:w.cell? (Ad g (k*6+1))=some (.string (e5[k]).y.x):=by rw[m _ aj];exact kqo kwf 6 (λ_=>rfl) e5 k 1 d aj
  have p:=block_lt_of_cell f;simp only at p;rw[<-q]at f;generalize u:(pq e5).getD k ByteArray.empty=x at f;clear m q;go_wp2
  ·go_ret;exact⟨kqi (qjy _ _ k (by simpa[pq] using d) l (by rw[ku u];omega)).symm,jZ _⟩
  grind [ku,intOf]
 ·go_wp2;go_ret;exact⟨kqi (kys _ _<|λi hi=>l i (by simp[pq]at hi;omega)).symm,jZ _⟩
theorem kqv{p:Program}{o:Oper}(A:o.guard=none)(t:TypeId)(D:o.op=.call {callee:=.builtin .append,args:=#[e8,x],argTypes:=#[t,t]})(base:Nat)(e:TypeId)(i:TypeInfo)(z:Value)(size d:Nat)(G:p.underlying t=some (.slice e))(hi:p.info? e=some i)(L:i.zero=some z)(s:i.size=size)(C:i.bytes=d)(I:z.cells.size=size)(F:0<size)(v:Value)(n:Nat)(xs:List Value)(E:e7.eval e8=v)(k:w.ownsRow base e size v n xs)(u:Value)(m:Nat)(ys:List Value)(lo:Nat)(H:e7.eval x=u)(l:w.ownsRow lo e size u m ys)(h1:∀y∈ys,y.oneCell'=true)(B:n+m<=maxLen)(j:(n+m)*d<=140737488355328)(q:base<=w.heap.size)(h:∀f w',w'.ownsRow base e size f (n+m) (xs++ys)->w.grownBy w' v.ownBlock->(f.ownBlock=v.ownBlock\/f.ownBlock=some w.heap.size)->wpList p ops Q rest (e7.put o.dst f) w'):wpList p ops Q (o::rest) e7 w:=by
 have J:=l.1;obtain⟨rfl,rfl⟩|⟨g,cap,cur,rfl,R,S,M,N,O,P⟩:=l.2
 ·have K:ys=[]:=by simp_all
  subst K;refine wpList_append_own_none A e8 x t D base e i size G hi v n xs E k H (h v w ?_ ⟨rfl,rfl,rfl,jV,λ_ _ _=>rfl⟩<|.inl rfl);simp_all
 ·refine Ja w A e8 x t D base e i z size d G hi L s C I F v n xs E k ⟨g,0,none⟩ m cap ys H J ?_ h1 B j q (λf w' k1 k2 k3 k4=>h f w' k1 k2 k4);grind [Addr.add,cell_of_row]
def ownNames(x:ELab):List Tok:=if x.op.toList==ng then (if x.c.t.toList==mX then [x.y,x.c] else [x.y]) else []
def yu:PX->List Tok
 |.nil=>[]
 |.node _ _ x a b=>(ownNames x++yu a)++yu b
theorem qxw:∀y∈uw l,y.oneCell'=true:=by grind [uw,kk1]
theorem qxy(a b:List Tok):uw (a++b)=uw a++uw b:=by simp[uw]
def zqx(x:PX):Prop:=∀(w:World)(lo:Nat)(p:Value),(yu x).length<=100000->yw lo w x p ->
 Calls prog 115 #[p] w λe w'=>∃v,e=.returned v/\w'.ownsRow w.heap.size 142 3 v (yu x).length (uw<|yu x)/\oq w w'
abbrev Tks(w:World)(lo:Nat)(v:Value)(l:List Tok):Prop:=w.ownsRow lo 142 3 v l.length (uw l)
structure Acc (w0 U:World)(A base:Nat)(w:World)(v:Value)(l:List Tok):Prop where
 xu:Tks w base v l
 bel:Below base w0 w
 far:∀k,v.ownBlock=some k->k<A\/U.heap.size<=k
 sz:U.heap.size<=w.heap.size
 mid:∀k,A<=k->k<U.heap.size->w.heap[k]?=U.heap[k]?
theorem xjy(h:Tks U A u L)(i:∀k,A<=k->k<U.heap.size->w.heap[k]?=U.heap[k]?):Tks w A u L:=by have⟨h1,f⟩:=h;refine⟨h1,f.imp id ?_⟩;rintro⟨g,cap,cur,rfl,d,e,r⟩;exact⟨g,cap,cur,rfl,d,(i g d<|wQ e).trans e,r⟩
theorem Acc.grown(c:Acc w0 U A base w v l)(h1:Tks w' base x0 L)(f:w.grownBy w' v.ownBlock)(i:x0.ownBlock=v.ownBlock\/x0.ownBlock=some w.heap.size)(hb:base<=w.heap.size):Acc w0 U A base w' x0 L:=by
 refine⟨h1,c.bel.grown f hb<|jo c.xu,?_,rP c.sz f.size,?_⟩
 ·intro k d;obtain e|e:=i
  ·exact c.far k (e▸d)
  ·rw[e]at d;injection d with d;exact .inr<|d▸c.sz
 ·exact λk j g=>(f.block k (sV g c.sz) (λe=>by obtain h|h:=c.far k e.symm<;>omega)).trans<|c.mid k j g
theorem Acc.app(c:Acc w0 U A base w v l)(q:Tks U A u L)(h:∀d w',Acc w0 U A base w' d (l++L)->wpList prog ops Q rest (e7.put e9.dst d) w')(m:e9.op=.call {callee:=.builtin .append,args:=#[e8,x],argTypes:=#[132,132]}:=by exact rfl)(e:e9.guard=none:=by exact rfl)(p:e7.eval e8=v:=by exact rfl)(s:e7.eval x=u:=by exact rfl)(hn:l.length+L.length<=1000000:=by omega)(hb:base<=w.heap.size:=by omega):wpList prog ops Q (e9::rest) e7 w:=by have ⟨t,hi,f,g,i⟩:=info_parts infoTok;refine kqv e _ m base 142 t _ 3 40 underlying132 hi f g i rfl ak v _ _ p c.xu u _ _ A s (xjy q c.mid) (qxw) iq aj hb λd w' h1 j k=>h d w' (c.grown (by grind [qxy]) j k hb)
theorem xqm(e:Tks w base v l)(f:Below base w0 w)(s:Tks w lo u L)(h:∀d w',Tks w' base d (l++L)->Below base w0 w'->wpList prog ops Q rest (e7.put e9.dst d) w')(p:e9.op=.call {callee:=.builtin .append,args:=#[e8,x],argTypes:=#[132,132]}:=by exact rfl)(g:e9.guard=none:=by exact rfl)(q:e7.eval e8=v:=by exact rfl)(t:e7.eval x=u:=by exact rfl)(hn:l.length+L.length<=1000000:=by first|omega|(simp;done)|(simp;omega))(hb:base<=w.heap.size:=by first|omega|(simp;done)|(simp;omega)):wpList prog ops Q (e9::rest) e7 w:=by have ⟨y,hi,i,j,k⟩:=info_parts infoTok;exact kqv g _ p base 142 y _ 3 40 underlying132 hi i j k rfl ak v _ _ q e u _ _ lo t s (qxw) iq aj hb λd w' h1 m _=>h d w' (by grind [qxy])<|f.grown m hb (jo e)
theorem qvp{t:Tok}(e:Tks w base v l)(f:Below base w0 w)(s:w.heap[b]?=some (.cells (ji t).toArray 142 (0,0)))(h:∀d w',Tks w' base d (l++[t])->Below base w0 w'->wpList prog ops Q rest (e7.put e9.dst d) w')(p:e9.op=.call {callee:=.builtin .append,args:=#[e8,x],argTypes:=#[132,132]}:=by exact rfl)(g:e9.guard=none:=by exact rfl)(q:e7.eval e8=v:=by exact rfl)(u:e7.eval x=.slice (some ⟨b,0,none⟩) 1 1:=by exact rfl)(hn:l.length<=1000000:=by first|omega|(simp;done)|(simp;omega))(hb:base<=w.heap.size:=by first|omega|(simp;done)|(simp;omega)):wpList prog ops Q (e9::rest) e7 w:=by have ⟨y,hi,i,j,k⟩:=info_parts infoTok;exact Ja _ g e8 x _ p base 142 y _ 3 40 underlying132 hi i j k rfl ak v _ _ q e ⟨b,0,none⟩ 1 1 (ji t) u rfl (World.news_of_block s) (kk1) iq aj hb λd w' h1 m _ _=>h d w' (by grind [uw])<|f.grown m hb (jo e)
theorem Acc.alloc(c:Acc w0 U A base w v l)(o:Obj)(hb:base<=w.heap.size:=by omega):Acc w0 U A base (w.alloc o) v l:=
 ⟨World.ownsRow.alloc c.xu _,c.bel.alloc hb _,c.far,by have:=c.sz;simp;omega,λk h1 d=>(jR<|sV d c.sz).trans<|c.mid k h1 d⟩
theorem Acc.qvp{t:Tok}(c:Acc w0 U A base w v l)(q:Rw w b ((ji t).toArray) 142)(h:∀d w',Acc w0 U A base w' d (l++[t])->wpList prog ops Q rest (e7.put e9.dst d) w')(m:e9.op=.call {callee:=.builtin .append,args:=#[e8,x],argTypes:=#[132,132]}:=by exact rfl)(e:e9.guard=none:=by exact rfl)(p:e7.eval e8=v:=by exact rfl)(s:e7.eval x=sL b 1 1:=by exact rfl)(hn:l.length<=1000000:=by first|omega|(simp;done)|(simp;omega))(hb:base<=w.heap.size:=by first|omega|(simp;done)|(simp;omega)):wpList prog ops Q (e9::rest) e7 w:=by have ⟨u,hi,f,g,i⟩:=info_parts infoTok;exact Ja _ e e8 x _ m base 142 u _ 3 40 underlying132 hi f g i rfl ak v _ _ p c.xu ⟨b,0,none⟩ 1 1 (ji t) s rfl (World.news_of_block q) (kk1) iq aj hb λd w' h1 j _ k=>h d w' (c.grown (by grind [uw]) j k hb)
theorem vw9(i j:Nat)(x:ELab)(R:zqx a0)(hb:zqx g4):zqx (.node i j x a0 g4):=by
 intro w lo p H hN;obtain⟨k,pa,I,rfl,_,A,L,M⟩:=hN;have hL:(ownNames x).length+(yu a0).length+(yu g4).length<=100000:=by grind [yu]
 have d:=zzh (A:w.heap[k]?=some (.cells #[.string x.op,pa,I,.string x.y.t,.string x.y.x,.int .i64 x.y.v,.string x.c.t,.string x.c.x,.int .i64 x.c.v,.int .i64 x.n] _ (0,0)));have G:=oz λ(u:World)(T:oq w u)=>zzh<|(T.block k<|wQ A).trans (A:w.heap[k]?=some (.cells #[.string x.op,pa,I,.string x.y.t,.string x.y.x,.int .i64 x.y.v,.string x.c.t,.string x.c.x,.int .i64 x.c.v,.int .i64 x.n] _ (0,0)))
 clear H;cases c1:(x.op.toList==ng);case' false=>
  have m:ownNames x=[]:=by simp[ownNames,c1]
  go_in;go_wp21;obtain⟨w0,e0,f⟩:∃w0,w0=w/\oq w w0:=⟨w,rfl,bR⟩;rw[<-e0];obtain⟨z,K,g⟩:∃z,z=Value.slice none 0 0/\Tks w0 w.heap.size z []:=⟨_,rfl,oN⟩;rw[<-K];clear e0 K
 case' true=>
  go_in;go_wp2_with (at_builtin;refine qvp (l:=[]) (t:=x.y) (oN) (jZ w) (Xk w _) ?_)
  intro z w0 g f;have q:=(ku G) w0 f;have y:=f.size;obtain⟨_,_,_,rfl⟩:=qh g;cases c2:(x.c.t.toList==mX);case' false=>
   have m:ownNames x=[x.y]:=by simp[ownNames,c1,c2]
   go_wp21
  case' true=>
   have m:ownNames x=[x.y,x.c]:=by simp[ownNames,c1,c2]
   go_wp2_with (at_builtin;refine qvp (t:=x.c) (g.alloc _) (f.alloc f.size _) (Xk w0 _) ?_)
   clear q y;intro z w0 g f;have q:=(ku G) w0 f;obtain⟨_,_,_,rfl⟩:=qh g;go_wp21
 all_goals
  rw[<-m]at g;clear m;have y:=f.size;refine(R _ lo pa aj<|L.below f).mono ?_;rintro e W ⟨v1,rfl,B,h⟩;have U:=(ku G) W<|f.trans (h.mono y);have E:=h.size;obtain⟨_,_,_,rfl⟩:=qh B;go_wp21
  refine(hb _ lo I aj<|M.below (f.trans<|h.mono y)).mono ?_;rintro e N ⟨v2,rfl,D,v⟩;have Y:=v.size;obtain⟨_,_,_,rfl⟩:=qh D;have s:=h.trans<|v.mono E;have C:=show Acc w N w0.heap.size w.heap.size N _ (ownNames x) from⟨qj g s,f.trans<|s.mono y,λk S=>.inl<|kq9 g k S,jV,λ_ _ _=>rfl⟩
  have P:=qj B v;have Q:=qo E D;clear A d U;go_wp2_with (at_builtin;refine C.app P ?_)
  intro v3 w3 F;obtain⟨_,_,_,rfl⟩:=qh F.xu;have Z:=F.sz;have X:(ownNames x++yu a0).length+(yu g4).length<=100000:=by simp_all
  go_wp2_with (at_builtin;refine F.app Q ?_)
  intro V w4 J;have O:=show Tks w4 w.heap.size V (yu<|.node i j x a0 g4) from by rw[yu,sZ];exact J.xu
  go_wp2;go_ret;exact⟨_,rfl,O,J.bel⟩
theorem qjw:∀x:PX,zqx x
 |.nil=>λw lo p _ hN=>by
  have d:p=.pointer none:=hN;subst d;go_wp2;go_ret;exact⟨_,rfl,oN,bR⟩
 |.node i j x a b=>vw9 i j x (qjw a)<|qjw b
def qqg:ByteArray:=⟨#[115,101,116,32]⟩
def qje:ByteArray:=⟨#[107,105,110,100,32]⟩
def kvj:ByteArray:=⟨#[116,114,117,116,104]⟩
def kwn:ByteArray:=⟨#[110,117,109,98,101,114]⟩
def vjy:ByteArray:=⟨#[110,111,110,101]⟩
def kjx:ByteArray:=⟨#[]⟩
theorem kzj(h:g7=g8):Ending.returned (.string g7)=.returned (.string g8):=by rw[h]
def kx3(s:ByteArray):Bool:=decide (4<s.size)&&((s.extract 0 4).toList==[115,101,116,32])
theorem qjg(s:ByteArray)(d:s.size<=2000):Calls prog 121 #[.string s] w λe w'=>rT e (.bool (kx3 s))/\w'=w:=by
 by_cases h:4<s.size
 ·go_wp2;go_ret;simp_all [kx3]
 ·go_wp2;go_ret;exact⟨um (by simp[kx3,h]),rfl⟩
theorem kqc.stay(h:kqc w lo t)(p:∀k,lo<=k->k<w.heap.size->w'.heap[k]?=w.heap[k]?):kqc w' lo t:=by
 have⟨x0,x1,x2,x3,x4,y1,y3,y4,q,j,⟨h1,f⟩,e,⟨l,g⟩,⟨m,i⟩⟩:=h;have d:∀k,lo+1<=k->k<w.heap.size->w'.heap[k]?=w.heap[k]?:=λk h1 e=>p k aj e
 exact⟨x0,x1,x2,x3,x4,y1,y3,y4,by grind,xg d j,⟨xg d h1,f.stay d⟩,xg d e,⟨xg d l,g.stay d⟩,⟨xg d m,i.stay d⟩⟩
theorem kqc.below(h:kqc w lo t)(hb:oq w w'):kqc w' lo t:=h.stay λk _ d=>hb.block k d
def kj2(t:PTree)(v:PVar):ByteArray:=
 if v.k.t.toList==nV then (if v.k.x.toList==nP then kvj else kwn)
 else if 0<=zx (uy t) v.k.x.toList then qje++v.k.x else qqg++v.k.x
theorem qv8(v:PVar)(h:kqc w lo t)(i:t.p.length<=801)(hv:v.k.x.size<=800):Calls prog 120 #[pT lo,pjf v] w λe w'=>rT e (.string<|kj2 t v)/\oq w w':=by
 have g:=oz h;unfold pjf kj7 ji;simp only[QU,Qd];go_in;go_wp21;refine zM (zkl v.k.x (g.below<|jZ _) i) ?_;rintro j rfl;cases h1:(v.k.t.toList==nV)
 ·by_cases f:0<=zx (uy t) v.k.x.toList
  ·have d:=oz (by simp[kj2,h1,f]:kj2 t v=qje++v.k.x);generalize zx (uy t) v.k.x.toList=n at f |-;go_wp2
   go_ret;exact⟨kzj lD,jZ _⟩
  ·have d:=oz (by simp[kj2,h1,f]:kj2 t v=qqg++v.k.x);generalize zx (uy t) v.k.x.toList=n at f |-;go_wp2
   go_ret;exact⟨kzj lD,jZ _⟩
 ·generalize zx (uy t) v.k.x.toList=n;cases f:(v.k.x.toList==nP)
  ·have d:=oz (by simp[kj2,h1,f]:kj2 t v=kwn);go_wp2;go_ret;exact⟨kzj lD,jZ _⟩
  ·have d:=oz (by simp[kj2,h1,f]:kj2 t v=kvj);go_wp2;go_ret;exact⟨kzj lD,jZ _⟩
def qxc(t:PTree)(l:List PP)(s:List UInt8):Bool:=decide (0<=(kjj t.p s).1)||decide (0<=zx (zf t) s)||decide (0<=zx (pq l) s)
structure TreeOk (t:PTree):Prop where
 j:t.j.length<=801
 p:t.p.length<=801
 z:t.z.length<=801
 i:∀k∈t.p,k.i.length<=801
theorem px9(n:Tok)(vg:Option Addr)(ba:Option Addr)(bn bc:Nat)(s:ByteArray)(h:kqc w P t)(g:TreeOk t)(q:w.ownsRow lo 236 6 (.slice va vn vc) e5.length (kjm e5))(p:e5.length<=801):Calls prog 117 #[pT P,qk4 n (.slice va vn vc) (.pointer vg)<|.slice ba bn bc,.string s] w λe w'=>rT e (.bool<|qxc t e5 s.toList)/\oq w w':=by
 have⟨i,l⟩:=jS h q;unfold qk4;go_in;go_wp21;refine zM (zjh s (i.below<|jZ _) g.p g.i) ?_;rintro k rfl;go_wp21;refine zM (qjt s (i.below<|jZ _) g.z) ?_;rintro k rfl;go_wp21;refine zM (qkx n vg ba bn bc s (qj l<|jZ _) p) λk j=>?_;have f:=(jZ w).trans<|j.mono ay;have d:=oz (show qxc t e5 s.toList=(decide (0<=(kjj t.p s.toList).1)||decide (0<=zx (zf t) s.toList)||decide (0<=zx (pq e5) s.toList)) from rfl);generalize (kjj t.p s.toList).1=a at d |-;generalize (kjj t.p s.toList).2=a2;generalize zx (zf t) s.toList=b at d |-;generalize zx (pq e5) s.toList=c at d |-;by_cases h1:0<=a
 ·go_wp2;go_ret;exact⟨um (by rw[ku d];simp[h1]),f⟩
 ·by_cases m:0<=b
  ·go_wp2;go_ret;exact⟨um (by rw[ku d];simp_all),f⟩
  ·go_wp2;go_ret;exact⟨um (by rw[ku d];try simp[h1,m]),f⟩
theorem pqh:∀(l:List PKind)(s:List UInt8),-1<=(kjj l s).1/\(kjj l s).1<l.length
 |[],_=>by simp[kjj]
 |t::l,s=>by have d:=pqh l s;grind [kjj]
def kxb(t:PTree)(l:List PP)(s:List UInt8):ByteArray:=
 if 0<=zx (pq l) s then qqg++(l.getD (zx (pq l) s).toNat ⟨zh,zh⟩).Q.x
 else if 0<=(kjj t.p s).1 then qje++(t.p.getD (kjj t.p s).1.toNat ⟨zh,[]⟩).y.x
 else if 0<=zx (zf t) s then
  (if (t.z.getD (zx (zf t) s).toNat ⟨zh,zh,zh,zh⟩).g.t.toList==mX then kjx else kj2 t (t.z.getD (zx (zf t) s).toNat ⟨zh,zh,zh,zh⟩))
 else kjx
structure TreeFit (t:PTree):Prop where
 p:∀k∈t.p,k.y.x.size<=800
 z:∀v∈t.z,v.k.x.size<=800/\v.g.x.size<=800
theorem zvz(n:Tok)(vg:Option Addr)(ba:Option Addr)(bn bc:Nat)(s:ByteArray)(h:kqc w base t)(D:TreeOk t)(U:TreeFit t)(W:∀p∈e5,p.Q.x.size<=800)(hp:w.ownsRow lo 236 6 (.slice va vn vc) e5.length (kjm e5))(hl:e5.length<=801):Calls prog 118 #[pT base,qk4 n (.slice va vn vc) (.pointer vg)<|.slice ba bn bc,.string s] w λe w'=>rT e (.string<|kxb t e5 s.toList)/\oq w w':=by
 have⟨Y,Q⟩:=jS h hp;unfold qk4;go_in;go_wp21;refine zM (qkx n vg ba bn bc s (qj Q<|jZ _) hl) λw1 G=>?_;have q:=(jZ w).trans<|G.mono ay;have F:=(G.block w.heap.size ay).trans<|Xk w _;have S:=oz F;have y:=Y.below q;have R:=qj Q q;clear F;go_wp21
 refine zM (qjt s y D.z) ?_;rintro E rfl;go_wp21;refine zM (zjh s y D.p D.i) ?_;rintro E rfl;have d0:=kzh S;have ⟨x0,x1,x2,x3,x4,y1,y3,y4,A,h0,⟨h1,a0⟩,Z,_⟩:=ku y;have q0:=kzk A;have z:=zx9 (pq e5) s.toList;have C:=pqh t.p s.toList;have bv:=zx9 (zf t) s.toList;rw[show(pq e5).length=e5.length by simp[pq]]at z;rw[show(zf t).length=t.z.length by simp[zf]]at bv;by_cases c1:0<=zx (pq e5) s.toList
 ·have ⟨m,I⟩:=sG c1;have i:m<e5.length:=aj;have u:e5.getD m ⟨zh,zh⟩=e5[m]:=getD_at i;have k:=oz (by grind [kxb]:kxb t e5 s.toList=qqg++(e5[m]).Q.x);have l:=W _<|wZ i;have ⟨a,cap,hv,d⟩:=kq8 R;cases hv;obtain⟨g,rfl,x⟩:=d m i;have B:E.cell? (Ad g (m*6+4))=some (.string (e5[m]).Q.x):=by rw[x _ aj];exact kqo kwf 6 (λ_=>rfl) e5 m 4 i aj
  rw[I];generalize e5[m]=P at B k l;generalize zx (zf t) s.toList=b;generalize (kjj t.p s.toList).1=c;generalize (kjj t.p s.toList).2=N;clear d x u I c1 z C bv A;go_wp2;go_ret;exact⟨kzj (by rw[ku k];rfl),q⟩
 ·by_cases c2:0<=(kjj t.p s.toList).1
  ·have ⟨nk,H⟩:=sG c2;have i:nk<t.p.length:=aj;have u:t.p.getD nk ⟨zh,[]⟩=t.p[nk]:=getD_at i;have k:=oz (by grind [kxb]:kxb t e5 s.toList=qje++(t.p[nk]).y.x);have l:=U.p _<|wZ i;obtain⟨a,cap,rfl,d⟩:=kq8 h1;obtain⟨g,rfl,x⟩:=d nk i;have B:E.cell? (Ad g (nk*4+1))=some (.string (t.p[nk]).y.x):=by grind [qz8]
   rw[H];generalize t.p[nk]=K at B k l;generalize zx (pq e5) s.toList=a' at c1 |-;generalize zx (zf t) s.toList=b;generalize (kjj t.p s.toList).2=N;clear d x u H c2 z C bv A;go_wp2
   go_ret;exact⟨kzj (by rw[ku k];rfl),q⟩
  ·by_cases c3:0<=zx (zf t) s.toList
   ·have ⟨nv,J⟩:=sG c3;have i:nv<t.z.length:=aj;have u:t.z.getD nv ⟨zh,zh,zh,zh⟩=t.z[nv]:=getD_at i;have v:kxb t e5 s.toList=if (t.z[nv]).g.t.toList==mX then kjx else kj2 t (t.z[nv]):=by grind [kxb]
    have l:=(U.z _<|wZ i).1;obtain⟨a,cap,rfl,d⟩:=kq8 Z;obtain⟨g,rfl,x⟩:=d nv i;have f:∀j,j<12->E.cell? (Ad g (nv*12+j))=(kj7<|t.z[nv])[j]?:=λj hj=>by rw[x _ aj];exact kqo kj7 12 (λ_=>rfl) t.z nv j i hj
    have k0:=f 0 aj;have k1:=f 1 aj;have k2:=f 2 aj;have k3:=f 3 aj;have k4:=f 4 aj;have k5:=f 5 aj;have k6:=f 6 aj;have k7:=f 7 aj;have k8:=f 8 aj;have k9:=f 9 aj;have L:=f 10 aj;have M:=f 11 aj;simp only[kj7,ji,QU,Qd,sW,sU,Qk]at k0 k1 k2 k3 k4 k5 k6 k7 k8 k9 L M;rw[J];generalize t.z[nv]=V at k0 k1 k2 k3 k4 k5 k6 k7 k8 k9 L M v l;generalize zx (pq e5) s.toList=a' at c1 |-;generalize (kjj t.p s.toList).1=c at c2 |-;generalize (kjj t.p s.toList).2=N;clear d x f u J c3 z C bv A;cases X:(V.g.t.toList==mX)
    ·rw[X]at v;have k:=oz (show kxb t e5 s.toList=kj2 t V from v);clear v;go_wp21;refine zM (qv8 V y D.p l) λw3 T=>?_;have O:=q.trans<|T.mono q.size;go_wp2
     go_ret;exact⟨kzj (by rw[ku k]),O⟩
    ·rw[X]at v;have k:=oz (v:kxb t e5 s.toList=kjx);clear v;go_wp2;go_ret;exact⟨kzj (by rw[ku k];rfl),q⟩
   ·have k:=oz (by rw[kxb,Xy c1,Xy c2,Xy c3]:kxb t e5 s.toList=kjx);generalize zx (pq e5) s.toList=a' at c1 |-;generalize (kjj t.p s.toList).1=c at c2 |-;generalize (kjj t.p s.toList).2=N;generalize zx (zf t) s.toList=b at c3 |-;clear z C bv A;go_wp2
    go_ret;exact⟨kzj (by rw[ku k];rfl),q⟩
def kw2(t:PTree)(l:List PP)(x:ELab):ByteArray:=
 if x.c.t.toList==mX then
  (if zx (zf t) x.y.x.toList<0 then kjx
   else if !((t.z.getD (zx (zf t) x.y.x.toList).toNat ⟨zh,zh,zh,zh⟩).g.t.toList==mX) then kjx
   else if !((kxb t l x.c.x.toList).toList==(qqg++(t.z.getD (zx (zf t) x.y.x.toList).toNat ⟨zh,zh,zh,zh⟩).g.x).toList) then kjx
   else kj2 t (t.z.getD (zx (zf t) x.y.x.toList).toNat ⟨zh,zh,zh,zh⟩))
 else kxb t l x.y.x.toList
def zj3(a b:ByteArray):Bool:=(a.toList==b.toList)&&!a.toList.isEmpty&&!(a.toList==mG)
def opT(op a b:ByteArray):ByteArray:=
 if (op.toList==[33])||(op.toList==[38])||(op.toList==[124]) then (if zj3 a b&&(a.toList==nY) then kvj else kjx)
 else if (op.toList==[43])||(op.toList==[45]) then (if zj3 a b&&(a.toList==nC) then kwn else kjx)
 else if op.toList==[60] then (if zj3 a b&&(a.toList==nC) then kvj else kjx)
 else (if zj3 a b||((a.toList==mG)&&kx3 b)||((b.toList==mG)&&kx3 a) then kvj else kjx)
def kq5(t:PTree)(l:List PP):PX->ByteArray
 |.nil=>kjx
 |.node _ _ x a b=>
  if (x.op.toList==nJ)||(x.op.toList==nZ) then kvj
  else if x.op.toList==mG then vjy
  else if x.op.toList==mW then kwn
  else if x.op.toList==ng then kw2 t l x
  else opT x.op (kq5 t l a) (match b with|.nil=>kq5 t l a|.node i j y c d=>kq5 t l<|.node i j y c d)
def qwe(op:ByteArray):Bool:=(op.toList==nJ)||(op.toList==nZ)||(op.toList==mG)||(op.toList==mW)||(op.toList==ng)
def isNil:PX->Bool
 |.nil=>true
 |_=>false
def XOk:PX->Prop
 |.nil=>True
 |.node _ _ x a b=>(qwe x.op=true\/isNil a=false)/\XOk a/\XOk b
theorem kyc(t:PTree)(l:List PP)(i j:Nat)(x:ELab)(a b:PX):kq5 t l (.node i j x a b) =
  if (x.op.toList==nJ)||(x.op.toList==nZ) then kvj
  else if x.op.toList==mG then vjy
  else if x.op.toList==mW then kwn
  else if x.op.toList==ng then kw2 t l x
  else opT x.op (kq5 t l a) (if isNil b then kq5 t l a else kq5 t l b):=by
 cases b with
 |nil=>rw[kq5];rfl
 |node _ _ _ _ _=>rw[kq5];rfl
def qjm(x:PX):Prop:=∀(w:World)(T lo lo':Nat)(t:PTree)(n:Tok)(l:List PP)(va:Option Addr)(vn vc:Nat)(vg:Option Addr)(ba:Option Addr)(bn bc:Nat)(p:Value),isNil x=false->XOk x->kqc w T t->TreeOk t->TreeFit t->(∀p∈l,p.Q.x.size<=800) ->
 w.ownsRow lo 236 6 (.slice va vn vc) l.length (kjm l)->l.length<=801->yw lo' w x p ->
 Calls prog 67 #[.pointer (some ⟨T,0,none⟩),qk4 n (.slice va vn vc) (.pointer vg)<|.slice ba bn bc,p] w λe w'=>e=.returned (.string<|kq5 t l x)/\oq w w'
theorem vqg(i j:Nat)(a b:PX)(I:(g9.op.toList==ng)=true):qjm (.node i j g9 a b):=by
 intro w T lo lo' t n l va vn vc vg ba bn bc p _ hx v x E D M P hN;obtain⟨k,pa,pb,rfl,_,O,a2,a3⟩:=hN;have q:g9.op.toList=ng:=su.1 I;have o1:(g9.op.toList==nJ)=false:=by rw[q];rfl
 have o2:(g9.op.toList==nZ)=false:=by rw[q];rfl
 have o3:(g9.op.toList==mG)=false:=by rw[q];rfl
 have o4:(g9.op.toList==mW)=false:=by rw[q];rfl
 have A:=oz (by rw[kyc];simp[o1,o2,o3,o4,I]:kq5 t l (.node i j g9 a b)=kw2 t l g9);have d0:=zzh (O:Rw w k #[.string g9.op,pa,pb,.string g9.y.t,.string g9.y.x,i_ g9.y.v,.string g9.c.t,.string g9.c.x,i_ g9.c.v,i_ g9.n] _);have a1:=wQ O;clear O q;unfold qk4;cases C:(g9.c.t.toList==mX)
 ·go_in;go_wp2;go_region_with ((go_at_call 118;refine zM (zvz n vg ba bn bc g9.y.x (v.below<|jy _) x E D (qj M<|jy _) P) λw1 W=>?_))
  all_goals
   have y:=(jy w).trans<|W.mono ay;have f:=oz (by simp[kw2,C]:kw2 t l g9=kxb t l g9.y.x.toList);go_wp2
   go_ret;exact⟨kzj (by rw[ku A,ku f]),y⟩
 ·have bv:=zx9 (zf t) g9.y.x.toList;rw[show(zf t).length=t.z.length by simp[zf]]at bv;by_cases c3:0<=zx (zf t) g9.y.x.toList
  ·have ⟨nv,H⟩:=sG c3;have s:nv<t.z.length:=aj;have G:t.z.getD nv ⟨zh,zh,zh,zh⟩=t.z[nv]:=getD_at s;have h:kw2 t l g9=if !((t.z[nv]).g.t.toList==mX) then kjx else if !((kxb t l g9.c.x.toList).toList==(qqg++(t.z[nv]).g.x).toList) then kjx else kj2 t (t.z[nv]):=by rw[kw2,lJ C,Xy aj,H,tX,G]
   have J:=E.z _<|wZ s;go_in
   go_wp21;refine zM (qjt g9.y.x (v.below<|jZ _) x.z) ?_;rintro w1 rfl;go_wp2;clear H c3 bv G;go_region_with ((go_at_call 118;refine zM (zvz n vg ba bn bc g9.c.x (v.below<|jy _) x E D (qj M<|jy _) P) λw2 B=>?_))
   all_goals
    have m:=(jy w).trans<|B.mono ay;have F:=v.below m;have ⟨x0,x1,x2,x3,x4,y1,y3,y4,U,_,_,h2,_⟩:=ku F;have q0:=kzk U;obtain⟨av,cap,rfl,u⟩:=kq8 h2;obtain⟨g,rfl,Y⟩:=u nv s;have d:∀j,j<12->w2.cell? (Ad g (nv*12+j))=(kj7<|t.z[nv])[j]?:=λj hj=>by rw[Y _ aj];exact kqo kj7 12 (λ_=>rfl) t.z nv j s hj
    have k0:=d 0 aj;have k1:=d 1 aj;have k2:=d 2 aj;have k3:=d 3 aj;have k4:=d 4 aj;have k5:=d 5 aj;have k6:=d 6 aj;have k7:=d 7 aj;have k8:=d 8 aj;have k9:=d 9 aj;have K:=d 10 aj;have L:=d 11 aj;simp only[kj7,ji,QU,Qd,sW,sU,Qk]at k0 k1 k2 k3 k4 k5 k6 k7 k8 k9 K L;generalize t.z[nv]=V at k0 k1 k2 k3 k4 k5 k6 k7 k8 k9 K L h J;have⟨R,a0⟩:=J;generalize kxb t l g9.c.x.toList=N at h |-;clear u Y d U;cases Q:(V.g.t.toList==mX)
    ·have f:=oz (by rw[h,Q];rfl:kw2 t l g9=kjx);clear h;go_wp2;go_ret;exact⟨kzj (by rw[ku A,ku f];rfl),m⟩
    ·cases Z:(N.toList==((⟨#[115,101,116,32]⟩:ByteArray)++V.g.x).toList)
     ·have f:=oz (by rw[h,Q];simp only[JV,ru,Xv];rw[show(N.toList==(qqg++V.g.x).toList)=false from Z];rfl:kw2 t l g9=kjx);clear h;go_wp2;go_ret;exact⟨kzj (by rw[ku A,ku f];rfl),m⟩
     ·have f:=oz (by rw[h,Q];simp only[JV,ru,Xv];rw[show(N.toList==(qqg++V.g.x).toList)=true from Z];rfl:kw2 t l g9=kj2 t V);clear h;go_wp21;refine zM (qv8 V F x.p R) λw3 X=>?_;have S:=m.trans<|X.mono m.size;go_wp2
      go_ret;exact⟨kzj (by rw[ku A,ku f]),S⟩
  ·have f:=oz (by rw[kw2,lJ C,lJ aj]:kw2 t l g9=kjx);go_in;go_wp21;refine zM (qjt g9.y.x (v.below<|jZ _) x.z) ?_;rintro w1 rfl;generalize zx (zf t) g9.y.x.toList=z at c3 bv |-;go_wp2
   go_region_with ((go_at_call 118;refine zM (zvz n vg ba bn bc g9.c.x (v.below<|jy _) x E D (qj M<|jy _) P) λw2 B=>?_))
   all_goals
    have y:=(jy w).trans<|B.mono ay;go_wp2
    go_ret;exact⟨kzj (by rw[ku A,ku f];rfl),y⟩
theorem qv4(i j:Nat)(x:ELab)(a b:PX)(q:(x.op.toList==nJ)=true\/(x.op.toList==nZ)=true\/(x.op.toList==mG)=true\/(x.op.toList==mW)=true):qjm (.node i j x a b):=by
 intro w T lo lo' t n l va vn vc vg ba bn bc p _ E h D A m C B hN;obtain⟨k,pa,s,rfl,_,g,v,y⟩:=hN;have z:=zzh (g:Rw w k #[.string x.op,pa,s,.string x.y.t,.string x.y.x,i_ x.y.v,.string x.c.t,.string x.c.x,i_ x.c.v,i_ x.n] _);have u:=wQ g;clear g m;unfold qk4;obtain h1|h1|h1|h1:=q;all_goals
  have f:=su.1 h1;have e:=oz (kyc t l i j x a b:kq5 t l (.node i j x a b)=_);rw[f]at e;have d:=oz f;clear f
 ·go_wp2;go_ret;exact⟨kzj (by rw[ku e];rfl),jZ _⟩
 ·have o1:(x.op.toList==nJ)=false:=by rw[ku d];rfl
  go_wp2;go_ret;exact⟨kzj (by rw[ku e];rfl),jZ _⟩
 ·have o1:(x.op.toList==nJ)=false:=by rw[ku d];rfl
  have o2:(x.op.toList==nZ)=false:=lD;go_wp2;go_ret;exact⟨kzj (by rw[ku e];rfl),jZ _⟩
 ·have o1:(x.op.toList==nJ)=false:=by rw[ku d];rfl
  have o2:(x.op.toList==nZ)=false:=lD;have o3:(x.op.toList==mG)=false:=lD;go_wp2;go_ret;exact⟨kzj (by rw[ku e];rfl),jZ _⟩
theorem ky2(a b:ByteArray):(a++b).size=a.size+b.size:=ZM
theorem kkg{h8:Prop}[Decidable h8](ha:g7.size<=n)(hb:g8.size<=n):(if h8 then g7 else g8).size<=n:=by split<;>assumption
theorem sizes:kvj.size<=900/\kwn.size<=900/\kjx.size<=900/\vjy.size<=900:=⟨ak,ak,ak,ak⟩
theorem qj5(t:PTree)(v:PVar)(hv:v.k.x.size<=800):(kj2 t v).size<=900:=by
 unfold kj2;refine kkg (kkg sizes.1 sizes.2.1)<|kkg ?_ ?_
 ·rw[ky2];have:qje.size=5:=rfl;omega
 ·rw[ky2];have:qqg.size=4:=rfl;omega
theorem getD_mem{l:List α}(k:Nat)(d:α){p:α->Prop}(e:p d)(f:∀x∈l,p x):p (l.getD k d):=by
 by_cases h:k<l.length
 ·rw[getD_at h];exact f _<|wZ h
 ·rw[show l.getD k d=d by simp[List.getD,h]];exact e
theorem vkz{l:List PP}(d:TreeFit t)(e:∀p∈l,p.Q.x.size<=800){i1:List UInt8}:(kxb t l i1).size<=900:=by
 unfold kxb;split
 ·rw[ky2];have h1:qqg.size=4:=rfl;have:=getD_mem (zx (pq l) i1).toNat ⟨zh,zh⟩ ak e;omega
 ·split
  ·rw[ky2];have h1:qje.size=5:=rfl;have:=getD_mem (kjj t.p i1).1.toNat ⟨zh,[]⟩ ak d.p;omega
  ·split
   ·split
    ·exact sizes.2.2.1
    ·exact qj5 t _ (getD_mem (l:=t.z) (zx (zf t) i1).toNat ⟨zh,zh,zh,zh⟩ (p:=λp=>p.k.x.size<=800) ak<|λv hv=>(d.z v hv).1)
   ·exact sizes.2.2.1
theorem pwn:(opT op g7 g8).size<=900:=by unfold opT;exact kkg (kkg sizes.1 sizes.2.2.1)<|kkg (kkg sizes.2.1 sizes.2.2.1) (kkg (kkg sizes.1 sizes.2.2.1)<|kkg sizes.1 sizes.2.2.1)
theorem qzr{l:List PP}(d:TreeFit t)(e:∀p∈l,p.Q.x.size<=800)(x:PX):(kq5 t l x).size<=900:=by
 cases x with
 |nil=>exact sizes.2.2.1
 |node i j x a b=>
  rw[kyc];refine kkg sizes.1<|kkg sizes.2.2.2 (kkg sizes.2.1<|kkg ?_ (pwn));unfold kw2;exact kkg (kkg sizes.2.2.1<|kkg sizes.2.2.1 (kkg sizes.2.2.1<|qj5 t _ (getD_mem (l:=t.z) _ ⟨zh,zh,zh,zh⟩ (p:=λp=>p.k.x.size<=800) ak<|λv hv=>(d.z v hv).1)))<|vkz d e
theorem pqy(l:List UInt8):((l==[33])=true/\(l==[38])=false/\(l==[124])=false/\(l==[43])=false/\(l==[45])=false/\(l==[60])=false) \/
  ((l==[33])=false/\(l==[38])=true/\(l==[124])=false/\(l==[43])=false/\(l==[45])=false/\(l==[60])=false) \/
  ((l==[33])=false/\(l==[38])=false/\(l==[124])=true/\(l==[43])=false/\(l==[45])=false/\(l==[60])=false) \/
  ((l==[33])=false/\(l==[38])=false/\(l==[124])=false/\(l==[43])=true/\(l==[45])=false/\(l==[60])=false) \/
  ((l==[33])=false/\(l==[38])=false/\(l==[124])=false/\(l==[43])=false/\(l==[45])=true/\(l==[60])=false) \/
  ((l==[33])=false/\(l==[38])=false/\(l==[124])=false/\(l==[43])=false/\(l==[45])=false/\(l==[60])=true) \/
  ((l==[33])=false/\(l==[38])=false/\(l==[124])=false/\(l==[43])=false/\(l==[45])=false/\(l==[60])=false):=by
 by_cases d:l=[33]
 ·subst d;exact .inl ak
 by_cases h1:l=[38]
 ·subst h1;exact .inr<|.inl ak
 by_cases e:l=[124]
 ·subst e;exact .inr<|.inr (.inl ak)
 by_cases f:l=[43]
 ·subst f;exact .inr<|.inr (.inr<|.inl ak)
 by_cases g:l=[45]
 ·subst g;exact .inr<|.inr (.inr<|.inr (.inl ak))
 by_cases h:l=[60]
 ·subst h;exact .inr<|.inr (.inr<|.inr (.inr<|.inl ak))
 exact .inr (.inr<|.inr (.inr<|.inr (.inr<|by simp[d,h1,e,f,g,h])))
theorem vyx(l:List UInt8):((l==mG)=true/\(l==nY)=false/\(l==nC)=false/\(l==[])=false) \/
  ((l==mG)=false/\(l==nY)=true/\(l==nC)=false/\(l==[])=false) \/
  ((l==mG)=false/\(l==nY)=false/\(l==nC)=true/\(l==[])=false) \/
  ((l==mG)=false/\(l==nY)=false/\(l==nC)=false/\(l==[])=true) \/
  ((l==mG)=false/\(l==nY)=false/\(l==nC)=false/\(l==[])=false):=by
 by_cases d:l=mG
 ·subst d;exact .inl ak
 by_cases h1:l=nY
 ·subst h1;exact .inr<|.inl ak
 by_cases e:l=nC
 ·subst e;exact .inr<|.inr (.inl ak)
 by_cases f:l=[]
 ·subst f;exact .inr<|.inr (.inr<|.inl ak)
 exact .inr (.inr<|.inr (.inr<|by simp[d,h1,e,f]))
theorem zv6(l:List UInt8):(l==[])=l.isEmpty:=by cases l<;>rfl
def opV(d f g h i j e m n t u sa nb sb:Bool):ByteArray:=
 if d||f||g then (if (e&&!m&&!n)&&t then kvj else kjx)
 else if h||i then (if (e&&!m&&!n)&&u then kwn else kjx)
 else if j then (if (e&&!m&&!n)&&u then kvj else kjx)
 else (if (e&&!m&&!n)||(n&&sb)||(nb&&sa) then kvj else kjx)
theorem jj2{i2 i3 i4 i5 i6 i7 i8 i9 j0 j1 j2 g j4 h:Bool}(h1:(op.toList==[33])=i2)(i:(op.toList==[38])=i3)(j:(op.toList==[124])=i4)(k:(op.toList==[43])=i5)(l:(op.toList==[45])=i6)(m:(op.toList==[60])=i7)(p:(g7.toList==g8.toList)=i8)(q:g7.toList.isEmpty=i9)(hn:(g7.toList==mG)=j0)(s:(g7.toList==nY)=j1)(t:(g7.toList==nC)=j2)(e:kx3 g7=g)(d:(g8.toList==mG)=j4)(f:kx3 g8=h):opT op g7 g8=opV i2 i3 i4 i5 i6 i7 i8 i9 j0 j1 j2 g j4 h:=by subst h1;subst i;subst j;subst k;subst l;subst m;subst p;subst q;subst hn;subst s;subst t;subst e;subst d;subst f;rfl
theorem pks(i j:Nat)(ha:qjm a0)(hb:qjm g4)(o1:(g9.op.toList==nJ)=false)(o2:(g9.op.toList==nZ)=false)(o3:(g9.op.toList==mG)=false)(o4:(g9.op.toList==mW)=false)(o5:(g9.op.toList==ng)=false):qjm (.node i j g9 a0 g4):=by
 intro w T lo lo' t n l va vn vc vg ba bn bc p _ O X ht I z V hl hN;obtain⟨k,pa,P,rfl,_,J,S,U⟩:=hN;have Q:=oz (by rw[kyc];simp[o1,o2,o3,o4,o5]:kq5 t l (.node i j g9 a0 g4)=opT g9.op (kq5 t l a0) (if isNil g4 then kq5 t l a0 else kq5 t l g4));have H:=zzh (J:w.heap[k]?=some (.cells #[.string g9.op,pa,P,.string g9.y.t,.string g9.y.x,.int .i64 g9.y.v,.string g9.c.t,.string g9.c.x,.int .i64 g9.c.v,.int .i64 g9.n] _ (0,0)));have a7:=wQ J;have a8:isNil a0=false:=by
  obtain h1|h1:=O.1
  ·simp[qwe,o1,o2,o3,o4,o5]at h1
  ·exact h1
 have R:=oz J;have Z:=O.2.1;have a5:=O.2.2;clear J;unfold qk4;go_in;go_wp2;go_region_held3 (λw'=>w'.cell? ⟨w.heap.size,0,none⟩=some (.string n.t)/\w'.cell? ⟨w.heap.size,1,none⟩=some (.string n.x)/\w'.cell? ⟨w.heap.size,2,none⟩=some (.int .i64 n.v)/\w'.cell? ⟨w.heap.size,3,none⟩=some (.slice va vn vc)/\w'.cell? ⟨w.heap.size,4,none⟩=some (.pointer vg)/\w'.cell? ⟨w.heap.size,5,none⟩=some (.slice ba bn bc)/\w'.cell? ⟨k,1,none⟩=some pa)
  (first|go_keep|(go_split_ands;refine⟨?_,?_,?_,?_,?_,?_,?_⟩<;>(refine wU D ?_;first|assumption|simp[*])))
  ((go_at_call 67;refine zM (ha _ T lo lo' t n l va vn vc vg ba bn bc pa a8 Z (X.below<|jy _) ht I z (qj V<|jy _) hl<|S.below (jy _)) λw1 D=>?_))
 have s:=(jy w).trans<|D.mono ay;have C:=(D.block w.heap.size ay).trans<|Xk w _;have m0:=kzh C;have a9:=wQ C;have F:=(s.block k a7).trans R;clear H;have ⟨H,d1,d2,d3,d4,d5,d6,d7,d8,d9,_⟩:=zzh (F:w1.heap[k]?=some (.cells #[.string g9.op,pa,P,.string g9.y.t,.string g9.y.x,.int .i64 g9.y.v,.string g9.c.t,.string g9.c.x,.int .i64 g9.c.v,.int .i64 g9.n] _ (0,0)));have aA:=wQ F;have Y:=X.below s;have W:=qj V s;have y:=U.below s;have L:=qzr I z a0;clear C F;cases g4 with
 |nil=>
  have G:P=.pointer none:=ku y;subst G;have u:=oz (Q:kq5 t l (.node i j g9 a0 .nil)=opT g9.op (kq5 t l a0) (kq5 t l a0));generalize kq5 t l a0=A at u L |-;have o6:(A.toList==A.toList)=true:=ay;obtain⟨d,f,g,h,m,q⟩|⟨d,f,g,h,m,q⟩|⟨d,f,g,h,m,q⟩|⟨d,f,g,h,m,q⟩|⟨d,f,g,h,m,q⟩|⟨d,f,g,h,m,q⟩|⟨d,f,g,h,m,q⟩:=pqy g9.op.toList;all_goals
   obtain⟨a1,a2,a3,a4⟩|⟨a1,a2,a3,a4⟩|⟨a1,a2,a3,a4⟩|⟨a1,a2,a3,a4⟩|⟨a1,a2,a3,a4⟩:=vyx A.toList;all_goals
    rw[zv6]at a4;cases x:kx3 A;all_goals
     have v:=oz (u.trans (jj2 d f g h m q o6 a4 a1 a2 a3 x a1 x):kq5 t l (.node i j g9 a0 .nil)=_);go_wp2_with (first|(go_at_call 121;refine(qjg _ aj).mono ?_;rintro e w' ⟨rfl,rfl⟩))
     go_ret;exact⟨kzj (by rw[ku v];rfl),s⟩
 |node i' j' x' c' d'=>
  have ⟨kb,aC,aD,G,_⟩:=ku y;subst G;have u:=oz (Q:kq5 t l (.node i j g9 a0<|.node i' j' x' c' d')=opT g9.op (kq5 t l a0) (kq5 t l<|.node i' j' x' c' d'));generalize kq5 t l a0=A at u L |-;go_wp2
  go_region_held3 (λw'=>w'.cell? ⟨w.heap.size,0,none⟩=some (.string n.t)/\w'.cell? ⟨w.heap.size,1,none⟩=some (.string n.x)/\w'.cell? ⟨w.heap.size,2,none⟩=some (.int .i64 n.v)/\w'.cell? ⟨w.heap.size,3,none⟩=some (.slice va vn vc)/\w'.cell? ⟨w.heap.size,4,none⟩=some (.pointer vg)/\w'.cell? ⟨w.heap.size,5,none⟩=some (.slice ba bn bc)/\w'.cell? ⟨k,2,none⟩=some (.pointer<|some ⟨kb,0,none⟩))
   (first|go_keep|(go_split_ands;refine⟨?_,?_,?_,?_,?_,?_,?_⟩<;>(refine wU E ?_;first|assumption|simp[*])))
   ((go_at_call 67;refine zM (hb _ T lo lo' t n l va vn vc vg ba bn bc _ rfl a5 (Y.below<|bR.drew) ht I z (qj W<|bR.drew) hl<|y.below (bR.drew)) λw2 E=>?_))
  have K:=s.trans<|(bR.drew.trans E).mono s.size;have aB:w2.cell? ⟨k,0,none⟩=some (.string g9.op):=wU (bR.drew.trans E) H;have a6:=qzr I z<|.node i' j' x' c' d';clear H d1 d2 d3 d4 d5 d6 d7 d8 d9 m0;generalize kq5 t l (.node i' j' x' c' d')=B at u a6 |-;obtain⟨d,f,g,h,m,q⟩|⟨d,f,g,h,m,q⟩|⟨d,f,g,h,m,q⟩|⟨d,f,g,h,m,q⟩|⟨d,f,g,h,m,q⟩|⟨d,f,g,h,m,q⟩|⟨d,f,g,h,m,q⟩:=pqy g9.op.toList;iterate 6
   ·obtain⟨a1,a2,a3,a4⟩|⟨a1,a2,a3,a4⟩|⟨a1,a2,a3,a4⟩|⟨a1,a2,a3,a4⟩|⟨a1,a2,a3,a4⟩:=vyx A.toList;all_goals
     rw[zv6]at a4;cases N:(A.toList==B.toList);all_goals
      have v:=oz<|u.trans (jj2 d f g h m q N a4 a1 a2 a3 rfl rfl rfl);go_wp2
      go_ret;exact⟨kzj (by rw[ku v];rfl),K⟩
  ·obtain⟨a1,a2,a3,a4⟩|⟨a1,a2,a3,a4⟩|⟨a1,a2,a3,a4⟩|⟨a1,a2,a3,a4⟩|⟨a1,a2,a3,a4⟩:=vyx A.toList;all_goals
    rw[zv6]at a4;cases N:(A.toList==B.toList);all_goals
     cases e2:(B.toList==mG);all_goals
      cases x:kx3 A;all_goals
       cases M:kx3 B;all_goals
        have v:=oz<|u.trans (jj2 d f g h m q N a4 a1 a2 a3 x e2 M);go_wp2_with (first|(go_at_call_of 121 (Value.string B);refine(qjg B aj).mono ?_;rintro e w' ⟨rfl,rfl⟩;rw[M])|(go_at_call_of 121 (Value.string A);refine(qjg A aj).mono ?_;rintro e w' ⟨rfl,rfl⟩;rw[x]))
        go_ret;exact⟨kzj (by rw[ku v];rfl),K⟩
theorem qjx:∀x:PX,qjm x
 |.nil=>λw T lo lo' t n l va vn vc vg ba bn bc p h=>ig
 |.node i j x a b=>by
  cases d:(x.op.toList==ng)
  ·cases o1:(x.op.toList==nJ)
   ·cases o2:(x.op.toList==nZ)
    ·cases o3:(x.op.toList==mG)
     ·cases o4:(x.op.toList==mW)
      ·exact pks i j (qjx a) (qjx b) o1 o2 o3 o4 d
      ·exact qv4 i j x a b (.inr<|.inr (.inr o4))
     ·exact qv4 i j x a b (.inr<|.inr (.inl o3))
    ·exact qv4 i j x a b (.inr<|.inl o2)
   ·exact qv4 i j x a b (.inl o1)
  ·exact vqg i j a b d
end Go.Proofs.YtpmcnonmkghokaaGreatDoor

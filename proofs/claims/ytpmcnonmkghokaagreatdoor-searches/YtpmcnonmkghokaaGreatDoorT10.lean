import Derived.Test.YtpmcnonmkghokaaGreatDoorT01
import Derived.Test.YtpmcnonmkghokaaGreatDoorT00
import Derived.Test.YtpmcnonmkghokaaGreatDoorT09
import Derived.Test.YtpmcnonmkghokaaGreatDoorT03
import Derived.Test.YtpmcnonmkghokaaGreatDoorT08
set_option maxRecDepth 100000
set_option maxHeartbeats 8000000
set_option linter.unusedVariables false
set_option linter.unusedSimpArgs false
namespace Go.Proofs.YtpmcnonmkghokaaGreatDoor
open Go.Proofs.Tryz Go.RowKit
attribute [local go_sem ↓] Go.wp_at_zero Go.wp_at_succ
variable {cs:Array Value}{arr c:Bool}{a9:ByteArray}{i2:ELab}{b5 j2:Int}{i0:List Int}{vars:List MVar}{L:List Tok}{s:List UInt8}{τ:List UInt8->Int->Int}{g6 g7:List UInt8->Nat}{ds xs y1 y3 y4:List Value}{α:Type}{l:List α}{i6:MStep}{g8:MVar}{m:MdL}{B cap e gg i j k n size z:Nat}{o:Obj}{r:PRule}{t:PTree}{a2:PVar}{i4:PX}{x:RIn}{a0 st':RS}{tab:Tab}{j0:Tok}{g9 ty y:VT}{a1 v x0 x1 x2 x3 x4:Value}{d:VrT}{u u' u4 w w0:World}
structure TrC (w:World)(v:Value)(L:List Tok)(t:PTree)(st:RS)(x0 x1 x2 x3 x4:Value)(y1 y3 y4:List Value)(u:World):Prop where
 e:u.heap[w.heap.size+1]?=some (.cells #[x0,x1,x2,x3,x4] 157 (0,0))
 o0:u.ownsRow (w.heap.size+1+1) 231 6 x0 t.j.length (kwj t.j)
 o1:u.ownsRow (w.heap.size+1+1) 234 4 x1 t.p.length y1
 k1:kjt (w.heap.size+1+1) u t.p y1
 o2:u.ownsRow (w.heap.size+1+1) 222 12 x2 t.z.length (kyp t.z)
 o3:u.ownsRow (w.heap.size+1+1) 147 6 x3 t.l.length y3
 k3:dw (w.heap.size+1+1) u t.l y3
 o4:u.ownsRow (w.heap.size+1+1) 147 6 x4 t.q.length y4
 k4:dw (w.heap.size+1+1) u t.q y4
 ap:x3.ownBlock=none\/x3.ownBlock≠x4.ownBlock
 rd:Rd u w.heap.size v L st
 be:oq w u
 hv:∀g,v.ownBlock=some g->g<w.heap.size
theorem TrC.kept(h:TrC w v L t a0 x0 x1 x2 x3 x4 y1 y3 y4 u)(a:Kept w.heap.size u u')(b:Rd u' w.heap.size v L st'):TrC w v L t st' x0 x1 x2 x3 x4 y1 y3 y4 u':=
 ⟨(a.block _ (wQ h.e) aj).trans h.e,jr h.o0 a aj,jr h.o1 a aj,h.k1.kept a aj,jr h.o2 a aj,jr h.o3 a aj,h.k3.kept a aj,jr h.o4 a aj,h.k4.kept a aj,h.ap,b,h.be.trans<|a.toBelow jH h.be.size,h.hv⟩
theorem TrC.xjl(h:TrC w v L t st' x0 x1 x2 x3 x4 y1 y3 y4 u)(b:u.ownsRow (w.heap.size+1+1) e z a1 n xs)(a:(u.alloc o).drew.grownBy u4 a1.ownBlock):u4.heap[w.heap.size+1]?=some (.cells #[x0,x1,x2,x3,x4] 157 (0,0)):=
 have l:=wQ h.e
 (a.block _ ah (λe=>by have:=jo b _ e.symm;omega)).trans ((jj l).trans h.e)
theorem TrC.grow(h:TrC w v L t st' x0 x1 x2 x3 x4 y1 y3 y4 u)(p:u.ownsRow (w.heap.size+1+1) e z a1 n xs)(f:(u.alloc o).drew.grownBy u4 a1.ownBlock)(i:Nat)(y:Value):∃u5,u5=u4.setCell ⟨w.heap.size+1,i,none⟩ y/\u5.heap[w.heap.size+1]?=some (.cells (#[x0,x1,x2,x3,x4].setIfInBounds i y) 157 (0,0))/\Rd u5 w.heap.size v L st'/\oq w u5 /\
  (∀{t' z' x' n' zs'},u4.ownsRow (w.heap.size+1+1) t' z' x' n' zs'->u5.ownsRow (w.heap.size+1+1) t' z' x' n' zs')/\(∀{t' z' x' n' zs'},u.ownsRow (w.heap.size+1+1) t' z' x' n' zs'->(_:t'≠e:=by decide)->u5.ownsRow (w.heap.size+1+1) t' z' x' n' zs') /\
  (∀{t' z' x' n' zs'},u.ownsRow (w.heap.size+1+1) t' z' x' n' zs'->(x'.ownBlock=none\/x'.ownBlock≠a1.ownBlock)->u5.ownsRow (w.heap.size+1+1) t' z' x' n' zs')/\(∀{ks cs},kjt (w.heap.size+1+1) u ks cs->(_:142≠e:=by decide)->kjt (w.heap.size+1+1) u5 ks cs) /\
  ∀{ks cs},dw (w.heap.size+1+1) u ks cs->(_:242≠e:=by decide)->(_:247≠e:=by decide)->(_:245≠e:=by decide)->(_:236≠e:=by decide)->dw (w.heap.size+1+1) u5 ks cs:=by
 have l:=wQ h.e;have j:=jo p;have s:=h.be.size;have hv:=(p.alloc o).drew;have q:∀k,w.heap.size+1+1<=k->k<u.heap.size->(u.alloc o).drew.heap[k]?=u.heap[k]?:=λk _ m=>jj m
 exact⟨_,rfl,jL _ i _ _ _<|h.xjl p f,((h.rd.below<|jy _).grown f j (λg f=>by have:=h.hv g f;omega) aj).jm (B:=w.heap.size+1) (λg f=>by have:=h.hv g f;omega) aj jH y,(((h.be.alloc s _).drew).grown f ah (λk m=>by have:=j k m;omega)).setCell ay y,
  xg kj9,λh1 n=>xg kj9<|kqx ((h1.alloc o).drew) hv n f,λh1 n=>xg kj9<|((h1.alloc o).drew).kept f n,λk n=>(kjt.grown hv n f<|k.stay q).stay kj9,λk a b c d=>(dw.far hv a b c d f<|k.stay q).stay kj9⟩
theorem TrC.xwp(h:TrC w v L t st' x0 x1 x2 x3 x4 y1 y3 y4 u)(e:(u.alloc o).drew.grownBy u4 x2.ownBlock)(d:u4.ownsRow (w.heap.size+1+1) 222 12 a1 (t.z.length+1) (kyp t.z++kj7 a2)):TrC w v L {t with z:=t.z++[a2]} st' x0 x1 a1 x3 x4 y1 y3 y4 (u4.setCell ⟨w.heap.size+1,2,none⟩ a1):=by obtain⟨_,rfl,a,b,c,S,O,_,K,R⟩:=h.grow h.o2 e 2 a1;exact⟨a,O h.o0,O h.o1,K h.k1,by rw[zym,rD];exact S d,O h.o3,R h.k3,O h.o4,R h.k4,h.ap,b,c,h.hv⟩
theorem TrC.xwd(h:TrC w v L t st' x0 x1 x2 x3 (.slice none 0 0) y1 y3 [] u)(f:(u.alloc o).drew.grownBy u4 x3.ownBlock)(d:u4.ownsRow (w.heap.size+1+1) 147 6 (.slice (some ⟨gg,0,none⟩) n cap) (t.l.length+1) (y3++ds))(hi:dw (w.heap.size+1+1) u (t.l++[r]) (y3++ds)):TrC w v L {t with l:=t.l++[r]} st' x0 x1 x2 (.slice (some ⟨gg,0,none⟩) n cap) (.slice none 0 0) y1 (y3++ds) [] (u4.setCell ⟨w.heap.size+1,3,none⟩<|.slice (some ⟨gg,0,none⟩) n cap):=by obtain⟨_,rfl,a,b,c,S,O,e,K,R⟩:=h.grow h.o3 f 3<|.slice (some ⟨gg,0,none⟩) n cap;exact⟨a,O h.o0,O h.o1,K h.k1,O h.o2,by rw[rD];exact S d,R hi,e h.o4<|.inl rfl,R h.k4,.inr (by simp[Value.ownBlock]),b,c,h.hv⟩
theorem TrC.xwc(h:TrC w v L t st' x0 x1 x2 x3 x4 y1 y3 y4 u)(k:(u.alloc o).drew.grownBy u4 x4.ownBlock)(d:u4.ownsRow (w.heap.size+1+1) 147 6 (.slice (some ⟨gg,0,none⟩) n cap) (t.q.length+1) (y4++ds))(hi:dw (w.heap.size+1+1) u (t.q++[r]) (y4++ds))(m:x4.ownBlock=some gg\/gg=u.heap.size+1):TrC w v L {t with q:=t.q++[r]} st' x0 x1 x2 x3 (.slice (some ⟨gg,0,none⟩) n cap) y1 y3 (y4++ds) (u4.setCell ⟨w.heap.size+1,4,none⟩<|.slice (some ⟨gg,0,none⟩) n cap):=by
 obtain⟨_,rfl,a,b,c,S,O,g,K,R⟩:=h.grow h.o4 k 4<|.slice (some ⟨gg,0,none⟩) n cap;have l:=kq9 h.o3;exact⟨a,O h.o0,O h.o1,K h.k1,O h.o2,g h.o3 h.ap,R h.k3,by rw[rD];exact S d,R hi,by
  cases f:x3.ownBlock with
  |none=>exact .inl rfl
  |some j=>
   refine .inr λe=>?_
   have:=l j f;have i:=h.ap;rw[f]at i;simp[Value.ownBlock]at e;grind,b,c,h.hv⟩
structure It (w:World)(v:Value)(L:List Tok)(w0:World)(st:RS)(cs:Array Value)(u:World):Prop where
 e:u.heap[w0.heap.size]?=some (.cells cs 147 (0,0))
 rd:Rd u w.heap.size v L st
 kp:Kept w.heap.size w0 u
 hv:∀g,v.ownBlock=some g->g<w.heap.size
 hR:w.heap.size<w0.heap.size
theorem TrC.it(h:TrC w v L t st' x0 x1 x2 x3 x4 y1 y3 y4 u):It w v L u st' #[.string ⟨#[]⟩,.string ⟨#[]⟩,.int .i64 0,.slice none 0 0,.pointer none,.slice none 0 0] (u.alloc (.cells #[.string ⟨#[]⟩,.string ⟨#[]⟩,.int .i64 0,.slice none 0 0,.pointer none,.slice none 0 0] 147)):=
 ⟨jF,h.rd.below<|jZ _,(Kept.refl _ _).alloc _,h.hv,wQ h.rd.rd⟩
theorem It.call(h:It w v L w0 a0 cs u)(a:Kept w.heap.size u u')(b:Rd u' w.heap.size v L st'):It w v L w0 st' cs u':=
 ⟨(a.block _ (wQ h.e) (by have:=h.hR;omega)).trans h.e,b,h.kp.trans a,h.hv,h.hR⟩
theorem It.set(h:It w v L w0 st' cs u)(i:Nat)(y:Value):It w v L w0 st' (cs.setIfInBounds i y) (u.setCell ⟨w0.heap.size,i,none⟩ y):=
 ⟨jL _ i _ _ _ h.e,h.rd.jm (B:=w0.heap.size) (λg a=>by have:=h.hv g a;have:=h.hR;omega) h.hR jH y,h.kp.jm jH y,h.hv,h.hR⟩
theorem It.st(h:It w v L w0 st' cs u)(b:Kept w.heap.size (u.setCell ⟨w0.heap.size,i,none⟩ x0) u'):∀k,w0.heap.size+1<=k->k<u.heap.size->u'.heap[k]?=u.heap[k]?:=
 λk h1 a=>(b.block k (by simpa using a) (by have:=h.hR;omega)).trans<|kj9 k h1 a
def vyk(w:World)(v:Value)(L:List Tok)(fin:List PVar×RS)(m:Value)(wr:World):Prop:=
 ∃(l:List PVar)(st:RS)(g:Nat)(b:Bool)(x0 x1 x:Value)(y1:List Value),m=.bool b/\TrC w v L ⟨(kzb L kqa).1,(kzb L kqa).2.1,l,[],[]⟩ st x0 x1 x (.slice none 0 0) (.slice none 0 0) y1 [] [] wr/\(b=true->zzr g L l st=fin/\qwf L st g)/\(b=false->(l,st)=fin)/\l.length<=st.v+st.s.toNat
def vyu(w:World)(v:Value)(L:List Tok)(fin:List PRule×RS)(m:Value)(wr:World):Prop:=
 ∃(l:List PRule)(st:RS)(g:Nat)(b:Bool)(x0 x1 x2 x:Value)(y1 ys:List Value),m=.bool b/\TrC w v L ⟨(kzb L kqa).1,(kzb L kqa).2.1,(kw9 L).1,l,[]⟩ st x0 x1 x2 x (.slice none 0 0) y1 ys [] wr/\(b=true->qwp g L l st=fin/\qwf L st g)/\(b=false->(l,st)=fin)/\l.length<=st.v+st.s.toNat
def vyg(w:World)(v:Value)(L:List Tok)(m:Value)(wr:World):Prop:=
 ∃(l:List PRule)(st:RS)(g:Nat)(x0 x1 x2 x3 x:Value)(y1 y3 ys:List Value),m=.bool (zk L nK st)/\TrC w v L ⟨(kzb L kqa).1,(kzb L kqa).2.1,(kw9 L).1,(kyq L).1,l⟩ st x0 x1 x2 x3 x y1 y3 ys wr/\qze g L l st=kwh L/\L.length-st.v+1<=g/\l.length<=st.v
theorem vzs{x:α}(hb:a0.s=false)(a:l.length<=a0.v+a0.s.toNat)(b:a0.v<=st'.v)(c:st'.s=false->a0.v+1<=st'.v):(l++[x]).length<=st'.v+st'.s.toNat:=by rw[hb]at a;cases h:st'.s<;>simp_all<;>omega
def xqa(v:Value)(L:List Tok)(w:World)(e:Ending)(w':World):Prop:=
 oq w w'/\((∃k:Nat,(uz L).2=some k/\e=.returned (.tuple #[.pointer none,.int .i64 k])) \/
  ((uz L).2=none/\∃T,w.heap.size<=T/\e=.returned (.tuple #[.pointer (some ⟨T,0,none⟩),.int .i64 (-1)])/\kqc w' T (uz L).1))
theorem pv4(U:w.ownsRow 0 142 3 v L.length (uw L))(bH:0<L.length)(bG:L.length<=801)(aN:∀i,i<L.length->((tk L i).t.toList==nG)=false->i+1<L.length)(hD:jzo L):Calls prog 61 #[v] w (xqa v L w):=by
 have ⟨i1,hj,cA,cB,cC⟩:=info_parts infoRule;have HV:=oz<|kq9 U;have bD:v.ownBlock≠some w.heap.size:=λe=>by have:=kq9 U _ e;omega
 have aZ:Rd ((w.alloc<|.cells #[v,.int .i64 0,.int .i64 0,.bool false] 219).alloc<|.cells #[.slice none 0 0,.slice none 0 0,.slice none 0 0,.slice none 0 0,.slice none 0 0] 157) w.heap.size v L kqa:=
  ⟨(jj ay).trans<|Xk w _,(U.alloc _).alloc _,bD,bH,bG,aN,by simp[kqa],by simp[kqa]⟩
 obtain⟨va,vl,vc,rfl⟩:=qh U;clear U bD aN;go_in;go_wp21;refine(pxu (w.heap.size+1) aZ jH aj HV<|heap_alloc_new' ay).mono ?_;rintro e w1 ⟨rfl,x0,x1,y1,hT,b4,b5,b6,h1,b9,bY,bZ⟩;have HR:vyk w (.slice va vl vc) L (kw9 L) (.bool true) w1:=
  ⟨[],_,kq2 L,true,x0,x1,_,y1,rfl,⟨hT,b4,b5,b6,oN,oN,rfl,oN,rfl,.inl rfl,h1,((bR.alloc jH _).alloc ay _).trans b9,HV⟩,λ_=>⟨rfl,qx6⟩,λh=>ig,jR⟩
 clear hT b4 b5 b6 h1 b9 aZ;go_wp21;go_loopw [6] (λm wr=>vyk w (.slice va vl vc) L (kw9 L) m wr) (λ_ wr=>2*(L.length-kk4 wr w.heap.size)+zqp wr w.heap.size);exact HR;obtain⟨l,f,g,b,x0,x1,x,y1,rfl,a,S,R,I⟩:=hrel;have E:=a.rd.lt;have aA:=wQ a.rd.rd;have aB:=wQ a.e;have c:=row4 a.rd.rd;have aM:=qqp a.rd I;cases b;case' false=>
  have HF:=oz<|R rfl;clear S R
 case' true=>
  have ⟨s,a2⟩:=S rfl;clear S R;obtain⟨g,rfl⟩:∃g',g=g'+1:=⟨g-1,by have:=zq1 a2;omega⟩;cases y:f.s;case' false=>
   rw[zzr,y]at s;simp only[ru,Xv]at s;rw[y]at c;have p:=oz s;clear s;go_wp21;refine(jw5 a.rd).mono ?_;rintro e w3 ⟨rfl,X,H⟩;have z:=pzx (L:=L) (st:=f);have J:=rP (yh L mD f)<|qyl L f;generalize kyt L f=V at p X z J |-;have aH:=a.kept H X;have q:=kzk aH.e;have bW:=wQ aH.e;unfold pjf kj7 ji;simp only[QU,Qd];go_wp21
   have ⟨w4,aF⟩:=cpy<|w3.alloc (.cells #[.string V.1.y.t,.string V.1.y.x,.int .i64 V.1.y.v,.string V.1.g.t,.string V.1.g.x,.int .i64 V.1.g.v,.string V.1.k.t,.string V.1.k.x,.int .i64 V.1.k.v,.string V.1.R.t,.string V.1.R.x,.int .i64 V.1.R.v] 222);have aT:w4.heap[w3.heap.size]?=some (.cells (kj7 V.1).toArray 222 (0,0)):=by rw[aF];exact Xk w3 _
   have aL:oq w3 w4:=by rw[aF];exact jZ _
   rw[<-aF];have ⟨d0,d1,d2,d3,d4,d5,d6,d7,d8,d9,d10,d11,e0,e1,e2,e3,e4,e5,e6,e7,e8,e9,bT,bU⟩:=qwy aT;have Y:=aH.kept (.of_below aL)<|X.below aL;have q:=kzk Y.e;have bS:=wQ aT;have bP:=wQ Y.e;clear aF aT aL X H;go_region_law ((refine apL (news:=(kj7 V.1)) ((Y.o2.alloc _).drew) (Xk w4 _) ?_;intro gg cap w5 aE j a1 bQ;have r:=kzk<|Y.xjl Y.o2 j))
   all_goals
    have aV:=Y.xwp j aE;clear aE j a1;go_wp21;refine(kjg mD aV.rd).mono ?_;rintro e w7 ⟨rfl,h7,B⟩;have HM:=oz<|qyn a.rd h7 y J z;have bK:vyk w (.slice va vl vc) L (kw9 L) (.bool<|zk L mD V.2) w7:=
     ⟨l++[V.1],V.2,g,_,x0,x1,_,y1,rfl,aV.kept B h7,λh=>by rw[h]at p;exact⟨p,qvy E y a2 z⟩,λh=>by rw[h]at p;exact p,vzs y I J z⟩
    clear h7 B p;go_wp2;exact⟨bK,HM⟩
  case' true=>
   rw[zzr,y]at s;simp only[Xw]at s;rw[y]at c;have HF:=oz s;clear s
 all_goals
  have aR:(l,f)=kw9 L:=HF;have bL:vyu w (.slice va vl vc) L (kyq L) (.bool true) wr:=
   ⟨[],f,kq2 L,true,x0,x1,x,_,y1,[],rfl,by rw[<-aR];exact a,λ_=>⟨by unfold kyq;rw[<-aR],qx6⟩,λh=>ig,jR⟩
  clear aR;go_wp21;clear a HF c;go_loopw [8] (λm wr=>vyu w (.slice va vl vc) L (kyq L) m wr) (λ_ wr=>2*(L.length-kk4 wr w.heap.size)+zqp wr w.heap.size);exact bL;clear E aA aB aM I;obtain⟨l,f,g,b,x0,x1,x2,x,y1,ys,rfl,a,S,R,I⟩:=hrel;have E:=a.rd.lt;have aA:=wQ a.rd.rd;have aB:=wQ a.e;have c:=row4 a.rd.rd;have aM:=qqp a.rd I;cases b;case' false=>
   have HF:=oz<|R rfl;clear S R
  case' true=>
   have ⟨s,a2⟩:=S rfl;clear S R;obtain⟨g,rfl⟩:∃g',g=g'+1:=⟨g-1,by have:=zq1 a2;omega⟩;cases y:f.s;case' false=>
    rw[qwp,y]at s;simp only[ru,Xv]at s;rw[y]at c;have p:=oz s;clear s;have z:=vjr (L:=L) (st:=f);have J:=rP (yh L nX f)<|qza L f;go_wp21
    refine(kq1 nX a.it.rd).mono ?_;rintro e w3 ⟨rfl,X,H⟩;have H3:=a.it.call H X;clear X H c;go_wp21;refine(kxu mX H3.rd rfl).mono ?_;rintro e w4 ⟨rfl,h4,a5⟩;have H4:=H3.call a5 h4;have d:=kzh H4.e;clear h4 a5 H3;generalize hk:zq L mX (qg L nX f)=k at H4 |-;have E1:=oz (show jqv L f=k from hk);have P4:=((H4.set 0<|.string k.1.t).set 1<|.string k.1.x).set 2<|.int .i64 k.1.v;clear hk;unfold kxt;go_wp21
    refine(jqe P4.rd).mono ?_;rintro e w5 ⟨vp,rfl,C,h5,a6,a8⟩;have M:=P4.call a6 h5;have Q:=qo (lo':=wr.heap.size+1) (wQ P4.e) C;obtain⟨pa,pn,pc,rfl⟩:=qh C;clear C h5 a6 H4 P4 a8 d;have d:=kzh M.e;generalize hP:kj0 L k.2=P at M Q;have E2:=oz (show qvh L f=P from by unfold qvh;rw[ku E1];exact hP);have P5:=M.set 3<|.slice pa pn pc;clear hP;go_wp21
    refine(kq1 mY P5.rd).mono ?_;rintro e w6 ⟨rfl,h6,aP⟩;have H6:=P5.call aP h6;have aX:=xg (M.st aP) Q;clear h6 aP M P5 Q d;go_wp21;refine(qvu H6.rd hD).mono ?_;rintro e w7 ⟨q7,rfl,W,h7,B⟩;have D:=H6.call B h7;have d:=kzh D.e;have a3:=jr aX B aj;have O:=W.mono (lo':=wr.heap.size+1)<|wQ H6.e;obtain⟨q7,rfl⟩:=W.ptr;clear W h7 B H6 aX;generalize hG:rX (kqb L) 0 .nil L (qg L mY P.2)=G at D O;have E3:=oz (show qzs L f=G from by unfold qzs;rw[ku E2];exact hG);have P7:=D.set 4<|.pointer q7;clear hG;go_wp21
    refine(pk3 P7.rd hD).mono ?_;rintro e w8 ⟨vb,qs,rfl,aS,bC,h8,aC⟩;have H8:=P7.call aC h8;have aY:=xg (D.st aC) a3;have aW:=O.stay<|D.st aC;have aI:=bC.mono (lo':=wr.heap.size+1)<|wQ P7.e;have b3:=qo (lo':=wr.heap.size+1) (wQ P7.e) aS;obtain⟨ba,bn,bc,rfl⟩:=qh aS;clear aS bC h8 aC D P7 a3 O d;have d:=kzh H8.e;generalize b8:rS (qqn L) 0 L G.2=Bd at H8 aI;have E4:=oz (show kjr L f=(⟨k.1,P.1,G.1,Bd.1⟩,Bd.2) from by unfold kjr;rw[ku E1,ku E2,ku E3,b8]);have K:=H8.set 5<|.slice ba bn bc;have a0:=xg (kj9 (o:=5) (u:=.slice ba bn bc)) aY;have Z:=aW.stay<|kj9 (o:=5) (u:=.slice ba bn bc);have aJ:=aI.stay<|kj9 (o:=5) (u:=.slice ba bn bc);have aK:=xg (kj9 (o:=5) (u:=.slice ba bn bc)) b3;clear b8 aY aW aI b3 H8;go_wp21
    generalize w8.setCell ⟨wr.heap.size,5,none⟩ (.slice ba bn bc)=w9 at K a0 Z aJ aK |-;clear d;have d:=kzh K.e;have t:=a.kept K.kp K.rd;have q:=kzk t.e;have bF:=wQ t.e;have bI:=wQ K.e;rw[ku E4]at p z J;simp only at p z J;have a4:=t.k3.snoc (r:=⟨k.1,P.1,G.1,Bd.1⟩) (qo aj a0) (Z.mono aj) (qo aj aK)<|aJ.mono aj;clear a0 Z aJ aK K E1 E2 E3 E4;go_region_law ((refine apL (news:=(ji k.1++[Value.slice pa pn pc,Value.pointer q7,Value.slice ba bn bc])) ((t.o3.alloc _).drew) (Xk w9 _) ?_;intro gg cap bM A j a1 aU;have r:=kzk<|t.xjl t.o3 j))
    all_goals
     have N:=t.xwd j A a4;clear A j a1 a4;go_wp21;refine(kjg nX N.rd).mono ?_;rintro e aG ⟨rfl,F,T⟩;have HM:=oz<|qyn a.rd F y J z;have a7:vyu w (.slice va vl vc) L (kyq L) (.bool<|zk L nX Bd.2) aG:=
      ⟨l++[⟨k.1,P.1,G.1,Bd.1⟩],Bd.2,g,_,x0,x1,x2,_,y1,_,rfl,N.kept T F,λh=>by rw[h]at p;exact⟨p,qvy E y a2 z⟩,λh=>by rw[h]at p;exact p,vzs y I J z⟩
     clear F T p;go_wp2;exact⟨a7,HM⟩
   case' true=>
    rw[qwp,y]at s;simp only[Xw]at s;rw[y]at c;have HF:=oz s;clear s
  all_goals
   have aQ:(l,f)=kyq L:=HF;go_wp21;refine(kjg nK a.rd).mono ?_;rintro e bN ⟨rfl,b7,aO⟩;have bJ:vyg w (.slice va vl vc) L (.bool<|zk L nK f) bN:=
    ⟨[],f,kq2 L,x0,x1,x2,x,_,y1,ys,[],rfl,by rw[<-aQ];exact a.kept aO b7,by unfold kwh;rw[<-aQ],by unfold kq2;omega,jR⟩
   clear aQ b7 aO a HF c;go_wp21;go_loopw [10] (λm wr=>vyg w (.slice va vl vc) L m wr) (λ_ wr=>L.length-kk4 wr w.heap.size);exact bJ;clear E aA aB aM I;obtain⟨l,f,g,x0,x1,x2,x3,x,y1,y3,ys,rfl,a,(a9:Hid _),a2,I⟩:=hrel;have E:=a.rd.lt;have bO:=a.rd.T;have aA:=wQ a.rd.rd;have aB:=wQ a.e;have cD:=a.be.size;have ⟨c0,c1,c2,c3,f0,f1,f2,f3⟩:=row4 a.rd.rd;obtain⟨g,rfl⟩:=qqy g;cases hn:zk L nK f
   ·have hF:=ku a9;rw[qze,hn]at hF;simp only[ru,Xv]at hF;have b2:=oz hF.symm;clear hF a9;have ⟨gb,cap,hv,hg,bX,bV,t0,t1,t2⟩:=a.rd.open;cases hv;have HE:=oz (show(uz L).2=if f.s||!((tk L f.v).t.toList==nG) then some (tk L f.v).v else none by unfold uz;simp only;rw[ku b2]);generalize tk L f.v=tt at t0 t1 t2 HE;cases bA:f.s
    ·rw[bA]at c3 HE;cases bB:(tt.t.toList==nG)
     ·rw[bB]at HE;go_wp2;go_quiet (fail)
      go_wp2;go_ret2;exact⟨below_drewN a.be _,.inl ⟨_,HE,rfl⟩⟩
     ·rw[bB]at HE;go_wp2;go_ret2;refine⟨a.be,.inr ⟨HE,_,aj,rfl,?_⟩⟩;unfold uz;simp only;rw[ku b2];exact⟨x0,x1,x2,x3,x,y1,y3,ys,a.e,a.o0,⟨a.o1,a.k1⟩,a.o2,⟨a.o3,a.k3⟩,a.o4,a.k4⟩
    ·rw[bA]at c3 HE;go_wp2;go_quiet (fail)
     go_wp2;go_ret2;exact⟨below_drewN a.be _,.inl ⟨_,HE,rfl⟩⟩
   ·have hF:=ku a9;rw[qze,lJ hn]at hF;have p:=oz hF;clear hF a9;have z:=zzs hn;go_wp21;refine(kq1 nK a.it.rd).mono ?_;rintro e w3 ⟨rfl,X,H⟩;have H3:=a.it.call H X;clear X H c0 c1 c2 c3 f0 f1 f2 f3;go_wp21;refine(kxu mX H3.rd rfl).mono ?_;rintro e w4 ⟨rfl,h4,a5⟩;have H4:=H3.call a5 h4;have d:=kzh H4.e;clear h4 a5 H3;generalize hk:zq L mX (qg L nK f)=k at H4 |-;have E1:=oz (show zjb L f=k from hk);have P4:=((H4.set 0<|.string k.1.t).set 1<|.string k.1.x).set 2<|.int .i64 k.1.v;clear hk;unfold kxt;go_wp21
    refine(jqe P4.rd).mono ?_;rintro e w5 ⟨vp,rfl,C,h5,a6,a8⟩;have M:=P4.call a6 h5;have Q:=qo (lo':=wr.heap.size+1) (wQ P4.e) C;obtain⟨pa,pn,pc,rfl⟩:=qh C;clear C h5 a6 H4 P4 a8 d;have d:=kzh M.e;generalize hP:kj0 L k.2=P at M Q;have E2:=oz (show qwn L f=P from by unfold qwn;rw[ku E1];exact hP);have P5:=M.set 3<|.slice pa pn pc;clear hP;go_wp21
    refine(qvu P5.rd hD).mono ?_;rintro e w7 ⟨q7,rfl,W,h7,B⟩;have D:=P5.call B h7;have a3:=xg (M.st B) Q;have O:=W.mono (lo':=wr.heap.size+1)<|wQ P5.e;obtain⟨q7,rfl⟩:=W.ptr;clear W h7 B M P5 Q d;have d:=kzh D.e;generalize hG:rX (kqb L) 0 .nil L P.2=G at D O;have E3:=oz (show qvz L f=G from by unfold qvz;rw[ku E2];exact hG);have P7:=D.set 4<|.pointer q7;clear hG;go_wp21
    refine(kq1 [59] P7.rd).mono ?_;rintro e w9 ⟨rfl,h9,aD⟩;have K:=P7.call aD h9;have a0:=xg (D.st aD) a3;have Z:=O.stay<|D.st aD;clear h9 aD D P7 a3 O d;have d:=kzh K.e;have t:=a.kept K.kp K.rd;have q:=kzk t.e;have bF:=wQ t.e;have bI:=wQ K.e;rw[show kzw L f=(⟨k.1,P.1,G.1,.nil⟩,qg L [59] G.2) from by unfold kzw;rw[ku E1,ku E2,ku E3]]at p z;simp only at p z;have a4:=t.k4.snoc (r:=⟨k.1,P.1,G.1,.nil⟩) (ps:=[]) (qo aj a0) (Z.mono aj) (oN) rfl;clear a0 Z K E1 E2 E3;go_wp21
    go_region_law ((refine apL (news:=(ji k.1++[Value.slice pa pn pc,Value.pointer q7,Value.slice none 0 0])) ((t.o4.alloc _).drew) (Xk w9 _) ?_;intro gg cap bM A j a1 aU;have r:=kzk<|t.xjl t.o4 j))
    all_goals
     have N:=t.xwc j A a4 a1;clear A j a1 a4;go_wp21;refine(kjg nK N.rd).mono ?_;rintro e aG ⟨rfl,F,T⟩;have HM:=oz (show L.length-kk4 aG w.heap.size<L.length-kk4 wr w.heap.size by rw[F.kk4,a.rd.kk4];have:=F.lt;omega);have a7:vyg w (.slice va vl vc) L (.bool<|zk L nK (qg L [59] G.2)) aG:=
      ⟨l++[⟨k.1,P.1,G.1,.nil⟩],qg L [59] G.2,g,x0,x1,x2,x3,_,y1,y3,_,rfl,N.kept T F,ku p,aj,by rw[rD];simp;omega⟩
     clear F T;go_wp2;exact⟨a7,HM⟩
def qw0(s:ByteArray):Int×Int:=
 if 800<s.size then (1,0) else match (jv s).2 with
  |some k=>(2,k)
  |none=>match (uz (jv s).1).2 with
   |some k=>(3,k)
   |none=>zyo (uz (jv s).1).1
theorem jz9(s:ByteArray):qq4 s=qw0 s:=by grind [qq4,qw0,pje,kyh]
structure RefOk (t:PTree):Prop where
 ok:TreeOk t
 fit:TreeFit t
 l:t.l.length<=801
 q:t.q.length<=801
 pars:∀r∈t.l++t.q,r.u.length<=801/\(yu r.guard).length<=10000/\(uo r.S).length<=10000/\qqk r.S/\kvt r.S<=1000
 j:∀s∈t.j,zz9 s.size
 tops:∀v∈t.z,(v.R.t.toList==mW)=true->zz9 v.R
 glob:(jc t).length<=90000
 gd:∀r∈t.l++t.q,isNil r.guard=false/\XOk r.guard/\SOk r.S/\∀p∈r.u,p.Q.x.size<=800
theorem pw7(l:kq6 L)(h:(uz L).2=none):RefOk (uz L).1:=by
 have g:=tree_good l h;have s:=kxk l g;generalize (uz L).1=t at g s;have j:∀r∈t.l++t.q,kvw r:=λr e=>by
  obtain e|e:=rV.1 e
  ·exact g.l r e
  ·exact(g.q r e).1
 refine⟨⟨s.j,s.p,s.z,s.i⟩,⟨?_,?_⟩,s.l,s.q,?_,g.j,?_,?_,?_⟩
 ·intro k f;exact(s.nm _<|kwy f (rZ ..)).2
 ·intro v hv;have i:=g.z v hv;constructor
  ·obtain⟨_,h1|h1|h1⟩:=i
   ·obtain⟨a,b,c⟩:=h1;have:v.k.x.size=v.k.x.toList.length:=by rw[yj];simp
    simp_all
   ·obtain⟨a,b,c,d⟩:=h1;have:v.k.x.size=v.k.x.toList.length:=by rw[yj];simp
    simp_all
   ·refine(s.nm _<|qqm hv ?_).2;unfold kxi kyv;simp_all
  ·exact(zyc s hv i).1
 ·intro r e;obtain⟨x,b,m,_⟩:=j r e;obtain⟨q,w,y⟩:=vjp<|s.all r e;exact⟨q,aj,aj,b.slen,aj⟩
 ·intro v hv f;obtain⟨_,h1|h1|h1⟩:=g.z v hv
  ·rw[h1.2.2,dh]at f;cases f
  ·simp_all
  ·rw[h1.2,dh]at f;cases f
 ·have:=(qy6 t).length_le;have:=g.nms.le;have:=l.T;omega
 ·intro r e;obtain⟨x,b,m,_⟩:=j r e;exact⟨x.some,x.ok,b.sok,λp u=>(s.nm _<|kxv e (zy8 u).2).2⟩
def qvd(s:ByteArray)(w:World)(e:Ending)(w':World):Prop:=
 oq w w'/\((¬(qw0 s).1=0/\e=.returned (.tuple #[.pointer none,.int .i64 (qw0 s).1,.int .i64 (qw0 s).2])) \/
  ((qw0 s).1=0/\(qw0 s).2=0/\∃T,w.heap.size<=T/\e=.returned (.tuple #[.pointer (some ⟨T,0,none⟩),.int .i64 0,.int .i64 0])/\kqc w' T (uz (jv s).1).1))
def zy0(t:PTree)(r:PRule):Bool:=((kq5 t r.u r.guard).toList==nY)&&kzi t r.u r.S
theorem vqp(t:PTree):qw8 t=(t.l++t.q).all (zy0 t):=rfl
theorem vjh(s:ByteArray)(w:World):Calls prog 36 #[.string s] w λe w'=>qvd s w e w':=by
 by_cases aQ:800<s.size
 ·have D:qw0 s=(1,0):=by unfold qw0;simp_all
  have j:=oz D;clear D;go_wp2;go_ret3;unfold qvd;rw[ku j];simp_all [Below.refl]
 ·have a9:s.size<=800:=by omega
  have D:qw0 s=match (jv s).2 with|some k=>(2,(k:Int))|none=>match (uz (jv s).1).2 with|some k=>(3,(k:Int))|none=>zyo (uz (jv s).1).1:=by unfold qw0;grind
  have j:=oz D;clear D;go_in;go_wp21;refine(pv9 s w a9).mono ?_;rintro e w1 ⟨y,hp⟩;have aP:=y.size;obtain⟨a6,v,rfl,hv⟩|⟨k,Y,rfl⟩:=hp
  ·rw[a6]at j;have E:=kyh a9 a6;have HV:=qo jR hv;obtain⟨va,vl,vc,rfl⟩:=qh hv;go_wp21;refine(pv4 HV E.pos E.T E.jz4<|λi hi X=>zq7 E hi X).mono ?_;rintro e w2 ⟨a4,hp⟩;have a0:=y.trans<|a4.mono aP;have aT:=a4.size;obtain⟨k,Y,rfl⟩|⟨M,T,hT,rfl,aA⟩:=hp
   ·rw[Y]at j;go_wp2;go_ret3;unfold qvd;rw[ku j];exact⟨a0,.inl ⟨ay,rfl⟩⟩
   ·rw[M]at j;have a:=pw7 E M;obtain⟨t,ht⟩:=cpy<|(uz (jv s).1).1;rw[<-ht]at j a aA;obtain⟨aJ,a3,b⟩:=jp ht aA (show zyo t=if 0<=kk7 t then (4,kk7 t) else if 0<=xu (qq0 t) (qxo t) then (5,xu (qq0 t)<|qxo t) else if qw8 t then (0,0) else (6,0) from rfl);clear ht;go_wp21
    refine(vqf a3 a.ok a.l a.q (λr hr=>(a.pars r hr).1) a.j a.tops).mono ?_;rintro e w3 ⟨rfl,H⟩;have a1:=a0.trans<|H.mono aj;have A:=a3.below H;have aU:=H.size;generalize kk7 t=P at b |-;by_cases hP:0<=P
    ·rw[lJ hP]at b;go_wp2;go_ret3;unfold qvd;rw[ku j];simp only[ku b];exact⟨a1,.inl ⟨ak,rfl⟩⟩
    ·rw[Xy hP]at b;go_wp21;refine(pxd A a.ok a.l a.q (λr hr=>(a.pars r hr).1) a.glob).mono ?_;rintro e w4 ⟨rfl,I⟩;have aE:=a1.trans<|I.mono aj;have B:=A.below I;have aV:=I.size;generalize qq0 t=G at b |-;go_wp21
     refine(pkl B a.ok a.l a.q a.pars).mono ?_;rintro e w5 ⟨rfl,J⟩;have a2:=aE.trans<|J.mono aj;have C:=B.below J;have aW:=J.size;generalize qxo t=U at b |-;go_wp21
     refine(first_any).mono ?_;rintro e w6 ⟨rfl,rfl⟩;generalize xu G U=F at b |-;by_cases hF:0<=F
     ·rw[lJ hF]at b;go_wp2;go_ret3;unfold qvd;rw[ku j];simp only[ku b];exact⟨a2,.inl ⟨ak,rfl⟩⟩
     ·rw[Xy hF,vqp]at b;go_wp21;refine(qk3 C a.l a.q).mono ?_;rintro e O ⟨rv,rs,rfl,aD,aI,K⟩;have z:=a2.trans<|K.mono aj;have u:=C.below K;have aX:=K.size;obtain⟨ra,rc,rfl,(aL:Hid _)⟩:=kq8 aD;have aR:(t.l++t.q).length<=1602:=by have:=a.l;have:=a.q;grind
      have aH:=vkg.start (W:=O) (wr:=O) (f:=zy0 t) (items:=t.l++t.q)<|bR;obtain⟨aF,aG⟩:=ju a.gd a.pars;generalize t.l++t.q=Q at *;go_wp21
      go_loopw [10,11,12] (λi _ _ wr=>vkg O (zy0 t) Q i wr) (λi _ _ _=>Q.length-(intOf i).toNat);exact aH;obtain⟨k,Y,rfl,q,c⟩:=hrel;have aS:=c.size;by_cases p:k<Q.length
      ·obtain⟨g,rfl,l⟩:=ku aL k p;obtain⟨vp,vg,vb,qs,⟨f0,f1,f2,f3,f4,f5⟩,x,L,a5,N⟩:=qji k p aI;have e0:=wU c<|(l (k*6) aj).trans f0;have e1:=wU c<|(l (k*6+1) aj).trans f1;have e2:=wU c<|(l (k*6+2) aj).trans f2;have e3:=wU c<|(l (k*6+3) aj).trans f3;have e4:=wU c<|(l (k*6+4) aj).trans f4;have e5:=wU c<|(l (k*6+5) aj).trans f5;have R:=(l (k*6) aj).trans f0;have S:=(l (k*6+1) aj).trans f1;have V:=(l (k*6+2) aj).trans f2;have g3:=(l (k*6+3) aj).trans f3;have g4:=(l (k*6+4) aj).trans f4;have g5:=(l (k*6+5) aj).trans f5;have m:=oz<|jzp p q;obtain⟨y1,y2,y3,y4⟩:=ku aF _<|wZ p;obtain⟨z1,z2,z3,z4,z5⟩:=ku aG _<|wZ p;have a7:=jg.T N;generalize Q[k]=r at e0 e1 e2 R S V x L N y1 y2 y3 y4 z1 z2 z3 z4 z5 m a7;obtain⟨ma,Z,mc,rfl⟩:=qh x;obtain⟨gp,rfl⟩:=L.ptr;obtain⟨ba,bn,bc,rfl⟩:=qh a5;have aK:=qjx r.guard wr.drew T (T+1) (T+1) t r.y r.u ma Z mc gp ba bn bc (.pointer gp) y1 y2 (u.below c.drew) a.ok a.fit y4 (qj x c.drew) z1<|L.below c.drew;have aN:=oz (λ(w9:World)(h9:oq O w9)=>pkw r.S w9 T (T+1) (T+1) t r.y r.u ma Z mc gp ba bn bc (.slice ba bn bc) qs y3 (u.below h9) a.ok a.fit y4 (qj x h9) z1 (qj a5 h9) (N.below h9) aj);have a8:zy0 t r=(((kq5 t r.u r.guard).toList==nY)&&kzi t r.u r.S):=rfl;rw[a8]at m;generalize kq5 t r.u r.guard=ty at *;generalize kzi t r.u r.S=wl at *;unfold qk4 at *;clear l f0 f1 f2 f3 f4 f5 y1 y4 z1 z2 z3 z5 a7 a8 q;go_wp21
       go_region_held3 (λw'=>w'.cell? ⟨g,k*6,none⟩=some (.string r.y.t)/\w'.cell? ⟨g,k*6+1,none⟩=some (.string r.y.x)/\w'.cell? ⟨g,k*6+2,none⟩=some (.int .i64 r.y.v)/\w'.cell? ⟨g,k*6+3,none⟩=some (.slice ma Z mc)/\w'.cell? ⟨g,k*6+4,none⟩=some (.pointer gp)/\w'.cell? ⟨g,k*6+5,none⟩=some (.slice ba bn bc))
        (first|simp_all|simp_all)
        ((go_at_call 67;refine aK.mono ?_;rintro e w9 ⟨rfl,aO⟩;have h:=c.drew.trans (aO.mono<|by simp_all);have n0:=wU h R;have n1:=wU h S;have n2:=wU h V;have n3:=wU h g3;have n4:=wU h g4;have n5:=wU h g5 ))
       have aM:=aN w9.drew h.drew;clear e0 e1 e2 e3 e4 e5;go_wp21;go_region_held3 (λw'=>w'.cell? ⟨g,k*6,none⟩=some (.string r.y.t)/\w'.cell? ⟨g,k*6+1,none⟩=some (.string r.y.x)/\w'.cell? ⟨g,k*6+2,none⟩=some (.int .i64 r.y.v)/\w'.cell? ⟨g,k*6+3,none⟩=some (.slice ma Z mc)/\w'.cell? ⟨g,k*6+4,none⟩=some (.pointer gp)/\w'.cell? ⟨g,k*6+5,none⟩=some (.slice ba bn bc))
        (first|simp_all|simp_all)
        ((go_at_call 68;refine aM.mono ?_;rintro e aY ⟨rfl,aC⟩;have d:=h.drew.trans (aC.mono<|by simpa using h.size);have p0:=wU d R;have p1:=wU d S;have p2:=wU d V;have p3:=wU d g3;have p4:=wU d g4;have p5:=wU d g5 ))
       clear n0 n1 n2 n3 n4 n5 p0 p1 p2 p3 p4 p5 R S V g3 g4 g5;cases aB:(ty.toList==nY)
       ·rw[aB]at m;go_wp2;go_ret3;unfold qvd;rw[ku j,ku b,ku m];exact⟨z.trans<|d.mono aj,.inl ⟨ay,rfl⟩⟩
       ·rw[aB]at m;cases wl
        ·go_wp2;go_ret3;unfold qvd;rw[ku j,ku b,ku m];exact⟨z.trans<|d.mono aj,.inl ⟨ay,rfl⟩⟩
        ·go_wp2;exact rdM ⟨k+1,aj,eu,by rw[ku m];rfl,d⟩
      ·have X:=jzd p q;rw[X]at b;clear X q;go_wp2;go_ret3;unfold qvd;rw[<-ku aJ,ku j,ku b];exact⟨z.trans<|c.mono aj,.inr ⟨rfl,rfl,T,aj,rfl,u.below c⟩⟩
  ·rw[Y]at j;go_wp2;go_ret3;unfold qvd;rw[ku j];exact⟨y,.inl ⟨ay,rfl⟩⟩
theorem kwl{a3:Func}{a4 a5 a6 a7:Tmp}(h:a3.results=#[.tmp a4,.tmp a5,.tmp a6,.tmp a7]){a8:Program}:(results a3 cs).run a8 w=.ok (.tuple #[cs.getD a4 undef,cs.getD a5 undef,cs.getD a6 undef,cs.getD a7 undef]) w:=by simp[results,h]
def pjc(s:ByteArray)(most:Int)(r:Int×Bool×Nat×Nat):Prop:=
 (¬(qw0 s).1=0/\r=((qw0 s).1,false,0,0))\/((qw0 s).1=0/\(most<1\/500<most)/\r=(8,false,0,0)) \/
  ((qw0 s).1=0/\∃n:Nat,most=n/\1<=n/\n<=500/\PlOk (uz (jv s).1).1/\vyw (uz (jv s).1).1/\jyf (kzv (uz (jv s).1).1)/\∃S0,kkb (uz (jv s).1).1 (uz (jv s).1).1.z S0/\vj4 (uz (jv s).1).1 n S0=some r)
abbrev xqo(X g a j k:Nat)(sv u:Value)(x:RIn)(vp vg vb va:Value)(w:World):Prop:=w.cell? ⟨X,2,none⟩=some sv/\w.cell? ⟨g,j,none⟩=some u/\w.cell? ⟨a,k*8,none⟩=some (.string x.r.y.t)/\w.cell? ⟨a,k*8+1,none⟩=some (.string x.r.y.x)/\w.cell? ⟨a,k*8+2,none⟩=some (.int .i64 x.r.y.v)/\w.cell? ⟨a,k*8+3,none⟩=some vp/\w.cell? ⟨a,k*8+4,none⟩=some vg/\w.cell? ⟨a,k*8+5,none⟩=some vb/\w.cell? ⟨a,k*8+6,none⟩=some va/\w.cell? ⟨a,k*8+7,none⟩=some (.string (riT x))
theorem xqo.below(h:xqo B z gg j k x0 x1 x x2 x3 x4 a1 w)(h1:B<w.heap.size)(c:z<w.heap.size)(d:gg<w.heap.size)(hb:oq w u4):xqo B z gg j k x0 x1 x x2 x3 x4 a1 u4:=by
 obtain⟨a,b,c0,c1,c2,c3,c4,c5,c6,c7⟩:=h;have q:∀{i:Nat}{v:Value},w.cell? ⟨gg,i,none⟩=some v->u4.cell? ⟨gg,i,none⟩=some v:=λ{i v} e=>(hb.cell (p:=⟨gg,i,none⟩) d).trans e
 exact⟨(hb.cell (p:=⟨B,2,none⟩) h1).trans a,(hb.cell (p:=⟨z,j,none⟩) c).trans b,q c0,q c1,q c2,q c3,q c4,q c5,q c6,q c7⟩
theorem vzi(w:World)(hm:-9223372036854775808<=b5/\b5<=9223372036854775807){b6:Int×Bool×Nat×Nat}(hr:pjc a9 b5 b6):Calls prog 45 #[.string a9,.int .i64 b5] w λe w'=>e=.returned (.tuple #[.int .i64 b6.1,.bool b6.2.1,.int .i64 b6.2.2.1,.int .i64 b6.2.2.2])/\oq w w':=by
 have bZ:=oz<|vjh a9 w;go_in
 go_wp21;refine bZ.mono ?_;rintro e w1 ⟨b8,J⟩;have dM:=b8.size;have aH:=oz b8;clear b8 bZ;obtain⟨c1,c2,hc⟩:∃c1 c2,qw0 a9=(c1,c2):=⟨_,_,rfl⟩;unfold pjc at hr;rw[hc]at hr J;dsimp only at hr J;obtain⟨aO,rfl⟩|⟨rfl,rfl,T,hT,rfl,aQ⟩:=J
 ·have hE:b6=(c1,false,0,0):=by
   obtain⟨_,h⟩|⟨h,_⟩|⟨h,_⟩:=hr
   ·exact h
   ·exact absurd h aO
   ·exact absurd h aO
  subst hE;have eD:(c1 != 0)=true:=by simp[aO]
  clear hr aO;go_wp2;exact tK (kwl rfl) rfl ⟨rfl,aH⟩
 ·obtain⟨h,_⟩|⟨_,a3,rfl⟩|⟨_,n,rfl,eF,eG,B,dQ,aR,S0,a6,bJ⟩:=hr
  ·exact absurd rfl h
  ·by_cases bD:b5<1
   case' pos=>clear a3
   case' neg=>have eE:(500:Int)<b5:=aj
   all_goals
    clear aQ;go_wp2;exact tK (kwl rfl) rfl ⟨rfl,aH⟩
  ·have h1:¬((n:Int)<1):=by omega
   have h2:¬((500:Int)<n):=aj;have cB:=oz aQ;generalize (uz (jv a9).1).1=t at *;have cE:=oz<|px8 aQ dQ;clear aQ hc;go_wp21
   refine cE.mono ?_;rintro e A ⟨wv,rfl,bN,cO⟩;obtain⟨wa,wc,rfl,_⟩:=bN.get;obtain⟨cD,a5⟩:=ju bN cO;clear bN cO cE;obtain⟨W,hW⟩:∃W,W=A.alloc (.cells #[.pointer (some ⟨T,0,none⟩),.slice wa (kzv t).length wc,.slice none 0 0,.slice none 0 0,.slice none 0 0] 188):=⟨_,rfl⟩;have aL:oq A W:=by rw[hW];exact jZ A
   have bF:W.heap[A.heap.size]?=some (.cells #[.pointer (some ⟨T,0,none⟩),.slice wa (kzv t).length wc,.slice none 0 0,.slice none 0 0,.slice none 0 0] 188 (0,0)):=kK;have dO:W.heap.size=A.heap.size+1:=by rw[hW];simp
   have s:Hid (qka A.heap.size A.heap.size T (kzv t) ⟨[],[],[]⟩ (.slice wa (kzv t).length wc) (.slice none 0 0) (.slice none 0 0) (.slice none 0 0) W):=⟨jH,bF,by obtain⟨a,m,c,cs,e,g1,g2⟩:=cD.below aL;exact⟨a,m,c,cs,e,qo jR g1,g2⟩,⟨[],jE,rfl,λk hk=>by simp at hk⟩,jE,jE,λk hk=>by cases hk⟩
   have cC:=oz hW.symm;have a2:=cB.below a5;obtain⟨a1,aY⟩:=ju a2 (jk1 (a2.below aL) B.ok B.fit a6);have b7:ky4 S0:=by refine⟨by rw[a6.T];have:=B.ok.z;omega,λy hy=>?_⟩;obtain⟨k,hk,rfl⟩:=wG hy;obtain⟨m,hm,e⟩:=a6.get k (by rw[<-a6.T];exact hk);rw[wW hk]at e;injection e with e;rw[e,Qh];have:=hm.bd;omega
   unfold vj4 at bJ;obtain⟨x1,bO,cY⟩:=wu.1 bJ;have b4:SnB ⟨[],[],[]⟩:=⟨rfl,jH,ay,λS hS=>by cases hS⟩;have dI:=(xxy bO b4 b7).1;obtain⟨O,dB⟩:=ju (λ(wx:World) (hx:oq W wx) (v:Value) (gs:List (Nat×Nat)) (hv:StA 0 wx v S0 gs)=>vze a2 B.ok B.fit aR (aL.trans<|hx.mono aj) (s.below hx) b4 hv b7 bO) cY;clear hW bF a2 b7 bJ bO cY b4 cD a6 s;go_wp21;rw[ku cC];refine aY.mono ?_;rintro e w3 ⟨x3,dH,rfl,aE,cP⟩;have cA:=oz<|O w3 cP x3 dH (aE.mono<|jR);obtain⟨eQ,eS,rfl,_⟩:=qp aE.out;clear aY O aE cP cC aL;go_wp21
   refine cA.mono ?_;rintro e w4 ⟨rfl,⟨sv,tv,ov,bH⟩,_,aK⟩;have dN:=aK.size;have aZ:=oz<|a1.below aK;obtain⟨ra,rc,ys,q3,cZ,cX,eC⟩:=aZ.rul;obtain⟨aV,aW,bT⟩:=jp (jjc aZ B.ok cZ cX (λx hx=>B.pars x<|jT hx) B.l) bH aK;clear cA cZ cX bH aK;go_wp21
   refine aV.mono ?_;rintro e w5 ⟨lv,rfl,bA,V⟩;obtain⟨L,N,R⟩:=jp bA (aW.below V) (bT.trans (V.mono dN));obtain⟨eL,bD,_⟩:=bA;obtain⟨la,lc,rfl,_⟩:=qp bD;clear aV q3 aW bT V bD;have eA:=qjp (t:=t) (rs:=t.l) (λx hx=>B.pars x<|jT hx);have L:=oz (show OwnIn 0 w5 (.slice la (kq4 t t.l).length lc) (kq4 t t.l) from by obtain⟨cs,g1,g2⟩:=ku L;exact⟨cs,qo jR g1,g2⟩)
   have aD:=oz (λ(wx:World)(hx:oq A wx)=>aH.trans<|(a5.trans<|hx.mono a5.size).mono dM);have eI:=a5.size;obtain⟨X,hX⟩:∃X,X=A.heap.size:=⟨_,rfl⟩;have N:Hid (qka A.heap.size X T (kzv t) x1 (.slice wa (kzv t).length wc) sv tv ov w5):=by rw[hX];exact N
   rw[<-hX];have e6:A.heap.size<=X:=aj;have eB:=B.l;clear hX dO cB aH a5 aZ;go_wp21;go_loopw [13,14,15,16,17,18,19,20,21,22] (λfr kn rd _ _ _ _ _ _ _ wr=>∃(rr f kw:Nat)(x:SnR)(sv tv ov:Value),fr=.int .i64 f/\kn=.int .i64 kw/\rd=.int .i64 rr/\rr<=502/\zwt t n (502-rr) rr f kw x=some b6/\qka A.heap.size X T (kzv t) x (.slice wa (kzv t).length wc) sv tv ov wr/\SnB x/\f<=x.F.length/\OwnIn 0 wr (.slice la (kq4 t t.l).length lc) (kq4 t t.l)/\oq A wr) (λ_ _ rd _ _ _ _ _ _ _ _=>503-(intOf rd).toNat);exact⟨0,0,0,x1,_,_,_,rfl,rfl,rfl,aj,dB,N,dI,jR,L,R⟩;obtain⟨wo,dV⟩:∃wo,wo=wr:=⟨_,rfl⟩;subst dV;obtain⟨rr,f,kw,x,sv,tv,ov,rfl,rfl,rfl,eH,l,p,aS,cS,E,hb⟩:=hrel;obtain⟨m,hm⟩:∃m,502-rr=m+1:=by
    cases hq:502-rr with
    |zero=>rw[hq,zwt]at l;cases l
    |succ m=>exact⟨m,rfl⟩
   rw[hm,zwt]at l;obtain⟨cs,F,K⟩:=p.F;obtain⟨sa,sc,rfl,_⟩:=qp F;obtain⟨ta,tc,rfl,_⟩:=qp p.txs;obtain⟨oa,oc,rfl,_⟩:=qp p.L;obtain⟨c0,c1,c2,c3,c4,_⟩:=kzk p.e;have aJ:=wQ p.e;obtain⟨s,D,H⟩:=jp p E hb;have eJ:=aS.R;have dX:=aS.L;have U:=oz aS;clear p E hb aS F K;by_cases a3:n<x.L.length
   case pos=>
    rw[lJ a3]at l;injection l with l;subst l;have bS:((n:Int)<x.L.length):=aj;go_wp2
    exact tK (kwl rfl) rfl ⟨rfl,aD _ H⟩
   case neg=>
   rw[Xy a3]at l;obtain⟨b,aM,l⟩:=wu.1 l;have bS:¬((n:Int)<x.L.length):=aj;obtain⟨aT,M⟩:=ju aM l;clear aM l;go_wp21;go_loopw [17,18] (λi _ Q=>∃j:Nat,j<=x.F.length/\i=.int .i64 j/\zwv t (x.F.drop j)=some b/\qka A.heap.size X T (kzv t) x (.slice wa (kzv t).length wc) (.slice sa x.F.length sc) (.slice ta x.txs.length tc) (.slice oa x.L.length oc) Q/\OwnIn 0 Q (.slice la (kq4 t t.l).length lc) (kq4 t t.l)/\oq A Q) (λi _ _=>x.F.length-(intOf i).toNat);exact⟨f,cS,rfl,aT,s,D,H⟩;clear c0 c1 c2 c3 c4 aT s D H;obtain⟨Q,dU⟩:∃Q,Q=wr:=⟨_,rfl⟩;subst dU;obtain⟨j,hj,rfl,I,p,E,hb⟩:=hrel;obtain⟨c0,c1,c2,c3,c4,_⟩:=kzk p.e;have aJ:=wQ p.e;obtain⟨s,D,H⟩:=jp p E hb;have dS:=hb.size;by_cases Y:j<x.F.length
   case pos=>
    rw[rU Y,zwv]at I;obtain⟨v,hv,I⟩:=wu.1 I;obtain⟨cs,F,b9,K⟩:=p.F;obtain⟨u,gs,e1,C⟩:=K j Y;obtain⟨_,_,e2,aB⟩:=qp F;injection e2 with e2 e3 e4;subst e2;subst e4;clear e3;obtain⟨g,rfl,_,hg,a7⟩:=aB j Y;have cu:=(a7 j aj).trans e1;obtain⟨bU,Z⟩:=ju (pyg (a1.below hb) B C (U.rows _<|wZ Y) hv) I;obtain⟨ua,uc,rfl,_⟩:=qp C.out;clear F b9 K C aB a7 I hv p E hb e1;go_wp21
    refine bU.mono ?_;rintro e wn ⟨rfl,aN⟩;obtain⟨aX,bV,d3⟩:=jp (s.below aN) (H.trans (aN.mono dS)) (D.tk (yt aN none qw7));clear bU aN c0 c1 c2 c3 c4 s D H cu;obtain⟨c0,c1,c2,c3,c4,_⟩:=kzk aX.e;cases cR:jxu v
    case true=>
     have aA:=ku Z;rw[cR,lJ rfl]at aA;injection aA with aA;have aP:=ku M;rw[<-aA,lJ rfl]at aP;injection aP with aP;subst aP;clear M Z aA;go_wp2
     go_region
     go_wp2;exact tK (kwl rfl) rfl ⟨rfl,aD _ bV.drew⟩
    case false=>
    have d0:=oz (by have:=ku Z;rw[cR,Xy ay]at this;exact this:zwv t (x.F.drop<|j+1)=some b);clear Z;go_wp2;exact rdM ⟨j+1,aj,eu,d0,aX,d3,bV⟩
   case neg=>
   rw[JG aj,zwv]at I;injection I with I;subst I;have l:=ku M;rw[Xy ay]at l;clear M p E hb;by_cases bB:x.L.length=kw
   case pos=>
    rw[lJ (by simpa using bB)]at l;injection l with l;subst l;subst bB;go_wp2
    go_region
    go_wp2;exact tK (kwl rfl) rfl ⟨rfl,aD _ H.drew⟩
   case neg=>
   rw[Xy (by simpa using bB)]at l;obtain⟨y,hy,l⟩:=wu.1 l;obtain⟨HY,M⟩:=ju hy l;have e7:((x.L.length:Int)==kw)=false:=by rw[QG];omega
   clear hy l;go_wp21;go_loopw [19,20,21,22] (λi _ _ _ Q=>∃(j:Nat)(x':SnR)(sv tv ov:Value),j<=x.F.length/\i=.int .i64 j/\zwj t n (x.F.length-j) j x'=some y/\qka A.heap.size X T (kzv t) x' (.slice wa (kzv t).length wc) sv tv ov Q/\SnB x'/\(∃q,x'.F=x.F++q)/\OwnIn 0 Q (.slice la (kq4 t t.l).length lc) (kq4 t t.l)/\oq A Q) (λi _ _ _ _=>x.F.length-(intOf i).toNat);exact⟨f,x,_,_,_,cS,rfl,HY,s,U,⟨[],(Qs _).symm⟩,D,H⟩;clear c0 c1 c2 c3 c4 s D H HY;obtain⟨wk,aR⟩:∃wk,wk=wr:=⟨_,rfl⟩;subst aR;obtain⟨j,x',sv,tv,ov,hj,rfl,G,p,aG,⟨q,hq⟩,E,hb⟩:=hrel;obtain⟨cs,F,K⟩:=p.F;obtain⟨eO,eR,rfl,_⟩:=qp F;obtain⟨eT,eU,rfl,_⟩:=qp p.txs;obtain⟨eM,eN,rfl,_⟩:=qp p.L;obtain⟨c0,c1,c2,c3,c4,_⟩:=kzk p.e;have aJ:=wQ p.e;have dX:=aG.L;obtain⟨s,D,H,U,HQ⟩:=ja p E hb aG (⟨q,hq⟩:∃q,x'.F=x.F++q);have d6:x.F.length<=x'.F.length:=by rw[hq,rD];omega
   have J:(j<x.F.length/\x'.L.length<=n/\∃S x2,x'.F[j]?=some S/\qjf t S (kq4 t t.l) x'=some x2/\zwj t n (x.F.length-(j+1)) (j+1) x2=some y)\/(¬(j<x.F.length/\x'.L.length<=n)/\x'=y):=by
    cases hd:x.F.length-j with
    |zero=>rw[hd,zwj]at G;exact .inr ⟨aj,by injection G⟩
    |succ d=>
     rw[hd,zwj]at G;split at G
     ·obtain⟨S,s1,G⟩:=wu.1 G;obtain⟨x2,s2,G⟩:=wu.1 G;exact .inl ⟨aj,by assumption,S,x2,s1,s2,by rw[show x.F.length-(j+1)=d by omega];exact G⟩
     ·exact .inr ⟨aj,by injection G⟩
   clear p E hb aG F K G;rcases J with⟨Y,dK,S,x2,hS,C,cW⟩|⟨dL,rfl⟩
   case inr=>
    have d1:=oz (show zwt t n (502-(rr+1)) (rr+1) x.F.length x.L.length x'=some b6 from by rw[show 502-(rr+1)=m by omega];exact M);by_cases Y:j<x.F.length
    case' pos=>have dK:¬((x'.L.length:Int)<=n):=aj
    all_goals
     clear hq dL;go_wp2;exact rdM ⟨rr+1,x.F.length,x.L.length,x',_,_,_,rfl,rfl,eu,aj,d1,s,U,d6,D,H⟩
   case inl=>
   have e8:(x'.L.length:Int)<=n:=aj;obtain⟨d8,P,HS⟩:=jp cW C hS;clear cW C hq hS;go_wp21;go_loopw [20,21,22] (λkk _ _ wq=>∃(k:Nat)(z:SnR)(sv tv ov:Value),k<=(kq4 t t.l).length/\kk=.int .i64 k/\qjf t S ((kq4 t t.l).drop k) z=some x2/\qka A.heap.size X T (kzv t) z (.slice wa (kzv t).length wc) sv tv ov wq/\SnB z/\(∃q,z.F=x'.F++q)/\OwnIn 0 wq (.slice la (kq4 t t.l).length lc) (kq4 t t.l)/\oq A wq) (λkk _ _ _=>(kq4 t t.l).length-(intOf kk).toNat);exact⟨0,x',_,_,_,jR,rfl,P,s,U,⟨[],(Qs _).symm⟩,D,H⟩;clear c0 c1 c2 c3 c4 s D H P U;obtain⟨wq,dW⟩:∃wq,wq=wr:=⟨_,rfl⟩;subst dW;obtain⟨k,z,sv,tv,ov,hk,rfl,C,p,aC,a8,E,hb⟩:=hrel;obtain⟨s,D,H,aI,bX⟩:=ja p E hb aC a8;have dT:=hb.size;by_cases bC:k<(kq4 t t.l).length
   case neg=>
    rw[JG aj,qjf]at C;injection C with C;subst C;have d9:=oz (show ∃q',z.F=x.F++q' from by obtain⟨q2,e2⟩:=a8;obtain⟨q1,e1⟩:=ku HQ;exact⟨q1++q2,by rw[e2,e1,sZ]⟩)
    clear p E hb aC a8;go_wp2;exact rdM ⟨j+1,z,_,_,_,aj,eu,d8,s,aI,d9,D,H⟩
   case pos=>
   rw[rU bC,qjf]at C;obtain⟨⟨q1,S2⟩,aF,C⟩:=wu.1 C;have bQ:z.F[j]?=some S:=by obtain⟨q2,e2⟩:=a8;rw[e2,ZV (rY.1 (ku HS)).1];exact HS
   obtain⟨cV,cU⟩:=rY.1 bQ;obtain⟨cs,F,b9,K⟩:=p.F;obtain⟨u,gs,e1,a4⟩:=K j cV;rw[cU]at a4;obtain⟨eP,dZ,rfl,aB⟩:=qp F;obtain⟨g,rfl,_,hg,a7⟩:=aB j cV;have cu:=(a7 j aj).trans e1;obtain⟨c0,c1,c2,c3,c4,_⟩:=kzk p.e;have aJ:=wQ p.e;have bG:=aC.rows S<|wB bQ;obtain⟨gl,yc,vp,vg,vb,aa,ac,ey,dJ,⟨cF,cG,cH,cI,cJ,cK,cL,cM⟩,cT⟩:=E.get bC;injection ey with dD dE dF;subst dD;obtain⟨bW,bY,P⟩:=jp (jjd (a1.below hb.drew) B.ok B.tops (a4.below bR.drew) bG (cT.below bR.drew) (B.insts _<|jT (wZ bC)) aF) (bG.pqg (vqt aF)) C;obtain⟨ua,uc,rfl,_⟩:=qp a4.out;have eK:=aC.R;have b2:=oz (show xqo X g gl j k _ _ _ _ _ _ _ wq from⟨c2,cu,cF,cG,cH,cI,cJ,cK,cL,cM⟩);clear dE dF cT aF C bQ cU F b9 K e1 a4 aB a7 bG p E hb aC a8 c0 c1 c3 c4;generalize (kq4 t t.l)[k]=ix at *;go_wp21
   go_region_held3 (xqo X g gl j k (.slice (some ⟨g,0,none⟩) z.F.length dZ) (.slice ua S.length uc) ix vp vg vb<|.slice aa ix.ms.length ac) (first|exact b2|exact b3)
    (first|(go_at_call 71;refine bW.mono ?_;rintro e w5 ⟨yv,e9,rfl,bL,V⟩;have R:=oz<|(Below.refl wq.heap.size wq).drew.trans V;obtain⟨b3,a0⟩:=ju (b2.below aJ hg dJ R) bL;clear bL V;dsimp only))
   clear c2 cu cF cG cH cI cJ cK cL cM b2 b3 bW;obtain⟨N,L,aU⟩:=jp (s.below R) (D.tk (yt R none qw7)) (H.trans (R.mono dT));cases h1:(q1==1)
   case false=>
    have HF:=oz (show qjf t S ((kq4 t t.l).drop<|k+1) z=some x2 from by have:=ku P;rw[h1]at this;exact this);clear P a0;go_wp2;exact rdM ⟨k+1,z,_,_,_,aj,eu,HF,N,aI,bX,L,aU⟩
   case true=>
   obtain⟨z2,bP,bK⟩:=wu.1 (show(vjk t z S2).bind (λx'=>qjf t S ((kq4 t t.l).drop<|k+1) x')=some x2 from by have:=ku P;rw[h1]at this;exact this);obtain⟨cN,q3,e3⟩:=xxy bP aI bY;have dA:=oz (show ∃q,z2.F=x'.F++q from by obtain⟨q2,e2⟩:=ku bX;exact⟨q2++q3,by rw[e3,e2,sZ]⟩)
   obtain⟨O,dC,d5⟩:=jp (vze a1 B.ok B.fit aR aU N aI (a0.mono<|jR) bY bP) bK cN;obtain⟨ya,yd,rfl,_⟩:=qp (ku a0).out;clear bP bK cN e3 P a0;go_wp21;refine O.mono ?_;rintro e w6 ⟨rfl,⟨e0,e5,dY,bI⟩,bM,cQ⟩;obtain⟨d2,d4,d7⟩:=jp (L.tk bM) bI cQ;clear bI bM cQ O;go_wp2;exact rdM ⟨k+1,z2,e0,e5,dY,aj,eu,dC,d4,d5,dA,d2,d7⟩
def xk5(s:ByteArray)(ts:List ByteArray)(r:vyp):Prop:=
 (qw0 s).1=0/\PlOk (uz (jv s).1).1/\∃S0,kkb (uz (jv s).1).1 (uz (jv s).1).1.z S0/\qvn (uz (jv s).1).1 ts 0 S0=some r
theorem vx1{b7:List ByteArray}{b8:Option Addr}(pn pc:Nat)(hn:b7.length=pn)(N:jzh w b8 b7)(H:b7.length<=1000000){b9:vyp}(P:xk5 a9 b7 b9):Calls prog 46 #[.string a9,.slice b8 pn pc] w λe w'=>qyv w b9 e w':=by
 subst hn;obtain⟨W,d⟩:=cpy<|w.alloc (.cells #[.string ⟨#[]⟩,.slice none 0 0,.slice none 0 0,.slice none 0 0,.bool false] 24);have u:oq w W:=by rw[d];exact jZ w
 have q:w.heap.size<W.heap.size:=by rw[d];simp
 have M:Hid (W.heap[w.heap.size]?=some (.cells #[.string ⟨#[]⟩,.slice none 0 0,.slice none 0 0,.slice none 0 0,.bool false] 24 (0,0))):=by rw[d];exact qy
 obtain⟨z,L⟩:=ju d.symm N;have y:=vjh a9 W;clear d;go_in;go_wp21;rw[ku z];refine y.mono ?_;rintro e Q ⟨l,h⟩;obtain⟨B,G,R,A,p⟩:=P;obtain⟨C,_⟩|⟨_,_,T,S,rfl,I⟩:=h
 ·exact absurd B C
 have c:oq w Q:=u.trans<|l.mono (Qr q);have k:=oz<|(l.block w.heap.size q).trans M;have s:=wQ k;have x:=pxq I G b7.length pc rfl (L.below c<|jH) H A p;have b:=c.size;clear p B;go_wp21
 refine x.mono ?_;rintro e V ⟨f,en,g,wa,j,i,ba,bn,bc,rfl,D,E,F,m⟩;have t:=c.trans<|m.mono b;have a:=oz<|(m.block w.heap.size s).trans k;have U:=jl a;have O:=wQ a;have K:=pq5 a (bad:=[24]) ak (.string b9.1.x) (.slice f en g) (.slice wa j i) (.slice ba bn bc)<|.bool b9.2.1;have J:=show qyv w b9 (.returned<|.tuple #[.agg #[.string b9.1.x,.slice f en g,.slice wa j i,.slice ba bn bc,.bool b9.2.1],.int .i64 b9.2.2.1,.int .i64 b9.2.2.2]) _ from⟨f,en,g,wa,j,i,ba,bn,bc,rfl,qo b<|jq D K (pz.none _) ak,qo b<|jq E K (pz.none _) ak,qo b<|jq F K (pz.none _) ak,qq6 t⟩
 go_wp2;exact tK (v:=.tuple #[.agg #[.string b9.1.x,.slice f en g,.slice wa j i,.slice ba bn bc,.bool b9.2.1],.int .i64 b9.2.2.1,.int .i64 b9.2.2.2]) (kqn results46 _ _ w.heap.size _ _ _ _ rfl (kxy a) underlying24 rfl au) rfl J
section
structure VIn (ksz ssz:List UInt8->Nat)(B:Nat)(ty:VT)(x:Int):Prop where
 tru:ty.b=1->x=0\/x=1
 xx:ty.b=2->-(B:Int)<=x/\x<=B
 kin:ty.b=3->0<=x/\x<ksz ty.y.toList
 set:ty.b=4->0<=x/\x<=ssz ty.y.toList
 non:ty.b=5->x=0
 b:ty.b=1\/ty.b=2\/ty.b=3\/ty.b=4\/ty.b=5
structure MvOk (tab:Tab)(ksz ssz:List UInt8->Nat)(size:Nat)(v:MVar)(d:VrT):Prop where
 fit:v.f+v.d<=size
 cnt:v.d=if d.K then ssz d.g.x.toList else 1
 pos:1<=v.d
 few:v.a.length<=200
 tru:(kqm tab d.si).b=1->v.a.length=2
 kin:(kqm tab d.si).b=3->v.a.length=ksz (kqm tab d.si).y.toList
 set:(kqm tab d.si).b=4->v.a.length=ssz (kqm tab d.si).y.toList+1
structure EnvOk (tab:Tab)(vars:List MVar)(mt:kq3)(ksz ssz:List UInt8->Nat)(size:Nat):Prop where
 mem:∀s,(zl tab s).V=3->(kjw mt s).isVar=false/\(kjw mt s).xx<ksz (zl tab s).t.toList
 var:∀s,(zl tab s).V=4->(kjw mt s).isVar=true/\∃v,vars[(kjw mt s).xx]?=some v/\MvOk tab ksz ssz size v (zl tab s).var
 K:∀s,(zl tab s).var.K=true->(zl tab s).V=4
 kb:∀s,ksz s<=1000
 sb:∀s,ssz s<=1000
 size:size<=1000
structure yg (vars:List MVar)(size:Nat)(st:List Int):Prop where
 T:st.length=size
 val:∀v∈vars,∀j,j<v.d->∃x,st[v.f+j]?=some x/\0<=x/\x<v.a.length
structure ParOk (ssz:List UInt8->Nat)(l:List PP)(ms:List Int):Prop where
 T:ms.length=l.length
 val:∀i (hi:i<l.length) (hm:i<ms.length),0<=ms[i]/\ms[i]<ssz l[i].Q.x.toList
theorem kw1(h1:-1000000000<=b5)(a:b5<=1000000000):small b5=some b5:=by grind [small]
theorem pys:∀(l:List PP)(s:List UInt8),fpB l s=true->∃h:qw2 l s<l.length,l[qw2 l s]=fpP l s
 |[],s,h=>by simp[fpB]at h
 |p::l,s,h=>by
  cases b:(p.y.x.toList==s)
  ·have a:fpB l s=true:=by grind [fpB]
   obtain⟨c,d⟩:=pys l s a;grind [qw2,fpP]
  grind [qw2,fpP]
theorem xkc(tab:Tab)(x:SiT):(kqm tab x).b=1\/(kqm tab x).b=2\/(kqm tab x).b=3\/(kqm tab x).b=4:=by grind [kqm]
theorem xxr(h:MvOk tab g6 g7 size g8 d)(a:0<=b5)(h1:b5<g8.a.length):VIn g6 g7 200 (kqm tab d.si) b5:=by
 have b:=h.few;refine⟨λe=>?_,λe=>aj,λe=>?_,λe=>?_,λe=>?_,?_⟩
 ·have:=h.tru e;omega
 ·have:=h.kin e;omega
 ·have:=h.set e;omega
 ·grind [xkc]
 grind [xkc]
theorem VIn.mono(h:VIn g6 g7 B ty b5)(hb:B<=j):VIn g6 g7 j ty b5:=
 ⟨h.tru,λe=>by have:=h.xx e;omega,h.kin,h.set,h.non,h.b⟩
theorem VIn.small(h:VIn g6 g7 B ty b5)(a:∀s,g6 s<=1000)(b:∀s,g7 s<=1000)(hb:B<=1000000):-1000000<=b5/\b5<=1000000:=by
 obtain e|e|e|e|e:=h.b
 ·have:=h.tru e;omega
 ·have:=h.xx e;omega
 ·have:=h.kin e;grind
 ·have:=h.set e;grind
 ·have:=h.non e;omega
variable {tab:Tab} {vars:List MVar} {mt:kq3} {ksz ssz:List UInt8->Nat} {size:Nat} {l:List PP} {ms st:List Int}
theorem jww(f:EnvOk tab vars mt ksz ssz size)(h:ParOk ssz l ms)(p:yg vars size st)(n:Tok)(q:(kjf tab l n).b≠0):∃x,jwy vars mt l ms st n.x.toList=some x/\VIn ksz ssz 200 (kjf tab l n) x:=by
 cases g:fpB l n.x.toList
 ·cases c:((zl tab n.x.toList).V==3)
  ·cases d:((zl tab n.x.toList).V==4&&!(zl tab n.x.toList).var.K)
   ·exact absurd (by unfold kjf;rw[g,c,d];rfl) q
   ·have a:kjf tab l n=kqm tab (zl tab n.x.toList).var.si:=by unfold kjf;simp_all
    rw[rG,su,QD]at d;obtain⟨hv,v,u,b⟩:=f.var _ d.1;obtain⟨x,s,j,h1⟩:=p.val v (by grind) 0 (by have:=b.pos;omega);rw[Qk]at s;have k:=b.few;grind [xxr,jwy,kw1]
  ·have a:kjf tab l n=⟨3,(zl tab n.x.toList).t⟩:=by unfold kjf;simp_all
   rw[su]at c;obtain⟨hv,w⟩:=f.mem _ c;refine⟨(kjw mt n.x.toList).xx,by unfold jwy;simp_all,?_⟩;rw[a];exact⟨λe=>iy,λe=>iy,(by simp_all),λe=>iy,λe=>iy,ay⟩
 ·have a:kjf tab l n=⟨4,(fpP l n.x.toList).Q.x⟩:=by unfold kjf;simp_all
  obtain⟨i,t⟩:=pys l _ g;have m:qw2 l n.x.toList<ms.length:=by rw[h.T];exact i
  obtain⟨j,h1⟩:=h.val _ i m;rw[t]at h1;have hb:=f.sb (fpP l n.x.toList).Q.x.toList;refine⟨ms[qw2 l n.x.toList]+1,?_,?_⟩
  ·grind [jwy,kw1]
  ·rw[a];exact⟨λe=>iy,λe=>iy,λe=>iy,(by grind),λe=>iy,ay⟩
theorem xqp(b:EnvOk tab vars mt ksz ssz size)(k:ParOk ssz l ms)(p:yg vars size st)(hv:MvOk tab ksz ssz size g8 d)(i:Tok)(hi:(i.t.toList==[])=false->d.K=true/\qy5 tab l i d.g=true):∃j w,atO vars mt l ms st g8 i=some ((g8.f:Int)+(j:Nat),w)/\j<g8.d:=by
 unfold atO;have g:=hv.fit;have q:=b.size;cases h:(i.t.toList==[])
 ·obtain⟨e,a⟩:=hi h;rw[Xy ay];unfold qy5 at a;rw[rG,su,su]at a;obtain⟨x,h1,c⟩:=jww b k p i aj;have m:=c.set a.1;rw[a.2]at m;have f:=hv.cnt;rw[e,lJ rfl]at f;rw[h1];show ∃j w,(if x==0 then some ((g8.f:Int),true) else (small x).bind λ_=>(small g8.f).map λ_=>((g8.f:Int)+x-1,false))=some ((g8.f:Int)+(j:Nat),w)/\j<g8.d;cases t:(x==0)
  ·have s:x≠0:=by simp_all
   refine⟨x.toNat-1,false,?_,aj⟩;grind [kw1]
  ·exact⟨0,true,ay,hv.pos⟩
 ·exact⟨0,false,ay,hv.pos⟩
theorem pwv(c:EnvOk tab vars mt ksz ssz size)(k:ParOk ssz l ms)(g:yg vars size st)(n i:Tok)(d:(kxj tab l n i).b≠0):∃r,jql vars mt l ms st n i=some r/\VIn ksz ssz 200 (kxj tab l n i) r.1:=by
 cases f:(i.t.toList==[])
 ·cases b:(zl tab n.x.toList).var.K
  ·exact absurd (by unfold kxj;rw[f,b];rfl) d
  ·cases p:qy5 tab l i (zl tab n.x.toList).var.g
   ·exact absurd (by unfold kxj;rw[f,b,p];rfl) d
   ·have e:kxj tab l n i=kqm tab (zl tab n.x.toList).var.si:=by unfold kxj;simp_all
    obtain⟨_,v,m,a⟩:=c.var _<|c.K _ b;obtain⟨j,w,h1,h⟩:=xqp c k g a i (λ_=>⟨b,p⟩);obtain⟨x,u,q,s⟩:=g.val v (by grind) j h;have t:=a.few;refine⟨(x,w),?_,by rw[e];exact xxr a q s⟩;unfold jql;rw[f,Xy ay,m];show(atO vars mt l ms st v i).bind _=_;grind [kw1]
 ·have e:kxj tab l n i=kjf tab l n:=by unfold kxj;simp_all
  rw[e]at d |-;obtain⟨x,h1,h⟩:=jww c k g n d;simp_all [jql]
def zxs:PX->Prop
 |.nil=>True
 |.node _ _ x a c=>((opN x.op.toList==3)=true->0<=x.n/\x.n<=9)/\zxs a/\zxs c
theorem xjv(ksz ssz:List UInt8->Nat)(B:Nat)(c:Bool):VIn ksz ssz B ⟨1,⟨#[]⟩⟩ (kvq c):=
 ⟨λ_=>by cases c;exact .inl rfl;exact .inr rfl,λe=>iy,λe=>iy,λe=>iy,λe=>iy,.inl rfl⟩
theorem zx7(h:(kjc b5 c).b≠0):c=true/\kjc b5 c=⟨b5,⟨#[]⟩⟩:=by
 unfold kjc at h |-;cases c
 ·exact absurd rfl h
 simp
theorem xki(o:List UInt8):0<=opN o:=by unfold opN;omega
theorem vk5(h:(zji b5 g9 y).b≠0):g9.b≠0/\y.b≠0/\((b5==6||b5==7)=true->(g9.b=1/\y.b=1)/\zji b5 g9 y=⟨1,⟨#[]⟩⟩)/\((b5==6||b5==7)=false->(b5==11||b5==12)=true->(g9.b=2/\y.b=2)/\zji b5 g9 y=⟨2,⟨#[]⟩⟩)/\((b5==6||b5==7)=false->(b5==11||b5==12)=false->zji b5 g9 y=⟨1,⟨#[]⟩⟩):=by grind [zji,zx7,zvq,kwx]
theorem val_ok(d:EnvOk tab vars mt ksz ssz size)(B:ParOk ssz l ms)(C:yg vars size st):∀(x:PX),qj4 x->zxs x->isNil x=false->kk5 x<=4000->(gy tab l x).b≠0->∃r,qqv vars mt l ms st x=some r/\VIn ksz ssz (200*kk5 x) (gy tab l x) r.1
 |.nil,_,_,hn,_,_=>by cases hn
 |.node i j x a c,hx,hnum,hn,hsz,ht=>by
  obtain⟨⟨s,L⟩,E,F⟩:=hx;obtain⟨G,H,I⟩:=hnum;have P:kk5 (.node i j x a c)=kk5 a+kk5 c+1:=rfl;rw[P]at hsz |-;have t:=val_ok d B C a E H;have M:=val_ok d B C c F I;rw[gy]at ht |-;rw[qqv];have R:=xki x.op.toList;generalize opN x.op.toList=o at *;cases b:(o==0)
  ·cases h1:(o==1)
   ·cases f:(o==2)
    ·cases m:(o==3)
     ·cases y:(o==4)
      ·cases O:(o==5)
       ·
        have g:6<=o:=by grind
        simp only[b,h1,f,m,y,O,QX,Qg,Zv,Xy (show ¬false=true by simp)]at ht |-;obtain⟨ga,gc,k1,k2,k3⟩:=vk5 ht;obtain⟨p,S,h⟩:=t (s aj) aj ga;obtain⟨q,T,k⟩:=M (L g) aj gc;have W:=h.small d.kb d.sb aj;have X:=k.small d.kb d.sb aj;refine⟨(kxa o p.1 q.1,p.2||q.2),?_,?_⟩
        ·grind [kw1]
        ·show VIn ksz ssz (200*(kk5 a+kk5 c+1)) (zji o (gy tab l a)<|gy tab l c) (kxa o p.1 q.1);cases z:(o==6||o==7)
         ·cases D:(o==11||o==12)
          ·grind [kxa,xjv]
          ·obtain⟨⟨u,v⟩,w⟩:=k2 z D;rw[w];have b1:=h.xx u;have N:=k.xx v;rw[Qi]at z;have U:kxa o p.1 q.1=p.1+q.1\/kxa o p.1 q.1=p.1-q.1:=by grind [kxa]
           refine⟨λe=>iy,λ_=>?_,λe=>iy,λe=>iy,λe=>iy,.inr<|.inl rfl⟩;omega
         ·obtain⟨⟨u,v⟩,w⟩:=k1 z;rw[w];have b1:=h.tru u;have N:=k.tru v;refine⟨λ_=>?_,λe=>iy,λe=>iy,λe=>iy,λe=>iy,.inl rfl⟩;grind [kxa]
       ·
        have g:o=5:=by simp_all
        subst g;simp only[b,h1,f,m,y,QX,Qg,Zv,Xy (show ¬false=true by simp),lJ rfl,beq_self_eq_true]at ht |-;obtain⟨A,Q⟩:=zx7 ht;rw[Q];rw[su]at A;obtain⟨r,J,K⟩:=t (s ak) aj (by rw[A];decide);have:=K.tru A;rw[J];refine⟨(1-r.1,r.2),?_,⟨aj,λe=>iy,λe=>iy,λe=>iy,λe=>iy,.inl rfl⟩⟩;grind [kw1]
      ·simp only[b,h1,f,m,y,QX,Qg,Zv,Xy (show ¬false=true by simp),lJ rfl]at ht |-;obtain⟨r,h1,f⟩:=pwv d B C x.y x.c ht;exact⟨r,h1,f.mono aj⟩
     ·simp only[b,h1,f,QX,Qg,Zv,Xy (show ¬false=true by simp),lJ rfl]at ht |-;obtain⟨n0,V⟩:=G m;exact⟨_,rfl,⟨λe=>iy,aj,λe=>iy,λe=>iy,λe=>iy,.inr<|.inl rfl⟩⟩
    ·have g:o=2:=by simp_all
     subst g;simp only[b,h1,QX,Qg,Zv,Xy (show ¬false=true by simp),lJ rfl,beq_self_eq_true,show((2:Int)==3)=false from rfl,Js]at ht |-;exact⟨_,rfl,⟨λe=>iy,λe=>iy,λe=>iy,λe=>iy,λ_=>rfl,ay⟩⟩
   ·simp only[b,h1,QX,Jg,Js,Xy (show ¬false=true by simp),lJ rfl]at ht |-;exact⟨_,rfl,⟨λ_=>.inl rfl,λe=>iy,λe=>iy,λe=>iy,λe=>iy,.inl rfl⟩⟩
  ·simp only[b,Jg,lJ rfl]at ht |-;exact⟨_,rfl,⟨λ_=>.inr rfl,λe=>iy,λe=>iy,λe=>iy,λe=>iy,.inl rfl⟩⟩
end
section
def qzm(vars:List MVar):Prop:=∀(i j:Nat)(u v:MVar),vars[i]?=some u->vars[j]?=some v->i≠j->u.f+u.d<=v.f\/v.f+v.d<=u.f
theorem yg.put(h:yg vars size i0)(d:qzm vars)(hv:vars[k]?=some g8)(s:j<g8.d)(p:0<=b5)(h1:b5<g8.a.length):yg vars size (i0.set (g8.f+j) b5):=by
 refine⟨by rw[Jq];exact h.T,λu c i hi=>?_⟩;obtain⟨y,t,g,l⟩:=h.val u c i hi;obtain⟨m,f,rfl⟩:=wG c;have a:vars[m]?=some vars[m]:=wW f;by_cases e:vars[m].f+i=g8.f+j
 ·by_cases b:m=k
  ·grind
  ·obtain q|q:=d m k _ _ a hv b<;>omega
 grind
def jze:PB->Prop
 |.nil=>True
 |.node _ _ a .nil n=>(zxs a.value/\kk5 a.value<=4000)/\jze n
 |.node _ _ a (.node _ _ _ t e) n=>(zxs a.A/\kk5 a.A<=4000)/\jze t/\jze e/\jze n
variable {tab:Tab} {vars:List MVar} {mt:kq3} {ksz ssz:List UInt8->Nat} {size:Nat} {l:List PP} {ms st:List Int}
theorem xz9:opN ng=4:=ak
theorem zk3(tab:Tab)(l:List PP)(h:i2.op.toList=ng):gy tab l (.node 0 0 i2 .nil .nil)=kxj tab l i2.y i2.c:=by rw[gy,h,xz9];rfl
theorem vjq{tab:Tab}{i3:List PP}{i5:PX}(h:jwd tab i3 i4 i5=true):(zl tab (qj9 i4).toList).V=4/\(gy tab i3 i4).b≠0/\(gy tab i3 i5).b≠0:=by grind [jwd,kwx]
theorem xqd(g:EnvOk tab vars mt ksz ssz size)(y:qzm vars)(s:ParOk ssz l ms)(d:yg vars size st)(m:i2.op.toList=ng)(z:qj4 i4)(hn:zxs i4)(h:isNil i4=false)(G:kk5 i4<=4000)(F:jwd tab l (.node 0 0 i2 .nil .nil) i4=true):∃r,vk9 vars mt l ms st i2.y i2.c i4=some r/\yg vars size r.1:=by
 obtain⟨E,a,v⟩:=vjq F;rw[zk3 tab l m]at a;obtain⟨p,t,H⟩:=val_ok g s d i4 z hn h G v;obtain⟨_,u,b,c⟩:=g.var _ E;obtain⟨j,w,i,k⟩:=xqp g s d c i2.c (λC=>by
  unfold kxj at a;rw[C]at a;cases f:(zl tab i2.y.x.toList).var.K
  ·rw[f]at a;exact absurd rfl a
  ·cases x:qy5 tab l i2.c (zl tab i2.y.x.toList).var.g
   ·rw[f,x]at a;exact absurd rfl a
   ·exact⟨f,x⟩)
 have B:=c.fit;have D:=d.T;have A:=c.few;unfold vk9;rw[t];show ∃r,((vars[(kjw mt i2.y.x.toList).xx]?).bind λi4=>(atO vars mt l ms st i4 i2.c).bind λq=>if p.1<0||p.1 >= (i4.a.length:Int) then some (st,true) else if p.1 > 255||q.1<0||q.1 >= (st.length:Int) then none else some (st.set q.1.toNat p.1,p.2||q.2))=some r/\yg vars size r.1;rw[show qj9 (.node 0 0 i2 .nil .nil)=i2.y.x from rfl]at b;rw[b];show ∃r,((atO vars mt l ms st u i2.c).bind λq=>if p.1<0||p.1 >= (u.a.length:Int) then some (st,true) else if p.1 > 255||q.1<0||q.1 >= (st.length:Int) then none else some (st.set q.1.toNat p.1,p.2||q.2))=some r/\yg vars size r.1;rw[i];show ∃r,(if p.1<0||p.1 >= (u.a.length:Int) then some (st,true) else if p.1 > 255||((u.f:Int)+(j:Nat))<0||((u.f:Int)+(j:Nat)) >= (st.length:Int) then none else some (st.set ((u.f:Int)+(j:Nat)).toNat p.1,p.2||w))=some r/\yg vars size r.1;by_cases I:p.1<0\/p.1 >= (u.a.length:Int)
 ·simp_all
 ·have e:0<=p.1/\p.1<(u.a.length:Int):=by omega
  rw[Xy (by simp_all),Xy (by grind)];refine⟨_,rfl,?_⟩;show yg vars size (st.set ((u.f:Int)+(j:Nat)).toNat p.1);rw[show((u.f:Int)+(j:Nat)).toNat=u.f+j by omega];exact d.put y b k e.1 e.2
theorem zwx(d:EnvOk tab vars mt ksz ssz size)(i:qzm vars)(f:ParOk ssz l ms):∀(b:PB),qzh b->jze b->kkj tab l b=true->∀st,yg vars size st->∃r,doO vars mt l ms b st=some r/\yg vars size r.1
 |.nil,_,_,_,st,hs=>⟨_,rfl,hs⟩
 |.node _ _ a .nil n,hf,hn,ht,st,hs=>by
  obtain⟨⟨h1,m,x,s,E⟩,g⟩:=hf;obtain⟨⟨n1,n2⟩,h⟩:=hn;rw[kkj,rG,s]at ht;obtain⟨p,M,B⟩:=xqd d i f hs E h1 n1 m n2 ht.1;obtain⟨q,k,j⟩:=zwx d i f n g h ht.2 p.1 B;refine⟨(q.1,p.2||q.2),?_,j⟩;rw[doO,s];show(vk9 vars mt l ms st x.y x.c a.value).bind _=_;simp_all
 |.node _ _ a (.node _ _ _ t e) n,hf,hn,ht,st,hs=>by
  obtain⟨⟨h1,m⟩,y,w,g⟩:=hf;obtain⟨⟨n1,n2⟩,A,z,h⟩:=hn;rw[kkj,rG,rG,rG,su]at ht;obtain⟨⟨⟨O,H⟩,I⟩,D⟩:=ht;obtain⟨c,u,J⟩:=val_ok d f hs a.A h1 n1 m n2 aj;obtain⟨G,N,C⟩:=zwx d i f t y A H st hs;obtain⟨F,L,v⟩:=zwx d i f e w z I st hs;rw[doO,u];show ∃r,((if c.1==1 then doO vars mt l ms t st else doO vars mt l ms e st).bind λp=>(doO vars mt l ms n p.1).map λq=>(q.1,c.2||p.2||q.2))=some r/\yg vars size r.1;cases K:(c.1==1)
  ·obtain⟨q,k,j⟩:=zwx d i f n g h D F.1 v;simp_all
  ·obtain⟨q,k,j⟩:=zwx d i f n g h D G.1 C;simp_all
structure StepFit (tab:Tab)(ssz:List UInt8->Nat)(s:MStep):Prop where
 par:ParOk ssz s.u s.xy
 xv:qj4 s.guard/\zxs s.guard/\isNil s.guard=false/\kk5 s.guard<=4000/\(gy tab s.u s.guard).b=1
 blk:qzh s.block/\jze s.block/\kkj tab s.u s.block=true
structure NevFit (tab:Tab)(ssz:List UInt8->Nat)(s:MNever):Prop where
 par:ParOk ssz s.u s.xy
 xv:qj4 s.xp/\zxs s.xp/\isNil s.xp=false/\kk5 s.xp<=4000/\(gy tab s.u s.xp).b=1
theorem pj4(b:EnvOk tab vars mt ksz ssz size)(g:qzm vars)(e:yg vars size st)(h:StepFit tab ssz i6):∃r,kwi vars mt i6.u i6.xy st i6.guard i6.block=some r/\(r.2=1->yg vars size r.1)/\(r.2=0\/r.2=1\/r.2=2):=by
 obtain⟨f1,f2,f3,f4,f5⟩:=h.xv;obtain⟨b1,f,b3⟩:=h.blk;obtain⟨c,a,i⟩:=val_ok b h.par e i6.guard f1 f2 f3 f4 aj;obtain⟨p,d,k⟩:=zwx b g h.par i6.block b1 f b3 st e;unfold kwi;rw[a];show ∃r,((if c.1==1 then doO vars mt i6.u i6.xy i6.block st else some (st,false)).map λp=>if (c.2||p.2) then (([],2):List Int×Int) else if c.1==1 then (p.1,1) else ([],0))=some r/\_;cases j:(c.1==1)
 ·rw[Xy ay];refine⟨_,rfl,?_,?_⟩
  ·grind
  grind
 ·rw[lJ rfl,d];refine⟨_,rfl,?_,?_⟩
  ·grind
  grind
theorem xqx(a:EnvOk tab vars mt ksz ssz size)(b:yg vars size st){i7:MNever}(h:NevFit tab ssz i7):∃r,zwo vars mt i7.u i7.xy st i7.xp=some r:=by obtain⟨f1,f2,f3,f4,f5⟩:=h.xv;obtain⟨c,d,e⟩:=val_ok a h.par b i7.xp f1 f2 f3 f4 aj;unfold zwo;simp_all
end
section
structure MachGood (tab:Tab)(ksz ssz:List UInt8->Nat)(a:Mach):Prop where
 env:EnvOk tab a.z a.C ksz ssz a.size
 disj:qzm a.z
 fit:∀v∈a.z,(v.f+v.d<=a.size/\1<=v.d)/\v.d<=10
 txt:∀v∈a.z,v.a.length<=200/\∀t∈v.a,t.size<=800/\0<t.size
 one:0<a.z.length
 few:a.z.length<=10
 X:∀s∈a.X,StepFit tab ssz s
 q:∀s∈a.q,NevFit tab ssz s
 nodup:(a.X.map (·.x.toList)).Nodup
variable {tab:Tab} {ksz ssz:List UInt8->Nat} {a:Mach} {st:List Int}
def zkd(a:Mach)(st:List Int)(s:MStep):Option (List Int×Int):=kwi a.z a.C s.u s.xy st s.guard s.block
def qwh(a:Mach)(st:List Int)(s:MStep):Int:=match zkd a st s with|some r=>r.2|none=>0
theorem out_ok(h:MachGood tab ksz ssz a)(c:yg a.z a.size st)(b:i6∈a.X):∃r,zkd a st i6=some r/\qwh a st i6=r.2/\(r.2=1->yg a.z a.size r.1):=by obtain⟨r,h1,d,e⟩:=pj4 h.env h.disj c<|h.X i6 b;grind [zkd,qwh]
theorem xxs(h:MachGood tab ksz ssz a)(b:yg a.z a.size st):∀(l:List MStep),(∀s∈l,s∈a.X)->∀en wr,lkO a.z a.C st l en wr=some (en++(l.filter λs=>qwh a st s==1).map (·.x),wr++(l.filter λs=>!(qwh a st s==1)&&qwh a st s==2).map (·.x))
 |[],_,en,wr=>by rw[lkO];simp
 |s::l,hl,en,wr=>by obtain⟨r,h1,d,_⟩:=out_ok h b<|hl s (rZ ..);have e:=xxs h b l (λx c=>hl x<|jS c);rw[lkO,show kwi a.z a.C s.u s.xy st s.guard s.block=some r from h1];grind
theorem pyq(h:MachGood tab ksz ssz a)(b:yg a.z a.size st):∀(l:List MNever),(∀s∈l,s∈a.q)->∀br,∃r,lbO a.z a.C st l br=some r
 |[],_,br=>⟨br,rfl⟩
 |s::l,hl,br=>by
  obtain⟨c,e⟩:=xqx h.env b<|h.q s (hl s<|rZ ..);rw[lbO,e];show ∃r,(if c then lbO a.z a.C st l (br++[s.x]) else lbO a.z a.C st l br)=some r;cases c
  ·exact pyq h b l (λx d=>hl x<|jS d) br
  ·exact pyq h b l (λx d=>hl x<|jS d) (br++[s.x])
theorem pkf(hv:g8∈a.z)(c:yg a.z a.size st)(f:∀t∈g8.a,t.size<=800/\0<t.size)(j:Nat)(b:j<g8.d):∃t,zyl g8 st (g8.f+j)=some t/\t.size<=800/\0<t.size:=by obtain⟨x,h1,d,e⟩:=c.val g8 hv j b;simp_all [zyl]
theorem pw1(n:Nat):(kk9 n).length<=1:=by unfold kk9;grind
theorem jz7(t:ByteArray):t.data.toList.length=t.size:=ay
theorem xqb(hv:g8∈a.z)(c:yg a.z a.size st)(d:∀t∈g8.a,t.size<=800/\0<t.size)(b:g8.d<=1000):∀n,n<=g8.d->∃l,qvg g8 st n=some l/\l.length<=n*801
 |0,_=>⟨[],rfl,ay⟩
 |n+1,hn=>by obtain⟨l,h1,e⟩:=xqb hv c d b n aj;grind [pkf,kk9,jz7,qvg]
theorem xkq(h:MachGood tab ksz ssz a)(hv:g8∈a.z)(b:yg a.z a.size st):∃l,vq5 g8 st=some l/\l.length<=8020/\l≠[]:=by
 obtain⟨_,c⟩:=h.txt g8 hv;obtain⟨⟨e,g⟩,f⟩:=h.fit g8 hv;unfold vq5;cases j:(g8.g==-1)
 ·obtain⟨l,h1,d⟩:=xqb hv b c aj g8.d<|jH;grind [List.length_nil]
 ·obtain⟨t,h1,d,i⟩:=pkf hv b c 0 aj;rw[Qk]at h1;rw[lJ rfl,h1];show ∃l,(if t.size<=1000000 then some t.data.toList else none)=some l/\_;rw[lJ aj];grind [jz7]
theorem pku(h:MachGood tab ksz ssz a)(b:yg a.z a.size st):∀n,n<=a.z.length->∃l,zj7 a.z st n=some l/\l.length<=n*8021/\(0<n->l≠[])
 |0,_=>⟨[],rfl,ay,λh=>aj⟩
 |n+1,hn=>by
  obtain⟨l,h1,j,_⟩:=pku h b n aj;have p:a.z[n]?=some a.z[n]:=wW aj;have hv:a.z[n]∈a.z:=wZ _;obtain⟨t,k,m,c⟩:=xkq h hv b;have i:=pw1 n;have d:=h.few;have g:(l++kk9 n++t).length<=(n+1)*8021:=by grind
  have f:pkn a.z[n]=true:=by obtain⟨⟨s,u⟩,v⟩:=h.fit _ hv;obtain⟨w,_⟩:=h.txt _ hv;have q:=h.env.size;grind [pkn]
  refine⟨_,?_,g,λ_ e=>c (Qe.1 e).2⟩;rw[zj7,h1];grind
theorem vyi(h:MachGood tab ksz ssz a)(c:yg a.z a.size st):∃t,zqh a.z st=some t:=by obtain⟨l,h1,_,b⟩:=pku h c a.z.length<|jH;unfold zqh;rw[h1];show ∃t,(if l=[] then none else some l)=some t;rw[Xy (b h.one)];simp
theorem look_ok(h:MachGood tab ksz ssz a)(c:yg a.z a.size st):∃v,lookO a st=some v/\v.xn=(a.X.filter λs=>qwh a st s==1).map (·.x)/\v.xz=(a.X.filter λs=>!(qwh a st s==1)&&qwh a st s==2).map (·.x):=by obtain⟨t,h1⟩:=vyi h c;have e:=xxs h c a.X (λ_ d=>d) [] [];obtain⟨b,f⟩:=pyq h c a.q (λ_ d=>d) [];simp_all [lookO]
theorem xqg(h:MachGood tab ksz ssz a)(d:yg a.z a.size st):∀(l:List MStep),(∀s∈l,s∈a.X)->(l.map (·.x.toList)).Nodup->∀s∈l,∃r,qw3 a.z a.C st s.x.toList l=some r/\r.2=(qwh a st s==1)/\(r.2=true->yg a.z a.size r.1)
 |x::l,hl,hn,s,b=>by
  rw[Qm,QM]at hn;obtain rfl|b:=tZ.1 b
  ·obtain⟨r,h1,f,g⟩:=out_ok h d<|hl s (rZ ..);rw[qw3,lJ ay,show kwi a.z a.C s.u s.xy st s.guard s.block=some r from h1];simp_all
  ·have c:(x.x.toList==s.x.toList)=false:=by grind
   rw[qw3,c,Xy ay];exact xqg h d l (λy e=>hl y<|jS e) hn.2 s b
theorem xqy{i8:kq3}{i9:List UInt8}:∀(l:List MStep),(∀s∈l,s.x.toList≠i9)->qw3 vars i8 st i9 l=some ([],false)
 |[],_=>rfl
 |x::l,h=>by rw[qw3,Xy (by simp_all)];exact xqy l λy a=>h y<|jS a
def qk2(a:Mach):List ByteArray->List Int->Option (List Int)
 |[],st=>some st
 |t::l,st=>(qw3 a.z a.C st t.toList a.X).bind λr=>if r.2 then qk2 a l r.1 else none
theorem vju(a:Mach)(t:ByteArray):∀(l:List ByteArray)(st st':List Int),qk2 a l st=some st'->qk2 a (l++[t]) st=(qw3 a.z a.C st' t.toList a.X).bind λr=>if r.2 then some r.1 else none
 |[],st,st',h=>by
  grind [qk2]
 |x::l,st,st',h=>by
  rw[qk2]at h;obtain⟨r,h1,b⟩:=wu.1 h;cases c:r.2
  ·simp_all
  ·rw[c,lJ rfl]at b;rw[QU,qk2,h1];show(if r.2 then qk2 a (l++[t]) r.1 else none)=_;rw[c,lJ rfl];exact vju a t l r.1 st' b
theorem vyb(h:MachGood tab ksz ssz a)(us:List ByteArray):∀(l:List ByteArray)(i:Nat)(st st':List Int),yg a.z a.size st->qk2 a l st=some st'->yg a.z a.size st'/\vq9 a (l++us) i st=vq9 a us (i+l.length) st'
 |[],i,st,st',hs,hr=>by
  grind [qk2]
 |t::l,i,st,st',hs,hr=>by
  rw[qk2]at hr;obtain⟨r,h1,b⟩:=wu.1 hr;cases hb:r.2
  ·simp_all
  ·rw[hb,lJ rfl]at b;have c:yg a.z a.size r.1:=by
    by_cases e:∃s∈a.X,s.x.toList=t.toList
    ·obtain⟨s,d,j⟩:=e;obtain⟨q,k1,k2,k3⟩:=xqg h hs a.X (λ_ f=>f) h.nodup s d;simp_all
    grind [xqy]
   obtain⟨g,p⟩:=vyb h us l (i+1) r.1 st' c b;refine⟨g,?_⟩;have m:=h.env.size;have k:=hs.T;grind [vq9]
end
section
structure kz5 (ssz:List UInt8->Nat)(τ:List UInt8->Int->Int):Prop where
 zero:∀s,τ s 0=-1
 rng:∀s (x:Int),0<x->x<=(ssz s:Int)->0<=τ s x/\τ s x<(ssz s:Int)
 inj:∀s (x y:Int),0<=x->x<=(ssz s:Int)->0<=y->y<=(ssz s:Int)->τ s x=τ s y->x=y
def ftT(τ:List UInt8->Int->Int)(ty:VT)(x:Int):Int:=if ty.b==4 then τ ty.y.toList x else if ty.b==5 then x-1 else x
def plX(τ:List UInt8->Int->Int)(arr:Bool)(s:List UInt8)(j:Nat):Nat:=if arr then (τ s ((j:Int)+1)).toNat else j
def msT(τ:List UInt8->Int->Int)(l:List PP)(ms:List Int):List Int:=List.zipWith (λp m=>τ p.Q.x.toList (m+1)) l ms
abbrev Tu:=Nat->(Nat->Nat)×(Int->Int)
structure RSame (t:PTree)(tab:Tab)(mt:kq3)(ssz:List UInt8->Nat)(tu:Tu)(τ:List UInt8->Int->Int):Prop where
 tau:kz5 ssz τ
 mem:∀s,(zl tab s).V=3->(kjj t.p s).2=(kjw mt s).xx
 var:∀s,(zl tab s).V=4->(kjj t.p s).2<0/\zx (zf t) s=(kjw mt s).xx/\tu (kjw mt s).xx=(plX τ (zl tab s).var.K (zl tab s).var.g.x.toList,ftT τ<|kqm tab (zl tab s).var.si)
def RSt(vars:List MVar)(tu:Tu)(S:List (List Int))(st:List Int):Prop:=
 S.length=vars.length/\∀k u,vars[k]?=some u->∃y,S[k]?=some y/\y.length=u.d/\∀j,j<u.d->∃x,st[u.f+j]?=some x/\y[(tu k).1 j]?=some ((tu k).2 x)
theorem kv7(h:ty.b=1\/ty.b=2\/ty.b=3)(x:Int):ftT τ ty x=x:=by grind [ftT]
theorem kvv(h:ty.b=4)(x:Int):ftT τ ty x=τ ty.y.toList x:=by unfold ftT;simp_all
theorem jyg(h:ty.b=5)(x:Int):ftT τ ty x=x-1:=by unfold ftT;simp_all
theorem jqs(h:kz5 g6 τ)(hn:n=if arr then g6 s else 1)(a:j<n):plX τ arr s j<n:=by
 cases arr
 ·exact a
 ·have hn:n=g6 s:=hn;have:=h.rng s ((j:Int)+1) aj aj;show(τ s<|(j:Int)+1).toNat<n;omega
theorem vvl(h:kz5 g6 τ)(hn:n=if arr then g6 s else 1)(hi:i<n)(a:j<n)(e:plX τ arr s i=plX τ arr s j):i=j:=by
 cases arr
 ·exact e
 ·have hn:n=g6 s:=hn;have e:(τ s<|(i:Int)+1).toNat=(τ s<|(j:Int)+1).toNat:=e;have b:=h.rng s ((i:Int)+1) aj aj;have c:=h.rng s ((j:Int)+1) aj aj;have:=h.inj s ((i:Int)+1) ((j:Int)+1) aj aj aj aj aj;omega
def idτ(_:List UInt8)(x:Int):Int:=x-1
def shT(ty:VT):Int:=if ty.b==4||ty.b==5 then 1 else 0
theorem zjz:kz5 g6 idτ:=⟨λ_=>rfl,λs x h1 a=>by unfold idτ;omega,λs x y _ _ _ _ e=>by unfold idτ at e;omega⟩
theorem pj3(ty:VT)(x:Int):ftT idτ ty x=x-shT ty:=by grind [ftT,shT,idτ]
theorem pqk(j:Nat):plX idτ arr s j=j:=by
 cases arr
 ·rfl
 ·show((j:Int)+1-1).toNat=j;omega
theorem pqb:∀(l:List PP)(ms:List Int),ms.length=l.length->msT idτ l ms=ms
 |[],[],_=>rfl
 |p::l,m::ms,h=>by show(m+1-1)::msT idτ l ms=m::ms;rw[pqb l ms (by simp_all),show m+1-1=m by omega]
theorem jwa:∀{l:List PP}{s:List UInt8},fpB l s=true->zx (pq l) s=qw2 l s
 |[],s,h=>by simp[fpB]at h
 |p::l,s,h=>by
  cases b:(p.y.x.toList==s)
  ·have a:fpB l s=true:=by grind [fpB]
   have c:=jwa a;grind [qw2,pq,zx]
  grind [qw2,pq,zx]
theorem vve:∀{l:List PP}{s:List UInt8},fpB l s=false->zx (pq l) s<0
 |[],s,_=>by show(-1:Int)<0;decide
 |p::l,s,h=>by
  cases b:(p.y.x.toList==s)
  ·have a:fpB l s=false:=by grind [fpB]
   have c:=vve a;grind [pq,zx]
  grind [fpB]
variable {t:PTree} {tab:Tab} {vars:List MVar} {mt:kq3} {ksz ssz:List UInt8->Nat} {size:Nat} {l:List PP} {ms st:List Int} {S:List (List Int)} {tu:Tu} {τ:List UInt8->Int->Int}
def pvb(t:PTree)(l:List PP)(ms:List Int)(S:List (List Int))(s:List UInt8):Option Int:=
 if 0<=zx (pq l) s then ms[(zx (pq l) s).toNat]? else if 0<=(kjj t.p s).2 then some (kjj t.p s).2 else if 0<=zx (zf t) s then (S[(zx (zf t) s).toNat]?).bind λy=>y[0]? else none
theorem vj6(h:EnvOk tab vars mt ksz ssz size)(w:ParOk ssz l ms)(B:yg vars size st)(hR:RSame t tab mt ssz tu τ)(v:RSt vars tu S st)(n:Tok)(k:(kjf tab l n).b≠0):∃x,jwy vars mt l ms st n.x.toList=some x/\pvb t l (msT τ l ms) S n.x.toList=some (ftT τ (kjf tab l n) x):=by
 obtain⟨x,a,H⟩:=jww h w B n k;refine⟨x,a,?_⟩;unfold jwy at a;cases b:fpB l n.x.toList
 ·rw[b,Xy ay]at a;unfold pvb;rw[Xy (by have:=vve b;omega)];cases f:((zl tab n.x.toList).V==3)
  ·cases c:((zl tab n.x.toList).V==4&&!(zl tab n.x.toList).var.K)
   ·exact absurd (by unfold kjf;rw[b,f,c];rfl) k
   ·have d:kjf tab l n=kqm tab (zl tab n.x.toList).var.si:=by unfold kjf;simp_all
    rw[rG,su,QD]at c;obtain⟨K,F,G⟩:=hR.var _ c.1;obtain⟨i1,u,p,j⟩:=h.var _ c.1;rw[i1,lJ rfl,p]at a;rw[Xy aj,F,lJ aj,tX,d];obtain⟨y,C,I,g⟩:=v.2 _ _ p;rw[G,c.2]at g;have A:=j.pos;obtain⟨z,J,s⟩:=g 0 aj;rw[C];refine Eq.trans s ?_;grind [small]
  ·have d:kjf tab l n=⟨3,(zl tab n.x.toList).t⟩:=by unfold kjf;simp_all
   rw[su]at f;have i:=hR.mem _ f;obtain⟨i1,_⟩:=h.mem _ f;rw[i1,Xy ay]at a;injection a with a;rw[lJ aj,i,d,<-a];rfl
 ·have d:kjf tab l n=⟨4,(fpP l n.x.toList).Q.x⟩:=by unfold kjf;simp_all
  rw[b,lJ rfl]at a;obtain⟨m,i,a⟩:=wu.1 a;obtain⟨q,e,a⟩:=wX.1 a;obtain⟨D,E⟩:=pys l _ b;unfold pvb msT;rw[jwa b,lJ aj,tX,Zy,i,wW D,d];unfold small at e;split at e
  ·injection e with e;rw[<-a,<-e];show some (τ l[qw2 l n.x.toList].Q.x.toList (m+1))=_;rw[E];rfl
  simp_all
end
section
variable {t:PTree} {tab:Tab} {vars:List MVar} {mt:kq3} {ksz ssz:List UInt8->Nat} {size:Nat} {l:List PP} {ms st:List Int} {S:List (List Int)} {tu:Tu} {τ:List UInt8->Int->Int}
theorem vqq(m:EnvOk tab vars mt ksz ssz size)(B:ParOk ssz l ms)(C:yg vars size st)(hR:RSame t tab mt ssz tu τ)(K:RSt vars tu S st){b:Tok}(G:(zl tab j0.x.toList).V=4)(A:b=zh\/(b.t.toList==mX)=true)(hi:(b.t.toList==[])=false->(zl tab j0.x.toList).var.K=true/\qy5 tab l b (zl tab j0.x.toList).var.g=true)(F:(b.t.toList==[])=true->(zl tab j0.x.toList).var.K=false):∃(u:MVar)(j:Nat)(w:Bool),vars[(kjw mt j0.x.toList).xx]?=some u/\MvOk tab ksz ssz size u (zl tab j0.x.toList).var/\j<u.d/\atO vars mt l ms st u b=some ((u.f:Int)+j,w)/\∃q:Int,vqj t l (msT τ l ms) S j0 b=some ((((kjw mt j0.x.toList).xx:Int),q),w)/\(w=false->q=((tu (kjw mt j0.x.toList).xx).1 j:Nat))/\(w=true->q<0):=by
 obtain⟨T,P,J⟩:=hR.var _ G;obtain⟨_,u,O,s⟩:=m.var _ G;obtain⟨j,w,a,N⟩:=xqp m B C s b hi;refine⟨u,j,w,O,s,N,a,?_⟩;unfold atO at a;unfold vqj;rw[P];obtain rfl|A:=A
 ·rw[show(zh.t.toList==([]:List UInt8))=true by rw[dh];rfl,lJ rfl]at a;injection a with a;injection a with p i;rw[show(zh.t.toList==mX)=false by rw[dh];rfl,Xy ay];refine⟨0,by rw[i],λ_=>?_,λe=>by simp_all⟩;rw[J,F (by rw[dh];rfl)];show(0:Int)=((j:Nat):Int);omega
 ·have v:(b.t.toList==([]:List UInt8))=false:=by simp_all
  obtain⟨z,c⟩:=hi v;unfold qy5 at c;rw[rG,su,su]at c;obtain⟨x,I,f⟩:=vj6 m B C hR K b aj;obtain⟨x',d,E⟩:=jww m B C b aj;rw[I]at d;injection d with d;subst d;have k:=E.set c.1;rw[kvv c.1,c.2]at f;rw[c.2]at k;rw[v,Xy ay,I]at a;simp only[rQ]at a;rw[A,lJ rfl];have H:(if 0<=zx (pq l) b.x.toList then (msT τ l ms)[(zx (pq l) b.x.toList).toNat]? else if 0<=zx (zf t) b.x.toList then (S[(zx (zf t) b.x.toList).toNat]?).bind λy=>y[0]? else none)=some (τ (zl tab j0.x.toList).var.g.x.toList x):=by
   unfold pvb at f;split at f
   ·simp_all
   ·rename_i L;rw[Xy L];split at f
    ·rename_i R;exfalso
     have M:fpB l b.x.toList=false:=by grind [jwa]
     have g:=c.1;unfold kjf at g;rw[M,Xy ay]at g;split at g
     ·cases g
     ·split at g
      ·rename_i D;rw[rG,su]at D;have:=(hR.var _ D.1).1;omega
      ·cases g
    omega
  rw[H];cases h:(x==0)
  ·rw[h,Xy ay]at a;rw[QG]at h;obtain⟨_,_,a⟩:=wu.1 a;obtain⟨_,_,a⟩:=wX.1 a;injection a with p i;have Q:=hR.tau.rng _ x aj k.2;refine⟨τ (zl tab j0.x.toList).var.g.x.toList x,?_,λ_=>?_,λe=>by simp_all⟩
   ·simp_all
   ·rw[J,z];show _=((τ (zl tab j0.x.toList).var.g.x.toList<|(j:Int)+1).toNat:Int);rw[show(j:Int)+1=x by omega];omega
  ·rw[h,lJ rfl]at a;rw[su]at h;injection a with a;injection a with p i;rw[h,hR.tau.zero];simp_all
theorem pww(k:EnvOk tab vars mt ksz ssz size)(B:ParOk ssz l ms)(F:yg vars size st)(hR:RSame t tab mt ssz tu τ)(v:RSt vars tu S st)(hN:∀s,(zl tab s).V=4->fpB l s=false)(n i:Tok)(O:i=zh\/(i.t.toList==mX)=true)(G:(kxj tab l n i).b≠0)(r:Int×Bool)(b:jql vars mt l ms st n i=some r):∃q:Int,vvh t l (msT τ l ms) S n i=some (q,r.2)/\-2000<=q/\q<=2000/\(r.2=false->q=ftT τ (kxj tab l n i) r.1):=by
 obtain⟨r',h,c⟩:=pwv k B F n i G;rw[b]at h;injection h with h;subst h;have U:-2000<=ftT τ (kxj tab l n i) r.1/\ftT τ (kxj tab l n i) r.1<=2000:=by
  obtain e|e|e|e|e:=c.b
  ·have:=c.tru e;rw[kv7 (.inl e)];omega
  ·have:=c.xx e;rw[kv7 (.inr (.inl e))];omega
  ·have:=c.kin e;have:=k.kb (kxj tab l n i).y.toList;rw[kv7 (.inr (.inr e))];omega
  ·have h1:=c.set e;have:=k.sb (kxj tab l n i).y.toList;rw[kvv e];by_cases L:r.1=0
   ·rw[L,hR.tau.zero];omega
   ·have:=hR.tau.rng _ r.1 aj h1.2;omega
  ·have:=c.non e;rw[jyg e];omega
 unfold jql at b;cases m:(i.t.toList==[])
 · -- a place of an array
  rw[m,Xy ay]at b;have d:=G;unfold kxj at d;rw[m]at d;simp only[JD,Xw]at d;cases f:(zl tab n.x.toList).var.K
  ·rw[f]at d;exact absurd rfl d
  ·rw[f]at d;simp only[Xw]at d;cases p:qy5 tab l i (zl tab n.x.toList).var.g
   ·rw[p]at d;exact absurd rfl d
   ·have T:kxj tab l n i=kqm tab (zl tab n.x.toList).var.si:=by unfold kxj;simp_all
    have g:=k.K _ f;obtain⟨u,j,w,H,V,N,M,q,P,C,W⟩:=vqq k B F hR v g O (λ_=>⟨f,p⟩) (λe=>by simp_all);obtain⟨v1,v2,v3⟩:=hR.var _ g;rw[H]at b;simp only[rQ]at b;rw[M]at b;simp only[rQ]at b;rw[Xy aj]at b;obtain⟨z,hz,b⟩:=wu.1 b;obtain⟨R,Z,E⟩:=wX.1 b;have K:R=z:=by grind [small]
    subst K;subst E;unfold vvh;have A:¬0<=zx (pq l) n.x.toList:=by have:=vve<|hN _ g;omega
    rw[Xy A,Xy aj,P];simp only[rQ];cases w
    ·have D:=C rfl;rw[D,Xy aj,lJ aj,tX,tX];obtain⟨y,Q,Y,J⟩:=v.2 _ _ H;obtain⟨x,X,I⟩:=J j N;rw[Q];simp only[rQ];rw[I];have e:((u.f:Int)+j).toNat=u.f+j:=aj;simp_all
    simp_all
 grind [kxj,vj6,vvh,pvb,vqj]
end
theorem kw5{g:Nat->α->List Tok}(h:jf g l k=[])(i:Nat)(hi:i<l.length):g (k+i) l[i]=[]:=by apply List.eq_nil_iff_forall_not_mem.2;intro y a;have:=(zo (g:=g) (y:=y) l k).2 ⟨i,hi,a⟩;simp_all
theorem kv2(h:kqd c j0=[]):c=false:=by
 cases c
 ·rfl
 ·cases h
structure MdBnd (m:MdL):Prop where
 j:m.j.length<=2
 size:∀s∈m.j,2<=mg s.size.x/\mg s.size.x<=3
 p:m.p.length<=2
 xy:∀k∈m.p,k.i.length<=4
 z:m.z.length<=4
 R:∀v∈m.z,v.si.I=1->1<=mg v.si.R.x/\mg v.si.R.x<=3
 l:m.l.length<=5
 q:m.q.length<=3
 pars:∀r∈m.l++m.q,r.u.length<=2
theorem zjr(h:∀i,i<l.length->decide ((n:Int)<=i)=false):l.length<=n:=by grind
theorem xv3(h:qz2 m<0):MdBnd m:=by
 rw[jqi]at h;have e:=jj7 h;rw[Qe,Qe,Qe,Qe]at e;obtain⟨⟨⟨⟨b,c⟩,d⟩,f⟩,e5⟩:=e;have f1:=λi hi=>Qe.1<|kw5 b i hi
 have f2:=λi hi=>Qe.1<|kw5 c i hi
 have f3:=λi hi=>Qe.1<|kw5 d i hi
 have f4:=λi hi=>Qe.1<|kw5 f i hi
 have f5:=λi hi=>Qe.1<|kw5 e5 i hi
 have par:∀l:List PP,jf qP l 0=[]->l.length<=2:=λl q=>zjr (n:=2) λi hi=>by have:=kv2<|kw5 q i hi;simp_all
 refine⟨zjr (n:=2) λi hi=>by simpa using kv2 (f1 i hi).1,λs t=>?_,zjr (n:=2) λi hi=>by simpa using kv2 (f2 i hi).1,λk p=>?_,zjr (n:=4) λi hi=>by simpa using kv2 (f3 i hi).1,λv hv u=>?_,zjr (n:=5) λi hi=>by simpa using kv2 (f4 i hi).1,zjr (n:=3) λi hi=>by simpa using kv2 (f5 i hi).1,λr a=>?_⟩
 ·obtain⟨i,hi,rfl⟩:=wG t;have:=kv2 (f1 i hi).2;unfold pzt at this;simp_all
 ·obtain⟨i,hi,rfl⟩:=wG p;exact zjr (n:=4) λj g=>by have:=kv2<|kw5 (f2 i hi).2 j g;simp_all
 ·obtain⟨i,hi,rfl⟩:=wG hv;have:=kv2 (f3 i hi).2;grind [pzt]
 ·obtain a|a:=rV.1 a
  ·obtain⟨i,hi,rfl⟩:=wG a;simp_all
  ·obtain⟨i,hi,rfl⟩:=wG a;simp_all
structure Right (t:PTree):Prop where
 bnd:MdBnd (ql t)
 xt:NamesFine t
 typ:qqf (qm<|ql t) (ql t)=true
 M:∃L,qyw L t/\kq6 L
theorem qk7(h:(qq4 a9).1=0):Right (uz (jv a9).1).1:=by
 unfold qq4 at h;split at h
 ·cases h
 ·rename_i f;split at h
  ·cases h
  ·rename_i d;split at h
   ·cases h
   ·rename_i c;have b:kq6 (jv a9).1:=kyh aj d;have a:=tree_good b c;unfold zzx at h;split at h
    ·cases h
    ·rename_i g;split at h
     ·cases h
     ·rename_i i;split at h
      ·rename_i e;refine⟨xv3 aj,jj9 ?_,e,⟨_,a,b⟩⟩;rw[<-zyy a.z a.l a.q (vqr (a.pw b))];omega
      omega
def qwc:List (Tok×Mean)->kq3->Option kq3
 |[],t=>some t
 |x::l,t=>(zku t x.1.x x.2).bind λa=>qwc l a
theorem jqh:∀(a b:List (Tok×Mean)) (t:kq3),qwc (a++b) t=(qwc a t).bind λc=>qwc b c
 |[],b,t=>rfl
 |x::a,b,t=>by
  show(zku t x.1.x x.2).bind (λc=>qwc (a++b) c)=((zku t x.1.x x.2).bind λc=>qwc a c).bind λc=>qwc b c
  cases zku t x.1.x x.2 with
  |none=>rfl
  |some c=>exact jqh a b c
theorem pqx:∀(l:List (Tok×Mean)) (t:kq3),(t.map (·.1.toList)++l.map (·.1.x.toList)).Nodup->(∀x∈l,x.1.x.size<=1000)->qwc l t=some (t++l.map (λx=>(x.1.x,x.2)))
 |[],t,_,_=>by simp[qwc]
 |x::l,t,hn,hs=>by
  have a:zku t x.1.x x.2=some (t++[(x.1.x,x.2)]):=by grind [zku]
  rw[qwc,a];show qwc l (t++[(x.1.x,x.2)])=_;rw[pqx l _ (by simp_all) (λy b=>hs y (jS b))];simp
def jy8:List Tok->Nat->List (Tok×Mean)
 |[],_=>[]
 |x::l,i=>(x,⟨false,i⟩)::jy8 l (i+1)
def vqu:List VrT->Nat->List (Tok×Mean)
 |[],_=>[]
 |v::l,i=>(v.y,⟨true,i⟩)::vqu l (i+1)
theorem vz6:∀(l:List Tok)(i:Nat)(t:kq3),jjq l i t=qwc (jy8 l i) t
 |[],i,t=>rfl
 |x::l,i,t=>by
  show(zku t x.x ⟨false,i⟩).bind (λa=>jjq l (i+1) a)=(zku t x.x ⟨false,i⟩).bind λa=>qwc (jy8 l<|i+1) a
  congr 1
  funext a
  exact vz6 l (i+1) a
theorem jv8:∀(l:List PKind)(t:kq3),qxb l t=qwc (l.flatMap λk=>jy8 k.i 0) t
 |[],t=>rfl
 |k::l,t=>by
  rw[qxb,Jy,jqh,vz6];congr 1
  funext t'
  exact jv8 l t'
theorem jka:∀(l:List Tok)(i:Nat),(jy8 l i).map (·.1)=l
 |[],i=>rfl
 |x::l,i=>by rw[jy8,Qm,jka l (i+1)]
theorem jxm:∀(l:List VrT)(i:Nat),(vqu l i).map (·.1)=l.map (·.y)
 |[],i=>rfl
 |v::l,i=>by rw[vqu,Qm,jxm l (i+1)];rfl
theorem jy7:∀(l:List Tok)(i:Nat)(j:Nat)(h:j<l.length),(l[j],(⟨false,i+j⟩:Mean))∈jy8 l i
 |x::l,i,0,_=>rZ ..
 |x::l,i,j+1,h=>by rw[jy8];have:=jy7 l (i+1) j (by simp_all);grind
theorem zk2:∀(l:List VrT)(i:Nat)(j:Nat)(h:j<l.length),(l[j].y,(⟨true,i+j⟩:Mean))∈vqu l i
 |x::l,i,0,_=>rZ ..
 |x::l,i,j+1,h=>by rw[vqu];have:=zk2 l (i+1) j (by simp_all);grind
def qx4(m:MdL):List (Tok×Mean):=(m.p.flatMap λk=>jy8 k.i 0)++vqu m.z 0
def kzg(m:MdL):kq3:=(qx4 m).map λx=>(x.1.x,x.2)
theorem vye(c:Bool):0<=kvq c/\kvq c<=1:=by cases c<;>decide
theorem xwx(o:List UInt8)(a c:Int)(h1:-b5<=a)(b:a<=b5)(d:-j2<=c)(e:c<=j2):-(b5+j2+1)<=opI o a c/\opI o a c<=b5+j2+1:=by grind [kvq,opI]
theorem xxo(h1:g9.b=y.b)(b:g9.y.toList=y.y.toList)(a:Int):ftT τ g9 a=ftT τ y a:=by unfold ftT;simp_all
theorem xqj(c:kz5 g7 τ)(g:zvq g9 y=true)(f:VIn g6 g7 B g9 b5)(hb:VIn g6 g7 B y j2):(ftT τ g9 b5==ftT τ y j2)=(b5==j2):=by
 rw[Bool.eq_iff_iff,su,su];unfold zvq kwx at g;simp only[Q8,rG,su,QD,QG]at g;obtain(((⟨⟨⟨h1,a⟩,_⟩,_⟩)|⟨h1,a⟩)|⟨h1,a⟩):=g
 ·rw[xxo h1.symm a.symm];obtain e|e|e|e|e:=f.b
  ·rw[kv7 (.inl e),kv7 (.inl e)]
  ·grind [kv7]
  ·grind [kv7]
  ·have b:=f.set e;have d:=hb.set<|h1.symm.trans e;rw[<-a]at d;rw[kvv e,kvv e];exact⟨λe=>c.inj _ _ _ b.1 b.2 d.1 d.2 e,λe=>by rw[e]⟩
  omega
 ·have b:=f.set h1;have d:=hb.non a;rw[kvv h1,jyg a,d];exact⟨λe=>c.inj _ _ _ b.1 b.2 aj aj (by rw[e,c.zero];rfl),λe=>by rw[e,c.zero];rfl⟩
 ·have b:=hb.set a;have d:=f.non h1;rw[kvv a,jyg h1,d];exact⟨λe=>(c.inj _ _ _ b.1 b.2 aj aj (by rw[<-e,c.zero];rfl)).symm,λe=>by rw[<-e,c.zero];rfl⟩
theorem qqh(hn:b5=1\/b5=2)(h:(kjc b5 c).b≠0)(x:Int):c=true/\ftT τ (kjc b5 c) x=x:=by obtain⟨h1,a⟩:=zx7 h;exact⟨h1,by rw[a];obtain rfl|rfl:=hn<;>rfl⟩
theorem xz8(m:kz5 g7 τ){d:VT}{j k:Int}(l:s∈qyq)(e:(zji (opN s) g9 d).b≠0)(g:VIn g6 g7 B g9 b5)(i:VIn g6 g7 B d j2)(b:j=ftT τ g9 b5)(c:k=ftT τ d j2):opI s j k=ftT τ (zji (opN s) g9 d) (kxa (opN s) b5 j2):=by
 have one:∀{x y:VT}{f:Int},(f=1\/f=2)->(x.b==f&&y.b==f)=true->x.b=f/\y.b=f/\(x.b=1\/x.b=2\/x.b=3)/\(y.b=1\/y.b=2\/y.b=3):=λp h=>by grind
 simp only[qyq,tZ,Qu,or_false]at l;obtain rfl|rfl|rfl|rfl|rfl|rfl|rfl:=l
 ·obtain⟨h1,a⟩:=qqh (τ:=τ) (.inl rfl) (e:(kjc 1<|g9.b==1&&d.b==1).b≠0)<|max b5 j2;obtain⟨f1,f2,f3,f4⟩:=one (.inl rfl) h1;rw[kv7 f3]at b;rw[kv7 f4]at c;refine Eq.trans ?_ a.symm;rw[b,c];obtain rfl|rfl:=g.tru f1<;>obtain rfl|rfl:=i.tru f2<;>decide
 ·obtain⟨h1,a⟩:=qqh (τ:=τ) (.inl rfl) (e:(kjc 1<|g9.b==1&&d.b==1).b≠0)<|min b5 j2;obtain⟨f1,f2,f3,f4⟩:=one (.inl rfl) h1;rw[kv7 f3]at b;rw[kv7 f4]at c;refine Eq.trans ?_ a.symm;rw[b,c];obtain rfl|rfl:=g.tru f1<;>obtain rfl|rfl:=i.tru f2<;>decide
 ·obtain⟨h1,a⟩:=qqh (τ:=τ) (.inl rfl) (e:(kjc 1<|zvq g9 d).b≠0)<|kvq (b5==j2);refine Eq.trans ?_ a.symm;show kvq (j==k)=_;rw[b,c,xqj m h1 g i]
 ·obtain⟨h1,a⟩:=qqh (τ:=τ) (.inl rfl) (e:(kjc 1<|zvq g9 d).b≠0)<|kvq (!(b5==j2));refine Eq.trans ?_ a.symm;show kvq (!(j==k))=_;rw[b,c,xqj m h1 g i]
 ·obtain⟨h1,a⟩:=qqh (τ:=τ) (.inl rfl) (e:(kjc 1<|g9.b==2&&d.b==2).b≠0)<|kvq (decide (b5<j2));obtain⟨_,_,f3,f4⟩:=one (.inr rfl) h1;rw[kv7 f3]at b;rw[kv7 f4]at c;rw[b,c];exact a.symm
 ·obtain⟨h1,a⟩:=qqh (τ:=τ) (.inr rfl) (e:(kjc 2<|g9.b==2&&d.b==2).b≠0)<|b5+j2;obtain⟨_,_,f3,f4⟩:=one (.inr rfl) h1;rw[kv7 f3]at b;rw[kv7 f4]at c;rw[b,c];exact a.symm
 ·obtain⟨h1,a⟩:=qqh (τ:=τ) (.inr rfl) (e:(kjc 2<|g9.b==2&&d.b==2).b≠0)<|b5-j2;obtain⟨_,_,f3,f4⟩:=one (.inr rfl) h1;rw[kv7 f3]at b;rw[kv7 f4]at c;rw[b,c];exact a.symm
section
variable {t:PTree} {tab:Tab} {vars:List MVar} {mt:kq3} {ksz ssz:List UInt8->Nat} {size:Nat} {l:List PP} {ms st:List Int} {S:List (List Int)} {tu:Tu} {τ:List UInt8->Int->Int}
theorem qjr(z:EnvOk tab vars mt ksz ssz size)(B:ParOk ssz l ms)(C:yg vars size st)(hR:RSame t tab mt ssz tu τ)(K:RSt vars tu S st)(hN:∀s,(zl tab s).V=4->fpB l s=false):∀(x:PX),kx9 x->zxs x->kk5 x<=4000->(gy tab l x).b≠0->∀r,qqv vars mt l ms st x=some r ->
  ∃q:Int,zqy t l (msT τ l ms) S x=some (q,r.2)/\-(2000*(kk5 x:Int))<=q/\q<=2000*(kk5 x:Int)/\(r.2=false->q=ftT τ (gy tab l x) r.1)
 |.nil,h,_,_,_,_,_=>h.elim
 |.node i j x a c,hw,hnum,hsz,ht,r,hr=>by
  have U:kk5 (.node i j x a c)=kk5 a+kk5 c+1:=rfl;obtain⟨W,y,G⟩:=hnum;rw[U]at hsz |-;obtain⟨V,rfl,rfl⟩|⟨A,u,rfl⟩|⟨A,u,v⟩:=hw
  ·have hv:zqy t l (msT τ l ms) S (.node i j x .nil .nil)=opR t l (msT τ l ms) S x (0,false) (0,false):=rfl;rw[hv];unfold opR;obtain(h|h|h)|⟨h,n1,n2⟩|⟨h,h1,X⟩:=V
   ·have b:some ((1:Int),false)=some r:=by rw[qqv,h]at hr;exact hr
    have f:gy tab l (.node i j x .nil .nil)=⟨1,⟨#[]⟩⟩:=by rw[gy,h];rfl
    injection b with b;subst b;rw[h];exact⟨1,rfl,aj,aj,λ_=>by rw[f];rfl⟩
   ·have b:some ((0:Int),false)=some r:=by rw[qqv,h]at hr;exact hr
    have f:gy tab l (.node i j x .nil .nil)=⟨1,⟨#[]⟩⟩:=by rw[gy,h];rfl
    injection b with b;subst b;rw[h];exact⟨0,rfl,aj,aj,λ_=>by rw[f];rfl⟩
   ·have b:some ((0:Int),false)=some r:=by rw[qqv,h]at hr;exact hr
    have f:gy tab l (.node i j x .nil .nil)=⟨5,⟨#[]⟩⟩:=by rw[gy,h];rfl
    injection b with b;subst b;rw[h];exact⟨-1,rfl,aj,aj,λ_=>by rw[f];rfl⟩
   ·have b:some (x.n,false)=some r:=by rw[qqv,h]at hr;exact hr
    have f:gy tab l (.node i j x .nil .nil)=⟨2,⟨#[]⟩⟩:=by rw[gy,h];rfl
    injection b with b;subst b;rw[h];exact⟨x.n,rfl,aj,aj,λ_=>by rw[f];rfl⟩
   ·have b:jql vars mt l ms st x.y x.c=some r:=by rw[qqv,h]at hr;exact hr
    have f:gy tab l (.node i j x .nil .nil)=kxj tab l x.y x.c:=by rw[gy,h];rfl
    grind [pww]
  ·have f:gy tab l (.node i j x a .nil)=kjc 1 ((gy tab l a).b==1):=by rw[gy,A];rfl
   rw[f]at ht |-;have v:=(zx7 ht).1;rw[su]at v;have b:((qqv vars mt l ms st a).bind λp=>(small p.1).map λ_=>(1-p.1,p.2))=some r:=by rw[qqv,A]at hr;exact hr
   obtain⟨p,m,b⟩:=wu.1 b;obtain⟨_,_,b⟩:=wX.1 b;subst b;obtain⟨p',d,E⟩:=val_ok z B C a u.xv y u.some aj aj;rw[m]at d;injection d with d;subst d;have Q:=E.tru v;obtain⟨w,I,b1,O,e⟩:=qjr z B C hR K hN a u y aj aj p m;refine⟨kvq<|w==0,?_,by have:=vye<|w==0;omega,by have:=vye<|w==0;omega,λL=>?_⟩
   ·show(zqy t l (msT τ l ms) S a).bind (λp=>(some ((0:Int),false)).bind λq=>opR t l (msT τ l ms) S x p q)=_;grind [opR,opI,kw1]
   ·have:=e L;rw[kv7 (.inl v)]at this;rw[(qqh (.inl rfl) ht _).2,this];obtain q|q:=Q<;>rw[q]<;>rfl
  ·have F:6<=opN x.op.toList:=by simp only[qyq,tZ,Qu,or_false]at A;obtain e|e|e|e|e|e|e:=A<;>rw[e]<;>decide
   have f:gy tab l (.node i j x a c)=zji (opN x.op.toList) (gy tab l a) (gy tab l c):=by grind [gy]
   rw[f]at ht |-;obtain⟨ga,gc,_⟩:=vk5 ht;have b:((qqv vars mt l ms st a).bind λp=>(qqv vars mt l ms st c).bind λq=>(small p.1).bind λ_=>(small q.1).map λ_=>(kxa (opN x.op.toList) p.1 q.1,p.2||q.2))=some r:=by grind [qqv]
   obtain⟨p,m,b⟩:=wu.1 b;obtain⟨q,J,b⟩:=wu.1 b;obtain⟨_,_,b⟩:=wu.1 b;obtain⟨_,_,b⟩:=wX.1 b;subst b;obtain⟨p',d,E⟩:=val_ok z B C a u.xv y u.some aj ga;rw[m]at d;injection d with d;subst d;obtain⟨Z,g,M⟩:=val_ok z B C c v.xv G v.some aj gc;rw[J]at g;injection g with g;subst g;obtain⟨w,I,b1,O,R⟩:=qjr z B C hR K hN a u y aj ga p m;obtain⟨N,P,b3,b4,T⟩:=qjr z B C hR K hN c v G aj gc q J;have hb:=xwx x.op.toList w N b1 O b3 b4;refine⟨opI x.op.toList w N,?_,aj,aj,λL=>?_⟩
   ·show(zqy t l (msT τ l ms) S a).bind (λp=>(zqy t l (msT τ l ms) S c).bind λq=>opR t l (msT τ l ms) S x p q)=_;rw[I,P];show opR t l (msT τ l ms) S x (w,p.2) (N,q.2)=_;unfold opR;have k:∀o∈[nJ,nZ,mG,mW,(ng:List UInt8)],(x.op.toList==o)=false:=by intro Y H;rw[QG];intro e;rw[e]at F;simp only[tZ,Qu,or_false]at H;obtain rfl|rfl|rfl|rfl|rfl:=H<;>exact absurd F ak
    rw[k _ ay,k _ ay,k _ ay,k _ ay,k _ ay];grind [small]
   ·have D:(p.2||q.2)=false:=L;rw[Qi]at D;exact xz8 hR.tau A ht (E.mono (by omega:200*kk5 a<=1000000)) (M.mono (by omega:200*kk5 c<=1000000)) (R D.1)<|T D.2
end
section
variable {t:PTree} {tab:Tab} {vars:List MVar} {mt:kq3} {ksz ssz:List UInt8->Nat} {size:Nat} {l:List PP} {ms st:List Int} {S:List (List Int)} {tu:Tu} {τ:List UInt8->Int->Int}
def pkj(t:PTree)(tab:Tab)(vars:List MVar)(mt:kq3):Prop:=∀s,(zl tab s).V=4->∃pv u,t.z[(kjw mt s).xx]?=some pv/\vars[(kjw mt s).xx]?=some u /\
 ((kqm tab (zl tab s).var.si).b=2->∀x:Int,kky pv x=(decide (x<0)||decide ((u.a.length:Int)<=x)))/\((kqm tab (zl tab s).var.si).b≠2->∀x:Int,kky pv x=false)
theorem RSt.put(h:RSt vars tu S st)(f:qzm vars)(a:vars[k]?=some g8)(p:S[k]?=some i0)(t:j<g8.d)(g:g8.f+g8.d<=st.length)(l:∀i,i<g8.d->(tu k).1 j=(tu k).1 i->j=i)(x:Int):RSt vars tu (S.set k (i0.set ((tu k).1 j) ((tu k).2 x))) (st.set (g8.f+j) x):=by
 refine⟨lM,λm v hv=>?_⟩;obtain⟨z,u,b,c⟩:=h.2 m v hv;have s:=(rY.1 p).1;by_cases e:k=m
 ·subst e;rw[a]at hv;injection hv with hv;subst hv;grind
 ·refine⟨z,by simp_all,b,λi hi=>?_⟩;obtain⟨x',h1,d⟩:=c i hi;refine⟨x',?_,d⟩;rw[Z8 ?_]
  ·exact h1
  ·obtain q|q:=f k m g8 v a hv e<;>omega
theorem xqc(O:EnvOk tab vars mt ksz ssz size)(hd:qzm vars)(Q:ParOk ssz l ms)(E:yg vars size st)(hR:RSame t tab mt ssz tu τ)(hT:pkj t tab vars mt)(B:RSt vars tu S st)(hN:∀s,(zl tab s).V=4->fpB l s=false){j6:SLab}(K:j6.N=.node 0 0 i2 .nil .nil)(W:i2.op.toList=ng)(D:i2.c=zh\/(i2.c.t.toList==mX)=true)(T:isNil j6.A=true)(G:kx9 j6.value)(hn:zxs j6.value)(H:kk5 j6.value<=4000)(ht:jwd tab l j6.N j6.value=true){I:List Int×Bool}(d:vk9 vars mt l ms st i2.y i2.c j6.value=some I):∃S',vyj t l (msT τ l ms) S j6=some (S',I.2)/\(I.2=false->RSt vars tu S' I.1):=by
 rw[K]at ht;obtain⟨a,b,L⟩:=vjq ht;rw[zk3 tab l W]at b;rw[show qj9 (.node 0 0 i2 .nil .nil)=i2.y.x from rfl]at a;have U:(i2.c.t.toList==[])=false->(zl tab i2.y.x.toList).var.K=true/\qy5 tab l i2.c (zl tab i2.y.x.toList).var.g=true:=λD=>by
  unfold kxj at b;rw[D]at b;cases m:(zl tab i2.y.x.toList).var.K
  ·rw[m]at b;exact absurd rfl b
  ·cases hx:qy5 tab l i2.c (zl tab i2.y.x.toList).var.g
   ·rw[m,hx]at b;exact absurd rfl b
   simp
 have a6:kxj tab l i2.y i2.c=kqm tab (zl tab i2.y.x.toList).var.si:=by
  cases a8:(i2.c.t.toList==[])
  ·grind [kxj]
  ·have e:kxj tab l i2.y i2.c=kjf tab l i2.y:=by unfold kxj;simp_all
   rw[e]at b |-;unfold kjf at b |-;rw[hN _ a,Xy ay,Xy (by simp_all)]at b |-;split at b
   ·simp_all
   ·exact absurd rfl b
 have V:(i2.c.t.toList==[])=true->(zl tab i2.y.x.toList).var.K=false:=λD=>by
  cases m:(zl tab i2.y.x.toList).var.K
  ·rfl
  ·have M:(kjf tab l i2.y).b≠0:=by grind [kxj]
   unfold kjf at M;rw[hN _ a,a,m]at M;exact absurd rfl M
 obtain⟨u,j,w,F,c,P,m,q,hq,Y,a9⟩:=vqq O Q E hR B a D U V;obtain⟨pv,u',X,k,aA,a1⟩:=hT _ a;rw[F]at k;injection k with k;subst k;obtain⟨v1,v2,v3⟩:=hR.var _ a;obtain⟨p,A,g⟩:=val_ok O Q E j6.value G.xv hn G.some H L;obtain⟨J,Z,b1,b2,e1⟩:=qjr O Q E hR B hN j6.value G hn H L p A;unfold vk9 at d;rw[A]at d;simp only[rQ]at d;rw[F]at d;simp only[rQ]at d;rw[m]at d;simp only[rQ]at d;have N:vyj t l (msT τ l ms) S j6=if (p.2||w)||kky pv J then some (S,true) else (S[(kjw mt i2.y.x.toList).xx]?).bind λy=>if decide (q<0)||decide ((y.length:Int)<=q) then none else some (S.set (kjw mt i2.y.x.toList).xx<|y.set q.toNat J,false):=by unfold vyj;rw[K];dsimp only;rw[G.some,T];simp only[JV,Qg,ru,Xv];rw[Z];simp only[rQ];rw[hq];simp only[rQ];rw[Xy aj,tX,X];rfl
 rw[N];cases v:(p.2||w)
 ·rw[Qi]at v;have eq:=Y v.2;have x:(gy tab l j6.value).b=(kqm tab (zl tab i2.y.x.toList).var.si).b/\(gy tab l j6.value).y.toList=(kqm tab (zl tab i2.y.x.toList).var.si).y.toList\/(kqm tab (zl tab i2.y.x.toList).var.si).b=4/\(gy tab l j6.value).b=5:=by grind [zk3,jwd,kwx]
  have R:J=(tu (kjw mt i2.y.x.toList).xx).2 p.1:=by
   rw[v3,e1 v.1];obtain⟨h1,h⟩|⟨h1,h⟩:=x
   ·exact xxo h1 h _
   ·show _=ftT τ _ _;rw[jyg h,kvv h1,g.non h,hR.tau.zero];rfl
  have C:kky pv J=(decide (p.1<0)||decide ((u.a.length:Int)<=p.1)):=by
   by_cases f2:(kqm tab (zl tab i2.y.x.toList).var.si).b=2
   ·grind [kv7]
   ·rw[a1 f2];have a0:0<=p.1/\p.1<(u.a.length:Int):=by
     obtain⟨h1,h⟩|⟨h1,h⟩:=x
     ·obtain f|f|f|f:=xkc tab (zl tab i2.y.x.toList).var.si
      ·have:=g.tru<|h1.trans f;have:=c.tru f;omega
      ·omega
      ·have:=g.kin<|h1.trans f;have:=c.kin f;simp_all
      ·have:=g.set<|h1.trans f;have:=c.set f;grind
     ·have:=g.non h;have:=c.set h1;omega
    simp_all
  rw[QX,C];cases hc:(decide (p.1<0)||decide ((u.a.length:Int)<=p.1))
  ·have a7:0<=p.1/\p.1<(u.a.length:Int):=by simp_all
   have a4:=c.fit;have a5:=E.T;have a3:=c.few;rw[Xy (by simp_all),Xy (by simp_all)]at d;injection d with d;subst d;obtain⟨y,hy,aB,a2⟩:=B.2 _ _ F;obtain⟨z,_,H⟩:=a2 j P;have aC:=(rY.1 H).1;rw[Xy ay,hy];simp only[rQ];rw[eq,Xy (by simp_all),tX];refine⟨_,by rw[v.1,v.2];rfl,λ_=>?_⟩;show RSt vars tu _ (st.set ((u.f:Int)+(j:Nat)).toNat p.1);rw[show((u.f:Int)+(j:Nat)).toNat=u.f+j by omega,R];refine B.put hd F hy P aj (λi hi e=>?_) p.1;rw[v3]at e;exact vvl hR.tau c.cnt P hi e
  grind
 grind
end
section
variable {t:PTree} {tab:Tab} {vars:List MVar} {mt:kq3} {ksz ssz:List UInt8->Nat} {size:Nat} {l:List PP} {ms st:List Int} {S:List (List Int)} {tu:Tu} {τ:List UInt8->Int->Int}
theorem pzy(h:kx9 (.node i j i2 .nil .nil))(b:i2.op.toList=ng):i2.c=zh\/(i2.c.t.toList==mX)=true:=by
 obtain⟨a,_⟩|⟨h,_⟩|⟨h,_⟩:=h
 ·obtain(h|h|h)|⟨h,_⟩|⟨_,_,h⟩:=a
  ·simp_all
  ·simp_all
  ·simp_all
  ·simp_all
  omega
 ·simp_all
 ·rw[b]at h;exact absurd h ak
theorem zxy(k:EnvOk tab vars mt ksz ssz size)(u:qzm vars)(m:ParOk ssz l ms)(hR:RSame t tab mt ssz tu τ)(A:pkj t tab vars mt)(hN:∀s,(zl tab s).V=4->fpB l s=false):∀(b:PB),kkz b->jze b->kkj tab l b=true->∀st S,yg vars size st->RSt vars tu S st->∀r,doO vars mt l ms b st=some r ->
  ∃S',doR t l (msT τ l ms) b S=some (S',r.2)/\(r.2=false->RSt vars tu S' r.1)
 |.nil,_,_,_,st,S,_,hS,r,d=>by
  rw[doO]at d;injection d with d;subst d;exact⟨S,rfl,λ_=>hS⟩
 |.node i j a .nil n,hw,hn,ht,st,S,hs,hS,r,d=>by
  obtain⟨⟨U,x,C,B⟩,hv,O,D⟩:=hw;obtain⟨⟨n1,n2⟩,R⟩:=hn;rw[kkj,rG]at ht;rw[C]at U;rw[doO,show kyk a.N=(x.y,x.c) by rw[C];rfl]at d;obtain⟨p,f,d⟩:=wu.1 d;obtain⟨q,K,d⟩:=wX.1 d;subst d;have v:yg vars size p.1:=by obtain⟨p',h1,h2⟩:=xqd k u m hs B hv.xv n1 hv.some n2 (by simp_all);simp_all
  obtain⟨y,Z,e2⟩:=xqc k u m hs hR A hS hN C B (pzy U B) (by rw[O];rfl) hv n1 n2 ht.1 f;rw[doR,Z];simp only[rQ];cases J:p.2
  ·rw[Xy ay];obtain⟨L,M,N⟩:=zxy k u m hR A hN n D R ht.2 p.1 y v (e2 J) q K;simp_all
  simp
 |.node i j a (.node _ _ _ th el) n,hw,hn,ht,st,S,hs,hS,r,d=>by
  obtain⟨E,_,_,⟨I,_⟩,⟨H,_⟩,D⟩:=hw;obtain⟨⟨n1,n2⟩,V,ne,nn⟩:=hn;rw[kkj,rG,rG,rG,su]at ht;obtain⟨⟨⟨W,X⟩,Y⟩,t4⟩:=ht;rw[doO]at d;obtain⟨c,F,d⟩:=wu.1 d;obtain⟨p,f,d⟩:=wu.1 d;obtain⟨q,K,d⟩:=wX.1 d;subst d;obtain⟨c',w,Q⟩:=val_ok k m hs a.A E.xv n1 E.some n2 aj;rw[F]at w;injection w with w;subst w;have a0:=Q.tru W;obtain⟨qc,T,_,_,e⟩:=qjr k m hs hR hS hN a.A E n1 n2 aj c F;rw[doR,E.some,Xy ay,T];simp only[rQ];cases J:c.2
  ·rw[Xy ay];have G:=e J;rw[kv7 (.inl W)]at G;subst G;have v:yg vars size p.1/\∃y,(if c.1==1 then doR t l (msT τ l ms) th S else doR t l (msT τ l ms) el S)=some (y,p.2)/\(p.2=false->RSt vars tu y p.1):=by
    cases h1:(c.1==1)
    ·rw[h1,Xy ay]at f;rw[Xy ay];obtain⟨p',g,z⟩:=zwx k u m el H.xv ne Y st hs;rw[f]at g;injection g with g;exact⟨by rw[g];exact z,zxy k u m hR A hN el H ne Y st S hs hS p f⟩
    ·rw[h1,lJ rfl]at f;rw[lJ rfl];obtain⟨p',g,z⟩:=zwx k u m th I.xv V X st hs;rw[f]at g;injection g with g;exact⟨by rw[g];exact z,zxy k u m hR A hN th I V X st S hs hS p f⟩
   obtain⟨v,y,g,z⟩:=v;rw[g];simp only[rQ];cases P:p.2
   ·rw[Xy ay];obtain⟨L,M,N⟩:=zxy k u m hR A hN n D nn t4 p.1 y v (z P) q K;exact⟨L,by rw[M];simp,λh=>N kV⟩
   simp
  simp
theorem pv2(i:EnvOk tab vars mt ksz ssz size)(D:qzm vars)(l:ParOk ssz x.r.u x.ms)(m:yg vars size st)(hR:RSame t tab mt ssz tu τ)(C:pkj t tab vars mt)(q:RSt vars tu S st)(hN:∀s,(zl tab s).V=4->fpB x.r.u s=false)(k:kx9 x.r.guard)(n1:zxs x.r.guard)(n2:kk5 x.r.guard<=4000)(A:(gy tab x.r.u x.r.guard).b=1)(hb:kkz x.r.S)(u:jze x.r.S)(v:kkj tab x.r.u x.r.S=true){j8:List Int×Int}(a:kwi vars mt x.r.u x.ms st x.r.guard x.r.S=some j8):∃S',zwc t S ⟨x.r,msT τ x.r.u x.ms⟩=some (j8.2,S')/\(j8.2=1->RSt vars tu S' j8.1)/\(j8.2≠1->S'=S):=by
 unfold kwi at a;obtain⟨c,f,a⟩:=wu.1 a;obtain⟨p,b,a⟩:=wX.1 a;obtain⟨G,d,y⟩:=val_ok i l m x.r.guard k.xv n1 k.some n2 aj;rw[f]at d;injection d with d;subst d;have E:=y.tru A;obtain⟨I,z,_,_,e⟩:=qjr i l m hR q hN x.r.guard k n1 n2 aj c f;unfold zwc;rw[z];simp only[rQ];cases j:c.2
 ·rw[Xy ay];have g:=e j;rw[kv7 (.inl A)]at g;subst g;rw[j,QX]at a;cases h1:(c.1==1)
  ·rw[h1,Xy ay]at b;injection b with b;subst b;rw[h1]at a;have h:c.1=0:=by grind
   rw[h,lJ ak];subst a;simp
  ·rw[h1,lJ rfl]at b;rw[h1]at a;have h:c.1=1:=by simpa using h1
   rw[h,Xy ak];obtain⟨F,B,H⟩:=zxy i D l hR C hN x.r.S hb u v st S m q p b;rw[B];cases w:p.2
   ·grind
   ·rw[w]at a;simp only[Xw]at a;subst a;simp
 ·rw[lJ rfl];rw[j,Jg]at a;simp only[Xw]at a;subst a;simp
end
section
variable {t:PTree} {tab:Tab} {vars:List MVar} {mt:kq3} {ksz ssz:List UInt8->Nat} {size:Nat} {st:List Int} {S:List (List Int)} {tu:Tu} {τ:List UInt8->Int->Int}
structure Both (t:PTree)(tab:Tab)(vars:List MVar)(mt:kq3)(ksz ssz:List UInt8->Nat)(size:Nat)(tu:Tu)(τ:List UInt8->Int->Int):Prop where
 env:EnvOk tab vars mt ksz ssz size
 disj:qzm vars
 same:RSame t tab mt ssz tu τ
 R:pkj t tab vars mt
structure qq8 (tab:Tab)(ssz:List UInt8->Nat)(x:RIn):Prop where
 par:ParOk ssz x.r.u x.ms
 new:∀s,(zl tab s).V=4->fpB x.r.u s=false
 guard:kx9 x.r.guard
 xx:zxs x.r.guard
 nod:kk5 x.r.guard<=4000
 typ:(gy tab x.r.u x.r.guard).b=1
 S:kkz x.r.S
 bnum:jze x.r.S
 btyp:kkj tab x.r.u x.r.S=true
def zwm(x:RIn):MStep:=zjm x.r x.ms
def pzr(x:RIn):MNever:=qvv x.r x.ms
theorem qq8.same(h:Both t tab vars mt ksz ssz size tu τ)(a:qq8 tab ssz x)(d:yg vars size st)(b:RSt vars tu S st)(r:List Int×Int)(c:kwi vars mt x.r.u x.ms st x.r.guard x.r.S=some r):∃S',zwc t S ⟨x.r,msT τ x.r.u x.ms⟩=some (r.2,S')/\(r.2=1->RSt vars tu S' r.1)/\(r.2≠1->S'=S):=
 pv2 h.env h.disj a.par d h.same h.R b a.new a.guard a.xx a.nod a.typ a.S a.bnum a.btyp c
theorem qq8.one(h:Both t tab vars mt ksz ssz size tu idτ)(a:qq8 tab ssz x)(d:yg vars size st)(b:RSt vars tu S st)(r:List Int×Int)(c:kwi vars mt x.r.u x.ms st x.r.guard x.r.S=some r):∃S',zwc t S x=some (r.2,S')/\(r.2=1->RSt vars tu S' r.1)/\(r.2≠1->S'=S):=by have:=a.same h d b r c;rw[pqb _ _ a.par.T]at this;omega
theorem qq8.brk(h:Both t tab vars mt ksz ssz size tu τ)(a:qq8 tab ssz x)(k:yg vars size st)(g:RSt vars tu S st){f:Bool}(b:zwo vars mt x.r.u x.ms st x.r.guard=some f):∃c,zqy t x.r.u (msT τ x.r.u x.ms) S x.r.guard=some c/\((c.1==1)||c.2)=f:=by
 unfold zwo at b;obtain⟨c,i,rfl⟩:=wX.1 b;obtain⟨l,d,_,_,e⟩:=qjr h.env a.par k h.same g a.new x.r.guard a.guard a.xx a.nod (by rw[a.typ];decide) c i;refine⟨_,d,?_⟩;cases j:c.2
 ·have:=e j;rw[kv7 (.inl a.typ)]at this;rw[this]
 simp
theorem jyq(h:Both t tab vars mt ksz ssz size tu idτ)(f:yg vars size st)(d:RSt vars tu S st):∀(L:List RIn)(en b:List ByteArray)(r:List ByteArray×List ByteArray),(∀x∈L,qq8 tab ssz x)->lkO vars mt st (L.map zwm) en b=some r->lkR t S L en b=some r
 |[],en,b,r,_,a=>a
 |x::L,en,b,r,hL,a=>by
  rw[Qm,lkO]at a;obtain⟨q,j,a⟩:=wu.1 a;obtain⟨S',i,_,_⟩:=(hL x<|rZ ..).one h f d q j;have g:=λen b=>jyq h f d L en b r<|λy k=>hL y<|jS k
  rw[lkR,i];simp only[rQ];split at a
  ·rename_i c;rw[lJ c];exact g _ _ a
  ·rename_i c;rw[Xy c];split at a
   ·rename_i e;rw[lJ e];exact g _ _ a
   simp_all
theorem jyx(h:Both t tab vars mt ksz ssz size tu idτ)(e:yg vars size st)(d:RSt vars tu S st):∀(L:List RIn)(br r:List ByteArray),(∀x∈L,qq8 tab ssz x)->lbO vars mt st (L.map pzr) br=some r->lbR t S L br=some r
 |[],br,r,_,a=>a
 |x::L,br,r,hL,a=>by
  rw[Qm,lbO]at a;obtain⟨q,g,a⟩:=wu.1 a;have f:=hL x<|rZ ..;have j:=λbr=>jyx h e d L br r<|λy i=>hL y<|jS i
  obtain⟨c,b,hb⟩:=f.brk h e d g;rw[pqb _ _ f.par.T]at b;rw[lbR,b];simp only[rQ];rw[hb];split at a
  ·rename_i b;rw[lJ b];exact j _ a
  simp_all
end
section
variable {t:PTree} {tab:Tab} {vars:List MVar} {mt:kq3} {ksz ssz:List UInt8->Nat} {size:Nat} {st:List Int} {S:List (List Int)} {tu:Tu}
theorem qq8.fit(h:qq8 tab ssz x):StepFit tab ssz (zwm x):=
 ⟨h.par,⟨h.guard.xv,h.xx,h.guard.some,h.nod,h.typ⟩,⟨h.S.xv,h.bnum,h.btyp⟩⟩
theorem vxy:∀(L:List RIn)(s:List UInt8),(∀x∈L,(riT x).toList≠s)->zv4 t S L s=some none
 |[],s,_=>rfl
 |x::L,s,h=>by rw[zv4,Xy (by simp_all)];exact vxy L s<|λy a=>h y<|jS a
theorem vxw(h:Both t tab vars mt ksz ssz size tu idτ)(c:yg vars size st)(d:RSt vars tu S st):∀(L:List RIn),(∀x∈L,qq8 tab ssz x)->(L.map (λx=>(riT x).toList)).Nodup->∀(s:List UInt8)(r:List Int×Bool),qw3 vars mt st s (L.map zwm)=some r ->
  ∃q,zv4 t S L s=some q/\(r.2=true->yg vars size r.1/\∃S',q=some S'/\RSt vars tu S' r.1)/\(r.2=false->q=none)
 |[],_,_,s,r,a=>by
  rw[List.map_nil,qw3]at a;injection a with a;subst a;exact⟨none,rfl,(λe=>mZ),λ_=>rfl⟩
 |x::L,hL,hn,s,r,a=>by
  rw[Qm,QM]at hn;rw[Qm,qw3]at a;have f:=hL x<|rZ ..;have i:(zwm x).x=riT x:=rfl;rw[i]at a;cases b:((riT x).toList==s)
  ·rw[b,Xy ay]at a;rw[zv4,b,Xy ay];exact vxw h c d L (λy k=>hL y<|jS k) hn.2 s r a
  ·rw[b,lJ rfl]at a;obtain⟨q,j,a⟩:=wX.1 a;subst a;obtain⟨S',g,m,p⟩:=f.one h c d q j;rw[zv4,b,lJ rfl,g];simp only[rQ];rw[su]at b;cases h1:(q.2==1)
   ·grind [vxy]
   ·rw[lJ rfl];have l:q.2=1:=by simp_all
    obtain⟨w,u,v,_⟩:=pj4 h.env h.disj c f.fit;simp_all
theorem jv6{a:Mach}(h:Both t tab a.z a.C ksz ssz a.size tu idτ)(h1:a.X=(kq4 t t.l).map zwm)(w:a.q=(kq4 t t.q).map pzr)(hn:((kq4 t t.l).map (λx=>(riT x).toList)).Nodup)(j:∀x∈kq4 t t.l++kq4 t t.q,qq8 tab ssz x)(e:∀st S,yg a.z a.size st->RSt a.z tu S st->∀tx,zqh a.z st=some tx->zj9 t S S.length=some ⟨tx.toArray⟩):∀(ts:List ByteArray) (i:Nat) (st:List Int) (S:List (List Int)) (r:vyp),yg a.z a.size st->RSt a.z tu S st->vq9 a ts i st=some r->qvn t ts i S=some r
 |[],i,st,S,r,hs,hS,c=>by
  rw[vq9]at c;split at c
  ·obtain⟨v,hv,c⟩:=wX.1 c;subst c;unfold lookO at hv;obtain⟨tx,g,hv⟩:=wu.1 hv;obtain⟨p,d,hv⟩:=wu.1 hv;obtain⟨b,l,hv⟩:=wX.1 hv;rw[h1]at d;rw[w]at l;have m:=e st S hs hS tx g;have u:=jyq h hs hS _ _ _ _ (λx k=>j x<|jT k) d;grind [jyx,qvn,zzj]
  simp_all
 |s::ts,i,st,S,r,hs,hS,c=>by
  rw[vq9]at c;split at c
  ·obtain⟨q,z,c⟩:=wu.1 c;rw[h1]at z;obtain⟨f,g,d,l⟩:=vxw h hs hS _ (λx k=>j x<|jT k) hn s.toList q z;rw[qvn,g];simp only[rQ];cases y:q.2
   ·simp_all
   ·rw[y,lJ rfl]at c;obtain⟨m,S',rfl,u⟩:=d y;exact jv6 h h1 w hn j e ts (i+1) q.1 S' r m u c
  simp_all
end
section
variable {t:PTree} {vars:List MVar} {size:Nat} {st:List Int} {S:List (List Int)} {tu:Tu}
def xvn(t:PTree)(vars:List MVar)(tu:Tu):Prop:=t.z.length=vars.length/\∀k u pv,vars[k]?=some u->t.z[k]?=some pv->kwv pv=!(u.g==-1)/\((u.g==-1)=true->u.d=1)/\u.d<=10/\(∀x∈u.a,x.size<=800)/\(∀n:Nat,n<u.a.length->zk1 t pv ((tu k).2 n)=u.a[n]?)/\∀j,(tu k).1 j=j
theorem zqj(a b:List UInt8):(⟨a.toArray⟩:ByteArray)++⟨b.toArray⟩=⟨(a++b).toArray⟩:=by apply ByteArray.ext;simp
theorem xyj(x:ByteArray):(⟨x.data.toList.toArray⟩:ByteArray)=x:=ay
theorem btl(x:ByteArray):x.data.toList.length=x.size:=ay
theorem bsz(a:List UInt8):(⟨a.toArray⟩:ByteArray).size=a.length:=by simp[ByteArray.size]
theorem vjc(hv:∀n:Nat,n<g8.a.length->zk1 t a2 ((tu k).2 n)=g8.a[n]?)(hi:∀j,(tu k).1 j=j)(h:∀x∈g8.a,x.size<=800)(g:∀j,j<g8.d->∃x,st[g8.f+j]?=some x/\i0[(tu k).1 j]?=some ((tu k).2 x)):∀(n:Nat)(r:List UInt8),n<=g8.d->n<=10->qvg g8 st n=some r->rowP t a2 i0 n=some ⟨r.toArray⟩/\r.length<=801*n
 |0,r,_,_,a=>by rw[qvg]at a;injection a with a;subst a;exact⟨rfl,ay⟩
 |n+1,r,hn,hn2,a=>by
  rw[qvg]at a;obtain⟨l,i,a⟩:=wu.1 a;obtain⟨tx,f,a⟩:=wu.1 a;split at a
  ·injection a with a;subst a;obtain⟨p,v⟩:=vjc hv hi h g n l aj aj i;obtain⟨m,h1,c⟩:=kyb f;obtain⟨x,b,d⟩:=g n aj;rw[hi]at d;rw[h1]at b;injection b with b;subst b;have e:=(rY.1 c).1;have s:=h tx<|wB c;have q:(kk9 n).length<=1:=by unfold kk9;grind
   have u:=btl tx;refine⟨?_,by grind⟩;rw[rowP,p];simp only[rQ];rw[d];simp only[rQ];rw[hv m e,c];simp only[rQ];rw[lJ ⟨by rw[bsz];omega,aj⟩];congr 1
   unfold kk9;split
   ·rw[show(⟨#[32]⟩:ByteArray)=⟨([32]:List UInt8).toArray⟩ from rfl,zqj];simp
   ·rw[<-xyj tx,zqj];simp
  simp_all
theorem zkj(B:yg vars size st)(i:RSt vars tu S st)(e:xvn t vars tu)(A:vars.length<=10):∀(n:Nat)(r:List UInt8),n<=vars.length->zj7 vars st n=some r->zj9 t S n=some ⟨r.toArray⟩/\r.length<=9000*n
 |0,r,_,d=>by rw[zj7]at d;injection d with d;subst d;exact⟨rfl,ay⟩
 |n+1,r,hn,d=>by
  obtain⟨l,u,tl,h1,h,b,_,rfl,_⟩:=qxs d;obtain⟨K,G⟩:=zkj B i e A n l aj h1;have k:n<t.z.length:=by rw[e.1];omega
  obtain⟨o1,o2,o3,o4,q,s⟩:=e.2 n u t.z[n] h (wW k);obtain⟨y,J,v,g⟩:=i.2 n u h;have D:(kk9 n).length<=1:=by unfold kk9;grind
  have key:∃rw_,rowP t t.z[n] y y.length=some rw_/\rw_.size<=8100/\(⟨tl.toArray⟩:ByteArray)=(if kwv t.z[n] then (⟨#[91]⟩++rw_)++⟨#[93]⟩ else rw_)/\tl.length<=8200:=by
   unfold vq5 at b;cases c:(u.g==-1)
   ·rw[c,Xy ay]at b;obtain⟨a,w,b⟩:=wX.1 b;subst b;obtain⟨H,I⟩:=vjc q s o4 g u.d a jH o3 w;grind [bsz,zqj]
   ·rw[c,lJ rfl]at b;obtain⟨tx,p,b⟩:=wu.1 b;split at b
    ·injection b with b;subst b;have z:=o2 c;obtain⟨m,C,f⟩:=kyb p;have j:=(rY.1 f).1;have E:=o4 tx<|wB f;obtain⟨x,k1,k2⟩:=g 0 aj;rw[s]at k2;rw[Qk,C]at k1;injection k1 with k1;subst k1;rw[o1,c,v,z];have F:=btl tx;refine⟨tx,?_,aj,?_,aj⟩
     ·rw[rowP,rowP];simp only[rQ];rw[k2];simp only[rQ];rw[q m j,f];simp only[rQ];rw[lJ ⟨ak,aj⟩,Xy aj];congr 1
     simp
    simp_all
  grind [zj9,bsz,kk9,zqj]
end
theorem kyi(h:NamesFine t):((jc t).map (·.x.toList)).Nodup:=by unfold List.Nodup;rw[sQ];intro i j hi b a;rw[Zz,Zz];exact h.uniq j i a (by simp_all) (by simp_all)
theorem kye(t:PTree):jc t=t.j.flatMap zjy++(t.p.flatMap kx7++(t.z.flatMap zwg++(t.l++t.q).flatMap kyz)):=by grind [jc,qj3,qvs,qvf]
theorem pze(t:PTree):(qx4 (ql t)).map (·.1)=(t.p.flatMap λk=>k.i)++t.z.flatMap zwg:=by
 unfold qx4;rw[Qw,Jp,jxm];congr 1
 ·simp only[jka];rfl
 ·show(t.z.map jw).map (·.y)=_;rw[Jz,Zd];rfl
theorem vzj(t:PTree):((qx4 (ql t)).map (·.1)).Sublist (jc t):=by rw[pze,kye];exact((qzv (λk=>ZC _ _) t.p).append<|JK _ _).trans (J5 _ _)
theorem jjx(h:NamesFine t):((kzg (ql t)).map (·.1.toList)).Nodup:=by
 have e:(kzg<|ql t).map (·.1.toList)=((qx4<|ql t).map (·.1)).map (·.x.toList):=by simp_all [kzg]
 grind [vzj,kyi]
theorem vx0(h:NamesFine t):(t.p.map (·.y.x.toList)).Nodup:=by
 have s:(t.p.flatMap λk=>[k.y]).Sublist (jc t):=by rw[kye];exact((qzv (λk=>((Zj _).cons_cons _)) t.p).trans<|JK _ _).trans (J5 _ _)
 have:=(s.map (·.x.toList)).nodup<|kyi h;grind
theorem vjg(h:NamesFine t):(t.l.map (·.y.x.toList)).Nodup:=by
 have s:(t.l.flatMap kyz).Sublist (jc t):=by grind [kye]
 have:=(s.map (·.x.toList)).nodup<|kyi h;have e:t.l.flatMap kyz=t.l.map (·.y):=by rw[Zd];rfl
 grind
theorem py3(h:NamesFine t)(a:TreeSize t):qwc (qx4 (ql t)) []=some (kzg (ql t)):=by
 rw[pqx (qx4 (ql t)) [] ?_ ?_]
 ·rfl
 ·grind [jjx,kzg]
 ·intro x b;have h1:x.1∈jc t:=(vzj t).subset<|Qx b;have:=(a.nm _<|(qy6 t).subset h1).2;omega
theorem qyi(h:NamesFine t){a:Tok×Mean}(b:a∈qx4 (ql t)):kjw (kzg (ql t)) a.1.x.toList=a.2:=
 vzr (kzg<|ql t) _ (jjx h) (a.1.x,a.2) (Qx (f:=λa:Tok×Mean=>(a.1.x,a.2)) b) rfl
def ssz(m:MdL)(s:List UInt8):Nat:=(qzt m.j s).getD 0
def ksz(m:MdL)(s:List UInt8):Nat:=match kwe m.p s with|some k=>k.i.length|none=>0
theorem zzb:∀(l:List PSet)(s:List UInt8),(∃q∈l,q.y.x.toList=s)->∃k x,kkq l s=some k/\l[k]?=some x/\x∈l
 |[],s,⟨q,a,_⟩=>by cases a
 |x::l,s,⟨q,a,e⟩=>by
  rw[kkq];cases b:(x.y.x.toList==s)
  ·rw[QG]at b;obtain rfl|a:=tZ.1 a
   ·simp_all
   ·obtain⟨k,y,h1,c,d⟩:=zzb l s ⟨q,a,e⟩;simp_all
  simp
theorem qwa{f:α->ByteArray}(h:¬zx (l.map f) s<0):∃q∈l,(f q).toList=s:=by apply Qp;simp_all [kwg]
theorem jq7(h:Right t)(b:¬zx (ug t) s<0):∃n,qzt t.j s=some n/\2<=n/\n<=3/\ssz (ql t) s=n:=by
 obtain⟨k,x,h1,c,a⟩:=zzb t.j s<|qwa b;have hb:=h.bnd.size x a;have e:qzt t.j s=some (mg x.size.x).toNat:=by grind [qzt,jym]
 grind [ssz,ql]
theorem qju:∀{l:List PKind}{s:List UInt8}{k:PKind},kwe l s=some k->k∈l/\k.y.x.toList=s
 |x::l,s,k,h=>by
  rw[kwe]at h;split at h
  ·simp_all
  ·obtain⟨h1,a⟩:=qju h;simp_all
theorem jyw:∀(l:List PKind)(s:List UInt8),(∃q∈l,q.y.x.toList=s)->∃k,kwe l s=some k
 |[],s,⟨q,a,_⟩=>by cases a
 |x::l,s,⟨q,a,e⟩=>by
  rw[kwe];cases b:(x.y.x.toList==s)
  ·rw[QG]at b;obtain rfl|a:=tZ.1 a
   ·simp_all
   ·rw[Xy ay];exact jyw l s ⟨q,a,e⟩
  simp
theorem pqa:∀{l:List PKind},(l.map (·.y.x.toList)).Nodup->∀{k:PKind},k∈l->kwe l k.y.x.toList=some k
 |x::l,hn,k,a=>by
  rw[Qm,QM]at hn;rw[kwe];obtain rfl|a:=tZ.1 a
  ·simp
  ·rw[Xy]
   ·exact pqa hn.2 a
   grind
theorem xv9(h:NamesFine t){a:PKind}(b:a∈t.p):ksz (ql t) a.y.x.toList=a.i.length:=by grind [ksz,ql,pqa,vx0]
theorem xvq(h:Right t)(s:List UInt8):ksz (ql t) s<=1000:=by
 unfold ksz;cases a:kwe (ql t).p s with
 |none=>simp
 |some k=>
  have:=h.bnd.xy k (qju a).1;grind
theorem xkd(s:List UInt8):ssz m s<=1000:=by
 unfold ssz;cases a:qzt m.j s with
 |none=>simp
 |some n=>
  grind [kkx]
structure UOk (m:MdL)(u:MVar)(d:VrT):Prop where
 cnt:u.d=if d.K then ssz m d.g.x.toList else 1
 D:1<=u.d
 R:u.d<=3
 few:u.a.length<=200
 ne:0<u.a.length
 tru:(kqm (qm m) d.si).b=1->u.a.length=2
 kin:(kqm (qm m) d.si).b=3->u.a.length=ksz m (kqm (qm m) d.si).y.toList
 set:(kqm (qm m) d.si).b=4->u.a.length=ssz m (kqm (qm m) d.si).y.toList+1
 txt:∀x∈u.a,x.size<=800/\0<x.size
theorem xq2(i:Nat):(kvh i).size=1:=rfl
theorem jj4:∀x∈kvx n,x.size<=800/\0<x.size:=by grind [kvx,xq2]
theorem xvg(h:Right t)(hv:a2∈t.z):∃c,(if (jw a2).K then qzt t.j (jw a2).g.x.toList else some 1)=some c/\1<=c/\c<=3/\c=if (jw a2).K then ssz (ql t) (jw a2).g.x.toList else 1:=by
 obtain⟨L,a,i⟩:=h.M;obtain⟨h1,_⟩:=a.z a2 hv;cases j:(jw a2).K
 ·simp
 ·have b:(a2.g.t.toList==mX)=true:=by grind [jw,dh]
  obtain⟨n,d,e,f,g⟩:=jq7 h<|h.xt.g a2 hv b;grind [jw]
theorem xkg(h:Right t)(hv:a2∈t.z):∃l,vqi t.j t.p (jw a2).si=some l/\l.length<=200/\0<l.length/\((kqm (qm (ql t)) (jw a2).si).b=1->l.length=2)/\((kqm (qm (ql t)) (jw a2).si).b=3->l.length=ksz (ql t) (kqm (qm (ql t)) (jw a2).si).y.toList)/\((kqm (qm (ql t)) (jw a2).si).b=4->l.length=ssz (ql t) (kqm (qm (ql t)) (jw a2).si).y.toList+1)/\∀x∈l,x.size<=800/\0<x.size:=by
 obtain⟨L,d,q⟩:=h.M;have i:=kxk q d;obtain⟨_,p⟩:=d.z a2 hv;obtain⟨k1,k2,_⟩|⟨k1,k2,_,_⟩|⟨k1,_⟩:=p
 ·have e:(jw a2).si=⟨0,zh,zh⟩:=by unfold jw;simp_all
  rw[e];refine⟨kvx 2,rfl,by rw[kx1];omega,by rw[kx1];omega,λ_=>kx1 2,λe=>?_,λe=>?_,jj4⟩
  ·have:(1:Int)=3:=e;omega
  ·have:(1:Int)=4:=e;omega
 ·have e:(jw a2).si=⟨1,a2.R,zh⟩:=by unfold jw;simp_all
  have hb:=h.bnd.R (jw a2) (Qx hv) (by rw[e]);rw[e]at hb |-;have A:1<=mg a2.R.x/\mg a2.R.x<=3:=hb;refine⟨kvx<|(mg a2.R.x).toNat+1,?_,by rw[kx1];omega,by rw[kx1];omega,λe=>?_,λe=>?_,λe=>?_,jj4⟩
  ·show(jym a2.R.x).map (λn=>kvx<|n+1)=_;grind [jym]
  ·have:(2:Int)=1:=e;omega
  ·have:(2:Int)=3:=e;omega
  ·have:(2:Int)=4:=e;omega
 ·have e:(jw a2).si=⟨2,zh,a2.k⟩:=by unfold jw;simp_all
  rw[e];have s:kqm (qm<|ql t) ⟨2,zh,a2.k⟩=if (zl (qm<|ql t) a2.k.x.toList).V==1 then ⟨4,a2.k.x⟩ else ⟨3,a2.k.x⟩:=rfl
  have u:vqi t.j t.p ⟨2,zh,a2.k⟩=match kwe t.p a2.k.x.toList with|some k=>some (k.i.map (·.x))|none=>(qzt t.j a2.k.x.toList).map λm=>⟨#[45]⟩::kvx m:=rfl
  rw[s,u];by_cases v:(zl (qm<|ql t) a2.k.x.toList).V=1
  ·rw[lJ (by simp_all)];have g:kwe t.p a2.k.x.toList=none:=by
    cases c:kwe t.p a2.k.x.toList with
    |none=>rfl
    |some k=>
     obtain⟨b,z⟩:=qju c;have:=zy9 h.xt<|zks b;simp_all
   obtain⟨n,j,B,C,D⟩:=jq7 h<|(qz0 t).1 v;rw[g,j];refine⟨⟨#[45]⟩::kvx n,rfl,by rw[Qb,kx1];omega,ay,λe=>?_,λe=>?_,λ_=>?_,λx a=>?_⟩
   ·simp_all
   ·simp_all
   ·grind [kx1]
   ·obtain rfl|a:=tZ.1 a
    ·exact⟨ak,ak⟩
    ·exact jj4 x a
  ·rw[Xy (by simp_all)];have f:zx (ug t) a2.k.x.toList<0:=by grind [qz0]
   obtain⟨k,c⟩:=jyw t.p a2.k.x.toList (qwa<|h.xt.k a2 hv (by simp_all) f);obtain⟨b,z⟩:=qju c;have E:=h.bnd.xy k b;rw[c];refine⟨k.i.map (·.x),rfl,by grind,by rw[Ql];exact h.M.choose_spec.1.p k b,λe=>?_,λ_=>?_,λe=>?_,λx a=>?_⟩
   ·simp_all
   ·grind [ksz,ql]
   ·simp_all
   ·obtain⟨y,w,rfl⟩:=tY.1 a;have:=i.nm _<|kwy b (jS w);exact⟨this.2,this.1⟩
theorem xvh(h:Right t)(hv:a2∈t.z)(sz:Nat):∃u,qw4 t.j t.p sz (jw a2)=some u/\u.f=sz/\UOk (ql t) u (jw a2):=by obtain⟨c,c1,c2,c3,c4⟩:=xvg h hv;obtain⟨l,a,b,d,e,f,g,i⟩:=xkg h hv;unfold qw4;rw[c1,a];exact⟨_,rfl,rfl,c4,c2,c3,b,d,e,f,g,i⟩
end Go.Proofs.YtpmcnonmkghokaaGreatDoor

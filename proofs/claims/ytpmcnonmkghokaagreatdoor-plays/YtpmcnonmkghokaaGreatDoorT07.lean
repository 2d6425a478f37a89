import Derived.Test.YtpmcnonmkghokaaGreatDoorT06
set_option maxRecDepth 100000
set_option maxHeartbeats 4000000
set_option linter.unusedVariables false
set_option linter.unusedSimpArgs false
namespace Go.Proofs.YtpmcnonmkghokaaGreatDoor
open Go.Proofs.Tryz
open Go.RowKit
variable {L:List Tok}{xs:List Value}{F P b base f lo n:Nat}{no no':Option Nat}{t x:PX}{fin r:PX×RS}{s st st0:RS}{blk:RS->PB×RS}{v x0 x1 x2 x3 x4 x5 x6 x7 x8:Value}{a w w':World}
theorem zqv.pjm {t:Tok}(h:zqv t){c:UInt8}{r:List UInt8}(d:t.text.toList=c::r)(a:(decide (97<=(c.toNat:Int))&&decide ((c.toNat:Int)<=122))=false):(t.kind.toList==oU)=false:=by
 have h1:=h.word;rw[zj7 d,a]at h1;cases b:(t.kind.toList==oU)
 ·rfl
 ·rw[b]at h1;simp at h1
theorem kwl (d:bg L)(a:st.at_<L.length)(hb:st.bad=false){l:List UInt8}(g:∃c r,l=c::r/\(decide (97<=(c.toNat:Int))&&decide ((c.toNat:Int)<=122))=false):qo L l st=(((tk L st.at_).kind.toList==pY)&&((tk L st.at_).text.toList==l)):=by
 obtain⟨c,r,e,f⟩:=g;unfold qo kwv;rw[hb];cases b:((tk L st.at_).text.toList==l)
 ·simp
 ·rw[rQ]at b;rw[(d.ok _ a).pjm (b.trans e) f];simp
theorem qql (a b:List UInt8):(a==b)=(b==a):=by
 cases h:(a==b)
 ·cases c:(b==a)
  ·rfl
  ·rw[rQ]at c;subst c;simp at h
 ·rw[rQ]at h;subst h;simp
theorem px2 (b:bg L)(a:st.at_<L.length)(hb:st.bad=false):kk3 0 (tk L st.at_)=qo L [124] st:=by
 rw[kwl b a hb ⟨_,_,rfl,ak⟩];simp only[kk3,kqo,QB,Zg,Qk];rw[jv [124],qql,Bool.and_comm]
theorem px1 (b:bg L)(a:st.at_<L.length)(hb:st.bad=false):kk3 1 (tk L st.at_)=qo L [38] st:=by
 rw[kwl b a hb ⟨_,_,rfl,ak⟩];simp only[kk3,kqo,QB,Zg,Qk];rw[jv [38],qql,Bool.and_comm]
theorem pz4 (b:bg L)(a:st.at_<L.length)(hb:st.bad=false):kk3 3 (tk L st.at_)=(qo L [43] st||qo L [45] st):=by
 rw[kwl b a hb ⟨_,_,rfl,ak⟩,kwl b a hb ⟨_,_,rfl,ak⟩];simp only[kk3,kqo,QB,Zg,Qk];rw[jv [43],jv [45],qql [43],qql [45]];cases ((tk L st.at_).kind.toList==pY)<;>simp
theorem vyi (b:bg L)(a:st.at_<L.length)(hb:st.bad=false):kk3 2 (tk L st.at_)=(qo L [61,61] st||qo L [33,61] st||qo L [60] st):=by
 rw[kwl b a hb ⟨_,_,rfl,ak⟩,kwl b a hb ⟨_,_,rfl,ak⟩,kwl b a hb ⟨_,_,rfl,ak⟩];simp only[kk3,kqo,QB,Zg,Qk];rw[jv [61,61],jv [33,61],jv [60],qql [61,61],qql [33,61],qql [60]];cases ((tk L st.at_).kind.toList==pY)<;>simp[Je]
def zw0 (L:List Tok)(n F:Nat)(fin:PX×RS)(t:PX)(s:RS):Prop:=
 (s.bad=true/\fin.2=s)\/(s.bad=false/\∃g,g<F/\8*(L.length-s.at_)+1<=g/\rX g (10+n) t L s=fin)
theorem qqe (hn:n<4)(c:st.bad=false->8*(L.length-st.at_)+(7-n)<=f)(b:(rX (f-1) (n+1) .nil L st).2.bad=false->t=(rX (f-1) (n+1) .nil L st).1):
  zw0 L n f (rX f n .nil L st) t (rX (f-1) (n+1) .nil L st).2:=by
 cases hb:st.bad
 ·have:=c hb;obtain⟨f,rfl⟩:∃k,f=k+1:=⟨f-1,aj⟩;simp only[Zl]at b |-;have d:=kx3 f (n+1) .nil L st;rw[zk7 f n .nil L st hn];simp only[hb,wU,if_false];cases a:(rX f (n+1) .nil L st).2.bad
  ·refine Or.inr ⟨a,f,aj,aj,?_⟩;rw[b a]
  ·exact Or.inl ⟨a,kjz a _ _ _⟩
 ·rw[kjz hb];exact Or.inl ⟨hb,kjz hb _ _ _⟩
theorem qv4 (hn:n<4)(h:zw0 L n F fin t s)(hb:s.bad=false->kk3 n (tk L s.at_)=false):fin.2=s/\(s.bad=false->fin.1=t):=by
 rcases h with⟨h1,b⟩|⟨h1,g,_,b,a⟩
 ·exact⟨b,λh=>by rw[h1]at h;cases h⟩
 ·obtain⟨g,rfl⟩:∃k,g=k+1:=⟨g-1,aj⟩;rw[zx4 _ _ _ _ _ hn,hb h1,h1]at a;simp only[wU,if_false]at a;rw[<-a];exact⟨rfl,λ_=>rfl⟩
theorem kv7 (hn:n<4)(h:zw0 L n F fin t s)(hb:s.bad=false)(hi:kk3 n (tk L s.at_)=true):∃g,g+1<F/\8*(L.length-s.at_)+1<=g+1 /\
  (if n=2 then (opX (tk L s.at_).text t (rX g (n+1) .nil L {s with at_:=s.at_+1}).1,(rX g (n+1) .nil L {s with at_:=s.at_+1}).2)
   else rX g (10+n) (opX (tk L s.at_).text t (rX g (n+1) .nil L {s with at_:=s.at_+1}).1) L (rX g (n+1) .nil L {s with at_:=s.at_+1}).2)=fin:=by
 rcases h with⟨h1,a⟩|⟨h1,g,c,a,b⟩
 ·rw[h1]at hb;cases hb
 ·obtain⟨g,rfl⟩:∃k,g=k+1:=⟨g-1,aj⟩;rw[zx4 _ _ _ _ _ hn,if_neg (by rw[h1];simp),if_pos hi]at b;exact⟨g,c,a,b⟩
theorem qx2 {g: Nat}  {a: PX}   {o:ByteArray}(c:g+1<F)(e:8*(L.length-s.at_)+1<=g+1)(f:s.at_+1<=r.2.at_)(d:s.at_<L.length)(h:rX g (10+n) (opX o t r.1) L r.2=fin)(b:r.2.bad=false->a=r.1):
  zw0 L n F fin (opX o t a) r.2:=by
 cases hb:r.2.bad
 ·refine Or.inr ⟨hb,g,aj,aj,?_⟩;rw[b hb];exact h
 ·refine Or.inl ⟨hb,?_⟩;rw[<-h,kjz hb]
def jz7 (n F:Nat):Prop:=∀(g:Nat) (w:World) (P:Nat) (v:Value) (L:List Tok) (st:RS),st.bad=true->Pd w P v L st ->
 qJ F #[.pointer (some ⟨P,0,none⟩)] w λe w'=>EPost P v L w (rX g n .nil L st) e w'
theorem EPost.state {r': PX×RS}{e:Ending}(h:EPost P v L w r e w')(f:r'.2=r.2)(h1:r.2.bad=false->r'.1=r.1):EPost P v L w r' e w':=by
 obtain⟨p,t,a,b,c,d,k⟩:=h;exact⟨p,t,a,b,λhb=>by rw[f]at hb;rw[c hb,h1 hb],by rw[f];exact d,k⟩
theorem vys (a:jz7 n F)(b:st0.bad=false->∀g,g<f->qjx n F g)(g:Nat)(w:World)(P:Nat)(v:Value)(L:List Tok)(st:RS)(h:Pd w P v L st)(c:st.bad=false->st0.bad=false/\g<f/\8*(L.length-st.at_)+(7-n)<=g):
  qJ F #[.pointer (some ⟨P,0,none⟩)] w λe w'=>EPost P v L w (rX g n .nil L st) e w':=by
 cases hb:st.bad
 ·have:=c hb;exact b this.1 g this.2.1 w P v L st h (λ_=>this.2.2)
 ·exact a g w P v L st hb h
theorem zvn:jz7 4 296:=λg w P v L st hb h=>by
 have:=zyu 0 w P v L st (λh=>iZ) h (λh=>iZ);exact this.mono λe w' a=>a.state oq (λh=>lM)
theorem vx6 (f:Nat)(a:∀g,g<f->qjx 0 210 g):qjx 4 296 f:=λw P v L st h b=>by
 cases hb:st.bad
 ·have:=b hb;obtain⟨f,rfl⟩:∃k,f=k+1:=⟨f-1,aj⟩;rw[jj8];simp only[hb,wU,if_false];exact zyu f w P v L st (λ_ g c=>a g aj) h (λ_=>aj)
 ·exact zvn f w P v L st hb h
theorem jxg (f:Nat)(w:World)(P:Nat)(v:Value)(L:List Tok)(st:RS)(hB:jz7 4 296)(hS:st.bad=false->∀g,g<f->qjx 4 296 g)(h:Pd w P v L st)(T:st.bad=false->8*(L.length-st.at_)+(7-3)<=f):
  qJ 286 #[.pointer (some ⟨P,0,none⟩)] w λe w'=>EPost P v L w (rX f 3 .nil L st) e w':=by
 have M:=h.in;have B:=h.ok;have R:=vys hB hS;have W:=λ(t:PX) ht=>qqe (L:=L) (st:=st) (t:=t) (n:=3) aj T ht
 generalize rX f 3 .nil L st=fin at *;go_enter func286,ntmps286
 go_wp2_with fail
 refine(R (f-1) _ P v L st h (λhb=>⟨hb,by have:=T hb;omega,by have:=T hb;omega⟩)).mono ?_;rintro e w1 ⟨p1,t1,rfl,X,Z,H1,V⟩;have y:=W t1 Z;have N:(rX (f-1) (3+1) .nil L st).2.bad=false->st.bad=false:=λhb=>by
  cases O:st.bad
  ·rfl
  ·rw[kjz O,O]at hb;cases hb
 generalize (rX (f-1) (3+1) .nil L st).2=s1 at *;go_wp2_with fail
 go_loopw [3] (λle wr=>∃(p:Option Addr) (t:PX) (s:RS),le=.pointer p/\XIs w.heap.size wr t (.pointer p)/\zw0 L 3 f fin t s/\(s.bad=false->st.bad=false)/\Pd wr P v L s/\Kept P w wr) (λ_ wr=>L.length-qvf wr P)
 case atStart=>exact⟨p1,t1,s1,rfl,X,y,N,H1,V⟩
 case round=>
  obtain⟨p,t,s,rfl,HX,y,J,K,HK⟩:=hrel;have b:=K.lt;go_wp2_with fail
  refine(kj7 [43] ak _ P v L s K).mono ?_;rintro e w2 ⟨rfl,i,E⟩;have z:=HX.kept E M;have u:=HK.trans E;cases a:qo L [43] s
  ·rw[kx4 a]at i;go_wp2_with fail
   refine(kj7 [45] ak _ P v L s i).mono ?_;rintro e w3 ⟨rfl,i,F⟩;have A:=z.kept F M;have x:=u.trans F;cases c:qo L [45] s
   ·rw[kx4 c]at i;obtain⟨Q,Y⟩:=qv4 aj y (λhb=>by rw[pz4 B b hb,a,c];rfl);go_wp2
    go_ret
    exact⟨p,t,rfl,A,λhb=>by rw[Q]at hb;exact(Y hb).symm,by rw[Q];exact i,x⟩
   ·obtain⟨H,hb⟩:=kqt c;have q:=kjq B b c;have S:kw8 L [45] s={s with at_:=s.at_+1}:=by unfold kw8;rw[c];rfl
    rw[S]at i;obtain⟨g,C,D,j⟩:=kv7 aj y hb (by rw[pz4 B b hb,a,c];simp);rw[if_neg aj]at j;go_wp2_with fail
    refine(R g _ P v L {s with at_:=s.at_+1} i (λ_=>⟨J hb,aj,gU⟩)).mono ?_;rintro e w6 ⟨p6,t6,rfl,I,G,d,l⟩;have m:s.at_+1<=(rX g (3+1) .nil L {s with at_:=s.at_+1}).2.at_:=kx3 g (3+1) .nil L {s with at_:=s.at_+1};have k:=x.trans l;generalize rX g (3+1) .nil L {s with at_:=s.at_+1}=U at *;go_wp2
    go_roundw
    case rel=>exact⟨_,_,U.2,rfl,XIs.new (A.kept l M) (I.mono x.size) k.size (kxt (by rw[H];rfl)),(qx2 C D m b j G),λ_=>J hb,d.alloc _,k.alloc _⟩
    case measure=>have:=(kky K d q.1 q.2 (λ_=>m));exact(by rw[(d.alloc _).nx,<-d.nx];exact this)
  ·obtain⟨H,hb⟩:=kqt a;have q:=kjq B b a;have S:kw8 L [43] s={s with at_:=s.at_+1}:=by unfold kw8;rw[a];rfl
   rw[S]at i;obtain⟨g,C,D,j⟩:=kv7 aj y hb (by rw[pz4 B b hb,a];simp);rw[if_neg aj]at j;go_wp2_with fail
   refine(R g _ P v L {s with at_:=s.at_+1} i (λ_=>⟨J hb,aj,gU⟩)).mono ?_;rintro e w6 ⟨p6,t6,rfl,I,G,d,l⟩;have m:s.at_+1<=(rX g (3+1) .nil L {s with at_:=s.at_+1}).2.at_:=kx3 g (3+1) .nil L {s with at_:=s.at_+1};have k:=u.trans l;generalize rX g (3+1) .nil L {s with at_:=s.at_+1}=U at *;go_wp2
   go_roundw
   case rel=>exact⟨_,_,U.2,rfl,XIs.new (z.kept l M) (I.mono u.size) k.size (kxt (by rw[H];rfl)),(qx2 C D m b j G),λ_=>J hb,d.alloc _,k.alloc _⟩
   case measure=>have:=(kky K d q.1 q.2 (λ_=>m));exact(by rw[(d.alloc _).nx,<-d.nx];exact this)
theorem qxm (f:Nat)(w:World)(P:Nat)(v:Value)(L:List Tok)(st:RS)(hB:jz7 3 286)(hS:st.bad=false->∀g,g<f->qjx 3 286 g)(h:Pd w P v L st)(U:st.bad=false->8*(L.length-st.at_)+(7-2)<=f):
  qJ 259 #[.pointer (some ⟨P,0,none⟩)] w λe w'=>EPost P v L w (rX f 2 .nil L st) e w':=by
 have A:=h.in;have M:=h.ok;have K:=vys hB hS;have W:=λ(t:PX) ht=>qqe (L:=L) (st:=st) (t:=t) (n:=2) aj U ht
 generalize rX f 2 .nil L st=fin at *;go_enter func259,ntmps259
 go_wp2_with fail
 refine(K (f-1) _ P v L st h (λhb=>⟨hb,by have:=U hb;omega,by have:=U hb;omega⟩)).mono ?_;rintro e w1 ⟨p,t,rfl,HX,Y,V,HK⟩;have N:=W t Y;have T:(rX (f-1) (2+1) .nil L st).2.bad=false->st.bad=false:=λhb=>by
  cases O:st.bad
  ·rfl
  ·rw[kjz O,O]at hb;cases hb
 generalize (rX (f-1) (2+1) .nil L st).2=s at *;have z:=V.lt;go_wp2_with fail
 refine(kj7 [61,61] ak _ P v L s V).mono ?_;rintro e w2 ⟨rfl,a,G⟩;have C:=HX.kept G A;have u:=HK.trans G;cases i:qo L [61,61] s
 ·rw[kx4 i]at a;go_wp2_with fail
  refine(kj7 [33,61] ak _ P v L s a).mono ?_;rintro e w3 ⟨rfl,a,H⟩;have D:=C.kept H A;have x:=u.trans H;cases j:qo L [33,61] s
  ·rw[kx4 j]at a;go_wp2_with fail
   refine(kj7 [60] ak _ P v L s a).mono ?_;rintro e w4 ⟨rfl,a,I⟩;have E:=D.kept I A;have y:=x.trans I;cases l:qo L [60] s
   ·rw[kx4 l]at a;obtain⟨Q,X⟩:=qv4 aj N (λhb=>by rw[vyi M z hb,i,j,l];rfl);go_wp2
    go_ret
    exact⟨p,t,rfl,E,λhb=>by rw[Q]at hb;exact(X hb).symm,by rw[Q];exact a,y⟩
   ·obtain⟨m,hb⟩:=kqt l;have F:kw8 L [60] s={s with at_:=s.at_+1}:=by unfold kw8;rw[l];rfl
    rw[F]at a;obtain⟨g,R,S,b⟩:=kv7 aj N hb (by rw[vyi M z hb,i,j,l];simp);rw[if_pos rfl]at b;go_wp2_with fail
    refine(K g _ P v L {s with at_:=s.at_+1} a (λ_=>⟨T hb,aj,gU⟩)).mono ?_;rintro e w6 ⟨Z,J,rfl,q,k,B,d⟩;have c:=y.trans d;generalize rX g (2+1) .nil L {s with at_:=s.at_+1}=r6 at *;go_wp2
    go_ret
    rw[<-b];exact⟨_,opX (tk L s.at_).text t J,rfl,XIs.new (E.kept d A) (q.mono y.size) c.size (kxt nM),λhb=>by simp only at hb;rw[k hb],B.alloc _,c.alloc _⟩
  ·obtain⟨m,hb⟩:=kqt j;have F:kw8 L [33,61] s={s with at_:=s.at_+1}:=by unfold kw8;rw[j];rfl
   rw[F]at a;obtain⟨g,R,S,b⟩:=kv7 aj N hb (by rw[vyi M z hb,i,j];simp);rw[if_pos rfl]at b;go_wp2_with fail
   refine(K g _ P v L {s with at_:=s.at_+1} a (λ_=>⟨T hb,aj,gU⟩)).mono ?_;rintro e w6 ⟨Z,J,rfl,q,k,B,d⟩;have c:=x.trans d;generalize rX g (2+1) .nil L {s with at_:=s.at_+1}=r6 at *;go_wp2
   go_ret
   rw[<-b];exact⟨_,opX (tk L s.at_).text t J,rfl,XIs.new (D.kept d A) (q.mono x.size) c.size (kxt nM),λhb=>by simp only at hb;rw[k hb],B.alloc _,c.alloc _⟩
 ·obtain⟨m,hb⟩:=kqt i;have F:kw8 L [61,61] s={s with at_:=s.at_+1}:=by unfold kw8;rw[i];rfl
  rw[F]at a;obtain⟨g,R,S,b⟩:=kv7 aj N hb (by rw[vyi M z hb,i];simp);rw[if_pos rfl]at b;go_wp2_with fail
  refine(K g _ P v L {s with at_:=s.at_+1} a (λ_=>⟨T hb,aj,gU⟩)).mono ?_;rintro e w6 ⟨Z,J,rfl,q,k,B,d⟩;have c:=u.trans d;generalize rX g (2+1) .nil L {s with at_:=s.at_+1}=r6 at *;go_wp2
  go_ret
  rw[<-b];exact⟨_,opX (tk L s.at_).text t J,rfl,XIs.new (C.kept d A) (q.mono u.size) c.size (kxt nM),λhb=>by simp only at hb;rw[k hb],B.alloc _,c.alloc _⟩
theorem jxb (f:Nat)(w:World)(P:Nat)(v:Value)(L:List Tok)(st:RS)(Z:jz7 2 259)(hS:st.bad=false->∀g,g<f->qjx 2 259 g)(h:Pd w P v L st)(E:st.bad=false->8*(L.length-st.at_)+(7-1)<=f):
  qJ 241 #[.pointer (some ⟨P,0,none⟩)] w λe w'=>EPost P v L w (rX f 1 .nil L st) e w':=by
 have K:=h.in;have D:=h.ok;have H:=vys Z hS;have I:=λ(t:PX) ht=>qqe (L:=L) (st:=st) (t:=t) (n:=1) aj E ht
 generalize rX f 1 .nil L st=fin at *;go_enter func241,ntmps241
 go_wp2_with fail
 refine(H (f-1) _ P v L st h (λhb=>⟨hb,by have:=E hb;omega,by have:=E hb;omega⟩)).mono ?_;rintro e w1 ⟨p1,U,rfl,J,Q,V,G⟩;have l:=I U Q;have m:(rX (f-1) (1+1) .nil L st).2.bad=false->st.bad=false:=λhb=>by
  cases x:st.bad
  ·rfl
  ·rw[kjz x,x]at hb;cases hb
 generalize (rX (f-1) (1+1) .nil L st).2=s1 at *;go_wp2_with fail
 go_loopw [3] (λle wr=>∃(p:Option Addr) (t:PX) (s:RS),le=.pointer p/\XIs w.heap.size wr t (.pointer p)/\zw0 L 1 f fin t s/\(s.bad=false->st.bad=false)/\Pd wr P v L s/\Kept P w wr) (λ_ wr=>L.length-qvf wr P)
 case atStart=>exact⟨p1,U,s1,rfl,J,l,m,V,G⟩
 case round=>
  obtain⟨p,t,s,rfl,X,l,F,C,W⟩:=hrel;have c:=C.lt;go_wp2_with fail
  refine(kj7 [38] ak _ P v L s C).mono ?_;rintro e w2 ⟨rfl,k,i⟩;have d:=X.kept i K;have b:=W.trans i;cases a:qo L [38] s
  ·rw[kx4 a]at k;obtain⟨y,M⟩:=qv4 aj l (λhb=>by rw[px1 D c hb,a]);go_wp2
   go_ret
   exact⟨p,t,rfl,d,λhb=>by rw[y]at hb;exact(M hb).symm,by rw[y];exact k,b⟩
  ·obtain⟨S,hb⟩:=kqt a;have B:=kjq D c a;have Y:kw8 L [38] s={s with at_:=s.at_+1}:=by unfold kw8;rw[a];rfl
   rw[Y]at k;obtain⟨g,N,O,q⟩:=kv7 aj l hb (by rw[px1 D c hb,a]);rw[if_neg aj]at q;go_wp2_with fail
   refine(H g _ P v L {s with at_:=s.at_+1} k (λ_=>⟨F hb,aj,gU⟩)).mono ?_;rintro e w6 ⟨p6,t6,rfl,T,R,j,z⟩;have A:s.at_+1<=(rX g (1+1) .nil L {s with at_:=s.at_+1}).2.at_:=kx3 g (1+1) .nil L {s with at_:=s.at_+1};have u:=b.trans z;generalize rX g (1+1) .nil L {s with at_:=s.at_+1}=r6 at *;go_wp2
   go_roundw
   case rel=>exact⟨_,_,r6.2,rfl,XIs.new (d.kept z K) (T.mono b.size) u.size (kxt (by rw[S];rfl)),(qx2 N O A c q R),λ_=>F hb,j.alloc _,u.alloc _⟩
   case measure=>have:=(kky C j B.1 B.2 (λ_=>A));exact(by rw[(j.alloc _).nx,<-j.nx];exact this)
theorem vje (f:Nat)(w:World)(P:Nat)(v:Value)(L:List Tok)(st:RS)(Z:jz7 1 241)(hS:st.bad=false->∀g,g<f->qjx 1 241 g)(h:Pd w P v L st)(E:st.bad=false->8*(L.length-st.at_)+(7-0)<=f):
  qJ 210 #[.pointer (some ⟨P,0,none⟩)] w λe w'=>EPost P v L w (rX f 0 .nil L st) e w':=by
 have K:=h.in;have D:=h.ok;have H:=vys Z hS;have I:=λ(t:PX) ht=>qqe (L:=L) (st:=st) (t:=t) (n:=0) aj E ht
 generalize rX f 0 .nil L st=fin at *;go_enter func210,ntmps210
 go_wp2_with fail
 refine(H (f-1) _ P v L st h (λhb=>⟨hb,by have:=E hb;omega,by have:=E hb;omega⟩)).mono ?_;rintro e w1 ⟨p1,U,rfl,J,Q,V,G⟩;have l:=I U Q;have m:(rX (f-1) (0+1) .nil L st).2.bad=false->st.bad=false:=λhb=>by
  cases x:st.bad
  ·rfl
  ·rw[kjz x,x]at hb;cases hb
 generalize (rX (f-1) (0+1) .nil L st).2=s1 at *;go_wp2_with fail
 go_loopw [3] (λle wr=>∃(p:Option Addr) (t:PX) (s:RS),le=.pointer p/\XIs w.heap.size wr t (.pointer p)/\zw0 L 0 f fin t s/\(s.bad=false->st.bad=false)/\Pd wr P v L s/\Kept P w wr) (λ_ wr=>L.length-qvf wr P)
 case atStart=>exact⟨p1,U,s1,rfl,J,l,m,V,G⟩
 case round=>
  obtain⟨p,t,s,rfl,X,l,F,C,W⟩:=hrel;have c:=C.lt;go_wp2_with fail
  refine(kj7 [124] ak _ P v L s C).mono ?_;rintro e w2 ⟨rfl,k,i⟩;have d:=X.kept i K;have b:=W.trans i;cases a:qo L [124] s
  ·rw[kx4 a]at k;obtain⟨y,M⟩:=qv4 aj l (λhb=>by rw[px2 D c hb,a]);go_wp2
   go_ret
   exact⟨p,t,rfl,d,λhb=>by rw[y]at hb;exact(M hb).symm,by rw[y];exact k,b⟩
  ·obtain⟨S,hb⟩:=kqt a;have B:=kjq D c a;have Y:kw8 L [124] s={s with at_:=s.at_+1}:=by unfold kw8;rw[a];rfl
   rw[Y]at k;obtain⟨g,N,O,q⟩:=kv7 aj l hb (by rw[px2 D c hb,a]);rw[if_neg aj]at q;go_wp2_with fail
   refine(H g _ P v L {s with at_:=s.at_+1} k (λ_=>⟨F hb,aj,gU⟩)).mono ?_;rintro e w6 ⟨p6,t6,rfl,T,R,j,z⟩;have A:s.at_+1<=(rX g (0+1) .nil L {s with at_:=s.at_+1}).2.at_:=kx3 g (0+1) .nil L {s with at_:=s.at_+1};have u:=b.trans z;generalize rX g (0+1) .nil L {s with at_:=s.at_+1}=r6 at *;go_wp2
   go_roundw
   case rel=>exact⟨_,_,r6.2,rfl,XIs.new (d.kept z K) (T.mono b.size) u.size (kxt (by rw[S];rfl)),(qx2 N O A c q R),λ_=>F hb,j.alloc _,u.alloc _⟩
   case measure=>have:=(kky C j B.1 B.2 (λ_=>A));exact(by rw[(j.alloc _).nx,<-j.nx];exact this)
theorem vq0:jz7 3 286:=λg w P v L st hb h=>by
 have:=jxg 0 w P v L st zvn (λh=>iZ) h (λh=>iZ);exact this.mono λe w' a=>a.state oq (λh=>lM)
theorem qkr:jz7 2 259:=λg w P v L st hb h=>by
 have:=qxm 0 w P v L st vq0 (λh=>iZ) h (λh=>iZ);exact this.mono λe w' a=>a.state oq (λh=>lM)
theorem pq0:jz7 1 241:=λg w P v L st hb h=>by
 have:=jxb 0 w P v L st qkr (λh=>iZ) h (λh=>iZ);exact this.mono λe w' a=>a.state oq (λh=>lM)
theorem exprs (f:Nat):qjx 0 210 f/\qjx 1 241 f/\qjx 2 259 f/\qjx 3 286 f/\qjx 4 296 f:=by
 induction f using Nat.strongRecOn with
 |ind f ih=>
  refine⟨?_,?_,?_,?_,(vx6 f (λg a=>(ih g a).1))⟩
  ·exact λw P v L st h b=>vje f w P v L st pq0 (λ_ g a=>(ih g a).2.1) h b
  ·exact λw P v L st h b=>jxb f w P v L st qkr (λ_ g a=>(ih g a).2.2.1) h b
  ·exact λw P v L st h b=>qxm f w P v L st vq0 (λ_ g a=>(ih g a).2.2.2.1) h b
  ·exact λw P v L st h b=>jxg f w P v L st zvn (λ_ g a=>(ih g a).2.2.2.2) h b
theorem qvq (w:World)(P:Nat)(v:Value)(L:List Tok)(st:RS)(h:Pd w P v L st):
  qJ 210 #[.pointer (some ⟨P,0,none⟩)] w λe w'=>EPost P v L w (rX (yg L) 0 .nil L st) e w':=
 (exprs (yg L)).1 w P v L st h (λ_=>by unfold yg;omega)
structure kj4 (lo:Nat)(w w':World):Prop where
 size:w.heap.size<=w'.heap.size
 block:∀k,lo<=k->k<w.heap.size->w'.heap[k]?=w.heap[k]?
theorem kj4.refl (lo:Nat)(w:World):kj4 lo w w:=⟨wJ _,λ_ _ _=>rfl⟩
theorem kj4.trans {b c: World}(h:kj4 lo a b)(k:kj4 lo b c):kj4 lo a c:=
 ⟨rU h.size k.size,λi h1 d=>(k.block i h1 (Qy d h.size)).trans (h.block i h1 d)⟩
theorem kj4.kept (h:kj4 lo a w)(b:Kept P w w')(d:P<lo):kj4 lo a w':=
 h.trans ⟨b.size,λk h1 c=>b.block k c aj⟩
theorem kj4.alloc (h:kj4 lo a w)(o:Obj):kj4 lo a (w.alloc o):=
 h.trans ⟨au,λk _ b=>tX _ _ _ b⟩
theorem kj4.set (h:kj4 lo a w){p:Addr}(c:p.block<lo\/a.heap.size<=p.block)(u:Value):kj4 lo a (w.setCell p u):=
 ⟨by simpa[World.setCell] using h.size,λk h1 b=>by rw[wP _ _ _ _ aj];exact h.block k h1 b⟩
theorem kj4.qz7 (h:kj4 lo a w)(hb:b<lo\/a.heap.size<=b):∀(c:List Value) (k:Nat),kj4 lo a (puts b c k w):=λc=>by
 induction c generalizing w with
 |nil=>exact λ_=>h
 |cons y c ih=>exact λk=>ih (h.set hb y) (k+1)
theorem XIs.qw3 (h:XIs lo w x v)(a:kj4 lo w w'):XIs lo w' x v:=h.stay a.block
def kq4:PB->Nat
 |.nil=>0
 |.node _ _ _ _ n=>kq4 n+1
theorem qz9:∀a b:PB,kq4 (kk0 a b)=kq4 a+kq4 b
 |.nil,b=>by simp[kk0,kq4]
 |.node i j a s n,b=>by rw[kk0,kq4,kq4,qz9 n b];omega
def plC:PX->List Value
 |.nil=>[.string ⟨#[]⟩,.int .i64 0,.bool false,.string ⟨#[]⟩,.int .i64 0]
 |.node _ _ x _ _=>[.string x.name.text,.int .i64 x.name.at_,.bool (!(x.index.kind.toList==[])),.string x.index.text,.int .i64 x.index.at_]
theorem vy6 (x:PX):(plC x).length=5:=by cases x<;>rfl
def stC (c:Bool)(a:SLab)(b e d:Value):List Value:=.bool c::(plC a.place++[b,e,d])
theorem qqi (c:Bool)(a:SLab)(b e d:Value):(stC c a b e d).length=9:=by simp[stC,vy6]
def BIs (lo:Nat)(no:Option Nat)(w:World):PB->List Value->Prop
 |.nil,cs=>cs=[]
 |.node _ _ a .nil n,cs=>∃p rest,cs=stC false a (.pointer p) (.slice none 0 0) (.slice none 0 0)++rest/\XIs lo w a.value (.pointer p)/\BIs lo no w n rest
 |.node _ _ a (.node _ _ _ t e) n,cs=>∃p ta tn tc ea en ec ct ce rest,cs=stC true a (.pointer p) (.slice ta tn tc) (.slice ea en ec)++rest/\XIs lo w a.cond (.pointer p) /\
   (w.ownsRow lo 334 9 (.slice ta tn tc) (kq4 t) ct/\(∀j,(Value.slice ta tn tc).ownBlock=some j->no≠some j)/\BIs lo no w t ct)/\(w.ownsRow lo 334 9 (.slice ea en ec) (kq4 e) ce/\(∀j,(Value.slice ea en ec).ownBlock=some j->no≠some j)/\BIs lo no w e ce)/\BIs lo no w n rest
theorem BIs.len {lo:Nat}{no:Option Nat}{w:World}:∀{b:PB} {cs:List Value},BIs lo no w b cs->cs.length=kq4 b*9
 |.nil,cs,h=>by
  have:cs=[]:=h;subst this;rfl
 |.node _ _ a .nil n,cs,⟨p,rest,e,hx,hn⟩=>by rw[e,wY,qqi,hn.len,kq4];omega
 |.node _ _ a (.node _ _ _ t e) n,cs,⟨p,ta,tn,tc,ea,en,ec,ct,ce,rest,e1,hx,ht,he,hn⟩=>by rw[e1,wY,qqi,hn.len,kq4];omega
theorem BIs.stay {lo:Nat}{no:Option Nat}{w w':World}(c:∀k,lo<=k->k<w.heap.size->w'.heap[k]?=w.heap[k]?):∀{b:PB} {cs:List Value},BIs lo no w b cs->BIs lo no w' b cs
 |.nil,_,h=>h
 |.node _ _ a .nil n,cs,⟨p,rest,e,hx,hn⟩=>⟨p,rest,e,hx.stay c,BIs.stay c hn⟩
 |.node _ _ a (.node _ _ _ t e) n,cs,⟨p,ta,tn,tc,ea,en,ec,ct,ce,rest,e1,hx,⟨ht1,ht3,ht2⟩,⟨he1,he3,he2⟩,hn⟩=>
  ⟨p,ta,tn,tc,ea,en,ec,ct,ce,rest,e1,hx.stay c,⟨jq c ht1,ht3,BIs.stay c ht2⟩,⟨jq c he1,he3,BIs.stay c he2⟩,BIs.stay c hn⟩
theorem BIs.qw3 {b:PB}{cs:List Value}(h:BIs lo no w b cs)(a:kj4 lo w w'):BIs lo no w' b cs:=h.stay a.block
theorem BIs.mono {lo lo':Nat}{no:Option Nat}{w:World}(c:lo'<=lo):∀{b:PB} {cs:List Value},BIs lo no w b cs->BIs lo' no w b cs
 |.nil,_,h=>h
 |.node _ _ a .nil n,cs,⟨p,rest,e,hx,hn⟩=>⟨p,rest,e,hx.mono c,BIs.mono c hn⟩
 |.node _ _ a (.node _ _ _ t e) n,cs,⟨p,ta,tn,tc,ea,en,ec,ct,ce,rest,e1,hx,⟨ht1,ht3,ht2⟩,⟨he1,he3,he2⟩,hn⟩=>
  ⟨p,ta,tn,tc,ea,en,ec,ct,ce,rest,e1,hx.mono c,⟨zu c ht1,ht3,BIs.mono c ht2⟩,⟨zu c he1,he3,BIs.mono c he2⟩,BIs.mono c hn⟩
theorem BIs.app {lo:Nat}{no:Option Nat}{w:World}:∀{b c:PB} {cs ds:List Value},BIs lo no w b cs->BIs lo no w c ds->BIs lo no w (kk0 b c) (cs++ds)
 |.nil,c,cs,ds,h,h'=>by
  have:cs=[]:=h;subst this;exact h'
 |.node _ _ a .nil n,c,cs,ds,⟨p,rest,e,hx,hn⟩,h'=>⟨p,rest++ds,lK,hx,hn.app h'⟩
 |.node _ _ a (.node _ _ _ t e) n,c,cs,ds,⟨p,ta,tn,tc,ea,en,ec,ct,ce,rest,e1,hx,ht,he,hn⟩,h'=>⟨p,ta,tn,tc,ea,en,ec,ct,ce,rest++ds,by rw[e1,sD],hx,ht,he,hn.app h'⟩
theorem BIs.shun {lo:Nat}{no no':Option Nat}{w:World}(c:∀k,no'=some k->no=some k\/w.heap.size<=k\/k<lo):∀{b:PB} {cs:List Value},BIs lo no w b cs->BIs lo no' w b cs
 |.nil,_,h=>h
 |.node _ _ a .nil n,cs,⟨p,rest,e,hx,hn⟩=>⟨p,rest,e,hx,BIs.shun c hn⟩
 |.node _ _ a (.node _ _ _ t e) n,cs,⟨p,ta,tn,tc,ea,en,ec,ct,ce,rest,e1,hx,⟨ht1,ht3,ht2⟩,⟨he1,he3,he2⟩,hn⟩=>by
  have out:∀{v:Value} {m:Nat} {q:List Value},w.ownsRow lo 334 9 v m q->(∀j,v.ownBlock=some j->no≠some j)->∀j,v.ownBlock=some j->no'≠some j:=by
   intro v m q h1 f j d g;have i:=xg h1 j d;have l:=mg h1 j d;rcases c j g with h|h|h
   ·exact f j d h
   ·omega
   ·omega
  exact⟨p,ta,tn,tc,ea,en,ec,ct,ce,rest,e1,hx,⟨ht1,out ht1 ht3,BIs.shun c ht2⟩,⟨he1,out he1 he3,BIs.shun c he2⟩,BIs.shun c hn⟩
theorem XIs.grown {lo base e size:Nat}{w w':World}{v:Value}{n:Nat}{xs:List Value}(c:w.ownsRow base e size v n xs)(a:358≠e)(b:w.grownBy w' v.ownBlock):∀{x:PX} {p:Value},XIs lo w x p->XIs lo w' x p
 |.nil,_,h=>h
 |.node _ _ _ _ _,_,⟨k,va,vb,e1,hn,hh,ha,hb⟩=>⟨k,va,vb,e1,hn,jY,XIs.grown c a b ha,XIs.grown c a b hb⟩
theorem BIs.kv4 {lo base:Nat}{w w':World}{v:Value}{n:Nat}{xs:List Value}{no':Option Nat}(g:w.ownsRow base 334 9 v n xs)(f:w.grownBy w' v.ownBlock)(d:∀k,no'=some k->v.ownBlock=some k\/w.heap.size<=k):
  ∀{b:PB} {cs:List Value},BIs lo v.ownBlock w b cs->BIs lo no' w' b cs
 |.nil,_,h=>h
 |.node _ _ a .nil nx,cs,⟨p,rest,e,hx,hn⟩=>⟨p,rest,e,hx.grown g ak f,BIs.kv4 g f d hn⟩
 |.node _ _ a (.node _ _ _ t e) nx,cs,⟨p,ta,tn,tc,ea,en,ec,ct,ce,rest,e1,hx,⟨ht1,ht3,ht2⟩,⟨he1,he3,he2⟩,hn⟩=>by
  have c:∀{u:Value} {m:Nat} {q:List Value},w.ownsRow lo 334 9 u m q->(∀j,u.ownBlock=some j->v.ownBlock≠some j)->w'.ownsRow lo 334 9 u m q/\(∀j,u.ownBlock=some j->no'≠some j):=by
   intro u m q h1 i;constructor
   ·refine h1.kept f ?_;cases x:u.ownBlock with
    |none=>exact Or.inl rfl
    |some j=>exact Or.inr λh=>i j x h.symm
   ·intro j l s;have y:=mg h1 j l;rcases d j s with h|h
    ·exact i j l h
    ·omega
  exact⟨p,ta,tn,tc,ea,en,ec,ct,ce,rest,e1,hx.grown g ak f,⟨(c ht1 ht3).1,(c ht1 ht3).2,BIs.kv4 g f d ht2⟩,⟨(c he1 he3).1,(c he1 he3).2,BIs.kv4 g f d he2⟩,BIs.kv4 g f d hn⟩
theorem jj0 {c:Bool}{a:SLab}{p:Option Addr}{g e:Option Addr}{j i en f:Nat}:∀u∈stC c a (.pointer p) (.slice g j i) (.slice e en f),u.oneCell'=true:=by
 intro u b;unfold stC at b;simp only[sW,ru,Qa,or_false]at b;rcases b with rfl|h|rfl|rfl|rfl
 ·rfl
 ·cases d:a.place with
  |nil=>rw[d]at h;simp only[plC,sW,Qa,or_false]at h;rcases h with rfl|rfl|rfl|rfl|rfl<;>rfl
  |node _ _ x _ _=>rw[d]at h;simp only[plC,sW,Qa,or_false]at h;rcases h with rfl|rfl|rfl|rfl|rfl<;>rfl
 ·rfl
 ·rfl
 ·rfl
def px3 (P:Nat)(v:Value)(L:List Tok)(w:World)(r:PB×RS)(e:Ending)(w':World):Prop:=
 ∃b cs,e=.returned (.agg cs.toArray)/\BIs w.heap.size none w' b cs/\kq4 b=1/\(∀u∈cs,u.oneCell'=true)/\(r.2.bad=false->b=r.1)/\Pd w' P v L r.2/\Kept P w w'
def zw8 (P:Nat)(v:Value)(L:List Tok)(w:World)(r:PB×RS)(e:Ending)(w':World):Prop:=
 ∃ua un uc b cs,e=.returned (.slice ua un uc)/\w'.ownsRow w.heap.size 334 9 (.slice ua un uc) (kq4 b) cs/\BIs w.heap.size (Value.slice ua un uc).ownBlock w' b cs/\(r.2.bad=false->b=r.1)/\Pd w' P v L r.2/\Kept P w w'/\kq4 b<=802
theorem jwj (L:List Tok)(st:RS)(h:bg L)(f:st.at_<L.length):∃x:ELab,[Value.string (plT L st).1.text,.int .i64 (plT L st).1.at_,.bool (plT L st).2.1,.string (plT L st).2.2.1.text,.int .i64 (plT L st).2.2.1.at_]=plC (.node 0 0 x .nil .nil) /\
  ((yt L st).2.bad=false->.node 0 0 x .nil .nil=(yt L st).1):=by
 obtain⟨x,h1,g⟩:=zzq L st h f;refine⟨x,?_,g⟩;unfold kwy at h1;have:=congrArg Array.toList h1;simp only[List.cons.injEq]at this;obtain⟨_,_,a,b,c,d,e,_⟩:=this;simp only[plC];rw[a,b,c,d,e]
theorem kk6 {L:List Tok}{st:RS}(h:st.bad=true):∀f tag:Nat,(rS f tag L st).2=st
 |0,_=>rfl
 |f+1,0=>by
  rw[rS,kqp h];show qy L [125] (rS f 1 L st).2=st;rw[kk6 h f 1,kqp h]
 |f+1,t+1=>by rw[rS];simp[h]
theorem kkv {t:TypeId}(h:w.heap[b]?=some (.cells #[x0,x1,x2,x3,x4,x5,x6,x7,x8] t (0,0))):
  (Ce w b 0 x0/\Ce w b 1 x1/\Ce w b 2 x2/\Ce w b 3 x3/\Ce w b 4 x4/\Ce w b 5 x5/\Ce w b 6 x6/\Ce w b 7 x7/\Ce w b 8 x8) /\
  (Fr w b 0/\Fr w b 1/\Fr w b 2/\Fr w b 3/\Fr w b 4/\Fr w b 5/\Fr w b 6/\Fr w b 7/\Fr w b 8):=
 ⟨⟨rc h 0,rc h 1,rc h 2,rc h 3,rc h 4,rc h 5,rc h 6,rc h 7,rc h 8⟩,
  ⟨rf h 0,rf h 1,rf h 2,rf h 3,rf h 4,rf h 5,rf h 6,rf h 7,rf h 8⟩⟩
theorem jj5 {t:TypeId}(h:w.heap[b]?=some (.cells #[x0,x1,x2,x3,x4,x5,x6,x7,x8] t (0,0)))(y0 y1 y2 y3 y4 y5 y6 y7 y8:Value):
  (puts b [y0,y1,y2,y3,y4,y5,y6,y7,y8] 0 w).heap[b]?=some (.cells #[y0,y1,y2,y3,y4,y5,y6,y7,y8] t (0,0)):=zqe _ _ h
theorem Pd.qk3 {B: Nat}    (h:Pd w P v L st)(a:∀g,v.ownBlock=some g->g<B)(c:P<B)  (hb:B<=b)(y0 y1 y2 y3 y4 y5 y6 y7 y8:Value):
  Pd (puts b [y0,y1,y2,y3,y4,y5,y6,y7,y8] 0 w) P v L st:=h.qz7 a c hb _ _
theorem Kept.qk3 (h:Kept P a w)  (hb:a.heap.size<=b)(y0 y1 y2 y3 y4 y5 y6 y7 y8:Value):
  Kept P a (puts b [y0,y1,y2,y3,y4,y5,y6,y7,y8] 0 w):=h.qz7 hb _ _
theorem kj4.qk3 (h:kj4 lo a w)  (hb:b<lo\/a.heap.size<=b)(y0 y1 y2 y3 y4 y5 y6 y7 y8:Value):
  kj4 lo a (puts b [y0,y1,y2,y3,y4,y5,y6,y7,y8] 0 w):=h.qz7 hb _ _
def jz8 (f:Nat):Prop:=∀(w:World) (P:Nat) (v:Value) (L:List Tok) (st:RS),Pd w P v L st->(st.bad=false->2*(L.length-st.at_)+2<=f) ->
 qJ 211 #[.pointer (some ⟨P,0,none⟩)] w λe w'=>zw8 P v L w (rS f 0 L st) e w'
def vj6:Prop:=∀(g:Nat) (w:World) (P:Nat) (v:Value) (L:List Tok) (st:RS),st.bad=true->Pd w P v L st ->
 qJ 211 #[.pointer (some ⟨P,0,none⟩)] w λe w'=>zw8 P v L w (rS g 0 L st) e w'
theorem pxj (b:st0.bad=false->vj6)(c:st0.bad=false->jz8 f)(a:st0.bad=false)(w:World)(P:Nat)(v:Value)(L:List Tok)(st:RS)(h:Pd w P v L st)(d:st.bad=false->2*(L.length-st.at_)+2<=f):
  qJ 211 #[.pointer (some ⟨P,0,none⟩)] w λe w'=>zw8 P v L w (rS f 0 L st) e w':=by
 cases hb:st.bad
 ·exact c a w P v L st h (λ_=>d hb)
 ·exact b a f w P v L st hb h
theorem vkb {s3: RS}{x:PX×RS}(h:qo L oh st=false)(h1:qy L [61] (yt L st).2=s3)(a:rX (yg L) 0 .nil L s3=x):rDo blk L st=(vk8 (yt L st).1 x.1,qy L [59] x.2):=by
 subst h1;subst a;unfold rDo;rw[h];rfl
theorem vy4 {s1: RS}{x:PX×RS}{b:PB×RS}(h:qo L oh st=true)(h1:qy L oh st=s1)(a:rX (yg L) 0 .nil L s1=x)(c:blk x.2=b):
  (qo L oC b.2=false->rDo blk L st=(ifS x.1 b.1 .nil,b.2))/\(qo L oC b.2=true->rDo blk L st=(ifS x.1 b.1 (blk (qy L oC b.2)).1,(blk (qy L oC b.2)).2)):=by
 subst h1;subst a;subst c;constructor<;>intro d<;>(unfold rDo;rw[h,d];rfl)
theorem zjv {tag: Nat}   (h:(rX f tag x L s).2.bad=false):s.bad=false:=by
 cases hb:s.bad
 ·rfl
 ·rw[kjz hb,hb]at h;cases h
theorem zyz (f:Nat)(w:World)(P:Nat)(v:Value)(L:List Tok)(st:RS)(hB:st.bad=false->vj6)(hS:st.bad=false->jz8 f)(h:Pd w P v L st)(hf:st.bad=false->2*(L.length-st.at_)<=f):
  qJ 242 #[.pointer (some ⟨P,0,none⟩)] w λe w'=>px3 P v L w (rDo (rS f 0 L) L st) e w':=by
 have hX:=h.in;have HV:=pG h.mg;have hL:=h.ok;have b8:=hL.len;have aK:=h.lt;have a2:=pG (pxj hB hS);clear hB hS;go_enter func242,ntmps242
 go_wp2_with fail
 refine(kj7 oh ak _ P v L st (h.alloc _)).mono ?_;rintro e w1 ⟨rfl,h1,a8⟩;have a9:=a8.row (b:=w.heap.size) aj (qg _ _);have bD:=wu a9;have N:=pG a9;have M:=pG ((Kept.kqn _).trans a8);clear h a8 a9;cases hn:qo L oh st
 ·rw[kx4 hn]at h1;have S:=pG h1;clear h1;go_wp2_with fail
  refine(zkv _ P v L st (ku S)).mono ?_;rintro e H ⟨rfl,Q,i⟩;rw[zyy]at Q;obtain⟨xp,aA,aB⟩:=jwj L st hL aK;have W:=pG (vkb (blk:=rS f 0 L) hn rfl rfl);have K:=pG (show(rX (yg L) 0 .nil L (qy L [61] (yt L st).2)).2.bad=false->(yt L st).2.bad=false from λh=>kja (zjv h));have aS:=pG aA;have aT:=pG aB;have u:=i.row aj (ku N);have aZ:=wu u;have D:=pG u;have A:=pG ((ku M).trans i);have T:=pG Q;clear Q i u N M S aA aB;generalize plT L st=g at *;generalize yt L st=rp at *;unfold plV;go_wp2_with fail
  refine(kjy [61] ak rfl rfl _ P v L _ ((ku T).alloc _)).mono ?_;rintro e w3 ⟨rfl,h3,d⟩;generalize qy L [61] rp.2=s3 at *;have E:=pG (d.row aj (zy (ku D)));have a4:=pG (d.row (b:=H.heap.size) aj (qg _ _));have B:=pG (((ku A).alloc _).trans d);have b2:=wu (ku a4);have U:=pG h3;clear h3 d D A T;go_wp2_with fail
  refine(qvq _ P v L s3 (ku U)).mono ?_;rintro e w4 ⟨J,t4,rfl,aQ,aO,z,c⟩;have l:=pG (c.row aj (ku E));have aC:=c.row (b:=H.heap.size) aj (ku a4);have s:=pG ((ku B).trans c);have b4:=c.size;have aX:=pG aO;have O:=pG aQ;have I:=pG z;obtain⟨⟨_,_,_,_,_,_,g6,_,_⟩,⟨_,_,_,_,_,_,f6,_,_⟩⟩:=kkv aC;have m:=pG aC;clear z c aQ aO aC E a4 B U;generalize rX (yg L) 0 .nil L s3=r4 at *;go_wp2_with fail
  clear g6 f6;refine(kjy [59] ak rfl rfl _ P v L _ ((ku I).setOther (ku HV) hX ay _)).mono ?_;rintro e w5 ⟨rfl,h5,a⟩;have q:=a.row (b:=w.heap.size) aj ((wP _ _ _ _ ay).trans (ku l));have G:=a.row (b:=H.heap.size) aj (heap_setCell_same _ _ 6 _ _ _ (ku m));have Z:=pG (((ku s).jk (p:=⟨H.heap.size,6,none⟩) ay (.pointer J)).trans a);have aW:=pG ((((kj4.refl w3.heap.size w4).set (p:=⟨H.heap.size,6,none⟩) (Or.inl ay) (.pointer J)).kept a aj));obtain⟨⟨d0,d1,d2,d3,d4,d5,d6,d7,d8⟩,⟨e0,e1,e2,e3,e4,e5,e6,e7,e8⟩⟩:=kkv q;obtain⟨⟨g0,g1,g2,g3,g4,g5,g6,g7,g8⟩,_⟩:=kkv G;have a3:=pG q;have H5:=pG h5;clear h5 a q G l m s I;go_wp2
  refine rY (v:=.agg #[.bool false,.string g.1.text,.int .i64 g.1.at_,.bool g.2.1,.string g.2.2.1.text,.int .i64 g.2.2.1.at_,.pointer J,.slice none 0 0,.slice none 0 0]) (rP results242 _ _ w.heap.size _ _ _ _ rfl (jj5 (ku a3) _ _ _ _ _ _ _ _ _) underlying334 rfl ah) rfl ?_;rw[ku W];have aI:[Value.bool false,.string g.1.text,.int .i64 g.1.at_,.bool g.2.1,.string g.2.2.1.text,.int .i64 g.2.2.1.at_,.pointer J,.slice none 0 0,.slice none 0 0]=stC false {place:=.node 0 0 xp .nil .nil,value:=t4,cond:=.nil} (.pointer J) (.slice none 0 0) (.slice none 0 0):=by
   unfold stC;simp only;rw[<-ku aS];rfl
  refine⟨.node 0 0 {place:=.node 0 0 xp .nil .nil,value:=t4,cond:=.nil} .nil .nil,[Value.bool false,.string g.1.text,.int .i64 g.1.at_,.bool g.2.1,.string g.2.2.1.text,.int .i64 g.2.2.1.at_,.pointer J,.slice none 0 0,.slice none 0 0],rfl,⟨J,[],by rw[Qg];exact aI,?_,rfl⟩,rfl,by rw[aI];exact jj0,?_,(ku H5).qk3 (ku HV) hX (wJ _) _ _ _ _ _ _ _ _ _,(ku Z).qk3 (wJ _) _ _ _ _ _ _ _ _ _⟩
  ·exact((ku O).qw3 ((ku aW).qk3 (Or.inl aj) _ _ _ _ _ _ _ _ _)).mono aj
  ·intro hb;have aG:=kja hb;have aY:rp.2.bad=false:=(ku K) aG;rw[(ku aX) aG,(ku aT) aY];rfl
 ·have a5:=(kqt hn).2;have bC:=kjq hL aK hn;have b9:=hf a5;have em:kw8 L oh st=qy L oh st:=qzj hn rfl rfl;have b6:(qy L oh st).at_=st.at_+1:=jP;rw[em]at h1;have hD:=vy4 (blk:=rS f 0 L) hn rfl rfl rfl;have X:=pG hD.1;have Y:=pG hD.2;have S:=pG h1;clear h1 em hD;generalize qy L oh st=s1 at *;go_wp2_with fail
  refine(qvq _ P v L s1 (ku S)).mono ?_;rintro e H ⟨p2,t2,rfl,u,aN,Q,i⟩;have bA:=kx3 (yg L) 0 .nil L s1;have D:=pG (i.row aj (ku N));have A:=pG ((ku M).trans i);have aZ:=i.size;have aF:=pG aN;have O:=pG u;have T:=pG Q;clear Q i u aN N M S;generalize rX (yg L) 0 .nil L s1=R at *;go_wp2_with fail
  refine((ku a2) a5 _ P v L R.2 (ku T) (λ_=>aj)).mono ?_;rintro e w3 ⟨ua,un,uc,b3,c3,rfl,aL,a6,F,h3,d,_⟩;have aJ:(rS f 0 L R.2).2.bad=false->R.2.bad=false:=λh=>by
   cases hb:R.2.bad
   ·rfl
   ·rw[kk6 hb,hb]at h;cases h
  have bB:=kk2 L f 0 R.2;have aP:=d.row aj (ku D);have b2:=d.size;have E:=pG aP;have B:=pG ((ku A).trans d);have aE:=pG aL;have V:=pG a6;have aD:=pG F;have K:=pG aJ;have a0:=pG ((kj4.refl w1.heap.size H).kept d aj);have U:=pG h3;clear h3 d aP aL a6 F aJ D A T;generalize rS f 0 L R.2=r3 at *;go_wp2_with fail
  refine(kj7 oC ak _ P v L _ ((ku U).alloc _)).mono ?_;rintro e w4 ⟨rfl,z,c⟩;have l:=pG (c.row aj (zy (ku E)));have m:=pG (c.row (b:=w3.heap.size) aj (qg _ _));have b4:=wu (ku m);have s:=pG (((ku B).alloc _).trans c);have x:=pG (((ku a0).alloc _).kept c aj);have y:=pG (((kj4.refl H.heap.size w3).alloc _).kept c aj);clear c E B U a0;cases t:qo L oC r3.2
  ·rw[kx4 t]at z;have I:=pG z;have W:=pG ((ku X) t);clear z X Y;obtain⟨⟨d0,d1,d2,d3,d4,d5,d6,d7,d8⟩,⟨e0,e1,e2,e3,e4,e5,e6,e7,e8⟩⟩:=kkv (ku l);obtain⟨⟨g0,g1,g2,g3,g4,g5,g6,g7,g8⟩,_⟩:=kkv (ku m);go_wp2
   refine rY (v:=.agg (stC true {place:=.nil,value:=.nil,cond:=t2} (.pointer p2) (.slice ua un uc) (.slice none 0 0)).toArray) (rP results242 _ _ w.heap.size _ _ _ _ rfl (jj5 (ku l) _ _ _ _ _ _ _ _ _) underlying334 rfl ah) rfl ?_;rw[ku W];refine⟨.node 0 0 {place:=.nil,value:=.nil,cond:=t2} (.node 0 0 noS b3 .nil) .nil,_,rfl,⟨p2,ua,un,uc,none,0,0,c3,[],[],by rw[Qg],?_,⟨?_,(λj _ h=>gY),?_⟩,⟨wB _ _ _ _,(λj _ h=>gY),rfl⟩,rfl⟩,rfl,jj0,?_,(ku I).qk3 (ku HV) hX (wJ _) _ _ _ _ _ _ _ _ _,(ku s).qk3 (wJ _) _ _ _ _ _ _ _ _ _⟩
   ·exact((ku O).qw3 ((ku x).qk3 (Or.inl aj) _ _ _ _ _ _ _ _ _)).mono aj
   ·exact zu aj (jq ((ku y).qk3 (Or.inl aj) _ _ _ _ _ _ _ _ _).block (ku aE))
   ·exact(((ku V).shun (no':=none) (λk hk=>by cases hk)).qw3 ((ku y).qk3 (Or.inl aj) _ _ _ _ _ _ _ _ _)).mono aj
   ·intro hb;rw[(ku aF) ((ku K) hb),(ku aD) hb];rfl
  ·rw[qzj t rfl rfl]at z;have I:=pG z;have W:=pG ((ku Y) t);have F:=(kqt t).2;have b7:(qy L oC r3.2).at_=r3.2.at_+1:=by rw[kzx rfl rfl];unfold zj0;rw[t];rfl
   clear z X Y;generalize qy L oC r3.2=s4 at *;go_wp2_with fail
   refine((ku a2) a5 _ P v L s4 (ku I) (λ_=>aj)).mono ?_;rintro e w5 ⟨va,vn,vc,b5,c5,rfl,aM,a7,aH,h5,a,_⟩;have q:=a.row aj (ku l);have G:=a.row (b:=w3.heap.size) aj (ku m);have bF:=a.size;obtain⟨⟨d0,d1,d2,d3,d4,d5,d6,d7,d8⟩,⟨e0,e1,e2,e3,e4,e5,e6,e7,e8⟩⟩:=kkv q;obtain⟨⟨g0,g1,g2,g3,g4,g5,g6,g7,g8⟩,⟨_,_,_,_,_,_,_,_,f8⟩⟩:=kkv G;have a3:=pG q;have Z:=pG ((ku s).trans a);have aV:=pG aM;have aR:=pG a7;have aU:=pG aH;have a1:=pG ((ku x).kept a aj);have C:=pG ((ku y).kept a aj);have H5:=pG h5;clear h5 a q G aM a7 aH l s m I x y;generalize rS f 0 L s4=r5 at *;go_wp2
   refine rY (v:=.agg (stC true {place:=.nil,value:=.nil,cond:=t2} (.pointer p2) (.slice ua un uc) (.slice va vn vc)).toArray) (rP results242 _ _ w.heap.size _ _ _ _ rfl (jj5 (w:=w5.setCell ⟨w3.heap.size,8,none⟩ _) (by rw[wP _ _ _ _ ay];exact ku a3) _ _ _ _ _ _ _ _ _) underlying334 rfl ah) rfl ?_;rw[ku W];refine⟨.node 0 0 {place:=.nil,value:=.nil,cond:=t2} (.node 0 0 noS b3 b5) .nil,_,rfl,⟨p2,ua,un,uc,va,vn,vc,c3,c5,[],by rw[Qg],?_,⟨?_,(λj _ h=>gY),?_⟩,⟨?_,(λj _ h=>gY),?_⟩,rfl⟩,rfl,jj0,?_,((ku H5).setOther (ku HV) hX ay _).qk3 (ku HV) hX (wJ _) _ _ _ _ _ _ _ _ _,((ku Z).jk ay _).qk3 (wJ _) _ _ _ _ _ _ _ _ _⟩
   ·exact((ku O).qw3 (((ku a1).set (Or.inr ay) _).qk3 (Or.inl aj) _ _ _ _ _ _ _ _ _)).mono aj
   ·exact zu aj (jq (((ku C).set (Or.inr au) _).qk3 (Or.inl aj) _ _ _ _ _ _ _ _ _).block (ku aE))
   ·exact(((ku V).shun (no':=none) (λk hk=>by cases hk)).qw3 (((ku C).set (Or.inr au) _).qk3 (Or.inl aj) _ _ _ _ _ _ _ _ _)).mono aj
   ·exact zu aj (jq (((kj4.refl w4.heap.size w5).set (Or.inl ay) _).qk3 (Or.inl aj) _ _ _ _ _ _ _ _ _).block (ku aV))
   ·exact(((ku aR).shun (no':=none) (λk hk=>by cases hk)).qw3 (((kj4.refl w4.heap.size w5).set (Or.inl ay) _).qk3 (Or.inl aj) _ _ _ _ _ _ _ _ _)).mono aj
   ·intro hb;rw[(ku aF) ((ku K) F),(ku aD) F,(ku aU) hb];rfl
end Go.Proofs.YtpmcnonmkghokaaGreatDoor

import Derived.Test.YtpmcnonmkghokaaGreatDoorT16
import Derived.Lib.SliceRun
import Derived.Laws.OwnMore
import Derived.Test.YtpmcnonmkghokaaGreatDoorT04
set_option maxRecDepth 100000
set_option maxHeartbeats 4000000
set_option linter.unusedVariables false
set_option linter.unusedSimpArgs false
namespace Go.Proofs.YtpmcnonmkghokaaGreatDoor
open Go.Proofs.Tryz
open Go.RowKit
attribute [local go_sem ↓] Go.wp_at_zero Go.wp_at_succ
variable {b:Bool}{ms st:List Int}{vars:List MVar}{l:List PP}{xs:List Value}{B M R cap e g lo n nb size:Nat}{o:Option Nat}{v:Value}{a w w':World}{tab:kq1}
theorem Rn.setSt (h:Rn lo w R M nb vars tab l ms st (.slice (some ⟨g,0,none⟩) n cap) b)(q:Nat)(y:Int):Rn lo (w.setCell ⟨g,q,none⟩ (.int .u8 y)) R M nb vars tab l ms (st.set q y) (.slice (some ⟨g,0,none⟩) n cap) b:=by
 obtain⟨⟨v,pa,pn,pc,t,u,mc,k,s,hM⟩,m,e⟩:=h;obtain⟨A,B,f,_⟩:=ql e;injection f with a j f;subst j;have d:∃c,w.heap[g]?=some (.cells c 5 (0,0)):=by
  rcases e.2 with⟨h1,_⟩|⟨z,p,c,a,j,f,_⟩
  ·cases h1
  ·injection a with a _ x;injection a with a;injection a with a;subst a;exact⟨c,f⟩
 obtain⟨c,d⟩:=d;have i:Kept g w (w.setCell ⟨g,q,none⟩ (.int .u8 y)):=(Kept.refl _ _).kzq q _;refine⟨⟨v,pa,pn,pc,t,u,mc,i.row (zx8 k d ak) k,kqb s d ak i,kqb hM d ak i⟩,m.nm d ak ak ak i,?_⟩;have:=zyp e q (.int .u8 y);rw[Jv,ZP];exact this
theorem kxw.vk8 {q: Nat}   {u:Value}(h:kxw R (Value.ownBlock (.slice (some ⟨g,0,none⟩) n cap)) a w):kxw R (Value.ownBlock (.slice (some ⟨g,0,none⟩) n cap)) a (w.setCell ⟨g,q,none⟩ u):=by
 have b:Kept g w (w.setCell ⟨g,q,none⟩ u):=(Kept.refl _ _).kzq q _;exact h.trans ⟨b.os,b.tape,b.output,b.size,λk h1 _ c=>b.block k h1 (λe=>c oz)⟩
theorem jk8 (x:PX)(w:World)(lo xo R M nb:Nat)(vars:List MVar)(tab:kq1)(l:List PP)(ms st:List Int)(sv:Value)(b:Bool)(n i:Tok)(p ta ea:Option Addr)(tn tc en ec:Nat)(c:Bool)(h:Rn lo w R M nb vars tab l ms st sv b)(hv:vars.length<=1000)(Y:l.length<=1000)(hX:XIs xo w x (.pointer p))(hs:∀y∈cu x,y.text.size<=1000)(A:∀y∈kz7 n i,y.text.size<=1000)(r:List Int×Bool)(a:jvx vars tab l ms st n i x=some r):
  qJ 192 #[.pointer (some ⟨R,0,none⟩),.agg #[.bool c,.string n.text,.int .i64 n.at_,.bool (!(i.kind.toList==[])),.string i.text,.int .i64 i.at_,.pointer p,.slice ta tn tc,.slice ea en ec]] w λe w'=>e=.returned (.tuple #[])/\Rn lo w' R M nb vars tab l ms r.1 sv (b||r.2)/\kxw R sv.ownBlock w w':=by
 unfold jvx at a;obtain⟨pv,hp,a⟩:=wQ.mp a;obtain⟨v,Z,a⟩:=wQ.mp a;obtain⟨q,hq,a⟩:=wQ.mp a;have aG:n.text.size<=1000:=A n kV;have X:(i.kind.toList==[])=false->i.text.size<=1000:=λe=>A i (by unfold kz7;rw[e];simp)
 obtain⟨W,O⟩:∃W,W=w.alloc (.cells #[.bool c,.string n.text,.int .i64 n.at_,.bool (!(i.kind.toList==[])),.string i.text,.int .i64 i.at_,.pointer p,.slice ta tn tc,.slice ea en ec] 334):=⟨_,rfl⟩;have z:pU w W:=by rw[O];exact below_alloc1 w _
 have hS:W.heap[w.heap.size]?=some (.cells #[.bool c,.string n.text,.int .i64 n.at_,.bool (!(i.kind.toList==[])),.string i.text,.int .i64 i.at_,.pointer p,.slice ta tn tc,.slice ea en ec] 334 (0,0)):=by rw[O];exact qg _ _
 have aK:=h.lt;have HV:=pG (qxz x W lo xo R M nb vars tab l ms st sv b _ (h.below z) hv Y (hX.below z) hs pv hp);obtain⟨⟨q0,q1,q2,q3,q4,q5,q6,q7,q8⟩,_⟩:=kkv hS;have HS:=pG hS;have j:=pG (qvb z R sv.ownBlock);have aC:=pG O.symm;have K:=pG a;have aB:=pG Z;have C:=pG (λ(w3:World) (L:Bool) (h3:Rn lo w3 R M nb vars tab l ms st sv L) (va:Option Addr) (P:Nat)=>vqu w3 lo R M nb vars tab l ms st sv L v va P n i h3 hv Y X q hq);unfold kkd pl5 at C;generalize (!(i.kind.toList==[]))=d at *;clear a Z hq hp hs A X hX h z hS O;go_enter func192,ntmps192
 go_wp2_with fail
 rw[ku aC];refine(ku HV).mono ?_;rintro e w1 ⟨rfl,h1,G⟩;have F:=G.row (b:=w.heap.size) aj (ku HS);obtain⟨⟨a0,a1,a2,a3,a4,a5,a6,a7,a8⟩,_⟩:=kkv F;have U:=pG (qjp w1 lo R M nb vars tab l ms st sv _ n h1 aG v (ku aB) hv);have E:=pG F;have H1:=pG h1;have S:=pG ((ku j).trans (G.o _));clear h1 G F q0 q1 q2 q3 q4 q5 q6 q7 q8 j HV;go_wp2_with fail
 refine(ku U).mono ?_;rintro e w2 ⟨va,P,rfl,hT,f⟩;have A:=f.size;have aH:w.heap.size<w1.heap.size:=wu (ku E);obtain⟨⟨b0,b1,b2,L,b4,b5,b6,b7,b8⟩,_⟩:=kkv ((f.block w.heap.size aH).trans (ku E));have h2:=((ku H1).below f);have aJ:=h2.lt;have Q:=pG ((ku C) (w2.alloc (.cells (kkd v va P) 213)) _ (h2.below (below_alloc1 _ _)) va P);have T:=pG ((ku S).trans (qvb f R sv.ownBlock));unfold kkd at *;have aI:w.heap.size<w2.heap.size:=aj;clear h2 f hT H1 E U a0 a1 a2 a3 a4 a5 a6 a7 a8 S;go_wp2_with fail
 refine(ku Q).mono ?_;rintro e w4 ⟨rfl,N,H⟩;have V:=H.row (b:=w2.heap.size) aj (qg _ _);obtain⟨v0,v1,v2,v3,v4,_⟩:=jl V;obtain⟨r1,r4,r5,rf⟩:=N.cells;obtain⟨sa,sc,I,B⟩:=N.pjy;have H4:=pG N;have D:=pG ((ku T).trans ((qvb (below_alloc1 _ _) R sv.ownBlock).trans (H.o _)));have a:=ku K;clear N H V Q T b0 b1 b2 L b4 b5 b6 b7 b8;have s:=pG (λ(e:r=(st,true))=>(show Rn lo (w4.setCell ⟨R,5,none⟩ (.bool true)) R M nb vars tab l ms r.1 sv (b||r.2) by rw[e,Ju];exact(ku H4).wrong true));have j:=pG ((ku D).trans (((Kept.refl R w4).kzq 5 (.bool true)).o sv.ownBlock));by_cases a9:pv.1<0
 ·rw[if_pos (by simp[a9])]at a;injection a with a;have t:=pG ((ku s) a.symm);generalize pv.1=y at *;clear B I a K s;go_wp2
  refine rY (results_none rfl _ _ _) rfl ?_;exact⟨rfl,ku t,ku j⟩
 ·by_cases aE:(v.texts.length:Int)<=pv.1
  ·rw[if_pos (by simp[aE])]at a;injection a with a;have t:=pG ((ku s) a.symm);generalize pv.1=y at *;clear B I a K s;go_wp2
   refine rY (results_none rfl _ _ _) rfl ?_;exact⟨rfl,ku t,ku j⟩
  ·rw[if_neg ay]at a;by_cases m:(pv.1 > 255||q.1<0||q.1 >= (st.length:Int))=true
   ·rw[if_pos m]at a;cases a
   ·rw[if_neg m]at a;injection a with a;simp only[Qu,sQ,not_or,ge_iff_le,gt_iff_lt]at m;obtain⟨⟨aL,f⟩,aD⟩:=m;obtain⟨J,pw⟩:=pv;obtain⟨q1,qw⟩:=q;obtain⟨k,rfl⟩:=Qq (show 0<=q1 by simpa using f);have aF:k<st.length:=by simpa using aD
    obtain⟨g,rfl,aO,aM,aN⟩:=B k aF;subst I;have hc:=(ku H4).setSt k J;have HC:=pG (show Rn lo (w4.setCell ⟨g,k,none⟩ (.int .u8 J)) R M nb vars tab l ms r.1 (.slice (some ⟨g,0,none⟩) st.length sc) (b||r.2) by rw[<-a,<-Je];exact hc);have aA:=pG ((ku D).vk8 (q:=k) (u:=.int .u8 J));dsimp only at *;have aP:IntKind.u8.wrap J=J:=by rw[IntKind.wrap_u8];omega
    clear B a K s hc j H4 D;go_wp2
    go_end0
    exact⟨rfl,ku HC,ku aA⟩
theorem Rn.sty {sv:Value}  (h:Rn lo w R M nb vars tab l ms st sv b):∀s,sv.ownBlock=some s->∃cs fr,w.heap[s]?=some (.cells cs 5 fr):=by
 intro s a;rcases h.st.2 with⟨h1,e⟩|⟨g,cap,c,h1,_,d,_⟩
 ·rw[h1]at a;cases a
 ·rw[h1]at a;injection a with a;subst a;exact⟨c,_,d⟩
theorem kxw.via (h:kxw R o w w')(c:∀s,o=some s->∃cs fr,w.heap[s]?=some (.cells cs 5 fr)):Kept R w w'\/∃s m cs fr,Kept R w m/\m.heap[s]?=some (.cells cs 5 fr)/\Kept s m w':=by
 cases o with
 |none=>exact Or.inl h.alone
 |some s=>
  obtain⟨cs,fr,hb⟩:=c s rfl;obtain⟨m,h1,a,b⟩:=h.split (wu hb);exact Or.inr ⟨s,m,cs,fr,h1,a.trans hb,b⟩
theorem zx6 (h:w.ownsRow lo e size v n xs)(a:∃cs fr,w.heap[R]?=some (.cells cs 269 fr))(i:∀s,o=some s->∃cs fr,w.heap[s]?=some (.cells cs 5 fr))(b:269≠e)(c:5≠e)(g:kxw R o w w'):w'.ownsRow lo e size v n xs:=by
 obtain⟨cs,fr,a⟩:=a;rcases g.via i with h1|⟨s,m,cs',j,h1,d,f⟩
 ·exact kqb h a b h1
 ·exact kqb (kqb h a b h1) d c f
theorem BIs.ko {no: Option Nat}{b:PB}  (h:BIs lo no w b xs)(a:∃cs fr,w.heap[R]?=some (.cells cs 269 fr))(f:∀s,o=some s->∃cs fr,w.heap[s]?=some (.cells cs 5 fr))(e:kxw R o w w'):BIs lo no w' b xs:=by
 obtain⟨cs,fr,a⟩:=a;rcases e.via f with h1|⟨s,m,cs',g,h1,c,d⟩
 ·exact h.nm a ak ak h1
 ·exact(h.nm a ak ak h1).nm c ak ak d
def kwx:PX->Tok×Tok
 |.nil=>(zf,zf)
 |.node _ _ x _ _=>(x.name,x.index)
theorem vqq:∀x:PX,plC x=[.string (kwx x).1.text,.int .i64 (kwx x).1.at_,.bool (!((kwx x).2.kind.toList==[])),.string (kwx x).2.text,.int .i64 (kwx x).2.at_]/\vkl x=kz7 (kwx x).1 (kwx x).2
 |.nil=>⟨by rw[show(kwx .nil).2=zf from rfl,kqw];rfl,by rw[show(kwx .nil).2=zf from rfl];unfold kz7;rw[kqw];rfl⟩
 |.node _ _ x _ _=>⟨rfl,rfl⟩
def doO (vars:List MVar)(tab:kq1)(l:List PP)(ms:List Int):PB->List Int->Option (List Int×Bool)
 |.nil,st=>some (st,false)
 |.node _ _ a .nil n,st=>(jvx vars tab l ms st (kwx a.place).1 (kwx a.place).2 a.value).bind λp=>(doO vars tab l ms n p.1).map λq=>(q.1,p.2||q.2)
 |.node _ _ a (.node _ _ _ t e) n,st=>(ky7 vars tab l ms st a.cond).bind λc=>(if c.1==1 then doO vars tab l ms t st else doO vars tab l ms e st).bind λp=>(doO vars tab l ms n p.1).map λq=>(q.1,c.2||p.2||q.2)
def qvr (b:PB):Prop:=∀(w:World) (lo so R M nb:Nat) (no:Option Nat) (vars:List MVar) (tab:kq1) (l:List PP) (ms st:List Int) (sv:Value) (bb:Bool) (v:Value) (cs:List Value),Rn lo w R M nb vars tab l ms st sv bb->vars.length<=1000->l.length<=1000 ->
  w.ownsRow so 334 9 v (kq4 b) cs->BIs so no w b cs->kw5 b->kq4 b<=1000->(∀y∈pz b,y.text.size<=1000)->∀r,doO vars tab l ms b st=some r ->
  qJ 133 #[.pointer (some ⟨R,0,none⟩),v] w λe w'=>e=.returned (.tuple #[])/\Rn lo w' R M nb vars tab l ms r.1 sv (bb||r.2)/\kxw R sv.ownBlock w w'
theorem jk6 (t e:PB)(S:qvr t)(Q:qvr e)(x:PX)(w:World)(lo so R M nb:Nat)(no:Option Nat)(vars:List MVar)(tab:kq1)(l:List PP)(ms st:List Int)(sv:Value)(b:Bool)(n i:Tok)(d:Bool)(p B z:Option Addr)(D C en A:Nat)(I H:List Value)(h:Rn lo w R M nb vars tab l ms st sv b)(N:vars.length<=1000)(u:l.length<=1000)(T:XIs so w x (.pointer p))(V:∀y∈cu x,y.text.size<=1000)
  (v:w.ownsRow so 334 9 (.slice B D C) (kq4 t) I/\BIs so no w t I/\kw5 t/\kq4 t<=1000/\(∀y∈pz t,y.text.size<=1000)) (q:w.ownsRow so 334 9 (.slice z en A) (kq4 e) H/\BIs so no w e H/\kw5 e/\kq4 e<=1000/\(∀y∈pz e,y.text.size<=1000))
  (c:Int×Bool) (U:ky7 vars tab l ms st x=some c) (r:List Int×Bool) (m:(if c.1==1 then doO vars tab l ms t st else doO vars tab l ms e st)=some r):
  qJ 191 #[.pointer (some ⟨R,0,none⟩),.agg #[.bool true,.string n.text,.int .i64 n.at_,.bool d,.string i.text,.int .i64 i.at_,.pointer p,.slice B D C,.slice z en A]] w λe w'=>e=.returned (.tuple #[])/\Rn lo w' R M nb vars tab l ms r.1 sv (b||c.2||r.2)/\kxw R sv.ownBlock w w':=by
 obtain⟨W,J⟩:∃W,W=w.alloc (.cells #[.bool true,.string n.text,.int .i64 n.at_,.bool d,.string i.text,.int .i64 i.at_,.pointer p,.slice B D C,.slice z en A] 334):=⟨_,rfl⟩;have g:pU w W:=by rw[J];exact below_alloc1 w _
 have O:W.heap[w.heap.size]?=some (.cells #[.bool true,.string n.text,.int .i64 n.at_,.bool d,.string i.text,.int .i64 i.at_,.pointer p,.slice B D C,.slice z en A] 334 (0,0)):=by rw[J];exact qg _ _
 have Y:=h.lt;have f:=h.below g;obtain⟨⟨q0,q1,q2,q3,q4,q5,q6,q7,q8⟩,_⟩:=kkv O;go_enter func191,ntmps191
 go_wp2_with fail
 rw[(pG J.symm)];refine(qkk x W lo so R M nb vars tab l ms st sv b p f N u (T.below g) V c U).mono ?_;rintro P j ⟨rfl,h1,a⟩;obtain⟨⟨Z,a1,a2,a3,a4,a5,a6,a7,a8⟩,_⟩:=kkv (a.row (b:=w.heap.size) aj O);have E:=(qvb g R sv.ownBlock).trans (a.o _);have m:=(pG m);cases F:(c.1==1)
 ·rw[F,if_neg au]at m;go_wp2_with fail
  refine(((λ(j:World) (b1:Bool) (h1:Rn lo j R M nb vars tab l ms st sv b1) (a:Kept R W j) (K:doO vars tab l ms e st=some r)=>Q j lo so R M nb no vars tab l ms st sv b1 _ H h1 N u (zx6 (qj q.1 g) f.blk f.sty ak ak (a.o _)) ((q.2.1.stay λk _ L=>g.block k L).ko f.blk f.sty (a.o _)) q.2.2.1 q.2.2.2.1 q.2.2.2.2 r K) j _ h1 a) m).mono ?_;rintro P X ⟨rfl,G,s⟩;go_wp2
  go_end0
  exact⟨rfl,G,(E.trans s)⟩
 ·rw[F,if_pos rfl]at m;go_wp2_with fail
  refine(((λ(j:World) (b1:Bool) (h1:Rn lo j R M nb vars tab l ms st sv b1) (a:Kept R W j) (K:doO vars tab l ms t st=some r)=>S j lo so R M nb no vars tab l ms st sv b1 _ I h1 N u (zx6 (qj v.1 g) f.blk f.sty ak ak (a.o _)) ((v.2.1.stay λk _ L=>g.block k L).ko f.blk f.sty (a.o _)) v.2.2.1 v.2.2.2.1 v.2.2.2.2 r K) j _ h1 a) m).mono ?_;rintro P X ⟨rfl,G,s⟩;go_wp2
  go_end0
  exact⟨rfl,G,(E.trans s)⟩
def qy7:PB->Prop
 |.nil=>True
 |.node _ _ _ .nil n=>qy7 n
 |.node _ _ _ (.node _ _ _ t e) n=>qvr t/\qvr e/\qy7 n
def pqo (w:World)(lo so R M nb:Nat)(no:Option Nat)(vars:List MVar)(tab:kq1)(l:List PP)(ms:List Int)(sv:Value)(fin:List Int×Bool)(len:Nat)(cs:List Value)(i:Value)(wr:World):Prop:=
 ∃(k:Nat) (rest:PB) (st:List Int) (b:Bool),k+kq4 rest=len/\i=.int .i64 k/\BIs so no wr rest (cs.drop (k*9))/\qy7 rest/\kw5 rest/\(∀y∈pz rest,y.text.size<=1000)/\(∃q,doO vars tab l ms rest st=some q/\(q.1,b||q.2)=fin)/\Rn lo wr R M nb vars tab l ms st sv b/\kxw R sv.ownBlock w wr
theorem zki (b:PB)(hI:qy7 b):qvr b:=by
 intro w lo so R M nb no vars tab l ms st sv Y v cs h hv a9 S a5 f aM x r hr;obtain⟨xa,cap,rfl,_⟩:=ql S;have HR:=pG (show pqo w lo so R M nb no vars tab l ms sv (r.1,Y||r.2) (kq4 b) cs (.int .i64 0) w from⟨0,b,st,Y,aj,rfl,by simpa using a5,hI,f,x,⟨r,hr,rfl⟩,h,kxw.refl _ _ _⟩);have aH:=pG (show ∀(w':World) (st':List Int) (b':Bool),(st',b')=(r.1,Y||r.2)->Rn lo w' R M nb vars tab l ms st' sv b'->Rn lo w' R M nb vars tab l ms r.1 sv (Y||r.2) from λw' st' b' e hh=>by injection e with Q e2;rw[<-Q,<-e2];exact hh);have aI:=pG S;have aG:=pG h.blk;have aJ:=pG h.sty;generalize F:(r.1,Y||r.2)=fin at *;generalize kq4 b=len at *;clear S a5 f x hI hr F h;go_enter func133,ntmps133
 go_wp2_with fail
 go_loopw [5,8] (λ_ i wr=>pqo w lo so R M nb no vars tab l ms sv fin len cs i wr) (λ_ i _=>len-(intOf i).toNat)
 case atStart=>exact ku HR
 case round=>
  obtain⟨k,rest,s1,b1,z,rfl,E,s,f,x,⟨q,m,F⟩,hN,hK⟩:=hrel;have D:=pG hN;have X:=pG hK;obtain⟨ya,aN,Q,B⟩:=ql (zx6 (ku aI) (ku aG) (ku aJ) ak ak hK);injection Q with Q _ e3;subst Q;subst e3;have W:=pG F;have aQ:=hK.size;have aO:=hN.lt;clear hN hK F;match rest,E,s,f,x,m,z with
  |.nil,E,s,f,x,m,z=>
   have aP:¬k<len:=kP;rw[doO]at m;injection m with m;subst m;have HE:=pG ((ku aH) wr s1 (b1||false) (ku W) (ku D).orF);clear E s f x z B;go_wp2
   go_end0
   exact⟨rfl,ku HE,ku X⟩
  |.node _ _ la .nil nx,E,s,f,x,m,z=>
   obtain⟨p,aL,hd,hx,K⟩:=E;have a1:k<len:=kP;obtain⟨g,rfl,_,aK,hc⟩:=B k a1;obtain⟨N,U⟩:=vqq la.place;obtain⟨I,H⟩:=qq3 hd (qqi _ _ _ _ _);have a:∀j,j<9->∀u,(stC false la (.pointer p) (.slice none 0 0) (.slice none 0 0))[j]?=some u->wr.cell? ⟨g,k*9+j,none⟩=some u:=λj hj u hu=>(hc (k*9+j) aj).trans ((H j hj).trans hu)
   unfold stC at a;rw[N]at a;have e0:=a 0 aj _ rfl;have Q:=a 1 aj _ rfl;have e2:=a 2 aj _ rfl;have e3:=a 3 aj _ rfl;have e4:=a 4 aj _ rfl;have e5:=a 5 aj _ rfl;have e6:=a 6 aj _ rfl;have e7:=a 7 aj _ rfl;have e8:=a 8 aj _ rfl;simp only[sU]at e0;rw[doO]at m;obtain⟨T,L,m⟩:=wQ.mp m;obtain⟨q2,O,m⟩:=rJ.mp m;have aC:∀y∈kz7 (kwx la.place).1 (kwx la.place).2,y.text.size<=1000:=λy C=>x y (by rw[pz,U];simp[C])
   have aD:∀y∈cu la.value,y.text.size<=1000:=λy C=>x y iP
   have P:∀y∈pz nx,y.text.size<=1000:=λy C=>x y iP
   have A:=pG (⟨s,f,P,⟨q2,O,by rw[<-ku W,<-m,Je]⟩⟩:qy7 nx/\kw5 nx/\(∀y∈pz nx,y.text.size<=1000)/\∃q,doO vars tab l ms nx T.1=some q/\(q.1,(b1||T.2)||q.2)=fin);have V:=pG (show BIs so no wr nx (cs.drop ((k+1)*9)) by rw[I];exact K);generalize (kwx la.place).1=n at *;generalize (kwx la.place).2=i at *;have a3:=pG (jk8 la.value (wr.alloc (.cells #[.bool false,.string n.text,.int .i64 n.at_,.bool (!(i.kind.toList==[])),.string i.text,.int .i64 i.at_,.pointer p,.slice none 0 0,.slice none 0 0] 334)) lo so R M nb vars tab l ms s1 sv b1 n i p none none 0 0 0 0 false ((ku D).below (below_alloc1 _ _)) hv a9 (hx.below (below_alloc1 _ _)) aD aC T L);have a0:k+1+kq4 nx=len:=kP;clear a hc H I hd N U x aC P hx K f s W HR z aD B L m O;generalize (!(i.kind.toList==[]))=d at *;go_wp2_with fail
   refine(ku a3).mono ?_;rintro e w2 ⟨rfl,Z,J⟩;have G:=pG ((qvb (below_alloc1 _ _) R sv.ownBlock).trans J);have H2:=pG Z;clear Z J a3;go_wp2
   go_roundw
   case rel=>exact⟨k+1,nx,_,_,a0,eu,(ku V).ko (ku D).blk (ku D).sty (ku G),(ku A).1,(ku A).2.1,(ku A).2.2.1,(ku A).2.2.2,ku H2,(ku X).trans (ku G)⟩
   case measure=>exact qQ
  |.node _ _ la (.node _ _ _ t e) nx,E,s,f,x,m,z=>
   obtain⟨p,ta,tn,tc,ea,en,ec,ct,ce,aL,hd,hx,⟨aE,_,aF⟩,⟨a7,_,a8⟩,K⟩:=E;have a1:k<len:=kP;obtain⟨g,rfl,_,aK,hc⟩:=B k a1;obtain⟨N,U⟩:=vqq la.place;obtain⟨I,H⟩:=qq3 hd (qqi _ _ _ _ _);have a:∀j,j<9->∀u,(stC true la (.pointer p) (.slice ta tn tc) (.slice ea en ec))[j]?=some u->wr.cell? ⟨g,k*9+j,none⟩=some u:=λj hj u hu=>(hc (k*9+j) aj).trans ((H j hj).trans hu)
   unfold stC at a;rw[N]at a;have e0:=a 0 aj _ rfl;have Q:=a 1 aj _ rfl;have e2:=a 2 aj _ rfl;have e3:=a 3 aj _ rfl;have e4:=a 4 aj _ rfl;have e5:=a 5 aj _ rfl;have e6:=a 6 aj _ rfl;have e7:=a 7 aj _ rfl;have e8:=a 8 aj _ rfl;simp only[sU]at e0;rw[doO]at m;obtain⟨c,a6,m⟩:=wQ.mp m;obtain⟨T,L,m⟩:=wQ.mp m;obtain⟨q2,O,m⟩:=rJ.mp m;have aA:∀y∈cu la.cond,y.text.size<=1000:=λy C=>x y iP
   have a2:∀y∈pz t,y.text.size<=1000:=λy C=>x y iP
   have aB:∀y∈pz e,y.text.size<=1000:=λy C=>x y iP
   have P:∀y∈pz nx,y.text.size<=1000:=λy C=>x y iP
   have A:=pG (⟨s.2.2,f.2.2,P,⟨q2,O,by rw[<-ku W,<-m];simp[Je]⟩⟩:qy7 nx/\kw5 nx/\(∀y∈pz nx,y.text.size<=1000)/\∃q,doO vars tab l ms nx T.1=some q/\(q.1,(b1||c.2||T.2)||q.2)=fin);have V:=pG (show BIs so no wr nx (cs.drop ((k+1)*9)) by rw[I];exact K);generalize (kwx la.place).1=n at *;generalize (kwx la.place).2=i at *;generalize (!(i.kind.toList==[]))=d at *;have a4:=pG (jk6 t e s.1 s.2.1 la.cond (wr.alloc (.cells #[.bool true,.string n.text,.int .i64 n.at_,.bool d,.string i.text,.int .i64 i.at_,.pointer p,.slice ta tn tc,.slice ea en ec] 334)) lo so R M nb no vars tab l ms s1 sv b1 n i d p ta ea tn tc en ec ct ce ((ku D).below (below_alloc1 _ _)) hv a9 (hx.below (below_alloc1 _ _)) aA
    ⟨qj aE (below_alloc1 _ _),aF.stay (λk _ z=>(below_alloc1 _ _).block k z),f.1.1,f.1.2,a2⟩ ⟨qj a7 (below_alloc1 _ _),a8.stay (λk _ z=>(below_alloc1 _ _).block k z),f.2.1.1,f.2.1.2,aB⟩ c a6 T L)
   have a0:k+1+kq4 nx=len:=kP;clear a hc H I hd N U x aA a2 aB P hx K f s W HR z B L m O a6 aE aF a7 a8;go_wp2_with fail
   refine(ku a4).mono ?_;rintro e' w2 ⟨rfl,Z,J⟩;have G:=pG ((qvb (below_alloc1 _ _) R sv.ownBlock).trans J);have H2:=pG Z;clear Z J a4;go_wp2
   go_roundw
   case rel=>exact⟨k+1,nx,_,_,a0,eu,(ku V).ko (ku D).blk (ku D).sty (ku G),(ku A).1,(ku A).2.1,(ku A).2.2.1,(ku A).2.2.2,ku H2,(ku X).trans (ku G)⟩
   case measure=>exact qQ
theorem qqv:∀b:PB,qy7 b
 |.nil=>trivial
 |.node _ _ _ .nil n=>qqv n
 |.node _ _ _ (.node _ _ _ t e) n=>⟨zki t (qqv t),zki e (qqv e),qqv n⟩
theorem vyp (b:PB):qvr b:=zki b (qqv b)
def jyj (vars:List MVar)(tab:kq1)(l:List PP)(ms st:List Int)(x:PX):Option Bool:=(ky7 vars tab l ms st x).map λr=>(r.1==1)||r.2
theorem jk7 (x:PX)(w:World)(lo q M nb:Nat)(vars:List MVar)(tab:kq1)(l:List PP)(ms st:List Int)(f:ByteArray)(p pa b sa:Option Addr)(pn pc d mc sn sc:Nat)(h:Mc lo w M nb vars tab)(u:w.ownsRow lo 352 4 (.slice pa pn pc) l.length (xu l))(hM:w.ownsRow lo 3 1 (.slice b d mc) ms.length (ms.map (Value.int .i64)))(z:w.ownsRow lo 5 1 (.slice sa sn sc) st.length (st.map (Value.int .u8)))
  (F:vars.length<=1000) (m:l.length<=1000) (A:XIs q w x (.pointer p)) (E:∀y∈cu x,y.text.size<=1000) (r:Bool) (D:jyj vars tab l ms st x=some r):
  qJ 96 #[.agg #[.string f,.pointer (some ⟨M,0,none⟩),.slice pa pn pc,.slice b d mc,.pointer p],.slice sa sn sc] w λe w'=>e=.returned (.bool r)/\pU w w':=by
 obtain⟨c,C,rfl⟩:=rJ.mp D;obtain⟨W,g⟩:∃W,W=(w.alloc (.cells #[.string f,.pointer (some ⟨M,0,none⟩),.slice pa pn pc,.slice b d mc,.pointer p] 208)).alloc (.cells #[.string f,.pointer (some ⟨M,0,none⟩),.slice pa pn pc,.slice b d mc,.slice sa sn sc,.bool false] 269):=⟨_,rfl⟩;have a:pU w W:=by rw[g];exact(below_alloc1 w _).trans ((below_alloc1 _ _).mono au)
 have G:w.heap.size+1<W.heap.size:=by rw[g];simp
 have hN:W.heap[w.heap.size]?=some (.cells #[.string f,.pointer (some ⟨M,0,none⟩),.slice pa pn pc,.slice b d mc,.pointer p] 208 (0,0)):=by rw[g];exact zy (qg _ _)
 have v:W.heap[w.heap.size+1]?=some (.cells #[.string f,.pointer (some ⟨M,0,none⟩),.slice pa pn pc,.slice b d mc,.slice sa sn sc,.bool false] 269 (0,0)):=by
  rw[g];have:=qg (w.alloc (.cells #[.string f,.pointer (some ⟨M,0,none⟩),.slice pa pn pc,.slice b d mc,.pointer p] 208)) (.cells #[.string f,.pointer (some ⟨M,0,none⟩),.slice pa pn pc,.slice b d mc,.slice sa sn sc,.bool false] 269);simp only[tJ]at this;exact this
 have j:Rn lo W (w.heap.size+1) M nb vars tab l ms st (.slice sa sn sc) false:=⟨⟨f,pa,pn,pc,b,d,mc,v,qj u a,qj hM a⟩,h.below a,qj z a⟩;have s:=qkk x W lo q (w.heap.size+1) M nb vars tab l ms st _ false p j F m (A.below a) E c C;generalize (c.1==1)=t at *;go_enter func96,ntmps96
 go_wp2_with fail
 rw[(pG g.symm)];refine s.mono ?_;rintro e H ⟨rfl,h1,k⟩;obtain⟨_,_,c5,_⟩:=h1.cells;have i:=a.trans (k.toBelow (B:=w.heap.size) aj aj);cases t
 ·go_wp2
  go_ret
  exact⟨rfl,i⟩
 ·go_wp2
  go_ret
  exact⟨rfl,i⟩
theorem vx1 (st:List Int):∀y∈st.map (Value.int .u8),y.oneCell'=true:=by
 intro y a;obtain⟨x,_,rfl⟩:=Qj.mp a;rfl
theorem infoU8:(prog.info? 5).map (λi=>(i.zero,i.size,i.bytes))=some (some (.int .u8 0),1,1):=ah
theorem zv0 (w:World)(lo:Nat)(st:List Int)(sa:Option Addr)(sn sc:Nat)(k:w.ownsRow lo 5 1 (.slice sa sn sc) st.length (st.map (Value.int .u8)))(z:st.length<=1000000):
  qJ 131 #[.slice sa sn sc] w λe w'=>∃ca cn cc,e=.returned (.slice ca cn cc)/\w'.ownsRow w.heap.size 5 1 (.slice ca cn cc) st.length (st.map (Value.int .u8))/\pU w w':=by
 rcases k.2 with⟨a,j⟩|⟨g,cap,v,a,j,x,y⟩
 ·injection a with a f b;have hn:st=[]:=Jk j;subst hn;have h:=λw=>Go.Lib.run_eql_slice_nil (P:=prog) w 95 5 none 0 0 0 0 underlying95
  go_enter func131,ntmps131
  go_wp2
  go_ret
  exact⟨none,0,0,rfl,wB _ _ _ _,Below.refl _ _⟩
 ·injection a with a f b;subst a;subst f;subst b;have i:=show(w.alloc (.cells #[] 5)).ownsRow w.heap.size 5 1 (.slice (some ⟨w.heap.size,0,none⟩) 0 0) 0 [] from⟨rfl,Or.inr ⟨w.heap.size,0,_,rfl,wJ _,qg _ _,wJ _,gW,rfl,rfl⟩⟩
  obtain⟨t,hi,l,m,p⟩:=info_parts infoU8;have h:=λw=>Go.Lib.run_eql_slice_nil (P:=prog) w 95 5 (some ⟨g,0,none⟩) st.length sc 0 0 underlying95
  go_enter func131,ntmps131
  go_wp2_with (at_builtin;refine kqd rfl _ _ 95 rfl w.heap.size 5 t _ 1 1 underlying95 hi l m p rfl ak (.slice (some ⟨w.heap.size,0,none⟩) 0 0) 0 [] rfl i (.slice (some ⟨g,0,none⟩) st.length sc) st.length _ _ rfl (qj k (below_alloc1 w (.cells #[] 5))) (vx1 st) gW aj au ?_)
  intro A w3 d c s;obtain⟨q,u,c3,rfl⟩:=zq d;go_wp2
  go_ret
  exact⟨q,u,c3,rfl,d,((below_alloc1 w _).grown c au (xg i))⟩
theorem vy9 (h:w.ownsRow lo e size v n xs):∀k,v.ownBlock=some k->lo<=k:=xg h
theorem jxh (h:w.ownsRow lo e size v n xs)(d:∀k,v.ownBlock=some k->B<=k):w.ownsRow B e size v n xs:=by
 refine⟨h.1,?_⟩;rcases h.2 with h1|⟨g,cap,a,b,f,c⟩
 ·exact Or.inl h1
 ·exact Or.inr ⟨g,cap,a,b,d g (by rw[b];rfl),c⟩
theorem kxw.toBelow (h:kxw R o w w')(b:B<=R)(d:B<=w.heap.size)(a:∀k,o=some k->B<=k):Below B w w':=
 ⟨h.os,h.tape,h.output,h.size,λk c=>h.block k aj aj (λe=>by have:=a k e;omega)⟩
theorem vz0 {b: Nat}    (h:w.ownsRow lo e size v n xs)(hb:∀k,v.ownBlock=some k->b+1<=k)(y0 y1 y2 y3 y4 y5:Value):
  (puts b [y0,y1,y2,y3,y4,y5] 0 w).ownsRow lo e size v n xs:=zyd (λe=>by have:=hb b e;omega) _ _ h
theorem jyk {b: Nat}  (h:Below B a w)(hb:B<=b)(y0 y1 y2 y3 y4 y5:Value):
  Below B a (puts b [y0,y1,y2,y3,y4,y5] 0 w):=qxu hb _ _ h
def kyb (vars:List MVar)(tab:kq1)(l:List PP)(ms st:List Int)(x:PX)(b:PB):Option (List Int×Int):=
 (ky7 vars tab l ms st x).bind λc=>(if c.1==1 then doO vars tab l ms b st else some (st,false)).map λp=>if (c.2||p.2) then ([],2) else if c.1==1 then (p.1,1) else ([],0)
theorem zyn (x:PX)(D:PB)(w:World)(lo so M nb:Nat)(no:Option Nat)(vars:List MVar)(tab:kq1)(l:List PP)(ms st:List Int)(T:ByteArray)(p pa G sa ba:Option Addr)(pn pc H mc sn sc bn bc:Nat)(cs:List Value)(h:Mc lo w M nb vars tab)(hP:w.ownsRow lo 352 4 (.slice pa pn pc) l.length (xu l))(hM:w.ownsRow lo 3 1 (.slice G H mc) ms.length (ms.map (Value.int .i64)))(hS:w.ownsRow lo 5 1 (.slice sa sn sc) st.length (st.map (Value.int .u8)))
  (hv:vars.length<=1000) (a9:l.length<=1000) (aA:st.length<=1000000) (hX:XIs so w x (.pointer p)) (hs:∀y∈cu x,y.text.size<=1000) (Q:w.ownsRow so 334 9 (.slice ba bn bc) (kq4 D) cs/\BIs so no w D cs/\kw5 D/\kq4 D<=1000/\(∀y∈pz D,y.text.size<=1000))
  (aK:lo<=w.heap.size) (r:List Int×Int) (a:kyb vars tab l ms st x D=some r):
  qJ 79 #[.agg #[.string T,.pointer (some ⟨M,0,none⟩),.slice pa pn pc,.slice G H mc,.pointer p,.slice ba bn bc],.slice sa sn sc] w λe w'=>∃v,e=.returned (.tuple #[v,.int .i64 r.2])/\w'.ownsRow w.heap.size 5 1 v r.1.length (r.1.map (Value.int .u8))/\pU w w':=by
 unfold kyb at a;obtain⟨c,hc,a⟩:=wQ.mp a;obtain⟨d,i,a⟩:=rJ.mp a;obtain⟨W,hW⟩:∃W,W=w.alloc (.cells #[.string T,.pointer (some ⟨M,0,none⟩),.slice pa pn pc,.slice G H mc,.pointer p,.slice ba bn bc] 178):=⟨_,rfl⟩;have N:pU w W:=nU;have F:w.heap.size<W.heap.size:=jC;have hT:W.heap[w.heap.size]?=some (.cells #[.string T,.pointer (some ⟨M,0,none⟩),.slice pa pn pc,.slice G H mc,.pointer p,.slice ba bn bc] 178 (0,0)):=mX;have a1:=pG (zv0 W.drew lo st sa sn sc (qj hS N.drew) aA);have a7:pU w (W.alloc (.cells #[.string ⟨#[]⟩,.pointer none,.slice none 0 0,.slice none 0 0,.slice none 0 0,.bool false] 269)).drew:=(N.trans ((below_alloc1 W _).mono aj)).drew;have a2:=pG (zv0 (W.alloc (.cells #[.string ⟨#[]⟩,.pointer none,.slice none 0 0,.slice none 0 0,.slice none 0 0,.bool false] 269)).drew lo st sa sn sc (qj hS a7) aA);have HZ:=pG (show(W.alloc (.cells #[.string ⟨#[]⟩,.pointer none,.slice none 0 0,.slice none 0 0,.slice none 0 0,.bool false] 269)).drew.heap[W.heap.size]?=some (.cells #[.string ⟨#[]⟩,.pointer none,.slice none 0 0,.slice none 0 0,.slice none 0 0,.bool false] 269 (0,0)) from qg _ _);obtain⟨t0,t1,t2,t3,t4,t5,_⟩:=kzb hT;have HT:=pG hT;have a4:=pG (λ(wx:World) (R:Nat) (j:Option Addr) (s m:Nat) (hb:pU w wx) (t:wx.heap[R]?=some (.cells #[.string T,.pointer (some ⟨M,0,none⟩),.slice pa pn pc,.slice G H mc,.slice j s m,.bool false] 269 (0,0))) (X:wx.ownsRow lo 5 1 (.slice j s m) st.length (st.map (Value.int .u8)))=>(⟨⟨T,pa,pn,pc,G,H,mc,t,qj hP hb,qj hM hb⟩,h.below hb,X⟩:Rn lo wx R M nb vars tab l ms st (.slice j s m) false));have a5:=pG (λ(wx:World) (R:Nat) (sv:Value) (b:Bool) (hb:pU w wx) (t:Rn lo wx R M nb vars tab l ms st sv b)=>qkk x wx lo so R M nb vars tab l ms st sv b p t hv a9 (hX.below hb) hs c hc);have a3:=pG (λ(wx wy:World) (R:Nat) (sv:Value) (b b':Bool) (hb:pU w wx) (t:Rn lo wx R M nb vars tab l ms st sv b) (S:Kept R wx wy) (aJ:Rn lo wy R M nb vars tab l ms st sv b') (q:List Int×Bool) (hq:doO vars tab l ms D st=some q)=>vyp D wy lo so R M nb no vars tab l ms st sv b' _ cs aJ hv a9 (zx6 (qj Q.1 hb) t.blk t.sty ak ak (S.o _)) ((Q.2.1.stay λk _ S=>hb.block k S).ko t.blk t.sty (S.o _)) Q.2.2.1 Q.2.2.2.1 Q.2.2.2.2 q hq);have aF:=pG N;have aI:=pG hW.symm;have HR:=pG a;have HD:=pG i;clear a i hc hs hX h hP hM hS Q N hT hW a7;go_enter func79,ntmps79
 go_upto_region 1 with fail
 rw[ku aI];go_cut [6] from 8 to 12 (λv wx=>∃R j s m,v=.pointer (some ⟨R,0,none⟩)/\w.heap.size<R/\wx.heap[R]?=some (.cells #[.string T,.pointer (some ⟨M,0,none⟩),.slice pa pn pc,.slice G H mc,.slice j s m,.bool false] 269 (0,0))/\wx.ownsRow w.heap.size 5 1 (.slice j s m) st.length (st.map (Value.int .u8))/\pU W wx)
 case first=>
  go_region_law ((go_simp;go_at_call 131;(first|(refine(ku a1).mono ?_;rintro e C ⟨j,s,m,rfl,P,f⟩;have aB:w.heap.size<C.heap.size:=mG;obtain⟨u0,u1,u2,u3,u4,u5,_⟩:=kzb (show C.heap[w.heap.size]?=_ from(f.block _ (by simpa using F)).trans (ku HT)))|(refine(ku a2).mono ?_;rintro e C ⟨j,s,m,rfl,P,f⟩;have aB:w.heap.size<C.heap.size:=mG;obtain⟨u0,u1,u2,u3,u4,u5,_⟩:=kzb (show C.heap[w.heap.size]?=_ from(f.block _ ay).trans (zy (ku HT)));obtain⟨z0,z1,z2,z3,z4,z5,z6,z7,z8,z9,aL,aM⟩:=kzb (show C.heap[W.heap.size]?=_ from(f.block _ au).trans (ku HZ))));dsimp only))
  all_goals
   go_wp2_with fail
   go_meet
   refine⟨_,j,s,m,rfl,?_⟩;first
   |refine⟨aB,?_,?_,?_⟩
    ·exact qg C _
    ·exact qj (zu (Qs F) P) (below_alloc1 _ _)
    ·exact((Below.refl _ _).drew.trans (f.mono au)).alloc mG _
   |refine⟨F,?_,?_,?_⟩
    ·exact pq8 (jx3 (show C.heap[W.heap.size]?=_ from(f.block _ au).trans (ku HZ)) _ _ _) _ _ _
    ·exact vz0 (zu ay P) (λk S=>by have:=vy9 P k S;simp at this;omega) _ _ _ _ _ _
    ·exact jyk ((((Below.refl _ _).alloc (wJ _) _).drew).trans (f.mono au)) (wJ _) _ _ _ _ _ _
 case rest=>
 obtain⟨R,j,s,m,rfl,a6,t,X,hb⟩:=hcut;have u:=(ku aF).trans (hb.mono (Qs F));have Y:=(ku a4) _ R j s m u t (zu aK X);have Z:=(hb.block w.heap.size F).trans (ku HT);obtain⟨u0,u1,u2,u3,u4,u5,_⟩:=kzb Z;have A:=pG ((ku a5) _ R _ false u Y);have z:=pG (λw1 b1 h1 g d i=>(ku a3) _ w1 R _ false b1 u Y g h1 d i);have aG:=pG Z;have J:=pG u;have V:=pG (xg X);have aD:R≠w.heap.size:=aj;have aC:w.heap.size<=wc.heap.size:=u.size;clear u Y Z t X hb a4 a5 a3 a1 a2 HZ HT t0 t1 t2 t3 t4 t5;go_wp2_with fail
 refine(ku A).mono ?_;rintro e w1 ⟨rfl,h1,g⟩;have L:=g.row (Ne.symm aD) (ku aG);obtain⟨y0,y1,y2,y3,y4,y5,_⟩:=kzb L;obtain⟨_,r4,I,_⟩:=h1.cells;have K:=pG ((ku J).trans (g.toBelow (B:=w.heap.size) (Qs a6) aC));have a:=ku HR;have i:=ku HD;cases O:(c.1==1)
 ·rw[O,if_neg au]at i;injection i with i;subst i;rw[O]at a;simp only[Qk,if_neg (Zo)]at a;cases E:c.2
  ·rw[E]at a I;simp only[if_neg (Zo)]at a;subst a;clear h1 g L A z J HR HD u0 u1 u2 u3 u4 u5;go_wp2
   go_ret2
   exact⟨_,rfl,wB _ _ _ _,ku K⟩
  ·rw[E]at a I;simp only[if_pos]at a;subst a;clear h1 g L A z J HR HD u0 u1 u2 u3 u4 u5;go_wp2
   go_ret2
   exact⟨_,rfl,wB _ _ _ _,ku K⟩
 ·rw[O,if_pos rfl]at i;rw[O,if_pos rfl]at a;have U:=pG ((ku z) w1 _ h1 g d i);have aE:w.heap.size<=w1.heap.size:=rU aC g.size;clear h1 g L A z J HR HD u0 u1 u2 u3 u4 u5 i r4 I;go_wp2_with fail
  refine(ku U).mono ?_;rintro e C ⟨rfl,h2,a8⟩;obtain⟨_,r4,I,_⟩:=h2.cells;have a0:=pG ((ku K).trans (a8.toBelow (Qs a6) aE (ku V)));have aH:=pG (jxh h2.st (ku V));rw[Qr]at I;clear h2 a8 U K V y0 y1 y2 y3 y4 y5;cases E:(c.2||d.2)
  ·rw[E]at a I;simp only[if_neg (Zo)]at a;subst a;go_wp2
   go_ret2
   exact⟨_,rfl,ku aH,ku a0⟩
  ·rw[E]at a I;simp only[if_pos]at a;subst a;go_wp2
   go_ret2
   exact⟨_,rfl,wB _ _ _ _,ku a0⟩
structure MStep where
 text:ByteArray
 params:List PP
 mems:List Int
 guard:PX
 block:PB
structure MNever where
 text:ByteArray
 params:List PP
 mems:List Int
 expr:PX
def zjt (s:MStep):Prop:=s.params.length<=1000/\(∀y∈cu s.guard,y.text.size<=1000)/\kw5 s.block/\kq4 s.block<=1000/\(∀y∈pz s.block,y.text.size<=1000)
def qy2 (lo so:Nat)(w:World)(M:Nat)(s:MStep)(cs:List Value):Prop:=
 ∃pa pn pc ma mn mc p ba bn bc bs no,cs=[.string s.text,.pointer (some ⟨M,0,none⟩),.slice pa pn pc,.slice ma mn mc,.pointer p,.slice ba bn bc]/\w.ownsRow lo 352 4 (.slice pa pn pc) s.params.length (xu s.params)/\w.ownsRow lo 3 1 (.slice ma mn mc) s.mems.length (s.mems.map (Value.int .i64))/\XIs so w s.guard (.pointer p)/\w.ownsRow so 334 9 (.slice ba bn bc) (kq4 s.block) bs/\BIs so no w s.block bs
def kw3 (lo so:Nat)(w:World)(M:Nat)(l:List MStep)(cs:List Value):Prop:=cs.length=l.length*6/\∀k (hk:k<l.length),qy2 lo so w M l[k] ((cs.drop (k*6)).take 6)
theorem vk2 {cs:List Value}{k:Nat}{a b c d e f:Value}(h:(cs.drop (k*6)).take 6=[a,b,c,d,e,f]):cs[k*6]?=some a/\cs[k*6+1]?=some b/\cs[k*6+2]?=some c/\cs[k*6+3]?=some d/\cs[k*6+4]?=some e/\cs[k*6+5]?=some f:=by
 have g:∀j,j<6->cs[k*6+j]?=([a,b,c,d,e,f]:List Value)[j]?:=λj i=>by
  rw[<-h,Qo i,JW]
 exact⟨g 0 aj,g 1 aj,g 2 aj,g 3 aj,g 4 aj,g 5 aj⟩
def qvi (vars:List MVar)(tab:kq1)(st:List Int)(t:List UInt8):List MStep->Option (List Int×Bool)
 |[]=>some ([],false)
 |s::l=>if s.text.toList==t then (kyb vars tab s.params s.mems st s.guard s.block).map λr=>(r.1,r.2==1) else qvi vars tab st t l
theorem zvm (vars:List MVar)(tab:kq1)(st:List Int)(t:List UInt8):∀(l:List MStep) (k:Nat),(∀i (hi:i<l.length),i<k->(l[i].text.toList==t)=false)->qvi vars tab st t l=qvi vars tab st t (l.drop k)
 |[],k,_=>au
 |s::l,0,_=>rfl
 |s::l,k+1,h=>by
  have a:=h 0 au aj;simp only[Qi]at a;rw[qvi,a,J7];exact zvm vars tab st t l k (λi hi b=>ig)
theorem jyv (w:World)(lo so M nb:Nat)(vars:List MVar)(tab:kq1)(steps:List MStep)(st:List Int)(t:ByteArray)(sa Z:Option Addr)(sn sc tc:Nat)(cs:List Value)(h:Mc lo w M nb vars tab)(hS:w.ownsRow lo 5 1 (.slice sa sn sc) st.length (st.map (Value.int .u8)))(a0:w.cell? ⟨M,0,none⟩=some (.slice Z steps.length tc))(hT:w.ownsRow lo 178 6 (.slice Z steps.length tc) steps.length cs)(hI:kw3 lo so w M steps cs)(Q:∀s∈steps,zjt s)
  (hv:vars.length<=1000) (U:st.length<=1000000) (a3:steps.length<=1000000) (O:lo<=w.heap.size) (r:List Int×Bool) (E:qvi vars tab st t.toList steps=some r):
  qJ 55 #[.pointer (some ⟨M,0,none⟩),.slice sa sn sc,.string t] w λe w'=>∃v,e=.returned (.tuple #[v,.bool r.2])/\w'.ownsRow w.heap.size 5 1 v r.1.length (r.1.map (Value.int .u8))/\pU w w':=by
 obtain⟨xa,cap,e1,HW⟩:=ql hT;have G:=pG E;have F:=λ(wx:World) (a:pU w wx) (s:MStep) (m:zjt s) pa pn pc u x mc p ba bn bc bs no (h1:w.ownsRow lo 352 4 (.slice pa pn pc) s.params.length (xu s.params)) (y:w.ownsRow lo 3 1 (.slice u x mc) s.mems.length (s.mems.map (Value.int .i64))) (z:XIs so w s.guard (.pointer p)) (A:w.ownsRow so 334 9 (.slice ba bn bc) (kq4 s.block) bs) (B:BIs so no w s.block bs) (r:List Int×Int) (E:kyb vars tab s.params s.mems st s.guard s.block=some r)=>
  zyn s.guard s.block wx lo so M nb no vars tab s.params s.mems st s.text p pa u sa ba pn pc x mc sn sc bn bc bs (h.below a) (qj h1 a) (qj y a) (qj hS a) hv m.1 U (z.below a) m.2.1 ⟨qj A a,B.stay (λk _ N=>a.block k N),m.2.2.1,m.2.2.2.1,m.2.2.2.2⟩ (rU O a.size) r E
 go_enter func55,ntmps55
 go_wp2_with fail
 go_loopw [9,17] (λ_ i wr=>∃k:Nat,k<=steps.length/\i=.int .i64 k/\(∀i (hi:i<steps.length),i<k->(steps[i].text.toList==t.toList)=false)/\pU w wr) (λ_ i _=>steps.length-(intOf i).toNat)
 case atStart=>exact⟨0,rW _,rfl,λi _ h=>aj,Below.refl _ _⟩
 case round=>
  obtain⟨k,N,rfl,f,a⟩:=hrel;have c:=a.size;by_cases l:k<steps.length
  ·obtain⟨g,rfl,a2,L,K⟩:=HW k l;obtain⟨a1,D⟩:=hI;obtain⟨pa,pn,pc,u,x,mc,p,ba,bn,bc,bs,no,e,h1,y,z,A,B⟩:=D k l;obtain⟨V,s1,W,s3,X,Y⟩:=vk2 e;have d:∀j,j<steps.length*6->wr.cell? ⟨g,j,none⟩=cs[j]?:=λj hj=>(a.cell (p:=⟨g,j,none⟩) L).trans (K j hj)
   have e0:=(d (k*6) aj).trans V;have e1:=(d (k*6+1) aj).trans s1;have e2:=(d (k*6+2) aj).trans W;have e3:=(d (k*6+3) aj).trans s3;have e4:=(d (k*6+4) aj).trans X;have e5:=(d (k*6+5) aj).trans Y;have b:=(zvm vars tab st t.toList steps k f).symm.trans G;rw[rM l,qvi]at b;have I:=λ(C:(steps[k].text.toList==t.toList)=false)=>(show ∀i (hi:i<steps.length),i<k+1->(steps[i].text.toList==t.toList)=false from λi hi h=>by
    by_cases e:i=k
    ·subst e;exact C
    ·exact f i hi aj)
   have HF:=λ(q:List Int×Int) (R:kyb vars tab steps[k].params steps[k].mems st steps[k].guard steps[k].block=some q)=>F (wr.alloc (.cells #[.string steps[k].text,.pointer (some ⟨M,0,none⟩),.slice pa pn pc,.slice u x mc,.pointer p,.slice ba bn bc] 178)) (a.alloc c _) steps[k] (Q steps[k] (wX _)) pa pn pc u x mc p ba bn bc bs no h1 y z A B q R
   generalize steps[k]=s at *;clear d K D e h1 y z A B V s1 W s3 X Y;cases C:(s.text.toList==t.toList)
   ·have H:=I C;go_wp2
    go_roundw
    case rel=>exact⟨k+1,aj,eu,H,a.alloc c _⟩
    case measure=>exact qQ
   ·rw[C,if_pos rfl]at b;obtain⟨q,S,T⟩:=rJ.mp b;subst T;go_wp2_with fail
    refine(HF q S).mono ?_;rintro e w2 ⟨v,rfl,P,J⟩;go_wp2
    go_ret2
    exact⟨_,rfl,(zu (rU c (by simp:wr.heap.size<=(wr.alloc _).heap.size)) P),((a.alloc c _).trans (J.mono (rU c au)))⟩
  ·have b:=(zvm vars tab st t.toList steps steps.length (λi hi _=>f i hi aj)).symm.trans G;rw[Qd,qvi]at b;injection b with b;subst b;go_wp2
   go_ret2
   exact⟨_,rfl,wB _ _ _ _,a⟩
theorem jwr (n:Nat):(madeCells (Value.int .u8 0).cells (n*1)).toList=(List.replicate n (0:Int)).map (Value.int .u8):=by
 rw[show(Value.int .u8 0).cells=#[Value.int .u8 0] from rfl,toList_madeCells_one,ZB,List.map_replicate]
theorem jki (w:World)(M n:Nat)(hM:w.cell? ⟨M,5,none⟩=some (.int .i64 n))(hn:n<=1000000):
  qJ 54 #[.pointer (some ⟨M,0,none⟩)] w λe w'=>∃v,e=.returned v/\w'.ownsRow w.heap.size 5 1 v n ((List.replicate n (0:Int)).map (Value.int .u8))/\pU w w':=by
 obtain⟨j,hi,c,d,f⟩:=info_parts infoU8;obtain⟨w',i,a,b⟩:=run_makeSlice_full (P:=prog) (w:=w) w.heap.size 95 5 j _ 1 underlying95 hi c d .i64 .i64 n aj (by rw[f];omega) gW (wJ _);have g:=show w'.ownsRow w.heap.size 5 1 (.slice (some ⟨w.heap.size,0,none⟩) n n) n ((List.replicate n (0:Int)).map (Value.int .u8)) by
  rw[jwr]at a;exact a
 go_enter func54,ntmps54
 go_wp2
 go_ret
 exact⟨_,rfl,g,(show pU w w' from(Below.refl _ _).grown b (wJ _) (λk h=>gY))⟩
def kw9 (i:Nat):ByteArray:=⟨#[(48+i).toUInt8]⟩
theorem qqc (i:Nat)(hi:i<10)(w:World):qJ 28 #[.int .i64 i] w λe w'=>e=.returned (.string (kw9 i))/\w'=w:=by
 have h:i=0\/i=1\/i=2\/i=3\/i=4\/i=5\/i=6\/i=7\/i=8\/i=9:=aj;rcases h with rfl|rfl|rfl|rfl|rfl|rfl|rfl|rfl|rfl|rfl;all_goals
  go_enter func28,ntmps28
  go_wp2
  go_ret
  exact⟨rfl,rfl⟩
theorem infoStr0:(prog.info? 9).map (λi=>(i.zero,i.size,i.bytes))=some (some (.string ⟨#[]⟩),1,16):=ah
def kwn (n:Nat):List ByteArray:=(List.range n).map kw9
theorem vz3 (k:Nat):kwn (k+1)=kwn k++[kw9 k]:=by rw[kwn,J5,Qv];rfl
theorem kzs (k:Nat):(kwn k).length=k:=by simp[kwn]
def pqt (w:World)(n:Nat)(x i:Value)(wr:World):Prop:=
 ∃(k:Nat) (la:Option Addr) (ll lc:Nat),k<=n/\i=.int .i64 k/\x=.slice la ll lc/\wr.ownsRow w.heap.size 9 1 (.slice la ll lc) k ((kwn k).map Value.string)/\pU w wr
theorem qxh (n:Nat)(hn:n<=10)(w:World):qJ 167 #[.int .i64 n] w λe w'=>∃v,e=.returned v/\w'.ownsRow w.heap.size 9 1 v n ((kwn n).map Value.string)/\pU w w':=by
 have u:=pG (show pqt w n (.slice none 0 0) (.int .i64 0) w from⟨0,none,0,0,rW _,rfl,rfl,wB _ _ _ _,Below.refl _ _⟩);go_enter func167,ntmps167
 go_wp2_with fail
 go_loopw [3,4,6] (λx _ i wr=>pqt w n x i wr) (λ_ _ i _=>n-(intOf i).toNat)
 case atStart=>exact ku u
 case round=>
  obtain⟨k,B,D,C,A,rfl,rfl,q,hb⟩:=hrel;have d:=pG q;have g:=pG hb;have s:=hb.size;clear q hb;by_cases y:k<n
  ·have f:k<10:=by omega
   have j:=pG (qqc k f wr);have c:=pG (vz3 k);generalize kw9 k=z at *;go_wp2_with (first
    |(go_at_call 28;refine(ku j).mono ?_;rintro e F ⟨rfl,rfl⟩)
    |(at_builtin;refine apO ((ku d).alloc _) ?_))
   intro E w' a b _ p;obtain⟨m,t,c3,rfl⟩:=zq a;have l:=pG (show w'.ownsRow w.heap.size 9 1 (.slice m t c3) (k+1) ((kwn (k+1)).map Value.string) by rw[ku c,Qv];exact a);have h:=pG (((ku g).alloc s _).grown b ay (xg (ku d)));clear a b p;go_wp2
   go_roundw
   case rel=>exact⟨k+1,m,t,c3,aj,eu,rfl,ku l,ku h⟩
   case measure=>exact qQ
  ·have:k=n:=by omega
   subst this;go_wp2
   go_ret
   exact⟨_,rfl,ku d,ku g⟩
def pqn (w W:World)(l:List Tok)(x i:Value)(wr:World):Prop:=
 ∃(k:Nat) (la:Option Addr) (ll lc:Nat),k<=l.length/\i=.int .i64 k/\x=.slice la ll lc/\wr.ownsRow W.heap.size 9 1 (.slice la ll lc) k ((l.take k).map (λt=>Value.string t.text))/\pU W wr
theorem zzo (w:World)(lo:Nat)(l:List Tok)(nm:Tok)(E:Option Addr)(F mc:Nat)(hM:w.ownsRow lo 107 2 (.slice E F mc) l.length (kqe l))(X:l.length<=1000):
  qJ 168 #[.agg #[.string nm.text,.int .i64 nm.at_,.slice E F mc]] w λe w'=>∃v,e=.returned v/\w'.ownsRow w.heap.size 9 1 v l.length (l.map (λt=>Value.string t.text))/\pU w w':=by
 obtain⟨W,y⟩:∃W,W=w.alloc (.cells #[.string nm.text,.int .i64 nm.at_,.slice E F mc] 114):=⟨_,rfl⟩;have m:pU w W:=by rw[y];exact below_alloc1 w _
 have z:w.heap.size<W.heap.size:=by rw[y];simp
 obtain⟨xa,cap,h,c⟩:=ql (qj hM m);injection h with h S T;subst h;subst S;subst T;have Q:=pG c;have P:=pG (show pqn w W l (.slice none 0 0) (.int .i64 0) W from⟨0,none,0,0,rW _,rfl,rfl,wB _ _ _ _,Below.refl _ _⟩);have G:=pG m;have H:=pG y.symm;clear c hM m y;go_enter func168,ntmps168
 go_wp2_with fail
 rw[ku H];go_loopw [3,5,9] (λx _ i wr=>pqn w W l x i wr) (λ_ _ i _=>l.length-(intOf i).toNat)
 case atStart=>exact ku P
 case round=>
  obtain⟨k,Y,ll,Z,V,rfl,rfl,s,hb⟩:=hrel;have A:=pG s;have O:=pG hb;have M:=hb.size;by_cases q:k<l.length
  ·obtain⟨g,rfl,U,L,K⟩:=ku Q k q;have C:=λj (D:j<2)=>xq kj9 2 (λ_=>rfl) l k j q D
   have B:∀j,j<l.length*2->wr.cell? ⟨g,j,none⟩=(kqe l)[j]?:=λj D=>(hb.cell (p:=⟨g,j,none⟩) L).trans (K j D)
   have R:=(B (k*2+0) aj).trans (C 0 aj);have h:=(B (k*2+1) aj).trans (C 1 aj);simp only[kj9,sZ,tu,sU]at R h;have u:=pG (show(l.take (k+1)).map (λt=>Value.string t.text)=(l.take k).map (λt=>Value.string t.text)++[.string l[k].text] by rw[Qx q,Qv];rfl);generalize l[k]=t at *;clear B C K s hb;go_wp2_with (at_builtin;refine apO (((ku A).alloc _).alloc _) ?_)
   intro v' w' a b _ J;obtain⟨I,N,c3,rfl⟩:=zq a;have f:=pG (show w'.ownsRow W.heap.size 9 1 (.slice I N c3) (k+1) ((l.take (k+1)).map (λt=>Value.string t.text)) by rw[ku u,List.map_take];exact a);have d:=pG ((((ku O).alloc M _).alloc ay _).grown b ay (xg (ku A)));clear a b J;go_wp2
   go_roundw
   case rel=>exact⟨k+1,I,N,c3,aj,eu,rfl,ku f,ku d⟩
   case measure=>exact qQ
  ·have:k=l.length:=by omega
   subst this;rw[QM]at s;have f:=pG (zu (Qs z) s);have d:=pG ((ku G).trans (hb.mono (Qs z)));clear s hb A;go_wp2
   go_ret
   exact⟨_,rfl,ku f,ku d⟩
end Go.Proofs.YtpmcnonmkghokaaGreatDoor

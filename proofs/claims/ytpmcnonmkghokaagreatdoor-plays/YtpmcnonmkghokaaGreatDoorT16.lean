import Derived.Test.YtpmcnonmkghokaaGreatDoorT15
import Derived.Test.YtpmcnonmkghokaaGreatDoorT14
set_option maxRecDepth 100000
set_option maxHeartbeats 4000000
set_option linter.unusedVariables false
set_option linter.unusedSimpArgs false
namespace Go.Proofs.YtpmcnonmkghokaaGreatDoor
open Go.Proofs.Tryz
open Go.RowKit
attribute [local go_sem ↓] Go.wp_at_zero Go.wp_at_succ
variable {cs cs':Array Value}{b:Bool}{ms st:List Int}{vars:List MVar}{l:List PP}{M R g k lo n nb:Nat}{fr:Nat×Nat}{t:TypeId}{sv:Value}{w w':World}{tab:kq1}
theorem BIs.nm {lo B:Nat}{no:Option Nat}{w w':World}{t:TypeId}{cs:Array Value}{fr:Nat×Nat}(d:w.heap[B]?=some (.cells cs t fr))(g:t≠358)(c:t≠334)(f:Kept B w w'):∀{b:PB} {xs:List Value},BIs lo no w b xs->BIs lo no w' b xs
 |.nil,_,h=>h
 |.node _ _ a .nil n,cs,⟨p,rest,e,hx,hn⟩=>⟨p,rest,e,hx.nm d g f,BIs.nm d g c f hn⟩
 |.node _ _ a (.node _ _ _ t e) n,cs,⟨p,ta,tn,tc,ea,en,ec,ct,ce,rest,e1,hx,⟨ht1,ht3,ht2⟩,⟨he1,he3,hee2⟩,hn⟩=>
  ⟨p,ta,tn,tc,ea,en,ec,ct,ce,rest,e1,hx.nm d g f,⟨kqb ht1 d c f,ht3,BIs.nm d g c f ht2⟩,⟨kqb he1 d c f,he3,BIs.nm d g c f hee2⟩,BIs.nm d g c f hn⟩
def vkl:PX->List Tok
 |.nil=>[zf]
 |.node _ _ x _ _=>kz7 x.name x.index
theorem zkp:∀x:PX,∃n i:Tok,plC x=[.string n.text,.int .i64 n.at_,.bool (!(i.kind.toList==[])),.string i.text,.int .i64 i.at_]/\vkl x=kz7 n i
 |.nil=>⟨zf,zf,by rw[kqw];rfl,by unfold kz7;rw[kqw];rfl⟩
 |.node _ _ x _ _=>⟨x.name,x.index,rfl,rfl⟩
def pz:PB->List Tok
 |.nil=>[]
 |.node _ _ a .nil n=>(vkl a.place++cu a.value)++pz n
 |.node _ _ a (.node _ _ _ t e) n=>((cu a.cond++pz t)++pz e)++pz n
def kw5:PB->Prop
 |.nil=>True
 |.node _ _ a .nil n=>kw5 n
 |.node _ _ a (.node _ _ _ t e) n=>(kw5 t/\kq4 t<=1000)/\(kw5 e/\kq4 e<=1000)/\kw5 n
def kkx (b:PB):Prop:=∀(w:World) (B bb lo so:Nat) (no:Option Nat) (tab:Tab) (l:List PP) (pa:Option Addr) (pn pc:Nat) (z:Int) (v:Value) (cs:List Value),Nm w B bb tab (.slice pa pn pc) z->w.ownsRow lo 352 4 (.slice pa pn pc) l.length (xu l)->l.length<=1000 ->
  w.ownsRow so 334 9 v (kq4 b) cs->BIs so no w b cs->kw5 b->kq4 b<=1000->(∀y∈pz b,y.text.size<=1000) ->
  qJ 161 #[.pointer (some ⟨B,0,none⟩),v] w λe w'=>e=.returned (.tuple #[])/\Nm w' B bb tab (.slice pa pn pc) ((pz b).foldl (kwp tab l) z)/\Kept B w w'
def qy6:PB->Prop
 |.nil=>True
 |.node _ _ _ .nil n=>kkx .nil/\qy6 n
 |.node _ _ _ (.node _ _ _ t e) n=>kkx t/\kkx e/\qy6 n
def pqr (w:World)(B b so:Nat)(no:Option Nat)(tab:Tab)(l:List PP)(ps:Value)(fin:Int)(len:Nat)(cs:List Value)(i:Value)(wr:World):Prop:=
 ∃(k:Nat) (rest:PB) (a:Int),k+kq4 rest=len/\i=.int .i64 k/\BIs so no wr rest (cs.drop (k*9))/\qy6 rest/\kw5 rest/\(∀y∈pz rest,y.text.size<=1000)/\(pz rest).foldl (kwp tab l) a=fin/\Nm wr B b tab ps a/\Kept B w wr
theorem qq3 {cs st rest:List Value}  (h:cs.drop (k*9)=st++rest)(a:st.length=9):cs.drop ((k+1)*9)=rest/\∀j,j<9->cs[k*9+j]?=st[j]?:=by
 constructor
 ·rw[show(k+1)*9=k*9+9 by omega,<-List.drop_drop,h,<-a,Zx]
 ·intro j b;rw[<-JW,h,JZ aj]
theorem qj6 (b:PB)(hI:qy6 b):kkx b:=by
 intro w B L lo so no tab l pa pn pc z v cs h ho hl hv a8 f aX s;have aU:=wu h.nm;obtain⟨xa,cap,rfl,a2⟩:=ql hv;have HW:=pG (show ∀i,i<kq4 b->∃g,xa=some ⟨g,0,none⟩/\g≠B/\∀j,j<kq4 b*9->w.cell? ⟨g,j,none⟩=cs[j]? from λi hi=>by
  obtain⟨g,rfl,_,_,hc⟩:=a2 i hi;exact⟨g,rfl,λe=>not_row hv h.nm ak (by rw[<-e];rfl),hc⟩)
 have HR:=pG (show pqr w B L so no tab l (.slice pa pn pc) ((pz b).foldl (kwp tab l) z) (kq4 b) cs (.int .i64 0) w from⟨0,b,z,aj,rfl,by simpa using a8,hI,f,s,rfl,h,Kept.refl _ _⟩);have aF:=pG (show cs.length=kq4 b*9 from a8.len);have HN:=pG h;have HO:=pG ho;generalize (pz b).foldl (kwp tab l) z=fin at *;generalize kq4 b=len at *;clear h ho a2 hv a8 f s hI;go_enter func161,ntmps161
 go_wp2_with fail
 go_loopw [5,8] (λ_ i wr=>pqr w B L so no tab l (.slice pa pn pc) fin len cs i wr) (λ_ i _=>len-(intOf i).toNat)
 case atStart=>exact ku HR
 case round=>
  obtain⟨k,rest,a0,D,rfl,J,q,f,s,a9,hN,hK⟩:=hrel;have m:=pG hN;have O:=pG hK;have a1:=pG (kqb (ku HO) (ku HN).nm ak hK);have K:=pG a9;have aY:=hK.size;have aV:=wu hN.nm;clear hN hK a9;match rest,J,q,f,s,K,D with
  |.nil,J,q,f,s,K,D=>
   have aW:¬k<len:=kG;clear J q f s D;go_wp2
   go_end0
   exact⟨rfl,by rw[<-ku K];exact ku m,ku O⟩
  |.node _ _ la .nil nx,J,q,f,s,K,D=>
   obtain⟨p,aT,hd,hx,W⟩:=J;have aC:k<len:=kG;obtain⟨g,rfl,aA,hc⟩:=ku HW k aC;obtain⟨n,i,X,Y⟩:=zkp la.place;obtain⟨T,S⟩:=qq3 hd (qqi _ _ _ _ _);have c:∀j,j<9->∀u,(stC false la (.pointer p) (.slice none 0 0) (.slice none 0 0))[j]?=some u->wr.cell? ⟨g,k*9+j,none⟩=some u:=λj hj u hu=>(ku O).cell (a:=⟨g,k*9+j,none⟩) aA ((hc (k*9+j) aj).trans ((S j hj).trans hu))
   unfold stC at c;rw[X]at c;have e0:=c 0 aj _ rfl;have e1:=c 1 aj _ rfl;have e2:=c 2 aj _ rfl;have e3:=c 3 aj _ rfl;have e4:=c 4 aj _ rfl;have e5:=c 5 aj _ rfl;have e6:=c 6 aj _ rfl;have e7:=c 7 aj _ rfl;have e8:=c 8 aj _ rfl;simp only[sU]at e0;have aP:∀y∈kz7 n i,y.text.size<=1000:=λy C=>s y (by rw[pz,Y];simp[C])
   have aQ:∀y∈cu la.value,y.text.size<=1000:=λy C=>s y iP
   have Z:∀y∈pz nx,y.text.size<=1000:=λy C=>s y iP
   have a4:=pG (show(pz nx).foldl (kwp tab l) ((cu la.value).foldl (kwp tab l) ((kz7 n i).foldl (kwp tab l) a0))=fin by rw[<-ku K,pz,Y,QJ,QJ]);have a3:=pG (show BIs so no wr nx (cs.drop ((k+1)*9)) by rw[T];exact W);have aK:=pG hx;have a7:=pG (zyv _ B L lo tab l pa pn pc a0 n i ((ku m).alloc (.cells #[.bool false,.string n.text,.int .i64 n.at_,.bool (!(i.kind.toList==[])),.string i.text,.int .i64 i.at_,.pointer p,.slice none 0 0,.slice none 0 0] 334)) ((ku a1).alloc _) hl aP);have H:=pG (⟨q.2,f,Z⟩:qy6 nx/\kw5 nx/\∀y∈pz nx,y.text.size<=1000);have aD:=q.1;have aJ:=pG aQ;have aB:k+1+kq4 nx=len:=kG;clear c hc S T hd X Y s aP Z hx W f q K HR HW aF D aQ;unfold pl5 at a7;generalize (!(i.kind.toList==[]))=d at *;go_wp2_with fail
   refine(ku a7).mono ?_;rintro e w2 ⟨rfl,h2,U⟩;have r2:=U.row (b:=wr.heap.size) aj (qg _ _);obtain⟨⟨_,_,_,_,_,_,r6,r7,r8⟩,_⟩:=kkv r2;have aI:=pG r2;have a6:=pG (kqb ((ku a1).alloc _) ((ku m).alloc _).nm ak U);have M:=pG (kyf la.value w2 B L lo so tab l pa pn pc _ _ h2 (ku a6) hl (XIs.nm ((ku m).alloc _).nm ak U ((ku aK).below (below_alloc1 _ _))) (ku aJ));have aG:=pG ((Kept.kqn _).trans U);have aH:=pG h2;clear h2 U r2 a7 e0 e1 e2 e3 e4 e5 e6 e7 e8 aK aJ;go_wp2_with fail
   refine(ku M).mono ?_;rintro e w3 ⟨rfl,h3,x⟩;have r3:=x.row (b:=wr.heap.size) aj (ku aI);obtain⟨⟨_,_,_,_,_,_,_,t7,t8⟩,_⟩:=kkv r3;have R:=pG r3;have I:=pG (kqb (ku a6) (ku aH).nm ak x);have E:=pG ((ku aG).trans x);have G:=pG h3;clear h3 x r3 M r6 r7 r8 aI a6 aH aG;go_wp2_with fail
   refine(aD w3 B L lo so no tab l pa pn pc _ _ [] (ku G) (ku I) hl (wB _ _ _ _) rfl trivial (by simp[kq4]) (by simp[pz])).mono ?_;rintro e w4 ⟨rfl,h4,A⟩;have r4:=A.row (b:=wr.heap.size) aj (ku R);obtain⟨⟨_,_,_,_,_,_,_,_,s8⟩,_⟩:=kkv r4;have Q:=pG (kqb (ku I) (ku G).nm ak A);have F:=pG ((ku E).trans A);have P:=pG h4;clear h4 A r4 t7 t8 R I G E;go_wp2_with fail
   refine(aD w4 B L lo so no tab l pa pn pc _ _ [] (ku P) (ku Q) hl (wB _ _ _ _) rfl trivial (by simp[kq4]) (by simp[pz])).mono ?_;rintro e w5 ⟨rfl,h5,V⟩;have N:=pG ((ku F).trans V);have a5:=pG h5;clear h5 V s8 Q P F;go_wp2
   go_roundw
   case rel=>exact⟨k+1,nx,_,aB,eu,(ku a3).nm (ku m).nm ak ak (ku N),(ku H).1,(ku H).2.1,(ku H).2.2,ku a4,ku a5,(ku O).trans (ku N)⟩
   case measure=>exact qQ
  |.node _ _ la (.node _ _ _ t e) nx,J,q,f,s,K,D=>
   obtain⟨p,ta,tn,tc,ea,en,ec,ct,ce,aT,hd,hx,⟨aR,_,aS⟩,⟨aL,_,aM⟩,W⟩:=J;have aC:k<len:=kG;obtain⟨g,rfl,aA,hc⟩:=ku HW k aC;obtain⟨n,i,X,Y⟩:=zkp la.place;obtain⟨T,S⟩:=qq3 hd (qqi _ _ _ _ _);have c:∀j,j<9->∀u,(stC true la (.pointer p) (.slice ta tn tc) (.slice ea en ec))[j]?=some u->wr.cell? ⟨g,k*9+j,none⟩=some u:=λj hj u hu=>(ku O).cell (a:=⟨g,k*9+j,none⟩) aA ((hc (k*9+j) aj).trans ((S j hj).trans hu))
   unfold stC at c;rw[X]at c;have e0:=c 0 aj _ rfl;have e1:=c 1 aj _ rfl;have e2:=c 2 aj _ rfl;have e3:=c 3 aj _ rfl;have e4:=c 4 aj _ rfl;have e5:=c 5 aj _ rfl;have e6:=c 6 aj _ rfl;have e7:=c 7 aj _ rfl;have e8:=c 8 aj _ rfl;simp only[sU]at e0;have aN:∀y∈cu la.cond,y.text.size<=1000:=λy C=>s y iP
   have aE:∀y∈pz t,y.text.size<=1000:=λy C=>s y iP
   have aO:∀y∈pz e,y.text.size<=1000:=λy C=>s y iP
   have Z:∀y∈pz nx,y.text.size<=1000:=λy C=>s y iP
   have a4:=pG (show(pz nx).foldl (kwp tab l) ((pz e).foldl (kwp tab l) ((pz t).foldl (kwp tab l) ((cu la.cond).foldl (kwp tab l) a0)))=fin by rw[<-ku K,pz,QJ,QJ,QJ]);have a3:=pG (show BIs so no wr nx (cs.drop ((k+1)*9)) by rw[T];exact W);have HT:=pG (⟨aR,aS,f.1.1,f.1.2,aE,q.1⟩:wr.ownsRow so 334 9 (.slice ta tn tc) (kq4 t) ct/\BIs so no wr t ct/\kw5 t/\kq4 t<=1000/\(∀y∈pz t,y.text.size<=1000)/\kkx t);have HE:=pG (⟨aL,aM,f.2.1.1,f.2.1.2,aO,q.2.1⟩:wr.ownsRow so 334 9 (.slice ea en ec) (kq4 e) ce/\BIs so no wr e ce/\kw5 e/\kq4 e<=1000/\(∀y∈pz e,y.text.size<=1000)/\kkx e);have M:=pG (kyf la.cond _ B L lo so tab l pa pn pc a0 _ ((ku m).alloc (.cells #[.bool true,.string n.text,.int .i64 n.at_,.bool (!(i.kind.toList==[])),.string i.text,.int .i64 i.at_,.pointer p,.slice ta tn tc,.slice ea en ec] 334)) ((ku a1).alloc _) hl (hx.below (below_alloc1 _ _)) aN);have H:=pG (⟨q.2.2,f.2.2,Z⟩:qy6 nx/\kw5 nx/\∀y∈pz nx,y.text.size<=1000);have aB:k+1+kq4 nx=len:=kG;clear c hc S T hd X Y s aN Z hx W f q K HR HW aF D aE aO aR aS aL aM;generalize (!(i.kind.toList==[]))=d at *;go_wp2_with fail
   refine(ku M).mono ?_;rintro e' w3 ⟨rfl,h3,x⟩;have r3:=x.row (b:=wr.heap.size) aj (qg _ _);obtain⟨⟨_,_,_,_,_,_,_,t7,t8⟩,_⟩:=kkv r3;have R:=pG r3;have I:=pG (kqb ((ku a1).alloc _) ((ku m).alloc _).nm ak x);have E:=pG ((Kept.kqn _).trans x);have G:=pG h3;clear h3 x r3 M e0 e1 e2 e3 e4 e5 e6 e7 e8;go_wp2_with fail
   refine((ku HT).2.2.2.2.2 w3 B L lo so no tab l pa pn pc _ _ ct (ku G) (ku I) hl (kqb (ku HT).1 (ku m).nm ak (ku E)) ((ku HT).2.1.nm (ku m).nm ak ak (ku E)) (ku HT).2.2.1 (ku HT).2.2.2.1 (ku HT).2.2.2.2.1).mono ?_;rintro e' w4 ⟨rfl,h4,A⟩;have r4:=A.row (b:=wr.heap.size) aj (ku R);obtain⟨⟨_,_,_,_,_,_,_,_,s8⟩,_⟩:=kkv r4;have Q:=pG (kqb (ku I) (ku G).nm ak A);have F:=pG ((ku E).trans A);have P:=pG h4;clear h4 A r4 t7 t8 R I G E HT;go_wp2_with fail
   refine((ku HE).2.2.2.2.2 w4 B L lo so no tab l pa pn pc _ _ ce (ku P) (ku Q) hl (kqb (ku HE).1 (ku m).nm ak (ku F)) ((ku HE).2.1.nm (ku m).nm ak ak (ku F)) (ku HE).2.2.1 (ku HE).2.2.2.1 (ku HE).2.2.2.2.1).mono ?_;rintro e' w5 ⟨rfl,h5,V⟩;have N:=pG ((ku F).trans V);have a5:=pG h5;clear h5 V s8 Q P F HE;go_wp2
   go_roundw
   case rel=>exact⟨k+1,nx,_,aB,eu,(ku a3).nm (ku m).nm ak ak (ku N),(ku H).1,(ku H).2.1,(ku H).2.2,ku a4,ku a5,(ku O).trans (ku N)⟩
   case measure=>exact qQ
theorem jwd:kkx .nil:=qj6 .nil trivial
theorem qqk:∀b:PB,qy6 b
 |.nil=>trivial
 |.node _ _ _ .nil n=>⟨jwd,qqk n⟩
 |.node _ _ _ (.node _ _ _ t e) n=>⟨qj6 t (qqk t),qj6 e (qqk e),qqk n⟩
theorem jwc (b:PB):kkx b:=qj6 b (qqk b)
theorem zzc {p:Addr}{v:Value}(o:Obj)(h:w.cell? p=some v)(a:p.block<w.heap.size):(w.alloc o).cell? p=some v:=((below_alloc1 w o).cell a).trans h
def qjb:List PP->List UInt8->Nat
 |[],_=>0
 |p::l,s=>if p.name.text.toList==s then 0 else qjb l s+1
theorem jqg:∀(l:List PP) (k:Nat) (s:List UInt8),k<=l.length->(∀i (hi:i<l.length),i<k->(l[i].name.text.toList==s)=false)->qjb l s=k+qjb (l.drop k) s
 |[],k,s,a,_=>by simp at a;subst a;simp
 |p::l,0,s,_,_=>au
 |p::l,k+1,s,a,h=>by
  have b:=h 0 au aj;simp only[Qi]at b;have:=jqg l k s lq (λi hi a=>ig);rw[qjb,b,J7];simp;omega
def jj2 (vars:List MVar)(tab:kq1)(l:List PP)(ms st:List Int)(s:List UInt8):Option Int:=
 if fpB l s then (ms[qjb l s]?).bind λm=>(small m).map (·+1)
 else if (kj1 tab s).isVar then (vars[(kj1 tab s).num]?).bind λv=>(st[v.first]?).bind small
 else some (kj1 tab s).num
theorem zzk (w:World)(lo R M nb:Nat)(vars:List MVar)(tab:kq1)(l:List PP)(ms st:List Int)(sv:Value)(b:Bool)(n:Tok)(h:Rn lo w R M nb vars tab l ms st sv b)(hv:vars.length<=1000)(aU:l.length<=1000)(hs:n.text.size<=1000)(fin:Int)(S:jj2 vars tab l ms st n.text.toList=some fin):
  qJ 256 #[.pointer (some ⟨R,0,none⟩),ptV n] w λe w'=>e=.returned (.int .i64 fin)/\pU w w':=by
 obtain⟨W,P⟩:∃W,W=w.alloc (.cells #[.string n.text,.int .i64 n.at_] 107):=⟨_,rfl⟩;have f:pU w W:=by rw[P];exact below_alloc1 w _
 have aV:w.heap.size<W.heap.size:=by rw[P];simp
 have a9:=pG (show W.heap[w.heap.size]?=some (.cells #[.string n.text,.int .i64 n.at_] 107 (0,0)) by rw[P];exact qg _ _);have aA:=pG (h.below f);have aL:R<w.heap.size:=by obtain⟨⟨tx,pa,pn,pc,ma,mn,mc,O,_,_⟩,_⟩:=h;exact wu O
 obtain⟨⟨tx,pa,pn,pc,ma,mn,mc,O,a,a1⟩,aJ,a5⟩:=h.below f;obtain⟨xa,cap,e1,F⟩:=ql a;injection e1 with ea en ec;subst ea;subst en;subst ec;obtain⟨ya,yc,e2,s⟩:=ql a1;injection e2 with ea en ec;subst ea;subst en;subst ec;obtain⟨za,zc,e3,t⟩:=ql a5;subst e3;have HR:=pG O;have HW:=pG F;have aD:=pG s;have aE:=pG t;have G:=pG f;have aF:=pG P.symm;have E:=pG (show(if fpB l n.text.toList then (ms[qjb l n.text.toList]?).bind λm=>(small m).map (·+1)
 else if (kj1 tab n.text.toList).isVar then (vars[(kj1 tab n.text.toList).num]?).bind λv=>(st[v.first]?).bind small
 else some ((kj1 tab n.text.toList).num:Int))=some fin from S)
 have r2:w.cell? ⟨R,2,none⟩=some (.slice pa l.length pc):=(f.cell (p:=⟨R,2,none⟩) aL).symm.trans (kzb O).2.2.1;clear F s t f P O a a1 aJ a5 h S;unfold ptV;go_enter func256,ntmps256
 go_wp2_with fail
 rw[ku aF];go_loopw [5,6,14] (λ_ _ i wr=>∃k:Nat,k<=l.length/\i=.int .i64 k/\(∀i (hi:i<l.length),i<k->(l[i].name.text.toList==n.text.toList)=false)/\pU W wr) (λ_ _ i _=>l.length-(intOf i).toNat)
 case atStart=>exact⟨0,rW _,rfl,λi _ h=>aj,Below.refl _ _⟩
 case round=>
  obtain⟨k,hk,rfl,a4,hb⟩:=hrel;have u:=pG a4;have HB:=pG hb;have aM:=hb.size;have Y:=(hb.block w.heap.size aj).trans (ku a9);obtain⟨m0,m1,_,_⟩:=kj0 Y;obtain⟨r0,r1,r2,r3,r4,r5,_⟩:=kzb ((hb.block R aj).trans (ku HR));have D:=wu Y;have a2:R<wr.heap.size:=aj;clear a4 Y;by_cases C:k<l.length
  ·obtain⟨g,rfl,aH,U,Q⟩:=ku HW k C;have J:=λj (hj:j<4)=>xq kzj 4 (λ_=>rfl) l k j C hj
   have H:∀j,j<l.length*4->wr.cell? ⟨g,j,none⟩=(xu l)[j]?:=λj hj=>(hb.cell (p:=⟨g,j,none⟩) U).trans (Q j hj)
   have e0:=(H (k*4+0) aj).trans (J 0 aj);have e1:=(H (k*4+1) aj).trans (J 1 aj);have e2:=(H (k*4+2) aj).trans (J 2 aj);have e3:=(H (k*4+3) aj).trans (J 3 aj);simp only[kzj,sZ,tu,sU]at e0 e1 e2 e3;have T:=jqg l k n.text.toList hk (ku u);rw[rM C]at T;have a:=zq4 l k n.text.toList (ku u);rw[rM C]at a;have HP:=pG a.2;have HF:=pG T;have a0:=pG (λ(Z:(l[k].name.text.toList==n.text.toList)=false)=>(show ∀i (hi:i<l.length),i<k+1->(l[i].name.text.toList==n.text.toList)=false from λi hi h=>by
    by_cases e:i=k
    ·subst e;exact Z
    ·exact(ku u) i hi aj))
   generalize l[k]=p at e0 e1 e2 e3 HP a0 HF;clear H J Q a T;cases Z:(p.name.text.toList==n.text.toList)
   ·have aB:=pG ((ku a0) Z);clear hb;go_wp2
    go_roundw
    case rel=>exact⟨k+1,aj,eu,ku aB,(ku HB).alloc aM _⟩
    case measure=>exact qQ
   ·have h1:=ku E;rw[ku HP,ku HF,show fpB (p::l.drop (k+1)) n.text.toList=true by simp[fpB,Z],show qjb (p::l.drop (k+1)) n.text.toList=0 by simp[qjb,Z],if_pos rfl,sU]at h1;obtain⟨mk,X,K⟩:=wQ.mp h1;obtain⟨y,L,h4⟩:=rJ.mp K;obtain⟨rfl,aP,aQ⟩:=ky8 L;obtain⟨aI,aK⟩:=tZ.mp X;obtain⟨g',rfl,aR,a7,a3⟩:=ku aD k aI;have I:=(hb.cell (p:=⟨g',k,none⟩) a7).trans (a3 k aj);rw[QV,X,Option.map_some]at I;have V:g'<wr.heap.size:=aj;have H4:=pG h4;clear hb a3 h1 K L h4 X aK;go_wp2
    go_ret
    refine⟨kqv ?_,?_⟩
    ·rw[<-ku H4]
    ·exact(((ku G).trans ((ku HB).mono aj)).alloc aj _)
  ·have a:=(zq4 l l.length n.text.toList (λi hi _=>(ku u) i hi aj)).2;rw[Qd]at a;have h1:=ku E;rw[show fpB l n.text.toList=false from a,if_neg au]at h1;have c:=(ku aA).below hb;have hl:=qzv c.mc.tab hs;have A:=qzv (c.below (Below.refl _ _).drew).mc.tab hs;have B:=qzv (c.below ((Below.refl _ _).alloc (wJ _) (.cells #[.bool false,.int .i64 0] 116)).drew).mc.tab hs;obtain⟨⟨y0,y1,y2,y3,y4,y5,y6,N,_,_⟩,_⟩:=c.mc;obtain⟨_,_,_,_,m4,_⟩:=kzb N;have aS:=wu N;clear N;cases z:(kj1 tab n.text.toList).isVar
   ·rw[z,if_neg au]at h1;injection h1 with h1;have H1:=pG h1;unfold kyd at hl A B;rw[z]at hl A B;generalize (kj1 tab n.text.toList).num=q at *;clear h1 a c hb;go_wp2
    go_region
    all_goals
     go_wp2
     go_ret
     exact⟨kqv (ku H1),(((ku G).trans ((ku HB).mono aj)).alloc aj _).drew⟩
   ·rw[z,if_pos rfl]at h1;obtain⟨v,a6,K⟩:=wQ.mp h1;obtain⟨x,hx,L⟩:=wQ.mp K;obtain⟨rfl,aP,aQ⟩:=ky8 L;obtain⟨aO,aN⟩:=tZ.mp hx;obtain⟨g,rfl,aH,U,Q⟩:=ku aE v.first aO;have I:=(hb.cell (p:=⟨g,v.first,none⟩) U).trans (Q v.first aj);rw[QV,hx,Option.map_some]at I;have V:g<wr.heap.size:=aj;unfold kyd at hl A B;rw[z]at hl A B;have aC:=pG (λw' (aG:pU wr w')=>qjp w' lo R M nb vars tab l ms st _ b n (c.below aG) hs v a6 hv);have aT:=vz6 v;generalize (kj1 tab n.text.toList).num=q at *;clear hb Q h1 K L a c a6 hx aN;go_upto_region 10 with fail
    go_region
    all_goals
     go_upto_region 10 with fail
     go_region_held3 (λw'=>w'.cell? ⟨R,4,none⟩=some (.slice (some ⟨g,0,none⟩) st.length zc)/\w'.cell? ⟨w.heap.size,0,none⟩=some (.string n.text)/\w'.cell? ⟨w.heap.size,1,none⟩=some (.int .i64 n.at_)/\w'.cell? ⟨g,v.first,none⟩=some (.int .u8 fin))
      (first|exact⟨z0,z1,z2,z3⟩|exact⟨zzc _ r4 a2,zzc _ m0 D,zzc _ m1 D,zzc _ I V⟩)
      ((go_at_call 233;refine((ku aC) _ (((Below.refl _ _).alloc (wJ _) _).drew.drew)).mono ?_;rintro e w2 ⟨ta,tc,rfl,_,d⟩;have z0:=(d.cell (p:=⟨R,4,none⟩) ay).trans (zzc _ r4 a2);have z1:=(d.cell (p:=⟨w.heap.size,0,none⟩) ay).trans (zzc _ m0 D);have z2:=(d.cell (p:=⟨w.heap.size,1,none⟩) ay).trans (zzc _ m1 D);have z3:=(d.cell (p:=⟨g,v.first,none⟩) ay).trans (zzc _ I V);have a8:=pG d;clear d;dsimp only))
     go_wp2
     go_ret
     exact⟨kqv lU,((((ku G).trans ((ku HB).mono aj)).alloc aj _).drew.drew).trans ((ku a8).mono ay)⟩
theorem zx8 {b: TypeId}{a: Nat×Nat}(h:w.heap[k]?=some (.cells cs t fr))(d:w.heap[R]?=some (.cells cs' b a))(f:b≠t):k≠R:=λe=>by
 rw[e,d]at h;injection h with h1;injection h1 with g c;exact f c
theorem Mc.nm (h:Mc lo w M nb vars tab)(a:w.heap[R]?=some (.cells cs' t fr))(h1:t≠105)(i:t≠213)(j:t≠9)(b:Kept R w w'):Mc lo w' M nb vars tab:=by
 obtain⟨⟨x0,x1,x2,va,s,z,cs,hM,m,p⟩,d⟩:=h;refine⟨⟨x0,x1,x2,va,s,z,cs,(b.block M (wu hM) (zx8 hM a h1)).trans hM,kqb m a i b,p.stay λk e cs fr g q=>b.block k (wu g) (zx8 g a (by rw[q];exact j))⟩,d.stay (b.block nb d.lt ?_)⟩;obtain⟨⟨es,c,f,_⟩,_⟩:=d;intro e;rw[e,a]at f;injection f with l;cases l
theorem Rn.wrong (h:Rn lo w R M nb vars tab l ms st sv b)(c:Bool):Rn lo (w.setCell ⟨R,5,none⟩ (.bool c)) R M nb vars tab l ms st sv c:=by
 obtain⟨⟨k,pa,pn,pc,i,j,mc,a,g,hM⟩,e,f⟩:=h;have d:Kept R w (w.setCell ⟨R,5,none⟩ (.bool c)):=(Kept.refl _ _).kzq 5 _;exact⟨⟨k,pa,pn,pc,i,j,mc,heap_setCell_same _ R 5 _ _ _ a,kqb g a ak d,kqb hM a ak d⟩,e.nm a ak ak ak d,kqb f a ak d⟩
theorem Rn.lt (h:Rn lo w R M nb vars tab l ms st sv b):R<w.heap.size:=by
 obtain⟨⟨e,pa,pn,pc,c,d,mc,a,_⟩,_⟩:=h;exact wu a
theorem Rn.cells (h:Rn lo w R M nb vars tab l ms st sv b):w.cell? ⟨R,1,none⟩=some (.pointer (some ⟨M,0,none⟩))/\w.cell? ⟨R,4,none⟩=some sv/\w.cell? ⟨R,5,none⟩=some (.bool b)/\w.frozen? ⟨R,5,none⟩=false:=by
 obtain⟨⟨i,pa,pn,pc,f,g,mc,e,_⟩,_⟩:=h;obtain⟨_,a,_,_,b,c,_,_,_,_,_,d⟩:=kzb e;exact⟨a,b,c,d⟩
theorem Rn.orF (h:Rn lo w R M nb vars tab l ms st sv b):Rn lo w R M nb vars tab l ms st sv (b||false):=by rw[Qk];exact h
def atO (vars:List MVar)(tab:kq1)(l:List PP)(ms st:List Int)(v:MVar)(i:Tok):Option (Int×Bool):=
 if i.kind.toList==[] then some (v.first,false)
 else (jj2 vars tab l ms st i.text.toList).bind λx=>if x==0 then some (v.first,true) else (small x).bind λ_=>(small v.first).map λ_=>((v.first:Int)+x-1,false)
theorem vqu (w:World)(lo R M nb:Nat)(vars:List MVar)(tab:kq1)(l:List PP)(ms st:List Int)(sv:Value)(b:Bool)(v:MVar)(g:Option Addr)(j:Nat)(n i:Tok)(h:Rn lo w R M nb vars tab l ms st sv b)(E:vars.length<=1000)(B:l.length<=1000)(D:(i.kind.toList==[])=false->i.text.size<=1000)(r:Int×Bool)(a:atO vars tab l ms st v i=some r):
  qJ 234 #[.pointer (some ⟨R,0,none⟩),.agg (kkd v g j),pl5 n i] w λe w'=>e=.returned (.int .i64 r.1)/\Rn lo w' R M nb vars tab l ms st sv (b||r.2)/\Kept R w w':=by
 unfold kkd pl5;unfold atO at a;cases t:(i.kind.toList==[])
 ·rw[t,if_neg au]at a;obtain⟨x,F,a⟩:=wQ.mp a;obtain⟨W,d⟩:∃W,W=(w.alloc (.cells #[.int .i64 v.first,.int .i64 v.count,.slice g v.texts.length j,.int .i64 v.over,.int .i64 v.of_] 213)).alloc (.cells #[.string n.text,.int .i64 n.at_,.bool true,.string i.text,.int .i64 i.at_] 332):=⟨_,rfl⟩;have c:pU w W:=by rw[d];exact(below_alloc1 w _).trans ((below_alloc1 _ _).mono au)
  have C:w.heap.size+1<W.heap.size:=by rw[d];simp
  have u:W.heap[w.heap.size]?=some (.cells #[.int .i64 v.first,.int .i64 v.count,.slice g v.texts.length j,.int .i64 v.over,.int .i64 v.of_] 213 (0,0)):=by rw[d];exact zy (qg _ _)
  have A:W.heap[w.heap.size+1]?=some (.cells #[.string n.text,.int .i64 n.at_,.bool true,.string i.text,.int .i64 i.at_] 332 (0,0)):=by
   rw[d];have:=qg (w.alloc (.cells #[.int .i64 v.first,.int .i64 v.count,.slice g v.texts.length j,.int .i64 v.over,.int .i64 v.of_] 213)) (.cells #[.string n.text,.int .i64 n.at_,.bool true,.string i.text,.int .i64 i.at_] 332);simp only[tJ]at this;exact this
  have m:=zzk W lo R M nb vars tab l ms st sv b i (h.below c) E B (D t) x F;obtain⟨O,P,Q,S,T,_⟩:=jl A;unfold ptV at m;go_enter func234,ntmps234
  go_wp2_with fail
  rw[(pG d.symm)];refine m.mono ?_;rintro e w1 ⟨rfl,f⟩;obtain⟨U,V,X,Y,Z,_⟩:=jl ((f.block w.heap.size aj).trans u);have s:=(h.below c).below f;have k:=c.trans (f.mono (Qs (Nat.lt_trans (Nat.lt_succ_self _) C)));obtain⟨c1,c4,c5,N⟩:=s.cells;have a:=a;cases q:(x==0)
  ·rw[q,if_neg au]at a;obtain⟨y,G,a⟩:=wQ.mp a;obtain⟨z,H,a⟩:=rJ.mp a;obtain⟨_,I,J⟩:=ky8 G;obtain⟨_,K,L⟩:=ky8 H;subst a;go_wp2
   go_ret
   exact⟨rfl,s,Kept.of_below k⟩
  ·rw[q,if_pos rfl]at a;injection a with a;subst a;go_wp2
   go_ret
   exact⟨rfl,s.wrong true,(Kept.of_below k).kzq _ _⟩
 ·rw[t,if_pos rfl]at a;injection a with a;subst a;go_enter func234,ntmps234
  go_wp2
  go_ret
  have p:pU w ((w.alloc (.cells #[.int .i64 v.first,.int .i64 v.count,.slice g v.texts.length j,.int .i64 v.over,.int .i64 v.of_] 213)).alloc (.cells #[.string n.text,.int .i64 n.at_,.bool false,.string i.text,.int .i64 i.at_] 332)):=(below_alloc1 w _).trans ((below_alloc1 _ _).mono au);exact⟨rfl,(λ(w':World) (hb:pU w w')=>(show Rn lo w' R M nb vars tab l ms st sv (b||false) by rw[Qk];exact h.below hb)) _ p,Kept.of_below p⟩
def zky (vars:List MVar)(tab:kq1)(l:List PP)(ms st:List Int)(n i:Tok):Option (Int×Bool):=
 if i.kind.toList==[] then (jj2 vars tab l ms st n.text.toList).map λx=>(x,false)
 else (vars[(kj1 tab n.text.toList).num]?).bind λv=>(atO vars tab l ms st v i).bind λp=>if p.1<0 then none else (st[p.1.toNat]?).bind λx=>(small x).map λy=>(y,p.2)
def ky7 (vars:List MVar)(tab:kq1)(l:List PP)(ms st:List Int):PX->Option (Int×Bool)
 |.nil=>none
 |.node _ _ x a c=>
  if opN x.op.toList==0 then some (1,false) else if (opN x.op.toList==1||opN x.op.toList==2) then some (0,false) else if opN x.op.toList==3 then some (x.n,false)
  else if opN x.op.toList==4 then zky vars tab l ms st x.name x.index
  else if opN x.op.toList==5 then (ky7 vars tab l ms st a).bind λp=>(small p.1).map λ_=>(1-p.1,p.2)
  else (ky7 vars tab l ms st a).bind λp=>(ky7 vars tab l ms st c).bind λq=>(small p.1).bind λ_=>(small q.1).map λ_=>(kxv (opN x.op.toList) p.1 q.1,p.2||q.2)
def vj1:Prop:=∀(w:World) (lo R M nb:Nat) (vars:List MVar) (tab:kq1) (l:List PP) (ms st:List Int) (sv:Value) (b:Bool) (n i:Tok),Rn lo w R M nb vars tab l ms st sv b->vars.length<=1000->l.length<=1000->(∀y∈kz7 n i,y.text.size<=1000) ->
  ∀r:Int×Bool,zky vars tab l ms st n i=some r ->
  qJ 231 #[.pointer (some ⟨R,0,none⟩),pl5 n i] w λe w'=>e=.returned (.int .i64 r.1)/\Rn lo w' R M nb vars tab l ms st sv (b||r.2)/\Kept R w w'
def zxk (x:PX):Prop:=∀(w:World) (lo xo R M nb:Nat) (vars:List MVar) (tab:kq1) (l:List PP) (ms st:List Int) (sv:Value) (b:Bool) (v:Value),Rn lo w R M nb vars tab l ms st sv b->vars.length<=1000->l.length<=1000->XIs xo w x v->(∀y∈cu x,y.text.size<=1000) ->
  ∀r:Int×Bool,ky7 vars tab l ms st x=some r ->
  qJ 190 #[.pointer (some ⟨R,0,none⟩),v] w λe w'=>e=.returned (.int .i64 r.1)/\Rn lo w' R M nb vars tab l ms st sv (b||r.2)/\Kept R w w'
theorem Rn.blk (h:Rn lo w R M nb vars tab l ms st sv b):∃cs fr,w.heap[R]?=some (.cells cs 269 fr):=by
 obtain⟨⟨e,pa,pn,pc,c,d,mc,a,_⟩,_⟩:=h;exact⟨_,_,a⟩
theorem Rn.drew (h:Rn lo w R M nb vars tab l ms st sv b):Rn lo w.drew R M nb vars tab l ms st sv b:=h.below (Below.refl _ _).drew
theorem Rn.or2 {c d: Bool}(h:Rn lo w R M nb vars tab l ms st sv (b||c||d)):Rn lo w R M nb vars tab l ms st sv (b||(c||d)):=by rw[<-Je];exact h
theorem Rn.pjy (h:Rn lo w R M nb vars tab l ms st sv b):∃sa sc,sv=.slice sa st.length sc/\∀i (hi:i<st.length),∃g,sa=some ⟨g,0,none⟩/\g<w.heap.size/\w.cell? ⟨g,i,none⟩=some (.int .u8 st[i])/\w.frozen? ⟨g,i,none⟩=false:=by
 rcases h.st.2 with⟨h1,d⟩|⟨g,cap,c,h1,_,a,_,_,_,e⟩
 ·exact⟨none,0,by rw[h1,d],λi hi=>aj⟩
 ·refine⟨_,cap,h1,λi hi=>⟨g,rfl,wu a,?_,Zn w g i _ _ a⟩⟩;rw[QK w g i _ _ _ a];have:(c.toList.take (st.length*1))[i]?=some (.int .u8 st[i]):=by rw[e,QV,tY hi];rfl
  rw[Qo aj]at this;simpa using this
theorem Rn.sat {sc: Nat}      (h:Rn lo w R M nb vars tab l ms st (.slice (some ⟨g,0,none⟩) n sc) b)(f:k<st.length):w.cell? ⟨g,k,none⟩=some (.int .u8 st[k]):=by
 obtain⟨sa,j,e,i⟩:=h.pjy;injection e with c m p;subst c;obtain⟨q,a,_,d,_⟩:=i k f;injection a with a;injection a with a;subst a;exact d
theorem Kept.pj1 (h:Kept R w.drew w'):Kept R w w':=⟨h.os,h.tape,h.output,h.size,h.block⟩
theorem jwm:vj1:=by
 intro w lo R M nb vars tab l ms st sv b n i h X N m r a;have K:n.text.size<=1000:=m n kV;have A:(i.kind.toList==[])=false->i.text.size<=1000:=λe=>m i (by unfold kz7;rw[e];simp)
 unfold zky at a;unfold pl5;have a7:=h.lt;cases V:(i.kind.toList==[])
 ·rw[V,if_neg au]at a;obtain⟨v,Q,a⟩:=wQ.mp a;obtain⟨⟨p1,pw⟩,hp,a⟩:=wQ.mp a;by_cases L:p1<0
  ·rw[if_pos L]at a;cases a
  rw[if_neg L]at a;obtain⟨k,rfl⟩:=Qq (show 0<=p1 by omega);obtain⟨x,q,a⟩:=wQ.mp a;obtain⟨y,hy,O⟩:=rJ.mp a;obtain⟨S,a8,a9⟩:=ky8 hy;rw[S]at O;subst O;replace q:st[k]?=some x:=q
  obtain⟨J,I⟩:=tZ.mp q;obtain⟨sa,sc,rfl,P⟩:=h.pjy;obtain⟨g,rfl,a5,H,_⟩:=P k J;obtain⟨W,z⟩:∃W,W=w.alloc (.cells #[.string n.text,.int .i64 n.at_,.bool true,.string i.text,.int .i64 i.at_] 332):=⟨_,rfl⟩;have d:pU w W:=by rw[z];exact below_alloc1 w _
  have a6:w.heap.size<W.heap.size:=by rw[z];simp
  have U:W.heap[w.heap.size]?=some (.cells #[.string n.text,.int .i64 n.at_,.bool true,.string i.text,.int .i64 i.at_] 332 (0,0)):=by rw[z];exact qg _ _
  have j:=h.below d;obtain⟨_,r4,_,_⟩:=j.cells;obtain⟨q0,q1,q2,q3,q4,_⟩:=jl U;have s0:W.cell? ⟨g,k,none⟩=some (.int .u8 x):=by rw[<-I];exact(d.cell (p:=⟨g,k,none⟩) a5).trans H
  have F:=pG (qjp W.drew lo R M nb vars tab l ms st _ b n j.drew K v Q X);have f:=pG (λ(C:World) (h1:Rn lo C R M nb vars tab l ms st (.slice (some ⟨g,0,none⟩) st.length sc) b) (va:Option Addr) (Y:Nat)=>vqu C lo R M nb vars tab l ms st _ b v va Y n i h1 X N A _ hp);have t:=pG j.drew;have HP:=pG U;have s:=pG d;have a3:=pG z.symm;unfold pl5 at f;rw[V]at f;clear hp Q hy S a H P j U d z m A h;go_enter func231,ntmps231
  go_upto_region 2 with fail
  rw[ku a3];go_region_held3 (λw'=>w'.cell? ⟨R,4,none⟩=some (.slice (some ⟨g,0,none⟩) st.length sc)/\w'.cell? ⟨w.heap.size,0,none⟩=some (.string n.text)/\w'.cell? ⟨w.heap.size,1,none⟩=some (.int .i64 n.at_)/\w'.cell? ⟨w.heap.size,2,none⟩=some (.bool true)/\w'.cell? ⟨w.heap.size,3,none⟩=some (.string i.text)/\w'.cell? ⟨w.heap.size,4,none⟩=some (.int .i64 i.at_)/\w'.cell? ⟨g,k,none⟩=some (.int .u8 x))
   (first|exact⟨r4,q0,q1,q2,q3,q4,s0⟩|exact⟨a4,b0,b1,b2,b3,b4,t0⟩|exact⟨c4,d0,d1,d2,d3,d4,u0⟩)
   (first
   |(go_at_call 233;refine(ku F).mono ?_;rintro e C ⟨va,Y,rfl,_,c⟩;have h1:=(ku t).below c;have u:=(c.block w.heap.size (by simpa using a6)).trans (ku HP);obtain⟨_,a4,_,_⟩:=h1.cells;obtain⟨b0,b1,b2,b3,b4,_⟩:=jl u;have t0:=(c.cell (p:=⟨g,k,none⟩) (by show g<W.heap.size;omega)).trans s0;have T:=pG ((ku f) C h1 va Y);have a2:=pG u;have a0:=pG (((ku s).drew).trans (c.mono (by show w.heap.size<=W.heap.size;omega)));clear h1 u c F f)
   |(go_at_call 234;refine(ku T).mono ?_;rintro e w2 ⟨rfl,D,B⟩;have G:=B.row (b:=w.heap.size) aj (ku a2);obtain⟨_,c4,_,_⟩:=D.cells;obtain⟨d0,d1,d2,d3,d4,_⟩:=jl G;have u0:w2.cell? ⟨g,k,none⟩=some (.int .u8 x):=(by rw[<-I];exact D.sat J);have H2:=pG D;have a1:=pG ((Kept.of_below (ku a0)).trans B);clear D G B;dsimp only))
  all_goals
   go_wp2
   go_ret
   exact⟨kqv lU,ku H2,ku a1⟩
 ·rw[V,if_pos rfl]at a;obtain⟨x,q,a⟩:=rJ.mp a;subst a;have d:=below_alloc1 w (.cells #[.string n.text,.int .i64 n.at_,.bool false,.string i.text,.int .i64 i.at_] 332);have E:=pG (zzk _ lo R M nb vars tab l ms st sv b n (h.below d) X N K x q);have t:=pG (h.below d);have s:=pG d;unfold ptV at E;clear d q m A h;go_enter func231,ntmps231
  go_wp2_with fail
  refine(ku E).mono ?_;rintro e C ⟨rfl,c⟩;have H1:=pG ((ku t).below c);have Z:=pG ((ku s).trans (c.mono au));clear c;go_wp2
  go_ret
  exact⟨rfl,(ku H1).orF,Kept.of_below (ku Z)⟩
theorem jxf (a6:vj1)(i j:Nat)(x:ELab)(a c:PX)(a1:zxk a)(aC:zxk c):zxk (.node i j x a c):=by
 intro w lo xo R M nb vars tab l ms st sv b v h S D hX Q r hr;obtain⟨k,va,vb,rfl,hk,F,P,hb⟩:=hX;obtain⟨p1,rfl⟩:=P.ptr;obtain⟨p2,rfl⟩:=hb.ptr;obtain⟨aE,aF,H⟩:=h.blk;have V:k≠R:=zx8 F H ak;have L:∀y∈cu a,y.text.size<=1000:=λy g=>Q y (by rw[cu];simp[g])
 have W:∀y∈cu c,y.text.size<=1000:=λy g=>Q y (by rw[cu];simp[g])
 have X:∀y∈qxf x,y.text.size<=1000:=λy g=>Q y (by rw[cu];simp[g])
 have u:=zj2 x.op.toList;have a9:=F;unfold kwy at F;obtain⟨⟨q0,q1,q2,q3,q4,q5,q6,q7,q8⟩,_⟩:=kkv F;have E:(if opN x.op.toList==0 then some (1,false) else if (opN x.op.toList==1||opN x.op.toList==2) then some (0,false) else if opN x.op.toList==3 then some (x.n,false)
  else if opN x.op.toList==4 then zky vars tab l ms st x.name x.index
  else if opN x.op.toList==5 then (ky7 vars tab l ms st a).bind λp=>(small p.1).map λ_=>(1-p.1,p.2)
  else (ky7 vars tab l ms st a).bind λp=>(ky7 vars tab l ms st c).bind λq=>(small p.1).bind λ_=>(small q.1).map λ_=>(kxv (opN x.op.toList) p.1 q.1,p.2||q.2))=some r:=hr
 have t:=pG (λ(e:qxf x=kz7 x.name x.index) (he:zky vars tab l ms st x.name x.index=some r)=>a6 w lo R M nb vars tab l ms st sv b x.name x.index h S D (by rw[<-e];exact X) r he);have N:=pG (λp e=>a1 w lo xo R M nb vars tab l ms st sv b _ h S D P L p e);have B:=pG (λp e=>a1 w.drew lo xo R M nb vars tab l ms st sv b _ h.drew S D (P.below (Below.refl _ _).drew) L p e);have O:=pG (λ(m:World) (b1:Bool) (h1:Rn lo m R M nb vars tab l ms st sv b1) (f:Kept R w.drew m) q e=>aC m lo xo R M nb vars tab l ms st sv b1 _ h1 S D ((hb.below (Below.refl _ _).drew).nm (w:=w.drew) H ak f) W q e);have HX:=pG F;have C:=pG h;unfold pl5 at t;have aD:w.drew.heap[k]?=w.heap[k]?:=rfl;generalize (!(x.index.kind.toList==[]))=d at *;clear hr h P hb F a9 Q L W X H hk;go_enter func190,ntmps190
 generalize opN x.op.toList=o at *;cases h0:(o==0)
 case true=>
  rw[h0,if_pos rfl]at E;injection E with E;subst E;go_wp2
  go_ret
  exact⟨rfl,ku C,Kept.refl _ _⟩
 case false=>
 rw[h0,if_neg au]at E;cases h1:(o==1)
 case true=>
  rw[h1,Q9,if_pos rfl]at E;injection E with E;subst E;go_wp2
  go_ret
  exact⟨rfl,ku C,Kept.refl _ _⟩
 case false=>
 cases G:(o==2)
 case true=>
  rw[h1,G,Ju,if_pos rfl]at E;injection E with E;subst E;go_wp2
  go_ret
  exact⟨rfl,ku C,Kept.refl _ _⟩
 case false=>
 rw[h1,G,Qk,if_neg au]at E;cases h3:(o==3)
 case true=>
  rw[h3,if_pos rfl]at E;injection E with E;subst E;go_wp2
  go_ret
  exact⟨rfl,ku C,Kept.refl _ _⟩
 case false=>
 rw[h3,if_neg au]at E;cases h4:(o==4)
 case true=>
  rw[h4,if_pos rfl]at E;rw[h4]at u;have a2:=pG ((ku t) (by unfold qxf;rw[<-u];rfl) E);clear t E u N B O;go_wp2_with fail
  refine(ku a2).mono ?_;rintro e m ⟨rfl,h1,f⟩;have H1:=pG h1;have s:=pG f;clear h1 f;go_wp2
  go_ret
  exact⟨rfl,ku H1,ku s⟩
 case false=>
 rw[h4,if_neg au]at E;cases h5:(o==5)
 case true=>
  rw[h5,if_pos rfl]at E;obtain⟨p,K,E⟩:=wQ.mp E;obtain⟨y,g,E⟩:=rJ.mp E;obtain⟨_,Y,Z⟩:=ky8 g;subst E;have A:=pG ((ku N) p K);clear t u N B O K g;go_wp2_with fail
  refine(ku A).mono ?_;rintro e m ⟨rfl,h1,f⟩;have H1:=pG h1;have s:=pG f;clear h1 f;go_wp2
  go_ret
  exact⟨rfl,ku H1,ku s⟩
 case false=>
 rw[h5,if_neg au]at E;obtain⟨p,K,E⟩:=wQ.mp E;obtain⟨q,hq,E⟩:=wQ.mp E;obtain⟨y,g,E⟩:=wQ.mp E;obtain⟨z,hz,E⟩:=rJ.mp E;obtain⟨_,Y,Z⟩:=ky8 g;obtain⟨_,aA,aB⟩:=ky8 hz;subst E;have A:=pG ((ku B) p K);have a3:=pG (λm b1 h1 f=>(ku O) m b1 h1 f q hq);clear t u N B O K g hz hq;go_upto_region 13 with fail
 go_region_held3 (λw'=>w'.cell? ⟨k,0,none⟩=some (.int .i64 o)/\w'.cell? ⟨k,7,none⟩=some (.pointer p1)/\w'.cell? ⟨k,8,none⟩=some (.pointer p2))
  (first|exact⟨q0,q7,q8⟩|exact⟨a0,a7,a8⟩|exact⟨c0,c7,c8⟩)
  (first
  |(go_at_call 190;refine(ku A).mono ?_;rintro e m ⟨rfl,h1,f⟩;have I:=f.row V (ku HX);obtain⟨⟨a0,_,_,_,_,_,_,a7,a8⟩,_⟩:=kkv I;have T:=pG ((ku a3) m _ h1 f);have a5:=pG I;have s:=pG f;clear h1 f I A)
  |(go_at_call 190;refine(ku T).mono ?_;rintro e w2 ⟨rfl,G,J⟩;have U:=J.row V (ku a5);obtain⟨⟨c0,_,_,_,_,_,_,c7,c8⟩,_⟩:=kkv U;have H2:=pG G;have a4:=pG ((ku s).trans J);clear G J U T)
  |(go_at_call 232;refine(vvk o p.1 q.1 _ Y Z aA aB).mono ?_;rintro e w3 ⟨rfl,rfl⟩;dsimp only))
 all_goals
  go_wp2
  go_ret
  exact⟨rfl,(ku H2).or2,(ku a4).pj1⟩
theorem qxz:∀x:PX,zxk x
 |.nil=>λw lo d R M nb vars tab l ms st sv b v _ _ _ _ _ r h=>gY
 |.node i j x a c=>jxf jwm i j x a c (qxz a) (qxz c)
structure kxw (R:Nat)(o:Option Nat)(w w':World):Prop where
 os:w'.os=w.os
 tape:w'.tape=w.tape
 output:w'.output=w.output
 size:w.heap.size<=w'.heap.size
 block:∀k,k<w.heap.size->k≠R->o≠some k->w'.heap[k]?=w.heap[k]?
theorem kxw.refl (R:Nat)(o:Option Nat)(w:World):kxw R o w w:=⟨rfl,rfl,rfl,wJ _,λ_ _ _ _=>rfl⟩
theorem kxw.trans {o:Option Nat}{a b c:World}(h:kxw R o a b)(k:kxw R o b c):kxw R o a c:=
 ⟨k.os.trans h.os,k.tape.trans h.tape,k.output.trans h.output,rU h.size k.size,λi h1 d e=>(k.block i (Qy h1 h.size) d e).trans (h.block i h1 d e)⟩
theorem Kept.o (h:Kept R w w')(o:Option Nat):kxw R o w w':=⟨h.os,h.tape,h.output,h.size,λk h1 a _=>h.block k h1 a⟩
theorem qvb (h:pU w w')(R:Nat)(o:Option Nat):kxw R o w w':=⟨h.os,h.tape,h.output,h.size,λk h1 _ _=>h.block k h1⟩
theorem kxw.alone (h:kxw R none w w'):Kept R w w':=⟨h.os,h.tape,h.output,h.size,λk h1 a=>h.block k h1 a au⟩
theorem kxw.split {s: Nat}  (h:kxw R (some s) w w')(d:s<w.heap.size):∃m,Kept R w m/\m.heap[s]?=w.heap[s]?/\Kept s m w':=by
 obtain⟨x,f⟩:∃x,w.heap[s]?=some x:=⟨_,Array.getElem?_eq_getElem d⟩;have a:s<w'.heap.size:=Qy d h.size;refine⟨ChangeMaps.setBlock w' s x,⟨h.os,h.tape,h.output,by simpa[ChangeMaps.setBlock] using h.size,λk h1 c=>?_⟩,?_,⟨rfl,rfl,rfl,by simp[ChangeMaps.setBlock],λk h1 c=>?_⟩⟩
 ·by_cases e:k=s
  ·subst e;rw[f];simp[ChangeMaps.setBlock,Ja,a]
  ·rw[<-h.block k h1 c (by intro b;injection b with b;exact e b.symm)];simp[ChangeMaps.setBlock,Ja,Ne.symm e]
 ·rw[f];simp[ChangeMaps.setBlock,Ja,a]
 ·simp[ChangeMaps.setBlock,Ja,Ne.symm c]
theorem zyp {e cap: Nat}{xs:List Value}(h:w.ownsRow lo e 1 (.slice (some ⟨g,0,none⟩) n cap) n xs)(q:Nat)(u:Value):(w.setCell ⟨g,q,none⟩ u).ownsRow lo e 1 (.slice (some ⟨g,0,none⟩) n cap) n (xs.set q u):=by
 refine⟨by rw[Jv];exact h.1,?_⟩;rcases h.2 with⟨h1,_⟩|⟨p,c,m,a,d,f,i,j,k,l⟩
 ·cases h1
 ·injection a with a _ b;injection a with a;injection a with a;subst a;subst b;exact Or.inr ⟨g,cap,_,rfl,d,Go.heap_setCell_same _ g q _ _ _ f,i,j,by simpa using k,by rw[<-l,ZQ,List.take_set]⟩
theorem qkk (x:PX)(w:World)(lo d R M nb:Nat)(vars:List MVar)(tab:kq1)(l:List PP)(ms st:List Int)(sv:Value)(b:Bool)(p:Option Addr)(h:Rn lo w R M nb vars tab l ms st sv b)(k:vars.length<=1000)(c:l.length<=1000)(g:XIs d w x (.pointer p))(j:∀y∈cu x,y.text.size<=1000)(r:Int×Bool)(i:ky7 vars tab l ms st x=some r):
  qJ 132 #[.pointer (some ⟨R,0,none⟩),.pointer p] w λe w'=>e=.returned (.bool (r.1==1))/\Rn lo w' R M nb vars tab l ms st sv (b||r.2)/\Kept R w w':=by
 go_enter func132,ntmps132
 go_wp2_with fail
 refine(qxz x w lo d R M nb vars tab l ms st sv b _ h k c g j r i).mono ?_;rintro e m ⟨rfl,f,a⟩;go_wp2
 go_ret
 exact⟨rfl,f,a⟩
def jvx (vars:List MVar)(tab:kq1)(l:List PP)(ms st:List Int)(n i:Tok)(x:PX):Option (List Int×Bool):=
 (ky7 vars tab l ms st x).bind λp=>(vars[(kj1 tab n.text.toList).num]?).bind λv=>(atO vars tab l ms st v i).bind λq=>
  if p.1<0||p.1 >= (v.texts.length:Int) then some (st,true) else if p.1 > 255||q.1<0||q.1 >= (st.length:Int) then none else some (st.set q.1.toNat p.1,p.2||q.2)
end Go.Proofs.YtpmcnonmkghokaaGreatDoor

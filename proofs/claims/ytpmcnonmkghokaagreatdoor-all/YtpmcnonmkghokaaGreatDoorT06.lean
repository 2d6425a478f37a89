import Derived.Test.YtpmcnonmkghokaaGreatDoorT05
import Derived.Test.YtpmcnonmkghokaaGreatDoorT01
import Derived.Test.YtpmcnonmkghokaaGreatDoorT04
import Derived.Test.YtpmcnonmkghokaaGreatDoorT03
import Derived.Test.YtpmcnonmkghokaaGreatDoorT02
set_option maxRecDepth 100000
set_option maxHeartbeats 8000000
set_option linter.unusedVariables false
set_option linter.unusedSimpArgs false
namespace Go.Proofs.YtpmcnonmkghokaaGreatDoor
open Go.Proofs.Tryz Go.RowKit
attribute [local go_sem ↓] Go.wp_at_zero Go.wp_at_succ
attribute [local simp] kzy zjw kjs
variable {c:Bool}{a9 b8:ByteArray}{z z0:Int}{α:Type}{g:Int->α->Int}{br en wr:List ByteArray}{bad:List Nat}{l:List PP}{L g9:List Tok}{lit s:List UInt8}{cs xs:List Value}{items:List α}{m:MdL}{B V b cap e f i j k lo n size tag xc xn:Nat}{b9 d6 xa:Option Addr}{i9:PKind}{t:PTree}{v:PVar}{x:PX}{st:RS}{one:RS->α×RS}{i7 tab:Tab}{y:Tok}{a8:TypeId}{a bv ev ps wv x0 x1 x2 x3 x4:Value}{W u w w' w4:World}{nm:α->List Tok}{P:α->Prop}
theorem jwf(d:a8∈bad):∀(ys:List Value)(k:Nat){w:World}{cs:Array Value},w.heap[b]?=some (.cells cs a8 (0,0))->Tk none bad w (puts b ys k w)
 |[],_,_,_,_=>Tk.refl _ _ _
 |y::ys,k,_,_,h=>(qqa h d k y).trans<|jwf d ys (k+1) (jD b k _ _ _ h)
theorem pq5(h:Rw w b #[x0,x1,x2,x3,x4] a8)(d:a8∈bad)(y0 y1 y2 y3 y4:Value):Tk none bad w (((((w.setCell (Ad b 0) y0).setCell (Ad b 1) y1).setCell (Ad b 2) y2).setCell (Ad b 3) y3).setCell (Ad b 4) y4):=jwf d [y0,y1,y2,y3,y4] 0 h
def Apart(a b:Value):Prop:=∀k,a.ownBlock=some k->b.ownBlock≠some k
theorem kzm(h:Apart a ev):Apart ev a:=λk d e=>h k e d
theorem qqs(h:Apart a ev):ev.ownBlock=none\/ev.ownBlock≠a.ownBlock:=by
 cases hb:ev.ownBlock with
 |none=>simp
 |some k=>exact .inr λe=>h k e.symm hb
theorem kwp(h:Apart a ev)(j:wv.ownBlock=a.ownBlock\/wv.ownBlock=some (w.heap.size+1))(l:w.ownsRow B e size ev n xs):Apart wv ev:=λk i d=>by
 rcases j with h1|h1
 ·exact h k (by simp_all) d
 ·rw[h1]at i;injection i with i;rcases l.2 with⟨f,_⟩|⟨g,cap,cur,f,_,e3,_⟩
  ·rw[f]at d;cases d
  ·rw[f]at d;injection d with d;grind
structure Vw3 (B:Nat)(w:World)(en wr br:List ByteArray)(x y z:Value):Prop where
 a:w.ownsRow B 9 1 x en.length (en.map Value.string)
 b:w.ownsRow B 9 1 y wr.length (wr.map Value.string)
 c:w.ownsRow B 9 1 z br.length (br.map Value.string)
 xy:Apart x y
 xz:Apart x z
 yz:Apart y z
theorem Vw3.tk(h:Vw3 B w en wr br ev wv bv)(k:Tk none bad w w')(d:V<=B)(e:9∉bad:=by decide):Vw3 V w' en wr br ev wv bv:=
 have f:=pz.none w
 ⟨qo d<|jq h.a k f e,qo d<|jq h.b k f e,qo d<|jq h.c k f e,h.xy,h.xz,h.yz⟩
theorem Vw3.no:Vw3 B w [] [] [] nS nS nS:=
 have n:Apart nS nS:=λk d=>qY
 ⟨oN,oN,oN,n,n,n⟩
def xx5(B:Nat)(w:World)(V:Nat)(t:ByteArray)(en wr br:List ByteArray)(ev wv bv:Value):Prop:=
 w.heap[V]?=some (.cells #[.string t,ev,wv,bv,.bool false] 24 (0,0))/\Vw3 B w en wr br ev wv bv
theorem xx5.below(h:xx5 B w V a9 en wr br ev wv bv)(hb:oq w w'):xx5 B w' V a9 en wr br ev wv bv:=
 ⟨(hb.block V<|wQ h.1).trans h.1,h.2.tk (yt hb none [])<|jV⟩
def lkO(vars:List MVar)(tab:kq3)(st:List Int):List MStep->List ByteArray->List ByteArray->Option (List ByteArray×List ByteArray)
 |[],en,wr=>some (en,wr)
 |s::l,en,wr=>(kwi vars tab s.u s.xy st s.guard s.block).bind λr=>if r.2==1 then lkO vars tab st l (en++[s.x]) wr else if r.2==2 then lkO vars tab st l en (wr++[s.x]) else lkO vars tab st l en wr
def lbO(vars:List MVar)(tab:kq3)(st:List Int):List MNever->List ByteArray->Option (List ByteArray)
 |[],br=>some br
 |s::l,br=>(zwo vars tab s.u s.xy st s.xp).bind λc=>if c then lbO vars tab st l (br++[s.x]) else lbO vars tab st l br
theorem jjg(vars:List MVar)(tab:kq3)(st:List Int):∀(l:List MStep)(en wr:List ByteArray)(r:List ByteArray×List ByteArray),lkO vars tab st l en wr=some r->en.length<=r.1.length/\wr.length<=r.2.length/\r.1.length+r.2.length<=en.length+wr.length+l.length
 |[],en,wr,r,h=>by grind [lkO]
 |s::l,en,wr,r,h=>by
  rw[lkO]at h;have⟨q,_,h⟩:=wu.1 h;split at h
  ·have:=jjg vars tab st l _ _ r h;grind
  ·split at h
   ·have:=jjg vars tab st l _ _ r h;grind
   ·have:=jjg vars tab st l _ _ r h;grind
theorem jyk(vars:List MVar)(tab:kq3)(st:List Int):∀(l:List MNever)(br r:List ByteArray),lbO vars tab st l br=some r->br.length<=r.length/\r.length<=br.length+l.length
 |[],br,r,h=>by grind [lbO]
 |s::l,br,r,h=>by
  rw[lbO]at h;have⟨q,_,h⟩:=wu.1 h;split at h
  ·have:=jyk vars tab st l _ r h;grind
  ·have:=jyk vars tab st l _ r h;grind
structure MView where
 x:ByteArray
 xn:List ByteArray
 xz:List ByteArray
 xs:List ByteArray
def lookO(a:Mach)(st:List Int):Option MView:=(zqh a.z st).bind λt=>(lkO a.z a.C st a.X [] []).bind λp=>(lbO a.z a.C st a.q []).map λb=>⟨⟨t.toArray⟩,p.1,p.2,b⟩
def kx2(v:MView):Bool:=(v.xn.length==0)&&(v.xz.length==0)
def qw7:List Nat:=[24,9,188,149]
structure Vc (w:World)(V:Nat)(t:ByteArray)(en wr br:List ByteArray)(ev wv bv:Value)(u:World):Prop where
 vw:xx5 w.heap.size u V t en wr br ev wv bv
 be:oq w u
 rr:u.heap[w.heap.size]?=some (.cells #[e_,nS,nS,nS,.bool false] 24 (0,0))
 gt:w.heap.size<V
theorem Vc.new(d:Rw u V #[.string a9,nS,nS,nS,.bool false] 24)(be:oq w u)(rr:Rw u w.heap.size #[e_,nS,nS,nS,.bool false] 24)(gt:w.heap.size<V):Vc w V a9 [] [] [] nS nS nS u:=
 ⟨⟨d,Vw3.no⟩,be,rr,gt⟩
theorem Vc.below(h:Vc w V a9 en wr br ev wv bv u)(hb:oq u w4):Vc w V a9 en wr br ev wv bv w4:=
 ⟨h.vw.below hb,h.be.trans<|hb.mono h.be.size,(hb.block _<|wQ h.rr).trans h.rr,h.gt⟩
theorem Vc.app(h:Vc w V a9 en wr br ev wv bv u)(f:u.ownsRow w.heap.size 9 1 ps n xs)(e:(u.alloc (.cells #[.string b8] 9)).grownBy w4 ps.ownBlock)(i:Nat)(y:Value):Rw w4 V #[.string a9,ev,wv,bv,.bool false] 24/\oq w (w4.setCell (Ad V i) y)/\Rw (w4.setCell (Ad V i) y) w.heap.size #[e_,nS,nS,nS,.bool false] 24/\Tk none qw7 u (w4.setCell (Ad V i) y)/\Tk none [24] w4 (w4.setCell (Ad V i) y):=by
 have k4:∀{bad},9∈bad->Tk none bad u w4:=λh=>(yt (jZ u) none _).trans<|kz4 (f.alloc _) e h
 have k:=k4<|Qq.2 rfl;have d:=k.e h.vw.1 ay ak;have g:=h.be.size;have j:=h.gt;exact⟨d,((h.be.alloc g _).grown e ah<|jo f).setCell ah y,(hsC ah).trans<|k.e h.rr ay ak,(k4 ak).trans<|qqa d ak i y,qqa d ak i y⟩
theorem Vc.app1(h:Vc w V a9 en wr br ev wv bv u)(g:(u.alloc (.cells #[.string b8] 9)).grownBy w4 ev.ownBlock)(m:w4.ownsRow w.heap.size 9 1 (.slice xa xn xc) (en.length+1) (en.map Value.string++[.string b8]))(d:(Value.slice xa xn xc).ownBlock=ev.ownBlock\/(Value.slice xa xn xc).ownBlock=some (u.heap.size+1)):Rw w4 V #[.string a9,ev,wv,bv,.bool false] 24/\Vc w V a9 (en++[b8]) wr br (.slice xa xn xc) wv bv (w4.setCell (Ad V 1)<|.slice xa xn xc)/\Tk none qw7 u (w4.setCell (Ad V 1)<|.slice xa xn xc):=by have⟨t,h1,i,j,e,f,k⟩:=h.vw;have⟨l,p,q,s,k5⟩:=h.app h1 g 1<|.slice xa xn xc;exact⟨l,⟨⟨jD V 1 _ _ _ l,by grind [jq,pz.none],jq ((i.alloc _).kept g<|qqs e) k5 (pz.none _) ak,jq ((j.alloc _).kept g<|qqs f) k5 (pz.none _) ak,kwp e d i,kwp f d j,k⟩,p,q,h.gt⟩,s⟩
theorem Vc.xy0(h:Vc w V a9 en wr br ev wv bv u)(g:(u.alloc (.cells #[.string b8] 9)).grownBy w4 wv.ownBlock)(m:w4.ownsRow w.heap.size 9 1 (.slice xa xn xc) (wr.length+1) (wr.map Value.string++[.string b8]))(d:(Value.slice xa xn xc).ownBlock=wv.ownBlock\/(Value.slice xa xn xc).ownBlock=some (u.heap.size+1)):Rw w4 V #[.string a9,ev,wv,bv,.bool false] 24/\Vc w V a9 en (wr++[b8]) br ev (.slice xa xn xc) bv (w4.setCell (Ad V 2)<|.slice xa xn xc)/\Tk none qw7 u (w4.setCell (Ad V 2)<|.slice xa xn xc):=by have⟨t,h1,l,i,e,j,f⟩:=h.vw;have⟨k,p,q,s,k5⟩:=h.app l g 2<|.slice xa xn xc;exact⟨k,⟨⟨jD V 2 _ _ _ k,jq ((h1.alloc _).kept g<|qqs (kzm e)) k5 (pz.none _) ak,by grind [jq,pz.none],jq ((i.alloc _).kept g<|qqs f) k5 (pz.none _) ak,kzm<|kwp (kzm e) d h1,j,kwp f d i⟩,p,q,h.gt⟩,s⟩
theorem Vc.xwi(h:Vc w V a9 en wr br ev wv bv u)(g:(u.alloc (.cells #[.string b8] 9)).grownBy w4 bv.ownBlock)(m:w4.ownsRow w.heap.size 9 1 (.slice xa xn xc) (br.length+1) (br.map Value.string++[.string b8]))(d:(Value.slice xa xn xc).ownBlock=bv.ownBlock\/(Value.slice xa xn xc).ownBlock=some (u.heap.size+1)):Rw w4 V #[.string a9,ev,wv,bv,.bool false] 24/\Vc w V a9 en wr (br++[b8]) ev wv (.slice xa xn xc) (w4.setCell (Ad V 3)<|.slice xa xn xc)/\Tk none qw7 u (w4.setCell (Ad V 3)<|.slice xa xn xc):=by have⟨t,h1,i,l,j,e,f⟩:=h.vw;have⟨k,p,q,s,k5⟩:=h.app l g 3<|.slice xa xn xc;exact⟨k,⟨⟨jD V 3 _ _ _ k,jq ((h1.alloc _).kept g<|qqs (kzm e)) k5 (pz.none _) ak,jq ((i.alloc _).kept g<|qqs (kzm f)) k5 (pz.none _) ak,by grind [jq,pz.none],j,kzm<|kwp (kzm e) d h1,kzm<|kwp (kzm f) d i⟩,p,q,h.gt⟩,s⟩
def xqs(B:Nat)(w:World)(v:MView)(x:Value)(w':World):Prop:=
 ∃ea en ec wa wn wc ba bn bc,x=.agg #[.string v.x,.slice ea en ec,.slice wa wn wc,.slice ba bn bc,.bool (kx2 v)]/\Vw3 B w' v.xn v.xz v.xs (.slice ea en ec) (.slice wa wn wc) (.slice ba bn bc)
def jzs(w:World)(v:MView)(e:Ending)(w':World):Prop:=∃x,e=.returned x/\xqs w.heap.size w v x w'/\oq w w'
theorem Vc.fin(h:Vc w V a9 en wr br (.slice b9 B i) (.slice d6 lo e) (.slice xa xn xc) u)(d:Bool)(j:kx2 ⟨a9,en,wr,br⟩=d):Rw (puts w.heap.size [.string a9,.slice b9 B i,.slice d6 lo e,.slice xa xn xc,.bool d] 0<|u.setCell (Ad V 4) (.bool d)) w.heap.size #[.string a9,.slice b9 B i,.slice d6 lo e,.slice xa xn xc,.bool d] 24 /\
  jzs w ⟨a9,en,wr,br⟩ (.returned<|.agg #[.string a9,.slice b9 B i,.slice d6 lo e,.slice xa xn xc,.bool d]) (puts w.heap.size [.string a9,.slice b9 B i,.slice d6 lo e,.slice xa xn xc,.bool d] 0<|u.setCell (Ad V 4) (.bool d)):=by have ⟨g,h1⟩:=h.vw;have l:=h.gt;have f:=(hsC (w:=u) (a:=⟨V,4,none⟩) (v:=.bool d) (k:=w.heap.size) ah).trans h.rr;have K:=(qqa g (x:=none) (bad:=[24]) ak 4<|.bool d).trans<|jwf ak [.string a9,.slice b9 B i,.slice d6 lo e,.slice xa xn xc,.bool d] 0 f;exact⟨zju (k:=0) f,_,rfl,⟨b9,B,i,d6,lo,e,xa,xn,xc,by rw[j],h1.tk K<|jV⟩,qzp jV _ 0<|h.be.setCell ah _⟩
def pjh(s:MNever):Prop:=s.u.length<=1000/\∀y∈bf s.xp,y.x.size<=1000
theorem xzt(h:(cs.drop (k*5)).take 5=[a,ev,wv,bv,ps]):cs[k*5]?=some a/\cs[k*5+1]?=some ev/\cs[k*5+2]?=some wv/\cs[k*5+3]?=some bv/\cs[k*5+4]?=some ps:=by
 have g:∀j,j<5->cs[k*5+j]?=([a,ev,wv,bv,ps]:List Value)[j]?:=λj d=>by grind
 exact⟨g 0 aj,g 1 aj,g 2 aj,g 3 aj,g 4 aj⟩
theorem py6{d7:Mach}{d8:List Int}{d9:Option Addr}{e6 e7 e8:Nat}(h:Mc lo w xn f d7.z d7.C)(hS:w.ownsRow lo 5 1 (.slice b9 tag e6) d8.length (d8.map (Value.int .u8)))(b6:Ce w xn 0 (.slice d6 d7.X.length e7))(hT:w.ownsRow lo 178 6 (.slice d6 d7.X.length e7) d7.X.length cs)(hI:qqx lo B w xn d7.X cs)(aU:∀s∈d7.X,jye s)(b7:Ce w xn 1 (.slice d9 d7.q.length e8))(hN:w.ownsRow lo 208 5 (.slice d9 d7.q.length e8) d7.q.length xs)(aP:qxn lo B w xn d7.q xs)(aS:∀s∈d7.q,pjh s)(hv:d7.z.length<=1000)(aV:d8.length<=1000000)(bS:d7.X.length<=1000000)(bT:d7.q.length<=1000000)(bH:lo<=w.heap.size){e9:MView}(F:lookO d7 d8=some e9):Calls prog 56 #[pT xn,.slice b9 tag e6] w λe w'=>jzs w e9 e w':=by
 unfold lookO at F;have⟨tx,aW,F⟩:=wu.1 F;have⟨⟨EN,WR⟩,aB,F⟩:=wu.1 F;obtain⟨BR,aA,rfl⟩:=wX.1 F;have aY:=jjg _ _ _ _ _ _ _ aB;have aD:=jyk _ _ _ _ _ _ aA;simp only[Zw]at aY aD;have⟨xa,cap,J,HW⟩:=qp hT;injection J with J _ e3;subst J;subst e3;have⟨xa,cap,J,R⟩:=qp hN;injection J with J _ e3;subst J;subst e3;have aO:xn<w.heap.size:=by have⟨⟨_,_,_,_,_,_,_,hb,_⟩,_⟩:=h;grind
 obtain⟨W,hW⟩:∃W,W=w.alloc (.cells #[e_,nS,nS,nS,.bool false] 24):=⟨_,rfl⟩;have Y:oq w W:=jM;have bL:w.heap.size<W.heap.size:=by simp_all
 have hR:Rw W w.heap.size #[e_,nS,nS,nS,.bool false] 24:=kK;have aM:=oz<|pzo (h.below Y) (qj hS Y) hv aV aW;have aG:=oz (λ(wx:World) (hb:oq w wx) (s:MStep) (P:jye s) pa pn pc ma mn mc p ba bn bc bs no (h1:w.ownsRow lo 352 4 (.slice pa pn pc) s.u.length (uq s.u)) (I:w.ownsRow lo 3 1 (.slice ma mn mc) s.xy.length (s.xy.map<|Value.int .i64)) (K:XIs B w s.guard (.pointer p)) (h4:w.ownsRow B 334 9 (.slice ba bn bc) (kqq s.block) bs) (h5:BIs B no w s.block bs) (e9:List Int×Int) (F:kwi d7.z d7.C s.u s.xy d8 s.guard s.block=some e9)=>
  jks no s.x ba bn bc bs (h.below hb) (qj h1 hb) (qj I hb) (qj hS hb) hv P.1 aV (K.below hb) P.2.1 ⟨qj h4 hb,h5.stay (λk _ hk=>hb.block k hk),P.2.2.1,P.2.2.2.1,P.2.2.2.2⟩ (rP bH hb.size) F)
 have aF:=oz (λ(wx:World) (hb:oq w wx) (s:MNever) (P:pjh s) pa pn pc ma mn mc p (h1:w.ownsRow lo 352 4 (.slice pa pn pc) s.u.length (uq s.u)) (I:w.ownsRow lo 3 1 (.slice ma mn mc) s.xy.length (s.xy.map<|Value.int .i64)) (K:XIs B w s.xp (.pointer p)) (e9:Bool) (F:zwo d7.z d7.C s.u s.xy d8 s.xp=some e9)=>
  vzv s.x (h.below hb) (qj h1 hb) (qj I hb) (qj hS hb) hv P.1 (K.below hb) P.2 F)
 have⟨aN,HI,aJ,aL,aK,aI,aH,HR⟩:=jx R hI aP aU aS aB aA hR;have⟨a0,b4⟩:=jS Y hW.symm;clear F R hT hN hI aP aU aS h hS aB aA aW hR Y hW;generalize (⟨tx.toArray⟩:ByteArray)=tt at *;go_enter func56,ntmps56
 go_wp21;rw[b4];refine zM aM λw1 N=>?_;have bU:=N.size;obtain⟨w2,S⟩:∃w2,w2=w1.alloc (.cells #[.string tt,nS,nS,nS,.bool false] 24):=⟨_,rfl⟩;obtain⟨V,hV⟩:∃V,V=w1.heap.size:=⟨_,rfl⟩;have aR:w2.heap[V]?=some (.cells #[.string tt,nS,nS,nS,.bool false] 24 (0,0)):=by rw[S,hV];exact qy
 have aE:oq w w2:=by rw[S];exact(a0.trans<|N.mono aj).alloc aj _
 have aQ:w2.heap[w.heap.size]?=some (.cells #[e_,nS,nS,nS,.bool false] 24 (0,0)):=by rw[S];exact zy<|(N.block w.heap.size bL).trans HR
 have bA:w.heap.size<V:=aj;have HC:=Vc.new aR aE aQ bA;have m0:=((a0.trans<|N.mono aj).cell (p:=⟨xn,0,none⟩) aO).trans b6;have bO:xn<w1.heap.size:=aj;have⟨aX,b3⟩:=jS S.symm hV;clear N aQ aR S aM HR hV;go_wp21;rw[aX,<-b3];go_loopw [7,8,9,21] (λ_ _ _ i wr=>∃(k:Nat)(en v:List ByteArray)(ea:Option Addr)(el ec:Nat)(wa:Option Addr)(wl wc:Nat),k<=d7.X.length/\i=i_ k/\lkO d7.z d7.C d8 (d7.X.drop k) en v=some (EN,WR)/\Vc w V tt en v [] (.slice ea el ec) (.slice wa wl wc) nS wr) (λ_ _ _ i _=>d7.X.length-(intOf i).toNat);exact⟨0,[],[],none,0,0,none,0,0,jG,rfl,aI,HC⟩;obtain⟨k,en,v,ea,el,ec,wa,wl,wc,hk,rfl,d,U⟩:=hrel;have hb:=U.be;have aC:=hb.size;have b8:=wQ U.vw.1;have bG:=jjg _ _ _ _ _ _ _ d;by_cases E:k<d7.X.length
 ·obtain⟨g,rfl,bC,a9,hc⟩:=HW k E;have⟨bB,Q⟩:=HI;have⟨pa,pn,pc,ma,mn,mc,p,ba,bn,bc,bs,no,e,h1,I,K,h4,h5⟩:=Q k E;have⟨s0,s1,s2,s3,s4,s5⟩:=pvm e;have cc:∀j,j<d7.X.length*6->wr.cell? (Ad g j)=cs[j]?:=λj hj=>(hb.cell (p:=⟨g,j,none⟩) a9).trans (hc j hj)
  have e0:=(cc (k*6) aj).trans s0;have J:=(cc (k*6+1) aj).trans s1;have e2:=(cc (k*6+2) aj).trans s2;have e3:=(cc (k*6+3) aj).trans s3;have e4:=(cc (k*6+4) aj).trans s4;have e5:=(cc (k*6+5) aj).trans s5;rw[rU E,lkO]at d;have⟨q,hq,d⟩:=wu.1 d;have G:=aL d7.X[k] (wZ _);obtain⟨wb,C⟩:∃wb,wb=wr.alloc (.cells #[.string d7.X[k].x,pT xn,.slice pa pn pc,.slice ma mn mc,.pointer p,.slice ba bn bc] 178):=⟨_,rfl⟩;have A:oq wr wb:=by rw[C];exact jZ _
  have T:wb.heap[wr.heap.size]?=some (.cells #[.string d7.X[k].x,pT xn,.slice pa pn pc,.slice ma mn mc,.pointer p,.slice ba bn bc] 178 (0,0)):=by rw[C];exact qy
  have O:=hb.trans<|A.mono aC;have⟨HF,a1,M,Z⟩:=jE (aG wb O d7.X[k] G pa pn pc ma mn mc p ba bn bc bs no h1 I K h4 h5 q hq) C.symm T A;have bM:=A.size;generalize d7.X[k]=s at *;clear cc hc Q e h1 I K h4 h5 s0 s1 s2 s3 s4 s5 G hb hq C T A O;go_wp21
  rw[a1];refine HF.mono ?_;rintro e w5 ⟨v5,rfl,aT,z⟩;have bK:=z.size;obtain⟨a5,l5,c5,rfl⟩:=qh aT;have H:=(z.block wr.heap.size<|wQ M).trans M;have⟨x0,x1,x2,x3,x4,x5,_⟩:=kzh H;have bN:=wQ H;have t:=(U.below Z).below z;have v0:=jl t.vw.1;have b2:=t.vw.2.a;have b5:=t.vw.2.b;clear aT z H HF;cases h1:(q.2==1)
  ·cases I:(q.2==2)
   ·have y:=oz (show lkO d7.z d7.C d8 (d7.X.drop<|k+1) en v=some (EN,WR) from by simp_all);go_wp2;exact rdM ⟨k+1,en,v,ea,el,ec,wa,wl,wc,aj,eu,y,t⟩
   ·have y:=oz (show lkO d7.z d7.C d8 (d7.X.drop<|k+1) en (v++[s.x])=some (EN,WR) from by simp_all);go_wp2_with (at_builtin;refine apO (b5.alloc _) ?_)
    intro v6 w6 l m _ u;obtain⟨a6,l6,c6,rfl⟩:=qh l;have⟨D,L,_⟩:=t.xy0 m l u;have u0:=jl D;clear l m u D;go_wp2;exact rdM ⟨k+1,en,v++[s.x],ea,el,ec,a6,l6,c6,aj,eu,y,L⟩
  ·have y:=oz (show lkO d7.z d7.C d8 (d7.X.drop<|k+1) (en++[s.x]) v=some (EN,WR) from by simp_all);go_wp2_with (at_builtin;refine apO (b2.alloc _) ?_)
   intro v6 w6 l m _ u;obtain⟨a6,l6,c6,rfl⟩:=qh l;have⟨D,L,_⟩:=t.app1 m l u;have u0:=jl D;clear l m u D;go_wp2;exact rdM ⟨k+1,en++[s.x],v,a6,l6,c6,wa,wl,wc,aj,eu,y,L⟩
 ·have:k=d7.X.length:=by omega
  subst this;rw[sK,lkO]at d;injection d with d;injection d with bI bJ;subst bI;subst bJ;have m1:=(hb.cell (p:=⟨xn,1,none⟩) aO).trans b7;clear hb m0;go_wp21
  go_loopw [11,58] (λ_ i wr=>∃(k:Nat)(bn:List ByteArray)(xa:Option Addr)(xl xc:Nat),k<=d7.q.length/\i=i_ k/\lbO d7.z d7.C d8 (d7.q.drop k) bn=some BR/\Vc w V tt en v bn (.slice ea el ec) (.slice wa wl wc) (.slice xa xl xc) wr) (λ_ i _=>d7.q.length-(intOf i).toNat);exact⟨0,[],none,0,0,jG,rfl,aH,U⟩;obtain⟨k,bl,xa,xl,xc,hk,rfl,d,x⟩:=hrel;have hb:=x.be;have aC:=hb.size;have b8:=wQ x.vw.1;have bG:=jyk _ _ _ _ _ _ d;by_cases E:k<d7.q.length
  ·obtain⟨g,rfl,bC,a9,hc⟩:=aN k E;have⟨bB,Q⟩:=aJ;have⟨pa,pn,pc,ma,mn,mc,p,e,h1,I,K⟩:=Q k E;have⟨s0,s1,s2,s3,s4⟩:=xzt e;have cc:∀j,j<d7.q.length*5->wr.cell? (Ad g j)=xs[j]?:=λj hj=>(hb.cell (p:=⟨g,j,none⟩) a9).trans (hc j hj)
   have e0:=(cc (k*5) aj).trans s0;have J:=(cc (k*5+1) aj).trans s1;have e2:=(cc (k*5+2) aj).trans s2;have e3:=(cc (k*5+3) aj).trans s3;have e4:=(cc (k*5+4) aj).trans s4;rw[rU E,lbO]at d;have⟨q,hq,d⟩:=wu.1 d;have G:=aK d7.q[k] (wZ _);obtain⟨wb,C⟩:∃wb,wb=wr.alloc (.cells #[.string d7.q[k].x,pT xn,.slice pa pn pc,.slice ma mn mc,.pointer p] 208):=⟨_,rfl⟩;have A:oq wr wb:=by rw[C];exact jZ _
   have T:wb.heap[wr.heap.size]?=some (.cells #[.string d7.q[k].x,pT xn,.slice pa pn pc,.slice ma mn mc,.pointer p] 208 (0,0)):=by rw[C];exact qy
   have O:=hb.trans<|A.mono aC;have⟨HF,a1,M,Z⟩:=jE (aF wb O d7.q[k] G pa pn pc ma mn mc p h1 I K q hq) C.symm T A;have bM:=A.size;generalize d7.q[k]=s at *;clear cc hc Q e h1 I K s0 s1 s2 s3 s4 G hb hq C T A O;go_wp21
   rw[a1];refine zM HF λw5 z=>?_;have bK:=z.size;have H:=(z.block wr.heap.size<|wQ M).trans M;have⟨x0,x1,x2,x3,x4,_⟩:=jl H;have bN:=wQ H;have t:=(x.below Z).below z;have v0:=jl t.vw.1;have aZ:=t.vw.2.c;clear z H HF;cases q
   ·have y:=oz (show lbO d7.z d7.C d8 (d7.q.drop<|k+1) bl=some BR from by simp_all);go_wp2;exact rdM ⟨k+1,bl,xa,xl,xc,aj,eu,y,t⟩
   ·have y:=oz (show lbO d7.z d7.C d8 (d7.q.drop<|k+1) (bl++[s.x])=some BR from by simp_all);go_wp2_with (at_builtin;refine apO (aZ.alloc _) ?_)
    intro v6 w6 l m _ u;obtain⟨a6,l6,c6,rfl⟩:=qh l;have⟨D,L,_⟩:=t.xwi m l u;have u0:=jl D;clear l m u D;go_wp2;exact rdM ⟨k+1,bl++[s.x],a6,l6,c6,aj,eu,y,L⟩
  ·have:k=d7.q.length:=by omega
   subst this;rw[sK,lbO]at d;injection d with d;subst d;have⟨za,zc,ez,_⟩:=qp x.vw.2.a;injection ez with a2 a3 a4;subst a2;subst a3;subst a4;have⟨za,zc,ez,_⟩:=qp x.vw.2.b;injection ez with a2 a3 a4;subst a2;subst a3;subst a4;have v0:=jl x.vw.1;have⟨HE,X⟩:=jS (x.fin _ rfl) (show kx2 ⟨tt,en,v,bl⟩=((en.length==0)&&(v.length==0)) from rfl);have r0:=jl x.rr;have bQ:V≠w.heap.size:=aj;have bP:=wQ x.rr;have bD:((en.length:Int)==0)=(en.length==0):=by grind
   have bF:((v.length:Int)==0)=(v.length==0):=by grind
   cases a7:(en.length==0);all_goals cases a8:(v.length==0)
   all_goals
    rw[a7]at bD;rw[a8]at bF;rw[ku X,a7,a8]at HE;clear X aI aH aG aF HW aN HI aJ aL aK aE a0 a7 a8;go_wp2;exact kx0 results56 underlying24 HE.1 HE.2
theorem pzd(h:w.ownsRow lo e size (.slice xa n cap) n xs)(hi:i<=n):w.ownsRow lo e size (.slice xa i cap) i (xs.take (i*size)):=by
 have u:i*size<=n*size:=Z7 _ hi;refine⟨by rw[Ze,h.1];omega,?_⟩;obtain⟨h1,q⟩|⟨g,d,cur,h1,l,m,s,j,k,t⟩:=h.2
 ·simp_all
 ·injection h1 with f p e3;subst f e3;refine .inr ⟨g,cap,cur,rfl,l,m,aj,j,k,?_⟩;grind
theorem pwp(h:w.ownsRow lo e size (.slice xa n cap) n xs):n<=cap:=by
 obtain⟨h1,f⟩|⟨g,d,cur,h1,m,p,i,j,k,l⟩:=h.2
 ·omega
 simp_all
theorem vjs:∀(l:List PP)(i:Nat),uq (l.take i)=(uq l).take (i*4)
 |[],i=>by simp[uq]
 |p::l,0=>by simp[uq]
 |p::l,i+1=>by have:=vjs l i;grind [uq,kzn]
def pxr(tab:Tab)(l:List PP)(i:Nat)(p:PP):Bool:=fpB (l.take i) p.y.x.toList||!((zl tab p.y.x.toList).V==0)
def vxh(tab:Tab)(l:List PP)(a:Int)(i:Nat)(p:PP):Int:=kjo (zzd tab p.Q) (kjo (pxr tab l i p) a p.y) p.Q
theorem Nm.xw5(h:Nm w B b tab ps z)(u:Value):Nm (w.setCell (Ad B 1) u) B b tab u z:=
 ⟨jD B 1 _ _ _ h.nm,h.C.other (by simpa using h.ne) _,h.ne⟩
def xk7(W:World)(B b:Nat)(tab:Tab)(l:List PP)(ps:Value)(fin:Int)(i:Value)(wr:World):Prop:=
 ∃(k:Nat)(a:Int),k<=l.length/\i=i_ k/\yx (vxh tab l) (l.drop k) k a=fin/\Nm wr B b tab ps a/\Kept B W wr
theorem jvb(h:Nm w B b tab ev z)(ho:w.ownsRow lo 352 4 (.slice b9 V xc) l.length (uq l))(hl:l.length<=1000)(hs:∀p∈l,p.y.x.size<=1000/\p.Q.x.size<=1000):Calls prog 159 #[pT B,.slice b9 V xc] w λe w'=>rT e (.tuple #[])/\Nm w' B b tab (.slice b9 V xc) (yx (vxh tab l) l 0 z)/\Kept B w w':=by
 have⟨_,_,_,_,f1,_,_⟩:=h.cells;have⟨c0,c1,c2,c3,_⟩:=h.cells;have⟨xa,cap,a9,G⟩:=qp ho;injection a9 with e1 e2 e3;subst e1 e2 e3;have HW:=oz (show ∀i,i<l.length->∃g,b9=some (Ad g 0)/\g≠B/\∀j,j<l.length*4->w.cell? (Ad g j)=(uq l)[j]? from λi hi=>by obtain⟨g,rfl,_,_,C⟩:=G i hi;exact⟨g,rfl,λe=>not_row ho h.nm ak (by rw[<-e];rfl),C⟩)
 have⟨W,Q⟩:=cpy<|w.setCell (Ad B 1) (.slice b9 l.length xc);have R:Kept B w W:=by rw[Q];exact(Kept.refl _ _).kzr _ _
 have a5:Nm W B b tab (.slice b9 l.length xc) z:=by rw[Q];exact h.xw5 _
 have HR:xk7 W B b tab l (.slice b9 l.length xc) (yx (vxh tab l) l 0 z) (i_ 0) W:=⟨0,z,jG,rfl,rfl,a5,Kept.refl _ _⟩;have⟨HN,HO,HS,a4⟩:=jE h ho hs Q.symm;generalize yx (vxh tab l) l 0 z=fin at *;clear G hs Q;go_in;go_wp21;rw[ku a4];go_loopw [4,5,6,7,14] (λ_ _ _ _ i wr=>xk7 W B b tab l (.slice b9 l.length xc) fin i wr) (λ_ _ _ _ i _=>l.length-(intOf i).toNat);exact HR;obtain⟨k,a0,hk,rfl,f,L,m⟩:=hrel;have S:=R.trans m;have T:=kqt HO HN.nm ak<|R.trans m;have aB:=wQ L.nm;by_cases F:k<l.length
 ·obtain⟨g,rfl,a6,C⟩:=ku HW k F;have fl:=λj (hj:j<4)=>kqo kzn 4 (λ_=>rfl) l k j F hj
  have cc:∀j,j<4->∀u,(kzn l[k])[j]?=some u->Ce wr g (k*4+j) u:=λj hj u hu=>S.cell (a:=⟨g,k*4+j,none⟩) a6<|(C (k*4+j) aj).trans ((fl j hj).trans hu)
  have e0:=cc 0 aj _ rfl;have e1:=cc 1 aj _ rfl;have e2:=cc 2 aj _ rfl;have e3:=cc 3 aj _ rfl;simp only[Qk]at e0;have⟨X,Y⟩:=ku HS l[k] (wZ F);rw[rU F,yx]at f;have⟨H,D,d⟩:=jF f (show vxh tab l a0 k l[k]=kjo (zzd tab l[k].Q) (kjo (pxr tab l k l[k]) a0 l[k].y) l[k].Q from rfl) (show pxr tab l k l[k]=(fpB (l.take k) l[k].y.x.toList||!((zl tab l[k].y.x.toList).V==0)) from rfl);have E:=pzd (i:=k) T aj;rw[<-vjs]at E;have Z:(l.take k).length=k:=by simp_all
  generalize a7:l.take k=lt at E Z d;generalize l[k]=p at e0 e1 e2 e3 X Y H D d;clear cc fl C f a7;subst Z;have aA:lt.length<=xc:=by have:=pwp T;omega
  have N:lt.length<=1000:=aj;have a1:=kvm (w:=(wr.alloc<|.cells #[.string p.y.x,i_ p.y.v,.string p.Q.x,i_ p.Q.v] 352).drew) p.y (E.alloc _).drew N;have a2:=kvm (w:=((wr.alloc<|.cells #[.string p.y.x,i_ p.y.v,.string p.Q.x,i_ p.Q.v] 352).alloc<|.cells #[e_,i_ 0,e_,i_ 0] 352).drew) p.y ((E.alloc _).alloc _).drew N;have HZ:=oz (show(((wr.alloc<|.cells #[.string p.y.x,i_ p.y.v,.string p.Q.x,i_ p.Q.v] 352).alloc<|.cells #[e_,i_ 0,e_,i_ 0] 352).drew).heap[wr.heap.size+1]?=some (.cells #[e_,i_ 0,e_,i_ 0] 352 (0,0)) by have:=qy (w:=wr.alloc<|.cells #[.string p.y.x,i_ p.y.v,.string p.Q.x,i_ p.Q.v] 352) (o:=.cells #[e_,i_ 0,e_,i_ 0] 352);simp only[tV]at this;exact this)
  have a3:=oz<|qy (w:=wr) (o:=.cells #[.string p.y.x,i_ p.y.v,.string p.Q.x,i_ p.Q.v] 352);unfold ptV at *;go_upto_region 4 with fail
  go_cut [7] from 19 to 27 (λv wx=>v=.bool (fpB lt p.y.x.toList)/\Below (wr.heap.size+1) (wr.alloc<|.cells #[.string p.y.x,i_ p.y.v,.string p.Q.x,i_ p.Q.v] 352) wx)
  case first=>
   go_region_law ((go_simp;go_at_call 215;(first|(refine zM a1 λw2 y=>?_)|(refine zM a2 λw2 y=>?_;have z0:=kz3 ((y.block _ ay).trans HZ:w2.heap[wr.heap.size+1]?=_)));dsimp only[paV]))
   all_goals
    go_wp21;go_meet
    refine⟨rfl,?_⟩;have a8:=y.size;simp at a8;first
    |exact((bR.drew.trans<|y.mono ay).alloc aj _)
    |exact jzx (((bR.alloc ay _).drew).trans<|y.mono ay)
  case rest=>
  obtain⟨rfl,hb⟩:=hcut;have x:=(L.alloc<|.cells #[.string p.y.x,i_ p.y.v,.string p.Q.x,i_ p.Q.v] 352).below<|hb.mono ay;have s:=oz<|(hb.block wr.heap.size aj).trans a3;have d0:=kz3 s;have aC:=kvb x.drew.C X;have hf:=kw6<|zl tab p.y.x.toList;have⟨c0,c1,c2,c3,f1,f2,f3⟩:=x.cells;have J:=(Kept.kqe (P:=B) (w:=wr)<|.cells #[.string p.y.x,i_ p.y.v,.string p.Q.x,i_ p.Q.v] 352).trans<|Kept.of_below (hb.mono ay);have M:=oz (λ(W2:World) (z2:Int) (h2:Nm W2 B b tab (sL g l.length xc) z2)=>jwg p.Q h2 Y);unfold ptV at *;generalize zl tab p.y.x.toList=q at *;generalize fpB lt p.y.x.toList=r at *;cases r
  case true=>
   rw[Jg]at d;have K:=note_any (w:=wc.drew.drew) p.y.v c2 c3 f2 f3;go_wp2;go_region
   go_wp2;go_region_law ((go_simp;go_at_call 212;refine zM K λw1 hw=>?_;dsimp only))
   all_goals
    subst hw;have O:=((Kept.refl B wc).drew.drew.trans<|Kept.note B 2 wc.drew.drew a0 p.y.v).e (b:=wr.heap.size) aj s;have g2:=kz3 O;go_wp21;refine zM (M _ _<|(x.drew.drew).note aj) ?_;rintro w6 ⟨I,A⟩;have t:=((((Kept.refl B wc).drew.drew).trans<|Kept.note _ _ _ _ _)).trans A;go_wp2;exact rdM ⟨lt.length+1,_,aj,eu,H,by rw[ku D,ku d];exact I,m.trans<|J.trans t⟩
  case false=>
   rw[QX]at d;cases C:(q.V != 0)
   case true=>
    have hE:(!(q.V==0))=true:=C;rw[hE]at d;have K:=note_any (w:=wc.drew.drew) p.y.v c2 c3 f2 f3;go_wp2;go_region
    go_wp2;go_region_law ((go_simp;go_at_call 212;refine zM K λw1 hw=>?_;dsimp only))
    all_goals
     subst hw;have O:=((Kept.refl B wc).drew.drew.trans<|Kept.note B 2 wc.drew.drew a0 p.y.v).e (b:=wr.heap.size) aj s;have g2:=kz3 O;go_wp21;refine zM (M _ _<|(x.drew.drew).note aj) ?_;rintro w6 ⟨I,A⟩;have t:=((((Kept.refl B wc).drew.drew).trans<|Kept.note _ _ _ _ _)).trans A;go_wp2;exact rdM ⟨lt.length+1,_,aj,eu,H,by rw[ku D,ku d];exact I,m.trans<|J.trans t⟩
   case false=>
    have hE:(!(q.V==0))=false:=C;rw[hE]at d;go_wp2;go_region
    have g2:=kz3<|(Kept.refl B wc).drew.e (b:=wr.heap.size) aj s;go_wp21
    refine zM (M _ _<|x.drew) ?_;rintro w6 ⟨I,A⟩;have t:=(((Kept.refl B wc).drew)).trans A;go_wp2;exact rdM ⟨lt.length+1,_,aj,eu,H,by rw[ku D,ku d];exact I,m.trans<|J.trans t⟩
 ·have U:k=l.length:=by omega
  rw[U,sK]at f;have H:=oz f;clear f U;go_wp2;go_end0;exact⟨rfl,by rw[<-ku H];exact L,S⟩
def wS(tab:Tab)(z:Int)(s:PSet):Int:=kjo (kk3 tab s.y) z s.y
def wM(tab:Tab)(z:Int)(n:Tok):Int:=kjo (kk3 tab n) z n
def wK(tab:Tab)(z:Int)(k:PKind):Int:=k.i.foldl (wM tab) (kjo (kk3 tab k.y) z k.y)
def wV(tab:Tab)(z:Int)(v:VrT):Int:=xjz tab (kjo (kk3 tab v.y) z v.y) v
def wN(tab:Tab)(z:Int)(r:PRule):Int:=(bf r.guard).foldl (kyd tab r.u) (yx (vxh tab r.u) r.u 0 (kjo (kk3 tab r.y) z r.y))
def wR(tab:Tab)(z:Int)(r:PRule):Int:=(je r.S).foldl (kyd tab r.u) ((bf r.guard).foldl (kyd tab r.u) (yx (vxh tab r.u) r.u 0 (kjo (kk3 tab r.y) z r.y)))
def wt1(tab:Tab)(m:MdL):Int:=m.j.foldl (wS tab) (-1)
def wt2(tab:Tab)(m:MdL):Int:=m.p.foldl (wK tab) (wt1 tab m)
def wt3(tab:Tab)(m:MdL):Int:=m.z.foldl (wV tab) (wt2 tab m)
def wt4(tab:Tab)(m:MdL):Int:=m.l.foldl (wR tab) (wt3 tab m)
def qxk(tab:Tab)(m:MdL):Int:=m.q.foldl (wN tab) (wt4 tab m)
structure MdNm (m:MdL):Prop where
 z:∀v∈m.z,v.g.x.size<=1000/\v.si.y.x.size<=1000
 l:∀r∈m.l,r.u.length<=1000/\(∀p∈r.u,p.y.x.size<=1000/\p.Q.x.size<=1000)/\(∀y∈bf r.guard,y.x.size<=1000)/\ky6 r.S/\kqq r.S<=1000/\(∀y∈je r.S,y.x.size<=1000)
 q:∀r∈m.q,r.u.length<=1000/\(∀p∈r.u,p.y.x.size<=1000/\p.Q.x.size<=1000)/\(∀y∈bf r.guard,y.x.size<=1000)
def ky8{α:Type}(W:World)(B b:Nat)(tab:Tab)(g:Int->α->Int)(items:List α)(z0:Int)(i:Value)(wr:World):Prop:=
 ∃(k:Nat)(a:Int)(ps:Value),k<=items.length/\i=i_ k/\(items.drop k).foldl g a=items.foldl g z0/\Nm wr B b tab ps a/\Kept B W wr
theorem ky8.start{wr:World}(d:Nm wr B b tab ps z)(e:Kept B W wr):ky8 W B b tab g items z (i_ 0) wr:=
 ⟨0,z,ps,jG,rfl,rfl,d,e⟩
theorem ky8.Y{wr:World}{a:Int}(e:k<items.length)(h:(items.drop k).foldl g a=items.foldl g z0)(d:Nm wr B b tab ps (g a items[k]))(f:Kept B W wr):ky8 W B b tab g items z0 (i_<|(k:Int)+1) wr:=by refine⟨k+1,_,ps,e,eu,?_,d,f⟩;grind [List.drop_eq_getElem_cons]
theorem zk0(d:¬k<items.length)(h:(items.drop k).foldl g z=items.foldl g z0):z=items.foldl g z0:=by grind [List.drop_of_length_le]
theorem jx0(h:kwm lo w x0 x1 x2 x3 x4 m)(ht:kj5 w b tab)(aP:MdOk m)(Q:MdSz m)(a8:MdNm m):Calls prog 93 #[.agg #[x0,x1,x2,x3,x4],.map (some b)] w λe w'=>rT e (.agg #[.bool (decide (0<=qxk tab m)),i_ (fAt<|qxk tab m)])/\oq w w':=by
 have⟨h0,⟨c1,h1,bA⟩,h2,⟨c3,h3,k3⟩,⟨c4,h4,k4⟩⟩:=h;have⟨b4,b5,b6,b7,b8,aQ,aR⟩:=aP;have aP:MdOk m:=⟨b4,b5,b6,b7,b8,aQ,aR⟩;obtain⟨W,hW⟩:∃W,W=((w.alloc<|.cells #[x0,x1,x2,x3,x4] 68).alloc<|.cells #[.bool false,i_ 0] 199).alloc (.cells #[.map (some b),nS,.bool false,i_ 0] 296):=⟨_,rfl⟩;have cL:b<w.heap.size:=by have⟨⟨es,c,hb,_⟩,_⟩:=ht;grind
 have T:oq w W:=by rw[hW];exact((jZ w).trans<|(jZ _).mono ay).trans ((jZ _).mono ah)
 have cA:W.heap.size=w.heap.size+3:=by simp_all
 obtain⟨B,hB⟩:∃B,B=w.heap.size+2:=⟨_,rfl⟩;have⟨bU,X⟩:=jS hW.symm (by grind [zy,qy]:Rw W w.heap.size #[x0,x1,x2,x3,x4] 68);have bN:=oz (show W.heap[w.heap.size+1]?=some (.cells #[.bool false,i_ 0] 199 (0,0)) by grind [qy,zy])
 have M:Nm W B b tab nS (-1):=by refine⟨?_,ht.kept T,aj⟩;rw[hW,hB];have:=qy (w:=(w.alloc<|.cells #[x0,x1,x2,x3,x4] 68).alloc<|.cells #[.bool false,i_ 0] 199) (o:=.cells #[.map (some b),nS,.bool false,i_ 0] 296);simp only[tV]at this;exact this
 have vw:∀{e size:Nat}{v:Value}{n:Nat}{xs:List Value},w.ownsRow lo e size v n xs->∃a cap,v=.slice a n cap/\∀i,i<n->∃g,a=some (Ad g 0)/\lo<=g/\g<w.heap.size/\∀j,j<n*size->W.cell? (Ad g j)=xs[j]?:=by intro e size v n xs h;have⟨a,cap,S,hv⟩:=qp h;refine⟨a,cap,S,λi hi=>?_⟩;have⟨g,q1,q2,q3,q4⟩:=hv i hi;exact⟨g,q1,q2,q3,λj hj=>(T.cell (p:=⟨g,j,none⟩) q3).trans<|q4 j hj⟩
 obtain⟨a0,cE,rfl,(bO:Hid _)⟩:=vw h0;obtain⟨a1,cF,rfl,(bP:Hid _)⟩:=vw h1;obtain⟨a2,cG,rfl,(bQ:Hid _)⟩:=vw h2;obtain⟨a3,cH,rfl,(bS:Hid _)⟩:=vw h3;obtain⟨a4,cI,rfl,(bT:Hid _)⟩:=vw h4;have bB:=k3.stay (w':=W) (λk _ h=>T.block k h);have bC:=k4.stay (w':=W) (λk _ h=>T.block k h);have b9:=oz hB;have cJ:w.heap.size+1<B:=aj;have cK:B<W.heap.size:=aj;clear vw cA hB hW aQ aR;have bH:=show ky8 W B b tab (wS tab) m.j (-1) (i_ 0) W from ky8.start M<|Kept.refl _ _
 go_in;go_wp21;rw[ku bU,<-ku b9];go_loopw [7,23] (λ_ i wr=>ky8 W B b tab (wS tab) m.j (-1) i wr) (λ_ i _=>m.j.length-(intOf i).toNat);exact bH;obtain⟨k,a0,aE,hk,rfl,(y:Hid _),d,l⟩:=hrel;have aC:=l.size;by_cases f:k<m.j.length
 ·obtain⟨g,rfl,aA,aB,u⟩:=ku bO k f;have s:g≠B:=aj;have e:=jyd u (λ_=>rfl) f l s;have z:=oz (λ(w':World) (ps:Value) (N:Nm w' B b tab ps ((wS tab) a0<|m.j[k])) (R:Kept B W w')=>ky8.Y (W:=W) (wr:=w') (B:=B) (b:=b) (tab:=tab) (g:=(wS tab)) (items:=m.j) (z0:=(-1)) (a:=a0) f y N R);have x:=Q.j _<|wZ f;have aD:=wQ d.nm;generalize m.j[k]=p at e z x;clear u;go_wp21
  refine zM (qjd p.y (d.alloc _) x) ?_;rintro V ⟨F,t⟩;have C:=oz<|t.e (b:=wr.heap.size) aj (qy);have D:=(Kept.kqe _).trans t;clear e;have L:=z _ _ F<|l.trans D;go_wp2
  exact rdM L
 ·have G:=zk0 f y;rw[G]at d;have A:=l.e (b:=w.heap.size) aj X;have qx:=jl A;have bI:=show ky8 W B b tab (wK tab) m.p (wt1 tab m) (i_ 0) wr from ky8.start d l
  clear G A;go_wp21;go_loopw [9,11,34] (λ_ _ i wr=>ky8 W B b tab (wK tab) m.p (wt1 tab m) i wr) (λ_ _ i _=>m.p.length-(intOf i).toNat);exact bI;obtain⟨k,a0,aE,hk,rfl,(y:Hid _),d,l⟩:=hrel;have aC:=l.size;by_cases f:k<m.p.length
  ·obtain⟨g,rfl,aA,aB,u⟩:=ku bP k f;have s:g≠B:=aj;have⟨ma,mn,mc,H,I,J,HM⟩:=jjh k f bA;have e0:=l.cell (a:=⟨g,k*3,none⟩) s<|(u (k*3) aj).trans H;have S:=l.cell (a:=⟨g,k*3+1,none⟩) s<|(u (k*3+1) aj).trans I;have e2:=l.cell (a:=⟨g,k*3+2,none⟩) s<|(u (k*3+2) aj).trans J;have z:=oz (λ(w':World) (ps:Value) (N:Nm w' B b tab ps ((wK tab) a0<|m.p[k])) (R:Kept B W w')=>ky8.Y (W:=W) (wr:=w') (B:=B) (b:=b) (tab:=tab) (g:=(wK tab)) (items:=m.p) (z0:=(wt1 tab m)) (a:=a0) f y N R);have x:=Q.p _<|wZ f;have bZ:=aP.i _<|wZ f;have aD:=wQ d.nm;generalize m.p[k]=p at e0 S e2 z x HM bZ;clear u H I J;go_wp21
   refine zM (qjd p.y (d.alloc _) x.1) ?_;rintro V ⟨F,t⟩;have C:=oz<|t.e (b:=wr.heap.size) aj (qy);have D:=(Kept.kqe _).trans t;have cN:=wQ C;have aH:=l.trans D;have g2:=row3 C;obtain⟨mb,cD,b3,(bF:Hid _)⟩:=qp HM;injection b3 with q1 q2 q3;subst q1;subst q2;subst q3;have bM:=show ky8 V B b tab (wM tab) p.i (kjo (kk3 tab p.y) a0 p.y) (i_ 0) V from ky8.start F<|Kept.refl _ _
   clear e0 S e2;go_wp21;go_loopw [11,44] (λ_ i wr=>ky8 V B b tab (wM tab) p.i (kjo (kk3 tab p.y) a0 p.y) i wr) (λ_ i _=>p.i.length-(intOf i).toNat);exact bM;obtain⟨k5,a5,cO,cM,rfl,(aG:Hid _),aJ,a9⟩:=hrel;have cC:=a9.size;by_cases P:k5<p.i.length
   ·obtain⟨g5,rfl,cB,aZ,aW⟩:=ku bF k5 P;have b2:g5≠B:=aj;have e:=jyd (λj hj=>(T.cell (p:=⟨g5,j,none⟩) aZ).trans<|aW j hj) (λ_=>rfl) P (aH.trans a9) b2;have aO:=x.2 _<|wZ P;have aK:=oz (λ(w':World) (ps:Value) (N:Nm w' B b tab ps (wM tab a5<|p.i[k5])) (R:Kept B V w')=>ky8.Y (W:=V) (wr:=w') (B:=B) (b:=b) (tab:=tab) (g:=wM tab) (items:=p.i) (z0:=kjo (kk3 tab p.y) a0 p.y) (a:=a5) P aG N R);generalize p.i[k5]=y5 at e aK aO;clear aW;go_wp21
    refine zM (qjd y5 (aJ.alloc _) aO) ?_;rintro w6 ⟨h6,bY⟩;have L:=aK _ _ h6<|(a9.alloc _).trans bY;go_wp2
    exact rdM L
   ·have aX:=zk0 P aG;rw[aX]at aJ;have L:=z _ _ aJ<|aH.trans a9;clear aX;go_wp2
    exact rdM L
  ·have G:=zk0 f y;rw[G]at d;have A:=l.e (b:=w.heap.size) aj X;have qx:=jl A;have bJ:=show ky8 W B b tab (wV tab) m.z (wt2 tab m) (i_ 0) wr from ky8.start d l
   clear G A;go_wp21;go_loopw [13,55] (λ_ i wr=>ky8 W B b tab (wV tab) m.z (wt2 tab m) i wr) (λ_ i _=>m.z.length-(intOf i).toNat);exact bJ;obtain⟨k,a0,aE,hk,rfl,(y:Hid _),d,l⟩:=hrel;have aC:=l.size;by_cases f:k<m.z.length
   ·obtain⟨g,rfl,aA,aB,u⟩:=ku bQ k f;have s:g≠B:=aj;have e:=jyd u (λ_=>rfl) f l s;have z:=oz (λ(w':World) (ps:Value) (N:Nm w' B b tab ps ((wV tab) a0<|m.z[k])) (R:Kept B W w')=>ky8.Y (W:=W) (wr:=w') (B:=B) (b:=b) (tab:=tab) (g:=(wV tab)) (items:=m.z) (z0:=(wt2 tab m)) (a:=a0) f y N R);have x:=Q.z _<|wZ f;have q:=a8.z _<|wZ f;have aD:=wQ d.nm;generalize m.z[k]=p at e z x q;clear u;go_wp21
    refine zM (qjd p.y (d.alloc _) x) ?_;rintro V ⟨F,t⟩;have C:=oz<|t.e (b:=wr.heap.size) aj (qy);have D:=(Kept.kqe _).trans t;have g0:=kju C;have aU:=vqw p F q.1 q.2;unfold vrV kjs at aU;clear e;go_wp21
    refine zM aU ?_;rintro w2 ⟨Y,O⟩;have E:=D.trans O;have L:=z _ _ Y<|l.trans E;go_wp2
    exact rdM L
   ·have G:=zk0 f y;rw[G]at d;have A:=l.e (b:=w.heap.size) aj X;have qx:=jl A;have bK:=show ky8 W B b tab (wR tab) m.l (wt3 tab m) (i_ 0) wr from ky8.start d l
    clear G A;go_wp21;go_loopw [15,68] (λ_ i wr=>ky8 W B b tab (wR tab) m.l (wt3 tab m) i wr) (λ_ i _=>m.l.length-(intOf i).toNat);exact bK;obtain⟨k,a0,aE,hk,rfl,(y:Hid _),d,l⟩:=hrel;have aC:=l.size;by_cases f:k<m.l.length
    ·obtain⟨g,rfl,aA,aB,u⟩:=ku bS k f;have s:g≠B:=aj;have⟨pa,pn,pc,gp,ba,bn,bc,aL,⟨H,I,J,a6,aV⟩,aM,aN,bV,bW⟩:=vjd k f bB;have e0:=l.cell (a:=⟨g,k*5,none⟩) s<|(u (k*5) aj).trans H;have S:=l.cell (a:=⟨g,k*5+1,none⟩) s<|(u (k*5+1) aj).trans I;have e2:=l.cell (a:=⟨g,k*5+2,none⟩) s<|(u (k*5+2) aj).trans J;have e3:=l.cell (a:=⟨g,k*5+3,none⟩) s<|(u (k*5+3) aj).trans a6;have e4:=l.cell (a:=⟨g,k*5+4,none⟩) s<|(u (k*5+4) aj).trans aV;have z:=oz (λ(w':World) (ps:Value) (N:Nm w' B b tab ps ((wR tab) a0<|m.l[k])) (R:Kept B W w')=>ky8.Y (W:=W) (wr:=w') (B:=B) (b:=b) (tab:=tab) (g:=(wR tab)) (items:=m.l) (z0:=(wt3 tab m)) (a:=a0) f y N R);have x:=Q.l _<|wZ f;have q:=a8.l _<|wZ f;have K:=oz (⟨kqt aM M.nm ak l,XIs.nm M.nm ak l aN,kqt bV M.nm ak l,BIs.nm M.nm ak ak l bW⟩:wr.ownsRow lo 352 4 (.slice pa pn pc) (m.l[k]).u.length (uq (m.l[k]).u)/\XIs lo wr (m.l[k]).guard (.pointer gp)/\wr.ownsRow lo 334 9 (.slice ba bn bc) (kqq (m.l[k]).S) aL/\BIs lo none wr (m.l[k]).S aL);have aD:=wQ d.nm;generalize m.l[k]=p at e0 S e2 e3 e4 z x q K;clear u H I J a6 aV;go_wp21
     refine zM (qjd p.y (d.alloc _) x) ?_;rintro V ⟨F,t⟩;have C:=oz<|t.e (b:=wr.heap.size) aj (qy);have D:=(Kept.kqe _).trans t;have g2:=jl C;have aF:=jvb F (kqt (K.1.alloc _) (d.alloc _).nm ak t) q.1 q.2.1;clear e0 S e2 e3 e4;go_wp21
     refine zM aF ?_;rintro w2 ⟨Y,O⟩;have Z:=oz<|O.e (b:=wr.heap.size) aj C;have g3:=jl Z;have E:=D.trans O;clear g2;go_wp21
     refine zM (qjv p.guard w2 B b lo lo tab p.u pa pn pc _ _ Y (kqt K.1 d.nm ak E) q.1 (XIs.nm d.nm ak E K.2.1) q.2.2.1) ?_;rintro w3 ⟨aI,a7⟩;have aT:=oz<|a7.e (b:=wr.heap.size) aj Z;have U:=E.trans a7;have g4:=jl aT;clear g3;go_wp21
     refine zM (vw8 p.S w3 B b lo lo none tab p.u pa pn pc _ _ aL aI (kqt K.1 d.nm ak U) q.1 (kqt K.2.2.1 d.nm ak U) (BIs.nm d.nm ak ak U K.2.2.2) q.2.2.2.1 q.2.2.2.2.1 q.2.2.2.2.2) ?_;rintro w4 ⟨bG,bX⟩;have bD:=U.trans bX;clear g4;have L:=z _ _ bG<|l.trans bD;go_wp2
     exact rdM L
    ·have G:=zk0 f y;rw[G]at d;have A:=l.e (b:=w.heap.size) aj X;have qx:=jl A;have bL:=show ky8 W B b tab (wN tab) m.q (wt4 tab m) (i_ 0) wr from ky8.start d l
     clear G A;go_wp21;go_loopw [17,88] (λ_ i wr=>ky8 W B b tab (wN tab) m.q (wt4 tab m) i wr) (λ_ i _=>m.q.length-(intOf i).toNat);exact bL;obtain⟨k,a0,aE,hk,rfl,(y:Hid _),d,l⟩:=hrel;have aC:=l.size;by_cases f:k<m.q.length
     ·obtain⟨g,rfl,aA,aB,u⟩:=ku bT k f;have s:g≠B:=aj;have⟨pa,pn,pc,gp,⟨H,I,J,a6⟩,aM,aN⟩:=vz0 k f bC;have e0:=l.cell (a:=⟨g,k*4,none⟩) s<|(u (k*4) aj).trans H;have S:=l.cell (a:=⟨g,k*4+1,none⟩) s<|(u (k*4+1) aj).trans I;have e2:=l.cell (a:=⟨g,k*4+2,none⟩) s<|(u (k*4+2) aj).trans J;have e3:=l.cell (a:=⟨g,k*4+3,none⟩) s<|(u (k*4+3) aj).trans a6;have z:=oz (λ(w':World) (ps:Value) (N:Nm w' B b tab ps ((wN tab) a0<|m.q[k])) (R:Kept B W w')=>ky8.Y (W:=W) (wr:=w') (B:=B) (b:=b) (tab:=tab) (g:=(wN tab)) (items:=m.q) (z0:=(wt4 tab m)) (a:=a0) f y N R);have x:=Q.q _<|wZ f;have q:=a8.q _<|wZ f;have K:=oz (⟨kqt aM M.nm ak l,XIs.nm M.nm ak l aN⟩:wr.ownsRow lo 352 4 (.slice pa pn pc) (m.q[k]).u.length (uq (m.q[k]).u)/\XIs lo wr (m.q[k]).guard (.pointer gp));have aD:=wQ d.nm;generalize m.q[k]=p at e0 S e2 e3 z x q K;clear u H I J a6;go_wp21
      refine zM (qjd p.y (d.alloc _) x) ?_;rintro V ⟨F,t⟩;have C:=oz<|t.e (b:=wr.heap.size) aj (qy);have D:=(Kept.kqe _).trans t;have g2:=kz3 C;have aF:=jvb F (kqt (K.1.alloc _) (d.alloc _).nm ak t) q.1 q.2.1;clear e0 S e2 e3;go_wp21
      refine zM aF ?_;rintro w2 ⟨Y,O⟩;have Z:=oz<|O.e (b:=wr.heap.size) aj C;have g3:=kz3 Z;have E:=D.trans O;clear g2;go_wp21
      refine zM (qjv p.guard w2 B b lo lo tab p.u pa pn pc _ _ Y (kqt K.1 d.nm ak E) q.1 (XIs.nm d.nm ak E K.2) q.2.2) ?_;rintro w3 ⟨aI,a7⟩;have aT:=oz<|a7.e (b:=wr.heap.size) aj Z;have U:=E.trans a7;clear g3;have L:=z _ _ aI<|l.trans U;go_wp2
      exact rdM L
     ·have G:=zk0 f y;rw[G]at d;have A:=l.e (b:=w.heap.size) aj X;have aS:=l.e (b:=w.heap.size+1) aj bN;have⟨_,_,s2,s3,_⟩:=d.cells;have t0:=kj6 aS;have aY:=oz aS;clear G A aS;go_wp2;refine kx0 results93 underlying199 (set2 aY) ?_;exact⟨rfl,((T.trans<|Kept.toBelow (B:=w.heap.size) l aj aj).setCell ay _).setCell ay _⟩
theorem kve{g6:Bool}(h:g6=true->False):g6=false:=by simp_all
theorem kzz(h:(qg L s st).s=false):st.s=false:=kve λe=>by rw[kkk e]at h;cases h
theorem qqj(h:(zq L s st).2.s=false):st.s=false:=kve λe=>by rw[qyf e]at h;cases h
theorem qjj(h:(rX f tag x L st).2.s=false):st.s=false:=kve λe=>by rw[kk2 e,e]at h;cases h
def qyq:List (List UInt8):=[[124],[38],[61,61],[33,61],[60],[43],[45]]
def py8(x:ELab):Prop:=
 (x.op.toList=nJ\/x.op.toList=nZ\/x.op.toList=mG) \/
 (x.op.toList=mW/\0<=x.n/\x.n<=9) \/
 (x.op.toList=ng/\(x.y.t.toList==mX)=true/\(x.c=zh\/(x.c.t.toList==mX)=true))
def kx9:PX->Prop
 |.nil=>False
 |.node _ _ x a c=>(py8 x/\a=.nil/\c=.nil)\/(x.op.toList=[33]/\kx9 a/\c=.nil)\/(x.op.toList∈qyq/\kx9 a/\kx9 c)
theorem kx9.some(h:kx9 x):isNil x=false:=by
 cases x with
 |nil=>exact h.elim
 |node=>rfl
theorem px7{g7:ELab}(h:py8 g7):qwe g7.op=true:=by unfold qwe;rcases h with(h|h|h)|⟨h,_⟩|⟨h,_⟩<;>rw[h]<;>rfl
theorem kx9.ok:∀{x:PX},kx9 x->XOk x
 |.nil,h=>trivial
 |.node _ _ x a c,h=>by
  rcases h with⟨h1,rfl,rfl⟩|⟨h1,d,rfl⟩|⟨h1,d,e⟩
  ·exact⟨Or.inl<|px7 h1,trivial,trivial⟩
  ·exact⟨Or.inr d.some,d.ok,trivial⟩
  ·exact⟨Or.inr d.some,d.ok,e.ok⟩
theorem xzo(h:kv6 n y=true):y.x.toList∈qyq:=by have:=zwk h;unfold kv6 at h;rw[rG,Zx]at h;have⟨⟨s,d,e⟩,_⟩:=h;rw[su]at e;rw[<-e];rcases n with _|_|_|n<;>simp only[kj4,tZ,Qu,or_false]at d<;>grind [jh,qyq]
theorem zq7(f:kq6 L)(hi:i<L.length)(h:((tk L i).t.toList==mW)=true):zz9 (tk L i):=by
 have d:=(f.ok i hi).digit;rw[h]at d;unfold kzx inB at d;by_cases e:0<(tk L i).x.size
 ·rw[dif_pos e,rG,sD,sD]at d;exact⟨e,d.1,d.2⟩
 simp_all
theorem xvu(h:zz9 y):0<=mg y.x/\mg y.x<=9:=by have⟨d,h1,e⟩:=h;unfold mg;rw[dif_pos d];omega
theorem vjl(e:zwe L)(f:st.v<L.length)(h:(kqy L st).2.s=false):st.s=false/\(kx9 (kqy L st).1/\∃x,(kqy L st).1=.node 0 0 x .nil .nil/\x.op.toList=ng)/\st.v<(kqy L st).2.v/\(kqy L st).2.v<L.length/\uh L st.v (kqy L st).2.v (yu (kqy L st).1):=by
 have d:qja.toList=ng:=jh _;have j:zh.t.toList=[]:=jh _;unfold kqy at h |-;simp only at h |-;by_cases hn:zk L [91] (zq L mX st).2=true
 ·rw[lJ hn]at h |-;simp only at h |-;have g:=kzz h;have i:=qqj g;have⟨a1,a2,a3,a4,a5⟩:=kx5 e f rfl<|kzz i;have⟨b1,b2,b3⟩:=kqz e a5 i;have⟨c1,c2,c3,c4,c5⟩:=kx5 e b3 rfl g;have⟨d1,d2,d3⟩:=kqz e c5 h;refine⟨a1,⟨Or.inl ⟨Or.inr (Or.inr ⟨d,by rw[a2];exact a3,Or.inr (by rw[c2];exact c3)⟩),rfl,rfl⟩,_,rfl,d⟩,aj,d3,?_⟩;rw[show yu (.node 0 0 {op:=qja,y:=(zq L mX st).1,c:=(zq L mX (qg L [91] (zq L mX st).2)).1,n:=0} .nil .nil)=[tk L st.v,tk L (qg L [91] (zq L mX st).2).v] by grind [yu,ownNames]]
  exact⟨st.v,jV,f,rfl,a3,_,aj,b3,rfl,c3,by show _<=_;omega⟩
 ·rw[Xy hn]at h |-;simp only at h |-;have⟨a1,a2,a3,a4,a5⟩:=kx5 e f rfl h;refine⟨a1,⟨Or.inl ⟨Or.inr (Or.inr ⟨d,by rw[a2];exact a3,Or.inl rfl⟩),rfl,rfl⟩,_,rfl,d⟩,aj,a5,?_⟩;rw[show yu (.node 0 0 {op:=qja,y:=(zq L mX st).1,c:=zh,n:=0} .nil .nil)=[tk L st.v] by grind [yu,ownNames]]
  exact⟨st.v,jV,f,rfl,a3,by show _<=_;omega⟩
def ndC(tag:Nat):Nat:=if tag<10 then 7-tag else if tag<20 then 1 else 2
def jqt(tag:Nat)(x:PX):List Tok:=if 10<=tag/\tag<20 then yu x else []
theorem zzq(o:ByteArray)(a b:PX):kk5 (opX o a b)=kk5 a+kk5 b+1:=rfl
theorem xxp(L:List Tok)(v:kq6 L):∀(f tag:Nat)(x:PX)(st:RS),(tag<=4\/(10<=tag/\tag<=13)\/(20<=tag/\tag<=32))->8*(L.length-st.v)+ndC tag<=f->st.v<L.length ->
  (10<=tag->tag<20->kx9 x)->(rX f tag x L st).2.s=false ->
  st.s=false/\kx9 (rX f tag x L st).1/\(rX f tag x L st).2.v<L.length/\kk5 (rX f tag x L st).1+st.v<=kk5 x+(rX f tag x L st).2.v/\∃l,yu (rX f tag x L st).1=jqt tag x++l/\uh L st.v (rX f tag x L st).2.v l
 |0,tag,x,st,ht,hf,hl,hx,h=>aj
 |f+1,tag,x,st,ht,hf,hl,hx,h=>by
  have e:=v.jz4;have g:=xxp L v f;have hb:=qjj h;refine⟨hb,?_⟩;have i:¬st.s=true:=by simp_all
  have z0:kk5 (.nil:PX)=0:=rfl;rw[rX]at h |-;by_cases H:tag<4
  ·rw[lJ H,Xy i]at h |-;have⟨a1,a2,a4,a7,l1,a5,a6⟩:=g (tag+1) .nil st aj (by grind [ndC]) hl aj<|qjj h;have m:=a6.le;have⟨b1,b2,b4,b7,A,b5,b6⟩:=g (10+tag) _ _ aj (by grind [ndC]) a4 (λ_ _=>a2) h;exact⟨b2,b4,aj,l1++A,by grind [jqt],b6.app a6⟩
  ·rw[Xy H]at h |-;by_cases t:tag<10
   ·rw[lJ t,Xy i]at h |-;have⟨a1,a2,a4,a7,l1,a5,a6⟩:=g 20 .nil st ay (by grind [ndC]) hl aj h;exact⟨a2,a4,aj,l1,by grind [jqt],a6⟩
   ·rw[Xy t]at h |-;by_cases k:tag<20
    ·rw[lJ k,Xy i]at h |-;have C:=hx aj k;have j:∀y,jqt tag y=yu y:=by grind [jqt]
     by_cases d:kv6 (tag-10) (tk L st.v)=true
     ·rw[lJ d]at h |-;have D:=xzo d;have F:=(zwk d).1;have E:st.v+1<L.length:=e _ hl (by grind [kv6]);have s:=g (tag-9) .nil {st with v:=st.v+1} aj (by grind [ndC]) E aj;by_cases u:tag=12
      ·rw[lJ u]at h |-;simp only at h |-;have⟨a1,a2,a4,a7,l1,a5,a6⟩:=s h;exact⟨Or.inr<|Or.inr ⟨D,C,a2⟩,a4,by rw[zzq];simp only at a7;omega,l1,by rw[qvx F];grind [jqt],a6.D ay⟩
      ·rw[Xy u]at h |-;have⟨a1,a2,a4,a7,l1,a5,a6⟩:=s<|qjj h;have m:=a6.le;simp only at m a7;have⟨b1,b2,b4,b7,A,b5,b6⟩:=g tag (opX (tk L st.v).x x _) _ aj (by grind [ndC]) a4 (λ_ _=>Or.inr<|Or.inr ⟨D,C,a2⟩) h;rw[zzq]at b7;exact⟨b2,b4,aj,l1++A,by rw[b5,j,j,qvx F];grind [jqt],b6.app<|a6.D ay⟩
     ·rw[Xy d]at h |-;exact⟨C,hl,ay,[],by simp[j],jV⟩
    ·rw[Xy k,Xy i]at h |-;have j:jqt tag x=[]:=by grind [jqt]
     rw[j];by_cases p:zk L [33] st=true
     ·rw[lJ p]at h |-;by_cases G:tag=32
      ·simp_all
      ·rw[Xy G]at h |-;simp only at h |-;have⟨J,K,B⟩:=kqz e hl<|qjj h;have⟨a1,a2,a4,a7,l1,a5,a6⟩:=g (tag+1) .nil (qg L [33] st) aj (by grind [ndC]) B aj h;exact⟨Or.inr<|Or.inl ⟨jh _,a2,rfl⟩,a4,by rw[zzq];omega,l1,by rw[qvx kD];grind [jqt,yu],a6.D aj⟩
     ·rw[Xy p]at h |-;by_cases q:zk L [40] st=true
      ·rw[lJ q]at h |-;simp only at h |-;have h1:=kzz h;have⟨J,K,B⟩:=kqz e hl<|qjj h1;have⟨a1,a2,a4,a7,l1,a5,a6⟩:=g 0 .nil (qg L [40] st) aj (by grind [ndC]) B aj h1;have⟨Q,R,e3⟩:=kqz e a4 h;exact⟨a2,e3,aj,l1,by grind [jqt],(a6.D aj).high aj⟩
      ·rw[Xy q]at h |-;by_cases w:isConst (tk L st.v)=true
       ·rw[lJ w]at h |-;exact⟨by grind [isConst,kx9,py8,opX],e _ hl (by grind [isConst]),by rw[zzq];simp only;omega,[],by rw[qvx (vy0 w).1];rfl,by show _<=_;simp⟩
       ·rw[Xy w]at h |-;by_cases z:zxk (tk L st.v)=true
        ·rw[lJ z]at h |-;have I:qj0.toList=mW:=jh _;exact⟨Or.inl ⟨Or.inr<|Or.inl ⟨I,(xvu<|zq7 v hl z)⟩,rfl,rfl⟩,e _ hl (by grind [zxk]),by show 0+0+1+_<=_+(_+1);omega,[],by grind [yu,ownNames,vwe],by show _<=_;simp⟩
        ·rw[Xy z]at h |-;have⟨S,⟨M,y,P,_⟩,T,N,O⟩:=vjl e hl h;exact⟨M,N,by rw[P];show 0+0+1+_<=_;omega,_,rfl,O⟩
theorem zq6(d:kq6 L)(e:st.v<L.length)(h:(rX (kqb L) 0 .nil L st).2.s=false):st.s=false/\kx9 (rX (kqb L) 0 .nil L st).1/\(rX (kqb L) 0 .nil L st).2.v<L.length/\uh L st.v (rX (kqb L) 0 .nil L st).2.v (yu (rX (kqb L) 0 .nil L st).1)/\kk5 (rX (kqb L) 0 .nil L st).1<=801:=by have⟨a1,a2,a4,a7,l,a5,a6⟩:=xxp L d (kqb L) 0 .nil st aj (by show _+7<=_;unfold kqb;omega) e aj h;have:=d.T;exact⟨a1,a2,a4,by rw[a5];exact a6,by simp only[kk5]at a7;omega⟩
def kkz:PB->Prop
 |.nil=>True
 |.node _ _ a .nil n=>(kx9 a.N/\∃x,a.N=.node 0 0 x .nil .nil/\x.op.toList=ng)/\kx9 a.value/\a.A=.nil/\kkz n
 |.node _ _ a (.node _ _ _ t e) n=>kx9 a.A/\a.N=.nil/\a.value=.nil/\(kkz t/\kvt t<=801)/\(kkz e/\kvt e<=801)/\kkz n
theorem kkz.app:∀{a b:PB},kkz a->kkz b->kkz (kkp a b)
 |.nil,b,_,h=>h
 |.node _ _ a .nil n,b,⟨h1,h2,h3,h4⟩,h=>⟨h1,h2,h3,h4.app h⟩
 |.node _ _ a (.node _ _ _ t e) n,b,⟨h1,h2,h3,h4,h5,h6⟩,h=>⟨h1,h2,h3,h4,h5,h6.app h⟩
def BSm:PB->Prop
 |.nil=>True
 |.node _ _ a .nil n=>kk5 a.value<=801/\BSm n
 |.node _ _ a (.node _ _ _ t e) n=>kk5 a.A<=801/\BSm t/\BSm e/\BSm n
theorem BSm.app:∀{a b:PB},BSm a->BSm b->BSm (kkp a b)
 |.nil,b,_,h=>h
 |.node _ _ a .nil n,b,⟨h1,h2⟩,h=>⟨h1,h2.app h⟩
 |.node _ _ a (.node _ _ _ t e) n,b,⟨h1,h2,h3,h4⟩,h=>⟨h1,h2,h3,h4.app h⟩
theorem vk3:∀a b:PB,kvt (kkp a b)=kvt a+kvt b
 |.nil,b=>by simp[kkp,kvt]
 |.node _ _ a s n,b=>by simp only[kkp,kvt,vk3 n b];omega
theorem zjl:∀a b:PB,uo (kkp a b)=uo a++uo b
 |.nil,b=>rfl
 |.node _ _ a .nil n,b=>by simp only[kkp,uo,zjl n b,sZ]
 |.node _ _ a (.node _ _ _ t e) n,b=>by simp only[kkp,uo,zjl n b,sZ]
structure SIn (L:List Tok)(s:RS)(r:PB×RS):Prop where
 M:s.s=false
 well:kkz r.1
 sm:BSm r.1
 lt:r.2.v<L.length
 nms:uh L s.v r.2.v (uo r.1)
 T:s.v+kvt r.1<=r.2.v
theorem xwr(i:kq6 L){g8:RS->PB×RS}(m:∀s,(g8 s).2.s=false->s.s=false)(j:∀s,s.v<L.length->(g8 s).2.s=false->SIn L s (g8 s))(x:st.v<L.length)(h:(rDo g8 L st).2.s=false):SIn L st (rDo g8 L st)/\kvt (rDo g8 L st).1=1:=by
 have f:=i.jz4;have y:=i.T;unfold rDo at h |-;by_cases hi:zk L mY st=true
 ·rw[lJ hi]at h |-;have d:(g8 (rX (kqb L) 0 .nil L<|qg L mY st).2).2.s=false->st.s=false/\(qg L mY st).v=st.v+1/\kx9 (rX (kqb L) 0 .nil L<|qg L mY st).1 /\
    uh L (qg L mY st).v (rX (kqb L) 0 .nil L<|qg L mY st).2.v (yu (rX (kqb L) 0 .nil L<|qg L mY st).1)/\SIn L (rX (kqb L) 0 .nil L<|qg L mY st).2 (g8 (rX (kqb L) 0 .nil L<|qg L mY st).2)/\kk5 (rX (kqb L) 0 .nil L<|qg L mY st).1<=801:=by grind [kqz,qjj,zq6]
  by_cases l:zk L nU (g8 (rX (kqb L) 0 .nil L<|qg L mY st).2).2=true
  ·rw[lJ l]at h |-;simp only at h |-;have e:=m _ h;have⟨g,t,k,xn,b1,xz⟩:=d<|kzz e;have⟨v,w,e3⟩:=kqz f b1.lt e;have b2:=j _ e3 h;have q:=xn.le;have l1:=b1.T;have E:=b2.T;have J:=b2.lt;refine⟨⟨g,⟨k,rfl,rfl,⟨b1.well,aj⟩,⟨b2.well,aj⟩,trivial⟩,⟨xz,b1.sm,b2.sm,trivial⟩,b2.lt,?_,?_⟩,rfl⟩
   ·show uh L st.v _ (((kwa ⟨.nil,.nil,_⟩++uo _)++uo _)++uo .nil);rw[show uo (Go.Deep.BT.nil:PB)=[] from rfl,Qs];exact(b2.nms.D aj).app (b1.nms.app<|xn.D aj)
   ·show st.v+1<=_;grind
  ·rw[Xy l]at h |-;simp only at h |-;have⟨g,t,k,xn,b1,xz⟩:=d h;have q:=xn.le;have l1:=b1.T;have I:=b1.lt;refine⟨⟨g,⟨k,rfl,rfl,⟨b1.well,aj⟩,⟨trivial,by simp[kvt]⟩,trivial⟩,⟨xz,b1.sm,trivial,trivial⟩,b1.lt,?_,?_⟩,rfl⟩
   ·show uh L st.v _ (((kwa ⟨.nil,.nil,_⟩++uo _)++uo .nil)++uo .nil);rw[show uo (Go.Deep.BT.nil:PB)=[] from rfl,Qs,Qs];exact b1.nms.app<|xn.D aj
   ·show st.v+1<=_;grind
 ·rw[Xy hi]at h |-;simp only at h |-;have p:=kzz h;have e:=qjj p;have z:=kzz e;have⟨B,C,H,D,u⟩:=vjl f x z;have⟨G,t,A⟩:=kqz f D e;have⟨x1,x2,x3,x4,x5⟩:=zq6 i A p;have⟨v,w,e3⟩:=kqz f x3 h;have F:=u.le;have q:=x4.le;refine⟨⟨B,⟨C,x2,rfl,trivial⟩,⟨x5,trivial⟩,e3,?_,?_⟩,rfl⟩
  ·show uh L st.v _ (kwa ⟨_,_,.nil⟩++uo .nil);rw[show uo (Go.Deep.BT.nil:PB)=[] from rfl,Qs];show uh L st.v _ ((yu _++yu _)++yu .nil);rw[show yu (Go.Deep.BT.nil:PX)=[] from rfl,Qs];exact((x4.D aj).app u).high (by simp_all)
  ·show st.v+1<=_;grind
theorem zzw(h:(rS f tag L st).2.s=false):st.s=false:=kve λe=>by rw[qwg e]at h;cases h
theorem pqz(e:kq6 L):∀(f tag:Nat)(st:RS),st.v<L.length->(rS f tag L st).2.s=false->SIn L st (rS f tag L st)
 |0,tag,st,hl,h=>⟨h,trivial,trivial,hl,jV,by simp[rS,kvt]⟩
 |f+1,0,st,hl,h=>by
  have g:=e.jz4;rw[rS]at h |-;simp only at h |-;have hb:=kzz h;have⟨k,u,l⟩:=kqz g hl<|zzw hb;have d:=pqz e f 1 _ l hb;have⟨m,p,e3⟩:=kqz g d.lt h;have l1:=d.T;exact⟨k,d.well,d.sm,e3,(d.nms.D aj).high (by simp_all),by grind⟩
 |f+1,t+1,st,hl,h=>by
  rw[rS]at h |-;by_cases i:(zk L [125] st||st.s)=true
  ·rw[lJ i]at h |-;exact⟨h,trivial,trivial,hl,jV,by simp[kvt]⟩
  ·rw[Xy i]at h |-;simp only at h |-;obtain⟨d1,d2⟩:SIn L st (rDo (rS f 0 L) L st)/\kvt (rDo (rS f 0 L) L st).1=1:=xwr e (λs=>zzw) (λs j hb=>pqz e f 0 s j hb) hl<|zzw h;have d:=pqz e f 1 _ d1.lt h;have l1:=d1.T;have q:=d.T;exact⟨d1.M,d1.well.app d.well,d1.sm.app d.sm,d.lt,by rw[zjl];exact d.nms.app d1.nms,by rw[vk3];grind⟩
def qqi(p:PP):List Tok:=[p.y,p.Q]
theorem jy1(e:i<L.length)(d:((tk L i).t.toList==mX)=true)(hb:i+1<=b):uh L i b [tk L i]:=⟨i,jV,e,rfl,d,hb⟩
theorem xxc(d:zwe L)(e:st.v<L.length)(h:(rPP L st).2.s=false):st.s=false/\(rPP L st).2.v<L.length/\uh L st.v (rPP L st).2.v (qqi (rPP L st).1):=by unfold rPP at h |-;simp only at h |-;have f:=qqj h;have⟨a1,a2,a3,a4,a5⟩:=kx5 d e rfl<|kzz f;have⟨b1,b2,b3⟩:=kqz d a5 f;have⟨c1,c2,c3,c4,c5⟩:=kx5 d b3 rfl h;refine⟨a1,c5,?_⟩;unfold qqi;simp only;rw[a2,c2];exact⟨_,jV,e,rfl,a3,_,aj,b3,rfl,c3,by show _<=_;omega⟩
theorem pwg(g:zwe L):∀(f:Nat)(l:List PP)(st:RS),st.v<L.length->(kws f L l st).2.s=false->st.s=false/\(kws f L l st).2.v<L.length/\∃d,(kws f L l st).1=l++d/\uh L st.v (kws f L l st).2.v (d.flatMap qqi)
 |0,l,st,hl,h=>⟨h,hl,[],by simp[kws],jV⟩
 |f+1,l,st,hl,h=>by
  rw[kws]at h |-;by_cases hb:st.s=true
  ·simp_all
  ·rw[Xy hb]at h |-;by_cases hn:zk L [44] (rPP L st).2=true
   ·rw[lJ hn]at h |-;have i:(qg L [44] (rPP L st).2).s=false:=kve λe=>by rw[jqc e,e]at h;cases h
    have⟨k,m,p⟩:=xxc g hl<|kzz i;have⟨q,s,j⟩:=kqz g m i;have⟨i1,i2,d,i3,i4⟩:=pwg g f _ _ j h;exact⟨k,i2,(rPP L st).1::d,by simp_all,(i4.D aj).app p⟩
   grind [xxc]
theorem jkp(d:zwe L)(j:st.v<L.length)(h:(kj0 L st).2.s=false):st.s=false/\(kj0 L st).2.v<L.length/\uh L st.v (kj0 L st).2.v ((kj0 L st).1.flatMap qqi):=by
 unfold kj0 at h |-;by_cases hn:zk L [41] (qg L [40] st)=true
 ·rw[lJ hn]at h |-;simp only at h |-;have⟨g,p,i⟩:=kqz d j<|kzz h;have⟨k,l,e3⟩:=kqz d i h;exact⟨g,e3,by show _<=_;omega⟩
 ·rw[Xy hn]at h |-;simp only at h |-;have f:=kzz h;have m:(qg L [40] st).s=false:=kve λe=>by rw[jqc e,e]at f;cases f
  have⟨g,p,i⟩:=kqz d j m;have⟨i1,i2,q,i3,i4⟩:=pwg d _ _ _ i f;have⟨k,l,e3⟩:=kqz d i2 h;refine⟨g,e3,?_⟩;rw[i3,Qd];exact(i4.D aj).high aj
theorem jqb(h:st.s=true):∀(f:Nat)(l:List Tok),(kkn f L l st).2=st:=by intro a;induction a<;>grind [kkn]
theorem py2(e:zwe L):∀(f:Nat)(l:List Tok)(st:RS),st.v<L.length->(kkn f L l st).2.s=false->st.s=false/\(kkn f L l st).2.v<L.length/\∃d,(kkn f L l st).1=l++d/\uh L st.v (kkn f L l st).2.v d
 |0,l,st,hl,h=>⟨h,hl,[],by simp[kkn],jV⟩
 |f+1,l,st,hl,h=>by
  rw[kkn]at h |-;by_cases hb:st.s=true
  ·simp_all
  ·rw[Xy hb]at h |-;by_cases hn:(zk L [44] (zq L mX st).2||decide (l.length+1<2))=true
   ·rw[lJ hn]at h |-;have g:(qg L [44] (zq L mX st).2).s=false:=(by grind [jqb]);have⟨a1,a2,a3,a4,a5⟩:=kx5 e hl rfl<|kzz g;have⟨j,k,i⟩:=kqz e a5 g;have⟨i1,i2,d,i3,i4⟩:=py2 e f _ _ i h;refine⟨a1,i2,(zq L mX st).1::d,by simp_all,?_⟩;exact⟨st.v,jV,hl,a2,by simp_all,i4.D aj⟩
   grind [kx5,zq,jy1]
theorem xkm(e:kq6 L)(st:RS)(j:st.v<L.length)(h:(kvc L st).2.s=false):st.s=false/\zz9 (kvc L st).1.size/\(kvc L st).2.v<L.length/\uh L st.v (kvc L st).2.v (zjy (kvc L st).1):=by have d:=e.jz4;unfold kvc at h |-;simp only at h |-;have f:=kzz h;have g:=qqj f;have⟨k,p,i⟩:=kqz d j<|qqj g;have⟨a1,a2,a3,a4,a5⟩:=kx5 d i rfl g;have⟨b1,b2,b3,b4,b5⟩:=kx5 d a5 rfl f;have⟨l,m,e3⟩:=kqz d b5 h;refine⟨k,by rw[b2];exact zq7 e a5 b3,e3,?_⟩;unfold zjy;simp only;rw[a2];exact(jy1 i a3 aj).D aj
theorem pyw(k:kq6 L)(l:st.v<L.length)(h:(kxz L st).2.s=false):st.s=false/\True/\(kxz L st).2.v<L.length/\uh L st.v (kxz L st).2.v (kx7 (kxz L st).1):=by
 have d:=k.jz4;unfold kxz kkr at h |-;simp only at h |-;have f:=kzz h;have i:(qg L [123] (zq L mX<|qg L ny st).2).s=false:=kve λe=>by rw[jqb e,e]at f;cases f
 have g:=kzz i;have⟨m,t,j⟩:=kqz d l<|qqj g;have⟨a1,a2,a3,a4,a5⟩:=kx5 d j rfl g;have⟨b1,b2,b3⟩:=kqz d a5 i;have⟨i1,i2,s,i3,i4⟩:=py2 d _ _ _ b3 f;have⟨p,q,e3⟩:=kqz d i2 h;refine⟨m,trivial,e3,?_⟩;unfold kx7;simp only;rw[i3,Qd,a2];exact⟨_,aj,j,rfl,a3,(i4.D aj).high aj⟩
def kyv(t:Tok):List Tok:=if t.t.toList==mX then [t] else []
def kxi(v:PVar):List Tok:=v.y::(kyv v.g++kyv v.k)
def zxr(v:PVar):Prop:=(v.g=zh\/(v.g.t.toList==mX)=true) /\
 ((v.k.t.toList=nV/\v.k.x.toList=nP/\v.R=zh)\/(v.k.t.toList=nV/\v.k.x.toList=nD/\zz9 v.R/\v.R.t.toList=mW)\/(v.k.t.toList=mX/\v.R=zh))
theorem pwh:kyv zh=[]:=by unfold kyv;rw[dh];rfl
theorem xz6(d:zwe L)(f:st.v<L.length)(h:(kjn L st).2.s=false):st.s=false/\((kjn L st).1=zh\/((kjn L st).1.t.toList==mX)=true)/\(kjn L st).2.v<L.length/\uh L st.v (kjn L st).2.v (kyv (kjn L st).1):=by
 unfold kjn at h |-;by_cases hn:zk L [91] st=true
 ·rw[lJ hn]at h |-;simp only at h |-;have e:=kzz h;have⟨i,l,g⟩:=kqz d f<|qqj e;have⟨a1,a2,a3,a4,a5⟩:=kx5 d g rfl e;have⟨j,k,e3⟩:=kqz d a5 h;refine⟨i,(by simp_all),e3,?_⟩;unfold kyv;rw[a2,a3,lJ rfl];exact(jy1 g a3 aj).D aj
 ·rw[Xy hn]at h |-;exact⟨h,Or.inl rfl,f,by rw[pwh];exact jV⟩
theorem xkw(k:kq6 L)(f:st.v<L.length)(h:(kku L st).2.s=false):st.s=false/\(kku L st).2.v<L.length /\
  (((tk L st.v).t.toList=nV/\(tk L st.v).x.toList=nP/\(kku L st).1=zh)\/((tk L st.v).t.toList=nV/\(tk L st.v).x.toList=nD/\zz9 (kku L st).1/\(kku L st).1.t.toList=mW)\/((tk L st.v).t.toList=mX/\(kku L st).1=zh)) /\
  uh L st.v (kku L st).2.v (kyv<|tk L st.v):=by
 have e:=k.jz4;have d:∀l:List UInt8,l∈lits->(∃c r,l=c::r/\(decide (97<=(c.toNat:Int))&&decide ((c.toNat:Int)<=122))=true)->zk L l st=true->(tk L st.v).t.toList=nV/\(tk L st.v).x.toList=l/\kyv (tk L st.v)=[]:=λl p q hn=>by grind [zkb,kz8,kyv]
 unfold kku at h |-;by_cases hb:zk L nP st=true
 ·rw[lJ hb]at h |-;simp only at h |-;have⟨i,m,j⟩:=kqz e f h;have⟨k1,k2,k3⟩:=d _ ak ay hb;exact⟨i,j,(by simp_all),by rw[k3];show _<=_;omega⟩
 ·rw[Xy hb]at h |-;by_cases g:zk L nD st=true
  ·rw[lJ g]at h |-;have⟨i,m,j⟩:=kqz e f<|qqj h;have⟨a1,a2,a3,a4,a5⟩:=kx5 e j rfl h;have⟨k1,k2,k3⟩:=d _ ak ay g;refine⟨i,a5,(by grind [zq7]),by rw[k3];show _<=_;omega⟩
  ·rw[Xy g]at h |-;simp only at h |-;have⟨a1,a2,a3,a4,a5⟩:=kx5 e f rfl h;grind [kyv,jy1]
theorem xz5(h:(kjn L st).2.s=false):st.s=false:=kve λe=>by rw[jk8 e]at h;cases h
theorem xkv(h:(kku L st).2.s=false):st.s=false:=kve λe=>by rw[vjt e]at h;cases h
theorem xkz(e:kq6 L)(st:RS)(l:st.v<L.length)(h:(kyt L st).2.s=false):st.s=false/\zxr (kyt L st).1/\(kyt L st).2.v<L.length/\uh L st.v (kyt L st).2.v (kxi (kyt L st).1):=by have d:=e.jz4;unfold kyt at h |-;simp only at h |-;have j:=kzz h;have i:=xkv j;have g:=xz5 i;have f:=kzz g;have⟨m,v,k⟩:=kqz d l<|qqj f;have⟨a1,a2,a3,a4,a5⟩:=kx5 d k rfl f;have⟨b1,b2,b3⟩:=kqz d a5 g;have⟨o1,o2,o3,o4⟩:=xz6 d b3 i;have⟨w,p,q,s⟩:=xkw e o3 j;have⟨t,u,e3⟩:=kqz d p h;refine⟨m,⟨o2,q⟩,e3,?_⟩;unfold kxi;simp only;rw[a2];exact⟨_,aj,k,rfl,a3,((s.app<|o4.D aj).high aj)⟩
def kqp(r:PRule):List Tok:=r.y::(r.u.flatMap qqi++(yu r.guard++uo r.S))
def xvt(r:PRule):Prop:=kk5 r.guard<=801/\BSm r.S
def kvw(r:PRule):Prop:=kx9 r.guard/\kkz r.S/\kvt r.S<=801/\xvt r
theorem jkg(h:(kj0 L st).2.s=false):st.s=false:=kve λe=>by rw[zvn e]at h;cases h
theorem xjr(e:kq6 L)(st:RS)(p:st.v<L.length)(h:(kjr L st).2.s=false):st.s=false/\kvw (kjr L st).1/\(kjr L st).2.v<L.length/\uh L st.v (kjr L st).2.v (kqp (kjr L st).1):=by
 have d:=e.jz4;have q:=e.T;unfold kjr at h |-;simp only at h |-;have g:(qzs L st).2.s=false:=zzw h;have j:(qg L mY (qvh L st).2).s=false:=qjj g;have k:(qvh L st).2.s=false:=kzz j;have i:(jqv L st).2.s=false:=jkg k;have⟨t,z,m⟩:=kqz d p<|qqj i;have⟨a1,a2,a3,a4,a5⟩:=kx5 d m rfl i;have⟨A,u,v⟩:=jkp d a5 k;have⟨b1,b2,b3⟩:=kqz d u j;have⟨x1,x2,x3,x4,x5⟩:=zq6 e b3 g;have s:=pqz e _ _ _ x3 h;have l:=s.lt;have f:kvt (rS (qqn L) 0 L (qzs L st).2).1<=801:=by have:kvt (rS (qqn L) 0 L (qzs L st).2).1<=(rS (qqn L) 0 L (qzs L st).2).2.v:=rP (Nat.le_add_left _ _) s.T;have y:(rS (qqn L) 0 L (qzs L st).2).2.v<L.length:=l;omega
 refine⟨t,⟨x2,s.well,f,x5,s.sm⟩,l,?_⟩;unfold kqp;simp only;rw[show(jqv L st).1=_ from a2];refine⟨_,aj,m,rfl,a3,?_⟩;have c1:uh L (jqv L st).2.v (qvh L st).2.v ((qvh L st).1.flatMap qqi):=v;have c2:uh L (qg L mY (qvh L st).2).v (qzs L st).2.v (yu (qzs L st).1):=x4;have w:(jqv L st).2.v=(qg L nX st).v+1:=a4;have x:(qg L mY (qvh L st).2).v=(qvh L st).2.v+1:=b2;exact((s.nms.app<|c2.D aj).app c1).D aj
theorem pwo(e:kq6 L)(st:RS)(l:st.v<L.length)(h:(kzw L st).2.s=false):st.s=false/\(kvw (kzw L st).1/\(kzw L st).1.S=.nil)/\(kzw L st).2.v<L.length/\uh L st.v (kzw L st).2.v (kqp (kzw L st).1):=by have d:=e.jz4;unfold kzw at h |-;simp only at h |-;have f:(qvz L st).2.s=false:=kzz h;have i:(qwn L st).2.s=false:=qjj f;have g:(zjb L st).2.s=false:=jkg i;have⟨m,v,j⟩:=kqz d l<|qqj g;have⟨a1,a2,a3,a4,a5⟩:=kx5 d j rfl g;have⟨w,p,q⟩:=jkp d a5 i;have⟨x1,x2,x3,x4,x5⟩:=zq6 e p f;have⟨u,k,e3⟩:=kqz d x3 h;refine⟨m,⟨⟨x2,trivial,by simp[kvt],x5,trivial⟩,ay⟩,e3,?_⟩;unfold kqp;simp only;rw[show(zjb L st).1=_ from a2,show uo (Go.Deep.BT.nil:PB)=[] from rfl,Qs];refine⟨_,aj,j,rfl,a3,?_⟩;have c1:uh L (zjb L st).2.v (qwn L st).2.v ((qwn L st).1.flatMap qqi):=q;have c2:uh L (qwn L st).2.v (qvz L st).2.v (yu (qvz L st).1):=x4;have s:(zjb L st).2.v=(qg L nK st).v+1:=a4;have t:(qg L [59] (qvz L st).2).v=(qvz L st).2.v+1:=k;exact((c2.app c1).D aj).high aj
theorem zx8(h1:∀s,s.v<L.length->(one s).2.s=false->s.s=false/\P (one s).1/\(one s).2.v<L.length/\uh L s.v (one s).2.v (nm (one s).1)):∀(f:Nat)(l:List α)(s:RS),s.v<L.length->(loopA L lit one f l s).2.s=false->s.s=false/\(loopA L lit one f l s).2.v<L.length/\∃d,(loopA L lit one f l s).1=l++d/\(∀x∈d,P x)/\uh L s.v (loopA L lit one f l s).2.v (d.flatMap nm)
 |0,l,s,hl,h=>⟨h,hl,[],by simp[loopA],ay,jV⟩
 |f+1,l,s,hl,h=>by
  rw[loopA]at h |-;by_cases hn:zk L lit s=true
  ·rw[lJ hn]at h |-;have e:(one s).2.s=false:=(by grind [kyl]);have⟨a1,a2,a3,a4⟩:=h1 s hl e;have⟨b1,b2,d,b3,b4,b5⟩:=zx8 h1 f _ _ a3 h;refine⟨a1,b2,(one s).1::d,by simp_all,?_,b5.app a4⟩;simp_all
  ·rw[Xy hn]at h |-;exact⟨h,hl,[],ay,ay,jV⟩
theorem jjv(h1:∀s,s.v<L.length->(one s).2.s=false->s.s=false/\P (one s).1/\(one s).2.v<L.length/\uh L s.v (one s).2.v (nm (one s).1)):∀(f:Nat)(l:List α)(s:RS),s.v<L.length->(kx6 L lit one f l s).2.s=false->s.s=false/\(kx6 L lit one f l s).2.v<L.length/\∃d,(kx6 L lit one f l s).1=l++d/\(∀x∈d,P x)/\uh L s.v (kx6 L lit one f l s).2.v (d.flatMap nm)
 |0,l,s,hl,h=>⟨h,hl,[],by simp[kx6],ay,jV⟩
 |f+1,l,s,hl,h=>by
  rw[kx6]at h |-;by_cases hb:s.s=true
  ·simp_all
  ·rw[Xy hb]at h |-;by_cases hn:zk L lit (one s).2=true
   ·rw[lJ hn]at h |-;have e:(one s).2.s=false:=(by grind [kyn]);have⟨a1,a2,a3,a4⟩:=h1 s hl e;have⟨b1,b2,d,b3,b4,b5⟩:=jjv h1 f _ _ a3 h;refine⟨a1,b2,(one s).1::d,by simp_all,?_,b5.app a4⟩;simp_all
   simp_all
theorem vzb:∀(f:Nat)(l:List α)(s:RS),(kx6 L lit one (f+1) l s).2.s=false->s.s=false->l.length<(kx6 L lit one (f+1) l s).1.length
 |0,l,s,h,hs=>by
  grind [kx6]
 |f+1,l,s,h,hs=>by
  rw[kx6]at h |-;rw[Xy (by simp_all)]at h |-;by_cases hn:zk L lit (one s).2=true
  ·rw[lJ hn]at h |-;have d:(one s).2.s=false:=kve λe=>by rw[kyn e]at h;simp_all
   have:=vzb f (l++[(one s).1]) (one s).2 h d;grind
  simp_all
theorem vjn(L:List Tok):∀(f:Nat)(l:List Tok)(st:RS),l.length<=(kkn f L l st).1.length
 |0,l,st=>jV
 |f+1,l,st=>by
  rw[kkn];split
  ·simp
  ·split
   ·have:=vjn L f (l++[(zq L mX st).1])<|qg L [44] (zq L mX st).2;grind
   ·simp
theorem xjo(L:List Tok)(f:Nat)(l:List Tok)(h:st.s=false):l.length<(kkn (f+1) L l st).1.length:=by
 rw[kkn,Xy (by simp_all)];split
 ·have:=vjn L f (l++[(zq L mX st).1])<|qg L [44] (zq L mX st).2;grind
 ·simp
theorem pyv(h:(kxz L st).2.s=false):0<(kxz L st).1.i.length:=by
 have h1:(kkr L (zq L mX<|qg L ny st).2).2.s=false:=h;unfold kkr at h1;have d:=kzz h1;have f:(qg L [123] (zq L mX<|qg L ny st).2).s=false:=kve λe=>by rw[jqb e,e]at d;cases d
 have:=xjo L (L.length+1) [] f;exact this
def kzt(t:PTree):List Tok:=t.j.flatMap zjy++(t.p.flatMap kx7++(t.z.flatMap kxi++(t.l.flatMap kqp++t.q.flatMap kqp)))
structure qyw (L:List Tok)(t:PTree):Prop where
 nms:uh L 0 L.length (kzt t)
 j:∀s∈t.j,zz9 s.size
 p:∀k∈t.p,0<k.i.length
 z:∀v∈t.z,zxr v
 vne:0<t.z.length
 l:∀r∈t.l,kvw r
 q:∀r∈t.q,kvw r/\r.S=.nil
theorem tree_good(e:kq6 L)(h:(uz L).2=none):qyw L (uz L).1:=by
 have hb:(kwh L).2.s=false:=by grind [jk5]
 have hN:=hb;unfold kwh at hN;rw[qys]at hN;have hR:(kyq L).2.s=false:=(by grind [kyl]);have f:=hR;unfold kyq at f;rw[zzn]at f;have C:(kw9 L).2.s=false:=(by grind [kyn]);have g:=C;unfold kw9 at g;rw[zzt]at g;have hH:(kzb L kqa).2.2.s=false:=(by grind [kyn]);have d:=hH;unfold kzb at d;simp only at d;rw[zzf]at d;have p:(kyx (kq2 L) L [] kqa).2.s=false:=(by grind [kyl]);rw[zy4]at p;obtain⟨s1,w,ls,s3,M,x⟩:=zx8 (P:=λs=>zz9 s.size) (xkm e) (kq2 L) [] kqa e.pos p;rw[<-zy4]at w s3 x;obtain⟨k1,k2,i,k3,k4,k5⟩:=zx8 (P:=λk:PKind=>0<k.i.length) (λs D q=>by obtain⟨E,_,F,G⟩:=pyw e D q;exact⟨E,pyv q,F,G⟩) (kq2 L) [] _ w d;rw[<-zzf]at k2 k3 k5;obtain⟨N,y,m,I,O,z⟩:=jjv (P:=zxr) (xkz e) (kq2 L) [] (kzb L kqa).2.2 k2 g;have vne:0<(zzr (kq2 L) L [] (kzb L kqa).2.2).1.length:=by grind [zzt,kq2,vzb]
 rw[<-zzt]at y I z;obtain⟨J,u,l,H,K,v⟩:=jjv (P:=kvw) (xjr e) (kq2 L) [] (kw9 L).2 y f;rw[<-zzn]at u H v;obtain⟨n1,n2,j,n3,n4,t⟩:=zx8 (P:=λr=>kvw r/\r.S=.nil) (pwo e) (kq2 L) [] (kyq L).2 u hN;rw[<-qys]at n2 n3 t;have es:(uz L).1.j=ls:=by show(kyx (kq2 L) L [] kqa).1=ls;simp_all
 have A:(uz L).1.p=i:=by show(qqe (kq2 L) L [] (kyx (kq2 L) L [] kqa).2).1=i;simp_all
 have ev:(uz L).1.z=m:=by show(zzr (kq2 L) L [] (kzb L kqa).2.2).1=m;simp_all
 have B:(uz L).1.l=l:=by show(qwp (kq2 L) L [] (kw9 L).2).1=l;simp_all
 have en:(uz L).1.q=j:=by show(qze (kq2 L) L [] (kyq L).2).1=j;simp_all
 refine⟨?_,by simp_all,by simp_all,by simp_all,vne,by simp_all,by simp_all⟩;unfold kzt;rw[es,A,ev,B,en];have c1:uh L 0 (kyx (kq2 L) L [] kqa).2.v (ls.flatMap zjy):=x;have c2:uh L (kyx (kq2 L) L [] kqa).2.v (kzb L kqa).2.2.v (i.flatMap kx7):=k5;have c3:uh L (kzb L kqa).2.2.v (kw9 L).2.v (m.flatMap kxi):=z;have c4:uh L (kw9 L).2.v (kyq L).2.v (l.flatMap kqp):=v;have c5:uh L (kyq L).2.v (kwh L).2.v (j.flatMap kqp):=t;have c6:(kwh L).2.v<L.length:=n2;exact(((((c5.app c4).app c3).app c2).app c1)).high aj
def kqw(z:Int)(l:List Tok):Int:=l.foldl (λz t=>xu z t.v) z
theorem kq0:kqw z (L++g9)=kqw (kqw z L) g9:=Q5 ..
theorem pxh(h:-1<=z):-1<=xu z n:=by unfold xu;omega
theorem kqr:∀(l:List Tok){z:Int},-1<=z->-1<=kqw z l
 |[],z,h=>h
 |t::l,z,h=>kqr l<|pxh h
theorem jj6:∀(l:List Tok)(z:Int),0<=z->kqw z l<=z/\(∀y∈l,kqw z l<=y.v)/\(kqw z l=z\/∃y∈l,kqw z l=y.v)
 |[],z,h=>⟨Int.le_refl _,ay,.inl rfl⟩
 |t::l,z,h=>by
  have d:0<=xu z t.v:=by unfold xu;omega
  have e:xu z t.v<=z/\xu z t.v<=t.v/\(xu z t.v=z\/xu z t.v=t.v):=by unfold xu;omega
  have⟨a,b,c⟩:=jj6 l _ d;grind [kqw]
theorem qx1:∀(l:List Tok),l≠[]->(∃y∈l,kqw (-1) l=y.v)/\∀y∈l,kqw (-1) l<=y.v
 |[],h=>(h rfl).elim
 |t::l,_=>by
  have e:kqw (-1) (t::l)=kqw t.v l:=by grind [kqw,xu]
  simp_all [jj6]
theorem jj7(h:kqw (-1) L<0):L=[]:=by
 by_cases e:L=[]
 ·exact e
 ·have⟨⟨y,_,d⟩,_⟩:=qx1 L e;omega
theorem vz2(h1:∀x∈L,∃y∈g9,y.v<=x.v)(i:∀y∈g9,∃x∈L,x.v<=y.v):kqw (-1) L=kqw (-1) g9:=by
 by_cases e:L=[]
 ·subst e;by_cases d:g9=[]
  ·simp_all
  ·have⟨y,g⟩:=ZW g9 d;simp_all
 ·by_cases d:g9=[]
  ·subst d;have⟨x,f⟩:=ZW L e;simp_all
  ·have⟨⟨x,f,ex⟩,j⟩:=qx1 L e;have⟨⟨y,g,h⟩,k⟩:=qx1 g9 d;grind
theorem zjd:∀(b:List Tok)(z:Int),0<=z->kqw z b=xu z (kqw (-1) b)
 |[],z,h=>by
  show z=xu z (-1);unfold xu;omega
 |t::b,z,h=>by
  have d:kqw z (t::b)=kqw (xu z t.v) b:=rfl;have e:kqw (-1) (t::b)=kqw t.v b:=by grind [kqw,xu]
  have f:=kqr b (z:=-1) aj;rw[d,e,zjd b _ (by unfold xu;omega),zjd b t.v aj];grind [xu]
theorem zw9(a b:List Tok):xu (kqw (-1) a) (kqw (-1) b)=kqw (-1) (a++b):=by
 rw[kq0];by_cases e:a=[]
 ·subst e;show xu (-1) _=_;unfold xu;rw[lJ aj];rfl
 ·have⟨⟨y,_,d⟩,_⟩:=qx1 a e;grind [zjd]
def kqd(c:Bool)(t:Tok):List Tok:=if c then [t] else []
theorem jk{h8:Tok}:y∈kqd c h8↔c=true/\y=h8:=by unfold kqd;simp
def jf{α:Type}(g:Nat->α->List Tok):List α->Nat->List Tok
 |[],_=>[]
 |x::l,i=>g i x++jf g l (i+1)
theorem zo{g:Nat->α->List Tok}:∀(l:List α)(k:Nat),y∈jf g l k↔∃i,∃h:i<l.length,y∈g (k+i) l[i]
 |[],k=>by simp[jf]
 |x::l,k=>by
  rw[jf,rV,zo l (k+1)];constructor
  ·rintro(h|⟨i,hi,h⟩)
   ·exact⟨0,ay,by simp_all⟩
   ·exact⟨i+1,by simp_all,by grind⟩
  grind
theorem kq7{f:Int->Nat->α->Int}{g:Nat->α->List Tok}(h:∀a i x,-1<=a->f a i x=kqw a (g i x)):∀(l:List α)(i:Nat)(a:Int),-1<=a->yx f l i a=kqw a (jf g l i)
 |[],i,a,_=>rfl
 |x::l,i,a,ha=>by rw[yx,jf,kq0,h a i x ha];exact kq7 h l _ _<|kqr _ ha
theorem kw4{f:Int->α->Int}{g:α->List Tok}(h:∀a x,-1<=a->f a x=kqw a (g x)):∀(l:List α)(a:Int),-1<=a->l.foldl f a=kqw a (l.flatMap g)
 |[],a,_=>rfl
 |x::l,a,ha=>by rw[ZX,Jy,kq0,h a x ha];exact kw4 h l _<|kqr _ ha
theorem kyr(d:-1<=z):xu z (qkz n z0 y)=kqw z (kqd ((n:Int)==z0) y):=by
 unfold qkz kqd;split
 ·rfl
 ·show xu z (-1)=z;unfold xu;omega
theorem vje{h9:Int}(d:-1<=z):xu z (vji y z0 h9)=kqw z (kqd (decide (mg y.x<z0\/h9<mg y.x)) y):=by
 unfold vji kqd;by_cases h:mg y.x<z0\/h9<mg y.x
 ·rw[lJ h,lJ kV];rfl
 ·rw[Xy h,Xy kV];show xu z (-1)=z;unfold xu;omega
theorem qzu(a:Int)(n:Nat)(most:Int)(t:Tok):qxh a n most t=kqw a (kqd (decide (most<=(n:Int))) t):=by
 unfold qxh kqd;by_cases h:most<=(n:Int)
 ·rw[lJ h,lJ kV];rfl
 ·rw[Xy h,Xy kV];rfl
theorem vj8(a:Int)(t:Tok)(lo hi:Int):vv7 a t lo hi=kqw a (kqd (decide (mg t.x<lo\/hi<mg t.x)) t):=by
 unfold vv7 kqd;by_cases h:mg t.x<lo\/hi<mg t.x
 ·rw[lJ h,lJ kV];rfl
 ·rw[Xy h,Xy kV];rfl
theorem kkl:kjo c z y=kqw z (kqd c y):=by unfold kjo kqd;cases c<;>rfl
def pzt(t:Tok)(lo hi:Int):Bool:=decide (mg t.x<lo\/hi<mg t.x)
def mS(i:Nat)(s:PSet):List Tok:=kqd ((i:Int)==2) s.y++kqd (pzt s.size 2 3) s.size
def mM(i:Nat)(m:Tok):List Tok:=kqd ((i:Int)==4) m
def mK(i:Nat)(k:PKind):List Tok:=kqd ((i:Int)==2) k.y++jf mM k.i 0
def mV(i:Nat)(v:PVar):List Tok:=kqd ((i:Int)==4) v.y++kqd ((v.R.t.toList==mW)&&pzt v.R 1 3) v.R
def mR(i:Nat)(r:PRule):List Tok:=kqd ((i:Int)==5) r.y
def mN(i:Nat)(r:PRule):List Tok:=kqd ((i:Int)==3) r.y
def mP(i:Nat)(p:PP):List Tok:=kqd ((i:Int)==2) p.y
def mQ(_:Nat)(r:PRule):List Tok:=jf mP r.u 0
theorem jwq(t:PTree):kk7 t=kqw (-1) (((((jf mS t.j 0++jf mK t.p 0)++jf mV t.z 0)++jf mR t.l 0)++jf mN t.q 0)++jf mQ (t.l++t.q) 0):=by
 have g1:-1<=kqw (-1) (jf mS t.j 0):=kqr _ aj;have g:many1 t=kqw (-1) (jf mS t.j 0):=kq7 (λa i x d=>by unfold pqn mS;rw[kyr d,vje (kqr _ d),kq0];rfl) _ _ _ aj;have e:vzd t=kqw (-1) (jf mS t.j 0++jf mK t.p 0):=by grind [vzd,kq0,kq7,vzu,mK,kyr,pqs,mM,kqr]
 have e3:vzp t=kqw (-1) ((jf mS t.j 0++jf mK t.p 0)++jf mV t.z 0):=by
  unfold vzp;rw[e];refine Eq.trans ?_ (kq0).symm;exact kq7 (λa i x d=>by
   unfold zw3 mV;cases h:(x.R.t.toList==mW)
   ·rw[Xy ay,kyr d,kq0];rfl
   ·rw[lJ rfl,kyr d,vje (kqr _ d),kq0];rfl) _ _ _ (by simp_all [kqr])
 have f:vzg t=kqw (-1) (((jf mS t.j 0++jf mK t.p 0)++jf mV t.z 0)++jf mR t.l 0):=by unfold vzg;grind [kq0,kq7,vzy,mR,kyr,kqr]
 have e5:jv0 t=kqw (-1) ((((jf mS t.j 0++jf mK t.p 0)++jf mV t.z 0)++jf mR t.l 0)++jf mN t.q 0):=by unfold jv0;rw[f];refine Eq.trans ?_ (kq0).symm;grind [kq7,manyN,mN,kyr,kqr]
 unfold kk7;rw[e5];exact Eq.trans (kq7 (by grind [jki,mQ,kq7,pql,mP,kyr]) _ _ _<|by simp_all [kqr]) (kq0).symm
def qS(i:Nat)(s:PSet):List Tok:=kqd (decide ((2:Int)<=i)) s.y++kqd (pzt s.size 2 3) s.size
def qM(i:Nat)(m:Tok):List Tok:=kqd (decide ((4:Int)<=i)) m
def qK(i:Nat)(k:PKind):List Tok:=kqd (decide ((2:Int)<=i)) k.y++jf qM k.i 0
def qV(i:Nat)(v:VrT):List Tok:=kqd (decide ((4:Int)<=i)) v.y++kqd ((v.si.I==1)&&pzt v.si.R 1 3) v.si.R
def qP(i:Nat)(p:PP):List Tok:=kqd (decide ((2:Int)<=i)) p.y
def qR(i:Nat)(r:PRule):List Tok:=kqd (decide ((5:Int)<=i)) r.y++jf qP r.u 0
def qN(i:Nat)(r:PRule):List Tok:=kqd (decide ((3:Int)<=i)) r.y++jf qP r.u 0
theorem jqi(m:MdL):qz2 m=kqw (-1) ((((jf qS m.j 0++jf qK m.p 0)++jf qV m.z 0)++jf qR m.l 0)++jf qN m.q 0):=by
 have g:pm1 m=kqw (-1) (jf qS m.j 0):=kq7 (λa i x f=>by unfold pS qS;rw[qzu,vj8,kq0];rfl) _ _ _ aj;have g1:-1<=kqw (-1) (jf qS m.j 0):=kqr _ aj;have d:pm2 m=kqw (-1) (jf qS m.j 0++jf qK m.p 0):=by grind [pm2,kq0,kq7,pK,qK,qzu,pM,qM,kqr]
 have e3:pm3 m=kqw (-1) ((jf qS m.j 0++jf qK m.p 0)++jf qV m.z 0):=by
  unfold pm3;rw[d];refine Eq.trans ?_ (kq0).symm;exact kq7 (λa i x f=>by
   unfold pV qV;cases h:(x.si.I==1)
   ·rw[Xy ay,qzu,kq0];rfl
   ·rw[lJ rfl,qzu,vj8,kq0];rfl) _ _ _ (by simp_all [kqr])
 have j:∀(l:List PP)(a:Int),-1<=a->yx vy1 l 0 a=kqw a (jf qP l 0):=(by grind [kq7,vy1,qP,qzu]);have e:pm4 m=kqw (-1) (((jf qS m.j 0++jf qK m.p 0)++jf qV m.z 0)++jf qR m.l 0):=by unfold pm4;grind [kq0,kq7,pR,qR,qzu,kqr]
 unfold qz2;rw[e];exact Eq.trans (kq7 (by grind [pN,qN,qzu,kq0,kqr]) _ _ _<|by simp_all [kqr]) (kq0).symm
structure TreeInc (t:PTree):Prop where
 j:(t.j.flatMap zjy).Pairwise (λa b=>a.v<b.v)
 p:(t.p.flatMap kx7).Pairwise (λa b=>a.v<b.v)
 z:(t.z.flatMap kxi).Pairwise (λa b=>a.v<b.v)
 l:(t.l.flatMap kqp).Pairwise (λa b=>a.v<b.v)
 q:(t.q.flatMap kqp).Pairwise (λa b=>a.v<b.v)
theorem qyw.pw(d:kq6 L)(h:qyw L t):(kzt t).Pairwise (λa b=>a.v<b.v):=(h.nms.ats d.inc).2
theorem pv3(h:(kzt t).Pairwise (λa b=>a.v<b.v)):TreeInc t:=by unfold kzt at h;rw[QC,QC,QC,QC]at h;exact⟨h.1,h.2.1.1,h.2.1.2.1.1,h.2.1.2.1.2.1.1,h.2.1.2.1.2.1.2.1⟩
theorem qkc{f:α->List Tok}{nm:α->Tok}(k:∀x,nm x∈f x){l:List α}(h:(l.flatMap f).Pairwise (λa b=>a.v<b.v))(g:i<=j)(d:j<l.length):(nm (l[i]'aj)).v<=(nm l[j]).v:=by
 rw[List.pairwise_flatMap]at h;by_cases e:i=j
 ·simp_all
 ·have:=sQ.1 h.2 i j aj d aj;grind
theorem xjw(h:L.Pairwise (λa b=>a.v<b.v))(f:i<=j)(d:j<L.length):(L[i]'aj).v<=(L[j]).v:=by
 by_cases e:i=j
 ·simp_all
 ·exact Qr (sQ.1 h i j aj d aj)
theorem xz3(p:PP):p.y∈qqi p:=rZ ..
theorem pzq{d:PRule}(h:(kqp d).Pairwise (λa b=>a.v<b.v)):(d.u.flatMap qqi).Pairwise (λa b=>a.v<b.v):=by grind [kqp]
theorem vjf(h:(l.flatMap qqi).Pairwise (λa b=>a.v<b.v))(d:y∈jf qP l 0):∃x∈jf mP l 0,x.v<=y.v:=by rw[zo]at d;have⟨i,hi,d⟩:=d;unfold qP at d;rw[jk,sD]at d;obtain⟨f,rfl⟩:=d;have e:2<=i:=aj;refine⟨(l[2]'aj).y,?_,qkc xz3 h e hi⟩;grind [zo,mP,jk]
theorem jky(d:y∈jf mP l 0):y∈jf qP l 0:=by grind [zo,mP,qP,jk]
theorem pzi(hv:∀v∈t.z,zxr v)(h:TreeInc t):qz2 (ql t)=kk7 t:=by
 rw[jqi,jwq];have kp:∀k∈t.p,k.i.Pairwise (λa b=>a.v<b.v):=λk E=>by have:=h.p;grind [kx7]
 have z:∀(l:List PRule),(l.flatMap kqp).Pairwise (λa b=>a.v<b.v)->∀r∈l,(r.u.flatMap qqi).Pairwise (λa b=>a.v<b.v):=(by grind [pzq]);have vt:∀v∈t.z,((jw v).si.I==1)=(v.R.t.toList==mW)/\(((jw v).si.I==1)=true->(jw v).si.R=v.R):=λv B=>by
  obtain⟨_,h1|h1|h1⟩:=hv v B
  ·grind [jw,dh]
  ·grind [jw]
  grind [jw,dh]
 apply vz2
 ·intro x e;simp only[rV]at e;obtain(((e|e)|e)|e)|e:=e
  ·rw[zo]at e;have⟨i,hi,e⟩:=e;have g:i<t.j.length:=hi;unfold qS at e;rw[rV,jk,jk,sD]at e;obtain⟨m,rfl⟩|⟨m,rfl⟩:=e
   ·refine⟨(t.j[2]'aj).y,?_,qkc (f:=zjy) (nm:=λs:PSet=>s.y) (λx=>rZ ..) h.j aj g⟩;grind [zo,mS,jk]
   ·refine⟨(t.j[i]'g).size,?_,jV⟩;simp only[rV,zo];exact .inl (.inl<|.inl (.inl<|.inl ⟨i,g,by unfold mS;rw[rV,jk,jk];exact .inr ⟨m,rfl⟩⟩))
  ·rw[zo]at e;have⟨i,hi,e⟩:=e;have g:i<t.p.length:=hi;unfold qK at e;rw[rV,jk,sD,zo]at e;obtain⟨m,rfl⟩|⟨j,u,e⟩:=e
   ·refine⟨(t.p[2]'aj).y,?_,qkc (f:=kx7) (nm:=λs:PKind=>s.y) (λx=>rZ ..) h.p aj g⟩;simp only[rV,zo];grind [mK,jk]
   ·unfold qM at e;rw[jk,sD]at e;obtain⟨D,rfl⟩:=e;have w:j<(t.p[i]'g).i.length:=u;refine⟨(t.p[i]'g).i[4]'aj,?_,xjw (by simp_all) aj w⟩;simp only[rV,zo];grind [mK,zo,mM,jk]
  ·rw[zo]at e;have⟨i,hi,e⟩:=e;have g:i<t.z.length:=by simpa[ql] using hi
   have ev:(ql t).z[i]=jw (t.z[i]'g):=by simp[ql]
   rw[ev]at e;have⟨f1,f2⟩:=vt _<|wZ g;unfold qV at e;rw[rV,jk,jk,sD,rG]at e;obtain⟨m,rfl⟩|⟨⟨m,A⟩,rfl⟩:=e
   ·refine⟨(t.z[4]'aj).y,?_,qkc (f:=kxi) (nm:=λs:PVar=>s.y) (λx=>rZ ..) h.z aj g⟩;grind [zo,mV,jk]
   ·rw[f2 m]at A;refine⟨(t.z[i]'g).R,?_,by simp_all⟩;grind [zo,mV,jk]
  ·rw[zo]at e;have⟨i,hi,e⟩:=e;have g:i<t.l.length:=hi;unfold qR at e;rw[rV,jk,sD]at e;obtain⟨m,rfl⟩|e:=e
   ·refine⟨(t.l[5]'aj).y,?_,qkc (f:=kqp) (nm:=λs:PRule=>s.y) (λx=>rZ ..) h.l aj g⟩;grind [zo,mR,jk]
   ·have⟨y,d,p⟩:=vjf (z _ h.l _<|wZ g) e;refine⟨y,?_,p⟩;rw[rV,zo (t.l++t.q)];refine .inr ⟨i,by grind,?_⟩;rw[Qn g];exact d
  ·rw[zo]at e;have⟨i,hi,e⟩:=e;have g:i<t.q.length:=hi;unfold qN at e;rw[rV,jk,sD]at e;obtain⟨m,rfl⟩|e:=e
   ·refine⟨(t.q[3]'aj).y,?_,qkc (f:=kqp) (nm:=λs:PRule=>s.y) (λx=>rZ ..) h.q aj g⟩;grind [zo,mN,jk]
   ·have⟨y,d,p⟩:=vjf (z _ h.q _<|wZ g) e;refine⟨y,?_,p⟩;rw[rV,zo (t.l++t.q)];refine .inr ⟨t.l.length+i,by simp_all,?_⟩;grind [mQ]
 ·intro y d;refine⟨y,?_,jV⟩;simp only[rV]at d |-;obtain((((d|d)|d)|d)|d)|d:=d
  ·rw[zo]at d;have⟨i,hi,d⟩:=d;refine .inl<|.inl (.inl<|.inl ?_);rw[zo];refine⟨i,hi,?_⟩;unfold mS at d;unfold qS;rw[rV,jk,jk,su]at d;rw[rV,jk,jk,sD];obtain⟨a,b⟩|d:=d
   ·exact .inl ⟨aj,b⟩
   ·exact .inr d
  ·rw[zo]at d;have⟨i,hi,d⟩:=d;refine .inl<|.inl (.inl<|.inr ?_);rw[zo];refine⟨i,hi,?_⟩;unfold mK at d;unfold qK;rw[rV,jk,su,zo]at d;rw[rV,jk,sD,zo];obtain⟨a,b⟩|⟨j,u,d⟩:=d
   ·exact .inl ⟨aj,b⟩
   ·refine .inr ⟨j,u,?_⟩;unfold mM at d;unfold qM;rw[jk,su]at d;rw[jk,sD];exact⟨aj,d.2⟩
  ·rw[zo]at d;have⟨i,hi,d⟩:=d;refine .inl<|.inl (.inr ?_);rw[zo];grind [ql,jw,mV,qV,jk]
  ·rw[zo]at d;have⟨i,hi,d⟩:=d;refine .inl<|.inr ?_;rw[zo];refine⟨i,hi,?_⟩;unfold mR at d;unfold qR;rw[jk,su]at d;rw[rV,jk,sD];exact .inl ⟨aj,d.2⟩
  ·rw[zo]at d;have⟨i,hi,d⟩:=d;refine .inr ?_;rw[zo];refine⟨i,hi,?_⟩;unfold mN at d;unfold qN;rw[jk,su]at d;rw[rV,jk,sD];exact .inl ⟨aj,d.2⟩
  ·rw[zo]at d;have⟨i,hi,d⟩:=d;by_cases q:i<t.l.length
   ·rw[Qn q]at d;refine .inl<|.inr ?_;rw[zo];refine⟨i,q,?_⟩;unfold qR;rw[rV];exact .inr<|jky d
   ·rw[List.getElem_append_right aj]at d;refine .inr ?_;rw[zo];have C:i<t.l.length+t.q.length:=by grind
    refine⟨i-t.l.length,by show i-t.l.length<t.q.length;omega,?_⟩;unfold qN;rw[rV];exact .inr<|jky d
def qk1(x:Tok)(a:Int)(_:Nat)(y:Tok):Int:=if y.x.toList==x.x.toList then xu a x.v else a
def jqx(x:Tok)(a:Int)(_:Nat)(q:PP):Int:=if q.y.x.toList==x.x.toList then xu a x.v else a
def jvp(g:List Tok)(a:Int)(i:Nat)(x:Tok):Int:=yx (qk1 x) (g.take i) 0 a
def jvg(g:List Tok)(ps:List PP)(a:Int)(k:Nat)(p:PP):Int:=yx (jqx p.y) (ps.take k) 0 (yx (qk1 p.y) g 0 a)
def jvu(g:List Tok)(a:Int)(_:Nat)(r:PRule):Int:=yx (jvg g r.u) r.u 0 a
def qq0(t:PTree):Int:=yx (jvu (jc t)) (t.l++t.q) 0 (yx (jvp (jc t)) (jc t) 0 (-1))
theorem zy1(l:List Tok)(k:Nat)(h:k<l.length):(uw l)[k*3+1]?=some (.string (l[k]).x)/\(uw l)[k*3+2]?=some (i_ (l[k]).v):=
 ⟨kqo ji 3 (λ_=>rfl) l k 1 h aj,kqo ji 3 (λ_=>rfl) l k 2 h aj⟩
theorem pwx(l:List PP)(k:Nat)(h:k<l.length):(kjm l)[k*6+1]?=some (.string (l[k]).y.x)/\(kjm l)[k*6+2]?=some (i_ (l[k]).y.v):=
 ⟨kqo kwf 6 (λ_=>rfl) l k 1 h aj,kqo kwf 6 (λ_=>rfl) l k 2 h aj⟩
theorem pv8(l:List Tok):(uw l).length=l.length*3:=by
 induction l with
 |nil=>rfl
 |cons x xs ih=>grind [uw,List.length_cons,ji]
theorem pxd(h:kqc w B t)(ht:TreeOk t)(hr:t.l.length<=801)(hn:t.q.length<=801)(hp:∀r∈t.l++t.q,r.u.length<=801)(a3:(jc t).length<=90000):Calls prog 64 #[pT B] w λe w'=>rT e (i_<|qq0 t)/\oq w w':=by
 have⟨HT,HP⟩:=jS h hp;have⟨aR,aL,aS,aN⟩:=ht;clear hp aN;go_in;go_wp21;refine(vxj h aR aL aS hr hn a3).mono ?_;rintro e P ⟨gv,rfl,aK,X⟩;have aC:=X.size;obtain⟨ga,gc,rfl,a5⟩:=kq8 aK;have Q:=oz (show qq0 t=yx (jvu<|jc t) (t.l++t.q) 0 (yx (jvp<|jc t) (jc t) 0<|-1) from rfl);generalize jc t=G at a5 Q a3;have a8:=oz a5;have R:=kjd.start (f:=jvp G) (items:=G) (z:=-1)<|Below.refl P.heap.size P;clear a5;go_wp21
 go_loopw [3,5,6] (λat_ i _ wr=>kjd P (jvp G) G (-1) at_ i wr) (λ_ i _ _=>G.length-(intOf i).toNat);exact R;obtain⟨k,z0,aM,rfl,rfl,C,A⟩:=hrel;have aT:=A.size;by_cases u:k<G.length
 ·obtain⟨g,rfl,O⟩:=ku a8 k u;have⟨v,q⟩:=zy1 G k u;replace v:=(O (k*3+1) aj).trans v
  replace q:=(O (k*3+2) aj).trans q
  have I:=oz (λ(w':World) (b:Int) (hb:b=yx (qk1<|G[k]) (G.take k) 0 z0) E=>kjd.Y (W:=P) (wr:=w') (f:=jvp G) (items:=G) (z:=-1) (a:=z0) (b:=b) u C hb E);have aP:(G.take k).length=k:=by simp_all
  generalize G[k]=x at v q I;have H:=kjd.start (W:=P) (f:=qk1 x) (items:=G.take k) (z:=z0) A;clear C;go_wp21;go_loopw [3,6] (λat_ i wr=>kjd P (qk1 x) (G.take k) z0 at_ i wr) (λ_ i _=>(G.take k).length-(intOf i).toNat);exact H;obtain⟨j,b,aA,rfl,rfl,p,d⟩:=hrel;have aD:=d.size;have z1:=wU d v;have z2:=wU d q;by_cases U:j<k
  ·have D:j<(G.take k).length:=by omega
   have a2:j<G.length:=aj;have⟨d1,_⟩:=zy1 G j a2;replace d1:=wU d<|(O (j*3+1) aj).trans d1
   have a1:(G.take k)[j]=G[j]:=Zo;have m:=oz (λ(w':World) (K:Int) (hb:K=if (G[j]).x.toList==x.x.toList then xu b x.v else b) E=>kjd.Y (W:=P) (wr:=w') (f:=qk1 x) (items:=(G.take k)) (z:=z0) (a:=b) (b:=K) D p (by rw[hb,a1];rfl) E);generalize (G[j]).x=y at d1 m;clear p;cases L:(y.toList==x.x.toList)
   ·rw[L]at m;have s:=m _ b ay d.drew;go_wp21;go_region
    go_wp2;exact rdM s
   ·rw[L]at m;have aE:=wU d.drew q;go_wp21;go_region
    go_wp21;refine zM first_any ?_;rintro u1 rfl;generalize hF:xu b (x.v:Int)=F at m;have s:=m _ F ay d.drew;clear hF;go_wp2;exact rdM s
  ·have l:=kqu (by omega:¬j<(G.take k).length) p;have J:=I _ b l d;clear l p;go_wp2;exact rdM J
 ·have l:=kqu u C;go_wp21;refine(qk3 (HT.below<|X.trans (A.mono aC)) hr hn).mono ?_;rintro e w4 ⟨rv,rs,rfl,V,M,aJ⟩;have a7:=(X.trans<|A.mono aC).trans<|aJ.mono aj;have aF:=oz (show ∀i,i<G.length->∃g,ga=some (Ad g 0)/\∀j,j<G.length*3->w4.cell? (Ad g j)=(uw G)[j]? from λi hi=>by
   have⟨g,e1,O⟩:=ku a8 i hi;refine⟨g,e1,λj hj=>?_⟩;have hl:j<(uw G).length:=by rw[pv8];omega
   grind [cell_later])
  obtain⟨ra,rc,rfl,(Z:Hid _)⟩:=kq8 V;have aQ:(t.l++t.q).length<=1602:=by grind
  rw[<-l]at Q;have R:=kjd.start (W:=w4) (wr:=w4) (f:=jvu G) (items:=t.l++t.q) (z:=z0)<|bR;generalize t.l++t.q=N at R M Z aQ HP Q Z V M;clear l C;go_wp21
  go_loopw [3,8,9,10,11,12] (λat_ i _ _ _ _ wr=>kjd w4 (jvu G) N z0 at_ i wr) (λ_ i _ _ _ _ _=>N.length-(intOf i).toNat);exact R;obtain⟨k,a,aM,rfl,rfl,C,A⟩:=hrel;have aT:=A.size;by_cases u:k<N.length
  ·obtain⟨g,rfl,O⟩:=ku Z k u;have⟨vp,_,_,_,⟨_,_,_,f3,_,_⟩,aB,_⟩:=qji k u M;have e3:=(O (k*6+3) aj).trans f3;have aO:=ku HP _<|wZ u;have I:=oz (λ(w':World) (b:Int) (hb:b=yx (jvg G (N[k]).u) (N[k]).u 0 a) E=>kjd.Y (W:=w4) (wr:=w') (f:=jvu G) (items:=N) (z:=z0) (a:=a) (b:=b) u C hb E);generalize (N[k]).u=ps at I aB aO;obtain⟨ma,mc,rfl,(aH:Hid _)⟩:=kq8 aB;have aI:=kjd.start (W:=w4) (f:=jvg G ps) (items:=ps) (z:=a) A;have c3:=wU A e3;clear O f3 C;go_wp21
   go_loopw [3,10,11,12] (λat_ i _ _ wr=>kjd w4 (jvg G ps) ps a at_ i wr) (λ_ i _ _ _=>ps.length-(intOf i).toNat);exact aI;obtain⟨k4,a4,aU,rfl,rfl,S,a6⟩:=hrel;by_cases T:k4<ps.length
   ·obtain⟨gp,rfl,a0⟩:=ku aH k4 T;have⟨v,q⟩:=pwx ps k4 T;replace v:=(a0 (k4*6+1) aj).trans v
    replace q:=(a0 (k4*6+2) aj).trans q
    have Y:=oz (λ(w':World) (b:Int) (hb:b=yx (jqx (ps[k4]).y) (ps.take k4) 0 (yx (qk1 (ps[k4]).y) G 0 a4)) E=>kjd.Y (W:=w4) (wr:=w') (f:=jvg G ps) (items:=ps) (z:=a) (a:=a4) (b:=b) T S hb E);have aP:(ps.take k4).length=k4:=by simp_all
    generalize (ps[k4]).y=x at v q Y;have H:=kjd.start (W:=w4) (f:=qk1 x) (items:=G) (z:=a4) a6;clear S;go_wp21;go_loopw [3,11] (λat_ i wr=>kjd w4 (qk1 x) G a4 at_ i wr) (λ_ i _=>G.length-(intOf i).toNat);exact H;obtain⟨j,b5,aA,rfl,rfl,p,d⟩:=hrel;have aD:=d.size;have z1:=wU d v;have z2:=wU d q;by_cases U:j<G.length
    ·have D:j<G.length:=by omega
     have⟨d1,_⟩:=zy1 G j U;obtain⟨g5,rfl,a9⟩:=ku aF j U;replace d1:=wU d<|(a9 (j*3+1) aj).trans d1
     clear a9;have m:=oz (λ(w':World) (K:Int) (hb:K=if (G[j]).x.toList==x.x.toList then xu b5 x.v else b5) E=>kjd.Y (W:=w4) (wr:=w') (f:=qk1 x) (items:=G) (z:=a4) (a:=b5) (b:=K) D p (by rw[hb];rfl) E);generalize (G[j]).x=y at d1 m;clear p;cases L:(y.toList==x.x.toList)
     ·rw[L]at m;have s:=m _ b5 ay d.drew;go_wp21;go_region
      go_wp2;exact rdM s
     ·rw[L]at m;have aE:=wU d.drew q;go_wp21;go_region
      go_wp21;refine zM first_any ?_;rintro u1 rfl;generalize hF:xu b5 (x.v:Int)=F at m;have s:=m _ F ay d.drew;clear hF;go_wp2;exact rdM s
    ·have l:=kqu (by omega:¬j<G.length) p;have aG:=oz (l:b5=yx (qk1 x) G 0 a4);have H:=kjd.start (W:=w4) (f:=jqx x) (items:=ps.take k4) (z:=b5) d;clear l p;go_wp21;go_loopw [3,12] (λat_ i wr=>kjd w4 (jqx x) (ps.take k4) b5 at_ i wr) (λ_ i _=>(ps.take k4).length-(intOf i).toNat);exact H;obtain⟨j,b,aA,rfl,rfl,p,d⟩:=hrel;have aD:=d.size;have z1:=wU d v;have z2:=wU d q;by_cases U:j<k4
     ·have D:j<(ps.take k4).length:=by omega
      have a2:j<ps.length:=aj;have⟨d1,_⟩:=pwx ps j a2;replace d1:=wU d<|(a0 (j*6+1) aj).trans d1
      have a1:(ps.take k4)[j]=ps[j]:=Zo;have m:=oz (λ(w':World) (K:Int) (hb:K=if (ps[j]).y.x.toList==x.x.toList then xu b x.v else b) E=>kjd.Y (W:=w4) (wr:=w') (f:=jqx x) (items:=(ps.take k4)) (z:=b5) (a:=b) (b:=K) D p (by rw[hb,a1];rfl) E);generalize (ps[j]).y.x=y at d1 m;clear p;cases L:(y.toList==x.x.toList)
      ·rw[L]at m;have s:=m _ b ay d.drew;go_wp21;go_region
       go_wp2;exact rdM s
      ·rw[L]at m;have aE:=wU d.drew q;go_wp21;go_region
       go_wp21;refine zM first_any ?_;rintro u1 rfl;generalize hF:xu b (x.v:Int)=F at m;have s:=m _ F ay d.drew;clear hF;go_wp2;exact rdM s
     ·have l:=kqu (by omega:¬j<(ps.take k4).length) p;have J:=Y _ b (by rw[<-ku aG];omega) d;clear l p;go_wp2;exact rdM J
   ·have l:=kqu T S;have J:=I _ a4 l a6;clear l S;go_wp2;exact rdM J
  ·have l:=kqu u C;have HE:=oz (by rw[ku Q];omega:a=qq0 t);clear l C;go_wp2;go_ret;exact⟨kqi HE,a7.trans<|A.mono a7.size⟩
def qjl(o:Int)(x:Tok)(a:Int):Int:=if x.t.toList==mX&&decide (o<0) then xu a x.v else a
def qjn(s k:Int)(x:Tok)(a:Int):Int:=if x.t.toList==mX&&decide (s<0)&&decide (k<0) then xu a x.v else a
def jxr(t:PTree)(a:Int)(_:Nat)(v:PVar):Int:=
 qjn (zx (ug t) v.k.x.toList) (zx (uy t) v.k.x.toList) v.k (qjl (zx (ug t) v.g.x.toList) v.g a)
def zyr(t:PTree)(a:Int)(_:Nat)(p:PP):Int:=if zx (ug t) p.Q.x.toList<0 then xu a p.Q.v else a
def jxl(t:PTree)(ps:List PP)(a:Int)(_:Nat)(n:Tok):Int:=if qxc t ps n.x.toList then a else xu a n.v
def jxn(t:PTree)(a:Int)(_:Nat)(r:PRule):Int:=yx (jxl t r.u) (yu r.guard++uo r.S) 0 (yx (zyr t) r.u 0 a)
def xxk(t:PTree):Int:=yx (jxr t) t.z 0 (-1)
def qxo(t:PTree):Int:=yx (jxn t) (t.l++t.q) 0 (xxk t)
def vwa(s:PSet):List (Tok×Ent):=[(s.y,⟨1,0,bE,kv3⟩)]
def vxm(k:PKind):List (Tok×Ent):=(k.y,⟨2,0,bE,kv3⟩)::k.i.map (λx=>(x,⟨3,0,k.y.x,kv3⟩))
def vxd(v:VrT):List (Tok×Ent):=[(v.y,⟨4,0,bE,v⟩)]
def vxc(r:PRule):List (Tok×Ent):=[(r.y,⟨5,0,bE,kv3⟩)]
def vxb(r:PRule):List (Tok×Ent):=[(r.y,⟨6,0,bE,kv3⟩)]
def kjl(m:MdL):List (Tok×Ent):=m.j.flatMap vwa++(m.p.flatMap vxm++(m.z.flatMap vxd++(m.l.flatMap vxc++m.q.flatMap vxb)))
def vxx(t:Tab)(x:Tok×Ent):Tab:=kyw t x.1 x.2
theorem foldl_flat{i5 i6:Type}(f:α->List i5)(g:i6->i5->i6):∀(l:List α)(c:i6),(l.flatMap f).foldl g c=l.foldl (λc x=>(f x).foldl g c) c:=by intro a;induction a<;>grind
theorem vxv(m:MdL):qm m=(kjl m).foldl vxx []:=by
 unfold qm gt4 gt3 gt2 gt1 kjl;rw[Q5,Q5,Q5,Q5,foldl_flat,foldl_flat,foldl_flat,foldl_flat,foldl_flat];have e:(λ(c:Tab)(k:PKind)=>(vxm k).foldl vxx c)=gK:=by
  funext c k
  unfold vxm gK;rw[ZX,List.foldl_map];rfl
 rw[e];rfl
def jz3(l:List (Tok×Ent))(s:List UInt8):Ent:=match l.find? (λx=>x.1.x.toList==s) with|none=>jkh|some x=>{x.2 with N:=x.1.v}
theorem vzh:∀{t:Tab},(zl t s).V≠0->zl (t++i7) s=zl t s
 |[],h=>(h rfl).elim
 |x::l,h=>by
  rw[QU,zl,zl];rw[zl]at h;split
  ·rfl
  ·rename_i d;rw[Xy d]at h;exact vzh h
theorem zkr{u:Tab}:∀{t:Tab},ky3 t->(zl t s).V=0->zl (t++u) s=zl u s/\zl t s=jkh
 |[],_,_=>⟨rfl,rfl⟩
 |x::l,ht,h=>by
  rw[QU,zl,zl];rw[zl]at h;split
  ·rename_i d;rw[lJ d]at h;have:=ht x<|rZ ..;omega
  ·rename_i d;rw[Xy d]at h;exact zkr (λy e=>ht y<|jB e) h
theorem px2(d:ky3 i7)(n:Tok)(e:Ent)(s:List UInt8):zl (kyw i7 n e) s=if (zl i7 s).V=0/\n.x.toList=s then {e with N:=n.v} else zl i7 s:=by grind [kyw,zl,zkr,vzh]
theorem jv4:∀(l:List (Tok×Ent)) (t:Tab),ky3 t->(∀x∈l,1<=x.2.V)->zl (l.foldl vxx t) s=if (zl t s).V=0 then jz3 l s else zl t s
 |[],t,ht,_=>by
  split
  ·rename_i h;exact(zkr (u:=[]) ht h).2
  ·rfl
 |x::l,t,ht,hl=>by rw[ZX,jv4 l (vxx t x) (qzk ht (hl x (rZ ..))) (λy d=>hl y (jB d))];grind [px2,vxx,jz3]
theorem kw3:∀x∈kjl m,(x.2.V=1/\∃q∈m.j,x.1=q.y)\/(x.2.V=2/\∃k∈m.p,x.1=k.y)\/(x.2.V=3/\∃k∈m.p,x.1∈k.i/\x.2.t=k.y.x) \/
  (x.2.V=4/\∃v∈m.z,x.1=v.y/\x.2.var=v)\/(x.2.V=5/\∃r∈m.l,x.1=r.y)\/(x.2.V=6/\∃r∈m.q,x.1=r.y):=by intro x d;unfold kjl at d;simp only[rV,rM]at d;grind [vwa,vxm,vxd,vxc,vxb]
theorem jvw(m:MdL):∀x∈kjl m,1<=x.2.V:=λx d=>by grind [kw3]
theorem kz0(m:MdL)(s:List UInt8):zl (qm m) s=jz3 (kjl m) s:=by rw[vxv,jv4 _ _ (λx d=>qY) (jvw m),lJ (show(zl [] s).V=0 from rfl)]
theorem kz1(l:List (Tok×Ent))(s:List UInt8):(jz3 l s=jkh/\∀x∈l,x.1.x.toList≠s) \/
  ∃j,∃hj:j<l.length,(l[j]).1.x.toList=s/\(∀k (hk:k<j),(l[k]'aj).1.x.toList≠s)/\jz3 l s={(l[j]).2 with N:=(l[j]).1.v}:=by
 unfold jz3;cases d:l.find? (λx=>x.1.x.toList==s) with
 |none=>
  grind
 |some b=>
  have⟨h1,i,hi,e,f⟩:=List.find?_eq_some_iff_getElem.1 d;grind
theorem zjs(t:PTree):(kjl (ql t)).map (·.1)=jc t:=by
 unfold kjl jc qj3 qvs qvf ql;have d:∀l:List PSet,(l.flatMap vwa).map (·.1)=l.flatMap zjy:=λl=>by rw[Jp];rfl
 have e:∀l:List PKind,(l.flatMap vxm).map (·.1)=l.flatMap kx7:=λl=>by
  rw[Jp];congr 1
  funext k
  unfold vxm kx7;rw[Qm,Jz];congr 1
  exact List.map_id _
 have e3:∀l:List PVar,((l.map jw).flatMap vxd).map (·.1)=l.flatMap zwg:=λl=>by rw[List.flatMap_map,Jp];rfl
 have f:∀l:List PRule,(l.flatMap vxc).map (·.1)=l.flatMap kyz:=λl=>by rw[Jp];rfl
 have e5:∀l:List PRule,(l.flatMap vxb).map (·.1)=l.flatMap kyz:=λl=>by rw[Jp];rfl
 simp_all
theorem zq5(t:PTree):(kjl (ql t)).length=(jc t).length:=by rw[<-zjs,Ql]
theorem qkb(t:PTree)(hi:i<(kjl (ql t)).length):((kjl (ql t))[i]).1=(jc t)[i]'(by rw[<-zq5];exact hi):=by grind [zjs]
theorem kwg:∀(l:List ByteArray)(s:List UInt8),zx l s<0↔∀x∈l,x.toList≠s:=by intro a;induction a<;>grind [zx]
theorem kwu(h:0<=zx en s):∃hi:(zx en s).toNat<en.length,(en[(zx en s).toNat]).toList=s:=by
 induction en with
 |nil=>simp[zx]at h
 |cons x en ih=>
  grind [zx]
theorem jjz:∀(l:List PKind)(s:List UInt8),(kjj l s).1<0↔∀k∈l,∀x∈k.i,x.x.toList≠s
 |[],s=>by simp[kjj]
 |k::l,s=>by have e:=jjz l s;have d:=kwg (kjp k) s;grind [kjp,kjj]
theorem zx6:∀{l:List PKind}{s:List UInt8},0<=(kjj l s).1->∃hi:(kjj l s).1.toNat<l.length,∃x∈(l[(kjj l s).1.toNat]).i,x.x.toList=s
 |[],s,h=>by simp[kjj]at h
 |k::l,s,h=>by
  rw[kjj]at h;by_cases d:0<=zx (kjp k) s
  ·have e:(kjj (k::l) s).1=0:=by rw[kjj,lJ d]
   have⟨hi,f⟩:=kwu d;grind [kjp]
  ·rw[Xy d]at h;by_cases h1:(kjj l s).1<0
   ·simp_all
   ·have e:(kjj (k::l) s).1=(kjj l s).1+1:=by rw[kjj,Xy d,Xy h1]
    have⟨hi,x,g,f⟩:=zx6 (l:=l) (s:=s) aj;grind
theorem zyz:fpB l s=true↔∃p∈l,p.y.x.toList=s:=by unfold fpB;simp
theorem zza(l:List PP):zx (pq l) s<0↔fpB l s=false:=by grind [kwg,pq,zyz]
theorem qz0(t:PTree):(zl (qm (ql t)) s).V=1↔¬zx (ug t) s<0:=by
 rw[kz0,kwg];constructor
 ·intro h i;obtain⟨e,_⟩|⟨j,k,h1,m,e⟩:=kz1 (kjl<|ql t) s
  ·rw[e]at h;cases h
  ·rw[e]at h;simp only at h;obtain g|g|g|g|g|g:=kw3 _ (wZ k)
   ·have⟨_,q,d,l⟩:=g;exact i q.y.x (Qx d) (by simp_all)
   all_goals omega
 ·intro h;have:∃q∈t.j,q.y.x.toList=s:=by grind [ug]
  have⟨q,d,e⟩:=this;unfold jz3 kjl;rw[List.find?_append];cases f:(((ql t).j.flatMap vwa).find?<|λx=>x.1.x.toList==s) with
  |none=>
   have:=List.find?_eq_none.1 f (q.y,⟨1,0,bE,kv3⟩)<|rM.2 ⟨q,d,Qq.2 rfl⟩;simp_all
  |some b=>
   have hb:=List.mem_of_find?_eq_some f;rw[rM]at hb;have⟨p,_,hb⟩:=hb;grind [vwa]
theorem zky(t:PTree)(s:List UInt8):(zl (qm (ql t)) s).V=0↔∀x∈jc t,x.x.toList≠s:=by
 rw[kz0,<-zjs];obtain⟨e,h⟩|⟨j,d,h1,f,e⟩:=kz1 (kjl<|ql t) s
 ·rw[e];refine⟨λ_ x g=>?_,λ_=>rfl⟩;grind
 ·rw[e];have:=jvw _ _<|wZ d;grind
theorem kze:∀{x:PX},kx9 x->bf x=yu x
 |.nil,h=>rfl
 |.node _ _ x a c,h=>by
  have own:qw1 x=ownNames x:=by
   unfold qw1 ownNames kzu;by_cases g:x.op.toList=ng
   ·have e:(x.op.toList==ng)=true:=by simp_all
    simp only[e,Xw];have hi:x.c=zh\/(x.c.t.toList==mX)=true:=by
     obtain⟨h1,_⟩|⟨h1,_⟩|⟨h1,_⟩:=h
     ·obtain(h1|h1|h1)|⟨h1,_⟩|⟨_,_,h1⟩:=h1
      ·simp_all
      ·simp_all
      ·simp_all
      ·simp_all
      omega
     ·simp_all
     ·rw[g]at h1;exact absurd h1 ak
    grind [dh]
   simp_all
  rw[bf,yu,own];obtain⟨_,rfl,rfl⟩|⟨_,d,rfl⟩|⟨_,d,f⟩:=h
  ·rfl
  ·rw[kze d];rfl
  ·rw[kze d,kze f]
theorem kxo:∀{b:PB},kkz b->je b=uo b
 |.nil,_=>rfl
 |.node _ _ a .nil n,⟨⟨h1,x,hx,ho⟩,h2,h3,h4⟩=>by
  rw[je,uo,kxo h4,kwa,h3,kze h2];have e:pwu a.N=yu a.N:=by have w:=kze h1;rw[hx]at w |-;rw[<-w];show kzu x.y x.c=(qw1 x++[])++[];grind [qw1]
  grind [yu]
 |.node _ _ a (.node _ _ _ t e) n,⟨h1,h2,h3,h4,h5,h6⟩=>by rw[je,uo,kxo h4.1,kxo h5.1,kxo h6,kwa,h2,h3,kze h1];rfl
def fS(tab:Tab)(s:PSet):List Tok:=kqd (kk3 tab s.y) s.y
def fM(tab:Tab)(m:Tok):List Tok:=kqd (kk3 tab m) m
def fK(tab:Tab)(k:PKind):List Tok:=kqd (kk3 tab k.y) k.y++k.i.flatMap (fM tab)
def fV(tab:Tab)(v:VrT):List Tok:=kqd (kk3 tab v.y) v.y++(kqd (v.K&&zzd tab v.g) v.g++kqd ((v.si.I==2)&&vv5 tab v.si.y) v.si.y)
def fE(tab:Tab)(l:List PP)(i:Nat)(p:PP):List Tok:=kqd (pxr tab l i p) p.y++kqd (zzd tab p.Q) p.Q
def fU(tab:Tab)(l:List PP)(n:Tok):List Tok:=kqd (pjo tab l n) n
def fN(tab:Tab)(r:PRule):List Tok:=(kqd (kk3 tab r.y) r.y++jf (fE tab r.u) r.u 0)++(bf r.guard).flatMap (fU tab r.u)
def fR(tab:Tab)(r:PRule):List Tok:=fN tab r++(je r.S).flatMap (fU tab r.u)
theorem vkp(tab:Tab)(m:MdL):qxk tab m=kqw (-1) ((((m.j.flatMap (fS tab)++m.p.flatMap (fK tab))++m.z.flatMap (fV tab))++m.l.flatMap (fR tab))++m.q.flatMap (fN tab)):=by
 have g0:(-1:Int)<=-1:=aj;have val:∀(l:List PP)(ns:List Tok)(a:Int),-1<=a->ns.foldl (kyd tab l) a=kqw a (ns.flatMap<|fU tab l):=(by grind [kw4,kyd,fU,kkl]);have nev:∀(a:Int)(r:PRule),-1<=a->wN tab a r=kqw a (fN tab r):=λa r d=>by grind [wN,fN,kq0,kkl,kqr,kq7,fE,vxh]
 have f:wt1 tab m=kqw (-1) (m.j.flatMap<|fS tab):=kw4 (λa x _=>by unfold wS fS;exact kkl) _ _ g0;have e:wt2 tab m=kqw (-1) (m.j.flatMap (fS tab)++m.p.flatMap (fK tab)):=by grind [wt2,kq0,kw4,wK,fK,kkl,wM,fM,kqr]
 have e3:wt3 tab m=kqw (-1) ((m.j.flatMap (fS tab)++m.p.flatMap (fK tab))++m.z.flatMap (fV tab)):=by
  unfold wt3;rw[e];refine Eq.trans ?_ (kq0).symm;exact kw4 (λa x d=>by
   unfold wV xjz fV;rw[kq0,kq0,kkl,kkl,kkl];cases i:(x.si.I==2)
   ·rw[Xy ay];rfl
   simp) _ _ (kqr _ g0)
 have h:wt4 tab m=kqw (-1) (((m.j.flatMap (fS tab)++m.p.flatMap (fK tab))++m.z.flatMap (fV tab))++m.l.flatMap (fR tab)):=by
  unfold wt4;rw[e3];refine Eq.trans ?_ (kq0).symm;exact kw4 (λa x d=>by unfold fR;rw[kq0,<-nev a x d];have g:=kqr (fN tab x) d;rw[<-nev a x d]at g;exact val _ _ _ g) _ _ (kqr _ g0)
 grind [qxk,kq0,kw4,kqr]
def dG(g:List Tok)(i:Nat)(x:Tok):List Tok:=jf (λ_ y=>kqd (y.x.toList==x.x.toList) x) (g.take i) 0
def dP(g:List Tok)(ps:List PP)(k:Nat)(p:PP):List Tok:=jf (λ_ y=>kqd (y.x.toList==p.y.x.toList) p.y) g 0++jf (λ_ q=>kqd (q.y.x.toList==p.y.x.toList) p.y) (ps.take k) 0
def dR(g:List Tok)(_:Nat)(r:PRule):List Tok:=jf (dP g r.u) r.u 0
def uV(t:PTree)(_:Nat)(v:PVar):List Tok:=kqd ((v.g.t.toList==mX)&&decide (zx (ug t) v.g.x.toList<0)) v.g ++
 kqd ((v.k.t.toList==mX)&&decide (zx (ug t) v.k.x.toList<0)&&decide (zx (uy t) v.k.x.toList<0)) v.k
def uP(t:PTree)(_:Nat)(p:PP):List Tok:=kqd (decide (zx (ug t) p.Q.x.toList<0)) p.Q
def uN(t:PTree)(ps:List PP)(_:Nat)(n:Tok):List Tok:=kqd (!qxc t ps n.x.toList) n
def uR(t:PTree)(_:Nat)(r:PRule):List Tok:=jf (uP t) r.u 0++jf (uN t r.u) (yu r.guard++uo r.S) 0
theorem jji(t:PTree):qq0 t=kqw (-1) (jf (dG (jc t)) (jc t) 0++jf (dR (jc t)) (t.l++t.q) 0):=by
 have sm:∀(x:Tok)(l:List Tok)(a:Int),-1<=a->yx (qk1 x) l 0 a=kqw a (jf (λ_ y=>kqd (y.x.toList==x.x.toList) x) l 0):=λx l a d=>kq7 (λa i y _=>by unfold qk1 kqd;cases (y.x.toList==x.x.toList)<;>rfl) _ _ _ d
 have sp:∀(x:Tok)(l:List PP)(a:Int),-1<=a->yx (jqx x) l 0 a=kqw a (jf (λ_ q=>kqd (q.y.x.toList==x.x.toList) x) l 0):=λx l a d=>kq7 (λa i q _=>by unfold jqx kqd;cases (q.y.x.toList==x.x.toList)<;>rfl) _ _ _ d
 unfold qq0;grind [kq0,kq7,jvp,dG,jvu,dR,jvg,dP,kqr]
theorem jxt(t:PTree):qxo t=kqw (-1) (jf (uV t) t.z 0++jf (uR t) (t.l++t.q) 0):=by
 have g0:(-1:Int)<=-1:=aj;unfold qxo xxk;rw[kq0,kq7 (f:=jxr t) (g:=uV t) (λa i x d=>by unfold jxr uV qjn qjl kqd;rw[kq0];cases (x.g.t.toList==mX&&decide (zx (ug t) x.g.x.toList<0))<;>cases (x.k.t.toList==mX&&decide (zx (ug t) x.k.x.toList<0)&&decide (zx (uy t) x.k.x.toList<0))<;>rfl) _ _ _ g0]
 exact kq7 (λa i r d=>by
  unfold jxn uR;rw[kq0,kq7 (f:=zyr t) (g:=uP t) (λa i p _=>by
   unfold zyr uP kqd;by_cases h:zx (ug t) p.Q.x.toList<0
   ·rw[lJ h,lJ kV];rfl
   ·rw[Xy h,Xy kV];rfl) _ _ _ d]
  exact kq7 (λa i n _=>by unfold jxl uN kqd;cases qxc t r.u n.x.toList<;>rfl) _ _ _<|kqr _ d) _ _ _ (kqr _ g0)
theorem qzv{f g:α->List Tok}(h:∀x,(f x).Sublist (g x)):∀l:List α,(l.flatMap f).Sublist (l.flatMap g)
 |[]=>List.Sublist.slnil
 |x::l=>by rw[Jy,Jy];exact(h x).append (qzv h l)
theorem qy6(t:PTree):(jc t).Sublist (kzt t):=by
 unfold jc qj3 qvs qvf kzt;rw[JZ,sZ,sZ];refine(List.Sublist.refl _).append ((List.Sublist.refl _).append ?_);refine(qzv (λv=>?_) _).append ((qzv (λr=>?_) _).append<|qzv (λr=>?_) _)
 ·exact(Zj _).cons_cons _
 ·exact(Zj _).cons_cons _
 ·exact(Zj _).cons_cons _
structure TreeOrd (t:PTree):Prop where
 glob:(jc t).Pairwise (λa b=>a.v<b.v)
 kv:∀x∈t.p.flatMap kx7,∀y∈t.z.flatMap kxi,x.v<y.v
 kr:∀x∈t.p.flatMap kx7,∀r∈t.l++t.q,∀y∈kqp r,x.v<y.v
 vr:∀x∈t.z.flatMap kxi,∀r∈t.l++t.q,∀y∈kqp r,x.v<y.v
theorem vqr(h:(kzt t).Pairwise (λa b=>a.v<b.v)):TreeOrd t:=by have d:=h;unfold kzt at d;rw[QC,QC,QC]at d;have⟨_,⟨_,⟨_,_,e⟩,f⟩,_⟩:=d;have mem:∀r∈t.l++t.q,∀y∈kqp r,y∈t.l.flatMap kqp++t.q.flatMap kqp:=(by grind);exact⟨h.sublist<|qy6 t,(by grind),(by grind),(by grind)⟩
theorem qkp{g:α->List Tok}{l:List α}:y∈jf (λ_=>g) l 0↔∃x∈l,y∈g x:=by grind [zo,List.getElem_of_mem]
theorem jy6:y∈jf (dG L) L 0↔∃i,∃hi:i<L.length,y=L[i]/\∃j,∃hj:j<i,(L[j]'aj).x.toList=(L[i]).x.toList:=by grind [zo,dG,jk]
theorem jvy(g:TreeOrd t)(hi:i<(jc t).length):kk3 (qm (ql t)) (jc t)[i]=true↔∃j,∃f:j<i,((jc t)[j]'aj).x.toList=((jc t)[i]).x.toList:=by
 have d:i<(kjl<|ql t).length:=by rw[zq5];exact hi
 unfold kk3;rw[kz0];obtain⟨_,h⟩|⟨j,f,h1,p,e⟩:=kz1 (kjl<|ql t) (jc t)[i].x.toList
 ·exact(h _ (wZ d)<|by rw[qkb]).elim
 ·rw[e];simp only;rw[qkb t f]at h1 |-;have l:j<=i:=by grind [qkb]
  constructor
  ·grind
  ·rintro⟨k,q,m⟩;have:j<i:=by grind [qkb]
   have:=sQ.1 g.glob j i aj hi this;grind
theorem qwt{i8:Tok×Ent}(f:i8∈kjl (ql t))(d:(zl (qm (ql t)) i8.1.x.toList).V≠i8.2.V):i8.1∈jf (dG (jc t)) (jc t) 0:=by
 obtain⟨i,hi,rfl⟩:=wG f;rw[kz0]at d;obtain⟨_,h⟩|⟨j,k,h1,g,e⟩:=kz1 (kjl<|ql t) (kjl<|ql t)[i].1.x.toList
 ·grind
 grind [jy6,qkb]
theorem zks(d:i9∈t.p):(i9.y,(⟨2,0,bE,kv3⟩:Ent))∈kjl (ql t):=by unfold kjl;exact jP<|jU (rM.2 ⟨i9,d,rZ ..⟩)
theorem vzq(d:i9∈t.p)(e:y∈i9.i):(y,(⟨3,0,i9.y.x,kv3⟩:Ent))∈kjl (ql t):=by unfold kjl;exact jP<|jU (rM.2 ⟨i9,d,jB<|Qx (f:=λy=>(y,(⟨3,0,i9.y.x,kv3⟩:Ent))) e⟩)
theorem vqy(hv:v∈t.z):(v.y,(⟨4,0,bE,jw v⟩:Ent))∈kjl (ql t):=by unfold kjl;exact jP<|jP (jU<|rM.2 ⟨jw v,Qx hv,Qq.2 rfl⟩)
theorem qyd(h:zxr v):((jw v).si.I==2)=(v.k.t.toList==mX)/\((v.k.t.toList==mX)=true->(jw v).si.y=v.k):=by
 obtain⟨_,h1|h1|h1⟩:=h
 ·grind [jw]
 ·grind [jw]
 grind [jw]
theorem jw2(h:zxr v):(jw v).K=(v.g.t.toList==mX):=by
 obtain⟨h1|h1,_⟩:=h
 ·grind [jw,dh]
 grind [jw]
theorem qk0(t:PTree)(n:Tok):zzd (qm (ql t)) n=decide (zx (ug t) n.x.toList<0):=by grind [zzd,qz0]
theorem zyy(hv:∀v∈t.z,zxr v)(U:∀r∈t.l,kvw r)(hn:∀r∈t.q,kvw r/\r.S=.nil)(N:TreeOrd t):qxk (qm (ql t)) (ql t)=xu (qq0 t) (qxo t):=by
 rw[jji,jxt,zw9,vkp];have P:((((ql t).j.flatMap (fS<|qm (ql t))++(ql t).p.flatMap (fK<|qm (ql t)))++(ql t).z.flatMap (fV<|qm (ql t)))++(ql t).l.flatMap (fR<|qm (ql t)))++(ql t).q.flatMap (fN<|qm (ql t)) =
   ((t.j.flatMap (fS<|qm (ql t))++t.p.flatMap (fK<|qm (ql t)))++(t.z.map jw).flatMap (fV<|qm (ql t)))++(t.l++t.q).flatMap (fR<|qm (ql t)):=by
  rw[JZ,<-sZ];congr 1
  show t.q.flatMap _=t.q.flatMap _;have:∀l:List PRule,(∀r∈l,r.S=.nil)->l.flatMap (fN<|qm (ql t))=l.flatMap (fR<|qm (ql t)):=by
   intro l;induction l with
   |nil=>simp
   |cons r l ih=>
    grind [fR,je]
  simp_all
 rw[P];have G:∀r∈t.l++t.q,kvw r:=(by grind);have Q:∀n∈jc t,kk3 (qm<|ql t) n=true->n∈jf (dG<|jc t) (jc t) 0:=(by grind [List.getElem_of_mem,jvy,jy6]);have a2:∀s∈t.j,s.y∈jc t:=λs R=>by unfold jc qj3 qvs qvf;exact jU<|jU (jU<|rM.2 ⟨s,R,Qq.2 rfl⟩)
 have O:∀k∈t.p,∀x∈kx7 k,x∈jc t:=λk p x h=>by unfold jc qj3 qvs;grind
 have Z:∀v∈t.z,v.y∈jc t:=λv hv=>by unfold jc qj3;exact jU<|jP (rM.2 ⟨v,hv,Qq.2 rfl⟩)
 have a1:∀r∈t.l++t.q,r.y∈jc t:=λr U=>by unfold jc;exact jP<|rM.2 ⟨r,U,Qq.2 rfl⟩
 have kN:∀k∈t.p,∀x∈kx7 k,x∈t.p.flatMap kx7:=(by grind);apply vz2
 ·intro x h;simp only[rV,rM]at h;obtain((⟨s,R,h⟩|⟨k,p,h⟩)|⟨v',W,h⟩)|⟨r,A,h⟩:=h
  ·grind [fS,jk]
  ·unfold fK at h;rw[rV,jk,rM]at h;obtain⟨w,rfl⟩|⟨m,z,h⟩:=h
   ·exact⟨_,jU<|jU (Q _ (O k p _<|rZ ..) w),jV⟩
   ·unfold fM at h;rw[jk]at h;obtain⟨w,rfl⟩:=h;exact⟨_,jU<|jU (Q _ (O k p _<|jB z) w),jV⟩
  ·obtain⟨v,C,rfl⟩:=tY.1 W;have u:=hv v C;unfold fV at h;rw[rV,rV,jk,jk,jk,rG,rG,jw2 u,qk0,(qyd u).1]at h;obtain⟨w,rfl⟩|⟨⟨h1,B⟩,rfl⟩|⟨⟨h1,B⟩,rfl⟩:=h
   ·exact⟨_,jU<|jU (Q _ (Z v C) w),jV⟩
   ·refine⟨v.g,jP<|jU ?_,jV⟩;rw[zo];obtain⟨i,hi,rfl⟩:=wG C;refine⟨i,hi,?_⟩;unfold uV;rw[rV,jk,rG];exact .inl ⟨⟨h1,B⟩,rfl⟩
   ·rw[(qyd u).2 h1]at B |-;unfold vv5 at B;rw[rG,qk0]at B;by_cases I:zx (uy t) v.k.x.toList<0
    ·refine⟨v.k,jP<|jU ?_,jV⟩;rw[zo];obtain⟨i,hi,rfl⟩:=wG C;refine⟨i,hi,?_⟩;unfold uV;refine jP<|jk.2 ⟨?_,rfl⟩;simp_all
    ·have⟨hi,S⟩:=kwu (by omega:0<=zx (uy t) v.k.x.toList);have H:(zx (uy t) v.k.x.toList).toNat<t.p.length:=by simpa[uy] using hi
     have T:(t.p[(zx (uy t) v.k.x.toList).toNat]).y.x.toList=v.k.x.toList:=by grind [uy]
     have p:=wZ H;refine⟨_,jU<|jU (qwt (zks p) ?_),?_⟩
     ·simp_all
     ·refine Qr (N.kv _ (kN _ p _<|rZ ..) _<|rM.2 ⟨v,C,?_⟩);grind [kxi,kyv]
  ·replace A:r∈t.l++t.q:=rV.2 A
   have u:=G r A;unfold fR fN at h;rw[kze u.1,kxo u.2.1]at h;simp only[rV,jk,zo,rM]at h;have a3:∀n:Tok,(n∈yu r.guard\/n∈uo r.S)->x∈fU (qm<|ql t) r.u n->∃y∈(jf (dG<|jc t) (jc t) 0++jf (dR<|jc t) (t.l++t.q) 0)++(jf (uV t) t.z 0++jf (uR t) (t.l++t.q) 0),y.v<=x.v:=by
    intro n L h;have K:n∈kqp r:=by grind [kqp]
    unfold fU at h;rw[jk]at h;obtain⟨w,rfl⟩:=h;unfold pjo at w;simp only[rG,QD,QG]at w;by_cases J:qxc t r.u x.x.toList=true
    ·unfold qxc at J;simp only[Q8,sD]at J;obtain(h1|h1)|h1:=J
     ·have⟨hi,y,d,S⟩:=zx6 h1;have p:=wZ hi;refine⟨y,jU<|jU (qwt (vzq p d) ?_),Qr<|N.kr _ (kN _ p _<|jB d) r A _ K⟩;simp_all
     ·have⟨hi,S⟩:=kwu h1;have H:(zx (zf t) x.x.toList).toNat<t.z.length:=by simpa[zf] using hi
      have T:(t.z[(zx (zf t) x.x.toList).toNat]).y.x.toList=x.x.toList:=by grind [zf]
      have p:=wZ H;refine⟨_,jU<|jU (qwt (vqy p) ?_),Qr<|N.vr _ (rM.2 ⟨_,p,rZ ..⟩) r A _ K⟩;simp_all
     ·have:=(zza r.u (s:=x.x.toList)).2 w.1.1;omega
    ·refine⟨x,jP<|jP ?_,jV⟩;rw[zo];obtain⟨i,hi,rfl⟩:=wG A;refine⟨i,hi,?_⟩;unfold uR;rw[rV];right
     rw[zo];obtain⟨j,F,rfl⟩:=wG (rV.2 L:x∈yu (t.l++t.q)[i].guard++uo (t.l++t.q)[i].S);grind [uN,jk]
   obtain((⟨w,rfl⟩|⟨k,p,h⟩)|⟨n,L,h⟩)|⟨n,L,h⟩:=h
   ·grind
   ·unfold fE at h;rw[rV,jk,jk,qk0,Jc]at h;obtain⟨w,rfl⟩|⟨w,rfl⟩:=h
    ·refine⟨_,jU<|jP ?_,jV⟩;rw[zo];obtain⟨i,hi,rfl⟩:=wG A;refine⟨i,hi,?_⟩;unfold dR;rw[zo];refine⟨k,p,?_⟩;unfold dP;rw[rV,Jc];unfold pxr at w;rw[Q8]at w;obtain w|w:=w
     ·simp_all [zyz,qkp,jk]
     ·left
      rw[qkp (g:=λy:Tok=>kqd (y.x.toList==_) _)];grind [zky,jk]
    ·refine⟨_,jP<|jP ?_,jV⟩;grind [zo,List.getElem_of_mem,uR,uP,jk]
   ·grind
   grind
 ·intro y d;refine⟨y,?_,jV⟩;simp only[rV]at d;obtain(d|d)|(d|d):=d
  ·rw[jy6]at d;obtain⟨i,hi,rfl,F⟩:=d;have w:=(jvy N hi).2 F;have z:=wZ hi;generalize (jc t)[i]=n at w z;unfold jc qj3 qvs qvf at z;simp only[rV,rM]at z |-;obtain((⟨s,R,z⟩|⟨k,p,z⟩)|⟨v,C,z⟩)|⟨r,V,z⟩:=z
   ·grind [zjy,fS,jk]
   ·grind [kx7,fK,jk,fM]
   ·grind [zwg,jw,List.mem_map_of_mem,fV,jk]
   ·unfold kyz at z;rw[Qq]at z;subst z;refine .inr ⟨r,V,?_⟩;unfold fR fN;exact jU<|jU (jU<|jk.2 ⟨w,rfl⟩)
  ·rw[zo]at d;have⟨i,hi,d⟩:=d;unfold dR at d;rw[zo]at d;have⟨k,p,d⟩:=d;refine jP<|rM.2 ⟨_,wZ hi,?_⟩;unfold fR fN;simp only[rV];refine .inl<|.inl (.inr ?_);rw[zo];refine⟨k,p,?_⟩;unfold dP at d;unfold fE;rw[rV,jk];rw[rV,Jc,qkp (g:=λy:Tok=>kqd (y.x.toList==_) _),qkp (g:=λq:PP=>kqd (q.y.x.toList==_) _)]at d;grind [jk,pxr,zky,zyz]
  ·rw[zo]at d;have⟨i,hi,d⟩:=d;have u:=hv _<|wZ hi;refine jU<|jP (rM.2 ⟨_,Qx<|wZ hi,?_⟩);unfold uV at d;unfold fV;rw[rV,jk,jk]at d;rw[rV,rV,jk,jk,jk,jw2 u,qk0,(qyd u).1];obtain⟨h1,B⟩|⟨h1,B⟩:=d
   ·exact .inr (.inl ⟨h1,B⟩)
   ·rw[rG,rG]at h1;refine .inr (.inr ⟨?_,by rw[(qyd u).2 h1.1.1];exact B⟩);rw[(qyd u).2 h1.1.1,h1.1.1,QZ];unfold vv5;rw[qk0,h1.1.2,Jh];have I:=h1.2;rw[sD,kwg]at I;have:¬(zl (qm<|ql t) t.z[i].k.x.toList).V=2:=by
     intro e;rw[kz0]at e;obtain⟨D,_⟩|⟨j,F,g1,g2,D⟩:=kz1 (kjl<|ql t) t.z[i].k.x.toList
     ·rw[D]at e;cases e
     ·rw[D]at e;simp only at e;obtain g|g|g|g|g|g:=kw3 _ (wZ F)
      ·omega
      ·have⟨_,k,p,M⟩:=g;exact I k.y.x (Qx (f:=λs:PKind=>s.y.x) p) (by simp_all)
      all_goals omega
    simp_all
  ·rw[zo]at d;have⟨i,hi,d⟩:=d;have u:=G _<|wZ hi;refine jP<|rM.2 ⟨_,wZ hi,?_⟩;unfold uR at d;unfold fR fN;rw[kze u.1,kxo u.2.1];simp only[rV,rM];rw[rV,zo,zo]at d;obtain⟨k,p,d⟩|⟨k,p,d⟩:=d
   ·grind [uP,zo,fE,qk0]
   ·unfold uN at d;rw[jk]at d;have z:=wZ p;obtain⟨E,rfl⟩:=d;generalize (yu (t.l++t.q)[i].guard++uo (t.l++t.q)[i].S)[k]=n at E z;have a0:n∈fU (qm<|ql t) (t.l++t.q)[i].u n:=by
     unfold fU;rw[jk];refine⟨?_,rfl⟩;unfold qxc at E;simp only[QD,Qi,decide_eq_false_iff_not]at E;have⟨⟨h1,B⟩,h3⟩:=E;unfold pjo;rw[(zza _).1 (show _<_ by omega)];have:¬(zl (qm<|ql t) n.x.toList).V=3/\¬(zl (qm<|ql t) n.x.toList).V=4:=by
      rw[kz0];obtain⟨D,_⟩|⟨j,F,g1,g2,D⟩:=kz1 (kjl<|ql t) n.x.toList
      ·rw[D];exact⟨ak,ak⟩
      ·rw[D];simp only;obtain g|g|g|g|g|g:=kw3 _ (wZ F)
       ·omega
       ·omega
       ·have⟨_,k,p,M,_⟩:=g;exact(((jjz t.p n.x.toList).1 aj) k p _ M g1).elim
       ·have⟨_,v,hv,M,_⟩:=g;have Y:v∈t.z.map jw:=hv;obtain⟨v0,X,rfl⟩:=tY.1 Y;refine(((kwg (zf t) n.x.toList).1 aj) v0.y.x (Qx (f:=λs:PVar=>s.y.x) X) ?_).elim;rw[<-g1,M];rfl
       ·omega
       omega
     simp_all
    grind
structure VT where
 b:Int
 y:ByteArray
def vtV(x:VT):Value:=.agg #[i_ x.b,.string x.y]
def zqg:VT:=⟨0,⟨#[]⟩⟩
def kjc(f:Int)(c:Bool):VT:=if c then ⟨f,⟨#[]⟩⟩ else zqg
theorem zkt(w:World)(f:Int)(c:Bool):Calls prog 245 #[i_ f,.bool c] w λe w'=>rT e (vtV<|kjc f c)/\oq w w':=by
 cases c;all_goals
  go_wp2;exact kx0 results245 underlying362 (qy) ⟨rfl,jZ _⟩
def kwx(x y:VT):Bool:=((x.b==y.b&&x.y.toList==y.y.toList)&&!(x.b==0))&&!(x.b==5)
theorem kxw(w:World){o p:Obj}:oq w ((w.alloc o).alloc p):=(jZ w).trans<|(jZ _).mono ay
theorem vjw(w:World)(x y:VT):Calls prog 247 #[vtV x,vtV y] w λe w'=>rT e (.bool<|kwx x y)/\oq w w':=by
 unfold vtV;go_wp2;all_goals
  go_ret;exact⟨um (by simp[kwx,bne, *]),kxw _⟩
def zvq(x y:VT):Bool:=(kwx x y||(x.b==4&&y.b==5))||(x.b==5&&y.b==4)
theorem xzf(w:World)(x y:VT):Calls prog 264 #[vtV x,vtV y] w λe w'=>rT e (.bool<|zvq x y)/\oq w w':=by
 have E:=oz (show zvq x y=((kwx x y||(x.b==4&&y.b==5))||(x.b==5&&y.b==4)) from rfl);have i:=vjw ((w.alloc<|.cells #[i_ x.b,.string x.y] 362).alloc<|.cells #[i_ y.b,.string y.y] 362) x y;unfold vtV at *;generalize zvq x y=fin at *;go_in;go_wp21;refine zM i λm d=>?_;have f:=d.block w.heap.size ah;have g:=d.block (w.heap.size+1) ay;have a0:=kj6<|f.trans (zy<|qy);have b0:=kj6 (g.trans (by have:=qy (w:=w.alloc<|.cells #[i_ x.b,.string x.y] 362) (o:=.cells #[i_ y.b,.string y.y] 362);simp only[tV]at this;exact this));have h:=(kxw w (o:=.cells #[i_ x.b,.string x.y] 362) (p:=.cells #[i_ y.b,.string y.y] 362)).trans<|d.mono ah;generalize kwx x y=s at *;clear f g;cases s<;>cases j:(x.b==4)<;>cases k:(x.b==5)<;>cases l:(y.b==5);all_goals
  go_wp2;go_ret;exact⟨um (by rw[ku E];simp[*]),h⟩
def zji(o:Int)(x y:VT):VT:=
 if (o==6||o==7) then kjc 1 (x.b==1&&y.b==1) else if (o==11||o==12) then kjc 2 (x.b==2&&y.b==2) else if o==10 then kjc 1 (x.b==2&&y.b==2) else kjc 1 (zvq x y)
theorem vy7(o:Int)(x y:VT):Calls prog 246 #[i_ o,vtV x,vtV y] w λe w'=>rT e (vtV<|zji o x y)/\oq w w':=by
 have E:=oz (show zji o x y=if (o==6||o==7) then kjc 1 (x.b==1&&y.b==1) else if (o==11||o==12) then kjc 2 (x.b==2&&y.b==2) else if o==10 then kjc 1 (x.b==2&&y.b==2) else kjc 1 (zvq x y) from rfl);have l:=oz (show(((w.alloc<|.cells #[i_ x.b,.string x.y] 362).alloc<|.cells #[i_ y.b,.string y.y] 362).alloc<|.cells #[i_ 0,e_] 362).heap[w.heap.size+2]?=some (.cells #[i_ 0,e_] 362 (0,0)) by grind [qy,World.size_alloc])
 have j:=show oq w (((w.alloc<|.cells #[i_ x.b,.string x.y] 362).alloc<|.cells #[i_ y.b,.string y.y] 362).alloc<|.cells #[i_ 0,e_] 362) from(kxw w).trans ((jZ _).mono ah)
 have t:=oz (λf c=>zkt (((w.alloc<|.cells #[i_ x.b,.string x.y] 362).alloc<|.cells #[i_ y.b,.string y.y] 362).alloc<|.cells #[i_ 0,e_] 362) f c);have s:=xzf (((w.alloc<|.cells #[i_ x.b,.string x.y] 362).alloc<|.cells #[i_ y.b,.string y.y] 362).alloc<|.cells #[i_ 0,e_] 362) x y;have C:(((w.alloc<|.cells #[i_ x.b,.string x.y] 362).alloc<|.cells #[i_ y.b,.string y.y] 362).alloc<|.cells #[i_ 0,e_] 362).heap.size=w.heap.size+3:=ay;generalize zji o x y=fin at *;unfold vtV at *;go_in;cases D:(o==6);case' false=>
  cases h7:(o==7);case' false=>
   cases A:(o==11);case' false=>
    cases B:(o==12);case' false=>
     cases z:(o==10);case' false=>
      go_wp21;refine zM s λv h=>?_;have m:=oz<|(h.block (w.heap.size+2) ay).trans l;have k:=j.trans<|h.mono aj;have p:=h.size;simp at p;go_wp21
      refine zM (zkt v 1<|zvq x y) λu d=>?_;have g:=(d.block (w.heap.size+2) aj).trans m;have i:=k.trans<|d.mono aj
 all_goals try
  cases F:(x.b==1)<;>cases G:(x.b==2);all_goals go_wp21
  all_goals
   refine zM (t _ _) λu d=>?_;have g:=(d.block (w.heap.size+2) ay).trans l;have i:=j.trans<|d.mono aj
 all_goals
  have q:=kj6 g;try unfold vtV
  go_wp2;exact kx0 results246 underlying362 (set2 g) ⟨by grind [ku],(i.setCell (by omega:w.heap.size<=w.heap.size+2) _).setCell (by omega:w.heap.size<=w.heap.size+2) _⟩
end Go.Proofs.YtpmcnonmkghokaaGreatDoor

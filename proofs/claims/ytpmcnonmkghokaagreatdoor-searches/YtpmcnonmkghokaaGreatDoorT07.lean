import Derived.Test.YtpmcnonmkghokaaGreatDoorT05
import Derived.Test.YtpmcnonmkghokaaGreatDoorT06
import Derived.Test.YtpmcnonmkghokaaGreatDoorT00
import Derived.Test.YtpmcnonmkghokaaGreatDoorT04
import Derived.Test.YtpmcnonmkghokaaGreatDoorT03
import Derived.Test.YtpmcnonmkghokaaGreatDoorT02
set_option maxRecDepth 100000
set_option maxHeartbeats 8000000
set_option linter.unusedVariables false
set_option linter.unusedSimpArgs false
namespace Go.Proofs.YtpmcnonmkghokaaGreatDoor
open Go.Proofs.Tryz Go.RowKit
attribute [local go_sem ↓] Go.wp_at_zero Go.wp_at_succ
attribute [local simp] kzy zjw kjs
variable {e8:Bool}{b9 t:ByteArray}{z z0:Int}{α:Type}{g:Int->α->Int}{br en wr:List ByteArray}{a8:List Int}{vars:List MVar}{bad:List Nat}{l:List PP}{e7:List RIn}{L g7:List Tok}{lit r s:List UInt8}{cs xs:List Value}{items:List α}{v:MVar}{m:MdL}{B M V b c cap e f i j k lo n nb sc size sn tag tc xc xn:Nat}{d6 sa ta xa:Option Addr}{h7:PTree}{x:PX}{st:RS}{one:RS->α×RS}{i6 tab:Tab}{y:Tok}{b8:TypeId}{a bv d ev ps wv x0 x1 x2 x3 x4:Value}{W u w w' w4:World}{nm:α->List Tok}{P:α->Prop}
def zyl(v:MVar)(st:List Int)(i:Nat):Option ByteArray:=(st[i]?).bind λx=>if 0<=x then v.a[x.toNat]? else none
theorem kyb(h:zyl v a8 i=some t):∃n:Nat,a8[i]?=some (n:Int)/\v.a[n]?=some t:=by grind [zyl]
def kk9(n:Nat):List UInt8:=if 0<n then [32] else []
def qvg(v:MVar)(st:List Int):Nat->Option (List UInt8)
 |0=>some []
 |n+1=>(qvg v st n).bind λl=>(zyl v st<|v.f+n).bind λt=>if (l++kk9 n++t.data.toList).length<=1000000 then some (l++kk9 n++t.data.toList) else none
def vq5(v:MVar)(st:List Int):Option (List UInt8):=if v.g==-1 then (zyl v st v.f).bind λt=>if t.size<=1000000 then some t.data.toList else none else (qvg v st v.d).map λl=>91::(l++[93])
theorem qwj(s:ByteArray):Lib.strCells s=Lib.byteCells s.data.toList:=rfl
theorem kkw(a b:List UInt8):Lib.byteCells (a++b)=Lib.byteCells a++Lib.byteCells b:=by simp[Lib.byteCells]
theorem jyl:∀(n k:Nat),k<=n->∀r,qvg v a8 n=some r->∃l,qvg v a8 k=some l/\l.length<=1000000
 |n,k,hk,r,h=>by
  by_cases e:k=n
  ·subst e;refine⟨r,h,?_⟩;cases k with
   |zero=>grind [qvg]
   |succ k=>
    rw[qvg]at h;obtain⟨l,h1,a⟩:=wu.1 h;obtain⟨t,b,c⟩:=wu.1 a;simp_all
  ·cases n with
   |zero=>omega
   |succ n=>
    rw[qvg]at h;obtain⟨l,h1,_⟩:=wu.1 h;exact jyl n k aj l h1
abbrev WrS(X a b i n:Nat)(tv:Value)(f:Nat)(t:ByteArray)(w:World):Prop:=w.cell? ⟨X,0,none⟩=some (.int .i64 f)/\w.cell? ⟨X,2,none⟩=some tv/\w.cell? ⟨a,i,none⟩=some (.int .u8 n)/\w.cell? ⟨b,n,none⟩=some (.string t)
theorem jwt(h:w.ownsRow lo e 1 (.slice xa n c) n xs)(hb:Below B w w')(d:∀q,xa=some q->q.block<B)(i:Nat)(hi:i<n){x:Value}(f:xs[i]?=some x):∃g,xa=some ⟨g,0,none⟩/\g<B/\w'.cell? ⟨g,i,none⟩=some x:=by obtain⟨a',j,e,hv⟩:=qp h;injection e with a _ _;subst a;obtain⟨g,rfl,_,_,b⟩:=hv i hi;have:=d _ rfl;exact⟨g,rfl,this,by rw[hb.cell (p:=⟨g,i,none⟩) this,b i aj];exact f⟩
theorem write_any(hB:Lib.IsBuilder 305 5 B b (Lib.byteCells s) w)(hT:w.ownsRow lo 9 1 (.slice ta v.a.length tc) v.a.length (v.a.map Value.string))(hS:w.ownsRow lo 5 1 (.slice sa sn sc) a8.length (a8.map (Value.int .u8)))(a4:B<=w.heap.size)(aD:∀q,ta=some q->q.block<B)(aB:∀q,sa=some q->q.block<B)(bF:s.length<=10000000)(bC:v.f<=1000000)(bB:v.d<=1000000)(bI:a8.length<=1000000)(bJ:v.a.length<=1000000)(f:vq5 v a8=some r):Calls prog 165 #[.agg #[.int .i64 v.f,.int .i64 v.d,.slice ta v.a.length tc,.int .i64 v.g,.int .i64 v.B],.pointer<|some ⟨b,0,none⟩,.slice sa sn sc] w λe w'=>e=.returned (.tuple #[])/\Lib.IsBuilder 305 5 B b (Lib.byteCells<|s++r) w'/\Below B w w':=by
 obtain⟨za,zc,ez,_⟩:=qp hS;injection ez with aQ aR aS;subst aQ;subst aR;subst aS;obtain⟨bA,b9⟩:=xqk hB;obtain⟨W,P⟩:=cpy<|w.alloc (.cells #[.int .i64 v.f,.int .i64 v.d,.slice ta v.a.length tc,.int .i64 v.g,.int .i64 v.B] 213);have p:oq w W:=by rw[P];exact jZ w
 have bH:w.heap.size<W.heap.size:=by simp_all
 have HX:Hid (W.heap[w.heap.size]?=some (.cells #[.int .i64 v.f,.int .i64 v.d,.slice ta v.a.length tc,.int .i64 v.g,.int .i64 v.B] 213 (0,0))):=by rw[P];exact qy
 have I:=jvs hB p;have a2:=qj hT p;have a1:=qj hS p;have a3:=oz P.symm;have b2:b≠w.heap.size:=aj;unfold vq5 at f;cases ho:(v.g==-1)
 case true=>
  rw[ho,lJ rfl]at f;obtain⟨t,X,f⟩:=wu.1 f;have aC:t.size<=1000000:=by simp_all
  rw[lJ aC]at f;injection f with f;subst f;obtain⟨n,U,V⟩:=kyb X;have R:v.f<a8.length:=by grind
  have T:n<v.a.length:=by grind
  obtain⟨Z,rfl,aW,es⟩:=jwt a1 (Below.refl B W) aB v.f R (x:=.int .u8 n) (by simp_all);obtain⟨m,rfl,aX,M⟩:=jwt a2 (Below.refl B W) aD n T (x:=.string t) (by simp_all);obtain⟨x0,x1,x2,x3,x4,_⟩:=jl HX;have a:=oz (⟨x0,x2,es,M⟩:WrS w.heap.size Z m v.f n (.slice (some ⟨m,0,none⟩) v.a.length tc) v.f t W.drew);have J:=qvb t (w:=W.drew) I kU (by show B<=W.heap.size;omega);clear P U V X es M x0 x1 x2 x4;go_in;go_upto_region 2 with fail
  rw[ku a3];refine bg (S:=WrS w.heap.size Z m v.f n (.slice (some ⟨m,0,none⟩) v.a.length tc) v.f t) (tl:=[10]) au ?_;refine frS 0 ?_;refine frS 1 ?_;refine tkS 2 a ?_;refine frS 3 ?_;refine frS 4 ?_;refine tkS 5 a ?_;refine frS 6 ?_;refine tkS 7 a ?_;refine frS 8 ?_;refine tkS 9 a ?_;refine kyj ?_;refine onA 10 λK O=>?_
  go_simp;go_at_call 220
  refine J.mono ?_;rintro e F ⟨rfl,h1,Q,a9⟩;have HE:=oz (⟨.inr (by grind [kkw,qwj]),(p.mono a4).trans<|show Below B W F from((Below.refl B W).drew).trans Q⟩:Lib.IsBuilder 305 5 B b (Lib.byteCells<|s++t.data.toList) F/\Below B w F);dsimp only;refine O _ _ ?_;clear O K;refine wpAny_done au ?_ _;go_wp2;first
   |(go_end0;exact⟨rfl,HE⟩)
   |(refine tK (results_none rfl _ _ _) rfl ?_;exact⟨rfl,HE⟩)
 case false=>
  rw[ho,Xy ay]at f;obtain⟨Y,(a0:Hid _),rfl⟩:=wX.1 f;have J:=qq9 91 I kU aj;clear P f;go_in;go_wp21;rw[ku a3];refine J.mono ?_;rintro e F ⟨rfl,h1,Q,a9⟩;have L:=oz (a9.e HX (by simp_all) ak);have x0:=jl L;have y:=wQ L;have aJ:=show Lib.IsBuilder 305 5 B b (Lib.byteCells<|s++[91]) F from .inr (by rw[kkw];exact h1)
  have aH:=show Below B W F from Q
  go_wp21;go_loopw [6,25] (λ_ i wr=>∃(k:Nat)(l:List UInt8),k<=v.d/\i=.int .i64 k/\qvg v a8 k=some l/\Lib.IsBuilder 305 5 B b (Lib.byteCells<|(s++[91])++l) wr/\Below B W wr/\wr.heap[w.heap.size]?=some (.cells #[.int .i64 v.f,.int .i64 v.d,.slice ta v.a.length tc,.int .i64 v.g,.int .i64 v.B] 213 (0,0))) (λ_ i _=>v.d-(intOf i).toNat);exact⟨0,[],jR,rfl,rfl,by rw[Qs];exact aJ,aH,L⟩;obtain⟨k,l,hk,rfl,a5,d,hb,E⟩:=hrel;obtain⟨_,y,bG⟩:=jyl v.d k hk Y a0;rw[a5]at y;injection y with y;subst y;have aC:=hb.size;by_cases aU:k<v.d
  ·obtain⟨l2,h,b6⟩:=jyl v.d (k+1) aU Y a0;have aG:=oz h;rw[qvg,a5]at h;change (zyl v a8<|v.f+k).bind _=_ at h
   obtain⟨t,X,j⟩:=wu.1 h;have aT:(l++kk9 k++t.data.toList).length<=1000000:=by simp_all
   rw[lJ aT]at j;injection j with j;obtain⟨n,U,V⟩:=kyb X;have R:v.f+k<a8.length:=by grind
   have T:n<v.a.length:=by grind
   have b7:t.size<=1000000:=by have hd:t.size=t.data.toList.length:=ay;grind
   have b3:(0:Int)<=(v.f:Int)+k:=aj;have b4:(v.f:Int)+k<a8.length:=aj;have b5:((v.f:Int)+k).toNat=v.f+k:=aj;have aZ:IntKind.i64.wrap ((v.f:Int)+k)=(v.f:Int)+k:=kQ;obtain⟨b8,aN,G,aK⟩:=jb d E hb j;have bK:=wQ E;have aM:=oz (λ(wx:World) (q:List UInt8) (hq:q.length<=20000000) (hi:Lib.IsBuilder 305 5 B b (Lib.byteCells q) wx) (hs:B<=wx.heap.size)=>qvb t hi kU hs);by_cases a7:0<k
   case' pos=>
    have u:=oz (qq9 32 d (by rw[Lib.byteCells_length];grind) aj);clear d E hb h j;go_wp21;refine u.mono ?_;rintro e c ⟨rfl,N,g,C⟩;have D:=C.e aN (by simp_all) ak;have z:=oz (show kk9 k=[32] from lJ a7);have aV:=g.size;obtain⟨H,A⟩:=ju (show Lib.IsBuilder 305 5 B b (Lib.byteCells<|(s++[91])++(l++kk9 k)) c from .inr (by rw[ku z,<-sZ,kkw];exact N)) (G.trans g);clear N g C u
   case' neg=>
    obtain⟨c,rfl⟩:=cpy wr;have D:=E;have aV:=wJ c.heap.size;have z:=oz (show kk9 k=[] from Xy a7);obtain⟨H,A⟩:=ju (show Lib.IsBuilder 305 5 B b (Lib.byteCells<|(s++[91])++(l++kk9 k)) c from by rw[ku z,Qs];exact d) hb;clear d E hb h j
   all_goals
    obtain⟨Z,rfl,aW,es⟩:=jwt a1 A aB (v.f+k) R (x:=.int .u8 n) (by simp_all);obtain⟨m,rfl,aX,M⟩:=jwt a2 A aD n T (x:=.string t) (by simp_all);obtain⟨x0,x1,x2,x3,x4,_⟩:=jl D;have a:=oz (⟨x0,x2,es,M⟩:WrS w.heap.size Z m (v.f+k) n (.slice (some ⟨m,0,none⟩) v.a.length tc) v.f t c.drew);have aY:(l++kk9 k).length<=1000000:=by grind
    obtain⟨aL,aP⟩:=ju (aM c.drew ((s++[91])++(l++kk9 k)) (by grind) H (by show B<=c.heap.size;omega)) D;clear es M x0 x1 x2 x3 x4 D U V X;go_upto_region 9 with fail
    refine bg (S:=WrS w.heap.size Z m (v.f+k) n (.slice (some ⟨m,0,none⟩) v.a.length tc) v.f t) (tl:=[12]) au ?_;refine frS 0 ?_;refine frS 1 ?_;refine tkS 2 a ?_;refine frS 3 ?_;refine frS 4 ?_;refine tkS 5 a ?_;refine frS 6 ?_;refine frS 7 ?_;refine frS 8 ?_;refine tkS 9 a ?_;refine frS 10 ?_;refine tkS 11 a ?_;refine kyj ?_;refine onA 12 λK O=>?_
    go_simp;go_at_call 220
    refine aL.mono ?_;rintro e w8 ⟨rfl,h8,a6,aA⟩;obtain⟨aO,aF,aI⟩:=jp (aA.e (aP:c.drew.heap[w.heap.size]?=_) (by simp_all) ak) (show Lib.IsBuilder 305 5 B b (Lib.byteCells<|(s++[91])++l2) w8 from .inr (by rw[<-ku aK,<-sZ,kkw,<-qwj];exact h8)) (A.trans (((Below.refl B c).drew).trans a6:Below B c w8));clear h8 a6 aA;dsimp only;refine O _ _ ?_;clear O K;refine wpAny_done au ?_ _;go_wp2;exact rdM ⟨k+1,l2,aj,eu,aG,aF,aI,aO⟩
  ·have bD:k=v.d:=by omega
   obtain⟨aE,u,G⟩:=jp (by grind [ku]:l=Y) (qq9 93 d (by rw[Lib.byteCells_length];grind) aj) hb;clear d E hb;go_wp21;refine u.mono ?_;rintro e c ⟨rfl,N,g,C⟩;have HE:=oz (show Lib.IsBuilder 305 5 B b (Lib.byteCells (s++91::(Y++[93]))) c/\Below B w c from⟨.inr (by
    have e:s++91::(Y++[93])=((s++[91])++l)++[93]:=by rw[ku aE];simp
    rw[e,kkw];exact N),(p.mono a4).trans<|G.trans g⟩)
   clear N g C u;go_wp2;go_end0;exact⟨rfl,HE⟩
def pkn(v:MVar):Bool:=decide (v.f<=1000000)&&decide (v.d<=1000000)&&decide (v.a.length<=1000000)
def zj7(vars:List MVar)(st:List Int):Nat->Option (List UInt8)
 |0=>some []
 |n+1=>(zj7 vars st n).bind λl=>(vars[n]?).bind λv=>(vq5 v st).bind λt=>if (l++kk9 n++t).length<=1000000/\pkn v=true then some (l++kk9 n++t) else none
theorem qxs(h:zj7 vars a8 (n+1)=some r):∃l v t,zj7 vars a8 n=some l/\vars[n]?=some v/\vq5 v a8=some t/\pkn v=true/\r=l++kk9 n++t/\r.length<=1000000:=by rw[zj7]at h;obtain⟨l,h1,h⟩:=wu.1 h;obtain⟨v,a,h⟩:=wu.1 h;obtain⟨t,b,h⟩:=wu.1 h;simp_all
theorem vkd:∀(n k:Nat),k<=n->∀r,zj7 vars a8 n=some r->∃l,zj7 vars a8 k=some l/\l.length<=1000000
 |n,k,hk,r,h=>by
  by_cases e:k=n
  ·subst e;refine⟨r,h,?_⟩;cases k with
   |zero=>grind [zj7]
   |succ k=>grind [qxs]
  ·cases n with
   |zero=>omega
   |succ n=>
    obtain⟨l,_,_,h1,_⟩:=qxs h;exact vkd n k aj l h1
def zqh(vars:List MVar)(st:List Int):Option (List UInt8):=(zj7 vars st vars.length).bind λl=>if l=[] then none else some l
theorem zw1(h:w.ownsRow lo e size (.slice xa n c) B xs):∀q,xa=some q->q.block<w.heap.size:=by
 intro q d;rcases h.2 with⟨a,_⟩|⟨g,cap,cur,a,_,b,_⟩
 ·simp_all
 grind
theorem pzo{a9:kq3}(h:Mc lo w M nb vars a9)(Z:w.ownsRow lo 5 1 (.slice sa sn sc) a8.length (a8.map (Value.int .u8)))(hv:vars.length<=1000)(aI:a8.length<=1000000)(hr:zqh vars a8=some r):Calls prog 95 #[.pointer (some ⟨M,0,none⟩),.slice sa sn sc] w λe w'=>e=.returned (.string ⟨r.toArray⟩)/\oq w w':=by
 unfold zqh at hr;obtain⟨r',aH,q⟩:=wu.1 hr;have H:r'≠[]:=by grind
 rw[Xy H]at q;injection q with q;subst q;obtain⟨⟨y0,y1,y2,va,vc,z,cs,hM,hV,hI⟩,_⟩:=h;obtain⟨xa,xc,J,u⟩:=qp hV;injection J with J _ e3;subst J;subst e3;obtain⟨m0,m1,m2,m3,m4,m5,_⟩:=kzh hM;have aF:=wQ hM;obtain⟨W,K⟩:∃W,W=w.alloc (.cells #[.pointer none,.slice none 0 0] 305):=⟨_,rfl⟩;have D:oq w W:=by rw[K];exact jZ w
 have aV:w.heap.size<W.heap.size:=by simp_all
 obtain⟨b,C⟩:∃b,b=w.heap.size:=⟨_,rfl⟩;obtain⟨a0,aQ,a7,HI,HS,HR,a4,a2⟩:=qJ (show Lib.IsBuilder 305 5 w.heap.size b (Lib.byteCells []) W by rw[K,C];exact Lib.fresh_isBuilder _ _ w) ((D.cell (p:=⟨M,3,none⟩) aF).trans m3) u hI Z aH H D;obtain⟨aA,a1,a6⟩:=jp K.symm C (zw1 Z);clear hr hV u hI Z D K H hM m0 m1 m2 m4 m5 C;go_enter func95,ntmps95
 go_wp2_with fail
 rw[ku aA,<-ku a1];go_loopw [6,7,13] (λ_ _ i wr=>∃(k:Nat)(l:List UInt8),k<=vars.length/\i=.int .i64 k/\zj7 vars a8 k=some l/\Lib.IsBuilder 305 5 w.heap.size b (Lib.byteCells l) wr/\oq w wr) (λ_ _ i _=>vars.length-(intOf i).toNat)
 case atStart=>exact⟨0,[],jR,rfl,rfl,a0,a2⟩
 case round=>
  obtain⟨k,l,hk,rfl,Y,c,hb⟩:=hrel;obtain⟨_,m,aU⟩:=vkd vars.length k hk r' HR;rw[Y]at m;injection m with m;subst m;have aJ:=hb.size;obtain⟨aR,_⟩:=xqk c;by_cases G:k<vars.length
  ·obtain⟨l2,F,aM⟩:=vkd vars.length (k+1) G r' HR;have aP:=oz F;obtain⟨l',v,t,L,q2,q3,q4,q5,q6⟩:=qxs F;rw[Y]at L;injection L with L;subst L;obtain⟨ta,tc,⟨f0,f1,f2,f3,f4⟩,s⟩:=pqc k G HI;rw[show vars[k]=v by simp_all]at f0 f1 f2 f3 f4 s;obtain⟨g,rfl,aS,d,y⟩:=ku a7 k G;have e0:=(hb.cell (p:=⟨g,k*5,none⟩) d).trans<|(y (k*5) aj).trans f0;have J:=(hb.cell (p:=⟨g,k*5+1,none⟩) d).trans<|(y (k*5+1) aj).trans f1;have e2:=(hb.cell (p:=⟨g,k*5+2,none⟩) d).trans<|(y (k*5+2) aj).trans f2;have e3:=(hb.cell (p:=⟨g,k*5+3,none⟩) d).trans<|(y (k*5+3) aj).trans f3;have e4:=(hb.cell (p:=⟨g,k*5+4,none⟩) d).trans<|(y (k*5+4) aj).trans f4;have X:=zw1 s;have aG:v.f<=1000000/\v.d<=1000000/\v.a.length<=1000000:=by grind [pkn]
   obtain⟨aC,aD,aE⟩:=aG;have aK:(l++kk9 k).length<=1000000:=by grind
   obtain⟨Q,N⟩:=ju (λ(wx:World) (E:oq w wx) (hi:Lib.IsBuilder 305 5 w.heap.size b (Lib.byteCells<|l++kk9 k) wx)=>write_any hi (qj s E) (qj HS E) E.size X a6 aj aC aD aI aE q3) (jZ wr (o:=.cells (kvo v ta tc) 213));have a:=jvs c N;have x:=qy (w:=wr) (o:=.cells (kvo v ta tc) 213);unfold kvo at a x N;have A:=oz<|hb.alloc aJ (.cells (kvo v ta tc) 213);unfold kvo at A;have a5:=oz q5;clear y c hb f0 f1 f2 f3 f4 s X q2 q3 q4 q5 q6 F;by_cases U:0<k
   case' pos=>
    obtain⟨P,aB⟩:=ju (qq9 32 a kU<|by grind) x;clear a x;go_wp2_with fail
    refine P.mono ?_;rintro e wc ⟨rfl,h5,S,V⟩;have I:=V.e aB (by grind) ak;obtain⟨f,j⟩:=ju (show Lib.IsBuilder 305 5 w.heap.size b (Lib.byteCells<|l++kk9 k) wc from Or.inr (by rw[show kk9 k=[32] from lJ U,kkw];exact h5)) (A.trans S);have aT:=wQ I;obtain⟨x0,x1,x2,x3,x4,_⟩:=jl I;have B:=oz<|Q wc j f;clear h5 S V P I;go_wp2_with fail
    refine B.mono ?_
   case' neg=>
    have f:=oz (show Lib.IsBuilder 305 5 w.heap.size b (Lib.byteCells<|l++kk9 k) _ from by rw[show kk9 k=[] from Xy U,Qs];exact a);have j:=A;have B:=oz<|Q _ j f;clear a x;go_wp2_with fail
    refine B.mono ?_
   all_goals
    rintro e w8 ⟨rfl,h8,T⟩;obtain⟨aL,aO⟩:=ju (show Lib.IsBuilder 305 5 w.heap.size b (Lib.byteCells l2) w8 from by rw[ku a5];exact h8) (j.trans T);clear h8 T;go_wp2;grind [ku,intOf]
  ·have:k=vars.length:=by omega
   obtain⟨a3,HB⟩:=ju (show l=r' by simp_all) hb;have O:=oz (jxy c (by rw[ku a3];exact a4));clear c hb;go_wp2_with fail
   refine O.mono ?_;rintro e w2 ⟨rfl,R⟩;have aN:=oz<|HB.trans R;clear R O;go_wp2
   go_ret;simp_all [ku]
theorem jwf(a:b8∈bad):∀(ys:List Value)(k:Nat){w:World}{cs:Array Value},w.heap[b]?=some (.cells cs b8 (0,0))->Tk none bad w (puts b ys k w)
 |[],_,_,_,_=>Tk.refl _ _ _
 |y::ys,k,_,_,h=>(qqa h a k y).trans<|jwf a ys (k+1) (jL b k _ _ _ h)
theorem pq5(h:w.heap[b]?=some (.cells #[x0,x1,x2,x3,x4] b8 (0,0)))(a:b8∈bad)(y0 y1 y2 y3 y4:Value):Tk none bad w (((((w.setCell ⟨b,0,none⟩ y0).setCell ⟨b,1,none⟩ y1).setCell ⟨b,2,none⟩ y2).setCell ⟨b,3,none⟩ y3).setCell ⟨b,4,none⟩ y4):=jwf a [y0,y1,y2,y3,y4] 0 h
def Apart(a b:Value):Prop:=∀k,a.ownBlock=some k->b.ownBlock≠some k
theorem kzm(h:Apart a ev):Apart ev a:=λk b e=>h k e b
theorem qqs(h:Apart a ev):ev.ownBlock=none\/ev.ownBlock≠a.ownBlock:=by
 cases hb:ev.ownBlock with
 |none=>simp
 |some k=>exact .inr λe=>h k e.symm hb
theorem kwp(h:Apart a ev)(f:wv.ownBlock=a.ownBlock\/wv.ownBlock=some (w.heap.size+1))(i:w.ownsRow B e size ev n xs):Apart wv ev:=λk d b=>by
 rcases f with h1|h1
 ·exact h k (by simp_all) b
 ·rw[h1]at d;injection d with d;rcases i.2 with⟨c,_⟩|⟨g,cap,cur,c,_,j,_⟩
  ·rw[c]at b;cases b
  ·rw[c]at b;injection b with b;grind
def xx5(B:Nat)(w:World)(V:Nat)(t:ByteArray)(en wr br:List ByteArray)(ev wv bv:Value):Prop:=
 w.heap[V]?=some (.cells #[.string t,ev,wv,bv,.bool false] 24 (0,0))/\w.ownsRow B 9 1 ev en.length (en.map Value.string)/\w.ownsRow B 9 1 wv wr.length (wr.map Value.string)/\w.ownsRow B 9 1 bv br.length (br.map Value.string)/\Apart ev wv/\Apart ev bv/\Apart wv bv
theorem xx5.below(h:xx5 B w V t en wr br ev wv bv)(hb:oq w w'):xx5 B w' V t en wr br ev wv bv:=by obtain⟨a,h1,b,c,p⟩:=h;exact⟨(hb.block V<|wQ a).trans a,qj h1 hb,qj b hb,qj c hb,p⟩
def lkO(vars:List MVar)(tab:kq3)(st:List Int):List MStep->List ByteArray->List ByteArray->Option (List ByteArray×List ByteArray)
 |[],en,wr=>some (en,wr)
 |s::l,en,wr=>(kwi vars tab s.u s.xy st s.guard s.block).bind λr=>if r.2==1 then lkO vars tab st l (en++[s.x]) wr else if r.2==2 then lkO vars tab st l en (wr++[s.x]) else lkO vars tab st l en wr
def lbO(vars:List MVar)(tab:kq3)(st:List Int):List MNever->List ByteArray->Option (List ByteArray)
 |[],br=>some br
 |s::l,br=>(zwo vars tab s.u s.xy st s.xp).bind λc=>if c then lbO vars tab st l (br++[s.x]) else lbO vars tab st l br
theorem jjg(vars:List MVar)(tab:kq3)(st:List Int):∀(l:List MStep)(en wr:List ByteArray)(r:List ByteArray×List ByteArray),lkO vars tab st l en wr=some r->en.length<=r.1.length/\wr.length<=r.2.length/\r.1.length+r.2.length<=en.length+wr.length+l.length
 |[],en,wr,r,h=>by grind [lkO]
 |s::l,en,wr,r,h=>by
  rw[lkO]at h;obtain⟨q,_,h⟩:=wu.1 h;split at h
  ·have:=jjg vars tab st l _ _ r h;grind
  ·split at h
   ·have:=jjg vars tab st l _ _ r h;grind
   ·have:=jjg vars tab st l _ _ r h;grind
theorem jyk(vars:List MVar)(tab:kq3)(st:List Int):∀(l:List MNever)(br r:List ByteArray),lbO vars tab st l br=some r->br.length<=r.length/\r.length<=br.length+l.length
 |[],br,r,h=>by grind [lbO]
 |s::l,br,r,h=>by
  rw[lbO]at h;obtain⟨q,_,h⟩:=wu.1 h;split at h
  ·have:=jyk vars tab st l _ r h;grind
  ·have:=jyk vars tab st l _ r h;grind
structure MView where
 x:ByteArray
 xn:List ByteArray
 xz:List ByteArray
 xs:List ByteArray
def lookO(a:Mach)(st:List Int):Option MView:=(zqh a.z st).bind λt=>(lkO a.z a.C st a.X [] []).bind λp=>(lbO a.z a.C st a.q []).map λb=>⟨⟨t.toArray⟩,p.1,p.2,b⟩
def kx2(v:MView):Bool:=(v.xn.length==0)&&(v.xz.length==0)
def qw7:List Nat:=[24,9,188,149]
structure Vc (w:World)(V:Nat)(t:ByteArray)(en wr br:List ByteArray)(ev wv bv:Value)(u:World):Prop where
 vw:xx5 w.heap.size u V t en wr br ev wv bv
 be:oq w u
 rr:u.heap[w.heap.size]?=some (.cells #[.string ⟨#[]⟩,.slice none 0 0,.slice none 0 0,.slice none 0 0,.bool false] 24 (0,0))
 gt:w.heap.size<V
theorem Vc.new(a:u.heap[V]?=some (.cells #[.string t,.slice none 0 0,.slice none 0 0,.slice none 0 0,.bool false] 24 (0,0)))(be:oq w u)(rr:u.heap[w.heap.size]?=some (.cells #[.string ⟨#[]⟩,.slice none 0 0,.slice none 0 0,.slice none 0 0,.bool false] 24 (0,0)))(gt:w.heap.size<V):Vc w V t [] [] [] (.slice none 0 0) (.slice none 0 0) (.slice none 0 0) u:=
 have n:Apart (.slice none 0 0) (.slice none 0 0):=λk b=>by cases b
 ⟨⟨a,oN,oN,oN,n,n,n⟩,be,rr,gt⟩
theorem Vc.below(h:Vc w V t en wr br ev wv bv u)(hb:oq u w4):Vc w V t en wr br ev wv bv w4:=
 ⟨h.vw.below hb,h.be.trans<|hb.mono h.be.size,(hb.block _<|wQ h.rr).trans h.rr,h.gt⟩
theorem Vc.app(h:Vc w V t en wr br ev wv bv u)(d:u.ownsRow w.heap.size 9 1 a n xs)(c:(u.alloc (.cells #[.string b9] 9)).grownBy w4 a.ownBlock)(i:Nat)(y:Value):w4.heap[V]?=some (.cells #[.string t,ev,wv,bv,.bool false] 24 (0,0))/\oq w (w4.setCell ⟨V,i,none⟩ y)/\(w4.setCell ⟨V,i,none⟩ y).heap[w.heap.size]?=some (.cells #[.string ⟨#[]⟩,.slice none 0 0,.slice none 0 0,.slice none 0 0,.bool false] 24 (0,0))/\Tk none qw7 u (w4.setCell ⟨V,i,none⟩ y)/\Tk none [24] w4 (w4.setCell ⟨V,i,none⟩ y):=by
 have k4:∀{bad},9∈bad->Tk none bad u w4:=λh=>(yt (jZ u) none _).trans<|kz4 (d.alloc _) c h
 have k:=k4<|Qq.2 rfl;have b:=k.e h.vw.1 ay ak;have e:=h.be.size;have f:=h.gt;exact⟨b,((h.be.alloc e _).grown c ah<|jo d).setCell ah y,(hsC ah).trans<|k.e h.rr ay ak,(k4 ak).trans<|qqa b ak i y,qqa b ak i y⟩
theorem Vc.app1(h:Vc w V t en wr br ev wv bv u)(d:(u.alloc (.cells #[.string b9] 9)).grownBy w4 ev.ownBlock)(j:w4.ownsRow w.heap.size 9 1 (.slice xa xn xc) (en.length+1) (en.map Value.string++[.string b9]))(a:(Value.slice xa xn xc).ownBlock=ev.ownBlock\/(Value.slice xa xn xc).ownBlock=some (u.heap.size+1)):w4.heap[V]?=some (.cells #[.string t,ev,wv,bv,.bool false] 24 (0,0))/\Vc w V t (en++[b9]) wr br (.slice xa xn xc) wv bv (w4.setCell ⟨V,1,none⟩<|.slice xa xn xc)/\Tk none qw7 u (w4.setCell ⟨V,1,none⟩<|.slice xa xn xc):=by obtain⟨p,h1,e,f,b,c,g⟩:=h.vw;obtain⟨i,k,l,m,k5⟩:=h.app h1 d 1<|.slice xa xn xc;exact⟨i,⟨⟨jL V 1 _ _ _ i,by grind [jq,pz.none],jq ((e.alloc _).kept d<|qqs b) k5 (pz.none _) ak,jq ((f.alloc _).kept d<|qqs c) k5 (pz.none _) ak,kwp b a e,kwp c a f,g⟩,k,l,h.gt⟩,m⟩
theorem Vc.xy0(h:Vc w V t en wr br ev wv bv u)(d:(u.alloc (.cells #[.string b9] 9)).grownBy w4 wv.ownBlock)(j:w4.ownsRow w.heap.size 9 1 (.slice xa xn xc) (wr.length+1) (wr.map Value.string++[.string b9]))(a:(Value.slice xa xn xc).ownBlock=wv.ownBlock\/(Value.slice xa xn xc).ownBlock=some (u.heap.size+1)):w4.heap[V]?=some (.cells #[.string t,ev,wv,bv,.bool false] 24 (0,0))/\Vc w V t en (wr++[b9]) br ev (.slice xa xn xc) bv (w4.setCell ⟨V,2,none⟩<|.slice xa xn xc)/\Tk none qw7 u (w4.setCell ⟨V,2,none⟩<|.slice xa xn xc):=by obtain⟨p,h1,i,e,b,f,c⟩:=h.vw;obtain⟨g,k,l,m,k5⟩:=h.app i d 2<|.slice xa xn xc;exact⟨g,⟨⟨jL V 2 _ _ _ g,jq ((h1.alloc _).kept d<|qqs (kzm b)) k5 (pz.none _) ak,by grind [jq,pz.none],jq ((e.alloc _).kept d<|qqs c) k5 (pz.none _) ak,kzm<|kwp (kzm b) a h1,f,kwp c a e⟩,k,l,h.gt⟩,m⟩
theorem Vc.xwi(h:Vc w V t en wr br ev wv bv u)(d:(u.alloc (.cells #[.string b9] 9)).grownBy w4 bv.ownBlock)(j:w4.ownsRow w.heap.size 9 1 (.slice xa xn xc) (br.length+1) (br.map Value.string++[.string b9]))(a:(Value.slice xa xn xc).ownBlock=bv.ownBlock\/(Value.slice xa xn xc).ownBlock=some (u.heap.size+1)):w4.heap[V]?=some (.cells #[.string t,ev,wv,bv,.bool false] 24 (0,0))/\Vc w V t en wr (br++[b9]) ev wv (.slice xa xn xc) (w4.setCell ⟨V,3,none⟩<|.slice xa xn xc)/\Tk none qw7 u (w4.setCell ⟨V,3,none⟩<|.slice xa xn xc):=by obtain⟨p,h1,e,i,f,b,c⟩:=h.vw;obtain⟨g,k,l,m,k5⟩:=h.app i d 3<|.slice xa xn xc;exact⟨g,⟨⟨jL V 3 _ _ _ g,jq ((h1.alloc _).kept d<|qqs (kzm b)) k5 (pz.none _) ak,jq ((e.alloc _).kept d<|qqs (kzm c)) k5 (pz.none _) ak,by grind [jq,pz.none],f,kzm<|kwp (kzm b) a h1,kzm<|kwp (kzm c) a e⟩,k,l,h.gt⟩,m⟩
def xqs(B:Nat)(w:World)(v:MView)(x:Value)(w':World):Prop:=
 ∃ea en ec wa wn wc ba bn bc,x=.agg #[.string v.x,.slice ea en ec,.slice wa wn wc,.slice ba bn bc,.bool (kx2 v)]/\w'.ownsRow B 9 1 (.slice ea en ec) v.xn.length (v.xn.map Value.string)/\w'.ownsRow B 9 1 (.slice wa wn wc) v.xz.length (v.xz.map Value.string)/\w'.ownsRow B 9 1 (.slice ba bn bc) v.xs.length (v.xs.map Value.string)
def jzs(w:World)(v:MView)(e:Ending)(w':World):Prop:=∃x,e=.returned x/\xqs w.heap.size w v x w'/\oq w w'
theorem Vc.fin(h:Vc w V t en wr br (.slice ta lo B) (.slice d6 b i) (.slice xa e xc) u)(d:Bool)(m:kx2 ⟨t,en,wr,br⟩=d):(puts w.heap.size [.string t,.slice ta lo B,.slice d6 b i,.slice xa e xc,.bool d] 0<|u.setCell ⟨V,4,none⟩ (.bool d)).heap[w.heap.size]?=some (.cells #[.string t,.slice ta lo B,.slice d6 b i,.slice xa e xc,.bool d] 24 (0,0)) /\
  jzs w ⟨t,en,wr,br⟩ (.returned<|.agg #[.string t,.slice ta lo B,.slice d6 b i,.slice xa e xc,.bool d]) (puts w.heap.size [.string t,.slice ta lo B,.slice d6 b i,.slice xa e xc,.bool d] 0<|u.setCell ⟨V,4,none⟩ (.bool d)):=by obtain⟨g,h1,j,l,_⟩:=h.vw;have p:=h.gt;have f:=(hsC (w:=u) (a:=⟨V,4,none⟩) (v:=.bool d) (k:=w.heap.size) ah).trans h.rr;have K:=(qqa g (x:=none) (bad:=[24]) ak 4<|.bool d).trans<|jwf ak [.string t,.slice ta lo B,.slice d6 b i,.slice xa e xc,.bool d] 0 f;have c:=pz.none u;exact⟨zju (k:=0) f,_,rfl,⟨ta,lo,B,d6,b,i,xa,e,xc,by rw[m],jq h1 K c ak,jq j K c ak,jq l K c ak⟩,qzp jH _ 0<|h.be.setCell ah _⟩
def pjh(s:MNever):Prop:=s.u.length<=1000/\∀y∈bf s.xp,y.x.size<=1000
theorem xzt(h:(cs.drop (k*5)).take 5=[a,ev,wv,d,bv]):cs[k*5]?=some a/\cs[k*5+1]?=some ev/\cs[k*5+2]?=some wv/\cs[k*5+3]?=some d/\cs[k*5+4]?=some bv:=by
 have g:∀j,j<5->cs[k*5+j]?=([a,ev,wv,d,bv]:List Value)[j]?:=λj b=>by grind
 exact⟨g 0 aj,g 1 aj,g 2 aj,g 3 aj,g 4 aj⟩
theorem py6{d7:Mach}(h:Mc lo w M nb d7.z d7.C)(hS:w.ownsRow lo 5 1 (.slice sa sn sc) a8.length (a8.map (Value.int .u8)))(b6:w.cell? ⟨M,0,none⟩=some (.slice ta d7.X.length tc))(hT:w.ownsRow lo 178 6 (.slice ta d7.X.length tc) d7.X.length cs)(hI:qqx lo B w M d7.X cs)(aU:∀s∈d7.X,jye s)(b7:w.cell? ⟨M,1,none⟩=some (.slice d6 d7.q.length b))(hN:w.ownsRow lo 208 5 (.slice d6 d7.q.length b) d7.q.length xs)(aP:qxn lo B w M d7.q xs)(aS:∀s∈d7.q,pjh s)(hv:d7.z.length<=1000)(aV:a8.length<=1000000)(bQ:d7.X.length<=1000000)(bS:d7.q.length<=1000000)(bG:lo<=w.heap.size){d8:MView}(C:lookO d7 a8=some d8):Calls prog 56 #[.pointer (some ⟨M,0,none⟩),.slice sa sn sc] w λe w'=>jzs w d8 e w':=by
 unfold lookO at C;obtain⟨tx,aW,C⟩:=wu.1 C;obtain⟨⟨EN,WR⟩,aB,C⟩:=wu.1 C;obtain⟨BR,aA,rfl⟩:=wX.1 C;have aY:=jjg _ _ _ _ _ _ _ aB;have aD:=jyk _ _ _ _ _ _ aA;simp only[Zw]at aY aD;obtain⟨xa,cap,G,HW⟩:=qp hT;injection G with G _ e3;subst G;subst e3;obtain⟨xa,cap,G,P⟩:=qp hN;injection G with G _ e3;subst G;subst e3;have aO:M<w.heap.size:=by obtain⟨⟨_,_,_,_,_,_,_,hb,_⟩,_⟩:=h;grind
 obtain⟨W,hW⟩:∃W,W=w.alloc (.cells #[.string ⟨#[]⟩,.slice none 0 0,.slice none 0 0,.slice none 0 0,.bool false] 24):=⟨_,rfl⟩;have U:oq w W:=jM;have bK:w.heap.size<W.heap.size:=by simp_all
 have hR:W.heap[w.heap.size]?=some (.cells #[.string ⟨#[]⟩,.slice none 0 0,.slice none 0 0,.slice none 0 0,.bool false] 24 (0,0)):=kK;have aM:=oz<|pzo (h.below U) (qj hS U) hv aV aW;have aG:=oz (λ(wx:World) (hb:oq w wx) (s:MStep) (N:jye s) pa pn pc ma mn mc p ba bn bc bs no (h1:w.ownsRow lo 352 4 (.slice pa pn pc) s.u.length (uq s.u)) (F:w.ownsRow lo 3 1 (.slice ma mn mc) s.xy.length (s.xy.map<|Value.int .i64)) (H:XIs B w s.guard (.pointer p)) (h4:w.ownsRow B 334 9 (.slice ba bn bc) (kqq s.block) bs) (h5:BIs B no w s.block bs) (d8:List Int×Int) (C:kwi d7.z d7.C s.u s.xy a8 s.guard s.block=some d8)=>
  jks no s.x ba bn bc bs (h.below hb) (qj h1 hb) (qj F hb) (qj hS hb) hv N.1 aV (H.below hb) N.2.1 ⟨qj h4 hb,h5.stay (λk _ hk=>hb.block k hk),N.2.2.1,N.2.2.2.1,N.2.2.2.2⟩ (rP bG hb.size) C)
 have aF:=oz (λ(wx:World) (hb:oq w wx) (s:MNever) (N:pjh s) pa pn pc ma mn mc p (h1:w.ownsRow lo 352 4 (.slice pa pn pc) s.u.length (uq s.u)) (F:w.ownsRow lo 3 1 (.slice ma mn mc) s.xy.length (s.xy.map<|Value.int .i64)) (H:XIs B w s.xp (.pointer p)) (d8:Bool) (C:zwo d7.z d7.C s.u s.xy a8 s.xp=some d8)=>
  vzv s.x (h.below hb) (qj h1 hb) (qj F hb) (qj hS hb) hv N.1 (H.below hb) N.2 C)
 obtain⟨aN,HI,aJ,aL,aK,aI,aH,HR⟩:=qJ P hI aP aU aS aB aA hR;obtain⟨Y,b4⟩:=ju U hW.symm;clear C P hT hN hI aP aU aS h hS aB aA aW hR U hW;generalize (⟨tx.toArray⟩:ByteArray)=tt at *;go_enter func56,ntmps56
 go_wp21;rw[b4];refine aM.mono ?_;rintro e w1 ⟨rfl,K⟩;have bT:=K.size;obtain⟨w2,Q⟩:∃w2,w2=w1.alloc (.cells #[.string tt,.slice none 0 0,.slice none 0 0,.slice none 0 0,.bool false] 24):=⟨_,rfl⟩;obtain⟨V,hV⟩:∃V,V=w1.heap.size:=⟨_,rfl⟩;have aR:w2.heap[V]?=some (.cells #[.string tt,.slice none 0 0,.slice none 0 0,.slice none 0 0,.bool false] 24 (0,0)):=by rw[Q,hV];exact qy
 have aE:oq w w2:=by rw[Q];exact(Y.trans<|K.mono aj).alloc aj _
 have aQ:w2.heap[w.heap.size]?=some (.cells #[.string ⟨#[]⟩,.slice none 0 0,.slice none 0 0,.slice none 0 0,.bool false] 24 (0,0)):=by rw[Q];exact zy<|(K.block w.heap.size bK).trans HR
 have b9:w.heap.size<V:=aj;have HC:=Vc.new aR aE aQ b9;have m0:=((Y.trans<|K.mono aj).cell (p:=⟨M,0,none⟩) aO).trans b6;have bN:M<w1.heap.size:=aj;obtain⟨aX,b3⟩:=ju Q.symm hV;clear K aQ aR Q aM HR hV;go_wp21;rw[aX,<-b3];go_loopw [7,8,9,21] (λ_ _ _ i wr=>∃(k:Nat)(en m:List ByteArray)(ea:Option Addr)(el ec:Nat)(wa:Option Addr)(wl wc:Nat),k<=d7.X.length/\i=.int .i64 k/\lkO d7.z d7.C a8 (d7.X.drop k) en m=some (EN,WR)/\Vc w V tt en m [] (.slice ea el ec) (.slice wa wl wc) (.slice none 0 0) wr) (λ_ _ _ i _=>d7.X.length-(intOf i).toNat);exact⟨0,[],[],none,0,0,none,0,0,jR,rfl,aI,HC⟩;obtain⟨k,en,m,ea,el,ec,wa,wl,wc,hk,rfl,a,S⟩:=hrel;have hb:=S.be;have aC:=hb.size;have b8:=wQ S.vw.1;have bF:=jjg _ _ _ _ _ _ _ a;by_cases A:k<d7.X.length
 ·obtain⟨g,rfl,bB,a9,hc⟩:=HW k A;obtain⟨bA,O⟩:=HI;obtain⟨pa,pn,pc,ma,mn,mc,p,ba,bn,bc,bs,no,e,h1,F,H,h4,h5⟩:=O k A;obtain⟨s0,s1,s2,s3,s4,s5⟩:=pvm e;have cc:∀j,j<d7.X.length*6->wr.cell? ⟨g,j,none⟩=cs[j]?:=λj hj=>(hb.cell (p:=⟨g,j,none⟩) a9).trans (hc j hj)
  have e0:=(cc (k*6) aj).trans s0;have G:=(cc (k*6+1) aj).trans s1;have e2:=(cc (k*6+2) aj).trans s2;have e3:=(cc (k*6+3) aj).trans s3;have e4:=(cc (k*6+4) aj).trans s4;have e5:=(cc (k*6+5) aj).trans s5;rw[rU A,lkO]at a;obtain⟨q,hq,a⟩:=wu.1 a;have D:=aL d7.X[k] (wZ _);obtain⟨wb,y⟩:∃wb,wb=wr.alloc (.cells #[.string d7.X[k].x,.pointer (some ⟨M,0,none⟩),.slice pa pn pc,.slice ma mn mc,.pointer p,.slice ba bn bc] 178):=⟨_,rfl⟩;have x:oq wr wb:=by rw[y];exact jZ _
  have R:wb.heap[wr.heap.size]?=some (.cells #[.string d7.X[k].x,.pointer<|some ⟨M,0,none⟩,.slice pa pn pc,.slice ma mn mc,.pointer p,.slice ba bn bc] 178 (0,0)):=by rw[y];exact qy
  have L:=hb.trans<|x.mono aC;obtain⟨Z,a0,J,X⟩:=jb (aG wb L d7.X[k] D pa pn pc ma mn mc p ba bn bc bs no h1 F H h4 h5 q hq) y.symm R x;have bL:=x.size;generalize d7.X[k]=s at *;clear cc hc O e h1 F H h4 h5 s0 s1 s2 s3 s4 s5 D hb hq y R x L;go_wp21
  rw[a0];refine Z.mono ?_;rintro e w5 ⟨v5,rfl,aT,v⟩;have bJ:=v.size;obtain⟨a5,l5,c5,rfl⟩:=qh aT;have E:=(v.block wr.heap.size<|wQ J).trans J;obtain⟨x0,x1,x2,x3,x4,x5,_⟩:=kzh E;have bM:=wQ E;have f:=(S.below X).below v;have v0:=jl f.vw.1;have b2:=f.vw.2.1;have b5:=f.vw.2.2.1;clear aT v E Z;cases h1:(q.2==1)
  ·cases F:(q.2==2)
   ·have u:=oz (show lkO d7.z d7.C a8 (d7.X.drop<|k+1) en m=some (EN,WR) from by simp_all);go_wp2;exact rdM ⟨k+1,en,m,ea,el,ec,wa,wl,wc,aj,eu,u,f⟩
   ·have u:=oz (show lkO d7.z d7.C a8 (d7.X.drop<|k+1) en (m++[s.x])=some (EN,WR) from by simp_all);go_wp2_with (at_builtin;refine apO (b5.alloc _) ?_)
    intro v6 w6 c d _ l;obtain⟨a6,l6,c6,rfl⟩:=qh c;obtain⟨z,I,_⟩:=f.xy0 d c l;have u0:=jl z;clear c d l z;go_wp2;exact rdM ⟨k+1,en,m++[s.x],ea,el,ec,a6,l6,c6,aj,eu,u,I⟩
  ·have u:=oz (show lkO d7.z d7.C a8 (d7.X.drop<|k+1) (en++[s.x]) m=some (EN,WR) from by simp_all);go_wp2_with (at_builtin;refine apO (b2.alloc _) ?_)
   intro v6 w6 c d _ l;obtain⟨a6,l6,c6,rfl⟩:=qh c;obtain⟨z,I,_⟩:=f.app1 d c l;have u0:=jl z;clear c d l z;go_wp2;exact rdM ⟨k+1,en++[s.x],m,a6,l6,c6,wa,wl,wc,aj,eu,u,I⟩
 ·have:k=d7.X.length:=by omega
  subst this;rw[sK,lkO]at a;injection a with a;injection a with bH bI;subst bH;subst bI;have m1:=(hb.cell (p:=⟨M,1,none⟩) aO).trans b7;clear hb m0;go_wp21
  go_loopw [11,58] (λ_ i wr=>∃(k:Nat)(bn:List ByteArray)(xa:Option Addr)(xl xc:Nat),k<=d7.q.length/\i=.int .i64 k/\lbO d7.z d7.C a8 (d7.q.drop k) bn=some BR/\Vc w V tt en m bn (.slice ea el ec) (.slice wa wl wc) (.slice xa xl xc) wr) (λ_ i _=>d7.q.length-(intOf i).toNat);exact⟨0,[],none,0,0,jR,rfl,aH,S⟩;obtain⟨k,bl,xa,xl,xc,hk,rfl,a,t⟩:=hrel;have hb:=t.be;have aC:=hb.size;have b8:=wQ t.vw.1;have bF:=jyk _ _ _ _ _ _ a;by_cases A:k<d7.q.length
  ·obtain⟨g,rfl,bB,a9,hc⟩:=aN k A;obtain⟨bA,O⟩:=aJ;obtain⟨pa,pn,pc,ma,mn,mc,p,e,h1,F,H⟩:=O k A;obtain⟨s0,s1,s2,s3,s4⟩:=xzt e;have cc:∀j,j<d7.q.length*5->wr.cell? ⟨g,j,none⟩=xs[j]?:=λj hj=>(hb.cell (p:=⟨g,j,none⟩) a9).trans (hc j hj)
   have e0:=(cc (k*5) aj).trans s0;have G:=(cc (k*5+1) aj).trans s1;have e2:=(cc (k*5+2) aj).trans s2;have e3:=(cc (k*5+3) aj).trans s3;have e4:=(cc (k*5+4) aj).trans s4;rw[rU A,lbO]at a;obtain⟨q,hq,a⟩:=wu.1 a;have D:=aK d7.q[k] (wZ _);obtain⟨wb,y⟩:∃wb,wb=wr.alloc (.cells #[.string d7.q[k].x,.pointer (some ⟨M,0,none⟩),.slice pa pn pc,.slice ma mn mc,.pointer p] 208):=⟨_,rfl⟩;have x:oq wr wb:=by rw[y];exact jZ _
   have R:wb.heap[wr.heap.size]?=some (.cells #[.string d7.q[k].x,.pointer<|some ⟨M,0,none⟩,.slice pa pn pc,.slice ma mn mc,.pointer p] 208 (0,0)):=by rw[y];exact qy
   have L:=hb.trans<|x.mono aC;obtain⟨Z,a0,J,X⟩:=jb (aF wb L d7.q[k] D pa pn pc ma mn mc p h1 F H q hq) y.symm R x;have bL:=x.size;generalize d7.q[k]=s at *;clear cc hc O e h1 F H s0 s1 s2 s3 s4 D hb hq y R x L;go_wp21
   rw[a0];refine Z.mono ?_;rintro e w5 ⟨rfl,v⟩;have bJ:=v.size;have E:=(v.block wr.heap.size<|wQ J).trans J;obtain⟨x0,x1,x2,x3,x4,_⟩:=jl E;have bM:=wQ E;have f:=(t.below X).below v;have v0:=jl f.vw.1;have aZ:=f.vw.2.2.2.1;clear v E Z;cases q
   ·have u:=oz (show lbO d7.z d7.C a8 (d7.q.drop<|k+1) bl=some BR from by simp_all);go_wp2;exact rdM ⟨k+1,bl,xa,xl,xc,aj,eu,u,f⟩
   ·have u:=oz (show lbO d7.z d7.C a8 (d7.q.drop<|k+1) (bl++[s.x])=some BR from by simp_all);go_wp2_with (at_builtin;refine apO (aZ.alloc _) ?_)
    intro v6 w6 c d _ l;obtain⟨a6,l6,c6,rfl⟩:=qh c;obtain⟨z,I,_⟩:=f.xwi d c l;have u0:=jl z;clear c d l z;go_wp2;exact rdM ⟨k+1,bl++[s.x],a6,l6,c6,aj,eu,u,I⟩
  ·have:k=d7.q.length:=by omega
   subst this;rw[sK,lbO]at a;injection a with a;subst a;obtain⟨za,zc,ez,_⟩:=qp t.vw.2.1;injection ez with a1 a2 a3;subst a1;subst a2;subst a3;obtain⟨za,zc,ez,_⟩:=qp t.vw.2.2.1;injection ez with a1 a2 a3;subst a1;subst a2;subst a3;have v0:=jl t.vw.1;obtain⟨HE,T⟩:=ju (t.fin _ rfl) (show kx2 ⟨tt,en,m,bl⟩=((en.length==0)&&(m.length==0)) from rfl);have r0:=jl t.rr;have bP:V≠w.heap.size:=aj;have bO:=wQ t.rr;have bC:((en.length:Int)==0)=(en.length==0):=by grind
   have bD:((m.length:Int)==0)=(m.length==0):=by grind
   cases a4:(en.length==0);all_goals cases a7:(m.length==0)
   all_goals
    rw[a4]at bC;rw[a7]at bD;rw[ku T,a4,a7]at HE;clear T aI aH aG aF HW aN HI aJ aL aK aE Y a4 a7;go_wp2;exact kx0 results56 underlying24 HE.1 HE.2
section
variable {w w':World}
theorem yw.tk(a:Tk none qw7 w w'):∀{x:PX}{p:Value},yw lo w x p->yw lo w' x p
 |.nil,_,h=>h
 |.node _ _ _ _ _,_,⟨k,va,vb,e1,hn,hh,ha,hb⟩=>⟨k,va,vb,e1,hn,a.e hh ay ak,yw.tk a ha,yw.tk a hb⟩
theorem qva.tk(a:Tk none qw7 w w'){d9:SLab}(h:qva lo w d9 ev wv bv):qva lo w' d9 ev wv bv:=⟨h.1.tk a,h.2.1.tk a,h.2.2.tk a⟩
theorem jg.tk{d:Option Nat}(c:Tk none qw7 w w'):∀{b:PB}{ps:List Value},jg lo d w b ps->jg lo d w' b ps
 |.nil,_,h=>h
 |.node _ _ a .nil n,ps,⟨k,vp,vv,vi,qs,e,hl,hh,ha,hn⟩=>⟨k,vp,vv,vi,qs,e,hl,c.e hh ay ak,ha.tk c,jg.tk c hn⟩
 |.node _ _ a (.node _ _ _ t e) n,ps,⟨k,vp,vv,vi,vt,ve,qt,qe,qs,e1,hl,hh,ha,⟨ht1,ht3,ht2⟩,⟨he1,he3,he2⟩,hn⟩=>
  ⟨k,vp,vv,vi,vt,ve,qt,qe,qs,e1,hl,c.e hh ay ak,ha.tk c,⟨jq ht1 c (pz.none _) ak,ht3,jg.tk c ht2⟩,⟨jq he1 c (pz.none _) ak,he3,jg.tk c he2⟩,jg.tk c hn⟩
theorem jzf.tk(a:Tk none qw7 w w')(h:jzf w e7 cs):jzf w' e7 cs:=by refine⟨h.1,λk l=>?_⟩;obtain⟨vp,vg,vb,aa,ac,e,⟨pa,pc,ga,ba,bc,ps,b,c,d,h1,f,g,i⟩,j⟩:=h.2 k l;exact⟨vp,vg,vb,aa,ac,e,⟨pa,pc,ga,ba,bc,ps,b,c,d,jq h1 a (pz.none _) ak,f.tk a,jq g a (pz.none _) ak,i.tk a⟩,jq j a (pz.none _) ak⟩
theorem OwnIn.tk(a:Tk none qw7 w w')(h:OwnIn B w ev e7):OwnIn B w' ev e7:=by obtain⟨cs,h1,b⟩:=h;exact⟨cs,jq h1 a (pz.none _) ak,b.tk a⟩
theorem xq0(b:(cs.drop (k*8)).take 8=[a,ev,wv,d,bv,ps,x0,x1]):cs[k*8]?=some a/\cs[k*8+1]?=some ev/\cs[k*8+2]?=some wv/\cs[k*8+3]?=some d/\cs[k*8+4]?=some bv/\cs[k*8+5]?=some ps/\cs[k*8+6]?=some x0/\cs[k*8+7]?=some x1:=by
 have z:∀j,j<8->cs[k*8+j]?=([a,ev,wv,d,bv,ps,x0,x1]:List Value)[j]?:=λj c=>by grind
 exact⟨z 0 aj,z 1 aj,z 2 aj,z 3 aj,z 4 aj,z 5 aj,z 6 aj,z 7 aj⟩
theorem OwnIn.get(h:OwnIn B w ev e7)(d:k<e7.length):∃g c vp vg vb aa ac,ev=.slice (some ⟨g,0,none⟩) e7.length c/\g<w.heap.size /\
  (w.cell? ⟨g,k*8,none⟩=some (.string e7[k].r.y.t)/\w.cell? ⟨g,k*8+1,none⟩=some (.string e7[k].r.y.x)/\w.cell? ⟨g,k*8+2,none⟩=some (.int .i64 e7[k].r.y.v)/\w.cell? ⟨g,k*8+3,none⟩=some vp/\w.cell? ⟨g,k*8+4,none⟩=some vg/\w.cell? ⟨g,k*8+5,none⟩=some vb/\w.cell? ⟨g,k*8+6,none⟩=some (.slice aa e7[k].ms.length ac)/\w.cell? ⟨g,k*8+7,none⟩=some (.string<|riT e7[k])) /\
  zwa w e7[k] [.string e7[k].r.y.t,.string e7[k].r.y.x,.int .i64 e7[k].r.y.v,vp,vg,vb,.slice aa e7[k].ms.length ac,.string (riT e7[k])]:=by obtain⟨cs,h1,f⟩:=h;obtain⟨a,c,rfl,hv⟩:=qp h1;obtain⟨g,rfl,_,l,b⟩:=hv k d;obtain⟨vp,vg,vb,aa,ac,e,i,j⟩:=(f.2 k d);obtain⟨z0,m,p,q,s,t,u,v⟩:=xq0 e;exact⟨g,c,vp,vg,vb,aa,ac,rfl,l,⟨(b _ aj).trans z0,(b _ aj).trans m,(b _ aj).trans p,(b _ aj).trans q,(b _ aj).trans s,(b _ aj).trans t,(b _ aj).trans u,(b _ aj).trans v⟩,⟨vp,vg,vb,aa,ac,rfl,i,j⟩⟩
def lkR(t:PTree)(S:List (List Int)):List RIn->List ByteArray->List ByteArray->Option (List ByteArray×List ByteArray)
 |[],en,wr=>some (en,wr)
 |x::l,en,wr=>(zwc t S x).bind λr=>if r.1==1 then lkR t S l (en++[riT x]) wr else if r.1==2 then lkR t S l en (wr++[riT x]) else lkR t S l en wr
def lbR(t:PTree)(S:List (List Int)):List RIn->List ByteArray->Option (List ByteArray)
 |[],br=>some br
 |x::l,br=>(zqy t x.r.u x.ms S x.r.guard).bind λc=>if (c.1==1)||c.2 then lbR t S l (br++[riT x]) else lbR t S l br
theorem zxq(t:PTree)(S:List (List Int)):∀(l:List RIn)(en wr:List ByteArray)(r:List ByteArray×List ByteArray),lkR t S l en wr=some r->en.length<=r.1.length/\wr.length<=r.2.length/\r.1.length+r.2.length<=en.length+wr.length+l.length
 |[],en,wr,r,h=>by grind [lkR]
 |s::l,en,wr,r,h=>by
  rw[lkR]at h;obtain⟨q,_,h⟩:=wu.1 h;split at h
  ·have:=zxq t S l _ _ r h;grind
  ·split at h
   ·have:=zxq t S l _ _ r h;grind
   ·have:=zxq t S l _ _ r h;grind
theorem zyq(t:PTree)(S:List (List Int)):∀(l:List RIn)(br r:List ByteArray),lbR t S l br=some r->br.length<=r.length/\r.length<=br.length+l.length
 |[],br,r,h=>by grind [lbR]
 |s::l,br,r,h=>by
  rw[lbR]at h;obtain⟨q,_,h⟩:=wu.1 h;split at h
  ·have:=zyq t S l _ r h;grind
  ·have:=zyq t S l _ r h;grind
def zzj(t:PTree)(S:List (List Int)):Option MView:=(zj9 t S S.length).bind λtx=>(lkR t S (kq4 t t.l) [] []).bind λp=>(lbR t S (kq4 t t.q) []).map λb=>⟨tx,p.1,p.2,b⟩
structure PlOk (t:PTree):Prop where
 ok:TreeOk t
 fit:TreeFit t
 tops:vyv t
 l:t.l.length<=801
 q:t.q.length<=801
 pars:∀r∈t.l++t.q,zvk t r
 insts:∀x∈kq4 t t.l++kq4 t t.q,RiOk x
end
def zxi:Option PSet->List (List Int)
 |some q=>kj3 (mg q.size.x).toNat
 |none=>[[0,1,2]]
def kzv(t:PTree):List (List (List Int)):=(zxi t.j[0]?).flatMap λo=>(zxi t.j[1]?).map λp=>[o,p]
def vwj(b y:ByteArray):ByteArray:=if Op.bytesLess y.toList b.toList then y else b
def jxz(t:PTree)(S:List (List Int)):List (List (List Int))->ByteArray->Option ByteArray
 |[],b=>some b
 |w::ws,b=>(qjs t S w S.length).bind λS'=>(zj9 t S' S'.length).bind λy=>jxz t S ws<|vwj b y
structure SnR where
 F:List (List<|List Int)
 txs:List ByteArray
 L:List ByteArray
def hasB(l:List ByteArray)(s:ByteArray):Bool:=l.any λy=>y.toList==s.toList
def vjk(t:PTree)(x:SnR)(S:List (List Int)):Option SnR:=
 (zj9 t S S.length).bind λb=>if hasB x.txs b then some x else if x.F.length<=100000 then (jxz t S (kzv t) b).map λk=>⟨x.F++[S],x.txs++[b],if hasB x.L k then x.L else x.L++[k]⟩ else none
def jxu(v:MView):Bool:=(decide (0<v.xz.length)||decide (0<v.xs.length))||kx2 v
def zwv(t:PTree):List (List (List Int))->Option Bool
 |[]=>some false
 |S::l=>(zzj t S).bind λv=>if jxu v then some true else zwv t l
def qjf(t:PTree)(S:List (List Int)):List RIn->SnR->Option SnR
 |[],x=>some x
 |X::l,x=>(zwc t S X).bind λr=>if r.1==1 then (vjk t x r.2).bind λx'=>qjf t S l x' else qjf t S l x
def zwj(t:PTree)(most:Nat):Nat->Nat->SnR->Option SnR
 |0,_,x=>some x
 |n+1,i,x=>if x.L.length<=most then (x.F[i]?).bind λS=>(qjf t S (kq4 t t.l) x).bind λx'=>zwj t most n (i+1) x' else some x
def zwt(t:PTree)(most:Nat):Nat->Nat->Nat->Nat->SnR->Option (Int×Bool×Nat×Nat)
 |0,_,_,_,_=>none
 |n+1,round,from_,known,x=>
  if most<x.L.length then some (9,false,0,0)
  else (zwv t<|x.F.drop from_).bind λb=>if b then some (0,true,round,x.L.length) else if x.L.length==known then some (0,false,round,x.L.length) else (zwj t most (x.F.length-from_) from_ x).bind λy=>zwt t most n (round+1) x.F.length x.L.length y
def vj4(t:PTree)(most:Nat)(S:List (List Int)):Option (Int×Bool×Nat×Nat):=(vjk t ⟨[],[],[]⟩ S).bind λx=>zwt t most 502 0 0 0 x
theorem pzd(h:w.ownsRow lo e size (.slice xa n cap) n xs)(hi:i<=n):w.ownsRow lo e size (.slice xa i cap) i (xs.take (i*size)):=by
 have s:i*size<=n*size:=Z7 _ hi;refine⟨by rw[Ze,h.1];omega,?_⟩;obtain⟨h1,m⟩|⟨g,a,cur,h1,j,k,p,d,f,q⟩:=h.2
 ·simp_all
 ·injection h1 with b l c;subst b c;refine .inr ⟨g,cap,cur,rfl,j,k,aj,d,f,?_⟩;grind
theorem pwp(h:w.ownsRow lo e size (.slice xa n cap) n xs):n<=cap:=by
 obtain⟨h1,b⟩|⟨g,a,cur,h1,j,k,c,d,f,i⟩:=h.2
 ·omega
 simp_all
theorem vjs:∀(l:List PP)(i:Nat),uq (l.take i)=(uq l).take (i*4)
 |[],i=>by simp[uq]
 |p::l,0=>by simp[uq]
 |p::l,i+1=>by have:=vjs l i;grind [uq,kzn]
def pxr(tab:Tab)(l:List PP)(i:Nat)(p:PP):Bool:=fpB (l.take i) p.y.x.toList||!((zl tab p.y.x.toList).V==0)
def vxh(tab:Tab)(l:List PP)(a:Int)(i:Nat)(p:PP):Int:=kjo (zzd tab p.Q) (kjo (pxr tab l i p) a p.y) p.Q
theorem Nm.xw5(h:Nm w B b tab ps z)(u:Value):Nm (w.setCell ⟨B,1,none⟩ u) B b tab u z:=
 ⟨jL B 1 _ _ _ h.nm,h.C.other (by simpa using h.ne) _,h.ne⟩
def xk7(W:World)(B b:Nat)(tab:Tab)(l:List PP)(ps:Value)(fin:Int)(i:Value)(wr:World):Prop:=
 ∃(k:Nat)(a:Int),k<=l.length/\i=.int .i64 k/\yx (vxh tab l) (l.drop k) k a=fin/\Nm wr B b tab ps a/\Kept B W wr
theorem jvb(h:Nm w B b tab ev z)(ho:w.ownsRow lo 352 4 (.slice ta V xc) l.length (uq l))(hl:l.length<=1000)(hs:∀p∈l,p.y.x.size<=1000/\p.Q.x.size<=1000):Calls prog 159 #[.pointer (some ⟨B,0,none⟩),.slice ta V xc] w λe w'=>e=.returned (.tuple #[])/\Nm w' B b tab (.slice ta V xc) (yx (vxh tab l) l 0 z)/\Kept B w w':=by
 obtain⟨_,_,_,_,f1,_,_⟩:=h.cells;obtain⟨c0,c1,c2,c3,_⟩:=h.cells;obtain⟨xa,cap,a9,F⟩:=qp ho;injection a9 with Z e2 e3;subst Z e2 e3;have HW:=oz (show ∀i,i<l.length->∃g,ta=some ⟨g,0,none⟩/\g≠B/\∀j,j<l.length*4->w.cell? ⟨g,j,none⟩=(uq l)[j]? from λi hi=>by obtain⟨g,rfl,_,_,A⟩:=F i hi;exact⟨g,rfl,λe=>not_row ho h.nm ak (by rw[<-e];rfl),A⟩)
 obtain⟨W,O⟩:=cpy<|w.setCell ⟨B,1,none⟩ (.slice ta l.length xc);have Q:Kept B w W:=by rw[O];exact(Kept.refl _ _).kzr _ _
 have a5:Nm W B b tab (.slice ta l.length xc) z:=by rw[O];exact h.xw5 _
 have HR:xk7 W B b tab l (.slice ta l.length xc) (yx (vxh tab l) l 0 z) (.int .i64 0) W:=⟨0,z,jR,rfl,rfl,a5,Kept.refl _ _⟩;obtain⟨HN,HO,HS,a4⟩:=jb h ho hs O.symm;generalize yx (vxh tab l) l 0 z=fin at *;clear F hs O;go_in;go_wp21;rw[ku a4];go_loopw [4,5,6,7,14] (λ_ _ _ _ i wr=>xk7 W B b tab l (.slice ta l.length xc) fin i wr) (λ_ _ _ _ i _=>l.length-(intOf i).toNat);exact HR;obtain⟨k,a0,hk,rfl,d,K,f⟩:=hrel;have R:=Q.trans f;have S:=kqt HO HN.nm ak<|Q.trans f;have aB:=wQ K.nm;by_cases E:k<l.length
 ·obtain⟨g,rfl,a6,A⟩:=ku HW k E;have fl:=λj (hj:j<4)=>kqo kzn 4 (λ_=>rfl) l k j E hj
  have cc:∀j,j<4->∀u,(kzn l[k])[j]?=some u->wr.cell? ⟨g,k*4+j,none⟩=some u:=λj hj u hu=>R.cell (a:=⟨g,k*4+j,none⟩) a6<|(A (k*4+j) aj).trans ((fl j hj).trans hu)
  have e0:=cc 0 aj _ rfl;have Z:=cc 1 aj _ rfl;have e2:=cc 2 aj _ rfl;have e3:=cc 3 aj _ rfl;simp only[Qk]at e0;obtain⟨U,X⟩:=ku HS l[k] (wZ E);rw[rU E,yx]at d;obtain⟨G,C,c⟩:=jp d (show vxh tab l a0 k l[k]=kjo (zzd tab l[k].Q) (kjo (pxr tab l k l[k]) a0 l[k].y) l[k].Q from rfl) (show pxr tab l k l[k]=(fpB (l.take k) l[k].y.x.toList||!((zl tab l[k].y.x.toList).V==0)) from rfl);have D:=pzd (i:=k) S aj;rw[<-vjs]at D;have Y:(l.take k).length=k:=by simp_all
  generalize a7:l.take k=lt at D Y c;generalize l[k]=p at e0 Z e2 e3 U X G C c;clear cc fl A d a7;subst Y;have aA:lt.length<=xc:=by have:=pwp S;omega
  have M:lt.length<=1000:=aj;have a1:=kvm (w:=(wr.alloc<|.cells #[.string p.y.x,.int .i64 p.y.v,.string p.Q.x,.int .i64 p.Q.v] 352).drew) p.y (D.alloc _).drew M;have a2:=kvm (w:=((wr.alloc<|.cells #[.string p.y.x,.int .i64 p.y.v,.string p.Q.x,.int .i64 p.Q.v] 352).alloc<|.cells #[.string ⟨#[]⟩,.int .i64 0,.string ⟨#[]⟩,.int .i64 0] 352).drew) p.y ((D.alloc _).alloc _).drew M;have HZ:=oz (show(((wr.alloc<|.cells #[.string p.y.x,.int .i64 p.y.v,.string p.Q.x,.int .i64 p.Q.v] 352).alloc<|.cells #[.string ⟨#[]⟩,.int .i64 0,.string ⟨#[]⟩,.int .i64 0] 352).drew).heap[wr.heap.size+1]?=some (.cells #[.string ⟨#[]⟩,.int .i64 0,.string ⟨#[]⟩,.int .i64 0] 352 (0,0)) by have:=qy (w:=wr.alloc<|.cells #[.string p.y.x,.int .i64 p.y.v,.string p.Q.x,.int .i64 p.Q.v] 352) (o:=.cells #[.string ⟨#[]⟩,.int .i64 0,.string ⟨#[]⟩,.int .i64 0] 352);simp only[tV]at this;exact this)
  have a3:=oz<|qy (w:=wr) (o:=.cells #[.string p.y.x,.int .i64 p.y.v,.string p.Q.x,.int .i64 p.Q.v] 352);unfold ptV at *;go_upto_region 4 with fail
  go_cut [7] from 19 to 27 (λv wx=>v=.bool (fpB lt p.y.x.toList)/\Below (wr.heap.size+1) (wr.alloc<|.cells #[.string p.y.x,.int .i64 p.y.v,.string p.Q.x,.int .i64 p.Q.v] 352) wx)
  case first=>
   go_region_law ((go_simp;go_at_call 215;(first|(refine a1.mono ?_;rintro e w2 ⟨rfl,x⟩)|(refine a2.mono ?_;rintro e w2 ⟨rfl,x⟩;have z0:=kz3 ((x.block _ ay).trans HZ:w2.heap[wr.heap.size+1]?=_)));dsimp only[paV]))
   all_goals
    go_wp21;go_meet
    refine⟨rfl,?_⟩;have a8:=x.size;simp at a8;first
    |exact((bR.drew.trans<|x.mono ay).alloc aj _)
    |exact jzx (((bR.alloc ay _).drew).trans<|x.mono ay)
  case rest=>
  obtain⟨rfl,hb⟩:=hcut;have t:=(K.alloc<|.cells #[.string p.y.x,.int .i64 p.y.v,.string p.Q.x,.int .i64 p.Q.v] 352).below<|hb.mono ay;have m:=oz<|(hb.block wr.heap.size aj).trans a3;have d0:=kz3 m;have aC:=kvb t.drew.C U;have hf:=kw6<|zl tab p.y.x.toList;obtain⟨c0,c1,c2,c3,f1,f2,f3⟩:=t.cells;have I:=(Kept.kqe (P:=B) (w:=wr)<|.cells #[.string p.y.x,.int .i64 p.y.v,.string p.Q.x,.int .i64 p.Q.v] 352).trans<|Kept.of_below (hb.mono ay);have L:=oz (λ(W2:World) (z2:Int) (h2:Nm W2 B b tab (.slice (some ⟨g,0,none⟩) l.length xc) z2)=>jwg p.Q h2 X);unfold ptV at *;generalize zl tab p.y.x.toList=q at *;generalize fpB lt p.y.x.toList=r at *;cases r
  case true=>
   rw[Jg]at c;have J:=note_any (w:=wc.drew.drew) p.y.v c2 c3 f2 f3;go_wp2;go_region
   go_wp2;go_region_law ((go_simp;go_at_call 212;refine J.mono ?_;rintro e w1 ⟨rfl,hw⟩;dsimp only))
   all_goals
    subst hw;have N:=((Kept.refl B wc).drew.drew.trans<|Kept.note B 2 wc.drew.drew a0 p.y.v).e (b:=wr.heap.size) aj m;have g2:=kz3 N;go_wp21;refine(L _ _<|(t.drew.drew).note aj).mono ?_;rintro e w6 ⟨rfl,H,y⟩;have s:=((((Kept.refl B wc).drew.drew).trans<|Kept.note _ _ _ _ _)).trans y;go_wp2;exact rdM ⟨lt.length+1,_,aj,eu,G,by rw[ku C,ku c];exact H,f.trans<|I.trans s⟩
  case false=>
   rw[QX]at c;cases A:(q.V != 0)
   case true=>
    have hE:(!(q.V==0))=true:=A;rw[hE]at c;have J:=note_any (w:=wc.drew.drew) p.y.v c2 c3 f2 f3;go_wp2;go_region
    go_wp2;go_region_law ((go_simp;go_at_call 212;refine J.mono ?_;rintro e w1 ⟨rfl,hw⟩;dsimp only))
    all_goals
     subst hw;have N:=((Kept.refl B wc).drew.drew.trans<|Kept.note B 2 wc.drew.drew a0 p.y.v).e (b:=wr.heap.size) aj m;have g2:=kz3 N;go_wp21;refine(L _ _<|(t.drew.drew).note aj).mono ?_;rintro e w6 ⟨rfl,H,y⟩;have s:=((((Kept.refl B wc).drew.drew).trans<|Kept.note _ _ _ _ _)).trans y;go_wp2;exact rdM ⟨lt.length+1,_,aj,eu,G,by rw[ku C,ku c];exact H,f.trans<|I.trans s⟩
   case false=>
    have hE:(!(q.V==0))=false:=A;rw[hE]at c;go_wp2;go_region
    have g2:=kz3<|(Kept.refl B wc).drew.e (b:=wr.heap.size) aj m;go_wp21
    refine(L _ _<|t.drew).mono ?_;rintro e w6 ⟨rfl,H,y⟩;have s:=(((Kept.refl B wc).drew)).trans y;go_wp2;exact rdM ⟨lt.length+1,_,aj,eu,G,by rw[ku C,ku c];exact H,f.trans<|I.trans s⟩
 ·have T:k=l.length:=by omega
  rw[T,sK]at d;have G:=oz d;clear d T;go_wp2;go_end0;exact⟨rfl,by rw[<-ku G];exact K,R⟩
def wS(tab:Tab)(z:Int)(s:PSet):Int:=kjo (kk3 tab s.y) z s.y
def wM(tab:Tab)(z:Int)(n:Tok):Int:=kjo (kk3 tab n) z n
def wK(tab:Tab)(z:Int)(k:PKind):Int:=k.i.foldl (wM tab) (kjo (kk3 tab k.y) z k.y)
def wV(tab:Tab)(z:Int)(v:VrT):Int:=xjz tab (kjo (kk3 tab v.y) z v.y) v
def wN(tab:Tab)(z:Int)(r:PRule):Int:=(bf r.guard).foldl (kyd tab r.u) (yx (vxh tab r.u) r.u 0 (kjo (kk3 tab r.y) z r.y))
def wR(tab:Tab)(z:Int)(r:PRule):Int:=(je r.S).foldl (kyd tab r.u) ((bf r.guard).foldl (kyd tab r.u) (yx (vxh tab r.u) r.u 0 (kjo (kk3 tab r.y) z r.y)))
def wt1(tab:Tab)(m:MdL):Int:=m.j.foldl (wS tab) (-1)
def wt2(tab:Tab)(m:MdL):Int:=m.p.foldl (wK tab) (wt1 tab m)
def wt3(tab:Tab)(m:MdL):Int:=m.z.foldl (wV tab) (wt2 tab m)
def wt4(tab:Tab)(m:MdL):Int:=m.l.foldl (wR tab) (wt3 tab m)
def qxk(tab:Tab)(m:MdL):Int:=m.q.foldl (wN tab) (wt4 tab m)
structure MdNm (m:MdL):Prop where
 z:∀v∈m.z,v.g.x.size<=1000/\v.si.y.x.size<=1000
 l:∀r∈m.l,r.u.length<=1000/\(∀p∈r.u,p.y.x.size<=1000/\p.Q.x.size<=1000)/\(∀y∈bf r.guard,y.x.size<=1000)/\ky6 r.S/\kqq r.S<=1000/\(∀y∈je r.S,y.x.size<=1000)
 q:∀r∈m.q,r.u.length<=1000/\(∀p∈r.u,p.y.x.size<=1000/\p.Q.x.size<=1000)/\(∀y∈bf r.guard,y.x.size<=1000)
def ky8{α:Type}(W:World)(B b:Nat)(tab:Tab)(g:Int->α->Int)(items:List α)(z0:Int)(i:Value)(wr:World):Prop:=
 ∃(k:Nat)(a:Int)(ps:Value),k<=items.length/\i=.int .i64 k/\(items.drop k).foldl g a=items.foldl g z0/\Nm wr B b tab ps a/\Kept B W wr
theorem ky8.start{wr:World}(a:Nm wr B b tab ps z)(c:Kept B W wr):ky8 W B b tab g items z (.int .i64 0) wr:=
 ⟨0,z,ps,jR,rfl,rfl,a,c⟩
theorem ky8.Y{wr:World}{a:Int}(d:k<items.length)(h:(items.drop k).foldl g a=items.foldl g z0)(c:Nm wr B b tab ps (g a items[k]))(e:Kept B W wr):ky8 W B b tab g items z0 (.int .i64<|(k:Int)+1) wr:=by refine⟨k+1,_,ps,d,eu,?_,c,e⟩;grind [List.drop_eq_getElem_cons]
theorem zk0(a:¬k<items.length)(h:(items.drop k).foldl g z=items.foldl g z0):z=items.foldl g z0:=by grind [List.drop_of_length_le]
theorem jx0(h:kwm lo w x0 x1 x2 x3 x4 m)(ht:kj5 w b tab)(aP:MdOk m)(Q:MdSz m)(a8:MdNm m):Calls prog 93 #[.agg #[x0,x1,x2,x3,x4],.map (some b)] w λe w'=>e=.returned (.agg #[.bool (decide (0<=qxk tab m)),.int .i64 (fAt<|qxk tab m)])/\oq w w':=by
 obtain⟨h0,⟨c1,h1,bA⟩,h2,⟨c3,h3,k3⟩,⟨c4,h4,k4⟩⟩:=h;obtain⟨b4,b5,b6,b7,b8,aQ,aR⟩:=aP;have aP:MdOk m:=⟨b4,b5,b6,b7,b8,aQ,aR⟩;obtain⟨W,hW⟩:∃W,W=((w.alloc<|.cells #[x0,x1,x2,x3,x4] 68).alloc<|.cells #[.bool false,.int .i64 0] 199).alloc (.cells #[.map (some b),.slice none 0 0,.bool false,.int .i64 0] 296):=⟨_,rfl⟩;have cL:b<w.heap.size:=by obtain⟨⟨es,c,hb,_⟩,_⟩:=ht;grind
 have T:oq w W:=by rw[hW];exact((jZ w).trans<|(jZ _).mono ay).trans ((jZ _).mono ah)
 have cA:W.heap.size=w.heap.size+3:=by simp_all
 obtain⟨B,hB⟩:∃B,B=w.heap.size+2:=⟨_,rfl⟩;obtain⟨bU,X⟩:=ju hW.symm (by grind [zy,qy]:W.heap[w.heap.size]?=some (.cells #[x0,x1,x2,x3,x4] 68 (0,0)));have bN:=oz (show W.heap[w.heap.size+1]?=some (.cells #[.bool false,.int .i64 0] 199 (0,0)) by grind [qy,zy])
 have M:Nm W B b tab (.slice none 0 0) (-1):=by refine⟨?_,ht.kept T,aj⟩;rw[hW,hB];have:=qy (w:=(w.alloc<|.cells #[x0,x1,x2,x3,x4] 68).alloc<|.cells #[.bool false,.int .i64 0] 199) (o:=.cells #[.map (some b),.slice none 0 0,.bool false,.int .i64 0] 296);simp only[tV]at this;exact this
 have vw:∀{e size:Nat}{v:Value}{n:Nat}{xs:List Value},w.ownsRow lo e size v n xs->∃a cap,v=.slice a n cap/\∀i,i<n->∃g,a=some ⟨g,0,none⟩/\lo<=g/\g<w.heap.size/\∀j,j<n*size->W.cell? ⟨g,j,none⟩=xs[j]?:=by intro e size v n xs h;obtain⟨a,cap,S,hv⟩:=qp h;refine⟨a,cap,S,λi hi=>?_⟩;obtain⟨g,q1,q2,q3,q4⟩:=hv i hi;exact⟨g,q1,q2,q3,λj hj=>(T.cell (p:=⟨g,j,none⟩) q3).trans<|q4 j hj⟩
 obtain⟨a0,cE,rfl,(bO:Hid _)⟩:=vw h0;obtain⟨a1,cF,rfl,(bP:Hid _)⟩:=vw h1;obtain⟨a2,cG,rfl,(bQ:Hid _)⟩:=vw h2;obtain⟨a3,cH,rfl,(bS:Hid _)⟩:=vw h3;obtain⟨a4,cI,rfl,(bT:Hid _)⟩:=vw h4;have bB:=k3.stay (w':=W) (λk _ h=>T.block k h);have bC:=k4.stay (w':=W) (λk _ h=>T.block k h);have b9:=oz hB;have cJ:w.heap.size+1<B:=aj;have cK:B<W.heap.size:=aj;clear vw cA hB hW aQ aR;have bH:=show ky8 W B b tab (wS tab) m.j (-1) (.int .i64 0) W from ky8.start M<|Kept.refl _ _
 go_in;go_wp21;rw[ku bU,<-ku b9];go_loopw [7,23] (λ_ i wr=>ky8 W B b tab (wS tab) m.j (-1) i wr) (λ_ i _=>m.j.length-(intOf i).toNat);exact bH;obtain⟨k,a0,aE,hk,rfl,(y:Hid _),d,l⟩:=hrel;have aC:=l.size;by_cases f:k<m.j.length
 ·obtain⟨g,rfl,aA,aB,u⟩:=ku bO k f;have s:g≠B:=aj;have e:=jyd u (λ_=>rfl) f l s;have z:=oz (λ(w':World) (ps:Value) (N:Nm w' B b tab ps ((wS tab) a0<|m.j[k])) (R:Kept B W w')=>ky8.Y (W:=W) (wr:=w') (B:=B) (b:=b) (tab:=tab) (g:=(wS tab)) (items:=m.j) (z0:=(-1)) (a:=a0) f y N R);have x:=Q.j _<|wZ f;have aD:=wQ d.nm;generalize m.j[k]=p at e z x;clear u;go_wp21
  refine(qjd p.y (d.alloc _) x).mono ?_;rintro e V ⟨rfl,F,t⟩;have C:=oz<|t.e (b:=wr.heap.size) aj (qy);have D:=(Kept.kqe _).trans t;clear e;have L:=z _ _ F<|l.trans D;go_wp2
  exact rdM L
 ·have G:=zk0 f y;rw[G]at d;have A:=l.e (b:=w.heap.size) aj X;have qx:=jl A;have bI:=show ky8 W B b tab (wK tab) m.p (wt1 tab m) (.int .i64 0) wr from ky8.start d l
  clear G A;go_wp21;go_loopw [9,11,34] (λ_ _ i wr=>ky8 W B b tab (wK tab) m.p (wt1 tab m) i wr) (λ_ _ i _=>m.p.length-(intOf i).toNat);exact bI;obtain⟨k,a0,aE,hk,rfl,(y:Hid _),d,l⟩:=hrel;have aC:=l.size;by_cases f:k<m.p.length
  ·obtain⟨g,rfl,aA,aB,u⟩:=ku bP k f;have s:g≠B:=aj;obtain⟨ma,mn,mc,H,I,J,HM⟩:=jjh k f bA;have e0:=l.cell (a:=⟨g,k*3,none⟩) s<|(u (k*3) aj).trans H;have S:=l.cell (a:=⟨g,k*3+1,none⟩) s<|(u (k*3+1) aj).trans I;have e2:=l.cell (a:=⟨g,k*3+2,none⟩) s<|(u (k*3+2) aj).trans J;have z:=oz (λ(w':World) (ps:Value) (N:Nm w' B b tab ps ((wK tab) a0<|m.p[k])) (R:Kept B W w')=>ky8.Y (W:=W) (wr:=w') (B:=B) (b:=b) (tab:=tab) (g:=(wK tab)) (items:=m.p) (z0:=(wt1 tab m)) (a:=a0) f y N R);have x:=Q.p _<|wZ f;have bZ:=aP.i _<|wZ f;have aD:=wQ d.nm;generalize m.p[k]=p at e0 S e2 z x HM bZ;clear u H I J;go_wp21
   refine(qjd p.y (d.alloc _) x.1).mono ?_;rintro e V ⟨rfl,F,t⟩;have C:=oz<|t.e (b:=wr.heap.size) aj (qy);have D:=(Kept.kqe _).trans t;have cN:=wQ C;have aH:=l.trans D;have g2:=row3 C;obtain⟨mb,cD,b3,(bF:Hid _)⟩:=qp HM;injection b3 with q1 q2 q3;subst q1;subst q2;subst q3;have bM:=show ky8 V B b tab (wM tab) p.i (kjo (kk3 tab p.y) a0 p.y) (.int .i64 0) V from ky8.start F<|Kept.refl _ _
   clear e0 S e2;go_wp21;go_loopw [11,44] (λ_ i wr=>ky8 V B b tab (wM tab) p.i (kjo (kk3 tab p.y) a0 p.y) i wr) (λ_ i _=>p.i.length-(intOf i).toNat);exact bM;obtain⟨k5,a5,cO,cM,rfl,(aG:Hid _),aJ,a9⟩:=hrel;have cC:=a9.size;by_cases P:k5<p.i.length
   ·obtain⟨g5,rfl,cB,aZ,aW⟩:=ku bF k5 P;have b2:g5≠B:=aj;have e:=jyd (λj hj=>(T.cell (p:=⟨g5,j,none⟩) aZ).trans<|aW j hj) (λ_=>rfl) P (aH.trans a9) b2;have aO:=x.2 _<|wZ P;have aK:=oz (λ(w':World) (ps:Value) (N:Nm w' B b tab ps (wM tab a5<|p.i[k5])) (R:Kept B V w')=>ky8.Y (W:=V) (wr:=w') (B:=B) (b:=b) (tab:=tab) (g:=wM tab) (items:=p.i) (z0:=kjo (kk3 tab p.y) a0 p.y) (a:=a5) P aG N R);generalize p.i[k5]=y5 at e aK aO;clear aW;go_wp21
    refine(qjd y5 (aJ.alloc _) aO).mono ?_;rintro e w6 ⟨rfl,h6,bY⟩;have L:=aK _ _ h6<|(a9.alloc _).trans bY;go_wp2
    exact rdM L
   ·have aX:=zk0 P aG;rw[aX]at aJ;have L:=z _ _ aJ<|aH.trans a9;clear aX;go_wp2
    exact rdM L
  ·have G:=zk0 f y;rw[G]at d;have A:=l.e (b:=w.heap.size) aj X;have qx:=jl A;have bJ:=show ky8 W B b tab (wV tab) m.z (wt2 tab m) (.int .i64 0) wr from ky8.start d l
   clear G A;go_wp21;go_loopw [13,55] (λ_ i wr=>ky8 W B b tab (wV tab) m.z (wt2 tab m) i wr) (λ_ i _=>m.z.length-(intOf i).toNat);exact bJ;obtain⟨k,a0,aE,hk,rfl,(y:Hid _),d,l⟩:=hrel;have aC:=l.size;by_cases f:k<m.z.length
   ·obtain⟨g,rfl,aA,aB,u⟩:=ku bQ k f;have s:g≠B:=aj;have e:=jyd u (λ_=>rfl) f l s;have z:=oz (λ(w':World) (ps:Value) (N:Nm w' B b tab ps ((wV tab) a0<|m.z[k])) (R:Kept B W w')=>ky8.Y (W:=W) (wr:=w') (B:=B) (b:=b) (tab:=tab) (g:=(wV tab)) (items:=m.z) (z0:=(wt2 tab m)) (a:=a0) f y N R);have x:=Q.z _<|wZ f;have q:=a8.z _<|wZ f;have aD:=wQ d.nm;generalize m.z[k]=p at e z x q;clear u;go_wp21
    refine(qjd p.y (d.alloc _) x).mono ?_;rintro e V ⟨rfl,F,t⟩;have C:=oz<|t.e (b:=wr.heap.size) aj (qy);have D:=(Kept.kqe _).trans t;have g0:=kju C;have aU:=vqw p F q.1 q.2;unfold vrV kjs at aU;clear e;go_wp21
    refine aU.mono ?_;rintro e w2 ⟨rfl,Y,O⟩;have E:=D.trans O;have L:=z _ _ Y<|l.trans E;go_wp2
    exact rdM L
   ·have G:=zk0 f y;rw[G]at d;have A:=l.e (b:=w.heap.size) aj X;have qx:=jl A;have bK:=show ky8 W B b tab (wR tab) m.l (wt3 tab m) (.int .i64 0) wr from ky8.start d l
    clear G A;go_wp21;go_loopw [15,68] (λ_ i wr=>ky8 W B b tab (wR tab) m.l (wt3 tab m) i wr) (λ_ i _=>m.l.length-(intOf i).toNat);exact bK;obtain⟨k,a0,aE,hk,rfl,(y:Hid _),d,l⟩:=hrel;have aC:=l.size;by_cases f:k<m.l.length
    ·obtain⟨g,rfl,aA,aB,u⟩:=ku bS k f;have s:g≠B:=aj;obtain⟨pa,pn,pc,gp,ba,bn,bc,aL,⟨H,I,J,a6,aV⟩,aM,aN,bV,bW⟩:=vjd k f bB;have e0:=l.cell (a:=⟨g,k*5,none⟩) s<|(u (k*5) aj).trans H;have S:=l.cell (a:=⟨g,k*5+1,none⟩) s<|(u (k*5+1) aj).trans I;have e2:=l.cell (a:=⟨g,k*5+2,none⟩) s<|(u (k*5+2) aj).trans J;have e3:=l.cell (a:=⟨g,k*5+3,none⟩) s<|(u (k*5+3) aj).trans a6;have e4:=l.cell (a:=⟨g,k*5+4,none⟩) s<|(u (k*5+4) aj).trans aV;have z:=oz (λ(w':World) (ps:Value) (N:Nm w' B b tab ps ((wR tab) a0<|m.l[k])) (R:Kept B W w')=>ky8.Y (W:=W) (wr:=w') (B:=B) (b:=b) (tab:=tab) (g:=(wR tab)) (items:=m.l) (z0:=(wt3 tab m)) (a:=a0) f y N R);have x:=Q.l _<|wZ f;have q:=a8.l _<|wZ f;have K:=oz (⟨kqt aM M.nm ak l,XIs.nm M.nm ak l aN,kqt bV M.nm ak l,BIs.nm M.nm ak ak l bW⟩:wr.ownsRow lo 352 4 (.slice pa pn pc) (m.l[k]).u.length (uq (m.l[k]).u)/\XIs lo wr (m.l[k]).guard (.pointer gp)/\wr.ownsRow lo 334 9 (.slice ba bn bc) (kqq (m.l[k]).S) aL/\BIs lo none wr (m.l[k]).S aL);have aD:=wQ d.nm;generalize m.l[k]=p at e0 S e2 e3 e4 z x q K;clear u H I J a6 aV;go_wp21
     refine(qjd p.y (d.alloc _) x).mono ?_;rintro e V ⟨rfl,F,t⟩;have C:=oz<|t.e (b:=wr.heap.size) aj (qy);have D:=(Kept.kqe _).trans t;have g2:=jl C;have aF:=jvb F (kqt (K.1.alloc _) (d.alloc _).nm ak t) q.1 q.2.1;clear e0 S e2 e3 e4;go_wp21
     refine aF.mono ?_;rintro e w2 ⟨rfl,Y,O⟩;have Z:=oz<|O.e (b:=wr.heap.size) aj C;have g3:=jl Z;have E:=D.trans O;clear g2;go_wp21
     refine(qjv p.guard w2 B b lo lo tab p.u pa pn pc _ _ Y (kqt K.1 d.nm ak E) q.1 (XIs.nm d.nm ak E K.2.1) q.2.2.1).mono ?_;rintro e w3 ⟨rfl,aI,a7⟩;have aT:=oz<|a7.e (b:=wr.heap.size) aj Z;have U:=E.trans a7;have g4:=jl aT;clear g3;go_wp21
     refine(vw8 p.S w3 B b lo lo none tab p.u pa pn pc _ _ aL aI (kqt K.1 d.nm ak U) q.1 (kqt K.2.2.1 d.nm ak U) (BIs.nm d.nm ak ak U K.2.2.2) q.2.2.2.1 q.2.2.2.2.1 q.2.2.2.2.2).mono ?_;rintro e w4 ⟨rfl,bG,bX⟩;have bD:=U.trans bX;clear g4;have L:=z _ _ bG<|l.trans bD;go_wp2
     exact rdM L
    ·have G:=zk0 f y;rw[G]at d;have A:=l.e (b:=w.heap.size) aj X;have qx:=jl A;have bL:=show ky8 W B b tab (wN tab) m.q (wt4 tab m) (.int .i64 0) wr from ky8.start d l
     clear G A;go_wp21;go_loopw [17,88] (λ_ i wr=>ky8 W B b tab (wN tab) m.q (wt4 tab m) i wr) (λ_ i _=>m.q.length-(intOf i).toNat);exact bL;obtain⟨k,a0,aE,hk,rfl,(y:Hid _),d,l⟩:=hrel;have aC:=l.size;by_cases f:k<m.q.length
     ·obtain⟨g,rfl,aA,aB,u⟩:=ku bT k f;have s:g≠B:=aj;obtain⟨pa,pn,pc,gp,⟨H,I,J,a6⟩,aM,aN⟩:=vz0 k f bC;have e0:=l.cell (a:=⟨g,k*4,none⟩) s<|(u (k*4) aj).trans H;have S:=l.cell (a:=⟨g,k*4+1,none⟩) s<|(u (k*4+1) aj).trans I;have e2:=l.cell (a:=⟨g,k*4+2,none⟩) s<|(u (k*4+2) aj).trans J;have e3:=l.cell (a:=⟨g,k*4+3,none⟩) s<|(u (k*4+3) aj).trans a6;have z:=oz (λ(w':World) (ps:Value) (N:Nm w' B b tab ps ((wN tab) a0<|m.q[k])) (R:Kept B W w')=>ky8.Y (W:=W) (wr:=w') (B:=B) (b:=b) (tab:=tab) (g:=(wN tab)) (items:=m.q) (z0:=(wt4 tab m)) (a:=a0) f y N R);have x:=Q.q _<|wZ f;have q:=a8.q _<|wZ f;have K:=oz (⟨kqt aM M.nm ak l,XIs.nm M.nm ak l aN⟩:wr.ownsRow lo 352 4 (.slice pa pn pc) (m.q[k]).u.length (uq (m.q[k]).u)/\XIs lo wr (m.q[k]).guard (.pointer gp));have aD:=wQ d.nm;generalize m.q[k]=p at e0 S e2 e3 z x q K;clear u H I J a6;go_wp21
      refine(qjd p.y (d.alloc _) x).mono ?_;rintro e V ⟨rfl,F,t⟩;have C:=oz<|t.e (b:=wr.heap.size) aj (qy);have D:=(Kept.kqe _).trans t;have g2:=kz3 C;have aF:=jvb F (kqt (K.1.alloc _) (d.alloc _).nm ak t) q.1 q.2.1;clear e0 S e2 e3;go_wp21
      refine aF.mono ?_;rintro e w2 ⟨rfl,Y,O⟩;have Z:=oz<|O.e (b:=wr.heap.size) aj C;have g3:=kz3 Z;have E:=D.trans O;clear g2;go_wp21
      refine(qjv p.guard w2 B b lo lo tab p.u pa pn pc _ _ Y (kqt K.1 d.nm ak E) q.1 (XIs.nm d.nm ak E K.2) q.2.2).mono ?_;rintro e w3 ⟨rfl,aI,a7⟩;have aT:=oz<|a7.e (b:=wr.heap.size) aj Z;have U:=E.trans a7;clear g3;have L:=z _ _ aI<|l.trans U;go_wp2
      exact rdM L
     ·have G:=zk0 f y;rw[G]at d;have A:=l.e (b:=w.heap.size) aj X;have aS:=l.e (b:=w.heap.size+1) aj bN;obtain⟨_,_,s2,s3,_⟩:=d.cells;have t0:=kj6 aS;have aY:=oz aS;clear G A aS;go_wp2;refine kx0 results93 underlying199 (set2 aY) ?_;exact⟨rfl,((T.trans<|Kept.toBelow (B:=w.heap.size) l aj aj).setCell ay _).setCell ay _⟩
theorem kve(h:e8=true->False):e8=false:=by simp_all
theorem kzz(h:(qg L s st).s=false):st.s=false:=kve λe=>by rw[kkk e]at h;cases h
theorem qqj(h:(zq L s st).2.s=false):st.s=false:=kve λe=>by rw[qyf e]at h;cases h
theorem qjj(h:(rX f tag x L st).2.s=false):st.s=false:=kve λe=>by rw[kk2 e,e]at h;cases h
def qyq:List (List UInt8):=[[124],[38],[61,61],[33,61],[60],[43],[45]]
def py8(x:ELab):Prop:=
 (x.op.toList=nJ\/x.op.toList=nZ\/x.op.toList=mG) \/
 (x.op.toList=mW/\0<=x.n/\x.n<=9) \/
 (x.op.toList=ng/\(x.y.t.toList==mX)=true/\(x.c=zh\/(x.c.t.toList==mX)=true))
def kx9:PX->Prop
 |.nil=>False
 |.node _ _ x a c=>(py8 x/\a=.nil/\c=.nil)\/(x.op.toList=[33]/\kx9 a/\c=.nil)\/(x.op.toList∈qyq/\kx9 a/\kx9 c)
theorem kx9.some(h:kx9 x):isNil x=false:=by
 cases x with
 |nil=>exact h.elim
 |node=>rfl
theorem px7{e9:ELab}(h:py8 e9):qwe e9.op=true:=by unfold qwe;rcases h with(h|h|h)|⟨h,_⟩|⟨h,_⟩<;>rw[h]<;>rfl
theorem kx9.ok:∀{x:PX},kx9 x->XOk x
 |.nil,h=>trivial
 |.node _ _ x a c,h=>by
  rcases h with⟨h1,rfl,rfl⟩|⟨h1,b,rfl⟩|⟨h1,b,d⟩
  ·exact⟨Or.inl<|px7 h1,trivial,trivial⟩
  ·exact⟨Or.inr b.some,b.ok,trivial⟩
  ·exact⟨Or.inr b.some,b.ok,d.ok⟩
theorem xzo(h:kv6 n y=true):y.x.toList∈qyq:=by have:=zwk h;unfold kv6 at h;rw[rG,Zx]at h;obtain⟨⟨s,a,e⟩,_⟩:=h;rw[su]at e;rw[<-e];rcases n with _|_|_|n<;>simp only[kj4,tZ,Qu,or_false]at a<;>grind [jh,qyq]
theorem zq7(c:kq6 L)(hi:i<L.length)(h:((tk L i).t.toList==mW)=true):zz9 (tk L i):=by
 have a:=(c.ok i hi).digit;rw[h]at a;unfold kzx inB at a;by_cases b:0<(tk L i).x.size
 ·rw[dif_pos b,rG,sD,sD]at a;exact⟨b,a.1,a.2⟩
 simp_all
theorem xvu(h:zz9 y):0<=mg y.x/\mg y.x<=9:=by obtain⟨a,h1,b⟩:=h;unfold mg;rw[dif_pos a];omega
theorem vjl(b:zwe L)(c:st.v<L.length)(h:(kqy L st).2.s=false):st.s=false/\(kx9 (kqy L st).1/\∃x,(kqy L st).1=.node 0 0 x .nil .nil/\x.op.toList=ng)/\st.v<(kqy L st).2.v/\(kqy L st).2.v<L.length/\uh L st.v (kqy L st).2.v (yu (kqy L st).1):=by
 have a:qja.toList=ng:=jh _;have f:zh.t.toList=[]:=jh _;unfold kqy at h |-;simp only at h |-;by_cases hn:zk L [91] (zq L mX st).2=true
 ·rw[lJ hn]at h |-;simp only at h |-;have d:=kzz h;have e:=qqj d;obtain⟨a1,a2,a3,a4,a5⟩:=kx5 b c rfl<|kzz e;obtain⟨b1,g,b3⟩:=kqz b a5 e;obtain⟨c1,c2,c3,c4,c5⟩:=kx5 b b3 rfl d;obtain⟨d1,d2,d3⟩:=kqz b c5 h;refine⟨a1,⟨Or.inl ⟨Or.inr (Or.inr ⟨a,by rw[a2];exact a3,Or.inr (by rw[c2];exact c3)⟩),rfl,rfl⟩,_,rfl,a⟩,aj,d3,?_⟩;rw[show yu (.node 0 0 {op:=qja,y:=(zq L mX st).1,c:=(zq L mX (qg L [91] (zq L mX st).2)).1,n:=0} .nil .nil)=[tk L st.v,tk L (qg L [91] (zq L mX st).2).v] by grind [yu,ownNames]]
  exact⟨st.v,jH,c,rfl,a3,_,aj,b3,rfl,c3,by show _<=_;omega⟩
 ·rw[Xy hn]at h |-;simp only at h |-;obtain⟨a1,a2,a3,a4,a5⟩:=kx5 b c rfl h;refine⟨a1,⟨Or.inl ⟨Or.inr (Or.inr ⟨a,by rw[a2];exact a3,Or.inl rfl⟩),rfl,rfl⟩,_,rfl,a⟩,aj,a5,?_⟩;rw[show yu (.node 0 0 {op:=qja,y:=(zq L mX st).1,c:=zh,n:=0} .nil .nil)=[tk L st.v] by grind [yu,ownNames]]
  exact⟨st.v,jH,c,rfl,a3,by show _<=_;omega⟩
def ndC(tag:Nat):Nat:=if tag<10 then 7-tag else if tag<20 then 1 else 2
def jqt(tag:Nat)(x:PX):List Tok:=if 10<=tag/\tag<20 then yu x else []
theorem zzq(o:ByteArray)(a b:PX):kk5 (opX o a b)=kk5 a+kk5 b+1:=rfl
theorem xxp(L:List Tok)(u:kq6 L):∀(f tag:Nat)(x:PX)(st:RS),(tag<=4\/(10<=tag/\tag<=13)\/(20<=tag/\tag<=32))->8*(L.length-st.v)+ndC tag<=f->st.v<L.length ->
  (10<=tag->tag<20->kx9 x)->(rX f tag x L st).2.s=false ->
  st.s=false/\kx9 (rX f tag x L st).1/\(rX f tag x L st).2.v<L.length/\kk5 (rX f tag x L st).1+st.v<=kk5 x+(rX f tag x L st).2.v/\∃l,yu (rX f tag x L st).1=jqt tag x++l/\uh L st.v (rX f tag x L st).2.v l
 |0,tag,x,st,ht,hf,hl,hx,h=>aj
 |f+1,tag,x,st,ht,hf,hl,hx,h=>by
  have c:=u.jz4;have d:=xxp L u f;have hb:=qjj h;refine⟨hb,?_⟩;have e:¬st.s=true:=by simp_all
  have z0:kk5 (.nil:PX)=0:=rfl;rw[rX]at h |-;by_cases G:tag<4
  ·rw[lJ G,Xy e]at h |-;obtain⟨a1,a2,a4,a7,a,a5,a6⟩:=d (tag+1) .nil st aj (by grind [ndC]) hl aj<|qjj h;have j:=a6.le;obtain⟨b1,t,b4,b7,z,b5,b6⟩:=d (10+tag) _ _ aj (by grind [ndC]) a4 (λ_ _=>a2) h;exact⟨t,b4,aj,a++z,by grind [jqt],b6.app a6⟩
  ·rw[Xy G]at h |-;by_cases q:tag<10
   ·rw[lJ q,Xy e]at h |-;obtain⟨a1,a2,a4,a7,a,a5,a6⟩:=d 20 .nil st ay (by grind [ndC]) hl aj h;exact⟨a2,a4,aj,a,by grind [jqt],a6⟩
   ·rw[Xy q]at h |-;by_cases i:tag<20
    ·rw[lJ i,Xy e]at h |-;have B:=hx aj i;have g:∀y,jqt tag y=yu y:=by grind [jqt]
     by_cases b:kv6 (tag-10) (tk L st.v)=true
     ·rw[lJ b]at h |-;have C:=xzo b;have E:=(zwk b).1;have D:st.v+1<L.length:=c _ hl (by grind [kv6]);have p:=d (tag-9) .nil {st with v:=st.v+1} aj (by grind [ndC]) D aj;by_cases s:tag=12
      ·rw[lJ s]at h |-;simp only at h |-;obtain⟨a1,a2,a4,a7,a,a5,a6⟩:=p h;exact⟨Or.inr<|Or.inr ⟨C,B,a2⟩,a4,by rw[zzq];simp only at a7;omega,a,by rw[qvx E];grind [jqt],a6.D ay⟩
      ·rw[Xy s]at h |-;obtain⟨a1,a2,a4,a7,a,a5,a6⟩:=p<|qjj h;have j:=a6.le;simp only at j a7;obtain⟨b1,t,b4,b7,z,b5,b6⟩:=d tag (opX (tk L st.v).x x _) _ aj (by grind [ndC]) a4 (λ_ _=>Or.inr<|Or.inr ⟨C,B,a2⟩) h;rw[zzq]at b7;exact⟨t,b4,aj,a++z,by rw[b5,g,g,qvx E];grind [jqt],b6.app<|a6.D ay⟩
     ·rw[Xy b]at h |-;exact⟨B,hl,ay,[],by simp[g],jH⟩
    ·rw[Xy i,Xy e]at h |-;have g:jqt tag x=[]:=by grind [jqt]
     rw[g];by_cases k:zk L [33] st=true
     ·rw[lJ k]at h |-;by_cases F:tag=32
      ·simp_all
      ·rw[Xy F]at h |-;simp only at h |-;obtain⟨J,K,A⟩:=kqz c hl<|qjj h;obtain⟨a1,a2,a4,a7,a,a5,a6⟩:=d (tag+1) .nil (qg L [33] st) aj (by grind [ndC]) A aj h;exact⟨Or.inr<|Or.inl ⟨jh _,a2,rfl⟩,a4,by rw[zzq];omega,a,by rw[qvx kD];grind [jqt,yu],a6.D aj⟩
     ·rw[Xy k]at h |-;by_cases m:zk L [40] st=true
      ·rw[lJ m]at h |-;simp only at h |-;have h1:=kzz h;obtain⟨J,K,A⟩:=kqz c hl<|qjj h1;obtain⟨a1,a2,a4,a7,a,a5,a6⟩:=d 0 .nil (qg L [40] st) aj (by grind [ndC]) A aj h1;obtain⟨Q,R,H⟩:=kqz c a4 h;exact⟨a2,H,aj,a,by grind [jqt],(a6.D aj).high aj⟩
      ·rw[Xy m]at h |-;by_cases v:isConst (tk L st.v)=true
       ·rw[lJ v]at h |-;exact⟨by grind [isConst,kx9,py8,opX],c _ hl (by grind [isConst]),by rw[zzq];simp only;omega,[],by rw[qvx (vy0 v).1];rfl,by show _<=_;simp⟩
       ·rw[Xy v]at h |-;by_cases w:zxk (tk L st.v)=true
        ·rw[lJ w]at h |-;have I:qj0.toList=mW:=jh _;exact⟨Or.inl ⟨Or.inr<|Or.inl ⟨I,(xvu<|zq7 u hl w)⟩,rfl,rfl⟩,c _ hl (by grind [zxk]),by show 0+0+1+_<=_+(_+1);omega,[],by grind [yu,ownNames,vwe],by show _<=_;simp⟩
        ·rw[Xy w]at h |-;obtain⟨S,⟨M,y,P,_⟩,T,N,O⟩:=vjl c hl h;exact⟨M,N,by rw[P];show 0+0+1+_<=_;omega,_,rfl,O⟩
theorem zq6(a:kq6 L)(b:st.v<L.length)(h:(rX (kqb L) 0 .nil L st).2.s=false):st.s=false/\kx9 (rX (kqb L) 0 .nil L st).1/\(rX (kqb L) 0 .nil L st).2.v<L.length/\uh L st.v (rX (kqb L) 0 .nil L st).2.v (yu (rX (kqb L) 0 .nil L st).1)/\kk5 (rX (kqb L) 0 .nil L st).1<=801:=by obtain⟨a1,a2,a4,a7,l,a5,a6⟩:=xxp L a (kqb L) 0 .nil st aj (by show _+7<=_;unfold kqb;omega) b aj h;have:=a.T;exact⟨a1,a2,a4,by rw[a5];exact a6,by simp only[kk5]at a7;omega⟩
def kkz:PB->Prop
 |.nil=>True
 |.node _ _ a .nil n=>(kx9 a.N/\∃x,a.N=.node 0 0 x .nil .nil/\x.op.toList=ng)/\kx9 a.value/\a.A=.nil/\kkz n
 |.node _ _ a (.node _ _ _ t e) n=>kx9 a.A/\a.N=.nil/\a.value=.nil/\(kkz t/\kvt t<=801)/\(kkz e/\kvt e<=801)/\kkz n
theorem kkz.app:∀{a b:PB},kkz a->kkz b->kkz (kkp a b)
 |.nil,b,_,h=>h
 |.node _ _ a .nil n,b,⟨h1,h2,h3,h4⟩,h=>⟨h1,h2,h3,h4.app h⟩
 |.node _ _ a (.node _ _ _ t e) n,b,⟨h1,h2,h3,h4,h5,h6⟩,h=>⟨h1,h2,h3,h4,h5,h6.app h⟩
def BSm:PB->Prop
 |.nil=>True
 |.node _ _ a .nil n=>kk5 a.value<=801/\BSm n
 |.node _ _ a (.node _ _ _ t e) n=>kk5 a.A<=801/\BSm t/\BSm e/\BSm n
theorem BSm.app:∀{a b:PB},BSm a->BSm b->BSm (kkp a b)
 |.nil,b,_,h=>h
 |.node _ _ a .nil n,b,⟨h1,h2⟩,h=>⟨h1,h2.app h⟩
 |.node _ _ a (.node _ _ _ t e) n,b,⟨h1,h2,h3,h4⟩,h=>⟨h1,h2,h3,h4.app h⟩
theorem vk3:∀a b:PB,kvt (kkp a b)=kvt a+kvt b
 |.nil,b=>by simp[kkp,kvt]
 |.node _ _ a s n,b=>by simp only[kkp,kvt,vk3 n b];omega
theorem zjl:∀a b:PB,uo (kkp a b)=uo a++uo b
 |.nil,b=>rfl
 |.node _ _ a .nil n,b=>by simp only[kkp,uo,zjl n b,sZ]
 |.node _ _ a (.node _ _ _ t e) n,b=>by simp only[kkp,uo,zjl n b,sZ]
structure SIn (L:List Tok)(s:RS)(r:PB×RS):Prop where
 M:s.s=false
 well:kkz r.1
 sm:BSm r.1
 lt:r.2.v<L.length
 nms:uh L s.v r.2.v (uo r.1)
 T:s.v+kvt r.1<=r.2.v
theorem xwr(f:kq6 L){g6:RS->PB×RS}(m:∀s,(g6 s).2.s=false->s.s=false)(i:∀s,s.v<L.length->(g6 s).2.s=false->SIn L s (g6 s))(x:st.v<L.length)(h:(rDo g6 L st).2.s=false):SIn L st (rDo g6 L st)/\kvt (rDo g6 L st).1=1:=by
 have d:=f.jz4;have y:=f.T;unfold rDo at h |-;by_cases hi:zk L mY st=true
 ·rw[lJ hi]at h |-;have a:(g6 (rX (kqb L) 0 .nil L<|qg L mY st).2).2.s=false->st.s=false/\(qg L mY st).v=st.v+1/\kx9 (rX (kqb L) 0 .nil L<|qg L mY st).1 /\
    uh L (qg L mY st).v (rX (kqb L) 0 .nil L<|qg L mY st).2.v (yu (rX (kqb L) 0 .nil L<|qg L mY st).1)/\SIn L (rX (kqb L) 0 .nil L<|qg L mY st).2 (g6 (rX (kqb L) 0 .nil L<|qg L mY st).2)/\kk5 (rX (kqb L) 0 .nil L<|qg L mY st).1<=801:=by grind [kqz,qjj,zq6]
  by_cases l:zk L nU (g6 (rX (kqb L) 0 .nil L<|qg L mY st).2).2=true
  ·rw[lJ l]at h |-;simp only at h |-;have c:=m _ h;obtain⟨g,t,j,xn,b1,k⟩:=a<|kzz c;obtain⟨v,w,e⟩:=kqz d b1.lt c;have b:=i _ e h;have q:=xn.le;have A:=b1.T;have F:=b.T;have K:=b.lt;refine⟨⟨g,⟨j,rfl,rfl,⟨b1.well,aj⟩,⟨b.well,aj⟩,trivial⟩,⟨k,b1.sm,b.sm,trivial⟩,b.lt,?_,?_⟩,rfl⟩
   ·show uh L st.v _ (((kwa ⟨.nil,.nil,_⟩++uo _)++uo _)++uo .nil);rw[show uo (Go.Deep.BT.nil:PB)=[] from rfl,Qs];exact(b.nms.D aj).app (b1.nms.app<|xn.D aj)
   ·show st.v+1<=_;grind
  ·rw[Xy l]at h |-;simp only at h |-;obtain⟨g,t,j,xn,b1,k⟩:=a h;have q:=xn.le;have A:=b1.T;have J:=b1.lt;refine⟨⟨g,⟨j,rfl,rfl,⟨b1.well,aj⟩,⟨trivial,by simp[kvt]⟩,trivial⟩,⟨k,b1.sm,trivial,trivial⟩,b1.lt,?_,?_⟩,rfl⟩
   ·show uh L st.v _ (((kwa ⟨.nil,.nil,_⟩++uo _)++uo .nil)++uo .nil);rw[show uo (Go.Deep.BT.nil:PB)=[] from rfl,Qs,Qs];exact b1.nms.app<|xn.D aj
   ·show st.v+1<=_;grind
 ·rw[Xy hi]at h |-;simp only at h |-;have p:=kzz h;have c:=qjj p;have z:=kzz c;obtain⟨C,D,I,E,u⟩:=vjl d x z;obtain⟨H,t,B⟩:=kqz d E c;obtain⟨x1,x2,x3,x4,x5⟩:=zq6 f B p;obtain⟨v,w,e⟩:=kqz d x3 h;have G:=u.le;have q:=x4.le;refine⟨⟨C,⟨D,x2,rfl,trivial⟩,⟨x5,trivial⟩,e,?_,?_⟩,rfl⟩
  ·show uh L st.v _ (kwa ⟨_,_,.nil⟩++uo .nil);rw[show uo (Go.Deep.BT.nil:PB)=[] from rfl,Qs];show uh L st.v _ ((yu _++yu _)++yu .nil);rw[show yu (Go.Deep.BT.nil:PX)=[] from rfl,Qs];exact((x4.D aj).app u).high (by simp_all)
  ·show st.v+1<=_;grind
theorem zzw(h:(rS f tag L st).2.s=false):st.s=false:=kve λe=>by rw[qwg e]at h;cases h
theorem pqz(b:kq6 L):∀(f tag:Nat)(st:RS),st.v<L.length->(rS f tag L st).2.s=false->SIn L st (rS f tag L st)
 |0,tag,st,hl,h=>⟨h,trivial,trivial,hl,jH,by simp[rS,kvt]⟩
 |f+1,0,st,hl,h=>by
  have c:=b.jz4;rw[rS]at h |-;simp only at h |-;have hb:=kzz h;obtain⟨j,q,k⟩:=kqz c hl<|zzw hb;have a:=pqz b f 1 _ k hb;obtain⟨l,m,e⟩:=kqz c a.lt h;have i:=a.T;exact⟨j,a.well,a.sm,e,(a.nms.D aj).high (by simp_all),by grind⟩
 |f+1,t+1,st,hl,h=>by
  rw[rS]at h |-;by_cases d:(zk L [125] st||st.s)=true
  ·rw[lJ d]at h |-;exact⟨h,trivial,trivial,hl,jH,by simp[kvt]⟩
  ·rw[Xy d]at h |-;simp only at h |-;obtain⟨d1,d2⟩:SIn L st (rDo (rS f 0 L) L st)/\kvt (rDo (rS f 0 L) L st).1=1:=xwr b (λs=>zzw) (λs g hb=>pqz b f 0 s g hb) hl<|zzw h;have a:=pqz b f 1 _ d1.lt h;have i:=d1.T;have p:=a.T;exact⟨d1.M,d1.well.app a.well,d1.sm.app a.sm,a.lt,by rw[zjl];exact a.nms.app d1.nms,by rw[vk3];grind⟩
def qqi(p:PP):List Tok:=[p.y,p.Q]
theorem jy1(c:i<L.length)(a:((tk L i).t.toList==mX)=true)(hb:i+1<=b):uh L i b [tk L i]:=⟨i,jH,c,rfl,a,hb⟩
theorem xxc(a:zwe L)(b:st.v<L.length)(h:(rPP L st).2.s=false):st.s=false/\(rPP L st).2.v<L.length/\uh L st.v (rPP L st).2.v (qqi (rPP L st).1):=by unfold rPP at h |-;simp only at h |-;have c:=qqj h;obtain⟨a1,a2,a3,a4,a5⟩:=kx5 a b rfl<|kzz c;obtain⟨b1,d,b3⟩:=kqz a a5 c;obtain⟨c1,c2,c3,c4,c5⟩:=kx5 a b3 rfl h;refine⟨a1,c5,?_⟩;unfold qqi;simp only;rw[a2,c2];exact⟨_,jH,b,rfl,a3,_,aj,b3,rfl,c3,by show _<=_;omega⟩
theorem pwg(b:zwe L):∀(f:Nat)(l:List PP)(st:RS),st.v<L.length->(kws f L l st).2.s=false->st.s=false/\(kws f L l st).2.v<L.length/\∃a,(kws f L l st).1=l++a/\uh L st.v (kws f L l st).2.v (a.flatMap qqi)
 |0,l,st,hl,h=>⟨h,hl,[],by simp[kws],jH⟩
 |f+1,l,st,hl,h=>by
  rw[kws]at h |-;by_cases hb:st.s=true
  ·simp_all
  ·rw[Xy hb]at h |-;by_cases hn:zk L [44] (rPP L st).2=true
   ·rw[lJ hn]at h |-;have c:(qg L [44] (rPP L st).2).s=false:=kve λe=>by rw[jqc e,e]at h;cases h
    obtain⟨g,i,j⟩:=xxc b hl<|kzz c;obtain⟨k,m,d⟩:=kqz b i c;obtain⟨i1,i2,a,i3,i4⟩:=pwg b f _ _ d h;exact⟨g,i2,(rPP L st).1::a,by simp_all,(i4.D aj).app j⟩
   grind [xxc]
theorem jkp(a:zwe L)(g:st.v<L.length)(h:(kj0 L st).2.s=false):st.s=false/\(kj0 L st).2.v<L.length/\uh L st.v (kj0 L st).2.v ((kj0 L st).1.flatMap qqi):=by
 unfold kj0 at h |-;by_cases hn:zk L [41] (qg L [40] st)=true
 ·rw[lJ hn]at h |-;simp only at h |-;obtain⟨d,l,f⟩:=kqz a g<|kzz h;obtain⟨i,j,b⟩:=kqz a f h;exact⟨d,b,by show _<=_;omega⟩
 ·rw[Xy hn]at h |-;simp only at h |-;have c:=kzz h;have k:(qg L [40] st).s=false:=kve λe=>by rw[jqc e,e]at c;cases c
  obtain⟨d,l,f⟩:=kqz a g k;obtain⟨i1,i2,m,i3,i4⟩:=pwg a _ _ _ f c;obtain⟨i,j,b⟩:=kqz a i2 h;refine⟨d,b,?_⟩;rw[i3,Qd];exact(i4.D aj).high aj
theorem jqb(h:st.s=true):∀(f:Nat)(l:List Tok),(kkn f L l st).2=st:=by intro a;induction a<;>grind [kkn]
theorem py2(b:zwe L):∀(f:Nat)(l:List Tok)(st:RS),st.v<L.length->(kkn f L l st).2.s=false->st.s=false/\(kkn f L l st).2.v<L.length/\∃a,(kkn f L l st).1=l++a/\uh L st.v (kkn f L l st).2.v a
 |0,l,st,hl,h=>⟨h,hl,[],by simp[kkn],jH⟩
 |f+1,l,st,hl,h=>by
  rw[kkn]at h |-;by_cases hb:st.s=true
  ·simp_all
  ·rw[Xy hb]at h |-;by_cases hn:(zk L [44] (zq L mX st).2||decide (l.length+1<2))=true
   ·rw[lJ hn]at h |-;have c:(qg L [44] (zq L mX st).2).s=false:=(by grind [jqb]);obtain⟨a1,a2,a3,a4,a5⟩:=kx5 b hl rfl<|kzz c;obtain⟨e,g,d⟩:=kqz b a5 c;obtain⟨i1,i2,a,i3,i4⟩:=py2 b f _ _ d h;refine⟨a1,i2,(zq L mX st).1::a,by simp_all,?_⟩;exact⟨st.v,jH,hl,a2,by simp_all,i4.D aj⟩
   grind [kx5,zq,jy1]
theorem xkm(b:kq6 L)(st:RS)(i:st.v<L.length)(h:(kvc L st).2.s=false):st.s=false/\zz9 (kvc L st).1.size/\(kvc L st).2.v<L.length/\uh L st.v (kvc L st).2.v (zjy (kvc L st).1):=by have a:=b.jz4;unfold kvc at h |-;simp only at h |-;have c:=kzz h;have d:=qqj c;obtain⟨j,m,e⟩:=kqz a i<|qqj d;obtain⟨a1,a2,a3,a4,a5⟩:=kx5 a e rfl d;obtain⟨b1,f,b3,b4,b5⟩:=kx5 a a5 rfl c;obtain⟨k,l,g⟩:=kqz a b5 h;refine⟨j,by rw[f];exact zq7 b a5 b3,g,?_⟩;unfold zjy;simp only;rw[a2];exact(jy1 e a3 aj).D aj
theorem pyw(i:kq6 L)(j:st.v<L.length)(h:(kxz L st).2.s=false):st.s=false/\True/\(kxz L st).2.v<L.length/\uh L st.v (kxz L st).2.v (kx7 (kxz L st).1):=by
 have a:=i.jz4;unfold kxz kkr at h |-;simp only at h |-;have b:=kzz h;have d:(qg L [123] (zq L mX<|qg L ny st).2).s=false:=kve λe=>by rw[jqb e,e]at b;cases b
 have c:=kzz d;obtain⟨k,s,f⟩:=kqz a j<|qqj c;obtain⟨a1,a2,a3,a4,a5⟩:=kx5 a f rfl c;obtain⟨b1,l,b3⟩:=kqz a a5 d;obtain⟨i1,i2,q,i3,i4⟩:=py2 a _ _ _ b3 b;obtain⟨m,p,g⟩:=kqz a i2 h;refine⟨k,trivial,g,?_⟩;unfold kx7;simp only;rw[i3,Qd,a2];exact⟨_,aj,f,rfl,a3,(i4.D aj).high aj⟩
def kyv(t:Tok):List Tok:=if t.t.toList==mX then [t] else []
def kxi(v:PVar):List Tok:=v.y::(kyv v.g++kyv v.k)
def zxr(v:PVar):Prop:=(v.g=zh\/(v.g.t.toList==mX)=true) /\
 ((v.k.t.toList=nV/\v.k.x.toList=nP/\v.R=zh)\/(v.k.t.toList=nV/\v.k.x.toList=nD/\zz9 v.R/\v.R.t.toList=mW)\/(v.k.t.toList=mX/\v.R=zh))
theorem pwh:kyv zh=[]:=by unfold kyv;rw[dh];rfl
theorem xz6(a:zwe L)(c:st.v<L.length)(h:(kjn L st).2.s=false):st.s=false/\((kjn L st).1=zh\/((kjn L st).1.t.toList==mX)=true)/\(kjn L st).2.v<L.length/\uh L st.v (kjn L st).2.v (kyv (kjn L st).1):=by
 unfold kjn at h |-;by_cases hn:zk L [91] st=true
 ·rw[lJ hn]at h |-;simp only at h |-;have b:=kzz h;obtain⟨f,j,d⟩:=kqz a c<|qqj b;obtain⟨a1,a2,a3,a4,a5⟩:=kx5 a d rfl b;obtain⟨g,i,e⟩:=kqz a a5 h;refine⟨f,(by simp_all),e,?_⟩;unfold kyv;rw[a2,a3,lJ rfl];exact(jy1 d a3 aj).D aj
 ·rw[Xy hn]at h |-;exact⟨h,Or.inl rfl,c,by rw[pwh];exact jH⟩
theorem xkw(i:kq6 L)(d:st.v<L.length)(h:(kku L st).2.s=false):st.s=false/\(kku L st).2.v<L.length /\
  (((tk L st.v).t.toList=nV/\(tk L st.v).x.toList=nP/\(kku L st).1=zh)\/((tk L st.v).t.toList=nV/\(tk L st.v).x.toList=nD/\zz9 (kku L st).1/\(kku L st).1.t.toList=mW)\/((tk L st.v).t.toList=mX/\(kku L st).1=zh)) /\
  uh L st.v (kku L st).2.v (kyv<|tk L st.v):=by
 have b:=i.jz4;have a:∀l:List UInt8,l∈lits->(∃c r,l=c::r/\(decide (97<=(c.toNat:Int))&&decide ((c.toNat:Int)<=122))=true)->zk L l st=true->(tk L st.v).t.toList=nV/\(tk L st.v).x.toList=l/\kyv (tk L st.v)=[]:=λl k m hn=>by grind [zkb,kz8,kyv]
 unfold kku at h |-;by_cases hb:zk L nP st=true
 ·rw[lJ hb]at h |-;simp only at h |-;obtain⟨f,j,g⟩:=kqz b d h;obtain⟨k1,k2,k3⟩:=a _ ak ay hb;exact⟨f,g,(by simp_all),by rw[k3];show _<=_;omega⟩
 ·rw[Xy hb]at h |-;by_cases e:zk L nD st=true
  ·rw[lJ e]at h |-;obtain⟨f,j,g⟩:=kqz b d<|qqj h;obtain⟨a1,a2,a3,a4,a5⟩:=kx5 b g rfl h;obtain⟨k1,k2,k3⟩:=a _ ak ay e;refine⟨f,a5,(by grind [zq7]),by rw[k3];show _<=_;omega⟩
  ·rw[Xy e]at h |-;simp only at h |-;obtain⟨a1,a2,a3,a4,a5⟩:=kx5 b d rfl h;grind [kyv,jy1]
theorem xz5(h:(kjn L st).2.s=false):st.s=false:=kve λe=>by rw[jk8 e]at h;cases h
theorem xkv(h:(kku L st).2.s=false):st.s=false:=kve λe=>by rw[vjt e]at h;cases h
theorem xkz(b:kq6 L)(st:RS)(j:st.v<L.length)(h:(kyt L st).2.s=false):st.s=false/\zxr (kyt L st).1/\(kyt L st).2.v<L.length/\uh L st.v (kyt L st).2.v (kxi (kyt L st).1):=by have a:=b.jz4;unfold kyt at h |-;simp only at h |-;have f:=kzz h;have e:=xkv f;have d:=xz5 e;have c:=kzz d;obtain⟨k,u,g⟩:=kqz a j<|qqj c;obtain⟨a1,a2,a3,a4,a5⟩:=kx5 a g rfl c;obtain⟨b1,q,b3⟩:=kqz a a5 d;obtain⟨o1,o2,o3,o4⟩:=xz6 a b3 e;obtain⟨v,l,m,p⟩:=xkw b o3 f;obtain⟨s,t,i⟩:=kqz a l h;refine⟨k,⟨o2,m⟩,i,?_⟩;unfold kxi;simp only;rw[a2];exact⟨_,aj,g,rfl,a3,((p.app<|o4.D aj).high aj)⟩
def kqp(r:PRule):List Tok:=r.y::(r.u.flatMap qqi++(yu r.guard++uo r.S))
def xvt(r:PRule):Prop:=kk5 r.guard<=801/\BSm r.S
def kvw(r:PRule):Prop:=kx9 r.guard/\kkz r.S/\kvt r.S<=801/\xvt r
theorem jkg(h:(kj0 L st).2.s=false):st.s=false:=kve λe=>by rw[zvn e]at h;cases h
theorem xjr(b:kq6 L)(st:RS)(l:st.v<L.length)(h:(kjr L st).2.s=false):st.s=false/\kvw (kjr L st).1/\(kjr L st).2.v<L.length/\uh L st.v (kjr L st).2.v (kqp (kjr L st).1):=by
 have a:=b.jz4;have m:=b.T;unfold kjr at h |-;simp only at h |-;have d:(qzs L st).2.s=false:=zzw h;have f:(qg L mY (qvh L st).2).s=false:=qjj d;have g:(qvh L st).2.s=false:=kzz f;have e:(jqv L st).2.s=false:=jkg g;obtain⟨p,x,j⟩:=kqz a l<|qqj e;obtain⟨a1,a2,a3,a4,a5⟩:=kx5 a j rfl e;obtain⟨y,q,t⟩:=jkp a a5 g;obtain⟨b1,k,b3⟩:=kqz a q f;obtain⟨x1,x2,x3,x4,x5⟩:=zq6 b b3 d;have s:=pqz b _ _ _ x3 h;have i:=s.lt;have c:kvt (rS (qqn L) 0 L (qzs L st).2).1<=801:=by have:kvt (rS (qqn L) 0 L (qzs L st).2).1<=(rS (qqn L) 0 L (qzs L st).2).2.v:=rP (Nat.le_add_left _ _) s.T;have w:(rS (qqn L) 0 L (qzs L st).2).2.v<L.length:=i;omega
 refine⟨p,⟨x2,s.well,c,x5,s.sm⟩,i,?_⟩;unfold kqp;simp only;rw[show(jqv L st).1=_ from a2];refine⟨_,aj,j,rfl,a3,?_⟩;have c1:uh L (jqv L st).2.v (qvh L st).2.v ((qvh L st).1.flatMap qqi):=t;have c2:uh L (qg L mY (qvh L st).2).v (qzs L st).2.v (yu (qzs L st).1):=x4;have u:(jqv L st).2.v=(qg L nX st).v+1:=a4;have v:(qg L mY (qvh L st).2).v=(qvh L st).2.v+1:=k;exact((s.nms.app<|c2.D aj).app c1).D aj
theorem pwo(b:kq6 L)(st:RS)(j:st.v<L.length)(h:(kzw L st).2.s=false):st.s=false/\(kvw (kzw L st).1/\(kzw L st).1.S=.nil)/\(kzw L st).2.v<L.length/\uh L st.v (kzw L st).2.v (kqp (kzw L st).1):=by have a:=b.jz4;unfold kzw at h |-;simp only at h |-;have c:(qvz L st).2.s=false:=kzz h;have e:(qwn L st).2.s=false:=qjj c;have d:(zjb L st).2.s=false:=jkg e;obtain⟨k,t,f⟩:=kqz a j<|qqj d;obtain⟨a1,a2,a3,a4,a5⟩:=kx5 a f rfl d;obtain⟨u,l,m⟩:=jkp a a5 e;obtain⟨x1,x2,x3,x4,x5⟩:=zq6 b l c;obtain⟨s,g,i⟩:=kqz a x3 h;refine⟨k,⟨⟨x2,trivial,by simp[kvt],x5,trivial⟩,ay⟩,i,?_⟩;unfold kqp;simp only;rw[show(zjb L st).1=_ from a2,show uo (Go.Deep.BT.nil:PB)=[] from rfl,Qs];refine⟨_,aj,f,rfl,a3,?_⟩;have c1:uh L (zjb L st).2.v (qwn L st).2.v ((qwn L st).1.flatMap qqi):=m;have c2:uh L (qwn L st).2.v (qvz L st).2.v (yu (qvz L st).1):=x4;have p:(zjb L st).2.v=(qg L nK st).v+1:=a4;have q:(qg L [59] (qvz L st).2).v=(qvz L st).2.v+1:=g;exact((c2.app c1).D aj).high aj
theorem zx8(h1:∀s,s.v<L.length->(one s).2.s=false->s.s=false/\P (one s).1/\(one s).2.v<L.length/\uh L s.v (one s).2.v (nm (one s).1)):∀(f:Nat)(l:List α)(s:RS),s.v<L.length->(loopA L lit one f l s).2.s=false->s.s=false/\(loopA L lit one f l s).2.v<L.length/\∃a,(loopA L lit one f l s).1=l++a/\(∀x∈a,P x)/\uh L s.v (loopA L lit one f l s).2.v (a.flatMap nm)
 |0,l,s,hl,h=>⟨h,hl,[],by simp[loopA],ay,jH⟩
 |f+1,l,s,hl,h=>by
  rw[loopA]at h |-;by_cases hn:zk L lit s=true
  ·rw[lJ hn]at h |-;have c:(one s).2.s=false:=(by grind [kyl]);obtain⟨a1,a2,a3,a4⟩:=h1 s hl c;obtain⟨b1,b,a,b3,b4,b5⟩:=zx8 h1 f _ _ a3 h;refine⟨a1,b,(one s).1::a,by simp_all,?_,b5.app a4⟩;simp_all
  ·rw[Xy hn]at h |-;exact⟨h,hl,[],ay,ay,jH⟩
theorem jjv(h1:∀s,s.v<L.length->(one s).2.s=false->s.s=false/\P (one s).1/\(one s).2.v<L.length/\uh L s.v (one s).2.v (nm (one s).1)):∀(f:Nat)(l:List α)(s:RS),s.v<L.length->(kx6 L lit one f l s).2.s=false->s.s=false/\(kx6 L lit one f l s).2.v<L.length/\∃a,(kx6 L lit one f l s).1=l++a/\(∀x∈a,P x)/\uh L s.v (kx6 L lit one f l s).2.v (a.flatMap nm)
 |0,l,s,hl,h=>⟨h,hl,[],by simp[kx6],ay,jH⟩
 |f+1,l,s,hl,h=>by
  rw[kx6]at h |-;by_cases hb:s.s=true
  ·simp_all
  ·rw[Xy hb]at h |-;by_cases hn:zk L lit (one s).2=true
   ·rw[lJ hn]at h |-;have c:(one s).2.s=false:=(by grind [kyn]);obtain⟨a1,a2,a3,a4⟩:=h1 s hl c;obtain⟨b1,b,a,b3,b4,b5⟩:=jjv h1 f _ _ a3 h;refine⟨a1,b,(one s).1::a,by simp_all,?_,b5.app a4⟩;simp_all
   simp_all
theorem vzb:∀(f:Nat)(l:List α)(s:RS),(kx6 L lit one (f+1) l s).2.s=false->s.s=false->l.length<(kx6 L lit one (f+1) l s).1.length
 |0,l,s,h,hs=>by
  grind [kx6]
 |f+1,l,s,h,hs=>by
  rw[kx6]at h |-;rw[Xy (by simp_all)]at h |-;by_cases hn:zk L lit (one s).2=true
  ·rw[lJ hn]at h |-;have a:(one s).2.s=false:=kve λe=>by rw[kyn e]at h;simp_all
   have:=vzb f (l++[(one s).1]) (one s).2 h a;grind
  simp_all
theorem vjn(L:List Tok):∀(f:Nat)(l:List Tok)(st:RS),l.length<=(kkn f L l st).1.length
 |0,l,st=>jH
 |f+1,l,st=>by
  rw[kkn];split
  ·simp
  ·split
   ·have:=vjn L f (l++[(zq L mX st).1])<|qg L [44] (zq L mX st).2;grind
   ·simp
theorem xjo(L:List Tok)(f:Nat)(l:List Tok)(h:st.s=false):l.length<(kkn (f+1) L l st).1.length:=by
 rw[kkn,Xy (by simp_all)];split
 ·have:=vjn L f (l++[(zq L mX st).1])<|qg L [44] (zq L mX st).2;grind
 ·simp
theorem pyv(h:(kxz L st).2.s=false):0<(kxz L st).1.i.length:=by
 have h1:(kkr L (zq L mX<|qg L ny st).2).2.s=false:=h;unfold kkr at h1;have a:=kzz h1;have b:(qg L [123] (zq L mX<|qg L ny st).2).s=false:=kve λe=>by rw[jqb e,e]at a;cases a
 have:=xjo L (L.length+1) [] b;exact this
def kzt(t:PTree):List Tok:=t.j.flatMap zjy++(t.p.flatMap kx7++(t.z.flatMap kxi++(t.l.flatMap kqp++t.q.flatMap kqp)))
structure qyw (L:List Tok)(t:PTree):Prop where
 nms:uh L 0 L.length (kzt t)
 j:∀s∈t.j,zz9 s.size
 p:∀k∈t.p,0<k.i.length
 z:∀v∈t.z,zxr v
 vne:0<t.z.length
 l:∀r∈t.l,kvw r
 q:∀r∈t.q,kvw r/\r.S=.nil
theorem tree_good(b:kq6 L)(h:(uz L).2=none):qyw L (uz L).1:=by
 have hb:(kwh L).2.s=false:=by grind [jk5]
 have hN:=hb;unfold kwh at hN;rw[qys]at hN;have hR:(kyq L).2.s=false:=(by grind [kyl]);have c:=hR;unfold kyq at c;rw[zzn]at c;have y:(kw9 L).2.s=false:=(by grind [kyn]);have d:=y;unfold kw9 at d;rw[zzt]at d;have hH:(kzb L kqa).2.2.s=false:=(by grind [kyn]);have a:=hH;unfold kzb at a;simp only at a;rw[zzf]at a;have j:(kyx (kq2 L) L [] kqa).2.s=false:=(by grind [kyl]);rw[zy4]at j;obtain⟨s1,q,ls,s3,H,t⟩:=zx8 (P:=λs=>zz9 s.size) (xkm b) (kq2 L) [] kqa b.pos j;rw[<-zy4]at q s3 t;obtain⟨k1,k2,e,k3,k4,k5⟩:=zx8 (P:=λk:PKind=>0<k.i.length) (λs z l=>by obtain⟨A,_,B,C⟩:=pyw b z l;exact⟨A,pyv l,B,C⟩) (kq2 L) [] _ q a;rw[<-zzf]at k2 k3 k5;obtain⟨I,u,i,E,J,v⟩:=jjv (P:=zxr) (xkz b) (kq2 L) [] (kzb L kqa).2.2 k2 d;have vne:0<(zzr (kq2 L) L [] (kzb L kqa).2.2).1.length:=by grind [zzt,kq2,vzb]
 rw[<-zzt]at u E v;obtain⟨F,m,g,D,G,p⟩:=jjv (P:=kvw) (xjr b) (kq2 L) [] (kw9 L).2 u c;rw[<-zzn]at m D p;obtain⟨n1,n2,f,n3,n4,n5⟩:=zx8 (P:=λr=>kvw r/\r.S=.nil) (pwo b) (kq2 L) [] (kyq L).2 m hN;rw[<-qys]at n2 n3 n5;have es:(uz L).1.j=ls:=by show(kyx (kq2 L) L [] kqa).1=ls;simp_all
 have w:(uz L).1.p=e:=by show(qqe (kq2 L) L [] (kyx (kq2 L) L [] kqa).2).1=e;simp_all
 have ev:(uz L).1.z=i:=by show(zzr (kq2 L) L [] (kzb L kqa).2.2).1=i;simp_all
 have x:(uz L).1.l=g:=by show(qwp (kq2 L) L [] (kw9 L).2).1=g;simp_all
 have en:(uz L).1.q=f:=by show(qze (kq2 L) L [] (kyq L).2).1=f;simp_all
 refine⟨?_,by simp_all,by simp_all,by simp_all,vne,by simp_all,by simp_all⟩;unfold kzt;rw[es,w,ev,x,en];have c1:uh L 0 (kyx (kq2 L) L [] kqa).2.v (ls.flatMap zjy):=t;have c2:uh L (kyx (kq2 L) L [] kqa).2.v (kzb L kqa).2.2.v (e.flatMap kx7):=k5;have c3:uh L (kzb L kqa).2.2.v (kw9 L).2.v (i.flatMap kxi):=v;have c4:uh L (kw9 L).2.v (kyq L).2.v (g.flatMap kqp):=p;have c5:uh L (kyq L).2.v (kwh L).2.v (f.flatMap kqp):=n5;have c6:(kwh L).2.v<L.length:=n2;exact(((((c5.app c4).app c3).app c2).app c1)).high aj
def kqw(z:Int)(l:List Tok):Int:=l.foldl (λz t=>xu z t.v) z
theorem kq0:kqw z (L++g7)=kqw (kqw z L) g7:=Q5 ..
theorem pxh(h:-1<=z):-1<=xu z n:=by unfold xu;omega
theorem kqr:∀(l:List Tok){z:Int},-1<=z->-1<=kqw z l
 |[],z,h=>h
 |t::l,z,h=>kqr l<|pxh h
theorem jj6:∀(l:List Tok)(z:Int),0<=z->kqw z l<=z/\(∀y∈l,kqw z l<=y.v)/\(kqw z l=z\/∃y∈l,kqw z l=y.v)
 |[],z,h=>⟨Int.le_refl _,ay,.inl rfl⟩
 |t::l,z,h=>by
  have d:0<=xu z t.v:=by unfold xu;omega
  have e:xu z t.v<=z/\xu z t.v<=t.v/\(xu z t.v=z\/xu z t.v=t.v):=by unfold xu;omega
  obtain⟨a,b,c⟩:=jj6 l _ d;grind [kqw]
theorem qx1:∀(l:List Tok),l≠[]->(∃y∈l,kqw (-1) l=y.v)/\∀y∈l,kqw (-1) l<=y.v
 |[],h=>(h rfl).elim
 |t::l,_=>by
  have e:kqw (-1) (t::l)=kqw t.v l:=by grind [kqw,xu]
  simp_all [jj6]
theorem jj7(h:kqw (-1) L<0):L=[]:=by
 by_cases e:L=[]
 ·exact e
 ·obtain⟨⟨y,_,a⟩,_⟩:=qx1 L e;omega
theorem vz2(h1:∀x∈L,∃y∈g7,y.v<=x.v)(f:∀y∈g7,∃x∈L,x.v<=y.v):kqw (-1) L=kqw (-1) g7:=by
 by_cases b:L=[]
 ·subst b;by_cases a:g7=[]
  ·simp_all
  ·obtain⟨y,d⟩:=ZW g7 a;simp_all
 ·by_cases a:g7=[]
  ·subst a;obtain⟨x,c⟩:=ZW L b;simp_all
  ·obtain⟨⟨x,c,ex⟩,g⟩:=qx1 L b;obtain⟨⟨y,d,e⟩,h⟩:=qx1 g7 a;grind
theorem zjd:∀(b:List Tok)(z:Int),0<=z->kqw z b=xu z (kqw (-1) b)
 |[],z,h=>by
  show z=xu z (-1);unfold xu;omega
 |t::b,z,h=>by
  have a:kqw z (t::b)=kqw (xu z t.v) b:=rfl;have c:kqw (-1) (t::b)=kqw t.v b:=by grind [kqw,xu]
  have d:=kqr b (z:=-1) aj;rw[a,c,zjd b _ (by unfold xu;omega),zjd b t.v aj];grind [xu]
theorem zw9(a b:List Tok):xu (kqw (-1) a) (kqw (-1) b)=kqw (-1) (a++b):=by
 rw[kq0];by_cases e:a=[]
 ·subst e;show xu (-1) _=_;unfold xu;rw[lJ aj];rfl
 ·obtain⟨⟨y,_,c⟩,_⟩:=qx1 a e;grind [zjd]
def kqd(c:Bool)(t:Tok):List Tok:=if c then [t] else []
theorem jk{g8:Tok}:y∈kqd e8 g8↔e8=true/\y=g8:=by unfold kqd;simp
def jf{α:Type}(g:Nat->α->List Tok):List α->Nat->List Tok
 |[],_=>[]
 |x::l,i=>g i x++jf g l (i+1)
theorem zo{g:Nat->α->List Tok}:∀(l:List α)(k:Nat),y∈jf g l k↔∃i,∃h:i<l.length,y∈g (k+i) l[i]
 |[],k=>by simp[jf]
 |x::l,k=>by
  rw[jf,rV,zo l (k+1)];constructor
  ·rintro(h|⟨i,hi,h⟩)
   ·exact⟨0,ay,by simp_all⟩
   ·exact⟨i+1,by simp_all,by grind⟩
  grind
theorem kq7{f:Int->Nat->α->Int}{g:Nat->α->List Tok}(h:∀a i x,-1<=a->f a i x=kqw a (g i x)):∀(l:List α)(i:Nat)(a:Int),-1<=a->yx f l i a=kqw a (jf g l i)
 |[],i,a,_=>rfl
 |x::l,i,a,ha=>by rw[yx,jf,kq0,h a i x ha];exact kq7 h l _ _<|kqr _ ha
theorem kw4{f:Int->α->Int}{g:α->List Tok}(h:∀a x,-1<=a->f a x=kqw a (g x)):∀(l:List α)(a:Int),-1<=a->l.foldl f a=kqw a (l.flatMap g)
 |[],a,_=>rfl
 |x::l,a,ha=>by rw[ZX,Jy,kq0,h a x ha];exact kw4 h l _<|kqr _ ha
theorem kyr(a:-1<=z):xu z (qkz n z0 y)=kqw z (kqd ((n:Int)==z0) y):=by
 unfold qkz kqd;split
 ·rfl
 ·show xu z (-1)=z;unfold xu;omega
theorem vje{g9:Int}(a:-1<=z):xu z (vji y z0 g9)=kqw z (kqd (decide (mg y.x<z0\/g9<mg y.x)) y):=by
 unfold vji kqd;by_cases h:mg y.x<z0\/g9<mg y.x
 ·rw[lJ h,lJ kV];rfl
 ·rw[Xy h,Xy kV];show xu z (-1)=z;unfold xu;omega
theorem qzu(a:Int)(n:Nat)(most:Int)(t:Tok):qxh a n most t=kqw a (kqd (decide (most<=(n:Int))) t):=by
 unfold qxh kqd;by_cases h:most<=(n:Int)
 ·rw[lJ h,lJ kV];rfl
 ·rw[Xy h,Xy kV];rfl
theorem vj8(a:Int)(t:Tok)(lo hi:Int):vv7 a t lo hi=kqw a (kqd (decide (mg t.x<lo\/hi<mg t.x)) t):=by
 unfold vv7 kqd;by_cases h:mg t.x<lo\/hi<mg t.x
 ·rw[lJ h,lJ kV];rfl
 ·rw[Xy h,Xy kV];rfl
theorem kkl:kjo e8 z y=kqw z (kqd e8 y):=by unfold kjo kqd;cases e8<;>rfl
def pzt(t:Tok)(lo hi:Int):Bool:=decide (mg t.x<lo\/hi<mg t.x)
def mS(i:Nat)(s:PSet):List Tok:=kqd ((i:Int)==2) s.y++kqd (pzt s.size 2 3) s.size
def mM(i:Nat)(m:Tok):List Tok:=kqd ((i:Int)==4) m
def mK(i:Nat)(k:PKind):List Tok:=kqd ((i:Int)==2) k.y++jf mM k.i 0
def mV(i:Nat)(v:PVar):List Tok:=kqd ((i:Int)==4) v.y++kqd ((v.R.t.toList==mW)&&pzt v.R 1 3) v.R
def mR(i:Nat)(r:PRule):List Tok:=kqd ((i:Int)==5) r.y
def mN(i:Nat)(r:PRule):List Tok:=kqd ((i:Int)==3) r.y
def mP(i:Nat)(p:PP):List Tok:=kqd ((i:Int)==2) p.y
def mQ(_:Nat)(r:PRule):List Tok:=jf mP r.u 0
theorem jwq(t:PTree):kk7 t=kqw (-1) (((((jf mS t.j 0++jf mK t.p 0)++jf mV t.z 0)++jf mR t.l 0)++jf mN t.q 0)++jf mQ (t.l++t.q) 0):=by
 have g:-1<=kqw (-1) (jf mS t.j 0):=kqr _ aj;have e:many1 t=kqw (-1) (jf mS t.j 0):=kq7 (λa i x b=>by unfold pqn mS;rw[kyr b,vje (kqr _ b),kq0];rfl) _ _ _ aj;have c:vzd t=kqw (-1) (jf mS t.j 0++jf mK t.p 0):=by grind [vzd,kq0,kq7,vzu,mK,kyr,pqs,mM,kqr]
 have f:vzp t=kqw (-1) ((jf mS t.j 0++jf mK t.p 0)++jf mV t.z 0):=by
  unfold vzp;rw[c];refine Eq.trans ?_ (kq0).symm;exact kq7 (λa i x b=>by
   unfold zw3 mV;cases h:(x.R.t.toList==mW)
   ·rw[Xy ay,kyr b,kq0];rfl
   ·rw[lJ rfl,kyr b,vje (kqr _ b),kq0];rfl) _ _ _ (by simp_all [kqr])
 have d:vzg t=kqw (-1) (((jf mS t.j 0++jf mK t.p 0)++jf mV t.z 0)++jf mR t.l 0):=by unfold vzg;grind [kq0,kq7,vzy,mR,kyr,kqr]
 have e5:jv0 t=kqw (-1) ((((jf mS t.j 0++jf mK t.p 0)++jf mV t.z 0)++jf mR t.l 0)++jf mN t.q 0):=by unfold jv0;rw[d];refine Eq.trans ?_ (kq0).symm;grind [kq7,manyN,mN,kyr,kqr]
 unfold kk7;rw[e5];exact Eq.trans (kq7 (by grind [jki,mQ,kq7,pql,mP,kyr]) _ _ _<|by simp_all [kqr]) (kq0).symm
def qS(i:Nat)(s:PSet):List Tok:=kqd (decide ((2:Int)<=i)) s.y++kqd (pzt s.size 2 3) s.size
def qM(i:Nat)(m:Tok):List Tok:=kqd (decide ((4:Int)<=i)) m
def qK(i:Nat)(k:PKind):List Tok:=kqd (decide ((2:Int)<=i)) k.y++jf qM k.i 0
def qV(i:Nat)(v:VrT):List Tok:=kqd (decide ((4:Int)<=i)) v.y++kqd ((v.si.I==1)&&pzt v.si.R 1 3) v.si.R
def qP(i:Nat)(p:PP):List Tok:=kqd (decide ((2:Int)<=i)) p.y
def qR(i:Nat)(r:PRule):List Tok:=kqd (decide ((5:Int)<=i)) r.y++jf qP r.u 0
def qN(i:Nat)(r:PRule):List Tok:=kqd (decide ((3:Int)<=i)) r.y++jf qP r.u 0
theorem jqi(m:MdL):qz2 m=kqw (-1) ((((jf qS m.j 0++jf qK m.p 0)++jf qV m.z 0)++jf qR m.l 0)++jf qN m.q 0):=by
 have e:pm1 m=kqw (-1) (jf qS m.j 0):=kq7 (λa i x d=>by unfold pS qS;rw[qzu,vj8,kq0];rfl) _ _ _ aj;have g:-1<=kqw (-1) (jf qS m.j 0):=kqr _ aj;have b:pm2 m=kqw (-1) (jf qS m.j 0++jf qK m.p 0):=by grind [pm2,kq0,kq7,pK,qK,qzu,pM,qM,kqr]
 have f:pm3 m=kqw (-1) ((jf qS m.j 0++jf qK m.p 0)++jf qV m.z 0):=by
  unfold pm3;rw[b];refine Eq.trans ?_ (kq0).symm;exact kq7 (λa i x d=>by
   unfold pV qV;cases h:(x.si.I==1)
   ·rw[Xy ay,qzu,kq0];rfl
   ·rw[lJ rfl,qzu,vj8,kq0];rfl) _ _ _ (by simp_all [kqr])
 have j:∀(l:List PP)(a:Int),-1<=a->yx vy1 l 0 a=kqw a (jf qP l 0):=(by grind [kq7,vy1,qP,qzu]);have c:pm4 m=kqw (-1) (((jf qS m.j 0++jf qK m.p 0)++jf qV m.z 0)++jf qR m.l 0):=by unfold pm4;grind [kq0,kq7,pR,qR,qzu,kqr]
 unfold qz2;rw[c];exact Eq.trans (kq7 (by grind [pN,qN,qzu,kq0,kqr]) _ _ _<|by simp_all [kqr]) (kq0).symm
structure TreeInc (t:PTree):Prop where
 j:(t.j.flatMap zjy).Pairwise (λa b=>a.v<b.v)
 p:(t.p.flatMap kx7).Pairwise (λa b=>a.v<b.v)
 z:(t.z.flatMap kxi).Pairwise (λa b=>a.v<b.v)
 l:(t.l.flatMap kqp).Pairwise (λa b=>a.v<b.v)
 q:(t.q.flatMap kqp).Pairwise (λa b=>a.v<b.v)
theorem qyw.pw(c:kq6 L)(h:qyw L h7):(kzt h7).Pairwise (λa b=>a.v<b.v):=(h.nms.ats c.inc).2
theorem pv3(h:(kzt h7).Pairwise (λa b=>a.v<b.v)):TreeInc h7:=by unfold kzt at h;rw[QC,QC,QC,QC]at h;exact⟨h.1,h.2.1.1,h.2.1.2.1.1,h.2.1.2.1.2.1.1,h.2.1.2.1.2.1.2.1⟩
theorem qkc{f:α->List Tok}{nm:α->Tok}(g:∀x,nm x∈f x){l:List α}(h:(l.flatMap f).Pairwise (λa b=>a.v<b.v))(d:i<=j)(c:j<l.length):(nm (l[i]'aj)).v<=(nm l[j]).v:=by
 rw[List.pairwise_flatMap]at h;by_cases e:i=j
 ·simp_all
 ·have:=sQ.1 h.2 i j aj c aj;grind
theorem xjw(h:L.Pairwise (λa b=>a.v<b.v))(d:i<=j)(c:j<L.length):(L[i]'aj).v<=(L[j]).v:=by
 by_cases e:i=j
 ·simp_all
 ·exact Qr (sQ.1 h i j aj c aj)
theorem xz3(p:PP):p.y∈qqi p:=rZ ..
theorem pzq{h9:PRule}(h:(kqp h9).Pairwise (λa b=>a.v<b.v)):(h9.u.flatMap qqi).Pairwise (λa b=>a.v<b.v):=by grind [kqp]
theorem vjf(h:(l.flatMap qqi).Pairwise (λa b=>a.v<b.v))(c:y∈jf qP l 0):∃x∈jf mP l 0,x.v<=y.v:=by rw[zo]at c;obtain⟨i,hi,c⟩:=c;unfold qP at c;rw[jk,sD]at c;obtain⟨e,rfl⟩:=c;have d:2<=i:=aj;refine⟨(l[2]'aj).y,?_,qkc xz3 h d hi⟩;grind [zo,mP,jk]
theorem jky(a:y∈jf mP l 0):y∈jf qP l 0:=by grind [zo,mP,qP,jk]
theorem pzi(hv:∀v∈h7.z,zxr v)(h:TreeInc h7):qz2 (ql h7)=kk7 h7:=by
 rw[jqi,jwq];have kp:∀k∈h7.p,k.i.Pairwise (λa b=>a.v<b.v):=λk C=>by have:=h.p;grind [kx7]
 have u:∀(l:List PRule),(l.flatMap kqp).Pairwise (λa b=>a.v<b.v)->∀r∈l,(r.u.flatMap qqi).Pairwise (λa b=>a.v<b.v):=(by grind [pzq]);have vt:∀v∈h7.z,((jw v).si.I==1)=(v.R.t.toList==mW)/\(((jw v).si.I==1)=true->(jw v).si.R=v.R):=λv z=>by
  obtain⟨_,h1|h1|h1⟩:=hv v z
  ·grind [jw,dh]
  ·grind [jw]
  grind [jw,dh]
 apply vz2
 ·intro x d;simp only[rV]at d;obtain(((d|d)|d)|d)|d:=d
  ·rw[zo]at d;obtain⟨i,hi,d⟩:=d;have e:i<h7.j.length:=hi;unfold qS at d;rw[rV,jk,jk,sD]at d;obtain⟨g,rfl⟩|⟨g,rfl⟩:=d
   ·refine⟨(h7.j[2]'aj).y,?_,qkc (f:=zjy) (nm:=λs:PSet=>s.y) (λx=>rZ ..) h.j aj e⟩;grind [zo,mS,jk]
   ·refine⟨(h7.j[i]'e).size,?_,jH⟩;simp only[rV,zo];exact .inl (.inl<|.inl (.inl<|.inl ⟨i,e,by unfold mS;rw[rV,jk,jk];exact .inr ⟨g,rfl⟩⟩))
  ·rw[zo]at d;obtain⟨i,hi,d⟩:=d;have e:i<h7.p.length:=hi;unfold qK at d;rw[rV,jk,sD,zo]at d;obtain⟨g,rfl⟩|⟨j,q,d⟩:=d
   ·refine⟨(h7.p[2]'aj).y,?_,qkc (f:=kx7) (nm:=λs:PKind=>s.y) (λx=>rZ ..) h.p aj e⟩;simp only[rV,zo];grind [mK,jk]
   ·unfold qM at d;rw[jk,sD]at d;obtain⟨B,rfl⟩:=d;have t:j<(h7.p[i]'e).i.length:=q;refine⟨(h7.p[i]'e).i[4]'aj,?_,xjw (by simp_all) aj t⟩;simp only[rV,zo];grind [mK,zo,mM,jk]
  ·rw[zo]at d;obtain⟨i,hi,d⟩:=d;have e:i<h7.z.length:=by simpa[ql] using hi
   have ev:(ql h7).z[i]=jw (h7.z[i]'e):=by simp[ql]
   rw[ev]at d;obtain⟨f1,f2⟩:=vt _<|wZ e;unfold qV at d;rw[rV,jk,jk,sD,rG]at d;obtain⟨g,rfl⟩|⟨⟨g,w⟩,rfl⟩:=d
   ·refine⟨(h7.z[4]'aj).y,?_,qkc (f:=kxi) (nm:=λs:PVar=>s.y) (λx=>rZ ..) h.z aj e⟩;grind [zo,mV,jk]
   ·rw[f2 g]at w;refine⟨(h7.z[i]'e).R,?_,by simp_all⟩;grind [zo,mV,jk]
  ·rw[zo]at d;obtain⟨i,hi,d⟩:=d;have e:i<h7.l.length:=hi;unfold qR at d;rw[rV,jk,sD]at d;obtain⟨g,rfl⟩|d:=d
   ·refine⟨(h7.l[5]'aj).y,?_,qkc (f:=kqp) (nm:=λs:PRule=>s.y) (λx=>rZ ..) h.l aj e⟩;grind [zo,mR,jk]
   ·obtain⟨y,c,m⟩:=vjf (u _ h.l _<|wZ e) d;refine⟨y,?_,m⟩;rw[rV,zo (h7.l++h7.q)];refine .inr ⟨i,by grind,?_⟩;rw[Qn e];exact c
  ·rw[zo]at d;obtain⟨i,hi,d⟩:=d;have e:i<h7.q.length:=hi;unfold qN at d;rw[rV,jk,sD]at d;obtain⟨g,rfl⟩|d:=d
   ·refine⟨(h7.q[3]'aj).y,?_,qkc (f:=kqp) (nm:=λs:PRule=>s.y) (λx=>rZ ..) h.q aj e⟩;grind [zo,mN,jk]
   ·obtain⟨y,c,m⟩:=vjf (u _ h.q _<|wZ e) d;refine⟨y,?_,m⟩;rw[rV,zo (h7.l++h7.q)];refine .inr ⟨h7.l.length+i,by simp_all,?_⟩;grind [mQ]
 ·intro y c;refine⟨y,?_,jH⟩;simp only[rV]at c |-;obtain((((c|c)|c)|c)|c)|c:=c
  ·rw[zo]at c;obtain⟨i,hi,c⟩:=c;refine .inl<|.inl (.inl<|.inl ?_);rw[zo];refine⟨i,hi,?_⟩;unfold mS at c;unfold qS;rw[rV,jk,jk,su]at c;rw[rV,jk,jk,sD];obtain⟨a,b⟩|c:=c
   ·exact .inl ⟨aj,b⟩
   ·exact .inr c
  ·rw[zo]at c;obtain⟨i,hi,c⟩:=c;refine .inl<|.inl (.inl<|.inr ?_);rw[zo];refine⟨i,hi,?_⟩;unfold mK at c;unfold qK;rw[rV,jk,su,zo]at c;rw[rV,jk,sD,zo];obtain⟨a,b⟩|⟨j,q,c⟩:=c
   ·exact .inl ⟨aj,b⟩
   ·refine .inr ⟨j,q,?_⟩;unfold mM at c;unfold qM;rw[jk,su]at c;rw[jk,sD];exact⟨aj,c.2⟩
  ·rw[zo]at c;obtain⟨i,hi,c⟩:=c;refine .inl<|.inl (.inr ?_);rw[zo];grind [ql,jw,mV,qV,jk]
  ·rw[zo]at c;obtain⟨i,hi,c⟩:=c;refine .inl<|.inr ?_;rw[zo];refine⟨i,hi,?_⟩;unfold mR at c;unfold qR;rw[jk,su]at c;rw[rV,jk,sD];exact .inl ⟨aj,c.2⟩
  ·rw[zo]at c;obtain⟨i,hi,c⟩:=c;refine .inr ?_;rw[zo];refine⟨i,hi,?_⟩;unfold mN at c;unfold qN;rw[jk,su]at c;rw[rV,jk,sD];exact .inl ⟨aj,c.2⟩
  ·rw[zo]at c;obtain⟨i,hi,c⟩:=c;by_cases p:i<h7.l.length
   ·rw[Qn p]at c;refine .inl<|.inr ?_;rw[zo];refine⟨i,p,?_⟩;unfold qR;rw[rV];exact .inr<|jky c
   ·rw[List.getElem_append_right aj]at c;refine .inr ?_;rw[zo];have A:i<h7.l.length+h7.q.length:=by grind
    refine⟨i-h7.l.length,by show i-h7.l.length<h7.q.length;omega,?_⟩;unfold qN;rw[rV];exact .inr<|jky c
def qjl(o:Int)(x:Tok)(a:Int):Int:=if x.t.toList==mX&&decide (o<0) then xu a x.v else a
def qjn(s k:Int)(x:Tok)(a:Int):Int:=if x.t.toList==mX&&decide (s<0)&&decide (k<0) then xu a x.v else a
def jxr(t:PTree)(a:Int)(_:Nat)(v:PVar):Int:=
 qjn (zx (ug t) v.k.x.toList) (zx (uy t) v.k.x.toList) v.k (qjl (zx (ug t) v.g.x.toList) v.g a)
def zyr(t:PTree)(a:Int)(_:Nat)(p:PP):Int:=if zx (ug t) p.Q.x.toList<0 then xu a p.Q.v else a
def jxl(t:PTree)(ps:List PP)(a:Int)(_:Nat)(n:Tok):Int:=if qxc t ps n.x.toList then a else xu a n.v
def jxn(t:PTree)(a:Int)(_:Nat)(r:PRule):Int:=yx (jxl t r.u) (yu r.guard++uo r.S) 0 (yx (zyr t) r.u 0 a)
def xxk(t:PTree):Int:=yx (jxr t) t.z 0 (-1)
def qxo(t:PTree):Int:=yx (jxn t) (t.l++t.q) 0 (xxk t)
def vwa(s:PSet):List (Tok×Ent):=[(s.y,⟨1,0,bE,kv3⟩)]
def vxm(k:PKind):List (Tok×Ent):=(k.y,⟨2,0,bE,kv3⟩)::k.i.map (λx=>(x,⟨3,0,k.y.x,kv3⟩))
def vxd(v:VrT):List (Tok×Ent):=[(v.y,⟨4,0,bE,v⟩)]
def vxc(r:PRule):List (Tok×Ent):=[(r.y,⟨5,0,bE,kv3⟩)]
def vxb(r:PRule):List (Tok×Ent):=[(r.y,⟨6,0,bE,kv3⟩)]
def kjl(m:MdL):List (Tok×Ent):=m.j.flatMap vwa++(m.p.flatMap vxm++(m.z.flatMap vxd++(m.l.flatMap vxc++m.q.flatMap vxb)))
def vxx(t:Tab)(x:Tok×Ent):Tab:=kyw t x.1 x.2
theorem foldl_flat{i0 i5:Type}(f:α->List i0)(g:i5->i0->i5):∀(l:List α)(c:i5),(l.flatMap f).foldl g c=l.foldl (λc x=>(f x).foldl g c) c:=by intro a;induction a<;>grind
theorem vxv(m:MdL):qm m=(kjl m).foldl vxx []:=by
 unfold qm gt4 gt3 gt2 gt1 kjl;rw[Q5,Q5,Q5,Q5,foldl_flat,foldl_flat,foldl_flat,foldl_flat,foldl_flat];have e:(λ(c:Tab)(k:PKind)=>(vxm k).foldl vxx c)=gK:=by
  funext c k
  unfold vxm gK;rw[ZX,List.foldl_map];rfl
 rw[e];rfl
def jz3(l:List (Tok×Ent))(s:List UInt8):Ent:=match l.find? (λx=>x.1.x.toList==s) with|none=>jkh|some x=>{x.2 with N:=x.1.v}
theorem vzh:∀{t:Tab},(zl t s).V≠0->zl (t++i6) s=zl t s
 |[],h=>(h rfl).elim
 |x::l,h=>by
  rw[QU,zl,zl];rw[zl]at h;split
  ·rfl
  ·rename_i a;rw[Xy a]at h;exact vzh h
theorem zkr{u:Tab}:∀{t:Tab},ky3 t->(zl t s).V=0->zl (t++u) s=zl u s/\zl t s=jkh
 |[],_,_=>⟨rfl,rfl⟩
 |x::l,ht,h=>by
  rw[QU,zl,zl];rw[zl]at h;split
  ·rename_i a;rw[lJ a]at h;have:=ht x<|rZ ..;omega
  ·rename_i a;rw[Xy a]at h;exact zkr (λy b=>ht y<|jS b) h
theorem px2(a:ky3 i6)(n:Tok)(e:Ent)(s:List UInt8):zl (kyw i6 n e) s=if (zl i6 s).V=0/\n.x.toList=s then {e with N:=n.v} else zl i6 s:=by grind [kyw,zl,zkr,vzh]
theorem jv4:∀(l:List (Tok×Ent)) (t:Tab),ky3 t->(∀x∈l,1<=x.2.V)->zl (l.foldl vxx t) s=if (zl t s).V=0 then jz3 l s else zl t s
 |[],t,ht,_=>by
  split
  ·rename_i h;exact(zkr (u:=[]) ht h).2
  ·rfl
 |x::l,t,ht,hl=>by rw[ZX,jv4 l (vxx t x) (qzk ht (hl x (rZ ..))) (λy a=>hl y (jS a))];grind [px2,vxx,jz3]
theorem kw3:∀x∈kjl m,(x.2.V=1/\∃q∈m.j,x.1=q.y)\/(x.2.V=2/\∃k∈m.p,x.1=k.y)\/(x.2.V=3/\∃k∈m.p,x.1∈k.i/\x.2.t=k.y.x) \/
  (x.2.V=4/\∃v∈m.z,x.1=v.y/\x.2.var=v)\/(x.2.V=5/\∃r∈m.l,x.1=r.y)\/(x.2.V=6/\∃r∈m.q,x.1=r.y):=by intro x a;unfold kjl at a;simp only[rV,rM]at a;grind [vwa,vxm,vxd,vxc,vxb]
theorem jvw(m:MdL):∀x∈kjl m,1<=x.2.V:=λx a=>by grind [kw3]
theorem kz0(m:MdL)(s:List UInt8):zl (qm m) s=jz3 (kjl m) s:=by rw[vxv,jv4 _ _ (λx a=>by cases a) (jvw m),lJ (show(zl [] s).V=0 from rfl)]
theorem kz1(l:List (Tok×Ent))(s:List UInt8):(jz3 l s=jkh/\∀x∈l,x.1.x.toList≠s) \/
  ∃j,∃hj:j<l.length,(l[j]).1.x.toList=s/\(∀k (hk:k<j),(l[k]'aj).1.x.toList≠s)/\jz3 l s={(l[j]).2 with N:=(l[j]).1.v}:=by
 unfold jz3;cases a:l.find? (λx=>x.1.x.toList==s) with
 |none=>
  grind
 |some b=>
  obtain⟨h1,i,hi,e,c⟩:=List.find?_eq_some_iff_getElem.1 a;grind
theorem zjs(t:PTree):(kjl (ql t)).map (·.1)=jc t:=by
 unfold kjl jc qj3 qvs qvf ql;have a:∀l:List PSet,(l.flatMap vwa).map (·.1)=l.flatMap zjy:=λl=>by rw[Jp];rfl
 have b:∀l:List PKind,(l.flatMap vxm).map (·.1)=l.flatMap kx7:=λl=>by
  rw[Jp];congr 1
  funext k
  unfold vxm kx7;rw[Qm,Jz];congr 1
  exact List.map_id _
 have c:∀l:List PVar,((l.map jw).flatMap vxd).map (·.1)=l.flatMap zwg:=λl=>by rw[List.flatMap_map,Jp];rfl
 have d:∀l:List PRule,(l.flatMap vxc).map (·.1)=l.flatMap kyz:=λl=>by rw[Jp];rfl
 have e5:∀l:List PRule,(l.flatMap vxb).map (·.1)=l.flatMap kyz:=λl=>by rw[Jp];rfl
 simp_all
theorem zq5(t:PTree):(kjl (ql t)).length=(jc t).length:=by rw[<-zjs,Ql]
theorem qkb(t:PTree)(hi:i<(kjl (ql t)).length):((kjl (ql t))[i]).1=(jc t)[i]'(by rw[<-zq5];exact hi):=by grind [zjs]
theorem kwg:∀(l:List ByteArray)(s:List UInt8),zx l s<0↔∀x∈l,x.toList≠s:=by intro a;induction a<;>grind [zx]
theorem kwu(h:0<=zx en s):∃hi:(zx en s).toNat<en.length,(en[(zx en s).toNat]).toList=s:=by
 induction en with
 |nil=>simp[zx]at h
 |cons x en ih=>
  grind [zx]
theorem jjz:∀(l:List PKind)(s:List UInt8),(kjj l s).1<0↔∀k∈l,∀x∈k.i,x.x.toList≠s
 |[],s=>by simp[kjj]
 |k::l,s=>by have b:=jjz l s;have a:=kwg (kjp k) s;grind [kjp,kjj]
theorem zx6:∀{l:List PKind}{s:List UInt8},0<=(kjj l s).1->∃hi:(kjj l s).1.toNat<l.length,∃x∈(l[(kjj l s).1.toNat]).i,x.x.toList=s
 |[],s,h=>by simp[kjj]at h
 |k::l,s,h=>by
  rw[kjj]at h;by_cases a:0<=zx (kjp k) s
  ·have e:(kjj (k::l) s).1=0:=by rw[kjj,lJ a]
   obtain⟨hi,b⟩:=kwu a;grind [kjp]
  ·rw[Xy a]at h;by_cases h1:(kjj l s).1<0
   ·simp_all
   ·have e:(kjj (k::l) s).1=(kjj l s).1+1:=by rw[kjj,Xy a,Xy h1]
    obtain⟨hi,x,c,b⟩:=zx6 (l:=l) (s:=s) aj;grind
theorem zyz:fpB l s=true↔∃p∈l,p.y.x.toList=s:=by unfold fpB;simp
theorem zza(l:List PP):zx (pq l) s<0↔fpB l s=false:=by grind [kwg,pq,zyz]
theorem qz0(t:PTree):(zl (qm (ql t)) s).V=1↔¬zx (ug t) s<0:=by
 rw[kz0,kwg];constructor
 ·intro h d;obtain⟨e,_⟩|⟨j,f,h1,k,e⟩:=kz1 (kjl<|ql t) s
  ·rw[e]at h;cases h
  ·rw[e]at h;simp only at h;obtain g|g|g|g|g|g:=kw3 _ (wZ f)
   ·obtain⟨_,q,a,i⟩:=g;exact d q.y.x (Qx a) (by simp_all)
   all_goals omega
 ·intro h;have:∃q∈t.j,q.y.x.toList=s:=by grind [ug]
  obtain⟨q,a,e⟩:=this;unfold jz3 kjl;rw[List.find?_append];cases c:(((ql t).j.flatMap vwa).find?<|λx=>x.1.x.toList==s) with
  |none=>
   have:=List.find?_eq_none.1 c (q.y,⟨1,0,bE,kv3⟩)<|rM.2 ⟨q,a,Qq.2 rfl⟩;simp_all
  |some b=>
   have hb:=List.mem_of_find?_eq_some c;rw[rM]at hb;obtain⟨l,_,hb⟩:=hb;grind [vwa]
theorem zky(t:PTree)(s:List UInt8):(zl (qm (ql t)) s).V=0↔∀x∈jc t,x.x.toList≠s:=by
 rw[kz0,<-zjs];obtain⟨e,h⟩|⟨j,a,h1,b,e⟩:=kz1 (kjl<|ql t) s
 ·rw[e];refine⟨λ_ x c=>?_,λ_=>rfl⟩;grind
 ·rw[e];have:=jvw _ _<|wZ a;grind
end Go.Proofs.YtpmcnonmkghokaaGreatDoor

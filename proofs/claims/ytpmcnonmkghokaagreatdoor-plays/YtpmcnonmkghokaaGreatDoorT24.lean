import Derived.Test.YtpmcnonmkghokaaGreatDoorT23
import Derived.Test.YtpmcnonmkghokaaGreatDoorT04
import Derived.Test.YtpmcnonmkghokaaGreatDoorT21
set_option maxRecDepth 100000
set_option maxHeartbeats 8000000
set_option linter.unusedVariables false
set_option linter.unusedSimpArgs false
namespace Go.Proofs.YtpmcnonmkghokaaGreatDoor
open Go.Proofs.Tryz
open Go.RowKit
attribute [local go_sem ↓] Go.wp_at_zero Go.wp_at_succ
variable {s t:ByteArray}{br en wr:List ByteArray}{st:List Int}{vars:List MVar}{L:List RIn}{cs xs:List Value}{B V e k lo n size xc xn:Nat}{xa:Option Addr}{a b bv c d ev wv y:Value}{w w4:World}
def jvc (v:MVar):Bool:=decide (v.first<=1000000)&&decide (v.count<=1000000)&&decide (v.texts.length<=1000000)
def zqb (vars:List MVar)(st:List Int):Nat->Option (List UInt8)
 |0=>some []
 |n+1=>(zqb vars st n).bind λl=>(vars[n]?).bind λv=>(jz9 v st).bind λt=>if (l++kk4 n++t).length<=1000000/\jvc v=true then some (l++kk4 n++t) else none
theorem qyz {r:List UInt8}(h:zqb vars st (n+1)=some r):∃l v t,zqb vars st n=some l/\vars[n]?=some v/\jz9 v st=some t/\jvc v=true/\r=l++kk4 n++t/\r.length<=1000000:=by
 rw[zqb]at h;obtain⟨l,h1,h⟩:=wQ.mp h;obtain⟨v,b,h⟩:=wQ.mp h;obtain⟨t,c,h⟩:=wQ.mp h;by_cases a:(l++kk4 n++t).length<=1000000/\jvc v=true
 ·rw[if_pos a]at h;injection h with h;exact⟨l,v,t,h1,b,c,a.2,h.symm,by rw[<-h];exact a.1⟩
 ·rw[if_neg a]at h;cases h
theorem jvp {vars:List MVar}{st:List Int}:∀(n k:Nat),k<=n->∀r,zqb vars st n=some r->∃l,zqb vars st k=some l/\l.length<=1000000
 |n,k,hk,r,h=>by
  by_cases e:k=n
  ·subst e;refine⟨r,h,?_⟩;cases k with
   |zero=>rw[zqb]at h;injection h with h;subst h;simp
   |succ k=>obtain⟨_,_,_,_,_,_,_,_,a⟩:=qyz h;exact a
  ·cases n with
   |zero=>omega
   |succ n=>
    obtain⟨l,_,_,h1,_⟩:=qyz h;exact jvp n k aj l h1
def zxe (vars:List MVar)(st:List Int):Option (List UInt8):=(zqb vars st vars.length).bind λl=>if l=[] then none else some l
theorem zzx {a:Option Addr}{c m: Nat}  (h:w.ownsRow lo e size (.slice a n c) m xs):∀q,a=some q->q.block<w.heap.size:=by
 intro q d;rcases h.2 with⟨b,_⟩|⟨g,cap,i,b,_,f,_⟩
 ·injection b with b;rw[b]at d;cases d
 ·injection b with b;rw[b]at d;injection d with d;subst d;exact wu f
theorem vz7 (w:World)(lo M nb:Nat)(vars:List MVar)(tab:kq1)(st:List Int)(sa:Option Addr)(sn sc:Nat)(h:Mc lo w M nb vars tab)(hS:w.ownsRow lo 5 1 (.slice sa sn sc) st.length (st.map (Value.int .u8)))(hv:vars.length<=1000)(aN:st.length<=1000000)(r:List UInt8)(hr:zxe vars st=some r):
  qJ 95 #[.pointer (some ⟨M,0,none⟩),.slice sa sn sc] w λe w'=>e=.returned (.string ⟨r.toArray⟩)/\pU w w':=by
 unfold zxe at hr;obtain⟨r',aM,d⟩:=wQ.mp hr;have L:r'≠[]:=by
  intro e;rw[if_pos e]at d;cases d
 rw[if_neg L]at d;injection d with d;subst d;obtain⟨⟨y0,y1,y2,va,vc,z,cs,hM,hV,hI⟩,_⟩:=h;obtain⟨xa,xc,O,A⟩:=ql hV;injection O with O _ e3;subst O;subst e3;obtain⟨m0,m1,m2,m3,m4,m5,_⟩:=kzb hM;have aK:=wu hM;obtain⟨W,G⟩:∃W,W=w.alloc (.cells #[.pointer none,.slice none 0 0] 305):=⟨_,rfl⟩;have I:pU w W:=by rw[G];exact below_alloc1 w _
 have aW:w.heap.size<W.heap.size:=by rw[G];simp
 obtain⟨b,H⟩:∃b,b=w.heap.size:=⟨_,rfl⟩;have a7:=pG (show Lib.IsBuilder 305 5 w.heap.size b (Lib.byteCells []) W by rw[G,H];exact Lib.fresh_isBuilder _ _ w);have aR:=pG ((I.cell (p:=⟨M,3,none⟩) aK).trans m3);have aE:=pG A;have HI:=pG hI;have HS:=pG hS;have HR:=pG aM;have aB:=pG L;have a9:=pG I;have aF:=pG G.symm;have a8:=pG H;have aD:=pG (zzx hS);clear hr hV A hI hS I G L hM m0 m1 m2 m4 m5 H;go_enter func95,ntmps95
 go_wp2_with fail
 rw[ku aF,<-ku a8];go_loopw [6,7,13] (λ_ _ i wr=>∃(k:Nat) (l:List UInt8),k<=vars.length/\i=.int .i64 k/\zqb vars st k=some l/\Lib.IsBuilder 305 5 w.heap.size b (Lib.byteCells l) wr/\pU w wr) (λ_ _ i _=>vars.length-(intOf i).toNat)
 case atStart=>exact⟨0,[],rW _,rfl,rfl,ku a7,ku a9⟩
 case round=>
  obtain⟨k,l,hk,rfl,f,j,hb⟩:=hrel;obtain⟨_,u,aV⟩:=jvp vars.length k hk r' (ku HR);rw[f]at u;injection u with u;subst u;have aO:=hb.size;obtain⟨aS,_⟩:=vvi j;by_cases x:k<vars.length
  ·obtain⟨l2,K,aQ⟩:=jvp vars.length (k+1) x r' (ku HR);have aA:=pG K;obtain⟨l',v,t,P,q2,q3,D,q5,q6⟩:=qyz K;rw[f]at P;injection P with P;subst P;obtain⟨Q,R,⟨f0,f1,f2,f3,f4⟩,y⟩:=vv4 k x (ku HI);rw[show vars[k]=v by rw[tY x]at q2;injection q2]at f0 f1 f2 f3 f4 y;obtain⟨g,rfl,aT,m,C⟩:=ku aE k x;have e0:=(hb.cell (p:=⟨g,k*5,none⟩) m).trans ((C (k*5) aj).trans f0);have O:=(hb.cell (p:=⟨g,k*5+1,none⟩) m).trans ((C (k*5+1) aj).trans f1);have e2:=(hb.cell (p:=⟨g,k*5+2,none⟩) m).trans ((C (k*5+2) aj).trans f2);have e3:=(hb.cell (p:=⟨g,k*5+3,none⟩) m).trans ((C (k*5+3) aj).trans f3);have e4:=(hb.cell (p:=⟨g,k*5+4,none⟩) m).trans ((C (k*5+4) aj).trans f4);have a3:=zzx y;have aL:v.first<=1000000/\v.count<=1000000/\v.texts.length<=1000000:=by
    unfold jvc at D;simp only[wW,sQ]at D;exact⟨D.1.1,D.1.2,D.2⟩
   obtain⟨aH,aI,aJ⟩:=aL;have aP:(l++kk4 k).length<=1000000:=by rw[q5,wY]at q6;omega
   have X:=pG (λ(wx:World) (J:pU w wx) (hi:Lib.IsBuilder 305 5 w.heap.size b (Lib.byteCells (l++kk4 k)) wx)=>write_any wx w.heap.size b lo v st Q sa R sn sc (l++kk4 k) t hi (qj y J) (qj (ku HS) J) J.size a3 (ku aD) aj aH aI aN aJ q3);have S:=pG (below_alloc1 wr (.cells (kkd v Q R) 213));have c:=jqc j (ku S);have B:=qg wr (.cells (kkd v Q R) 213);unfold kkd at c B S;have E:=pG (hb.alloc aO (.cells (kkd v Q R) 213));unfold kkd at E;have aC:=pG q5;clear C j hb f0 f1 f2 f3 f4 y a3 q2 q3 D q5 q6 K;by_cases a1:0<k
   case' pos=>
    have V:=pG (ky4 w.heap.size b (Lib.byteCells l) 32 _ c (by rw[Lib.byteCells_length];omega) ay);have aG:=pG B;clear c B;go_wp2_with fail
    refine(ku V).mono ?_;rintro e wc ⟨rfl,h5,Z,a2⟩;have N:=a2.row (ku aG) (by intro e;injection e with e;omega) ak;have q:=pG (show Lib.IsBuilder 305 5 w.heap.size b (Lib.byteCells (l++kk4 k)) wc from Or.inr (by rw[show kk4 k=[32] from if_pos a1,kxs];exact h5));have s:=pG ((ku E).trans Z);have aU:=wu N;obtain⟨x0,x1,x2,x3,x4,_⟩:=jl N;have F:=pG ((ku X) wc (ku s) (ku q));clear h5 Z a2 V N;go_wp2_with fail
    refine(ku F).mono ?_
   case' neg=>
    have q:=pG (show Lib.IsBuilder 305 5 w.heap.size b (Lib.byteCells (l++kk4 k)) _ from by rw[show kk4 k=[] from if_neg a1,Qg];exact c);have s:=E;have F:=pG ((ku X) _ (ku s) (ku q));clear c B;go_wp2_with fail
    refine(ku F).mono ?_
   all_goals
    rintro e w8 ⟨rfl,h8,a0⟩;have a4:=pG (show Lib.IsBuilder 305 5 w.heap.size b (Lib.byteCells l2) w8 from by rw[ku aC];exact h8);have a6:=pG ((ku s).trans a0);clear h8 a0;go_wp2
    go_roundw
    case rel=>exact⟨k+1,l2,aj,eu,ku aA,ku a4,ku a6⟩
    case measure=>exact qQ
  ·have:k=vars.length:=by omega
   have T:=pG (show l=r' by rw[this,ku HR]at f;injection f with f;exact f.symm);have HB:=pG hb;have U:=pG (zwb w.heap.size b l wr j (by rw[ku T];exact ku aB));clear j hb;go_wp2_with fail
   refine(ku U).mono ?_;rintro e w2 ⟨rfl,Y⟩;have a5:=pG ((ku HB).trans Y);clear Y U;go_wp2
   go_ret
   exact⟨by rw[ku T];rfl,ku a5⟩
theorem qv6 {b:Nat}{x0 x1 x2 x3 x4:Value}{t:TypeId}{bad:List Nat}(h:w.heap[b]?=some (.cells #[x0,x1,x2,x3,x4] t (0,0)))(a:t∈bad)(y0 y1 y2 y3 y4:Value):
  Tk none bad w (((((w.setCell ⟨b,0,none⟩ y0).setCell ⟨b,1,none⟩ y1).setCell ⟨b,2,none⟩ y2).setCell ⟨b,3,none⟩ y3).setCell ⟨b,4,none⟩ y4):=by
 have h1:(w.setCell ⟨b,0,none⟩ y0).heap[b]?=some (.cells #[y0,x1,x2,x3,x4] t (0,0)):=heap_setCell_same _ b 0 _ _ _ h;have c:((w.setCell ⟨b,0,none⟩ y0).setCell ⟨b,1,none⟩ y1).heap[b]?=some (.cells #[y0,y1,x2,x3,x4] t (0,0)):=heap_setCell_same _ b 1 _ _ _ h1;have d:(((w.setCell ⟨b,0,none⟩ y0).setCell ⟨b,1,none⟩ y1).setCell ⟨b,2,none⟩ y2).heap[b]?=some (.cells #[y0,y1,y2,x3,x4] t (0,0)):=heap_setCell_same _ b 2 _ _ _ c;have e:((((w.setCell ⟨b,0,none⟩ y0).setCell ⟨b,1,none⟩ y1).setCell ⟨b,2,none⟩ y2).setCell ⟨b,3,none⟩ y3).heap[b]?=some (.cells #[y0,y1,y2,y3,x4] t (0,0)):=heap_setCell_same _ b 3 _ _ _ d;exact((((kxa h a 0 y0).trans (kxa h1 a 1 y1)).trans (kxa c a 2 y2)).trans (kxa d a 3 y3)).trans (kxa e a 4 y4)
def Apart (a b:Value):Prop:=∀k,a.ownBlock=some k->b.ownBlock≠some k
theorem kxc (h:Apart a b):Apart b a:=λk c e=>h k e c
theorem qzf (h:Apart a b):b.ownBlock=none\/b.ownBlock≠a.ownBlock:=by
 cases hb:b.ownBlock with
 |none=>exact Or.inl rfl
 |some k=>exact Or.inr λe=>h k e.symm hb
theorem qq5 {v: Value}    (h:Apart a b)(i:v.ownBlock=a.ownBlock\/v.ownBlock=some (w.heap.size+1))(l:w.ownsRow B e size b n xs):Apart v b:=λk d c=>by
 rcases i with h1|h1
 ·exact h k (by rw[<-h1];exact d) c
 ·rw[h1]at d;injection d with d;rcases l.2 with⟨f,_⟩|⟨g,cap,m,f,_,j,_⟩
  ·rw[f]at c;cases c
  ·rw[f]at c;injection c with c;have p:=wu j;have q:g=k:=c;omega
def qy1 (B:Nat)(w:World)(V:Nat)(t:ByteArray)(en wr br:List ByteArray)(ev wv bv:Value):Prop:=
 w.heap[V]?=some (.cells #[.string t,ev,wv,bv,.bool false] 24 (0,0))/\w.ownsRow B 9 1 ev en.length (en.map Value.string)/\w.ownsRow B 9 1 wv wr.length (wr.map Value.string)/\w.ownsRow B 9 1 bv br.length (br.map Value.string)/\Apart ev wv/\Apart ev bv/\Apart wv bv
theorem qy1.below {w': World}    (h:qy1 B w V t en wr br ev wv bv)(hb:pU w w'):qy1 B w' V t en wr br ev wv bv:=by
 obtain⟨a,h1,b,c,p⟩:=h;exact⟨(hb.block V (wu a)).trans a,qj h1 hb,qj b hb,qj c hb,p⟩
theorem jyl (h:qy1 B w V t en wr br ev wv bv)   (e:(w.alloc (.cells #[.string s] 9)).grownBy w4 ev.ownBlock)(f:w4.ownsRow B 9 1 (.slice xa xn xc) (en.length+1) (en.map Value.string++[.string s]))(b:(Value.slice xa xn xc).ownBlock=ev.ownBlock\/(Value.slice xa xn xc).ownBlock=some (w.heap.size+1)):
  w4.heap[V]?=some (.cells #[.string t,ev,wv,bv,.bool false] 24 (0,0))/\qy1 B (w4.setCell ⟨V,1,none⟩ (.slice xa xn xc)) V t (en++[s]) wr br (.slice xa xn xc) wv bv:=by
 obtain⟨k,h1,g,i,c,d,j⟩:=h;have k4:Tk none [9] w w4:=(kqg (below_alloc1 w (.cells #[.string s] 9)) none [9]).trans (kjk (h1.alloc _) e ak);have a:=k4.row k au ak;have k5:Tk none [24] w4 (w4.setCell ⟨V,1,none⟩ (.slice xa xn xc)):=kxa a ak 1 _;exact⟨a,heap_setCell_same _ V 1 _ _ _ a,iD,jw (((g.alloc (.cells #[.string s] 9))).kept e (qzf c)) k5 (dw.none _) ak,jw (((i.alloc (.cells #[.string s] 9))).kept e (qzf d)) k5 (dw.none _) ak,qq5 c b g,qq5 d b i,j⟩
theorem jyn (h:qy1 B w V t en wr br ev wv bv)   (e:(w.alloc (.cells #[.string s] 9)).grownBy w4 wv.ownBlock)(f:w4.ownsRow B 9 1 (.slice xa xn xc) (wr.length+1) (wr.map Value.string++[.string s]))(b:(Value.slice xa xn xc).ownBlock=wv.ownBlock\/(Value.slice xa xn xc).ownBlock=some (w.heap.size+1)):
  w4.heap[V]?=some (.cells #[.string t,ev,wv,bv,.bool false] 24 (0,0))/\qy1 B (w4.setCell ⟨V,2,none⟩ (.slice xa xn xc)) V t en (wr++[s]) br ev (.slice xa xn xc) bv:=by
 obtain⟨j,h1,k,g,c,i,d⟩:=h;have k4:Tk none [9] w w4:=(kqg (below_alloc1 w (.cells #[.string s] 9)) none [9]).trans (kjk (k.alloc _) e ak);have a:=k4.row j au ak;have k5:Tk none [24] w4 (w4.setCell ⟨V,2,none⟩ (.slice xa xn xc)):=kxa a ak 2 _;exact⟨a,heap_setCell_same _ V 2 _ _ _ a,jw (((h1.alloc (.cells #[.string s] 9))).kept e (qzf (kxc c))) k5 (dw.none _) ak,iD,jw (((g.alloc (.cells #[.string s] 9))).kept e (qzf d)) k5 (dw.none _) ak,kxc (qq5 (kxc c) b h1),i,qq5 d b g⟩
theorem jyr (h:qy1 B w V t en wr br ev wv bv)   (e:(w.alloc (.cells #[.string s] 9)).grownBy w4 bv.ownBlock)(f:w4.ownsRow B 9 1 (.slice xa xn xc) (br.length+1) (br.map Value.string++[.string s]))(b:(Value.slice xa xn xc).ownBlock=bv.ownBlock\/(Value.slice xa xn xc).ownBlock=some (w.heap.size+1)):
  w4.heap[V]?=some (.cells #[.string t,ev,wv,bv,.bool false] 24 (0,0))/\qy1 B (w4.setCell ⟨V,3,none⟩ (.slice xa xn xc)) V t en wr (br++[s]) ev wv (.slice xa xn xc):=by
 obtain⟨j,h1,g,k,i,c,d⟩:=h;have k4:Tk none [9] w w4:=(kqg (below_alloc1 w (.cells #[.string s] 9)) none [9]).trans (kjk (k.alloc _) e ak);have a:=k4.row j au ak;have k5:Tk none [24] w4 (w4.setCell ⟨V,3,none⟩ (.slice xa xn xc)):=kxa a ak 3 _;exact⟨a,heap_setCell_same _ V 3 _ _ _ a,jw (((h1.alloc (.cells #[.string s] 9))).kept e (qzf (kxc c))) k5 (dw.none _) ak,jw (((g.alloc (.cells #[.string s] 9))).kept e (qzf (kxc d))) k5 (dw.none _) ak,iD,i,kxc (qq5 (kxc c) b h1),kxc (qq5 (kxc d) b g)⟩
def lkO (vars:List MVar)(tab:kq1)(st:List Int):List MStep->List ByteArray->List ByteArray->Option (List ByteArray×List ByteArray)
 |[],en,wr=>some (en,wr)
 |s::l,en,wr=>(kyb vars tab s.params s.mems st s.guard s.block).bind λr=>if r.2==1 then lkO vars tab st l (en++[s.text]) wr else if r.2==2 then lkO vars tab st l en (wr++[s.text]) else lkO vars tab st l en wr
def lbO (vars:List MVar)(tab:kq1)(st:List Int):List MNever->List ByteArray->Option (List ByteArray)
 |[],br=>some br
 |s::l,br=>(jyj vars tab s.params s.mems st s.expr).bind λc=>if c then lbO vars tab st l (br++[s.text]) else lbO vars tab st l br
theorem zv5 (vars:List MVar)(tab:kq1)(st:List Int):∀(l:List MStep) (en wr:List ByteArray) (r:List ByteArray×List ByteArray),lkO vars tab st l en wr=some r->en.length<=r.1.length/\wr.length<=r.2.length/\r.1.length+r.2.length<=en.length+wr.length+l.length
 |[],en,wr,r,h=>by rw[lkO]at h;injection h with h;subst h;simp
 |s::l,en,wr,r,h=>by
  rw[lkO]at h;obtain⟨q,_,h⟩:=wQ.mp h;split at h
  ·have:=zv5 vars tab st l _ _ r h;simp at this |-;omega
  ·split at h
   ·have:=zv5 vars tab st l _ _ r h;simp at this |-;omega
   ·have:=zv5 vars tab st l _ _ r h;simp at this |-;omega
theorem jjc (vars:List MVar)(tab:kq1)(st:List Int):∀(l:List MNever) (br r:List ByteArray),lbO vars tab st l br=some r->br.length<=r.length/\r.length<=br.length+l.length
 |[],br,r,h=>by rw[lbO]at h;injection h with h;subst h;simp
 |s::l,br,r,h=>by
  rw[lbO]at h;obtain⟨q,_,h⟩:=wQ.mp h;split at h
  ·have:=jjc vars tab st l _ r h;simp at this |-;omega
  ·have:=jjc vars tab st l _ r h;simp at this |-;omega
structure MView where
 text:ByteArray
 enabled:List ByteArray
 wrong:List ByteArray
 broken:List ByteArray
def lookO (a:Mach)(st:List Int):Option MView:=(zxe a.vars st).bind λt=>(lkO a.vars a.tab st a.steps [] []).bind λp=>(lbO a.vars a.tab st a.nevers []).map λb=>⟨⟨t.toArray⟩,p.1,p.2,b⟩
def kvj (v:MView):Bool:=(v.enabled.length==0)&&(v.wrong.length==0)
def vw9 (B:Nat)(w:World)(v:MView)(x:Value)(w':World):Prop:=
 ∃ea en ec wa wn wc ba bn bc,x=.agg #[.string v.text,.slice ea en ec,.slice wa wn wc,.slice ba bn bc,.bool (kvj v)]/\w'.ownsRow B 9 1 (.slice ea en ec) v.enabled.length (v.enabled.map Value.string)/\w'.ownsRow B 9 1 (.slice wa wn wc) v.wrong.length (v.wrong.map Value.string)/\w'.ownsRow B 9 1 (.slice ba bn bc) v.broken.length (v.broken.map Value.string)
def zqu (w:World)(v:MView)(e:Ending)(w':World):Prop:=∃x,e=.returned x/\vw9 w.heap.size w v x w'/\pU w w'
def vj3 (s:MNever):Prop:=s.params.length<=1000/\∀y∈cu s.expr,y.text.size<=1000
theorem vyn {e: Value}(h:(cs.drop (k*5)).take 5=[a,b,c,d,e]):cs[k*5]?=some a/\cs[k*5+1]?=some b/\cs[k*5+2]?=some c/\cs[k*5+3]?=some d/\cs[k*5+4]?=some e:=by
 have g:∀j,j<5->cs[k*5+j]?=([a,b,c,d,e]:List Value)[j]?:=λj f=>by
  rw[<-h,Qo f,JW]
 exact⟨g 0 aj,g 1 aj,g 2 aj,g 3 aj,g 4 aj⟩
theorem vv9 (w:World)(lo so M nb:Nat)(a:Mach)(st:List Int)(sa ta na:Option Addr)(sn sc tc nc:Nat)(cs ds:List Value)(h:Mc lo w M nb a.vars a.tab)(hS:w.ownsRow lo 5 1 (.slice sa sn sc) st.length (st.map (Value.int .u8)))(cE:w.cell? ⟨M,0,none⟩=some (.slice ta a.steps.length tc))(hT:w.ownsRow lo 178 6 (.slice ta a.steps.length tc) a.steps.length cs)(hI:kw3 lo so w M a.steps cs)(bU:∀s∈a.steps,zjt s)
  (cF:w.cell? ⟨M,1,none⟩=some (.slice na a.nevers.length nc)) (hN:w.ownsRow lo 208 5 (.slice na a.nevers.length nc) a.nevers.length ds) (bP:qjt lo so w M a.nevers ds) (bS:∀s∈a.nevers,vj3 s)
  (hv:a.vars.length<=1000) (bV:st.length<=1000000) (cX:a.steps.length<=1000000) (cY:a.nevers.length<=1000000) (cM:lo<=w.heap.size) (r:MView) (hr:lookO a st=some r):
  qJ 56 #[.pointer (some ⟨M,0,none⟩),.slice sa sn sc] w λe w'=>zqu w r e w':=by
 unfold lookO at hr;obtain⟨tx,bW,hr⟩:=wQ.mp hr;obtain⟨⟨EN,WR⟩,aZ,hr⟩:=wQ.mp hr;obtain⟨BR,aY,rfl⟩:=rJ.mp hr;have cA:=zv5 _ _ _ _ _ _ _ aZ;have b5:=jjc _ _ _ _ _ _ aY;simp only[Jh]at cA b5;obtain⟨xa,cap,e1,HW⟩:=ql hT;injection e1 with e1 _ e3;subst e1;subst e3;obtain⟨xa,cap,e1,aG⟩:=ql hN;injection e1 with e1 _ e3;subst e1;subst e3;have bO:M<w.heap.size:=by obtain⟨⟨_,_,_,_,_,_,_,hb,_⟩,_⟩:=h;exact wu hb
 obtain⟨W,hW⟩:∃W,W=w.alloc (.cells #[.string ⟨#[]⟩,.slice none 0 0,.slice none 0 0,.slice none 0 0,.bool false] 24):=⟨_,rfl⟩;have aM:pU w W:=nU;have cQ:w.heap.size<W.heap.size:=jC;have hR:W.heap[w.heap.size]?=some (.cells #[.string ⟨#[]⟩,.slice none 0 0,.slice none 0 0,.slice none 0 0,.bool false] 24 (0,0)):=mX;have bH:=pG (vz7 W lo M nb a.vars a.tab st sa sn sc (h.below aM) (qj hS aM) hv bV tx bW);have b9:=pG (λ(wx:World) (hb:pU w wx) (s:MStep) (hs:zjt s) pa pn pc P Q mc p ba bn bc bs no (h1:w.ownsRow lo 352 4 (.slice pa pn pc) s.params.length (xu s.params)) (T:w.ownsRow lo 3 1 (.slice P Q mc) s.mems.length (s.mems.map (Value.int .i64))) (h3:XIs so w s.guard (.pointer p)) (h4:w.ownsRow so 334 9 (.slice ba bn bc) (kq4 s.block) bs) (h5:BIs so no w s.block bs) (r:List Int×Int) (hr:kyb a.vars a.tab s.params s.mems st s.guard s.block=some r)=>
  zyn s.guard s.block wx lo so M nb no a.vars a.tab s.params s.mems st s.text p pa P sa ba pn pc Q mc sn sc bn bc bs (h.below hb) (qj h1 hb) (qj T hb) (qj hS hb) hv hs.1 bV (h3.below hb) hs.2.1 ⟨qj h4 hb,h5.stay (λk _ hk=>hb.block k hk),hs.2.2.1,hs.2.2.2.1,hs.2.2.2.2⟩ (rU cM hb.size) r hr)
 have b7:=pG (λ(wx:World) (hb:pU w wx) (s:MNever) (hs:vj3 s) pa pn pc P Q mc p (h1:w.ownsRow lo 352 4 (.slice pa pn pc) s.params.length (xu s.params)) (T:w.ownsRow lo 3 1 (.slice P Q mc) s.mems.length (s.mems.map (Value.int .i64))) (h3:XIs so w s.expr (.pointer p)) (r:Bool) (hr:jyj a.vars a.tab s.params s.mems st s.expr=some r)=>
  jk7 s.expr wx lo so M nb a.vars a.tab s.params s.mems st s.text p pa P sa pn pc Q mc sn sc (h.below hb) (qj h1 hb) (qj T hb) (qj hS hb) hv hs.1 (h3.below hb) hs.2 r hr)
 have bN:=pG aG;have HI:=pG hI;have bC:=pG bP;have bF:=pG bU;have bD:=pG bS;have bB:=pG aZ;have bA:=pG aY;have HR:=pG hR;have aO:=pG aM;have cD:=pG hW.symm;clear hr aG hT hN hI bP bU bS h hS aZ aY bW hR aM hW;generalize (⟨tx.toArray⟩:ByteArray)=tt at *;go_enter func56,ntmps56
 go_wp2_with fail
 rw[cD];refine bH.mono ?_;rintro e w1 ⟨rfl,aE⟩;have cZ:=aE.size;obtain⟨w2,aH⟩:∃w2,w2=w1.alloc (.cells #[.string tt,.slice none 0 0,.slice none 0 0,.slice none 0 0,.bool false] 24):=⟨_,rfl⟩;obtain⟨V,hV⟩:∃V,V=w1.heap.size:=⟨_,rfl⟩;have bR:w2.heap[V]?=some (.cells #[.string tt,.slice none 0 0,.slice none 0 0,.slice none 0 0,.bool false] 24 (0,0)):=by rw[aH,hV];exact qg _ _
 have aK:Apart (.slice none 0 0) (.slice none 0 0):=λk hk=>by cases hk
 have b6:pU w w2:=by rw[aH];exact(aO.trans (aE.mono aj)).alloc aj _
 have bQ:w2.heap[w.heap.size]?=some (.cells #[.string ⟨#[]⟩,.slice none 0 0,.slice none 0 0,.slice none 0 0,.bool false] 24 (0,0)):=by rw[aH];exact zy ((aE.block w.heap.size cQ).trans HR)
 have bM:=pG (show qy1 w.heap.size w2 V tt [] [] [] (.slice none 0 0) (.slice none 0 0) (.slice none 0 0) from⟨bR,wB _ _ _ _,wB _ _ _ _,wB _ _ _ _,aK,aK,aK⟩);have bG:=pG bQ;have m0:=((aO.trans (aE.mono aj)).cell (p:=⟨M,0,none⟩) bO).trans cE;have cT:M<w1.heap.size:=aj;have cW:w.heap.size<V:=aj;have bZ:=pG aH.symm;have cC:=pG hV;clear aE bQ bR aH bH HR hV;go_wp2_with fail
 rw[bZ,<-cC];go_loopw [7,8,9,21] (λ_ _ _ i wr=>∃(k:Nat) (en l:List ByteArray) (y:Option Addr) (el z:Nat) (wa:Option Addr) (wl A:Nat),k<=a.steps.length/\i=.int .i64 k/\lkO a.vars a.tab st (a.steps.drop k) en l=some (EN,WR)/\qy1 w.heap.size wr V tt en l [] (.slice y el z) (.slice wa wl A) (.slice none 0 0)/\pU w wr/\wr.heap[w.heap.size]?=some (.cells #[.string ⟨#[]⟩,.slice none 0 0,.slice none 0 0,.slice none 0 0,.bool false] 24 (0,0))) (λ_ _ _ i _=>a.steps.length-(intOf i).toNat)
 case atStart=>exact⟨0,[],[],none,0,0,none,0,0,rW _,rfl,bB,bM,b6,bG⟩
 case round=>
  obtain⟨k,en,l,y,el,z,wa,wl,A,hk,rfl,b,B,hb,J⟩:=hrel;have b2:=hb.size;have cG:=wu B.1;have cL:=zv5 _ _ _ _ _ _ _ b;by_cases a1:k<a.steps.length
  ·obtain⟨g,rfl,cI,aX,hc⟩:=HW k a1;obtain⟨cH,aF⟩:=HI;obtain⟨pa,pn,pc,P,Q,mc,p,ba,bn,bc,bs,no,e,h1,T,h3,h4,h5⟩:=aF k a1;obtain⟨s0,s1,s2,s3,s4,s5⟩:=vk2 e;have F:∀j,j<a.steps.length*6->wr.cell? ⟨g,j,none⟩=cs[j]?:=λj hj=>(hb.cell (p:=⟨g,j,none⟩) aX).trans (hc j hj)
   have e0:=(F (k*6) aj).trans s0;have e1:=(F (k*6+1) aj).trans s1;have e2:=(F (k*6+2) aj).trans s2;have e3:=(F (k*6+3) aj).trans s3;have e4:=(F (k*6+4) aj).trans s4;have e5:=(F (k*6+5) aj).trans s5;rw[rM a1,lkO]at b;obtain⟨q,hq,b⟩:=wQ.mp b;have a2:=bF a.steps[k] (wX _);obtain⟨wb,L⟩:∃wb,wb=wr.alloc (.cells #[.string a.steps[k].text,.pointer (some ⟨M,0,none⟩),.slice pa pn pc,.slice P Q mc,.pointer p,.slice ba bn bc] 178):=⟨_,rfl⟩;have G:pU wr wb:=by rw[L];exact below_alloc1 _ _
   have aI:wb.heap[wr.heap.size]?=some (.cells #[.string a.steps[k].text,.pointer (some ⟨M,0,none⟩),.slice pa pn pc,.slice P Q mc,.pointer p,.slice ba bn bc] 178 (0,0)):=by rw[L];exact qg _ _
   have Z:=hb.trans (G.mono b2);have HF:=pG (b9 wb Z a.steps[k] a2 pa pn pc P Q mc p ba bn bc bs no h1 T h3 h4 h5 q hq);have aS:=pG L.symm;have aC:=pG aI;have a9:=pG G;have aA:=pG Z;have a7:=pG B;have aL:=pG J;have cR:=G.size;generalize a.steps[k]=s at *;clear F hc aF e h1 T h3 h4 h5 s0 s1 s2 s3 s4 s5 a2 hb hq L aI G Z B J;go_wp2_with fail
   rw[aS];refine HF.mono ?_;rintro e w5 ⟨v5,rfl,bT,t⟩;have cP:=t.size;obtain⟨a5,l5,c5,rfl⟩:=zq bT;have a3:=(t.block wr.heap.size (wu aC)).trans aC;obtain⟨x0,x1,x2,x3,x4,x5,_⟩:=kzb a3;have cS:=wu a3;have m:=(a7.below a9).below t;obtain⟨v0,v1,v2,v3,v4,g0,g1,g2,g3,g4⟩:=jl m.1;have a0:=aA.trans (t.mono (by have:=aA.size;omega));have aD:=(t.block w.heap.size aj).trans ((a9.block w.heap.size aj).trans aL);have O:=pG a0;have a4:=pG aD;have aR:=pG m.2.1;have aT:=pG m.2.2.1;clear bT t a3 a0 aD HF;cases h1:(q.2==1)
   ·cases T:(q.2==2)
    ·have E:=pG (show lkO a.vars a.tab st (a.steps.drop (k+1)) en l=some (EN,WR) from by have:=b;rw[h1,T]at this;exact this);go_wp2
     go_roundw
     case rel=>exact⟨k+1,en,l,y,el,z,wa,wl,A,aj,eu,E,m,O,a4⟩
     case measure=>exact qQ
    ·have E:=pG (show lkO a.vars a.tab st (a.steps.drop (k+1)) en (l++[s.text])=some (EN,WR) from by have:=b;rw[h1,T]at this;exact this);go_wp2_with (at_builtin;refine apO (aT.alloc _) ?_)
     intro v6 w6 f c _ x;obtain⟨Y,l6,c6,rfl⟩:=zq f;obtain⟨R,X⟩:=jyn m c f x;obtain⟨u0,u1,u2,u3,u4,t0,t1,t2,t3,t4⟩:=jl R;have S:=(O.alloc aj _).grown c ay (xg aT);have k6:Tk none [9] w5 w6:=(kqg (below_alloc1 w5 _) none _).trans (kjk (aT.alloc _) c ak);have aB:=pG (show(w6.setCell ⟨V,2,none⟩ (.slice Y l6 c6)).heap[w.heap.size]?=_ from(wP _ _ _ _ ay).trans (k6.row a4 au ak));have a8:=pG (S.setCell (p:=⟨V,2,none⟩) ay (.slice Y l6 c6));clear f c x R S k6;go_wp2
     go_roundw
     case rel=>exact⟨k+1,en,l++[s.text],y,el,z,Y,l6,c6,aj,eu,E,X,a8,aB⟩
     case measure=>exact qQ
   ·have E:=pG (show lkO a.vars a.tab st (a.steps.drop (k+1)) (en++[s.text]) l=some (EN,WR) from by have:=b;rw[h1]at this;exact this);go_wp2_with (at_builtin;refine apO (aR.alloc _) ?_)
    intro v6 w6 f c _ x;obtain⟨Y,l6,c6,rfl⟩:=zq f;obtain⟨R,X⟩:=jyl m c f x;obtain⟨u0,u1,u2,u3,u4,t0,t1,t2,t3,t4⟩:=jl R;have S:=(O.alloc aj _).grown c ay (xg aR);have k6:Tk none [9] w5 w6:=(kqg (below_alloc1 w5 _) none _).trans (kjk (aR.alloc _) c ak);have aB:=pG (show(w6.setCell ⟨V,1,none⟩ (.slice Y l6 c6)).heap[w.heap.size]?=_ from(wP _ _ _ _ ay).trans (k6.row a4 au ak));have a8:=pG (S.setCell (p:=⟨V,1,none⟩) ay (.slice Y l6 c6));clear f c x R S k6;go_wp2
    go_roundw
    case rel=>exact⟨k+1,en++[s.text],l,Y,l6,c6,wa,wl,A,aj,eu,E,X,a8,aB⟩
    case measure=>exact qQ
  ·have:k=a.steps.length:=by omega
   subst this;rw[Qd,lkO]at b;injection b with b;injection b with cN cO;subst cN;subst cO;have m1:=(hb.cell (p:=⟨M,1,none⟩) bO).trans cF;have a7:=pG B;have b8:=pG hb;have aL:=pG J;clear B hb J m0;go_wp2_with fail
   go_loopw [11,58] (λ_ i wr=>∃(k:Nat) (bn:List ByteArray) (xa:Option Addr) (N xc:Nat),k<=a.nevers.length/\i=.int .i64 k/\lbO a.vars a.tab st (a.nevers.drop k) bn=some BR/\qy1 w.heap.size wr V tt en l bn (.slice y el z) (.slice wa wl A) (.slice xa N xc)/\pU w wr/\wr.heap[w.heap.size]?=some (.cells #[.string ⟨#[]⟩,.slice none 0 0,.slice none 0 0,.slice none 0 0,.bool false] 24 (0,0))) (λ_ i _=>a.nevers.length-(intOf i).toNat)
   case atStart=>exact⟨0,[],none,0,0,rW _,rfl,bA,a7,b8,aL⟩
   case round=>
    obtain⟨k,bl,xa,N,xc,hk,rfl,b,B,hb,J⟩:=hrel;have b2:=hb.size;have cG:=wu B.1;have cL:=jjc _ _ _ _ _ _ b;by_cases a1:k<a.nevers.length
    ·obtain⟨g,rfl,cI,aX,hc⟩:=bN k a1;obtain⟨cH,aF⟩:=bC;obtain⟨pa,pn,pc,P,Q,mc,p,e,h1,T,h3⟩:=aF k a1;obtain⟨s0,s1,s2,s3,s4⟩:=vyn e;have F:∀j,j<a.nevers.length*5->wr.cell? ⟨g,j,none⟩=ds[j]?:=λj hj=>(hb.cell (p:=⟨g,j,none⟩) aX).trans (hc j hj)
     have e0:=(F (k*5) aj).trans s0;have e1:=(F (k*5+1) aj).trans s1;have e2:=(F (k*5+2) aj).trans s2;have e3:=(F (k*5+3) aj).trans s3;have e4:=(F (k*5+4) aj).trans s4;rw[rM a1,lbO]at b;obtain⟨q,hq,b⟩:=wQ.mp b;have a2:=bD a.nevers[k] (wX _);obtain⟨wb,L⟩:∃wb,wb=wr.alloc (.cells #[.string a.nevers[k].text,.pointer (some ⟨M,0,none⟩),.slice pa pn pc,.slice P Q mc,.pointer p] 208):=⟨_,rfl⟩;have G:pU wr wb:=by rw[L];exact below_alloc1 _ _
     have aI:wb.heap[wr.heap.size]?=some (.cells #[.string a.nevers[k].text,.pointer (some ⟨M,0,none⟩),.slice pa pn pc,.slice P Q mc,.pointer p] 208 (0,0)):=by rw[L];exact qg _ _
     have Z:=hb.trans (G.mono b2);have HF:=pG (b7 wb Z a.nevers[k] a2 pa pn pc P Q mc p h1 T h3 q hq);have aS:=pG L.symm;have aC:=pG aI;have a9:=pG G;have aA:=pG Z;have bY:=pG B;have cB:=pG J;have cR:=G.size;generalize a.nevers[k]=s at *;clear F hc aF e h1 T h3 s0 s1 s2 s3 s4 a2 hb hq L aI G Z B J;go_wp2_with fail
     rw[aS];refine HF.mono ?_;rintro e w5 ⟨rfl,t⟩;have cP:=t.size;have a3:=(t.block wr.heap.size (wu aC)).trans aC;obtain⟨x0,x1,x2,x3,x4,_⟩:=jl a3;have cS:=wu a3;have m:=(bY.below a9).below t;obtain⟨v0,v1,v2,v3,v4,g0,g1,g2,g3,g4⟩:=jl m.1;have a0:=aA.trans (t.mono (by have:=aA.size;omega));have aD:=(t.block w.heap.size aj).trans ((a9.block w.heap.size aj).trans cB);have O:=pG a0;have a4:=pG aD;have aQ:=pG m.2.2.2.1;clear t a3 a0 aD HF;cases q
     ·have E:=pG (show lbO a.vars a.tab st (a.nevers.drop (k+1)) bl=some BR from by have:=b;exact this);go_wp2
      go_roundw
      case rel=>exact⟨k+1,bl,xa,N,xc,aj,eu,E,m,O,a4⟩
      case measure=>exact qQ
     ·have E:=pG (show lbO a.vars a.tab st (a.nevers.drop (k+1)) (bl++[s.text])=some BR from by have:=b;exact this);go_wp2_with (at_builtin;refine apO (aQ.alloc _) ?_)
      intro v6 w6 f c _ x;obtain⟨Y,l6,c6,rfl⟩:=zq f;obtain⟨R,X⟩:=jyr m c f x;obtain⟨u0,u1,u2,u3,u4,t0,t1,t2,t3,t4⟩:=jl R;have S:=(O.alloc aj _).grown c ay (xg aQ);have k6:Tk none [9] w5 w6:=(kqg (below_alloc1 w5 _) none _).trans (kjk (aQ.alloc _) c ak);have aB:=pG (show(w6.setCell ⟨V,3,none⟩ (.slice Y l6 c6)).heap[w.heap.size]?=_ from(wP _ _ _ _ ay).trans (k6.row a4 au ak));have a8:=pG (S.setCell (p:=⟨V,3,none⟩) ay (.slice Y l6 c6));clear f c x R S k6;go_wp2
      go_roundw
      case rel=>exact⟨k+1,bl++[s.text],Y,l6,c6,aj,eu,E,X,a8,aB⟩
      case measure=>exact qQ
    ·have:k=a.nevers.length:=by omega
     subst this;rw[Qd,lbO]at b;injection b with b;subst b;obtain⟨bI,b3,b4,bX,_⟩:=B;obtain⟨za,zc,ez,_⟩:=ql b3;injection ez with aU aV aW;subst aU;subst aV;subst aW;obtain⟨za,zc,ez,_⟩:=ql b4;injection ez with aU aV aW;subst aU;subst aV;subst aW;obtain⟨v0,v1,v2,v3,v4,g0,g1,g2,g3,g4⟩:=jl bI;have bJ:=pG b3;have bK:=pG b4;have bL:=pG bX;have aP:=pG hb;have aJ:=pG J;have aN:kvj ⟨tt,en,l,bl⟩=((en.length==0)&&(l.length==0)):=rfl;have D:=pG aN;clear b3 b4 bX hb J aN;obtain⟨r0,r1,r2,r3,r4,y0,y1,y2,y3,y4⟩:=jl aJ;have cV:V≠w.heap.size:=aj;have cU:=wu aJ;have U:=pG (λ(d:Bool) (hd:kvj ⟨tt,en,l,bl⟩=d)=>(show(((((((wr.setCell ⟨V,4,none⟩ (.bool d)).setCell ⟨w.heap.size,0,none⟩ (.string tt)).setCell ⟨w.heap.size,1,none⟩ (.slice y en.length z)).setCell ⟨w.heap.size,2,none⟩ (.slice wa l.length A)).setCell ⟨w.heap.size,3,none⟩ (.slice xa N xc)).setCell ⟨w.heap.size,4,none⟩ (.bool d))).heap[w.heap.size]?=some (.cells #[.string tt,.slice y en.length z,.slice wa l.length A,.slice xa N xc,.bool d] 24 (0,0))/\zqu w ⟨tt,en,l,bl⟩ (.returned (.agg #[.string tt,.slice y en.length z,.slice wa l.length A,.slice xa N xc,.bool d])) (((((((wr.setCell ⟨V,4,none⟩ (.bool d)).setCell ⟨w.heap.size,0,none⟩ (.string tt)).setCell ⟨w.heap.size,1,none⟩ (.slice y en.length z)).setCell ⟨w.heap.size,2,none⟩ (.slice wa l.length A)).setCell ⟨w.heap.size,3,none⟩ (.slice xa N xc)).setCell ⟨w.heap.size,4,none⟩ (.bool d))) from by
      have k1:Tk none [24] wr (wr.setCell ⟨V,4,none⟩ (.bool d)):=kxa bI ak 4 _;have q1:(wr.setCell ⟨V,4,none⟩ (.bool d)).heap[w.heap.size]?=some (.cells #[.string ⟨#[]⟩,.slice none 0 0,.slice none 0 0,.slice none 0 0,.bool false] 24 (0,0)):=(wP _ _ _ _ ay).trans aJ;have q6:=kjw q1 (.string tt) (.slice y en.length z) (.slice wa l.length A) (.slice xa N xc) (.bool d);have K:=k1.trans (qv6 q1 (bad:=[24]) ak (.string tt) (.slice y en.length z) (.slice wa l.length A) (.slice xa N xc) (.bool d));have nr:=dw.none wr;refine⟨q6,_,rfl,⟨y,_,z,wa,_,A,xa,N,xc,by rw[hd],jw bJ K nr ak,jw bK K nr ak,jw bL K nr ak⟩,?_⟩;exact(((((aP.setCell (p:=⟨V,4,none⟩) ay _).setCell (p:=⟨w.heap.size,0,none⟩) au _).setCell (p:=⟨w.heap.size,1,none⟩) au _).setCell (p:=⟨w.heap.size,2,none⟩) au _).setCell (p:=⟨w.heap.size,3,none⟩) au _).setCell (p:=⟨w.heap.size,4,none⟩) au _))
     have cJ:((en.length:Int)==0)=(en.length==0):=by cases en<;>simp<;>omega
     have cK:((l.length:Int)==0)=(l.length==0):=by cases l<;>simp<;>omega
     cases H:(en.length==0);all_goals cases I:(l.length==0)
     all_goals rw[H]at cJ
     all_goals rw[I]at cK
     case' false.false=>have HE:=pG (U false (by rw[D,H,I];rfl))
     case' false.true=>have HE:=pG (U false (by rw[D,H,I];rfl))
     case' true.false=>have HE:=pG (U false (by rw[D,H,I];rfl))
     case' true.true=>have HE:=pG (U true (by rw[D,H,I];rfl))
     all_goals clear U D bJ bK bL bB bA b9 b7 HW bN HI bC bF bD aP a7 b8 aL bM b6 bG aO
     case false.false=>
      clear H I;go_wp2
      obtain⟨C,u⟩:=HE;refine rY (v:=.agg #[.string tt,.slice y en.length z,.slice wa l.length A,.slice xa N xc,.bool false]) (rP results56 _ _ w.heap.size _ _ _ _ rfl C underlying24 rfl ah) rfl ?_;exact u
     case false.true=>
      clear H I;go_wp2
      obtain⟨C,u⟩:=HE;refine rY (v:=.agg #[.string tt,.slice y en.length z,.slice wa l.length A,.slice xa N xc,.bool false]) (rP results56 _ _ w.heap.size _ _ _ _ rfl C underlying24 rfl ah) rfl ?_;exact u
     case true.false=>
      clear H I;go_wp2
      obtain⟨C,u⟩:=HE;refine rY (v:=.agg #[.string tt,.slice y en.length z,.slice wa l.length A,.slice xa N xc,.bool false]) (rP results56 _ _ w.heap.size _ _ _ _ rfl C underlying24 rfl ah) rfl ?_;exact u
     case true.true=>
      clear H I;go_wp2
      obtain⟨C,u⟩:=HE;refine rY (v:=.agg #[.string tt,.slice y en.length z,.slice wa l.length A,.slice xa N xc,.bool true]) (rP results56 _ _ w.heap.size _ _ _ _ rfl C underlying24 rfl ah) rfl ?_;exact u
end Go.Proofs.YtpmcnonmkghokaaGreatDoor
namespace Go.Proofs.YtpmcnonmkghokaaGreatDoor
open Go.Proofs.Tryz
open Go.RowKit
variable {s t:ByteArray}{br en wr:List ByteArray}{st:List Int}{vars:List MVar}{L:List RIn}{cs xs:List Value}{B V e k lo n size xc xn:Nat}{xa:Option Addr}{a b bv c d ev wv y:Value}{w w4:World}
def zxm:List Nat:=[24,9]
variable {w w':World}
theorem yj.tk {lo:Nat}(a:Tk none zxm w w'):∀{x:PX} {p:Value},yj lo w x p->yj lo w' x p
 |.nil,_,h=>h
 |.node _ _ _ _ _,_,⟨k,va,vb,e1,hn,hh,ha,hb⟩=>⟨k,va,vb,e1,hn,a.row hh au ak,yj.tk a ha,yj.tk a hb⟩
theorem qxs.tk (b:Tk none zxm w w'){a:SLab}{vp vv vi:Value}(h:qxs lo w a vp vv vi):qxs lo w' a vp vv vi:=⟨h.1.tk b,h.2.1.tk b,h.2.2.tk b⟩
theorem jm.tk {lo:Nat}{no:Option Nat}(c:Tk none zxm w w'):∀{b:PB} {ps:List Value},jm lo no w b ps->jm lo no w' b ps
 |.nil,_,h=>h
 |.node _ _ a .nil n,ps,⟨k,vp,vv,vi,qs,e,hl,hh,ha,hn⟩=>⟨k,vp,vv,vi,qs,e,hl,c.row hh au ak,ha.tk c,jm.tk c hn⟩
 |.node _ _ a (.node _ _ _ t e) n,ps,⟨k,vp,vv,vi,vt,ve,qt,qe,qs,e1,hl,hh,ha,⟨ht1,ht3,ht2⟩,⟨he1,he3,he2⟩,hn⟩=>
  ⟨k,vp,vv,vi,vt,ve,qt,qe,qs,e1,hl,c.row hh au ak,ha.tk c,⟨jw ht1 c (dw.none _) ak,ht3,jm.tk c ht2⟩,⟨jw he1 c (dw.none _) ak,he3,jm.tk c he2⟩,jm.tk c hn⟩
theorem zw6.tk (a:Tk none zxm w w')(h:zw6 w L cs):zw6 w' L cs:=by
 refine⟨h.1,λk l=>?_⟩;obtain⟨vp,vg,vb,aa,ac,e,⟨pa,pc,ga,ba,bc,ps,b,c,d,h1,f,g,i⟩,j⟩:=h.2 k l;exact⟨vp,vg,vb,aa,ac,e,⟨pa,pc,ga,ba,bc,ps,b,c,d,jw h1 a (dw.none _) ak,f.tk a,jw g a (dw.none _) ak,i.tk a⟩,jw j a (dw.none _) ak⟩
theorem OwnIn.tk (a:Tk none zxm w w')(h:OwnIn B w y L):OwnIn B w' y L:=by
 obtain⟨cs,h1,b⟩:=h;exact⟨cs,jw h1 a (dw.none _) ak,b.tk a⟩
theorem vvm {e f g h: Value}(i:(cs.drop (k*8)).take 8=[a,b,c,d,e,f,g,h]):cs[k*8]?=some a/\cs[k*8+1]?=some b/\cs[k*8+2]?=some c/\cs[k*8+3]?=some d/\cs[k*8+4]?=some e/\cs[k*8+5]?=some f/\cs[k*8+6]?=some g/\cs[k*8+7]?=some h:=by
 have z:∀j,j<8->cs[k*8+j]?=([a,b,c,d,e,f,g,h]:List Value)[j]?:=λj l=>by
  rw[<-i,Qo l,JW]
 exact⟨z 0 aj,z 1 aj,z 2 aj,z 3 aj,z 4 aj,z 5 aj,z 6 aj,z 7 aj⟩
theorem OwnIn.get (h:OwnIn B w y L)(d:k<L.length):∃g c vp vg vb aa ac,y=.slice (some ⟨g,0,none⟩) L.length c/\g<w.heap.size /\
  (w.cell? ⟨g,k*8,none⟩=some (.string L[k].r.name.kind)/\w.cell? ⟨g,k*8+1,none⟩=some (.string L[k].r.name.text)/\w.cell? ⟨g,k*8+2,none⟩=some (.int .i64 L[k].r.name.at_)/\w.cell? ⟨g,k*8+3,none⟩=some vp/\w.cell? ⟨g,k*8+4,none⟩=some vg/\w.cell? ⟨g,k*8+5,none⟩=some vb/\w.cell? ⟨g,k*8+6,none⟩=some (.slice aa L[k].ms.length ac)/\w.cell? ⟨g,k*8+7,none⟩=some (.string (riT L[k]))) /\
  zx0 w L[k] [.string L[k].r.name.kind,.string L[k].r.name.text,.int .i64 L[k].r.name.at_,vp,vg,vb,.slice aa L[k].ms.length ac,.string (riT L[k])]:=by
 obtain⟨cs,h1,f⟩:=h;obtain⟨a,c,rfl,m⟩:=ql h1;obtain⟨g,rfl,_,l,b⟩:=m k d;obtain⟨vp,vg,vb,aa,ac,e,i,j⟩:=(f.2 k d);obtain⟨z0,p,q,s,t,u,v,x⟩:=vvm e;exact⟨g,c,vp,vg,vb,aa,ac,rfl,l,⟨(b _ aj).trans z0,(b _ aj).trans p,(b _ aj).trans q,(b _ aj).trans s,(b _ aj).trans t,(b _ aj).trans u,(b _ aj).trans v,(b _ aj).trans x⟩,⟨vp,vg,vb,aa,ac,rfl,i,j⟩⟩
def lkR (t:PTree)(S:List (List Int)):List RIn->List ByteArray->List ByteArray->Option (List ByteArray×List ByteArray)
 |[],en,wr=>some (en,wr)
 |x::l,en,wr=>(zxl t S x).bind λr=>if r.1==1 then lkR t S l (en++[riT x]) wr else if r.1==2 then lkR t S l en (wr++[riT x]) else lkR t S l en wr
def lbR (t:PTree)(S:List (List Int)):List RIn->List ByteArray->Option (List ByteArray)
 |[],br=>some br
 |x::l,br=>(qwu t x.r.params x.ms S x.r.guard).bind λc=>if (c.1==1)||c.2 then lbR t S l (br++[riT x]) else lbR t S l br
theorem qyi (t:PTree)(S:List (List Int)):∀(l:List RIn) (en wr:List ByteArray) (r:List ByteArray×List ByteArray),lkR t S l en wr=some r->en.length<=r.1.length/\wr.length<=r.2.length/\r.1.length+r.2.length<=en.length+wr.length+l.length
 |[],en,wr,r,h=>by rw[lkR]at h;injection h with h;subst h;simp
 |s::l,en,wr,r,h=>by
  rw[lkR]at h;obtain⟨q,_,h⟩:=wQ.mp h;split at h
  ·have:=qyi t S l _ _ r h;simp at this |-;omega
  ·split at h
   ·have:=qyi t S l _ _ r h;simp at this |-;omega
   ·have:=qyi t S l _ _ r h;simp at this |-;omega
theorem zxj (t:PTree)(S:List (List Int)):∀(l:List RIn) (br r:List ByteArray),lbR t S l br=some r->br.length<=r.length/\r.length<=br.length+l.length
 |[],br,r,h=>by rw[lbR]at h;injection h with h;subst h;simp
 |s::l,br,r,h=>by
  rw[lbR]at h;obtain⟨q,_,h⟩:=wQ.mp h;split at h
  ·have:=zxj t S l _ r h;simp at this |-;omega
  ·have:=zxj t S l _ r h;simp at this |-;omega
def jzy (t:PTree)(S:List (List Int)):Option MView:=(zxn t S S.length).bind λa=>(lkR t S (kj3 t t.rules) [] []).bind λp=>(lbR t S (kj3 t t.nevers) []).map λb=>⟨a,p.1,p.2,b⟩
structure PlOk (t:PTree):Prop where
 ok:TreeOk t
 fit:TreeFit t
 tops:jyd t
 rules:t.rules.length<=801
 nevers:t.nevers.length<=801
 pars:∀r∈t.rules++t.nevers,zjr t r
 insts:∀x∈kj3 t t.rules++kj3 t t.nevers,RiOk x
end Go.Proofs.YtpmcnonmkghokaaGreatDoor

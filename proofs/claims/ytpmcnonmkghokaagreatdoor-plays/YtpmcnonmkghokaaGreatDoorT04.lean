import Derived.Test.YtpmcnonmkghokaaGreatDoorT00
import Derived.Maps.AppendAt
import Derived.Deep.AppendLies
import Derived.Test.YtpmcnonmkghokaaGreatDoorT03
set_option maxRecDepth 100000
set_option maxHeartbeats 8000000
set_option linter.unusedVariables false
set_option linter.unusedSimpArgs false
namespace Go.Proofs.YtpmcnonmkghokaaGreatDoor
open Go.Proofs.Tryz
open Go.RowKit
variable {L:List Tok}{s:List UInt8}{xs:List Value}{B R b e f i j k lo n size:Nat}{st st':RS}{t:TypeId}{v x x0 x1 x10 x11 x2 x3 x4 x5 x6 x7 x8 x9 y y0 y1 y10 y11 y2 y3 y4 y5 y6 y7 y8 y9 z:Value}{a w w':World}
def vyf (P:Program)(t e size:Nat):Bool:=
 (match P.underlying t with|some (.slice e')=>e'==e|_=>false) &&
 (match P.info? e with|some i=>i.size==size&&decide (i.bytes<=1000)&&(match i.zero with|some z=>z.cells.size==size|none=>false)|none=>false)&&decide (0<size)
theorem pqd {t: Nat}(h:vyf prog t e size=true):∃i z,prog.underlying t=some (.slice e)/\prog.info? e=some i/\i.zero=some z/\i.size=size/\z.cells.size=size/\i.bytes<=1000/\0<size:=by
 simp only[vyf,wW,sQ]at h;obtain⟨⟨h1,a⟩,c⟩:=h;split at h1
 ·rename_i k g;split at a
  ·rename_i i hi;simp only[wW,rQ,sQ]at a;obtain⟨⟨d,f⟩,b⟩:=a;split at b
   ·rename_i z j;exact⟨i,z,by rw[g];rw[rQ]at h1;rw[h1],hi,j,d,lY,f,c⟩
   ·cases b
  ·cases a
 ·cases h1
theorem jvv (hn:n<=1000000)(hb:b<=1000):(n+1)*b<=140737488355328:=rU (Zh (Nat.add_le_add_right hn 1) hb) aj
theorem alloc_at (w:World)(o:Obj)(b:Nat)(h:w.heap.size=b):(w.alloc o).heap[b]?=some o:=by subst h;exact heap_alloc_new w o
section
variable {w:World} {base e size n t b tt:Nat} {v:Value} {xs news:List Value} {ops:Array Oper} {rest:List Oper} {o:Oper} {a:Act} {Q:Exit->Act->World->Prop} {s x:Operand}
theorem apO (c:w.ownsRow base e size v n xs)
  (h:∀v' w',w'.ownsRow base e size v' (n+1) (xs++news)->w.grownBy w' v.ownBlock->(v'=.slice none 0 0↔v=.slice none 0 0/\1=0)->(v'.ownBlock=v.ownBlock\/v'.ownBlock=some w.heap.size)->wpList prog ops Q rest (a.put o.dst v') w')
  (A:o.op=.call {callee:=.builtin .append,args:=#[s,x],argTypes:=#[t,t]}:=by exact rfl) (d:o.guard=none:=by exact rfl) (B:a.eval s=v:=by exact rfl) (E:a.eval x=.slice (some ⟨b,0,none⟩) 1 1:=by exact rfl)
  (D:w.heap[b]?=some (.cells news.toArray tt (0,0)):=by first|exact heap_alloc_new _ _|exact alloc_at _ _ _ au) (h1:news.all Value.oneCell'=true:=by rfl) (y:news.length=1*size:=by rfl) (f:vyf prog t e size=true:=by kernel_rfl)
  (hn:n<=1000000:=by first|omega|(simp;done)|(simp;omega)) (hb:base<=w.heap.size:=by first|omega|(simp;done)|(simp;omega)):wpList prog ops Q (o::rest) a w:=by
 obtain⟨i,z,g,j,k,l,m,p,q⟩:=pqd f;exact J4 _ d s x t A base e i z size i.bytes g j k l rfl m q v n xs B c ⟨b,0,none⟩ 1 1 news E y (World.news_of_block D) (λu C=>sG.1 h1 u C) gW (jvv hn p) hb h
theorem apL {K:Act->World->Prop}{E:Prop}{H:Nat}(c:w.ownsRow base e size v n xs)(F:w.heap[b]?=some (.cells news.toArray tt (0,0)))
  (h:∀g cap w',w'.ownsRow base e size (.slice (some ⟨g,0,none⟩) (n+1) cap) (n+1) (xs++news)->w.grownBy w' v.ownBlock->(v.ownBlock=some g\/g=H)->g<w'.heap.size->K (a.put o.dst (.slice (some ⟨g,0,none⟩) (n+1) cap)) w')
  (B:o.op=.call {callee:=.builtin .append,args:=#[s,x],argTypes:=#[t,t]}:=by exact rfl) (d:o.guard=none:=by exact rfl) (C:a.eval s=v:=by exact rfl) (G:a.eval x=.slice (some ⟨b,0,none⟩) 1 1:=by exact rfl)
  (hH:w.heap.size=H:=by exact tJ _ _) (h1:news.all Value.oneCell'=true:=by rfl) (A:news.length=1*size:=by rfl) (f:vyf prog t e size=true:=by kernel_rfl)
  (hn:n<=1000000:=by first|omega|(simp;done)|(simp;omega)) (hb:base<=w.heap.size:=by first|omega|(simp;done)|(simp;omega)):if Region.wanted o (yielded ops a.tmps)=true then Oper.wp prog o a w K Q else E:=by
 obtain⟨i,z,j,k,l,m,p,q,y⟩:=pqd f;exact step_append_lies _ d s x t B base e i z size i.bytes j k l m rfl p y v n xs C c ⟨b,0,none⟩ 1 1 news G A (World.news_of_block F) (λu D=>sG.1 h1 u D) aj gW (jvv hn q) hb H hH h
end
end Go.Proofs.YtpmcnonmkghokaaGreatDoor
namespace Go.Proofs.YtpmcnonmkghokaaGreatDoor
open Go.Proofs.Tryz
open Go.RowKit
variable {L:List Tok}{s:List UInt8}{xs:List Value}{B R b e f i j k lo n size:Nat}{st st':RS}{t:TypeId}{v x x0 x1 x10 x11 x2 x3 x4 x5 x6 x7 x8 x9 y y0 y1 y10 y11 y2 y3 y4 y5 y6 y7 y8 y9 z:Value}{a w w':World}
def vwp (f:Nat)(w:World)(R:Nat)(v:Value)(L:List Tok)(fin:PB×RS)(l m:Value)(wr:World):Prop:=
 ∃(ps:List Value) (acc:PB) (st:RS) (g:Nat),m=.bool (qo L [125] st)/\wr.ownsRow w.heap.size 245 1 l ps.length ps/\jm w.heap.size l.ownBlock wr acc ps/\Rd wr R v L st/\Kept R w wr /\
  (kk0 acc (rS g 1 L st).1,(rS g 1 L st).2)=fin/\qqs L 1 2 st g/\g<=f/\ps.length<=st.at_+st.bad.toNat
def qva (w:World)(R:Nat):Nat:=match w.cell? ⟨R,3,none⟩ with
 |some (.bool false)=>1
 |_=>0
theorem Rd.qva (h:Rd w R v L st):Go.Proofs.YtpmcnonmkghokaaGreatDoor.qva w R=(!st.bad).toNat:=by
 obtain⟨c0,c1,c2,c3,_⟩:=row4 h.rd;unfold Go.Proofs.YtpmcnonmkghokaaGreatDoor.qva;rw[c3];cases st.bad<;>rfl
theorem jm.kv4 {lo base:Nat}{w w':World}{v:Value}{n:Nat}{xs:List Value}{no':Option Nat}(d:w.ownsRow base 245 1 v n xs)(c:w.grownBy w' v.ownBlock)(g:∀k,no'=some k->v.ownBlock=some k\/w.heap.size<=k):
  ∀{b:PB} {ps:List Value},jm lo v.ownBlock w b ps->jm lo no' w' b ps
 |.nil,_,h=>h
 |.node _ _ a .nil nx,ps,⟨k,vp,vv,vi,qs,e,hl,hh,ha,hn⟩=>⟨k,vp,vv,vi,qs,e,hl,kC,⟨ha.1.grown d ak c,ha.2.1.grown d ak c,ha.2.2.grown d ak c⟩,jm.kv4 d c g hn⟩
 |.node _ _ a (.node _ _ _ t e) nx,ps,⟨k,vp,vv,vi,vt,ve,qt,qe,qs,e1,hl,hh,ha,⟨ht1,ht3,ht2⟩,⟨he1,he3,he2⟩,hn⟩=>by
  have f:∀{u:Value} {q:List Value},w.ownsRow lo 245 1 u q.length q->(∀j,u.ownBlock=some j->v.ownBlock≠some j)->w'.ownsRow lo 245 1 u q.length q/\∀j,u.ownBlock=some j->no'≠some j:=by
   intro u q h1 i;refine⟨h1.kept c ?_,λj l m=>?_⟩
   ·cases p:u.ownBlock with
    |none=>exact Or.inl rfl
    |some j=>exact Or.inr λh=>i j p h.symm
   ·have s:=mg h1 j l;rcases g j m with h|h
    ·exact i j l h
    ·omega
  exact⟨k,vp,vv,vi,vt,ve,qt,qe,qs,e1,hl,kC,⟨ha.1.grown d ak c,ha.2.1.grown d ak c,ha.2.2.grown d ak c⟩,
   ⟨(f ht1 ht3).1,(f ht1 ht3).2,jm.kv4 d c g ht2⟩,⟨(f he1 he3).1,(f he1 he3).2,jm.kv4 d c g he2⟩,jm.kv4 d c g hn⟩
theorem jwy {b: Value}  (c:b.ownBlock=v.ownBlock\/b.ownBlock=some B):∀k,b.ownBlock=some k->v.ownBlock=some k\/B<=k:=by
 intro k a;rcases c with e|e
 ·rw[e]at a;exact Or.inl a
 ·rw[e]at a;simp at a;exact Or.inr aj
theorem Kept.grown (h:Kept R a w)(b:w.grownBy w' v.ownBlock)(d:∀k,v.ownBlock=some k->a.heap.size<=k):Kept R a w':=
 ⟨b.os.trans h.os,b.tape.trans h.tape,b.output.trans h.output,rU h.size b.size,λk c hn=>(b.block k (Qy c h.size) (λe=>by have:=d k e.symm;omega)).trans (h.block k c hn)⟩
theorem Rd.grown {u: Value}   (h:Rd w R v L st)(a:w.grownBy w' u.ownBlock)(b:∀k,u.ownBlock=some k->B<=k)(c:∀g,v.ownBlock=some g->g<B)(i:R<B):Rd w' R v L st:=by
 refine⟨by rw[a.block R (wu h.rd) (λe=>by have:=b R e.symm;omega)];exact h.rd,?_,h.ne,h.lt,h.len,h.fin,h.nlo,h.nhi⟩;refine h.own.kept a ?_;cases d:v.ownBlock with
 |none=>exact Or.inl rfl
 |some j=>exact Or.inr λe=>by have h1:=b j e.symm;have f:=c j d;omega
theorem jyz (f:Nat)(Y:∀g,g+1<=f->vwg g):qvn (f+1):=by
 intro w R v L st h hD hf;have j:R<w.heap.size:=wu h.rd;have W:=show rS (f+1) 0 L st=((rS f 1 L (qy L [123] st)).1,qy L [125] (rS f 1 L (qy L [123] st)).2) from by rw[rS]
 have a0:qqs L 1 2 (qy L [123] st) f:=by
  cases hb:st.bad
  ·have:=zqj hb hf;exact jyw h.lt this aj aj
  ·have:=jqb hb hf;unfold qqs;rw[kj2 hb];simp;omega
 go_enter func109,ntmps109
 go_wp2_with fail
 refine(kq0 [123] _ R v L st h).mono ?_;rintro e w1 ⟨rfl,h1,a1⟩;go_wp2_with fail
 refine(kjx [125] _ R v L _ h1).mono ?_;rintro e w2 ⟨rfl,D,z⟩;have HR:=show vwp f w R v L (rS f 1 L (qy L [123] st)) (.slice none 0 0) (.bool (qo L [125] (qy L [123] st))) w2 from
  ⟨[],.nil,qy L [123] st,f,rfl,wB _ _ _ _,rfl,D,a1.trans z,rfl,a0,wJ _,rW _⟩
 go_wp2_with fail
 go_loopw [3,4] (λl m wr=>vwp f w R v L (rS f 1 L (qy L [123] st)) l m wr) (λ_ _ wr=>2*(L.length-kxd wr R)+qva wr R)
 case atStart=>exact HR
 case round=>
  obtain⟨ps,acc,c,g,rfl,B,a2,D,z,T,F,a9,N⟩:=hrel;have a5:=D.len;obtain⟨c0,c1,c2,c3,f0,f1,f2,f3⟩:=row4 D.rd;have Q:=pG a2;have A:=pG D;have P:=pG z;have u:=pG T;have a3:=z.size;obtain⟨la,ll,lc,rfl⟩:=zq B;cases hn:(qo L [125] c||c.bad)
  ·rw[QY]at hn;obtain⟨H,b⟩:=hn;have a4:=zqj b F;obtain⟨g,rfl⟩:∃g',g=g'+1:=⟨g-1,aj⟩;rw[b]at c3;have y:=u;rw[rS,H,b]at y;simp only[Qk,wU,if_false]at y;have u:=pG y;go_wp2_with fail
   refine(Y g aj _ R v L c A hD (zqz aj aj)).mono ?_;rintro e w3 ⟨p,rfl,hp,E,a⟩;have C:=jg B a j;have K:=(Q.kept a j).app ((hp.shun (no':=(Value.slice la ll lc).ownBlock) (λk t=>Or.inr (Or.inr ((mg B) k t)))).mono a3);have O:=pG E;have a6:=a.size;have i:(rDo (rS g 0 L) L c).2.bad=false->c.at_+1<=(rDo (rS g 0 L) L c).2.at_:=qk7 (λs=>kk2 L g 0 s) (λs hs=>qk6 hs g 0);have I:=qyt (λs=>kk2 L g 0 s) L c;generalize rDo (rS g 0 L) L c=d at K O u i I;have a7:=O.lt;rw[b]at N;simp only[Js,sU]at N;go_wp2_with (at_builtin;refine apO (C.alloc _) ?_)
   intro v' w4 J q _ Z;have M:=xg C;have U:jm w.heap.size v'.ownBlock w4 (kk0 acc d.1) (ps++[.pointer p]):=jm.kv4 (C.alloc _) q (λk t=>(jwy Z k t).imp id (λh=>iw)) (K.stay (λk _ t=>tX _ _ _ t));obtain⟨va,vl,vc,rfl⟩:=zq J;go_wp2_with fail
   refine(kjx [125] _ R v L d.2 (pG ((O.below (below_alloc1 _ _)).grown q M (mg h.own) j))).mono ?_;rintro e V ⟨rfl,S,G⟩;have X:=show vwp f w R v L (rS f 1 L (qy L [123] st)) (.slice va vl vc) (.bool (qo L [125] d.2)) V from
    ⟨ps++[.pointer p],kk0 acc d.1,d.2,g,rfl,by rw[wY];exact jg J G j,(pG U).kept G j,S,(pG (((P.trans a).alloc _).grown q M)).trans G,by rw[qwi];exact u,
     by
      unfold qqs;split
      ·omega
      ·rename_i x;have:=i (by simpa using x);omega,aj,by
      rw[wY];cases x:d.2.bad
      ·have:=i x;simp;omega
      ·simp;omega⟩
   have HM:=show 2*(L.length-kxd V R)+qva V R<2*(L.length-kxd wr R)+qva wr R by
    rw[S.kxd,S.qva,A.kxd,A.qva,b];cases x:d.2.bad
    ·have:=i x;simp;omega
    ·simp;omega
   go_wp2
   go_roundw
   case rel=>exact X
   case measure=>exact HM
  ·have a8:1<=g:=by
    cases b:c.bad
    ·have:=zqj b F;omega
    ·exact jqb b F
   obtain⟨g,rfl⟩:∃g',g=g'+1:=⟨g-1,aj⟩;have y:=u;rw[rS,hn]at y;simp only[if_true,zvh]at y;have u:=pG y;cases H:qo L [125] c
   ·have b:c.bad=true:=by rw[H]at hn;simpa using hn
    rw[b]at c3;go_wp2_with fail
    refine(kq0 [125] _ R v L c A).mono ?_;rintro e w3 ⟨rfl,E,a⟩;go_wp2
    go_ret
    rw[W,<-u];exact⟨_,ps,rfl,(jg B a j),((Q.kept a j).shun (no':=none) (λk t=>by cases t)),(pG E),(P.trans a)⟩
   ·go_wp2_with fail
    refine(kq0 [125] _ R v L c A).mono ?_;rintro e w3 ⟨rfl,E,a⟩;go_wp2
    go_ret
    rw[W,<-u];exact⟨_,ps,rfl,(jg B a j),((Q.kept a j).shun (no':=none) (λk t=>by cases t)),(pG E),(P.trans a)⟩
theorem blocks (f:Nat):qvn f:=by
 have h:∀f,∀g,g<=f->qvn g:=by
  intro f;induction f with
  |zero=>
   intro g b w R v L st h _ a;have:g=0:=aj;subst this;have:=h.lt;unfold qqs at a;split at a<;>omega
  |succ f ih=>
   intro g b;by_cases e:g<=f
   ·exact ih g e
   ·have:g=f+1:=by omega
    subst this;exact jyz f (λk c=>vyo k (ih k aj))
 exact h f f (wJ _)
def kyv (L:List Tok):Nat:=4*L.length+4
theorem vx3 (w:World)(R:Nat)(v:Value)(L:List Tok)(st:RS)(h:Rd w R v L st)(a:zw7 L):
  qJ 109 #[.pointer (some ⟨R,0,none⟩)] w (pqa R v L w (rS (kyv L) 0 L st)):=
 blocks (kyv L) w R v L st h a (zqz (by unfold kyv;omega) (by unfold kyv;omega))
def kk9:Nat->List Tok->List Tok->RS->List Tok×RS
 |0,_,l,st=>(l,st)
 |f+1,L,l,st=>
  if st.bad then (l,st)
  else if qo L [44] (qm L og st).2||decide (l.length+1<2) then kk9 f L (l++[(qm L og st).1]) (qy L [44] (qm L og st).2)
  else (l++[(qm L og st).1],(qm L og st).2)
def gy (L:List Tok):Nat:=L.length+2
def kk7 (L:List Tok)(st:RS):List Tok×RS:=
 ((kk9 (gy L) L [] (qy L [123] st)).1,qy L [125] (kk9 (gy L) L [] (qy L [123] st)).2)
def qkw (L:List Tok)(st:RS)(f:Nat):Prop:=if st.bad then 1<=f else L.length-st.at_+1<=f
theorem qjq (L:List Tok)(st:RS):qkw L st (gy L):=by
 unfold qkw gy;split<;>omega
theorem qvv (h:qkw L st f):1<=f:=by
 unfold qkw at h;split at h<;>omega
theorem qxk (b:st.at_<L.length)(hb:st.bad=false)(h:qkw L st (f+1))(a:st'.bad=false->st.at_+1<=st'.at_):qkw L st' f:=by
 unfold qkw at *;rw[hb]at h;simp only[wU,if_false]at h;split
 ·omega
 ·rename_i h1;have:=a (by simpa using h1);omega
theorem jqq (h:(qm L s st).2.bad=false):st.at_+1<=(qm L s st).2.at_:=by rw[zkz h];omega
theorem zyr {a: RS}(b:st.bad=false->a.at_+1<=st.at_)(h:(qy L s st).bad=false):a.at_+1<=(qy L s st).at_:=by
 have hb:st.bad=false:=by
  cases hb:st.bad
  ·rfl
  ·rw[kj2 hb]at h;cases h
 have:=jh L s st;have:=b hb;omega
def jz6 (w:World)(R:Nat)(v:Value)(L:List Tok)(fin:List Tok×RS)(x m:Value)(wr:World):Prop:=
 ∃(l:List Tok) (st:RS) (g:Nat) (b:Bool),m=.bool b/\wr.ownsRow w.heap.size 142 3 x l.length (uq l)/\Rd wr R v L st/\Kept R w wr /\
  (b=true->kk9 g L l st=fin/\qkw L st g)/\(b=false->(l,st)=fin)/\l.length<=st.at_+st.bad.toNat
def pq4 (R:Nat)(v:Value)(L:List Tok)(w:World)(r:List Tok×RS)(e:Ending)(w':World):Prop:=
 ∃x,e=.returned x/\w'.ownsRow w.heap.size 142 3 x r.1.length (uq r.1)/\Rd w' R v L r.2/\Kept R w w'/\r.1.length<=801
theorem jjv {a:Option Addr}{l c: Nat}  (h:w.ownsRow lo e size (.slice a l c) n xs):l=n:=by
 rcases h.2 with⟨b,d⟩|⟨_,_,_,b,_⟩
 ·cases b;omega
 ·cases b;rfl
theorem kyj (h:Rd w R v L st)(hn:n<=st.at_+st.bad.toNat):n<=801:=by
 have h1:=h.lt;have a:=h.len;have:st.bad.toNat<=1:=by cases st.bad<;>simp
 omega
theorem qv7 (h:Rd w R v L st)(a:Rd w' R v L st')(hb:st.bad=false)(e:st.at_<=st'.at_)(c:st'.bad=false->st.at_+1<=st'.at_):
  2*(L.length-kxd w' R)+qva w' R<2*(L.length-kxd w R)+qva w R:=by
 rw[h.kxd,a.kxd,h.qva,a.qva,hb];have d:=a.lt;cases b:st'.bad
 ·have:=c b;simp;omega
 ·simp;omega
theorem jxe (w:World)(R:Nat)(v:Value)(L:List Tok)(st:RS)(h:Rd w R v L st):
  qJ 175 #[.pointer (some ⟨R,0,none⟩)] w (pq4 R v L w (kk7 L st)):=by
 have u:R<w.heap.size:=wu h.rd;go_enter func175,ntmps175
 go_wp2_with fail
 refine(kq0 [123] _ R v L st h).mono ?_;rintro e w1 ⟨rfl,h1,V⟩;have HR:=show jz6 w R v L (kk9 (gy L) L [] (qy L [123] st)) (.slice none 0 0) (.bool true) w1 from
  ⟨[],qy L [123] st,gy L,true,rfl,wB _ _ _ _,h1,V,λ_=>⟨rfl,qjq _ _⟩,λh=>gY,rW _⟩
 go_wp2_with fail
 go_loopw [3,4] (λl m wr=>jz6 w R v L (kk9 (gy L) L [] (qy L [123] st)) l m wr) (λ_ _ wr=>2*(L.length-kxd wr R)+qva wr R)
 case atStart=>exact HR
 case round=>
  obtain⟨l,j,g,b,rfl,y,Q,K,hT,hF,i⟩:=hrel;obtain⟨c0,c1,c2,c3,f0,f1,f2,f3⟩:=row4 Q.rd;have f:=pG Q;have P:=pG K;have a5:=K.size;obtain⟨la,ll,lc,rfl⟩:=zq y;have W:=jjv y;subst W;cases b
  ·have a:=hF rfl;go_wp2_with fail
   refine(kq0 [125] _ R v L j f).mono ?_;rintro e w3 ⟨rfl,t,c⟩;go_wp2
   go_ret
   unfold kk7;rw[<-a];exact⟨_,rfl,(jg y c u),(pG t),(P.trans c),(kyj f i)⟩
  ·obtain⟨a,G⟩:=hT rfl;obtain⟨g,rfl⟩:∃g',g=g'+1:=⟨g-1,by have:=qvv G;omega⟩;cases d:j.bad
   ·rw[kk9,d]at a;simp only[wU,if_false]at a;rw[d]at c3;go_wp2_with fail
    refine(kzf og _ R v L j f rfl).mono ?_;rintro e w3 ⟨rfl,t,c⟩;have q:=jqq (L:=L) (s:=og) (st:=j);have B:=kq9 L og j;generalize qm L og j=k at a t q B |-;have E:=jg y c u;have a1:=c.size;unfold kx2;go_wp2_with (at_builtin;refine apO (news:=jr k.1) ((E.alloc _).alloc _) ?_ (hn:=by have:=kyj f i;omega))
    intro v' w4 z p _ a2;have J:=xg E;obtain⟨va,vl,vc,rfl⟩:=zq z;have Z:=jjv z;subst Z;go_wp2_with fail
    refine(kjx [44] _ R v L k.2 (pG (((pG t).below (((Below.refl _ _).alloc (wJ _) _).alloc au _)).grown p J (mg h.own) u))).mono ?_;rintro e w5 ⟨rfl,h5,M⟩;have F:=jg z M u;have D:=((((P.trans c).alloc _).alloc _).grown p J).trans M;have O:=pG h5;rw[d]at i;simp only[Js,sU]at i;have a0:l.length+1<=k.2.at_+k.2.bad.toNat:=by
     cases A:k.2.bad
     ·have:=q A;simp;omega
     ·simp;omega
    cases x:(qo L [44] k.2||decide (l.length+1<2))
    ·have a:=a;rw[x]at a;simp only[wU,if_false]at a;rw[QY]at x;obtain⟨H,I⟩:=x;have a3:2<=l.length+1:=by simpa using I
     have a4:decide ((l.length:Int)+1<2)=false:=ay
     have S:=show jz6 w R v L (kk9 (gy L) L [] (qy L [123] st)) (.slice va (l.length+1) vc) (.bool false) w5 from
      ⟨l++[k.1],k.2,g,false,rfl,by rw[kvt,wY];exact F,O,D,(λh=>gY),(λ_=>a),ay⟩
     go_wp2
     go_roundw
     case rel=>exact S
     case measure=>exact(qv7 f O d B q)
    ·have a:=a;rw[x]at a;simp only[if_true]at a;have HC:Hid ((qo L [44] k.2=true)\/(qo L [44] k.2=false/\l.length+1<2)):=by
      cases hx:qo L [44] k.2
      ·rw[hx]at x;exact Or.inr ⟨rfl,by simpa using x⟩
      ·exact Or.inl rfl
     have C:=zyr (L:=L) (s:=[44]) q;have Y:=rU B (jh L [44] k.2);have X:l.length+1<=(qy L [44] k.2).at_+(qy L [44] k.2).bad.toNat:=by
      cases A:(qy L [44] k.2).bad
      ·have:=C A;simp;omega
      ·simp;omega
     rcases HC with H|⟨H,I⟩;all_goals
      go_wp2_with fail
      refine(kq0 [44] _ R v L k.2 O).mono ?_;rintro e w6 ⟨rfl,U,N⟩;have T:=show jz6 w R v L (kk9 (gy L) L [] (qy L [123] st)) (.slice va (l.length+1) vc) (.bool true) w6 from
       ⟨l++[k.1],qy L [44] k.2,g,true,rfl,by rw[kvt,wY];exact jg F N u,U,D.trans N,(λ_=>⟨a,qxk Q.lt d G C⟩),(λh=>gY),by rw[wY];exact X⟩
      go_wp2
      go_roundw
      case rel=>exact T
      case measure=>exact(qv7 f U d Y C)
   ·rw[kk9,d]at a;simp only[if_true]at a;rw[d]at c3;go_wp2_with fail
    refine(kq0 [125] _ R v L j f).mono ?_;rintro e w3 ⟨rfl,t,c⟩;go_wp2
    go_ret
    unfold kk7;rw[<-a];exact⟨_,rfl,(jg y c u),(pG t),(P.trans c),(kyj f i)⟩
structure PP where
 name:Tok
 set_:Tok
def kkw (p:PP):List Value:=jr p.name++jr p.set_
def kjh (l:List PP):List Value:=l.flatMap kkw
theorem qw7 (l:List PP)(p:PP):kjh (l++[p])=kjh l++kkw p:=by simp[kjh]
def rPP (L:List Tok)(st:RS):PP×RS:=
 (⟨(qm L og st).1,(qm L og (qy L [58] (qm L og st).2)).1⟩,(qm L og (qy L [58] (qm L og st).2)).2)
def kvf:Nat->List Tok->List PP->RS->List PP×RS
 |0,_,l,st=>(l,st)
 |f+1,L,l,st=>
  if st.bad then (l,st)
  else if qo L [44] (rPP L st).2 then kvf f L (l++[(rPP L st).1]) (qy L [44] (rPP L st).2)
  else (l++[(rPP L st).1],(rPP L st).2)
def kql (L:List Tok)(st:RS):List PP×RS:=
 if qo L [41] (qy L [40] st) then ([],qy L [41] (qy L [40] st))
 else ((kvf (gy L) L [] (qy L [40] st)).1,qy L [41] (kvf (gy L) L [] (qy L [40] st)).2)
theorem qqx (L:List Tok)(st:RS):st.at_<=(rPP L st).2.at_:=rU (kq9 L _ st) (rU (jh L [58] _) (kq9 L _ _))
theorem vkd (h:(rPP L st).2.bad=false):st.at_+1<=(rPP L st).2.at_:=by
 have h1:(qm L og st).2.bad=false:=by
  cases hb:(qm L og st).2.bad
  ·rfl
  ·have:(rPP L st).2.bad=true:=kys (kj2 hb);rw[this]at h;cases h
 exact rU (jqq h1) (rU (jh L [58] _) (kq9 L _ _))
theorem kzb (h:w.heap[b]?=some (.cells #[x0,x1,x2,x3,x4,x5] t (0,0))):
  Ce w b 0 x0/\Ce w b 1 x1/\Ce w b 2 x2/\Ce w b 3 x3/\Ce w b 4 x4/\Ce w b 5 x5 /\
  Fr w b 0/\Fr w b 1/\Fr w b 2/\Fr w b 3/\Fr w b 4/\Fr w b 5:=
 ⟨rc h 0,rc h 1,rc h 2,rc h 3,rc h 4,rc h 5,
  rf h 0,rf h 1,rf h 2,rf h 3,rf h 4,rf h 5⟩
theorem jx3 (h:w.heap[b]?=some (.cells #[x0,x1,x2,x3,x4,x5] t (0,0)))(a c d:Value):
  (puts b [a,c,d] 0 w).heap[b]?=some (.cells #[a,c,d,x3,x4,x5] t (0,0)):=zqe _ _ h
theorem pq8 (h:w.heap[b]?=some (.cells #[x0,x1,x2,x3,x4,x5] t (0,0)))(a c d:Value):
  (puts b [a,c,d] 3 w).heap[b]?=some (.cells #[x0,x1,x2,a,c,d] t (0,0)):=zqe _ _ h
theorem kvp (h:w.ownsRow lo e size v n xs)(a:∀g,v.ownBlock=some g->g<B){p:Addr}(b:B<=p.block)(u:Value):(w.setCell p u).ownsRow lo e size v n xs:=
 ownsRow_setCell_other h (λe=>by have:=a _ e;omega) u
theorem Rd.qjy (h:Rd w R v L st)(a:∀g,v.ownBlock=some g->g<B)(c:R<B)  (hb:B<=b)   :
  Rd (((w.setCell ⟨b,i,none⟩ x).setCell ⟨b,j,none⟩ y).setCell ⟨b,k,none⟩ z) R v L st:=((h.jk a c (p:=⟨b,i,none⟩) hb x).jk a c (p:=⟨b,j,none⟩) hb y).jk a c (p:=⟨b,k,none⟩) hb z
theorem zj1 (h:w.ownsRow lo e size v n xs)(a:∀g,v.ownBlock=some g->g<B)  (hb:B<=b)   :
  (((w.setCell ⟨b,i,none⟩ x).setCell ⟨b,j,none⟩ y).setCell ⟨b,k,none⟩ z).ownsRow lo e size v n xs:=kvp (kvp (kvp h a (p:=⟨b,i,none⟩) hb x) a (p:=⟨b,j,none⟩) hb y) a (p:=⟨b,k,none⟩) hb z
theorem Kept.qjy (h:Kept R a w)  (hb:a.heap.size<=b)   : Kept R a (((w.setCell ⟨b,i,none⟩ x).setCell ⟨b,j,none⟩ y).setCell ⟨b,k,none⟩ z):=
 ((h.jk (p:=⟨b,i,none⟩) hb x).jk (p:=⟨b,j,none⟩) hb y).jk (p:=⟨b,k,none⟩) hb z
def jz5 (w:World)(R:Nat)(v:Value)(L:List Tok)(fin:List PP×RS)(x m:Value)(wr:World):Prop:=
 ∃(l:List PP) (st:RS) (g:Nat) (b:Bool),m=.bool b/\wr.ownsRow w.heap.size 236 6 x l.length (kjh l)/\Rd wr R v L st/\Kept R w wr /\
  (b=true->kvf g L l st=fin/\qkw L st g)/\(b=false->(l,st)=fin)/\l.length<=st.at_+st.bad.toNat
def pq2 (R:Nat)(v:Value)(L:List Tok)(w:World)(r:List PP×RS)(e:Ending)(w':World):Prop:=
 ∃x,e=.returned x/\w'.ownsRow w.heap.size 236 6 x r.1.length (kjh r.1)/\Rd w' R v L r.2/\Kept R w w'/\r.1.length<=801
theorem zkc (w:World)(R:Nat)(v:Value)(L:List Tok)(st:RS)(h:Rd w R v L st):
  qJ 107 #[.pointer (some ⟨R,0,none⟩)] w (pq2 R v L w (kql L st)):=by
 have u:R<w.heap.size:=wu h.rd;have HV:=mg h.own;go_enter func107,ntmps107
 go_wp2_with fail
 refine(kq0 [40] _ R v L st h).mono ?_;rintro e w0 ⟨rfl,h0,T⟩;go_wp2_with fail
 refine(kjx [41] _ R v L _ h0).mono ?_;rintro e w1 ⟨rfl,h1,K⟩;have a8:∃fin b,b=!(qo L [41] (qy L [40] st))/\kql L st=(fin.1,qy L [41] fin.2)/\jz5 w R v L fin (.slice none 0 0) (.bool b) w1:=by
  cases hn:qo L [41] (qy L [40] st)
  ·exact⟨kvf (gy L) L [] (qy L [40] st),true,rfl,by rw[kql,hn];rfl,[],qy L [40] st,gy L,true,rfl,wB _ _ _ _,h1,T.trans K,λ_=>⟨rfl,qjq _ _⟩,λh=>gY,rW _⟩
  ·exact⟨([],qy L [40] st),false,rfl,by rw[kql,hn];rfl,[],qy L [40] st,gy L,false,rfl,wB _ _ _ _,h1,T.trans K,λh=>gY,λ_=>rfl,rW _⟩
 obtain⟨fin,b0,a2,J,a0⟩:=a8;have a7:qo L [41] (qy L [40] st)=!b0:=by rw[a2];simp
 rw[a7];have HR:=pG a0;have F:=pG J;clear h h0 h1 K a7 a2 J a0;go_wp2_with fail
 go_loopw [3,5] (λl m wr=>jz5 w R v L fin l m wr) (λ_ _ wr=>2*(L.length-kxd wr R)+qva wr R)
 case atStart=>first|exact HR|(have:=HR;simpa using this)
 case round=>
  obtain⟨l,f,g,b,rfl,G,S,a4,hT,hF,x⟩:=hrel;have D:=wu S.rd;obtain⟨c0,c1,c2,c3,f0,f1,f2,f3⟩:=row4 S.rd;have q:=pG S;have HK:=pG a4;have z:=a4.size;obtain⟨la,ll,lc,rfl⟩:=zq G;cases b
  ·have HF:=hF rfl;go_wp2_with fail
   refine(kq0 [41] _ R v L f q).mono ?_;rintro e w3 ⟨rfl,I,c⟩;go_wp2
   go_ret
   rw[F,<-HF];exact⟨_,rfl,(jg G c u),(pG I),(HK.trans c),(kyj q x)⟩
  ·obtain⟨a,a1⟩:=hT rfl;obtain⟨g,rfl⟩:∃g',g=g'+1:=⟨g-1,by have:=qvv a1;omega⟩;cases d:f.bad
   ·rw[kvf,d]at a;simp only[wU,if_false]at a;rw[d]at c3;have t:=pG a;go_wp2_with fail
    refine(kzf og _ R v L f (q.below (below_alloc1 _ _)) rfl).mono ?_;rintro e w3 ⟨rfl,I,c⟩;have C:=show ∀g,v.ownBlock=some g->g<wr.heap.size from λg hg=>Qy (HV g hg) z
    have A:=mg G;have H:=(c.block wr.heap.size au aj).trans (heap_alloc_new wr _);obtain⟨d0,d1,d2,d3,d4,d5,e0,e1,e2,e3,e4,e5⟩:=kzb H;have H3:=pG I;have i:=vkd (L:=L) (st:=f);have y:=qqx L f;have B:=show rPP L f=(⟨(qm L og f).1,(qm L og (qy L [58] (qm L og f).2)).1⟩,(qm L og (qy L [58] (qm L og f).2)).2) from rfl
    generalize rPP L f=P at t i y B;generalize qm L og f=k at B H3 |-;unfold kx2;go_wp2_with fail
    refine(kq0 [58] _ R v L k.2 (((H3.jk C D au _).jk C D au _).jk C D au _)).mono ?_;rintro e w4 ⟨rfl,h4,M⟩;have Z:=(M.block wr.heap.size (by simpa using wu H) aj).trans (jx3 H _ _ _);go_wp2_with fail
    refine(kzf og _ R v L _ (pG h4) rfl).mono ?_;rintro e w5 ⟨rfl,h5,N⟩;have d0:=kzb ((N.block wr.heap.size (wu Z) aj).trans Z);have W:=jg (jg (kvp (kvp (kvp (jg (G.alloc _) c u) A (p:=⟨wr.heap.size,0,none⟩) au (.string k.1.kind)) A (p:=⟨wr.heap.size,1,none⟩) au (.string k.1.text)) A (p:=⟨wr.heap.size,2,none⟩) au (.int .i64 k.1.at_)) M u) N u;have U:=((((((HK.alloc _).trans c).jk (p:=⟨wr.heap.size,0,none⟩) z (.string k.1.kind)).jk (p:=⟨wr.heap.size,1,none⟩) z (.string k.1.text)).jk (p:=⟨wr.heap.size,2,none⟩) z (.int .i64 k.1.at_)).trans M).trans N;have H5:=pG h5;generalize qm L og (qy L [58] k.2)=j at B H5 |-;unfold kx2;have aD:=kyj q x;go_wp2_with (at_builtin;refine apO (news:=kkw ⟨k.1,j.1⟩) ((zj1 W A (wJ _)).alloc _) ?_ (hb:=by have:=U.size;simp;omega))
    intro v' w6 X E _ aC;have a3:=xg W;obtain⟨va,vl,vc,rfl⟩:=zq X;go_wp2_with fail
    refine(kjx [44] _ R v L j.2 ((H5.qjy C D (wJ _)).below (below_alloc1 _ _) |>.grown E a3 HV u)).mono ?_;rintro e w7 ⟨rfl,h7,a5⟩;have Y:=jg X a5 u;have V:=(((U.qjy z).alloc _).grown E a3).trans a5;have H7:=pG h7;rw[B]at t i y;simp only at t i y;rw[d]at x;simp only[Js,sU]at x;cases hc:qo L [44] j.2
    ·have a:=ku t;rw[hc]at a;simp only[wU,if_false]at a;have a9:=show jz5 w R v L fin (.slice va vl vc) (.bool false) w7 from
      ⟨l++[⟨k.1,j.1⟩],j.2,g,false,rfl,by rw[qw7,wY];exact Y,H7,V,(λh=>gY),(λ_=>a),by
       rw[wY];cases O:j.2.bad
       ·have:=i O;simp;omega
       ·simp;omega⟩
     go_wp2
     go_roundw
     case rel=>exact a9
     case measure=>exact(qv7 q H7 d y i)
    ·have a:=ku t;rw[hc]at a;simp only[if_true]at a;have Q:=zyr (L:=L) (s:=[44]) i;have aB:=rU y (jh L [44] j.2);go_wp2_with fail
     refine(kq0 [44] _ R v L j.2 H7).mono ?_;rintro e w8 ⟨rfl,h8,a6⟩;have aA:=show jz5 w R v L fin (.slice va vl vc) (.bool true) w8 from
      ⟨l++[⟨k.1,j.1⟩],qy L [44] j.2,g,true,rfl,by rw[qw7,wY];exact jg Y a6 u,h8,V.trans a6,(λ_=>⟨ku (pG a),qxk S.lt d a1 Q⟩),(λh=>gY),by
       rw[wY];cases O:(qy L [44] j.2).bad
       ·have:=Q O;simp;omega
       ·simp;omega⟩
     go_wp2
     go_roundw
     case rel=>exact aA
     case measure=>exact(qv7 q h8 d aB Q)
   ·rw[kvf,d]at a;simp only[if_true]at a;rw[d]at c3;go_wp2_with fail
    refine(kq0 [41] _ R v L f q).mono ?_;rintro e w3 ⟨rfl,I,c⟩;go_wp2
    go_ret
    rw[F,<-(pG a)];exact⟨_,rfl,(jg G c u),(pG I),(HK.trans c),(kyj q x)⟩
structure PVar where
 name:Tok
 over:Tok
 type_:Tok
 top:Tok
def kqu (x:PVar):List Value:=jr x.name++(jr x.over++(jr x.type_++jr x.top))
def jzu (x:PVar):Value:=.agg (kqu x).toArray
def kjb (L:List Tok)(st:RS):Tok×RS:=
 if qo L [91] st then ((qm L og (qy L [91] st)).1,qy L [93] (qm L og (qy L [91] st)).2) else (zf,st)
def kxe (L:List Tok)(st:RS):Tok×RS:=
 if qo L pX st then (zf,qy L pX st)
 else if qo L o8 st then qm L oQ (qy L o8 st)
 else (zf,(qm L og st).2)
def kwm (L:List Tok)(st:RS):PVar×RS:=
 ({name:=(qm L og (qy L oZ st)).1,
   over:=(kjb L (qy L [58] (qm L og (qy L oZ st)).2)).1,
   type_:=tk L (kjb L (qy L [58] (qm L og (qy L oZ st)).2)).2.at_,
   top:=(kxe L (kjb L (qy L [58] (qm L og (qy L oZ st)).2)).2).1},
  qy L [59] (kxe L (kjb L (qy L [58] (qm L og (qy L oZ st)).2)).2).2)
theorem vq7 {s1 s3: RS}{k o t:Tok×RS}(h1:qy L oZ st=s1)(a:qm L og s1=k)(b:qy L [58] k.2=s3)(c:kjb L s3=o)(d:kxe L o.2=t):
  kwm L st=({name:=k.1,over:=o.1,type_:=tk L o.2.at_,top:=t.1},qy L [59] t.2):=by
 subst h1;subst a;subst b;subst c;subst d;rfl
def pq1 (R:Nat)(v:Value)(L:List Tok)(w:World)(r:PVar×RS)(e:Ending)(w':World):Prop:=
 e=.returned (jzu r.1)/\Rd w' R v L r.2/\Kept R w w'
structure Row12 (w:World)(b:Nat)(x0 x1 x2 x3 x4 x5 x6 x7 x8 x9 x10 x11:Value):Prop where
 c0:w.cell? ⟨b,0,none⟩=some x0
 c1:w.cell? ⟨b,1,none⟩=some x1
 c2:w.cell? ⟨b,2,none⟩=some x2
 c3:w.cell? ⟨b,3,none⟩=some x3
 c4:w.cell? ⟨b,4,none⟩=some x4
 c5:w.cell? ⟨b,5,none⟩=some x5
 c6:w.cell? ⟨b,6,none⟩=some x6
 c7:w.cell? ⟨b,7,none⟩=some x7
 c8:w.cell? ⟨b,8,none⟩=some x8
 c9:w.cell? ⟨b,9,none⟩=some x9
 c10:w.cell? ⟨b,10,none⟩=some x10
 c11:w.cell? ⟨b,11,none⟩=some x11
 f0:w.frozen? ⟨b,0,none⟩=false
 f1:w.frozen? ⟨b,1,none⟩=false
 f2:w.frozen? ⟨b,2,none⟩=false
 f3:w.frozen? ⟨b,3,none⟩=false
 f4:w.frozen? ⟨b,4,none⟩=false
 f5:w.frozen? ⟨b,5,none⟩=false
 f6:w.frozen? ⟨b,6,none⟩=false
 f7:w.frozen? ⟨b,7,none⟩=false
 f8:w.frozen? ⟨b,8,none⟩=false
 f9:w.frozen? ⟨b,9,none⟩=false
 f10:w.frozen? ⟨b,10,none⟩=false
 f11:w.frozen? ⟨b,11,none⟩=false
theorem qyc (h:w.heap[b]?=some (.cells #[x0,x1,x2,x3,x4,x5,x6,x7,x8,x9,x10,x11] t (0,0))):Row12 w b x0 x1 x2 x3 x4 x5 x6 x7 x8 x9 x10 x11:=
 ⟨rc h 0,rc h 1,rc h 2,rc h 3,rc h 4,rc h 5,rc h 6,rc h 7,rc h 8,rc h 9,rc h 10,rc h 11,rf h 0,rf h 1,rf h 2,rf h 3,rf h 4,rf h 5,rf h 6,rf h 7,rf h 8,rf h 9,rf h 10,rf h 11⟩
theorem vkx (h:w.heap[b]?=some (.cells #[x0,x1,x2,x3,x4,x5,x6,x7,x8,x9,x10,x11] t (0,0)))(a c d:Value):
  (((w.setCell ⟨b,0,none⟩ a).setCell ⟨b,1,none⟩ c).setCell ⟨b,2,none⟩ d).heap[b]?=some (.cells #[a,c,d,x3,x4,x5,x6,x7,x8,x9,x10,x11] t (0,0)):=
 heap_setCell_same _ b 2 _ _ _ (heap_setCell_same _ b 1 _ _ _ (heap_setCell_same _ b 0 _ _ _ h))
theorem vkz (h:w.heap[b]?=some (.cells #[x0,x1,x2,x3,x4,x5,x6,x7,x8,x9,x10,x11] t (0,0)))(a c d:Value):
  (((w.setCell ⟨b,3,none⟩ a).setCell ⟨b,4,none⟩ c).setCell ⟨b,5,none⟩ d).heap[b]?=some (.cells #[x0,x1,x2,a,c,d,x6,x7,x8,x9,x10,x11] t (0,0)):=
 heap_setCell_same _ b 5 _ _ _ (heap_setCell_same _ b 4 _ _ _ (heap_setCell_same _ b 3 _ _ _ h))
theorem vkj (h:w.heap[b]?=some (.cells #[x0,x1,x2,x3,x4,x5,x6,x7,x8,x9,x10,x11] t (0,0)))(a c d:Value):
  (((w.setCell ⟨b,6,none⟩ a).setCell ⟨b,7,none⟩ c).setCell ⟨b,8,none⟩ d).heap[b]?=some (.cells #[x0,x1,x2,x3,x4,x5,a,c,d,x9,x10,x11] t (0,0)):=
 heap_setCell_same _ b 8 _ _ _ (heap_setCell_same _ b 7 _ _ _ (heap_setCell_same _ b 6 _ _ _ h))
theorem vkq (h:w.heap[b]?=some (.cells #[x0,x1,x2,x3,x4,x5,x6,x7,x8,x9,x10,x11] t (0,0)))(a c d:Value):
  (((w.setCell ⟨b,9,none⟩ a).setCell ⟨b,10,none⟩ c).setCell ⟨b,11,none⟩ d).heap[b]?=some (.cells #[x0,x1,x2,x3,x4,x5,x6,x7,x8,a,c,d] t (0,0)):=
 heap_setCell_same _ b 11 _ _ _ (heap_setCell_same _ b 10 _ _ _ (heap_setCell_same _ b 9 _ _ _ h))
theorem zji (h:w.heap[b]?=some (.cells #[x0,x1,x2,x3,x4,x5,x6,x7,x8,x9,x10,x11] t (0,0)))(y0 y1 y2 y3 y4 y5 y6 y7 y8 y9 y10 y11:Value):
  ((((((((((((w.setCell ⟨b,0,none⟩ y0).setCell ⟨b,1,none⟩ y1).setCell ⟨b,2,none⟩ y2).setCell ⟨b,3,none⟩ y3).setCell ⟨b,4,none⟩ y4).setCell ⟨b,5,none⟩ y5).setCell ⟨b,6,none⟩ y6).setCell ⟨b,7,none⟩ y7).setCell ⟨b,8,none⟩ y8).setCell ⟨b,9,none⟩ y9).setCell ⟨b,10,none⟩ y10).setCell ⟨b,11,none⟩ y11).heap[b]?=some (.cells #[y0,y1,y2,y3,y4,y5,y6,y7,y8,y9,y10,y11] t (0,0)):=
 vkq (vkj (vkz (vkx h y0 y1 y2) y3 y4 y5) y6 y7 y8) y9 y10 y11
theorem Rd.zji (h:Rd w R v L st)(a:∀g,v.ownBlock=some g->g<B)(c:R<B)  (hb:B<=b)  :
  Rd ((((((((((((w.setCell ⟨b,0,none⟩ y0).setCell ⟨b,1,none⟩ y1).setCell ⟨b,2,none⟩ y2).setCell ⟨b,3,none⟩ y3).setCell ⟨b,4,none⟩ y4).setCell ⟨b,5,none⟩ y5).setCell ⟨b,6,none⟩ y6).setCell ⟨b,7,none⟩ y7).setCell ⟨b,8,none⟩ y8).setCell ⟨b,9,none⟩ y9).setCell ⟨b,10,none⟩ y10).setCell ⟨b,11,none⟩ y11) R v L st:=
 ((((((((((((h.jk a c (p:=⟨b,0,none⟩) hb y0).jk a c (p:=⟨b,1,none⟩) hb y1).jk a c (p:=⟨b,2,none⟩) hb y2).jk a c (p:=⟨b,3,none⟩) hb y3).jk a c (p:=⟨b,4,none⟩) hb y4).jk a c (p:=⟨b,5,none⟩) hb y5).jk a c (p:=⟨b,6,none⟩) hb y6).jk a c (p:=⟨b,7,none⟩) hb y7).jk a c (p:=⟨b,8,none⟩) hb y8).jk a c (p:=⟨b,9,none⟩) hb y9).jk a c (p:=⟨b,10,none⟩) hb y10).jk a c (p:=⟨b,11,none⟩) hb y11)
theorem Kept.zji (h:Kept R a w)  (hb:a.heap.size<=b)  : Kept R a ((((((((((((w.setCell ⟨b,0,none⟩ y0).setCell ⟨b,1,none⟩ y1).setCell ⟨b,2,none⟩ y2).setCell ⟨b,3,none⟩ y3).setCell ⟨b,4,none⟩ y4).setCell ⟨b,5,none⟩ y5).setCell ⟨b,6,none⟩ y6).setCell ⟨b,7,none⟩ y7).setCell ⟨b,8,none⟩ y8).setCell ⟨b,9,none⟩ y9).setCell ⟨b,10,none⟩ y10).setCell ⟨b,11,none⟩ y11):=
 ((((((((((((h.jk (p:=⟨b,0,none⟩) hb y0).jk (p:=⟨b,1,none⟩) hb y1).jk (p:=⟨b,2,none⟩) hb y2).jk (p:=⟨b,3,none⟩) hb y3).jk (p:=⟨b,4,none⟩) hb y4).jk (p:=⟨b,5,none⟩) hb y5).jk (p:=⟨b,6,none⟩) hb y6).jk (p:=⟨b,7,none⟩) hb y7).jk (p:=⟨b,8,none⟩) hb y8).jk (p:=⟨b,9,none⟩) hb y9).jk (p:=⟨b,10,none⟩) hb y10).jk (p:=⟨b,11,none⟩) hb y11)
theorem jqs (w:World)(R:Nat)(v:Value)(L:List Tok)(st:RS)(h:Rd w R v L st):
  qJ 104 #[.pointer (some ⟨R,0,none⟩)] w (pq1 R v L w (kwm L st)):=by
 have hX:R<w.heap.size:=wu h.rd;have HV:=pG (mg h.own);go_enter func104,ntmps104
 go_wp2_with fail
 refine(kq0 oZ _ R v L st (h.below (((Below.refl _ _).alloc (wJ _) _).alloc au _))).mono ?_;rintro e w1 ⟨rfl,h1,aB⟩;have bJ:=(aB.block (w.heap.size+1) au aj).trans (heap_alloc_new' (w.alloc _) _ (w.heap.size+1) au);have bD:=(aB.block w.heap.size ay aj).trans ((tX (w.alloc _) _ w.heap.size au).trans (heap_alloc_new w _));have b5:=pG ((((Kept.refl R w).alloc _).alloc _).trans aB);have H1:=pG h1;have aV:=pG bJ;have aQ:=pG bD;clear h h1 aB bJ bD;generalize bF:qy L oZ st=s1 at H1;have E1:=pG bF;clear bF;go_wp2_with fail
 refine(kzf og _ R v L s1 (ku H1) rfl).mono ?_;rintro e w2 ⟨rfl,h2,aC⟩;have b3:=(aC.block (w.heap.size+1) (wu (ku aV)) aj).trans (ku aV);have aR:=pG ((aC.block w.heap.size (wu (ku aQ)) aj).trans (ku aQ));have b6:=pG ((ku b5).trans aC);have H2:=pG h2;have aW:=pG b3;obtain⟨G,d1,d2,d3,d4,d5,H,I,J,K,d10,d11,M,N,O,P,Q,S,T,U,V,W,l,m⟩:=qyc b3;clear h2 aC b3 b5 H1 aV aQ;generalize hk:qm L og s1=k at H2 |-;have E2:=pG hk;clear hk;unfold kx2;go_wp2_with fail
 refine(kq0 [58] _ R v L k.2 ((ku H2).qjy (ku HV) hX au)).mono ?_;rintro e w3 ⟨rfl,h3,aD⟩;have aX:=pG ((aD.block (w.heap.size+1) (by simpa using wu (ku aW)) aj).trans (vkx (ku aW) _ _ _));have aS:=pG ((aD.block w.heap.size (by simpa using wu (ku aR)) aj).trans ((wP _ _ _ _ au).trans ((wP _ _ _ _ au).trans ((wP _ _ _ _ au).trans (ku aR)))));have b7:=pG (((ku b6).qjy (b:=w.heap.size+1) au).trans aD);have H3:=pG h3;clear h3 aD G d1 d2 d3 d4 d5 H I J K d10 d11 M N O P Q S T U V W l m b6 H2 aW aR;generalize bG:qy L [58] k.2=s3 at H3;have E3:=pG bG;clear bG;go_wp2_with fail
 refine(kjx [91] _ R v L s3 (ku H3)).mono ?_;rintro e w4 ⟨rfl,h4,aE⟩;have D:=pG ((aE.block (w.heap.size+1) (wu (ku aX)) aj).trans (ku aX));have C:=pG ((aE.block w.heap.size (wu (ku aS)) aj).trans (ku aS));have a0:=pG ((ku b7).trans aE);have H4:=pG h4;clear h4 aE b7 H3 aX aS;cases bC:qo L [91] s3;case' false=>
  have E4:=pG (show kjb L s3=(zf,s3) by simp[kjb,bC]);obtain⟨u,b2⟩:∃u,u=w4:=⟨_,rfl⟩;rw[<-b2];rw[<-b2]at D H4 C a0;clear b2;obtain⟨o,s⟩:∃o:Tok×RS,o=(zf,s3):=⟨_,rfl⟩;have a1:=pG (show u.heap[w.heap.size+1]?=some (.cells #[.string k.1.kind,.string k.1.text,.int .i64 k.1.at_,.string o.1.kind,.string o.1.text,.int .i64 o.1.at_,.string ⟨#[]⟩,.string ⟨#[]⟩,.int .i64 0,.string ⟨#[]⟩,.string ⟨#[]⟩,.int .i64 0] 222 (0,0)) by rw[s];exact ku D);have H5:=pG (show Rd u R v L o.2 by rw[s];exact ku H4);have aT:=C;have aO:=a0;rw[<-s]at E4;have bO:=pG s;clear s D H4 C a0
 case' true=>
  have E4:=pG (show kjb L s3=((qm L og (qy L [91] s3)).1,qy L [93] (qm L og (qy L [91] s3)).2) by simp[kjb,bC]);go_wp2_with fail
  refine(kq0 [91] _ R v L s3 (ku H4)).mono ?_;rintro e cA ⟨rfl,bA,Y⟩;have a8:=pG ((Y.block (w.heap.size+1) (wu (ku D)) aj).trans (ku D));have a5:=pG ((Y.block w.heap.size (wu (ku C)) aj).trans (ku C));have aM:=pG ((ku a0).trans Y);have b4:=pG bA;clear bA Y a0 H4 D C;go_wp2_with fail
  refine(kzf og _ R v L _ (ku b4) rfl).mono ?_;rintro e cB ⟨rfl,bB,Z⟩;have F:=pG ((Z.block (w.heap.size+1) (wu (ku a8)) aj).trans (ku a8));have a6:=pG ((Z.block w.heap.size (wu (ku a5)) aj).trans (ku a5));have aN:=pG ((ku aM).trans Z);have aJ:=pG bB;obtain⟨G,d1,d2,d3,d4,d5,H,I,J,K,d10,d11,M,N,O,P,Q,S,T,U,V,W,l,m⟩:=qyc (ku F);clear bB Z aM b4 a8 a5;generalize bL:qm L og (qy L [91] s3)=ov at aJ E4 |-;unfold kx2;go_wp2_with fail
  refine(kq0 [93] _ R v L ov.2 ((ku aJ).qjy (ku HV) hX au)).mono ?_;rintro e u ⟨rfl,h5,aF⟩;obtain⟨o,s⟩:∃o:Tok×RS,o=(ov.1,qy L [93] ov.2):=⟨_,rfl⟩;have bK:=(aF.block (w.heap.size+1) (by simpa using wu (ku F)) aj).trans (vkz (ku F) _ _ _);have a1:=pG (show u.heap[w.heap.size+1]?=some (.cells #[.string k.1.kind,.string k.1.text,.int .i64 k.1.at_,.string o.1.kind,.string o.1.text,.int .i64 o.1.at_,.string ⟨#[]⟩,.string ⟨#[]⟩,.int .i64 0,.string ⟨#[]⟩,.string ⟨#[]⟩,.int .i64 0] 222 (0,0)) by rw[s];exact bK);have H5:=pG (show Rd u R v L o.2 by rw[s];exact h5);have aT:=pG ((aF.block w.heap.size nZ aj).trans ((wP _ _ _ _ au).trans ((wP _ _ _ _ au).trans ((wP _ _ _ _ au).trans (ku a6)))));have aO:=pG (((ku aN).qjy (b:=w.heap.size+1) au).trans aF);rw[<-s]at E4;have bO:=pG s;clear s h5 aF bK F aJ a6 aN bL G d1 d2 d3 d4 d5 H I J K d10 d11 M N O P Q S T U V W l m
 all_goals
  obtain⟨c0,c1,c2,c3,f0,f1,f2,f3⟩:=row4 (ku H5).rd;obtain⟨gb,cap,hv,hg,bW,bU,t0,t1,t2⟩:=(ku H5).open;rw[hv]at c0;have bX:gb<w.heap.size:=ku HV gb (by rw[hv];rfl);have bT:=(ku H5).lt;have bS:=(ku H5).len;obtain⟨G,d1,d2,d3,d4,d5,H,I,J,K,d10,d11,M,N,O,P,Q,S,T,U,V,W,l,m⟩:=qyc (ku a1);have bY:=wu (ku a1);clear hv;generalize bI:tk L o.2.at_=ty at t0 t1 t2;have E6:=pG bI;clear bI;go_wp2_with fail
  go_region
  have aA:=pG (show((((u.setCell ⟨w.heap.size+1,6,none⟩ (.string ty.kind)).setCell ⟨w.heap.size+1,7,none⟩ (.string ty.text)).setCell ⟨w.heap.size+1,8,none⟩ (.int .i64 ty.at_)).drew).heap[w.heap.size+1]?=_ from vkj (ku a1) _ _ _);have a9:=pG (show((((u.setCell ⟨w.heap.size+1,6,none⟩ (.string ty.kind)).setCell ⟨w.heap.size+1,7,none⟩ (.string ty.text)).setCell ⟨w.heap.size+1,8,none⟩ (.int .i64 ty.at_)).drew).heap[w.heap.size]?=_ from(wP _ _ _ _ au).trans ((wP _ _ _ _ au).trans ((wP _ _ _ _ au).trans (ku aT))));have aP:=pG (((ku aO).qjy (b:=w.heap.size+1) (i:=6) (j:=7) (k:=8) (x:=.string ty.kind) (y:=.string ty.text) (z:=.int .i64 ty.at_) au).drew);have H6:=pG (((ku H5).qjy (b:=w.heap.size+1) (i:=6) (j:=7) (k:=8) (x:=.string ty.kind) (y:=.string ty.text) (z:=.int .i64 ty.at_) (ku HV) hX au).below ((Below.refl _ _).drew));clear c0 c1 c2 c3 f0 f1 f2 f3 t0 t1 t2 G d1 d2 d3 d4 d5 H I J K d10 d11 M N O P Q S T U V W l m a1 aT aO H5;generalize ((((u.setCell ⟨w.heap.size+1,6,none⟩ (.string ty.kind)).setCell ⟨w.heap.size+1,7,none⟩ (.string ty.text)).setCell ⟨w.heap.size+1,8,none⟩ (.int .i64 ty.at_)).drew)=w6 at aA a9 aP H6 |-;go_wp2_with fail
  refine(kjx pX _ R v L o.2 (ku H6)).mono ?_;rintro e w7 ⟨rfl,h7,aG⟩;have aY:=pG ((aG.block (w.heap.size+1) (wu (ku aA)) aj).trans (ku aA));have aU:=pG ((aG.block w.heap.size (wu (ku a9)) aj).trans (ku a9));have b8:=pG ((ku aP).trans aG);have H7:=pG h7;clear h7 aG aP H6 aA a9;go_wp2_with fail
  refine(kjx o8 _ R v L o.2 (ku H7)).mono ?_;rintro e w8 ⟨rfl,h8,aH⟩;have g:=pG ((aH.block (w.heap.size+1) (wu (ku aY)) aj).trans (ku aY));have f:=pG ((aH.block w.heap.size (wu (ku aU)) aj).trans (ku aU));have A:=pG ((ku b8).trans aH);have H8:=pG h8;clear h8 aH b8 H7 aY aU;cases aZ:qo L pX o.2;case' false=>
   cases bH:qo L o8 o.2;case' true=>
    have E5:=pG (show kxe L o.2=qm L oQ (qy L o8 o.2) by simp[kxe,aZ,bH]);go_wp2_with fail
    refine(kq0 o8 _ R v L o.2 (ku H8)).mono ?_;rintro e w9 ⟨rfl,h9,a⟩;have q:=pG ((a.block (w.heap.size+1) (wu (ku g)) aj).trans (ku g));have p:=pG ((a.block w.heap.size (wu (ku f)) aj).trans (ku f));have B:=pG ((ku A).trans a);have H9:=pG h9;clear h9 a A H8 g f;go_wp2_with fail
    refine(kzf oQ _ R v L _ (ku H9) rfl).mono ?_;rintro e bZ ⟨rfl,b9,X⟩;have E:=pG ((X.block (w.heap.size+1) (wu (ku q)) aj).trans (ku q));have a4:=pG ((X.block w.heap.size (wu (ku p)) aj).trans (ku p));have aL:=pG ((ku B).trans X);have aI:=pG b9;obtain⟨G,d1,d2,d3,d4,d5,H,I,J,K,d10,d11,M,N,O,P,Q,S,T,U,V,W,l,m⟩:=qyc (ku E);clear b9 X B H9 q p;generalize bV:qm L oQ (qy L o8 o.2)=dg at aI E5 |-;unfold kx2;go_wp2_with fail
    refine(kq0 [59] _ R v L dg.2 ((ku aI).qjy (ku HV) hX au)).mono ?_;rintro e bR ⟨rfl,a2,c⟩;have t:=(c.block (w.heap.size+1) (by simpa using wu (ku E)) aj).trans (vkq (ku E) _ _ _);have d:=(c.block w.heap.size (by simpa using wu (ku a4)) aj).trans ((wP _ _ _ _ au).trans ((wP _ _ _ _ au).trans ((wP _ _ _ _ au).trans (ku a4))));have a3:=pG (((ku aL).qjy (b:=w.heap.size+1) au).trans c);have aK:=pG a2;have a7:=pG d;clear G d1 d2 d3 d4 d5 H I J K d10 d11 M N O P Q S T U V W l m;obtain⟨G,d1,d2,d3,d4,d5,H,I,J,K,d10,d11,M,N,O,P,Q,S,T,U,V,W,l,m⟩:=qyc t;obtain⟨g0,g1,g2,g3,g4,g5,g6,g7,g8,g9,bM,bN,m0,m1,m2,m3,m4,m5,m6,m7,m8,m9,bP,bQ⟩:=qyc d;have HE:=pG (vq7 (ku E1) (ku E2) (ku E3) (ku E4) (ku E5));rw[ku E6]at HE;clear a2 c t d aL aI E a4;go_wp2
    refine rY (v:=jzu {name:=k.1,over:=o.1,type_:=ty,top:=dg.1}) (rP results104 _ _ w.heap.size _ _ _ _ rfl (zji (ku a7) _ _ _ _ _ _ _ _ _ _ _ _) underlying222 rfl ah) rfl ?_;rw[ku HE];exact⟨rfl,(ku aK).zji (ku HV) hX (wJ _),(ku a3).zji (wJ _)⟩
   case' false=>
    have E5:=pG (show kxe L o.2=(zf,(qm L og o.2).2) by simp[kxe,aZ,bH]);go_wp2_with fail
    refine(kzf og _ R v L o.2 (ku H8) rfl).mono ?_;rintro e w9 ⟨rfl,h9,a⟩;have q:=pG ((a.block (w.heap.size+1) (wu (ku g)) aj).trans (ku g));have p:=pG ((a.block w.heap.size (wu (ku f)) aj).trans (ku f));have B:=pG ((ku A).trans a);have H9:=pG h9;clear h9 a A H8 g f
  case' true=>
   have E5:=pG (show kxe L o.2=(zf,qy L pX o.2) by simp[kxe,aZ]);go_wp2_with fail
   refine(kq0 pX _ R v L o.2 (ku H8)).mono ?_;rintro e w9 ⟨rfl,h9,a⟩;have q:=pG ((a.block (w.heap.size+1) (wu (ku g)) aj).trans (ku g));have p:=pG ((a.block w.heap.size (wu (ku f)) aj).trans (ku f));have B:=pG ((ku A).trans a);have H9:=pG h9;clear h9 a A H8 g f
  all_goals
   go_wp2_with fail
   refine(kq0 [59] _ R v L _ (ku H9)).mono ?_;rintro e bR ⟨rfl,a2,c⟩;have t:=(c.block (w.heap.size+1) (wu (ku q)) aj).trans (ku q);have d:=(c.block w.heap.size (wu (ku p)) aj).trans (ku p);have a3:=pG ((ku B).trans c);have aK:=pG a2;have a7:=pG d;obtain⟨G,d1,d2,d3,d4,d5,H,I,J,K,d10,d11,M,N,O,P,Q,S,T,U,V,W,l,m⟩:=qyc t;obtain⟨g0,g1,g2,g3,g4,g5,g6,g7,g8,g9,bM,bN,m0,m1,m2,m3,m4,m5,m6,m7,m8,m9,bP,bQ⟩:=qyc d;have HE:=pG (vq7 (ku E1) (ku E2) (ku E3) (ku E4) (ku E5));rw[ku E6]at HE;clear a2 c t d B H9 q p;go_wp2
   refine rY (v:=jzu {name:=k.1,over:=o.1,type_:=ty,top:=zf}) (rP results104 _ _ w.heap.size _ _ _ _ rfl (zji (ku a7) _ _ _ _ _ _ _ _ _ _ _ _) underlying222 rfl ah) rfl ?_;rw[ku HE];exact⟨rfl,(ku aK).zji (ku HV) hX (wJ _),(ku a3).zji (wJ _)⟩
end Go.Proofs.YtpmcnonmkghokaaGreatDoor

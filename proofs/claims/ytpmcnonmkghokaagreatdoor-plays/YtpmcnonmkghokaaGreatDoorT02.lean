import Derived.Test.YtpmcnonmkghokaaGreatDoorT01
set_option maxRecDepth 100000
set_option maxHeartbeats 4000000
set_option linter.unusedVariables false
set_option linter.unusedSimpArgs false
namespace Go.Proofs.YtpmcnonmkghokaaGreatDoor
open Go.Proofs.Tryz
open Go.RowKit
variable {o:ByteArray}{L:List Tok}{P b i k lo:Nat}{a:PX}{t:TypeId}{s u v va vb x y z:Value}{w w':World}
def zw7 (L:List Tok):Prop:=∀i,i<L.length->qkd (tk L i)=true->∃h:0<(tk L i).text.size,48<=(((tk L i).text[0]'h).toNat:Int)/\(((tk L i).text[0]'h).toNat:Int)<=57
def vw8 (R:Nat)(v:Value)(L:List Tok)(w:World)(r:PX×RS)(e:Ending)(w':World):Prop:=
 ∃p,e=.returned p/\yj w.heap.size w' r.1 p/\Rd w' R v L r.2/\Kept R w w'
def qza (f:Nat):Prop:=∀(n:Nat) (w:World) (R:Nat) (v:Value) (L:List Tok) (st:RS),n<=4->Rd w R v L st->zw7 L->need L (7-n) st<=f ->
 qJ 108 #[.pointer (some ⟨R,0,none⟩),.int .i64 n] w (vw8 R v L w (rX f n .nil L st))
def qka (f:Nat):Prop:=∀(n:Nat) (w:World) (R:Nat) (v:Value) (L:List Tok) (st:RS),n<=12->Rd w R v L st->zw7 L->need L 2 st<=f ->
 qJ 176 #[.pointer (some ⟨R,0,none⟩),.int .i64 n] w (vw8 R v L w (rX f (20+n) .nil L st))
theorem zx5 (f n:Nat)(x:PX)(L:List Tok)(st:RS):rX (f+1) (20+n) x L st =
  if st.bad then (kvi,st)
  else if qo L [33] st then
   if n=12 then (kvi,{st with bad:=true})
   else (opX zz0 (rX f (20+(n+1)) .nil L (qy L [33] st)).1 .nil,(rX f (20+(n+1)) .nil L (qy L [33] st)).2)
  else if qo L [40] st then ((rX f 0 .nil L (qy L [40] st)).1,qy L [41] (rX f 0 .nil L (qy L [40] st)).2)
  else if isConst (tk L st.at_) then (opX (tk L st.at_).text .nil .nil,{st with at_:=st.at_+1})
  else if qkd (tk L st.at_) then (vza (kq8 (tk L st.at_).text),{st with at_:=st.at_+1})
  else yt L st:=by
 rw[rX,if_neg aj,if_neg aj,if_neg aj];simp only[show(20+n=32)=(n=12) from ay,ZK]
theorem below_alloc1 (w:World)(o:Obj):pU w (w.alloc o):=(Below.refl _ _).alloc (wJ _) _
theorem yj.new {x:ELab}{b: PX}  {j: Nat}(c:yj lo w a va)(hb:yj lo w b vb)(d:lo<=w.heap.size):
  yj lo (w.alloc (.cells (kku x va vb) 242)) (.node i j x a b) (.pointer (some ⟨w.heap.size,0,none⟩)):=
 ⟨_,va,vb,rfl,d,heap_alloc_new _ _,c.below (below_alloc1 _ _),hb.below (below_alloc1 _ _)⟩
theorem qyl {b: PX}  (c:yj lo w a va)(hb:yj lo w b vb)(d:w.heap.size=k)(e:lo<=k):
  yj lo (w.alloc (.cells #[.string o,va,vb,.string ⟨#[]⟩,.string ⟨#[]⟩,.int .i64 0,.string ⟨#[]⟩,.string ⟨#[]⟩,.int .i64 0,.int .i64 0] 242)) (opX o a b) (.pointer (some ⟨k,0,none⟩)):=by
 subst d;exact yj.new (x:={op:=o,name:=zf,index:=zf,n:=0}) (i:=0) (j:=0) c hb e
theorem vvt {n:Int}(c:w.heap.size=k)(d:lo<=k):
  yj lo (w.alloc (.cells #[.string ⟨#[100,105,103,105,116]⟩,.pointer none,.pointer none,.string ⟨#[]⟩,.string ⟨#[]⟩,.int .i64 0,.string ⟨#[]⟩,.string ⟨#[]⟩,.int .i64 0,.int .i64 n] 242)) (vza n) (.pointer (some ⟨k,0,none⟩)):=by
 subst c;exact yj.new (x:={op:=kyp,name:=zf,index:=zf,n:=n}) (i:=0) (j:=0) (a:=.nil) (b:=.nil) (va:=.pointer none) (vb:=.pointer none) rfl rfl d
theorem qwf (c:w.heap.size=k)(d:lo<=k):
  yj lo (w.alloc (.cells #[.string ⟨#[]⟩,.pointer none,.pointer none,.string ⟨#[]⟩,.string ⟨#[]⟩,.int .i64 0,.string ⟨#[]⟩,.string ⟨#[]⟩,.int .i64 0,.int .i64 0] 242)) kvi (.pointer (some ⟨k,0,none⟩)):=
 qyl (a:=.nil) (b:=.nil) (va:=.pointer none) (vb:=.pointer none) rfl rfl c d
theorem vki (c:w.heap.size=k)(d:lo<=k):
  yj lo (w.alloc (.cells #[.string o,.pointer none,.pointer none,.string ⟨#[]⟩,.string ⟨#[]⟩,.int .i64 0,.string ⟨#[]⟩,.string ⟨#[]⟩,.int .i64 0,.int .i64 0] 242)) (opX o .nil .nil) (.pointer (some ⟨k,0,none⟩)):=
 qyl (a:=.nil) (b:=.nil) (va:=.pointer none) (vb:=.pointer none) rfl rfl c d
theorem vke (c:yj lo w a va)(d:w.heap.size=k)(e:lo<=k):
  yj lo (w.alloc (.cells #[.string o,va,.pointer none,.string ⟨#[]⟩,.string ⟨#[]⟩,.int .i64 0,.string ⟨#[]⟩,.string ⟨#[]⟩,.int .i64 0,.int .i64 0] 242)) (opX o a .nil) (.pointer (some ⟨k,0,none⟩)):=
 qyl (b:=.nil) (vb:=.pointer none) c rfl d e
theorem Rd.vxi {R:Nat}   {st:RS}(h:Rd w R v L st)(hb:st.bad=false)(h1:st.at_+1<L.length):Rd (w.setCell ⟨R,1,none⟩ (.int .i64 ((st.at_:Int)+1))) R v L {at_:=st.at_+1,nest:=st.nest,bad:=false}:=by
 have:=h.step h1;rw[hb]at this;exact this
theorem vzi {t:Tok}(h:isConst t=true):(t.kind.toList==oU)=true/\((t.text.toList==oG)=true\/((t.text.toList==oG)=false/\((t.text.toList==oP)=true\/((t.text.toList==oP)=false/\(t.text.toList==oJ)=true)))):=by
 unfold isConst at h;rw[wW,Qu,Qu]at h;refine⟨h.1,?_⟩;cases h1:(t.text.toList==oG)
 ·cases a:(t.text.toList==oP)
  ·rw[h1,a]at h;exact Or.inr ⟨rfl,Or.inr ⟨rfl,by simpa using h.2⟩⟩
  ·exact Or.inr ⟨rfl,Or.inl rfl⟩
 ·exact Or.inl rfl
theorem vvn {t:Tok}(h:isConst t=false):(t.kind.toList==oU)=false\/((t.kind.toList==oU)=true/\(t.text.toList==oG)=false/\(t.text.toList==oP)=false/\(t.text.toList==oJ)=false):=by
 unfold isConst at h;cases a:(t.kind.toList==oU)
 ·exact Or.inl rfl
 ·rw[a]at h;simp only[QC,QY]at h;exact Or.inr ⟨rfl,h.1.1,h.1.2,h.2⟩
theorem vx5 (f:Nat)(hL:qza f)(hA:qka f):qka (f+1):=by
 intro n w R v L st hn h X hf;obtain⟨c0,c1,c2,c3,_,_,_,_⟩:=row4 h.rd;have J:=h.lt;have a3:=h.len;have H:=pG h;obtain⟨g,cap,hv,hg,a9,a6,t0,t1,t2⟩:=h.open;rw[hv]at c0;have b:=pG (zx5 f n .nil L st);clear h hv;go_enter func176,ntmps176
 go_wp2_with fail
 go_region
 go_wp2_with fail
 refine(kjx [33] _ R v L st ((ku H).below (zk _ _))).mono ?_;rintro e w1 ⟨rfl,h1,y⟩;go_wp2_with fail
 refine(kjx [40] _ R v L st h1).mono ?_;rintro e w2 ⟨rfl,S,I⟩;have hT:=(I.block w.heap.size (Qy au y.size) aj).trans ((y.block w.heap.size au aj).trans (heap_alloc_new w _));have j:=pG (((Kept.of_below (zk w _)).trans y).trans I);have a4:=wu S.rd;have A:=(((Kept.of_below (R:=R) (zk w (.cells #[.string (tk L st.at_).kind,.string (tk L st.at_).text,.int .i64 (tk L st.at_).at_] 142))).trans y).trans I).size;have p:=pG S;obtain⟨c0,c1,c2,c3,f0,f1,f2,f3⟩:=row4 S.rd;obtain⟨Y,Z,u2,_,_,_⟩:=row3 hT;clear h1 y I S hT H;cases hb:st.bad
 ·rw[hb]at c3;have a:=ku b;clear b;rw[hb]at a;simp only[wU,if_false]at a;have b:=pG a;clear a;cases D:qo L [33] st
  ·have a:=ku b;clear b;rw[D]at a;simp only[wU,if_false]at a;cases E:qo L [40] st
   ·rw[E]at a;simp only[wU,if_false]at a;have d:=(ku p).fin st.at_ J;have x:=X st.at_ J;generalize tk L st.at_=t at a Y Z u2 d x;cases B:isConst t
    ·rw[B]at a;simp only[wU,if_false]at a;cases C:qkd t
     ·rw[C]at a;simp only[wU,if_false]at a;have b:=pG a;have u:(t.kind.toList==oQ)=false:=C;clear a d x C;rcases vvn B with k1|⟨k1,k2,k3,k4⟩;all_goals
       clear B;go_wp2_with fail
       refine(zyw _ R v L st (ku p)).mono ?_;rintro e w3 ⟨q,rfl,m,l,i⟩;have k:=pG ((ku j).trans i);have M:=pG l;have N:=pG m;clear l i m;go_wp2
       go_ret
       rw[ku b];exact⟨_,rfl,(ku N).mono A,ku M,ku k⟩
     ·rw[C]at a;simp only[if_true]at a;have b:=pG a;have u:(t.kind.toList==oQ)=true:=C;have hw:(t.kind.toList==oU)=false:=by rw[rQ]at u;rw[u];rfl
      have Q:=d (by rw[rQ]at u;rw[u];rfl);obtain⟨V,a7,a8⟩:=x C;have HV:=pG (show kq8 t.text=((t.text[0]'V).toNat:Int)-48 by simp[kq8,V]);clear a d x C B;go_wp2
      go_ret
      rw[ku b,ku HV];exact⟨_,rfl,vvt au A,((ku p).vxi hb Q).below (below_alloc1 _ _),((ku j).kzq _ _).alloc _⟩
    ·rw[B]at a;simp only[if_true]at a;have b:=pG a;have U:=vzi B;have Q:=d (by have:=U.1;rw[rQ]at this;rw[this];rfl);obtain⟨k1,k2⟩:=U;clear a d x B;rcases k2 with k2|⟨k2,k3|⟨k3,k4⟩⟩;all_goals
      go_wp2
      go_ret
      rw[ku b];exact⟨_,rfl,vki au A,((ku p).vxi hb Q).below (below_alloc1 _ _),((ku j).kzq _ _).alloc _⟩
   ·rw[E]at a;simp only[if_true]at a;have b:=pG a;clear a;have P:=zyt (s:=[40]) (c:=7) J hb aj aj hf;go_wp2_with fail
    refine(kq0 [40] _ R v L st (ku p)).mono ?_;rintro e w3 ⟨rfl,l,i⟩;have k:=pG ((ku j).trans i);have T:=wu l.rd;have M:=pG l;clear l i c0 c1 c2 c3 f0 f1 f2 f3 Y Z u2;go_wp2_with fail
    refine(hL 0 _ R v L (qy L [40] st) aj (ku M) X P).mono ?_;rintro e w4 ⟨q,rfl,m,K,z⟩;have F:=pG ((ku k).trans z);have W:=pG K;have N:=pG m;clear K z m;go_wp2_with fail
    refine(kq0 [41] _ R v L _ (ku W)).mono ?_;rintro e w5 ⟨rfl,h5,O⟩;have a0:=pG ((ku F).trans O);have H5:=pG h5;have a1:=pG ((ku N).kept O T);clear h5 O;go_wp2
    go_ret
    rw[ku b];exact⟨_,rfl,(ku a1).mono (ku k).size,ku H5,ku a0⟩
  ·have a:=ku b;clear b;rw[D]at a;simp only[if_true]at a;by_cases G:n=12
   ·rw[if_pos G]at a;have b:=pG a;subst G;clear a;go_wp2
    go_ret
    rw[ku b];exact⟨_,rfl,qwf au A,(ku p).jw0.below (below_alloc1 _ _),((ku j).kzq _ _).alloc _⟩
   ·rw[if_neg G]at a;have b:=pG a;have a2:n<12:=aj;clear a G;have P:=zyt (s:=[33]) (c:=2) J hb aj aj hf;go_wp2_with fail
    refine(kq0 [33] _ R v L st (ku p)).mono ?_;rintro e w3 ⟨rfl,l,i⟩;have k:=pG ((ku j).trans i);have T:=wu l.rd;have M:=pG l;clear l i c0 c1 c2 c3 f0 f1 f2 f3 Y Z u2;go_wp2_with fail
    refine(hA (n+1) _ R v L (qy L [33] st) aj (ku M) X P).mono ?_;rintro e w4 ⟨q,rfl,m,K,z⟩;have F:=pG ((ku k).trans z);have W:=pG K;have N:=pG m;have a5:=wu K.rd;obtain⟨q,rfl⟩:=m.ptr;clear K z m;go_wp2
    go_ret
    rw[ku b];exact⟨_,rfl,vke ((ku N).mono (ku k).size) rfl (ku F).size,(ku W).below (below_alloc1 _ _),(ku F).alloc _⟩
 ·rw[hb]at c3;have a:=ku b;clear b;rw[hb]at a;simp only[if_true]at a;have b:=pG a;have D:qo L [33] st=false:=by simp[qo,kwv,hb]
  have E:qo L [40] st=false:=by simp[qo,kwv,hb]
  clear a;go_wp2
  go_ret
  rw[ku b];exact⟨_,rfl,qwf rfl A,(ku p).below (below_alloc1 _ _),(ku j).alloc _⟩
theorem any_cons {α:Type}(p:α->Bool)(a:α)(l:List α):(a::l).any p=(p a||l.any p):=rfl
theorem zv9 (s:ByteArray)(w:World):qJ 258 #[.string s] w λe w'=>e=.returned (.bool (qk4 s))/\w'=w:=by
 have e:qk4 s=(((s.toList==oW)||(s.toList==oV)||(s.toList==oZ)||(s.toList==pX)||(s.toList==o8)||(s.toList==oD)) ||
   ((s.toList==oh)||(s.toList==oC)||(s.toList==oM)||(s.toList==oG)||(s.toList==oP)||(s.toList==oJ))):=by
  have t:∀a b:List UInt8,(a==b)=(b==a):=λa b=>by
   cases h:(a==b)
   ·cases c:(b==a)
    ·rfl
    ·rw[rQ]at c;subst c;simp at h
   ·rw[rQ]at h;subst h;simp
  unfold qk4;simp only[qzi,QB,Zg,bf,Qk];simp only[t _ s.data.toList,Je]
 have E:=pG e;clear e;cases h1:(s.toList==oW)
 ·cases c:(s.toList==oV)
  ·cases i:(s.toList==oZ)
   ·cases j:(s.toList==pX)
    ·cases k:(s.toList==o8)
     ·cases l:(s.toList==oD)
      ·cases m:(s.toList==oh)
       ·cases p:(s.toList==oC)
        ·cases q:(s.toList==oM)
         ·cases d:(s.toList==oG)
          ·cases f:(s.toList==oP)
           ·cases g:(s.toList==oJ);all_goals
             go_enter func258,ntmps258
             go_wp2
             go_ret
             exact⟨jf (by rw[ku E];simp[h1,c,i,j,k,l,m,p,q,d,f,g]),rfl⟩
           ·go_enter func258,ntmps258
            go_wp2
            go_ret
            exact⟨jf (by rw[ku E];simp[f]),rfl⟩
          ·go_enter func258,ntmps258
           go_wp2
           go_ret
           exact⟨jf (by rw[ku E];simp[d]),rfl⟩
         ·go_enter func258,ntmps258
          go_wp2
          go_ret
          exact⟨jf (by rw[ku E];simp[q]),rfl⟩
        ·go_enter func258,ntmps258
         go_wp2
         go_ret
         exact⟨jf (by rw[ku E];simp[p]),rfl⟩
       ·go_enter func258,ntmps258
        go_wp2
        go_ret
        exact⟨jf (by rw[ku E];simp[m]),rfl⟩
      ·go_enter func258,ntmps258
       go_wp2
       go_ret
       exact⟨jf (by rw[ku E];simp[l]),rfl⟩
     ·go_enter func258,ntmps258
      go_wp2
      go_ret
      exact⟨jf (by rw[ku E];simp[k]),rfl⟩
    ·go_enter func258,ntmps258
     go_wp2
     go_ret
     exact⟨jf (by rw[ku E];simp[j]),rfl⟩
   ·go_enter func258,ntmps258
    go_wp2
    go_ret
    exact⟨jf (by rw[ku E];simp[i]),rfl⟩
  ·go_enter func258,ntmps258
   go_wp2
   go_ret
   exact⟨jf (by rw[ku E];simp[c]),rfl⟩
 ·go_enter func258,ntmps258
  go_wp2
  go_ret
  exact⟨jf (by rw[ku E];simp[h1]),rfl⟩
theorem toList_empty {b:ByteArray}(h:(b.toList==[])=true):¬0<b.size:=by
 rw[rQ,bf]at h;have:b.data.size=0:=by rw[<-Jr,h];rfl
 intro hb;have:b.size=0:=this;omega
theorem qk0 {b:ByteArray}(h:(b.toList==[])=false):0<b.size:=by
 cases hb:b.size with
 |zero=>
  have:b.data.toList=[]:=by
   apply Jk;rw[Jr];exact hb
  rw[bf,this]at h;simp at h
 |succ n=>omega
theorem zvq (t:Tok)(w:World):qJ 238 #[ptV t] w λe w'=>e=.returned (.bool (kz5 t.text 0&&!qk4 t.text))/\pU w w':=by
 unfold ptV;cases b:(t.text.toList==[])
 ·have c:=qk0 b;cases a:kz5 t.text 0
  ·go_enter func238,ntmps238
   go_wp2_with fail
   refine(kzo _ _).mono ?_;rintro e w' ⟨rfl,rfl⟩;rw[kwe c,show inB 97 122 t.text 0=false from a];go_wp2
   go_ret
   exact⟨rfl,below_alloc1 _ _⟩
  ·cases d:qk4 t.text;all_goals
    go_enter func238,ntmps238
    go_wp2_with fail
    refine(kzo _ _).mono ?_;rintro e w' ⟨rfl,rfl⟩;rw[kwe c,show inB 97 122 t.text 0=true from a];go_wp2_with fail
    refine(zv9 _ _).mono ?_;rintro e w' ⟨rfl,rfl⟩;rw[d];go_wp2
    go_ret
    exact⟨rfl,below_alloc1 _ _⟩
 ·have a:kz5 t.text 0=false:=qkb (toList_empty b);go_enter func238,ntmps238
  go_wp2
  go_ret
  exact⟨jf (by rw[a];rfl),below_alloc1 _ _⟩
theorem qyw (t:Tok)(w:World):qJ 239 #[ptV t] w λe w'=>e=.returned (.bool (kz1 t.text 0))/\pU w w':=by
 unfold ptV;cases a:(t.text.toList==[])
 ·have c:=qk0 a;go_enter func239,ntmps239
  go_wp2_with fail
  refine(kyk _ _).mono ?_;rintro e w' ⟨rfl,rfl⟩;rw[kwe c];go_wp2
  go_ret
  exact⟨rfl,below_alloc1 _ _⟩
 ·have b:kz1 t.text 0=false:=qkb (toList_empty a);go_enter func239,ntmps239
  go_wp2
  go_ret
  exact⟨jf (by rw[b]),below_alloc1 _ _⟩
structure PR where
 next:Nat
 depth:Int
 failed:Bool
 place:Int
variable {r:PR}
structure Pw (w:World)(P:Nat)(v:Value)(L:List Tok)(r:PR):Prop where
 pd:w.heap[P]?=some (.cells #[v,.int .i64 r.next,.int .i64 r.depth,.bool r.failed,.int .i64 r.place] 196 (0,0))
 own:w.ownsRow 0 194 2 v L.length (kqe L)
 ne:v.ownBlock≠some P
 ok:bg L
 lt:r.next<L.length
theorem qj3 {a: Value}  (h:w.heap[b]?=some (.cells #[x,y,z,u,a] t (0,0))):
  Ce w b 0 x/\Ce w b 1 y/\Ce w b 2 z/\Ce w b 3 u/\Ce w b 4 a/\Fr w b 1/\Fr w b 2/\Fr w b 3/\Fr w b 4:=
 ⟨rc h 0,rc h 1,rc h 2,rc h 3,rc h 4,rf h 1,rf h 2,rf h 3,rf h 4⟩
theorem jw1 (h:w.heap[b]?=some (.cells #[x,y,z,u,s] t (0,0)))(n:Value):(w.setCell ⟨b,1,none⟩ n).heap[b]?=some (.cells #[x,n,z,u,s] t (0,0)):=heap_setCell_same w b 1 _ _ _ h
theorem pjk (h:w.heap[b]?=some (.cells #[x,y,z,u,s] t (0,0)))(n:Value):(w.setCell ⟨b,2,none⟩ n).heap[b]?=some (.cells #[x,y,n,u,s] t (0,0)):=heap_setCell_same w b 2 _ _ _ h
theorem pjx (h:w.heap[b]?=some (.cells #[x,y,z,u,s] t (0,0)))(n:Value):(w.setCell ⟨b,3,none⟩ n).heap[b]?=some (.cells #[x,y,z,n,s] t (0,0)):=heap_setCell_same w b 3 _ _ _ h
theorem pjz (h:w.heap[b]?=some (.cells #[x,y,z,u,s] t (0,0)))(n:Value):(w.setCell ⟨b,4,none⟩ n).heap[b]?=some (.cells #[x,y,z,u,n] t (0,0)):=heap_setCell_same w b 4 _ _ _ h
theorem Pw.kept {r': PR}(h:Pw w P v L r)(a:Kept P w w')
  (c:w'.heap[P]?=some (.cells #[v,.int .i64 r'.next,.int .i64 r'.depth,.bool r'.failed,.int .i64 r'.place] 196 (0,0))) (b:r'.next<L.length):Pw w' P v L r':=
 ⟨c,qzz h.own h.ne a,h.ne,h.ok,b⟩
theorem Pw.below (h:Pw w P v L r)(a:pU w w'):Pw w' P v L r:=
 h.kept (.of_below a) (by rw[a.block P (wu h.pd)];exact h.pd) h.lt
theorem zz6:∀(L:List Tok) (k:Nat),k<L.length->(kqe L)[k*2]?=some (.string (tk L k).text)/\(kqe L)[k*2+1]?=some (.int .i64 (tk L k).at_)
 |[],k,h=>by simp at h
 |a::L,0,_=>⟨rfl,rfl⟩
 |a::L,k+1,h=>by
  have b:=zz6 L k iw;have e:∀i,(kqe (a::L))[i+2]?=(kqe L)[i]?:=λi=>by
   show(kj9 a++kqe L)[i+2]?=_;rw[rD (by simp[kj9])];simp[kj9]
  have c:tk (a::L) (k+1)=tk L k:=by simp[tk]
  rw[c,show(k+1)*2=k*2+2 by omega,e,show k*2+2+1=(k*2+1)+2 by omega,e];exact b
theorem Pw.open (h:Pw w P v L r):
  ∃g cap,v=.slice (some ⟨g,0,none⟩) L.length cap/\g≠P/\g<w.heap.size/\P<w.heap.size/\w.cell? ⟨g,r.next*2,none⟩=some (.string (tk L r.next).text)/\w.cell? ⟨g,r.next*2+1,none⟩=some (.int .i64 (tk L r.next).at_):=by
 obtain⟨h1,b⟩:=h.own;have f:=h.lt;rcases b with⟨_,b⟩|⟨g,cap,m,i,t,d,p,q,s,k⟩
 ·omega
 ·have a:=zz6 L r.next f;refine⟨g,cap,i,λe=>h.ne (by rw[i];simp[Value.ownBlock,e]),wu d,wu h.pd,?_⟩;have c:∀j,j<L.length*2->w.cell? ⟨g,j,none⟩=(kqe L)[j]?:=λj l=>by
   rw[QK w g j _ _ _ d,<-k,Qo l];simp
  exact⟨(c _ aj).trans a.1,(c _ aj).trans a.2⟩
theorem qk9 (w:World)(P:Nat)(v:Value)(L:List Tok)(r:PR)(h:Pw w P v L r):
  qJ 152 #[.pointer (some ⟨P,0,none⟩)] w λe w'=>e=.returned (ptV (tk L r.next))/\pU w w':=by
 obtain⟨c0,c1,c2,c3,c4,_⟩:=qj3 h.pd;obtain⟨g,cap,rfl,k,i,f,t0,l⟩:=h.open;have j:=h.lt;have c:=h.ok.len;generalize tk L r.next=t at *;obtain⟨n,d,b,a⟩:=r;simp only at *;clear h;go_enter func152,ntmps152
 go_wp2
 go_region
 go_wp2
 refine rY (v:=ptV t) (by simp[results,results152,go_sem,ptV]) rfl ?_;exact⟨rfl,zk w _⟩
theorem Tryz.fTok0 (a:ByteArray)(b:Int)(w:World):(Instr.field 194 (.agg #[.string a,.int .i64 b]) 0).run prog w=.ok (.string a) w:=ah
theorem Tryz.fTok1 (a:ByteArray)(b:Int)(w:World):(Instr.field 194 (.agg #[.string a,.int .i64 b]) 1).run prog w=.ok (.int .i64 b) w:=ah
theorem jwa (s:ByteArray)(w:World)(P:Nat)(v:Value)(L:List Tok)(r:PR)(h:Pw w P v L r):
  qJ 89 #[.pointer (some ⟨P,0,none⟩),.string s] w λe w'=>e=.returned (.bool ((tk L r.next).text.toList==s.toList))/\pU w w':=by
 go_enter func89,ntmps89
 go_wp2_with fail
 refine(qk9 w P v L r h).mono ?_;rintro e b ⟨rfl,hb⟩;have a:=Tryz.fTok0 (tk L r.next).text (tk L r.next).at_;unfold ptV;go_wp2
 go_ret
 exact⟨rfl,hb⟩
def kkj (L:List Tok)(r:PR):PR:={next:=L.length-1,depth:=r.depth,failed:=true,place:=if r.failed then r.place else (tk L r.next).at_}
theorem qzh (w:World)(P:Nat)(v:Value)(L:List Tok)(r:PR)(h:Pw w P v L r):
  qJ 90 #[.pointer (some ⟨P,0,none⟩)] w λe w'=>e=.returned (.tuple #[])/\Pw w' P v L (kkj L r)/\Kept P w w':=by
 obtain⟨c0,c1,c2,c3,c4,f1,f2,f3,f4⟩:=qj3 h.pd;have m:=h.ok.pos;have l:=h.ok.len;obtain⟨g,cap,j,_⟩:=h.open;cases a:r.failed
 ·rw[a]at c3;have h1:Pw (w.setCell ⟨P,3,none⟩ (.bool true)) P v L {r with failed:=true}:=h.kept ((Kept.refl _ _).kzq _ _) (pjx h.pd _) h.lt;have H:=pG h;have d:=pG h1;clear h h1;go_enter func90,ntmps90
  go_wp2_with fail
  refine(qk9 _ P v L _ (ku d)).mono ?_;rintro e p ⟨rfl,hb⟩;have c:=(ku d).below hb;have b:Kept P w p:=((Kept.refl _ _).kzq _ _).trans (.of_below hb);clear c0 c1 c2 c3 c4 f1 f2 f3 f4 hb;obtain⟨c0,c1,c2,c3,c4,f1,f2,f3,f4⟩:=qj3 c.pd;have f:=pG c;have k:=pG b;subst j;clear c b;have q:=Tryz.fTok1 (tk L r.next).text (tk L r.next).at_;unfold ptV;go_wp2
  go_end0
  refine⟨rfl,(ku f).kept (((Kept.refl _ _).kzq _ _).kzq _ _) ?_ (by show L.length-1<_;omega),(ku k).trans (((Kept.refl _ _).kzq _ _).kzq _ _)⟩;have:=jw1 (pjz (ku f).pd (.int .i64 (tk L r.next).at_)) (.int .i64 ((L.length:Int)-1));rw[show kkj L r=⟨L.length-1,r.depth,true,(tk L r.next).at_⟩ by unfold kkj;rw[a];rfl];rw[show((L.length-1:Nat):Int)=(L.length:Int)-1 by omega];exact this
 ·rw[a]at c3;have H:=pG h;clear h;subst j;go_enter func90,ntmps90
  go_wp2
  go_end0
  refine⟨rfl,(ku H).kept ((Kept.refl _ _).kzq _ _) ?_ (by show L.length-1<_;omega),(Kept.refl _ _).kzq _ _⟩;have i:=(ku H).pd;rw[a]at i;have:=jw1 i (.int .i64 ((L.length:Int)-1));rw[show kkj L r=⟨L.length-1,r.depth,true,r.place⟩ by unfold kkj;rw[a];rfl];rw[show((L.length-1:Nat):Int)=(L.length:Int)-1 by omega];exact this
theorem bg.fin (h:bg L)  (hi:i<L.length)(a:((tk L i).text.toList==[])=false):i+1<L.length:=by
 by_cases e:i+1<L.length
 ·exact e
 ·have:i=L.length-1:=by omega
  subst this;rw[(h.ok _ hi).fin,h.last]at a;cases a
theorem bg.lastText (h:bg L):(tk L (L.length-1)).text.toList=[]:=by
 have a:=h.pos;have:=(h.ok (L.length-1) aj).fin;rw[h.last,rQ]at this;exact this
theorem Pw.step (h:Pw w P v L r)(h1:r.next+1<L.length):Pw (w.setCell ⟨P,1,none⟩ (.int .i64 ((r.next:Int)+1))) P v L {r with next:=r.next+1}:=
 h.kept (r':={r with next:=r.next+1}) ((Kept.refl _ _).kzq _ _) (jw1 h.pd _) h1
def isR (L:List Tok)(s:List UInt8)(r:PR):Bool:=(tk L r.next).text.toList==s
def zve (L:List Tok)(s:List UInt8)(r:PR):PR:=if isR L s r then {r with next:=r.next+1} else r
def ky2 (L:List Tok)(s:List UInt8)(r:PR):PR:=if isR L s r then {r with next:=r.next+1} else kkj L r
theorem zvy (L:List Tok)(s:List UInt8)(r:PR):(ky2 L s r).depth=r.depth:=by unfold ky2;split<;>rfl
def zkt (L:List Tok)(s:List UInt8)(d:Int)(r:PR):PR:=if r.depth==12 then kkj L r else {ky2 L s r with depth:=d}
theorem zva (s:ByteArray)(w:World)(P:Nat)(v:Value)(L:List Tok)(r:PR)(h:Pw w P v L r)(i:(s.toList==[])=false):
  qJ 205 #[.pointer (some ⟨P,0,none⟩),.string s] w λe w'=>e=.returned (.bool (isR L s.toList r))/\Pw w' P v L (zve L s.toList r)/\Kept P w w':=by
 go_enter func205,ntmps205
 go_wp2_with fail
 refine(jwa s w P v L r h).mono ?_;rintro e j ⟨rfl,hb⟩;have b:=h.below hb;have c:=Kept.of_below (R:=P) hb;rw[show((tk L r.next).text.toList==s.toList)=isR L s.toList r from rfl];cases a:isR L s.toList r
 ·have f:=show zve L s.toList r=r by unfold zve;rw[a];rfl
  go_wp2
  go_ret
  rw[f];exact⟨jf a.symm,b,c⟩
 ·have d:r.next+1<L.length:=b.ok.fin b.lt (by unfold isR at a;rw[rQ]at a;rw[a];exact i);have g:=b.ok.len;obtain⟨c0,c1,c2,c3,c4,f1,f2,f3,f4⟩:=qj3 b.pd;go_wp2
  go_ret
  rw[(show zve L s.toList r={r with next:=r.next+1} by unfold zve;rw[a];rfl)];exact⟨jf a.symm,b.step d,c.trans ((Kept.refl _ _).kzq _ _)⟩
theorem qws (s:ByteArray)(w:World)(P:Nat)(v:Value)(L:List Tok)(r:PR)(h:Pw w P v L r)(i:(s.toList==[])=false):
  qJ 201 #[.pointer (some ⟨P,0,none⟩),.string s] w λe w'=>e=.returned (.tuple #[])/\Pw w' P v L (ky2 L s.toList r)/\Kept P w w':=by
 go_enter func201,ntmps201
 go_wp2_with fail
 refine(zva s w P v L r h i).mono ?_;rintro e j ⟨rfl,a,d⟩;cases b:isR L s.toList r
 ·have c:=show ky2 L s.toList r=kkj L r by unfold ky2;rw[b];rfl
  rw[show zve L s.toList r=r by unfold zve;rw[b];rfl]at a;go_wp2_with fail
  refine(qzh _ P v L _ a).mono ?_;rintro e k ⟨rfl,g,f⟩;go_wp2
  go_end0
  rw[c];exact⟨rfl,g,d.trans f⟩
 ·have c:=show ky2 L s.toList r={r with next:=r.next+1} by unfold ky2;rw[b];rfl
  rw[show zve L s.toList r={r with next:=r.next+1} by unfold zve;rw[b];rfl]at a;go_wp2
  go_end0
  rw[c];exact⟨rfl,a,d⟩
theorem Pw.qyu (h:Pw w P v L r)(d:Int):Pw (w.setCell ⟨P,2,none⟩ (.int .i64 d)) P v L {r with depth:=d}:=
 h.kept (r':={r with depth:=d}) ((Kept.refl _ _).kzq _ _) (pjk h.pd _) h.lt
theorem open_any (s:ByteArray)(w:World)(P:Nat)(v:Value)(L:List Tok)(r:PR)(H:Pw w P v L r)(i:(s.toList==[])=false):
  qJ 204 #[.pointer (some ⟨P,0,none⟩),.string s] w λe w'=>e=.returned (.tuple #[]) /\
   (∃d,Pw w' P v L (zkt L s.toList d r)/\(-1000<=r.depth->r.depth<=1000->d=r.depth+1))/\Kept P w w':=by
 obtain⟨c0,c1,c2,c3,c4,f1,f2,f3,f4⟩:=qj3 H.pd;cases a:(r.depth==12)
 ·have H:=pG H;go_enter func204,ntmps204
  go_wp2_with fail
  refine(qws s w P v L r H i).mono ?_;rintro e j ⟨rfl,h1,c⟩;have b:Pw j P v L (ky2 L s.toList r):=h1;have g:=show ∀d,zkt L s.toList d r={ky2 L s.toList r with depth:=d} from λd=>by unfold zkt;rw[a];rfl
  obtain⟨c0,c1,c2,c3,c4,f1,f2,f3,f4⟩:=qj3 b.pd;rw[(zvy L s.toList r)]at c2;by_cases hb:-1000<=r.depth/\r.depth<=1000
  ·go_wp2
   go_end0
   exact⟨rfl,⟨r.depth+1,by rw[g];exact b.qyu _,λ_ _=>rfl⟩,c.trans ((Kept.refl _ _).kzq _ _)⟩
  ·go_wp2
   go_end0
   exact⟨rfl,⟨_,by rw[g];exact b.qyu _,λx y=>absurd ⟨x,y⟩ hb⟩,c.trans ((Kept.refl _ _).kzq _ _)⟩
 ·have H:=pG H;go_enter func204,ntmps204
  go_wp2_with fail
  refine(qzh _ P v L _ H).mono ?_;rintro e k ⟨rfl,h,f⟩;go_wp2
  refine rY (v:=.tuple #[]) (by simp[results,results204]) rfl ?_;exact⟨rfl,⟨r.depth+1,by rw[show zkt L s.toList (r.depth+1) r=kkj L r by unfold zkt;rw[a];rfl];exact h,λ_ _=>rfl⟩,f⟩
theorem vk6 (s:ByteArray)(w:World)(P:Nat)(v:Value)(L:List Tok)(r:PR)(h:Pw w P v L r)(c:(s.toList==[])=false):
  qJ 206 #[.pointer (some ⟨P,0,none⟩),.string s] w λe w'=>e=.returned (.tuple #[]) /\
   (∃d,Pw w' P v L {ky2 L s.toList r with depth:=d}/\(-1000<=r.depth->r.depth<=1000->d=r.depth-1))/\Kept P w w':=by
 go_enter func206,ntmps206
 go_wp2_with fail
 refine(qws s w P v L r h c).mono ?_;rintro e f ⟨rfl,h1,b⟩;have a:Pw f P v L (ky2 L s.toList r):=h1;obtain⟨c0,c1,c2,c3,c4,f1,f2,f3,f4⟩:=qj3 a.pd;rw[(zvy L s.toList r)]at c2;by_cases hb:-1000<=r.depth/\r.depth<=1000
 ·go_wp2
  go_end0
  exact⟨rfl,⟨_,a.qyu _,λ_ _=>rfl⟩,b.trans ((Kept.refl _ _).kzq _ _)⟩
 ·go_wp2
  go_end0
  exact⟨rfl,⟨_,a.qyu _,λx y=>absurd ⟨x,y⟩ hb⟩,b.trans ((Kept.refl _ _).kzq _ _)⟩
def nameB (L:List Tok)(r:PR):Bool:=kz5 (tk L r.next).text 0&&!qk4 (tk L r.next).text
def pqj (L:List Tok)(r:PR):Tok:=if nameB L r then tk L r.next else zf
def pqz (L:List Tok)(r:PR):PR:=if nameB L r then {r with next:=r.next+1} else kkj L r
def px0 (L:List Tok)(r:PR):PR:=if kz1 (tk L r.next).text 0 then {r with next:=r.next+1} else kkj L r
def pzi (L:List Tok)(r:PR):Tok:=if kz1 (tk L r.next).text 0 then tk L r.next else zf
def dgV (t:Tok):Value:=.agg #[.int .i64 (kq8 t.text),.int .i64 t.at_]
theorem kj0 (h:w.heap[b]?=some (.cells #[x,y] t (0,0))):
  Ce w b 0 x/\Ce w b 1 y/\Fr w b 0/\Fr w b 1:=
 ⟨rc h 0,rc h 1,rf h 0,rf h 1⟩
theorem set2 (h:w.heap[b]?=some (.cells #[x,y] t (0,0)))(m n:Value):(puts b [m,n] 0 w).heap[b]?=some (.cells #[m,n] t (0,0)):=zqe _ _ h
theorem jq7 {b:ByteArray}(h:inB 97 122 b 0=true\/inB 48 57 b 0=true):(b.toList==[])=false:=by
 cases hb:(b.toList==[])
 ·rfl
 ·have:=toList_empty hb;rcases h with h|h<;>(rw[qkb this]at h;cases h)
theorem Pw.setOther {B:Nat}(h:Pw w P v L r)(a:∀g,v.ownBlock=some g->g<B)(b:P<B){p:Addr}(c:B<=p.block)(u:Value):Pw (w.setCell p u) P v L r:=by
 refine⟨by rw[wP _ _ _ _ aj];exact h.pd,?_,h.ne,h.ok,h.lt⟩;exact ownsRow_setCell_other h.own (λe=>by have:=a _ e;omega) u
theorem name_any (w:World)(P:Nat)(v:Value)(L:List Tok)(r:PR)(h:Pw w P v L r):
  qJ 202 #[.pointer (some ⟨P,0,none⟩)] w λe w'=>e=.returned (ptV (pqj L r))/\Pw w' P v L (pqz L r)/\Kept P w w':=by
 have s:P<w.heap.size:=wu h.pd;have q:=pG (mg h.own);have R:=h.ok.len;go_enter func202,ntmps202
 go_wp2_with fail
 refine(qk9 _ P v L r (h.below (below_alloc1 _ _))).mono ?_;rintro e d ⟨rfl,hb⟩;have h1:Pw d P v L r:=h.below ((below_alloc1 w _).trans (hb.mono au));have z:Kept P w d:=.of_below ((below_alloc1 w _).trans (hb.mono au));have k:=(hb.block w.heap.size au).trans (heap_alloc_new _ _);have J:=wu k;have E:=pG h1;have u:=pG z;have y:=pG k;have i:=h1.ok.fin h1.lt;have m:=pG (show pqj L r=if nameB L r then tk L r.next else zf from rfl);have p:=pG (show pqz L r=if nameB L r then {r with next:=r.next+1} else kkj L r from rfl);clear h h1 hb z k;unfold ptV;go_wp2_with fail
 refine(zvq (tk L r.next) _).mono ?_;rintro e K ⟨rfl,a⟩;have C:nameB L r=true->r.next+1<L.length:=λhn=>i (jq7 (Or.inl (by unfold nameB at hn;rw[wW]at hn;exact hn.1)))
 rw[show(kz5 (tk L r.next).text 0&&!qk4 (tk L r.next).text)=nameB L r from rfl];have b:=(a.block w.heap.size ay).trans ((tX d _ _ J).trans (ku y));have j:=(a.block d.heap.size au).trans (heap_alloc_new _ _);have f:Pw K P v L r:=(ku E).below ((below_alloc1 d _).trans (a.mono au));have A:Kept P w K:=(ku u).trans (.of_below ((below_alloc1 d _).trans (a.mono au)));have D:=a.size;simp only[tJ]at D;have x:=pG A;clear a A y E u i;cases hn:nameB L r
 ·rw[hn]at m p;have B:=pG f;have c:=pG b;clear f b j;go_wp2_with fail
  refine(qzh _ P v L _ (ku B)).mono ?_;rintro e w3 ⟨rfl,H,g⟩;have l:=(g.block w.heap.size (wu (ku c)) aj).trans (ku c);obtain⟨N,d1,O,Q⟩:=kj0 l;have M:=pG H;have G:=pG l;have F:=pG ((ku x).trans g);clear H g l;go_wp2
  refine rY (v:=ptV zf) (rP results202 _ _ w.heap.size _ _ _ _ rfl (set2 (ku G) _ _) underlying107 rfl ah) rfl ?_;rw[ku m,ku p];exact⟨rfl,((ku M).setOther (ku q) s au _).setOther (ku q) s au _,((ku F).jk au _).jk au _⟩
 ·rw[hn]at m p;have I:=C hn;obtain⟨c0,c1,c2,c3,c4,f1,f2,f3,f4⟩:=qj3 f.pd;obtain⟨N,d1,O,Q⟩:=kj0 b;obtain⟨S,T,_,_⟩:=kj0 j;have B:=pG f;have c:=pG (b);clear f b j;generalize tk L r.next=t at *;go_wp2
  refine rY (v:=ptV t) (rP results202 _ _ w.heap.size _ _ _ _ rfl (set2 (by rw[wP _ _ _ _ ay];exact ku c) _ _) underlying107 rfl ah) rfl ?_;rw[ku m,ku p];exact⟨rfl,(((ku B).step I).setOther (ku q) s au _).setOther (ku q) s au _,(((ku x).kzq _ _).jk au _).jk au _⟩
theorem vze {b:ByteArray}(h:kz1 b 0=true):∃a:0<b.size,48<=((b[0]'a).toNat:Int)/\((b[0]'a).toNat:Int)<=57:=by
 unfold kz1 inB at h;by_cases a:0<b.size
 ·rw[dif_pos a]at h;simp at h;exact⟨a,aj,aj⟩
 ·rw[dif_neg a]at h;cases h
theorem jwx (w:World)(P:Nat)(v:Value)(L:List Tok)(r:PR)(h:Pw w P v L r):
  qJ 203 #[.pointer (some ⟨P,0,none⟩)] w λe w'=>e=.returned (dgV (pzi L r))/\Pw w' P v L (px0 L r)/\Kept P w w':=by
 have u:P<w.heap.size:=wu h.pd;have s:=pG (mg h.own);have V:=h.ok.len;go_enter func203,ntmps203
 go_wp2_with fail
 refine(qk9 _ P v L r (h.below (below_alloc1 _ _))).mono ?_;rintro e g ⟨rfl,hb⟩;have h1:Pw g P v L r:=h.below ((below_alloc1 w _).trans (hb.mono au));have B:Kept P w g:=.of_below ((below_alloc1 w _).trans (hb.mono au));have l:=(hb.block w.heap.size au).trans (heap_alloc_new _ _);have O:=wu l;have I:=pG h1;have y:=pG B;have A:=pG l;have k:=h1.ok.fin h1.lt;have p:=pG (show pzi L r=if kz1 (tk L r.next).text 0 then tk L r.next else zf from rfl);have q:=pG (show px0 L r=if kz1 (tk L r.next).text 0 then {r with next:=r.next+1} else kkj L r from rfl);clear h h1 hb B l;unfold ptV;go_wp2_with fail
 refine(qyw (tk L r.next) _).mono ?_;rintro e x ⟨rfl,a⟩;have F:kz1 (tk L r.next).text 0=true->r.next+1<L.length:=λhn=>k (jq7 (Or.inr hn))
 have b:=(a.block w.heap.size ay).trans ((tX g _ _ O).trans (ku A));have f:=(a.block g.heap.size au).trans (heap_alloc_new _ _);have i:Pw x P v L r:=(ku I).below ((below_alloc1 g _).trans (a.mono au));have C:Kept P w x:=(ku y).trans (.of_below ((below_alloc1 g _).trans (a.mono au)));have G:=a.size;simp only[tJ]at G;have z:=pG C;clear a C A I y k;cases hn:kz1 (tk L r.next).text 0
 ·rw[hn]at p q;have D:=pG i;have d:=pG b;clear i b f;go_wp2_with fail
  refine(qzh _ P v L _ (ku D)).mono ?_;rintro e w3 ⟨rfl,M,j⟩;have m:=(j.block w.heap.size (wu (ku d)) aj).trans (ku d);obtain⟨S,d1,T,U⟩:=kj0 m;have Q:=pG M;have K:=pG m;have J:=pG ((ku z).trans j);clear M j m;go_wp2
  refine rY (v:=dgV zf) (rP results203 _ _ w.heap.size _ _ _ _ rfl (set2 (ku K) _ _) underlying109 rfl ah) rfl ?_;rw[ku p,ku q];exact⟨rfl,((ku Q).setOther (ku s) u au _).setOther (ku s) u au _,((ku J).jk au _).jk au _⟩
 ·rw[hn]at p q;have N:=F hn;obtain⟨c,X,Y⟩:=vze hn;have R:=pG (show kq8 (tk L r.next).text=(((tk L r.next).text[0]'c).toNat:Int)-48 by simp[kq8,c]);obtain⟨c0,c1,c2,c3,c4,f1,f2,f3,f4⟩:=qj3 i.pd;obtain⟨S,d1,T,U⟩:=kj0 b;obtain⟨g0,g1,_,_⟩:=kj0 f;have D:=pG i;have d:=pG (b);have H:=b;have Z:=wu f;clear i b f;have W:=wu H;generalize tk L r.next=t at *;go_wp2
  go_region
  go_wp2
  have E:(((x.setCell ⟨P,1,none⟩ (.int .i64 ((r.next:Int)+1))).setCell ⟨w.heap.size,0,none⟩ (.int .i64 (((t.text[0]'c).toNat:Int)-48))).setCell ⟨w.heap.size,1,none⟩ (.int .i64 (t.at_:Int))).drew.heap[w.heap.size]? =
    some (.cells #[.int .i64 (((t.text[0]'c).toNat:Int)-48),.int .i64 (t.at_:Int)] 109 (0,0)):=
   set2 (w:=x.setCell ⟨P,1,none⟩ (.int .i64 ((r.next:Int)+1))) (by rw[wP _ _ _ _ ay];exact ku d) _ _
  refine rY (v:=.agg #[.int .i64 (((t.text[0]'c).toNat:Int)-48),.int .i64 (t.at_:Int)]) (rP results203 _ _ w.heap.size _ _ _ _ rfl E underlying109 rfl ah) rfl ?_;rw[ku p,ku q];refine⟨?_,((((ku D).step N).setOther (ku s) u au _).setOther (ku s) u au _).below ((Below.refl _ _).drew),((((ku z).kzq _ _).jk au _).jk au _).drew⟩;simp only[if_true];unfold dgV;rw[ku R]
end Go.Proofs.YtpmcnonmkghokaaGreatDoor

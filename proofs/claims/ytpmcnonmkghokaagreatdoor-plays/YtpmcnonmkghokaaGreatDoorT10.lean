import Derived.Test.YtpmcnonmkghokaaGreatDoorT09
import Derived.Deep.RegionWith
set_option maxHeartbeats 4000000
set_option maxRecDepth 100000
set_option linter.unusedVariables false
set_option linter.unusedSimpArgs false
namespace Go.Proofs.YtpmcnonmkghokaaGreatDoor
open Go.Proofs.Tryz
open Go.RowKit
variable {a b:ByteArray}{T:Nat}{t:PTree}{w w':World}
def ky9:ByteArray:=⟨#[115,101,116,32]⟩
def qqq:ByteArray:=⟨#[107,105,110,100,32]⟩
def kkf:ByteArray:=⟨#[116,114,117,116,104]⟩
def kvn:ByteArray:=⟨#[110,117,109,98,101,114]⟩
def jx8:ByteArray:=⟨#[110,111,110,101]⟩
def kj5:ByteArray:=⟨#[]⟩
theorem kji (h:a=b):Ending.returned (.string a)=.returned (.string b):=by rw[h]
def kzd (s:ByteArray):Bool:=decide (4<s.size)&&((s.extract 0 4).toList==[115,101,116,32])
theorem kyi (s:ByteArray)(w:World)(a:s.size<=2000):qJ 121 #[.string s] w λe w'=>e=.returned (.bool (kzd s))/\w'=w:=by
 by_cases h:4<s.size
 ·go_enter func121,ntmps121
  go_wp2
  go_ret
  exact⟨jf (by simp[kzd,h]),rfl⟩
 ·go_enter func121,ntmps121
  go_wp2
  go_ret
  exact⟨jf (by simp[kzd,h]),rfl⟩
theorem kqr.stay (h:kqr w T t)(g:∀k,T<=k->k<w.heap.size->w'.heap[k]?=w.heap[k]?):kqr w' T t:=by
 obtain⟨x0,x1,x2,x3,x4,y1,y3,y4,f,i,⟨h1,c⟩,b,⟨j,d⟩,⟨l,e⟩⟩:=h;have a:∀k,T+1<=k->k<w.heap.size->w'.heap[k]?=w.heap[k]?:=λk h1 b=>g k aj b
 exact⟨x0,x1,x2,x3,x4,y1,y3,y4,by rw[g T (wJ _) (wu f)];exact f,jq a i,⟨jq a h1,c.stay a⟩,jq a b,⟨jq a j,d.stay a⟩,⟨jq a l,e.stay a⟩⟩
theorem kqr.below (h:kqr w T t)(hb:pU w w'):kqr w' T t:=h.stay λk _ a=>hb.block k a
def kqf (t:PTree)(v:PVar):ByteArray:=
 if v.type_.kind.toList==oU then (if v.type_.text.toList==pX then kkf else kvn)
 else if 0<=qh (pq t) v.type_.text.toList then qqq++v.type_.text else ky9++v.type_.text
theorem qx4 (w:World)(T:Nat)(t:PTree)(v:PVar)(h:kqr w T t)(d:t.kinds.length<=801)(f:v.type_.text.size<=800):
  qJ 120 #[.pointer (some ⟨T,0,none⟩),jzu v] w λe w'=>e=.returned (.string (kqf t v))/\pU w w':=by
 have c:=pG h;clear h;unfold jzu kqu jr;simp only[QD,Qc];go_enter func120,ntmps120
 go_wp2_with fail
 refine(zj8 _ T t v.type_.text ((ku c).below (below_alloc1 _ _)) d).mono ?_;rintro e g ⟨rfl,rfl⟩;cases h1:(v.type_.kind.toList==oU)
 ·by_cases b:0<=qh (pq t) v.type_.text.toList
  ·have a:=pG (show kqf t v=qqq++v.type_.text by simp[kqf,h1,b]);generalize qh (pq t) v.type_.text.toList=n at b |-;go_wp2
   go_ret
   exact⟨kji (by rw[ku a];rfl),below_alloc1 _ _⟩
  ·have a:=pG (show kqf t v=ky9++v.type_.text by simp[kqf,h1,b]);generalize qh (pq t) v.type_.text.toList=n at b |-;go_wp2
   go_ret
   exact⟨kji (by rw[ku a];rfl),below_alloc1 _ _⟩
 ·generalize qh (pq t) v.type_.text.toList=n;cases b:(v.type_.text.toList==pX)
  ·have a:=pG (show kqf t v=kvn by simp[kqf,h1,b]);go_wp2
   go_ret
   exact⟨kji (by rw[ku a];rfl),below_alloc1 _ _⟩
  ·have a:=pG (show kqf t v=kkf by simp[kqf,h1,b]);go_wp2
   go_ret
   exact⟨kji (by rw[ku a];rfl),below_alloc1 _ _⟩
def qjd (t:PTree)(l:List PP)(s:List UInt8):Bool:=decide (0<=(kqa t.kinds s).1)||decide (0<=qh (zx t) s)||decide (0<=qh (je l) s)
structure TreeOk (t:PTree):Prop where
 sets:t.sets.length<=801
 kinds:t.kinds.length<=801
 vars:t.vars.length<=801
 members:∀k∈t.kinds,k.members.length<=801
theorem vzg (w:World)(T lo:Nat)(t:PTree)(n:Tok)(l:List PP)(va:Option Addr)(k j:Nat)(vg:Option Addr)(ba:Option Addr)(bn bc:Nat)(s:ByteArray)(h:kqr w T t)(i:TreeOk t)
  (q:w.ownsRow lo 236 6 (.slice va k j) l.length (kjh l)) (x:l.length<=801):
  qJ 117 #[.pointer (some ⟨T,0,none⟩),qz3 n (.slice va k j) (.pointer vg) (.slice ba bn bc),.string s] w λe w'=>e=.returned (.bool (qjd t l s.toList))/\pU w w':=by
 have m:=pG h;have v:=pG q;clear h q;unfold qz3;go_enter func117,ntmps117
 go_wp2_with fail
 refine(qwb _ T t s ((ku m).below (below_alloc1 _ _)) i.kinds i.members).mono ?_;rintro e u ⟨rfl,rfl⟩;go_wp2_with fail
 refine(ky6 _ T t s ((ku m).below (below_alloc1 _ _)) i.vars).mono ?_;rintro e u ⟨rfl,rfl⟩;go_wp2_with fail
 refine(qzq _ lo n l va k j vg ba bn bc s (qj (ku v) (below_alloc1 _ _)) x).mono ?_;rintro e u ⟨rfl,f⟩;have g:=pG ((below_alloc1 w _).trans (f.mono au));have d:=pG (show qjd t l s.toList=(decide (0<=(kqa t.kinds s.toList).1)||decide (0<=qh (zx t) s.toList)||decide (0<=qh (je l) s.toList)) from rfl);clear f;generalize (kqa t.kinds s.toList).1=a at d |-;generalize (kqa t.kinds s.toList).2=y;generalize qh (zx t) s.toList=b at d |-;generalize qh (je l) s.toList=c at d |-;by_cases h1:0<=a
 ·go_wp2
  go_ret
  exact⟨jf (by rw[ku d];simp[h1]),ku g⟩
 ·by_cases p:0<=b
  ·go_wp2
   go_ret
   exact⟨jf (by rw[ku d];simp[h1,p]),ku g⟩
  ·go_wp2
   go_ret
   exact⟨jf (by rw[ku d];try simp[h1,p]),ku g⟩
theorem vqw:∀(l:List PKind) (s:List UInt8),-1<=(kqa l s).1/\(kqa l s).1<l.length
 |[],_=>by simp[kqa]
 |t::l,s=>by
  have a:=vqw l s;rw[kqa];split
  ·simp
  ·split
   ·simp;omega
   ·simp;omega
def kzi (t:PTree)(l:List PP)(s:List UInt8):ByteArray:=
 if 0<=qh (je l) s then ky9++(l.getD (qh (je l) s).toNat ⟨zf,zf⟩).set_.text
 else if 0<=(kqa t.kinds s).1 then qqq++(t.kinds.getD (kqa t.kinds s).1.toNat ⟨zf,[]⟩).name.text
 else if 0<=qh (zx t) s then
  (if (t.vars.getD (qh (zx t) s).toNat ⟨zf,zf,zf,zf⟩).over.kind.toList==og then kj5 else kqf t (t.vars.getD (qh (zx t) s).toNat ⟨zf,zf,zf,zf⟩))
 else kj5
structure TreeFit (t:PTree):Prop where
 kinds:∀k∈t.kinds,k.name.text.size<=800
 vars:∀v∈t.vars,v.type_.text.size<=800/\v.over.text.size<=800
theorem zjm (w:World)(T lo:Nat)(t:PTree)(n:Tok)(l:List PP)(va:Option Addr)(vn Z:Nat)(vg:Option Addr)(ba:Option Addr)(bn bc:Nat)(s:ByteArray)(h:kqr w T t)(D:TreeOk t)(hf:TreeFit t)(a3:∀p∈l,p.set_.text.size<=800)
  (hp:w.ownsRow lo 236 6 (.slice va vn Z) l.length (kjh l)) (hl:l.length<=801):
  qJ 118 #[.pointer (some ⟨T,0,none⟩),qz3 n (.slice va vn Z) (.pointer vg) (.slice ba bn bc),.string s] w λe w'=>e=.returned (.string (kzi t l s.toList))/\pU w w':=by
 have HT:=pG h;have X:=pG hp;clear h hp;unfold qz3;go_enter func118,ntmps118
 go_wp2_with fail
 refine(qzq _ lo n l va vn Z vg ba bn bc s (qj (ku X) (below_alloc1 _ _)) hl).mono ?_;rintro e w1 ⟨rfl,H⟩;have B:=(below_alloc1 w _).trans (H.mono au);have R:=(H.block w.heap.size au).trans (heap_alloc_new w _);have a2:=pG R;have C:=pG B;have A:=pG ((ku HT).below B);have a1:=pG (qj (ku X) B);clear H B HT X R;go_wp2_with fail
 refine(ky6 _ T t s (ku A) D.vars).mono ?_;rintro e Q ⟨rfl,rfl⟩;go_wp2_with fail
 refine(qwb _ T t s (ku A) D.kinds D.members).mono ?_;rintro e Q ⟨rfl,rfl⟩;obtain⟨d0,d1,d2,d3,d4,d5,_⟩:=kzb (ku a2);obtain⟨x0,x1,x2,x3,x4,y1,y3,y4,G,O,⟨h1,x⟩,F,_⟩:=ku A;obtain⟨q0,q1,q2,q3,q4,_⟩:=kxh G;have E:=qye (je l) s.toList;have N:=vqw t.kinds s.toList;have bv:=qye (zx t) s.toList;rw[show(je l).length=l.length by simp[je]]at E;rw[show(zx t).length=t.vars.length by simp[zx]]at bv;by_cases c1:0<=qh (je l) s.toList
 ·obtain⟨v,L⟩:=Qq c1;have d:v<l.length:=aj;have k:l.getD v ⟨zf,zf⟩=l[v]:=getD_at _ _ _ d;have m:=pG (show kzi t l s.toList=ky9++(l[v]).set_.text by rw[kzi,if_pos c1,L,sJ,k]);have q:=a3 _ (wX d);obtain⟨a,cap,hv,f⟩:=kq5 (ku a1);cases hv;obtain⟨g,rfl,y⟩:=f v d;have I:Q.cell? ⟨g,v*6+4,none⟩=some (.string (l[v]).set_.text):=by
   rw[y _ aj];exact xq kkw 6 (λ_=>rfl) l v 4 d aj
  rw[L];generalize l[v]=P at I m q;generalize qh (zx t) s.toList=b;generalize (kqa t.kinds s.toList).1=c;generalize (kqa t.kinds s.toList).2=Y;clear f y k L c1 E N bv O h1 x F G;go_wp2
  go_ret
  exact⟨kji (by rw[ku m];rfl),ku C⟩
 ·by_cases c2:0<=(kqa t.kinds s.toList).1
  ·obtain⟨u,J⟩:=Qq c2;have d:u<t.kinds.length:=aj;have k:t.kinds.getD u ⟨zf,[]⟩=t.kinds[u]:=getD_at _ _ _ d;have m:=pG (show kzi t l s.toList=qqq++(t.kinds[u]).name.text by rw[kzi,if_neg c1,if_pos c2,J,sJ,k]);have q:=hf.kinds _ (wX d);have a4:=D.kinds;obtain⟨a,cap,rfl,f⟩:=kq5 h1;obtain⟨g,rfl,y⟩:=f u d;have I:Q.cell? ⟨g,u*4+1,none⟩=some (.string (t.kinds[u]).name.text):=by
    obtain⟨vm,_,h9,_⟩:=qqd u d x;rw[y _ aj];exact h9
   rw[J];generalize t.kinds[u]=K at I m q;generalize qh (je l) s.toList=a' at c1 |-;generalize qh (zx t) s.toList=b;generalize (kqa t.kinds s.toList).2=Y;clear f y k J c2 E N bv O h1 x F G;go_wp2
   go_ret
   exact⟨kji (by rw[ku m];rfl),ku C⟩
  ·by_cases c3:0<=qh (zx t) s.toList
   ·obtain⟨nv,M⟩:=Qq c3;have d:nv<t.vars.length:=aj;have k:t.vars.getD nv ⟨zf,zf,zf,zf⟩=t.vars[nv]:=getD_at _ _ _ d;have z:kzi t l s.toList=if (t.vars[nv]).over.kind.toList==og then kj5 else kqf t (t.vars[nv]):=by rw[kzi,if_neg c1,if_neg c2,if_pos c3,M,sJ,k]
    have q:=(hf.vars _ (wX d)).1;have a5:=D.vars;obtain⟨a,cap,rfl,f⟩:=kq5 F;obtain⟨g,rfl,y⟩:=f nv d;have i:∀j,j<12->Q.cell? ⟨g,nv*12+j,none⟩=(kqu (t.vars[nv]))[j]?:=λj hj=>by
     rw[y _ aj];exact xq kqu 12 (λ_=>rfl) t.vars nv j d hj
    have k0:=i 0 aj;have k1:=i 1 aj;have k2:=i 2 aj;have k3:=i 3 aj;have k4:=i 4 aj;have k5:=i 5 aj;have k6:=i 6 aj;have k7:=i 7 aj;have k8:=i 8 aj;have k9:=i 9 aj;have U:=i 10 aj;have W:=i 11 aj;simp only[kqu,jr,QD,Qc,sZ,tu,sU]at k0 k1 k2 k3 k4 k5 k6 k7 k8 k9 U W;rw[M];generalize t.vars[nv]=V at k0 k1 k2 k3 k4 k5 k6 k7 k8 k9 U W z q;generalize qh (je l) s.toList=a' at c1 |-;generalize (kqa t.kinds s.toList).1=c at c2 |-;generalize (kqa t.kinds s.toList).2=Y;clear f y i k M c3 E N bv O h1 x F G;cases ho:(V.over.kind.toList==og)
    ·rw[ho]at z;have m:=pG (show kzi t l s.toList=kqf t V from z);clear z;go_wp2_with fail
     refine(qx4 _ T t V (ku A) D.kinds q).mono ?_;rintro e w3 ⟨rfl,S⟩;have a0:=pG ((ku C).trans (S.mono (ku C).size));clear S;go_wp2
     go_ret
     exact⟨kji (by rw[ku m]),ku a0⟩
    ·rw[ho]at z;have m:=pG (show kzi t l s.toList=kj5 from z);clear z;go_wp2
     go_ret
     exact⟨kji (by rw[ku m];rfl),ku C⟩
   ·have m:=pG (show kzi t l s.toList=kj5 by rw[kzi,if_neg c1,if_neg c2,if_neg c3]);generalize qh (je l) s.toList=a' at c1 |-;generalize (kqa t.kinds s.toList).1=c at c2 |-;generalize (kqa t.kinds s.toList).2=Y;generalize qh (zx t) s.toList=b at c3 |-;clear E N bv O h1 x F G;go_wp2
    go_ret
    exact⟨kji (by rw[ku m];rfl),ku C⟩
def kvq (t:PTree)(l:List PP)(x:ELab):ByteArray:=
 if x.index.kind.toList==og then
  (if qh (zx t) x.name.text.toList<0 then kj5
   else if !((t.vars.getD (qh (zx t) x.name.text.toList).toNat ⟨zf,zf,zf,zf⟩).over.kind.toList==og) then kj5
   else if !((kzi t l x.index.text.toList).toList==(ky9++(t.vars.getD (qh (zx t) x.name.text.toList).toNat ⟨zf,zf,zf,zf⟩).over.text).toList) then kj5
   else kqf t (t.vars.getD (qh (zx t) x.name.text.toList).toNat ⟨zf,zf,zf,zf⟩))
 else kzi t l x.name.text.toList
def qwx (a b:ByteArray):Bool:=(a.toList==b.toList)&&!a.toList.isEmpty&&!(a.toList==oJ)
def opT (op a b:ByteArray):ByteArray:=
 if (op.toList==[33])||(op.toList==[38])||(op.toList==[124]) then (if qwx a b&&(a.toList==o7) then kkf else kj5)
 else if (op.toList==[43])||(op.toList==[45]) then (if qwx a b&&(a.toList==pW) then kvn else kj5)
 else if op.toList==[60] then (if qwx a b&&(a.toList==pW) then kkf else kj5)
 else (if qwx a b||((a.toList==oJ)&&kzd b)||((b.toList==oJ)&&kzd a) then kkf else kj5)
def kq2 (t:PTree)(l:List PP):PX->ByteArray
 |.nil=>kj5
 |.node _ _ x a b=>
  if (x.op.toList==oG)||(x.op.toList==oP) then kkf
  else if x.op.toList==oJ then jx8
  else if x.op.toList==oQ then kvn
  else if x.op.toList==oK then kvq t l x
  else opT x.op (kq2 t l a) (match b with|.nil=>kq2 t l a|.node i j y c d=>kq2 t l (.node i j y c d))
def qqg (op:ByteArray):Bool:=(op.toList==oG)||(op.toList==oP)||(op.toList==oJ)||(op.toList==oQ)||(op.toList==oK)
def isNil:PX->Bool
 |.nil=>true
 |_=>false
def XOk:PX->Prop
 |.nil=>True
 |.node _ _ x a b=>(qqg x.op=true\/isNil a=false)/\XOk a/\XOk b
theorem kwd (t:PTree)(l:List PP)(i j:Nat)(x:ELab)(a b:PX):kq2 t l (.node i j x a b) =
  if (x.op.toList==oG)||(x.op.toList==oP) then kkf
  else if x.op.toList==oJ then jx8
  else if x.op.toList==oQ then kvn
  else if x.op.toList==oK then kvq t l x
  else opT x.op (kq2 t l a) (if isNil b then kq2 t l a else kq2 t l b):=by
 cases b with
 |nil=>rw[kq2];rfl
 |node _ _ _ _ _=>rw[kq2];rfl
def qq6 (x:PX):Prop:=∀(w:World) (T lo lo':Nat) (t:PTree) (n:Tok) (l:List PP) (va:Option Addr) (vn vc:Nat) (vg:Option Addr) (ba:Option Addr) (bn bc:Nat) (p:Value),isNil x=false->XOk x->kqr w T t->TreeOk t->TreeFit t->(∀p∈l,p.set_.text.size<=800) ->
 w.ownsRow lo 236 6 (.slice va vn vc) l.length (kjh l)->l.length<=801->yj lo' w x p ->
 qJ 67 #[.pointer (some ⟨T,0,none⟩),qz3 n (.slice va vn vc) (.pointer vg) (.slice ba bn bc),p] w λe w'=>e=.returned (.string (kq2 t l x))/\pU w w'
theorem jzc (i j:Nat)(x:ELab)(a b:PX)(M:(x.op.toList==oK)=true):qq6 (.node i j x a b):=by
 intro w T lo lo' t n l va Z Y vg ba bn bc p _ hx h s G F hp U hN;obtain⟨k,pa,pb,rfl,_,S,a1,a2⟩:=hN;have q:x.op.toList=oK:=rQ.mp M;have o1:(x.op.toList==oG)=false:=by rw[q];rfl
 have o2:(x.op.toList==oP)=false:=by rw[q];rfl
 have o3:(x.op.toList==oJ)=false:=by rw[q];rfl
 have o4:(x.op.toList==oQ)=false:=by rw[q];rfl
 have C:=pG (show kq2 t l (.node i j x a b)=kvq t l x by rw[kwd];simp[o1,o2,o3,o4,M]);obtain⟨d0,d1,d2,d3,d4,d5,d6,d7,d8,d9,_⟩:=qyb (show w.heap[k]?=some (.cells #[.string x.op,pa,pb,.string x.name.kind,.string x.name.text,.int .i64 x.name.at_,.string x.index.kind,.string x.index.text,.int .i64 x.index.at_,.int .i64 x.n] _ (0,0)) from S);have a4:=wu S;have A:=pG h;have Q:=pG hp;clear h hp a1 a2 S q;unfold qz3;cases E:(x.index.kind.toList==og)
 ·go_enter func67,ntmps67
  go_wp2_with fail
  go_region_with ((go_at_call 118;refine(zjm _ T lo t n l va Z Y vg ba bn bc x.name.text ((ku A).below (zk _ _)) s G F (qj (ku Q) (zk _ _)) U).mono ?_;rintro e w1 ⟨rfl,I⟩))
  all_goals
   have B:=pG ((zk w _).trans (I.mono au));have d:=pG (show kvq t l x=kzi t l x.name.text.toList by simp[kvq,E]);clear I;go_wp2
   go_ret
   exact⟨kji (by rw[ku C,ku d]),ku B⟩
 ·have bv:=qye (zx t) x.name.text.toList;rw[show(zx t).length=t.vars.length by simp[zx]]at bv;by_cases c3:0<=qh (zx t) x.name.text.toList
  ·obtain⟨nv,L⟩:=Qq c3;have v:nv<t.vars.length:=aj;have K:t.vars.getD nv ⟨zf,zf,zf,zf⟩=t.vars[nv]:=getD_at _ _ _ v;have f:kvq t l x=if !((t.vars[nv]).over.kind.toList==og) then kj5 else if !((kzi t l x.index.text.toList).toList==(ky9++(t.vars[nv]).over.text).toList) then kj5 else kqf t (t.vars[nv]):=by
    rw[kvq,if_pos E,if_neg aj,L,sJ,K]
   have N:=G.vars _ (wX v);have a5:=s.vars;go_enter func67,ntmps67
   go_wp2_with fail
   refine(ky6 _ T t x.name.text ((ku A).below (below_alloc1 _ _)) s.vars).mono ?_;rintro e w1 ⟨rfl,rfl⟩;go_wp2_with fail
   clear L c3 bv K;go_region_with ((go_at_call 118;refine(zjm _ T lo t n l va Z Y vg ba bn bc x.index.text ((ku A).below (zk _ _)) s G F (qj (ku Q) (zk _ _)) U).mono ?_;rintro e w2 ⟨rfl,m⟩))
   all_goals
    have D:=(zk w _).trans (m.mono au);have u:=pG D;have H:=pG ((ku A).below D);obtain⟨x0,x1,x2,x3,x4,y1,y3,y4,hT,_,_,h2,_⟩:=ku H;obtain⟨q0,q1,q2,q3,q4,_⟩:=kxh hT;obtain⟨av,cap,rfl,y⟩:=kq5 h2;obtain⟨g,rfl,hc⟩:=y nv v;have c:∀j,j<12->w2.cell? ⟨g,nv*12+j,none⟩=(kqu (t.vars[nv]))[j]?:=λj hj=>by
     rw[hc _ aj];exact xq kqu 12 (λ_=>rfl) t.vars nv j v hj
    have k0:=c 0 aj;have k1:=c 1 aj;have k2:=c 2 aj;have k3:=c 3 aj;have k4:=c 4 aj;have k5:=c 5 aj;have k6:=c 6 aj;have k7:=c 7 aj;have k8:=c 8 aj;have k9:=c 9 aj;have O:=c 10 aj;have P:=c 11 aj;simp only[kqu,jr,QD,Qc,sZ,tu,sU]at k0 k1 k2 k3 k4 k5 k6 k7 k8 k9 O P;generalize t.vars[nv]=V at k0 k1 k2 k3 k4 k5 k6 k7 k8 k9 O P f N;obtain⟨X,a3⟩:=N;generalize kzi t l x.index.text.toList=R at f |-;clear y hc c h2 hT m D;cases W:(V.over.kind.toList==og)
    ·have d:=pG (show kvq t l x=kj5 by rw[f,W];rfl);clear f;go_wp2
     go_ret
     exact⟨kji (by rw[ku C,ku d];rfl),ku u⟩
    ·cases hq:(R.toList==((⟨#[115,101,116,32]⟩:ByteArray)++V.over.text).toList)
     ·have d:=pG (show kvq t l x=kj5 by rw[f,W];simp only[Jt,wU,if_false];rw[show(R.toList==(ky9++V.over.text).toList)=false from hq];rfl);clear f;go_wp2
      go_ret
      exact⟨kji (by rw[ku C,ku d];rfl),ku u⟩
     ·have d:=pG (show kvq t l x=kqf t V by rw[f,W];simp only[Jt,wU,if_false];rw[show(R.toList==(ky9++V.over.text).toList)=true from hq];rfl);clear f;go_wp2_with fail
      refine(qx4 _ T t V (ku H) s.kinds X).mono ?_;rintro e w3 ⟨rfl,J⟩;have a0:=pG ((ku u).trans (J.mono (ku u).size));clear J;go_wp2
      go_ret
      exact⟨kji (by rw[ku C,ku d]),ku a0⟩
  ·have d:=pG (show kvq t l x=kj5 by rw[kvq,if_pos E,if_pos aj]);go_enter func67,ntmps67
   go_wp2_with fail
   refine(ky6 _ T t x.name.text ((ku A).below (below_alloc1 _ _)) s.vars).mono ?_;rintro e w1 ⟨rfl,rfl⟩;generalize qh (zx t) x.name.text.toList=z at c3 bv |-;go_wp2_with fail
   go_region_with ((go_at_call 118;refine(zjm _ T lo t n l va Z Y vg ba bn bc x.index.text ((ku A).below (zk _ _)) s G F (qj (ku Q) (zk _ _)) U).mono ?_;rintro e w2 ⟨rfl,m⟩))
   all_goals
    have B:=pG ((zk w _).trans (m.mono au));clear m;go_wp2
    go_ret
    exact⟨kji (by rw[ku C,ku d];rfl),ku B⟩
theorem qx0 (i j:Nat)(x:ELab)(a b:PX)(s:(x.op.toList==oG)=true\/(x.op.toList==oP)=true\/(x.op.toList==oJ)=true\/(x.op.toList==oQ)=true):qq6 (.node i j x a b):=by
 intro w T lo lo' t n l va J I vg ba bn bc p _ z h y u g v H hN;obtain⟨k,pa,A,rfl,_,f,m,q⟩:=hN;obtain⟨C,d1,d2,d3,d4,d5,D,E,F,G,_⟩:=qyb (show w.heap[k]?=some (.cells #[.string x.op,pa,A,.string x.name.kind,.string x.name.text,.int .i64 x.name.at_,.string x.index.kind,.string x.index.text,.int .i64 x.index.at_,.int .i64 x.n] _ (0,0)) from f);have B:=wu f;clear h v m q f y u g z;unfold qz3;rcases s with h1|h1|h1|h1;all_goals
  have e:=rQ.mp h1;have d:=pG (show kq2 t l (.node i j x a b)=_ from kwd t l i j x a b);rw[e]at d;have c:=pG e;clear e
 ·go_enter func67,ntmps67
  go_wp2
  go_ret
  exact⟨kji (by rw[ku d];rfl),below_alloc1 _ _⟩
 ·have o1:(x.op.toList==oG)=false:=by rw[ku c];rfl
  go_enter func67,ntmps67
  go_wp2
  go_ret
  exact⟨kji (by rw[ku d];rfl),below_alloc1 _ _⟩
 ·have o1:(x.op.toList==oG)=false:=by rw[ku c];rfl
  have o2:(x.op.toList==oP)=false:=by rw[ku c];rfl
  go_enter func67,ntmps67
  go_wp2
  go_ret
  exact⟨kji (by rw[ku d];rfl),below_alloc1 _ _⟩
 ·have o1:(x.op.toList==oG)=false:=by rw[ku c];rfl
  have o2:(x.op.toList==oP)=false:=by rw[ku c];rfl
  have o3:(x.op.toList==oJ)=false:=by rw[ku c];rfl
  go_enter func67,ntmps67
  go_wp2
  go_ret
  exact⟨kji (by rw[ku d];rfl),below_alloc1 _ _⟩
theorem kw1 (a b:ByteArray):(a++b).size=a.size+b.size:=ZC
theorem kxi {c:Prop}[Decidable c]  {n:Nat}(ha:a.size<=n)(hb:b.size<=n):(if c then a else b).size<=n:=by split<;>assumption
theorem sizes:kkf.size<=900/\kvn.size<=900/\kj5.size<=900/\jx8.size<=900:=⟨ak,ak,ak,ak⟩
theorem kyh (t:PTree)(v:PVar)(a:v.type_.text.size<=800):(kqf t v).size<=900:=by
 unfold kqf;refine kxi (kxi sizes.1 sizes.2.1) (kxi ?_ ?_)
 ·rw[kw1];have:qqq.size=5:=rfl;omega
 ·rw[kw1];have:ky9.size=4:=rfl;omega
theorem getD_mem {α:Type}(l:List α)(k:Nat)(d:α)(p:α->Prop)(a:p d)(b:∀x∈l,p x):p (l.getD k d):=by
 by_cases h:k<l.length
 ·rw[getD_at _ _ _ h];exact b _ (wX h)
 ·rw[show l.getD k d=d from by simp[List.getD,h]];exact a
theorem jvw (t:PTree)(l:List PP)(a:TreeFit t)(b:∀p∈l,p.set_.text.size<=800)(s:List UInt8):(kzi t l s).size<=900:=by
 unfold kzi;split
 ·rw[kw1];have h1:ky9.size=4:=rfl;have:=getD_mem l (qh (je l) s).toNat ⟨zf,zf⟩ (λp=>p.set_.text.size<=800) ak b;omega
 ·split
  ·rw[kw1];have h1:qqq.size=5:=rfl;have:=getD_mem t.kinds (kqa t.kinds s).1.toNat ⟨zf,[]⟩ (λp=>p.name.text.size<=800) ak a.kinds;omega
  ·split
   ·split
    ·exact sizes.2.2.1
    ·exact kyh t _ (getD_mem t.vars (qh (zx t) s).toNat ⟨zf,zf,zf,zf⟩ (λp=>p.type_.text.size<=800) ak (λv c=>(a.vars v c).1))
   ·exact sizes.2.2.1
theorem vv0 (op a b:ByteArray):(opT op a b).size<=900:=by
 unfold opT;exact kxi (kxi sizes.1 sizes.2.2.1) (kxi (kxi sizes.2.1 sizes.2.2.1) (kxi (kxi sizes.1 sizes.2.2.1) (kxi sizes.1 sizes.2.2.1)))
theorem qqa (t:PTree)(l:List PP)(c:TreeFit t)(d:∀p∈l,p.set_.text.size<=800)(x:PX):(kq2 t l x).size<=900:=by
 cases x with
 |nil=>exact sizes.2.2.1
 |node i j x a b=>
  rw[kwd];refine kxi sizes.1 (kxi sizes.2.2.2 (kxi sizes.2.1 (kxi ?_ (vv0 _ _ _))));unfold kvq;refine kxi (kxi sizes.2.2.1 (kxi sizes.2.2.1 (kxi sizes.2.2.1 ?_))) (jvw t l c d _);exact kyh t _ (getD_mem t.vars _ ⟨zf,zf,zf,zf⟩ (λp=>p.type_.text.size<=800) ak (λv e=>(c.vars v e).1))
theorem vqz (l:List UInt8):((l==[33])=true/\(l==[38])=false/\(l==[124])=false/\(l==[43])=false/\(l==[45])=false/\(l==[60])=false) \/
  ((l==[33])=false/\(l==[38])=true/\(l==[124])=false/\(l==[43])=false/\(l==[45])=false/\(l==[60])=false) \/
  ((l==[33])=false/\(l==[38])=false/\(l==[124])=true/\(l==[43])=false/\(l==[45])=false/\(l==[60])=false) \/
  ((l==[33])=false/\(l==[38])=false/\(l==[124])=false/\(l==[43])=true/\(l==[45])=false/\(l==[60])=false) \/
  ((l==[33])=false/\(l==[38])=false/\(l==[124])=false/\(l==[43])=false/\(l==[45])=true/\(l==[60])=false) \/
  ((l==[33])=false/\(l==[38])=false/\(l==[124])=false/\(l==[43])=false/\(l==[45])=false/\(l==[60])=true) \/
  ((l==[33])=false/\(l==[38])=false/\(l==[124])=false/\(l==[43])=false/\(l==[45])=false/\(l==[60])=false):=by
 by_cases a:l=[33]
 ·subst a;exact Or.inl ak
 by_cases h1:l=[38]
 ·subst h1;exact Or.inr (Or.inl ak)
 by_cases b:l=[124]
 ·subst b;exact Or.inr (Or.inr (Or.inl ak))
 by_cases c:l=[43]
 ·subst c;exact Or.inr (Or.inr (Or.inr (Or.inl ak)))
 by_cases d:l=[45]
 ·subst d;exact Or.inr (Or.inr (Or.inr (Or.inr (Or.inl ak))))
 by_cases e:l=[60]
 ·subst e;exact Or.inr (Or.inr (Or.inr (Or.inr (Or.inr (Or.inl ak)))))
 exact Or.inr (Or.inr (Or.inr (Or.inr (Or.inr (Or.inr (by simp[a,h1,b,c,d,e]))))))
theorem jyp (l:List UInt8):((l==oJ)=true/\(l==o7)=false/\(l==pW)=false/\(l==[])=false) \/
  ((l==oJ)=false/\(l==o7)=true/\(l==pW)=false/\(l==[])=false) \/
  ((l==oJ)=false/\(l==o7)=false/\(l==pW)=true/\(l==[])=false) \/
  ((l==oJ)=false/\(l==o7)=false/\(l==pW)=false/\(l==[])=true) \/
  ((l==oJ)=false/\(l==o7)=false/\(l==pW)=false/\(l==[])=false):=by
 by_cases a:l=oJ
 ·subst a;exact Or.inl ak
 by_cases h1:l=o7
 ·subst h1;exact Or.inr (Or.inl ak)
 by_cases b:l=pW
 ·subst b;exact Or.inr (Or.inr (Or.inl ak))
 by_cases c:l=[]
 ·subst c;exact Or.inr (Or.inr (Or.inr (Or.inl ak)))
 exact Or.inr (Or.inr (Or.inr (Or.inr (by simp[a,h1,b,c]))))
theorem zju (l:List UInt8):(l==[])=l.isEmpty:=by cases l<;>rfl
def opV (a b c d f g e m n t u sa nb sb:Bool):ByteArray:=
 if a||b||c then (if (e&&!m&&!n)&&t then kkf else kj5)
 else if d||f then (if (e&&!m&&!n)&&u then kvn else kj5)
 else if g then (if (e&&!m&&!n)&&u then kkf else kj5)
 else (if (e&&!m&&!n)||(n&&sb)||(nb&&sa) then kkf else kj5)
theorem zkr {op: ByteArray}{g h i j k l e m n t u sa nb sb:Bool}(h1:(op.toList==[33])=g)(p:(op.toList==[38])=h)(q:(op.toList==[124])=i)(s:(op.toList==[43])=j)(v:(op.toList==[45])=k)(w:(op.toList==[60])=l)
  (x:(a.toList==b.toList)=e) (y:a.toList.isEmpty=m) (hn:(a.toList==oJ)=n) (z:(a.toList==o7)=t) (A:(a.toList==pW)=u) (d:kzd a=sa) (c:(b.toList==oJ)=nb) (f:kzd b=sb):
  opT op a b=opV g h i j k l e m n t u sa nb sb:=by
 subst h1;subst p;subst q;subst s;subst v;subst w;subst x;subst y;subst hn;subst z;subst A;subst d;subst c;subst f;rfl
theorem vxp (i j:Nat)(x:ELab)(a b:PX)(ha:qq6 a)(hb:qq6 b)(o1:(x.op.toList==oG)=false)(o2:(x.op.toList==oP)=false)(o3:(x.op.toList==oJ)=false)(o4:(x.op.toList==oQ)=false)
  (o5:(x.op.toList==oK)=false):qq6 (.node i j x a b):=by
 intro w T lo lo' t n l va V U vg ba bn bc p _ S h ht Q I hp hl hN;obtain⟨k,pa,pb,rfl,_,R,a9,aA⟩:=hN;have O:=pG (show kq2 t l (.node i j x a b)=opT x.op (kq2 t l a) (if isNil b then kq2 t l a else kq2 t l b) by rw[kwd];simp[o1,o2,o3,o4,o5]);obtain⟨P,d1,d2,d3,d4,d5,d6,d7,d8,d9,_⟩:=qyb (show w.heap[k]?=some (.cells #[.string x.op,pa,pb,.string x.name.kind,.string x.name.text,.int .i64 x.name.at_,.string x.index.kind,.string x.index.text,.int .i64 x.index.at_,.int .i64 x.n] _ (0,0)) from R);have aC:=wu R;have aD:isNil a=false:=by
  rcases S.1 with h1|h1
  ·simp[qqg,o1,o2,o3,o4,o5]at h1
  ·exact h1
 have HT:=pG h;have HP:=pG hp;have Y:=pG a9;have Z:=pG aA;have X:=pG R;have a6:=pG S.2.1;have K:=pG S.2.2;clear h hp a9 aA R S;unfold qz3;go_enter func67,ntmps67
 go_wp2_with fail
 go_region_held3 (λw'=>w'.cell? ⟨w.heap.size,0,none⟩=some (.string n.kind)/\w'.cell? ⟨w.heap.size,1,none⟩=some (.string n.text)/\w'.cell? ⟨w.heap.size,2,none⟩=some (.int .i64 n.at_)/\w'.cell? ⟨w.heap.size,3,none⟩=some (.slice va V U)/\w'.cell? ⟨w.heap.size,4,none⟩=some (.pointer vg)/\w'.cell? ⟨w.heap.size,5,none⟩=some (.slice ba bn bc)/\w'.cell? ⟨k,1,none⟩=some pa)
  (first|go_keep|(go_split_ands;refine⟨?_,?_,?_,?_,?_,?_,?_⟩<;>(refine wZ G ?_;first|assumption|simp[*])))
  ((go_at_call 67;refine(ha _ T lo lo' t n l va V U vg ba bn bc pa aD (ku a6) ((ku HT).below (zk _ _)) ht Q I (qj (ku HP) (zk _ _)) hl ((ku Y).below (zk _ _))).mono ?_;rintro e w1 ⟨rfl,G⟩))
 have z:=(zk w _).trans (G.mono au);have L:=(G.block w.heap.size au).trans (heap_alloc_new w _);obtain⟨m0,m1,m2,m3,m4,m5,_⟩:=kzb L;have aE:=wu L;have M:=(z.block k aC).trans (ku X);clear P d1 d2 d3 d4 d5 d6 d7 d8 d9;obtain⟨P,d1,d2,d3,d4,d5,d6,d7,d8,d9,_⟩:=qyb (show w1.heap[k]?=some (.cells #[.string x.op,pa,pb,.string x.name.kind,.string x.name.text,.int .i64 x.name.at_,.string x.index.kind,.string x.index.text,.int .i64 x.index.at_,.int .i64 x.n] _ (0,0)) from M);have aF:=wu M;have F:=pG z;have a5:=pG ((ku HT).below z);have a0:=pG (qj (ku HP) z);have C:=pG ((ku Z).below z);have a7:=qqa t l Q I a;clear G z L M HT HP Z Y a6 X;cases b with
 |nil=>
  have N:pb=.pointer none:=ku C;subst N;have B:=pG (show kq2 t l (.node i j x a .nil)=opT x.op (kq2 t l a) (kq2 t l a) from ku O);clear O K C;generalize kq2 t l a=A at B a7 |-;have o6:(A.toList==A.toList)=true:=au;rcases vqz x.op.toList with⟨m,q,s,u,v,y⟩|⟨m,q,s,u,v,y⟩|⟨m,q,s,u,v,y⟩|⟨m,q,s,u,v,y⟩|⟨m,q,s,u,v,y⟩|⟨m,q,s,u,v,y⟩|⟨m,q,s,u,v,y⟩;all_goals
   rcases jyp A.toList with⟨d,f,g,c⟩|⟨d,f,g,c⟩|⟨d,f,g,c⟩|⟨d,f,g,c⟩|⟨d,f,g,c⟩;all_goals
    rw[zju]at c;cases E:kzd A;all_goals
     have D:=pG (show kq2 t l (.node i j x a .nil)=_ from(ku B).trans (zkr m q s u v y o6 c d f g E d E));go_wp2_with (first|(go_at_call 121;refine(kyi _ _ aj).mono ?_;rintro e w' ⟨rfl,rfl⟩))
     go_ret
     exact⟨kji (by rw[ku D];rfl),ku F⟩
 |node i' j' x' c' d'=>
  obtain⟨kb,aH,aI,N,_⟩:=ku C;subst N;have B:=pG (show kq2 t l (.node i j x a (.node i' j' x' c' d'))=opT x.op (kq2 t l a) (kq2 t l (.node i' j' x' c' d')) from ku O);clear O;generalize kq2 t l a=A at B a7 |-;go_wp2_with fail
  go_region_held3 (λw'=>w'.cell? ⟨w.heap.size,0,none⟩=some (.string n.kind)/\w'.cell? ⟨w.heap.size,1,none⟩=some (.string n.text)/\w'.cell? ⟨w.heap.size,2,none⟩=some (.int .i64 n.at_)/\w'.cell? ⟨w.heap.size,3,none⟩=some (.slice va V U)/\w'.cell? ⟨w.heap.size,4,none⟩=some (.pointer vg)/\w'.cell? ⟨w.heap.size,5,none⟩=some (.slice ba bn bc)/\w'.cell? ⟨k,2,none⟩=some (.pointer (some ⟨kb,0,none⟩)))
   (first|go_keep|(go_split_ands;refine⟨?_,?_,?_,?_,?_,?_,?_⟩<;>(refine wZ H ?_;first|assumption|simp[*])))
   ((go_at_call 67;refine(hb _ T lo lo' t n l va V U vg ba bn bc _ rfl (ku K) ((ku a5).below ((Below.refl _ _).drew)) ht Q I (qj (ku a0) ((Below.refl _ _).drew)) hl ((ku C).below ((Below.refl _ _).drew))).mono ?_;rintro e w2 ⟨rfl,H⟩))
  have z:=(ku F).trans (((Below.refl _ _).drew.trans H).mono (ku F).size);have aG:w2.cell? ⟨k,0,none⟩=some (.string x.op):=wZ ((Below.refl _ _).drew.trans H) P;have W:=pG z;have aB:=qqa t l Q I (.node i' j' x' c' d');clear H z a5 a0 C K F P d1 d2 d3 d4 d5 d6 d7 d8 d9 m0 m1 m2 m3 m4 m5;generalize kq2 t l (.node i' j' x' c' d')=J at B aB |-;rcases vqz x.op.toList with⟨m,q,s,u,v,y⟩|⟨m,q,s,u,v,y⟩|⟨m,q,s,u,v,y⟩|⟨m,q,s,u,v,y⟩|⟨m,q,s,u,v,y⟩|⟨m,q,s,u,v,y⟩|⟨m,q,s,u,v,y⟩;iterate 6
   ·rcases jyp A.toList with⟨d,f,g,c⟩|⟨d,f,g,c⟩|⟨d,f,g,c⟩|⟨d,f,g,c⟩|⟨d,f,g,c⟩;all_goals
     rw[zju]at c;cases e1:(A.toList==J.toList);all_goals
      have D:=pG ((ku B).trans (zkr m q s u v y e1 c d f g rfl rfl rfl));go_wp2_with fail
      go_ret
      exact⟨kji (by rw[ku D];rfl),ku W⟩
  ·rcases jyp A.toList with⟨d,f,g,c⟩|⟨d,f,g,c⟩|⟨d,f,g,c⟩|⟨d,f,g,c⟩|⟨d,f,g,c⟩;all_goals
    rw[zju]at c;cases e1:(A.toList==J.toList);all_goals
     cases e2:(J.toList==oJ);all_goals
      cases E:kzd A;all_goals
       cases a8:kzd J;all_goals
        have D:=pG ((ku B).trans (zkr m q s u v y e1 c d f g E e2 a8));go_wp2_with (first|(go_at_call_of 121 (Value.string J);refine(kyi J _ aj).mono ?_;rintro e w' ⟨rfl,rfl⟩;rw[a8])|(go_at_call_of 121 (Value.string A);refine(kyi A _ aj).mono ?_;rintro e w' ⟨rfl,rfl⟩;rw[E]))
        go_ret
        exact⟨kji (by rw[ku D];rfl),ku W⟩
theorem kyn:∀x:PX,qq6 x
 |.nil=>λw T lo lo' t n l va e d vg ba bn bc p h=>gY
 |.node i j x a b=>by
  cases c:(x.op.toList==oK)
  ·cases o1:(x.op.toList==oG)
   ·cases o2:(x.op.toList==oP)
    ·cases o3:(x.op.toList==oJ)
     ·cases o4:(x.op.toList==oQ)
      ·exact vxp i j x a b (kyn a) (kyn b) o1 o2 o3 o4 c
      ·exact qx0 i j x a b (Or.inr (Or.inr (Or.inr o4)))
     ·exact qx0 i j x a b (Or.inr (Or.inr (Or.inl o3)))
    ·exact qx0 i j x a b (Or.inr (Or.inl o2))
   ·exact qx0 i j x a b (Or.inl o1)
  ·exact jzc i j x a b c
end Go.Proofs.YtpmcnonmkghokaaGreatDoor

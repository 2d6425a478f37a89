import Derived.Test.YtpmcnonmkghokaaGreatDoorT29
import Derived.Test.YtpmcnonmkghokaaGreatDoorT11
set_option maxRecDepth 100000
set_option maxHeartbeats 8000000
set_option linter.unusedVariables false
set_option linter.unusedSimpArgs false
namespace Go.Proofs.YtpmcnonmkghokaaGreatDoor
open Go.Proofs.Tryz
open Go.RowKit
attribute [local go_sem ↓] Go.wp_at_zero Go.wp_at_succ
variable {x:ELab}{l:List PP}{t:PTree}{p:PX}{a b:VT}
theorem jy2 (q:Ent)(w:World):(Instr.field 294 (qxw q) 3).run prog w=.ok (.agg #[.string q.var.name.text,.int .i64 q.var.name.at_,.bool q.var.arr,.string q.var.over.text,.int .i64 q.var.over.at_,.int .i64 q.var.si.form,.int .i64 (kq8 q.var.si.top.text),.int .i64 q.var.si.top.at_,.string q.var.si.name.text,.int .i64 q.var.si.name.at_]) w:=ah
def kzh (tab:Tab)(l:List PP)(n i:Tok):VT:=
 if (!(i.kind.toList==[])) then (if (zl tab n.text.toList).var.arr then (if qkh tab l i (zl tab n.text.toList).var.over then kjv tab (zl tab n.text.toList).var.si else qvo) else qvo) else kjc tab l n
theorem zxf (w:World)(b lo:Nat)(tab:Tab)(l:List PP)(pa:Option Addr)(pn pc:Nat)(n i:Tok)(ht:kqi w b tab)(z:qwv tab)(M:w.ownsRow lo 352 4 (.slice pa pn pc) l.length (xu l))(U:l.length<=1000)(N:∀y∈kz7 n i,y.text.size<=1000):
  qJ 244 #[tyV b (.slice pa pn pc),pl5 n i] w λe w'=>e=.returned (vtV (kzh tab l n i))/\pU w w':=by
 obtain⟨ps,C⟩:∃ps,ps=Value.slice pa pn pc:=⟨_,rfl⟩;have D:n.text.size<=1000:=N n kV;have x:(!(i.kind.toList==[]))=true->i.text.size<=1000:=λe=>N i (by unfold kz7;rw[Qm]at e;rw[e];simp)
 have E:=pG (show kzh tab l n i=if (!(i.kind.toList==[])) then (if (zl tab n.text.toList).var.arr then (if qkh tab l i (zl tab n.text.toList).var.over then kjv tab (zl tab n.text.toList).var.si else qvo) else qvo) else kjc tab l n from rfl);have X:=z n.text.toList;generalize kzh tab l n i=fin at *;unfold pl5;generalize (!(i.kind.toList==[]))=d at *;rw[<-C]at M |-;obtain⟨W,g⟩:∃W,W=((w.alloc (.cells #[.map (some b),ps] 301)).alloc (.cells #[.string n.text,.int .i64 n.at_,.bool d,.string i.text,.int .i64 i.at_] 332)).alloc (.cells #[.int .i64 0,.string ⟨#[]⟩] 362):=⟨_,rfl⟩;have m:pU w W:=by rw[g];exact(kzw w _ _).trans ((below_alloc1 _ _).mono ay)
 have Z:W.heap.size=w.heap.size+3:=by rw[g];simp
 have J:W.heap[w.heap.size]?=some (.cells #[.map (some b),ps] 301 (0,0)):=by rw[g];exact zy (zy (qg _ _))
 have K:W.heap[w.heap.size+1]?=some (.cells #[.string n.text,.int .i64 n.at_,.bool d,.string i.text,.int .i64 i.at_] 332 (0,0)):=by
  rw[g];have:=qg (w.alloc (.cells #[.map (some b),ps] 301)) (.cells #[.string n.text,.int .i64 n.at_,.bool d,.string i.text,.int .i64 i.at_] 332);simp only[tJ]at this;exact zy this
 have I:W.heap[w.heap.size+2]?=some (.cells #[.int .i64 0,.string ⟨#[]⟩] 362 (0,0)):=by
  rw[g];have:=qg ((w.alloc (.cells #[.map (some b),ps] 301)).alloc (.cells #[.string n.text,.int .i64 n.at_,.bool d,.string i.text,.int .i64 i.at_] 332)) (.cells #[.int .i64 0,.string ⟨#[]⟩] 362);simp only[tJ]at this;exact this
 have hM:kqi W b tab:=ht.kept m;have t:=qj M m;have V:=kv1 hM D;have L:=jy2 (zl tab n.text.toList);subst C;have p:=pG (zk0 W b lo tab l pa pn pc n hM z t U D);obtain⟨t0,t1,_⟩:=kj0 J;obtain⟨x0,x1,x2,x3,x4,_⟩:=jl K;obtain⟨r0,r1,r2,r3⟩:=kj0 I;have HT:=pG J;have HX:=pG K;have H:=pG I;have G:=pG m;have Q:=pG hM;have HO:=pG t;have S:=pG g.symm;have a0:w.heap.size<W.heap.size:=aj;have a1:w.heap.size+1<W.heap.size:=aj;have a2:w.heap.size+2<W.heap.size:=aj;clear I m g hM ht J K M t N Z;unfold tyV ptV vtV at *;go_enter func244,ntmps244
 go_upto_region 1 with fail
 rw[ku S,show w.heap.size+1+1=w.heap.size+2 from rfl];cases d
 case false=>
  clear x V L;go_wp2_with fail
  refine(ku p).mono ?_;rintro e w1 ⟨rfl,a⟩;have f:=(a.block (w.heap.size+2) aj).trans (ku H);obtain⟨s0,s1,s2,s3⟩:=kj0 f;have k:=pG f;have h:=pG ((ku G).trans (a.mono aj));clear a f p;go_wp2
  refine rY (rP results244 _ _ (w.heap.size+2) _ _ _ _ rfl (set2 (ku k) _ _) underlying362 rfl ah) rfl ?_;exact⟨iJ,((ku h).setCell (show w.heap.size<=w.heap.size+2 by omega) _).setCell (show w.heap.size<=w.heap.size+2 by omega) _⟩
 case true=>
 have O:=x rfl;have j:=pG (jkh (W.alloc (.cells #[.string (zl tab n.text.toList).var.name.text,.int .i64 (zl tab n.text.toList).var.name.at_,.bool (zl tab n.text.toList).var.arr,.string (zl tab n.text.toList).var.over.text,.int .i64 (zl tab n.text.toList).var.over.at_,.int .i64 (zl tab n.text.toList).var.si.form,.int .i64 (kq8 (zl tab n.text.toList).var.si.top.text),.int .i64 (zl tab n.text.toList).var.si.top.at_,.string (zl tab n.text.toList).var.si.name.text,.int .i64 (zl tab n.text.toList).var.si.name.at_] 121)) b lo tab l pa pn pc i (zl tab n.text.toList).var.over ((ku Q).kept (below_alloc1 _ _)) z ((ku HO).alloc _) U O);unfold tyV ptV at j;generalize zl tab n.text.toList=q at *;clear x p;cases T:q.var.arr
 ·rw[T]at E L;go_wp2
  refine rY (rP results244 _ _ (w.heap.size+2) _ _ _ _ rfl (zy (set2 (ku H) _ _)) underlying362 rfl ah) rfl ?_;exact⟨iJ,((((ku G).setCell (show w.heap.size<=w.heap.size+2 by omega) _).setCell (show w.heap.size<=w.heap.size+2 by omega) _).alloc iQ _)⟩
 ·rw[T]at E L j;go_wp2_with fail
  refine(ku j).mono ?_;rintro e w1 ⟨rfl,a⟩;generalize qkh tab l i q.var.over=c at *;have Y:=a.size;simp at Y;have F:=(a.block W.heap.size au).trans (qg _ _);have B:=(a.block w.heap.size ay).trans (zy (ku HT));have f:=(a.block (w.heap.size+2) ay).trans (zy (ku H));have A:=((ku Q).kept (below_alloc1 _ _)).kept a;obtain⟨⟨_,_,_,_,_,g5,g6,g7,g8,g9⟩,_⟩:=kjj F;obtain⟨t0,t1,_⟩:=kj0 B;obtain⟨s0,s1,s2,s3⟩:=kj0 f;have k:=pG f;have h:=pG (((ku G).alloc aj _).trans (a.mono ay));have s:=pG (zjo w1 b tab (.slice pa pn pc) q.var.si A X rfl);unfold tyV siV vtV at s;clear a F B f A j;cases c
  ·go_wp2
   refine rY (rP results244 _ _ (w.heap.size+2) _ _ _ _ rfl (set2 (ku k) _ _) underlying362 rfl ah) rfl ?_;exact⟨iJ,((ku h).setCell (show w.heap.size<=w.heap.size+2 by omega) _).setCell (show w.heap.size<=w.heap.size+2 by omega) _⟩
  ·go_wp2_with fail
   refine(ku s).mono ?_;rintro e w3 ⟨rfl,v⟩;have u:=(v.block (w.heap.size+2) aj).trans (ku k);obtain⟨u0,u1,u2,u3⟩:=kj0 u;have R:=pG u;have P:=pG ((ku h).trans (v.mono aj));clear v u s;go_wp2
   refine rY (rP results244 _ _ (w.heap.size+2) _ _ _ _ rfl (set2 (ku R) _ _) underlying362 rfl ah) rfl ?_;exact⟨iJ,((ku P).setCell (show w.heap.size<=w.heap.size+2 by omega) _).setCell (show w.heap.size<=w.heap.size+2 by omega) _⟩
end Go.Proofs.YtpmcnonmkghokaaGreatDoor
namespace Go.Proofs.YtpmcnonmkghokaaGreatDoor
open Go.Proofs.Tryz
open Go.RowKit
variable {x:ELab}{l:List PP}{t:PTree}{p:PX}{a b:VT}
structure NamesFine (t:PTree):Prop where
 uniq:∀i j,j<i->∀hi:i<(jc t).length,∀hj:j<(jc t).length,((jc t)[j]).text.toList≠((jc t)[i]).text.toList
 pars:∀r∈t.rules++t.nevers,∀p∈r.params,∀x∈jc t,x.text.toList≠p.name.text.toList
 psets:∀r∈t.rules++t.nevers,∀p∈r.params,¬qh (dh t) p.set_.text.toList<0
 over:∀v∈t.vars,(v.over.kind.toList==og)=true->¬qh (dh t) v.over.text.toList<0
 type_:∀v∈t.vars,(v.type_.kind.toList==og)=true->qh (dh t) v.type_.text.toList<0->¬qh (pq t) v.type_.text.toList<0
theorem zkf (h:jd (kwi t) (qjs t)<0):NamesFine t:=by
 rw[zvv,zwo,zzu]at h;have e:=zks h;have no:∀y,y∉(jy (dG (jc t)) (jc t) 0++jy (dR (jc t)) (t.rules++t.nevers) 0)++(jy (uV t) t.vars 0++jy (uR t) (t.rules++t.nevers) 0):=λy=>by rw[e];simp
 refine⟨?_,?_,?_,?_,?_⟩
 ·intro i j m hi s e;exact no _ (wG _ (wG _ (jju.mpr ⟨i,hi,rfl,j,m,e⟩)))
 ·intro r f p d x q e;obtain⟨i,hi,rfl⟩:=tC f;obtain⟨k,b,rfl⟩:=tC d;refine no (t.rules++t.nevers)[i].params[k].name (wG _ (rZ _ ((zi _ _).mpr ⟨i,hi,?_⟩)));unfold dR;refine(zi _ _).mpr ⟨k,b,?_⟩;unfold dP;refine wG _ ((qzw (g:=λy:Tok=>kqk (y.text.toList==_) _) _).mpr ⟨x,q,?_⟩);rw[zo,rQ];exact⟨e,rfl⟩
 ·intro r f p d a;obtain⟨i,hi,rfl⟩:=tC f;obtain⟨k,b,rfl⟩:=tC d;refine no (t.rules++t.nevers)[i].params[k].set_ (rZ _ (rZ _ ((zi _ _).mpr ⟨i,hi,?_⟩)));unfold uR;refine wG _ ((zi _ _).mpr ⟨k,b,?_⟩);unfold uP;rw[zo,sQ];exact⟨a,rfl⟩
 ·intro v l b a;obtain⟨i,hi,rfl⟩:=tC l;refine no t.vars[i].over (rZ _ (wG _ ((zi _ _).mpr ⟨i,hi,?_⟩)));unfold uV;rw[ru,zo,wW,sQ];exact Or.inl ⟨⟨b,a⟩,rfl⟩
 ·intro v l b a c;obtain⟨i,hi,rfl⟩:=tC l;refine no t.vars[i].type_ (rZ _ (wG _ ((zi _ _).mpr ⟨i,hi,?_⟩)));unfold uV;refine rZ _ (zo.mpr ⟨?_,rfl⟩);rw[wW,wW,sQ,sQ];exact⟨⟨b,a⟩,c⟩
theorem zxq (h:NamesFine t){x:Tok×Ent}(d:x∈kjg (zh t)):zl (qp (zh t)) x.1.text.toList={x.2 with place:=x.1.at_}:=by
 rw[kjf];obtain⟨i,hi,rfl⟩:=tC d;rcases kjo (kjg (zh t)) (kjg (zh t))[i].1.text.toList with⟨_,hn⟩|⟨j,a,h1,c,e⟩
 ·exact(hn _ (wX hi) rfl).elim
 ·have f:j<=i:=by
   apply tK;intro g;exact c i aj rfl
  by_cases b:j=i
  ·subst b;exact e
  ·have:=h.uniq i j aj nK (by rw[<-qq0];exact a);rw[<-kva t a,<-kva t hi]at this;exact(this h1).elim
theorem zv2 (h:NamesFine t)(s:List UInt8):((zl (qp (zh t)) s).role=3↔0<=(kqa t.kinds s).1)/\(0<=(kqa t.kinds s).1->(zl (qp (zh t)) s).kind=(t.kinds.getD (kqa t.kinds s).1.toNat ⟨zf,[]⟩).name.text):=by
 have a:0<=(kqa t.kinds s).1->(zl (qp (zh t)) s).role=3/\(zl (qp (zh t)) s).kind=(t.kinds.getD (kqa t.kinds s).1.toNat ⟨zf,[]⟩).name.text:=by
  intro b;obtain⟨hi,y,p,i⟩:=qyo b;have:=zxq h (jk2 (wX hi) p);simp only[i]at this;rw[this,getD_at _ _ _ hi];exact⟨rfl,rfl⟩
 refine⟨⟨?_,λb=>(a b).1⟩,λb=>(a b).2⟩;intro c;rw[kjf]at c;rcases kjo (kjg (zh t)) s with⟨e,_⟩|⟨j,l,f,q,e⟩
 ·rw[e]at c;cases c
 ·rw[e]at c;simp only at c;rcases kvz _ _ (wX l) with g|g|g|g|g|g
  ·have:=g.1;omega
  ·have:=g.1;omega
  ·obtain⟨_,k,m,d,_⟩:=g;have:=(zka t.kinds s);apply tK;intro u;exact this.mp aj k m _ d f
  ·have:=g.1;omega
  ·have:=g.1;omega
  ·have:=g.1;omega
theorem qku (h:NamesFine t)(s:List UInt8):((zl (qp (zh t)) s).role=4↔0<=qh (zx t) s)/\(0<=qh (zx t) s->∃hi:(qh (zx t) s).toNat<t.vars.length,(zl (qp (zh t)) s).var=yu t.vars[(qh (zx t) s).toNat]):=by
 have a:0<=qh (zx t) s->(zl (qp (zh t)) s).role=4/\∃hi:(qh (zx t) s).toNat<t.vars.length,(zl (qp (zh t)) s).var=yu t.vars[(qh (zx t) s).toNat]:=by
  intro b;obtain⟨hi,q⟩:=kvd b;have d:(qh (zx t) s).toNat<t.vars.length:=by simpa[zx] using hi
  have i:(t.vars[(qh (zx t) s).toNat]).name.text.toList=s:=by
   have:(zx t)[(qh (zx t) s).toNat]=(t.vars[(qh (zx t) s).toNat]).name.text:=by simp[zx]
   rw[<-this];exact q
  have:=zxq h (jzp (wX d));simp only[i]at this;rw[this];exact⟨rfl,d,rfl⟩
 refine⟨⟨?_,λb=>(a b).1⟩,λb=>(a b).2⟩;intro c;rw[kjf]at c;rcases kjo (kjg (zh t)) s with⟨e,_⟩|⟨j,u,p,y,e⟩
 ·rw[e]at c;cases c
 ·rw[e]at c;simp only at c;rcases kvz _ _ (wX u) with g|g|g|g|g|g
  ·have:=g.1;omega
  ·have:=g.1;omega
  ·have:=g.1;omega
  ·obtain⟨_,v,w,m,_⟩:=g;have l:v∈t.vars.map yu:=w;obtain⟨x,k,rfl⟩:=Qj.mp l;apply tK;intro z;exact(kkm (zx t) s).mp aj x.name.text (sV (f:=λs:PVar=>s.name.text) k) (by rw[<-p,m];rfl)
  ·have:=g.1;omega
  ·have:=g.1;omega
theorem zv1 (t:PTree)(s:List UInt8)(h:¬(zl (qp (zh t)) s).role=4):(zl (qp (zh t)) s).var.arr=false:=by
 have all:∀x∈kjg (zh t),¬x.2.role=4->x.2.var.arr=false:=by
  intro x a d;unfold kjg at a;simp only[ru,su]at a;rcases a with⟨q,b,a⟩|⟨q,b,a⟩|⟨q,b,a⟩|⟨q,b,a⟩|⟨q,b,a⟩
  ·unfold jy4 at a;rw[sK]at a;subst a;rfl
  ·unfold jv3 at a;rw[sW,Qj]at a;rcases a with rfl|⟨y,i,rfl⟩<;>rfl
  ·unfold jv0 at a;rw[sK]at a;subst a;exact(d rfl).elim
  ·unfold jv1 at a;rw[sK]at a;subst a;rfl
  ·unfold jv2 at a;rw[sK]at a;subst a;rfl
 rw[kjf]at h |-;rcases kjo (kjg (zh t)) s with⟨e,_⟩|⟨j,c,f,g,e⟩
 ·rw[e];rfl
 ·rw[e]at h |-;exact all _ (wX c) h
theorem jq5 (h:NamesFine t)(s:List UInt8)(d:¬qh (pq t) s<0):(zl (qp (zh t)) s).role=2:=by
 obtain⟨hi,c⟩:=kvd (show 0<=qh (pq t) s by omega);have b:(qh (pq t) s).toNat<t.kinds.length:=by simpa[pq] using hi
 have a:(t.kinds[(qh (pq t) s).toNat]).name.text.toList=s:=by
  have:(pq t)[(qh (pq t) s).toNat]=(t.kinds[(qh (pq t) s).toNat]).name.text:=by simp[pq]
  rw[<-this];exact c
 have:=zxq h (zj9 (wX b));simp only[a]at this;rw[this]
def kxu (v:VT):ByteArray:=if v.fam==1 then kkf else if v.fam==2 then kvn else if v.fam==3 then qqq++v.name else if v.fam==4 then ky9++v.name else if v.fam==5 then jx8 else kj5
def qw0 (v:VT):Prop:=((v.fam=0\/v.fam=1\/v.fam=2\/v.fam=5)/\v.name=⟨#[]⟩)\/((v.fam=3\/v.fam=4)/\0<v.name.size)
theorem zvl (a b:ByteArray):(a++b).toList=a.toList++b.toList:=by
 rw[bf,bf,bf,J3,Zq]
theorem pjn:kkf.toList=o7:=jv _
theorem vyb:kvn.toList=pW:=jv _
theorem pzo:jx8.toList=oJ:=jv _
theorem pjl:kj5.toList=[]:=jv _
theorem pza (n:ByteArray):(qqq++n).toList=[107,105,110,100,32]++n.toList:=by rw[zvl];rw[show qqq.toList=[107,105,110,100,32] from jv _]
theorem pxq (n:ByteArray):(ky9++n).toList=[115,101,116,32]++n.toList:=by rw[zvl];rw[show ky9.toList=[115,101,116,32] from jv _]
def vtL (v:VT):List UInt8:=if v.fam==1 then o7 else if v.fam==2 then pW else if v.fam==3 then [107,105,110,100,32]++v.name.toList else if v.fam==4 then [115,101,116,32]++v.name.toList else if v.fam==5 then oJ else []
theorem kzr (v:VT):(kxu v).toList=vtL v:=by
 unfold kxu vtL;split
 ·exact pjn
 ·split
  ·exact vyb
  ·split
   ·exact pza _
   ·split
    ·exact pxq _
    ·split
     ·exact pzo
     ·exact pjl
theorem vxk (d:qw0 a)(hb:qw0 b):(vtL a==vtL b)=(a.fam==b.fam&&a.name.toList==b.name.toList):=by
 obtain⟨e,h⟩:=a;obtain⟨f,nb⟩:=b;have c:(ByteArray.mk #[]).toList=[]:=jv _;rcases d with⟨rfl|rfl|rfl|rfl,rfl⟩|⟨rfl|rfl,h1⟩<;>rcases hb with⟨rfl|rfl|rfl|rfl,rfl⟩|⟨rfl|rfl,g⟩<;>simp[vtL,c]
theorem qvu {v:VT}(h:qw0 v):kzd (kxu v)=(v.fam==4):=by
 obtain⟨f,n⟩:=v;have a:∀s:ByteArray,(s.extract 0 4).toList=s.toList.take 4:=λs=>by rw[bf,bf,ByteArray.data_extract,Array.toList_extract];simp
 unfold kzd;rw[a,kzr];have sz:(kxu ⟨f,n⟩).size=(vtL ⟨f,n⟩).length:=by rw[<-kzr,bf];simp
 rw[sz];rcases h with⟨rfl|rfl|rfl|rfl,rfl⟩|⟨rfl|rfl,h1⟩
 ·rfl
 ·rfl
 ·rfl
 ·rfl
 ·simp[vtL]
 ·have:n.toList.length=n.size:=by rw[bf];simp
  simp only at h1;simp[vtL,this];omega
theorem qvc (c:qw0 a)(hb:qw0 b):qwx (kxu a) (kxu b)=kkn a b:=by
 unfold qwx kkn;rw[kzr,kzr,vxk c hb];congr 1
 ·congr 1
  obtain⟨d,e⟩:=a;rcases c with⟨rfl|rfl|rfl|rfl,rfl⟩|⟨rfl|rfl,h1⟩<;>simp[vtL]
 ·obtain⟨d,e⟩:=a;rcases c with⟨rfl|rfl|rfl|rfl,rfl⟩|⟨rfl|rfl,h1⟩<;>simp[vtL]
theorem qv1 (b:qw0 a):((kxu a).toList==o7)=(a.fam==1):=by
 rw[kzr];obtain⟨c,d⟩:=a;rcases b with⟨rfl|rfl|rfl|rfl,rfl⟩|⟨rfl|rfl,h1⟩<;>simp[vtL]
theorem jvm (b:qw0 a):((kxu a).toList==pW)=(a.fam==2):=by
 rw[kzr];obtain⟨c,d⟩:=a;rcases b with⟨rfl|rfl|rfl|rfl,rfl⟩|⟨rfl|rfl,h1⟩<;>simp[vtL]
theorem zxt (b:qw0 a):((kxu a).toList==oJ)=(a.fam==5):=by
 rw[kzr];obtain⟨c,d⟩:=a;rcases b with⟨rfl|rfl|rfl|rfl,rfl⟩|⟨rfl|rfl,h1⟩<;>simp[vtL]
theorem vjq (b:qw0 a):(kxu a).toList.isEmpty=(a.fam==0):=by
 rw[kzr];obtain⟨c,d⟩:=a;rcases b with⟨rfl|rfl|rfl|rfl,rfl⟩|⟨rfl|rfl,h1⟩<;>simp[vtL]
theorem zxg (f:Int)(a:f=1\/f=2)(c:Bool):qw0 (kqm f c):=by
 unfold kqm;cases c
 ·exact Or.inl ⟨Or.inl rfl,rfl⟩
 ·rcases a with rfl|rfl
  ·exact Or.inl ⟨Or.inr (Or.inl rfl),rfl⟩
  ·exact Or.inl ⟨Or.inr (Or.inr (Or.inl rfl)),rfl⟩
theorem zxr (c:Bool):kxu (kqm 1 c)=if c then kkf else kj5:=by cases c<;>rfl
theorem jvh (c:Bool):kxu (kqm 2 c)=if c then kvn else kj5:=by cases c<;>rfl
structure TreeTxt (t:PTree):Prop where
 kinds:∀k∈t.kinds,0<k.name.text.size
 vars:∀v∈t.vars,qwk v/\((v.type_.kind.toList==og)=true->0<v.type_.text.size)/\((v.over.kind.toList==og)=true->0<v.over.text.size)
theorem zk1 (h:NamesFine t)(s:TreeTxt t){v:PVar}(l:v∈t.vars):kqf t v=kxu (kjv (qp (zh t)) (yu v).si)/\qw0 (kjv (qp (zh t)) (yu v).si):=by
 obtain⟨⟨_,q⟩,k,_⟩:=s.vars v l;rcases q with h1|h1|h1
 ·obtain⟨a,b,c⟩:=h1;unfold kqf yu kjv;simp only;rw[a,b];exact⟨rfl,Or.inl ⟨Or.inr (Or.inl rfl),rfl⟩⟩
 ·obtain⟨a,b,c,d⟩:=h1;unfold kqf yu kjv;simp only;rw[a,b];exact⟨rfl,Or.inl ⟨Or.inr (Or.inr (Or.inl rfl)),rfl⟩⟩
 ·obtain⟨a,c⟩:=h1;have j:(v.type_.kind.toList==og)=true:=by rw[a];rfl
  have g:=k j;have e:(yu v).si=⟨2,zf,v.type_⟩:=by unfold yu;simp only;rw[a];rfl
  rw[e];have m:kqf t v=if 0<=qh (pq t) v.type_.text.toList then qqq++v.type_.text else ky9++v.type_.text:=by unfold kqf;rw[a];rfl
  have p:kjv (qp (zh t)) ⟨2,zf,v.type_⟩=if (zl (qp (zh t)) v.type_.text.toList).role==1 then ⟨4,v.type_.text⟩ else ⟨3,v.type_.text⟩:=rfl
  rw[m,p];by_cases f:qh (pq t) v.type_.text.toList<0
  ·have i:¬qh (dh t) v.type_.text.toList<0:=λi=>h.type_ v l j i f
   rw[if_neg aj,(qz4 t _).mpr i];exact⟨rfl,Or.inr ⟨Or.inr rfl,g⟩⟩
  ·rw[if_pos aj,jq5 h _ f];exact⟨rfl,Or.inr ⟨Or.inl rfl,g⟩⟩
theorem vql:∀(l:List PP) (s:List UInt8),0<=qh (je l) s->l.getD (qh (je l) s).toNat ⟨zf,zf⟩=fpP l s
 |[],s,h=>by simp[je,qh]at h
 |p::l,s,h=>by
  have e:qh (je (p::l)) s=if p.name.text.toList==s then 0 else if qh (je l) s<0 then -1 else qh (je l) s+1:=rfl
  rw[e]at h |-;rw[fpP];by_cases a:(p.name.text.toList==s)=true
  ·rw[if_pos a,if_pos a];rfl
  ·rw[if_neg a]at h |-;rw[if_neg a];by_cases b:qh (je l) s<0
   ·rw[if_pos b]at h;omega
   ·rw[if_neg b];have c:(qh (je l) s+1).toNat=(qh (je l) s).toNat+1:=aj;rw[c,List.getD_cons_succ];exact vql l s aj
theorem vqs:∀(l:List PP) (s:List UInt8),fpB l s=true->fpP l s∈l
 |[],s,h=>gY
 |p::l,s,h=>by
  rw[fpP];by_cases a:(p.name.text.toList==s)=true
  ·rw[if_pos a];exact rV ..
  ·rw[if_neg a];refine rG _ (vqs l s ?_);unfold fpB at h |-;rw[QB]at h;simpa[a] using h
theorem zvs (h:NamesFine t)(i:TreeTxt t)  (q:∀p∈l,0<p.set_.text.size)(n:Tok):kzi t l n.text.toList=kxu (kjc (qp (zh t)) l n)/\qw0 (kjc (qp (zh t)) l n):=by
 have a:kzi t l n.text.toList=if 0<=qh (je l) n.text.toList then ky9++(l.getD (qh (je l) n.text.toList).toNat ⟨zf,zf⟩).set_.text
  else if 0<=(kqa t.kinds n.text.toList).1 then qqq++(t.kinds.getD (kqa t.kinds n.text.toList).1.toNat ⟨zf,[]⟩).name.text
  else if 0<=qh (zx t) n.text.toList then
   (if (t.vars.getD (qh (zx t) n.text.toList).toNat ⟨zf,zf,zf,zf⟩).over.kind.toList==og then kj5 else kqf t (t.vars.getD (qh (zx t) n.text.toList).toNat ⟨zf,zf,zf,zf⟩))
  else kj5:=rfl
 have es:kjc (qp (zh t)) l n=if fpB l n.text.toList then ⟨4,(fpP l n.text.toList).set_.text⟩
  else if (zl (qp (zh t)) n.text.toList).role==3 then ⟨3,(zl (qp (zh t)) n.text.toList).kind⟩
  else if (zl (qp (zh t)) n.text.toList).role==4&&!(zl (qp (zh t)) n.text.toList).var.arr then kjv (qp (zh t)) (zl (qp (zh t)) n.text.toList).var.si else qvo:=rfl
 by_cases c:fpB l n.text.toList=true
 ·have f:0<=qh (je l) n.text.toList:=by
   apply tK;intro v;have:=(qyr l n.text.toList).mp aj;rw[c]at this;cases this
  rw[if_pos f,vql l _ f]at a;rw[if_pos c]at es;rw[a,es];exact⟨rfl,Or.inr ⟨Or.inr rfl,q _ (vqs l _ c)⟩⟩
 ·have f:¬0<=qh (je l) n.text.toList:=by
   have:=(qyr l n.text.toList).mpr lJ;omega
  rw[if_neg f]at a;rw[if_neg c]at es;obtain⟨k,s⟩:=zv2 h n.text.toList;by_cases b:0<=(kqa t.kinds n.text.toList).1
  ·rw[if_pos b]at a;rw[if_pos (by rw[rQ];exact k.mpr b),s b]at es;rw[a,es];obtain⟨hi,_⟩:=qyo b;refine⟨rfl,Or.inr ⟨Or.inl rfl,?_⟩⟩;simp only;rw[getD_at _ _ _ hi];exact i.kinds _ (wX hi)
  ·rw[if_neg b]at a;rw[if_neg (by rw[rQ];exact λe=>b (k.mp e))]at es;obtain⟨m,u⟩:=qku h n.text.toList;by_cases d:0<=qh (zx t) n.text.toList
   ·obtain⟨hi,e⟩:=u d;have j:=(i.vars _ (wX hi)).1;rw[if_pos d,getD_at _ _ _ hi]at a;rw[m.mpr d,e,jql j]at es;cases g:(t.vars[(qh (zx t) n.text.toList).toNat].over.kind.toList==og)
    ·rw[g,if_neg au]at a;rw[g,if_pos (by rfl)]at es;rw[a,es];exact zk1 h i (wX hi)
    ·rw[g,if_pos rfl]at a;rw[g,if_neg ak]at es;rw[a,es];exact⟨rfl,Or.inl ⟨Or.inl rfl,rfl⟩⟩
   ·rw[if_neg d]at a;rw[if_neg (by rw[wW,rQ];exact λe=>d (m.mp e.1))]at es;rw[a,es];exact⟨rfl,Or.inl ⟨Or.inl rfl,rfl⟩⟩
theorem jwq (h:NamesFine t)(b:TreeTxt t)  (d:∀p∈l,0<p.set_.text.size)  (hi:x.index=zf\/(x.index.kind.toList==og)=true):
  kvq t l x=kxu (kzh (qp (zh t)) l x.name x.index)/\qw0 (kzh (qp (zh t)) l x.name x.index):=by
 unfold kvq kzh;rcases hi with hi|hi
 ·rw[hi,kqw,if_neg ak,if_neg ak];exact zvs h b d x.name
 ·have f:(!(x.index.kind.toList==[]))=true:=by rw[rQ]at hi;rw[hi];rfl
  rw[if_pos hi,if_pos f];obtain⟨v,w⟩:=qku h x.name.text.toList;by_cases j:qh (zx t) x.name.text.toList<0
  ·rw[if_pos j,if_neg]
   ·exact⟨rfl,Or.inl ⟨Or.inl rfl,rfl⟩⟩
   ·rw[zv1 t _ (λe=>by have:=v.mp e;omega)];simp
  ·rw[if_neg j];obtain⟨c,e⟩:=w aj;obtain⟨g,y,i⟩:=b.vars _ (wX c);rw[e,getD_at _ _ _ c,jql g];cases s:(t.vars[(qh (zx t) x.name.text.toList).toNat].over.kind.toList==og)
   ·exact⟨rfl,Or.inl ⟨Or.inl rfl,rfl⟩⟩
   ·rw[if_neg au,if_pos rfl];obtain⟨k,m⟩:=zvs h b d x.index;have a:(yu t.vars[(qh (zx t) x.name.text.toList).toNat]).over=t.vars[(qh (zx t) x.name.text.toList).toNat].over:=rfl;have u:((kzi t l x.index.text.toList).toList==(ky9++t.vars[(qh (zx t) x.name.text.toList).toNat].over.text).toList)=qkh (qp (zh t)) l x.index t.vars[(qh (zx t) x.name.text.toList).toNat].over:=by
     rw[k];have q:ky9++t.vars[(qh (zx t) x.name.text.toList).toNat].over.text=kxu ⟨4,t.vars[(qh (zx t) x.name.text.toList).toNat].over.text⟩:=rfl;rw[q,kzr,kzr,vxk m (Or.inr ⟨Or.inr rfl,i s⟩)];rfl
    rw[u,a];cases qkh (qp (zh t)) l x.index t.vars[(qh (zx t) x.name.text.toList).toNat].over
    ·exact⟨rfl,Or.inl ⟨Or.inl rfl,rfl⟩⟩
    ·exact zk1 h b (wX c)
def kym:PX->Prop
 |.nil=>True
 |.node _ _ x a c=>((5<=opN x.op.toList->isNil a=false)/\(6<=opN x.op.toList->isNil c=false))/\kym a/\kym c
def uz (tab:Tab)(l:List PP):PX->VT
 |.nil=>qvo
 |.node _ _ x a c=>
  if (opN x.op.toList==0||opN x.op.toList==1) then ⟨1,⟨#[]⟩⟩ else if opN x.op.toList==3 then ⟨2,⟨#[]⟩⟩ else if opN x.op.toList==2 then ⟨5,⟨#[]⟩⟩
  else if opN x.op.toList==4 then kzh tab l x.name x.index else if opN x.op.toList==5 then kqm 1 ((uz tab l a).fam==1) else qwa (opN x.op.toList) (uz tab l a) (uz tab l c)
def zwx (tab:Tab)(l:List PP)(p v:PX):Bool:=((zl tab (kkp p).toList).role==4)&&(kkn (uz tab l p) (uz tab l v)||((uz tab l p).fam==4&&(uz tab l v).fam==5))
def kxr (tab:Tab)(l:List PP):PB->Bool
 |.nil=>true
 |.node _ _ a .nil n=>zwx tab l a.place a.value&&kxr tab l n
 |.node _ _ a (.node _ _ _ t e) n=>(((uz tab l a.cond).fam==1&&kxr tab l t)&&kxr tab l e)&&kxr tab l n
def qqo:PB->Prop
 |.nil=>True
 |.node _ _ a .nil n=>(kym a.value/\isNil a.value=false/\∃x,a.place=.node 0 0 x .nil .nil/\x.op.toList=oK)/\qqo n
 |.node _ _ a (.node _ _ _ t e) n=>(kym a.cond/\isNil a.cond=false)/\qqo t/\qqo e/\qqo n
def qw4 (tab:Tab)(r:PRule):Bool:=(uz tab r.params r.guard).fam==1&&kxr tab r.params r.body
def jwp (tab:Tab)(r:PRule):Bool:=(uz tab r.params r.guard).fam==1
def kyg (tab:Tab)(m:MdL):Bool:=m.rules.all (qw4 tab)&&m.nevers.all (jwp tab)
theorem kyr {o:List UInt8}(h:o∈qwe):o=[124]\/o=[38]\/o=[61,61]\/o=[33,61]\/o=[60]\/o=[43]\/o=[45]:=by
 unfold qwe at h;simpa using h
theorem kza.full:∀{x:PX},kza x->kym x
 |.nil,h=>trivial
 |.node _ _ x a c,h=>by
  rcases h with⟨h1,rfl,rfl⟩|⟨h1,d,rfl⟩|⟨h1,d,e⟩
  ·refine⟨⟨λb=>?_,λb=>?_⟩,trivial,trivial⟩<;>(exfalso;rcases h1 with(h1|h1|h1)|⟨h1,_⟩|⟨h1,_⟩<;>rw[h1]at b<;>revert b<;>decide)
  ·refine⟨⟨λ_=>d.some,λb=>?_⟩,d.full,trivial⟩;exfalso;rw[h1]at b;revert b;decide
  ·exact⟨⟨λ_=>d.some,λ_=>e.some⟩,d.full,e.full⟩
theorem kv6 {t:PTree}(h:NamesFine t)(z:TreeTxt t){l:List PP}(y:∀p∈l,0<p.set_.text.size):∀{x:PX},kza x->kq2 t l x=kxu (uz (qp (zh t)) l x)/\qw0 (uz (qp (zh t)) l x)
 |.nil,hw=>hw.elim
 |.node i j x a c,hw=>by
  rcases hw with⟨h1,rfl,rfl⟩|⟨h1,F,rfl⟩|⟨h1,F,G⟩
  ·rw[kwd,uz];rcases h1 with(h1|h1|h1)|⟨h1,_⟩|⟨h1,Q,N⟩
   ·rw[h1];exact⟨rfl,Or.inl ⟨Or.inr (Or.inl rfl),rfl⟩⟩
   ·rw[h1];exact⟨rfl,Or.inl ⟨Or.inr (Or.inl rfl),rfl⟩⟩
   ·rw[h1];exact⟨rfl,Or.inl ⟨Or.inr (Or.inr (Or.inr rfl)),rfl⟩⟩
   ·rw[h1];exact⟨rfl,Or.inl ⟨Or.inr (Or.inr (Or.inl rfl)),rfl⟩⟩
   ·rw[h1];exact jwq h z y N
  ·obtain⟨e,ok⟩:=kv6 h z y F;have E:kq2 t l (.node i j x a .nil)=opT x.op (kq2 t l a) (kq2 t l a):=by rw[kwd,h1];rfl
   have J:uz (qp (zh t)) l (.node i j x a .nil)=kqm 1 ((uz (qp (zh t)) l a).fam==1):=by rw[uz,h1];rfl
   have K:∀A C:ByteArray,opT x.op A C=if qwx A C&&(A.toList==o7) then kkf else kj5:=λA C=>by unfold opT;rw[h1];rfl
   rw[E,J,K];refine⟨?_,zxg 1 (Or.inl rfl) _⟩;rw[zxr,e,qvc ok ok,qv1 ok];congr 2
   unfold kkn;cases w:((uz (qp (zh t)) l a).fam==1)
   ·simp
   ·rw[rQ]at w;rw[w];simp
  ·obtain⟨L,d⟩:=kv6 h z y F;obtain⟨M,g⟩:=kv6 h z y G;have hn:isNil c=false:=G.some;have sm:∀f:Int,(f=1\/f=2)->(kkn (uz (qp (zh t)) l a) (uz (qp (zh t)) l c)&&((uz (qp (zh t)) l a).fam==f))=((uz (qp (zh t)) l a).fam==f&&(uz (qp (zh t)) l c).fam==f):=by
    intro f w;generalize uz (qp (zh t)) l a=A at d;generalize uz (qp (zh t)) l c=C at g;obtain⟨O,R⟩:=A;obtain⟨P,S⟩:=C;have I:(ByteArray.mk #[]).toList=[]:=jv _;rcases w with rfl|rfl<;>rcases d with⟨rfl|rfl|rfl|rfl,rfl⟩|⟨rfl|rfl,u⟩<;>rcases g with⟨rfl|rfl|rfl|rfl,rfl⟩|⟨rfl|rfl,v⟩<;>simp[kkn,I]
   have D:(qwx (kxu (uz (qp (zh t)) l a)) (kxu (uz (qp (zh t)) l c))||(((kxu (uz (qp (zh t)) l a)).toList==oJ)&&kzd (kxu (uz (qp (zh t)) l c)))||(((kxu (uz (qp (zh t)) l c)).toList==oJ)&&kzd (kxu (uz (qp (zh t)) l a))))=qwo (uz (qp (zh t)) l a) (uz (qp (zh t)) l c):=by
    rw[qvc d g,zxt d,zxt g,qvu d,qvu g];unfold qwo;cases kkn (uz (qp (zh t)) l a) (uz (qp (zh t)) l c)<;>cases ((uz (qp (zh t)) l a).fam==4)<;>cases ((uz (qp (zh t)) l a).fam==5)<;>cases ((uz (qp (zh t)) l c).fam==4)<;>cases ((uz (qp (zh t)) l c).fam==5)<;>rfl
   have q:(qwx (kxu (uz (qp (zh t)) l a)) (kxu (uz (qp (zh t)) l c))&&((kxu (uz (qp (zh t)) l a)).toList==o7))=((uz (qp (zh t)) l a).fam==1&&(uz (qp (zh t)) l c).fam==1):=by
    rw[qvc d g,qv1 d];exact sm 1 (Or.inl rfl)
   have k:(qwx (kxu (uz (qp (zh t)) l a)) (kxu (uz (qp (zh t)) l c))&&((kxu (uz (qp (zh t)) l a)).toList==pW))=((uz (qp (zh t)) l a).fam==2&&(uz (qp (zh t)) l c).fam==2):=by
    rw[qvc d g,jvm d];exact sm 2 (Or.inr rfl)
   have E:kq2 t l (.node i j x a c)=opT x.op (kq2 t l a) (kq2 t l c):=by
    rw[kwd,hn];rcases kyr h1 with o|o|o|o|o|o|o<;>rw[o]<;>rfl
   rw[E,L,M];have s:∀(b:Bool) (B:VT),uz (qp (zh t)) l (.node i j x a c)=kqm 1 b->opT x.op (kxu (uz (qp (zh t)) l a)) (kxu (uz (qp (zh t)) l c))=(if b then kkf else kj5)->opT x.op (kxu (uz (qp (zh t)) l a)) (kxu (uz (qp (zh t)) l c))=kxu (uz (qp (zh t)) l (.node i j x a c))/\qw0 (uz (qp (zh t)) l (.node i j x a c)):=λb B u v=>by
    rw[u,v];exact⟨(zxr b).symm,zxg 1 (Or.inl rfl) b⟩
   have H:∀(b:Bool) (B:VT),uz (qp (zh t)) l (.node i j x a c)=kqm 2 b->opT x.op (kxu (uz (qp (zh t)) l a)) (kxu (uz (qp (zh t)) l c))=(if b then kvn else kj5)->opT x.op (kxu (uz (qp (zh t)) l a)) (kxu (uz (qp (zh t)) l c))=kxu (uz (qp (zh t)) l (.node i j x a c))/\qw0 (uz (qp (zh t)) l (.node i j x a c)):=λb B u v=>by
    rw[u,v];exact⟨(jvh b).symm,zxg 2 (Or.inr rfl) b⟩
   have m:uz (qp (zh t)) l (.node i j x a c)=qwa (opN x.op.toList) (uz (qp (zh t)) l a) (uz (qp (zh t)) l c):=by
    rw[uz];rcases kyr h1 with o|o|o|o|o|o|o<;>rw[o]<;>rfl
   rcases kyr h1 with o|o|o|o|o|o|o
   ·exact s _ qvo mZ (by rw[<-q];unfold opT;rw[o];rfl)
   ·exact s _ qvo mZ (by rw[<-q];unfold opT;rw[o];rfl)
   ·exact s _ qvo mZ (by rw[<-D];unfold opT;rw[o];rfl)
   ·exact s _ qvo mZ (by rw[<-D];unfold opT;rw[o];rfl)
   ·exact s _ qvo mZ mJ
   ·exact H _ qvo mZ mJ
   ·exact H _ qvo mZ mJ
theorem zk2 (tab:Tab)(x:SiT):¬(kjv tab x).fam=5:=by
 unfold kjv;repeat' split
 all_goals simp
theorem vjp (tab:Tab)(l:List PP)(n:Tok):¬(kjc tab l n).fam=5:=by
 unfold kjc;split
 ·show ¬(4:Int)=5;decide
 ·split
  ·show ¬(3:Int)=5;decide
  ·split
   ·exact zk2 _ _
   ·decide
theorem vxt (tab:Tab)(l:List PP)(n i:Tok):¬(kzh tab l n i).fam=5:=by
 unfold kzh;split
 ·split
  ·split
   ·exact zk2 _ _
   ·decide
  ·decide
 ·exact vjp _ _ _
theorem vjf (tab:Tab)(l:List PP)   (h:p=.node 0 0 x .nil .nil)(a:x.op.toList=oK):¬(uz tab l p).fam=5:=by
 rw[h,uz,a];exact vxt _ _ _ _
theorem vzl (h:NamesFine t)(j:TreeTxt t)  (i:∀p∈l,0<p.set_.text.size){v: PX}(u:kza p)(f:¬(uz (qp (zh t)) l p).fam=5)(w:kza v):qzm (qh (zx t) (kkp p).toList) (kq2 t l p) (kq2 t l v)=zwx (qp (zh t)) l p v:=by
 obtain⟨q,a⟩:=kv6 h j i u;obtain⟨s,b⟩:=kv6 h j i w;rw[q,s];unfold qzm zwx;have c:((zl (qp (zh t)) (kkp p).toList).role==4)=!decide (qh (zx t) (kkp p).toList<0):=by
  obtain⟨k,_⟩:=qku h (kkp p).toList;by_cases g:qh (zx t) (kkp p).toList<0
  ·rw[tV g];have:¬(zl (qp (zh t)) (kkp p).toList).role=4:=λe=>by have:=k.mp e;omega
   simp[this]
  ·rw[decide_eq_false g,k.mpr aj];rfl
 rw[c,vjq a,zxt b,qvu a,kzr,kzr,vxk a b];generalize decide (qh (zx t) (kkp p).toList<0)=d
 generalize uz (qp (zh t)) l p=A at a f;generalize uz (qp (zh t)) l v=C at b;obtain⟨x,D⟩:=A;obtain⟨y,E⟩:=C;have m:(ByteArray.mk #[]).toList=[]:=jv _;cases d
 ·rcases a with⟨rfl|rfl|rfl|rfl,rfl⟩|⟨rfl|rfl,z⟩<;>rcases b with⟨rfl|rfl|rfl|rfl,rfl⟩|⟨rfl|rfl,B⟩<;>first|(exact(f rfl).elim)|simp[kkn,m]
 ·simp
theorem qjr {t:PTree}(h:NamesFine t)(d:TreeTxt t){l:List PP}(c:∀p∈l,0<p.set_.text.size):∀{b:PB},kxn b->kzy t l b=kxr (qp (zh t)) l b
 |.nil,_=>rfl
 |.node _ _ a .nil n,⟨h1,h2,_,h4⟩=>by
  obtain⟨k,x,g,f⟩:=h1;rw[kzy,kxr,vzl h d c k (vjf _ _ g f) h2,qjr h d c h4]
 |.node _ _ a (.node _ _ _ t e) n,⟨h1,_,_,h4,h5,h6⟩=>by
  obtain⟨j,i⟩:=kv6 h d c h1;rw[kzy,kxr,j,qv1 i,qjr h d c h4.1,qjr h d c h5.1,qjr h d c h6]
def qxe (t:PTree):Bool:=(t.rules++t.nevers).all (λr=>((kq2 t r.params r.guard).toList==o7)&&kzy t r.params r.body)
theorem jvb (h:NamesFine t)(j:TreeTxt t)(i:∀r∈t.rules++t.nevers,∀p∈r.params,0<p.set_.text.size)(d:∀r∈t.rules,kka r)(hn:∀r∈t.nevers,kka r/\r.body=.nil):kyg (qp (zh t)) (zh t)=qxe t:=by
 unfold kyg qxe;rw[List.all_append];have one:∀r∈t.rules++t.nevers,kka r->(((kq2 t r.params r.guard).toList==o7)&&kzy t r.params r.body)=qw4 (qp (zh t)) r:=λr a c=>by
  obtain⟨m,k⟩:=kv6 h j (i r a) c.1;rw[m,qv1 k,qjr h j (i r a) c.2.1];rfl
 have b:∀(l:List PRule) (f g:PRule->Bool),(∀r∈l,f r=g r)->l.all f=l.all g:=by
  intro l f g;induction l with
  |nil=>intro _;rfl
  |cons r l ih=>intro e;rw[ZV,ZV,e r (rV ..),ih λr d=>e r (rG _ d)]
 congr 1
 ·exact b _ _ _ λr a=>(one r (wG _ a) (d r a)).symm
 ·refine b _ _ _ λr a=>?_
  rw[one r (rZ _ a) (hn r a).1];unfold qw4 jwp;rw[(hn r a).2,kxr,Jg]
end Go.Proofs.YtpmcnonmkghokaaGreatDoor
namespace Go.Proofs.YtpmcnonmkghokaaGreatDoor
open Go.Proofs.Tryz
open Go.RowKit
attribute [local go_sem ↓] Go.wp_at_zero Go.wp_at_succ
variable {x:ELab}{l:List PP}{t:PTree}{p:PX}{a b:VT}
theorem qzl {w:World}{a:Addr}{v:Value}{b:Nat}(h:a.block≠b)(c:w.cell? a=some v)(x y:Value):((w.setCell ⟨b,0,none⟩ x).setCell ⟨b,1,none⟩ y).cell? a=some v:=by
 refine(Zm (w:=w) ?_).trans c;rw[wP _ _ _ _ h,wP _ _ _ _ h]
theorem zwn (f:Int)(s:ByteArray)(w:World):(Instr.field 362 (.agg #[.int .i64 f,.string s]) 0).run prog w=.ok (.int .i64 f) w:=ah
theorem vz1 (o:List UInt8):0<=opN o/\opN o<=13:=by
 unfold opN;repeat (first|(split;· omega)|omega)
def qvm (x:PX):Prop:=∀(w:World) (b lo xo:Nat) (tab:Tab) (l:List PP) (pa:Option Addr) (pn pc:Nat) (v:Value),kqi w b tab->qwv tab->w.ownsRow lo 352 4 (.slice pa pn pc) l.length (xu l)->l.length<=1000 ->
  XIs xo w x v->kym x->isNil x=false->(∀y∈cu x,y.text.size<=1000) ->
  qJ 217 #[tyV b (.slice pa pn pc),v] w λe w'=>e=.returned (vtV (uz tab l x))/\pU w w'
theorem jvn (i j:Nat)(x:ELab)(a c:PX)(aW:qvm a)(aX:qvm c):qvm (.node i j x a c):=by
 intro w b lo xo tab l pa pn pc v ht Y ho hl hX hF _ hs;obtain⟨k,va,vb,rfl,hk,hh,ha,hb⟩:=hX;obtain⟨p1,rfl⟩:=ha.ptr;obtain⟨p2,rfl⟩:=hb.ptr;have aC:∀y∈cu a,y.text.size<=1000:=λy hy=>hs y (by rw[cu];simp[hy])
 have aD:∀y∈cu c,y.text.size<=1000:=λy hy=>hs y (by rw[cu];simp[hy])
 have aE:∀y∈qxf x,y.text.size<=1000:=λy hy=>hs y (by rw[cu];simp[hy])
 have G:=zj2 x.op.toList;have aU:=vz1 x.op.toList;obtain⟨W,I⟩:∃W,W=(w.alloc (.cells #[.map (some b),.slice pa pn pc] 301)).alloc (.cells #[.int .i64 0,.string ⟨#[]⟩] 362):=⟨_,rfl⟩;have D:pU w W:=by rw[I];exact kzw w _ _
 have X:W.heap.size=w.heap.size+2:=by rw[I];simp
 have hT:W.heap[w.heap.size]?=some (.cells #[.map (some b),.slice pa pn pc] 301 (0,0)):=by rw[I];exact zy (qg _ _)
 have hR:W.heap[w.heap.size+1]?=some (.cells #[.int .i64 0,.string ⟨#[]⟩] 362 (0,0)):=by
  rw[I];have:=qg (w.alloc (.cells #[.map (some b),.slice pa pn pc] 301)) (.cells #[.int .i64 0,.string ⟨#[]⟩] 362);simp only[tJ]at this;exact this
 have aS:=wu hh;have F:=(D.block k aS).trans hh;unfold kwy at F;have E:=pG (show uz tab l (.node i j x a c)=if (opN x.op.toList==0||opN x.op.toList==1) then ⟨1,⟨#[]⟩⟩ else if opN x.op.toList==3 then ⟨2,⟨#[]⟩⟩ else if opN x.op.toList==2 then ⟨5,⟨#[]⟩⟩
  else if opN x.op.toList==4 then kzh tab l x.name x.index else if opN x.op.toList==5 then kqm 1 ((uz tab l a).fam==1) else qwa (opN x.op.toList) (uz tab l a) (uz tab l c) from rfl)
 have m:pU w W.drew:=D.drew;have L:=pG (λe:qxf x=kz7 x.name x.index=>zxf W.drew b lo tab l pa pn pc x.name x.index (ht.kept m) Y (qj ho m) hl (by rw[<-e];exact aE));have HA:=pG (λe:isNil a=false=>aW W.drew b lo xo tab l pa pn pc _ (ht.kept m) Y (qj ho m) hl (ha.below m) hF.2.1 e aC);have HC:=pG (λ(e:isNil c=false) (u:World) (h1:pU w u)=>aX u b lo xo tab l pa pn pc _ (ht.kept h1) Y (qj ho h1) hl (hb.below h1) hF.2.2 e aD);have N:=hF.1;obtain⟨⟨q0,q1,q2,q3,q4,q5,q6,q7,q8⟩,_⟩:=kkv F;obtain⟨t0,t1,_⟩:=kj0 hT;obtain⟨r0,r1,r2,r3⟩:=kj0 hR;have HX:=pG F;have HT:=pG hT;have C:=pG hR;have B:=pG D;have aO:=pG I.symm;have U:w.heap.size<W.heap.size:=aj;have t:w.heap.size+1<W.heap.size:=aj;have V:k<W.heap.size:=aj;have T:(⟨k,0,none⟩:Addr).block≠w.heap.size+1:=by show k≠_;omega
 have aG:(⟨w.heap.size,0,none⟩:Addr).block≠w.heap.size+1:=by show w.heap.size≠_;omega
 generalize uz tab l (.node i j x a c)=fin at *;clear hR D I hT hh F ho ht ha hb hs aC aD aE hF m;unfold tyV pl5 vtV at *;generalize (!(x.index.kind.toList==[]))=d at *;go_enter func217,ntmps217
 generalize opN x.op.toList=o at *;go_upto_region 1 with fail
 rw[ku aO];cases h0:(o==0)
 case true=>
  rw[h0]at E;go_wp2
  refine rY (rP results217 _ _ (w.heap.size+1) _ _ _ _ rfl (set2 (ku C) _ _) underlying362 rfl ah) rfl ?_;exact⟨iJ,((ku B).setCell (show w.heap.size<=w.heap.size+1 by omega) _).setCell (show w.heap.size<=w.heap.size+1 by omega) _⟩
 case false=>
 cases h1:(o==1)
 case true=>
  rw[h0,h1]at E;go_wp2
  refine rY (rP results217 _ _ (w.heap.size+1) _ _ _ _ rfl (set2 (ku C) _ _) underlying362 rfl ah) rfl ?_;exact⟨iJ,((ku B).setCell (show w.heap.size<=w.heap.size+1 by omega) _).setCell (show w.heap.size<=w.heap.size+1 by omega) _⟩
 case false=>
 rw[h0,h1]at E;cases h3:(o==3)
 case true=>
  rw[h3]at E;go_wp2
  refine rY (rP results217 _ _ (w.heap.size+1) _ _ _ _ rfl (set2 (ku C) _ _) underlying362 rfl ah) rfl ?_;exact⟨iJ,((ku B).setCell (show w.heap.size<=w.heap.size+1 by omega) _).setCell (show w.heap.size<=w.heap.size+1 by omega) _⟩
 case false=>
 rw[h3]at E;cases h2:(o==2)
 case true=>
  rw[h2]at E;go_wp2
  refine rY (rP results217 _ _ (w.heap.size+1) _ _ _ _ rfl (set2 (ku C) _ _) underlying362 rfl ah) rfl ?_;exact⟨iJ,((ku B).setCell (show w.heap.size<=w.heap.size+1 by omega) _).setCell (show w.heap.size<=w.heap.size+1 by omega) _⟩
 case false=>
 rw[h2]at E;cases h4:(o==4)
 case true=>
  rw[h4]at E G;have aI:=pG ((ku L) (by unfold qxf;rw[<-G];rfl));clear L HA HC G;go_upto_region 10 with fail
  go_region_law ((go_simp;go_at_call 244;refine(ku aI).mono ?_;rintro e u ⟨rfl,f⟩;have h:=(f.block (w.heap.size+1) (by simpa using t)).trans (ku C);obtain⟨s0,s1,s2,s3⟩:=kj0 h;have z:=pG h;have q:=pG ((ku B).drew.trans (f.mono (by have:=X;simp;omega)));clear f h;dsimp only))
  all_goals
   go_wp2
   refine rY (rP results217 _ _ (w.heap.size+1) _ _ _ _ rfl (set2 (ku z) _ _) underlying362 rfl ah) rfl ?_;exact⟨iJ,((ku q).setCell (show w.heap.size<=w.heap.size+1 by omega) _).setCell (show w.heap.size<=w.heap.size+1 by omega) _⟩
 case false=>
 rw[h4]at E;have a5:¬o=0:=by simpa using h0
 have a6:¬o=1:=by simpa using h1
 have a9:¬o=2:=by simpa using h2
 have aA:¬o=3:=by simpa using h3
 have aB:¬o=4:=by simpa using h4
 have J:=pG ((ku HA) (N.1 aj));clear HA L G;cases h5:(o==5)
 case true=>
  rw[h5]at E;have aY:=zwn (uz tab l a).fam (uz tab l a).name;generalize uz tab l a=ta at *;clear HC a5 a6 a9 aA aB;go_upto_region 12 with fail
  go_region_law (first|(go_simp;go_at_call 217;refine(ku J).mono ?_;rintro e u ⟨rfl,f⟩;have p:=f.size;have h:=(f.block (w.heap.size+1) (by simpa using t)).trans (ku C);have z:=pG h;have q:=pG ((ku B).drew.trans (f.mono (by have:=X;simp;omega)));clear f h;dsimp only)|(go_simp;go_at_call 245;refine(zj5 _ _ _).mono ?_;rintro e w2 ⟨rfl,g⟩;have s:=(g.block (w.heap.size+1) (by simp at p;omega)).trans (ku z);obtain⟨s0,s1,s2,s3⟩:=kj0 s;have M:=pG s;have K:=pG ((ku q).trans (g.mono (by simp at p;omega)));clear g s;dsimp only[vtV]))
  all_goals
   go_wp2
   refine rY (rP results217 _ _ (w.heap.size+1) _ _ _ _ rfl (set2 (ku M) _ _) underlying362 rfl ah) rfl ?_;exact⟨iJ,((ku K).setCell (show w.heap.size<=w.heap.size+1 by omega) _).setCell (show w.heap.size<=w.heap.size+1 by omega) _⟩
 case false=>
 rw[h5]at E;have aT:¬o=5:=by simpa using h5
 have aK:=pG ((ku HC) (N.2 aj));generalize uz tab l a=ta at *;generalize uz tab l c=tc at *;clear HC a5 a6 a9 aA aB aT aU N;go_upto_region 13 with fail
 go_region_held3 (λw'=>w'.cell? ⟨k,0,none⟩=some (.int .i64 o)/\w'.cell? ⟨k,7,none⟩=some (.pointer p1)/\w'.cell? ⟨k,8,none⟩=some (.pointer p2)/\w'.cell? ⟨w.heap.size,0,none⟩=some (.map (some b))/\w'.cell? ⟨w.heap.size,1,none⟩=some (.slice pa pn pc))
  (first|exact⟨q0,q7,q8,t0,t1⟩|exact⟨a0,a7,a8,b0,b1⟩|exact⟨c0,c7,c8,d0,d1⟩|exact⟨e0,e7,e8,f0,f1⟩|exact⟨qzl T e0 _ _,qzl (a:=⟨k,7,none⟩) T e7 _ _,qzl (a:=⟨k,8,none⟩) T e8 _ _,qzl aG f0 _ _,qzl (a:=⟨w.heap.size,1,none⟩) aG f1 _ _⟩)
  (first
  |(go_at_call 217;refine(ku J).mono ?_;rintro e u ⟨rfl,f⟩;have p:=f.size;have R:=(f.block k (by simpa using V)).trans (ku HX);have P:=(f.block w.heap.size (by simpa using U)).trans (ku HT);have h:=(f.block (w.heap.size+1) (by simpa using t)).trans (ku C);obtain⟨⟨a0,_,_,_,_,_,_,a7,a8⟩,_⟩:=kkv R;obtain⟨b0,b1,_⟩:=kj0 P;have aP:=pG R;have aM:=pG P;have z:=pG h;have q:=pG ((ku B).drew.trans (f.mono (by have:=X;simp;omega)));have a1:=pG ((ku aK) u (ku q));have aH:w.heap.size+1<u.heap.size:=Qy t p;have a4:k<u.heap.size:=Qy V p;have Z:w.heap.size<u.heap.size:=Qy U p;clear f R P h p J)
  |(go_at_call 217;refine(ku a1).mono ?_;rintro e w2 ⟨rfl,g⟩;have H:=g.size;have S:=(g.block k a4).trans (ku aP);have Q:=(g.block w.heap.size Z).trans (ku aM);have s:=(g.block (w.heap.size+1) aH).trans (ku z);obtain⟨⟨c0,_,_,_,_,_,_,c7,c8⟩,_⟩:=kkv S;obtain⟨d0,d1,_⟩:=kj0 Q;have aQ:=pG S;have aN:=pG Q;have M:=pG s;have K:=pG ((ku q).trans (g.mono (Qs Z)));have aV:w.heap.size+1<w2.heap.size:=Qy aH H;have aR:k<w2.heap.size:=Qy a4 H;have aF:w.heap.size<w2.heap.size:=Qy Z H;clear g S Q s H a1)
  |(go_at_call 246;refine(jyx _ o ta tc).mono ?_;rintro e w3 ⟨rfl,A⟩;have a3:=(A.block k aR).trans (ku aQ);have a2:=(A.block w.heap.size aF).trans (ku aN);have O:=(A.block (w.heap.size+1) aV).trans (ku M);obtain⟨⟨e0,_,_,_,_,_,_,e7,e8⟩,_⟩:=kkv a3;obtain⟨f0,f1,_⟩:=kj0 a2;obtain⟨s0,s1,s2,s3⟩:=kj0 O;have aL:=pG O;have aJ:=pG ((ku K).trans (A.mono (Qs aF)));clear A O a3 a2;dsimp only[vtV]))
 all_goals
  go_wp2
  refine rY (rP results217 _ _ (w.heap.size+1) _ _ _ _ rfl (set2 (ku aL) _ _) underlying362 rfl ah) rfl ?_;exact⟨iJ,((ku aJ).setCell (show w.heap.size<=w.heap.size+1 by omega) _).setCell (show w.heap.size<=w.heap.size+1 by omega) _⟩
theorem qv3:∀x:PX,qvm x
 |.nil=>λw b lo d tab l pa pn pc v _ _ _ _ _ _ h _=>gY
 |.node i j x a c=>jvn i j x a c (qv3 a) (qv3 c)
end Go.Proofs.YtpmcnonmkghokaaGreatDoor

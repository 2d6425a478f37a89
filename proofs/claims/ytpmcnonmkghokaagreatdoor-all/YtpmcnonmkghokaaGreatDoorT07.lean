import Derived.Test.YtpmcnonmkghokaaGreatDoorT06
import Derived.Test.YtpmcnonmkghokaaGreatDoorT03
import Derived.Test.YtpmcnonmkghokaaGreatDoorT05
import Derived.Test.YtpmcnonmkghokaaGreatDoorT01
set_option maxRecDepth 100000
set_option maxHeartbeats 16000000
set_option linter.unusedVariables false
set_option linter.unusedSimpArgs false
namespace Go.Proofs.YtpmcnonmkghokaaGreatDoor
open Go.Proofs.Tryz Go.RowKit
attribute [local go_sem ↓] Go.wp_at_zero Go.wp_at_succ
variable {ops:Array Oper}{g4:ELab}{Q:Exit->Act->World->Prop}{ts:List ByteArray}{l:List PP}{L:List Tok}{a9:List UInt8}{α:Type}{items:List α}{i6:Mach}{m:MdL}{B M b bb k lo nb pc pn so:Nat}{g8 pa:Option Addr}{r:PRule}{t:PTree}{v:PVar}{c g7 p:PX}{P:Program}{md:Region.Mode}{tab:Tab}{i n x:Tok}{a g3:VT}{nv sv tv vv x0 x1 x2 x3 x4 y:Value}{W w w' wr:World}{f:α->Bool}
def tyV(b:Nat)(ps:Value):Value:=.agg #[.map (some b),ps]
def kqm(tab:Tab)(x:SiT):VT:=if x.I==0 then ⟨1,⟨#[]⟩⟩ else if x.I==1 then ⟨2,⟨#[]⟩⟩ else if (zl tab x.y.x.toList).V==1 then ⟨4,x.y.x⟩ else ⟨3,x.y.x⟩
theorem zvg(ps:Value)(x:SiT)(p:kj5 w b tab)(m:x.y.x.size<=1000)(t:ps.oneCell'=true):Calls prog 263 #[tyV b ps,siV x] w λe w'=>rT e (vtV<|kqm tab x)/\oq w w':=by
 have E:=oz (show kqm tab x=if x.I==0 then ⟨1,⟨#[]⟩⟩ else if x.I==1 then ⟨2,⟨#[]⟩⟩ else if (zl tab x.y.x.toList).V==1 then ⟨4,x.y.x⟩ else ⟨3,x.y.x⟩ from rfl);have⟨W,f⟩:=cpy<|((w.alloc<|.cells #[.map (some b),ps] 301).alloc<|.cells #[i_ x.I,i_<|mg x.R.x,i_ x.R.v,.string x.y.x,i_ x.y.v] 119).alloc (.cells #[i_ 0,e_] 362);have d:oq w W:=by rw[f];exact(kxw w).trans ((jZ _).mono ah)
 have k:W.heap[w.heap.size]?=some (.cells #[.map (some b),ps] 301 (0,0)):=by grind [zy,qy]
 have l:W.heap[w.heap.size+1]?=some (.cells #[i_ x.I,i_<|mg x.R.x,i_ x.R.v,.string x.y.x,i_ x.y.v] 119 (0,0)):=by rw[f];have:=qy (w:=w.alloc<|.cells #[.map (some b),ps] 301) (o:=.cells #[i_ x.I,i_ (mg x.R.x),i_ x.R.v,.string x.y.x,i_ x.y.v] 119);grind [World.size_alloc,zy]
 have hR:W.heap[w.heap.size+2]?=some (.cells #[i_ 0,e_] 362 (0,0)):=by rw[f];have:=qy (w:=(w.alloc<|.cells #[.map (some b),ps] 301).alloc<|.cells #[i_ x.I,i_ (mg x.R.x),i_ x.R.v,.string x.y.x,i_ x.y.v] 119) (o:=.cells #[i_ 0,e_] 362);simp_all
 have hM:kj5 W b tab:=p.kept d;have s:=kvb hM m;have u:=kw6<|zl tab x.y.x.toList;have t0:=kj6 k;have x0:=jl l;have v:=kj6 hR;have⟨g,i⟩:=jS hR f.symm;generalize kqm tab x=fin at *;generalize zl tab x.y.x.toList=q at *;clear hR f k l;unfold tyV siV vtV;go_in
 go_upto_region 1 with fail
 rw[ku i,show w.heap.size+1+1=w.heap.size+2 from rfl];cases h:(x.I==0)
 ·cases h1:(x.I==1)
  ·cases j:(q.V==1)
   ·rw[h,h1,j]at E;go_wp2;refine kx0 results263 underlying362 (set2 g) ?_;exact⟨jJ,(d.setCell (by omega:w.heap.size<=w.heap.size+2) _).setCell (by omega:w.heap.size<=w.heap.size+2) _⟩
   ·rw[h,h1,j]at E;go_wp2;refine kx0 results263 underlying362 (set2 g) ?_;exact⟨jJ,(d.setCell (by omega:w.heap.size<=w.heap.size+2) _).setCell (by omega:w.heap.size<=w.heap.size+2) _⟩
  ·rw[h,h1]at E;go_wp2;refine kx0 results263 underlying362 (set2 g) ?_;exact⟨jJ,(d.setCell (by omega:w.heap.size<=w.heap.size+2) _).setCell (by omega:w.heap.size<=w.heap.size+2) _⟩
 ·rw[h]at E;go_wp2;refine kx0 results263 underlying362 (set2 g) ?_;exact⟨jJ,(d.setCell (by omega:w.heap.size<=w.heap.size+2) _).setCell (by omega:w.heap.size<=w.heap.size+2) _⟩
def zj4(tab:Tab):Prop:=∀s,(zl tab s).var.si.y.x.size<=1000
def kjf(tab:Tab)(l:List PP)(n:Tok):VT:=
 if fpB l n.x.toList then ⟨4,(fpP l n.x.toList).Q.x⟩
 else if (zl tab n.x.toList).V==3 then ⟨3,(zl tab n.x.toList).t⟩
 else if (zl tab n.x.toList).V==4&&!(zl tab n.x.toList).var.K then kqm tab (zl tab n.x.toList).var.si else zqg
theorem jq8(n:Tok)(Y:kj5 w b tab)(N:zj4 tab)(I:w.ownsRow lo 352 4 (.slice pa pn pc) l.length (uq l))(S:l.length<=1000)(X:n.x.size<=1000):Calls prog 261 #[tyV b (.slice pa pn pc),ptV n] w λe w'=>rT e (vtV<|kjf tab l n)/\oq w w':=by
 have⟨ps,u⟩:=cpy<|Value.slice pa pn pc;rw[<-u]at I |-;have E:=oz (show kjf tab l n=if fpB l n.x.toList then ⟨4,(fpP l n.x.toList).Q.x⟩
  else if (zl tab n.x.toList).V==3 then ⟨3,(zl tab n.x.toList).t⟩
  else if (zl tab n.x.toList).V==4&&!(zl tab n.x.toList).var.K then kqm tab (zl tab n.x.toList).var.si else zqg from rfl)
 have⟨W,y⟩:=cpy<|((w.alloc<|.cells #[.map (some b),ps] 301).alloc<|.cells #[.string n.x,i_ n.v] 107).alloc (.cells #[i_ 0,e_] 362);have v:oq w W:=by rw[y];exact(kxw w).trans ((jZ _).mono ah)
 have M:W.heap.size=w.heap.size+3:=by simp_all
 have x:W.heap[w.heap.size]?=some (.cells #[.map (some b),ps] 301 (0,0)):=by grind [zy,qy]
 have z:W.heap[w.heap.size+1]?=some (.cells #[.string n.x,i_ n.v] 107 (0,0)):=by grind [qy,zy]
 have hR:W.heap[w.heap.size+2]?=some (.cells #[i_ 0,e_] 362 (0,0)):=by grind [qy]
 have O:kj5 W b tab:=Y.kept v;have B:=kvm n (qj I v) S;have J:=N n.x.toList;have t0:=kj6 x;have x0:=kj6 z;have⟨Q,R,P,D⟩:=jE x z hR y.symm;generalize kjf tab l n=fin at *;clear hR y x z;subst u;unfold tyV ptV vtV at *;go_in;go_upto_region 1 with fail
 rw[ku D,show w.heap.size+1+1=w.heap.size+2 from rfl];go_wp21;refine zM B λj f=>?_;have K:=f.size;generalize fpP l n.x.toList=p at *;generalize fpB l n.x.toList=r at *;have d:=oz<|(f.block (w.heap.size+2) aj).trans P;have C:=oz<|(f.block w.heap.size aj).trans Q;have t:=(f.block (w.heap.size+1) aj).trans R;have k:=O.kept f;have i:=kvb (k.kept<|jZ j (o:=.cells #[.string p.y.x,i_ p.y.v,.string p.Q.x,i_ p.Q.v] 352)) X;have t0:=kj6 C;have x0:=kj6 t;have Z:=kj6 d;have g:=v.trans<|f.mono aj;have T:w.heap.size<j.heap.size:=aj;have U:w.heap.size+1<j.heap.size:=aj;have V:w.heap.size+2<j.heap.size:=aj;clear t K M;unfold paV;cases r
 case true=>
  go_wp2;refine kx0 results261 underlying362 (zy<|set2 d) ?_;exact⟨jJ,(((g.setCell (by omega:w.heap.size<=w.heap.size+2) _).setCell (by omega:w.heap.size<=w.heap.size+2) _).alloc jQ _)⟩
 case false=>
  generalize zl tab n.x.toList=q at *;simp only[qy7,qkr,kjs,QU,Qd]at i;cases F:(q.V==3)
  ·rw[F]at E;cases G:(q.V==4)
   ·rw[G]at E;go_wp2;refine kx0 results261 underlying362 (zy<|zy (set2 d)) ?_;exact⟨jJ,((((g.setCell (by omega:w.heap.size<=w.heap.size+2) _).setCell (by omega:w.heap.size<=w.heap.size+2) _).alloc jQ _).alloc jQ _)⟩
   ·rw[G]at E;cases H:q.var.K
    ·rw[H]at E i;have s:=zvg (w:=(j.alloc<|.cells #[.string p.y.x,i_ p.y.v,.string p.Q.x,i_ p.Q.v] 352).alloc<|.cells #[i_ q.V,i_ q.N,.string q.t,.string q.var.y.x,i_ q.var.y.v,.bool false,.string q.var.g.x,i_ q.var.g.v,i_ q.var.si.I,i_ (mg q.var.si.R.x),i_ q.var.si.R.v,.string q.var.si.y.x,i_ q.var.si.y.v] 294) (.slice pa pn pc) q.var.si ((k.kept<|jZ _).kept<|jZ _) J rfl;unfold tyV siV vtV at s;go_wp21;refine zM s λw3 h=>?_;have L:=h.size;simp at L;have m:=oz ((h.block (w.heap.size+2)<|by simp_all).trans<|zy (zy d));have s0:=kj6 m;have A:=((g.alloc aj _).alloc ah _).trans<|h.mono ah;go_wp2
     refine kx0 results261 underlying362 (set2 m) ?_;exact⟨jJ,(A.setCell (by omega:w.heap.size<=w.heap.size+2) _).setCell (by omega:w.heap.size<=w.heap.size+2) _⟩
    ·rw[H]at E i;go_wp2;refine kx0 results261 underlying362 (zy<|zy (set2 d)) ?_;exact⟨jJ,((((g.setCell (by omega:w.heap.size<=w.heap.size+2) _).setCell (by omega:w.heap.size<=w.heap.size+2) _).alloc jQ _).alloc jQ _)⟩
  ·rw[F]at E;go_wp2;refine kx0 results261 underlying362 (zy<|zy (set2 d)) ?_;exact⟨jJ,((((g.setCell (by omega:w.heap.size<=w.heap.size+2) _).setCell (by omega:w.heap.size<=w.heap.size+2) _).alloc jQ _).alloc jQ _)⟩
def qy5(tab:Tab)(l:List PP)(i s:Tok):Bool:=(kjf tab l i).b==4&&(kjf tab l i).y.toList==s.x.toList
theorem vx8(i s:Tok)(x:kj5 w b tab)(j:zj4 tab)(u:w.ownsRow lo 352 4 (.slice pa pn pc) l.length (uq l))(t:l.length<=1000)(v:i.x.size<=1000):Calls prog 262 #[tyV b (.slice pa pn pc),ptV i,ptV s] w λe w'=>rT e (.bool<|qy5 tab l i s)/\oq w w':=by
 have E:=oz (show qy5 tab l i s=((kjf tab l i).b==4&&(kjf tab l i).y.toList==s.x.toList) from rfl);have f:=oz ((kxw w (o:=.cells #[.map (some b),.slice pa pn pc] 301) (p:=.cells #[.string i.x,i_ i.v] 107)).trans<|(jZ _ (o:=.cells #[.string s.x,i_ s.v] 107)).mono ah).drew;have g:=jq8 i (x.kept f) j (qj u f) t v;have h:=oz (show(((w.alloc<|.cells #[.map (some b),.slice pa pn pc] 301).alloc<|.cells #[.string i.x,i_ i.v] 107).alloc<|.cells #[.string s.x,i_ s.v] 107).drew.heap[w.heap.size+2]?=some (.cells #[.string s.x,i_ s.v] 107 (0,0)) by have:=qy (w:=(w.alloc<|.cells #[.map (some b),.slice pa pn pc] 301).alloc<|.cells #[.string i.x,i_ i.v] 107) (o:=.cells #[.string s.x,i_ s.v] 107);simp only[tV]at this;exact this)
 unfold tyV ptV vtV at *;generalize qy5 tab l i s=fin at *;generalize kjf tab l i=q at *;go_wp2;by_cases m:q.b=4
 ·by_cases hn:q.y.toList=s.x.toList
  ·go_region_law ((go_simp;go_at_call 261;refine zM g λk d=>?_;have y0:=kj6<|(d.block (w.heap.size+2) ay).trans h;dsimp only))
   all_goals
    go_wp2;go_ret;exact⟨um oP,f.trans<|d.mono ah⟩
  ·go_region_law ((go_simp;go_at_call 261;refine zM g λk d=>?_;have y0:=kj6<|(d.block (w.heap.size+2) ay).trans h;dsimp only))
   all_goals
    go_wp2;go_ret;exact⟨um oP,f.trans<|d.mono ah⟩
 ·go_region_law ((go_simp;go_at_call 261;refine zM g λk d=>?_;have y0:=kj6<|(d.block (w.heap.size+2) ay).trans h;dsimp only))
  all_goals
   go_wp2;go_ret;exact⟨um (by rw[ku E];simp[m]),f.trans<|d.mono ah⟩
theorem vws(q:Ent)(w:World):(Instr.field 294 (qy7 q) 3).run prog w=.ok (.agg #[.string q.var.y.x,i_ q.var.y.v,.bool q.var.K,.string q.var.g.x,i_ q.var.g.v,i_ q.var.si.I,i_ (mg q.var.si.R.x),i_ q.var.si.R.v,.string q.var.si.y.x,i_ q.var.si.y.v]) w:=au
def kxj(tab:Tab)(l:List PP)(n i:Tok):VT:=
 if (!(i.t.toList==[])) then (if (zl tab n.x.toList).var.K then (if qy5 tab l i (zl tab n.x.toList).var.g then kqm tab (zl tab n.x.toList).var.si else zqg) else zqg) else kjf tab l n
theorem jq0(n i:Tok)(ht:kj5 w b tab)(p:zj4 tab)(S:w.ownsRow lo 352 4 (.slice pa pn pc) l.length (uq l))(Q:l.length<=1000)(I:∀y∈kzu n i,y.x.size<=1000):Calls prog 244 #[tyV b (.slice pa pn pc),pl5 n i] w λe w'=>rT e (vtV<|kxj tab l n i)/\oq w w':=by
 have⟨ps,z⟩:=cpy<|Value.slice pa pn pc;have A:n.x.size<=1000:=I n (by unfold kzu;grind);have m:(!(i.t.toList==[]))=true->i.x.size<=1000:=λe=>I i (by grind [kzu])
 have E:=oz (show kxj tab l n i=if (!(i.t.toList==[])) then (if (zl tab n.x.toList).var.K then (if qy5 tab l i (zl tab n.x.toList).var.g then kqm tab (zl tab n.x.toList).var.si else zqg) else zqg) else kjf tab l n from rfl);have T:=p n.x.toList;generalize kxj tab l n i=fin at *;unfold pl5;generalize (!(i.t.toList==[]))=d at *;rw[<-z]at S |-;have⟨W,F⟩:=cpy<|((w.alloc<|.cells #[.map (some b),ps] 301).alloc<|.cells #[.string n.x,i_ n.v,.bool d,.string i.x,i_ i.v] 332).alloc (.cells #[i_ 0,e_] 362);have j:oq w W:=by rw[F];exact(kxw w).trans ((jZ _).mono ah)
 have V:W.heap.size=w.heap.size+3:=by simp_all
 have D:W.heap[w.heap.size]?=some (.cells #[.map (some b),ps] 301 (0,0)):=by grind [zy,qy]
 have G:W.heap[w.heap.size+1]?=some (.cells #[.string n.x,i_ n.v,.bool d,.string i.x,i_ i.v] 332 (0,0)):=by grind [qy,zy]
 have hR:W.heap[w.heap.size+2]?=some (.cells #[i_ 0,e_] 362 (0,0)):=by grind [qy]
 have s:kj5 W b tab:=ht.kept j;have L:=qj S j;have R:=kvb s A;have H:=vws<|zl tab n.x.toList;subst z;have M:=jq8 n s p L Q A;have t0:=kj6 D;have x0:=jl G;have r0:=kj6 hR;have⟨X,HX,C,N⟩:=jE D G hR F.symm;have Y:w.heap.size<W.heap.size:=aj;have Z:w.heap.size+1<W.heap.size:=aj;have a0:w.heap.size+2<W.heap.size:=aj;clear hR F D G I V;unfold tyV ptV vtV at *;go_in
 go_upto_region 1 with fail
 rw[ku N,show w.heap.size+1+1=w.heap.size+2 from rfl];cases d
 case false=>
  clear m R H;go_wp21;refine zM M λw1 f=>?_;have g:=oz<|(f.block (w.heap.size+2) aj).trans C;have s0:=kj6 g;have h:=j.trans<|f.mono aj;go_wp2
  refine kx0 results244 underlying362 (set2 g) ?_;exact⟨jJ,(h.setCell (by omega:w.heap.size<=w.heap.size+2) _).setCell (by omega:w.heap.size<=w.heap.size+2) _⟩
 case true=>
 have J:=m rfl;have k:=vx8 (w:=W.alloc<|.cells #[.string (zl tab n.x.toList).var.y.x,i_ (zl tab n.x.toList).var.y.v,.bool (zl tab n.x.toList).var.K,.string (zl tab n.x.toList).var.g.x,i_ (zl tab n.x.toList).var.g.v,i_ (zl tab n.x.toList).var.si.I,i_<|mg (zl tab n.x.toList).var.si.R.x,i_ (zl tab n.x.toList).var.si.R.v,.string (zl tab n.x.toList).var.si.y.x,i_ (zl tab n.x.toList).var.si.y.v] 121) i (zl tab n.x.toList).var.g (s.kept<|jZ _) p (L.alloc _) Q J;unfold tyV ptV at k;generalize zl tab n.x.toList=q at *;clear m;cases P:q.var.K
 ·rw[P]at E H;go_wp2;refine kx0 results244 underlying362 (zy<|set2 C) ?_;exact⟨jJ,(((j.setCell (by omega:w.heap.size<=w.heap.size+2) _).setCell (by omega:w.heap.size<=w.heap.size+2) _).alloc jQ _)⟩
 ·rw[P]at E H k;go_wp21;refine zM k λw1 f=>?_;generalize qy5 tab l i q.var.g=c at *;have U:=f.size;simp at U;have B:=(f.block W.heap.size ay).trans<|qy;have v:=(f.block w.heap.size ah).trans<|zy X;have g:=oz<|(f.block (w.heap.size+2) ah).trans (zy C);have O:=(s.kept<|jZ _).kept f;have g5:=kju B;have t0:=kj6 v;have s0:=kj6 g;have h:=(j.alloc aj _).trans<|f.mono ah;have u:=zvg (.slice pa pn pc) q.var.si O T rfl;unfold tyV siV vtV at u;clear B v;cases c
  ·go_wp2;refine kx0 results244 underlying362 (set2 g) ?_;exact⟨jJ,(h.setCell (by omega:w.heap.size<=w.heap.size+2) _).setCell (by omega:w.heap.size<=w.heap.size+2) _⟩
  ·go_wp21;refine zM u λw3 x=>?_;have t:=oz<|(x.block (w.heap.size+2) aj).trans g;have u0:=kj6 t;have K:=h.trans<|x.mono aj;go_wp2
   refine kx0 results244 underlying362 (set2 t) ?_;exact⟨jJ,(K.setCell (by omega:w.heap.size<=w.heap.size+2) _).setCell (by omega:w.heap.size<=w.heap.size+2) _⟩
structure NamesFine (t:PTree):Prop where
 uniq:∀i j,j<i->∀hi:i<(jc t).length,∀hj:j<(jc t).length,((jc t)[j]).x.toList≠((jc t)[i]).x.toList
 pars:∀r∈t.l++t.q,∀p∈r.u,∀x∈jc t,x.x.toList≠p.y.x.toList
 psets:∀r∈t.l++t.q,∀p∈r.u,¬zx (ug t) p.Q.x.toList<0
 g:∀v∈t.z,(v.g.t.toList==mX)=true->¬zx (ug t) v.g.x.toList<0
 k:∀v∈t.z,(v.k.t.toList==mX)=true->zx (ug t) v.k.x.toList<0->¬zx (uy t) v.k.x.toList<0
theorem jj9(h:xu (qq0 t) (qxo t)<0):NamesFine t:=by
 rw[jji,jxt,zw9]at h;have e:=jj7 h;have no:∀y,y∉(jf (dG<|jc t) (jc t) 0++jf (dR<|jc t) (t.l++t.q) 0)++(jf (uV t) t.z 0++jf (uR t) (t.l++t.q) 0):=(by simp_all);refine⟨?_,?_,?_,?_,?_⟩
 ·intro i j q hi w e;exact no _<|jU (jU<|jy6.2 ⟨i,hi,rfl,j,q,e⟩)
 ·intro r m p l x u e;obtain⟨i,hi,rfl⟩:=wG m;obtain⟨k,d,rfl⟩:=wG l;refine no (t.l++t.q)[i].u[k].y (jU<|jP ((zo _ _).2 ⟨i,hi,?_⟩));unfold dR;refine(zo _ _).2 ⟨k,d,?_⟩;unfold dP;refine jU ((qkp (g:=λy:Tok=>kqd (y.x.toList==_) _)).2 ⟨x,u,?_⟩);grind [jk]
 ·intro r m p l f;obtain⟨i,hi,rfl⟩:=wG m;obtain⟨k,d,rfl⟩:=wG l;refine no (t.l++t.q)[i].u[k].Q (jP<|jP ((zo _ _).2 ⟨i,hi,?_⟩));grind [uR,zo,uP,jk]
 ·intro v hv d f;obtain⟨i,hi,rfl⟩:=wG hv;refine no t.z[i].g (jP<|jU ((zo _ _).2 ⟨i,hi,?_⟩));grind [uV,jk]
 ·intro v hv d f s;obtain⟨i,hi,rfl⟩:=wG hv;refine no t.z[i].k (jP<|jU ((zo _ _).2 ⟨i,hi,?_⟩));unfold uV;refine jP<|jk.2 ⟨?_,rfl⟩;simp_all
theorem zy9(h:NamesFine t){a6:Tok×Ent}(f:a6∈kjl (ql t)):zl (qm (ql t)) a6.1.x.toList={a6.2 with N:=a6.1.v}:=by
 rw[kz0];obtain⟨i,hi,rfl⟩:=wG f;obtain⟨_,hn⟩|⟨j,d,h1,l,e⟩:=kz1 (kjl<|ql t) (kjl<|ql t)[i].1.x.toList
 ·grind
 ·have g:j<=i:=by grind
  by_cases k:j=i
  ·simp_all
  ·have:=h.uniq i j aj (by rw[<-zq5];exact hi) (by rw[<-zq5];exact d);grind [qkb]
theorem jjy(h:NamesFine t)(s:List UInt8):((zl (qm (ql t)) s).V=3↔0<=(kjj t.p s).1)/\(0<=(kjj t.p s).1->(zl (qm (ql t)) s).t=(t.p.getD (kjj t.p s).1.toNat ⟨zh,[]⟩).y.x):=by
 have back:0<=(kjj t.p s).1->(zl (qm<|ql t) s).V=3/\(zl (qm<|ql t) s).t=(t.p.getD (kjj t.p s).1.toNat ⟨zh,[]⟩).y.x:=by intro d;have⟨hi,y,p,v⟩:=zx6 d;have:=zy9 h<|vzq (wZ hi) p;simp_all
 refine⟨⟨?_,λd=>(back d).1⟩,λd=>(back d).2⟩;intro f;rw[kz0]at f;obtain⟨e,_⟩|⟨j,l,g1,q,e⟩:=kz1 (kjl<|ql t) s
 ·rw[e]at f;cases f
 ·rw[e]at f;simp only at f;obtain g|g|g|g|g|g:=kw3 _ (wZ l)
  ·omega
  ·omega
  ·have⟨_,k,m,i,_⟩:=g;have:=(jjz t.p s);apply Qp;intro u;exact this.1 aj k m _ i g1
  ·omega
  ·omega
  omega
theorem qwo(h:NamesFine t)(s:List UInt8):((zl (qm (ql t)) s).V=4↔0<=zx (zf t) s)/\(0<=zx (zf t) s->∃hi:(zx (zf t) s).toNat<t.z.length,(zl (qm (ql t)) s).var=jw t.z[(zx (zf t) s).toNat]):=by
 have back:0<=zx (zf t) s->(zl (qm<|ql t) s).V=4/\∃hi:(zx (zf t) s).toNat<t.z.length,(zl (qm<|ql t) s).var=jw t.z[(zx (zf t) s).toNat]:=by
  intro d;have⟨hi,z⟩:=kwu d;have k:(zx (zf t) s).toNat<t.z.length:=by simpa[zf] using hi
  have w:(t.z[(zx (zf t) s).toNat]).y.x.toList=s:=by grind [zf]
  have:=zy9 h<|vqy (wZ k);simp_all
 refine⟨⟨?_,λd=>(back d).1⟩,λd=>(back d).2⟩;intro i;rw[kz0]at i;obtain⟨e,_⟩|⟨j,q,g1,x,e⟩:=kz1 (kjl<|ql t) s
 ·rw[e]at i;cases i
 ·rw[e]at i;simp only at i;obtain g|g|g|g|g|g:=kw3 _ (wZ q)
  ·omega
  ·omega
  ·omega
  ·have⟨_,v,hv,p,_⟩:=g;have m:v∈t.z.map jw:=hv;obtain⟨u,l,rfl⟩:=tY.1 m;apply Qp;intro y;exact(kwg (zf t) s).1 aj u.y.x (Qx (f:=λs:PVar=>s.y.x) l) (by rw[<-g1,p];rfl)
  ·omega
  omega
theorem jjw(t:PTree)(s:List UInt8)(h:¬(zl (qm (ql t)) s).V=4):(zl (qm (ql t)) s).var.K=false:=by
 have all:∀x∈kjl (ql t),¬x.2.V=4->x.2.var.K=false:=by
  intro x d k;unfold kjl at d;simp only[rV,rM]at d;obtain⟨q,f,d⟩|⟨q,f,d⟩|⟨q,f,d⟩|⟨q,f,d⟩|⟨q,f,d⟩:=d
  ·unfold vwa at d;rw[Qq]at d;subst d;rfl
  ·unfold vxm at d;rw[tZ,tY]at d;obtain rfl|⟨y,l,rfl⟩:=d<;>rfl
  ·grind [vxd]
  ·unfold vxc at d;rw[Qq]at d;subst d;rfl
  ·unfold vxb at d;rw[Qq]at d;subst d;rfl
 rw[kz0]at h |-;obtain⟨e,_⟩|⟨j,i,g1,g,e⟩:=kz1 (kjl<|ql t) s
 ·rw[e];rfl
 grind
theorem jv3(h:NamesFine t)(f:¬zx (uy t) a9<0):(zl (qm (ql t)) a9).V=2:=by
 have⟨hi,g⟩:=kwu (by omega:0<=zx (uy t) a9);have d:(zx (uy t) a9).toNat<t.p.length:=by simpa[uy] using hi
 have e:(t.p[(zx (uy t) a9).toNat]).y.x.toList=a9:=by grind [uy]
 have:=zy9 h<|zks (wZ d);simp_all
def kk0(v:VT):ByteArray:=if v.b==1 then kvj else if v.b==2 then kwn else if v.b==3 then qje++v.y else if v.b==4 then qqg++v.y else if v.b==5 then vjy else kjx
def zqd(v:VT):Prop:=((v.b=0\/v.b=1\/v.b=2\/v.b=5)/\v.y=⟨#[]⟩)\/((v.b=3\/v.b=4)/\0<v.y.size)
theorem jzu(a b:ByteArray):(a++b).toList=a.toList++b.toList:=by grind [yj,ByteArray.data_append]
theorem xv7:kvj.toList=nY:=jh _
theorem xzg:kwn.toList=nC:=jh _
theorem xwb:vjy.toList=mG:=jh _
theorem xv8:kjx.toList=[]:=jh _
theorem xwm(n:ByteArray):(qje++n).toList=[107,105,110,100,32]++n.toList:=by rw[jzu];rw[show qje.toList=[107,105,110,100,32] from jh _]
theorem xy9(n:ByteArray):(qqg++n).toList=[115,101,116,32]++n.toList:=by rw[jzu];rw[show qqg.toList=[115,101,116,32] from jh _]
def vtL(v:VT):List UInt8:=if v.b==1 then nY else if v.b==2 then nC else if v.b==3 then [107,105,110,100,32]++v.y.toList else if v.b==4 then [115,101,116,32]++v.y.toList else if v.b==5 then mG else []
theorem kxx(v:VT):(kk0 v).toList=vtL v:=by grind [kk0,vtL,xv7,xzg,xwm,xy9,xwb,xv8]
theorem pkp(d:zqd a)(hb:zqd g3):(vtL a==vtL g3)=(a.b==g3.b&&a.y.toList==g3.y.toList):=by have⟨e,g⟩:=a;have⟨fb,nb⟩:=g3;have e0:(ByteArray.mk #[]).toList=[]:=jh _;obtain⟨rfl|rfl|rfl|rfl,rfl⟩|⟨rfl|rfl,h1⟩:=d<;>obtain⟨rfl|rfl|rfl|rfl,rfl⟩|⟨rfl|rfl,f⟩:=hb<;>simp[vtL,e0]
theorem zki(h:zqd g3):kx3 (kk0 g3)=(g3.b==4):=by
 have⟨f,n⟩:=g3;have ex:∀s:ByteArray,(s.extract 0 4).toList=s.toList.take 4:=(by grind [yj,ByteArray.data_extract,Array.toList_extract]);unfold kx3;rw[ex,kxx];have sz:(kk0 ⟨f,n⟩).size=(vtL ⟨f,n⟩).length:=by rw[<-kxx,yj];simp
 rw[sz];obtain⟨rfl|rfl|rfl|rfl,rfl⟩|⟨rfl|rfl,h1⟩:=h
 ·rfl
 ·rfl
 ·rfl
 ·rfl
 ·simp[vtL]
 simp_all [yj,vtL]
theorem zq9(d:zqd a)(hb:zqd g3):zj3 (kk0 a) (kk0 g3)=kwx a g3:=by
 unfold zj3 kwx;rw[kxx,kxx,pkp d hb];congr 1
 ·congr 1
  have⟨e,f⟩:=a;obtain⟨rfl|rfl|rfl|rfl,rfl⟩|⟨rfl|rfl,h1⟩:=d<;>simp[vtL]
 grind [vtL]
theorem qyc(d:zqd a):((kk0 a).toList==nY)=(a.b==1):=by grind [kxx,vtL]
theorem vkm(d:zqd a):((kk0 a).toList==nC)=(a.b==2):=by grind [kxx,vtL]
theorem vqd(d:zqd a):((kk0 a).toList==mG)=(a.b==5):=by grind [kxx,vtL]
theorem pja(d:zqd a):(kk0 a).toList.isEmpty=(a.b==0):=by rw[kxx];have⟨e,f⟩:=a;obtain⟨rfl|rfl|rfl|rfl,rfl⟩|⟨rfl|rfl,h1⟩:=d<;>simp[vtL]
theorem zyd(f:Int)(d:f=1\/f=2)(c:Bool):zqd (kjc f c):=by
 unfold kjc;cases c
 ·exact .inl ⟨.inl rfl,rfl⟩
 ·obtain rfl|rfl:=d
  ·exact .inl ⟨.inr<|.inl rfl,rfl⟩
  ·exact .inl ⟨.inr<|.inr (.inl rfl),rfl⟩
theorem zyn(c:Bool):kk0 (kjc 1 c)=if c then kvj else kjx:=by cases c<;>rfl
theorem vkh(c:Bool):kk0 (kjc 2 c)=if c then kwn else kjx:=by cases c<;>rfl
structure TreeTxt (t:PTree):Prop where
 p:∀k∈t.p,0<k.y.x.size
 z:∀v∈t.z,zxr v/\((v.k.t.toList==mX)=true->0<v.k.x.size)/\((v.g.t.toList==mX)=true->0<v.g.x.size)
theorem jq9(h:NamesFine t)(q:TreeTxt t)(hv:v∈t.z):kj2 t v=kk0 (kqm (qm (ql t)) (jw v).si)/\zqd (kqm (qm (ql t)) (jw v).si):=by
 have⟨⟨_,p⟩,k,_⟩:=q.z v hv;obtain h1|h1|h1:=p
 ·have⟨a,b,c⟩:=h1;unfold kj2 jw kqm;simp only;rw[a,b];exact⟨rfl,.inl ⟨.inr<|.inl rfl,rfl⟩⟩
 ·have⟨a,b,c,d⟩:=h1;unfold kj2 jw kqm;simp only;rw[a,b];exact⟨rfl,.inl ⟨.inr<|.inr (.inl rfl),rfl⟩⟩
 ·have⟨a,c⟩:=h1;have j:(v.k.t.toList==mX)=true:=by simp_all
  have g:=k j;have e:(jw v).si=⟨2,zh,v.k⟩:=by unfold jw;simp_all
  rw[e];have l:kj2 t v=if 0<=zx (uy t) v.k.x.toList then qje++v.k.x else qqg++v.k.x:=by unfold kj2;simp_all
  have m:kqm (qm<|ql t) ⟨2,zh,v.k⟩=if (zl (qm<|ql t) v.k.x.toList).V==1 then ⟨4,v.k.x⟩ else ⟨3,v.k.x⟩:=rfl
  rw[l,m];by_cases f:zx (uy t) v.k.x.toList<0
  ·have i:¬zx (ug t) v.k.x.toList<0:=λi=>h.k v hv j i f
   rw[Xy aj,(qz0 t).2 i];exact⟨rfl,.inr ⟨.inr rfl,g⟩⟩
  ·rw[lJ aj,jv3 h f];exact⟨rfl,.inr ⟨.inl rfl,g⟩⟩
theorem pj5:∀(l:List PP)(s:List UInt8),0<=zx (pq l) s->l.getD (zx (pq l) s).toNat ⟨zh,zh⟩=fpP l s
 |[],s,h=>by simp[pq,zx]at h
 |p::l,s,h=>by
  have e:zx (pq (p::l)) s=if p.y.x.toList==s then 0 else if zx (pq l) s<0 then -1 else zx (pq l) s+1:=rfl
  rw[e]at h |-;rw[fpP];by_cases d:(p.y.x.toList==s)=true
  ·simp_all
  ·rw[Xy d]at h |-;rw[Xy d];by_cases g:zx (pq l) s<0
   ·omega
   ·rw[Xy g];have f:(zx (pq l) s+1).toNat=(zx (pq l) s).toNat+1:=aj;rw[f,List.getD_cons_succ];exact pj5 l s aj
theorem pj6:∀(l:List PP)(s:List UInt8),fpB l s=true->fpP l s∈l
 |[],s,h=>ig
 |p::l,s,h=>by
  rw[fpP];by_cases d:(p.y.x.toList==s)=true
  ·simp_all
  ·rw[Xy d];refine jB<|pj6 l s ?_;grind [fpB]
theorem jzg(h:NamesFine t)(m:TreeTxt t)(u:∀p∈l,0<p.Q.x.size)(n:Tok):kxb t l n.x.toList=kk0 (kjf (qm (ql t)) l n)/\zqd (kjf (qm (ql t)) l n):=by
 have d:kxb t l n.x.toList=if 0<=zx (pq l) n.x.toList then qqg++(l.getD (zx (pq l) n.x.toList).toNat ⟨zh,zh⟩).Q.x
  else if 0<=(kjj t.p n.x.toList).1 then qje++(t.p.getD (kjj t.p n.x.toList).1.toNat ⟨zh,[]⟩).y.x
  else if 0<=zx (zf t) n.x.toList then
   (if (t.z.getD (zx (zf t) n.x.toList).toNat ⟨zh,zh,zh,zh⟩).g.t.toList==mX then kjx else kj2 t (t.z.getD (zx (zf t) n.x.toList).toNat ⟨zh,zh,zh,zh⟩))
  else kjx:=rfl
 have es:kjf (qm<|ql t) l n=if fpB l n.x.toList then ⟨4,(fpP l n.x.toList).Q.x⟩
  else if (zl (qm<|ql t) n.x.toList).V==3 then ⟨3,(zl (qm<|ql t) n.x.toList).t⟩
  else if (zl (qm<|ql t) n.x.toList).V==4&&!(zl (qm<|ql t) n.x.toList).var.K then kqm (qm<|ql t) (zl (qm<|ql t) n.x.toList).var.si else zqg:=rfl
 by_cases i:fpB l n.x.toList=true
 ·have g:0<=zx (pq l) n.x.toList:=by grind [zza]
  rw[lJ g,pj5 l _ g]at d;rw[lJ i]at es;rw[d,es];exact⟨rfl,.inr ⟨.inr rfl,u _<|pj6 l _ i⟩⟩
 ·have g:¬0<=zx (pq l) n.x.toList:=by simp_all [zza]
  rw[Xy g]at d;rw[Xy i]at es;have⟨q,v⟩:=jjy h n.x.toList;by_cases f:0<=(kjj t.p n.x.toList).1
  ·rw[lJ f]at d;rw[lJ (by rw[su];exact q.2 f),v f]at es;rw[d,es];have⟨hi,_⟩:=zx6 f;refine⟨rfl,.inr ⟨.inl rfl,?_⟩⟩;simp only;rw[getD_at hi];exact m.p _<|wZ hi
  ·rw[Xy f]at d;rw[Xy (by rw[su];exact λe=>f<|q.1 e)]at es;have⟨s,w⟩:=qwo h n.x.toList;by_cases hv:0<=zx (zf t) n.x.toList
   ·have⟨hi,e⟩:=w hv;have k:=(m.z _<|wZ hi).1;rw[lJ hv,getD_at hi]at d;rw[s.2 hv,e,jw2 k]at es;cases j:(t.z[(zx (zf t) n.x.toList).toNat].g.t.toList==mX)
    ·grind [jq9]
    ·rw[j,lJ rfl]at d;rw[j,Xy ak]at es;rw[d,es];exact⟨rfl,.inl ⟨.inl rfl,rfl⟩⟩
   ·rw[Xy hv]at d;rw[Xy (by rw[rG,su];exact λe=>hv<|s.1 e.1)]at es;rw[d,es];exact⟨rfl,.inl ⟨.inl rfl,rfl⟩⟩
theorem vvt(h:NamesFine t)(g:TreeTxt t)(q:∀p∈l,0<p.Q.x.size)(hi:g4.c=zh\/(g4.c.t.toList==mX)=true):kw2 t l g4=kk0 (kxj (qm<|ql t) l g4.y g4.c)/\zqd (kxj (qm<|ql t) l g4.y g4.c):=by
 unfold kw2 kxj;obtain hi|hi:=hi
 ·grind [dh,jzg]
 ·have i:(!(g4.c.t.toList==[]))=true:=by simp_all
  rw[lJ hi,lJ i];have⟨x,v⟩:=qwo h g4.y.x.toList;by_cases hv:zx (zf t) g4.y.x.toList<0
  ·rw[lJ hv,Xy]
   ·exact⟨rfl,.inl ⟨.inl rfl,rfl⟩⟩
   grind [jjw]
  ·rw[Xy hv];have⟨f,e⟩:=v aj;have⟨j,w,k⟩:=g.z _<|wZ f;rw[e,getD_at f,jw2 j];cases s:(t.z[(zx (zf t) g4.y.x.toList).toNat].g.t.toList==mX)
   ·exact⟨rfl,.inl ⟨.inl rfl,rfl⟩⟩
   ·rw[Xy ay,lJ rfl];have⟨a1,a2⟩:=jzg h g q g4.c;have d:(jw t.z[(zx (zf t) g4.y.x.toList).toNat]).g=t.z[(zx (zf t) g4.y.x.toList).toNat].g:=rfl;have u:((kxb t l g4.c.x.toList).toList==(qqg++t.z[(zx (zf t) g4.y.x.toList).toNat].g.x).toList)=qy5 (qm<|ql t) l g4.c t.z[(zx (zf t) g4.y.x.toList).toNat].g:=by rw[a1];have m:qqg++t.z[(zx (zf t) g4.y.x.toList).toNat].g.x=kk0 ⟨4,t.z[(zx (zf t) g4.y.x.toList).toNat].g.x⟩:=rfl;rw[m,kxx,kxx,pkp a2 (.inr ⟨.inr rfl,k s⟩)];rfl
    rw[u,d];cases qy5 (qm<|ql t) l g4.c t.z[(zx (zf t) g4.y.x.toList).toNat].g
    ·exact⟨rfl,.inl ⟨.inl rfl,rfl⟩⟩
    ·exact jq9 h g (wZ f)
def qj4:PX->Prop
 |.nil=>True
 |.node _ _ x a c=>((5<=opN x.op.toList->isNil a=false)/\(6<=opN x.op.toList->isNil c=false))/\qj4 a/\qj4 c
def gy(tab:Tab)(l:List PP):PX->VT
 |.nil=>zqg
 |.node _ _ x a c=>
  if (opN x.op.toList==0||opN x.op.toList==1) then ⟨1,⟨#[]⟩⟩ else if opN x.op.toList==3 then ⟨2,⟨#[]⟩⟩ else if opN x.op.toList==2 then ⟨5,⟨#[]⟩⟩
  else if opN x.op.toList==4 then kxj tab l x.y x.c else if opN x.op.toList==5 then kjc 1 ((gy tab l a).b==1) else zji (opN x.op.toList) (gy tab l a) (gy tab l c)
def jwd(tab:Tab)(l:List PP)(p v:PX):Bool:=((zl tab (qj9 p).toList).V==4)&&(kwx (gy tab l p) (gy tab l v)||((gy tab l p).b==4&&(gy tab l v).b==5))
def kkj(tab:Tab)(l:List PP):PB->Bool
 |.nil=>true
 |.node _ _ a .nil n=>jwd tab l a.N a.value&&kkj tab l n
 |.node _ _ a (.node _ _ _ t e) n=>(((gy tab l a.A).b==1&&kkj tab l t)&&kkj tab l e)&&kkj tab l n
def qzh:PB->Prop
 |.nil=>True
 |.node _ _ a .nil n=>(qj4 a.value/\isNil a.value=false/\∃x,a.N=.node 0 0 x .nil .nil/\x.op.toList=ng)/\qzh n
 |.node _ _ a (.node _ _ _ t e) n=>(qj4 a.A/\isNil a.A=false)/\qzh t/\qzh e/\qzh n
def zql(tab:Tab)(r:PRule):Bool:=(gy tab r.u r.guard).b==1&&kkj tab r.u r.S
def vw6(tab:Tab)(r:PRule):Bool:=(gy tab r.u r.guard).b==1
def qqf(tab:Tab)(m:MdL):Bool:=m.l.all (zql tab)&&m.q.all (vw6 tab)
theorem qjz(h:a9∈qyq):a9=[124]\/a9=[38]\/a9=[61,61]\/a9=[33,61]\/a9=[60]\/a9=[43]\/a9=[45]:=by unfold qyq at h;simp_all
theorem kx9.xv:∀{x:PX},kx9 x->qj4 x
 |.nil,h=>trivial
 |.node _ _ x a c,h=>by
  obtain⟨h1,rfl,rfl⟩|⟨h1,e,rfl⟩|⟨h1,e,f⟩:=h
  ·refine⟨⟨λd=>?_,λd=>?_⟩,trivial,trivial⟩<;>(exfalso;obtain(h1|h1|h1)|⟨h1,_⟩|⟨h1,_⟩:=h1<;>rw[h1]at d<;>revert d<;>decide)
  ·refine⟨⟨λ_=>e.some,λd=>?_⟩,e.xv,trivial⟩;exfalso;rw[h1]at d;revert d;decide
  ·exact⟨⟨λ_=>e.some,λ_=>f.some⟩,e.xv,f.xv⟩
theorem kvi(h:NamesFine t)(s:TreeTxt t)(q:∀p∈l,0<p.Q.x.size):∀{x:PX},kx9 x->kq5 t l x=kk0 (gy (qm (ql t)) l x)/\zqd (gy (qm (ql t)) l x)
 |.nil,hw=>hw.elim
 |.node i j x a c,hw=>by
  obtain⟨h1,rfl,rfl⟩|⟨h1,y,rfl⟩|⟨h1,y,E⟩:=hw
  ·rw[kyc,gy];obtain(h1|h1|h1)|⟨h1,_⟩|⟨h1,L,H⟩:=h1
   ·rw[h1];exact⟨rfl,.inl ⟨.inr<|.inl rfl,rfl⟩⟩
   ·rw[h1];exact⟨rfl,.inl ⟨.inr<|.inl rfl,rfl⟩⟩
   ·rw[h1];exact⟨rfl,.inl ⟨.inr<|.inr (.inr rfl),rfl⟩⟩
   ·rw[h1];exact⟨rfl,.inl ⟨.inr<|.inr (.inl rfl),rfl⟩⟩
   ·rw[h1];exact vvt h s q H
  ·have⟨e,ok⟩:=kvi h s q y;have z:kq5 t l (.node i j x a .nil)=opT x.op (kq5 t l a) (kq5 t l a):=by rw[kyc,h1];rfl
   have J:gy (qm<|ql t) l (.node i j x a .nil)=kjc 1 ((gy (qm<|ql t) l a).b==1):=by rw[gy,h1];rfl
   have e3:∀A C:ByteArray,opT x.op A C=if zj3 A C&&(A.toList==nY) then kvj else kjx:=λA C=>by unfold opT;simp_all
   grind [zyd,zyn,zq9,qyc,kwx]
  ·have⟨G,v⟩:=kvi h s q y;have⟨ec,w⟩:=kvi h s q E;have hn:isNil c=false:=E.some;have sm:∀f:Int,(f=1\/f=2)->(kwx (gy (qm<|ql t) l a) (gy (qm<|ql t) l c)&&((gy (qm<|ql t) l a).b==f))=((gy (qm<|ql t) l a).b==f&&(gy (qm<|ql t) l c).b==f):=by intro f I;generalize gy (qm<|ql t) l a=A at v;generalize gy (qm<|ql t) l c=C at w;have⟨K,M⟩:=A;have⟨fc,N⟩:=C;have e0:(ByteArray.mk #[]).toList=[]:=jh _;obtain rfl|rfl:=I<;>obtain⟨rfl|rfl|rfl|rfl,rfl⟩|⟨rfl|rfl,g1⟩:=v<;>obtain⟨rfl|rfl|rfl|rfl,rfl⟩|⟨rfl|rfl,D⟩:=w<;>simp[kwx,e0]
   have u:(zj3 (kk0<|gy (qm<|ql t) l a) (kk0<|gy (qm<|ql t) l c)||(((kk0<|gy (qm<|ql t) l a).toList==mG)&&kx3 (kk0<|gy (qm<|ql t) l c))||(((kk0<|gy (qm<|ql t) l c).toList==mG)&&kx3 (kk0<|gy (qm<|ql t) l a)))=zvq (gy (qm<|ql t) l a) (gy (qm<|ql t) l c):=by grind [zq9,vqd,zki,zvq]
   have k:(zj3 (kk0<|gy (qm<|ql t) l a) (kk0<|gy (qm<|ql t) l c)&&((kk0<|gy (qm<|ql t) l a).toList==nY))=((gy (qm<|ql t) l a).b==1&&(gy (qm<|ql t) l c).b==1):=by simp_all [zq9,qyc]
   have d:(zj3 (kk0<|gy (qm<|ql t) l a) (kk0<|gy (qm<|ql t) l c)&&((kk0<|gy (qm<|ql t) l a).toList==nC))=((gy (qm<|ql t) l a).b==2&&(gy (qm<|ql t) l c).b==2):=by simp_all [zq9,vkm]
   have z:kq5 t l (.node i j x a c)=opT x.op (kq5 t l a) (kq5 t l c):=by rw[kyc,hn];obtain o|o|o|o|o|o|o:=qjz h1<;>rw[o]<;>rfl
   rw[z,G,ec];have m:∀(b:Bool)(B:VT),gy (qm<|ql t) l (.node i j x a c)=kjc 1 b->opT x.op (kk0<|gy (qm<|ql t) l a) (kk0<|gy (qm<|ql t) l c)=(if b then kvj else kjx)->opT x.op (kk0<|gy (qm<|ql t) l a) (kk0<|gy (qm<|ql t) l c)=kk0 (gy (qm<|ql t) l<|.node i j x a c)/\zqd (gy (qm<|ql t) l<|.node i j x a c):=λb B g1 D=>by grind [zyn,zyd]
   have F:∀(b:Bool)(B:VT),gy (qm<|ql t) l (.node i j x a c)=kjc 2 b->opT x.op (kk0<|gy (qm<|ql t) l a) (kk0<|gy (qm<|ql t) l c)=(if b then kwn else kjx)->opT x.op (kk0<|gy (qm<|ql t) l a) (kk0<|gy (qm<|ql t) l c)=kk0 (gy (qm<|ql t) l<|.node i j x a c)/\zqd (gy (qm<|ql t) l<|.node i j x a c):=λb B g1 D=>by grind [vkh,zyd]
   have g:gy (qm<|ql t) l (.node i j x a c)=zji (opN x.op.toList) (gy (qm<|ql t) l a) (gy (qm<|ql t) l c):=by rw[gy];obtain o|o|o|o|o|o|o:=qjz h1<;>rw[o]<;>rfl
   obtain o|o|o|o|o|o|o:=qjz h1
   ·exact m _ zqg lK (by rw[<-k];unfold opT;simp_all)
   ·exact m _ zqg lK (by rw[<-k];unfold opT;simp_all)
   ·exact m _ zqg lK (by rw[<-u];unfold opT;simp_all)
   ·exact m _ zqg lK (by rw[<-u];unfold opT;simp_all)
   ·exact m _ zqg lK lU
   ·exact F _ zqg lK lU
   ·exact F _ zqg lK lU
theorem zzg(tab:Tab)(x:SiT):¬(kqm tab x).b=5:=by unfold kqm;grind
theorem pz7:¬(kjf tab l n).b=5:=by
 unfold kjf;split
 ·simp
 ·split
  ·simp
  ·split
   ·exact zzg _ _
   ·decide
theorem pv6:¬(kxj tab l n i).b=5:=by
 unfold kxj;split
 ·split
  ·split
   ·exact zzg _ _
   ·decide
  ·decide
 ·exact pz7
theorem pzu(h:p=.node 0 0 g4 .nil .nil)(d:g4.op.toList=ng):¬(gy tab l p).b=5:=by rw[h,gy,d];exact pv6
theorem pxm(h:NamesFine t)(i:TreeTxt t)(g:∀p∈l,0<p.Q.x.size)(k:kx9 p)(m:¬(gy (qm (ql t)) l p).b=5)(hv:kx9 g7):qkh (zx (zf t) (qj9 p).toList) (kq5 t l p) (kq5 t l g7)=jwd (qm (ql t)) l p g7:=by
 have⟨j,d⟩:=kvi h i g k;have⟨ec,f⟩:=kvi h i g hv;rw[j,ec];unfold qkh jwd;have e:((zl (qm<|ql t) (qj9 p).toList).V==4)=!decide (zx (zf t) (qj9 p).toList<0):=by grind [qwo]
 rw[e,pja d,vqd f,zki d,kxx,kxx,pkp d f];grind [kwx]
theorem qxl(h:NamesFine t)(f:TreeTxt t)(d:∀p∈l,0<p.Q.x.size):∀{b:PB},kkz b->kzi t l b=kkj (qm (ql t)) l b
 |.nil,_=>rfl
 |.node _ _ a .nil n,⟨h1,h2,_,h4⟩=>by
  have⟨m,x,i,g⟩:=h1;rw[kzi,kkj,pxm h f d m (pzu i g) h2,qxl h f d h4]
 |.node _ _ a (.node _ _ _ t e) n,⟨h1,_,_,h4,h5,h6⟩=>by have⟨k,j⟩:=kvi h f d h1;rw[kzi,kkj,k,qyc j,qxl h f d h4.1,qxl h f d h5.1,qxl h f d h6]
def qw8(t:PTree):Bool:=(t.l++t.q).all (λr=>((kq5 t r.u r.guard).toList==nY)&&kzi t r.u r.S)
theorem vkb(h:NamesFine t)(k:TreeTxt t)(j:∀r∈t.l++t.q,∀p∈r.u,0<p.Q.x.size)(s:∀r∈t.l,kvw r)(hn:∀r∈t.q,kvw r/\r.S=.nil):qqf (qm (ql t)) (ql t)=qw8 t:=by
 unfold qqf qw8;rw[List.all_append];have one:∀r∈t.l++t.q,kvw r->(((kq5 t r.u r.guard).toList==nY)&&kzi t r.u r.S)=zql (qm<|ql t) r:=λr d i=>by have⟨q,m⟩:=kvi h k (j r d) i.1;rw[q,qyc m,qxl h k (j r d) i.2.1];rfl
 have e:∀(l:List PRule)(f g:PRule->Bool),(∀r∈l,f r=g r)->l.all f=l.all g:=by grind
 congr 1
 ·exact e _ _ _ λr d=>(one r (jU d)<|s r d).symm
 ·refine e _ _ _ λr d=>?_
  rw[one r (jP d) (hn r d).1];unfold zql vw6;rw[(hn r d).2,kkj,Jh]
theorem qks{a:Addr}(h:a.block≠b)(d:w.cell? a=some x0):((w.setCell (Ad b 0) x1).setCell (Ad b 1) y).cell? a=some x0:=by refine(Jk (w:=w) ?_).trans d;rw[jN h,jN h]
theorem jxb(f:Int)(s:ByteArray)(w:World):(Instr.field 362 (.agg #[i_ f,.string s]) 0).run prog w=.ok (i_ f) w:=au
theorem pzm(o:List UInt8):0<=opN o/\opN o<=13:=by unfold opN;repeat (first|(split;· omega)|omega)
def zqz(x:PX):Prop:=∀(w:World)(b lo xo:Nat)(tab:Tab)(l:List PP)(pa:Option Addr)(pn pc:Nat)(v:Value),kj5 w b tab->zj4 tab->w.ownsRow lo 352 4 (.slice pa pn pc) l.length (uq l)->l.length<=1000 ->
  XIs xo w x v->qj4 x->isNil x=false->(∀y∈bf x,y.x.size<=1000) ->
  Calls prog 217 #[tyV b (.slice pa pn pc),v] w λe w'=>rT e (vtV<|gy tab l x)/\oq w w'
theorem vkf(i j:Nat)(x:ELab){a:PX}(aX:zqz a)(aY:zqz c):zqz (.node i j x a c):=by
 intro w b lo xo tab l pa pn pc v ht U ho hl hX hF _ Z;obtain⟨k,va,vb,rfl,hk,hh,ha,hb⟩:=hX;obtain⟨p1,rfl⟩:=ha.ptr;obtain⟨p2,rfl⟩:=hb.ptr;have aC:∀y∈bf a,y.x.size<=1000:=λy X=>Z y (by rw[bf];simp[X])
 have aD:∀y∈bf c,y.x.size<=1000:=λy X=>Z y (by rw[bf];simp[X])
 have aE:∀y∈qw1 x,y.x.size<=1000:=λy X=>Z y (by rw[bf];simp[X])
 have D:=zkc x.op.toList;have aV:=pzm x.op.toList;have⟨W,G⟩:=cpy<|(w.alloc<|.cells #[.map (some b),.slice pa pn pc] 301).alloc (.cells #[i_ 0,e_] 362);have t:oq w W:=by rw[G];exact kxw w
 have T:W.heap.size=w.heap.size+2:=by rw[G];simp
 have HT:Hid (W.heap[w.heap.size]?=some (.cells #[.map (some b),.slice pa pn pc] 301 (0,0))):=by rw[G];exact zy<|qy
 have A:Hid (W.heap[w.heap.size+1]?=some (.cells #[i_ 0,e_] 362 (0,0))):=by rw[G];have:=qy (w:=w.alloc<|.cells #[.map (some b),.slice pa pn pc] 301) (o:=.cells #[i_ 0,e_] 362);simp only[tV]at this;exact this
 have aT:=wQ hh;have HX:=oz<|(t.block k aT).trans hh;unfold kyu at HX;have E:=oz (show gy tab l (.node i j x a c)=if (opN x.op.toList==0||opN x.op.toList==1) then ⟨1,⟨#[]⟩⟩ else if opN x.op.toList==3 then ⟨2,⟨#[]⟩⟩ else if opN x.op.toList==2 then ⟨5,⟨#[]⟩⟩
  else if opN x.op.toList==4 then kxj tab l x.y x.c else if opN x.op.toList==5 then kjc 1 ((gy tab l a).b==1) else zji (opN x.op.toList) (gy tab l a) (gy tab l c) from rfl)
 have m:oq w W.drew:=t.drew;have⟨aL,HA,HC⟩:=jF (λe:qw1 x=kzu x.y x.c=>jq0 x.y x.c (ht.kept m) U (qj ho m) hl (by rw[<-e];exact aE)) (λe:isNil a=false=>aX W.drew b lo xo tab l pa pn pc _ (ht.kept m) U (qj ho m) hl (ha.below m) hF.2.1 e aC) (λ(e:isNil c=false)(z:World)(h1:oq w z)=>aY z b lo xo tab l pa pn pc _ (ht.kept h1) U (qj ho h1) hl (hb.below h1) hF.2.2 e aD);have K:=hF.1;have⟨⟨q0,q1,q2,q3,q4,q5,q6,q7,q8⟩,_⟩:=kki HX;have⟨t0,t1,_⟩:=kj6 HT;have r0:=kj6 A;have aP:=oz G.symm;have R:w.heap.size<W.heap.size:=aj;have u:w.heap.size+1<W.heap.size:=aj;have S:k<W.heap.size:=aj;have Q:((Ad k 0):Addr).block≠w.heap.size+1:=by show k≠_;omega
 have aG:((Ad w.heap.size 0):Addr).block≠w.heap.size+1:=by show w.heap.size≠_;omega
 generalize gy tab l (.node i j x a c)=fin at *;clear G hh Z aC aD aE;unfold tyV pl5 vtV at *;generalize (!(x.c.t.toList==[]))=d at *;go_in;generalize opN x.op.toList=o at *;go_upto_region 1 with fail
 rw[ku aP];cases Y:(o==0)
 case true=>
  rw[Y]at E;go_wp2;refine kx0 results217 underlying362 (set2 A) ?_;exact⟨jJ,(t.setCell (by omega:w.heap.size<=w.heap.size+1) _).setCell (by omega:w.heap.size<=w.heap.size+1) _⟩
 case false=>
 cases h1:(o==1)
 case true=>
  rw[Y,h1]at E;go_wp2;refine kx0 results217 underlying362 (set2 A) ?_;exact⟨jJ,(t.setCell (by omega:w.heap.size<=w.heap.size+1) _).setCell (by omega:w.heap.size<=w.heap.size+1) _⟩
 case false=>
 rw[Y,h1]at E;cases h3:(o==3)
 case true=>
  rw[h3]at E;go_wp2;refine kx0 results217 underlying362 (set2 A) ?_;exact⟨jJ,(t.setCell (by omega:w.heap.size<=w.heap.size+1) _).setCell (by omega:w.heap.size<=w.heap.size+1) _⟩
 case false=>
 rw[h3]at E;cases h2:(o==2)
 case true=>
  rw[h2]at E;go_wp2;refine kx0 results217 underlying362 (set2 A) ?_;exact⟨jJ,(t.setCell (by omega:w.heap.size<=w.heap.size+1) _).setCell (by omega:w.heap.size<=w.heap.size+1) _⟩
 case false=>
 rw[h2]at E;cases h4:(o==4)
 case true=>
  rw[h4]at E D;have aI:=aL (by unfold qw1;rw[<-D];rfl);clear D;go_upto_region 10 with fail
  go_region_law ((go_simp;go_at_call 244;refine zM aI λz f=>?_;have g:=(f.block (w.heap.size+1)<|by simpa using u).trans A;have s0:=kj6 g;have B:=oz g;have q:=t.drew.trans (f.mono (by have:=T;simp;omega));clear g;dsimp only))
  all_goals
   go_wp2;refine kx0 results217 underlying362 (set2 B) ?_;exact⟨jJ,(q.setCell (by omega:w.heap.size<=w.heap.size+1) _).setCell (by omega:w.heap.size<=w.heap.size+1) _⟩
 case false=>
 rw[h4]at E;have a5:¬o=0:=by simpa using Y
 have a6:¬o=1:=by simpa using h1
 have a9:¬o=2:=by simpa using h2
 have aA:¬o=3:=by simpa using h3
 have aB:¬o=4:=by simpa using h4
 have H:=HA<|K.1 aj;clear D;cases h5:(o==5)
 case true=>
  rw[h5]at E;have aZ:=jxb (gy tab l a).b (gy tab l a).y;generalize gy tab l a=ta at *;clear a5 a6 a9 aA aB;go_upto_region 12 with fail
  go_region_law (first|(go_simp;go_at_call 217;refine zM H λz f=>?_;have p:=f.size;have g:=(f.block (w.heap.size+1)<|by simpa using u).trans A;have B:=oz g;have q:=t.drew.trans (f.mono (by have:=T;simp;omega));clear g;dsimp only)|(go_simp;go_at_call 245;refine zM (zkt _ _ _) λw2 h=>?_;have s:=(h.block (w.heap.size+1) (by simp at p;omega)).trans B;have s0:=kj6 s;have J:=oz s;have I:=q.trans (h.mono (by simp at p;omega));clear s;dsimp only[vtV]))
  all_goals
   go_wp2;refine kx0 results217 underlying362 (set2 J) ?_;exact⟨jJ,(I.setCell (by omega:w.heap.size<=w.heap.size+1) _).setCell (by omega:w.heap.size<=w.heap.size+1) _⟩
 case false=>
 rw[h5]at E;have aU:¬o=5:=by simpa using h5
 have aK:=oz<|HC (K.2 aj);generalize gy tab l a=ta at *;generalize gy tab l c=tc at *;clear a5 a6 a9 aA aB aU aV K;go_upto_region 13 with fail
 go_region_held3 (λw'=>w'.cell? (Ad k 0)=some (i_ o)/\w'.cell? (Ad k 7)=some (.pointer p1)/\w'.cell? (Ad k 8)=some (.pointer p2)/\w'.cell? (Ad w.heap.size 0)=some (.map<|some b)/\w'.cell? (Ad w.heap.size 1)=some (.slice pa pn pc))
  (first|exact⟨q0,q7,q8,t0,t1⟩|exact⟨a0,a7,a8,b0,b1⟩|exact⟨c0,c7,c8,d0,d1⟩|exact⟨e0,e7,e8,f0,f1⟩|exact⟨qks Q e0,qks (a:=⟨k,7,none⟩) Q e7,qks (a:=⟨k,8,none⟩) Q e8,qks aG f0,qks (a:=⟨w.heap.size,1,none⟩) aG f1⟩)
  (first
  |(go_at_call 217;refine zM H λz f=>?_;have p:=f.size;have O:=(f.block k<|by simpa using S).trans HX;have M:=(f.block w.heap.size<|by simpa using R).trans HT;have g:=(f.block (w.heap.size+1)<|by simpa using u).trans A;have⟨⟨a0,_,_,_,_,_,_,a7,a8⟩,_⟩:=kki O;have⟨b0,b1,_⟩:=kj6 M;have⟨aQ,aN,B,q⟩:=jE O M g (t.drew.trans<|f.mono (by have:=T;simp;omega));have a1:=oz<|aK z q;have aH:w.heap.size+1<z.heap.size:=sV u p;have a4:k<z.heap.size:=sV S p;have V:w.heap.size<z.heap.size:=sV R p;clear f O M g p H)
  |(go_at_call 217;refine zM a1 λw2 h=>?_;have F:=h.size;have P:=(h.block k a4).trans aQ;have N:=(h.block w.heap.size V).trans aN;have s:=(h.block (w.heap.size+1) aH).trans B;have⟨⟨c0,_,_,_,_,_,_,c7,c8⟩,_⟩:=kki P;have⟨d0,d1,_⟩:=kj6 N;have⟨aR,aO,J,I⟩:=jE P N s (q.trans (h.mono<|Qr V));have aW:w.heap.size+1<w2.heap.size:=sV aH F;have aS:k<w2.heap.size:=sV a4 F;have aF:w.heap.size<w2.heap.size:=sV V F;clear h P N s F a1)
  |(go_at_call 246;refine zM (vy7 o ta tc) λw3 C=>?_;have a3:=(C.block k aS).trans aR;have a2:=(C.block w.heap.size aF).trans aO;have L:=(C.block (w.heap.size+1) aW).trans J;have⟨⟨e0,_,_,_,_,_,_,e7,e8⟩,_⟩:=kki a3;have⟨f0,f1,_⟩:=kj6 a2;have⟨s0,s1,s2,s3⟩:=kj6 L;have⟨aM,aJ⟩:=jS L (I.trans (C.mono<|Qr aF));clear C L a3 a2;dsimp only[vtV]))
 all_goals
  go_wp2;refine kx0 results217 underlying362 (set2 aM) ?_;exact⟨jJ,(aJ.setCell (by omega:w.heap.size<=w.heap.size+1) _).setCell (by omega:w.heap.size<=w.heap.size+1) _⟩
theorem qyb:∀x:PX,zqz x
 |.nil=>λw b lo xo tab l pa pn pc v _ _ _ _ _ _ h _=>ig
 |.node i j x a c=>vkf i j x (qyb a)<|qyb c
theorem qy1(q:kj5 w b tab)(g:zj4 tab)(k:w.ownsRow lo 352 4 (.slice pa pn pc) l.length (uq l))(j:l.length<=1000)(d:XIs so w g7 x0)(i:qj4 g7)(hn:isNil g7=false)(m:∀y∈bf g7,y.x.size<=1000):Calls prog 162 #[tyV b (.slice pa pn pc),x0] w λe w'=>rT e (.bool<|(gy tab l g7).b==1)/\oq w w':=by have h:=qyb g7 (w.alloc<|.cells #[.map (some b),.slice pa pn pc] 301) b lo so tab l pa pn pc x0 (q.kept<|jZ _) g (k.alloc _) j (d.below<|jZ _) i hn m;have s:=jxb (gy tab l g7).b (gy tab l g7).y;obtain⟨p,rfl⟩:=d.ptr;generalize gy tab l g7=ty at *;unfold tyV vtV at *;go_in;go_wp21;refine zM h λt f=>?_;go_wp2;go_ret;exact⟨rfl,((jZ w (o:=.cells #[.map (some b),.slice pa pn pc] 301)).trans<|f.mono ay)⟩
def qv1(b:PB):Prop:=∀(w:World)(bb lo so:Nat)(no:Option Nat)(tab:Tab)(l:List PP)(pa:Option Addr)(pn pc:Nat)(v:Value)(cs:List Value),kj5 w bb tab->zj4 tab->w.ownsRow lo 352 4 (.slice pa pn pc) l.length (uq l)->l.length<=1000 ->
  w.ownsRow so 334 9 v (kqq b) cs->BIs so no w b cs->ky6 b->qzh b->kqq b<=1000->(∀y∈je b,y.x.size<=1000) ->
  Calls prog 163 #[tyV bb (.slice pa pn pc),v] w λe w'=>rT e (.bool<|kkj tab l b)/\oq w w'
def smV(c:Bool)(n i:Tok)(p vt d:Value):Value:=.agg #[.bool c,.string n.x,i_ n.v,.bool (!(i.t.toList==[])),.string i.x,i_ i.v,p,vt,d]
theorem vv0(no:Option Nat)(n i:Tok)(t e:PB)(ta:Option Addr)(v tc:Nat)(s:Option Addr)(en ec:Nat)(F E:List Value)(hM:kj5 w bb tab)(p:zj4 tab)(I:w.ownsRow lo 352 4 (.slice pa pn pc) l.length (uq l))(H:l.length<=1000)(hx:XIs so w c (.pointer g8))(hF:qj4 c)(hn:isNil c=false)(U:∀y∈bf c,y.x.size<=1000)(hT:qv1 t)(V:w.ownsRow so 334 9 (.slice ta v tc) (kqq t) F)(X:BIs so no w t F)(Y:ky6 t)(Z:qzh t)(a0:kqq t<=1000)(D:∀y∈je t,y.x.size<=1000)(hE:qv1 e)(P:w.ownsRow so 334 9 (.slice s en ec) (kqq e) E)(Q:BIs so no w e E)(R:ky6 e)(S:qzh e)(T:kqq e<=1000)(C:∀y∈je e,y.x.size<=1000):Calls prog 218 #[tyV bb (.slice pa pn pc),smV true n i (.pointer g8) (.slice ta v tc) (.slice s en ec)] w λr w'=>rT r (.bool<|((gy tab l c).b==1&&kkj tab l t)&&kkj tab l e)/\oq w w':=by
 unfold smV;generalize (!(i.t.toList==[]))=d;have⟨W,u⟩:=cpy<|(w.alloc<|.cells #[.map (some bb),.slice pa pn pc] 301).alloc (.cells #[.bool true,.string n.x,i_ n.v,.bool d,.string i.x,i_ i.v,.pointer g8,.slice ta v tc,.slice s en ec] 334);have q:oq w W:=by rw[u];exact kxw w
 have a2:W.heap.size=w.heap.size+2:=by simp_all
 have z:W.heap[w.heap.size]?=some (.cells #[.map (some bb),.slice pa pn pc] 301 (0,0)):=by rw[u];exact zy<|qy
 have j:W.heap[w.heap.size+1]?=some (.cells #[.bool true,.string n.x,i_ n.v,.bool d,.string i.x,i_ i.v,.pointer g8,.slice ta v tc,.slice s en ec] 334 (0,0)):=by grind [qy]
 have M:=qy1 (hM.kept q) p (qj I q) H (hx.below q) hF hn U;have K:=λ(f:World)(h1:oq w f)=>hT f bb lo so no tab l pa pn pc _ F (hM.kept h1) p (qj I h1) H (qj V h1) (X.stay λk _ G=>h1.block k G) Y Z a0 D
 have J:=λ(f:World)(h1:oq w f)=>hE f bb lo so no tab l pa pn pc _ E (hM.kept h1) p (qj I h1) H (qj P h1) (Q.stay λk _ G=>h1.block k G) R S T C
 have t0:=kj6 z;have q0:=kki j;have⟨L,N⟩:=jS j u.symm;generalize (gy tab l c).b=fc at *;generalize kkj tab l t=gt at *;generalize kkj tab l e=ge at *;clear U D C j u;unfold tyV at *;go_in;go_upto_region 1 with fail
 rw[N];go_wp21;refine M.mono ?_;rintro r f ⟨rfl,g⟩;have B:=(g.block w.heap.size aj).trans z;have A:=(g.block (w.heap.size+1) aj).trans L;have x:=q.trans<|g.mono aj;have a1:=g.size;have t0:=kj6 B;have q7:=kki A;cases hc:(fc==1)
 ·go_wp2;go_ret;simp_all
 ·go_wp21;refine(K f x).mono ?_;rintro r w2 ⟨rfl,m⟩;have h:=x.trans<|m.mono aj;have t0:=kj6<|(m.block w.heap.size aj).trans B;have q8:=kki<|(m.block (w.heap.size+1) aj).trans (oz A);cases gt
  ·go_wp2;go_ret;simp_all
  ·go_wp21;refine(J w2 h).mono ?_;rintro r w3 ⟨rfl,O⟩;go_wp2;go_ret;exact⟨um (by simp_all),(h.trans<|O.mono h.size)⟩
theorem count_set:∀(l:List Bool)(i:Nat),l[i]?=some false->(l.set i true).countP (λb=>!b)+1=l.countP (λb=>!b)
 |[],i,h=>by simp at h
 |b::l,0,h=>by simp_all
 |b::l,i+1,h=>by grind
theorem vwi:∀(l:List Bool)(i:Nat),l.countP (λb=>!b)=0->l[i]?≠some false
 |[],i,_,h=>by simp at h
 |b::l,0,h,e=>by simp_all
 |b::l,i+1,h,e=>by grind
theorem kk6{g9:Oper}{h9:Act}{d:Act->World->Prop}(f:ops[lo]?=some g9)(e:g9.guard=none)(h:∀K',(∀a' w',d a' w'->K' a' w')->g9.wp P h9 w K' Q):wpOp P ops Q lo d h9 w:=by grind [wpOp,Region.wanted]
theorem vjm{i1:Array Bool}(h:lo∈Region.ready md ops i1):i1.toList[lo]?=some false:=by
 have:=(mem_ready.1 h).1;by_cases d:lo<i1.size
 ·simp_all
 simp_all
theorem jxd{I:Array Bool->Act->World->Prop}(e:∀l a w i,I l a w->i∈Region.ready md ops l->wpOp P ops Q i (λa' w'=>I (l.setIfInBounds i true) a' w') a w)(d:∀l a w,I l a w->Region.ready md ops l=[]->Q .normal a w):∀(fuel:Nat)(l:Array Bool)(a:Act)(w:World),l.toList.countP (λb=>!b)<=fuel->I l a w->wpAny P md ops Q fuel l a w
 |0,l,a,w,hc,h=>by
  have f:Region.ready md ops l=[]:=by
   cases f:Region.ready md ops l with
   |nil=>rfl
   |cons i r=>exact(vwi _ i aj<|vjm (by simp_all:i∈Region.ready md ops l)).elim
  exact⟨f,d l a w h f⟩
 |fuel+1,l,a,w,hc,h=>by refine⟨λf=>d l a w h f,λi hi=>?_⟩;refine wpOp_mono (λa' w' g=>jxd e d fuel _ a' w' ?_ g)<|e l a w i h hi;have:=count_set _ i<|vjm hi;grind
def zxl(bb:Nat)(pa:Option Addr)(pn pc:Nat)(n i:Tok)(d:Bool)(p:Option Addr)(w:World)(q:Ent)(s t e f g h j k l m:Value):Act:=
 ⟨#[.agg #[.map (some bb),.slice pa pn pc],.agg #[.bool false,.string n.x,i_ n.v,.bool d,.string i.x,i_ i.v,.pointer p,nS,nS],pT w.heap.size,pT (w.heap.size+1),.bool false,s,t,pT (w.heap.size+1),.bool false,undef,undef,undef,undef,undef,undef,undef,undef,undef,undef,undef,undef,undef,undef,undef,undef,
  pT w.heap.size,.map<|some bb,.pointer<|some (Ad (w.heap.size+1) 1),.pointer<|some (Ad (w.heap.size+1) 1),.pointer<|some (Ad (w.heap.size+1) 1),.string n.x,qy7 q,i_ q.V,.bool false,e,f,g,h,j,k,l,m,undef,undef,undef,undef,undef,undef,undef,undef,undef,undef,undef,undef,undef],[]⟩
structure RInv (bb:Nat)(pa:Option Addr)(pn pc:Nat)(n i:Tok)(d:Bool)(p:Option Addr)(tp tx:VT)(w W:World)(b0 b1 b2 b3 b4 b5 b6 b7 b8 b9 b10 b11:Bool)(u5 u6 u34 u35 u36 u37 u38 u39 u40 u41:Value)(wx:World):Prop where
 k0:b0=true->u34=.agg #[.map (some bb),.slice pa pn pc]
 k1:b1=true->u35=.pointer (some (Ad (w.heap.size+1) 1))
 k2:b2=true->u36=.agg #[.string n.x,i_ n.v,.bool d,.string i.x,i_ i.v]
 k3:b3=true->u37=.agg #[i_ tp.b,.string tp.y]
 k4:b4=true->u38=.agg #[.map (some bb),.slice pa pn pc]
 k5:b5=true->u39=.pointer (some (Ad (w.heap.size+1) 6))
 k6:b6=true->u40=.pointer p
 k7:b7=true->u41=.agg #[i_ tx.b,.string tx.y]
 k8:b8=true->∃g x y,u5=pT g/\W.heap.size<=g/\wx.heap[g]?=some (.cells #[x,y] 362 (0,0))/\(b10=true->x=i_ tp.b/\y=.string tp.y)
 k9:b9=true->∃g x y,u6=pT g/\W.heap.size<=g/\wx.heap[g]?=some (.cells #[x,y] 362 (0,0))/\(b11=true->x=i_ tx.b/\y=.string tx.y)
 kn:b8=true->b9=true->u5≠u6
 d10:b10=true->b8=true
 d11:b11=true->b9=true
 ty:wx.heap[w.heap.size]?=some (.cells #[.map (some bb),.slice pa pn pc] 301 (0,0))
 st:wx.heap[w.heap.size+1]?=some (.cells #[.bool false,.string n.x,i_ n.v,.bool d,.string i.x,i_ i.v,.pointer p,nS,nS] 334 (0,0))
 be:oq w wx
 sz:W.heap.size<=wx.heap.size
def RI(bb:Nat)(pa:Option Addr)(pn pc:Nat)(n i:Tok)(d:Bool)(p:Option Addr)(e tx:VT)(q:Ent)(w W:World)(l:Array Bool)(a:Act)(wx:World):Prop:=
 ∃(b0 b1 b2 b3 b4 b5 b6 b7 b8 b9 b10 b11:Bool)(u5 u6 u34 u35 u36 u37 u38 u39 u40 u41:Value),l=#[b0,b1,b2,b3,b4,b5,b6,b7,b8,b9,b10,b11]/\a=zxl bb pa pn pc n i d p w q u5 u6 u34 u35 u36 u37 u38 u39 u40 u41/\RInv bb pa pn pc n i d p e tx w W b0 b1 b2 b3 b4 b5 b6 b7 b8 b9 b10 b11 u5 u6 u34 u35 u36 u37 u38 u39 u40 u41 wx
theorem vj0{p:Option Addr}(hM:kj5 w bb tab)(S:zj4 tab)(D:w.ownsRow lo 352 4 (.slice pa pn pc) l.length (uq l))(hl:l.length<=1000)(hx:XIs so w g7 (.pointer p))(hF:qj4 g7)(hn:isNil g7=false)(hs:∀y∈bf g7,y.x.size<=1000)(R:∀y∈kzu n i,y.x.size<=1000)(a2:n.x.size<=1000):Calls prog 218 #[tyV bb (.slice pa pn pc),smV false n i (.pointer p) nS nS] w λr w'=>rT r (.bool<|((zl tab n.x.toList).V==4)&&(kwx (kxj tab l n i) (gy tab l g7)||((kxj tab l n i).b==4&&(gy tab l g7).b==5)))/\oq w w':=by
 have N:=λ(F:World)(h1:oq w F)=>jq0 n i (hM.kept h1) S (qj D h1) hl R
 have X:=λ(F:World)(h1:oq w F)=>qyb g7 F bb lo so tab l pa pn pc (.pointer p) (hM.kept h1) S (qj D h1) hl (hx.below h1) hF hn hs
 unfold smV;unfold pl5 at N;generalize (!(i.t.toList==[]))=d at *;obtain⟨W,L⟩:∃W,W=(w.alloc<|.cells #[.map (some bb),.slice pa pn pc] 301).alloc (.cells #[.bool false,.string n.x,i_ n.v,.bool d,.string i.x,i_ i.v,.pointer p,nS,nS] 334):=⟨_,rfl⟩;have T:oq w W:=by rw[L];exact kxw w
 have aI:W.heap.size=w.heap.size+2:=by simp_all
 have O:W.heap[w.heap.size]?=some (.cells #[.map (some bb),.slice pa pn pc] 301 (0,0)):=by rw[L];exact zy<|qy
 have H:W.heap[w.heap.size+1]?=some (.cells #[.bool false,.string n.x,i_ n.v,.bool d,.string i.x,i_ i.v,.pointer p,nS,nS] 334 (0,0)):=by grind [qy]
 have aH:=kvb (hM.kept T) a2;have hf:=kw6<|zl tab n.x.toList;have t0:=kj6 O;have q0:=kki H;have⟨Y,Z⟩:=jS H L.symm;generalize zl tab n.x.toList=q at *;generalize kxj tab l n i=E at *;generalize gy tab l g7=tx at *;clear hs R H L;unfold tyV vtV at *;go_in
 go_upto_region 1 with fail
 rw[Z];cases M:(q.V==4)
 ·have a1:(q.V != 4)=true:=by simp_all
  go_wp2;go_ret;exact⟨um (by simp_all),T⟩
 ·have a1:(q.V != 4)=false:=by simp_all
  go_upto_region 5 with fail
  go_cut [5,6] from 34 to 41 (λv5 v6 wx=>∃g5 g6,v5=pT g5/\v6=pT g6/\(Ce wx g5 0 (i_ E.b)/\Ce wx g5 1 (.string E.y))/\(Ce wx g6 0 (i_ tx.b)/\Ce wx g6 1 (.string tx.y))/\g5<wx.heap.size/\g6<wx.heap.size/\oq w wx)
  case first=>
   refine wp_region_any au ?_;change wpAny _ _ _ _ _ _ _ (World.drew _)
   refine jxd (I:=RI bb pa pn pc n i d p E tx q w W) ?_ ?_ _ _ _ _ ak ⟨false,false,false,false,false,false,false,false,false,false,false,false,undef,undef,undef,undef,undef,undef,undef,undef,undef,undef,rfl,rfl,⟨(λh=>ig),(λh=>ig),(λh=>ig),(λh=>ig),(λh=>ig),(λh=>ig),(λh=>ig),(λh=>ig),(λh=>ig),(λh=>ig),(λh=>ig),(λh=>ig),(λh=>ig),O,Y,T.drew,jV⟩⟩
   ·intro l a wx j U M;obtain⟨b0,b1,b2,b3,b4,b5,b6,b7,b8,b9,k,m,u5,u6,a5,a6,a7,a8,a9,aA,aB,aC,rfl,rfl,h⟩:=U;have⟨x,o,D,u⟩:=mem_ready.1 M;have hj:j<12:=by apply Qp;intro f;have:j=(j-12)+12:=aj;rw[this]at D;cases D
    have f:j=0\/j=1\/j=2\/j=3\/j=4\/j=5\/j=6\/j=7\/j=8\/j=9\/j=10\/j=11:=aj;obtain rfl|rfl|rfl|rfl|rfl|rfl|rfl|rfl|rfl|rfl|rfl|rfl:=f<;>(injection D with D;subst D)
    ·have t:b0=false:=by simpa using x
     have t0:=kj6 h.ty;refine kk6 rfl rfl (λK s=>?_);unfold zxl;go_simp;refine s _ _ ⟨true,b1,b2,b3,b4,b5,b6,b7,b8,b9,k,m,_,_,_,_,_,_,_,_,_,_,rfl,rfl,⟨λ_=>rfl,h.k1,h.k2,h.k3,h.k4,h.k5,h.k6,h.k7,h.k8,h.k9,h.kn,h.d10,h.d11,h.ty,h.st,h.be,h.sz⟩⟩
    ·have t:b1=false:=by simpa using x
     refine kk6 rfl rfl (λK s=>?_);unfold zxl;go_simp;refine s _ _ ⟨b0,true,b2,b3,b4,b5,b6,b7,b8,b9,k,m,_,_,_,_,_,_,_,_,_,_,rfl,rfl,⟨h.k0,λ_=>rfl,h.k2,h.k3,h.k4,h.k5,h.k6,h.k7,h.k8,h.k9,h.kn,h.d10,h.d11,h.ty,h.st,h.be,h.sz⟩⟩
    ·have t:b2=false:=by simpa using x
     have c1:b1=true:=by simpa using u ⟨1,.data⟩ ay rfl
     have q0:=kki h.st;obtain rfl:=h.k1 c1;refine kk6 rfl rfl (λK s=>?_);unfold zxl;go_simp;refine s _ _ ⟨b0,b1,true,b3,b4,b5,b6,b7,b8,b9,k,m,_,_,_,_,_,_,_,_,_,_,rfl,rfl,⟨h.k0,λ_=>rfl,λ_=>rfl,h.k3,h.k4,h.k5,h.k6,h.k7,h.k8,h.k9,h.kn,h.d10,h.d11,h.ty,h.st,h.be,h.sz⟩⟩
    ·have t:b3=false:=by simpa using x
     have c0:b0=true:=by simpa using u ⟨0,.data⟩ ay rfl
     have c2:b2=true:=by simpa using u ⟨2,.data⟩ ay rfl
     obtain rfl:=h.k0 c0;obtain rfl:=h.k2 c2;refine kk6 rfl rfl (λK s=>?_);unfold zxl;go_simp;go_at_call 244
     refine zM (N wx h.be) λF v=>?_;dsimp only;refine s _ _ ⟨b0,b1,b2,true,b4,b5,b6,b7,b8,b9,k,m,_,_,_,_,_,_,_,_,_,_,rfl,rfl,⟨λ_=>rfl,h.k1,λ_=>rfl,λ_=>rfl,h.k4,h.k5,h.k6,h.k7,λf=>by
       have⟨g,g7,y,z,A,e3,B⟩:=h.k8 f;exact⟨g,g7,y,z,A,(v.block g<|wQ e3).trans e3,B⟩,λf=>by have⟨g,g7,y,z,A,e3,B⟩:=h.k9 f;exact⟨g,g7,y,z,A,(v.block g<|wQ e3).trans e3,B⟩,h.kn,h.d10,h.d11,(v.block _<|wQ h.ty).trans h.ty,(v.block _<|wQ h.st).trans h.st,h.be.trans<|v.mono h.be.size,rP h.sz v.size⟩⟩
    ·have t:b4=false:=by simpa using x
     have t0:=kj6 h.ty;refine kk6 rfl rfl (λK s=>?_);unfold zxl;go_simp;refine s _ _ ⟨b0,b1,b2,b3,true,b5,b6,b7,b8,b9,k,m,_,_,_,_,_,_,_,_,_,_,rfl,rfl,⟨h.k0,h.k1,h.k2,h.k3,λ_=>rfl,h.k5,h.k6,h.k7,h.k8,h.k9,h.kn,h.d10,h.d11,h.ty,h.st,h.be,h.sz⟩⟩
    ·have t:b5=false:=by simpa using x
     refine kk6 rfl rfl (λK s=>?_);unfold zxl;go_simp;refine s _ _ ⟨b0,b1,b2,b3,b4,true,b6,b7,b8,b9,k,m,_,_,_,_,_,_,_,_,_,_,rfl,rfl,⟨h.k0,h.k1,h.k2,h.k3,h.k4,λ_=>rfl,h.k6,h.k7,h.k8,h.k9,h.kn,h.d10,h.d11,h.ty,h.st,h.be,h.sz⟩⟩
    ·have t:b6=false:=by simpa using x
     have c5:b5=true:=by simpa using u ⟨5,.data⟩ ay rfl
     have q0:=kki h.st;obtain rfl:=h.k5 c5;refine kk6 rfl rfl (λK s=>?_);unfold zxl;go_simp;refine s _ _ ⟨b0,b1,b2,b3,b4,b5,true,b7,b8,b9,k,m,_,_,_,_,_,_,_,_,_,_,rfl,rfl,⟨h.k0,h.k1,h.k2,h.k3,h.k4,λ_=>rfl,λ_=>rfl,h.k7,h.k8,h.k9,h.kn,h.d10,h.d11,h.ty,h.st,h.be,h.sz⟩⟩
    ·have t:b7=false:=by simpa using x
     have c4:b4=true:=by simpa using u ⟨4,.data⟩ ay rfl
     have c6:b6=true:=by simpa using u ⟨6,.data⟩ ay rfl
     obtain rfl:=h.k4 c4;obtain rfl:=h.k6 c6;refine kk6 rfl rfl (λK s=>?_);unfold zxl;go_simp;go_at_call 217
     refine zM (X wx h.be) λF v=>?_;dsimp only;refine s _ _ ⟨b0,b1,b2,b3,b4,b5,b6,true,b8,b9,k,m,_,_,_,_,_,_,_,_,_,_,rfl,rfl,⟨h.k0,h.k1,h.k2,h.k3,λ_=>rfl,h.k5,λ_=>rfl,λ_=>rfl,λf=>by
       have⟨g,g7,y,z,A,e3,B⟩:=h.k8 f;exact⟨g,g7,y,z,A,(v.block g<|wQ e3).trans e3,B⟩,λf=>by have⟨g,g7,y,z,A,e3,B⟩:=h.k9 f;exact⟨g,g7,y,z,A,(v.block g<|wQ e3).trans e3,B⟩,h.kn,h.d10,h.d11,(v.block _<|wQ h.ty).trans h.ty,(v.block _<|wQ h.st).trans h.st,h.be.trans<|v.mono h.be.size,rP h.sz v.size⟩⟩
    ·have t:b8=false:=by simpa using x
     refine kk6 rfl rfl (λK s=>?_);unfold zxl;go_simp;refine s _ _ ⟨b0,b1,b2,b3,b4,b5,b6,b7,true,b9,k,m,_,_,_,_,_,_,_,_,_,_,rfl,rfl,⟨h.k0,h.k1,h.k2,h.k3,h.k4,h.k5,h.k6,h.k7,λ_=>⟨wx.heap.size,_,_,rfl,h.sz,jH,λf=>by rw[h.d10 f]at t;cases t⟩,λf=>by
       have⟨g,g7,y,z,A,e3,B⟩:=h.k9 f;exact⟨g,g7,y,z,A,zy e3,B⟩,λ_ f e=>by have⟨g,g7,y,z,A,e3,B⟩:=h.k9 f;grind,λ_=>rfl,h.d11,zy h.ty,zy h.st,h.be.alloc h.be.size _,by simp;exact Nat.le_succ_of_le h.sz⟩⟩
    ·have t:b9=false:=by simpa using x
     refine kk6 rfl rfl (λK s=>?_);unfold zxl;go_simp;refine s _ _ ⟨b0,b1,b2,b3,b4,b5,b6,b7,b8,true,k,m,_,_,_,_,_,_,_,_,_,_,rfl,rfl,⟨h.k0,h.k1,h.k2,h.k3,h.k4,h.k5,h.k6,h.k7,λf=>by
       have⟨g,g7,y,z,A,e3,B⟩:=h.k8 f;exact⟨g,g7,y,z,A,zy e3,B⟩,λ_=>⟨wx.heap.size,_,_,rfl,h.sz,jH,λf=>by rw[h.d11 f]at t;cases t⟩,λf _ e=>by have⟨g,g7,y,z,A,e3,B⟩:=h.k8 f;grind,h.d10,λ_=>rfl,zy h.ty,zy h.st,h.be.alloc h.be.size _,by simp;exact Nat.le_succ_of_le h.sz⟩⟩
    ·have t:k=false:=by simpa using x
     have c8:b8=true:=by simpa using u ⟨8,.data⟩ ay rfl
     have c3:b3=true:=by simpa using u ⟨3,.data⟩ ay rfl
     obtain⟨g,g7,y,rfl,V,C,_⟩:=h.k8 c8;obtain rfl:=h.k3 c3;have z0:=kj6 C;refine kk6 rfl rfl (λK s=>?_);unfold zxl;go_simp;refine s _ _ ⟨b0,b1,b2,b3,b4,b5,b6,b7,b8,b9,true,m,_,_,_,_,_,_,_,_,_,_,rfl,rfl,⟨h.k0,h.k1,h.k2,λ_=>rfl,h.k4,h.k5,h.k6,h.k7,λ_=>⟨g,_,_,rfl,V,set2 C,λ_=>⟨rfl,rfl⟩⟩,λf=>by
       have⟨G,x2,y2,f1,f2,f3,f4⟩:=h.k9 f;refine⟨G,x2,y2,f1,f2,?_,f4⟩;have a0:G≠g:=λe=>h.kn c8 f (by rw[f1,e])
       grind [Below.heap_setCell],h.kn,λ_=>c8,h.d11,jY,jK,(h.be.setCell (by omega:w.heap.size<=g) _).setCell (by omega:w.heap.size<=g) _,by simpa[World.setCell] using h.sz⟩⟩
    ·have t:m=false:=by simpa using x
     have c9:b9=true:=by simpa using u ⟨9,.data⟩ ay rfl
     have c7:b7=true:=by simpa using u ⟨7,.data⟩ ay rfl
     obtain⟨g,g7,y,rfl,V,C,_⟩:=h.k9 c9;obtain rfl:=h.k7 c7;have z0:=kj6 C;refine kk6 rfl rfl (λK s=>?_);unfold zxl;go_simp;refine s _ _ ⟨b0,b1,b2,b3,b4,b5,b6,b7,b8,b9,k,true,_,_,_,_,_,_,_,_,_,_,rfl,rfl,⟨h.k0,h.k1,h.k2,h.k3,h.k4,h.k5,h.k6,λ_=>rfl,λf=>by
       have⟨G,x2,y2,f1,f2,f3,f4⟩:=h.k8 f;refine⟨G,x2,y2,f1,f2,?_,f4⟩;have a0:G≠g:=λe=>h.kn f c9 (by rw[f1,e])
       grind [Below.heap_setCell],λ_=>⟨g,_,_,rfl,V,set2 C,λ_=>⟨rfl,rfl⟩⟩,h.kn,h.d10,λ_=>c9,jY,jK,(h.be.setCell (by omega:w.heap.size<=g) _).setCell (by omega:w.heap.size<=g) _,by simpa[World.setCell] using h.sz⟩⟩
   ·intro l a wx U M;obtain⟨b0,b1,b2,b3,b4,b5,b6,b7,b8,b9,k,m,u5,u6,a5,a6,a7,a8,a9,aA,aB,aC,rfl,rfl,h⟩:=U;have no:∀j:Nat,¬j∈Region.ready .any _ #[b0,b1,b2,b3,b4,b5,b6,b7,b8,b9,k,m]:=λj=>by rw[M];simp
    obtain rfl:b0=true:=by
     cases b0 with
     |true=>rfl
     |false=>exact(no 0<|mem_ready.2 ⟨rfl,_,rfl,ay⟩).elim
    obtain rfl:b1=true:=by
     cases b1 with
     |true=>rfl
     |false=>exact(no 1<|mem_ready.2 ⟨rfl,_,rfl,ay⟩).elim
    obtain rfl:b2=true:=by
     cases b2 with
     |true=>rfl
     |false=>exact(no 2<|mem_ready.2 ⟨rfl,_,rfl,ay⟩).elim
    obtain rfl:b3=true:=by
     cases b3 with
     |true=>rfl
     |false=>exact(no 3<|mem_ready.2 ⟨rfl,_,rfl,ay⟩).elim
    obtain rfl:b4=true:=by
     cases b4 with
     |true=>rfl
     |false=>exact(no 4<|mem_ready.2 ⟨rfl,_,rfl,ay⟩).elim
    obtain rfl:b5=true:=by
     cases b5 with
     |true=>rfl
     |false=>exact(no 5<|mem_ready.2 ⟨rfl,_,rfl,ay⟩).elim
    obtain rfl:b6=true:=by
     cases b6 with
     |true=>rfl
     |false=>exact(no 6<|mem_ready.2 ⟨rfl,_,rfl,ay⟩).elim
    obtain rfl:b7=true:=by
     cases b7 with
     |true=>rfl
     |false=>exact(no 7<|mem_ready.2 ⟨rfl,_,rfl,ay⟩).elim
    obtain rfl:b8=true:=by
     cases b8 with
     |true=>rfl
     |false=>exact(no 8<|mem_ready.2 ⟨rfl,_,rfl,ay⟩).elim
    obtain rfl:b9=true:=by
     cases b9 with
     |true=>rfl
     |false=>exact(no 9<|mem_ready.2 ⟨rfl,_,rfl,ay⟩).elim
    obtain rfl:k=true:=by
     cases k with
     |true=>rfl
     |false=>exact(no 10<|mem_ready.2 ⟨rfl,_,rfl,ay⟩).elim
    obtain rfl:m=true:=by
     cases m with
     |true=>rfl
     |false=>exact(no 11<|mem_ready.2 ⟨rfl,_,rfl,ay⟩).elim
    obtain⟨g5,x5,y5,rfl,aF,P,a3⟩:=h.k8 rfl;obtain⟨g6,x6,y6,rfl,aG,Q,a4⟩:=h.k9 rfl;obtain⟨rfl,rfl⟩:=a3 rfl;obtain⟨rfl,rfl⟩:=a4 rfl;have⟨v0,v1,_⟩:=kj6 P;have⟨v2,v3,_⟩:=kj6 Q;unfold zxl;go_wp21;go_meet
    exact⟨g5,g6,rfl,rfl,⟨v0,v1⟩,⟨v2,v3⟩,wQ P,wQ Q,h.be⟩
  case rest=>
   obtain⟨g5,g6,rfl,rfl,⟨c0,c1⟩,⟨d0,d1⟩,l5,l6,hb⟩:=hcut;go_wp21;refine(vjw _ E tx).mono ?_;rintro r w3 ⟨rfl,J⟩;have e0:=(J.cell (p:=⟨g5,0,none⟩) l5).trans c0;have z:=(J.cell (p:=⟨g6,0,none⟩) l6).trans d0;have aD:=(oz hb).trans<|J.mono hb.size;generalize aE:kwx E tx=sm;cases sm
   ·cases h4:(E.b==4)
    ·go_wp2;go_ret;simp_all
    ·go_wp2;go_ret;simp_all
   ·go_wp2;go_ret;simp_all
def zz8:PB->Prop
 |.nil=>True
 |.node _ _ _ .nil n=>zz8 n
 |.node _ _ _ (.node _ _ _ t e) n=>qv1 t/\qv1 e/\zz8 n
def xy6(W:World)(so:Nat)(no:Option Nat)(tab:Tab)(l:List PP)(fin:Bool)(len:Nat)(cs:List Value)(i:Value)(wr:World):Prop:=
 ∃(k:Nat)(rest:PB),k+kqq rest=len/\i=i_ k/\BIs so no wr rest (cs.drop<|k*9)/\zz8 rest/\ky6 rest/\qzh rest/\(∀y∈je rest,y.x.size<=1000)/\kkj tab l rest=fin/\oq W wr
theorem pzg(h:p=.node 0 0 g4 .nil .nil):plC p=[.string g4.y.x,i_ g4.y.v,.bool (!(g4.c.t.toList==[])),.string g4.c.x,i_ g4.c.v]/\pwu p=kzu g4.y g4.c/\qj9 p=g4.y.x:=by subst h;exact⟨rfl,rfl,rfl⟩
theorem zvj{i2:PB}(hI:zz8 i2):qv1 i2:=by
 intro w bb lo so no tab l pa pn pc v cs hM aF ho hl hv aJ m D aS x;obtain⟨xa,cap,rfl,S⟩:=qp hv;have⟨W,hW⟩:=cpy<|w.alloc (.cells #[.map (some bb),.slice pa pn pc] 301);have M:oq w W:=by rw[hW];exact jZ _
 have aT:W.heap.size=w.heap.size+1:=by simp_all
 have aG:Hid (Rw W w.heap.size #[.map (some bb),.slice pa pn pc] 301):=kK;have HW:=oz (show ∀i,i<kqq i2->∃g,xa=some (Ad g 0)/\∀j,j<kqq i2*9->∀u,cs[j]?=some u->Ce W g j u from λi hi=>by obtain⟨g,rfl,_,hg,Q⟩:=S i hi;exact⟨g,rfl,λj Y u hu=>(M.cell (p:=⟨g,j,none⟩) hg).trans<|(Q j Y).trans hu⟩)
 have HR:=show xy6 W so no tab l (kkj tab l i2) (kqq i2) cs (i_ 0) W from⟨0,i2,aj,rfl,by simpa using aJ.stay (λk _ h=>M.block k h),hI,m,D,x,rfl,bR⟩
 have HM:=hM.kept M;have HO:=qj ho M;have aH:=oz hW.symm;generalize kkj tab l i2=fin at *;generalize kqq i2=len at *;clear S x hW;unfold tyV;go_in;go_upto_region 2 with fail
 rw[ku aH];go_loopw [6,9] (λ_ i wr=>xy6 W so no tab l fin len cs i wr) (λ_ i _=>len-(intOf i).toNat);exact HR;obtain⟨k,rest,h,rfl,F,C,m,D,x,(O:Hid _),z⟩:=hrel;have aD:=z.size;have a6:=oz<|(z.block w.heap.size aj).trans aG;have t0:=kj6 a6;have aU:=wQ a6;have a4:=HM.kept z;have a5:=qj HO z;match rest,F,C,m,D,x,O,h with
 |.nil,F,C,m,D,x,O,h=>
  have aR:¬k<len:=pG;clear x h;go_wp2;go_ret;exact⟨by rw[<-ku O];rfl,M.trans<|z.mono aj⟩
 |.node _ _ la .nil nx,F,C,m,D,x,O,h=>
  have⟨p,aQ,V,hx,aN⟩:=F;have a0:k<len:=pG;obtain⟨g,rfl,Q⟩:=ku HW k a0;have⟨⟨U,q,f,a1,a9⟩,P⟩:=D;have⟨K,R,a8⟩:=pzg a1;have⟨X,J⟩:=qjc V<|qzl;have cc:∀j,j<9->∀u,(stC false la (.pointer p) nS<|nS)[j]?=some u->Ce wr g (k*9+j) u:=λj Y u hu=>wU z<|Q (k*9+j) aj u ((J j Y).trans hu)
  unfold stC at cc;rw[K]at cc;have e0:=cc 0 aj _ rfl;have e1:=cc 1 aj _ rfl;have e2:=cc 2 aj _ rfl;have e3:=cc 3 aj _ rfl;have e4:=cc 4 aj _ rfl;have e5:=cc 5 aj _ rfl;have e6:=cc 6 aj _ rfl;have e7:=cc 7 aj _ rfl;have e8:=cc 8 aj _ rfl;simp only[Qk]at e0;have a2:∀y∈kzu f.y f.c,y.x.size<=1000:=λy B=>x y (by rw[je,R];simp[B])
  have aC:∀y∈bf la.value,y.x.size<=1000:=λy B=>x y pJ
  have L:∀y∈je nx,y.x.size<=1000:=λy B=>x y pJ
  have a7:f.y.x.size<=1000:=a2 _ (by unfold kzu;split<;>simp);have aE:gy tab l la.N=kxj tab l f.y f.c:=by rw[a1,gy,a9];rfl
  have H:=oz (by rw[<-ku O,kkj,jwd,a8,aE]:(((zl tab f.y.x.toList).V==4)&&(kwx (kxj tab l f.y f.c) (gy tab l la.value)||((kxj tab l f.y f.c).b==4&&(gy tab l la.value).b==5))&&kkj tab l nx)=fin);have T:=show BIs so no wr nx (cs.drop<|(k+1)*9) by simp_all
  have I:=vj0 (w:=wr.alloc<|.cells #[.bool false,.string f.y.x,i_ f.y.v,.bool<|!(f.c.t.toList==[]),.string f.c.x,i_ f.c.v,.pointer p,nS,nS] 334) (a4.kept<|jZ _) aF (a5.alloc _) hl (hx.below<|jZ _) U q aC a2 a7;have A:=oz (⟨C,m,P,L⟩:zz8 nx/\ky6 nx/\qzh nx/\∀y∈je nx,y.x.size<=1000);have Z:k+1+kqq nx=len:=pG;unfold smV tyV at I;generalize (((zl tab f.y.x.toList).V==4)&&(kwx (kxj tab l f.y f.c) (gy tab l la.value)||((kxj tab l f.y f.c).b==4&&(gy tab l la.value).b==5)))=s at *;generalize (!(f.c.t.toList==[]))=d at *;clear cc Q J X V K R a8 a1 a9 aE x a2 aC L a7 q h;go_wp21;refine I.mono ?_;rintro r w2 ⟨rfl,q⟩;have G:=z.trans<|((jZ wr).trans<|q.mono ay).mono aD;have N:=(jZ wr (o:=.cells #[.bool false,.string f.y.x,i_ f.y.v,.bool d,.string f.c.x,i_ f.c.v,.pointer p,nS,nS] 334)).trans<|q.mono ay;cases s
  ·go_wp2;go_ret;exact⟨by rw[<-ku H];rfl,M.trans<|G.mono aj⟩
  ·go_wp2;exact rdM ⟨k+1,nx,Z,eu,T.stay (λk _ h=>N.block k h),A.1,A.2.1,A.2.2.1,A.2.2.2,by rw[<-ku H];rfl,G⟩
 |.node _ _ la (.node _ _ _ t e) nx,F,C,m,D,x,O,h=>
  have⟨p,ta,tn,tc,ea,en,ec,ct,ce,aQ,V,hx,⟨aO,_,aP⟩,⟨aL,_,aM⟩,aN⟩:=F;have a0:k<len:=pG;obtain⟨g,rfl,Q⟩:=ku HW k a0;have⟨n,i,K,R⟩:=jqf la.N;have⟨⟨U,q⟩,aK,aI,P⟩:=D;have⟨X,J⟩:=qjc V<|qzl;have cc:∀j,j<9->∀u,(stC true la (.pointer p) (.slice ta tn tc)<|.slice ea en ec)[j]?=some u->Ce wr g (k*9+j) u:=λj Y u hu=>wU z<|Q (k*9+j) aj u ((J j Y).trans hu)
  unfold stC at cc;rw[K]at cc;have e0:=cc 0 aj _ rfl;have e1:=cc 1 aj _ rfl;have e2:=cc 2 aj _ rfl;have e3:=cc 3 aj _ rfl;have e4:=cc 4 aj _ rfl;have e5:=cc 5 aj _ rfl;have e6:=cc 6 aj _ rfl;have e7:=cc 7 aj _ rfl;have e8:=cc 8 aj _ rfl;simp only[Qk]at e0;have aA:∀y∈bf la.A,y.x.size<=1000:=λy B=>x y pJ
  have a3:∀y∈je t,y.x.size<=1000:=λy B=>x y pJ
  have aB:∀y∈je e,y.x.size<=1000:=λy B=>x y pJ
  have L:∀y∈je nx,y.x.size<=1000:=λy B=>x y pJ
  have H:=oz (by rw[<-ku O,kkj]:((((gy tab l la.A).b==1&&kkj tab l t)&&kkj tab l e)&&kkj tab l nx)=fin);have T:=show BIs so no wr nx (cs.drop<|(k+1)*9) by simp_all
  have E:∀o:Obj,oq wr (wr.alloc o):=λo=>jZ _
  have I:=vv0 (w:=wr.alloc<|.cells #[.bool true,.string n.x,i_ n.v,.bool<|!(i.t.toList==[]),.string i.x,i_ i.v,.pointer p,.slice ta tn tc,.slice ea en ec] 334) no n i t e ta tn tc ea en ec ct ce (a4.kept<|E _) aF (a5.alloc _) hl (hx.below<|E _) U q aA
   C.1 (qj aO<|E _) (aP.stay λk _ h=>(E _).block k h) m.1.1 aK m.1.2 a3 C.2.1 (qj aL<|E _) (aM.stay λk _ h=>(E _).block k h) m.2.1.1 aI m.2.1.2 aB
  have A:=oz (⟨C.2.2,m.2.2,P,L⟩:zz8 nx/\ky6 nx/\qzh nx/\∀y∈je nx,y.x.size<=1000);have Z:k+1+kqq nx=len:=pG;unfold smV tyV at I;generalize (((gy tab l la.A).b==1&&kkj tab l t)&&kkj tab l e)=s at *;generalize (!(i.t.toList==[]))=d at *;clear cc Q J X V K R x aA a3 aB L q h E;go_wp21;refine I.mono ?_;rintro r w2 ⟨rfl,q⟩;have G:=z.trans<|((jZ wr).trans<|q.mono ay).mono aD;have N:=(jZ wr (o:=.cells #[.bool true,.string n.x,i_ n.v,.bool d,.string i.x,i_ i.v,.pointer p,.slice ta tn tc,.slice ea en ec] 334)).trans<|q.mono ay;cases s
  ·go_wp2;go_ret;exact⟨by rw[<-ku H];rfl,M.trans<|G.mono aj⟩
  ·go_wp2;exact rdM ⟨k+1,nx,Z,eu,T.stay (λk _ h=>N.block k h),A.1,A.2.1,A.2.2.1,A.2.2.2,by rw[<-ku H];rfl,G⟩
theorem qzy:∀b:PB,zz8 b
 |.nil=>trivial
 |.node _ _ _ .nil n=>qzy n
 |.node _ _ _ (.node _ _ _ t e) n=>⟨zvj<|qzy t,zvj<|qzy e,qzy n⟩
theorem xqw(b:PB):qv1 b:=zvj<|qzy b
structure MdTy (m:MdL):Prop where
 l:∀r∈m.l,qj4 r.guard/\isNil r.guard=false/\qzh r.S
 q:∀r∈m.q,qj4 r.guard/\isNil r.guard=false
def vkg{α:Type}(W:World)(f:α->Bool)(items:List α)(i:Value)(wr:World):Prop:=
 ∃k:Nat,k<=items.length/\i=i_ k/\(items.drop k).all f=items.all f/\oq W wr
theorem vkg.start(hb:oq W wr):vkg W f items (i_ 0) wr:=⟨0,jG,rfl,rfl,hb⟩
theorem jzp(d:k<items.length)(h:(items.drop k).all f=items.all f):items.all f=(f items[k]&&(items.drop (k+1)).all f):=by grind [List.drop_eq_getElem_cons]
theorem jzd(d:¬k<items.length)(h:(items.drop k).all f=items.all f):items.all f=true:=by grind [List.drop_of_length_le]
theorem jw6(h:kwm lo w x0 x1 x2 x3 x4 m)(hM:kj5 w b tab)(T:zj4 tab)(aT:MdOk m)(aE:MdNm m)(aF:MdTy m):Calls prog 94 #[.agg #[x0,x1,x2,x3,x4],.map (some b)] w λe w'=>rT e (.bool<|qqf tab m)/\oq w w':=by
 have⟨h0,⟨c1,h1,k1⟩,h2,⟨c3,h3,aJ⟩,⟨c4,h4,aK⟩⟩:=h;have⟨_,_,_,aV,aW,_,_⟩:=aT;have⟨W,hW⟩:=cpy<|w.alloc (.cells #[x0,x1,x2,x3,x4] 68);have J:oq w W:=by rw[hW];exact jZ _
 have aX:W.heap.size=w.heap.size+1:=by simp_all
 have a6:Hid (Rw W w.heap.size #[x0,x1,x2,x3,x4] 68):=kK;have vw:∀{e size:Nat}{v:Value}{n:Nat}{xs:List Value},w.ownsRow lo e size v n xs->∃a cap,v=.slice a n cap/\∀i,i<n->∃g,a=some (Ad g 0)/\∀j,j<n*size->∀u,xs[j]?=some u->Ce W g j u:=by intro e size v n xs h;have⟨a,cap,O,hv⟩:=qp h;refine⟨a,cap,O,λi hi=>?_⟩;have⟨g,P,_,hg,t⟩:=hv i hi;exact⟨g,P,λj hj u hu=>(J.cell (p:=⟨g,j,none⟩) hg).trans<|(t j hj).trans hu⟩
 obtain⟨a0,l0,n0,rfl⟩:=qh h0;obtain⟨a1,l1,n1,rfl⟩:=qh h1;obtain⟨a2,l2,n2,rfl⟩:=qh h2;obtain⟨a3,p3,rfl,(aN:Hid _)⟩:=vw h3;obtain⟨a4,p4,rfl,(aO:Hid _)⟩:=vw h4;have HM:=oz hM;have m0:=jl a6;have aQ:=oz hW.symm;have aL:=vkg.start (W:=W) (wr:=W) (f:=zql tab) (items:=m.l)<|bR;have L:=oz (show qqf tab m=(m.l.all (zql tab)&&m.q.all (vw6 tab)) from rfl);generalize qqf tab m=fin at *;clear hW vw;go_in
 go_upto_region 1 with fail
 rw[ku aQ];go_wp21;go_loopw [6,7,14] (λ_ _ i wr=>vkg W (zql tab) m.l i wr) (λ_ _ i _=>m.l.length-(intOf i).toNat);exact aL;obtain⟨k,hk,rfl,s,d⟩:=hrel;have H:=d.size;by_cases q:k<m.l.length
 ·obtain⟨g,rfl,t⟩:=ku aN k q;have⟨pa,pn,pc,gp,ba,bn,bc,aR,⟨f0,f1,f2,f3,f4⟩,C,F,aD,aC⟩:=vjd k q aJ;have e0:=wU d<|t (k*5) aj _ f0;have O:=wU d<|t (k*5+1) aj _ f1;have P:=wU d<|t (k*5+2) aj _ f2;have e3:=wU d<|t (k*5+3) aj _ f3;have e4:=wU d<|t (k*5+4) aj _ f4;have l:=oz<|jzp q s;have⟨x,I,z,aG,V,Y⟩:=aE.l _<|wZ q;have⟨y1,y2,y3⟩:=aF.l _<|wZ q;generalize m.l[k]=r at e0 O P e3 e4 C F aD aC x I z aG V Y y1 y2 y3 l;have⟨X,y⟩:=cpy<|(wr.alloc<|.cells #[.string r.y.x,i_ r.y.v,.slice pa pn pc,.pointer gp,.slice ba bn bc] 127).alloc (.cells #[.map (some b),.slice pa pn pc] 301);have D:oq wr X:=by rw[y];exact kxw _
  have aU:X.heap.size=wr.heap.size+2:=by simp_all
  have a7:Hid (X.heap[wr.heap.size]?=some (.cells #[.string r.y.x,i_ r.y.v,.slice pa pn pc,.pointer gp,.slice ba bn bc] 127 (0,0))):=by rw[y];exact zy<|qy
  have a8:Hid (X.heap[wr.heap.size+1]?=some (.cells #[.map (some b),.slice pa pn pc] 301 (0,0))):=by rw[y];have:=qy (w:=wr.alloc<|.cells #[.string r.y.x,i_ r.y.v,.slice pa pn pc,.pointer gp,.slice ba bn bc] 127) (o:=.cells #[.map (some b),.slice pa pn pc] 301);simp_all
  have K:oq w X:=J.trans<|(d.trans<|D.mono H).mono aj;have M:=qy1 (HM.kept K) T (qj C K) x (F.below K) y1 y2 z;have aI:=oz (λ(Z:World)(h1:oq w Z)=>xqw r.S Z b lo lo none tab r.u pa pn pc (.slice ba bn bc) aR (HM.kept h1) T (qj C h1) x (qj aD h1) (aC.stay λk _ hk=>h1.block k hk) aG y3 V Y);have G:zql tab r=((gy tab r.u r.guard).b==1&&kkj tab r.u r.S):=rfl;rw[G]at l;have N:=oz y.symm;have q0:=jl a7;have t0:=kj6 a8;generalize (gy tab r.u r.guard).b=fc at *;generalize kkj tab r.u r.S=gb at *;unfold tyV at *;clear t f0 f1 f2 f3 f4 x I z V Y y2 y s G;go_upto_region 5 with fail
  rw[ku N];go_wp21;refine zM M λZ B=>?_;have Q:=(B.block wr.heap.size aj).trans a7;have R:=(B.block (wr.heap.size+1) aj).trans a8;have A:=d.trans<|(D.trans<|B.mono aj).mono H;have aP:=K.trans<|B.mono aj;have aH:=aI Z aP;clear q0 t0;have q0:=jl Q;have t0:=kj6 R;clear Q R;cases E:(fc==1)
  ·rw[E]at l;go_wp2;go_ret;exact⟨by rw[ku L,ku l];rfl,J.trans<|A.mono aj⟩
  ·rw[E]at l;go_wp21;refine zM aH λw2 aS=>?_;have a5:=A.trans<|aS.mono A.size;cases gb
   ·go_wp2;go_ret;exact⟨by rw[ku L,ku l];rfl,J.trans<|a5.mono aj⟩
   ·go_wp2;exact rdM ⟨k+1,aj,eu,by rw[ku l];rfl,a5⟩
 ·have S:=jzd q s;rw[S,QZ]at L;have a9:=(d.block w.heap.size aj).trans a6;have z4:=jl a9;have aM:=vkg.start (W:=W) (wr:=wr) (f:=vw6 tab) (items:=m.q) d;clear S s a9 m0;go_wp21;go_loopw [9,10,38] (λ_ _ i wr=>vkg W (vw6 tab) m.q i wr) (λ_ _ i _=>m.q.length-(intOf i).toNat);exact aM;obtain⟨k,hk,rfl,s,d⟩:=hrel;have H:=d.size;by_cases q:k<m.q.length
  ·obtain⟨g,rfl,t⟩:=ku aO k q;have⟨pa,pn,pc,gp,⟨f0,f1,f2,f3⟩,C,F⟩:=vz0 k q aK;have e0:=wU d<|t (k*4) aj _ f0;have O:=wU d<|t (k*4+1) aj _ f1;have P:=wU d<|t (k*4+2) aj _ f2;have e3:=wU d<|t (k*4+3) aj _ f3;have l:=oz<|jzp q s;have⟨x,I,z⟩:=aE.q _<|wZ q;have⟨y1,y2⟩:=aF.q _<|wZ q;generalize m.q[k]=r at e0 O P e3 C F x I z y1 y2 l;have⟨X,y⟩:=cpy<|(wr.alloc<|.cells #[.string r.y.x,i_ r.y.v,.slice pa pn pc,.pointer gp] 130).alloc (.cells #[.map (some b),.slice pa pn pc] 301);have D:oq wr X:=by rw[y];exact kxw _
   have aU:X.heap.size=wr.heap.size+2:=by simp_all
   have aA:X.heap[wr.heap.size]?=some (.cells #[.string r.y.x,i_ r.y.v,.slice pa pn pc,.pointer gp] 130 (0,0)):=by rw[y];exact zy<|qy
   have aB:X.heap[wr.heap.size+1]?=some (.cells #[.map (some b),.slice pa pn pc] 301 (0,0)):=by rw[y];have:=qy (w:=wr.alloc<|.cells #[.string r.y.x,i_ r.y.v,.slice pa pn pc,.pointer gp] 130) (o:=.cells #[.map (some b),.slice pa pn pc] 301);simp_all
   have U:oq w X:=J.trans<|(d.trans<|D.mono H).mono aj;have M:=qy1 (HM.kept U) T (qj C U) x (F.below U) y1 y2 z;have G:vw6 tab r=((gy tab r.u r.guard).b==1):=rfl;rw[G]at l;have N:=oz y.symm;have q0:=kz3 aA;have t0:=kj6 aB;generalize (gy tab r.u r.guard).b=fc at *;unfold tyV at *;clear t f0 f1 f2 f3 x I z y2 y aA aB s G;go_upto_region 12 with fail
   rw[ku N];go_wp21;refine zM M λZ B=>?_;have A:=d.trans<|(D.trans<|B.mono aj).mono H;clear q0 t0;cases E:(fc==1)
   ·rw[E]at l;go_wp2;go_ret;exact⟨by rw[ku L,ku l];rfl,J.trans<|A.mono aj⟩
   ·rw[E]at l;go_wp2;exact rdM ⟨k+1,aj,eu,by rw[ku l];rfl,A⟩
  ·have S:=jzd q s;rw[S]at L;clear S s;go_wp2;go_ret;exact⟨by rw[ku L];rfl,J.trans<|d.mono aj⟩
def zzx(m:MdL):Int×Int:=
 if 0<=qz2 m then (4,qz2 m) else if 0<=qxk (qm m) m then (5,qxk (qm m) m) else if qqf (qm m) m then (0,0) else (6,0)
structure MdAll (m:MdL):Prop where
 ok:MdOk m
 sz:MdSz m
 nm:MdNm m
 ty:MdTy m
 C:zj4 (qm m)
theorem kwm.below(h:kwm lo w x0 x1 x2 x3 x4 m)(hb:oq w w'):kwm lo w' x0 x1 x2 x3 x4 m:=h.stay λk _ d=>hb.block k d
theorem pzw(h:kwm lo w x0 x1 x2 x3 x4 m)(f:MdAll m):Calls prog 53 #[.agg #[x0,x1,x2,x3,x4]] w λe w'=>rT e (.tuple #[i_ (zzx m).1,i_ (zzx m).2])/\oq w w':=by
 obtain⟨⟨a0,n0,k0,rfl⟩,⟨a1,n1,k1,rfl⟩,⟨a2,n2,k2,rfl⟩,⟨a3,n3,k3,rfl⟩,⟨a4,n4,k4,rfl⟩⟩:=qws h;have⟨W,t⟩:=cpy<|w.alloc (.cells #[.slice a0 n0 k0,.slice a1 n1 k1,.slice a2 n2 k2,.slice a3 n3 k3,.slice a4 n4 k4] 68);have J:oq w W:=by rw[t];exact jZ _
 have a8:W.heap.size=w.heap.size+1:=by simp_all
 have D:Hid (W.heap[w.heap.size]?=some (.cells #[.slice a0 n0 k0,.slice a1 n1 k1,.slice a2 n2 k2,.slice a3 n3 k3,.slice a4 n4 k4] 68 (0,0))):=by rw[t];exact qy
 have E:=oz (show zzx m=if 0<=qz2 m then (4,qz2 m) else if 0<=qxk (qm m) m then (5,qxk (qm m) m) else if qqf (qm m) m then (0,0) else (6,0) from rfl);have O:=jwo (h.below J) f.ok;have⟨X,S,M,Q⟩:=jE (λ(g:World)(h1:oq w g)=>vwn (h.below h1) f.ok f.sz) (λ(g:World) (b:Nat) (h1:oq w g) (I:kj5 g b (qm m))=>jx0 (h.below h1) I f.ok f.sz f.nm) (λ(g:World) (b:Nat) (h1:oq w g) (I:kj5 g b (qm m))=>jw6 (h.below h1) I f.C f.ok f.nm f.ty) t.symm;have j:=jl D;generalize zzx m=R at *;generalize qz2 m=P at *;generalize qxk (qm m) m=N at *;generalize qqf (qm m) m=T at *;generalize qm m=tab at *;clear t;go_in;go_upto_region 1 with fail
 rw[ku Q];go_wp21;refine zM O λg q=>?_;have u:=J.trans<|q.mono aj;have l:=oz<|(q.block w.heap.size aj).trans D;have a9:=q.size;clear j;have j:=jl l;have a5:=wQ l;by_cases G:0<=P
 ·rw[lJ G]at E;have i:fAt P=P:=by unfold fAt;omega
  rw[i];clear i;go_wp2;go_region
  all_goals
   go_wp2;go_ret2;rw[ku E];exact⟨rfl,(u.alloc aj _).drew⟩
 ·rw[Xy G]at E;have H:decide (0<=P)=false:=by simp_all
  have d:=(u.alloc (by omega:w.heap.size<=g.heap.size)<|.cells #[.bool (decide (0<=P)),i_ (fAt P)] 199);have A:=X _ d;have C:=oz (zy l:Rw (g.alloc<|.cells #[.bool (decide (0<=P)),i_ (fAt P)] 199) w.heap.size #[.slice a0 n0 k0,.slice a1 n1 k1,.slice a2 n2 k2,.slice a3 n3 k3,.slice a4 n4 k4] 68);rw[H]at A d C |-;clear G;generalize fAt P=fp at *;go_wp21
  refine A.mono ?_;rintro e Z ⟨b,rfl,F,_,Y,s⟩;have v:=d.trans<|s.mono ah;have p:=oz<|(s.block w.heap.size ah).trans C;have V:=s.size;simp at V;clear j;have j:=jl p;have a6:=wQ p;have K:=S Z b v F;go_wp21
  refine zM K λw3 k=>?_;have x:=v.trans<|k.mono aj;have B:=oz<|(k.block w.heap.size aj).trans p;have L:=F.kept k;have aA:=k.size;clear j;have j:=jl B;have a7:=wQ B;by_cases hN:0<=N
  ·rw[lJ hN]at E;have i:fAt N=N:=by unfold fAt;omega
   rw[i];clear i;go_wp2;go_region
   all_goals
    go_wp2;go_ret2;rw[ku E];exact⟨rfl,(x.alloc aj _).drew⟩
  ·rw[Xy hN]at E;have H:decide (0<=N)=false:=by simp_all
   have d:=(x.alloc (by omega:w.heap.size<=w3.heap.size)<|.cells #[.bool (decide (0<=N)),i_ (fAt N)] 199);have z:=M _ b d<|L.kept (jZ _);rw[H]at z d |-;clear hN;generalize fAt N=fn at *;go_wp21
   refine zM z λw4 U=>?_;have y:=d.trans<|U.mono ah;clear j;cases T
   ·go_wp2;go_ret2;rw[ku E];exact⟨rfl,y⟩
   ·go_wp2;go_ret2;rw[ku E];exact⟨rfl,y⟩
def qq4(s:ByteArray):Int×Int:=
 if 800<s.size then (1,0) else match (jv s).2 with
  |some k=>(2,k)
  |none=>match (uz (jv s).1).2 with
   |some k=>(3,k)
   |none=>zzx<|ql (uz (jv s).1).1
def jzm(s:ByteArray)(w:World)(e:Ending)(w':World):Prop:=
 oq w w'/\∃x0 x1 x2 x3 x4,rT e (.tuple #[.agg #[x0,x1,x2,x3,x4],i_ (qq4 s).1,i_ (qq4 s).2])/\((qq4 s).1=0->kwm w.heap.size w' x0 x1 x2 x3 x4 (ql (uz (jv s).1).1)) /\
  (∃a l c,x0=.slice a l c)/\(∃a l c,x1=.slice a l c)/\(∃a l c,x2=.slice a l c)/\(∃a l c,x3=.slice a l c)/\(∃a l c,x4=.slice a l c)
theorem qq6(h:Below B w' w):Below B w' (puts B [x0,x1,x2,x3,x4] 0 w):=qzp jV _ _ h
theorem qzw{f:α->List Tok}(d:∀x,1<=(f x).length):∀l:List α,l.length<=(l.flatMap f).length
 |[]=>jV
 |x::l=>by rw[Jy,rD,Qb];have:=qzw d l;grind
theorem jz2{α:Type}{f:α->List Tok}:∀{l:List α}{x:α},x∈l->(f x).length<=(l.flatMap f).length
 |y::l,x,h=>by
  rw[Jy,rD];obtain rfl|h:=tZ.1 h
  ·omega
  ·have:=jz2 (f:=f) h;omega
theorem qkq:∀b:PB,kqq b=kvt b
 |.nil=>rfl
 |.node _ _ _ _ n=>by rw[kqq,kvt,qkq n]
def xy4(t:Tok):Prop:=0<t.x.size/\t.x.size<=800
theorem xky(h:zxn x)(d:(x.t.toList==mX)=true):xy4 x:=by refine⟨?_,h.size⟩;have:=h.y;grind [kzq,inB]
structure TreeSize (t:PTree):Prop where
 nm:∀x∈kzt t,xy4 x
 j:t.j.length<=801
 p:t.p.length<=801
 z:t.z.length<=801
 l:t.l.length<=801
 q:t.q.length<=801
 i:∀k∈t.p,k.i.length<=801
 all:∀r∈t.l++t.q,(kqp r).length<=801
theorem kxk(d:kq6 L)(h:qyw L t):TreeSize t:=by
 have m:=h.nms.le;have j:=d.T;have h1:(kzt t).length<=801:=aj;unfold kzt at h1;simp only[rD]at h1;have l1:=qzw (f:=zjy) (λx=>jV) t.j;have p:=qzw (f:=kx7) (λx=>by unfold kx7;simp) t.p;have l3:=qzw (f:=kxi) (λx=>by unfold kxi;simp) t.z;have q:=qzw (f:=kqp) (λx=>by unfold kqp;simp) t.l;have s:=qzw (f:=kqp) (λx=>by unfold kqp;simp) t.q;refine⟨?_,aj,aj,aj,aj,aj,?_,?_⟩
 ·intro x l;have⟨k,g⟩:=h.nms.mem x l;obtain⟨i,hi,rfl⟩:=wG k;have e:tk L i=L[i]:=getD_at hi;have ok:=d.ok i hi;rw[e]at ok;exact xky ok g
 ·grind [jz2,kx7]
 grind [jz2]
theorem jjj{i3:PSet}(h:i3∈t.j):i3.y∈kzt t:=jU<|rM.2 ⟨i3,h,rZ ..⟩
theorem kwy{i4:PKind}(h:i4∈t.p)(d:x∈kx7 i4):x∈kzt t:=jP<|jU (rM.2 ⟨i4,h,d⟩)
theorem qqm(h:v∈t.z)(d:x∈kxi v):x∈kzt t:=jP<|jP (jU<|rM.2 ⟨v,h,d⟩)
theorem kxv(h:r∈t.l++t.q)(d:x∈kqp r):x∈kzt t:=by refine jP<|jP (jP ?_);grind
theorem zy8{i5:PP}(h:i5∈r.u):i5.y∈kqp r/\i5.Q∈kqp r:=by unfold kqp;exact⟨jB<|jU (rM.2 ⟨i5,h,rZ ..⟩),jB<|jU (rM.2 ⟨i5,h,jB<|rZ ..⟩)⟩
theorem jkf(h:x∈yu r.guard):x∈kqp r:=jB<|jP (jU h)
theorem vz8(h:x∈uo r.S):x∈kqp r:=jB<|jP (jP h)
theorem vjp(h:(kqp r).length<=801):r.u.length<=801/\(yu r.guard).length<=801/\(uo r.S).length<=801:=by grind [kqp,qzw,qqi]
theorem kkz.T:∀{b:PB},kkz b->ky6 b
 |.nil,_=>trivial
 |.node _ _ a .nil n,⟨_,_,_,h⟩=>h.T
 |.node _ _ a (.node _ _ _ t e) n,⟨_,_,_,h4,h5,h6⟩=>⟨⟨h4.1.T,by rw[qkq];omega⟩,⟨h5.1.T,by rw[qkq];omega⟩,h6.T⟩
theorem kkz.xv:∀{b:PB},kkz b->qzh b
 |.nil,_=>trivial
 |.node _ _ a .nil n,⟨h1,h2,_,h⟩=>⟨⟨h2.xv,h2.some,h1.2⟩,h.xv⟩
 |.node _ _ a (.node _ _ _ t e) n,⟨h1,_,_,h4,h5,h6⟩=>⟨⟨h1.xv,h1.some⟩,h4.1.xv,h5.1.xv,h6.xv⟩
theorem kkz.sok:∀{b:PB},kkz b->SOk b
 |.nil,_=>trivial
 |.node _ _ a .nil n,⟨h1,h2,h3,h⟩=>⟨by rw[h3];rfl,h1.1.some,h1.1.ok,h2.some,h2.ok,h.sok⟩
 |.node _ _ a (.node _ _ _ t e) n,⟨h1,_,_,h4,h5,h6⟩=>⟨h1.some,h1.ok,⟨h4.1.sok,aj⟩,⟨h5.1.sok,aj⟩,h6.sok⟩
theorem kkz.slen:∀{b:PB},kkz b->qqk b
 |.nil,_=>trivial
 |.node _ _ a .nil n,⟨_,_,_,h⟩=>h.slen
 |.node _ _ a (.node _ _ _ t e) n,⟨_,_,_,h4,h5,h6⟩=>⟨h4.1.slen,h5.1.slen,aj,aj,h6.slen⟩
theorem zjc:zh.x.size=0:=rfl
theorem zyc(e:TreeSize t)(hv:v∈t.z)(d:zxr v):(jw v).g.x.size<=800/\(jw v).si.y.x.size<=800:=by
 constructor
 ·show v.g.x.size<=800;obtain⟨h1|h1,_⟩:=d
  ·rw[h1,zjc];omega
  ·refine(e.nm _<|qqm hv ?_).2;unfold kxi kyv;simp_all
 ·have⟨f1,f2⟩:=qyd d;cases f:(v.k.t.toList==mX)
  ·grind [jw,zjc]
  ·rw[f2 f];refine(e.nm _<|qqm hv ?_).2;unfold kxi kyv;simp_all
theorem xv4(B:kq6 L)(h:(uz L).2=none):MdAll (ql (uz L).1):=by
 have g:=tree_good B h;have s:=kxk B g;generalize (uz L).1=t at g s;have w:∀r∈t.l++t.q,kvw r:=λr d=>by
  obtain d|d:=rV.1 d
  ·exact g.l r d
  ·exact(g.q r d).1
 have u:∀r∈t.l++t.q,r.u.length<=1000/\(∀p∈r.u,p.y.x.size<=1000/\p.Q.x.size<=1000)/\(∀y∈bf r.guard,y.x.size<=1000)/\ky6 r.S/\kqq r.S<=1000/\(∀y∈je r.S,y.x.size<=1000):=λr d=>by
  have⟨x,b,E,_⟩:=w r d;have⟨F,G,e3⟩:=vjp<|s.all r d;refine⟨aj,λp C=>?_,λy m=>?_,b.T,by rw[qkq];omega,λy m=>?_⟩
  ·have a1:=(s.nm _<|kxv d (zy8 C).1).2;have a2:=(s.nm _<|kxv d (zy8 C).2).2;omega
  ·rw[kze x]at m;have:=(s.nm _<|kxv d (jkf m)).2;omega
  ·rw[kxo b]at m;have:=(s.nm _<|kxv d (vz8 m)).2;omega
 refine⟨⟨?_,?_,?_,?_,?_,?_,?_⟩,⟨?_,?_,?_,?_,?_⟩,⟨?_,?_,?_⟩,⟨?_,?_⟩,?_⟩
 ·exact rP s.j aj
 ·exact rP s.p aj
 ·show(t.z.map jw).length<=1000;rw[Ql];exact rP s.z aj
 ·exact rP s.l aj
 ·exact rP s.q aj
 ·intro k A;exact rP (s.i k A) aj
 ·intro r d;exact(u r d).1
 ·intro x f;have:=(s.nm _<|jjj f).2;omega
 ·intro k A;refine⟨?_,λx f=>?_⟩
  ·have:=(s.nm _<|kwy A (rZ ..)).2;omega
  ·have:=(s.nm _<|kwy A (jB f)).2;omega
 ·intro v hv;obtain⟨z,i,rfl⟩:=tY.1 (hv:v∈t.z.map jw);have:=(s.nm _<|qqm i (rZ ..)).2;show z.y.x.size<=1000;omega
 ·intro r d;have:=(s.nm _<|kxv (jU d) (rZ ..)).2;omega
 ·intro r d;have:=(s.nm _<|kxv (jP d) (rZ ..)).2;omega
 ·intro v hv;obtain⟨z,i,rfl⟩:=tY.1 (hv:v∈t.z.map jw);have:=zyc s i<|g.z z i;omega
 ·intro r d;exact u r<|jU d
 ·intro r d;have⟨a,b,c,_⟩:=u r<|jP d;simp_all
 ·intro r d;have⟨x,b,_⟩:=w r<|jU d;exact⟨x.xv,x.some,b.xv⟩
 ·intro r d;have⟨x,_⟩:=w r<|jP d;exact⟨x.xv,x.some⟩
 ·intro q;have D:kv3.si.y.x.size<=1000:=by show zh.x.size<=1000;rw[zjc];omega
  have all:∀x∈kjl (ql t),x.2.var.si.y.x.size<=1000:=by
   intro x f;unfold kjl at f;simp only[rV,rM]at f;obtain⟨q,l,f⟩|⟨q,l,f⟩|⟨q,l,f⟩|⟨q,l,f⟩|⟨q,l,f⟩:=f
   ·grind [vwa]
   ·grind [vxm]
   ·unfold vxd at f;rw[Qq]at f;subst f;obtain⟨z,i,rfl⟩:=tY.1 (l:q∈t.z.map jw);have:=(zyc s i<|g.z z i).2;grind
   ·grind [vxc]
   grind [vxb]
  rw[kz0];obtain⟨e,_⟩|⟨j,H,_,_,e⟩:=kz1 (kjl<|ql t) q
  ·rw[e];exact D
  grind
def zyo(t:PTree):Int×Int:=
 if 0<=kk7 t then (4,kk7 t) else if 0<=xu (qq0 t) (qxo t) then (5,xu (qq0 t)<|qxo t) else if qw8 t then (0,0) else (6,0)
theorem pje(d:kq6 L)(h:(uz L).2=none):zzx (ql (uz L).1)=zyo (uz L).1:=by
 have g:=tree_good d h;have s:=kxk d g;generalize (uz L).1=t at g s;have pw:=g.pw d;unfold zzx zyo;rw[pzi g.z (pv3 pw),zyy g.z g.l g.q (vqr pw)];by_cases h1:0<=kk7 t
 ·simp_all
 ·rw[Xy h1,Xy h1];by_cases f:0<=xu (qq0 t) (qxo t)
  ·simp_all
  ·rw[Xy f,Xy f,vkb (jj9 aj) ⟨?_,?_⟩ ?_ g.l g.q]
   ·intro k e;exact(s.nm _<|kwy e (rZ ..)).1
   ·intro v hv;refine⟨g.z v hv,λe=>(s.nm _<|qqm hv ?_).1,λe=>(s.nm _<|qqm hv ?_).1⟩
    ·unfold kxi kyv;simp_all
    ·unfold kxi kyv;simp_all
   ·intro r j p i;exact(s.nm _<|kxv j (zy8 i).2).1
theorem pvz(s:ByteArray)(w:World):Calls prog 33 #[.string s] w λe w'=>jzm s w e w':=by
 have d:∀a:Option Addr,∀l c:Nat,∃a' l' c',Value.slice a l c=.slice a' l' c':=λa l c=>⟨a,l,c,rfl⟩
 by_cases T:800<s.size
 ·have q:qq4 s=(1,0):=by unfold qq4;simp_all
  have⟨f,S⟩:=jS q (qy (w:=w) (o:=.cells #[nS,nS,nS,nS,nS] 68));clear q;go_wp2;refine tK (kqn results33 _ _ w.heap.size _ _ _ _ rfl S underlying68 rfl au) rfl ?_;unfold jzm;rw[ku f];exact⟨jZ _,_,_,_,_,_,rfl,(λe=>mZ),d _ _ _,d _ _ _,d _ _ _,d _ _ _,d _ _ _⟩
 ·have E:s.size<=800:=by omega
  have q:qq4 s=match (jv s).2 with|some k=>(2,(k:Int))|none=>match (uz (jv s).1).2 with|some k=>(3,(k:Int))|none=>zzx (ql (uz (jv s).1).1):=by unfold qq4;grind
  have f:=oz q;clear q;go_in;go_wp21;refine(pw3 s E).mono ?_;rintro e U ⟨u,I⟩;have j:=oz<|(u.block w.heap.size ay).trans (qy);have z:=(jZ w (o:=.cells #[nS,nS,nS,nS,nS] 68)).trans<|u.mono ay;have O:=u.size;simp at O;have x0:=jl j;obtain⟨D,v,rfl,hv⟩|⟨k,G,rfl⟩:=I
  ·rw[D]at f;have M:=kyh E D;have R:=qo jG hv;obtain⟨va,W,vc,rfl⟩:=qh hv;go_wp21;refine(parse_any M R).mono ?_;rintro e Q ⟨x,I⟩;have h:=oz<|(x.block w.heap.size aj).trans j;have A:=z.trans<|x.mono aj;have V:=x.size;clear x0;have x0:=jl h;obtain⟨y,y0,y1,y2,y3,y4,rfl,C⟩|⟨k,G,rfl⟩:=I
   ·rw[y]at f;have t:=xv4 M y;obtain⟨⟨a0,n0,k0,rfl⟩,⟨a1,n1,k1,rfl⟩,⟨a2,n2,k2,rfl⟩,⟨a3,n3,k3,rfl⟩,⟨a4,n4,k4,rfl⟩⟩:=qws C;have i:=C.mono (by omega:w.heap.size+1<=U.heap.size);have⟨m,H⟩:=cpy<|ql (uz (jv s).1).1;rw[<-H]at f i t;have K:=oz H;have L:=pzw (w:=Q.alloc<|.cells #[.slice a0 n0 k0,.slice a1 n1 k1,.slice a2 n2 k2,.slice a3 n3 k3,.slice a4 n4 k4] 68) (i.below<|jZ _) t;clear H;go_wp21
    refine zM L λw3 g=>?_;have P:=g.size;simp at P;have p:=oz<|(g.block w.heap.size ah).trans (zy h);have B:=(g.block Q.heap.size ay).trans<|qy;have J:=(A.alloc aj _).trans<|g.mono ah;have F:=(i.below<|jZ _).below g;clear x0;have x0:=jl p;have g0:=jl B;have N:=wQ p;clear B;go_wp2
    refine tK (kqn results33 _ _ w.heap.size _ _ _ _ rfl (kxy p) underlying68 rfl au) rfl ?_;unfold jzm;rw[<-ku K,ku f];exact⟨qq6 J,_,_,_,_,_,rfl,λ_=>(F.stay ((kjz.refl _ w3).ky7 (b:=w.heap.size) (.inl aj) _ _ _ _ _).block).mono aj,d _ _ _,d _ _ _,d _ _ _,d _ _ _,d _ _ _⟩
   ·rw[G]at f;have N:=wQ h;go_wp2;refine tK (kqn results33 _ _ w.heap.size _ _ _ _ rfl (zy<|kxy h) underlying68 rfl au) rfl ?_;unfold jzm;rw[ku f];exact⟨(qq6 A).alloc (by simp[puts,World.setCell];omega) _,_,_,_,_,_,rfl,(λe=>mZ),d _ _ _,d _ _ _,d _ _ _,d _ _ _,d _ _ _⟩
  ·rw[G]at f;go_wp2;refine tK (kqn results33 _ _ w.heap.size _ _ _ _ rfl (kxy j) underlying68 rfl au) rfl ?_;unfold jzm;rw[ku f];exact⟨qq6 z,_,_,_,_,_,rfl,(λe=>mZ),d _ _ _,d _ _ _,d _ _ _,d _ _ _,d _ _ _⟩
theorem check_any(s:ByteArray)(w:World):Calls prog 16 #[.string s] w λe w'=>rT e (.tuple #[i_ (qq4 s).1,i_ (qq4 s).2])/\oq w w':=by go_in;go_wp21;refine(pvz s w).mono ?_;rintro e g ⟨d,x0,x1,x2,x3,x4,rfl,_,⟨a0,n0,k0,rfl⟩,⟨a1,n1,k1,rfl⟩,⟨a2,n2,k2,rfl⟩,⟨a3,n3,k3,rfl⟩,⟨a4,n4,k4,rfl⟩⟩;have f:=d.size;go_wp2;go_ret2;exact⟨rfl,d.alloc f _⟩
abbrev vyp:=MView×Bool×Int×Int
def noView:MView:=⟨⟨#[]⟩,[],[],[]⟩
def vq9(a:Mach):List ByteArray->Nat->List Int->Option vyp
 |[],_,st=>if st.length<=1000000 then (lookO a st).map λv=>(v,kx2 v,0,0) else none
 |t::l,i,st=>if st.length<=1000000 then (qw3 a.z a.C st t.toList a.X).bind λr=>if r.2 then vq9 a l (i+1) r.1 else some (noView,false,7,i) else none
def xyx(a:Mach)(ts:List ByteArray):Option vyp:=if 60<ts.length then some (noView,false,8,0) else if a.size<=1000000 then vq9 a ts 0 (List.replicate a.size 0) else none
def qyv(w:World)(r:vyp)(e:Ending)(w':World):Prop:=
 ∃ea en ec wa wn wc ba bn bc,rT e (.tuple #[.agg #[.string r.1.x,.slice ea en ec,.slice wa wn wc,.slice ba bn bc,.bool r.2.1],i_ r.2.2.1,i_ r.2.2.2])/\Vw3 w.heap.size w' r.1.xn r.1.xz r.1.xs (.slice ea en ec) (.slice wa wn wc) (.slice ba bn bc)/\oq w w'
structure zz4 (so:Nat)(w:World)(M nb:Nat)(a:Mach):Prop where
 mc:Mc 0 w M nb a.z a.C
 X:∃ta tc cs,w.cell? (Ad M 0)=some (.slice ta a.X.length tc)/\w.ownsRow 0 178 6 (.slice ta a.X.length tc) a.X.length cs/\qqx 0 so w M a.X cs
 q:∃na nc ds,w.cell? (Ad M 1)=some (.slice na a.q.length nc)/\w.ownsRow 0 208 5 (.slice na a.q.length nc) a.q.length ds/\qxn 0 so w M a.q ds
 size:w.cell? (Ad M 5)=some (i_ a.size)
 lt:M<w.heap.size
theorem zz4.below(h:zz4 so w M nb i6)(hb:oq w w'):zz4 so w' M nb i6:=by have d:=yt hb none [];have e:=pz.none w;have⟨f,⟨ta,tc,cs,h1,g,i⟩,⟨m,q,ds,j,k,l⟩,h7,h8⟩:=h;exact⟨f.below hb,⟨ta,tc,cs,(hb.cell (p:=⟨M,0,none⟩) h8).trans h1,qj g hb,i.tk d e ay ay⟩,⟨m,q,ds,(hb.cell (p:=⟨M,1,none⟩) h8).trans j,qj k hb,l.tk d e ay ay⟩,(hb.cell (p:=⟨M,5,none⟩) h8).trans h7,sV h8 hb.size⟩
theorem kzd.xy8(h:kzd lo so w M nb i6.X i6.q i6.j i6.z i6.C i6.size sv nv tv vv):zz4 so w M nb i6:=by have⟨d,⟨c1,h1,k1⟩,⟨c2,e,k2⟩,t,⟨c4,f,k4⟩,k,u,h7⟩:=h;have⟨ta,tc,g,_⟩:=qp h1;have⟨q,s,i,_⟩:=qp e;have⟨va,vc,j,_⟩:=qp f;subst g;subst i;subst j;have⟨l,m,v,x,y,p,_⟩:=kzh d;exact⟨⟨⟨_,_,_,va,vc,_,c4,d,qo jG f,k4⟩,k⟩,⟨ta,tc,c1,l,qo jG h1,k1⟩,⟨q,s,c2,m,qo jG e,k2⟩,p,wQ d⟩
structure MachOk (a:Mach):Prop where
 X:∀s∈a.X,jye s
 q:∀s∈a.q,pjh s
 z:a.z.length<=1000
 sl:a.X.length<=1000000
 nl:a.q.length<=1000000
def jzh(w:World)(a:Option Addr)(ts:List ByteArray):Prop:=∀i (hi:i<ts.length),∃g o,a=some (Ad g o)/\g<w.heap.size/\w.cell? (Ad g (o+i))=some (.string ts[i])
theorem jzh.below(h:jzh w g8 ts)(hb:Below B w w')(f:w.heap.size<=B):jzh w' g8 ts:=λi hi=>by have⟨g,o,e,h1,d⟩:=h i hi;have:=hb.size;exact⟨g,o,e,aj,(hb.cell (p:=⟨g,o+i,none⟩)<|by grind).trans d⟩
theorem zzi(j:w.ownsRow lo 9 1 (.slice pa pn pc) ts.length (ts.map Value.string)):ts.length=pn/\jzh w pa ts:=by have⟨k,l,h,g⟩:=qp j;injection h with d e f;subst d;subst e;subst f;refine⟨rfl,λi hi=>?_⟩;grind
theorem walk_any(pc:Nat)(h:zz4 so w M nb i6)(a0:MachOk i6)(hn:ts.length=pn)(D:jzh w pa ts){i7:vyp}(u:xyx i6 ts=some i7):Calls prog 34 #[pT M,.slice pa pn pc] w λe w'=>qyv w i7 e w':=by
 subst hn;have⟨W,S⟩:=cpy<|w.alloc (.cells #[e_,nS,nS,nS,.bool false] 24);have J:oq w W:=by rw[S];exact jZ w
 have a1:w.heap.size<W.heap.size:=by simp_all
 have V:W.heap[w.heap.size]?=some (.cells #[e_,nS,nS,nS,.bool false] 24 (0,0)):=by rw[S];exact qy
 have a6:=λ(wx:World) (m:oq w wx) (hx:wx.heap[w.heap.size]?=some (.cells #[e_,nS,nS,nS,.bool false] 24 (0,0))) (e:Int) (p:Int)=>(show qyv w (noView,false,e,p) (.returned<|.tuple #[.agg #[e_,nS,nS,nS,.bool false],i_ e,i_ p]) (((((wx.setCell (Ad w.heap.size 0)<|e_).setCell (Ad w.heap.size 1)<|nS).setCell (Ad w.heap.size 2)<|nS).setCell (Ad w.heap.size 3)<|nS).setCell (Ad w.heap.size 4)<|.bool false) from
  ⟨none,0,0,none,0,0,none,0,0,rfl,Vw3.no,qq6 m⟩)
 have⟨G,f⟩:=jS h a0;have r0:=jl V;unfold xyx at u;by_cases y:60<ts.length
 ·rw[lJ y]at u;injection u with u;subst u;have a3:(60:Int)<ts.length:=aj;go_wp2
  exact tK (v:=.tuple #[.agg #[e_,nS,nS,nS,.bool false],i_ 8,i_ 0]) (kqn results34 _ _ w.heap.size _ _ _ _ rfl (qy) underlying24 rfl au) rfl ⟨none,0,0,none,0,0,none,0,0,rfl,Vw3.no,jZ _⟩
 ·rw[Xy y]at u;have B:i6.size<=1000000:=by simp_all
  rw[lJ B]at u;go_in;go_wp21;rw[(oz S.symm)];refine(zw8 W M i6.size (h.below J).size B).mono ?_;rintro e w1 ⟨v1,rfl,N,I⟩;obtain⟨xa,xn,xc,rfl⟩:=qh N;go_wp21;go_loopw [7,8,9,10,11,20] (λx _ _ _ _ i wr=>∃(k:Nat)(st:List Int)(sa:Option Addr)(sn sc:Nat),k<=ts.length/\i=i_ k/\x=.slice sa sn sc/\wr.ownsRow 0 5 1 (.slice sa sn sc) st.length (st.map<|Value.int .u8)/\vq9 i6 (ts.drop k) k st=some i7/\oq w wr/\wr.heap[w.heap.size]?=some (.cells #[e_,nS,nS,nS,.bool false] 24 (0,0))) (λ_ _ _ _ _ i _=>ts.length-(intOf i).toNat);exact⟨0,_,xa,xn,xc,jG,rfl,rfl,(by rw[Qh];exact qo jG N:w1.ownsRow 0 5 1 (.slice xa xn xc) (List.replicate i6.size (0:Int)).length ((List.replicate i6.size (0:Int)).map<|Value.int .u8)),(oz u),((oz J).trans<|I.mono aj),((I.block w.heap.size a1).trans V)⟩;obtain⟨k,st,sa,sn,sc,hk,rfl,rfl,Z,d,m,z⟩:=hrel;have A:=m.size;have H:=wQ z;by_cases L:k<ts.length
  ·obtain⟨g,o,rfl,Y,hc⟩:=(oz D) k L;have e0:Ce wr g (o+k) (.string ts[k]):=(m.cell (p:=⟨g,o+k,none⟩) Y).trans hc;rw[rU L,vq9]at d;have l:st.length<=1000000:=by simp_all
   rw[lJ l]at d;have⟨q,hq,d⟩:=wu.1 d;have⟨P,⟨ta,tc,cs,h1,Q,R⟩,_,_,_⟩:=G.below m;have U:=xyd P Z h1 Q R f.X f.z l f.sl jG hq;have a2:=oz d;generalize ts[k]=t at *;go_wp21;refine U.mono ?_;rintro e w5 ⟨v5,rfl,O,s⟩;obtain⟨a5,l5,c5,rfl⟩:=qh O;have T:=m.trans<|s.mono A;have j:=(s.block w.heap.size H).trans<|oz z;have r0:=jl j;have a4:=wQ j;cases a7:q.2
   ·have hE:i7=(noView,false,7,(k:Int)):=by simp_all
    subst hE;go_wp2;refine tK (v:=.tuple #[.agg #[e_,nS,nS,nS,.bool false],i_ 7,i_ k]) (kqn results34 _ _ w.heap.size _ _ _ _ rfl (kxy j) underlying24 rfl au) rfl ?_;simp_all
   ·have X:=show vq9 i6 (ts.drop<|k+1) (k+1) q.1=some i7 by simp_all
    go_wp2;exact rdM ⟨k+1,q.1,a5,l5,c5,aj,eu,rfl,(qo jG O),X,(oz T),j⟩
  ·have:k=ts.length:=by omega
   subst this;rw[sK,vq9]at d;have l:st.length<=1000000:=by simp_all
   rw[lJ l]at d;have⟨v,hv,d⟩:=wX.1 d;subst d;have⟨P,⟨ta,tc,cs,h1,Q,R⟩,⟨na,nc,ds,h4,h5,h6⟩,_,_⟩:=G.below m;go_wp21;refine(py6 P Z h1 Q R f.X h4 h5 h6 f.q f.z l f.sl f.nl jG hv).mono ?_;rintro e w5 ⟨x5,rfl,⟨C,en,ec,wa,F,E,ba,bn,bc,rfl,hp⟩,s⟩;have j:=(s.block w.heap.size H).trans<|oz z;have r0:=jl j;have K:=pq5 j (bad:=[24]) ak (.string v.x) (.slice C en ec) (.slice wa F E) (.slice ba bn bc)<|.bool (kx2 v);go_wp2
   exact tK (v:=.tuple #[.agg #[.string v.x,.slice C en ec,.slice wa F E,.slice ba bn bc,.bool (kx2 v)],i_ 0,i_ 0]) (kqn results34 _ _ w.heap.size _ _ _ _ rfl (kxy j) underlying24 rfl au) rfl<|(⟨C,en,ec,wa,F,E,ba,bn,bc,rfl,hp.tk K A,qq6<|m.trans (s.mono A)⟩:qyv w (v,kx2 v,0,0) (.returned<|.tuple #[.agg #[.string v.x,.slice C en ec,.slice wa F E,.slice ba bn bc,.bool (kx2 v)],i_ 0,i_ 0]) _)
abbrev jyo(a b:Addr)(x y:Value)(w:World):Prop:=w.cell? a=some x/\w.cell? b=some y
theorem jyo.below{i8 i9:Addr}(h:jyo i8 i9 x0 y w)(hb:Below B w w')(h1:i8.block<B)(d:i9.block<B):jyo i8 i9 x0 y w':=⟨(hb.cell h1).trans h.1,(hb.cell d).trans h.2⟩
theorem jkm{j0:List MStep}{j1:List MNever}{j2:List Int}{d:List MVar}{j4:kq3}(h:NwI w W lo so M nb j0 j1 j2 d j4 B sv nv tv vv wr):M<wr.heap.size:=wQ h.mc.e
def xxq(w:World)(so:Nat)(r:Mach)(e:Ending)(w':World):Prop:=∃M nb sv nv tv vv,rT e (pT M)/\kzd w.heap.size so w' M nb r.X r.q r.j r.z r.C r.size sv nv tv vv/\oq w w'
theorem new_any{j5 j6 j7 j8:Option Addr}{j9 l7 l8 l9 m6 m7 m8:Nat}(hm:kwm so w (.slice g8 lo l8) (.slice j5 B l9) (.slice j6 bb m6) (.slice j7 j9 m7) (.slice j8 l7 m8) m)(hf:MdFit m)(hr:jy5 m=some i6):Calls prog 35 #[mdV g8 j5 j6 j7 j8 lo B bb j9 l7 l8 l9 m6 m7 m8] w λe w'=>xxq w so i6 e w':=by
 unfold jy5 at hr;have⟨T,I,hr⟩:=wu.1 hr;have⟨X,hV,hr⟩:=wu.1 hr;have⟨ST,hS,hr⟩:=wu.1 hr;obtain⟨NV,hN,rfl⟩:=wX.1 hr;obtain⟨rfl,_⟩:=kja hm.o0;have⟨_,aI,_⟩:=hm.o1;obtain⟨rfl,_⟩:=kja aI;obtain⟨rfl,_⟩:=kja hm.o2;have⟨_,bK,_⟩:=hm.o3;obtain⟨rfl,_⟩:=kja bK;have⟨_,bL,_⟩:=hm.o4;obtain⟨rfl,_⟩:=kja bL;have⟨nb,bJ⟩:=cpy<|w.heap.size+1;have⟨M,hM⟩:=cpy<|w.heap.size+1+1;have⟨W,hW⟩:=cpy<|((w.alloc<|.cells #[.slice g8 m.j.length l8,.slice j5 m.p.length l9,.slice j6 m.z.length m6,.slice j7 m.l.length m7,.slice j8 m.q.length m8] 68).alloc<|.map #[] 0).alloc (.cells #[nS,nS,nS,nS,.map (some (w.heap.size+1)),i_ 0] 105);have aV:oq w W:=by rw[hW];exact((jZ w).trans<|(jZ _).mono ay).trans ((jZ _).mono ah)
 have cC:W.heap.size=w.heap.size+3:=by simp_all
 have bB:W.heap[w.heap.size]?=some (.cells #[.slice g8 m.j.length l8,.slice j5 m.p.length l9,.slice j6 m.z.length m6,.slice j7 m.l.length m7,.slice j8 m.q.length m8] 68 (0,0)):=by grind [zy,qy]
 have bC:W.heap[nb]?=some (.map #[] 0):=by grind [qy,zy]
 have bD:W.heap[M]?=some (.cells #[nS,nS,nS,nS,.map<|some nb,i_ 0] 105 (0,0)):=by grind [qy]
 have aU:kkd W nb []:=⟨⟨#[],0,bC,rfl⟩,Jd,λx hx=>by simp_all⟩;have bQ:=oz (show NwI w W w.heap.size so M nb [] [] [] [] [] 0 nS nS nS nS W from
  ⟨⟨bD,⟨[],oN,rfl,λk hk=>by grind⟩,⟨[],oN,rfl,λk hk=>by grind⟩,oN,⟨[],oN,rfl⟩,aU,aj,aj⟩,Tk.refl _ _ _,aV⟩)
 have⟨R,z,J,bZ,bT,bS,HF,HK⟩:=jx (show kwm so W (.slice g8 m.j.length l8) (.slice j5 m.p.length l9) (.slice j6 m.z.length m6) (.slice j7 m.l.length m7) (.slice j8 m.q.length m8) m from hm.stay λk _ hk=>aV.block k hk) aU.no bB hW.symm bJ hM hf I;have⟨HV,bX,bU⟩:=jF hV hS hN;have cG:w.heap.size<nb:=aj;have cH:nb<M:=aj;have cI:M<W.heap.size:=aj;have cL:=hf.j;have cM:=hf.p;have cN:=hf.z;have cO:=hf.l;have cP:=hf.q;clear hr hm aI bK bL aV cC bB bC bD aU hW bJ hM hf I hV hS hN;have cB:∀W:World,(Instr.makeMap 100 none).run prog W=.ok (.map<|some W.heap.size) (W.alloc<|.map #[] 0):=λW=>rfl
 unfold mdV;go_in;go_wp21;clear cB;rw[ku bZ,<-ku bS,<-ku bT];go_loopw [5,22] (λ_ i wr=>∃(k:Nat)(va:Option Addr)(vn vc:Nat),k<=m.j.length/\i=i_ k/\NwI w W w.heap.size so M nb [] [] (kje<|m.j.take k) [] [] 0 nS nS (.slice va vn vc) nS wr) (λ_ i _=>m.j.length-(intOf i).toNat);exact⟨0,none,0,0,jG,rfl,bQ⟩;obtain⟨k,va,vn,vc,hk,rfl,l⟩:=hrel;have Z:=jkm l;have f:=l.tk;have aK:=f.size;by_cases A:k<m.j.length
 ·have F:=(kja<|jq R.o0 f z ak).2;obtain⟨g,rfl,aQ,aR,E⟩:=F k A;have fl:=λj (hj:j<4)=>kqo zjw 4 (λ_=>rfl) m.j k j A hj
  have e0:=(E (k*4+0) aj).trans<|fl 0 aj;have e1:=(E (k*4+1) aj).trans<|fl 1 aj;have e2:=(E (k*4+2) aj).trans<|fl 2 aj;have e3:=(E (k*4+3) aj).trans<|fl 3 aj;simp only[zjw,sW,sU,Qk]at e0 e1 e2 e3;have bW:=oz (by rw[tJ A,kje,Qw];rfl:kje (m.j.take<|k+1)=kje (m.j.take k)++[mg m.j[k].size.x]);have cS:(kje<|m.j.take k).length<=1000:=by simp[kje];omega
  generalize kje (m.j.take k)=Lx at *;generalize m.j[k]=s at *;have⟨m0,m1,m2,m3,m4,m5,_⟩:=kzh l.mc.e;have D:oq wr (wr.alloc<|.cells #[.string s.y.x,i_ s.y.v,i_<|mg s.size.x,i_ s.size.v] 111):=jZ _;have⟨b0,b1,b2,b3,_⟩:=kz3<|qy (w:=wr) (o:=.cells #[.string s.y.x,i_ s.y.v,i_<|mg s.size.x,i_ s.size.v] 111);have⟨O,a6,G⟩:=jF (show jyo ⟨M,2,none⟩ ⟨wr.heap.size,2,none⟩ (.slice va vn vc) (i_<|mg s.size.x) (wr.alloc<|.cells #[.string s.y.x,i_ s.y.v,i_<|mg s.size.x,i_ s.size.v] 111).drew from⟨(D.cell (p:=⟨M,2,none⟩) Z).trans m2,b2⟩) (show oq wr (wr.alloc<|.cells #[.string s.y.x,i_ s.y.v,i_<|mg s.size.x,i_ s.size.v] 111).drew from D.drew) l;clear E fl F l f m0 m1 m2 m3 m4 m5 D b0 b1 b2 b3;go_upto_region 5 with fail
  refine bg (S:=jyo ⟨M,2,none⟩ ⟨wr.heap.size,2,none⟩ (.slice va vn vc)<|i_ (mg s.size.x)) (tl:=[9,10,11,12]) au ?_;refine frS 0 ?_;refine frS 1 ?_;refine frS 2 ?_;refine frS 3 ?_;refine tkS 4 O ?_;refine frS 5 ?_;refine frS 6 ?_;refine tkS 7 O ?_;refine onS 8 λK I=>?_
  go_simp;refine I _ _ (O.below (jZ _) (by simp;omega:M<(wr.alloc _).heap.size) (by simp:wr.heap.size<(wr.alloc _).heap.size)) ?_;clear I K;refine kyj ?_;refine onA 9 λK I=>?_
  refine apL (qj G.mc.j<|a6.alloc a6.size _) (alloc_at (wr.heap.size+1) ay) ?_ (H:=wr.heap.size+2) (hH:=ay);intro gg gcap w4 aS Q cA cJ;refine I _ _ ?_;clear I K;have Q:((wr.alloc<|.cells #[.string s.y.x,i_ s.y.v,i_<|mg s.size.x,i_ s.size.v] 111).drew.alloc<|.cells #[i_ (mg s.size.x)] 3).grownBy w4 (Value.slice va vn vc).ownBlock:=Q;have bM:=pq1 G.mc a6 Q;have⟨m0,m1,m2,m3,m4,m5,f0,f1,f2,f3,f4,f5⟩:=kzh bM;have aX:=xkp G.mc a6 Q aS aj;have bO:=oz (show ∃gv gn gc,NwI w W w.heap.size so M nb [] [] (Lx++[mg s.size.x]) [] [] 0 nS nS (.slice gv gn gc) nS (w4.setCell (Ad M 2)<|sL gg (Lx.length+1) gcap) from by have⟨⟨gv,gn,gc,q1⟩,q2,q3⟩:=aX;exact⟨gv,gn,gc,q1,G.tk.trans<|(q2.wide ak).any _,G.be.trans q3⟩)
  clear bM aS Q cA aX;refine onA 10 λK I=>?_
  go_simp;refine I _ _ ?_;clear I K;refine onA 11 λK I=>?_
  go_simp;refine I _ _ ?_;clear I K;refine onA 12 λK I=>?_
  go_simp;refine I _ _ ?_;clear I K;refine wpAny_done au ?_ _;go_wp2;go_roundw
  case rel=>
   have⟨gv,gn,gc,q⟩:=ku bO;exact⟨k+1,gv,gn,gc,aj,eu,by rw[ku bW];exact q⟩
  case measure=>exact ou
 ·have:k=m.j.length:=by omega
  subst this;rw[Qc]at l;have⟨q0,q1,q2,q3,q4,_⟩:=jl (f.e J (λe=>z _ _ _ _ e J) ak);have G:=oz l;have aB:w.heap.size<wr.heap.size:=aj;clear l f;go_wp21;go_loopw [7,8,9,42] (λ_ _ _ i wr=>∃(k:Nat)(t:kq3),k<=m.p.length/\i=i_ k/\qxb (m.p.drop k) t=some T/\NwI w W w.heap.size so M nb [] [] (kje m.j) [] t 0 nS nS (.slice va vn vc) nS wr) (λ_ _ _ i _=>m.p.length-(intOf i).toNat);exact⟨0,[],jG,rfl,HK,G⟩;obtain⟨k,t,hk,rfl,d,l⟩:=hrel;have Z:=jkm l;have f:=l.tk;have aK:=f.size;clear G;by_cases A:k<m.p.length
  ·have⟨bN,aI,bI⟩:=R.o1;have F:=(kja<|jq aI f z ak).2;obtain⟨g,rfl,aQ,aR,E⟩:=F k A;have⟨ma,mn,mc,U,V,Y,aN⟩:=jjh k A bI;have e0:=(E (k*3) aj).trans U;have e1:=(E (k*3+1) aj).trans V;have e2:=(E (k*3+2) aj).trans Y;obtain⟨rfl,_⟩:=kja aN;rw[rU A,qxb]at d;have⟨T1,bF,d⟩:=wu.1 d;have⟨L,bY⟩:=jS d bF;have cQ:=HF.xy _<|wZ A;have bP:=oz aN;generalize m.p[k]=s at *;have G:=oz<|l.below (jZ wr (o:=.cells #[.string s.y.x,i_ s.y.v,.slice ma s.i.length mc] 114)) aj;clear E U V Y F l f aN d bF aI bI q0 q1 q2 q3 q4;go_wp21
   go_loopw [8,9,49] (λ_ _ i wr=>∃(j:Nat)(t:kq3),j<=s.i.length/\i=i_ j/\jjq (s.i.drop j) j t=some T1/\NwI w W w.heap.size so M nb [] [] (kje m.j) [] t 0 nS nS (.slice va vn vc) nS wr) (λ_ _ i _=>s.i.length-(intOf i).toNat);exact⟨0,t,jG,rfl,bY,G⟩;obtain⟨j,t2,hj,rfl,C,l⟩:=hrel;have Z:=jkm l;have f:=l.tk;have aK:=f.size;clear G;by_cases aY:j<s.i.length
   ·have F:=(kja<|jq bP f z ak).2;obtain⟨g2,rfl,cE,cF,P⟩:=F j aY;have fl:=λq (hq:q<2)=>kqo kzy 2 (λ_=>rfl) s.i j q aY hq
    have e0:=(P (j*2+0) aj).trans<|fl 0 aj;have e1:=(P (j*2+1) aj).trans<|fl 1 aj;simp only[kzy,sW,sU,Qk]at e0 e1;rw[rU aY,jjq]at C;have⟨t3,aL,C⟩:=wu.1 C;obtain⟨rfl,aZ,aM⟩:=jkq aL;have bV:=oz C;generalize s.i[j]=y at *;have⟨m0,m1,m2,m3,m4,m5,_⟩:=kzh l.mc.e;have D:oq wr (wr.alloc<|.cells #[.string y.x,i_ y.v] 107):=jZ _;have⟨b0,b1,_,_⟩:=kj6<|qy (w:=wr) (o:=.cells #[.string y.x,i_ y.v] 107);have O:=oz (⟨(D.cell (p:=⟨M,4,none⟩) Z).trans m4,b0⟩:jyo ⟨M,4,none⟩ ⟨wr.heap.size,0,none⟩ (.map<|some nb) (.string y.x) (wr.alloc<|.cells #[.string y.x,i_ y.v] 107).drew);have h:=l.below (D.drew:oq wr (wr.alloc<|.cells #[.string y.x,i_ y.v] 107).drew) aj;have⟨w5,a5,a4,v⟩:=vz4 (e:=⟨false,j⟩) h.mc.C aZ aM;unfold qx3 at a5;have aO:=oz (show NwI w W w.heap.size so M nb [] [] (kje m.j) [] (t2++[(y.x,⟨false,j⟩)]) 0 nS nS (.slice va vn vc) nS w5 from⟨pjt h.mc v a4,h.tk.trans<|zyj v _,h.be.trans ⟨v.os,v.tape,v.output,v.size,λq hq=>v.block q (by have:=h.be.size;omega) aj⟩⟩);clear P fl F l f h a4 v m0 m1 m2 m3 m4 m5 D b0 b1 aL C aM;go_upto_region 13 with fail
    refine bg (S:=jyo ⟨M,4,none⟩ ⟨wr.heap.size,0,none⟩ (.map<|some nb)<|.string y.x) (tl:=[8]) au ?_;refine frS 0 ?_;refine frS 1 ?_;refine frS 2 ?_;refine tkS 3 O ?_;refine frS 4 ?_;refine tkS 5 O ?_;refine frS 6 ?_;refine frS 7 ?_;refine kyj ?_;refine onA 8 λK I=>?_
    go_simp;refine I _ _ ?_;clear I K;refine wpAny_done au ?_ _;clear a5;go_wp2;exact rdM ⟨j+1,_,aj,eu,bV,aO⟩
   ·have:j=s.i.length:=by omega
    subst this;rw[sK,jjq]at C;injection C with C;subst C;have G:=oz l;clear l f;go_wp2
    exact rdM ⟨k+1,_,aj,eu,L,G⟩
  ·have:k=m.p.length:=by omega
   subst this;rw[sK,qxb]at d;injection d with d;subst d;have⟨q0,q1,q2,q3,q4,_⟩:=jl (f.e J (λe=>z _ _ _ _ e J) ak);have G:=oz l;have aB:w.heap.size<wr.heap.size:=aj;clear l f;go_wp21
   go_loopw [10,11,67] (λ_ _ i wr=>∃(k:Nat)(t:kq3)(vs:List MVar)(sz:Nat)(vv:Value),k<=m.z.length/\i=i_ k/\qjh m.j m.p (m.z.drop k) k t vs sz=some X/\NwI w W w.heap.size so M nb [] [] (kje m.j) vs t sz nS nS (.slice va vn vc) vv wr) (λ_ _ i _=>m.z.length-(intOf i).toNat);exact⟨0,t,[],0,_,jG,rfl,HV,G⟩;obtain⟨k,t,vs,sz,vv,hk,rfl,d,l⟩:=hrel;have Z:=jkm l;have f:=l.tk;have aK:=f.size;clear G;by_cases A:k<m.z.length
   ·have F:=(kja<|jq R.o2 f z ak).2;obtain⟨g,rfl,aQ,aR,E⟩:=F k A;have fl:=λj (hj:j<10)=>kqo kjs 10 (λ_=>rfl) m.z k j A hj
    have cc:=λj (hj:j<10)=>(E (k*10+j) aj).trans<|fl j hj
    have e0:=cc 0 aj;have e1:=cc 1 aj;have e2:=cc 2 aj;have e3:=cc 3 aj;have e4:=cc 4 aj;have e5:=cc 5 aj;have e6:=cc 6 aj;have e7:=cc 7 aj;have e8:=cc 8 aj;have e9:=cc 9 aj;simp only[kjs,sW,sU,Qk]at e0 e1 e2 e3 e4 e5 e6 e7 e8 e9;rw[rU A,qjh]at d;have⟨t3,aL,d⟩:=wu.1 d;obtain⟨rfl,aZ,aM⟩:=jkq aL;have hcond:sz<=100000/\vs.length<=1000:=by simp_all
    rw[lJ hcond]at d;have⟨u,hu,d⟩:=wu.1 d;have⟨L,HU⟩:=jS d hu;generalize m.z[k]=s at *;have⟨m0,m1,m2,m3,m4,m5,_⟩:=kzh l.mc.e;have D:oq wr (wr.alloc<|.cells #[.string s.y.x,i_ s.y.v,.bool s.K,.string s.g.x,i_ s.g.v,i_ s.si.I,i_ (mg s.si.R.x),i_ s.si.R.v,.string s.si.y.x,i_ s.si.y.v] 121):=jZ _;have aP:=qy (w:=wr) (o:=.cells #[.string s.y.x,i_ s.y.v,.bool s.K,.string s.g.x,i_ s.g.v,i_ s.si.I,i_ (mg s.si.R.x),i_ s.si.R.v,.string s.si.y.x,i_ s.si.y.v] 121);have⟨⟨b0,b1,b2,b3,b4,b5,b6,b7,b8,b9⟩,_⟩:=kju aP;have O:=oz (⟨(D.cell (p:=⟨M,4,none⟩) Z).trans m4,b0⟩:jyo ⟨M,4,none⟩ ⟨wr.heap.size,0,none⟩ (.map<|some nb) (.string s.y.x) (wr.alloc<|.cells #[.string s.y.x,i_ s.y.v,.bool s.K,.string s.g.x,i_ s.g.v,i_ s.si.I,i_ (mg s.si.R.x),i_ s.si.R.v,.string s.si.y.x,i_ s.si.y.v] 121).drew);have h:=l.below (D.drew:oq wr (wr.alloc<|.cells #[.string s.y.x,i_ s.y.v,.bool s.K,.string s.g.x,i_ s.g.v,i_ s.si.I,i_ (mg s.si.R.x),i_ s.si.R.v,.string s.si.y.x,i_ s.si.y.v] 121).drew) aj;have⟨w5,a5,a4,v⟩:=vz4 (e:=⟨true,k⟩) h.mc.C aZ aM;unfold qx3 at a5;have aC:NwI w W w.heap.size so M nb [] [] (kje m.j) vs (t++[(s.y.x,⟨true,k⟩)]) sz nS nS (.slice va vn vc) vv w5:=⟨pjt h.mc v a4,h.tk.trans<|zyj v _,h.be.trans ⟨v.os,v.tape,v.output,v.size,λq hq=>v.block q (by have:=h.be.size;omega) aj⟩⟩;have cR:wr.heap.size<w5.heap.size:=by have:=v.size;simp at this;omega
    have aW:=(zyj v []).e (aP:Rw ((wr.alloc<|.cells #[.string s.y.x,i_ s.y.v,.bool s.K,.string s.g.x,i_ s.g.v,i_ s.si.I,i_<|mg s.si.R.x,i_ s.si.R.v,.string s.si.y.x,i_ s.si.y.v] 121).drew) wr.heap.size #[.string s.y.x,i_ s.y.v,.bool s.K,.string s.g.x,i_ s.g.v,i_ s.si.I,i_<|mg s.si.R.x,i_ s.si.R.v,.string s.si.y.x,i_ s.si.y.v] 121) (λe=>h.mc.C.no _ _ _ _ e aP) ay;have⟨⟨d0,d1,d2,d3,d4,d5,d6,d7,d8,d9⟩,_⟩:=kju aW;have⟨q0,q1,q2,q3,q4,_⟩:=jl (aC.tk.e J (λe=>z _ _ _ _ e J) ak);have aT:=oz<|vyz aC.mc (R.tk aC.tk z ak) HF HU aj aj aj;unfold mdV vrV kjs at aT;have aO:=oz aC;clear E cc fl F l f h a4 v aC m0 m1 m2 m3 m4 m5 D aP aW b0 b1 b2 b3 b4 b5 b6 b7 b8 b9 aL d aM hu;go_upto_region 19 with fail
    refine bg (S:=jyo ⟨M,4,none⟩ ⟨wr.heap.size,0,none⟩ (.map<|some nb)<|.string s.y.x) (tl:=[9]) au ?_;refine frS 0 ?_;refine frS 1 ?_;refine frS 2 ?_;refine tkS 3 O ?_;refine frS 4 ?_;refine frS 5 ?_;refine tkS 6 O ?_;refine frS 7 ?_;refine frS 8 ?_;refine kyj ?_;refine onA 9 λK I=>?_
    go_simp;refine I _ _ ?_;clear I K;refine wpAny_done au ?_ _;clear a5;go_wp21;refine zM aT ?_;rintro w6 ⟨⟨cD,a2⟩,a1,a0⟩;have a9:=oz (show NwI w W w.heap.size so M nb [] [] (kje m.j) (vs++[u]) (t++[(s.y.x,⟨true,k⟩)]) (sz+u.d) nS nS (.slice va vn vc) cD w6 from⟨a2,aO.tk.trans<|(a1.wide ak).any _,aO.be.trans a0⟩);clear a2 a1 a0 aT d0 d1 d2 d3 d4 d5 d6 d7 d8 d9 q0 q1 q2 q3 q4;go_wp2;exact rdM ⟨k+1,_,_,_,_,aj,eu,L,a9⟩
   ·have:k=m.z.length:=by omega
    subst this;rw[sK,qjh]at d;injection d with d;subst d;have⟨q0,q1,q2,q3,q4,_⟩:=jl (f.e J (λe=>z _ _ _ _ e J) ak);have G:=oz l;have aB:w.heap.size<wr.heap.size:=aj;clear l f;go_wp21
    go_loopw [13,89] (λ_ i wr=>∃(k:Nat)(acc:List MStep)(sv:Value),k<=m.l.length/\i=i_ k/\qqo m.j (m.l.drop k) acc=some ST/\NwI w W w.heap.size so M nb acc [] (kje m.j) vs t sz sv nS (.slice va vn vc) vv wr) (λ_ i _=>m.l.length-(intOf i).toNat);exact⟨0,[],_,jG,rfl,bX,G⟩;obtain⟨k,acc,sv,hk,rfl,d,l⟩:=hrel;have Z:=jkm l;have f:=l.tk;have aK:=f.size;clear G;by_cases A:k<m.l.length
    ·have⟨bN,ho,aJ⟩:=R.o3;have F:=(kja<|jq ho f z ak).2;obtain⟨g,rfl,aQ,aR,E⟩:=F k A;have⟨pa,pn,pc,gp,ba,bn,bc,cK,⟨U,V,Y,aA,bA⟩,hp,hx,bH,bG⟩:=kvy.v k A aJ;have e0:=(E (k*5) aj).trans U;have e1:=(E (k*5+1) aj).trans V;have e2:=(E (k*5+2) aj).trans Y;have e3:=(E (k*5+3) aj).trans aA;have e4:=(E (k*5+4) aj).trans bA;rw[rU A,qqo]at d;have⟨c,aH,d⟩:=wu.1 d;have hcond:qzf m.l[k] c acc.length=true:=by simp_all
     rw[lJ hcond]at d;have⟨aD,P,aE,aF,aG⟩:=zzm hcond;have L:=oz d;have D:oq wr (wr.alloc<|.cells #[.string m.l[k].y.x,i_ m.l[k].y.v,.slice pa pn pc,.pointer gp,.slice ba bn bc] 127):=jZ _;have h:=l.below D aj;have N:=oz<|jys h.mc (R.tk h.tk z ak) HF aG (jq hp h.tk z ak) aF (hx.tk h.tk z ak) (jq bH h.tk z ak) (bG.tk h.tk z ak ak) aH aD P aE ah;unfold mdV at N;have⟨q0,q1,q2,q3,q4,_⟩:=jl (f.e J (λe=>z _ _ _ _ e J) ak);have aB:w.heap.size<wr.heap.size:=aj;have⟨a7,a8⟩:=jS h (show zjm m.l[k]=λms=>(⟨kv0 m.l[k].y.x ms,m.l[k].u,ms,m.l[k].guard,m.l[k].S⟩:MStep) from rfl);rw[<-ku a8]at N;clear a8;generalize zjm m.l[k]=mk at *;generalize m.l[k]=s at *;clear E U V Y aA bA F l f h D hp hx bH bG d aH hcond aD P aE aF aG ho aJ;go_wp21
     refine zM N ?_;rintro w6 ⟨⟨gv,gn,gc,a2⟩,a1,a0⟩;have a9:=oz (show NwI w W w.heap.size so M nb (acc++c.map mk) [] (kje m.j) vs t sz (.slice gv gn gc) nS (.slice va vn vc) vv w6 from⟨a2,a7.tk.trans<|(a1.wide ak).any _,a7.be.trans a0⟩);clear a2 a1 a0 N q0 q1 q2 q3 q4 e0 e1 e2 e3 e4;go_wp2;exact rdM ⟨k+1,_,_,aj,eu,L,a9⟩
    ·have:k=m.l.length:=by omega
     subst this;rw[sK,qqo]at d;injection d with d;subst d;have⟨q0,q1,q2,q3,q4,_⟩:=jl (f.e J (λe=>z _ _ _ _ e J) ak);have G:=oz l;have aB:w.heap.size<wr.heap.size:=aj;clear l f;go_wp21
     go_loopw [15,101] (λ_ i wr=>∃(k:Nat)(a3:List MNever)(nv:Value),k<=m.q.length/\i=i_ k/\kvf m.j (m.q.drop k) a3=some NV/\NwI w W w.heap.size so M nb acc a3 (kje m.j) vs t sz sv nv (.slice va vn vc) vv wr) (λ_ i _=>m.q.length-(intOf i).toNat);exact⟨0,[],_,jG,rfl,bU,G⟩;obtain⟨k,a3,nv,hk,rfl,d,l⟩:=hrel;have Z:=jkm l;have f:=l.tk;have aK:=f.size;clear G;by_cases A:k<m.q.length
     ·have⟨bN,ho,aJ⟩:=R.o4;have F:=(kja<|jq ho f z ak).2;obtain⟨g,rfl,aQ,aR,E⟩:=F k A;have⟨pa,pn,pc,gp,⟨U,V,Y,aA⟩,hp,hx⟩:=kvg.v k A aJ;have e0:=(E (k*4) aj).trans U;have e1:=(E (k*4+1) aj).trans V;have e2:=(E (k*4+2) aj).trans Y;have e3:=(E (k*4+3) aj).trans aA;rw[rU A,kvf]at d;have⟨c,aH,d⟩:=wu.1 d;have hcond:qzf m.q[k] c a3.length=true:=by simp_all
      rw[lJ hcond]at d;have⟨aD,P,aE,aF,aG⟩:=zzm hcond;have L:=oz d;have D:oq wr (wr.alloc<|.cells #[.string m.q[k].y.x,i_ m.q[k].y.v,.slice pa pn pc,.pointer gp] 130):=jZ _;have h:=l.below D aj;have N:=oz<|jxg h.mc (R.tk h.tk z ak) HF aG (jq hp h.tk z ak) aF (hx.tk h.tk z ak) aH aD P aE ah;unfold mdV at N;have⟨q0,q1,q2,q3,q4,_⟩:=jl (f.e J (λe=>z _ _ _ _ e J) ak);have aB:w.heap.size<wr.heap.size:=aj;have⟨a7,a8⟩:=jS h (show qvv m.q[k]=λms=>(⟨kv0 m.q[k].y.x ms,m.q[k].u,ms,m.q[k].guard⟩:MNever) from rfl);rw[<-ku a8]at N;clear a8;generalize qvv m.q[k]=mk at *;generalize m.q[k]=s at *;clear E U V Y aA F l f h D hp hx d aH hcond aD P aE aF aG ho aJ;go_wp21
      refine zM N ?_;rintro w6 ⟨⟨gv,gn,gc,a2⟩,a1,a0⟩;have a9:=oz (show NwI w W w.heap.size so M nb acc (a3++c.map mk) (kje m.j) vs t sz sv (.slice gv gn gc) (.slice va vn vc) vv w6 from⟨a2,a7.tk.trans<|(a1.wide ak).any _,a7.be.trans a0⟩);clear a2 a1 a0 N q0 q1 q2 q3 q4 e0 e1 e2 e3;go_wp2;exact rdM ⟨k+1,_,_,aj,eu,L,a9⟩
     ·have:k=m.q.length:=by omega
      subst this;rw[sK,kvf]at d;injection d with d;subst d;have G:=oz l;clear l f;go_wp2
      go_ret;exact⟨M,nb,_,_,_,_,rfl,G.mc,G.be⟩
end Go.Proofs.YtpmcnonmkghokaaGreatDoor

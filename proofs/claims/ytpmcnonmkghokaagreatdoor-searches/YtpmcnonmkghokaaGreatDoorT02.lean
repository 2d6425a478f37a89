import Derived.Test.YtpmcnonmkghokaaGreatDoorT01
import Derived.Test.YtpmcnonmkghokaaGreatDoorT00
import Derived.Deep.AppendLies
import Derived.Deep.RegionLaw
import Derived.Deep.DrawnRows
import Derived.Deep.CutRange
import Derived.Deep.RegionWith
set_option maxRecDepth 100000
set_option maxHeartbeats 4000000
set_option linter.unusedVariables false
set_option linter.unusedSimpArgs false
namespace Go.Proofs.YtpmcnonmkghokaaGreatDoor
open Go.Proofs.Tryz Go.RowKit
attribute [local go_sem ↓] Go.wp_at_zero Go.wp_at_succ
variable {b7:Bool}{a5 g9 op:ByteArray}{i0:ELab}{h8:List PP}{p:List PP×RS}{L acc:List Tok}{g4:List Tok×RS}{l r:List UInt8}{cs ds xs zs:List Value}{B B0 B1 F P b base e f g j lo lo' n size tag vc vn:Nat}{o:Obj}{e5:Option Addr}{no no':Option Nat}{b9:PB}{e9:PB×RS}{g8:PRule}{t:PTree}{a8 x:PX}{a9 fin:PX×RS}{s s' s1 s3 st st0:RS}{blk:RS->PB×RS}{b8:SLab}{a7 name:Tok}{k:Tok×RS}{e8:TypeId}{c:UInt8}{v va vb x0 x1 x2 x3 x4 x5 x6 x7 x8 x9 y y0 y1 y2 y3 y4 y5 y6 y7 y8 y9:Value}{a w w' wx wy:World}
def opN(o:List UInt8):Int:=
 if o==nJ then 0 else if o==nZ then 1 else if o==mG then 2 else if o==mW then 3 else if o==ng then 4
 else if o==[33] then 5 else if o==[38] then 6 else if o==[124] then 7 else if o==[61,61] then 8 else if o==[33,61] then 9 else if o==[60] then 10 else if o==[43] then 11 else if o==[45] then 12 else 13
def kyu(x:ELab)(a b:Value):Array Value:=#[.int .i64 (opN x.op.toList),.int .i64 x.n,.string x.y.x,.int .i64 x.y.v,.bool (!(x.c.t.toList==[])),.string x.c.x,.int .i64 x.c.v,a,b]
def XIs(lo:Nat)(w:World):PX->Value->Prop
 |.nil,v=>v=.pointer none
 |.node _ _ x a b,v=>∃k va vb,v=.pointer (some ⟨k,0,none⟩)/\lo<=k/\w.heap[k]?=some (.cells (kyu x va vb) 358 (0,0))/\XIs lo w a va/\XIs lo w b vb
theorem XIs.ptr(h:XIs lo w x v):∃p,v=.pointer p:=by
 cases x with
 |nil=>exact⟨_,h⟩
 |node _ _ _ _ _=>obtain⟨k,_,_,e,_⟩:=h;simp_all
theorem XIs.stay(a:∀k,lo<=k->k<w.heap.size->w'.heap[k]?=w.heap[k]?):∀{x:PX}{v:Value},XIs lo w x v->XIs lo w' x v
 |.nil,_,h=>h
 |.node _ _ _ _ _,_,⟨k,va,vb,e,hn,hh,ha,hb⟩=>⟨k,va,vb,e,hn,by grind,ha.stay a,hb.stay a⟩
theorem XIs.kept(h:XIs lo w x v)(b:Kept P w w')(c:P<lo):XIs lo w' x v:=
 h.stay λk h1 a=>b.block k a aj
theorem XIs.below(h:XIs lo w x v)(b:oq w w'):XIs lo w' x v:=
 h.stay λk _ a=>b.block k a
theorem XIs.mono(a:lo'<=lo):∀{x:PX}{v:Value},XIs lo w x v->XIs lo' w x v
 |.nil,_,h=>h
 |.node _ _ _ _ _,_,⟨k,va,vb,e,hn,hh,ha,hb⟩=>⟨k,va,vb,e,rP a hn,hh,ha.mono a,hb.mono a⟩
theorem XIs.new{x:ELab}{a b:PX}{a0:Array Value}(c:XIs lo w a va)(hb:XIs lo w b vb)(e:lo<=w.heap.size)(d:a0=kyu x va vb):XIs lo (w.alloc<|.cells a0 358) (.node 0 0 x a b) (.pointer<|some ⟨w.heap.size,0,none⟩):=by subst d;exact⟨_,va,vb,rfl,e,jF,c.below<|jZ _,hb.below<|jZ _⟩
theorem dh:zh.t.toList=[]:=jh _
theorem qz3{a6:Int}(h:opN a5.toList=a6):#[Value.int .i64 a6,.int .i64 0,.string ⟨#[]⟩,.int .i64 0,.bool false,.string ⟨#[]⟩,.int .i64 0,va,vb]=kyu {op:=a5,y:=zh,c:=zh,n:=0} va vb:=by unfold kyu;simp only;rw[h,dh];rfl
theorem pxf{n:Int}:#[Value.int .i64 3,.int .i64 n,.string ⟨#[]⟩,.int .i64 0,.bool false,.string ⟨#[]⟩,.int .i64 0,.pointer none,.pointer none]=kyu {op:=qj0,y:=zh,c:=zh,n:=n} (.pointer none) (.pointer none):=by unfold kyu;simp only;rw[show qj0.toList=mW from jh _,dh];rfl
def EPost(P:Nat)(v:Value)(L:List Tok)(w:World)(r:PX×RS)(e:Ending)(w':World):Prop:=
 ∃p t,e=.returned (.pointer p)/\XIs w.heap.size w' t (.pointer p)/\(r.2.s=false->t=r.1)/\Pd w' P v L r.2/\Kept P w w'
theorem pqw(h:Pd w P v L st):og 152 #[.pointer (some ⟨P,0,none⟩)] w λe w'=>∃t,e=.returned (ptV t)/\kzx t.x 0=kqf L mW st/\(kzq t.x 0&&!qwu t.x)=kqf L mX st/\oq w w':=by obtain⟨r,h1,c⟩:=h;exact(qwm h1).mono λe w' ⟨a,b⟩=>⟨_,a,c.digit h1.ok,c.y h1.ok,b⟩
def kxf(f:Nat)(L:List Tok)(st:RS):PX×RS:=
 if st.s then (qj1,st)
 else if zk L [40] st then ((rX f 0 .nil L<|qg L [40] st).1,qg L [41] (rX f 0 .nil L<|qg L [40] st).2)
 else if isConst (tk L st.v) then (opX (tk L st.v).x .nil .nil,{st with v:=st.v+1})
 else if zxk (tk L st.v) then (vwe<|mg (tk L st.v).x,{st with v:=st.v+1})
 else kqy L st
theorem xjs(f n:Nat)(x:PX)(L:List Tok)(st:RS)(h:zk L [33] st=false):rX (f+1) (20+n) x L st=kxf f L st:=by grind [zy3,kxf]
theorem jws(h:st.s=true):(kqy L st).2=st:=by grind [kqy,kza,kqk]
theorem jkv(L:List Tok)(st:RS):(plT L st).2.2.2=(kqy L st).2:=by grind [plT,kqy,vvs,sqT]
theorem zvi(st:RS)(d:kq6 L)(c:st.v<L.length):∃x:ELab,#[Value.int .i64 4,.int .i64 0,.string (plT L st).1.x,.int .i64 (plT L st).1.v,.bool (plT L st).2.1,.string (plT L st).2.2.1.x,.int .i64 (plT L st).2.2.1.v,.pointer none,.pointer none]=kyu x (.pointer none) (.pointer none) /\
  ((kqy L st).2.s=false->.node 0 0 x .nil .nil=(kqy L st).1):=by
 have a:qja.toList=ng:=jh _;unfold plT kqy vvs sqT;simp only;cases hn:zk L [91] (zq L mX st).2
 ·refine⟨{op:=qja,y:=(zq L mX st).1,c:=zh,n:=0},?_,λ_=>rfl⟩;unfold kyu;simp only[ru,Xv];rw[a,dh];rfl
 ·simp only[Xw];cases hb:(qg L [93] (zq L mX<|qg L [91] (zq L mX st).2).2).s
  ·refine⟨{op:=qja,y:=(zq L mX st).1,c:=(zq L mX<|qg L [91] (zq L mX st).2).1,n:=0},?_,λ_=>rfl⟩;have e:=kz2 hb;have b:((zq L mX<|qg L [91] (zq L mX st).2).1.t.toList==[])=false:=by grind [zq,kqf]
   unfold kyu;simp only;rw[a,b];rfl
  ·refine⟨{op:=qja,y:=(zq L mX st).1,c:={t:=zw4,x:=(zq L mX<|qg L [91] (zq L mX st).2).1.x,v:=(zq L mX<|qg L [91] (zq L mX st).2).1.v},n:=0},?_,λh=>ig⟩;unfold kyu;simp only;rw[a,show zw4.toList=mX from jh _];rfl
theorem kz8(h:zk L l st=true):(tk L st.v).x.toList=l/\st.s=false:=by grind [zk,qqb]
theorem zxn.pkv(h:zxn a7)(a:l∈lits)(c:a7.x.toList=l)(d:kzq a7.x 0=true):(a7.t.toList==nV)=true:=by have h1:=h.lit l a;have b:=h.word;grind [vj9]
theorem zkn(h:a5.toList=c::r):kzq a5 0=(decide (97<=(c.toNat:Int))&&decide ((c.toNat:Int)<=122)):=by have d:0<a5.size:=qwq (by simp_all);have ⟨f,r',e,b⟩:=qy4 97 122 a5 d;rw[h]at e;injection e with a _;subst a;exact b
theorem qkl(f:kq6 L)(b:st.v<L.length)(hb:st.s=false):isConst (tk L st.v)=(zk L nJ st||zk L nZ st||zk L mG st):=by
 have d:=f.ok _ b;have key:∀l:List UInt8,l∈lits->(∃c r,l=c::r/\(decide (97<=(c.toNat:Int))&&decide ((c.toNat:Int)<=122))=true)->zk L l st=(((tk L st.v).t.toList==nV)&&((tk L st.v).x.toList==l)):=by
  intro l h ⟨c,r,e,g⟩;unfold zk qqb;rw[hb];cases a:((tk L st.v).x.toList==l)
  ·simp
  ·rw[su]at a;have:=d.pkv h a (by rw[zkn (a.trans e)];exact g);simp_all
 rw[key _ ak ⟨_,_,rfl,ak⟩,key _ ak ⟨_,_,rfl,ak⟩,key _ ak ⟨_,_,rfl,ak⟩];grind [isConst]
theorem jvz(hb:st.s=false):zxk (tk L st.v)=kqf L mW st:=by unfold zxk kqf;simp_all
def qvi(n F f:Nat):Prop:=∀(w:World)(P:Nat)(v:Value)(L:List Tok)(st:RS),Pd w P v L st->(st.s=false->8*(L.length-st.v)+(7-n)<=f) ->
 Calls prog F #[.pointer (some ⟨P,0,none⟩)] w λe w'=>EPost P v L w (rX f n .nil L st) e w'
theorem xq5(a b:Int)(w:World):(Instr.field 109 (.agg #[.int .i64 a,.int .i64 b]) 0).run prog w=.ok (.int .i64 a) w:=au
theorem zxd(f:Nat)(P:Nat)(v:Value)(L:List Tok)(st:RS)(hE:st.s=false->qvi 0 210 f)(h:Pd w P v L st)(hf:st.s=false->8*(L.length-st.v)+1<=f):Calls prog 299 #[.pointer (some ⟨P,0,none⟩)] w λe w'=>EPost P v L w (kxf f L st) e w':=by
 have hX:=h.in;have hL:=h.ok;have Y:=h.lt;go_in;go_wp21;refine(qzj [40] ak h).mono ?_;rintro e w1 ⟨rfl,M,E⟩;cases hp:zk L [40] st
 ·go_wp21;refine(kxm nJ ak M).mono ?_;rintro e w2 ⟨rfl,l,z⟩;have b:=E.trans z;have C:=b.size;cases ht:zk L nJ st
  ·rw[qj6 ht]at l;have m:=oz l;clear l;go_wp21;refine(kxm nZ ak m).mono ?_;rintro e w3 ⟨rfl,u,A⟩;have d:=b.trans A;have Z:=d.size;cases J:zk L nZ st
   ·rw[qj6 J]at u;have q:=oz u;clear u;go_wp21;refine(kxm mG ak q).mono ?_;rintro e w4 ⟨rfl,y,j⟩;have g:=d.trans j;have a0:=g.size;cases K:zk L mG st
    ·rw[qj6 K]at y;have k:=oz y;clear y;go_wp21;refine(pqw k).mono ?_;rintro e w5 ⟨t,rfl,I,_,G⟩;have O:=g.trans<|.of_below G;have H5:=k.below G;go_wp21
     refine(zzv t).mono ?_;rintro e w6 ⟨rfl,H⟩;rw[I];have F:=O.trans<|.of_below H;have N:=H5.below H;clear I;cases hd:kqf L mW st
     ·go_wp21;refine(jqr N).mono ?_;rintro e w7 ⟨rfl,s,B⟩;rw[jkv]at s;have a:=oz (show(kxf f L st).2=(kqy L st).2/\((kqy L st).2.s=false->(kxf f L st).1=(kqy L st).1) by grind [kxf,qkl,jvz,jws])
      obtain⟨x,(S:Hid _),(a3:Hid _)⟩:=zvi st hL Y;have i:=F.trans B;have D:=i.size;generalize plT L st=pt at *;unfold plV;go_wp2;go_ret;refine⟨_,.node 0 0 x .nil .nil,rfl,XIs.new rfl rfl D S,?_,?_,i.alloc _⟩
      ·grind [ku]
      ·rw[(ku a).1];exact s.alloc _
     ·have hb:st.s=false:=by grind [kqf]
      have a:=oz (show kxf f L st=(vwe<|mg (tk L st.v).x,{st with v:=st.v+1}) by grind [kxf,qkl,jvz])
      have Q:=oz (by unfold zq;simp_all:zq L mW st=(tk L st.v,{st with v:=st.v+1}));go_wp21;refine(zv7 N).mono ?_;rintro e w7 ⟨rfl,s,B⟩;rw[ku Q]at s |-;have i:=F.trans B;have D:=i.size;have a4:=xq5 (mg (tk L st.v).x) (tk L st.v).v;unfold dgV;go_wp2
      go_ret;rw[ku a];exact⟨_,vwe<|mg (tk L st.v).x,rfl,XIs.new rfl rfl D<|pxf,λ_=>rfl,s.alloc _,i.alloc _⟩
    ·have ⟨c,hb⟩:=kz8 K;have a:=oz (show kxf f L st=(opX (tk L st.v).x .nil .nil,{st with v:=st.v+1}) by grind [kxf,qkl])
     have X:zze L mG st={st with v:=st.v+1}:=mJ;rw[X]at y;have k:=oz y;clear X;go_wp2;go_ret;rw[ku a];exact⟨_,opX (tk L st.v).x .nil .nil,rfl,XIs.new rfl rfl a0 (qz3 (by rw[c];rfl)),λ_=>rfl,k.alloc _,g.alloc _⟩
   ·have ⟨c,hb⟩:=kz8 J;have a:=oz (show kxf f L st=(opX (tk L st.v).x .nil .nil,{st with v:=st.v+1}) by grind [kxf,qkl])
    have W:zze L nZ st={st with v:=st.v+1}:=mJ;rw[W]at u;have q:=oz u;clear W;go_wp2;go_ret;rw[ku a];exact⟨_,opX (tk L st.v).x .nil .nil,rfl,XIs.new rfl rfl Z (qz3 (by rw[c];rfl)),λ_=>rfl,q.alloc _,d.alloc _⟩
  ·have ⟨c,hb⟩:=kz8 ht;have a:=oz (show kxf f L st=(opX (tk L st.v).x .nil .nil,{st with v:=st.v+1}) by grind [kxf,qkl])
   have V:zze L nJ st={st with v:=st.v+1}:=mJ;rw[V]at l;have m:=oz l;clear V;go_wp2;go_ret;rw[ku a];exact⟨_,opX (tk L st.v).x .nil .nil,rfl,XIs.new rfl rfl C (qz3 (by rw[c];rfl)),λ_=>rfl,m.alloc _,b.alloc _⟩
 ·have ⟨c,hb⟩:=kz8 hp;have a:=oz (show kxf f L st=((rX f 0 .nil L<|qg L [40] st).1,qg L [41] (rX f 0 .nil L<|qg L [40] st).2) by unfold kxf;simp_all)
  go_wp21;refine(qwr [40] ak rfl M).mono ?_;rintro e w2 ⟨rfl,m,z⟩;have a2:=yh L [40] st;have a5:(qg L [40] st).s=false->(qg L [40] st).v=st.v+1:=qqd;have b:=E.trans z;have C:=b.size;generalize qg L [40] st=s2 at *;go_wp21;refine(hE hb _ P v L s2 m<|λl=>by grind).mono ?_;rintro e w3 ⟨p,t,rfl,a1,(R:Hid _),q,A⟩;have d:=b.trans A;have T:=a1.mono C;generalize rX f 0 .nil L s2=r3 at *;go_wp21;refine(qxi [41] ak rfl rfl q).mono ?_;rintro e w4 ⟨rfl,k,j⟩;have g:=d.trans j;have U:=T.kept j hX;go_wp2;go_ret;rw[ku a];exact⟨p,t,rfl,U,λhb=>R<|kz2 hb,k,g⟩
def zxc:Nat->PX->PX
 |0,x=>x
 |n+1,x=>opX zvh (zxc n x) .nil
theorem vk6:∀(n:Nat)(x:PX),zxc n (opX zvh x .nil)=zxc (n+1) x
 |0,_=>rfl
 |n+1,x=>by rw[zxc,vk6 n x];rfl
theorem xjf(h:zk L [33] st=true)(hn:n≠12):rX (f+1) (20+n) x L st=(opX zvh (rX f (20+(n+1)) .nil L (qg L [33] st)).1 .nil,(rX f (20+(n+1)) .nil L (qg L [33] st)).2):=by rw[zy3,h,(kz8 h).2];simp[hn]
theorem pzz(h:zk L [33] st=true):rX (f+1) (20+12) x L st=(qj1,{st with s:=true}):=by rw[zy3,h,(kz8 h).2];simp
def zvw(L:List Tok)(fin:PX×RS)(j g:Nat)(s:RS):Prop:=
 fin=(zxc j (rX g (20+j) .nil L s).1,(rX g (20+j) .nil L s).2)/\(s.s=false->8*(L.length-s.v)+2<=g)
theorem vk8(h:zvw L fin j g s)(hn:zk L [33] s=true)(b:j≠12)(d:s.v<L.length):zvw L fin (j+1) (g-1) {s with v:=s.v+1}:=by obtain⟨h1,a⟩:=h;have hb:=(kz8 hn).2;have e:=a hb;obtain⟨g,rfl⟩:=qqy g;rw[xjf hn b]at h1;have c:qg L [33] s={s with v:=s.v+1}:=jW;rw[c]at h1;simp only[Zr];refine⟨?_,λ_=>by grind⟩;rw[h1,vk6]
theorem vyq(h:zvw L fin j g s)(hn:zk L [33] s=false):fin.2=(kxf (g-1) L s).2/\((kxf (g-1) L s).2.s=false->fin.1=zxc j (kxf (g-1) L s).1):=by
 obtain⟨h1,a⟩:=h;cases hb:s.s
 ·have b:=a hb;obtain⟨g,rfl⟩:=qqy g;grind [xjs]
 grind [kxf,kk2]
theorem pk8(h:zvw L fin 12 g s)(hn:zk L [33] s=true):fin.2=(kxf 0 L {s with s:=true}).2/\((kxf 0 L {s with s:=true}).2.s=false->fin.1=zxc 12 (kxf 0 L {s with s:=true}).1):=by obtain⟨h1,a⟩:=h;have hb:=(kz8 hn).2;have b:=a hb;obtain⟨g,rfl⟩:=qqy g;grind [pzz,kxf]
theorem Pd.E(h:Pd w P v L s)(hb:s.s=false)(b:s.v+1<L.length):w.cell? ⟨P,1,none⟩=some (.int .i64 s.v)/\w.frozen? ⟨P,1,none⟩=false/\Pd (w.setCell ⟨P,1,none⟩ (.int .i64 ((s.v:Int)+1))) P v L {s with v:=s.v+1}:=by obtain⟨r,h1,a⟩:=h;have ⟨c0,c1,c2,c3,c4,f1,_⟩:=qzi h1.pd;have hn:=(a.M hb).2.1;rw[hn]at c1;refine⟨c1,f1,⟨_,?_,a.E hb b⟩⟩;have:=h1.E aj;simp_all
theorem jkw(f:Nat)(S:st.s=false->∀g,g<f->qvi 0 210 g)(h:Pd w P v L st)(U:st.s=false->8*(L.length-st.v)+2<=f):Calls prog 296 #[.pointer (some ⟨P,0,none⟩)] w λe w'=>EPost P v L w (rX f 20 .nil L st) e w':=by
 have T:=h.ok;have a1:=T.T;obtain⟨H,O⟩:=ju h S;have a2:=show zvw L (rX f 20 .nil L st) 0 f st from⟨rfl,U⟩
 generalize rX f 20 .nil L st=fin at *;clear S U;go_wp2;go_loopw [3] (λrow wr=>∃(j g:Nat)(s:RS),j<=12/\row=.int .i64 j/\zvw L fin j g s/\(s.s=false->g<=f/\st.s=false)/\Pd wr P v L s/\Kept P w wr) (λrow _=>12-(intOf row).toNat)
 ·grind [ku,Kept.refl]
 obtain⟨j,g,s,hj,rfl,z,(G:Hid _),b,a⟩:=hrel;have C:=b.lt;go_wp21;refine(qzj [33] ak b).mono ?_;rintro e w2 ⟨rfl,D,W⟩;have k:=a.trans W;have Y:=k.size;cases hn:zk L [33] s
 ·have F:=oz<|vyq z hn;have a3:=z.2;go_wp21
  refine(zxd (g-1) P v L s (λhb=>O (G hb).2 (g-1)<|by grind [ku]) D<|λhb=>by grind).mono ?_;rintro e w5 ⟨J,N,rfl,y,(R:Hid _),E,u⟩;have m:=k.trans u;have t:=y.mono Y;generalize kxf (g-1) L s=M at *;go_wp2;go_loopw [4,23] (λK d wr=>∃(i:Nat)(p:Option Addr),i<=j/\d=.int .i64 i/\K=.pointer p/\XIs w.heap.size wr (zxc i N) (.pointer p)/\Pd wr P v L M.2/\Kept P w wr) (λ_ d _=>j-(intOf d).toNat);exact⟨0,J,jR,rfl,rfl,t,E,m⟩;obtain⟨i,p,V,rfl,rfl,q,b,a⟩:=hrel;have x:=a.size;by_cases I:i<j
  ·go_wp2;exact rdM ⟨i+1,_,aj,eu,rfl,XIs.new q rfl x<|qz3 kD,b.alloc _,a.alloc _⟩
  ·have c:i=j:=by omega
   subst c;go_wp2;go_ret;refine⟨p,_,rfl,q,?_,?_,a⟩
   ·grind [ku]
   ·rw[(ku F).1];exact b
 ·have l:=kz9 T C hn;by_cases B:j=12
  ·subst B;have F:=oz<|pk8 z hn;go_wp21
   refine(pyo D).mono ?_;rintro e w3 ⟨rfl,H3,X⟩;have A:=k.trans X;have Z:=A.size;go_wp21;refine(zxd 0 P v L {s with s:=true} (λhb=>by simp_all) H3 (λhb=>by simp_all)).mono ?_;rintro e w5 ⟨J,N,rfl,y,(R:Hid _),E,u⟩;have m:=A.trans u;have t:=y.mono Z;generalize kxf 0 L {s with s:=true}=M at *;go_wp2;go_loopw [4,23] (λK d wr=>∃(i:Nat)(p:Option Addr),i<=12/\d=.int .i64 i/\K=.pointer p/\XIs w.heap.size wr (zxc i N) (.pointer p)/\Pd wr P v L M.2/\Kept P w wr) (λ_ d _=>12-(intOf d).toNat);exact⟨0,J,jR,rfl,rfl,t,E,m⟩;obtain⟨i,p,V,rfl,rfl,q,b,a⟩:=hrel;have x:=a.size;by_cases I:i<12
   ·go_wp2;exact rdM ⟨i+1,_,aj,eu,rfl,XIs.new q rfl x<|qz3 kD,b.alloc _,a.alloc _⟩
   ·have c:i=12:=by omega
    subst c;go_wp2;go_ret;refine⟨p,_,rfl,q,?_,?_,a⟩
    ·grind [ku]
    ·rw[(ku F).1];exact b
  ·have a0:j<12:=by omega
   have ⟨c1,f1,Q⟩:=D.E l.1 l.2;have HR:=vk8 z hn B C;go_wp2;exact rdM ⟨j+1,g-1,_,aj,eu,HR,λ_=>⟨by have:=(G l.1).1;omega,(G l.1).2⟩,Q,k.kzr _ _⟩
theorem zxn.xv0(h:zxn a7)(b:a7.x.toList=c::r)(a:(decide (97<=(c.toNat:Int))&&decide ((c.toNat:Int)<=122))=false):(a7.t.toList==nV)=false:=by have h1:=h.word;grind [zkn]
theorem qya(d:kq6 L)(a:st.v<L.length)(hb:st.s=false)(g:∃c r,l=c::r/\(decide (97<=(c.toNat:Int))&&decide ((c.toNat:Int)<=122))=false):zk L l st=(((tk L st.v).t.toList==nM)&&((tk L st.v).x.toList==l)):=by
 obtain⟨c,r,e,f⟩:=g;unfold zk qqb;rw[hb];cases b:((tk L st.v).x.toList==l)
 ·simp
 ·rw[su]at b;rw[(d.ok _ a).xv0 (b.trans e) f];simp
theorem xwa(b:kq6 L)(a:st.v<L.length)(hb:st.s=false):kv6 0 (tk L st.v)=zk L [124] st:=by grind [qya,kv6,kj4,jh]
theorem xwo(b:kq6 L)(a:st.v<L.length)(hb:st.s=false):kv6 1 (tk L st.v)=zk L [38] st:=by grind [qya,kv6,kj4,jh]
theorem xws(b:kq6 L)(a:st.v<L.length)(hb:st.s=false):kv6 3 (tk L st.v)=(zk L [43] st||zk L [45] st):=by grind [qya,kv6,kj4,jh]
theorem xwf(b:kq6 L)(a:st.v<L.length)(hb:st.s=false):kv6 2 (tk L st.v)=(zk L [61,61] st||zk L [33,61] st||zk L [60] st):=by grind [qya,kv6,kj4,jh]
def jvf(L:List Tok)(n F:Nat)(fin:PX×RS)(t:PX)(s:RS):Prop:=
 (s.s=true/\fin.2=s)\/(s.s=false/\∃g,g<F/\8*(L.length-s.v)+1<=g/\rX g (10+n) t L s=fin)
theorem zvd{t:PX}(hn:n<4)(b:st.s=false->8*(L.length-st.v)+(7-n)<=f)(c:(rX (f-1) (n+1) .nil L st).2.s=false->t=(rX (f-1) (n+1) .nil L st).1):jvf L n f (rX f n .nil L st) t (rX (f-1) (n+1) .nil L st).2:=by
 cases hb:st.s
 ·have:=b hb;obtain⟨f,rfl⟩:=qqy f;simp only[Zr]at c |-;have d:=kvl f (n+1) .nil L st;rw[jqg f n .nil L st hn];simp only[hb,ru,Xv];cases a:(rX f (n+1) .nil L st).2.s
  ·refine .inr ⟨a,f,aj,aj,?_⟩;simp_all
  ·exact .inl ⟨a,kk2 a _ _ _⟩
 ·rw[kk2 hb];exact .inl ⟨hb,kk2 hb _ _ _⟩
theorem jxi(hn:n<4)(h:jvf L n F fin x s)(hb:s.s=false->kv6 n (tk L s.v)=false):fin.2=s/\(s.s=false->fin.1=x):=by
 rcases h with⟨h1,a⟩|⟨h1,g,_,a,b⟩
 ·simp_all
 ·obtain⟨g,rfl⟩:=qqy g;grind [zy2]
theorem vke(hn:n<4)(h:jvf L n F fin x s)(hb:s.s=false)(hi:kv6 n (tk L s.v)=true):∃g,g+1<F/\8*(L.length-s.v)+1<=g+1 /\
  (if n=2 then (opX (tk L s.v).x x (rX g (n+1) .nil L {s with v:=s.v+1}).1,(rX g (n+1) .nil L {s with v:=s.v+1}).2)
   else rX g (10+n) (opX (tk L s.v).x x (rX g (n+1) .nil L {s with v:=s.v+1}).1) L (rX g (n+1) .nil L {s with v:=s.v+1}).2)=fin:=by
 rcases h with⟨h1,a⟩|⟨h1,g,c,a,b⟩
 ·simp_all
 ·obtain⟨g,rfl⟩:=qqy g;grind [zy2]
theorem vka(a:g+1<F)(c:8*(L.length-s.v)+1<=g+1)(d:s.v+1<=a9.2.v)(b:s.v<L.length)(h:rX g (10+n) (opX a5 x a9.1) L a9.2=fin)(e:a9.2.s=false->a8=a9.1):jvf L n F fin (opX a5 x a8) a9.2:=by
 cases hb:a9.2.s
 ·refine .inr ⟨hb,g,aj,aj,?_⟩;simp_all
 ·refine .inl ⟨hb,?_⟩;rw[<-h,kk2 hb]
def vky(n F:Nat):Prop:=∀(g:Nat)(w:World)(P:Nat)(v:Value)(L:List Tok)(st:RS),st.s=true->Pd w P v L st ->
 Calls prog F #[.pointer (some ⟨P,0,none⟩)] w λe w'=>EPost P v L w (rX g n .nil L st) e w'
theorem EPost.U{e:PX×RS}{b4:Ending}(h:EPost P v L w a9 b4 w')(f:e.2=a9.2)(h1:a9.2.s=false->e.1=a9.1):EPost P v L w e b4 w':=by obtain⟨p,t,a,b,c,d,k⟩:=h;exact⟨p,t,a,b,λhb=>by simp_all,by simp_all,k⟩
theorem xwt(a:vky n F)(b:st0.s=false->∀g,g<f->qvi n F g)(g:Nat)(w:World)(P:Nat)(v:Value)(L:List Tok)(st:RS)(h:Pd w P v L st)(c:st.s=false->st0.s=false/\g<f/\8*(L.length-st.v)+(7-n)<=g):og F #[.pointer (some ⟨P,0,none⟩)] w λe w'=>EPost P v L w (rX g n .nil L st) e w':=by
 cases hb:st.s
 ·have:=c hb;exact b this.1 g this.2.1 w P v L st h<|λ_=>this.2.2
 ·exact a g w P v L st hb h
theorem jzy:vky 4 296:=λg w P v L st hb h=>by have:=jkw 0 (λh=>ay) h (λh=>by simp_all);exact this.mono λe w' a=>a.U (by rw[kk2 hb,kk2 hb]) (λh=>by rw[kk2 hb,hb]at h;cases h)
theorem pk7(f:Nat)(a:∀g,g<f->qvi 0 210 g):qvi 4 296 f:=λw P v L st h b=>by
 cases hb:st.s
 ·have:=b hb;obtain⟨f,rfl⟩:=qqy f;rw[jwn];simp only[hb,ru,Xv];exact jkw f (λ_ g c=>a g aj) h<|λ_=>aj
 ·exact jzy f w P v L st hb h
theorem vkk(l:List UInt8)(d:l∈lits)(w:World)(P:Nat)(v:Value)(L:List Tok)(st:RS)(h:Pd w P v L st):og 205 #[.pointer (some ⟨P,0,none⟩),.string ⟨l.toArray⟩] w λe w'=>∃b,e=.returned (.bool b)/\zk L l st=b/\Pd w' P v L (if b then {st with v:=st.v+1} else st)/\Kept P w w':=
 (kxm l d h).mono λ_ _ ⟨a,b,c⟩=>⟨_,a,rfl,b,c⟩
theorem py4(d:kq6 L)(b:s.v<L.length)(h:jvf L n F fin x s)(a:zk L l s=true)(hi:s.s=false->kv6 n (tk L s.v)=true)(hn:n<4:=by omega):s.s=false/\s.v+1<L.length/\(tk L s.v).x.toList=l/\∃g,g+1<F/\8*(L.length-s.v)+1<=g+1 /\
  (if n=2 then (opX (tk L s.v).x x (rX g (n+1) .nil L {s with v:=s.v+1}).1,(rX g (n+1) .nil L {s with v:=s.v+1}).2)
   else rX g (10+n) (opX (tk L s.v).x x (rX g (n+1) .nil L {s with v:=s.v+1}).1) L (rX g (n+1) .nil L {s with v:=s.v+1}).2)=fin:=
 have ⟨c,hb⟩:=kz8 a
 ⟨hb,(kz9 d b a).2,c,vke hn h hb<|hi hb⟩
theorem qwb(W:n=3/\F=286/\lo=296\/n=1/\F=241/\lo=259\/n=0/\F=210/\lo=241)(f:Nat)(w:World)(P:Nat)(v:Value)(L:List Tok)(st:RS)(T:vky (n+1) lo)(U:st.s=false->∀g,g<f->qvi (n+1) lo g)(h:Pd w P v L st)(V:st.s=false->8*(L.length-st.v)+(7-n)<=f):Calls prog F #[.pointer (some ⟨P,0,none⟩)] w λe w'=>EPost P v L w (rX f n .nil L st) e w':=by
 have C:=h.in;have d:=h.ok;have E:=xwt T U;have G:=λ(t:PX) X=>zvd (L:=L) (st:=st) (t:=t) (n:=n) aj V X
 generalize rX f n .nil L st=fin at *;have S:(rX (f-1) (n+1) .nil L st).2.s=false->st.s=false:=λhb=>by grind [kk2]
 have M:n≠2/\n<4:=aj;obtain⟨(l:Hid _),rfl,rfl⟩|⟨(l:Hid _),rfl,rfl⟩|⟨(l:Hid _),rfl,rfl⟩:=W;all_goals
  go_in;go_wp21;refine(E (f-1) _ P v L st h<|λhb=>⟨hb,by grind,by grind⟩).mono ?_;rintro e w1 ⟨p1,Z,rfl,a1,N,H1,a0⟩;have B:=G Z N;generalize (rX (f-1) (n+1) .nil L st).2=s1 at *;go_wp21;go_loopw [3] (λle wr=>∃(p:Option Addr)(t:PX)(s:RS),le=.pointer p/\XIs w.heap.size wr t (.pointer p)/\jvf L n f fin t s/\(s.s=false->st.s=false)/\Pd wr P v L s/\Kept P w wr) (λ_ wr=>L.length-zx2 wr P)
  ·grind
  obtain⟨p,t,s,rfl,i,B,D,A,c⟩:=hrel;have a:=A.lt;go_wp21;refine(vkk _ ak _ P v L s A).mono ?_;rintro e u ⟨b,rfl,H,z,j⟩;have i:=i.kept j C;have c:=c.trans j;cases b;case' true=>go_wp21
  case' false=>
   go_wp21;try
    refine(vkk _ ak _ P v L s z).mono ?_;rintro e u ⟨b,rfl,H,z,j⟩;have i:=i.kept j C;have c:=c.trans j;cases b;all_goals go_wp21
  all_goals first
   |have ⟨hb,K,Q,g,I,J,m⟩:=py4 d a B H (λhb=>by cases l;simp[xws d a hb,xwo d a hb,xwa d a hb, *])
    rw[Xy M.1]at m;refine(E g _ P v L {s with v:=s.v+1} z (λ_=>⟨D hb,aj,by grind⟩)).mono ?_;rintro e w6 ⟨p6,t6,rfl,R,O,k,x⟩;have y:=kvl g (n+1) .nil L {s with v:=s.v+1};have q:=c.trans x;generalize rX g (n+1) .nil L {s with v:=s.v+1}=Y at *;go_wp2;exact⟨⟨_,_,Y.2,rfl,XIs.new (i.kept x C) (R.mono c.size) q.size (qz3 (by rw[Q];rfl)),(vka I J y a m O),λ_=>D hb,k.alloc _,q.alloc _⟩,by have:=(qqq A k hb K<|λ_=>y);exact(by rw[(k.alloc _).nx,<-k.nx];omega)⟩
   |have ⟨a2,a3⟩:=jxi aj B (λhb=>by cases l;simp[xws d a hb,xwo d a hb,xwa d a hb, *])
    go_ret;exact⟨p,t,rfl,i,λhb=>by simp_all,by simp_all,c⟩
theorem qvt(f:Nat)(I:vky 3 286)(J:st.s=false->∀g,g<f->qvi 3 286 g)(h:Pd w P v L st)(K:st.s=false->8*(L.length-st.v)+(7-2)<=f):Calls prog 259 #[.pointer (some ⟨P,0,none⟩)] w λe w'=>EPost P v L w (rX f 2 .nil L st) e w':=by
 have k:=h.in;have x:=h.ok;have A:=xwt I J;have B:=λ(t:PX) M=>zvd (L:=L) (st:=st) (t:=t) (n:=2) aj K M
 generalize rX f 2 .nil L st=fin at *;go_in;go_wp21;refine(A (f-1) _ P v L st h<|λhb=>⟨hb,by grind,by grind⟩).mono ?_;rintro e X ⟨p,t,rfl,c,D,z,a⟩;have C:=B t D;have H:(rX (f-1) 3 .nil L st).2.s=false->st.s=false:=λhb=>by grind [kk2]
 generalize (rX (f-1) 3 .nil L st).2=s at *;have j:=z.lt;go_wp21;refine(vkk _ ak _ P v L s z).mono ?_;rintro e u ⟨b,rfl,y,i,d⟩;have c:=c.kept d k;have a:=a.trans d;cases b;case' false=>
  go_wp21;refine(vkk _ ak _ P v L s i).mono ?_;rintro e u ⟨b,rfl,y,i,d⟩;have c:=c.kept d k;have a:=a.trans d;cases b;case' false=>
   go_wp21;refine(vkk _ ak _ P v L s i).mono ?_;rintro e u ⟨b,rfl,y,i,d⟩;have c:=c.kept d k;have a:=a.trans d;cases b;case' false=>
    have ⟨Q,R⟩:=jxi aj C (λhb=>by simp[xwf x j hb, *]);go_wp2;go_ret;exact⟨p,t,rfl,c,λhb=>by simp_all,by simp_all,a⟩
 all_goals
  have ⟨hb,U,E,g,S,T,l⟩:=py4 x j C y (λhb=>by simp[xwf x j hb, *]);rw[lJ rfl]at l;go_wp21;refine(A g _ P v L {s with v:=s.v+1} i (λ_=>⟨H hb,aj,by grind⟩)).mono ?_;rintro e Y ⟨V,N,rfl,F,O,G,q⟩;have m:=a.trans q;generalize rX g _ .nil L {s with v:=s.v+1}=W at *;go_wp2;go_ret;rw[<-l];exact⟨_,opX (tk L s.v).x t N,rfl,XIs.new (c.kept q k) (F.mono a.size) m.size (qz3 (by rw[E];rfl)),λhb=>by simp_all,G.alloc _,m.alloc _⟩
theorem xq1(h:∀(w:World)(P:Nat)(v:Value)(L:List Tok)(st:RS),st.s=true->Pd w P v L st->og F #[.pointer (some ⟨P,0,none⟩)] w λe w'=>EPost P v L w (rX 0 n .nil L st) e w'):vky n F:=λg w P v L st hb b=>
 (h w P v L st hb b).mono λe w' a=>a.U (by rw[kk2 hb,kk2 hb]) (λh=>by rw[kk2 hb,hb]at h;cases h)
theorem pq0:vky 3 286:=xq1 λw P v L st hb h=>
 qwb (.inl ⟨rfl,rfl,rfl⟩) 0 w P v L st jzy (by simp[hb]) h (by simp[hb])
theorem qy9:vky 2 259:=xq1 λw P v L st hb h=>
 qvt 0 pq0 (by simp[hb]) h (by simp[hb])
theorem xza:vky 1 241:=xq1 λw P v L st hb h=>
 qwb (.inr<|.inl ⟨rfl,rfl,rfl⟩) 0 w P v L st qy9 (by simp[hb]) h (by simp[hb])
theorem exprs(f:Nat):qvi 0 210 f/\qvi 1 241 f/\qvi 2 259 f/\qvi 3 286 f/\qvi 4 296 f:=by
 induction f using Nat.strongRecOn with
 |ind f ih=>
  refine⟨?_,?_,?_,?_,(pk7 f<|λg a=>(ih g a).1)⟩
  ·exact λw P v L st h b=>qwb (.inr<|.inr ⟨rfl,rfl,rfl⟩) f w P v L st xza (λ_ g a=>(ih g a).2.1) h b
  ·exact λw P v L st h b=>qwb (.inr<|.inl ⟨rfl,rfl,rfl⟩) f w P v L st qy9 (λ_ g a=>(ih g a).2.2.1) h b
  ·exact λw P v L st h b=>qvt f pq0 (λ_ g a=>(ih g a).2.2.2.1) h b
  ·exact λw P v L st h b=>qwb (.inl ⟨rfl,rfl,rfl⟩) f w P v L st jzy (λ_ g a=>(ih g a).2.2.2.2) h b
theorem qyo(h:Pd w P v L st):og 210 #[.pointer (some ⟨P,0,none⟩)] w λe w'=>EPost P v L w (rX (kqb L) 0 .nil L st) e w':=
 (exprs<|kqb L).1 w P v L st h (λ_=>by unfold kqb;omega)
structure kjz (lo:Nat)(w w':World):Prop where
 size:w.heap.size<=w'.heap.size
 block:∀k,lo<=k->k<w.heap.size->w'.heap[k]?=w.heap[k]?
theorem kjz.refl(lo:Nat)(w:World):kjz lo w w:=⟨jH,λ_ _ _=>rfl⟩
theorem kjz.trans{b:World}(h:kjz lo a b)(k:kjz lo b w):kjz lo a w:=
 ⟨rP h.size k.size,λi h1 c=>(k.block i h1<|sV c h.size).trans<|h.block i h1 c⟩
theorem kjz.kept(h:kjz lo a w)(b:Kept P w w')(d:P<lo):kjz lo a w':=
 h.trans ⟨b.size,λk h1 c=>b.block k c aj⟩
theorem kjz.alloc(h:kjz lo a w)(o:Obj):kjz lo a (w.alloc o):=
 h.trans ⟨ay,λk _ b=>jj b⟩
theorem kjz.set(h:kjz lo a w){p:Addr}(c:p.block<lo\/a.heap.size<=p.block)(u:Value):kjz lo a (w.setCell p u):=
 ⟨lW,λk h1 b=>by rw[hsC aj];exact h.block k h1 b⟩
theorem kjz.qk9(h:kjz lo a w)(hb:b<lo\/a.heap.size<=b):∀(ys:List Value)(k:Nat),kjz lo a (puts b ys k w):=λys=>by
 induction ys generalizing w with
 |nil=>exact λ_=>h
 |cons y ys ih=>exact λk=>ih (h.set hb y)<|k+1
theorem XIs.zqn(h:XIs lo w x v)(a:kjz lo w w'):XIs lo w' x v:=h.stay a.block
def kqq:PB->Nat
 |.nil=>0
 |.node _ _ _ _ n=>kqq n+1
theorem qkj:∀a b:PB,kqq (kkp a b)=kqq a+kqq b
 |.nil,b=>by simp[kkp,kqq]
 |.node i j a s n,b=>by rw[kkp,kqq,kqq,qkj n b];omega
def plC:PX->List Value
 |.nil=>[.string ⟨#[]⟩,.int .i64 0,.bool false,.string ⟨#[]⟩,.int .i64 0]
 |.node _ _ x _ _=>[.string x.y.x,.int .i64 x.y.v,.bool<|!(x.c.t.toList==[]),.string x.c.x,.int .i64 x.c.v]
theorem xz1(x:PX):(plC x).length=5:=by cases x<;>rfl
def stC(c:Bool)(a:SLab)(b vt d:Value):List Value:=.bool c::(plC a.N++[b,vt,d])
theorem qzl:(stC b7 b8 v x0 x1).length=9:=by simp[stC,xz1]
def BIs(lo:Nat)(no:Option Nat)(w:World):PB->List Value->Prop
 |.nil,cs=>cs=[]
 |.node _ _ a .nil n,cs=>∃p rest,cs=stC false a (.pointer p) (.slice none 0 0) (.slice none 0 0)++rest/\XIs lo w a.value (.pointer p)/\BIs lo no w n rest
 |.node _ _ a (.node _ _ _ t e) n,cs=>∃p ta tn tc ea en ec ct ce rest,cs=stC true a (.pointer p) (.slice ta tn tc) (.slice ea en ec)++rest/\XIs lo w a.A (.pointer p) /\
   (w.ownsRow lo 334 9 (.slice ta tn tc) (kqq t) ct/\(∀j,(Value.slice ta tn tc).ownBlock=some j->no≠some j)/\BIs lo no w t ct)/\(w.ownsRow lo 334 9 (.slice ea en ec) (kqq e) ce/\(∀j,(Value.slice ea en ec).ownBlock=some j->no≠some j)/\BIs lo no w e ce)/\BIs lo no w n rest
theorem BIs.T:∀{b:PB}{cs:List Value},BIs lo no w b cs->cs.length=kqq b*9
 |.nil,cs,h=>by
  have:cs=[]:=h;subst this;rfl
 |.node _ _ a .nil n,cs,⟨p,rest,e,hx,hn⟩=>by rw[e,rD,qzl,hn.T,kqq];omega
 |.node _ _ a (.node _ _ _ t e) n,cs,⟨p,ta,tn,tc,ea,en,ec,ct,ce,rest,e1,hx,ht,he,hn⟩=>by rw[e1,rD,qzl,hn.T,kqq];omega
theorem BIs.stay(c:∀k,lo<=k->k<w.heap.size->w'.heap[k]?=w.heap[k]?):∀{b:PB}{cs:List Value},BIs lo no w b cs->BIs lo no w' b cs
 |.nil,_,h=>h
 |.node _ _ a .nil n,cs,⟨p,rest,e,hx,hn⟩=>⟨p,rest,e,hx.stay c,BIs.stay c hn⟩
 |.node _ _ a (.node _ _ _ t e) n,cs,⟨p,ta,tn,tc,ea,en,ec,ct,ce,rest,e1,hx,⟨ht1,ht3,ht2⟩,⟨he1,he3,he2⟩,hn⟩=>
  ⟨p,ta,tn,tc,ea,en,ec,ct,ce,rest,e1,hx.stay c,⟨xg c ht1,ht3,BIs.stay c ht2⟩,⟨xg c he1,he3,BIs.stay c he2⟩,BIs.stay c hn⟩
theorem BIs.zqn(h:BIs lo no w b9 cs)(a:kjz lo w w'):BIs lo no w' b9 cs:=h.stay a.block
theorem BIs.mono(c:lo'<=lo):∀{b:PB}{cs:List Value},BIs lo no w b cs->BIs lo' no w b cs
 |.nil,_,h=>h
 |.node _ _ a .nil n,cs,⟨p,rest,e,hx,hn⟩=>⟨p,rest,e,hx.mono c,BIs.mono c hn⟩
 |.node _ _ a (.node _ _ _ t e) n,cs,⟨p,ta,tn,tc,ea,en,ec,ct,ce,rest,e1,hx,⟨ht1,ht3,ht2⟩,⟨he1,he3,he2⟩,hn⟩=>
  ⟨p,ta,tn,tc,ea,en,ec,ct,ce,rest,e1,hx.mono c,⟨qo c ht1,ht3,BIs.mono c ht2⟩,⟨qo c he1,he3,BIs.mono c he2⟩,BIs.mono c hn⟩
theorem BIs.app{lo:Nat}{no:Option Nat}{w:World}:∀{b c:PB}{cs ds:List Value},BIs lo no w b cs->BIs lo no w c ds->BIs lo no w (kkp b c) (cs++ds)
 |.nil,c,cs,ds,h,h'=>by
  have:cs=[]:=h;subst this;exact h'
 |.node _ _ a .nil n,c,cs,ds,⟨p,rest,e,hx,hn⟩,h'=>⟨p,rest++ds,by simp_all,hx,hn.app h'⟩
 |.node _ _ a (.node _ _ _ t e) n,c,cs,ds,⟨p,ta,tn,tc,ea,en,ec,ct,ce,rest,e1,hx,ht,he,hn⟩,h'=>⟨p,ta,tn,tc,ea,en,ec,ct,ce,rest++ds,by simp_all,hx,ht,he,hn.app h'⟩
theorem BIs.shun(c:∀k,no'=some k->no=some k\/w.heap.size<=k\/k<lo):∀{b:PB}{cs:List Value},BIs lo no w b cs->BIs lo no' w b cs
 |.nil,_,h=>h
 |.node _ _ a .nil n,cs,⟨p,rest,e,hx,hn⟩=>⟨p,rest,e,hx,BIs.shun c hn⟩
 |.node _ _ a (.node _ _ _ t e) n,cs,⟨p,ta,tn,tc,ea,en,ec,ct,ce,rest,e1,hx,⟨ht1,ht3,ht2⟩,⟨he1,he3,he2⟩,hn⟩=>by
  have out:∀{v:Value}{m:Nat}{q:List Value},w.ownsRow lo 334 9 v m q->(∀j,v.ownBlock=some j->no≠some j)->∀j,v.ownBlock=some j->no'≠some j:=by intro v m q h1 i j d l;have f:=jo h1 j d;have g:=kq9 h1 j d;grind
  exact⟨p,ta,tn,tc,ea,en,ec,ct,ce,rest,e1,hx,⟨ht1,out ht1 ht3,BIs.shun c ht2⟩,⟨he1,out he1 he3,BIs.shun c he2⟩,BIs.shun c hn⟩
theorem XIs.grown{lo base e size:Nat}{w w':World}{v:Value}{n:Nat}{xs:List Value}(hv:w.ownsRow base e size v n xs)(a:358≠e)(b:w.grownBy w' v.ownBlock):∀{x:PX}{p:Value},XIs lo w x p->XIs lo w' x p
 |.nil,_,h=>h
 |.node _ _ _ _ _,_,⟨k,va,vb,e1,hn,hh,ha,hb⟩=>⟨k,va,vb,e1,hn,jB,XIs.grown hv a b ha,XIs.grown hv a b hb⟩
theorem BIs.kva(hv:w.ownsRow base 334 9 v n xs)(d:w.grownBy w' v.ownBlock)(f:∀k,no'=some k->v.ownBlock=some k\/w.heap.size<=k):∀{b:PB}{cs:List Value},BIs lo v.ownBlock w b cs->BIs lo no' w' b cs
 |.nil,_,h=>h
 |.node _ _ a .nil nx,cs,⟨p,rest,e,hx,hn⟩=>⟨p,rest,e,hx.grown hv ak d,BIs.kva hv d f hn⟩
 |.node _ _ a (.node _ _ _ t e) nx,cs,⟨p,ta,tn,tc,ea,en,ec,ct,ce,rest,e1,hx,⟨ht1,ht3,ht2⟩,⟨he1,he3,he2⟩,hn⟩=>by
  have c:∀{u:Value}{m:Nat}{q:List Value},w.ownsRow lo 334 9 u m q->(∀j,u.ownBlock=some j->v.ownBlock≠some j)->w'.ownsRow lo 334 9 u m q/\(∀j,u.ownBlock=some j->no'≠some j):=by
   intro u m q h1 l;constructor
   ·refine h1.kept d ?_;cases x:u.ownBlock with
    |none=>simp
    |some j=>grind
   ·intro j g s;have i:=kq9 h1 j g;grind
  exact⟨p,ta,tn,tc,ea,en,ec,ct,ce,rest,e1,hx.grown hv ak d,⟨(c ht1 ht3).1,(c ht1 ht3).2,BIs.kva hv d f ht2⟩,⟨(c he1 he3).1,(c he1 he3).2,BIs.kva hv d f he2⟩,BIs.kva hv d f hn⟩
theorem jwk{d e7:Option Addr}:∀u∈stC b7 b8 (.pointer e5) (.slice d lo P) (.slice e7 b F),u.oneCell'=true:=by
 intro u a;unfold stC at a;simp only[tZ,rV,Qu,or_false]at a;obtain rfl|h|rfl|rfl|rfl:=a
 ·rfl
 ·cases c:b8.N with
  |nil=>rw[c]at h;simp only[plC,tZ,Qu,or_false]at h;obtain rfl|rfl|rfl|rfl|rfl:=h<;>rfl
  |node _ _ x _ _=>rw[c]at h;simp only[plC,tZ,Qu,or_false]at h;obtain rfl|rfl|rfl|rfl|rfl:=h<;>rfl
 ·rfl
 ·rfl
 ·rfl
def xy2(P:Nat)(v:Value)(L:List Tok)(w:World)(r:PB×RS)(e:Ending)(w':World):Prop:=
 ∃b cs,e=.returned (.agg cs.toArray)/\BIs w.heap.size none w' b cs/\kqq b=1/\(∀u∈cs,u.oneCell'=true)/\(r.2.s=false->b=r.1)/\Pd w' P v L r.2/\Kept P w w'
def jza(P:Nat)(v:Value)(L:List Tok)(w:World)(r:PB×RS)(e:Ending)(w':World):Prop:=
 ∃ua un uc b cs,e=.returned (.slice ua un uc)/\w'.ownsRow w.heap.size 334 9 (.slice ua un uc) (kqq b) cs/\BIs w.heap.size (Value.slice ua un uc).ownBlock w' b cs/\(r.2.s=false->b=r.1)/\Pd w' P v L r.2/\Kept P w w'/\kqq b<=802
theorem vvr(st:RS)(b:kq6 L)(a:st.v<L.length):∃x:ELab,[Value.string (plT L st).1.x,.int .i64 (plT L st).1.v,.bool (plT L st).2.1,.string (plT L st).2.2.1.x,.int .i64 (plT L st).2.2.1.v]=plC (.node 0 0 x .nil .nil) /\
  ((kqy L st).2.s=false->.node 0 0 x .nil .nil=(kqy L st).1):=by grind [zvi,kyu,plC]
theorem kkt(h:st.s=true):∀f tag:Nat,(rS f tag L st).2=st
 |0,_=>rfl
 |f+1,0=>by
  rw[rS,kqs h];show qg L [125] (rS f 1 L st).2=st;rw[kkt h f 1,kqs h]
 |f+1,t+1=>by rw[rS];simp[h]
theorem kki(h:w.heap[b]?=some (.cells #[x0,x1,x2,x3,x4,x5,x6,x7,x8] e8 (0,0))):(Ce w b 0 x0/\Ce w b 1 x1/\Ce w b 2 x2/\Ce w b 3 x3/\Ce w b 4 x4/\Ce w b 5 x5/\Ce w b 6 x6/\Ce w b 7 x7/\Ce w b 8 x8) /\
  (Fr w b 0/\Fr w b 1/\Fr w b 2/\Fr w b 3/\Fr w b 4/\Fr w b 5/\Fr w b 6/\Fr w b 7/\Fr w b 8):=
 ⟨⟨rc h 0,rc h 1,rc h 2,rc h 3,rc h 4,rc h 5,rc h 6,rc h 7,rc h 8⟩,
  ⟨rf h 0,rf h 1,rf h 2,rf h 3,rf h 4,rf h 5,rf h 6,rf h 7,rf h 8⟩⟩
theorem jwc(h:w.heap[b]?=some (.cells #[x0,x1,x2,x3,x4,x5,x6,x7,x8] e8 (0,0))):(puts b [y0,y1,y2,y3,y4,y5,y6,y7,y8] 0 w).heap[b]?=some (.cells #[y0,y1,y2,y3,y4,y5,y6,y7,y8] e8 (0,0)):=zju h
theorem Pd.qwk(h:Pd w P v L st)(a:∀g,v.ownBlock=some g->g<B)(c:P<B)(hb:B<=b)(y0 y1 y2 y3 y4 y5 y6 y7 y8:Value):Pd (puts b [y0,y1,y2,y3,y4,y5,y6,y7,y8] 0 w) P v L st:=h.qk9 a c hb _ _
theorem Kept.qwk(h:Kept P a w)(hb:a.heap.size<=b)(y0 y1 y2 y3 y4 y5 y6 y7 y8:Value):Kept P a (puts b [y0,y1,y2,y3,y4,y5,y6,y7,y8] 0 w):=h.qk9 hb _ _
theorem kjz.qwk(h:kjz lo a w)(hb:b<lo\/a.heap.size<=b)(y0 y1 y2 y3 y4 y5 y6 y7 y8:Value):kjz lo a (puts b [y0,y1,y2,y3,y4,y5,y6,y7,y8] 0 w):=h.qk9 hb _ _
def vq3(f:Nat):Prop:=∀(w:World)(P:Nat)(v:Value)(L:List Tok)(st:RS),Pd w P v L st->(st.s=false->2*(L.length-st.v)+2<=f) ->
 Calls prog 211 #[.pointer (some ⟨P,0,none⟩)] w λe w'=>jza P v L w (rS f 0 L st) e w'
def pjn:Prop:=∀(g:Nat)(w:World)(P:Nat)(v:Value)(L:List Tok)(st:RS),st.s=true->Pd w P v L st ->
 Calls prog 211 #[.pointer (some ⟨P,0,none⟩)] w λe w'=>jza P v L w (rS g 0 L st) e w'
theorem xyq(b:st0.s=false->pjn)(c:st0.s=false->vq3 f)(a:st0.s=false)(w:World)(P:Nat)(v:Value)(L:List Tok)(st:RS)(h:Pd w P v L st)(d:st.s=false->2*(L.length-st.v)+2<=f):og 211 #[.pointer (some ⟨P,0,none⟩)] w λe w'=>jza P v L w (rS f 0 L st) e w':=by
 cases hb:st.s
 ·exact c a w P v L st h (λ_=>d hb)
 ·exact b a f w P v L st hb h
theorem pwz(h:zk L mY st=false)(h1:qg L [61] (kqy L st).2=s3)(a:rX (kqb L) 0 .nil L s3=a9):rDo blk L st=(pvs (kqy L st).1 a9.1,qg L [59] a9.2):=by subst h1;subst a;unfold rDo;simp_all
theorem xji(h:zk L mY st=true)(h1:qg L mY st=s1)(a:rX (kqb L) 0 .nil L s1=a9)(b:blk a9.2=e9):(zk L nU e9.2=false->rDo blk L st=(ifS a9.1 e9.1 .nil,e9.2))/\(zk L nU e9.2=true->rDo blk L st=(ifS a9.1 e9.1 (blk<|qg L nU e9.2).1,(blk<|qg L nU e9.2).2)):=by grind [rDo]
theorem zv2(h:(rX f tag x L s).2.s=false):s.s=false:=by grind [kk2]
theorem jkj(f:Nat)(hB:st.s=false->pjn)(hS:st.s=false->vq3 f)(h:Pd w P v L st)(hf:st.s=false->2*(L.length-st.v)<=f):Calls prog 242 #[.pointer (some ⟨P,0,none⟩)] w λe w'=>xy2 P v L w (rDo (rS f 0 L) L st) e w':=by
 have T:=h.in;have O:=oz h.kq9;have hL:=h.ok;have aP:=hL.T;have a8:=h.lt;have N:=oz<|xyq hB hS;clear hB hS;go_in
 go_wp21;refine(kxm mY ak<|h.alloc _).mono ?_;rintro e w1 ⟨rfl,h1,a7⟩;have Q:=oz<|a7.e (b:=w.heap.size) aj (qy);have aU:=wQ Q;have a1:=(Kept.kqe _).trans a7;cases hn:zk L mY st
 ·rw[qj6 hn]at h1;have H1:=oz h1;clear h1;go_wp21;refine(jqr H1).mono ?_;rintro e x ⟨rfl,X,l⟩;rw[jkv]at X;obtain⟨xp,(aM:Hid _),(aB:Hid _)⟩:=vvr st hL a8;obtain⟨H,A,D⟩:=jp (pwz (blk:=rS f 0 L) hn rfl rfl) (show(rX (kqb L) 0 .nil L<|qg L [61] (kqy L st).2).2.s=false->(kqy L st).2.s=false from λh=>kz2<|zv2 h) (l.e aj Q);have aK:=wQ D;have I:=a1.trans l;generalize plT L st=c at *;generalize kqy L st=rp at *;unfold plV;go_wp21;refine(kjb [61] ak rfl rfl<|X.alloc _).mono ?_;rintro e w3 ⟨rfl,H3,g⟩;generalize qg L [61] rp.2=s3 at *;have R:=oz<|g.e aj (zy D);have a4:=oz<|g.e (b:=x.heap.size) aj (qy);have J:=(I.alloc _).trans g;have aL:=wQ a4;go_wp21
  refine(qyo H3).mono ?_;rintro e w4 ⟨z,t4,rfl,E,(aH:Hid _),F,d⟩;have q:=oz<|d.e aj R;have i:=oz<|d.e (b:=x.heap.size) aj a4;have B:=J.trans d;have g6:=kki i;generalize rX (kqb L) 0 .nil L s3=r4 at *;go_wp21
  clear g6;refine(kjb [59] ak rfl rfl<|F.setOther O T (by grind) _).mono ?_;rintro e w5 ⟨rfl,H5,a⟩;have s:=oz (a.e (b:=w.heap.size) aj<|(jz<|by grind).trans q);have u:=a.e (b:=x.heap.size) aj<|jL _ 6 _ _ _ i;have K:=(B.jm (p:=⟨x.heap.size,6,none⟩) (by grind)<|.pointer z).trans a;have aG:=(((kjz.refl w3.heap.size w4).set (p:=⟨x.heap.size,6,none⟩) (Or.inl aj)<|.pointer z).kept a aj);have d0:=kki s;have g0:=kki u;clear u;go_wp2
  refine tK (v:=.agg #[.bool false,.string c.1.x,.int .i64 c.1.v,.bool c.2.1,.string c.2.2.1.x,.int .i64 c.2.2.1.v,.pointer z,.slice none 0 0,.slice none 0 0]) (J9 results242 _ _ w.heap.size _ _ _ _ rfl (jwc s) underlying334 rfl au) rfl ?_;rw[ku H];have aJ:[Value.bool false,.string c.1.x,.int .i64 c.1.v,.bool c.2.1,.string c.2.2.1.x,.int .i64 c.2.2.1.v,.pointer z,.slice none 0 0,.slice none 0 0]=stC false {N:=.node 0 0 xp .nil .nil,value:=t4,A:=.nil} (.pointer z) (.slice none 0 0) (.slice none 0 0):=by grind [stC,ku]
  refine⟨.node 0 0 {N:=.node 0 0 xp .nil .nil,value:=t4,A:=.nil} .nil .nil,[Value.bool false,.string c.1.x,.int .i64 c.1.v,.bool c.2.1,.string c.2.2.1.x,.int .i64 c.2.2.1.v,.pointer z,.slice none 0 0,.slice none 0 0],rfl,⟨z,[],by simp_all,?_,rfl⟩,rfl,by rw[aJ];exact jwk,?_,H5.qwk O T jH _ _ _ _ _ _ _ _ _,K.qwk jH _ _ _ _ _ _ _ _ _⟩
  ·exact(E.zqn<|aG.qwk (Or.inl aj) _ _ _ _ _ _ _ _ _).mono aj
  ·intro hb;have a6:=kz2 hb;have aI:rp.2.s=false:=(ku A) a6;rw[(ku aH) a6,(ku aB) aI];rfl
 ·have U:=(kz8 hn).2;have aT:=kz9 hL a8 hn;have aQ:=hf U;have em:zze L mY st=qg L mY st:=qkk hn rfl rfl;have aN:(qg L mY st).v=st.v+1:=jW;rw[em]at h1;have hD:=xji (blk:=rS f 0 L) hn rfl rfl rfl;obtain⟨aD,aE,H1⟩:=jp hD.1 hD.2 h1;clear em hD;generalize qg L mY st=s1 at *;go_wp21;refine(qyo H1).mono ?_;rintro e x ⟨Y,t2,rfl,E,(a3:Hid _),X,l⟩;have aR:=kvl (kqb L) 0 .nil L s1;have D:=oz<|l.e aj Q;have I:=a1.trans l;have aK:=l.size;generalize rX (kqb L) 0 .nil L s1=W at *;go_wp21
  refine(N U _ P v L W.2 X<|λ_=>aj).mono ?_;rintro e w3 ⟨ua,un,uc,b3,c3,rfl,a2,G,(a0:Hid _),H3,g,_⟩;have A:Hid ((rS f 0 L W.2).2.s=false->W.2.s=false):=λh=>by grind [kkt]
  have aS:=kkc L f 0 W.2;have R:=oz<|g.e aj D;have aL:=g.size;have J:=I.trans g;have aA:=(kjz.refl w1.heap.size x).kept g aj;generalize rS f 0 L W.2=Z at *;go_wp21
  refine(kxm nU ak<|H3.alloc _).mono ?_;rintro e w4 ⟨rfl,S,d⟩;have q:=oz<|d.e aj (zy R);have i:=oz<|d.e (b:=w3.heap.size) aj (qy);have aV:=wQ i;have B:=(J.alloc _).trans d;have C:=(aA.alloc _).kept d aj;have y:=((kjz.refl x.heap.size w3).alloc _).kept d aj;cases t:zk L nU Z.2
  ·rw[qj6 t]at S;obtain⟨F,H⟩:=ju S (aD t);clear S;have d0:=kki q;have g0:=kki i;go_wp2;refine tK (v:=.agg (stC true {N:=.nil,value:=.nil,A:=t2} (.pointer Y) (.slice ua un uc) (.slice none 0 0)).toArray) (J9 results242 _ _ w.heap.size _ _ _ _ rfl (jwc q) underlying334 rfl au) rfl ?_;rw[ku H];refine⟨.node 0 0 {N:=.nil,value:=.nil,A:=t2} (.node 0 0 noS b3 .nil) .nil,_,rfl,⟨Y,ua,un,uc,none,0,0,c3,[],[],ay,?_,⟨?_,(λj _ h=>ig),?_⟩,⟨jE,(λj _ h=>ig),rfl⟩,rfl⟩,rfl,jwk,?_,F.qwk O T jH _ _ _ _ _ _ _ _ _,B.qwk jH _ _ _ _ _ _ _ _ _⟩
   ·exact(E.zqn<|C.qwk (Or.inl aj) _ _ _ _ _ _ _ _ _).mono aj
   ·exact qo aj (xg (y.qwk (Or.inl aj) _ _ _ _ _ _ _ _ _).block a2)
   ·exact((G.shun (no':=none)<|λk V=>by cases V).zqn<|y.qwk (Or.inl aj) _ _ _ _ _ _ _ _ _).mono aj
   ·intro hb;rw[(ku a3) ((ku A) hb),(ku a0) hb];rfl
  ·rw[qkk t rfl rfl]at S;obtain⟨F,H⟩:=ju S (aE t);have a5:=(kz8 t).2;have aO:(qg L nU Z.2).v=Z.2.v+1:=jW;generalize qg L nU Z.2=s4 at *;go_wp21;refine(N U _ P v L s4 F<|λ_=>aj).mono ?_;rintro e w5 ⟨va,vn,vc,b5,c5,rfl,aF,a9,(aC:Hid _),H5,a,_⟩;have s:=oz<|a.e aj q;have u:=a.e (b:=w3.heap.size) aj i;have d0:=kki s;have g0:=kki u;have K:=B.trans a;have M:=C.kept a aj;have m:=y.kept a aj;clear u;generalize rS f 0 L s4=r5 at *;go_wp2
   refine tK (v:=.agg (stC true {N:=.nil,value:=.nil,A:=t2} (.pointer Y) (.slice ua un uc) (.slice va vn vc)).toArray) (J9 results242 _ _ w.heap.size _ _ _ _ rfl (jwc (w:=w5.setCell ⟨w3.heap.size,8,none⟩ _) (by rw[jz (by grind)];exact s)) underlying334 rfl au) rfl ?_;rw[ku H];refine⟨.node 0 0 {N:=.nil,value:=.nil,A:=t2} (.node 0 0 noS b3 b5) .nil,_,rfl,⟨Y,ua,un,uc,va,vn,vc,c3,c5,[],ay,?_,⟨?_,(λj _ h=>ig),?_⟩,⟨?_,(λj _ h=>ig),?_⟩,rfl⟩,rfl,jwk,?_,(H5.setOther O T (by grind) _).qwk O T jH _ _ _ _ _ _ _ _ _,(K.jm (by grind) _).qwk jH _ _ _ _ _ _ _ _ _⟩
   ·exact(E.zqn<|(M.set (Or.inr aj) _).qwk (Or.inl aj) _ _ _ _ _ _ _ _ _).mono aj
   ·exact qo aj (xg ((m.set (Or.inr ay) _).qwk (Or.inl aj) _ _ _ _ _ _ _ _ _).block a2)
   ·exact((G.shun (no':=none)<|λk V=>by cases V).zqn<|(m.set (Or.inr ay) _).qwk (Or.inl aj) _ _ _ _ _ _ _ _ _).mono aj
   ·exact qo aj (xg (((kjz.refl w4.heap.size w5).set (Or.inl aj) _).qwk (Or.inl aj) _ _ _ _ _ _ _ _ _).block aF)
   ·exact((a9.shun (no':=none)<|λk V=>by cases V).zqn<|((kjz.refl w4.heap.size w5).set (Or.inl aj) _).qwk (Or.inl aj) _ _ _ _ _ _ _ _ _).mono aj
   ·intro hb;rw[(ku a3) ((ku A) a5),(ku a0) a5,(ku aC) hb];rfl
theorem xxf(h:zs.length=9):∃c0 c1 c2 c3 c4 c5 c6 c7 c8,zs=[c0,c1,c2,c3,c4,c5,c6,c7,c8]:=by
 match zs,h with
 |[c0,c1,c2,c3,c4,c5,c6,c7,c8],_=>simp
def vku(L:List Tok)(F:Nat)(fin:PB×RS)(acc:PB)(s:RS):Prop:=
 (s.s=true/\fin.2=s)\/(s.s=false/\∃g,g<F/\2*(L.length-s.v)+1<=g/\fin=(kkp acc (rS g 1 L s).1,qg L [125] (rS g 1 L s).2))
theorem vk7(b:st.s=false->2*(L.length-st.v)+2<=f)(c:st.v<L.length):vku L f (rS f 0 L st) .nil (qg L [123] st):=by
 cases hb:st.s
 ·have:=b hb;obtain⟨f,rfl⟩:=qqy f;rw[rS];cases a:(qg L [123] st).s
  ·have:=qqd a;exact .inr ⟨a,f,aj,aj,rfl⟩
  ·exact .inl ⟨a,by grind [kkt,kqs]⟩
 ·rw[kqs hb];exact .inl ⟨hb,kkt hb _ _⟩
def zwl(L:List Tok)(s:RS):Bool:=zk L mY s||kqf L mX s
theorem zv3(h:zwl L s=true):s.s=false/\zk L [125] s=false:=by grind [zwl,zk,qqb,kqf]
theorem pj2(b:kq6 L)(a:s.v<L.length)(h:zwl L s=true):s.v+1<L.length:=by
 unfold zwl at h;rw[Q8]at h;obtain h|h:=h
 ·exact(kz9 b a h).2
 ·unfold kqf at h;simp only[rG]at h;have c:=h.2;rw[su]at c;exact b.fin a (by rw[(b.ok _ a).fin,c];rfl)
theorem jzw(h:vku L F e9 b9 s)(a:zwl L s=true):∃g,g+1<F/\2*(L.length-s.v)+1<=g+1 /\
  e9=(kkp b9<|kkp (rDo (rS g 0 L) L s).1 (rS g 1 L (rDo (rS g 0 L) L s).2).1,qg L [125] (rS g 1 L (rDo (rS g 0 L) L s).2).2):=by
 have ⟨hb,hn⟩:=zv3 a;obtain⟨h1,_⟩|⟨h1,g,b,c,d⟩:=h
 ·simp_all
 ·obtain⟨g,rfl⟩:=qqy g;grind [rS]
theorem jzv{fin:PB×RS}{acc b:PB}{s:RS}(h:g+1<F/\(e9.2.s=false->2*(L.length-e9.2.v)+1<=g)/\fin=(kkp acc<|kkp e9.1 (rS g 1 L e9.2).1,qg L [125] (rS g 1 L e9.2).2))(e:kqq b=1)(hb:e9.2.s=false->b=e9.1):vku L F fin (kkp acc b) e9.2:=by
 obtain⟨h1,c,d⟩:=h;cases a:e9.2.s
 ·refine .inr ⟨a,g,aj,c a,?_⟩;rw[d,hb a,zz0]
 ·refine .inl ⟨a,?_⟩;grind [kkt,kqs]
theorem pk4(h:vku L F e9 b9 s)(a:zwl L s=false):e9.2=qg L [125] s/\(e9.2.s=false->e9.1=b9):=by
 unfold zwl at a;rw[Qi]at a;obtain⟨h1,b⟩|⟨h1,g,c,b,d⟩:=h
 ·grind [kqs]
 ·obtain⟨g,rfl⟩:=qqy g;cases hn:zk L [125] s
  ·have e:(rDo (rS g 0 L) L s).2={s with s:=true}:=by grind [zq,kqy,kqk,rDo,kqs,kk2]
   grind [rS,qg,kkt,kqs]
  grind [rS,jzk]
def pjr(w:World)(P:Nat)(v:Value)(L:List Tok)(F:Nat)(fin:PB×RS)(st0:RS)(x:Value)(wr:World):Prop:=
 ∃(acc:PB)(cs:List Value)(s:RS),vku L F fin acc s/\(s.s=false->st0.s=false)/\kqq acc<=s.v+s.s.toNat/\wr.ownsRow w.heap.size 334 9 x (kqq acc) cs/\BIs w.heap.size x.ownBlock wr acc cs/\Pd wr P v L s/\Kept P w wr
theorem jqa(f:Nat)(R:st.s=false->pjn)(hS:st.s=false->∀g,g<f->vq3 g)(h:Pd w P v L st)(hf:st.s=false->2*(L.length-st.v)+2<=f):Calls prog 211 #[.pointer (some ⟨P,0,none⟩)] w λe w'=>jza P v L w (rS f 0 L st) e w':=by
 have B:=h.in;have HV:=oz h.kq9;have hL:=h.ok;have aG:=hL.T;have a7:=vk7 hf h.lt;generalize rS f 0 L st=fin at *;go_in;go_wp21;refine(qwr [123] ak rfl h).mono ?_;rintro e w1 ⟨rfl,h1,aC⟩;go_wp2;go_loopw [3] (λx wr=>pjr w P v L f fin st x wr) (λ_ wr=>L.length-zx2 wr P);exact(⟨.nil,[],qg L [123] st,a7,λhb=>kz2 hb,by simp[kqq],oN,rfl,h1,aC⟩:pjr w P v L f fin st (.slice none 0 0) w1);obtain⟨acc,cs,s,HL,u,a2,Z,a9,HP,i⟩:=hrel;have a5:=HP.lt;have aI:s.s.toNat<=1:=by cases s.s<;>decide
 obtain⟨xa,xl,xc,rfl⟩:=qh Z;go_wp21;refine(qzj mY ak HP).mono ?_;rintro e w2 ⟨rfl,c,U⟩;have O:=jr (oz Z) U B;have H:=(oz a9).stay (λk h1 c=>U.block k c aj);have K:=(oz i).trans U;cases hn:zk L mY s
 ·go_wp21;refine(pqw c).mono ?_;rintro e w3 ⟨t,rfl,_,aE,a3⟩;have V:Kept P w2 w3:=.of_below a3;go_wp21;refine(jjn t).mono ?_;rintro e w4 ⟨rfl,a4⟩;rw[aE];have W:Kept P w3 w4:=.of_below a4;have H4:=(c.below a3).below a4;have Q:=jr (jr O V B) W B;have I:=(H.stay<|λk h1 c=>V.block k c aj).stay (λk h1 c=>W.block k c aj);have M:=(K.trans V).trans W;cases aJ:kqf L mX s
  ·have ⟨aH,aA⟩:=pk4 HL (by unfold zwl;simp_all);go_wp21;refine(qxi [125] ak rfl rfl H4).mono ?_;rintro e w5 ⟨rfl,H5,X⟩;go_wp2;go_ret;exact⟨xa,xl,xc,acc,cs,rfl,(jr Q X B),(I.stay<|λk h1 c=>X.block k c aj),λhb=>((oz aA) hb).symm,by simp_all,(M.trans X),aj⟩
  ·have m:zwl L s=true:=by unfold zwl;simp_all
   have d:=(zv3 m).1;have ⟨g,S,aB,N⟩:=jzw HL m;go_wp21;refine(jkj g (λ_=>R<|u d) (λ_=>hS (u d) g aj) H4<|λ_=>aj).mono ?_;rintro e w6 ⟨b6,c6,rfl,l,q,J,T,h6,p⟩;have y:=l.T;rw[q]at y;have j:=jr Q p B;have A:=M.trans p;have aF:=A.size;have HM:=jzv (L:=L) (F:=f) (g:=g) (fin:=fin) (acc:=acc) (b:=b6) (s:=s) ⟨S,λhb=>by grind [qwd,kkc,qwg],N⟩ q T;have aD:=zzo (L:=L) (st:=s) (λs=>kkc L g 0 s);have a0:=qwd (L:=L) (st:=s) (λs=>kkc L g 0 s) (λs hb=>qwg hb g 0);generalize rDo (rS g 0 L) L s=G at *;obtain⟨c0,c1,c2,c3,c4,c5,c6,c7,c8,rfl⟩:=xxf aj;go_wp2_with (at_builtin;refine apO (j.alloc _) ?_ (h1:=sJ.2 J))
   intro v7 z a1 a a6 D;have C:=jo j;have Y:Kept P w z:=(A.alloc _).grown a C;have h7:Pd z P v L G.2:=((oz h6).alloc _).grown a C HV B;have E:BIs w.heap.size v7.ownBlock z (kkp acc b6) (cs++[c0,c1,c2,c3,c4,c5,c6,c7,c8]):=
    BIs.kva (j.alloc _) a (λk i=>(vw0 D k i).imp id<|λh=>by simp_all) (((I.stay<|λk h1 c=>p.block k c aj).app<|(l.shun (no':=(Value.slice xa xl xc).ownBlock)<|λk i=>.inr<|.inr (kq9 Q k i)).mono M.size).stay<|λk _ i=>jj i)
   go_wp2;exact⟨(⟨kkp acc b6,_,G.2,HM,λ_=>u d,oU,by rw[qkj,q];omega,E,h7,Y⟩:pjr w P v L f fin st v7 z),(qqq HP h7 d (pj2 hL a5 m) a0)⟩
 ·have m:zwl L s=true:=by unfold zwl;simp_all
  have d:=(zv3 m).1;have ⟨g,S,aB,N⟩:=jzw HL m;go_wp21;refine(jkj g (λ_=>R<|u d) (λ_=>hS (u d) g aj) c<|λ_=>aj).mono ?_;rintro e w6 ⟨b6,c6,rfl,l,q,J,T,h6,p⟩;have y:=l.T;rw[q]at y;have j:=jr O p B;have A:=K.trans p;have aF:=A.size;have HM:=jzv (L:=L) (F:=f) (g:=g) (fin:=fin) (acc:=acc) (b:=b6) (s:=s) ⟨S,λhb=>by grind [qwd,kkc,qwg],N⟩ q T;have aD:=zzo (L:=L) (st:=s) (λs=>kkc L g 0 s);have a0:=qwd (L:=L) (st:=s) (λs=>kkc L g 0 s) (λs hb=>qwg hb g 0);generalize rDo (rS g 0 L) L s=G at *;obtain⟨c0,c1,c2,c3,c4,c5,c6,c7,c8,rfl⟩:=xxf aj;go_wp2_with (at_builtin;refine apO (j.alloc _) ?_ (h1:=sJ.2 J))
  intro v7 z a1 a a6 D;have C:=jo j;have Y:Kept P w z:=(A.alloc _).grown a C;have h7:Pd z P v L G.2:=((oz h6).alloc _).grown a C HV B;have E:BIs w.heap.size v7.ownBlock z (kkp acc b6) (cs++[c0,c1,c2,c3,c4,c5,c6,c7,c8]):=
   BIs.kva (j.alloc _) a (λk i=>(vw0 D k i).imp id<|λh=>by simp_all) (((H.stay<|λk h1 c=>p.block k c aj).app<|(l.shun (no':=(Value.slice xa xl xc).ownBlock)<|λk i=>.inr<|.inr (kq9 O k i)).mono K.size).stay<|λk _ i=>jj i)
  go_wp2;exact⟨(⟨kkp acc b6,_,G.2,HM,λ_=>u d,oU,by rw[qkj,q];omega,E,h7,Y⟩:pjr w P v L f fin st v7 z),(qqq HP h7 d (pj2 hL a5 m) a0)⟩
theorem pk2:pjn:=λg w P v L st hb h=>by have:=jqa 0 (λh=>by simp_all) (λh=>ay) h (λh=>by simp_all);refine this.mono ?_;rintro e w' ⟨j,l,k,b,cs,h1,c,d,f,a,i⟩;rw[kkt hb]at f a;exact⟨j,l,k,b,cs,h1,c,d,λh=>(by rw[kkt hb,hb]at h;cases h),by rw[kkt hb];exact a,i⟩
theorem xz2(f:Nat):vq3 f:=by
 induction f using Nat.strongRecOn with
 |ind f ih=>exact λw P v L st h a=>jqa f (λ_=>pk2) (λ_ g b=>ih g b) h a
theorem vvo(h:Pd w P v L st):og 211 #[.pointer (some ⟨P,0,none⟩)] w λe w'=>jza P v L w (rS (qqn L) 0 L st) e w':=
 xz2 (qqn L) w P v L st h (λ_=>by unfold qqn;omega)
theorem kju(h:w.heap[b]?=some (.cells #[x0,x1,x2,x3,x4,x5,x6,x7,x8,x9] e8 (0,0))):(Ce w b 0 x0/\Ce w b 1 x1/\Ce w b 2 x2/\Ce w b 3 x3/\Ce w b 4 x4/\Ce w b 5 x5/\Ce w b 6 x6/\Ce w b 7 x7/\Ce w b 8 x8/\Ce w b 9 x9) /\
  (Fr w b 0/\Fr w b 1/\Fr w b 2/\Fr w b 3/\Fr w b 4/\Fr w b 5/\Fr w b 6/\Fr w b 7/\Fr w b 8/\Fr w b 9):=
 ⟨⟨rc h 0,rc h 1,rc h 2,rc h 3,rc h 4,rc h 5,rc h 6,rc h 7,rc h 8,rc h 9⟩,
  ⟨rf h 0,rf h 1,rf h 2,rf h 3,rf h 4,rf h 5,rf h 6,rf h 7,rf h 8,rf h 9⟩⟩
theorem vjz(h:w.heap[b]?=some (.cells #[x0,x1,x2,x3,x4,x5,x6,x7,x8,x9] e8 (0,0))):(puts b [y0,y1,y2,y3,y4,y5,y6,y7,y8,y9] 0 w).heap[b]?=some (.cells #[y0,y1,y2,y3,y4,y5,y6,y7,y8,y9] e8 (0,0)):=zju h
theorem Pd.vjx(h:Pd w P v L st)(a:∀g,v.ownBlock=some g->g<B)(c:P<B)(hb:B<=b)(y0 y1 y2 y3 y4 y5 y6 y7 y8 y9:Value):Pd (puts b [y0,y1,y2,y3,y4,y5,y6,y7,y8,y9] 0 w) P v L st:=h.qk9 a c hb _ _
theorem Kept.vjx(h:Kept P a w)(hb:a.heap.size<=b)(y0 y1 y2 y3 y4 y5 y6 y7 y8 y9:Value):Kept P a (puts b [y0,y1,y2,y3,y4,y5,y6,y7,y8,y9] 0 w):=h.qk9 hb _ _
structure VrT where
 y:Tok
 K:Bool
 g:Tok
 si:SiT
def kjs(x:VrT):List Value:=[.string x.y.x,.int .i64 x.y.v,.bool x.K,.string x.g.x,.int .i64 x.g.v,.int .i64 x.si.I,.int .i64 (mg x.si.R.x),.int .i64 x.si.R.v,.string x.si.y.x,.int .i64 x.si.y.v]
def vrV(x:VrT):Value:=.agg (kjs x).toArray
def zj8(L:List Tok)(st:RS):RS:=qg L [58] (zq L mX (qg L mD st)).2
def vrT(L:List Tok)(st:RS):VrT:=⟨(zq L mX (qg L mD st)).1,zk L [91] (zj8 L st),(kjn L (zj8 L st)).1,siT L (kjn L (zj8 L st)).2⟩
theorem xkj(h1:qg L mD st=s1)(a:zq L mX s1=k)(b:qg L [58] k.2=s3):vrT L st=⟨k.1,zk L [91] s3,(kjn L s3).1,siT L (kjn L s3).2⟩/\(kyt L st).2=qg L [59] (kku L (kjn L s3).2).2:=by subst h1;subst a;subst b;exact⟨rfl,rfl⟩
theorem jja(h:w.heap[b]?=some (.cells #[x0,x1,x2,x3,x4,x5,x6,x7,x8,x9] e8 (0,0))):(puts b [y5,y6,y7,y8,y9] 5 w).heap[b]?=some (.cells #[x0,x1,x2,x3,x4,y5,y6,y7,y8,y9] e8 (0,0)):=zju h
theorem jjo(h:w.heap[lo]?=some o)(a:lo≠b):(((((w.setCell ⟨b,5,none⟩ y5).setCell ⟨b,6,none⟩ y6).setCell ⟨b,7,none⟩ y7).setCell ⟨b,8,none⟩ y8).setCell ⟨b,9,none⟩ y9).heap[lo]?=some o:=by rw[hsC a,hsC a,hsC a,hsC a,hsC a];exact h
theorem zqs(h:Pd w P v L st):Calls prog 149 #[.pointer (some ⟨P,0,none⟩)] w λe w'=>e=.returned (vrV<|vrT L st)/\Pd w' P v L (kyt L st).2/\Kept P w w':=by
 have d:=h.in;have c:=oz h.kq9;go_in;go_wp21;refine(kjb mD ak rfl rfl<|h.alloc _).mono ?_;rintro e w1 ⟨rfl,Z,I⟩;obtain⟨(D:Hid _),(E:Hid _)⟩:=xkj (L:=L) (st:=st) rfl rfl rfl;generalize qg L mD st=s1 at *;have W:=oz<|I.e (b:=w.heap.size) aj (qy);have T:=(Kept.kqe _).trans I;go_wp21
 refine(kxs Z).mono ?_;rintro e a ⟨rfl,H2,J⟩;generalize zq L mX s1=k at *;have U:=T.trans J;have G:=oz<|J.e aj W;have a0:=wQ G;unfold ptV;go_wp21
 refine(kjb [58] ak rfl rfl<|H2.alloc _).mono ?_;rintro e w3 ⟨rfl,H3,B⟩;generalize qg L [58] k.2=s3 at *;have X:=oz<|B.e aj (zy G);have Y:=oz<|B.e (b:=a.heap.size) aj (qy);have V:=(U.alloc _).trans B;go_wp21
 refine(qzj [91] ak H3).mono ?_;rintro e w4 ⟨rfl,R,C⟩;have H:=oz<|C.e aj X;have z:=oz<|C.e aj Y;have F:=V.trans C;cases hn:zk L [91] s3
 ·have x:=oz (by unfold kjn;simp_all:kjn L s3=(zh,s3));rw[hn,ku x]at D;rw[ku x]at E;go_wp21;refine(zva R).mono ?_;rintro e w5 ⟨rfl,K,f⟩;have y:=oz<|f.e aj H;have l:=oz<|f.e (b:=a.heap.size) aj z;have t:=F.trans f;generalize siT L s3=q at *;have Q:=kju l;unfold siV;go_wp21
  clear Q;refine(kjb [59] ak rfl rfl<|((((K.setOther c d (by grind) _).setOther c d (by grind) _).setOther c d (by grind) _).setOther c d (by grind) _).setOther c d (by grind) _).mono ?_;rintro e w6 ⟨rfl,M,g⟩;have j:=oz<|g.e (b:=w.heap.size) aj (jjo y aj);have m:=g.e (b:=a.heap.size) aj<|jja l;have u:=((((t.jm (p:=⟨a.heap.size,5,none⟩) (by grind) _).jm (p:=⟨a.heap.size,6,none⟩) (by grind) _).jm (p:=⟨a.heap.size,7,none⟩) (by grind) _).jm (p:=⟨a.heap.size,8,none⟩) (by grind) _).jm (p:=⟨a.heap.size,9,none⟩) (by grind) _ |>.trans g;have d0:=kju j;have g0:=kju m;clear m;go_wp2
  refine kx0 results149 underlying121 (vjz j) ?_;rw[ku D,ku E];exact⟨rfl,M.vjx c d jH _ _ _ _ _ _ _ _ _ _,u.vjx jH _ _ _ _ _ _ _ _ _ _⟩
 ·have x:=oz (by unfold kjn;rw[hn];rfl:kjn L s3=((sqT L s3).1,qg L [93] (sqT L s3).2));rw[hn,ku x]at D;rw[ku x]at E;have g2:=kju z;go_wp21;refine(zxv<|R.setOther c d (by grind) _).mono ?_;rintro e a1 ⟨rfl,S,s⟩;clear g2;obtain⟨O,A⟩:=ju (s.e (b:=w.heap.size) aj<|(hsC<|by grind).trans H) (s.e (b:=a.heap.size) aj (jL _ 2 _ _ _ z));have N:=(F.jm (p:=⟨a.heap.size,2,none⟩) (by grind)<|.bool true).trans s;generalize sqT L s3=i at *;have g3:=kju A;unfold ptV;go_wp21;clear g3;refine(zva<|S.set2 c d (by grind) (by grind) _ _).mono ?_;rintro e w5 ⟨rfl,K,f⟩;obtain⟨y,l⟩:=ju (f.e (b:=w.heap.size) aj<|(hsC<|by grind).trans ((hsC<|by grind).trans O)) (f.e (b:=a.heap.size) aj (jL _ 4 _ _ _<|jL _ 3 _ _ _ A));have t:=((N.jm (p:=⟨a.heap.size,3,none⟩) (by grind) _).jm (p:=⟨a.heap.size,4,none⟩) (by grind) _).trans f;generalize siT L (qg L [93] i.2)=q at *;generalize qg L [93] i.2=s5 at *;have Q:=kju l;unfold siV;go_wp21;clear Q;refine(kjb [59] ak rfl rfl<|((((K.setOther c d (by grind) _).setOther c d (by grind) _).setOther c d (by grind) _).setOther c d (by grind) _).setOther c d (by grind) _).mono ?_;rintro e w6 ⟨rfl,M,g⟩;have j:=oz<|g.e (b:=w.heap.size) aj (jjo y aj);have m:=g.e (b:=a.heap.size) aj<|jja l;have u:=((((t.jm (p:=⟨a.heap.size,5,none⟩) (by grind) _).jm (p:=⟨a.heap.size,6,none⟩) (by grind) _).jm (p:=⟨a.heap.size,7,none⟩) (by grind) _).jm (p:=⟨a.heap.size,8,none⟩) (by grind) _).jm (p:=⟨a.heap.size,9,none⟩) (by grind) _ |>.trans g;have d0:=kju j;have g0:=kju m;clear m;go_wp2
  refine kx0 results149 underlying121 (vjz j) ?_;rw[ku D,ku E];exact⟨rfl,M.vjx c d jH _ _ _ _ _ _ _ _ _ _,u.vjx jH _ _ _ _ _ _ _ _ _ _⟩
theorem xjt(h:w.heap[b]?=some (.cells #[x0,x1,x2] e8 (0,0))):(puts b [y0,y1,y2] 0 w).heap[b]?=some (.cells #[y0,y1,y2] e8 (0,0)):=zju h
structure zj5 (w:World)(P:Nat)(v:Value)(L:List Tok)(B0 B1:Nat)(name:Tok)(acc:List Tok)(s:RS)(x:Value)(wx:World):Prop where
 b0:wx.heap[B0]?=some (.cells #[.string ⟨#[]⟩,.int .i64 0,.slice none 0 0] 114 (0,0))
 b1:wx.heap[B1]?=some (.cells #[.string name.x,.int .i64 name.v,x] 114 (0,0))
 xu:wx.ownsRow (B1+1) 107 2 x acc.length (kjq acc)
 pd:Pd wx P v L s
 kept:Kept P w wx
theorem zj5.kept'(h:zj5 w P v L B0 B1 name acc s x0 wx)(a:Kept P wx wy)(c:Pd wy P v L s')(b:B0≠P)(h1:P<B1):zj5 w P v L B0 B1 name acc s' x0 wy:=
 ⟨a.e b h.b0,a.e aj h.b1,jr h.xu a aj,c,h.kept.trans a⟩
theorem zj5.more(h:zj5 w P v L B0 B1 name acc s x0 wx)(a:(wx.alloc o).grownBy wy x0.ownBlock)(b:wy.ownsRow (B1+1) 107 2 y (acc.length+1) (kjq acc++kzy a7))(j:∀g,v.ownBlock=some g->g<w.heap.size)(l:P<w.heap.size)(c:w.heap.size=B0)(q:B0<B1):zj5 w P v L B0 B1 name (acc++[a7]) s y (wy.setCell ⟨B1,2,none⟩ y):=by
 subst c;have d:=jo h.xu;have m:=wQ h.b0;have p:=wQ h.b1;have f:wy.heap[w.heap.size]?=wx.heap[w.heap.size]?:=(a.block _ ah<|λe=>by grind).trans<|jj m;have i:wy.heap[B1]?=wx.heap[B1]?:=(a.block _ ah<|λe=>by grind).trans<|jj p;refine⟨by rw[hsC (by grind),f];exact h.b0,jL _ 2 _ _ _<|i.trans h.b1,?_,?_,?_⟩
 ·rw[qxp,rD];exact ownsRow_setCell_other b (λe=>by have:=jo b _ e;grind) _
 ·exact((h.pd.alloc o).grown a d (λg a=>by grind) aj).setOther (B:=w.heap.size) j l (by grind) _
 ·exact(((h.kept.alloc o).grown a<|λk t=>by grind).jm (by grind) _)
def jzl(L:List Tok)(fin:List Tok×RS)(acc:List Tok)(s:RS):Prop:=
 (s.s=true/\fin.2=s)\/(s.s=false/\1<=acc.length/\∃f,L.length<=s.v+f/\(if zk L [44] s then kkn f L acc (qg L [44] s) else (acc,s))=fin)
theorem vwz(d:L.length<=s.v+f):jzl L (kkn (f+1+1) L [] s) [(zq L mX s).1,(zq L mX (qg L [44] (zq L mX s).2)).1] (zq L mX (qg L [44] (zq L mX s).2)).2:=by
 cases hb:s.s
 ·rw[kkn];simp only[hb,ru,Xv,Zw,Jc,Nat.reduceLT,decide_true,Js,Xw,Qd];have g:=kj1 L mX s;have h:=yh L [44] (zq L mX s).2;generalize qg L [44] (zq L mX s).2=c at *;have i:=kj1 L mX c;rw[kkn];cases a:c.s
  ·simp only[ru,Xv,JC,Nat.reduceAdd,Nat.lt_irrefl,decide_false,Qg,QU,Qd];cases b:(zq L mX c).2.s
   ·exact .inr ⟨b,ay,f,aj,rfl⟩
   ·exact .inl ⟨b,by rw[kqk b];rfl⟩
  ·simp only[Xw];exact .inl ⟨by rw[kza a];exact a,by rw[kza a]⟩
 ·have e:(zq L mX<|qg L [44] (zq L mX s).2).2=s:=by grind [kza,kqs]
  rw[e,kkn];simp only[hb,Xw];exact .inl ⟨hb,rfl⟩
theorem vzx(i:s.v<L.length)(h:jzl L g4 acc s)(hn:zk L [44] s=true):jzl L g4 (acc++[(zq L mX (qg L [44] s)).1]) (zq L mX (qg L [44] s)).2:=by
 obtain⟨hb,_⟩|⟨hb,d,f,k,e⟩:=h
 ·rw[kqk hb]at hn;cases hn
 ·rw[lJ hn]at e;have c:qg L [44] s={s with v:=s.v+1}:=jW;have g:(qg L [44] s).v=s.v+1:=by rw[c]
  have b:(qg L [44] s).s=false:=by simp_all
  obtain⟨f,rfl⟩:=qqy f;generalize qg L [44] s=s' at *;rw[kkn]at e;simp only[b,ru,Xv]at e;rw[show decide (acc.length+1<2)=false by simp_all,Qg]at e;have j:=kj1 L mX s';cases a:(zq L mX s').2.s
  ·exact .inr ⟨a,ay,f,aj,e⟩
  ·refine .inl ⟨a,?_⟩;grind [kqk]
theorem vwx(h:jzl L g4 acc s)(hn:zk L [44] s=false):g4.2=s/\(s.s=false->g4.1=acc):=by
 obtain⟨hb,e⟩|⟨hb,_,f,a,e⟩:=h
 ·simp_all
 grind
theorem pzv(h1:qg L ny st=s1)(a:zq L mX s1=k)(b:qg L [123] k.2=s3):kxz L st=(⟨k.1,(kkn (kq2 L) L [] s3).1⟩,qg L [125] (kkn (kq2 L) L [] s3).2):=by subst h1;subst a;subst b;rfl
def xva(P:Nat)(v:Value)(L:List Tok)(w:World)(r:PKind×RS)(e:Ending)(w':World):Prop:=
 ∃x l,e=.returned (.agg #[.string r.1.y.x,.int .i64 r.1.y.v,x])/\w'.ownsRow w.heap.size 107 2 x l.length (kjq l)/\(r.2.s=false->l=r.1.i)/\Pd w' P v L r.2/\Kept P w w'/\l.length<=802
def vyc(w:World)(P:Nat)(v:Value)(L:List Tok)(fin:List Tok×RS)(B1:Nat)(name:Tok)(wx:World):Prop:=
 ∃acc s x,jzl L fin acc s/\acc.length<=s.v+2/\zj5 w P v L w.heap.size B1 name acc s x wx
theorem pzp(h:Pd w P v L st):Calls prog 148 #[.pointer (some ⟨P,0,none⟩)] w λe w'=>xva P v L w (kxz L st) e w':=by
 have D:=h.in;have C:=oz h.kq9;have aE:=h.ok.T;go_in;go_wp21;refine(kjb ny ak rfl rfl<|h.alloc _).mono ?_;rintro e w1 ⟨rfl,H1,a2⟩;have HE:=oz<|pzv (L:=L) (st:=st) rfl rfl rfl;generalize qg L ny st=s1 at *;have aC:=oz<|a2.e (b:=w.heap.size) aj (qy);have a9:=(Kept.kqe _).trans a2;go_wp21
 refine(kxs H1).mono ?_;rintro e d ⟨rfl,H2,a3⟩;generalize zq L mX s1=k at *;have aA:=a9.trans a3;have X:=oz<|a3.e aj aC;have R:=wQ X;unfold ptV;go_wp21
 refine(qwr [123] ak rfl<|H2.alloc _).mono ?_;rintro e w3 ⟨rfl,h3,N⟩;generalize qg L [123] k.2=s3 at *;have F:=show zj5 w P v L w.heap.size d.heap.size k.1 [] s3 (.slice none 0 0) w3 from⟨N.e aj<|zy X,N.e (b:=d.heap.size) aj<|qy,oN,h3,(aA.alloc _).trans N⟩
 go_upto_region 4 with fail
 go_cut [] from 11 to 17 (λwx=>∃x,zj5 w P v L w.heap.size d.heap.size k.1 [(zq L mX s3).1] (zq L mX s3).2 x wx)
 case first=>
  have q2:=row3 F.b1;go_region_law (first
   |(refine apL (news:=(kzy (zq L mX s3).1)) (c.xu.alloc _) (Xk U _) ?_;intro gg cap u g a H O;have K:u.frozen? ⟨d.heap.size,2,none⟩=false:=(a.frozen_far _ ah<|by simp[Value.ownBlock]).trans<|kv1 (jZ _) q T;have J:u.cell? ⟨d.heap.size,2,none⟩=some (.slice none 0 0):=(a.cell_far _ ah<|by simp[Value.ownBlock]).trans<|wU (jZ _) S)
   |(go_simp;go_at_call 202;refine(kxs<|F.pd.below (bR.drew)).mono ?_;rintro e U ⟨rfl,y,p⟩;have c:=F.kept' ((Kept.refl _ _).drew.trans p) y aj aj;have ⟨_,_,S,_,_,T⟩:=row3 c.b1;have q:=wQ c.b1 ;unfold ptV;dsimp only))
  all_goals
   go_wp21;go_meet
   exact⟨_,c.more a g C D rfl R⟩
 case rest=>
 obtain⟨x4,W⟩:=hcut;have B:=vwz (L:=L) (s:=s3) (f:=L.length) aj;have HF:=oz (show kkn (L.length+1+1) L [] s3=kkn (kq2 L) L [] s3 from rfl);generalize kkn (L.length+1+1) L [] s3=fin at *;go_wp21;generalize zq L mX s3=k3 at *;refine(kjb [44] ak rfl rfl W.pd).mono ?_;rintro e w7 ⟨rfl,h7,aD⟩;have j:=W.kept' aD h7 aj aj;obtain⟨xa,xl,xc,rfl⟩:=qh j.xu;generalize qg L [44] k3.2=s7 at *;go_upto_region 6 with fail
 go_cut [] from 20 to 26 (λwx=>∃x,zj5 w P v L w.heap.size d.heap.size k.1 [k3.1,(zq L mX s7).1] (zq L mX s7).2 x wx)
 case first=>
  have q2:=row3 j.b1;go_region_law (first
   |(refine apL (news:=(kzy (zq L mX s7).1)) (c.xu.alloc _) (Xk U _) ?_;intro gg cap u g a H O;have K:u.frozen? ⟨d.heap.size,2,none⟩=false:=(a.frozen_far _ ah<|show some d.heap.size≠_ from λe=>by grind).trans<|kv1 (jZ _) q T;have J:u.cell? ⟨d.heap.size,2,none⟩=some (.slice xa xl xc):=(a.cell_far _ ah<|show some d.heap.size≠_ from λe=>by grind).trans<|wU (jZ _) S)
   |(go_simp;go_at_call 202;refine(kxs<|j.pd.below (bR.drew)).mono ?_;rintro e U ⟨rfl,y,p⟩;have c:=j.kept' ((Kept.refl _ _).drew.trans p) y aj aj;have ⟨_,_,S,_,_,T⟩:=row3 c.b1;have a6:=jo c.xu;have q:=wQ c.b1;clear y p;unfold ptV;dsimp only))
  all_goals
   go_wp21;go_meet
   exact⟨_,c.more a g C D rfl R⟩
 case rest=>
 obtain⟨x8,Z⟩:=hcut;have V:=oz (show vyc w P v L fin d.heap.size k.1 _ from⟨_,_,x8,B,ay,Z⟩);clear j Z B;go_wp21;go_loopw [] (λwr=>vyc w P v L fin d.heap.size k.1 wr) (λwr=>L.length-zx2 wr P);exact V;obtain⟨acc,s,x,A,aG,hR⟩:=hrel;have a4:=hR.pd.lt;obtain⟨B,E⟩:=ju A hR;clear A hR;go_wp21;refine(kxm [44] ak E.pd).mono ?_;rintro e w9 ⟨rfl,h9,z⟩;cases I:zk L [44] s
 ·rw[qj6 I]at h9;have ⟨a0,a1⟩:=vwx B I;obtain⟨l,a7,a8⟩:=jp (E.kept' z h9 aj aj) a0 a1;clear h9 z a0 a1;go_wp21;refine(qxi [125] ak rfl rfl l.pd).mono ?_;rintro e aK ⟨rfl,Y,M⟩;have m:=l.kept' M Y aj aj;obtain⟨ya,yl,yc,rfl⟩:=qh m.xu;have ⟨d0,d1,d2,e0,e1,e2⟩:=row3 m.b0;have ⟨g0,g1,g2,_⟩:=row3 m.b1;have i:=oz m;clear Y M m;go_wp2;refine kx0 results148 underlying114 (xjt i.b0) ?_;rw[ku HE,<-ku HF,ku a7];have aH:=jo i.xu;refine⟨_,acc,rfl,?_,λhb=>(a8<|kz2 hb).symm,?_,?_,aj⟩
  ·exact qo aj (ownsRow_setCell_other (ownsRow_setCell_other (ownsRow_setCell_other i.xu (λe=>by grind) _) (λe=>by grind) _) (λe=>by grind) _)
  ·exact((i.pd.setOther C D jH _).setOther C D jH _).setOther C D jH _
  ·exact((i.kept.jm jH _).jm jH _).jm jH _
 ·rw[qkk I rfl rfl]at h9;have a5:=kz9 E.pd.ok a4 I;have aI:(qg L [44] s).v=s.v+1:=jW;have HM:=oz<|vzx a4 B I;have G:=E.kept' z h9 aj aj;obtain⟨xa,xl,xc,rfl⟩:=qh G.xu;have l:=oz G;clear h9 z G B;generalize qg L [44] s=s' at *;have aJ:=kj1 L mX s';go_wp21
  have ⟨_,_,q2,_,_,r2⟩:=row3 l.b1;have aF:=wQ l.b1;go_region_law (first
  |(refine apL (news:=(kzy (zq L mX s').1)) (c.xu.alloc _) (Xk U _) ?_;intro gg cap u g a H O;have K:u.frozen? ⟨d.heap.size,2,none⟩=false:=(a.frozen_far _ ah<|show some d.heap.size≠_ from λe=>by grind).trans<|kv1 (jZ _) q T;have J:u.cell? ⟨d.heap.size,2,none⟩=some (.slice xa xl xc):=(a.cell_far _ ah<|show some d.heap.size≠_ from λe=>by grind).trans<|wU (jZ _) S)
  |(go_simp;go_at_call 202;refine(kxs<|l.pd.below (bR.drew)).mono ?_;rintro e U ⟨rfl,y,p⟩;have t:=l.kept' ((Kept.refl _ _).drew.trans p) y aj aj;have ⟨_,_,S,_,_,T⟩:=row3 t.b1;have a6:=jo t.xu;have c:=oz t;have q:=wQ t.b1;clear y p t;unfold ptV;dsimp only))
  all_goals
   have Q:=c.more a g C D rfl R;obtain⟨aB,j⟩:=ju (qqq E.pd Q.pd a5.1 a5.2<|λ_=>aj) (show vyc w P v L fin d.heap.size k.1 _ from⟨_,_,_,HM,by grind,Q⟩);clear Q g a H K J;go_wp2;exact⟨j,aB⟩
def kvy(lo:Nat)(w:World):List PRule->List Value->Prop
 |[],cs=>cs=[]
 |r::rs,cs=>∃pa pn pc gp ba bn bc bcs rest,cs=[.string r.y.x,.int .i64 r.y.v,.slice pa pn pc,.pointer gp,.slice ba bn bc]++rest/\w.ownsRow lo 352 4 (.slice pa pn pc) r.u.length (uq r.u) /\
   XIs lo w r.guard (.pointer gp)/\w.ownsRow lo 334 9 (.slice ba bn bc) (kqq r.S) bcs/\BIs lo none w r.S bcs/\kvy lo w rs rest
def kvg(lo:Nat)(w:World):List PRule->List Value->Prop
 |[],cs=>cs=[]
 |r::rs,cs=>∃pa pn pc gp rest,cs=[.string r.y.x,.int .i64 r.y.v,.slice pa pn pc,.pointer gp]++rest/\w.ownsRow lo 352 4 (.slice pa pn pc) r.u.length (uq r.u) /\
   XIs lo w r.guard (.pointer gp)/\kvg lo w rs rest
theorem kvy.stay(a:∀k,lo<=k->k<w.heap.size->w'.heap[k]?=w.heap[k]?):∀{rs:List PRule}{cs:List Value},kvy lo w rs cs->kvy lo w' rs cs
 |[],_,h=>h
 |r::rs,_,⟨pa,pn,pc,gp,ba,bn,bc,bcs,rest,e,h1,h2,h3,h4,h5⟩=>⟨pa,pn,pc,gp,ba,bn,bc,bcs,rest,e,xg a h1,h2.stay a,xg a h3,h4.stay a,kvy.stay a h5⟩
theorem kvg.stay(a:∀k,lo<=k->k<w.heap.size->w'.heap[k]?=w.heap[k]?):∀{rs:List PRule}{cs:List Value},kvg lo w rs cs->kvg lo w' rs cs
 |[],_,h=>h
 |r::rs,_,⟨pa,pn,pc,gp,rest,e,h1,h2,h5⟩=>⟨pa,pn,pc,gp,rest,e,xg a h1,h2.stay a,kvg.stay a h5⟩
theorem kvy.mono(a:lo'<=lo):∀{rs:List PRule}{cs:List Value},kvy lo w rs cs->kvy lo' w rs cs
 |[],_,h=>h
 |r::rs,_,⟨pa,pn,pc,gp,ba,bn,bc,bcs,rest,e,h1,h2,h3,h4,h5⟩=>⟨pa,pn,pc,gp,ba,bn,bc,bcs,rest,e,qo a h1,h2.mono a,qo a h3,h4.mono a,kvy.mono a h5⟩
theorem kvg.mono(a:lo'<=lo):∀{rs:List PRule}{cs:List Value},kvg lo w rs cs->kvg lo' w rs cs
 |[],_,h=>h
 |r::rs,_,⟨pa,pn,pc,gp,rest,e,h1,h2,h5⟩=>⟨pa,pn,pc,gp,rest,e,qo a h1,h2.mono a,kvg.mono a h5⟩
theorem kvy.app:∀{rs ss:List PRule}{cs ds:List Value},kvy lo w rs cs->kvy lo w ss ds->kvy lo w (rs++ss) (cs++ds)
 |[],_,cs,ds,h,h'=>by
  have:cs=[]:=h;simp_all
 |r::rs,ss,cs,ds,⟨pa,pn,pc,gp,ba,bn,bc,bcs,rest,e,h1,h2,h3,h4,h5⟩,h'=>⟨pa,pn,pc,gp,ba,bn,bc,bcs,rest++ds,by simp_all,h1,h2,h3,h4,h5.app h'⟩
theorem kvg.app:∀{rs ss:List PRule}{cs ds:List Value},kvg lo w rs cs->kvg lo w ss ds->kvg lo w (rs++ss) (cs++ds)
 |[],_,cs,ds,h,h'=>by
  have:cs=[]:=h;simp_all
 |r::rs,ss,cs,ds,⟨pa,pn,pc,gp,rest,e,h1,h2,h5⟩,h'=>⟨pa,pn,pc,gp,rest++ds,by simp_all,h1,h2,h5.app h'⟩
def xvr(P:Nat)(v:Value)(L:List Tok)(w:World)(r:PRule×RS)(e:Ending)(w':World):Prop:=
 ∃c0 c1 c2 c3 c4 rr,e=.returned (.agg #[c0,c1,c2,c3,c4])/\kvy w.heap.size w' [rr] [c0,c1,c2,c3,c4]/\(∀u∈[c0,c1,c2,c3,c4],u.oneCell'=true)/\(r.2.s=false->rr=r.1)/\Pd w' P v L r.2/\Kept P w w'
def xvf(P:Nat)(v:Value)(L:List Tok)(w:World)(r:PRule×RS)(e:Ending)(w':World):Prop:=
 ∃c0 c1 c2 c3 rr,e=.returned (.agg #[c0,c1,c2,c3])/\kvg w.heap.size w' [rr] [c0,c1,c2,c3]/\(∀u∈[c0,c1,c2,c3],u.oneCell'=true)/\(r.2.s=false->rr=r.1)/\Pd w' P v L r.2/\Kept P w w'
theorem jk6(h1:qg L nX st=s1)(a:zq L mX s1=k)(b:kj0 L k.2=p)(c:qg L mY p.2=s)(d:rX (kqb L) 0 .nil L s=a9)(e:rS (qqn L) 0 L a9.2=e9):kjr L st=(⟨k.1,p.1,a9.1,e9.1⟩,e9.2):=by subst h1;subst a;subst b;subst c;subst d;subst e;rfl
theorem vvp(h1:qg L nK st=s1)(a:zq L mX s1=k)(b:kj0 L k.2=p)(c:rX (kqb L) 0 .nil L p.2=a9):kzw L st=(⟨k.1,p.1,a9.1,.nil⟩,qg L [59] a9.2):=by subst h1;subst a;subst b;subst c;rfl
theorem kjz.ky7(h:kjz lo a w)(hb:b<lo\/a.heap.size<=b)(y0 y1 y2 y3 y4:Value):kjz lo a (puts b [y0,y1,y2,y3,y4] 0 w):=h.qk9 hb _ _
theorem kjz.jx5(h:kjz lo a w)(hb:b<lo\/a.heap.size<=b)(y0 y1 y2 y3:Value):kjz lo a (puts b [y0,y1,y2,y3] 0 w):=h.qk9 hb _ _
theorem zjg(h:w.ownsRow lo e size v n xs)(a:kjz lo w w'):w'.ownsRow lo e size v n xs:=xg a.block h
theorem xzh(h:(rS f tag L s).2.s=false):s.s=false:=by grind [kkt]
theorem jkz(h:Pd w P v L st):Calls prog 150 #[.pointer (some ⟨P,0,none⟩)] w λe w'=>xvr P v L w (kjr L st) e w':=by
 have E:=h.in;have D:=oz h.kq9;go_in;go_wp21;refine(kjb nX ak rfl rfl<|h.alloc _).mono ?_;rintro e w1 ⟨rfl,Y,x⟩;have HD:=oz<|jk6 (L:=L) (st:=st) rfl rfl rfl rfl rfl rfl;generalize qg L nX st=s1 at *;have j:=oz<|x.e (b:=w.heap.size) aj (qy);have a6:=wQ j;have I:=(Kept.kqe _).trans x;go_wp21
 refine(kxs Y).mono ?_;rintro e w2 ⟨rfl,Z,y⟩;generalize zq L mX s1=k at *;have l:=oz<|y.e aj j;have a7:=wQ l;have J:=I.trans y;go_wp21
 refine(zve Z).mono ?_;rintro e w3 ⟨x3,l3,rfl,i,(a1:Hid _),H3,z,_⟩;obtain⟨pa,pn,pc,rfl⟩:=qh i;have a5:(qg L mY (kj0 L k.2).2).s=false->(kj0 L k.2).2.s=false:=λhb=>kz2 hb
 have m:=oz<|z.e aj l;have a8:=wQ m;have K:=J.trans z;generalize kj0 L k.2=p at *;unfold ptV;go_wp21
 refine(kjb mY ak rfl rfl<|H3.alloc _).mono ?_;rintro e w4 ⟨rfl,H4,d⟩;generalize qg L mY p.2=G at *;have T:=oz<|d.e aj (zy m);have s:=oz<|d.e (b:=w3.heap.size) aj (qy);have a9:=wQ s;have M:=(K.alloc _).trans d;have R:=((kjz.refl w2.heap.size w3).alloc<|.cells #[.string k.1.x,.int .i64 k.1.v,.slice pa pn pc,.pointer none,.slice none 0 0] 127).kept d aj;go_wp21
 refine(qyo H4).mono ?_;rintro e w5 ⟨g,t5,rfl,V,(a2:Hid _),H5,c⟩;have a3:(rX (kqb L) 0 .nil L G).2.s=false->G.s=false:=λhb=>zv2 hb
 have U:=oz<|c.e aj T;have t:=oz<|c.e (b:=w3.heap.size) aj s;have aA:=c.size;have N:=M.trans c;have C:=R.kept c aj;have g3:=jl t;generalize rX (kqb L) 0 .nil L G=F at *;go_wp21
 clear g3;refine(vvo<|H5.setOther D E (by grind) _).mono ?_;rintro e H ⟨ua,un,uc,b6,c6,rfl,Q,B,(a0:Hid _),H6,a,_⟩;have a4:(rS (qqn L) 0 L F.2).2.s=false->F.2.s=false:=λhb=>xzh hb
 have q:=oz (a.e (b:=w.heap.size) aj<|(hsC<|by grind).trans U);have A:=a.e (b:=w3.heap.size) aj<|jL _ 3 _ _ _ t;have X:=a.size;simp only[World.setCell,Array.size_modify]at X;have O:=(N.jm (p:=⟨w3.heap.size,3,none⟩) (by grind)<|.pointer g).trans a;have f:=(C.set (p:=⟨w3.heap.size,3,none⟩) (.inr ay)<|.pointer g).kept a aj;have S:=((kjz.refl w4.heap.size w5).set (p:=⟨w3.heap.size,3,none⟩) (.inl aj)<|.pointer g).kept a aj;have d0:=jl q;have g0:=jl A;clear A;generalize rS (qqn L) 0 L F.2=r6 at *;go_wp2
 refine kx0 results150 underlying127 (kxy (w:=H.setCell ⟨w3.heap.size,4,none⟩ _) (by rw[hsC (by grind)];exact q)) ?_;rw[ku HD];refine⟨_,_,_,_,_,⟨k.1,l3,t5,b6⟩,rfl,⟨pa,pn,pc,g,ua,un,uc,c6,[],rfl,?_,?_,?_,?_,rfl⟩,?_,?_,(H6.setOther D E (by grind) _).ky7 D E jH _ _ _ _ _,(O.jm (by grind) _).ky7 jH _ _ _ _ _⟩
 ·exact qo aj (zjg i<|(f.set (.inr ay) _).ky7 (.inl aj) _ _ _ _ _)
 ·exact(V.zqn<|(S.set (.inl aj) _).ky7 (.inl aj) _ _ _ _ _).mono aj
 ·refine qo ?_ (zjg Q<|((kjz.refl _ H).set (.inl ?_) _).ky7 (.inl ?_) _ _ _ _ _)
  ·simp[World.setCell];omega
  ·simp[World.setCell];omega
  ·simp[World.setCell];omega
 ·refine(((B.shun (no':=none)<|λk hk=>by cases hk).zqn<|((kjz.refl _ H).set (.inl ?_) _).ky7 (.inl ?_) _ _ _ _ _)).mono ?_
  ·simp[World.setCell];omega
  ·simp[World.setCell];omega
  ·simp[World.setCell];omega
 ·intro u W;simp only[tZ,Qu,or_false]at W;obtain rfl|rfl|rfl|rfl|rfl:=W<;>rfl
 grind [ku]
theorem vvd(h:Pd w P v L st):Calls prog 151 #[.pointer (some ⟨P,0,none⟩)] w λe w'=>xvf P v L w (kzw L st) e w':=by
 have S:=h.in;have R:=oz h.kq9;go_in;go_wp21;refine(kjb nK ak rfl rfl<|h.alloc _).mono ?_;rintro e w1 ⟨rfl,J,l⟩;have Q:=oz<|vvp (L:=L) (st:=st) rfl rfl rfl rfl;generalize qg L nK st=s1 at *;have F:=oz<|l.e (b:=w.heap.size) aj (qy);have y:=(Kept.kqe _).trans l;go_wp21
 refine(kxs J).mono ?_;rintro e V ⟨rfl,K,m⟩;generalize zq L mX s1=k at *;have f:=oz<|m.e aj F;have a0:=wQ f;have z:=y.trans m;go_wp21
 refine(zve K).mono ?_;rintro e w3 ⟨x3,T,rfl,d,(W:Hid _),M,q,_⟩;obtain⟨pa,pn,pc,rfl⟩:=qh d;have g:=oz<|q.e aj f;have a1:=wQ g;have A:=z.trans q;generalize kj0 L k.2=p at *;go_wp21
 refine(qyo M).mono ?_;rintro e I ⟨x,U,rfl,G,(X:Hid _),N,c⟩;have Y:(rX (kqb L) 0 .nil L p.2).2.s=false->p.2.s=false:=λhb=>zv2 hb
 have i:=oz<|c.e aj g;have Z:=wQ i;have B:=A.trans c;have D:=(kjz.refl V.heap.size w3).kept c aj;generalize rX (kqb L) 0 .nil L p.2=r5 at *;unfold ptV;go_wp21
 refine(kjb [59] ak rfl rfl<|N.alloc _).mono ?_;rintro e w6 ⟨rfl,O,a⟩;have j:=oz<|a.e (b:=w.heap.size) aj (zy i);have s:=a.e (b:=I.heap.size) aj<|qy;have C:=(B.alloc _).trans a;have t:=(D.alloc<|.cells #[.string k.1.x,.int .i64 k.1.v,.slice pa pn pc,.pointer x] 130).kept a aj;have E:=((kjz.refl w3.heap.size I).alloc<|.cells #[.string k.1.x,.int .i64 k.1.v,.slice pa pn pc,.pointer x] 130).kept a aj;have d0:=kz3 j;have g0:=kz3 s;clear s;go_wp2
 refine kx0 results151 underlying130 (zzc j) ?_;rw[ku Q];refine⟨_,_,_,_,⟨k.1,T,U,.nil⟩,rfl,⟨pa,pn,pc,x,[],rfl,?_,?_,rfl⟩,?_,?_,O.jx5 R S jH _ _ _ _,C.jx5 jH _ _ _ _⟩
 ·exact qo aj (zjg d<|t.jx5 (.inl aj) _ _ _ _)
 ·exact(G.zqn<|E.jx5 (.inl aj) _ _ _ _).mono aj
 ·intro u H;simp only[tZ,Qu,or_false]at H;obtain rfl|rfl|rfl|rfl:=H<;>rfl
 grind [kz2,ku]
def zjw(s:PSet):List Value:=[.string s.y.x,.int .i64 s.y.v,.int .i64 (mg s.size.x),.int .i64 s.size.v]
def jx2(l:List PSet):List Value:=l.flatMap zjw
def pkd(l:List VrT):List Value:=l.flatMap kjs
theorem pz6(l:List PSet)(p:PSet):jx2 (l++[p])=jx2 l++zjw p:=by simp[jx2]
theorem pjs(l:List VrT)(p:VrT):pkd (l++[p])=pkd l++kjs p:=by simp[pkd]
def kvp(lo:Nat)(w:World):List PKind->List Value->Prop
 |[],cs=>cs=[]
 |k::ks,cs=>∃ma mn mc rest,cs=[.string k.y.x,.int .i64 k.y.v,.slice ma mn mc]++rest/\w.ownsRow lo 107 2 (.slice ma mn mc) k.i.length (kjq k.i)/\kvp lo w ks rest
theorem kvp.stay(a:∀k,lo<=k->k<w.heap.size->w'.heap[k]?=w.heap[k]?):∀{ks:List PKind}{cs:List Value},kvp lo w ks cs->kvp lo w' ks cs
 |[],_,h=>h
 |k::ks,_,⟨ma,mn,mc,rest,e,h1,h2⟩=>⟨ma,mn,mc,rest,e,xg a h1,kvp.stay a h2⟩
theorem kvp.mono(a:lo'<=lo):∀{ks:List PKind}{cs:List Value},kvp lo w ks cs->kvp lo' w ks cs
 |[],_,h=>h
 |k::ks,_,⟨ma,mn,mc,rest,e,h1,h2⟩=>⟨ma,mn,mc,rest,e,qo a h1,kvp.mono a h2⟩
theorem kvp.app:∀{ks js:List PKind}{cs ds:List Value},kvp lo w ks cs->kvp lo w js ds->kvp lo w (ks++js) (cs++ds)
 |[],_,cs,ds,h,h'=>by
  have:cs=[]:=h;simp_all
 |k::ks,_,cs,ds,⟨ma,mn,mc,rest,e,h1,h2⟩,h'=>⟨ma,mn,mc,rest++ds,by simp_all,h1,h2.app h'⟩
theorem kvp.grown(hv:w.ownsRow base e size v n zs)(a:107≠e)(b:w.grownBy w' v.ownBlock):∀{ks:List PKind}{cs:List Value},kvp lo w ks cs->kvp lo w' ks cs
 |[],_,h=>h
 |k::ks,_,⟨ma,mn,mc,rest,e1,h1,h2⟩=>⟨ma,mn,mc,rest,e1,kqx h1 hv a b,kvp.grown hv a b h2⟩
theorem BIs.qzx(hv:w.ownsRow base e size v n zs)(d:334≠e)(f:358≠e)(c:w.grownBy w' v.ownBlock):∀{b:PB}{cs:List Value},BIs lo no w b cs->BIs lo no w' b cs
 |.nil,_,h=>h
 |.node _ _ a .nil n,cs,⟨p,rest,e,h1,hn⟩=>⟨p,rest,e,h1.grown hv f c,BIs.qzx hv d f c hn⟩
 |.node _ _ a (.node _ _ _ t e) n,cs,⟨p,ta,tn,tc,ea,en,ec,ct,ce,rest,e1,h1,⟨ht1,ht3,ht2⟩,⟨he1,he3,he2⟩,hn⟩=>
  ⟨p,ta,tn,tc,ea,en,ec,ct,ce,rest,e1,h1.grown hv f c,⟨kqx ht1 hv d c,ht3,BIs.qzx hv d f c ht2⟩,⟨kqx he1 hv d c,he3,BIs.qzx hv d f c he2⟩,BIs.qzx hv d f c hn⟩
theorem kvy.grown(hv:w.ownsRow base e size v n zs)(d:352≠e)(b:334≠e)(c:358≠e)(a:w.grownBy w' v.ownBlock):∀{rs:List PRule}{cs:List Value},kvy lo w rs cs->kvy lo w' rs cs
 |[],_,h=>h
 |r::rs,_,⟨pa,pn,pc,gp,ba,bn,bc,bcs,rest,e1,h1,h2,h3,h4,h5⟩=>⟨pa,pn,pc,gp,ba,bn,bc,bcs,rest,e1,kqx h1 hv d a,h2.grown hv c a,kqx h3 hv b a,h4.qzx hv b c a,kvy.grown hv d b c a h5⟩
theorem kvg.grown(hv:w.ownsRow base e size v n zs)(b:352≠e)(c:358≠e)(a:w.grownBy w' v.ownBlock):∀{rs:List PRule}{cs:List Value},kvg lo w rs cs->kvg lo w' rs cs
 |[],_,h=>h
 |r::rs,_,⟨pa,pn,pc,gp,rest,e1,h1,h2,h5⟩=>⟨pa,pn,pc,gp,rest,e1,kqx h1 hv b a,h2.grown hv c a,kvg.grown hv b c a h5⟩
structure MdL where
 j:List PSet
 p:List PKind
 z:List VrT
 l:List PRule
 q:List PRule
variable {m:MdL}
structure kwm (lo:Nat)(w:World)(x0 x1 x2 x3 x4:Value)(m:MdL):Prop where
 o0:w.ownsRow lo 111 4 x0 m.j.length (jx2 m.j)
 o1:∃cs,w.ownsRow lo 114 3 x1 m.p.length cs/\kvp lo w m.p cs
 o2:w.ownsRow lo 121 10 x2 m.z.length (pkd m.z)
 o3:∃cs,w.ownsRow lo 127 5 x3 m.l.length cs/\kvy lo w m.l cs
 o4:∃cs,w.ownsRow lo 130 4 x4 m.q.length cs/\kvg lo w m.q cs
theorem kwm.stay(a:∀k,lo<=k->k<w.heap.size->w'.heap[k]?=w.heap[k]?)(h:kwm lo w x0 x1 x2 x3 x4 m):kwm lo w' x0 x1 x2 x3 x4 m:=by obtain⟨b,⟨c1,h1,k1⟩,c,⟨c3,d,k3⟩,⟨c4,e,k4⟩⟩:=h;exact⟨xg a b,⟨c1,xg a h1,k1.stay a⟩,xg a c,⟨c3,xg a d,k3.stay a⟩,⟨c4,xg a e,k4.stay a⟩⟩
theorem kwm.mono(a:lo'<=lo)(h:kwm lo w x0 x1 x2 x3 x4 m):kwm lo' w x0 x1 x2 x3 x4 m:=by obtain⟨b,⟨c1,h1,k1⟩,c,⟨c3,d,k3⟩,⟨c4,e,k4⟩⟩:=h;exact⟨qo a b,⟨c1,qo a h1,k1.mono a⟩,qo a c,⟨c3,qo a d,k3.mono a⟩,⟨c4,qo a e,k4.mono a⟩⟩
structure kxd (w:World)(P:Nat)(v:Value)(L:List Tok)(B0 B1:Nat)(x0 x1 x2 x3 x4:Value)(m:MdL)(s:RS)(wx:World):Prop where
 b0:wx.heap[B0]?=some (.cells #[.slice none 0 0,.slice none 0 0,.slice none 0 0,.slice none 0 0,.slice none 0 0] 68 (0,0))
 b1:wx.heap[B1]?=some (.cells #[x0,x1,x2,x3,x4] 68 (0,0))
 md:kwm (B1+1) wx x0 x1 x2 x3 x4 m
 pd:Pd wx P v L s
 kept:Kept P w wx
theorem kxd.kept'(h:kxd w P v L B0 B1 x0 x1 x2 x3 x4 m s wx)(a:Kept P wx wy)(c:Pd wy P v L s')(e:P<B0)(h1:P<B1):kxd w P v L B0 B1 x0 x1 x2 x3 x4 m s' wy:=
 ⟨a.e aj h.b0,a.e aj h.b1,h.md.stay (λk d b=>a.block k b aj),c,h.kept.trans a⟩
theorem kxd.grow(i:Nat)(h:kxd w P v L B0 B1 x0 x1 x2 x3 x4 m s wx)(l:wx.ownsRow (B1+1) lo F x5 n zs)(d:(wx.alloc o).grownBy wy x5.ownBlock)(t:∀g,v.ownBlock=some g->g<w.heap.size)(u:P<w.heap.size)(p:w.heap.size=B0)(C:B0<B1):∃w',w'=wy.setCell ⟨B1,i,none⟩ y/\w'.heap[B0]?=some (.cells #[.slice none 0 0,.slice none 0 0,.slice none 0 0,.slice none 0 0,.slice none 0 0] 68 (0,0))/\w'.heap[B1]?=some (.cells (#[x0,x1,x2,x3,x4].setIfInBounds i y) 68 (0,0))/\Pd w' P v L s/\Kept P w w' /\
  (∀{t' z' x' n' zs'},wy.ownsRow (B1+1) t' z' x' n' zs'->w'.ownsRow (B1+1) t' z' x' n' zs')/\(∀{t' z' x' n' zs'},wx.ownsRow (B1+1) t' z' x' n' zs'->(_:t'≠lo:=by decide)->w'.ownsRow (B1+1) t' z' x' n' zs') /\
  (∀{ks cs},kvp (B1+1) wx ks cs->(_:107≠lo:=by decide)->kvp (B1+1) w' ks cs)/\(∀{ks cs},kvy (B1+1) wx ks cs->(_:352≠lo:=by decide)->(_:334≠lo:=by decide)->(_:358≠lo:=by decide)->kvy (B1+1) w' ks cs) /\
  ∀{ks cs},kvg (B1+1) wx ks cs->(_:352≠lo:=by decide)->(_:358≠lo:=by decide)->kvg (B1+1) w' ks cs:=by
 subst p;have z:=wQ h.b0;have A:=wQ h.b1;have hv:=l.alloc o;have q:=jo l;have e:∀b,b<=B1->b<wx.heap.size->wy.heap[b]?=wx.heap[b]?:=λb hb x=>(d.block _ ah<|λe=>by grind).trans<|jj x
 have st:∀k,B1+1<=k->k<wy.heap.size->(wy.setCell ⟨B1,i,none⟩ y).heap[k]?=wy.heap[k]?:=λk j _=>hsC (by grind)
 have f:∀k,B1+1<=k->k<wx.heap.size->(wx.alloc o).heap[k]?=wx.heap[k]?:=λk _ j=>jj j
 exact⟨_,rfl,by rw[hsC (by grind),e _ aj z];exact h.b0,jL _ i _ _ _<|(e _ aj A).trans h.b1,((h.pd.alloc o).grown d q (λg d=>by grind) aj).setOther (B:=w.heap.size) t u (by grind) _,((h.kept.alloc o).grown d<|λk j=>by grind).jm (by grind) _,
  xg st,λh1 n=>xg st<|kqx (h1.alloc o) hv n d,λk n=>(kvp.grown hv n d<|k.stay f).stay st,λk a b c=>(kvy.grown hv a b c d<|k.stay f).stay st,λk a b=>(kvg.grown hv a b d<|k.stay f).stay st⟩
theorem kxd.more0{e:PSet}(h:kxd w P v L B0 B1 x0 x1 x2 x3 x4 m s wx)(x:(wx.alloc o).grownBy wy x0.ownBlock)(a:wy.ownsRow (B1+1) 111 4 y (m.j.length+1) (jx2 m.j++zjw e))(t:∀g,v.ownBlock=some g->g<w.heap.size)(u:P<w.heap.size)(b:w.heap.size=B0)(c:B0<B1):kxd w P v L B0 B1 y x1 x2 x3 x4 {m with j:=m.j++[e]} s (wy.setCell ⟨B1,0,none⟩ y):=by have ⟨k,⟨c1,h1,k1⟩,l,⟨c3,p,k3⟩,⟨c4,q,k4⟩⟩:=h.md;obtain⟨_,rfl,d,f,i,j,S,O,K,R,N⟩:=h.grow (y:=y) 0 k x t u b c;exact⟨d,f,⟨by rw[pz6,rD];exact S a,⟨c1,O h1,K k1⟩,O l,⟨c3,O p,R k3⟩,⟨c4,O q,N k4⟩⟩,i,j⟩
theorem kxd.more1{g7:PKind}(h : kxd w P v L B0 B1 x0 x1 x2 x3 x4 m s wx)(z : (wx.alloc o).grownBy wy x1.ownBlock)(b : wy.ownsRow (B1 + 1) 114 3 y (m.p.length + 1) (cs ++ ds))(e : kvp (B1 + 1) wx m.p cs)(a : kvp (B1 + 1) wx [g7] ds)(u : ∀g,v.ownBlock = some g->g < w.heap.size)(x : P < w.heap.size)(c : w.heap.size = B0)(d : B0 < B1):kxd w P v L B0 B1 x0 y x2 x3 x4 {m with p:=m.p ++ [g7]} s (wy.setCell ⟨B1,1,none⟩ y):=by
 have ⟨l,⟨c1,h1,k1⟩,p,⟨c3,q,k3⟩,⟨c4,t,k4⟩⟩:=h.md
 obtain⟨_,rfl,f,i,j,k,S,O,K,R,N⟩:=h.grow (y:=y) 1 h1 z u x c d
 exact⟨f,i,⟨O l,⟨cs ++ ds,lY,K<|e.app a⟩,O p,⟨c3,O q,R k3⟩,⟨c4,O t,N k4⟩⟩,j,k⟩
theorem kxd.more2{e:VrT}(h:kxd w P v L B0 B1 x0 x1 x2 x3 x4 m s wx)(x:(wx.alloc o).grownBy wy x2.ownBlock)(a:wy.ownsRow (B1+1) 121 10 y (m.z.length+1) (pkd m.z++kjs e))(t:∀g,v.ownBlock=some g->g<w.heap.size)(u:P<w.heap.size)(b:w.heap.size=B0)(c:B0<B1):kxd w P v L B0 B1 x0 x1 y x3 x4 {m with z:=m.z++[e]} s (wy.setCell ⟨B1,2,none⟩ y):=by have ⟨k,⟨c1,h1,k1⟩,l,⟨c3,p,k3⟩,⟨c4,q,k4⟩⟩:=h.md;obtain⟨_,rfl,d,f,i,j,S,O,K,R,N⟩:=h.grow (y:=y) 2 l x t u b c;exact⟨d,f,⟨O k,⟨c1,O h1,K k1⟩,by rw[pjs,rD];exact S a,⟨c3,O p,R k3⟩,⟨c4,O q,N k4⟩⟩,i,j⟩
theorem kxd.more3(h : kxd w P v L B0 B1 x0 x1 x2 x3 x4 m s wx)(z : (wx.alloc o).grownBy wy x3.ownBlock)(b : wy.ownsRow (B1 + 1) 127 5 y (m.l.length + 1) (cs ++ ds))(e : kvy (B1 + 1) wx m.l cs)(a : kvy (B1 + 1) wx [g8] ds)(u : ∀g,v.ownBlock = some g->g < w.heap.size)(x : P < w.heap.size)(c : w.heap.size = B0)(d : B0 < B1):kxd w P v L B0 B1 x0 x1 x2 y x4 {m with l:=m.l ++ [g8]} s (wy.setCell ⟨B1,3,none⟩ y):=by
 have ⟨l,⟨c1,h1,k1⟩,p,⟨c3,q,k3⟩,⟨c4,t,k4⟩⟩:=h.md
 obtain⟨_,rfl,f,i,j,k,S,O,K,R,N⟩:=h.grow (y:=y) 3 q z u x c d
 exact⟨f,i,⟨O l,⟨c1,O h1,K k1⟩,O p,⟨cs ++ ds,lY,R<|e.app a⟩,⟨c4,O t,N k4⟩⟩,j,k⟩
theorem kxd.more4(h : kxd w P v L B0 B1 x0 x1 x2 x3 x4 m s wx)(z : (wx.alloc o).grownBy wy x4.ownBlock)(b : wy.ownsRow (B1 + 1) 130 4 y (m.q.length + 1) (cs ++ ds))(e : kvg (B1 + 1) wx m.q cs)(a : kvg (B1 + 1) wx [g8] ds)(u : ∀g,v.ownBlock = some g->g < w.heap.size)(x : P < w.heap.size)(c : w.heap.size = B0)(d : B0 < B1):kxd w P v L B0 B1 x0 x1 x2 x3 y {m with q:=m.q ++ [g8]} s (wy.setCell ⟨B1,4,none⟩ y):=by
 have ⟨l,⟨c1,h1,k1⟩,p,⟨c3,q,k3⟩,⟨c4,t,k4⟩⟩:=h.md
 obtain⟨_,rfl,f,i,j,k,S,O,K,R,N⟩:=h.grow (y:=y) 4 t z u x c d
 exact⟨f,i,⟨O l,⟨c1,O h1,K k1⟩,O p,⟨c3,O q,R k3⟩,⟨cs ++ ds,lY,N<|e.app a⟩⟩,j,k⟩
def qqg:ByteArray:=⟨#[115,101,116,32]⟩
def qje:ByteArray:=⟨#[107,105,110,100,32]⟩
def kvj:ByteArray:=⟨#[116,114,117,116,104]⟩
def kwn:ByteArray:=⟨#[110,117,109,98,101,114]⟩
def vjy:ByteArray:=⟨#[110,111,110,101]⟩
def kjx:ByteArray:=⟨#[]⟩
theorem kzj(h:a5=g9):Ending.returned (.string a5)=.returned (.string g9):=by rw[h]
def kx3(s:ByteArray):Bool:=decide (4<s.size)&&((s.extract 0 4).toList==[115,101,116,32])
theorem qjg(s:ByteArray)(a:s.size<=2000):Calls prog 121 #[.string s] w λe w'=>e=.returned (.bool (kx3 s))/\w'=w:=by
 by_cases h:4<s.size
 ·go_wp2;go_ret;simp_all [kx3]
 ·go_wp2;go_ret;exact⟨um (by simp[kx3,h]),rfl⟩
theorem kqc.stay(h:kqc w lo t)(j:∀k,lo<=k->k<w.heap.size->w'.heap[k]?=w.heap[k]?):kqc w' lo t:=by
 obtain⟨x0,x1,x2,x3,x4,y1,y3,y4,l,f,⟨h1,c⟩,b,⟨g,d⟩,⟨i,e⟩⟩:=h;have a:∀k,lo+1<=k->k<w.heap.size->w'.heap[k]?=w.heap[k]?:=λk h1 b=>j k aj b
 exact⟨x0,x1,x2,x3,x4,y1,y3,y4,by grind,xg a f,⟨xg a h1,c.stay a⟩,xg a b,⟨xg a g,d.stay a⟩,⟨xg a i,e.stay a⟩⟩
theorem kqc.below(h:kqc w lo t)(hb:oq w w'):kqc w' lo t:=h.stay λk _ a=>hb.block k a
def kj2(t:PTree)(v:PVar):ByteArray:=
 if v.k.t.toList==nV then (if v.k.x.toList==nP then kvj else kwn)
 else if 0<=zx (uy t) v.k.x.toList then qje++v.k.x else qqg++v.k.x
theorem qv8(v:PVar)(h:kqc w lo t)(d:t.p.length<=801)(hv:v.k.x.size<=800):Calls prog 120 #[.pointer (some ⟨lo,0,none⟩),pjf v] w λe w'=>e=.returned (.string<|kj2 t v)/\oq w w':=by
 have c:=oz h;unfold pjf kj7 ji;simp only[QU,Qd];go_in;go_wp21;refine(zkl v.k.x (c.below<|jZ _) d).mono ?_;rintro e f ⟨rfl,rfl⟩;cases h1:(v.k.t.toList==nV)
 ·by_cases b:0<=zx (uy t) v.k.x.toList
  ·have a:=oz (by simp[kj2,h1,b]:kj2 t v=qje++v.k.x);generalize zx (uy t) v.k.x.toList=n at b |-;go_wp2
   go_ret;exact⟨kzj (by rw[ku a];rfl),jZ _⟩
  ·have a:=oz (by simp[kj2,h1,b]:kj2 t v=qqg++v.k.x);generalize zx (uy t) v.k.x.toList=n at b |-;go_wp2
   go_ret;exact⟨kzj (by rw[ku a];rfl),jZ _⟩
 ·generalize zx (uy t) v.k.x.toList=n;cases b:(v.k.x.toList==nP)
  ·have a:=oz (by simp[kj2,h1,b]:kj2 t v=kwn);go_wp2;go_ret;exact⟨kzj (by rw[ku a];rfl),jZ _⟩
  ·have a:=oz (by simp[kj2,h1,b]:kj2 t v=kvj);go_wp2;go_ret;exact⟨kzj (by rw[ku a];rfl),jZ _⟩
def qxc(t:PTree)(l:List PP)(s:List UInt8):Bool:=decide (0<=(kjj t.p s).1)||decide (0<=zx (zf t) s)||decide (0<=zx (pq l) s)
structure TreeOk (t:PTree):Prop where
 j:t.j.length<=801
 p:t.p.length<=801
 z:t.z.length<=801
 i:∀k∈t.p,k.i.length<=801
theorem px9(n:Tok)(vg:Option Addr)(ba:Option Addr)(bn bc:Nat)(s:ByteArray)(h:kqc w P t)(g:TreeOk t)(q:w.ownsRow lo 236 6 (.slice e5 vn vc) h8.length (kjm h8))(p:h8.length<=801):Calls prog 117 #[.pointer (some ⟨P,0,none⟩),qk4 n (.slice e5 vn vc) (.pointer vg)<|.slice ba bn bc,.string s] w λe w'=>e=.returned (.bool<|qxc t h8 s.toList)/\oq w w':=by
 obtain⟨i,l⟩:=ju h q;unfold qk4;go_in;go_wp21;refine(zjh s (i.below<|jZ _) g.p g.i).mono ?_;rintro e k ⟨rfl,rfl⟩;go_wp21;refine(qjt s (i.below<|jZ _) g.z).mono ?_;rintro e k ⟨rfl,rfl⟩;go_wp21;refine(qkx n vg ba bn bc s (qj l<|jZ _) p).mono ?_;rintro e k ⟨rfl,j⟩;have f:=(jZ w).trans<|j.mono ay;have d:=oz (show qxc t h8 s.toList=(decide (0<=(kjj t.p s.toList).1)||decide (0<=zx (zf t) s.toList)||decide (0<=zx (pq h8) s.toList)) from rfl);generalize (kjj t.p s.toList).1=a at d |-;generalize (kjj t.p s.toList).2=a2;generalize zx (zf t) s.toList=b at d |-;generalize zx (pq h8) s.toList=c at d |-;by_cases h1:0<=a
 ·go_wp2;go_ret;exact⟨um (by rw[ku d];simp[h1]),f⟩
 ·by_cases m:0<=b
  ·go_wp2;go_ret;exact⟨um (by rw[ku d];simp_all),f⟩
  ·go_wp2;go_ret;exact⟨um (by rw[ku d];try simp[h1,m]),f⟩
theorem pqh:∀(l:List PKind)(s:List UInt8),-1<=(kjj l s).1/\(kjj l s).1<l.length
 |[],_=>by simp[kjj]
 |t::l,s=>by have a:=pqh l s;grind [kjj]
def kxb(t:PTree)(l:List PP)(s:List UInt8):ByteArray:=
 if 0<=zx (pq l) s then qqg++(l.getD (zx (pq l) s).toNat ⟨zh,zh⟩).Q.x
 else if 0<=(kjj t.p s).1 then qje++(t.p.getD (kjj t.p s).1.toNat ⟨zh,[]⟩).y.x
 else if 0<=zx (zf t) s then
  (if (t.z.getD (zx (zf t) s).toNat ⟨zh,zh,zh,zh⟩).g.t.toList==mX then kjx else kj2 t (t.z.getD (zx (zf t) s).toNat ⟨zh,zh,zh,zh⟩))
 else kjx
structure TreeFit (t:PTree):Prop where
 p:∀k∈t.p,k.y.x.size<=800
 z:∀v∈t.z,v.k.x.size<=800/\v.g.x.size<=800
theorem zvz(n:Tok)(vg:Option Addr)(ba:Option Addr)(bn bc:Nat)(s:ByteArray)(h:kqc w F t)(D:TreeOk t)(W:TreeFit t)(X:∀p∈h8,p.Q.x.size<=800)(hp:w.ownsRow lo 236 6 (.slice e5 vn vc) h8.length (kjm h8))(hl:h8.length<=801):Calls prog 118 #[.pointer (some ⟨F,0,none⟩),qk4 n (.slice e5 vn vc) (.pointer vg)<|.slice ba bn bc,.string s] w λe w'=>e=.returned (.string<|kxb t h8 s.toList)/\oq w w':=by
 obtain⟨Z,R⟩:=ju h hp;unfold qk4;go_in;go_wp21;refine(qkx n vg ba bn bc s (qj R<|jZ _) hl).mono ?_;rintro e w1 ⟨rfl,H⟩;have q:=(jZ w).trans<|H.mono ay;have G:=(H.block w.heap.size ay).trans<|Xk w _;have T:=oz G;have y:=Z.below q;have S:=qj R q;clear G;go_wp21
 refine(qjt s y D.z).mono ?_;rintro e E ⟨rfl,rfl⟩;go_wp21;refine(zjh s y D.p D.i).mono ?_;rintro e E ⟨rfl,rfl⟩;have d0:=kzh T;have ⟨x0,x1,x2,x3,x4,y1,y3,y4,A,h0,⟨h1,a0⟩,h2,_⟩:=ku y;have q0:=kzk A;have z:=zx9 (pq h8) s.toList;have C:=pqh t.p s.toList;have bv:=zx9 (zf t) s.toList;rw[show(pq h8).length=h8.length by simp[pq]]at z;rw[show(zf t).length=t.z.length by simp[zf]]at bv;by_cases c1:0<=zx (pq h8) s.toList
 ·have ⟨m,J⟩:=sG c1;have i:m<h8.length:=aj;have u:h8.getD m ⟨zh,zh⟩=h8[m]:=getD_at i;have k:=oz (by grind [kxb]:kxb t h8 s.toList=qqg++(h8[m]).Q.x);have l:=X _<|wZ i;have ⟨a,cap,hv,d⟩:=kq8 S;cases hv;obtain⟨g,rfl,x⟩:=d m i;have B:E.cell? ⟨g,m*6+4,none⟩=some (.string (h8[m]).Q.x):=by rw[x _ aj];exact kqo kwf 6 (λ_=>rfl) h8 m 4 i aj
  rw[J];generalize h8[m]=P at B k l;generalize zx (zf t) s.toList=b;generalize (kjj t.p s.toList).1=c;generalize (kjj t.p s.toList).2=O;clear d x u J c1 z C bv A;go_wp2;go_ret;exact⟨kzj (by rw[ku k];rfl),q⟩
 ·by_cases c2:0<=(kjj t.p s.toList).1
  ·have ⟨nk,I⟩:=sG c2;have i:nk<t.p.length:=aj;have u:t.p.getD nk ⟨zh,[]⟩=t.p[nk]:=getD_at i;have k:=oz (by grind [kxb]:kxb t h8 s.toList=qje++(t.p[nk]).y.x);have l:=W.p _<|wZ i;obtain⟨a,cap,rfl,d⟩:=kq8 h1;obtain⟨g,rfl,x⟩:=d nk i;have B:E.cell? ⟨g,nk*4+1,none⟩=some (.string (t.p[nk]).y.x):=by grind [qz8]
   rw[I];generalize t.p[nk]=K at B k l;generalize zx (pq h8) s.toList=a' at c1 |-;generalize zx (zf t) s.toList=b;generalize (kjj t.p s.toList).2=O;clear d x u I c2 z C bv A;go_wp2
   go_ret;exact⟨kzj (by rw[ku k];rfl),q⟩
  ·by_cases c3:0<=zx (zf t) s.toList
   ·have ⟨nv,L⟩:=sG c3;have i:nv<t.z.length:=aj;have u:t.z.getD nv ⟨zh,zh,zh,zh⟩=t.z[nv]:=getD_at i;have v:kxb t h8 s.toList=if (t.z[nv]).g.t.toList==mX then kjx else kj2 t (t.z[nv]):=by grind [kxb]
    have l:=(W.z _<|wZ i).1;obtain⟨a,cap,rfl,d⟩:=kq8 h2;obtain⟨g,rfl,x⟩:=d nv i;have f:∀j,j<12->E.cell? ⟨g,nv*12+j,none⟩=(kj7<|t.z[nv])[j]?:=λj hj=>by rw[x _ aj];exact kqo kj7 12 (λ_=>rfl) t.z nv j i hj
    have k0:=f 0 aj;have k1:=f 1 aj;have k2:=f 2 aj;have k3:=f 3 aj;have k4:=f 4 aj;have k5:=f 5 aj;have k6:=f 6 aj;have k7:=f 7 aj;have k8:=f 8 aj;have k9:=f 9 aj;have M:=f 10 aj;have N:=f 11 aj;simp only[kj7,ji,QU,Qd,sW,sU,Qk]at k0 k1 k2 k3 k4 k5 k6 k7 k8 k9 M N;rw[L];generalize t.z[nv]=V at k0 k1 k2 k3 k4 k5 k6 k7 k8 k9 M N v l;generalize zx (pq h8) s.toList=a' at c1 |-;generalize (kjj t.p s.toList).1=c at c2 |-;generalize (kjj t.p s.toList).2=O;clear d x f u L c3 z C bv A;cases Y:(V.g.t.toList==mX)
    ·rw[Y]at v;have k:=oz (show kxb t h8 s.toList=kj2 t V from v);clear v;go_wp21;refine(qv8 V y D.p l).mono ?_;rintro e w3 ⟨rfl,U⟩;have Q:=q.trans<|U.mono q.size;go_wp2
     go_ret;exact⟨kzj (by rw[ku k]),Q⟩
    ·rw[Y]at v;have k:=oz (v:kxb t h8 s.toList=kjx);clear v;go_wp2;go_ret;exact⟨kzj (by rw[ku k];rfl),q⟩
   ·have k:=oz (by rw[kxb,Xy c1,Xy c2,Xy c3]:kxb t h8 s.toList=kjx);generalize zx (pq h8) s.toList=a' at c1 |-;generalize (kjj t.p s.toList).1=c at c2 |-;generalize (kjj t.p s.toList).2=O;generalize zx (zf t) s.toList=b at c3 |-;clear z C bv A;go_wp2
    go_ret;exact⟨kzj (by rw[ku k];rfl),q⟩
def kw2(t:PTree)(l:List PP)(x:ELab):ByteArray:=
 if x.c.t.toList==mX then
  (if zx (zf t) x.y.x.toList<0 then kjx
   else if !((t.z.getD (zx (zf t) x.y.x.toList).toNat ⟨zh,zh,zh,zh⟩).g.t.toList==mX) then kjx
   else if !((kxb t l x.c.x.toList).toList==(qqg++(t.z.getD (zx (zf t) x.y.x.toList).toNat ⟨zh,zh,zh,zh⟩).g.x).toList) then kjx
   else kj2 t (t.z.getD (zx (zf t) x.y.x.toList).toNat ⟨zh,zh,zh,zh⟩))
 else kxb t l x.y.x.toList
def zj3(a b:ByteArray):Bool:=(a.toList==b.toList)&&!a.toList.isEmpty&&!(a.toList==mG)
def opT(op a b:ByteArray):ByteArray:=
 if (op.toList==[33])||(op.toList==[38])||(op.toList==[124]) then (if zj3 a b&&(a.toList==nY) then kvj else kjx)
 else if (op.toList==[43])||(op.toList==[45]) then (if zj3 a b&&(a.toList==nC) then kwn else kjx)
 else if op.toList==[60] then (if zj3 a b&&(a.toList==nC) then kvj else kjx)
 else (if zj3 a b||((a.toList==mG)&&kx3 b)||((b.toList==mG)&&kx3 a) then kvj else kjx)
def kq5(t:PTree)(l:List PP):PX->ByteArray
 |.nil=>kjx
 |.node _ _ x a b=>
  if (x.op.toList==nJ)||(x.op.toList==nZ) then kvj
  else if x.op.toList==mG then vjy
  else if x.op.toList==mW then kwn
  else if x.op.toList==ng then kw2 t l x
  else opT x.op (kq5 t l a) (match b with|.nil=>kq5 t l a|.node i j y c d=>kq5 t l<|.node i j y c d)
def qwe(op:ByteArray):Bool:=(op.toList==nJ)||(op.toList==nZ)||(op.toList==mG)||(op.toList==mW)||(op.toList==ng)
def isNil:PX->Bool
 |.nil=>true
 |_=>false
def XOk:PX->Prop
 |.nil=>True
 |.node _ _ x a b=>(qwe x.op=true\/isNil a=false)/\XOk a/\XOk b
theorem kyc(t:PTree)(l:List PP)(i j:Nat)(x:ELab)(a b:PX):kq5 t l (.node i j x a b) =
  if (x.op.toList==nJ)||(x.op.toList==nZ) then kvj
  else if x.op.toList==mG then vjy
  else if x.op.toList==mW then kwn
  else if x.op.toList==ng then kw2 t l x
  else opT x.op (kq5 t l a) (if isNil b then kq5 t l a else kq5 t l b):=by
 cases b with
 |nil=>rw[kq5];rfl
 |node _ _ _ _ _=>rw[kq5];rfl
def qjm(x:PX):Prop:=∀(w:World)(T lo lo':Nat)(t:PTree)(n:Tok)(l:List PP)(va:Option Addr)(vn vc:Nat)(vg:Option Addr)(ba:Option Addr)(bn bc:Nat)(p:Value),isNil x=false->XOk x->kqc w T t->TreeOk t->TreeFit t->(∀p∈l,p.Q.x.size<=800) ->
 w.ownsRow lo 236 6 (.slice va vn vc) l.length (kjm l)->l.length<=801->yw lo' w x p ->
 Calls prog 67 #[.pointer (some ⟨T,0,none⟩),qk4 n (.slice va vn vc) (.pointer vg)<|.slice ba bn bc,p] w λe w'=>e=.returned (.string<|kq5 t l x)/\oq w w'
theorem vqg(i j:Nat)(a b:PX)(H:(i0.op.toList==ng)=true):qjm (.node i j i0 a b):=by
 intro w T lo lo' t n l va vn vc vg ba bn bc p _ hx u v D C L O hN;obtain⟨k,pa,pb,rfl,_,N,a2,a3⟩:=hN;have m:i0.op.toList=ng:=su.1 H;have o1:(i0.op.toList==nJ)=false:=by rw[m];rfl
 have o2:(i0.op.toList==nZ)=false:=by rw[m];rfl
 have o3:(i0.op.toList==mG)=false:=by rw[m];rfl
 have o4:(i0.op.toList==mW)=false:=by rw[m];rfl
 have y:=oz (by rw[kyc];simp[o1,o2,o3,o4,H]:kq5 t l (.node i j i0 a b)=kw2 t l i0);have d0:=zzh (N:w.heap[k]?=some (.cells #[.string i0.op,pa,pb,.string i0.y.t,.string i0.y.x,.int .i64 i0.y.v,.string i0.c.t,.string i0.c.x,.int .i64 i0.c.v,.int .i64 i0.n] _ (0,0)));have a1:=wQ N;clear N m;unfold qk4;cases B:(i0.c.t.toList==mX)
 ·go_in;go_wp2;go_region_with ((go_at_call 118;refine(zvz n vg ba bn bc i0.y.x (u.below<|jy _) v D C (qj L<|jy _) O).mono ?_;rintro e Z ⟨rfl,U⟩))
  all_goals
   have x:=(jy w).trans<|U.mono ay;have d:=oz (by simp[kw2,B]:kw2 t l i0=kxb t l i0.y.x.toList);go_wp2
   go_ret;exact⟨kzj (by rw[ku y,ku d]),x⟩
 ·have bv:=zx9 (zf t) i0.y.x.toList;rw[show(zf t).length=t.z.length by simp[zf]]at bv;by_cases c3:0<=zx (zf t) i0.y.x.toList
  ·have ⟨nv,G⟩:=sG c3;have q:nv<t.z.length:=aj;have F:t.z.getD nv ⟨zh,zh,zh,zh⟩=t.z[nv]:=getD_at q;have f:kw2 t l i0=if !((t.z[nv]).g.t.toList==mX) then kjx else if !((kxb t l i0.c.x.toList).toList==(qqg++(t.z[nv]).g.x).toList) then kjx else kj2 t (t.z[nv]):=by rw[kw2,lJ B,Xy aj,G,tX,F]
   have I:=D.z _<|wZ q;go_in
   go_wp21;refine(qjt i0.y.x (u.below<|jZ _) v.z).mono ?_;rintro e Z ⟨rfl,rfl⟩;go_wp2;clear G c3 bv F;go_region_with ((go_at_call 118;refine(zvz n vg ba bn bc i0.c.x (u.below<|jy _) v D C (qj L<|jy _) O).mono ?_;rintro e w2 ⟨rfl,A⟩))
   all_goals
    have h:=(jy w).trans<|A.mono ay;have E:=u.below h;have ⟨x0,x1,x2,x3,x4,y1,y3,y4,S,_,_,h2,_⟩:=ku E;have q0:=kzk S;obtain⟨av,cap,rfl,s⟩:=kq8 h2;obtain⟨g,rfl,X⟩:=s nv q;have c:∀j,j<12->w2.cell? ⟨g,nv*12+j,none⟩=(kj7<|t.z[nv])[j]?:=λj hj=>by rw[X _ aj];exact kqo kj7 12 (λ_=>rfl) t.z nv j q hj
    have k0:=c 0 aj;have k1:=c 1 aj;have k2:=c 2 aj;have k3:=c 3 aj;have k4:=c 4 aj;have k5:=c 5 aj;have k6:=c 6 aj;have k7:=c 7 aj;have k8:=c 8 aj;have k9:=c 9 aj;have J:=c 10 aj;have K:=c 11 aj;simp only[kj7,ji,QU,Qd,sW,sU,Qk]at k0 k1 k2 k3 k4 k5 k6 k7 k8 k9 J K;generalize t.z[nv]=V at k0 k1 k2 k3 k4 k5 k6 k7 k8 k9 J K f I;obtain⟨Q,a0⟩:=I;generalize kxb t l i0.c.x.toList=M at f |-;clear s X c S;cases P:(V.g.t.toList==mX)
    ·have d:=oz (by rw[f,P];rfl:kw2 t l i0=kjx);clear f;go_wp2;go_ret;exact⟨kzj (by rw[ku y,ku d];rfl),h⟩
    ·cases Y:(M.toList==((⟨#[115,101,116,32]⟩:ByteArray)++V.g.x).toList)
     ·have d:=oz (by rw[f,P];simp only[JV,ru,Xv];rw[show(M.toList==(qqg++V.g.x).toList)=false from Y];rfl:kw2 t l i0=kjx);clear f;go_wp2;go_ret;exact⟨kzj (by rw[ku y,ku d];rfl),h⟩
     ·have d:=oz (by rw[f,P];simp only[JV,ru,Xv];rw[show(M.toList==(qqg++V.g.x).toList)=true from Y];rfl:kw2 t l i0=kj2 t V);clear f;go_wp21;refine(qv8 V E v.p Q).mono ?_;rintro e w3 ⟨rfl,W⟩;have R:=h.trans<|W.mono h.size;go_wp2
      go_ret;exact⟨kzj (by rw[ku y,ku d]),R⟩
  ·have d:=oz (by rw[kw2,lJ B,lJ aj]:kw2 t l i0=kjx);go_in;go_wp21;refine(qjt i0.y.x (u.below<|jZ _) v.z).mono ?_;rintro e Z ⟨rfl,rfl⟩;generalize zx (zf t) i0.y.x.toList=z at c3 bv |-;go_wp2
   go_region_with ((go_at_call 118;refine(zvz n vg ba bn bc i0.c.x (u.below<|jy _) v D C (qj L<|jy _) O).mono ?_;rintro e w2 ⟨rfl,A⟩))
   all_goals
    have x:=(jy w).trans<|A.mono ay;go_wp2
    go_ret;exact⟨kzj (by rw[ku y,ku d];rfl),x⟩
theorem qv4(i j:Nat)(x:ELab)(a b:PX)(m:(x.op.toList==nJ)=true\/(x.op.toList==nZ)=true\/(x.op.toList==mG)=true\/(x.op.toList==mW)=true):qjm (.node i j x a b):=by
 intro w T lo lo' t n l va vn vc vg ba bn bc p _ C h B y g A z hN;obtain⟨k,pa,q,rfl,_,f,u,v⟩:=hN;have d0:=zzh (f:w.heap[k]?=some (.cells #[.string x.op,pa,q,.string x.y.t,.string x.y.x,.int .i64 x.y.v,.string x.c.t,.string x.c.x,.int .i64 x.c.v,.int .i64 x.n] _ (0,0)));have s:=wQ f;clear f g;unfold qk4;obtain h1|h1|h1|h1:=m;all_goals
  have e:=su.1 h1;have d:=oz (kyc t l i j x a b:kq5 t l (.node i j x a b)=_);rw[e]at d;have c:=oz e;clear e
 ·go_wp2;go_ret;exact⟨kzj lD,jZ _⟩
 ·have o1:(x.op.toList==nJ)=false:=by rw[ku c];rfl
  go_wp2;go_ret;exact⟨kzj lD,jZ _⟩
 ·have o1:(x.op.toList==nJ)=false:=by rw[ku c];rfl
  have o2:(x.op.toList==nZ)=false:=by rw[ku c];rfl
  go_wp2;go_ret;exact⟨kzj lD,jZ _⟩
 ·have o1:(x.op.toList==nJ)=false:=by rw[ku c];rfl
  have o2:(x.op.toList==nZ)=false:=by rw[ku c];rfl
  have o3:(x.op.toList==mG)=false:=by rw[ku c];rfl
  go_wp2;go_ret;exact⟨kzj lD,jZ _⟩
theorem ky2(a b:ByteArray):(a++b).size=a.size+b.size:=ZM
theorem kkg{i1:Prop}[Decidable i1](ha:a5.size<=n)(hb:g9.size<=n):(if i1 then a5 else g9).size<=n:=by split<;>assumption
theorem sizes:kvj.size<=900/\kwn.size<=900/\kjx.size<=900/\vjy.size<=900:=⟨ak,ak,ak,ak⟩
theorem qj5(t:PTree)(v:PVar)(hv:v.k.x.size<=800):(kj2 t v).size<=900:=by
 unfold kj2;refine kkg (kkg sizes.1 sizes.2.1)<|kkg ?_ ?_
 ·rw[ky2];have:qje.size=5:=rfl;omega
 ·rw[ky2];have:qqg.size=4:=rfl;omega
theorem getD_mem{i2:Type}{l:List i2}(k:Nat)(d:i2){p:i2->Prop}(a:p d)(b:∀x∈l,p x):p (l.getD k d):=by
 by_cases h:k<l.length
 ·rw[getD_at h];exact b _<|wZ h
 ·rw[show l.getD k d=d by simp[List.getD,h]];exact a
theorem vkz{l:List PP}(a:TreeFit t)(b:∀p∈l,p.Q.x.size<=800){i3:List UInt8}:(kxb t l i3).size<=900:=by
 unfold kxb;split
 ·rw[ky2];have h1:qqg.size=4:=rfl;have:=getD_mem (zx (pq l) i3).toNat ⟨zh,zh⟩ ak b;omega
 ·split
  ·rw[ky2];have h1:qje.size=5:=rfl;have:=getD_mem (kjj t.p i3).1.toNat ⟨zh,[]⟩ ak a.p;omega
  ·split
   ·split
    ·exact sizes.2.2.1
    ·exact qj5 t _ (getD_mem (l:=t.z) (zx (zf t) i3).toNat ⟨zh,zh,zh,zh⟩ (p:=λp=>p.k.x.size<=800) ak<|λv hv=>(a.z v hv).1)
   ·exact sizes.2.2.1
theorem pwn:(opT op a5 g9).size<=900:=by unfold opT;exact kkg (kkg sizes.1 sizes.2.2.1)<|kkg (kkg sizes.2.1 sizes.2.2.1) (kkg (kkg sizes.1 sizes.2.2.1)<|kkg sizes.1 sizes.2.2.1)
theorem qzr{l:List PP}(c:TreeFit t)(d:∀p∈l,p.Q.x.size<=800)(x:PX):(kq5 t l x).size<=900:=by
 cases x with
 |nil=>exact sizes.2.2.1
 |node i j x a b=>
  rw[kyc];refine kkg sizes.1<|kkg sizes.2.2.2 (kkg sizes.2.1<|kkg ?_ (pwn));unfold kw2;exact kkg (kkg sizes.2.2.1<|kkg sizes.2.2.1 (kkg sizes.2.2.1<|qj5 t _ (getD_mem (l:=t.z) _ ⟨zh,zh,zh,zh⟩ (p:=λp=>p.k.x.size<=800) ak<|λv hv=>(c.z v hv).1)))<|vkz c d
theorem pqy(l:List UInt8):((l==[33])=true/\(l==[38])=false/\(l==[124])=false/\(l==[43])=false/\(l==[45])=false/\(l==[60])=false) \/
  ((l==[33])=false/\(l==[38])=true/\(l==[124])=false/\(l==[43])=false/\(l==[45])=false/\(l==[60])=false) \/
  ((l==[33])=false/\(l==[38])=false/\(l==[124])=true/\(l==[43])=false/\(l==[45])=false/\(l==[60])=false) \/
  ((l==[33])=false/\(l==[38])=false/\(l==[124])=false/\(l==[43])=true/\(l==[45])=false/\(l==[60])=false) \/
  ((l==[33])=false/\(l==[38])=false/\(l==[124])=false/\(l==[43])=false/\(l==[45])=true/\(l==[60])=false) \/
  ((l==[33])=false/\(l==[38])=false/\(l==[124])=false/\(l==[43])=false/\(l==[45])=false/\(l==[60])=true) \/
  ((l==[33])=false/\(l==[38])=false/\(l==[124])=false/\(l==[43])=false/\(l==[45])=false/\(l==[60])=false):=by
 by_cases a:l=[33]
 ·subst a;exact .inl ak
 by_cases h1:l=[38]
 ·subst h1;exact .inr<|.inl ak
 by_cases b:l=[124]
 ·subst b;exact .inr<|.inr (.inl ak)
 by_cases c:l=[43]
 ·subst c;exact .inr<|.inr (.inr<|.inl ak)
 by_cases d:l=[45]
 ·subst d;exact .inr<|.inr (.inr<|.inr (.inl ak))
 by_cases e:l=[60]
 ·subst e;exact .inr<|.inr (.inr<|.inr (.inr<|.inl ak))
 exact .inr (.inr<|.inr (.inr<|.inr (.inr<|by simp[a,h1,b,c,d,e])))
theorem vyx(l:List UInt8):((l==mG)=true/\(l==nY)=false/\(l==nC)=false/\(l==[])=false) \/
  ((l==mG)=false/\(l==nY)=true/\(l==nC)=false/\(l==[])=false) \/
  ((l==mG)=false/\(l==nY)=false/\(l==nC)=true/\(l==[])=false) \/
  ((l==mG)=false/\(l==nY)=false/\(l==nC)=false/\(l==[])=true) \/
  ((l==mG)=false/\(l==nY)=false/\(l==nC)=false/\(l==[])=false):=by
 by_cases a:l=mG
 ·subst a;exact .inl ak
 by_cases h1:l=nY
 ·subst h1;exact .inr<|.inl ak
 by_cases b:l=nC
 ·subst b;exact .inr<|.inr (.inl ak)
 by_cases c:l=[]
 ·subst c;exact .inr<|.inr (.inr<|.inl ak)
 exact .inr (.inr<|.inr (.inr<|by simp[a,h1,b,c]))
theorem zv6(l:List UInt8):(l==[])=l.isEmpty:=by cases l<;>rfl
def opV(a b c d f g e m n t u sa nb sb:Bool):ByteArray:=
 if a||b||c then (if (e&&!m&&!n)&&t then kvj else kjx)
 else if d||f then (if (e&&!m&&!n)&&u then kwn else kjx)
 else if g then (if (e&&!m&&!n)&&u then kvj else kjx)
 else (if (e&&!m&&!n)||(n&&sb)||(nb&&sa) then kvj else kjx)
theorem jj2{i4 i5 i6 i7 i8 i9 j0 d j2 e f g j6:Bool}(h1:(op.toList==[33])=b7)(h:(op.toList==[38])=i4)(i:(op.toList==[124])=i5)(j:(op.toList==[43])=i6)(k:(op.toList==[45])=i7)(l:(op.toList==[60])=i8)(m:(a5.toList==g9.toList)=i9)(p:a5.toList.isEmpty=j0)(hn:(a5.toList==mG)=d)(q:(a5.toList==nY)=j2)(s:(a5.toList==nC)=e)(b:kx3 a5=f)(a:(g9.toList==mG)=g)(c:kx3 g9=j6):opT op a5 g9=opV b7 i4 i5 i6 i7 i8 i9 j0 d j2 e f g j6:=by subst h1;subst h;subst i;subst j;subst k;subst l;subst m;subst p;subst hn;subst q;subst s;subst b;subst a;subst c;rfl
theorem pks(i j:Nat){y:PX}(ha:qjm a8)(hb:qjm y)(o1:(i0.op.toList==nJ)=false)(o2:(i0.op.toList==nZ)=false)(o3:(i0.op.toList==mG)=false)(o4:(i0.op.toList==mW)=false)(o5:(i0.op.toList==ng)=false):qjm (.node i j i0 a8 y):=by
 intro w T lo lo' t n l va vn vc vg ba bn bc p _ L U ht F v R hl hN;obtain⟨k,pa,M,rfl,_,G,P,Q⟩:=hN;have N:=oz (by rw[kyc];simp[o1,o2,o3,o4,o5]:kq5 t l (.node i j i0 a8 y)=opT i0.op (kq5 t l a8) (if isNil y then kq5 t l a8 else kq5 t l y));have d0:=zzh (G:w.heap[k]?=some (.cells #[.string i0.op,pa,M,.string i0.y.t,.string i0.y.x,.int .i64 i0.y.v,.string i0.c.t,.string i0.c.x,.int .i64 i0.c.v,.int .i64 i0.n] _ (0,0)));have Z:=wQ G;have a0:isNil a8=false:=by
  obtain h1|h1:=L.1
  ·simp[qwe,o1,o2,o3,o4,o5]at h1
  ·exact h1
 have O:=oz G;have W:=L.2.1;have X:=L.2.2;clear G;unfold qk4;go_in;go_wp2;go_region_held3 (λw'=>w'.cell? ⟨w.heap.size,0,none⟩=some (.string n.t)/\w'.cell? ⟨w.heap.size,1,none⟩=some (.string n.x)/\w'.cell? ⟨w.heap.size,2,none⟩=some (.int .i64 n.v)/\w'.cell? ⟨w.heap.size,3,none⟩=some (.slice va vn vc)/\w'.cell? ⟨w.heap.size,4,none⟩=some (.pointer vg)/\w'.cell? ⟨w.heap.size,5,none⟩=some (.slice ba bn bc)/\w'.cell? ⟨k,1,none⟩=some pa)
  (first|go_keep|(go_split_ands;refine⟨?_,?_,?_,?_,?_,?_,?_⟩<;>(refine wU B ?_;first|assumption|simp[*])))
  ((go_at_call 67;refine(ha _ T lo lo' t n l va vn vc vg ba bn bc pa a0 W (U.below<|jy _) ht F v (qj R<|jy _) hl<|P.below (jy _)).mono ?_;rintro e w1 ⟨rfl,B⟩))
 have h:=(jy w).trans<|B.mono ay;have z:=(B.block w.heap.size ay).trans<|Xk w _;have m0:=kzh z;have a5:=wQ z;have D:=(h.block k Z).trans O;clear d0;have ⟨d0,d1,d2,d3,d4,d5,d6,d7,d8,d9,_⟩:=zzh (D:w1.heap[k]?=some (.cells #[.string i0.op,pa,M,.string i0.y.t,.string i0.y.x,.int .i64 i0.y.v,.string i0.c.t,.string i0.c.x,.int .i64 i0.c.v,.int .i64 i0.n] _ (0,0)));have a6:=wQ D;have V:=U.below h;have S:=qj R h;have u:=Q.below h;have I:=qzr F v a8;clear z D;cases y with
 |nil=>
  have E:M=.pointer none:=ku u;subst E;have m:=oz (N:kq5 t l (.node i j i0 a8 .nil)=opT i0.op (kq5 t l a8) (kq5 t l a8));generalize kq5 t l a8=A at m I |-;have o6:(A.toList==A.toList)=true:=ay;obtain⟨a,b,c,d,f,g⟩|⟨a,b,c,d,f,g⟩|⟨a,b,c,d,f,g⟩|⟨a,b,c,d,f,g⟩|⟨a,b,c,d,f,g⟩|⟨a,b,c,d,f,g⟩|⟨a,b,c,d,f,g⟩:=pqy i0.op.toList;all_goals
   obtain⟨a1,a2,a3,a4⟩|⟨a1,a2,a3,a4⟩|⟨a1,a2,a3,a4⟩|⟨a1,a2,a3,a4⟩|⟨a1,a2,a3,a4⟩:=vyx A.toList;all_goals
    rw[zv6]at a4;cases s:kx3 A;all_goals
     have q:=oz (m.trans (jj2 a b c d f g o6 a4 a1 a2 a3 s a1 s):kq5 t l (.node i j i0 a8 .nil)=_);go_wp2_with (first|(go_at_call 121;refine(qjg _ aj).mono ?_;rintro e w' ⟨rfl,rfl⟩))
     go_ret;exact⟨kzj (by rw[ku q];rfl),h⟩
 |node i' j' x' c' d'=>
  have ⟨kb,a9,aA,E,_⟩:=ku u;subst E;have m:=oz (N:kq5 t l (.node i j i0 a8<|.node i' j' x' c' d')=opT i0.op (kq5 t l a8) (kq5 t l<|.node i' j' x' c' d'));generalize kq5 t l a8=A at m I |-;go_wp2
  go_region_held3 (λw'=>w'.cell? ⟨w.heap.size,0,none⟩=some (.string n.t)/\w'.cell? ⟨w.heap.size,1,none⟩=some (.string n.x)/\w'.cell? ⟨w.heap.size,2,none⟩=some (.int .i64 n.v)/\w'.cell? ⟨w.heap.size,3,none⟩=some (.slice va vn vc)/\w'.cell? ⟨w.heap.size,4,none⟩=some (.pointer vg)/\w'.cell? ⟨w.heap.size,5,none⟩=some (.slice ba bn bc)/\w'.cell? ⟨k,2,none⟩=some (.pointer<|some ⟨kb,0,none⟩))
   (first|go_keep|(go_split_ands;refine⟨?_,?_,?_,?_,?_,?_,?_⟩<;>(refine wU C ?_;first|assumption|simp[*])))
   ((go_at_call 67;refine(hb _ T lo lo' t n l va vn vc vg ba bn bc _ rfl X (V.below<|bR.drew) ht F v (qj S<|bR.drew) hl<|u.below (bR.drew)).mono ?_;rintro e w2 ⟨rfl,C⟩))
  have H:=h.trans<|(bR.drew.trans C).mono h.size;have a7:w2.cell? ⟨k,0,none⟩=some (.string i0.op):=wU (bR.drew.trans C) d0;have Y:=qzr F v<|.node i' j' x' c' d';clear d0 d1 d2 d3 d4 d5 d6 d7 d8 d9 m0;generalize kq5 t l (.node i' j' x' c' d')=x at m Y |-;obtain⟨a,b,c,d,f,g⟩|⟨a,b,c,d,f,g⟩|⟨a,b,c,d,f,g⟩|⟨a,b,c,d,f,g⟩|⟨a,b,c,d,f,g⟩|⟨a,b,c,d,f,g⟩|⟨a,b,c,d,f,g⟩:=pqy i0.op.toList;iterate 6
   ·obtain⟨a1,a2,a3,a4⟩|⟨a1,a2,a3,a4⟩|⟨a1,a2,a3,a4⟩|⟨a1,a2,a3,a4⟩|⟨a1,a2,a3,a4⟩:=vyx A.toList;all_goals
     rw[zv6]at a4;cases K:(A.toList==x.toList);all_goals
      have q:=oz<|m.trans (jj2 a b c d f g K a4 a1 a2 a3 rfl rfl rfl);go_wp2
      go_ret;exact⟨kzj (by rw[ku q];rfl),H⟩
  ·obtain⟨a1,a2,a3,a4⟩|⟨a1,a2,a3,a4⟩|⟨a1,a2,a3,a4⟩|⟨a1,a2,a3,a4⟩|⟨a1,a2,a3,a4⟩:=vyx A.toList;all_goals
    rw[zv6]at a4;cases K:(A.toList==x.toList);all_goals
     cases e2:(x.toList==mG);all_goals
      cases s:kx3 A;all_goals
       cases J:kx3 x;all_goals
        have q:=oz<|m.trans (jj2 a b c d f g K a4 a1 a2 a3 s e2 J);go_wp2_with (first|(go_at_call_of 121 (Value.string x);refine(qjg x aj).mono ?_;rintro e w' ⟨rfl,rfl⟩;rw[J])|(go_at_call_of 121 (Value.string A);refine(qjg A aj).mono ?_;rintro e w' ⟨rfl,rfl⟩;rw[s]))
        go_ret;exact⟨kzj (by rw[ku q];rfl),H⟩
theorem qjx:∀x:PX,qjm x
 |.nil=>λw T lo lo' t n l va vn vc vg ba bn bc p h=>ig
 |.node i j x a b=>by
  cases c:(x.op.toList==ng)
  ·cases o1:(x.op.toList==nJ)
   ·cases o2:(x.op.toList==nZ)
    ·cases o3:(x.op.toList==mG)
     ·cases o4:(x.op.toList==mW)
      ·exact pks i j (qjx a) (qjx b) o1 o2 o3 o4 c
      ·exact qv4 i j x a b (.inr<|.inr (.inr o4))
     ·exact qv4 i j x a b (.inr<|.inr (.inl o3))
    ·exact qv4 i j x a b (.inr<|.inl o2)
   ·exact qv4 i j x a b (.inl o1)
  ·exact vqg i j a b c
end Go.Proofs.YtpmcnonmkghokaaGreatDoor

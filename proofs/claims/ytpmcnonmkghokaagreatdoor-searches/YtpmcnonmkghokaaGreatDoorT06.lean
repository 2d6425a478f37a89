import Derived.Test.YtpmcnonmkghokaaGreatDoorT05
import Derived.Shelf.Strings.OnBuilder
import Derived.Test.YtpmcnonmkghokaaGreatDoorRows
import Derived.Test.YtpmcnonmkghokaaGreatDoorT00
import Derived.RegionTactic
import Derived.OrdersHeld
import Derived.WalkKit
import Derived.Deep.AppendLies
import Derived.Lib.Builder
import Derived.Lib.AppendStr
import Derived.Lib.UnsafeStr
import Derived.Laws.Externs
set_option maxRecDepth 100000
set_option maxHeartbeats 8000000
set_option linter.unusedVariables false
set_option linter.unusedSimpArgs false
namespace Go.Proofs.YtpmcnonmkghokaaGreatDoor
open Go.Proofs.Tryz Go.RowKit
attribute [local go_sem ↓] Go.wp_at_zero Go.wp_at_succ
variable {a a':Act}{listed:Array Bool}{b4:ByteArray}{e8:Int}{S ls:List (List Int)}{gs:List (Nat×Nat)}{ms sets y:List Int}{nevers:List MNever}{steps:List MStep}{vars:List MVar}{D bad:List Nat}{l:List PP}{rs:List PRule}{a8:List UInt8}{bs c cs ds xs:List Value}{u:MVar}{m:MdL}{B M R T b bc bn c0 c1 c2 c3 c4 fuel gcap gg i j k lo mc mn mo n n0 n1 n2 n3 n4 nb pc pn size so:Nat}{o:Obj}{oi:Oper}{a0 a1 a2 a3 a4 ba ga gp ma pa:Option Addr}{r rl:PRule}{t:PTree}{h8:PVar}{nv pv sv tv vb vg vp vv x0 x1 x2 x3 xv y3:Value}{i9:VrT}{w w' w3 w4 wa wb:World}{j8 tab:kq3}
def vyv(t:PTree):Prop:=∀u∈t.z,(u.R.t.toList==mW)=true->zz9 u.R
def zyw(a:PB):Prop:=∀{w0 w:World} {T R:Nat} {t:PTree} {l:List PP} {ms:List Int} {v:WV} {gs:List (Nat×Nat)} {S:List (List Int)} (lo:Nat) (vl:Value) (ps:List Value),Cx w0 T t l ms v->vyv t->Wk w0 T R v gs w S false ->
 w0.ownsRow lo 245 1 vl ps.length ps->jg lo none w0 a ps->SOk a->ps.length<=1000->∀r:List (List Int)×Bool,doR t l ms a S=some r ->
 Calls prog 125 #[.pointer (some ⟨R,0,none⟩),vl] w λe w'=>e=.returned (.tuple #[])/\Wk w0 T R v gs w' r.1 r.2
def zz7:PB->Prop
 |.nil=>True
 |.node _ _ _ .nil n=>zz7 n
 |.node _ _ _ (.node _ _ _ t e) n=>zyw t/\zyw e/\zz7 n
def xk6(w0:World)(T R:Nat)(t:PTree)(l:List PP)(ms:List Int)(v:WV)(gs:List (Nat×Nat))(lo:Nat)(ps:List Value)(r:List (List Int)×Bool)(i:Value)(wr:World):Prop:=
 ∃(k:Nat) (rest:PB) (S:List (List Int)) (b:Bool),k<=ps.length/\i=.int .i64 k/\jg lo none w0 rest (ps.drop k)/\SOk rest/\zz7 rest/\Wk w0 T R v gs wr S b/\(if b then r=(S,true) else doR t l ms rest S=some r)
theorem jjm{a6:PB}(hI:zz7 a6):zyw a6:=by
 intro w0 w T R t l ms v gs S lo vl ps U a2 h aP p hS bH r hr;obtain⟨a,cap,rfl,(W:Hid _)⟩:=qp aP;have aS:=show xk6 w0 T R t l ms v gs lo ps r (.int .i64 0) w from⟨0,a6,S,false,jR,rfl,by rw[List.drop_zero];exact p,hS,hI,h,hr⟩
 clear hr;go_in;go_wp21;go_loopw [4,5,6,7,8,9,10] (λi _ _ _ _ _ _ wr=>xk6 w0 T R t l ms v gs lo ps r i wr) (λi _ _ _ _ _ _ _=>ps.length-(intOf i).toNat);exact aS;obtain⟨wo,rfl⟩:=cpy wr;obtain⟨k,rest,N,b1,hk,rfl,p,f,x,H,b⟩:=hrel;have c0:=kju H.e;have bB:=wQ H.e;cases b1
 case true=>
  simp only[Xw]at b;subst b;by_cases P:k<ps.length
  all_goals
   go_wp2;go_end0;exact⟨rfl,H⟩
 case false=>
 simp only[ru,Xv]at b;match rest,p,f,x,b with
 |.nil,p,f,x,b=>
  have m:ps.drop k=[]:=p;have bF:ps.length<=k:=by simpa using m
  have bG:¬k<ps.length:=aj;rw[doR]at b;injection b with b;subst b;clear m;go_wp2
  go_end0;exact⟨rfl,H⟩
 |.node _ _ la .nil nx,p,f,x,b=>
  obtain⟨kd,vp,vv,vi,qs,m,_,I,B,a0⟩:=p;have P:k<ps.length:=by
   obtain h|h:=JY k ps.length
   ·exact h
   ·rw[Qa h]at m;cases m
  have J:ps[k]?=some (.pointer<|some ⟨kd,0,none⟩):=by have:=congrArg (λl=>l[0]?) m;simpa using this
  have K:ps.drop (k+1)=qs:=by have:=congrArg List.tail m;simpa using this
  obtain⟨g,rfl,_,aZ,Y⟩:=ku W k P;have A:w0.cell? ⟨g,k,none⟩=some (.pointer<|some ⟨kd,0,none⟩):=(Y k aj).trans J;have O:=I;rw[doR]at b;obtain⟨⟨p1,p2⟩,d,b⟩:=wu.1 b;have b5:vi=.pointer none:=by
   have h1:=B.2.2;cases a7:la.A with
   |nil=>rw[a7]at h1;exact h1
   |node _ _ _ _ _=>have:=f.1;rw[a7]at this;cases this
  subst b5;unfold vyj at d;match hla:la.N,B.1,d with
  |.nil,_,d=>cases d
  |.node pi pj px pa' pb',hNP,d=>
  dsimp only at d;obtain⟨kp,bL,bM,rfl,_,b3,_,_⟩:=hNP;match hlv:la.value,B.2.1,d with
  |.nil,_,d=>cases d
  |.node ui uj ux ua ub,hNV,d=>
  have aO:=hNV;obtain⟨kv,bN,bO,rfl,_,_,_,_⟩:=hNV;have aY:isNil la.A=true:=f.1;rw[aY]at d;simp only[isNil,JV,Qg,ru,Xv]at d;obtain⟨⟨x1,x2⟩,hx,d⟩:=wu.1 d;obtain⟨⟨⟨q1,q2⟩,q3⟩,V,d⟩:=wu.1 d;dsimp only at d;have X:=kyg _ lo kv U H aO _ hx;have aW:=oz (λ(wx:World)(bx:Bool)(M:Wk w0 T R v gs wx N bx)=>jjp U M b3 V);by_cases aE:q1<0
  ·rw[lJ aE]at d;cases d
  rw[Xy aE]at d;obtain⟨qn,rfl⟩:=sG (by omega:0<=q1);rw[tX]at d;obtain⟨u,hu,d⟩:=wu.1 d;have a1:qn<t.z.length:=by
   obtain h|h:=JY qn t.z.length
   ·exact h
   ·rw[Jo h]at hu;cases hu
  have a3:t.z[qn]=u:=by rw[wW a1]at hu;injection hu
  have b4:=a2 u (by rw[<-a3];exact wZ a1);have F:=show jg lo none w0 nx (ps.drop<|k+1) by rw[K];exact a0
  have G:=f.2.2.2.2.2;have E:=show zz7 nx from x
  obtain⟨gt,aM,aX,b2,tq,tk⟩:=U.tree.var a1;rw[a3]at tk;have aV:=oz (⟨tq,tk⟩:w0.cell? ⟨T,2,none⟩=some (.slice (some ⟨gt,0,none⟩) t.z.length aM)/\xqf w0 gt qn u);have s:=H.D;have d1:=wU s<|(kzk I).2.1;have d2:=wU s<|(kzk I).2.2.1;have ck:=wU s A;clear hx V hu a3 I tq K m J A Y;go_wp21
  refine X.mono ?_;rintro e w1 ⟨rfl,C⟩;have e0:=wU C.D<|(kzk O).1;clear d1 d2 ck;go_wp21
  refine(aW _ _ C).mono ?_;rintro e w2 ⟨rfl,j⟩;rw[QX]at j;obtain⟨⟨b0,_,_,_,_,_,_,_,b8,b9⟩,⟨_,_,_,_,_,_,_,_,_,g9⟩⟩:=kju j.e;obtain⟨tq,_,_,_,_,_,_,_,_,_,t9,aK,aL⟩:=ku aV;have tq:=wU j.D tq;have t9:=wU j.D t9;have aK:=wU j.D aK;have aL:=wU j.D aL;have b6:=wQ j.e;have H3:=j.below<|jZ w2 (o:=.cells #[.string u.R.t,.string u.R.x,.int .i64 u.R.v] 142);have bA:gt<w2.heap.size:=sV b2 j.D.size;have b7:T<w2.heap.size:=sV aX j.D.size;clear e0;dsimp only;have D:∀c:Bool,kky u x1=c->Hid (kky u x1=c):=λc h=>h
  generalize aH:(x2||q3)=wf at *;cases L:(u.R.t.toList==mW);case' false=>
   have Q:=D false (by unfold kky;rw[L];rfl);obtain⟨z0,z1,z2⟩:True/\True/\True:=⟨trivial,trivial,trivial⟩
  case' true=>
   obtain⟨z0,z1,z2⟩:=b4 L;have W:=oz (by simp[mg,z0]:mg u.R.x=((u.R.x[0]'z0).toNat:Int)-48);by_cases aI:x1<0
   case' pos=>have Q:=D true (by unfold kky;rw[L,Qz aI];rfl)
   case' neg=>
    by_cases aJ:((u.R.x[0]'z0).toNat:Int)-48<x1
    case' pos=>have Q:=D true (by unfold kky;rw[L,ku W,Qz aJ];simp)
    case' neg=>have Q:=D false (by unfold kky;rw[L,ku W,decide_eq_false aJ,decide_eq_false aI];rfl)
  all_goals
   rw[ku Q]at d;cases wf
  all_goals
   simp only[Qg,Js,Jg,QX,Xw,Xv,ru]at d;first
   |injection d with d
    injection d with e1 e2;subst e1;subst e2;rw[lJ rfl]at b;injection b with b;have z:=oz b.symm;clear b aH D;go_wp2
    exact rdM ⟨k+1,nx,N,true,aj,eu,F,G,E,by first|exact H3|exact j.xz.below (jZ _),z⟩
   |obtain⟨y,hy,d⟩:=wu.1 d
    by_cases aC:q2<0
    ·rw[Qz aC]at d;cases d
    obtain⟨qi,rfl⟩:=sG (by omega:0<=q2);by_cases aD:(y.length:Int)<=qi
    ·rw[Qz aD,Js]at d;cases d
    rw[decide_eq_false aC,decide_eq_false aD]at d;simp only[Qg,ru,Xv,tX]at d;injection d with d;injection d with e1 e2;subst e1;subst e2;simp only[ru,Xv]at b;have aB:qi<y.length:=aj;obtain⟨gO,cO,gr,cg,eS,bC,k1,bD,k2,aQ,bI,Z,rfl⟩:=j.st.get hy<|wW aB;have k3:=j.st.frz (i:=qi) aQ Z;have aT:=(j.set hy aB Z x1).below<|jZ _ (o:=.cells #[.string u.R.t,.string u.R.x,.int .i64 u.R.v] 142);rw[eS]at b8;have z:=oz b;clear b aH D hy eS;go_wp2
    exact rdM ⟨k+1,nx,_,false,aj,eu,F,G,E,aT,z⟩
 |.node _ _ la (.node _ _ _ th el) nx,p,f,x,b=>
  obtain⟨kd,vp,vv,vi,vt,ve,qt,qe,qs,m,_,I,B,⟨aF,_,aG⟩,⟨a9,_,aA⟩,a0⟩:=p;have P:k<ps.length:=by
   obtain h|h:=JY k ps.length
   ·exact h
   ·rw[Qa h]at m;cases m
  have J:ps[k]?=some (.pointer<|some ⟨kd,0,none⟩):=by have:=congrArg (λl=>l[0]?) m;simpa using this
  have K:ps.drop (k+1)=qs:=by have:=congrArg List.tail m;simpa using this
  obtain⟨g,rfl,_,aZ,Y⟩:=ku W k P;have A:w0.cell? ⟨g,k,none⟩=some (.pointer<|some ⟨kd,0,none⟩):=(Y k aj).trans J;have O:=I;rw[doR]at b;match hlc:la.A,B.2.2,b with
  |.nil,_,b=>simp[isNil]at b
  |.node ci cj cx' ca cb,hNC,b=>
  have aN:=hNC;obtain⟨kc,bJ,bK,rfl,_,_,_,_⟩:=hNC;simp only[isNil,ru,Xv]at b;obtain⟨⟨c1,c2⟩,a8,b⟩:=wu.1 b;dsimp only at b;obtain⟨ta,tc,rfl,_⟩:=qp aF;obtain⟨ea,ec,rfl,_⟩:=qp a9;have X:=kyg _ lo kc U H aN _ a8;have F:=show jg lo none w0 nx (ps.drop<|k+1) by rw[K];exact a0
  have G:=f.2.2.2.2;have E:=show zz7 nx from x.2.2
  obtain⟨aU,aR⟩:=ju (λ(wx:World) (M:Wk w0 T R v gs wx N false) (q:List (List Int)×Bool) (V:doR t l ms th N=some q)=>x.1 lo _ qt U a2 M aF aG f.2.2.1.1 (by rw[aG.T];exact f.2.2.1.2) q V) (λ(wx:World) (M:Wk w0 T R v gs wx N false) (q:List (List Int)×Bool) (V:doR t l ms el N=some q)=>x.2.1 lo _ qe U a2 M a9 aA f.2.2.2.1.1 (by rw[aA.T];exact f.2.2.2.1.2) q V);have s:=H.D;have d2:=wU s<|(kzk I).2.2.1;have ck:=wU s A;clear a8 I K m J A Y;go_wp21
  refine X.mono ?_;rintro e w1 ⟨rfl,C⟩;rw[QX]at C;have b9:=kju C.e;have e3:=wU C.D<|(kzk O).2.2.2.1;have e4:=wU C.D<|(kzk O).2.2.2.2.1;clear d2 ck;cases c2
  case true=>
   rw[lJ rfl]at b;injection b with b;have z:=oz b.symm;clear b;go_wp2
   exact rdM ⟨k+1,nx,N,true,aj,eu,F,G,E,C,z⟩
  case false=>
  rw[Xy ay]at b;obtain⟨⟨p1,p2⟩,d,b⟩:=wu.1 b;have z:=show(if p2 then r=(p1,true) else doR t l ms nx p1=some r) by
   cases p2
   ·simpa using b
   ·simp only[Xw]at b |-;injection b with b;exact b.symm
  clear b;cases a5:(c1==1);case' false=>
   rw[a5,Xy ay]at d;have a4:=aR w1 C _ d
  case' true=>
   rw[a5,lJ rfl]at d;have a4:=aU w1 C _ d
  all_goals
   clear d;go_wp21;refine a4.mono ?_;rintro e w2 ⟨rfl,j⟩;go_wp2;exact rdM ⟨k+1,nx,p1,p2,aj,eu,F,G,E,j,z⟩
theorem qz7:∀b:PB,zz7 b
 |.nil=>trivial
 |.node _ _ _ .nil n=>qz7 n
 |.node _ _ _ (.node _ _ _ t e) n=>⟨jjm<|qz7 t,jjm<|qz7 e,qz7 n⟩
theorem xzb(b:PB):zyw b:=jjm<|qz7 b
end Go.Proofs.YtpmcnonmkghokaaGreatDoor
namespace Go.Proofs
open Go.Proofs.Tryz
open Go.Shelf
def Tryz.lays156_ren:Go.Shelf.Ren:=⟨fun|156=>221|165=>249|166=>220|169=>166|240=>219|241=>265|276=>248|277=>287|n=>n,fun|31=>22|9=>9|3=>3|4=>4|0=>0|20=>20|72=>305|76=>365|70=>303|37=>83|75=>307|127=>367|164=>389|5=>5|80=>310|n=>n,fun|n=>n⟩
theorem Tryz.lays156:Go.Proofs.Lays.n156 prog Tryz.lays156_ren:={
 mixed:=au
 f156:=func221.trans<|congrArg some au
 f165:=func249.trans<|congrArg some au
 f166:=func220.trans<|congrArg some au
 f169:=func166.trans<|congrArg some au
 f240:=func219.trans<|congrArg some au
 f241:=func265.trans<|congrArg some au
 f276:=func248.trans<|congrArg some au
 f277:=func287.trans<|congrArg some au
 t0:=underlying0
 a0:=Tryz.isAgg0
 z0:=Tryz.sizeOf0
 v0:=Tryz.zeroValue0
 t3:=underlying3
 a3:=Tryz.isAgg3
 z3:=Tryz.sizeOf3
 v3:=Tryz.zeroValue3
 t4:=underlying4
 a4:=Tryz.isAgg4
 z4:=Tryz.sizeOf4
 v4:=Tryz.zeroValue4
 t9:=underlying9
 a9:=Tryz.isAgg9
 z9:=Tryz.sizeOf9
 v9:=Tryz.zeroValue9
 t20:=underlying20
 a20:=Tryz.isAgg20
 z20:=Tryz.sizeOf20
 v20:=Tryz.zeroValue20
 t31:=underlying22
 a31:=Tryz.isAgg22
 z31:=Tryz.sizeOf22
 v31:=Tryz.zeroValue22
 t37:=underlying83
 a37:=Tryz.isAgg83
 z37:=Tryz.sizeOf83
 v37:=Tryz.zeroValue83
 t70:=underlying303
 a70:=Tryz.isAgg303
 z70:=Tryz.sizeOf303
 v70:=Tryz.zeroValue303
 t72:=underlying305
 a72:=Tryz.isAgg305
 z72:=Tryz.sizeOf305
 v72:=Tryz.zeroValue305
 t75:=underlying307
 a75:=Tryz.isAgg307
 z75:=Tryz.sizeOf307
 v75:=Tryz.zeroValue307
 t76:=underlying365
 a76:=Tryz.isAgg365
 z76:=Tryz.sizeOf365
 v76:=Tryz.zeroValue365
 t127:=underlying367
 a127:=Tryz.isAgg367
 z127:=Tryz.sizeOf367
 v127:=Tryz.zeroValue367
 t164:=underlying389
 a164:=Tryz.isAgg389
 z164:=Tryz.sizeOf389
 v164:=Tryz.zeroValue389}
theorem Tryz.Builder_Extra_156:Builder.Extra prog Tryz.lays156_ren:={
 sizeBuilder:=au
 liesBuilder:=au
 t5:=underlying5
 a5:=Tryz.isAgg5
 z5:=Tryz.sizeOf5
 v5:=Tryz.zeroValue5
 infoByte:=au
 cellsByte:=au
 sizeByte:=au
 neB5:=ak}
open Go.RowKit in
theorem Tryz.strings_Join_none(a:Option Addr)(c:Nat)(sep:ByteArray)(w:World):og 221 #[.slice a 0 c,.string sep] w λe w'=>e=.returned (.string ⟨#[]⟩)/\w'=w:=Any.strings_Join_none Tryz.lays156 Tryz.Builder_Extra_156 a c sep w
open Go.RowKit in
theorem Tryz.strings_Join(b o c:Nat)(xs:List ByteArray)(sep:ByteArray)(w:World)(a:∀(j:Nat) x,xs[j]?=some x->w.cell? ⟨b,o+j,none⟩=some (.string x))(g:b<w.heap.size)(hN:xs.length<=140737488355328)(d:xs.length<=c)(f:(Lib.join (xs.map (·.data.toList)) sep.data.toList).length<=140737488355328):og 221 #[.slice (some ⟨b,o,none⟩) xs.length c,.string sep] w λe w'=>e=.returned (.string ⟨(Lib.join (xs.map (·.data.toList)) sep.data.toList).toArray⟩)/\oq w w':=Any.strings_Join Tryz.lays156 Tryz.Builder_Extra_156 b o c xs sep w a g hN d f
end Go.Proofs
namespace Go.Proofs.YtpmcnonmkghokaaGreatDoor
open Go.Proofs.Tryz Go.RowKit
attribute [local go_sem ↓] Go.wp_at_zero Go.wp_at_succ
variable {a a':Act}{listed:Array Bool}{b4:ByteArray}{e8:Int}{S ls:List (List Int)}{gs:List (Nat×Nat)}{ms sets y:List Int}{nevers:List MNever}{steps:List MStep}{vars:List MVar}{D bad:List Nat}{l:List PP}{rs:List PRule}{a8:List UInt8}{bs c cs ds xs:List Value}{u:MVar}{m:MdL}{B M R T b bc bn c0 c1 c2 c3 c4 fuel gcap gg i j k lo mc mn mo n n0 n1 n2 n3 n4 nb pc pn size so:Nat}{o:Obj}{oi:Oper}{a0 a1 a2 a3 a4 ba ga gp ma pa:Option Addr}{r rl:PRule}{t:PTree}{h8:PVar}{nv pv sv tv vb vg vp vv x0 x1 x2 x3 xv y3:Value}{i9:VrT}{w w' w3 w4 wa wb:World}{j8 tab:kq3}
def qvl(xs:List ByteArray):ByteArray:=⟨(Go.Lib.join (xs.map (·.data.toList)) [44]).toArray⟩
theorem pxz(w:World)(lo:Nat)(xs:List ByteArray)(la:Option Addr)(ll lc:Nat)(h:w.ownsRow lo 9 1 (.slice la ll lc) xs.length (xs.map Value.string))(hn:xs.length<=1000000)(m:(Go.Lib.join (xs.map (·.data.toList)) [44]).length<=1000000):og 221 #[.slice la ll lc,.string ⟨#[44]⟩] w λe w'=>e=.returned (.string<|qvl xs)/\oq w w':=by
 obtain⟨a,f⟩|⟨g,cap,cur,a,f,i,k,e5,l,e7⟩:=h.2
 ·injection a with a c b;subst a;subst c;subst b;have d:xs=[]:=Qv f;subst d;refine(Tryz.strings_Join_none none 0 ⟨#[44]⟩ w).mono ?_;rintro e w' ⟨rfl,rfl⟩;exact⟨rfl,bR⟩
 ·injection a with a c b;subst a;subst c;subst b;refine(Tryz.strings_Join g 0 lc xs ⟨#[44]⟩ w ?_ (wQ i) aj k<|by grind).mono ?_
  ·intro j x d;have:=h.cells (g:=g) rfl j (.string x) (by simp[d]);grind [Addr.add]
  ·rintro e w' ⟨rfl,hb⟩;exact⟨rfl,hb⟩
def kv0(n:ByteArray)(ms:List Int):ByteArray:=((n++⟨#[40]⟩)++qvl (ms.map λi=>kvh i.toNat))++⟨#[41]⟩
def zqi(ms:List Int):Bool:=ms.all (λi=>decide (0<=i)&&decide (i<=9))&&decide (ms.length<=1000)&&decide ((Go.Lib.join ((ms.map λi=>kvh i.toNat).map (·.data.toList)) [44]).length<=1000000)
theorem vwt(h:zqi ms=true):(∀i∈ms,0<=i/\i<=9)/\ms.length<=1000/\(Go.Lib.join ((ms.map λi=>kvh i.toNat).map (·.data.toList)) [44]).length<=1000000:=by grind [zqi]
theorem zv0(n:Tok)(hM:w.ownsRow lo 3 1 (.slice ma mn mc) ms.length (ms.map (Value.int .i64)))(q:zqi ms=true)(Y:n.x.size<=1000):Calls prog 172 #[.agg #[.string n.x,.int .i64 n.v],.slice ma mn mc] w λe w'=>e=.returned (.string<|kv0 n.x ms)/\oq w w':=by
 obtain⟨(t:Hid _),hl,(B:Hid _)⟩:=vwt q;obtain⟨W,f⟩:=cpy<|w.alloc (.cells #[.string n.x,.int .i64 n.v] 107);have j:oq w W:=by rw[f];exact jZ w
 have s:w.heap.size<W.heap.size:=by simp_all
 have M:Hid (W.heap[w.heap.size]?=some (.cells #[.string n.x,.int .i64 n.v] 107 (0,0))):=by rw[f];exact qy
 obtain⟨xa,cap,u,(N:Hid _)⟩:=qp<|qj hM j;injection u with u O P;subst u;subst O;subst P;have D:=oz f.symm;clear f q;go_in
 go_wp21;rw[ku D];go_loopw [5,7,10] (λx _ i wr=>∃(k:Nat)(la:Option Addr)(ll lc:Nat),k<=ms.length/\i=.int .i64 k/\x=.slice la ll lc/\wr.ownsRow W.heap.size 9 1 (.slice la ll lc) k (((ms.take k).map λi=>kvh i.toNat).map Value.string)/\oq W wr) (λ_ _ i _=>ms.length-(intOf i).toNat)
 ·grind [World.ownsRow_nil,Below.refl]
 obtain⟨k,la,ll,lc,hk,rfl,rfl,d,a⟩:=hrel;have H:=a.size;by_cases c:k<ms.length
 ·obtain⟨g,rfl,V,G,F⟩:=ku N k c;have e0:wr.cell? ⟨g,k,none⟩=some (.int .i64 ms[k]):=by rw[a.cell (p:=⟨g,k,none⟩) G,F k aj,QV,wW c];rfl
  obtain⟨d0,d9⟩:=(ku t) ms[k] (wZ c);have l:=qzq ms[k].toNat aj wr;rw[Xz d0]at l;have K:=oz (by grind [List.take_succ_eq_append_getElem]:((ms.take<|k+1).map λi=>kvh i.toNat).map Value.string=((ms.take k).map λi=>kvh i.toNat).map Value.string++[.string (kvh ms[k].toNat)]);generalize kvh ms[k].toNat=Z at *;generalize ms[k]=x at *;clear F;go_wp21;refine l.mono ?_;rintro e w2 ⟨rfl,rfl⟩;go_wp2_with (at_builtin;refine apO (d.alloc _) ?_)
  intro v' w' v h _ E;obtain⟨a3,J,c3,rfl⟩:=qh v;have C:=show w'.ownsRow W.heap.size 9 1 (.slice a3 J c3) (k+1) (((ms.take<|k+1).map λi=>kvh i.toNat).map Value.string) by grind [ku,List.map_take]
  have y:=(a.alloc H _).grown h ah<|jo d;clear E;go_wp2
  exact rdM ⟨k+1,a3,J,c3,aj,eu,rfl,C,y⟩
 ·have:k=ms.length:=by omega
  subst this;rw[Qc]at d;have L:=pxz wr.drew W.heap.size (ms.map λi=>kvh i.toNat) la ll lc (by rw[Ql];exact d) (by grind)<|ku B;have b:=oz<|(a.block w.heap.size s).trans M;obtain⟨Q,q1,_,_⟩:=kj6 b;have A:Hid (kv0 n.x ms=((n.x++⟨#[40]⟩)++qvl (ms.map λi=>kvh i.toNat))++⟨#[41]⟩):=rfl;have X:(qvl<|ms.map λi=>kvh i.toNat).size<=1000000:=by grind [ku,qvl,ByteArray.size]
  generalize qvl (ms.map λi=>kvh i.toNat)=I at *;have S:¬(9223372036854775807<n.x.size+1):=aj;have T:¬(9223372036854775807<n.x.size+1+I.size):=aj;have U:¬(9223372036854775807<n.x.size+1+I.size+1):=aj;go_upto_region 7 with fail
  go_region_held3 (λw'=>w'.cell? ⟨w.heap.size,0,none⟩=some (.string n.x)) (first|exact Q|exact R)
   ((go_at_call 221;refine L.mono ?_;rintro e w1 ⟨rfl,m⟩;obtain⟨R,u1,_⟩:=kj6 ((m.block w.heap.size (by show w.heap.size<wr.heap.size;omega)).trans b);have z:=j.trans ((a.drew.trans<|m.mono (by simp_all)).mono<|Qr s) ;dsimp only))
  go_wp2;go_ret;rw[ku A];exact⟨rfl,z⟩
section
variable {w w':World}
def vq0(w:World)(r:PRule)(vp vg vb:Value):Prop:=
 ∃pa pc ga ba bc ps,vp=.slice pa r.u.length pc/\vg=.pointer ga/\vb=.slice ba ps.length bc/\w.ownsRow 0 236 6 vp r.u.length (kjm r.u)/\yw 0 w r.guard vg/\w.ownsRow 0 245 1 vb ps.length ps/\jg 0 none w r.S ps
theorem vq0.below(h:vq0 w r vp vg vb)(hb:oq w w'):vq0 w' r vp vg vb:=by obtain⟨pa,pc,ga,ba,bc,ps,a,b,c,h1,d,e,f⟩:=h;exact⟨pa,pc,ga,ba,bc,ps,a,b,c,qj h1 hb,d.below hb,qj e hb,f.below hb⟩
structure RIn where
 r:PRule
 ms:List Int
variable {L:List RIn}{x:RIn}
def riT(x:RIn):ByteArray:=kv0 x.r.y.x x.ms
def zwa(w:World)(x:RIn)(c:List Value):Prop:=
 ∃vp vg vb aa ac,c=[.string x.r.y.t,.string x.r.y.x,.int .i64 x.r.y.v,vp,vg,vb,.slice aa x.ms.length ac,.string (riT x)]/\vq0 w x.r vp vg vb/\w.ownsRow 0 3 1 (.slice aa x.ms.length ac) x.ms.length (x.ms.map<|Value.int .i64)
theorem zwa.below(h:zwa w x c)(hb:oq w w'):zwa w' x c:=by obtain⟨vp,vg,vb,aa,ac,e,h1,a⟩:=h;exact⟨vp,vg,vb,aa,ac,e,h1.below hb,qj a hb⟩
def jzf(w:World)(L:List RIn)(cs:List Value):Prop:=cs.length=L.length*8/\∀k (hk:k<L.length),zwa w L[k] ((cs.drop (k*8)).take 8)
theorem jzf.below(h:jzf w L cs)(hb:oq w w'):jzf w' L cs:=⟨h.1,λk a=>(h.2 k a).below hb⟩
theorem yw.gr(hv:w.ownsRow B 159 8 vv n xs)(a:w.grownBy w' vv.ownBlock){a7:PX}(h:yw lo w a7 tv):yw lo w' a7 tv:=h.far hv ak a
theorem vq0.gr(hv:w.ownsRow B 159 8 vv n xs)(a:w.grownBy w' vv.ownBlock)(h:vq0 w r vp vg vb):vq0 w' r vp vg vb:=by obtain⟨pa,pc,ga,ba,bc,ps,b,c,d,h1,e,f,g⟩:=h;exact⟨pa,pc,ga,ba,bc,ps,b,c,d,kqx h1 hv ak a,e.gr hv a,kqx f hv ak a,g.far hv ak ak ak a⟩
theorem zwa.gr(hv:w.ownsRow B 159 8 vv n xs)(a:w.grownBy w' vv.ownBlock)(h:zwa w x c):zwa w' x c:=by obtain⟨vp,vg,vb,aa,ac,e,h1,b⟩:=h;exact⟨vp,vg,vb,aa,ac,e,h1.gr hv a,kqx b hv ak a⟩
theorem jzf.snoc(hv:w.ownsRow B 159 8 vv n cs)(b:w.grownBy w' vv.ownBlock)(h:jzf w L cs)(a:c.length=8)(e:zwa w x c):jzf w' (L++[x]) (cs++c):=by
 refine⟨by simp[h.1,a];omega,λk f=>?_⟩;by_cases d:k<L.length
 ·have a:=h.1;rw[Jl aj,Jv (by grind),Qn d];exact(h.2 k d).gr hv b
 ·have:k=L.length:=by grind
  subst this;rw[<-h.1,J4,Q9 aj];simpa using e.gr hv b
def szN(t:PTree)(s:List UInt8):Nat:=(mg (t.j.getD (zx (ug t) s).toNat ⟨zh,zh⟩).size.x).toNat
theorem jzt.eq(h:jzt t a8 n):szN t a8=n:=by obtain⟨k,b,h1,_,a,_⟩:=h;grind [szN]
def kwo(t:PTree)(l:List PP)(i:Nat):Nat:=match l[i]? with|some p=>szN t p.Q.x.toList|none=>1
def qx7(r:PRule)(n1:Nat)(a:Nat):List RIn:=(List.range n1).map λ(b:Nat)=>⟨r,([(a:Int),(b:Int)]).take r.u.length⟩
def qx8(t:PTree)(r:PRule):List RIn:=(List.range (kwo t r.u 0)).flatMap λa=>qx7 r (kwo t r.u 1) a
def kq4(t:PTree)(rs:List PRule):List RIn:=rs.flatMap (qx8 t)
def zvk(t:PTree)(r:PRule):Prop:=r.u.length<=2/\(∀p∈r.u,∃n,jzt t p.Q.x.toList n)/\r.y.x.size<=800
theorem zvk.bd(h:zvk t r)(i:Nat):1<=kwo t r.u i/\kwo t r.u i<=9:=by
 unfold kwo;split
 ·rename_i p a;obtain⟨n,hn⟩:=h.2.1 p<|wB a;rw[hn.eq];obtain⟨_,_,_,_,_,h1,b⟩:=hn;omega
 ·omega
def vx9(n:ByteArray)(a b:Nat):Nat->ByteArray
 |0=>n++⟨#[40]⟩
 |1=>(n++⟨#[40]⟩)++kvh a
 |_+2=>(((n++⟨#[40]⟩)++kvh a)++⟨#[44]⟩)++kvh b
theorem pyc(n:ByteArray)(a b m:Nat)(d:m<=2):vx9 n a b m++⟨#[41]⟩=kv0 n (([(a:Int),(b:Int)]).take m):=by
 have j0:qvl []=⟨#[]⟩:=rfl;have e:∀x:ByteArray,qvl [x]=x:=λx=>by unfold qvl;simp[Go.Lib.join]
 have j2:∀x y:ByteArray,qvl [x,y]=(x++⟨#[44]⟩)++y:=λx y=>by unfold qvl;apply ByteArray.ext;simp[Go.Lib.join]
 have c:∀x:ByteArray,x++(⟨#[]⟩:ByteArray)=x:=λx=>by apply ByteArray.ext;simp
 unfold kv0;obtain _|_|_|m:=m
 ·grind [vx9]
 ·grind [vx9]
 ·grind [vx9,ByteArray.append_assoc]
 ·omega
end
variable {L:List RIn}{x:RIn}
theorem dw.v(h:dw lo w rs xs)(hi:i<rs.length):∃vp vg vb,(xs[i*6]?=some (.string (rs[i]).y.t)/\xs[i*6+1]?=some (.string (rs[i]).y.x)/\xs[i*6+2]?=some (.int .i64 (rs[i]).y.v)/\xs[i*6+3]?=some vp/\xs[i*6+4]?=some vg/\xs[i*6+5]?=some vb)/\vq0 w rs[i] vp vg vb:=by obtain⟨vp,vg,vb,ps,e,h1,a,b,c⟩:=qji i hi h;obtain⟨pa,pc,rfl,_⟩:=qp h1;obtain⟨ga,rfl⟩:=a.ptr;obtain⟨ba,bc,rfl,_⟩:=qp b;exact⟨_,_,_,e,pa,pc,ga,ba,bc,ps,rfl,rfl,rfl,qo jR h1,a.mono<|jR,qo jR b,c.mono<|jR⟩
def OwnIn(B:Nat)(w:World)(y:Value)(L:List RIn):Prop:=∃cs,w.ownsRow B 159 8 y L.length cs/\jzf w L cs
theorem OwnIn.below(h:OwnIn B w vv L)(hb:oq w w'):OwnIn B w' vv L:=by obtain⟨cs,h1,a⟩:=h;exact⟨cs,qj h1 hb,a.below hb⟩
def nAt(n0 n1 q:Nat):Array Value:=#[.int .i64 (if 0<q then n0 else 1:Nat),.int .i64 (if 1<q then n1 else 1:Nat)]
theorem xzk(h:l.length<=2):nAt (kwo t l 0) (kwo t l 1) l.length=#[.int .i64 (kwo t l 0),.int .i64 (kwo t l 1)]:=by
 obtain _|⟨p,_|⟨q,_|⟨z,l⟩⟩⟩:=l
 ·rfl
 ·rfl
 ·rfl
 simp_all
theorem pwe(h:j<2):(nAt n0 n1 j).setIfInBounds j (.int .i64 (if j=0 then n0 else n1:Nat))=nAt n0 n1 (j+1):=by
 obtain _|_|j:=j
 ·rfl
 ·rfl
 ·omega
theorem vwr(r:PRule)(n1:Nat):∀q,((List.range q).flatMap λa=>qx7 r n1 a).length=q*n1
 |0=>ay
 |q+1=>by rw[Jf,JZ,rD,vwr r n1 q,Nat.succ_mul];simp[qx7]
theorem qjp:∀{rs:List PRule},(∀r∈rs,zvk t r)->(kq4 t rs).length<=81*rs.length
 |[],_=>by simp[kq4]
 |r::rs,h=>by
  have c:=qjp (rs:=rs) (λx b=>h x<|jS b);have a:=(h r<|rZ ..).bd 0;have h1:=(h r<|rZ ..).bd 1;have e:(qx8 t r).length=kwo t r.u 0*kwo t r.u 1:=vwr r _ _;have:kwo t r.u 0*kwo t r.u 1<=9*9:=Jt a.2 h1.2;have:kq4 t (r::rs)=qx8 t r++kq4 t rs:=by simp[kq4]
  grind
theorem pxv{a:Nat}(hn:b4.size<=800)(m:Nat):(vx9 b4 a b m).size<=810:=by
 have h1:∀i,(kvh i).size=1:=λ_=>rfl
 obtain _|_|m:=m<;>simp only[vx9,ZM,h1]
 ·have:(⟨#[40]⟩:ByteArray).size=1:=rfl;omega
 ·have:(⟨#[40]⟩:ByteArray).size=1:=rfl;omega
 ·have:(⟨#[40]⟩:ByteArray).size=1:=rfl;have:(⟨#[44]⟩:ByteArray).size=1:=rfl;omega
theorem pwm(w:World)(q p:Nat)(a:lo<=2):(w.alloc (.cells #[.int .i64 q,.int .i64 p] 3)).ownsRow 0 3 1 (.slice (some ⟨w.heap.size,0,none⟩) lo 2) lo ((([(q:Int),(p:Int)]).take lo).map (Value.int .i64)):=by refine⟨by simp_all,.inr ⟨w.heap.size,2,_,rfl,jR,qy,a,iq,rfl,?_⟩⟩;simp
structure zxa (w:World)(o:Nat)(r:PRule)(pa:Option Addr)(pc:Nat)(ga ba:Option Addr)(bn bc n0 n1:Nat)(wa:World):Prop where
 D:oq w wa
 rul:wa.heap[o]?=some (.cells #[.string r.y.t,.string r.y.x,.int .i64 r.y.v,.slice pa r.u.length pc,.pointer ga,.slice ba bn bc] 147 (0,0))
 xx:wa.heap[o+1]?=some (.cells #[.int .i64 n0,.int .i64 n1] 3 (0,0))
 v:vq0 wa r (.slice pa r.u.length pc) (.pointer ga) (.slice ba bn bc)
theorem zxa.below{o:Nat}(h:zxa w o r pa pc ga ba bn bc n0 n1 wa)(hb:oq wa wb):zxa w o r pa pc ga ba bn bc n0 n1 wb:=
 ⟨h.D.trans<|hb.mono h.D.size,(hb.block _<|wQ h.rul).trans h.rul,(hb.block _<|wQ h.xx).trans h.xx,h.v.below hb⟩
theorem zxa.gr(h:zxa w lo r pa pc ga ba bn bc n0 n1 wa)(hv:wa.ownsRow w.heap.size 159 8 vv n xs)(a:wa.grownBy wb vv.ownBlock):zxa w lo r pa pc ga ba bn bc n0 n1 wb:=
 ⟨h.D.grown a h.D.size<|jo hv,(a.block _ (wQ h.rul)<|not_row hv h.rul ak).trans h.rul,(a.block _ (wQ h.xx)<|not_row hv h.xx ak).trans h.xx,h.v.gr hv a⟩
theorem jjc(h:kqc w T t)(ht:TreeOk t)(v:w.ownsRow lo 147 6 xv rs.length bs)(bK:dw lo w rs bs)(hp:∀r∈rs,zvk t r)(hl:rs.length<=801):Calls prog 70 #[.pointer (some ⟨T,0,none⟩),xv] w λe w'=>∃y,e=.returned y/\OwnIn w.heap.size w' y (kq4 t rs)/\oq w w':=by
 obtain⟨xa,xc,rfl,(HV:Hid _)⟩:=qp v;obtain⟨HT,b6,aG⟩:=jp h bK hp;clear hp;go_in;go_wp21;go_loopw [5,6,7,8,9,10,11,12,13,14] (λy i _ _ _ _ _ _ _ _ wr=>∃k:Nat,k<=rs.length/\i=.int .i64 k/\OwnIn w.heap.size wr y (kq4 t<|rs.take k)/\oq w wr) (λ_ i _ _ _ _ _ _ _ _ _=>rs.length-(intOf i).toNat);exact⟨0,jR,rfl,⟨[],jE,by simp[kq4],λk hk=>by simp[kq4]at hk⟩,bR⟩;obtain⟨c,bS⟩:∃c,c=wr:=⟨_,rfl⟩;subst bS;obtain⟨k,hk,rfl,f,D⟩:=hrel;have bN:=D.size;have J:=oz f;obtain⟨cs,d,_⟩:=f;obtain⟨ya,yc,rfl,_⟩:=qp d;by_cases a3:k<rs.length
 case neg=>
  rw[show rs.take k=rs by grind]at J;go_wp2;go_ret;exact⟨_,rfl,by rw[show rs.take k=rs by rw[show k=rs.length by omega,Qc]];exact J,D⟩
 case pos=>
 obtain⟨g,rfl,_,hg,hc⟩:=ku HV k a3;obtain⟨vp,vg,vb,⟨f0,f1,f2,f3,f4,f5⟩,bL⟩:=b6.v a3;have H:=(ku aG) _<|wZ a3;have b8:=oz (by grind [List.take_succ_eq_append_getElem,kq4]:kq4 t (rs.take<|k+1)=kq4 t (rs.take k)++qx8 t rs[k]);have cc:∀j,j<6->c.cell? ⟨g,k*6+j,none⟩=bs[k*6+j]?:=λj hj=>(D.cell (p:=⟨g,k*6+j,none⟩) hg).trans<|hc _ aj
 have e0:=(cc 0 aj).trans f0;have e1:=(cc 1 aj).trans f1;have e2:=(cc 2 aj).trans f2;have e3:=(cc 3 aj).trans f3;have e4:=(cc 4 aj).trans f4;have e5:=(cc 5 aj).trans f5;simp only[Qk]at e0;have V:=bL.below D;generalize rs[k]=r at *;obtain⟨pa,pc,ga,ba,bc,ps,rfl,rfl,rfl,aZ,_,_,_⟩:=ku V;have bU:=H.bd 0;have aY:=H.bd 1;have a5:=H.1;obtain⟨W,Z⟩:∃W,W=(c.alloc<|.cells #[.string r.y.t,.string r.y.x,.int .i64 r.y.v,.slice pa r.u.length pc,.pointer ga,.slice ba ps.length bc] 147).alloc (.cells #[.int .i64 1,.int .i64 1] 3):=⟨_,rfl⟩;have aB:oq c W:=by rw[Z];exact(jZ c).trans ((jZ _).mono ay)
 have cK:c.heap.size+2=W.heap.size:=by simp_all
 have HR:Hid (W.heap[c.heap.size]?=some (.cells #[.string r.y.t,.string r.y.x,.int .i64 r.y.v,.slice pa r.u.length pc,.pointer ga,.slice ba ps.length bc] 147 (0,0))):=by rw[Z];exact zy<|qy
 have aF:Hid (W.heap[c.heap.size+1]?=some (.cells (nAt (kwo t r.u 0) (kwo t r.u 1) 0) 3 (0,0))):=by rw[Z];have:=qy (w:=c.alloc<|.cells #[.string r.y.t,.string r.y.x,.int .i64 r.y.v,.slice pa r.u.length pc,.pointer ga,.slice ba ps.length bc] 147) (o:=.cells #[.int .i64 1,.int .i64 1] 3);simp only[tV]at this;exact this
 have aM:=oz Z.symm;have bY:=(HT.below D).below aB;obtain⟨cN,cO,e9,a7⟩:=qp aZ;injection e9 with aN bA bB;rw[<-aN]at a7;clear aN bA bB;have aH:=oz a7;have aL:=HT.below D;clear cc hc f0 f1 f2 f3 f4 f5 Z a7;go_wp21
 rw[ku aM];go_loopw [9] (λq m=>∃j:Nat,j<=r.u.length/\q=.int .i64 j/\m.heap[c.heap.size+1]?=some (.cells (nAt (kwo t r.u 0) (kwo t r.u 1) j) 3 (0,0))/\Kept (c.heap.size+1) W m) (λq _=>r.u.length-(intOf q).toNat);exact⟨0,jR,rfl,aF,Kept.refl _ _⟩;obtain⟨m,bQ⟩:∃m,m=wr:=⟨_,rfl⟩;subst bQ;obtain⟨j,hj,rfl,(u:Hid _),A⟩:=hrel;have B:oq c m:=aB.trans<|A.toBelow aj aj;have cL:=A.size;have m0:=kzh<|(A.block c.heap.size aj aj).trans HR;by_cases M:j<r.u.length
 case pos=>
  obtain⟨gp,bF,_,bD,aR⟩:=(ku aH) j M;subst bF;have cG:m.cell? ⟨gp,j*6+4,none⟩=some (.string (r.u[j]).Q.x):=by rw[B.cell (p:=⟨gp,j*6+4,none⟩) bD,aR _ aj];exact kqo kwf 6 (λ_=>rfl) r.u j 4 M aj
  obtain⟨nn,a8⟩:=H.2.1 _<|wZ M;have a6:(if j=0 then kwo t r.u 0 else kwo t r.u 1)=nn:=by
   have:kwo t r.u j=nn:=by unfold kwo;rw[wW M];exact a8.eq
   obtain _|_|j:=j
   ·simp_all
   ·simp_all
   ·omega
  obtain⟨sk,bM,sl,sd,sv,cP,cQ⟩:=a8;have aK:=qk5 (aL.below B) ht.j bM sl sd;rw[sv]at aK;have c9:∃z,m.cell? ⟨c.heap.size+1,j,none⟩=some z:=by
   have cF:j<2:=aj;rw[QK m _ j _ _ _ u];obtain _|_|j:=j
   ·exact⟨_,rfl⟩
   ·exact⟨_,rfl⟩
   ·omega
  obtain⟨z,c9⟩:=c9;have f9:=Zt m (c.heap.size+1) j _ _ u;have S:=oz (show(m.setCell ⟨c.heap.size+1,j,none⟩<|.int .i64 nn).heap[c.heap.size+1]?=some (.cells (nAt (kwo t r.u 0) (kwo t r.u 1)<|j+1) 3 (0,0)) by rw[<-pwe (show j<2 by omega),a6];exact jL _ j _ _ _ u)
  generalize (r.u[j]).Q.x=X at *;clear aR sl sv a6;go_wp21;refine aK.mono ?_;rintro e w1 ⟨rfl,rfl⟩;go_wp2;exact rdM ⟨j+1,aj,eu,S,A.kzr j _⟩
 case neg=>
 have bG:j=r.u.length:=aj;subst bG;rw[xzk a5]at u;obtain⟨aJ,S,aE,b5,Y⟩:=ja ((A.block c.heap.size aj aj).trans HR) u (D.trans (B.mono bN)) (J.below B) (V.below B);have a4:qx8 t r=(List.range<|kwo t r.u 0).flatMap λa=>qx7 r (kwo t r.u 1) a:=rfl
 have aV:=oz a4;generalize kwo t r.u 0=n0 at *;generalize kwo t r.u 1=n1 at *;have b3:=oz (show zxa w c.heap.size r pa pc ga ba ps.length bc n0 n1 m from⟨aE,aJ,u,Y⟩);clear B J D A u V HR aF aM aH aL a4 aE aJ S Y;have bZ:(kq4 t<|rs.take k).length<=70000:=by have:=qjp (t:=t) (rs:=rs.take k) (λx hx=>aG x<|Zp hx);rw[Ze]at this;omega
 generalize kq4 t (rs.take k)=E at *;have bH:=H.2.2;go_wp21;clear m0;go_loopw [5,10,11,12,13,14] (λy aa _ _ _ _ wa=>∃q:Nat,q<=n0/\aa=.int .i64 q/\OwnIn w.heap.size wa y (E++(List.range q).flatMap λa=>qx7 r n1 a)/\zxa w c.heap.size r pa pc ga ba ps.length bc n0 n1 wa) (λ_ aa _ _ _ _ _=>n0-(intOf aa).toNat);exact⟨0,jR,rfl,by simpa using ku b5,b3⟩;obtain⟨wa,bO⟩:∃wa,wa=wr:=⟨_,rfl⟩;subst bO;obtain⟨q,hq,rfl,f,a2⟩:=hrel;obtain⟨a0,a1,_⟩:=kj6 a2.xx;obtain⟨R,aC⟩:=ju f a2;obtain⟨cs,d,_⟩:=f;obtain⟨cU,cV,rfl,_⟩:=qp d;clear d a2;by_cases cH:q<n0
 case neg=>
  have aT:q=n0:=aj;obtain⟨Q,P⟩:=ju (show OwnIn w.heap.size wa _ (kq4 t<|rs.take (k+1)) by rw[ku b8,ku aV,<-aT];exact R) aC.D;clear aT;go_wp2;exact rdM ⟨k+1,aj,eu,Q,P⟩
 case pos=>
 have cE:((List.range q).flatMap λa=>qx7 r n1 a).length<=81:=by rw[vwr];exact rP (Jt (by omega:q<=9) aY.2) aj
 have aW:=oz (by rw[Jf,JZ];simp[qx7]:((List.range<|q+1).flatMap λa=>qx7 r n1 a)=((List.range q).flatMap λa=>qx7 r n1 a)++(List.range n1).map λ(b:Nat)=>(⟨r,([(q:Int),(b:Int)]).take r.u.length⟩:RIn));generalize ((List.range q).flatMap λa=>qx7 r n1 a)=N at *;go_wp21;go_loopw [5,11,12,13,14] (λy bb _ _ _ wb=>∃p:Nat,p<=n1/\bb=.int .i64 p/\OwnIn w.heap.size wb y ((E++N)++(List.range p).map λ(b:Nat)=>(⟨r,([(q:Int),(b:Int)]).take r.u.length⟩:RIn))/\zxa w c.heap.size r pa pc ga ba ps.length bc n0 n1 wb) (λ_ bb _ _ _ _=>n1-(intOf bb).toNat);exact⟨0,jR,rfl,by simpa using ku R,aC⟩;obtain⟨wb,bP⟩:∃wb,wb=wr:=⟨_,rfl⟩;subst bP;obtain⟨p,hp,rfl,f,L⟩:=hrel;obtain⟨b0,b1,_⟩:=kj6 L.xx;obtain⟨aU,aD,K⟩:=jp f L L.rul;obtain⟨cs,d,I⟩:=f;obtain⟨yb,cW,rfl,_⟩:=qp d;clear L;by_cases a6:p<n1
 case neg=>
  have aS:p=n1:=aj;have Q:=oz (show OwnIn w.heap.size wb _ (E++((List.range<|q+1).flatMap λa=>qx7 r n1 a)) by rw[ku aW,<-sZ,<-aS];exact aU);clear aS d I;go_wp2;exact rdM ⟨q+1,aj,eu,Q,aD⟩
 case pos=>
 obtain⟨m0,m1,m2,m3,m4,m5,_⟩:=kzh K;have bX:=wQ K;obtain⟨l,F⟩:∃l,l=wb.alloc (.cells #[.int .i64 q,.int .i64 p] 3):=⟨_,rfl⟩;have G:oq wb l:=by rw[F];exact jZ _
 have cI:wb.heap.size+1=l.heap.size:=by simp_all
 have aO:l.heap[wb.heap.size]?=some (.cells #[.int .i64 q,.int .i64 p] 3 (0,0)):=by rw[F];exact qy
 have b2:=oz (show l.ownsRow 0 3 1 (.slice (some ⟨wb.heap.size,0,none⟩) r.u.length 2) r.u.length ((([(q:Int),(p:Int)]).take r.u.length).map<|Value.int .i64) by rw[F];exact pwm wb q p a5);obtain⟨s0,s1,_⟩:=kj6 aO;obtain⟨b4,U,aI,O,aX⟩:=ja (I.below G) (qj d G) ((G.block c.heap.size<|wQ K).trans K) (aD.below G) F.symm;have cB:((E++N)++(List.range p).map λ(b:Nat)=>(⟨r,([(q:Int),(b:Int)]).take r.u.length⟩:RIn)).length<=80000:=ah;have b7:=oz (by rw[Jf,Qw];simp:((E++N)++(List.range<|p+1).map λ(b:Nat)=>(⟨r,([(q:Int),(b:Int)]).take r.u.length⟩:RIn))=((E++N)++(List.range p).map λ(b:Nat)=>(⟨r,([(q:Int),(b:Int)]).take r.u.length⟩:RIn))++[⟨r,([(q:Int),(p:Int)]).take r.u.length⟩]);generalize ((E++N)++(List.range p).map λ(b:Nat)=>(⟨r,([(q:Int),(b:Int)]).take r.u.length⟩:RIn))=LC at *;have bJ:q<10:=aj;have bI:p<10:=aj;clear d I G aO F;go_wp21;rw[ku aX];go_loopw [13,14] (λs kk ww=>∃z:Nat,z<=r.u.length/\kk=.int .i64 z/\s=.string (vx9 r.y.x q p z)/\ww=l) (λ_ kk _=>r.u.length-(intOf kk).toNat);exact⟨0,jR,rfl,rfl,rfl⟩;obtain⟨z,hz,rfl,rfl,a9⟩:=hrel;have a9:=a9.symm;subst a9;have cJ:=pxv (a:=q) (b:=p) bH z;have aP:∀i,(kvh i).size=1:=λ_=>rfl
 have cC:=aP q;have cD:=aP p;by_cases cM:z<r.u.length
 case pos=>
  by_cases aA:z=0
  ·subst aA;go_wp2_with (first|(go_at_call 28;refine(qzq q bJ _).mono ?_;rintro e w2 ⟨rfl,rfl⟩))
   go_wp2;exact rdM ⟨1,aj,eu,rfl,ay⟩
  ·have aA:z=1:=by omega
   subst aA;go_wp2_with (first|(go_at_call 28;refine(qzq p bI _).mono ?_;rintro e w2 ⟨rfl,rfl⟩))
   go_wp2;exact rdM ⟨2,aj,eu,rfl,ay⟩
 case neg=>
 have bT:z=r.u.length:=aj;subst bT;have b9:=oz<|pyc r.y.x q p r.u.length a5;obtain⟨m0,m1,m2,m3,m4,m5,_⟩:=kzh aI;have bW:=wQ aI;have bV:w.heap.size<=l.heap.size:=O.D.size;generalize cA:vx9 r.y.x q p r.u.length=PP at *;go_wp2_with (at_builtin;refine apO (U.alloc _) ?_)
 intro v' w' v C _ bC;have Q:=oz (show OwnIn w.heap.size w' v' ((E++N)++(List.range<|p+1).map λ(b:Nat)=>(⟨r,([(q:Int),(b:Int)]).take r.u.length⟩:RIn)) by
  rw[ku b7];refine⟨_,by rw[rD];exact v,jzf.snoc (U.alloc _) C (b4.below<|jZ l) rfl ?_⟩;have aQ:(([(q:Int),(p:Int)]).take r.u.length).length=r.u.length:=by simp_all
  refine⟨.slice pa r.u.length pc,.pointer ga,.slice ba ps.length bc,some ⟨wb.heap.size,0,none⟩,2,?_,O.v.below<|jZ l,?_⟩
  ·rw[aQ,show riT ⟨r,([(q:Int),(p:Int)]).take r.u.length⟩=PP++⟨#[41]⟩ from b9.symm]
  ·rw[aQ];exact qj b2<|jZ l)
 have P:=oz<|(O.below<|jZ l).gr (U.alloc _) C;obtain⟨cR,cT,cS,rfl⟩:=qh v;clear v C bC;go_wp2
 exact rdM ⟨p+1,aj,eu,Q,P⟩
def zwc(t:PTree)(S:List (List Int))(x:RIn):Option (Int×List (List Int)):=
 (zqy t x.r.u x.ms S x.r.guard).bind λc=>if c.2 then some (2,S) else if c.1==0 then some (0,S) else (doR t x.r.u x.ms x.r.S S).map λp=>if p.2 then (2,S) else (1,p.1)
structure RiOk (x:RIn):Prop where
 S:SOk x.r.S
 kvt:kvt x.r.S<=1000
 guard:isNil x.r.guard=false
 pars:x.r.u.length<=801
 xy:x.ms.length<=801
theorem vjb{b5:TypeId}(h:w.heap[b]?=some (.cells #[x0,x1,x2,x3,vv,tv,sv,nv] b5 (0,0))):Ce w b 0 x0/\Ce w b 1 x1/\Ce w b 2 x2/\Ce w b 3 x3/\Ce w b 4 vv/\Ce w b 5 tv/\Ce w b 6 sv:=
 ⟨rc h 0,rc h 1,rc h 2,rc h 3,rc h 4,rc h 5,rc h 6⟩
def ky4(S:List (List Int)):Prop:=S.length<=1000/\∀l∈S,0<l.length/\l.length<=1000
theorem jjd(h:kqc w T t)(ht:TreeOk t)(R:vyv t)(E:StA lo w xv S gs)(N:ky4 S)(H:zwa w x c)(g:RiOk x){b6:Int×List (List Int)}(a:zwc t S x=some b6):Calls prog 71 #[.pointer (some ⟨T,0,none⟩),xv,.agg c.toArray] w λe w'=>∃y gs',e=.returned (.tuple #[.int .i64 b6.1,y])/\StA 0 w' y b6.2 gs'/\oq w w':=by
 obtain⟨vp,vg,vb,aa,ac,rfl,⟨pa,pc,ga,ba,bc,ps,rfl,rfl,rfl,h1,F,Z,M⟩,h5⟩:=H;obtain⟨f,rfl⟩:∃f,ga=some ⟨f,0,none⟩:=by
  cases P:x.r.guard with
  |nil=>have:=g.guard;rw[P]at this;cases this
  |node _ _ _ _ _=>rw[P]at F;obtain⟨f,_,_,e,_⟩:=F;simp_all
 obtain⟨W,u⟩:=cpy<|w.alloc (.cells #[.string x.r.y.t,.string x.r.y.x,.int .i64 x.r.y.v,.slice pa x.r.u.length pc,.pointer<|some ⟨f,0,none⟩,.slice ba ps.length bc,.slice aa x.ms.length ac,.string (riT x)] 159);have b:oq w W:=by rw[u];exact jZ w
 have d:w.heap.size<W.heap.size:=by simp_all
 have s:W.heap[w.heap.size]?=some (.cells #[.string x.r.y.t,.string x.r.y.x,.int .i64 x.r.y.v,.slice pa x.r.u.length pc,.pointer<|some ⟨f,0,none⟩,.slice ba ps.length bc,.slice aa x.ms.length ac,.string (riT x)] 159 (0,0)):=by rw[u];exact qy
 obtain⟨i0,i1,i2,i3,i4,i5,i6⟩:=vjb s;have I:=λ(wx:World)(H:oq W wx)=>zja ((E.below b).below H) N.2 N.1
 have B:=(E.below b).mono<|jR;have L:=oz u.symm;have v:=λ(xa:Option Addr)(xn xc:Nat)=>(⟨h.below b,ht,qj h1 b,g.pars,qj h5 b,g.xy⟩:Cx W T t x.r.u x.ms ⟨x.r.y,pa,x.r.u.length,pc,some ⟨f,0,none⟩,ba,ps.length,bc,aa,x.ms.length,ac,xa,xn,xc⟩)
 have X:=F.below b;have J:=qj Z b;have K:=M.below b;have G:ps.length<=1000:=by rw[M.T];exact g.kvt
 unfold zwc at a;obtain⟨⟨c1,c2⟩,(V:Hid _),a⟩:=wu.1 a;dsimp only at a;have Y:=oz a;clear u a;go_in;go_upto_region 1 with fail
 rw[L];go_region_held3 (λw'=>w'.cell? ⟨w.heap.size,0,none⟩=some (.string x.r.y.t)/\w'.cell? ⟨w.heap.size,1,none⟩=some (.string x.r.y.x)/\w'.cell? ⟨w.heap.size,2,none⟩=some (.int .i64 x.r.y.v)/\w'.cell? ⟨w.heap.size,3,none⟩=some (.slice pa x.r.u.length pc)/\w'.cell? ⟨w.heap.size,4,none⟩=some (.pointer<|some ⟨f,0,none⟩)/\w'.cell? ⟨w.heap.size,5,none⟩=some (.slice ba ps.length bc)/\w'.cell? ⟨w.heap.size,6,none⟩=some (.slice aa x.ms.length ac)) (first|exact⟨i0,i1,i2,i3,i4,i5,i6⟩|exact vjb z|exact vjb (zy z))
  (first|(go_at_call 123;refine(I _ bR.drew).mono ?_;rintro e q ⟨x2,C,rfl,m,O⟩;have k:=(Below.refl W.heap.size W).drew.trans O;have z:=(k.block w.heap.size d).trans s;obtain⟨xa,xc,ex,_⟩:=qp m.out;subst ex;dsimp only))
 have Q:=k.size;obtain⟨w3,p⟩:=cpy<|q.alloc (.cells #[.pointer (some ⟨T,0,none⟩),.string x.r.y.t,.string x.r.y.x,.int .i64 x.r.y.v,.slice pa x.r.u.length pc,.pointer<|some ⟨f,0,none⟩,.slice ba ps.length bc,.slice aa x.ms.length ac,.slice xa S.length xc,.bool false] 251);have j:oq q w3:=by rw[p];exact jZ _
 have U:Wk W T q.heap.size ⟨x.r.y,pa,x.r.u.length,pc,some ⟨f,0,none⟩,ba,ps.length,bc,aa,x.ms.length,ac,xa,S.length,xc⟩ C w3 S false:=
  ⟨k.trans<|j.mono aj,Q,by rw[p];exact qy,(m.mono<|jH).below j⟩
 obtain⟨_,_,_,_,j4,j5,_⟩:=vjb<|(j.block w.heap.size aj).trans ((k.block w.heap.size d).trans s);go_wp21
 rw[(oz p.symm)];refine(kyg x.r.guard 0 f (v xa S.length xc) U X _ V).mono ?_;rintro e w4 ⟨rfl,i⟩;rw[QX]at i;have b8:=kju i.e;have a:=Y;have A:=B.below i.D;cases c2
 case true=>
  rw[lJ rfl]at a;injection a with a;subst a;go_wp2
  go_ret2;exact⟨_,rfl,⟨gs,A⟩,b.trans<|i.D.mono (Qr d)⟩
 case false=>
 rw[Xy ay]at a;cases D:(c1==0)
 case true=>
  rw[D,lJ rfl]at a;injection a with a;subst a;go_wp2
  go_ret2;exact⟨_,rfl,⟨gs,A⟩,b.trans<|i.D.mono (Qr d)⟩
 case false=>
 rw[D,Xy ay]at a;obtain⟨⟨p1,p2⟩,hp,a⟩:=wX.1 a;have a0:=(vjb<|(i.D.block w.heap.size d).trans s).2.2.2.2.2.1;go_wp21;refine(xzb x.r.S 0 _ ps (v xa S.length xc) R i J K g.S G _ hp).mono ?_;rintro e w5 ⟨rfl,l⟩;obtain⟨⟨_,_,_,_,_,_,_,_,y8,y9⟩,_⟩:=kju l.e;cases p2
 case true=>
  simp at a;subst a;go_wp2;go_ret2;exact⟨_,rfl,⟨gs,(B.below l.D)⟩,b.trans<|l.D.mono (Qr d)⟩
 case false=>
  simp at a;subst a;go_upto_region 10 with fail
  go_region_held3 (λw'=>w'.cell? ⟨q.heap.size,8,none⟩=some (.slice xa S.length xc)) (exact y8) (fail)
  go_wp2;go_ret2;exact⟨_,rfl,⟨C,(l.st.mono<|jR).below bR.drew⟩,b.trans<|(l.D.drew).mono (Qr d)⟩
section
def stI(t:PTree)(k:Tok):Int:=zx (ug t) k.x.toList
def ofB(v:PVar):Bool:=v.k.t.toList==mX
def jxc(way:List (List Int))(k x:Int):Option Int:=if k<0\/x<0 then none else (way[k.toNat]?).bind λo=>o[x.toNat]?
def tvR(t:PTree)(v:PVar)(way:List (List Int))(x:Int):Option Int:=if ofB v&&decide (0<=stI t v.k)&&decide (0<=x) then jxc way (stI t v.k) x else some x
def tpR(t:PTree)(v:PVar)(way:List (List Int))(k:Nat):Option Int:=if kwv v then jxc way (stI t v.g) k else some k
def qzn(t:PTree)(v:PVar)(way:List (List Int))(y:List Int):Nat->Option (List Int)
 |0=>some y
 |k+1=>(qzn t v way y k).bind λo=>(y[k]?).bind λx=>(tvR t v way x).bind λz=>(tpR t v way k).bind λp=>if 0<=p/\p<o.length then some (o.set p.toNat z) else none
def qjs(t:PTree)(S:List (List Int))(way:List (List Int)):Nat->Option (List (List Int))
 |0=>some S
 |i+1=>(qjs t S way i).bind λo=>(t.z[i]?).bind λv=>(S[i]?).bind λy=>(qzn t v way y y.length).map λr=>o.set i r
section
variable {t:PTree} {v:PVar} {way:List (List Int)} {S:List (List Int)}
theorem vqn:∀{n:Nat}{r:List Int},qzn t v way y n=some r->k<=n->∃s,qzn t v way y k=some s
 |0,r,h,hk=>by
  simp_all
 |n+1,r,h,hk=>by
  by_cases e:k=n+1
  ·simp_all
  ·rw[qzn]at h;obtain⟨s,a,_⟩:=wu.1 h;exact vqn a aj
theorem zya{b7:List Int}(h:qzn t v way y (n+1)=some b7):∃o x z p,qzn t v way y n=some o/\y[n]?=some x/\tvR t v way x=some z/\tpR t v way n=some p/\0<=p/\p<o.length/\b7=o.set p.toNat z:=by rw[qzn]at h;obtain⟨o,h1,h⟩:=wu.1 h;obtain⟨x,a,h⟩:=wu.1 h;obtain⟨z,b,h⟩:=wu.1 h;obtain⟨p,c,h⟩:=wu.1 h;simp_all
theorem zk8:∀{n:Nat}{r:List Int},qzn t v way y n=some r->r.length=y.length
 |0,r,h=>by rw[qzn]at h;simp_all
 |n+1,r,h=>by obtain⟨o,x,z,p,h1,_,_,_,_,_,rfl⟩:=zya h;rw[Jq,zk8 h1]
theorem vqs:∀{n:Nat} {r:List (List Int)},qjs t S way n=some r->k<=n->∃s,qjs t S way k=some s
 |0,r,h,hk=>by
  simp_all
 |n+1,r,h,hk=>by
  by_cases e:k=n+1
  ·simp_all
  ·rw[qjs]at h;obtain⟨s,a,_⟩:=wu.1 h;exact vqs a aj
theorem zye(h:qjs t S way (n+1)=some ls):∃o v y q,qjs t S way n=some o/\t.z[n]?=some v/\S[n]?=some y/\qzn t v way y y.length=some q/\ls=o.set n q:=by rw[qjs]at h;obtain⟨o,h1,h⟩:=wu.1 h;obtain⟨v,a,h⟩:=wu.1 h;obtain⟨y,b,h⟩:=wu.1 h;obtain⟨q,c,h⟩:=wX.1 h;simp_all
theorem zyi:∀{n:Nat} {r:List (List Int)},qjs t S way n=some r->r.length=S.length/\(∀k,n<=k->r[k]?=S[k]?)/\∀l∈r,∃l'∈S,l.length=l'.length
 |0,r,h=>by grind [qjs]
 |n+1,r,h=>by obtain⟨o,v,y,q,h1,_,a,b,rfl⟩:=zye h;obtain⟨i1,i2,i3⟩:=zyi h1;grind [zk8]
end
end
theorem OwnRows.way(h:OwnRows B w vv S)(D:S[k]?=some y)(hi:y[i]?=some e8):∃b cO g c,vv=.slice (some ⟨b,0,none⟩) S.length cO/\b<w.heap.size/\w.cell? ⟨b,k,none⟩=some (.slice (some ⟨g,0,none⟩) y.length c)/\g<w.heap.size/\w.cell? ⟨g,i,none⟩=some (.int .i64 e8)/\k<S.length/\i<y.length:=by obtain⟨la,ll,lc,cs,rfl,h1,H,z⟩:=h;obtain⟨f,rfl⟩:=rY.1 D;obtain⟨d,rfl⟩:=rY.1 hi;obtain⟨a,n,c,e,E⟩:=z k f;obtain⟨K,L,x,G⟩:=qp h1;injection x with p q s;subst p;subst q;subst s;obtain⟨b,rfl,_,u,A⟩:=G k f;obtain⟨I,J,v,F⟩:=qp E;injection v with j l m;subst j;subst l;subst m;obtain⟨g,rfl,_,C,t⟩:=F i d;refine⟨b,_,g,_,rfl,u,(A k aj).trans e,C,?_,f,d⟩;rw[t i aj,QV,wW d];rfl
theorem vza(h:kqc w T t)(ht:TreeOk t)(aE:StA lo w xv S gs)(hS:ky4 S)(hw:OwnRows 0 w vv ls)(aF:ls.length<=100/\∀o∈ls,o.length<=100){g6:List (List Int)}(hr:qjs t S ls S.length=some g6):Calls prog 193 #[.pointer (some ⟨T,0,none⟩),xv,vv] w λe w'=>∃x' gs',e=.returned x'/\StA w.heap.size w' x' g6 gs'/\oq w w':=by
 obtain⟨za,zc,rfl,_⟩:=qp aE.out;obtain⟨HT,J,HR⟩:=jp h aE hr;have b2:=hS.1;have a3:=oz hS.2;have cG:=ht.z;obtain⟨HW,a7⟩:=ju hw aF.2;obtain⟨_,_,_,_,rfl,b9,_⟩:=hw;obtain⟨wa,wc,ew,_⟩:=qp b9;injection ew with m R e3;subst m;subst R;subst e3;clear hr aF;go_in
 go_wp21;refine(zja J a3 b2).mono ?_;rintro e w1 ⟨x1,d,rfl,a0,b5⟩;obtain⟨oa,oc,rfl,_⟩:=qp a0.out;go_wp21;go_loopw [8,9,10,11,12,13,14] (λi _ _ _ _ _ _ wr=>∃(k:Nat) (o:List (List Int)),k<=S.length/\i=.int .i64 k/\qjs t S ls k=some o/\StA w.heap.size wr (.slice oa S.length oc) o d/\oq w wr) (λi _ _ _ _ _ _ _=>S.length-(intOf i).toNat);exact⟨0,S,jR,rfl,rfl,a0,b5⟩;obtain⟨B,rfl⟩:=cpy wr;obtain⟨k,o,hk,rfl,E,HO,O⟩:=hrel;have b8:=O.size;by_cases A:k<S.length
 case neg=>
  have aA:k=S.length:=aj;have e:=ku HR;rw[<-aA,E]at e;injection e with e;subst e;clear E aA;go_wp2
  go_ret;exact⟨_,_,rfl,HO,O⟩
 case pos=>
 obtain⟨o2,Y⟩:=vqs HR (by omega:k+1<=S.length);obtain⟨o',V,y,q,m,hV,hy,(HQ:Hid _),R⟩:=zye Y;rw[E]at m;injection m with m;subst m;subst R;obtain⟨b3,a8⟩:=rY.1 hV;have a1:=(ku a3) y<|wB hy;obtain⟨H,bA,_⟩:=zyi E;have a2:Hid (o[k]?=some y):=(bA k<|jH).trans hy;obtain⟨HY,aP⟩:=ju hy Y;have a5:=HT.below O;have bH:=J.below O;obtain⟨gt,ct,bT,cA,tq,tv⟩:=a5.var b3;rw[a8]at tv;obtain⟨t0,t1,t2,t3,t4,t5,t6,t7,t8,t9,bC,bD⟩:=tv;obtain⟨W,U⟩:=cpy<|B.alloc (.cells #[.string V.y.t,.string V.y.x,.int .i64 V.y.v,.string V.g.t,.string V.g.x,.int .i64 V.g.v,.string V.k.t,.string V.k.x,.int .i64 V.k.v,.string V.R.t,.string V.R.x,.int .i64 V.R.v] 222);have K:oq B W:=by rw[U];exact jZ B
 have cF:B.heap.size<W.heap.size:=by rw[U];simp
 have a4:=a5.below K;obtain⟨aT,a6⟩:=ju U.symm (by rw[U];exact qy (w:=B):W.heap[B.heap.size]?=some (.cells #[.string V.y.t,.string V.y.x,.int .i64 V.y.v,.string V.g.t,.string V.g.x,.int .i64 V.g.v,.string V.k.t,.string V.k.x,.int .i64 V.k.v,.string V.R.t,.string V.R.x,.int .i64 V.R.v] 222 (0,0)));clear E hV a8 hy Y U;go_wp21;rw[ku aT];clear t0 t1 t2 t3 t4 t5 t6 t7 t8 t9 bC bD tq;refine(set_any V.k.x a4 ht.j).mono ?_;rintro e W ⟨rfl,rfl⟩;obtain⟨d0,d1,d2,d3,d4,d5,d6,d7,d8,d9,d10,d11,_⟩:=qwy a6;go_wp21;refine(set_any V.g.x a4 ht.j).mono ?_;rintro e W ⟨rfl,rfl⟩;clear d0 d1 d2 d3 d4 d5 d6 d7 d8 d9 d10 d11;have L:k<d.length:=by rw[(ku HO).T,H];exact A
 have bY:d[k].1<B.heap.size:=by obtain⟨g,c,e,_,h2⟩:=qkw (HO.rows k (by rw[H];exact A) L) (by rw[show o[k]=y by have:=ku a2;rw[wW (by rw[H];exact A)]at this;injection this];exact a1.1);unfold rwV at e;injection e with e;injection e with e;rw[Addr.mk.injEq]at e;rw[e.1];exact h2
 have aL:=oz (show o.set k y=o from by obtain⟨h1,h2⟩:=rY.1 a2;rw[<-h2];exact List.set_getElem_self h1)
 have aQ:=HO.below K;have aJ:=oz<|O.trans (K.mono b8);clear K;generalize b7:zx (ug t) V.k.x.toList=si at *;generalize b6:zx (ug t) V.g.x.toList=oi at *;go_wp21
 go_loopw [12,13,14] (λq _ _ I=>∃(j:Nat)(p:List Int),j<=y.length/\q=.int .i64 j/\qzn t V ls y j=some p/\StA w.heap.size I (.slice oa S.length oc) (o.set k p) d/\oq w I/\I.heap[B.heap.size]?=some (.cells #[.string V.y.t,.string V.y.x,.int .i64 V.y.v,.string V.g.t,.string V.g.x,.int .i64 V.g.v,.string V.k.t,.string V.k.x,.int .i64 V.k.v,.string V.R.t,.string V.R.x,.int .i64 V.R.v] 222 (0,0))) (λq _ _ _=>y.length-(intOf q).toNat);exact⟨0,y,jR,rfl,rfl,by rw[ku aL];exact aQ,aJ,a6⟩;obtain⟨I,rfl⟩:=cpy wr;obtain⟨j,p,hj,rfl,F,b,u,G⟩:=hrel;obtain⟨aK,aS,bI⟩:=jp u b G;obtain⟨gO,cO,gr,cg,eS,bW,k1,bZ,k0,_,_,X,D⟩:=(J.below u).get HY<|wW a1.1;clear D X k0;injection eS with C aU aV;subst C;clear aU aV;by_cases cC:j<y.length
 case neg=>
  have a9:j=y.length:=aj;have e:=ku HQ;rw[<-a9,F]at e;injection e with e;subst e;clear u b F G a9;go_wp2
  exact rdM ⟨k+1,_,aj,eu,aP,aS,aK⟩
 case pos=>
 obtain⟨p2,Z⟩:=vqn HQ (by omega:j+1<=y.length);have aR:=oz Z;obtain⟨p',x,z,at_,m,hx,a,l,b4,bU,R⟩:=zya Z;rw[F]at m;injection m with m;subst m;subst R;obtain⟨an,rfl⟩:=sG b4;obtain⟨bO,bJ,bQ,bL,eS,_,f,bF,cH,_,_,X,D⟩:=(J.below u).get HY hx;clear D X;injection eS with C _ _;injection C with C;rw[Addr.mk.injEq]at C;obtain⟨rfl,_⟩:=C;rw[k1]at f;injection f with f;injection f with f _ aI;injection f with f;rw[Addr.mk.injEq]at f;obtain⟨rfl,_⟩:=f;subst aI;have M:(o.set k p)[k]?=some p:=Zk (by rw[H];exact A);obtain⟨gU,cU,gu,cu,eU,bX,u1,cB,u2,_,_,_,D⟩:=b.get M (wW (by omega:an<p.length));injection eU with aW aX aY;subst aW;subst D;clear aX aY;have bV:=b.frz (k:=k) (i:=an) (by rw[Jq,H];exact A) L;have cE:p.length<=1000:=by rw[zk8 F];exact a1.2
 have aO:=oz (show StA w.heap.size (I.setCell ⟨d[k].1,an,none⟩<|.int .i64 z) (.slice (some ⟨gU,0,none⟩) S.length oc) (o.set k<|p.set an z) d from by have:=b.set (i:=an) M L z;rw[List.set_set]at this;exact this)
 have aM:=oz (show oq w (I.setCell ⟨d[k].1,an,none⟩<|.int .i64 z) from u.setCell (b.ge (k:=k) (by rw[Jq,H];exact A) L (by have:=wW (by rw[Jq,H];exact A:k<(o.set k p).length);rw[M]at this;injection this with this;rw[<-this];omega)) _);have aN:=oz (show(I.setCell ⟨d[k].1,an,none⟩<|.int .i64 z).heap[B.heap.size]?=_ from by rw[jz (show B.heap.size≠d[k].1 by omega),G])
 obtain⟨_,_,_,d3,_,_,d6,_⟩:=qwy G;have P:=oz<|HW.below u;unfold tvR stI ofB at a;unfold tpR stI kwv at l;rw[b7]at a;rw[b6]at l;have aH:∀(q c v:Int),jxc ls q c=some v->∃(i n:Nat),q=i/\c=n/\∃N,ls[i]?=some N/\N[n]?=some v:=λq c v e=>by
  unfold jxc at e;split at e
  ·cases e
  ·rename_i hc;obtain⟨N,o1,o2⟩:=wu.1 e;exact⟨q.toNat,c.toNat,aj,aj,N,o1,o2⟩
 have Q:=oz aH;clear aH u b F G Z M hx;cases aB:(V.k.t.toList==mX);case' false=>
  rw[aB,QJ,QJ,Xy ay]at a;injection a with a;subst a
 case' true=>
  rw[aB,QZ]at a;by_cases aD:0<=si
  case' neg=>
   rw[decide_eq_false aD,QJ,Xy ay]at a;injection a with a;subst a
  case' pos=>
   rw[Qz aD,QZ]at a;by_cases aG:0<=x
   case' neg=>
    rw[decide_eq_false aG,Xy ay]at a;injection a with a;subst a
   case' pos=>
    rw[Qz aG,lJ rfl]at a;obtain⟨cJ,xn,rfl,rfl,N,w1,w2⟩:=ku Q _ _ _ a;obtain⟨gW,cW,gw,cw,eW,_,r1,_,r2,r3,r4⟩:=P.way w1 w2;injection eW with eW _ aZ;subst eW;subst aZ;have cD:=ku a7 N<|wB w1;clear a w1 w2
 all_goals
  cases aC:(V.g.t.toList==mX);case' false=>
   rw[aC,Xy ay]at l;injection l with l;obtain rfl:j=an:=aj
  case' true=>
   rw[aC,lJ rfl]at l;obtain⟨cI,jn,rfl,ej,bB,v1,v2⟩:=ku Q _ _ _ l;obtain rfl:j=jn:=aj;clear ej;obtain⟨bP,bK,bS,bM,s,_,s1,_,s2,s3,s4⟩:=P.way v1 v2;injection s with s _ bN;first|(subst s)|(injection s with s;rw[Addr.mk.injEq]at s;obtain⟨rfl,_⟩:=s)
   have bG:=ku a7 bB<|wB v1;clear l v1 v2
  all_goals
   clear P Q;go_wp2;exact rdM ⟨j+1,_,aj,eu,aR,aO,aM,aN⟩
def zk1(t:PTree)(v:PVar)(x:Int):Option ByteArray:=
 if 0<=zx (uy t) v.k.x.toList then (if x<0 then none else (t.p[(zx (uy t) v.k.x.toList).toNat]?).bind λK=>(K.i[x.toNat]?).map λm=>m.x)
 else if kx3 (kj2 t v)&&decide (x<0) then some ⟨#[45]⟩ else if 0<=x/\x<=9 then some (kvh x.toNat) else none
theorem kqc.mem(h:kqc w T t){g7:PKind}{g8:Tok}(y:t.p[k]?=some g7)(z:g7.i[j]?=some g8):∃g cap b f,T<w.heap.size/\g<w.heap.size/\b<w.heap.size/\w.cell? ⟨T,1,none⟩=some (.slice (some ⟨g,0,none⟩) t.p.length cap)/\w.cell? ⟨g,k*4+3,none⟩=some (.slice (some ⟨b,0,none⟩) g7.i.length f)/\w.cell? ⟨b,j*3+1,none⟩=some (.string g8.x)/\k<t.p.length/\j<g7.i.length:=by obtain⟨c,rfl⟩:=rY.1 y;obtain⟨d,rfl⟩:=rY.1 z;obtain⟨x0,x1,x2,x3,x4,y1,y3,y4,i,_,⟨A,p⟩,_⟩:=h;obtain⟨D,B,E,F,G,_⟩:=kzk i;obtain⟨a,cap,rfl,e⟩:=qp A;obtain⟨g,rfl,_,x,v⟩:=e k c;obtain⟨H,_,_,_,u,q⟩:=qz8 k c p;obtain⟨C,f,rfl,s⟩:=qp q;obtain⟨b,rfl,_,m,l⟩:=s j d;exact⟨g,cap,b,f,wQ i,x,m,B,(v _ aj).trans u,(l _ aj).trans<|qw9 j d,c,d⟩
theorem vwg(h:kqc w T t)(k:TreeOk t)(hv:h8.k.x.size<=800)(a:zk1 t h8 e8=some b4):Calls prog 183 #[.pointer (some ⟨T,0,none⟩),pjf h8,.int .i64 e8] w λe w'=>e=.returned (.string b4)/\oq w w':=by
 have v:=qj5 t h8 hv;have c:=λ(wx:World)(f:oq w wx)=>zkl h8.k.x (h.below f) k.p
 unfold zk1 at a;generalize u:zx (uy t) h8.k.x.toList=q at a c;unfold pjf kj7 ji at *;go_in;go_wp21;refine(c _<|jZ _).mono ?_;rintro e D ⟨rfl,rfl⟩;go_wp21;refine((λ(wx:World)(f:oq w wx)=>qv8 h8 (h.below f) k.p hv) _<|jZ _).mono ?_;rintro e s ⟨rfl,j⟩;have i:=(jZ w).trans<|j.mono ay;go_wp21
 refine(qjg _ aj).mono ?_;rintro e s ⟨rfl,rfl⟩;generalize kx3 (kj2 t h8)=bs at *;by_cases d:0<=q
 ·rw[lJ d]at a;by_cases b:e8<0
  ·simp_all
  rw[Xy b]at a;obtain⟨K,l,a⟩:=wu.1 a;obtain⟨m,p,rfl⟩:=wX.1 a;obtain⟨g,cap,C,y,z,A,B,k1,k2,k3,k4,k5⟩:=(h.below i).mem l p;go_wp2;go_ret;simp_all
 ·rw[Xy d]at a;by_cases b:e8<0
  ·cases bs
   ·grind
   ·rw[Qz b,QZ,lJ rfl]at a;injection a with a;subst a;go_wp2
    go_ret;simp_all
  ·rw[decide_eq_false b,Jr,Xy ay]at a;by_cases x:e8<=9
   ·rw[lJ aj]at a;injection a with a;subst a;obtain⟨xn,rfl⟩:=sG (by omega:0<=e8);cases bs;all_goals
     go_wp21;refine(qzq xn aj _).mono ?_;rintro e w3 ⟨rfl,rfl⟩;go_wp2;go_ret;simp_all
   simp_all
def rowP(t:PTree)(v:PVar)(l:List Int):Nat->Option ByteArray
 |0=>some ⟨#[]⟩
 |k+1=>(rowP t v l k).bind λs=>(l[k]?).bind λx=>(zk1 t v x).bind λy=>if s.size<=100000/\y.size<=100000 then some ((if 0<k then s++⟨#[32]⟩ else s)++y) else none
def zj9(t:PTree)(S:List (List Int)):Nat->Option ByteArray
 |0=>some ⟨#[]⟩
 |k+1=>(zj9 t S k).bind λs=>(t.z[k]?).bind λv=>(S[k]?).bind λl=>(rowP t v l l.length).bind λr=>if s.size<=1000000/\r.size<=1000000 then some ((if 0<k then s++⟨#[32]⟩ else s)++(if kwv v then (⟨#[91]⟩++r)++⟨#[93]⟩ else r)) else none
theorem pq7:∀{n:Nat}{r:ByteArray},rowP t h8 y n=some r->k<=n->∃s,rowP t h8 y k=some s
 |0,r,h,hk=>by
  obtain rfl:k=0:=aj;exact⟨r,h⟩
 |n+1,r,h,hk=>by
  by_cases e:k=n+1
  ·subst e;exact⟨r,h⟩
  ·rw[rowP]at h;obtain⟨s,a,_⟩:=wu.1 h;exact pq7 a aj
theorem vys:∀{n:Nat}{r:ByteArray},zj9 t S n=some r->k<=n->∃s,zj9 t S k=some s
 |0,r,h,hk=>by
  obtain rfl:k=0:=aj;exact⟨r,h⟩
 |n+1,r,h,hk=>by
  by_cases e:k=n+1
  ·subst e;exact⟨r,h⟩
  ·rw[zj9]at h;obtain⟨s,a,_⟩:=wu.1 h;exact vys a aj
theorem vx7{i7:Prop}[Decidable i7]{i8:ByteArray}(h:(if i7 then some b4 else none)=some i8):i7/\b4=i8:=by
 split at h
 ·rename_i a;injection h with h;exact⟨a,h⟩
 ·cases h
theorem zq2(h:kqc w T t)(ht:TreeOk t)(hf:TreeFit t)(a4:StA lo w xv S gs)(hS:ky4 S)(hr:zj9 t S S.length=some b4):Calls prog 126 #[.pointer (some ⟨T,0,none⟩),xv] w λe w'=>e=.returned (.string b4)/\oq w w':=by
 obtain⟨za,zc,rfl,_⟩:=qp a4.out;obtain⟨HT,aC,HR⟩:=jp h a4 hr;have aU:=hS.1;have aA:=oz hS.2;clear hr;go_in;go_wp21;go_loopw [5,6,7,8,9] (λo i _ _ _ wr=>∃(k:Nat)(s:ByteArray),k<=S.length/\i=.int .i64 k/\o=.string s/\zj9 t S k=some s/\oq w wr) (λ_ i _ _ _ _=>S.length-(intOf i).toNat);exact⟨0,⟨#[]⟩,jR,rfl,rfl,rfl,bR⟩;obtain⟨v,rfl⟩:=cpy wr;obtain⟨k,s,hk,rfl,rfl,B,D⟩:=hrel;by_cases aX:k<S.length
 case neg=>
  have a1:k=S.length:=aj;have e:=ku HR;rw[<-a1,B]at e;injection e with e;subst e;clear B a1;go_wp2
  go_ret;exact⟨rfl,D⟩
 case pos=>
 obtain⟨s',b⟩:=vys HR (by omega:k+1<=S.length);have aB:=oz b;rw[zj9,B]at b;simp only[rQ]at b;obtain⟨V,hV,b⟩:=wu.1 b;obtain⟨y,Q,b⟩:=wu.1 b;obtain⟨aM,(H:Hid _),b⟩:=wu.1 b;obtain⟨⟨aP,aQ⟩,b⟩:=vx7 b;obtain⟨L,x⟩:=rY.1 hV;have aI:V.k.x.size<=800:=by rw[<-x];exact(hf.z _<|wZ L).1
 have aJ:=(ku aA) y<|wB Q;obtain⟨HY,aE,l⟩:=jp Q x b;have I:=HT.below D;have U:=aC.below D;obtain⟨P,cO,gr,cg,eS,aG,k1,aV,_,_,_,N,M⟩:=U.get Q<|wW aJ.1;clear M N;injection eS with g J K;subst g;clear J K;have aR:=oz (show ∀wx,oq v wx->∃gt C,wx.cell? ⟨T,2,none⟩=some (.slice (some ⟨gt,0,none⟩) t.z.length C)/\xqf wx gt k V from λwx a=>by obtain⟨gt,C,_,_,q,e⟩:=(I.below a).var L;rw[x]at e;exact⟨gt,C,q,e⟩)
 have aD:=oz (λ(wx:World)(a:oq v wx)(z:Int)(q:ByteArray)(hq:zk1 t V z=some q)=>vwg (I.below a) ht aI hq);have a7:=Below.refl v.heap.size v;clear B b hV x Q;by_cases a0:0<k
 case' pos=>rw[lJ a0]at l
 case' neg=>rw[Xy a0]at l
 all_goals
  go_wp21;go_loopw [7,8,9] (λo i _ u=>∃(j:Nat)(q:ByteArray),j<=y.length/\i=.int .i64 j/\o=.string q/\rowP t V y j=some q/\oq v u) (λ_ i _ _=>y.length-(intOf i).toNat);exact⟨0,⟨#[]⟩,jR,rfl,rfl,rfl,a7⟩;obtain⟨u,rfl⟩:=cpy wr;obtain⟨j,q,hj,rfl,rfl,A,f⟩:=hrel;have a3:=f.size;have o1:=(f.cell (p:=⟨P,k,none⟩) aG).trans k1;obtain⟨gt,C,aF,c,tq,tv⟩:=(I.below f).var L;rw[ku aE]at tv;obtain⟨t0,t1,t2,t3,t4,t5,t6,t7,t8,t9,aN,aO⟩:=tv;by_cases aW:j<y.length
  case pos=>
   obtain⟨q',d⟩:=pq7 H (by omega:j+1<=y.length);have a9:=oz d;rw[rowP,A]at d;simp only[rQ]at d;obtain⟨z,hz,d⟩:=wu.1 d;obtain⟨vl,O,d⟩:=wu.1 d;obtain⟨⟨aY,aZ⟩,d⟩:=vx7 d;obtain⟨aT,aS,m,W,eS,a5,aK,a6,aL,_,_,N,M⟩:=(U.below f).get HY hz;clear M N;injection eS with g J K;injection g with g;rw[Addr.mk.injEq]at g;obtain⟨rfl,_⟩:=g;obtain⟨F,a8,G⟩:=jp (λ(wx:World)(a:oq u wx)=>show wx.cell? ⟨T,2,none⟩=some (.slice (some ⟨gt,0,none⟩) t.z.length C)/\wx.cell? ⟨gt,k*12,none⟩=some (.string V.y.t)/\wx.cell? ⟨gt,k*12+1,none⟩=some (.string V.y.x)/\wx.cell? ⟨gt,k*12+2,none⟩=some (.int .i64 V.y.v)/\wx.cell? ⟨gt,k*12+3,none⟩=some (.string V.g.t)/\wx.cell? ⟨gt,k*12+4,none⟩=some (.string V.g.x)/\wx.cell? ⟨gt,k*12+5,none⟩=some (.int .i64 V.g.v)/\wx.cell? ⟨gt,k*12+6,none⟩=some (.string V.k.t)/\wx.cell? ⟨gt,k*12+7,none⟩=some (.string V.k.x)/\wx.cell? ⟨gt,k*12+8,none⟩=some (.int .i64 V.k.v)/\wx.cell? ⟨gt,k*12+9,none⟩=some (.string V.R.t)/\wx.cell? ⟨gt,k*12+10,none⟩=some (.string V.R.x)/\wx.cell? ⟨gt,k*12+11,none⟩=some (.int .i64 V.R.v)/\wx.cell? ⟨P,k,none⟩=some (.slice (some ⟨m,0,none⟩) y.length W)/\wx.cell? ⟨m,j,none⟩=some (.int .i64 z) from⟨(a.cell (p:=⟨T,2,none⟩) aF).trans tq,(a.cell (p:=⟨gt,k*12,none⟩) c).trans t0,(a.cell (p:=⟨gt,k*12+1,none⟩) c).trans t1,(a.cell (p:=⟨gt,k*12+2,none⟩) c).trans t2,(a.cell (p:=⟨gt,k*12+3,none⟩) c).trans t3,(a.cell (p:=⟨gt,k*12+4,none⟩) c).trans t4,(a.cell (p:=⟨gt,k*12+5,none⟩) c).trans t5,(a.cell (p:=⟨gt,k*12+6,none⟩) c).trans t6,(a.cell (p:=⟨gt,k*12+7,none⟩) c).trans t7,(a.cell (p:=⟨gt,k*12+8,none⟩) c).trans t8,(a.cell (p:=⟨gt,k*12+9,none⟩) c).trans t9,(a.cell (p:=⟨gt,k*12+10,none⟩) c).trans aN,(a.cell (p:=⟨gt,k*12+11,none⟩) c).trans aO,(a.cell (p:=⟨P,k,none⟩) a5).trans aK,(a.cell (p:=⟨m,j,none⟩) a6).trans aL⟩) (λ(wx:World)(a:oq u wx)=>aD wx (f.trans<|a.mono a3) z vl O) d;clear A hz O d o1 J K;by_cases Y:0<j
   case' pos=>rw[lJ Y]at G
   case' neg=>rw[Xy Y]at G
   all_goals
    go_upto_region 13 with fail
    go_region_held3 (λw'=>w'.cell? ⟨T,2,none⟩=some (.slice (some ⟨gt,0,none⟩) t.z.length C)/\w'.cell? ⟨gt,k*12,none⟩=some (.string V.y.t)/\w'.cell? ⟨gt,k*12+1,none⟩=some (.string V.y.x)/\w'.cell? ⟨gt,k*12+2,none⟩=some (.int .i64 V.y.v)/\w'.cell? ⟨gt,k*12+3,none⟩=some (.string V.g.t)/\w'.cell? ⟨gt,k*12+4,none⟩=some (.string V.g.x)/\w'.cell? ⟨gt,k*12+5,none⟩=some (.int .i64 V.g.v)/\w'.cell? ⟨gt,k*12+6,none⟩=some (.string V.k.t)/\w'.cell? ⟨gt,k*12+7,none⟩=some (.string V.k.x)/\w'.cell? ⟨gt,k*12+8,none⟩=some (.int .i64 V.k.v)/\w'.cell? ⟨gt,k*12+9,none⟩=some (.string V.R.t)/\w'.cell? ⟨gt,k*12+10,none⟩=some (.string V.R.x)/\w'.cell? ⟨gt,k*12+11,none⟩=some (.int .i64 V.R.v)/\w'.cell? ⟨P,k,none⟩=some (.slice (some ⟨m,0,none⟩) y.length W)/\w'.cell? ⟨m,j,none⟩=some (.int .i64 z)) (first|exact F _ bR|exact F _ bR.drew|exact F _ R)
     (first|(go_at_call 183;refine(a8 _ bR.drew).mono ?_;rintro e wz ⟨rfl,X⟩;have R:=oz<|(Below.refl u.heap.size u).drew.trans X;clear X;dsimp only))
    have E:=oz<|f.trans (R.mono a3);go_wp2
    exact rdM ⟨j+1,q',aj,eu,by rw[<-ku G],a9,E⟩
  case neg=>
  have Z:j=y.length:=aj;have aH:q=aM:=by have:=ku H;rw[<-Z,A]at this;injection this
  subst aH;have E:=oz<|D.trans (f.mono D.size);clear A Z;cases ho:(V.g.t.toList==mX);all_goals
   have a2:kwv V=_:=ho;rw[a2]at l;simp only[ru,Xv,Xw]at l;clear a2;go_wp2;exact rdM ⟨k+1,s',aj,eu,by rw[<-ku l],aB,E⟩
section
section
variable {P:Program} {ops:Array Oper} {Q:Exit->Act->World->Prop} {md:Region.Mode} {S:World->Prop} {tl:List Nat}
def kxq(P:Program)(md:Region.Mode)(ops:Array Oper)(Q:Exit->Act->World->Prop)(S:World->Prop)(tl:List Nat):Nat->Array Bool->Act->World->Prop
 |0,listed,a,w=>Region.ready md ops listed=[]/\Q .normal a w
 |fuel+1,listed,a,w=>(Region.ready md ops listed=[]->Q .normal a w)/\∀i∈Region.ready md ops listed,wpOp P ops Q i (λa' w'=>(S w->i∉tl->S w')/\kxq P md ops Q S tl fuel (listed.setIfInBounds i true) a' w') a w
theorem zqb:∀(fuel:Nat)(listed:Array Bool)(a:Act)(w:World),kxq P md ops Q S tl fuel listed a w->wpAny P md ops Q fuel listed a w
 |0,_,_,_,h=>h
 |fuel+1,_,_,_,h=>⟨h.1,λi hi=>wpOp_mono (λa' w' b=>zqb fuel _ a' w' b.2)<|h.2 i hi⟩
def zv8(md:Region.Mode)(ops:Array Oper)(listed:Array Bool)(i:Nat)(D:List Nat):Bool:=
 D.all λd=>!(listed.getD d true)&&(match ops[d]? with|some o=>o.after.any (λe=>Region.binds md e&&(e.on==i||D.contains e.on))|none=>true)
theorem xq8(c:zv8 md ops listed i D=true)(hi:listed.getD i true=false)(f:j∈Region.ready md ops listed):j∉D:=by
 intro g;have h:=sJ.1 c j g;rw[rG]at h;have ⟨h1,o,k,a⟩:=mem_ready.1 f;rw[k]at h;have ⟨e,d,hb⟩:=Array.any_eq_true'.1 h.2;rw[rG,Q8,su,ZB]at hb;have m:=a e d hb.1;obtain b|b:=hb.2
 ·grind
 ·have l:=sJ.1 c _ b;grind
theorem xq7(c:zv8 md ops listed i D=true)(f:j∉D):zv8 md ops (listed.setIfInBounds j true) i D=true:=by
 refine sJ.2 λd a=>?_
 have b:j≠d:=λe=>f<|e▸a
 rw[getD_set_ne true b];exact(sJ.1 c d a)
theorem jw1(hi:ops[i]?=some oi)(C:∀(j:Nat) (o:Oper) cs b,ops[j]?=some o->o.op≠.select cs b)(J:∀c a w,Q (.panic c) (a.put oi.dst vv) w->Q (.panic c) a w)(E:∀t∈tl,t∈D):∀(fuel:Nat)(listed:Array Bool)(a:Act)(w:World),
   (∀j m,ops[j]?=some m->j≠i->listed.getD j true=false->(∀e∈m.after,Region.binds md e=true->e.on≠i)->oi.apart ops m=true) ->
   zv8 md ops listed i D=true->i∈Region.ready md ops listed->YieldsIf P ops S oi vv a->S w ->
   kxq P md ops Q S tl fuel (listed.setIfInBounds i true) (a.put oi.dst vv) w->kxq P md ops Q S tl (fuel+1) listed a w:=by
 intro fuel;induction fuel with
 |zero=>
  intro listed a w _ s y q f H;refine⟨λh=>(by simp_all),λj g=>?_⟩;by_cases d:j=i
  ·subst d;exact q.wpOp hi f ⟨λ_ _=>f,H⟩
  ·have:=ready_mono g d;rw[H.1]at this;simp_all
 |succ fuel ih=>
  intro listed a w l s y q f H;refine⟨λh=>(by simp_all),λj g=>?_⟩;by_cases d:j=i
  ·subst d;exact q.wpOp hi f ⟨λ_ _=>f,H⟩
  ·have h1:=H.2 j<|ready_mono g d;have p:=(mem_ready.1 y).1;have F:=xq8 s p g;have ⟨A,m,I,z⟩:=mem_ready.1 g;have u:∀k ok,ops[k]?=some ok->k≠i->(listed.setIfInBounds j true).getD k true=false ->
     (∀e∈ok.after,Region.binds md e=true->e.on≠i)->oi.apart ops ok=true:=λk ok B v p x=>by
    refine l k ok B v ?_ x;by_cases G:j=k
    ·simp_all
    simp_all
   grind [wpOp_mono,wpOp_putIf,xq7,ready_mono,Array.setIfInBounds_comm]
theorem vq6(hi:ops[i]?=some oi)(j:Region.noSelect ops=true)(g:Region.free md ops listed i=true)(l:(Region.ready md ops listed).contains i=true)(f:zv8 md ops listed i D=true)(b:∀t∈tl,t∈D)(d:∀c a w,Q (.panic c) (a.put oi.dst vv) w->Q (.panic c) a w)(k:YieldsIf P ops S oi vv a)(e:S w)(h:kxq P md ops Q S tl fuel (listed.setIfInBounds i true) (a.put oi.dst vv) w):kxq P md ops Q S tl (fuel+1) listed a w:=
 jw1 hi (Region.noSelect_spec j) d b fuel listed a w (Region.free_spec hi g) f (by simp_all) k e h
theorem jw0(hi:ops[i]?=some oi)(z:∀(j:Nat) (o:Oper) cs b,ops[j]?=some o->o.op≠.select cs b)(C:∀c a w,Q (.panic c) (a.put oi.dst vv) w->Q (.panic c) a w):∀(fuel:Nat)(listed:Array Bool)(a:Act)(w:World),
   (∀j l,ops[j]?=some l->j≠i->listed.getD j true=false->(∀e∈l.after,Region.binds md e=true->e.on≠i)->oi.apart ops l=true) ->
   i∈Region.ready md ops listed->YieldsIf P ops (λ_=>True) oi vv a ->
   kxq P md ops Q S tl fuel (listed.setIfInBounds i true) (a.put oi.dst vv) w->kxq P md ops Q S tl (fuel+1) listed a w:=by
 intro fuel;induction fuel with
 |zero=>
  intro listed a w _ t m H;refine⟨λh=>(by simp_all),λj g=>?_⟩;by_cases d:j=i
  ·subst d;exact m.wpOp hi trivial ⟨λh _=>h,H⟩
  ·have:=ready_mono g d;rw[H.1]at this;simp_all
 |succ fuel ih=>
  intro listed a w f t m H;refine⟨λh=>(by simp_all),λj g=>?_⟩;by_cases d:j=i
  ·subst d;exact m.wpOp hi trivial ⟨λh _=>h,H⟩
  ·have h1:=H.2 j<|ready_mono g d;have u:=(mem_ready.1 t).1;have ⟨x,l,B,v⟩:=mem_ready.1 g;have p:∀k ok,ops[k]?=some ok->k≠i->(listed.setIfInBounds j true).getD k true=false ->
     (∀e∈ok.after,Region.binds md e=true->e.on≠i)->oi.apart ops ok=true:=λk ok y q u s=>by
    refine f k ok y q ?_ s;by_cases A:j=k
    ·simp_all
    simp_all
   grind [wpOp_mono,wpOp_putIf,ready_mono,Array.setIfInBounds_comm]
theorem vq7(hi:ops[i]?=some oi)(e:Region.noSelect ops=true)(d:Region.free md ops listed i=true)(g:(Region.ready md ops listed).contains i=true)(b:∀c a w,Q (.panic c) (a.put oi.dst vv) w->Q (.panic c) a w)(f:YieldsIf P ops (λ_=>True) oi vv a)(h:kxq P md ops Q S tl fuel (listed.setIfInBounds i true) (a.put oi.dst vv) w):kxq P md ops Q S tl (fuel+1) listed a w:=
 jw0 hi (Region.noSelect_spec e) b fuel listed a w (Region.free_spec hi d) (by simp_all) f h
def kwb(P:Program)(md:Region.Mode)(ops:Array Oper)(Q:Exit->Act->World->Prop)(S:World->Prop)(tl:List Nat)(fuel:Nat)(listed:Array Bool)(a:Act)(w:World)(rs:List Nat):Prop:=
 ∀i∈rs,wpOp P ops Q i (λa' w'=>(S w->i∉tl->S w')/\kxq P md ops Q S tl fuel (listed.setIfInBounds i true) a' w') a w
theorem kwb.nil:kwb P md ops Q S tl fuel listed a w []:=λ_ h=>ig
theorem kwb.cons(g:ops[i]?=some oi)(h:∀b:Act->World->Prop,(∀a w,S w->kxq P md ops Q S tl fuel (listed.setIfInBounds i true) a w->b a w)->if Region.wanted oi (yielded ops a.tmps)=true then Oper.wp P oi a w b Q else b (a.put oi.dst undef) w)(k:kwb P md ops Q S tl fuel listed a w D):kwb P md ops Q S tl fuel listed a w (i::D):=λj c=>by
 obtain rfl|c:=tZ.1 c
 ·exact wpOp_step g (λb d=>h b<|λa w e f=>d a w ⟨λ_ _=>e,f⟩)
 ·exact k j c
theorem jvi(c:Region.ready md ops listed=D)(b:D≠[])(h:kwb P md ops Q S tl fuel listed a w D):kxq P md ops Q S tl (fuel+1) listed a w:=⟨λd=>absurd (c▸d) b,c▸h⟩
theorem zvu:∀(fuel:Nat)(listed:Array Bool)(a:Act)(w:World),(∀j,listed.getD j true=false->j∈tl)->wpAny P md ops Q fuel listed a w->kxq P md ops Q S tl fuel listed a w
 |0,_,_,_,_,h=>h
 |fuel+1,listed,a,w,hl,h=>⟨h.1,λi hi=>wpOp_mono (λa' w' b=>⟨λ_ hn=>absurd (hl i (mem_ready.1 hi).1) hn,zvu fuel _ a' w' (λj d=>hl j (by
   by_cases c:i=j
   ·simp_all
   simp_all)) b⟩)<|h.2 i hi⟩
theorem pvw(h:((List.range listed.size).all λj=>listed.getD j true||tl.contains j)=true):∀j,listed.getD j true=false->j∈tl:=λj a=>by grind
theorem bg(b:P.follows .mixedOrders=true)(h:kxq P .any ops Q S tl ops.size (Array.replicate ops.size false) a w.drew):(Code.region lo ops true).wp P Q a w:=
 wp_region_any b (zqb _ _ _ _ h)
end
end
section
section
variable {P:Program} {ops:Array Oper} {Q:Exit->Act->World->Prop} {md:Region.Mode} {S:World->Prop} {tl:List Nat}
def waits(md:Region.Mode)(ops:Array Oper)(i:Nat):List Nat:=
 (List.range ops.size).foldl (λD d=>match ops[d]? with
  |some o=>if o.after.any (λe=>Region.binds md e&&(e.on==i||D.contains e.on)) then D++[d] else D
  |none=>D) []
def jyp(md:Region.Mode)(ops:Array Oper)(listed:Array Bool)(i:Nat):Bool:=Region.noSelect ops&&Region.free md ops listed i&&(Region.ready md ops listed).contains i
def pvk(md:Region.Mode)(ops:Array Oper)(listed:Array Bool)(tl:List Nat)(i:Nat):Bool:=jyp md ops listed i&&zv8 md ops listed i (waits md ops i)&&tl.all (waits md ops i).contains
theorem frS(i:Nat)(h:kxq P md ops Q S tl fuel (listed.setIfInBounds i true) a' w)(hi:ops[i]?=some oi:=by exact rfl)(f:Region.wanted oi (yielded ops a.tmps)=true:=by rfl)(g:∀w,(execOp a.eval oi).run P w=.ok (.value vv) w:=by intro;go_simp;try exact rfl)(e:a.put oi.dst vv=a':=by simp only[Act.put,Qy,QW,QY];try exact rfl)(b:jyp md ops listed i=true:=by kernel_rfl)(d:∀c a w,Q (.panic c) (a.put oi.dst vv) w->Q (.panic c) a w:=by exact λ_ _ _ h=>h):kxq P md ops Q S tl (fuel+1) listed a w:=by simp only[jyp,rG]at b;subst e;exact vq7 hi b.1.1 b.1.2 b.2 d (.inl ⟨f,λw _=>g w⟩) h
theorem tkS(i:Nat)(e:S w)(h:kxq P md ops Q S tl fuel (listed.setIfInBounds i true) a' w)(hi:ops[i]?=some oi:=by exact rfl)(g:Region.wanted oi (yielded ops a.tmps)=true:=by rfl)(j:∀w,S w->(execOp a.eval oi).run P w=.ok (.value vv) w:=by intro _ k;go_simp;try exact rfl)(f:a.put oi.dst vv=a':=by simp only[Act.put,Qy,QW,QY];try exact rfl)(b:pvk md ops listed tl i=true:=by kernel_rfl)(d:∀c a w,Q (.panic c) (a.put oi.dst vv) w->Q (.panic c) a w:=by exact λ_ _ _ h=>h):kxq P md ops Q S tl (fuel+1) listed a w:=by simp only[pvk,jyp,rG]at b;subst f;exact vq6 hi b.1.1.1.1 b.1.1.1.2 b.1.1.2 b.1.2 (λt l=>by simp_all) d (.inl ⟨g,j⟩) e h
theorem onS(i:Nat)(h:∀K':Act->World->Prop,(∀a w,S w->kxq P md ops Q S tl fuel (listed.setIfInBounds i true) a w->K' a w)->if Region.wanted oi (yielded ops a.tmps)=true then Oper.wp P oi a w K' Q else K' (a.put oi.dst undef) w)(hi:ops[i]?=some oi:=by exact rfl)(b:Region.ready md ops listed=[i]:=by kernel_rfl):kxq P md ops Q S tl (fuel+1) listed a w:=
 jvi b ay (kwb.cons hi h kwb.nil)
theorem onA(i:Nat)(h:∀K':Act->World->Prop,(∀a w,wpAny P md ops Q fuel (listed.setIfInBounds i true) a w->K' a w)->if Region.wanted oi (yielded ops a.tmps)=true then Oper.wp P oi a w K' Q else K' (a.put oi.dst undef) w)(hi:ops[i]?=some oi:=by exact rfl)(b:Region.ready md ops listed=[i]:=by kernel_rfl):wpAny P md ops Q (fuel+1) listed a w:=
 wpAny_ready b ay (AllReady.cons hi h AllReady.nil)
theorem kyj(h:wpAny P md ops Q fuel listed a w)(b:((List.range listed.size).all λj=>listed.getD j true||tl.contains j)=true:=by kernel_rfl):kxq P md ops Q S tl fuel listed a w:=zvu _ _ _ _ (pvw b) h
end
end
abbrev AvS(M H size:Nat)(vv:Value)(a0 a1 a2 a3 a4:Option Addr)(n0 n1 n2 n3 n4 c0 c1 c2 c3 c4:Nat)(v:VrT)(w:World):Prop:=
 w.cell? ⟨M,3,none⟩=some (vv)/\w.cell? ⟨M,5,none⟩=some (.int .i64 size)/\w.cell? ⟨H,0,none⟩=some (.slice a0 n0 c0)/\w.cell? ⟨H,1,none⟩=some (.slice a1 n1 c1)/\w.cell? ⟨H,2,none⟩=some (.slice a2 n2 c2)/\w.cell? ⟨H,3,none⟩=some (.slice a3 n3 c3)/\w.cell? ⟨H,4,none⟩=some (.slice a4 n4 c4)/\w.cell? ⟨H+1,3,none⟩=some (.string v.g.x)/\w.cell? ⟨H+1,4,none⟩=some (.int .i64 v.g.v)/\w.cell? ⟨H+1,5,none⟩=some (.int .i64 v.si.I)/\w.cell? ⟨H+1,6,none⟩=some (.int .i64<|mg v.si.R.x)/\w.cell? ⟨H+1,7,none⟩=some (.int .i64 v.si.R.v)/\w.cell? ⟨H+1,8,none⟩=some (.string v.si.y.x)/\w.cell? ⟨H+1,9,none⟩=some (.int .i64 v.si.y.v)
theorem AvS.below(h:AvS M lo size vv a0 a1 a2 a3 a4 n0 n1 n2 n3 n4 c0 c1 c2 c3 c4 i9 w)(hb:Below B w w')(hM:M<B)(hH:lo+1<B):AvS M lo size vv a0 a1 a2 a3 a4 n0 n1 n2 n3 n4 c0 c1 c2 c3 c4 i9 w':=by obtain⟨e,s1,f,s3,g,i,j,k,l,m,a,b,c,d⟩:=h;exact⟨(hb.cell (p:=⟨M,3,none⟩) ah).trans e,(hb.cell (p:=⟨M,5,none⟩) ah).trans s1,(hb.cell (p:=⟨lo,0,none⟩) ah).trans f,(hb.cell (p:=⟨lo,1,none⟩) ah).trans s3,(hb.cell (p:=⟨lo,2,none⟩) ah).trans g,(hb.cell (p:=⟨lo,3,none⟩) ah).trans i,(hb.cell (p:=⟨lo,4,none⟩) ah).trans j,(hb.cell (p:=⟨lo+1,3,none⟩) ah).trans k,(hb.cell (p:=⟨lo+1,4,none⟩) ah).trans l,(hb.cell (p:=⟨lo+1,5,none⟩) ah).trans m,(hb.cell (p:=⟨lo+1,6,none⟩) ah).trans a,(hb.cell (p:=⟨lo+1,7,none⟩) ah).trans b,(hb.cell (p:=⟨lo+1,8,none⟩) ah).trans c,(hb.cell (p:=⟨lo+1,9,none⟩) ah).trans d⟩
theorem xy5(h:kzd lo so w M nb steps nevers sets vars tab size sv nv tv vv):M<w.heap.size:=wQ h.e
theorem pjw(h:kzd lo so w M nb steps nevers sets vars tab size sv nv tv vv)(hb:oq w w3)(b:(w3.alloc o).grownBy w4 vv.ownBlock):w4.heap[M]?=some (.cells #[sv,nv,tv,vv,.map (some nb),.int .i64 size] 105 (0,0)):=by have a:(w3.alloc o).heap[M]?=some (.cells #[sv,nv,tv,vv,.map<|some nb,.int .i64 size] 105 (0,0)):=zy<|(hb.block M<|wQ h.e).trans h.e;obtain⟨cs,c,_⟩:=h.z;exact(kz4 (x:=none) (bad:=[213]) (qj c<|hb.alloc hb.size o) b ak).e a ay ak
theorem xvc(h:kzd lo so w M nb steps nevers sets vars tab size sv nv tv vv)(m:u.f=size)(d:u.d=B)(y:w.ownsRow lo 213 5 vv vars.length cs)(t:qki 0 w vars cs)(hb:oq w w3)(D:w3.ownsRow 0 9 1 (.slice a0 u.a.length b) u.a.length (u.a.map Value.string))(q:(w3.alloc<|.cells #[.int .i64 size,.int .i64 B,.slice a0 u.a.length b,.int .i64 u.g,.int .i64 u.B] 213).grownBy w4 vv.ownBlock)(s:w4.ownsRow lo 213 5 (.slice (some ⟨gg,0,none⟩) (vars.length+1) gcap) (vars.length+1) (cs++[.int .i64 size,.int .i64 B,.slice a0 u.a.length b,.int .i64 u.g,.int .i64 u.B]))(f:lo<=w.heap.size):(∃vv',kzd lo so ((w4.setCell ⟨M,3,none⟩<|.slice (some ⟨gg,0,none⟩) (vars.length+1) gcap).setCell ⟨M,5,none⟩<|.int .i64 ((size:Int)+B)) M nb steps nevers sets (vars++[u]) tab (size+u.d) sv nv tv vv')/\Tk none [105,213] w ((w4.setCell ⟨M,3,none⟩<|.slice (some ⟨gg,0,none⟩) (vars.length+1) gcap).setCell ⟨M,5,none⟩<|.int .i64 ((size:Int)+B))/\Below lo w ((w4.setCell ⟨M,3,none⟩<|.slice (some ⟨gg,0,none⟩) (vars.length+1) gcap).setCell ⟨M,5,none⟩<|.int .i64 ((size:Int)+B)):=by
 have g:=pjw h hb q;have i:=xxn g<|.slice (some ⟨gg,0,none⟩) (vars.length+1) gcap;have x:=xww i<|.int .i64 ((size:Int)+B);have a:oq w (w3.alloc<|.cells #[.int .i64 size,.int .i64 B,.slice a0 u.a.length b,.int .i64 u.g,.int .i64 u.B] 213):=hb.alloc hb.size _;have j:=qj y a;have k4:Tk none [105,213] (w3.alloc<|.cells #[.int .i64 size,.int .i64 B,.slice a0 u.a.length b,.int .i64 u.g,.int .i64 u.B] 213) w4:=kz4 j q ak;have k5:Tk none [105] w4 ((w4.setCell ⟨M,3,none⟩<|.slice (some ⟨gg,0,none⟩) (vars.length+1) gcap).setCell ⟨M,5,none⟩<|.int .i64 ((size:Int)+B)):=(qqa g ak 3 _).trans<|qqa i ak 5 _;have k:=k4.trans (k5.wide (by decide:∀e∈[105],e∈[105,213]));have K:=(yt a none [105,213]).trans k;have c:=pz.none w;have v:=(D.alloc<|.cells #[.int .i64 size,.int .i64 B,.slice a0 u.a.length b,.int .i64 u.g,.int .i64 u.B] 213);obtain⟨G,⟨c1,h1,E⟩,⟨c2,z,F⟩,A,_,C,l,h7⟩:=h;refine⟨⟨_,⟨by rw[x,d];rfl,⟨c1,jq h1 K c ak,E.tk K c ak ak⟩,⟨c2,jq z K c ak,F.tk K c ak ak⟩,jq A K c ak,⟨cs++[.int .i64 size,.int .i64 B,.slice a0 u.a.length b,.int .i64 u.g,.int .i64 u.B],?_,?_⟩,C.tk K ay,l,h7⟩⟩,K,?_⟩
 ·rw[rD];exact jq s k5 (pz.none _) ak
 ·refine(t.tk K c ak).app ⟨a0,b,[],?_,jq v k (pz.none _) ak,rfl⟩;rw[m,d];rfl
 ·exact((((a.mono f)).grown q (rP f a.size)<|jo j).setCell (p:=⟨M,3,none⟩) l _).setCell (p:=⟨M,5,none⟩) l _
theorem vyz(h:kzd lo so w M nb steps nevers sets vars tab size sv nv tv vv)(L:kwm mo w (.slice a0 n0 c0) (.slice a1 n1 c1) (.slice a2 n2 c2) (.slice a3 n3 c3) (.slice a4 n4 c4) m)(J:MdFit m)(hu:qw4 m.j m.p size i9=some u)(aX:vars.length<=1000)(aW:size<=1000000)(aP:lo<=w.heap.size):Calls prog 57 #[.pointer (some ⟨M,0,none⟩),mdV a0 a1 a2 a3 a4 n0 n1 n2 n3 n4 c0 c1 c2 c3 c4,vrV i9] w λe w'=>e=.returned (.tuple #[])/\(∃vv',kzd lo so w' M nb steps nevers sets (vars++[u]) tab (size+u.d) sv nv tv vv')/\Tk none [105,213] w w'/\Below lo w w':=by
 obtain⟨W,A⟩:=cpy<|(w.alloc<|.cells #[.slice a0 n0 c0,.slice a1 n1 c1,.slice a2 n2 c2,.slice a3 n3 c3,.slice a4 n4 c4] 68).alloc (.cells #[.string i9.y.x,.int .i64 i9.y.v,.bool i9.K,.string i9.g.x,.int .i64 i9.g.v,.int .i64 i9.si.I,.int .i64<|mg i9.si.R.x,.int .i64 i9.si.R.v,.string i9.si.y.x,.int .i64 i9.si.y.v] 121);have y:oq w W:=by rw[A];exact(jZ w).trans ((jZ _).mono ay)
 have aQ:w.heap.size<=W.heap.size:=y.size;have aU:w.heap.size+1<W.heap.size:=by rw[A];simp
 have hD:W.heap[w.heap.size]?=some (.cells #[.slice a0 n0 c0,.slice a1 n1 c1,.slice a2 n2 c2,.slice a3 n3 c3,.slice a4 n4 c4] 68 (0,0)):=by rw[A];exact zy<|qy
 have hN:W.heap[w.heap.size+1]?=some (.cells #[.string i9.y.x,.int .i64 i9.y.v,.bool i9.K,.string i9.g.x,.int .i64 i9.g.v,.int .i64 i9.si.I,.int .i64<|mg i9.si.R.x,.int .i64 i9.si.R.v,.string i9.si.y.x,.int .i64 i9.si.y.v] 121 (0,0)):=by rw[A];have:=qy (w:=w.alloc<|.cells #[.slice a0 n0 c0,.slice a1 n1 c1,.slice a2 n2 c2,.slice a3 n3 c3,.slice a4 n4 c4] 68) (o:=.cells #[.string i9.y.x,.int .i64 i9.y.v,.bool i9.K,.string i9.g.x,.int .i64 i9.g.v,.int .i64 i9.si.I,.int .i64 (mg i9.si.R.x),.int .i64 i9.si.R.v,.string i9.si.y.x,.int .i64 i9.si.y.v] 121);simp only[tV]at this;exact this
 have aM:=xy5 h;have hM:=(y.block M aM).trans h.e;obtain⟨m0,m1,m2,m3,m4,m5,f0,f1,f2,f3,f4,f5⟩:=kzh hM;obtain⟨q0,q1,q2,q3,q4,_⟩:=jl hD;obtain⟨⟨v0,v1,v2,v3,v4,v5,v6,v7,v8,v9⟩,_⟩:=kju hN;have aI:=oz (show AvS M w.heap.size size vv a0 a1 a2 a3 a4 n0 n1 n2 n3 n4 c0 c1 c2 c3 c4 i9 W from⟨m3,m5,q0,q1,q2,q3,q4,v3,v4,v5,v6,v7,v8,v9⟩);obtain⟨cs,R,a8⟩:=h.z;obtain⟨va,vc,e,_⟩:=qp R;unfold qw4 at hu;obtain⟨cnt,b,aB⟩:=wu.1 hu;obtain⟨tx,Q,f⟩:=wX.1 aB;have aE:u.f=size:=by rw[<-f]
 have l:u.d=cnt:=by rw[<-f]
 have P:u.a=tx:=by rw[<-f]
 have aA:u.g=kji m.j i9.g.x.toList:=by rw[<-f]
 have a9:u.B=kji m.j i9.si.y.x.toList:=by rw[<-f]
 rw[<-P]at Q;obtain⟨a5,I,H,t⟩:=jb (λ(wx:World)(hb:oq w wx)=>zyt (L.stay λk _ hk=>hb.block k hk) J Q) (λ(wx:World)(hb:oq w wx)=>qxu i9.g a1 a2 a3 a4 n1 n2 n3 n4 c1 c2 c3 c4 (qj L.o0 hb) J.j) (λ(wx:World)(hb:oq w wx)=>qxu i9.si.y a1 a2 a3 a4 n1 n2 n3 n4 c1 c2 c3 c4 (qj L.o0 hb) J.j) (λ(B:i9.K=true)=>(by rw[B,lJ rfl]at b;exact kkx b:∃k x,kkq m.j i9.g.x.toList=some k/\m.j[k]?=some x/\mg x.size.x=cnt/\cnt<=9));have aO:cnt<=9:=by
  cases B:i9.K
  ·rw[B]at b;injection b with b;omega
  ·obtain⟨_,_,_,_,_,h9⟩:=(ku t) B;exact h9
 have a7:i9.K=false->cnt=1:=λB=>by rw[B]at b;injection b with b;exact b.symm
 have s:=oz (λ(wx:World)(hb:oq w wx)(k:Nat)(x:PSet)(h1:kkq m.j i9.g.x.toList=some k)(h2:m.j[k]?=some x)=>qwx a1 a2 a3 a4 n1 n2 n3 n4 c1 c2 c3 c4 (qj L.o0 hb) J.j h1 h2);rw[<-aA]at I;rw[<-a9]at H;unfold mdV siV at a5;unfold ptV at I H s;have aR:IntKind.i64.wrap ((size:Int)+cnt)=(size:Int)+cnt:=kQ;obtain⟨U,Z,aH,T,a6,aG,aV⟩:=jt h R a8 y A.symm a7 aO;clear hu aB f b Q P aA a9 hM m0 m1 m2 m3 m4 m5 f0 f1 f2 f3 f4 f5 a8 y A hN hD h L J q0 q1 q2 q3 q4 v0 v1 v3 v4 v5 v6 v7 v8 v9 a7 R;subst e;unfold mdV vrV kjs;generalize aS:i9.K=arr at *;cases arr;case' false=>
  have aD:=oz<|aG rfl;clear s t;go_in
  go_upto_region 4 with fail
  rw[ku a6,show(Value.int IntKind.i64 1)=.int .i64 (cnt:Int) by rw[ku aD];rfl];obtain⟨wr,aC,d⟩:∃wr,wr=W/\oq W wr:=⟨W,rfl,bR⟩;rw[<-aC];clear aC
 case' true=>
  obtain⟨sk,sx,e1,e2,e3,e4⟩:=(ku t) rfl;have G:=oz<|s W T sk sx e1 e2;rw[e3]at G;clear e1 e2 e3 s t;go_in
  go_wp21;rw[ku a6];refine G.mono ?_;rintro e wr ⟨rfl,d⟩;clear G;have aF:=oz d;clear d;go_upto_region 4 with fail
  have d:=ku aF
 all_goals
  obtain⟨c,C⟩:=ju (aI.below d.drew aj aj:AvS M w.heap.size size (.slice va vars.length vc) a0 a1 a2 a3 a4 n0 n1 n2 n3 n4 c0 c1 c2 c3 c4 i9 wr.drew) (show oq w wr.drew from(T.trans<|d.mono aQ).drew);have aY:=d.size;clear d;refine bg (S:=AvS M w.heap.size size (.slice va vars.length vc) a0 a1 a2 a3 a4 n0 n1 n2 n3 n4 c0 c1 c2 c3 c4 i9) (tl:=[25,26,27,28]) au ?_;refine frS 0 ?_;refine frS 1 ?_;refine frS 2 ?_;refine frS 3 ?_;refine tkS 4 c ?_;refine frS 5 ?_;refine frS 6 ?_;refine frS 7 ?_;refine tkS 8 c ?_;refine frS 9 ?_;refine tkS 10 c ?_;refine frS 11 ?_;refine tkS 12 c ?_;refine tkS 14 c ?_;refine frS 15 ?_;refine tkS 16 c ?_;refine tkS 18 c ?_;refine frS 19 ?_;refine frS 20 ?_;refine tkS 21 c ?_;refine onS 13 λK a=>?_
  go_simp;go_at_call 98
  refine(a5 wr.drew C).mono ?_;rintro e x1 ⟨b4,rfl,N,v⟩;obtain⟨ta,tc,e,_⟩:=qp N;subst e;have aJ:=oz<|qo jR N;clear N;have aZ:wr.heap.size<=x1.heap.size:=v.size;obtain⟨V,D⟩:=ju (c.below v (by omega:M<wr.heap.size) (by omega:w.heap.size+1<wr.heap.size)) (C.trans (v.mono C.size));clear v;dsimp only;refine a _ _ V ?_;clear a K;try simp only[Act.put,Qy,QW,QY]
  refine onS 17 λK a=>?_
  go_simp;go_at_call 99
  refine(I x1 D).mono ?_;rintro e x2 ⟨rfl,i⟩;have aK:=oz<|qj aJ i;have b2:x1.heap.size<=x2.heap.size:=i.size;obtain⟨X,E⟩:=ju (V.below i (by omega:M<x1.heap.size) (by omega:w.heap.size+1<x1.heap.size)) (D.trans (i.mono D.size));clear i;dsimp only;refine a _ _ X ?_;clear a K;try simp only[Act.put,Qy,QW,QY]
  refine onS 22 λK a=>?_
  go_simp;go_at_call 99
  refine(H x2 E).mono ?_;rintro e x3 ⟨rfl,j⟩;have aL:=oz<|qj aK j;have b3:x2.heap.size<=x3.heap.size:=j.size;obtain⟨Y,q⟩:=ju (X.below j (by omega:M<x2.heap.size) (by omega:w.heap.size+1<x2.heap.size)) (E.trans (j.mono E.size));clear j;dsimp only;refine a _ _ Y ?_;clear a K;try simp only[Act.put,Qy,QW,QY]
  refine frS 23 ?_;refine onS 24 λK a=>?_
  go_simp;refine a _ _ (Y.below (jZ _) aj aj) ?_;clear a K;refine kyj ?_;refine onA 25 λK a=>?_
  refine apL (qj Z<|q.trans ((jZ x3).mono q.size)) (Xk x3 _) ?_;intro gg gcap w4 z g aN aT;refine a _ _ ?_;clear a K;have O:=pjw U q g;obtain⟨m0,m1,m2,m3,m4,m5,f0,f1,f2,f3,f4,f5⟩:=kzh O;obtain⟨p0,p1,p2,p3,p4,p5,g0,g1,g2,g3,g4,g5⟩:=kzh<|xxn O (.slice (some ⟨gg,0,none⟩) (vars.length+1) gcap);have p:=xvc U aE l Z aH q aL g z aP;rw[l]at p;have F:=oz p;clear p;clear O z g aN;refine onA 26 λK a=>?_
  go_simp;refine a _ _ ?_;clear a K;refine onA 27 λK a=>?_
  go_simp;refine a _ _ ?_;clear a K;refine onA 28 λK a=>?_
  go_simp;refine a _ _ ?_;clear a K;refine wpAny_done au ?_ _;go_wp2;go_end0;first
   |exact⟨rfl,F⟩
   |(rw[l];exact⟨rfl,F⟩)
def zxo(w:World)(M:Nat)(pv:Value)(n:ByteArray)(ls:List (List Int))(cs:List Value):Prop:=
 cs.length=ls.length*4/\∀k (hk:k<ls.length),∃ma mn mc,(cs.drop<|k*4).take 4=[.string (kv0 n ls[k]),.pointer (some ⟨M,0,none⟩),pv,.slice ma mn mc]/\w.ownsRow 0 3 1 (.slice ma mn mc) ls[k].length (ls[k].map (Value.int .i64))
theorem zxo.tk{d:Option Nat}(h:zxo w M pv b4 ls cs)(g:Tk d bad w w')(l:pz w d)(f:3∉bad):zxo w' M pv b4 ls cs:=
 ⟨h.1,λk i=>by obtain⟨a,b,c,e,j⟩:=h.2 k i;exact⟨a,b,c,e,jq j g l f⟩⟩
theorem zxo.snoc{l:List Int}(h:zxo w M pv b4 ls cs)(d:w.ownsRow 0 3 1 (.slice ma mn mc) l.length (l.map (Value.int .i64))):zxo w M pv b4 (ls++[l]) (cs++[.string (kv0 b4 l),.pointer (some ⟨M,0,none⟩),pv,.slice ma mn mc]):=by
 refine⟨by simp[h.1];omega,λk c=>?_⟩;by_cases a:k<ls.length
 ·have b:=h.1;rw[Jl aj,Jv (by grind),Qn a];exact h.2 k a
 ·have:k=ls.length:=by grind
  subst this;rw[<-h.1,J4];grind
theorem pj7(h:(cs.drop (k*4)).take 4=[vv,tv,sv,nv]):cs[k*4]?=some vv/\cs[k*4+1]?=some tv/\cs[k*4+2]?=some sv/\cs[k*4+3]?=some nv:=by
 have g:∀j,j<4->cs[k*4+j]?=([vv,tv,sv,nv]:List Value)[j]?:=λj a=>by grind
 exact⟨g 0 aj,g 1 aj,g 2 aj,g 3 aj⟩
theorem zqe(M:Nat)(hm:kwm mo w (.slice a0 n0 c0) (.slice a1 n1 c1) (.slice a2 n2 c2) (.slice a3 n3 c3) (.slice a4 n4 c4) m)(hf:MdFit m)(n:Tok)(aC:n.x.size<=1000)(hP:w.ownsRow lo 352 4 (.slice pa pn pc) l.length (uq l))(hl:l.length<=1000)(hr:chO m.j l [[]]=some S)(B:∀x∈S,zqi x=true)(aI:S.length<=100000):Calls prog 100 #[.pointer (some ⟨M,0,none⟩),mdV a0 a1 a2 a3 a4 n0 n1 n2 n3 n4 c0 c1 c2 c3 c4,.agg #[.string n.x,.int .i64 n.v],.slice pa pn pc] w λe w'=>∃xa xn xc cs,e=.returned (.slice xa xn xc)/\w'.ownsRow w.heap.size 176 4 (.slice xa xn xc) S.length cs/\zxo w' M (.slice pa pn pc) n.x S cs/\oq w w':=by
 obtain⟨W,I⟩:=cpy<|(w.alloc<|.cells #[.slice a0 n0 c0,.slice a1 n1 c1,.slice a2 n2 c2,.slice a3 n3 c3,.slice a4 n4 c4] 68).alloc (.cells #[.string n.x,.int .i64 n.v] 107);have h:oq w W:=by rw[I];exact(jZ w).trans ((jZ _).mono ay)
 have aD:w.heap.size+1<W.heap.size:=by simp_all
 have hN:W.heap[w.heap.size+1]?=some (.cells #[.string n.x,.int .i64 n.v] 107 (0,0)):=by grind [qy,World.size_alloc]
 have y:=vxe (hm.stay λk _ K=>h.block k K) hf (qj hP h) hl hr;unfold mdV at y |-;obtain⟨HN,a9,a6⟩:=jp hN I.symm B;clear hr hN I B;go_in
 go_wp21;rw[ku a9];refine y.mono ?_;rintro e v ⟨v1,rfl,u,q⟩;obtain⟨xa,xn,xc,cs,rfl,N,t⟩:=u;obtain⟨ya,yc,H,(HV:Hid _)⟩:=qp N;injection H with H e2 e3;subst H;subst e2;subst e3;have aJ:=q.size;have Y:=oz<|(q.block _ aD).trans HN;have R:=h.trans<|q.mono aj;go_wp21
 go_loopw [9,11,16] (λx _ i wr=>∃(k:Nat)(O:Option Addr)(Q P:Nat)(ds:List Value),k<=S.length/\i=.int .i64 k/\x=.slice O Q P/\wr.ownsRow v.heap.size 176 4 (.slice O Q P) k ds/\zxo wr M (.slice pa pn pc) n.x (S.take k) ds/\oq v wr) (λ_ _ i _=>S.length-(intOf i).toNat);exact⟨0,none,0,0,[],jR,rfl,rfl,jE,⟨rfl,λk K=>by grind⟩,bR⟩;obtain⟨k,O,Q,P,ds,K,rfl,rfl,L,a,hb⟩:=hrel;have aE:=hb.size;by_cases f:k<S.length
 ·obtain⟨g,rfl,aH,aB,hc⟩:=ku HV k f;obtain⟨ca,cn,cc,ec,aA⟩:=t.2 k f;have e0:wr.cell? ⟨g,k,none⟩=some (.slice ca cn cc):=by rw[hb.cell (p:=⟨g,k,none⟩) aB,hc k aj];exact ec
  have U:=qj aA hb;have A:=(hb.block _ aj).trans Y;have q0:=kj6 A;have C:=(ku a6) _<|wZ f;have z:=zv0 n U C aC;obtain⟨a7,G,E,D,F⟩:=ja (tJ f:S.take (k+1)=S.take k++[S[k]]) L a hb (⟨_,rfl⟩:∃tt,tt=kv0 n.x S[k]);obtain⟨tt,s⟩:=ku F;rw[<-s]at z;have a8:=oz s;generalize S[k]=c at *;clear hc hb ec L a A C s;go_wp21
  refine z.mono ?_;rintro e w2 ⟨rfl,b⟩;have aK:=b.size;have j:=qj G b;have X:=E.tk (yt b none [176]) (pz.none _) ak;have V:=qj U b;have T:=D.trans<|b.mono aE;go_wp2_with (at_builtin;refine apO (j.alloc _) ?_)
  intro v3 w3 Z d _ J;obtain⟨a5,l5,c5,rfl⟩:=qh Z;have k3:Tk none [176] w2 w3:=(yt (jZ w2) _ _).trans<|kz4 (j.alloc _) d ay;have aG:=show zxo w3 M (.slice pa pn pc) n.x (S.take<|k+1) (ds++[.string tt,.pointer<|some ⟨M,0,none⟩,.slice pa pn pc,.slice ca cn cc]) by rw[ku a7,ku a8];exact(X.snoc V).tk k3 (pz.none _) ak
  have aF:=(T.alloc aj _).grown d ah<|jo j;clear J;go_wp2
  grind [ku,intOf]
 ·have:k=S.length:=by omega
  subst this;rw[Qc]at a;have G:=qo (by omega:w.heap.size<=v.heap.size) L;have E:=oz a;have D:=R.trans<|hb.mono aj;go_wp2
  go_ret;exact⟨_,_,_,_,rfl,G,E,D⟩
abbrev AsS(M b R:Nat)(xv x0 x1 x2 x3 y3 y4:Value)(w:World):Prop:=
 w.cell? ⟨M,0,none⟩=some xv/\w.cell? ⟨b,0,none⟩=some x0/\w.cell? ⟨b,1,none⟩=some x1/\w.cell? ⟨b,2,none⟩=some x2/\w.cell? ⟨b,3,none⟩=some x3/\w.cell? ⟨R,3,none⟩=some y3/\w.cell? ⟨R,4,none⟩=some y4
theorem AsS.below(h:AsS M b R xv x0 x1 x2 x3 y3 vv w)(hb:Below B w w')(hM:M<B)(g:b<B)(hR:R<B):AsS M b R xv x0 x1 x2 x3 y3 vv w':=by obtain⟨a,s1,c,s3,d,e,f⟩:=h;exact⟨(hb.cell (p:=⟨M,0,none⟩) aj).trans a,(hb.cell (p:=⟨b,0,none⟩) aj).trans s1,(hb.cell (p:=⟨b,1,none⟩) aj).trans c,(hb.cell (p:=⟨b,2,none⟩) aj).trans s3,(hb.cell (p:=⟨b,3,none⟩) aj).trans d,(hb.cell (p:=⟨R,3,none⟩) aj).trans e,(hb.cell (p:=⟨R,4,none⟩) aj).trans f⟩
theorem pjy(h:kzd lo so w M nb steps nevers sets vars tab size sv nv tv vv)(hb:oq w w3)(b:(w3.alloc o).grownBy w4 sv.ownBlock):w4.heap[M]?=some (.cells #[sv,nv,tv,vv,.map (some nb),.int .i64 size] 105 (0,0)):=by have a:(w3.alloc o).heap[M]?=some (.cells #[sv,nv,tv,vv,.map<|some nb,.int .i64 size] 105 (0,0)):=zy<|(hb.block M<|wQ h.e).trans h.e;obtain⟨cs,c,_⟩:=h.X;exact(kz4 (x:=none) (bad:=[178]) (qj c<|hb.alloc hb.size o) b ak).e a ay ak
theorem xvb(h:kzd lo so w M nb steps nevers sets vars tab size sv nv tv vv){j6:MStep}(q:w.ownsRow lo 178 6 sv steps.length cs)(m:qqx 0 so w M steps cs)(hb:oq w w3)(y:zz2 0 so w3 M j6 ds)(v:ds.length=6)(j:(w3.alloc<|.cells ds.toArray 178).grownBy w4 sv.ownBlock)(x:w4.ownsRow lo 178 6 (.slice (some ⟨gg,0,none⟩) (steps.length+1) gcap) (steps.length+1) (cs++ds))(c:lo<=w.heap.size):(∃gv gn gc,kzd lo so (w4.setCell ⟨M,0,none⟩<|.slice (some ⟨gg,0,none⟩) (steps.length+1) gcap) M nb (steps++[j6]) nevers sets vars tab size (.slice gv gn gc) nv tv vv)/\Tk none [105,178] w (w4.setCell ⟨M,0,none⟩<|.slice (some ⟨gg,0,none⟩) (steps.length+1) gcap)/\Below lo w (w4.setCell ⟨M,0,none⟩<|.slice (some ⟨gg,0,none⟩) (steps.length+1) gcap):=by
 have d:=pjy h hb j;have l:=xwg d<|.slice (some ⟨gg,0,none⟩) (steps.length+1) gcap;have a:oq w (w3.alloc<|.cells ds.toArray 178):=hb.alloc hb.size _;have f:=qj q a;have k4:Tk none [105,178] (w3.alloc<|.cells ds.toArray 178) w4:=kz4 f j ak;have k5:Tk none [105] w4 (w4.setCell ⟨M,0,none⟩<|.slice (some ⟨gg,0,none⟩) (steps.length+1) gcap):=qqa d ak 0 _;have g:=k4.trans (k5.wide (by decide:∀e∈[105],e∈[105,178]));have k3:=(yt (jZ w3 (o:=.cells ds.toArray 178)) none [105,178]).trans g;have K:=(yt a none [105,178]).trans g;have b:=pz.none w;obtain⟨B,h1,i,s,⟨c4,t,A⟩,u,k,h7⟩:=h;obtain⟨c2,i,z⟩:=i;refine⟨⟨_,_,_,⟨l,⟨cs++ds,?_,?_⟩,⟨c2,jq i K b ak,z.tk K b ak ak⟩,jq s K b ak,⟨c4,jq t K b ak,A.tk K b ak⟩,u.tk K ay,k,h7⟩⟩,K,?_⟩
 ·grind [jq,pz.none]
 ·exact(m.tk K b ak ak).snoc (y.tk k3 (pz.none _) ak ak) v
 ·exact(((a.mono c)).grown j (rP c a.size)<|jo f).setCell (p:=⟨M,0,none⟩) k _
theorem jys(h:kzd lo so w M nb steps nevers sets vars tab size sv nv tv vv)(hm:kwm so w (.slice a0 n0 c0) (.slice a1 n1 c1) (.slice a2 n2 c2) (.slice a3 n3 c3) (.slice a4 n4 c4) m)(hf:MdFit m)(aT:rl.y.x.size<=1000)(hP:w.ownsRow so 352 4 (.slice pa pn pc) rl.u.length (uq rl.u))(aV:rl.u.length<=1000)(hX:XIs so w rl.guard (.pointer gp))(hB:w.ownsRow so 334 9 (.slice ba bn bc) (kqq rl.S) bs)(aN:BIs so none w rl.S bs)(hr:chO m.j rl.u [[]]=some ls)(Z:∀x∈ls,zqi x=true)(aW:ls.length<=100000)(b8:steps.length<=100000)(aS:lo<=w.heap.size):Calls prog 58 #[.pointer (some ⟨M,0,none⟩),mdV a0 a1 a2 a3 a4 n0 n1 n2 n3 n4 c0 c1 c2 c3 c4,.agg #[.string rl.y.x,.int .i64 rl.y.v,.slice pa pn pc,.pointer gp,.slice ba bn bc]] w λe w'=>e=.returned (.tuple #[])/\(∃s gn gc,kzd lo so w' M nb (steps++ls.map (λms=>(⟨kv0 rl.y.x ms,rl.u,ms,rl.guard,rl.S⟩:MStep))) nevers sets vars tab size (.slice s gn gc) nv tv vv)/\Tk none [105,178] w w'/\Below lo w w':=by
 obtain⟨W,hW⟩:=cpy<|(w.alloc<|.cells #[.slice a0 n0 c0,.slice a1 n1 c1,.slice a2 n2 c2,.slice a3 n3 c3,.slice a4 n4 c4] 68).alloc (.cells #[.string rl.y.x,.int .i64 rl.y.v,.slice pa pn pc,.pointer gp,.slice ba bn bc] 127);have d:oq w W:=jX;have aX:w.heap.size+1<W.heap.size:=by simp_all
 have hN:W.heap[w.heap.size+1]?=some (.cells #[.string rl.y.x,.int .i64 rl.y.v,.slice pa pn pc,.pointer gp,.slice ba bn bc] 127 (0,0)):=by grind [qy,World.size_alloc]
 have E:=zqe M (hm.stay λk _ B=>d.block k B) hf rl.y aT (qj hP d) aV hr Z aW;unfold mdV at E |-;obtain⟨HN,aL⟩:=ju hN hW.symm;have aG:=h.below d;have HP:=qj hP d;have HX:=hX.below d;have aF:=qj hB d;have aE:=show BIs so none W rl.S bs from aN.stay λk _ B=>d.block k B
 clear hr Z hN hW;go_in;go_wp21;rw[ku aL];refine E.mono ?_;rintro e C ⟨xa,xn,xc,cs,rfl,I,HI,f⟩;obtain⟨ya,yc,y,(HV:Hid _)⟩:=qp I;injection y with y e2 R;subst y;subst e2;subst R;have b7:=f.size;have aH:=oz<|(f.block _ aX).trans HN;have F:=aG.below f;have aI:=qj HP f;have aM:=HX.below f;have a8:=qj aF f;have a7:=show BIs so none C rl.S bs from aE.stay λk _ B=>f.block k B
 have U:=d.trans<|f.mono aj;go_wp21
 go_loopw [7,16] (λ_ i wr=>∃k:Nat,k<=ls.length/\i=.int .i64 k/\(∃s gn gc,kzd lo so wr M nb (steps++(ls.take k).map (λms=>(⟨kv0 rl.y.x ms,rl.u,ms,rl.guard,rl.S⟩:MStep))) nevers sets vars tab size (.slice s gn gc) nv tv vv)/\Tk none [105,178] C wr/\Below lo C wr) (λ_ i _=>ls.length-(intOf i).toNat)
 case atStart=>
  obtain⟨gx,aR⟩:∃gx:List Value,C.ownsRow lo 178 6 sv steps.length gx:=by obtain⟨q,hq,_⟩:=F.X;grind
  obtain⟨s,gc,e,_⟩:=qp aR;subst e;exact⟨0,jR,rfl,⟨s,_,gc,by simpa using ku F⟩,Tk.refl _ _ _,bR⟩
 case round=>
  obtain⟨k,B,rfl,⟨va,vn,vc,l⟩,a,hb⟩:=hrel;have b9:=a.size;by_cases N:k<ls.length
  ·have aD:=jq I a (pz.none _) ak;obtain⟨yb,yd,y,a6⟩:=qp aD;injection y with y e2 R;subst y;subst R;obtain⟨g,rfl,b5,b6,L⟩:=a6 k N;obtain⟨ma,mn,mc,ec,aQ⟩:=HI.2 k N;have aC:=jq aQ a (pz.none _) ak;obtain⟨s0,s1,s2,s3⟩:=pj7 ec;have e0:=(L (k*4) aj).trans s0;have y:=(L (k*4+1) aj).trans s1;have e2:=(L (k*4+2) aj).trans s2;have R:=(L (k*4+3) aj).trans s3;have Y:=a.e aH ay ak;have aU:=jq aI a (pz.none _) ak;have aY:=aM.tk a (pz.none _) ak;have aB:=jq a8 a (pz.none _) ak;have aA:=a7.tk a (pz.none _) ak ak;obtain⟨tt,P⟩:=cpy<|kv0 rl.y.x ls[k];obtain⟨one,z⟩:∃one:MStep,one=(λms=>(⟨kv0 rl.y.x ms,rl.u,ms,rl.guard,rl.S⟩:MStep)) ls[k]:=⟨_,rfl⟩;have aJ:zz2 0 so wr M one [.string tt,.pointer (some ⟨M,0,none⟩),.slice pa pn pc,.slice ma mn mc,.pointer gp,.slice ba bn bc]:=by rw[z,P];exact⟨pa,pn,pc,ma,mn,mc,gp,ba,bn,bc,bs,none,rfl,qo jR aU,qo jR aC,aY,aB,aA⟩
   have b4:=oz (by rw[z,tJ N,Qw,<-sZ];rfl:(steps++(ls.take<|k+1).map (λms=>(⟨kv0 rl.y.x ms,rl.u,ms,rl.guard,rl.S⟩:MStep)))=(steps++(ls.take k).map (λms=>(⟨kv0 rl.y.x ms,rl.u,ms,rl.guard,rl.S⟩:MStep)))++[one]);have bA:(steps++(ls.take k).map (λms=>(⟨kv0 rl.y.x ms,rl.u,ms,rl.guard,rl.S⟩:MStep))).length<=200000:=by grind
   rw[<-P]at e0;generalize (steps++(ls.take k).map (λms=>(⟨kv0 rl.y.x ms,rl.u,ms,rl.guard,rl.S⟩:MStep)))=Q at *;have O:=l.e;have aO:M<wr.heap.size:=wQ O;obtain⟨m0,m1,m2,m3,m4,m5,f0,f1,f2,f3,f4,f5⟩:=kzh O;have X:w.heap.size+1<wr.heap.size:=aj;obtain⟨u0,u1,u2,u3,u4,_⟩:=jl Y;have A:oq wr (wr.alloc<|.cells #[.string tt,.pointer (some ⟨M,0,none⟩),.slice pa pn pc,.slice ma mn mc] 176):=jZ _;have J:(wr.alloc<|.cells #[.string tt,.pointer (some ⟨M,0,none⟩),.slice pa pn pc,.slice ma mn mc] 176).heap[wr.heap.size]?=some (.cells #[.string tt,.pointer (some ⟨M,0,none⟩),.slice pa pn pc,.slice ma mn mc] 176 (0,0)):=qy;obtain⟨b0,b1,b2,b3,_⟩:=kz3 J;have v:=oz (show AsS M wr.heap.size (w.heap.size+1) (.slice va vn vc) (.string tt) (.pointer<|some ⟨M,0,none⟩) (.slice pa pn pc) (.slice ma mn mc) (.pointer gp) (.slice ba bn bc) (wr.alloc<|.cells #[.string tt,.pointer (some ⟨M,0,none⟩),.slice pa pn pc,.slice ma mn mc] 176).drew from⟨(A.cell (p:=⟨M,0,none⟩) aO).trans m0,b0,b1,b2,b3,(A.cell (p:=⟨w.heap.size+1,3,none⟩) X).trans u3,(A.cell (p:=⟨w.heap.size+1,4,none⟩) X).trans u4⟩);obtain⟨xs,V,a9⟩:=l.X;obtain⟨G,aK,HB⟩:=jp l a hb;have u:=show oq wr (wr.alloc<|.cells #[.string tt,.pointer (some ⟨M,0,none⟩),.slice pa pn pc,.slice ma mn mc] 176).drew from A.drew
   generalize ls[k]=c at *;clear L ec s0 s1 s2 s3 a6 Y P z l a hb J b0 b1 b2 b3 u0 u1 u2 u3 u4 m0 m1 m2 m3 m4 m5 f0 f1 f2 f3 f4 f5 O;go_upto_region 4 with fail
   refine bg (S:=AsS M wr.heap.size (w.heap.size+1) (.slice va vn vc) (.string tt) (.pointer<|some ⟨M,0,none⟩) (.slice pa pn pc) (.slice ma mn mc) (.pointer gp)<|.slice ba bn bc) (tl:=[12,13,14,15]) au ?_;refine frS 0 ?_;refine frS 1 ?_;refine frS 2 ?_;refine frS 3 ?_;refine tkS 4 v ?_;refine tkS 5 v ?_;refine frS 6 ?_;refine tkS 7 v ?_;refine frS 8 ?_;refine tkS 9 v ?_;refine frS 10 ?_;refine onS 11 λK b=>?_
   go_simp;refine b _ _ (v.below (jZ _) (by simp;omega:M<(wr.alloc _).heap.size) (by simp:wr.heap.size<(wr.alloc _).heap.size) (by simp;omega:w.heap.size+1<(wr.alloc _).heap.size)) ?_;clear b K;refine kyj ?_;refine onA 12 λK b=>?_
   refine apL (qj V<|u.alloc u.size _) (alloc_at (wr.heap.size+1) ay) ?_ (H:=wr.heap.size+2) (hH:=ay);intro gg gcap w4 T j aP aZ;refine b _ _ ?_;clear b K;have j:((wr.alloc<|.cells #[.string tt,.pointer<|some ⟨M,0,none⟩,.slice pa pn pc,.slice ma mn mc] 176).drew.alloc<|.cells #[.string tt,.pointer<|some ⟨M,0,none⟩,.slice pa pn pc,.slice ma mn mc,.pointer gp,.slice ba bn bc] 178).grownBy w4 (Value.slice va vn vc).ownBlock:=j;have a5:=pjy G u j;have m0:=kzh a5;have t:=xvb G V a9 u (aJ.tk (yt u none []) (pz.none _) ay ay) rfl j T aj;have D:=oz (⟨t.1,aK.trans t.2.1,HB.trans t.2.2⟩:(∃s gn gc,kzd lo so (w4.setCell ⟨M,0,none⟩<|.slice (some ⟨gg,0,none⟩) (Q.length+1) gcap) M nb (Q++[one]) nevers sets vars tab size (.slice s gn gc) nv tv vv)/\Tk none [105,178] C (w4.setCell ⟨M,0,none⟩<|.slice (some ⟨gg,0,none⟩) (Q.length+1) gcap)/\Below lo C (w4.setCell ⟨M,0,none⟩<|.slice (some ⟨gg,0,none⟩) (Q.length+1) gcap));clear a5 aP t;refine onA 13 λK b=>?_
   go_simp;refine b _ _ ?_;clear b K;refine onA 14 λK b=>?_
   go_simp;refine b _ _ ?_;clear b K;refine onA 15 λK b=>?_
   go_simp;refine b _ _ ?_;clear b K;refine wpAny_done au ?_ _;go_wp2;grind [ku,intOf]
  ·have:k=ls.length:=by omega
   subst this;rw[Qc]at l;have D:=oz (⟨⟨va,vn,vc,l⟩,(yt U _ _).trans a,(U.mono aS).trans hb⟩:(∃s gn gc,kzd lo so wr M nb (steps++ls.map (λms=>(⟨kv0 rl.y.x ms,rl.u,ms,rl.guard,rl.S⟩:MStep))) nevers sets vars tab size (.slice s gn gc) nv tv vv)/\Tk none [105,178] w wr/\Below lo w wr);go_wp2;go_end0;exact⟨rfl,D⟩
abbrev AnS(M b R:Nat)(xv x0 x1 x2 x3 y3:Value)(w:World):Prop:=
 w.cell? ⟨M,1,none⟩=some xv/\w.cell? ⟨b,0,none⟩=some x0/\w.cell? ⟨b,1,none⟩=some x1/\w.cell? ⟨b,2,none⟩=some x2/\w.cell? ⟨b,3,none⟩=some x3/\w.cell? ⟨R,3,none⟩=some y3
theorem AnS.below(h:AnS M b R xv x0 x1 x2 x3 y3 w)(hb:Below B w w')(hM:M<B)(f:b<B)(hR:R<B):AnS M b R xv x0 x1 x2 x3 y3 w':=by obtain⟨a,s1,c,s3,d,e⟩:=h;exact⟨(hb.cell (p:=⟨M,1,none⟩) aj).trans a,(hb.cell (p:=⟨b,0,none⟩) aj).trans s1,(hb.cell (p:=⟨b,1,none⟩) aj).trans c,(hb.cell (p:=⟨b,2,none⟩) aj).trans s3,(hb.cell (p:=⟨b,3,none⟩) aj).trans d,(hb.cell (p:=⟨R,3,none⟩) aj).trans e⟩
theorem pjg(h:kzd lo so w M nb steps nevers sets vars tab size sv nv tv vv)(hb:oq w w3)(b:(w3.alloc o).grownBy w4 nv.ownBlock):w4.heap[M]?=some (.cells #[sv,nv,tv,vv,.map (some nb),.int .i64 size] 105 (0,0)):=by have a:(w3.alloc o).heap[M]?=some (.cells #[sv,nv,tv,vv,.map<|some nb,.int .i64 size] 105 (0,0)):=zy<|(hb.block M<|wQ h.e).trans h.e;obtain⟨cs,c,_⟩:=h.q;exact(kz4 (x:=none) (bad:=[208]) (qj c<|hb.alloc hb.size o) b ak).e a ay ak
theorem xvm(h:kzd lo so w M nb steps nevers sets vars tab size sv nv tv vv){m:MNever}(l:w.ownsRow lo 208 5 nv nevers.length cs)(k:qxn 0 so w M nevers cs)(hb:oq w w3)(x:jzn 0 so w3 M m ds)(u:ds.length=5)(i:(w3.alloc<|.cells ds.toArray 208).grownBy w4 nv.ownBlock)(v:w4.ownsRow lo 208 5 (.slice (some ⟨gg,0,none⟩) (nevers.length+1) gcap) (nevers.length+1) (cs++ds))(c:lo<=w.heap.size):(∃gv gn gc,kzd lo so (w4.setCell ⟨M,1,none⟩<|.slice (some ⟨gg,0,none⟩) (nevers.length+1) gcap) M nb steps (nevers++[m]) sets vars tab size sv (.slice gv gn gc) tv vv)/\Tk none [105,208] w (w4.setCell ⟨M,1,none⟩<|.slice (some ⟨gg,0,none⟩) (nevers.length+1) gcap)/\Below lo w (w4.setCell ⟨M,1,none⟩<|.slice (some ⟨gg,0,none⟩) (nevers.length+1) gcap):=by
 have d:=pjg h hb i;have a:oq w (w3.alloc<|.cells ds.toArray 208):=hb.alloc hb.size _;have f:=qj l a;have k4:Tk none [105,208] (w3.alloc<|.cells ds.toArray 208) w4:=kz4 f i ak;have k5:Tk none [105] w4 (w4.setCell ⟨M,1,none⟩<|.slice (some ⟨gg,0,none⟩) (nevers.length+1) gcap):=qqa d ak 1 _;have g:=k4.trans (k5.wide (by decide:∀e∈[105],e∈[105,208]));have K:=(yt a none [105,208]).trans g;have b:=pz.none w;obtain⟨A,h1,B,q,⟨c4,s,z⟩,t,j,h7⟩:=h;obtain⟨c1,h1,y⟩:=h1;refine⟨⟨_,_,_,⟨(xwu d<|.slice (some ⟨gg,0,none⟩) (nevers.length+1) gcap),⟨c1,jq h1 K b ak,y.tk K b ak ak⟩,⟨cs++ds,?_,?_⟩,jq q K b ak,⟨c4,jq s K b ak,z.tk K b ak⟩,t.tk K ay,j,h7⟩⟩,K,?_⟩
 ·grind [jq,pz.none]
 ·exact(k.tk K b ak ak).snoc (x.tk ((yt (jZ w3 (o:=.cells ds.toArray 208)) none [105,208]).trans g) (pz.none _) ak ak) u
 ·exact(((a.mono c)).grown i (rP c a.size)<|jo f).setCell (p:=⟨M,1,none⟩) j _
theorem jxg(h:kzd lo so w M nb steps nevers sets vars tab size sv nv tv vv)(hm:kwm so w (.slice a0 n0 c0) (.slice a1 n1 c1) (.slice a2 n2 c2) (.slice a3 n3 c3) (.slice a4 n4 c4) m)(hf:MdFit m)(aD:rl.y.x.size<=1000)(hP:w.ownsRow so 352 4 (.slice pa pn pc) rl.u.length (uq rl.u))(aG:rl.u.length<=1000)(hX:XIs so w rl.guard (.pointer gp))(hr:chO m.j rl.u [[]]=some ls)(aE:∀x∈ls,zqi x=true)(aH:ls.length<=100000)(aP:nevers.length<=100000)(aC:lo<=w.heap.size):Calls prog 59 #[.pointer (some ⟨M,0,none⟩),mdV a0 a1 a2 a3 a4 n0 n1 n2 n3 n4 c0 c1 c2 c3 c4,.agg #[.string rl.y.x,.int .i64 rl.y.v,.slice pa pn pc,.pointer gp]] w λe w'=>e=.returned (.tuple #[])/\(∃j gn gc,kzd lo so w' M nb steps (nevers++ls.map (λms=>(⟨kv0 rl.y.x ms,rl.u,ms,rl.guard⟩:MNever))) sets vars tab size sv (.slice j gn gc) tv vv)/\Tk none [105,208] w w'/\Below lo w w':=by
 obtain⟨W,hW⟩:=cpy<|(w.alloc<|.cells #[.slice a0 n0 c0,.slice a1 n1 c1,.slice a2 n2 c2,.slice a3 n3 c3,.slice a4 n4 c4] 68).alloc (.cells #[.string rl.y.x,.int .i64 rl.y.v,.slice pa pn pc,.pointer gp] 130);have d:oq w W:=jX;have aI:w.heap.size+1<W.heap.size:=by simp_all
 have HN:W.heap[w.heap.size+1]?=some (.cells #[.string rl.y.x,.int .i64 rl.y.v,.slice pa pn pc,.pointer gp] 130 (0,0)):=by grind [qy,World.size_alloc]
 have A:=zqe M (hm.stay λk _ hk=>d.block k hk) hf rl.y aD (qj hP d) aG hr aE aH;unfold mdV at A |-;go_in
 go_wp21;rw[(oz hW.symm)];refine A.mono ?_;rintro e L ⟨xa,xn,xc,cs,rfl,s,Y,u⟩;obtain⟨rfl,HV⟩:=kja s;have B:=(h.below d).below u;have Z:=qj (qj hP d) u;have a7:=(hX.below d).below u;have Q:=(oz d).trans<|u.mono aj;go_wp21
 go_loopw [7,16] (λ_ i wr=>∃k:Nat,k<=ls.length/\i=.int .i64 k/\(∃j gn gc,kzd lo so wr M nb steps (nevers++(ls.take k).map (λms=>(⟨kv0 rl.y.x ms,rl.u,ms,rl.guard⟩:MNever))) sets vars tab size sv (.slice j gn gc) tv vv)/\Tk none [105,208] L wr/\Below lo L wr) (λ_ i _=>ls.length-(intOf i).toNat)
 case atStart=>
  obtain⟨gx,aB⟩:∃gx:List Value,L.ownsRow lo 208 5 nv nevers.length gx:=by obtain⟨q,hq,_⟩:=B.q;grind
  obtain⟨j,gc,e,_⟩:=qp aB;subst e;exact⟨0,jR,rfl,⟨j,_,gc,by simpa using ku B⟩,Tk.refl _ _ _,bR⟩
 case round=>
  obtain⟨k,hk,rfl,⟨va,vn,vc,f⟩,a,hb⟩:=hrel;by_cases G:k<ls.length
  ·have s:=jq (oz s) a (pz.none _) ak;obtain⟨yb,yd,O,U⟩:=qp s;injection O with O e2 e3;subst O;subst e3;obtain⟨g,rfl,aN,aO,F⟩:=U k G;obtain⟨ma,mn,mc,ec,aA⟩:=(oz Y).2 k G;obtain⟨s0,s1,s2,s3⟩:=pj7 ec;have e0:=(F (k*4) aj).trans s0;have O:=(F (k*4+1) aj).trans s1;have e2:=(F (k*4+2) aj).trans s2;have e3:=(F (k*4+3) aj).trans s3;have T:=a.e ((u.block _ aI).trans HN) ay ak;have aF:=jq Z a (pz.none _) ak;have aJ:=a7.tk a (pz.none _) ak;obtain⟨tt,J⟩:=cpy<|kv0 rl.y.x ls[k];obtain⟨one,y⟩:∃one:MNever,one=(λms=>(⟨kv0 rl.y.x ms,rl.u,ms,rl.guard⟩:MNever)) ls[k]:=⟨_,rfl⟩;have a5:jzn 0 so wr M one [.string tt,.pointer (some ⟨M,0,none⟩),.slice pa pn pc,.slice ma mn mc,.pointer gp]:=by rw[y,J];exact⟨pa,pn,pc,ma,mn,mc,gp,rfl,qo jR aF,qo jR<|jq aA a (pz.none _) ak,aJ⟩
   have aL:=show(nevers++(ls.take<|k+1).map (λms=>(⟨kv0 rl.y.x ms,rl.u,ms,rl.guard⟩:MNever)))=(nevers++(ls.take k).map (λms=>(⟨kv0 rl.y.x ms,rl.u,ms,rl.guard⟩:MNever)))++[one] by rw[y,tJ G,Qw,<-sZ];rfl
   have aQ:(nevers++(ls.take k).map (λms=>(⟨kv0 rl.y.x ms,rl.u,ms,rl.guard⟩:MNever))).length<=200000:=by grind
   rw[<-J]at e0;generalize (nevers++(ls.take k).map (λms=>(⟨kv0 rl.y.x ms,rl.u,ms,rl.guard⟩:MNever)))=N at *;have I:=f.e;have a8:M<wr.heap.size:=wQ I;obtain⟨m0,m1,m2,m3,m4,m5,f0,f1,f2,f3,f4,f5⟩:=kzh I;have a9:w.heap.size+1<wr.heap.size:=aj;obtain⟨u0,u1,u2,u3,_⟩:=kz3 T;have D:oq wr (wr.alloc<|.cells #[.string tt,.pointer (some ⟨M,0,none⟩),.slice pa pn pc,.slice ma mn mc] 176):=jZ _;have E:(wr.alloc<|.cells #[.string tt,.pointer (some ⟨M,0,none⟩),.slice pa pn pc,.slice ma mn mc] 176).heap[wr.heap.size]?=some (.cells #[.string tt,.pointer (some ⟨M,0,none⟩),.slice pa pn pc,.slice ma mn mc] 176 (0,0)):=qy;obtain⟨b0,b1,b2,b3,_⟩:=kz3 E;have z:=show AnS M wr.heap.size (w.heap.size+1) (.slice va vn vc) (.string tt) (.pointer<|some ⟨M,0,none⟩) (.slice pa pn pc) (.slice ma mn mc) (.pointer gp) (wr.alloc<|.cells #[.string tt,.pointer (some ⟨M,0,none⟩),.slice pa pn pc,.slice ma mn mc] 176).drew from⟨(D.cell (p:=⟨M,1,none⟩) a8).trans m1,b0,b1,b2,b3,(D.cell (p:=⟨w.heap.size+1,3,none⟩) a9).trans u3⟩
   obtain⟨xs,R,X⟩:=f.q;obtain⟨C,a6,HB⟩:=jp f a hb;have t:=show oq wr (wr.alloc<|.cells #[.string tt,.pointer<|some ⟨M,0,none⟩,.slice pa pn pc,.slice ma mn mc] 176).drew from D.drew
   generalize ls[k]=c at *;clear F ec s0 s1 s2 s3 U T J y f a hb E b0 b1 b2 b3 u0 u1 u2 u3 m0 m1 m2 m3 m4 m5 f0 f1 f2 f3 f4 f5 I;go_upto_region 4 with fail
   refine bg (S:=AnS M wr.heap.size (w.heap.size+1) (.slice va vn vc) (.string tt) (.pointer<|some ⟨M,0,none⟩) (.slice pa pn pc) (.slice ma mn mc)<|.pointer gp) (tl:=[10,11,12,13]) au ?_;refine frS 0 ?_;refine frS 1 ?_;refine frS 2 ?_;refine frS 3 ?_;refine tkS 4 z ?_;refine tkS 5 z ?_;refine frS 6 ?_;refine tkS 7 z ?_;refine frS 8 ?_;refine onS 9 λK l=>?_
   go_simp;refine l _ _ (z.below (jZ _) (by simp;omega:M<(wr.alloc _).heap.size) (by simp:wr.heap.size<(wr.alloc _).heap.size) (by simp;omega:w.heap.size+1<(wr.alloc _).heap.size)) ?_;refine kyj ?_;refine onA 10 λK l=>?_
   refine apL (qj R<|t.alloc t.size _) (alloc_at (wr.heap.size+1) ay) ?_ (H:=wr.heap.size+2) (hH:=ay);intro gg gcap w4 P b aM aK;refine l _ _ ?_;have b:((wr.alloc<|.cells #[.string tt,.pointer<|some ⟨M,0,none⟩,.slice pa pn pc,.slice ma mn mc] 176).drew.alloc<|.cells #[.string tt,.pointer<|some ⟨M,0,none⟩,.slice pa pn pc,.slice ma mn mc,.pointer gp] 208).grownBy w4 (Value.slice va vn vc).ownBlock:=b;have m0:=kzh<|pjg C t b;have v:=xvm C R X t (a5.tk (yt t none []) (pz.none _) ay ay) rfl b P aj;have V:=show(∃j gn gc,kzd lo so (w4.setCell ⟨M,1,none⟩<|.slice (some ⟨gg,0,none⟩) (N.length+1) gcap) M nb steps (N++[one]) sets vars tab size sv (.slice j gn gc) tv vv)/\Tk none [105,208] L (w4.setCell ⟨M,1,none⟩<|.slice (some ⟨gg,0,none⟩) (N.length+1) gcap)/\Below lo L (w4.setCell ⟨M,1,none⟩<|.slice (some ⟨gg,0,none⟩) (N.length+1) gcap) from⟨v.1,a6.trans v.2.1,HB.trans v.2.2⟩
   refine onA 11 λK l=>?_
   go_simp;refine l _ _ ?_;refine onA 12 λK l=>?_
   go_simp;refine l _ _ ?_;refine onA 13 λK l=>?_
   go_simp;refine l _ _ ?_;refine wpAny_done au ?_ _;go_wp2;exact rdM ⟨k+1,aj,eu,by simp_all,V.2⟩
  ·have:k=ls.length:=by omega
   subst this;rw[Qc]at f;go_wp2;go_end0;exact⟨rfl,(⟨⟨va,vn,vc,f⟩,(yt Q _ _).trans a,(Q.mono aC).trans hb⟩:(∃j gn gc,kzd lo so wr M nb steps (nevers++ls.map (λms=>(⟨kv0 rl.y.x ms,rl.u,ms,rl.guard⟩:MNever))) sets vars tab size sv (.slice j gn gc) tv vv)/\Tk none [105,208] w wr/\Below lo w wr)⟩
def zku(t:kq3)(s:ByteArray)(e:Mean):Option kq3:=if (t.any λx=>x.1.toList==s.toList)||decide (1000<s.size) then none else some (t++[(s,e)])
theorem jkq{a:kq3}{b:Mean}(h:zku j8 b4 b=some a):a=j8++[(b4,b)]/\b4.size<=1000/\∀x∈j8,x.1.toList≠b4.toList:=by grind [zku]
def jjq:List Tok->Nat->kq3->Option kq3
 |[],_,t=>some t
 |x::l,i,t=>(zku t x.x ⟨false,i⟩).bind λa=>jjq l (i+1) a
def qxb:List PKind->kq3->Option kq3
 |[],t=>some t
 |k::ks,t=>(jjq k.i 0 t).bind λa=>qxb ks a
def qjh(ss:List PSet)(ks:List PKind):List VrT->Nat->kq3->List MVar->Nat->Option (kq3×List MVar×Nat)
 |[],_,t,vs,sz=>some (t,vs,sz)
 |v::l,i,t,vs,sz=>(zku t v.y.x ⟨true,i⟩).bind λa=>if sz<=100000/\vs.length<=1000 then (qw4 ss ks sz v).bind λu=>qjh ss ks l (i+1) a (vs++[u]) (sz+u.d) else none
def qzf(r:PRule)(c:List (List Int))(n:Nat):Bool:=c.all zqi&&decide (c.length<=100000)&&decide (n<=100000)&&decide (r.u.length<=1000)&&decide (r.y.x.size<=1000)
theorem zzm(h:qzf r S n=true):(∀x∈S,zqi x=true)/\S.length<=100000/\n<=100000/\r.u.length<=1000/\r.y.x.size<=1000:=by grind [qzf]
def zjm(rl:PRule):List Int->MStep:=λms=>⟨kv0 rl.y.x ms,rl.u,ms,rl.guard,rl.S⟩
def qvv(rl:PRule):List Int->MNever:=λms=>⟨kv0 rl.y.x ms,rl.u,ms,rl.guard⟩
def qqo(ss:List PSet):List PRule->List MStep->Option (List MStep)
 |[],acc=>some acc
 |r::l,acc=>(chO ss r.u [[]]).bind λc=>if qzf r c acc.length then qqo ss l (acc++c.map (zjm r)) else none
def kvf(ss:List PSet):List PRule->List MNever->Option (List MNever)
 |[],acc=>some acc
 |r::l,acc=>(chO ss r.u [[]]).bind λc=>if qzf r c acc.length then kvf ss l (acc++c.map (qvv r)) else none
structure Mach where
 X:List MStep
 q:List MNever
 j:List Int
 z:List MVar
 C:kq3
 size:Nat
def kje(l:List PSet):List Int:=l.map λs=>mg s.size.x
def jy5(m:MdL):Option Mach:=(qxb m.p []).bind λt=>(qjh m.j m.p m.z 0 t [] 0).bind λx=>(qqo m.j m.l []).bind λst=>(kvf m.j m.q []).map λnv=>⟨st,nv,kje m.j,x.2.1,x.1,x.2.2⟩
theorem zyj(h:Kept nb w w')(bad:List Nat):Tk (some nb) bad w w':=
 ⟨h.os,h.tape,h.output,h.size,λk o h1 a _=>by rw[h.block k (wQ h1) (λe=>a (by rw[e]))];exact h1⟩
theorem pjt(h:kzd lo so w M nb steps nevers sets vars tab size sv nv tv vv)(i:Kept nb w w')(j:kkd w' nb j8):kzd lo so w' M nb steps nevers sets vars j8 size sv nv tv vv:=by have K:=zyj i [];have a:=h.C.no;obtain⟨b,⟨c1,h1,k⟩,⟨c2,c,l⟩,d,⟨c4,f,m⟩,p,g,h7⟩:=h;exact⟨K.e b (λe=>a _ _ _ _ e b) ay,⟨c1,jq h1 K a ay,k.tk K a ay ay⟩,⟨c2,jq c K a ay,l.tk K a ay ay⟩,jq d K a ay,⟨c4,jq f K a ay,m.tk K a ay⟩,j,g,h7⟩
theorem pq1(h:kzd lo so w M nb steps nevers sets vars tab size sv nv tv vv)(hb:oq w w3)(b:(w3.alloc o).grownBy w4 tv.ownBlock):w4.heap[M]?=some (.cells #[sv,nv,tv,vv,.map (some nb),.int .i64 size] 105 (0,0)):=by have a:(w3.alloc o).heap[M]?=some (.cells #[sv,nv,tv,vv,.map<|some nb,.int .i64 size] 105 (0,0)):=zy<|(hb.block M<|wQ h.e).trans h.e;exact(kz4 (x:=none) (bad:=[3]) (qj h.j<|hb.alloc hb.size o) b ak).e a ay ak
theorem xkp(h:kzd lo so w M nb [] [] sets vars tab size (.slice none 0 0) (.slice none 0 0) tv vv)(hb:oq w w3)(f:(w3.alloc<|.cells #[.int .i64 e8] 3).grownBy w4 tv.ownBlock)(q:w4.ownsRow lo 3 1 (.slice (some ⟨gg,0,none⟩) (sets.length+1) gcap) (sets.length+1) (sets.map (Value.int .i64)++[.int .i64 e8]))(b:lo<=w.heap.size):(∃gv gn gc,kzd lo so (w4.setCell ⟨M,2,none⟩<|.slice (some ⟨gg,0,none⟩) (sets.length+1) gcap) M nb [] [] (sets++[e8]) vars tab size (.slice none 0 0) (.slice none 0 0) (.slice gv gn gc) vv)/\Tk none [105,3] w (w4.setCell ⟨M,2,none⟩<|.slice (some ⟨gg,0,none⟩) (sets.length+1) gcap)/\Below lo w (w4.setCell ⟨M,2,none⟩<|.slice (some ⟨gg,0,none⟩) (sets.length+1) gcap):=by
 have c:=pq1 h hb f;have a:oq w (w3.alloc<|.cells #[.int .i64 e8] 3):=hb.alloc hb.size _;have d:=qj h.j a;have k4:Tk none [105,3] (w3.alloc<|.cells #[.int .i64 e8] 3) w4:=kz4 d f ak;have k5:Tk none [105] w4 (w4.setCell ⟨M,2,none⟩<|.slice (some ⟨gg,0,none⟩) (sets.length+1) gcap):=qqa c ak 2 _;have K:=(yt a none [105,3]).trans (k4.trans<|k5.wide (by decide:∀e∈[105],e∈[105,3]));have i:=pz.none w;obtain⟨t,_,_,u,⟨c4,j,s⟩,l,g,h7⟩:=h;refine⟨⟨_,_,_,⟨(xwy c<|.slice (some ⟨gg,0,none⟩) (sets.length+1) gcap),⟨[],jE,rfl,λk m=>by grind⟩,⟨[],jE,rfl,λk m=>by grind⟩,?_,⟨c4,jq j K i ak,s.tk K i ak⟩,l.tk K ay,g,h7⟩⟩,K,?_⟩
 ·grind [jq,pz.none]
 ·exact(((a.mono b)).grown f (rP b a.size)<|jo d).setCell (p:=⟨M,2,none⟩) g _
def xwk:List Nat:=[105,178,208,213,3]
structure NwI (w W:World)(lo so M nb:Nat)(steps:List MStep)(nevers:List MNever)(sets:List Int)(vars:List MVar)(tab:kq3)(size:Nat)(sv nv tv vv:Value)(wr:World):Prop where
 mc:kzd lo so wr M nb steps nevers sets vars tab size sv nv tv vv
 tk:Tk (some nb) xwk W wr
 be:Below lo w wr
theorem NwI.below{wr:World}(h:NwI w w' lo so M nb steps nevers sets vars tab size sv nv tv vv wr)(hb:oq wr w3)(a:lo<=wr.heap.size):NwI w w' lo so M nb steps nevers sets vars tab size sv nv tv vv w3:=
 ⟨h.mc.below hb,h.tk.trans<|yt hb _ _,h.be.trans<|hb.mono a⟩
theorem kvy.v:∀{rs:List PRule}{cs:List Value}(i:Nat)(hi:i<rs.length),kvy lo w rs cs ->
  ∃pa pn pc gp ba bn bc bcs,(cs[i*5]?=some (.string (rs[i]).y.x)/\cs[i*5+1]?=some (.int .i64 (rs[i]).y.v)/\cs[i*5+2]?=some (.slice pa pn pc)/\cs[i*5+3]?=some (.pointer gp)/\cs[i*5+4]?=some (.slice ba bn bc))/\w.ownsRow lo 352 4 (.slice pa pn pc) (rs[i]).u.length (uq (rs[i]).u)/\XIs lo w (rs[i]).guard (.pointer gp)/\w.ownsRow lo 334 9 (.slice ba bn bc) (kqq (rs[i]).S) bcs/\BIs lo none w (rs[i]).S bcs
 |[],_,i,hi,_=>by grind
 |r::rs,cs,0,_,⟨pa,pn,pc,gp,ba,bn,bc,bcs,rest,e,h1,h2,h3,h4,h5⟩=>by grind
 |r::rs,cs,i+1,hi,⟨pa,pn,pc,gp,ba,bn,bc,bcs,rest,e,h1,h2,h3,h4,h5⟩=>by
  subst e;obtain⟨a,b,c,d,f,g,h,j,⟨q,s,t,u,v⟩,k,l,m,p⟩:=kvy.v i (by simp_all) h5;refine⟨a,b,c,d,f,g,h,j,⟨?_,?_,?_,?_,?_⟩,k,l,m,p⟩
  ·grind
  ·grind
  ·grind
  ·grind
  grind
theorem kvg.v:∀{rs:List PRule}{cs:List Value}(i:Nat)(hi:i<rs.length),kvg lo w rs cs ->
  ∃pa pn pc gp,(cs[i*4]?=some (.string (rs[i]).y.x)/\cs[i*4+1]?=some (.int .i64 (rs[i]).y.v)/\cs[i*4+2]?=some (.slice pa pn pc)/\cs[i*4+3]?=some (.pointer gp))/\w.ownsRow lo 352 4 (.slice pa pn pc) (rs[i]).u.length (uq (rs[i]).u)/\XIs lo w (rs[i]).guard (.pointer gp)
 |[],_,i,hi,_=>by grind
 |r::rs,cs,0,_,⟨pa,pn,pc,gp,rest,e,h1,h2,h5⟩=>by grind
 |r::rs,cs,i+1,hi,⟨pa,pn,pc,gp,rest,e,h1,h2,h5⟩=>by subst e;obtain⟨a,b,c,d,⟨f,g,h,j⟩,k,l⟩:=kvg.v i (by simp_all) h5;grind
theorem jwu:Tk (some b) bad w (w.setCell ⟨b,j,none⟩ vv):=
 ⟨rfl,rfl,rfl,ay,λi o h1 a _=>by grind [Below.heap_setCell]⟩
theorem infoBld:(prog.info? 305).map (·.size)=some 2:=au
theorem infoByte:(prog.info? 5).map (λi=>(i.zero,i.size,i.bytes))=some (some (.int .u8 0),1,1):=au
theorem Tryz.liesBld:liesAt prog prog.depth 305 (2 / prog.cellsOf 305) 0 305 1=true:=au
theorem Tryz.cellsByte:prog.cellsOf 5=1:=au
theorem jz8(c:w.cell? ⟨b,0,none⟩=some (.pointer (some ⟨b,0,none⟩))):Calls prog 219 #[.pointer (some ⟨b,0,none⟩)] w λe w'=>e=.returned (.tuple #[])/\w'=w:=by obtain⟨j,a,_⟩:=wX.1 infoBld;go_wp2;rw[Lib.run_neq_ptr_same w _ underlying303 a];go_wp2;go_end0;simp
theorem zwf(g:w.cell? ⟨b,0,none⟩=some (.pointer none))(a:w.shape? b=some (305,2))(d:w.frozen? ⟨b,0,none⟩=false):Calls prog 219 #[.pointer (some ⟨b,0,none⟩)] w λe w'=>e=.returned (.tuple #[])/\w'=w.setCell ⟨b,0,none⟩ (.pointer<|some ⟨b,0,none⟩):=by obtain⟨j,c,f⟩:=wX.1 infoBld;go_wp2;rw[Lib.run_to_unsafe w ⟨b,0,none⟩ underlying303 underlying389 c aj a (Nat.zero_lt_succ 1)];simp only[Result.andThen];rw[Oper.upon_value];go_wp2;rw[run_callFunc_extern func248 au au au (e:=Extern.AbiNoEscape.same) au,Lib.run_noEscape];simp only[Result.andThen];rw[Oper.upon_value];go_wp2;rw[Lib.run_from_unsafe w ⟨b,0,none⟩ underlying389 underlying303 c a Tryz.liesBld];simp only[Result.andThen];rw[Oper.upon_value];go_wp2;go_end0;simp
theorem zj1(h:Lib.IsBuilder 305 5 B b bs w):og 219 #[.pointer (some ⟨b,0,none⟩)] w λe w'=>e=.returned (.tuple #[])/\(Lib.BuilderAt 305 5 B b (.pointer<|some ⟨b,0,none⟩) bs w'/\Below B w w'/\Tk (some b) [5] w w'):=by
 obtain h|h:=h
 ·refine(zwf h.cell0 h.shape h.frozen0).mono ?_;rintro e w' ⟨rfl,rfl⟩;exact⟨rfl,h.used _,(Below.refl B w).setCell (p:=⟨b,0,none⟩) h.1 _,jwu⟩
 ·refine(jz8 h.cell0).mono ?_;grind [Below.refl,Tk.refl]
theorem qq9(c:Int)(h:Lib.IsBuilder 305 5 B b bs w)(H:bs.length+1<=140737488355328)(J:B<=w.heap.size):Calls prog 164 #[.pointer (some ⟨b,0,none⟩),.int .u8 c] w λe w'=>e=.returned .nilIface/\(Lib.BuilderAt 305 5 B b (.pointer<|some ⟨b,0,none⟩) (bs++[.int .u8 c]) w'/\Below B w w'/\Tk (some b) [5] w w'):=by
 obtain⟨i0,hi,C,D,E⟩:=info_parts infoByte;go_in;go_wp21;refine(zj1 h).mono ?_;rintro e m ⟨rfl,h1,f,x⟩;obtain⟨F,v,s,d,z⟩:=h1;have c1:m.cell? ⟨b,1,none⟩=some v:=by rw[Lib.cell_of_heap s];rfl
 go_wp2_with (at_builtin;refine wpList_append_own _ rfl _ _ 83 rfl B 5 i0 (.int .u8 0) 1 1 underlying83 hi C D E rfl ak _ _ _ rfl (d.alloc _) ⟨m.heap.size,0,none⟩ 1 1 [.int .u8 c] rfl rfl ?c1 ?c2 ?c3 ?c4 ?c5 ?_)
 case c1=>
  intro j u i;match j,i with
  |0,i=>simp at i;subst i;simp[Addr.add]
 case c2=>intro u A;simp at A;subst A;rfl
 case c3=>unfold maxLen;omega
 case c4=>omega
 case c5=>have:=f.size;simp;omega
 intro I t l a _;have y:b<m.heap.size:=by grind
 have q:t.heap[b]?=some (.cells #[.pointer (some ⟨b,0,none⟩),v] 305 (0,0)):=by rw[a.block b ah (λe=>z e.symm),Lib.alloc_old m _ b y];exact s
 have d1:t.cell? ⟨b,1,none⟩=some v:=by rw[Lib.cell_of_heap q];rfl
 have f1:t.frozen? ⟨b,1,none⟩=false:=Lib.frozen_of_heap q 1;obtain⟨g,cap,rfl⟩:∃g cap,I=.slice (some ⟨g,0,none⟩) (bs.length+1) cap:=by
  obtain⟨_,K⟩|⟨g,cap,cur,hv,_⟩:=l.2
  ·omega
  simp_all
 go_wp2;go_ret;refine⟨rfl,?_,?_,((x.alloc _).trans<|kz4 (d.alloc _) a ak).trans<|jwu⟩
 ·grind [Lib.BuilderAt.put]
 ·exact((f.alloc aj _).grown a (by have:=f.size;simp;omega)<|λk G=>(d.lt k G).1).setCell (p:=⟨b,1,none⟩) F _
theorem qvb(s:ByteArray)(h:Lib.IsBuilder 305 5 B b bs w)(F:bs.length+s.size<=140737488355328)(H:B<=w.heap.size):Calls prog 220 #[.pointer (some ⟨b,0,none⟩),.string s] w λe w'=>e=.returned (.tuple #[.int .i64 s.size,.nilIface])/\(Lib.BuilderAt 305 5 B b (.pointer<|some ⟨b,0,none⟩) (bs++Lib.strCells s) w'/\Below B w w'/\Tk (some b) [5] w w'):=by
 obtain⟨i0,hi,x,y,z⟩:=info_parts infoByte;go_in;go_wp21;refine(zj1 h).mono ?_;rintro e C ⟨rfl,h1,m,q⟩;obtain⟨D,v,i,c,u⟩:=h1;have c1:C.cell? ⟨b,1,none⟩=some v:=by rw[Lib.cell_of_heap i];rfl
 go_wp2_with (at_builtin;refine Lib.wpList_append_own_string _ rfl _ _ 83 9 rfl B 5 i0 underlying83 underlying9 hi x y z _ _ _ rfl c s rfl ?c3 ?c4 ?c5 ?_)
 case c3=>unfold maxLen;omega
 case c4=>omega
 case c5=>grind
 intro G j d a _;have t:b<C.heap.size:=by grind
 have f:j.heap[b]?=some (.cells #[.pointer (some ⟨b,0,none⟩),v] 305 (0,0)):=by rw[a.block b t (λe=>u e.symm)];exact i
 have d1:j.cell? ⟨b,1,none⟩=some v:=by rw[Lib.cell_of_heap f];rfl
 have f1:j.frozen? ⟨b,1,none⟩=false:=Lib.frozen_of_heap f 1;obtain⟨l,A,cap,rfl⟩:∃l A cap,G=.slice l A cap:=by
  obtain⟨hv,_⟩|⟨g,cap,cur,hv,_⟩:=d.2
  ·simp_all
  simp_all
 go_wp2;go_ret2;refine⟨rfl,?_,?_,(q.trans<|kz4 c a ak).trans<|jwu⟩
 ·grind [Lib.BuilderAt.put,Lib.strCells_length]
 ·exact(m.grown a aj<|λk E=>(c.lt k E).1).setCell (p:=⟨b,1,none⟩) D _
theorem jxy(h:Lib.IsBuilder 305 5 B b (Lib.byteCells a8) w)(l:a8≠[]):Calls prog 166 #[.pointer (some ⟨b,0,none⟩)] w λe w'=>e=.returned (.string ⟨a8.toArray⟩)/\Below B w w':=by
 obtain⟨p,D,v,d,c,C⟩:∃p,Lib.BuilderAt 305 5 B b p (Lib.byteCells a8) w:=by
  obtain h|h:=h
  ·grind
  grind
 have z:a8.length≠0:=by simp_all
 rw[Lib.byteCells_length]at c;obtain⟨g,cap,cur,rfl,u,m,A,f,y,k⟩:∃g cap cur,v=.slice (some ⟨g,0,none⟩) a8.length cap/\B<=g/\w.heap[g]?=some (.cells cur 5 (0,0))/\a8.length<=cap/\cap<=maxLen/\cur.size=cap*1/\cur.toList.take (a8.length*1)=Lib.byteCells a8:=by
  obtain⟨_,E⟩|⟨g,cap,cur,hv,r⟩:=c.2
  ·omega
  ·exact⟨g,cap,cur,hv,r⟩
 have c1:w.drew.cell? ⟨b,1,none⟩=some (.slice (some ⟨g,0,none⟩) a8.length cap):=by have:w.drew.heap[b]?=some (.cells #[p,.slice (some ⟨g,0,none⟩) a8.length cap] 305 (0,0)):=d;rw[Lib.cell_of_heap this];rfl
 have s:(Builtin.unsafeSliceData_ #[83] 367 #[.slice (some ⟨g,0,none⟩) a8.length cap]).run prog w.drew=.ok (.pointer<|some ⟨g,0,none⟩) w.drew:=
  Lib.run_unsafeSliceData_row _ _ _ _ _ _ aj
 have t:(Builtin.unsafeString_ #[367,3] 9 #[.pointer (some ⟨g,0,none⟩),.int .i64 a8.length]).run prog w.drew=.ok (.string ⟨a8.toArray⟩) (w.drew.freeze ⟨g,0,none⟩ a8.length):=by refine Lib.run_unsafeString_row w.drew 367 3 9 5 underlying367 Tryz.cellsByte g cur.size (by have i:w.drew.heap[g]?=some (.cells cur 5 (0,0)):=m;simp[World.shape?,i]) a8 l aj (by unfold maxLen at f;omega) ?_;intro j x q;have:=c.cells (g:=g) rfl j (.int .u8 x.toNat) (by simp[Lib.byteCells,q]);simp_all
 go_wp2;go_region
 all_goals (go_wp2;go_ret;simp_all [Lib.below_freeze,Below.drew,Below.refl])
theorem jvs(h:Lib.IsBuilder 305 5 B b bs w)(hb:oq w w'):Lib.IsBuilder 305 5 B b bs w':=by
 have a:∀p,Lib.BuilderAt 305 5 B b p bs w->Lib.BuilderAt 305 5 B b p bs w':=λp ⟨e,v,h1,c,d⟩=>⟨e,v,(hb.block b<|wQ h1).trans h1,qj c hb,d⟩
 obtain h|h:=h
 ·exact .inl (a _ h)
 ·exact .inr (a _ h)
theorem xqk(h:Lib.IsBuilder 305 5 B b bs w):b<w.heap.size/\B<=b:=by
 obtain h|h:=h
 ·exact⟨h.lt,h.1⟩
 ·exact⟨h.lt,h.1⟩
end Go.Proofs.YtpmcnonmkghokaaGreatDoor

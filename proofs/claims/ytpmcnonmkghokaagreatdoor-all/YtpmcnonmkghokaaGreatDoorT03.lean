import Derived.Test.YtpmcnonmkghokaaGreatDoorT02
import Derived.CellFam
import Derived.Test.YtpmcnonmkghokaaGreatDoorT00
import Derived.Test.YtpmcnonmkghokaaGreatDoorT01
import Derived.Maps.Own
import Derived.BigRegion
set_option maxRecDepth 100000
set_option maxHeartbeats 8000000
set_option linter.unusedVariables false
set_option linter.unusedSimpArgs false
namespace Go.Proofs.YtpmcnonmkghokaaGreatDoor
open Go.Proofs.Tryz Go.RowKit
attribute [local go_sem ↓] Go.wp_at_zero Go.wp_at_succ
attribute [local simp] kzy zjw kjs
variable {es:Array MapEntry}{i2:Bool}{b8:ByteArray}{a z:Int}{α:Type}{f:Int->Nat->α->Int}{i1 ms:List Int}{g4:List PP}{b5:List PRule}{L pre:List Tok}{b7 lit:List UInt8}{xs:List Value}{items l:List α}{fin:List α×RS}{g6:MapEntry}{m:MdL}{B M P R c g k lo n nb size:Nat}{no:Option Nat}{a9:PB}{r:PR}{b6:PTree}{s st:RS}{d7:Tok}{sv v x x0 x1 x2 x3 x4:Value}{W u w w' wr:World}{e:α}
def qj9:PX->ByteArray
 |.nil=>kjx
 |.node _ _ x _ _=>x.y.x
def qkh(v:Int)(a b:ByteArray):Bool:=!(decide (v<0)||a.toList.isEmpty||(!(a.toList==b.toList)&&(!(b.toList==mG)||!kx3 a)))
def kzi(t:PTree)(l:List PP):PB->Bool
 |.nil=>true
 |.node _ _ a .nil n=>qkh (zx (zf t) (qj9 a.N).toList) (kq5 t l a.N) (kq5 t l a.value)&&kzi t l n
 |.node _ _ a (.node _ _ _ b e) n=>((kq5 t l a.A).toList==nY)&&kzi t l b&&kzi t l e&&kzi t l n
def kvt:PB->Nat
 |.nil=>0
 |.node _ _ _ _ n=>kvt n+1
theorem jg.T:∀{b:PB}{ps:List Value},jg lo no w b ps->ps.length=kvt b
 |.nil,ps,h=>by
  have:ps=[]:=h;subst this;rfl
 |.node _ _ a .nil n,ps,⟨k,vp,vv,vi,qs,e,hl,hh,ha,hn⟩=>by rw[e,Qb,hn.T];rfl
 |.node _ _ a (.node _ _ _ t e) n,ps,⟨k,vp,vv,vi,vt,ve,qt,qe,qs,e1,hl,hh,ha,ht,he,hn⟩=>by rw[e1,Qb,hn.T];rfl
def SOk:PB->Prop
 |.nil=>True
 |.node _ _ a .nil n=>isNil a.A=true/\isNil a.N=false/\XOk a.N/\isNil a.value=false/\XOk a.value/\SOk n
 |.node _ _ a (.node _ _ _ t e) n=>isNil a.A=false/\XOk a.A/\(SOk t/\kvt t<=1000)/\(SOk e/\kvt e<=1000)/\SOk n
def WellSaid(b:PB):Prop:=∀(w:World)(T lo lo':Nat)(t:PTree)(n:Tok)(l:List PP)(va:Option Addr)(vn vc:Nat)(vg:Option Addr)(ba:Option Addr)(bn bc:Nat)(v:Value)(ps:List Value),SOk b->kqc w T t->TreeOk t->TreeFit t->(∀p∈l,p.Q.x.size<=800) ->
 w.ownsRow lo 236 6 (.slice va vn vc) l.length (kjm l)->l.length<=801->w.ownsRow lo' 245 1 v ps.length ps->jg lo' none w b ps->ps.length<=1000 ->
 Calls prog 68 #[.pointer (some ⟨T,0,none⟩),qk4 n (.slice va vn vc) (.pointer vg)<|.slice ba bn bc,v] w λe w'=>e=.returned (.bool<|kzi t l b)/\oq w w'
def Inner:PB->Prop
 |.nil=>True
 |.node _ _ _ .nil n=>Inner n
 |.node _ _ _ (.node _ _ _ t e) n=>WellSaid t/\WellSaid e/\Inner n
theorem jg.below(h:jg lo no w a9 xs)(hb:oq w w'):jg lo no w' a9 xs:=h.stay λk _ d=>hb.block k d
def zyk(d:World)(t:PTree)(l:List PP)(b:PB)(lo:Nat)(ps:List Value)(i:Value)(wr:World):Prop:=
 ∃(k:Nat)(rest:PB),k<=ps.length/\i=i_ k/\jg lo none wr rest (ps.drop k)/\SOk rest/\Inner rest/\kzi t l rest=kzi t l b/\oq d wr
theorem zxe(hI:Inner a9):WellSaid a9:=by
 intro w T lo lo' t n l va vn vc vg ba bn bc v ps hS h ht Y K hp hl hv E cA;obtain⟨a,cap,rfl,(HV:Hid _)⟩:=kq8 hv;have aE:=oz<|Xk w (.cells #[.string n.t,.string n.x,.int .i64 n.v,.slice va vn vc,.pointer vg,.slice ba bn bc] 147);have L:=jZ w (o:=.cells #[.string n.t,.string n.x,.int .i64 n.v,.slice va vn vc,.pointer vg,.slice ba bn bc] 147);have aM:=show zyk (w.alloc<|.cells #[.string n.t,.string n.x,.int .i64 n.v,.slice va vn vc,.pointer vg,.slice ba bn bc] 147) t l a9 lo' ps (.int .i64 0) (w.alloc<|.cells #[.string n.t,.string n.x,.int .i64 n.v,.slice va vn vc,.pointer vg,.slice ba bn bc] 147) from
  ⟨0,a9,jG,rfl,by rw[List.drop_zero];exact E.below L,hS,hI,rfl,bR⟩
 have HT:=h.below L;have HP:=qj hp L;have aF:=wQ aE;have bD:=oz (show ∀k,k<ps.length->∀g,a=some (Ad g 0)->g<w.heap.size from λk hk g hg=>by have ⟨g',e1,X⟩:=HV k hk;rw[hg]at e1;cases e1;have:=X k aj;rw[wW hk]at this;exact block_lt_of_cell this)
 unfold qk4;go_in;go_wp2;generalize bM:w.alloc (.cells #[.string n.t,.string n.x,.int .i64 n.v,.slice va vn vc,.pointer vg,.slice ba bn bc] 147)=W0 at aM HT HP aE L aF |-;clear bM;go_loopw [7] (λi wr=>zyk W0 t l a9 lo' ps i wr) (λi _=>ps.length-(intOf i).toNat)
 exact aM;obtain⟨k,rest,hk,rfl,E,f,x,(P:Hid _),I⟩:=hrel;have hX:=(I.block w.heap.size aF).trans aE;have ⟨m0,m1,m2,m3,m4,m5,_⟩:=kzh hX;have J:=L.trans<|I.mono L.size;have M:=HT.below I;have Q:=qj HP I;clear hX;match rest,E,f,x,P with
 |.nil,E,f,x,P=>
  have B:ps.drop k=[]:=E;have bY:ps.length<=k:=by simpa using B
  have bZ:¬k<ps.length:=aj;clear B;go_wp2;go_ret;exact⟨um (by rw[<-ku P];rfl),J⟩
 |.node _ _ la .nil nx,E,f,x,P=>
  have⟨kd,vp,vv,vi,qs,B,_,D,u,aB⟩:=E;have a0:k<ps.length:=by
   obtain h|h:=JY k ps.length
   ·exact h
   ·rw[Qa h]at B;cases B
  have U:ps[k]?=some (pT kd):=by have:=congrArg (λl=>l[0]?) B;simpa using this
  have V:ps.drop (k+1)=qs:=by have:=congrArg List.tail B;simpa using this
  obtain⟨g,rfl,X⟩:=ku HV k a0;have aH:wr.cell? (Ad g k)=some (pT kd):=by have h9:w.cell? (Ad g k)=some (pT kd):=(X k aj).trans U;exact wU J h9
  have ⟨d0,d1,d2,d3,d4,_⟩:=kzk D;have aI:vi=.pointer none:=by
   have h1:=u.2.2;cases S:la.A with
   |nil=>rw[S]at h1;exact h1
   |node _ _ _ _ _=>have:=f.1;rw[S]at this;cases this
  subst aI;go_wp2;clear X B U;match hla:la.N,u.1,f.2.1,f.2.2.1 with
  |.nil,_,h0,_=>cases h0
  |.node pi pj px pa' pb',hNP,_,hXP=>
  have b9:=hNP;have⟨kp,bU,bV,bS,_,aS,_,_⟩:=hNP;subst bS;have ⟨n0,n1,n2,n3,n4,_⟩:=zzh (aS:wr.heap[kp]?=some (.cells #[.string px.op,bU,bV,.string px.y.t,.string px.y.x,.int .i64 px.y.v,.string px.c.t,.string px.c.x,.int .i64 px.c.v,.int .i64 px.n] _ (0,0)));have bA:=u.2.1;have bO:=f.2.2.2.1;have bH:=f.2.2.2.2.1;have aD:=f.2.2.2.2.2;have⟨aA,bG⟩:=jS x hXP;have aR:=ku P;rw[kzi,hla]at aR;clear aS D aR n0 n1 n2 n3;go_region_held3 (λw'=>w'.cell? (Ad w.heap.size 0)=some (.string n.t)/\w'.cell? (Ad w.heap.size 1)=some (.string n.x)/\w'.cell? (Ad w.heap.size 2)=some (.int .i64 n.v)/\w'.cell? (Ad w.heap.size 3)=some (.slice va vn vc)/\w'.cell? (Ad w.heap.size 4)=some (.pointer vg)/\w'.cell? (Ad w.heap.size 5)=some (.slice ba bn bc)/\w'.cell? (Ad kd 0)=some (pT kp))
   (first|go_keep|(go_split_ands;refine⟨?_,?_,?_,?_,?_,?_,?_⟩<;>(refine wU N ?_;first|assumption|simp[*])))
   ((go_at_call 67;refine zM (qjx (.node pi pj px pa' pb') _ T lo lo' t n l va vn vc vg ba bn bc _ rfl bG (M.below<|bR.drew) ht Y K (qj Q<|bR.drew) hl<|b9.below (bR.drew)) λZ N=>?_))
  have d:oq wr Z:=bR.drew.trans N;have bI:=wU d d1;have aP:=wU d d0;have aU:=wU d n4;have a1:=wU d m0;have a2:=wU d m1;have a3:=wU d m2;have a4:=wU d m3;have a5:=wU d m4;have a6:=wU d m5;have aJ:=d.size;have bK:=qzr Y K<|.node pi pj px pa' pb';clear d0 d1 d2 d3 d4 n4 m0 m1 m2 m3 m4 m5 aH;go_wp2
  go_region_held3 (λw'=>w'.cell? (Ad w.heap.size 0)=some (.string n.t)/\w'.cell? (Ad w.heap.size 1)=some (.string n.x)/\w'.cell? (Ad w.heap.size 2)=some (.int .i64 n.v)/\w'.cell? (Ad w.heap.size 3)=some (.slice va vn vc)/\w'.cell? (Ad w.heap.size 4)=some (.pointer vg)/\w'.cell? (Ad w.heap.size 5)=some (.slice ba bn bc)/\w'.cell? (Ad kd 1)=some vv)
   (first|go_keep|(go_split_ands;refine⟨?_,?_,?_,?_,?_,?_,?_⟩<;>(refine wU O ?_;first|assumption|simp[*])))
   ((go_at_call 67;refine zM (qjx la.value _ T lo lo' t n l va vn vc vg ba bn bc _ bO bH ((M.below d).below<|bR.drew) ht Y K (qj (qj Q d)<|bR.drew) hl<|(bA.below d).below (bR.drew)) λw2 O=>?_))
  have j:oq Z w2:=bR.drew.trans O;have aV:=wU j aP;have b5:=wU j aU;have q:=d.trans<|j.mono aJ;have bL:=qzr Y K la.value;clear aP bI aU a1 a2 a3 a4 a5 a6;go_wp21
  refine zM (qjt px.y.x (M.below q) ht.z) ?_;rintro w3 rfl;go_wp21;refine zM (qjg (kq5 t l<|.node pi pj px pa' pb') aj) ?_;rintro w4 rfl;have s:Hid (kzi t l (.node 0 0 la .nil nx)=(qkh (zx (zf t) px.y.x.toList) (kq5 t l<|.node pi pj px pa' pb') (kq5 t l la.value)&&kzi t l nx)):=by rw[kzi,hla];rfl
  generalize kq5 t l (.node pi pj px pa' pb')=A at bK s |-;generalize kq5 t l la.value=Bv at bL s |-;generalize zx (zf t) px.y.x.toList=z at s |-;have R:Hid (kzi t l a9=(qkh z A Bv&&kzi t l nx)):=P.symm.trans s;have H:=J.trans<|q.mono J.size;have a8:=I.trans<|q.mono I.size;have W:=aB.below q;have aC:=oz V;clear V aV b5;have out:qkh z A Bv=false->Hid (kzi t l a9=false):=λD=>by rw[ku R,D];rfl
  have F:qkh z A Bv=true->Hid (zyk W0 t l a9 lo' ps (.int .i64<|(k:Int)+1) w4):=λD=>
   ⟨k+1,nx,aj,eu,by rw[ku aC];exact W,aD,aA,by rw[ku R,D];rfl,a8⟩
  by_cases c1:z<0
  ·have p:=out (by simp[qkh,c1]);clear out F;go_wp2;go_ret;exact⟨um p.symm,H⟩
  ·cases c2:A.toList.isEmpty
   ·cases c3:(A.toList==Bv.toList)
    ·cases c4:(Bv.toList==mG)
     ·have p:=out (by simp only[qkh,c2,c3,c4];simp);clear out F;go_wp2;go_ret;exact⟨um p.symm,H⟩
     ·cases c5:kx3 A
      ·have p:=out (by simp only[qkh,c2,c3,c4,c5];simp);clear out F;go_wp2;go_ret;exact⟨um p.symm,H⟩
      ·have p:=F (by simp only[qkh,c2,c3,c4,c5];simp;omega);clear out F;go_wp2;exact rdM p
    ·have p:=F (by simp only[qkh,c2,c3];simp;omega);generalize kx3 A=y;clear out F;go_wp2;exact rdM p
   ·have p:=out (by simp only[qkh,c2];simp);clear out F;go_wp2;go_ret;exact⟨um p.symm,H⟩
 |.node _ _ la (.node _ _ _ bt be) nx,E,f,x,P=>
  have⟨kd,vp,vv,vi,vt,ve,qt,qe,qs,B,_,D,u,⟨aN,_,aO⟩,⟨aK,_,aL⟩,aT⟩:=E;have a0:k<ps.length:=by
   obtain h|h:=JY k ps.length
   ·exact h
   ·rw[Qa h]at B;cases B
  have U:ps[k]?=some (pT kd):=by have:=congrArg (λl=>l[0]?) B;simpa using this
  have V:ps.drop (k+1)=qs:=by have:=congrArg List.tail B;simpa using this
  obtain⟨g,rfl,X⟩:=ku HV k a0;have bW:=ku bD k a0 g rfl;have aH:wr.cell? (Ad g k)=some (pT kd):=by have h9:w.cell? (Ad g k)=some (pT kd):=(X k aj).trans U;exact wU J h9
  have ⟨d0,d1,d2,d3,d4,_⟩:=kzk D;have bX:=wQ D;have aI:∃ki,vi=pT ki:=by
   have h1:=u.2.2;cases S:la.A with
   |nil=>have:=f.1;rw[S]at this;cases this
   |node _ _ _ _ _=>rw[S]at h1;have⟨ki,_,_,e,_⟩:=h1;exact⟨ki,e⟩
  obtain⟨ki,rfl⟩:=aI;have⟨b8,bF⟩:=jS u.2.2 f.2.1;have bN:=f.1;have⟨bC,bB,aD,b7,b6,aA,aB⟩:=jj f.2.2.1.1 f.2.2.2.1.1 f.2.2.2.2 x.1 x.2.1 x.2.2 aT;obtain⟨ta,tl,tc,rfl⟩:=qh aN;obtain⟨ea,el,ec,rfl⟩:=qh aK;have bQ:qt.length<=1000:=by rw[aO.T];exact f.2.2.1.2
  have bP:qe.length<=1000:=by rw[aL.T];exact f.2.2.2.1.2
  clear X B U u f x aT D;go_wp2;go_region_held3 (λw'=>w'.cell? (Ad w.heap.size 0)=some (.string n.t)/\w'.cell? (Ad w.heap.size 1)=some (.string n.x)/\w'.cell? (Ad w.heap.size 2)=some (.int .i64 n.v)/\w'.cell? (Ad w.heap.size 3)=some (.slice va vn vc)/\w'.cell? (Ad w.heap.size 4)=some (.pointer vg)/\w'.cell? (Ad w.heap.size 5)=some (.slice ba bn bc)/\w'.cell? (Ad kd 2)=some (pT ki))
   (first|go_keep|(go_split_ands;refine⟨?_,?_,?_,?_,?_,?_,?_⟩<;>(refine wU N ?_;first|assumption|simp[*])))
   ((go_at_call 67;refine zM (qjx la.A _ T lo lo' t n l va vn vc vg ba bn bc _ bN bF (M.below<|bR.drew) ht Y K (qj Q<|bR.drew) hl<|b8.below (bR.drew)) λZ N=>?_))
  have m:oq wr Z:=bR.drew.trans N;have bJ:=wU m d3;have aQ:=wU m d4;have a1:=wU m m0;have a2:=wU m m1;have a3:=wU m m2;have a4:=wU m m3;have a5:=wU m m4;have a6:=wU m m5;have aJ:=m.size;have d:=oz m;clear N m d0 d1 d2 d3 d4 m0 m1 m2 m3 m4 m5 aH;go_wp2;go_region_held3 (λw'=>w'.cell? (Ad w.heap.size 0)=some (.string n.t)/\w'.cell? (Ad w.heap.size 1)=some (.string n.x)/\w'.cell? (Ad w.heap.size 2)=some (.int .i64 n.v)/\w'.cell? (Ad w.heap.size 3)=some (.slice va vn vc)/\w'.cell? (Ad w.heap.size 4)=some (.pointer vg)/\w'.cell? (Ad w.heap.size 5)=some (.slice ba bn bc)/\w'.cell? (Ad kd 3)=some (.slice ta tl tc))
   (first|go_keep|(go_split_ands;refine⟨?_,?_,?_,?_,?_,?_,?_⟩<;>(refine wU O ?_;first|assumption|simp[*])))
   ((go_at_call 68;refine zM (b7 _ T lo lo' t n l va vn vc vg ba bn bc _ qt bC ((M.below d).below<|bR.drew) ht Y K (qj (qj Q d)<|bR.drew) hl (qj (qj aN d)<|bR.drew) ((aO.below d).below<|bR.drew) bQ) λw2 O=>?_))
  have j:oq Z w2:=bR.drew.trans O;have aW:=wU j aQ;have aX:=wU j a1;have aY:=wU j a2;have aZ:=wU j a3;have b2:=wU j a4;have b3:=wU j a5;have b4:=wU j a6;have G:=d.trans<|j.mono aJ;have bT:=G.size;have q:=oz G;clear O j G bJ aQ a1 a2 a3 a4 a5 a6;go_wp2
  go_region_held3 (λw'=>w'.cell? (Ad w.heap.size 0)=some (.string n.t)/\w'.cell? (Ad w.heap.size 1)=some (.string n.x)/\w'.cell? (Ad w.heap.size 2)=some (.int .i64 n.v)/\w'.cell? (Ad w.heap.size 3)=some (.slice va vn vc)/\w'.cell? (Ad w.heap.size 4)=some (.pointer vg)/\w'.cell? (Ad w.heap.size 5)=some (.slice ba bn bc)/\w'.cell? (Ad kd 4)=some (.slice ea el ec))
   (first|go_keep|(go_split_ands;refine⟨?_,?_,?_,?_,?_,?_,?_⟩<;>(refine wU aG ?_;first|assumption|simp[*])))
   ((go_at_call 68;refine zM (b6 _ T lo lo' t n l va vn vc vg ba bn bc _ qe bB ((M.below q).below<|bR.drew) ht Y K (qj (qj Q q)<|bR.drew) hl (qj (qj aK q)<|bR.drew) ((aL.below q).below<|bR.drew) bP) λw3 aG=>?_))
  have G:oq w2 w3:=bR.drew.trans aG;have a7:=oz<|q.trans (G.mono bT);clear aG G aW aX aY aZ b2 b3 b4;have s:Hid (kzi t l (.node 0 0 la (.node 0 0 noS bt be) nx)=(((kq5 t l la.A).toList==nY)&&kzi t l bt&&kzi t l be&&kzi t l nx)):=rfl;generalize kq5 t l la.A=C at s |-;generalize kzi t l bt=y1 at s |-;generalize kzi t l be=y2 at s |-;have⟨R,H,a8,W,aC⟩:=jz (P.symm.trans s:kzi t l a9=((C.toList==nY)&&y1&&y2&&kzi t l nx)) (J.trans (a7.mono J.size)) (I.trans (a7.mono I.size)) (aB.below a7) V;clear s P V;have out:((C.toList==nY)&&y1&&y2)=false->Hid (kzi t l a9=false):=λD=>by rw[ku R,D];rfl
  have F:((C.toList==nY)&&y1&&y2)=true->Hid (zyk W0 t l a9 lo' ps (.int .i64<|(k:Int)+1) w3):=λD=>
   ⟨k+1,nx,aj,eu,by rw[ku aC];exact W,aD,aA,by rw[ku R,D];rfl,a8⟩
  cases c1:(C.toList==nY)
  ·have p:=out (by rw[c1];rfl);clear out F;go_wp2;go_ret;exact⟨um p.symm,H⟩
  ·cases y1
   ·have p:=out ay;clear out F;go_wp2;go_ret;exact⟨um p.symm,H⟩
   ·cases y2
    ·have p:=out ay;clear out F;go_wp2;go_ret;exact⟨um p.symm,H⟩
    ·have p:=F (by rw[c1];rfl);clear out F;go_wp2;exact rdM p
theorem qkd:∀b:PB,Inner b
 |.nil=>trivial
 |.node _ _ _ .nil n=>qkd n
 |.node _ _ _ (.node _ _ _ t e) n=>⟨zxe<|qkd t,zxe<|qkd e,qkd n⟩
theorem pkw(b:PB):WellSaid b:=zxe<|qkd b
def kwa(a:SLab):List Tok:=(yu a.N++yu a.value)++yu a.A
def uo:PB->List Tok
 |.nil=>[]
 |.node _ _ a .nil n=>kwa a++uo n
 |.node _ _ a (.node _ _ _ t e) n=>((kwa a++uo t)++uo e)++uo n
def qvc(b:PB):Prop:=∀(w:World)(lo:Nat)(v:Value)(ps:List Value),(uo b).length<=90000->w.ownsRow lo 245 1 v ps.length ps->jg lo none w b ps->ps.length<=1000 ->
 Calls prog 116 #[v] w λe w'=>∃u,e=.returned u/\w'.ownsRow w.heap.size 142 3 u (uo b).length (uw<|uo b)/\oq w w'
def pkq:PB->Prop
 |.nil=>True
 |.node _ _ _ .nil n=>pkq n
 |.node _ _ _ (.node _ _ _ t e) n=>kvt t<=1000/\kvt e<=1000/\pkq n
def qqk:PB->Prop
 |.nil=>True
 |.node _ _ _ .nil n=>qqk n
 |.node _ _ _ (.node _ _ _ t e) n=>qqk t/\qqk e/\kvt t<=1000/\kvt e<=1000/\qqk n
theorem zzu:∀{b:PB},qqk b->pkq b
 |.nil,_=>trivial
 |.node _ _ _ .nil n,h=>zzu (b:=n) h
 |.node _ _ _ (.node _ _ _ t e) n,h=>⟨h.2.2.1,h.2.2.2.1,zzu h.2.2.2.2⟩
def zvv:PB->Prop
 |.nil=>True
 |.node _ _ _ .nil n=>zvv n
 |.node _ _ _ (.node _ _ _ t e) n=>qvc t/\qvc e/\zvv n
def Ins(u:World)(v:Value)(l:List Tok):Prop:=Calls prog 116 #[v] u λe w'=>∃t,e=.returned t/\Tks w' u.heap.size t l/\oq u w'
def xj5(w:World)(b:PB)(lo:Nat)(ps:List Value)(l i:Value)(wr:World):Prop:=
 ∃(k:Nat)(rest:PB)(acc:List Tok),k<=ps.length/\i=i_ k/\jg lo none w rest (ps.drop k)/\pkq rest/\zvv rest/\acc++uo rest=uo b/\Tks wr w.heap.size l acc/\oq w wr
theorem jjs(w:World):Ins w nS []:=by
 go_enter func116,ntmps116
 go_wp21;refine wp_loop_rounds 1 ?_;rw[rounds_succ];go_wp2;go_ret;exact⟨_,rfl,oN,bR⟩
theorem qy2(j:zvv a9)(a1:pkq a9):qvc a9:=by
 intro w lo v ps a5 hv q aA;obtain⟨a,cap,rfl,(HV:Hid _)⟩:=kq8 hv;have a0:=show xj5 w a9 lo ps nS (i_ 0) w from⟨0,a9,[],jG,rfl,q,a1,j,rfl,oN,bR⟩
 go_in;go_wp21;go_loopw [3,4] (λl i wr=>xj5 w a9 lo ps l i wr) (λ_ i _=>ps.length-(intOf i).toNat);exact a0;obtain⟨k,rest,acc,hk,rfl,q,B,j,hA,h,m⟩:=hrel;obtain⟨_,_,_,rfl⟩:=qh h;cases rest with
 |nil=>
  have a7:ps.length<=k:=by simpa using(show ps.drop k=[] from q)
  have a8:¬k<ps.length:=aj;have HO:=show Tks wr w.heap.size _ (uo a9) from by rw[<-hA];simpa[uo] using h
  clear hA;go_wp2;go_ret;exact⟨_,rfl,HO,m⟩
 |node _ _ la c nx=>
  obtain⟨kd,vp,vv,vi,vt,D,x,lt,le,y,z,f,HT,HE,p,B,j,hA⟩:∃kd vp vv vi vt D x lt le,ps.drop k=pT kd::x/\Rw w kd #[vp,vv,vi,vt,D] 247/\qva lo w la vp vv vi /\
    Hid (∀u,oq w u->lt.length<=90000->Ins u vt lt)/\Hid (∀u,oq w u->le.length<=90000->Ins u D le)/\Hid (jg lo none w nx x)/\Hid (pkq nx)/\Hid (zvv nx)/\(acc++(yu la.N++(yu la.value++(yu la.A++(lt++le)))))++uo nx=uo a9:=by
   cases c with
   |nil=>
    have⟨kd,vp,vv,vi,x,y,_,z,f,p⟩:=q;exact⟨kd,vp,vv,vi,_,_,x,[],[],y,z,f,λu _ _=>jjs u,λu _ _=>jjs u,p,B,j,by rw[<-hA];simp[uo,kwa]⟩
   |node _ _ _ t e=>
    have⟨kd,vp,vv,vi,vt,D,qt,qe,x,y,_,z,f,⟨h1,_,h2⟩,⟨h3,_,h4⟩,p⟩:=q;exact⟨kd,vp,vv,vi,vt,D,x,uo t,uo e,y,z,f,λu s f=>j.1 u lo vt qt f (qj h1 s) (h2.below s) (by rw[h2.T];exact B.1),λu s f=>j.2.1 u lo D qe f (qj h3 s) (h4.below s) (by rw[h4.T];exact B.2.1),p,B.2.2,j.2.2,by rw[<-hA];simp[uo,kwa]⟩
  have J:k<ps.length:=by grind
  obtain⟨g,rfl,hc⟩:=ku HV k J;have E:=oz λ(u:World)(s:oq w u)=>(⟨wU s ((hc k aj).trans (by have:=congrArg (λl=>l[0]?) y;grind)),kzk<|(s.block kd<|wQ z).trans z⟩:Ce u g k (pT kd)/\_)
  have HX:=show jg lo none w nx (ps.drop<|k+1) from by rw[show ps.drop (k+1)=x from by have:=congrArg List.tail y;simpa using this];exact p
  have a6:acc.length+((yu la.N).length+((yu la.value).length+((yu la.A).length+(lt.length+le.length))))<=90000:=by grind
  have Z:=oz hA;have hz:=m.size;have d:=(ku E) wr m;clear hc y z hA;go_wp21;refine(qjw la.N _ lo _ aj<|f.1.below m).mono ?_;rintro e u1 ⟨t1,rfl,K,F⟩;have P:=F.size;have B1:=m.trans<|F.mono hz;have d1:=(ku E) u1 B1;obtain⟨_,_,_,rfl⟩:=qh K;go_wp21
  refine(qjw la.value _ lo _ aj<|f.2.1.below B1).mono ?_;rintro e u2 ⟨t2,rfl,L,G⟩;have a2:=G.size;have Q:=B1.trans<|G.mono aj;have d2:=(ku E) u2 Q;obtain⟨_,_,_,rfl⟩:=qh L;go_wp21
  refine(qjw la.A _ lo _ aj<|f.2.2.below Q).mono ?_;rintro e u3 ⟨t3,rfl,M,H⟩;have a3:=H.size;have R:=Q.trans<|H.mono aj;have d3:=(ku E) u3 R;obtain⟨_,_,_,rfl⟩:=qh M;go_wp21
  refine(HT u3 R aj).mono ?_;rintro e u4 ⟨t4,rfl,N,I⟩;have a4:=I.size;have S:=R.trans<|I.mono aj;have d4:=(ku E) u4 S;obtain⟨_,_,_,rfl⟩:=qh N;go_wp21
  refine(HE u4 S aj).mono ?_;rintro e u5 ⟨t5,rfl,O,A⟩;have aB:=A.size;have B5:=S.trans<|A.mono aj;obtain⟨_,_,_,rfl⟩:=qh O;have b4:=I.trans<|A.mono a4;have b3:=H.trans<|b4.mono a3;have b2:=G.trans<|b3.mono a2;have T1:=qj K b2;have T2:=qo P<|qj L b3;have T3:=qo (by omega:wr.heap.size<=_)<|qj M b4;have T4:=qo (by omega:wr.heap.size<=_)<|qj N A;have T5:=qo (by omega:wr.heap.size<=_) O;have C:=show Acc w u5 wr.heap.size w.heap.size u5 _ acc from⟨qj h<|F.trans (b2.mono P),B5,λk hk=>.inl<|kq9 h k hk,jV,λ_ _ _=>rfl⟩
  clear d d1 d2 d3 d4;go_wp2_with (at_builtin;refine C.app T1 ?_)
  intro v1 x1 T;obtain⟨_,_,_,rfl⟩:=qh T.xu;have X:=T.sz;go_wp2_with (at_builtin;refine T.app T2 ?_ (hn:=kZ))
  intro v2 x2 U;obtain⟨_,_,_,rfl⟩:=qh U.xu;have X:=U.sz;go_wp2_with (at_builtin;refine U.app T3 ?_ (hn:=kZ))
  intro v3 x3 V;obtain⟨_,_,_,rfl⟩:=qh V.xu;have X:=V.sz;go_wp2_with (at_builtin;refine V.app T4 ?_ (hn:=kZ))
  intro v4 x4 W;obtain⟨_,_,_,rfl⟩:=qh W.xu;have X:=W.sz;go_wp2_with (at_builtin;refine W.app T5 ?_ (hn:=kZ))
  intro v5 x5 Y;have HR:=show xj5 w a9 lo ps v5 (i_<|(k:Int)+1) x5 from⟨k+1,nx,_,J,eu,HX,B,j,by have:=ku Z;omega,Y.xu,Y.bel⟩
  go_wp2;grind [ku,intOf]
theorem qzz:∀b:PB,qqk b->zvv b
 |.nil,_=>trivial
 |.node _ _ _ .nil n,h=>qzz n h
 |.node _ _ _ (.node _ _ _ t e) n,h=>⟨qy2 (qzz t h.1)<|zzu h.1,qy2 (qzz e h.2.1)<|zzu h.2.1,qzz n h.2.2.2.2⟩
theorem vwh(h:qqk a9):qvc a9:=qy2 (qzz a9 h)<|zzu h
theorem dw.app:∀{rs ss:List PRule}{xs ys:List Value},dw lo w rs xs->dw lo w ss ys->dw lo w (rs++ss) (xs++ys)
 |[],ss,xs,ys,h,k=>by
  have:xs=[]:=h;simp_all
 |r::rs,ss,xs,ys,⟨a,b,c,q,zs,e,k1,k2,k3,k4,k5⟩,k=>⟨a,b,c,q,zs++ys,by simp_all,k1,k2,k3,k4,dw.app k5 k⟩
theorem dw.one:∀{rs:List PRule}{xs:List Value},dw lo w rs xs->∀y∈xs,y.oneCell'=true
 |[],xs,h=>by
  have:xs=[]:=h;simp_all
 |r::rs,xs,⟨vp,vg,vb,q,zs,e,k1,k2,k3,k4,k5⟩=>by
  intro y f;rw[e]at f;obtain h|h:=rV.1 f
  ·exact kk1 y h
  ·obtain rfl|h:=tZ.1 h
   ·obtain⟨_,_,_,rfl⟩:=qh k1;rfl
   ·obtain rfl|h:=tZ.1 h
    ·cases d:r.guard with
     |nil=>rw[d]at k2;have:y=.pointer none:=k2;subst this;rfl
     |node i j x a b=>rw[d]at k2;obtain⟨k,pa,g,rfl,_⟩:=k2;rfl
    ·obtain rfl|h:=tZ.1 h
     ·obtain⟨_,_,_,rfl⟩:=qh k3;rfl
     ·exact dw.one k5 y h
theorem dw.below(h:dw lo w b5 xs)(hb:oq w w'):dw lo w' b5 xs:=h.stay λk _ d=>hb.block k d
theorem qk3(h:kqc w lo b6)(H:b6.l.length<=801)(hn:b6.q.length<=801):Calls prog 66 #[pT lo] w λe w'=>∃v ys,e=.returned v/\w'.ownsRow w.heap.size 147 6 v (b6.l++b6.q).length ys /\
   dw (lo+1) w' (b6.l++b6.q) ys/\oq w w':=by
 have ⟨x,hi,p,q,s⟩:=info_parts infoRule;have⟨x0,x1,x2,x3,x4,y1,y3,y4,z,_,_,_,⟨t,j⟩,⟨u,l⟩⟩:=h;have ⟨_,_,_,I,D,_⟩:=kzk z;obtain⟨a3,l3,c3,rfl⟩:=qh t;obtain⟨a4,B,c4,rfl⟩:=qh u;go_in;go_wp2_with (at_builtin;refine kqv rfl 138 rfl w.heap.size 147 x _ 6 96 underlying138 hi p q s rfl ak nS 0 [] rfl (oN) (.slice a3 l3 c3) _ _ _ rfl t j.one iq aj jV ?_)
 intro J E f g _;have d:oq w E:=(Below.refl w.heap.size w).grown g aj (λk A=>by cases A);have G:=wU d D;have F:=d.size;obtain⟨b1,C,d1,rfl⟩:=qh f;go_wp2_with (at_builtin;refine kqv rfl 138 rfl w.heap.size 147 x _ 6 96 underlying138 hi p q s rfl ak (.slice b1 C d1) _ _ rfl f (.slice a4 B c4) _ _ _ rfl (qj (oz u) d) l.one iq aj aj ?_)
 intro K L y i _;have m:=d.grown i aj<|jo f;go_wp2
 go_ret;refine⟨_,y3++y4,rfl,?_,(j.app l).below m,m⟩;simp_all
theorem xwh{f:α->List Value}(e:∀j,j<items.length*size->w.cell? ⟨g,j,none⟩=(items.flatMap f)[j]?)(h:∀x,(f x).length=size)(d:k<items.length):∀j,j<size->w.cell? ⟨g,k*size+j,none⟩=(f items[k])[j]?:=λj i=>
 (e _ (by have:=Z7 size (d:k+1<=items.length);grind)).trans (kqo f size h items k j d i)
theorem xjd(h:l.length=n)(d:lo<n):∃x,l[lo]?=some x:=⟨l[lo]'aj,wW _⟩
theorem fam{f:α->List Value}(i:∀j,j<items.length*size->w.cell? ⟨g,j,none⟩=(items.flatMap f)[j]?)(d:∀x,(f x).length=size)(l:k<items.length)(m:oq w u):∀j,j<size->u.cell? ⟨g,k*size+j,none⟩=(f items[k])[j]?:=λj e=>by have ⟨x,h⟩:=xjd (d items[k]) e;rw[h];exact wU m<|(xwh i d l j e).trans h
theorem jyd{f:α->List Value}(d:∀j,j<items.length*size->w.cell? ⟨g,j,none⟩=(items.flatMap f)[j]?)(e:∀x,(f x).length=size)(l:k<items.length)(p:Kept B w u)(h:g≠B:=by omega)(m:g<w.heap.size:=by omega):∀j,j<size->u.cell? ⟨g,k*size+j,none⟩=(f items[k])[j]?:=λj i=>
 (Jk<|p.block g m h).trans (xwh d e l j i)
section
def zjy(s:PSet):List Tok:=[s.y]
def kx7(k:PKind):List Tok:=k.y::k.i
def zwg(v:PVar):List Tok:=[v.y]
def kyz(r:PRule):List Tok:=[r.y]
def qvf(t:PTree):List Tok:=t.j.flatMap zjy
def qvs(t:PTree):List Tok:=qvf t++t.p.flatMap kx7
def qj3(t:PTree):List Tok:=qvs t++t.z.flatMap zwg
def jc(t:PTree):List Tok:=qj3 t++(t.l++t.q).flatMap kyz
def qw5{α:Type}(w:World)(pre:List Tok)(f:α->List Tok)(items:List α)(l i:Value)(wr:World):Prop:=
 ∃k:Nat,k<=items.length/\i=i_ k/\Tks wr w.heap.size l (pre++(items.take k).flatMap f)/\oq w wr
theorem zkz(f:α->List Tok)(items:List α)(k:Nat)(h:k<items.length):(items.take (k+1)).flatMap f=(items.take k).flatMap f++f items[k]:=by grind [List.take_succ_eq_append_getElem]
theorem take_len(f:α->List Tok)(items:List α)(k:Nat)(h:k<items.length):((items.take k).flatMap f).length+(f items[k]).length<=(items.flatMap f).length:=by have h1:=congrArg List.length<|zkz f items k h;grind [List.take_append_drop]
theorem qw5.Y{f:α->List Tok}(h:k<items.length)(d:Tks wr w.heap.size v L)(hb:oq w wr)(e:L=pre++((items.take k).flatMap f++f items[k]):=by simp[zjy,kx7,zwg]):qw5 w pre f items v (i_<|(k:Int)+1) wr:=
 ⟨k+1,h,eu,by rw[zkz f items k h,<-e];exact d,hb⟩
theorem qw5.done{f:α->List Tok}(h:¬k<items.length)(d:Tks wr w.heap.size v (pre++(items.take k).flatMap f)):Tks wr w.heap.size v (pre++items.flatMap f):=by grind [List.take_of_length_le]
theorem qw5.start{f:α->List Tok}(d:Tks wr w.heap.size v pre)(hb:oq w wr):qw5 w pre f items v (i_ 0) wr:=
 ⟨0,jG,rfl,by simp_all,hb⟩
attribute [local simp] kwz ji kj7
theorem vxj{t:PTree}(h:kqc w lo t)(hs:t.j.length<=801)(N:t.p.length<=801)(hv:t.z.length<=801)(hr:t.l.length<=801)(hn:t.q.length<=801)(T:(jc t).length<=90000):Calls prog 112 #[pT lo] w λe w'=>∃v,e=.returned v/\w'.ownsRow w.heap.size 142 3 v (jc t).length (uw<|jc t)/\oq w w':=by
 have HT:=oz h;have⟨x0,x1,x2,x3,x4,y1,y3,y4,S,h0,⟨h1,HK⟩,h2,_⟩:=h;have L:=oz λ(u:World)(hu:oq w u)=>kzk<|(hu.block lo<|wQ S).trans S
 obtain⟨a0,a6,rfl,(U:Hid _)⟩:=kq8 h0;obtain⟨a1,a7,rfl,(V:Hid _)⟩:=kq8 h1;obtain⟨a2,a8,rfl,(W:Hid _)⟩:=kq8 h2;have M:(qvf t).length+(t.p.flatMap kx7).length+(t.z.flatMap zwg).length+((t.l++t.q).flatMap kyz).length<=90000/\(qvs t).length+(t.z.flatMap zwg).length+((t.l++t.q).flatMap kyz).length<=90000/\(qj3 t).length+((t.l++t.q).flatMap kyz).length<=90000:=by grind [jc,qj3,qvs]
 have R:=oz M;clear S T M;go_in;go_wp21;go_loopw [3,4] (λl i wr=>qw5 w ([]:List Tok) zjy t.j l i wr) (λ_ i _=>t.j.length-(intOf i).toNat);exact qw5.start (oN) bR;obtain⟨k,E,rfl,p,m⟩:=hrel;have x:=m.size;have q:=(ku L) wr m;obtain⟨_,_,_,rfl⟩:=qh p;by_cases d:k<t.j.length
 ·obtain⟨g,rfl,s⟩:=ku U k d;have e:=fam s (λ_=>rfl) d m;clear s;go_wp2_with (at_builtin;refine qvp (t:=(t.j[k]).y) (p.alloc _) (m.alloc x _) (Xk wr _) ?_ (hn:=by have:=take_len zjy t.j k d;grind [ku,qvf]))
  intro O K B hb;have G:=qw5.Y (pre:=[]) (f:=zjy) d B hb;go_wp2;grind [ku,intOf]
 ·have H:=qw5.start (f:=kx7) (items:=t.p) (qw5.done d p:Tks wr w.heap.size _ (qvf t)) m;go_wp21;go_loopw [3,5] (λl i wr=>qw5 w (qvf t) kx7 t.p l i wr) (λ_ i _=>t.p.length-(intOf i).toNat);exact H;clear q x;obtain⟨k,E,rfl,p,m⟩:=hrel;have x:=m.size;have q:=(ku L) wr m;obtain⟨_,_,_,rfl⟩:=qh p;by_cases d:k<t.p.length
  ·obtain⟨g,rfl,s⟩:=ku V k d;have ⟨vm,f0,f1,f2,f3,hm⟩:=qz8 k d HK;have e0:=wU m<|(s (k*4) aj).trans f0;have X:=wU m<|(s (k*4+1) aj).trans f1;have Y:=wU m<|(s (k*4+2) aj).trans f2;have E3:=oz<|(s (k*4+3) aj).trans f3;have a4:(qvf t++(t.p.take k).flatMap kx7).length+(1+(t.p[k]).i.length)<=90000:=by have:=take_len kx7 t.p k d;have:=R.1;simp only[kx7,rD,Qb]at *;omega
   obtain⟨_,_,_,rfl⟩:=qh hm;clear s f0 f1 f2 f3;go_wp2_with (at_builtin;refine qvp (t:=(t.p[k]).y) (p.alloc _) (m.alloc x _) (Xk wr _) ?_ (hn:=aj))
   intro O K B hb;have q1:=(ku L) K hb;have e3:=wU hb E3;have aA:=hb.size;obtain⟨_,_,_,rfl⟩:=qh B;clear e0 X Y;go_wp2_with (at_builtin;go_must (refine xqm B hb (qj hm hb) ?_ (hn:=by grind)))
   intro v2 w2 B hb;have G:=qw5.Y (pre:=qvf t) (f:=kx7) d B hb;go_wp2;grind [ku,intOf]
  ·have H:=qw5.start (f:=zwg) (items:=t.z) (qw5.done d p:Tks wr w.heap.size _ (qvs t)) m;go_wp21;go_loopw [3,6] (λl i wr=>qw5 w (qvs t) zwg t.z l i wr) (λ_ i _=>t.z.length-(intOf i).toNat);exact H;clear q x;obtain⟨k,E,rfl,p,m⟩:=hrel;have x:=m.size;have q:=(ku L) wr m;obtain⟨_,_,_,rfl⟩:=qh p;by_cases d:k<t.z.length
   ·obtain⟨g,rfl,s⟩:=ku W k d;have e:=fam s (λ_=>rfl) d m;clear s;go_wp2_with (at_builtin;refine qvp (t:=(t.z[k]).y) (p.alloc _) (m.alloc x _) (Xk wr _) ?_ (hn:=by have:=take_len zwg t.z k d;have:=R.2.1;simp only[rD]at *;omega))
    intro O K B hb;have G:=qw5.Y (pre:=qvs t) (f:=zwg) d B hb;go_wp2;exact rdM G
   ·go_wp21;refine(qk3 (HT.below m) hr hn).mono ?_;rintro e w4 ⟨rv,rs,rfl,z,I,Q⟩;have hA:=x;have C:=show Acc w w4 wr.heap.size w.heap.size w4 _ (qj3 t++((t.l++t.q).take 0).flatMap kyz) from⟨by simpa using qj (show Tks wr w.heap.size _ (qj3 t) from qw5.done d p) Q,m.trans<|Q.mono x,λk N=>.inl<|kq9 p k N,jV,λ_ _ _=>rfl⟩
    obtain⟨ra,rc,rfl,F⟩:=kq8 z;have J:=oz (show ∀k,k<(t.l++t.q).length->∃g,ra=some (Ad g 0)/\wr.heap.size<=g/\g<w4.heap.size/\∀j,j<(t.l++t.q).length*6->w4.cell? (Ad g j)=rs[j]? from λk N=>by obtain⟨g,rfl,s⟩:=F k N;exact⟨g,rfl,jo z g rfl,kq9 z g rfl,s⟩)
    have P:=oz (show jc t=qj3 t++(t.l++t.q).flatMap kyz from rfl);have a5:(t.l++t.q).length<=1602:=lg;have M:=R.2.2;clear F;generalize t.l++t.q=y at C P I J M a5 I |-;generalize wr.heap.size=A at C J hA;clear q x d E;go_wp21
    go_loopw [3,8] (λl i wr=>∃k:Nat,k<=y.length/\i=i_ k/\Acc w w4 A w.heap.size wr l (qj3 t++(y.take k).flatMap kyz)) (λ_ i _=>y.length-(intOf i).toNat);exact⟨0,jG,rfl,C⟩;obtain⟨k,E,rfl,c⟩:=hrel;have a9:=c.bel.size;obtain⟨_,_,_,rfl⟩:=qh c.xu;by_cases d:k<y.length
    ·obtain⟨g,rfl,Z,a3,s⟩:=ku J k d;have ⟨_,_,_,_,⟨f0,f1,f2,_⟩,_⟩:=qji k d I;have D:∀j v,w4.cell? (Ad g j)=some v->wr.cell? (Ad g j)=some v:=λj v h=>by rw[World.cell?,c.mid g Z a3];exact h
     have e0:=D _ _<|(s (k*6) aj).trans f0;have X:=D _ _<|(s (k*6+1) aj).trans f1;have Y:=D _ _<|(s (k*6+2) aj).trans f2;have HN:=oz<|zkz kyz y k d;have a4:(qj3 t++(y.take k).flatMap kyz).length<=90000:=by have:=take_len kyz y k d;rw[rD];omega
     clear s f0 f1 f2 D;go_wp2_with (at_builtin;refine(c.alloc _).qvp (t:=(y[k]).y) (Xk wr _) ?_)
     intro O K c1;have G:=show Acc w w4 A w.heap.size K O (qj3 t++(y.take<|k+1).flatMap kyz) from by rw[ku HN];simpa[kyz] using c1
     go_wp2;exact rdM ⟨k+1,d,eu,G⟩
    ·have HF:=show Tks wr w.heap.size _ (jc t) from by rw[ku P];exact qw5.done d c.xu
     go_wp2;go_ret;exact⟨_,rfl,HF,c.bel⟩
end
def zwe(L:List Tok):Prop:=∀i,i<L.length->((tk L i).t.toList==nG)=false->i+1<L.length
theorem kq6.jz4(h:kq6 L):zwe L:=by
 intro i hi d;by_cases e:i+1<L.length
 ·exact e
 ·have:i=L.length-1:=by omega
  subst this;rw[h.last]at d;cases d
def uh(L:List Tok):Nat->Nat->List Tok->Prop
 |a,b,[]=>a<=b
 |a,b,t::l=>∃i,a<=i/\i<L.length/\t=tk L i/\(t.t.toList==mX)=true/\uh L (i+1) b l
theorem uh.le:∀{l:List Tok}{a b:Nat},uh L a b l->a+l.length<=b
 |[],a,b,h=>h
 |t::l,a,b,⟨i,h1,_,_,_,h⟩=>by have:=h.le;grind
theorem uh.D(d:k<=lo):∀{l:List Tok},uh L lo B l->uh L k B l
 |[],h=>rP d h
 |t::l,⟨i,h1,h⟩=>⟨i,rP d h1,h⟩
theorem uh.high(hb:lo<=k):∀{l:List Tok}{a:Nat},uh L a lo l->uh L a k l
 |[],a,h=>rP h hb
 |t::l,a,⟨i,h1,h2,h3,h4,h⟩=>⟨i,h1,h2,h3,h4,h.high hb⟩
theorem uh.app(d:uh L lo c pre):∀{l:List Tok}{a:Nat},uh L a lo l->uh L a c (l++pre)
 |[],a,h=>d.D h
 |t::l,a,⟨i,h1,h2,h3,h4,h⟩=>⟨i,h1,h2,h3,h4,uh.app d h⟩
theorem uh.mem{L:List Tok}:∀{l:List Tok}{a b:Nat},uh L a b l->∀t∈l,t∈L/\(t.t.toList==mX)=true
 |[],_,_,_,t,d=>by simp_all
 |u::l,a,b,⟨i,h1,h2,h3,h4,h⟩,t,d=>by
  rcases tZ.1 d with rfl|d
  ·exact⟨h3▸xku h2,h4⟩
  ·exact h.mem t d
theorem uh.ats(e:L.Pairwise (λa b=>a.v<b.v)):∀{l:List Tok}{a b:Nat},uh L a b l->(∀t∈l,∀i,i<a->i<L.length->(tk L i).v<t.v)/\l.Pairwise (λa b=>a.v<b.v)
 |[],_,_,_=>ay
 |u::l,a,b,⟨i,h1,h2,h3,h4,h⟩=>by
  have ⟨g1,m⟩:=h.ats e;have lt:∀i j,i<j->j<L.length->(tk L i).v<(tk L j).v:=by intro i j f p;have hi:i<L.length:=aj;have:=sQ.1 e i j hi p f;grind [tk]
  refine⟨?_,JW.2 ⟨λt d=>?_,m⟩⟩
  ·intro t d k q g;rcases tZ.1 d with rfl|d
   ·rw[h3];exact lt k i aj h2
   ·exact g1 t d k aj g
  ·rw[h3];exact g1 t d i aj h2
theorem xzz(d:zwe L)(e:st.v<L.length)(hn:zk L b7 st=true):st.s=false/\st.v+1<L.length:=by unfold zk qqb at hn;simp only[rG,Q8,QD]at hn;refine⟨hn.1.1,d _ e ?_⟩;grind
theorem kqz(d:zwe L)(e:st.v<L.length)(h:(qg L b7 st).s=false):st.s=false/\(qg L b7 st).v=st.v+1/\(qg L b7 st).v<L.length:=by grind [qg,xzz]
theorem kx5(d:zwe L)(f:st.v<L.length)(i:(b7==nG)=false)(h:(zq L b7 st).2.s=false):st.s=false/\(zq L b7 st).1=tk L st.v/\((tk L st.v).t.toList==b7)=true/\(zq L b7 st).2.v=st.v+1/\(zq L b7 st).2.v<L.length:=by
 have h1:=jqm h;have hn:kqf L b7 st=true:=by grind [zq]
 have e:(zq L b7 st).1=tk L st.v:=by unfold zq;simp_all
 unfold kqf at hn;simp only[rG,QD]at hn;have g:=hn.2;have:st.v+1<L.length:=d _ f (by simp_all);simp_all
theorem qvx{b9 d6:PX}(d:(b8.toList==ng)=false):yu (opX b8 b9 d6)=yu b9++yu d6:=by show(ownNames _++yu b9)++yu d6=_;unfold ownNames;simp_all
theorem zwk(h:kv6 n d7=true):(d7.x.toList==ng)=false/\qwe d7.x=false:=by
 unfold kv6 at h;rw[rG]at h;have h1:=h.1;rw[Zx]at h1;have⟨s,d,e⟩:=h1;rw[su]at e;unfold qwe;rw[<-e];have all:∀n,∀s∈kj4 n,s.toList=[124]\/s.toList=[38]\/s.toList=[61,61]\/s.toList=[33,61]\/s.toList=[60]\/s.toList=[43]\/s.toList=[45]:=by
  intro n s d;have:∀l:List UInt8,(⟨l.toArray⟩:ByteArray).toList=l:=jh;rcases n with _|_|_|n<;>simp only[kj4,tZ,Qu,or_false]at d
  ·simp_all
  ·simp_all
  ·grind
  grind
 rcases all n s d with e|e|e|e|e|e|e<;>rw[e]<;>decide
theorem vy0(h:isConst d7=true):(d7.x.toList==ng)=false/\qwe d7.x=true:=by grind [isConst,qwe]
def kk5:PX->Nat
 |.nil=>0
 |.node _ _ _ a c=>kk5 a+kk5 c+1
def loopA{α:Type}(L:List Tok)(lit:List UInt8)(one:RS->α×RS):Nat->List α->RS->List α×RS
 |0,l,s=>(l,s)
 |f+1,l,s=>if zk L lit s then loopA L lit one f (l++[(one s).1]) (one s).2 else (l,s)
def kx6{α:Type}(L:List Tok)(lit:List UInt8)(one:RS->α×RS):Nat->List α->RS->List α×RS
 |0,l,s=>(l,s)
 |f+1,l,s=>if s.s then (l,s) else if zk L lit (one s).2 then kx6 L lit one f (l++[(one s).1]) (one s).2 else (l++[(one s).1],(one s).2)
theorem zy4(L:List Tok):∀(f:Nat)(l:List PSet)(s:RS),kyx f L l s=loopA L ni (kvc L) f l s
 |0,_,_=>rfl
 |f+1,l,s=>by rw[kyx,loopA];split;exact zy4 L f _ _;rfl
theorem zzf(L:List Tok):∀(f:Nat)(l:List PKind)(s:RS),qqe f L l s=loopA L ny (kxz L) f l s
 |0,_,_=>rfl
 |f+1,l,s=>by rw[qqe,loopA];split;exact zzf L f _ _;rfl
theorem qys(L:List Tok):∀(f:Nat)(l:List PRule)(s:RS),qze f L l s=loopA L nK (kzw L) f l s
 |0,_,_=>rfl
 |f+1,l,s=>by rw[qze,loopA];split;exact qys L f _ _;rfl
theorem zzt(L:List Tok):∀(f:Nat)(l:List PVar)(s:RS),zzr f L l s=kx6 L mD (kyt L) f l s
 |0,_,_=>rfl
 |f+1,l,s=>by rw[zzr,kx6];split;rfl;split;exact zzt L f _ _;rfl
theorem zzn(L:List Tok):∀(f:Nat)(l:List PRule)(s:RS),qwp f L l s=kx6 L nX (kjr L) f l s
 |0,_,_=>rfl
 |f+1,l,s=>by rw[qwp,kx6];split;rfl;split;exact zzn L f _ _;rfl
theorem jv2{d8:Type}(h:α->d8)(L:List Tok)(lit:List UInt8)(one:RS->α×RS):∀(f:Nat)(l:List α)(s:RS),kx6 L lit (λs=>(h (one s).1,(one s).2)) f (l.map h) s=((kx6 L lit one f l s).1.map h,(kx6 L lit one f l s).2)
 |0,_,_=>rfl
 |f+1,l,s=>by
  rw[kx6,kx6];split
  ·rfl
  ·simp only;split
   ·rw[show l.map h++[h (one s).1]=(l++[(one s).1]).map h by simp];exact jv2 h L lit one f _ _
   ·simp
theorem kyl{one:RS->α×RS}(hb:s.s=true):∀(f:Nat)(l:List α),loopA L lit one f l s=(l,s)
 |0,_=>rfl
 |f+1,l=>by rw[loopA,kqk hb];rfl
theorem kyn{one:RS->α×RS}(hb:s.s=true):∀(f:Nat)(l:List α),kx6 L lit one f l s=(l,s)
 |0,_=>rfl
 |f+1,l=>by rw[kx6,hb];rfl
def jzi{α:Type}(L:List Tok)(lit:List UInt8)(one:RS->α×RS)(fin:List α×RS)(l:List α)(s:RS):Prop:=
 (s.s=true/\fin.2=s)\/(s.s=false/\∃g,L.length<s.v+g/\loopA L lit one g l s=fin)
def jve{α:Type}(L:List Tok)(lit:List UInt8)(one:RS->α×RS)(fin:List α×RS)(l:List α)(s:RS):Prop:=
 (s.s=true/\fin.2=s)\/(s.s=false/\∃g,L.length<s.v+g/\(if zk L lit s then kx6 L lit one g l s else (l,s))=fin)
theorem qyx{one:RS->α×RS}(s:RS):jzi L lit one (loopA L lit one (kq2 L) [] s) [] s:=by
 cases hb:s.s
 ·exact .inr ⟨hb,kq2 L,by unfold kq2;omega,rfl⟩
 ·exact .inl ⟨hb,by rw[kyl hb]⟩
theorem zz1{one:RS->α×RS}(h:jzi L lit one fin l s)(i:s.v<L.length)(hn:zk L lit s=true)(k:s.v+1<=(one s).2.v)(f:(one s).2.s=false->e=(one s).1):jzi L lit one fin (l++[e]) (one s).2:=by
 obtain⟨hb,_⟩|⟨hb,g,j,h1⟩:=h
 ·rw[kqk hb]at hn;cases hn
 ·obtain⟨g,rfl⟩:=qqy g;rw[loopA,hn]at h1;simp only[Xw]at h1;cases d:(one s).2.s
  ·exact .inr ⟨d,g,aj,by rw[f d];exact h1⟩
  ·exact .inl ⟨d,by rw[<-h1,kyl d]⟩
theorem zvx{one:RS->α×RS}(h:jzi L lit one fin l s)(d:s.v<L.length)(hn:zk L lit s=false):fin.2=s/\(s.s=false->fin.1=l):=by
 obtain⟨hb,h1⟩|⟨hb,g,e,h1⟩:=h
 ·exact⟨h1,λh=>by rw[hb]at h;cases h⟩
 ·obtain⟨g,rfl⟩:=qqy g;rw[loopA,hn]at h1;simp only[ru,Xv]at h1;rw[<-h1];exact⟨rfl,λ_=>rfl⟩
theorem zw7{one:RS->α×RS}(f:s.s=true->(one s).2=s)(h:s.s=false->s.v<=(one s).2.v)(g:(one s).2.s=false->e=(one s).1):jve L lit one (kx6 L lit one (kq2 L) [] s) [e] (one s).2:=by
 cases hb:s.s
 ·unfold kq2;rw[kx6,hb];simp only[ru,Xv,Qd];cases d:(one s).2.s
  ·exact .inr ⟨d,L.length+1,aj,by rw[g d]⟩
  ·exact .inl ⟨d,by rw[kqk d];rfl⟩
 ·rw[kyn hb,f hb];exact .inl ⟨hb,rfl⟩
theorem jje{one:RS->α×RS}(h:jve L lit one fin l s)(j:s.v<L.length)(hn:zk L lit s=true)(i:(one s).2.s=false->s.v+1<=(one s).2.v)(f:(one s).2.s=false->e=(one s).1):jve L lit one fin (l++[e]) (one s).2:=by
 obtain⟨hb,_⟩|⟨hb,g,k,h1⟩:=h
 ·rw[kqk hb]at hn;cases hn
 ·rw[hn]at h1;simp only[Xw]at h1;obtain⟨g,rfl⟩:=qqy g;rw[kx6,hb]at h1;simp only[ru,Xv]at h1;cases d:(one s).2.s
  ·have:=i d;exact .inr ⟨d,g,aj,by rw[f d];exact h1⟩
  ·refine .inl ⟨d,?_⟩;rw[kqk d]at h1;rw[<-h1];rfl
theorem jvv{one:RS->α×RS}(h:jve L lit one fin l s)(hn:zk L lit s=false):fin.2=s/\(s.s=false->fin.1=l):=by
 obtain⟨hb,h1⟩|⟨hb,g,d,h1⟩:=h
 ·exact⟨h1,λh=>by rw[hb]at h;cases h⟩
 ·rw[hn]at h1;simp only[ru,Xv]at h1;rw[<-h1];exact⟨rfl,λ_=>rfl⟩
theorem zvl(h:st.s=true):(kjn L st).2=st:=by unfold kjn;rw[kqk h];rfl
theorem jqp(h:st.s=true):(kku L st).2=st:=by unfold kku;rw[kqk h,kqk h];exact kza h
theorem vvy(h:st.s=true):(kyt L st).2=st:=by show qg L [59] (kku L (kjn L<|qg L [58] (zq L mX<|qg L mD st).2).2).2=st;rw[kqs (L:=L) (s:=mD) h,kza h,kqs (L:=L) (s:=[58]) h,zvl h,jqp h,kqs h]
theorem vvu(h:st.s=true):∀(f:Nat)(l:List PP),kws f L l st=(l,st)
 |0,_=>rfl
 |f+1,l=>by rw[kws,h];rfl
theorem jx9(h:st.s=true):(kj0 L st).2=st:=by unfold kj0;rw[kqs (L:=L) (s:=[40]) h,kqk h];simp only[ru,Xv];rw[vvu h,kqs h]
theorem jwl(h:st.s=true):(kjr L st).2=st:=by rw[jk6 (L:=L) (st:=st) rfl rfl rfl rfl rfl rfl];simp only;rw[kqs (L:=L) (s:=nX) h,kza h,jx9 h,kqs (L:=L) (s:=mY) h,kk2 h,kkt h]
def jw(x:PVar):VrT:=⟨x.y,!(x.g.t.toList==[]),x.g,if x.k.t.toList==nV then (if x.k.x.toList==nP then ⟨0,zh,zh⟩ else ⟨1,x.R,zh⟩) else ⟨2,zh,x.k⟩⟩
theorem zkb(g:kq6 L)(d:st.v<L.length)(j:b7∈lits)(k:∃c r,b7=c::r/\(decide (97<=(c.toNat:Int))&&decide ((c.toNat:Int)<=122))=true)(h:zk L b7 st=true):((tk L st.v).t.toList==nV)=true:=by have⟨c,r,e,i⟩:=k;have f:=(kz8 h).1;exact(g.ok _ d).pkv j f (by rw[zkn (f.trans e)];exact i)
theorem xkb(g:kq6 L)(e:st.v<L.length)(hb:(kku L st).2.s=false):siT L st=if (tk L st.v).t.toList==nV then (if (tk L st.v).x.toList==nP then ⟨0,zh,zh⟩ else ⟨1,(kku L st).1,zh⟩) else ⟨2,zh,tk L st.v⟩:=by
 unfold siT kku at *;cases h1:zk L nP st
 ·rw[h1]at hb;simp only[ru,Xv]at hb |-;cases f:zk L nD st
  ·rw[f]at hb;simp only[ru,Xv]at hb |-;have d:kqf L mX st=true:=by
    cases d:kqf L mX st
    ·unfold zq at hb;rw[d]at hb;simp at hb
    ·rfl
   have h:(zq L mX st).1=tk L st.v:=by unfold zq;rw[d];rfl
   unfold kqf at d;simp only[rG]at d;have:=d.2;rw[su]at this;rw[h,this];rfl
  ·simp only[Xw];rw[zkb g e ak ⟨_,_,rfl,ak⟩ f];rw[((kz8 f).1)];rfl
 ·simp only[Xw];rw[zkb g e ak ⟨_,_,rfl,ak⟩ h1];rw[((kz8 h1).1)];rfl
theorem vqx(t:kq6 L)(f:zwe L)(p:st.v<L.length)(hb:(kyt L st).2.s=false):vrT L st=jw (kyt L st).1:=by
 have j:(kku L (kjn L<|zj8 L st).2).2.s=false:=kz2 (s:=[59]) hb;have e:(kjn L<|zj8 L st).2.s=false:=by
  cases d:(kjn L<|zj8 L st).2.s
  ·rfl
  ·rw[jqp d,d]at j;cases j
 have m:(zj8 L st).s=false:=by
  cases d:(zj8 L st).s
  ·rfl
  ·rw[zvl d,d]at e;cases e
 have i:(zq L mX<|qg L mD st).2.s=false:=kz2 (s:=[58]) m;have h1:(qg L mD st).s=false:=by
  cases d:(qg L mD st).s
  ·rfl
  ·rw[kza d,d]at i;cases i
 have⟨_,_,l1⟩:=kqz f p h1;have⟨_,_,_,_,v⟩:=kx5 f l1 rfl i;have⟨_,_,l3⟩:=kqz f v m;have g:zk L [91] (zj8 L st)=(!((kjn L<|zj8 L st).1.t.toList==[]))/\(kjn L<|zj8 L st).2.v<L.length:=by
  have h:(zj8 L st).v<L.length:=l3;generalize zj8 L st=s3 at *;unfold kjn at e |-;cases hn:zk L [91] s3
  ·simp only[ru,Xv];exact⟨by rw[dh];rfl,h⟩
  ·rw[hn]at e;simp only[Xw]at e |-;have k:(zq L mX<|qg L [91] s3).2.s=false:=kz2 e;have u:(qg L [91] s3).s=false:=by
    cases d:(qg L [91] s3).s
    ·rfl
    ·rw[kza d,d]at k;cases k
   have⟨_,_,w⟩:=kqz f h u;have⟨_,q,l,_,x⟩:=kx5 f w rfl k;have⟨_,_,y⟩:=kqz f x e;refine⟨?_,y⟩;rw[q];rw[su]at l;rw[l];rfl
 show(⟨_,zk L [91]<|zj8 L st,_,siT L (kjn L<|zj8 L st).2⟩:VrT)=_;rw[g.1,(xkb t g.2 j)];rfl
def xvo(P:Nat)(v:Value)(L:List Tok)(w:World)(e:Ending)(w':World):Prop:=
 ∃x0 x1 x2 x3 x4 m,rT e (.agg #[x0,x1,x2,x3,x4])/\kwm w.heap.size w' x0 x1 x2 x3 x4 m/\((kwh L).2.s=false->m=⟨(uz L).1.j,(uz L).1.p,(uz L).1.z.map jw,(uz L).1.l,(uz L).1.q⟩)/\Pd w' P v L (kwh L).2/\Kept P w w'/\((∃a l c,x0=.slice a l c)/\(∃a l c,x1=.slice a l c)/\(∃a l c,x2=.slice a l c)/\(∃a l c,x3=.slice a l c)/\(∃a l c,x4=.slice a l c))
def zyb(L:List Tok)(s:RS):VrT×RS:=(jw (kyt L s).1,(kyt L s).2)
theorem pqp(h:zk L b7 s=true)(d:opens b7=false)(e:shuts b7=false):(qg L b7 s).v=s.v+1:=by rw[kzo d e];unfold zkg;rw[h];rfl
theorem xve(h:zk L mD s=true):s.v+1<=(zyb L s).2.v:=by have:=qyl L s;rw[pqp h rfl rfl]at this;exact this
theorem xw7(h:zk L nX s=true):s.v+1<=(kjr L s).2.v:=by have:=qza L s;rw[pqp h rfl rfl]at this;exact this
theorem xvi(L:List Tok)(s:RS):s.v<=(zyb L s).2.v:=rP (yh L mD s)<|qyl L s
theorem xw8(L:List Tok)(s:RS):s.v<=(kjr L s).2.v:=rP (yh L nX s)<|qza L s
theorem jxo{d9:List PSet×RS}{e5:List PKind×RS}{d:List VrT×RS}{e7 e8:List PRule×RS}(j:d9=loopA L ni (kvc L) (kq2 L) [] kqa)(i:e5=loopA L ny (kxz L) (kq2 L) [] d9.2)(k:d=kx6 L mD (zyb L) (kq2 L) [] e5.2)(hR:e7=kx6 L nX (kjr L) (kq2 L) [] d.2)(hN:e8=loopA L nK (kzw L) (kq2 L) [] e7.2):kwh L=e8/\kyq L=e7/\d=((kw9 L).1.map jw,(kw9 L).2)/\e5=(kzb L kqa).2/\(kzb L kqa).1=d9.1:=by
 have h:kyx (kq2 L) L [] kqa=d9:=by rw[zy4,j]
 have e:kzb L kqa=(d9.1,e5):=by unfold kzb;rw[h,zzf,i]
 have g:d=((kw9 L).1.map jw,(kw9 L).2):=by unfold kw9;rw[e,zzt,k];exact jv2 jw L mD (kyt L) (kq2 L) [] e5.2
 have f:kyq L=e7:=by unfold kyq;rw[zzn,hR,g]
 refine⟨?_,f,g,qG,qG⟩;unfold kwh;rw[qys,hN,f]
theorem qws(h:kwm lo w x0 x1 x2 x3 x4 m):(∃a l c,x0=.slice a l c)/\(∃a l c,x1=.slice a l c)/\(∃a l c,x2=.slice a l c)/\(∃a l c,x3=.slice a l c)/\(∃a l c,x4=.slice a l c):=
 ⟨qh h.o0,qh h.o1.choose_spec.1,qh h.o2,qh h.o3.choose_spec.1,qh h.o4.choose_spec.1⟩
theorem kxd.b1g{e9:Obj}(h:kxd w P v L lo B x0 x1 x2 x3 x4 m s w')(f:(w'.alloc e9).grownBy W x.ownBlock)(d:∀k,x.ownBlock=some k->B+1<=k):Rw W B #[x0,x1,x2,x3,x4] 68:=
 (f.block _ (by have:=wQ h.b1;simp;omega) (λe=>by have:=d _ e.symm;omega)).trans ((jR<|wQ h.b1).trans h.b1)
theorem vvm(hF:zwe L)(H:Pd w P v L kqa):Calls prog 88 #[pT P] w λe w'=>xvo P v L w e w':=by
 have hX:=H.in;have HV:=oz H.kq9;have hL:=H.ok;have bU:=hL.T;have b5:=qyx (L:=L) (lit:=ni) (one:=kvc L) kqa;have⟨K,aL⟩:=cpy<|loopA L ni (kvc L) (kq2 L) [] kqa;rw[<-aL]at b5;have b6:=qyx (L:=L) (lit:=ny) (one:=kxz L) K.2;have⟨W,aU⟩:=cpy<|loopA L ny (kxz L) (kq2 L) [] K.2;rw[<-aU]at b6;have⟨X,aX⟩:=cpy<|kx6 L mD (zyb L) (kq2 L) [] W.2;have bN:=oz aX.symm;have⟨J,aW⟩:=cpy<|kx6 L nX (kjr L) (kq2 L) [] X.2;have bO:=oz aW.symm;have b7:=qyx (L:=L) (lit:=nK) (one:=kzw L) J.2;have⟨bF,aV⟩:=cpy<|loopA L nK (kzw L) (kq2 L) [] J.2;rw[<-aV]at b7;have⟨aI,aM,aK,aJ⟩:=jE aU aX aW aV;clear aU aX aW aV;go_in
 obtain⟨R0,aO⟩:∃R:World->Prop,Hid (∀u,R u↔∃(x:Value)(l:List PSet)(s:RS),jzi L ni (kvc L) K l s/\l.length<=s.v/\kxd w P v L w.heap.size (w.heap.size+1) x nS nS nS nS ⟨l,[],[],[],[]⟩ s u):=⟨_,λ_=>Iff.rfl⟩;have aD:=oz (show R0 ((w.alloc<|.cells #[nS,nS,nS,nS,nS] 68).alloc<|.cells #[nS,nS,nS,nS,nS] 68) from(aO _).2
  ⟨nS,[],kqa,b5,ay,⟨zy<|qy,by have:=qy (w:=w.alloc<|.cells #[nS,nS,nS,nS,nS] 68) (o:=.cells #[nS,nS,nS,nS,nS] 68);simpa using this,⟨jT,⟨[],jT,rfl⟩,jT,⟨[],jT,rfl⟩,⟨[],jT,rfl⟩⟩,(H.alloc _).alloc _,((Kept.refl _ _).alloc _).alloc _⟩⟩)
 go_wp2;go_loopw [] (λwr=>R0 wr) (λwr=>L.length-zx2 wr P);exact aD;have⟨y0,l0,s0,b8,E,a8⟩:=(aO _).1 hrel;have g:=a8.pd.lt;go_wp21;refine zM (qzj ni ak a8.pd) ?_;rintro bQ ⟨Z,F⟩;have V:=a8.kept' F Z aj aj;cases i:zk L ni s0
 ·obtain⟨aY,(bG:Hid _)⟩:=zvx b8 g i;clear E;obtain⟨R1,aP⟩:∃R:World->Prop,Hid (∀u,R u↔∃(x:Value)(l:List PKind)(s:RS),jzi L ny (kxz L) W l s/\l.length<=s.v/\kxd w P v L w.heap.size (w.heap.size+1) y0 x nS nS nS ⟨l0,l,[],[],[]⟩ s u):=⟨_,λ_=>Iff.rfl⟩;have aE:=oz ((aP _).2 ⟨_,[],s0,by rw[<-show K.2=s0 from aY];exact b6,ay,V⟩:R1 bQ);clear g i;go_wp2;go_loopw [] (λwr=>R1 wr) (λwr=>L.length-zx2 wr P);exact aE;have⟨y1,l1,s1,b9,E,a9⟩:=(aP _).1 hrel;have g:=a9.pd.lt;go_wp21;refine zM (qzj ny ak a9.pd) ?_;rintro bX ⟨Z,F⟩;have y:=a9.kept' F Z aj aj;cases i:zk L ny s1
  ·obtain⟨aZ,(bH:Hid _)⟩:=zvx b9 g i;clear E;go_upto_region 6 with fail
   go_cut [] from 22 to 28 (λwx=>∃(x:Value)(e:VrT),(((zyb L) s1).2.s=false->e=((zyb L) s1).1)/\kxd w P v L w.heap.size (w.heap.size+1) y0 y1 x nS nS ⟨l0,l1,[e],[],[]⟩ ((zyb L) s1).2 wx)
   case first=>
    have q2:=jl y.b1;go_region_law (first
     |(refine apL (news:=(kjs<|vrT L s1)) (d.md.o2.alloc _) (Xk I _) ?_;intro gg cap w6 h f A N;have r6:=jl<|d.b1g f k)
     |(go_simp;go_at_call 149;refine zM (zqs<|y.pd.below (bR.drew)) ?_;rintro I ⟨M,t⟩;have d:=y.kept' ((Kept.refl _ _).drew.trans t) M aj aj;have q5:=jl d.b1;have k:=jo d.md.o2;have O:=wQ d.b1;unfold vrV kjs ;dsimp only))
    all_goals
     go_wp2;go_meet
     exact⟨_,vrT L s1,λhb=>(by unfold zyb;exact vqx hL hF g hb),d.more2 (e:=vrT L s1) f h HV hX rfl aj⟩
   case rest=>
   have⟨xv,ev,a6,aT⟩:=hcut;obtain⟨R2,aQ⟩:∃R:World->Prop,Hid (∀u,R u↔∃(x:Value)(l:List VrT)(s:RS),jve L mD (zyb L) X l s/\l.length<=s.v+1/\kxd w P v L w.heap.size (w.heap.size+1) y0 y1 x nS nS ⟨l0,l1,l,[],[]⟩ s u):=⟨_,λ_=>Iff.rfl⟩;have aF:=oz ((aQ _).2 ⟨xv,[ev],((zyb L) s1).2,by rw[<-bN,show W.2=s1 from aZ];exact zw7 (λhb=>vvy hb) (λhb=>xvi L s1) a6,ay,aT⟩:R2 wc);clear g i a6;go_wp2;go_loopw [] (λwr=>R2 wr) (λwr=>L.length-zx2 wr P);exact aF;have⟨y2,l2,s2,bA,E,aA⟩:=(aQ _).1 hrel;have g:=aA.pd.lt;go_wp21;refine zM (qzj mD ak aA.pd) ?_;rintro bY ⟨Z,F⟩;have z:=aA.kept' F Z aj aj;cases i:zk L mD s2
   ·obtain⟨(b2:Hid _),(bI:Hid _)⟩:=jvv bA i;clear E;go_upto_region 9 with fail
    go_cut [] from 38 to 44 (λwx=>∃(x:Value)(e:PRule),(((kjr L) s2).2.s=false->e=((kjr L) s2).1)/\kxd w P v L w.heap.size (w.heap.size+1) y0 y1 y2 x nS ⟨l0,l1,l2,[e],[]⟩ ((kjr L) s2).2 wx)
    case first=>
     have q2:=jl z.b1;have a7:=wQ z.b1;go_region_law (first
      |(refine apL (T.alloc _) (Xk I _) ?_ (h1:=sJ.2 U);intro gg cap w6 h f A N;have r6:=jl<|d.b1g f k)
      |(go_simp;go_at_call 150;refine(jkz<|z.pd.below (bR.drew)).mono ?_;rintro e I ⟨c0,c1,c2,c3,c4,rr,rfl,G,(U:Hid _),(a5:Hid _),M,t⟩;have d:=z.kept' ((Kept.refl _ _).drew.trans t) M aj aj;have q5:=jl d.b1;have k:=jo d.md.o3.choose_spec.1;have O:=wQ d.b1;have⟨aN,T,Q⟩:=d.md.o3;have S:=G.mono (lo':=w.heap.size+1+1) (by have:=wQ z.b1;simp;omega) ;dsimp only))
     all_goals
      go_wp2;go_meet
      exact⟨_,_,a5,d.more3 f h Q S HV hX rfl aj⟩
    case rest=>
    have⟨xv,ev,a6,aT⟩:=hcut;obtain⟨R3,aR⟩:∃R:World->Prop,Hid (∀u,R u↔∃(x:Value)(l:List PRule)(s:RS),jve L nX (kjr L) J l s/\l.length<=s.v+1/\kxd w P v L w.heap.size (w.heap.size+1) y0 y1 y2 x nS ⟨l0,l1,l2,l,[]⟩ s u):=⟨_,λ_=>Iff.rfl⟩;have aG:=oz ((aR _).2 ⟨xv,[ev],((kjr L) s2).2,by rw[<-bO,show X.2=s2 from b2];exact zw7 (λhb=>jwl hb) (λhb=>xw8 L s2) a6,ay,aT⟩:R3 wc);clear g i a6;go_wp2;go_loopw [] (λwr=>R3 wr) (λwr=>L.length-zx2 wr P);exact aG;have⟨y3,l3,s3,bB,E,aB⟩:=(aR _).1 hrel;have g:=aB.pd.lt;go_wp21;refine zM (qzj nX ak aB.pd) ?_;rintro bT ⟨Z,F⟩;have B:=aB.kept' F Z aj aj;cases i:zk L nX s3
    ·obtain⟨(b3:Hid _),(bJ:Hid _)⟩:=jvv bB i;clear E;obtain⟨R4,aS⟩:∃R:World->Prop,Hid (∀u,R u↔∃(x:Value)(l:List PRule)(s:RS),jzi L nK (kzw L) bF l s/\l.length<=s.v/\kxd w P v L w.heap.size (w.heap.size+1) y0 y1 y2 y3 x ⟨l0,l1,l2,l3,l⟩ s u):=⟨_,λ_=>Iff.rfl⟩;have aH:=oz ((aS _).2 ⟨_,[],s3,by rw[<-show J.2=s3 from b3];exact b7,ay,B⟩:R4 bT);clear g i;go_wp2;go_loopw [] (λwr=>R4 wr) (λwr=>L.length-zx2 wr P);exact aH;have⟨y4,l4,s4,bC,E,aC⟩:=(aS _).1 hrel;have g:=aC.pd.lt;go_wp21;refine zM (qzj nK ak aC.pd) ?_;rintro bZ ⟨Z,F⟩;have j:=aC.kept' F Z aj aj;cases i:zk L nK s4
     ·obtain⟨(b4:Hid _),(bL:Hid _)⟩:=zvx bC g i;clear E;have d0:=jl j.b0;have g0:=jl j.b1;have bP:=qws j.md;obtain⟨⟨a0,n0,k0,rfl⟩,⟨a1,n1,k1,rfl⟩,⟨a2,n2,k2,rfl⟩,⟨a3,n3,k3,rfl⟩,⟨a4,n4,k4,rfl⟩⟩:=bP;go_wp2;refine kx0 results88 underlying68 (kxy j.b0) ?_;refine⟨_,_,_,_,_,⟨l0,l1,l2,l3,l4⟩,rfl,?_,?_,?_,j.kept.ky7 jV _ _ _ _ _,⟨⟨_,_,_,rfl⟩,⟨_,_,_,rfl⟩,⟨_,_,_,rfl⟩,⟨_,_,_,rfl⟩,⟨_,_,_,rfl⟩⟩⟩
      ·exact(j.md.stay ((kjz.refl (w.heap.size+1+1) _).ky7 (.inl aj) _ _ _ _ _).block).mono aj
      ·have hT:=jxo aL aI aM aK aJ;intro hb;rw[hT.1]at hb;have bR:J.2.s=false:=by
        cases Y:J.2.s
        ·rfl
        ·rw[aJ,kyl Y]at hb;simp only at hb;rw[Y]at hb;cases hb
       have bV:X.2.s=false:=by
        cases Y:X.2.s
        ·rfl
        ·rw[aK,kyn Y]at bR;simp only at bR;rw[Y]at bR;cases bR
       have bK:W.2.s=false:=by
        cases Y:W.2.s
        ·rfl
        ·rw[aM,kyn Y]at bV;simp only at bV;rw[Y]at bV;cases bV
       have bS:K.2.s=false:=by
        cases Y:K.2.s
        ·rfl
        ·rw[aI,kyl Y]at bK;simp only at bK;rw[Y]at bK;cases bK
       have q0:=bG (by rw[<-aY];exact bS);have q1:=bH (by rw[<-aZ];exact bK);have q2:=bI (by rw[<-b2];exact bV);have q3:=bJ (by rw[<-b3];exact bR);have q4:=bL (by rw[<-b4];exact hb);rw[<-q0,<-q1,<-q2,<-q3,<-q4];show(⟨_,_,_,_,_⟩:MdL)=⟨(kzb L kqa).1,(kzb L kqa).2.1,(kw9 L).1.map jw,(kyq L).1,(kwh L).1⟩;rw[hT.1,hT.2.1,<-hT.2.2.2.1,hT.2.2.2.2,hT.2.2.1]
      ·have hT:=jxo aL aI aM aK aJ;rw[hT.1,b4];exact j.pd.ky7 HV hX jV _ _ _ _ _
     ·have p:=kz9 hL g i;have q:=zzs i;obtain⟨xa,xl,xc,rfl⟩:=qh j.md.o4.choose_spec.1;go_wp2;have q2:=jl j.b1;have a7:=wQ j.b1;go_region_law (first
       |(refine apL (T.alloc _) (Xk I _) ?_ (h1:=sJ.2 U);intro gg cap w6 h f A N;have r6:=jl<|d.b1g f k)
       |(go_simp;go_at_call 151;refine(vvd<|j.pd.below (bR.drew)).mono ?_;rintro e I ⟨c0,c1,c2,c3,rr,rfl,G,(U:Hid _),(a5:Hid _),M,t⟩;have d:=j.kept' ((Kept.refl _ _).drew.trans t) M aj aj;have q5:=jl d.b1;have k:=jo d.md.o4.choose_spec.1;have O:=wQ d.b1;have⟨aN,T,Q⟩:=d.md.o4;have S:=G.mono (lo':=w.heap.size+1+1) (by have:=wQ j.b1;simp;omega) ;dsimp only))
      all_goals
       have m:=d.more4 f h Q S HV hX rfl aj;have⟨C,D⟩:=jS (qqq aC.pd m.pd p.1 p.2<|λ_=>q) ((aS _).2 ⟨_,_,_,zz1 bC g i q<|a5,ah,m⟩);clear A;go_wp2;exact⟨D,C⟩
    ·have p:=kz9 hL g i;have q:=xw7 i;obtain⟨xa,xl,xc,rfl⟩:=qh B.md.o3.choose_spec.1;go_wp2;have q2:=jl B.b1;have a7:=wQ B.b1;go_region_law (first
      |(refine apL (T.alloc _) (Xk I _) ?_ (h1:=sJ.2 U);intro gg cap w6 h f A N;have r6:=jl<|d.b1g f k)
      |(go_simp;go_at_call 150;refine(jkz<|B.pd.below (bR.drew)).mono ?_;rintro e I ⟨c0,c1,c2,c3,c4,rr,rfl,G,(U:Hid _),(a5:Hid _),M,t⟩;have d:=B.kept' ((Kept.refl _ _).drew.trans t) M aj aj;have q5:=jl d.b1;have k:=jo d.md.o3.choose_spec.1;have O:=wQ d.b1;have⟨aN,T,Q⟩:=d.md.o3;have S:=G.mono (lo':=w.heap.size+1+1) (by have:=wQ B.b1;simp;omega) ;dsimp only))
     all_goals
      have m:=d.more3 f h Q S HV hX rfl aj;have⟨C,D⟩:=jS (qqq aB.pd m.pd p.1 p.2<|λ_=>q) ((aR _).2 ⟨_,_,_,jje bB g i (λ_=>q)<|a5,ah,m⟩);clear A;go_wp2;exact⟨D,C⟩
   ·have p:=kz9 hL g i;have q:=xve i;obtain⟨xa,xl,xc,rfl⟩:=qh z.md.o2;go_wp2;have q2:=jl z.b1;go_region_law (first
     |(refine apL (news:=(kjs<|vrT L s2)) (d.md.o2.alloc _) (Xk I _) ?_;intro gg cap w6 h f A N;have r6:=jl<|d.b1g f k)
     |(go_simp;go_at_call 149;refine zM (zqs<|z.pd.below (bR.drew)) ?_;rintro I ⟨M,t⟩;have d:=z.kept' ((Kept.refl _ _).drew.trans t) M aj aj;have q5:=jl d.b1;have k:=jo d.md.o2;have O:=wQ d.b1;unfold vrV kjs ;dsimp only))
    all_goals
     have m:=d.more2 (e:=vrT L s2) f h HV hX rfl aj;have⟨C,D⟩:=jS (qqq aA.pd m.pd p.1 p.2<|λ_=>q) ((aQ _).2 ⟨_,_,_,jje bA g i (λ_=>q) (λhb=>by unfold zyb;exact vqx hL hF g hb),ah,m⟩);clear A;go_wp2;exact⟨D,C⟩
  ·have p:=kz9 hL g i;have q:=zvs i;obtain⟨xa,xl,xc,rfl⟩:=qh y.md.o1.choose_spec.1;go_wp2;have q2:=jl y.b1;have a7:=wQ y.b1;go_region_law (first
    |(refine apL (T.alloc _) (Xk I _) ?_;intro gg cap w6 h f A N;have r6:=jl<|d.b1g f k)
    |(go_simp;go_at_call 148;refine(pzp<|y.pd.below (bR.drew)).mono ?_;rintro e I ⟨xk,lk,rfl,bD,(bM:Hid _),M,t,bW⟩;obtain⟨ma,mn,mc,rfl⟩:=qh bD;have d:=y.kept' ((Kept.refl _ _).drew.trans t) M aj aj;have q5:=jl d.b1;have k:=jo d.md.o1.choose_spec.1;have O:=wQ d.b1;have⟨aN,T,Q⟩:=d.md.o1;have S:=show kvp (w.heap.size+1+1) I [⟨(kxz L s1).1.y,lk⟩] [Value.string (kxz L s1).1.y.x,i_ (kxz L s1).1.y.v,.slice ma mn mc] from⟨ma,mn,mc,[],rfl,qo (by have:=wQ y.b1;simp;omega) bD,rfl⟩ ;dsimp only))
   all_goals
    have m:=d.more1 f h Q S HV hX rfl aj;have⟨C,D⟩:=jS (qqq a9.pd m.pd p.1 p.2<|λ_=>q) ((aP _).2 ⟨_,_,_,zz1 b9 g i q (λhb=>by rw[bM hb]),ah,m⟩);clear A;go_wp2;exact⟨D,C⟩
 ·have p:=kz9 hL g i;have q:=jqd i;obtain⟨xa,xl,xc,rfl⟩:=qh V.md.o0;go_wp2;have q2:=jl V.b1;go_region_law (first
   |(refine apL (news:=(zjw (kvc L s0).1)) (d.md.o0.alloc _) (Xk I _) ?_;intro gg cap w6 h f A N;have r6:=jl<|d.b1g f k)
   |(go_simp;go_at_call 147;refine zM (pwj<|V.pd.below (bR.drew)) ?_;rintro I ⟨M,t⟩;have d:=V.kept' ((Kept.refl _ _).drew.trans t) M aj aj;have q5:=jl d.b1;have k:=jo d.md.o0;have O:=wQ d.b1;unfold stV ;dsimp only))
  all_goals
   have m:=d.more0 (e:=(kvc L s0).1) f h HV hX rfl aj;have⟨C,D⟩:=jS (qqq a8.pd m.pd p.1 p.2<|λ_=>q) ((aO _).2 ⟨_,_,_,zz1 b8 g i q (λ_=>rfl),ah,m⟩);clear A;go_wp2;exact⟨D,C⟩
theorem kqn{P:Program}{f:Func}{p j k:Tmp}{ty:TypeId}(h:f.results=#[.cell p ty,.tmp j,.tmp k])(e:Array Value)(w:World)(g:Nat)(t:TypeId)(cs:Array Value)(fr:Nat×Nat)(d:TypeDesc)(q:e.getD p undef=pT g)(m:w.heap[g]?=some (.cells cs t fr))(hu:P.underlying ty=some d)(l:(match d with|.struct _|.array _ _=>true|_=>false)=true)(hi:(P.info? ty).map (·.size)=some cs.size):(results f e).run P w=.ok (.tuple #[.agg cs,e.getD j undef,e.getD k undef]) w:=by
 have i:e[p]?.getD undef=pT g:=by simp_all
 simp[results,h,i,asAddr,run_loadVar_row w g t ty cs fr d m hu l hi]
theorem Pw.away(h:Pw w P v L r)(hb:P≠lo)(hv:v.ownBlock≠some lo)(u:Value):Pw (w.setCell (Ad lo k) u) P v L r:=
 ⟨by rw[jN hb];exact h.pd,ownsRow_setCell_other h.xu hv u,h.ne,h.ok,h.lt⟩
theorem Pw.xxi(h:Pw w P v L r)(hb:P≠lo)(hv:v.ownBlock≠some lo)(y0 y1 y2 y3 y4:Value):Pw (((((w.setCell (Ad lo 0) y0).setCell (Ad lo 1) y1).setCell (Ad lo 2) y2).setCell (Ad lo 3) y3).setCell (Ad lo 4) y4) P v L r:=
 ((((h.away hb hv y0).away hb hv y1).away hb hv y2).away hb hv y3).away hb hv y4
def ql(t:PTree):MdL:=⟨t.j,t.p,t.z.map jw,t.l,t.q⟩
def xvl(L:List Tok)(w:World)(e:Ending)(w':World):Prop:=
 oq w w'/\(((uz L).2=none/\∃x0 x1 x2 x3 x4,rT e (.tuple #[.agg #[x0,x1,x2,x3,x4],i_ 0,.bool true])/\kwm w.heap.size w' x0 x1 x2 x3 x4 (ql (uz L).1)) \/
  ∃k:Nat,(uz L).2=some k/\rT e (.tuple #[.agg #[nS,nS,nS,nS,nS],i_ k,.bool false]))
theorem jk5(L:List Tok):(uz L).2=if (kwh L).2.s||!((tk L (kwh L).2.v).t.toList==nG) then some (tk L (kwh L).2.v).v else none:=rfl
theorem parse_any(t:kq6 L)(G:w.ownsRow 0 194 2 v L.length (kjq L)):Calls prog 52 #[v] w λe w'=>xvl L w e w':=by
 have R:=oz<|kq9 G;have x:=t.pos;obtain⟨va,z,vc,rfl⟩:=qh G;have O:Pd ((w.alloc<|.cells #[nS,nS,nS,nS,nS] 68).alloc<|.cells #[.slice va z vc,i_ 0,i_ 0,.bool false,i_ 0] 196) (w.heap.size+1) (.slice va z vc) L kqa:=by
  refine⟨⟨0,0,false,0⟩,⟨?_,(G.alloc _).alloc _,?_,t,x⟩,⟨x,by simp[kqa],by simp[kqa],λ_=>⟨rfl,rfl,rfl,rfl⟩,λh=>ig⟩⟩
  ·have:=qy (w:=w.alloc<|.cells #[nS,nS,nS,nS,nS] 68) (o:=.cells #[.slice va z vc,i_ 0,i_ 0,.bool false,i_ 0] 196);simp_all
  grind [ku]
 go_in;go_wp21;refine(vvm t.jz4 O).mono ?_;rintro e T ⟨x0,x1,x2,x3,x4,m,rfl,K,(M:Hid _),h1,C,⟨a0,n0,k0,rfl⟩,⟨a1,n1,k1,rfl⟩,⟨a2,n2,k2,rfl⟩,⟨a3,n3,k3,rfl⟩,⟨a4,n4,k4,rfl⟩⟩;have B:=oz<|C.e (b:=w.heap.size) aj (zy<|qy);have y:=jl B;have W:=h1.in;have H:=(((Kept.refl (w.heap.size+1) w).alloc _).alloc _).trans C;have g:=oz<|jk5 L;have⟨r,A,f⟩:=h1;generalize (kwh L).2=j at *;have P:((tk L r.Y).x.toList==[])=(j.s||((tk L j.v).t.toList==nG)):=by
  cases hb:j.s
  ·rw[((ku f).M hb).2.1,(t.ok _ (ku f).lt).fin];rfl
  ·rw[((ku f).s hb).2.1,t.lastText];rfl
 go_wp21;clear y;have F:(Value.slice va z vc).ownBlock≠some w.heap.size:=λe=>by have:=ku R _ e;omega
 refine zM (vwb ⟨#[]⟩<|A.xxi aj F _ _ _ _ _) λU l=>?_;rw[show(⟨#[]⟩:ByteArray).toList=[] from jh [],P];have q:=(A.xxi aj F (.slice a0 n0 k0) (.slice a1 n1 k1) (.slice a2 n2 k2) (.slice a3 n3 k3)<|.slice a4 n4 k4).below l;have i:=oz<|(l.block w.heap.size jQ).trans (kxy B (y0:=.slice a0 n0 k0) (y1:=.slice a1 n1 k1) (y2:=.slice a2 n2 k2) (y3:=.slice a3 n3 k3) (y4:=.slice a4 n4 k4));have p:=(H.ky7 (b:=w.heap.size) jV (.slice a0 n0 k0) (.slice a1 n1 k1) (.slice a2 n2 k2) (.slice a3 n3 k3)<|.slice a4 n4 k4).trans<|.of_below l;have J:=(K.stay ((kjz.refl _ T).ky7 (b:=w.heap.size) (.inl ah) (.slice a0 n0 k0) (.slice a1 n1 k1) (.slice a2 n2 k2) (.slice a3 n3 k3)<|.slice a4 n4 k4).block).stay (λk _ S=>l.block k S);clear P;cases d:j.s
 ·cases u:((tk L j.v).t.toList==nG)
  ·rw[d,u]at g;go_wp21;refine zM (qkt q) ?_;rintro w3 ⟨Q,D⟩;have E:(kv9 L r).N=(tk L j.v).v:=by unfold kv9;rw[((ku f).M d).1,((ku f).M d).2.1];rfl
   have⟨c0,c1,c2,c3,c4,_⟩:=qzi Q.pd;rw[E]at c4;rw[show(kv9 L r).failed=true from rfl]at c3;have s:=oz<|D.e (b:=w.heap.size) aj i;have y:=jl s;have V:=wQ s;have I:=p.trans D;clear E;go_wp2
   go_region
   all_goals
    go_wp2;refine tK (v:=.tuple #[.agg #[nS,nS,nS,nS,nS],i_ (tk L j.v).v,.bool false]) ?_ rfl ?_
    ·have:=kxy s (y0:=nS) (y1:=nS) (y2:=nS) (y3:=nS) (y4:=nS);exact kqn results52 _ _ w.heap.size _ _ _ _ rfl this underlying68 rfl au
    ·exact⟨Kept.toBelow (I.ky7 (b:=w.heap.size) jV _ _ _ _ _).drew aj<|jV,.inr ⟨_,g,rfl⟩⟩
  ·rw[d,u]at g;have⟨c0,c1,c2,c3,c4,_⟩:=qzi q.pd;rw[((ku f).M d).1]at c3;have y:=jl i;have N:=oz<|M d;go_wp2
   refine tK (v:=.tuple #[.agg #[.slice a0 n0 k0,.slice a1 n1 k1,.slice a2 n2 k2,.slice a3 n3 k3,.slice a4 n4 k4],i_ 0,.bool true]) (kqn results52 _ _ w.heap.size _ _ _ _ rfl (kxy i) underlying68 rfl au) rfl ?_;refine⟨Kept.toBelow (p.ky7 (b:=w.heap.size) jV _ _ _ _ _) aj<|jV,.inl ⟨g,_,_,_,_,_,rfl,?_⟩⟩;rw[show ql (uz L).1=m from(ku N).symm];exact(J.stay ((kjz.refl _ U).ky7 (b:=w.heap.size) (.inl ah) _ _ _ _ _).block).mono ah
 ·rw[d]at g;have⟨c0,c1,c2,c3,c4,_⟩:=qzi q.pd;rw[((ku f).s d).1]at c3;rw[((ku f).s d).2.2]at c4;have y:=jl i;go_wp2;go_region
  all_goals
   go_wp2;refine tK (v:=.tuple #[.agg #[nS,nS,nS,nS,nS],i_ (tk L j.v).v,.bool false]) ?_ rfl ?_
   ·have:=kxy i (y0:=nS) (y1:=nS) (y2:=nS) (y3:=nS) (y4:=nS);exact kqn results52 _ _ w.heap.size _ _ _ _ rfl this underlying68 rfl au
   ·exact⟨Kept.toBelow (p.ky7 (b:=w.heap.size) jV _ _ _ _ _).drew aj<|jV,.inr ⟨_,g,rfl⟩⟩
section
def yx{α:Type}(f:Int->Nat->α->Int):List α->Nat->Int->Int
 |[],_,a=>a
 |x::xs,i,a=>yx f xs (i+1)<|f a i x
def pqn(a:Int)(i:Nat)(s:PSet):Int:=xu (xu a (qkz i 2 s.y)) (vji s.size 2 3)
def pqs(a:Int)(i:Nat)(m:Tok):Int:=xu a (qkz i 4 m)
def vzu(a:Int)(i:Nat)(k:PKind):Int:=yx pqs k.i 0 (xu a (qkz i 2 k.y))
def zw3(a:Int)(i:Nat)(v:PVar):Int:=if v.R.t.toList==mW then xu (xu a (qkz i 4 v.y)) (vji v.R 1 3) else xu a (qkz i 4 v.y)
def vzy(a:Int)(i:Nat)(r:PRule):Int:=xu a (qkz i 5 r.y)
def manyN(a:Int)(i:Nat)(r:PRule):Int:=xu a (qkz i 3 r.y)
def pql(a:Int)(i:Nat)(p:PP):Int:=xu a (qkz i 2 p.y)
def jki(a:Int)(_:Nat)(r:PRule):Int:=yx pql r.u 0 a
def many1(t:PTree):Int:=yx pqn t.j 0 (-1)
def vzd(t:PTree):Int:=yx vzu t.p 0 (many1 t)
def vzp(t:PTree):Int:=yx zw3 t.z 0 (vzd t)
def vzg(t:PTree):Int:=yx vzy t.l 0 (vzp t)
def jv0(t:PTree):Int:=yx manyN t.q 0 (vzg t)
def kk7(t:PTree):Int:=yx jki (t.l++t.q) 0 (jv0 t)
def kjd{α:Type}(W:World)(f:Int->Nat->α->Int)(items:List α)(z:Int)(at_ i:Value)(wr:World):Prop:=
 ∃(k:Nat)(a:Int),k<=items.length/\i=i_ k/\at_=i_ a/\yx f (items.drop k) k a=yx f items 0 z/\oq W wr
theorem kjd.start(hb:oq W wr):kjd W f items z (i_ z) (i_ 0) wr:=
 ⟨0,z,jG,rfl,rfl,rfl,hb⟩
theorem kjd.Y{b:Int}(d:k<items.length)(h:yx f (items.drop k) k a=yx f items 0 z)(hb:b=f a k items[k])(e:oq W wr):kjd W f items z (i_ b) (i_<|(k:Int)+1) wr:=by refine⟨k+1,b,d,eu,rfl,?_,e⟩;rw[rU d,yx]at h;rw[hb];exact h
theorem kqu(d:¬k<items.length)(h:yx f (items.drop k) k a=yx f items 0 z):a=yx f items 0 z:=by rw[Qa aj,yx]at h;exact h
def zz9(t:Tok):Prop:=∃h:0<t.x.size,48<=((t.x[0]'h).toNat:Int)/\((t.x[0]'h).toNat:Int)<=57
theorem vvk(e:∀j,j<b5.length*6->w.cell? ⟨g,j,none⟩=xs[j]?)(hi:dw lo w b5 xs)(f:k<b5.length):∃vp vg vb ps,
  (∀u,oq w u->u.cell? ⟨g,k*6,none⟩=some (.string b5[k].y.t)/\u.cell? ⟨g,k*6+1,none⟩=some (.string b5[k].y.x)/\u.cell? ⟨g,k*6+2,none⟩=some (i_ b5[k].y.v)/\u.cell? ⟨g,k*6+3,none⟩=some vp/\u.cell? ⟨g,k*6+4,none⟩=some vg/\u.cell? ⟨g,k*6+5,none⟩=some vb) /\
  w.ownsRow lo 236 6 vp b5[k].u.length (kjm b5[k].u)/\yw lo w b5[k].guard vg/\w.ownsRow lo 245 1 vb ps.length ps/\jg lo none w b5[k].S ps:=by
 have⟨vp,vg,vb,ps,⟨f0,f1,f2,f3,f4,f5⟩,r⟩:=qji k f hi;have l:=λj x (h:xs[k*6+j]?=some x) (i:j<6) u (d:oq w u)=>wU d<|(e (k*6+j) aj).trans h
 exact⟨vp,vg,vb,ps,λu d=>⟨l 0 _ f0 aj u d,l 1 _ f1 aj u d,l 2 _ f2 aj u d,l 3 _ f3 aj u d,l 4 _ f4 aj u d,l 5 _ f5 aj u d⟩,r⟩
attribute [local simp] kwz ji kj7 kwf
theorem vqf(h:kqc w lo b6)(ht:TreeOk b6)(hr:b6.l.length<=801)(hn:b6.q.length<=801)(hp:∀r∈b6.l++b6.q,r.u.length<=801)(U:∀s∈b6.j,zz9 s.size)(V:∀v∈b6.z,(v.R.t.toList==mW)=true->zz9 v.R):Calls prog 62 #[pT lo] w λe w'=>rT e (i_<|kk7 b6)/\oq w w':=by
 have HT:=oz h;obtain⟨aS,aP,aT,(a8:Hid _)⟩:=ht;have⟨x0,x1,x2,x3,x4,y1,y3,y4,X,h0,⟨h1,HK⟩,h2,⟨h3,a9⟩,⟨h4,aA⟩⟩:=h;have D:=oz λ(u:World)(hu:oq w u)=>kzk<|(hu.block lo<|wQ X).trans X
 obtain⟨a0,aK,rfl,(aB:Hid _)⟩:=kq8 h0;obtain⟨a1,aL,rfl,(aC:Hid _)⟩:=kq8 h1;obtain⟨a2,aM,rfl,(aD:Hid _)⟩:=kq8 h2;obtain⟨a3,aN,rfl,(aE:Hid _)⟩:=kq8 h3;obtain⟨a4,aO,rfl,(aF:Hid _)⟩:=kq8 h4;have⟨a6,a7,HP⟩:=jF U V hp;clear X U V hp;go_in;go_wp21;go_loopw [3,4] (λat_ i wr=>kjd w pqn b6.j (-1) at_ i wr) (λ_ i _=>b6.j.length-(intOf i).toNat);exact kjd.start<|bR;obtain⟨k,a,B,rfl,rfl,p,m⟩:=hrel;have z:=m.size;have q:=(ku D) wr m;by_cases l:k<b6.j.length
 ·obtain⟨g,rfl,y⟩:=ku aB k l;have e:=fam y (λ_=>rfl) l m;go_wp21;refine zM (qz1 2 (b6.j[k]).y) λu hb=>?_;have t:=m.trans<|hb.mono z;have I:=t.size;go_wp21
  refine(first_any).mono ?_;rintro e u' ⟨rfl,rfl⟩;have q1:=(ku D) _ t;have e1:=fam y (λ_=>rfl) l t;go_wp21;refine zM (pqu (b6.j[k]).size 2 3<|a6 _ (wZ l)) λv hb=>?_;have C:=t.trans<|hb.mono I;go_wp21
  refine zM first_any ?_;rintro Y rfl;go_wp2;exact rdM<|kjd.Y (f:=pqn) l p rfl C
 ·have G:=show kjd w vzu b6.p (many1 b6) (i_ a) (i_ 0) wr from kqu l p▸kjd.start m
  go_wp21;clear p q z;go_loopw [3,5,6] (λat_ i _ wr=>kjd w vzu b6.p (many1 b6) at_ i wr) (λ_ i _ _=>b6.p.length-(intOf i).toNat);exact G;obtain⟨k,a,B,rfl,rfl,p,m⟩:=hrel;have z:=m.size;have q:=(ku D) wr m;by_cases l:k<b6.p.length
  ·obtain⟨g,rfl,y⟩:=ku aC k l;have⟨vm,f0,f1,f2,f3,hm⟩:=qz8 k l HK;have e0:=wU m<|(y (k*4) aj).trans f0;have e1:=wU m<|(y (k*4+1) aj).trans f1;have e2:=wU m<|(y (k*4+2) aj).trans f2;have E3:=oz<|(y (k*4+3) aj).trans f3;have aQ:=ku a8 _<|wZ l;obtain⟨ma,mc,rfl,(J:Hid _)⟩:=kq8 hm;clear y f0 f1 f2 f3;go_wp21
   refine zM (qz1 2 (b6.p[k]).y) λu hb=>?_;have t:=m.trans<|hb.mono z;have I:=t.size;go_wp21
   refine(first_any).mono ?_;rintro e u' ⟨rfl,rfl⟩;have c3:=wU t E3;go_wp21;go_loopw [3,6] (λat_ i wr=>kjd w pqs (b6.p[k]).i (xu a<|qkz k 2 (b6.p[k]).y) at_ i wr) (λ_ i _=>(b6.p[k]).i.length-(intOf i).toNat);exact kjd.start t;obtain⟨j,b,aH,rfl,rfl,F,x⟩:=hrel;have Z:=x.size;have qi:=(ku D) wr x;have ci:=wU x E3;by_cases A:j<(b6.p[k]).i.length
   ·obtain⟨gm,rfl,L⟩:=ku J j A;have d:=fam L (λ_=>rfl) A x;go_wp21;refine zM (qz1 4<|(b6.p[k]).i[j]) λv hb=>?_;have C:=x.trans<|hb.mono Z;have zv:=C.size;go_wp21
    refine zM first_any ?_;rintro Y rfl;go_wp2;exact rdM<|kjd.Y (f:=pqs) A F rfl C
   ·have K:=kjd.Y (f:=vzu) l p (kqu A F) x;go_wp2;exact rdM K
  ·have G:=show kjd w zw3 b6.z (vzd b6) (i_ a) (i_ 0) wr from kqu l p▸kjd.start m
   go_wp21;clear p q z;go_loopw [3,7] (λat_ i wr=>kjd w zw3 b6.z (vzd b6) at_ i wr) (λ_ i _=>b6.z.length-(intOf i).toNat);exact G;obtain⟨k,a,B,rfl,rfl,p,m⟩:=hrel;have z:=m.size;have q:=(ku D) wr m;by_cases l:k<b6.z.length
   ·obtain⟨g,rfl,y⟩:=ku aD k l;have e:=fam y (λ_=>rfl) l m;cases W:((b6.z[k]).R.t.toList==mW);all_goals
     go_wp21;refine zM (qz1 4 (b6.z[k]).y) λu hb=>?_;have t:=m.trans<|hb.mono z;have I:=t.size;go_wp21
     refine(first_any).mono ?_;rintro e u' ⟨rfl,rfl⟩;have q1:=(ku D) _ t;have e1:=fam y (λ_=>rfl) l t
    ·go_wp2;exact rdM (kjd.Y (f:=zw3) l p (by rw[zw3,W];rfl) t)
    ·go_wp21;refine zM (pqu (b6.z[k]).R 1 3<|a7 _ (wZ l) W) λv hb=>?_;have C:=t.trans<|hb.mono I;go_wp21
     refine zM first_any ?_;rintro Y rfl;go_wp2;exact rdM (kjd.Y (f:=zw3) l p (by rw[zw3,W];rfl) C)
   ·have G:=show kjd w vzy b6.l (vzp b6) (i_ a) (i_ 0) wr from kqu l p▸kjd.start m
    go_wp21;clear p q z;go_loopw [3,8] (λat_ i wr=>kjd w vzy b6.l (vzp b6) at_ i wr) (λ_ i _=>b6.l.length-(intOf i).toNat);exact G;obtain⟨k,a,B,rfl,rfl,p,m⟩:=hrel;have z:=m.size;have q:=(ku D) wr m;by_cases l:k<b6.l.length
    ·obtain⟨g,rfl,y⟩:=ku aE k l;have⟨_,_,_,_,E,_⟩:=vvk y a9 l;have e:=E wr m;clear E;go_wp21;refine zM (qz1 5 (b6.l[k]).y) λu hb=>?_;have t:=m.trans<|hb.mono z;have I:=t.size;go_wp21
     refine(first_any).mono ?_;rintro e u' ⟨rfl,rfl⟩;go_wp2;exact rdM<|kjd.Y (f:=vzy) l p rfl t
    ·have G:=show kjd w manyN b6.q (vzg b6) (i_ a) (i_ 0) wr from kqu l p▸kjd.start m
     go_wp21;clear p q z;go_loopw [3,9] (λat_ i wr=>kjd w manyN b6.q (vzg b6) at_ i wr) (λ_ i _=>b6.q.length-(intOf i).toNat);exact G;obtain⟨k,a,B,rfl,rfl,p,m⟩:=hrel;have z:=m.size;have q:=(ku D) wr m;by_cases l:k<b6.q.length
     ·obtain⟨g,rfl,y⟩:=ku aF k l;have⟨_,_,_,_,E,_⟩:=vvk y aA l;have e:=E wr m;clear E;go_wp21;refine zM (qz1 3 (b6.q[k]).y) λu hb=>?_;have t:=m.trans<|hb.mono z;have I:=t.size;go_wp21
      refine(first_any).mono ?_;rintro e u' ⟨rfl,rfl⟩;go_wp2;exact rdM<|kjd.Y (f:=manyN) l p rfl t
     ·have M:=kqu l p;go_wp21;refine(qk3 (HT.below m) hr hn).mono ?_;rintro e w4 ⟨rv,rs,rfl,O,R,aG⟩;have P:=m.trans<|aG.mono z;obtain⟨ra,rc,rfl,(T:Hid _)⟩:=kq8 O;have Q:=show kjd w4 jki (b6.l++b6.q) (jv0 b6) (i_ a) (i_ 0) w4 from M▸kjd.start bR
      have S:=oz (show kk7 b6=yx jki (b6.l++b6.q) 0 (jv0 b6) from rfl);have aJ:(b6.l++b6.q).length<=1602:=lg;clear M p q z l B;generalize b6.l++b6.q=H at Q R T aJ HP S |-;go_wp21
      go_loopw [3,11,12] (λat_ i _ wr=>kjd w4 jki H (jv0 b6) at_ i wr) (λ_ i _ _=>H.length-(intOf i).toNat);exact Q;obtain⟨k,a,B,rfl,rfl,p,m⟩:=hrel;by_cases l:k<H.length
      ·obtain⟨g,rfl,y⟩:=ku T k l;obtain⟨vp,_,_,_,(N:Hid _),aI,_⟩:=vvk y R l;have e:=N wr m;have aR:=ku HP _<|wZ l;obtain⟨ma,mc,rfl,(J:Hid _)⟩:=kq8 aI;clear y;go_wp21
       go_loopw [3,12] (λat_ i wr=>kjd w4 pql (H[k]).u a at_ i wr) (λ_ i _=>(H[k]).u.length-(intOf i).toNat);exact kjd.start m;clear e;obtain⟨j,b,aH,rfl,rfl,F,x⟩:=hrel;have Z:=x.size;have e:=(ku N) wr x;by_cases A:j<(H[k]).u.length
       ·obtain⟨gm,rfl,L⟩:=ku J j A;have d:=fam L (λ_=>rfl) A x;go_wp21;refine zM (qz1 2 ((H[k]).u[j]).y) λv hb=>?_;have C:=x.trans<|hb.mono Z;have zv:=C.size;go_wp21
        refine zM first_any ?_;rintro Y rfl;go_wp2;exact rdM<|kjd.Y (f:=pql) A F rfl C
       ·have K:=kjd.Y (f:=jki) l p (kqu A F) x;go_wp2;exact rdM K
      ·have N:=oz (by rw[ku S];exact kqu l p:a=kk7 b6);have a5:=P.trans<|m.mono P.size;go_wp2
       go_ret;exact⟨kqi N,a5⟩
end
def fAt(z:Int):Int:=if z<0 then 0 else z
def qx0(w:World)(B o:Nat)(z a:Int):World:=if z<0\/a<z then (w.setCell (Ad B o) (.bool true)).setCell (Ad B (o+1)) (i_ a) else w
theorem note_any{o:Nat}(a:Int)(c0:Ce w B o (.bool (decide (0<=z))))(c1:Ce w B (o+1) (i_ (fAt z)))(f0:Fr w B o)(f1:Fr w B (o+1)):Calls prog 212 #[.pointer (some (Ad B o)),i_ a] w λe w'=>rT e (.tuple #[])/\w'=qx0 w B o z a:=by
 by_cases f:z<0
 ·have E:=oz (by unfold qx0;simp_all:qx0 w B o z a=(w.setCell (Ad B o)<|.bool true).setCell (Ad B (o+1)) (i_ a));rw[show decide (0<=z)=false by simp_all]at c0;go_wp2;go_end0;rw[ku E];simp
 ·rw[show decide (0<=z)=true by simp_all]at c0;rw[show fAt z=z by unfold fAt;omega]at c1;by_cases d:a<z
  ·have E:=oz (by unfold qx0;simp_all:qx0 w B o z a=(w.setCell (Ad B o)<|.bool true).setCell (Ad B (o+1)) (i_ a));go_wp2;go_end0;rw[ku E];simp
  ·have E:=oz (by unfold qx0;grind:qx0 w B o z a=w);go_wp2;go_end0;rw[ku E];simp
def FB(w:World)(B:Nat)(z:Int):Prop:=w.heap[B]?=some (.cells #[.bool (decide (0<=z)),i_ (fAt z)] 199 (0,0))
theorem zwq(z a:Int)(d:0<=a):xu z a=if z<0\/a<z then a else z:=by grind [xu]
theorem FB.note(h:FB w B z)(e:0<=a):FB (qx0 w B 0 z a) B (xu z a):=by
 unfold FB at *;rw[zwq z a e];unfold qx0;by_cases d:z<0\/a<z
 ·rw[lJ d,lJ d];have:=set2 h (m:=.bool true) (n:=i_ a);rw[show decide (0<=a)=true by simp_all,show fAt a=a by unfold fAt;omega];exact this
 grind
theorem Kept.note(B o:Nat)(w:World)(z a:Int):Kept B w (qx0 w B o z a):=by grind [qx0,Kept.refl,kzr]
theorem FB.kept(h:FB w B z)(hb:oq w w'):FB w' B z:=by unfold FB at *;rw[hb.block B (wQ h)];exact h
def qxh(z:Int)(n:Int)(most:Int)(t:Tok):Int:=if most<=n then xu z t.v else z
def vv7(z:Int)(t:Tok)(lo hi:Int):Int:=if mg t.x<lo\/hi<mg t.x then xu z t.v else z
theorem count_any(n most:Int)(t:Tok)(h:FB w B z):Calls prog 153 #[pT B,i_ n,i_ most,ptV t] w λe w'=>rT e (.tuple #[])/\FB w' B (qxh z n most t)/\Kept B w w':=by
 unfold ptV;by_cases g:most<=n
 ·have E:=oz (by unfold qxh;omega:qxh z n most t=xu z t.v);have d:FB (w.alloc<|.cells #[.string t.x,i_ t.v] 107) B z:=h.kept<|jZ _;have⟨c0,c1,f0,f1⟩:=kj6 d;go_in
  go_wp21;refine zM (note_any t.v c0 c1 f0 f1) λi f=>?_;subst f;go_wp2;go_end0;rw[ku E];exact⟨rfl,d.note aj,(Kept.kqe _).trans<|Kept.note _ _ _ _ _⟩
 ·have E:=oz (by unfold qxh;omega:qxh z n most t=z);go_wp2;go_end0;rw[ku E];exact⟨rfl,h.kept<|jZ _,Kept.kqe _⟩
theorem size_any(lo hi:Int)(t:Tok)(h:FB w B z):Calls prog 154 #[pT B,dgV t,i_ lo,i_ hi] w λe w'=>rT e (.tuple #[])/\FB w' B (vv7 z t lo hi)/\Kept B w w':=by
 unfold dgV;have f:FB (w.alloc<|.cells #[i_ (mg t.x),i_ t.v] 109) B z:=h.kept<|jZ _;have⟨c0,c1,f0,f1⟩:=kj6 f;have i:=note_any t.v c0 c1 f0 f1;have E:=oz (show vv7 z t lo hi=if mg t.x<lo\/hi<mg t.x then xu z t.v else z from rfl);generalize mg t.x=d at *;clear c0 c1 f0 f1;by_cases h1:d<lo
 ·rw[lJ (.inl h1)]at E;go_in;go_wp21;refine zM i λk g=>?_;subst g;go_wp2;go_end0;rw[ku E];exact⟨rfl,f.note aj,(Kept.kqe _).trans<|Kept.note _ _ _ _ _⟩
 ·by_cases j:hi<d
  ·rw[lJ (.inr j)]at E;go_in;go_wp21;refine zM i λk g=>?_;subst g;go_wp2;go_end0;rw[ku E];exact⟨rfl,f.note aj,(Kept.kqe _).trans<|Kept.note _ _ _ _ _⟩
  ·rw[Xy aj]at E;go_wp2;go_end0;grind [ku,Kept.kqe]
theorem qp(h:w.ownsRow lo k size v n xs):∃a cap,v=.slice a n cap/\∀i,i<n->∃g,a=some ⟨g,0,none⟩/\lo<=g/\g<w.heap.size/\∀j,j<n*size->w.cell? ⟨g,j,none⟩=xs[j]?:=by
 obtain⟨rfl,rfl⟩|⟨g,cap,cur,rfl,m,p,d,e,f,l⟩:=h.2
 ·simp
 grind [cell_of_row]
theorem kja{g3:Option Addr}(h:w.ownsRow lo k size (.slice g3 B c) n xs):B=n/\∀i,i<n->∃g,g3=some ⟨g,0,none⟩/\lo<=g/\g<w.heap.size/\∀j,j<n*size->w.cell? ⟨g,j,none⟩=xs[j]?:=by have⟨_,_,k,h⟩:=qp h;injection k with d e e3;subst d;exact⟨e,h⟩
def kw8{α:Type}(W:World)(B:Nat)(f:Int->Nat->α->Int)(items:List α)(z0:Int)(i:Value)(wr:World):Prop:=
 ∃(k:Nat)(a:Int),k<=items.length/\i=i_ k/\yx f (items.drop k) k a=yx f items 0 z0/\FB wr B a/\Kept B W wr
theorem kw8.start(d:FB wr B z)(e:Kept B W wr):kw8 W B f items z (i_ 0) wr:=
 ⟨0,z,jG,rfl,rfl,d,e⟩
theorem kw8.Y(d:k<items.length)(h:yx f (items.drop k) k a=yx f items 0 z)(e:FB wr B (f a k items[k]))(g:Kept B W wr):kw8 W B f items z (i_<|(k:Int)+1) wr:=by refine⟨k+1,_,d,eu,?_,e,g⟩;rw[rU d,yx]at h;exact h
def vy1(a:Int)(i:Nat)(p:PP):Int:=qxh a i 2 p.y
theorem qvo(h:FB w B z)(Q:g4.length<=1000)(I:w.ownsRow lo 352 4 x g4.length (uq g4))(E:x.ownBlock≠some B):Calls prog 155 #[pT B,x] w λe w'=>rT e (.tuple #[])/\FB w' B (yx vy1 g4 0 z)/\Kept B w w':=by
 obtain⟨xa,cap,rfl,(D:Hid _)⟩:=qp I;have H:=oz h;go_in;go_wp21;go_loopw [4,5,8] (λ_ _ i wr=>kw8 w B vy1 g4 z i wr) (λ_ _ i _=>g4.length-(intOf i).toNat);exact kw8.start H<|Kept.refl _ _;obtain⟨k,a,P,rfl,(t:Hid _),v,m⟩:=hrel;have M:=m.size;by_cases l:k<g4.length
 ·obtain⟨g,rfl,K,L,s⟩:=ku D k l;have d:g≠B:=λe=>E (by simp[Value.ownBlock,e])
  have q:=λj (G:j<4)=>kqo kzn 4 (λ_=>rfl) g4 k j l G
  have e0:=m.cell (a:=⟨g,k*4+0,none⟩) d<|(s (k*4+0) aj).trans (q 0 aj);have y:=m.cell (a:=⟨g,k*4+1,none⟩) d<|(s (k*4+1) aj).trans (q 1 aj);have A:=m.cell (a:=⟨g,k*4+2,none⟩) d<|(s (k*4+2) aj).trans (q 2 aj);have e3:=m.cell (a:=⟨g,k*4+3,none⟩) d<|(s (k*4+3) aj).trans (q 3 aj);have u:=oz (λ(w':World) (F:FB w' B (qxh a k 2 (g4[k]).y)) (J:Kept B w w')=>kw8.Y (W:=w) (wr:=w') (B:=B) (f:=vy1) (items:=g4) (z:=z) (a:=a) l t F J);simp only[kzn,sW,sU,Qk]at e0 y A e3;generalize g4[k]=p at e0 y A e3 u;clear s q;go_wp21
  refine zM (count_any k 2 p.y<|v.kept (jZ _)) ?_;rintro R ⟨h1,C⟩;have N:=u _ h1<|(m.alloc _).trans C;go_wp2
  grind [ku,intOf]
 ·have O:=kqu l t;go_wp2;go_end0;grind [ku]
theorem jjh:∀{ks:List PKind}{cs:List Value}(i:Nat)(hi:i<ks.length),kvp lo w ks cs ->
  ∃ma mn mc,cs[i*3]?=some (.string (ks[i]).y.x)/\cs[i*3+1]?=some (i_ (ks[i]).y.v)/\cs[i*3+2]?=some (.slice ma mn mc)/\w.ownsRow lo 107 2 (.slice ma mn mc) (ks[i]).i.length (kjq (ks[i]).i)
 |[],_,i,hi,_=>by grind
 |k::ks,cs,0,_,⟨ma,mn,mc,rest,e,h1,h2⟩=>by grind
 |k::ks,cs,i+1,hi,⟨ma,mn,mc,rest,e,h1,h2⟩=>by subst e;have⟨a,b,c,d,f,g,h⟩:=jjh i (by simp_all) h2;grind
theorem vjd:∀{rs:List PRule}{cs:List Value}(i:Nat)(hi:i<rs.length),kvy lo w rs cs ->
  ∃pa pn pc gp ba bn bc bcs,(cs[i*5]?=some (.string (rs[i]).y.x)/\cs[i*5+1]?=some (i_ (rs[i]).y.v)/\cs[i*5+2]?=some (.slice pa pn pc)/\cs[i*5+3]?=some (.pointer gp)/\cs[i*5+4]?=some (.slice ba bn bc)) /\
   w.ownsRow lo 352 4 (.slice pa pn pc) (rs[i]).u.length (uq (rs[i]).u)/\XIs lo w (rs[i]).guard (.pointer gp)/\w.ownsRow lo 334 9 (.slice ba bn bc) (kqq (rs[i]).S) bcs/\BIs lo none w (rs[i]).S bcs
 |[],_,i,hi,_=>by grind
 |r::rs,cs,0,_,⟨pa,pn,pc,gp,ba,bn,bc,bcs,rest,e,h1,h2,h3,h4,h5⟩=>by grind
 |r::rs,cs,i+1,hi,⟨pa,pn,pc,gp,ba,bn,bc,bcs,rest,e,h1,h2,h3,h4,h5⟩=>by
  subst e;have⟨a1,a2,a3,a4,a5,a6,a7,a8,⟨f,g,h,j,k⟩,d⟩:=vjd i (by simp_all) h5;refine⟨a1,a2,a3,a4,a5,a6,a7,a8,⟨?_,?_,?_,?_,?_⟩,d⟩
  ·grind
  ·grind
  ·grind
  ·grind
  grind
theorem vz0:∀{rs:List PRule}{cs:List Value}(i:Nat)(hi:i<rs.length),kvg lo w rs cs ->
  ∃pa pn pc gp,(cs[i*4]?=some (.string (rs[i]).y.x)/\cs[i*4+1]?=some (i_ (rs[i]).y.v)/\cs[i*4+2]?=some (.slice pa pn pc)/\cs[i*4+3]?=some (.pointer gp)) /\
   w.ownsRow lo 352 4 (.slice pa pn pc) (rs[i]).u.length (uq (rs[i]).u)/\XIs lo w (rs[i]).guard (.pointer gp)
 |[],_,i,hi,_=>by grind
 |r::rs,cs,0,_,⟨pa,pn,pc,gp,rest,e,h1,h2,h5⟩=>by grind
 |r::rs,cs,i+1,hi,⟨pa,pn,pc,gp,rest,e,h1,h2,h5⟩=>by subst e;have⟨a1,a2,a3,a4,⟨d,f,g,h⟩,j⟩:=vz0 i (by simp_all) h5;grind
def pS(a:Int)(i:Nat)(s:PSet):Int:=vv7 (qxh a i 2 s.y) s.size 2 3
def pM(a:Int)(i:Nat)(m:Tok):Int:=qxh a i 4 m
def pK(a:Int)(i:Nat)(k:PKind):Int:=yx pM k.i 0 (qxh a i 2 k.y)
def pV(a:Int)(i:Nat)(v:VrT):Int:=if v.si.I==1 then vv7 (qxh a i 4 v.y) v.si.R 1 3 else qxh a i 4 v.y
def pR(a:Int)(i:Nat)(r:PRule):Int:=yx vy1 r.u 0 (qxh a i 5 r.y)
def pN(a:Int)(i:Nat)(r:PRule):Int:=yx vy1 r.u 0 (qxh a i 3 r.y)
def pm1(m:MdL):Int:=yx pS m.j 0 (-1)
def pm2(m:MdL):Int:=yx pK m.p 0 (pm1 m)
def pm3(m:MdL):Int:=yx pV m.z 0 (pm2 m)
def pm4(m:MdL):Int:=yx pR m.l 0 (pm3 m)
def qz2(m:MdL):Int:=yx pN m.q 0 (pm4 m)
structure MdOk (m:MdL):Prop where
 j:m.j.length<=1000
 p:m.p.length<=1000
 z:m.z.length<=1000
 l:m.l.length<=1000
 q:m.q.length<=1000
 i:∀k∈m.p,k.i.length<=1000
 u:∀r∈m.l++m.q,r.u.length<=1000
theorem jwo(h:kwm lo w x0 x1 x2 x3 x4 m)(Y:MdOk m):Calls prog 91 #[.agg #[x0,x1,x2,x3,x4]] w λe w'=>rT e (.agg #[.bool (decide (0<=qz2 m)),i_ (fAt<|qz2 m)])/\oq w w':=by
 have⟨h0,⟨c1,h1,aW⟩,Q,⟨c3,h3,aX⟩,⟨c4,h4,aY⟩⟩:=h;have l0:=kq9 h0;have l1:=kq9 h1;have l2:=kq9 Q;have l3:=kq9 h3;have l4:=kq9 h4;have⟨aP,aQ,aR,aS,aT,aF,aG⟩:=Y;have Y:MdOk m:=⟨aP,aQ,aR,aS,aT,aF,aG⟩;have⟨W,hW⟩:=cpy<|((w.alloc<|.cells #[x0,x1,x2,x3,x4] 68).alloc<|.cells #[.bool false,i_ 0] 199).alloc (.cells #[.bool false,i_ 0] 199);have S:oq w W:=by rw[hW];exact((jZ w).trans<|(jZ _).mono ay).trans ((jZ _).mono ah)
 have bH:W.heap.size=w.heap.size+3:=by simp_all
 have⟨B,hB⟩:=cpy<|w.heap.size+1+1;have⟨bF,U⟩:=jS hW.symm (by grind [zy,qy]:Rw W w.heap.size #[x0,x1,x2,x3,x4] 68);have aU:=oz (show W.heap[w.heap.size+1]?=some (.cells #[.bool false,i_ 0] 199 (0,0)) by grind [qy,zy])
 have aZ:=show FB W B (-1) by rw[hW,hB];have:=qy (w:=(w.alloc<|.cells #[x0,x1,x2,x3,x4] 68).alloc<|.cells #[.bool false,i_ 0] 199) (o:=.cells #[.bool false,i_ 0] 199);simp only[tV]at this;exact this
 have st:∀k,lo<=k->k<w.heap.size->W.heap[k]?=w.heap[k]?:=λk _ R=>S.block k R
 have vw:∀{e size:Nat}{v:Value}{n:Nat}{xs:List Value},w.ownsRow lo e size v n xs->∃a cap,v=.slice a n cap/\∀i,i<n->∃g,a=some (Ad g 0)/\lo<=g/\g<w.heap.size/\∀j,j<n*size->W.cell? (Ad g j)=xs[j]?:=by intro e size v n xs h;have⟨a,cap,P,hv⟩:=qp h;refine⟨a,cap,P,λi hi=>?_⟩;have⟨g,q1,q2,q3,q4⟩:=hv i hi;exact⟨g,q1,q2,q3,λj hj=>(S.cell (p:=⟨g,j,none⟩) q3).trans<|q4 j hj⟩
 obtain⟨a0,bM,rfl,(b9:Hid _)⟩:=vw h0;obtain⟨a1,bN,rfl,(bA:Hid _)⟩:=vw h1;obtain⟨a2,bO,rfl,(bB:Hid _)⟩:=vw Q;obtain⟨a3,bP,rfl,(bC:Hid _)⟩:=vw h3;obtain⟨a4,bQ,rfl,(bD:Hid _)⟩:=vw h4;clear vw l0 l1 l2 l3 l4;have aV:=oz hB;have bS:w.heap.size+1<B:=aj;have bT:B<W.heap.size:=aj;clear bH hB hW st aF aG;have b3:=show kw8 W B pS m.j (-1) (i_ 0) W from kw8.start aZ<|Kept.refl _ _
 go_in;go_wp21;rw[ku bF,<-ku aV];go_loopw [4,5,19] (λ_ _ i wr=>kw8 W B pS m.j (-1) i wr) (λ_ _ i _=>m.j.length-(intOf i).toNat);exact b3;obtain⟨k,a,R,rfl,(x:Hid _),q,l⟩:=hrel;have aA:=l.size;by_cases d:k<m.j.length
 ·obtain⟨g,rfl,a8,a9,u⟩:=ku b9 k d;have s:g≠B:=aj;have e:=jyd u (λ_=>rfl) d l s;have t:=oz (λ(w':World) (K:FB w' B (pS a k<|m.j[k])) (N:Kept B W w')=>kw8.Y (W:=W) (wr:=w') (f:=pS) (items:=m.j) (z:=(-1)) (a:=a) d x K N);generalize m.j[k]=p at e t;clear u;go_wp21;refine zM (count_any k 2 p.y<|q.kept (jZ _)) ?_;rintro w1 ⟨O,y⟩;have A:=y.e (b:=wr.heap.size) aj<|qy;have C:=(l.alloc _).trans y;clear e;have g2:=kz3 A;clear A;go_wp21
  refine zM (size_any 2 3 p.size O) ?_;rintro w2 ⟨Q,L⟩;have F:=t _ Q<|C.trans L;go_wp2
  exact rdM F
 ·have E:=kqu d x;rw[E]at q;have D:=l.e (b:=w.heap.size) aj U;have qx:=jl D;have b4:=show kw8 W B pK m.p (pm1 m) (i_ 0) wr from kw8.start q l
  clear E D;go_wp21;go_loopw [6,7,8,9,35] (λ_ _ _ _ i wr=>kw8 W B pK m.p (pm1 m) i wr) (λ_ _ _ _ i _=>m.p.length-(intOf i).toNat);exact b4;obtain⟨k,a,R,rfl,(x:Hid _),q,l⟩:=hrel;have aA:=l.size;by_cases d:k<m.p.length
  ·obtain⟨g,rfl,a8,a9,u⟩:=ku bA k d;have s:g≠B:=aj;have⟨ma,mn,mc,G,H,I,J⟩:=jjh k d aW;have e0:=l.cell (a:=⟨g,k*3,none⟩) s<|(u (k*3) aj).trans G;have P:=l.cell (a:=⟨g,k*3+1,none⟩) s<|(u (k*3+1) aj).trans H;have V:=l.cell (a:=⟨g,k*3+2,none⟩) s<|(u (k*3+2) aj).trans I;have t:=oz (λ(w':World) (K:FB w' B (pK a k<|m.p[k])) (N:Kept B W w')=>kw8.Y (W:=W) (wr:=w') (f:=pK) (items:=m.p) (z:=(pm1 m)) (a:=a) d x K N);have M:=Y.i _<|wZ d;generalize m.p[k]=p at e0 P V t J M;clear u G H I;go_wp21
   refine zM (count_any k 2 p.y<|q.kept (jZ _)) ?_;rintro w1 ⟨O,y⟩;have A:=y.e (b:=wr.heap.size) aj<|qy;have C:=(l.alloc _).trans y;clear e0 P V;have g2:=row3 A;clear A;obtain⟨mb,bK,aO,(b2:Hid _)⟩:=qp J;injection aO with q1 q2 q3;subst q1;subst q2;subst q3;have bW:=kq9 J;have b8:=show kw8 W B pM p.i (qxh a k 2 p.y) (i_ 0) w1 from kw8.start O C
   go_wp21;go_loopw [8,9,47] (λ_ _ i wr=>kw8 W B pM p.i (qxh a k 2 p.y) i wr) (λ_ _ i _=>p.i.length-(intOf i).toNat);exact b8;obtain⟨k5,a5,bV,rfl,(aB:Hid _),a6,a7⟩:=hrel;have bJ:=a7.size;by_cases T:k5<p.i.length
   ·obtain⟨g5,rfl,bI,aM,aI⟩:=ku b2 k5 T;have aN:g5≠B:=aj;have e:=jyd (λj hj=>(S.cell (p:=⟨g5,j,none⟩) aM).trans<|aI j hj) (λ_=>rfl) T a7 aN;have aC:=oz (λ(w':World) (K:FB w' B (pM a5 k5<|p.i[k5])) (N:Kept B W w')=>kw8.Y (W:=W) (wr:=w') (B:=B) (f:=pM) (items:=p.i) (z:=qxh a k 2 p.y) (a:=a5) T aB K N);generalize p.i[k5]=t5 at e aC;clear aI;go_wp21;refine zM (count_any k5 4 t5<|a6.kept (jZ _)) ?_;rintro w6 ⟨h6,bG⟩;have F:=aC _ h6<|(a7.alloc _).trans bG;go_wp2
    exact rdM F
   ·have aJ:=kqu T aB;rw[aJ]at a6;have F:=t _ a6 a7;clear aJ;go_wp2;exact rdM F
  ·have E:=kqu d x;rw[E]at q;have D:=l.e (b:=w.heap.size) aj U;have qx:=jl D;have b5:=show kw8 W B pV m.z (pm2 m) (i_ 0) wr from kw8.start q l
   clear E D;go_wp21;go_loopw [10,11,60] (λ_ _ i wr=>kw8 W B pV m.z (pm2 m) i wr) (λ_ _ i _=>m.z.length-(intOf i).toNat);exact b5;obtain⟨k,a,R,rfl,(x:Hid _),q,l⟩:=hrel;have aA:=l.size;by_cases d:k<m.z.length
   ·obtain⟨g,rfl,a8,a9,u⟩:=ku bB k d;have s:g≠B:=aj;have e:=jyd u (λ_=>rfl) d l s;have t:=oz (λ(w':World) (K:FB w' B (pV a k<|m.z[k])) (N:Kept B W w')=>kw8.Y (W:=W) (wr:=w') (B:=B) (f:=pV) (items:=m.z) (z:=(pm2 m)) (a:=a) d x K N);generalize m.z[k]=p at e t;clear u;go_wp21;refine zM (count_any k 4 p.y<|q.kept (jZ _)) ?_;rintro w1 ⟨O,y⟩;have A:=y.e (b:=wr.heap.size) aj<|qy;have C:=(l.alloc _).trans y;have bX:=C.size;clear e;have g5:=kju A;clear A;cases bU:(p.si.I==1)
    ·have HP:=oz (by unfold pV;simp_all:pV a k p=qxh a k 4 p.y);rw[ku HP]at t;have F:=t _ O C;go_wp2;exact rdM F
    ·have HP:=oz (by unfold pV;simp_all:pV a k p=vv7 (qxh a k 4 p.y) p.si.R 1 3);rw[ku HP]at t;go_wp21;refine zM (size_any 1 3 p.si.R O) ?_;rintro w2 ⟨Q,L⟩;have F:=t _ Q<|C.trans L;go_wp2
     exact rdM F
   ·have E:=kqu d x;rw[E]at q;have D:=l.e (b:=w.heap.size) aj U;have qx:=jl D;have b6:=show kw8 W B pR m.l (pm3 m) (i_ 0) wr from kw8.start q l
    clear E D;go_wp21;go_loopw [12,13,81] (λ_ _ i wr=>kw8 W B pR m.l (pm3 m) i wr) (λ_ _ i _=>m.l.length-(intOf i).toNat);exact b6;obtain⟨k,a,R,rfl,(x:Hid _),q,l⟩:=hrel;have aA:=l.size;by_cases d:k<m.l.length
    ·obtain⟨g,rfl,a8,a9,u⟩:=ku bC k d;have s:g≠B:=aj;have⟨pa,pn,pc,gp,ba,bn,bc,bL,⟨G,H,I,X,aH⟩,J,_⟩:=vjd k d aX;have e0:=l.cell (a:=⟨g,k*5,none⟩) s<|(u (k*5) aj).trans G;have P:=l.cell (a:=⟨g,k*5+1,none⟩) s<|(u (k*5+1) aj).trans H;have V:=l.cell (a:=⟨g,k*5+2,none⟩) s<|(u (k*5+2) aj).trans I;have e3:=l.cell (a:=⟨g,k*5+3,none⟩) s<|(u (k*5+3) aj).trans X;have e4:=l.cell (a:=⟨g,k*5+4,none⟩) s<|(u (k*5+4) aj).trans aH;have t:=oz (λ(w':World) (K:FB w' B (pR a k<|m.l[k])) (N:Kept B W w')=>kw8.Y (W:=W) (wr:=w') (B:=B) (f:=pR) (items:=m.l) (z:=(pm3 m)) (a:=a) d x K N);have M:=Y.u _<|jU (wZ d);generalize m.l[k]=p at e0 P V e3 e4 t J M;clear u G H I X aH;go_wp21
     refine zM (count_any k 5 p.y<|q.kept (jZ _)) ?_;rintro w1 ⟨O,y⟩;have A:=y.e (b:=wr.heap.size) aj<|qy;have C:=(l.alloc _).trans y;clear e0 P V e3 e4;have g2:=jl A;clear A;have Z:(Value.slice pa pn pc).ownBlock≠some B:=λe=>by have:=kq9 J _ e;omega
     have aD:=qkv (xg (λk _ R=>S.block k R) J) Z C;go_wp21;refine zM (qvo O M aD Z) ?_;rintro w2 ⟨Q,L⟩;have F:=t _ Q<|C.trans L;go_wp2
     exact rdM F
    ·have E:=kqu d x;rw[E]at q;have D:=l.e (b:=w.heap.size) aj U;have qx:=jl D;have b7:=show kw8 W B pN m.q (pm4 m) (i_ 0) wr from kw8.start q l
     clear E D;go_wp21;go_loopw [14,15,97] (λ_ _ i wr=>kw8 W B pN m.q (pm4 m) i wr) (λ_ _ i _=>m.q.length-(intOf i).toNat);exact b7;obtain⟨k,a,R,rfl,(x:Hid _),q,l⟩:=hrel;have aA:=l.size;by_cases d:k<m.q.length
     ·obtain⟨g,rfl,a8,a9,u⟩:=ku bD k d;have s:g≠B:=aj;have⟨pa,pn,pc,gp,⟨G,H,I,X⟩,J,_⟩:=vz0 k d aY;have e0:=l.cell (a:=⟨g,k*4,none⟩) s<|(u (k*4) aj).trans G;have P:=l.cell (a:=⟨g,k*4+1,none⟩) s<|(u (k*4+1) aj).trans H;have V:=l.cell (a:=⟨g,k*4+2,none⟩) s<|(u (k*4+2) aj).trans I;have e3:=l.cell (a:=⟨g,k*4+3,none⟩) s<|(u (k*4+3) aj).trans X;have t:=oz (λ(w':World) (K:FB w' B (pN a k<|m.q[k])) (N:Kept B W w')=>kw8.Y (W:=W) (wr:=w') (B:=B) (f:=pN) (items:=m.q) (z:=(pm4 m)) (a:=a) d x K N);have M:=Y.u _<|jP (wZ d);generalize m.q[k]=p at e0 P V e3 t J M;clear u G H I X;go_wp21
      refine zM (count_any k 3 p.y<|q.kept (jZ _)) ?_;rintro w1 ⟨O,y⟩;have A:=y.e (b:=wr.heap.size) aj<|qy;have C:=(l.alloc _).trans y;clear e0 P V e3;have g2:=kz3 A;clear A;have Z:(Value.slice pa pn pc).ownBlock≠some B:=λe=>by have:=kq9 J _ e;omega
      have aD:=qkv (xg (λk _ R=>S.block k R) J) Z C;go_wp21;refine zM (qvo O M aD Z) ?_;rintro w2 ⟨Q,L⟩;have F:=t _ Q<|C.trans L;go_wp2
      exact rdM F
     ·have E:=kqu d x;rw[E]at q;have D:=l.e (b:=w.heap.size) aj U;have aE:=l.e (b:=w.heap.size+1) aj aU;have d0:=kj6 aE;have g0:=kj6 q;have aK:=oz aE;clear E D aE;go_wp2;refine kx0 results91 underlying199 (set2 aK) ?_;refine⟨rfl,?_⟩;have aL:oq w wr:=S.trans<|Kept.toBelow (B:=w.heap.size) l aj aj;exact(aL.setCell ay _).setCell ay _
structure Ent where
 V:Int
 N:Int
 t:ByteArray
 var:VrT
def kv3:VrT:=⟨zh,false,zh,⟨0,zh,zh⟩⟩
def jkh:Ent:=⟨0,0,⟨#[]⟩,kv3⟩
def qkr(e:Ent):List Value:=[i_ e.V,i_ e.N,.string e.t]++kjs e.var
def qy7(e:Ent):Value:=.agg (qkr e).toArray
abbrev Tab:=List (ByteArray×Ent)
variable {t:Tab}
def zl:Tab->List UInt8->Ent
 |[],_=>jkh
 |x::l,s=>if x.1.toList==s then x.2 else zl l s
def kj5(w:World)(b:Nat)(t:Tab):Prop:=
 (∃es clock,w.heap[b]?=some (.map es clock)/\es.toList.map (λe=>(e.key,e.val))=t.map (λx=>(Value.string x.1,qy7 x.2)))/\(t.map (·.1.toList)).Nodup/\∀x∈t,x.1.size<=1000
theorem kj5.kept(h:kj5 w lo t)(hb:oq w w'):kj5 w' lo t:=by
 have⟨⟨es,c,h1,d⟩,e⟩:=h;have f:lo<w.heap.size:=by grind
 exact⟨⟨es,c,by rw[hb.block lo f];exact h1,d⟩,e⟩
theorem keyed:Maps.Keyed prog 9:=Maps.string_keyed underlying9
theorem keyS(d:b8.size<=1000):keyOf prog 9 (.string b8)=some (.string b8.data.toList):=WideMaps.keyOf_string_mk underlying9 iq
theorem xjq(w:World):(zeroValue 294).run prog w=.ok (qy7 jkh) w:=au
theorem zx5(h:es.toList.map (λg6=>(g6.key,g6.val))=t.map (λx=>(Value.string x.1,qy7 x.2)))(d:g6∈es.toList):∃x∈t,g6.key=.string x.1/\g6.val=qy7 x.2:=by grind [List.mem_map_of_mem]
theorem pair_mem(h:es.toList.map (λe=>(e.key,e.val))=t.map (λg7=>(Value.string g7.1,qy7 g7.2))){g7:ByteArray×Ent}(d:g7∈t):∃e∈es.toList,e.key=.string g7.1/\e.val=qy7 g7.2:=by grind [List.mem_map_of_mem]
theorem vzt:∀(t:Tab)(s:List UInt8),(∀x∈t,x.1.toList≠s)->zl t s=jkh
 |[],_,_=>rfl
 |x::l,s,h=>by rw[zl,Xy (by simp_all)];exact vzt l s λy d=>h y<|jB d
theorem jju:∀(t:Tab)(s:List UInt8),(t.map (·.1.toList)).Nodup->∀x∈t,x.1.toList=s->zl t s=x.2
 |y::l,s,hn,x,d,e=>by
  rw[Qm,QM]at hn;rw[zl];obtain rfl|d:=tZ.1 d
  ·simp_all
  ·rw[Xy (by grind)]
   exact jju l s hn.2 x d e
theorem pjj{g8:ByteArray}(h:b8.toList=g8.toList):b8=g8:=by rw[yj,yj]at h;cases b8;simp_all
theorem kvb(h:kj5 w lo t)(s:b8.size<=1000):(Instr.lookup 202 (.map (some lo)) (.string b8) false).run prog w=.ok (qy7 (zl t b8.toList)) w:=by
 have⟨⟨es,c,h1,m⟩,p,u⟩:=h;have g:=keyS s;have f:∀e∈es.toList,∃l,keyOf prog 9 e.key=some l:=λe v=>by grind [zx5,keyS]
 obtain⟨f1,f2⟩|⟨j,e0,f1,f2,f3⟩:=keyed.find w g es.toList f
 ·rw[vzt t b8.toList (λx i e=>by grind [pair_mem,pjj])]
  simp[Instr.lookup,Q7 underlying202,MapKept.run_getObj_map h1,keyed.check w _ g,f1,xjq w,Result.andThen]
 ·have q:=wB f2;have⟨x,i,d,k⟩:=zx5 m q;rw[f3]at d;injection d with d;rw[jju t b8.toList p x i (by rw[d]),<-k];simp[Instr.lookup,Q7 underlying202,MapKept.run_getObj_map h1,keyed.check w _ g,f1,Result.andThen]
theorem xje{e:Ent}(h:kj5 w lo t)(i:b8.size<=1000)(m:∀x∈t,x.1.toList≠b8.toList):∃w',(Instr.mapUpdate 202 (.map (some lo)) (.string b8) (qy7 e)).run prog w=.ok () w'/\kj5 w' lo (t++[(b8,e)])/\Kept lo w w':=by
 have⟨⟨es,c,h1,g⟩,q,s⟩:=h;have f:=keyS i;have d:∀e∈es.toList,∃l,keyOf prog 9 e.key=some l:=λe u=>by grind [zx5,keyS]
 obtain⟨f1,f2⟩|⟨j,e0,f1,f2,f3⟩:=keyed.find w f es.toList d
 ·refine⟨ChangeMaps.setBlock w lo<|.map (es.push ⟨.string b8,qy7 e,c⟩) (c+1),by simp[Instr.mapUpdate,Q7 underlying202,MapKept.run_getObj_map h1,keyed.check w false f,f1,MapKept.run_setObj_map _ h1,Result.andThen,ChangeMaps.setBlock],⟨⟨_,_,ChangeMaps.heap_setBlock_same h1 _,?_⟩,?_,?_⟩,⟨rfl,rfl,rfl,lV,λk _ hn=>ChangeMaps.heap_setBlock_other h1 _ hn⟩⟩
  ·simp_all
  ·grind
  grind
 ·exfalso
  have⟨x,v,p,_⟩:=zx5 g<|wB f2;grind
def ky3(t:Tab):Prop:=∀x∈t,1<=x.2.V
theorem px1(h:ky3 t)(hn:(t.map (·.1.toList)).Nodup){s:List UInt8}(f:(zl t s).V=0):∀x∈t,x.1.toList≠s:=by intro x d e;rw[jju t s hn x d e]at f;have:=h x d;omega
def kyw(t:Tab)(n:Tok)(e:Ent):Tab:=if (zl t n.x.toList).V==0 then t++[(n.x,{e with N:=n.v})] else t
theorem qzk(h:ky3 t){n:Tok}{e:Ent}(f:1<=e.V):ky3 (kyw t n e):=by
 unfold kyw;split
 ·intro x d;obtain d|d:=rV.1 d
  ·exact h x d
  simp_all
 omega
theorem kw6(e:Ent)(w:World):(Instr.field 294 (qy7 e) 0).run prog w=.ok (i_ e.V) w:=au
theorem vwo(e:Ent)(w:World):(Instr.field 294 (qy7 e) 1).run prog w=.ok (i_ e.N) w:=au
structure MVar where
 f:Nat
 d:Nat
 a:List ByteArray
 g:Int
 B:Int
variable {vars:List MVar}
structure Mean where
 isVar:Bool
 xx:Nat
def vw4:Mean:=⟨false,0⟩
def qx3(e:Mean):Value:=.agg #[.bool e.isVar,i_ e.xx]
abbrev kq3:=List (ByteArray×Mean)
variable {g9 tab:kq3}
def kjw:kq3->List UInt8->Mean
 |[],_=>vw4
 |x::l,s=>if x.1.toList==s then x.2 else kjw l s
def kkd(w:World)(b:Nat)(t:kq3):Prop:=
 (∃es clock,w.heap[b]?=some (.map es clock)/\es.toList.map (λe=>(e.key,e.val))=t.map (λx=>(Value.string x.1,qx3 x.2)))/\(t.map (·.1.toList)).Nodup/\∀x∈t,x.1.size<=1000
theorem kkd.lt(h:kkd w lo g9):lo<w.heap.size:=by have⟨⟨es,c,h1,d⟩,e⟩:=h;grind
theorem kkd.stay{b:Nat}(h:kkd w b g9)(hb:w'.heap[b]?=w.heap[b]?):kkd w' b g9:=by have⟨⟨es,c,h1,d⟩,e⟩:=h;exact⟨⟨es,c,by simp_all,d⟩,e⟩
theorem pkk(w:World):(zeroValue 116).run prog w=.ok (qx3 vw4) w:=au
theorem qye(h:es.toList.map (λg6=>(g6.key,g6.val))=g9.map (λx=>(Value.string x.1,qx3 x.2)))(d:g6∈es.toList):∃x∈g9,g6.key=.string x.1/\g6.val=qx3 x.2:=by grind [List.mem_map_of_mem]
theorem pza(h:es.toList.map (λe=>(e.key,e.val))=g9.map (λh8=>(Value.string h8.1,qx3 h8.2))){h8:ByteArray×Mean}(d:h8∈g9):∃e∈es.toList,e.key=.string h8.1/\e.val=qx3 h8.2:=by grind [List.mem_map_of_mem]
theorem py7:∀(t:kq3)(s:List UInt8),(∀x∈t,x.1.toList≠s)->kjw t s=vw4:=by intro a;induction a<;>grind [kjw]
theorem vzr:∀(t:kq3)(s:List UInt8),(t.map (·.1.toList)).Nodup->∀x∈t,x.1.toList=s->kjw t s=x.2:=by intro a;induction a<;>grind [kjw]
theorem qkg(h:kkd w lo g9)(s:b8.size<=1000):(Instr.lookup 100 (.map (some lo)) (.string b8) false).run prog w=.ok (qx3 (kjw g9 b8.toList)) w:=by
 have⟨⟨es,c,h1,m⟩,p,t⟩:=h;have g:=keyS s;have f:∀e∈es.toList,∃l,keyOf prog 9 e.key=some l:=λe u=>by grind [qye,keyS]
 obtain⟨f1,f2⟩|⟨j,e0,f1,f2,f3⟩:=keyed.find w g es.toList f
 ·rw[py7 g9 b8.toList (λx i e=>by grind [pza,pjj])]
  simp[Instr.lookup,Q7 underlying100,MapKept.run_getObj_map h1,keyed.check w _ g,f1,pkk w,Result.andThen]
 ·have q:=wB f2;have⟨x,i,d,k⟩:=qye m q;rw[f3]at d;injection d with d;rw[vzr g9 b8.toList p x i (by rw[d]),<-k];simp[Instr.lookup,Q7 underlying100,MapKept.run_getObj_map h1,keyed.check w _ g,f1,Result.andThen]
theorem vz4{e:Mean}(h:kkd w lo g9)(i:b8.size<=1000)(m:∀x∈g9,x.1.toList≠b8.toList):∃w',(Instr.mapUpdate 100 (.map (some lo)) (.string b8) (qx3 e)).run prog w=.ok () w'/\kkd w' lo (g9++[(b8,e)])/\Kept lo w w':=by
 have⟨⟨es,c,h1,g⟩,q,s⟩:=h;have f:=keyS i;have d:∀e∈es.toList,∃l,keyOf prog 9 e.key=some l:=λe t=>by grind [qye,keyS]
 obtain⟨f1,f2⟩|⟨j,e0,f1,f2,f3⟩:=keyed.find w f es.toList d
 ·refine⟨ChangeMaps.setBlock w lo<|.map (es.push ⟨.string b8,qx3 e,c⟩) (c+1),by simp[Instr.mapUpdate,Q7 underlying100,MapKept.run_getObj_map h1,keyed.check w false f,f1,MapKept.run_setObj_map _ h1,Result.andThen,ChangeMaps.setBlock],⟨⟨_,_,ChangeMaps.heap_setBlock_same h1 _,?_⟩,?_,?_⟩,⟨rfl,rfl,rfl,lV,λk _ hn=>ChangeMaps.heap_setBlock_other h1 _ hn⟩⟩
  ·simp_all
  ·grind
  grind
 ·exfalso
  have⟨x,u,p,_⟩:=qye g<|wB f2;grind
theorem vzz(e:Mean)(w:World):(Instr.field 116 (qx3 e) 1).run prog w=.ok (i_ e.xx) w:=au
def qki(lo:Nat)(w:World):List MVar->List Value->Prop
 |[],cs=>cs=[]
 |v::vs,cs=>∃ta tc rest,cs=[i_ v.f,i_ v.d,.slice ta v.a.length tc,i_ v.g,i_ v.B]++rest/\w.ownsRow lo 9 1 (.slice ta v.a.length tc) v.a.length (v.a.map Value.string)/\qki lo w vs rest
theorem qki.stay(j:∀(k:Nat)(e:TypeId)(cs:Array Value)(fr:Nat×Nat),w.heap[k]?=some (Obj.cells cs e fr)->e=9->w'.heap[k]?=w.heap[k]?):∀{vs:List MVar}{cs:List Value},qki lo w vs cs->qki lo w' vs cs
 |[],_,h=>h
 |v::vs,cs,⟨ta,tc,rest,e,h1,h2⟩=>⟨ta,tc,rest,e,by
   refine⟨h1.1,?_⟩;obtain l|⟨g,cap,cur,d,f,e3,i⟩:=h1.2
   ·simp_all
   ·exact .inr ⟨g,cap,cur,d,f,by grind,i⟩,qki.stay j h2⟩
theorem pqc:∀{vs:List MVar}{cs:List Value}(i:Nat)(hi:i<vs.length),qki lo w vs cs ->
  ∃ta tc,(cs[i*5]?=some (i_ (vs[i]).f)/\cs[i*5+1]?=some (i_ (vs[i]).d)/\cs[i*5+2]?=some (.slice ta (vs[i]).a.length tc)/\cs[i*5+3]?=some (i_ (vs[i]).g)/\cs[i*5+4]?=some (i_ (vs[i]).B)) /\
   w.ownsRow lo 9 1 (.slice ta (vs[i]).a.length tc) (vs[i]).a.length ((vs[i]).a.map Value.string)
 |[],_,i,hi,_=>by grind
 |v::vs,cs,0,_,⟨ta,tc,rest,e,h1,h2⟩=>by grind
 |v::vs,cs,i+1,hi,⟨ta,tc,rest,e,h1,h2⟩=>by
  subst e;have⟨a,b,⟨f,g,h,j,k⟩,d⟩:=pqc i (by simp_all) h2;refine⟨a,b,⟨?_,?_,?_,?_,?_⟩,d⟩
  ·grind
  ·grind
  ·grind
  ·grind
  grind
structure Mc (lo:Nat)(w:World)(M nb:Nat)(vars:List MVar)(tab:kq3):Prop where
 mc:∃x0 x1 x2 va vc z cs,w.heap[M]?=some (.cells #[x0,x1,x2,.slice va vars.length vc,.map (some nb),z] 105 (0,0))/\w.ownsRow lo 213 5 (.slice va vars.length vc) vars.length cs/\qki lo w vars cs
 C:kkd w nb tab
structure Rn (lo:Nat)(w:World)(R M nb:Nat)(vars:List MVar)(tab:kq3)(l:List PP)(ms st:List Int)(sv:Value)(b:Bool):Prop where
 rn:∃tx pa pn pc ma mn mc,w.heap[R]?=some (.cells #[.string tx,pT M,.slice pa pn pc,.slice ma mn mc,sv,.bool b] 269 (0,0))/\w.ownsRow lo 352 4 (.slice pa pn pc) l.length (uq l)/\w.ownsRow lo 3 1 (.slice ma mn mc) ms.length (ms.map<|Value.int .i64)
 mc:Mc lo w M nb vars tab
 st:w.ownsRow lo 5 1 sv st.length (st.map<|Value.int .u8)
theorem Mc.below(h:Mc lo w M nb vars tab)(hb:oq w w'):Mc lo w' M nb vars tab:=by have⟨⟨x0,x1,x2,va,vc,z,cs,h1,f,g⟩,d⟩:=h;exact⟨⟨x0,x1,x2,va,vc,z,cs,(hb.block M<|wQ h1).trans h1,qj f hb,g.stay λk e cs fr i _=>hb.block k<|wQ i⟩,d.stay<|hb.block nb d.lt⟩
theorem Rn.below{l:List PP}(h:Rn lo w R M nb vars tab l ms i1 sv i2)(hb:oq w w'):Rn lo w' R M nb vars tab l ms i1 sv i2:=by have⟨⟨tx,pa,pn,pc,ma,mn,mc,h1,d,e⟩,f,g⟩:=h;exact⟨⟨tx,pa,pn,pc,ma,mn,mc,(hb.block R<|wQ h1).trans h1,qj d hb,qj e hb⟩,f.below hb,qj g hb⟩
def kvq(c:Bool):Int:=if c then 1 else 0
theorem zk6(c:Bool)(w:World):Calls prog 257 #[.bool c] w λe w'=>rT e (i_ (kvq c))/\w'=w:=by
 cases c
 ·go_wp2;go_ret;exact⟨rfl,rfl⟩
 ·go_wp2;go_ret;exact⟨rfl,rfl⟩
def kxa(o a b:Int):Int:=
 if o==6 then min a b else if o==7 then max a b else if o==11 then a+b else if o==12 then a-b
 else if o==10 then kvq (decide (a<b)) else if o==9 then kvq (!(a==b)) else kvq (a==b)
theorem pyp(o a b:Int)(m:-1000000000<=a)(k:a<=1000000000)(hb:-1000000000<=b)(l:b<=1000000000):Calls prog 232 #[i_ o,i_ a,i_ b] w λe w'=>rT e (i_ (kxa o a b))/\w'=w:=by
 cases f:(o==6)
 case true=>
  rw[show kxa o a b=min a b by simp[kxa,f]];go_wp2;all_goals
   go_ret;simp
 case false=>
 cases h7:(o==7)
 case true=>
  rw[show kxa o a b=max a b by simp[kxa,f,h7]];go_wp2;all_goals
   go_ret;simp
 case false=>
 cases d:(o==11)
 case true=>
  rw[show kxa o a b=a+b by simp[kxa,f,h7,d]];go_wp2;go_ret;simp
 case false=>
 cases g:(o==12)
 case true=>
  rw[show kxa o a b=a-b by simp[kxa,f,h7,d,g]];go_wp2;go_ret;simp
 case false=>
 cases i:(o==10)
 case true=>
  rw[show kxa o a b=kvq (decide (a<b)) by simp[kxa,f,h7,d,g,i]];have h:=zk6 (decide (a<b)) w;generalize kvq (decide (a<b))=y at *;go_in;go_wp21;refine zM h ?_;rintro j rfl;go_wp2;go_ret;simp
 case false=>
 cases h9:(o==9)
 case true=>
  rw[show kxa o a b=kvq (!(a==b)) by simp[kxa,f,h7,d,g,i,h9]];have h:=zk6 (!(a==b)) w;generalize kvq (!(a==b))=y at *;go_in;go_wp21;refine zM h ?_;rintro j rfl;go_wp2;go_ret;simp
 case false=>
  rw[show kxa o a b=kvq (a==b) by simp[kxa,f,h7,d,g,i,h9]];have h:=zk6 (a==b) w;generalize kvq (a==b)=y at *;go_in;go_wp21;refine zM h ?_;rintro j rfl;go_wp2;go_ret;simp
def kvo(v:MVar)(ta:Option Addr)(tc:Nat):Array Value:=#[i_ v.f,i_ v.d,.slice ta v.a.length tc,i_ v.g,i_ v.B]
theorem xw6{i3:TypeId}(h:Rw w lo #[x0,x1,x2,x3,x4] i3){i4 i5:Value}:Rw (puts lo [v,x,sv,i4,i5] 0 w) lo #[v,x,sv,i4,i5] i3:=zju h
def small(x:Int):Option Int:=if decide (-1000000000<=x)&&decide (x<=1000000000) then some x else none
theorem qqu{i6:Int}(h:small z=some i6):i6=z/\-1000000000<=z/\z<=1000000000:=by
 unfold small at h;split at h
 ·rename_i d;simp at d;injection h with h;exact⟨h.symm,d⟩
 ·cases h
theorem pzf(v:MVar)(ta:Option Addr)(tc:Nat)(w:World):(Instr.field 213 (.agg (kvo v ta tc)) 0).run prog w=.ok (i_ v.f) w:=au
def pjd(lo:Nat)(w:World)(v:MVar)(ta:Option Addr)(tc:Nat):Prop:=
 w.ownsRow lo 9 1 (.slice ta v.a.length tc) v.a.length (v.a.map Value.string)
theorem qxd(h:Rn lo w R M nb vars tab g4 ms i1 sv i2)(D:d7.x.size<=1000){i7:MVar}(s:vars[(kjw tab d7.x.toList).xx]?=some i7)(hv:vars.length<=1000):Calls prog 233 #[pT R,ptV d7] w λe w'=>∃ta tc,rT e (.agg<|kvo i7 ta tc)/\pjd lo w i7 ta tc/\oq w w':=by
 obtain⟨hi,rfl⟩:=rY.1 s;clear s;have⟨W,i⟩:=cpy<|(w.alloc<|.cells #[.string d7.x,i_ d7.v] 107).alloc (.cells #[i_ 0,i_ 0,nS,i_ 0,i_ 0] 213);have d:oq w W:=by rw[i];exact(jZ w).trans ((jZ _).mono ay)
 have N:w.heap.size+1<W.heap.size:=by rw[i];simp
 have t:W.heap[w.heap.size]?=some (.cells #[.string d7.x,i_ d7.v] 107 (0,0)):=by rw[i];exact zy<|qy
 have m:Hid (W.heap[w.heap.size+1]?=some (.cells #[i_ 0,i_ 0,nS,i_ 0,i_ 0] 213 (0,0))):=by rw[i];have:=qy (w:=w.alloc<|.cells #[.string d7.x,i_ d7.v] 107) (o:=.cells #[i_ 0,i_ 0,nS,i_ 0,i_ 0] 213);simp only[tV]at this;exact this
 have⟨⟨tx,pa,pn,pc,ma,mn,mc,hR,_,_⟩,⟨⟨x0,x1,x2,va,vc,z,cs,hM,H,I⟩,l⟩,_⟩:=h;have⟨ta,tc,k,v⟩:=pqc _ hi I;have⟨xa,cap,F,f⟩:=qp H;injection F with G _ ec;subst G;subst ec;obtain⟨g,rfl,K,C,B⟩:=f _ hi;have A:=wQ hR;have y:=wQ hM;have P:=qkg (l.stay<|d.block nb l.lt) D;have L:=qkg (show kkd W.drew nb tab from(l.stay<|d.block nb l.lt).stay rfl) D;have S:=kzh<|(d.block R A).trans hR;have Q:=kzh<|(d.block M y).trans hM;have n0:=kj6 t;have T:=jl m;have u:=show pjd lo w (vars[(kjw tab d7.x.toList).xx]) ta tc from v
 have cc:∀j,j<5->W.cell? (Ad g ((kjw tab d7.x.toList).xx*5+j))=cs[(kjw tab d7.x.toList).xx*5+j]?:=λj O=>(d.cell (p:=⟨g,_,none⟩) C).trans<|B _ aj
 have c0:=(cc 0 aj).trans k.1;have c1:=(cc 1 aj).trans k.2.1;have c2:=(cc 2 aj).trans k.2.2.1;have c3:=(cc 3 aj).trans k.2.2.2.1;have c4:=(cc 4 aj).trans k.2.2.2.2;rw[Qk]at c0;have J:=vzz<|kjw tab d7.x.toList;generalize kjw tab d7.x.toList=q at *;have x:=oz i.symm;generalize E:vars[q.xx]=vv at *;clear E cc k B f hM hR t i;unfold ptV;go_in
 go_wp21;rw[ku x];go_region
 go_wp2;exact kx0 results233 underlying213 (xw6 m) ⟨ta,tc,rfl,u,(((((d.drew.setCell (by omega:w.heap.size<=w.heap.size+1) _).setCell (by omega:w.heap.size<=w.heap.size+1) _).setCell (by omega:w.heap.size<=w.heap.size+1) _).setCell (by omega:w.heap.size<=w.heap.size+1) _).setCell (by omega:w.heap.size<=w.heap.size+1) _)⟩
theorem kj5.nodup(h:kj5 w lo t):(t.map (·.1.toList)).Nodup:=h.2.1
theorem kj5.other(h:kj5 w lo t){i8:Addr}(f:lo≠i8.block)(u:Value):kj5 (w.setCell i8 u) lo t:=by have⟨⟨es,c,h1,d⟩,e⟩:=h;exact⟨⟨es,c,by rw[jN f];exact h1,d⟩,e⟩
theorem vxz(n:Tok)(e:Ent)(h:kj5 w lo t)(y:ky3 t)(p:n.x.size<=1000):Calls prog 156 #[.map (some lo),ptV n,qy7 e] w λr w'=>rT r (.tuple #[])/\kj5 w' lo (kyw t n e)/\Kept lo w w':=by
 have⟨W,j⟩:=cpy<|(w.alloc<|.cells #[.string n.x,i_ n.v] 107).alloc (.cells (qkr e).toArray 294);have g:oq w W:=pY;have u:=h.kept g;have l:=h.kept<|(jZ w (o:=.cells #[.string n.x,i_ n.v] 107)).trans ((jZ _ (o:=.cells (qkr {e with N:=n.v}).toArray 294)).mono ay);have x:=kvb u p;have C:=kw6<|zl t n.x.toList;have⟨E,v⟩:=jS (show kyw t n e=if (zl t n.x.toList).V==0 then t++[(n.x,{e with N:=n.v})] else t from rfl) (px1 y h.nodup (s:=n.x.toList));generalize k:zl t n.x.toList=q at *;have A:Kept lo w W:=.of_below g;rw[j]at x;clear k;unfold ptV qy7 qkr kjs at *;simp only[QU,Qd]at *;cases d:(q.V==0)
 ·rw[d]at E;simp only[ru,Xv]at E;go_wp2;go_end0;grind [ku]
 ·rw[d]at E;simp only[Xw]at E;rw[su]at d;have i:=(ku v) d;have D:(q.V==0)=true:=by simp_all
  clear d;have⟨w',f,B,m⟩:=xje (e:={e with N:=n.v}) l p i;unfold qy7 qkr kjs at f;simp only[QU,Qd]at f;have z:=(((Kept.refl lo w).alloc _).alloc _).trans m;clear i j;go_wp2;go_end0;grind [ku]
end Go.Proofs.YtpmcnonmkghokaaGreatDoor

import Derived.Test.YtpmcnonmkghokaaGreatDoorT02
import Derived.Test.YtpmcnonmkghokaaGreatDoorT01
import Derived.CellFam
import Derived.Test.YtpmcnonmkghokaaGreatDoorT00
import Derived.Maps.Own
import Derived.BigRegion
set_option maxRecDepth 100000
set_option maxHeartbeats 8000000
set_option linter.unusedVariables false
set_option linter.unusedSimpArgs false
namespace Go.Proofs.YtpmcnonmkghokaaGreatDoor
open Go.Proofs.Tryz Go.RowKit
attribute [local go_sem ↓] Go.wp_at_zero Go.wp_at_succ
attribute [local simp] kzy zjw kjs
variable {es:Array MapEntry}{i8:Bool}{b8:ByteArray}{a z:Int}{α:Type}{f:Int->Nat->α->Int}{i7 ms:List Int}{i1:List PP}{b5:List PRule}{L pre:List Tok}{b7 lit:List UInt8}{xs:List Value}{items l:List α}{fin:List α×RS}{i2:MapEntry}{m:MdL}{B M P R c g k lo n nb size:Nat}{no:Option Nat}{a9:PB}{r:PR}{b6:PTree}{s st:RS}{d7:Tok}{g9:TypeId}{sv v x x0 x1 x2 x3 x4:Value}{W u w w' wr:World}{e:α}
def qj9:PX->ByteArray
 |.nil=>kjx
 |.node _ _ x _ _=>x.y.x
def qkh(v:Int)(a b:ByteArray):Bool:=!(decide (v<0)||a.toList.isEmpty||(!(a.toList==b.toList)&&(!(b.toList==mG)||!kx3 a)))
def kzi(t:PTree)(l:List PP):PB->Bool
 |.nil=>true
 |.node _ _ a .nil n=>qkh (zx (zf t) (qj9 a.N).toList) (kq5 t l a.N) (kq5 t l a.value)&&kzi t l n
 |.node _ _ a (.node _ _ _ b e) n=>((kq5 t l a.A).toList==nY)&&kzi t l b&&kzi t l e&&kzi t l n
def kvt:PB->Nat
 |.nil=>0
 |.node _ _ _ _ n=>kvt n+1
theorem jg.T:∀{b:PB}{ps:List Value},jg lo no w b ps->ps.length=kvt b
 |.nil,ps,h=>by
  have:ps=[]:=h;subst this;rfl
 |.node _ _ a .nil n,ps,⟨k,vp,vv,vi,qs,e,hl,hh,ha,hn⟩=>by rw[e,Qb,hn.T];rfl
 |.node _ _ a (.node _ _ _ t e) n,ps,⟨k,vp,vv,vi,vt,ve,qt,qe,qs,e1,hl,hh,ha,ht,he,hn⟩=>by rw[e1,Qb,hn.T];rfl
def SOk:PB->Prop
 |.nil=>True
 |.node _ _ a .nil n=>isNil a.A=true/\isNil a.N=false/\XOk a.N/\isNil a.value=false/\XOk a.value/\SOk n
 |.node _ _ a (.node _ _ _ t e) n=>isNil a.A=false/\XOk a.A/\(SOk t/\kvt t<=1000)/\(SOk e/\kvt e<=1000)/\SOk n
def WellSaid(b:PB):Prop:=∀(w:World)(T lo lo':Nat)(t:PTree)(n:Tok)(l:List PP)(va:Option Addr)(vn vc:Nat)(vg:Option Addr)(ba:Option Addr)(bn bc:Nat)(v:Value)(ps:List Value),SOk b->kqc w T t->TreeOk t->TreeFit t->(∀p∈l,p.Q.x.size<=800) ->
 w.ownsRow lo 236 6 (.slice va vn vc) l.length (kjm l)->l.length<=801->w.ownsRow lo' 245 1 v ps.length ps->jg lo' none w b ps->ps.length<=1000 ->
 Calls prog 68 #[.pointer (some ⟨T,0,none⟩),qk4 n (.slice va vn vc) (.pointer vg)<|.slice ba bn bc,v] w λe w'=>e=.returned (.bool<|kzi t l b)/\oq w w'
def Inner:PB->Prop
 |.nil=>True
 |.node _ _ _ .nil n=>Inner n
 |.node _ _ _ (.node _ _ _ t e) n=>WellSaid t/\WellSaid e/\Inner n
theorem jg.below(h:jg lo no w a9 xs)(hb:oq w w'):jg lo no w' a9 xs:=h.stay λk _ a=>hb.block k a
def zyk(a:World)(t:PTree)(l:List PP)(b:PB)(lo:Nat)(ps:List Value)(i:Value)(wr:World):Prop:=
 ∃(k:Nat)(rest:PB),k<=ps.length/\i=.int .i64 k/\jg lo none wr rest (ps.drop k)/\SOk rest/\Inner rest/\kzi t l rest=kzi t l b/\oq a wr
theorem zxe(hI:Inner a9):WellSaid a9:=by
 intro w T lo lo' t n l va vn vc vg ba bn bc v ps hS h ht W I hp hl hv B bY;obtain⟨a,cap,rfl,(HV:Hid _)⟩:=kq8 hv;have aC:=oz<|Xk w (.cells #[.string n.t,.string n.x,.int .i64 n.v,.slice va vn vc,.pointer vg,.slice ba bn bc] 147);have J:=jZ w (o:=.cells #[.string n.t,.string n.x,.int .i64 n.v,.slice va vn vc,.pointer vg,.slice ba bn bc] 147);have aK:=show zyk (w.alloc<|.cells #[.string n.t,.string n.x,.int .i64 n.v,.slice va vn vc,.pointer vg,.slice ba bn bc] 147) t l a9 lo' ps (.int .i64 0) (w.alloc<|.cells #[.string n.t,.string n.x,.int .i64 n.v,.slice va vn vc,.pointer vg,.slice ba bn bc] 147) from
  ⟨0,a9,jR,rfl,by rw[List.drop_zero];exact B.below J,hS,hI,rfl,bR⟩
 have HT:=h.below J;have HP:=qj hp J;have aD:=wQ aC;have bB:=oz (show ∀k,k<ps.length->∀g,a=some ⟨g,0,none⟩->g<w.heap.size from λk hk g hg=>by have ⟨g',e1,V⟩:=HV k hk;rw[hg]at e1;cases e1;have:=V k aj;rw[wW hk]at this;exact block_lt_of_cell this)
 unfold qk4;go_in;go_wp2;generalize bK:w.alloc (.cells #[.string n.t,.string n.x,.int .i64 n.v,.slice va vn vc,.pointer vg,.slice ba bn bc] 147)=W0 at aK HT HP aC J aD |-;clear bK;go_loopw [7] (λi wr=>zyk W0 t l a9 lo' ps i wr) (λi _=>ps.length-(intOf i).toNat)
 exact aK;obtain⟨k,rest,hk,rfl,B,c,s,(N:Hid _),G⟩:=hrel;have hX:=(G.block w.heap.size aD).trans aC;have ⟨m0,m1,m2,m3,m4,m5,_⟩:=kzh hX;have H:=J.trans<|G.mono J.size;have K:=HT.below G;have O:=qj HP G;clear hX;match rest,B,c,s,N with
 |.nil,B,c,s,N=>
  have u:ps.drop k=[]:=B;have bW:ps.length<=k:=by simpa using u
  have bX:¬k<ps.length:=aj;clear u;go_wp2;go_ret;exact⟨um (by rw[<-ku N];rfl),H⟩
 |.node _ _ la .nil nx,B,c,s,N=>
  obtain⟨kd,vp,vv,vi,qs,u,_,x,q,a8⟩:=B;have Y:k<ps.length:=by
   obtain h|h:=JY k ps.length
   ·exact h
   ·rw[Qa h]at u;cases u
  have R:ps[k]?=some (.pointer<|some ⟨kd,0,none⟩):=by have:=congrArg (λl=>l[0]?) u;simpa using this
  have S:ps.drop (k+1)=qs:=by have:=congrArg List.tail u;simpa using this
  obtain⟨g,rfl,V⟩:=ku HV k Y;have aF:wr.cell? ⟨g,k,none⟩=some (.pointer<|some ⟨kd,0,none⟩):=by have h9:w.cell? ⟨g,k,none⟩=some (.pointer<|some ⟨kd,0,none⟩):=(V k aj).trans R;exact wU H h9
  have ⟨d0,d1,d2,d3,d4,_⟩:=kzk x;have aG:vi=.pointer none:=by
   have h1:=q.2.2;cases Q:la.A with
   |nil=>rw[Q]at h1;exact h1
   |node _ _ _ _ _=>have:=c.1;rw[Q]at this;cases this
  subst aG;go_wp2;clear V u R;match hla:la.N,q.1,c.2.1,c.2.2.1 with
  |.nil,_,h0,_=>cases h0
  |.node pi pj px pa' pb',hNP,_,hXP=>
  have b7:=hNP;obtain⟨kp,bS,bT,bP,_,aQ,_,_⟩:=hNP;subst bP;have ⟨n0,n1,n2,n3,n4,_⟩:=zzh (aQ:wr.heap[kp]?=some (.cells #[.string px.op,bS,bT,.string px.y.t,.string px.y.x,.int .i64 px.y.v,.string px.c.t,.string px.c.x,.int .i64 px.c.v,.int .i64 px.n] _ (0,0)));have b8:=q.2.1;have bM:=c.2.2.2.1;have bF:=c.2.2.2.2.1;have aB:=c.2.2.2.2.2;obtain⟨a7,bD⟩:=ju s hXP;have aP:=ku N;rw[kzi,hla]at aP;clear aQ x aP n0 n1 n2 n3;go_region_held3 (λw'=>w'.cell? ⟨w.heap.size,0,none⟩=some (.string n.t)/\w'.cell? ⟨w.heap.size,1,none⟩=some (.string n.x)/\w'.cell? ⟨w.heap.size,2,none⟩=some (.int .i64 n.v)/\w'.cell? ⟨w.heap.size,3,none⟩=some (.slice va vn vc)/\w'.cell? ⟨w.heap.size,4,none⟩=some (.pointer vg)/\w'.cell? ⟨w.heap.size,5,none⟩=some (.slice ba bn bc)/\w'.cell? ⟨kd,0,none⟩=some (.pointer<|some ⟨kp,0,none⟩))
   (first|go_keep|(go_split_ands;refine⟨?_,?_,?_,?_,?_,?_,?_⟩<;>(refine wU L ?_;first|assumption|simp[*])))
   ((go_at_call 67;refine(qjx (.node pi pj px pa' pb') _ T lo lo' t n l va vn vc vg ba bn bc _ rfl bD (K.below<|bR.drew) ht W I (qj O<|bR.drew) hl<|b7.below (bR.drew)).mono ?_;rintro e X ⟨rfl,L⟩))
  have b:oq wr X:=bR.drew.trans L;have bG:=wU b d1;have aN:=wU b d0;have aS:=wU b n4;have Z:=wU b m0;have a0:=wU b m1;have a1:=wU b m2;have a2:=wU b m3;have a3:=wU b m4;have a4:=wU b m5;have aH:=b.size;have bI:=qzr W I<|.node pi pj px pa' pb';clear d0 d1 d2 d3 d4 n4 m0 m1 m2 m3 m4 m5 aF;go_wp2
  go_region_held3 (λw'=>w'.cell? ⟨w.heap.size,0,none⟩=some (.string n.t)/\w'.cell? ⟨w.heap.size,1,none⟩=some (.string n.x)/\w'.cell? ⟨w.heap.size,2,none⟩=some (.int .i64 n.v)/\w'.cell? ⟨w.heap.size,3,none⟩=some (.slice va vn vc)/\w'.cell? ⟨w.heap.size,4,none⟩=some (.pointer vg)/\w'.cell? ⟨w.heap.size,5,none⟩=some (.slice ba bn bc)/\w'.cell? ⟨kd,1,none⟩=some vv)
   (first|go_keep|(go_split_ands;refine⟨?_,?_,?_,?_,?_,?_,?_⟩<;>(refine wU M ?_;first|assumption|simp[*])))
   ((go_at_call 67;refine(qjx la.value _ T lo lo' t n l va vn vc vg ba bn bc _ bM bF ((K.below b).below<|bR.drew) ht W I (qj (qj O b)<|bR.drew) hl<|(b8.below b).below (bR.drew)).mono ?_;rintro e w2 ⟨rfl,M⟩))
  have d:oq X w2:=bR.drew.trans M;have aT:=wU d aN;have b3:=wU d aS;have m:=b.trans<|d.mono aH;have bJ:=qzr W I la.value;clear aN bG aS Z a0 a1 a2 a3 a4;go_wp21
  refine(qjt px.y.x (K.below m) ht.z).mono ?_;rintro e w3 ⟨rfl,rfl⟩;go_wp21;refine(qjg (kq5 t l<|.node pi pj px pa' pb') aj).mono ?_;rintro e w4 ⟨rfl,rfl⟩;have p:Hid (kzi t l (.node 0 0 la .nil nx)=(qkh (zx (zf t) px.y.x.toList) (kq5 t l<|.node pi pj px pa' pb') (kq5 t l la.value)&&kzi t l nx)):=by rw[kzi,hla];rfl
  generalize kq5 t l (.node pi pj px pa' pb')=A at bI p |-;generalize kq5 t l la.value=Bv at bJ p |-;generalize zx (zf t) px.y.x.toList=z at p |-;have P:Hid (kzi t l a9=(qkh z A Bv&&kzi t l nx)):=N.symm.trans p;have F:=H.trans<|m.mono H.size;have a6:=G.trans<|m.mono G.size;have U:=a8.below m;have aA:=oz S;clear S aT b3;have out:qkh z A Bv=false->Hid (kzi t l a9=false):=λx=>by rw[ku P,x];rfl
  have D:qkh z A Bv=true->Hid (zyk W0 t l a9 lo' ps (.int .i64<|(k:Int)+1) w4):=λx=>
   ⟨k+1,nx,aj,eu,by rw[ku aA];exact U,aB,a7,by rw[ku P,x];rfl,a6⟩
  by_cases c1:z<0
  ·have j:=out (by simp[qkh,c1]);clear out D;go_wp2;go_ret;exact⟨um j.symm,F⟩
  ·cases c2:A.toList.isEmpty
   ·cases c3:(A.toList==Bv.toList)
    ·cases c4:(Bv.toList==mG)
     ·have j:=out (by simp only[qkh,c2,c3,c4];simp);clear out D;go_wp2;go_ret;exact⟨um j.symm,F⟩
     ·cases c5:kx3 A
      ·have j:=out (by simp only[qkh,c2,c3,c4,c5];simp);clear out D;go_wp2;go_ret;exact⟨um j.symm,F⟩
      ·have j:=D (by simp only[qkh,c2,c3,c4,c5];simp;omega);clear out D;go_wp2;exact rdM j
    ·have j:=D (by simp only[qkh,c2,c3];simp;omega);generalize kx3 A=y;clear out D;go_wp2;exact rdM j
   ·have j:=out (by simp only[qkh,c2];simp);clear out D;go_wp2;go_ret;exact⟨um j.symm,F⟩
 |.node _ _ la (.node _ _ _ bt be) nx,B,c,s,N=>
  obtain⟨kd,vp,vv,vi,vt,ve,qt,qe,qs,u,_,x,q,⟨aL,_,aM⟩,⟨aI,_,aJ⟩,aR⟩:=B;have Y:k<ps.length:=by
   obtain h|h:=JY k ps.length
   ·exact h
   ·rw[Qa h]at u;cases u
  have R:ps[k]?=some (.pointer<|some ⟨kd,0,none⟩):=by have:=congrArg (λl=>l[0]?) u;simpa using this
  have S:ps.drop (k+1)=qs:=by have:=congrArg List.tail u;simpa using this
  obtain⟨g,rfl,V⟩:=ku HV k Y;have bU:=ku bB k Y g rfl;have aF:wr.cell? ⟨g,k,none⟩=some (.pointer<|some ⟨kd,0,none⟩):=by have h9:w.cell? ⟨g,k,none⟩=some (.pointer<|some ⟨kd,0,none⟩):=(V k aj).trans R;exact wU H h9
  have ⟨d0,d1,d2,d3,d4,_⟩:=kzk x;have bV:=wQ x;have aG:∃ki,vi=.pointer (some ⟨ki,0,none⟩):=by
   have h1:=q.2.2;cases Q:la.A with
   |nil=>have:=c.1;rw[Q]at this;cases this
   |node _ _ _ _ _=>rw[Q]at h1;obtain⟨ki,_,_,e,_⟩:=h1;exact⟨ki,e⟩
  obtain⟨ki,rfl⟩:=aG;obtain⟨b6,bC⟩:=ju q.2.2 c.2.1;have bL:=c.1;obtain⟨bA,b9,aB,b5,b4,a7,a8⟩:=jt c.2.2.1.1 c.2.2.2.1.1 c.2.2.2.2 s.1 s.2.1 s.2.2 aR;obtain⟨ta,tl,tc,rfl⟩:=qh aL;obtain⟨ea,el,ec,rfl⟩:=qh aI;have bO:qt.length<=1000:=by rw[aM.T];exact c.2.2.1.2
  have bN:qe.length<=1000:=by rw[aJ.T];exact c.2.2.2.1.2
  clear V u R q c s aR x;go_wp2;go_region_held3 (λw'=>w'.cell? ⟨w.heap.size,0,none⟩=some (.string n.t)/\w'.cell? ⟨w.heap.size,1,none⟩=some (.string n.x)/\w'.cell? ⟨w.heap.size,2,none⟩=some (.int .i64 n.v)/\w'.cell? ⟨w.heap.size,3,none⟩=some (.slice va vn vc)/\w'.cell? ⟨w.heap.size,4,none⟩=some (.pointer vg)/\w'.cell? ⟨w.heap.size,5,none⟩=some (.slice ba bn bc)/\w'.cell? ⟨kd,2,none⟩=some (.pointer<|some ⟨ki,0,none⟩))
   (first|go_keep|(go_split_ands;refine⟨?_,?_,?_,?_,?_,?_,?_⟩<;>(refine wU L ?_;first|assumption|simp[*])))
   ((go_at_call 67;refine(qjx la.A _ T lo lo' t n l va vn vc vg ba bn bc _ bL bC (K.below<|bR.drew) ht W I (qj O<|bR.drew) hl<|b6.below (bR.drew)).mono ?_;rintro e X ⟨rfl,L⟩))
  have f:oq wr X:=bR.drew.trans L;have bH:=wU f d3;have aO:=wU f d4;have Z:=wU f m0;have a0:=wU f m1;have a1:=wU f m2;have a2:=wU f m3;have a3:=wU f m4;have a4:=wU f m5;have aH:=f.size;have b:=oz f;clear L f d0 d1 d2 d3 d4 m0 m1 m2 m3 m4 m5 aF;go_wp2;go_region_held3 (λw'=>w'.cell? ⟨w.heap.size,0,none⟩=some (.string n.t)/\w'.cell? ⟨w.heap.size,1,none⟩=some (.string n.x)/\w'.cell? ⟨w.heap.size,2,none⟩=some (.int .i64 n.v)/\w'.cell? ⟨w.heap.size,3,none⟩=some (.slice va vn vc)/\w'.cell? ⟨w.heap.size,4,none⟩=some (.pointer vg)/\w'.cell? ⟨w.heap.size,5,none⟩=some (.slice ba bn bc)/\w'.cell? ⟨kd,3,none⟩=some (.slice ta tl tc))
   (first|go_keep|(go_split_ands;refine⟨?_,?_,?_,?_,?_,?_,?_⟩<;>(refine wU M ?_;first|assumption|simp[*])))
   ((go_at_call 68;refine(b5 _ T lo lo' t n l va vn vc vg ba bn bc _ qt bA ((K.below b).below<|bR.drew) ht W I (qj (qj O b)<|bR.drew) hl (qj (qj aL b)<|bR.drew) ((aM.below b).below<|bR.drew) bO).mono ?_;rintro e w2 ⟨rfl,M⟩))
  have d:oq X w2:=bR.drew.trans M;have aU:=wU d aO;have aV:=wU d Z;have aW:=wU d a0;have aX:=wU d a1;have aY:=wU d a2;have aZ:=wU d a3;have b2:=wU d a4;have E:=b.trans<|d.mono aH;have bQ:=E.size;have m:=oz E;clear M d E bH aO Z a0 a1 a2 a3 a4;go_wp2
  go_region_held3 (λw'=>w'.cell? ⟨w.heap.size,0,none⟩=some (.string n.t)/\w'.cell? ⟨w.heap.size,1,none⟩=some (.string n.x)/\w'.cell? ⟨w.heap.size,2,none⟩=some (.int .i64 n.v)/\w'.cell? ⟨w.heap.size,3,none⟩=some (.slice va vn vc)/\w'.cell? ⟨w.heap.size,4,none⟩=some (.pointer vg)/\w'.cell? ⟨w.heap.size,5,none⟩=some (.slice ba bn bc)/\w'.cell? ⟨kd,4,none⟩=some (.slice ea el ec))
   (first|go_keep|(go_split_ands;refine⟨?_,?_,?_,?_,?_,?_,?_⟩<;>(refine wU aE ?_;first|assumption|simp[*])))
   ((go_at_call 68;refine(b4 _ T lo lo' t n l va vn vc vg ba bn bc _ qe b9 ((K.below m).below<|bR.drew) ht W I (qj (qj O m)<|bR.drew) hl (qj (qj aI m)<|bR.drew) ((aJ.below m).below<|bR.drew) bN).mono ?_;rintro e w3 ⟨rfl,aE⟩))
  have E:oq w2 w3:=bR.drew.trans aE;have a5:=oz<|m.trans (E.mono bQ);clear aE E aU aV aW aX aY aZ b2;have p:Hid (kzi t l (.node 0 0 la (.node 0 0 noS bt be) nx)=(((kq5 t l la.A).toList==nY)&&kzi t l bt&&kzi t l be&&kzi t l nx)):=rfl;generalize kq5 t l la.A=C at p |-;generalize kzi t l bt=y1 at p |-;generalize kzi t l be=y2 at p |-;obtain⟨P,F,a6,U,aA⟩:=ja (N.symm.trans p:kzi t l a9=((C.toList==nY)&&y1&&y2&&kzi t l nx)) (H.trans (a5.mono H.size)) (G.trans (a5.mono G.size)) (a8.below a5) S;clear p N S;have out:((C.toList==nY)&&y1&&y2)=false->Hid (kzi t l a9=false):=λx=>by rw[ku P,x];rfl
  have D:((C.toList==nY)&&y1&&y2)=true->Hid (zyk W0 t l a9 lo' ps (.int .i64<|(k:Int)+1) w3):=λx=>
   ⟨k+1,nx,aj,eu,by rw[ku aA];exact U,aB,a7,by rw[ku P,x];rfl,a6⟩
  cases c1:(C.toList==nY)
  ·have j:=out (by rw[c1];rfl);clear out D;go_wp2;go_ret;exact⟨um j.symm,F⟩
  ·cases y1
   ·have j:=out ay;clear out D;go_wp2;go_ret;exact⟨um j.symm,F⟩
   ·cases y2
    ·have j:=out ay;clear out D;go_wp2;go_ret;exact⟨um j.symm,F⟩
    ·have j:=D (by rw[c1];rfl);clear out D;go_wp2;exact rdM j
theorem qkd:∀b:PB,Inner b
 |.nil=>trivial
 |.node _ _ _ .nil n=>qkd n
 |.node _ _ _ (.node _ _ _ t e) n=>⟨zxe<|qkd t,zxe<|qkd e,qkd n⟩
theorem pkw(b:PB):WellSaid b:=zxe<|qkd b
def kwa(a:SLab):List Tok:=(yu a.N++yu a.value)++yu a.A
def uo:PB->List Tok
 |.nil=>[]
 |.node _ _ a .nil n=>kwa a++uo n
 |.node _ _ a (.node _ _ _ t e) n=>((kwa a++uo t)++uo e)++uo n
def qvc(b:PB):Prop:=∀(w:World)(lo:Nat)(v:Value)(ps:List Value),(uo b).length<=90000->w.ownsRow lo 245 1 v ps.length ps->jg lo none w b ps->ps.length<=1000 ->
 Calls prog 116 #[v] w λe w'=>∃u,e=.returned u/\w'.ownsRow w.heap.size 142 3 u (uo b).length (uw<|uo b)/\oq w w'
def pkq:PB->Prop
 |.nil=>True
 |.node _ _ _ .nil n=>pkq n
 |.node _ _ _ (.node _ _ _ t e) n=>kvt t<=1000/\kvt e<=1000/\pkq n
def qqk:PB->Prop
 |.nil=>True
 |.node _ _ _ .nil n=>qqk n
 |.node _ _ _ (.node _ _ _ t e) n=>qqk t/\qqk e/\kvt t<=1000/\kvt e<=1000/\qqk n
theorem zzu:∀{b:PB},qqk b->pkq b
 |.nil,_=>trivial
 |.node _ _ _ .nil n,h=>zzu (b:=n) h
 |.node _ _ _ (.node _ _ _ t e) n,h=>⟨h.2.2.1,h.2.2.2.1,zzu h.2.2.2.2⟩
def zvv:PB->Prop
 |.nil=>True
 |.node _ _ _ .nil n=>zvv n
 |.node _ _ _ (.node _ _ _ t e) n=>qvc t/\qvc e/\zvv n
def Ins(u:World)(v:Value)(l:List Tok):Prop:=Calls prog 116 #[v] u λe w'=>∃t,e=.returned t/\Tks w' u.heap.size t l/\oq u w'
def xj5(w:World)(b:PB)(lo:Nat)(ps:List Value)(l i:Value)(wr:World):Prop:=
 ∃(k:Nat)(rest:PB)(acc:List Tok),k<=ps.length/\i=.int .i64 k/\jg lo none w rest (ps.drop k)/\pkq rest/\zvv rest/\acc++uo rest=uo b/\Tks wr w.heap.size l acc/\oq w wr
theorem jjs(w:World):Ins w (.slice none 0 0) []:=by
 go_enter func116,ntmps116
 go_wp21;refine wp_loop_rounds 1 ?_;rw[rounds_succ];go_wp2;go_ret;exact⟨_,rfl,oN,bR⟩
theorem qy2(h:zvv a9)(a0:pkq a9):qvc a9:=by
 intro w lo v ps a4 hv p a8;obtain⟨a,cap,rfl,(HV:Hid _)⟩:=kq8 hv;have Z:=show xj5 w a9 lo ps (.slice none 0 0) (.int .i64 0) w from⟨0,a9,[],jR,rfl,p,a0,h,rfl,oN,bR⟩
 go_in;go_wp21;go_loopw [3,4] (λl i wr=>xj5 w a9 lo ps l i wr) (λ_ i _=>ps.length-(intOf i).toNat);exact Z;obtain⟨k,rest,acc,hk,rfl,p,A,h,hA,f,j⟩:=hrel;obtain⟨_,_,_,rfl⟩:=qh f;cases rest with
 |nil=>
  have a6:ps.length<=k:=by simpa using(show ps.drop k=[] from p)
  have a7:¬k<ps.length:=aj;have HO:=show Tks wr w.heap.size _ (uo a9) from by rw[<-hA];simpa[uo] using f
  clear hA;go_wp2;go_ret;exact⟨_,rfl,HO,j⟩
 |node _ _ la c nx=>
  obtain⟨kd,vp,vv,vi,vt,B,s,lt,le,x,y,b,HT,HE,m,A,h,hA⟩:∃kd vp vv vi vt B s lt le,ps.drop k=.pointer (some ⟨kd,0,none⟩)::s/\w.heap[kd]?=some (.cells #[vp,vv,vi,vt,B] 247 (0,0))/\qva lo w la vp vv vi /\
    Hid (∀u,oq w u->lt.length<=90000->Ins u vt lt)/\Hid (∀u,oq w u->le.length<=90000->Ins u B le)/\Hid (jg lo none w nx s)/\Hid (pkq nx)/\Hid (zvv nx)/\(acc++(yu la.N++(yu la.value++(yu la.A++(lt++le)))))++uo nx=uo a9:=by
   cases c with
   |nil=>
    obtain⟨kd,vp,vv,vi,s,x,_,y,b,m⟩:=p;exact⟨kd,vp,vv,vi,_,_,s,[],[],x,y,b,λu _ _=>jjs u,λu _ _=>jjs u,m,A,h,by rw[<-hA];simp[uo,kwa]⟩
   |node _ _ _ t e=>
    obtain⟨kd,vp,vv,vi,vt,B,qt,qe,s,x,_,y,b,⟨h1,_,h2⟩,⟨h3,_,h4⟩,m⟩:=p;exact⟨kd,vp,vv,vi,vt,B,s,uo t,uo e,x,y,b,λu q b=>h.1 u lo vt qt b (qj h1 q) (h2.below q) (by rw[h2.T];exact A.1),λu q b=>h.2.1 u lo B qe b (qj h3 q) (h4.below q) (by rw[h4.T];exact A.2.1),m,A.2.2,h.2.2,by rw[<-hA];simp[uo,kwa]⟩
  have I:k<ps.length:=by grind
  obtain⟨g,rfl,hc⟩:=ku HV k I;have D:=oz λ(u:World)(q:oq w u)=>(⟨wU q ((hc k aj).trans (by have:=congrArg (λl=>l[0]?) x;grind)),kzk<|(q.block kd<|wQ y).trans y⟩:u.cell? ⟨g,k,none⟩=some (.pointer<|some ⟨kd,0,none⟩)/\_)
  have HX:=show jg lo none w nx (ps.drop<|k+1) from by rw[show ps.drop (k+1)=s from by have:=congrArg List.tail x;simpa using this];exact m
  have a5:acc.length+((yu la.N).length+((yu la.value).length+((yu la.A).length+(lt.length+le.length))))<=90000:=by grind
  have Y:=oz hA;have hz:=j.size;have d:=(ku D) wr j;clear hc x y hA;go_wp21;refine(qjw la.N _ lo _ aj<|b.1.below j).mono ?_;rintro e u1 ⟨t1,rfl,J,E⟩;have O:=E.size;have B1:=j.trans<|E.mono hz;have d1:=(ku D) u1 B1;obtain⟨_,_,_,rfl⟩:=qh J;go_wp21
  refine(qjw la.value _ lo _ aj<|b.2.1.below B1).mono ?_;rintro e u2 ⟨t2,rfl,K,F⟩;have a1:=F.size;have P:=B1.trans<|F.mono aj;have d2:=(ku D) u2 P;obtain⟨_,_,_,rfl⟩:=qh K;go_wp21
  refine(qjw la.A _ lo _ aj<|b.2.2.below P).mono ?_;rintro e u3 ⟨t3,rfl,L,G⟩;have a2:=G.size;have Q:=P.trans<|G.mono aj;have d3:=(ku D) u3 Q;obtain⟨_,_,_,rfl⟩:=qh L;go_wp21
  refine(HT u3 Q aj).mono ?_;rintro e u4 ⟨t4,rfl,M,H⟩;have a3:=H.size;have R:=Q.trans<|H.mono aj;have d4:=(ku D) u4 R;obtain⟨_,_,_,rfl⟩:=qh M;go_wp21
  refine(HE u4 R aj).mono ?_;rintro e u5 ⟨t5,rfl,N,z⟩;have aA:=z.size;have B5:=R.trans<|z.mono aj;obtain⟨_,_,_,rfl⟩:=qh N;have b4:=H.trans<|z.mono a3;have b3:=G.trans<|b4.mono a2;have b2:=F.trans<|b3.mono a1;have T1:=qj J b2;have T2:=qo O<|qj K b3;have T3:=qo (by omega:wr.heap.size<=_)<|qj L b4;have T4:=qo (by omega:wr.heap.size<=_)<|qj M z;have T5:=qo (by omega:wr.heap.size<=_) N;have C:=show Acc w u5 wr.heap.size w.heap.size u5 _ acc from⟨qj f<|E.trans (b2.mono O),B5,λk hk=>.inl<|kq9 f k hk,jH,λ_ _ _=>rfl⟩
  clear d d1 d2 d3 d4;go_wp2_with (at_builtin;refine C.app T1 ?_)
  intro v1 x1 S;obtain⟨_,_,_,rfl⟩:=qh S.xu;have W:=S.sz;go_wp2_with (at_builtin;refine S.app T2 ?_ (hn:=kZ))
  intro v2 x2 T;obtain⟨_,_,_,rfl⟩:=qh T.xu;have W:=T.sz;go_wp2_with (at_builtin;refine T.app T3 ?_ (hn:=kZ))
  intro v3 x3 U;obtain⟨_,_,_,rfl⟩:=qh U.xu;have W:=U.sz;go_wp2_with (at_builtin;refine U.app T4 ?_ (hn:=kZ))
  intro v4 x4 V;obtain⟨_,_,_,rfl⟩:=qh V.xu;have W:=V.sz;go_wp2_with (at_builtin;refine V.app T5 ?_ (hn:=kZ))
  intro v5 x5 X;have HR:=show xj5 w a9 lo ps v5 (.int .i64<|(k:Int)+1) x5 from⟨k+1,nx,_,I,eu,HX,A,h,by have:=ku Y;omega,X.xu,X.bel⟩
  go_wp2;grind [ku,intOf]
theorem qzz:∀b:PB,qqk b->zvv b
 |.nil,_=>trivial
 |.node _ _ _ .nil n,h=>qzz n h
 |.node _ _ _ (.node _ _ _ t e) n,h=>⟨qy2 (qzz t h.1)<|zzu h.1,qy2 (qzz e h.2.1)<|zzu h.2.1,qzz n h.2.2.2.2⟩
theorem vwh(h:qqk a9):qvc a9:=qy2 (qzz a9 h)<|zzu h
theorem dw.app:∀{rs ss:List PRule}{xs ys:List Value},dw lo w rs xs->dw lo w ss ys->dw lo w (rs++ss) (xs++ys)
 |[],ss,xs,ys,h,k=>by
  have:xs=[]:=h;simp_all
 |r::rs,ss,xs,ys,⟨a,b,c,q,zs,e,k1,k2,k3,k4,k5⟩,k=>⟨a,b,c,q,zs++ys,by simp_all,k1,k2,k3,k4,dw.app k5 k⟩
theorem dw.one:∀{rs:List PRule}{xs:List Value},dw lo w rs xs->∀y∈xs,y.oneCell'=true
 |[],xs,h=>by
  have:xs=[]:=h;simp_all
 |r::rs,xs,⟨vp,vg,vb,q,zs,e,k1,k2,k3,k4,k5⟩=>by
  intro y d;rw[e]at d;obtain h|h:=rV.1 d
  ·exact kk1 y h
  ·obtain rfl|h:=tZ.1 h
   ·obtain⟨_,_,_,rfl⟩:=qh k1;rfl
   ·obtain rfl|h:=tZ.1 h
    ·cases c:r.guard with
     |nil=>rw[c]at k2;have:y=.pointer none:=k2;subst this;rfl
     |node i j x a b=>rw[c]at k2;obtain⟨k,pa,f,rfl,_⟩:=k2;rfl
    ·obtain rfl|h:=tZ.1 h
     ·obtain⟨_,_,_,rfl⟩:=qh k3;rfl
     ·exact dw.one k5 y h
theorem dw.below(h:dw lo w b5 xs)(hb:oq w w'):dw lo w' b5 xs:=h.stay λk _ a=>hb.block k a
theorem qk3(h:kqc w lo b6)(E:b6.l.length<=801)(hn:b6.q.length<=801):Calls prog 66 #[.pointer (some ⟨lo,0,none⟩)] w λe w'=>∃v ys,e=.returned v/\w'.ownsRow w.heap.size 147 6 v (b6.l++b6.q).length ys /\
   dw (lo+1) w' (b6.l++b6.q) ys/\oq w w':=by
 have ⟨i0,hi,j,l,m⟩:=info_parts infoRule;obtain⟨x0,x1,x2,x3,x4,y1,y3,y4,t,_,_,_,⟨p,f⟩,⟨q,g⟩⟩:=h;have ⟨_,_,_,F,A,_⟩:=kzk t;obtain⟨a3,x,c3,rfl⟩:=qh p;obtain⟨a4,y,c4,rfl⟩:=qh q;go_in;go_wp2_with (at_builtin;refine kqv rfl 138 rfl w.heap.size 147 i0 _ 6 96 underlying138 hi j l m rfl ak (.slice none 0 0) 0 [] rfl (oN) (.slice a3 x c3) _ _ _ rfl p f.one iq aj jH ?_)
 intro G B b c _;have a:oq w B:=(Below.refl w.heap.size w).grown c aj (λk u=>by cases u);have D:=wU a A;have C:=a.size;obtain⟨b1,z,d1,rfl⟩:=qh b;go_wp2_with (at_builtin;refine kqv rfl 138 rfl w.heap.size 147 i0 _ 6 96 underlying138 hi j l m rfl ak (.slice b1 z d1) _ _ rfl b (.slice a4 y c4) _ _ _ rfl (qj (oz q) a) g.one iq aj aj ?_)
 intro H I s d _;have i:=a.grown d aj<|jo b;go_wp2
 go_ret;refine⟨_,y3++y4,rfl,?_,(f.app g).below i,i⟩;simp_all
theorem xwh{f:α->List Value}(b:∀j,j<items.length*size->w.cell? ⟨g,j,none⟩=(items.flatMap f)[j]?)(c:∀x,(f x).length=size)(a:k<items.length):∀j,j<size->w.cell? ⟨g,k*size+j,none⟩=(f items[k])[j]?:=λj d=>
 (b _ (by have:=Z7 size (a:k+1<=items.length);grind)).trans (kqo f size c items k j a d)
theorem xjd(h:l.length=n)(a:lo<n):∃x,l[lo]?=some x:=⟨l[lo]'aj,wW _⟩
theorem fam{f:α->List Value}(d:∀j,j<items.length*size->w.cell? ⟨g,j,none⟩=(items.flatMap f)[j]?)(a:∀x,(f x).length=size)(e:k<items.length)(h:oq w u):∀j,j<size->u.cell? ⟨g,k*size+j,none⟩=(f items[k])[j]?:=λj b=>by have ⟨x,c⟩:=xjd (a items[k]) b;rw[c];exact wU h<|(xwh d a e j b).trans c
theorem jyd{f:α->List Value}(a:∀j,j<items.length*size->w.cell? ⟨g,j,none⟩=(items.flatMap f)[j]?)(b:∀x,(f x).length=size)(e:k<items.length)(i:Kept B w u)(c:g≠B:=by omega)(h:g<w.heap.size:=by omega):∀j,j<size->u.cell? ⟨g,k*size+j,none⟩=(f items[k])[j]?:=λj d=>
 (Jk<|i.block g h c).trans (xwh a b e j d)
section
def zjy(s:PSet):List Tok:=[s.y]
def kx7(k:PKind):List Tok:=k.y::k.i
def zwg(v:PVar):List Tok:=[v.y]
def kyz(r:PRule):List Tok:=[r.y]
def qvf(t:PTree):List Tok:=t.j.flatMap zjy
def qvs(t:PTree):List Tok:=qvf t++t.p.flatMap kx7
def qj3(t:PTree):List Tok:=qvs t++t.z.flatMap zwg
def jc(t:PTree):List Tok:=qj3 t++(t.l++t.q).flatMap kyz
def qw5{α:Type}(w:World)(pre:List Tok)(f:α->List Tok)(items:List α)(l i:Value)(wr:World):Prop:=
 ∃k:Nat,k<=items.length/\i=.int .i64 k/\Tks wr w.heap.size l (pre++(items.take k).flatMap f)/\oq w wr
theorem zkz(f:α->List Tok)(items:List α)(k:Nat)(h:k<items.length):(items.take (k+1)).flatMap f=(items.take k).flatMap f++f items[k]:=by grind [List.take_succ_eq_append_getElem]
theorem take_len(f:α->List Tok)(items:List α)(k:Nat)(h:k<items.length):((items.take k).flatMap f).length+(f items[k]).length<=(items.flatMap f).length:=by have h1:=congrArg List.length<|zkz f items k h;grind [List.take_append_drop]
theorem qw5.Y{f:α->List Tok}(h:k<items.length)(a:Tks wr w.heap.size v L)(hb:oq w wr)(e:L=pre++((items.take k).flatMap f++f items[k]):=by simp[zjy,kx7,zwg]):qw5 w pre f items v (.int .i64<|(k:Int)+1) wr:=
 ⟨k+1,h,eu,by rw[zkz f items k h,<-e];exact a,hb⟩
theorem qw5.done{f:α->List Tok}(h:¬k<items.length)(a:Tks wr w.heap.size v (pre++(items.take k).flatMap f)):Tks wr w.heap.size v (pre++items.flatMap f):=by grind [List.take_of_length_le]
theorem qw5.start{f:α->List Tok}(a:Tks wr w.heap.size v pre)(hb:oq w wr):qw5 w pre f items v (.int .i64 0) wr:=
 ⟨0,jR,rfl,by simp_all,hb⟩
attribute [local simp] kwz ji kj7
theorem vxj{t:PTree}(h:kqc w lo t)(hs:t.j.length<=801)(L:t.p.length<=801)(hv:t.z.length<=801)(hr:t.l.length<=801)(hn:t.q.length<=801)(R:(jc t).length<=90000):Calls prog 112 #[.pointer (some ⟨lo,0,none⟩)] w λe w'=>∃v,e=.returned v/\w'.ownsRow w.heap.size 142 3 v (jc t).length (uw<|jc t)/\oq w w':=by
 have HT:=oz h;obtain⟨x0,x1,x2,x3,x4,y1,y3,y4,Q,h0,⟨h1,HK⟩,h2,_⟩:=h;have J:=oz λ(u:World)(hu:oq w u)=>kzk<|(hu.block lo<|wQ Q).trans Q
 obtain⟨a0,a5,rfl,(S:Hid _)⟩:=kq8 h0;obtain⟨a1,a6,rfl,(T:Hid _)⟩:=kq8 h1;obtain⟨a2,a7,rfl,(U:Hid _)⟩:=kq8 h2;have K:(qvf t).length+(t.p.flatMap kx7).length+(t.z.flatMap zwg).length+((t.l++t.q).flatMap kyz).length<=90000/\(qvs t).length+(t.z.flatMap zwg).length+((t.l++t.q).flatMap kyz).length<=90000/\(qj3 t).length+((t.l++t.q).flatMap kyz).length<=90000:=by grind [jc,qj3,qvs]
 have P:=oz K;clear Q R K;go_in;go_wp21;go_loopw [3,4] (λl i wr=>qw5 w ([]:List Tok) zjy t.j l i wr) (λ_ i _=>t.j.length-(intOf i).toNat);exact qw5.start (oN) bR;obtain⟨k,B,rfl,d,b⟩:=hrel;have p:=b.size;have q:=(ku J) wr b;obtain⟨_,_,_,rfl⟩:=qh d;by_cases a:k<t.j.length
 ·obtain⟨g,rfl,m⟩:=ku S k a;have e:=fam m (λ_=>rfl) a b;clear m;go_wp2_with (at_builtin;refine qvp (t:=(t.j[k]).y) (d.alloc _) (b.alloc p _) (Xk wr _) ?_ (hn:=by have:=take_len zjy t.j k a;grind [ku,qvf]))
  intro M I y hb;have E:=qw5.Y (pre:=[]) (f:=zjy) a y hb;go_wp2;grind [ku,intOf]
 ·have F:=qw5.start (f:=kx7) (items:=t.p) (qw5.done a d:Tks wr w.heap.size _ (qvf t)) b;go_wp21;go_loopw [3,5] (λl i wr=>qw5 w (qvf t) kx7 t.p l i wr) (λ_ i _=>t.p.length-(intOf i).toNat);exact F;clear q p;obtain⟨k,B,rfl,d,b⟩:=hrel;have p:=b.size;have q:=(ku J) wr b;obtain⟨_,_,_,rfl⟩:=qh d;by_cases a:k<t.p.length
  ·obtain⟨g,rfl,m⟩:=ku T k a;have ⟨vm,f0,f1,f2,f3,hm⟩:=qz8 k a HK;have V:=wU b<|(m (k*4) aj).trans f0;have W:=wU b<|(m (k*4+1) aj).trans f1;have X:=wU b<|(m (k*4+2) aj).trans f2;have E3:=oz<|(m (k*4+3) aj).trans f3;have a3:(qvf t++(t.p.take k).flatMap kx7).length+(1+(t.p[k]).i.length)<=90000:=by have:=take_len kx7 t.p k a;have:=P.1;simp only[kx7,rD,Qb]at *;omega
   obtain⟨_,_,_,rfl⟩:=qh hm;clear m f0 f1 f2 f3;go_wp2_with (at_builtin;refine qvp (t:=(t.p[k]).y) (d.alloc _) (b.alloc p _) (Xk wr _) ?_ (hn:=aj))
   intro M I y hb;have q1:=(ku J) I hb;have e3:=wU hb E3;have a9:=hb.size;obtain⟨_,_,_,rfl⟩:=qh y;clear V W X;go_wp2_with (at_builtin;go_must (refine xqm y hb (qj hm hb) ?_ (hn:=by grind)))
   intro v2 w2 y hb;have E:=qw5.Y (pre:=qvf t) (f:=kx7) a y hb;go_wp2;grind [ku,intOf]
  ·have F:=qw5.start (f:=zwg) (items:=t.z) (qw5.done a d:Tks wr w.heap.size _ (qvs t)) b;go_wp21;go_loopw [3,6] (λl i wr=>qw5 w (qvs t) zwg t.z l i wr) (λ_ i _=>t.z.length-(intOf i).toNat);exact F;clear q p;obtain⟨k,B,rfl,d,b⟩:=hrel;have p:=b.size;have q:=(ku J) wr b;obtain⟨_,_,_,rfl⟩:=qh d;by_cases a:k<t.z.length
   ·obtain⟨g,rfl,m⟩:=ku U k a;have e:=fam m (λ_=>rfl) a b;clear m;go_wp2_with (at_builtin;refine qvp (t:=(t.z[k]).y) (d.alloc _) (b.alloc p _) (Xk wr _) ?_ (hn:=by have:=take_len zwg t.z k a;have:=P.2.1;simp only[rD]at *;omega))
    intro M I y hb;have E:=qw5.Y (pre:=qvs t) (f:=zwg) a y hb;go_wp2;exact rdM E
   ·go_wp21;refine(qk3 (HT.below b) hr hn).mono ?_;rintro e w4 ⟨rv,rs,rfl,x,G,O⟩;have hA:=p;have C:=show Acc w w4 wr.heap.size w.heap.size w4 _ (qj3 t++((t.l++t.q).take 0).flatMap kyz) from⟨by simpa using qj (show Tks wr w.heap.size _ (qj3 t) from qw5.done a d) O,b.trans<|O.mono p,λk L=>.inl<|kq9 d k L,jH,λ_ _ _=>rfl⟩
    obtain⟨ra,rc,rfl,D⟩:=kq8 x;have H:=oz (show ∀k,k<(t.l++t.q).length->∃g,ra=some ⟨g,0,none⟩/\wr.heap.size<=g/\g<w4.heap.size/\∀j,j<(t.l++t.q).length*6->w4.cell? ⟨g,j,none⟩=rs[j]? from λk L=>by obtain⟨g,rfl,m⟩:=D k L;exact⟨g,rfl,jo x g rfl,kq9 x g rfl,m⟩)
    have N:=oz (show jc t=qj3 t++(t.l++t.q).flatMap kyz from rfl);have a4:(t.l++t.q).length<=1602:=lg;have K:=P.2.2;clear D;generalize t.l++t.q=s at C N G H K a4 G |-;generalize wr.heap.size=A at C H hA;clear q p a B;go_wp21
    go_loopw [3,8] (λl i wr=>∃k:Nat,k<=s.length/\i=.int .i64 k/\Acc w w4 A w.heap.size wr l (qj3 t++(s.take k).flatMap kyz)) (λ_ i _=>s.length-(intOf i).toNat);exact⟨0,jR,rfl,C⟩;obtain⟨k,B,rfl,c⟩:=hrel;have a8:=c.bel.size;obtain⟨_,_,_,rfl⟩:=qh c.xu;by_cases a:k<s.length
    ·obtain⟨g,rfl,Y,Z,m⟩:=ku H k a;have ⟨_,_,_,_,⟨f0,f1,f2,_⟩,_⟩:=qji k a G;have z:∀j v,w4.cell? ⟨g,j,none⟩=some v->wr.cell? ⟨g,j,none⟩=some v:=λj v h=>by rw[World.cell?,c.mid g Y Z];exact h
     have V:=z _ _<|(m (k*6) aj).trans f0;have W:=z _ _<|(m (k*6+1) aj).trans f1;have X:=z _ _<|(m (k*6+2) aj).trans f2;have HN:=oz<|zkz kyz s k a;have a3:(qj3 t++(s.take k).flatMap kyz).length<=90000:=by have:=take_len kyz s k a;rw[rD];omega
     clear m f0 f1 f2 z;go_wp2_with (at_builtin;refine(c.alloc _).qvp (t:=(s[k]).y) (Xk wr _) ?_)
     intro M I c1;have E:=show Acc w w4 A w.heap.size I M (qj3 t++(s.take<|k+1).flatMap kyz) from by rw[ku HN];simpa[kyz] using c1
     go_wp2;exact rdM ⟨k+1,a,eu,E⟩
    ·have HF:=show Tks wr w.heap.size _ (jc t) from by rw[ku N];exact qw5.done a c.xu
     go_wp2;go_ret;exact⟨_,rfl,HF,c.bel⟩
end
def zwe(L:List Tok):Prop:=∀i,i<L.length->((tk L i).t.toList==nG)=false->i+1<L.length
theorem kq6.jz4(h:kq6 L):zwe L:=by
 intro i hi a;by_cases e:i+1<L.length
 ·exact e
 ·have:i=L.length-1:=by omega
  subst this;rw[h.last]at a;cases a
def uh(L:List Tok):Nat->Nat->List Tok->Prop
 |a,b,[]=>a<=b
 |a,b,t::l=>∃i,a<=i/\i<L.length/\t=tk L i/\(t.t.toList==mX)=true/\uh L (i+1) b l
theorem uh.le:∀{l:List Tok}{a b:Nat},uh L a b l->a+l.length<=b
 |[],a,b,h=>h
 |t::l,a,b,⟨i,h1,_,_,_,h⟩=>by have:=h.le;grind
theorem uh.D(a:k<=lo):∀{l:List Tok},uh L lo B l->uh L k B l
 |[],h=>rP a h
 |t::l,⟨i,h1,h⟩=>⟨i,rP a h1,h⟩
theorem uh.high(hb:lo<=k):∀{l:List Tok}{a:Nat},uh L a lo l->uh L a k l
 |[],a,h=>rP h hb
 |t::l,a,⟨i,h1,h2,h3,h4,h⟩=>⟨i,h1,h2,h3,h4,h.high hb⟩
theorem uh.app(b:uh L lo c pre):∀{l:List Tok}{a:Nat},uh L a lo l->uh L a c (l++pre)
 |[],a,h=>b.D h
 |t::l,a,⟨i,h1,h2,h3,h4,h⟩=>⟨i,h1,h2,h3,h4,uh.app b h⟩
theorem uh.mem{L:List Tok}:∀{l:List Tok}{a b:Nat},uh L a b l->∀t∈l,t∈L/\(t.t.toList==mX)=true
 |[],_,_,_,t,c=>by simp_all
 |u::l,a,b,⟨i,h1,h2,h3,h4,h⟩,t,c=>by
  rcases tZ.1 c with rfl|c
  ·exact⟨h3▸xku h2,h4⟩
  ·exact h.mem t c
theorem uh.ats(e:L.Pairwise (λa b=>a.v<b.v)):∀{l:List Tok}{a b:Nat},uh L a b l->(∀t∈l,∀i,i<a->i<L.length->(tk L i).v<t.v)/\l.Pairwise (λa b=>a.v<b.v)
 |[],_,_,_=>ay
 |u::l,a,b,⟨i,h1,h2,h3,h4,h⟩=>by
  have ⟨d,m⟩:=h.ats e;have lt:∀i j,i<j->j<L.length->(tk L i).v<(tk L j).v:=by intro i j f p;have hi:i<L.length:=aj;have:=sQ.1 e i j hi p f;grind [tk]
  refine⟨?_,JW.2 ⟨λt c=>?_,m⟩⟩
  ·intro t c k q g;rcases tZ.1 c with rfl|c
   ·rw[h3];exact lt k i aj h2
   ·exact d t c k aj g
  ·rw[h3];exact d t c i aj h2
theorem xzz(a:zwe L)(b:st.v<L.length)(hn:zk L b7 st=true):st.s=false/\st.v+1<L.length:=by unfold zk qqb at hn;simp only[rG,Q8,QD]at hn;refine⟨hn.1.1,a _ b ?_⟩;grind
theorem kqz(a:zwe L)(b:st.v<L.length)(h:(qg L b7 st).s=false):st.s=false/\(qg L b7 st).v=st.v+1/\(qg L b7 st).v<L.length:=by grind [qg,xzz]
theorem kx5(a:zwe L)(b:st.v<L.length)(d:(b7==nG)=false)(h:(zq L b7 st).2.s=false):st.s=false/\(zq L b7 st).1=tk L st.v/\((tk L st.v).t.toList==b7)=true/\(zq L b7 st).2.v=st.v+1/\(zq L b7 st).2.v<L.length:=by
 have h1:=jqm h;have hn:kqf L b7 st=true:=by grind [zq]
 have e:(zq L b7 st).1=tk L st.v:=by unfold zq;simp_all
 unfold kqf at hn;simp only[rG,QD]at hn;have c:=hn.2;have:st.v+1<L.length:=a _ b (by simp_all);simp_all
theorem qvx{b9 d6:PX}(a:(b8.toList==ng)=false):yu (opX b8 b9 d6)=yu b9++yu d6:=by show(ownNames _++yu b9)++yu d6=_;unfold ownNames;simp_all
theorem zwk(h:kv6 n d7=true):(d7.x.toList==ng)=false/\qwe d7.x=false:=by
 unfold kv6 at h;rw[rG]at h;have h1:=h.1;rw[Zx]at h1;obtain⟨s,a,e⟩:=h1;rw[su]at e;unfold qwe;rw[<-e];have all:∀n,∀s∈kj4 n,s.toList=[124]\/s.toList=[38]\/s.toList=[61,61]\/s.toList=[33,61]\/s.toList=[60]\/s.toList=[43]\/s.toList=[45]:=by
  intro n s a;have:∀l:List UInt8,(⟨l.toArray⟩:ByteArray).toList=l:=jh;rcases n with _|_|_|n<;>simp only[kj4,tZ,Qu,or_false]at a
  ·simp_all
  ·simp_all
  ·grind
  grind
 rcases all n s a with e|e|e|e|e|e|e<;>rw[e]<;>decide
theorem vy0(h:isConst d7=true):(d7.x.toList==ng)=false/\qwe d7.x=true:=by grind [isConst,qwe]
def kk5:PX->Nat
 |.nil=>0
 |.node _ _ _ a c=>kk5 a+kk5 c+1
def loopA{α:Type}(L:List Tok)(lit:List UInt8)(one:RS->α×RS):Nat->List α->RS->List α×RS
 |0,l,s=>(l,s)
 |f+1,l,s=>if zk L lit s then loopA L lit one f (l++[(one s).1]) (one s).2 else (l,s)
def kx6{α:Type}(L:List Tok)(lit:List UInt8)(one:RS->α×RS):Nat->List α->RS->List α×RS
 |0,l,s=>(l,s)
 |f+1,l,s=>if s.s then (l,s) else if zk L lit (one s).2 then kx6 L lit one f (l++[(one s).1]) (one s).2 else (l++[(one s).1],(one s).2)
theorem zy4(L:List Tok):∀(f:Nat)(l:List PSet)(s:RS),kyx f L l s=loopA L ni (kvc L) f l s
 |0,_,_=>rfl
 |f+1,l,s=>by rw[kyx,loopA];split;exact zy4 L f _ _;rfl
theorem zzf(L:List Tok):∀(f:Nat)(l:List PKind)(s:RS),qqe f L l s=loopA L ny (kxz L) f l s
 |0,_,_=>rfl
 |f+1,l,s=>by rw[qqe,loopA];split;exact zzf L f _ _;rfl
theorem qys(L:List Tok):∀(f:Nat)(l:List PRule)(s:RS),qze f L l s=loopA L nK (kzw L) f l s
 |0,_,_=>rfl
 |f+1,l,s=>by rw[qze,loopA];split;exact qys L f _ _;rfl
theorem zzt(L:List Tok):∀(f:Nat)(l:List PVar)(s:RS),zzr f L l s=kx6 L mD (kyt L) f l s
 |0,_,_=>rfl
 |f+1,l,s=>by rw[zzr,kx6];split;rfl;split;exact zzt L f _ _;rfl
theorem zzn(L:List Tok):∀(f:Nat)(l:List PRule)(s:RS),qwp f L l s=kx6 L nX (kjr L) f l s
 |0,_,_=>rfl
 |f+1,l,s=>by rw[qwp,kx6];split;rfl;split;exact zzn L f _ _;rfl
theorem jv2{d8:Type}(h:α->d8)(L:List Tok)(lit:List UInt8)(one:RS->α×RS):∀(f:Nat)(l:List α)(s:RS),kx6 L lit (λs=>(h (one s).1,(one s).2)) f (l.map h) s=((kx6 L lit one f l s).1.map h,(kx6 L lit one f l s).2)
 |0,_,_=>rfl
 |f+1,l,s=>by
  rw[kx6,kx6];split
  ·rfl
  ·simp only;split
   ·rw[show l.map h++[h (one s).1]=(l++[(one s).1]).map h by simp];exact jv2 h L lit one f _ _
   ·simp
theorem kyl{one:RS->α×RS}(hb:s.s=true):∀(f:Nat)(l:List α),loopA L lit one f l s=(l,s)
 |0,_=>rfl
 |f+1,l=>by rw[loopA,kqk hb];rfl
theorem kyn{one:RS->α×RS}(hb:s.s=true):∀(f:Nat)(l:List α),kx6 L lit one f l s=(l,s)
 |0,_=>rfl
 |f+1,l=>by rw[kx6,hb];rfl
def jzi{α:Type}(L:List Tok)(lit:List UInt8)(one:RS->α×RS)(fin:List α×RS)(l:List α)(s:RS):Prop:=
 (s.s=true/\fin.2=s)\/(s.s=false/\∃g,L.length<s.v+g/\loopA L lit one g l s=fin)
def jve{α:Type}(L:List Tok)(lit:List UInt8)(one:RS->α×RS)(fin:List α×RS)(l:List α)(s:RS):Prop:=
 (s.s=true/\fin.2=s)\/(s.s=false/\∃g,L.length<s.v+g/\(if zk L lit s then kx6 L lit one g l s else (l,s))=fin)
theorem qyx{one:RS->α×RS}(s:RS):jzi L lit one (loopA L lit one (kq2 L) [] s) [] s:=by
 cases hb:s.s
 ·exact .inr ⟨hb,kq2 L,by unfold kq2;omega,rfl⟩
 ·exact .inl ⟨hb,by rw[kyl hb]⟩
theorem zz1{one:RS->α×RS}(h:jzi L lit one fin l s)(c:s.v<L.length)(hn:zk L lit s=true)(f:s.v+1<=(one s).2.v)(b:(one s).2.s=false->e=(one s).1):jzi L lit one fin (l++[e]) (one s).2:=by
 obtain⟨hb,_⟩|⟨hb,g,d,h1⟩:=h
 ·rw[kqk hb]at hn;cases hn
 ·obtain⟨g,rfl⟩:=qqy g;rw[loopA,hn]at h1;simp only[Xw]at h1;cases a:(one s).2.s
  ·exact .inr ⟨a,g,aj,by rw[b a];exact h1⟩
  ·exact .inl ⟨a,by rw[<-h1,kyl a]⟩
theorem zvx{one:RS->α×RS}(h:jzi L lit one fin l s)(a:s.v<L.length)(hn:zk L lit s=false):fin.2=s/\(s.s=false->fin.1=l):=by
 obtain⟨hb,h1⟩|⟨hb,g,b,h1⟩:=h
 ·exact⟨h1,λh=>by rw[hb]at h;cases h⟩
 ·obtain⟨g,rfl⟩:=qqy g;rw[loopA,hn]at h1;simp only[ru,Xv]at h1;rw[<-h1];exact⟨rfl,λ_=>rfl⟩
theorem zw7{one:RS->α×RS}(b:s.s=true->(one s).2=s)(d:s.s=false->s.v<=(one s).2.v)(c:(one s).2.s=false->e=(one s).1):jve L lit one (kx6 L lit one (kq2 L) [] s) [e] (one s).2:=by
 cases hb:s.s
 ·unfold kq2;rw[kx6,hb];simp only[ru,Xv,Qd];cases a:(one s).2.s
  ·exact .inr ⟨a,L.length+1,aj,by rw[c a]⟩
  ·exact .inl ⟨a,by rw[kqk a];rfl⟩
 ·rw[kyn hb,b hb];exact .inl ⟨hb,rfl⟩
theorem jje{one:RS->α×RS}(h:jve L lit one fin l s)(d:s.v<L.length)(hn:zk L lit s=true)(c:(one s).2.s=false->s.v+1<=(one s).2.v)(b:(one s).2.s=false->e=(one s).1):jve L lit one fin (l++[e]) (one s).2:=by
 obtain⟨hb,_⟩|⟨hb,g,f,h1⟩:=h
 ·rw[kqk hb]at hn;cases hn
 ·rw[hn]at h1;simp only[Xw]at h1;obtain⟨g,rfl⟩:=qqy g;rw[kx6,hb]at h1;simp only[ru,Xv]at h1;cases a:(one s).2.s
  ·have:=c a;exact .inr ⟨a,g,aj,by rw[b a];exact h1⟩
  ·refine .inl ⟨a,?_⟩;rw[kqk a]at h1;rw[<-h1];rfl
theorem jvv{one:RS->α×RS}(h:jve L lit one fin l s)(hn:zk L lit s=false):fin.2=s/\(s.s=false->fin.1=l):=by
 obtain⟨hb,h1⟩|⟨hb,g,a,h1⟩:=h
 ·exact⟨h1,λh=>by rw[hb]at h;cases h⟩
 ·rw[hn]at h1;simp only[ru,Xv]at h1;rw[<-h1];exact⟨rfl,λ_=>rfl⟩
theorem zvl(h:st.s=true):(kjn L st).2=st:=by unfold kjn;rw[kqk h];rfl
theorem jqp(h:st.s=true):(kku L st).2=st:=by unfold kku;rw[kqk h,kqk h];exact kza h
theorem vvy(h:st.s=true):(kyt L st).2=st:=by show qg L [59] (kku L (kjn L<|qg L [58] (zq L mX<|qg L mD st).2).2).2=st;rw[kqs (L:=L) (s:=mD) h,kza h,kqs (L:=L) (s:=[58]) h,zvl h,jqp h,kqs h]
theorem vvu(h:st.s=true):∀(f:Nat)(l:List PP),kws f L l st=(l,st)
 |0,_=>rfl
 |f+1,l=>by rw[kws,h];rfl
theorem jx9(h:st.s=true):(kj0 L st).2=st:=by unfold kj0;rw[kqs (L:=L) (s:=[40]) h,kqk h];simp only[ru,Xv];rw[vvu h,kqs h]
theorem jwl(h:st.s=true):(kjr L st).2=st:=by rw[jk6 (L:=L) (st:=st) rfl rfl rfl rfl rfl rfl];simp only;rw[kqs (L:=L) (s:=nX) h,kza h,jx9 h,kqs (L:=L) (s:=mY) h,kk2 h,kkt h]
def jw(x:PVar):VrT:=⟨x.y,!(x.g.t.toList==[]),x.g,if x.k.t.toList==nV then (if x.k.x.toList==nP then ⟨0,zh,zh⟩ else ⟨1,x.R,zh⟩) else ⟨2,zh,x.k⟩⟩
theorem zkb(d:kq6 L)(a:st.v<L.length)(g:b7∈lits)(i:∃c r,b7=c::r/\(decide (97<=(c.toNat:Int))&&decide ((c.toNat:Int)<=122))=true)(h:zk L b7 st=true):((tk L st.v).t.toList==nV)=true:=by obtain⟨c,r,e,f⟩:=i;have b:=(kz8 h).1;exact(d.ok _ a).pkv g b (by rw[zkn (b.trans e)];exact f)
theorem xkb(d:kq6 L)(b:st.v<L.length)(hb:(kku L st).2.s=false):siT L st=if (tk L st.v).t.toList==nV then (if (tk L st.v).x.toList==nP then ⟨0,zh,zh⟩ else ⟨1,(kku L st).1,zh⟩) else ⟨2,zh,tk L st.v⟩:=by
 unfold siT kku at *;cases h1:zk L nP st
 ·rw[h1]at hb;simp only[ru,Xv]at hb |-;cases c:zk L nD st
  ·rw[c]at hb;simp only[ru,Xv]at hb |-;have a:kqf L mX st=true:=by
    cases a:kqf L mX st
    ·unfold zq at hb;rw[a]at hb;simp at hb
    ·rfl
   have e:(zq L mX st).1=tk L st.v:=by unfold zq;rw[a];rfl
   unfold kqf at a;simp only[rG]at a;have:=a.2;rw[su]at this;rw[e,this];rfl
  ·simp only[Xw];rw[zkb d b ak ⟨_,_,rfl,ak⟩ c];rw[((kz8 c).1)];rfl
 ·simp only[Xw];rw[zkb d b ak ⟨_,_,rfl,ak⟩ h1];rw[((kz8 h1).1)];rfl
theorem vqx(m:kq6 L)(c:zwe L)(k:st.v<L.length)(hb:(kyt L st).2.s=false):vrT L st=jw (kyt L st).1:=by
 have g:(kku L (kjn L<|zj8 L st).2).2.s=false:=kz2 (s:=[59]) hb;have b:(kjn L<|zj8 L st).2.s=false:=by
  cases a:(kjn L<|zj8 L st).2.s
  ·rfl
  ·rw[jqp a,a]at g;cases g
 have j:(zj8 L st).s=false:=by
  cases a:(zj8 L st).s
  ·rfl
  ·rw[zvl a,a]at b;cases b
 have f:(zq L mX<|qg L mD st).2.s=false:=kz2 (s:=[58]) j;have h1:(qg L mD st).s=false:=by
  cases a:(qg L mD st).s
  ·rfl
  ·rw[kza a,a]at f;cases f
 obtain⟨_,_,q⟩:=kqz c k h1;obtain⟨_,_,_,_,t⟩:=kx5 c q rfl f;obtain⟨_,_,u⟩:=kqz c t j;have d:zk L [91] (zj8 L st)=(!((kjn L<|zj8 L st).1.t.toList==[]))/\(kjn L<|zj8 L st).2.v<L.length:=by
  have e:(zj8 L st).v<L.length:=u;generalize zj8 L st=s3 at *;unfold kjn at b |-;cases hn:zk L [91] s3
  ·simp only[ru,Xv];exact⟨by rw[dh];rfl,e⟩
  ·rw[hn]at b;simp only[Xw]at b |-;have h:(zq L mX<|qg L [91] s3).2.s=false:=kz2 b;have p:(qg L [91] s3).s=false:=by
    cases a:(qg L [91] s3).s
    ·rfl
    ·rw[kza a,a]at h;cases h
   obtain⟨_,_,v⟩:=kqz c e p;obtain⟨_,l,i,_,w⟩:=kx5 c v rfl h;obtain⟨_,_,x⟩:=kqz c w b;refine⟨?_,x⟩;rw[l];rw[su]at i;rw[i];rfl
 show(⟨_,zk L [91]<|zj8 L st,_,siT L (kjn L<|zj8 L st).2⟩:VrT)=_;rw[d.1,(xkb m d.2 g)];rfl
def xvo(P:Nat)(v:Value)(L:List Tok)(w:World)(e:Ending)(w':World):Prop:=
 ∃x0 x1 x2 x3 x4 m,e=.returned (.agg #[x0,x1,x2,x3,x4])/\kwm w.heap.size w' x0 x1 x2 x3 x4 m/\((kwh L).2.s=false->m=⟨(uz L).1.j,(uz L).1.p,(uz L).1.z.map jw,(uz L).1.l,(uz L).1.q⟩)/\Pd w' P v L (kwh L).2/\Kept P w w'/\((∃a l c,x0=.slice a l c)/\(∃a l c,x1=.slice a l c)/\(∃a l c,x2=.slice a l c)/\(∃a l c,x3=.slice a l c)/\(∃a l c,x4=.slice a l c))
def zyb(L:List Tok)(s:RS):VrT×RS:=(jw (kyt L s).1,(kyt L s).2)
theorem pqp(h:zk L b7 s=true)(a:opens b7=false)(b:shuts b7=false):(qg L b7 s).v=s.v+1:=by rw[kzo a b];unfold zkg;rw[h];rfl
theorem xve(h:zk L mD s=true):s.v+1<=(zyb L s).2.v:=by have:=qyl L s;rw[pqp h rfl rfl]at this;exact this
theorem xw7(h:zk L nX s=true):s.v+1<=(kjr L s).2.v:=by have:=qza L s;rw[pqp h rfl rfl]at this;exact this
theorem xvi(L:List Tok)(s:RS):s.v<=(zyb L s).2.v:=rP (yh L mD s)<|qyl L s
theorem xw8(L:List Tok)(s:RS):s.v<=(kjr L s).2.v:=rP (yh L nX s)<|qza L s
theorem jxo{d9:List PSet×RS}{e5:List PKind×RS}{a:List VrT×RS}{e7 e8:List PRule×RS}(g:d9=loopA L ni (kvc L) (kq2 L) [] kqa)(f:e5=loopA L ny (kxz L) (kq2 L) [] d9.2)(h:a=kx6 L mD (zyb L) (kq2 L) [] e5.2)(hR:e7=kx6 L nX (kjr L) (kq2 L) [] a.2)(hN:e8=loopA L nK (kzw L) (kq2 L) [] e7.2):kwh L=e8/\kyq L=e7/\a=((kw9 L).1.map jw,(kw9 L).2)/\e5=(kzb L kqa).2/\(kzb L kqa).1=d9.1:=by
 have e:kyx (kq2 L) L [] kqa=d9:=by rw[zy4,g]
 have b:kzb L kqa=(d9.1,e5):=by unfold kzb;rw[e,zzf,f]
 have d:a=((kw9 L).1.map jw,(kw9 L).2):=by unfold kw9;rw[b,zzt,h];exact jv2 jw L mD (kyt L) (kq2 L) [] e5.2
 have c:kyq L=e7:=by unfold kyq;rw[zzn,hR,d]
 refine⟨?_,c,d,by rw[b],by rw[b]⟩;unfold kwh;rw[qys,hN,c]
theorem qws(h:kwm lo w x0 x1 x2 x3 x4 m):(∃a l c,x0=.slice a l c)/\(∃a l c,x1=.slice a l c)/\(∃a l c,x2=.slice a l c)/\(∃a l c,x3=.slice a l c)/\(∃a l c,x4=.slice a l c):=
 ⟨qh h.o0,qh h.o1.choose_spec.1,qh h.o2,qh h.o3.choose_spec.1,qh h.o4.choose_spec.1⟩
theorem kxd.b1g{e9:Obj}(h:kxd w P v L lo B x0 x1 x2 x3 x4 m s w')(b:(w'.alloc e9).grownBy W x.ownBlock)(a:∀k,x.ownBlock=some k->B+1<=k):W.heap[B]?=some (.cells #[x0,x1,x2,x3,x4] 68 (0,0)):=
 (b.block _ (by have:=wQ h.b1;simp;omega) (λe=>by have:=a _ e.symm;omega)).trans ((jj<|wQ h.b1).trans h.b1)
theorem vvm(hF:zwe L)(H:Pd w P v L kqa):Calls prog 88 #[.pointer (some ⟨P,0,none⟩)] w λe w'=>xvo P v L w e w':=by
 have hX:=H.in;have Z:=oz H.kq9;have hL:=H.ok;have bT:=hL.T;have b4:=qyx (L:=L) (lit:=ni) (one:=kvc L) kqa;obtain⟨G,aK⟩:=cpy<|loopA L ni (kvc L) (kq2 L) [] kqa;rw[<-aK]at b4;have b5:=qyx (L:=L) (lit:=ny) (one:=kxz L) G.2;obtain⟨T,aT⟩:=cpy<|loopA L ny (kxz L) (kq2 L) [] G.2;rw[<-aT]at b5;obtain⟨U,aW⟩:=cpy<|kx6 L mD (zyb L) (kq2 L) [] T.2;have bM:=oz aW.symm;obtain⟨F,aV⟩:=cpy<|kx6 L nX (kjr L) (kq2 L) [] U.2;have bN:=oz aV.symm;have b6:=qyx (L:=L) (lit:=nK) (one:=kzw L) F.2;obtain⟨bD,aU⟩:=cpy<|loopA L nK (kzw L) (kq2 L) [] F.2;rw[<-aU]at b6;obtain⟨aH,aL,aJ,aI⟩:=jb aT aW aV aU;clear aT aW aV aU;go_in
 obtain⟨R0,aN⟩:∃R:World->Prop,Hid (∀u,R u↔∃(x:Value)(l:List PSet)(s:RS),jzi L ni (kvc L) G l s/\l.length<=s.v/\kxd w P v L w.heap.size (w.heap.size+1) x (.slice none 0 0) (.slice none 0 0) (.slice none 0 0) (.slice none 0 0) ⟨l,[],[],[],[]⟩ s u):=⟨_,λ_=>Iff.rfl⟩;have aC:=oz (show R0 ((w.alloc<|.cells #[.slice none 0 0,.slice none 0 0,.slice none 0 0,.slice none 0 0,.slice none 0 0] 68).alloc<|.cells #[.slice none 0 0,.slice none 0 0,.slice none 0 0,.slice none 0 0,.slice none 0 0] 68) from(aN _).2
  ⟨.slice none 0 0,[],kqa,b4,ay,⟨zy<|qy,by have:=qy (w:=w.alloc<|.cells #[.slice none 0 0,.slice none 0 0,.slice none 0 0,.slice none 0 0,.slice none 0 0] 68) (o:=.cells #[.slice none 0 0,.slice none 0 0,.slice none 0 0,.slice none 0 0,.slice none 0 0] 68);simpa using this,⟨jE,⟨[],jE,rfl⟩,jE,⟨[],jE,rfl⟩,⟨[],jE,rfl⟩⟩,(H.alloc _).alloc _,((Kept.refl _ _).alloc _).alloc _⟩⟩)
 go_wp2;go_loopw [] (λwr=>R0 wr) (λwr=>L.length-zx2 wr P);exact aC;obtain⟨y0,l0,s0,b7,B,a7⟩:=(aN _).1 hrel;have c:=a7.pd.lt;go_wp21;refine(qzj ni ak a7.pd).mono ?_;rintro e bP ⟨rfl,W,C⟩;have S:=a7.kept' C W aj aj;cases f:zk L ni s0
 ·obtain⟨aX,(bF:Hid _)⟩:=zvx b7 c f;clear B;obtain⟨R1,aO⟩:∃R:World->Prop,Hid (∀u,R u↔∃(x:Value)(l:List PKind)(s:RS),jzi L ny (kxz L) T l s/\l.length<=s.v/\kxd w P v L w.heap.size (w.heap.size+1) y0 x (.slice none 0 0) (.slice none 0 0) (.slice none 0 0) ⟨l0,l,[],[],[]⟩ s u):=⟨_,λ_=>Iff.rfl⟩;have aD:=oz ((aO _).2 ⟨_,[],s0,by rw[<-show G.2=s0 from aX];exact b5,ay,S⟩:R1 bP);clear c f;go_wp2;go_loopw [] (λwr=>R1 wr) (λwr=>L.length-zx2 wr P);exact aD;obtain⟨y1,l1,s1,b8,B,a8⟩:=(aO _).1 hrel;have c:=a8.pd.lt;go_wp21;refine(qzj ny ak a8.pd).mono ?_;rintro e bW ⟨rfl,W,C⟩;have p:=a8.kept' C W aj aj;cases f:zk L ny s1
  ·obtain⟨aY,(bG:Hid _)⟩:=zvx b8 c f;clear B;go_upto_region 6 with fail
   go_cut [] from 22 to 28 (λwx=>∃(x:Value)(e:VrT),(((zyb L) s1).2.s=false->e=((zyb L) s1).1)/\kxd w P v L w.heap.size (w.heap.size+1) y0 y1 x (.slice none 0 0) (.slice none 0 0) ⟨l0,l1,[e],[],[]⟩ ((zyb L) s1).2 wx)
   case first=>
    have q2:=jl p.b1;go_region_law (first
     |(refine apL (news:=(kjs<|vrT L s1)) (a.md.o2.alloc _) (Xk E _) ?_;intro gg cap w6 d b t J;have r6:=jl<|a.b1g b h)
     |(go_simp;go_at_call 149;refine(zqs<|p.pd.below (bR.drew)).mono ?_;rintro e E ⟨rfl,I,m⟩;have a:=p.kept' ((Kept.refl _ _).drew.trans m) I aj aj;have q5:=jl a.b1;have h:=jo a.md.o2;have K:=wQ a.b1;unfold vrV kjs ;dsimp only))
    all_goals
     go_wp2;go_meet
     exact⟨_,vrT L s1,λhb=>(by unfold zyb;exact vqx hL hF c hb),a.more2 (e:=vrT L s1) b d Z hX rfl aj⟩
   case rest=>
   obtain⟨xv,ev,a5,aS⟩:=hcut;obtain⟨R2,aP⟩:∃R:World->Prop,Hid (∀u,R u↔∃(x:Value)(l:List VrT)(s:RS),jve L mD (zyb L) U l s/\l.length<=s.v+1/\kxd w P v L w.heap.size (w.heap.size+1) y0 y1 x (.slice none 0 0) (.slice none 0 0) ⟨l0,l1,l,[],[]⟩ s u):=⟨_,λ_=>Iff.rfl⟩;have aE:=oz ((aP _).2 ⟨xv,[ev],((zyb L) s1).2,by rw[<-bM,show T.2=s1 from aY];exact zw7 (λhb=>vvy hb) (λhb=>xvi L s1) a5,ay,aS⟩:R2 wc);clear c f a5;go_wp2;go_loopw [] (λwr=>R2 wr) (λwr=>L.length-zx2 wr P);exact aE;obtain⟨y2,l2,X,b9,B,a9⟩:=(aP _).1 hrel;have c:=a9.pd.lt;go_wp21;refine(qzj mD ak a9.pd).mono ?_;rintro e bX ⟨rfl,W,C⟩;have q:=a9.kept' C W aj aj;cases f:zk L mD X
   ·obtain⟨(aZ:Hid _),(bH:Hid _)⟩:=jvv b9 f;clear B;go_upto_region 9 with fail
    go_cut [] from 38 to 44 (λwx=>∃(x:Value)(e:PRule),(((kjr L) X).2.s=false->e=((kjr L) X).1)/\kxd w P v L w.heap.size (w.heap.size+1) y0 y1 y2 x (.slice none 0 0) ⟨l0,l1,l2,[e],[]⟩ ((kjr L) X).2 wx)
    case first=>
     have q2:=jl q.b1;have a6:=wQ q.b1;go_region_law (first
      |(refine apL (O.alloc _) (Xk E _) ?_ (h1:=sJ.2 Q);intro gg cap w6 d b t J;have r6:=jl<|a.b1g b h)
      |(go_simp;go_at_call 150;refine(jkz<|q.pd.below (bR.drew)).mono ?_;rintro e E ⟨c0,c1,c2,c3,c4,rr,rfl,D,(Q:Hid _),(Y:Hid _),I,m⟩;have a:=q.kept' ((Kept.refl _ _).drew.trans m) I aj aj;have q5:=jl a.b1;have h:=jo a.md.o3.choose_spec.1;have K:=wQ a.b1;obtain⟨aM,O,M⟩:=a.md.o3;have N:=D.mono (lo':=w.heap.size+1+1) (by have:=wQ q.b1;simp;omega) ;dsimp only))
     all_goals
      go_wp2;go_meet
      exact⟨_,_,Y,a.more3 b d M N Z hX rfl aj⟩
    case rest=>
    obtain⟨xv,ev,a5,aS⟩:=hcut;obtain⟨R3,aQ⟩:∃R:World->Prop,Hid (∀u,R u↔∃(x:Value)(l:List PRule)(s:RS),jve L nX (kjr L) F l s/\l.length<=s.v+1/\kxd w P v L w.heap.size (w.heap.size+1) y0 y1 y2 x (.slice none 0 0) ⟨l0,l1,l2,l,[]⟩ s u):=⟨_,λ_=>Iff.rfl⟩;have aF:=oz ((aQ _).2 ⟨xv,[ev],((kjr L) X).2,by rw[<-bN,show U.2=X from aZ];exact zw7 (λhb=>jwl hb) (λhb=>xw8 L X) a5,ay,aS⟩:R3 wc);clear c f a5;go_wp2;go_loopw [] (λwr=>R3 wr) (λwr=>L.length-zx2 wr P);exact aF;obtain⟨y3,l3,s3,bA,B,aA⟩:=(aQ _).1 hrel;have c:=aA.pd.lt;go_wp21;refine(qzj nX ak aA.pd).mono ?_;rintro e bQ ⟨rfl,W,C⟩;have y:=aA.kept' C W aj aj;cases f:zk L nX s3
    ·obtain⟨(b2:Hid _),(bI:Hid _)⟩:=jvv bA f;clear B;obtain⟨R4,aR⟩:∃R:World->Prop,Hid (∀u,R u↔∃(x:Value)(l:List PRule)(s:RS),jzi L nK (kzw L) bD l s/\l.length<=s.v/\kxd w P v L w.heap.size (w.heap.size+1) y0 y1 y2 y3 x ⟨l0,l1,l2,l3,l⟩ s u):=⟨_,λ_=>Iff.rfl⟩;have aG:=oz ((aR _).2 ⟨_,[],s3,by rw[<-show F.2=s3 from b2];exact b6,ay,y⟩:R4 bQ);clear c f;go_wp2;go_loopw [] (λwr=>R4 wr) (λwr=>L.length-zx2 wr P);exact aG;obtain⟨y4,l4,s4,bB,B,aB⟩:=(aR _).1 hrel;have c:=aB.pd.lt;go_wp21;refine(qzj nK ak aB.pd).mono ?_;rintro e bY ⟨rfl,W,C⟩;have g:=aB.kept' C W aj aj;cases f:zk L nK s4
     ·obtain⟨(b3:Hid _),(bJ:Hid _)⟩:=zvx bB c f;clear B;have d0:=jl g.b0;have g0:=jl g.b1;have bO:=qws g.md;obtain⟨⟨a0,n0,k0,rfl⟩,⟨a1,n1,k1,rfl⟩,⟨a2,n2,k2,rfl⟩,⟨a3,n3,k3,rfl⟩,⟨a4,n4,k4,rfl⟩⟩:=bO;go_wp2;refine kx0 results88 underlying68 (kxy g.b0) ?_;refine⟨_,_,_,_,_,⟨l0,l1,l2,l3,l4⟩,rfl,?_,?_,?_,g.kept.ky7 jH _ _ _ _ _,⟨⟨_,_,_,rfl⟩,⟨_,_,_,rfl⟩,⟨_,_,_,rfl⟩,⟨_,_,_,rfl⟩,⟨_,_,_,rfl⟩⟩⟩
      ·exact(g.md.stay ((kjz.refl (w.heap.size+1+1) _).ky7 (.inl aj) _ _ _ _ _).block).mono aj
      ·have hT:=jxo aK aH aL aJ aI;intro hb;rw[hT.1]at hb;have bR:F.2.s=false:=by
        cases V:F.2.s
        ·rfl
        ·rw[aI,kyl V]at hb;simp only at hb;rw[V]at hb;cases hb
       have bV:U.2.s=false:=by
        cases V:U.2.s
        ·rfl
        ·rw[aJ,kyn V]at bR;simp only at bR;rw[V]at bR;cases bR
       have bK:T.2.s=false:=by
        cases V:T.2.s
        ·rfl
        ·rw[aL,kyn V]at bV;simp only at bV;rw[V]at bV;cases bV
       have bS:G.2.s=false:=by
        cases V:G.2.s
        ·rfl
        ·rw[aH,kyl V]at bK;simp only at bK;rw[V]at bK;cases bK
       have q0:=bF (by rw[<-aX];exact bS);have q1:=bG (by rw[<-aY];exact bK);have q2:=bH (by rw[<-aZ];exact bV);have q3:=bI (by rw[<-b2];exact bR);have q4:=bJ (by rw[<-b3];exact hb);rw[<-q0,<-q1,<-q2,<-q3,<-q4];show(⟨_,_,_,_,_⟩:MdL)=⟨(kzb L kqa).1,(kzb L kqa).2.1,(kw9 L).1.map jw,(kyq L).1,(kwh L).1⟩;rw[hT.1,hT.2.1,<-hT.2.2.2.1,hT.2.2.2.2,hT.2.2.1]
      ·have hT:=jxo aK aH aL aJ aI;rw[hT.1,b3];exact g.pd.ky7 Z hX jH _ _ _ _ _
     ·have j:=kz9 hL c f;have k:=zzs f;obtain⟨xa,xl,xc,rfl⟩:=qh g.md.o4.choose_spec.1;go_wp2;have q2:=jl g.b1;have a6:=wQ g.b1;go_region_law (first
       |(refine apL (O.alloc _) (Xk E _) ?_ (h1:=sJ.2 Q);intro gg cap w6 d b t J;have r6:=jl<|a.b1g b h)
       |(go_simp;go_at_call 151;refine(vvd<|g.pd.below (bR.drew)).mono ?_;rintro e E ⟨c0,c1,c2,c3,rr,rfl,D,(Q:Hid _),(Y:Hid _),I,m⟩;have a:=g.kept' ((Kept.refl _ _).drew.trans m) I aj aj;have q5:=jl a.b1;have h:=jo a.md.o4.choose_spec.1;have K:=wQ a.b1;obtain⟨aM,O,M⟩:=a.md.o4;have N:=D.mono (lo':=w.heap.size+1+1) (by have:=wQ g.b1;simp;omega) ;dsimp only))
      all_goals
       have i:=a.more4 b d M N Z hX rfl aj;obtain⟨z,A⟩:=ju (qqq aB.pd i.pd j.1 j.2<|λ_=>k) ((aR _).2 ⟨_,_,_,zz1 bB c f k<|Y,ah,i⟩);clear t;go_wp2;exact⟨A,z⟩
    ·have j:=kz9 hL c f;have k:=xw7 f;obtain⟨xa,xl,xc,rfl⟩:=qh y.md.o3.choose_spec.1;go_wp2;have q2:=jl y.b1;have a6:=wQ y.b1;go_region_law (first
      |(refine apL (O.alloc _) (Xk E _) ?_ (h1:=sJ.2 Q);intro gg cap w6 d b t J;have r6:=jl<|a.b1g b h)
      |(go_simp;go_at_call 150;refine(jkz<|y.pd.below (bR.drew)).mono ?_;rintro e E ⟨c0,c1,c2,c3,c4,rr,rfl,D,(Q:Hid _),(Y:Hid _),I,m⟩;have a:=y.kept' ((Kept.refl _ _).drew.trans m) I aj aj;have q5:=jl a.b1;have h:=jo a.md.o3.choose_spec.1;have K:=wQ a.b1;obtain⟨aM,O,M⟩:=a.md.o3;have N:=D.mono (lo':=w.heap.size+1+1) (by have:=wQ y.b1;simp;omega) ;dsimp only))
     all_goals
      have i:=a.more3 b d M N Z hX rfl aj;obtain⟨z,A⟩:=ju (qqq aA.pd i.pd j.1 j.2<|λ_=>k) ((aQ _).2 ⟨_,_,_,jje bA c f (λ_=>k)<|Y,ah,i⟩);clear t;go_wp2;exact⟨A,z⟩
   ·have j:=kz9 hL c f;have k:=xve f;obtain⟨xa,xl,xc,rfl⟩:=qh q.md.o2;go_wp2;have q2:=jl q.b1;go_region_law (first
     |(refine apL (news:=(kjs<|vrT L X)) (a.md.o2.alloc _) (Xk E _) ?_;intro gg cap w6 d b t J;have r6:=jl<|a.b1g b h)
     |(go_simp;go_at_call 149;refine(zqs<|q.pd.below (bR.drew)).mono ?_;rintro e E ⟨rfl,I,m⟩;have a:=q.kept' ((Kept.refl _ _).drew.trans m) I aj aj;have q5:=jl a.b1;have h:=jo a.md.o2;have K:=wQ a.b1;unfold vrV kjs ;dsimp only))
    all_goals
     have i:=a.more2 (e:=vrT L X) b d Z hX rfl aj;obtain⟨z,A⟩:=ju (qqq a9.pd i.pd j.1 j.2<|λ_=>k) ((aP _).2 ⟨_,_,_,jje b9 c f (λ_=>k) (λhb=>by unfold zyb;exact vqx hL hF c hb),ah,i⟩);clear t;go_wp2;exact⟨A,z⟩
  ·have j:=kz9 hL c f;have k:=zvs f;obtain⟨xa,xl,xc,rfl⟩:=qh p.md.o1.choose_spec.1;go_wp2;have q2:=jl p.b1;have a6:=wQ p.b1;go_region_law (first
    |(refine apL (O.alloc _) (Xk E _) ?_;intro gg cap w6 d b t J;have r6:=jl<|a.b1g b h)
    |(go_simp;go_at_call 148;refine(pzp<|p.pd.below (bR.drew)).mono ?_;rintro e E ⟨xk,lk,rfl,bC,(bL:Hid _),I,m,bU⟩;obtain⟨ma,mn,mc,rfl⟩:=qh bC;have a:=p.kept' ((Kept.refl _ _).drew.trans m) I aj aj;have q5:=jl a.b1;have h:=jo a.md.o1.choose_spec.1;have K:=wQ a.b1;obtain⟨aM,O,M⟩:=a.md.o1;have N:=show kvp (w.heap.size+1+1) E [⟨(kxz L s1).1.y,lk⟩] [Value.string (kxz L s1).1.y.x,.int .i64 (kxz L s1).1.y.v,.slice ma mn mc] from⟨ma,mn,mc,[],rfl,qo (by have:=wQ p.b1;simp;omega) bC,rfl⟩ ;dsimp only))
   all_goals
    have i:=a.more1 b d M N Z hX rfl aj;obtain⟨z,A⟩:=ju (qqq a8.pd i.pd j.1 j.2<|λ_=>k) ((aO _).2 ⟨_,_,_,zz1 b8 c f k (λhb=>by rw[bL hb]),ah,i⟩);clear t;go_wp2;exact⟨A,z⟩
 ·have j:=kz9 hL c f;have k:=jqd f;obtain⟨xa,xl,xc,rfl⟩:=qh S.md.o0;go_wp2;have q2:=jl S.b1;go_region_law (first
   |(refine apL (news:=(zjw (kvc L s0).1)) (a.md.o0.alloc _) (Xk E _) ?_;intro gg cap w6 d b t J;have r6:=jl<|a.b1g b h)
   |(go_simp;go_at_call 147;refine(pwj<|S.pd.below (bR.drew)).mono ?_;rintro e E ⟨rfl,I,m⟩;have a:=S.kept' ((Kept.refl _ _).drew.trans m) I aj aj;have q5:=jl a.b1;have h:=jo a.md.o0;have K:=wQ a.b1;unfold stV ;dsimp only))
  all_goals
   have i:=a.more0 (e:=(kvc L s0).1) b d Z hX rfl aj;obtain⟨z,A⟩:=ju (qqq a7.pd i.pd j.1 j.2<|λ_=>k) ((aN _).2 ⟨_,_,_,zz1 b7 c f k (λ_=>rfl),ah,i⟩);clear t;go_wp2;exact⟨A,z⟩
theorem kqn{b:Program}{g4:Func}{g6 g7 g8:Tmp}{g9:TypeId}(h:g4.results=#[.cell g6 g9,.tmp g7,.tmp g8])(a:Array Value)(w:World)(g:Nat)(t:TypeId)(cs:Array Value)(fr:Nat×Nat)(d:TypeDesc)(j:a.getD g6 undef=.pointer (some ⟨g,0,none⟩))(f:w.heap[g]?=some (.cells cs t fr))(hu:b.underlying g9=some d)(e:(match d with|.struct _|.array _ _=>true|_=>false)=true)(hi:(b.info? g9).map (·.size)=some cs.size):(results g4 a).run b w=.ok (.tuple #[.agg cs,a.getD g7 undef,a.getD g8 undef]) w:=by
 have c:a[g6]?.getD undef=.pointer (some ⟨g,0,none⟩):=by simp_all
 simp[results,h,c,asAddr,run_loadVar_row w g t g9 cs fr d f hu e hi]
theorem Pw.away(h:Pw w P v L r)(hb:P≠lo)(hv:v.ownBlock≠some lo)(u:Value):Pw (w.setCell ⟨lo,k,none⟩ u) P v L r:=
 ⟨by rw[jz hb];exact h.pd,ownsRow_setCell_other h.xu hv u,h.ne,h.ok,h.lt⟩
theorem Pw.xxi(h:Pw w P v L r)(hb:P≠lo)(hv:v.ownBlock≠some lo)(y0 y1 y2 y3 y4:Value):Pw (((((w.setCell ⟨lo,0,none⟩ y0).setCell ⟨lo,1,none⟩ y1).setCell ⟨lo,2,none⟩ y2).setCell ⟨lo,3,none⟩ y3).setCell ⟨lo,4,none⟩ y4) P v L r:=
 ((((h.away hb hv y0).away hb hv y1).away hb hv y2).away hb hv y3).away hb hv y4
def ql(t:PTree):MdL:=⟨t.j,t.p,t.z.map jw,t.l,t.q⟩
def xvl(L:List Tok)(w:World)(e:Ending)(w':World):Prop:=
 oq w w'/\(((uz L).2=none/\∃x0 x1 x2 x3 x4,e=.returned (.tuple #[.agg #[x0,x1,x2,x3,x4],.int .i64 0,.bool true])/\kwm w.heap.size w' x0 x1 x2 x3 x4 (ql (uz L).1)) \/
  ∃k:Nat,(uz L).2=some k/\e=.returned (.tuple #[.agg #[.slice none 0 0,.slice none 0 0,.slice none 0 0,.slice none 0 0,.slice none 0 0],.int .i64 k,.bool false]))
theorem jk5(L:List Tok):(uz L).2=if (kwh L).2.s||!((tk L (kwh L).2.v).t.toList==nG) then some (tk L (kwh L).2.v).v else none:=rfl
theorem parse_any(q:kq6 L)(D:w.ownsRow 0 194 2 v L.length (kjq L)):Calls prog 52 #[v] w λe w'=>xvl L w e w':=by
 have O:=oz<|kq9 D;have t:=q.pos;obtain⟨va,u,vc,rfl⟩:=qh D;have K:Pd ((w.alloc<|.cells #[.slice none 0 0,.slice none 0 0,.slice none 0 0,.slice none 0 0,.slice none 0 0] 68).alloc<|.cells #[.slice va u vc,.int .i64 0,.int .i64 0,.bool false,.int .i64 0] 196) (w.heap.size+1) (.slice va u vc) L kqa:=by
  refine⟨⟨0,0,false,0⟩,⟨?_,(D.alloc _).alloc _,?_,q,t⟩,⟨t,by simp[kqa],by simp[kqa],λ_=>⟨rfl,rfl,rfl,rfl⟩,λh=>ig⟩⟩
  ·have:=qy (w:=w.alloc<|.cells #[.slice none 0 0,.slice none 0 0,.slice none 0 0,.slice none 0 0,.slice none 0 0] 68) (o:=.cells #[.slice va u vc,.int .i64 0,.int .i64 0,.bool false,.int .i64 0] 196);simp_all
  grind [ku]
 go_in;go_wp21;refine(vvm q.jz4 K).mono ?_;rintro e Q ⟨x0,x1,x2,x3,x4,m,rfl,H,(I:Hid _),h1,z,⟨a0,n0,k0,rfl⟩,⟨a1,n1,k1,rfl⟩,⟨a2,n2,k2,rfl⟩,⟨a3,n3,k3,rfl⟩,⟨a4,n4,k4,rfl⟩⟩;have y:=oz<|z.e (b:=w.heap.size) aj (zy<|qy);have d0:=jl y;have T:=h1.in;have E:=(((Kept.refl (w.heap.size+1) w).alloc _).alloc _).trans z;have d:=oz<|jk5 L;obtain⟨r,x,c⟩:=h1;generalize (kwh L).2=g at *;have M:((tk L r.Y).x.toList==[])=(g.s||((tk L g.v).t.toList==nG)):=by
  cases hb:g.s
  ·rw[((ku c).M hb).2.1,(q.ok _ (ku c).lt).fin];rfl
  ·rw[((ku c).s hb).2.1,q.lastText];rfl
 go_wp21;clear d0;have C:(Value.slice va u vc).ownBlock≠some w.heap.size:=λe=>by have:=ku O _ e;omega
 refine(vwb ⟨#[]⟩<|x.xxi aj C _ _ _ _ _).mono ?_;rintro e R ⟨rfl,i⟩;rw[show(⟨#[]⟩:ByteArray).toList=[] from jh [],M];have l:=(x.xxi aj C (.slice a0 n0 k0) (.slice a1 n1 k1) (.slice a2 n2 k2) (.slice a3 n3 k3)<|.slice a4 n4 k4).below i;have f:=oz<|(i.block w.heap.size jQ).trans (kxy y (y0:=.slice a0 n0 k0) (y1:=.slice a1 n1 k1) (y2:=.slice a2 n2 k2) (y3:=.slice a3 n3 k3) (y4:=.slice a4 n4 k4));have j:=(E.ky7 (b:=w.heap.size) jH (.slice a0 n0 k0) (.slice a1 n1 k1) (.slice a2 n2 k2) (.slice a3 n3 k3)<|.slice a4 n4 k4).trans<|.of_below i;have G:=(H.stay ((kjz.refl _ Q).ky7 (b:=w.heap.size) (.inl ah) (.slice a0 n0 k0) (.slice a1 n1 k1) (.slice a2 n2 k2) (.slice a3 n3 k3)<|.slice a4 n4 k4).block).stay (λk _ P=>i.block k P);clear M;cases a:g.s
 ·cases s:((tk L g.v).t.toList==nG)
  ·rw[a,s]at d;go_wp21;refine(qkt l).mono ?_;rintro e w3 ⟨rfl,N,A⟩;have B:(kv9 L r).N=(tk L g.v).v:=by unfold kv9;rw[((ku c).M a).1,((ku c).M a).2.1];rfl
   obtain⟨c0,c1,c2,c3,c4,_⟩:=qzi N.pd;rw[B]at c4;rw[show(kv9 L r).failed=true from rfl]at c3;have p:=oz<|A.e (b:=w.heap.size) aj f;have d0:=jl p;have S:=wQ p;have F:=j.trans A;clear B;go_wp2
   go_region
   all_goals
    go_wp2;refine tK (v:=.tuple #[.agg #[.slice none 0 0,.slice none 0 0,.slice none 0 0,.slice none 0 0,.slice none 0 0],.int .i64 (tk L g.v).v,.bool false]) ?_ rfl ?_
    ·have:=kxy p (y0:=.slice none 0 0) (y1:=.slice none 0 0) (y2:=.slice none 0 0) (y3:=.slice none 0 0) (y4:=.slice none 0 0);exact kqn results52 _ _ w.heap.size _ _ _ _ rfl this underlying68 rfl au
    ·exact⟨Kept.toBelow (F.ky7 (b:=w.heap.size) jH _ _ _ _ _).drew aj<|jH,.inr ⟨_,d,rfl⟩⟩
  ·rw[a,s]at d;obtain⟨c0,c1,c2,c3,c4,_⟩:=qzi l.pd;rw[((ku c).M a).1]at c3;have d0:=jl f;have J:=oz<|I a;go_wp2
   refine tK (v:=.tuple #[.agg #[.slice a0 n0 k0,.slice a1 n1 k1,.slice a2 n2 k2,.slice a3 n3 k3,.slice a4 n4 k4],.int .i64 0,.bool true]) (kqn results52 _ _ w.heap.size _ _ _ _ rfl (kxy f) underlying68 rfl au) rfl ?_;refine⟨Kept.toBelow (j.ky7 (b:=w.heap.size) jH _ _ _ _ _) aj<|jH,.inl ⟨d,_,_,_,_,_,rfl,?_⟩⟩;rw[show ql (uz L).1=m from(ku J).symm];exact(G.stay ((kjz.refl _ R).ky7 (b:=w.heap.size) (.inl ah) _ _ _ _ _).block).mono ah
 ·rw[a]at d;obtain⟨c0,c1,c2,c3,c4,_⟩:=qzi l.pd;rw[((ku c).s a).1]at c3;rw[((ku c).s a).2.2]at c4;have d0:=jl f;go_wp2;go_region
  all_goals
   go_wp2;refine tK (v:=.tuple #[.agg #[.slice none 0 0,.slice none 0 0,.slice none 0 0,.slice none 0 0,.slice none 0 0],.int .i64 (tk L g.v).v,.bool false]) ?_ rfl ?_
   ·have:=kxy f (y0:=.slice none 0 0) (y1:=.slice none 0 0) (y2:=.slice none 0 0) (y3:=.slice none 0 0) (y4:=.slice none 0 0);exact kqn results52 _ _ w.heap.size _ _ _ _ rfl this underlying68 rfl au
   ·exact⟨Kept.toBelow (j.ky7 (b:=w.heap.size) jH _ _ _ _ _).drew aj<|jH,.inr ⟨_,d,rfl⟩⟩
section
def yx{α:Type}(f:Int->Nat->α->Int):List α->Nat->Int->Int
 |[],_,a=>a
 |x::xs,i,a=>yx f xs (i+1)<|f a i x
def pqn(a:Int)(i:Nat)(s:PSet):Int:=xu (xu a (qkz i 2 s.y)) (vji s.size 2 3)
def pqs(a:Int)(i:Nat)(m:Tok):Int:=xu a (qkz i 4 m)
def vzu(a:Int)(i:Nat)(k:PKind):Int:=yx pqs k.i 0 (xu a (qkz i 2 k.y))
def zw3(a:Int)(i:Nat)(v:PVar):Int:=if v.R.t.toList==mW then xu (xu a (qkz i 4 v.y)) (vji v.R 1 3) else xu a (qkz i 4 v.y)
def vzy(a:Int)(i:Nat)(r:PRule):Int:=xu a (qkz i 5 r.y)
def manyN(a:Int)(i:Nat)(r:PRule):Int:=xu a (qkz i 3 r.y)
def pql(a:Int)(i:Nat)(p:PP):Int:=xu a (qkz i 2 p.y)
def jki(a:Int)(_:Nat)(r:PRule):Int:=yx pql r.u 0 a
def many1(t:PTree):Int:=yx pqn t.j 0 (-1)
def vzd(t:PTree):Int:=yx vzu t.p 0 (many1 t)
def vzp(t:PTree):Int:=yx zw3 t.z 0 (vzd t)
def vzg(t:PTree):Int:=yx vzy t.l 0 (vzp t)
def jv0(t:PTree):Int:=yx manyN t.q 0 (vzg t)
def kk7(t:PTree):Int:=yx jki (t.l++t.q) 0 (jv0 t)
def kjd{α:Type}(W:World)(f:Int->Nat->α->Int)(items:List α)(z:Int)(at_ i:Value)(wr:World):Prop:=
 ∃(k:Nat)(a:Int),k<=items.length/\i=.int .i64 k/\at_=.int .i64 a/\yx f (items.drop k) k a=yx f items 0 z/\oq W wr
theorem kjd.start(hb:oq W wr):kjd W f items z (.int .i64 z) (.int .i64 0) wr:=
 ⟨0,z,jR,rfl,rfl,rfl,hb⟩
theorem kjd.Y{b:Int}(c:k<items.length)(h:yx f (items.drop k) k a=yx f items 0 z)(hb:b=f a k items[k])(d:oq W wr):kjd W f items z (.int .i64 b) (.int .i64<|(k:Int)+1) wr:=by refine⟨k+1,b,c,eu,rfl,?_,d⟩;rw[rU c,yx]at h;rw[hb];exact h
theorem kqu(b:¬k<items.length)(h:yx f (items.drop k) k a=yx f items 0 z):a=yx f items 0 z:=by rw[Qa aj,yx]at h;exact h
def zz9(t:Tok):Prop:=∃h:0<t.x.size,48<=((t.x[0]'h).toNat:Int)/\((t.x[0]'h).toNat:Int)<=57
theorem vvk(b:∀j,j<b5.length*6->w.cell? ⟨g,j,none⟩=xs[j]?)(hi:dw lo w b5 xs)(c:k<b5.length):∃vp vg vb ps,
  (∀u,oq w u->u.cell? ⟨g,k*6,none⟩=some (.string b5[k].y.t)/\u.cell? ⟨g,k*6+1,none⟩=some (.string b5[k].y.x)/\u.cell? ⟨g,k*6+2,none⟩=some (.int .i64 b5[k].y.v)/\u.cell? ⟨g,k*6+3,none⟩=some vp/\u.cell? ⟨g,k*6+4,none⟩=some vg/\u.cell? ⟨g,k*6+5,none⟩=some vb) /\
  w.ownsRow lo 236 6 vp b5[k].u.length (kjm b5[k].u)/\yw lo w b5[k].guard vg/\w.ownsRow lo 245 1 vb ps.length ps/\jg lo none w b5[k].S ps:=by
 obtain⟨vp,vg,vb,ps,⟨f0,f1,f2,f3,f4,f5⟩,r⟩:=qji k c hi;have l:=λj x (h:xs[k*6+j]?=some x) (d:j<6) u (a:oq w u)=>wU a<|(b (k*6+j) aj).trans h
 exact⟨vp,vg,vb,ps,λu a=>⟨l 0 _ f0 aj u a,l 1 _ f1 aj u a,l 2 _ f2 aj u a,l 3 _ f3 aj u a,l 4 _ f4 aj u a,l 5 _ f5 aj u a⟩,r⟩
attribute [local simp] kwz ji kj7 kwf
theorem vqf(h:kqc w lo b6)(ht:TreeOk b6)(hr:b6.l.length<=801)(hn:b6.q.length<=801)(hp:∀r∈b6.l++b6.q,r.u.length<=801)(T:∀s∈b6.j,zz9 s.size)(U:∀v∈b6.z,(v.R.t.toList==mW)=true->zz9 v.R):Calls prog 62 #[.pointer (some ⟨lo,0,none⟩)] w λe w'=>e=.returned (.int .i64<|kk7 b6)/\oq w w':=by
 have HT:=oz h;obtain⟨aS,aP,aT,(a8:Hid _)⟩:=ht;obtain⟨x0,x1,x2,x3,x4,y1,y3,y4,W,h0,⟨h1,HK⟩,h2,⟨h3,a9⟩,⟨h4,aA⟩⟩:=h;have C:=oz λ(u:World)(hu:oq w u)=>kzk<|(hu.block lo<|wQ W).trans W
 obtain⟨a0,aK,rfl,(aB:Hid _)⟩:=kq8 h0;obtain⟨a1,aL,rfl,(aC:Hid _)⟩:=kq8 h1;obtain⟨a2,aM,rfl,(aD:Hid _)⟩:=kq8 h2;obtain⟨a3,aN,rfl,(aE:Hid _)⟩:=kq8 h3;obtain⟨a4,aO,rfl,(aF:Hid _)⟩:=kq8 h4;obtain⟨a6,a7,HP⟩:=jp T U hp;clear W T U hp;go_in;go_wp21;go_loopw [3,4] (λat_ i wr=>kjd w pqn b6.j (-1) at_ i wr) (λ_ i _=>b6.j.length-(intOf i).toNat);exact kjd.start<|bR;obtain⟨k,a,A,rfl,rfl,m,l⟩:=hrel;have y:=l.size;have q:=(ku C) wr l;by_cases c:k<b6.j.length
 ·obtain⟨g,rfl,x⟩:=ku aB k c;have e:=fam x (λ_=>rfl) c l;go_wp21;refine(qz1 2 (b6.j[k]).y).mono ?_;rintro e u ⟨rfl,hb⟩;have p:=l.trans<|hb.mono y;have H:=p.size;go_wp21
  refine(first_any).mono ?_;rintro e u' ⟨rfl,rfl⟩;have q1:=(ku C) _ p;have e1:=fam x (λ_=>rfl) c p;go_wp21;refine(pqu (b6.j[k]).size 2 3<|a6 _ (wZ c)).mono ?_;rintro e v ⟨rfl,hb⟩;have B:=p.trans<|hb.mono H;go_wp21
  refine(first_any).mono ?_;rintro e X ⟨rfl,rfl⟩;go_wp2;exact rdM<|kjd.Y (f:=pqn) c m rfl B
 ·have F:=show kjd w vzu b6.p (many1 b6) (.int .i64 a) (.int .i64 0) wr from kqu c m▸kjd.start l
  go_wp21;clear m q y;go_loopw [3,5,6] (λat_ i _ wr=>kjd w vzu b6.p (many1 b6) at_ i wr) (λ_ i _ _=>b6.p.length-(intOf i).toNat);exact F;obtain⟨k,a,A,rfl,rfl,m,l⟩:=hrel;have y:=l.size;have q:=(ku C) wr l;by_cases c:k<b6.p.length
  ·obtain⟨g,rfl,x⟩:=ku aC k c;obtain⟨vm,f0,f1,f2,f3,hm⟩:=qz8 k c HK;have e0:=wU l<|(x (k*4) aj).trans f0;have e1:=wU l<|(x (k*4+1) aj).trans f1;have e2:=wU l<|(x (k*4+2) aj).trans f2;have Z:=oz<|(x (k*4+3) aj).trans f3;have aQ:=ku a8 _<|wZ c;obtain⟨ma,mc,rfl,(I:Hid _)⟩:=kq8 hm;clear x f0 f1 f2 f3;go_wp21
   refine(qz1 2 (b6.p[k]).y).mono ?_;rintro e u ⟨rfl,hb⟩;have p:=l.trans<|hb.mono y;have H:=p.size;go_wp21
   refine(first_any).mono ?_;rintro e u' ⟨rfl,rfl⟩;have c3:=wU p Z;go_wp21;go_loopw [3,6] (λat_ i wr=>kjd w pqs (b6.p[k]).i (xu a<|qkz k 2 (b6.p[k]).y) at_ i wr) (λ_ i _=>(b6.p[k]).i.length-(intOf i).toNat);exact kjd.start p;obtain⟨j,b,aH,rfl,rfl,D,t⟩:=hrel;have Y:=t.size;have qi:=(ku C) wr t;have ci:=wU t Z;by_cases z:j<(b6.p[k]).i.length
   ·obtain⟨gm,rfl,K⟩:=ku I j z;have d:=fam K (λ_=>rfl) z t;go_wp21;refine(qz1 4<|(b6.p[k]).i[j]).mono ?_;rintro e v ⟨rfl,hb⟩;have B:=t.trans<|hb.mono Y;have zv:=B.size;go_wp21
    refine(first_any).mono ?_;rintro e X ⟨rfl,rfl⟩;go_wp2;exact rdM<|kjd.Y (f:=pqs) z D rfl B
   ·have J:=kjd.Y (f:=vzu) c m (kqu z D) t;go_wp2;exact rdM J
  ·have F:=show kjd w zw3 b6.z (vzd b6) (.int .i64 a) (.int .i64 0) wr from kqu c m▸kjd.start l
   go_wp21;clear m q y;go_loopw [3,7] (λat_ i wr=>kjd w zw3 b6.z (vzd b6) at_ i wr) (λ_ i _=>b6.z.length-(intOf i).toNat);exact F;obtain⟨k,a,A,rfl,rfl,m,l⟩:=hrel;have y:=l.size;have q:=(ku C) wr l;by_cases c:k<b6.z.length
   ·obtain⟨g,rfl,x⟩:=ku aD k c;have e:=fam x (λ_=>rfl) c l;cases V:((b6.z[k]).R.t.toList==mW);all_goals
     go_wp21;refine(qz1 4 (b6.z[k]).y).mono ?_;rintro e u ⟨rfl,hb⟩;have p:=l.trans<|hb.mono y;have H:=p.size;go_wp21
     refine(first_any).mono ?_;rintro e u' ⟨rfl,rfl⟩;have q1:=(ku C) _ p;have e1:=fam x (λ_=>rfl) c p
    ·go_wp2;exact rdM (kjd.Y (f:=zw3) c m (by rw[zw3,V];rfl) p)
    ·go_wp21;refine(pqu (b6.z[k]).R 1 3<|a7 _ (wZ c) V).mono ?_;rintro e v ⟨rfl,hb⟩;have B:=p.trans<|hb.mono H;go_wp21
     refine(first_any).mono ?_;rintro e X ⟨rfl,rfl⟩;go_wp2;exact rdM (kjd.Y (f:=zw3) c m (by rw[zw3,V];rfl) B)
   ·have F:=show kjd w vzy b6.l (vzp b6) (.int .i64 a) (.int .i64 0) wr from kqu c m▸kjd.start l
    go_wp21;clear m q y;go_loopw [3,8] (λat_ i wr=>kjd w vzy b6.l (vzp b6) at_ i wr) (λ_ i _=>b6.l.length-(intOf i).toNat);exact F;obtain⟨k,a,A,rfl,rfl,m,l⟩:=hrel;have y:=l.size;have q:=(ku C) wr l;by_cases c:k<b6.l.length
    ·obtain⟨g,rfl,x⟩:=ku aE k c;obtain⟨_,_,_,_,E,_⟩:=vvk x a9 c;have e:=E wr l;clear E;go_wp21;refine(qz1 5 (b6.l[k]).y).mono ?_;rintro e u ⟨rfl,hb⟩;have p:=l.trans<|hb.mono y;have H:=p.size;go_wp21
     refine(first_any).mono ?_;rintro e u' ⟨rfl,rfl⟩;go_wp2;exact rdM<|kjd.Y (f:=vzy) c m rfl p
    ·have F:=show kjd w manyN b6.q (vzg b6) (.int .i64 a) (.int .i64 0) wr from kqu c m▸kjd.start l
     go_wp21;clear m q y;go_loopw [3,9] (λat_ i wr=>kjd w manyN b6.q (vzg b6) at_ i wr) (λ_ i _=>b6.q.length-(intOf i).toNat);exact F;obtain⟨k,a,A,rfl,rfl,m,l⟩:=hrel;have y:=l.size;have q:=(ku C) wr l;by_cases c:k<b6.q.length
     ·obtain⟨g,rfl,x⟩:=ku aF k c;obtain⟨_,_,_,_,E,_⟩:=vvk x aA c;have e:=E wr l;clear E;go_wp21;refine(qz1 3 (b6.q[k]).y).mono ?_;rintro e u ⟨rfl,hb⟩;have p:=l.trans<|hb.mono y;have H:=p.size;go_wp21
      refine(first_any).mono ?_;rintro e u' ⟨rfl,rfl⟩;go_wp2;exact rdM<|kjd.Y (f:=manyN) c m rfl p
     ·have L:=kqu c m;go_wp21;refine(qk3 (HT.below l) hr hn).mono ?_;rintro e w4 ⟨rv,rs,rfl,N,Q,aG⟩;have O:=l.trans<|aG.mono y;obtain⟨ra,rc,rfl,(S:Hid _)⟩:=kq8 N;have P:=show kjd w4 jki (b6.l++b6.q) (jv0 b6) (.int .i64 a) (.int .i64 0) w4 from L▸kjd.start bR
      have R:=oz (show kk7 b6=yx jki (b6.l++b6.q) 0 (jv0 b6) from rfl);have aJ:(b6.l++b6.q).length<=1602:=lg;clear L m q y c A;generalize b6.l++b6.q=G at P Q S aJ HP R |-;go_wp21
      go_loopw [3,11,12] (λat_ i _ wr=>kjd w4 jki G (jv0 b6) at_ i wr) (λ_ i _ _=>G.length-(intOf i).toNat);exact P;obtain⟨k,a,A,rfl,rfl,m,l⟩:=hrel;by_cases c:k<G.length
      ·obtain⟨g,rfl,x⟩:=ku S k c;obtain⟨vp,_,_,_,(M:Hid _),aI,_⟩:=vvk x Q c;have e:=M wr l;have aR:=ku HP _<|wZ c;obtain⟨ma,mc,rfl,(I:Hid _)⟩:=kq8 aI;clear x;go_wp21
       go_loopw [3,12] (λat_ i wr=>kjd w4 pql (G[k]).u a at_ i wr) (λ_ i _=>(G[k]).u.length-(intOf i).toNat);exact kjd.start l;clear e;obtain⟨j,b,aH,rfl,rfl,D,t⟩:=hrel;have Y:=t.size;have e:=(ku M) wr t;by_cases z:j<(G[k]).u.length
       ·obtain⟨gm,rfl,K⟩:=ku I j z;have d:=fam K (λ_=>rfl) z t;go_wp21;refine(qz1 2 ((G[k]).u[j]).y).mono ?_;rintro e v ⟨rfl,hb⟩;have B:=t.trans<|hb.mono Y;have zv:=B.size;go_wp21
        refine(first_any).mono ?_;rintro e X ⟨rfl,rfl⟩;go_wp2;exact rdM<|kjd.Y (f:=pql) z D rfl B
       ·have J:=kjd.Y (f:=jki) c m (kqu z D) t;go_wp2;exact rdM J
      ·have M:=oz (by rw[ku R];exact kqu c m:a=kk7 b6);have a5:=O.trans<|l.mono O.size;go_wp2
       go_ret;exact⟨kqi M,a5⟩
end
def fAt(z:Int):Int:=if z<0 then 0 else z
def qx0(w:World)(B o:Nat)(z a:Int):World:=if z<0\/a<z then (w.setCell ⟨B,o,none⟩ (.bool true)).setCell ⟨B,o+1,none⟩ (.int .i64 a) else w
theorem note_any{o:Nat}(a:Int)(c0:w.cell? ⟨B,o,none⟩=some (.bool (decide (0<=z))))(c1:w.cell? ⟨B,o+1,none⟩=some (.int .i64 (fAt z)))(f0:w.frozen? ⟨B,o,none⟩=false)(f1:w.frozen? ⟨B,o+1,none⟩=false):Calls prog 212 #[.pointer (some ⟨B,o,none⟩),.int .i64 a] w λe w'=>e=.returned (.tuple #[])/\w'=qx0 w B o z a:=by
 by_cases c:z<0
 ·have E:=oz (by unfold qx0;simp_all:qx0 w B o z a=(w.setCell ⟨B,o,none⟩<|.bool true).setCell ⟨B,o+1,none⟩ (.int .i64 a));rw[show decide (0<=z)=false by simp_all]at c0;go_wp2;go_end0;rw[ku E];simp
 ·rw[show decide (0<=z)=true by simp_all]at c0;rw[show fAt z=z by unfold fAt;omega]at c1;by_cases b:a<z
  ·have E:=oz (by unfold qx0;simp_all:qx0 w B o z a=(w.setCell ⟨B,o,none⟩<|.bool true).setCell ⟨B,o+1,none⟩ (.int .i64 a));go_wp2;go_end0;rw[ku E];simp
  ·have E:=oz (by unfold qx0;grind:qx0 w B o z a=w);go_wp2;go_end0;rw[ku E];simp
def FB(w:World)(B:Nat)(z:Int):Prop:=w.heap[B]?=some (.cells #[.bool (decide (0<=z)),.int .i64 (fAt z)] 199 (0,0))
theorem zwq(z a:Int)(b:0<=a):xu z a=if z<0\/a<z then a else z:=by grind [xu]
theorem FB.note(h:FB w B z)(c:0<=a):FB (qx0 w B 0 z a) B (xu z a):=by
 unfold FB at *;rw[zwq z a c];unfold qx0;by_cases b:z<0\/a<z
 ·rw[lJ b,lJ b];have:=set2 h (m:=.bool true) (n:=.int .i64 a);rw[show decide (0<=a)=true by simp_all,show fAt a=a by unfold fAt;omega];exact this
 grind
theorem Kept.note(B o:Nat)(w:World)(z a:Int):Kept B w (qx0 w B o z a):=by grind [qx0,Kept.refl,kzr]
theorem FB.kept(h:FB w B z)(hb:oq w w'):FB w' B z:=by unfold FB at *;rw[hb.block B (wQ h)];exact h
def qxh(z:Int)(n:Int)(most:Int)(t:Tok):Int:=if most<=n then xu z t.v else z
def vv7(z:Int)(t:Tok)(lo hi:Int):Int:=if mg t.x<lo\/hi<mg t.x then xu z t.v else z
theorem count_any(n most:Int)(t:Tok)(h:FB w B z):Calls prog 153 #[.pointer (some ⟨B,0,none⟩),.int .i64 n,.int .i64 most,ptV t] w λe w'=>e=.returned (.tuple #[])/\FB w' B (qxh z n most t)/\Kept B w w':=by
 unfold ptV;by_cases c:most<=n
 ·have E:=oz (by unfold qxh;omega:qxh z n most t=xu z t.v);have a:FB (w.alloc<|.cells #[.string t.x,.int .i64 t.v] 107) B z:=h.kept<|jZ _;obtain⟨c0,c1,f0,f1⟩:=kj6 a;go_in
  go_wp21;refine(note_any t.v c0 c1 f0 f1).mono ?_;rintro e d ⟨rfl,b⟩;subst b;go_wp2;go_end0;rw[ku E];exact⟨rfl,a.note aj,(Kept.kqe _).trans<|Kept.note _ _ _ _ _⟩
 ·have E:=oz (by unfold qxh;omega:qxh z n most t=z);go_wp2;go_end0;rw[ku E];exact⟨rfl,h.kept<|jZ _,Kept.kqe _⟩
theorem size_any(lo hi:Int)(t:Tok)(h:FB w B z):Calls prog 154 #[.pointer (some ⟨B,0,none⟩),dgV t,.int .i64 lo,.int .i64 hi] w λe w'=>e=.returned (.tuple #[])/\FB w' B (vv7 z t lo hi)/\Kept B w w':=by
 unfold dgV;have a:FB (w.alloc<|.cells #[.int .i64 (mg t.x),.int .i64 t.v] 109) B z:=h.kept<|jZ _;obtain⟨c0,c1,f0,f1⟩:=kj6 a;have c:=note_any t.v c0 c1 f0 f1;have E:=oz (show vv7 z t lo hi=if mg t.x<lo\/hi<mg t.x then xu z t.v else z from rfl);generalize mg t.x=d at *;clear c0 c1 f0 f1;by_cases h1:d<lo
 ·rw[lJ (.inl h1)]at E;go_in;go_wp21;refine c.mono ?_;rintro e g ⟨rfl,b⟩;subst b;go_wp2;go_end0;rw[ku E];exact⟨rfl,a.note aj,(Kept.kqe _).trans<|Kept.note _ _ _ _ _⟩
 ·by_cases f:hi<d
  ·rw[lJ (.inr f)]at E;go_in;go_wp21;refine c.mono ?_;rintro e g ⟨rfl,b⟩;subst b;go_wp2;go_end0;rw[ku E];exact⟨rfl,a.note aj,(Kept.kqe _).trans<|Kept.note _ _ _ _ _⟩
  ·rw[Xy aj]at E;go_wp2;go_end0;grind [ku,Kept.kqe]
theorem qp(h:w.ownsRow lo k size v n xs):∃a cap,v=.slice a n cap/\∀i,i<n->∃g,a=some ⟨g,0,none⟩/\lo<=g/\g<w.heap.size/\∀j,j<n*size->w.cell? ⟨g,j,none⟩=xs[j]?:=by
 obtain⟨rfl,rfl⟩|⟨g,cap,cur,rfl,f,l,b,c,d,e⟩:=h.2
 ·simp
 grind [cell_of_row]
theorem kja{h8:Option Addr}(h:w.ownsRow lo k size (.slice h8 B c) n xs):B=n/\∀i,i<n->∃g,h8=some ⟨g,0,none⟩/\lo<=g/\g<w.heap.size/\∀j,j<n*size->w.cell? ⟨g,j,none⟩=xs[j]?:=by obtain⟨_,_,k,h⟩:=qp h;injection k with a b d;subst a;exact⟨b,h⟩
def kw8{α:Type}(W:World)(B:Nat)(f:Int->Nat->α->Int)(items:List α)(z0:Int)(i:Value)(wr:World):Prop:=
 ∃(k:Nat)(a:Int),k<=items.length/\i=.int .i64 k/\yx f (items.drop k) k a=yx f items 0 z0/\FB wr B a/\Kept B W wr
theorem kw8.start(a:FB wr B z)(b:Kept B W wr):kw8 W B f items z (.int .i64 0) wr:=
 ⟨0,z,jR,rfl,rfl,a,b⟩
theorem kw8.Y(b:k<items.length)(h:yx f (items.drop k) k a=yx f items 0 z)(c:FB wr B (f a k items[k]))(d:Kept B W wr):kw8 W B f items z (.int .i64<|(k:Int)+1) wr:=by refine⟨k+1,_,b,eu,?_,c,d⟩;rw[rU b,yx]at h;exact h
def vy1(a:Int)(i:Nat)(p:PP):Int:=qxh a i 2 p.y
theorem qvo(h:FB w B z)(Q:i1.length<=1000)(I:w.ownsRow lo 352 4 x i1.length (uq i1))(E:x.ownBlock≠some B):Calls prog 155 #[.pointer (some ⟨B,0,none⟩),x] w λe w'=>e=.returned (.tuple #[])/\FB w' B (yx vy1 i1 0 z)/\Kept B w w':=by
 obtain⟨xa,cap,rfl,(D:Hid _)⟩:=qp I;have H:=oz h;go_in;go_wp21;go_loopw [4,5,8] (λ_ _ i wr=>kw8 w B vy1 i1 z i wr) (λ_ _ i _=>i1.length-(intOf i).toNat);exact kw8.start H<|Kept.refl _ _;obtain⟨k,a,P,rfl,(q:Hid _),t,d⟩:=hrel;have M:=d.size;by_cases c:k<i1.length
 ·obtain⟨g,rfl,K,L,m⟩:=ku D k c;have b:g≠B:=λe=>E (by simp[Value.ownBlock,e])
  have l:=λj (G:j<4)=>kqo kzn 4 (λ_=>rfl) i1 k j c G
  have u:=d.cell (a:=⟨g,k*4+0,none⟩) b<|(m (k*4+0) aj).trans (l 0 aj);have v:=d.cell (a:=⟨g,k*4+1,none⟩) b<|(m (k*4+1) aj).trans (l 1 aj);have y:=d.cell (a:=⟨g,k*4+2,none⟩) b<|(m (k*4+2) aj).trans (l 2 aj);have A:=d.cell (a:=⟨g,k*4+3,none⟩) b<|(m (k*4+3) aj).trans (l 3 aj);have s:=oz (λ(w':World) (F:FB w' B (qxh a k 2 (i1[k]).y)) (J:Kept B w w')=>kw8.Y (W:=w) (wr:=w') (B:=B) (f:=vy1) (items:=i1) (z:=z) (a:=a) c q F J);simp only[kzn,sW,sU,Qk]at u v y A;generalize i1[k]=p at u v y A s;clear m l;go_wp21
  refine(count_any k 2 p.y<|t.kept (jZ _)).mono ?_;rintro e R ⟨rfl,h1,C⟩;have N:=s _ h1<|(d.alloc _).trans C;go_wp2
  grind [ku,intOf]
 ·have O:=kqu c q;go_wp2;go_end0;grind [ku]
theorem jjh:∀{ks:List PKind}{cs:List Value}(i:Nat)(hi:i<ks.length),kvp lo w ks cs ->
  ∃ma mn mc,cs[i*3]?=some (.string (ks[i]).y.x)/\cs[i*3+1]?=some (.int .i64 (ks[i]).y.v)/\cs[i*3+2]?=some (.slice ma mn mc)/\w.ownsRow lo 107 2 (.slice ma mn mc) (ks[i]).i.length (kjq (ks[i]).i)
 |[],_,i,hi,_=>by grind
 |k::ks,cs,0,_,⟨ma,mn,mc,rest,e,h1,h2⟩=>by grind
 |k::ks,cs,i+1,hi,⟨ma,mn,mc,rest,e,h1,h2⟩=>by subst e;obtain⟨a,b,c,d,f,g,h⟩:=jjh i (by simp_all) h2;grind
theorem vjd:∀{rs:List PRule}{cs:List Value}(i:Nat)(hi:i<rs.length),kvy lo w rs cs ->
  ∃pa pn pc gp ba bn bc bcs,(cs[i*5]?=some (.string (rs[i]).y.x)/\cs[i*5+1]?=some (.int .i64 (rs[i]).y.v)/\cs[i*5+2]?=some (.slice pa pn pc)/\cs[i*5+3]?=some (.pointer gp)/\cs[i*5+4]?=some (.slice ba bn bc)) /\
   w.ownsRow lo 352 4 (.slice pa pn pc) (rs[i]).u.length (uq (rs[i]).u)/\XIs lo w (rs[i]).guard (.pointer gp)/\w.ownsRow lo 334 9 (.slice ba bn bc) (kqq (rs[i]).S) bcs/\BIs lo none w (rs[i]).S bcs
 |[],_,i,hi,_=>by grind
 |r::rs,cs,0,_,⟨pa,pn,pc,gp,ba,bn,bc,bcs,rest,e,h1,h2,h3,h4,h5⟩=>by grind
 |r::rs,cs,i+1,hi,⟨pa,pn,pc,gp,ba,bn,bc,bcs,rest,e,h1,h2,h3,h4,h5⟩=>by
  subst e;obtain⟨a1,a2,a3,a4,a5,a6,a7,a8,⟨b,c,d,f,g⟩,a⟩:=vjd i (by simp_all) h5;refine⟨a1,a2,a3,a4,a5,a6,a7,a8,⟨?_,?_,?_,?_,?_⟩,a⟩
  ·grind
  ·grind
  ·grind
  ·grind
  grind
theorem vz0:∀{rs:List PRule}{cs:List Value}(i:Nat)(hi:i<rs.length),kvg lo w rs cs ->
  ∃pa pn pc gp,(cs[i*4]?=some (.string (rs[i]).y.x)/\cs[i*4+1]?=some (.int .i64 (rs[i]).y.v)/\cs[i*4+2]?=some (.slice pa pn pc)/\cs[i*4+3]?=some (.pointer gp)) /\
   w.ownsRow lo 352 4 (.slice pa pn pc) (rs[i]).u.length (uq (rs[i]).u)/\XIs lo w (rs[i]).guard (.pointer gp)
 |[],_,i,hi,_=>by grind
 |r::rs,cs,0,_,⟨pa,pn,pc,gp,rest,e,h1,h2,h5⟩=>by grind
 |r::rs,cs,i+1,hi,⟨pa,pn,pc,gp,rest,e,h1,h2,h5⟩=>by subst e;obtain⟨a1,a2,a3,a4,⟨a,b,c,d⟩,f⟩:=vz0 i (by simp_all) h5;grind
def pS(a:Int)(i:Nat)(s:PSet):Int:=vv7 (qxh a i 2 s.y) s.size 2 3
def pM(a:Int)(i:Nat)(m:Tok):Int:=qxh a i 4 m
def pK(a:Int)(i:Nat)(k:PKind):Int:=yx pM k.i 0 (qxh a i 2 k.y)
def pV(a:Int)(i:Nat)(v:VrT):Int:=if v.si.I==1 then vv7 (qxh a i 4 v.y) v.si.R 1 3 else qxh a i 4 v.y
def pR(a:Int)(i:Nat)(r:PRule):Int:=yx vy1 r.u 0 (qxh a i 5 r.y)
def pN(a:Int)(i:Nat)(r:PRule):Int:=yx vy1 r.u 0 (qxh a i 3 r.y)
def pm1(m:MdL):Int:=yx pS m.j 0 (-1)
def pm2(m:MdL):Int:=yx pK m.p 0 (pm1 m)
def pm3(m:MdL):Int:=yx pV m.z 0 (pm2 m)
def pm4(m:MdL):Int:=yx pR m.l 0 (pm3 m)
def qz2(m:MdL):Int:=yx pN m.q 0 (pm4 m)
structure MdOk (m:MdL):Prop where
 j:m.j.length<=1000
 p:m.p.length<=1000
 z:m.z.length<=1000
 l:m.l.length<=1000
 q:m.q.length<=1000
 i:∀k∈m.p,k.i.length<=1000
 u:∀r∈m.l++m.q,r.u.length<=1000
theorem jwo(h:kwm lo w x0 x1 x2 x3 x4 m)(Y:MdOk m):Calls prog 91 #[.agg #[x0,x1,x2,x3,x4]] w λe w'=>e=.returned (.agg #[.bool (decide (0<=qz2 m)),.int .i64 (fAt<|qz2 m)])/\oq w w':=by
 obtain⟨h0,⟨c1,h1,aW⟩,P,⟨c3,h3,aX⟩,⟨c4,h4,aY⟩⟩:=h;have l0:=kq9 h0;have l1:=kq9 h1;have l2:=kq9 P;have l3:=kq9 h3;have l4:=kq9 h4;obtain⟨aP,aQ,aR,aS,aT,aF,aG⟩:=Y;have Y:MdOk m:=⟨aP,aQ,aR,aS,aT,aF,aG⟩;obtain⟨W,hW⟩:=cpy<|((w.alloc<|.cells #[x0,x1,x2,x3,x4] 68).alloc<|.cells #[.bool false,.int .i64 0] 199).alloc (.cells #[.bool false,.int .i64 0] 199);have R:oq w W:=by rw[hW];exact((jZ w).trans<|(jZ _).mono ay).trans ((jZ _).mono ah)
 have bH:W.heap.size=w.heap.size+3:=by simp_all
 obtain⟨B,hB⟩:=cpy<|w.heap.size+1+1;obtain⟨bF,T⟩:=ju hW.symm (by grind [zy,qy]:W.heap[w.heap.size]?=some (.cells #[x0,x1,x2,x3,x4] 68 (0,0)));have aU:=oz (show W.heap[w.heap.size+1]?=some (.cells #[.bool false,.int .i64 0] 199 (0,0)) by grind [qy,zy])
 have aZ:=show FB W B (-1) by rw[hW,hB];have:=qy (w:=(w.alloc<|.cells #[x0,x1,x2,x3,x4] 68).alloc<|.cells #[.bool false,.int .i64 0] 199) (o:=.cells #[.bool false,.int .i64 0] 199);simp only[tV]at this;exact this
 have st:∀k,lo<=k->k<w.heap.size->W.heap[k]?=w.heap[k]?:=λk _ Q=>R.block k Q
 have vw:∀{e size:Nat}{v:Value}{n:Nat}{xs:List Value},w.ownsRow lo e size v n xs->∃a cap,v=.slice a n cap/\∀i,i<n->∃g,a=some ⟨g,0,none⟩/\lo<=g/\g<w.heap.size/\∀j,j<n*size->W.cell? ⟨g,j,none⟩=xs[j]?:=by intro e size v n xs h;obtain⟨a,cap,O,hv⟩:=qp h;refine⟨a,cap,O,λi hi=>?_⟩;obtain⟨g,q1,q2,q3,q4⟩:=hv i hi;exact⟨g,q1,q2,q3,λj hj=>(R.cell (p:=⟨g,j,none⟩) q3).trans<|q4 j hj⟩
 obtain⟨a0,bM,rfl,(b9:Hid _)⟩:=vw h0;obtain⟨a1,bN,rfl,(bA:Hid _)⟩:=vw h1;obtain⟨a2,bO,rfl,(bB:Hid _)⟩:=vw P;obtain⟨a3,bP,rfl,(bC:Hid _)⟩:=vw h3;obtain⟨a4,bQ,rfl,(bD:Hid _)⟩:=vw h4;clear vw l0 l1 l2 l3 l4;have aV:=oz hB;have bS:w.heap.size+1<B:=aj;have bT:B<W.heap.size:=aj;clear bH hB hW st aF aG;have b3:=show kw8 W B pS m.j (-1) (.int .i64 0) W from kw8.start aZ<|Kept.refl _ _
 go_in;go_wp21;rw[ku bF,<-ku aV];go_loopw [4,5,19] (λ_ _ i wr=>kw8 W B pS m.j (-1) i wr) (λ_ _ i _=>m.j.length-(intOf i).toNat);exact b3;obtain⟨k,a,Q,rfl,(u:Hid _),l,d⟩:=hrel;have aA:=d.size;by_cases c:k<m.j.length
 ·obtain⟨g,rfl,a8,a9,t⟩:=ku b9 k c;have q:g≠B:=aj;have e:=jyd t (λ_=>rfl) c d q;have s:=oz (λ(w':World) (J:FB w' B (pS a k<|m.j[k])) (M:Kept B W w')=>kw8.Y (W:=W) (wr:=w') (f:=pS) (items:=m.j) (z:=(-1)) (a:=a) c u J M);generalize m.j[k]=p at e s;clear t;go_wp21;refine(count_any k 2 p.y<|l.kept (jZ _)).mono ?_;rintro e w1 ⟨rfl,N,x⟩;have y:=x.e (b:=wr.heap.size) aj<|qy;have A:=(d.alloc _).trans x;clear e;have g2:=kz3 y;clear y;go_wp21
  refine(size_any 2 3 p.size N).mono ?_;rintro e w2 ⟨rfl,P,K⟩;have E:=s _ P<|A.trans K;go_wp2
  exact rdM E
 ·have D:=kqu c u;rw[D]at l;have C:=d.e (b:=w.heap.size) aj T;have qx:=jl C;have b4:=show kw8 W B pK m.p (pm1 m) (.int .i64 0) wr from kw8.start l d
  clear D C;go_wp21;go_loopw [6,7,8,9,35] (λ_ _ _ _ i wr=>kw8 W B pK m.p (pm1 m) i wr) (λ_ _ _ _ i _=>m.p.length-(intOf i).toNat);exact b4;obtain⟨k,a,Q,rfl,(u:Hid _),l,d⟩:=hrel;have aA:=d.size;by_cases c:k<m.p.length
  ·obtain⟨g,rfl,a8,a9,t⟩:=ku bA k c;have q:g≠B:=aj;obtain⟨ma,mn,mc,F,G,H,I⟩:=jjh k c aW;have U:=d.cell (a:=⟨g,k*3,none⟩) q<|(t (k*3) aj).trans F;have O:=d.cell (a:=⟨g,k*3+1,none⟩) q<|(t (k*3+1) aj).trans G;have V:=d.cell (a:=⟨g,k*3+2,none⟩) q<|(t (k*3+2) aj).trans H;have s:=oz (λ(w':World) (J:FB w' B (pK a k<|m.p[k])) (M:Kept B W w')=>kw8.Y (W:=W) (wr:=w') (f:=pK) (items:=m.p) (z:=(pm1 m)) (a:=a) c u J M);have L:=Y.i _<|wZ c;generalize m.p[k]=p at U O V s I L;clear t F G H;go_wp21
   refine(count_any k 2 p.y<|l.kept (jZ _)).mono ?_;rintro e w1 ⟨rfl,N,x⟩;have y:=x.e (b:=wr.heap.size) aj<|qy;have A:=(d.alloc _).trans x;clear U O V;have g2:=row3 y;clear y;obtain⟨mb,bK,aO,(b2:Hid _)⟩:=qp I;injection aO with q1 q2 q3;subst q1;subst q2;subst q3;have bW:=kq9 I;have b8:=show kw8 W B pM p.i (qxh a k 2 p.y) (.int .i64 0) w1 from kw8.start N A
   go_wp21;go_loopw [8,9,47] (λ_ _ i wr=>kw8 W B pM p.i (qxh a k 2 p.y) i wr) (λ_ _ i _=>p.i.length-(intOf i).toNat);exact b8;obtain⟨k5,a5,bV,rfl,(aB:Hid _),a6,a7⟩:=hrel;have bJ:=a7.size;by_cases S:k5<p.i.length
   ·obtain⟨g5,rfl,bI,aM,aI⟩:=ku b2 k5 S;have aN:g5≠B:=aj;have e:=jyd (λj hj=>(R.cell (p:=⟨g5,j,none⟩) aM).trans<|aI j hj) (λ_=>rfl) S a7 aN;have aC:=oz (λ(w':World) (J:FB w' B (pM a5 k5<|p.i[k5])) (M:Kept B W w')=>kw8.Y (W:=W) (wr:=w') (B:=B) (f:=pM) (items:=p.i) (z:=qxh a k 2 p.y) (a:=a5) S aB J M);generalize p.i[k5]=t5 at e aC;clear aI;go_wp21;refine(count_any k5 4 t5<|a6.kept (jZ _)).mono ?_;rintro e w6 ⟨rfl,h6,bG⟩;have E:=aC _ h6<|(a7.alloc _).trans bG;go_wp2
    exact rdM E
   ·have aJ:=kqu S aB;rw[aJ]at a6;have E:=s _ a6 a7;clear aJ;go_wp2;exact rdM E
  ·have D:=kqu c u;rw[D]at l;have C:=d.e (b:=w.heap.size) aj T;have qx:=jl C;have b5:=show kw8 W B pV m.z (pm2 m) (.int .i64 0) wr from kw8.start l d
   clear D C;go_wp21;go_loopw [10,11,60] (λ_ _ i wr=>kw8 W B pV m.z (pm2 m) i wr) (λ_ _ i _=>m.z.length-(intOf i).toNat);exact b5;obtain⟨k,a,Q,rfl,(u:Hid _),l,d⟩:=hrel;have aA:=d.size;by_cases c:k<m.z.length
   ·obtain⟨g,rfl,a8,a9,t⟩:=ku bB k c;have q:g≠B:=aj;have e:=jyd t (λ_=>rfl) c d q;have s:=oz (λ(w':World) (J:FB w' B (pV a k<|m.z[k])) (M:Kept B W w')=>kw8.Y (W:=W) (wr:=w') (B:=B) (f:=pV) (items:=m.z) (z:=(pm2 m)) (a:=a) c u J M);generalize m.z[k]=p at e s;clear t;go_wp21;refine(count_any k 4 p.y<|l.kept (jZ _)).mono ?_;rintro e w1 ⟨rfl,N,x⟩;have y:=x.e (b:=wr.heap.size) aj<|qy;have A:=(d.alloc _).trans x;have bX:=A.size;clear e;have g5:=kju y;clear y;cases bU:(p.si.I==1)
    ·have HP:=oz (by unfold pV;simp_all:pV a k p=qxh a k 4 p.y);rw[ku HP]at s;have E:=s _ N A;go_wp2;exact rdM E
    ·have HP:=oz (by unfold pV;simp_all:pV a k p=vv7 (qxh a k 4 p.y) p.si.R 1 3);rw[ku HP]at s;go_wp21;refine(size_any 1 3 p.si.R N).mono ?_;rintro e w2 ⟨rfl,P,K⟩;have E:=s _ P<|A.trans K;go_wp2
     exact rdM E
   ·have D:=kqu c u;rw[D]at l;have C:=d.e (b:=w.heap.size) aj T;have qx:=jl C;have b6:=show kw8 W B pR m.l (pm3 m) (.int .i64 0) wr from kw8.start l d
    clear D C;go_wp21;go_loopw [12,13,81] (λ_ _ i wr=>kw8 W B pR m.l (pm3 m) i wr) (λ_ _ i _=>m.l.length-(intOf i).toNat);exact b6;obtain⟨k,a,Q,rfl,(u:Hid _),l,d⟩:=hrel;have aA:=d.size;by_cases c:k<m.l.length
    ·obtain⟨g,rfl,a8,a9,t⟩:=ku bC k c;have q:g≠B:=aj;obtain⟨pa,pn,pc,gp,ba,bn,bc,bL,⟨F,G,H,X,aH⟩,I,_⟩:=vjd k c aX;have U:=d.cell (a:=⟨g,k*5,none⟩) q<|(t (k*5) aj).trans F;have O:=d.cell (a:=⟨g,k*5+1,none⟩) q<|(t (k*5+1) aj).trans G;have V:=d.cell (a:=⟨g,k*5+2,none⟩) q<|(t (k*5+2) aj).trans H;have e3:=d.cell (a:=⟨g,k*5+3,none⟩) q<|(t (k*5+3) aj).trans X;have e4:=d.cell (a:=⟨g,k*5+4,none⟩) q<|(t (k*5+4) aj).trans aH;have s:=oz (λ(w':World) (J:FB w' B (pR a k<|m.l[k])) (M:Kept B W w')=>kw8.Y (W:=W) (wr:=w') (B:=B) (f:=pR) (items:=m.l) (z:=(pm3 m)) (a:=a) c u J M);have L:=Y.u _<|jT (wZ c);generalize m.l[k]=p at U O V e3 e4 s I L;clear t F G H X aH;go_wp21
     refine(count_any k 5 p.y<|l.kept (jZ _)).mono ?_;rintro e w1 ⟨rfl,N,x⟩;have y:=x.e (b:=wr.heap.size) aj<|qy;have A:=(d.alloc _).trans x;clear U O V e3 e4;have g2:=jl y;clear y;have Z:(Value.slice pa pn pc).ownBlock≠some B:=λe=>by have:=kq9 I _ e;omega
     have aD:=qkv (xg (λk _ Q=>R.block k Q) I) Z A;go_wp21;refine(qvo N L aD Z).mono ?_;rintro e w2 ⟨rfl,P,K⟩;have E:=s _ P<|A.trans K;go_wp2
     exact rdM E
    ·have D:=kqu c u;rw[D]at l;have C:=d.e (b:=w.heap.size) aj T;have qx:=jl C;have b7:=show kw8 W B pN m.q (pm4 m) (.int .i64 0) wr from kw8.start l d
     clear D C;go_wp21;go_loopw [14,15,97] (λ_ _ i wr=>kw8 W B pN m.q (pm4 m) i wr) (λ_ _ i _=>m.q.length-(intOf i).toNat);exact b7;obtain⟨k,a,Q,rfl,(u:Hid _),l,d⟩:=hrel;have aA:=d.size;by_cases c:k<m.q.length
     ·obtain⟨g,rfl,a8,a9,t⟩:=ku bD k c;have q:g≠B:=aj;obtain⟨pa,pn,pc,gp,⟨F,G,H,X⟩,I,_⟩:=vz0 k c aY;have U:=d.cell (a:=⟨g,k*4,none⟩) q<|(t (k*4) aj).trans F;have O:=d.cell (a:=⟨g,k*4+1,none⟩) q<|(t (k*4+1) aj).trans G;have V:=d.cell (a:=⟨g,k*4+2,none⟩) q<|(t (k*4+2) aj).trans H;have e3:=d.cell (a:=⟨g,k*4+3,none⟩) q<|(t (k*4+3) aj).trans X;have s:=oz (λ(w':World) (J:FB w' B (pN a k<|m.q[k])) (M:Kept B W w')=>kw8.Y (W:=W) (wr:=w') (B:=B) (f:=pN) (items:=m.q) (z:=(pm4 m)) (a:=a) c u J M);have L:=Y.u _<|jN (wZ c);generalize m.q[k]=p at U O V e3 s I L;clear t F G H X;go_wp21
      refine(count_any k 3 p.y<|l.kept (jZ _)).mono ?_;rintro e w1 ⟨rfl,N,x⟩;have y:=x.e (b:=wr.heap.size) aj<|qy;have A:=(d.alloc _).trans x;clear U O V e3;have g2:=kz3 y;clear y;have Z:(Value.slice pa pn pc).ownBlock≠some B:=λe=>by have:=kq9 I _ e;omega
      have aD:=qkv (xg (λk _ Q=>R.block k Q) I) Z A;go_wp21;refine(qvo N L aD Z).mono ?_;rintro e w2 ⟨rfl,P,K⟩;have E:=s _ P<|A.trans K;go_wp2
      exact rdM E
     ·have D:=kqu c u;rw[D]at l;have C:=d.e (b:=w.heap.size) aj T;have aE:=d.e (b:=w.heap.size+1) aj aU;have d0:=kj6 aE;have g0:=kj6 l;have aK:=oz aE;clear D C aE;go_wp2;refine kx0 results91 underlying199 (set2 aK) ?_;refine⟨rfl,?_⟩;have aL:oq w wr:=R.trans<|Kept.toBelow (B:=w.heap.size) d aj aj;exact(aL.setCell ay _).setCell ay _
structure Ent where
 V:Int
 N:Int
 t:ByteArray
 var:VrT
def kv3:VrT:=⟨zh,false,zh,⟨0,zh,zh⟩⟩
def jkh:Ent:=⟨0,0,⟨#[]⟩,kv3⟩
def qkr(e:Ent):List Value:=[.int .i64 e.V,.int .i64 e.N,.string e.t]++kjs e.var
def qy7(e:Ent):Value:=.agg (qkr e).toArray
abbrev Tab:=List (ByteArray×Ent)
variable {t:Tab}
def zl:Tab->List UInt8->Ent
 |[],_=>jkh
 |x::l,s=>if x.1.toList==s then x.2 else zl l s
def kj5(w:World)(b:Nat)(t:Tab):Prop:=
 (∃es clock,w.heap[b]?=some (.map es clock)/\es.toList.map (λe=>(e.key,e.val))=t.map (λx=>(Value.string x.1,qy7 x.2)))/\(t.map (·.1.toList)).Nodup/\∀x∈t,x.1.size<=1000
theorem kj5.kept(h:kj5 w lo t)(hb:oq w w'):kj5 w' lo t:=by
 obtain⟨⟨es,c,h1,a⟩,b⟩:=h;have d:lo<w.heap.size:=by grind
 exact⟨⟨es,c,by rw[hb.block lo d];exact h1,a⟩,b⟩
theorem keyed:Maps.Keyed prog 9:=Maps.string_keyed underlying9
theorem keyS(a:b8.size<=1000):keyOf prog 9 (.string b8)=some (.string b8.data.toList):=WideMaps.keyOf_string_mk underlying9 iq
theorem xjq(w:World):(zeroValue 294).run prog w=.ok (qy7 jkh) w:=au
theorem zx5(h:es.toList.map (λi2=>(i2.key,i2.val))=t.map (λx=>(Value.string x.1,qy7 x.2)))(a:i2∈es.toList):∃x∈t,i2.key=.string x.1/\i2.val=qy7 x.2:=by grind [List.mem_map_of_mem]
theorem pair_mem(h:es.toList.map (λe=>(e.key,e.val))=t.map (λi3=>(Value.string i3.1,qy7 i3.2))){i3:ByteArray×Ent}(a:i3∈t):∃e∈es.toList,e.key=.string i3.1/\e.val=qy7 i3.2:=by grind [List.mem_map_of_mem]
theorem vzt:∀(t:Tab)(s:List UInt8),(∀x∈t,x.1.toList≠s)->zl t s=jkh
 |[],_,_=>rfl
 |x::l,s,h=>by rw[zl,Xy (by simp_all)];exact vzt l s λy a=>h y<|jS a
theorem jju:∀(t:Tab)(s:List UInt8),(t.map (·.1.toList)).Nodup->∀x∈t,x.1.toList=s->zl t s=x.2
 |y::l,s,hn,x,a,e=>by
  rw[Qm,QM]at hn;rw[zl];obtain rfl|a:=tZ.1 a
  ·simp_all
  ·rw[Xy (by grind)]
   exact jju l s hn.2 x a e
theorem pjj{i4:ByteArray}(h:b8.toList=i4.toList):b8=i4:=by rw[yj,yj]at h;cases b8;simp_all
theorem kvb(h:kj5 w lo t)(p:b8.size<=1000):(Instr.lookup 202 (.map (some lo)) (.string b8) false).run prog w=.ok (qy7 (zl t b8.toList)) w:=by
 obtain⟨⟨es,c,h1,i⟩,k,s⟩:=h;have d:=keyS p;have b:∀e∈es.toList,∃l,keyOf prog 9 e.key=some l:=λe u=>by grind [zx5,keyS]
 obtain⟨f1,f2⟩|⟨j,q,f1,f2,f3⟩:=keyed.find w d es.toList b
 ·rw[vzt t b8.toList (λx f e=>by grind [pair_mem,pjj])]
  simp[Instr.lookup,Q7 underlying202,MapKept.run_getObj_map h1,keyed.check w _ d,f1,xjq w,Result.andThen]
 ·have m:=wB f2;obtain⟨x,f,a,g⟩:=zx5 i m;rw[f3]at a;injection a with a;rw[jju t b8.toList k x f (by rw[a]),<-g];simp[Instr.lookup,Q7 underlying202,MapKept.run_getObj_map h1,keyed.check w _ d,f1,Result.andThen]
theorem xje{e:Ent}(h:kj5 w lo t)(f:b8.size<=1000)(g:∀x∈t,x.1.toList≠b8.toList):∃w',(Instr.mapUpdate 202 (.map (some lo)) (.string b8) (qy7 e)).run prog w=.ok () w'/\kj5 w' lo (t++[(b8,e)])/\Kept lo w w':=by
 obtain⟨⟨es,c,h1,d⟩,p,q⟩:=h;have b:=keyS f;have a:∀e∈es.toList,∃l,keyOf prog 9 e.key=some l:=λe s=>by grind [zx5,keyS]
 obtain⟨f1,f2⟩|⟨j,i,f1,f2,f3⟩:=keyed.find w b es.toList a
 ·refine⟨ChangeMaps.setBlock w lo<|.map (es.push ⟨.string b8,qy7 e,c⟩) (c+1),by simp[Instr.mapUpdate,Q7 underlying202,MapKept.run_getObj_map h1,keyed.check w false b,f1,MapKept.run_setObj_map _ h1,Result.andThen,ChangeMaps.setBlock],⟨⟨_,_,ChangeMaps.heap_setBlock_same h1 _,?_⟩,?_,?_⟩,⟨rfl,rfl,rfl,lV,λk _ hn=>ChangeMaps.heap_setBlock_other h1 _ hn⟩⟩
  ·simp_all
  ·grind
  grind
 ·exfalso
  obtain⟨x,u,m,_⟩:=zx5 d<|wB f2;grind
def ky3(t:Tab):Prop:=∀x∈t,1<=x.2.V
theorem px1(h:ky3 t)(hn:(t.map (·.1.toList)).Nodup){s:List UInt8}(b:(zl t s).V=0):∀x∈t,x.1.toList≠s:=by intro x a e;rw[jju t s hn x a e]at b;have:=h x a;omega
def kyw(t:Tab)(n:Tok)(e:Ent):Tab:=if (zl t n.x.toList).V==0 then t++[(n.x,{e with N:=n.v})] else t
theorem qzk(h:ky3 t){n:Tok}{e:Ent}(b:1<=e.V):ky3 (kyw t n e):=by
 unfold kyw;split
 ·intro x a;obtain a|a:=rV.1 a
  ·exact h x a
  simp_all
 omega
theorem kw6(e:Ent)(w:World):(Instr.field 294 (qy7 e) 0).run prog w=.ok (.int .i64 e.V) w:=au
theorem vwo(e:Ent)(w:World):(Instr.field 294 (qy7 e) 1).run prog w=.ok (.int .i64 e.N) w:=au
structure MVar where
 f:Nat
 d:Nat
 a:List ByteArray
 g:Int
 B:Int
variable {vars:List MVar}
structure Mean where
 isVar:Bool
 xx:Nat
def vw4:Mean:=⟨false,0⟩
def qx3(e:Mean):Value:=.agg #[.bool e.isVar,.int .i64 e.xx]
abbrev kq3:=List (ByteArray×Mean)
variable {i5 tab:kq3}
def kjw:kq3->List UInt8->Mean
 |[],_=>vw4
 |x::l,s=>if x.1.toList==s then x.2 else kjw l s
def kkd(w:World)(b:Nat)(t:kq3):Prop:=
 (∃es clock,w.heap[b]?=some (.map es clock)/\es.toList.map (λe=>(e.key,e.val))=t.map (λx=>(Value.string x.1,qx3 x.2)))/\(t.map (·.1.toList)).Nodup/\∀x∈t,x.1.size<=1000
theorem kkd.lt(h:kkd w lo i5):lo<w.heap.size:=by obtain⟨⟨es,c,h1,a⟩,b⟩:=h;grind
theorem kkd.stay{b:Nat}(h:kkd w b i5)(hb:w'.heap[b]?=w.heap[b]?):kkd w' b i5:=by obtain⟨⟨es,c,h1,a⟩,d⟩:=h;exact⟨⟨es,c,by simp_all,a⟩,d⟩
theorem pkk(w:World):(zeroValue 116).run prog w=.ok (qx3 vw4) w:=au
theorem qye(h:es.toList.map (λi2=>(i2.key,i2.val))=i5.map (λx=>(Value.string x.1,qx3 x.2)))(a:i2∈es.toList):∃x∈i5,i2.key=.string x.1/\i2.val=qx3 x.2:=by grind [List.mem_map_of_mem]
theorem pza(h:es.toList.map (λe=>(e.key,e.val))=i5.map (λi6=>(Value.string i6.1,qx3 i6.2))){i6:ByteArray×Mean}(a:i6∈i5):∃e∈es.toList,e.key=.string i6.1/\e.val=qx3 i6.2:=by grind [List.mem_map_of_mem]
theorem py7:∀(t:kq3)(s:List UInt8),(∀x∈t,x.1.toList≠s)->kjw t s=vw4:=by intro a;induction a<;>grind [kjw]
theorem vzr:∀(t:kq3)(s:List UInt8),(t.map (·.1.toList)).Nodup->∀x∈t,x.1.toList=s->kjw t s=x.2:=by intro a;induction a<;>grind [kjw]
theorem qkg(h:kkd w lo i5)(p:b8.size<=1000):(Instr.lookup 100 (.map (some lo)) (.string b8) false).run prog w=.ok (qx3 (kjw i5 b8.toList)) w:=by
 obtain⟨⟨es,c,h1,i⟩,k,s⟩:=h;have d:=keyS p;have b:∀e∈es.toList,∃l,keyOf prog 9 e.key=some l:=λe t=>by grind [qye,keyS]
 obtain⟨f1,f2⟩|⟨j,q,f1,f2,f3⟩:=keyed.find w d es.toList b
 ·rw[py7 i5 b8.toList (λx f e=>by grind [pza,pjj])]
  simp[Instr.lookup,Q7 underlying100,MapKept.run_getObj_map h1,keyed.check w _ d,f1,pkk w,Result.andThen]
 ·have m:=wB f2;obtain⟨x,f,a,g⟩:=qye i m;rw[f3]at a;injection a with a;rw[vzr i5 b8.toList k x f (by rw[a]),<-g];simp[Instr.lookup,Q7 underlying100,MapKept.run_getObj_map h1,keyed.check w _ d,f1,Result.andThen]
theorem vz4{e:Mean}(h:kkd w lo i5)(f:b8.size<=1000)(g:∀x∈i5,x.1.toList≠b8.toList):∃w',(Instr.mapUpdate 100 (.map (some lo)) (.string b8) (qx3 e)).run prog w=.ok () w'/\kkd w' lo (i5++[(b8,e)])/\Kept lo w w':=by
 obtain⟨⟨es,c,h1,d⟩,p,q⟩:=h;have b:=keyS f;have a:∀e∈es.toList,∃l,keyOf prog 9 e.key=some l:=λe s=>by grind [qye,keyS]
 obtain⟨f1,f2⟩|⟨j,i,f1,f2,f3⟩:=keyed.find w b es.toList a
 ·refine⟨ChangeMaps.setBlock w lo<|.map (es.push ⟨.string b8,qx3 e,c⟩) (c+1),by simp[Instr.mapUpdate,Q7 underlying100,MapKept.run_getObj_map h1,keyed.check w false b,f1,MapKept.run_setObj_map _ h1,Result.andThen,ChangeMaps.setBlock],⟨⟨_,_,ChangeMaps.heap_setBlock_same h1 _,?_⟩,?_,?_⟩,⟨rfl,rfl,rfl,lV,λk _ hn=>ChangeMaps.heap_setBlock_other h1 _ hn⟩⟩
  ·simp_all
  ·grind
  grind
 ·exfalso
  obtain⟨x,t,m,_⟩:=qye d<|wB f2;grind
theorem vzz(e:Mean)(w:World):(Instr.field 116 (qx3 e) 1).run prog w=.ok (.int .i64 e.xx) w:=au
def qki(lo:Nat)(w:World):List MVar->List Value->Prop
 |[],cs=>cs=[]
 |v::vs,cs=>∃ta tc rest,cs=[.int .i64 v.f,.int .i64 v.d,.slice ta v.a.length tc,.int .i64 v.g,.int .i64 v.B]++rest/\w.ownsRow lo 9 1 (.slice ta v.a.length tc) v.a.length (v.a.map Value.string)/\qki lo w vs rest
theorem qki.stay(d:∀(k:Nat)(e:TypeId)(cs:Array Value)(fr:Nat×Nat),w.heap[k]?=some (Obj.cells cs e fr)->e=9->w'.heap[k]?=w.heap[k]?):∀{vs:List MVar}{cs:List Value},qki lo w vs cs->qki lo w' vs cs
 |[],_,h=>h
 |v::vs,cs,⟨ta,tc,rest,e,h1,h2⟩=>⟨ta,tc,rest,e,by
   refine⟨h1.1,?_⟩;obtain i|⟨g,cap,cur,a,b,f,c⟩:=h1.2
   ·simp_all
   ·exact .inr ⟨g,cap,cur,a,b,by grind,c⟩,qki.stay d h2⟩
theorem pqc:∀{vs:List MVar}{cs:List Value}(i:Nat)(hi:i<vs.length),qki lo w vs cs ->
  ∃ta tc,(cs[i*5]?=some (.int .i64 (vs[i]).f)/\cs[i*5+1]?=some (.int .i64 (vs[i]).d)/\cs[i*5+2]?=some (.slice ta (vs[i]).a.length tc)/\cs[i*5+3]?=some (.int .i64 (vs[i]).g)/\cs[i*5+4]?=some (.int .i64 (vs[i]).B)) /\
   w.ownsRow lo 9 1 (.slice ta (vs[i]).a.length tc) (vs[i]).a.length ((vs[i]).a.map Value.string)
 |[],_,i,hi,_=>by grind
 |v::vs,cs,0,_,⟨ta,tc,rest,e,h1,h2⟩=>by grind
 |v::vs,cs,i+1,hi,⟨ta,tc,rest,e,h1,h2⟩=>by
  subst e;obtain⟨a,b,⟨d,f,g,h,j⟩,c⟩:=pqc i (by simp_all) h2;refine⟨a,b,⟨?_,?_,?_,?_,?_⟩,c⟩
  ·grind
  ·grind
  ·grind
  ·grind
  grind
structure Mc (lo:Nat)(w:World)(M nb:Nat)(vars:List MVar)(tab:kq3):Prop where
 mc:∃x0 x1 x2 va vc z cs,w.heap[M]?=some (.cells #[x0,x1,x2,.slice va vars.length vc,.map (some nb),z] 105 (0,0))/\w.ownsRow lo 213 5 (.slice va vars.length vc) vars.length cs/\qki lo w vars cs
 C:kkd w nb tab
structure Rn (lo:Nat)(w:World)(R M nb:Nat)(vars:List MVar)(tab:kq3)(l:List PP)(ms st:List Int)(sv:Value)(b:Bool):Prop where
 rn:∃tx pa pn pc ma mn mc,w.heap[R]?=some (.cells #[.string tx,.pointer (some ⟨M,0,none⟩),.slice pa pn pc,.slice ma mn mc,sv,.bool b] 269 (0,0))/\w.ownsRow lo 352 4 (.slice pa pn pc) l.length (uq l)/\w.ownsRow lo 3 1 (.slice ma mn mc) ms.length (ms.map<|Value.int .i64)
 mc:Mc lo w M nb vars tab
 st:w.ownsRow lo 5 1 sv st.length (st.map<|Value.int .u8)
theorem Mc.below(h:Mc lo w M nb vars tab)(hb:oq w w'):Mc lo w' M nb vars tab:=by obtain⟨⟨x0,x1,x2,va,vc,z,cs,h1,b,c⟩,a⟩:=h;exact⟨⟨x0,x1,x2,va,vc,z,cs,(hb.block M<|wQ h1).trans h1,qj b hb,c.stay λk e cs fr d _=>hb.block k<|wQ d⟩,a.stay<|hb.block nb a.lt⟩
theorem Rn.below{l:List PP}(h:Rn lo w R M nb vars tab l ms i7 sv i8)(hb:oq w w'):Rn lo w' R M nb vars tab l ms i7 sv i8:=by obtain⟨⟨tx,pa,pn,pc,ma,mn,mc,h1,a,b⟩,c,d⟩:=h;exact⟨⟨tx,pa,pn,pc,ma,mn,mc,(hb.block R<|wQ h1).trans h1,qj a hb,qj b hb⟩,c.below hb,qj d hb⟩
def kvq(c:Bool):Int:=if c then 1 else 0
theorem zk6(c:Bool)(w:World):Calls prog 257 #[.bool c] w λe w'=>e=.returned (.int .i64 (kvq c))/\w'=w:=by
 cases c
 ·go_wp2;go_ret;exact⟨rfl,rfl⟩
 ·go_wp2;go_ret;exact⟨rfl,rfl⟩
def kxa(o a b:Int):Int:=
 if o==6 then min a b else if o==7 then max a b else if o==11 then a+b else if o==12 then a-b
 else if o==10 then kvq (decide (a<b)) else if o==9 then kvq (!(a==b)) else kvq (a==b)
theorem pyp(o a b:Int)(l:-1000000000<=a)(j:a<=1000000000)(hb:-1000000000<=b)(k:b<=1000000000):Calls prog 232 #[.int .i64 o,.int .i64 a,.int .i64 b] w λe w'=>e=.returned (.int .i64 (kxa o a b))/\w'=w:=by
 cases d:(o==6)
 case true=>
  rw[show kxa o a b=min a b by simp[kxa,d]];go_wp2;all_goals
   go_ret;simp
 case false=>
 cases h7:(o==7)
 case true=>
  rw[show kxa o a b=max a b by simp[kxa,d,h7]];go_wp2;all_goals
   go_ret;simp
 case false=>
 cases c:(o==11)
 case true=>
  rw[show kxa o a b=a+b by simp[kxa,d,h7,c]];go_wp2;go_ret;simp
 case false=>
 cases f:(o==12)
 case true=>
  rw[show kxa o a b=a-b by simp[kxa,d,h7,c,f]];go_wp2;go_ret;simp
 case false=>
 cases h:(o==10)
 case true=>
  rw[show kxa o a b=kvq (decide (a<b)) by simp[kxa,d,h7,c,f,h]];have g:=zk6 (decide (a<b)) w;generalize kvq (decide (a<b))=y at *;go_in;go_wp21;refine g.mono ?_;rintro e i ⟨rfl,rfl⟩;go_wp2;go_ret;simp
 case false=>
 cases h9:(o==9)
 case true=>
  rw[show kxa o a b=kvq (!(a==b)) by simp[kxa,d,h7,c,f,h,h9]];have g:=zk6 (!(a==b)) w;generalize kvq (!(a==b))=y at *;go_in;go_wp21;refine g.mono ?_;rintro e i ⟨rfl,rfl⟩;go_wp2;go_ret;simp
 case false=>
  rw[show kxa o a b=kvq (a==b) by simp[kxa,d,h7,c,f,h,h9]];have g:=zk6 (a==b) w;generalize kvq (a==b)=y at *;go_in;go_wp21;refine g.mono ?_;rintro e i ⟨rfl,rfl⟩;go_wp2;go_ret;simp
def kvo(v:MVar)(ta:Option Addr)(tc:Nat):Array Value:=#[.int .i64 v.f,.int .i64 v.d,.slice ta v.a.length tc,.int .i64 v.g,.int .i64 v.B]
theorem xw6(h:w.heap[lo]?=some (.cells #[x0,x1,x2,x3,x4] g9 (0,0))){i9 j0:Value}:(puts lo [v,x,sv,i9,j0] 0 w).heap[lo]?=some (.cells #[v,x,sv,i9,j0] g9 (0,0)):=zju h
def small(x:Int):Option Int:=if decide (-1000000000<=x)&&decide (x<=1000000000) then some x else none
theorem qqu(h:small z=some a):a=z/\-1000000000<=z/\z<=1000000000:=by
 unfold small at h;split at h
 ·rename_i b;simp at b;injection h with h;exact⟨h.symm,b⟩
 ·cases h
theorem pzf(v:MVar)(ta:Option Addr)(tc:Nat)(w:World):(Instr.field 213 (.agg (kvo v ta tc)) 0).run prog w=.ok (.int .i64 v.f) w:=au
def pjd(lo:Nat)(w:World)(v:MVar)(ta:Option Addr)(tc:Nat):Prop:=
 w.ownsRow lo 9 1 (.slice ta v.a.length tc) v.a.length (v.a.map Value.string)
theorem qxd(h:Rn lo w R M nb vars tab i1 ms i7 sv i8)(B:d7.x.size<=1000){t:MVar}(k:vars[(kjw tab d7.x.toList).xx]?=some t)(hv:vars.length<=1000):Calls prog 233 #[.pointer (some ⟨R,0,none⟩),ptV d7] w λe w'=>∃ta tc,e=.returned (.agg<|kvo t ta tc)/\pjd lo w t ta tc/\oq w w':=by
 obtain⟨hi,rfl⟩:=rY.1 k;clear k;obtain⟨W,c⟩:=cpy<|(w.alloc<|.cells #[.string d7.x,.int .i64 d7.v] 107).alloc (.cells #[.int .i64 0,.int .i64 0,.slice none 0 0,.int .i64 0,.int .i64 0] 213);have a:oq w W:=by rw[c];exact(jZ w).trans ((jZ _).mono ay)
 have L:w.heap.size+1<W.heap.size:=by rw[c];simp
 have l:W.heap[w.heap.size]?=some (.cells #[.string d7.x,.int .i64 d7.v] 107 (0,0)):=by rw[c];exact zy<|qy
 have i:Hid (W.heap[w.heap.size+1]?=some (.cells #[.int .i64 0,.int .i64 0,.slice none 0 0,.int .i64 0,.int .i64 0] 213 (0,0))):=by rw[c];have:=qy (w:=w.alloc<|.cells #[.string d7.x,.int .i64 d7.v] 107) (o:=.cells #[.int .i64 0,.int .i64 0,.slice none 0 0,.int .i64 0,.int .i64 0] 213);simp only[tV]at this;exact this
 obtain⟨⟨tx,pa,pn,pc,ma,mn,mc,hR,_,_⟩,⟨⟨x0,x1,x2,va,vc,z,cs,hM,G,H⟩,f⟩,_⟩:=h;obtain⟨ta,tc,d,s⟩:=pqc _ hi H;obtain⟨xa,cap,D,b⟩:=qp G;injection D with E _ F;subst E;subst F;obtain⟨g,rfl,J,A,y⟩:=b _ hi;have x:=wQ hR;have v:=wQ hM;have O:=qkg (f.stay<|a.block nb f.lt) B;have K:=qkg (show kkd W.drew nb tab from(f.stay<|a.block nb f.lt).stay rfl) B;have Q:=kzh<|(a.block R x).trans hR;have P:=kzh<|(a.block M v).trans hM;have n0:=kj6 l;have S:=jl i;have m:=show pjd lo w (vars[(kjw tab d7.x.toList).xx]) ta tc from s
 have cc:∀j,j<5->W.cell? ⟨g,(kjw tab d7.x.toList).xx*5+j,none⟩=cs[(kjw tab d7.x.toList).xx*5+j]?:=λj N=>(a.cell (p:=⟨g,_,none⟩) A).trans<|y _ aj
 have c0:=(cc 0 aj).trans d.1;have c1:=(cc 1 aj).trans d.2.1;have c2:=(cc 2 aj).trans d.2.2.1;have c3:=(cc 3 aj).trans d.2.2.2.1;have c4:=(cc 4 aj).trans d.2.2.2.2;rw[Qk]at c0;have I:=vzz<|kjw tab d7.x.toList;generalize kjw tab d7.x.toList=q at *;have u:=oz c.symm;generalize C:vars[q.xx]=vv at *;clear C cc d y b hM hR l c;unfold ptV;go_in
 go_wp21;rw[ku u];go_region
 go_wp2;exact kx0 results233 underlying213 (xw6 i) ⟨ta,tc,rfl,m,(((((a.drew.setCell (by omega:w.heap.size<=w.heap.size+1) _).setCell (by omega:w.heap.size<=w.heap.size+1) _).setCell (by omega:w.heap.size<=w.heap.size+1) _).setCell (by omega:w.heap.size<=w.heap.size+1) _).setCell (by omega:w.heap.size<=w.heap.size+1) _)⟩
theorem kj5.nodup(h:kj5 w lo t):(t.map (·.1.toList)).Nodup:=h.2.1
theorem kj5.other(h:kj5 w lo t){j2:Addr}(d:lo≠j2.block)(u:Value):kj5 (w.setCell j2 u) lo t:=by obtain⟨⟨es,c,h1,a⟩,b⟩:=h;exact⟨⟨es,c,by rw[jz d];exact h1,a⟩,b⟩
theorem vxz(n:Tok)(e:Ent)(h:kj5 w lo t)(u:ky3 t)(k:n.x.size<=1000):Calls prog 156 #[.map (some lo),ptV n,qy7 e] w λr w'=>r=.returned (.tuple #[])/\kj5 w' lo (kyw t n e)/\Kept lo w w':=by
 obtain⟨W,f⟩:=cpy<|(w.alloc<|.cells #[.string n.x,.int .i64 n.v] 107).alloc (.cells (qkr e).toArray 294);have c:oq w W:=by rw[f];exact(jZ w).trans ((jZ _).mono ay)
 have l:=h.kept c;have i:=h.kept<|(jZ w (o:=.cells #[.string n.x,.int .i64 n.v] 107)).trans ((jZ _ (o:=.cells (qkr {e with N:=n.v}).toArray 294)).mono ay);have p:=kvb l k;have z:=kw6<|zl t n.x.toList;obtain⟨E,m⟩:=ju (show kyw t n e=if (zl t n.x.toList).V==0 then t++[(n.x,{e with N:=n.v})] else t from rfl) (px1 u h.nodup (s:=n.x.toList));generalize g:zl t n.x.toList=q at *;have x:Kept lo w W:=.of_below c;rw[f]at p;clear g;unfold ptV qy7 qkr kjs at *;simp only[QU,Qd]at *;cases a:(q.V==0)
 ·rw[a]at E;simp only[ru,Xv]at E;go_wp2;go_end0;grind [ku]
 ·rw[a]at E;simp only[Xw]at E;rw[su]at a;have d:=(ku m) a;have A:(q.V==0)=true:=by simp_all
  clear a;obtain⟨w',b,y,j⟩:=xje (e:={e with N:=n.v}) i k d;unfold qy7 qkr kjs at b;simp only[QU,Qd]at b;have v:=(((Kept.refl lo w).alloc _).alloc _).trans j;clear d f;go_wp2;go_end0;grind [ku]
end Go.Proofs.YtpmcnonmkghokaaGreatDoor

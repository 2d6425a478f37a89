import Derived.Test.YtpmcnonmkghokaaGreatDoorT07
import Derived.Test.YtpmcnonmkghokaaGreatDoorT04
import Derived.Test.YtpmcnonmkghokaaGreatDoorT05
import Derived.Test.YtpmcnonmkghokaaGreatDoorT06
import Derived.Deep.AppendLies
import Derived.Deep.RegionLaw
import Derived.Deep.DrawnRows
import Derived.Deep.CutRange
set_option maxRecDepth 100000
set_option maxHeartbeats 4000000
set_option linter.unusedVariables false
set_option linter.unusedSimpArgs false
namespace Go.Proofs.YtpmcnonmkghokaaGreatDoor
open Go.Proofs.Tryz
open Go.RowKit
variable {p:List PP×RS}{L acc:List Tok}{B0 B1 F P b f lo lo':Nat}{o:Obj}{fin:PB×RS}{g:PX×RS}{s s1 s3 st:RS}{name:Tok}{k:Tok×RS}{t:TypeId}{v x x0 x1 x2 x3 x4 x5 x6 x7 x8 x9:Value}{a w w' wx wy:World}
theorem pqw {l:List Value}(h:l.length=9):∃c0 c1 c2 c3 c4 c5 c6 c7 c8,l=[c0,c1,c2,c3,c4,c5,c6,c7,c8]:=by
 match l,h with
 |[c0,c1,c2,c3,c4,c5,c6,c7,c8],_=>exact⟨_,_,_,_,_,_,_,_,_,rfl⟩
def jvy (L:List Tok)(F:Nat)(fin:PB×RS)(acc:PB)(s:RS):Prop:=
 (s.bad=true/\fin.2=s)\/(s.bad=false/\∃g,g<F/\2*(L.length-s.at_)+1<=g/\fin=(kk0 acc (rS g 1 L s).1,qy L [125] (rS g 1 L s).2))
theorem jvj (b:st.bad=false->2*(L.length-st.at_)+2<=f)(c:st.at_<L.length):jvy L f (rS f 0 L st) .nil (qy L [123] st):=by
 cases hb:st.bad
 ·have:=b hb;obtain⟨f,rfl⟩:∃k,f=k+1:=⟨f-1,aj⟩;rw[rS];cases a:(qy L [123] st).bad
  ·have:=kv0 a;exact Or.inr ⟨a,f,aj,aj,rfl⟩
  ·exact Or.inl ⟨a,by show qy L [125] (rS f 1 L (qy L [123] st)).2=_;rw[kk6 a,kqp a]⟩
 ·rw[kqp hb];exact Or.inl ⟨hb,kk6 hb _ _⟩
def zza (L:List Tok)(s:RS):Bool:=qo L oh s||kqc L og s
theorem zjw (h:zza L s=true):s.bad=false/\qo L [125] s=false:=by
 unfold zza at h;rw[Qu]at h;rcases h with h|h
 ·have:=kqt h;refine⟨this.2,?_⟩;unfold qo kwv;rw[this.1];simp
 ·unfold kqc at h;simp only[wW,Qm]at h;refine⟨h.1,?_⟩;have a:=h.2;rw[rQ]at a;unfold qo kwv;rw[a];simp
theorem vqr (b:bg L)(a:s.at_<L.length)(h:zza L s=true):s.at_+1<L.length:=by
 unfold zza at h;rw[Qu]at h;rcases h with h|h
 ·exact(kjq b a h).2
 ·unfold kqc at h;simp only[wW]at h;have c:=h.2;rw[rQ]at c;exact b.fin a (by rw[(b.ok _ a).fin,c];rfl)
theorem zvr {acc:PB}  (h:jvy L F fin acc s)(d:zza L s=true):∃g,g+1<F/\2*(L.length-s.at_)+1<=g+1 /\
  fin=(kk0 acc (kk0 (rDo (rS g 0 L) L s).1 (rS g 1 L (rDo (rS g 0 L) L s).2).1),qy L [125] (rS g 1 L (rDo (rS g 0 L) L s).2).2):=by
 obtain⟨hb,hn⟩:=zjw d;rcases h with⟨h1,_⟩|⟨h1,g,a,b,c⟩
 ·rw[h1]at hb;cases hb
 ·obtain⟨g,rfl⟩:∃k,g=k+1:=⟨g-1,aj⟩;refine⟨g,a,b,?_⟩;rw[c,rS,if_neg (by rw[hn,hb];simp)]
theorem zvt {g: Nat}  {acc b:PB}{s:RS}{r:PB×RS}
  (h:g+1<F/\(r.2.bad=false->2*(L.length-r.2.at_)+1<=g)/\fin=(kk0 acc (kk0 r.1 (rS g 1 L r.2).1),qy L [125] (rS g 1 L r.2).2)) (e:kq4 b=1) (hb:r.2.bad=false->b=r.1):jvy L F fin (kk0 acc b) r.2:=by
 obtain⟨h1,d,c⟩:=h;cases a:r.2.bad
 ·refine Or.inr ⟨a,g,aj,d a,?_⟩;rw[c,hb a,qwi]
 ·refine Or.inl ⟨a,?_⟩;rw[c];show qy L [125] (rS g 1 L r.2).2=r.2;rw[kk6 a,kqp a]
theorem vx4 {acc:PB}  (h:jvy L F fin acc s)(b:zza L s=false):fin.2=qy L [125] s/\(fin.2.bad=false->fin.1=acc):=by
 unfold zza at b;rw[QY]at b;rcases h with⟨h1,c⟩|⟨h1,g,j,c,a⟩
 ·rw[kqp h1];exact⟨c,λhb=>by rw[c,h1]at hb;cases hb⟩
 ·obtain⟨g,rfl⟩:∃k,g=k+1:=⟨g-1,aj⟩;cases hn:qo L [125] s
  ·have i:(rDo (rS g 0 L) L s).2={s with bad:=true}:=by
    have d:qm L og s=(zf,{s with bad:=true}):=by unfold qm;rw[b.2];rfl
    have f:(yt L s).2={s with bad:=true}:=by
     unfold yt;simp only;rw[d];simp only;rw[kq7 rfl];rfl
    unfold rDo;rw[b.1];simp only[wU,if_false];rw[f,kqp rfl,kjz rfl,kqp rfl]
   rw[rS,if_neg (by rw[hn,h1];simp)]at a;have e:fin.2={s with bad:=true}:=by
    rw[a];show qy L [125] (rS g 1 L (rDo (rS g 0 L) L s).2).2=_;rw[i,kk6 rfl,kqp rfl]
   refine⟨?_,λhb=>by rw[e]at hb;cases hb⟩;rw[e];unfold qy;rw[hn];simp
  ·rw[rS,if_pos (by rw[hn];rfl)]at a;rw[a];exact⟨rfl,λ_=>by simp only;rw[zvh]⟩
def vj5 (w:World)(P:Nat)(v:Value)(L:List Tok)(F:Nat)(fin:PB×RS)(st0:RS)(x:Value)(wr:World):Prop:=
 ∃(acc:PB) (cs:List Value) (s:RS),jvy L F fin acc s/\(s.bad=false->st0.bad=false)/\kq4 acc<=s.at_+s.bad.toNat/\wr.ownsRow w.heap.size 334 9 x (kq4 acc) cs/\BIs w.heap.size x.ownBlock wr acc cs/\Pd wr P v L s/\Kept P w wr
theorem zkd (f:Nat)(w:World)(P:Nat)(v:Value)(L:List Tok)(st:RS)(W:st.bad=false->vj6)(hS:st.bad=false->∀g,g<f->jz8 g)(h:Pd w P v L st)(hf:st.bad=false->2*(L.length-st.at_)+2<=f):
  qJ 211 #[.pointer (some ⟨P,0,none⟩)] w λe w'=>zw8 P v L w (rS f 0 L st) e w':=by
 have C:=h.in;have HV:=pG h.mg;have hL:=h.ok;have aK:=hL.len;have aC:=jvj hf h.lt;generalize rS f 0 L st=fin at *;go_enter func211,ntmps211
 go_wp2_with fail
 refine(qkj [123] ak rfl _ P v L st h).mono ?_;rintro e w1 ⟨rfl,h1,aG⟩;go_wp2_with fail
 go_loopw [3] (λx wr=>vj5 w P v L f fin st x wr) (λ_ wr=>L.length-qvf wr P)
 case atStart=>exact(show vj5 w P v L f fin st (.slice none 0 0) w1 from⟨.nil,[],qy L [123] st,aC,λhb=>kja hb,by simp[kq4],wB _ _ _ _,rfl,h1,aG⟩)
 case round=>
  obtain⟨acc,cs,s,HL,u,K,a5,aD,hp,i⟩:=hrel;have a8:=hp.lt;have aL:s.bad.toNat<=1:=by cases s.bad<;>decide
  have HP:=pG hp;obtain⟨xa,xl,xc,rfl⟩:=zq a5;go_wp2_with fail
  refine(qqb oh ak _ P v L s HP).mono ?_;rintro e w2 ⟨rfl,d,a0⟩;have T:=jg (pG a5) a0 C;have M:=(pG aD).stay (λk h1 d=>a0.block k d aj);have Q:=(pG i).trans a0;cases hn:qo L oh s
  ·go_wp2_with fail
   refine(vqj _ P v L s d).mono ?_;rintro e w3 ⟨t,rfl,_,aI,a6⟩;have a1:Kept P w2 w3:=.of_below a6;go_wp2_with fail
   refine(zvq t _).mono ?_;rintro e w4 ⟨rfl,a7⟩;rw[aI];have a2:Kept P w3 w4:=.of_below a7;have H4:=(d.below a6).below a7;have U:=jg (jg T a1 C) a2 C;have N:=(M.stay (λk h1 d=>a1.block k d aj)).stay (λk h1 d=>a2.block k d aj);have R:=(Q.trans a1).trans a2;cases a9:kqc L og s
   ·obtain⟨aB,aE⟩:=vx4 HL (by unfold zza;rw[hn,a9];rfl);go_wp2_with fail
    refine(qje [125] ak rfl rfl _ P v L s H4).mono ?_;rintro e w5 ⟨rfl,H5,a3⟩;go_wp2
    go_ret
    exact⟨xa,xl,xc,acc,cs,rfl,(jg U a3 C),(N.stay (λk h1 d=>a3.block k d aj)),λhb=>((pG aE) hb).symm,by rw[aB];exact H5,(R.trans a3),aj⟩
   ·have m:zza L s=true:=by unfold zza;rw[hn,a9];rfl
    have c:=(zjw m).1;obtain⟨g,Y,aF,S⟩:=zvr HL m;go_wp2_with fail
    refine(zyz g _ P v L s (λ_=>W (u c)) (λ_=>hS (u c) g aj) H4 (λ_=>aj)).mono ?_;rintro e w6 ⟨G,c6,rfl,l,q,O,Z,h6,p⟩;have y:=l.len;rw[q]at y;have j:=jg U p C;have B:=R.trans p;have aJ:=B.size;have HM:=zvt (L:=L) (F:=f) (g:=g) (fin:=fin) (acc:=acc) (b:=G) (s:=s) ⟨Y,λhb=>jM,S⟩ q Z;have aH:=qyt (L:=L) (st:=s) (λs=>kk2 L g 0 s);have E:=qk7 (L:=L) (st:=s) (λs=>kk2 L g 0 s) (λs hb=>qk6 hb g 0);generalize rDo (rS g 0 L) L s=J at *;obtain⟨c0,c1,c2,c3,c4,c5,c6,c7,c8,rfl⟩:=pqw aj;go_wp2_with (at_builtin;refine apO (j.alloc _) ?_ (h1:=sG.2 O))
    intro v7 A z a aA H;have D:=xg j;have a4:Kept P w A:=(B.alloc _).grown a D;have V:Pd A P v L J.2:=((pG h6).alloc _).grown a D HV C;have I:BIs w.heap.size v7.ownBlock A (kk0 acc G) (cs++[c0,c1,c2,c3,c4,c5,c6,c7,c8]):=
     BIs.kv4 (j.alloc _) a (λk i=>(jwy H k i).imp id (λh=>iw)) (((N.stay (λk h1 d=>p.block k d aj)).app ((l.shun (no':=(Value.slice xa xl xc).ownBlock) (λk i=>Or.inr (Or.inr (mg U k i)))).mono R.size)).stay (λk _ i=>tX _ _ _ i))
    go_wp2
    go_roundw
    case rel=>exact(show vj5 w P v L f fin st v7 A from⟨kk0 acc G,_,J.2,HM,λ_=>u c,iy,by rw[qz9,q];exact z,I,V,a4⟩)
    case measure=>exact(kky HP V c (vqr hL a8 m) E)
  ·have m:zza L s=true:=by unfold zza;rw[hn];rfl
   have c:=(zjw m).1;obtain⟨g,Y,aF,S⟩:=zvr HL m;go_wp2_with fail
   refine(zyz g _ P v L s (λ_=>W (u c)) (λ_=>hS (u c) g aj) d (λ_=>aj)).mono ?_;rintro e w6 ⟨G,c6,rfl,l,q,O,Z,h6,p⟩;have y:=l.len;rw[q]at y;have j:=jg T p C;have B:=Q.trans p;have aJ:=B.size;have HM:=zvt (L:=L) (F:=f) (g:=g) (fin:=fin) (acc:=acc) (b:=G) (s:=s) ⟨Y,λhb=>jM,S⟩ q Z;have aH:=qyt (L:=L) (st:=s) (λs=>kk2 L g 0 s);have E:=qk7 (L:=L) (st:=s) (λs=>kk2 L g 0 s) (λs hb=>qk6 hb g 0);generalize rDo (rS g 0 L) L s=J at *;obtain⟨c0,c1,c2,c3,c4,c5,c6,c7,c8,rfl⟩:=pqw aj;go_wp2_with (at_builtin;refine apO (j.alloc _) ?_ (h1:=sG.2 O))
   intro v7 A z a aA H;have D:=xg j;have a4:Kept P w A:=(B.alloc _).grown a D;have V:Pd A P v L J.2:=((pG h6).alloc _).grown a D HV C;have I:BIs w.heap.size v7.ownBlock A (kk0 acc G) (cs++[c0,c1,c2,c3,c4,c5,c6,c7,c8]):=
    BIs.kv4 (j.alloc _) a (λk i=>(jwy H k i).imp id (λh=>iw)) (((M.stay (λk h1 d=>p.block k d aj)).app ((l.shun (no':=(Value.slice xa xl xc).ownBlock) (λk i=>Or.inr (Or.inr (mg T k i)))).mono Q.size)).stay (λk _ i=>tX _ _ _ i))
   go_wp2
   go_roundw
   case rel=>exact(show vj5 w P v L f fin st v7 A from⟨kk0 acc G,_,J.2,HM,λ_=>u c,iy,by rw[qz9,q];exact z,I,V,a4⟩)
   case measure=>exact(kky HP V c (vqr hL a8 m) E)
theorem vx2:vj6:=λg w P v L st hb h=>by
 have:=zkd 0 w P v L st (λh=>iZ) (λh=>iZ) h (λh=>iZ);refine this.mono ?_;rintro e w' ⟨j,l,k,b,cs,h1,c,d,f,a,i⟩;rw[kk6 hb]at f a;exact⟨j,l,k,b,cs,h1,c,d,λh=>(by rw[kk6 hb,hb]at h;cases h),by rw[kk6 hb];exact a,i⟩
theorem vy7 (f:Nat):jz8 f:=by
 induction f using Nat.strongRecOn with
 |ind f ih=>exact λw P v L st h a=>zkd f w P v L st (λ_=>vx2) (λ_ g b=>ih g b) h a
theorem jwk (w:World)(P:Nat)(v:Value)(L:List Tok)(st:RS)(h:Pd w P v L st):
  qJ 211 #[.pointer (some ⟨P,0,none⟩)] w λe w'=>zw8 P v L w (rS (kyv L) 0 L st) e w':=
 vy7 (kyv L) w P v L st h (λ_=>by unfold kyv;omega)
theorem kjj (h:w.heap[b]?=some (.cells #[x0,x1,x2,x3,x4,x5,x6,x7,x8,x9] t (0,0))):
  (Ce w b 0 x0/\Ce w b 1 x1/\Ce w b 2 x2/\Ce w b 3 x3/\Ce w b 4 x4/\Ce w b 5 x5/\Ce w b 6 x6/\Ce w b 7 x7/\Ce w b 8 x8/\Ce w b 9 x9) /\
  (Fr w b 0/\Fr w b 1/\Fr w b 2/\Fr w b 3/\Fr w b 4/\Fr w b 5/\Fr w b 6/\Fr w b 7/\Fr w b 8/\Fr w b 9):=
 ⟨⟨rc h 0,rc h 1,rc h 2,rc h 3,rc h 4,rc h 5,rc h 6,rc h 7,rc h 8,rc h 9⟩,
  ⟨rf h 0,rf h 1,rf h 2,rf h 3,rf h 4,rf h 5,rf h 6,rf h 7,rf h 8,rf h 9⟩⟩
theorem jx4 (h:w.heap[b]?=some (.cells #[x0,x1,x2,x3,x4,x5,x6,x7,x8,x9] t (0,0)))(y0 y1 y2 y3 y4 y5 y6 y7 y8 y9:Value):
  (puts b [y0,y1,y2,y3,y4,y5,y6,y7,y8,y9] 0 w).heap[b]?=some (.cells #[y0,y1,y2,y3,y4,y5,y6,y7,y8,y9] t (0,0)):=zqe _ _ h
theorem Pd.jx5 {B: Nat}    (h:Pd w P v L st)(a:∀g,v.ownBlock=some g->g<B)(c:P<B)  (hb:B<=b)(y0 y1 y2 y3 y4 y5 y6 y7 y8 y9:Value):
  Pd (puts b [y0,y1,y2,y3,y4,y5,y6,y7,y8,y9] 0 w) P v L st:=h.qz7 a c hb _ _
theorem Kept.jx5 (h:Kept P a w)  (hb:a.heap.size<=b)(y0 y1 y2 y3 y4 y5 y6 y7 y8 y9:Value):
  Kept P a (puts b [y0,y1,y2,y3,y4,y5,y6,y7,y8,y9] 0 w):=h.qz7 hb _ _
structure VrT where
 name:Tok
 arr:Bool
 over:Tok
 si:SiT
def kjp (x:VrT):List Value:=[.string x.name.text,.int .i64 x.name.at_,.bool x.arr,.string x.over.text,.int .i64 x.over.at_,.int .i64 x.si.form,.int .i64 (kq8 x.si.top.text),.int .i64 x.si.top.at_,.string x.si.name.text,.int .i64 x.si.name.at_]
def vrV (x:VrT):Value:=.agg (kjp x).toArray
def qwy (L:List Tok)(st:RS):RS:=qy L [58] (qm L og (qy L oZ st)).2
def vrT (L:List Tok)(st:RS):VrT:=⟨(qm L og (qy L oZ st)).1,qo L [91] (qwy L st),(kjb L (qwy L st)).1,siT L (kjb L (qwy L st)).2⟩
theorem pqi (h1:qy L oZ st=s1)(a:qm L og s1=k)(b:qy L [58] k.2=s3):
  vrT L st=⟨k.1,qo L [91] s3,(kjb L s3).1,siT L (kjb L s3).2⟩/\(kwm L st).2=qy L [59] (kxe L (kjb L s3).2).2:=by
 subst h1;subst a;subst b;exact⟨rfl,rfl⟩
theorem zvx (h:w.heap[b]?=some (.cells #[x0,x1,x2,x3,x4,x5,x6,x7,x8,x9] t (0,0)))(y5 y6 y7 y8 y9:Value):
  (puts b [y5,y6,y7,y8,y9] 5 w).heap[b]?=some (.cells #[x0,x1,x2,x3,x4,y5,y6,y7,y8,y9] t (0,0)):=zqe _ _ h
theorem zvz {c: Nat}  (h:w.heap[c]?=some o)(a:c≠b)(y5 y6 y7 y8 y9:Value):
  (((((w.setCell ⟨b,5,none⟩ y5).setCell ⟨b,6,none⟩ y6).setCell ⟨b,7,none⟩ y7).setCell ⟨b,8,none⟩ y8).setCell ⟨b,9,none⟩ y9).heap[c]?=some o:=by
 rw[wP _ _ _ _ a,wP _ _ _ _ a,wP _ _ _ _ a,wP _ _ _ _ a,wP _ _ _ _ a];exact h
theorem qw6 (w:World)(P:Nat)(v:Value)(L:List Tok)(st:RS)(h:Pd w P v L st):
  qJ 149 #[.pointer (some ⟨P,0,none⟩)] w λe w'=>e=.returned (vrV (vrT L st))/\Pd w' P v L (kwm L st).2/\Kept P w w':=by
 have d:=h.in;have c:=pG h.mg;go_enter func149,ntmps149
 go_wp2_with fail
 refine(kjy oZ ak rfl rfl _ P v L st (h.alloc _)).mono ?_;rintro e w1 ⟨rfl,h1,U⟩;obtain⟨hI,hJ⟩:=pqi (L:=L) (st:=st) rfl rfl rfl;have Y:=pG hI;have Z:=pG hJ;clear hI hJ;generalize qy L oZ st=s1 at *;have a9:=U.row (b:=w.heap.size) aj (qg _ _);have a1:=pG ((Kept.kqn _).trans U);have H1:=pG h1;have a4:=pG a9;clear h1 U a9 h;go_wp2_with fail
 refine(kx7 _ P v L _ (ku H1)).mono ?_;rintro e a ⟨rfl,h2,V⟩;generalize qm L og s1=k at *;have a2:=pG ((ku a1).trans V);have W:=V.row aj (ku a4);have aA:=wu W;have a5:=pG W;have H2:=pG h2;clear h2 V a1 a4 H1 W;unfold ptV;go_wp2_with fail
 refine(kjy [58] ak rfl rfl _ P v L _ ((ku H2).alloc _)).mono ?_;rintro e w3 ⟨rfl,h3,C⟩;generalize qy L [58] k.2=s3 at *;have a6:=pG (C.row aj (zy (ku a5)));have a7:=pG (C.row (b:=a.heap.size) aj (qg _ _));have a3:=pG (((ku a2).alloc _).trans C);have H3:=pG h3;clear h3 C H2 a5 a2;go_wp2_with fail
 refine(qqb [91] ak _ P v L _ (ku H3)).mono ?_;rintro e w4 ⟨rfl,h4,D⟩;have B:=pG (D.row aj (ku a6));have u:=pG (D.row aj (ku a7));have A:=pG ((ku a3).trans D);have X:=pG h4;clear h4 D H3 a6 a7 a3;cases hn:qo L [91] s3
 ·have H:=pG (show kjb L s3=(zf,s3) by unfold kjb;rw[hn];rfl);rw[hn,ku H]at Y;rw[ku H]at Z;go_wp2_with fail
  refine(zz8 _ P v L _ (ku X)).mono ?_;rintro e w5 ⟨rfl,S,f⟩;have t:=pG (f.row aj (ku B));have l:=f.row (b:=a.heap.size) aj (ku u);have s:=pG ((ku A).trans f);have E:=pG S;clear S f X B u A;generalize siT L s3=q at *;obtain⟨⟨_,_,_,_,_,M,N,O,Q,R⟩,⟨_,_,_,_,_,f5,f6,f7,f8,f9⟩⟩:=kjj l;have x:=pG l;clear l;unfold siV;go_wp2_with fail
  clear M N O Q R f5 f6 f7 f8 f9;refine(kjy [59] ak rfl rfl _ P v L _ ((((((ku E).setOther (ku c) d ay _).setOther (ku c) d ay _).setOther (ku c) d ay _).setOther (ku c) d ay _).setOther (ku c) d ay _)).mono ?_;rintro e w6 ⟨rfl,T,g⟩;have j:=g.row (b:=w.heap.size) aj (zvz (ku t) aj _ _ _ _ _);have y:=g.row (b:=a.heap.size) aj (zvx (ku x) _ _ _ _ _);have G:=pG ((((((ku s).jk (p:=⟨a.heap.size,5,none⟩) ay _).jk (p:=⟨a.heap.size,6,none⟩) ay _).jk (p:=⟨a.heap.size,7,none⟩) ay _).jk (p:=⟨a.heap.size,8,none⟩) ay _).jk (p:=⟨a.heap.size,9,none⟩) ay _ |>.trans g);obtain⟨⟨d0,d1,d2,d3,d4,d5,d6,d7,d8,d9⟩,⟨e0,e1,e2,e3,e4,e5,e6,e7,e8,e9⟩⟩:=kjj j;obtain⟨⟨g0,g1,g2,g3,g4,M,N,O,Q,R⟩,_⟩:=kjj y;have J:=pG j;have H6:=pG T;clear T g j y E t s x;go_wp2
  refine rY (v:=vrV ⟨k.1,false,zf,q⟩) (rP results149 _ _ w.heap.size _ _ _ _ rfl (jx4 (ku J) _ _ _ _ _ _ _ _ _ _) underlying121 rfl ah) rfl ?_;rw[ku Y,ku Z];exact⟨rfl,(ku H6).jx5 (ku c) d (wJ _) _ _ _ _ _ _ _ _ _ _,(ku G).jx5 (wJ _) _ _ _ _ _ _ _ _ _ _⟩
 ·have H:=pG (show kjb L s3=((sqT L s3).1,qy L [93] (sqT L s3).2) by unfold kjb;rw[hn];rfl);rw[hn,ku H]at Y;rw[ku H]at Z;obtain⟨⟨_,_,g2,_⟩,⟨_,_,f2,_⟩⟩:=kjj (ku u);go_wp2_with fail
  refine(zq3 _ P v L _ ((ku X).setOther (ku c) d ay _)).mono ?_;rintro e aB ⟨rfl,a8,m⟩;clear g2 f2;have I:=pG (m.row (b:=w.heap.size) aj ((wP _ _ _ _ ay).trans (ku B)));have z:=m.row (b:=a.heap.size) aj (heap_setCell_same _ _ 2 _ _ _ (ku u));have F:=pG (((ku A).jk (p:=⟨a.heap.size,2,none⟩) ay (.bool true)).trans m);have a0:=pG a8;clear a8 m X B u A;generalize sqT L s3=i at *;obtain⟨⟨_,_,_,g3,g4,_⟩,⟨_,_,_,f3,f4,_⟩⟩:=kjj z;have K:=pG z;clear z;unfold ptV;go_wp2_with fail
  clear g3 g4 f3 f4;refine(zz8 _ P v L _ ((ku a0).set2 (ku c) d ay ay _ _)).mono ?_;rintro e w5 ⟨rfl,S,f⟩;have t:=pG (f.row (b:=w.heap.size) aj ((wP _ _ _ _ ay).trans ((wP _ _ _ _ ay).trans (ku I))));have l:=f.row (b:=a.heap.size) aj (heap_setCell_same _ _ 4 _ _ _ (heap_setCell_same _ _ 3 _ _ _ (ku K)));have s:=pG ((((ku F).jk (p:=⟨a.heap.size,3,none⟩) ay _).jk (p:=⟨a.heap.size,4,none⟩) ay _).trans f);have E:=pG S;clear S f a0 I K F;generalize siT L (qy L [93] i.2)=q at *;generalize qy L [93] i.2=s5 at *;obtain⟨⟨_,_,_,_,_,M,N,O,Q,R⟩,⟨_,_,_,_,_,f5,f6,f7,f8,f9⟩⟩:=kjj l;have x:=pG l;clear l;unfold siV;go_wp2_with fail
  clear M N O Q R f5 f6 f7 f8 f9;refine(kjy [59] ak rfl rfl _ P v L _ ((((((ku E).setOther (ku c) d ay _).setOther (ku c) d ay _).setOther (ku c) d ay _).setOther (ku c) d ay _).setOther (ku c) d ay _)).mono ?_;rintro e w6 ⟨rfl,T,g⟩;have j:=g.row (b:=w.heap.size) aj (zvz (ku t) aj _ _ _ _ _);have y:=g.row (b:=a.heap.size) aj (zvx (ku x) _ _ _ _ _);have G:=pG ((((((ku s).jk (p:=⟨a.heap.size,5,none⟩) ay _).jk (p:=⟨a.heap.size,6,none⟩) ay _).jk (p:=⟨a.heap.size,7,none⟩) ay _).jk (p:=⟨a.heap.size,8,none⟩) ay _).jk (p:=⟨a.heap.size,9,none⟩) ay _ |>.trans g);obtain⟨⟨d0,d1,d2,d3,d4,d5,d6,d7,d8,d9⟩,⟨e0,e1,e2,e3,e4,e5,e6,e7,e8,e9⟩⟩:=kjj j;obtain⟨⟨g0,g1,g2,g3,g4,M,N,O,Q,R⟩,_⟩:=kjj y;have J:=pG j;have H6:=pG T;clear T g j y E t s x;go_wp2
  refine rY (v:=vrV ⟨k.1,true,i.1,q⟩) (rP results149 _ _ w.heap.size _ _ _ _ rfl (jx4 (ku J) _ _ _ _ _ _ _ _ _ _) underlying121 rfl ah) rfl ?_;rw[ku Y,ku Z];exact⟨rfl,(ku H6).jx5 (ku c) d (wJ _) _ _ _ _ _ _ _ _ _ _,(ku G).jx5 (wJ _) _ _ _ _ _ _ _ _ _ _⟩
end Go.Proofs.YtpmcnonmkghokaaGreatDoor
namespace Go.Proofs.YtpmcnonmkghokaaGreatDoor
open Go.Proofs.Tryz
open Go.RowKit
attribute [local go_sem ↓] Go.wp_at_zero Go.wp_at_succ
variable {p:List PP×RS}{L acc:List Tok}{B0 B1 F P b f lo lo':Nat}{o:Obj}{fin:PB×RS}{g:PX×RS}{s s1 s3 st:RS}{name:Tok}{k:Tok×RS}{t:TypeId}{v x x0 x1 x2 x3 x4 x5 x6 x7 x8 x9:Value}{a w w' wx wy:World}
theorem vws (h:w.heap[b]?=some (.cells #[x0,x1,x2] t (0,0)))(y0 y1 y2:Value):
  (puts b [y0,y1,y2] 0 w).heap[b]?=some (.cells #[y0,y1,y2] t (0,0)):=zqe _ _ h
structure qww (w:World)(P:Nat)(v:Value)(L:List Tok)(B0 B1:Nat)(name:Tok)(acc:List Tok)(s:RS)(x:Value)(wx:World):Prop where
 b0:wx.heap[B0]?=some (.cells #[.string ⟨#[]⟩,.int .i64 0,.slice none 0 0] 114 (0,0))
 b1:wx.heap[B1]?=some (.cells #[.string name.text,.int .i64 name.at_,x] 114 (0,0))
 own:wx.ownsRow (B1+1) 107 2 x acc.length (kqe acc)
 pd:Pd wx P v L s
 kept:Kept P w wx
theorem qww.kept' {b: RS}   (h:qww w P v L B0 B1 name acc s x wx)(a:Kept P wx wy)(d:Pd wy P v L b)(c:B0≠P)(h1:P<B1):qww w P v L B0 B1 name acc b x wy:=
 ⟨a.row c h.b0,a.row aj h.b1,jg h.own a aj,d,h.kept.trans a⟩
theorem qww.more {y: Value}  {t:Tok}  (h:qww w P v L B0 B1 name acc s x wx)(b:(wx.alloc o).grownBy wy x.ownBlock)
  (c:wy.ownsRow (B1+1) 107 2 y (acc.length+1) (kqe acc++kj9 t)) (d:∀g,v.ownBlock=some g->g<w.heap.size) (l:P<w.heap.size) (f:w.heap.size=B0) (u:B0<B1):qww w P v L B0 B1 name (acc++[t]) s y (wy.setCell ⟨B1,2,none⟩ y):=by
 subst f;have a:=xg h.own;have p:=wu h.b0;have q:=wu h.b1;have i:wy.heap[w.heap.size]?=wx.heap[w.heap.size]?:=(b.block _ ay (λe=>by have:=a _ e.symm;omega)).trans (tX _ _ _ p);have j:wy.heap[B1]?=wx.heap[B1]?:=(b.block _ ay (λe=>by have:=a _ e.symm;omega)).trans (tX _ _ _ q);refine⟨by rw[wP _ _ _ _ ay,i];exact h.b0,heap_setCell_same _ _ 2 _ _ _ (j.trans h.b1),?_,?_,?_⟩
 ·rw[qju,wY];exact ownsRow_setCell_other c (λe=>by have:=xg c _ e;simp at this;omega) _
 ·exact((h.pd.alloc o).grown b a (λg b=>by have:=d g b;omega) aj).setOther (B:=w.heap.size) d l ay _
 ·exact(((h.kept.alloc o).grown b (λk m=>by have:=a k m;omega)).jk ay _)
def zw4 (L:List Tok)(fin:List Tok×RS)(acc:List Tok)(s:RS):Prop:=
 (s.bad=true/\fin.2=s)\/(s.bad=false/\1<=acc.length/\∃f,L.length<=s.at_+f/\(if qo L [44] s then kk9 f L acc (qy L [44] s) else (acc,s))=fin)
theorem jwh (d:L.length<=s.at_+f):zw4 L (kk9 (f+1+1) L [] s) [(qm L og s).1,(qm L og (qy L [44] (qm L og s).2)).1] (qm L og (qy L [44] (qm L og s).2)).2:=by
 cases hb:s.bad
 ·rw[kk9];simp only[hb,wU,if_false,Jh,QU,Nat.reduceLT,decide_true,Ju,if_true,Qc];have g:=kq9 L og s;have h:=jh L [44] (qm L og s).2;generalize qy L [44] (qm L og s).2=c at *;have i:=kq9 L og c;rw[kk9];cases a:c.bad
  ·simp only[wU,if_false,JB,Nat.reduceAdd,Nat.lt_irrefl,decide_false,Qk,QD,Qc];cases b:(qm L og c).2.bad
   ·exact Or.inr ⟨b,au,f,aj,rfl⟩
   ·exact Or.inl ⟨b,by rw[kq7 b];rfl⟩
  ·simp only[if_true];exact Or.inl ⟨by rw[kjs a];exact a,by rw[kjs a]⟩
 ·have e:(qm L og (qy L [44] (qm L og s).2)).2=s:=by rw[kjs hb,kqp hb,kjs hb]
  rw[e,kk9];simp only[hb,if_true];exact Or.inl ⟨hb,rfl⟩
theorem jk5 {fin:List Tok×RS}   (k:s.at_<L.length)(h:zw4 L fin acc s)(hn:qo L [44] s=true):zw4 L fin (acc++[(qm L og (qy L [44] s)).1]) (qm L og (qy L [44] s)).2:=by
 rcases h with⟨hb,_⟩|⟨hb,i,f,m,e⟩
 ·rw[kq7 hb]at hn;cases hn
 ·rw[if_pos hn]at e;have c:qy L [44] s={s with at_:=s.at_+1}:=jP;have j:(qy L [44] s).at_=s.at_+1:=by rw[c]
  have b:(qy L [44] s).bad=false:=by rw[c];exact hb
  obtain⟨f,rfl⟩:∃g,f=g+1:=⟨f-1,aj⟩;generalize qy L [44] s=d at *;rw[kk9]at e;simp only[b,wU,if_false]at e;rw[show decide (acc.length+1<2)=false by simp;omega,Qk]at e;have l:=kq9 L og d;cases a:(qm L og d).2.bad
  ·exact Or.inr ⟨a,au,f,aj,e⟩
  ·refine Or.inl ⟨a,?_⟩;rw[kq7 a]at e;rw[<-e];rfl
theorem jwt {fin:List Tok×RS}   (h:zw4 L fin acc s)(hn:qo L [44] s=false):fin.2=s/\(s.bad=false->fin.1=acc):=by
 rcases h with⟨hb,e⟩|⟨hb,_,f,b,e⟩
 ·exact⟨e,λa=>by rw[hb]at a;cases a⟩
 ·rw[hn]at e;simp only[wU,if_false]at e;rw[<-e];exact⟨rfl,λ_=>rfl⟩
theorem vjt (h1:qy L oV st=s1)(a:qm L og s1=k)(b:qy L [123] k.2=s3):
  kzt L st=(⟨k.1,(kk9 (gy L) L [] s3).1⟩,qy L [125] (kk9 (gy L) L [] s3).2):=by
 subst h1;subst a;subst b;rfl
def pzv (P:Nat)(v:Value)(L:List Tok)(w:World)(r:PKind×RS)(e:Ending)(w':World):Prop:=
 ∃x l,e=.returned (.agg #[.string r.1.name.text,.int .i64 r.1.name.at_,x])/\w'.ownsRow w.heap.size 107 2 x l.length (kqe l)/\(r.2.bad=false->l=r.1.members)/\Pd w' P v L r.2/\Kept P w w'/\l.length<=802
def jyh (w:World)(P:Nat)(v:Value)(L:List Tok)(fin:List Tok×RS)(B1:Nat)(name:Tok)(wx:World):Prop:=
 ∃acc s x,zw4 L fin acc s/\acc.length<=s.at_+2/\qww w P v L w.heap.size B1 name acc s x wx
theorem vja (w:World)(P:Nat)(v:Value)(L:List Tok)(st:RS)(h:Pd w P v L st):
  qJ 148 #[.pointer (some ⟨P,0,none⟩)] w λe w'=>pzv P v L w (kzt L st) e w':=by
 have H:=h.in;have F:=pG h.mg;have aI:=h.ok.len;go_enter func148,ntmps148
 go_wp2_with fail
 refine(kjy oV ak rfl rfl _ P v L st (h.alloc _)).mono ?_;rintro e w1 ⟨rfl,h1,T⟩;have HE:=pG (vjt (L:=L) (st:=st) rfl rfl rfl);generalize qy L oV st=s1 at *;have aE:=T.row (b:=w.heap.size) aj (qg _ _);have a2:=pG ((Kept.kqn _).trans T);have H1:=pG h1;have a4:=pG aE;clear h1 T aE h;go_wp2_with fail
 refine(kx7 _ P v L _ (ku H1)).mono ?_;rintro e d ⟨rfl,h2,V⟩;generalize qm L og s1=k at *;have a3:=pG ((ku a2).trans V);have a0:=V.row aj (ku a4);have Y:=wu a0;have a5:=pG a0;have H2:=pG h2;clear h2 V a2 a4 H1 a0;unfold ptV;go_wp2_with fail
 refine(qkj [123] ak rfl _ P v L _ ((ku H2).alloc _)).mono ?_;rintro e w3 ⟨rfl,h3,B⟩;generalize qy L [123] k.2=s3 at *;have y:=pG (show qww w P v L w.heap.size d.heap.size k.1 [] s3 (.slice none 0 0) w3 from⟨B.row aj (zy (ku a5)),B.row (b:=d.heap.size) aj (qg _ _),wB _ _ _ _,h3,((ku a3).alloc _).trans B⟩);clear h3 B H2 a5 a3;go_upto_region 4 with fail
 go_cut [] from 11 to 17 (λwx=>∃x,qww w P v L w.heap.size d.heap.size k.1 [(qm L og s3).1] (qm L og s3).2 x wx)
 case first=>
  obtain⟨_,_,q2,_,_,r2⟩:=row3 (ku y).b1;have Z:=wu (ku y).b1;go_region_law (first
   |(refine apL (news:=(kj9 (qm L og s3).1)) ((ku i).own.alloc _) (heap_alloc_new w5 _) ?_;intro gg cap A g a O W;have R:A.frozen? ⟨d.heap.size,2,none⟩=false:=(a.frozen_far _ ay (by simp[Value.ownBlock])).trans (kjl (below_alloc1 _ _) u r5);have Q:A.cell? ⟨d.heap.size,2,none⟩=some (.slice none 0 0):=(a.cell_far _ ay (by simp[Value.ownBlock])).trans (wZ (below_alloc1 _ _) q5))
   |(go_simp;go_at_call 202;refine(kx7 _ P v L _ ((ku y).pd.below ((Below.refl _ _).drew))).mono ?_;rintro e w5 ⟨rfl,z,j⟩;have c:=(ku y).kept' ((Kept.refl _ _).drew.trans j) z aj aj;obtain⟨_,_,q5,_,_,r5⟩:=row3 c.b1;have i:=pG c;have u:=wu c.b1;clear z j c;unfold ptV;dsimp only))
  all_goals
   go_wp2_with fail
   go_meet
   exact⟨_,(ku i).more a g (ku F) H rfl Y⟩
 case rest=>
 obtain⟨x4,a7⟩:=hcut;have K:=pG a7;have E:=pG (jwh (L:=L) (s:=s3) (f:=L.length) aj);have HF:=pG (show kk9 (L.length+1+1) L [] s3=kk9 (gy L) L [] s3 from rfl);generalize kk9 (L.length+1+1) L [] s3=fin at *;clear y a7;go_wp2_with fail
 generalize qm L og s3=k3 at *;refine(kjy [44] ak rfl rfl _ P v L _ (ku K).pd).mono ?_;rintro e w7 ⟨rfl,h7,aB⟩;have M:=(ku K).kept' aB h7 aj aj;obtain⟨xa,xl,xc,rfl⟩:=zq M.own;have m:=pG M;clear h7 aB M K;generalize qy L [44] k3.2=s7 at *;go_upto_region 6 with fail
 go_cut [] from 20 to 26 (λwx=>∃x,qww w P v L w.heap.size d.heap.size k.1 [k3.1,(qm L og s7).1] (qm L og s7).2 x wx)
 case first=>
  obtain⟨_,_,q2,_,_,r2⟩:=row3 (ku m).b1;have Z:=wu (ku m).b1;go_region_law (first
   |(refine apL (news:=(kj9 (qm L og s7).1)) ((ku i).own.alloc _) (heap_alloc_new w5 _) ?_;intro gg cap A g a O W;have R:A.frozen? ⟨d.heap.size,2,none⟩=false:=(a.frozen_far _ ay (show some d.heap.size≠_ from λe=>nY)).trans (kjl (below_alloc1 _ _) u r5);have Q:A.cell? ⟨d.heap.size,2,none⟩=some (.slice xa xl xc):=(a.cell_far _ ay (show some d.heap.size≠_ from λe=>nY)).trans (wZ (below_alloc1 _ _) q5))
   |(go_simp;go_at_call 202;refine(kx7 _ P v L _ ((ku m).pd.below ((Below.refl _ _).drew))).mono ?_;rintro e w5 ⟨rfl,z,j⟩;have c:=(ku m).kept' ((Kept.refl _ _).drew.trans j) z aj aj;obtain⟨_,_,q5,_,_,r5⟩:=row3 c.b1;have t:=xg c.own;have i:=pG c;have u:=wu c.b1;clear z j c;unfold ptV;dsimp only))
  all_goals
   go_wp2_with fail
   go_meet
   exact⟨_,(ku i).more a g (ku F) H rfl Y⟩
 case rest=>
 obtain⟨x8,a8⟩:=hcut;have a1:=pG (show jyh w P v L fin d.heap.size k.1 _ from⟨_,_,x8,ku E,au,a8⟩);clear m a8 E;go_wp2_with fail
 go_loopw [] (λwr=>jyh w P v L fin d.heap.size k.1 wr) (λwr=>L.length-qvf wr P)
 case atStart=>exact ku a1
 case round=>
  obtain⟨acc,s,x,D,aJ,hR⟩:=hrel;have aC:=hR.pd.lt;have E:=pG D;have J:=pG hR;clear D hR;go_wp2_with fail
  refine(kj7 [44] ak _ P v L s (ku J).pd).mono ?_;rintro e w9 ⟨rfl,G,C⟩;cases I:qo L [44] s
  ·rw[kx4 I]at G;obtain⟨a9,aA⟩:=jwt (ku E) I;have p:=pG ((ku J).kept' C G aj aj);have aF:=pG a9;have aG:=pG aA;clear G C a9 aA;go_wp2_with fail
   refine(qje [125] ak rfl rfl _ P v L s (ku p).pd).mono ?_;rintro e aM ⟨rfl,a6,U⟩;have q:=(ku p).kept' U a6 aj aj;obtain⟨ya,yl,yc,rfl⟩:=zq q.own;obtain⟨d0,d1,d2,e0,e1,e2⟩:=row3 q.b0;obtain⟨g0,g1,g2,_⟩:=row3 q.b1;have l:=pG q;clear a6 U q;go_wp2
   refine rY (v:=.agg #[.string k.1.text,.int .i64 k.1.at_,.slice ya yl yc]) (rP results148 _ _ w.heap.size _ _ _ _ rfl (vws (ku l).b0 _ _ _) underlying114 rfl ah) rfl ?_;rw[ku HE,<-ku HF,ku aF];have S:=xg (ku l).own;refine⟨_,acc,rfl,?_,λhb=>((ku aG) (kja hb)).symm,?_,?_,aj⟩
   ·exact zu aj (ownsRow_setCell_other (ownsRow_setCell_other (ownsRow_setCell_other (ku l).own (λe=>nX) _) (λe=>nX) _) (λe=>nX) _)
   ·exact(((ku l).pd.setOther (ku F) H (wJ _) _).setOther (ku F) H (wJ _) _).setOther (ku F) H (wJ _) _
   ·exact(((ku l).kept.jk (wJ _) _).jk (wJ _) _).jk (wJ _) _
  ·rw[qzj I rfl rfl]at G;have aD:=kjq (ku J).pd.ok aC I;have aK:(qy L [44] s).at_=s.at_+1:=by rw[kzx rfl rfl];unfold zj0;rw[I];rfl
   have HM:=pG (jk5 aC (ku E) I);have N:=(ku J).kept' C G aj aj;obtain⟨xa,xl,xc,rfl⟩:=zq N.own;have p:=pG N;clear G C N E;generalize qy L [44] s=s' at *;have aL:=kq9 L og s';go_wp2_with fail
   obtain⟨_,_,q2,_,_,r2⟩:=row3 (ku p).b1;have Z:=wu (ku p).b1;go_region_law (first
   |(refine apL (news:=(kj9 (qm L og s').1)) ((ku i).own.alloc _) (heap_alloc_new w5 _) ?_;intro gg cap A g a O W;have R:A.frozen? ⟨d.heap.size,2,none⟩=false:=(a.frozen_far _ ay (show some d.heap.size≠_ from λe=>nY)).trans (kjl (below_alloc1 _ _) u r5);have Q:A.cell? ⟨d.heap.size,2,none⟩=some (.slice xa xl xc):=(a.cell_far _ ay (show some d.heap.size≠_ from λe=>nY)).trans (wZ (below_alloc1 _ _) q5))
   |(go_simp;go_at_call 202;refine(kx7 _ P v L _ ((ku p).pd.below ((Below.refl _ _).drew))).mono ?_;rintro e w5 ⟨rfl,z,j⟩;have c:=(ku p).kept' ((Kept.refl _ _).drew.trans j) z aj aj;obtain⟨_,_,q5,_,_,r5⟩:=row3 c.b1;have t:=xg c.own;have i:=pG c;have u:=wu c.b1;clear z j c;unfold ptV;dsimp only))
   all_goals
    have X:=(ku i).more a g (ku F) H rfl Y;have aH:=pG (kky (ku J).pd X.pd aD.1 aD.2 (λ_=>aj));have m:=pG (show jyh w P v L fin d.heap.size k.1 _ from⟨_,_,_,ku HM,ay,X⟩);clear X g a O R Q;go_wp2
    go_roundw
    case rel=>exact ku m
    case measure=>exact ku aH
end Go.Proofs.YtpmcnonmkghokaaGreatDoor
namespace Go.Proofs.YtpmcnonmkghokaaGreatDoor
open Go.Proofs.Tryz
open Go.RowKit
variable {p:List PP×RS}{L acc:List Tok}{B0 B1 F P b f lo lo':Nat}{o:Obj}{fin:PB×RS}{g:PX×RS}{s s1 s3 st:RS}{name:Tok}{k:Tok×RS}{t:TypeId}{v x x0 x1 x2 x3 x4 x5 x6 x7 x8 x9:Value}{a w w' wx wy:World}
def kxq (lo:Nat)(w:World):List PRule->List Value->Prop
 |[],cs=>cs=[]
 |r::rs,cs=>∃pa pn pc gp ba bn bc bcs rest,cs=[.string r.name.text,.int .i64 r.name.at_,.slice pa pn pc,.pointer gp,.slice ba bn bc]++rest/\w.ownsRow lo 352 4 (.slice pa pn pc) r.params.length (xu r.params) /\
   XIs lo w r.guard (.pointer gp)/\w.ownsRow lo 334 9 (.slice ba bn bc) (kq4 r.body) bcs/\BIs lo none w r.body bcs/\kxq lo w rs rest
def kxj (lo:Nat)(w:World):List PRule->List Value->Prop
 |[],cs=>cs=[]
 |r::rs,cs=>∃pa pn pc gp rest,cs=[.string r.name.text,.int .i64 r.name.at_,.slice pa pn pc,.pointer gp]++rest/\w.ownsRow lo 352 4 (.slice pa pn pc) r.params.length (xu r.params) /\
   XIs lo w r.guard (.pointer gp)/\kxj lo w rs rest
theorem kxq.stay {lo:Nat}{w w':World}(a:∀k,lo<=k->k<w.heap.size->w'.heap[k]?=w.heap[k]?):∀{rs:List PRule} {cs:List Value},kxq lo w rs cs->kxq lo w' rs cs
 |[],_,h=>h
 |r::rs,_,⟨pa,pn,pc,gp,ba,bn,bc,bcs,rest,e,h1,h2,h3,h4,h5⟩=>⟨pa,pn,pc,gp,ba,bn,bc,bcs,rest,e,jq a h1,h2.stay a,jq a h3,h4.stay a,kxq.stay a h5⟩
theorem kxj.stay {lo:Nat}{w w':World}(a:∀k,lo<=k->k<w.heap.size->w'.heap[k]?=w.heap[k]?):∀{rs:List PRule} {cs:List Value},kxj lo w rs cs->kxj lo w' rs cs
 |[],_,h=>h
 |r::rs,_,⟨pa,pn,pc,gp,rest,e,h1,h2,h5⟩=>⟨pa,pn,pc,gp,rest,e,jq a h1,h2.stay a,kxj.stay a h5⟩
theorem kxq.mono {lo lo':Nat}{w:World}(a:lo'<=lo):∀{rs:List PRule} {cs:List Value},kxq lo w rs cs->kxq lo' w rs cs
 |[],_,h=>h
 |r::rs,_,⟨pa,pn,pc,gp,ba,bn,bc,bcs,rest,e,h1,h2,h3,h4,h5⟩=>⟨pa,pn,pc,gp,ba,bn,bc,bcs,rest,e,zu a h1,h2.mono a,zu a h3,h4.mono a,kxq.mono a h5⟩
theorem kxj.mono {lo lo':Nat}{w:World}(a:lo'<=lo):∀{rs:List PRule} {cs:List Value},kxj lo w rs cs->kxj lo' w rs cs
 |[],_,h=>h
 |r::rs,_,⟨pa,pn,pc,gp,rest,e,h1,h2,h5⟩=>⟨pa,pn,pc,gp,rest,e,zu a h1,h2.mono a,kxj.mono a h5⟩
theorem kxq.app {lo:Nat}{w:World}:∀{rs ss:List PRule} {cs ds:List Value},kxq lo w rs cs->kxq lo w ss ds->kxq lo w (rs++ss) (cs++ds)
 |[],_,cs,ds,h,h'=>by
  have:cs=[]:=h;subst this;exact h'
 |r::rs,ss,cs,ds,⟨pa,pn,pc,gp,ba,bn,bc,bcs,rest,e,h1,h2,h3,h4,h5⟩,h'=>⟨pa,pn,pc,gp,ba,bn,bc,bcs,rest++ds,lK,h1,h2,h3,h4,h5.app h'⟩
theorem kxj.app {lo:Nat}{w:World}:∀{rs ss:List PRule} {cs ds:List Value},kxj lo w rs cs->kxj lo w ss ds->kxj lo w (rs++ss) (cs++ds)
 |[],_,cs,ds,h,h'=>by
  have:cs=[]:=h;subst this;exact h'
 |r::rs,ss,cs,ds,⟨pa,pn,pc,gp,rest,e,h1,h2,h5⟩,h'=>⟨pa,pn,pc,gp,rest++ds,lK,h1,h2,h5.app h'⟩
def pzq (P:Nat)(v:Value)(L:List Tok)(w:World)(r:PRule×RS)(e:Ending)(w':World):Prop:=
 ∃c0 c1 c2 c3 c4 rr,e=.returned (.agg #[c0,c1,c2,c3,c4])/\kxq w.heap.size w' [rr] [c0,c1,c2,c3,c4]/\(∀u∈[c0,c1,c2,c3,c4],u.oneCell'=true)/\(r.2.bad=false->rr=r.1)/\Pd w' P v L r.2/\Kept P w w'
def pzx (P:Nat)(v:Value)(L:List Tok)(w:World)(r:PRule×RS)(e:Ending)(w':World):Prop:=
 ∃c0 c1 c2 c3 rr,e=.returned (.agg #[c0,c1,c2,c3])/\kxj w.heap.size w' [rr] [c0,c1,c2,c3]/\(∀u∈[c0,c1,c2,c3],u.oneCell'=true)/\(r.2.bad=false->rr=r.1)/\Pd w' P v L r.2/\Kept P w w'
theorem zy7 {a: RS}    {b:PB×RS}(h1:qy L oD st=s1)(c:qm L og s1=k)(d:kql L k.2=p)(e:qy L oh p.2=a)(f:rX (yg L) 0 .nil L a=g)(h:rS (kyv L) 0 L g.2=b):
  kj6 L st=(⟨k.1,p.1,g.1,b.1⟩,b.2):=by
 subst h1;subst c;subst d;subst e;subst f;subst h;rfl
theorem jw6 (h1:qy L oM st=s1)(a:qm L og s1=k)(b:kql L k.2=p)(c:rX (yg L) 0 .nil L p.2=g):
  kjm L st=(⟨k.1,p.1,g.1,.nil⟩,qy L [59] g.2):=by
 subst h1;subst a;subst b;subst c;rfl
theorem kj4.kw6 (h:kj4 lo a w)  (hb:b<lo\/a.heap.size<=b)(y0 y1 y2 y3 y4:Value):
  kj4 lo a (puts b [y0,y1,y2,y3,y4] 0 w):=h.qz7 hb _ _
theorem kj4.zwk (h:kj4 lo a w)  (hb:b<lo\/a.heap.size<=b)(y0 y1 y2 y3:Value):
  kj4 lo a (puts b [y0,y1,y2,y3] 0 w):=h.qz7 hb _ _
theorem qwd {e size:Nat}  {n:Nat}{xs:List Value}(h:w.ownsRow lo e size v n xs)(a:kj4 lo w w'):w'.ownsRow lo e size v n xs:=jq a.block h
theorem vyr {tag: Nat}  (h:(rS f tag L s).2.bad=false):s.bad=false:=by
 cases hb:s.bad
 ·rfl
 ·rw[kk6 hb,hb]at h;cases h
theorem zyx (w:World)(P:Nat)(v:Value)(L:List Tok)(st:RS)(h:Pd w P v L st):
  qJ 150 #[.pointer (some ⟨P,0,none⟩)] w λe w'=>pzq P v L w (kj6 L st) e w':=by
 have hX:=h.in;have HV:=pG h.mg;go_enter func150,ntmps150
 go_wp2_with fail
 refine(kjy oD ak rfl rfl _ P v L st (h.alloc _)).mono ?_;rintro e w1 ⟨rfl,h1,l⟩;have HD:=pG (zy7 (L:=L) (st:=st) rfl rfl rfl rfl rfl rfl);generalize qy L oD st=s1 at *;have s:=l.row (b:=w.heap.size) aj (qg _ _);have aE:=wu s;have K:=pG s;have E:=pG ((Kept.kqn _).trans l);have H1:=pG h1;clear h h1 l s;go_wp2_with fail
 refine(kx7 _ P v L _ (ku H1)).mono ?_;rintro e w2 ⟨rfl,h2,m⟩;generalize qm L og s1=k at *;have t:=m.row aj (ku K);have aF:=wu t;have M:=pG t;have F:=pG ((ku E).trans m);have H2:=pG h2;clear h2 m t H1 K E;go_wp2_with fail
 refine(zz9 _ P v L _ (ku H2)).mono ?_;rintro e w3 ⟨x3,l3,rfl,q,U,h3,f,_⟩;obtain⟨pa,pn,pc,rfl⟩:=zq q;have aB:(qy L oh (kql L k.2).2).bad=false->(kql L k.2).2.bad=false:=λhb=>kja hb
 have x:=f.row aj (ku M);have aG:=wu x;have aD:=f.size;have N:=pG x;have G:=pG ((ku F).trans f);have a3:=pG q;have a2:=pG U;have H3:=pG h3;clear h3 f x q U H2 M F;generalize kql L k.2=p at *;unfold ptV;go_wp2_with fail
 refine(kjy oh ak rfl rfl _ P v L _ ((ku H3).alloc _)).mono ?_;rintro e w4 ⟨rfl,h4,d⟩;generalize qy L oh p.2=D at *;have O:=pG (d.row aj (zy (ku N)));have i:=pG (d.row (b:=w3.heap.size) aj (qg _ _));have aH:=wu (ku i);have H:=pG (((ku G).alloc _).trans d);have J:=pG (((kj4.refl w2.heap.size w3).alloc (.cells #[.string k.1.text,.int .i64 k.1.at_,.slice pa pn pc,.pointer none,.slice none 0 0] 127)).kept d aj);have H4:=pG h4;clear h4 d H3 N G;go_wp2_with fail
 refine(qvq _ P v L D (ku H4)).mono ?_;rintro e w5 ⟨A,t5,rfl,X,W,h5,c⟩;have a9:(rX (yg L) 0 .nil L D).2.bad=false->D.bad=false:=λhb=>zjv hb
 have Q:=pG (c.row aj (ku O));have z:=c.row (b:=w3.heap.size) aj (ku i);have aI:=c.size;have I:=pG ((ku H).trans c);have g:=pG ((ku J).kept c aj);have a6:=pG W;have a8:=pG X;have H5:=pG h5;obtain⟨_,_,_,g3,_,_,_,_,f3,_⟩:=jl z;have R:=pG z;clear h5 c X W z H4 O i H J;generalize rX (yg L) 0 .nil L D=C at *;go_wp2_with fail
 clear g3 f3;refine(jwk _ P v L C.2 ((ku H5).setOther (ku HV) hX ay _)).mono ?_;rintro e w6 ⟨ua,un,uc,b6,c6,rfl,V,j,T,h6,a,_⟩;have aA:(rS (kyv L) 0 L C.2).2.bad=false->C.2.bad=false:=λhb=>vyr hb
 have y:=a.row (b:=w.heap.size) aj ((wP _ _ _ _ ay).trans (ku Q));have Y:=a.row (b:=w3.heap.size) aj (heap_setCell_same _ _ 3 _ _ _ (ku R));have aC:=a.size;simp only[World.setCell,Array.size_modify]at aC;have a1:=pG (((ku I).jk (p:=⟨w3.heap.size,3,none⟩) ay (.pointer A)).trans a);have B:=pG (((ku g).set (p:=⟨w3.heap.size,3,none⟩) (Or.inr au) (.pointer A)).kept a aj);have a5:=pG (((kj4.refl w4.heap.size w5).set (p:=⟨w3.heap.size,3,none⟩) (Or.inl ay) (.pointer A)).kept a aj);obtain⟨d0,d1,d2,d3,d4,e0,e1,e2,e3,e4⟩:=jl y;obtain⟨g0,g1,g2,g3,g4,_,_,_,_,f4⟩:=jl Y;have a7:=pG y;have a4:=pG V;have Z:=pG j;have a0:=pG T;have H6:=pG h6;clear h6 a y Y V j T H5 Q I R g;generalize rS (kyv L) 0 L C.2=r6 at *;go_wp2
 refine rY (v:=.agg #[.string k.1.text,.int .i64 k.1.at_,.slice pa pn pc,.pointer A,.slice ua un uc]) (rP results150 _ _ w.heap.size _ _ _ _ rfl (kjw (w:=w6.setCell ⟨w3.heap.size,4,none⟩ _) (by rw[wP _ _ _ _ ay];exact ku a7) _ _ _ _ _) underlying127 rfl ah) rfl ?_;rw[ku HD];refine⟨_,_,_,_,_,⟨k.1,l3,t5,b6⟩,rfl,⟨pa,pn,pc,A,ua,un,uc,c6,[],rfl,?_,?_,?_,?_,rfl⟩,?_,?_,((ku H6).setOther (ku HV) hX ay _).kw6 (ku HV) hX (wJ _) _ _ _ _ _,((ku a1).jk ay _).kw6 (wJ _) _ _ _ _ _⟩
 ·exact zu aj (qwd (ku a3) (((ku B).set (Or.inr au) _).kw6 (Or.inl aj) _ _ _ _ _))
 ·exact((ku a8).qw3 (((ku a5).set (Or.inl ay) _).kw6 (Or.inl aj) _ _ _ _ _)).mono aj
 ·refine zu ?_ (qwd (ku a4) (((kj4.refl _ w6).set (Or.inl ?_) _).kw6 (Or.inl ?_) _ _ _ _ _))
  ·simp[World.setCell];omega
  ·simp[World.setCell];omega
  ·simp[World.setCell];omega
 ·refine((((ku Z).shun (no':=none) (λk hk=>by cases hk)).qw3 (((kj4.refl _ w6).set (Or.inl ?_) _).kw6 (Or.inl ?_) _ _ _ _ _))).mono ?_
  ·simp[World.setCell];omega
  ·simp[World.setCell];omega
  ·simp[World.setCell];omega
 ·intro u hu;simp only[sW,Qa,or_false]at hu;rcases hu with rfl|rfl|rfl|rfl|rfl<;>rfl
 ·intro hb;have S:=aA hb;rw[(ku a2) (aB (a9 S)),(ku a6) S,(ku a0) hb]
theorem jw7 (w:World)(P:Nat)(v:Value)(L:List Tok)(st:RS)(h:Pd w P v L st):
  qJ 151 #[.pointer (some ⟨P,0,none⟩)] w λe w'=>pzx P v L w (kjm L st) e w':=by
 have hX:=h.in;have HV:=pG h.mg;go_enter func151,ntmps151
 go_wp2_with fail
 refine(kjy oM ak rfl rfl _ P v L st (h.alloc _)).mono ?_;rintro e w1 ⟨rfl,h1,g⟩;have HD:=pG (jw6 (L:=L) (st:=st) rfl rfl rfl rfl);generalize qy L oM st=s1 at *;have I:=g.row (b:=w.heap.size) aj (qg _ _);have B:=pG I;have t:=pG ((Kept.kqn _).trans g);have N:=pG h1;clear h h1 g I;go_wp2_with fail
 refine(kx7 _ P v L _ (ku N)).mono ?_;rintro e w2 ⟨rfl,Z,i⟩;generalize qm L og s1=k at *;have l:=i.row aj (ku B);have a3:=wu l;have C:=pG l;have x:=pG ((ku t).trans i);have O:=pG Z;clear Z i l N B t;go_wp2_with fail
 refine(zz9 _ P v L _ (ku O)).mono ?_;rintro e w3 ⟨x3,l3,rfl,j,G,h3,f,_⟩;obtain⟨pa,pn,pc,rfl⟩:=zq j;have m:=f.row aj (ku C);have a4:=wu m;have a1:=f.size;have D:=pG m;have y:=pG ((ku x).trans f);have U:=pG j;have T:=pG G;have Q:=pG h3;clear h3 f m j G O C x;generalize kql L k.2=p at *;go_wp2_with fail
 refine(qvq _ P v L p.2 (ku Q)).mono ?_;rintro e w5 ⟨s,t5,rfl,J,H,h5,c⟩;have a0:(rX (yg L) 0 .nil L p.2).2.bad=false->p.2.bad=false:=λhb=>zjv hb
 have d:=c.row aj (ku D);have a2:=wu d;have E:=pG d;have a5:=c.size;have z:=pG ((ku y).trans c);have A:=pG ((kj4.refl w2.heap.size w3).kept c aj);have W:=pG H;have Y:=pG J;have R:=pG h5;clear h5 c J H d Q D y;generalize rX (yg L) 0 .nil L p.2=r5 at *;unfold ptV;go_wp2_with fail
 refine(kjy [59] ak rfl rfl _ P v L _ ((ku R).alloc _)).mono ?_;rintro e w6 ⟨rfl,h6,a⟩;have q:=a.row (b:=w.heap.size) aj (zy (ku E));have K:=a.row (b:=w5.heap.size) aj (qg _ _);have S:=pG (((ku z).alloc _).trans a);have M:=pG (((ku A).alloc (.cells #[.string k.1.text,.int .i64 k.1.at_,.slice pa pn pc,.pointer s] 130)).kept a aj);have V:=pG (((kj4.refl w3.heap.size w5).alloc (.cells #[.string k.1.text,.int .i64 k.1.at_,.slice pa pn pc,.pointer s] 130)).kept a aj);obtain⟨d0,d1,d2,d3,e0,e1,e2,e3⟩:=kk5 q;obtain⟨g0,g1,g2,g3,_⟩:=kk5 K;have X:=pG q;have H6:=pG h6;clear h6 a q K R E z A;go_wp2
 refine rY (v:=.agg #[.string k.1.text,.int .i64 k.1.at_,.slice pa pn pc,.pointer s]) (rP results151 _ _ w.heap.size _ _ _ _ rfl (qyp (ku X) _ _ _ _) underlying130 rfl ah) rfl ?_;rw[ku HD];refine⟨_,_,_,_,⟨k.1,l3,t5,.nil⟩,rfl,⟨pa,pn,pc,s,[],rfl,?_,?_,rfl⟩,?_,?_,(ku H6).zwk (ku HV) hX (wJ _) _ _ _ _,(ku S).zwk (wJ _) _ _ _ _⟩
 ·exact zu aj (qwd (ku U) ((ku M).zwk (Or.inl aj) _ _ _ _))
 ·exact((ku Y).qw3 ((ku V).zwk (Or.inl aj) _ _ _ _)).mono aj
 ·intro u hu;simp only[sW,Qa,or_false]at hu;rcases hu with rfl|rfl|rfl|rfl<;>rfl
 ·intro hb;have F:=kja hb;rw[(ku T) (a0 F),(ku W) F]
end Go.Proofs.YtpmcnonmkghokaaGreatDoor

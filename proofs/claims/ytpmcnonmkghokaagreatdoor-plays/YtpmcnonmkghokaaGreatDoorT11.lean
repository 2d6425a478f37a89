import Derived.Test.YtpmcnonmkghokaaGreatDoorT10
import Derived.Test.YtpmcnonmkghokaaGreatDoorT09
set_option maxRecDepth 100000
set_option maxHeartbeats 4000000
set_option linter.unusedVariables false
set_option linter.unusedSimpArgs false
namespace Go.Proofs.YtpmcnonmkghokaaGreatDoor
open Go.Proofs.Tryz
open Go.RowKit
variable {pre:List Tok}{α:Type}{items:List α}{k lo:Nat}{no:Option Nat}{l:Value}{w w' wr:World}{f:α->List Tok}
def kkp:PX->ByteArray
 |.nil=>kj5
 |.node _ _ x _ _=>x.name.text
def qzm (v:Int)(a b:ByteArray):Bool:=!(decide (v<0)||a.toList.isEmpty||(!(a.toList==b.toList)&&(!(b.toList==oJ)||!kzd a)))
def kzy (t:PTree)(l:List PP):PB->Bool
 |.nil=>true
 |.node _ _ a .nil n=>qzm (qh (zx t) (kkp a.place).toList) (kq2 t l a.place) (kq2 t l a.value)&&kzy t l n
 |.node _ _ a (.node _ _ _ b e) n=>((kq2 t l a.cond).toList==o7)&&kzy t l b&&kzy t l e&&kzy t l n
def kko:PB->Nat
 |.nil=>0
 |.node _ _ _ _ n=>kko n+1
theorem jm.len {lo:Nat}{no:Option Nat}{w:World}:∀{b:PB} {ps:List Value},jm lo no w b ps->ps.length=kko b
 |.nil,ps,h=>by
  have:ps=[]:=h;subst this;rfl
 |.node _ _ a .nil n,ps,⟨k,vp,vv,vi,qs,e,hl,hh,ha,hn⟩=>by rw[e,Qz,hn.len];rfl
 |.node _ _ a (.node _ _ _ t e) n,ps,⟨k,vp,vv,vi,vt,ve,qt,qe,qs,e1,hl,hh,ha,ht,he,hn⟩=>by rw[e1,Qz,hn.len];rfl
def SOk:PB->Prop
 |.nil=>True
 |.node _ _ a .nil n=>isNil a.cond=true/\isNil a.place=false/\XOk a.place/\isNil a.value=false/\XOk a.value/\SOk n
 |.node _ _ a (.node _ _ _ t e) n=>isNil a.cond=false/\XOk a.cond/\(SOk t/\kko t<=1000)/\(SOk e/\kko e<=1000)/\SOk n
def WellSaid (b:PB):Prop:=∀(w:World) (T lo lo':Nat) (t:PTree) (n:Tok) (l:List PP) (va:Option Addr) (vn vc:Nat) (vg:Option Addr) (ba:Option Addr) (bn bc:Nat) (v:Value) (ps:List Value),SOk b->kqr w T t->TreeOk t->TreeFit t->(∀p∈l,p.set_.text.size<=800) ->
 w.ownsRow lo 236 6 (.slice va vn vc) l.length (kjh l)->l.length<=801->w.ownsRow lo' 245 1 v ps.length ps->jm lo' none w b ps->ps.length<=1000 ->
 qJ 68 #[.pointer (some ⟨T,0,none⟩),qz3 n (.slice va vn vc) (.pointer vg) (.slice ba bn bc),v] w λe w'=>e=.returned (.bool (kzy t l b))/\pU w w'
def Inner:PB->Prop
 |.nil=>True
 |.node _ _ _ .nil n=>Inner n
 |.node _ _ _ (.node _ _ _ t e) n=>WellSaid t/\WellSaid e/\Inner n
theorem jm.below {b:PB}{ps:List Value}(h:jm lo no w b ps)(hb:pU w w'):jm lo no w' b ps:=h.stay λk _ a=>hb.block k a
def zxx (a:World)(t:PTree)(l:List PP)(b:PB)(lo:Nat)(ps:List Value)(i:Value)(wr:World):Prop:=
 ∃(k:Nat) (rest:PB),k<=ps.length/\i=.int .i64 k/\jm lo none wr rest (ps.drop k)/\SOk rest/\Inner rest/\kzy t l rest=kzy t l b/\pU a wr
theorem zqd (b:PB)(hI:Inner b):WellSaid b:=by
 intro w T lo lo' t n l va E D vg ba bn bc v ps hS h ht hf O hp hl hv s cK;obtain⟨a,cap,rfl,R⟩:=kq5 hv;have aH:=heap_alloc_new w (.cells #[.string n.kind,.string n.text,.int .i64 n.at_,.slice va E D,.pointer vg,.slice ba bn bc] 147);have V:=below_alloc1 w (.cells #[.string n.kind,.string n.text,.int .i64 n.at_,.slice va E D,.pointer vg,.slice ba bn bc] 147);have aS:=pG (show zxx (w.alloc (.cells #[.string n.kind,.string n.text,.int .i64 n.at_,.slice va E D,.pointer vg,.slice ba bn bc] 147)) t l b lo' ps (.int .i64 0) (w.alloc (.cells #[.string n.kind,.string n.text,.int .i64 n.at_,.slice va E D,.pointer vg,.slice ba bn bc] 147)) from
  ⟨0,b,rW _,rfl,by rw[List.drop_zero];exact s.below V,hS,hI,rfl,Below.refl _ _⟩)
 have HT:=pG (h.below V);have HP:=pG (qj hp V);have aU:=pG aH;have a9:=pG V;have HV:=pG R;have aI:=wu aH;have aT:=pG (show ∀k,k<ps.length->∀g,a=some ⟨g,0,none⟩->g<w.heap.size from λk hk g hg=>by
  obtain⟨g',e1,hc⟩:=R k hk;rw[hg]at e1;cases e1;have:=hc k aj;rw[tY hk]at this;exact block_lt_of_cell this)
 clear h hp hv s aH V R;unfold qz3;go_enter func68,ntmps68
 go_wp2_with fail
 generalize bV:w.alloc (.cells #[.string n.kind,.string n.text,.int .i64 n.at_,.slice va E D,.pointer vg,.slice ba bn bc] 147)=W0 at aS HT HP aU a9 aI |-;clear bV;go_loopw [7] (λi wr=>zxx W0 t l b lo' ps i wr) (λi _=>ps.length-(intOf i).toNat)
 case atStart=>exact ku aS
 case round=>
  obtain⟨k,rest,hk,rfl,s,d,p,hW,Q⟩:=hrel;have hX:=(Q.block w.heap.size aI).trans (ku aU);obtain⟨m0,m1,m2,m3,m4,m5,_⟩:=kzb hX;have cG:=wu hX;have a2:=pG Q;have K:=pG ((ku a9).trans (Q.mono (ku a9).size));have P:=pG ((ku HT).below Q);have S:=pG (qj (ku HP) Q);have L:=pG hW;clear hX Q hW;match rest,s,d,p,L with
  |.nil,s,d,p,L=>
   have F:ps.drop k=[]:=s;have cH:ps.length<=k:=by simpa using F
   have cJ:¬k<ps.length:=aj;clear F s d p;go_wp2
   go_ret
   exact⟨jf (by rw[<-ku L];rfl),ku K⟩
  |.node _ _ la .nil nx,s,d,p,L=>
   obtain⟨J,vp,vv,vi,qs,F,_,B,q,Y⟩:=s;have X:k<ps.length:=by
    rcases Q8 k ps.length with h|h
    ·exact h
    ·rw[QG h]at F;cases F
   have Z:ps[k]?=some (.pointer (some ⟨J,0,none⟩)):=by
    have:=congrArg (λl=>l[0]?) F;simpa using this
   have a0:ps.drop (k+1)=qs:=by
    have:=congrArg List.tail F;simpa using this
   obtain⟨g,rfl,hc⟩:=ku HV k X;have bX:=ku aT k X g rfl;have aK:wr.cell? ⟨g,k,none⟩=some (.pointer (some ⟨J,0,none⟩)):=by
    have h9:w.cell? ⟨g,k,none⟩=some (.pointer (some ⟨J,0,none⟩)):=(hc k aj).trans Z;exact wZ (ku K) h9
   obtain⟨d0,d1,d2,d3,d4,_⟩:=kxh B;have aQ:vi=.pointer none:=by
    have h1:=q.2.2;cases W:la.cond with
    |nil=>rw[W]at h1;exact h1
    |node _ _ _ _ _=>have:=d.1;rw[W]at this;cases this
   subst aQ;go_wp2_with fail
   clear hc F Z;match hla:la.place,q.1,d.2.1,d.2.2.1 with
   |.nil,_,h0,_=>cases h0
   |.node pi pj px pa' pb',hNP,_,hXP=>
   have aG:=hNP;obtain⟨kp,cE,cF,cC,_,aN,_,_⟩:=hNP;subst cC;have cI:=wu aN;have bY:=wu B;obtain⟨n0,n1,n2,n3,n4,_⟩:=qyb (show wr.heap[kp]?=some (.cells #[.string px.op,cE,cF,.string px.name.kind,.string px.name.text,.int .i64 px.name.at_,.string px.index.kind,.string px.index.text,.int .i64 px.index.at_,.int .i64 px.n] _ (0,0)) from aN);have bH:=pG aG;have bI:=pG q.2.1;have aD:=pG Y;have bZ:=d.2.2.2.1;have bQ:=pG d.2.2.2.2.1;have aF:=pG d.2.2.2.2.2;have aC:=pG p;have bP:=pG hXP;have aX:=ku L;rw[kzy,hla]at aX;clear q Y d p aG hXP aN B aX n0 n1 n2 n3;have bN:=L;go_region_held3 (λw'=>w'.cell? ⟨w.heap.size,0,none⟩=some (.string n.kind)/\w'.cell? ⟨w.heap.size,1,none⟩=some (.string n.text)/\w'.cell? ⟨w.heap.size,2,none⟩=some (.int .i64 n.at_)/\w'.cell? ⟨w.heap.size,3,none⟩=some (.slice va E D)/\w'.cell? ⟨w.heap.size,4,none⟩=some (.pointer vg)/\w'.cell? ⟨w.heap.size,5,none⟩=some (.slice ba bn bc)/\w'.cell? ⟨J,0,none⟩=some (.pointer (some ⟨kp,0,none⟩)))
    (first|go_keep|(go_split_ands;refine⟨?_,?_,?_,?_,?_,?_,?_⟩<;>(refine wZ M ?_;first|assumption|simp[*])))
    ((go_at_call 67;refine(kyn (.node pi pj px pa' pb') _ T lo lo' t n l va E D vg ba bn bc _ rfl (ku bP) ((ku P).below ((Below.refl _ _).drew)) ht hf O (qj (ku S) ((Below.refl _ _).drew)) hl ((ku bH).below ((Below.refl _ _).drew))).mono ?_;rintro e w1 ⟨rfl,M⟩))
   have c:pU wr w1:=(Below.refl _ _).drew.trans M;have bR:=wZ c d1;have aV:=wZ c d0;have aZ:=wZ c n4;have a3:=wZ c m0;have a4:=wZ c m1;have a5:=wZ c m2;have a6:=wZ c m3;have a7:=wZ c m4;have a8:=wZ c m5;have aR:=c.size;have u:=pG c;have bT:=qqa t l hf O (.node pi pj px pa' pb');clear M c d0 d1 d2 d3 d4 n4 m0 m1 m2 m3 m4 m5 aK;go_wp2_with fail
   go_region_held3 (λw'=>w'.cell? ⟨w.heap.size,0,none⟩=some (.string n.kind)/\w'.cell? ⟨w.heap.size,1,none⟩=some (.string n.text)/\w'.cell? ⟨w.heap.size,2,none⟩=some (.int .i64 n.at_)/\w'.cell? ⟨w.heap.size,3,none⟩=some (.slice va E D)/\w'.cell? ⟨w.heap.size,4,none⟩=some (.pointer vg)/\w'.cell? ⟨w.heap.size,5,none⟩=some (.slice ba bn bc)/\w'.cell? ⟨J,1,none⟩=some vv)
    (first|go_keep|(go_split_ands;refine⟨?_,?_,?_,?_,?_,?_,?_⟩<;>(refine wZ N ?_;first|assumption|simp[*])))
    ((go_at_call 67;refine(kyn la.value _ T lo lo' t n l va E D vg ba bn bc _ bZ (ku bQ) (((ku P).below (ku u)).below ((Below.refl _ _).drew)) ht hf O (qj (qj (ku S) (ku u)) ((Below.refl _ _).drew)) hl (((ku bI).below (ku u)).below ((Below.refl _ _).drew))).mono ?_;rintro e w2 ⟨rfl,N⟩))
   have f:pU w1 w2:=(Below.refl _ _).drew.trans N;have b2:=wZ f aV;have bA:=wZ f aZ;have x:=pG ((ku u).trans (f.mono aR));have bU:=qqa t l hf O la.value;clear N f aV bR aZ a3 a4 a5 a6 a7 a8;go_wp2_with fail
   refine(ky6 _ T t px.name.text ((ku P).below (ku x)) ht.vars).mono ?_;rintro e w3 ⟨rfl,rfl⟩;go_wp2_with fail
   refine(kyi (kq2 t l (.node pi pj px pa' pb')) _ aj).mono ?_;rintro e w4 ⟨rfl,rfl⟩;have m:Hid (kzy t l (.node 0 0 la .nil nx)=(qzm (qh (zx t) px.name.text.toList) (kq2 t l (.node pi pj px pa' pb')) (kq2 t l la.value)&&kzy t l nx)):=by rw[kzy,hla];rfl
   generalize kq2 t l (.node pi pj px pa' pb')=A at bT m |-;generalize kq2 t l la.value=Bv at bU m |-;generalize qh (zx t) px.name.text.toList=z at m |-;have aY:kzy t l b=(qzm z A Bv&&kzy t l nx):=(ku L).symm.trans (ku m);have U:=pG aY;have I:=pG ((ku K).trans ((ku x).mono (ku K).size));have aB:=pG ((ku a2).trans ((ku x).mono (ku a2).size));have a1:=pG ((ku aD).below (ku x));have aE:=pG a0;clear aY m L bN a0 b2 bA;have out:qzm z A Bv=false->Hid (kzy t l b=false):=λB=>by rw[ku U,B];rfl
   have G:qzm z A Bv=true->Hid (zxx W0 t l b lo' ps (.int .i64 ((k:Int)+1)) w4):=λB=>
    ⟨k+1,nx,aj,eu,by rw[ku aE];exact ku a1,ku aF,ku aC,by rw[ku U,B];rfl,ku aB⟩
   by_cases c1:z<0
   ·have j:=out (by simp[qzm,c1]);clear out G;go_wp2
    go_ret
    exact⟨jf (ku j).symm,ku I⟩
   ·cases c2:A.toList.isEmpty
    ·cases c3:(A.toList==Bv.toList)
     ·cases c4:(Bv.toList==oJ)
      ·have j:=out (by simp only[qzm,c2,c3,c4];simp);clear out G;go_wp2
       go_ret
       exact⟨jf (ku j).symm,ku I⟩
      ·cases c5:kzd A
       ·have j:=out (by simp only[qzm,c2,c3,c4,c5];simp);clear out G;go_wp2
        go_ret
        exact⟨jf (ku j).symm,ku I⟩
       ·have j:=G (by simp only[qzm,c2,c3,c4,c5];simp;omega);clear out G;go_wp2
        go_roundw
        case rel=>exact ku j
        case measure=>exact qQ
     ·have j:=G (by simp only[qzm,c2,c3];simp;omega);generalize kzd A=y;clear out G;go_wp2
      go_roundw
      case rel=>exact ku j
      case measure=>exact qQ
    ·have j:=out (by simp only[qzm,c2];simp);clear out G;go_wp2
     go_ret
     exact⟨jf (ku j).symm,ku I⟩
  |.node _ _ la (.node _ _ _ bt be) nx,s,d,p,L=>
   obtain⟨J,vp,vv,vi,vt,ve,qt,qe,qs,F,_,B,q,⟨aO,_,aP⟩,⟨aL,_,aM⟩,Y⟩:=s;have X:k<ps.length:=by
    rcases Q8 k ps.length with h|h
    ·exact h
    ·rw[QG h]at F;cases F
   have Z:ps[k]?=some (.pointer (some ⟨J,0,none⟩)):=by
    have:=congrArg (λl=>l[0]?) F;simpa using this
   have a0:ps.drop (k+1)=qs:=by
    have:=congrArg List.tail F;simpa using this
   obtain⟨g,rfl,hc⟩:=ku HV k X;have bX:=ku aT k X g rfl;have aK:wr.cell? ⟨g,k,none⟩=some (.pointer (some ⟨J,0,none⟩)):=by
    have h9:w.cell? ⟨g,k,none⟩=some (.pointer (some ⟨J,0,none⟩)):=(hc k aj).trans Z;exact wZ (ku K) h9
   obtain⟨d0,d1,d2,d3,d4,_⟩:=kxh B;have bY:=wu B;have aQ:∃ki,vi=.pointer (some ⟨ki,0,none⟩):=by
    have h1:=q.2.2;cases W:la.cond with
    |nil=>have:=d.1;rw[W]at this;cases this
    |node _ _ _ _ _=>rw[W]at h1;obtain⟨ki,_,_,e,_⟩:=h1;exact⟨ki,e⟩
   obtain⟨ki,rfl⟩:=aQ;have bG:=pG q.2.2;have bO:=pG d.2.1;have bW:=d.1;have bK:=pG d.2.2.1.1;have bJ:=pG d.2.2.2.1.1;have aF:=pG d.2.2.2.2;have bF:=pG p.1;have bD:=pG p.2.1;have aC:=pG p.2.2;have bL:=pG aO;have bM:=pG aP;have bB:=pG aL;have bC:=pG aM;have aD:=pG Y;obtain⟨ta,tl,tc,rfl⟩:=zq aO;obtain⟨ea,el,ec,rfl⟩:=zq aL;have cB:qt.length<=1000:=by rw[aP.len];exact d.2.2.1.2
   have cA:qe.length<=1000:=by rw[aM.len];exact d.2.2.2.1.2
   clear hc F Z q d p aO aP aL aM Y B;go_wp2_with fail
   go_region_held3 (λw'=>w'.cell? ⟨w.heap.size,0,none⟩=some (.string n.kind)/\w'.cell? ⟨w.heap.size,1,none⟩=some (.string n.text)/\w'.cell? ⟨w.heap.size,2,none⟩=some (.int .i64 n.at_)/\w'.cell? ⟨w.heap.size,3,none⟩=some (.slice va E D)/\w'.cell? ⟨w.heap.size,4,none⟩=some (.pointer vg)/\w'.cell? ⟨w.heap.size,5,none⟩=some (.slice ba bn bc)/\w'.cell? ⟨J,2,none⟩=some (.pointer (some ⟨ki,0,none⟩)))
    (first|go_keep|(go_split_ands;refine⟨?_,?_,?_,?_,?_,?_,?_⟩<;>(refine wZ M ?_;first|assumption|simp[*])))
    ((go_at_call 67;refine(kyn la.cond _ T lo lo' t n l va E D vg ba bn bc _ bW (ku bO) ((ku P).below ((Below.refl _ _).drew)) ht hf O (qj (ku S) ((Below.refl _ _).drew)) hl ((ku bG).below ((Below.refl _ _).drew))).mono ?_;rintro e w1 ⟨rfl,M⟩))
   have c:pU wr w1:=(Below.refl _ _).drew.trans M;have bS:=wZ c d3;have aW:=wZ c d4;have a3:=wZ c m0;have a4:=wZ c m1;have a5:=wZ c m2;have a6:=wZ c m3;have a7:=wZ c m4;have a8:=wZ c m5;have aR:=c.size;have u:=pG c;clear M c d0 d1 d2 d3 d4 m0 m1 m2 m3 m4 m5 aK;go_wp2_with fail
   go_region_held3 (λw'=>w'.cell? ⟨w.heap.size,0,none⟩=some (.string n.kind)/\w'.cell? ⟨w.heap.size,1,none⟩=some (.string n.text)/\w'.cell? ⟨w.heap.size,2,none⟩=some (.int .i64 n.at_)/\w'.cell? ⟨w.heap.size,3,none⟩=some (.slice va E D)/\w'.cell? ⟨w.heap.size,4,none⟩=some (.pointer vg)/\w'.cell? ⟨w.heap.size,5,none⟩=some (.slice ba bn bc)/\w'.cell? ⟨J,3,none⟩=some (.slice ta tl tc))
    (first|go_keep|(go_split_ands;refine⟨?_,?_,?_,?_,?_,?_,?_⟩<;>(refine wZ N ?_;first|assumption|simp[*])))
    ((go_at_call 68;refine((ku bF) _ T lo lo' t n l va E D vg ba bn bc _ qt (ku bK) (((ku P).below (ku u)).below ((Below.refl _ _).drew)) ht hf O (qj (qj (ku S) (ku u)) ((Below.refl _ _).drew)) hl (qj (qj (ku bL) (ku u)) ((Below.refl _ _).drew)) (((ku bM).below (ku u)).below ((Below.refl _ _).drew)) cB).mono ?_;rintro e w2 ⟨rfl,N⟩))
   have f:pU w1 w2:=(Below.refl _ _).drew.trans N;have b3:=wZ f aW;have b4:=wZ f a3;have b5:=wZ f a4;have b6:=wZ f a5;have b7:=wZ f a6;have b8:=wZ f a7;have b9:=wZ f a8;have H:=(ku u).trans (f.mono aR);have cD:=H.size;have x:=pG H;clear N f H bS aW a3 a4 a5 a6 a7 a8;go_wp2_with fail
   go_region_held3 (λw'=>w'.cell? ⟨w.heap.size,0,none⟩=some (.string n.kind)/\w'.cell? ⟨w.heap.size,1,none⟩=some (.string n.text)/\w'.cell? ⟨w.heap.size,2,none⟩=some (.int .i64 n.at_)/\w'.cell? ⟨w.heap.size,3,none⟩=some (.slice va E D)/\w'.cell? ⟨w.heap.size,4,none⟩=some (.pointer vg)/\w'.cell? ⟨w.heap.size,5,none⟩=some (.slice ba bn bc)/\w'.cell? ⟨J,4,none⟩=some (.slice ea el ec))
    (first|go_keep|(go_split_ands;refine⟨?_,?_,?_,?_,?_,?_,?_⟩<;>(refine wZ aJ ?_;first|assumption|simp[*])))
    ((go_at_call 68;refine((ku bD) _ T lo lo' t n l va E D vg ba bn bc _ qe (ku bJ) (((ku P).below (ku x)).below ((Below.refl _ _).drew)) ht hf O (qj (qj (ku S) (ku x)) ((Below.refl _ _).drew)) hl (qj (qj (ku bB) (ku x)) ((Below.refl _ _).drew)) (((ku bC).below (ku x)).below ((Below.refl _ _).drew)) cA).mono ?_;rintro e w3 ⟨rfl,aJ⟩))
   have H:pU w2 w3:=(Below.refl _ _).drew.trans aJ;have aA:=pG ((ku x).trans (H.mono cD));clear aJ H b3 b4 b5 b6 b7 b8 b9;have m:Hid (kzy t l (.node 0 0 la (.node 0 0 noS bt be) nx)=(((kq2 t l la.cond).toList==o7)&&kzy t l bt&&kzy t l be&&kzy t l nx)):=rfl;generalize kq2 t l la.cond=C at m |-;generalize kzy t l bt=y1 at m |-;generalize kzy t l be=y2 at m |-;have U:=pG (show kzy t l b=((C.toList==o7)&&y1&&y2&&kzy t l nx) from(ku L).symm.trans (ku m));have I:=pG ((ku K).trans ((ku aA).mono (ku K).size));have aB:=pG ((ku a2).trans ((ku aA).mono (ku a2).size));have a1:=pG ((ku aD).below (ku aA));have aE:=pG a0;clear m L a0;have out:((C.toList==o7)&&y1&&y2)=false->Hid (kzy t l b=false):=λB=>by rw[ku U,B];rfl
   have G:((C.toList==o7)&&y1&&y2)=true->Hid (zxx W0 t l b lo' ps (.int .i64 ((k:Int)+1)) w3):=λB=>
    ⟨k+1,nx,aj,eu,by rw[ku aE];exact ku a1,ku aF,ku aC,by rw[ku U,B];rfl,ku aB⟩
   cases c1:(C.toList==o7)
   ·have j:=out (by rw[c1];rfl);clear out G;go_wp2
    go_ret
    exact⟨jf (ku j).symm,ku I⟩
   ·cases y1
    ·have j:=out au;clear out G;go_wp2
     go_ret
     exact⟨jf (ku j).symm,ku I⟩
    ·cases y2
     ·have j:=out au;clear out G;go_wp2
      go_ret
      exact⟨jf (ku j).symm,ku I⟩
     ·have j:=G (by rw[c1];rfl);clear out G;go_wp2
      go_roundw
      case rel=>exact ku j
      case measure=>exact qQ
theorem qzy:∀b:PB,Inner b
 |.nil=>trivial
 |.node _ _ _ .nil n=>qzy n
 |.node _ _ _ (.node _ _ _ t e) n=>⟨zqd t (qzy t),zqd e (qzy e),qzy n⟩
theorem vxz (b:PB):WellSaid b:=zqd b (qzy b)
def kvo (a:SLab):List Tok:=(uo a.place++uo a.value)++uo a.cond
def uf:PB->List Tok
 |.nil=>[]
 |.node _ _ a .nil n=>kvo a++uf n
 |.node _ _ a (.node _ _ _ t e) n=>((kvo a++uf t)++uf e)++uf n
def qxc (b:PB):Prop:=∀(w:World) (lo:Nat) (v:Value) (ps:List Value),(uf b).length<=90000->w.ownsRow lo 245 1 v ps.length ps->jm lo none w b ps->ps.length<=1000 ->
 qJ 116 #[v] w λe w'=>∃u,e=.returned u/\w'.ownsRow w.heap.size 142 3 u (uf b).length (uq (uf b))/\pU w w'
def vx8:PB->Prop
 |.nil=>True
 |.node _ _ _ .nil n=>vx8 n
 |.node _ _ _ (.node _ _ _ t e) n=>kko t<=1000/\kko e<=1000/\vx8 n
def ky5:PB->Prop
 |.nil=>True
 |.node _ _ _ .nil n=>ky5 n
 |.node _ _ _ (.node _ _ _ t e) n=>ky5 t/\ky5 e/\kko t<=1000/\kko e<=1000/\ky5 n
theorem qyy:∀{b:PB},ky5 b->vx8 b
 |.nil,_=>trivial
 |.node _ _ _ .nil n,h=>qyy (b:=n) h
 |.node _ _ _ (.node _ _ _ t e) n,h=>⟨h.2.2.1,h.2.2.2.1,qyy h.2.2.2.2⟩
def zjn:PB->Prop
 |.nil=>True
 |.node _ _ _ .nil n=>zjn n
 |.node _ _ _ (.node _ _ _ t e) n=>qxc t/\qxc e/\zjn n
def Ins (u:World)(v:Value)(l:List Tok):Prop:=qJ 116 #[v] u λe w'=>∃t,e=.returned t/\Tks w' u.heap.size t l/\pU u w'
def vwu (w:World)(b:PB)(lo:Nat)(ps:List Value)(l i:Value)(wr:World):Prop:=
 ∃(k:Nat) (rest:PB) (acc:List Tok),k<=ps.length/\i=.int .i64 k/\jm lo none w rest (ps.drop k)/\vx8 rest/\zjn rest/\acc++uf rest=uf b/\Tks wr w.heap.size l acc/\pU w wr
theorem zvj (w:World):Ins w (.slice none 0 0) []:=by
 go_enter func116,ntmps116
 go_wp2_with fail
 refine wp_loop_rounds 1 ?_;rw[rounds_succ];go_wp2
 go_ret
 exact⟨_,rfl,wB _ _ _ _,Below.refl _ _⟩
theorem qkc (b:PB)(s:zjn b)(a2:vx8 b):qxc b:=by
 intro w lo v ps a6 hv f aA;obtain⟨a,cap,rfl,K⟩:=kq5 hv;have a1:=pG (show vwu w b lo ps (.slice none 0 0) (.int .i64 0) w from⟨0,b,[],rW _,rfl,f,a2,s,rfl,wB _ _ _ _,Below.refl _ _⟩);have HV:=pG K;clear hv f K;go_enter func116,ntmps116
 go_wp2_with fail
 go_loopw [3,4] (λl i wr=>vwu w b lo ps l i wr) (λ_ i _=>ps.length-(intOf i).toNat)
 case atStart=>exact ku a1
 case round=>
  obtain⟨k,rest,acc,hk,rfl,f,E,s,z,m,p⟩:=hrel;obtain⟨_,_,_,rfl⟩:=zq m;cases rest with
  |nil=>
   have a8:ps.length<=k:=by simpa using(show ps.drop k=[] from f)
   have a9:¬k<ps.length:=aj;have HO:=pG (show Tks wr w.heap.size _ (uf b) from by rw[<-z];simpa[uf] using m);clear f E s z;go_wp2
   go_ret
   exact⟨_,rfl,ku HO,p⟩
  |node _ _ la c nx=>
   obtain⟨y,vp,vv,vi,N,M,D,lt,le,x,F,j,HT,HE,q,E,s,z⟩:∃y vp vv vi N M D lt le,ps.drop k=.pointer (some ⟨y,0,none⟩)::D/\w.heap[y]?=some (.cells #[vp,vv,vi,N,M] 247 (0,0))/\qxs lo w la vp vv vi /\
     Hid (∀u,pU w u->lt.length<=90000->Ins u N lt)/\Hid (∀u,pU w u->le.length<=90000->Ins u M le)/\Hid (jm lo none w nx D)/\Hid (vx8 nx)/\Hid (zjn nx)/\(acc++(uo la.place++(uo la.value++(uo la.cond++(lt++le)))))++uf nx=uf b:=by
    cases c with
    |nil=>
     obtain⟨y,vp,vv,vi,D,x,_,F,j,q⟩:=f;exact⟨y,vp,vv,vi,_,_,D,[],[],x,F,j,λu _ _=>zvj u,λu _ _=>zvj u,q,E,s,by rw[<-z];simp[uf,kvo]⟩
    |node _ _ _ t e=>
     obtain⟨y,vp,vv,vi,N,M,qt,qe,D,x,_,F,j,⟨h1,_,h2⟩,⟨h3,_,h4⟩,q⟩:=f;exact⟨y,vp,vv,vi,N,M,D,uf t,uf e,x,F,j,λu B j=>s.1 u lo N qt j (qj h1 B) (h2.below B) (by rw[h2.len];exact E.1),λu B j=>s.2.1 u lo M qe j (qj h3 B) (h4.below B) (by rw[h4.len];exact E.2.1),q,E.2.2,s.2.2,by rw[<-z];simp[uf,kvo]⟩
   have W:k<ps.length:=by
    rcases Q8 k ps.length with h|h
    ·exact h
    ·rw[QG h]at x;cases x
   obtain⟨g,rfl,hc⟩:=ku HV k W;have L:=pG λ(u:World) (B:pU w u)=>(show u.cell? ⟨g,k,none⟩=some (.pointer (some ⟨y,0,none⟩))/\_ from⟨wZ B ((hc k aj).trans (by have:=congrArg (λl=>l[0]?) x;simpa using this)),kxh ((B.block y (wu F)).trans F)⟩)
   have HX:=pG (show jm lo none w nx (ps.drop (k+1)) from by rw[show ps.drop (k+1)=D from by have:=congrArg List.tail x;simpa using this];exact ku q);have a7:acc.length+((uo la.place).length+((uo la.value).length+((uo la.cond).length+(lt.length+le.length))))<=90000:=by
    have:=congrArg List.length z;simp only[wY]at this;omega
   have a0:=pG z;have hz:=p.size;have d:=(ku L) wr p;clear hc x f F q z;go_wp2_with fail
   refine(kyo la.place _ lo _ aj (j.1.below p)).mono ?_;rintro e u1 ⟨t1,rfl,O,G⟩;have X:=G.size;have B1:=p.trans (G.mono hz);have d1:=(ku L) u1 B1;obtain⟨_,_,_,rfl⟩:=zq O;go_wp2_with fail
   refine(kyo la.value _ lo _ aj (j.2.1.below B1)).mono ?_;rintro e u2 ⟨t2,rfl,P,H⟩;have a3:=H.size;have T:=B1.trans (H.mono aj);have d2:=(ku L) u2 T;obtain⟨_,_,_,rfl⟩:=zq P;go_wp2_with fail
   refine(kyo la.cond _ lo _ aj (j.2.2.below T)).mono ?_;rintro e u3 ⟨t3,rfl,Q,I⟩;have a4:=I.size;have U:=T.trans (I.mono aj);have d3:=(ku L) u3 U;obtain⟨_,_,_,rfl⟩:=zq Q;go_wp2_with fail
   refine(ku HT u3 U aj).mono ?_;rintro e u4 ⟨t4,rfl,R,J⟩;have a5:=J.size;have V:=U.trans (J.mono aj);have d4:=(ku L) u4 V;obtain⟨_,_,_,rfl⟩:=zq R;go_wp2_with fail
   refine(ku HE u4 V aj).mono ?_;rintro e u5 ⟨t5,rfl,S,A⟩;have aB:=A.size;have B5:=V.trans (A.mono aj);obtain⟨_,_,_,rfl⟩:=zq S;have b4:=J.trans (A.mono a5);have b3:=I.trans (b4.mono a4);have b2:=H.trans (b3.mono a3);have T1:=pG (qj O b2);have T2:=pG (zu X (qj P b3));have T3:=pG (zu (show wr.heap.size<=_ by omega) (qj Q b4));have T4:=pG (zu (show wr.heap.size<=_ by omega) (qj R A));have T5:=pG (zu (show wr.heap.size<=_ by omega) S);have C:=pG (show Acc w u5 wr.heap.size w.heap.size u5 _ acc from⟨qj m (G.trans (b2.mono X)),B5,λk hk=>Or.inl (mg m k hk),wJ _,λ_ _ _=>rfl⟩);clear d d1 d2 d3 d4 O P Q R S G H I J A b2 b3 b4 B1 T U V B5 j L HT HE p m;go_wp2_with (at_builtin;refine(ku C).app (ku T1) ?_)
   intro v1 x1 Y;obtain⟨_,_,_,rfl⟩:=zq Y.own;have hs:=Y.sz;go_wp2_with (at_builtin;refine Y.app (ku T2) ?_ (hn:=iC))
   intro v2 x2 Z;obtain⟨_,_,_,rfl⟩:=zq Z.own;have hs:=Z.sz;go_wp2_with (at_builtin;refine Z.app (ku T3) ?_ (hn:=iC))
   intro v3 x3 C3;obtain⟨_,_,_,rfl⟩:=zq C3.own;have hs:=C3.sz;go_wp2_with (at_builtin;refine C3.app (ku T4) ?_ (hn:=iC))
   intro v4 x4 C4;obtain⟨_,_,_,rfl⟩:=zq C4.own;have hs:=C4.sz;go_wp2_with (at_builtin;refine C4.app (ku T5) ?_ (hn:=iC))
   intro v5 x5 C5;have HR:=pG (show vwu w b lo ps v5 (.int .i64 ((k:Int)+1)) x5 from⟨k+1,nx,_,W,eu,ku HX,ku E,ku s,by have:=ku a0;simp only[sD]at this |-;exact this,C5.own,C5.bel⟩);go_wp2
   go_roundw
   case rel=>exact ku HR
   case measure=>exact qQ
theorem qqm:∀b:PB,ky5 b->zjn b
 |.nil,_=>trivial
 |.node _ _ _ .nil n,h=>qqm n h
 |.node _ _ _ (.node _ _ _ t e) n,h=>⟨qkc t (qqm t h.1) (qyy h.1),qkc e (qqm e h.2.1) (qyy h.2.1),qqm n h.2.2.2.2⟩
theorem jwe (b:PB)(h:ky5 b):qxc b:=qkc b (qqm b h) (qyy h)
theorem kq3.app {lo:Nat}{w:World}:∀{rs ss:List PRule} {xs ys:List Value},kq3 lo w rs xs->kq3 lo w ss ys->kq3 lo w (rs++ss) (xs++ys)
 |[],ss,xs,ys,h,k=>by
  have:xs=[]:=h;subst this;exact k
 |r::rs,ss,xs,ys,⟨a,b,c,q,zs,e,k1,k2,k3,k4,k5⟩,k=>⟨a,b,c,q,zs++ys,by rw[e];simp,k1,k2,k3,k4,kq3.app k5 k⟩
theorem kq3.one {lo:Nat}{w:World}:∀{rs:List PRule} {xs:List Value},kq3 lo w rs xs->∀y∈xs,y.oneCell'=true
 |[],xs,h=>by
  have:xs=[]:=h;subst this;intro y c;cases c
 |r::rs,xs,⟨vp,vg,vb,q,zs,e,k1,k2,k3,k4,k5⟩=>by
  intro y c;rw[e]at c;rcases ru.mp c with h|h
  ·exact kkk _ y h
  ·rcases sW.mp h with rfl|h
   ·obtain⟨_,_,_,rfl⟩:=zq k1;rfl
   ·rcases sW.mp h with rfl|h
    ·cases d:r.guard with
     |nil=>rw[d]at k2;have:y=.pointer none:=k2;subst this;rfl
     |node i j x a b=>rw[d]at k2;obtain⟨k,pa,f,rfl,_⟩:=k2;rfl
    ·rcases sW.mp h with rfl|h
     ·obtain⟨_,_,_,rfl⟩:=zq k3;rfl
     ·exact kq3.one k5 y h
theorem kq3.below {rs:List PRule}{xs:List Value}(h:kq3 lo w rs xs)(hb:pU w w'):kq3 lo w' rs xs:=h.stay λk _ a=>hb.block k a
theorem qz2 (w:World)(T:Nat)(t:PTree)(h:kqr w T t)(L:t.rules.length<=801)(hn:t.nevers.length<=801):
  qJ 66 #[.pointer (some ⟨T,0,none⟩)] w λe w'=>∃v ys,e=.returned v/\w'.ownsRow w.heap.size 147 6 v (t.rules++t.nevers).length ys /\
   kq3 (T+1) w' (t.rules++t.nevers) ys/\pU w w':=by
 obtain⟨z,hi,m,p,q⟩:=info_parts infoRule;obtain⟨x0,x1,x2,x3,x4,y1,y3,y4,C,_,_,_,⟨s,u⟩,⟨x,y⟩⟩:=h;obtain⟨_,_,_,M,H,_⟩:=kxh C;have g:=pG u;have i:=pG y;obtain⟨A,E,c3,rfl⟩:=zq s;obtain⟨B,F,c4,rfl⟩:=zq x;go_enter func66,ntmps66
 go_wp2_with (at_builtin;refine kqd rfl _ _ 138 rfl w.heap.size 147 z _ 6 96 underlying138 hi m p q rfl ak (.slice none 0 0) 0 [] rfl (wB _ _ _ _) (.slice A E c3) _ _ _ rfl s g.one gW aj (wJ _) ?_)
 intro N I b c _;have a:pU w I:=(Below.refl w.heap.size w).grown c aj (λk D=>by cases D);have K:=wZ a H;have l:=pG b;have J:=a.size;obtain⟨b1,G,d1,rfl⟩:=zq b;go_wp2_with (at_builtin;refine kqd rfl _ _ 138 rfl w.heap.size 147 z _ 6 96 underlying138 hi m p q rfl ak (.slice b1 G d1) _ _ rfl l (.slice B F c4) _ _ _ rfl (qj (pG x) a) i.one gW aj aj ?_)
 intro O P f d _;have j:=a.grown d aj (xg l);go_wp2
 go_ret
 refine⟨_,y3++y4,rfl,?_,(g.app i).below j,j⟩;have:=ku (pG f);simpa using this
def qwp (s:PSet):List Tok:=[s.name]
def kzp (k:PKind):List Tok:=k.name::k.members
def zzt (v:PVar):List Tok:=[v.name]
def kwz (r:PRule):List Tok:=[r.name]
def qxn (t:PTree):List Tok:=t.sets.flatMap qwp
def qxr (t:PTree):List Tok:=qxn t++t.kinds.flatMap kzp
def kyc (t:PTree):List Tok:=qxr t++t.vars.flatMap zzt
def jc (t:PTree):List Tok:=kyc t++(t.rules++t.nevers).flatMap kwz
def qxo {α:Type}(w:World)(pre:List Tok)(f:α->List Tok)(items:List α)(l i:Value)(wr:World):Prop:=
 ∃k:Nat,k<=items.length/\i=.int .i64 k/\Tks wr w.heap.size l (pre++(items.take k).flatMap f)/\pU w wr
theorem zql (f:α->List Tok)(items:List α)(k:Nat)(h:k<items.length):(items.take (k+1)).flatMap f=(items.take k).flatMap f++f items[k]:=by
 rw[Qx h,Qn];simp only[Qb,List.flatMap_nil,Qg]
theorem take_len (f:α->List Tok)(items:List α)(k:Nat)(h:k<items.length):((items.take k).flatMap f).length+(f items[k]).length<=(items.flatMap f).length:=by
 have h1:=congrArg List.length (zql f items k h);have a:(items.flatMap f)=(items.take (k+1)).flatMap f++(items.drop (k+1)).flatMap f:=by
  rw[<-Qn,Zc]
 rw[a];simp only[wY]at h1 |-;omega
theorem qxo.next {a: List Tok}     (h:k<items.length)
  (b:Tks wr w.heap.size l a) (hb:pU w wr) (e:a=pre++((items.take k).flatMap f++f items[k]):=by simp[qwp,kzp,zzt]):qxo w pre f items l (.int .i64 ((k:Int)+1)) wr:=
 ⟨k+1,h,eu,by rw[zql f items k h,<-e];exact b,hb⟩
theorem qxo.done (h:¬k<items.length)
  (a:Tks wr w.heap.size l (pre++(items.take k).flatMap f)):Tks wr w.heap.size l (pre++items.flatMap f):=by
 rw[Jw aj]at a;exact a
theorem qxo.start (a:Tks wr w.heap.size l pre)(hb:pU w wr):qxo w pre f items l (.int .i64 0) wr:=
 ⟨0,rW _,rfl,lq,hb⟩
theorem jkn (w:World)(T:Nat)(t:PTree)(h:kqr w T t)(hs:t.sets.length<=801)(W:t.kinds.length<=801)(hv:t.vars.length<=801)(hr:t.rules.length<=801)(hn:t.nevers.length<=801)(N:(jc t).length<=90000):
  qJ 112 #[.pointer (some ⟨T,0,none⟩)] w λe w'=>∃v,e=.returned v/\w'.ownsRow w.heap.size 142 3 v (jc t).length (uq (jc t))/\pU w w':=by
 have HT:=pG h;obtain⟨x0,x1,x2,x3,x4,y1,y3,y4,L,h0,⟨h1,a3⟩,h2,_⟩:=h;have Q:=pG λ(u:World) (hu:pU w u)=>kxh ((hu.block T (wu L)).trans L)
 obtain⟨a0,aB,rfl,z⟩:=kq5 h0;obtain⟨a1,aC,rfl,B⟩:=kq5 h1;obtain⟨a2,aD,rfl,D⟩:=kq5 h2;have a4:=pG z;have a5:=pG B;have a6:=pG D;have HK:=pG a3;have V:(qxn t).length+(t.kinds.flatMap kzp).length+(t.vars.flatMap zzt).length+((t.rules++t.nevers).flatMap kwz).length<=90000/\(qxr t).length+(t.vars.flatMap zzt).length+((t.rules++t.nevers).flatMap kwz).length<=90000/\(kyc t).length+((t.rules++t.nevers).flatMap kwz).length<=90000:=by
  simp only[jc,kyc,qxr,wY]at N |-;omega
 have P:=pG V;have q:=kxh L;have aE:=wu L;clear h0 h1 a3 h2 z B D L N V;go_enter func112,ntmps112
 go_wp2_with fail
 go_loopw [3,4] (λl i wr=>qxo w ([]:List Tok) qwp t.sets l i wr) (λ_ i _=>t.sets.length-(intOf i).toNat)
 case atStart=>exact qxo.start (wB _ _ _ _) (Below.refl _ _)
 case round=>
  clear q;obtain⟨k,H,rfl,d,b⟩:=hrel;have s:=b.size;have q:=(ku Q) wr b;obtain⟨_,_,_,rfl⟩:=zq d;by_cases a:k<t.sets.length
  ·obtain⟨g,rfl,m⟩:=ku a4 k a;have R:wr.cell? ⟨g,k*6,none⟩=some (.string (t.sets[k]).name.kind):=wZ b ((m _ aj).trans (xq kz6 6 (λ_=>rfl) t.sets k 0 a aj));have S:wr.cell? ⟨g,k*6+1,none⟩=some (.string (t.sets[k]).name.text):=wZ b ((m _ aj).trans (xq kz6 6 (λ_=>rfl) t.sets k 1 a aj));have U:wr.cell? ⟨g,k*6+2,none⟩=some (.int .i64 (t.sets[k]).name.at_):=wZ b ((m _ aj).trans (xq kz6 6 (λ_=>rfl) t.sets k 2 a aj));clear m;go_wp2_with (at_builtin;refine qxg (t:=(t.sets[k]).name) (d.alloc _) (b.alloc s _) (heap_alloc_new wr _) ?_ (hn:=by have:=take_len qwp t.sets k a;have:=(ku P).1;simp only[qxn,wY,Jh]at *;omega))
   intro X O y hb;have E:=pG (qxo.next (pre:=[]) (f:=qwp) a y hb);go_wp2
   go_roundw
   case rel=>exact ku E
   case measure=>exact qQ
  ·have J:=pG (qxo.start (f:=kzp) (items:=t.kinds) (show Tks wr w.heap.size _ (qxn t) from qxo.done a d) b);clear d b;go_wp2_with fail
   go_loopw [3,5] (λl i wr=>qxo w (qxn t) kzp t.kinds l i wr) (λ_ i _=>t.kinds.length-(intOf i).toNat)
   case atStart=>exact ku J
   case round=>
    clear q s;obtain⟨k,H,rfl,d,b⟩:=hrel;have s:=b.size;have q:=(ku Q) wr b;obtain⟨_,_,_,rfl⟩:=zq d;by_cases a:k<t.kinds.length
    ·obtain⟨g,rfl,m⟩:=ku a5 k a;obtain⟨vm,f0,f1,f2,f3,hm⟩:=qqd k a (ku HK);have R:=wZ b ((m (k*4) aj).trans f0);have S:=wZ b ((m (k*4+1) aj).trans f1);have U:=wZ b ((m (k*4+2) aj).trans f2);have E3:=pG ((m (k*4+3) aj).trans f3);have a9:(qxn t++(t.kinds.take k).flatMap kzp).length+(1+(t.kinds[k]).members.length)<=90000:=by
      have:=take_len kzp t.kinds k a;have:=(ku P).1;simp only[kzp,wY,Qz]at *;omega
     obtain⟨_,_,_,rfl⟩:=zq hm;clear m f0 f1 f2 f3;go_wp2_with (at_builtin;refine qxg (t:=(t.kinds[k]).name) (d.alloc _) (b.alloc s _) (heap_alloc_new wr _) ?_ (hn:=aj))
     intro X O y hb;have q1:=(ku Q) O hb;have e3:=wZ hb (ku E3);have aG:=hb.size;obtain⟨_,_,_,rfl⟩:=zq y;clear R S U;go_wp2_with (at_builtin;go_must (refine vw7 y hb (qj hm hb) ?_ (hn:=by simp only[wY,JB]at *;omega)))
     intro v2 w2 y hb;have E:=pG (qxo.next (pre:=qxn t) (f:=kzp) a y hb);go_wp2
     go_roundw
     case rel=>exact ku E
     case measure=>exact qQ
    ·have J:=pG (qxo.start (f:=zzt) (items:=t.vars) (show Tks wr w.heap.size _ (qxr t) from qxo.done a d) b);clear d b;go_wp2_with fail
     go_loopw [3,6] (λl i wr=>qxo w (qxr t) zzt t.vars l i wr) (λ_ i _=>t.vars.length-(intOf i).toNat)
     case atStart=>exact ku J
     case round=>
      clear q s;obtain⟨k,H,rfl,d,b⟩:=hrel;have s:=b.size;have q:=(ku Q) wr b;obtain⟨_,_,_,rfl⟩:=zq d;by_cases a:k<t.vars.length
      ·obtain⟨g,rfl,m⟩:=ku a6 k a;have R:wr.cell? ⟨g,k*12,none⟩=some (.string (t.vars[k]).name.kind):=wZ b ((m _ aj).trans (xq kqu 12 (λ_=>rfl) t.vars k 0 a aj));have S:wr.cell? ⟨g,k*12+1,none⟩=some (.string (t.vars[k]).name.text):=wZ b ((m _ aj).trans (xq kqu 12 (λ_=>rfl) t.vars k 1 a aj));have U:wr.cell? ⟨g,k*12+2,none⟩=some (.int .i64 (t.vars[k]).name.at_):=wZ b ((m _ aj).trans (xq kqu 12 (λ_=>rfl) t.vars k 2 a aj));clear m;go_wp2_with (at_builtin;refine qxg (t:=(t.vars[k]).name) (d.alloc _) (b.alloc s _) (heap_alloc_new wr _) ?_ (hn:=by have:=take_len zzt t.vars k a;have:=(ku P).2.1;simp only[wY]at *;omega))
       intro X O y hb;have E:=pG (qxo.next (pre:=qxr t) (f:=zzt) a y hb);go_wp2
       go_roundw
       case rel=>exact ku E
       case measure=>exact qQ
      ·go_wp2_with fail
       refine(qz2 _ T t ((ku HT).below b) hr hn).mono ?_;rintro e w4 ⟨rv,rs,rfl,p,F,M⟩;have hA:=s;have C:=pG (show Acc w w4 wr.heap.size w.heap.size w4 _ (kyc t++((t.rules++t.nevers).take 0).flatMap kwz) from⟨by simpa using qj (show Tks wr w.heap.size _ (kyc t) from qxo.done a d) M,b.trans (M.mono s),λk W=>Or.inl (mg d k W),wJ _,λ_ _ _=>rfl⟩);obtain⟨ra,rc,rfl,I⟩:=kq5 p;have K:=pG (show ∀k,k<(t.rules++t.nevers).length->∃g,ra=some ⟨g,0,none⟩/\wr.heap.size<=g/\g<w4.heap.size/\∀j,j<(t.rules++t.nevers).length*6->w4.cell? ⟨g,j,none⟩=rs[j]? from λk W=>by
        obtain⟨g,rfl,m⟩:=I k W;exact⟨g,rfl,xg p g rfl,mg p g rfl,m⟩)
       have Z:=pG F;have Y:=pG (show jc t=kyc t++(t.rules++t.nevers).flatMap kwz from rfl);have aA:(t.rules++t.nevers).length<=1602:=kQ;have V:=(ku P).2.2;clear p I;generalize t.rules++t.nevers=x at C Y Z K V aA F |-;generalize wr.heap.size=A at C K hA;clear F M b d q s a H;go_wp2_with fail
       go_loopw [3,8] (λl i wr=>∃k:Nat,k<=x.length/\i=.int .i64 k/\Acc w w4 A w.heap.size wr l (kyc t++(x.take k).flatMap kwz)) (λ_ i _=>x.length-(intOf i).toNat)
       case atStart=>exact⟨0,rW _,rfl,ku C⟩
       case round=>
        obtain⟨k,H,rfl,c⟩:=hrel;have s:=c.sz;have aF:=c.bel.size;obtain⟨_,_,_,rfl⟩:=zq c.own;by_cases a:k<x.length
        ·obtain⟨g,rfl,a7,a8,m⟩:=ku K k a;obtain⟨_,_,_,_,⟨f0,f1,f2,_⟩,_⟩:=kvl k a (ku Z);have G:∀j v,w4.cell? ⟨g,j,none⟩=some v->wr.cell? ⟨g,j,none⟩=some v:=λj v h=>by rw[World.cell?,c.mid g a7 a8];exact h
         have R:=G _ _ ((m (k*6) aj).trans f0);have S:=G _ _ ((m (k*6+1) aj).trans f1);have U:=G _ _ ((m (k*6+2) aj).trans f2);have HN:=pG (zql kwz x k a);have a9:(kyc t++(x.take k).flatMap kwz).length<=90000:=by
          have:=take_len kwz x k a;rw[wY];omega
         clear m f0 f1 f2 G;go_wp2_with (at_builtin;refine(c.alloc _).qxg (t:=(x[k]).name) (heap_alloc_new wr _) ?_)
         intro X O c1;have E:=pG (show Acc w w4 A w.heap.size O X (kyc t++(x.take (k+1)).flatMap kwz) from by rw[ku HN];simpa[kwz] using c1);go_wp2
         go_roundw
         case rel=>exact⟨k+1,a,eu,ku E⟩
         case measure=>exact qQ
        ·have HF:=pG (show Tks wr w.heap.size _ (jc t) from by rw[ku Y];exact qxo.done a c.own);go_wp2
         go_ret
         exact⟨_,rfl,ku HF,c.bel⟩
end Go.Proofs.YtpmcnonmkghokaaGreatDoor

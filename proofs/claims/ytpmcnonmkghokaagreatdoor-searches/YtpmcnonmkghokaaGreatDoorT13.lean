import Derived.Test.YtpmcnonmkghokaaGreatDoorT06
import Derived.Test.YtpmcnonmkghokaaGreatDoorT12
import Derived.WalkMore
import Derived.Test.YtpmcnonmkghokaaGreatDoorT10
set_option maxRecDepth 100000
set_option maxHeartbeats 16000000
set_option linter.unusedVariables false
set_option linter.unusedSimpArgs false
namespace Go.Proofs.YtpmcnonmkghokaaGreatDoor
open Go.Proofs.Tryz Go.RowKit
attribute [local go_sem ↓] Go.wp_at_zero Go.wp_at_succ
variable {s:ByteArray}{most:Int}{a:Mach}{M a6 b b4 b5:Nat}{ta:Option Addr}{r:SRep}{b8 w:World}
abbrev RdS(S:Nat)(wv:Value)(w:World):Prop:=w.cell? ⟨S,1,none⟩=some wv/\True
abbrev ReS(S:Nat)(wv:Value)(b:Nat)(tx:ByteArray)(M:Nat)(pv c a bv:Value)(d j:Nat)(e:Value)(w:World):Prop:=w.cell? ⟨S,1,none⟩=some wv/\w.cell? ⟨b,0,none⟩=some (.string tx)/\w.cell? ⟨b,1,none⟩=some (.pointer (some ⟨M,0,none⟩))/\w.cell? ⟨b,2,none⟩=some pv/\w.cell? ⟨b,3,none⟩=some c/\w.cell? ⟨b,4,none⟩=some a/\w.cell? ⟨b,5,none⟩=some bv/\w.cell? ⟨d,j,none⟩=some e
theorem ReS.below{a7:Value}{a8 a9 c b3:Value}{b6:Value}{b7:Nat}(h:ReS a6 a7 b s M a8 a9 c b3 b4 b5 b6 w)(hb:Below b7 w b8)(h1:a6<b7)(a:b<b7)(d:b4<b7):ReS a6 a7 b s M a8 a9 c b3 b4 b5 b6 b8:=by obtain⟨e,s1,f,s3,g,i,j,k⟩:=h;exact⟨(hb.cell (p:=⟨a6,1,none⟩) h1).trans e,(hb.cell (p:=⟨b,0,none⟩) a).trans s1,(hb.cell (p:=⟨b,1,none⟩) a).trans f,(hb.cell (p:=⟨b,2,none⟩) a).trans s3,(hb.cell (p:=⟨b,3,none⟩) a).trans g,(hb.cell (p:=⟨b,4,none⟩) a).trans i,(hb.cell (p:=⟨b,5,none⟩) a).trans j,(hb.cell (p:=⟨b4,b5,none⟩) d).trans k⟩
theorem vz5(h:w.heap[b]?=some (.map #[] M)):kvr w b [] []:=⟨⟨#[],M,h,rfl,ay,ay⟩,rfl,Jd,ay⟩
theorem pq9{n:Nat}{b9:List ByteArray}(ev:Int)(hR:b8.heap[w.heap.size]?=some (.cells #[.int .i64 0,.slice none 0 0,.int .i64 0] 46 (0,0)))(g:b8.ownsRow a6 9 1 (.slice ta b M) b9.length (b9.reverse.map Value.string))(f:w.heap.size<=a6)(hb:oq w b8):(puts w.heap.size [.int .i64 ev,.slice ta b M,.int .i64 n] 0 b8).heap[w.heap.size]?=some (.cells #[.int .i64 ev,.slice ta b M,.int .i64 n] 46 (0,0))/\qq7 w ⟨0,ev,b9.reverse,n⟩ (.returned<|.tuple #[.agg #[.int .i64 ev,.slice ta b M,.int .i64 n],.int .i64 0]) (puts w.heap.size [.int .i64 ev,.slice ta b M,.int .i64 n] 0 b8):=by have e:=qyt b8 w.heap.size (.int .i64 ev) (.slice ta b M)<|.int .i64 n;refine⟨zju (k:=0) hR,ta,b,M,rfl,?_,hb.trans<|e.below hb.size ay⟩;show World.ownsRow _ _ _ _ _ b9.reverse.length _;rw[Zb];refine qo f (kkv g e<|λq h c fr a=>?_);have d:q=w.heap.size:=kV;rw[d,hR]at a;injection a with a;injection a with _ a _;exact absurd a ak
theorem vvv{d7:Option Addr}(h:zz4 b w M a6 a)(dM:MachOk a)(cW:w.cell? ⟨M,2,none⟩=some (.slice d7 b4 b5))(d9:w.ownsRow 0 3 1 (.slice d7 b4 b5) a.j.length (a.j.map (Value.int .i64)))(h5:a.j.length<=1000)(I:jqy a most=some r):Calls prog 44 #[.pointer (some ⟨M,0,none⟩),.int .i64 most] w (qq7 w r):=by
 obtain⟨W,hW⟩:=cpy<|w.alloc (.cells #[.int .i64 0,.slice none 0 0,.int .i64 0] 46);have aP:oq w W:=jM;have fB:W.heap.size=w.heap.size+1:=by rw[hW];simp
 have d8:W.heap[w.heap.size]?=some (.cells #[.int .i64 0,.slice none 0 0,.int .i64 0] 46 (0,0)):=kK;obtain⟨cL,cS,gD⟩:=jp aP d8 hW.symm;unfold jqy at I;by_cases bL:most<1\/500<most
 ·rw[lJ bL]at I;injection I with I;obtain⟨P,cO⟩:=ju I.symm (show qq7 w (qq3 8) (.returned<|.tuple #[.agg #[.int .i64 0,.slice none 0 0,.int .i64 0],.int .i64 8]) (w.alloc<|.cells #[.int .i64 0,.slice none 0 0,.int .i64 0] 46) from⟨none,0,0,rfl,oN,jZ _⟩);clear h dM cW d9 I d8 aP hW fB;by_cases h1:most<1
  case' neg=>have h2:500<most:=aj
  all_goals
   go_enter func44,ntmps44
   go_wp21;go_step3
   go_wp2;try rw[Exit.noGoto_ret]
   refine tK (v:=.tuple #[.agg #[.int .i64 0,.slice none 0 0,.int .i64 0],.int .i64 8]) (kjv results44 _ _ w.heap.size _ _ _ _ rfl (qy) underlying46 rfl au) rfl ?_;rw[ku P];exact cO
 ·rw[Xy bL]at I;have dS:a.size<=1000000:=by apply Qp;intro hc;rw[Xy hc]at I;cases I
  rw[lJ dS]at I;obtain⟨ts,dU,I⟩:=wu.1 I;obtain⟨q0,aR,I⟩:=wu.1 I;obtain⟨m,hm⟩:∃m:Nat,most=m:=⟨most.toNat,aj⟩;subst hm;rw[tX]at I;have eV:1<=m:=aj;have iI:m<=500:=aj;have iG:¬((m:Int)<1):=aj;have iH:¬((500:Int)<m):=aj;have gO:=h.lt;have cX:=h.below aP;have g1:=zv5 aR;have i2:0<a.size:=by
   unfold qx9 at aR;split at aR
   ·rename_i hc;simpa[kzs] using hc.1
   ·cases aR
  have fD:ts.length<=1000000:=by have:=zys _ _ _ dU ay;omega
  obtain⟨eL,aM,aY,HR,g8⟩:=ja (vw3 aj ((aP.cell (p:=⟨M,2,none⟩) gO).trans cW) (qj d9 aP) cX.size dS h5 dU) cX dM I aR;have fZ:∀X:World,(Instr.makeMap 166 none).run prog X=.ok (.map<|some X.heap.size) (X.alloc<|.map #[] 0):=λX=>rfl
  have g0:∀X:World,(Instr.makeMap 167 none).run prog X=.ok (.map<|some X.heap.size) (X.alloc<|.map #[] 0):=λX=>rfl
  clear h dM cW d9 I dU aR d8 aP hW bL cX;go_enter func44,ntmps44
  go_wp21;go_step3
  go_wp21;rw[ku gD];refine eL.mono ?_;rintro e y ⟨O,tv,cv,rfl,cY,eQ,b6,gP,dB⟩;have h4:=dB.size;obtain⟨w4,aH⟩:=cpy<|((y.alloc<|.map #[] 0).alloc<|.map #[] 0).alloc (.cells #[.pointer (some ⟨O,0,none⟩),.slice none 0 0,.map (some y.heap.size),.map (some (y.heap.size+1))] 170);have J:oq y w4:=by rw[aH];exact((jZ y).alloc ay _).alloc ah _
  have iN:w4.heap.size=y.heap.size+3:=by rw[aH];simp
  obtain⟨gc,cc,gW⟩:∃gc cc,cv=.slice (some ⟨gc,0,none⟩) a.size cc:=by
   rcases b6.2 with⟨G,e2⟩|⟨g,cap,cur,G,_⟩
   ·omega
   ·exact⟨g,cap,G⟩
  subst gW;have eC:W.heap.size<=gc:=jo b6 gc rfl;have eD:gc<y.heap.size:=by obtain⟨c,fr,e⟩:=qj8 b6 gc (by simp[qqc,Value.ownBlock]);exact wQ e
  have dJ:w4.heap[y.heap.size]?=some (.map #[] 0):=by rw[aH];have G:(y.alloc<|.map #[] 0).heap[y.heap.size]?=some (.map #[] 0):=Xk y _;rw[heap_alloc_old _ _ ah,heap_alloc_old _ _ ay];exact G
  have dK:w4.heap[y.heap.size+1]?=some (.map #[] 0):=by rw[aH,heap_alloc_old _ _ ay];have G:=Xk (y.alloc<|.map #[] 0)<|.map #[] 0;simp only[tV]at G;exact G
  have dL:w4.heap[y.heap.size+2]?=some (.cells #[.pointer (some ⟨O,0,none⟩),.slice none 0 0,.map<|some y.heap.size,.map (some<|y.heap.size+1)] 170 (0,0)):=by rw[aH];have G:=qy (w:=(y.alloc<|.map #[] 0).alloc<|.map #[] 0) (o:=.cells #[.pointer (some ⟨O,0,none⟩),.slice none 0 0,.map (some y.heap.size),.map (some (y.heap.size+1))] 170);simp only[tV]at G;exact G
  have a3:kjy W.heap.size w4 (y.heap.size+2) O M gc cc y.heap.size (y.heap.size+1) ts ⟨[],[],[],List.replicate a.size 0⟩:=by
   refine⟨⟨none,0,0,[],dL,oN,rfl,λk hk=>by simp at hk⟩,⟨tv,?_,?_,?_⟩,⟨[],vz5 dJ,ay⟩,⟨[],vz5 dK,rfl,λk hk=>by simp at hk⟩,aj,aj,aj,aj,aj⟩
   ·show w4.heap[O]?=some (.cells #[_,_,.slice _ (List.replicate a.size (0:Int)).length _] _ _);rw[Qh];exact(J.block O<|wQ cY).trans cY
   ·obtain⟨la,ll,lc,cs,G,e2,e3⟩:=eQ.tk (yt J none []) (pz.none _) ay ay ay;exact⟨la,ll,lc,cs,G,qo jR e2,e3⟩
   ·show w4.ownsRow _ _ _ (.slice _ (List.replicate a.size (0:Int)).length _) (List.replicate a.size (0:Int)).length _;rw[Qh];exact qj b6 J
  obtain⟨S,hS⟩:=cpy<|y.heap.size+2;obtain⟨sb,fC⟩:=cpy y.heap.size;obtain⟨fb,eU⟩:=cpy<|y.heap.size+1;rw[<-hS,<-eU,<-fC]at a3;have bO:oq W w4:=dB.trans<|J.mono h4;obtain⟨B,hB⟩:=cpy W.heap.size;rw[<-hB]at a3;obtain⟨V,cM,eH,gC⟩:=jb a3 bO (zw8 w4 M a.size (aM.below bO).size dS) aH.symm;have eR:y.heap.size+2=S:=hS.symm;have gB:=oz hS;have hO:S<w4.heap.size:=aj;have gI:B=W.heap.size:=hB;have a8:=oz hB;have gJ:B<=w4.heap.size:=aj;have hL:w.heap.size<B:=aj;clear cY eQ b6 dB J aH dJ dK dL a3 bO fC eU eC eD gP eL hS eR hB gI;go_wp21
  rw[ku gC,<-ku gB];refine eH.mono ?_;rintro e w5 ⟨v5,rfl,a0,L⟩;obtain⟨a5,l5,c5,rfl⟩:=qh a0;have iO:=L.size;have bN:oq W w5:=cM.trans (L.mono (by have:=ku a8;omega));have aX:=oz (vxg a5 l5 c5 (V.below L) ((aM.below bN).mc) (show zqc B w5 gc (kzs a).U (.slice a5 l5 c5) from⟨by
   show w5.ownsRow B 5 1 (.slice a5 l5 c5) (List.replicate a.size (0:Int)).length _;rw[Qh];exact qo gJ a0,λG=>by have h9:=jo a0 gc G;have h8:=V.lts.2.2.1;omega⟩) aY.z fD aj g8)
  have cJ:=oz bN;clear a0 L bN eH;go_wp21;refine aX.mono ?_;rintro e w6 ⟨rfl,D,aF⟩;have iP:=aF.size;obtain⟨fP,g5⟩:=ju D (cJ.trans (show Below W.heap.size w5 w6 by rw[<-ku a8];exact aF));clear D aF aX cJ;go_wp21;go_step3
  go_wp21;obtain⟨aL,fG⟩:=ju (show ∀wx:World,Below B W wx->Below W.heap.size W wx from λwx hx=>by rw[<-ku a8];exact hx) (show Below B W w6 by rw[ku a8];exact g5);have hJ:B<=W.heap.size:=by have:=ku a8;omega
  have i0:w.heap.size<W.heap.size:=aj;have gL:M<B:=by have:=ku a8;omega
  clear fB fZ g0 cM V;go_loopw [7,8,9,10,11,13,14,15] (λe7 e8 _ _ _ _ _ _ wr=>∃(n:Nat)(s:SSt),e7=.int .i64 0/\e8=.int .i64 0/\kjy B wr S O M gc cc sb fb ts s/\kjk a ts m n s=some r/\s.m.length<=m/\s.P.length<=m+1/\Below B W wr) (λ_ _ _ _ _ _ _ _ wr=>1000-xv6 wr S);exact⟨502,⟨[],[],q0.1,q0.2⟩,rfl,rfl,fP,HR,ay,by simp at g1 |-;omega,fG⟩;obtain⟨wo,rfl⟩:=cpy wr;obtain⟨n,s,rfl,rfl,bT,T,iT,iC,hb⟩:=hrel;have i3:=hb.size;cases n with
  |zero=>rw[kjk]at T;cases T
  |succ n=>
   rw[kjk]at T;have iF:=pxj s;obtain⟨oa,oc,ow,-⟩:=bT.qv2;obtain⟨eJ,eI,Q,HB⟩:=jb (jyz ow) (vx6 bT aj aj aj) T hb;clear bT T hb ow;generalize jd s=l at *;go_wp21;go_step3
   go_wp21;refine eI.mono ?_;rintro e w2 ⟨rfl,a2,dC⟩;have iL:=dC.size;obtain⟨iU,iY,z1,z3⟩:=a2.qv2;have dD:=HB.trans dC;obtain⟨cT,aS⟩:=ju a2 dD;have eR:=a2.lts.1;clear a2 dC dD eI;by_cases Y:m<l.m.length
   ·have d:=ku Q;rw[lJ Y]at d;injection d with d;have P:=oz d.symm;have cZ:=(aS.block w.heap.size aj).trans cS;obtain⟨k0,k1,k2,cF,cG,cH⟩:=row3 cZ;obtain⟨g9,cO⟩:=ju (jwm cZ (.int .i64 0) (.slice none 0 0) (.int .i64 0)) (show qq7 w (qq3 9) (.returned<|.tuple #[.agg #[.int .i64 0,.slice none 0 0,.int .i64 0],.int .i64 9]) (((w2.setCell ⟨w.heap.size,0,none⟩<|.int .i64 0).setCell ⟨w.heap.size,1,none⟩<|.slice none 0 0).setCell ⟨w.heap.size,2,none⟩<|.int .i64 0) from⟨none,0,0,rfl,oN,(cL.trans<|aS.mono aj).trans<|(qyt w2 w.heap.size _ _ _).below aj ay⟩);have eB:(m:Int)<l.m.length:=aj;have i7:w.heap.size<w2.heap.size:=aj;clear d cZ Y;go_wp2
    try rw[Exit.noGoto_ret]
    refine tK (v:=.tuple #[.agg #[.int .i64 0,.slice none 0 0,.int .i64 0],.int .i64 9]) (kjv results44 _ _ w.heap.size _ _ _ _ rfl g9 underlying46 rfl au) rfl ?_;rw[ku P];exact cO
   ·have eB:¬((m:Int)<l.m.length):=by omega
    by_cases U:l.m.length=s.m.length
    ·have d:=ku Q;rw[Xy Y,lJ (by simpa using U)]at d;unfold qxm at d;obtain⟨lt,R,d⟩:=wX.1 d;obtain⟨P,bK,aD,a9⟩:=jb d.symm R cT (aL w2 aS);have bQ:0<0->0<l.m.length:=λh=>aj
     have h3:((s.m.length:Int)==(l.m.length:Int))=true:=by simp[U]
     have h6:l.m.length<=1000:=aj;clear d R U Y Q;obtain⟨aI,hG,aJ,hF,aK,bC,-⟩:=(aD.below<|(Below.refl _ w2).drew).e;obtain⟨hH,hI,dY,-⟩:=qp bC;injection dY with bV bW bX;subst bV;subst bW;subst bX;obtain⟨dZ,bD,e6,e9,-⟩:=kz3 aK;obtain⟨b2,b3⟩:=ju (show RdS S (.slice aI l.m.length aJ) w2.drew from⟨bD,trivial⟩) (jxa (aD.below<|(Below.refl _ w2).drew) bQ aj aj bK);have h7:=a9.size;have dA:S<w2.heap.size:=wQ aK;clear aK bC dZ bD e6 e9;go_upto_region 28 with fail
     rw[Exit.noGoto_exit];go_upto_region 28 with fail
     refine bg (S:=RdS S<|.slice aI l.m.length aJ) (tl:=[7,8]) au ?_;refine frS 0 ?_;refine frS 1 ?_;refine frS 3 ?_;refine tkS 4 b2 ?_;refine frS 5 ?_;refine onS 2 λK E=>?_
     go_simp;go_at_call 80
     refine b3.mono ?_;rintro e wt ⟨vt,rfl,aG,b7⟩;obtain⟨ta,tn,tc,rfl⟩:=qh aG;have A:oq w2 wt:=qql b7;have g2:=A.size;have bJ:=oz (show RdS S (.slice aI l.m.length aJ) wt from⟨(A.cell (p:=⟨S,1,none⟩) dA).trans b2.1,trivial⟩);have aE:wt.heap[w.heap.size]?=some (.cells #[.int .i64 0,.slice none 0 0,.int .i64 0] 46 (0,0)):=(A.block w.heap.size aj).trans<|(a9.block w.heap.size aj).trans cS;obtain⟨k0,k1,k2,cF,cG,cH⟩:=row3 aE;have HE:=oz (pq9 0 aE aG (show w.heap.size<=w2.heap.size by omega) ((cL.trans<|a9.mono aj).trans<|A.mono aj) (n:=l.m.length));clear aG b7 A aE b3;dsimp only;refine E _ _ bJ ?_;clear E K;try simp only[Act.put,Qy,QW,QY]
     refine frS 6 ?_;refine kyj ?_;refine onA 7 λK E=>?_
     go_simp;refine E _ _ ?_;clear E K;refine onA 8 λK E=>?_
     go_simp;refine E _ _ ?_;clear E K;refine wpAny_done au ?_ _;clear k0 k1 k2 cF cG cH;go_wp2;try rw[Exit.noGoto_ret]
     rw[ku P];exact tK (v:=.tuple #[.agg #[.int .i64 0,.slice ta tn tc,.int .i64 l.m.length],.int .i64 0]) (kjv results44 _ _ w.heap.size _ _ _ _ rfl HE.1 underlying46 rfl au) rfl HE.2
    ·have hT:s.m.length<l.m.length:=by omega
     have h3:((s.m.length:Int)==(l.m.length:Int))=false:=by rw[QG];omega
     have d:=ku Q;rw[Xy Y,Xy (by simpa using U)]at d;obtain⟨x,hx,d⟩:=wu.1 d;obtain⟨eG,a1⟩:=ju hx d;have h6:l.m.length<=500:=aj;have dF:decide (m<l.m.length)=false:=ah
     clear d hx U Y Q;go_wp21;try rw[dF]
     clear dF;go_loopw [7,8,10] (λe7 e8 i wr=>∃k:Nat,i=.int .i64 k/\s.m.length<=k/\k<=l.m.length/\e7=.int .i64 0/\e8=.int .i64 0/\zwz a (l.m.drop k) k=some x/\kjy B wr S O M gc cc sb fb ts l/\Below B W wr) (λ_ _ i _=>l.m.length-(intOf i).toNat);exact⟨s.m.length,rfl,jH,aj,rfl,rfl,eG,cT,aS⟩;obtain⟨w3,rfl⟩:=cpy wr;obtain⟨k,rfl,iE,gY,rfl,rfl,t,z,aN⟩:=hrel;have iM:=aN.size;have i8:=z.lts.1;by_cases R:k<l.m.length
     ·obtain⟨wg,eA,ya,yn,yc,y1,dV,y3,bB⟩:=z.zyg k R;rw[rU R,zwz]at t;have Z:l.m[k].U.length<=1000000:=by apply Qp;intro hc;rw[Xy hc]at t;cases t
      rw[lJ Z]at t;obtain⟨v,hv,t⟩:=wu.1 t;obtain⟨eF,aT,fO,g4⟩:=jb (pxs (aM.below<|aL w3 aN) aY (qo jR bB.1) Z hv) t z aN;have aA:=oz (λ(e0:endOf v≠0)=>show x=(k,endOf v) from by have h9:=ku aT;rw[Xy (by simpa using e0)]at h9;injection h9 with h9;exact h9.symm)
      have aU:=oz (λ(e0:endOf v=0)=>show zwz a (l.m.drop<|k+1) (k+1)=some x from by have h9:=ku aT;rw[lJ (by simpa using e0)]at h9;exact h9)
      generalize endOf v=ev at *;clear t hv z aN bB aT;go_wp21;refine eF.mono ?_;rintro e w4 ⟨rfl,J⟩;have hX:=J.size;have V:=oz<|fO.below J;have eE:=oz<|g4.trans (J.mono aj);clear J eF y1 y3;by_cases hz:ev=0
      ·subst hz;have bZ:=oz<|aU rfl;clear aU aA;go_wp2
       exact rdM ⟨k+1,eu,aj,aj,rfl,rfl,bZ,V,eE⟩
      ·have fF:=(ku aA) hz;have iJ:(ev != 0)=true:=by simpa using hz
       have d:=ku a1;rw[fF]at d;rw[Xy (by simpa using hz)]at d;unfold qxm at d;obtain⟨lt,dI,d⟩:=wX.1 d;obtain⟨P,bK,aD,a9⟩:=jb d.symm dI V (aL w4 eE);have bQ:0<k->k<l.m.length:=λh=>R
       clear d dI a1 aU aA fF;obtain⟨aI,hG,aJ,hF,aK,bC,-⟩:=(aD.below<|(Below.refl _ w4).drew).e;obtain⟨hH,hI,dY,-⟩:=qp bC;injection dY with bV bW bX;subst bV;subst bW;subst bX;obtain⟨dZ,bD,e6,e9,-⟩:=kz3 aK;obtain⟨b2,b3⟩:=ju (show RdS S (.slice aI l.m.length aJ) w4.drew from⟨bD,trivial⟩) (jxa (aD.below<|(Below.refl _ w4).drew) bQ aj aj bK);have h7:=a9.size;have dA:S<w4.heap.size:=wQ aK;clear aK bC dZ bD e6 e9;go_upto_region 28 with fail
       rw[Exit.noGoto_exit];go_upto_region 28 with fail
       refine bg (S:=RdS S<|.slice aI l.m.length aJ) (tl:=[7,8]) au ?_;refine frS 0 ?_;refine frS 1 ?_;refine frS 3 ?_;refine tkS 4 b2 ?_;refine frS 5 ?_;refine onS 2 λK E=>?_
       go_simp;go_at_call 80
       refine b3.mono ?_;rintro e wt ⟨vt,rfl,aG,b7⟩;obtain⟨ta,tn,tc,rfl⟩:=qh aG;have A:oq w4 wt:=qql b7;have g2:=A.size;have bJ:=oz (show RdS S (.slice aI l.m.length aJ) wt from⟨(A.cell (p:=⟨S,1,none⟩) dA).trans b2.1,trivial⟩);have aE:wt.heap[w.heap.size]?=some (.cells #[.int .i64 0,.slice none 0 0,.int .i64 0] 46 (0,0)):=(A.block w.heap.size aj).trans<|(a9.block w.heap.size aj).trans cS;obtain⟨k0,k1,k2,cF,cG,cH⟩:=row3 aE;have HE:=oz (pq9 ev aE aG (show w.heap.size<=w4.heap.size by omega) ((cL.trans<|a9.mono aj).trans<|A.mono aj) (n:=l.m.length));clear aG b7 A aE b3;dsimp only;refine E _ _ bJ ?_;clear E K;try simp only[Act.put,Qy,QW,QY]
       refine frS 6 ?_;refine kyj ?_;refine onA 7 λK E=>?_
       go_simp;refine E _ _ ?_;clear E K;refine onA 8 λK E=>?_
       go_simp;refine E _ _ ?_;clear E K;refine wpAny_done au ?_ _;clear k0 k1 k2 cF cG cH;go_wp2;try rw[Exit.noGoto_ret]
       rw[ku P];exact tK (v:=.tuple #[.agg #[.int .i64 ev,.slice ta tn tc,.int .i64 l.m.length],.int .i64 0]) (kjv results44 _ _ w.heap.size _ _ _ _ rfl HE.1 underlying46 rfl au) rfl HE.2
     ·have dH:k=l.m.length:=by omega
      subst dH;rw[sK,zwz]at t;injection t with t;have d:=ku a1;rw[<-t]at d;rw[lJ ay]at d;obtain⟨q,hq,d⟩:=wu.1 d;obtain⟨i5,eS,fX⟩:=z.P;obtain⟨wc,fW,eW,aW⟩:=py1 eS underlying167 0;have aV:=z.cleared eW aW;obtain⟨iV,iZ,y1,y3⟩:=z.qv2;have iS:=aW.size;have iK:=zvc _ _ _ _ _ hq ay;obtain⟨HQ,bZ,fT,g7⟩:=jb hq d aV (aN.trans<|aW.below aj (by simpa using z.ge.2.2.2));have iB:=aV.lts.1;obtain⟨iW,j0,j5,j6⟩:=aV.qv2;clear t d hq eS fX eW aW aV z aN a1 eG;go_wp21
      go_step3
      go_wp21;clear fW;go_loopw [11,13,14,15] (λi _ _ _ wr=>∃(k:Nat)(f:Fnd)(c:List Int),i=.int .i64 k/\k<=l.m.length/\kjh a ts m (l.m.drop k) k f c=some q/\f.length<=m/\kjy B wr S O M gc cc sb fb ts ⟨l.m,l.Z,f,c⟩/\Below B W wr) (λi _ _ _ _=>l.m.length-(intOf i).toNat);exact⟨s.m.length,[],l.cur,rfl,aj,HQ,ay,fT,g7⟩;obtain⟨w7,rfl⟩:=cpy wr;obtain⟨k,f,c,rfl,gY,u,cC,F,aO⟩:=hrel;have iQ:=aO.size;have iA:=F.lts.1;by_cases R:k<l.m.length
      ·rw[rU R,kjh]at u;have Z:l.m[k].U.length<=1000000:=by apply Qp;intro hc;rw[Xy hc]at u;cases u
       rw[lJ Z]at u;obtain⟨q2,eX,u⟩:=wu.1 u;obtain⟨_,⟨j3,j4,j2,hE,-,-⟩,-,-,-⟩:=aM.below<|aL w7 aO;obtain⟨hC,hD,u1,u3⟩:=F.qv2;have i1:a.X.length<=1000000:=aY.sl;obtain⟨eM,bI,bH,bY,fL⟩:=ja eX u F aO hE;obtain⟨st,bU⟩:=cpy<|l.m[k].U;have gE:=oz (λ(wx:World)(f':Fnd)(c':List Int)(hx:kjy B wx S O M gc cc sb fb ts ⟨l.m,l.Z,f',c'⟩)=>(show ∃g lc ya yn yc,wx.cell? ⟨S,1,none⟩=some (.slice (some ⟨g,0,none⟩) l.m.length lc)/\g<wx.heap.size/\wx.cell? ⟨g,k*3,none⟩=some (.slice ya yn yc)/\zqc B wx gc st (.slice ya yn yc) from by rw[bU];exact hx.zyg k R));rw[<-bU]at Z eM;clear u eX F aO bU;go_wp21
       go_loopw [13,14,15,78] (λ_ _ _ i wr=>∃(j:Nat)(f:Fnd)(c:List Int),i=.int .i64 j/\j<=a.X.length/\kzc a ts m k st (a.X.drop j) f c=some q2/\f.length<=m/\kjy B wr S O M gc cc sb fb ts ⟨l.m,l.Z,f,c⟩/\Below B W wr) (λ_ _ _ i _=>a.X.length-(intOf i).toNat);exact⟨0,f,c,rfl,jR,eM,cC,bH,bY⟩;obtain⟨w8,rfl⟩:=cpy wr;obtain⟨j,f,c,rfl,iD,N,cC,a4,H⟩:=hrel;have iR:=H.size;by_cases bS:j<a.X.length
       ·obtain⟨g,tc,pa,pn,pc,ma,mn,mc,pp,ba,bn,bc,d0,hg,d1,d2,d3,d4,d5,d6,cD⟩:=xjp aM aY j bS;have aQ:g<B:=by have:=ku a8;omega
        have cE:=(bY.cell (p:=⟨M,0,none⟩) gL).symm.trans fL;rw[d0]at cE;injection cE with cE;injection cE with eV _ gZ;subst eV;subst gZ;have e0:=(H.cell (p:=⟨g,j*6,none⟩) aQ).trans d1;have G:=(H.cell (p:=⟨g,j*6+1,none⟩) aQ).trans d2;have e2:=(H.cell (p:=⟨g,j*6+2,none⟩) aQ).trans d3;have e3:=(H.cell (p:=⟨g,j*6+3,none⟩) aQ).trans d4;have e4:=(H.cell (p:=⟨g,j*6+4,none⟩) aQ).trans d5;have e5:=(H.cell (p:=⟨g,j*6+5,none⟩) aQ).trans d6;rw[rU bS,kzc]at N;obtain⟨r1,fA,N⟩:=wu.1 N;obtain⟨wb,bA⟩:=cpy<|w8.alloc (.cells #[.string a.X[j].x,.pointer (some ⟨M,0,none⟩),.slice pa pn pc,.slice ma mn mc,.pointer pp,.slice ba bn bc] 178);have dE:oq w8 wb.drew:=by rw[bA];exact(jZ _).drew
        have dW:wb.heap[w8.heap.size]?=some (.cells #[.string a.X[j].x,.pointer<|some ⟨M,0,none⟩,.slice pa pn pc,.slice ma mn mc,.pointer pp,.slice ba bn bc] 178 (0,0)):=by rw[bA];exact qy
        have a7:=a4.below dE;obtain⟨wg,eA,ya,yn,yc,y1,dV,y3,bB⟩:=(ku gE) _ _ _ a7;obtain⟨x0,x1,x2,x3,x4,x5,-⟩:=kzh (show wb.drew.heap[w8.heap.size]?=_ from dW);have bP:Below B W wb.drew:=H.trans<|dE.mono aj;obtain⟨cN,aC,eO,cV,fH,aZ,eN⟩:=jt (cD wb.drew st ya yn yc r1 (aL _ bP) (qo jR bB.1) Z fA) (show ReS S (.slice (some ⟨wg,0,none⟩) l.m.length eA) w8.heap.size a.X[j].x M (.slice pa pn pc) (.slice ma mn mc) (.pointer pp) (.slice ba bn bc) wg (k*3) (.slice ya yn yc) wb.drew from⟨y1,x0,x1,x2,x3,x4,x5,y3⟩) dW a7 bP N bA.symm;have dT:w8.heap.size<wb.heap.size:=by rw[bA];simp
        have gQ:S<wb.heap.size:=a7.lts.1;have g3:wg<wb.heap.size:=dV;have hP:(0:Int)<=(k:Int):=aj;have hQ:(k:Int)<l.m.length:=aj;obtain⟨dX,dQ⟩:=cpy<|a.X[j];rw[<-dQ]at cN aC eO aZ e0 eN;have HJ:=oz bS;clear cD d0 d1 d2 d3 d4 d5 d6 fA N bA dE dW a7 bB bP x0 x1 x2 x3 x4 x5 y1 y3 a4 H hg dQ dV;go_upto_region 23 with fail
        rw[ku eN];refine bg (S:=ReS S (.slice (some ⟨wg,0,none⟩) l.m.length eA) w8.heap.size dX.x M (.slice pa pn pc) (.slice ma mn mc) (.pointer pp) (.slice ba bn bc) wg (k*3)<|.slice ya yn yc) (tl:=[]) au ?_;refine tkS 0 aC ?_;refine frS 1 ?_;refine tkS 2 aC ?_;refine frS 3 ?_;refine frS 4 ?_;refine frS 5 ?_;refine tkS 6 aC ?_;refine onS 7 λK E=>?_
        go_simp;go_at_call 79
        refine cN.mono ?_;rintro e w5 ⟨v5,rfl,a0,L⟩;obtain⟨gG,hA,gH,rfl⟩:=qh a0;have bM:oq wb w5:=qql L;have hY:=bM.size;obtain⟨gA,gF,cU,cI,eK⟩:=ja (aC.below L gQ dT g3) ((bM.block w8.heap.size dT).trans eO) (cV.below L) (fH.trans<|L.mono (show B<=wb.heap.size by omega)) a0;clear a0 L bM cN;dsimp only;refine E _ _ gA ?_;clear E K;try simp only[Act.put,Qy,QW,QY]
        refine frS 8 ?_;refine frS 9 ?_;refine frS 10 ?_;refine frS 11 ?_;refine frS 12 ?_;refine kyj ?_;refine wpAny_done au ?_ _;obtain⟨x0,x1,x2,x3,x4,x5,-⟩:=kzh gF;have i4:w8.heap.size<w5.heap.size:=aj;have bG:=oz (λ(h0:r1.2≠1)=>show kzc a ts m k st (a.X.drop<|j+1) f c=some q2 from by have h9:=ku aZ;rw[Xy (by simpa using h0)]at h9;exact h9)
        have bF:=oz (λ(h0:r1.2=1)=>show ∃C,qx9 a ts ⟨r1.1,k,dX.x⟩ f c=some C/\(m<C.1.length->q2=(C.1,C.2,true))/\(¬m<C.1.length->kzc a ts m k st (a.X.drop<|j+1) C.1 C.2=some q2) from by
         have h9:=ku aZ;rw[lJ (by simpa using h0)]at h9;obtain⟨C,b9,h9⟩:=wu.1 h9;refine⟨C,b9,λhc=>?_,λhc=>?_⟩
         ·rw[lJ hc]at h9;injection h9 with h9;exact h9.symm
         ·rw[Xy hc]at h9;exact h9)
        by_cases b8:r1.2=1
        ·obtain⟨C,b9,eY,dO⟩:=(ku bF) b8;have hV:=zv5 b9;have eP:=(aM.below<|aL w5 cI).mc;have aX:=oz (vxg (x:=⟨r1.1,k,dX.x⟩) gG hA gH cU eP ⟨qo (show B<=wb.heap.size by omega) eK,λG=>by have h9:=jo eK gc G;have h8:=cV.lts.2.2.1;omega⟩ aY.z fD aj (X:=C) b9)
         obtain⟨cP,cQ⟩:=ju eY dO;rw[b8];clear b9 eY dO eP bF bG aZ b8;go_wp21;refine aX.mono ?_;rintro e w6 ⟨rfl,D,aF⟩;have hZ:=aF.size;obtain⟨i6,eT,-⟩:=D.P;have fY:=xv2 eT underlying167 3;rw[Ql]at fY;obtain⟨iX,j1,v1,v3⟩:=D.qv2;have cA:=oz D;have i9:=D.lts.1;have cK:=oz<|cI.trans aF;have fI:=oz<|jyz v1;clear D aF eT aX x0 x1 x2 x3 x4 x5;by_cases cB:m<C.1.length
         ·have gU:(m:Int)<C.1.length:=by omega
          have dN:=(ku cP) cB;have eZ:q=(C.1,C.2):=by have h9:=ku bI;rw[dN]at h9;simp only[Xw]at h9;injection h9 with h9;exact h9.symm
          have cR:=oz (show kjk a ts m n ⟨l.m,l.Z,C.1,C.2⟩=some r from by have h9:=ku bZ;rw[eZ]at h9;exact h9);clear dN eZ cP cQ bI;go_wp2;exact⟨⟨_,_,_,_,_,_,_,_,_,_,_,_,_,_,_,_,_,_,_,_,_,_,_,_,_,_,_,_,_,_,_,_,_,_,_,_,_,_,_,_,_,_,_,_,_,_,_,_,_,_,_,_,_,_,_,_,_,_,_,_,_,_,_,_,_,_,_,_,_,_,_,_,_,_,_,_,_,_,_,_,_,_,_,_,_,⟨n,⟨l.m,l.Z,C.1,C.2⟩,rfl,rfl,cA,cR,(by show l.m.length<=m;omega),(by show C.1.length<=m+1;omega),cK⟩,rfl⟩,by rw[ku fI,ku eJ];show 1000-l.m.length<1000-s.m.length;omega⟩
         ·have gU:¬(m:Int)<C.1.length:=by omega
          have aB:=oz<|cQ cB;clear cP cQ;go_wp2
          exact⟨⟨j+1,C.1,C.2,eu,by have:=ku HJ;omega,aB,aj,cA,cK⟩,by have:=ku HJ;simp[intOf];omega⟩
        ·have aB:=oz<|bG b8;have hU:(r1.2 != 1)=true:=by simpa using b8
         generalize r1.2=oc at *;clear bF bG aZ x0 x1 x2 x3 x4 x5;go_wp2;exact⟨⟨j+1,f,c,eu,by have:=ku HJ;omega,aB,cC,cU,cI⟩,by have:=ku HJ;simp[intOf];omega⟩
       ·have gX:j=a.X.length:=by omega
        subst gX;rw[sK,kzc]at N;injection N with N;have aB:=oz (show kjh a ts m (l.m.drop<|k+1) (k+1) f c=some q from by have h9:=ku bI;rw[<-N]at h9;simpa using h9)
        obtain⟨fQ,g6⟩:=ju a4 H;clear N a4 H;go_wp2;exact rdM ⟨k+1,f,c,eu,aj,aB,cC,fQ,g6⟩
      ·have dH:k=l.m.length:=by omega
       subst dH;rw[sK,kjh]at u;injection u with u;have cR:=oz (show kjk a ts m n ⟨l.m,l.Z,f,c⟩=some r from by have h9:=ku bZ;rw[<-u]at h9;exact h9);obtain⟨hC,hD,u1,u3⟩:=F.qv2;obtain⟨fJ,bH,bY⟩:=jp (jyz u1) F aO;clear u F aO;go_wp2
       exact⟨⟨n,_,rfl,rfl,bH,cR,(by show l.m.length<=m;omega),(by show f.length<=m+1;omega),bY⟩,by rw[ku fJ,ku eJ];show 1000-l.m.length<1000-s.m.length;omega⟩
theorem pzl{d8:MdL}(h:jy5 d8=some a):a.j=kje d8.j:=by obtain⟨t,_,h⟩:=wu.1 h;obtain⟨x,_,h⟩:=wu.1 h;obtain⟨st,_,h⟩:=wu.1 h;obtain⟨nv,_,rfl⟩:=wX.1 h;rfl
theorem vvx(w:World)(hr:kvn s most=some r):Calls prog 25 #[.string s,.int .i64 most] w λe w'=>qq7 w r e w':=by
 obtain⟨W,L⟩:=cpy<|w.alloc (.cells #[.int .i64 0,.slice none 0 0,.int .i64 0] 46);have R:oq w W:=by rw[L];exact jZ w
 have T:w.heap.size<W.heap.size:=by simp_all
 have X:W.heap[w.heap.size]?=some (.cells #[.int .i64 0,.slice none 0 0,.int .i64 0] 46 (0,0)):=by rw[L];exact qy
 have f:=oz hr;go_in;go_wp21;rw[(oz L.symm)];refine(pvz s W).mono ?_;rintro e p ⟨C,x0,x1,x2,x3,x4,rfl,A,⟨a0,n0,k0,rfl⟩,⟨a1,n1,k1,rfl⟩,⟨a2,n2,k2,rfl⟩,⟨a3,n3,k3,rfl⟩,⟨a4,n4,k4,rfl⟩⟩;have y:oq w p:=R.trans<|C.mono aj;have g:=oz<|(C.block w.heap.size T).trans X;have J:=wQ g;unfold kvn at f;obtain⟨c1,c2,hc⟩:∃c1 c2,qq4 s=(c1,c2):=⟨_,_,rfl⟩;rw[hc]at f A |-;cases F:(c1==0)
 ·have Z:r=qq3 c1:=by have:=f;rw[F,Xy ay]at this;injection this with this;simp_all
  subst Z;have r0:=row3 g;go_wp2;refine tK (v:=.tuple #[.agg #[.int .i64 0,.slice none 0 0,.int .i64 0],.int .i64 c1]) (kjv results25 _ _ w.heap.size _ _ _ _ rfl (zy<|jwm g _ _ _) underlying46 rfl au) rfl ?_;exact⟨none,0,0,rfl,jE,((y.trans<|(qyt p w.heap.size _ _ _).below aj ay).alloc jQ _)⟩
 ·have a6:(c1 != 0)=false:=by simp_all
  have N:c1=0:=by simp_all
  have G:=f;rw[F,lJ rfl]at G;obtain⟨a,b,U⟩:=wu.1 G;unfold qx5 at b;have d:zkh (ql (uz (jv s).1).1)=true:=by simp_all
  rw[lJ d]at b;obtain⟨a',m,b⟩:=wu.1 b;have l:zq0 a'=true:=by grind
  rw[lJ l]at b;injection b with b;subst b;have x:a'.j.length<=1000:=by have Y:a'.j=kje (ql (uz (jv s).1).1).j:=pzl m;rw[Y,kje,Ql];exact((jke d).j)
  obtain⟨wb,H⟩:=cpy<|p.alloc (.cells #[.slice a0 n0 k0,.slice a1 n1 k1,.slice a2 n2 k2,.slice a3 n3 k3,.slice a4 n4 k4] 68);have j:oq p wb:=by rw[H];exact jZ _
  have P:=new_any ((A N).stay λk _ hk=>j.block k hk) (jke d) m;have O:=y.trans<|j.mono aj;have Q:=(j.block _ J).trans g;go_wp21
  rw[(oz H.symm)];refine P.mono ?_;rintro e w2 ⟨M,nb,sv,nv,tv,vv,rfl,h,D⟩;have z:=O.trans (D.mono<|by grind);obtain⟨a7,a9,a8,rfl⟩:=qh h.j;obtain⟨_,_,m2,_⟩:=kzh h.e;have B:=(D.block w.heap.size<|by grind).trans Q;go_wp21;refine(vvv h.xy8 (vwv l) m2 (qo jR h.j) x U).mono ?_;rintro e w3 ⟨t,en,u,rfl,S,E⟩;have I:=z.size;have i:=(E.block w.heap.size<|wQ B).trans B;have r0:=row3 i;have a5:=wQ i;have K:=qyt w3 w.heap.size (.int .i64 r.end_) (.slice t en u)<|.int .i64 r.xr;have V:=show qq7 w r (.returned<|.tuple #[.agg #[.int .i64 r.end_,.slice t en u,.int .i64 r.xr],.int .i64 r.err]) _ from⟨t,en,u,rfl,qo I (kkv S K (λq hq c fr e1=>by simp_all)),(z.trans<|E.mono I).trans<|K.below aj ay⟩
  go_wp2;exact tK (v:=.tuple #[.agg #[.int .i64 r.end_,.slice t en u,.int .i64 r.xr],.int .i64 r.err]) (kjv results25 _ _ w.heap.size _ _ _ _ rfl (jwm i _ _ _) underlying46 rfl au) rfl V
theorem vz1(n:Int)(w:World):Calls prog 14 #[.int .i64 n] w λe w'=>e=.returned (.int .i64 n)/\w'=w:=by go_wp2;go_ret;simp
theorem pxn{d9:MView}(h:endOf d9=most)(a:most≠0):(most=1/\0<d9.xs.length)\/(most=2/\kx2 d9=true)\/(most=3/\0<d9.xz.length):=by grind [xzl]
theorem fits_any(S:-9223372036854775808<=most/\most<=9223372036854775807){err en:Int}{tr:List ByteArray}{ob:Nat}{res:Int×Bool×Nat×Nat}(Q:pjc s most res)(g:xj1 s ⟨err,en,tr,ob⟩ res)(tc:Nat)(T:jzh w ta tr):Calls prog 26 #[.string s,.int .i64 most,.agg #[.int .i64 en,.slice ta tr.length tc,.int .i64 ob],.int .i64 err] w λe w'=>e=.returned (.bool true)/\oq w w':=by
 obtain⟨rc,U,n1,n2⟩:=res;obtain⟨h1,z,g⟩:=g;dsimp only at h1 z g;subst h1;subst z;obtain⟨W,h⟩:=cpy<|w.alloc (.cells #[.int .i64 en,.slice ta tr.length tc,.int .i64 ob] 46);have t:oq w W:=by rw[h];exact jZ w
 have d:w.heap.size<W.heap.size:=by simp_all
 have K:Hid (W.heap[w.heap.size]?=some (.cells #[.int .i64 en,.slice ta tr.length tc,.int .i64 ob] 46 (0,0))):=by rw[h];exact qy
 have y:=oz h.symm;have L:=vzi W S Q;have M:=oz T;clear h;go_in;go_wp21;rw[ku y];refine L.mono ?_;rintro e V ⟨rfl,k⟩;have f:=t.trans<|k.mono (Qr d);have b:=oz<|(k.block w.heap.size d).trans K;have A:=wQ b;have x:=M.below f<|jH;clear d;dsimp only;go_wp21
 refine(vz1 rc V).mono ?_;rintro e X ⟨rfl,rfl⟩;go_wp21;refine(vz1 rc X).mono ?_;rintro e w3 ⟨rfl,rfl⟩;have J:=row3 b;obtain⟨B,rfl,rfl⟩|⟨rfl,rfl,rfl,R,v,hv,c,m⟩:=g
 ·by_cases F:rc=0
  case' pos=>
   obtain rfl:U=false:=by simp_all
   subst F
  case' neg=>have Z:(rc==0)=false:=by simp_all
  all_goals
   clear B;go_wp2;go_ret;exact⟨ay,f⟩
 ·have u:=vx1 tr.length tc rfl x aj hv;have p:=oz<|pxn c m;have H:=f.size;clear c m;go_wp21
  refine u.mono ?_;rintro e w4 ⟨N,eN,O,wa,wn,Y,ba,bn,bc,rfl,C,D,E,l⟩;obtain⟨rfl,_⟩:=zzi C;obtain⟨rfl,_⟩:=zzi D;obtain⟨rfl,_⟩:=zzi E;have i:=f.trans<|l.mono H;have j:=oz<|(l.block w.heap.size A).trans b;have P:=wQ j;have G:=i.size;clear J;have J:=row3 j;dsimp only;have a:=i.alloc G<|.cells #[.string v.x,.slice N v.xn.length O,.slice wa v.xz.length Y,.slice ba v.xs.length bc,.bool (kx2 v)] 24;obtain⟨rfl,q⟩|⟨rfl,q⟩|⟨rfl,q⟩:=p
  ·have I:(0:Int)<v.xs.length:=by omega
   go_wp2;go_ret;exact⟨ay,a⟩
  ·rw[q]at a |-;go_wp2
   go_ret;exact⟨ay,a⟩
  ·have I:(0:Int)<v.xz.length:=by omega
   go_wp2;go_ret;exact⟨ay,a⟩
theorem jwh(w:World)(s:ByteArray)(t:-9223372036854775808<=most/\most<=9223372036854775807):Calls prog 7 #[.string s,.int .i64 most] w λe w'=>e=.returned (.bool true)/\oq w w':=by
 obtain⟨⟨err,en,tr,ob⟩,res,k,q,p⟩:=pvc s most;have g:=oz (λwx ta tc v=>fits_any (s:=s) (w:=wx) (most:=most) t (err:=err) (en:=en) (tr:=tr) (ob:=ob) (res:=res) q p (ta:=ta) tc v);have h:=vvx w k;clear k;go_in;go_wp21;refine h.mono ?_;rintro e b ⟨ta,y,tc,rfl,u,hb⟩;obtain⟨rfl,d⟩:=zzi u;dsimp only at d |-;obtain⟨W,a⟩:=cpy<|b.alloc (.cells #[.int .i64 en,.slice ta tr.length tc,.int .i64 ob] 46);have c:oq b W:=by rw[a];exact jZ _
 have hR:W.heap[b.heap.size]?=some (.cells #[.int .i64 en,.slice ta tr.length tc,.int .i64 ob] 46 (0,0)):=by rw[a];exact qy
 have l:=g W ta tc<|d.below c jH;have f:=hb.trans<|c.mono hb.size;have i:=oz a.symm;have x:=row3 hR;clear a;go_wp21
 rw[ku i];refine l.mono ?_;rintro e z ⟨rfl,j⟩;have m:=f.trans<|j.mono f.size;go_wp2
 go_ret;exact⟨rfl,m⟩
end Go.Proofs.YtpmcnonmkghokaaGreatDoor

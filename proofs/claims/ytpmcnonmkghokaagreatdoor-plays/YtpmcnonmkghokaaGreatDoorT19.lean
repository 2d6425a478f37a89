import Derived.Test.YtpmcnonmkghokaaGreatDoorT18
import Derived.Test.YtpmcnonmkghokaaGreatDoorT04
import Derived.Lib.SliceRun
import Derived.Test.YtpmcnonmkghokaaGreatDoorT13
import Derived.Test.YtpmcnonmkghokaaGreatDoorT10
set_option maxRecDepth 100000
set_option maxHeartbeats 8000000
set_option linter.unusedVariables false
set_option linter.unusedSimpArgs false
namespace Go.Proofs.YtpmcnonmkghokaaGreatDoor
open Go.Proofs.Tryz
open Go.RowKit
attribute [local go_sem ↓] Go.wp_at_zero Go.wp_at_succ
variable {S ls:List (List Int)}{gs:List (Nat×Nat)}{l:List Int}{cs:List Value}{B c k n:Nat}{t:PTree}{x:Value}{w w':World}
theorem infoInt:(prog.info? 3).map (λi=>(i.zero,i.size,i.bytes))=some (some (.int .i64 0),1,8):=ah
theorem infoInts:(prog.info? 31).map (λi=>(i.zero,i.size,i.bytes))=some (some (.slice none 0 0),1,24):=ah
theorem jkt (l:List Int):∀y∈l.map (Value.int .i64),y.oneCell'=true:=by
 intro y a;obtain⟨x,_,rfl⟩:=Qj.mp a;rfl
theorem zwc (w:World)(lo:Nat)(st:List Int)(sa:Option Addr)(sn sc:Nat)(k:w.ownsRow lo 3 1 (.slice sa sn sc) st.length (st.map (Value.int .i64)))(z:st.length<=1000000):
  qJ 185 #[.slice sa sn sc] w λe w'=>∃ca cn cc,e=.returned (.slice ca cn cc)/\w'.ownsRow w.heap.size 3 1 (.slice ca cn cc) st.length (st.map (Value.int .i64))/\pU w w':=by
 rcases k.2 with⟨a,j⟩|⟨g,cap,v,a,j,x,y⟩
 ·injection a with a c b;subst a;subst c;subst b;have hn:st=[]:=Jk j;subst hn;have h:=λw=>Go.Lib.run_eql_slice_nil (P:=prog) w 31 3 none 0 0 0 0 underlying31
  go_enter func185,ntmps185
  go_wp2
  go_ret
  exact⟨none,0,0,rfl,wB _ _ _ _,Below.refl _ _⟩
 ·injection a with a c b;subst a;subst c;subst b;have i:=show(w.alloc (.cells #[] 3)).ownsRow w.heap.size 3 1 (.slice (some ⟨w.heap.size,0,none⟩) 0 0) 0 [] from⟨rfl,Or.inr ⟨w.heap.size,0,_,rfl,wJ _,qg _ _,wJ _,gW,rfl,rfl⟩⟩
  obtain⟨t,hi,l,m,p⟩:=info_parts infoInt;have h:=λw=>Go.Lib.run_eql_slice_nil (P:=prog) w 31 3 (some ⟨g,0,none⟩) st.length sc 0 0 underlying31
  go_enter func185,ntmps185
  go_wp2_with (at_builtin;refine kqd rfl _ _ 31 rfl w.heap.size 3 t _ 1 8 underlying31 hi l m p rfl ak (.slice (some ⟨w.heap.size,0,none⟩) 0 0) 0 [] rfl i (.slice (some ⟨g,0,none⟩) st.length sc) st.length _ _ rfl (qj k (below_alloc1 w (.cells #[] 3))) (jkt st) gW aj au ?_)
  intro A w3 f d s;obtain⟨q,u,c3,rfl⟩:=zq f;go_wp2
  go_ret
  exact⟨q,u,c3,rfl,f,((below_alloc1 w _).grown d au (xg i))⟩
def kq6 (n:Nat)(all:List (List Int)):List (List Int):=all.flatMap λc=>(List.range n).map λ(j:Nat)=>c++[(j:Int)]
def chO (ss:List PSet):List PP->List (List Int)->Option (List (List Int))
 |[],all=>some all
 |p::l,all=>(qx3 ss p.set_.text.toList).bind λn=>if (kq6 n all).length<=100000 then chO ss l (kq6 n all) else none
theorem jv6 (n:Nat)(all:List (List Int))(j:Nat)(a:j<all.length):kq6 n (all.take (j+1))=kq6 n (all.take j)++(List.range n).map λ(q:Nat)=>all[j]++[(q:Int)]:=by
 rw[Qx a,kq6,Qn];simp[kq6]
theorem vx0 (n:Nat)(all:List (List Int))(j:Nat):(kq6 n (all.take j)).length<=(kq6 n all).length:=by
 have:=Zc j all;have a:kq6 n all=kq6 n (all.take j)++kq6 n (all.drop j):=by rw[kq6,kq6,kq6,<-Qn,this]
 rw[a,wY];omega
theorem jy9 {all:List (List Int)}  (h:∀x∈all,x.length<=k):∀x∈kq6 n all,x.length<=k+1:=by
 intro x d;obtain⟨c,b,a⟩:=su.mp d;obtain⟨j,_,rfl⟩:=Qj.mp a;have:=h c b;simp;omega
def qy5 (w:World)(ls:List (List Int))(cs:List Value):Prop:=cs.length=ls.length/\∀k (hk:k<ls.length),∃a n c,cs[k]?=some (.slice a n c)/\w.ownsRow 0 3 1 (.slice a n c) ls[k].length (ls[k].map (Value.int .i64))
theorem qy5.tk {x:Option Nat}{bad:List Nat}(h:qy5 w ls cs)(d:Tk x bad w w')(i:dw w x)(b:3∉bad):qy5 w' ls cs:=
 ⟨h.1,λk f=>by obtain⟨a,n,c,e,g⟩:=h.2 k f;exact⟨a,n,c,e,jw g d i b⟩⟩
theorem qy5.snoc {a:Option Addr}  (h:qy5 w ls cs)(i:w.ownsRow 0 3 1 (.slice a n c) l.length (l.map (Value.int .i64))):qy5 w (ls++[l]) (cs++[.slice a n c]):=by
 refine⟨by simp[h.1],λk g=>?_⟩;by_cases b:k<ls.length
 ·obtain⟨a',j,f,e,d⟩:=h.2 k b;refine⟨a',j,f,?_,?_⟩
  ·rw[JZ (by rw[h.1];exact b)];exact e
  ·rw[QX b];exact d
 ·have:k=ls.length:=by simp at g;omega
  subst this;exact⟨a,n,c,by rw[<-h.1];simp,by simpa using i⟩
def OwnRows (B:Nat)(w:World)(x:Value)(ls:List (List Int)):Prop:=∃la ll lc cs,x=.slice la ll lc/\w.ownsRow B 31 1 (.slice la ll lc) ls.length cs/\qy5 w ls cs
theorem jv5 (w:World)(lo mo:Nat)(I J K L M:Option Addr)(n0 n1 P Q R c0 c1 c2 c3 c4:Nat)(m:MdL)(hm:kvm mo w (.slice I n0 c0) (.slice J n1 c1) (.slice K P c2) (.slice L Q c3) (.slice M R c4) m)(hf:MdFit m)(l:List PP)(pa:Option Addr)(pn pc:Nat)(hP:w.ownsRow lo 352 4 (.slice pa pn pc) l.length (xu l))(hl:l.length<=1000)(r:List (List Int))(hr:chO m.sets l [[]]=some r):
  qJ 171 #[mdV I J K L M n0 n1 P Q R c0 c1 c2 c3 c4,.slice pa pn pc] w λe w'=>∃v,e=.returned v/\OwnRows w.heap.size w' v r/\pU w w':=by
 obtain⟨j0,hj,cL,cM,cN⟩:=info_parts infoInts;obtain⟨W,hW⟩:∃W,W=(w.alloc (.cells #[.slice I n0 c0,.slice J n1 c1,.slice K P c2,.slice L Q c3,.slice M R c4] 68)).alloc (.cells #[.slice none 0 0] 31):=⟨_,rfl⟩;have aN:pU w W:=iM;have cK:w.heap.size+1<W.heap.size:=jC;have hD:W.heap[w.heap.size]?=some (.cells #[.slice I n0 c0,.slice J n1 c1,.slice K P c2,.slice L Q c3,.slice M R c4] 68 (0,0)):=by rw[hW];exact zy (qg _ _)
 have hA:W.heap[w.heap.size+1]?=some (.cells #[.slice none 0 0] 31 (0,0)):=by
  rw[hW];have:=qg (w.alloc (.cells #[.slice I n0 c0,.slice J n1 c1,.slice K P c2,.slice L Q c3,.slice M R c4] 68)) (.cells #[.slice none 0 0] 31);simp only[tJ]at this;exact this
 have aB:OwnRows w.heap.size W (.slice (some ⟨w.heap.size+1,0,none⟩) 1 1) [[]]:=
  ⟨_,_,_,[.slice none 0 0],rfl,⟨rfl,Or.inr ⟨w.heap.size+1,1,_,rfl,aj,hA,wJ _,gW,rfl,rfl⟩⟩,rfl,λk hk=>by
   have:k=0:=by simp at hk;exact hk
   subst this;exact⟨none,0,0,rfl,wB _ _ _ _⟩⟩
 obtain⟨ya,yc,e1,HW⟩:=ql (qj hP aN);injection e1 with e1 e2 e3;subst e1;subst e2;subst e3;have aI:=pG aN;have bH:=λ(wx:World) (hb:pU w wx) (t:Tok) (n:Nat) (h:qx3 m.sets t.text.toList=some n)=>(show ∃d:Int,d=n/\qJ 97 #[.agg #[.slice I n0 c0,.slice J n1 c1,.slice K P c2,.slice L Q c3,.slice M R c4],.agg #[.string t.text,.int .i64 t.at_]] wx λe w'=>e=.returned (.int .i64 d)/\pU wx w' from by
  obtain⟨k,x,h1,h2,h3,_⟩:=kwb h;exact⟨_,h3,qk2 wx mo m.sets t I J K L M n0 n1 P Q R c0 c1 c2 c3 c4 (qj hm.o0 hb) hf.sets k h1 x h2⟩)
 unfold mdV;go_enter func171,ntmps171
 go_wp2_with fail
 rw[(pG hW.symm)];go_loopw [5,7,8,10,11,15] (λx _ _ _ _ i wr=>∃(k:Nat) (all:List (List Int)),k<=l.length/\i=.int .i64 k/\OwnRows w.heap.size wr x all/\chO m.sets (l.drop k) all=some r/\all.length<=100000/\(∀y∈all,y.length<=k)/\pU W wr) (λ_ _ _ _ _ i _=>l.length-(intOf i).toNat)
 case atStart=>exact⟨0,[[]],rW _,rfl,(pG aB),(pG hr),au,au,Below.refl _ _⟩
 case round=>
  obtain⟨A,bX⟩:∃A,A=wr:=⟨_,rfl⟩;subst bX;obtain⟨k,all,hk,rfl,u,a,cE,a9,hb⟩:=hrel;obtain⟨xa,xn,xc,cs,rfl,f,b⟩:=u;obtain⟨za,zc,ez,aC⟩:=ql f;injection ez with bN bO bP;subst bN;subst bO;subst bP;have bU:=hb.size;by_cases aA:k<l.length
  ·obtain⟨g,rfl,cF,bT,hc⟩:=HW k aA;have fl:=λj (hj:j<4)=>xq kzj 4 (λ_=>rfl) l k j aA hj
   have cc:∀j,j<l.length*4->A.cell? ⟨g,j,none⟩=(xu l)[j]?:=λj hj=>(hb.cell (p:=⟨g,j,none⟩) bT).trans (hc j hj)
   have e0:=(cc (k*4+0) aj).trans (fl 0 aj);have e1:=(cc (k*4+1) aj).trans (fl 1 aj);have e2:=(cc (k*4+2) aj).trans (fl 2 aj);have e3:=(cc (k*4+3) aj).trans (fl 3 aj);simp only[kzj,sZ,tu,sU]at e0 e1 e2 e3;rw[rM aA,chO]at a;obtain⟨n,HN,a⟩:=wQ.mp a;have aO:(kq6 n all).length<=100000:=by
    apply tK;intro hc;rw[if_neg hc]at a;cases a
   rw[if_pos aO]at a;obtain⟨s,B⟩:∃s,s=A.alloc (.cells #[.string l[k].name.text,.int .i64 l[k].name.at_,.string l[k].set_.text,.int .i64 l[k].set_.at_] 352):=⟨_,rfl⟩;have aL:pU W s:=by rw[B];exact hb.alloc bU _
   have aP:s.heap[A.heap.size]?=some (.cells #[.string l[k].name.text,.int .i64 l[k].name.at_,.string l[k].set_.text,.int .i64 l[k].set_.at_] 352 (0,0)):=by rw[B];exact qg _ _
   have O:pU A s:=by rw[B];exact below_alloc1 _ _
   have cJ:A.heap.size<s.heap.size:=by rw[B];simp
   have b2:=aC;have bK:=pG aC;have bC:=b.tk (kqg O none []) (dw.none _) au;have aH:=pG aL;have aU:=pG O;have bB:=pG aP;have bI:=pG B.symm;have X:=pG a9;have bD:=show OwnRows s.heap.size s (.slice none 0 0) (kq6 n (all.take 0)) from⟨none,0,0,[],rfl,by simp[kq6];exact wB _ _ _ _,by simp[kq6],λk hk=>by simp[kq6]at hk⟩
   generalize l[k]=p at *;clear cc fl hc hb f b aC b2 a aL aP O B a9;go_wp2_with fail
   rw[bI];go_loopw [8,10,11,21] (λy _ _ i z=>∃j:Nat,j<=all.length/\i=.int .i64 j/\OwnRows s.heap.size z y (kq6 n (all.take j))/\pU s z) (λ_ _ _ i _=>all.length-(intOf i).toNat)
   case atStart=>exact⟨0,rW _,rfl,bD,Below.refl _ _⟩
   case round=>
    obtain⟨z,bW⟩:∃z,z=wr:=⟨_,rfl⟩;subst bW;obtain⟨j,cG,rfl,u,E⟩:=hrel;obtain⟨ya,yn,yc,ds,rfl,f,b⟩:=u;have aZ:=E.size;have N:pU W z:=aH.trans (E.mono aH.size);by_cases D:j<all.length
    ·obtain⟨g5,rfl,cB,aW,bR⟩:=bK j D;obtain⟨ca,cn,aK,bM,bS⟩:=bC.2 j D;have e5:z.cell? ⟨g5,j*1,none⟩=some (.slice ca cn aK):=by
      rw[E.cell (p:=⟨g5,j*1,none⟩) (by show g5<s.heap.size;omega),aU.cell (p:=⟨g5,j*1,none⟩) aW,bR (j*1) aj,ZB];exact bM
     simp only[ZB]at e5;have cA:all[j].length<=1000:=by have:=X _ (wX D);omega
     obtain⟨q0,q1,q2,q3,q4,_⟩:=jl ((N.block w.heap.size aj).trans (pG hD));obtain⟨p0,p1,p2,p3,_⟩:=kk5 ((E.block A.heap.size aj).trans bB);have bQ:pU w z:=aI.trans (N.mono aj);obtain⟨d,hd,aD⟩:=bH z bQ p.set_ n HN;have b7:=pG bS;have aV:=pG f;have aE:=pG b;have b5:=pG E;have C:=jv6 n all j D;have cC:=vx0 n all (j+1);generalize all[j]=c at *;go_wp2_with fail
     refine aD.mono ?_;rintro e w3 ⟨rfl,a7⟩;subst hd;have aT:=b5.trans (a7.mono aZ);have bF:=show OwnRows s.heap.size w3 (.slice ya yn yc) (kq6 n (all.take j)++(List.range 0).map λ(q:Nat)=>c++[(q:Int)]) from⟨ya,yn,yc,ds,rfl,by simpa using qj aV a7,by simpa using aE.tk (kqg a7 none []) (dw.none _) au⟩
     go_wp2_with fail
     go_loopw [8,11,29] (λy _ i G=>∃q:Nat,q<=n/\i=.int .i64 q/\OwnRows s.heap.size G y (kq6 n (all.take j)++(List.range q).map λ(q:Nat)=>c++[(q:Int)])/\pU s G) (λ_ _ i _=>n-(intOf i).toNat)
     case atStart=>exact⟨0,rW _,rfl,bF,aT⟩
     case round=>
      obtain⟨G,bV⟩:∃G,G=wr:=⟨_,rfl⟩;subst bV;obtain⟨q,hq,rfl,u,T⟩:=hrel;obtain⟨aQ,aS,aR,bL,rfl,f,b⟩:=u;have aY:=T.size;by_cases cH:q<n
      ·have b8:=qj b7 T;have aF:=pG f;have Y:=pG b;have aG:(kq6 n (all.take j)++(List.range q).map λ(q:Nat)=>c++[(q:Int)]).length<=100000:=by
        have h1:(kq6 n (all.take j)++(List.range q).map λ(q:Nat)=>c++[(q:Int)]).length<=(kq6 n (all.take (j+1))).length:=by
         rw[C];simp;omega
        omega
       have cI:(q:Int)<=1000000:=by
        have:q<=100000:=by simp at aG;omega
        omega
       have bG:=show(kq6 n (all.take j)++(List.range (q+1)).map λ(q:Nat)=>c++[(q:Int)])=(kq6 n (all.take j)++(List.range q).map λ(q:Nat)=>c++[(q:Int)])++[c++[(q:Int)]] by rw[J5,Qv,<-sD];rfl
       generalize (kq6 n (all.take j)++(List.range q).map λ(q:Nat)=>c++[(q:Int)])=Lg at *;go_wp2_with fail
       refine(zwc _ 0 c ca cn aK b8 aj).mono ?_;rintro e w4 ⟨xa,xn,xc,rfl,aJ,aM⟩;have aX:=aM.size;have b3:=pG aM;go_wp2_with (at_builtin;refine apO (aJ.alloc _) ?_)
       intro v5 w5 U a8 _ bY;obtain⟨a5,l5,c5,rfl⟩:=zq U;have S:pU G w5:=(b3.alloc aX _).grown a8 ay (xg aJ);have cD:=S.size;have bA:=show w5.ownsRow 0 3 1 (.slice a5 l5 c5) (c++[(q:Int)]).length ((c++[(q:Int)]).map (Value.int .i64)) by rw[wY,Qv];exact zu (rW _) U
       have H:=qj aF S;go_wp2_with (at_builtin;refine apO (H.alloc _) ?_)
       intro v6 w6 V F _ bZ;obtain⟨a6,l6,c6,rfl⟩:=zq V;have k6:Tk none [31] w5 w6:=(kqg (below_alloc1 w5 _) _ _).trans (kjk (H.alloc _) F au);have bJ:=show OwnRows s.heap.size w6 (.slice a6 l6 c6) (Lg++[c++[(q:Int)]]) from⟨a6,l6,c6,_,rfl,by rw[wY];exact V,((Y.tk (kqg S none [31]) (dw.none _) ak).snoc bA).tk k6 (dw.none _) ak⟩
       have b4:=((T.trans (S.mono aY)).alloc aj _).grown F ay (xg H);go_wp2
       go_roundw
       case rel=>exact⟨q+1,aj,eu,by rw[bG];exact bJ,b4⟩
       case measure=>exact qQ
      ·have:q=n:=by omega
       subst this;have Z:=show OwnRows s.heap.size G (.slice aQ aS aR) (kq6 q (all.take (j+1))) from⟨aQ,aS,aR,bL,rfl,by rw[C];exact f,by rw[C];exact b⟩
       go_wp2
       go_roundw
       case rel=>exact⟨j+1,aj,eu,Z,T⟩
       case measure=>exact qQ
    ·have:j=all.length:=by omega
     subst this;rw[QM]at f b;have Z:=show OwnRows w.heap.size z (.slice ya yn yc) (kq6 n all) from⟨ya,yn,yc,ds,rfl,zu aj f,b⟩
     have b6:=pG N;have b9:=jy9 (n:=n) X;go_wp2
     go_roundw
     case rel=>exact⟨k+1,kq6 n all,aj,eu,Z,(pG a),aO,b9,b6⟩
     case measure=>exact qQ
  ·have:k=l.length:=by omega
   subst this;rw[Qd,chO]at a;injection a with a;subst a;have Z:=show OwnRows w.heap.size A (.slice xa all.length xc) all from⟨xa,all.length,xc,cs,rfl,f,b⟩
   have HB:=aI.trans (hb.mono aj);go_wp2
   go_ret
   exact⟨_,rfl,Z,HB⟩
end Go.Proofs.YtpmcnonmkghokaaGreatDoor
namespace Go.Proofs.YtpmcnonmkghokaaGreatDoor
open Go.Proofs.Tryz
open Go.RowKit
variable {S ls:List (List Int)}{gs:List (Nat×Nat)}{l:List Int}{cs:List Value}{B c k n:Nat}{t:PTree}{x:Value}{w w':World}
def qz0 (x:Tok)(a:Int)(_:Nat)(y:Tok):Int:=if y.text.toList==x.text.toList then jd a x.at_ else a
def zk5 (x:Tok)(a:Int)(_:Nat)(q:PP):Int:=if q.name.text.toList==x.text.toList then jd a x.at_ else a
def zvw (g:List Tok)(a:Int)(i:Nat)(x:Tok):Int:=uh (qz0 x) (g.take i) 0 a
def jqu (g:List Tok)(ps:List PP)(a:Int)(k:Nat)(p:PP):Int:=uh (zk5 p.name) (ps.take k) 0 (uh (qz0 p.name) g 0 a)
def jqy (g:List Tok)(a:Int)(_:Nat)(r:PRule):Int:=uh (jqu g r.params) r.params 0 a
def kwi (t:PTree):Int:=uh (jqy (jc t)) (t.rules++t.nevers) 0 (uh (zvw (jc t)) (jc t) 0 (-1))
theorem zx3 (l:List Tok)(k:Nat)(h:k<l.length):(uq l)[k*3+1]?=some (.string (l[k]).text)/\(uq l)[k*3+2]?=some (.int .i64 (l[k]).at_):=
 ⟨xq jr 3 (λ_=>rfl) l k 1 h aj,xq jr 3 (λ_=>rfl) l k 2 h aj⟩
theorem vkm (l:List PP)(k:Nat)(h:k<l.length):(kjh l)[k*6+1]?=some (.string (l[k]).name.text)/\(kjh l)[k*6+2]?=some (.int .i64 (l[k]).name.at_):=
 ⟨xq kkw 6 (λ_=>rfl) l k 1 h aj,xq kkw 6 (λ_=>rfl) l k 2 h aj⟩
theorem vxr (l:List Tok):(uq l).length=l.length*3:=by
 induction l with
 |nil=>rfl
 |cons x xs ih=>simp only[uq,Qb,wY,Qz]at ih |-;rw[ih];simp[jr];omega
theorem vzr (w:World)(T:Nat)(t:PTree)(h:kqr w T t)(ht:TreeOk t)(hr:t.rules.length<=801)(hn:t.nevers.length<=801)(hp:∀r∈t.rules++t.nevers,r.params.length<=801)(a8:(jc t).length<=90000):
  qJ 64 #[.pointer (some ⟨T,0,none⟩)] w λe w'=>e=.returned (.int .i64 (kwi t))/\pU w w':=by
 have HT:=pG h;have HP:=pG hp;obtain⟨aX,aR,aY,aT⟩:=ht;clear hp aT;go_enter func64,ntmps64
 go_wp2_with fail
 refine(jkn _ T t h aX aR aY hr hn a8).mono ?_;rintro e U ⟨gv,rfl,aH,a3⟩;have aC:=pG a3;have aK:=a3.size;obtain⟨ga,gc,rfl,aA⟩:=kq5 aH;have V:=pG (show kwi t=uh (jqy (jc t)) (t.rules++t.nevers) 0 (uh (zvw (jc t)) (jc t) 0 (-1)) from rfl);generalize jc t=G at aA V a8;have a2:=pG aA;have L:=pG (kju.start (f:=zvw G) (items:=G) (z:=-1) (Below.refl U.heap.size U));clear h aH a3 aA;go_wp2_with fail
 go_loopw [3,5,6] (λat_ i _ wr=>kju U (zvw G) G (-1) at_ i wr) (λ_ i _ _=>G.length-(intOf i).toNat)
 case atStart=>exact ku L
 case round=>
  obtain⟨k,z0,aS,rfl,rfl,C,m⟩:=hrel;have aD:=pG m;have aZ:=m.size;by_cases v:k<G.length
  ·obtain⟨g,rfl,P⟩:=ku a2 k v;obtain⟨A,q⟩:=zx3 G k v;replace A:=(P (k*3+1) aj).trans A
   replace q:=(P (k*3+2) aj).trans q
   have K:=pG (λ(w':World) (b:Int) (hb:b=uh (qz0 (G[k])) (G.take k) 0 z0) E=>kju.next (W:=U) (wr:=w') (f:=zvw G) (items:=G) (z:=-1) (a:=z0) (b:=b) v C hb E);have aV:(G.take k).length=k:=jU;generalize G[k]=x at A q K;have J:=pG (kju.start (W:=U) (f:=qz0 x) (items:=G.take k) (z:=z0) m);clear C m;go_wp2_with fail
   go_loopw [3,6] (λat_ i wr=>kju U (qz0 x) (G.take k) z0 at_ i wr) (λ_ i _=>(G.take k).length-(intOf i).toNat)
   case atStart=>exact ku J
   case round=>
    obtain⟨j,b,aI,rfl,rfl,p,d⟩:=hrel;have s:=pG d;have aL:=d.size;have z1:=wZ d A;have z2:=wZ d q;by_cases Z:j<k
    ·have D:j<(G.take k).length:=by omega
     have a7:j<G.length:=aj;obtain⟨d1,_⟩:=zx3 G j a7;replace d1:=wZ d ((P (j*3+1) aj).trans d1)
     have a6:(G.take k)[j]=G[j]:=JG;have c:=pG (λ(w':World) (N:Int) (hb:N=if (G[j]).text.toList==x.text.toList then jd b x.at_ else b) E=>kju.next (W:=U) (wr:=w') (f:=qz0 x) (items:=(G.take k)) (z:=z0) (a:=b) (b:=N) D p (by rw[hb,a6];rfl) E);generalize (G[j]).text=y at d1 c;clear p d;cases O:(y.toList==x.text.toList)
     ·rw[O]at c;have u:=pG (ku c _ b nJ (ku s).drew);clear c;go_wp2_with fail
      go_region
      go_wp2
      go_roundw
      case rel=>exact ku u
      case measure=>exact qQ
     ·rw[O]at c;have aM:=wZ (ku s).drew q;go_wp2_with fail
      go_region
      go_wp2_with fail
      refine(first_any _ _ _).mono ?_;rintro e u1 ⟨rfl,rfl⟩;generalize hF:jd b (x.at_:Int)=F at c;have u:=pG (ku c _ F (by rw[if_pos (by trivial)]) (ku s).drew);clear c hF;go_wp2
      go_roundw
      case rel=>exact ku u
      case measure=>exact qQ
    ·have l:=kqy (by omega:¬j<(G.take k).length) p;have M:=pG (ku K _ b l d);clear l p d;go_wp2
     go_roundw
     case rel=>exact ku M
     case measure=>exact qQ
  ·have l:=kqy v C;clear L;go_wp2_with fail
   refine(qz2 _ T t ((ku HT).below ((ku aC).trans (m.mono aK))) hr hn).mono ?_;rintro e w4 ⟨rv,rs,rfl,I,S,B⟩;have a1:=pG S;have aE:=pG (((ku aC).trans (m.mono aK)).trans (B.mono aj));have aN:=pG (show ∀i,i<G.length->∃g,ga=some ⟨g,0,none⟩/\∀j,j<G.length*3->w4.cell? ⟨g,j,none⟩=(uq G)[j]? from λi hi=>by
    obtain⟨g,e1,P⟩:=ku a2 i hi;refine⟨g,e1,λj hj=>?_⟩;have hl:j<(uq G).length:=by rw[vxr];omega
    rw[tY hl];exact wZ B (wZ m ((P j hj).trans (tY hl))))
   obtain⟨ra,rc,rfl,aB⟩:=kq5 I;have aF:=pG aB;have aW:(t.rules++t.nevers).length<=1602:=kQ;rw[<-l]at V;have L:=pG (kju.start (W:=w4) (wr:=w4) (f:=jqy G) (items:=t.rules++t.nevers) (z:=z0) (Below.refl _ _));generalize t.rules++t.nevers=Q at L a1 aF aW HP V aB I S;clear I S B aB l C a2 m;go_wp2_with fail
   go_loopw [3,8,9,10,11,12] (λat_ i _ _ _ _ wr=>kju w4 (jqy G) Q z0 at_ i wr) (λ_ i _ _ _ _ _=>Q.length-(intOf i).toNat)
   case atStart=>exact ku L
   case round=>
    obtain⟨k,a,aS,rfl,rfl,C,m⟩:=hrel;have aD:=pG m;have aZ:=m.size;by_cases v:k<Q.length
    ·obtain⟨g,rfl,P⟩:=ku aF k v;obtain⟨vp,_,_,_,⟨_,_,_,f3,_,_⟩,a9,_⟩:=kvl k v (ku a1);have e3:=(P (k*6+3) aj).trans f3;have aU:=ku HP _ (wX v);have K:=pG (λ(w':World) (b:Int) (hb:b=uh (jqu G (Q[k]).params) (Q[k]).params 0 a) E=>kju.next (W:=w4) (wr:=w') (f:=jqy G) (items:=Q) (z:=z0) (a:=a) (b:=b) v C hb E);generalize (Q[k]).params=ps at K a9 aU;obtain⟨ma,mc,rfl,aJ⟩:=kq5 a9;have aP:=pG aJ;have aQ:=pG (kju.start (W:=w4) (f:=jqu G ps) (items:=ps) (z:=a) m);have c3:=wZ m e3;clear P f3 a9 aJ C m;go_wp2_with fail
     go_loopw [3,10,11,12] (λat_ i _ _ wr=>kju w4 (jqu G ps) ps a at_ i wr) (λ_ i _ _ _=>ps.length-(intOf i).toNat)
     case atStart=>exact ku aQ
     case round=>
      obtain⟨k4,R,b3,rfl,rfl,X,B⟩:=hrel;have b2:=pG B;by_cases Y:k4<ps.length
      ·obtain⟨gp,rfl,a5⟩:=ku aP k4 Y;obtain⟨A,q⟩:=vkm ps k4 Y;replace A:=(a5 (k4*6+1) aj).trans A
       replace q:=(a5 (k4*6+2) aj).trans q
       have a0:=pG (λ(w':World) (b:Int) (hb:b=uh (zk5 (ps[k4]).name) (ps.take k4) 0 (uh (qz0 (ps[k4]).name) G 0 R)) E=>kju.next (W:=w4) (wr:=w') (f:=jqu G ps) (items:=ps) (z:=a) (a:=R) (b:=b) Y X hb E);have aV:(ps.take k4).length=k4:=jU;generalize (ps[k4]).name=x at A q a0;have J:=pG (kju.start (W:=w4) (f:=qz0 x) (items:=G) (z:=R) B);clear X B;go_wp2_with fail
       go_loopw [3,11] (λat_ i wr=>kju w4 (qz0 x) G R at_ i wr) (λ_ i _=>G.length-(intOf i).toNat)
       case atStart=>exact ku J
       case round=>
        obtain⟨j,H,aI,rfl,rfl,p,d⟩:=hrel;have s:=pG d;have aL:=d.size;have z1:=wZ d A;have z2:=wZ d q;by_cases Z:j<G.length
        ·have D:j<G.length:=by omega
         obtain⟨d1,_⟩:=zx3 G j Z;obtain⟨g5,rfl,aG⟩:=ku aN j Z;replace d1:=wZ d ((aG (j*3+1) aj).trans d1)
         clear aG;have c:=pG (λ(w':World) (N:Int) (hb:N=if (G[j]).text.toList==x.text.toList then jd H x.at_ else H) E=>kju.next (W:=w4) (wr:=w') (f:=qz0 x) (items:=G) (z:=R) (a:=H) (b:=N) D p (by rw[hb];rfl) E);generalize (G[j]).text=y at d1 c;clear p d;cases O:(y.toList==x.text.toList)
         ·rw[O]at c;have u:=pG (ku c _ H nJ (ku s).drew);clear c;go_wp2_with fail
          go_region
          go_wp2
          go_roundw
          case rel=>exact ku u
          case measure=>exact qQ
         ·rw[O]at c;have aM:=wZ (ku s).drew q;go_wp2_with fail
          go_region
          go_wp2_with fail
          refine(first_any _ _ _).mono ?_;rintro e u1 ⟨rfl,rfl⟩;generalize hF:jd H (x.at_:Int)=F at c;have u:=pG (ku c _ F (by rw[if_pos (by trivial)]) (ku s).drew);clear c hF;go_wp2
          go_roundw
          case rel=>exact ku u
          case measure=>exact qQ
        ·have l:=kqy (by omega:¬j<G.length) p;have aO:=pG (show H=uh (qz0 x) G 0 R from l);have J:=pG (kju.start (W:=w4) (f:=zk5 x) (items:=ps.take k4) (z:=H) d);clear l p;go_wp2_with fail
         go_loopw [3,12] (λat_ i wr=>kju w4 (zk5 x) (ps.take k4) H at_ i wr) (λ_ i _=>(ps.take k4).length-(intOf i).toNat)
         case atStart=>exact ku J
         case round=>
          obtain⟨j,b,aI,rfl,rfl,p,d⟩:=hrel;have s:=pG d;have aL:=d.size;have z1:=wZ d A;have z2:=wZ d q;by_cases Z:j<k4
          ·have D:j<(ps.take k4).length:=by omega
           have a7:j<ps.length:=aj;obtain⟨d1,_⟩:=vkm ps j a7;replace d1:=wZ d ((a5 (j*6+1) aj).trans d1)
           have a6:(ps.take k4)[j]=ps[j]:=JG;have c:=pG (λ(w':World) (N:Int) (hb:N=if (ps[j]).name.text.toList==x.text.toList then jd b x.at_ else b) E=>kju.next (W:=w4) (wr:=w') (f:=zk5 x) (items:=(ps.take k4)) (z:=H) (a:=b) (b:=N) D p (by rw[hb,a6];rfl) E);generalize (ps[j]).name.text=y at d1 c;clear p d;cases O:(y.toList==x.text.toList)
           ·rw[O]at c;have u:=pG (ku c _ b nJ (ku s).drew);clear c;go_wp2_with fail
            go_region
            go_wp2
            go_roundw
            case rel=>exact ku u
            case measure=>exact qQ
           ·rw[O]at c;have aM:=wZ (ku s).drew q;go_wp2_with fail
            go_region
            go_wp2_with fail
            refine(first_any _ _ _).mono ?_;rintro e u1 ⟨rfl,rfl⟩;generalize hF:jd b (x.at_:Int)=F at c;have u:=pG (ku c _ F (by rw[if_pos (by trivial)]) (ku s).drew);clear c hF;go_wp2
            go_roundw
            case rel=>exact ku u
            case measure=>exact qQ
          ·have l:=kqy (by omega:¬j<(ps.take k4).length) p;have M:=pG (ku a0 _ b (by rw[<-ku aO];exact l) d);clear l p d;go_wp2
           go_roundw
           case rel=>exact ku M
           case measure=>exact qQ
      ·have l:=kqy Y X;have M:=pG (ku K _ R l B);clear l X B;go_wp2
       go_roundw
       case rel=>exact ku M
       case measure=>exact qQ
    ·have l:=kqy v C;have HE:=pG (show a=kwi t by rw[ku V];exact l);clear l C;go_wp2
     go_ret
     exact⟨kqv (ku HE),(ku aE).trans ((ku aD).mono (ku aE).size)⟩
end Go.Proofs.YtpmcnonmkghokaaGreatDoor
namespace Go.Proofs.YtpmcnonmkghokaaGreatDoor
open Go.Proofs.Tryz
open Go.RowKit
attribute [local go_sem ↓] Go.wp_at_zero Go.wp_at_succ
variable {S ls:List (List Int)}{gs:List (Nat×Nat)}{l:List Int}{cs:List Value}{B c k n:Nat}{t:PTree}{x:Value}{w w':World}
theorem zy5 (w:World)(T:Nat)(t:PTree)(s:ByteArray)(h:kqr w T t)(q:t.sets.length<=801)(k:Nat)(c:k<t.sets.length)(p:qh (dh t) s.toList=k)(m:qyj (t.sets[k]).size):
  qJ 122 #[.pointer (some ⟨T,0,none⟩),.string s] w λe w'=>e=.returned (.int .i64 (kq8 (t.sets[k]).size.text))/\w'=w:=by
 have f:=pG h;obtain⟨x0,x1,x2,x3,x4,y1,y3,y4,j,u,_⟩:=h;obtain⟨y,z,A,B,C,_⟩:=kxh j;obtain⟨a,cap,rfl,b⟩:=kq5 u;obtain⟨g,rfl,l⟩:=b k c;have v:w.cell? ⟨g,k*6+4,none⟩=some (.string (t.sets[k]).size.text):=by
  rw[l _ aj];exact xq kz6 6 (λ_=>rfl) t.sets k 4 c aj
 obtain⟨d,h1,x⟩:=m;have i:=show kq8 (t.sets[k]).size.text=(((t.sets[k]).size.text[0]'d).toNat:Int)-48 by simp[kq8,d]
 generalize (t.sets[k]).size.text=X at *;go_enter func122,ntmps122
 go_wp2_with fail
 refine(set_any _ T t s f q).mono ?_;rintro e D ⟨rfl,rfl⟩;rw[p];go_wp2
 go_ret
 exact⟨kqv (by rw[i]),rfl⟩
theorem qyn {lo e size:Nat}{v:Value}  {xs:List Value}(h:w.ownsRow lo e size v n xs)(hn:0<n):∃g c,v=.slice (some ⟨g,0,none⟩) n c/\lo<=g/\g<w.heap.size:=by
 obtain⟨a,c,rfl,d⟩:=ql h;obtain⟨g,rfl,h1,b,_⟩:=d 0 hn;exact⟨g,c,rfl,h1,b⟩
def rwV (g:Nat×Nat)(l:List Int):Value:=.slice (some ⟨g.1,0,none⟩) l.length g.2
structure StA (B:Nat)(w:World)(x:Value)(S:List (List Int))(gs:List (Nat×Nat)):Prop where
 out:w.ownsRow B 31 1 x S.length (List.zipWith rwV gs S)
 len:gs.length=S.length
 apart:(gs.map (·.1)).Nodup
 rows:∀k (hk:k<S.length) (hg:k<gs.length),w.ownsRow B 3 1 (rwV gs[k] S[k]) S[k].length (S[k].map (Value.int .i64))
theorem StA.below (h:StA B w x S gs)(hb:pU w w'):StA B w' x S gs:=
 ⟨qj h.out hb,h.len,h.apart,λk b a=>qj (h.rows k b a) hb⟩
theorem StA.mono {C: Nat}     (h:StA B w x S gs)(hb:C<=B):StA C w x S gs:=
 ⟨zu hb h.out,h.len,h.apart,λk b a=>zu hb (h.rows k b a)⟩
theorem StA.lt (h:StA B w x S gs)(hn:∀l∈S,0<l.length):∀g∈gs.map (·.1),g<w.heap.size:=by
 intro g f;obtain⟨y,i,rfl⟩:=Qj.mp f;obtain⟨k,b,rfl⟩:=tC i;have a:k<S.length:=by rw[<-h.len];exact b
 obtain⟨g,c,e,_,d⟩:=qyn (h.rows k a b) (hn _ (wX a));injection e with e;injection e with e;rw[Addr.mk.injEq]at e;rw[e.1];exact d
theorem StA.nil (w:World)(B:Nat):StA B w (.slice none 0 0) [] []:=⟨wB _ _ _ _,rfl,Zi,λk a=>by simp at a⟩
theorem StA.snoc {i: Value}   {g: Nat}  (h:StA B w x S gs)(m:g∉gs.map (·.1))(q:w.ownsRow B 3 1 (.slice (some ⟨g,0,none⟩) l.length c) l.length (l.map (Value.int .i64)))
  (s:w'.ownsRow B 31 1 i (S.length+1) (List.zipWith rwV gs S++[.slice (some ⟨g,0,none⟩) l.length c])) (f:w.grownBy w' x.ownBlock):StA B w' i (S++[l]) (gs++[(g,c)]):=by
 refine⟨?_,by simp[h.len],?_,?_⟩
 ·rw[wY,List.zipWith_append h.len];exact s
 ·rw[Qv];refine JU.mpr ⟨h.apart,au,?_⟩;intro a j b hb e;simp at hb;subst e;subst hb;exact m j
 ·intro k p t;by_cases e:k<S.length
  ·have d:k<gs.length:=by rw[h.len];exact e
   rw[QX e,QX d];exact ji (h.rows k e d) h.out ak f
  ·have:k=S.length:=by simp at p;omega
   subst this;have d:(gs++[(g,c)])[S.length]=(g,c):=by simp[<-h.len]
   rw[d];simp only[List.getElem_concat_length];exact ji q h.out ak f
theorem zvd (w:World)(lo:Nat)(x:Value)(S:List (List Int))(gs:List (Nat×Nat))(h:StA lo w x S gs)(hn:∀l∈S,0<l.length/\l.length<=1000)(hl:S.length<=1000):
  qJ 123 #[x] w λe w'=>∃x' c,e=.returned x'/\StA w.heap.size w' x' S c/\pU w w':=by
 obtain⟨U,hi,L,M,N⟩:=info_parts infoInt;obtain⟨za,zc,rfl,H⟩:=ql h.out;have z:=pG h;go_enter func123,ntmps123
 go_wp2_with fail
 go_loopw [3,4,5] (λy i _ wr=>∃(k:Nat) (c:List (Nat×Nat)),k<=S.length/\i=.int .i64 k/\StA w.heap.size wr y (S.take k) c/\pU w wr) (λ_ i _ _=>S.length-(intOf i).toNat)
 case atStart=>exact⟨0,[],rW _,rfl,StA.nil _ _,Below.refl _ _⟩
 case round=>
  obtain⟨d,K⟩:∃d,d=wr:=⟨_,rfl⟩;subst K;obtain⟨k,c,hk,rfl,a,hb⟩:=hrel;have C:=hb.size;obtain⟨ya,yc,rfl,a0⟩:=ql a.out;have t:(S.take k).length=k:=jU;have E:=pG hb;rw[t]at a |-;by_cases b:k<S.length
  ·obtain⟨g,rfl,Y,I,Q⟩:=H k b;have B:k<gs.length:=by rw[z.len];exact b
   have O:d.cell? ⟨g,k,none⟩=some (rwV gs[k] S[k]):=by
    rw[hb.cell (p:=⟨g,k,none⟩) I,Q k aj,JM];simp[b,B]
   have m:=qj (z.rows k b B) hb;have Z:=hn _ (wX b);have G:=Qx b;unfold rwV at O m;have F:=wB d d.heap.size 3 1;generalize S[k]=l at *;generalize gs[k]=gg at *;go_wp2_with (at_builtin;refine kqd rfl _ _ 31 rfl d.heap.size 3 U _ 1 8 underlying31 hi L M N rfl ak (.slice none 0 0) 0 [] rfl F (.slice (some ⟨gg.1,0,none⟩) l.length gg.2) l.length _ _ rfl m (jkt l) gW aj (wJ _) ?_)
   intro v3 w3 j s P;have A:=(Below.refl d.heap.size d).grown s (wJ _) (xg F);obtain⟨u,c3,rfl,V,W⟩:=qyn j aj;have q:=a.below A;go_wp2_with (at_builtin;refine apO (by have:=q.out.alloc (.cells #[.slice (some ⟨u,0,none⟩) l.length c3] 31);rw[t]at this;exact this) ?_)
   intro v' w' D f _ X;have v:=StA.snoc (q.below (below_alloc1 w3 (.cells #[.slice (some ⟨u,0,none⟩) l.length c3] 31))) (show u∉c.map (·.1) from λR=>by have:=a.lt (λy T=>(hn y (Zt T)).1) u R;omega) (qj (zu C j) (below_alloc1 w3 _)) (by rw[t];exact D) f;rw[<-G]at v;go_wp2
   go_roundw
   case rel=>exact⟨k+1,_,aj,eu,v,(((E.trans (A.mono C)).alloc aj _).grown f ay (xg q.out))⟩
   case measure=>exact qQ
  ·have J:k=S.length:=by omega
   rw[show S.take k=S by rw[J,QM]]at a;go_wp2
   go_ret
   exact⟨_,_,rfl,a,E⟩
def vwq (w:World)(g k:Nat)(V:PVar):Prop:=
 w.cell? ⟨g,k*12,none⟩=some (.string V.name.kind)/\w.cell? ⟨g,k*12+1,none⟩=some (.string V.name.text)/\w.cell? ⟨g,k*12+2,none⟩=some (.int .i64 V.name.at_)/\w.cell? ⟨g,k*12+3,none⟩=some (.string V.over.kind)/\w.cell? ⟨g,k*12+4,none⟩=some (.string V.over.text)/\w.cell? ⟨g,k*12+5,none⟩=some (.int .i64 V.over.at_)/\w.cell? ⟨g,k*12+6,none⟩=some (.string V.type_.kind)/\w.cell? ⟨g,k*12+7,none⟩=some (.string V.type_.text)/\w.cell? ⟨g,k*12+8,none⟩=some (.int .i64 V.type_.at_)/\w.cell? ⟨g,k*12+9,none⟩=some (.string V.top.kind)/\w.cell? ⟨g,k*12+10,none⟩=some (.string V.top.text)/\w.cell? ⟨g,k*12+11,none⟩=some (.int .i64 V.top.at_)
theorem kqr.var {T:Nat}  (h:kqr w T t)  (c:k<t.vars.length):∃g cap,T<w.heap.size/\g<w.heap.size/\w.cell? ⟨T,2,none⟩=some (.slice (some ⟨g,0,none⟩) t.vars.length cap)/\vwq w g k t.vars[k]:=by
 obtain⟨x0,x1,x2,x3,x4,y1,y3,y4,f,_,_,p,_⟩:=h;obtain⟨s,u,q,v,x,_⟩:=kxh f;obtain⟨a,cap,rfl,b⟩:=ql p;obtain⟨g,rfl,_,l,i⟩:=b k c;have E:=λj (m:j<12)=>(i (k*12+j) aj).trans (xq kqu 12 (λ_=>rfl) t.vars k j c m)
 refine⟨g,cap,wu f,l,q,?_⟩;have k0:=E 0 aj;have k1:=E 1 aj;have k2:=E 2 aj;have k3:=E 3 aj;have k4:=E 4 aj;have k5:=E 5 aj;have k6:=E 6 aj;have k7:=E 7 aj;have k8:=E 8 aj;have k9:=E 9 aj;have d:=E 10 aj;have e:=E 11 aj;simp only[kqu,jr,QD,Qc,sZ,tu,sU]at k0 k1 k2 k3 k4 k5 k6 k7 k8 k9 d e;exact⟨k0,k1,k2,k3,k4,k5,k6,k7,k8,k9,d,e⟩
def zw1 (t:PTree)(s:List UInt8)(n:Nat):Prop:=∃k,∃h:k<t.sets.length,qh (dh t) s=k/\qyj (t.sets[k]).size/\kq8 (t.sets[k]).size.text=n/\1<=n/\n<=9
def qzk (v:PVar):Bool:=v.over.kind.toList==og
def qjk (t:PTree)(v:PVar)(n:Nat):Prop:=if qzk v then zw1 t v.over.text.toList n else n=1
def zjs (t:PTree)(v:PVar):Int:=if kzd (kqf t v) then -1 else 0
def kw4 (t:PTree):List PVar->List (List Int)->Prop
 |[],S=>S=[]
 |v::l,S=>∃n S',qjk t v n/\S=List.replicate n (zjs t v)::S'/\kw4 t l S'
theorem kw4.len {t:PTree}:∀{l:List PVar} {S:List (List Int)},kw4 t l S->S.length=l.length
 |[],_,h=>by rw[show _=_ from h];rfl
 |v::l,S,⟨n,S',_,e,h⟩=>by rw[e,Qz,Qz,h.len]
theorem kw4.get {t:PTree}:∀{l:List PVar} {S:List (List Int)} (k:Nat) (hk:k<l.length),kw4 t l S->∃n,qjk t l[k] n/\S[k]?=some (List.replicate n (zjs t l[k]))
 |v::l,S,0,_,⟨n,S',c,e,h⟩=>⟨n,c,oz⟩
 |v::l,S,k+1,hk,⟨n,S',c,e,h⟩=>by
  obtain⟨m,a,b⟩:=kw4.get k (by simpa using hk) h;exact⟨m,a,by rw[e,tu];exact b⟩
theorem qjk.bd {v:PVar}  (h:qjk t v n):1<=n/\n<=9:=by
 unfold qjk at h;split at h
 ·obtain⟨_,_,_,_,_,h1,a⟩:=h;exact⟨h1,a⟩
 ·omega
theorem vjg (w:World)(T:Nat)(t:PTree)(h:kqr w T t)(ht:TreeOk t)(hf:TreeFit t)(S:List (List Int))(hS:kw4 t t.vars S):
  qJ 69 #[.pointer (some ⟨T,0,none⟩)] w λe w'=>∃x' s,e=.returned x'/\StA w.heap.size w' x' S s/\pU w w':=by
 have b9:=hS.len;have HS:=pG hS;have HT:=pG h;have bB:=ht.vars;have aP:∃a c,w.cell? ⟨T,2,none⟩=some (.slice a t.vars.length c):=by
  obtain⟨x0,x1,x2,x3,x4,y1,y3,y4,hT,_,_,hs,_⟩:=h;obtain⟨q0,q1,G,q3,q4,_⟩:=kxh hT;obtain⟨a,cap,rfl,aZ⟩:=ql hs;exact⟨a,cap,G⟩
 obtain⟨aX,aY,G⟩:=aP;have aL:T<w.heap.size:=by obtain⟨x0,x1,x2,x3,x4,y1,y3,y4,hT,_⟩:=h;exact wu hT
 have aD:=pG G;clear hS h G;go_enter func69,ntmps69
 go_wp2_with fail
 go_loopw [3,4,5,6,7,8,9,10] (λy i _ _ _ _ _ _ wr=>∃(k:Nat) (s:List (Nat×Nat)),k<=t.vars.length/\i=.int .i64 k/\StA w.heap.size wr y (S.take k) s/\pU w wr) (λ_ i _ _ _ _ _ _ _=>t.vars.length-(intOf i).toNat)
 case atStart=>exact⟨0,[],rW _,rfl,StA.nil _ _,Below.refl _ _⟩
 case round=>
  obtain⟨u,aT⟩:∃u,u=wr:=⟨_,rfl⟩;subst aT;obtain⟨k,s,hk,rfl,U,hb⟩:=hrel;have a9:=hb.size;obtain⟨ya,yc,rfl,aU⟩:=ql U.out;have P:(S.take k).length=k:=jU;have f:=pG U;have HB:=pG hb;rw[P]at f |-;have G:u.cell? ⟨T,2,none⟩=some (.slice aX t.vars.length aY):=(hb.cell (p:=⟨T,2,none⟩) aL).trans (ku aD);clear aU U;by_cases Q:k<t.vars.length
  ·obtain⟨g,cap,_,hg,qq,k0,k1,k2,k3,k4,k5,k6,k7,k8,k9,aV,aW⟩:=((ku HT).below hb).var Q;obtain⟨n,O,a6⟩:=(ku HS).get k Q;have b4:=O.bd;have aF:=pG (show S.take (k+1)=S.take k++[List.replicate n (zjs t t.vars[k])] by rw[List.take_add_one,a6];rfl);have a8:=(hf.vars _ (wX Q)).1;generalize t.vars[k]=V at *;obtain⟨W,Y⟩:∃W,W=u.alloc (.cells #[.string V.name.kind,.string V.name.text,.int .i64 V.name.at_,.string V.over.kind,.string V.over.text,.int .i64 V.over.at_,.string V.type_.kind,.string V.type_.text,.int .i64 V.type_.at_,.string V.top.kind,.string V.top.text,.int .i64 V.top.at_] 222):=⟨_,rfl⟩;have D:pU u W:=by rw[Y];exact below_alloc1 u _
   have b8:u.heap.size<W.heap.size:=by rw[Y];simp
   have aG:=pG ((ku HT).below (hb.trans (D.mono a9)));have J:=pG (hb.trans (D.mono a9));have a4:=pG ((ku f).below D);have a5:=pG ((ku HT).below hb);have aH:=pG Y.symm;have K:=pG O;have bA:=kyh t V a8;have a3:=pG (λwx (hx:pU W wx)=>qx4 wx T t V ((ku aG).below hx) ht.kinds a8);have HZ:=pG (show zjs t V=if kzd (kqf t V) then -1 else 0 from rfl);have aC:=pG (λy (hy:y∈S.take k)=>(show 0<y.length from by
    obtain⟨q,hq,rfl⟩:=tC (Zt hy);obtain⟨m,aN,E⟩:=(ku HS).get q aj;rw[tY hq]at E;injection E with E;rw[E,Jb];have:=aN.bd;omega))
   clear G hb D Y a6 O f;cases ho:(V.over.kind.toList==og);case' false=>
    have aO:n<=1:=by have:=ku K;unfold qjk qzk at this;rw[ho]at this;simp at this;omega
   case' true=>
    obtain⟨sk,aQ,sl,sd,sv,_⟩:zw1 t V.over.text.toList n:=by have:=ku K;unfold qjk qzk at this;rw[ho]at this;simpa using this
    have aO:True:=trivial;go_wp2_with fail
    refine(zy5 _ T t V.over.text ((ku a5).below (below_alloc1 _ _)) ht.sets sk aQ sl sd).mono ?_;rintro e wz ⟨rfl,rfl⟩;rw[sv]
   all_goals
    clear K;go_wp2_with fail
    rw[ku aH];clear k0 k1 k2 k3 k4 k5 k6 k7 k8 k9 aV aW qq a5;refine((ku a3) W (Below.refl _ _)).mono ?_;rintro e x ⟨rfl,C⟩;have b7:=C.size;have H:=pG ((ku J).trans (C.mono (ku J).size));have L:=pG ((ku a4).below C);have R:=(ku H).size;clear C a3 a4 J;go_wp2_with fail
    refine(kyi _ _ aj).mono ?_;rintro e x ⟨rfl,rfl⟩;generalize kzd (kqf t V)=bs at *;have HO:=pG (wB x x.heap.size 3 1);generalize zjs t V=z at *;go_wp2_with fail
    go_loopw [7,9,10] (λy q _ A=>∃j:Nat,j<=n/\q=.int .i64 j/\A.ownsRow x.heap.size 3 1 y j (List.replicate j (Value.int .i64 z))/\pU x A) (λ_ q _ _=>n-(intOf q).toNat)
    case atStart=>exact⟨0,rW _,rfl,ku HO,Below.refl _ _⟩
    case round=>
     obtain⟨A,aS⟩:∃A,A=wr:=⟨_,rfl⟩;subst aS;obtain⟨j,b5,rfl,v,N⟩:=hrel;have aR:=N.size;obtain⟨za,zn,zc,rfl⟩:=zq v;have F:=pG v;have I:=pG N;clear v N;by_cases b6:j<n
     ·cases bs;all_goals
       have hz:=ku HZ;simp only[if_true,if_false,wU]at hz;subst hz;go_wp2_with (at_builtin;refine apO ((ku F).alloc _) ?_)
       intro v' w' d b _ M;have aE:=pG (show w'.ownsRow x.heap.size 3 1 v' (j+1) (List.replicate (j+1) (Value.int .i64 _)) by rw[List.replicate_succ'];exact d);have aA:=pG (((ku I).alloc aR _).grown b ay (xg (ku F)));clear d b M;go_wp2
       go_roundw
       case rel=>exact⟨j+1,aj,eu,ku aE,ku aA⟩
       case measure=>exact qQ
     ·have aM:j=n:=by omega
      rw[aM]at F;obtain⟨X,c3,e3,b2,b3⟩:=qyn (ku F) aj;injection e3.symm with aI aJ aK;subst aI;subst aJ;subst aK;have B:=pG ((ku L).below (ku I));have a1:=pG (zu R (ku F));have a0:=pG (show X∉s.map (·.1) from λhx=>by have:=(ku L).lt (ku aC) X hx;omega);have Z:=pG ((ku H).trans ((ku I).mono R));clear F L H;go_wp2_with (at_builtin;refine apO (by have:=(ku B).out.alloc (.cells #[.slice (some ⟨X,0,none⟩) n c3] 31);rw[P]at this;exact this) ?_)
      intro v' w' d b _ M;have a7:(List.replicate n z).length=n:=Jb;have a2:=pG (StA.snoc ((ku B).below (below_alloc1 A (.cells #[.slice (some ⟨X,0,none⟩) n c3] 31))) (ku a0) (l:=List.replicate n z) (by rw[a7,List.map_replicate];exact qj (ku a1) (below_alloc1 A _)) (by rw[P,a7];exact d) b);have aB:=pG (((ku Z).alloc aj _).grown b ay (xg (ku B).out));rw[<-ku aF]at a2;clear d b M B a1 a0 Z;go_wp2
      go_roundw
      case rel=>exact⟨k+1,_,aj,eu,ku a2,ku aB⟩
      case measure=>exact qQ
  ·clear hb;rw[show S.take k=S by rw[show k=S.length by omega,QM]]at f;go_wp2
   go_ret
   exact⟨_,_,rfl,ku f,ku HB⟩
end Go.Proofs.YtpmcnonmkghokaaGreatDoor

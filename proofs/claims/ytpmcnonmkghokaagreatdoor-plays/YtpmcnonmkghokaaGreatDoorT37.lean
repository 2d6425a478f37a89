import Derived.Test.YtpmcnonmkghokaaGreatDoorT36
import Derived.Test.YtpmcnonmkghokaaGreatDoorT30
import Derived.Test.YtpmcnonmkghokaaGreatDoorT32
set_option linter.unusedVariables false
set_option linter.unusedSimpArgs false
namespace Go.Proofs.YtpmcnonmkghokaaGreatDoor
open Go.Proofs.Tryz
open Go.RowKit
variable {c:Bool}{L:List Tok}{s:List UInt8}{j:Nat}{st:RS}{x y:VT}
def shT (ty:VT):Int:=if ty.fam==4||ty.fam==5 then 1 else 0
structure RSame (t:PTree)(tab:Tab)(mt:kq1)(shv:Nat->Int):Prop where
 mem:∀s,(zl tab s).role=3->(kqa t.kinds s).2=(kj1 mt s).num
 var:∀s,(zl tab s).role=4->(kqa t.kinds s).2<0/\qh (zx t) s=(kj1 mt s).num/\shv (kj1 mt s).num=shT (kjv tab (zl tab s).var.si)
def RSt (vars:List MVar)(shv:Nat->Int)(S:List (List Int))(st:List Int):Prop:=
 S.length=vars.length/\∀k u,vars[k]?=some u->∃y,S[k]?=some y/\y.length=u.count/\∀j,j<u.count->∃x,st[u.first+j]?=some x/\y[j]?=some (x-shv k)
theorem jjx:∀{l:List PP} {s:List UInt8},fpB l s=true->qh (je l) s=qjb l s
 |[],s,h=>by simp[fpB]at h
 |p::l,s,h=>by
  cases a:(p.name.text.toList==s)
  ·have b:fpB l s=true:=by unfold fpB at h |-;rw[QB,a]at h;exact h
   have c:=jjx b;rw[qjb,a,show je (p::l)=p.name.text::je l from rfl,qh,a,c,if_neg au,if_neg aj,if_neg au];rfl
  ·rw[qjb,a,show je (p::l)=p.name.text::je l from rfl,qh,a];rfl
theorem jwv:∀{l:List PP} {s:List UInt8},fpB l s=false->qh (je l) s<0
 |[],s,_=>by show(-1:Int)<0;decide
 |p::l,s,h=>by
  cases a:(p.name.text.toList==s)
  ·have b:fpB l s=false:=by unfold fpB at h |-;rw[QB,a]at h;exact h
   have c:=jwv b;rw[show je (p::l)=p.name.text::je l from rfl,qh,a,if_neg au,if_pos c];decide
  ·unfold fpB at h;rw[QB,a]at h;cases h
variable {t:PTree} {tab:Tab} {vars:List MVar} {mt:kq1} {ksz ssz:List UInt8->Nat} {size:Nat} {l:List PP} {ms st:List Int} {S:List (List Int)} {shv:Nat->Int}
def vk1 (t:PTree)(l:List PP)(ms:List Int)(S:List (List Int))(s:List UInt8):Option Int:=
 if 0<=qh (je l) s then ms[(qh (je l) s).toNat]? else if 0<=(kqa t.kinds s).2 then some (kqa t.kinds s).2 else if 0<=qh (zx t) s then (S[(qh (zx t) s).toNat]?).bind λy=>y[0]? else none
theorem jze (h:EnvOk tab vars mt ksz ssz size)(C:ParOk ssz l ms)(E:kz2 vars size st)(k:RSame t tab mt shv)(B:RSt vars shv S st)(n:Tok)(s:(kjc tab l n).fam≠0):∃x,jj2 vars mt l ms st n.text.toList=some x/\vk1 t l ms S n.text.toList=some (x-shT (kjc tab l n)):=by
 obtain⟨x,a,I⟩:=jj1 h C E n s;refine⟨x,a,?_⟩;unfold jj2 at a;cases b:fpB l n.text.toList
 ·rw[b,if_neg au]at a;unfold vk1;rw[if_neg (by have:=jwv b;omega)];cases c:((zl tab n.text.toList).role==3)
  ·cases e:((zl tab n.text.toList).role==4&&!(zl tab n.text.toList).var.arr)
   ·exact absurd (by unfold kjc;rw[b,c,e];rfl) s
   ·have f:kjc tab l n=kjv tab (zl tab n.text.toList).var.si:=by unfold kjc;rw[b,c,e];rfl
    rw[wW,rQ]at e;obtain⟨K,G,H⟩:=k.var _ e.1;obtain⟨j,u,v,p⟩:=h.var _ e.1;rw[j,if_pos rfl,v]at a;rw[if_neg aj,G,if_pos aj,sJ,f,<-H];obtain⟨y,F,J,w⟩:=B.2 _ _ v;have D:=p.pos;obtain⟨z,g,A⟩:=w 0 aj;rw[F];show y[0]?=_;rw[A];simp only[rC,sU]at a g;rw[g]at a;simp only[rC]at a;have:small z=some x:=a;unfold small at this;split at this
    ·injection this with this;rw[this]
    ·cases this
  ·have f:kjc tab l n=⟨3,(zl tab n.text.toList).kind⟩:=by unfold kjc;rw[b,c];rfl
   rw[rQ]at c;have i:=k.mem _ c;obtain⟨j,_⟩:=h.mem _ c;rw[j,if_neg au]at a;injection a with a;rw[if_pos aj,i,f,<-a];simp[shT]
 ·have f:kjc tab l n=⟨4,(fpP l n.text.toList).set_.text⟩:=by unfold kjc;rw[b];rfl
  rw[b,if_pos rfl]at a;obtain⟨m,i,a⟩:=wQ.mp a;obtain⟨q,d,a⟩:=rJ.mp a;unfold vk1;rw[jjx b,if_pos aj,sJ,i,f];unfold small at d;split at d
  ·injection d with d;rw[<-a,d];simp[shT]
  ·cases d
end Go.Proofs.YtpmcnonmkghokaaGreatDoor
namespace Go.Proofs.YtpmcnonmkghokaaGreatDoor
open Go.Proofs.Tryz
open Go.RowKit
variable {c:Bool}{L:List Tok}{s:List UInt8}{j:Nat}{st:RS}{x y:VT}
variable {t:PTree} {tab:Tab} {vars:List MVar} {mt:kq1} {ksz ssz:List UInt8->Nat} {size:Nat} {l:List PP} {ms st:List Int} {S:List (List Int)} {shv:Nat->Int}
theorem jzx (p:EnvOk tab vars mt ksz ssz size)(C:ParOk ssz l ms)(D:kz2 vars size st)(A:RSame t tab mt shv)(K:RSt vars shv S st)(n i:Tok)(G:(zl tab n.text.toList).role=4)(h:i=zf\/(i.kind.toList==og)=true)
  (hi:(i.kind.toList==[])=false->(zl tab n.text.toList).var.arr=true/\qkh tab l i (zl tab n.text.toList).var.over=true):
  ∃(u:MVar) (j:Nat) (w:Bool),vars[(kj1 mt n.text.toList).num]?=some u/\MvOk tab ksz ssz size u (zl tab n.text.toList).var/\j<u.count/\atO vars mt l ms st u i=some ((u.first:Int)+j,w)/\∃q:Int,jzk t l ms S n i=some ((((kj1 mt n.text.toList).num:Int),q),w)/\(w=false->q=j)/\(w=true->q<0):=by
 obtain⟨Q,O,R⟩:=A.var _ G;obtain⟨_,u,N,v⟩:=p.var _ G;obtain⟨j,w,a,L⟩:=vw3 p C D u _ v i hi;refine⟨u,j,w,N,v,L,a,?_⟩;unfold atO at a;unfold jzk;rw[O];rcases h with rfl|h
 ·rw[show(zf.kind.toList==([]:List UInt8))=true from by rw[kqw];rfl,if_pos rfl]at a;injection a with a;injection a with s b;rw[show(zf.kind.toList==og)=false from by rw[kqw];rfl,if_neg au];exact⟨0,by rw[b],λ_=>aj,λe=>by rw[<-b]at e;cases e⟩
 ·have z:(i.kind.toList==([]:List UInt8))=false:=by rw[rQ]at h;rw[h];rfl
  obtain⟨_,c⟩:=hi z;unfold qkh at c;rw[wW,rQ]at c;obtain⟨x,J,d⟩:=jze p C D A K i (by rw[c.1];decide);obtain⟨T,f,F⟩:=jj1 p C D i (by rw[c.1];decide);rw[J]at f;injection f with f;subst f;have M:=F.set c.1;have H:shT (kjc tab l i)=1:=by unfold shT;rw[c.1];rfl
  rw[H]at d;rw[z,if_neg au,J]at a;simp only[rC]at a;rw[h,if_pos rfl];have I:(if 0<=qh (je l) i.text.toList then ms[(qh (je l) i.text.toList).toNat]? else if 0<=qh (zx t) i.text.toList then (S[(qh (zx t) i.text.toList).toNat]?).bind λy=>y[0]? else none)=some (x-1):=by
   unfold vk1 at d;split at d
   ·rename_i m;rw[if_pos m];exact d
   ·rename_i m;rw[if_neg m];split at d
    ·rename_i P;exfalso
     have B:fpB l i.text.toList=false:=by
      cases B:fpB l i.text.toList
      ·rfl
      ·exact absurd (by rw[jjx B];omega) m
     have g:=c.1;unfold kjc at g;rw[B,if_neg au]at g;split at g
     ·cases g
     ·split at g
      ·rename_i E;rw[wW,rQ]at E;have:=(A.var _ E.1).1;omega
      ·cases g
    ·exact d
  rw[I];cases k:(x==0)
  ·rw[k,if_neg au]at a;rw[Qw]at k;obtain⟨_,_,a⟩:=wQ.mp a;obtain⟨_,_,a⟩:=rJ.mp a;injection a with s b;refine⟨x-1,?_,λ_=>aj,λe=>by rw[<-b]at e;cases e⟩;show some ((((kj1 mt n.text.toList).num:Int),x-1),decide (x-1<0))=_;rw[show decide (x-1<0)=false by simp;omega,b]
  ·rw[k,if_pos rfl]at a;rw[rQ]at k;injection a with a;injection a with s b;refine⟨x-1,?_,λe=>(by rw[<-b]at e;cases e),λ_=>aj⟩;show some ((((kj1 mt n.text.toList).num:Int),x-1),decide (x-1<0))=_;rw[show decide (x-1<0)=true by simp;omega,b]
theorem vkt (v:EnvOk tab vars mt ksz ssz size)(J:ParOk ssz l ms)(K:kz2 vars size st)(F:RSame t tab mt shv)(G:RSt vars shv S st)(hN:∀s,(zl tab s).role=4->fpB l s=false)(n i:Tok)(hk:i=zf\/(i.kind.toList==og)=true)(L:(kzh tab l n i).fam≠0)(r:Int×Bool)(c:zky vars mt l ms st n i=some r):
  ∃q:Int,jxp t l ms S n i=some (q,r.2)/\-2000<=q/\q<=2000/\(r.2=false->q=r.1-shT (kzh tab l n i)):=by
 obtain⟨r',B,h⟩:=vkh v J K n i L;rw[c]at B;injection B with B;subst B;have hb:=h.small v.kb v.sb aj;have A:-1000<=r.1/\r.1<=1000:=by
  rcases h.fam with e|e|e|e|e
  ·have:=h.tru e;omega
  ·have:=h.num e;omega
  ·have:=h.kin e;have:=v.kb (kzh tab l n i).name.toList;omega
  ·have:=h.set e;have:=v.sb (kzh tab l n i).name.toList;omega
  ·have:=h.non e;omega
 have a1:0<=shT (kzh tab l n i)/\shT (kzh tab l n i)<=1:=by unfold shT;split<;>omega
 unfold zky at c;cases g:(i.kind.toList==[])
 · -- a place of an array
  rw[g,if_neg au]at c;have m:=L;unfold kzh at m;rw[g]at m;simp only[Jc,if_true]at m;cases f:(zl tab n.text.toList).var.arr
  ·rw[f]at m;exact absurd rfl m
  ·rw[f]at m;simp only[if_true]at m;cases D:qkh tab l i (zl tab n.text.toList).var.over
   ·rw[D]at m;exact absurd rfl m
   ·have d:kzh tab l n i=kjv tab (zl tab n.text.toList).var.si:=by unfold kzh;rw[g,f,D];rfl
    have p:=v.arr _ f;obtain⟨u,j,w,U,a0,hj,Z,q,hq,P,Q⟩:=jzx v J K F G n i p hk (λ_=>⟨f,D⟩);obtain⟨v1,v2,M⟩:=F.var _ p;rw[U]at c;simp only[rC]at c;rw[Z]at c;simp only[rC]at c;rw[if_neg aj]at c;obtain⟨z,E,c⟩:=wQ.mp c;obtain⟨z',k,T⟩:=rJ.mp c;have Y:z'=z:=by
     unfold small at k;split at k
     ·injection k with k;exact k.symm
     ·cases k
    subst Y;subst T;unfold jxp;have O:¬0<=qh (je l) n.text.toList:=by have:=jwv (hN _ p);omega
    rw[if_neg O,if_neg aj,hq];simp only[rC];cases w
    ·have R:=P rfl;rw[R,if_neg aj,if_pos aj,sJ,sJ];obtain⟨y,hy,a2,X⟩:=G.2 _ _ U;obtain⟨x,V,W⟩:=X j hj;rw[hy];simp only[rC];rw[W];have e:((u.first:Int)+j).toNat=u.first+j:=aj;rw[e,V]at E;injection E with E;subst E;refine⟨x-shv (kj1 mt n.text.toList).num,rfl,?_,?_,λ_=>by rw[d,M]⟩
     ·rw[M,<-d];simp only at A;omega
     ·rw[M,<-d];simp only at A;omega
    ·have:=Q rfl;rw[if_pos this];exact⟨0,rfl,aj,aj,λe=>kX⟩
 ·rw[g,if_pos rfl]at c;have d:kzh tab l n i=kjc tab l n:=by unfold kzh;rw[g];rfl
  obtain⟨x,hx,rfl⟩:=rJ.mp c;obtain⟨x',C,b⟩:=jze v J K F G n (by rw[<-d];exact L);rw[hx]at C;injection C with C;subst C;have N:(i.kind.toList==og)=false:=by rw[rQ]at g;rw[g];rfl
  refine⟨x-shT (kjc tab l n),?_,by rw[<-d];simp only at A;omega,by rw[<-d];simp only at A;omega,λ_=>by rw[d]⟩;unfold jxp;unfold vk1 at b;split at b
  ·rename_i H;rw[if_pos H,b];rfl
  ·rename_i H;rw[if_neg H];split at b
   ·rename_i I;rw[if_pos I];injection b with b;rw[b]
   ·rename_i I;rw[if_neg I];split at b
    ·rename_i hv;unfold jzk;rw[N,if_neg au];simp only[rC];rw[if_neg aj,if_pos hv];show((S[(qh (zx t) n.text.toList).toNat]?).bind λy=>y[0]?).map _=_;rw[b];rfl
    ·cases b
end Go.Proofs.YtpmcnonmkghokaaGreatDoor
namespace Go.Proofs.YtpmcnonmkghokaaGreatDoor
open Go.Proofs.Tryz
open Go.RowKit
variable {c:Bool}{L:List Tok}{s:List UInt8}{j:Nat}{st:RS}{x y:VT}
theorem vqv (h:(qy L s st).bad=false):(qy L s st).at_=st.at_+1:=by
 unfold qy at h |-;split at h
 ·cases h
 ·rename_i a;rw[if_neg a]
theorem vqb (h:(qm L s st).2.bad=false):(qm L s st).2.at_=st.at_+1:=by
 unfold qm at h |-;split at h
 ·rename_i a;rw[if_pos a]
 ·cases h
theorem vkn (h:(yt L st).2.bad=false):st.at_+1<=(yt L st).2.at_/\kjd (yt L st).1=1:=by
 unfold yt at h |-;simp only at h |-;split at h
 ·rename_i a;rw[if_pos a];simp only at h |-;have d:=kqs h;have c:=kkh d;have h1:=kqs c;have b:=vqb h1;have e:=jh L [91] (qm L og st).2;have f:=kq9 L og (qy L [91] (qm L og st).2);have g:=jh L [93] (qm L og (qy L [91] (qm L og st).2)).2;exact⟨aj,rfl⟩
 ·rename_i a;rw[if_neg a];simp only at h |-;have b:=vqb h;exact⟨aj,rfl⟩
theorem vku (L:List Tok):∀(f tag:Nat) (x:PX) (st:RS),(rX f tag x L st).2.bad=false->kjd (rX f tag x L st).1+st.at_<=kjd x+(rX f tag x L st).2.at_
 |0,tag,x,st,h=>wJ _
 |f+1,tag,x,st,h=>by
  have a:=vku L f;have hb:st.bad=false:=kzc h;have b:¬st.bad=true:=by rw[hb];simp
  have z0:kjd (.nil:PX)=0:=rfl;rw[rX]at h |-;by_cases s:tag<4
  ·rw[if_pos s,if_neg b]at h |-;have h1:=a (tag+1) .nil st (kzc h);have c:=a (10+tag) _ _ h;omega
  ·rw[if_neg s]at h |-;by_cases j:tag<10
   ·rw[if_pos j,if_neg b]at h |-;have h1:=a 20 .nil st h;omega
   ·rw[if_neg j]at h |-;by_cases l:tag<20
    ·rw[if_pos l,if_neg b]at h |-;by_cases d:kk3 (tag-10) (tk L st.at_)=true
     ·rw[if_pos d]at h |-;by_cases k:tag=12
      ·rw[if_pos k]at h |-;simp only at h |-;have h1:=a (tag-9) .nil {st with at_:=st.at_+1} h;simp only at h1;show kjd x+kjd (rX f (tag-9) .nil L {st with at_:=st.at_+1}).1+1+st.at_<=_;omega
      ·rw[if_neg k]at h |-;have h1:=a (tag-9) .nil {st with at_:=st.at_+1} (kzc h);have c:=a tag _ _ h;simp only at h1;have e:kjd (opX (tk L st.at_).text x (rX f (tag-9) .nil L {st with at_:=st.at_+1}).1)=kjd x+kjd (rX f (tag-9) .nil L {st with at_:=st.at_+1}).1+1:=rfl;rw[e]at c;omega
     ·rw[if_neg d]at h |-;exact wJ _
    ·rw[if_neg l,if_neg b]at h |-;by_cases g:qo L [33] st=true
     ·rw[if_pos g]at h |-;by_cases m:tag=32
      ·rw[if_pos m]at h;simp at h
      ·rw[if_neg m]at h |-;simp only at h |-;have h1:=a (tag+1) .nil (qy L [33] st) h;have t:=vqv (kzc h);show kjd (rX f (tag+1) .nil L (qy L [33] st)).1+kjd (.nil:PX)+1+st.at_<=_;omega
     ·rw[if_neg g]at h |-;by_cases i:qo L [40] st=true
      ·rw[if_pos i]at h |-;simp only at h |-;have c:=kqs h;have h1:=a 0 .nil (qy L [40] st) c;have t:=vqv (kzc c);have u:=jh L [41] (rX f 0 .nil L (qy L [40] st)).2;omega
      ·rw[if_neg i]at h |-;by_cases p:isConst (tk L st.at_)=true
       ·rw[if_pos p]at h |-;show 0+0+1+st.at_<=kjd x+(st.at_+1);omega
       ·rw[if_neg p]at h |-;by_cases q:qkd (tk L st.at_)=true
        ·rw[if_pos q]at h |-;show 0+0+1+st.at_<=kjd x+(st.at_+1);omega
        ·rw[if_neg q]at h |-;have:=vkn h;omega
theorem jyt (a:bg L)  (b:st.at_<L.length)(h:(rX (yg L) 0 .nil L st).2.bad=false):kjd (rX (yg L) 0 .nil L st).1<=801:=by
 obtain⟨_,_,x3,_⟩:=ky1 a b h;have h1:=vku L (yg L) 0 .nil st h;have z0:kjd (.nil:PX)=0:=rfl;have c:=a.len;omega
def BSm:PB->Prop
 |.nil=>True
 |.node _ _ a .nil n=>kjd a.value<=801/\BSm n
 |.node _ _ a (.node _ _ _ t e) n=>kjd a.cond<=801/\BSm t/\BSm e/\BSm n
theorem BSm.app:∀{a b:PB},BSm a->BSm b->BSm (kk0 a b)
 |.nil,b,_,h=>h
 |.node _ _ a .nil n,b,⟨h1,h2⟩,h=>⟨h1,h2.app h⟩
 |.node _ _ a (.node _ _ _ t e) n,b,⟨h1,h2,h3,h4⟩,h=>⟨h1,h2,h3,h4.app h⟩
theorem pze (f:bg L){blk:RS->PB×RS}(i:∀s,(blk s).2.bad=false->s.bad=false)(m:∀s,s.at_<L.length->(blk s).2.bad=false->SIn L s (blk s))(c:∀s,s.at_<L.length->(blk s).2.bad=false->BSm (blk s).1)  (p:st.at_<L.length)(h:(rDo blk L st).2.bad=false):BSm (rDo blk L st).1:=by
 have e:=f.qve;unfold rDo at h |-;by_cases hi:qo L oh st=true
 ·rw[if_pos hi]at h |-;have a:(blk (rX (yg L) 0 .nil L (qy L oh st)).2).2.bad=false->kjd (rX (yg L) 0 .nil L (qy L oh st)).1<=801/\BSm (blk (rX (yg L) 0 .nil L (qy L oh st)).2).1/\SIn L (rX (yg L) 0 .nil L (qy L oh st)).2 (blk (rX (yg L) 0 .nil L (qy L oh st)).2):=by
   intro hb;have b:=i _ hb;obtain⟨v,w,g⟩:=yw e p (kzc b);obtain⟨x1,x2,x3,x4⟩:=ky1 f g b;exact⟨jyt f g b,c _ x3 hb,m _ x3 hb⟩
  by_cases l:qo L oC (blk (rX (yg L) 0 .nil L (qy L oh st)).2).2=true
  ·rw[if_pos l]at h |-;simp only at h |-;have d:=i _ h;obtain⟨j,k,q⟩:=a (kqs d);obtain⟨y,z,t⟩:=yw e q.lt d;exact⟨j,k,c _ t h,trivial⟩
  ·rw[if_neg l]at h |-;simp only at h |-;obtain⟨j,k,q⟩:=a h;exact⟨j,k,trivial,trivial⟩
 ·rw[if_neg hi]at h |-;simp only at h |-;have b:=kqs h;have d:=kzc b;have u:=kqs d;obtain⟨A,B,C,x,D⟩:=zkg e p u;obtain⟨v,w,g⟩:=yw e x d;exact⟨jyt f g b,trivial⟩
theorem vq8 {L:List Tok}(a:bg L):∀(f tag:Nat) (st:RS),st.at_<L.length->(rS f tag L st).2.bad=false->BSm (rS f tag L st).1
 |0,tag,st,hl,h=>trivial
 |f+1,0,st,hl,h=>by
  have e:=a.qve;rw[rS]at h |-;simp only at h |-;have hb:=kqs h;obtain⟨i,j,g⟩:=yw e hl (kvr hb);exact vq8 a f 1 _ g hb
 |f+1,t+1,st,hl,h=>by
  rw[rS]at h |-;by_cases c:(qo L [125] st||st.bad)=true
  ·rw[if_pos c]at h |-;exact trivial
  ·rw[if_neg c]at h |-;simp only at h |-;have d:=kvr h;obtain⟨d1,_⟩:SIn L st (rDo (rS f 0 L) L st)/\kko (rDo (rS f 0 L) L st).1=1:=pqc a (λs=>kvr) (λs b hb=>zy6 a f 0 s b hb) hl d;exact(pze a (λs=>kvr) (λs b hb=>zy6 a f 0 s b hb) (λs b hb=>vq8 a f 0 s b hb) hl d).app (vq8 a f 1 _ d1.lt h)
def qy3 (r:PRule):Prop:=kjd r.guard<=801/\BSm r.body
theorem vwo (b:bg L)(st:RS)(j:st.at_<L.length)(h:(kj6 L st).2.bad=false):qy3 (kj6 L st).1:=by
 have a:=b.qve;unfold kj6 at h |-;simp only at h |-;have c:(qqj L st).2.bad=false:=kvr h;have f:(qy L oh (qj0 L st).2).bad=false:=kzc c;have g:(qj0 L st).2.bad=false:=kqs f;have e:(zz1 L st).2.bad=false:=qvj g;obtain⟨u,v,k⟩:=yw a j (kkh e);obtain⟨m,p,q,s,i⟩:=kjr a k rfl e;obtain⟨w,l,x⟩:=qvz a i g;obtain⟨b1,t,d⟩:=yw a l f;obtain⟨x1,x2,x3,x4⟩:=ky1 b d c;exact⟨jyt b d c,vq8 b _ _ _ x3 h⟩
theorem vv1 (b:bg L)(st:RS)(g:st.at_<L.length)(h:(kjm L st).2.bad=false):qy3 (kjm L st).1:=by
 have a:=b.qve;unfold kjm at h |-;simp only at h |-;have c:(qjg L st).2.bad=false:=kqs h;have e:(qxq L st).2.bad=false:=kzc c;have d:(qkz L st).2.bad=false:=qvj e;obtain⟨q,s,i⟩:=yw a g (kkh d);obtain⟨k,l,m,p,f⟩:=kjr a i rfl d;obtain⟨t,j,u⟩:=qvz a f e;exact⟨jyt b j c,trivial⟩
theorem jkk {α:Type}{L:List Tok}{lit:List UInt8}{one:RS->α×RS}:∀(f:Nat) (l:List α) (s:RS),(kzg L lit one (f+1) l s).2.bad=false->s.bad=false->l.length<(kzg L lit one (f+1) l s).1.length
 |0,l,s,h,hs=>by
  rw[kzg]at h |-;rw[if_neg (by rw[hs];simp)]at h |-;split
  ·simp[kzg]
  ·simp
 |f+1,l,s,h,hs=>by
  rw[kzg]at h |-;rw[if_neg (by rw[hs];simp)]at h |-;by_cases hn:qo L lit (one s).2=true
  ·rw[if_pos hn]at h |-;have a:(one s).2.bad=false:=kjn λe=>by rw[kkc e]at h;rw[e]at h;cases h
   have:=jkk f (l++[(one s).1]) (one s).2 h a;simp at this;omega
  ·rw[if_neg hn];simp
theorem jxu (L:List Tok):∀(f:Nat) (l:List Tok) (st:RS),l.length<=(kk9 f L l st).1.length
 |0,l,st=>wJ _
 |f+1,l,st=>by
  rw[kk9];split
  ·exact wJ _
  ·split
   ·have:=jxu L f (l++[(qm L og st).1]) (qy L [44] (qm L og st).2);simp at this;omega
   ·simp
theorem vy1 (L:List Tok)(f:Nat)(l:List Tok)(st:RS)(h:st.bad=false):l.length<(kk9 (f+1) L l st).1.length:=by
 rw[kk9,if_neg (by rw[h];simp)];split
 ·have:=jxu L f (l++[(qm L og st).1]) (qy L [44] (qm L og st).2);simp at this;omega
 ·simp
theorem vvx (st:RS)(h:(kzt L st).2.bad=false):0<(kzt L st).1.members.length:=by
 have h1:(kk7 L (qm L og (qy L oV st)).2).2.bad=false:=h;unfold kk7 at h1;have a:=kqs h1;have b:(qy L [123] (qm L og (qy L oV st)).2).bad=false:=kjn λe=>by
  rw[zkj e,e]at a;cases a
 have:=vy1 L (L.length+1) [] (qy L [123] (qm L og (qy L oV st)).2) b;exact this
structure TreeSm (t:PTree):Prop where
 kinds:∀k∈t.kinds,0<k.members.length
 rules:∀r∈t.rules,qy3 r
 nevers:∀r∈t.nevers,qy3 r
 vars:0<t.vars.length
theorem vwb (d:bg L)(h:(yx L).2=none):TreeSm (yx L).1:=by
 have hb:(kx6 L).2.bad=false:=by
  rw[zqa]at h;cases hb:(kx6 L).2.bad
  ·rfl
  ·rw[hb]at h;simp at h
 have G:=d.pos;have hN:=hb;unfold kx6 at hN;rw[kyl]at hN;have D:(kx5 L).2.bad=false:=kjn λe=>by rw[kkb e]at hN;rw[e]at hN;cases hN
 have c:=D;unfold kx5 at c;rw[qz5]at c;have E:(kzz L).2.bad=false:=kjn λe=>by rw[kkc e]at c;rw[e]at c;cases c
 have a:=E;unfold kzz at a;rw[qx5]at a;have hH:(kqq L gu).2.2.bad=false:=kjn λe=>by rw[kkc e]at a;rw[e]at a;cases a
 have b:=hH;unfold kqq at b;simp only at b;rw[qz6]at b;have p:(kvy (gy L) L [] gu).2.bad=false:=kjn λe=>by rw[kkb e]at b;rw[e]at b;cases b
 rw[qv9]at p;obtain⟨s1,y,ls,s3,T,N⟩:=qqy (P:=λs=>qyj s.size) (vk7 d) (gy L) [] gu G p;rw[<-qv9]at y s3 N;obtain⟨k1,k2,q,k3,k4,k5⟩:=qqy (P:=λk:PKind=>0<k.members.length) (λs i g=>by obtain⟨j,_,l,m⟩:=jkc d s i g;exact⟨j,vvx s g,l,m⟩) (gy L) [] _ y b;rw[<-qz6]at k2 k3 k5;obtain⟨U,z,R,O,V,Q⟩:=qky (P:=qwk) (vxu d) (gy L) [] (kqq L gu).2.2 k2 a;have A:0<(qw5 (gy L) L [] (kqq L gu).2.2).1.length:=by
  rw[qx5];obtain⟨f,F⟩:∃f,gy L=f+1:=⟨gy L-1,nD⟩;rw[F]at a |-;have:=jkk f [] (kqq L gu).2.2 a hH;simpa using this
 rw[<-qx5]at z O Q;obtain⟨S,w,u,x,K,M⟩:=qky (P:=qy3) (λs i g=>by obtain⟨j,_,l,m⟩:=vq4 d s i g;exact⟨j,vwo d s i g,l,m⟩) (gy L) [] (kzz L).2 z c;rw[<-qz5]at w x M;obtain⟨n1,H,t,v,I,J⟩:=qqy (P:=qy3) (λs i g=>by obtain⟨j,_,l,m⟩:=jxs d s i g;exact⟨j,vv1 d s i g,l,m⟩) (gy L) [] (kx5 L).2 w hN;rw[<-kyl]at H v J;have ev:(yx L).1.vars=(qw5 (gy L) L [] (kqq L gu).2.2).1:=rfl;have C:(yx L).1.rules=u:=by show(qx6 (gy L) L [] (kzz L).2).1=u;rw[x];rfl
 have en:(yx L).1.nevers=t:=by show(kyt (gy L) L [] (kx5 L).2).1=t;rw[v];rfl
 have B:(yx L).1.kinds=q:=by show(kwh (gy L) L [] (kvy (gy L) L [] gu).2).1=q;rw[k3];rfl
 exact⟨by rw[B];exact k4,by rw[C];exact K,by rw[en];exact I,by rw[ev];exact A⟩
theorem jqa (c:Bool):0<=kxf c/\kxf c<=1:=by cases c<;>decide
theorem pzt (o:List UInt8)(a c A C:Int)(h1:-A<=a)(e:a<=A)(f:-C<=c)(g:c<=C):-(A+C+1)<=opI o a c/\opI o a c<=A+C+1:=by
 have d:∀b:Bool,-(A+C+1)<=kxf b/\kxf b<=A+C+1:=λb=>by have:=jqa b;omega
 unfold opI;split
 ·exact d _
 ·split
  ·exact d _
  ·split
   ·exact d _
   ·split
    ·omega
    ·split
     ·omega
     ·split
      ·exact d _
      ·split
       ·exact d _
       ·exact d _
theorem zy4 (h:x.fam=y.fam):shT x=shT y:=by unfold shT;rw[h]
theorem vve (h:qwo x y=true):shT x=shT y:=by
 unfold qwo at h;rw[Qu,Qu]at h;rcases h with(h|h)|h
 ·unfold kkn at h;simp only[wW,rQ]at h;exact zy4 h.1.1.1
 ·simp only[wW,rQ]at h;unfold shT;rw[h.1,h.2];rfl
 ·simp only[wW,rQ]at h;unfold shT;rw[h.1,h.2];rfl
theorem kya (h:(kqm 1 c).fam≠0):c=true/\shT (kqm 1 c)=0:=by
 obtain⟨h1,a⟩:=qqw h;exact⟨h1,by rw[a];rfl⟩
theorem jq2 (h:(kqm 2 c).fam≠0):c=true/\shT (kqm 2 c)=0:=by
 obtain⟨h1,a⟩:=qqw h;exact⟨h1,by rw[a];rfl⟩
theorem kxg (h:x.fam=1\/x.fam=2):shT x=0:=by unfold shT;rcases h with h|h<;>rw[h]<;>rfl
theorem vyz {ksz ssz:List UInt8->Nat}{B:Nat}{b c:VT}{p q h i:Int}{o:List UInt8}(m:o∈qwe)(j:(qwa (opN o) b c).fam≠0)(s:VIn ksz ssz B b p)(t:VIn ksz ssz B c q)(f:h=p-shT b)(g:i=q-shT c):
  opI o h i=kxv (opN o) p q-shT (qwa (opN o) b c):=by
 simp only[qwe,sW,Qa,or_false]at m;rcases m with rfl|rfl|rfl|rfl|rfl|rfl|rfl
 ·have a:(kqm 1 (b.fam==1&&c.fam==1)).fam≠0:=j;obtain⟨h1,d⟩:=kya a;rw[wW,rQ,rQ]at h1;have b1:=s.tru h1.1;have k:=t.tru h1.2;rw[kxg (Or.inl h1.1)]at f;rw[kxg (Or.inl h1.2)]at g;show kxf ((h==1)||(i==1))=max p q-shT (kqm 1 (b.fam==1&&c.fam==1));rw[d,f,g];rcases b1 with rfl|rfl<;>rcases k with rfl|rfl<;>decide
 ·have a:(kqm 1 (b.fam==1&&c.fam==1)).fam≠0:=j;obtain⟨h1,d⟩:=kya a;rw[wW,rQ,rQ]at h1;have b1:=s.tru h1.1;have k:=t.tru h1.2;rw[kxg (Or.inl h1.1)]at f;rw[kxg (Or.inl h1.2)]at g;show kxf ((h==1)&&(i==1))=min p q-shT (kqm 1 (b.fam==1&&c.fam==1));rw[d,f,g];rcases b1 with rfl|rfl<;>rcases k with rfl|rfl<;>decide
 ·have a:(kqm 1 (qwo b c)).fam≠0:=j;obtain⟨h1,d⟩:=kya a;have l:=vve h1;show kxf (h==i)=kxf (p==q)-shT (kqm 1 (qwo b c));rw[d,f,g,l,Jz];congr 1
  by_cases e:p=q
  ·rw[e,beq_self_eq_true,beq_self_eq_true]
  ·rw[Qw.mpr e,Qw.mpr aj]
 ·have a:(kqm 1 (qwo b c)).fam≠0:=j;obtain⟨h1,d⟩:=kya a;have l:=vve h1;show kxf (!(h==i))=kxf (!(p==q))-shT (kqm 1 (qwo b c));rw[d,f,g,l,Jz];congr 2
  by_cases e:p=q
  ·rw[e,beq_self_eq_true,beq_self_eq_true]
  ·rw[Qw.mpr e,Qw.mpr aj]
 ·have a:(kqm 1 (b.fam==2&&c.fam==2)).fam≠0:=j;obtain⟨h1,d⟩:=kya a;rw[wW,rQ,rQ]at h1;rw[kxg (Or.inr h1.1)]at f;rw[kxg (Or.inr h1.2)]at g;show kxf (decide (h<i))=kxf (decide (p<q))-shT (kqm 1 (b.fam==2&&c.fam==2));rw[d,f,g,Jz,Jz,Jz]
 ·have a:(kqm 2 (b.fam==2&&c.fam==2)).fam≠0:=j;obtain⟨h1,d⟩:=jq2 a;rw[wW,rQ,rQ]at h1;rw[kxg (Or.inr h1.1)]at f;rw[kxg (Or.inr h1.2)]at g;show h+i=(p+q)-shT (kqm 2 (b.fam==2&&c.fam==2));rw[d,f,g];omega
 ·have a:(kqm 2 (b.fam==2&&c.fam==2)).fam≠0:=j;obtain⟨h1,d⟩:=jq2 a;rw[wW,rQ,rQ]at h1;rw[kxg (Or.inr h1.1)]at f;rw[kxg (Or.inr h1.2)]at g;show h-i=(p-q)-shT (kqm 2 (b.fam==2&&c.fam==2));rw[d,f,g];omega
end Go.Proofs.YtpmcnonmkghokaaGreatDoor
namespace Go.Proofs.YtpmcnonmkghokaaGreatDoor
open Go.Proofs.Tryz
open Go.RowKit
variable {c:Bool}{L:List Tok}{s:List UInt8}{j:Nat}{st:RS}{x y:VT}
variable {t:PTree} {tab:Tab} {vars:List MVar} {mt:kq1} {ksz ssz:List UInt8->Nat} {size:Nat} {l:List PP} {ms st:List Int} {S:List (List Int)} {shv:Nat->Int}
theorem qq7 (y:EnvOk tab vars mt ksz ssz size)(A:ParOk ssz l ms)(B:kz2 vars size st)(H:RSame t tab mt shv)(I:RSt vars shv S st)(hN:∀s,(zl tab s).role=4->fpB l s=false):∀(x:PX),kza x->zqy x->kjd x<=4000->(uz tab l x).fam≠0->∀r,ky7 vars mt l ms st x=some r ->
  ∃q:Int,qwu t l ms S x=some (q,r.2)/\-(2000*(kjd x:Int))<=q/\q<=2000*(kjd x:Int)/\(r.2=false->q=r.1-shT (uz tab l x))
 |.nil,h,_,_,_,_,_=>h.elim
 |.node i j x a c,hw,hnum,hsz,ht,r,hr=>by
  have hX:kjd (.node i j x a c)=kjd a+kjd c+1:=rfl;obtain⟨a0,C,K⟩:=hnum;rw[hX]at hsz |-;rcases hw with⟨hl,rfl,rfl⟩|⟨z,w,rfl⟩|⟨z,w,k⟩
  ·have hv:qwu t l ms S (.node i j x .nil .nil)=opR t l ms S x (0,false) (0,false):=rfl;rw[hv];unfold opR;rcases hl with(h|h|h)|⟨h,n1,n2⟩|⟨h,h1,Z⟩
   ·have b:some ((1:Int),false)=some r:=by rw[ky7,h]at hr;exact hr
    have d:uz tab l (.node i j x .nil .nil)=⟨1,⟨#[]⟩⟩:=by rw[uz,h];rfl
    injection b with b;subst b;rw[h];exact⟨1,rfl,by simp[kjd],by simp[kjd],λ_=>by rw[d];rfl⟩
   ·have b:some ((0:Int),false)=some r:=by rw[ky7,h]at hr;exact hr
    have d:uz tab l (.node i j x .nil .nil)=⟨1,⟨#[]⟩⟩:=by rw[uz,h];rfl
    injection b with b;subst b;rw[h];exact⟨0,rfl,by simp[kjd],by simp[kjd],λ_=>by rw[d];rfl⟩
   ·have b:some ((0:Int),false)=some r:=by rw[ky7,h]at hr;exact hr
    have d:uz tab l (.node i j x .nil .nil)=⟨5,⟨#[]⟩⟩:=by rw[uz,h];rfl
    injection b with b;subst b;rw[h];exact⟨-1,rfl,by simp[kjd],by simp[kjd],λ_=>by rw[d];rfl⟩
   ·have b:some (x.n,false)=some r:=by rw[ky7,h]at hr;exact hr
    have d:uz tab l (.node i j x .nil .nil)=⟨2,⟨#[]⟩⟩:=by rw[uz,h];rfl
    injection b with b;subst b;rw[h];exact⟨x.n,rfl,nP,nP,λ_=>by rw[d];show x.n=x.n-0;omega⟩
   ·have b:zky vars mt l ms st x.name x.index=some r:=by rw[ky7,h]at hr;exact hr
    have d:uz tab l (.node i j x .nil .nil)=kzh tab l x.name x.index:=by rw[uz,h];rfl
    rw[d]at ht |-;obtain⟨q,hq,b1,N,e⟩:=vkt y A B H I hN x.name x.index Z ht r b;rw[h];refine⟨q,?_,nP,nP,e⟩;show(jxp t l ms S x.name x.index).map (λr=>(r.1,(false||false)||r.2))=_;rw[hq];rfl
  ·have d:uz tab l (.node i j x a .nil)=kqm 1 ((uz tab l a).fam==1):=by rw[uz,z];rfl
   rw[d]at ht |-;obtain⟨k,T⟩:=kya ht;rw[rQ]at k;have b:((ky7 vars mt l ms st a).bind λp=>(small p.1).map λ_=>(1-p.1,p.2))=some r:=by rw[ky7,z]at hr;exact hr
   obtain⟨p,v,b⟩:=wQ.mp b;obtain⟨_,_,b⟩:=rJ.mp b;subst b;obtain⟨p',f,E⟩:=val_ok y A B a w.full C w.some aj (by rw[k];decide);rw[v]at f;injection f with f;subst f;have U:=E.tru k;obtain⟨g,G,b1,N,e⟩:=qq7 y A B H I hN a w C aj (by rw[k];decide) p v;refine⟨kxf (g==0),?_,by have:=jqa (g==0);simp only[kjd];omega,by have:=jqa (g==0);simp only[kjd];omega,λO=>?_⟩
   ·show(qwu t l ms S a).bind (λp=>(some ((0:Int),false)).bind λq=>opR t l ms S x p q)=_;rw[G];show opR t l ms S x (g,p.2) (0,false)=_;unfold opR;rw[z];show(small g).bind (λ_=>(small 0).map λ_=>(opI [33] g 0,p.2||false))=_;rw[kzu aj aj,Qk];rfl
   ·have:=e O;rw[kxg (Or.inl k)]at this;rw[T,this];rcases U with q|q<;>rw[q]<;>rfl
  ·have F:6<=opN x.op.toList:=by
    simp only[qwe,sW,Qa,or_false]at z;rcases z with e|e|e|e|e|e|e<;>rw[e]<;>decide
   have d:uz tab l (.node i j x a c)=qwa (opN x.op.toList) (uz tab l a) (uz tab l c):=by
    rw[uz,if_neg ay,if_neg ay,if_neg ay,if_neg ay,if_neg ay]
   rw[d]at ht |-;obtain⟨ga,Q,_⟩:=jv9 ht;have b:((ky7 vars mt l ms st a).bind λp=>(ky7 vars mt l ms st c).bind λq=>(small p.1).bind λ_=>(small q.1).map λ_=>(kxv (opN x.op.toList) p.1 q.1,p.2||q.2))=some r:=by
    rw[ky7,if_neg ay,if_neg ay,if_neg ay,if_neg ay,if_neg ay]at hr;exact hr
   obtain⟨p,v,b⟩:=wQ.mp b;obtain⟨q,M,b⟩:=wQ.mp b;obtain⟨_,_,b⟩:=wQ.mp b;obtain⟨_,_,b⟩:=rJ.mp b;subst b;obtain⟨p',f,E⟩:=val_ok y A B a w.full C w.some aj ga;rw[v]at f;injection f with f;subst f;obtain⟨q',m,P⟩:=val_ok y A B c k.full K k.some aj Q;rw[M]at m;injection m with m;subst m;obtain⟨g,G,b1,N,X⟩:=qq7 y A B H I hN a w C aj ga p v;obtain⟨J,R,V,W,Y⟩:=qq7 y A B H I hN c k K aj Q q M;have hb:=pzt x.op.toList g J _ _ b1 N V W;refine⟨opI x.op.toList g J,?_,aj,aj,λO=>?_⟩
   ·show(qwu t l ms S a).bind (λp=>(qwu t l ms S c).bind λq=>opR t l ms S x p q)=_;rw[G,R];show opR t l ms S x (g,p.2) (J,q.2)=_;unfold opR;have u:∀o∈[oG,oP,oJ,oQ,(oK:List UInt8)],(x.op.toList==o)=false:=by
     intro o' L;rw[Qw];intro e;rw[e]at F;simp only[sW,Qa,or_false]at L;rcases L with rfl|rfl|rfl|rfl|rfl<;>exact absurd F ak
    rw[u _ au,u _ au,u _ au,u _ au,u _ au];simp only[wU,if_false];rw[kzu aj aj];show(small J).map _=_;rw[kzu aj aj];rfl
   ·have D:(p.2||q.2)=false:=O;rw[QY]at D;exact vyz z ht (E.mono (show 200*kjd a<=1000000 by omega)) (P.mono (show 200*kjd c<=1000000 by omega)) (X D.1) (Y D.2)
end Go.Proofs.YtpmcnonmkghokaaGreatDoor
namespace Go.Proofs.YtpmcnonmkghokaaGreatDoor
open Go.Proofs.Tryz
open Go.RowKit
variable {c:Bool}{L:List Tok}{s:List UInt8}{j:Nat}{st:RS}{x y:VT}
variable {t:PTree} {tab:Tab} {vars:List MVar} {mt:kq1} {ksz ssz:List UInt8->Nat} {size:Nat} {l:List PP} {ms st:List Int} {S:List (List Int)} {shv:Nat->Int}
def vww (t:PTree)(tab:Tab)(vars:List MVar)(mt:kq1):Prop:=∀s,(zl tab s).role=4->∃pv u,t.vars[(kj1 mt s).num]?=some pv/\vars[(kj1 mt s).num]?=some u /\
 ((kjv tab (zl tab s).var.si).fam=2->∀x:Int,kxo pv x=(decide (x<0)||decide ((u.texts.length:Int)<=x)))/\((kjv tab (zl tab s).var.si).fam≠2->∀x:Int,kxo pv x=false)
theorem RSt.put (h:RSt vars shv S st)(w:qqf vars){k:Nat}{u:MVar}(s:vars[k]?=some u){y:List Int}(t:S[k]?=some y)  (B:j<u.count)(A:u.first+u.count<=st.length)(x:Int):RSt vars shv (S.set k (y.set j (x-shv k))) (st.set (u.first+j) x):=by
 refine⟨by rw[Jv];exact h.1,λm v a=>?_⟩;obtain⟨z,b,c,d⟩:=h.2 m v a;have p:=(tZ.mp t).1;by_cases e:k=m
 ·subst e;rw[s]at a;injection a with a;subst a;rw[t]at b;injection b with b;subst b;refine⟨_,JD p,by rw[Jv];exact c,λi hi=>?_⟩;by_cases l:j=i
  ·subst l;exact⟨x,JD aj,JD aj⟩
  ·obtain⟨g,h1,f⟩:=d i hi;exact⟨g,by rw[JQ aj];exact h1,by rw[JQ l];exact f⟩
 ·refine⟨z,by rw[JQ e];exact b,c,λi hi=>?_⟩;obtain⟨g,h1,f⟩:=d i hi;refine⟨g,?_,f⟩;rw[JQ ?_]
  ·exact h1
  ·rcases w k m u v s a e with q|q<;>omega
theorem vw5 (T:EnvOk tab vars mt ksz ssz size)(hd:qqf vars)(W:ParOk ssz l ms)(H:kz2 vars size st)(Q:RSame t tab mt shv)(hT:vww t tab vars mt)(F:RSt vars shv S st)(hN:∀s,(zl tab s).role=4->fpB l s=false)(a:SLab)(x:ELab)(M:a.place=.node 0 0 x .nil .nil)(C:x.op.toList=oK)(V:x.index=zf\/(x.index.kind.toList==og)=true)(Z:isNil a.cond=true)
  (J:kza a.value) (hn:zqy a.value) (hz:kjd a.value<=4000) (i:zwx tab l a.place a.value=true) (r:List Int×Bool) (b:jvx vars mt l ms st x.name x.index a.value=some r):
  ∃S',jyu t l ms S a=some (S',r.2)/\(r.2=false->RSt vars shv S' r.1):=by
 rw[M]at i;obtain⟨d,c,P⟩:=jx2 i;rw[qv0 tab l x C]at c;rw[show kkp (.node 0 0 x .nil .nil)=x.name.text from rfl]at d;have L:(x.index.kind.toList==[])=false->(zl tab x.name.text.toList).var.arr=true/\qkh tab l x.index (zl tab x.name.text.toList).var.over=true:=λV=>by
  unfold kzh at c;rw[V]at c;cases A:(zl tab x.name.text.toList).var.arr
  ·rw[A]at c;exact absurd rfl c
  ·cases hx:qkh tab l x.index (zl tab x.name.text.toList).var.over
   ·rw[A,hx]at c;exact absurd rfl c
   ·first|exact⟨rfl,rfl⟩|exact⟨A,hx⟩
 have D:kzh tab l x.name x.index=kjv tab (zl tab x.name.text.toList).var.si:=by
  cases B:(x.index.kind.toList==[])
  ·obtain⟨h1,v⟩:=L B;unfold kzh;rw[B,h1,v];rfl
  ·have e:kzh tab l x.name x.index=kjc tab l x.name:=by unfold kzh;rw[B];rfl
   rw[e]at c |-;unfold kjc at c |-;rw[hN _ d,if_neg au,if_neg (by rw[d];decide)]at c |-;split at c
   ·rename_i h;rw[if_pos h]
   ·exact absurd rfl c
 obtain⟨u,j,w,I,g,hj,A,q,hq,a1,aA⟩:=jzx T W H Q F x.name x.index d V L;obtain⟨pv,u',a0,m,a4,a5⟩:=hT _ d;rw[I]at m;injection m with m;subst m;obtain⟨v1,v2,v3⟩:=Q.var _ d;obtain⟨p,E,k⟩:=val_ok T W H a.value J.full hn J.some hz P;obtain⟨X,a2,b1,b2,e1⟩:=qq7 T W H Q F hN a.value J hn hz P p E;unfold jvx at b;rw[E]at b;simp only[rC]at b;rw[I]at b;simp only[rC]at b;rw[A]at b;simp only[rC]at b;have R:jyu t l ms S a=if (p.2||w)||kxo pv X then some (S,true) else (S[(kj1 mt x.name.text.toList).num]?).bind λy=>if decide (q<0)||decide ((y.length:Int)<=q) then none else some (S.set (kj1 mt x.name.text.toList).num (y.set q.toNat X),false):=by
  unfold jyu;rw[M];dsimp only;rw[J.some,Z];simp only[Jt,Qk,wU,if_false];rw[a2];simp only[rC];rw[hq];simp only[rC];rw[if_neg aj,sJ,a0];rfl
 rw[R];cases z:(p.2||w)
 ·rw[QY]at z;have K:=e1 z.1;have eq:=a1 z.2;have O:shT (uz tab l a.value)=shv (kj1 mt x.name.text.toList).num:=by
   rw[v3,<-D,<-qv0 tab l x C];unfold zwx at i;rw[wW,Qu]at i;rcases i.2 with h|h
   ·unfold kkn at h;simp only[wW,rQ]at h;exact(zy4 h.1.1.1).symm
   ·simp only[wW,rQ]at h;unfold shT;rw[h.1,h.2];rfl
  have G:kxo pv X=(decide (p.1<0)||decide ((u.texts.length:Int)<=p.1)):=by
   by_cases f2:(kjv tab (zl tab x.name.text.toList).var.si).fam=2
   ·have:shT (kjv tab (zl tab x.name.text.toList).var.si)=0:=kxg (Or.inr f2);rw[a4 f2,K,O,v3,this,Jz]
   ·rw[a5 f2];have a3:0<=p.1/\p.1<(u.texts.length:Int):=by
     have U:(uz tab l a.value).fam=(kjv tab (zl tab x.name.text.toList).var.si).fam/\(uz tab l a.value).name.toList=(kjv tab (zl tab x.name.text.toList).var.si).name.toList\/(kjv tab (zl tab x.name.text.toList).var.si).fam=4/\(uz tab l a.value).fam=5:=by
      rw[<-D,<-qv0 tab l x C];unfold zwx at i;rw[wW,Qu]at i;rcases i.2 with h|h
      ·unfold kkn at h;simp only[wW,rQ]at h;exact Or.inl ⟨h.1.1.1.symm,h.1.1.2.symm⟩
      ·simp only[wW,rQ]at h;exact Or.inr h
     rcases U with⟨h1,v⟩|⟨h1,v⟩
     ·rcases pj9 tab (zl tab x.name.text.toList).var.si with f|f|f|f
      ·have:=k.tru (h1.trans f);have:=g.tru f;omega
      ·exact absurd f f2
      ·have:=k.kin (h1.trans f);have:=g.kin f;rw[v]at *;omega
      ·have:=k.set (h1.trans f);have:=g.set f;rw[v]at *;omega
     ·have:=k.non v;have:=g.set h1;omega
    rw[decide_eq_false aj,decide_eq_false aj];rfl
  rw[Qr,G];cases Y:(decide (p.1<0)||decide ((u.texts.length:Int)<=p.1))
  ·have a9:0<=p.1/\p.1<(u.texts.length:Int):=by simp at Y;omega
   have a7:=g.fit;have a8:=H.len;have a6:=g.few;rw[if_neg ay,if_neg ay]at b;injection b with b;subst b;obtain⟨y,hy,aB,_⟩:=F.2 _ _ I;rw[if_neg au,hy];simp only[rC];rw[eq,if_neg ay,sJ];refine⟨_,by rw[z.1,z.2];rfl,λ_=>?_⟩;show RSt vars shv _ (st.set ((u.first:Int)+(j:Nat)).toNat p.1);rw[show((u.first:Int)+(j:Nat)).toNat=u.first+j by omega,K,O];exact F.put hd I hy hj aj p.1
  ·rw[if_pos rfl];rw[if_pos (by simp at Y |-;omega)]at b;injection b with b;subst b;exact⟨S,rfl,λe=>kX⟩
 ·rw[Q9,if_pos rfl];have N:r.2=true:=by
   split at b
   ·injection b with b;rw[<-b]
   ·split at b
    ·cases b
    ·injection b with b;rw[<-b];exact z
  exact⟨S,by rw[N],λe=>by rw[N]at e;cases e⟩
end Go.Proofs.YtpmcnonmkghokaaGreatDoor
namespace Go.Proofs.YtpmcnonmkghokaaGreatDoor
open Go.Proofs.Tryz
open Go.RowKit
variable {c:Bool}{L:List Tok}{s:List UInt8}{j:Nat}{st:RS}{x y:VT}
variable {t:PTree} {tab:Tab} {vars:List MVar} {mt:kq1} {ksz ssz:List UInt8->Nat} {size:Nat} {l:List PP} {ms st:List Int} {S:List (List Int)} {shv:Nat->Int}
theorem vjs {x:ELab}{i: Nat}(h:kza (.node i j x .nil .nil))(a:x.op.toList=oK):x.index=zf\/(x.index.kind.toList==og)=true:=by
 rcases h with⟨b,_⟩|⟨h,_⟩|⟨h,_⟩
 ·rcases b with(h|h|h)|⟨h,_⟩|⟨_,_,h⟩
  ·rw[a]at h;cases h
  ·rw[a]at h;cases h
  ·rw[a]at h;cases h
  ·rw[a]at h;cases h
  ·exact h
 ·rw[a]at h;cases h
 ·rw[a]at h;exact absurd h ak
theorem zq7 (k:EnvOk tab vars mt ksz ssz size)(v:qqf vars)(m:ParOk ssz l ms)(A:RSame t tab mt shv)(C:vww t tab vars mt)(hN:∀s,(zl tab s).role=4->fpB l s=false):∀(b:PB),kxn b->zw9 b->kxr tab l b=true->∀st S,kz2 vars size st->RSt vars shv S st->∀r,doO vars mt l ms b st=some r ->
  ∃S',doR t l ms b S=some (S',r.2)/\(r.2=false->RSt vars shv S' r.1)
 |.nil,_,_,_,st,S,_,hS,r,d=>by
  rw[doO]at d;injection d with d;subst d;exact⟨S,rfl,λ_=>hS⟩
 |.node i j a .nil n,hw,hn,ht,st,S,hs,hS,r,d=>by
  obtain⟨⟨Y,x,z,D⟩,R,T,E⟩:=hw;obtain⟨⟨n1,F⟩,W⟩:=hn;rw[kxr,wW]at ht;rw[z]at Y;rw[doO,show kwx a.place=(x.name,x.index) by rw[z];rfl]at d;obtain⟨p,f,d⟩:=wQ.mp d;obtain⟨q,Q,d⟩:=rJ.mp d;subst d;have w:kz2 vars size p.1:=by
   obtain⟨p',h1,h2⟩:=vw4 k v m hs x a.value D R.full n1 R.some F (by rw[<-z];exact ht.1);rw[f]at h1;injection h1 with h1;rw[h1];exact h2
  obtain⟨u,e1,e2⟩:=vw5 k v m hs A C hS hN a x z D (vjs Y D) (by rw[T];rfl) R n1 F ht.1 p f;rw[doR,e1];simp only[rC];cases P:p.2
  ·rw[if_neg au];obtain⟨M,N,O⟩:=zq7 k v m A C hN n E W ht.2 p.1 u w (e2 P) q Q;exact⟨M,by rw[N,Qr],λh=>O iw⟩
  ·rw[if_pos rfl];exact⟨u,by rw[Q9],λh=>by simp at h⟩
 |.node i j a (.node _ _ _ th el) n,hw,hn,ht,st,S,hs,hS,r,d=>by
  obtain⟨G,_,_,⟨L,_⟩,⟨K,_⟩,E⟩:=hw;obtain⟨⟨n1,F⟩,Z,ne,nn⟩:=hn;rw[kxr,wW,wW,wW,rQ]at ht;obtain⟨⟨⟨H,t2⟩,t3⟩,t4⟩:=ht;rw[doO]at d;obtain⟨c,I,d⟩:=wQ.mp d;obtain⟨p,f,d⟩:=wQ.mp d;obtain⟨q,Q,d⟩:=rJ.mp d;subst d;obtain⟨c',y,V⟩:=val_ok k m hs a.cond G.full n1 G.some F (by rw[H];decide);rw[I]at y;injection y with y;subst y;have a0:=V.tru H;obtain⟨qc,X,_,_,e⟩:=qq7 k m hs A hS hN a.cond G n1 F (by rw[H];decide) c I;rw[doR,G.some,if_neg au,X];simp only[rC];cases P:c.2
  ·rw[if_neg au];have J:=e P;rw[kxg (Or.inl H),Jz]at J;subst J;have w:kz2 vars size p.1/\∃u,(if c.1==1 then doR t l ms th S else doR t l ms el S)=some (u,p.2)/\(p.2=false->RSt vars shv u p.1):=by
    cases h1:(c.1==1)
    ·rw[h1,if_neg au]at f;rw[if_neg au];obtain⟨p',g,B⟩:=zzd k v m el K.full ne t3 st hs;rw[f]at g;injection g with g;exact⟨by rw[g];exact B,zq7 k v m A C hN el K ne t3 st S hs hS p f⟩
    ·rw[h1,if_pos rfl]at f;rw[if_pos rfl];obtain⟨p',g,B⟩:=zzd k v m th L.full Z t2 st hs;rw[f]at g;injection g with g;exact⟨by rw[g];exact B,zq7 k v m A C hN th L Z t2 st S hs hS p f⟩
   obtain⟨w,u,g,B⟩:=w;rw[g];simp only[rC];cases U:p.2
   ·rw[if_neg au];obtain⟨M,N,O⟩:=zq7 k v m A C hN n E nn t4 p.1 u w (B U) q Q;exact⟨M,by rw[N];simp,λh=>O iw⟩
   ·rw[if_pos rfl];exact⟨u,au,λh=>by simp at h⟩
  ·rw[if_pos rfl];exact⟨S,au,λh=>by simp at h⟩
theorem vxc (k:EnvOk tab vars mt ksz ssz size)(J:qqf vars)(x:RIn)(u:ParOk ssz x.r.params x.ms)(v:kz2 vars size st)(w:RSame t tab mt shv)(I:vww t tab vars mt)(y:RSt vars shv S st)(hN:∀s,(zl tab s).role=4->fpB x.r.params s=false)(m:kza x.r.guard)(n1:zqy x.r.guard)(E:kjd x.r.guard<=4000)(g:(uz tab x.r.params x.r.guard).fam=1)(hb:kxn x.r.body)(z:zw9 x.r.body)(A:kxr tab x.r.params x.r.body=true)
  (r:List Int×Int) (a:kyb vars mt x.r.params x.ms st x.r.guard x.r.body=some r):∃S',zxl t S x=some (r.2,S')/\(r.2=1->RSt vars shv S' r.1)/\(r.2≠1->S'=S):=by
 unfold kyb at a;obtain⟨c,h,a⟩:=wQ.mp a;obtain⟨p,b,a⟩:=rJ.mp a;obtain⟨K,d,B⟩:=val_ok k u v x.r.guard m.full n1 m.some E (by rw[g];decide);rw[h]at d;injection d with d;subst d;have D:=B.tru g;obtain⟨L,C,_,_,e⟩:=qq7 k u v w y hN x.r.guard m n1 E (by rw[g];decide) c h;unfold zxl;rw[C];simp only[rC];cases l:c.2
 ·rw[if_neg au];have i:=e l;rw[kxg (Or.inl g),Jz]at i;subst i;rw[l,Qr]at a;cases h1:(c.1==1)
  ·rw[h1,if_neg au]at b;injection b with b;subst b;rw[h1]at a;have j:c.1=0:=by rw[Qw]at h1;rcases D with q|q;exact q;exact absurd q h1
   rw[j,if_pos ak];subst a;exact⟨S,rfl,λe=>gZ,λ_=>rfl⟩
  ·rw[h1,if_pos rfl]at b;rw[h1]at a;have j:c.1=1:=by simpa using h1
   rw[j,if_neg ak];obtain⟨F,G,H⟩:=zq7 k J u w I hN x.r.body hb z A st S v y p b;rw[G];cases f:p.2
   ·rw[f]at a;simp only[wU,if_false,if_true]at a;subst a;exact⟨F,au,λ_=>H f,λe=>absurd rfl e⟩
   ·rw[f]at a;simp only[if_true]at a;subst a;exact⟨S,au,λe=>gZ,λ_=>rfl⟩
 ·rw[if_pos rfl];rw[l,Q9]at a;simp only[if_true]at a;subst a;exact⟨S,rfl,λe=>gZ,λ_=>rfl⟩
end Go.Proofs.YtpmcnonmkghokaaGreatDoor
namespace Go.Proofs.YtpmcnonmkghokaaGreatDoor
open Go.Proofs.Tryz
open Go.RowKit
variable {c:Bool}{L:List Tok}{s:List UInt8}{j:Nat}{st:RS}{x y:VT}
variable {t:PTree} {tab:Tab} {vars:List MVar} {mt:kq1} {ksz ssz:List UInt8->Nat} {size:Nat} {st:List Int} {S:List (List Int)} {shv:Nat->Int}
structure Both (t:PTree)(tab:Tab)(vars:List MVar)(mt:kq1)(ksz ssz:List UInt8->Nat)(size:Nat)(shv:Nat->Int):Prop where
 env:EnvOk tab vars mt ksz ssz size
 disj:qqf vars
 same:RSame t tab mt shv
 top:vww t tab vars mt
structure qxp (tab:Tab)(ssz:List UInt8->Nat)(x:RIn):Prop where
 par:ParOk ssz x.r.params x.ms
 new:∀s,(zl tab s).role=4->fpB x.r.params s=false
 guard:kza x.r.guard
 num:zqy x.r.guard
 nod:kjd x.r.guard<=4000
 typ:(uz tab x.r.params x.r.guard).fam=1
 body:kxn x.r.body
 bnum:zw9 x.r.body
 btyp:kxr tab x.r.params x.r.body=true
def zzl (x:RIn):MStep:=qkx x.r x.ms
def vyw (x:RIn):MNever:=qj7 x.r x.ms
theorem qxp.same (h:Both t tab vars mt ksz ssz size shv){x:RIn}(a:qxp tab ssz x)(d:kz2 vars size st)(b:RSt vars shv S st)(r:List Int×Int)(c:kyb vars mt x.r.params x.ms st x.r.guard x.r.body=some r):∃S',zxl t S x=some (r.2,S')/\(r.2=1->RSt vars shv S' r.1)/\(r.2≠1->S'=S):=
 vxc h.env h.disj x a.par d h.same h.top b a.new a.guard a.num a.nod a.typ a.body a.bnum a.btyp r c
theorem vqp (h:Both t tab vars mt ksz ssz size shv)(g:kz2 vars size st)(f:RSt vars shv S st):∀(L:List RIn) (en b:List ByteArray) (r:List ByteArray×List ByteArray),(∀x∈L,qxp tab ssz x)->lkO vars mt st (L.map zzl) en b=some r->lkR t S L en b=some r
 |[],en,b,r,_,a=>a
 |x::L,en,b,r,hL,a=>by
  rw[Qh,lkO]at a;obtain⟨q,j,a⟩:=wQ.mp a;obtain⟨l,i,_,_⟩:=(hL x (rV ..)).same h g f q j;have e:=λen b=>vqp h g f L en b r (λy k=>hL y (rG _ k))
  rw[lkR,i];simp only[rC];split at a
  ·rename_i d;rw[if_pos d];exact e _ _ a
  ·rename_i d;rw[if_neg d];split at a
   ·rename_i c;rw[if_pos c];exact e _ _ a
   ·rename_i c;rw[if_neg c];exact e _ _ a
theorem vqd (h:Both t tab vars mt ksz ssz size shv)(g:kz2 vars size st)(i:RSt vars shv S st):∀(L:List RIn) (br r:List ByteArray),(∀x∈L,qxp tab ssz x)->lbO vars mt st (L.map vyw) br=some r->lbR t S L br=some r
 |[],br,r,_,b=>b
 |x::L,br,r,hL,b=>by
  rw[Qh,lbO]at b;obtain⟨q,p,b⟩:=wQ.mp b;have a:=hL x (rV ..);have l:=λbr=>vqd h g i L br r (λy s=>hL y (rG _ s))
  have f:jyj vars mt x.r.params x.ms st x.r.guard=some q:=p;unfold jyj at f;obtain⟨c,d,j⟩:=rJ.mp f;obtain⟨z,v,w⟩:=val_ok h.env a.par g x.r.guard a.guard.full a.num a.guard.some a.nod (by rw[a.typ];decide);obtain⟨u,k,_,_,e⟩:=qq7 h.env a.par g h.same i a.new x.r.guard a.guard a.num a.nod (by rw[a.typ];decide) c d;rw[lbR,k];simp only[rC];have hb:((u==1)||c.2)=q:=by
   rw[<-j];cases m:c.2
   ·have:=e m;rw[kxg (Or.inl a.typ),Jz]at this;rw[this]
   ·rw[Ju,Ju]
  rw[hb];split at b
  ·rename_i d;rw[if_pos d];exact l _ b
  ·rename_i d;rw[if_neg d];exact l _ b
end Go.Proofs.YtpmcnonmkghokaaGreatDoor

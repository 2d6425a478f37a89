import Derived.Test.YtpmcnonmkghokaaGreatDoorT17
set_option maxRecDepth 100000
set_option maxHeartbeats 4000000
set_option linter.unusedVariables false
set_option linter.unusedSimpArgs false
namespace Go.Proofs.YtpmcnonmkghokaaGreatDoor
open Go.Proofs.Tryz
open Go.RowKit
attribute [local go_sem ↓] Go.wp_at_zero Go.wp_at_succ
variable {l:List MStep}{bad:List Nat}{cs ds xs:List Value}{s:MStep}{M b e lo n size so:Nat}{fr:Nat×Nat}{x:Option Nat}{t:TypeId}{v x0 x1 x2 x3 x4 x5:Value}{a w w':World}
def qz1:List PSet->List UInt8->Option Nat
 |[],_=>none
 |x::l,s=>if x.name.text.toList==s then some 0 else (qz1 l s).map (·+1)
def kyq (l:List PSet)(s:List UInt8):Int:=match qz1 l s with|some k=>k|none=>-1
theorem zqs:∀(l:List PSet) (k:Nat) (s:List UInt8),(∀i (hi:i<l.length),i<k->(l[i].name.text.toList==s)=false)->k<=l.length->qz1 l s=(qz1 (l.drop k) s).map (·+k)
 |[],k,s,_,a=>by simp at a;subst a;simp[qz1]
 |x::l,0,s,_,_=>au
 |x::l,k+1,s,h,a=>by
  have b:=h 0 au aj;simp only[Qi]at b;have:=zqs l k s (λi hi a=>ig) lq;rw[qz1,b,J7,if_neg au,this,Option.map_map];rfl
theorem jjm (w:World)(lo u:Nat)(l:List PSet)(n:Tok)(xa:Option Addr)(xn xc:Nat)(I:w.ownsRow lo 111 4 (.slice xa xn xc) l.length (zwz l))(c:w.heap[u]?=some (.cells #[.string n.text,.int .i64 n.at_] 107 (0,0)))(P:l.length<=1000):
  qJ 169 #[.slice xa xn xc,.func (.func 170) #[] #[.pointer (some ⟨u,0,none⟩)]] w λe w'=>e=.returned (.int .i64 (kyq l n.text.toList))/\pU w w':=by
 obtain⟨S,T,q,b⟩:=ql I;injection q with q C D;subst q;subst C;subst D;have K:=pG b;have J:=pG c;have G:=wu c;clear b I c;go_enter func169,ntmps169
 go_wp2_with fail
 go_loopw [5,8] (λ_ i wr=>∃k:Nat,k<=l.length/\i=.int .i64 k/\(∀i (hi:i<l.length),i<k->(l[i].name.text.toList==n.text.toList)=false)/\pU w wr) (λ_ i _=>l.length-(intOf i).toNat)
 case atStart=>exact⟨0,rW _,rfl,λi _ h=>aj,Below.refl _ _⟩
 case round=>
  obtain⟨k,M,rfl,y,hb⟩:=hrel;have d:=pG y;have A:=pG hb;have z:=hb.size;obtain⟨Q,R,_,_⟩:=kj0 ((hb.block u G).trans (ku J));have N:u<wr.heap.size:=aj;clear y;by_cases t:k<l.length
  ·obtain⟨g,rfl,O,H,c⟩:=ku K k t;have s:=λj (E:j<4)=>xq qvs 4 (λ_=>rfl) l k j t E
   have m:∀j,j<l.length*4->wr.cell? ⟨g,j,none⟩=(zwz l)[j]?:=λj E=>(hb.cell (p:=⟨g,j,none⟩) H).trans (c j E)
   have L:=(m (k*4+0) aj).trans (s 0 aj);have q:=(m (k*4+1) aj).trans (s 1 aj);have C:=(m (k*4+2) aj).trans (s 2 aj);have D:=(m (k*4+3) aj).trans (s 3 aj);simp only[qvs,sZ,tu,sU]at L q C D;have a:=zqs l k n.text.toList (ku d) M;rw[rM t,qz1]at a;have f:=pG a;have x:=pG (λ(v:(l[k].name.text.toList==n.text.toList)=false)=>(show ∀i (hi:i<l.length),i<k+1->(l[i].name.text.toList==n.text.toList)=false from λi hi h=>by
    by_cases e:i=k
    ·subst e;exact v
    ·exact(ku d) i hi aj))
   generalize l[k]=p at *;clear m s c a hb;cases v:(p.name.text.toList==n.text.toList)
   ·have F:=pG ((ku x) v);clear f;go_wp2
    go_roundw
    case rel=>exact⟨k+1,aj,eu,ku F,(ku A).alloc z _⟩
    case measure=>exact qQ
   ·have B:=pG (show kyq l n.text.toList=k by rw[kyq,ku f,v];simp);clear f x;go_wp2
    go_ret
    exact⟨kqv (ku B).symm,(ku A).alloc z _⟩
  ·have a:=zqs l l.length n.text.toList (λi hi _=>(ku d) i hi aj) (wJ _);rw[Qd,qz1]at a;have B:=pG (show kyq l n.text.toList=-1 by rw[kyq,a];rfl);clear a hb;go_wp2
   go_ret
   exact⟨kqv (ku B).symm,ku A⟩
theorem qjw (w:World)(lo:Nat)(l:List PSet)(n:Tok)(b f g h i:Option Addr)(n0 n1 j k m c0 c1 c2 c3 c4:Nat)(u:w.ownsRow lo 111 4 (.slice b n0 c0) l.length (zwz l))(x:l.length<=1000):
  qJ 99 #[.agg #[.slice b n0 c0,.slice f n1 c1,.slice g j c2,.slice h k c3,.slice i m c4],ptV n] w λe w'=>e=.returned (.int .i64 (kyq l n.text.toList))/\pU w w':=by
 obtain⟨W,c⟩:∃W,W=(w.alloc (.cells #[.slice b n0 c0,.slice f n1 c1,.slice g j c2,.slice h k c3,.slice i m c4] 68)).alloc (.cells #[.string n.text,.int .i64 n.at_] 107):=⟨_,rfl⟩;have a:pU w W:=by rw[c];exact(below_alloc1 w _).trans ((below_alloc1 _ _).mono au)
 have hN:W.heap[w.heap.size+1]?=some (.cells #[.string n.text,.int .i64 n.at_] 107 (0,0)):=by
  rw[c];have:=qg (w.alloc (.cells #[.slice b n0 c0,.slice f n1 c1,.slice g j c2,.slice h k c3,.slice i m c4] 68)) (.cells #[.string n.text,.int .i64 n.at_] 107);simp only[tJ]at this;exact this
 have s:=pG (jjm W lo (w.heap.size+1) l n b n0 c0 (qj u a) hN x);have v:w.heap.size<=W.heap.size:=a.size;have q:=pG a;have t:=pG c.symm;clear u hN a c;generalize kyq l n.text.toList=y at *;unfold ptV;go_enter func99,ntmps99
 go_wp2_with fail
 rw[ku t];refine(ku s).mono ?_;rintro e z ⟨rfl,d⟩;have p:=pG ((ku q).trans (d.mono v));clear d s;go_wp2
 go_ret
 exact⟨rfl,ku p⟩
theorem qk2 (w:World)(lo:Nat)(l:List PSet)(n:Tok)(d f h i j:Option Addr)(n0 n1 q t u c0 c1 c2 c3 c4:Nat)(C:w.ownsRow lo 111 4 (.slice d n0 c0) l.length (zwz l))(O:l.length<=1000)(k:Nat)(I:qz1 l n.text.toList=some k)(s:PSet)(J:l[k]?=some s):
  qJ 97 #[.agg #[.slice d n0 c0,.slice f n1 c1,.slice h q c2,.slice i t c3,.slice j u c4],ptV n] w λe w'=>e=.returned (.int .i64 (kq8 s.size.text))/\pU w w':=by
 obtain⟨z,y⟩:=tZ.mp J;obtain⟨W,m⟩:∃W,W=(w.alloc (.cells #[.slice d n0 c0,.slice f n1 c1,.slice h q c2,.slice i t c3,.slice j u c4] 68)).alloc (.cells #[.string n.text,.int .i64 n.at_] 107):=⟨_,rfl⟩;have b:pU w W:=kZ;have a7:w.heap.size+1<W.heap.size:=by rw[m];simp
 have B:W.heap[w.heap.size]?=some (.cells #[.slice d n0 c0,.slice f n1 c1,.slice h q c2,.slice i t c3,.slice j u c4] 68 (0,0)):=by rw[m];exact zy (qg _ _)
 have hN:W.heap[w.heap.size+1]?=some (.cells #[.string n.text,.int .i64 n.at_] 107 (0,0)):=by
  rw[m];have:=qg (w.alloc (.cells #[.slice d n0 c0,.slice f n1 c1,.slice h q c2,.slice i t c3,.slice j u c4] 68)) (.cells #[.string n.text,.int .i64 n.at_] 107);simp only[tJ]at this;exact this
 have x:=pG (qjw W.drew lo l n d f h i j n0 n1 q t u c0 c1 c2 c3 c4 (qj C b.drew) O);rw[show kyq l n.text.toList=(k:Int) by rw[kyq,I]]at x;obtain⟨ya,yc,A,c⟩:=ql (qj C b);injection A with A M N;subst A;subst M;subst N;obtain⟨g,rfl,a5,H,G⟩:=c k z;have v:=(G (k*4+2) aj).trans (xq qvs 4 (λ_=>rfl) l k 2 z aj);simp only[qvs,sZ,tu]at v;rw[y]at v;obtain⟨R,S,T,U,V,_⟩:=jl B;obtain⟨P,Q,_,_⟩:=kj0 hN;have K:=pG B;have L:=pG hN;have E:=pG b;have F:=pG m.symm;have a6:g<W.heap.size:=H;clear c G C B hN b m J y I;unfold ptV at *;go_enter func97,ntmps97
 go_upto_region 1 with fail
 rw[ku F];go_region_held3 (λw'=>w'.cell? ⟨w.heap.size,0,none⟩=some (.slice (some ⟨g,0,none⟩) l.length c0)/\w'.cell? ⟨w.heap.size,1,none⟩=some (.slice f n1 c1)/\w'.cell? ⟨w.heap.size,2,none⟩=some (.slice h q c2)/\w'.cell? ⟨w.heap.size,3,none⟩=some (.slice i t c3)/\w'.cell? ⟨w.heap.size,4,none⟩=some (.slice j u c4)/\w'.cell? ⟨w.heap.size+1,0,none⟩=some (.string n.text)/\w'.cell? ⟨w.heap.size+1,1,none⟩=some (.int .i64 n.at_)/\w'.cell? ⟨g,k*4+2,none⟩=some (.int .i64 (kq8 s.size.text)))
  (first|exact⟨R,S,T,U,V,P,Q,v⟩|exact⟨X,Y,Z,u3,u4,v0,v1,z0⟩)
  ((go_at_call 99;refine(ku x).mono ?_;rintro e w1 ⟨rfl,a⟩;obtain⟨X,Y,Z,u3,u4,_⟩:=jl ((a.block w.heap.size (by show w.heap.size<W.heap.size;omega)).trans (ku K));obtain⟨v0,v1,_⟩:=kj0 ((a.block (w.heap.size+1) (by show w.heap.size+1<W.heap.size;omega)).trans (ku L));have z0:=(a.cell (p:=⟨g,k*4+2,none⟩) (by show g<W.heap.size;omega)).trans v;have D:=pG ((ku E).drew.trans (a.mono (by show w.heap.size<=W.heap.size;omega)));clear a;dsimp only))
 go_wp2
 go_ret
 exact⟨rfl,ku D⟩
theorem qjl (w:World)(f t:Int)(E:Nat)(n:Tok)(p q s u x:Option Addr)(n0 n1 B C D c0 c1 c2 c3 c4:Nat)(k:Nat)(G:k<=10)(d:(f==0&&k==2)=true\/(f==0)=false/\(f==1)=true/\t+1=k):
  qJ 98 #[.agg #[.slice p n0 c0,.slice q n1 c1,.slice s B c2,.slice u C c3,.slice x D c4],.agg #[.int .i64 f,.int .i64 t,.int .i64 E,.string n.text,.int .i64 n.at_]] w λe w'=>∃v,e=.returned v/\w'.ownsRow w.heap.size 9 1 v k ((kwn k).map Value.string)/\pU w w':=by
 obtain⟨W,l⟩:∃W,W=(w.alloc (.cells #[.slice p n0 c0,.slice q n1 c1,.slice s B c2,.slice u C c3,.slice x D c4] 68)).alloc (.cells #[.int .i64 f,.int .i64 t,.int .i64 E,.string n.text,.int .i64 n.at_] 119):=⟨_,rfl⟩;have b:pU w W:=by rw[l];exact(below_alloc1 w _).trans ((below_alloc1 _ _).mono au)
 have m:=pG (qxh k G W);have g:=pG b;have a:=b.size;have h:=pG l.symm;clear b l;rcases d with d|⟨F,h1,I⟩
 ·rw[wW]at d;obtain⟨F,y⟩:=d;have z:k=2:=by simpa using y
  subst z;clear y;go_enter func98,ntmps98
  go_wp2_with fail
  rw[ku h];refine(ku m).mono ?_;rintro e H ⟨v,rfl,c,hb⟩;have j:=pG (zu a c);have i:=pG ((ku g).trans (hb.mono a));clear c hb;go_wp2
  go_ret
  exact⟨_,rfl,ku j,ku i⟩
 ·have A:t=(k:Int)-1:=by omega
  subst A;go_enter func98,ntmps98
  go_wp2_with fail
  rw[ku h];refine(ku m).mono ?_;rintro e H ⟨v,rfl,c,hb⟩;have j:=pG (zu a c);have i:=pG ((ku g).trans (hb.mono a));clear c hb;go_wp2
  go_ret
  exact⟨_,rfl,ku j,ku i⟩
def kwa:List PKind->List UInt8->Option PKind
 |[],_=>none
 |x::l,s=>if x.name.text.toList==s then some x else kwa l s
theorem qvy:∀(l:List PKind) (k:Nat) (s:List UInt8),(∀i (hi:i<l.length),i<k->(l[i].name.text.toList==s)=false)->kwa l s=kwa (l.drop k) s
 |[],k,s,_=>au
 |x::l,0,s,_=>rfl
 |x::l,k+1,s,h=>by
  have a:=h 0 au aj;simp only[Qi]at a;rw[kwa,a,J7];exact qvy l k s (λi hi b=>ig)
theorem zzr (w:World)(lo:Nat)(f t:Int)(C:Nat)(n:Tok)(K y L M N:Option Addr)(n0 n1 P Q R c0 c1 c2 c3 c4:Nat)(ks:List PKind)(cs:List Value)(ho:w.ownsRow lo 114 3 (.slice y n1 c1) ks.length cs)(G:kxz lo w ks cs)(hl:ks.length<=1000)(H:∀x∈ks,x.members.length<=1000)(h0:(f==0)=false)(h1:(f==1)=false)(O:PKind)(F:kwa ks n.text.toList=some O):
  qJ 98 #[.agg #[.slice K n0 c0,.slice y n1 c1,.slice L P c2,.slice M Q c3,.slice N R c4],.agg #[.int .i64 f,.int .i64 t,.int .i64 C,.string n.text,.int .i64 n.at_]] w λe w'=>∃v,e=.returned v/\w'.ownsRow w.heap.size 9 1 v O.members.length (O.members.map (λt=>Value.string t.text))/\pU w w':=by
 obtain⟨W,m⟩:∃W,W=(w.alloc (.cells #[.slice K n0 c0,.slice y n1 c1,.slice L P c2,.slice M Q c3,.slice N R c4] 68)).alloc (.cells #[.int .i64 f,.int .i64 t,.int .i64 C,.string n.text,.int .i64 n.at_] 119):=⟨_,rfl⟩;have b:pU w W:=kZ;have a8:w.heap.size+1<W.heap.size:=by rw[m];simp
 have hS:W.heap[w.heap.size+1]?=some (.cells #[.int .i64 f,.int .i64 t,.int .i64 C,.string n.text,.int .i64 n.at_] 119 (0,0)):=by
  rw[m];have:=qg (w.alloc (.cells #[.slice K n0 c0,.slice y n1 c1,.slice L P c2,.slice M Q c3,.slice N R c4] 68)) (.cells #[.int .i64 f,.int .i64 t,.int .i64 C,.string n.text,.int .i64 n.at_] 119);simp only[tJ]at this;exact this
 obtain⟨ya,yc,A,c⟩:=ql (qj ho b);injection A with A e2 e3;subst A;subst e2;subst e3;have HW:=pG c;have V:=pG (show kxz lo W ks cs from G.stay λk _ hk=>b.block k hk);have HS:=pG hS;have U:=pG b;have a6:=pG m.symm;have D:=pG F;have X:=pG H;clear c ho G hS b m F H;go_enter func98,ntmps98
 go_wp2_with fail
 rw[ku a6];go_loopw [6,22] (λ_ i wr=>∃k:Nat,k<=ks.length/\i=.int .i64 k/\(∀i (hi:i<ks.length),i<k->(ks[i].name.text.toList==n.text.toList)=false)/\pU W wr) (λ_ i _=>ks.length-(intOf i).toNat)
 case atStart=>exact⟨0,rW _,rfl,λi _ h=>aj,Below.refl _ _⟩
 case round=>
  obtain⟨k,hk,rfl,I,hb⟩:=hrel;have l:=pG I;have S:=pG hb;have u:=hb.size;obtain⟨m0,m1,m2,m3,m4,_⟩:=jl ((hb.block (w.heap.size+1) a8).trans (ku HS));have a9:w.heap.size+1<wr.heap.size:=aj;clear I;have q:k<ks.length:=by
   apply tK;intro aB;have:=(qvy ks ks.length n.text.toList (λi hi _=>(ku l) i hi aj)).symm.trans (ku D);rw[Qd,kwa]at this;cases this
  obtain⟨g,rfl,aA,a7,hc⟩:=ku HW k q;obtain⟨ma,mn,mc,s0,s1,s2,s⟩:=zv8 k q (ku V);have z:∀j,j<ks.length*3->wr.cell? ⟨g,j,none⟩=cs[j]?:=λj hj=>(hb.cell (p:=⟨g,j,none⟩) a7).trans (hc j hj)
  have e0:=(z (k*3) aj).trans s0;have A:=(z (k*3+1) aj).trans s1;have e2:=(z (k*3+2) aj).trans s2;have a:=(qvy ks k n.text.toList (ku l)).symm.trans (ku D);rw[rM q,kwa]at a;have a5:=pG (λ(B:(ks[k].name.text.toList==n.text.toList)=false)=>(show ∀i (hi:i<ks.length),i<k+1->(ks[i].name.text.toList==n.text.toList)=false from λi hi h=>by
   by_cases e:i=k
   ·subst e;exact B
   ·exact(ku l) i hi aj))
  have d:=pG (zzo (wr.alloc (.cells #[.string ks[k].name.text,.int .i64 ks[k].name.at_,.slice ma mn mc] 114)) lo ks[k].members ks[k].name ma mn mc (qj s (hb.alloc u _)) ((ku X) _ (wX _)));generalize ks[k]=p at *;clear z hc hb s s0 s1 s2;cases B:(p.name.text.toList==n.text.toList)
  ·have Z:=pG ((ku a5) B);clear a d;go_wp2
   go_roundw
   case rel=>exact⟨k+1,aj,eu,ku Z,(ku S).alloc u _⟩
   case measure=>exact qQ
  ·rw[B,if_pos rfl]at a;injection a with a;subst a;go_wp2_with fail
   refine(ku d).mono ?_;rintro e w2 ⟨v,rfl,J,E⟩;have Y:=pG (zu ay J:w2.ownsRow w.heap.size 9 1 v _ _);have T:=pG ((ku U).trans ((((ku S).alloc u _).mono aj).trans (E.mono ay)));clear J E d;go_wp2
   go_ret
   exact⟨_,rfl,ku Y,ku T⟩
theorem zxc (w:World)(lo:Nat)(f t:Int)(P:Nat)(n:Tok)(A B D E F:Option Addr)(n0 n1 J K L c0 c1 c2 c3 c4:Nat)(ks:List PKind)(cs:List Value)(ho:w.ownsRow lo 114 3 (.slice B n1 c1) ks.length cs)(X:kxz lo w ks cs)(hl:ks.length<=1000)(ss:List PSet)(Z:w.ownsRow lo 111 4 (.slice A n0 c0) ss.length (zwz ss))(aQ:ss.length<=1000)(j:Nat)(O:qz1 ss n.text.toList=some j)(sx:PSet)(a7:ss[j]?=some sx)(m:Nat)(hm:kq8 sx.size.text=m)(a9:m<=10)(h0:(f==0)=false)(h1:(f==1)=false)(V:kwa ks n.text.toList=none):
  qJ 98 #[.agg #[.slice A n0 c0,.slice B n1 c1,.slice D J c2,.slice E K c3,.slice F L c4],.agg #[.int .i64 f,.int .i64 t,.int .i64 P,.string n.text,.int .i64 n.at_]] w λe w'=>∃v,e=.returned v/\w'.ownsRow w.heap.size 9 1 v (m+1) (Value.string ⟨#[45]⟩::(kwn m).map Value.string)/\pU w w':=by
 obtain⟨W,C⟩:∃W,W=(w.alloc (.cells #[.slice A n0 c0,.slice B n1 c1,.slice D J c2,.slice E K c3,.slice F L c4] 68)).alloc (.cells #[.int .i64 f,.int .i64 t,.int .i64 P,.string n.text,.int .i64 n.at_] 119):=⟨_,rfl⟩;have s:pU w W:=by rw[C];exact(below_alloc1 w _).trans ((below_alloc1 _ _).mono au)
 have aP:w.heap.size+1<W.heap.size:=by rw[C];simp
 have hS:W.heap[w.heap.size+1]?=some (.cells #[.int .i64 f,.int .i64 t,.int .i64 P,.string n.text,.int .i64 n.at_] 119 (0,0)):=by
  rw[C];have:=qg (w.alloc (.cells #[.slice A n0 c0,.slice B n1 c1,.slice D J c2,.slice E K c3,.slice F L c4] 68)) (.cells #[.int .i64 f,.int .i64 t,.int .i64 P,.string n.text,.int .i64 n.at_] 119);simp only[tJ]at this;exact this
 obtain⟨ya,yc,N,z⟩:=ql (qj ho s);injection N with N e2 e3;subst N;subst e2;subst e3;have HW:=pG z;have aH:=pG (show kxz lo W ks cs from X.stay λk _ hk=>s.block k hk);have HS:=pG hS;have aE:=pG s;have aL:=pG C.symm;have aG:=pG V;have hD:W.heap[w.heap.size]?=some (.cells #[.slice A n0 c0,.slice B ks.length c1,.slice D J c2,.slice E K c3,.slice F L c4] 68 (0,0)):=by rw[C];exact zy (qg _ _)
 have HD:=pG hD;have U:=pG (λ(wx:World) (hb:pU w wx)=>qk2 wx lo ss n A B D E F n0 ks.length J K L c0 c1 c2 c3 c4 (qj Z hb) aQ j O sx a7);rw[hm]at U;obtain⟨i0,hi,aS,aT,aU⟩:=info_parts infoStr0;clear z ho X hS s C V hD Z a7 O;go_enter func98,ntmps98
 go_wp2_with fail
 rw[ku aL];go_loopw [6,22] (λ_ i wr=>∃k:Nat,k<=ks.length/\i=.int .i64 k/\(∀i (hi:i<ks.length),i<k->(ks[i].name.text.toList==n.text.toList)=false)/\pU W wr) (λ_ i _=>ks.length-(intOf i).toNat)
 case atStart=>exact⟨0,rW _,rfl,λi _ h=>aj,Below.refl _ _⟩
 case round=>
  obtain⟨k,hk,rfl,Y,hb⟩:=hrel;have R:=pG Y;have HB:=pG hb;have aR:=hb.size;obtain⟨m0,m1,m2,m3,m4,_⟩:=jl ((hb.block (w.heap.size+1) aP).trans (ku HS));have aV:w.heap.size+1<wr.heap.size:=aj;clear Y;by_cases H:k<ks.length
  ·obtain⟨g,rfl,aW,aM,hc⟩:=ku HW k H;obtain⟨ma,mn,mc,s0,s1,s2,aA⟩:=zv8 k H (ku aH);have M:∀j,j<ks.length*3->wr.cell? ⟨g,j,none⟩=cs[j]?:=λj O=>(hb.cell (p:=⟨g,j,none⟩) aM).trans (hc j O)
   have e0:=(M (k*3) aj).trans s0;have N:=(M (k*3+1) aj).trans s1;have e2:=(M (k*3+2) aj).trans s2;have u:=(qvy ks k n.text.toList (ku R)).symm.trans (ku aG);rw[rM H,kwa]at u;have T:=pG (λ(hq:(ks[k].name.text.toList==n.text.toList)=false)=>(show ∀i (hi:i<ks.length),i<k+1->(ks[i].name.text.toList==n.text.toList)=false from λi hi h=>by
    by_cases e:i=k
    ·subst e;exact hq
    ·exact(ku R) i hi aj))
   have aN:(ks[k].name.text.toList==n.text.toList)=false:=by
    cases hq:(ks[k].name.text.toList==n.text.toList)
    ·rfl
    ·rw[hq,if_pos rfl]at u;cases u
   have aK:=pG ((ku T) aN);generalize ks[k]=p at *;clear M hc hb aA s0 s1 s2 u T;go_wp2
   go_roundw
   case rel=>exact⟨k+1,aj,eu,ku aK,(ku HB).alloc aR _⟩
   case measure=>exact qQ
  ·obtain⟨q0,q1,q2,q3,q4,_⟩:=jl ((hb.block w.heap.size aj).trans (ku HD));have aY:w.heap.size<wr.heap.size:=aj;have G:pU w wr:=(ku aE).trans (hb.mono aj);have c:=pG ((ku U) (wr.alloc (.cells #[.string ⟨#[45]⟩] 9)) (G.alloc aj _));have aF:=pG G;unfold ptV at c;clear hb G;go_wp2_with fail
   refine(ku c).mono ?_;rintro e w2 ⟨rfl,l⟩;have aO:=l.size;have d:=pG (qj (show(wr.alloc (.cells #[.string ⟨#[45]⟩] 9)).ownsRow w.heap.size 9 1 (.slice (some ⟨wr.heap.size,0,none⟩) 1 1) 1 [.string ⟨#[45]⟩] from⟨rfl,Or.inr ⟨wr.heap.size,1,_,rfl,aj,qg _ _,wJ _,gW,rfl,rfl⟩⟩) l);have aB:=pG (((ku aF).alloc aj _).trans (l.mono ay));have S:=pG (qxh m a9 w2);simp at aO;clear l c;go_wp2_with fail
   refine(ku S).mono ?_;rintro e w3 ⟨v3,rfl,I,q⟩;have aX:=q.size;obtain⟨a5,l5,c5,rfl⟩:=zq I;have Q:=pG (qj (ku d) q);have aC:=pG ((ku aB).trans (q.mono aj));have aI:=pG I;clear I q S d;go_wp2_with (at_builtin;refine kqd rfl _ _ 22 rfl w.heap.size 9 i0 _ 1 16 underlying22 hi aS aT aU rfl ak (.slice (some ⟨wr.heap.size,0,none⟩) 1 1) 1 _ rfl (ku Q) (.slice a5 l5 c5) m _ _ rfl (ku aI) (by intro y hy;obtain⟨x,_,rfl⟩:=Qj.mp hy;rfl) gW aj aj ?_)
   intro v4 w4 a b a8;obtain⟨a6,l6,c6,rfl⟩:=zq a;have aJ:=pG (show w4.ownsRow w.heap.size 9 1 (.slice a6 l6 c6) (m+1) (Value.string ⟨#[45]⟩::(kwn m).map Value.string) by rw[ZG m 1];exact a);have aD:=pG ((ku aC).grown b aj (xg (ku Q)));clear a b a8;go_wp2
   go_ret
   exact⟨_,rfl,ku aJ,ku aD⟩
end Go.Proofs.YtpmcnonmkghokaaGreatDoor
namespace Go.Proofs.YtpmcnonmkghokaaGreatDoor
open Go.Proofs.Tryz
open Go.RowKit
variable {l:List MStep}{bad:List Nat}{cs ds xs:List Value}{s:MStep}{M b e lo n size so:Nat}{fr:Nat×Nat}{x:Option Nat}{t:TypeId}{v x0 x1 x2 x3 x4 x5:Value}{a w w':World}
structure Tk (x:Option Nat)(bad:List Nat)(w w':World):Prop where
 os:w'.os=w.os
 tape:w'.tape=w.tape
 output:w'.output=w.output
 size:w.heap.size<=w'.heap.size
 block:∀k o,w.heap[k]?=some o->x≠some k->(∀cs e fr,o=.cells cs e fr->e∉bad)->w'.heap[k]?=some o
theorem Tk.refl (x:Option Nat)(bad:List Nat)(w:World):Tk x bad w w:=⟨rfl,rfl,rfl,wJ _,λ_ _ h _ _=>h⟩
theorem Tk.trans {b c: World}(h:Tk x bad a b)(k:Tk x bad b c):Tk x bad a c:=
 ⟨k.os.trans h.os,k.tape.trans h.tape,k.output.trans h.output,rU h.size k.size,λi o h1 d e=>k.block i o (h.block i o h1 d e) d e⟩
theorem Tk.wide {a: List Nat}  (h:Tk x bad w w')(g:∀e∈bad,e∈a):Tk x a w w':=
 ⟨h.os,h.tape,h.output,h.size,λi o h1 b c=>h.block i o h1 b λcs e fr d f=>c cs e fr d (g e f)⟩
theorem Tk.any (h:Tk none bad w w')(x:Option Nat):Tk x bad w w':=
 ⟨h.os,h.tape,h.output,h.size,λi o h1 _ a=>h.block i o h1 au a⟩
theorem kqg (h:pU w w')(x:Option Nat)(bad:List Nat):Tk x bad w w':=
 ⟨h.os,h.tape,h.output,h.size,λi o h1 _ _=>(h.block i (wu h1)).trans h1⟩
theorem kjk (j:w.ownsRow lo e size v n xs)(b:w.grownBy w' v.ownBlock)(h:e∈bad):Tk x bad w w':=
 ⟨b.os,b.tape,b.output,b.size,λi o h1 _ f=>by
  rw[b.block i (wu h1) (λa=>?_)]
  ·exact h1
  ·rcases j.2 with⟨c,_⟩|⟨g,cap,k,c,_,d,_⟩
   ·rw[c]at a;cases a
   ·rw[c]at a;injection a with a;subst a;rw[d]at h1;injection h1 with h1;exact f _ _ _ h1.symm h⟩
theorem kxa {cs:Array Value}    (hM:w.heap[M]?=some (.cells cs e fr))(c:e∈bad)(j:Nat)(v:Value):Tk x bad w (w.setCell ⟨M,j,none⟩ v):=
 ⟨rfl,rfl,rfl,by simp[World.setCell],λi o h1 _ b=>by
  rw[wP _ _ _ _ (λa=>?_)]
  ·exact h1
  ·subst a;rw[hM]at h1;injection h1 with h1;exact b _ _ _ h1.symm c⟩
theorem Tk.alloc (h:Tk x bad a w)(o:Obj):Tk x bad a (w.alloc o):=h.trans (kqg (below_alloc1 w o) x bad)
theorem Tk.drew (h:Tk x bad a w):Tk x bad a w.drew:=⟨h.os,h.tape,h.output,h.size,h.block⟩
theorem Tk.row {cs:Array Value}  (h:Tk x bad w w')(hb:w.heap[b]?=some (.cells cs e fr))(g:x≠some b)(d:e∉bad):w'.heap[b]?=some (.cells cs e fr):=
 h.block b _ hb g λcs' j i a f=>by injection a with _ c;subst c;exact d f
def dw (w:World)(x:Option Nat):Prop:=∀k cs e fr,x=some k->w.heap[k]?≠some (.cells cs e fr)
theorem dw.none (w:World):dw w none:=λ_ _ _ _ e=>kX
theorem kk1.no {t:kq1}(h:kk1 w b t):dw w (some b):=λk cs e fr a h1=>by
 injection a with a;subst a;obtain⟨⟨es,c,d,_⟩,_⟩:=h;rw[d]at h1;cases h1
theorem jw (h:w.ownsRow lo e size v n xs)(l:Tk x bad w w')(m:dw w x)(j:e∉bad):w'.ownsRow lo e size v n xs:=by
 refine⟨h.1,?_⟩;rcases h.2 with k|⟨g,cap,a,c,d,b,f⟩
 ·exact Or.inl k
 ·exact Or.inr ⟨g,cap,a,c,d,l.row b (λi=>m _ _ _ _ i b) j,f⟩
theorem XIs.tk {lo:Nat}{w w':World}{x:Option Nat}{bad:List Nat}(b:Tk x bad w w')(c:dw w x)(a:358∉bad):∀{y:PX} {v:Value},XIs lo w y v->XIs lo w' y v
 |.nil,_,h=>h
 |.node _ _ _ _ _,_,⟨k,va,vb,e,hn,hh,ha,hb⟩=>⟨k,va,vb,e,hn,b.row hh (λd=>c _ _ _ _ d hh) a,ha.tk b c a,hb.tk b c a⟩
theorem BIs.tk {lo:Nat}{no:Option Nat}{w w':World}{x:Option Nat}{bad:List Nat}(d:Tk x bad w w')(f:dw w x)(g:358∉bad)(c:334∉bad):∀{b:PB} {xs:List Value},BIs lo no w b xs->BIs lo no w' b xs
 |.nil,_,h=>h
 |.node _ _ a .nil n,cs,⟨p,rest,e,h1,hn⟩=>⟨p,rest,e,h1.tk d f g,BIs.tk d f g c hn⟩
 |.node _ _ a (.node _ _ _ t e) n,cs,⟨p,ta,tn,tc,ea,en,ec,ct,ce,rest,e1,h1,⟨ht1,ht3,ht2⟩,⟨he1,he3,hee2⟩,hn⟩=>
  ⟨p,ta,tn,tc,ea,en,ec,ct,ce,rest,e1,h1.tk d f g,⟨jw ht1 d f c,ht3,BIs.tk d f g c ht2⟩,⟨jw he1 d f c,he3,BIs.tk d f g c hee2⟩,BIs.tk d f g c hn⟩
theorem kxz.tk {lo:Nat}{w w':World}{x:Option Nat}{bad:List Nat}(b:Tk x bad w w')(c:dw w x)(a:107∉bad):∀{ks:List PKind} {cs:List Value},kxz lo w ks cs->kxz lo w' ks cs
 |[],_,h=>h
 |k::ks,_,⟨ma,mn,mc,rest,e,h1,h2⟩=>⟨ma,mn,mc,rest,e,jw h1 b c a,kxz.tk b c a h2⟩
def qxx:List Nat:=[111,114,107,121,127,130,352,334,358]
theorem kxq.tk {lo:Nat}{w w':World}{x:Option Nat}{bad:List Nat}(b:Tk x bad w w')(c:dw w x)(a:∀e∈qxx,e∉bad):∀{rs:List PRule} {cs:List Value},kxq lo w rs cs->kxq lo w' rs cs
 |[],_,h=>h
 |r::rs,_,⟨pa,pn,pc,gp,ba,bn,bc,bcs,rest,e,h1,h2,h3,h4,h5⟩=>⟨pa,pn,pc,gp,ba,bn,bc,bcs,rest,e,jw h1 b c (a _ ak),h2.tk b c (a _ ak),jw h3 b c (a _ ak),h4.tk b c (a _ ak) (a _ ak),kxq.tk b c a h5⟩
theorem kxj.tk {lo:Nat}{w w':World}{x:Option Nat}{bad:List Nat}(b:Tk x bad w w')(c:dw w x)(a:∀e∈qxx,e∉bad):∀{rs:List PRule} {cs:List Value},kxj lo w rs cs->kxj lo w' rs cs
 |[],_,h=>h
 |r::rs,_,⟨pa,pn,pc,gp,rest,e,h1,h2,h5⟩=>⟨pa,pn,pc,gp,rest,e,jw h1 b c (a _ ak),h2.tk b c (a _ ak),kxj.tk b c a h5⟩
theorem kvm.tk {m:MdL}   (h:kvm lo w x0 x1 x2 x3 x4 m)(b:Tk x bad w w')(c:dw w x)(a:∀e∈qxx,e∉bad):kvm lo w' x0 x1 x2 x3 x4 m:=by
 obtain⟨d,⟨c1,h1,k1⟩,f,⟨c3,g,k3⟩,⟨c4,i,k4⟩⟩:=h;exact⟨jw d b c (a _ ak),⟨c1,jw h1 b c (a _ ak),k1.tk b c (a _ ak)⟩,jw f b c (a _ ak),⟨c3,jw g b c (a _ ak),k3.tk b c a⟩,⟨c4,jw i b c (a _ ak),k4.tk b c a⟩⟩
theorem qzo.tk {lo:Nat}{w w':World}{x:Option Nat}{bad:List Nat}(b:Tk x bad w w')(c:dw w x)(a:9∉bad):∀{vs:List MVar} {cs:List Value},qzo lo w vs cs->qzo lo w' vs cs
 |[],_,h=>h
 |v::vs,cs,⟨ta,tc,rest,e,h1,h2⟩=>⟨ta,tc,rest,e,jw h1 b c a,qzo.tk b c a h2⟩
theorem qzo.app {lo:Nat}{w:World}:∀{vs us:List MVar} {cs ds:List Value},qzo lo w vs cs->qzo lo w us ds->qzo lo w (vs++us) (cs++ds)
 |[],_,cs,ds,h,h'=>by
  have:cs=[]:=h;subst this;exact h'
 |v::vs,_,cs,ds,⟨ta,tc,rest,e,h1,h2⟩,h'=>⟨ta,tc,rest++ds,lK,h1,h2.app h'⟩
theorem kk1.tk {t:kq1}   (h:kk1 w b t)(f:Tk x bad w w')(g:x≠some b):kk1 w' b t:=by
 obtain⟨⟨es,c,h1,a⟩,d⟩:=h;exact⟨⟨es,c,f.block b _ h1 g (λ_ _ _ e=>kX),a⟩,d⟩
theorem qy2.tk (h:qy2 lo so w M s cs)(b:Tk x bad w w')(c:dw w x)(a:∀e∈qxx,e∉bad)(hi:3∉bad):qy2 lo so w' M s cs:=by
 obtain⟨pa,pn,pc,j,k,mc,p,ba,bn,bc,bs,no,e,h1,d,f,g,i⟩:=h;exact⟨pa,pn,pc,j,k,mc,p,ba,bn,bc,bs,no,e,jw h1 b c (a _ ak),jw d b c hi,f.tk b c (a _ ak),jw g b c (a _ ak),i.tk b c (a _ ak) (a _ ak)⟩
theorem kw3.tk (h:kw3 lo so w M l cs)(b:Tk x bad w w')(d:dw w x)(a:∀e∈qxx,e∉bad)(hi:3∉bad):kw3 lo so w' M l cs:=
 ⟨h.1,λk c=>(h.2 k c).tk b d a hi⟩
theorem kw3.snoc (h:kw3 lo so w M l cs)(d:qy2 lo so w M s ds)(b:ds.length=6):kw3 lo so w M (l++[s]) (cs++ds):=by
 refine⟨by simp[h.1,b];omega,λk c=>?_⟩;by_cases a:k<l.length
 ·have e:=h.1;rw[Jo aj,Jf ay,QX a];exact h.2 k a
 ·have:k=l.length:=by simp at c;omega
  subst this;rw[<-h.1,Zx,Jw aj];simpa using d
def zw3 (lo so:Nat)(w:World)(M:Nat)(s:MNever)(cs:List Value):Prop:=
 ∃pa pn pc ma mn mc p,cs=[.string s.text,.pointer (some ⟨M,0,none⟩),.slice pa pn pc,.slice ma mn mc,.pointer p]/\w.ownsRow lo 352 4 (.slice pa pn pc) s.params.length (xu s.params)/\w.ownsRow lo 3 1 (.slice ma mn mc) s.mems.length (s.mems.map (Value.int .i64))/\XIs so w s.expr (.pointer p)
theorem zw3.tk {s:MNever}    (h:zw3 lo so w M s cs)(a:Tk x bad w w')(b:dw w x)(c:∀e∈qxx,e∉bad)(hi:3∉bad):zw3 lo so w' M s cs:=by
 obtain⟨pa,pn,pc,g,i,mc,p,e,h1,d,f⟩:=h;exact⟨pa,pn,pc,g,i,mc,p,e,jw h1 a b (c _ ak),jw d a b hi,f.tk a b (c _ ak)⟩
def qjt (lo so:Nat)(w:World)(M:Nat)(l:List MNever)(cs:List Value):Prop:=cs.length=l.length*5/\∀k (hk:k<l.length),zw3 lo so w M l[k] ((cs.drop (k*5)).take 5)
theorem qjt.tk {l:List MNever}    (h:qjt lo so w M l cs)(b:Tk x bad w w')(d:dw w x)(a:∀e∈qxx,e∉bad)(hi:3∉bad):qjt lo so w' M l cs:=
 ⟨h.1,λk c=>(h.2 k c).tk b d a hi⟩
theorem qjt.snoc {l:List MNever}{s:MNever}  (h:qjt lo so w M l cs)(d:zw3 lo so w M s ds)(b:ds.length=5):qjt lo so w M (l++[s]) (cs++ds):=by
 refine⟨by simp[h.1,b];omega,λk c=>?_⟩;by_cases a:k<l.length
 ·have e:=h.1;rw[Jo aj,Jf ay,QX a];exact h.2 k a
 ·have:k=l.length:=by simp at c;omega
  subst this;rw[<-h.1,Zx,Jw aj];simpa using d
theorem pzf (h:w.heap[b]?=some (.cells #[x0,x1,x2,x3,x4,x5] t (0,0)))(a:Value):(w.setCell ⟨b,0,none⟩ a).heap[b]?=some (.cells #[a,x1,x2,x3,x4,x5] t (0,0)):=heap_setCell_same _ b 0 _ _ _ h
theorem pzs (h:w.heap[b]?=some (.cells #[x0,x1,x2,x3,x4,x5] t (0,0)))(a:Value):(w.setCell ⟨b,1,none⟩ a).heap[b]?=some (.cells #[x0,a,x2,x3,x4,x5] t (0,0)):=heap_setCell_same _ b 1 _ _ _ h
theorem pzl (h:w.heap[b]?=some (.cells #[x0,x1,x2,x3,x4,x5] t (0,0)))(a:Value):(w.setCell ⟨b,2,none⟩ a).heap[b]?=some (.cells #[x0,x1,a,x3,x4,x5] t (0,0)):=heap_setCell_same _ b 2 _ _ _ h
theorem pqk (h:w.heap[b]?=some (.cells #[x0,x1,x2,x3,x4,x5] t (0,0)))(a:Value):(w.setCell ⟨b,3,none⟩ a).heap[b]?=some (.cells #[x0,x1,x2,a,x4,x5] t (0,0)):=heap_setCell_same _ b 3 _ _ _ h
theorem pzn (h:w.heap[b]?=some (.cells #[x0,x1,x2,x3,x4,x5] t (0,0)))(a:Value):(w.setCell ⟨b,5,none⟩ a).heap[b]?=some (.cells #[x0,x1,x2,x3,x4,a] t (0,0)):=heap_setCell_same _ b 5 _ _ _ h
structure kz8 (lo so:Nat)(w:World)(M nb:Nat)(steps:List MStep)(nevers:List MNever)(sets:List Int)(vars:List MVar)(tab:kq1)(size:Nat)(sv nv tv vv:Value):Prop where
 row:w.heap[M]?=some (.cells #[sv,nv,tv,vv,.map (some nb),.int .i64 size] 105 (0,0))
 steps:∃cs,w.ownsRow lo 178 6 sv steps.length cs/\kw3 0 so w M steps cs
 nevers:∃cs,w.ownsRow lo 208 5 nv nevers.length cs/\qjt 0 so w M nevers cs
 sets:w.ownsRow lo 3 1 tv sets.length (sets.map (Value.int .i64))
 vars:∃cs,w.ownsRow lo 213 5 vv vars.length cs/\qzo 0 w vars cs
 tab:kk1 w nb tab
 hM:lo<=M
 hN:lo<=nb
theorem kz8.below {nb: Nat}{steps:List MStep}{nevers:List MNever}{sets:List Int}{vars:List MVar}{tab:kq1}  {sv nv tv vv:Value}(h:kz8 lo so w M nb steps nevers sets vars tab size sv nv tv vv)(hb:pU w w'):kz8 lo so w' M nb steps nevers sets vars tab size sv nv tv vv:=by
 have a:=kqg hb none [];have b:=dw.none w;obtain⟨c,⟨c1,h1,k1⟩,⟨c2,d,k2⟩,e,⟨c4,f,k4⟩,g,i,j⟩:=h;exact⟨(hb.block M (wu c)).trans c,⟨c1,qj h1 hb,k1.tk a b au au⟩,⟨c2,qj d hb,k2.tk a b au au⟩,qj e hb,⟨c4,qj f hb,k4.tk a b au⟩,g.tk a au,i,j⟩
end Go.Proofs.YtpmcnonmkghokaaGreatDoor
namespace Go.Proofs.YtpmcnonmkghokaaGreatDoor
open Go.Proofs.Tryz
open Go.RowKit
attribute [local go_sem ↓] Go.wp_at_zero Go.wp_at_succ
variable {l:List MStep}{bad:List Nat}{cs ds xs:List Value}{s:MStep}{M b e lo n size so:Nat}{fr:Nat×Nat}{x:Option Nat}{t:TypeId}{v x0 x1 x2 x3 x4 x5:Value}{a w w':World}
def jjl (t:ByteArray):Option Nat:=if 0<=kq8 t/\kq8 t<=9 then some (kq8 t).toNat else none
theorem zjd {t:ByteArray}  (h:jjl t=some n):kq8 t=n/\n<=9:=by
 unfold jjl at h;split at h
 ·injection h with h;subst h;omega
 ·cases h
def qx3 (ss:List PSet)(s:List UInt8):Option Nat:=(qz1 ss s).bind λk=>(ss[k]?).bind λx=>jjl x.size.text
theorem kwb {ss:List PSet}{s:List UInt8}  (h:qx3 ss s=some n):∃k x,qz1 ss s=some k/\ss[k]?=some x/\kq8 x.size.text=n/\n<=9:=by
 unfold qx3 at h;obtain⟨k,h1,a⟩:=wQ.mp h;obtain⟨x,b,c⟩:=wQ.mp a;exact⟨k,x,h1,b,zjd c⟩
def vjw (ss:List PSet)(ks:List PKind)(s:SiT):Option (List ByteArray):=
 if s.form==0 then some (kwn 2)
 else if s.form==1 then (jjl s.top.text).map λn=>kwn (n+1)
 else match kwa ks s.name.text.toList with
  |some k=>some (k.members.map (·.text))
  |none=>(qx3 ss s.name.text.toList).map λm=>⟨#[45]⟩::kwn m
def zwm (ss:List PSet)(ks:List PKind)(sz:Nat)(v:VrT):Option MVar:=
 (if v.arr then qx3 ss v.over.text.toList else some 1).bind λc=>(vjw ss ks v.si).map λt=>⟨sz,c,t,kyq ss v.over.text.toList,kyq ss v.si.name.text.toList⟩
def mdV (a b c d e:Option Addr)(n0 n1 f g h c0 c1 c2 c3 c4:Nat):Value:=.agg #[.slice a n0 c0,.slice b n1 c1,.slice c f c2,.slice d g c3,.slice e h c4]
structure MdFit (m:MdL):Prop where
 sets:m.sets.length<=1000
 kinds:m.kinds.length<=1000
 mems:∀x∈m.kinds,x.members.length<=1000
 vars:m.vars.length<=1000
 rules:m.rules.length<=1000
 nevers:m.nevers.length<=1000
theorem zxb (w:World)(lo:Nat)(s:SiT)(c d f g h:Option Addr)(n0 n1 p q t c0 c1 c2 c3 c4:Nat)(m:MdL)(D:kvm lo w (.slice c n0 c0) (.slice d n1 c1) (.slice f p c2) (.slice g q c3) (.slice h t c4) m)(z:MdFit m)(l:List ByteArray)(a:vjw m.sets m.kinds s=some l):
  qJ 98 #[mdV c d f g h n0 n1 p q t c0 c1 c2 c3 c4,siV s] w λe w'=>∃v,e=.returned v/\w'.ownsRow w.heap.size 9 1 v l.length (l.map Value.string)/\pU w w':=by
 obtain⟨C,⟨A,h1,k1⟩,H,_,_⟩:=D;unfold vjw at a;cases i:(s.form==0)
 ·rw[i,if_neg au]at a;cases u:(s.form==1)
  ·rw[u,if_neg au]at a;cases y:kwa m.kinds s.name.text.toList with
   |some k=>
    rw[y]at a;injection a with a;subst a;have:=zzr w lo s.form (kq8 s.top.text) s.top.at_ s.name c d f g h n0 n1 p q t c0 c1 c2 c3 c4 m.kinds A h1 k1 z.kinds z.mems i u k y;refine this.mono ?_;rintro e w' ⟨v,rfl,b,hb⟩;exact⟨v,rfl,by rw[Qe,Q7];exact b,hb⟩
   |none=>
    rw[y]at a;obtain⟨n,hn,rfl⟩:=rJ.mp a;obtain⟨j,x,E,F,B,G⟩:=kwb hn;have:=zxc w lo s.form (kq8 s.top.text) s.top.at_ s.name c d f g h n0 n1 p q t c0 c1 c2 c3 c4 m.kinds A h1 k1 z.kinds m.sets C z.sets j E x F n B aj i u y;refine this.mono ?_;rintro e w' ⟨v,rfl,b,hb⟩;exact⟨v,rfl,by simpa[kzs] using b,hb⟩
  ·rw[u,if_pos rfl]at a;obtain⟨n,hn,rfl⟩:=rJ.mp a;obtain⟨B,G⟩:=zjd hn;have:=qjl w s.form (kq8 s.top.text) s.top.at_ s.name c d f g h n0 n1 p q t c0 c1 c2 c3 c4 (n+1) aj (Or.inr ⟨i,u,aj⟩);refine this.mono ?_;rintro e w' ⟨v,rfl,b,hb⟩;exact⟨v,rfl,by simpa[kzs] using b,hb⟩
 ·rw[i,if_pos rfl]at a;injection a with a;subst a;have:=qjl w s.form (kq8 s.top.text) s.top.at_ s.name c d f g h n0 n1 p q t c0 c1 c2 c3 c4 2 aj (Or.inl (by rw[i];rfl));refine this.mono ?_;rintro e w' ⟨v,rfl,b,hb⟩;exact⟨v,rfl,by simpa[kzs] using b,hb⟩
end Go.Proofs.YtpmcnonmkghokaaGreatDoor

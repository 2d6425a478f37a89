import Derived.Test.YtpmcnonmkghokaaGreatDoorT00
import Derived.Lib.Strings
import Derived.Lib.Slices
import Derived.Lib.Walk
import Derived.Lib.Bytealg
import Derived.OwnWalk
set_option maxHeartbeats 1000000
set_option maxRecDepth 100000
set_option linter.unusedVariables false
set_option linter.unusedSimpArgs false
namespace Go.Proofs.YtpmcnonmkghokaaGreatDoor
open Go.Proofs.Tryz
open Go.RowKit
variable {s:ByteArray}{L:List Tok}{R b f i k lo:Nat}{st:RS}{t:TypeId}{v x0 x1 x2 x3 x4 x5 x6 x7 x8 x9:Value}{w w':World}
theorem qvg (lo hi:Int)(s:ByteArray)(k i:Nat):inB lo hi (s.extract k s.size) i=inB lo hi s (k+i):=by
 unfold inB;by_cases h:k+i<s.size
 ·have a:i<(s.extract k s.size).size:=by rw[extract_size _ _ _ (wJ _)];omega
  rw[dif_pos h,dif_pos a,Zk]
 ·have a:¬i<(s.extract k s.size).size:=by rw[extract_size _ _ _ (wJ _)];omega
  rw[dif_neg h,dif_neg a]
theorem zxu (s:ByteArray)(k:Nat):∀f i,k+kv5 f (s.extract k s.size) i=kv5 f s (k+i)
 |0,i=>rfl
 |f+1,i=>by
  rw[kv5,kv5,kz5,kz5,qvg];split
  ·exact zxu s k f (i+1)
  ·rfl
theorem qvd (s:ByteArray)(k i j:Nat)(h:k+j<=s.size):(s.extract k s.size).extract i j=s.extract (k+i) (k+j):=by
 rw[ByteArray.extract_extract,Nat.min_eq_left h]
theorem vzn (s:ByteArray)(k:Nat)(h:k<s.size):(s.extract k s.size).get! 0=s.get! k:=by
 have c:0<(s.extract k s.size).size:=kK;have e:(s.extract k s.size)[0]'c=s[k]:=by rw[Zk];rfl
 have a:∀(b:ByteArray) (i:Nat) (hb:i<b.size),b.get! i=b[i]:=λb i hb=>getElem!_pos b.data i hb
 rw[a _ _ c,a _ _ h,e]
theorem jzn (s:ByteArray)(k:Nat)(h:k<s.size):(uy (s.extract k s.size) 0).kind=(uy s k).kind/\(uy (s.extract k s.size) 0).text=(uy s k).text:=by
 have d:kz5 (s.extract k s.size) 0=kz5 s k:=by rw[kz5,kz5,qvg];rfl
 have e:kz1 (s.extract k s.size) 0=kz1 s k:=by rw[kz1,kz1,qvg];rfl
 have f:kz1 (s.extract k s.size) (0+1)=kz1 s (k+1):=by rw[kz1,kz1,qvg]
 have g:qjf (s.extract k s.size) 0=qjf s k:=by
  unfold qjf;by_cases l:k+1<s.size
  ·rw[qvd _ _ _ _ aj,extract_size _ _ _ (wJ _),show decide (0+1<s.size-k)=true by simp;omega,show decide (k+1<s.size)=true by simp;omega,sU,QU]
  ·rw[extract_size _ _ _ (wJ _),show decide (0+1<s.size-k)=false by simp;omega,show decide (k+1<s.size)=false by simp;omega,Ql,Ql]
 have i:qja (s.extract k s.size) 0=qja s k:=by unfold qja;rw[vzn s k h]
 have b:=zxu s k 801 0;unfold uy;rw[d,e,f,g,i];have j:(s.extract k s.size).extract 0 (kv5 801 (s.extract k s.size) 0)=s.extract k (kv5 801 s k):=by
  rw[qvd _ _ _ _ (by rw[b];exact(qke s 801 k aj).2),b];rfl
 have c:(s.extract k s.size).extract 0 (0+1)=s.extract k (k+1):=by rw[qvd _ _ _ _ aj];rfl
 split
 ·rw[j];exact⟨rfl,rfl⟩
 ·split
  ·rw[c];exact⟨rfl,rfl⟩
  ·split
   ·rename_i a;have:k+1<s.size:=l9;rw[qvd _ _ _ _ aj];exact⟨rfl,rfl⟩
   ·rw[c];exact⟨rfl,rfl⟩
def lits:List (List UInt8):=[oW,oV,oZ,pX,o8,oD,oh,oC,oM,oG,oP,oJ,
 [40],[41],[91],[93],[123],[125],[58],[59],[44],[33],[38],[124],[43],[45],[60],[61],[61,61],[33,61]]
def jx1 (t:Tok):Bool:=(t.kind.toList==pY)||(t.kind.toList==oU)
structure zqv (t:Tok):Prop where
 name:(kz5 t.text 0&&!qk4 t.text)=(t.kind.toList==og)
 digit:kz1 t.text 0=(t.kind.toList==oQ)
 lit:∀l∈lits,(t.text.toList==l)=(jx1 t&&(t.text.toList==l))
 fin:(t.text.toList==[])=(t.kind.toList==pJ)
 size:t.text.size<=800
 word:kz5 t.text 0=((t.kind.toList==oU)||(t.kind.toList==og))
theorem bf (b:ByteArray):b.toList=b.data.toList:=J9 b
theorem jv (l:List UInt8):(ByteArray.mk l.toArray).toList=l:=bf _
theorem qkm (lo hi:Int)(b:ByteArray)(h:0<b.size):∃c r,b.toList=c::r/\inB lo hi b 0=(decide (lo<=(c.toNat:Int))&&decide ((c.toNat:Int)<=hi)):=by
 have a:b.data.toList≠[]:=λe=>by
  have:b.data.size=0:=by rw[<-Jr,e];rfl
  exact absurd (show b.size=0 from this) aj
 obtain⟨c,r,e⟩:=List.exists_cons_of_ne_nil a;refine⟨c,r,by rw[bf,e],?_⟩;unfold inB;rw[dif_pos h];have:b[0]=c:=by
  show b.data[0]=c;rw[<-Array.getElem_toList];simp[e]
 rw[this]
theorem vkv (b:ByteArray):qk4 b=true↔b.toList∈qzi.map ByteArray.toList:=by
 unfold qk4;rw[Jl];constructor
 ·rintro⟨x,a,e⟩;rw[rQ]at e;rw[<-e];exact sV a
 ·intro h;obtain⟨x,a,e⟩:=Qj.mp h;exact⟨x,a,ng⟩
theorem vzf (n:Nat):zqv (kx9 n):=by
 have a:(kx9 n).kind.toList=pJ:=jv _;have b:(kx9 n).text.toList=[]:=jv _;have c:(kx9 n).text.size=0:=rfl;have hi:∀lo hi,inB lo hi (kx9 n).text 0=false:=λlo hi=>by unfold inB;rw[dif_neg (by rw[c];omega)]
 refine⟨?_,?_,?_,?_,by rw[c];omega,by rw[kz5,hi,a];rfl⟩
 ·rw[kz5,hi,a];rfl
 ·rw[kz1,hi,a];rfl
 ·intro l d;rw[b];have:([]==l)=false:=by revert l;decide
  rw[this,Q5]
 ·rw[a,b];rfl
theorem vyt (lo hi:Int)(s:ByteArray)(k e:Nat)(h1:k<e)(a:e<=s.size):inB lo hi (s.extract k e) 0=inB lo hi s k:=by
 unfold inB;rw[dif_pos (show k<s.size by omega),dif_pos (show 0<(s.extract k e).size by rw[extract_size _ _ _ a];omega),Zk];rfl
theorem vzb (h:kz5 s k=true):kz1 s k=false:=by
 unfold kz5 kz1 inB at *;by_cases a:k<s.size
 ·rw[dif_pos a]at h |-;simp at h |-;omega
 ·rw[dif_neg a]at h;cases h
theorem vzk:∀l∈lits,∀c r,l=c::r->(decide (97<=(c.toNat:Int))&&decide ((c.toNat:Int)<=122))=true->l∈qzi.map ByteArray.toList:=by
 have b:qzi.map ByteArray.toList=[oW,oV,oZ,pX,o8,oD,oh,oC,oM,oG,oP,oJ]:=by
  simp only[qzi,List.map,bf]
 rw[b];intro l a c r e;subst e;simp only[lits,sW,List.cons.injEq,Qa,or_false]at a;rcases a with h|h|h|h|h|h|h|h|h|h|h|h|h|h|h|h|h|h|h|h|h|h|h|h|h|h|h|h|h|h<;>(obtain⟨rfl,rfl⟩:=h;decide)
theorem jwl:∀l∈lits,∀c r,l=c::r->(decide (48<=(c.toNat:Int))&&decide ((c.toNat:Int)<=57))=false:=by
 intro l a c r e;subst e;simp only[lits,sW,List.cons.injEq,Qa,or_false]at a;rcases a with h|h|h|h|h|h|h|h|h|h|h|h|h|h|h|h|h|h|h|h|h|h|h|h|h|h|h|h|h|h<;>(obtain⟨rfl,rfl⟩:=h;decide)
theorem vxl (s:ByteArray)(k:Nat)(z:k<s.size)(E:s.size<=800)(d:(uy s k).kind.toList.isEmpty=false):zqv (uy s k):=by
 have v:=qx1 s k z;have C:jqj.toList=oU:=bf _;have B:zzv.toList=og:=bf _;have A:kyp.toList=oQ:=bf _;have w:zq1.toList=pY:=bf _;have k0:qw8.toList=[]:=bf _;have hcut:∀lo hi,inB lo hi (uy s k).text 0=inB lo hi s k:=by
  intro lo hi;have:(uy s k).text=s.extract k (k+(uy s k).text.size):=by
   unfold uy;have D:=qke s 800 (k+1) aj;split
   ·rename_i g;have j:kv5 801 s k=kv5 800 s (k+1):=by rw[kv5,if_pos g]
    simp only;rw[extract_size _ _ _ aj,show k+(kv5 801 s k-k)=kv5 801 s k by omega]
   ·split
    ·simp only;rw[extract_size _ _ _ aj,show k+(k+1-k)=k+1 by omega]
    ·split
     ·rename_i j;have:k+1<s.size:=by unfold qjf at j;simp at j;exact j.1
      simp only;rw[extract_size _ _ _ aj,show k+(k+2-k)=k+2 by omega]
     ·simp only;rw[extract_size _ _ _ aj,show k+(k+1-k)=k+1 by omega]
  rw[this];exact vyt _ _ _ _ _ aj v.2
 have p:(uy s k).text.size<=800:=aj;have m:((uy s k).text.toList==[])=false:=by
  obtain⟨c,r,e,_⟩:=qkm 0 0 (uy s k).text aj;rw[e];rfl
 by_cases g:kz5 s k=true
 ·have h:=vzb g;have b:kz5 (uy s k).text 0=true:=by rw[kz5,hcut];exact g
  have f:kz1 (uy s k).text 0=false:=by rw[kz1,hcut];exact h
  have a:(uy s k).kind=if qk4 (uy s k).text then jqj else zzv:=by unfold uy;simp[g]
  cases t:qk4 (uy s k).text
  ·rw[t]at a;have a:(uy s k).kind.toList=og:=by rw[a];exact B
   refine⟨by rw[b,t,a];rfl,by rw[f,a];rfl,?_,by rw[m,a];rfl,p,nC⟩;intro l i;have:((uy s k).text.toList==l)=false:=by
    cases q:((uy s k).text.toList==l)
    ·rfl
    ·rw[rQ]at q;obtain⟨c,r,e,u⟩:=qkm 97 122 (uy s k).text aj;have:=vzk l i c r (by rw[<-q];exact e) (by rw[<-u];exact b);rw[<-q]at this;rw[(vkv _).mpr this]at t;cases t
   rw[this,Q5]
  ·rw[t]at a;have a:(uy s k).kind.toList=oU:=by rw[a];exact C
   refine⟨by rw[b,t,a];rfl,by rw[f,a];rfl,?_,by rw[m,a];rfl,p,nC⟩;intro l i;rw[jx1,a];simp
 ·have g:kz5 s k=false:=by simpa using g
  have b:kz5 (uy s k).text 0=false:=by rw[kz5,hcut];exact g
  by_cases h:kz1 s k=true
  ·have f:kz1 (uy s k).text 0=true:=by rw[kz1,hcut];exact h
   have a:(uy s k).kind=if kz1 s (k+1) then qw8 else kyp:=by unfold uy;simp[g,h]
   cases j:kz1 s (k+1)
   ·rw[j]at a;have a:(uy s k).kind.toList=oQ:=by rw[a];exact A
    refine⟨nC,by rw[f,a];rfl,?_,by rw[m,a];rfl,p,nC⟩;intro l i;have:((uy s k).text.toList==l)=false:=by
     cases q:((uy s k).text.toList==l)
     ·rfl
     ·rw[rQ]at q;obtain⟨c,r,e,u⟩:=qkm 48 57 (uy s k).text aj;have:=jwl l i c r (by rw[<-q];exact e);rw[<-u]at this;rw[kz1]at f;rw[f]at this;cases this
    rw[this,Q5]
   ·rw[j]at a;rw[a]at d;simp[k0]at d
  ·have h:kz1 s k=false:=by simpa using h
   have f:kz1 (uy s k).text 0=false:=by rw[kz1,hcut];exact h
   have a:(uy s k).kind.toList=pY:=by
    unfold uy at d |-;simp only[g,h]at d |-;simp only[wU,if_false]at d |-;split
    ·exact w
    ·rename_i x;rw[if_neg x]at d;simp only at d |-;split
     ·exact w
     ·rename_i y;rw[if_neg y]at d;simp[k0]at d
   refine⟨nC,by rw[f,a];rfl,?_,by rw[m,a];rfl,p,nC⟩;intro l i;rw[jx1,a];simp
structure AccOk (acc:List Tok)(k:Nat):Prop where
 ok:∀t∈acc,zqv t/\(t.kind.toList==pJ)=false/\t.at_<k
 inc:acc.Pairwise (λa b=>a.at_<b.at_)
 len:acc.length<=k
theorem jzl (s:ByteArray)(k:Nat):(uy s k).at_=k:=by
 unfold uy;repeat (split;· rfl)
 rfl
theorem zxa (s:ByteArray)(j:s.size<=800):∀(f k:Nat) (acc:List Tok),k<=s.size->AccOk acc k->(kvh f s k acc).2=none->∃acc',(kvh f s k acc).1=acc'++[kx9 s.size]/\AccOk acc' s.size
 |0,k,acc,_,_,h=>by simp[kvh]at h
 |f+1,k,acc,hk,ha,h=>by
  rw[kvh]at h |-;by_cases h1:k<s.size
  ·rw[if_pos h1]at h |-;by_cases l:ky3 s k=true
   ·rw[if_pos l]at h |-;exact zxa s j f (k+1) acc h1 ⟨λt d=>⟨(ha.ok t d).1,(ha.ok t d).2.1,by have:=(ha.ok t d).2.2;omega⟩,ha.inc,by have:=ha.len;omega⟩ h
   ·rw[if_neg l]at h |-;by_cases i:(uy s k).kind.toList.isEmpty=true
    ·rw[if_pos i]at h;cases h
    ·rw[if_neg i]at h |-;have u:=qx1 s k h1;have g:=vxl s k h1 j (by simpa using i);have p:=jzl s k;have q:((uy s k).kind.toList==pJ)=false:=by
      rw[<-g.fin];obtain⟨c,r,e,_⟩:=qkm 0 0 (uy s k).text aj;rw[e];rfl
     refine zxa s j f _ _ u.2 ⟨?_,?_,?_⟩ h
     ·intro t d;rcases ru.mp d with d|d
      ·exact⟨(ha.ok t d).1,(ha.ok t d).2.1,by have:=(ha.ok t d).2.2;omega⟩
      ·rw[sK]at d;subst d;exact⟨g,q,aj⟩
     ·rw[QW];refine⟨ha.inc,ZY _ _,?_⟩;intro a m b hb;rw[sK]at hb;subst hb;rw[p];exact(ha.ok a m).2.2
     ·rw[wY];have:=ha.len;simp;omega
  ·rw[if_neg h1]at h |-;exact⟨acc,rfl,⟨λt d=>⟨(ha.ok t d).1,(ha.ok t d).2.1,by have:=(ha.ok t d).2.2;omega⟩,ha.inc,by have:=ha.len;omega⟩⟩
structure bg (L:List Tok):Prop where
 len:L.length<=801
 pos:0<L.length
 ok:∀i,i<L.length->zqv (tk L i)
 mid:∀i,i+1<L.length->((tk L i).kind.toList==pJ)=false
 last:((tk L (L.length-1)).kind.toList==pJ)=true
 inc:L.Pairwise (λa b=>a.at_<b.at_)
 le:∀t∈L,t.at_<=800
theorem pj5 (h:i<L.length):tk L i∈L:=by
 unfold tk;rw[show L.getD i (kx9 0)=L[i] by simp[List.getD,h]];exact wX h
theorem qqz (s:ByteArray)(j:s.size<=800)(h:(jo s).2=none):bg (jo s).1:=by
 obtain⟨acc,e,d⟩:=zxa s j 801 0 [] (rW _) ⟨λt c=>by simp at c,List.Pairwise.nil,au⟩ h;have k:(jo s).1=acc++[kx9 s.size]:=e;rw[k];have m:pjf.toList=pJ:=bf _;have p:=d.len;have g:∀i,i<acc.length->tk (acc++[kx9 s.size]) i∈acc:=by
  intro i hi;have:tk (acc++[kx9 s.size]) i=acc[i]:=by
   unfold tk;simp[List.getD,JZ hi,hi]
  rw[this];exact wX hi
 have f:tk (acc++[kx9 s.size]) acc.length=kx9 s.size:=by
  unfold tk;simp[List.getD]
 refine⟨ay,au,?_,?_,?_,?_,?_⟩
 ·intro i hi;simp at hi;by_cases l:i<acc.length
  ·exact(d.ok _ (g i l)).1
  ·have:i=acc.length:=by omega
   subst this;rw[f];exact vzf _
 ·intro i hi;simp at hi;exact(d.ok _ (g i hi)).2.1
 ·simp only[wY,JB,Zl];rw[f];show(pjf.toList==_)=true;rw[m];rfl
 ·rw[QW];refine⟨d.inc,ZY _ _,?_⟩;intro a h1 b hb;rw[sK]at hb;subst hb;exact(d.ok a h1).2.2
 ·intro t c;rcases ru.mp c with c|c
  ·have:=(d.ok t c).2.2;omega
  ·rw[sK]at c;subst c;exact j
theorem zzw (b:Int)(w:World):qJ 86 #[.int .u8 b] w λe w'=>e=.returned (.bool ((b==32)||(b==10)))/\w'=w:=by
 cases h:(b==32);all_goals
  go_enter func86,ntmps86
  go_wp2
  go_ret
  exact⟨jf au,rfl⟩
theorem kzo (b:Int)(w:World):qJ 142 #[.int .u8 b] w λe w'=>e=.returned (.bool (decide (97<=b)&&decide (b<=122)))/\w'=w:=by
 by_cases h:97<=b
 all_goals
  go_enter func142,ntmps142
  go_wp2
  go_ret
  exact⟨jf (by first|(simp[h];done)|(simp;omega)),rfl⟩
theorem kyk (b:Int)(w:World):qJ 144 #[.int .u8 b] w λe w'=>e=.returned (.bool (decide (48<=b)&&decide (b<=57)))/\w'=w:=by
 by_cases h:48<=b
 all_goals
  go_enter func144,ntmps144
  go_wp2
  go_ret
  exact⟨jf (by first|(simp[h];done)|(simp;omega)),rfl⟩
theorem kwe {lo hi:Int}   (h:i<s.size):(decide (lo<=((s[i]).toNat:Int))&&decide (((s[i]).toNat:Int)<=hi))=inB lo hi s i:=by simp[inB,h]
theorem zxy (s:ByteArray)(w:World)(m:s.size<=800):
  qJ 143 #[.string s] w λe w'=>e=.returned (.int .i64 (kv5 801 s 0))/\w'=w:=by
 go_enter func143,ntmps143
 go_wp2
 go_loop [3] (λi=>∃k:Nat,k<=s.size/\i=.int .i64 k/\∀j,0<=j->j<k->kz5 s j=true) (λi=>s.size-(intOf i).toNat)
 case atStart=>exact⟨0,rW _,rfl,λj _ h=>aj⟩
 case round=>
  obtain⟨k,l,rfl,b⟩:=hrel;have d:=pG b;clear b;by_cases c:k<s.size
  ·cases a:kz5 s k
   ·have f:=pG (zx1 a 801 0 (rW _) aj (ku d));go_wp2_with fail
    refine(kzo _ _).mono ?_;rintro e w' ⟨rfl,rfl⟩;rw[kwe c,show inB 97 122 s k=false from a];go_wp2
    go_ret
    rw[ku f];exact⟨rfl,rfl⟩
   ·go_wp2_with fail
    refine(kzo _ _).mono ?_;rintro e w' ⟨rfl,rfl⟩;rw[kwe c,show inB 97 122 s k=true from a];go_wp2
    go_round
    case rel=>exact⟨k+1,aj,eu,λj h1 g=>if e:j=k then e▸a else (ku d) j h1 aj⟩
    case measure=>exact qQ
  ·have a:kz5 s k=false:=by
    cases h:kz5 s k
    ·rfl
    ·exact absurd (jjd h) c
   have f:=pG (zx1 a 801 0 (rW _) aj (ku d));go_wp2
   go_ret
   rw[ku f];exact⟨rfl,rfl⟩
theorem zwd (s p:ByteArray)(w:World):
  qJ 145 #[.string s,.string p] w λe w'=>e=.returned (.bool (decide (p.size<=s.size)&&((s.extract 0 p.size).toList==p.toList)))/\w'=w:=by
 have a:qJ 199 #[.string s,.string p] w λe w'=>e=.returned (.bool (decide (p.size<=s.size)&&((s.extract 0 p.size).toList==p.toList)))/\w'=w:=by
  by_cases h:p.size<=s.size
  ·go_enter func199,ntmps199
   go_wp2
   go_ret
   exact⟨jf (by simp[h]),rfl⟩
  ·go_enter func199,ntmps199
   go_wp2
   go_ret
   exact⟨jf (by simp[h]),rfl⟩
 go_enter func145,ntmps145
 go_wp2_with fail
 refine a.mono ?_;rintro e w' ⟨rfl,rfl⟩;go_wp2
 go_ret
 exact⟨rfl,rfl⟩
theorem zwp (s:ByteArray)(c:Int)(w:World):
  qJ 146 #[.string s,.int .u8 c] w λe w'=>e=.returned (.int .i64 (Lib.indexByte s.data.toList c.toNat.toUInt8))/\w'=w:=by
 have a:qJ 200 #[.string s,.int .u8 c] w λe w'=>e=.returned (.int .i64 (Lib.indexByte s.data.toList c.toNat.toUInt8))/\w'=w:=by
  go_enter func200,ntmps200
  go_wp2
  rw[run_callFunc_extern func237 ah ah ah (e:=Extern.BytealgIndexByte.indexByte) ah,Lib.run_indexByteString];simp only[Result.andThen];rw[Oper.upon_value];go_wp2
  go_ret
  exact⟨rfl,rfl⟩
 go_enter func146,ntmps146
 go_wp2_with fail
 refine a.mono ?_;rintro e w' ⟨rfl,rfl⟩;go_wp2
 go_ret
 exact⟨rfl,rfl⟩
theorem qwj (c:UInt8):∀l:List UInt8,(0<=Lib.indexByte l c↔l.any (λb=>b.toNat==c.toNat)=true)
 |[]=>by simp[Lib.indexByte]
 |b::l=>by
  have d:=qwj c l;have e:=Lib.indexByte_ge l c;rw[Lib.indexByte,QB];cases h:(b==c)
  ·have hn:(b.toNat==c.toNat)=false:=by
    cases a:(b.toNat==c.toNat)
    ·rfl
    ·rw[rQ]at a;have:b=c:=UInt8.toNat_inj.mp a;subst this;simp at h
   rw[hn,Qr,<-d];simp only[wU,if_false];by_cases h1:Lib.indexByte l c=-1
   ·simp[h1]
   ·have:(Lib.indexByte l c==-1)=false:=by simpa using h1
    rw[this];simp only[wU,if_false];omega
  ·rw[rQ]at h;subst h;simp
theorem vk3 (s:ByteArray)(h:0<s.size):decide ((0:Int)<=Lib.indexByte kks.data.toList (((s[0]).toNat:Int).toNat.toUInt8))=qja s 0:=by
 have b:s.get! 0=s[0]:=getElem!_pos s.data 0 h;have e:(((s[0]).toNat:Int).toNat.toUInt8)=s[0]:=by
  rw[sJ];simp
 rw[e];unfold qja;rw[b,bf];have i:=qwj (s[0]) kks.data.toList;cases a:kks.data.toList.any (λc=>c.toNat==(s[0]).toNat)
 ·rw[a]at i;rw[decide_eq_false_iff_not];intro d;have:=i.mp d;cases this
 ·rw[decide_eq_true_iff];exact i.mpr a
def qvl (t:Tok):Nat:=if t.kind.toList.isEmpty then 0 else t.text.size
theorem vjy (a:kz5 s 0=true):qvl (uy s 0)=kv5 801 s 0:=by
 have hb:=qke s 801 0 (rW _);have b:(uy s 0).kind.toList.isEmpty=false:=by
  unfold uy;rw[if_pos a];simp only;split
  ·rw[show jqj.toList=oU from jv _];rfl
  ·rw[show zzv.toList=og from jv _];rfl
 unfold qvl;rw[b];unfold uy;rw[if_pos a];simp only[wU,if_false];rw[extract_size _ _ _ hb.2];omega
theorem jvl (c:0<s.size)(b:kz5 s 0=false)(a:kz1 s 0=true):qvl (uy s 0)=if kz1 s 1 then 0 else 1:=by
 unfold qvl uy;simp only[b,a,wU,if_false,if_true,QU];cases h:kz1 s 1
 ·simp only[wU,if_false];rw[show kyp.toList=oQ from jv _,extract_size _ _ _ aj];rfl
 ·simp only[if_true];rw[show qw8.toList=[] from jv _];rfl
theorem vxa (c:kz5 s 0=false)(b:kz1 s 0=false)(a:qjf s 0=true):qvl (uy s 0)=2:=by
 have:0+1<s.size:=by unfold qjf at a;simp at a;omega
 unfold qvl uy;simp only[c,b,a,wU,if_false,if_true];rw[show zq1.toList=pY from jv _,extract_size _ _ _ aj];rfl
theorem vxe (d:0<s.size)(c:kz5 s 0=false)(b:kz1 s 0=false)(a:qjf s 0=false):qvl (uy s 0)=if qja s 0 then 1 else 0:=by
 unfold qvl uy;simp only[c,b,a,wU,if_false];cases h:qja s 0
 ·simp only[wU,if_false];rw[show qw8.toList=[] from jv _];rfl
 ·simp only[if_true];rw[show zq1.toList=pY from jv _,extract_size _ _ _ aj];rfl
theorem jyi (s:ByteArray):qjf s 0=((decide (2<=s.size)&&((s.extract 0 2).toList==[61,61]))||(decide (2<=s.size)&&((s.extract 0 2).toList==[33,61]))):=by
 unfold qjf;simp only[QU];by_cases h:2<=s.size
 ·have h1:1<s.size:=by omega
  simp[h,h1]
 ·have h1:¬1<s.size:=by omega
  simp[h,h1]
theorem qx7 (s:ByteArray)(a b:UInt8)(w:World):
  qJ 145 #[.string s,.string ⟨#[a,b]⟩] w λe w'=>e=.returned (.bool (decide (2<=s.size)&&((s.extract 0 2).toList==[a,b])))/\w'=w:=by
 have h:=zwd s ⟨#[a,b]⟩ w;rw[show(⟨#[a,b]⟩:ByteArray).toList=[a,b] from jv _]at h;exact h
theorem zzn (s:ByteArray)(w:World)(b:0<s.size)(k:s.size<=800):
  qJ 87 #[.string s] w λe w'=>e=.returned (.int .i64 (qvl (uy s 0)))/\w'=w:=by
 cases g:kz5 s 0
 ·cases h:kz1 s 0
  ·cases f:qjf s 0
   ·have a:=pG (vxe b g h f);rw[jyi,QY]at f;go_enter func87,ntmps87
    go_wp2_with fail
    refine(kzo _ _).mono ?_;rintro e w' ⟨rfl,rfl⟩;rw[kwe b,show inB 97 122 s 0=false from g];go_wp2_with fail
    refine(kyk _ _).mono ?_;rintro e w' ⟨rfl,rfl⟩;rw[kwe b,show inB 48 57 s 0=false from h];go_wp2_with fail
    refine(qx7 s 61 61 _).mono ?_;rintro e w' ⟨rfl,rfl⟩;rw[f.1];go_wp2_with fail
    refine(qx7 s 33 61 _).mono ?_;rintro e w' ⟨rfl,rfl⟩;rw[f.2];go_wp2_with fail
    refine(zwp _ _ _).mono ?_;rintro e w' ⟨rfl,rfl⟩;have d:=vk3 s b;unfold kks at d;generalize Lib.indexByte _ _=z at d |-;cases i:qja s 0
    ·rw[i]at a d;have l:¬0<=z:=ni;go_wp2
     go_ret
     rw[ku a];exact⟨rfl,rfl⟩
    ·rw[i]at a d;have l:0<=z:=ni;go_wp2
     go_ret
     rw[ku a];exact⟨rfl,rfl⟩
   ·have a:=pG (vxa g h f);rw[jyi]at f;go_enter func87,ntmps87
    go_wp2_with fail
    refine(kzo _ _).mono ?_;rintro e w' ⟨rfl,rfl⟩;rw[kwe b,show inB 97 122 s 0=false from g];go_wp2_with fail
    refine(kyk _ _).mono ?_;rintro e w' ⟨rfl,rfl⟩;rw[kwe b,show inB 48 57 s 0=false from h];go_wp2_with fail
    refine(qx7 s 61 61 _).mono ?_;rintro e w' ⟨rfl,rfl⟩;cases j:(decide (2<=s.size)&&((s.extract 0 2).toList==[61,61]))
    ·rw[j,Qr]at f;go_wp2_with fail
     refine(qx7 s 33 61 _).mono ?_;rintro e w' ⟨rfl,rfl⟩;rw[f];go_wp2
     go_ret
     rw[ku a];exact⟨rfl,rfl⟩
    ·clear f;go_wp2
     go_ret
     rw[ku a];exact⟨rfl,rfl⟩
  ·have a:=pG (jvl b g h);go_enter func87,ntmps87
   go_wp2_with fail
   refine(kzo _ _).mono ?_;rintro e w' ⟨rfl,rfl⟩;rw[kwe b,show inB 97 122 s 0=false from g];go_wp2_with fail
   refine(kyk _ _).mono ?_;rintro e w' ⟨rfl,rfl⟩;rw[kwe b,show inB 48 57 s 0=true from h];by_cases h1:1<s.size
   ·go_wp2_with fail
    refine(kyk _ _).mono ?_;rintro e w' ⟨rfl,rfl⟩;rw[kwe h1];cases c:kz1 s 1
    ·rw[c]at a;rw[show inB 48 57 s 1=false from c];go_wp2
     go_ret
     rw[ku a];exact⟨rfl,rfl⟩
    ·rw[c]at a;rw[show inB 48 57 s 1=true from c];go_wp2
     go_ret
     rw[ku a];exact⟨rfl,rfl⟩
   ·have c:kz1 s 1=false:=qkb h1;rw[c]at a;go_wp2
    go_ret
    rw[ku a];exact⟨rfl,rfl⟩
 ·have a:=pG (vjy g);go_enter func87,ntmps87
  go_wp2_with fail
  refine(kzo _ _).mono ?_;rintro e w' ⟨rfl,rfl⟩;rw[kwe b,show inB 97 122 s 0=true from g];go_wp2_with fail
  refine(zxy s _ k).mono ?_;rintro e w' ⟨rfl,rfl⟩;go_wp2
  go_ret
  rw[ku a];exact⟨rfl,rfl⟩
def kj9 (t:Tok):List Value:=[.string t.text,.int .i64 t.at_]
def ptV (t:Tok):Value:=.agg #[.string t.text,.int .i64 t.at_]
def kqe (l:List Tok):List Value:=l.flatMap kj9
theorem qju (l:List Tok)(t:Tok):kqe (l++[t])=kqe l++kj9 t:=by simp[kqe]
theorem zz7 (t:Tok):∀u∈kj9 t,u.oneCell'=true:=by
 intro u h;simp only[kj9,sW,Qa,or_false]at h;rcases h with rfl|rfl<;>rfl
theorem infoToken:(prog.info? 194).map (λi=>(i.zero,i.size,i.bytes))=some (some (.agg #[.string ⟨#[]⟩,.int .i64 0]),2,24):=ah
def jz2 (s:ByteArray)(w:World)(v i:Value)(wr:World):Prop:=
 ∃(k f:Nat) (acc:List Tok),k<=s.size/\i=.int .i64 k/\acc.length<=k/\s.size-k<f/\kvh f s k acc=jo s /\
  wr.ownsRow w.heap.size 194 2 v acc.length (kqe acc)/\pU w wr
def vwv (s:ByteArray)(w:World)(e:Ending)(w':World):Prop:=
 pU w w'/\(((jo s).2=none/\∃v,e=.returned (.tuple #[v,.int .i64 0,.bool true])/\w'.ownsRow w.heap.size 194 2 v (jo s).1.length (kqe (jo s).1)) \/
  ∃k:Nat,(jo s).2=some k/\e=.returned (.tuple #[.slice none 0 0,.int .i64 k,.bool false]))
theorem vwr {t:Tok}(h:t.kind.toList.isEmpty=false):qvl t=t.text.size:=by unfold qvl;rw[h];rfl
theorem vwn {t:Tok}(h:t.kind.toList.isEmpty=true):qvl t=0:=by unfold qvl;rw[h];rfl
theorem zvc (h:k<s.size):((((s[k]).toNat:Int)==32)||(((s[k]).toNat:Int)==10))=ky3 s k:=by simp[ky3,h]
theorem zwv {acc:List Tok}{wr: World}  (hb:ky3 s k=true)(d:k<s.size)(c:kvh f s k acc=jo s)(h:s.size-k<f)(e:acc.length<=k)
  (b:wr.ownsRow w.heap.size 194 2 v acc.length (kqe acc)) (a:pU w wr):jz2 s w v (.int .i64 ((k:Int)+1)) wr:=by
 obtain⟨f,rfl⟩:∃g,f=g+1:=⟨f-1,aj⟩;rw[zja hb d]at c;exact⟨k+1,f,acc,aj,eu,aj,aj,c,b,a⟩
theorem vjv (s:ByteArray)(k:Nat)(d:k<s.size):s.extract k (k+(uy s k).text.size)=(uy s k).text:=by
 unfold uy;have c:=qke s 800 (k+1) aj;split
 ·rename_i b;have a:kv5 801 s k=kv5 800 s (k+1):=by rw[kv5,if_pos b]
  simp only;rw[extract_size _ _ _ aj,show k+(kv5 801 s k-k)=kv5 801 s k by omega]
 ·split
  ·simp only;rw[extract_size _ _ _ aj,show k+(k+1-k)=k+1 by omega]
  ·split
   ·rename_i a;have:k+1<s.size:=l9;simp only;rw[extract_size _ _ _ aj,show k+(k+2-k)=k+2 by omega]
   ·simp only;rw[extract_size _ _ _ aj,show k+(k+1-k)=k+1 by omega]
theorem vkk (s:ByteArray)(w:World)(Y:s.size<=800):
  qJ 51 #[.string s] w λe w'=>vwv s w e w':=by
 obtain⟨O,hi,H,I,J⟩:=info_parts infoToken;go_enter func51,ntmps51
 go_wp2
 go_loopw [2,5,6] (λv i _ wr=>jz2 s w v i wr) (λ_ i _ _=>s.size-(intOf i).toNat)
 case atStart=>exact⟨0,801,[],aj,rfl,au,aj,rfl,wB _ _ _ _,Below.refl _ _⟩
 case round=>
  obtain⟨k,f,acc,X,rfl,M,T,d,C,l⟩:=hrel;have z:=pG d;have q:=pG C;have x:=pG l;have W:=l.size;clear d C l;by_cases c:k<s.size
  ·cases m:ky3 s k
   ·go_wp2_with fail
    refine(zzw _ _).mono ?_;rintro e w' ⟨rfl,rfl⟩;rw[zvc c,m];go_wp2_with fail
    have D:=jzn s k c;have G:qvl (uy (s.extract k s.size) 0)=qvl (uy s k):=by unfold qvl;rw[D.1,D.2]
    refine(zzn (s.extract k s.size) _ kK kK).mono ?_;rintro e w' ⟨rfl,rfl⟩;rw[G];have N:=qx1 s k c;have hcut:=vjv s k c;have A:=pG (zxo m c (ku z));have F:=jzl s k;clear D G z;generalize uy s k=t at N A hcut F |-;cases p:t.kind.toList.isEmpty
    ·rw[vwr p];have V:¬((t.text.size:Int)=0):=aj;have Q:s.extract k (k+t.text.size)=t.text:=hcut;have S:((k:Int)+(t.text.size:Int)).toNat=k+t.text.size:=aj;go_wp2_with (at_builtin;refine wpList_append_own _ rfl _ _ 89 rfl w.heap.size 194 O _ 2 24 underlying89 hi H I J rfl ak _ _ _ rfl ((ku q).alloc _) ⟨w'.heap.size,0,none⟩ 1 1 (kj9 t) rfl rfl ?c1 ?c2 ?c3 ?c4 ?c5 ?_)
     case c1=>
      intro j u U;have:=qq4 w' _ (kj9 t) 194 rfl j u U;simp only[kj9]at this;rw[F]at this;exact this
     case c2=>exact zz7 t
     case c3=>unfold maxLen;omega
     case c4=>omega
     case c5=>simp;omega
     intro P E b a _;have h:pU w E:=((ku x).alloc aj _).grown a ay (xg (ku q));have B:=pG b;have y:=pG h;clear b a h;have R:jz2 s w P (.int .i64 ((k:Int)+t.text.size)) E:=
      ⟨k+t.text.size,f-1,acc++[t],aj,eu,ay,aj,((ku A) (f-1) aj).2 p,by rw[qju,wY];exact ku B,ku y⟩
     have K:=pG R;clear R;go_wp2
     go_roundw
     case rel=>exact ku K
     case measure=>exact qQ
    ·rw[vwn p];go_wp2
     go_ret3
     exact⟨ku x,Or.inr ⟨k,by rw[((ku A) (f-1) aj).1 p],rfl⟩⟩
   ·have K:=pG (zwv m c (ku z) T M (ku q) (ku x));go_wp2_with fail
    refine(zzw _ _).mono ?_;rintro e w' ⟨rfl,rfl⟩;rw[zvc c,m];go_wp2
    go_roundw
    case rel=>exact ku K
    case measure=>exact qQ
  ·go_wp2_with (at_builtin;refine wpList_append_own _ rfl _ _ 89 rfl w.heap.size 194 O _ 2 24 underlying89 hi H I J rfl ak _ _ _ rfl ((ku q).alloc _) ⟨wr.heap.size,0,none⟩ 1 1 (kj9 (kx9 s.size)) rfl rfl ?d1 ?d2 ?d3 ?d4 ?d5 ?_)
   case d1=>exact qq4 wr _ (kj9 (kx9 s.size)) _ rfl
   case d2=>exact zz7 _
   case d3=>unfold maxLen;omega
   case d4=>omega
   case d5=>simp;omega
   intro P E b a _;have h:pU w E:=((ku x).alloc aj _).grown a ay (xg (ku q));obtain⟨f,rfl⟩:∃g,f=g+1:=⟨f-1,aj⟩;have d:=ku z;rw[kvh,if_neg c]at d;have L:=pG d;have B:=pG b;have y:=pG h;clear b a d h z q x;go_wp2
   go_ret3
   refine⟨ku y,Or.inl ⟨by rw[<-ku L],_,rfl,?_⟩⟩;have:=ku B;rw[<-ku L,qju,wY];exact this
def zf:Tok:={kind:=⟨#[]⟩,text:=⟨#[]⟩,at_:=0}
def kqc (L:List Tok)(k:List UInt8)(st:RS):Bool:=!st.bad&&((tk L st.at_).kind.toList==k)
def qm (L:List Tok)(k:List UInt8)(st:RS):Tok×RS:=
 if kqc L k st then (tk L st.at_,{st with at_:=st.at_+1}) else (zf,{st with bad:=true})
theorem vym {s:List UInt8}(h:Rd w R v L st)(a:(s==pJ)=false)(hn:kqc L s st=true):st.at_+1<L.length/\st.bad=false:=by
 unfold kqc at hn;simp only[wW,Qm]at hn;refine⟨h.fin _ h.lt ?_,hn.1⟩;have e:=hn.2;rw[rQ]at e;rw[e];exact a
theorem Rd.jw0 (h:Rd w R v L st):Rd (w.setCell ⟨R,3,none⟩ (.bool true)) R v L {st with bad:=true}:=
 h.put (st':={st with bad:=true}) ((Kept.refl _ _).kzq _ _) (jw2 h.rd _) h.lt h.nlo h.nhi
theorem Rd.step (h:Rd w R v L st)(h1:st.at_+1<L.length):Rd (w.setCell ⟨R,1,none⟩ (.int .i64 ((st.at_:Int)+1))) R v L {st with at_:=st.at_+1}:=
 h.put (st':={st with at_:=st.at_+1}) ((Kept.refl _ _).kzq _ _) (jj6 h.rd _) h1 (by have:=h.nlo;simp;omega) h.nhi
theorem kw0 (w:World)(o p:Obj):pU w ((w.alloc o).alloc p).drew:=(((Below.refl _ _).alloc (wJ _) _).alloc au _).drew
theorem vvz (s:ByteArray)(w:World)(R:Nat)(v:Value)(L:List Tok)(st:RS)(h:Rd w R v L st)(l:(s.toList==pJ)=false):
  qJ 106 #[.pointer (some ⟨R,0,none⟩),.string s] w λe w'=>e=.returned (kx2 (qm L s.toList st).1)/\Rd w' R v L (qm L s.toList st).2/\Kept R w w':=by
 obtain⟨c0,c1,c2,c3,f0,f1,f2,f3⟩:=row4 h.rd;have H:=pG h;obtain⟨g,cap,d,x,p,m,t0,f,i⟩:=h.open;have u:=pG d;rw[d]at c0;have q:=h.lt;have k:=h.len;clear h d;cases a:kqc L s.toList st
 ·have E:=pG (show qm L s.toList st=(zf,{st with bad:=true}) by simp[qm,a]);cases hb:st.bad
  ·have c:((tk L st.at_).kind.toList==s.toList)=false:=by simpa[kqc,hb] using a
   rw[hb]at c3;clear a;generalize tk L st.at_=t at t0 f i c;go_enter func106,ntmps106
   go_wp2
   go_region
   go_wp2
   refine rY (v:=kx2 zf) kU rfl ?_;rw[ku E];exact⟨rfl,(ku H).jw0.below (kw0 _ _ _),((((Kept.refl _ _).kzq _ _).alloc _).alloc _).drew⟩
  ·rw[hb]at c3;clear a;generalize tk L st.at_=t at t0 f i;go_enter func106,ntmps106
   go_wp2
   go_region
   go_wp2
   refine rY (v:=kx2 zf) kU rfl ?_;rw[ku E];exact⟨rfl,(ku H).jw0.below (kw0 _ _ _),((((Kept.refl _ _).kzq _ _).alloc _).alloc _).drew⟩
 ·have b:=vym (ku H) l a;have E:=pG (show qm L s.toList st=(tk L st.at_,{st with at_:=st.at_+1}) by simp[qm,a]);have hb:=b.2;have c:((tk L st.at_).kind.toList==s.toList)=true:=by simpa[kqc,hb] using a
  have j:=b.1;rw[hb]at c3;clear a b;generalize tk L st.at_=t at t0 f i c E;go_enter func106,ntmps106
  go_wp2
  go_region
  go_wp2
  refine rY (v:=kx2 t) kU rfl ?_;rw[ku E];exact⟨rfl,((ku H).step j).below (kw0 _ _ _),((((Kept.refl _ _).kzq _ _).alloc _).alloc _).drew⟩
theorem kjx (l:List UInt8)(w:World)(R:Nat)(v:Value)(L:List Tok)(st:RS)(h:Rd w R v L st):
  qJ 103 #[.pointer (some ⟨R,0,none⟩),.string ⟨l.toArray⟩] w λe w'=>e=.returned (.bool (qo L l st))/\Rd w' R v L st/\Kept R w w':=by
 have:=next_any ⟨l.toArray⟩ w R v L st h;rw[J8]at this;exact this.mono λe w' ⟨h1,a⟩=>⟨h1,h.below a,.of_below a⟩
theorem kq0 (l:List UInt8)(w:World)(R:Nat)(v:Value)(L:List Tok)(st:RS)(h:Rd w R v L st):
  qJ 105 #[.pointer (some ⟨R,0,none⟩),.string ⟨l.toArray⟩] w λe w'=>e=.returned (.tuple #[])/\Rd w' R v L (qy L l st)/\Kept R w w':=by
 have:=vv5 ⟨l.toArray⟩ w R v L st h;rw[J8]at this;exact this
theorem kzf (l:List UInt8)(w:World)(R:Nat)(v:Value)(L:List Tok)(st:RS)(h:Rd w R v L st)(a:(l==pJ)=false):
  qJ 106 #[.pointer (some ⟨R,0,none⟩),.string ⟨l.toArray⟩] w λe w'=>e=.returned (kx2 (qm L l st).1)/\Rd w' R v L (qm L l st).2/\Kept R w w':=by
 have:=vvz ⟨l.toArray⟩ w R v L st h (by rw[J8];exact a);rw[J8]at this;exact this
structure ELab where
 op:ByteArray
 name:Tok
 index:Tok
 n:Int
abbrev PX:=Go.Deep.BT ELab
variable {x:PX}
def kku (x:ELab)(a b:Value):Array Value:=#[.string x.op,a,b,.string x.name.kind,.string x.name.text,.int .i64 x.name.at_,.string x.index.kind,.string x.index.text,.int .i64 x.index.at_,.int .i64 x.n]
def yj (lo:Nat)(w:World):PX->Value->Prop
 |.nil,v=>v=.pointer none
 |.node _ _ x a b,v=>∃k va vb,v=.pointer (some ⟨k,0,none⟩)/\lo<=k/\w.heap[k]?=some (.cells (kku x va vb) 242 (0,0))/\yj lo w a va/\yj lo w b vb
theorem yj.ptr (h:yj lo w x v):∃p,v=.pointer p:=by
 cases x with
 |nil=>exact⟨_,h⟩
 |node _ _ _ _ _=>obtain⟨k,_,_,e,_⟩:=h;exact⟨_,e⟩
theorem yj.stay {lo:Nat}{w w':World}(a:∀k,lo<=k->k<w.heap.size->w'.heap[k]?=w.heap[k]?):∀{x:PX} {v:Value},yj lo w x v->yj lo w' x v
 |.nil,_,h=>h
 |.node _ _ _ _ _,_,⟨k,va,vb,e,hn,hh,ha,hb⟩=>⟨k,va,vb,e,hn,by rw[a k hn (wu hh)];exact hh,ha.stay a,hb.stay a⟩
theorem yj.kept (h:yj lo w x v)(b:Kept R w w')(c:R<lo):yj lo w' x v:=
 h.stay λk h1 a=>b.block k a aj
theorem yj.below (h:yj lo w x v)(b:pU w w'):yj lo w' x v:=
 h.stay λk _ a=>b.block k a
theorem yj.mono {lo lo':Nat}{w:World}(a:lo'<=lo):∀{x:PX} {v:Value},yj lo w x v->yj lo' w x v
 |.nil,_,h=>h
 |.node _ _ _ _ _,_,⟨k,va,vb,e,hn,hh,ha,hb⟩=>⟨k,va,vb,e,rU a hn,hh,ha.mono a,hb.mono a⟩
theorem qyb (h:w.heap[b]?=some (.cells #[x0,x1,x2,x3,x4,x5,x6,x7,x8,x9] t (0,0))):
  Ce w b 0 x0/\Ce w b 1 x1/\Ce w b 2 x2/\Ce w b 3 x3/\Ce w b 4 x4/\Ce w b 5 x5/\Ce w b 6 x6/\Ce w b 7 x7/\Ce w b 8 x8/\Ce w b 9 x9 /\
  Fr w b 3/\Fr w b 4/\Fr w b 5/\Fr w b 6/\Fr w b 7/\Fr w b 8:=
 ⟨rc h 0,rc h 1,rc h 2,rc h 3,rc h 4,rc h 5,rc h 6,rc h 7,rc h 8,rc h 9,
  rf h 3,rf h 4,rf h 5,rf h 6,rf h 7,rf h 8⟩
theorem Rd.jk {B:Nat}(h:Rd w R v L st)(a:∀g,v.ownBlock=some g->g<B)(b:R<B){p:Addr}(c:B<=p.block)(u:Value):Rd (w.setCell p u) R v L st:=by
 refine⟨by rw[wP _ _ _ _ aj];exact h.rd,?_,h.ne,h.lt,h.len,h.fin,h.nlo,h.nhi⟩;exact ownsRow_setCell_other h.own (λe=>by have:=a _ e;omega) u
theorem pjw (h:w.heap[b]?=some (.cells #[x0,x1,x2,x3,x4,x5,x6,x7,x8,x9] t (0,0)))(a c d:Value):
  (puts b [a,c,d] 3 w).heap[b]?=some (.cells #[x0,x1,x2,a,c,d,x6,x7,x8,x9] t (0,0)):=zqe _ _ h
theorem pjv (h:w.heap[b]?=some (.cells #[x0,x1,x2,x3,x4,x5,x6,x7,x8,x9] t (0,0)))(a c d:Value):
  (puts b [a,c,d] 6 w).heap[b]?=some (.cells #[x0,x1,x2,x3,x4,x5,a,c,d,x9] t (0,0)):=zqe _ _ h
def kv9:ByteArray:=⟨#[112,108,97,99,101]⟩
def yt (L:List Tok)(st:RS):PX×RS:=
 let k:=qm L og st
 if qo L [91] k.2 then
  let i:=qm L og (qy L [91] k.2)
  (.node 0 0 {op:=kv9,name:=k.1,index:=i.1,n:=0} .nil .nil,qy L [93] i.2)
 else (.node 0 0 {op:=kv9,name:=k.1,index:=zf,n:=0} .nil .nil,k.2)
theorem zyw (w:World)(R:Nat)(v:Value)(L:List Tok)(st:RS)(h:Rd w R v L st):
  qJ 222 #[.pointer (some ⟨R,0,none⟩)] w λe w'=>∃p,e=.returned p/\yj w.heap.size w' (yt L st).1 p/\Rd w' R v L (yt L st).2/\Kept R w w':=by
 go_enter func222,ntmps222
 go_wp2_with fail
 have d:R<w.heap.size:=wu h.rd;have c:=pG (mg h.own);refine(kzf og _ R v L st (h.below ((Below.refl _ _).alloc (wJ _) _)) rfl).mono ?_;rintro e w1 ⟨rfl,h1,l⟩;have u:=(l.block w.heap.size au aj).trans (heap_alloc_new _ _);have F:Kept R w w1:=((Kept.refl _ _).alloc _).trans l;obtain⟨M,d1,d2,d3,d4,d5,N,O,P,Q,S,T,U,V,W,X⟩:=qyb u;have f:=pG u;have B:=pG F;have Y:=pG h1;clear l h u F h1;have z:Hid (yt L st=if qo L [91] (qm L og st).2 then
  (.node 0 0 {op:=kv9,name:=(qm L og st).1,index:=(qm L og (qy L [91] (qm L og st).2)).1,n:=0} .nil .nil,qy L [93] (qm L og (qy L [91] (qm L og st).2)).2)
  else (.node 0 0 {op:=kv9,name:=(qm L og st).1,index:=zf,n:=0} .nil .nil,(qm L og st).2)):=rfl
 generalize qm L og st=k at *;unfold kx2;go_wp2_with fail
 refine(kjx [91] _ R v L k.2 ((((ku Y).jk (ku c) d au _).jk (ku c) d au _).jk (ku c) d au _)).mono ?_;rintro e w2 ⟨rfl,A,m⟩;have b:=(m.block w.heap.size (by simpa using wu (ku f)) aj).trans (pjw (ku f) _ _ _);have a:Kept R w w2:=((((ku B).jk au _).jk au _).jk au _).trans m;clear M d1 d2 d3 d4 d5 N O P Q S T U V W X m B Y f;cases hn:qo L [91] k.2
 ·have K:=pG b;have J:=pG a;have y:=pG A;rw[hn]at z;clear b a A hn;go_wp2
  go_ret
  rw[ku z];exact⟨_,rfl,⟨_,_,_,rfl,wJ _,ku K,rfl,rfl⟩,ku y,ku J⟩
 ·rw[hn]at z;have g:=pG b;have C:=pG a;have y:=pG A;clear b a A hn;go_wp2_with fail
  refine(kq0 [91] _ R v L k.2 (ku y)).mono ?_;rintro e w3 ⟨rfl,h3,q⟩;have H:=(q.block w.heap.size (wu (ku g)) aj).trans (ku g);have D:=pG ((ku C).trans q);have j:=pG H;have Z:=pG h3;clear q H h3 g C y;go_wp2_with fail
  refine(kzf og _ R v L _ (ku Z) rfl).mono ?_;rintro e w4 ⟨rfl,h4,s⟩;have x:=(s.block w.heap.size (wu (ku j)) aj).trans (ku j);obtain⟨M,d1,d2,d3,d4,d5,N,O,P,Q,S,T,U,V,W,X⟩:=qyb x;have a0:=pG ((ku D).trans s);have E:=pG x;have H4:=pG h4;clear s x h4 j D Z;generalize qm L og (qy L [91] k.2)=i at *;unfold kx2;go_wp2_with fail
  refine(kq0 [93] _ R v L i.2 ((((ku H4).jk (ku c) d au _).jk (ku c) d au _).jk (ku c) d au _)).mono ?_;rintro e w5 ⟨rfl,h5,t⟩;have I:=(t.block w.heap.size (by simpa using wu (ku E)) aj).trans (pjv (ku E) _ _ _);have G:Kept R w w5:=((((ku a0).jk au _).jk au _).jk au _).trans t;have K:=pG I;have J:=pG G;have H5:=pG h5;clear M d1 d2 d3 d4 d5 N O P Q S T U V W X t I G h5;go_wp2
  go_ret
  rw[ku z];exact⟨_,rfl,⟨_,_,_,rfl,wJ _,ku K,rfl,rfl⟩,ku H5,ku J⟩
def kvi:PX:=.node 0 0 {op:=⟨#[]⟩,name:=zf,index:=zf,n:=0} .nil .nil
def opX (o:ByteArray)(a b:PX):PX:=.node 0 0 {op:=o,name:=zf,index:=zf,n:=0} a b
def vza (n:Int):PX:=.node 0 0 {op:=kyp,name:=zf,index:=zf,n:=n} .nil .nil
def kq8 (t:ByteArray):Int:=if h:0<t.size then ((t[0]).toNat:Int)-48 else 0
def kqo:Nat->List ByteArray
 |0=>[⟨#[124]⟩]
 |1=>[⟨#[38]⟩]
 |2=>[⟨#[61,61]⟩,⟨#[33,61]⟩,⟨#[60]⟩]
 |_=>[⟨#[43]⟩,⟨#[45]⟩]
def kk3 (n:Nat)(t:Tok):Bool:=(kqo n).any (λs=>s.toList==t.text.toList)&&(t.kind.toList==pY)
def isConst (t:Tok):Bool:=(t.kind.toList==oU)&&((t.text.toList==oG)||(t.text.toList==oP)||(t.text.toList==oJ))
def qkd (t:Tok):Bool:=t.kind.toList==oQ
def zz0:ByteArray:=⟨#[33]⟩
def rX:Nat->Nat->PX->List Tok->RS->PX×RS
 |0,_,x,_,st=>(x,st)
 |f+1,tag,x,L,st=>
  if tag<4 then
   if st.bad then (kvi,st)
   else rX f (10+tag) (rX f (tag+1) .nil L st).1 L (rX f (tag+1) .nil L st).2
  else if tag<10 then
   if st.bad then (kvi,st) else rX f 20 .nil L st
  else if tag<20 then
   if st.bad then (x,st)
   else if kk3 (tag-10) (tk L st.at_) then
    if tag=12 then (opX (tk L st.at_).text x (rX f (tag-9) .nil L {st with at_:=st.at_+1}).1,(rX f (tag-9) .nil L {st with at_:=st.at_+1}).2)
    else rX f tag (opX (tk L st.at_).text x (rX f (tag-9) .nil L {st with at_:=st.at_+1}).1) L (rX f (tag-9) .nil L {st with at_:=st.at_+1}).2
   else (x,st)
  else
   if st.bad then (kvi,st)
   else if qo L [33] st then
    if tag=32 then (kvi,{st with bad:=true})
    else (opX zz0 (rX f (tag+1) .nil L (qy L [33] st)).1 .nil,(rX f (tag+1) .nil L (qy L [33] st)).2)
   else if qo L [40] st then ((rX f 0 .nil L (qy L [40] st)).1,qy L [41] (rX f 0 .nil L (qy L [40] st)).2)
   else if isConst (tk L st.at_) then (opX (tk L st.at_).text .nil .nil,{st with at_:=st.at_+1})
   else if qkd (tk L st.at_) then (vza (kq8 (tk L st.at_).text),{st with at_:=st.at_+1})
   else yt L st
theorem jh (L:List Tok)(s:List UInt8)(st:RS):st.at_<=(qy L s st).at_:=by
 unfold qy;split
 ·exact wJ _
 ·simp
theorem kq9 (L:List Tok)(s:List UInt8)(st:RS):st.at_<=(qm L s st).2.at_:=by
 unfold qm;split<;>simp
theorem zz2 (L:List Tok)(st:RS):st.at_<=(yt L st).2.at_:=by
 unfold yt;simp only;have h1:=kq9 L og st;split
 ·have a:=jh L [91] (qm L og st).2;have b:=kq9 L og (qy L [91] (qm L og st).2);have c:=jh L [93] (qm L og (qy L [91] (qm L og st).2)).2;exact rU h1 (rU a (rU b c))
 ·exact h1
theorem kx3:∀(f tag:Nat) (x:PX) (L:List Tok) (st:RS),st.at_<=(rX f tag x L st).2.at_
 |0,_,_,_,_=>wJ _
 |f+1,tag,x,L,st=>by
  have a:=kx3 f;rw[rX];split
  ·split
   ·exact wJ _
   ·exact rU (a _ _ _ _) (a _ _ _ _)
  ·split
   ·split
    ·exact wJ _
    ·exact a _ _ _ _
   ·split
    ·split
     ·exact wJ _
     ·split
      ·have h1:=a (tag-9) .nil L {st with at_:=st.at_+1};simp only at h1;split
       ·exact rU aj h1
       ·exact rU (rU aj h1) (a _ _ _ _)
      ·exact wJ _
    ·split
     ·exact wJ _
     ·split
      ·split
       ·exact wJ _
       ·exact rU (jh L [33] st) (a _ _ _ _)
      ·split
       ·exact rU (jh L [40] st) (rU (a _ _ _ _) (jh L [41] _))
       ·split
        ·simp
        ·split
         ·simp
         ·exact zz2 L st
def need (L:List Tok)(c:Nat)(st:RS):Nat:=if st.bad then 1 else 8*(L.length-st.at_)+c
theorem kv0 {s:List UInt8}  (hb:(qy L s st).bad=false):(qy L s st).at_=st.at_+1:=by
 unfold qy at hb |-;split at hb
 ·simp at hb
 ·rename_i h;rw[if_neg h]
theorem zyt {s:List UInt8}  {c d: Nat}(b:st.at_<L.length)(hb:st.bad=false)(e:c<=7)(g:1<=d)(a:need L d st<=f+1):need L c (qy L s st)<=f:=by
 unfold need at *;rw[hb]at a;simp only[wU,if_false]at a;split
 ·omega
 ·rename_i h;rw[kv0 iw];omega
end Go.Proofs.YtpmcnonmkghokaaGreatDoor

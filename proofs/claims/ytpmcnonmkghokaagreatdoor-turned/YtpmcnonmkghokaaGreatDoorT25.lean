import Derived.Test.YtpmcnonmkghokaaGreatDoorT24
import Derived.Test.YtpmcnonmkghokaaGreatDoorT00
import Derived.Test.YtpmcnonmkghokaaGreatDoorT02
import Derived.Test.YtpmcnonmkghokaaGreatDoorT08
set_option maxRecDepth 100000
set_option maxHeartbeats 0
set_option linter.unusedVariables false
set_option linter.unusedSimpArgs false
namespace Go.Proofs.YtpmcnonmkghokaaGreatDoor
open Go.RowKit
attribute [local go_sem ↓] Go.wp_at_zero Go.wp_at_succ
theorem jzr (w:World):Calls Tryz.prog 39 #[.bool true] w fun e w'=>e=.returned (.string mtx)∧w'=w:=by
 go_enter Tryz.func39,Tryz.ntmps39
 go_wp2
 go_ret
 exact ⟨rfl,rfl⟩
def kzl (c:Int)(n:Nat):Nat:=((if c<0 then -(c+1) else c) % n).toNat
theorem pick_any (c:Int)(n:Nat)(w:World)(h0:-9223372036854775808≤c)(h1:c≤9223372036854775807)(hn:0<n)(hn2:n≤1000000):Calls Tryz.prog 19 #[.int .i64 c,.int .i64 n] w fun e w'=>e=.returned (.int .i64 (kzl c n))∧kzl c n<n∧w'=w:=by
 have hnz:((n:Int)==0)=false:=by simp;omega
 have hnz':¬((n:Int)=0):=by omega
 by_cases hc:c<0
 ·have e:(kzl c n:Int)=(-(c+1)).tmod n:=by
   rw[kzl,if_pos hc,Jz (Jj _ (by omega)),Jv (by omega)]
  have hlt:kzl c n<n:=by
   have:=Ji (-(c+1)) (b:=(n:Int)) (by omega);have h3:=Jj (-(c+1)) (b:=(n:Int)) (by omega);rw[kzl,if_pos hc];omega
  have w1:IntKind.i64.wrap (c+1)=c+1:=by rw[nK];omega
  have w2:IntKind.i64.wrap (-(c+1))=-(c+1):=by rw[nK];omega
  have w3:IntKind.i64.wrap (-1+-c)=-1+-c:=by rw[nK];omega
  have w4:IntKind.i64.wrap ((-(c+1)).tmod n)=(-(c+1)).tmod n:=by rw[←e,nK];omega
  have HE:=hide e.symm;have HL:=hide hlt;clear e hlt;go_enter Tryz.func19,Tryz.ntmps19
  go_wp2
  go_ret
  exact ⟨kvd (by rw[←ku HE,Int.neg_tmod]),ku HL,rfl⟩
 ·have e:(kzl c n:Int)=c.tmod n:=by
   rw[kzl,if_neg hc,Jz (Jj _ (by omega)),Jv (by omega)]
  have hlt:kzl c n<n:=by
   have:=Ji c (b:=(n:Int)) (by omega);have h3:=Jj c (b:=(n:Int)) (by omega);rw[kzl,if_neg hc];omega
  have w4:IntKind.i64.wrap (c.tmod n)=c.tmod n:=by rw[←e,nK];omega
  have HE:=hide e.symm;have HL:=hide hlt;clear e hlt;go_enter Tryz.func19,Tryz.ntmps19
  go_wp2
  go_ret
  exact ⟨kvd (by rw[←ku HE,Jv (by omega)]),ku HL,rfl⟩
theorem str_eq {a:ByteArray}{l:List UInt8}(h:a.toList=l)(b:ByteArray)(hb:b.toList=l):a=b:=qxw (h.trans hb.symm)
theorem jyw (w:World):Calls Tryz.prog 15 #[] w fun e w'=>e=.returned (.bool true)∧Below w.heap.size w w':=by
 obtain ⟨r,hp,h1,h2,h3,h4,h5,h6,h7⟩:=jzn;have htxt:r.1.text=⟨#[91,105,100,108,101,32,99,114,105,116,32,105,100,108,101,93,32,49]⟩:=str_eq h1 _ (by decide +kernel);have hel:r.1.enabled.length=3:=by have:=congrArg List.length h2;simpa using this
 have he2:r.1.enabled[2]?=some ⟨#[112,117,116,40,49,41]⟩:=by
  have h9:(r.1.enabled.map (·.toList))[2]?=some [112,117,116,40,49,41]:=by rw[h2];rfl
  rw[lq] at h9;obtain ⟨x,hx,hx2⟩:=rQ.mp h9;rw[hx,str_eq hx2 ⟨#[112,117,116,40,49,41]⟩ (by decide +kernel)]
 have HMT:=hide jzr;have HC1:=hide (fun wx=>(show Calls Tryz.prog 16 #[.string mtx] wx fun e w'=>e=.returned (.tuple #[.int .i64 0,.int .i64 0])∧Below wx.heap.size wx w' from by have:=check_any mtx wx;rw[jwx] at this;exact this));have HC2:=hide (fun wx=>(show Calls Tryz.prog 16 #[.string ⟨#[115,101,116,32,112,32,52,59]⟩] wx fun e w'=>e=.returned (.tuple #[.int .i64 3,.int .i64 8])∧Below wx.heap.size wx w' from by have:=check_any jk8 wx;rw[jxz] at this;exact this));have HPL:=hide (fun (wx:World) (pa:Option Addr) (pn pc:Nat) (ho:wx.ownsRow 0 9 1 (.slice pa pn pc) 2 [.string qy4,.string getOne])=>zyh mtx wx [qy4,getOne] pa pn pc ho (by simp) r hp);clear hp h1 h2;generalize mtx=mm at *;go_enter Tryz.func15,Tryz.ntmps15
 go_wp2_with fail
 refine ((ku HMT) _).mono ?_;rintro e w0 ⟨rfl,rfl⟩;go_wp2_with fail
 refine ((ku HC1) _).mono ?_;rintro e w1 ⟨rfl,hb1⟩;have HB1:=hide hb1;have hs1:=hb1.size;clear hb1;go_wp2_with fail
 refine ((ku HC2) _).mono ?_;rintro e w2 ⟨rfl,hb2⟩;have HB2:=hide ((ku HB1).trans (hb2.mono hs1));have hs2:=hb2.size;clear hb2;go_wp2_with fail
 refine ((ku HMT) _).mono ?_;rintro e w3 ⟨rfl,rfl⟩;have HST:=hide (show (w3.alloc (.cells #[.string ⟨#[97,115,107,40,49,41]⟩,.string ⟨#[103,101,116,40,49,41]⟩] 9)).ownsRow 0 9 1 (.slice (some ⟨w3.heap.size,0,none⟩) 2 2) 2 [.string qy4,.string getOne] from ⟨rfl,Or.inr ⟨w3.heap.size,2,_,rfl,tu _,qy _ _,wW _,by unfold maxLen;omega,rfl,rfl⟩⟩);have HB3:=hide ((ku HB2).alloc (by omega) (.cells #[.string ⟨#[97,115,107,40,49,41]⟩,.string ⟨#[103,101,116,40,49,41]⟩] 9));go_wp2_with fail
 refine ((ku HPL) _ _ _ _ (ku HST)).mono ?_;rintro e w4 ⟨ea,en,ec,wa,wn,wc,ba,bn,bc,rfl,hp1,hp2,hp3,hb4⟩;rw[h3] at hp2;rw[h4] at hp3;rw[h5,h6,h7,htxt];obtain ⟨za,zc,ez,hv⟩:=zq hp1;injection ez with ez1 ez2 ez3;subst ez1;subst ez2;subst ez3;obtain ⟨g,rfl,hg1,hg2,hc⟩:=hv 2 (by omega);have e2:w4.cell? ⟨g,2,none⟩=some (.string ⟨#[112,117,116,40,49,41]⟩):=by rw[hc 2 (by omega),lq,he2];rfl
 obtain ⟨za,zc,ez,_⟩:=zq hp2;injection ez with ez1 ez2 ez3;subst ez1;subst ez2;subst ez3;obtain ⟨za,zc,ez,_⟩:=zq hp3;injection ez with ez1 ez2 ez3;subst ez1;subst ez2;subst ez3;rw[hel];have hs4:=hb4.size;have HB4:=hide ((ku HB3).trans (hb4.mono (by simp;omega)));clear hp1 hp2 hp3 hb4 hc hv HPL HC1 HC2 HMT;simp only[fP];go_wp2
 go_ret
 exact ⟨rfl,(ku HB4).alloc (by simp at hs4;omega) _⟩
def nxV (cs:List Int)(n k:Nat):Nat:=if k<cs.length then kzl (cs.getD k 0) n else 0
def nxA (cs:List Int)(k:Nat):Nat:=if k<cs.length then k+1 else k
theorem kye (cs:List Int)(k:Nat):nxA cs k≤k+1:=by unfold nxA;split<;>omega
theorem zyr (c:Int){n:Nat}(h:0<n):kzl c n<n:=by
 have h1:=Ji (if c<0 then -(c+1) else c) (b:=(n:Int)) (by omega);have h2:=Jj (if c<0 then -(c+1) else c) (b:=(n:Int)) (by omega);unfold kzl;omega
theorem kxo (cs:List Int){n:Nat}(k:Nat)(h:0<n):nxV cs n k<n:=by unfold nxV;split;exact zyr _ h;exact h
structure kqt (w:World)(R:Nat)(ca:Option Addr)(cc:Nat)(cs:List Int)(k:Nat):Prop where
 fd:w.heap[R]?=some (.cells #[.slice ca cs.length cc,.int .i64 k] 81 (0,0))
 num:∀ i (hi:i<cs.length),(∃ g o,ca=some ⟨g,o,none⟩∧g<R∧w.cell? ⟨g,o+i,none⟩=some (.int .i64 (cs.getD i 0)))∧-9223372036854775808≤cs.getD i 0∧cs.getD i 0≤9223372036854775807
theorem kqt.stay {w w':World}{R:Nat}{ca:Option Addr}{cc:Nat}{cs:List Int}{k:Nat}(h:kqt w R ca cc cs k)(hk:∀ b,b≤R→w'.heap[b]?=w.heap[b]?):kqt w' R ca cc cs k:=by
 refine ⟨by rw[hk R (wW _)];exact h.fd,fun i hi=>?_⟩;obtain ⟨⟨g,o,e,hg,hc⟩,hb⟩:=h.num i hi;refine ⟨⟨g,o,e,hg,?_⟩,hb⟩;unfold World.cell? at hc ⊢;rw[hk g (by omega)];exact hc
theorem kqt.below {w w':World}{R:Nat}{ca:Option Addr}{cc:Nat}{cs:List Int}{k:Nat}(h:kqt w R ca cc cs k)(hb:Below w.heap.size w w'):kqt w' R ca cc cs k:=by
 have hR:=wX h.fd;exact h.stay fun b hb'=>hb.block b (by omega)
theorem kqt.put {w:World}{R:Nat}{ca:Option Addr}{cc:Nat}{cs:List Int}{k:Nat}(h:kqt w R ca cc cs k):kqt (w.setCell ⟨R,1,none⟩ (.int .i64 ((k:Int)+1))) R ca cc cs (k+1):=by
 have hk:Kept R w (w.setCell ⟨R,1,none⟩ (.int .i64 ((k:Int)+1))):=(Kept.refl _ _).kki _ _;have hR:=wX h.fd;refine ⟨heap_setCell_same w R 1 _ _ _ h.fd,fun i hi=>?_⟩;obtain ⟨⟨g,o,e,hg,hc⟩,hb⟩:=h.num i hi;refine ⟨⟨g,o,e,hg,?_⟩,hb⟩;unfold World.cell? at hc ⊢;rw[hk.block g (by omega) (by omega)];exact hc
theorem qkg (w:World)(R n:Nat)(ca:Option Addr)(cc:Nat)(cs:List Int)(k:Nat)(h:kqt w R ca cc cs k)(hk:k≤100000)(hn:0<n)(hn2:n≤1000) :
  Calls Tryz.prog 40 #[.pointer (some ⟨R,0,none⟩),.int .i64 n] w fun e w'=>e=.returned (.int .i64 (nxV cs n k))∧kqt w' R ca cc cs (nxA cs k)∧Kept R w w':=by
 have hR:R<w.heap.size:=wX h.fd;have c0:w.cell? ⟨R,0,none⟩=some (.slice ca cs.length cc):=by rw[rD w R 0 _ _ _ h.fd];rfl
 have c1:w.cell? ⟨R,1,none⟩=some (.int .i64 k):=by rw[rD w R 1 _ _ _ h.fd];rfl
 have f1:=tY w R 1 _ _ h.fd;by_cases hlt:k<cs.length
 ·obtain ⟨⟨g,o,rfl,hg,hc⟩,hb0,hb1⟩:=h.num k hlt;have eV:nxV cs n k=kzl (cs.getD k 0) n:=by unfold nxV;rw[if_pos hlt]
  have eA:nxA cs k=k+1:=by unfold nxA;rw[if_pos hlt]
  rw[eV,eA];generalize hz:cs.getD k 0=z at *;have H:=hide h;have HP:=hide (fun wx=>pick_any z n wx hb0 hb1 hn (by omega));clear h hb0 hb1 hz eV eA;generalize hl:cs.length=len at *;go_enter Tryz.func40,Tryz.ntmps40
  go_wp2_with fail
  go_region
  go_wp2_with fail
  have wk:IntKind.i64.wrap (k:Int)=k:=by rw[nK];omega
  go_region_law ((go_simp;go_at_call 19;refine ((ku HP) _).mono ?_;rintro e w1 ⟨rfl,hpl,hw⟩;dsimp only))
  all_goals
   subst hw;go_wp2
   go_ret
   exact ⟨rfl,(ku H).put.stay fun _ _=>rfl,((Kept.refl _ _).kki _ _).drew.drew⟩
 ·have eV:nxV cs n k=0:=by unfold nxV;rw[if_neg hlt]
  have eA:nxA cs k=k:=by unfold nxA;rw[if_neg hlt]
  rw[eV,eA];have H:=hide h;clear h eV eA;generalize hl:cs.length=len at *;go_enter Tryz.func40,Tryz.ntmps40
  go_wp2_with fail
  go_region
  go_wp2
  go_ret
  exact ⟨rfl,(ku H).stay fun _ _=>rfl,(Kept.refl _ _).drew⟩
end Go.Proofs.YtpmcnonmkghokaaGreatDoor
namespace Go.Proofs.YtpmcnonmkghokaaGreatDoor
open Go.RowKit
def jh (d:Nat)(t:Tok):Tok:={ t with at_:=d+t.at_ }
def Piece (s:ByteArray)(d:Nat)(q:ByteArray):Prop:=d+q.size≤s.size∧∀ (i:Nat) (h:i<q.size) (h':d+i<s.size),s[d+i]=q[i]
theorem zjb {s q:ByteArray}{d:Nat}(h:Piece s d q){lo hi:Int}{i:Nat}(hi':i<q.size):inB lo hi s (d+i)=inB lo hi q i:=by
 unfold inB;have h1:d+i<s.size:=by have:=h.1;omega
 rw[dif_pos h1,dif_pos hi',h.2 i hi' h1]
theorem zyl {s q:ByteArray}{d:Nat}(h:Piece s d q){i:Nat}(hi':i<q.size):kz2 s (d+i)=kz2 q i:=by
 unfold kz2;have h1:d+i<s.size:=by have:=h.1;omega
 rw[dif_pos h1,dif_pos hi',h.2 i hi' h1]
theorem qzj {s q:ByteArray}{d:Nat}(h:Piece s d q){a b:Nat}(hb:b≤q.size):s.extract (d+a) (d+b)=q.extract a b:=by
 have h0:=h.1;apply ByteArray.ext_getElem
 ·rw[lV,lV];omega
 ·intro i h1 h2;rw[lV] at h1 h2;rw[Qh,Qh];have:=h.2 (a+i) (by omega) (by omega);simpa[Qp] using this
theorem vqa {s q:ByteArray}{d:Nat}(h:Piece s d q){i:Nat}(hi':i<q.size):s.get! (d+i)=q.get! i:=by
 have a1:∀ (b:ByteArray) (i:Nat) (hb:i<b.size),b.get! i=b[i]:=fun b i hb=>getElem!_pos b.data i hb
 have h1:d+i<s.size:=by have:=h.1;omega
 rw[a1 _ _ h1,a1 _ _ hi',h.2 i hi' h1]
theorem jwh {q:ByteArray}{i:Nat}(h:kz2 q i=true){lo hi:Int}(hlo:32<lo):inB lo hi q i=false:=by
 unfold kz2 at h;unfold inB;split at h
 ·rename_i hi';rw[dif_pos hi'];simp only[lg,wP] at h;have:¬lo≤((q[i]).toNat:Int):=by omega
  simp[this]
 ·cases h
theorem jkb {s q:ByteArray}{d:Nat}(h:Piece s d q)(hl:kz2 q (q.size-1)=true):∀ (f i:Nat),i<q.size→kjf f s (d+i)=d+kjf f q i∧kjf f q i<q.size
 | 0,i,hi=>⟨rfl,hi⟩
 | f+1,i,hi=>by
  rw[kjf,kjf,show kj9 s (d+i)=kj9 q i from zjb h hi];by_cases e:kj9 q i=true
  ·have:i≠q.size-1:=fun e'=>by
    have:=jwh hl (lo:=97) (hi:=122) (by omega);rw[←e'] at this;unfold kj9 at e;rw[this] at e;cases e
   rw[if_pos e,if_pos e];exact jkb h hl f (i+1) (by omega)
  ·rw[if_neg e,if_neg e];exact ⟨rfl,hi⟩
theorem vvg {s q:ByteArray}{d:Nat}(h:Piece s d q)(hl:kz2 q (q.size-1)=true){i:Nat}(hi:i<q.size)(hb:kz2 q i=false):jg s (d+i)=jh d (jg q i)∧i+(jg q i).text.size≤q.size:=by
 have h0:=h.1;have hn:i+1<q.size:=by
  have:i≠q.size-1:=fun e'=>by rw[e'] at hb;rw[hl] at hb;cases hb
  omega
 have e1:kj9 s (d+i)=kj9 q i:=zjb h hi;have e2:kjq s (d+i)=kjq q i:=zjb h hi;have e3:kjq s (d+i+1)=kjq q (i+1):=zjb h hn;have e4:ky7 s (d+i)=ky7 q i:=by
  unfold ky7;rw[show d+i+2=d+(i+2) by omega,qzj h (a:=i) (b:=i+2) (by omega),sD (show d+i+1<s.size by omega),sD hn]
 have e5:kwn s (d+i)=kwn q i:=by unfold kwn;rw[vqa h hi]
 obtain ⟨e6,e7⟩:=jkb h hl 801 i hi;have e8:s.extract (d+i) (d+i+1)=q.extract i (i+1):=qzj h (a:=i) (b:=i+1) (by omega);have e9:s.extract (d+i) (d+i+2)=q.extract i (i+2):=qzj h (a:=i) (b:=i+2) (by omega);have e10:s.extract (d+i) (d+kjf 801 q i)=q.extract i (kjf 801 q i):=qzj h (by omega);unfold jg;rw[e1,e2,e3,e4,e5,e6,e8,e9];dsimp only;rw[e10];unfold jh;refine ⟨by split<;>(try rfl)<;>split<;>(try rfl)<;>split<;>rfl,?_⟩;split
 ·rw[lV];omega
 ·split
  ·rw[lV];omega
  ·split<;>(rw[lV];omega)
theorem kwg:∀ (f:Nat) (s:ByteArray) (k:Nat) (acc:List Tok),kqj f s k acc=(acc++(kqj f s k []).1,(kqj f s k []).2)
 | 0,s,k,acc=>by rw[kqj,kqj];simp
 | f+1,s,k,acc=>by
  rw[kqj,kqj];split
  ·split
   ·rw[kwg f s (k+1) acc]
   ·split
    ·simp
    ·rw[kwg f s _ (acc++[jg s k]),kwg f s _ ([]++[jg s k])];simp
  ·simp
theorem ext_size {s:ByteArray}{a b:Nat}(h:a<b)(ha:a<s.size):0<(s.extract a b).size:=by rw[lV];omega
theorem jxa:∀ (f:Nat) (s:ByteArray) (i:Nat),i≤kjf f s i
 | 0,_,_=>wW _
 | f+1,s,i=>by
  rw[kjf];split
  ·have:=jxa f s (i+1);omega
  ·exact wW _
theorem zvw {s:ByteArray}{k:Nat}(h:k<s.size):0<(jg s k).text.size:=by
 unfold jg;split
 ·rename_i e;have:k+1≤kjf 801 s k:=by rw[kjf,if_pos e];exact jxa _ _ _
  exact ext_size (by omega) h
 ·split
  ·exact ext_size (by omega) h
  ·split<;>exact ext_size (by omega) h
theorem qj5:∀ (f f':Nat) (s:ByteArray) (k:Nat) (acc:List Tok),s.size-k<f→s.size-k<f'→kqj f s k acc=kqj f' s k acc
 | 0,_,s,k,acc,h,_=>by omega
 | _+1,0,s,k,acc,_,h=>by omega
 | f+1,f'+1,s,k,acc,h1,h2=>by
  rw[kqj,kqj];split
  ·rename_i hk;split
   ·exact qj5 f f' s (k+1) acc (by omega) (by omega)
   ·split
    ·rfl
    ·have:=zvw hk;exact qj5 f f' s _ _ (by omega) (by omega)
  ·rfl
theorem zvv:∀ (g:Nat) (q:ByteArray) (k:Nat),q.size-k<g→(kqj g q k []).2=none→(kqj g q k []).1≠[]
 | 0,q,k,h,_=>by omega
 | g+1,q,k,hk',h2=>by
  intro h3;rw[kqj] at h2 h3;split at h2
  ·rename_i h6;rw[if_pos h6] at h3;split at h2
   ·rename_i h7;rw[if_pos h7] at h3;exact zvv g q _ (by omega) h2 h3
   ·rename_i h7;rw[if_neg h7] at h3;split at h2
    ·cases h2
    ·rename_i h8;rw[if_neg h8,kwg] at h3;simp at h3
  ·rename_i h6;rw[if_neg h6] at h3;simp at h3
theorem jx1 {s q:ByteArray}{d:Nat}(h:Piece s d q)(hl:kz2 q (q.size-1)=true):∀ (g i:Nat) (ts acc:List Tok) (f f':Nat),i≤q.size→q.size-i<g →
  kqj g q i []=(ts++[kq2 q.size],none)→s.size-(d+i)<f→s.size-(d+q.size)<f'→kqj f s (d+i) acc=kqj f' s (d+q.size) (acc++ts.map (jh d))
 | 0,i,ts,acc,f,f',_,hg,_,_,_=>by omega
 | g+1,i,ts,acc,0,f',_,_,_,hf,_=>by omega
 | g+1,i,ts,acc,f+1,f',hi,hg,ht,hf,hf'=>by
  have h0:=h.1;rw[kqj] at ht;by_cases hk:i<q.size
  ·rw[if_pos hk] at ht;rw[kqj,if_pos (by omega),zyl h hk];by_cases hb:kz2 q i=true
   ·rw[if_pos hb] at ht ⊢;exact jx1 h hl g (i+1) ts acc f f' (by omega) (by omega) ht (by omega) hf'
   ·have hb':kz2 q i=false:=by simpa using hb
    obtain ⟨e1,e2⟩:=vvg h hl hk hb';have e3:=zvw hk;rw[if_neg hb] at ht ⊢;rw[e1];by_cases hk0:(jg q i).kind.toList.isEmpty=true
    ·rw[if_pos hk0] at ht;simp at ht
    ·rw[if_neg hk0] at ht;rw[if_neg (show ¬(jh d (jg q i)).kind.toList.isEmpty=true from hk0)];rw[kwg,lK] at ht;simp only[Prod.mk.injEq,JD] at ht;cases ts with
     | nil=>
      have:=ht.1;simp at this;exact absurd this.2 (zvv g q _ (by omega) ht.2)
     | cons t ts=>
      have h6:=ht.1;simp only[fD,List.cons.injEq] at h6;obtain ⟨h7,h8⟩:=h6;rw[lC,←h7,show acc++jh d (jg q i)::ts.map (jh d)=(acc++[jh d (jg q i)])++ts.map (jh d) by simp,show d+i+(jh d (jg q i)).text.size=d+(i+(jg q i).text.size) by simp[jh];omega];exact jx1 h hl g _ ts _ f f' e2 (by omega) (by rw[←h8,←ht.2]) (by omega) hf'
  ·rw[if_neg hk] at ht;obtain rfl:i=q.size:=by omega
   simp at ht;subst ht;rw[JQ,ni];exact qj5 _ _ _ _ _ (by omega) hf'
def shR (d:Nat)(st:RS):RS:={ st with at_:=d+st.at_ }
def sh2 {α:Type}(d:Nat)(r:α × RS):α × RS:=(r.1,shR d r.2)
theorem kwk (L:List Tok)(d i:Nat):tk L (d+i)=tk (L.drop d) i:=by
 unfold tk;rw[l9,l9,Qs]
theorem kzr (L:List Tok)(s:List UInt8)(d:Nat)(st:RS):ql L s (shR d st)=ql (L.drop d) s st:=by
 unfold ql shR;rw[kwk]
theorem kzn (L:List Tok)(s:List UInt8)(d:Nat)(st:RS):qg L s (shR d st)=shR d (qg (L.drop d) s st):=by
 unfold qg;rw[kzr];split<;>rename_i h<;>simp only[shR] at h ⊢<;>first|rw[if_pos h]|rw[if_neg h]
 simp[Qp]
theorem qvy (L:List Tok)(s:List UInt8)(d:Nat)(st:RS):qh L s (shR d st)=sh2 d (qh (L.drop d) s st):=by
 have e:kq1 L s (shR d st)=kq1 (L.drop d) s st:=by unfold kq1 shR;rw[kwk]
 unfold qh;rw[e];split
 ·simp[sh2,shR,kwk,Qp]
 ·rfl
theorem qv8 {α:Type}(d:Nat)(r:α × RS):(sh2 d r).1=r.1:=rfl
theorem kyv {α:Type}(d:Nat)(r:α × RS):(sh2 d r).2=shR d r.2:=rfl
theorem zk5 (L:List Tok)(d:Nat)(st:RS):vg L (shR d st)=sh2 d (vg (L.drop d) st):=by
 unfold vg;simp only[qvy,qv8,kyv,kzr,kzn];split<;>rfl
theorem zvd (d:Nat)(st:RS):(shR d st).bad=st.bad:=rfl
theorem vv8 (d:Nat)(st:RS):(shR d st).at_=d+st.at_:=rfl
theorem zk1 (L:List Tok)(d:Nat):∀ (f tag:Nat) (x:PX) (st:RS),rX f tag x L (shR d st)=sh2 d (rX f tag x (L.drop d) st)
 | 0,_,_,_=>rfl
 | f+1,tag,x,st=>by
  have ih:=zk1 L d f;rw[rX,rX];simp only[zvd,vv8,kwk,kzr,kzn,ih,qv8,kyv,zk5];have e1:(⟨d+st.at_+1,(shR d st).nest,st.bad⟩:RS)=shR d ⟨st.at_+1,st.nest,st.bad⟩:=by rw[Qp];rfl
  rw[e1];simp only[ih,qv8,kyv];repeat' split
  all_goals rfl
theorem vvv (L:List Tok)(d:Nat)(st:RS):rPP L (shR d st)=sh2 d (rPP (L.drop d) st):=by
 unfold rPP;simp only[qvy,qv8,kyv,kzn];rfl
theorem jkg (L:List Tok)(d:Nat):∀ (f:Nat) (l:List PP) (st:RS),kk6 f L l (shR d st)=sh2 d (kk6 f (L.drop d) l st)
 | 0,_,_=>rfl
 | f+1,l,st=>by
  have ih:=jkg L d f;rw[kk6,kk6];simp only[zvd,vvv,qv8,kyv,kzr,kzn,ih];repeat' split
  all_goals rfl
def qqx (f:Nat)(L:List Tok)(st:RS):List PP × RS:=
 if ql L [41] (qg L [40] st) then ([],qg L [41] (qg L [40] st))
 else ((kk6 f L [] (qg L [40] st)).1,qg L [41] (kk6 f L [] (qg L [40] st)).2)
theorem zk6 (L:List Tok)(st:RS):kqr L st=qqx (pz L) L st:=rfl
theorem zjq (L:List Tok)(d f:Nat)(st:RS):qqx f L (shR d st)=sh2 d (qqx f (L.drop d) st):=by
 unfold qqx;simp only[kzn,kzr,jkg,qv8,kyv];split<;>rfl
def zyb (f:Nat)(blk:RS→PB × RS)(L:List Tok)(st:RS):PB × RS:=
 if ql L [105,102] st then
  let c:=rX f 0 .nil L (qg L [105,102] st)
  let b:=blk c.2
  if ql L [101,108,115,101] b.2 then
   let e:=blk (qg L [101,108,115,101] b.2)
   (ifS c.1 b.1 e.1,e.2)
  else (ifS c.1 b.1 .nil,b.2)
 else
  let p:=vg L st
  let v:=rX f 0 .nil L (qg L [61] p.2)
  (zq4 p.1 v.1,qg L [59] v.2)
theorem vwd (blk:RS→PB × RS)(L:List Tok)(st:RS):rDo blk L st=zyb (ji L) blk L st:=rfl
def rSF (x:Nat):Nat→Nat→List Tok→RS→PB × RS
 | 0,_,_,st=>(.nil,st)
 | f+1,0,L,st=>((rSF x f 1 L (qg L [123] st)).1,qg L [125] (rSF x f 1 L (qg L [123] st)).2)
 | f+1,_+1,L,st=>
  if ql L [125] st||st.bad then (.nil,st)
  else (kz8 (zyb x (rSF x f 0 L) L st).1 (rSF x f 1 L (zyb x (rSF x f 0 L) L st).2).1,(rSF x f 1 L (zyb x (rSF x f 0 L) L st).2).2)
theorem vx3 (L:List Tok):∀ (f tag:Nat) (st:RS),rS f tag L st=rSF (ji L) f tag L st
 | 0,_,_=>rfl
 | f+1,0,st=>by rw[rS,rSF,vx3 L f]
 | f+1,_+1,st=>by
  rw[rS,rSF];have e:rS f 0 L=rSF (ji L) f 0 L:=funext fun st=>vx3 L f 0 st
  rw[e,vwd,vx3 L f]
theorem vx5 (L:List Tok)(d f:Nat)(b b':RS→PB × RS)(hb:∀ st,b (shR d st)=sh2 d (b' st))(st:RS):zyb f b L (shR d st)=sh2 d (zyb f b' (L.drop d) st):=by
 unfold zyb;simp only[kzr,kzn,zk1,zk5,qv8,kyv,hb];repeat' split
 all_goals rfl
theorem zj9 (L:List Tok)(d x:Nat):∀ (f tag:Nat) (st:RS),rSF x f tag L (shR d st)=sh2 d (rSF x f tag (L.drop d) st)
 | 0,_,_=>rfl
 | f+1,0,st=>by
  have ih:=zj9 L d x f;rw[rSF,rSF];simp only[kzn,ih,qv8,kyv];rfl
 | f+1,_+1,st=>by
  have ih:=zj9 L d x f;rw[rSF,rSF];have e:=vx5 L d x (rSF x f 0 L) (rSF x f 0 (L.drop d)) (fun s=>ih 0 s);simp only[kzr,zvd,e,ih,qv8,kyv];split<;>rfl
def qkw (j:Bool):List UInt8:=if j then [106] else [105]
def jwy (j:Bool)(k:Nat):List UInt8:=if k=0 then qkw j else if k=1 then [118] else ([109,91]++qkw j)++[93]
def kkr (x y z:Bool)(k n:Nat):List UInt8:=
 if n=0 then [116,114,117,101] else if n=1 then ([110,91]++qkw x)++[93,32,60,32,50] else if n=2 then ((([110,91]++qkw x)++[93,32,61,61,32,110,91])++qkw y)++[93]
 else if n=3 then [118,32,61,61,32]++jwy z k else if n=4 then [118,32,33,61,32]++jwy z k else if n=5 then ([109,91]++qkw x)++[93,32,61,61,32,110,111,110,101]
 else if n=6 then ([40,118,32,61,61,32,110,111,110,101,32,124,32,110,91]++qkw x)++[93,32,61,61,32,49,41] else ((([33,40]++qkw x)++[32,61,61,32])++jwy z k)++[41]
def qjr (x z:Bool)(k d n:Nat):List UInt8:=
 if n=0 then ([118,32,61,32]++jwy z k)++[59,32] else if n=1 then ((([109,91]++qkw x)++[93,32,61,32])++jwy z k)++[59,32]
 else if n=2 then ((([110,91]++qkw x)++[93,32,61,32])++[(48+d).toUInt8])++[59,32] else if n=3 then [118,32,61,32,110,111,110,101,59,32]
 else if n=4 then ((((((([105,102,32,110,91]++qkw x)++[93,32,60,32,50,32,123,32,110,91])++qkw x)++[93,32,61,32,110,91])++qkw x)++[93,32,43,32,49,59,32,125,32,101,108,115,101,32,123,32,110,91])++qkw x)++[93,32,61,32,48,59,32,125,32]
 else ([109,91]++qkw x)++[93,32,61,32,110,111,110,101,59,32]
def pcT (q:List UInt8):List Tok:=(kqj (q.length+1) ⟨q.toArray⟩ 0 []).1.dropLast
def qqu (q:List UInt8):Bool:=((kqj (q.length+1) ⟨q.toArray⟩ 0 []).2==none)&&(((kqj (q.length+1) ⟨q.toArray⟩ 0 []).1.getLast?.map fun t=>t.at_==q.length&&t.kind.toList==jwn.toList&&t.text.toList==[])==some true)&&kz2 ⟨q.toArray⟩ (q.length-1)
theorem jwi:∀ (x y z:Bool) (k:Fin 3) (n:Fin 8),qqu (kkr x y z k n++[32])=true:=by decide +kernel
theorem vq6:∀ (x z:Bool) (k d:Fin 3) (n:Fin 6),qqu (qjr x z k d n)=true:=by decide +kernel
def zq5 (j:Bool):ByteArray:=if j then ⟨#[106]⟩ else ⟨#[105]⟩
def plX (a:ByteArray)(i:Tok)(p:Nat):PX:=.node 0 0 { op:=kkb,name:=⟨kq4,a,p⟩,index:=i,n:=0 } .nil .nil
def pTk (j:Bool)(p:Nat):Tok:=⟨kq4,zq5 j,p⟩
def vjw (j:Bool)(k p:Nat):PX:=if k=0 then plX (zq5 j) jk p else if k=1 then plX ⟨#[118]⟩ jk p else plX ⟨#[109]⟩ (pTk j (p+2)) p
def vjy (k:Nat):Nat:=if k=0 then 1 else if k=1 then 1 else 4
def gdX (x y z:Bool)(k n d:Nat):PX:=
 if n=0 then opX ⟨#[116,114,117,101]⟩ .nil .nil else if n=1 then opX ⟨#[60]⟩ (plX ⟨#[110]⟩ (pTk x (d+2)) d) (zq8 2) else if n=2 then opX ⟨#[61,61]⟩ (plX ⟨#[110]⟩ (pTk x (d+2)) d) (plX ⟨#[110]⟩ (pTk y (d+10)) (d+8))
 else if n=3 then opX ⟨#[61,61]⟩ (plX ⟨#[118]⟩ jk d) (vjw z k (d+5)) else if n=4 then opX ⟨#[33,61]⟩ (plX ⟨#[118]⟩ jk d) (vjw z k (d+5)) else if n=5 then opX ⟨#[61,61]⟩ (plX ⟨#[109]⟩ (pTk x (d+2)) d) (opX ⟨#[110,111,110,101]⟩ .nil .nil)
 else if n=6 then opX ⟨#[124]⟩ (opX ⟨#[61,61]⟩ (plX ⟨#[118]⟩ jk (d+1)) (opX ⟨#[110,111,110,101]⟩ .nil .nil)) (opX ⟨#[61,61]⟩ (plX ⟨#[110]⟩ (pTk x (d+15)) (d+13)) (zq8 1))
 else opX ⟨#[33]⟩ (opX ⟨#[61,61]⟩ (plX (zq5 x) jk (d+2)) (vjw z k (d+7))) .nil
def gdN (k n:Nat):Nat:=if n=0 then 1 else if n=1 then 6 else if n=2 then 9 else if n=3 then 2+vjy k else if n=4 then 2+vjy k else if n=5 then 6 else if n=6 then 12 else 5+vjy k
def gdL (x y z:Bool)(k n d:Nat)(r:List Tok):List Tok:=(pcT (kkr x y z k n++[32])).map (jh d)++r
def kw3 (a:Nat):Tok:=⟨kwq,⟨#[123]⟩,a⟩
def ky8 (a:Nat):Tok:=⟨kwq,⟨#[38]⟩,a⟩
theorem jx8 (f d a:Nat)(r:List Tok)(x y z:Bool)(k n:Nat)(hk:k<3)(hn:n<8):rX (f+60) 0 .nil (gdL x y z k n d (kw3 a::r)) ⟨0,0,false⟩=(gdX x y z k n d,⟨gdN k n,0,false⟩):=by
 rcases (show n=0∨n=1∨n=2∨n=3∨n=4∨n=5∨n=6∨n=7 by omega) with rfl|rfl|rfl|rfl|rfl|rfl|rfl|rfl<;>rcases (show k=0∨k=1∨k=2 by omega) with rfl|rfl|rfl<;>cases x<;>cases y<;>cases z<;>kernel_rfl
theorem qyr (f d a:Nat)(r:List Tok)(k n:Nat)(hk:k<3)(hn:n<8):rX (f+60) 2 .nil (gdL false false false k n d (ky8 a::r)) ⟨0,0,false⟩=(gdX false false false k n d,⟨gdN k n,0,false⟩):=by
 rcases (show n=0∨n=1∨n=2∨n=3∨n=4∨n=5∨n=6∨n=7 by omega) with rfl|rfl|rfl|rfl|rfl|rfl|rfl|rfl<;>rcases (show k=0∨k=1∨k=2 by omega) with rfl|rfl|rfl<;>kernel_rfl
theorem vvn (x y z:Bool)(k n:Nat)(hk:k<3)(hn:n<8):(pcT (kkr x y z k n++[32])).length=gdN k n:=by
 rcases (show n=0∨n=1∨n=2∨n=3∨n=4∨n=5∨n=6∨n=7 by omega) with rfl|rfl|rfl|rfl|rfl|rfl|rfl|rfl<;>rcases (show k=0∨k=1∨k=2 by omega) with rfl|rfl|rfl<;>cases x<;>cases y<;>cases z<;>kernel_rfl
end Go.Proofs.YtpmcnonmkghokaaGreatDoor
namespace Go.Proofs.YtpmcnonmkghokaaGreatDoor
open Go.RowKit
attribute [local go_sem ↓] Go.wp_at_zero Go.wp_at_succ
def qvg (cs:List Int)(two:Bool)(k:Nat):Bool:=two&&(nxV cs 2 k==1)
def kq8 (cs:List Int)(two:Bool)(k:Nat):Nat:=if two then nxA cs k else k
theorem kyc (cs:List Int)(two:Bool)(k:Nat):kq8 cs two k≤k+1:=by
 unfold kq8;split
 ·exact kye cs k
 ·omega
theorem jkm (w:World)(R:Nat)(two:Bool)(ca:Option Addr)(cc:Nat)(cs:List Int)(k:Nat)(h:kqt w R ca cc cs k)(hk:k≤100000) :
  Calls Tryz.prog 73 #[.pointer (some ⟨R,0,none⟩),.bool two] w fun e w'=>e=.returned (.string (zq5 (qvg cs two k)))∧kqt w' R ca cc cs (kq8 cs two k)∧Kept R w w':=by
 cases two
 ·go_enter Tryz.func73,Tryz.ntmps73
  go_wp2
  go_ret
  exact ⟨rfl,h,Kept.refl _ _⟩
 ·have HN:=hide (qkg w R 2 ca cc cs k h hk (by omega) (by omega));have hv:nxV cs 2 k=0∨nxV cs 2 k=1:=by have:=kxo cs (n:=2) k (by omega);omega
  have eV:qvg cs true k=(nxV cs 2 k==1):=rfl;have eA:kq8 cs true k=nxA cs k:=rfl;rw[eV,eA];clear h eV eA;generalize nxV cs 2 k=v at *;generalize nxA cs k=k' at *;rcases hv with rfl|rfl
  ·go_enter Tryz.func73,Tryz.ntmps73
   go_wp2_with fail
   refine (ku HN).mono ?_;rintro e w1 ⟨rfl,h1,hk1⟩;go_wp2
   go_ret
   exact ⟨rfl,h1,hk1⟩
  ·go_enter Tryz.func73,Tryz.ntmps73
   go_wp2_with fail
   refine (ku HN).mono ?_;rintro e w1 ⟨rfl,h1,hk1⟩;go_wp2
   go_ret
   exact ⟨rfl,h1,hk1⟩
def zxv (cs:List Int)(two:Bool)(k:Nat):Nat:=nxV cs 3 (kq8 cs two k)
def kv3 (cs:List Int)(two:Bool)(k:Nat):Nat:=nxA cs (kq8 cs two k)
def jzs (j:Bool)(k:Nat):ByteArray:=⟨(jwy j k).toArray⟩
theorem jqq (w:World)(R:Nat)(two:Bool)(ca:Option Addr)(cc:Nat)(cs:List Int)(k:Nat)(h:kqt w R ca cc cs k)(hk:k≤90000) :
  Calls Tryz.prog 74 #[.pointer (some ⟨R,0,none⟩),.bool two] w fun e w'=>e=.returned (.string (jzs (qvg cs two k) (zxv cs two k)))∧kqt w' R ca cc cs (kv3 cs two k)∧Kept R w w':=by
 have HO:=hide (jkm w R two ca cc cs k h (by omega));have ha:=kyc cs two k;have HN:=hide (fun (wx:World) (hx:kqt wx R ca cc cs (kq8 cs two k))=>qkg wx R 3 ca cc cs (kq8 cs two k) hx (by omega) (by omega) (by omega));have hv:zxv cs two k<3:=kxo _ _ (by omega);have eV:nxV cs 3 (kq8 cs two k)=zxv cs two k:=rfl;have eA:nxA cs (kq8 cs two k)=kv3 cs two k:=rfl;have hRl:R<w.heap.size:=wX h.fd;rw[eV,eA] at HN;clear h eV eA ha;generalize zxv cs two k=v at *;generalize kv3 cs two k=k2 at *;generalize qvg cs two k=j at *;generalize kq8 cs two k=k1 at *;go_enter Tryz.func74,Tryz.ntmps74
 go_wp2_with fail
 refine (ku HO).mono ?_;rintro e w1 ⟨rfl,h1,hk1⟩;have H1:=hide h1;have HK1:=hide hk1;have hs1:=hk1.size;clear h1 hk1 HO;obtain ⟨X,hX⟩:∃ X,X=zq5 j:=⟨_,rfl⟩;have hXs:X.size=1:=by rw[hX];cases j<;>rfl
 have HX:=hide hX;rw[←hX];clear hX;have HB:=hide (below_alloc1 w1 (.cells #[.string X,.string ⟨#[118]⟩,.string (⟨#[109,91]⟩++X++⟨#[93]⟩)] 9));have HC:=hide (qy w1 (.cells #[.string X,.string ⟨#[118]⟩,.string (⟨#[109,91]⟩++X++⟨#[93]⟩)] 9));have HF:=hide ((ku H1).below (ku HB));go_wp2_with fail
 refine ((ku HN) _ (ku HF)).mono ?_;rintro e w2 ⟨rfl,h2,hk2⟩;have hb2:=(hk2.block w1.heap.size (by simp) (by omega)).trans (ku HC);have q0:w2.cell? ⟨w1.heap.size,0,none⟩=some (.string X):=by rw[rD w2 w1.heap.size 0 _ _ _ hb2];rfl
 have q1:w2.cell? ⟨w1.heap.size,1,none⟩=some (.string ⟨#[118]⟩):=by rw[rD w2 w1.heap.size 1 _ _ _ hb2];rfl
 have q2:w2.cell? ⟨w1.heap.size,2,none⟩=some (.string (⟨#[109,91]⟩++X++⟨#[93]⟩)):=by rw[rD w2 w1.heap.size 2 _ _ _ hb2];rfl
 have H2:=hide h2;have HK2:=hide (((ku HK1).trans (Kept.of_below (ku HB))).trans hk2);clear h2 hk2 hb2 HC HF HB H1 HK1 HN;rcases (show v=0∨v=1∨v=2 by omega) with rfl|rfl|rfl
 ·go_wp2
  go_ret
  exact ⟨by rw[ku HX];cases j<;>kernel_rfl,ku H2,ku HK2⟩
 ·go_wp2
  go_ret
  exact ⟨by cases j<;>kernel_rfl,ku H2,ku HK2⟩
 ·go_wp2
  go_ret
  exact ⟨by rw[ku HX];cases j<;>kernel_rfl,ku H2,ku HK2⟩
end Go.Proofs.YtpmcnonmkghokaaGreatDoor
namespace Go.Proofs.YtpmcnonmkghokaaGreatDoor
open Go.RowKit
def stX (x z:Bool)(k e n d:Nat):PB:=
 if n=0 then zq4 (plX ⟨#[118]⟩ jk d) (vjw z k (d+4)) else if n=1 then zq4 (plX ⟨#[109]⟩ (pTk x (d+2)) d) (vjw z k (d+7)) else if n=2 then zq4 (plX ⟨#[110]⟩ (pTk x (d+2)) d) (zq8 e) else if n=3 then zq4 (plX ⟨#[118]⟩ jk d) (opX ⟨#[110,111,110,101]⟩ .nil .nil)
 else if n=4 then ifS (opX ⟨#[60]⟩ (plX ⟨#[110]⟩ (pTk x (d+5)) (d+3)) (zq8 2)) (zq4 (plX ⟨#[110]⟩ (pTk x (d+16)) (d+14)) (opX ⟨#[43]⟩ (plX ⟨#[110]⟩ (pTk x (d+23)) (d+21)) (zq8 1))) (zq4 (plX ⟨#[110]⟩ (pTk x (d+42)) (d+40)) (zq8 0))
 else zq4 (plX ⟨#[109]⟩ (pTk x (d+2)) d) (opX ⟨#[110,111,110,101]⟩ .nil .nil)
def stN (k n:Nat):Nat:=if n=0 then 3+vjy k else if n=1 then 6+vjy k else if n=2 then 7 else if n=3 then 4 else if n=4 then 31 else 7
def stL (x z:Bool)(k e n d:Nat)(r:List Tok):List Tok:=(pcT (qjr x z k e n)).map (jh d)++r
theorem jvt (f h d:Nat)(r:List Tok)(x z:Bool)(k e n:Nat)(hk:k<3)(he:e<3)(hn:n<6):zyb (f+60) (rSF (f+60) (h+20) 0 (stL x z k e n d r)) (stL x z k e n d r) ⟨0,1,false⟩=(stX x z k e n d,⟨stN k n,1,false⟩):=by
 rcases (show n=0∨n=1∨n=2∨n=3∨n=4∨n=5 by omega) with rfl|rfl|rfl|rfl|rfl|rfl<;>rcases (show k=0∨k=1∨k=2 by omega) with rfl|rfl|rfl<;>rcases (show e=0∨e=1∨e=2 by omega) with rfl|rfl|rfl<;>cases x<;>cases z<;>kernel_rfl
theorem jvr (d:Nat)(r:List Tok)(x z:Bool)(k e n:Nat)(hk:k<3)(he:e<3)(hn:n<6):ql (stL x z k e n d r) [125] ⟨0,1,false⟩=false:=by
 rcases (show n=0∨n=1∨n=2∨n=3∨n=4∨n=5 by omega) with rfl|rfl|rfl|rfl|rfl|rfl<;>rcases (show k=0∨k=1∨k=2 by omega) with rfl|rfl|rfl<;>rcases (show e=0∨e=1∨e=2 by omega) with rfl|rfl|rfl<;>cases x<;>cases z<;>kernel_rfl
theorem st_len (x z:Bool)(k e n:Nat)(hk:k<3)(he:e<3)(hn:n<6):(pcT (qjr x z k e n)).length=stN k n:=by
 rcases (show n=0∨n=1∨n=2∨n=3∨n=4∨n=5 by omega) with rfl|rfl|rfl|rfl|rfl|rfl<;>rcases (show k=0∨k=1∨k=2 by omega) with rfl|rfl|rfl<;>rcases (show e=0∨e=1∨e=2 by omega) with rfl|rfl|rfl<;>cases x<;>cases z<;>kernel_rfl
theorem zwq {s q:ByteArray}{d:Nat}(h:Piece s d q)(hE:d+q.size=s.size){lo hi:Int}(i:Nat):inB lo hi s (d+i)=inB lo hi q i:=by
 by_cases hi':i<q.size
 ·exact zjb h hi'
 ·unfold inB;rw[dif_neg hi',dif_neg (by omega)]
theorem jv5 {s q:ByteArray}{d:Nat}(h:Piece s d q)(hE:d+q.size=s.size):∀ (f i:Nat),i≤q.size→kjf f s (d+i)=d+kjf f q i∧kjf f q i≤q.size
 | 0,i,hi=>⟨rfl,hi⟩
 | f+1,i,hi=>by
  rw[kjf,kjf,show kj9 s (d+i)=kj9 q i from zwq h hE i];by_cases e:kj9 q i=true
  ·have:i<q.size:=by
    by_cases hh:i<q.size
    ·exact hh
    ·unfold kj9 inB at e;rw[dif_neg hh] at e;cases e
   rw[if_pos e,if_pos e];exact jv5 h hE f (i+1) (by omega)
  ·rw[if_neg e,if_neg e];exact ⟨rfl,hi⟩
theorem vvs {s q:ByteArray}{d:Nat}(h:Piece s d q)(hE:d+q.size=s.size){i:Nat}(hi:i<q.size):jg s (d+i)=jh d (jg q i)∧i+(jg q i).text.size≤q.size:=by
 have h0:=h.1;have e1:kj9 s (d+i)=kj9 q i:=zwq h hE i;have e2:kjq s (d+i)=kjq q i:=zwq h hE i;have e3:kjq s (d+i+1)=kjq q (i+1):=zwq h hE (i+1);have e4:ky7 s (d+i)=ky7 q i:=by
  unfold ky7;by_cases hn:i+1<q.size
  ·rw[show d+i+2=d+(i+2) by omega,qzj h (a:=i) (b:=i+2) (by omega),sD (show d+i+1<s.size by omega),sD hn]
  ·rw[decide_eq_false (show ¬d+i+1<s.size by omega),decide_eq_false hn,lD,lD]
 have e5:kwn s (d+i)=kwn q i:=by unfold kwn;rw[vqa h hi]
 obtain ⟨e6,e7⟩:=jv5 h hE 801 i (by omega);have e8:s.extract (d+i) (d+i+1)=q.extract i (i+1):=qzj h (a:=i) (b:=i+1) (by omega);have e10:s.extract (d+i) (d+kjf 801 q i)=q.extract i (kjf 801 q i):=qzj h (by omega);have e9:ky7 q i=true→s.extract (d+i) (d+i+2)=q.extract i (i+2):=fun e=>by
  unfold ky7 at e;rw[wY,nU] at e;exact qzj h (a:=i) (b:=i+2) (by omega)
 unfold jg;rw[e1,e2,e3,e4,e5,e6,e8];dsimp only;rw[e10];unfold jh;refine ⟨?_,?_⟩
 ·split
  ·rfl
  ·split
   ·rfl
   ·split
    ·rename_i e;rw[e9 e]
    ·rfl
 ·split
  ·rw[lV];omega
  ·split
   ·rw[lV];omega
   ·split<;>(rw[lV];omega)
theorem jx2 {s q:ByteArray}{d:Nat}(h:Piece s d q)(hE:d+q.size=s.size):∀ (g i:Nat) (ts acc:List Tok) (f:Nat),i≤q.size→q.size-i<g →
  kqj g q i []=(ts++[kq2 q.size],none)→s.size-(d+i)<f→kqj f s (d+i) acc=(acc++ts.map (jh d)++[kq2 s.size],none)
 | 0,i,ts,acc,f,_,hg,_,_=>by omega
 | g+1,i,ts,acc,0,_,_,_,hf=>by omega
 | g+1,i,ts,acc,f+1,hi,hg,ht,hf=>by
  have h0:=h.1;rw[kqj] at ht;by_cases hk:i<q.size
  ·rw[if_pos hk] at ht;rw[kqj,if_pos (by omega),zyl h hk];by_cases hb:kz2 q i=true
   ·rw[if_pos hb] at ht ⊢;exact jx2 h hE g (i+1) ts acc f (by omega) (by omega) ht (by omega)
   ·have hb':kz2 q i=false:=by simpa using hb
    obtain ⟨e1,e2⟩:=vvs h hE hk;have e3:=zvw hk;rw[if_neg hb] at ht ⊢;rw[e1];by_cases hk0:(jg q i).kind.toList.isEmpty=true
    ·rw[if_pos hk0] at ht;simp at ht
    ·rw[if_neg hk0] at ht;rw[if_neg (show ¬(jh d (jg q i)).kind.toList.isEmpty=true from hk0)];rw[kwg,lK] at ht;simp only[Prod.mk.injEq,JD] at ht;have hne:=zvv g q (i+(jg q i).text.size) (by omega) ht.2;cases ts with
     | nil=>
      have:=ht.1;simp at this;exact absurd this.2 hne
     | cons t ts=>
      have h6:=ht.1;simp only[fD,List.cons.injEq] at h6;obtain ⟨h7,h8⟩:=h6;rw[lC,←h7,show acc++jh d (jg q i)::ts.map (jh d)=(acc++[jh d (jg q i)])++ts.map (jh d) by simp,show d+i+(jh d (jg q i)).text.size=d+(i+(jg q i).text.size) by simp[jh];omega];exact jx2 h hE g _ ts _ f e2 (by omega) (by rw[←h8,←ht.2]) (by omega)
  ·rw[if_neg hk] at ht;obtain rfl:i=q.size:=by omega
   simp at ht;subst ht;rw[kqj,if_neg (by omega),JQ,ni]
theorem zyt {T q B:List UInt8}{d:Nat}(h:T.drop d=q++B)(hd:d≤T.length):Piece ⟨T.toArray⟩ d ⟨q.toArray⟩:=by
 have hl:T.length-d=q.length+B.length:=by rw[←Jc,h,wU]
 refine ⟨?_,fun i hi h'=>?_⟩
 ·show d+q.toArray.size≤T.toArray.size;simp;omega
 ·have hi:i<q.length:=by simpa using (show i<q.toArray.size from hi)
  have e:(T.drop d)[i]?=(q++B)[i]?:=by rw[h]
  rw[Qs,Qm hi] at e;have h1:d+i<T.length:=by omega
  rw[ny h1,ny hi] at e;exact Option.some.inj e
def Lx (T:List UInt8)(d:Nat)(acc:List Tok):Prop:=d≤T.length∧∀ f,T.length-d<f→gq ⟨T.toArray⟩=kqj f ⟨T.toArray⟩ d acc
theorem Lx.start {T:List UInt8}(h:T.length≤800):Lx T 0 []:=
 ⟨tu _,fun f hf=>qj5 801 f _ 0 [] (by show T.toArray.size-0<801;simp;omega) (by show T.toArray.size-0<f;simpa using hf)⟩
theorem vwc {q:List UInt8}(h:qqu q=true):kqj (q.length+1) ⟨q.toArray⟩ 0 []=(pcT q++[kq2 q.length],none)∧kz2 ⟨q.toArray⟩ (q.length-1)=true:=by
 unfold qqu at h;rw[wY,wY] at h;obtain ⟨⟨h1,h2⟩,h3⟩:=h;refine ⟨?_,h3⟩;unfold pcT;generalize kqj (q.length+1) ⟨q.toArray⟩ 0 []=r at h1 h2 ⊢;obtain ⟨l,o⟩:=r;simp only at h1 h2 ⊢;cases o with
 | some x=>cases h1
 | none=>
  cases hl:l.getLast? with
  | none=>rw[hl] at h2;cases h2
  | some t=>
   rw[hl] at h2;have h2:(some (t.at_==q.length&&t.kind.toList==jwn.toList&&t.text.toList==[])==some true)=true:=h2;simp only[wP,Option.some.injEq,wY] at h2;obtain ⟨⟨a1,a2⟩,a3⟩:=h2;have e:l=l.dropLast++[t]:=by
    have hne:l≠[]:=fun e=>by rw[e] at hl;cases hl
    have:=List.dropLast_concat_getLast hne;rw[List.getLast?_eq_some_getLast hne] at hl;injection hl with hl;rw[hl] at this;exact this.symm
   have et:t=kq2 q.length:=by
    obtain ⟨tk,tt,ta⟩:=t;simp only at a1 a2 a3;subst a1;unfold kq2;rw[show tk=jwn from qxw a2,show tt=⟨#[]⟩ from qxw (a3.trans (by decide +kernel))]
   rw[et] at e;rw[←e]
theorem Lx.piece {T q B:List UInt8}{d:Nat}{acc:List Tok}(h:Lx T d acc)(hq:T.drop d=q++B)(ho:qqu q=true):Lx T (d+q.length) (acc++(pcT q).map (jh d)):=by
 have hl:T.length-d=q.length+B.length:=by rw[←Jc,hq,wU]
 have hd:=h.1;obtain ⟨o1,o2⟩:=vwc ho;refine ⟨by omega,fun f hf=>?_⟩;rw[h.2 (T.length-d+1) (by omega)];have:=jx1 (zyt hq hd) o2 (q.length+1) 0 (pcT q) acc (T.length-d+1) f (tu _) (by show q.toArray.size-0<q.length+1;simp) o1 (by show T.toArray.size-(d+0)<_;simp) (by show T.toArray.size-(d+q.toArray.size)<f;simpa using hf);exact this
theorem Lx.rest {T q B:List UInt8}{d:Nat}(hq:T.drop d=q++B):T.drop (d+q.length)=B:=by
 rw[←nD,hq,Qj]
theorem Lx.last {T q:List UInt8}{d:Nat}{acc:List Tok}(h:Lx T d acc)(hq:T.drop d=q)(ho:kqj (q.length+1) ⟨q.toArray⟩ 0 []=(pcT q++[kq2 q.length],none)):gq ⟨T.toArray⟩=(acc++(pcT q).map (jh d)++[kq2 T.length],none):=by
 have hl:T.length-d=q.length:=by rw[←Jc,hq]
 have hd:=h.1;rw[h.2 (T.length-d+1) (by omega)];have:=jx2 (zyt (B:=[]) (by rw[hq,ni]) hd) (by show d+q.toArray.size=T.toArray.size;simp;omega) (q.length+1) 0 (pcT q) acc (T.length-d+1) (tu _) (by show q.toArray.size-0<q.length+1;simp) ho (by show T.toArray.size-(d+0)<_;simp);exact this
structure GC where
 x:Bool
 y:Bool
 z:Bool
 k:Nat
 n:Nat
structure SC where
 x:Bool
 z:Bool
 k:Nat
 e:Nat
 n:Nat
structure RC where
 two:Bool
 g:GC
 b:List SC
def GC.ok (g:GC):Prop:=g.k<3∧g.n<8
def SC.ok (s:SC):Prop:=s.k<3∧s.e<3∧s.n<6
def GC.s (g:GC):List UInt8:=kkr g.x g.y g.z g.k g.n
def SC.s (s:SC):List UInt8:=qjr s.x s.z s.k s.e s.n
def kj2:List SC→List UInt8
 | []=>[]
 | s::l=>s.s++kj2 l
def bg (c:Nat)(two:Bool):List UInt8:=([114,117,108,101,32]++[(97+c).toUInt8])++(if two then [40,105,32,58,32,115,44,32,106,32,58,32,115,41,32,105,102,32] else [40,105,32,58,32,115,41,32,105,102,32])
def kzw:List SC→Nat→List Tok→List Tok
 | [],_,r=>r
 | s::l,d,r=>stL s.x s.z s.k s.e s.n d (kzw l (d+s.s.length) r)
def qk2:List SC→Nat→PB
 | [],_=>.nil
 | s::l,d=>kz8 (stX s.x s.z s.k s.e s.n d) (qk2 l (d+s.s.length))
def kk2:List SC→Nat
 | []=>0
 | s::l=>stN s.k s.n+kk2 l
def kkx (a:Nat):Tok:=⟨kwq,⟨#[125]⟩,a⟩
theorem zj0 {s:SC}(h:s.ok)(d:Nat)(r:List Tok):(stL s.x s.z s.k s.e s.n d r).drop (stN s.k s.n)=r:=by
 unfold stL;rw[←st_len s.x s.z s.k s.e s.n h.1 h.2.1 h.2.2,←sG (f:=jh d),Qj]
theorem kva {g:GC}(h:g.ok)(d:Nat)(r:List Tok):(gdL g.x g.y g.z g.k g.n d r).drop (gdN g.k g.n)=r:=by
 unfold gdL;rw[←vvn g.x g.y g.z g.k g.n h.1 h.2,←sG (f:=jh d),Qj]
theorem zv6 (f a:Nat)(r:List Tok):∀ (l:List SC) (d h:Nat),(∀ s∈l,s.ok)→rSF (f+60) (h+20+l.length+1) 1 (kzw l d (kkx a::r)) ⟨0,1,false⟩=(qk2 l d,⟨kk2 l,1,false⟩)
 | [],d,h,_=>by
  rw[rSF];kernel_rfl
 | s::l,d,h,hl=>by
  have hs:=hl s (rG ..);have e1:=jvr d (kzw l (d+s.s.length) (kkx a::r)) s.x s.z s.k s.e s.n hs.1 hs.2.1 hs.2.2;have e2:=jvt f (h+l.length+1) d (kzw l (d+s.s.length) (kkx a::r)) s.x s.z s.k s.e s.n hs.1 hs.2.1 hs.2.2;have ih:=zv6 f a r l (d+s.s.length) h (fun y hy=>hl y (rU _ hy));have hd:=zj0 hs d (kzw l (d+s.s.length) (kkx a::r));show rSF (f+60) (h+20+(l.length+1)+1) 1 (stL s.x s.z s.k s.e s.n d (kzw l (d+s.s.length) (kkx a::r))) ⟨0,1,false⟩=(kz8 (stX s.x s.z s.k s.e s.n d) (qk2 l (d+s.s.length)),⟨stN s.k s.n+kk2 l,1,false⟩);generalize kzw l (d+s.s.length) (kkx a::r)=R at *;rw[rSF,e1,show h+20+(l.length+1)=h+l.length+1+20 by omega,e2];have e3:=zj9 (stL s.x s.z s.k s.e s.n d R) (stN s.k s.n) (f+60) (h+l.length+1+20) 1 ⟨0,1,false⟩;rw[hd,show h+l.length+1+20=h+20+l.length+1 by omega,ih] at e3;rw[show h+l.length+1+20=h+20+l.length+1 by omega];have e4:(⟨stN s.k s.n,1,false⟩:RS)=shR (stN s.k s.n) ⟨0,1,false⟩:=rfl;show (if (false||false)=true then _ else (kz8 (stX s.x s.z s.k s.e s.n d) (rSF (f+60) (h+20+l.length+1) 1 (stL s.x s.z s.k s.e s.n d R) ⟨stN s.k s.n,1,false⟩).1,(rSF (f+60) (h+20+l.length+1) 1 (stL s.x s.z s.k s.e s.n d R) ⟨stN s.k s.n,1,false⟩).2))=_;rw[e4,e3];rfl
def kx7 (c:Nat)(r:RC)(d:Nat)(rest:List Tok):List Tok:=
 (pcT (bg c r.two)).map (jh d)++gdL r.g.x r.g.y r.g.z r.g.k r.g.n (d+(bg c r.two).length) (kw3 (d+(bg c r.two).length+r.g.s.length+1)::kzw r.b (d+(bg c r.two).length+r.g.s.length+3) (kkx (d+(bg c r.two).length+r.g.s.length+3+(kj2 r.b).length)::rest))
def kzg (c:Nat)(r:RC):List UInt8:=bg c r.two++((r.g.s++[32])++([123,32]++(kj2 r.b++[125,10])))
def qyd (two:Bool)(d:Nat):List PP:=if two then [⟨⟨kq4,⟨#[105]⟩,d+7⟩,⟨kq4,⟨#[115]⟩,d+11⟩⟩,⟨⟨kq4,⟨#[106]⟩,d+14⟩,⟨kq4,⟨#[115]⟩,d+18⟩⟩] else [⟨⟨kq4,⟨#[105]⟩,d+7⟩,⟨kq4,⟨#[115]⟩,d+11⟩⟩]
def kjk (c:Nat)(r:RC)(d:Nat):PRule:=
 ⟨⟨kq4,⟨#[(97+c).toUInt8]⟩,d+5⟩,qyd r.two d,gdX r.g.x r.g.y r.g.z r.g.k r.g.n (d+(bg c r.two).length),qk2 r.b (d+(bg c r.two).length+r.g.s.length+3)⟩
def kkt (two:Bool):Nat:=if two then 12 else 8
def kqk (r:RC):Nat:=kkt r.two+gdN r.g.k r.g.n+(2+kk2 r.b)
def RC.ok (r:RC):Prop:=r.g.ok∧∀ s∈r.b,s.ok
def zko (c:Nat)(two:Bool)(d:Nat)(rest:List Tok):List Tok:=(pcT (bg c two)).map (jh d)++rest
theorem jwa (c:Nat)(hc:c<3)(two:Bool)(d:Nat)(rest:List Tok):qh (zko c two d rest) [110,97,109,101] (qg (zko c two d rest) [114,117,108,101] ⟨0,0,false⟩)=(⟨kq4,⟨#[(97+c).toUInt8]⟩,d+5⟩,⟨2,0,false⟩):=by
 rcases (show c=0∨c=1∨c=2 by omega) with rfl|rfl|rfl<;>cases two<;>kernel_rfl
theorem jwo (f c:Nat)(hc:c<3)(two:Bool)(d:Nat)(rest:List Tok):qqx (f+10) (zko c two d rest) ⟨2,0,false⟩=(qyd two d,⟨kkt two-1,0,false⟩):=by
 rcases (show c=0∨c=1∨c=2 by omega) with rfl|rfl|rfl<;>cases two<;>kernel_rfl
theorem vxb (c:Nat)(hc:c<3)(two:Bool)(d:Nat)(rest:List Tok):qg (zko c two d rest) [105,102] ⟨kkt two-1,0,false⟩=⟨kkt two,0,false⟩:=by
 rcases (show c=0∨c=1∨c=2 by omega) with rfl|rfl|rfl<;>cases two<;>kernel_rfl
theorem jql (c:Nat)(hc:c<3)(two:Bool):(pcT (bg c two)).length=kkt two:=by
 rcases (show c=0∨c=1∨c=2 by omega) with rfl|rfl|rfl<;>cases two<;>kernel_rfl
theorem qw7 {L:List Tok}{D c d:Nat}{r:RC}{rest:List Tok}(hc:c<3)(hr:r.ok)(hL:L.drop D=kx7 c r d rest)(hlen:30+r.b.length≤L.length):kqm L (shR D ⟨0,0,false⟩)=sh2 D (kjk c r d,⟨kqk r,0,false⟩):=by
 obtain ⟨f,hf⟩:∃ f,ji L=f+60:=⟨ji L-60,by unfold ji;omega⟩;obtain ⟨h,hh⟩:∃ h,kwj L=h+20+r.b.length+1+1:=⟨kwj L-(20+r.b.length+1+1),by unfold kwj;omega⟩;obtain ⟨p,hp⟩:∃ p,pz L=p+10:=⟨pz L-10,by unfold pz;omega⟩;obtain ⟨R1,hR1⟩:∃ R1,R1=gdL r.g.x r.g.y r.g.z r.g.k r.g.n (d+(bg c r.two).length) (kw3 (d+(bg c r.two).length+r.g.s.length+1)::kzw r.b (d+(bg c r.two).length+r.g.s.length+3) (kkx (d+(bg c r.two).length+r.g.s.length+3+(kj2 r.b).length)::rest)):=⟨_,rfl⟩;have hLh:L.drop D=zko c r.two d R1:=by rw[hL,hR1];rfl
 have k1:qvz L (shR D ⟨0,0,false⟩)=sh2 D (⟨kq4,⟨#[(97+c).toUInt8]⟩,d+5⟩,⟨2,0,false⟩):=by
  unfold qvz;rw[kzn,qvy,hLh,jwa c hc]
 have k2:kyy L (shR D ⟨0,0,false⟩)=sh2 D (qyd r.two d,⟨kkt r.two-1,0,false⟩):=by
  unfold kyy;rw[k1,zk6,hp,kyv,zjq,hLh,jwo p c hc]
 have k3:qg L [105,102] (kyy L (shR D ⟨0,0,false⟩)).2=shR (D+kkt r.two) ⟨0,0,false⟩:=by
  rw[k2,kyv,kzn,hLh,vxb c hc];rfl
 have hd2:L.drop (D+kkt r.two)=R1:=by
  rw[←nD,hLh];unfold zko;rw[←jql c hc,←sG (f:=jh d),Qj]
 have k4:kyu L (shR D ⟨0,0,false⟩)=sh2 (D+kkt r.two) (gdX r.g.x r.g.y r.g.z r.g.k r.g.n (d+(bg c r.two).length),⟨gdN r.g.k r.g.n,0,false⟩):=by
  unfold kyu;rw[k3,hf,zk1,hd2,hR1,jx8 f _ _ _ _ _ _ _ _ hr.1.1 hr.1.2]
 have hd3:L.drop (D+kkt r.two+gdN r.g.k r.g.n)=kw3 (d+(bg c r.two).length+r.g.s.length+1)::kzw r.b (d+(bg c r.two).length+r.g.s.length+3) (kkx (d+(bg c r.two).length+r.g.s.length+3+(kj2 r.b).length)::rest):=by
  rw[←nD,hd2,hR1,kva hr.1]
 have k5:rS (kwj L) 0 L (kyu L (shR D ⟨0,0,false⟩)).2=sh2 (D+kkt r.two+gdN r.g.k r.g.n) (qk2 r.b (d+(bg c r.two).length+r.g.s.length+3),⟨2+kk2 r.b,0,false⟩):=by
  rw[k4,vx3,hf,hh];have e0:(sh2 (D+kkt r.two) (gdX r.g.x r.g.y r.g.z r.g.k r.g.n (d+(bg c r.two).length),(⟨gdN r.g.k r.g.n,0,false⟩:RS))).2=shR (D+kkt r.two+gdN r.g.k r.g.n) ⟨0,0,false⟩:=by
   show (⟨D+kkt r.two+gdN r.g.k r.g.n,0,false⟩:RS)=_;rfl
  rw[e0,zj9,hd3];congr 1
  have ih:=zv6 f (d+(bg c r.two).length+r.g.s.length+3+(kj2 r.b).length) rest r.b (d+(bg c r.two).length+r.g.s.length+3) h hr.2;generalize (d+(bg c r.two).length+r.g.s.length+1)=a1 at *;generalize (d+(bg c r.two).length+r.g.s.length+3+(kj2 r.b).length)=a2 at *;generalize (d+(bg c r.two).length+r.g.s.length+3)=a3 at *;have e1:qg (kw3 a1::kzw r.b a3 (kkx a2::rest)) [123] ⟨0,0,false⟩=shR 1 ⟨0,1,false⟩:=by kernel_rfl
  have e2:=zj9 (kw3 a1::kzw r.b a3 (kkx a2::rest)) 1 (f+60) (h+20+r.b.length+1) 1 ⟨0,1,false⟩;rw[show (kw3 a1::kzw r.b a3 (kkx a2::rest)).drop 1=kzw r.b a3 (kkx a2::rest) from rfl,ih] at e2;rw[rSF,e1,e2];have hd4:∀ (l:List SC),(∀ s∈l,s.ok)→∀ (x:Nat) (q:List Tok),(kzw l x q).drop (kk2 l)=q:=by
   intro l;induction l with
   | nil=>intro _ x q;rfl
   | cons s l ih=>
    intro hl x q;show (stL s.x s.z s.k s.e s.n x (kzw l (x+s.s.length) q)).drop (stN s.k s.n+kk2 l)=q;rw[←nD,zj0 (hl s (rG ..)),ih (fun y hy=>hl y (rU _ hy))]
  have e3:qg (kw3 a1::kzw r.b a3 (kkx a2::rest)) [125] (shR (1+kk2 r.b) ⟨0,1,false⟩)=⟨2+kk2 r.b,0,false⟩:=by
   rw[kzn,show (kw3 a1::kzw r.b a3 (kkx a2::rest)).drop (1+kk2 r.b)=kkx a2::rest by rw[Jk,QU,hd4 r.b hr.2],show qg (kkx a2::rest) [125] ⟨0,1,false⟩=⟨1,0,false⟩ by kernel_rfl];show (⟨1+kk2 r.b+1,0,false⟩:RS)=_;rw[show 1+kk2 r.b+1=2+kk2 r.b by omega]
  show (qk2 r.b a3,qg (kw3 a1::kzw r.b a3 (kkx a2::rest)) [125] (shR (1+kk2 r.b) ⟨0,1,false⟩))=_;rw[e3]
 unfold kqm;rw[k5,k4,k2,k1];show (_,_)=(_,_);congr 1
 show (⟨D+kkt r.two+gdN r.g.k r.g.n+(2+kk2 r.b),0,false⟩:RS)=⟨D+kqk r,0,false⟩;unfold kqk;rw[show D+kkt r.two+gdN r.g.k r.g.n+(2+kk2 r.b)=D+(kkt r.two+gdN r.g.k r.g.n+(2+kk2 r.b)) by omega]
end Go.Proofs.YtpmcnonmkghokaaGreatDoor

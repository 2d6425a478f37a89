import Derived.Test.YtpmcnonmkghokaaGreatDoorT06
import Derived.Test.YtpmcnonmkghokaaGreatDoorT00
import Derived.Test.YtpmcnonmkghokaaGreatDoorT08
import Derived.Test.YtpmcnonmkghokaaGreatDoorT05
import Derived.Test.YtpmcnonmkghokaaGreatDoorT07
set_option maxRecDepth 100000
set_option maxHeartbeats 16000000
set_option linter.unusedVariables false
set_option linter.unusedSimpArgs false
namespace Go.Proofs.YtpmcnonmkghokaaGreatDoor
open Go.Proofs.Tryz Go.RowKit
attribute [local go_sem ↓] Go.wp_at_zero Go.wp_at_succ
variable {b:ByteArray}{m8:List (List (List Int))}{L S ls:List (List Int)}{gs:List (Nat×Nat)}{ms sets st:List Int}{bad:List Nat}{l:List PP}{cs:List Value}{r:MView}{j6:Mach}{m:MdL}{B C M T X c k lo n size so xc xn:Nat}{i1 xa:Option Addr}{m6:Option Nat}{t:PTree}{a:SLab}{n5 x':SnR}{sv tv v wv x xv:Value}{w w' w4:World}
abbrev jyo(a b:Addr)(x y:Value)(w:World):Prop:=w.cell? a=some x/\w.cell? b=some y
theorem jyo.below{a9 g7:Addr}(h:jyo a9 g7 x v w)(hb:Below B w w')(h1:a9.block<B)(a:g7.block<B):jyo a9 g7 x v w':=⟨(hb.cell h1).trans h.1,(hb.cell a).trans h.2⟩
theorem jkm{g9:List MStep}{a:List MNever}{h7:List MVar}{h8:kq3}{wr:World}(h:NwI w w' lo so M B g9 a sets h7 h8 size sv v tv x wr):M<wr.heap.size:=wQ h.mc.e
def xxq(w:World)(so:Nat)(r:Mach)(e:Ending)(w':World):Prop:=∃M nb sv nv tv vv,e=.returned (.pointer (some ⟨M,0,none⟩))/\kzd w.heap.size so w' M nb r.X r.q r.j r.z r.C r.size sv nv tv vv/\oq w w'
theorem new_any{i2 i3 i4:Option Addr}{i5 i6 i7 i8 i9:Nat}(hm:kwm so w (.slice xa B i5) (.slice i1 lo i6) (.slice i2 xn i7) (.slice i3 xc i8) (.slice i4 C i9) m)(hf:MdFit m)(hr:jy5 m=some j6):Calls prog 35 #[mdV xa i1 i2 i3 i4 B lo xn xc C i5 i6 i7 i8 i9] w λe w'=>xxq w so j6 e w':=by
 unfold jy5 at hr;obtain⟨T,G,hr⟩:=wu.1 hr;obtain⟨X,hV,hr⟩:=wu.1 hr;obtain⟨ST,hS,hr⟩:=wu.1 hr;obtain⟨NV,hN,rfl⟩:=wX.1 hr;obtain⟨rfl,_⟩:=kja hm.o0;obtain⟨_,aH,_⟩:=hm.o1;obtain⟨rfl,_⟩:=kja aH;obtain⟨rfl,_⟩:=kja hm.o2;obtain⟨_,bJ,_⟩:=hm.o3;obtain⟨rfl,_⟩:=kja bJ;obtain⟨_,bK,_⟩:=hm.o4;obtain⟨rfl,_⟩:=kja bK;obtain⟨nb,bI⟩:=cpy<|w.heap.size+1;obtain⟨M,hM⟩:=cpy<|w.heap.size+1+1;obtain⟨W,hW⟩:=cpy<|((w.alloc<|.cells #[.slice xa m.j.length i5,.slice i1 m.p.length i6,.slice i2 m.z.length i7,.slice i3 m.l.length i8,.slice i4 m.q.length i9] 68).alloc<|.map #[] 0).alloc (.cells #[.slice none 0 0,.slice none 0 0,.slice none 0 0,.slice none 0 0,.map (some (w.heap.size+1)),.int .i64 0] 105);have aU:oq w W:=by rw[hW];exact((jZ w).trans<|(jZ _).mono ay).trans ((jZ _).mono ah)
 have cB:W.heap.size=w.heap.size+3:=by simp_all
 have bA:W.heap[w.heap.size]?=some (.cells #[.slice xa m.j.length i5,.slice i1 m.p.length i6,.slice i2 m.z.length i7,.slice i3 m.l.length i8,.slice i4 m.q.length i9] 68 (0,0)):=by grind [zy,qy]
 have bB:W.heap[nb]?=some (.map #[] 0):=by grind [qy,zy]
 have bC:W.heap[M]?=some (.cells #[.slice none 0 0,.slice none 0 0,.slice none 0 0,.slice none 0 0,.map<|some nb,.int .i64 0] 105 (0,0)):=by grind [qy]
 have aT:kkd W nb []:=⟨⟨#[],0,bB,rfl⟩,Jd,λx hx=>by simp_all⟩;have bP:=oz (show NwI w W w.heap.size so M nb [] [] [] [] [] 0 (.slice none 0 0) (.slice none 0 0) (.slice none 0 0) (.slice none 0 0) W from
  ⟨⟨bC,⟨[],oN,rfl,λk hk=>by grind⟩,⟨[],oN,rfl,λk hk=>by grind⟩,oN,⟨[],oN,rfl⟩,aT,aj,aj⟩,Tk.refl _ _ _,aU⟩)
 obtain⟨Q,l,I,bY,bS,bQ,HF,HK⟩:=qJ (show kwm so W (.slice xa m.j.length i5) (.slice i1 m.p.length i6) (.slice i2 m.z.length i7) (.slice i3 m.l.length i8) (.slice i4 m.q.length i9) m from hm.stay λk _ hk=>aU.block k hk) aT.no bA hW.symm bI hM hf G;obtain⟨HV,bW,bT⟩:=jp hV hS hN;have cF:w.heap.size<nb:=aj;have cG:nb<M:=aj;have cH:M<W.heap.size:=aj;have cK:=hf.j;have cL:=hf.p;have cM:=hf.z;have cN:=hf.l;have cO:=hf.q;clear hr hm aH bJ bK aU cB bA bB bC aT hW bI hM hf G hV hS hN;have cA:∀W:World,(Instr.makeMap 100 none).run prog W=.ok (.map<|some W.heap.size) (W.alloc<|.map #[] 0):=λW=>rfl
 unfold mdV;go_in;go_wp21;clear cA;rw[ku bY,<-ku bQ,<-ku bS];go_loopw [5,22] (λ_ i wr=>∃(k:Nat)(va:Option Addr)(vn vc:Nat),k<=m.j.length/\i=.int .i64 k/\NwI w W w.heap.size so M nb [] [] (kje<|m.j.take k) [] [] 0 (.slice none 0 0) (.slice none 0 0) (.slice va vn vc) (.slice none 0 0) wr) (λ_ i _=>m.j.length-(intOf i).toNat);exact⟨0,none,0,0,jR,rfl,bP⟩;obtain⟨k,va,vn,vc,hk,rfl,f⟩:=hrel;have Y:=jkm f;have b:=f.tk;have aJ:=b.size;by_cases v:k<m.j.length
 ·have E:=(kja<|jq Q.o0 b l ak).2;obtain⟨g,rfl,aP,aQ,D⟩:=E k v;have fl:=λj (hj:j<4)=>kqo zjw 4 (λ_=>rfl) m.j k j v hj
  have e0:=(D (k*4+0) aj).trans<|fl 0 aj;have e1:=(D (k*4+1) aj).trans<|fl 1 aj;have e2:=(D (k*4+2) aj).trans<|fl 2 aj;have e3:=(D (k*4+3) aj).trans<|fl 3 aj;simp only[zjw,sW,sU,Qk]at e0 e1 e2 e3;have bV:=oz (by rw[tJ v,kje,Qw];rfl:kje (m.j.take<|k+1)=kje (m.j.take k)++[mg m.j[k].size.x]);have cR:(kje<|m.j.take k).length<=1000:=by simp[kje];omega
  generalize kje (m.j.take k)=Lx at *;generalize m.j[k]=s at *;obtain⟨m0,m1,m2,m3,m4,m5,_⟩:=kzh f.mc.e;have A:oq wr (wr.alloc<|.cells #[.string s.y.x,.int .i64 s.y.v,.int .i64<|mg s.size.x,.int .i64 s.size.v] 111):=jZ _;obtain⟨b0,b1,b2,b3,_⟩:=kz3<|qy (w:=wr) (o:=.cells #[.string s.y.x,.int .i64 s.y.v,.int .i64<|mg s.size.x,.int .i64 s.size.v] 111);obtain⟨N,a5,F⟩:=jp (show jyo ⟨M,2,none⟩ ⟨wr.heap.size,2,none⟩ (.slice va vn vc) (.int .i64<|mg s.size.x) (wr.alloc<|.cells #[.string s.y.x,.int .i64 s.y.v,.int .i64<|mg s.size.x,.int .i64 s.size.v] 111).drew from⟨(A.cell (p:=⟨M,2,none⟩) Y).trans m2,b2⟩) (show oq wr (wr.alloc<|.cells #[.string s.y.x,.int .i64 s.y.v,.int .i64<|mg s.size.x,.int .i64 s.size.v] 111).drew from A.drew) f;clear D fl E f b m0 m1 m2 m3 m4 m5 A b0 b1 b2 b3;go_upto_region 5 with fail
  refine bg (S:=jyo ⟨M,2,none⟩ ⟨wr.heap.size,2,none⟩ (.slice va vn vc)<|.int .i64 (mg s.size.x)) (tl:=[9,10,11,12]) au ?_;refine frS 0 ?_;refine frS 1 ?_;refine frS 2 ?_;refine frS 3 ?_;refine tkS 4 N ?_;refine frS 5 ?_;refine frS 6 ?_;refine tkS 7 N ?_;refine onS 8 λK G=>?_
  go_simp;refine G _ _ (N.below (jZ _) (by simp;omega:M<(wr.alloc _).heap.size) (by simp:wr.heap.size<(wr.alloc _).heap.size)) ?_;clear G K;refine kyj ?_;refine onA 9 λK G=>?_
  refine apL (qj F.mc.j<|a5.alloc a5.size _) (alloc_at (wr.heap.size+1) ay) ?_ (H:=wr.heap.size+2) (hH:=ay);intro gg gcap w4 aR P bZ cI;refine G _ _ ?_;clear G K;have P:((wr.alloc<|.cells #[.string s.y.x,.int .i64 s.y.v,.int .i64<|mg s.size.x,.int .i64 s.size.v] 111).drew.alloc<|.cells #[.int .i64 (mg s.size.x)] 3).grownBy w4 (Value.slice va vn vc).ownBlock:=P;have bL:=pq1 F.mc a5 P;obtain⟨m0,m1,m2,m3,m4,m5,f0,f1,f2,f3,f4,f5⟩:=kzh bL;have aW:=xkp F.mc a5 P aR aj;have bN:=oz (show ∃gv gn gc,NwI w W w.heap.size so M nb [] [] (Lx++[mg s.size.x]) [] [] 0 (.slice none 0 0) (.slice none 0 0) (.slice gv gn gc) (.slice none 0 0) (w4.setCell ⟨M,2,none⟩<|.slice (some ⟨gg,0,none⟩) (Lx.length+1) gcap) from by obtain⟨⟨gv,gn,gc,q1⟩,q2,q3⟩:=aW;exact⟨gv,gn,gc,q1,F.tk.trans<|(q2.wide ak).any _,F.be.trans q3⟩)
  clear bL aR P bZ aW;refine onA 10 λK G=>?_
  go_simp;refine G _ _ ?_;clear G K;refine onA 11 λK G=>?_
  go_simp;refine G _ _ ?_;clear G K;refine onA 12 λK G=>?_
  go_simp;refine G _ _ ?_;clear G K;refine wpAny_done au ?_ _;go_wp2;go_roundw
  case rel=>
   obtain⟨gv,gn,gc,q⟩:=ku bN;exact⟨k+1,gv,gn,gc,aj,eu,by rw[ku bV];exact q⟩
  case measure=>exact ou
 ·have:k=m.j.length:=by omega
  subst this;rw[Qc]at f;obtain⟨q0,q1,q2,q3,q4,_⟩:=jl (b.e I (λe=>l _ _ _ _ e I) ak);have F:=oz f;have aA:w.heap.size<wr.heap.size:=aj;clear f b;go_wp21;go_loopw [7,8,9,42] (λ_ _ _ i wr=>∃(k:Nat)(t:kq3),k<=m.p.length/\i=.int .i64 k/\qxb (m.p.drop k) t=some T/\NwI w W w.heap.size so M nb [] [] (kje m.j) [] t 0 (.slice none 0 0) (.slice none 0 0) (.slice va vn vc) (.slice none 0 0) wr) (λ_ _ _ i _=>m.p.length-(intOf i).toNat);exact⟨0,[],jR,rfl,HK,F⟩;obtain⟨k,t,hk,rfl,a,f⟩:=hrel;have Y:=jkm f;have b:=f.tk;have aJ:=b.size;clear F;by_cases v:k<m.p.length
  ·obtain⟨bM,aH,bH⟩:=Q.o1;have E:=(kja<|jq aH b l ak).2;obtain⟨g,rfl,aP,aQ,D⟩:=E k v;obtain⟨ma,mn,mc,R,U,V,aM⟩:=jjh k v bH;have e0:=(D (k*3) aj).trans R;have e1:=(D (k*3+1) aj).trans U;have e2:=(D (k*3+2) aj).trans V;obtain⟨rfl,_⟩:=kja aM;rw[rU v,qxb]at a;obtain⟨T1,bD,a⟩:=wu.1 a;obtain⟨J,bX⟩:=ju a bD;have cP:=HF.xy _<|wZ v;have bO:=oz aM;generalize m.p[k]=s at *;have F:=oz<|f.below (jZ wr (o:=.cells #[.string s.y.x,.int .i64 s.y.v,.slice ma s.i.length mc] 114)) aj;clear D R U V E f b aM a bD aH bH q0 q1 q2 q3 q4;go_wp21
   go_loopw [8,9,49] (λ_ _ i wr=>∃(j:Nat)(t:kq3),j<=s.i.length/\i=.int .i64 j/\jjq (s.i.drop j) j t=some T1/\NwI w W w.heap.size so M nb [] [] (kje m.j) [] t 0 (.slice none 0 0) (.slice none 0 0) (.slice va vn vc) (.slice none 0 0) wr) (λ_ _ i _=>s.i.length-(intOf i).toNat);exact⟨0,t,jR,rfl,bX,F⟩;obtain⟨j,t2,hj,rfl,z,f⟩:=hrel;have Y:=jkm f;have b:=f.tk;have aJ:=b.size;clear F;by_cases aX:j<s.i.length
   ·have E:=(kja<|jq bO b l ak).2;obtain⟨g2,rfl,cD,cE,O⟩:=E j aX;have fl:=λq (hq:q<2)=>kqo kzy 2 (λ_=>rfl) s.i j q aX hq
    have e0:=(O (j*2+0) aj).trans<|fl 0 aj;have e1:=(O (j*2+1) aj).trans<|fl 1 aj;simp only[kzy,sW,sU,Qk]at e0 e1;rw[rU aX,jjq]at z;obtain⟨t3,aK,z⟩:=wu.1 z;obtain⟨rfl,aY,aL⟩:=jkq aK;have bU:=oz z;generalize s.i[j]=y at *;obtain⟨m0,m1,m2,m3,m4,m5,_⟩:=kzh f.mc.e;have A:oq wr (wr.alloc<|.cells #[.string y.x,.int .i64 y.v] 107):=jZ _;obtain⟨b0,b1,_,_⟩:=kj6<|qy (w:=wr) (o:=.cells #[.string y.x,.int .i64 y.v] 107);have N:=oz (⟨(A.cell (p:=⟨M,4,none⟩) Y).trans m4,b0⟩:jyo ⟨M,4,none⟩ ⟨wr.heap.size,0,none⟩ (.map<|some nb) (.string y.x) (wr.alloc<|.cells #[.string y.x,.int .i64 y.v] 107).drew);have d:=f.below (A.drew:oq wr (wr.alloc<|.cells #[.string y.x,.int .i64 y.v] 107).drew) aj;obtain⟨w5,a4,a3,h⟩:=vz4 (e:=⟨false,j⟩) d.mc.C aY aL;unfold qx3 at a4;have aN:=oz (show NwI w W w.heap.size so M nb [] [] (kje m.j) [] (t2++[(y.x,⟨false,j⟩)]) 0 (.slice none 0 0) (.slice none 0 0) (.slice va vn vc) (.slice none 0 0) w5 from⟨pjt d.mc h a3,d.tk.trans<|zyj h _,d.be.trans ⟨h.os,h.tape,h.output,h.size,λq hq=>h.block q (by have:=d.be.size;omega) aj⟩⟩);clear O fl E f b d a3 h m0 m1 m2 m3 m4 m5 A b0 b1 aK z aL;go_upto_region 13 with fail
    refine bg (S:=jyo ⟨M,4,none⟩ ⟨wr.heap.size,0,none⟩ (.map<|some nb)<|.string y.x) (tl:=[8]) au ?_;refine frS 0 ?_;refine frS 1 ?_;refine frS 2 ?_;refine tkS 3 N ?_;refine frS 4 ?_;refine tkS 5 N ?_;refine frS 6 ?_;refine frS 7 ?_;refine kyj ?_;refine onA 8 λK G=>?_
    go_simp;refine G _ _ ?_;clear G K;refine wpAny_done au ?_ _;clear a4;go_wp2;exact rdM ⟨j+1,_,aj,eu,bU,aN⟩
   ·have:j=s.i.length:=by omega
    subst this;rw[sK,jjq]at z;injection z with z;subst z;have F:=oz f;clear f b;go_wp2
    exact rdM ⟨k+1,_,aj,eu,J,F⟩
  ·have:k=m.p.length:=by omega
   subst this;rw[sK,qxb]at a;injection a with a;subst a;obtain⟨q0,q1,q2,q3,q4,_⟩:=jl (b.e I (λe=>l _ _ _ _ e I) ak);have F:=oz f;have aA:w.heap.size<wr.heap.size:=aj;clear f b;go_wp21
   go_loopw [10,11,67] (λ_ _ i wr=>∃(k:Nat)(t:kq3)(vs:List MVar)(sz:Nat)(vv:Value),k<=m.z.length/\i=.int .i64 k/\qjh m.j m.p (m.z.drop k) k t vs sz=some X/\NwI w W w.heap.size so M nb [] [] (kje m.j) vs t sz (.slice none 0 0) (.slice none 0 0) (.slice va vn vc) vv wr) (λ_ _ i _=>m.z.length-(intOf i).toNat);exact⟨0,t,[],0,_,jR,rfl,HV,F⟩;obtain⟨k,t,vs,sz,vv,hk,rfl,a,f⟩:=hrel;have Y:=jkm f;have b:=f.tk;have aJ:=b.size;clear F;by_cases v:k<m.z.length
   ·have E:=(kja<|jq Q.o2 b l ak).2;obtain⟨g,rfl,aP,aQ,D⟩:=E k v;have fl:=λj (hj:j<10)=>kqo kjs 10 (λ_=>rfl) m.z k j v hj
    have cc:=λj (hj:j<10)=>(D (k*10+j) aj).trans<|fl j hj
    have e0:=cc 0 aj;have e1:=cc 1 aj;have e2:=cc 2 aj;have e3:=cc 3 aj;have e4:=cc 4 aj;have e5:=cc 5 aj;have e6:=cc 6 aj;have e7:=cc 7 aj;have e8:=cc 8 aj;have e9:=cc 9 aj;simp only[kjs,sW,sU,Qk]at e0 e1 e2 e3 e4 e5 e6 e7 e8 e9;rw[rU v,qjh]at a;obtain⟨t3,aK,a⟩:=wu.1 a;obtain⟨rfl,aY,aL⟩:=jkq aK;have hcond:sz<=100000/\vs.length<=1000:=by simp_all
    rw[lJ hcond]at a;obtain⟨u,hu,a⟩:=wu.1 a;obtain⟨J,HU⟩:=ju a hu;generalize m.z[k]=s at *;obtain⟨m0,m1,m2,m3,m4,m5,_⟩:=kzh f.mc.e;have A:oq wr (wr.alloc<|.cells #[.string s.y.x,.int .i64 s.y.v,.bool s.K,.string s.g.x,.int .i64 s.g.v,.int .i64 s.si.I,.int .i64 (mg s.si.R.x),.int .i64 s.si.R.v,.string s.si.y.x,.int .i64 s.si.y.v] 121):=jZ _;have aO:=qy (w:=wr) (o:=.cells #[.string s.y.x,.int .i64 s.y.v,.bool s.K,.string s.g.x,.int .i64 s.g.v,.int .i64 s.si.I,.int .i64 (mg s.si.R.x),.int .i64 s.si.R.v,.string s.si.y.x,.int .i64 s.si.y.v] 121);obtain⟨⟨b0,b1,b2,b3,b4,b5,b6,b7,b8,b9⟩,_⟩:=kju aO;have N:=oz (⟨(A.cell (p:=⟨M,4,none⟩) Y).trans m4,b0⟩:jyo ⟨M,4,none⟩ ⟨wr.heap.size,0,none⟩ (.map<|some nb) (.string s.y.x) (wr.alloc<|.cells #[.string s.y.x,.int .i64 s.y.v,.bool s.K,.string s.g.x,.int .i64 s.g.v,.int .i64 s.si.I,.int .i64 (mg s.si.R.x),.int .i64 s.si.R.v,.string s.si.y.x,.int .i64 s.si.y.v] 121).drew);have d:=f.below (A.drew:oq wr (wr.alloc<|.cells #[.string s.y.x,.int .i64 s.y.v,.bool s.K,.string s.g.x,.int .i64 s.g.v,.int .i64 s.si.I,.int .i64 (mg s.si.R.x),.int .i64 s.si.R.v,.string s.si.y.x,.int .i64 s.si.y.v] 121).drew) aj;obtain⟨w5,a4,a3,h⟩:=vz4 (e:=⟨true,k⟩) d.mc.C aY aL;unfold qx3 at a4;have aB:NwI w W w.heap.size so M nb [] [] (kje m.j) vs (t++[(s.y.x,⟨true,k⟩)]) sz (.slice none 0 0) (.slice none 0 0) (.slice va vn vc) vv w5:=⟨pjt d.mc h a3,d.tk.trans<|zyj h _,d.be.trans ⟨h.os,h.tape,h.output,h.size,λq hq=>h.block q (by have:=d.be.size;omega) aj⟩⟩;have cQ:wr.heap.size<w5.heap.size:=by have:=h.size;simp at this;omega
    have aV:=(zyj h []).e (aO:(wr.alloc<|.cells #[.string s.y.x,.int .i64 s.y.v,.bool s.K,.string s.g.x,.int .i64 s.g.v,.int .i64 s.si.I,.int .i64<|mg s.si.R.x,.int .i64 s.si.R.v,.string s.si.y.x,.int .i64 s.si.y.v] 121).drew.heap[wr.heap.size]?=some (.cells #[.string s.y.x,.int .i64 s.y.v,.bool s.K,.string s.g.x,.int .i64 s.g.v,.int .i64 s.si.I,.int .i64<|mg s.si.R.x,.int .i64 s.si.R.v,.string s.si.y.x,.int .i64 s.si.y.v] 121 (0,0))) (λe=>d.mc.C.no _ _ _ _ e aO) ay;obtain⟨⟨d0,d1,d2,d3,d4,d5,d6,d7,d8,d9⟩,_⟩:=kju aV;obtain⟨q0,q1,q2,q3,q4,_⟩:=jl (aB.tk.e I (λe=>l _ _ _ _ e I) ak);have aS:=oz<|vyz aB.mc (Q.tk aB.tk l ak) HF HU aj aj aj;unfold mdV vrV kjs at aS;have aN:=oz aB;clear D cc fl E f b d a3 h aB m0 m1 m2 m3 m4 m5 A aO aV b0 b1 b2 b3 b4 b5 b6 b7 b8 b9 aK a aL hu;go_upto_region 19 with fail
    refine bg (S:=jyo ⟨M,4,none⟩ ⟨wr.heap.size,0,none⟩ (.map<|some nb)<|.string s.y.x) (tl:=[9]) au ?_;refine frS 0 ?_;refine frS 1 ?_;refine frS 2 ?_;refine tkS 3 N ?_;refine frS 4 ?_;refine frS 5 ?_;refine tkS 6 N ?_;refine frS 7 ?_;refine frS 8 ?_;refine kyj ?_;refine onA 9 λK G=>?_
    go_simp;refine G _ _ ?_;clear G K;refine wpAny_done au ?_ _;clear a4;go_wp21;refine aS.mono ?_;rintro e w6 ⟨rfl,⟨cC,a1⟩,a0,Z⟩;have a8:=oz (show NwI w W w.heap.size so M nb [] [] (kje m.j) (vs++[u]) (t++[(s.y.x,⟨true,k⟩)]) (sz+u.d) (.slice none 0 0) (.slice none 0 0) (.slice va vn vc) cC w6 from⟨a1,aN.tk.trans<|(a0.wide ak).any _,aN.be.trans Z⟩);clear a1 a0 Z aS d0 d1 d2 d3 d4 d5 d6 d7 d8 d9 q0 q1 q2 q3 q4;go_wp2;exact rdM ⟨k+1,_,_,_,_,aj,eu,J,a8⟩
   ·have:k=m.z.length:=by omega
    subst this;rw[sK,qjh]at a;injection a with a;subst a;obtain⟨q0,q1,q2,q3,q4,_⟩:=jl (b.e I (λe=>l _ _ _ _ e I) ak);have F:=oz f;have aA:w.heap.size<wr.heap.size:=aj;clear f b;go_wp21
    go_loopw [13,89] (λ_ i wr=>∃(k:Nat)(acc:List MStep)(sv:Value),k<=m.l.length/\i=.int .i64 k/\qqo m.j (m.l.drop k) acc=some ST/\NwI w W w.heap.size so M nb acc [] (kje m.j) vs t sz sv (.slice none 0 0) (.slice va vn vc) vv wr) (λ_ i _=>m.l.length-(intOf i).toNat);exact⟨0,[],_,jR,rfl,bW,F⟩;obtain⟨k,acc,sv,hk,rfl,a,f⟩:=hrel;have Y:=jkm f;have b:=f.tk;have aJ:=b.size;clear F;by_cases v:k<m.l.length
    ·obtain⟨bM,ho,aI⟩:=Q.o3;have E:=(kja<|jq ho b l ak).2;obtain⟨g,rfl,aP,aQ,D⟩:=E k v;obtain⟨pa,pn,pc,gp,ba,bn,bc,cJ,⟨R,U,V,a9,aZ⟩,hp,hx,bG,bF⟩:=kvy.v k v aI;have e0:=(D (k*5) aj).trans R;have e1:=(D (k*5+1) aj).trans U;have e2:=(D (k*5+2) aj).trans V;have e3:=(D (k*5+3) aj).trans a9;have e4:=(D (k*5+4) aj).trans aZ;rw[rU v,qqo]at a;obtain⟨c,aG,a⟩:=wu.1 a;have hcond:qzf m.l[k] c acc.length=true:=by simp_all
     rw[lJ hcond]at a;obtain⟨aC,O,aD,aE,aF⟩:=zzm hcond;have J:=oz a;have A:oq wr (wr.alloc<|.cells #[.string m.l[k].y.x,.int .i64 m.l[k].y.v,.slice pa pn pc,.pointer gp,.slice ba bn bc] 127):=jZ _;have d:=f.below A aj;have L:=oz<|jys d.mc (Q.tk d.tk l ak) HF aF (jq hp d.tk l ak) aE (hx.tk d.tk l ak) (jq bG d.tk l ak) (bF.tk d.tk l ak ak) aG aC O aD ah;unfold mdV at L;obtain⟨q0,q1,q2,q3,q4,_⟩:=jl (b.e I (λe=>l _ _ _ _ e I) ak);have aA:w.heap.size<wr.heap.size:=aj;obtain⟨a6,a7⟩:=ju d (show zjm m.l[k]=λms=>(⟨kv0 m.l[k].y.x ms,m.l[k].u,ms,m.l[k].guard,m.l[k].S⟩:MStep) from rfl);rw[<-ku a7]at L;clear a7;generalize zjm m.l[k]=mk at *;generalize m.l[k]=s at *;clear D R U V a9 aZ E f b d A hp hx bG bF a aG hcond aC O aD aE aF ho aI;go_wp21
     refine L.mono ?_;rintro e w6 ⟨rfl,⟨gv,gn,gc,a1⟩,a0,Z⟩;have a8:=oz (show NwI w W w.heap.size so M nb (acc++c.map mk) [] (kje m.j) vs t sz (.slice gv gn gc) (.slice none 0 0) (.slice va vn vc) vv w6 from⟨a1,a6.tk.trans<|(a0.wide ak).any _,a6.be.trans Z⟩);clear a1 a0 Z L q0 q1 q2 q3 q4 e0 e1 e2 e3 e4;go_wp2;exact rdM ⟨k+1,_,_,aj,eu,J,a8⟩
    ·have:k=m.l.length:=by omega
     subst this;rw[sK,qqo]at a;injection a with a;subst a;obtain⟨q0,q1,q2,q3,q4,_⟩:=jl (b.e I (λe=>l _ _ _ _ e I) ak);have F:=oz f;have aA:w.heap.size<wr.heap.size:=aj;clear f b;go_wp21
     go_loopw [15,101] (λ_ i wr=>∃(k:Nat)(a2:List MNever)(nv:Value),k<=m.q.length/\i=.int .i64 k/\kvf m.j (m.q.drop k) a2=some NV/\NwI w W w.heap.size so M nb acc a2 (kje m.j) vs t sz sv nv (.slice va vn vc) vv wr) (λ_ i _=>m.q.length-(intOf i).toNat);exact⟨0,[],_,jR,rfl,bT,F⟩;obtain⟨k,a2,nv,hk,rfl,a,f⟩:=hrel;have Y:=jkm f;have b:=f.tk;have aJ:=b.size;clear F;by_cases v:k<m.q.length
     ·obtain⟨bM,ho,aI⟩:=Q.o4;have E:=(kja<|jq ho b l ak).2;obtain⟨g,rfl,aP,aQ,D⟩:=E k v;obtain⟨pa,pn,pc,gp,⟨R,U,V,a9⟩,hp,hx⟩:=kvg.v k v aI;have e0:=(D (k*4) aj).trans R;have e1:=(D (k*4+1) aj).trans U;have e2:=(D (k*4+2) aj).trans V;have e3:=(D (k*4+3) aj).trans a9;rw[rU v,kvf]at a;obtain⟨c,aG,a⟩:=wu.1 a;have hcond:qzf m.q[k] c a2.length=true:=by simp_all
      rw[lJ hcond]at a;obtain⟨aC,O,aD,aE,aF⟩:=zzm hcond;have J:=oz a;have A:oq wr (wr.alloc<|.cells #[.string m.q[k].y.x,.int .i64 m.q[k].y.v,.slice pa pn pc,.pointer gp] 130):=jZ _;have d:=f.below A aj;have L:=oz<|jxg d.mc (Q.tk d.tk l ak) HF aF (jq hp d.tk l ak) aE (hx.tk d.tk l ak) aG aC O aD ah;unfold mdV at L;obtain⟨q0,q1,q2,q3,q4,_⟩:=jl (b.e I (λe=>l _ _ _ _ e I) ak);have aA:w.heap.size<wr.heap.size:=aj;obtain⟨a6,a7⟩:=ju d (show qvv m.q[k]=λms=>(⟨kv0 m.q[k].y.x ms,m.q[k].u,ms,m.q[k].guard⟩:MNever) from rfl);rw[<-ku a7]at L;clear a7;generalize qvv m.q[k]=mk at *;generalize m.q[k]=s at *;clear D R U V a9 E f b d A hp hx a aG hcond aC O aD aE aF ho aI;go_wp21
      refine L.mono ?_;rintro e w6 ⟨rfl,⟨gv,gn,gc,a1⟩,a0,Z⟩;have a8:=oz (show NwI w W w.heap.size so M nb acc (a2++c.map mk) (kje m.j) vs t sz sv (.slice gv gn gc) (.slice va vn vc) vv w6 from⟨a1,a6.tk.trans<|(a0.wide ak).any _,a6.be.trans Z⟩);clear a1 a0 Z L q0 q1 q2 q3 q4 e0 e1 e2 e3;go_wp2;exact rdM ⟨k+1,_,_,aj,eu,J,a8⟩
     ·have:k=m.q.length:=by omega
      subst this;rw[sK,kvf]at a;injection a with a;subst a;have F:=oz f;clear f b;go_wp2
      go_ret;exact⟨M,nb,_,_,_,_,rfl,F.mc,F.be⟩
def qxq:PB->Bool
 |.nil=>true
 |.node _ _ a .nil n=>qxq n
 |.node _ _ a (.node _ _ _ t e) n=>(qxq t&&decide (kqq t<=1000))&&((qxq e&&decide (kqq e<=1000))&&qxq n)
theorem qko{d:SLab}{j8 b c:PB}(h:qxq (.node B T a (.node k lo d j8 b) c)=true):((qxq j8=true/\kqq j8<=1000)/\(qxq b=true/\kqq b<=1000)/\qxq c=true):=by grind [qxq]
theorem qyj:∀(b:PB),qxq b=true->ky6 b
 |.nil,_=>trivial
 |.node _ _ a .nil n,h=>qyj n h
 |.node _ _ a (.node _ _ _ t e) n,h=>⟨⟨qyj t (qko h).1.1,(qko h).1.2⟩,⟨qyj e (qko h).2.1.1,(qko h).2.1.2⟩,qyj n (qko h).2.2⟩
def zjj(l:List Tok):Bool:=l.all λy=>decide (y.x.size<=1000)
theorem zkq{a:List Tok}(h:zjj a=true):∀y∈a,y.x.size<=1000:=λy b=>of_decide_eq_true<|sJ.1 h y b
def qym(s:MStep):Bool:=decide (s.u.length<=1000)&&(zjj (bf s.guard)&&(qxq s.block&&(decide (kqq s.block<=1000)&&zjj (je s.block))))
theorem vv1{a:MStep}(h:qym a=true):jye a:=by unfold qym at h;simp only[rG,sD]at h;exact⟨h.1,zkq h.2.1,qyj _ h.2.2.1,h.2.2.2.1,zkq h.2.2.2.2⟩
def zkm(s:MNever):Bool:=decide (s.u.length<=1000)&&zjj (bf s.xp)
theorem pzs{a:MNever}(h:zkm a=true):pjh a:=by unfold zkm at h;simp only[rG,sD]at h;exact⟨h.1,zkq h.2⟩
def zq0(a:Mach):Bool:=a.X.all qym&&(a.q.all zkm&&(decide (a.z.length<=1000)&&(decide (a.X.length<=1000000)&&decide (a.q.length<=1000000))))
theorem vwv(h:zq0 j6=true):MachOk j6:=by unfold zq0 at h;simp only[rG,sD]at h;exact⟨λs a=>vv1<|sJ.1 h.1 s a,λs a=>pzs<|sJ.1 h.2.1 s a,h.2.2.1,h.2.2.2.1,h.2.2.2.2⟩
def zkh(m:MdL):Bool:=decide (m.j.length<=1000)&&(decide (m.p.length<=1000)&&((m.p.all λx=>decide (x.i.length<=1000))&&(decide (m.z.length<=1000)&&(decide (m.l.length<=1000)&&decide (m.q.length<=1000)))))
theorem jke(h:zkh m=true):MdFit m:=by unfold zkh at h;simp only[rG,sD]at h;exact⟨h.1,h.2.1,λx a=>of_decide_eq_true<|sJ.1 h.2.2.1 x a,h.2.2.2.1,h.2.2.2.2.1,h.2.2.2.2.2⟩
def qx5(s:ByteArray):Option Mach:=if zkh (ql (uz (jv s).1).1) then (jy5 (ql (uz (jv s).1).1)).bind λa=>if zq0 a then some a else none else none
abbrev Turn:=List (List Int)
variable {ts:List Turn}
def kql(n:Nat)(ts:List Turn):List Turn:=ts.flatMap λt=>(orders n).map λo=>t++[o]
def kkm:List Int->List Turn->Option (List Turn)
 |[],ts=>some ts
 |n::l,ts=>if 0<=n/\n<=4/\(kql n.toNat ts).length<=100000 then kkm l (kql n.toNat ts) else none
theorem jx1(n:Nat)(ts:List Turn)(j:Nat)(a:j<ts.length):kql n (ts.take (j+1))=kql n (ts.take j)++(orders n).map λo=>ts[j]++[o]:=by grind [List.take_succ_eq_append_getElem,kql]
theorem vqc(n:Nat)(ts:List Turn)(j:Nat):(kql n (ts.take j)).length<=(kql n ts).length:=by grind [List.take_append_drop,kql]
def kvz(v:MVar)(t:Turn)(i:Nat):Option Int:=if v.g==-1 then some i else if v.g<0 then none else (t[v.g.toNat]?).bind λo=>o[i]?
def qv3(v:MVar)(t:Turn)(x:Int):Option Int:=if (v.B==-1)||(x==0) then some x else if v.B<0\/x<0\/255<x then none else (t[v.B.toNat]?).bind λo=>(o[x.toNat-1]?).bind λy=>if 0<=y/\y<255 then some (y+1) else none
def kw0(v:MVar)(t:Turn)(st:List Int):List Nat->List Int->Option (List Int)
 |[],cur=>some cur
 |i::l,cur=>(kvz v t i).bind λp=>(st[v.f+i]?).bind λx=>(qv3 v t x).bind λy=>if 0<=p/\v.f+p.toNat<cur.length then kw0 v t st l (cur.set (v.f+p.toNat) y) else none
def qqw(t:Turn)(st:List Int):List MVar->List Int->Option (List Int)
 |[],cur=>some cur
 |v::vs,cur=>(kw0 v t st (List.range v.d) cur).bind λc=>qqw t st vs c
def jxx(least c:List Int):List Int:=if cmpL c least<0 then c else least
def kvk(vars:List MVar)(st:List Int):List Turn->List Int->List Int->Option (List Int×List Int)
 |[],least,cur=>some (least,cur)
 |t::ts,least,cur=>(qqw t st vars cur).bind λc=>kvk vars st ts (jxx least c) c
theorem zjq(v:MVar)(t:Turn){st:List Int}:∀(l:List Nat)(cur r:List Int),kw0 v t st l cur=some r->r.length=cur.length
 |[],cur,r,h=>by rw[kw0]at h;simp_all
 |i::l,cur,r,h=>by
  rw[kw0]at h;obtain⟨p,_,h⟩:=wu.1 h;obtain⟨x,_,h⟩:=wu.1 h;obtain⟨y,_,h⟩:=wu.1 h;split at h
  ·have:=zjq v t (st:=st) l _ r h;simp_all
  simp_all
theorem qjk{t:Turn}{st:List Int}:∀(vs:List MVar)(cur r:List Int),qqw t st vs cur=some r->r.length=cur.length
 |[],cur,r,h=>by rw[qqw]at h;simp_all
 |v::vs,cur,r,h=>by rw[qqw]at h;obtain⟨c,a,h⟩:=wu.1 h;rw[qjk (t:=t) (st:=st) vs c r h,zjq _ _ _ _ _ a]
theorem vzc{least c:List Int}(h:c.length=least.length):(jxx least c).length=least.length:=by unfold jxx;grind
theorem zjn(vars:List MVar){st:List Int}:∀(ts:List Turn)(least cur:List Int)(r:List Int×List Int),cur.length=least.length->kvk vars st ts least cur=some r->r.1.length=least.length/\r.2.length=cur.length
 |[],least,cur,r,_,h=>by grind [kvk]
 |t::ts,least,cur,r,hl,h=>by rw[kvk]at h;obtain⟨c,a,h⟩:=wu.1 h;have h1:=qjk _ _ _ a;have b:=vzc (least:=least) (c:=c) aj;have d:=zjn vars (st:=st) ts _ c r aj h;omega
structure SWay where
 U:List Int
 J:Nat
 E:ByteArray
abbrev Fnd:=List (List Int×SWay)
structure SSt where
 m:List SWay
 Z:List (List Int)
 P:Fnd
 cur:List Int
def kxl(k:List Int):Bool:=k.all λx=>decide (0<=x)&&decide (x<=255)
def qzc(f:Fnd)(k:List Int)(x:SWay):Fnd:=if f.any λy=>y.1==k then f else f++[(k,x)]
def qx9(a:Mach)(ts:List Turn)(x:SWay)(f:Fnd)(cur:List Int):Option (Fnd×List Int):=
 if 0<x.U.length/\x.U.length=cur.length/\x.U.length<=1000 then (kvk a.z x.U ts x.U cur).bind λr=>if kxl r.1 then some (qzc f r.1 x,r.2) else none else none
def xwv:SWay:=⟨[],0,⟨#[]⟩⟩
def kv4:Fnd->List Int->SWay
 |[],_=>xwv
 |y::l,k=>if y.1==k then y.2 else kv4 l k
def newF(seen:List (List Int))(f:Fnd):Fnd:=f.filter λy=>!(seen.any λk=>k==y.1)
def kv5(f:Fnd):List (List Int):=sortL (f.map λy=>y.1)
def jd(s:SSt):SSt:=let f:=newF s.Z s.P;⟨s.m++(kv5 f).map (kv4 f),s.Z++kv5 f,f,s.cur⟩
def endOf(v:MView):Int:=if 0<v.xs.length then 1 else if kx2 v then 2 else if 0<v.xz.length then 3 else 0
def zwz(a:Mach):List SWay->Nat->Option (Nat×Int)
 |[],_=>some (0,0)
 |x::l,at_=>if x.U.length<=1000000 then (lookO a x.U).bind λv=>if endOf v==0 then zwz a l (at_+1) else some (at_,endOf v) else none
def kzc(a:Mach)(ts:List Turn)(most at_:Nat)(st:List Int):List MStep->Fnd->List Int->Option (Fnd×List Int×Bool)
 |[],f,c=>some (f,c,false)
 |s::l,f,c=>(kwi a.z a.C s.u s.xy st s.guard s.block).bind λr=>if r.2==1 then (qx9 a ts ⟨r.1,at_,s.x⟩ f c).bind λq=>if most<q.1.length then some (q.1,q.2,true) else kzc a ts most at_ st l q.1 q.2 else kzc a ts most at_ st l f c
def kjh(a:Mach)(ts:List Turn)(most:Nat):List SWay->Nat->Fnd->List Int->Option (Fnd×List Int)
 |[],_,f,c=>some (f,c)
 |x::l,at_,f,c=>if x.U.length<=1000000 then (kzc a ts most at_ x.U a.X f c).bind λq=>if q.2.2 then some (q.1,q.2.1) else kjh a ts most l (at_+1) q.1 q.2.1 else none
def zk7(ways:List SWay):Nat->Nat->List ByteArray->Option (List ByteArray)
 |_,0,acc=>some acc
 |0,_+1,_=>none
 |n+1,k+1,acc=>(ways[k+1]?).bind λx=>if x.J<=k then zk7 ways n x.J (acc++[x.E]) else none
structure SRep where
 err:Int
 end_:Int
 xq:List ByteArray
 xr:Nat
def qq3(e:Int):SRep:=⟨e,0,[],0⟩
def qxm(s:SSt)(last:Nat)(e:Int):Option SRep:=(zk7 s.m last last []).map λl=>⟨0,e,l.reverse,s.m.length⟩
def kjk(a:Mach)(ts:List Turn)(most:Nat):Nat->SSt->Option SRep
 |0,_=>none
 |n+1,s=>
  if most<(jd s).m.length then some (qq3 9)
  else if (jd s).m.length==s.m.length then qxm (jd s) 0 0
  else (zwz a ((jd s).m.drop s.m.length) s.m.length).bind λx=>if x.2==0 then (kjh a ts most ((jd s).m.drop s.m.length) s.m.length [] (jd s).cur).bind λq=>kjk a ts most n ⟨(jd s).m,(jd s).Z,q.1,q.2⟩ else qxm (jd s) x.1 x.2
def kzs(a:Mach):SWay:=⟨List.replicate a.size 0,0,⟨#[]⟩⟩
def jqy(a:Mach)(most:Int):Option SRep:=
 if most<1\/500<most then some (qq3 8)
 else if a.size<=1000000 then (kkm a.j [[]]).bind λts=>(qx9 a ts (kzs a) []<|List.replicate a.size 0).bind λq=>kjk a ts most.toNat 502 ⟨[],[],q.1,q.2⟩ else none
def kvn(s:ByteArray)(most:Int):Option SRep:=if (qq4 s).1==0 then (qx5 s).bind λa=>jqy a most else some (qq3 (qq4 s).1)
theorem OwnRows.tk(h:OwnRows B w v ls)(a:Tk m6 bad w w')(b:pz w m6)(h1:31∉bad)(c:3∉bad):OwnRows B w' v ls:=by obtain⟨la,ll,lc,cs,e,d,f⟩:=h;exact⟨la,ll,lc,cs,e,jq d a b h1,f.tk a b c⟩
theorem kx4.one(h:kx4 w ls cs):∀y∈cs,y.oneCell'=true:=by intro y d;obtain⟨k,b,rfl⟩:=wG d;obtain⟨a,n,c,e,_⟩:=h.2 k (by rw[<-h.1];exact b);rw[wW b]at e;injection e with e;rw[e];rfl
def qqz(w:World)(ts:List Turn)(cs:List Value):Prop:=cs.length=ts.length/\∀k (hk:k<ts.length),∃v,cs[k]?=some v/\OwnRows 0 w v ts[k]
theorem qqz.tk(h:qqz w ts cs)(b:Tk m6 bad w w')(f:pz w m6)(h1:31∉bad)(a:3∉bad):qqz w' ts cs:=
 ⟨h.1,λk c=>by obtain⟨v,e,d⟩:=h.2 k c;exact⟨v,e,d.tk b f h1 a⟩⟩
theorem qqz.snoc{a:Turn}(h:qqz w ts cs)(f:OwnRows 0 w v a):qqz w (ts++[a]) (cs++[v]):=by
 refine⟨by simp[h.1],λk d=>?_⟩;by_cases b:k<ts.length
 ·obtain⟨g,e,c⟩:=h.2 k b;grind
 ·have:k=ts.length:=by grind
  subst this;exact⟨v,by rw[<-h.1];simp,by simp_all⟩
def kz6(B:Nat)(w:World)(x:Value)(ts:List Turn):Prop:=∃la ll lc cs,x=.slice la ll lc/\w.ownsRow B 256 1 (.slice la ll lc) ts.length cs/\qqz w ts cs
theorem kz6.tk(h:kz6 B w v ts)(a:Tk m6 bad w w')(b:pz w m6)(c:256∉bad)(h1:31∉bad)(d:3∉bad):kz6 B w' v ts:=by obtain⟨la,ll,lc,cs,e,f,g⟩:=h;exact⟨la,ll,lc,cs,e,jq f a b c,g.tk a b h1 d⟩
theorem jxw(h:w.ownsRow lo 31 1 (.slice xa B T) n cs)(q:∀y∈cs,y.oneCell'=true)(x:n<=1000000):Calls prog 128 #[.slice xa B T] w λe w'=>∃ca cn cc,e=.returned (.slice ca cn cc)/\w'.ownsRow w.heap.size 31 1 (.slice ca cn cc) n cs/\oq w w':=by
 obtain⟨a,k⟩|⟨g,cap,cur,a,k,u,v⟩:=h.2
 ·injection a with a f b;subst k;have hn:cs=[]:=Qv (by simpa using h.1);subst hn;have i:=λw=>Go.Lib.run_eql_slice_nil (P:=prog) w 256 31 none 0 0 0 0 underlying256
  go_wp2;go_ret;exact⟨none,0,0,rfl,jE,bR⟩
 ·injection a with a f b;subst a;subst f;subst b;have j:=show(w.alloc<|.cells #[] 31).ownsRow w.heap.size 31 1 (.slice (some ⟨w.heap.size,0,none⟩) 0 0) 0 [] from⟨rfl,.inr ⟨w.heap.size,0,_,rfl,jH,qy,jH,ay,rfl,rfl⟩⟩
  obtain⟨i0,hi,l,m,p⟩:=info_parts infoInts;have i:=λw=>Go.Lib.run_eql_slice_nil (P:=prog) w 256 31 (some ⟨g,0,none⟩) B T 0 0 underlying256
  go_in;go_wp2_with (at_builtin;refine kqv rfl 256 rfl w.heap.size 31 i0 _ 1 24 underlying256 hi l m p rfl ak (.slice (some ⟨w.heap.size,0,none⟩) 0 0) 0 [] rfl j (.slice (some ⟨g,0,none⟩) B T) B _ _ rfl (qj h<|jZ w (o:=.cells #[] 31)) q aj aj ay ?_)
  intro z w3 d c s;obtain⟨a3,t,c3,rfl⟩:=qh d;go_wp2;go_ret;exact⟨a3,t,c3,rfl,d,((jZ w).grown c ay<|jo j)⟩
theorem jy0(n:Nat)(hn:n<=4):(orders n).length<=24:=by grind [orders,qyh,kzl]
def pjm(B:Nat)(w:World)(M size:Nat)(ts:List Turn)(e:Ending)(w':World):Prop:=
 ∃O tv cv,e=.returned (.pointer<|some ⟨O,0,none⟩)/\w'.heap[O]?=some (.cells #[.pointer (some ⟨M,0,none⟩),tv,cv] 260 (0,0))/\kz6 B w' tv ts/\w'.ownsRow B 5 1 cv size ((List.replicate size (0:Int)).map<|Value.int .u8)/\B<=O/\Below B w w'
theorem vw3(hM:M<w.heap.size)(aH:w.cell? ⟨M,2,none⟩=some (.slice i1 B T))(hS:w.ownsRow 0 3 1 (.slice i1 B T) sets.length (sets.map (Value.int .i64)))(b4:w.cell? ⟨M,5,none⟩=some (.int .i64 size))(bZ:size<=1000000)(cW:sets.length<=1000)(hr:kkm sets [[]]=some ts):Calls prog 75 #[.pointer (some ⟨M,0,none⟩)] w (pjm w.heap.size w M size ts):=by
 obtain⟨W,hW⟩:∃W,W=w.alloc (.cells #[.slice none 0 0] 256):=⟨_,rfl⟩;have S:oq w W:=jM;have cV:w.heap.size<W.heap.size:=by simp_all
 have hA:W.heap[w.heap.size]?=some (.cells #[.slice none 0 0] 256 (0,0)):=kK;have bG:kz6 w.heap.size W (.slice (some ⟨w.heap.size,0,none⟩) 1 1) [[]]:=
  ⟨_,_,_,[.slice none 0 0],rfl,⟨rfl,.inr ⟨w.heap.size,1,_,rfl,jH,hA,jH,iq,rfl,rfl⟩⟩,rfl,λk hk=>by
   have:k=0:=by simp_all
   subst this;exact⟨.slice none 0 0,rfl,none,0,0,[],rfl,jE,rfl,λk hk=>by grind⟩⟩
 obtain⟨ya,yc,e1,(HW:Hid _)⟩:=qp<|qj hS S;injection e1 with e1 e2 e3;subst e1;subst e2;subst e3;have c2:(w.alloc<|.cells #[.slice none 0 0] 256).cell? ⟨M,2,none⟩=some (.slice i1 sets.length T):=by rw[<-hW];exact(S.cell (p:=⟨M,2,none⟩) hM).trans aH
 obtain⟨bJ,HR⟩:=ju hW.symm hr;clear hr hA hW aH;go_in;go_wp21;rw[bJ];go_loopw [3,5,6,8,10,17] (λx _ _ _ _ i wr=>∃(k:Nat)(all:List Turn),k<=sets.length/\i=.int .i64 k/\kz6 w.heap.size wr x all/\kkm (sets.drop k) all=some ts/\all.length<=100000/\(∀t∈all,t.length<=k)/\oq W wr) (λ_ _ _ _ _ i _=>sets.length-(intOf i).toNat);exact⟨0,[[]],jR,rfl,bG,HR,ay,ay,bR⟩;obtain⟨m,cC⟩:∃m,m=wr:=⟨_,rfl⟩;subst cC;obtain⟨k,all,hk,rfl,v,f,cQ,(V:Hid _),hb⟩:=hrel;obtain⟨xa,xn,xc,cs,rfl,b,a⟩:=v;obtain⟨za,zc,ez,aA⟩:=qp b;injection ez with bQ bS bT;subst bQ;subst bS;subst bT;have cO:=hb.size;by_cases a3:k<sets.length
 ·obtain⟨g,rfl,cR,bW,hc⟩:=HW k a3;have e0:m.cell? ⟨g,k,none⟩=some (.int .i64 sets[k]):=by rw[hb.cell (p:=⟨g,k,none⟩) bW,hc k aj,QV,wW a3];rfl
  rw[rU a3,kkm]at f;have A:0<=sets[k]/\sets[k]<=4/\(kql sets[k].toNat all).length<=100000:=by simp_all
  rw[lJ A]at f;obtain⟨n,hn⟩:∃n:Nat,sets[k]=(n:Int):=⟨sets[k].toNat,aj⟩;rw[hn]at A f e0;simp only[tX]at A f;obtain⟨_,bX,A⟩:=A;have a4:n<=4:=aj;obtain⟨bL,bB,HB⟩:=jp aA a hb;have bC:=show kz6 m.heap.size m (.slice none 0 0) (kql n<|all.take 0) from⟨none,0,0,[],rfl,by grind [kql,World.ownsRow_nil],by simp[kql],λk hk=>by simp[kql]at hk⟩
  clear hc hb b a aA hn bX;go_wp21;go_loopw [6,8,10,23] (λy _ _ i J=>∃j:Nat,j<=all.length/\i=.int .i64 j/\kz6 m.heap.size J y (kql n<|all.take j)/\oq m J) (λ_ _ _ i _=>all.length-(intOf i).toNat);exact⟨0,jR,rfl,bC,bR⟩;obtain⟨J,cB⟩:∃J,J=wr:=⟨_,rfl⟩;subst cB;obtain⟨j,cS,rfl,v,s⟩:=hrel;obtain⟨P,R,Q,ds,rfl,b,a⟩:=v;have aV:=s.size;by_cases D:j<all.length
  ·obtain⟨g5,rfl,cJ,cK,aI⟩:=bL j D;obtain⟨v5,aG,bV⟩:=bB.2 j D;have e5:J.cell? ⟨g5,j*1,none⟩=some v5:=by rw[s.cell (p:=⟨g5,j*1,none⟩) aj,aI (j*1) aj,Jb];exact aG
   simp only[Jb]at e5;have cI:all[j].length<=k:=V _<|wZ D;have aS:=bV.below s;obtain⟨ta,tn,tc,d0,rfl,bH,bI⟩:=aS;obtain⟨aN,aB,b2,C⟩:=jb b a s (jx1 n all j D);have cN:=vqc n all<|j+1;have b8:=vw2 J n a4;generalize all[j]=c at *;clear b a s aI aG;go_wp21
   refine b8.mono ?_;rintro e w3 ⟨v3,rfl,bY,F⟩;obtain⟨oa,on,oc,cX,rfl,aF,b9⟩:=bY;obtain⟨qa,qc,eq,a8⟩:=qp aF;injection eq with Z bP a0;subst Z;subst bP;subst a0;have cT:=jy0 n a4;have aO:=qj bH F;have aP:=bI.tk (yt F none []) (pz.none _) ay;have bD:=show kz6 m.heap.size w3 (.slice P R Q) (kql n (all.take j)++((orders n).take 0).map λo=>c++[o]) from⟨P,R,Q,ds,rfl,by simpa using qj aN F,by simpa using aB.tk (yt F none []) (pz.none _) ay ay⟩
   have aX:=b2.trans<|F.mono aV;generalize orders n=d at *;clear a8;go_wp21
   go_loopw [6,10,30] (λy _ i z=>∃q:Nat,q<=d.length/\i=.int .i64 q/\kz6 m.heap.size z y (kql n (all.take j)++(d.take q).map λo=>c++[o])/\oq m z/\Tk none [256] w3 z) (λ_ _ i _=>d.length-(intOf i).toNat);exact⟨0,jR,rfl,bD,aX,Tk.refl _ _ _⟩;obtain⟨z,cA⟩:∃z,z=wr:=⟨_,rfl⟩;subst cA;obtain⟨q,hq,rfl,v,G,l⟩:=hrel;obtain⟨y1,y2,y3,bM,rfl,b,a⟩:=v;have aU:=G.size;have cH:=l.size;by_cases a2:q<d.length
   ·obtain⟨cY,cZ,bO,aJ⟩:=qp<|jq aF l (pz.none _) ak;injection bO with Z _ a0;subst Z;subst a0;obtain⟨g6,rfl,cL,cM,bU⟩:=aJ q a2;obtain⟨cD,cF,cE,bN,bA⟩:=(b9.tk l (pz.none _) ak).2 q a2;have e6:z.cell? ⟨g6,q*1,none⟩=some (.slice cD cF cE):=by simp_all
    simp only[Jb]at e6;obtain⟨b5,aD,aC,X,U,aM⟩:=qQ (jq aO l (pz.none _) ak) (aP.tk l (pz.none _) ak) b a G l;have aK:(kql n (all.take j)++(d.take<|q+1).map λo=>c++[o])=(kql n (all.take j)++(d.take q).map λo=>c++[o])++[c++[d[q]]]:=by rw[tJ a2,Qw,<-sZ];rfl
    have bF:=oz aK;have cG:(kql n (all.take j)++(d.take q).map λo=>c++[o]).length<=100000:=by
     have h1:(kql n (all.take j)++(d.take q).map λo=>c++[o]).length<=(kql n<|all.take (j+1)).length:=by rw[C];simp_all
     omega
    have aW:=oz<|aD.one;generalize d[q]=od at *;generalize (kql n (all.take j)++(d.take q).map λo=>c++[o])=Lg at *;clear b a G l bU bN aK aJ;go_wp21
    refine(jxw b5 aW aj).mono ?_;rintro e w4 ⟨ka,kn,kc,rfl,aE,a1⟩;have aT:=a1.size;have aY:=oz a1;clear a1;go_wp2_with (at_builtin;refine apO (aE.alloc _) ?_)
    intro v5 I E H _ aQ;obtain⟨a5,l5,c5,rfl⟩:=qh E;have h:oq z I:=(aY.alloc aT _).grown H ah<|jo aE;have cP:=h.size;obtain⟨b7,L⟩:=ju (show OwnRows 0 I (.slice a5 l5 c5) (c++[od]) from⟨a5,l5,c5,_,rfl,by rw[rD];exact qo jR E,(aD.tk (yt h none []) (pz.none _) ay).snoc<|qj bA h⟩) (qj aC h);clear E H aQ;go_wp2_with (at_builtin;refine apO (L.alloc _) ?_)
    intro v6 w6 O u _ aR;obtain⟨a6,l6,c6,rfl⟩:=qh O;have k6:Tk none [256] I w6:=(yt (jZ I) _ _).trans<|kz4 (L.alloc _) u ay;obtain⟨bK,aZ,aL⟩:=jp (show kz6 m.heap.size w6 (.slice a6 l6 c6) (Lg++[c++[od]]) from⟨a6,l6,c6,_,rfl,by simp_all,((X.tk (yt h none [256]) (pz.none _) ak ak).snoc b7).tk k6 (pz.none _) ak ak⟩) (((U.trans<|h.mono aU).alloc aj _).grown u ah (jo L)) ((aM.trans<|yt h _ _).trans k6);clear O u aR k6;go_wp2
    exact rdM ⟨q+1,aj,eu,by rw[bF];exact bK,aZ,aL⟩
   ·have:q=d.length:=by omega
    subst this;rw[Qc]at b a;obtain⟨Y,U⟩:=ju (show kz6 m.heap.size z (.slice y1 y2 y3) (kql n<|all.take (j+1)) from⟨y1,y2,y3,bM,rfl,by rw[C];omega,by rw[C];omega⟩) G;clear b a G l;go_wp2;exact rdM ⟨j+1,aj,eu,Y,U⟩
  ·have:j=all.length:=by omega
   subst this;rw[Qc]at b a;obtain⟨Y,b3⟩:=ju (show kz6 w.heap.size J (.slice P R Q) (kql n all) from⟨P,R,Q,ds,rfl,qo aj b,a⟩) (HB.trans (s.mono aj));have b6:=oz (show ∀t∈kql n all,t.length<=k+1 from λt ht=>by obtain⟨c,hc,h2⟩:=rM.1 ht;obtain⟨o,_,rfl⟩:=tY.1 h2;have:=V c hc;simp_all)
   clear b a s;go_wp2;exact rdM ⟨k+1,kql n all,aj,eu,Y,f,A,b6,b3⟩
 ·have:k=sets.length:=by omega
  subst this;rw[sK,kkm]at f;injection f with f;subst f;have Y:=oz (show kz6 w.heap.size m (.slice xa all.length xc) all from⟨xa,all.length,xc,cs,rfl,b,a⟩);have N:=S.trans<|hb.mono aj;have a9:=N.size;obtain⟨HF,HB⟩:=ju (zw8 m M size ((N.cell (p:=⟨M,5,none⟩) hM).trans b4) bZ) N;clear b a hb aA N;go_wp21
  refine HF.mono ?_;rintro e I ⟨v5,rfl,a7,h⟩;obtain⟨a5,l5,c5,rfl⟩:=qh a7;have cU:=h.size;have K:=(yt h none []).alloc<|.cells #[.pointer (some ⟨M,0,none⟩),.slice xa all.length xc,.slice a5 l5 c5] 260;have HP:=oz (show pjm w.heap.size w M size all (.returned<|.pointer (some ⟨I.heap.size,0,none⟩)) (I.alloc<|.cells #[.pointer (some ⟨M,0,none⟩),.slice xa all.length xc,.slice a5 l5 c5] 260) from
   ⟨I.heap.size,_,_,rfl,qy,Y.tk K (pz.none _) ay ay ay,qo a9<|a7.alloc _,aj,(HB.trans<|h.mono a9).alloc aj _⟩)
  clear a7 K HF;go_wp2;go_ret;exact HP
def kzf(B:Nat)(w:World)(x:Value)(ts:List (List (List Int))):Prop:=∃la ll lc cs,x=.slice la ll lc/\w.ownsRow B 79 1 (.slice la ll lc) ts.length cs/\qqz w ts cs
theorem OwnRows.mono(h:OwnRows B w v L)(d:C<=B):OwnRows C w v L:=by obtain⟨a,n,c,cs,rfl,h1,b⟩:=h;exact⟨a,n,c,cs,rfl,qo d h1,b⟩
theorem OwnRows.I(h:OwnRows B w v L):∃a c,v=.slice a L.length c:=by obtain⟨a,n,c,cs,rfl,h1,b⟩:=h;grind [qp]
theorem OwnRows.get(h:OwnRows B w (.slice xa L.length c) L)(b:k<L.length):∃g ra rn rc,xa=some ⟨g,0,none⟩/\g<w.heap.size/\w.cell? ⟨g,k,none⟩=some (.slice ra rn rc)/\w.ownsRow 0 3 1 (.slice ra rn rc) L[k].length (L[k].map (Value.int .i64)):=by obtain⟨_,_,_,cs,e,h1,_,a⟩:=h;grind [qp]
theorem kzf.snoc{l:List (List Int)}(d:qqz w m8 cs)(m:w.ownsRow B 79 1 x m8.length cs)(j:OwnRows 0 w v l)(h:w'.ownsRow B 79 1 xv (m8.length+1) (cs++[v]))(i:w.grownBy w' x.ownBlock):kzf B w' xv (m8++[l]):=by
 obtain⟨a,n,c,rfl⟩:=qh h;have f:∀{v:Value} {l:List (List Int)},OwnRows 0 w v l->OwnRows 0 w' v l:=λhv=>by obtain⟨a,n,c,cs,rfl,h1,g,p⟩:=hv;exact⟨a,n,c,cs,rfl,kqx h1 m ak i,g,λk b=>by grind [kqx]⟩
 exact⟨a,n,c,_,rfl,by simp_all,qqz.snoc ⟨d.1,λk b=>by obtain⟨v,e,hv⟩:=d.2 k b;simp_all⟩<|f j⟩
abbrev xy1(a j b m:Nat)(c d:Value)(w:World):Prop:=w.cell? ⟨a,j,none⟩=some c/\w.cell? ⟨b,m,none⟩=some d
def vyw(t:PTree):Prop:=t.j.length<=801/\∀k (hk:k<t.j.length),zx (ug t) (t.j[k]).y.x.toList=k/\zz9 (t.j[k]).size/\∃n:Nat,mg (t.j[k]).size.x=n/\n<=4
theorem px8(h:kqc w T t)(hs:vyw t):Calls prog 81 #[.pointer (some ⟨T,0,none⟩)] w λe w'=>∃v,e=.returned v/\kzf w.heap.size w' v (kzv t)/\oq w w':=by
 have HT:=oz h;obtain⟨aF,O⟩:=hs;have O:=oz O;obtain⟨x0,x1,x2,x3,x4,y1,y3,y4,hT,hv,_⟩:=h;obtain⟨q0,q1,q2,q3,q4,_⟩:=kzk hT;have aX:=wQ hT;obtain⟨sa,sc,rfl,(HV:Hid _)⟩:=qp hv;clear q1 q2 q3 q4 hT;have HN:∀k,Hid (∀E:k<t.j.length,∃g,sa=some ⟨g,0,none⟩/\g<w.heap.size/\w.cell? ⟨g,k*6+1,none⟩=some (.string (t.j[k]).y.x)):=λk E=>by obtain⟨g,e,_,hg,hc⟩:=ku HV k E;exact⟨g,e,hg,(hc _ aj).trans<|kqo kwz 6 (λ_=>rfl) t.j k 1 E aj⟩
 obtain⟨W,hW⟩:∃W,W=(((w.alloc<|.cells #[.int .i64 0,.int .i64 1,.int .i64 2] 3).alloc<|.cells #[.slice (some ⟨w.heap.size,0,none⟩) 3 3] 31).alloc<|.cells #[.int .i64 0,.int .i64 1,.int .i64 2] 3).alloc (.cells #[.slice (some ⟨w.heap.size+1+1,0,none⟩) 3 3] 31):=⟨_,rfl⟩;have C:oq w W:=by rw[hW];exact(((jZ w).alloc ay _).alloc ah _).alloc ah _
 have bA:W.heap.size=w.heap.size+4:=by simp_all
 have c0:((((w.alloc<|.cells #[.int .i64 0,.int .i64 1,.int .i64 2] 3).alloc<|.cells #[.slice (some ⟨w.heap.size,0,none⟩) 3 3] 31).alloc<|.cells #[.int .i64 0,.int .i64 1,.int .i64 2] 3).alloc<|.cells #[.slice (some ⟨w.heap.size+1+1,0,none⟩) 3 3] 31).cell? ⟨T,0,none⟩=some (.slice sa t.j.length sc):=by rw[<-hW];exact(C.cell (p:=⟨T,0,none⟩) aX).trans q0
 have Q:W.heap[w.heap.size]?=some (.cells #[.int .i64 0,.int .i64 1,.int .i64 2] 3 (0,0))/\W.heap[w.heap.size+1]?=some (.cells #[.slice (some ⟨w.heap.size,0,none⟩) 3 3] 31 (0,0))/\W.heap[w.heap.size+1+1]?=some (.cells #[.int .i64 0,.int .i64 1,.int .i64 2] 3 (0,0))/\W.heap[w.heap.size+1+1+1]?=some (.cells #[.slice (some ⟨w.heap.size+1+1,0,none⟩) 3 3] 31 (0,0)):=by rw[hW];have a0:=qy (w:=w) (o:=.cells #[.int .i64 0,.int .i64 1,.int .i64 2] 3);have a1:=qy (w:=w.alloc<|.cells #[.int .i64 0,.int .i64 1,.int .i64 2] 3) (o:=.cells #[.slice (some ⟨w.heap.size,0,none⟩) 3 3] 31);have a2:=qy (w:=(w.alloc<|.cells #[.int .i64 0,.int .i64 1,.int .i64 2] 3).alloc<|.cells #[.slice (some ⟨w.heap.size,0,none⟩) 3 3] 31) (o:=.cells #[.int .i64 0,.int .i64 1,.int .i64 2] 3);have a3:=qy (w:=((w.alloc<|.cells #[.int .i64 0,.int .i64 1,.int .i64 2] 3).alloc<|.cells #[.slice (some ⟨w.heap.size,0,none⟩) 3 3] 31).alloc<|.cells #[.int .i64 0,.int .i64 1,.int .i64 2] 3) (o:=.cells #[.slice (some ⟨w.heap.size+1+1,0,none⟩) 3 3] 31);simp only[tV]at a1 a2 a3;exact⟨zy<|zy (zy a0),zy<|zy a1,zy a2,a3⟩
 have a4:∀{g b:Nat},w.heap.size<=b->W.heap[g]?=some (.cells #[.int .i64 0,.int .i64 1,.int .i64 2] 3 (0,0))->W.heap[b]?=some (.cells #[.slice (some ⟨g,0,none⟩) 3 3] 31 (0,0))->OwnRows w.heap.size W (.slice (some ⟨b,0,none⟩) 1 1) [[0,1,2]]:=λhb h1 h2=>
  ⟨_,_,_,[.slice (some ⟨_,0,none⟩) 3 3],rfl,⟨rfl,.inr ⟨_,1,_,rfl,hb,h2,jH,iq,rfl,rfl⟩⟩,rfl,λk E=>by
   obtain rfl:k=0:=by simp_all
   exact⟨_,_,_,rfl,rfl,.inr ⟨_,3,_,rfl,jR,h1,jH,iq,rfl,rfl⟩⟩⟩
 have H1:=a4 aj Q.1 Q.2.1;have H2:=a4 aj Q.2.2.1 Q.2.2.2;clear a4 Q;have I:=oz hW.symm;clear hW q0;have G:∀k (E:k<t.j.length) (n:Nat),mg (t.j[k]).size.x=n->zxi t.j[k]?=kj3 n:=λk E n e=>by rw[wW E];show kj3 (mg (t.j[k]).size.x).toNat=_;simp_all
 have z:∀k,t.j.length<=k->zxi t.j[k]?=[[0,1,2]]:=λk E=>by rw[Jo E];rfl
 have B:=oz (show kzv t=(zxi t.j[0]?).flatMap λo=>(zxi t.j[1]?).map λp=>[o,p] from rfl);have H1:Hid (∀wx,oq W wx->OwnRows w.heap.size wx (.slice (some ⟨w.heap.size+1,0,none⟩) 1 1) [[0,1,2]]):=λwx N=>H1.below N
 have H2:Hid (∀wx,oq W wx->OwnRows w.heap.size wx (.slice (some ⟨w.heap.size+1+1+1,0,none⟩) 1 1) [[0,1,2]]):=λwx N=>H2.below N
 have b8:([[0,1,2]]:List (List Int)).length<=24:=ay;obtain hn|hn|hn:=Nat.lt_trichotomy t.j.length 1;case' inl=>
  have aO:t.j.length=0:=aj;rw[z 0 aj,z 1 aj]at B;rw[aO]at c0;clear hn HN G z aO;go_in;go_wp21;rw[ku I];obtain⟨A,b4⟩:∃A,A=W:=⟨_,rfl⟩;subst b4;have J:=ku H1 A<|bR;have F:=ku H2 A<|bR;have X:=C;clear c0;obtain⟨f,u⟩:∃L,L=([[0,1,2]]:List (List Int)):=⟨_,rfl⟩;obtain⟨d,x⟩:∃L,L=([[0,1,2]]:List (List Int)):=⟨_,rfl⟩;have B:=oz (by rw[u,x];exact B:kzv t=f.flatMap λo=>d.map λp=>[o,p]);have a6:f.length<=24:=by simp_all
  have a7:d.length<=24:=by simp_all
  rw[<-u]at J;rw[<-x]at F;clear u x;generalize (Value.slice (some ⟨w.heap.size+1,0,none⟩) 1 1)=v1 at J |-;generalize (Value.slice (some ⟨w.heap.size+1+1+1,0,none⟩) 1 1)=v2 at F |-
 case' inr.inl=>
  obtain⟨g,rfl,hg,cn⟩:=HN 0 aj;obtain⟨l0,aD,n0,Z,Y⟩:=ku O 0 aj;rw[G 0 aj n0 Z,z 1 aj]at B;have V:=(C.cell (p:=⟨g,1,none⟩) hg).trans cn;rw[<-ku I]at V;have U:=HT.below C;have a5:=qk5 U aF aj l0 aD;rw[hn]at c0;clear HN cn G z;generalize (t.j[0]).y.x=nm at *;go_in;go_wp21;rw[ku I];refine a5.mono ?_;rintro e W ⟨rfl,rfl⟩;rw[Z];go_wp21;refine(qzo n0 _ Y).mono ?_;rintro e A ⟨v1,rfl,J,D,_⟩;have J:=J.mono (by omega:w.heap.size<=W.heap.size);have F:=ku H2 A D;have cT:A.cell? ⟨T,0,none⟩=some (.slice (some ⟨g,0,none⟩) 1 sc):=(D.cell (p:=⟨T,0,none⟩)<|by grind).trans (by rw[<-ku I];exact c0);have X:=C.trans (D.mono (by omega:w.heap.size<=W.heap.size));have a6:=kzl n0 Y;obtain⟨f,u⟩:∃L,L=kj3 n0:=⟨_,rfl⟩;obtain⟨d,x⟩:∃L,L=([[0,1,2]]:List (List Int)):=⟨_,rfl⟩;have B:=oz (by rw[u,x];exact B:kzv t=f.flatMap λo=>d.map λp=>[o,p]);have a7:d.length<=24:=by simp_all
  rw[<-u]at J a6;rw[<-x]at F;clear u x c0 V Z;generalize (Value.slice (some ⟨w.heap.size+1+1+1,0,none⟩) 1 1)=v2 at F |-
 case' inr.inr=>
  obtain⟨g,rfl,hg,cn⟩:=HN 0 aj;obtain⟨g',eg,_,cm⟩:=HN 1 aj;injection eg with eg;rw[Addr.mk.injEq]at eg;obtain⟨rfl,_⟩:=eg;obtain⟨l0,aD,n0,Z,Y⟩:=ku O 0 aj;obtain⟨l1,aY,n1,e1,aN⟩:=ku O 1 aj;rw[G 0 aj n0 Z,G 1 aj n1 e1]at B;have V:=(C.cell (p:=⟨g,1,none⟩) hg).trans cn;rw[<-ku I]at V;have U:=oz<|HT.below C;obtain⟨a5,aJ,HC⟩:=jp (qk5 U aF aj l0 aD) (λwx (N:oq W wx)=>qk5 (U.below N) aF aj l1 aY) (λwx (N:oq W wx)=>show wx.cell? ⟨T,0,none⟩=some (.slice (some ⟨g,0,none⟩) t.j.length sc)/\wx.cell? ⟨g,7,none⟩=some (.string (t.j[1]).y.x) from⟨(N.cell (p:=⟨T,0,none⟩)<|by grind).trans (by rw[<-ku I];exact c0),(N.cell (p:=⟨g,7,none⟩)<|by grind).trans<|(C.cell (p:=⟨g,7,none⟩) hg).trans cm⟩);clear HN cn cm G z;generalize (t.j[0]).y.x=nm at *;generalize (t.j[1]).y.x=nn at *;go_in
  go_wp21;rw[ku I];refine a5.mono ?_;rintro e W ⟨rfl,rfl⟩;rw[Z];go_wp21;refine(qzo n0 _ Y).mono ?_;rintro e w1 ⟨v1,rfl,aP,D,_⟩;obtain⟨cT,cG⟩:=ku HC w1 D;have b7:=D.size;clear c0 V;go_wp21;refine(aJ w1 D).mono ?_;rintro e w1 ⟨rfl,rfl⟩;rw[e1];go_wp21;refine(qzo n1 _ aN).mono ?_;rintro e A ⟨v2,rfl,F,aC,_⟩;have J:=(aP.mono (by omega:w.heap.size<=W.heap.size)).below aC;have F:=F.mono (by omega:w.heap.size<=w1.heap.size);have X:=(C.trans<|D.mono (by omega:w.heap.size<=W.heap.size)).trans (aC.mono (by omega:w.heap.size<=w1.heap.size));have a6:=kzl n0 Y;have a7:=kzl n1 aN;obtain⟨f,u⟩:∃L,L=kj3 n0:=⟨_,rfl⟩;obtain⟨d,x⟩:∃L,L=kj3 n1:=⟨_,rfl⟩;have B:=oz (by rw[u,x];exact B:kzv t=f.flatMap λo=>d.map λp=>[o,p]);rw[<-u]at J a6;rw[<-x]at F a7;clear u x I HT C H1 H2 U a5 aJ HC Z e1 D aC aP cT cG
 all_goals
  obtain⟨a1,c1,rfl⟩:=J.I;obtain⟨a2,c2,rfl⟩:=F.I;obtain⟨J,F⟩:=ju J F;have aR:=X.size;have aT:=oz X;clear X O;go_wp21;go_loopw [5,6,7] (λy i _ wr=>∃j:Nat,j<=f.length/\i=.int .i64 j/\kzf A.heap.size wr y ((f.take j).flatMap λo=>d.map λp=>[o,p])/\oq A wr) (λ_ i _ _=>f.length-(intOf i).toNat);exact⟨0,jR,rfl,⟨none,0,0,[],rfl,by simp;exact jE,ay,λk E=>by grind⟩,bR⟩;obtain⟨wo,b6⟩:∃wo,wo=wr:=⟨_,rfl⟩;subst b6;obtain⟨j,hj,rfl,HO,aK⟩:=hrel;obtain⟨ya,yn,yc,_,rfl,_⟩:=id HO;obtain⟨HO,aV⟩:=ju HO aK;by_cases aM:j<f.length
  case neg=>
   have HE:=oz (show kzf w.heap.size wo (.slice ya yn yc) (kzv t) from by have:=ku HO;rw[show j=f.length by omega,Qc,<-ku B]at this;obtain⟨a,n,c,cs,e,h1,h2⟩:=this;exact⟨a,n,c,cs,e,qo aR h1,h2⟩)
   clear aK;go_wp2;go_ret;exact⟨_,rfl,HE,aT.trans<|aV.mono aR⟩
  case pos=>
  have aG:=oz (show((f.take<|j+1).flatMap λo=>d.map λp=>[o,p])=((f.take j).flatMap λo=>d.map λp=>[o,p])++(d.take d.length).map λp=>[f[j],p] by rw[tJ aM,JZ,Qc];simp)
  have b9:((f.take j).flatMap λo=>d.map λp=>[o,p]).length<=600:=by
   have:∀(l m:List (List Int)),(l.flatMap λo=>m.map λp=>[o,p]).length=l.length*m.length:=λl m=>by
    induction l with
    |nil=>simp
    |cons o l ih=>grind
   rw[this,Ze];exact rP (Jt (by omega:min j f.length<=24) a7) aj
  generalize ((f.take j).flatMap λo=>d.map λp=>[o,p])=pre at *;have HI:=oz (show kzf A.heap.size wo (.slice ya yn yc) (pre++(d.take 0).map λp=>[f[j],p]) from by simp_all);clear HO;go_wp21;go_loopw [5,7] (λy q s=>∃m:Nat,m<=d.length/\q=.int .i64 m/\kzf A.heap.size s y (pre++(d.take m).map λp=>[f[j],p])/\oq A s) (λ_ q _=>d.length-(intOf q).toNat)
  ·grind
  obtain⟨s,b5⟩:∃s,s=wr:=⟨_,rfl⟩;subst b5;obtain⟨m,hm,rfl,⟨za,zn,zc,cs,rfl,a8,a9⟩,P⟩:=hrel;have aH:=oz P;by_cases aL:m<d.length
  case neg=>
   have HE:=oz (show kzf A.heap.size s (.slice za zn zc) ((f.take<|j+1).flatMap λo=>d.map λp=>[o,p]) from by rw[ku aG,<-show m=d.length by omega];exact⟨za,zn,zc,cs,rfl,a8,a9⟩)
   clear a8 a9 P;go_wp2;exact rdM ⟨j+1,aj,eu,HE,aH⟩
  case pos=>
  have b3:=P.size;obtain⟨g1,r1,n1,k1,rfl,aZ,p1,o1⟩:=(J.below P).get aM;obtain⟨g2,r2,n2,k2,rfl,b2,p2,o2⟩:=(F.below P).get aL;have bB:(pre++(d.take m).map λp=>[f[j],p]).length<=700:=by grind
  have aS:=oz (show OwnRows 0 (s.alloc<|.cells #[.slice r1 n1 k1,.slice r2 n2 k2] 31) (.slice (some ⟨s.heap.size,0,none⟩) 2 2) [f[j],d[m]] from
   ⟨_,_,_,[.slice r1 n1 k1,.slice r2 n2 k2],rfl,⟨rfl,.inr ⟨_,2,_,rfl,jR,qy (w:=s),jH,iq,rfl,rfl⟩⟩,rfl,λk E=>by
    match k,E with
    |0,_=>exact⟨_,_,_,rfl,o1.alloc _⟩
    |1,_=>exact⟨_,_,_,rfl,o2.alloc _⟩⟩)
  have aW:=oz (show(pre++(d.take<|m+1).map λp=>[f[j],p])=(pre++(d.take m).map λp=>[f[j],p])++[[f[j],d[m]]] by rw[tJ aL,Qw,<-sZ];rfl)
  obtain⟨aA,aI⟩:=ju a8 a9;generalize (pre++(d.take m).map λp=>[f[j],p])=Lg at *;clear a8 a9 o1 o2 P;have aB:Hid (∀wx,oq s wx->xy1 g1 j g2 m (.slice r1 n1 k1) (.slice r2 n2 k2) wx):=λwx N=>⟨(N.cell (p:=⟨g1,j,none⟩) aZ).trans p1,(N.cell (p:=⟨g2,m,none⟩) b2).trans p2⟩
  have HD:=oz<|(Below.refl s.heap.size s).drew;clear p1 p2;go_upto_region 14 with fail
  refine bg (S:=xy1 g1 j g2 m (.slice r1 n1 k1)<|.slice r2 n2 k2) (tl:=[10,11,12]) au ?_;refine frS 0 ?_;refine frS 1 ?_;refine frS 2 ?_;refine frS 3 ?_;refine tkS 4 (aB _ HD) ?_;refine frS 5 ?_;refine frS 6 ?_;refine frS 7 ?_;refine tkS 8 (aB _ HD) ?_;refine onS 9 λK M=>?_
  go_simp;refine M _ _ (aB _<|HD.alloc HD.size _) ?_;clear M K;refine kyj ?_;refine onA 10 λK M=>?_
  go_simp;refine M _ _ ?_;clear M K;refine onA 11 λK M=>?_
  refine apL (qj aA<|(HD.alloc HD.size _).alloc ay _) (alloc_at (s.heap.size+1) ay) ?_ (H:=s.heap.size+2) (hH:=ay);intro gg gcap w5 aQ aE _ _;refine M _ _ ?_;clear M K;refine onA 12 λK M=>?_
  go_simp;refine M _ _ ?_;clear M K;refine wpAny_done au ?_ _;have R:oq s ((s.alloc<|.cells #[.slice r1 n1 k1,.slice r2 n2 k2] 31).alloc<|.cells #[.slice (some ⟨s.heap.size,0,none⟩) 2 2] 79).drew:=((jZ s).alloc ay _).drew;obtain⟨HX,aU⟩:=ju (kzf.snoc (w:=((s.alloc<|.cells #[.slice r1 n1 k1,.slice r2 n2 k2] 31).alloc<|.cells #[.slice (some ⟨s.heap.size,0,none⟩) 2 2] 79).drew) ⟨aI.1,λk E=>by obtain⟨v,e,hv⟩:=aI.2 k E;exact⟨v,e,hv.below R⟩⟩ (qj aA R) (aS.below (jZ _).drew) aQ aE) ((aH.trans<|R.mono b3).grown aE (by have:=R.size;omega)<|jo aA);clear aQ aE R;go_wp2;exact rdM ⟨m+1,aj,eu,by rw[ku aW];exact HX,aU⟩
theorem kzf.below(h:kzf B w x m8)(hb:oq w w'):kzf B w' x m8:=by obtain⟨a,n,c,cs,rfl,h1,b⟩:=h;exact⟨a,n,c,cs,rfl,qj h1 hb,b.1,λk d=>by obtain⟨v,e,hv⟩:=b.2 k d;exact⟨v,e,hv.below hb⟩⟩
theorem kzf.get(h:kzf B w v m8):∃a c,v=.slice a m8.length c/\∀k (hk:k<m8.length),∃g u,a=some ⟨g,0,none⟩/\g<w.heap.size/\w.cell? ⟨g,k,none⟩=some u/\OwnRows 0 w u m8[k]:=by obtain⟨_,_,_,cs,rfl,h1,_,b⟩:=h;grind [qp]
def jyf(ws:List (List (List Int))):Prop:=ws.length<=1000/\∀o∈ws,o.length<=100/\∀l∈o,l.length<=100
abbrev LsC(X T g i:Nat)(wv u:Value)(w:World):Prop:=w.cell? ⟨X,0,none⟩=some (.pointer (some ⟨T,0,none⟩))/\w.cell? ⟨X,1,none⟩=some wv/\w.cell? ⟨g,i,none⟩=some u
theorem vwd(h : kqc w T t)(L : TreeOk t)(hf : TreeFit t)(hX : X < w.heap.size)(x0 : w.cell? ⟨X,0,none⟩ = some (.pointer (some ⟨T,0,none⟩)))(x1 : w.cell? ⟨X,1,none⟩ = some wv)(hw : kzf 0 w wv m8)(I : jyf m8)(E : StA lo w xv S gs)(H : ky4 S){M:ByteArray}(hb : zj9 t S S.length = some b)(hr : jxz t S m8 b = some M):Calls prog 137 #[.pointer (some ⟨X,0,none⟩),xv] w λe w'=>e = .returned (.string M)/\oq w w':=by
 obtain⟨za,zc,rfl,_⟩:=qp E.out
 obtain⟨wa,N,rfl,F⟩:=hw.get
 have a6:=I.1
 go_in;go_wp21;refine(zq2 h L hf E H hb).mono ?_
 rintro e w1 ⟨rfl,a4⟩
 go_wp21;go_loopw [5,6,7] (λq i _ wr=>∃(k : Nat)(G : ByteArray),k<=m8.length/\i = .int .i64 k/\q = .string G/\jxz t S (m8.drop k) G = some M/\oq w wr) (λ_ i _ _=>m8.length - (intOf i).toNat)
 ·grind
 obtain⟨f,rfl⟩:=cpy wr
 obtain⟨k,G,hk,rfl,rfl,a,d⟩:=hrel
 have z:=d.size
 obtain⟨c0,c1⟩:=(λ(wx : World)(c : oq w wx)=>show wx.cell? ⟨X,0,none⟩ = some (.pointer<|some ⟨T,0,none⟩)/\wx.cell? ⟨X,1,none⟩ = some (.slice wa m8.length N) from⟨(c.cell (p:=⟨X,0,none⟩) hX).trans x0,(c.cell (p:=⟨X,1,none⟩) hX).trans x1⟩) f d
 by_cases D : k < m8.length
 case neg=>
  rw [List.drop_eq_nil_of_le aj,jxz]at a
  injection a with a
  subst a
  go_wp2;go_ret;simp_all
 case pos=>
 rw [List.drop_eq_getElem_cons D,jxz]at a
 obtain⟨S',C,a⟩:=Option.bind_eq_some_iff.1 a
 obtain⟨y,hy,a⟩:=Option.bind_eq_some_iff.1 a
 obtain⟨_,_,ew,F⟩:=((oz hw).below d).get
 injection ew with W _ Y
 subst W; subst Y
 obtain⟨g,u,rfl,hg,V,hu⟩:=F k D
 have a3:=(oz I.2) _<|List.getElem_mem D
 obtain⟨sl,_,sr⟩:=zyi C
 have a0 : ky4 S':=⟨by rw [sl]; exact H.1,λl hl=>by obtain⟨l',h1,h2⟩:=sr l hl; rw [h2]; exact H.2 l' h1⟩
 have U:=λ(wx : World)(c : oq f wx)=>vza (h.below<|d.trans (c.mono z)) L ((oz E).below<|d.trans (c.mono z)) H (hu.below c) a3 C
 have Q:=λ(wx : World) (c : oq f wx) (v : Value) (lo' : Nat) (Z : List (Nat×Nat)) (hv : StA lo' wx v S' Z)=>zq2 (h.below<|d.trans (c.mono z)) L hf hv a0 hy
 have j : Hid (∀wx,oq f wx->LsC X T g k (.slice (some ⟨g,0,none⟩) m8.length N) u wx):=λwx c=>⟨(c.cell (p:=⟨X,0,none⟩)<|by grind).trans c0,(c.cell (p:=⟨X,1,none⟩)<|by grind).trans c1,(c.cell (p:=⟨g,k,none⟩) hg).trans V⟩
 have m:=(Below.refl f.heap.size f).drew
 have P:=oz a
 clear F V C hy a sr sl
 go_upto_region 5 with fail
 refine bg (S:=LsC X T g k (.slice (some ⟨g,0,none⟩) m8.length N) u) (tl:=[17,18]) au ?_
 refine frS 0 ?_
 refine frS 1 ?_
 refine frS 2 ?_
 refine tkS 3 (j _ m) ?_
 refine frS 4 ?_
 refine frS 5 ?_
 refine frS 6 ?_
 refine tkS 7 (j _ m) ?_
 refine frS 8 ?_
 refine frS 9 ?_
 refine frS 10 ?_
 refine frS 11 ?_
 refine tkS 12 (j _ m) ?_
 refine frS 13 ?_
 refine frS 14 ?_
 refine tkS 15 (j _ m) ?_
 refine onS 16 λK B=>?_
 go_simp;go_at_call 193
 refine(U _ m).mono ?_
 rintro e w2 ⟨v2,a5,rfl,A,a1⟩
 have s:=m.trans<|a1.mono m.size
 obtain⟨va,vc,rfl,_⟩:=qp A.out
 dsimp only
 refine B _ _ (j _ s) ?_
 try simp only [Act.put,List.setIfInBounds_toArray,List.set_cons_zero,List.set_cons_succ]
 refine kyj ?_
 refine onA 17 λK B=>?_
 go_simp;go_at_call 126
 have R:=Q w2 s _ _ _ A
 refine R.mono ?_
 rintro e w3 ⟨rfl,a2⟩
 have O:=d.trans<|(s.trans<|a2.mono s.size).mono z
 dsimp only
 refine B _ _ ?_
 refine onA 18 λK B=>?_
 go_simp;refine B _ _ ?_
 refine wpAny_done au ?_ _
 cases J : Op.bytesLess y.toList G.toList
 all_goals
  have x:=P
  unfold vwj at x
  rw [J]at x
  simp only [Bool.false_eq_true,if_false,if_true]at x
  go_wp2;exact rdM ⟨k + 1,_,aj,eu,rfl,x,O⟩
section
theorem StA.tk(h:StA B w x S gs)(a:Tk none bad w w')(h1:31∉bad)(c:3∉bad):StA B w' x S gs:=
 ⟨jq h.out a (pz.none _) h1,h.T,h.apart,λk b d=>jq (h.rows k b d) a (pz.none _) c⟩
def zww(w:World)(L:List (List (List Int)))(cs:List Value):Prop:=cs.length=L.length/\∀k (hk:k<L.length),∃v gs,cs[k]?=some v/\StA 0 w v L[k] gs
structure qka (B X T:Nat)(ws:List (List (List Int)))(x:SnR)(wv sv tv ov:Value)(w:World):Prop where
 big:B<=X
 e:w.heap[X]?=some (.cells #[.pointer (some ⟨T,0,none⟩),wv,sv,tv,ov] 188 (0,0))
 m:kzf 0 w wv ws
 F:∃cs,w.ownsRow B 149 1 sv x.F.length cs/\zww w x.F cs
 txs:w.ownsRow B 9 1 tv x.txs.length (x.txs.map Value.string)
 L:w.ownsRow B 9 1 ov x.L.length (x.L.map Value.string)
 apart:Apart tv ov
variable {B X T:Nat} {ws:List (List (List Int))} {x:SnR} {wv sv tv ov:Value} {w w':World}
theorem kzf.tk(h:kzf C w v ws)(a:Tk none bad w w')(b:79∉bad)(h1:31∉bad)(c:3∉bad):kzf C w' v ws:=by obtain⟨la,ll,lc,cs,e,d,f⟩:=h;exact⟨la,ll,lc,cs,e,jq d a (pz.none _) b,f.tk a (pz.none _) h1 c⟩
theorem zww.tk(h:zww w m8 cs)(b:Tk none bad w w')(h1:31∉bad)(a:3∉bad):zww w' m8 cs:=
 ⟨h.1,λk c=>by obtain⟨v,gs,e,d⟩:=h.2 k c;exact⟨v,gs,e,d.tk b h1 a⟩⟩
theorem zww.snoc(h:zww w m8 cs)(hv:StA 0 w v S gs):zww w (m8++[S]) (cs++[v]):=by
 refine⟨by simp[h.1],λk b=>?_⟩;by_cases a:k<m8.length
 ·obtain⟨u,gs,e,c⟩:=h.2 k a;grind
 ·have:k=m8.length:=by grind
  subst this;exact⟨v,gs,by rw[<-h.1];simp,by simp_all⟩
theorem qka.below(h:qka B X T ws x wv sv tv ov w)(hb:oq w w'):qka B X T ws x wv sv tv ov w':=by obtain⟨cs,h1,a⟩:=h.F;exact⟨h.big,(hb.block X<|wQ h.e).trans h.e,h.m.below hb,⟨cs,qj h1 hb,a.tk (yt hb none []) ay ay⟩,qj h.txs hb,qj h.L hb,h.apart⟩
theorem qka.xwj{o:Obj}(h:qka B X T ws x wv sv tv ov w)(b:w.ownsRow B 149 1 sv x.F.length cs)(c:zww w x.F cs)(hv:StA 0 w v S gs)(d:(w.alloc o).grownBy w4 sv.ownBlock)(e:w4.ownsRow B 149 1 (.slice xa xn xc) (x.F.length+1) (cs++[v])):w4.heap[X]?=some (.cells #[.pointer (some ⟨T,0,none⟩),wv,sv,tv,ov] 188 (0,0))/\Tk none qw7 w (w4.setCell ⟨X,2,none⟩<|.slice xa xn xc)/\qka B X T ws ⟨x.F++[S],x.txs,x.L⟩ wv (.slice xa xn xc) tv ov (w4.setCell ⟨X,2,none⟩<|.slice xa xn xc):=by have k4:Tk none [149] w w4:=(yt (jZ w (o:=o)) none [149]).trans<|kz4 (b.alloc _) d ak;have a:=k4.e h.e ay ak;have k5:Tk none [188] w4 (w4.setCell ⟨X,2,none⟩<|.slice xa xn xc):=qqa a ak 2 _;have k:Tk none [149,188] w (w4.setCell ⟨X,2,none⟩<|.slice xa xn xc):=(k4.wide ak).trans<|k5.wide ak;exact⟨a,k.wide ak,h.big,jL X 2 _ _ _ a,h.m.tk k ak ak ak,⟨_,by grind [jq,pz.none],(c.snoc hv).tk k ak ak⟩,jq h.txs k (pz.none _) ak,jq h.L k (pz.none _) ak,h.apart⟩
theorem qka.xwq(h:qka B X T ws x wv sv tv ov w)(e:(w.alloc (.cells #[.string b] 9)).grownBy w4 tv.ownBlock)(g:w4.ownsRow B 9 1 (.slice xa xn xc) (x.txs.length+1) (x.txs.map Value.string++[.string b]))(c:(Value.slice xa xn xc).ownBlock=tv.ownBlock\/(Value.slice xa xn xc).ownBlock=some (w.heap.size+1)):w4.heap[X]?=some (.cells #[.pointer (some ⟨T,0,none⟩),wv,sv,tv,ov] 188 (0,0))/\Tk none qw7 w (w4.setCell ⟨X,3,none⟩<|.slice xa xn xc)/\qka B X T ws ⟨x.F,x.txs++[b],x.L⟩ wv sv (.slice xa xn xc) ov (w4.setCell ⟨X,3,none⟩<|.slice xa xn xc):=by obtain⟨cs,d,f⟩:=h.F;have k4:Tk none [9] w w4:=(yt (jZ w) none [9]).trans<|kz4 (h.txs.alloc _) e ak;have a:=k4.e h.e ay ak;have k5:Tk none [188] w4 (w4.setCell ⟨X,3,none⟩<|.slice xa xn xc):=qqa a ak 3 _;have k:Tk none [9,188] w (w4.setCell ⟨X,3,none⟩<|.slice xa xn xc):=(k4.wide ak).trans<|k5.wide ak;exact⟨a,k.wide ak,h.big,jL X 3 _ _ _ a,h.m.tk k ak ak ak,⟨cs,jq d k (pz.none _) ak,f.tk k ak ak⟩,by grind [jq,pz.none],jq ((h.L.alloc<|.cells #[.string b] 9).kept e<|qqs h.apart) k5 (pz.none _) ak,kwp h.apart c h.L⟩
theorem qka.xw9(h:qka B X T ws x wv sv tv ov w)(e:(w.alloc (.cells #[.string b] 9)).grownBy w4 ov.ownBlock)(g:w4.ownsRow B 9 1 (.slice xa xn xc) (x.L.length+1) (x.L.map Value.string++[.string b]))(c:(Value.slice xa xn xc).ownBlock=ov.ownBlock\/(Value.slice xa xn xc).ownBlock=some (w.heap.size+1)):w4.heap[X]?=some (.cells #[.pointer (some ⟨T,0,none⟩),wv,sv,tv,ov] 188 (0,0))/\Tk none qw7 w (w4.setCell ⟨X,4,none⟩<|.slice xa xn xc)/\qka B X T ws ⟨x.F,x.txs,x.L++[b]⟩ wv sv tv (.slice xa xn xc) (w4.setCell ⟨X,4,none⟩<|.slice xa xn xc):=by obtain⟨cs,d,f⟩:=h.F;have k4:Tk none [9] w w4:=(yt (jZ w) none [9]).trans<|kz4 (h.L.alloc _) e ak;have a:=k4.e h.e ay ak;have k5:Tk none [188] w4 (w4.setCell ⟨X,4,none⟩<|.slice xa xn xc):=qqa a ak 4 _;have k:Tk none [9,188] w (w4.setCell ⟨X,4,none⟩<|.slice xa xn xc):=(k4.wide ak).trans<|k5.wide ak;exact⟨a,k.wide ak,h.big,jL X 4 _ _ _ a,h.m.tk k ak ak ak,⟨cs,jq d k (pz.none _) ak,f.tk k ak ak⟩,jq ((h.txs.alloc<|.cells #[.string b] 9).kept e<|qqs (kzm h.apart)) k5 (pz.none _) ak,by grind [jq,pz.none],kzm<|kwp (kzm h.apart) c h.txs⟩
theorem pj1{ls:List ByteArray}(s:ByteArray){w:World}(u:ls.length<=1000000)(m:w.ownsRow lo 9 1 v ls.length (ls.map Value.string)):Calls prog 136 #[v,.string s] w λe w'=>e=.returned (.bool<|hasB ls s)/\w'=w:=by
 obtain⟨a,c,rfl,j⟩:=qp m;go_in;go_wp21;go_loop [5] (λi=>∃k:Nat,k<=ls.length/\i=.int .i64 k/\hasB ls s=hasB (ls.drop k) s) (λi=>ls.length-(intOf i).toNat)
 ·grind
 obtain⟨k,t,rfl,(h:Hid _)⟩:=hrel;by_cases b:k<ls.length
 case neg=>
  have d:=oz (show hasB ls s=false by rw[h,JG aj];rfl);go_wp2;go_ret;exact⟨um d.symm,rfl⟩
 case pos=>
 obtain⟨g,rfl,_,q,l⟩:=j k b;have p:w.cell? ⟨g,k,none⟩=some (.string ls[k]):=by simp_all
 have d:=show hasB ls s=((ls[k].toList==s.toList)||hasB (ls.drop<|k+1) s) by rw[h,rU b];rfl
 clear l;generalize ls[k]=y at *;cases x:(y.toList==s.toList);case' true=>
  have f:=oz (by simp_all:hasB ls s=true);clear d;go_wp2;go_ret;exact⟨um f.symm,rfl⟩
 case' false=>
  go_wp2;grind [intOf]
end
structure SnB (x:SnR):Prop where
 txs:x.txs.length=x.F.length
 L:x.L.length<=x.F.length
 R:x.F.length<=100001
 rows:∀S∈x.F,ky4 S
theorem xxy(a:vjk t n5 S=some x')(h:SnB n5)(d:ky4 S):SnB x'/\∃q,x'.F=n5.F++q:=by
 obtain⟨b,_,a⟩:=wu.1 a;split at a
 ·simp_all
 ·split at a
  ·rename_i e;obtain⟨k,_,rfl⟩:=wX.1 a;refine⟨⟨by simp[h.txs],?_,by simp_all,λT c=>?_⟩,[S],rfl⟩
   ·show(if hasB n5.L k then n5.L else n5.L++[k]).length<=_;have:=h.L;grind
   ·obtain c|c:=rV.1 c
    ·exact h.rows T c
    simp_all
  simp_all
theorem vze(h : kqc w4 T t)(ht : TreeOk t)(hf : TreeFit t)(a5 : jyf (kzv t))(hb : oq w4 w)(C : qka w4.heap.size X T (kzv t) n5 wv sv tv v w)(u : SnB n5)(F : StA 0 w xv S gs)(hS : ky4 S)(g : vjk t n5 S = some x'):Calls prog 82 #[.pointer (some ⟨X,0,none⟩),xv] w λe w'=>e = .returned (.tuple #[])/\(∃sv' tv' ov',qka w4.heap.size X T (kzv t) x' wv sv' tv' ov' w')/\Tk none qw7 w w'/\oq w4 w':=by
 have u : n5.F.length<=100001/\n5.txs.length<=100001/\n5.L.length<=100001:=⟨u.R,by rw [u.txs]; exact u.R,Nat.le_trans u.L u.R⟩
 obtain⟨za,zc,rfl,_⟩:=qp F.out
 obtain⟨ta,tc,rfl,_⟩:=qp C.txs
 obtain⟨oa,oc,rfl,_⟩:=qp C.L
 unfold vjk at g
 obtain⟨b,N,g⟩:=Option.bind_eq_some_iff.1 g
 have a4:=hb.size
 have c0:=kzk C.e
 have aA:=lt_of_block C.e
 go_in;go_wp21;refine(zq2 (h.below hb) ht hf F hS N).mono ?_
 rintro e w1 ⟨rfl,q⟩
 have m:=C.below q
 have A:=(oz F).below q
 have W:=(oz hb).trans<|q.mono a4
 have P:=yt q none qw7
 have aC:=q.size
 obtain⟨c0,c1,c2,c3,c4,f0,f1,f2,f3,f4⟩:=kzk m.e
 go_wp21;refine(pj1 b aj m.txs).mono ?_
 rintro e w1 ⟨rfl,rfl⟩
 cases hh : hasB n5.txs b
 case true=>
  rw [hh,if_pos rfl]at g
  injection g with g
  subst g
  go_wp2;refine bodyPost_ret (results_none rfl _ _ _) rfl ?_
  grind
 case false=>
 rw [hh,if_neg ay]at g
 have g : (jxz t S (kzv t) b).map (λk=>(⟨n5.F ++ [S],n5.txs ++ [b],if hasB n5.L k then n5.L else n5.L ++ [k]⟩ : SnR)) = some x':=by simp_all
 obtain⟨k,hk,rfl⟩:=Option.map_eq_some_iff.1 g
 obtain⟨cs,l,a3⟩:=m.F
 obtain⟨sa,sc,rfl,_⟩:=qp l
 have a1 : (.slice sa n5.F.length sc : Value).ownBlock≠some X:=(not_row l m.e ak).symm
 have Q : X < w1.heap.size:=aj
 go_wp2_with (at_builtin; refine apO (l.alloc _) ?_)
 intro v6 x c a _ _
 obtain⟨g6,I,k6,rfl⟩:=qh c
 have aB : x.frozen? ⟨X,2,none⟩ = false:=(a.frozen_far _ ah<|Ne.symm a1).trans<|kv1 (jZ _) Q f2
 obtain⟨E,M,d⟩:=m.xwj l (oz a3) A a c
 have O:=(W.alloc aj _).grown a ah<|jo l
 have p0:=kzk E
 obtain⟨V,G⟩:=cpy<|x.setCell ⟨X,2,none⟩ (.slice g6 I k6)
 have z:=oz G.symm
 rw [<- G]at d M
 have J:=show oq w4 V by rw [G]; exact O.setCell (d.big : w4.heap.size<=X) _
 obtain⟨c0,c1,c2,c3,c4,f0,f1,f2,f3,f4⟩:=kzk d.e
 have Z : Hid ((x.setCell ⟨X,2,none⟩<|.slice g6 I k6).ownsRow w4.heap.size 9 1 (.slice ta n5.txs.length tc) n5.txs.length<|n5.txs.map Value.string):=by unfold Hid; rw [z]; exact d.txs
 have aD : x.heap.size<=V.heap.size/\V.heap.size<=x.heap.size:=by simp_all
 have a9:=J.size
 rw [<- z]at c3 f3
 go_wp2_with (at_builtin; refine apO (Z.alloc _) ?_)
 intro v8 w8 s f _ a8
 rw [z]at f
 obtain⟨g8,n8,k8,rfl⟩:=qh s
 obtain⟨a2,U,i⟩:=d.xwq f s (by simp_all)
 have p8:=kzk a2
 have B:=M.trans U
 obtain⟨w9,H⟩:=cpy<|w8.setCell ⟨X,3,none⟩ (.slice g8 n8 k8)
 rw [<- H]at i B
 have y:=show oq w4 w9 by rw [H]; exact((J.alloc aj _).grown f ah<|jo d.txs).setCell (i.big : w4.heap.size<=X) _
 obtain⟨c0,c1,c2,c3,c4,f0,f1,f2,f3,f4⟩:=kzk i.e
 have Y:=vwd ((oz h).below y) ht hf (lt_of_block i.e) c0 c1 i.m a5 (A.tk B ak ak) (oz hS) N hk
 go_wp21;rw [(oz H.symm)]
 refine Y.mono ?_
 rintro e wa ⟨rfl,D⟩
 have j:=i.below D
 have K:=y.trans<|D.mono y.size
 have a0:=(P.trans B).trans<|yt D none qw7
 have aE:=K.size
 have c0:=kzk j.e
 have a6:=lt_of_block j.e
 go_wp21;refine(pj1 (lo:=w4.heap.size) (ls:=n5.L) k (w:=wa) aj j.L).mono ?_
 rintro e wa ⟨rfl,rfl⟩
 cases hq : hasB n5.L k
 case true=>
  simp only [if_true]
  go_wp2;first | go_end0 | refine bodyPost_ret (results_none rfl _ _ _) rfl ?_
  grind
 case false=>
 simp only [Bool.false_eq_true,if_false]
 have L:=j.L
 go_wp2_with (at_builtin; refine apO (L.alloc _) ?_)
 intro v6 x c a _ a7
 obtain⟨g6,I,k6,rfl⟩:=qh c
 obtain⟨E,R,d⟩:=j.xw9 a c (by omega)
 have p4:=kzk E
 go_wp2;first | go_end0 | refine bodyPost_ret (results_none rfl _ _ _) rfl ?_
 exact⟨rfl,⟨_,_,_,d⟩,(a0.trans R),(((K.alloc aj _).grown a ah<|jo L).setCell (p:=⟨X,4,none⟩) (j.big : w4.heap.size<=X)<|.slice g6 I k6)⟩
theorem kqc.rul(h:kqc w T t):∃a c ys,w.cell? ⟨T,3,none⟩=some (.slice a t.l.length c)/\w.ownsRow (T+1) 147 6 (.slice a t.l.length c) t.l.length ys/\dw (T+1) w t.l ys/\T<w.heap.size:=by obtain⟨x0,x1,x2,x3,x4,y1,y3,y4,e,_,_,_,⟨b,d⟩,_⟩:=h;obtain⟨g,i,j,f,k,_⟩:=kzk e;obtain⟨a,c,rfl,_⟩:=qp b;exact⟨a,c,y3,f,b,d,wQ e⟩
theorem kqc.nev(h:kqc w T t):∃a c ys,w.cell? ⟨T,4,none⟩=some (.slice a t.q.length c)/\w.ownsRow (T+1) 147 6 (.slice a t.q.length c) t.q.length ys/\dw (T+1) w t.q ys/\T<w.heap.size:=by obtain⟨x0,x1,x2,x3,x4,y1,y3,y4,e,_,_,_,_,⟨b,d⟩⟩:=h;obtain⟨g,i,j,k,f,_⟩:=kzk e;obtain⟨a,c,rfl,_⟩:=qp b;exact⟨a,c,y4,f,b,d,wQ e⟩
theorem xvk(h:v.ownBlock=some B\/B=T):(Value.slice (some ⟨B,0,none⟩) n c).ownBlock=v.ownBlock\/(Value.slice (some ⟨B,0,none⟩) n c).ownBlock=some T:=by
 obtain e|e:=h
 ·exact .inl e.symm
 ·exact .inr (by rw[e];rfl)
theorem jv7(h:kqc w T t)(C:PlOk t)(U:StA lo w xv S gs)(hS:ky4 S)(hr:zzj t S=some r):Calls prog 72 #[.pointer (some ⟨T,0,none⟩),xv] w λe w'=>jzs w r e w':=by
 unfold zzj at hr;obtain⟨tt,bD,hr⟩:=wu.1 hr;obtain⟨⟨EN,WR⟩,aP,hr⟩:=wu.1 hr;obtain⟨BR,aO,rfl⟩:=wX.1 hr;have d3:=qjp (t:=t) (rs:=t.l) (λx j=>C.pars x<|jT j);have d4:=qjp (t:=t) (rs:=t.q) (λx j=>C.pars x<|jN j);have bP:=zxq _ _ _ _ _ _ aP;have bO:=zyq _ _ _ _ _ aO;simp only[Zw,Jc]at bP bO;have cM:=C.l;have cN:=C.q;obtain⟨za,zc,rfl,_⟩:=qp U.out;obtain⟨i0,hi,dC,dD,dE⟩:=info_parts infoStr0;obtain⟨W,hW⟩:=cpy<|(w.alloc<|.cells #[.string ⟨#[]⟩,.slice none 0 0,.slice none 0 0,.slice none 0 0,.bool false] 24).alloc (.cells #[.string ⟨#[]⟩,.slice none 0 0,.slice none 0 0,.slice none 0 0,.bool false] 24);obtain⟨V,hV⟩:=cpy<|w.heap.size+1;have a8:oq w W:=jX;have cP:W.heap.size=w.heap.size+2:=by rw[hW];simp
 have b5:W.heap[w.heap.size]?=some (.cells #[.string ⟨#[]⟩,.slice none 0 0,.slice none 0 0,.slice none 0 0,.bool false] 24 (0,0)):=by rw[hW];exact zy<|qy
 have b8:W.heap[V]?=some (.cells #[.string ⟨#[]⟩,.slice none 0 0,.slice none 0 0,.slice none 0 0,.bool false] 24 (0,0)):=by rw[hW,hV];have:=qy (w:=w.alloc<|.cells #[.string ⟨#[]⟩,.slice none 0 0,.slice none 0 0,.slice none 0 0,.bool false] 24) (o:=.cells #[.string ⟨#[]⟩,.slice none 0 0,.slice none 0 0,.slice none 0 0,.bool false] 24);simp only[tV]at this;exact this
 obtain⟨b3,aD,bN,bX,HT,d1,b2,aZ⟩:=qJ (zq2 (h.below a8) C.ok C.fit (U.below a8) hS bD) (λ(wx:World) (j:oq w wx) (rs:List PRule) (a:Option Addr) (c:Nat) (ys:List Value) (h1:wx.ownsRow (T+1) 147 6 (.slice a rs.length c) rs.length ys) (Y:dw (T+1) wx rs ys) (h3:∀r∈rs,zvk t r) (h4:rs.length<=801)=>jjc (h.below j) C.ok h1 Y h3 h4) (λ(wx:World) (j:oq w wx) (x:RIn) (c:List Value) (hi:zwa wx x c) (hk:RiOk x) (q:Int×List (List Int)) (hq:zwc t S x=some q)=>jjd (h.below j) C.ok C.tops (U.below j) hS hi hk hq) (λ(wx:World)(j:oq w wx)=>zja (U.below j) hS.2 hS.1) h U aP aO;obtain⟨cA,cB,aB,cD,cC⟩:=ja b5 b8 a8 hW.symm hV;have bQ:w.heap.size<V:=aj;have cY:V<W.heap.size:=aj;have cZ:w.heap.size<W.heap.size:=aj;clear hV cP hr h U aP aO bD b5 b8 a8 hW;go_enter func72,ntmps72
 go_wp21;rw[ku cD,<-ku cC];refine b3.mono ?_;rintro e w1 ⟨rfl,R⟩;have d9:=R.size;have aI:=(R.block V aj).trans cB;obtain⟨v0,v1,v2,v3,v4,g0,g1,g2,g3,g4⟩:=jl aI;obtain⟨w2,X⟩:=cpy<|w1.setCell ⟨V,0,none⟩ (.string tt);have bA:w2.heap[V]?=some (.cells #[.string tt,.slice none 0 0,.slice none 0 0,.slice none 0 0,.bool false] 24 (0,0)):=by rw[X];exact jL V 0 _ _ _ aI
 have a1:oq w w2:=by rw[X];exact(aB.trans<|R.mono aj).setCell (by show w.heap.size<=V;omega) _
 have b6:w2.heap[w.heap.size]?=some (.cells #[.string ⟨#[]⟩,.slice none 0 0,.slice none 0 0,.slice none 0 0,.bool false] 24 (0,0)):=by rw[X,jz (by show w.heap.size≠V;omega)];exact(R.block w.heap.size aj).trans cA
 have HC:=Vc.new bA a1 b6 bQ;obtain⟨ra,rc,cX,rq,aU,bH,b7⟩:=(HT.below a1).rul;have cW:w1.cell? ⟨T,3,none⟩=some (.slice ra t.l.length rc):=by
  obtain⟨a',c',dH,dF,_⟩:=(HT.below<|aB.trans (R.mono aj)).rul;have e:=rq;rw[X]at e;have cH:T<w.heap.size:=by obtain⟨_,_,_,_,_,_,h9⟩:=HT.rul;exact h9
  have e2:=((Below.refl w.heap.size w1).setCell (p:=⟨V,0,none⟩) (by show w.heap.size<=V;omega)<|.string tt).cell (p:=⟨T,3,none⟩) cH;rw[e2]at e;exact e
 obtain⟨aY,d0,bU⟩:=jp (aD w2 a1 t.l ra rc cX aU bH (λx j=>C.pars x<|jT j) cM) a1 X.symm;have d6:T<w.heap.size:=by obtain⟨_,_,_,_,_,_,h9⟩:=HT.rul;exact h9
 clear R aI bA a1 b6 X rq aU bH b3 b7;go_wp21;rw[ku bU];refine aY.mono ?_;rintro e w3 ⟨lv,rfl,m,aK⟩;have dA:=aK.size;have bK:=oz (show OwnIn 0 w3 lv (kq4 t t.l) from kC);have bW:=HC.below aK;obtain⟨cE,N,_⟩:=m;obtain⟨la,lc,rfl,_⟩:=qp N;obtain⟨bM,bL⟩:=ju (λx (j:x∈kq4 t t.l)=>C.insts x<|jT j) (λx (j:x∈kq4 t t.q)=>C.insts x<|jN j);generalize kq4 t t.l=I at *;generalize b4:kq4 t t.q=M at *;have bZ:=oz b4;clear b4;clear N aK aY HC v0 v1 v2 v3 v4 g0 g1 g2 g3 g4 cW;go_wp21;go_loopw [7,8,9] (λi _ _ wr=>∃(k:Nat)(en y:List ByteArray)(ea:Option Addr)(ec:Nat)(wa:Option Addr)(wc:Nat),k<=I.length/\i=.int .i64 k/\lkR t S (I.drop k) en y=some (EN,WR)/\Vc w V tt en y [] (.slice ea en.length ec) (.slice wa y.length wc) (.slice none 0 0) wr/\OwnIn 0 wr (.slice la I.length lc) I) (λi _ _ _=>I.length-(intOf i).toNat);exact⟨0,[],[],none,0,none,0,jR,rfl,b2,bW,bK⟩;obtain⟨O,rfl⟩:=cpy wr;obtain⟨k,en,y,ea,ec,wa,wc,hk,rfl,b,v,m⟩:=hrel;have hb:=v.be;have bC:=hb.size;have aJ:=wQ v.vw.1;have a3:=zxq _ _ _ _ _ _ b;dsimp only at a3;by_cases H:k<I.length
 case pos=>
  obtain⟨g,yc,vp,vg,vb,aa,ac,ey,E,⟨e0,e1,e2,e3,e4,e5,e6,e7⟩,a9⟩:=m.get H;injection ey with aF aG aH;subst aF;clear aG aH;rw[rU H,lkR]at b;obtain⟨q,hq,b⟩:=wu.1 b;have HF:=oz<|bN O hb I[k] _ a9 (bM _<|wZ H) q hq;rw[JQ]at a3;obtain⟨d,K⟩:=ju b m;generalize I[k]=x at *;obtain⟨q1,q2⟩:=q;clear b hb m a9 hq;go_wp21
  refine HF.mono ?_;rintro e w5 ⟨yv,d2,rfl,_,z⟩;have cO:=z.size;have u:=v.below z;obtain⟨v0,v1,v2,v3,v4,g0,g1,g2,g3,g4⟩:=jl u.vw.1;have cF:=(z.cell (p:=⟨g,k*8+7,none⟩) E).trans e7;have cJ:g<w5.heap.size:=aj;have cI:V<w5.heap.size:=aj;obtain⟨L,D⟩:=ju u.vw.1 (K.below z);clear z HF e0 e1 e2 e3 e4 e5 e6 e7 K;dsimp only;cases h1:(q1==1)
  case false=>
   cases Y:(q1==2)
   case false=>
    have B:=oz (show lkR t S (I.drop<|k+1) en y=some (EN,WR) from by have:=ku d;rw[h1,Y]at this;exact this);clear d;go_wp2;exact rdM ⟨k+1,en,y,ea,ec,wa,wc,aj,eu,B,u,D⟩
   case true=>
    have B:=oz (show lkR t S (I.drop<|k+1) en (y++[riT x])=some (EN,WR) from by have:=ku d;rw[h1,Y]at this;exact this);clear d;have F:=u.vw.2.2.1;have a4:(.slice wa y.length wc:Value).ownBlock≠some V:=(not_row F L ak).symm;go_upto_region 11 with fail
    go_region_law ((refine apL ((F.alloc _).drew) (Xk w5 _) ?_;intro gg cap w6 s f G aQ;have r6:=jl<|(f.block V ah<|Ne.symm a4).trans (zy L)))
    all_goals
     obtain⟨_,J,k6⟩:=(u.below bR.drew).xy0 f s<|xvk G;have A:=oz<|(D.below bR.drew).tk k6;clear s f G k6;go_wp2
     exact rdM ⟨k+1,en,y++[riT x],ea,ec,some ⟨gg,0,none⟩,cap,aj,eu,B,lG,A⟩
  case true=>
   have B:=oz (show lkR t S (I.drop<|k+1) (en++[riT x]) y=some (EN,WR) from lX);clear d;have F:=u.vw.2.1;have a4:(.slice ea en.length ec:Value).ownBlock≠some V:=(not_row F L ak).symm;go_upto_region 9 with fail
   go_region_law ((refine apL ((F.alloc _).drew) (Xk w5 _) ?_;intro gg cap w6 s f G aQ;have r6:=jl<|(f.block V ah<|Ne.symm a4).trans (zy L)))
   all_goals
    obtain⟨_,J,k6⟩:=(u.below bR.drew).app1 f s<|xvk G;have A:=oz<|(D.below bR.drew).tk k6;clear s f G k6;go_wp2
    exact rdM ⟨k+1,en++[riT x],y,some ⟨gg,0,none⟩,cap,wa,wc,aj,eu,B,lG,A⟩
 case neg=>
  have a2:k=I.length:=aj;rw[a2,sK,lkR]at b;injection b with b;injection b with bS bT;subst bS;subst bT;obtain⟨na,nc,cS,nq,aT,bG,b7⟩:=(HT.below hb).nev;have aC:=oz (aD O hb t.q na nc cS aT bG (λx j=>C.pars x<|jN j) cN);rw[ku bZ]at aC;clear hb m aT bG a2 a3;go_wp21
  refine aC.mono ?_;rintro e w6 ⟨ln,rfl,m,aL⟩;have dB:=aL.size;have A:=oz (show OwnIn 0 w6 ln M from kC);have J:=v.below aL;obtain⟨cE,N,_⟩:=m;obtain⟨cQ,cR,rfl,_⟩:=qp N;clear N aL aC v nq aJ H;go_wp21;go_loopw [11,12,13] (λi _ _ wr=>∃(k:Nat)(P:List ByteArray)(xa:Option Addr)(xc:Nat),k<=M.length/\i=.int .i64 k/\lbR t S (M.drop k) P=some BR/\Vc w V tt en y P (.slice ea en.length ec) (.slice wa y.length wc) (.slice xa P.length xc) wr/\OwnIn 0 wr (.slice cQ M.length cR) M) (λi _ _ _=>M.length-(intOf i).toNat);exact⟨0,[],none,0,jR,rfl,aZ,J,A⟩;obtain⟨O,rfl⟩:=cpy wr;obtain⟨k,P,xa,xc,hk,rfl,b,v,m⟩:=hrel;have hb:=v.be;have bC:=hb.size;have aJ:=wQ v.vw.1;have a3:=zyq _ _ _ _ _ b;by_cases H:k<M.length
  case pos=>
   obtain⟨g,yc,vp,vg,vb,aa,ac,ey,E,⟨e0,e1,e2,e3,e4,e5,e6,e7⟩,a9⟩:=m.get H;injection ey with aF aG aH;subst aF;clear aG aH;rw[rU H,lbR]at b;obtain⟨⟨c1,c2⟩,hq,b⟩:=wu.1 b;rw[JQ]at a3;have aR:=(ku bL) _<|wZ H;obtain⟨d,K⟩:=ju b m;generalize M[k]=x at *;obtain⟨_,_,_,_,_,l,⟨pa,pc,ga,ba,bc,ps,rfl,rfl,rfl,h1,Y,h3,h4⟩,h5⟩:=a9;injection l with _ l;injection l with _ l;injection l with _ l;injection l with q3 l;injection l with q4 l;injection l with q5 l;injection l with q6 l;subst q3;subst q4;subst q5;injection q6 with cT cU cV;subst cT;subst cV;clear cU l;obtain⟨Q,rfl⟩:∃Q,ga=some ⟨Q,0,none⟩:=by
    cases E:x.r.guard with
    |nil=>have:=aR.guard;rw[E]at this;cases this
    |node _ _ _ _ _=>rw[E]at Y;obtain⟨Q,_,_,e,_⟩:=Y;injection e with e;exact⟨Q,e⟩
   obtain⟨bY,HG,HQ,a0,bJ⟩:=ja (λ(xa:Option Addr)(xn xc:Nat)=>(⟨HT.below hb,C.ok,h1,aR.pars,h5,aR.xy⟩:Cx O T t x.r.u x.ms ⟨x.r.y,pa,x.r.u.length,pc,some ⟨Q,0,none⟩,ba,ps.length,bc,aa,x.ms.length,ac,xa,xn,xc⟩)) Y hq (λ(wx:World)(j:oq O wx)=>show wx.cell? ⟨g,k*8,none⟩=some (.string x.r.y.t)/\wx.cell? ⟨g,k*8+1,none⟩=some (.string x.r.y.x)/\wx.cell? ⟨g,k*8+2,none⟩=some (.int .i64 x.r.y.v)/\wx.cell? ⟨g,k*8+3,none⟩=some (.slice pa x.r.u.length pc)/\wx.cell? ⟨g,k*8+4,none⟩=some (.pointer<|some ⟨Q,0,none⟩)/\wx.cell? ⟨g,k*8+5,none⟩=some (.slice ba ps.length bc)/\wx.cell? ⟨g,k*8+6,none⟩=some (.slice aa x.ms.length ac) from⟨(j.cell (p:=⟨g,k*8,none⟩) E).trans e0,(j.cell (p:=⟨g,k*8+1,none⟩) E).trans e1,(j.cell (p:=⟨g,k*8+2,none⟩) E).trans e2,(j.cell (p:=⟨g,k*8+3,none⟩) E).trans e3,(j.cell (p:=⟨g,k*8+4,none⟩) E).trans e4,(j.cell (p:=⟨g,k*8+5,none⟩) E).trans e5,(j.cell (p:=⟨g,k*8+6,none⟩) E).trans e6⟩) (λ(wx:World)(j:oq O wx)=>bX wx<|hb.trans (j.mono bC));clear b hb m h1 Y h3 h4 h5 hq e0 e1 e2 e3 e4 e5 e6;go_upto_region 16 with fail
   go_region_held3 (λw'=>w'.cell? ⟨g,k*8,none⟩=some (.string x.r.y.t)/\w'.cell? ⟨g,k*8+1,none⟩=some (.string x.r.y.x)/\w'.cell? ⟨g,k*8+2,none⟩=some (.int .i64 x.r.y.v)/\w'.cell? ⟨g,k*8+3,none⟩=some (.slice pa x.r.u.length pc)/\w'.cell? ⟨g,k*8+4,none⟩=some (.pointer<|some ⟨Q,0,none⟩)/\w'.cell? ⟨g,k*8+5,none⟩=some (.slice ba ps.length bc)/\w'.cell? ⟨g,k*8+6,none⟩=some (.slice aa x.ms.length ac)) (first|exact a0 _ bR|exact a0 _ bR.drew|exact a0 _ Z|exact a0 _ (Z.alloc aS _))
    (first|(go_at_call 123;refine(bJ _ bR.drew).mono ?_;rintro e w8 ⟨x2,cG,rfl,a6,bB⟩;have Z:=oz<|(Below.refl O.heap.size O).drew.trans bB;have aS:=Z.size;have aE:=oz a6;obtain⟨aV,aW,ex,_⟩:=qp a6.out;subst ex;clear a6 bB;dsimp only))
   obtain⟨bI,aA⟩:=cpy<|w8.alloc (.cells #[.pointer (some ⟨T,0,none⟩),.string x.r.y.t,.string x.r.y.x,.int .i64 x.r.y.v,.slice pa x.r.u.length pc,.pointer<|some ⟨Q,0,none⟩,.slice ba ps.length bc,.slice aa x.ms.length ac,.slice aV S.length aW,.bool false] 251);have a5:oq w8 bI:=by rw[aA];exact jZ _
   have bF:Wk O T w8.heap.size ⟨x.r.y,pa,x.r.u.length,pc,some ⟨Q,0,none⟩,ba,ps.length,bc,aa,x.ms.length,ac,aV,S.length,aW⟩ cG bI S false:=
    ⟨Z.trans<|a5.mono aS,aS,by rw[aA];exact qy,(aE.mono<|jH).below a5⟩
   have j4:=(a0 w8 Z).2.2.2.2.1;have d8:g<w8.heap.size:=aj;obtain⟨aX,bV⟩:=ju (kyg x.r.guard 0 Q (bY aV S.length aW) bF HG _ HQ) aA.symm;clear bF a5 aA aE;go_wp21;rw[ku bV];refine aX.mono ?_;rintro e w5 ⟨rfl,h5⟩;rw[QX]at h5;have z:=h5.D;have cO:=z.size;obtain⟨⟨_,_,_,_,_,_,_,_,_,b9⟩,_⟩:=kju h5.e;have u:=v.below z;obtain⟨v0,v1,v2,v3,v4,g0,g1,g2,g3,g4⟩:=jl u.vw.1;have cF:=(z.cell (p:=⟨g,k*8+7,none⟩) E).trans e7;have cJ:g<w5.heap.size:=aj;have cI:V<w5.heap.size:=aj;obtain⟨L,D⟩:=ju u.vw.1 (K.below z);clear z h5 aX e7 K j4;dsimp only;cases h1:(c1==1);all_goals cases c2
   case false.false=>
    have B:=oz (show lbR t S (M.drop<|k+1) P=some BR from lX);clear d;go_wp2;exact rdM ⟨k+1,P,xa,xc,aj,eu,B,u,D⟩
   all_goals
    have B:=oz (show lbR t S (M.drop<|k+1) (P++[riT x])=some BR from lX);clear d;have F:=u.vw.2.2.2.1;have a4:(.slice xa P.length xc:Value).ownBlock≠some V:=(not_row F L ak).symm;go_upto_region 19 with fail
    go_region_law ((refine apL ((F.alloc _).drew) (Xk w5 _) ?_;intro gg cap w6 s f G aQ;have r6:=jl<|(f.block V ah<|Ne.symm a4).trans (zy L)))
    all_goals
     obtain⟨_,J,k6⟩:=(u.below bR.drew).xwi f s<|xvk G;have A:=oz<|(D.below bR.drew).tk k6;clear s f G k6;go_wp2
     exact rdM ⟨k+1,P++[riT x],some ⟨gg,0,none⟩,cap,aj,eu,B,lG,A⟩
  case neg=>
   have a2:k=M.length:=aj;rw[a2,sK,lbR]at b;injection b with b;subst b;clear a2 m;have v0:=jl v.vw.1;obtain⟨HE,a7⟩:=ju (v.fin _ rfl) (show kx2 ⟨tt,en,y,P⟩=((en.length==0)&&(y.length==0)) from rfl);have r0:=jl v.rr;have d7:V≠w.heap.size:=aj;have d5:=wQ v.rr;have cK:((en.length:Int)==0)=(en.length==0):=by cases en<;>simp<;>omega
   have cL:((y.length:Int)==0)=(y.length==0):=by cases y<;>simp<;>omega
   cases aM:(en.length==0);all_goals cases aN:(y.length==0)
   all_goals
    rw[aM]at cK;rw[aN]at cL;rw[ku a7,aM,aN]at HE;clear a7 b2 aZ aB aM aN hb;go_wp2;exact kx0 results72 underlying24 HE.1 HE.2
theorem pyg(h:kqc w T t)(s:PlOk t)(k:StA lo w xv S gs)(q:ky4 S)(u:zzj t S=some r):Calls prog 83 #[.pointer (some ⟨T,0,none⟩),xv] w λe w'=>e=.returned (.bool<|jxu r)/\oq w w':=by
 have l:=jv7 h s k q u;go_in;go_wp21;refine l.mono ?_;rintro e B ⟨v,rfl,⟨y,en,z,wa,D,C,ba,bn,bc,rfl,h1,m,p⟩,f⟩;obtain⟨_,_,g,_⟩:=qp h1;injection g with _ g _;obtain⟨_,_,i,_⟩:=qp m;injection i with _ i _;obtain⟨_,_,j,_⟩:=qp p;injection j with _ j _;have c:=show jxu r=((decide (0<r.xz.length)||decide (0<r.xs.length))||kx2 r) from rfl
 generalize r.xz.length=a at *;generalize r.xs.length=b at *;generalize kx2 r=d at *;by_cases A:0<a
 case' pos=>have c:=show jxu r=true by simp_all
 case' neg=>
  by_cases x:0<b
  case' pos=>have c:=show jxu r=true by simp_all
  case' neg=>
   have c:=show jxu r=d by simp_all
 all_goals
  go_wp2;go_ret;exact⟨um c.symm,f.trans (by first|exact bR|exact(jZ _).mono f.size)⟩
def zv4(t:PTree)(S:List (List Int)):List RIn->List UInt8->Option (Option (List (List Int)))
 |[],_=>some none
 |x::l,s=>if (riT x).toList==s then (zwc t S x).bind λr=>if r.1==1 then some (some r.2) else zv4 t S l s else zv4 t S l s
def qvn(t:PTree):List ByteArray->Nat->List (List Int)->Option vyp
 |[],_,S=>(zzj t S).map λv=>(v,kx2 v,0,0)
 |s::l,i,S=>(zv4 t S (kq4 t t.l) s.toList).bind λq=>match q with|some S'=>qvn t l (i+1) S'|none=>some (noView,false,7,(i:Int))
def lens(S:List (List Int)):List Nat:=S.map List.length
theorem vkq{b:List (List Int)×Bool}(h:vyj t l ms S a=some b):lens b.1=lens S:=by
 unfold vyj at h;split at h
 ·cases h
 ·split at h
  ·cases h
  ·obtain⟨p,_,h⟩:=wu.1 h;obtain⟨q,_,h⟩:=wu.1 h;split at h
   ·cases h
   ·obtain⟨u,_,h⟩:=wu.1 h;split at h
    ·grind
    ·obtain⟨y,c,h⟩:=wu.1 h;split at h
     ·cases h
     ·injection h with h;rw[<-h];unfold lens;rw[Zf,Jq];obtain⟨h1,d⟩:=rY.1 c;apply Jm;grind
theorem zxu:∀{b:PB} {S:List (List Int)} {r:List (List Int)×Bool},doR t l ms b S=some r->lens r.1=lens S
 |.nil,S,r,h=>by grind [doR]
 |.node _ _ a .nil n,S,r,h=>by
  rw[doR]at h;obtain⟨p,d,h⟩:=wu.1 h;split at h
  ·grind [vkq]
  ·exact(zxu h).trans (vkq d)
 |.node _ _ a (.node _ _ _ th el) n,S,r,h=>by
  rw[doR]at h;split at h
  ·cases h
  ·obtain⟨c,_,h⟩:=wu.1 h;split at h
   ·grind
   ·obtain⟨p,d,h⟩:=wu.1 h;have e:lens p.1=lens S:=by
     split at d
     ·exact zxu d
     ·exact zxu d
    split at h
    ·simp_all
    ·exact(zxu h).trans e
theorem vqt{b:RIn}{a:Int×List (List Int)}(h:zwc t S b=some a):lens a.2=lens S:=by
 obtain⟨c,_,h⟩:=wu.1 h;split at h
 ·grind
 ·split at h
  ·grind
  ·obtain⟨p,d,h⟩:=wX.1 h;grind [zxu]
theorem ky4.pqg(h:ky4 S)(e:lens L=lens S):ky4 L:=by
 have b:L.length=S.length:=by have:=congrArg List.length e;simpa[lens] using this
 refine⟨by rw[b];exact h.1,λy c=>?_⟩;have:y.length∈lens L:=Qx c;rw[e]at this;obtain⟨z,d,a⟩:=tY.1 this;rw[<-a];exact h.2 z d
theorem pxq(h:kqc w T t)(D:PlOk t){f:List ByteArray}(pn pc:Nat)(hn:f.length=pn)(a8:jzh w xa f)(cF:f.length<=1000000)(U:kkb t t.z L){o7:vyp}(hr:qvn t f 0 L=some o7):Calls prog 37 #[.pointer (some ⟨T,0,none⟩),.slice xa pn pc] w λe w'=>qyv w o7 e w':=by
 subst hn;have bM:=qjp (t:=t) (rs:=t.l) (λx F=>D.pars x<|jT F);have bV:=D.l;have b4:ky4 L:=by refine⟨by rw[U.T];have:=D.ok.z;omega,λy hy=>?_⟩;obtain⟨k,hk,rfl⟩:=wG hy;obtain⟨n,hn,e⟩:=U.get k (by rw[<-U.T];exact hk);rw[wW hk]at e;injection e with e;rw[e,Qh];have:=hn.bd;omega
 obtain⟨W,hW⟩:=cpy<|w.alloc (.cells #[.string ⟨#[]⟩,.slice none 0 0,.slice none 0 0,.slice none 0 0,.bool false] 24);have aA:oq w W:=jM;have aI:w.heap.size<W.heap.size:=by simp_all
 have HR:Hid (W.heap[w.heap.size]?=some (.cells #[.string ⟨#[]⟩,.slice none 0 0,.slice none 0 0,.slice none 0 0,.bool false] 24 (0,0))):=kK;have aN:=jk1 (h.below aA) D.ok D.fit U;have Z:=λ(wx:World) (F:oq w wx) (a:Option Addr) (c:Nat) (ys:List Value) (h1:wx.ownsRow (T+1) 147 6 (.slice a t.l.length c) t.l.length ys) (h2:dw (T+1) wx t.l ys)=>jjc (h.below F) D.ok h1 h2 (λx F=>D.pars x<|jT F) bV
 have aO:=λ(wx:World) (F:oq w wx) (xv:Value) (S:List (List Int)) (gs:List (Nat×Nat)) (E:StA 0 wx xv S gs) (hS:ky4 S) (x:RIn) (c:List Value) (hi:zwa wx x c) (hk:RiOk x) (q:Int×List (List Int)) (hq:zwc t S x=some q)=>jjd (h.below F) D.ok D.tops E hS hi hk hq
 have aP:=λ(wx:World) (F:oq w wx) (xv:Value) (S:List (List Int)) (gs:List (Nat×Nat)) (E:StA 0 wx xv S gs) (hS:ky4 S) (v:MView) (hv:zzj t S=some v)=>jv7 (h.below F) D E hS hv
 have b2:=show ∀(wx:World),oq w wx->wx.heap[w.heap.size]?=some (.cells #[.string ⟨#[]⟩,.slice none 0 0,.slice none 0 0,.slice none 0 0,.bool false] 24 (0,0))->∀(x y:Int),qyv w (noView,false,x,y) (.returned<|.tuple #[.agg #[.string ⟨#[]⟩,.slice none 0 0,.slice none 0 0,.slice none 0 0,.bool false],.int .i64 x,.int .i64 y]) (((((wx.setCell ⟨w.heap.size,0,none⟩<|.string ⟨#[]⟩).setCell ⟨w.heap.size,1,none⟩<|.slice none 0 0).setCell ⟨w.heap.size,2,none⟩<|.slice none 0 0).setCell ⟨w.heap.size,3,none⟩<|.slice none 0 0).setCell ⟨w.heap.size,4,none⟩<|.bool false) from λwx M H x y=>
  ⟨none,0,0,none,0,0,none,0,0,rfl,jE,jE,jE,qq6 M⟩
 obtain⟨bC,a7,aY⟩:=jp hW.symm a8 hr;have a1:=λx (F:x∈kq4 t t.l)=>D.insts x<|jT F
 have aB:=show ∀(s:ByteArray) (l:List ByteArray) (i:Nat) (S:List (List Int)),qvn t (s::l) i S=(zv4 t S (kq4 t t.l) s.toList).bind λq=>match q with|some S'=>qvn t l (i+1) S'|none=>some (noView,false,7,(i:Int)) from λ_ _ _ _=>rfl
 generalize cB:kq4 t t.l=C at Z a1 aB bM;go_in;go_wp21;rw[bC];refine aN.mono ?_;rintro e w1 ⟨x1,G,rfl,a6,aE⟩;obtain⟨cG,cH,rfl,_⟩:=qp a6.out;have Q:=aA.trans<|aE.mono (Qr aI);obtain⟨ra,rc,bX,rq,aS,bW,cC⟩:=(h.below Q).rul;have aW:=Z w1 Q ra rc bX aS bW;have a4:=(aE.block w.heap.size aI).trans HR;have b7:=a6.mono<|jR;go_wp21
 refine aW.mono ?_;rintro e w2 ⟨lv,rfl,V,a5⟩;have aL:=show OwnIn 0 w2 lv C by obtain⟨cs,q1,q2⟩:=V;exact⟨cs,qo jR q1,q2⟩
 obtain⟨bZ,aR,_⟩:=V;obtain⟨la,lc,rfl,_⟩:=qp aR;have aT:=Q.trans<|a5.mono Q.size;have b5:=(a5.block w.heap.size<|wQ a4).trans a4;have b8:=b7.below a5;clear a4 rq;go_wp21
 go_loopw [7,9,10,11,12,13] (λx i _ _ _ _ wr=>∃(k:Nat) (S:List (List Int)) (gs:List (Nat×Nat)),k<=f.length/\i=.int .i64 k/\StA 0 wr x S gs/\ky4 S/\qvn t (f.drop k) k S=some o7/\oq w wr/\wr.heap[w.heap.size]?=some (.cells #[.string ⟨#[]⟩,.slice none 0 0,.slice none 0 0,.slice none 0 0,.bool false] 24 (0,0))/\OwnIn 0 wr (.slice la C.length lc) C) (λ_ i _ _ _ _ _=>f.length-(intOf i).toNat);exact⟨0,L,G,jR,rfl,b8,b4,aY,aT,b5,aL⟩;obtain⟨wo,rfl⟩:=cpy wr;obtain⟨k,S,gs,hk,rfl,E,aC,b,M,H,V⟩:=hrel;obtain⟨sa,sc,rfl,_⟩:=qp E.out;have J:=M.size;have aD:=wQ H;by_cases aH:k<f.length
 case neg=>
  have aG:k=f.length:=aj;rw[aG,sK,qvn]at b;obtain⟨v,hv,b⟩:=wX.1 b;subst b;have aZ:=aP wo M _ S gs E aC v hv;have a3:=oz H;clear H hv aG;go_wp21;refine aZ.mono ?_;rintro e w5 ⟨x5,rfl,⟨ea,en,ec,wa,wn,wc,ba,bn,bc,rfl,bS,bT,bU⟩,I⟩;have aQ:=M.trans<|I.mono J;have a2:=(I.block w.heap.size aD).trans a3;have r0:=jl a2;have K:=pq5 a2 (bad:=[24]) ak (.string v.x) (.slice ea en ec) (.slice wa wn wc) (.slice ba bn bc)<|.bool (kx2 v);have HE:=show qyv w (v,kx2 v,0,0) (.returned<|.tuple #[.agg #[.string v.x,.slice ea en ec,.slice wa wn wc,.slice ba bn bc,.bool (kx2 v)],.int .i64 0,.int .i64 0]) _ from⟨ea,en,ec,wa,wn,wc,ba,bn,bc,rfl,qo J<|jq bS K (pz.none _) ak,qo J<|jq bT K (pz.none _) ak,qo J<|jq bU K (pz.none _) ak,qq6 aQ⟩
  go_wp2;exact tK (v:=.tuple #[.agg #[.string v.x,.slice ea en ec,.slice wa wn wc,.slice ba bn bc,.bool (kx2 v)],.int .i64 0,.int .i64 0]) (kqn results37 _ _ w.heap.size _ _ _ _ rfl (kxy a2) underlying24 rfl au) rfl HE
 case pos=>
 obtain⟨g,o,rfl,bN,hc⟩:=a7 k aH;have e0:wo.cell? ⟨g,o+k,none⟩=some (.string f[k]):=(M.cell (p:=⟨g,o+k,none⟩) bN).trans hc;rw[rU aH,aB]at b;obtain⟨fin,(aK:Hid _),b⟩:=wu.1 b;have bO:g<wo.heap.size:=aj;obtain⟨bY,a3,aX,bA⟩:=jb b H V E;generalize f[k]=s at *;clear hc b H;go_wp21;go_loopw [7,10,11,12,13] (λx d i _ _ P=>∃(j:Nat) (dn:Bool) (O:List (List Int)) (G:List (Nat×Nat)),j<=C.length/\i=.int .i64 j/\d=.bool dn/\StA 0 P x O G/\ky4 O/\(if dn then fin=some O else x=.slice sa S.length sc/\O=S/\G=gs/\zv4 t S (C.drop j) s.toList=some fin)/\oq wo P) (λ_ _ i _ _ _=>C.length-(intOf i).toNat);exact⟨0,false,S,gs,jR,rfl,rfl,bA,aC,⟨rfl,rfl,rfl,aK⟩,bR⟩;obtain⟨P,rfl⟩:=cpy wr;obtain⟨j,dn,O,G,hj,rfl,rfl,B,A,m,u⟩:=hrel;have cE:=u.size;obtain⟨xs,cI,ex,_⟩:=qp B.out;subst ex;have N:=M.trans<|u.mono J;have R:=(u.block w.heap.size aD).trans a3;have a0:=aX.below u;have bD:=(u.cell (p:=⟨g,o+k,none⟩) bO).trans e0;cases dn
 case true=>
  simp only[Xw]at m;have b6:=show qvn t (f.drop<|k+1) (k+1) O=some o7 by simp_all
  clear m;by_cases X:j<C.length
  all_goals
   go_wp2;exact rdM ⟨k+1,O,G,aj,eu,B,A,b6,N,R,a0⟩
 case false=>
 simp only[ru,Xv]at m;obtain⟨ex,rfl,rfl,z⟩:=m;injection ex with bF bG bH;subst bF;subst bH;clear bG;by_cases X:j<C.length
 case neg=>
  have aF:j=C.length:=aj;rw[aF,sK,zv4]at z;injection z with z;subst z;have hE:o7=(noView,false,7,(k:Int)):=by simp_all
  subst hE;have HE:=b2 P N R 7 k;have r0:=jl R;clear aF;go_wp2;exact tK (v:=.tuple #[.agg #[.string ⟨#[]⟩,.slice none 0 0,.slice none 0 0,.slice none 0 0,.bool false],.int .i64 7,.int .i64 k]) (kqn results37 _ _ w.heap.size _ _ _ _ rfl (kxy R) underlying24 rfl au) rfl HE
 case pos=>
 obtain⟨gl,yc,vp,vg,vb,aa,ac,ey,cD,⟨cA,e1,e2,e3,e4,e5,e6,e7⟩,bP⟩:=a0.get X;injection ey with bI bJ bK;subst bI;clear bJ bK;rw[rU X,zv4]at z;have bQ:=a1 _<|wZ X;generalize C[j]=x at *;go_upto_region 10 with fail
 go_region_held3 (λw'=>w'.cell? ⟨gl,j*8+7,none⟩=some (.string<|riT x)/\w'.cell? ⟨g,o+k,none⟩=some (.string s)) (exact⟨e7,bD⟩) (fail)
 cases aJ:((riT x).toList==s.toList)
 case false=>
  rw[aJ,Xy ay]at z;have bB:=B.below bR.drew;have aU:=u.drew;go_wp2;exact rdM ⟨j+1,false,_,_,aj,eu,rfl,bB,A,⟨rfl,rfl,rfl,z⟩,aU⟩
 case true=>
 rw[aJ,lJ rfl]at z;obtain⟨⟨q1,q2⟩,hq,z⟩:=wu.1 z;have b3:=vqt hq;have aV:=aO P.drew (N.drew) _ _ _ (B.below bR.drew) A x _ (bP.below bR.drew) bQ _ hq;clear hq;go_wp21;refine aV.mono ?_;rintro e w5 ⟨yv,bL,rfl,aM,I⟩;have a9:=u.drew.trans (I.mono<|by simp_all);have b9:=B.below<|(Below.refl P.heap.size P).drew.trans I;dsimp only;cases h1:(q1==1)
 case false=>
  have Y:=show zv4 t _ (C.drop<|j+1) s.toList=some fin by have:=z;rw[h1]at this;exact this
  go_wp2;exact rdM ⟨j+1,false,_,_,aj,eu,rfl,b9,A,⟨rfl,rfl,rfl,Y⟩,a9⟩
 case true=>
  have Y:=show fin=some q2 by simp_all
  go_wp2;exact rdM ⟨j+1,true,q2,bL,aj,eu,rfl,aM,A.pqg b3,Y,a9⟩
theorem xz0(l:List PP)(k:Nat)(h:k<l.length):(kjm l)[k*6+4]?=some (.string (l[k]).Q.x)/\(kjm l)[k*6+5]?=some (.int .i64 (l[k]).Q.v):=
 ⟨kqo kwf 6 (λ_=>rfl) l k 4 h aj,kqo kwf 6 (λ_=>rfl) l k 5 h aj⟩
theorem xkx(l:List PVar)(k j:Nat)(h:k<l.length)(a:j<12):(kyp l)[k*12+j]?=(kj7 l[k])[j]?:=kqo kj7 12 (λ_=>rfl) l k j h a
theorem pkl(h:kqc w T t)(ht:TreeOk t)(hr:t.l.length<=801)(hn:t.q.length<=801)(hp:∀r∈t.l++t.q,r.u.length<=801/\(yu r.guard).length<=10000/\(uo r.S).length<=10000/\qqk r.S/\kvt r.S<=1000):Calls prog 65 #[.pointer (some ⟨T,0,none⟩)] w λe w'=>e=.returned (.int .i64<|qxo t)/\oq w w':=by
 obtain⟨i0,hi,a1,a3,a5⟩:=info_parts infoTok;have HI:=oz (⟨hi,a1,a3,a5⟩:_/\_/\_/\_);clear hi a1 a3 a5;obtain⟨bP,HT,HP⟩:=jp ht h hp;obtain⟨aU,bY,cM,(cH:Hid _)⟩:=ht;obtain⟨x0,x1,x2,x3,x4,y1,y3,y4,hT,_,_,h2,_⟩:=h;obtain⟨q0,q1,q2,q3,q4,_⟩:=kzk hT;obtain⟨a2,cG,rfl,(bQ:Hid _)⟩:=kq8 h2;have aB:=kjd.start (f:=jxr t) (items:=t.z) (z:=-1)<|Below.refl w.heap.size w;clear hp hT;go_in
 go_wp21;go_loopw [3,4,5,6,7,8] (λat_ i _ _ _ _ wr=>kjd w (jxr t) t.z (-1) at_ i wr) (λ_ i _ _ _ _ _=>t.z.length-(intOf i).toNat);exact aB;obtain⟨k,a,bZ,rfl,rfl,B,s⟩:=hrel;have cF:=s.size;have p0:=wU s q2;by_cases v:k<t.z.length
 ·obtain⟨g,rfl,M⟩:=ku bQ k v;have E:=λj (hj:j<12)=>(M (k*12+j) aj).trans (xkx t.z k j v hj)
  have c0:=wU s<|E 0 aj;have c1:=wU s<|E 1 aj;have c2:=wU s<|E 2 aj;have c3:=wU s<|E 3 aj;have c4:=wU s<|E 4 aj;have c5:=wU s<|E 5 aj;have c6:=wU s<|E 6 aj;have c7:=wU s<|E 7 aj;have c8:=wU s<|E 8 aj;have c9:=wU s<|E 9 aj;have c10:=wU s<|E 10 aj;have c11:=wU s<|E 11 aj;have c:=oz (λ(w':World) (b:Int) (hb:b=qjn (zx (ug t) (t.z[k]).k.x.toList) (zx (uy t) (t.z[k]).k.x.toList) (t.z[k]).k (qjl (zx (ug t) (t.z[k]).g.x.toList) (t.z[k]).g a)) hw=>kjd.Y (W:=w) (wr:=w') (f:=jxr t) (items:=t.z) (z:=-1) (a:=a) (b:=b) v B hb hw);rw[Qk]at c0;generalize t.z[k]=V at c0 c1 c2 c3 c4 c5 c6 c7 c8 c9 c10 c11 c;clear M B E;go_wp21
  have d:oq w (wr.alloc<|.cells #[.string V.y.t,.string V.y.x,.int .i64 V.y.v,.string V.g.t,.string V.g.x,.int .i64 V.g.v,.string V.k.t,.string V.k.x,.int .i64 V.k.v,.string V.R.t,.string V.R.x,.int .i64 V.R.v] 222):=s.alloc aj _;have Z:=Xk wr<|.cells #[.string V.y.t,.string V.y.x,.int .i64 V.y.v,.string V.g.t,.string V.g.x,.int .i64 V.g.v,.string V.k.t,.string V.k.x,.int .i64 V.k.v,.string V.R.t,.string V.R.x,.int .i64 V.R.v] 222;refine(set_any V.g.x (HT.below d) aU).mono ?_;rintro e u1 ⟨rfl,rfl⟩;generalize wr.alloc (.cells #[.string V.y.t,.string V.y.x,.int .i64 V.y.v,.string V.g.t,.string V.g.x,.int .i64 V.g.v,.string V.k.t,.string V.k.x,.int .i64 V.k.v,.string V.R.t,.string V.R.x,.int .i64 V.R.v] 222)=W at d Z |-;have d3:=QK W _ 3 _ _ _ Z;have d4:=QK W _ 4 _ _ _ Z;have d5:=QK W _ 5 _ _ _ Z;have d6:=QK W _ 6 _ _ _ Z;have d7:=QK W _ 7 _ _ _ Z;have d8:=QK W _ 8 _ _ _ Z;simp only[List.getElem?_toArray,sU,sW,Nat.reduceAdd]at d3 d4 d5 d6 d7 d8;have aZ:=HT.below d;have p9:=wU d q2;generalize hO:zx (ug t) V.g.x.toList=O at c |-;clear Z hO c0 c1 c2 c3 c4 c5 c6 c7 c8 c9 c10 c11 p0;go_wp21
  refine(set_any V.k.x aZ aU).mono ?_;rintro e u2 ⟨rfl,rfl⟩;generalize H:zx (ug t) V.k.x.toList=S at c |-;clear H;go_wp21
  refine(zkl V.k.x aZ bY).mono ?_;rintro e u3 ⟨rfl,rfl⟩;generalize L:zx (uy t) V.k.x.toList=K at c |-;clear L;generalize V.g=X at d3 d4 d5 c |-;generalize V.k=Y at d6 d7 d8 c |-;cases cx:(X.t.toList==mX)
  ·have C:=oz cx;cases U:(Y.t.toList==mX)
   ·have q:=oz U;go_wp2;exact rdM (c _ _ (by simp only[qjn,qjl,ku C,ku q,Jh,Jr,QJ,QZ,ru,↓reduceIte]) d)
   ·have q:=oz U;by_cases H:S<0
    ·have A:=oz<|Qz H;by_cases L:K<0
     ·have I:=oz<|Qz L;go_wp21
      refine(first_any).mono ?_;rintro e u9 ⟨rfl,rfl⟩;go_wp2;exact rdM<|c _ _ jU d
     ·have I:=oz<|decide_eq_false L;go_wp2
      exact rdM<|c _ _ jU d
    ·have A:=oz<|decide_eq_false H;go_wp2
     exact rdM (c _ _ (by simp only[qjn,qjl,ku C,ku q,ku A,Jh,Jr,QJ,QZ,ru,↓reduceIte]) d)
  ·have C:=oz cx;by_cases hO:O<0
   ·have P:=oz<|Qz hO;go_wp21
    refine(first_any).mono ?_;rintro e u8 ⟨rfl,rfl⟩;cases U:(Y.t.toList==mX)
    ·have q:=oz U;go_wp2;exact rdM<|c _ _ jP d
    ·have q:=oz U;by_cases H:S<0
     ·have A:=oz<|Qz H;by_cases L:K<0
      ·have I:=oz<|Qz L;go_wp21
       refine(first_any).mono ?_;rintro e u9 ⟨rfl,rfl⟩;go_wp2;exact rdM<|c _ _ iw d
      ·have I:=oz<|decide_eq_false L;go_wp2
       exact rdM<|c _ _ iw d
     ·have A:=oz<|decide_eq_false H;go_wp2
      exact rdM<|c _ _ jG d
   ·have P:=oz<|decide_eq_false hO;cases U:(Y.t.toList==mX)
    ·have q:=oz U;go_wp2;exact rdM<|c _ _ jP d
    ·have q:=oz U;by_cases H:S<0
     ·have A:=oz<|Qz H;by_cases L:K<0
      ·have I:=oz<|Qz L;go_wp21
       refine(first_any).mono ?_;rintro e u9 ⟨rfl,rfl⟩;go_wp2;exact rdM<|c _ _ iw d
      ·have I:=oz<|decide_eq_false L;go_wp2
       exact rdM<|c _ _ iw d
     ·have A:=oz<|decide_eq_false H;go_wp2
      exact rdM<|c _ _ jG d
 ·have l:=kqu v B;go_wp21;refine(qk3 (HT.below s) hr hn).mono ?_;rintro e w4 ⟨rv,rs,rfl,aG,a9,bU⟩;have N:=s.trans<|bU.mono cF;obtain⟨ra,rc,rfl,(aO:Hid _)⟩:=kq8 aG;have cC:(t.l++t.q).length<=1602:=lg;have aI:=oz (by rw[l];rfl:qxo t=yx (jxn t) (t.l++t.q) 0 a);generalize bH:a=z0 at aI;clear bH;have aB:=kjd.start (W:=w4) (wr:=w4) (f:=jxn t) (items:=t.l++t.q) (z:=z0)<|bR;generalize t.l++t.q=G at aB a9 aO cC HP aI aO aG a9;clear l B p0 q0 q1 q2 q3 q4;go_wp21
  go_loopw [3,10,11,12,13,14,15,16] (λat_ i _ _ _ _ _ _ wr=>kjd w4 (jxn t) G z0 at_ i wr) (λ_ i _ _ _ _ _ _ _=>G.length-(intOf i).toNat);exact aB;obtain⟨k,a,bZ,rfl,rfl,B,aA⟩:=hrel;have cP:=aA.size;by_cases v:k<G.length
  ·obtain⟨g,rfl,M⟩:=ku aO k v;obtain⟨vp,vg,vb,qs,⟨f0,f1,f2,f3,f4,f5⟩,aL,aJ,aH,aM⟩:=qji k v a9;have e0:=(M (k*6) aj).trans f0;have e1:=(M (k*6+1) aj).trans f1;have e2:=(M (k*6+2) aj).trans f2;have e3:=(M (k*6+3) aj).trans f3;have e4:=(M (k*6+4) aj).trans f4;have e5:=(M (k*6+5) aj).trans f5;obtain⟨bB,bW,bX,bC,bV⟩:=ku HP _<|wZ v;have cB:=jg.T aM;have c:=oz (λ(w':World) (b:Int) (hb:b=yx (jxl t (G[k]).u) (yu (G[k]).guard++uo (G[k]).S) 0 (yx (zyr t) (G[k]).u 0 a)) hw=>kjd.Y (W:=w4) (wr:=w') (f:=jxn t) (items:=G) (z:=z0) (a:=a) (b:=b) v B hb hw);generalize (G[k]).u=ps at c aL bB;generalize (G[k]).guard=gd at c aJ bW;generalize (G[k]).S=bd at c aM bX bC bV cB;generalize (G[k]).y=nm at e0 e1 e2;obtain⟨ma,mc,rfl,(bK:Hid _)⟩:=kq8 aL;obtain⟨gp,rfl⟩:=aJ.ptr;obtain⟨ba,bn,bc,rfl⟩:=qh aH;have bL:=kjd.start (W:=w4) (f:=zyr t) (items:=ps) (z:=a) aA;have c3:=wU aA e3;clear M f0 f1 f2 f3 f4 f5 B;go_wp21
   go_loopw [3,11,12] (λat_ i _ wr=>kjd w4 (zyr t) ps a at_ i wr) (λ_ i _ _=>ps.length-(intOf i).toNat);exact bL;obtain⟨k3,b3,cK,rfl,rfl,aC,u⟩:=hrel;have c3:=wU u e3;by_cases aE:k3<ps.length
   ·obtain⟨gq,rfl,aR⟩:=ku bK k3 aE;obtain⟨z1,z2⟩:=xz0 ps k3 aE;replace z1:=wU u ((aR (k3*6+4) aj).trans z1)
    replace z2:=wU u<|(aR (k3*6+5) aj).trans z2
    have y:=oz (λ(w':World) (b:Int) (hb:b=if zx (ug t) (ps[k3]).Q.x.toList<0 then xu b3 (ps[k3]).Q.v else b3) hw=>kjd.Y (W:=w4) (wr:=w') (f:=zyr t) (items:=ps) (z:=a) (a:=b3) (b:=b) aE aC hb hw);generalize (ps[k3]).Q=x at z1 z2 y;have bO:=HT.below<|N.trans (u.mono N.size);clear aR aC;go_wp21
    refine(set_any x.x bO aU).mono ?_;rintro e u1 ⟨rfl,rfl⟩;generalize H:zx (ug t) x.x.toList=S at y |-;clear H;by_cases aT:S<0
    ·rw[lJ aT]at y;go_wp21;refine(first_any).mono ?_;rintro e u9 ⟨rfl,rfl⟩;generalize hF:xu b3 (x.v:Int)=F at y;have J:=y _ F rfl u;clear hF;go_wp2;exact rdM J
    ·rw[Xy aT]at y;have J:=y _ b3 rfl u;go_wp2;exact rdM J
   ·have l:=kqu aE aC;have bI:=oz l;have c4:=wU u e4;have c5:=wU u e5;clear l aC;go_wp21;refine(qjw gd _ (T+1) (.pointer gp) aj<|aJ.below u).mono ?_;rintro e w6 ⟨v6,rfl,b6,b9⟩;have cD:=u.size;have R:=u.trans<|b9.mono cD;have cE:=R.size;have cI:=b9.size;obtain⟨a6,l6,c6,rfl⟩:=qh b6;have bT:=wU R e5;clear c3 c4 c5;go_wp21
    refine(vwh bC _ (T+1) (.slice ba bn bc) qs aj (qj aH R) (aM.below R) aj).mono ?_;rintro e w7 ⟨v7,rfl,b7,aP⟩;have aX:=R.trans<|aP.mono cE;have cO:=aX.size;have cJ:=aP.size;have aN:=qj b6 aP;obtain⟨a7,l7,c7,rfl⟩:=qh b7;clear bT;obtain⟨hi,a1,a3,a5⟩:=ku HI;go_wp2_with (at_builtin;go_must (refine kqv rfl 132 rfl wr.heap.size 142 i0 _ 3 40 underlying132 hi a1 a3 a5 rfl ak (.slice a6 l6 c6) _ _ rfl aN (.slice a7 l7 c7) _ _ _ rfl b7 (qxw) iq aj aj ?_))
    intro v8 w8 aW aS bF;have m:=aX.grown aS aj (λg hg=>by have:=jo aN g hg;omega);have aY:=N.trans<|m.mono N.size;have a0:w8.ownsRow wr.heap.size 142 3 v8 (yu gd++uo bd).length (uw<|yu gd++uo bd):=by rw[qxy,rD];exact aW
    obtain⟨a8,c8,rfl,(aK:Hid _)⟩:=kq8 a0;have cA:(yu gd++uo bd).length<=20000:=lg;generalize b8:yu gd++uo bd=Q at aK aK cA a0;have aV:=oz b8.symm;have j0:=wU m e0;have j1:=wU m e1;have j2:=wU m e2;have j3:=wU m e3;have j4:=wU m e4;have j5:=wU m e5;have bD:=qj aL m;have bN:=kjd.start (W:=w8) (wr:=w8) (f:=jxl t ps) (items:=Q) (z:=b3)<|bR;clear bF b8 hi a1 a3 a5;go_wp21
    go_loopw [3,15,16] (λat_ i _ wr=>kjd w8 (jxl t ps) Q b3 at_ i wr) (λ_ i _ _=>Q.length-(intOf i).toNat);exact bN;obtain⟨k4,a4,cL,rfl,rfl,aD,p⟩:=hrel;have cN:=p.size;by_cases aF:k4<Q.length
    ·obtain⟨g4,rfl,aQ⟩:=ku aK k4 aF;obtain⟨y1,y2⟩:=zy1 Q k4 aF;replace y1:=wU p ((aQ (k4*3+1) aj).trans y1)
     have Y2:=oz<|(aQ (k4*3+2) aj).trans y2;have b0:=wU p j0;have b1:=wU p j1;have b2:=wU p j2;have bS:=wU p j3;have b4:=wU p j4;have b5:=wU p j5;have D:=oz (λ(w':World) (b:Int) (hb:b=if qxc t ps (Q[k4]).x.toList then a4 else xu a4 (Q[k4]).v) hw=>kjd.Y (W:=w8) (wr:=w') (f:=jxl t ps) (items:=Q) (z:=b3) (a:=a4) (b:=b) aF aD hb hw);generalize Q[k4]=X at y1 y2 Y2 D;have bG:=(aY.trans<|p.mono aY.size).drew;have bJ:=px9 nm gp ba bn bc X.x (HT.below bG) bP (qj (qj bD p)<|bR.drew) bB;clear aD aQ y2;go_wp21
     go_region_held3 (λw'=>w'.cell? ⟨g,k*6,none⟩=some (.string nm.t)/\w'.cell? ⟨g,k*6+1,none⟩=some (.string nm.x)/\w'.cell? ⟨g,k*6+2,none⟩=some (.int .i64 nm.v)/\w'.cell? ⟨g,k*6+3,none⟩=some (.slice ma ps.length mc)/\w'.cell? ⟨g,k*6+4,none⟩=some (.pointer gp)/\w'.cell? ⟨g,k*6+5,none⟩=some (.slice ba bn bc)/\w'.cell? ⟨g4,k4*3+1,none⟩=some (.string X.x))
      (first|go_keep|(go_split_ands;refine⟨?_,?_,?_,?_,?_,?_,?_⟩<;>(refine wU bA ?_;first|assumption|simp[*])))
      ((go_at_call 117;refine bJ.mono ?_;rintro e w9 ⟨rfl,bA⟩))
     have d:=p.drew.trans (bA.mono<|by simpa using p.size);have cQ:=wU d Y2;clear b0 b1 b2 bS b4 b5 y1;cases ck:qxc t ps X.x.toList
     ·rw[ck]at D;go_wp21;refine(first_any).mono ?_;rintro e u9 ⟨rfl,rfl⟩;generalize hF:xu a4 (X.v:Int)=F at D;have J:=D _ F (by rw[Xy ak]) d;clear hF;go_wp2;exact rdM J
     ·rw[ck]at D;have J:=D _ a4 (by rw[lJ (by rfl)]) d;go_wp2;exact rdM J
    ·have l:=kqu aF aD;have bM:=c _ a4 (by rw[<-ku aV,<-ku bI];exact l)<|m.trans (p.mono m.size);clear l aD;go_wp2
     exact rdM bM
  ·have l:=kqu v B;have HE:=oz (by rw[ku aI];exact l:a=qxo t);clear l B;go_wp2;go_ret;exact⟨kqi HE,N.trans<|aA.mono N.size⟩
end Go.Proofs.YtpmcnonmkghokaaGreatDoor

import Derived.Test.YtpmcnonmkghokaaGreatDoorT23
import Derived.Test.YtpmcnonmkghokaaGreatDoorT04
import Derived.Test.YtpmcnonmkghokaaGreatDoorT22
import Derived.Test.YtpmcnonmkghokaaGreatDoorT32
import Derived.Test.YtpmcnonmkghokaaGreatDoorT25
set_option maxRecDepth 100000
set_option maxHeartbeats 16000000
set_option linter.unusedVariables false
set_option linter.unusedSimpArgs false
namespace Go.Proofs.YtpmcnonmkghokaaGreatDoor
open Go.Proofs.Tryz
open Go.RowKit
attribute [local go_sem ↓] Go.wp_at_zero Go.wp_at_succ
variable {S:List (List Int)}{ms:List Int}{l:List PP}{t:PTree}{a:SLab}{w:World}
abbrev jji (a b:Addr)(x y:Value)(w:World):Prop:=w.cell? a=some x/\w.cell? b=some y
theorem jji.below {a b:Addr}{x y:Value}{B:Nat}{w': World}(h:jji a b x y w)(hb:Below B w w')(h1:a.block<B)(c:b.block<B):jji a b x y w':=⟨(hb.cell h1).trans h.1,(hb.cell c).trans h.2⟩
theorem zyc {W: World}{lo so M nb:Nat}{steps:List MStep}{nevers:List MNever}{sets:List Int}{vars:List MVar}{tab:kq1}{size:Nat}{sv nv tv vv:Value}{wr:World}(h:NwI w W lo so M nb steps nevers sets vars tab size sv nv tv vv wr):M<wr.heap.size:=wu h.mc.row
def pq3 (w:World)(so:Nat)(r:Mach)(e:Ending)(w':World):Prop:=∃M nb sv nv tv vv,e=.returned (.pointer (some ⟨M,0,none⟩))/\kz8 w.heap.size so w' M nb r.steps r.nevers r.sets r.vars r.tab r.size sv nv tv vv/\pU w w'
theorem new_any (w:World)(so:Nat)(a0 a1 a2 a3 a4:Option Addr)(n0 n1 n2 n3 n4 c0 c1 c2 c3 c4:Nat)(m:MdL)(hm:kvm so w (.slice a0 n0 c0) (.slice a1 n1 c1) (.slice a2 n2 c2) (.slice a3 n3 c3) (.slice a4 n4 c4) m)(hf:MdFit m)(r:Mach)(hr:vz4 m=some r):
  qJ 35 #[mdV a0 a1 a2 a3 a4 n0 n1 n2 n3 n4 c0 c1 c2 c3 c4] w λe w'=>pq3 w so r e w':=by
 unfold vz4 at hr;obtain⟨T,E,hr⟩:=wQ.mp hr;obtain⟨X,hV,hr⟩:=wQ.mp hr;obtain⟨ST,hS,hr⟩:=wQ.mp hr;obtain⟨NV,hN,rfl⟩:=rJ.mp hr;obtain⟨za,zc,e,_⟩:=ql hm.o0;injection e with G N Q;subst G;subst N;subst Q;obtain⟨_,aR,_⟩:=hm.o1;obtain⟨za,zc,e,_⟩:=ql aR;injection e with G N Q;subst G;subst N;subst Q;obtain⟨za,zc,e,_⟩:=ql hm.o2;injection e with G N Q;subst G;subst N;subst Q;obtain⟨_,bU,_⟩:=hm.o3;obtain⟨za,zc,e,_⟩:=ql bU;injection e with G N Q;subst G;subst N;subst Q;obtain⟨_,bV,_⟩:=hm.o4;obtain⟨za,zc,e,_⟩:=ql bV;injection e with G N Q;subst G;subst N;subst Q;obtain⟨nb,bB⟩:∃nb,nb=w.heap.size+1:=⟨_,rfl⟩;obtain⟨M,hM⟩:∃M,M=w.heap.size+1+1:=⟨_,rfl⟩;obtain⟨W,hW⟩:∃W,W=((w.alloc (.cells #[.slice a0 m.sets.length c0,.slice a1 m.kinds.length c1,.slice a2 m.vars.length c2,.slice a3 m.rules.length c3,.slice a4 m.nevers.length c4] 68)).alloc (.map #[] 0)).alloc (.cells #[.slice none 0 0,.slice none 0 0,.slice none 0 0,.slice none 0 0,.map (some (w.heap.size+1)),.int .i64 0] 105):=⟨_,rfl⟩;have bG:pU w W:=by rw[hW];exact((below_alloc1 w _).trans ((below_alloc1 _ _).mono au)).trans ((below_alloc1 _ _).mono ay)
 have cN:W.heap.size=w.heap.size+3:=jC;have bN:W.heap[w.heap.size]?=some (.cells #[.slice a0 m.sets.length c0,.slice a1 m.kinds.length c1,.slice a2 m.vars.length c2,.slice a3 m.rules.length c3,.slice a4 m.nevers.length c4] 68 (0,0)):=by rw[hW];exact zy (zy (qg _ _))
 have bO:W.heap[nb]?=some (.map #[] 0):=by
  rw[hW,bB];have:=qg (w.alloc (.cells #[.slice a0 m.sets.length c0,.slice a1 m.kinds.length c1,.slice a2 m.vars.length c2,.slice a3 m.rules.length c3,.slice a4 m.nevers.length c4] 68)) (.map #[] 0);simp only[tJ]at this;exact zy this
 have bP:W.heap[M]?=some (.cells #[.slice none 0 0,.slice none 0 0,.slice none 0 0,.slice none 0 0,.map (some nb),.int .i64 0] 105 (0,0)):=by
  rw[hW,hM,bB];have:=qg ((w.alloc (.cells #[.slice a0 m.sets.length c0,.slice a1 m.kinds.length c1,.slice a2 m.vars.length c2,.slice a3 m.rules.length c3,.slice a4 m.nevers.length c4] 68)).alloc (.map #[] 0)) (.cells #[.slice none 0 0,.slice none 0 0,.slice none 0 0,.slice none 0 0,.map (some (w.heap.size+1)),.int .i64 0] 105);simp only[tJ]at this;exact this
 have bF:kk1 W nb []:=⟨⟨#[],0,bO,rfl⟩,Zi,λx hx=>by simp at hx⟩;have cA:=pG (show NwI w W w.heap.size so M nb [] [] [] [] [] 0 (.slice none 0 0) (.slice none 0 0) (.slice none 0 0) (.slice none 0 0) W from
  ⟨⟨bP,⟨[],wB _ _ _ _,rfl,λk hk=>by simp at hk⟩,⟨[],wB _ _ _ _,rfl,λk hk=>by simp at hk⟩,wB _ _ _ _,⟨[],wB _ _ _ _,rfl⟩,bF,aj,aj⟩,Tk.refl _ _ _,bG⟩)
 have a5:=pG (show kvm so W (.slice a0 m.sets.length c0) (.slice a1 m.kinds.length c1) (.slice a2 m.vars.length c2) (.slice a3 m.rules.length c3) (.slice a4 m.nevers.length c4) m from hm.stay λk _ hk=>bG.block k hk);have l:=pG bF.no;have F:=pG bN;have cI:=pG hW.symm;have cC:=pG bB;have cB:=pG hM;have HF:=pG hf;have HK:=pG E;have HV:=pG hV;have cG:=pG hS;have cD:=pG hN;have cR:w.heap.size<nb:=aj;have cS:nb<M:=aj;have cT:M<W.heap.size:=aj;have cV:=hf.sets;have cW:=hf.kinds;have cX:=hf.vars;have cY:=hf.rules;have cZ:=hf.nevers;clear hr hm aR bU bV bG cN bN bO bP bF hW bB hM hf E hV hS hN;have cM:∀W:World,(Instr.makeMap 100 none).run prog W=.ok (.map (some W.heap.size)) (W.alloc (.map #[] 0)):=λW=>rfl
 unfold mdV;go_enter func35,ntmps35
 go_wp2_with fail
 clear cM;rw[ku cI,<-ku cB,<-ku cC];go_loopw [5,22] (λ_ i wr=>∃(k:Nat) (va:Option Addr) (P O:Nat),k<=m.sets.length/\i=.int .i64 k/\NwI w W w.heap.size so M nb [] [] (kxx (m.sets.take k)) [] [] 0 (.slice none 0 0) (.slice none 0 0) (.slice va P O) (.slice none 0 0) wr) (λ_ i _=>m.sets.length-(intOf i).toNat)
 case atStart=>exact⟨0,none,0,0,rW _,rfl,ku cA⟩
 case round=>
  obtain⟨k,va,P,O,hk,rfl,f⟩:=hrel;have a9:=zyc f;have b:=f.tk;have aT:=b.size;by_cases v:k<m.sets.length
  ·obtain⟨zb,zd,ez,C⟩:=ql (jw (ku a5).o0 b (ku l) ak);injection ez with I _ J;subst I;subst J;obtain⟨g,rfl,aZ,bA,A⟩:=C k v;have fl:=λj (hj:j<4)=>xq qvs 4 (λ_=>rfl) m.sets k j v hj
   have e0:=(A (k*4+0) aj).trans (fl 0 aj);have G:=(A (k*4+1) aj).trans (fl 1 aj);have N:=(A (k*4+2) aj).trans (fl 2 aj);have Q:=(A (k*4+3) aj).trans (fl 3 aj);simp only[qvs,sZ,tu,sU]at e0 G N Q;have cF:=pG (show kxx (m.sets.take (k+1))=kxx (m.sets.take k)++[kq8 m.sets[k].size.text] by rw[Qx v,kxx,Qv];rfl);have dC:(kxx (m.sets.take k)).length<=1000:=by simp[kxx];omega
   generalize kxx (m.sets.take k)=Lx at *;generalize m.sets[k]=s at *;obtain⟨m0,m1,m2,m3,m4,m5,_⟩:=kzb f.mc.row;have B:pU wr (wr.alloc (.cells #[.string s.name.text,.int .i64 s.name.at_,.int .i64 (kq8 s.size.text),.int .i64 s.size.at_] 111)):=below_alloc1 _ _;obtain⟨b0,b1,b2,b3,_⟩:=kk5 (qg wr (.cells #[.string s.name.text,.int .i64 s.name.at_,.int .i64 (kq8 s.size.text),.int .i64 s.size.at_] 111));have V:=pG (show jji ⟨M,2,none⟩ ⟨wr.heap.size,2,none⟩ (.slice va P O) (.int .i64 (kq8 s.size.text)) (wr.alloc (.cells #[.string s.name.text,.int .i64 s.name.at_,.int .i64 (kq8 s.size.text),.int .i64 s.size.at_] 111)).drew from⟨(B.cell (p:=⟨M,2,none⟩) a9).trans m2,b2⟩);have aF:=pG (show pU wr (wr.alloc (.cells #[.string s.name.text,.int .i64 s.name.at_,.int .i64 (kq8 s.size.text),.int .i64 s.size.at_] 111)).drew from B.drew);have D:=pG f;clear A fl C f b m0 m1 m2 m3 m4 m5 B b0 b1 b2 b3;go_upto_region 5 with fail
   refine kz4 (S:=jji ⟨M,2,none⟩ ⟨wr.heap.size,2,none⟩ (.slice va P O) (.int .i64 (kq8 s.size.text))) (tl:=[9,10,11,12]) ah ?_;refine frS 0 ?_;refine frS 1 ?_;refine frS 2 ?_;refine frS 3 ?_;refine tkS 4 (ku V) ?_;refine frS 5 ?_;refine frS 6 ?_;refine tkS 7 (ku V) ?_;refine onS 8 λK E=>?_
   go_simp
   refine E _ _ ((ku V).below (below_alloc1 _ _) (show M<(wr.alloc _).heap.size by simp;omega) (show wr.heap.size<(wr.alloc _).heap.size by simp)) ?_;clear E K;refine zje ?_;refine onA 9 λK E=>?_
   refine apL (qj (ku D).mc.sets ((ku aF).alloc (ku aF).size _)) (alloc_at _ _ (wr.heap.size+1) au) ?_ (H:=wr.heap.size+2) (hH:=au);intro gg gcap w4 bC Z cL cU;refine E _ _ ?_;clear E K;have Z:((wr.alloc (.cells #[.string s.name.text,.int .i64 s.name.at_,.int .i64 (kq8 s.size.text),.int .i64 s.size.at_] 111)).drew.alloc (.cells #[.int .i64 (kq8 s.size.text)] 3)).grownBy w4 (Value.slice va P O).ownBlock:=Z;have bW:=vq1 (ku D).mc (ku aF) Z;obtain⟨m0,m1,m2,m3,m4,m5,f0,f1,f2,f3,f4,f5⟩:=kzb bW;have bJ:=pj7 (ku D).mc (kq8 s.size.text) (ku aF) Z bC aj;have bY:=pG (show ∃gv gn gc,NwI w W w.heap.size so M nb [] [] (Lx++[kq8 s.size.text]) [] [] 0 (.slice none 0 0) (.slice none 0 0) (.slice gv gn gc) (.slice none 0 0) (w4.setCell ⟨M,2,none⟩ (.slice (some ⟨gg,0,none⟩) (Lx.length+1) gcap)) from by
    obtain⟨⟨gv,gn,gc,q1⟩,q2,q3⟩:=bJ;exact⟨gv,gn,gc,q1,(ku D).tk.trans ((q2.wide ak).any _),(ku D).be.trans q3⟩)
   clear bW bC Z cL bJ;refine onA 10 λK E=>?_
   go_simp
   refine E _ _ ?_;clear E K;refine onA 11 λK E=>?_
   go_simp
   refine E _ _ ?_;clear E K;refine onA 12 λK E=>?_
   go_simp
   refine E _ _ ?_;clear E K;refine wpAny_done ah ?_ _;go_wp2
   go_roundw
   case rel=>
    obtain⟨gv,gn,gc,q⟩:=ku bY;exact⟨k+1,gv,gn,gc,aj,eu,by rw[ku cF];exact q⟩
   case measure=>exact qQ
  ·have:k=m.sets.length:=by omega
   subst this;rw[QM]at f;obtain⟨q0,q1,q2,q3,q4,_⟩:=jl (b.row (ku F) (λe=>ku l _ _ _ _ e (ku F)) ak);have D:=pG f;have aK:w.heap.size<wr.heap.size:=aj;clear f b;go_wp2_with fail
   go_loopw [7,8,9,42] (λ_ _ _ i wr=>∃(k:Nat) (t:kq1),k<=m.kinds.length/\i=.int .i64 k/\qjc (m.kinds.drop k) t=some T/\NwI w W w.heap.size so M nb [] [] (kxx m.sets) [] t 0 (.slice none 0 0) (.slice none 0 0) (.slice va P O) (.slice none 0 0) wr) (λ_ _ _ i _=>m.kinds.length-(intOf i).toNat)
   case atStart=>exact⟨0,[],rW _,rfl,ku HK,ku D⟩
   case round=>
    obtain⟨k,t,hk,rfl,a,f⟩:=hrel;have a9:=zyc f;have b:=f.tk;have aT:=b.size;clear D;by_cases v:k<m.kinds.length
    ·obtain⟨bX,aR,bT⟩:=(ku a5).o1;obtain⟨zb,zd,ez,C⟩:=ql (jw aR b (ku l) ak);injection ez with I _ J;subst I;subst J;obtain⟨g,rfl,aZ,bA,A⟩:=C k v;obtain⟨ma,mn,mc,a6,a7,a8,aW⟩:=zv8 k v bT;have e0:=(A (k*3) aj).trans a6;have G:=(A (k*3+1) aj).trans a7;have N:=(A (k*3+2) aj).trans a8;obtain⟨zb,zd,ez,_⟩:=ql aW;injection ez with I cK J;subst I;subst cK;subst J;rw[rM v,qjc]at a;obtain⟨T1,bQ,a⟩:=wQ.mp a;have L:=pG a;have cH:=pG bQ;have dA:=(ku HF).mems _ (wX v);have bZ:=pG aW;generalize m.kinds[k]=s at *;have D:=pG (f.below (below_alloc1 wr (.cells #[.string s.name.text,.int .i64 s.name.at_,.slice ma s.members.length mc] 114)) aj);clear A a6 a7 a8 C f b aW a bQ aR bT q0 q1 q2 q3 q4;go_wp2_with fail
     go_loopw [8,9,49] (λ_ _ i wr=>∃(j:Nat) (t:kq1),j<=s.members.length/\i=.int .i64 j/\zko (s.members.drop j) j t=some T1/\NwI w W w.heap.size so M nb [] [] (kxx m.sets) [] t 0 (.slice none 0 0) (.slice none 0 0) (.slice va P O) (.slice none 0 0) wr) (λ_ _ i _=>s.members.length-(intOf i).toNat)
     case atStart=>exact⟨0,t,rW _,rfl,ku cH,ku D⟩
     case round=>
      obtain⟨j,t2,hj,rfl,z,f⟩:=hrel;have a9:=zyc f;have b:=f.tk;have aT:=b.size;clear D;by_cases bK:j<s.members.length
      ·obtain⟨zb,zd,ez,C⟩:=ql (jw (ku bZ) b (ku l) ak);injection ez with I _ J;subst I;subst J;obtain⟨g2,rfl,cP,cQ,Y⟩:=C j bK;have fl:=λq (hq:q<2)=>xq kj9 2 (λ_=>rfl) s.members j q bK hq
       have e0:=(Y (j*2+0) aj).trans (fl 0 aj);have G:=(Y (j*2+1) aj).trans (fl 1 aj);simp only[kj9,sZ,tu,sU]at e0 G;rw[rM bK,zko]at z;obtain⟨t3,aU,z⟩:=wQ.mp z;obtain⟨rfl,bL,aV⟩:=zyj aU;have cE:=pG z;generalize s.members[j]=y at *;obtain⟨m0,m1,m2,m3,m4,m5,_⟩:=kzb f.mc.row;have B:pU wr (wr.alloc (.cells #[.string y.text,.int .i64 y.at_] 107)):=below_alloc1 _ _;obtain⟨b0,b1,_,_⟩:=kj0 (qg wr (.cells #[.string y.text,.int .i64 y.at_] 107));have V:=pG (show jji ⟨M,4,none⟩ ⟨wr.heap.size,0,none⟩ (.map (some nb)) (.string y.text) (wr.alloc (.cells #[.string y.text,.int .i64 y.at_] 107)).drew from⟨(B.cell (p:=⟨M,4,none⟩) a9).trans m4,b0⟩);have d:=f.below (show pU wr (wr.alloc (.cells #[.string y.text,.int .i64 y.at_] 107)).drew from B.drew) aj;obtain⟨w5,aE,aD,h⟩:=jxo (e:=⟨false,j⟩) d.mc.tab bL aV;unfold kyd at aE;have aX:=pG (show NwI w W w.heap.size so M nb [] [] (kxx m.sets) [] (t2++[(y.text,⟨false,j⟩)]) 0 (.slice none 0 0) (.slice none 0 0) (.slice va P O) (.slice none 0 0) w5 from⟨vj4 d.mc h aD,d.tk.trans (zxz h _),d.be.trans ⟨h.os,h.tape,h.output,h.size,λq hq=>h.block q (by have:=d.be.size;omega) aj⟩⟩);clear Y fl C f b d aD h m0 m1 m2 m3 m4 m5 B b0 b1 aU z aV;go_upto_region 13 with fail
       refine kz4 (S:=jji ⟨M,4,none⟩ ⟨wr.heap.size,0,none⟩ (.map (some nb)) (.string y.text)) (tl:=[8]) ah ?_;refine frS 0 ?_;refine frS 1 ?_;refine frS 2 ?_;refine tkS 3 (ku V) ?_;refine frS 4 ?_;refine tkS 5 (ku V) ?_;refine frS 6 ?_;refine frS 7 ?_;refine zje ?_;refine onA 8 λK E=>?_
       go_simp
       refine E _ _ ?_;clear E K;refine wpAny_done ah ?_ _;clear aE;go_wp2
       go_roundw
       case rel=>exact⟨j+1,_,aj,eu,ku cE,ku aX⟩
       case measure=>exact qQ
      ·have:j=s.members.length:=by omega
       subst this;rw[Qd,zko]at z;injection z with z;subst z;have D:=pG f;clear f b;go_wp2
       go_roundw
       case rel=>exact⟨k+1,_,aj,eu,ku L,ku D⟩
       case measure=>exact qQ
    ·have:k=m.kinds.length:=by omega
     subst this;rw[Qd,qjc]at a;injection a with a;subst a;obtain⟨q0,q1,q2,q3,q4,_⟩:=jl (b.row (ku F) (λe=>ku l _ _ _ _ e (ku F)) ak);have D:=pG f;have aK:w.heap.size<wr.heap.size:=aj;clear f b;go_wp2_with fail
     go_loopw [10,11,67] (λ_ _ i wr=>∃(k:Nat) (t:kq1) (vs:List MVar) (sz:Nat) (vv:Value),k<=m.vars.length/\i=.int .i64 k/\qjn m.sets m.kinds (m.vars.drop k) k t vs sz=some X/\NwI w W w.heap.size so M nb [] [] (kxx m.sets) vs t sz (.slice none 0 0) (.slice none 0 0) (.slice va P O) vv wr) (λ_ _ i _=>m.vars.length-(intOf i).toNat)
     case atStart=>exact⟨0,t,[],0,_,rW _,rfl,ku HV,ku D⟩
     case round=>
      obtain⟨k,t,vs,sz,vv,hk,rfl,a,f⟩:=hrel;have a9:=zyc f;have b:=f.tk;have aT:=b.size;clear D;by_cases v:k<m.vars.length
      ·obtain⟨zb,zd,ez,C⟩:=ql (jw (ku a5).o2 b (ku l) ak);injection ez with I _ J;subst I;subst J;obtain⟨g,rfl,aZ,bA,A⟩:=C k v;have fl:=λj (hj:j<10)=>xq kjp 10 (λ_=>rfl) m.vars k j v hj
       have cc:=λj (hj:j<10)=>(A (k*10+j) aj).trans (fl j hj)
       have e0:=cc 0 aj;have G:=cc 1 aj;have N:=cc 2 aj;have Q:=cc 3 aj;have e4:=cc 4 aj;have e5:=cc 5 aj;have e6:=cc 6 aj;have e7:=cc 7 aj;have e8:=cc 8 aj;have e9:=cc 9 aj;simp only[kjp,sZ,tu,sU]at e0 G N Q e4 e5 e6 e7 e8 e9;rw[rM v,qjn]at a;obtain⟨t3,aU,a⟩:=wQ.mp a;obtain⟨rfl,bL,aV⟩:=zyj aU;have hcond:sz<=100000/\vs.length<=1000:=by
        apply tK;intro A;rw[if_neg A]at a;cases a
       rw[if_pos hcond]at a;obtain⟨u,hu,a⟩:=wQ.mp a;have L:=pG a;have HU:=pG hu;generalize m.vars[k]=s at *;obtain⟨m0,m1,m2,m3,m4,m5,_⟩:=kzb f.mc.row;have B:pU wr (wr.alloc (.cells #[.string s.name.text,.int .i64 s.name.at_,.bool s.arr,.string s.over.text,.int .i64 s.over.at_,.int .i64 s.si.form,.int .i64 (kq8 s.si.top.text),.int .i64 s.si.top.at_,.string s.si.name.text,.int .i64 s.si.name.at_] 121)):=below_alloc1 _ _;have aY:=qg wr (.cells #[.string s.name.text,.int .i64 s.name.at_,.bool s.arr,.string s.over.text,.int .i64 s.over.at_,.int .i64 s.si.form,.int .i64 (kq8 s.si.top.text),.int .i64 s.si.top.at_,.string s.si.name.text,.int .i64 s.si.name.at_] 121);obtain⟨⟨b0,b1,b2,b3,b4,b5,b6,b7,b8,b9⟩,_⟩:=kjj aY;have V:=pG (show jji ⟨M,4,none⟩ ⟨wr.heap.size,0,none⟩ (.map (some nb)) (.string s.name.text) (wr.alloc (.cells #[.string s.name.text,.int .i64 s.name.at_,.bool s.arr,.string s.over.text,.int .i64 s.over.at_,.int .i64 s.si.form,.int .i64 (kq8 s.si.top.text),.int .i64 s.si.top.at_,.string s.si.name.text,.int .i64 s.si.name.at_] 121)).drew from⟨(B.cell (p:=⟨M,4,none⟩) a9).trans m4,b0⟩);have d:=f.below (show pU wr (wr.alloc (.cells #[.string s.name.text,.int .i64 s.name.at_,.bool s.arr,.string s.over.text,.int .i64 s.over.at_,.int .i64 s.si.form,.int .i64 (kq8 s.si.top.text),.int .i64 s.si.top.at_,.string s.si.name.text,.int .i64 s.si.name.at_] 121)).drew from B.drew) aj;obtain⟨w5,aE,aD,h⟩:=jxo (e:=⟨true,k⟩) d.mc.tab bL aV;unfold kyd at aE;have aL:NwI w W w.heap.size so M nb [] [] (kxx m.sets) vs (t++[(s.name.text,⟨true,k⟩)]) sz (.slice none 0 0) (.slice none 0 0) (.slice va P O) vv w5:=⟨vj4 d.mc h aD,d.tk.trans (zxz h _),d.be.trans ⟨h.os,h.tape,h.output,h.size,λq hq=>h.block q (by have:=d.be.size;omega) aj⟩⟩;have dB:wr.heap.size<w5.heap.size:=by have:=h.size;simp at this;omega
       have bH:=(zxz h []).row (show(wr.alloc (.cells #[.string s.name.text,.int .i64 s.name.at_,.bool s.arr,.string s.over.text,.int .i64 s.over.at_,.int .i64 s.si.form,.int .i64 (kq8 s.si.top.text),.int .i64 s.si.top.at_,.string s.si.name.text,.int .i64 s.si.name.at_] 121)).drew.heap[wr.heap.size]?=some (.cells #[.string s.name.text,.int .i64 s.name.at_,.bool s.arr,.string s.over.text,.int .i64 s.over.at_,.int .i64 s.si.form,.int .i64 (kq8 s.si.top.text),.int .i64 s.si.top.at_,.string s.si.name.text,.int .i64 s.si.name.at_] 121 (0,0)) from aY) (λe=>d.mc.tab.no _ _ _ _ e aY) au;obtain⟨⟨d0,d1,d2,d3,d4,d5,d6,d7,d8,d9⟩,_⟩:=kjj bH;obtain⟨q0,q1,q2,q3,q4,_⟩:=jl (aL.tk.row (ku F) (λe=>ku l _ _ _ _ e (ku F)) ak);have bD:=pG (jyg w5 w.heap.size so so M nb [] [] (kxx m.sets) vs (t++[(s.name.text,⟨true,k⟩)]) sz (.slice none 0 0) (.slice none 0 0) (.slice va P O) vv a0 a1 (some ⟨g,0,none⟩) a3 a4 m.sets.length m.kinds.length m.vars.length m.rules.length m.nevers.length c0 c1 c2 c3 c4 m s u aL.mc ((ku a5).tk aL.tk (ku l) ak) (ku HF) (ku HU) aj aj aj);unfold mdV vrV kjp at bD;have aX:=pG aL;clear A cc fl C f b d aD h aL m0 m1 m2 m3 m4 m5 B aY bH b0 b1 b2 b3 b4 b5 b6 b7 b8 b9 aU a aV hu;go_upto_region 19 with fail
       refine kz4 (S:=jji ⟨M,4,none⟩ ⟨wr.heap.size,0,none⟩ (.map (some nb)) (.string s.name.text)) (tl:=[9]) ah ?_;refine frS 0 ?_;refine frS 1 ?_;refine frS 2 ?_;refine tkS 3 (ku V) ?_;refine frS 4 ?_;refine frS 5 ?_;refine tkS 6 (ku V) ?_;refine frS 7 ?_;refine frS 8 ?_;refine zje ?_;refine onA 9 λK E=>?_
       go_simp
       refine E _ _ ?_;clear E K;refine wpAny_done ah ?_ _;clear aE;go_wp2_with fail
       refine(ku bD).mono ?_;rintro e w6 ⟨rfl,⟨cO,aC⟩,aB,aA⟩;have aI:=pG (show NwI w W w.heap.size so M nb [] [] (kxx m.sets) (vs++[u]) (t++[(s.name.text,⟨true,k⟩)]) (sz+u.count) (.slice none 0 0) (.slice none 0 0) (.slice va P O) cO w6 from⟨aC,(ku aX).tk.trans ((aB.wide ak).any _),(ku aX).be.trans aA⟩);clear aC aB aA bD d0 d1 d2 d3 d4 d5 d6 d7 d8 d9 q0 q1 q2 q3 q4;go_wp2
       go_roundw
       case rel=>exact⟨k+1,_,_,_,_,aj,eu,ku L,ku aI⟩
       case measure=>exact qQ
      ·have:k=m.vars.length:=by omega
       subst this;rw[Qd,qjn]at a;injection a with a;subst a;obtain⟨q0,q1,q2,q3,q4,_⟩:=jl (b.row (ku F) (λe=>ku l _ _ _ _ e (ku F)) ak);have D:=pG f;have aK:w.heap.size<wr.heap.size:=aj;clear f b;go_wp2_with fail
       go_loopw [13,89] (λ_ i wr=>∃(k:Nat) (acc:List MStep) (sv:Value),k<=m.rules.length/\i=.int .i64 k/\kwc m.sets (m.rules.drop k) acc=some ST/\NwI w W w.heap.size so M nb acc [] (kxx m.sets) vs t sz sv (.slice none 0 0) (.slice va P O) vv wr) (λ_ i _=>m.rules.length-(intOf i).toNat)
       case atStart=>exact⟨0,[],_,rW _,rfl,ku cG,ku D⟩
       case round=>
        obtain⟨k,acc,sv,hk,rfl,a,f⟩:=hrel;have a9:=zyc f;have b:=f.tk;have aT:=b.size;clear D;by_cases v:k<m.rules.length
        ·obtain⟨bX,ho,aS⟩:=(ku a5).o3;obtain⟨zb,zd,ez,C⟩:=ql (jw ho b (ku l) ak);injection ez with I _ J;subst I;subst J;obtain⟨g,rfl,aZ,bA,A⟩:=C k v;obtain⟨pa,pn,pc,gp,ba,bn,bc,cJ,⟨a6,a7,a8,aJ,bM⟩,hp,hx,bS,bR⟩:=kxq.at_ k v aS;have e0:=(A (k*5) aj).trans a6;have G:=(A (k*5+1) aj).trans a7;have N:=(A (k*5+2) aj).trans a8;have Q:=(A (k*5+3) aj).trans aJ;have e4:=(A (k*5+4) aj).trans bM;rw[rM v,kwc]at a;obtain⟨c,aQ,a⟩:=wQ.mp a;have hcond:kv3 m.rules[k] c acc.length=true:=by
          cases bI:kv3 m.rules[k] c acc.length
          ·rw[bI]at a;cases a
          ·rfl
         rw[if_pos hcond]at a;obtain⟨aM,Y,aN,aO,aP⟩:=qyd hcond;have L:=pG a;have B:pU wr (wr.alloc (.cells #[.string m.rules[k].name.text,.int .i64 m.rules[k].name.at_,.slice pa pn pc,.pointer gp,.slice ba bn bc] 127)):=below_alloc1 _ _;have d:=f.below B aj;have U:=pG (jja (wr.alloc (.cells #[.string m.rules[k].name.text,.int .i64 m.rules[k].name.at_,.slice pa pn pc,.pointer gp,.slice ba bn bc] 127)) w.heap.size so M nb acc [] (kxx m.sets) vs t sz sv (.slice none 0 0) (.slice va P O) vv a0 a1 a2 (some ⟨g,0,none⟩) a4 m.sets.length m.kinds.length m.vars.length m.rules.length m.nevers.length c0 c1 c2 c3 c4 m m.rules[k] pa gp ba pn pc bn bc cJ d.mc ((ku a5).tk d.tk (ku l) ak) (ku HF) aP (jw hp d.tk (ku l) ak) aO (hx.tk d.tk (ku l) ak) (jw bS d.tk (ku l) ak) (bR.tk d.tk (ku l) ak ak) c aQ aM Y aN ay);unfold mdV at U;obtain⟨q0,q1,q2,q3,q4,_⟩:=jl (b.row (ku F) (λe=>ku l _ _ _ _ e (ku F)) ak);have aK:w.heap.size<wr.heap.size:=aj;have aG:=pG d;have aH:=pG (show qkx m.rules[k]=λms=>(⟨kkt m.rules[k].name.text ms,m.rules[k].params,ms,m.rules[k].guard,m.rules[k].body⟩:MStep) from rfl);rw[<-ku aH]at U;clear aH;generalize qkx m.rules[k]=mk at *;generalize m.rules[k]=s at *;clear A a6 a7 a8 aJ bM C f b d B hp hx bS bR a aQ hcond aM Y aN aO aP ho aS;go_wp2_with fail
         refine(ku U).mono ?_;rintro e w6 ⟨rfl,⟨gv,gn,gc,aC⟩,aB,aA⟩;have aI:=pG (show NwI w W w.heap.size so M nb (acc++c.map mk) [] (kxx m.sets) vs t sz (.slice gv gn gc) (.slice none 0 0) (.slice va P O) vv w6 from⟨aC,(ku aG).tk.trans ((aB.wide ak).any _),(ku aG).be.trans aA⟩);clear aC aB aA U q0 q1 q2 q3 q4 e0 G N Q e4;go_wp2
         go_roundw
         case rel=>exact⟨k+1,_,_,aj,eu,ku L,ku aI⟩
         case measure=>exact qQ
        ·have:k=m.rules.length:=by omega
         subst this;rw[Qd,kwc]at a;injection a with a;subst a;obtain⟨q0,q1,q2,q3,q4,_⟩:=jl (b.row (ku F) (λe=>ku l _ _ _ _ e (ku F)) ak);have D:=pG f;have aK:w.heap.size<wr.heap.size:=aj;clear f b;go_wp2_with fail
         go_loopw [15,101] (λ_ i wr=>∃(k:Nat) (R:List MNever) (nv:Value),k<=m.nevers.length/\i=.int .i64 k/\kkg m.sets (m.nevers.drop k) R=some NV/\NwI w W w.heap.size so M nb acc R (kxx m.sets) vs t sz sv nv (.slice va P O) vv wr) (λ_ i _=>m.nevers.length-(intOf i).toNat)
         case atStart=>exact⟨0,[],_,rW _,rfl,ku cD,ku D⟩
         case round=>
          obtain⟨k,R,nv,hk,rfl,a,f⟩:=hrel;have a9:=zyc f;have b:=f.tk;have aT:=b.size;clear D;by_cases v:k<m.nevers.length
          ·obtain⟨bX,ho,aS⟩:=(ku a5).o4;obtain⟨zb,zd,ez,C⟩:=ql (jw ho b (ku l) ak);injection ez with I _ J;subst I;subst J;obtain⟨g,rfl,aZ,bA,A⟩:=C k v;obtain⟨pa,pn,pc,gp,⟨a6,a7,a8,aJ⟩,hp,hx⟩:=kxj.at_ k v aS;have e0:=(A (k*4) aj).trans a6;have G:=(A (k*4+1) aj).trans a7;have N:=(A (k*4+2) aj).trans a8;have Q:=(A (k*4+3) aj).trans aJ;rw[rM v,kkg]at a;obtain⟨c,aQ,a⟩:=wQ.mp a;have hcond:kv3 m.nevers[k] c R.length=true:=by
            cases bI:kv3 m.nevers[k] c R.length
            ·rw[bI]at a;cases a
            ·rfl
           rw[if_pos hcond]at a;obtain⟨aM,Y,aN,aO,aP⟩:=qyd hcond;have L:=pG a;have B:pU wr (wr.alloc (.cells #[.string m.nevers[k].name.text,.int .i64 m.nevers[k].name.at_,.slice pa pn pc,.pointer gp] 130)):=below_alloc1 _ _;have d:=f.below B aj;have U:=pG (zwh (wr.alloc (.cells #[.string m.nevers[k].name.text,.int .i64 m.nevers[k].name.at_,.slice pa pn pc,.pointer gp] 130)) w.heap.size so M nb acc R (kxx m.sets) vs t sz sv nv (.slice va P O) vv a0 a1 a2 a3 (some ⟨g,0,none⟩) m.sets.length m.kinds.length m.vars.length m.rules.length m.nevers.length c0 c1 c2 c3 c4 m m.nevers[k] pa gp pn pc d.mc ((ku a5).tk d.tk (ku l) ak) (ku HF) aP (jw hp d.tk (ku l) ak) aO (hx.tk d.tk (ku l) ak) c aQ aM Y aN ay);unfold mdV at U;obtain⟨q0,q1,q2,q3,q4,_⟩:=jl (b.row (ku F) (λe=>ku l _ _ _ _ e (ku F)) ak);have aK:w.heap.size<wr.heap.size:=aj;have aG:=pG d;have aH:=pG (show qj7 m.nevers[k]=λms=>(⟨kkt m.nevers[k].name.text ms,m.nevers[k].params,ms,m.nevers[k].guard⟩:MNever) from rfl);rw[<-ku aH]at U;clear aH;generalize qj7 m.nevers[k]=mk at *;generalize m.nevers[k]=s at *;clear A a6 a7 a8 aJ C f b d B hp hx a aQ hcond aM Y aN aO aP ho aS;go_wp2_with fail
           refine(ku U).mono ?_;rintro e w6 ⟨rfl,⟨gv,gn,gc,aC⟩,aB,aA⟩;have aI:=pG (show NwI w W w.heap.size so M nb acc (R++c.map mk) (kxx m.sets) vs t sz sv (.slice gv gn gc) (.slice va P O) vv w6 from⟨aC,(ku aG).tk.trans ((aB.wide ak).any _),(ku aG).be.trans aA⟩);clear aC aB aA U q0 q1 q2 q3 q4 e0 G N Q;go_wp2
           go_roundw
           case rel=>exact⟨k+1,_,_,aj,eu,ku L,ku aI⟩
           case measure=>exact qQ
          ·have:k=m.nevers.length:=by omega
           subst this;rw[Qd,kkg]at a;injection a with a;subst a;have D:=pG f;clear f b;go_wp2
           go_ret
           exact⟨M,nb,_,_,_,_,rfl,(ku D).mc,(ku D).be⟩
def qjj:PB->Bool
 |.nil=>true
 |.node _ _ a .nil n=>qjj n
 |.node _ _ a (.node _ _ _ t e) n=>(qjj t&&decide (kq4 t<=1000))&&((qjj e&&decide (kq4 e<=1000))&&qjj n)
theorem qzs {i j k l:Nat}{b: SLab}{t e n:PB}(h:qjj (.node i j a (.node k l b t e) n)=true):((qjj t=true/\kq4 t<=1000)/\(qjj e=true/\kq4 e<=1000)/\qjj n=true):=by
 rw[qjj]at h;simp only[wW,sQ]at h;exact h
theorem qkn:∀(b:PB),qjj b=true->kw5 b
 |.nil,_=>trivial
 |.node _ _ a .nil n,h=>qkn n h
 |.node _ _ a (.node _ _ _ t e) n,h=>⟨⟨qkn t (qzs h).1.1,(qzs h).1.2⟩,⟨qkn e (qzs h).2.1.1,(qzs h).2.1.2⟩,qkn n (qzs h).2.2⟩
def qwg (l:List Tok):Bool:=l.all λy=>decide (y.text.size<=1000)
theorem zqn {l:List Tok}(h:qwg l=true):∀y∈l,y.text.size<=1000:=λy a=>of_decide_eq_true (sG.1 h y a)
def qv5 (s:MStep):Bool:=decide (s.params.length<=1000)&&(qwg (cu s.guard)&&(qjj s.block&&(decide (kq4 s.block<=1000)&&qwg (pz s.block))))
theorem jvf {s:MStep}(h:qv5 s=true):zjt s:=by
 unfold qv5 at h;simp only[wW,sQ]at h;exact⟨h.1,zqn h.2.1,qkn _ h.2.2.1,h.2.2.2.1,zqn h.2.2.2.2⟩
def zj4 (s:MNever):Bool:=decide (s.params.length<=1000)&&qwg (cu s.expr)
theorem vz5 {s:MNever}(h:zj4 s=true):vj3 s:=by
 unfold zj4 at h;simp only[wW,sQ]at h;exact⟨h.1,zqn h.2⟩
def qj9 (a:Mach):Bool:=a.steps.all qv5&&(a.nevers.all zj4&&(decide (a.vars.length<=1000)&&(decide (a.steps.length<=1000000)&&decide (a.nevers.length<=1000000))))
theorem jwn {a:Mach}(h:qj9 a=true):MachOk a:=by
 unfold qj9 at h;simp only[wW,sQ]at h;exact⟨λs b=>jvf (sG.1 h.1 s b),λs b=>vz5 (sG.1 h.2.1 s b),h.2.2.1,h.2.2.2.1,h.2.2.2.2⟩
def qwm (m:MdL):Bool:=decide (m.sets.length<=1000)&&(decide (m.kinds.length<=1000)&&((m.kinds.all λx=>decide (x.members.length<=1000))&&(decide (m.vars.length<=1000)&&(decide (m.rules.length<=1000)&&decide (m.nevers.length<=1000)))))
theorem vzq {m:MdL}(h:qwm m=true):MdFit m:=by
 unfold qwm at h;simp only[wW,sQ]at h;exact⟨h.1,h.2.1,λx a=>of_decide_eq_true (sG.1 h.2.2.1 x a),h.2.2.2.1,h.2.2.2.2.1,h.2.2.2.2.2⟩
def jq3 (s:ByteArray):Option Mach:=if qwm (zh (yx (jo s).1).1) then (vz4 (zh (yx (jo s).1).1)).bind λa=>if qj9 a then some a else none else none
def zyk (s:ByteArray)(ts:List ByteArray):Option zzi:=if (qxy s).1==0 then (jq3 s).bind λa=>jzv a ts else some (noView,false,(qxy s).1,(qxy s).2)
theorem vkr (s:ByteArray)(w:World)(ts:List ByteArray)(pa:Option Addr)(pn pc:Nat)(hn:ts.length=pn)(HP:kww w pa ts)(r:zzi)(t:zyk s ts=some r):
  qJ 11 #[.string s,.slice pa pn pc] w λe w'=>kkz w r e w':=by
 obtain⟨W,y⟩:∃W,W=w.alloc (.cells #[.string ⟨#[]⟩,.slice none 0 0,.slice none 0 0,.slice none 0 0,.bool false] 24):=⟨_,rfl⟩;have Q:pU w W:=by rw[y];exact below_alloc1 w _
 have a8:w.heap.size<W.heap.size:=by rw[y];simp
 have HR:W.heap[w.heap.size]?=some (.cells #[.string ⟨#[]⟩,.slice none 0 0,.slice none 0 0,.slice none 0 0,.bool false] 24 (0,0)):=by rw[y];exact qg _ _
 go_enter func11,ntmps11
 go_wp2_with fail
 rw[(pG y.symm)];refine(vxs s W).mono ?_;rintro e z ⟨G,x0,x1,x2,x3,x4,rfl,i,⟨S,n0,k0,rfl⟩,⟨T,n1,k1,rfl⟩,⟨U,n2,k2,rfl⟩,⟨V,n3,k3,rfl⟩,⟨X,n4,k4,rfl⟩⟩;have d:pU w z:=Q.trans (G.mono aj);have f:=(G.block w.heap.size a8).trans HR;have N:=wu f;unfold zyk at t;obtain⟨c1,c2,hc⟩:∃c1 c2,qxy s=(c1,c2):=⟨_,_,rfl⟩;rw[hc]at t i |-;dsimp only at t i |-;cases c:(c1==0)
 ·have hE:r=(noView,false,c1,c2):=by
   have:=t;rw[c,if_neg au]at this;injection this with this;exact this.symm
  subst hE;have Y:(c1 != 0)=true:=by simp[bne,c]
  obtain⟨r0,r1,r2,r3,r4,y0,y1,y2,y3,y4⟩:=jl f;go_wp2
  refine rY (v:=.tuple #[.agg #[.string ⟨#[]⟩,.slice none 0 0,.slice none 0 0,.slice none 0 0,.bool false],.int .i64 c1,.int .i64 c2]) (um results11 _ _ w.heap.size _ _ _ _ rfl (zy (kjw f _ _ _ _ _)) underlying24 rfl ah) rfl ?_;exact⟨none,0,0,none,0,0,none,0,0,rfl,wB _ _ _ _,wB _ _ _ _,wB _ _ _ _,(kz9 d _ _ _ _ _).alloc (kz9 d _ _ _ _ _).size _⟩
 ·have Y:(c1 != 0)=false:=by simp[bne,c]
  have O:c1=0:=lJ;have J:=t;rw[c,if_pos rfl]at J;obtain⟨a,b,R⟩:=wQ.mp J;unfold jq3 at b;have p:qwm (zh (yx (jo s).1).1)=true:=by
   cases m:qwm (zh (yx (jo s).1).1)
   ·rw[m]at b;cases b
   ·rfl
  rw[if_pos p]at b;obtain⟨a',P,b⟩:=wQ.mp b;have q:qj9 a'=true:=by
   cases m:qj9 a'
   ·rw[m]at b;cases b
   ·rfl
  rw[if_pos q]at b;injection b with b;subst b;obtain⟨wb,L⟩:∃wb,wb=z.alloc (.cells #[.slice S n0 k0,.slice T n1 k1,.slice U n2 k2,.slice V n3 k3,.slice X n4 k4] 68):=⟨_,rfl⟩;have l:pU z wb:=by rw[L];exact below_alloc1 _ _
  have D:=new_any wb W.heap.size S T U V X n0 n1 n2 n3 n4 k0 k1 k2 k3 k4 _ ((i O).stay λk _ hk=>l.block k hk) (vzq p) a' P;unfold mdV at D;have C:=d.trans (l.mono (by have:=d.size;omega));have F:=(l.block _ N).trans f;go_wp2_with fail
  rw[(pG L.symm)];refine D.mono ?_;rintro e w2 ⟨M,nb,sv,nv,tv,vv,rfl,Z,H⟩;have h:=C.trans (H.mono (by have:=C.size;omega));have E:=(H.block w.heap.size (by have:=wu F;omega)).trans F;go_wp2_with fail
  refine(walk_any w2 W.heap.size M nb a' ts pa pn pc Z.px9 (jwn q) hn (HP.below h (wJ _)) r R).mono ?_;rintro e w3 ⟨u,en,x,wa,B,A,ba,bn,bc,rfl,a5,a6,a7,I⟩;have g:=h.size;have j:=(I.block w.heap.size (wu E)).trans E;obtain⟨r0,r1,r2,r3,r4,y0,y1,y2,y3,y4⟩:=jl j;have K:=qv6 j (bad:=[24]) ak (.string r.1.text) (.slice u en x) (.slice wa B A) (.slice ba bn bc) (.bool r.2.1);go_wp2
  refine rY (v:=.tuple #[.agg #[.string r.1.text,.slice u en x,.slice wa B A,.slice ba bn bc,.bool r.2.1],.int .i64 r.2.2.1,.int .i64 r.2.2.2]) (um results11 _ _ w.heap.size _ _ _ _ rfl (kjw j _ _ _ _ _) underlying24 rfl ah) rfl ?_;exact(show kkz w r (.returned (.tuple #[.agg #[.string r.1.text,.slice u en x,.slice wa B A,.slice ba bn bc,.bool r.2.1],.int .i64 r.2.2.1,.int .i64 r.2.2.2])) _ from⟨u,en,x,wa,B,A,ba,bn,bc,rfl,zu g (jw a5 K (dw.none _) ak),zu g (jw a6 K (dw.none _) ak),zu g (jw a7 K (dw.none _) ak),kz9 (h.trans (I.mono g)) _ _ _ _ _⟩)
def zjy (t:PTree)(S:List (List Int)):List RIn->List UInt8->Option (Option (List (List Int)))
 |[],_=>some none
 |x::l,s=>if (riT x).toList==s then (zxl t S x).bind λr=>if r.1==1 then some (some r.2) else zjy t S l s else zjy t S l s
def qkg (t:PTree):List ByteArray->Nat->List (List Int)->Option zzi
 |[],_,S=>(jzy t S).map λv=>(v,kvj v,0,0)
 |s::l,i,S=>(zjy t S (kj3 t t.rules) s.toList).bind λq=>match q with|some S'=>qkg t l (i+1) S'|none=>some (noView,false,7,(i:Int))
def lens (S:List (List Int)):List Nat:=S.map List.length
theorem jvk {r:List (List Int)×Bool}(h:jyu t l ms S a=some r):lens r.1=lens S:=by
 unfold jyu at h;split at h
 ·cases h
 ·split at h
  ·cases h
  ·obtain⟨p,_,h⟩:=wQ.mp h;obtain⟨q,_,h⟩:=wQ.mp h;split at h
   ·cases h
   ·obtain⟨u,_,h⟩:=wQ.mp h;split at h
    ·injection h with h;rw[<-h]
    ·obtain⟨y,c,h⟩:=wQ.mp h;split at h
     ·cases h
     ·injection h with h;rw[<-h];unfold lens;rw[ZP,Jv];obtain⟨h1,b⟩:=tZ.mp c;apply List.ext_getElem?;intro i;rw[List.getElem?_set];by_cases e:q.1.1.toNat=i
      ·subst e;simp[h1,b]
      ·simp[e]
theorem zq8 {t:PTree}{l:List PP}{ms:List Int}:∀{b:PB} {S:List (List Int)} {r:List (List Int)×Bool},doR t l ms b S=some r->lens r.1=lens S
 |.nil,S,r,h=>by rw[doR]at h;injection h with h;rw[<-h]
 |.node _ _ a .nil n,S,r,h=>by
  rw[doR]at h;obtain⟨p,d,h⟩:=wQ.mp h;split at h
  ·injection h with h;rw[<-h];exact jvk d
  ·exact(zq8 h).trans (jvk d)
 |.node _ _ a (.node _ _ _ th el) n,S,r,h=>by
  rw[doR]at h;split at h
  ·cases h
  ·obtain⟨c,_,h⟩:=wQ.mp h;split at h
   ·injection h with h;rw[<-h]
   ·obtain⟨p,d,h⟩:=wQ.mp h;have e:lens p.1=lens S:=by
     split at d
     ·exact zq8 d
     ·exact zq8 d
    split at h
    ·injection h with h;rw[<-h];exact e
    ·exact(zq8 h).trans e
theorem vxb {x:RIn}{r:Int×List (List Int)}(h:zxl t S x=some r):lens r.2=lens S:=by
 unfold zxl at h;obtain⟨c,_,h⟩:=wQ.mp h;split at h
 ·injection h with h;rw[<-h]
 ·split at h
  ·injection h with h;rw[<-h]
  ·obtain⟨p,a,h⟩:=rJ.mp h;split at h
   ·rw[<-h]
   ·rw[<-h];exact zq8 a
theorem qko.vyk {a: List (List Int)}(h:qko S)(e:lens a=lens S):qko a:=by
 have c:a.length=S.length:=by have:=congrArg List.length e;simpa[lens] using this
 refine⟨by rw[c];exact h.1,λy d=>?_⟩;have:y.length∈lens a:=sV d;rw[e]at this;obtain⟨z,f,b⟩:=Qj.mp this;rw[<-b];exact h.2 z f
theorem vzp (w:World)(T:Nat)(t:PTree)(h:kqr w T t)(E:PlOk t)(ts:List ByteArray)(pa:Option Addr)(pn pc:Nat)(hn:ts.length=pn)(a2:kww w pa ts)(cR:ts.length<=1000000)(S0:List (List Int))(Z:kw4 t t.vars S0)(r:zzi)(hr:qkg t ts 0 S0=some r):
  qJ 37 #[.pointer (some ⟨T,0,none⟩),.slice pa pn pc] w λe w'=>kkz w r e w':=by
 subst hn;have bY:=qzp (t:=t) (rs:=t.rules) (λx F=>E.pars x (wG _ F));have cD:=E.rules;have aQ:qko S0:=by
  refine⟨by rw[Z.len];have:=E.ok.vars;omega,λy hy=>?_⟩;obtain⟨k,hk,rfl⟩:=tC hy;obtain⟨n,hn,e⟩:=Z.get k (by rw[<-Z.len];exact hk);rw[tY hk]at e;injection e with e;rw[e,Jb];have:=hn.bd;omega
 obtain⟨W,hW⟩:∃W,W=w.alloc (.cells #[.string ⟨#[]⟩,.slice none 0 0,.slice none 0 0,.slice none 0 0,.bool false] 24):=⟨_,rfl⟩;have aB:pU w W:=nU;have aY:w.heap.size<W.heap.size:=jC;have hR:W.heap[w.heap.size]?=some (.cells #[.string ⟨#[]⟩,.slice none 0 0,.slice none 0 0,.slice none 0 0,.bool false] 24 (0,0)):=mX;have aA:=pG (vjg W T t (h.below aB) E.ok E.fit S0 Z);have a5:=pG (λ(wx:World) (F:pU w wx) (a:Option Addr) (c:Nat) (ys:List Value) (h1:wx.ownsRow (T+1) 147 6 (.slice a t.rules.length c) t.rules.length ys) (h2:kq3 (T+1) wx t.rules ys)=>jkp wx T (T+1) t (h.below F) E.ok t.rules _ ys h1 h2 (λx F=>E.pars x (wG _ F)) cD);have b6:=pG (λ(wx:World) (F:pU w wx) (xv:Value) (S:List (List Int)) (gs:List (Nat×Nat)) (f:StA 0 wx xv S gs) (hS:qko S) (x:RIn) (c:List Value) (hi:zx0 wx x c) (hk:RiOk x) (q:Int×List (List Int)) (hq:zxl t S x=some q)=>jkg wx T 0 t (h.below F) E.ok E.tops _ S gs f hS x c hi hk q hq);have b7:=pG (λ(wx:World) (F:pU w wx) (xv:Value) (S:List (List Int)) (gs:List (Nat×Nat)) (f:StA 0 wx xv S gs) (hS:qko S) (v:MView) (hv:jzy t S=some v)=>vzw wx T 0 t (h.below F) E xv S gs f hS v hv);have bD:=pG (show ∀(wx:World),pU w wx->wx.heap[w.heap.size]?=some (.cells #[.string ⟨#[]⟩,.slice none 0 0,.slice none 0 0,.slice none 0 0,.bool false] 24 (0,0))->∀(x y:Int),kkz w (noView,false,x,y) (.returned (.tuple #[.agg #[.string ⟨#[]⟩,.slice none 0 0,.slice none 0 0,.slice none 0 0,.bool false],.int .i64 x,.int .i64 y])) (((((wx.setCell ⟨w.heap.size,0,none⟩ (.string ⟨#[]⟩)).setCell ⟨w.heap.size,1,none⟩ (.slice none 0 0)).setCell ⟨w.heap.size,2,none⟩ (.slice none 0 0)).setCell ⟨w.heap.size,3,none⟩ (.slice none 0 0)).setCell ⟨w.heap.size,4,none⟩ (.bool false)) from λwx hb J x y=>
  ⟨none,0,0,none,0,0,none,0,0,rfl,wB _ _ _ _,wB _ _ _ _,wB _ _ _ _,kz9 hb _ _ _ _ _⟩)
 have HT:=pG h;have HR:=pG hR;have b9:=pG aB;have bP:=pG hW.symm;have aI:=pG a2;have bC:=pG hr;have bG:=pG aQ;have a7:=pG (λx (F:x∈kj3 t t.rules)=>E.insts x (wG _ F));have aN:=pG (show ∀(s:ByteArray) (l:List ByteArray) (i:Nat) (S:List (List Int)),qkg t (s::l) i S=(zjy t S (kj3 t t.rules) s.toList).bind λq=>match q with|some S'=>qkg t l (i+1) S'|none=>some (noView,false,7,(i:Int)) from λ_ _ _ _=>rfl);generalize bZ:kj3 t t.rules=D at a5 a7 aN bY;clear a2 h aB hW hR hr aQ bZ;go_enter func37,ntmps37
 go_wp2_with fail
 rw[ku bP];refine(ku aA).mono ?_;rintro e w1 ⟨x1,H,rfl,X,a0⟩;obtain⟨cS,cT,rfl,_⟩:=ql X.out;have cN:=a0.size;have N:=(ku b9).trans (a0.mono (Qs aY));obtain⟨ra,rc,cG,rq,aH,b2,cK⟩:=((ku HT).below N).rul;have aM:=pG ((ku a5) w1 N ra rc cG aH b2);have a3:=pG N;have a9:=pG ((a0.block w.heap.size aY).trans (ku HR));have aP:=pG (X.mono (rW _));clear X a0 N aH b2 aA HR;go_wp2_with fail
 refine(ku aM).mono ?_;rintro e w2 ⟨lv,rfl,I,P⟩;have cO:=P.size;have b4:=pG (show OwnIn 0 w2 lv D from by obtain⟨cs,q1,q2⟩:=I;exact⟨cs,zu (rW _) q1,q2⟩);obtain⟨cI,aF,_⟩:=I;obtain⟨la,lc,rfl,_⟩:=ql aF;have b8:=pG ((ku a3).trans (P.mono (ku a3).size));have bH:=pG ((P.block w.heap.size (wu (ku a9))).trans (ku a9));have bL:=pG ((ku aP).below P);clear aF P aM a9 aP a3 rq;go_wp2_with fail
 go_loopw [7,9,10,11,12,13] (λx i _ _ _ _ wr=>∃(k:Nat) (S:List (List Int)) (gs:List (Nat×Nat)),k<=ts.length/\i=.int .i64 k/\StA 0 wr x S gs/\qko S/\qkg t (ts.drop k) k S=some r/\pU w wr/\wr.heap[w.heap.size]?=some (.cells #[.string ⟨#[]⟩,.slice none 0 0,.slice none 0 0,.slice none 0 0,.bool false] 24 (0,0))/\OwnIn 0 wr (.slice la D.length lc) D) (λ_ i _ _ _ _ _=>ts.length-(intOf i).toNat)
 case atStart=>exact⟨0,S0,H,rW _,rfl,ku bL,ku bG,ku bC,ku b8,ku bH,ku b4⟩
 case round=>
  obtain⟨R,cF⟩:∃R,R=wr:=⟨_,rfl⟩;subst cF;obtain⟨k,S,gs,hk,rfl,f,L,b,hb,J,I⟩:=hrel;obtain⟨sa,sc,rfl,_⟩:=ql f.out;have Q:=hb.size;have aR:=wu J;by_cases aU:k<ts.length
  case neg=>
   have aT:k=ts.length:=aj;rw[aT,Qd,qkg]at b;obtain⟨v,hv,b⟩:=rJ.mp b;subst b;have aO:=pG ((ku b7) R hb _ S gs f L v hv);have HB:=pG hb;have a8:=pG J;clear f hb J I hv aT;go_wp2_with fail
   refine(ku aO).mono ?_;rintro e w5 ⟨x5,rfl,⟨ea,en,ec,wa,wn,wc,ba,bn,bc,rfl,aV,aW,aX⟩,A⟩;have cP:=A.size;have aC:=(ku HB).trans (A.mono Q);have O:=(A.block w.heap.size aR).trans (ku a8);obtain⟨r0,r1,r2,r3,r4,y0,y1,y2,y3,y4⟩:=jl O;have cH:=wu O;have K:=qv6 O (bad:=[24]) ak (.string v.text) (.slice ea en ec) (.slice wa wn wc) (.slice ba bn bc) (.bool (kvj v));have HE:=pG (show kkz w (v,kvj v,0,0) (.returned (.tuple #[.agg #[.string v.text,.slice ea en ec,.slice wa wn wc,.slice ba bn bc,.bool (kvj v)],.int .i64 0,.int .i64 0])) _ from⟨ea,en,ec,wa,wn,wc,ba,bn,bc,rfl,zu Q (jw aV K (dw.none _) ak),zu Q (jw aW K (dw.none _) ak),zu Q (jw aX K (dw.none _) ak),kz9 aC _ _ _ _ _⟩);have bI:=pG O;clear aV aW aX A aC O K aO;go_wp2
   refine rY (v:=.tuple #[.agg #[.string v.text,.slice ea en ec,.slice wa wn wc,.slice ba bn bc,.bool (kvj v)],.int .i64 0,.int .i64 0]) (um results37 _ _ w.heap.size _ _ _ _ rfl (kjw (ku bI) _ _ _ _ _) underlying24 rfl ah) rfl ?_;exact ku HE
  case pos=>
  obtain⟨g,o,rfl,cA,hc⟩:=ku aI k aU;have e0:R.cell? ⟨g,o+k,none⟩=some (.string ts[k]):=(hb.cell (p:=⟨g,o+k,none⟩) cA).trans hc;rw[rM aU,ku aN]at b;obtain⟨fin,aD,b⟩:=wQ.mp b;have cB:g<R.heap.size:=aj;have B:=pG b;have HB:=pG hb;have a8:=pG J;have bB:=pG I;have b3:=pG aD;have bN:=pG f;have bK:=pG L;generalize ts[k]=s at *;clear hc b hb J I aD f L;go_wp2_with fail
  go_loopw [7,10,11,12,13] (λx d i _ _ G=>∃(j:Nat) (dn:Bool) (V:List (List Int)) (H:List (Nat×Nat)),j<=D.length/\i=.int .i64 j/\d=.bool dn/\StA 0 G x V H/\qko V/\(if dn then fin=some V else x=.slice sa S.length sc/\V=S/\H=gs/\zjy t S (D.drop j) s.toList=some fin)/\pU R G) (λ_ _ i _ _ _=>D.length-(intOf i).toNat)
  case atStart=>exact⟨0,false,S,gs,rW _,rfl,rfl,ku bN,ku bK,⟨rfl,rfl,rfl,ku b3⟩,Below.refl _ _⟩
  case round=>
   obtain⟨G,cE⟩:∃G,G=wr:=⟨_,rfl⟩;subst cE;obtain⟨j,dn,V,H,hj,rfl,rfl,f,L,u,m⟩:=hrel;have cQ:=m.size;obtain⟨xs,cU,ex,_⟩:=ql f.out;subst ex;have M:=pG f;have C:=pG L;have aK:=pG m;have U:=pG ((ku HB).trans (m.mono Q));have Y:=pG ((m.block w.heap.size aR).trans (ku a8));have a6:=pG ((ku bB).below m);have bQ:=(m.cell (p:=⟨g,o+k,none⟩) cB).trans e0;have cM:g<G.heap.size:=aj;clear f L;cases dn
   case true=>
    simp only[if_true]at u;have bJ:=pG (show qkg t (ts.drop (k+1)) (k+1) V=some r by have:=ku B;rw[u]at this;exact this);clear u m B;by_cases a1:j<D.length
    all_goals
     go_wp2
     go_roundw
     case rel=>exact⟨k+1,V,H,aj,eu,ku M,ku C,ku bJ,ku U,ku Y,ku a6⟩
     case measure=>exact qQ
   case false=>
   simp only[wU,if_false]at u;obtain⟨ex,rfl,rfl,z⟩:=u;injection ex with bR bS bT;subst bR;subst bT;clear bS;by_cases a1:j<D.length
   case neg=>
    have aS:j=D.length:=aj;rw[aS,Qd,zjy]at z;injection z with z;subst z;have hE:r=(noView,false,7,(k:Int)):=by
     have:=ku B;injection this with this;exact this.symm
    subst hE;have HE:=pG ((ku bD) G (ku U) (ku Y) 7 k);obtain⟨r0,r1,r2,r3,r4,y0,y1,y2,y3,y4⟩:=jl (ku Y);clear aS m B;go_wp2
    refine rY (v:=.tuple #[.agg #[.string ⟨#[]⟩,.slice none 0 0,.slice none 0 0,.slice none 0 0,.bool false],.int .i64 7,.int .i64 k]) (um results37 _ _ w.heap.size _ _ _ _ rfl (kjw (ku Y) _ _ _ _ _) underlying24 rfl ah) rfl ?_;exact ku HE
   case pos=>
   obtain⟨gl,yc,vp,vg,vb,aa,ac,ey,cL,⟨cJ,e1,e2,e3,e4,e5,e6,e7⟩,aE⟩:=(ku a6).get a1;injection ey with bU bV bW;subst bU;clear bV bW;rw[rM a1,zjy]at z;have cC:=(ku a7) _ (wX a1);generalize D[j]=x at *;go_upto_region 10 with fail
   go_region_held3 (λw'=>w'.cell? ⟨gl,j*8+7,none⟩=some (.string (riT x))/\w'.cell? ⟨g,o+k,none⟩=some (.string s)) (exact⟨e7,bQ⟩) (fail)
   cases aZ:((riT x).toList==s.toList)
   case false=>
    rw[aZ,if_neg au]at z;have HF:=pG z;have bO:=pG ((ku M).below (Below.refl _ _).drew);have bA:=pG ((ku aK).drew);clear z aE m;go_wp2
    go_roundw
    case rel=>exact⟨j+1,false,_,_,aj,eu,rfl,ku bO,ku C,⟨rfl,rfl,rfl,ku HF⟩,ku bA⟩
    case measure=>exact qQ
   case true=>
   rw[aZ,if_pos rfl]at z;obtain⟨⟨q1,q2⟩,hq,z⟩:=wQ.mp z;have HF:=pG z;have bF:=pG (vxb hq);have aL:=pG ((ku b6) G.drew ((ku U).drew) _ _ _ ((ku M).below (Below.refl _ _).drew) (ku C) x _ (aE.below (Below.refl _ _).drew) cC _ hq);clear z aE hq m;go_wp2_with fail
   refine(ku aL).mono ?_;rintro e w5 ⟨yv,bX,rfl,aG,A⟩;have aJ:=pG ((ku aK).drew.trans (A.mono (by show R.heap.size<=G.heap.size;omega)));have bM:=pG ((ku M).below ((Below.refl G.heap.size G).drew.trans A));have b5:=pG aG;clear aG A aL;dsimp only;cases h1:(q1==1)
   case false=>
    have a4:=pG (show zjy t _ (D.drop (j+1)) s.toList=some fin by have:=ku HF;rw[h1]at this;exact this);go_wp2
    go_roundw
    case rel=>exact⟨j+1,false,_,_,aj,eu,rfl,ku bM,ku C,⟨rfl,rfl,rfl,ku a4⟩,ku aJ⟩
    case measure=>exact qQ
   case true=>
    have a4:=pG (show fin=some q2 by have:=ku HF;rw[h1]at this;injection this with this;exact this.symm);go_wp2
    go_roundw
    case rel=>exact⟨j+1,true,q2,bX,aj,eu,rfl,ku b5,(ku C).vyk (ku bF),ku a4,ku aJ⟩
    case measure=>exact qQ
end Go.Proofs.YtpmcnonmkghokaaGreatDoor

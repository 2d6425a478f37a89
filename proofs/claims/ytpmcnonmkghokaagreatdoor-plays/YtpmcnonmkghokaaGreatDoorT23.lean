import Derived.Test.YtpmcnonmkghokaaGreatDoorT22
import Derived.Test.YtpmcnonmkghokaaGreatDoorT04
import Derived.Deep.AppendLies
import Derived.Test.YtpmcnonmkghokaaGreatDoorT18
import Derived.Lib.Builder
import Derived.Lib.AppendStr
import Derived.Lib.UnsafeStr
import Derived.WalkKit
import Derived.Laws.Externs
set_option maxRecDepth 100000
set_option maxHeartbeats 8000000
set_option linter.unusedVariables false
set_option linter.unusedSimpArgs false
namespace Go.Proofs.YtpmcnonmkghokaaGreatDoor
open Go.Proofs.Tryz
open Go.RowKit
attribute [local go_sem ↓] Go.wp_at_zero Go.wp_at_succ
variable {sets st:List Int}{nevers:List MNever}{steps:List MStep}{vars:List MVar}{bs:List Value}{v:MVar}{B M b gcap gg lo n nb size so:Nat}{o:Obj}{nv sv tv vv:Value}{w w' w3 w4:World}{tab:kq1}
abbrev AnS (M b R:Nat)(a x0 x1 x2 x3 y3:Value)(w:World):Prop:=
 w.cell? ⟨M,1,none⟩=some a/\w.cell? ⟨b,0,none⟩=some x0/\w.cell? ⟨b,1,none⟩=some x1/\w.cell? ⟨b,2,none⟩=some x2/\w.cell? ⟨b,3,none⟩=some x3/\w.cell? ⟨R,3,none⟩=some y3
theorem AnS.below {R: Nat}{a x0 x1 x2 x3 y3:Value}   (h:AnS M b R a x0 x1 x2 x3 y3 w)(hb:Below B w w')(hM:M<B)(g:b<B)(i:R<B):AnS M b R a x0 x1 x2 x3 y3 w':=by
 obtain⟨c,s1,d,s3,e,f⟩:=h;exact⟨(hb.cell (p:=⟨M,1,none⟩) ay).trans c,(hb.cell (p:=⟨b,0,none⟩) ay).trans s1,(hb.cell (p:=⟨b,1,none⟩) ay).trans d,(hb.cell (p:=⟨b,2,none⟩) ay).trans s3,(hb.cell (p:=⟨b,3,none⟩) ay).trans e,(hb.cell (p:=⟨R,3,none⟩) ay).trans f⟩
theorem vqi (h:kz8 lo so w M nb steps nevers sets vars tab size sv nv tv vv)   (hb:pU w w3)(b:(w3.alloc o).grownBy w4 nv.ownBlock):w4.heap[M]?=some (.cells #[sv,nv,tv,vv,.map (some nb),.int .i64 size] 105 (0,0)):=by
 have a:(w3.alloc o).heap[M]?=some (.cells #[sv,nv,tv,vv,.map (some nb),.int .i64 size] 105 (0,0)):=zy ((hb.block M (wu h.row)).trans h.row);obtain⟨cs,c,_⟩:=h.nevers;exact(kjk (x:=none) (bad:=[208]) (qj c (hb.alloc hb.size o)) b ak).row a au ak
theorem pz8 (h:kz8 lo so w M nb steps nevers sets vars tab size sv nv tv vv)(s:MNever){cs ds:List Value}(m:w.ownsRow lo 208 5 nv nevers.length cs)(l:qjt 0 so w M nevers cs)  (hb:pU w w3)(y:zw3 0 so w3 M s ds)(x:ds.length=5)
  (i:(w3.alloc (.cells ds.toArray 208)).grownBy w4 nv.ownBlock)  (j:w4.ownsRow lo 208 5 (.slice (some ⟨gg,0,none⟩) (nevers.length+1) gcap) (nevers.length+1) (cs++ds)) (c:lo<=w.heap.size):
  (∃gv gn gc,kz8 lo so (w4.setCell ⟨M,1,none⟩ (.slice (some ⟨gg,0,none⟩) (nevers.length+1) gcap)) M nb steps (nevers++[s]) sets vars tab size sv (.slice gv gn gc) tv vv)/\Tk none [105,208] w (w4.setCell ⟨M,1,none⟩ (.slice (some ⟨gg,0,none⟩) (nevers.length+1) gcap))/\Below lo w (w4.setCell ⟨M,1,none⟩ (.slice (some ⟨gg,0,none⟩) (nevers.length+1) gcap)):=by
 have d:=vqi h hb i;have a:pU w (w3.alloc (.cells ds.toArray 208)):=hb.alloc hb.size _;have f:=qj m a;have k4:Tk none [105,208] (w3.alloc (.cells ds.toArray 208)) w4:=kjk f i ak;have k5:Tk none [105] w4 (w4.setCell ⟨M,1,none⟩ (.slice (some ⟨gg,0,none⟩) (nevers.length+1) gcap)):=kxa d ak 1 _;have g:=k4.trans (k5.wide (by decide:∀e∈[105],e∈[105,208]));have K:=(kqg a none [105,208]).trans g;have b:=dw.none w;obtain⟨B,h1,C,q,⟨c4,t,A⟩,u,k,v⟩:=h;obtain⟨c1,h1,z⟩:=h1;refine⟨⟨_,_,_,⟨(pzs d (.slice (some ⟨gg,0,none⟩) (nevers.length+1) gcap)),⟨c1,jw h1 K b ak,z.tk K b ak ak⟩,⟨cs++ds,?_,?_⟩,jw q K b ak,⟨c4,jw t K b ak,A.tk K b ak⟩,u.tk K au,k,v⟩⟩,K,?_⟩
 ·rw[wY];exact jw j k5 (dw.none _) ak
 ·exact(l.tk K b ak ak).snoc (y.tk ((kqg (below_alloc1 w3 (.cells ds.toArray 208)) none [105,208]).trans g) (dw.none _) ak ak) x
 ·exact(((a.mono c)).grown i (rU c a.size) (xg f)).setCell (p:=⟨M,1,none⟩) k _
theorem zwh (w:World)(lo so M nb:Nat)(steps:List MStep)(nevers:List MNever)(sets:List Int)(vars:List MVar)(tab:kq1)(size:Nat)(sv nv tv vv:Value)(O P Q R T:Option Addr)(n0 n1 n2 n3 n4 c0 c1 c2 c3 c4:Nat)(m:MdL)(a:PRule)(pa s:Option Addr)(pn pc:Nat)(h:kz8 lo so w M nb steps nevers sets vars tab size sv nv tv vv)(hm:kvm so w (.slice O n0 c0) (.slice P n1 c1) (.slice Q n2 c2) (.slice R n3 c3) (.slice T n4 c4) m)(hf:MdFit m)(aQ:a.name.text.size<=1000)
  (hP:w.ownsRow so 352 4 (.slice pa pn pc) a.params.length (xu a.params)) (aS:a.params.length<=1000) (hX:XIs so w a.guard (.pointer s)) (r:List (List Int)) (hr:chO m.sets a.params [[]]=some r) (aR:∀x∈r,qwq x=true) (aT:r.length<=100000) (aZ:nevers.length<=100000) (aP:lo<=w.heap.size):
  qJ 59 #[.pointer (some ⟨M,0,none⟩),mdV O P Q R T n0 n1 n2 n3 n4 c0 c1 c2 c3 c4,.agg #[.string a.name.text,.int .i64 a.name.at_,.slice pa pn pc,.pointer s]] w λe w'=>e=.returned (.tuple #[])/\(∃y gn v,kz8 lo so w' M nb steps (nevers++r.map (λms=>(⟨kkt a.name.text ms,a.params,ms,a.guard⟩:MNever))) sets vars tab size sv (.slice y gn v) tv vv)/\Tk none [105,208] w w'/\Below lo w w':=by
 obtain⟨W,hW⟩:∃W,W=(w.alloc (.cells #[.slice O n0 c0,.slice P n1 c1,.slice Q n2 c2,.slice R n3 c3,.slice T n4 c4] 68)).alloc (.cells #[.string a.name.text,.int .i64 a.name.at_,.slice pa pn pc,.pointer s] 130):=⟨_,rfl⟩;have t:pU w W:=iM;have aU:w.heap.size+1<W.heap.size:=jC;have HN:W.heap[w.heap.size+1]?=some (.cells #[.string a.name.text,.int .i64 a.name.at_,.slice pa pn pc,.pointer s] 130 (0,0)):=by
  rw[hW];have:=qg (w.alloc (.cells #[.slice O n0 c0,.slice P n1 c1,.slice Q n2 c2,.slice R n3 c3,.slice T n4 c4] 68)) (.cells #[.string a.name.text,.int .i64 a.name.at_,.slice pa pn pc,.pointer s] 130);simp only[tJ]at this;exact this
 have J:=qw9 W so so M O P Q R T n0 n1 n2 n3 n4 c0 c1 c2 c3 c4 m (hm.stay λk _ hk=>t.block k hk) hf a.name aQ a.params pa pn pc (qj hP t) aS r hr aR aT;unfold mdV at J |-;go_enter func59,ntmps59
 go_wp2_with fail
 rw[(pG hW.symm)];refine J.mono ?_;rintro e w1 ⟨xa,xn,xc,cs,rfl,f,aG,C⟩;obtain⟨ya,yc,B,HV⟩:=ql f;injection B with B e2 e3;subst B;subst e2;subst e3;have L:=(h.below t).below C;have aH:=qj (qj hP t) C;have aL:=(hX.below t).below C;have a7:=(pG t).trans (C.mono aj);go_wp2_with fail
 go_loopw [7,16] (λ_ i wr=>∃k:Nat,k<=r.length/\i=.int .i64 k/\(∃y gn v,kz8 lo so wr M nb steps (nevers++(r.take k).map (λms=>(⟨kkt a.name.text ms,a.params,ms,a.guard⟩:MNever))) sets vars tab size sv (.slice y gn v) tv vv)/\Tk none [105,208] w1 wr/\Below lo w1 wr) (λ_ i _=>r.length-(intOf i).toNat)
 case atStart=>
  obtain⟨gx,aO⟩:∃gx:List Value,w1.ownsRow lo 208 5 nv nevers.length gx:=by obtain⟨q,hq,_⟩:=L.nevers;exact⟨q,hq⟩
  obtain⟨y,v,e,_⟩:=ql aO;subst e;exact⟨0,rW _,rfl,⟨y,_,v,by simpa using ku L⟩,Tk.refl _ _ _,Below.refl _ _⟩
 case round=>
  obtain⟨k,hk,rfl,⟨va,vn,vc,u⟩,b,hb⟩:=hrel;by_cases X:k<r.length
  ·have f:=jw (pG f) b (dw.none _) ak;obtain⟨yb,yd,B,aD⟩:=ql f;injection B with B e2 e3;subst B;subst e3;obtain⟨g,rfl,aX,aY,V⟩:=aD k X;obtain⟨j,l,mc,ec,a9⟩:=(pG aG).2 k X;obtain⟨s0,s1,s2,s3⟩:=vqf ec;have e0:=(V (k*4) aj).trans s0;have B:=(V (k*4+1) aj).trans s1;have e2:=(V (k*4+2) aj).trans s2;have e3:=(V (k*4+3) aj).trans s3;have aA:=b.row ((C.block _ aU).trans HN) au ak;have aB:=jw aH b (dw.none _) ak;have aE:=aL.tk b (dw.none _) ak;obtain⟨tt,a5⟩:∃tt,tt=kkt a.name.text r[k]:=⟨_,rfl⟩;obtain⟨one,E⟩:∃one:MNever,one=(λms=>(⟨kkt a.name.text ms,a.params,ms,a.guard⟩:MNever)) r[k]:=⟨_,rfl⟩;have aI:zw3 0 so wr M one [.string tt,.pointer (some ⟨M,0,none⟩),.slice pa pn pc,.slice j l mc,.pointer s]:=by rw[E,a5];exact⟨pa,pn,pc,j,l,mc,s,rfl,zu (rW _) aB,zu (rW _) (jw a9 b (dw.none _) ak),aE⟩
   have aJ:=show(nevers++(r.take (k+1)).map (λms=>(⟨kkt a.name.text ms,a.params,ms,a.guard⟩:MNever)))=(nevers++(r.take k).map (λms=>(⟨kkt a.name.text ms,a.params,ms,a.guard⟩:MNever)))++[one] by rw[E,Qx X,Qv,<-sD];rfl
   have b4:(nevers++(r.take k).map (λms=>(⟨kkt a.name.text ms,a.params,ms,a.guard⟩:MNever))).length<=200000:=ay;rw[<-a5]at e0;generalize (nevers++(r.take k).map (λms=>(⟨kkt a.name.text ms,a.params,ms,a.guard⟩:MNever)))=Lx at *;have Y:=u.row;have aM:M<wr.heap.size:=wu Y;obtain⟨m0,m1,m2,m3,m4,m5,f0,f1,f2,f3,f4,f5⟩:=kzb Y;have aN:w.heap.size+1<wr.heap.size:=aj;obtain⟨u0,u1,u2,u3,_⟩:=kk5 aA;have G:pU wr (wr.alloc (.cells #[.string tt,.pointer (some ⟨M,0,none⟩),.slice pa pn pc,.slice j l mc] 176)):=below_alloc1 _ _;have U:(wr.alloc (.cells #[.string tt,.pointer (some ⟨M,0,none⟩),.slice pa pn pc,.slice j l mc] 176)).heap[wr.heap.size]?=some (.cells #[.string tt,.pointer (some ⟨M,0,none⟩),.slice pa pn pc,.slice j l mc] 176 (0,0)):=qg _ _;obtain⟨b0,b1,b2,b3,_⟩:=kk5 U;have F:=show AnS M wr.heap.size (w.heap.size+1) (.slice va vn vc) (.string tt) (.pointer (some ⟨M,0,none⟩)) (.slice pa pn pc) (.slice j l mc) (.pointer s) (wr.alloc (.cells #[.string tt,.pointer (some ⟨M,0,none⟩),.slice pa pn pc,.slice j l mc] 176)).drew from⟨(G.cell (p:=⟨M,1,none⟩) aM).trans m1,b0,b1,b2,b3,(G.cell (p:=⟨w.heap.size+1,3,none⟩) aN).trans u3⟩
   obtain⟨xs,aC,Z⟩:=u.nevers;have a8:=pG aC;have aF:=pG Z;have N:=pG u;have aK:=pG b;have HB:=pG hb;have A:=show pU wr (wr.alloc (.cells #[.string tt,.pointer (some ⟨M,0,none⟩),.slice pa pn pc,.slice j l mc] 176)).drew from G.drew
   generalize r[k]=c at *;clear V a9 ec s0 s1 s2 s3 aD f aA aB aE a5 E u b hb aC Z G U b0 b1 b2 b3 u0 u1 u2 u3 m0 m1 m2 m3 m4 m5 f0 f1 f2 f3 f4 f5 Y;go_upto_region 4 with fail
   refine kz4 (S:=AnS M wr.heap.size (w.heap.size+1) (.slice va vn vc) (.string tt) (.pointer (some ⟨M,0,none⟩)) (.slice pa pn pc) (.slice j l mc) (.pointer s)) (tl:=[10,11,12,13]) ah ?_;refine frS 0 ?_;refine frS 1 ?_;refine frS 2 ?_;refine frS 3 ?_;refine tkS 4 F ?_;refine tkS 5 F ?_;refine frS 6 ?_;refine tkS 7 F ?_;refine frS 8 ?_;refine onS 9 λK z=>?_
   go_simp
   refine z _ _ (F.below (below_alloc1 _ _) (show M<(wr.alloc _).heap.size by simp;omega) (show wr.heap.size<(wr.alloc _).heap.size by simp) (show w.heap.size+1<(wr.alloc _).heap.size by simp;omega)) ?_;refine zje ?_;refine onA 10 λK z=>?_
   refine apL (qj a8 (A.alloc A.size _)) (alloc_at _ _ (wr.heap.size+1) au) ?_ (H:=wr.heap.size+2) (hH:=au);intro gg gcap w4 a6 d aW aV;refine z _ _ ?_;have d:((wr.alloc (.cells #[.string tt,.pointer (some ⟨M,0,none⟩),.slice pa pn pc,.slice j l mc] 176)).drew.alloc (.cells #[.string tt,.pointer (some ⟨M,0,none⟩),.slice pa pn pc,.slice j l mc,.pointer s] 208)).grownBy w4 (Value.slice va vn vc).ownBlock:=d;have m0:=kzb (vqi N A d);have D:=pz8 N one a8 aF A (aI.tk (kqg A none []) (dw.none _) au au) rfl d a6 aj;have I:=show(∃y gn v,kz8 lo so (w4.setCell ⟨M,1,none⟩ (.slice (some ⟨gg,0,none⟩) (Lx.length+1) gcap)) M nb steps (Lx++[one]) sets vars tab size sv (.slice y gn v) tv vv)/\Tk none [105,208] w1 (w4.setCell ⟨M,1,none⟩ (.slice (some ⟨gg,0,none⟩) (Lx.length+1) gcap))/\Below lo w1 (w4.setCell ⟨M,1,none⟩ (.slice (some ⟨gg,0,none⟩) (Lx.length+1) gcap)) from⟨D.1,aK.trans D.2.1,HB.trans D.2.2⟩
   refine onA 11 λK z=>?_
   go_simp
   refine z _ _ ?_;refine onA 12 λK z=>?_
   go_simp
   refine z _ _ ?_;refine onA 13 λK z=>?_
   go_simp
   refine z _ _ ?_;refine wpAny_done ah ?_ _;go_wp2
   go_roundw
   case rel=>exact⟨k+1,aj,eu,by rw[aJ];exact I.1,I.2⟩
   case measure=>exact qQ
  ·have:k=r.length:=by omega
   subst this;rw[QM]at u;go_wp2
   go_end0
   exact⟨rfl,(show(∃y gn v,kz8 lo so wr M nb steps (nevers++r.map (λms=>(⟨kkt a.name.text ms,a.params,ms,a.guard⟩:MNever))) sets vars tab size sv (.slice y gn v) tv vv)/\Tk none [105,208] w wr/\Below lo w wr from⟨⟨va,vn,vc,u⟩,(kqg a7 _ _).trans b,(a7.mono aP).trans hb⟩)⟩
end Go.Proofs.YtpmcnonmkghokaaGreatDoor
namespace Go.Proofs.YtpmcnonmkghokaaGreatDoor
open Go.Proofs.Tryz
open Go.RowKit
variable {sets st:List Int}{nevers:List MNever}{steps:List MStep}{vars:List MVar}{bs:List Value}{v:MVar}{B M b gcap gg lo n nb size so:Nat}{o:Obj}{nv sv tv vv:Value}{w w' w3 w4:World}{tab:kq1}
def zqi (t:kq1)(s:ByteArray)(e:Mean):Option kq1:=if (t.any λx=>x.1.toList==s.toList)||decide (1000<s.size) then none else some (t++[(s,e)])
theorem zyj {t b:kq1}{s:ByteArray}{e:Mean}(h:zqi t s e=some b):b=t++[(s,e)]/\s.size<=1000/\∀x∈t,x.1.toList≠s.toList:=by
 unfold zqi at h;split at h
 ·cases h
 ·rename_i a;injection h with h;rw[Qu,not_or,Jl,sQ]at a;refine⟨h.symm,aj,λx c e=>a.1 ⟨x,c,ng⟩⟩
def zko:List Tok->Nat->kq1->Option kq1
 |[],_,t=>some t
 |x::l,i,t=>(zqi t x.text ⟨false,i⟩).bind λa=>zko l (i+1) a
def qjc:List PKind->kq1->Option kq1
 |[],t=>some t
 |k::ks,t=>(zko k.members 0 t).bind λa=>qjc ks a
def qjn (ss:List PSet)(ks:List PKind):List VrT->Nat->kq1->List MVar->Nat->Option (kq1×List MVar×Nat)
 |[],_,t,vs,sz=>some (t,vs,sz)
 |v::l,i,t,vs,sz=>(zqi t v.name.text ⟨true,i⟩).bind λa=>if sz<=100000/\vs.length<=1000 then (zwm ss ks sz v).bind λu=>qjn ss ks l (i+1) a (vs++[u]) (sz+u.count) else none
def kv3 (r:PRule)(c:List (List Int))(n:Nat):Bool:=c.all qwq&&decide (c.length<=100000)&&decide (n<=100000)&&decide (r.params.length<=1000)&&decide (r.name.text.size<=1000)
theorem qyd {r:PRule}{c:List (List Int)}  (h:kv3 r c n=true):(∀x∈c,qwq x=true)/\c.length<=100000/\n<=100000/\r.params.length<=1000/\r.name.text.size<=1000:=by
 unfold kv3 at h;simp only[wW,sQ]at h;obtain⟨⟨⟨⟨h1,a⟩,b⟩,d⟩,e⟩:=h;exact⟨λx f=>sG.1 h1 x f,a,b,d,e⟩
def qkx (a:PRule):List Int->MStep:=λms=>⟨kkt a.name.text ms,a.params,ms,a.guard,a.body⟩
def qj7 (a:PRule):List Int->MNever:=λms=>⟨kkt a.name.text ms,a.params,ms,a.guard⟩
def kwc (ss:List PSet):List PRule->List MStep->Option (List MStep)
 |[],acc=>some acc
 |r::l,acc=>(chO ss r.params [[]]).bind λc=>if kv3 r c acc.length then kwc ss l (acc++c.map (qkx r)) else none
def kkg (ss:List PSet):List PRule->List MNever->Option (List MNever)
 |[],acc=>some acc
 |r::l,acc=>(chO ss r.params [[]]).bind λc=>if kv3 r c acc.length then kkg ss l (acc++c.map (qj7 r)) else none
structure Mach where
 steps:List MStep
 nevers:List MNever
 sets:List Int
 vars:List MVar
 tab:kq1
 size:Nat
def kxx (l:List PSet):List Int:=l.map λs=>kq8 s.size.text
def vz4 (m:MdL):Option Mach:=(qjc m.kinds []).bind λt=>(qjn m.sets m.kinds m.vars 0 t [] 0).bind λx=>(kwc m.sets m.rules []).bind λst=>(kkg m.sets m.nevers []).map λnv=>⟨st,nv,kxx m.sets,x.2.1,x.1,x.2.2⟩
theorem zxz (h:Kept nb w w')(bad:List Nat):Tk (some nb) bad w w':=
 ⟨h.os,h.tape,h.output,h.size,λk o h1 a _=>by rw[h.block k (wu h1) (λe=>a (by rw[e]))];exact h1⟩
theorem vj4 {b: kq1}   (h:kz8 lo so w M nb steps nevers sets vars tab size sv nv tv vv)(k:Kept nb w w')(l:kk1 w' nb b):kz8 lo so w' M nb steps nevers sets vars b size sv nv tv vv:=by
 have K:=zxz k [];have a:=h.tab.no;obtain⟨c,⟨c1,h1,m⟩,⟨c2,d,p⟩,f,⟨c4,g,q⟩,s,i,j⟩:=h;exact⟨K.row c (λe=>a _ _ _ _ e c) au,⟨c1,jw h1 K a au,m.tk K a au au⟩,⟨c2,jw d K a au,p.tk K a au au⟩,jw f K a au,⟨c4,jw g K a au,q.tk K a au⟩,l,i,j⟩
theorem vq1 (h:kz8 lo so w M nb steps nevers sets vars tab size sv nv tv vv)   (hb:pU w w3)(b:(w3.alloc o).grownBy w4 tv.ownBlock):w4.heap[M]?=some (.cells #[sv,nv,tv,vv,.map (some nb),.int .i64 size] 105 (0,0)):=by
 have a:(w3.alloc o).heap[M]?=some (.cells #[sv,nv,tv,vv,.map (some nb),.int .i64 size] 105 (0,0)):=zy ((hb.block M (wu h.row)).trans h.row);exact(kjk (x:=none) (bad:=[3]) (qj h.sets (hb.alloc hb.size o)) b ak).row a au ak
theorem pj7 (h:kz8 lo so w M nb [] [] sets vars tab size (.slice none 0 0) (.slice none 0 0) tv vv)(d:Int)  (hb:pU w w3)
  (g:(w3.alloc (.cells #[.int .i64 d] 3)).grownBy w4 tv.ownBlock)  (j:w4.ownsRow lo 3 1 (.slice (some ⟨gg,0,none⟩) (sets.length+1) gcap) (sets.length+1) (sets.map (Value.int .i64)++[.int .i64 d])) (b:lo<=w.heap.size):
  (∃gv gn gc,kz8 lo so (w4.setCell ⟨M,2,none⟩ (.slice (some ⟨gg,0,none⟩) (sets.length+1) gcap)) M nb [] [] (sets++[d]) vars tab size (.slice none 0 0) (.slice none 0 0) (.slice gv gn gc) vv)/\Tk none [105,3] w (w4.setCell ⟨M,2,none⟩ (.slice (some ⟨gg,0,none⟩) (sets.length+1) gcap))/\Below lo w (w4.setCell ⟨M,2,none⟩ (.slice (some ⟨gg,0,none⟩) (sets.length+1) gcap)):=by
 have c:=vq1 h hb g;have a:pU w (w3.alloc (.cells #[.int .i64 d] 3)):=hb.alloc hb.size _;have f:=qj h.sets a;have k4:Tk none [105,3] (w3.alloc (.cells #[.int .i64 d] 3)) w4:=kjk f g ak;have k5:Tk none [105] w4 (w4.setCell ⟨M,2,none⟩ (.slice (some ⟨gg,0,none⟩) (sets.length+1) gcap)):=kxa c ak 2 _;have K:=(kqg a none [105,3]).trans (k4.trans (k5.wide (by decide:∀e∈[105],e∈[105,3])));have m:=dw.none w;obtain⟨v,_,_,x,⟨c4,q,u⟩,s,l,t⟩:=h;refine⟨⟨_,_,_,⟨(pzl c (.slice (some ⟨gg,0,none⟩) (sets.length+1) gcap)),⟨[],wB _ _ _ _,rfl,λk i=>by simp at i⟩,⟨[],wB _ _ _ _,rfl,λk i=>by simp at i⟩,?_,⟨c4,jw q K m ak,u.tk K m ak⟩,s.tk K au,l,t⟩⟩,K,?_⟩
 ·rw[wY,Qv];exact jw j k5 (dw.none _) ak
 ·exact(((a.mono b)).grown g (rU b a.size) (xg f)).setCell (p:=⟨M,2,none⟩) l _
def pzr:List Nat:=[105,178,208,213,3]
structure NwI (w W:World)(lo so M nb:Nat)(steps:List MStep)(nevers:List MNever)(sets:List Int)(vars:List MVar)(tab:kq1)(size:Nat)(sv nv tv vv:Value)(wr:World):Prop where
 mc:kz8 lo so wr M nb steps nevers sets vars tab size sv nv tv vv
 tk:Tk (some nb) pzr W wr
 be:Below lo w wr
theorem NwI.below {W: World}         {wr wx:World}(h:NwI w W lo so M nb steps nevers sets vars tab size sv nv tv vv wr)(hb:pU wr wx)(a:lo<=wr.heap.size):NwI w W lo so M nb steps nevers sets vars tab size sv nv tv vv wx:=
 ⟨h.mc.below hb,h.tk.trans (kqg hb _ _),h.be.trans (hb.mono a)⟩
theorem kxq.at_ {lo:Nat}{w:World}:∀{rs:List PRule} {cs:List Value} (i:Nat) (hi:i<rs.length),kxq lo w rs cs ->
  ∃pa pn pc gp ba bn bc bcs,(cs[i*5]?=some (.string (rs[i]).name.text)/\cs[i*5+1]?=some (.int .i64 (rs[i]).name.at_)/\cs[i*5+2]?=some (.slice pa pn pc)/\cs[i*5+3]?=some (.pointer gp)/\cs[i*5+4]?=some (.slice ba bn bc))/\w.ownsRow lo 352 4 (.slice pa pn pc) (rs[i]).params.length (xu (rs[i]).params)/\XIs lo w (rs[i]).guard (.pointer gp)/\w.ownsRow lo 334 9 (.slice ba bn bc) (kq4 (rs[i]).body) bcs/\BIs lo none w (rs[i]).body bcs
 |[],_,i,hi,_=>lW
 |r::rs,cs,0,_,⟨pa,pn,pc,gp,ba,bn,bc,bcs,rest,e,h1,h2,h3,h4,h5⟩=>jD
 |r::rs,cs,i+1,hi,⟨pa,pn,pc,gp,ba,bn,bc,bcs,rest,e,h1,h2,h3,h4,h5⟩=>by
  subst e;obtain⟨a,b,c,d,f,g,h,j,⟨k,l,m,p,q⟩,s,t,u,v⟩:=kxq.at_ i iq h5;refine⟨a,b,c,d,f,g,h,j,⟨?_,?_,?_,?_,?_⟩,s,t,u,v⟩
  ·rw[show(i+1)*5=i*5+5 by omega,rD au];simpa using k
  ·rw[show(i+1)*5+1=i*5+1+5 by omega,rD au];simpa using l
  ·rw[show(i+1)*5+2=i*5+2+5 by omega,rD au];simpa using m
  ·rw[show(i+1)*5+3=i*5+3+5 by omega,rD au];simpa using p
  ·rw[show(i+1)*5+4=i*5+4+5 by omega,rD au];simpa using q
theorem kxj.at_ {lo:Nat}{w:World}:∀{rs:List PRule} {cs:List Value} (i:Nat) (hi:i<rs.length),kxj lo w rs cs ->
  ∃pa pn pc gp,(cs[i*4]?=some (.string (rs[i]).name.text)/\cs[i*4+1]?=some (.int .i64 (rs[i]).name.at_)/\cs[i*4+2]?=some (.slice pa pn pc)/\cs[i*4+3]?=some (.pointer gp))/\w.ownsRow lo 352 4 (.slice pa pn pc) (rs[i]).params.length (xu (rs[i]).params)/\XIs lo w (rs[i]).guard (.pointer gp)
 |[],_,i,hi,_=>lW
 |r::rs,cs,0,_,⟨pa,pn,pc,gp,rest,e,h1,h2,h5⟩=>by subst e;exact⟨pa,pn,pc,gp,⟨rfl,rfl,rfl,rfl⟩,h1,h2⟩
 |r::rs,cs,i+1,hi,⟨pa,pn,pc,gp,rest,e,h1,h2,h5⟩=>by
  subst e;obtain⟨a,b,c,d,⟨f,g,h,j⟩,k,l⟩:=kxj.at_ i iq h5;refine⟨a,b,c,d,⟨?_,?_,?_,?_⟩,k,l⟩
  ·rw[show(i+1)*4=i*4+4 by omega,rD au];simpa using f
  ·rw[show(i+1)*4+1=i*4+1+4 by omega,rD au];simpa using g
  ·rw[show(i+1)*4+2=i*4+2+4 by omega,rD au];simpa using h
  ·rw[show(i+1)*4+3=i*4+3+4 by omega,rD au];simpa using j
end Go.Proofs.YtpmcnonmkghokaaGreatDoor
namespace Go.Proofs.YtpmcnonmkghokaaGreatDoor
open Go.Proofs.Tryz
open Go.RowKit
attribute [local go_sem ↓] Go.wp_at_zero Go.wp_at_succ
variable {sets st:List Int}{nevers:List MNever}{steps:List MStep}{vars:List MVar}{bs:List Value}{v:MVar}{B M b gcap gg lo n nb size so:Nat}{o:Obj}{nv sv tv vv:Value}{w w' w3 w4:World}{tab:kq1}
theorem jj3 (w:World)(b j:Nat)(v:Value)(bad:List Nat):Tk (some b) bad w (w.setCell ⟨b,j,none⟩ v):=
 ⟨rfl,rfl,rfl,by simp[World.setCell],λi o h1 c _=>by
  rw[wP _ _ _ _ (λa=>c (by rw[a]))];exact h1⟩
theorem infoBld:(prog.info? 305).map (·.size)=some 2:=ah
theorem infoByte:(prog.info? 5).map (λi=>(i.zero,i.size,i.bytes))=some (some (.int .u8 0),1,1):=ah
theorem Tryz.liesBld:liesAt prog prog.depth 305 (2 / prog.cellsOf 305) 0 305 1=true:=ah
theorem Tryz.cellsByte:prog.cellsOf 5=1:=ah
theorem zvp (b:Nat)(w:World)(c:w.cell? ⟨b,0,none⟩=some (.pointer (some ⟨b,0,none⟩))):
  qJ 219 #[.pointer (some ⟨b,0,none⟩)] w λe w'=>e=.returned (.tuple #[])/\w'=w:=by
 obtain⟨j,a,_⟩:=rJ.1 infoBld;go_enter func219,ntmps219
 go_wp2
 rw[Lib.run_neq_ptr_same w _ underlying303 a];go_wp2
 go_end0
 exact⟨rfl,rfl⟩
theorem zze (b:Nat)(w:World)(g:w.cell? ⟨b,0,none⟩=some (.pointer none))(a:w.shape? b=some (305,2))(f:w.frozen? ⟨b,0,none⟩=false):
  qJ 219 #[.pointer (some ⟨b,0,none⟩)] w λe w'=>e=.returned (.tuple #[])/\w'=w.setCell ⟨b,0,none⟩ (.pointer (some ⟨b,0,none⟩)):=by
 obtain⟨j,c,d⟩:=rJ.1 infoBld;go_enter func219,ntmps219
 go_wp2
 rw[Lib.run_to_unsafe w ⟨b,0,none⟩ underlying303 underlying389 c (by rw[d];decide) a (Nat.zero_lt_succ 1)];simp only[Result.andThen];rw[Oper.upon_value];go_wp2
 rw[run_callFunc_extern func248 ah ah ah (e:=Extern.AbiNoEscape.same) ah];rw[Lib.run_noEscape];simp only[Result.andThen];rw[Oper.upon_value];go_wp2
 rw[Lib.run_from_unsafe w ⟨b,0,none⟩ underlying389 underlying303 c a Tryz.liesBld];simp only[Result.andThen];rw[Oper.upon_value];go_wp2
 go_end0
 exact⟨rfl,rfl⟩
theorem qwz (B b:Nat)(bs:List Value)(w:World)(h:Lib.IsBuilder 305 5 B b bs w):
  qJ 219 #[.pointer (some ⟨b,0,none⟩)] w λe w'=>e=.returned (.tuple #[])/\(Lib.BuilderAt 305 5 B b (.pointer (some ⟨b,0,none⟩)) bs w'/\Below B w w'/\Tk (some b) [5] w w'):=by
 rcases h with h|h
 ·refine(zze b w h.cell0 h.shape h.frozen0).mono ?_;rintro e w' ⟨rfl,rfl⟩;exact⟨rfl,h.used _,(Below.refl B w).setCell (p:=⟨b,0,none⟩) h.1 _,jj3 _ _ _ _ _⟩
 ·refine(zvp b w h.cell0).mono ?_;rintro e w' ⟨rfl,rfl⟩;exact⟨rfl,h,Below.refl B _,Tk.refl _ _ _⟩
theorem ky4 (B b:Nat)(bs:List Value)(c:Int)(w:World)(h:Lib.IsBuilder 305 5 B b bs w)(I:bs.length+1<=140737488355328)(N:B<=w.heap.size):
  qJ 164 #[.pointer (some ⟨b,0,none⟩),.int .u8 c] w λe w'=>e=.returned .nilIface/\(Lib.BuilderAt 305 5 B b (.pointer (some ⟨b,0,none⟩)) (bs++[.int .u8 c]) w'/\Below B w w'/\Tk (some b) [5] w w'):=by
 obtain⟨K,hi,E,F,G⟩:=info_parts infoByte;go_enter func164,ntmps164
 go_wp2_with fail
 refine(qwz B b bs _ h).mono ?_;rintro e q ⟨rfl,h1,f,z⟩;obtain⟨y,v,l,d,C⟩:=h1;have c0:q.cell? ⟨b,0,none⟩=some (.pointer (some ⟨b,0,none⟩)):=by rw[Lib.cell_of_heap l];rfl
 have c1:q.cell? ⟨b,1,none⟩=some v:=by rw[Lib.cell_of_heap l];rfl
 go_wp2_with (at_builtin;refine wpList_append_own _ rfl _ _ 83 rfl B 5 K (.int .u8 0) 1 1 underlying83 hi E F G rfl ak _ _ _ rfl (d.alloc _) ⟨q.heap.size,0,none⟩ 1 1 [.int .u8 c] rfl rfl ?c1 ?c2 ?c3 ?c4 ?c5 ?_)
 case c1=>
  intro j u s;match j,s with
  |0,s=>simp at s;subst s;simp[Addr.add]
 case c2=>intro u D;simp at D;subst D;rfl
 case c3=>unfold maxLen;omega
 case c4=>omega
 case c5=>have:=f.size;simp;omega
 intro L t m a _;have A:b<q.heap.size:=by
  rcases Q8 b q.heap.size with x|x
  ·exact x
  ·simp[Jq x]at l
 have i:t.heap[b]?=some (.cells #[.pointer (some ⟨b,0,none⟩),v] 305 (0,0)):=by
  rw[a.block b ay (λe=>C e.symm),Lib.alloc_old q _ b A];exact l
 have O:t.cell? ⟨b,0,none⟩=some (.pointer (some ⟨b,0,none⟩)):=by rw[Lib.cell_of_heap i];rfl
 have d1:t.cell? ⟨b,1,none⟩=some v:=by rw[Lib.cell_of_heap i];rfl
 have f1:t.frozen? ⟨b,1,none⟩=false:=Lib.frozen_of_heap i 1;obtain⟨g,cap,rfl⟩:∃g cap,L=.slice (some ⟨g,0,none⟩) (bs.length+1) cap:=by
  rcases m.2 with⟨_,P⟩|⟨g,cap,M,J,_⟩
  ·omega
  ·exact⟨g,cap,J⟩
 go_wp2
 go_ret
 refine⟨rfl,?_,?_,((z.alloc _).trans (kjk (d.alloc _) a ak)).trans (jj3 _ _ _ _ _)⟩
 ·exact Lib.BuilderAt.put (T:=305) (e:=5) y i (bs':=bs++[.int .u8 c]) (by simpa using m) ak
 ·exact((f.alloc (by have:=f.size;omega) _).grown a (by have:=f.size;simp;omega) (λk H=>(d.lt k H).1)).setCell (p:=⟨b,1,none⟩) y _
theorem qxb (B b:Nat)(bs:List Value)(s:ByteArray)(w:World)(h:Lib.IsBuilder 305 5 B b bs w)(H:bs.length+s.size<=140737488355328)(L:B<=w.heap.size):
  qJ 220 #[.pointer (some ⟨b,0,none⟩),.string s] w λe w'=>e=.returned (.tuple #[.int .i64 s.size,.nilIface])/\(Lib.BuilderAt 305 5 B b (.pointer (some ⟨b,0,none⟩)) (bs++Lib.strCells s) w'/\Below B w w'/\Tk (some b) [5] w w'):=by
 obtain⟨I,hi,C,D,E⟩:=info_parts infoByte;go_enter func220,ntmps220
 go_wp2_with fail
 refine(qwz B b bs _ h).mono ?_;rintro e l ⟨rfl,h1,j,y⟩;obtain⟨x,v,f,c,A⟩:=h1;have c0:l.cell? ⟨b,0,none⟩=some (.pointer (some ⟨b,0,none⟩)):=by rw[Lib.cell_of_heap f];rfl
 have c1:l.cell? ⟨b,1,none⟩=some v:=by rw[Lib.cell_of_heap f];rfl
 go_wp2_with (at_builtin;refine Lib.wpList_append_own_string _ rfl _ _ 83 9 rfl B 5 I underlying83 underlying9 hi C D E _ _ _ rfl c s rfl ?c3 ?c4 ?c5 ?_)
 case c3=>unfold maxLen;omega
 case c4=>omega
 case c5=>have:=j.size;omega
 intro J m i a _;have z:b<l.heap.size:=by
  rcases Q8 b l.heap.size with q|q
  ·exact q
  ·simp[Jq q]at f
 have d:m.heap[b]?=some (.cells #[.pointer (some ⟨b,0,none⟩),v] 305 (0,0)):=by
  rw[a.block b z (λe=>A e.symm)];exact f
 have M:m.cell? ⟨b,0,none⟩=some (.pointer (some ⟨b,0,none⟩)):=by rw[Lib.cell_of_heap d];rfl
 have d1:m.cell? ⟨b,1,none⟩=some v:=by rw[Lib.cell_of_heap d];rfl
 have f1:m.frozen? ⟨b,1,none⟩=false:=Lib.frozen_of_heap d 1;obtain⟨u,F,cap,rfl⟩:∃u F cap,J=.slice u F cap:=by
  rcases i.2 with⟨t,_⟩|⟨g,cap,K,t,_⟩
  ·exact⟨_,_,_,t⟩
  ·exact⟨_,_,_,t⟩
 go_wp2
 go_ret2
 refine⟨rfl,?_,?_,(y.trans (kjk c a ak)).trans (jj3 _ _ _ _ _)⟩
 ·exact Lib.BuilderAt.put (T:=305) (e:=5) x d (bs':=bs++Lib.strCells s) (by simpa[Lib.strCells_length] using i) ak
 ·exact(j.grown a (by have:=j.size;omega) (λk G=>(c.lt k G).1)).setCell (p:=⟨b,1,none⟩) x _
theorem zwb (B b:Nat)(l:List UInt8)(w:World)(h:Lib.IsBuilder 305 5 B b (Lib.byteCells l) w)(d:l≠[]):
  qJ 166 #[.pointer (some ⟨b,0,none⟩)] w λe w'=>e=.returned (.string ⟨l.toArray⟩)/\Below B w w':=by
 obtain⟨p,G,v,i,c,F⟩:∃p,Lib.BuilderAt 305 5 B b p (Lib.byteCells l) w:=by
  rcases h with h|h
  ·exact⟨_,h⟩
  ·exact⟨_,h⟩
 have q:l.length≠0:=ni;rw[Lib.byteCells_length]at c;obtain⟨g,cap,a,rfl,f,t,E,k,D,s⟩:∃g cap a,v=.slice (some ⟨g,0,none⟩) l.length cap/\B<=g/\w.heap[g]?=some (.cells a 5 (0,0))/\l.length<=cap/\cap<=maxLen/\a.size=cap*1/\a.toList.take (l.length*1)=Lib.byteCells l:=by
  rcases c.2 with⟨_,z⟩|⟨g,cap,a,u,r⟩
  ·exact absurd z q
  ·exact⟨g,cap,a,u,r⟩
 have c1:w.drew.cell? ⟨b,1,none⟩=some (.slice (some ⟨g,0,none⟩) l.length cap):=by
  have:w.drew.heap[b]?=some (.cells #[p,.slice (some ⟨g,0,none⟩) l.length cap] 305 (0,0)):=i;rw[Lib.cell_of_heap this];rfl
 have A:(Builtin.unsafeSliceData_ #[83] 367 #[.slice (some ⟨g,0,none⟩) l.length cap]).run prog w.drew=.ok (.pointer (some ⟨g,0,none⟩)) w.drew:=
  Lib.run_unsafeSliceData_row _ _ _ _ _ _ aj
 have C:(Builtin.unsafeString_ #[367,3] 9 #[.pointer (some ⟨g,0,none⟩),.int .i64 l.length]).run prog w.drew=.ok (.string ⟨l.toArray⟩) (w.drew.freeze ⟨g,0,none⟩ l.length):=by
  refine Lib.run_unsafeString_row w.drew 367 3 9 5 underlying367 Tryz.cellsByte g a.size (by have m:w.drew.heap[g]?=some (.cells a 5 (0,0)):=t;simp[World.shape?,m]) l d aj (by unfold maxLen at k;omega) ?_;intro j x y;have:=c.cells (g:=g) rfl j (.int .u8 x.toNat) (by simp[Lib.byteCells,y]);exact this
 go_enter func166,ntmps166
 go_wp2
 go_region
 all_goals (go_wp2;go_ret;exact⟨rfl,Lib.below_freeze (Below.drew (Below.refl B w)) (p:=⟨g,0,none⟩) f _⟩)
theorem jqc (h:Lib.IsBuilder 305 5 B b bs w)(hb:pU w w'):Lib.IsBuilder 305 5 B b bs w':=by
 have a:∀p,Lib.BuilderAt 305 5 B b p bs w->Lib.BuilderAt 305 5 B b p bs w':=λp ⟨e,v,h1,c,d⟩=>⟨e,v,(hb.block b (wu h1)).trans h1,qj c hb,d⟩
 rcases h with h|h
 ·exact Or.inl (a _ h)
 ·exact Or.inr (a _ h)
theorem vvi (h:Lib.IsBuilder 305 5 B b bs w):b<w.heap.size/\B<=b:=by
 rcases h with h|h
 ·exact⟨h.lt,h.1⟩
 ·exact⟨h.lt,h.1⟩
def jzm (v:MVar)(st:List Int)(i:Nat):Option ByteArray:=(st[i]?).bind λx=>if 0<=x then v.texts[x.toNat]? else none
theorem qv2 {i:Nat}{t:ByteArray}(h:jzm v st i=some t):∃n:Nat,st[i]?=some (n:Int)/\v.texts[n]?=some t:=by
 unfold jzm at h;obtain⟨x,h1,a⟩:=wQ.mp h;by_cases b:0<=x
 ·rw[if_pos b]at a;exact⟨x.toNat,by rw[Z5 b];exact h1,a⟩
 ·rw[if_neg b]at a;cases a
def kk4 (n:Nat):List UInt8:=if 0<n then [32] else []
def zqx (v:MVar)(st:List Int):Nat->Option (List UInt8)
 |0=>some []
 |n+1=>(zqx v st n).bind λl=>(jzm v st (v.first+n)).bind λt=>if (l++kk4 n++t.data.toList).length<=1000000 then some (l++kk4 n++t.data.toList) else none
def jz9 (v:MVar)(st:List Int):Option (List UInt8):=if v.over==-1 then (jzm v st v.first).bind λt=>if t.size<=1000000 then some t.data.toList else none else (zqx v st v.count).map λl=>91::(l++[93])
theorem qk1 (s:ByteArray):Lib.strCells s=Lib.byteCells s.data.toList:=rfl
theorem kxs (a b:List UInt8):Lib.byteCells (a++b)=Lib.byteCells a++Lib.byteCells b:=by simp[Lib.byteCells]
theorem jjo {v:MVar}{st:List Int}:∀(n k:Nat),k<=n->∀r,zqx v st n=some r->∃l,zqx v st k=some l/\l.length<=1000000
 |n,k,hk,r,h=>by
  by_cases e:k=n
  ·subst e;refine⟨r,h,?_⟩;cases k with
   |zero=>rw[zqx]at h;injection h with h;subst h;simp
   |succ k=>
    rw[zqx]at h;obtain⟨l,h1,c⟩:=wQ.mp h;obtain⟨t,d,a⟩:=wQ.mp c;by_cases b:(l++kk4 k++t.data.toList).length<=1000000
    ·rw[if_pos b]at a;injection a with a;subst a;exact b
    ·rw[if_neg b]at a;cases a
  ·cases n with
   |zero=>omega
   |succ n=>
    rw[zqx]at h;obtain⟨l,h1,_⟩:=wQ.mp h;exact jjo n k aj l h1
abbrev WrS (X a b i n:Nat)(tv:Value)(f:Nat)(t:ByteArray)(w:World):Prop:=w.cell? ⟨X,0,none⟩=some (.int .i64 f)/\w.cell? ⟨X,2,none⟩=some tv/\w.cell? ⟨a,i,none⟩=some (.int .u8 n)/\w.cell? ⟨b,n,none⟩=some (.string t)
theorem jj7 {e: Nat}{a:Option Addr}{c: Nat}{xs:List Value}(h:w.ownsRow lo e 1 (.slice a n c) n xs)(hb:Below B w w')(f:∀q,a=some q->q.block<B)(i:Nat)(hi:i<n){x:Value}(k:xs[i]?=some x):∃g,a=some ⟨g,0,none⟩/\g<B/\w'.cell? ⟨g,i,none⟩=some x:=by
 obtain⟨a',l,e,j⟩:=ql h;injection e with b _ _;subst b;obtain⟨g,rfl,_,_,d⟩:=j i hi;have:=f _ rfl;exact⟨g,rfl,this,by rw[hb.cell (p:=⟨g,i,none⟩) this,d i aj];exact k⟩
theorem write_any (w:World)(B b lo:Nat)(v:MVar)(st:List Int)(Q sa:Option Addr)(A sn sc:Nat)(a r:List UInt8)(hB:Lib.IsBuilder 305 5 B b (Lib.byteCells a) w)(hT:w.ownsRow lo 9 1 (.slice Q v.texts.length A) v.texts.length (v.texts.map Value.string))(hS:w.ownsRow lo 5 1 (.slice sa sn sc) st.length (st.map (Value.int .u8)))
  (a7:B<=w.heap.size) (aE:∀q,Q=some q->q.block<B) (aC:∀q,sa=some q->q.block<B) (bG:a.length<=10000000) (bF:v.first<=1000000) (bD:v.count<=1000000) (bK:st.length<=1000000) (bL:v.texts.length<=1000000) (f:jz9 v st=some r):
  qJ 165 #[.agg #[.int .i64 v.first,.int .i64 v.count,.slice Q v.texts.length A,.int .i64 v.over,.int .i64 v.of_],.pointer (some ⟨b,0,none⟩),.slice sa sn sc] w λe w'=>e=.returned (.tuple #[])/\Lib.IsBuilder 305 5 B b (Lib.byteCells (a++r)) w'/\Below B w w':=by
 obtain⟨za,zc,ez,_⟩:=ql hS;injection ez with aS aT aU;subst aS;subst aT;subst aU;obtain⟨bC,bB⟩:=vvi hB;obtain⟨W,O⟩:∃W,W=w.alloc (.cells #[.int .i64 v.first,.int .i64 v.count,.slice Q v.texts.length A,.int .i64 v.over,.int .i64 v.of_] 213):=⟨_,rfl⟩;have y:pU w W:=by rw[O];exact below_alloc1 w _
 have bJ:w.heap.size<W.heap.size:=by rw[O];simp
 have hX:W.heap[w.heap.size]?=some (.cells #[.int .i64 v.first,.int .i64 v.count,.slice Q v.texts.length A,.int .i64 v.over,.int .i64 v.of_] 213 (0,0)):=by rw[O];exact qg _ _
 have V:=pG (jqc hB y);have a5:=pG (qj hT y);have a4:=pG (qj hS y);have HX:=pG hX;have a6:=pG O.symm;have a3:=pG y;have G:b≠w.heap.size:=aj;unfold jz9 at f;cases ho:(v.over==-1)
 case true=>
  rw[ho,if_pos rfl]at f;obtain⟨t,ht,f⟩:=wQ.mp f;have aD:t.size<=1000000:=by
   apply tK;intro hc;rw[if_neg hc]at f;cases f
  rw[if_pos aD]at f;injection f with f;subst f;obtain⟨n,j,m⟩:=qv2 ht;have a1:v.first<st.length:=by have:=tZ.mp j;exact this.1
  have a2:n<v.texts.length:=by have:=tZ.mp m;exact this.1
  obtain⟨sg,rfl,aY,es⟩:=jj7 (ku a4) (Below.refl B W) aC v.first a1 (x:=.int .u8 n) (by rw[QV,j];rfl);obtain⟨C,rfl,aZ,Y⟩:=jj7 (ku a5) (Below.refl B W) aE n a2 (x:=.string t) (by rw[QV,m];rfl);obtain⟨x0,x1,x2,x3,x4,_⟩:=jl hX;have d:=pG (show WrS w.heap.size sg C v.first n (.slice (some ⟨C,0,none⟩) v.texts.length A) v.first t W.drew from⟨x0,x2,es,Y⟩);have I:=pG (qxb B b (Lib.byteCells a) t W.drew (ku V) ny (by show B<=W.heap.size;omega));clear hB hT hS y hX O j m ht es Y x0 x1 x2 x4;go_enter func165,ntmps165
  go_upto_region 2 with fail
  rw[ku a6];refine kz4 (S:=WrS w.heap.size sg C v.first n (.slice (some ⟨C,0,none⟩) v.texts.length A) v.first t) (tl:=[10]) ah ?_;refine frS 0 ?_;refine frS 1 ?_;refine tkS 2 (ku d) ?_;refine frS 3 ?_;refine frS 4 ?_;refine tkS 5 (ku d) ?_;refine frS 6 ?_;refine tkS 7 (ku d) ?_;refine frS 8 ?_;refine tkS 9 (ku d) ?_;refine zje ?_;refine onA 10 λK hK=>?_
  go_simp
  go_at_call 220
  refine(ku I).mono ?_;rintro e R ⟨rfl,h1,s,J⟩;have HE:=pG (show Lib.IsBuilder 305 5 B b (Lib.byteCells (a++t.data.toList)) R/\Below B w R from⟨Or.inr (by rw[kxs,<-qk1];exact h1),((ku a3).mono a7).trans (show Below B W R from((Below.refl B W).drew).trans s)⟩);clear h1 s J;dsimp only;refine hK _ _ ?_;clear hK K;refine wpAny_done ah ?_ _;go_wp2
  first
   |(go_end0;exact⟨rfl,ku HE⟩)
   |(refine rY (results_none rfl _ _ _) rfl ?_;exact⟨rfl,ku HE⟩)
 case false=>
  rw[ho,if_neg au]at f;obtain⟨ra,aB,rfl⟩:=rJ.mp f;have X:=pG aB;have I:=pG (ky4 B b (Lib.byteCells a) 91 W (ku V) ny aj);clear hB hT hS y hX O f aB;go_enter func165,ntmps165
  go_wp2_with fail
  rw[ku a6];refine(ku I).mono ?_;rintro e R ⟨rfl,h1,s,J⟩;have M:=J.row (ku HX) lV ak;obtain⟨x0,x1,x2,x3,x4,_⟩:=jl M;have aO:=pG M;have E:=wu M;have aK:=pG (show Lib.IsBuilder 305 5 B b (Lib.byteCells (a++[91])) R from Or.inr (by rw[kxs];exact h1));have aI:=pG (show Below B W R from s);have bI:=s.size;clear h1 s J M I;go_wp2_with fail
  go_loopw [6,25] (λ_ i wr=>∃(k:Nat) (l:List UInt8),k<=v.count/\i=.int .i64 k/\zqx v st k=some l/\Lib.IsBuilder 305 5 B b (Lib.byteCells ((a++[91])++l)) wr/\Below B W wr/\wr.heap[w.heap.size]?=some (.cells #[.int .i64 v.first,.int .i64 v.count,.slice Q v.texts.length A,.int .i64 v.over,.int .i64 v.of_] 213 (0,0))) (λ_ i _=>v.count-(intOf i).toNat)
  case atStart=>exact⟨0,[],rW _,rfl,rfl,by rw[Qg];exact ku aK,ku aI,ku aO⟩
  case round=>
   obtain⟨k,l,hk,rfl,p,h,hb,P⟩:=hrel;obtain⟨_,E,bH⟩:=jjo v.count k hk ra (ku X);rw[p]at E;injection E with E;subst E;have aD:=hb.size;by_cases aW:k<v.count
   ·obtain⟨l2,z,b8⟩:=jjo v.count (k+1) aW ra (ku X);have aH:=pG z;rw[zqx,p]at z;change (jzm v st (v.first+k)).bind _=_ at z
    obtain⟨t,ht,g⟩:=wQ.mp z;have a0:(l++kk4 k++t.data.toList).length<=1000000:=by
     apply tK;intro hc;rw[if_neg hc]at g;cases g
    rw[if_pos a0]at g;injection g with g;obtain⟨n,j,m⟩:=qv2 ht;have a1:v.first+k<st.length:=by have:=tZ.mp j;exact this.1
    have a2:n<v.texts.length:=by have:=tZ.mp m;exact this.1
    have b9:t.size<=1000000:=by
     have hd:t.size=t.data.toList.length:=by rw[Jr];rfl
     rw[wY]at a0;omega
    have b5:(0:Int)<=(v.first:Int)+k:=aj;have b6:(v.first:Int)+k<st.length:=aj;have b7:((v.first:Int)+k).toNat=v.first+k:=aj;have b4:IntKind.i64.wrap ((v.first:Int)+k)=(v.first:Int)+k:=lU;have bA:=pG h;have aP:=pG P;have T:=pG hb;have aL:=pG g;have bM:=wu P;have aN:=pG (λ(wx:World) (q:List UInt8) (hq:q.length<=20000000) (hi:Lib.IsBuilder 305 5 B b (Lib.byteCells q) wx) (hs:B<=wx.heap.size)=>qxb B b (Lib.byteCells q) t wx hi ny hs);by_cases a9:0<k
    case' pos=>
     have D:=pG (ky4 B b (Lib.byteCells ((a++[91])++l)) 32 wr h (by rw[Lib.byteCells_length];simp;omega) aj);clear h P hb z g;go_wp2_with fail
     refine(ku D).mono ?_;rintro e c ⟨rfl,Z,u,L⟩;have N:=L.row (ku aP) lV ak;have F:=pG (show kk4 k=[32] from if_pos a9);have aX:=u.size;have U:=pG (show Lib.IsBuilder 305 5 B b (Lib.byteCells ((a++[91])++(l++kk4 k))) c from Or.inr (by rw[ku F,<-sD,kxs];exact Z));have H:=pG ((ku T).trans u);clear Z u L D
    case' neg=>
     obtain⟨c,b2⟩:∃c,c=wr:=⟨_,rfl⟩;subst b2;have N:=P;have aX:=wJ c.heap.size;have F:=pG (show kk4 k=[] from if_neg a9);have U:=pG (show Lib.IsBuilder 305 5 B b (Lib.byteCells ((a++[91])++(l++kk4 k))) c from by rw[ku F,Qg];exact h);have H:=pG hb;clear h P hb z g
    all_goals
     obtain⟨sg,rfl,aY,es⟩:=jj7 (ku a4) (ku H) aC (v.first+k) a1 (x:=.int .u8 n) (by rw[QV,j];rfl);obtain⟨C,rfl,aZ,Y⟩:=jj7 (ku a5) (ku H) aE n a2 (x:=.string t) (by rw[QV,m];rfl);obtain⟨x0,x1,x2,x3,x4,_⟩:=jl N;have d:=pG (show WrS w.heap.size sg C (v.first+k) n (.slice (some ⟨C,0,none⟩) v.texts.length A) v.first t c.drew from⟨x0,x2,es,Y⟩);have b3:(l++kk4 k).length<=1000000:=by rw[wY]at a0;omega
     have aM:=pG ((ku aN) c.drew ((a++[91])++(l++kk4 k)) (by rw[wY,wY];simp only[JB];omega) (ku U) (by show B<=c.heap.size;omega));have aR:=pG N;clear es Y x0 x1 x2 x3 x4 N j m ht;go_upto_region 9 with fail
     refine kz4 (S:=WrS w.heap.size sg C (v.first+k) n (.slice (some ⟨C,0,none⟩) v.texts.length A) v.first t) (tl:=[12]) ah ?_;refine frS 0 ?_;refine frS 1 ?_;refine tkS 2 (ku d) ?_;refine frS 3 ?_;refine frS 4 ?_;refine tkS 5 (ku d) ?_;refine frS 6 ?_;refine frS 7 ?_;refine frS 8 ?_;refine tkS 9 (ku d) ?_;refine frS 10 ?_;refine tkS 11 (ku d) ?_;refine zje ?_;refine onA 12 λK hK=>?_
     go_simp
     go_at_call 220
     refine(ku aM).mono ?_;rintro e w8 ⟨rfl,h8,a8,aA⟩;have aQ:=pG (aA.row (show c.drew.heap[w.heap.size]?=_ from ku aR) lV ak);have aG:=pG (show Lib.IsBuilder 305 5 B b (Lib.byteCells ((a++[91])++l2)) w8 from Or.inr (by rw[<-ku aL,<-sD,kxs,<-qk1];exact h8));have aJ:=pG ((ku H).trans (show Below B c w8 from((Below.refl B c).drew).trans a8));clear h8 a8 aA;dsimp only;refine hK _ _ ?_;clear hK K;refine wpAny_done ah ?_ _;go_wp2
     go_roundw
     case rel=>exact⟨k+1,l2,aj,eu,ku aH,ku aG,ku aJ,ku aQ⟩
     case measure=>exact qQ
   ·have aV:k=v.count:=by omega
    have aF:=pG (show l=ra by rw[aV,ku X]at p;injection p with p;exact p.symm);have D:=pG (ky4 B b (Lib.byteCells ((a++[91])++l)) 93 wr h (by rw[Lib.byteCells_length];simp;omega) aj);have T:=pG hb;clear h P hb;go_wp2_with fail
    refine(ku D).mono ?_;rintro e c ⟨rfl,Z,u,L⟩;have HE:=pG (show Lib.IsBuilder 305 5 B b (Lib.byteCells (a++91::(ra++[93]))) c/\Below B w c from⟨Or.inr (by
     have e:a++91::(ra++[93])=((a++[91])++l)++[93]:=by rw[ku aF];simp
     rw[e,kxs];exact Z),((ku a3).mono a7).trans ((ku T).trans u)⟩)
    clear Z u L D;go_wp2
    go_end0
    exact⟨rfl,ku HE⟩
end Go.Proofs.YtpmcnonmkghokaaGreatDoor

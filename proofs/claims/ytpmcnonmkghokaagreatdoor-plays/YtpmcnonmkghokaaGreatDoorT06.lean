import Derived.Test.YtpmcnonmkghokaaGreatDoorT05
import Derived.Maps.AppendAt
import Derived.Test.YtpmcnonmkghokaaGreatDoorT04
import Derived.Test.YtpmcnonmkghokaaGreatDoorT03
set_option maxRecDepth 100000
set_option maxHeartbeats 4000000
set_option linter.unusedVariables false
set_option linter.unusedSimpArgs false
namespace Go.Proofs.YtpmcnonmkghokaaGreatDoor
open Go.Proofs.Tryz
open Go.RowKit
variable {acc:List PP}{L:List Tok}{l:List UInt8}{P f g j lo:Nat}{x:PX}{fin:PX×RS}{s st:RS}{v va vb:Value}{w w':World}
def kzj (p:PP):List Value:=[.string p.name.text,.int .i64 p.name.at_,.string p.set_.text,.int .i64 p.set_.at_]
def xu (l:List PP):List Value:=l.flatMap kzj
theorem zwg (l:List PP)(p:PP):xu (l++[p])=xu l++kzj p:=by simp[xu]
theorem zzj (p:PP):∀u∈kzj p,u.oneCell'=true:=by
 intro u h;simp only[kzj,sW,Qa,or_false]at h;rcases h with rfl|rfl|rfl|rfl<;>rfl
theorem infoPa:(prog.info? 352).map (λi=>(i.zero,i.size,i.bytes))=some (some (.agg #[.string ⟨#[]⟩,.int .i64 0,.string ⟨#[]⟩,.int .i64 0]),4,48):=ah
theorem kqp {s:List UInt8}  (h:st.bad=true):qy L s st=st:=by
 unfold qy;rw[kq7 h];simp only[Jc,Q9,if_true];cases st;simp_all
theorem kjs {s:List UInt8}  (h:st.bad=true):(qm L s st).2=st:=by
 unfold qm kqc;rw[h];simp only[Jt,Ql,wU,if_false];cases st;simp_all
theorem zy8 (h:st.bad=true):(rPP L st).2=st:=by
 show(qm L _ (qy L [58] (qm L _ st).2)).2=st;rw[kjs h,kqp h,kjs h]
def zw2 (L:List Tok)(fin:List PP×RS)(acc:List PP)(s:RS):Prop:=
 (s.bad=true/\fin.2=s)\/(s.bad=false/\∃f,L.length<=s.at_+f/\(if qo L [44] s then kvf f L acc (qy L [44] s) else (acc,s))=fin)
def vwy (w:World)(P:Nat)(v:Value)(L:List Tok)(fin:List PP×RS)(x:Value)(wr:World):Prop:=
 ∃(acc:List PP) (s:RS),zw2 L fin acc s/\acc.length<=s.at_+1/\wr.ownsRow w.heap.size 352 4 x acc.length (xu acc)/\Pd wr P v L s/\Kept P w wr
def pzz (P:Nat)(v:Value)(L:List Tok)(w:World)(r:List PP×RS)(e:Ending)(w':World):Prop:=
 ∃x l,e=.returned x/\w'.ownsRow w.heap.size 352 4 x l.length (xu l)/\(r.2.bad=false->l=r.1)/\Pd w' P v L r.2/\Kept P w w'/\l.length<=801
theorem jjk (b:L.length<=s.at_+f):zw2 L (kvf (f+1) L [] s) [(rPP L s).1] (rPP L s).2:=by
 cases hb:s.bad
 ·have c:=qqx L s;rw[kvf];simp only[hb,wU,if_false];cases a:(rPP L s).2.bad
  ·exact Or.inr ⟨a,f,aj,rfl⟩
  ·refine Or.inl ⟨a,?_⟩;rw[kq7 a];rfl
 ·refine Or.inl ⟨by rw[zy8 hb];exact hb,?_⟩;rw[kvf];simp only[hb,if_true];rw[zy8 hb]
theorem jxm {fin:List PP×RS}   (j:s.at_<L.length)(h:zw2 L fin acc s)(hn:qo L [44] s=true):zw2 L fin (acc++[(rPP L (qy L [44] s)).1]) (rPP L (qy L [44] s)).2:=by
 rcases h with⟨hb,_⟩|⟨hb,f,l,e⟩
 ·rw[kq7 hb]at hn;cases hn
 ·rw[if_pos hn]at e;have c:qy L [44] s={s with at_:=s.at_+1}:=jP;have i:(qy L [44] s).at_=s.at_+1:=by rw[c]
  have b:(qy L [44] s).bad=false:=by rw[c];exact hb
  obtain⟨f,rfl⟩:∃g,f=g+1:=⟨f-1,aj⟩;generalize qy L [44] s=d at *;rw[kvf]at e;simp only[b,wU,if_false]at e;have k:=qqx L d;cases a:(rPP L d).2.bad
  ·exact Or.inr ⟨a,f,aj,e⟩
  ·refine Or.inl ⟨a,?_⟩;rw[kq7 a]at e;rw[<-e];rfl
theorem jww {fin:List PP×RS}   (h:zw2 L fin acc s)(hn:qo L [44] s=false):fin.2=s/\(s.bad=false->fin.1=acc):=by
 rcases h with⟨hb,e⟩|⟨hb,f,b,e⟩
 ·exact⟨e,λa=>by rw[hb]at a;cases a⟩
 ·rw[hn]at e;simp only[wU,if_false]at e;rw[<-e];exact⟨rfl,λ_=>rfl⟩
theorem zww (L:List Tok)(st:RS):(qo L [41] (qy L [40] st)=true->kql L st=([],qy L [41] (qy L [40] st))) /\
  (qo L [41] (qy L [40] st)=false->kql L st=((kvf (gy L) L [] (qy L [40] st)).1,qy L [41] (kvf (gy L) L [] (qy L [40] st)).2)):=by
 constructor<;>intro h<;>(unfold kql;rw[h];rfl)
theorem kja {s:List UInt8}  (h:(qy L s st).bad=false):st.bad=false:=by
 cases hb:st.bad
 ·rfl
 ·rw[kj2 hb]at h;cases h
theorem Pd.grown {B: Nat}{u: Value}   (h:Pd w P v L st)(a:w.grownBy w' u.ownBlock)(b:∀k,u.ownBlock=some k->B<=k)(c:∀g,v.ownBlock=some g->g<B)(l:P<B):Pd w' P v L st:=by
 refine h.same (a.block P h.in (λe=>by have:=b P e.symm;omega)) ?_;refine h.own.kept a ?_;cases f:v.ownBlock with
 |none=>exact Or.inl rfl
 |some j=>exact Or.inr λd=>by have h1:=c j f;have i:=b j d.symm;omega
def qvf (w:World)(P:Nat):Nat:=match w.cell? ⟨P,1,none⟩ with
 |some (.int _ n)=>n.toNat
 |_=>0
theorem Pd.nx (h:Pd w P v L s):qvf w P=if s.bad then L.length-1 else s.at_:=by
 obtain⟨r,h1,a⟩:=h;unfold qvf;rw[(qj3 h1.pd).2.1];simp only[sJ];cases hb:s.bad
 ·simp[(a.good hb).2.1]
 ·simp[(a.bad hb).2.1]
theorem Pd.vyv (h:Pd w P v L s)(hb:s.bad=false):qvf w P=s.at_:=by rw[h.nx,hb];rfl
theorem kky {a: RS}(h:Pd w P v L s)(b:Pd w' P v L a)(hb:s.bad=false)(e:s.at_+1<L.length)(d:a.bad=false->s.at_+1<=a.at_):L.length-qvf w' P<L.length-qvf w P:=by
 have:=b.lt;rw[h.vyv hb,b.nx];split
 ·omega
 ·rename_i c;have:=d lJ;omega
theorem zz9 (w:World)(P:Nat)(v:Value)(L:List Tok)(st:RS)(h:Pd w P v L st):
  qJ 209 #[.pointer (some ⟨P,0,none⟩)] w λe w'=>pzz P v L w (kql L st) e w':=by
 obtain⟨i0,hi,a4,a5,a6⟩:=info_parts infoPa;have H:=h.in;have HV:=pG h.mg;have aB:=h.ok.len;go_enter func209,ntmps209
 go_wp2_with fail
 refine(qkj [40] ak rfl _ P v L st h).mono ?_;rintro e w1 ⟨rfl,h1,X⟩;obtain⟨T,U⟩:=zww L st;have F:=pG T;have G:=pG U;have S:=pG X;have H1:=pG h1;clear h1 X h T U;generalize qy L [40] st=s1 at *;go_wp2_with fail
 refine(qqb [41] ak _ P v L _ (ku H1)).mono ?_;rintro e w2 ⟨rfl,h2,Y⟩;have C:=pG ((ku S).trans Y);have H2:=pG h2;clear h2 Y H1 S;cases hn:qo L [41] s1
 ·have HE:=pG ((ku G) hn);clear F G;go_wp2_with fail
  refine(zkw _ P v L _ (ku H2)).mono ?_;rintro e w3 ⟨rfl,h3,Z⟩;have t:=pG (jjk (L:=L) (s:=s1) (f:=L.length+1) aj);have aG:=qqx L s1;have D:=pG ((ku C).trans Z);have aC:=(ku D).size;have H3:=pG h3;have HF:=pG (show kvf (L.length+1+1) L [] s1=kvf (gy L) L [] s1 from rfl);generalize kvf (L.length+1+1) L [] s1=fin at *;generalize rPP L s1=q at *;clear h3 Z H2 C;unfold paV;go_wp2_with (at_builtin;refine wpList_append_own _ rfl _ _ 123 rfl w.heap.size 352 i0 _ 4 48 underlying123 hi a4 a5 a6 rfl ak _ _ _ rfl (wB _ _ _ _) ⟨w3.heap.size,0,none⟩ 1 1 (kzj q.1) rfl rfl ?c1 ?c2 ?c3 ?c4 ?c5 ?_)
  case c1=>exact qq4 w3 _ (kzj q.1) _ rfl
  case c2=>exact zzj _
  case c3=>unfold maxLen;simp
  case c4=>simp
  case c5=>simp;omega
  intro v' w4 m d _;have a0:Kept P w w4:=((ku D).alloc _).grown (v:=.slice none 0 0) d (λk hk=>by simp[Value.ownBlock]at hk);have h4:Pd w4 P v L q.2:=((ku H3).alloc _).grown (u:=.slice none 0 0) (B:=w.heap.size) d (λk hk=>by simp[Value.ownBlock]at hk) (ku HV) H;have HR:=pG (show vwy w P v L fin v' w4 from⟨[q.1],q.2,ku t,au,by simpa[xu] using m,h4,a0⟩);clear m d a0 h4 H3 D t;go_wp2_with fail
  go_loopw [3] (λx wr=>vwy w P v L fin x wr) (λ_ wr=>L.length-qvf wr P)
  case atStart=>exact ku HR
  case round=>
   obtain⟨acc,s,l,aF,M,N,K⟩:=hrel;have a2:=N.lt;have t:=pG l;have HO:=pG M;have HP:=pG N;have HK:=pG K;have aJ:=K.size;clear l M N K;go_wp2_with fail
   refine(kj7 [44] ak _ P v L s (ku HP)).mono ?_;rintro e w5 ⟨rfl,y,J⟩;have E:=pG (jg (ku HO) J H);have i:=pG ((ku HK).trans J);have aD:=(ku i).size;clear J HK;cases z:qo L [44] s
   ·rw[kx4 z]at y;obtain⟨V,W⟩:=jww (ku t) z;have Q:=pG y;have a7:=pG V;have a8:=pG W;clear y V W;go_wp2_with fail
    refine(qje [41] ak rfl rfl _ P v L s (ku Q)).mono ?_;rintro e R ⟨rfl,g,a⟩;have j:=pG (jg (ku E) a H);have c:=pG ((ku i).trans a);have A:=pG g;clear g a;go_wp2
    go_ret
    rw[ku HE,<-ku HF,ku a7];exact⟨_,acc,rfl,ku j,λhb=>((ku a8) (kja hb)).symm,ku A,ku c,aj⟩
   ·rw[qzj z rfl rfl]at y;have a3:=kjq (ku HP).ok a2 z;have aH:(qy L [44] s).at_=s.at_+1:=by rw[kzx rfl rfl];unfold zj0;rw[z];rfl
    have HM:=pG (jxm a2 (ku t) z);have Q:=pG y;clear y t;generalize qy L [44] s=s' at *;have aI:=qqx L s';go_wp2_with fail
    refine(zkw _ P v L _ (ku Q)).mono ?_;rintro e R ⟨rfl,g,a⟩;have j:=pG (jg (ku E) a H);have c:=pG ((ku i).trans a);have aE:=(ku c).size;have A:=pG g;clear g a E i Q HO;generalize rPP L s'=O at *;unfold paV;go_wp2_with (at_builtin;refine wpList_append_own _ rfl _ _ 123 rfl w.heap.size 352 i0 _ 4 48 underlying123 hi a4 a5 a6 rfl ak _ _ _ rfl ((ku j).alloc _) ⟨R.heap.size,0,none⟩ 1 1 (kzj O.1) rfl rfl ?k1 ?k2 ?k3 ?k4 ?k5 ?_)
    case k1=>exact qq4 R _ (kzj O.1) _ rfl
    case k2=>exact zzj _
    case k3=>unfold maxLen;omega
    case k4=>omega
    case k5=>simp;omega
    intro v7 w7 p b _;have I:=xg (ku j);have a1:Kept P w w7:=((ku c).alloc _).grown b I;have h7:Pd w7 P v L O.2:=((ku A).alloc _).grown b I (ku HV) H;have aA:=pG (show vwy w P v L fin v7 w7 from⟨acc++[O.1],O.2,ku HM,ay,by rw[zwg,wY];exact p,h7,a1⟩);have a9:=pG (kky (ku HP) h7 a3.1 a3.2 (λ_=>aj));clear p b a1 h7 I;go_wp2
    go_roundw
    case rel=>exact ku aA
    case measure=>exact ku a9
 ·have HE:=pG ((ku F) hn);clear F G;go_wp2_with fail
  refine(qje [41] ak rfl rfl _ P v L _ (ku H2)).mono ?_;rintro e R ⟨rfl,g,a⟩;have c:=pG ((ku C).trans a);have A:=pG g;clear g a;go_wp2
  go_ret
  rw[ku HE];exact⟨_,[],rfl,wB _ _ _ _,λ_=>rfl,ku A,ku c,au⟩
def opN (o:List UInt8):Int:=
 if o==oG then 0 else if o==oP then 1 else if o==oJ then 2 else if o==oQ then 3 else if o==oK then 4
 else if o==[33] then 5 else if o==[38] then 6 else if o==[124] then 7 else if o==[61,61] then 8 else if o==[33,61] then 9 else if o==[60] then 10 else if o==[43] then 11 else if o==[45] then 12 else 13
def kwy (x:ELab)(a b:Value):Array Value:=#[.int .i64 (opN x.op.toList),.int .i64 x.n,.string x.name.text,.int .i64 x.name.at_,.bool (!(x.index.kind.toList==[])),.string x.index.text,.int .i64 x.index.at_,a,b]
def XIs (lo:Nat)(w:World):PX->Value->Prop
 |.nil,v=>v=.pointer none
 |.node _ _ x a b,v=>∃k va vb,v=.pointer (some ⟨k,0,none⟩)/\lo<=k/\w.heap[k]?=some (.cells (kwy x va vb) 358 (0,0))/\XIs lo w a va/\XIs lo w b vb
theorem XIs.ptr (h:XIs lo w x v):∃p,v=.pointer p:=by
 cases x with
 |nil=>exact⟨_,h⟩
 |node _ _ _ _ _=>obtain⟨k,_,_,e,_⟩:=h;exact⟨_,e⟩
theorem XIs.stay {lo:Nat}{w w':World}(a:∀k,lo<=k->k<w.heap.size->w'.heap[k]?=w.heap[k]?):∀{x:PX} {v:Value},XIs lo w x v->XIs lo w' x v
 |.nil,_,h=>h
 |.node _ _ _ _ _,_,⟨k,va,vb,e,hn,hh,ha,hb⟩=>⟨k,va,vb,e,hn,by rw[a k hn (wu hh)];exact hh,ha.stay a,hb.stay a⟩
theorem XIs.kept (h:XIs lo w x v)(b:Kept P w w')(c:P<lo):XIs lo w' x v:=
 h.stay λk h1 a=>b.block k a aj
theorem XIs.below (h:XIs lo w x v)(b:pU w w'):XIs lo w' x v:=
 h.stay λk _ a=>b.block k a
theorem XIs.mono {lo lo':Nat}{w:World}(a:lo'<=lo):∀{x:PX} {v:Value},XIs lo w x v->XIs lo' w x v
 |.nil,_,h=>h
 |.node _ _ _ _ _,_,⟨k,va,vb,e,hn,hh,ha,hb⟩=>⟨k,va,vb,e,rU a hn,hh,ha.mono a,hb.mono a⟩
theorem XIs.new {x:ELab}{a b:PX}  {cs:Array Value}(c:XIs lo w a va)(hb:XIs lo w b vb)(e:lo<=w.heap.size)(d:cs=kwy x va vb):
  XIs lo (w.alloc (.cells cs 358)) (.node 0 0 x a b) (.pointer (some ⟨w.heap.size,0,none⟩)):=by
 subst d;exact⟨_,va,vb,rfl,e,heap_alloc_new _ _,c.below (below_alloc1 _ _),hb.below (below_alloc1 _ _)⟩
theorem kqw:zf.kind.toList=[]:=jv _
theorem kxt {o:ByteArray}{k:Int}  (h:opN o.toList=k):#[Value.int .i64 k,.int .i64 0,.string ⟨#[]⟩,.int .i64 0,.bool false,.string ⟨#[]⟩,.int .i64 0,va,vb]=kwy {op:=o,name:=zf,index:=zf,n:=0} va vb:=by
 unfold kwy;simp only;rw[h,kqw];rfl
theorem vzo (n:Int):#[Value.int .i64 3,.int .i64 n,.string ⟨#[]⟩,.int .i64 0,.bool false,.string ⟨#[]⟩,.int .i64 0,.pointer none,.pointer none]=kwy {op:=kyp,name:=zf,index:=zf,n:=n} (.pointer none) (.pointer none):=by
 unfold kwy;simp only;rw[show kyp.toList=oQ from jv _,kqw];rfl
def EPost (P:Nat)(v:Value)(L:List Tok)(w:World)(r:PX×RS)(e:Ending)(w':World):Prop:=
 ∃p t,e=.returned (.pointer p)/\XIs w.heap.size w' t (.pointer p)/\(r.2.bad=false->t=r.1)/\Pd w' P v L r.2/\Kept P w w'
theorem vqj (w:World)(P:Nat)(v:Value)(L:List Tok)(st:RS)(h:Pd w P v L st):
  qJ 152 #[.pointer (some ⟨P,0,none⟩)] w λe w'=>∃t,e=.returned (ptV t)/\kz1 t.text 0=kqc L oQ st/\(kz5 t.text 0&&!qk4 t.text)=kqc L og st/\pU w w':=by
 obtain⟨r,h1,c⟩:=h;exact(qk9 w P v L r h1).mono λe w' ⟨a,b⟩=>⟨_,a,c.digit h1.ok,c.name h1.ok,b⟩
def kx0 (f:Nat)(L:List Tok)(st:RS):PX×RS:=
 if st.bad then (kvi,st)
 else if qo L [40] st then ((rX f 0 .nil L (qy L [40] st)).1,qy L [41] (rX f 0 .nil L (qy L [40] st)).2)
 else if isConst (tk L st.at_) then (opX (tk L st.at_).text .nil .nil,{st with at_:=st.at_+1})
 else if qkd (tk L st.at_) then (vza (kq8 (tk L st.at_).text),{st with at_:=st.at_+1})
 else yt L st
theorem vwi (f n:Nat)(x:PX)(L:List Tok)(st:RS)(h:qo L [33] st=false):rX (f+1) (20+n) x L st=kx0 f L st:=by
 rw[zx5];unfold kx0;rw[h];simp only[wU,if_false]
theorem jjq (h:st.bad=true):(yt L st).2=st:=by
 unfold yt;simp only;have h1:=kjs (L:=L) (s:=og) h;have a:(qm L og st).2.bad=true:=by rw[h1];exact h
 rw[kq7 a];exact h1
theorem zyy (L:List Tok)(st:RS):(plT L st).2.2.2=(yt L st).2:=by
 unfold plT yt jwz sqT;simp only;split<;>rfl
theorem zzq (L:List Tok)(st:RS)(f:bg L)(e:st.at_<L.length):∃x:ELab,#[Value.int .i64 4,.int .i64 0,.string (plT L st).1.text,.int .i64 (plT L st).1.at_,.bool (plT L st).2.1,.string (plT L st).2.2.1.text,.int .i64 (plT L st).2.2.1.at_,.pointer none,.pointer none]=kwy x (.pointer none) (.pointer none) /\
  ((yt L st).2.bad=false->.node 0 0 x .nil .nil=(yt L st).1):=by
 have a:kv9.toList=oK:=jv _;unfold plT yt jwz sqT;simp only;cases hn:qo L [91] (qm L og st).2
 ·refine⟨{op:=kv9,name:=(qm L og st).1,index:=zf,n:=0},?_,λ_=>rfl⟩;unfold kwy;simp only[wU,if_false];rw[a,kqw];rfl
 ·simp only[if_true];cases hb:(qy L [93] (qm L og (qy L [91] (qm L og st).2)).2).bad
  ·refine⟨{op:=kv9,name:=(qm L og st).1,index:=(qm L og (qy L [91] (qm L og st).2)).1,n:=0},?_,λ_=>rfl⟩;have d:=kja hb;have b:((qm L og (qy L [91] (qm L og st).2)).1.kind.toList==[])=false:=by
    generalize qy L [91] (qm L og st).2=s at *;unfold qm at d |-;cases c:kqc L og s
    ·rw[c]at d;simp at d
    ·simp only[if_true];unfold kqc at c;simp only[wW]at c;have:=c.2;rw[rQ]at this;rw[this];rfl
   unfold kwy;simp only;rw[a,b];rfl
  ·refine⟨{op:=kv9,name:=(qm L og st).1,index:={kind:=zzv,text:=(qm L og (qy L [91] (qm L og st).2)).1.text,at_:=(qm L og (qy L [91] (qm L og st).2)).1.at_},n:=0},?_,λh=>gY⟩;unfold kwy;simp only;rw[a,show zzv.toList=og from jv _];rfl
theorem kqt (h:qo L l st=true):(tk L st.at_).text.toList=l/\st.bad=false:=by
 unfold qo kwv at h;simp only[wW,Qm]at h;have:=h.2;rw[rQ]at this;exact⟨this,h.1.1⟩
theorem zqv.vxj {t:Tok}(h:zqv t)  (c:l∈lits)(d:t.text.toList=l)(f:kz5 t.text 0=true):(t.kind.toList==oU)=true:=by
 have h1:=h.lit l c;have a:=h.word;rw[d,f]at *;have e:(l==l)=true:=au;rw[e,Jg]at h1;unfold jx1 at h1;cases b:(t.kind.toList==oU)
 ·rw[b]at h1 a;simp at h1 a;rw[h1]at a;simp at a
 ·rfl
theorem zj7 {b:ByteArray}{c:UInt8}{r:List UInt8}(h:b.toList=c::r):kz5 b 0=(decide (97<=(c.toNat:Int))&&decide ((c.toNat:Int)<=122)):=by
 have f:0<b.size:=qk0 (by rw[h];rfl);obtain⟨g,r',e,d⟩:=qkm 97 122 b f;rw[h]at e;injection e with a _;subst a;exact d
theorem qzn (g:bg L)(d:st.at_<L.length)(hb:st.bad=false):isConst (tk L st.at_)=(qo L oG st||qo L oP st||qo L oJ st):=by
 have f:=g.ok _ d;have a:∀l:List UInt8,l∈lits->(∃c r,l=c::r/\(decide (97<=(c.toNat:Int))&&decide ((c.toNat:Int)<=122))=true)->qo L l st=(((tk L st.at_).kind.toList==oU)&&((tk L st.at_).text.toList==l)):=by
  intro l i ⟨c,r,e,h⟩;unfold qo kwv;rw[hb];cases b:((tk L st.at_).text.toList==l)
  ·simp
  ·rw[rQ]at b;have:=f.vxj i b (by rw[zj7 (b.trans e)];exact h);rw[this];simp
 rw[a _ ak ⟨_,_,rfl,ak⟩,a _ ak ⟨_,_,rfl,ak⟩,a _ ak ⟨_,_,rfl,ak⟩];unfold isConst;cases ((tk L st.at_).kind.toList==oU)<;>simp
theorem jqz (hb:st.bad=false):qkd (tk L st.at_)=kqc L oQ st:=by
 unfold qkd kqc;rw[hb];rfl
def qjx (n F f:Nat):Prop:=∀(w:World) (P:Nat) (v:Value) (L:List Tok) (st:RS),Pd w P v L st->(st.bad=false->8*(L.length-st.at_)+(7-n)<=f) ->
 qJ F #[.pointer (some ⟨P,0,none⟩)] w λe w'=>EPost P v L w (rX f n .nil L st) e w'
theorem vvr (a b:Int)(w:World):(Instr.field 109 (.agg #[.int .i64 a,.int .i64 b]) 0).run prog w=.ok (.int .i64 a) w:=ah
theorem zq9 (f:Nat)(w:World)(P:Nat)(v:Value)(L:List Tok)(st:RS)(hE:st.bad=false->qjx 0 210 f)(h:Pd w P v L st)(hf:st.bad=false->8*(L.length-st.at_)+1<=f):
  qJ 299 #[.pointer (some ⟨P,0,none⟩)] w λe w'=>EPost P v L w (kx0 f L st) e w':=by
 have hX:=h.in;have J:=h.ok;have k:=h.lt;go_enter func299,ntmps299
 go_wp2_with fail
 refine(qqb [40] ak _ P v L st h).mono ?_;rintro e w1 ⟨rfl,h1,V⟩;have S:=pG h1;have H:=pG V;clear h h1 V;cases G:qo L [40] st
 ·go_wp2_with fail
  refine(kj7 oG ak _ P v L st (ku S)).mono ?_;rintro e w2 ⟨rfl,d,z⟩;have b:=pG ((ku H).trans z);have Q:=(ku b).size;clear z S H;cases C:qo L oG st
  ·rw[kx4 C]at d;have D:=pG d;clear d;go_wp2_with fail
   refine(kj7 oP ak _ P v L st (ku D)).mono ?_;rintro e w3 ⟨rfl,q,A⟩;have c:=pG ((ku b).trans A);have W:=(ku c).size;clear A D b;cases g:qo L oP st
   ·rw[kx4 g]at q;have I:=pG q;clear q;go_wp2_with fail
    refine(kj7 oJ ak _ P v L st (ku I)).mono ?_;rintro e w4 ⟨rfl,s,j⟩;have i:=pG ((ku c).trans j);have a8:=(ku i).size;clear j I c;cases l:qo L oJ st
    ·rw[kx4 l]at s;have E:=pG s;clear s;go_wp2_with fail
     refine(vqj _ P v L st (ku E)).mono ?_;rintro e w5 ⟨t,rfl,U,_,N⟩;have M:=pG ((ku i).trans (.of_below N));have H5:=pG ((ku E).below N);have aB:=(ku M).size;clear N E i;go_wp2_with fail
     refine(qyw t _).mono ?_;rintro e w6 ⟨rfl,O⟩;rw[U];have u:=pG ((ku M).trans (.of_below O));have T:=pG ((ku H5).below O);have aC:=(ku u).size;clear O H5 M U;cases K:kqc L oQ st
     ·go_wp2_with fail
      refine(zkv _ P v L st (ku T)).mono ?_;rintro e w7 ⟨rfl,F,B⟩;rw[zyy]at F;have a:=pG (show(kx0 f L st).2=(yt L st).2/\((yt L st).2.bad=false->(kx0 f L st).1=(yt L st).1) by
       unfold kx0;cases hb:st.bad
       ·rw[G,qzn J k hb,C,g,l,jqz hb,K];simp
       ·simp[jjq hb,hb])
      obtain⟨x,Y,Z⟩:=zzq L st J k;have a3:=pG Y;have a4:=pG Z;have y:=pG ((ku u).trans B);have R:=(ku y).size;have H7:=pG F;clear F B Y Z T u;generalize plT L st=pt at *;unfold plV;go_wp2
      go_ret
      refine⟨_,.node 0 0 x .nil .nil,rfl,XIs.new rfl rfl R (ku a3),?_,?_,(ku y).alloc _⟩
      ·intro hb;rw[(ku a).1]at hb;rw[(ku a4) hb,((ku a).2 hb)]
      ·rw[(ku a).1];exact(ku H7).alloc _
     ·have hb:st.bad=false:=by
       unfold kqc at K;simp only[wW,Qm]at K;exact K.1
      have a:=pG (show kx0 f L st=(vza (kq8 (tk L st.at_).text),{st with at_:=st.at_+1}) by
       unfold kx0;rw[hb,G,qzn J k hb,C,g,l,jqz hb,K];simp)
      have a1:=pG (show qm L oQ st=(tk L st.at_,{st with at_:=st.at_+1}) by unfold qm;rw[K];rfl);go_wp2_with fail
      refine(zjg _ P v L st (ku T)).mono ?_;rintro e w7 ⟨rfl,F,B⟩;rw[ku a1]at F |-;have y:=pG ((ku u).trans B);have R:=(ku y).size;have H7:=pG F;have aA:=vvr (kq8 (tk L st.at_).text) (tk L st.at_).at_;clear F B T u;unfold dgV;go_wp2
      go_ret
      rw[ku a];exact⟨_,vza (kq8 (tk L st.at_).text),rfl,XIs.new rfl rfl R (vzo _),λ_=>rfl,(ku H7).alloc _,(ku y).alloc _⟩
    ·obtain⟨m,hb⟩:=kqt l;have a:=pG (show kx0 f L st=(opX (tk L st.at_).text .nil .nil,{st with at_:=st.at_+1}) by
      unfold kx0;rw[hb,G,qzn J k hb,C,g,l];simp)
     have e4:kw8 L oJ st={st with at_:=st.at_+1}:=by unfold kw8;rw[l];rfl
     rw[e4]at s;have E:=pG s;clear s e4;go_wp2
     go_ret
     rw[ku a];exact⟨_,opX (tk L st.at_).text .nil .nil,rfl,XIs.new rfl rfl a8 (kxt nM),λ_=>rfl,(ku E).alloc _,(ku i).alloc _⟩
   ·obtain⟨m,hb⟩:=kqt g;have a:=pG (show kx0 f L st=(opX (tk L st.at_).text .nil .nil,{st with at_:=st.at_+1}) by
     unfold kx0;rw[hb,G,qzn J k hb,C,g];simp)
    have e3:kw8 L oP st={st with at_:=st.at_+1}:=by unfold kw8;rw[g];rfl
    rw[e3]at q;have I:=pG q;clear q e3;go_wp2
    go_ret
    rw[ku a];exact⟨_,opX (tk L st.at_).text .nil .nil,rfl,XIs.new rfl rfl W (kxt nM),λ_=>rfl,(ku I).alloc _,(ku c).alloc _⟩
  ·obtain⟨m,hb⟩:=kqt C;have a:=pG (show kx0 f L st=(opX (tk L st.at_).text .nil .nil,{st with at_:=st.at_+1}) by
    unfold kx0;rw[hb,G,qzn J k hb,C];simp)
   have e2:kw8 L oG st={st with at_:=st.at_+1}:=by unfold kw8;rw[C];rfl
   rw[e2]at d;have D:=pG d;clear d e2;go_wp2
   go_ret
   rw[ku a];exact⟨_,opX (tk L st.at_).text .nil .nil,rfl,XIs.new rfl rfl Q (kxt nM),λ_=>rfl,(ku D).alloc _,(ku b).alloc _⟩
 ·obtain⟨m,hb⟩:=kqt G;have a:=pG (show kx0 f L st=((rX f 0 .nil L (qy L [40] st)).1,qy L [41] (rX f 0 .nil L (qy L [40] st)).2) by
   unfold kx0;rw[hb,G];rfl)
  go_wp2_with fail
  refine(qkj [40] ak rfl _ P v L st (ku S)).mono ?_;rintro e w2 ⟨rfl,d,z⟩;have a9:=jh L [40] st;have a7:(qy L [40] st).bad=false->(qy L [40] st).at_=st.at_+1:=kv0;have b:=pG ((ku H).trans z);have Q:=(ku b).size;have D:=pG d;clear d z S H;generalize qy L [40] st=s2 at *;go_wp2_with fail
  refine(hE hb _ P v L s2 (ku D) (λd=>by have:=a7 d;have:=hf hb;omega)).mono ?_;rintro e w3 ⟨p,t,rfl,a0,X,q,A⟩;have c:=pG ((ku b).trans A);have W:=(ku c).size;have a5:=pG (a0.mono Q);have a2:=pG X;have I:=pG q;clear a0 X q A D b;generalize rX f 0 .nil L s2=r3 at *;go_wp2_with fail
  refine(qje [41] ak rfl rfl _ P v L _ (ku I)).mono ?_;rintro e w4 ⟨rfl,s,j⟩;have i:=pG ((ku c).trans j);have a6:=pG ((ku a5).kept j hX);have E:=pG s;clear s j;go_wp2
  go_ret
  rw[ku a];exact⟨p,t,rfl,ku a6,λhb=>(ku a2) (kja hb),ku E,ku i⟩
def zqq:Nat->PX->PX
 |0,x=>x
 |n+1,x=>opX zz0 (zqq n x) .nil
theorem jvq:∀(n:Nat) (x:PX),zqq n (opX zz0 x .nil)=zqq (n+1) x
 |0,_=>rfl
 |n+1,x=>by rw[zqq,jvq n x];rfl
theorem vy0 {n: Nat}    (h:qo L [33] st=true)(hn:n≠12):rX (f+1) (20+n) x L st=(opX zz0 (rX f (20+(n+1)) .nil L (qy L [33] st)).1 .nil,(rX f (20+(n+1)) .nil L (qy L [33] st)).2):=by
 rw[zx5,h,(kqt h).2];simp[hn]
theorem vjb (h:qo L [33] st=true):rX (f+1) (20+12) x L st=(kvi,{st with bad:=true}):=by
 rw[zx5,h,(kqt h).2];simp
def zjl (L:List Tok)(fin:PX×RS)(j g:Nat)(s:RS):Prop:=
 fin=(zqq j (rX g (20+j) .nil L s).1,(rX g (20+j) .nil L s).2)/\(s.bad=false->8*(L.length-s.at_)+2<=g)
theorem jvz (h:zjl L fin j g s)(hn:qo L [33] s=true)(b:j≠12)(d:s.at_<L.length):zjl L fin (j+1) (g-1) {s with at_:=s.at_+1}:=by
 obtain⟨h1,a⟩:=h;have hb:=(kqt hn).2;have e:=a hb;obtain⟨g,rfl⟩:∃k,g=k+1:=⟨g-1,aj⟩;rw[vy0 hn b]at h1;have c:qy L [33] s={s with at_:=s.at_+1}:=jP;rw[c]at h1;simp only[Zl];refine⟨?_,λ_=>gU⟩;rw[h1,jvq]
theorem jyy (h:zjl L fin j g s)(hn:qo L [33] s=false):fin.2=(kx0 (g-1) L s).2/\((kx0 (g-1) L s).2.bad=false->fin.1=zqq j (kx0 (g-1) L s).1):=by
 obtain⟨h1,b⟩:=h;cases hb:s.bad
 ·have c:=b hb;obtain⟨g,rfl⟩:∃k,g=k+1:=⟨g-1,aj⟩;rw[vwi _ _ _ _ _ hn]at h1;rw[h1];exact⟨rfl,λ_=>rfl⟩
 ·have e:kx0 (g-1) L s=(kvi,s):=by unfold kx0;rw[hb];rfl
  rw[e,h1,kjz hb];exact⟨rfl,λa=>by simp only at a;rw[hb]at a;cases a⟩
theorem vx7 (h:zjl L fin 12 g s)(hn:qo L [33] s=true):fin.2=(kx0 0 L {s with bad:=true}).2/\((kx0 0 L {s with bad:=true}).2.bad=false->fin.1=zqq 12 (kx0 0 L {s with bad:=true}).1):=by
 obtain⟨h1,b⟩:=h;have hb:=(kqt hn).2;have c:=b hb;obtain⟨g,rfl⟩:∃k,g=k+1:=⟨g-1,aj⟩;rw[vjb hn]at h1;have e:kx0 0 L {s with bad:=true}=(kvi,{s with bad:=true}):=by unfold kx0;rfl
 rw[e,h1];exact⟨rfl,λa=>by simp at a⟩
theorem Pd.step (h:Pd w P v L s)(hb:s.bad=false)(b:s.at_+1<L.length):w.cell? ⟨P,1,none⟩=some (.int .i64 s.at_)/\w.frozen? ⟨P,1,none⟩=false/\Pd (w.setCell ⟨P,1,none⟩ (.int .i64 ((s.at_:Int)+1))) P v L {s with at_:=s.at_+1}:=by
 obtain⟨r,h1,a⟩:=h;obtain⟨c0,c1,c2,c3,c4,f1,_⟩:=qj3 h1.pd;have hn:=(a.good hb).2.1;rw[hn]at c1;refine⟨c1,f1,⟨_,?_,a.step hb b⟩⟩;have:=h1.step (by rw[hn];exact b);rw[hn]at this |-;exact this
theorem zyu (f:Nat)(w:World)(P:Nat)(v:Value)(L:List Tok)(st:RS)(hE:st.bad=false->∀g,g<f->qjx 0 210 g)(h:Pd w P v L st)(hf:st.bad=false->8*(L.length-st.at_)+2<=f):
  qJ 296 #[.pointer (some ⟨P,0,none⟩)] w λe w'=>EPost P v L w (rX f 20 .nil L st) e w':=by
 have hX:=h.in;have hL:=h.ok;have a7:=hL.len;have H:=pG h;have a0:=pG hE;have K:=pG (show zjl L (rX f 20 .nil L st) 0 f st from⟨rfl,hf⟩);generalize rX f 20 .nil L st=fin at *;clear h hE hf;go_enter func296,ntmps296
 go_wp2
 go_loopw [3] (λrow wr=>∃(j g:Nat) (s:RS),j<=12/\row=.int .i64 j/\zjl L fin j g s/\(s.bad=false->g<=f/\st.bad=false)/\Pd wr P v L s/\Kept P w wr) (λrow _=>12-(intOf row).toNat)
 case atStart=>exact⟨0,f,st,aj,rfl,ku K,λhb=>⟨wJ _,hb⟩,ku H,Kept.refl _ _⟩
 case round=>
  obtain⟨j,g,s,hj,rfl,hA,Q,b,a⟩:=hrel;have T:=b.lt;have I:=pG hA;have l:=pG b;have c:=pG a;have J:=pG Q;clear hA b a Q K H;go_wp2_with fail
  refine(qqb [33] ak _ P v L s (ku l)).mono ?_;rintro e w2 ⟨rfl,h2,R⟩;have d:=pG ((ku c).trans R);have a3:=(ku d).size;have G:=pG h2;clear h2 R c l;cases hn:qo L [33] s
  ·have u:=pG (jyy (ku I) hn);have O:=(ku I).2;go_wp2_with fail
   refine(zq9 (g-1) _ P v L s (λhb=>(ku a0) ((ku J) hb).2 (g-1) (by have:=O hb;have:=((ku J) hb).1;omega)) (ku G) (λhb=>by have:=O hb;omega)).mono ?_;rintro e w5 ⟨X,t5,rfl,t,q,D,m⟩;have k:=pG ((ku d).trans m);have a5:=(ku k).size;have C:=pG (t.mono a3);have A:=pG q;have V:=pG D;clear t q D m;generalize kx0 (g-1) L s=Z at *;go_wp2
   go_loopw [4,23] (λY y wr=>∃(i:Nat) (p:Option Addr),i<=j/\y=.int .i64 i/\Y=.pointer p/\XIs w.heap.size wr (zqq i t5) (.pointer p)/\Pd wr P v L Z.2/\Kept P w wr) (λ_ y _=>j-(intOf y).toNat)
   case atStart=>exact⟨0,X,rW _,rfl,rfl,ku C,ku V,ku k⟩
   case round=>
    obtain⟨i,p,a2,rfl,rfl,F,b,a⟩:=hrel;have B:=pG F;have l:=pG b;have c:=pG a;have E:=a.size;clear F b a;by_cases W:i<j
    ·go_wp2
     go_roundw
     case rel=>exact⟨i+1,_,aj,eu,rfl,XIs.new (ku B) rfl E (kxt lu),(ku l).alloc _,(ku c).alloc _⟩
     case measure=>exact qQ
    ·have x:i=j:=by omega
     subst x;go_wp2
     go_ret
     refine⟨p,_,rfl,ku B,?_,?_,ku c⟩
     ·intro hb;rw[(ku u).1]at hb;rw[((ku u).2 hb),(ku A) hb]
     ·rw[(ku u).1];exact ku l
  ·have z:=kjq hL T hn;by_cases N:j=12
   ·subst N;have u:=pG (vx7 (ku I) hn);go_wp2_with fail
    refine(vvd _ P v L s (ku G)).mono ?_;rintro e w3 ⟨rfl,h3,S⟩;have M:=pG ((ku d).trans S);have a4:=(ku M).size;have H3:=pG h3;clear h3 S d G;go_wp2_with fail
    refine(zq9 0 _ P v L {s with bad:=true} (λhb=>by simp at hb) (ku H3) (λhb=>by simp at hb)).mono ?_;rintro e w5 ⟨X,t5,rfl,t,q,D,m⟩;have k:=pG ((ku M).trans m);have a5:=(ku k).size;have C:=pG (t.mono a4);have A:=pG q;have V:=pG D;clear t q D m;generalize kx0 0 L {s with bad:=true}=Z at *;go_wp2
    go_loopw [4,23] (λY y wr=>∃(i:Nat) (p:Option Addr),i<=12/\y=.int .i64 i/\Y=.pointer p/\XIs w.heap.size wr (zqq i t5) (.pointer p)/\Pd wr P v L Z.2/\Kept P w wr) (λ_ y _=>12-(intOf y).toNat)
    case atStart=>exact⟨0,X,rW _,rfl,rfl,ku C,ku V,ku k⟩
    case round=>
     obtain⟨i,p,a2,rfl,rfl,F,b,a⟩:=hrel;have B:=pG F;have l:=pG b;have c:=pG a;have E:=a.size;clear F b a;by_cases W:i<12
     ·go_wp2
      go_roundw
      case rel=>exact⟨i+1,_,aj,eu,rfl,XIs.new (ku B) rfl E (kxt lu),(ku l).alloc _,(ku c).alloc _⟩
      case measure=>exact qQ
     ·have x:i=12:=by omega
      subst x;go_wp2
      go_ret
      refine⟨p,_,rfl,ku B,?_,?_,ku c⟩
      ·intro hb;rw[(ku u).1]at hb;rw[((ku u).2 hb),(ku A) hb]
      ·rw[(ku u).1];exact ku l
   ·have a6:j<12:=by omega
    obtain⟨c1,f1,U⟩:=(ku G).step z.1 z.2;have a1:=pG U;have HR:=pG (jvz (ku I) hn N T);clear U;go_wp2
    go_roundw
    case rel=>exact⟨j+1,g-1,_,aj,eu,ku HR,λ_=>⟨by have:=((ku J) z.1).1;omega,((ku J) z.1).2⟩,ku a1,(ku d).kzq _ _⟩
    case measure=>exact qQ
end Go.Proofs.YtpmcnonmkghokaaGreatDoor

import Derived.Test.YtpmcnonmkghokaaGreatDoorT26
import Derived.Test.YtpmcnonmkghokaaGreatDoorT11
set_option linter.unusedVariables false
set_option linter.unusedSimpArgs false
namespace Go.Proofs.YtpmcnonmkghokaaGreatDoor
open Go.Proofs.Tryz
open Go.RowKit
variable {L:List Tok}{lit s:List UInt8}{f i tag:Nat}{x:PX}{st:RS}{α:Type}{one:RS->α×RS}{t:Tok}{nm:α->List Tok}{P:α->Prop}
theorem kjn {p:Bool}(h:p=true->False):p=false:=by
 cases p with
 |false=>rfl
 |true=>exact(h rfl).elim
theorem kqs (h:(qy L s st).bad=false):st.bad=false:=kjn λe=>by rw[kj2 e]at h;cases h
theorem kkh (h:(qm L s st).2.bad=false):st.bad=false:=kjn λe=>by rw[kys e]at h;cases h
theorem kzc (h:(rX f tag x L st).2.bad=false):st.bad=false:=kjn λe=>by rw[kjz e,e]at h;cases h
def qwe:List (List UInt8):=[[124],[38],[61,61],[33,61],[60],[43],[45]]
def pqy (x:ELab):Prop:=
 (x.op.toList=oG\/x.op.toList=oP\/x.op.toList=oJ) \/
 (x.op.toList=oQ/\0<=x.n/\x.n<=9) \/
 (x.op.toList=oK/\(x.name.kind.toList==og)=true/\(x.index=zf\/(x.index.kind.toList==og)=true))
def kza:PX->Prop
 |.nil=>False
 |.node _ _ x a c=>(pqy x/\a=.nil/\c=.nil)\/(x.op.toList=[33]/\kza a/\c=.nil)\/(x.op.toList∈qwe/\kza a/\kza c)
theorem kza.some (h:kza x):isNil x=false:=by
 cases x with
 |nil=>exact h.elim
 |node=>rfl
theorem vzv {x:ELab}(h:pqy x):qqg x.op=true:=by
 unfold qqg;rcases h with(h|h|h)|⟨h,_⟩|⟨h,_⟩<;>rw[h]<;>rfl
theorem kza.ok:∀{x:PX},kza x->XOk x
 |.nil,h=>trivial
 |.node _ _ x a c,h=>by
  rcases h with⟨h1,rfl,rfl⟩|⟨h1,b,rfl⟩|⟨h1,b,d⟩
  ·exact⟨Or.inl (vzv h1),trivial,trivial⟩
  ·exact⟨Or.inr b.some,b.ok,trivial⟩
  ·exact⟨Or.inr b.some,b.ok,d.ok⟩
theorem vye {n:Nat}  (h:kk3 n t=true):t.text.toList∈qwe:=by
 unfold kk3 at h;rw[wW]at h;have h1:=h.1;rw[Jl]at h1;obtain⟨s,a,e⟩:=h1;rw[rQ]at e;rw[<-e];have this:∀l:List UInt8,(⟨l.toArray⟩:ByteArray).toList=l:=jv;rcases n with _|_|_|n<;>simp only[kqo,sW,Qa,or_false]at a
 ·subst a;rw[show(ByteArray.mk #[124]).toList=[124] from this [124]];decide
 ·subst a;rw[show(ByteArray.mk #[38]).toList=[38] from this [38]];decide
 ·rcases a with rfl|rfl|rfl
  ·rw[show(ByteArray.mk #[61,61]).toList=[61,61] from this [61,61]];decide
  ·rw[show(ByteArray.mk #[33,61]).toList=[33,61] from this [33,61]];decide
  ·rw[show(ByteArray.mk #[60]).toList=[60] from this [60]];decide
 ·rcases a with rfl|rfl
  ·rw[show(ByteArray.mk #[43]).toList=[43] from this [43]];decide
  ·rw[show(ByteArray.mk #[45]).toList=[45] from this [45]];decide
theorem qvp (c:bg L)  (hi:i<L.length)(h:((tk L i).kind.toList==oQ)=true):qyj (tk L i):=by
 have a:=(c.ok i hi).digit;rw[h]at a;unfold kz1 inB at a;by_cases b:0<(tk L i).text.size
 ·rw[dif_pos b,wW,sQ,sQ]at a;exact⟨b,a.1,a.2⟩
 ·rw[dif_neg b]at a;cases a
theorem pji (h:qyj t):0<=kq8 t.text/\kq8 t.text<=9:=by
 obtain⟨a,h1,b⟩:=h;unfold kq8;rw[dif_pos a];omega
theorem zku (b:qy9 L)(g:st.at_<L.length)(h:(yt L st).2.bad=false):kza (yt L st).1/\∃x,(yt L st).1=.node 0 0 x .nil .nil/\x.op.toList=oK:=by
 have a:kv9.toList=oK:=jv _;unfold yt at h |-;simp only at h |-;by_cases hn:qo L [91] (qm L og st).2=true
 ·rw[if_pos hn]at h |-;simp only at h |-;have c:=kqs h;have i:=kkh c;obtain⟨j,d,e,k,f⟩:=kjr b g rfl (kqs i);obtain⟨b1,m,l⟩:=yw b f i;obtain⟨c1,c2,c3,c4,c5⟩:=kjr b l rfl c;exact⟨Or.inl ⟨Or.inr (Or.inr ⟨a,by rw[d];exact e,Or.inr (by rw[c2];exact c3)⟩),rfl,rfl⟩,_,rfl,a⟩
 ·rw[if_neg hn]at h |-;simp only at h |-;obtain⟨j,d,e,k,f⟩:=kjr b g rfl h;exact⟨Or.inl ⟨Or.inr (Or.inr ⟨a,by rw[d];exact e,Or.inl rfl⟩),rfl,rfl⟩,_,rfl,a⟩
theorem vq6 (L:List Tok)(B:bg L):∀(f tag:Nat) (x:PX) (st:RS),(tag<=4\/(10<=tag/\tag<=13)\/(20<=tag/\tag<=32))->8*(L.length-st.at_)+ndC tag<=f->st.at_<L.length ->
  (10<=tag->tag<20->kza x)->(rX f tag x L st).2.bad=false->kza (rX f tag x L st).1
 |0,tag,x,st,ht,hf,hl,hx,h=>kY
 |f+1,tag,x,st,ht,hf,hl,hx,h=>by
  have g:=B.qve;have b:=vq6 L B f;have m:=vkg L g f;have hb:st.bad=false:=kzc h;have d:¬st.bad=true:=by rw[hb];simp
  rw[rX]at h |-;by_cases H:tag<4
  ·rw[if_pos H,if_neg d]at h |-;have E:ndC tag=7-tag:=jG;have u:ndC (tag+1)=7-(tag+1):=jG;have h1:=kzc h;obtain⟨I,J,K,z,O,M,A⟩:=m (tag+1) .nil st (Or.inl aj) (by rw[u];omega) hl (λh1 c=>aj) h1;have p:=A.le;exact b (10+tag) _ _ (Or.inr (Or.inl ⟨aj,aj⟩)) jZ z (λ_ _=>(b (tag+1) .nil st (Or.inl aj) (by rw[u];omega) hl (λh1 c=>aj) h1)) h
  ·rw[if_neg H]at h |-;by_cases v:tag<10
   ·rw[if_pos v,if_neg d]at h |-;have t:tag=4:=aj;subst t;have E:ndC 4=3:=rfl;exact b 20 .nil st (Or.inr (Or.inr ⟨aj,aj⟩)) (by show _+2<=f;omega) hl (λh1 c=>aj) h
   ·rw[if_neg v]at h |-;by_cases l:tag<20
    ·rw[if_pos l,if_neg d]at h |-;have F:=hx aj l;have E:ndC tag=1:=by unfold ndC;rw[if_neg aj,if_pos aj]
     by_cases a:kk3 (tag-10) (tk L st.at_)=true
     ·rw[if_pos a]at h |-;have G:=vye a;have j:st.at_+1<L.length:=g _ hl (by
       unfold kk3 at a;rw[wW]at a;have:=a.2;rw[rQ]at this;rw[this];rfl)
      have k:ndC (tag-9)=7-(tag-9):=jG;by_cases w:tag=12
      ·rw[if_pos w]at h |-;simp only at h |-;exact Or.inr (Or.inr ⟨G,F,(b (tag-9) .nil {st with at_:=st.at_+1} (Or.inl aj) (by rw[k];simp only;omega) j (λh1 c=>aj) h)⟩)
      ·rw[if_neg w]at h |-;have h1:=kzc h;obtain⟨I,J,K,z,O,M,A⟩:=m (tag-9) .nil {st with at_:=st.at_+1} (Or.inl aj) (by rw[k];simp only;omega) j (λh1 c=>aj) h1;have p:=A.le;simp only at p;exact b tag _ _ (Or.inr (Or.inl ⟨aj,aj⟩)) (by rw[E];omega) z (λ_ _=>Or.inr (Or.inr ⟨G,F,(b (tag-9) .nil {st with at_:=st.at_+1} (Or.inl aj) (by rw[k];simp only;omega) j (λh1 c=>aj) h1)⟩)) h
     ·rw[if_neg a]at h |-;exact F
    ·rw[if_neg l,if_neg d]at h |-;by_cases q:qo L [33] st=true
     ·rw[if_pos q]at h |-;by_cases y:tag=32
      ·rw[if_pos y]at h;simp at h
      ·rw[if_neg y]at h |-;simp only at h |-;obtain⟨P,Q,D⟩:=yw g hl (kzc h);exact Or.inr (Or.inl ⟨jv _,(b (tag+1) .nil (qy L [33] st) (Or.inr (Or.inr ⟨aj,aj⟩)) jX D (λh1 c=>aj) h),rfl⟩)
     ·rw[if_neg q]at h |-;by_cases s:qo L [40] st=true
      ·rw[if_pos s]at h |-;simp only at h |-;have h1:=kqs h;obtain⟨P,Q,D⟩:=yw g hl (kzc h1);exact b 0 .nil (qy L [40] st) (Or.inl aj) (by show _+7<=f;omega) D (λh1 c=>aj) h1
      ·rw[if_neg s]at h |-;by_cases i:isConst (tk L st.at_)=true
       ·rw[if_pos i]at h |-;refine Or.inl ⟨Or.inl ?_,rfl,rfl⟩;unfold isConst at i;rw[wW]at i;have h1:=i.2;simp only[Qu,rQ]at h1;rcases h1 with(e|e)|e
        ·exact Or.inl e
        ·exact Or.inr (Or.inl e)
        ·exact Or.inr (Or.inr e)
       ·rw[if_neg i]at h |-;by_cases C:qkd (tk L st.at_)=true
        ·rw[if_pos C]at h |-;have N:kyp.toList=oQ:=jv _;exact Or.inl ⟨Or.inr (Or.inl ⟨N,(pji (qvp B hl C))⟩),rfl,rfl⟩
        ·rw[if_neg C]at h |-;exact(zku g hl h).1
theorem ky1 (a:bg L)  (b:st.at_<L.length)(h:(rX (yg L) 0 .nil L st).2.bad=false):
  st.bad=false/\kza (rX (yg L) 0 .nil L st).1/\(rX (yg L) 0 .nil L st).2.at_<L.length/\uw L st.at_ (rX (yg L) 0 .nil L st).2.at_ (uo (rX (yg L) 0 .nil L st).1):=by
 obtain⟨c,f,g,d,e⟩:=vyl a.qve b h;exact⟨c,vq6 L a (yg L) 0 .nil st (Or.inl aj) (by show _+7<=_;unfold yg;omega) b (λh1 _=>aj) h,d,e⟩
def kxn:PB->Prop
 |.nil=>True
 |.node _ _ a .nil n=>(kza a.place/\∃x,a.place=.node 0 0 x .nil .nil/\x.op.toList=oK)/\kza a.value/\a.cond=.nil/\kxn n
 |.node _ _ a (.node _ _ _ t e) n=>kza a.cond/\a.place=.nil/\a.value=.nil/\(kxn t/\kko t<=801)/\(kxn e/\kko e<=801)/\kxn n
theorem kxn.app:∀{a b:PB},kxn a->kxn b->kxn (kk0 a b)
 |.nil,b,_,h=>h
 |.node _ _ a .nil n,b,⟨h1,h2,h3,h4⟩,h=>⟨h1,h2,h3,h4.app h⟩
 |.node _ _ a (.node _ _ _ t e) n,b,⟨h1,h2,h3,h4,h5,h6⟩,h=>⟨h1,h2,h3,h4,h5,h6.app h⟩
theorem jv7:∀a b:PB,kko (kk0 a b)=kko a+kko b
 |.nil,b=>by simp[kk0,kko]
 |.node _ _ a s n,b=>by simp only[kk0,kko,jv7 n b];omega
theorem qwt:∀a b:PB,uf (kk0 a b)=uf a++uf b
 |.nil,b=>rfl
 |.node _ _ a .nil n,b=>by simp only[kk0,uf,qwt n b,sD]
 |.node _ _ a (.node _ _ _ t e) n,b=>by simp only[kk0,uf,qwt n b,sD]
structure SIn (L:List Tok)(s:RS)(r:PB×RS):Prop where
 good:s.bad=false
 well:kxn r.1
 lt:r.2.at_<L.length
 nms:uw L s.at_ r.2.at_ (uf r.1)
 len:s.at_+kko r.1<=r.2.at_
theorem pqc (i:bg L){blk:RS->PB×RS}(k:∀s,(blk s).2.bad=false->s.bad=false)(d:∀s,s.at_<L.length->(blk s).2.bad=false->SIn L s (blk s))  (m:st.at_<L.length)(h:(rDo blk L st).2.bad=false):
  SIn L st (rDo blk L st)/\kko (rDo blk L st).1=1:=by
 have b:=i.qve;have A:=i.len;unfold rDo at h |-;by_cases hi:qo L oh st=true
 ·rw[if_pos hi]at h |-;have a:(blk (rX (yg L) 0 .nil L (qy L oh st)).2).2.bad=false->st.bad=false/\(qy L oh st).at_=st.at_+1/\kza (rX (yg L) 0 .nil L (qy L oh st)).1 /\
    uw L (qy L oh st).at_ (rX (yg L) 0 .nil L (qy L oh st)).2.at_ (uo (rX (yg L) 0 .nil L (qy L oh st)).1)/\SIn L (rX (yg L) 0 .nil L (qy L oh st)).2 (blk (rX (yg L) 0 .nil L (qy L oh st)).2):=by
   intro hb;have f:=k _ hb;obtain⟨w,j,p⟩:=yw b m (kzc f);obtain⟨x1,x2,x3,x4⟩:=ky1 i p f;exact⟨w,j,x2,x4,d _ x3 hb⟩
  by_cases t:qo L oC (blk (rX (yg L) 0 .nil L (qy L oh st)).2).2=true
  ·rw[if_pos t]at h |-;simp only at h |-;have e:=k _ h;obtain⟨g,j,q,xn,b1⟩:=a (kqs e);obtain⟨y,z,l⟩:=yw b b1.lt e;have c:=d _ l h;have v:=xn.le;have B:=b1.len;have F:=c.len;have K:=c.lt;refine⟨⟨g,⟨q,rfl,rfl,⟨b1.well,aj⟩,⟨c.well,aj⟩,trivial⟩,c.lt,?_,?_⟩,rfl⟩
   ·show uw L st.at_ _ (((kvo ⟨.nil,.nil,_⟩++uf _)++uf _)++uf .nil);rw[show uf (Go.Deep.BT.nil:PB)=[] from rfl,Qg];exact(c.nms.low aj).app (b1.nms.app (xn.low aj))
   ·show st.at_+1<=_;dsimp only;omega
  ·rw[if_neg t]at h |-;simp only at h |-;obtain⟨g,j,q,xn,b1⟩:=a h;have v:=xn.le;have B:=b1.len;have J:=b1.lt;refine⟨⟨g,⟨q,rfl,rfl,⟨b1.well,aj⟩,⟨trivial,by simp[kko]⟩,trivial⟩,b1.lt,?_,?_⟩,rfl⟩
   ·show uw L st.at_ _ (((kvo ⟨.nil,.nil,_⟩++uf _)++uf .nil)++uf .nil);rw[show uf (Go.Deep.BT.nil:PB)=[] from rfl,Qg,Qg];exact b1.nms.app (xn.low aj)
   ·show st.at_+1<=_;dsimp only;omega
 ·rw[if_neg hi]at h |-;simp only at h |-;have f:=kqs h;have e:=kzc f;have u:=kqs e;obtain⟨C,H,I,D,x⟩:=zkg b m u;obtain⟨pw,E⟩:=zku b m u;obtain⟨w,j,p⟩:=yw b D e;obtain⟨x1,x2,x3,x4⟩:=ky1 i p f;obtain⟨y,z,l⟩:=yw b x3 h;have G:=x.le;have v:=x4.le;refine⟨⟨C,⟨⟨pw,E⟩,x2,rfl,trivial⟩,l,?_,?_⟩,rfl⟩
  ·show uw L st.at_ _ (kvo ⟨_,_,.nil⟩++uf .nil);rw[show uf (Go.Deep.BT.nil:PB)=[] from rfl,Qg];show uw L st.at_ _ ((uo _++uo _)++uo .nil);rw[show uo (Go.Deep.BT.nil:PX)=[] from rfl,Qg];exact((x4.low aj).app x).high (by dsimp only;omega)
  ·show st.at_+1<=_;dsimp only;omega
theorem kvr (h:(rS f tag L st).2.bad=false):st.bad=false:=kjn λe=>by rw[qk6 e]at h;cases h
theorem zy6 {L:List Tok}(b:bg L):∀(f tag:Nat) (st:RS),st.at_<L.length->(rS f tag L st).2.bad=false->SIn L st (rS f tag L st)
 |0,tag,st,hl,h=>⟨h,trivial,hl,wJ _,by simp[rS,kko]⟩
 |f+1,0,st,hl,h=>by
  have c:=b.qve;rw[rS]at h |-;simp only at h |-;have hb:=kqs h;obtain⟨j,q,k⟩:=yw c hl (kvr hb);have a:=zy6 b f 1 _ k hb;obtain⟨l,m,e⟩:=yw c a.lt h;have i:=a.len;exact⟨j,a.well,e,(a.nms.low aj).high (by show _<=(qy L [125] _).at_;omega),by show _<=(qy L [125] _).at_;simp only;omega⟩
 |f+1,t+1,st,hl,h=>by
  rw[rS]at h |-;by_cases d:(qo L [125] st||st.bad)=true
  ·rw[if_pos d]at h |-;exact⟨h,trivial,hl,wJ _,by simp[kko]⟩
  ·rw[if_neg d]at h |-;simp only at h |-;obtain⟨d1,d2⟩:SIn L st (rDo (rS f 0 L) L st)/\kko (rDo (rS f 0 L) L st).1=1:=pqc b (λs=>kvr) (λs g hb=>zy6 b f 0 s g hb) hl (kvr h);have a:=zy6 b f 1 _ d1.lt h;have i:=d1.len;have p:=a.len;exact⟨d1.good,d1.well.app a.well,a.lt,by rw[qwt];exact a.nms.app d1.nms,by rw[jv7];dsimp only;omega⟩
def kwt (p:PP):List Tok:=[p.name,p.set_]
theorem jjw {b: Nat}(c:i<L.length)(a:((tk L i).kind.toList==og)=true)(hb:i+1<=b):uw L i b [tk L i]:=⟨i,wJ _,c,rfl,a,hb⟩
theorem pqq (a:qy9 L)  (c:st.at_<L.length)(h:(rPP L st).2.bad=false):st.bad=false/\(rPP L st).2.at_<L.length/\uw L st.at_ (rPP L st).2.at_ (kwt (rPP L st).1):=by
 unfold rPP at h |-;simp only at h |-;have d:=kkh h;obtain⟨e,f,g,j,i⟩:=kjr a c rfl (kqs d);obtain⟨b1,k,b⟩:=yw a i d;obtain⟨c1,c2,c3,c4,c5⟩:=kjr a b rfl h;refine⟨e,c5,?_⟩;unfold kwt;simp only;rw[f,c2];exact⟨_,wJ _,c,rfl,g,_,aj,b,rfl,c3,by show _<=_;omega⟩
theorem vks {L:List Tok}(a:qy9 L):∀(f:Nat) (l:List PP) (st:RS),st.at_<L.length->(kvf f L l st).2.bad=false->st.bad=false/\(kvf f L l st).2.at_<L.length/\∃b,(kvf f L l st).1=l++b/\uw L st.at_ (kvf f L l st).2.at_ (b.flatMap kwt)
 |0,l,st,hl,h=>⟨h,hl,[],by simp[kvf],wJ _⟩
 |f+1,l,st,hl,h=>by
  rw[kvf]at h |-;by_cases hb:st.bad=true
  ·rw[if_pos hb]at h;rw[hb]at h;cases h
  ·rw[if_neg hb]at h |-;by_cases hn:qo L [44] (rPP L st).2=true
   ·rw[if_pos hn]at h |-;have i:(qy L [44] (rPP L st).2).bad=false:=kjn λe=>by rw[zkq e,e]at h;cases h
    obtain⟨c,d,g⟩:=pqq a hl (kqs i);obtain⟨s,t,p⟩:=yw a d i;obtain⟨q,j,b,k,m⟩:=vks a f _ _ p h;exact⟨c,j,(rPP L st).1::b,by rw[k,sD];rfl,(m.low aj).app g⟩
   ·rw[if_neg hn]at h |-;simp only at h |-;obtain⟨c,d,g⟩:=pqq a hl h;exact⟨c,d,[(rPP L st).1],rfl,by simpa using g⟩
theorem qvz (a:qy9 L)  (g:st.at_<L.length)(h:(kql L st).2.bad=false):st.bad=false/\(kql L st).2.at_<L.length/\uw L st.at_ (kql L st).2.at_ ((kql L st).1.flatMap kwt):=by
 unfold kql at h |-;by_cases hn:qo L [41] (qy L [40] st)=true
 ·rw[if_pos hn]at h |-;simp only at h |-;obtain⟨d,q,f⟩:=yw a g (kqs h);obtain⟨i,j,b⟩:=yw a f h;exact⟨d,b,by show _<=_;omega⟩
 ·rw[if_neg hn]at h |-;simp only at h |-;have c:=kqs h;have k:(qy L [40] st).bad=false:=kjn λe=>by rw[zkq e,e]at c;cases c
  obtain⟨d,q,f⟩:=yw a g k;obtain⟨s,l,t,m,p⟩:=vks a _ _ _ f c;obtain⟨i,j,b⟩:=yw a l h;refine⟨d,b,?_⟩;rw[m,Qc];exact(p.low aj).high aj
theorem zkj (h:st.bad=true):∀(f:Nat) (l:List Tok),(kk9 f L l st).2=st
 |0,_=>rfl
 |f+1,l=>by rw[kk9,if_pos h]
theorem vv7 {L:List Tok}(b:qy9 L):∀(f:Nat) (l:List Tok) (st:RS),st.at_<L.length->(kk9 f L l st).2.bad=false->st.bad=false/\(kk9 f L l st).2.at_<L.length/\∃c,(kk9 f L l st).1=l++c/\uw L st.at_ (kk9 f L l st).2.at_ c
 |0,l,st,hl,h=>⟨h,hl,[],by simp[kk9],wJ _⟩
 |f+1,l,st,hl,h=>by
  rw[kk9]at h |-;by_cases hb:st.bad=true
  ·rw[if_pos hb]at h;rw[hb]at h;cases h
  ·rw[if_neg hb]at h |-;by_cases hn:(qo L [44] (qm L og st).2||decide (l.length+1<2))=true
   ·rw[if_pos hn]at h |-;have j:(qy L [44] (qm L og st).2).bad=false:=kjn λe=>by
     rw[zkj e,e]at h;cases h
    obtain⟨d,a,g,k,i⟩:=kjr b hl rfl (kqs j);obtain⟨u,v,s⟩:=yw b i j;obtain⟨t,m,c,p,q⟩:=vv7 b f _ _ s h;refine⟨d,m,(qm L og st).1::c,by rw[p,sD];rfl,?_⟩;exact⟨st.at_,wJ _,hl,a,by rw[a];exact g,q.low aj⟩
   ·rw[if_neg hn]at h |-;simp only at h |-;obtain⟨d,a,g,k,i⟩:=kjr b hl rfl h;exact⟨d,i,[(qm L og st).1],rfl,by rw[a];exact jjw hl g aj⟩
theorem vk7 (c:bg L)(st:RS)(p:st.at_<L.length)(h:(kki L st).2.bad=false):st.bad=false/\qyj (kki L st).1.size/\(kki L st).2.at_<L.length/\uw L st.at_ (kki L st).2.at_ (qwp (kki L st).1):=by
 have a:=c.qve;unfold kki at h |-;simp only at h |-;have d:=kqs h;have e:=kkh d;obtain⟨q,x,f⟩:=yw a p (kkh e);obtain⟨s,g,i,t,b⟩:=kjr a f rfl e;obtain⟨b1,j,k,u,l⟩:=kjr a b rfl d;obtain⟨v,w,m⟩:=yw a l h;refine⟨q,by rw[j];exact qvp c b k,m,?_⟩;unfold qwp;simp only;rw[g];exact(jjw f i aj).low aj
theorem jkc (m:bg L)(st:RS)(p:st.at_<L.length)(h:(kzt L st).2.bad=false):st.bad=false/\True/\(kzt L st).2.at_<L.length/\uw L st.at_ (kzt L st).2.at_ (kzp (kzt L st).1):=by
 have a:=m.qve;unfold kzt kk7 at h |-;simp only at h |-;have b:=kqs h;have d:(qy L [123] (qm L og (qy L oV st)).2).bad=false:=kjn λe=>by rw[zkj e,e]at b;cases b
 have c:=kqs d;obtain⟨u,C,f⟩:=yw a p (kkh c);obtain⟨v,g,i,w,j⟩:=kjr a f rfl c;obtain⟨b1,x,k⟩:=yw a j d;obtain⟨A,q,B,s,t⟩:=vv7 a _ _ _ k b;obtain⟨y,z,l⟩:=yw a q h;refine⟨u,trivial,l,?_⟩;unfold kzp;simp only;rw[s,Qc,g];exact⟨_,aj,f,rfl,i,(t.low aj).high aj⟩
def kwk (t:Tok):List Tok:=if t.kind.toList==og then [t] else []
def kxy (v:PVar):List Tok:=v.name::(kwk v.over++kwk v.type_)
def qwk (v:PVar):Prop:=(v.over=zf\/(v.over.kind.toList==og)=true) /\
 ((v.type_.kind.toList=oU/\v.type_.text.toList=pX/\v.top=zf)\/(v.type_.kind.toList=oU/\v.type_.text.toList=o8/\qyj v.top/\v.top.kind.toList=oQ)\/(v.type_.kind.toList=og/\v.top=zf))
theorem vka:kwk zf=[]:=by unfold kwk;rw[kqw];rfl
theorem vyj (b:qy9 L)  (e:st.at_<L.length)(h:(kjb L st).2.bad=false):st.bad=false/\((kjb L st).1=zf\/((kjb L st).1.kind.toList==og)=true)/\(kjb L st).2.at_<L.length/\uw L st.at_ (kjb L st).2.at_ (kwk (kjb L st).1):=by
 unfold kjb at h |-;by_cases hn:qo L [91] st=true
 ·rw[if_pos hn]at h |-;simp only at h |-;have d:=kqs h;obtain⟨j,q,f⟩:=yw b e (kkh d);obtain⟨k,c,a,l,g⟩:=kjr b f rfl d;obtain⟨m,p,i⟩:=yw b g h;refine⟨j,Or.inr (by rw[c];exact a),i,?_⟩;unfold kwk;rw[c,a,if_pos rfl];exact(jjw f a aj).low aj
 ·rw[if_neg hn]at h |-;exact⟨h,Or.inl rfl,e,by rw[vka];exact wJ _⟩
theorem pj3 (j:bg L)  (d:st.at_<L.length)(h:(kxe L st).2.bad=false):st.bad=false/\(kxe L st).2.at_<L.length /\
  (((tk L st.at_).kind.toList=oU/\(tk L st.at_).text.toList=pX/\(kxe L st).1=zf)\/((tk L st.at_).kind.toList=oU/\(tk L st.at_).text.toList=o8/\qyj (kxe L st).1/\(kxe L st).1.kind.toList=oQ)\/((tk L st.at_).kind.toList=og/\(kxe L st).1=zf)) /\
  uw L st.at_ (kxe L st).2.at_ (kwk (tk L st.at_)):=by
 have e:=j.qve;have b:∀l:List UInt8,l∈lits->(∃c r,l=c::r/\(decide (97<=(c.toNat:Int))&&decide ((c.toNat:Int)<=122))=true)->qo L l st=true->(tk L st.at_).kind.toList=oU/\(tk L st.at_).text.toList=l/\kwk (tk L st.at_)=[]:=λl t u hn=>by
  have k:=zj3 j d t u hn;rw[rQ]at k;exact⟨k,(kqt hn).1,by unfold kwk;rw[k];rfl⟩
 unfold kxe at h |-;by_cases hb:qo L pX st=true
 ·rw[if_pos hb]at h |-;simp only at h |-;obtain⟨p,v,f⟩:=yw e d h;obtain⟨k1,k2,k3⟩:=b _ ak ⟨98,[111,111,108],rfl,ak⟩ hb;exact⟨p,f,Or.inl ⟨k1,k2,mW⟩,by rw[k3];show _<=_;omega⟩
 ·rw[if_neg hb]at h |-;by_cases m:qo L o8 st=true
  ·rw[if_pos m]at h |-;obtain⟨p,v,f⟩:=yw e d (kkh h);obtain⟨q,g,a,s,i⟩:=kjr e f rfl h;obtain⟨k1,k2,k3⟩:=b _ ak ⟨116,[111],rfl,ak⟩ m;refine⟨p,i,Or.inr (Or.inl ⟨k1,k2,by rw[g];exact qvp j f a,by rw[g];rw[rQ]at a;exact a⟩),by rw[k3];show _<=_;omega⟩
  ·rw[if_neg m]at h |-;simp only at h |-;obtain⟨q,g,a,s,i⟩:=kjr e d rfl h;refine⟨q,i,Or.inr (Or.inr ⟨by rw[rQ]at a;exact a,mW⟩),?_⟩;unfold kwk;rw[a,if_pos rfl];exact jjw d a aj
theorem vyq (h:(kjb L st).2.bad=false):st.bad=false:=kjn λe=>by rw[zy9 e]at h;cases h
theorem pj2 (h:(kxe L st).2.bad=false):st.bad=false:=kjn λe=>by rw[jxw e]at h;cases h
theorem vxu (b:bg L)(st:RS)(p:st.at_<L.length)(h:(kwm L st).2.bad=false):st.bad=false/\qwk (kwm L st).1/\(kwm L st).2.at_<L.length/\uw L st.at_ (kwm L st).2.at_ (kxy (kwm L st).1):=by
 have a:=b.qve;unfold kwm at h |-;simp only at h |-;have f:=kqs h;have e:=pj2 f;have d:=vyq e;have c:=kqs d;obtain⟨q,A,g⟩:=yw a p (kkh c);obtain⟨v,i,j,w,k⟩:=kjr a g rfl c;obtain⟨b1,x,l⟩:=yw a k d;obtain⟨o1,o2,o3,o4⟩:=vyj a l e;obtain⟨B,s,t,u⟩:=pj3 b o3 f;obtain⟨y,z,m⟩:=yw a s h;refine⟨q,⟨o2,t⟩,m,?_⟩;unfold kxy;simp only;rw[i];exact⟨_,aj,g,rfl,j,((u.app (o4.low aj)).high aj)⟩
def kqx (r:PRule):List Tok:=r.name::(r.params.flatMap kwt++(uo r.guard++uf r.body))
def kka (r:PRule):Prop:=kza r.guard/\kxn r.body/\kko r.body<=801
theorem qvj (h:(kql L st).2.bad=false):st.bad=false:=kjn λe=>by rw[zz3 e]at h;cases h
theorem vq4 (b:bg L)(st:RS)(u:st.at_<L.length)(h:(kj6 L st).2.bad=false):st.bad=false/\kka (kj6 L st).1/\(kj6 L st).2.at_<L.length/\uw L st.at_ (kj6 L st).2.at_ (kqx (kj6 L st).1):=by
 have a:=b.qve;have v:=b.len;unfold kj6 at h |-;simp only at h |-;have d:(qqj L st).2.bad=false:=kvr h;have f:(qy L oh (qj0 L st).2).bad=false:=kzc d;have g:(qj0 L st).2.bad=false:=kqs f;have e:(zz1 L st).2.bad=false:=qvj g;obtain⟨w,D,j⟩:=yw a u (kkh e);obtain⟨C,k,l,m,p⟩:=kjr a j rfl e;obtain⟨E,x,y⟩:=qvz a p g;obtain⟨b1,q,t⟩:=yw a x f;obtain⟨x1,x2,x3,x4⟩:=ky1 b t d;have s:=zy6 b _ _ _ x3 h;have i:=s.lt;have c:kko (rS (kyv L) 0 L (qqj L st).2).1<=801:=by
  have:kko (rS (kyv L) 0 L (qqj L st).2).1<=(rS (kyv L) 0 L (qqj L st).2).2.at_:=rU (Nat.le_add_left _ _) s.len;have B:(rS (kyv L) 0 L (qqj L st).2).2.at_<L.length:=i;omega
 refine⟨w,⟨x2,s.well,c⟩,i,?_⟩;unfold kqx;simp only;rw[show(zz1 L st).1=_ from k];refine⟨_,aj,j,rfl,l,?_⟩;have c1:uw L (zz1 L st).2.at_ (qj0 L st).2.at_ ((qj0 L st).1.flatMap kwt):=y;have c2:uw L (qy L oh (qj0 L st).2).at_ (qqj L st).2.at_ (uo (qqj L st).1):=x4;have z:(zz1 L st).2.at_=(qy L oD st).at_+1:=m;have A:(qy L oh (qj0 L st).2).at_=(qj0 L st).2.at_+1:=q;exact((s.nms.app (c2.low aj)).app c1).low aj
theorem jxs (b:bg L)(st:RS)(p:st.at_<L.length)(h:(kjm L st).2.bad=false):st.bad=false/\(kka (kjm L st).1/\(kjm L st).1.body=.nil)/\(kjm L st).2.at_<L.length/\uw L st.at_ (kjm L st).2.at_ (kqx (kjm L st).1):=by
 have a:=b.qve;unfold kjm at h |-;simp only at h |-;have c:(qjg L st).2.bad=false:=kqs h;have e:(qxq L st).2.bad=false:=kzc c;have d:(qkz L st).2.bad=false:=qvj e;obtain⟨q,y,f⟩:=yw a p (kkh d);obtain⟨w,g,i,j,k⟩:=kjr a f rfl d;obtain⟨z,s,t⟩:=qvz a k e;obtain⟨x1,x2,x3,x4⟩:=ky1 b s c;obtain⟨x,l,m⟩:=yw a x3 h;refine⟨q,⟨⟨x2,trivial,by simp[kko]⟩,mW⟩,m,?_⟩;unfold kqx;simp only;rw[show(qkz L st).1=_ from g,show uf (Go.Deep.BT.nil:PB)=[] from rfl,Qg];refine⟨_,aj,f,rfl,i,?_⟩;have c1:uw L (qkz L st).2.at_ (qxq L st).2.at_ ((qxq L st).1.flatMap kwt):=t;have c2:uw L (qxq L st).2.at_ (qjg L st).2.at_ (uo (qjg L st).1):=x4;have u:(qkz L st).2.at_=(qy L oM st).at_+1:=j;have v:(qy L [59] (qjg L st).2).at_=(qjg L st).2.at_+1:=l;exact((c2.app c1).low aj).high aj
theorem qqy {α:Type}{L:List Tok}{lit:List UInt8}{one:RS->α×RS}{nm:α->List Tok}{P:α->Prop}(h1:∀s,s.at_<L.length->(one s).2.bad=false->s.bad=false/\P (one s).1/\(one s).2.at_<L.length/\uw L s.at_ (one s).2.at_ (nm (one s).1)):
  ∀(f:Nat) (l:List α) (s:RS),s.at_<L.length->(loopA L lit one f l s).2.bad=false->s.bad=false/\(loopA L lit one f l s).2.at_<L.length/\∃a,(loopA L lit one f l s).1=l++a/\(∀x∈a,P x)/\uw L s.at_ (loopA L lit one f l s).2.at_ (a.flatMap nm)
 |0,l,s,hl,h=>⟨h,hl,[],by simp[loopA],au,wJ _⟩
 |f+1,l,s,hl,h=>by
  rw[loopA]at h |-;by_cases hn:qo L lit s=true
  ·rw[if_pos hn]at h |-;have q:(one s).2.bad=false:=kjn λe=>by rw[kkb e]at h;rw[e]at h;cases h
   obtain⟨c,d,g,i⟩:=h1 s hl q;obtain⟨b1,j,a,k,m,p⟩:=qqy h1 f _ _ g h;refine⟨c,j,(one s).1::a,by rw[k,sD];rfl,?_,p.app i⟩;intro x b;rcases sW.mp b with rfl|b
   ·exact d
   ·exact m x b
  ·rw[if_neg hn]at h |-;exact⟨h,hl,[],au,au,wJ _⟩
theorem qky {α:Type}{L:List Tok}{lit:List UInt8}{one:RS->α×RS}{nm:α->List Tok}{P:α->Prop}(h1:∀s,s.at_<L.length->(one s).2.bad=false->s.bad=false/\P (one s).1/\(one s).2.at_<L.length/\uw L s.at_ (one s).2.at_ (nm (one s).1)):
  ∀(f:Nat) (l:List α) (s:RS),s.at_<L.length->(kzg L lit one f l s).2.bad=false->s.bad=false/\(kzg L lit one f l s).2.at_<L.length/\∃b,(kzg L lit one f l s).1=l++b/\(∀x∈b,P x)/\uw L s.at_ (kzg L lit one f l s).2.at_ (b.flatMap nm)
 |0,l,s,hl,h=>⟨h,hl,[],by simp[kzg],au,wJ _⟩
 |f+1,l,s,hl,h=>by
  rw[kzg]at h |-;by_cases hb:s.bad=true
  ·rw[if_pos hb]at h;rw[hb]at h;cases h
  ·rw[if_neg hb]at h |-;by_cases hn:qo L lit (one s).2=true
   ·rw[if_pos hn]at h |-;have q:(one s).2.bad=false:=kjn λe=>by rw[kkc e]at h;rw[e]at h;cases h
    obtain⟨c,d,g,i⟩:=h1 s hl q;obtain⟨b1,j,b,k,m,p⟩:=qky h1 f _ _ g h;refine⟨c,j,(one s).1::b,by rw[k,sD];rfl,?_,p.app i⟩;intro x a;rcases sW.mp a with rfl|a
    ·exact d
    ·exact m x a
   ·rw[if_neg hn]at h |-;simp only at h |-;obtain⟨c,d,g,i⟩:=h1 s hl h;exact⟨c,g,[(one s).1],rfl,by intro x a;rw[sK]at a;subst a;exact d,by simpa using i⟩
def kzl (t:PTree):List Tok:=t.sets.flatMap qwp++(t.kinds.flatMap kzp++(t.vars.flatMap kxy++(t.rules.flatMap kqx++t.nevers.flatMap kqx)))
structure qkf (L:List Tok)(t:PTree):Prop where
 nms:uw L 0 L.length (kzl t)
 sets:∀s∈t.sets,qyj s.size
 vars:∀v∈t.vars,qwk v
 rules:∀r∈t.rules,kka r
 nevers:∀r∈t.nevers,kka r/\r.body=.nil
theorem tree_good (d:bg L)(h:(yx L).2=none):qkf L (yx L).1:=by
 have hb:(kx6 L).2.bad=false:=by
  rw[zqa]at h;cases hb:(kx6 L).2.bad
  ·rfl
  ·rw[hb]at h;simp at h
 have hN:=hb;unfold kx6 at hN;rw[kyl]at hN;have C:(kx5 L).2.bad=false:=kjn λe=>by rw[kkb e]at hN;rw[e]at hN;cases hN
 have b:=C;unfold kx5 at b;rw[qz5]at b;have D:(kzz L).2.bad=false:=kjn λe=>by rw[kkc e]at b;rw[e]at b;cases b
 have c:=D;unfold kzz at c;rw[qx5]at c;have hH:(kqq L gu).2.2.bad=false:=kjn λe=>by rw[kkc e]at c;rw[e]at c;cases c
 have a:=hH;unfold kqq at a;simp only at a;rw[qz6]at a;have l:(kvy (gy L) L [] gu).2.bad=false:=kjn λe=>by rw[kkb e]at a;rw[e]at a;cases a
 rw[qv9]at l;obtain⟨s1,w,ls,s3,G,x⟩:=qqy (P:=λs=>qyj s.size) (vk7 d) (gy L) [] gu d.pos l;rw[<-qv9]at w s3 x;obtain⟨k1,k2,f,k3,k4,k5⟩:=qqy (P:=λ_=>True) (jkc d) (gy L) [] _ w a;rw[<-qz6]at k2 k3 k5;obtain⟨J,y,j,z,H,A⟩:=qky (P:=qwk) (vxu d) (gy L) [] (kqq L gu).2.2 k2 c;rw[<-qx5]at y z A;obtain⟨I,t,i,u,F,v⟩:=qky (P:=kka) (vq4 d) (gy L) [] (kzz L).2 y b;rw[<-qz5]at t u v;obtain⟨n1,m,g,p,E,q⟩:=qqy (P:=λr=>kka r/\r.body=.nil) (jxs d) (gy L) [] (kx5 L).2 t hN;rw[<-kyl]at m p q;have es:(yx L).1.sets=ls:=by show(kvy (gy L) L [] gu).1=ls;rw[s3];rfl
 have B:(yx L).1.kinds=f:=by show(kwh (gy L) L [] (kvy (gy L) L [] gu).2).1=f;rw[k3];rfl
 have ev:(yx L).1.vars=j:=by show(qw5 (gy L) L [] (kqq L gu).2.2).1=j;rw[z];rfl
 have k:(yx L).1.rules=i:=by show(qx6 (gy L) L [] (kzz L).2).1=i;rw[u];rfl
 have en:(yx L).1.nevers=g:=by show(kyt (gy L) L [] (kx5 L).2).1=g;rw[p];rfl
 refine⟨?_,by rw[es];exact G,by rw[ev];exact H,by rw[k];exact F,by rw[en];exact E⟩;unfold kzl;rw[es,B,ev,k,en];have c1:uw L 0 (kvy (gy L) L [] gu).2.at_ (ls.flatMap qwp):=x;have c2:uw L (kvy (gy L) L [] gu).2.at_ (kqq L gu).2.2.at_ (f.flatMap kzp):=k5;have c3:uw L (kqq L gu).2.2.at_ (kzz L).2.at_ (j.flatMap kxy):=A;have c4:uw L (kzz L).2.at_ (kx5 L).2.at_ (i.flatMap kqx):=v;have c5:uw L (kx5 L).2.at_ (kx6 L).2.at_ (g.flatMap kqx):=q;have c6:(kx6 L).2.at_<L.length:=m;exact(((((c5.app c4).app c3).app c2).app c1)).high aj
end Go.Proofs.YtpmcnonmkghokaaGreatDoor

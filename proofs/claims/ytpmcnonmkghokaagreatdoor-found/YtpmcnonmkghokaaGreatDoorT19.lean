import Derived.Test.YtpmcnonmkghokaaGreatDoorT18
import Derived.Test.YtpmcnonmkghokaaGreatDoorT06
import Derived.Test.YtpmcnonmkghokaaGreatDoorT07
set_option linter.unusedVariables false
set_option linter.unusedSimpArgs false
namespace Go.Proofs.YtpmcnonmkghokaaGreatDoor
open Go.RowKit
theorem kj0 {p:Bool}(h:p=true→False):p=false:=by
 cases p with
 | false=>rfl
 | true=>exact (h rfl).elim
theorem kq7 {L:List Tok}{s:List UInt8}{st:RS}(h:(qp L s st).bad=false):st.bad=false:=kj0 fun e=>by rw[kjn e] at h;cases h
theorem kxj {L:List Tok}{s:List UInt8}{st:RS}(h:(qh L s st).2.bad=false):st.bad=false:=kj0 fun e=>by rw[qvo e] at h;cases h
theorem kja {L:List Tok}{f tag:Nat}{x:PX}{st:RS}(h:(rX f tag x L st).2.bad=false):st.bad=false:=kj0 fun e=>by rw[kqm e,e] at h;cases h
def zw0:List (List UInt8):=[[124],[38],[61,61],[33,61],[60],[43],[45]]
def vw2 (x:ELab):Prop:=
 (x.op.toList=[116,114,117,101]∨x.op.toList=[102,97,108,115,101]∨x.op.toList=[110,111,110,101]) ∨
 (x.op.toList=[100,105,103,105,116]∧0≤x.n∧x.n≤9) ∨
 (x.op.toList=[112,108,97,99,101]∧(x.name.kind.toList==[110,97,109,101])=true∧(x.index=jy∨(x.index.kind.toList==[110,97,109,101])=true))
def kku:PX→Prop
 | .nil=>False
 | .node _ _ x a c=>(vw2 x∧a=.nil∧c=.nil)∨(x.op.toList=[33]∧kku a∧c=.nil)∨(x.op.toList∈zw0∧kku a∧kku c)
theorem kku.some {x:PX}(h:kku x):isNil x=false:=by
 cases x with
 | nil=>exact h.elim
 | node=>rfl
theorem vx8 {n:Nat}{t:Tok}(h:kxd n t=true):t.text.toList∈zw0:=by
 unfold kxd at h;rw[wG] at h;have h1:=h.1;rw[l9] at h1;obtain ⟨s,hs,e⟩:=h1;rw[rZ] at e;rw[←e];have this:∀ l:List UInt8,(⟨l.toArray⟩:ByteArray).toList=l:=zh;rcases n with _|_|_|n<;>simp only[kvo,tX,nM,or_false] at hs
 ·subst hs;rw[show (ByteArray.mk #[124]).toList=[124] from this [124]];decide
 ·subst hs;rw[show (ByteArray.mk #[38]).toList=[38] from this [38]];decide
 ·rcases hs with rfl|rfl|rfl
  ·rw[show (ByteArray.mk #[61,61]).toList=[61,61] from this [61,61]];decide
  ·rw[show (ByteArray.mk #[33,61]).toList=[33,61] from this [33,61]];decide
  ·rw[show (ByteArray.mk #[60]).toList=[60] from this [60]];decide
 ·rcases hs with rfl|rfl
  ·rw[show (ByteArray.mk #[43]).toList=[43] from this [43]];decide
  ·rw[show (ByteArray.mk #[45]).toList=[45] from this [45]];decide
theorem qwp {L:List Tok}(hL:pq L){i:Nat}(hi:i<L.length)(h:((tk L i).kind.toList==[100,105,103,105,116])=true):jjj (tk L i):=by
 have hd:=(hL.ok i hi).digit;rw[h] at hd;unfold kjo inB at hd;by_cases h0:0<(tk L i).text.size
 ·rw[dif_pos h0,wG,nG,nG] at hd;exact ⟨h0,hd.1,hd.2⟩
 ·rw[dif_neg h0] at hd;cases hd
theorem vv3 {t:Tok}(h:jjj t):0≤yx t.text∧yx t.text≤9:=by
 obtain ⟨h0,h1,h2⟩:=h;unfold yx;rw[dif_pos h0];omega
theorem zj3 {L:List Tok}{st:RS}(hF:qkc L)(hl:st.at_<L.length)(h:(uj L st).2.bad=false):kku (uj L st).1∧∃ x,(uj L st).1=.node 0 0 x .nil .nil∧x.op.toList=[112,108,97,99,101]:=by
 have hpl:kv0.toList=[112,108,97,99,101]:=zh _;unfold uj at h ⊢;simp only at h ⊢;by_cases hn:zq L [91] (qh L [110,97,109,101] st).2=true
 ·rw[if_pos hn] at h ⊢;simp only at h ⊢;have hk2:=kq7 h;have hm:=kxj hk2;have hk:=kq7 hm;obtain ⟨a1,a2,a3,a4,a5⟩:=kqi hF hl rfl hk;obtain ⟨b1,b2,b3⟩:=jl hF a5 hm;obtain ⟨c1,c2,c3,c4,c5⟩:=kqi hF b3 rfl hk2;exact ⟨Or.inl ⟨Or.inr (Or.inr ⟨hpl,by rw[a2];exact a3,Or.inr (by rw[c2];exact c3)⟩),rfl,rfl⟩,_,rfl,hpl⟩
 ·rw[if_neg hn] at h ⊢;simp only at h ⊢;obtain ⟨a1,a2,a3,a4,a5⟩:=kqi hF hl rfl h;exact ⟨Or.inl ⟨Or.inr (Or.inr ⟨hpl,by rw[a2];exact a3,Or.inl rfl⟩),rfl,rfl⟩,_,rfl,hpl⟩
theorem jk2 (L:List Tok)(hL:pq L):∀ (f tag:Nat) (x:PX) (st:RS),(tag≤4∨(10≤tag∧tag≤13)∨(20≤tag∧tag≤32))→8 * (L.length-st.at_)+ndC tag≤f→st.at_<L.length →
  (10≤tag→tag<20→kku x)→(rX f tag x L st).2.bad=false→kku (rX f tag x L st).1
 | 0,tag,x,st,ht,hf,hl,hx,h=>by exfalso;unfold ndC at hf;split at hf<;>(try split at hf)<;>omega
 | f+1,tag,x,st,ht,hf,hl,hx,h=>by
  have hF:=hL.qxy;have ih:=jk2 L hL f;have inn:=vq6 L hF f;have hb:st.bad=false:=kja h;have hbf:¬st.bad=true:=by rw[hb];simp
  rw[rX] at h ⊢;by_cases t4:tag<4
  ·rw[if_pos t4,if_neg hbf] at h ⊢;have nd:ndC tag=7-tag:=by unfold ndC;rw[if_pos (by omega)]
   have nd1:ndC (tag+1)=7-(tag+1):=by unfold ndC;rw[if_pos (by omega)]
   have h1:=kja h;obtain ⟨a1,a2,a3,a4,l1,a5,a6⟩:=inn (tag+1) .nil st (Or.inl (by omega)) (by rw[nd1];omega) hl (fun h1 h2=>by omega) h1;have le1:=a6.le;have w1:=ih (tag+1) .nil st (Or.inl (by omega)) (by rw[nd1];omega) hl (fun h1 h2=>by omega) h1;exact ih (10+tag) _ _ (Or.inr (Or.inl ⟨by omega,by omega⟩)) (by rw[show ndC (10+tag)=1 by unfold ndC;rw[if_neg (by omega),if_pos (by omega)]];omega) a4 (fun _ _=>w1) h
  ·rw[if_neg t4] at h ⊢;by_cases t10:tag<10
   ·rw[if_pos t10,if_neg hbf] at h ⊢;have t:tag=4:=by omega
    subst t;have nd:ndC 4=3:=rfl;exact ih 20 .nil st (Or.inr (Or.inr ⟨by omega,by omega⟩)) (by show _+2≤f;omega) hl (fun h1 h2=>by omega) h
   ·rw[if_neg t10] at h ⊢;by_cases t20:tag<20
    ·rw[if_pos t20,if_neg hbf] at h ⊢;have xw:=hx (by omega) t20;have nd:ndC tag=1:=by unfold ndC;rw[if_neg (by omega),if_pos (by omega)]
     by_cases hbin:kxd (tag-10) (tk L st.at_)=true
     ·rw[if_pos hbin] at h ⊢;have bo:=vx8 hbin;have hsg:st.at_+1<L.length:=hF _ hl (by
       unfold kxd at hbin;rw[wG] at hbin;have:=hbin.2;rw[rZ] at this;rw[this];rfl)
      have nd':ndC (tag-9)=7-(tag-9):=by unfold ndC;rw[if_pos (by omega)]
      by_cases t12:tag=12
      ·rw[if_pos t12] at h ⊢;simp only at h ⊢;have w1:=ih (tag-9) .nil { st with at_:=st.at_+1 } (Or.inl (by omega)) (by rw[nd'];simp only;omega) hsg (fun h1 h2=>by omega) h;exact Or.inr (Or.inr ⟨bo,xw,w1⟩)
      ·rw[if_neg t12] at h ⊢;have h1:=kja h;obtain ⟨a1,a2,a3,a4,l1,a5,a6⟩:=inn (tag-9) .nil { st with at_:=st.at_+1 } (Or.inl (by omega)) (by rw[nd'];simp only;omega) hsg (fun h1 h2=>by omega) h1;have le1:=a6.le;have w1:=ih (tag-9) .nil { st with at_:=st.at_+1 } (Or.inl (by omega)) (by rw[nd'];simp only;omega) hsg (fun h1 h2=>by omega) h1;simp only at le1;exact ih tag _ _ (Or.inr (Or.inl ⟨by omega,by omega⟩)) (by rw[nd];omega) a4 (fun _ _=>Or.inr (Or.inr ⟨bo,xw,w1⟩)) h
     ·rw[if_neg hbin] at h ⊢;exact xw
    ·rw[if_neg t20,if_neg hbf] at h ⊢;have nd:ndC tag=2:=by unfold ndC;rw[if_neg (by omega),if_neg (by omega)]
     by_cases n33:zq L [33] st=true
     ·rw[if_pos n33] at h ⊢;by_cases t32:tag=32
      ·rw[if_pos t32] at h;simp at h
      ·rw[if_neg t32] at h ⊢;simp only at h ⊢;obtain ⟨m1,m2,m3⟩:=jl hF hl (kja h);have w1:=ih (tag+1) .nil (qp L [33] st) (Or.inr (Or.inr ⟨by omega,by omega⟩)) (by rw[show ndC (tag+1)=2 by unfold ndC;rw[if_neg (by omega),if_neg (by omega)]];omega) m3 (fun h1 h2=>by omega) h;exact Or.inr (Or.inl ⟨zh _,w1,rfl⟩)
     ·rw[if_neg n33] at h ⊢;by_cases n40:zq L [40] st=true
      ·rw[if_pos n40] at h ⊢;simp only at h ⊢;have h1:=kq7 h;obtain ⟨m1,m2,m3⟩:=jl hF hl (kja h1);exact ih 0 .nil (qp L [40] st) (Or.inl (by omega)) (by show _+7≤f;omega) m3 (fun h1 h2=>by omega) h1
      ·rw[if_neg n40] at h ⊢;by_cases hc:isConst (tk L st.at_)=true
       ·rw[if_pos hc] at h ⊢;refine Or.inl ⟨Or.inl ?_,rfl,rfl⟩;unfold isConst at hc;rw[wG] at hc;have h1:=hc.2;simp only[lY,rZ] at h1;rcases h1 with (e|e)|e
        ·exact Or.inl e
        ·exact Or.inr (Or.inl e)
        ·exact Or.inr (Or.inr e)
       ·rw[if_neg hc] at h ⊢;by_cases hd:qv7 (tk L st.at_)=true
        ·rw[if_pos hd] at h ⊢;have hk:qj6.toList=[100,105,103,105,116]:=zh _;have hb:=vv3 (qwp hL hl hd);exact Or.inl ⟨Or.inr (Or.inl ⟨hk,hb⟩),rfl,rfl⟩
        ·rw[if_neg hd] at h ⊢;exact (zj3 hF hl h).1
theorem kv9 {L:List Tok}(hL:pq L){st:RS}(hl:st.at_<L.length)(h:(rX (uz L) 0 .nil L st).2.bad=false) :
  st.bad=false∧kku (rX (uz L) 0 .nil L st).1∧(rX (uz L) 0 .nil L st).2.at_<L.length∧jc L st.at_ (rX (uz L) 0 .nil L st).2.at_ (dh (rX (uz L) 0 .nil L st).1):=by
 obtain ⟨a1,a2,a3,a4,a5⟩:=vx3 hL.qxy hl h;exact ⟨a1,jk2 L hL (uz L) 0 .nil st (Or.inl (by omega)) (by show _+7≤_;unfold uz;omega) hl (fun h1 _=>by omega) h,a4,a5⟩
def kvi:PB→Prop
 | .nil=>True
 | .node _ _ a .nil n=>(kku a.place∧∃ x,a.place=.node 0 0 x .nil .nil∧x.op.toList=[112,108,97,99,101])∧kku a.value∧a.cond=.nil∧kvi n
 | .node _ _ a (.node _ _ _ t e) n=>kku a.cond∧a.place=.nil∧a.value=.nil∧(kvi t∧kyt t≤801)∧(kvi e∧kyt e≤801)∧kvi n
theorem kvi.app:∀ {a b:PB},kvi a→kvi b→kvi (kxy a b)
 | .nil,b,_,h=>h
 | .node _ _ a .nil n,b,⟨h1,h2,h3,h4⟩,h=>⟨h1,h2,h3,h4.app h⟩
 | .node _ _ a (.node _ _ _ t e) n,b,⟨h1,h2,h3,h4,h5,h6⟩,h=>⟨h1,h2,h3,h4,h5,h6.app h⟩
theorem jj0:∀ a b:PB,kyt (kxy a b)=kyt a+kyt b
 | .nil,b=>by simp[kxy,kyt]
 | .node _ _ a s n,b=>by simp only[kxy,kyt,jj0 n b];omega
theorem qkx:∀ a b:PB,kq0 (kxy a b)=kq0 a++kq0 b
 | .nil,b=>rfl
 | .node _ _ a .nil n,b=>by simp only[kxy,kq0,qkx n b,tK]
 | .node _ _ a (.node _ _ _ t e) n,b=>by simp only[kxy,kq0,qkx n b,tK]
structure SIn (L:List Tok)(s:RS)(r:PB × RS):Prop where
 good:s.bad=false
 well:kvi r.1
 lt:r.2.at_<L.length
 nms:jc L s.at_ r.2.at_ (kq0 r.1)
 len:s.at_+kyt r.1≤r.2.at_
theorem vxi {L:List Tok}(hL:pq L){blk:RS→PB × RS}(hup:∀ s,(blk s).2.bad=false→s.bad=false)(hblk:∀ s,s.at_<L.length→(blk s).2.bad=false→SIn L s (blk s)){st:RS}(hl:st.at_<L.length)(h:(rDo blk L st).2.bad=false) :
  SIn L st (rDo blk L st)∧kyt (rDo blk L st).1=1:=by
 have hF:=hL.qxy;have hlen:=hL.len;unfold rDo at h ⊢;by_cases hi:zq L [105,102] st=true
 ·rw[if_pos hi] at h ⊢;have common:(blk (rX (uz L) 0 .nil L (qp L [105,102] st)).2).2.bad=false→st.bad=false∧(qp L [105,102] st).at_=st.at_+1∧kku (rX (uz L) 0 .nil L (qp L [105,102] st)).1 ∧
    jc L (qp L [105,102] st).at_ (rX (uz L) 0 .nil L (qp L [105,102] st)).2.at_ (dh (rX (uz L) 0 .nil L (qp L [105,102] st)).1)∧SIn L (rX (uz L) 0 .nil L (qp L [105,102] st)).2 (blk (rX (uz L) 0 .nil L (qp L [105,102] st)).2):=by
   intro hb;have hx:=hup _ hb;obtain ⟨m1,m2,m3⟩:=jl hF hl (kja hx);obtain ⟨x1,x2,x3,x4⟩:=kv9 hL m3 hx;exact ⟨m1,m2,x2,x4,hblk _ x3 hb⟩
  by_cases he:zq L [101,108,115,101] (blk (rX (uz L) 0 .nil L (qp L [105,102] st)).2).2=true
  ·rw[if_pos he] at h ⊢;simp only at h ⊢;have hm:=hup _ h;obtain ⟨g,m2,xw,xn,b1⟩:=common (kq7 hm);obtain ⟨e1,e2,e3⟩:=jl hF b1.lt hm;have b2:=hblk _ e3 h;have lx:=xn.le;have l1:=b1.len;have l2:=b2.len;have z2:=b2.lt;refine ⟨⟨g,⟨xw,rfl,rfl,⟨b1.well,by omega⟩,⟨b2.well,by omega⟩,trivial⟩,b2.lt,?_,?_⟩,rfl⟩
   ·show jc L st.at_ _ (((kws ⟨.nil,.nil,_⟩++kq0 _)++kq0 _)++kq0 .nil);rw[show kq0 (Go.Deep.BT.nil:PB)=[] from rfl,lq];exact (b2.nms.low (by omega)).app (b1.nms.app (xn.low (by omega)))
   ·show st.at_+1≤_;dsimp only;omega
  ·rw[if_neg he] at h ⊢;simp only at h ⊢;obtain ⟨g,m2,xw,xn,b1⟩:=common h;have lx:=xn.le;have l1:=b1.len;have z1:=b1.lt;refine ⟨⟨g,⟨xw,rfl,rfl,⟨b1.well,by omega⟩,⟨trivial,by simp[kyt]⟩,trivial⟩,b1.lt,?_,?_⟩,rfl⟩
   ·show jc L st.at_ _ (((kws ⟨.nil,.nil,_⟩++kq0 _)++kq0 .nil)++kq0 .nil);rw[show kq0 (Go.Deep.BT.nil:PB)=[] from rfl,lq,lq];exact b1.nms.app (xn.low (by omega))
   ·show st.at_+1≤_;dsimp only;omega
 ·rw[if_neg hi] at h ⊢;simp only at h ⊢;have hx:=kq7 h;have hm:=kja hx;have hp:=kq7 hm;obtain ⟨p1,p2,p3,p4,p5⟩:=zj4 hF hl hp;obtain ⟨pw,px⟩:=zj3 hF hl hp;obtain ⟨m1,m2,m3⟩:=jl hF p4 hm;obtain ⟨x1,x2,x3,x4⟩:=kv9 hL m3 hx;obtain ⟨e1,e2,e3⟩:=jl hF x3 h;have lp:=p5.le;have lx:=x4.le;refine ⟨⟨p1,⟨⟨pw,px⟩,x2,rfl,trivial⟩,e3,?_,?_⟩,rfl⟩
  ·show jc L st.at_ _ (kws ⟨_,_,.nil⟩++kq0 .nil);rw[show kq0 (Go.Deep.BT.nil:PB)=[] from rfl,lq];show jc L st.at_ _ ((dh _++dh _)++dh .nil);rw[show dh (Go.Deep.BT.nil:PX)=[] from rfl,lq];exact ((x4.low (by omega)).app p5).high (by dsimp only;omega)
  ·show st.at_+1≤_;dsimp only;omega
theorem kk9 {L:List Tok}{f tag:Nat}{st:RS}(h:(rS f tag L st).2.bad=false):st.bad=false:=kj0 fun e=>by rw[qvs e] at h;cases h
theorem zxt {L:List Tok}(hL:pq L):∀ (f tag:Nat) (st:RS),st.at_<L.length→(rS f tag L st).2.bad=false→SIn L st (rS f tag L st)
 | 0,tag,st,hl,h=>⟨h,trivial,hl,wX _,by simp[rS,kyt]⟩
 | f+1,0,st,hl,h=>by
  have hF:=hL.qxy;rw[rS] at h ⊢;simp only at h ⊢;have hb:=kq7 h;obtain ⟨m1,m2,m3⟩:=jl hF hl (kk9 hb);have ih:=zxt hL f 1 _ m3 hb;obtain ⟨e1,e2,e3⟩:=jl hF ih.lt h;have l1:=ih.len;exact ⟨m1,ih.well,e3,(ih.nms.low (by omega)).high (by show _≤(qp L [125] _).at_;omega),by show _≤(qp L [125] _).at_;simp only;omega⟩
 | f+1,t+1,st,hl,h=>by
  have hF:=hL.qxy;rw[rS] at h ⊢;by_cases hc:(zq L [125] st||st.bad)=true
  ·rw[if_pos hc] at h ⊢;exact ⟨h,trivial,hl,wX _,by simp[kyt]⟩
  ·rw[if_neg hc] at h ⊢;simp only at h ⊢;obtain ⟨d1,d2⟩:SIn L st (rDo (rS f 0 L) L st)∧kyt (rDo (rS f 0 L) L st).1=1:=vxi hL (fun s=>kk9) (fun s hs hb=>zxt hL f 0 s hs hb) hl (kk9 h);have ih:=zxt hL f 1 _ d1.lt h;have l1:=d1.len;have l2:=ih.len;exact ⟨d1.good,d1.well.app ih.well,ih.lt,by rw[qkx];exact ih.nms.app d1.nms,by rw[jj0];dsimp only;omega⟩
def qqo (p:PP):List Tok:=[p.name,p.set_]
theorem zvd {L:List Tok}{i b:Nat}(hl:i<L.length)(hk:((tk L i).kind.toList==[110,97,109,101])=true)(hb:i+1≤b):jc L i b [tk L i]:=⟨i,wX _,hl,rfl,hk,hb⟩
theorem vxb {L:List Tok}(hF:qkc L){st:RS}(hl:st.at_<L.length)(h:(rPP L st).2.bad=false):st.bad=false∧(rPP L st).2.at_<L.length∧jc L st.at_ (rPP L st).2.at_ (qqo (rPP L st).1):=by
 unfold rPP at h ⊢;simp only at h ⊢;have hm:=kxj h;have hk:=kq7 hm;obtain ⟨a1,a2,a3,a4,a5⟩:=kqi hF hl rfl hk;obtain ⟨b1,b2,b3⟩:=jl hF a5 hm;obtain ⟨c1,c2,c3,c4,c5⟩:=kqi hF b3 rfl h;refine ⟨a1,c5,?_⟩;unfold qqo;simp only;rw[a2,c2];exact ⟨_,wX _,hl,rfl,a3,_,by omega,b3,rfl,c3,by show _≤_;omega⟩
theorem vqv {L:List Tok}(hF:qkc L):∀ (f:Nat) (l:List PP) (st:RS),st.at_<L.length→(kw2 f L l st).2.bad=false→st.bad=false∧(kw2 f L l st).2.at_<L.length∧∃ l',(kw2 f L l st).1=l++l'∧jc L st.at_ (kw2 f L l st).2.at_ (l'.flatMap qqo)
 | 0,l,st,hl,h=>⟨h,hl,[],by simp[kw2],wX _⟩
 | f+1,l,st,hl,h=>by
  rw[kw2] at h ⊢;by_cases hb:st.bad=true
  ·rw[if_pos hb] at h;rw[hb] at h;cases h
  ·rw[if_neg hb] at h ⊢;by_cases hn:zq L [44] (rPP L st).2=true
   ·rw[if_pos hn] at h ⊢;have hm:(qp L [44] (rPP L st).2).bad=false:=kj0 fun e=>by rw[zqo e,e] at h;cases h
    obtain ⟨p1,p2,p3⟩:=vxb hF hl (kq7 hm);obtain ⟨m1,m2,m3⟩:=jl hF p2 hm;obtain ⟨i1,i2,l',i3,i4⟩:=vqv hF f _ _ m3 h;exact ⟨p1,i2,(rPP L st).1::l',by rw[i3,tK];rfl,(i4.low (by omega)).app p3⟩
   ·rw[if_neg hn] at h ⊢;simp only at h ⊢;obtain ⟨p1,p2,p3⟩:=vxb hF hl h;exact ⟨p1,p2,[(rPP L st).1],rfl,by simpa using p3⟩
theorem qx2 {L:List Tok}(hF:qkc L){st:RS}(hl:st.at_<L.length)(h:(kqn L st).2.bad=false):st.bad=false∧(kqn L st).2.at_<L.length∧jc L st.at_ (kqn L st).2.at_ ((kqn L st).1.flatMap qqo):=by
 unfold kqn at h ⊢;by_cases hn:zq L [41] (qp L [40] st)=true
 ·rw[if_pos hn] at h ⊢;simp only at h ⊢;obtain ⟨m1,m2,m3⟩:=jl hF hl (kq7 h);obtain ⟨e1,e2,e3⟩:=jl hF m3 h;exact ⟨m1,e3,by show _≤_;omega⟩
 ·rw[if_neg hn] at h ⊢;simp only at h ⊢;have hp:=kq7 h;have hm:(qp L [40] st).bad=false:=kj0 fun e=>by rw[zqo e,e] at hp;cases hp
  obtain ⟨m1,m2,m3⟩:=jl hF hl hm;obtain ⟨i1,i2,l',i3,i4⟩:=vqv hF _ _ _ m3 hp;obtain ⟨e1,e2,e3⟩:=jl hF i2 h;refine ⟨m1,e3,?_⟩;rw[i3,fD];exact (i4.low (by omega)).high (by omega)
theorem zqa {L:List Tok}{st:RS}(h:st.bad=true):∀ (f:Nat) (l:List Tok),(kkb f L l st).2=st
 | 0,_=>rfl
 | f+1,l=>by rw[kkb,if_pos h]
theorem vqo {L:List Tok}(hF:qkc L):∀ (f:Nat) (l:List Tok) (st:RS),st.at_<L.length→(kkb f L l st).2.bad=false→st.bad=false∧(kkb f L l st).2.at_<L.length∧∃ l',(kkb f L l st).1=l++l'∧jc L st.at_ (kkb f L l st).2.at_ l'
 | 0,l,st,hl,h=>⟨h,hl,[],by simp[kkb],wX _⟩
 | f+1,l,st,hl,h=>by
  rw[kkb] at h ⊢;by_cases hb:st.bad=true
  ·rw[if_pos hb] at h;rw[hb] at h;cases h
  ·rw[if_neg hb] at h ⊢;by_cases hn:(zq L [44] (qh L [110,97,109,101] st).2||decide (l.length+1<2))=true
   ·rw[if_pos hn] at h ⊢;have hm:(qp L [44] (qh L [110,97,109,101] st).2).bad=false:=kj0 fun e=>by
     rw[zqa e,e] at h;cases h
    obtain ⟨a1,a2,a3,a4,a5⟩:=kqi hF hl rfl (kq7 hm);obtain ⟨m1,m2,m3⟩:=jl hF a5 hm;obtain ⟨i1,i2,l',i3,i4⟩:=vqo hF f _ _ m3 h;refine ⟨a1,i2,(qh L [110,97,109,101] st).1::l',by rw[i3,tK];rfl,?_⟩;exact ⟨st.at_,wX _,hl,a2,by rw[a2];exact a3,i4.low (by omega)⟩
   ·rw[if_neg hn] at h ⊢;simp only at h ⊢;obtain ⟨a1,a2,a3,a4,a5⟩:=kqi hF hl rfl h;exact ⟨a1,a5,[(qh L [110,97,109,101] st).1],rfl,by rw[a2];exact zvd hl a3 (by omega)⟩
theorem jyo {L:List Tok}(hL:pq L)(st:RS)(hl:st.at_<L.length)(h:(kxx L st).2.bad=false):st.bad=false∧jjj (kxx L st).1.size∧(kxx L st).2.at_<L.length∧jc L st.at_ (kxx L st).2.at_ (zv9 (kxx L st).1):=by
 have hF:=hL.qxy;unfold kxx at h ⊢;simp only at h ⊢;have hd:=kq7 h;have hk:=kxj hd;obtain ⟨m1,m2,m3⟩:=jl hF hl (kxj hk);obtain ⟨a1,a2,a3,a4,a5⟩:=kqi hF m3 rfl hk;obtain ⟨b1,b2,b3,b4,b5⟩:=kqi hF a5 rfl hd;obtain ⟨e1,e2,e3⟩:=jl hF b5 h;refine ⟨m1,by rw[b2];exact qwp hL a5 b3,e3,?_⟩;unfold zv9;simp only;rw[a2];exact (zvd m3 a3 (by omega)).low (by omega)
theorem jq9 {L:List Tok}(hL:pq L)(st:RS)(hl:st.at_<L.length)(h:(kjx L st).2.bad=false):st.bad=false∧True∧(kjx L st).2.at_<L.length∧jc L st.at_ (kjx L st).2.at_ (kk2 (kjx L st).1):=by
 have hF:=hL.qxy;unfold kjx kwh at h ⊢;simp only at h ⊢;have hmm:=kq7 h;have hm:(qp L [123] (qh L [110,97,109,101] (qp L [107,105,110,100] st)).2).bad=false:=kj0 fun e=>by rw[zqa e,e] at hmm;cases hmm
 have hk:=kq7 hm;obtain ⟨m1,m2,m3⟩:=jl hF hl (kxj hk);obtain ⟨a1,a2,a3,a4,a5⟩:=kqi hF m3 rfl hk;obtain ⟨b1,b2,b3⟩:=jl hF a5 hm;obtain ⟨i1,i2,l',i3,i4⟩:=vqo hF _ _ _ b3 hmm;obtain ⟨e1,e2,e3⟩:=jl hF i2 h;refine ⟨m1,trivial,e3,?_⟩;unfold kk2;simp only;rw[i3,fD,a2];exact ⟨_,by omega,m3,rfl,a3,(i4.low (by omega)).high (by omega)⟩
def qq5 (t:Tok):List Tok:=if t.kind.toList==[110,97,109,101] then [t] else []
def kw1 (v:PVar):List Tok:=v.name::(qq5 v.over++qq5 v.type_)
def qyp (v:PVar):Prop:=(v.over=jy∨(v.over.kind.toList==[110,97,109,101])=true) ∧
 ((v.type_.kind.toList=[119,111,114,100]∧v.type_.text.toList=[98,111,111,108]∧v.top=jy)∨(v.type_.kind.toList=[119,111,114,100]∧v.type_.text.toList=[116,111]∧jjj v.top∧v.top.kind.toList=[100,105,103,105,116])∨(v.type_.kind.toList=[110,97,109,101]∧v.top=jy))
theorem vqd:qq5 jy=[]:=by unfold qq5;rw[kqh];rfl
theorem vzh {L:List Tok}(hF:qkc L){st:RS}(hl:st.at_<L.length)(h:(kjz L st).2.bad=false):st.bad=false∧((kjz L st).1=jy∨((kjz L st).1.kind.toList==[110,97,109,101])=true)∧(kjz L st).2.at_<L.length∧jc L st.at_ (kjz L st).2.at_ (qq5 (kjz L st).1):=by
 unfold kjz at h ⊢;by_cases hn:zq L [91] st=true
 ·rw[if_pos hn] at h ⊢;simp only at h ⊢;have hk:=kq7 h;obtain ⟨m1,m2,m3⟩:=jl hF hl (kxj hk);obtain ⟨a1,a2,a3,a4,a5⟩:=kqi hF m3 rfl hk;obtain ⟨e1,e2,e3⟩:=jl hF a5 h;refine ⟨m1,Or.inr (by rw[a2];exact a3),e3,?_⟩;unfold qq5;rw[a2,a3,if_pos rfl];exact (zvd m3 a3 (by omega)).low (by omega)
 ·rw[if_neg hn] at h ⊢;exact ⟨h,Or.inl rfl,hl,by rw[vqd];exact wX _⟩
theorem vkk {L:List Tok}(hL:pq L){st:RS}(hl:st.at_<L.length)(h:(kk5 L st).2.bad=false):st.bad=false∧(kk5 L st).2.at_<L.length ∧
  (((tk L st.at_).kind.toList=[119,111,114,100]∧(tk L st.at_).text.toList=[98,111,111,108]∧(kk5 L st).1=jy)∨((tk L st.at_).kind.toList=[119,111,114,100]∧(tk L st.at_).text.toList=[116,111]∧jjj (kk5 L st).1∧(kk5 L st).1.kind.toList=[100,105,103,105,116])∨((tk L st.at_).kind.toList=[110,97,109,101]∧(kk5 L st).1=jy)) ∧
  jc L st.at_ (kk5 L st).2.at_ (qq5 (tk L st.at_)):=by
 have hF:=hL.qxy;have wordy:∀ l:List UInt8,l∈lits→(∃ c r,l=c::r∧(decide (97≤(c.toNat:Int))&&decide ((c.toNat:Int)≤122))=true)→zq L l st=true→(tk L st.at_).kind.toList=[119,111,114,100]∧(tk L st.at_).text.toList=l∧qq5 (tk L st.at_)=[]:=fun l hm hw hn=>by
  have k:=qw1 hL hl hm hw hn;rw[rZ] at k;exact ⟨k,(kq3 hn).1,by unfold qq5;rw[k];rfl⟩
 unfold kk5 at h ⊢;by_cases hb:zq L [98,111,111,108] st=true
 ·rw[if_pos hb] at h ⊢;simp only at h ⊢;obtain ⟨m1,m2,m3⟩:=jl hF hl h;obtain ⟨k1,k2,k3⟩:=wordy _ (by decide) ⟨98,[111,111,108],rfl,by decide⟩ hb;exact ⟨m1,m3,Or.inl ⟨k1,k2,by first|rfl|trivial⟩,by rw[k3];show _≤_;omega⟩
 ·rw[if_neg hb] at h ⊢;by_cases ht:zq L [116,111] st=true
  ·rw[if_pos ht] at h ⊢;obtain ⟨m1,m2,m3⟩:=jl hF hl (kxj h);obtain ⟨a1,a2,a3,a4,a5⟩:=kqi hF m3 rfl h;obtain ⟨k1,k2,k3⟩:=wordy _ (by decide) ⟨116,[111],rfl,by decide⟩ ht;refine ⟨m1,a5,Or.inr (Or.inl ⟨k1,k2,by rw[a2];exact qwp hL m3 a3,by rw[a2];rw[rZ] at a3;exact a3⟩),by rw[k3];show _≤_;omega⟩
  ·rw[if_neg ht] at h ⊢;simp only at h ⊢;obtain ⟨a1,a2,a3,a4,a5⟩:=kqi hF hl rfl h;refine ⟨a1,a5,Or.inr (Or.inr ⟨by rw[rZ] at a3;exact a3,by first|rfl|trivial⟩),?_⟩;unfold qq5;rw[a3,if_pos rfl];exact zvd hl a3 (by omega)
theorem vzm {L:List Tok}{st:RS}(h:(kjz L st).2.bad=false):st.bad=false:=kj0 fun e=>by rw[jvp e] at h;cases h
theorem vkx {L:List Tok}{st:RS}(h:(kk5 L st).2.bad=false):st.bad=false:=kj0 fun e=>by rw[vq7 e] at h;cases h
theorem jyq {L:List Tok}(hL:pq L)(st:RS)(hl:st.at_<L.length)(h:(kyp L st).2.bad=false):st.bad=false∧qyp (kyp L st).1∧(kyp L st).2.at_<L.length∧jc L st.at_ (kyp L st).2.at_ (kw1 (kyp L st).1):=by
 have hF:=hL.qxy;unfold kyp at h ⊢;simp only at h ⊢;have ht:=kq7 h;have ho:=vkx ht;have hm:=vzm ho;have hk:=kq7 hm;obtain ⟨m1,m2,m3⟩:=jl hF hl (kxj hk);obtain ⟨a1,a2,a3,a4,a5⟩:=kqi hF m3 rfl hk;obtain ⟨b1,b2,b3⟩:=jl hF a5 hm;obtain ⟨o1,o2,o3,o4⟩:=vzh hF b3 ho;obtain ⟨t1,t2,t3,t4⟩:=vkk hL o3 ht;obtain ⟨e1,e2,e3⟩:=jl hF t2 h;refine ⟨m1,⟨o2,t3⟩,e3,?_⟩;unfold kw1;simp only;rw[a2];exact ⟨_,by omega,m3,rfl,a3,((t4.app (o4.low (by omega))).high (by omega))⟩
def kq5 (r:PRule):List Tok:=r.name::(r.params.flatMap qqo++(dh r.guard++kq0 r.body))
def ky2 (r:PRule):Prop:=kku r.guard∧kvi r.body∧kyt r.body≤801
theorem qx1 {L:List Tok}{st:RS}(h:(kqn L st).2.bad=false):st.bad=false:=kj0 fun e=>by rw[zy4 e] at h;cases h
theorem jk0 {L:List Tok}(hL:pq L)(st:RS)(hl:st.at_<L.length)(h:(kql L st).2.bad=false):st.bad=false∧ky2 (kql L st).1∧(kql L st).2.at_<L.length∧jc L st.at_ (kql L st).2.at_ (kq5 (kql L st).1):=by
 have hF:=hL.qxy;have hlen:=hL.len;unfold kql at h ⊢;simp only at h ⊢;have hg:(qje L st).2.bad=false:=kk9 h;have hm:(qp L [105,102] (qja L st).2).bad=false:=kja hg;have hp:(qja L st).2.bad=false:=kq7 hm;have hk:(zqr L st).2.bad=false:=qx1 hp;obtain ⟨m1,m2,m3⟩:=jl hF hl (kxj hk);obtain ⟨a1,a2,a3,a4,a5⟩:=kqi hF m3 rfl hk;obtain ⟨p1,p2,p3⟩:=qx2 hF a5 hp;obtain ⟨b1,b2,b3⟩:=jl hF p2 hm;obtain ⟨x1,x2,x3,x4⟩:=kv9 hL b3 hg;have s:=zxt hL _ _ _ x3 h;have l1:=s.len;have l2:=s.lt;have hbl:kyt (rS (qjp L) 0 L (qje L st).2).1≤801:=by
  have:kyt (rS (qjp L) 0 L (qje L st).2).1≤(rS (qjp L) 0 L (qje L st).2).2.at_:=rQ (Nat.le_add_left _ _) l1;have l2':(rS (qjp L) 0 L (qje L st).2).2.at_<L.length:=l2;omega
 refine ⟨m1,⟨x2,s.well,hbl⟩,l2,?_⟩;unfold kq5;simp only;rw[show (zqr L st).1=_ from a2];refine ⟨_,by omega,m3,rfl,a3,?_⟩;have c1:jc L (zqr L st).2.at_ (qja L st).2.at_ ((qja L st).1.flatMap qqo):=p3;have c2:jc L (qp L [105,102] (qja L st).2).at_ (qje L st).2.at_ (dh (qje L st).1):=x4;have c3:=s.nms;have a4':(zqr L st).2.at_=(qp L [114,117,108,101] st).at_+1:=a4;have b2':(qp L [105,102] (qja L st).2).at_=(qja L st).2.at_+1:=b2;exact ((c3.app (c2.low (by omega))).app c1).low (by omega)
theorem zyg {L:List Tok}(hL:pq L)(st:RS)(hl:st.at_<L.length)(h:(kqa L st).2.bad=false):st.bad=false∧(ky2 (kqa L st).1∧(kqa L st).1.body=.nil)∧(kqa L st).2.at_<L.length∧jc L st.at_ (kqa L st).2.at_ (kq5 (kqa L st).1):=by
 have hF:=hL.qxy;unfold kqa at h ⊢;simp only at h ⊢;have hg:(qz5 L st).2.bad=false:=kq7 h;have hp:(qk8 L st).2.bad=false:=kja hg;have hk:(qk9 L st).2.bad=false:=qx1 hp;obtain ⟨m1,m2,m3⟩:=jl hF hl (kxj hk);obtain ⟨a1,a2,a3,a4,a5⟩:=kqi hF m3 rfl hk;obtain ⟨p1,p2,p3⟩:=qx2 hF a5 hp;obtain ⟨x1,x2,x3,x4⟩:=kv9 hL p2 hg;obtain ⟨e1,e2,e3⟩:=jl hF x3 h;refine ⟨m1,⟨⟨x2,trivial,by simp[kyt]⟩,by first|rfl|trivial⟩,e3,?_⟩;unfold kq5;simp only;rw[show (qk9 L st).1=_ from a2,show kq0 (Go.Deep.BT.nil:PB)=[] from rfl,lq];refine ⟨_,by omega,m3,rfl,a3,?_⟩;have c1:jc L (qk9 L st).2.at_ (qk8 L st).2.at_ ((qk8 L st).1.flatMap qqo):=p3;have c2:jc L (qk8 L st).2.at_ (qz5 L st).2.at_ (dh (qz5 L st).1):=x4;have a4':(qk9 L st).2.at_=(qp L [110,101,118,101,114] st).at_+1:=a4;have e2':(qp L [59] (qz5 L st).2).at_=(qz5 L st).2.at_+1:=e2;exact ((c2.app c1).low (by omega)).high (by omega)
theorem kwl {α:Type}{L:List Tok}{lit:List UInt8}{one:RS→α × RS}{nm:α→List Tok}{P:α→Prop}(h1:∀ s,s.at_<L.length→(one s).2.bad=false→s.bad=false∧P (one s).1∧(one s).2.at_<L.length∧jc L s.at_ (one s).2.at_ (nm (one s).1)) :
  ∀ (f:Nat) (l:List α) (s:RS),s.at_<L.length→(loopA L lit one f l s).2.bad=false→s.bad=false∧(loopA L lit one f l s).2.at_<L.length∧∃ l',(loopA L lit one f l s).1=l++l'∧(∀ x∈l',P x)∧jc L s.at_ (loopA L lit one f l s).2.at_ (l'.flatMap nm)
 | 0,l,s,hl,h=>⟨h,hl,[],by simp[loopA],by simp,wX _⟩
 | f+1,l,s,hl,h=>by
  rw[loopA] at h ⊢;by_cases hn:zq L lit s=true
  ·rw[if_pos hn] at h ⊢;have ho:(one s).2.bad=false:=kj0 fun e=>by rw[kxq e] at h;rw[e] at h;cases h
   obtain ⟨a1,a2,a3,a4⟩:=h1 s hl ho;obtain ⟨b1,b2,l',b3,b4,b5⟩:=kwl h1 f _ _ a3 h;refine ⟨a1,b2,(one s).1::l',by rw[b3,tK];rfl,?_,b5.app a4⟩;intro x hx;rcases tX.mp hx with rfl|hx
   ·exact a2
   ·exact b4 x hx
  ·rw[if_neg hn] at h ⊢;exact ⟨h,hl,[],by simp,by simp,wX _⟩
theorem qz9 {α:Type}{L:List Tok}{lit:List UInt8}{one:RS→α × RS}{nm:α→List Tok}{P:α→Prop}(h1:∀ s,s.at_<L.length→(one s).2.bad=false→s.bad=false∧P (one s).1∧(one s).2.at_<L.length∧jc L s.at_ (one s).2.at_ (nm (one s).1)) :
  ∀ (f:Nat) (l:List α) (s:RS),s.at_<L.length→(kjf L lit one f l s).2.bad=false→s.bad=false∧(kjf L lit one f l s).2.at_<L.length∧∃ l',(kjf L lit one f l s).1=l++l'∧(∀ x∈l',P x)∧jc L s.at_ (kjf L lit one f l s).2.at_ (l'.flatMap nm)
 | 0,l,s,hl,h=>⟨h,hl,[],by simp[kjf],by simp,wX _⟩
 | f+1,l,s,hl,h=>by
  rw[kjf] at h ⊢;by_cases hb:s.bad=true
  ·rw[if_pos hb] at h;rw[hb] at h;cases h
  ·rw[if_neg hb] at h ⊢;by_cases hn:zq L lit (one s).2=true
   ·rw[if_pos hn] at h ⊢;have ho:(one s).2.bad=false:=kj0 fun e=>by rw[kx9 e] at h;rw[e] at h;cases h
    obtain ⟨a1,a2,a3,a4⟩:=h1 s hl ho;obtain ⟨b1,b2,l',b3,b4,b5⟩:=qz9 h1 f _ _ a3 h;refine ⟨a1,b2,(one s).1::l',by rw[b3,tK];rfl,?_,b5.app a4⟩;intro x hx;rcases tX.mp hx with rfl|hx
    ·exact a2
    ·exact b4 x hx
   ·rw[if_neg hn] at h ⊢;simp only at h ⊢;obtain ⟨a1,a2,a3,a4⟩:=h1 s hl h;exact ⟨a1,a3,[(one s).1],rfl,by intro x hx;rw[tY] at hx;subst hx;exact a2,by simpa using a4⟩
def kzb (t:PTree):List Tok:=t.sets.flatMap zv9++(t.kinds.flatMap kk2++(t.vars.flatMap kw1++(t.rules.flatMap kq5++t.nevers.flatMap kq5)))
structure qzm (L:List Tok)(t:PTree):Prop where
 nms:jc L 0 L.length (kzb t)
 sets:∀ s∈t.sets,jjj s.size
 vars:∀ v∈t.vars,qyp v
 rules:∀ r∈t.rules,ky2 r
 nevers:∀ r∈t.nevers,ky2 r∧r.body=.nil
theorem tree_good {L:List Tok}(hL:pq L)(h:(kqd L).2=none):qzm L (kqd L).1:=by
 have hb:(kxu L).2.bad=false:=by
  rw[qvl] at h;cases hb:(kxu L).2.bad
  ·rfl
  ·rw[hb] at h;simp at h
 have hp:=hL.pos;have hN:=hb;unfold kxu at hN;rw[kwu] at hN;have hR:(kw6 L).2.bad=false:=kj0 fun e=>by rw[kxq e] at hN;rw[e] at hN;cases hN
 have hR':=hR;unfold kw6 at hR';rw[kye] at hR';have hV:(kkn L).2.bad=false:=kj0 fun e=>by rw[kx9 e] at hR';rw[e] at hR';cases hR'
 have hV':=hV;unfold kkn at hV';rw[qqs] at hV';have hH:(kz1 L kqq).2.2.bad=false:=kj0 fun e=>by rw[kx9 e] at hV';rw[e] at hV';cases hV'
 have hH':=hH;unfold kz1 at hH';simp only at hH';rw[qq0] at hH';have hS:(ky8 (uf L) L [] kqq).2.bad=false:=kj0 fun e=>by rw[kxq e] at hH';rw[e] at hH';cases hH'
 rw[qze] at hS;obtain ⟨s1,s2,ls,s3,s4,s5⟩:=kwl (P:=fun s=>jjj s.size) (jyo hL) (uf L) [] kqq hp hS;rw[←qze] at s2 s3 s5;obtain ⟨k1,k2,lk,k3,k4,k5⟩:=kwl (P:=fun _=>True) (jq9 hL) (uf L) [] _ s2 hH';rw[←qq0] at k2 k3 k5;obtain ⟨v1,v2,lv,v3,v4,v5⟩:=qz9 (P:=qyp) (jyq hL) (uf L) [] (kz1 L kqq).2.2 k2 hV';rw[←qqs] at v2 v3 v5;obtain ⟨r1,r2,lr,r3,r4,r5⟩:=qz9 (P:=ky2) (jk0 hL) (uf L) [] (kkn L).2 v2 hR';rw[←kye] at r2 r3 r5;obtain ⟨n1,n2,ln,n3,n4,n5⟩:=kwl (P:=fun r=>ky2 r∧r.body=.nil) (zyg hL) (uf L) [] (kw6 L).2 r2 hN;rw[←kwu] at n2 n3 n5;have es:(kqd L).1.sets=ls:=by show (ky8 (uf L) L [] kqq).1=ls;rw[s3];rfl
 have ek:(kqd L).1.kinds=lk:=by show (qk5 (uf L) L [] (ky8 (uf L) L [] kqq).2).1=lk;rw[k3];rfl
 have ev:(kqd L).1.vars=lv:=by show (zqs (uf L) L [] (kz1 L kqq).2.2).1=lv;rw[v3];rfl
 have er:(kqd L).1.rules=lr:=by show (qvf (uf L) L [] (kkn L).2).1=lr;rw[r3];rfl
 have en:(kqd L).1.nevers=ln:=by show (qzi (uf L) L [] (kw6 L).2).1=ln;rw[n3];rfl
 refine ⟨?_,by rw[es];exact s4,by rw[ev];exact v4,by rw[er];exact r4,by rw[en];exact n4⟩;unfold kzb;rw[es,ek,ev,er,en];have c1:jc L 0 (ky8 (uf L) L [] kqq).2.at_ (ls.flatMap zv9):=s5;have c2:jc L (ky8 (uf L) L [] kqq).2.at_ (kz1 L kqq).2.2.at_ (lk.flatMap kk2):=k5;have c3:jc L (kz1 L kqq).2.2.at_ (kkn L).2.at_ (lv.flatMap kw1):=v5;have c4:jc L (kkn L).2.at_ (kw6 L).2.at_ (lr.flatMap kq5):=r5;have c5:jc L (kw6 L).2.at_ (kxu L).2.at_ (ln.flatMap kq5):=n5;have c6:(kxu L).2.at_<L.length:=n2;exact (((((c5.app c4).app c3).app c2).app c1)).high (by omega)
def mg (z:Int)(l:List Tok):Int:=l.foldl (fun z t=>gy z t.at_) z
theorem uq (z:Int)(a b:List Tok):mg z (a++b)=mg (mg z a) b:=lG ..
theorem jwb {z:Int}(n:Nat)(h:-1≤z):-1≤gy z n:=by unfold gy;split<;>omega
theorem kqw:∀ (l:List Tok) {z:Int},-1≤z→-1≤mg z l
 | [],z,h=>h
 | t::l,z,h=>kqw l (jwb _ h)
theorem zjx:∀ (l:List Tok) (z:Int),0≤z→mg z l≤z∧(∀ y∈l,mg z l≤y.at_)∧(mg z l=z∨∃ y∈l,mg z l=y.at_)
 | [],z,h=>⟨Int.le_refl _,fun y hy=>by simp at hy,Or.inl rfl⟩
 | t::l,z,h=>by
  have h0:0≤gy z t.at_:=by unfold gy;split<;>omega
  have hz:gy z t.at_≤z∧gy z t.at_≤t.at_∧(gy z t.at_=z∨gy z t.at_=t.at_):=by unfold gy;split<;>omega
  obtain ⟨a,b,c⟩:=zjx l _ h0;have e:mg z (t::l)=mg (gy z t.at_) l:=rfl;rw[e];refine ⟨by omega,?_,?_⟩
  ·intro y hy;rcases tX.mp hy with rfl|hy
   ·omega
   ·exact b y hy
  ·rcases c with c|⟨y,hy,c⟩
   ·rcases hz.2.2 with d|d
    ·exact Or.inl (by omega)
    ·exact Or.inr ⟨t,rY ..,by omega⟩
   ·exact Or.inr ⟨y,rJ _ hy,c⟩
theorem kyj:∀ (l:List Tok),l≠[]→(∃ y∈l,mg (-1) l=y.at_)∧∀ y∈l,mg (-1) l≤y.at_
 | [],h=>(h rfl).elim
 | t::l,_=>by
  have e:mg (-1) (t::l)=mg t.at_ l:=by
   show mg (gy (-1) t.at_) l=_;rw[show gy (-1) (t.at_:Int)=t.at_ by unfold gy;rw[if_pos (by omega)]]
  obtain ⟨a,b,c⟩:=zjx l t.at_ (by omega);rw[e];constructor
  ·rcases c with c|⟨y,hy,c⟩
   ·exact ⟨t,rY ..,c⟩
   ·exact ⟨y,rJ _ hy,c⟩
  ·intro y hy;rcases tX.mp hy with rfl|hy
   ·exact a
   ·exact b y hy
theorem zjk {l:List Tok}(h:mg (-1) l<0):l=[]:=by
 by_cases e:l=[]
 ·exact e
 ·obtain ⟨⟨y,_,hy⟩,_⟩:=kyj l e;omega
theorem vqb {a b:List Tok}(h1:∀ x∈a,∃ y∈b,y.at_≤x.at_)(h2:∀ y∈b,∃ x∈a,x.at_≤y.at_):mg (-1) a=mg (-1) b:=by
 by_cases ea:a=[]
 ·subst ea;by_cases eb:b=[]
  ·subst eb;rfl
  ·obtain ⟨y,hy⟩:=J7 b eb;obtain ⟨x,hx,_⟩:=h2 y hy;simp at hx
 ·by_cases eb:b=[]
  ·subst eb;obtain ⟨x,hx⟩:=J7 a ea;obtain ⟨y,hy,_⟩:=h1 x hx;simp at hy
  ·obtain ⟨⟨x,hx,ex⟩,lx⟩:=kyj a ea;obtain ⟨⟨y,hy,ey⟩,ly⟩:=kyj b eb;obtain ⟨y',hy',l1⟩:=h1 x hx;obtain ⟨x',hx',l2⟩:=h2 y hy;have:=lx x' hx';have:=ly y' hy';omega
theorem qk7:∀ (b:List Tok) (z:Int),0≤z→mg z b=gy z (mg (-1) b)
 | [],z,h=>by
  show z=gy z (-1);unfold gy;rw[if_neg (by omega)]
 | t::b,z,h=>by
  have e1:mg z (t::b)=mg (gy z t.at_) b:=rfl;have e2:mg (-1) (t::b)=mg t.at_ b:=by
   show mg (gy (-1) t.at_) b=_;rw[show gy (-1) (t.at_:Int)=t.at_ by unfold gy;rw[if_pos (by omega)]]
  have hg:=kqw b (z:=-1) (by omega);rw[e1,e2,qk7 b _ (by unfold gy;split<;>omega),qk7 b t.at_ (by omega)];generalize mg (-1) b=m at hg;unfold gy;repeat' split
  all_goals omega
theorem qyk (a b:List Tok):gy (mg (-1) a) (mg (-1) b)=mg (-1) (a++b):=by
 rw[uq];by_cases e:a=[]
 ·subst e;show gy (-1) _=_;unfold gy;rw[if_pos (by omega)];rfl
 ·obtain ⟨⟨y,_,hy⟩,_⟩:=kyj a e;exact (qk7 b _ (by rw[hy];omega)).symm
def kqj (c:Bool)(t:Tok):List Tok:=if c then [t] else []
theorem jg {c:Bool}{t y:Tok}:y∈kqj c t↔c=true∧y=t:=by
 unfold kqj;cases c<;>simp
def jr {α:Type}(g:Nat→α→List Tok):List α→Nat→List Tok
 | [],_=>[]
 | x::l,i=>g i x++jr g l (i+1)
theorem jf {α:Type}{g:Nat→α→List Tok}{y:Tok}:∀ (l:List α) (k:Nat),y∈jr g l k↔∃ i,∃ h:i<l.length,y∈g (k+i) l[i]
 | [],k=>by simp[jr]
 | x::l,k=>by
  rw[jr,rC,jf l (k+1)];constructor
  ·rintro (h|⟨i,hi,h⟩)
   ·exact ⟨0,by simp,by simpa using h⟩
   ·exact ⟨i+1,by simpa using hi,by simpa[J8,Zk 1 i] using h⟩
  ·rintro ⟨i,hi,h⟩;rcases i with _|i
   ·exact Or.inl (by simpa using h)
   ·exact Or.inr ⟨i,by simpa using hi,by simpa[J8,Zk 1 i] using h⟩
theorem cu {α:Type}{f:Int→Nat→α→Int}{g:Nat→α→List Tok}(h:∀ a i x,-1≤a→f a i x=mg a (g i x)):∀ (l:List α) (i:Nat) (a:Int),-1≤a→bf f l i a=mg a (jr g l i)
 | [],i,a,_=>rfl
 | x::l,i,a,ha=>by
  rw[bf,jr,uq,h a i x ha];exact cu h l _ _ (kqw _ ha)
theorem kzs {α:Type}{f:Int→α→Int}{g:α→List Tok}(h:∀ a x,-1≤a→f a x=mg a (g x)):∀ (l:List α) (a:Int),-1≤a→l.foldl f a=mg a (l.flatMap g)
 | [],a,_=>rfl
 | x::l,a,ha=>by
  rw[Q5,lD,uq,h a x ha];exact kzs h l _ (kqw _ ha)
theorem kvf (a:Int)(n:Nat)(most:Int)(t:Tok):kym a n most t=mg a (kqj (decide (most≤(n:Int))) t):=by
 unfold kym kqj;by_cases h:most≤(n:Int)
 ·rw[if_pos h,if_pos (by simpa using h)];rfl
 ·rw[if_neg h,if_neg (by simpa using h)];rfl
theorem zwt (a:Int)(t:Tok)(lo hi:Int):jjs a t lo hi=mg a (kqj (decide (yx t.text<lo∨hi<yx t.text)) t):=by
 unfold jjs kqj;by_cases h:yx t.text<lo∨hi<yx t.text
 ·rw[if_pos h,if_pos (by simpa using h)];rfl
 ·rw[if_neg h,if_neg (by simpa using h)];rfl
theorem kjh (c:Bool)(z:Int)(n:Tok):kqe c z n=mg z (kqj c n):=by
 unfold kqe kqj;cases c<;>rfl
def vzr (t:Tok)(lo hi:Int):Bool:=decide (yx t.text<lo∨hi<yx t.text)
def qS (i:Nat)(s:PSet):List Tok:=kqj (decide ((2:Int)≤i)) s.name++kqj (vzr s.size 2 3) s.size
def qM (i:Nat)(m:Tok):List Tok:=kqj (decide ((4:Int)≤i)) m
def qK (i:Nat)(k:PKind):List Tok:=kqj (decide ((2:Int)≤i)) k.name++jr qM k.members 0
def qV (i:Nat)(v:VrT):List Tok:=kqj (decide ((4:Int)≤i)) v.name++kqj ((v.si.form==1)&&vzr v.si.top 1 3) v.si.top
def qP (i:Nat)(p:PP):List Tok:=kqj (decide ((2:Int)≤i)) p.name
def qR (i:Nat)(r:PRule):List Tok:=kqj (decide ((5:Int)≤i)) r.name++jr qP r.params 0
def qN (i:Nat)(r:PRule):List Tok:=kqj (decide ((3:Int)≤i)) r.name++jr qP r.params 0
theorem jzx (m:MdL):kw3 m=mg (-1) ((((jr qS m.sets 0++jr qK m.kinds 0)++jr qV m.vars 0)++jr qR m.rules 0)++jr qN m.nevers 0):=by
 have e1:pm1 m=mg (-1) (jr qS m.sets 0):=cu (fun a i x ha=>by unfold pS qS;rw[kvf,zwt,uq];rfl) _ _ _ (by omega);have g1:-1≤mg (-1) (jr qS m.sets 0):=kqw _ (by omega);have e2:pm2 m=mg (-1) (jr qS m.sets 0++jr qK m.kinds 0):=by
  unfold pm2;rw[e1,uq];exact cu (fun a i x ha=>by
   unfold pK qK;rw[kvf,uq];exact cu (fun a i x ha=>by unfold pM qM;exact kvf _ _ _ _) _ _ _ (kqw _ ha)) _ _ _ g1
 have g2:=kqw (jr qS m.sets 0++jr qK m.kinds 0) (z:=-1) (by omega);have e3:pm3 m=mg (-1) ((jr qS m.sets 0++jr qK m.kinds 0)++jr qV m.vars 0):=by
  unfold pm3;rw[e2];refine Eq.trans ?_ (uq _ _ _).symm;exact cu (fun a i x ha=>by
   unfold pV qV;cases hk:(x.si.form==1)
   ·rw[if_neg (by simp),kvf,uq];rfl
   ·rw[if_pos rfl,kvf,zwt,uq];rfl) _ _ _ g2
 have g3:=kqw ((jr qS m.sets 0++jr qK m.kinds 0)++jr qV m.vars 0) (z:=-1) (by omega);have pp:∀ (l:List PP) (a:Int),-1≤a→bf jx9 l 0 a=mg a (jr qP l 0):=fun l a ha=>cu (fun a i x ha=>by unfold jx9 qP;exact kvf _ _ _ _) _ _ _ ha
 have e4:pm4 m=mg (-1) (((jr qS m.sets 0++jr qK m.kinds 0)++jr qV m.vars 0)++jr qR m.rules 0):=by
  unfold pm4;rw[e3];refine Eq.trans ?_ (uq _ _ _).symm;exact cu (fun a i x ha=>by unfold pR qR;rw[kvf,uq];exact pp _ _ (kqw _ ha)) _ _ _ g3
 have g4:=kqw (((jr qS m.sets 0++jr qK m.kinds 0)++jr qV m.vars 0)++jr qR m.rules 0) (z:=-1) (by omega);unfold kw3;rw[e4];refine Eq.trans ?_ (uq _ _ _).symm;exact cu (fun a i x ha=>by unfold pN qN;rw[kvf,uq];exact pp _ _ (kqw _ ha)) _ _ _ g4
theorem qzm.pw {L:List Tok}{t:PTree}(hL:pq L)(h:qzm L t):(kzb t).Pairwise (fun a b=>a.at_<b.at_):=(h.nms.ats hL.inc).2
def jxe (x:Tok)(a:Int)(_:Nat)(y:Tok):Int:=if y.text.toList==x.text.toList then gy a x.at_ else a
def vq0 (x:Tok)(a:Int)(_:Nat)(q:PP):Int:=if q.name.text.toList==x.text.toList then gy a x.at_ else a
def vjq (g:List Tok)(a:Int)(i:Nat)(x:Tok):Int:=bf (jxe x) (g.take i) 0 a
def vxa (g:List Tok)(ps:List PP)(a:Int)(k:Nat)(p:PP):Int:=bf (vq0 p.name) (ps.take k) 0 (bf (jxe p.name) g 0 a)
def vxo (g:List Tok)(a:Int)(_:Nat)(r:PRule):Int:=bf (vxa g r.params) r.params 0 a
def zvn (t:PTree):Int:=bf (vxo (zf t)) (t.rules++t.nevers) 0 (bf (vjq (zf t)) (zf t) 0 (-1))
def vxg (o:Int)(x:Tok)(a:Int):Int:=if x.kind.toList==[110,97,109,101]&&decide (o<0) then gy a x.at_ else a
def vxy (s k:Int)(x:Tok)(a:Int):Int:=if x.kind.toList==[110,97,109,101]&&decide (s<0)&&decide (k<0) then gy a x.at_ else a
def jyx (t:PTree)(a:Int)(_:Nat)(v:PVar):Int:=
 vxy (ji (kj4 t) v.type_.text.toList) (ji (kjl t) v.type_.text.toList) v.type_ (vxg (ji (kj4 t) v.over.text.toList) v.over a)
def jyk (t:PTree)(a:Int)(_:Nat)(p:PP):Int:=if ji (kj4 t) p.set_.text.toList<0 then gy a p.set_.at_ else a
def vxp (t:PTree)(ps:List PP)(a:Int)(_:Nat)(n:Tok):Int:=if qw9 t ps n.text.toList then a else gy a n.at_
def vxu (t:PTree)(a:Int)(_:Nat)(r:PRule):Int:=bf (vxp t r.params) (dh r.guard++kq0 r.body) 0 (bf (jyk t) r.params 0 a)
def vxd (t:PTree):Int:=bf (jyx t) t.vars 0 (-1)
def jxm (t:PTree):Int:=bf (vxu t) (t.rules++t.nevers) 0 (vxd t)
end Go.Proofs.YtpmcnonmkghokaaGreatDoor

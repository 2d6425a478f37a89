import Derived.Test.YtpmcnonmkghokaaGreatDoorT18
import Derived.Test.YtpmcnonmkghokaaGreatDoorT06
import Derived.Test.YtpmcnonmkghokaaGreatDoorT07
set_option linter.unusedVariables false
set_option linter.unusedSimpArgs false
namespace Go.Proofs.YtpmcnonmkghokaaGreatDoor
open Go.RowKit
theorem kj1 {p:Bool}(h:p=true→False):p=false:=by
 cases p with
 | false=>rfl
 | true=>exact (h rfl).elim
theorem kq7 {L:List Tok}{s:List UInt8}{st:RS}(h:(qg L s st).bad=false):st.bad=false:=kj1 fun e=>by rw[kjo e] at h;cases h
theorem kxr {L:List Tok}{s:List UInt8}{st:RS}(h:(qh L s st).2.bad=false):st.bad=false:=kj1 fun e=>by rw[qwz e] at h;cases h
theorem kz3 {L:List Tok}{f tag:Nat}{x:PX}{st:RS}(h:(rX f tag x L st).2.bad=false):st.bad=false:=kj1 fun e=>by rw[kql e,e] at h;cases h
def zwy:List (List UInt8):=[[124],[38],[61,61],[33,61],[60],[43],[45]]
def vws (x:ELab):Prop:=
 (x.op.toList=[116,114,117,101]∨x.op.toList=[102,97,108,115,101]∨x.op.toList=[110,111,110,101]) ∨
 (x.op.toList=[100,105,103,105,116]∧0≤x.n∧x.n≤9) ∨
 (x.op.toList=[112,108,97,99,101]∧(x.name.kind.toList==[110,97,109,101])=true∧(x.index=jk∨(x.index.kind.toList==[110,97,109,101])=true))
def kks:PX→Prop
 | .nil=>False
 | .node _ _ x a c=>(vws x∧a=.nil∧c=.nil)∨(x.op.toList=[33]∧kks a∧c=.nil)∨(x.op.toList∈zwy∧kks a∧kks c)
theorem kks.some {x:PX}(h:kks x):isNil x=false:=by
 cases x with
 | nil=>exact h.elim
 | node=>rfl
theorem vk0 {n:Nat}{t:Tok}(h:kz7 n t=true):t.text.toList∈zwy:=by
 unfold kz7 at h;rw[wY] at h;have h1:=h.1;rw[QY] at h1;obtain ⟨s,hs,e⟩:=h1;rw[wP] at e;rw[←e];have this:∀ l:List UInt8,(⟨l.toArray⟩:ByteArray).toList=l:=zy;rcases n with _|_|_|n<;>simp only[kw0,tK,nY,or_false] at hs
 ·subst hs;rw[show (ByteArray.mk #[124]).toList=[124] from this [124]];decide
 ·subst hs;rw[show (ByteArray.mk #[38]).toList=[38] from this [38]];decide
 ·rcases hs with rfl|rfl|rfl
  ·rw[show (ByteArray.mk #[61,61]).toList=[61,61] from this [61,61]];decide
  ·rw[show (ByteArray.mk #[33,61]).toList=[33,61] from this [33,61]];decide
  ·rw[show (ByteArray.mk #[60]).toList=[60] from this [60]];decide
 ·rcases hs with rfl|rfl
  ·rw[show (ByteArray.mk #[43]).toList=[43] from this [43]];decide
  ·rw[show (ByteArray.mk #[45]).toList=[45] from this [45]];decide
theorem qwe {L:List Tok}(hL:pq L){i:Nat}(hi:i<L.length)(h:((tk L i).kind.toList==[100,105,103,105,116])=true):jjd (tk L i):=by
 have hd:=(hL.ok i hi).digit;rw[h] at hd;unfold kjq inB at hd;by_cases h0:0<(tk L i).text.size
 ·rw[dif_pos h0,wY,nU,nU] at hd;exact ⟨h0,hd.1,hd.2⟩
 ·rw[dif_neg h0] at hd;cases hd
theorem vvf {t:Tok}(h:jjd t):0≤gu t.text∧gu t.text≤9:=by
 obtain ⟨h0,h1,h2⟩:=h;unfold gu;rw[dif_pos h0];omega
theorem zjg {L:List Tok}{st:RS}(hF:qv2 L)(hl:st.at_<L.length)(h:(vg L st).2.bad=false):kks (vg L st).1∧∃ x,(vg L st).1=.node 0 0 x .nil .nil∧x.op.toList=[112,108,97,99,101]:=by
 have hpl:kkb.toList=[112,108,97,99,101]:=zy _;unfold vg at h ⊢;simp only at h ⊢;by_cases hn:ql L [91] (qh L [110,97,109,101] st).2=true
 ·rw[if_pos hn] at h ⊢;simp only at h ⊢;have hk2:=kq7 h;have hm:=kxr hk2;have hk:=kq7 hm;obtain ⟨a1,a2,a3,a4,a5⟩:=kj0 hF hl rfl hk;obtain ⟨b1,b2,b3⟩:=jo hF a5 hm;obtain ⟨c1,c2,c3,c4,c5⟩:=kj0 hF b3 rfl hk2;exact ⟨Or.inl ⟨Or.inr (Or.inr ⟨hpl,by rw[a2];exact a3,Or.inr (by rw[c2];exact c3)⟩),rfl,rfl⟩,_,rfl,hpl⟩
 ·rw[if_neg hn] at h ⊢;simp only at h ⊢;obtain ⟨a1,a2,a3,a4,a5⟩:=kj0 hF hl rfl h;exact ⟨Or.inl ⟨Or.inr (Or.inr ⟨hpl,by rw[a2];exact a3,Or.inl rfl⟩),rfl,rfl⟩,_,rfl,hpl⟩
theorem jkv (L:List Tok)(hL:pq L):∀ (f tag:Nat) (x:PX) (st:RS),(tag≤4∨(10≤tag∧tag≤13)∨(20≤tag∧tag≤32))→8 * (L.length-st.at_)+ndC tag≤f→st.at_<L.length →
  (10≤tag→tag<20→kks x)→(rX f tag x L st).2.bad=false→kks (rX f tag x L st).1
 | 0,tag,x,st,ht,hf,hl,hx,h=>by exfalso;unfold ndC at hf;split at hf<;>(try split at hf)<;>omega
 | f+1,tag,x,st,ht,hf,hl,hx,h=>by
  have hF:=hL.qxt;have ih:=jkv L hL f;have inn:=vqh L hF f;have hb:st.bad=false:=kz3 h;have hbf:¬st.bad=true:=by rw[hb];simp
  rw[rX] at h ⊢;by_cases t4:tag<4
  ·rw[if_pos t4,if_neg hbf] at h ⊢;have nd:ndC tag=7-tag:=by unfold ndC;rw[if_pos (by omega)]
   have nd1:ndC (tag+1)=7-(tag+1):=by unfold ndC;rw[if_pos (by omega)]
   have h1:=kz3 h;obtain ⟨a1,a2,a3,a4,l1,a5,a6⟩:=inn (tag+1) .nil st (Or.inl (by omega)) (by rw[nd1];omega) hl (fun h1 h2=>by omega) h1;have le1:=a6.le;have w1:=ih (tag+1) .nil st (Or.inl (by omega)) (by rw[nd1];omega) hl (fun h1 h2=>by omega) h1;exact ih (10+tag) _ _ (Or.inr (Or.inl ⟨by omega,by omega⟩)) (by rw[show ndC (10+tag)=1 by unfold ndC;rw[if_neg (by omega),if_pos (by omega)]];omega) a4 (fun _ _=>w1) h
  ·rw[if_neg t4] at h ⊢;by_cases t10:tag<10
   ·rw[if_pos t10,if_neg hbf] at h ⊢;have t:tag=4:=by omega
    subst t;have nd:ndC 4=3:=rfl;exact ih 20 .nil st (Or.inr (Or.inr ⟨by omega,by omega⟩)) (by show _+2≤f;omega) hl (fun h1 h2=>by omega) h
   ·rw[if_neg t10] at h ⊢;by_cases t20:tag<20
    ·rw[if_pos t20,if_neg hbf] at h ⊢;have xw:=hx (by omega) t20;have nd:ndC tag=1:=by unfold ndC;rw[if_neg (by omega),if_pos (by omega)]
     by_cases hbin:kz7 (tag-10) (tk L st.at_)=true
     ·rw[if_pos hbin] at h ⊢;have bo:=vk0 hbin;have hsg:st.at_+1<L.length:=hF _ hl (by
       unfold kz7 at hbin;rw[wY] at hbin;have:=hbin.2;rw[wP] at this;rw[this];rfl)
      have nd':ndC (tag-9)=7-(tag-9):=by unfold ndC;rw[if_pos (by omega)]
      by_cases t12:tag=12
      ·rw[if_pos t12] at h ⊢;simp only at h ⊢;have w1:=ih (tag-9) .nil { st with at_:=st.at_+1 } (Or.inl (by omega)) (by rw[nd'];simp only;omega) hsg (fun h1 h2=>by omega) h;exact Or.inr (Or.inr ⟨bo,xw,w1⟩)
      ·rw[if_neg t12] at h ⊢;have h1:=kz3 h;obtain ⟨a1,a2,a3,a4,l1,a5,a6⟩:=inn (tag-9) .nil { st with at_:=st.at_+1 } (Or.inl (by omega)) (by rw[nd'];simp only;omega) hsg (fun h1 h2=>by omega) h1;have le1:=a6.le;have w1:=ih (tag-9) .nil { st with at_:=st.at_+1 } (Or.inl (by omega)) (by rw[nd'];simp only;omega) hsg (fun h1 h2=>by omega) h1;simp only at le1;exact ih tag _ _ (Or.inr (Or.inl ⟨by omega,by omega⟩)) (by rw[nd];omega) a4 (fun _ _=>Or.inr (Or.inr ⟨bo,xw,w1⟩)) h
     ·rw[if_neg hbin] at h ⊢;exact xw
    ·rw[if_neg t20,if_neg hbf] at h ⊢;have nd:ndC tag=2:=by unfold ndC;rw[if_neg (by omega),if_neg (by omega)]
     by_cases n33:ql L [33] st=true
     ·rw[if_pos n33] at h ⊢;by_cases t32:tag=32
      ·rw[if_pos t32] at h;simp at h
      ·rw[if_neg t32] at h ⊢;simp only at h ⊢;obtain ⟨m1,m2,m3⟩:=jo hF hl (kz3 h);have w1:=ih (tag+1) .nil (qg L [33] st) (Or.inr (Or.inr ⟨by omega,by omega⟩)) (by rw[show ndC (tag+1)=2 by unfold ndC;rw[if_neg (by omega),if_neg (by omega)]];omega) m3 (fun h1 h2=>by omega) h;exact Or.inr (Or.inl ⟨zy _,w1,rfl⟩)
     ·rw[if_neg n33] at h ⊢;by_cases n40:ql L [40] st=true
      ·rw[if_pos n40] at h ⊢;simp only at h ⊢;have h1:=kq7 h;obtain ⟨m1,m2,m3⟩:=jo hF hl (kz3 h1);exact ih 0 .nil (qg L [40] st) (Or.inl (by omega)) (by show _+7≤f;omega) m3 (fun h1 h2=>by omega) h1
      ·rw[if_neg n40] at h ⊢;by_cases hc:isConst (tk L st.at_)=true
       ·rw[if_pos hc] at h ⊢;refine Or.inl ⟨Or.inl ?_,rfl,rfl⟩;unfold isConst at hc;rw[wY] at hc;have h1:=hc.2;simp only[lg,wP] at h1;rcases h1 with (e|e)|e
        ·exact Or.inl e
        ·exact Or.inr (Or.inl e)
        ·exact Or.inr (Or.inr e)
       ·rw[if_neg hc] at h ⊢;by_cases hd:qvm (tk L st.at_)=true
        ·rw[if_pos hd] at h ⊢;have hk:kw6.toList=[100,105,103,105,116]:=zy _;have hb:=vvf (qwe hL hl hd);exact Or.inl ⟨Or.inr (Or.inl ⟨hk,hb⟩),rfl,rfl⟩
        ·rw[if_neg hd] at h ⊢;exact (zjg hF hl h).1
theorem kvy {L:List Tok}(hL:pq L){st:RS}(hl:st.at_<L.length)(h:(rX (ji L) 0 .nil L st).2.bad=false) :
  st.bad=false∧kks (rX (ji L) 0 .nil L st).1∧(rX (ji L) 0 .nil L st).2.at_<L.length∧jc L st.at_ (rX (ji L) 0 .nil L st).2.at_ (yu (rX (ji L) 0 .nil L st).1):=by
 obtain ⟨a1,a2,a3,a4,a5⟩:=vxo hL.qxt hl h;exact ⟨a1,jkv L hL (ji L) 0 .nil st (Or.inl (by omega)) (by show _+7≤_;unfold ji;omega) hl (fun h1 _=>by omega) h,a4,a5⟩
def kw1:PB→Prop
 | .nil=>True
 | .node _ _ a .nil n=>(kks a.place∧∃ x,a.place=.node 0 0 x .nil .nil∧x.op.toList=[112,108,97,99,101])∧kks a.value∧a.cond=.nil∧kw1 n
 | .node _ _ a (.node _ _ _ t e) n=>kks a.cond∧a.place=.nil∧a.value=.nil∧(kw1 t∧qq1 t≤801)∧(kw1 e∧qq1 e≤801)∧kw1 n
theorem kw1.app:∀ {a b:PB},kw1 a→kw1 b→kw1 (kz8 a b)
 | .nil,b,_,h=>h
 | .node _ _ a .nil n,b,⟨h1,h2,h3,h4⟩,h=>⟨h1,h2,h3,h4.app h⟩
 | .node _ _ a (.node _ _ _ t e) n,b,⟨h1,h2,h3,h4,h5,h6⟩,h=>⟨h1,h2,h3,h4,h5,h6.app h⟩
theorem jjq:∀ a b:PB,qq1 (kz8 a b)=qq1 a+qq1 b
 | .nil,b=>by simp[kz8,qq1]
 | .node _ _ a s n,b=>by simp only[kz8,qq1,jjq n b];omega
theorem qkm:∀ a b:PB,dh (kz8 a b)=dh a++dh b
 | .nil,b=>rfl
 | .node _ _ a .nil n,b=>by simp only[kz8,dh,qkm n b,tX]
 | .node _ _ a (.node _ _ _ t e) n,b=>by simp only[kz8,dh,qkm n b,tX]
structure SIn (L:List Tok)(s:RS)(r:PB × RS):Prop where
 good:s.bad=false
 well:kw1 r.1
 lt:r.2.at_<L.length
 nms:jc L s.at_ r.2.at_ (dh r.1)
 len:s.at_+qq1 r.1≤r.2.at_
theorem vkg {L:List Tok}(hL:pq L){blk:RS→PB × RS}(hup:∀ s,(blk s).2.bad=false→s.bad=false)(hblk:∀ s,s.at_<L.length→(blk s).2.bad=false→SIn L s (blk s)){st:RS}(hl:st.at_<L.length)(h:(rDo blk L st).2.bad=false) :
  SIn L st (rDo blk L st)∧qq1 (rDo blk L st).1=1:=by
 have hF:=hL.qxt;have hlen:=hL.len;unfold rDo at h ⊢;by_cases hi:ql L [105,102] st=true
 ·rw[if_pos hi] at h ⊢;have common:(blk (rX (ji L) 0 .nil L (qg L [105,102] st)).2).2.bad=false→st.bad=false∧(qg L [105,102] st).at_=st.at_+1∧kks (rX (ji L) 0 .nil L (qg L [105,102] st)).1 ∧
    jc L (qg L [105,102] st).at_ (rX (ji L) 0 .nil L (qg L [105,102] st)).2.at_ (yu (rX (ji L) 0 .nil L (qg L [105,102] st)).1)∧SIn L (rX (ji L) 0 .nil L (qg L [105,102] st)).2 (blk (rX (ji L) 0 .nil L (qg L [105,102] st)).2):=by
   intro hb;have hx:=hup _ hb;obtain ⟨m1,m2,m3⟩:=jo hF hl (kz3 hx);obtain ⟨x1,x2,x3,x4⟩:=kvy hL m3 hx;exact ⟨m1,m2,x2,x4,hblk _ x3 hb⟩
  by_cases he:ql L [101,108,115,101] (blk (rX (ji L) 0 .nil L (qg L [105,102] st)).2).2=true
  ·rw[if_pos he] at h ⊢;simp only at h ⊢;have hm:=hup _ h;obtain ⟨g,m2,xw,xn,b1⟩:=common (kq7 hm);obtain ⟨e1,e2,e3⟩:=jo hF b1.lt hm;have b2:=hblk _ e3 h;have lx:=xn.le;have l1:=b1.len;have l2:=b2.len;have z2:=b2.lt;refine ⟨⟨g,⟨xw,rfl,rfl,⟨b1.well,by omega⟩,⟨b2.well,by omega⟩,trivial⟩,b2.lt,?_,?_⟩,rfl⟩
   ·show jc L st.at_ _ (((kwe ⟨.nil,.nil,_⟩++dh _)++dh _)++dh .nil);rw[show dh (Go.Deep.BT.nil:PB)=[] from rfl,ni];exact (b2.nms.low (by omega)).app (b1.nms.app (xn.low (by omega)))
   ·show st.at_+1≤_;dsimp only;omega
  ·rw[if_neg he] at h ⊢;simp only at h ⊢;obtain ⟨g,m2,xw,xn,b1⟩:=common h;have lx:=xn.le;have l1:=b1.len;have z1:=b1.lt;refine ⟨⟨g,⟨xw,rfl,rfl,⟨b1.well,by omega⟩,⟨trivial,by simp[qq1]⟩,trivial⟩,b1.lt,?_,?_⟩,rfl⟩
   ·show jc L st.at_ _ (((kwe ⟨.nil,.nil,_⟩++dh _)++dh .nil)++dh .nil);rw[show dh (Go.Deep.BT.nil:PB)=[] from rfl,ni,ni];exact b1.nms.app (xn.low (by omega))
   ·show st.at_+1≤_;dsimp only;omega
 ·rw[if_neg hi] at h ⊢;simp only at h ⊢;have hx:=kq7 h;have hm:=kz3 hx;have hp:=kq7 hm;obtain ⟨p1,p2,p3,p4,p5⟩:=zjd hF hl hp;obtain ⟨pw,px⟩:=zjg hF hl hp;obtain ⟨m1,m2,m3⟩:=jo hF p4 hm;obtain ⟨x1,x2,x3,x4⟩:=kvy hL m3 hx;obtain ⟨e1,e2,e3⟩:=jo hF x3 h;have lp:=p5.le;have lx:=x4.le;refine ⟨⟨p1,⟨⟨pw,px⟩,x2,rfl,trivial⟩,e3,?_,?_⟩,rfl⟩
  ·show jc L st.at_ _ (kwe ⟨_,_,.nil⟩++dh .nil);rw[show dh (Go.Deep.BT.nil:PB)=[] from rfl,ni];show jc L st.at_ _ ((yu _++yu _)++yu .nil);rw[show yu (Go.Deep.BT.nil:PX)=[] from rfl,ni];exact ((x4.low (by omega)).app p5).high (by dsimp only;omega)
  ·show st.at_+1≤_;dsimp only;omega
theorem kkp {L:List Tok}{f tag:Nat}{st:RS}(h:(rS f tag L st).2.bad=false):st.bad=false:=kj1 fun e=>by rw[qwj e] at h;cases h
theorem zk3 {L:List Tok}(hL:pq L):∀ (f tag:Nat) (st:RS),st.at_<L.length→(rS f tag L st).2.bad=false→SIn L st (rS f tag L st)
 | 0,tag,st,hl,h=>⟨h,trivial,hl,wW _,by simp[rS,qq1]⟩
 | f+1,0,st,hl,h=>by
  have hF:=hL.qxt;rw[rS] at h ⊢;simp only at h ⊢;have hb:=kq7 h;obtain ⟨m1,m2,m3⟩:=jo hF hl (kkp hb);have ih:=zk3 hL f 1 _ m3 hb;obtain ⟨e1,e2,e3⟩:=jo hF ih.lt h;have l1:=ih.len;exact ⟨m1,ih.well,e3,(ih.nms.low (by omega)).high (by show _≤(qg L [125] _).at_;omega),by show _≤(qg L [125] _).at_;simp only;omega⟩
 | f+1,t+1,st,hl,h=>by
  have hF:=hL.qxt;rw[rS] at h ⊢;by_cases hc:(ql L [125] st||st.bad)=true
  ·rw[if_pos hc] at h ⊢;exact ⟨h,trivial,hl,wW _,by simp[qq1]⟩
  ·rw[if_neg hc] at h ⊢;simp only at h ⊢;obtain ⟨d1,d2⟩:SIn L st (rDo (rS f 0 L) L st)∧qq1 (rDo (rS f 0 L) L st).1=1:=vkg hL (fun s=>kkp) (fun s hs hb=>zk3 hL f 0 s hs hb) hl (kkp h);have ih:=zk3 hL f 1 _ d1.lt h;have l1:=d1.len;have l2:=ih.len;exact ⟨d1.good,d1.well.app ih.well,ih.lt,by rw[qkm];exact ih.nms.app d1.nms,by rw[jjq];dsimp only;omega⟩
def qjj (p:PP):List Tok:=[p.name,p.set_]
theorem zw1 {L:List Tok}{i b:Nat}(hl:i<L.length)(hk:((tk L i).kind.toList==[110,97,109,101])=true)(hb:i+1≤b):jc L i b [tk L i]:=⟨i,wW _,hl,rfl,hk,hb⟩
theorem vk9 {L:List Tok}(hF:qv2 L){st:RS}(hl:st.at_<L.length)(h:(rPP L st).2.bad=false):st.bad=false∧(rPP L st).2.at_<L.length∧jc L st.at_ (rPP L st).2.at_ (qjj (rPP L st).1):=by
 unfold rPP at h ⊢;simp only at h ⊢;have hm:=kxr h;have hk:=kq7 hm;obtain ⟨a1,a2,a3,a4,a5⟩:=kj0 hF hl rfl hk;obtain ⟨b1,b2,b3⟩:=jo hF a5 hm;obtain ⟨c1,c2,c3,c4,c5⟩:=kj0 hF b3 rfl h;refine ⟨a1,c5,?_⟩;unfold qjj;simp only;rw[a2,c2];exact ⟨_,wW _,hl,rfl,a3,_,by omega,b3,rfl,c3,by show _≤_;omega⟩
theorem vqe {L:List Tok}(hF:qv2 L):∀ (f:Nat) (l:List PP) (st:RS),st.at_<L.length→(kk6 f L l st).2.bad=false→st.bad=false∧(kk6 f L l st).2.at_<L.length∧∃ l',(kk6 f L l st).1=l++l'∧jc L st.at_ (kk6 f L l st).2.at_ (l'.flatMap qjj)
 | 0,l,st,hl,h=>⟨h,hl,[],by simp[kk6],wW _⟩
 | f+1,l,st,hl,h=>by
  rw[kk6] at h ⊢;by_cases hb:st.bad=true
  ·rw[if_pos hb] at h;rw[hb] at h;cases h
  ·rw[if_neg hb] at h ⊢;by_cases hn:ql L [44] (rPP L st).2=true
   ·rw[if_pos hn] at h ⊢;have hm:(qg L [44] (rPP L st).2).bad=false:=kj1 fun e=>by rw[zjj e,e] at h;cases h
    obtain ⟨p1,p2,p3⟩:=vk9 hF hl (kq7 hm);obtain ⟨m1,m2,m3⟩:=jo hF p2 hm;obtain ⟨i1,i2,l',i3,i4⟩:=vqe hF f _ _ m3 h;exact ⟨p1,i2,(rPP L st).1::l',by rw[i3,tX];rfl,(i4.low (by omega)).app p3⟩
   ·rw[if_neg hn] at h ⊢;simp only at h ⊢;obtain ⟨p1,p2,p3⟩:=vk9 hF hl h;exact ⟨p1,p2,[(rPP L st).1],rfl,by simpa using p3⟩
theorem qx8 {L:List Tok}(hF:qv2 L){st:RS}(hl:st.at_<L.length)(h:(kqr L st).2.bad=false):st.bad=false∧(kqr L st).2.at_<L.length∧jc L st.at_ (kqr L st).2.at_ ((kqr L st).1.flatMap qjj):=by
 unfold kqr at h ⊢;by_cases hn:ql L [41] (qg L [40] st)=true
 ·rw[if_pos hn] at h ⊢;simp only at h ⊢;obtain ⟨m1,m2,m3⟩:=jo hF hl (kq7 h);obtain ⟨e1,e2,e3⟩:=jo hF m3 h;exact ⟨m1,e3,by show _≤_;omega⟩
 ·rw[if_neg hn] at h ⊢;simp only at h ⊢;have hp:=kq7 h;have hm:(qg L [40] st).bad=false:=kj1 fun e=>by rw[zjj e,e] at hp;cases hp
  obtain ⟨m1,m2,m3⟩:=jo hF hl hm;obtain ⟨i1,i2,l',i3,i4⟩:=vqe hF _ _ _ m3 hp;obtain ⟨e1,e2,e3⟩:=jo hF i2 h;refine ⟨m1,e3,?_⟩;rw[i3,lK];exact (i4.low (by omega)).high (by omega)
theorem zjz {L:List Tok}{st:RS}(h:st.bad=true):∀ (f:Nat) (l:List Tok),(kv1 f L l st).2=st
 | 0,_=>rfl
 | f+1,l=>by rw[kv1,if_pos h]
theorem vjv {L:List Tok}(hF:qv2 L):∀ (f:Nat) (l:List Tok) (st:RS),st.at_<L.length→(kv1 f L l st).2.bad=false→st.bad=false∧(kv1 f L l st).2.at_<L.length∧∃ l',(kv1 f L l st).1=l++l'∧jc L st.at_ (kv1 f L l st).2.at_ l'
 | 0,l,st,hl,h=>⟨h,hl,[],by simp[kv1],wW _⟩
 | f+1,l,st,hl,h=>by
  rw[kv1] at h ⊢;by_cases hb:st.bad=true
  ·rw[if_pos hb] at h;rw[hb] at h;cases h
  ·rw[if_neg hb] at h ⊢;by_cases hn:(ql L [44] (qh L [110,97,109,101] st).2||decide (l.length+1<2))=true
   ·rw[if_pos hn] at h ⊢;have hm:(qg L [44] (qh L [110,97,109,101] st).2).bad=false:=kj1 fun e=>by
     rw[zjz e,e] at h;cases h
    obtain ⟨a1,a2,a3,a4,a5⟩:=kj0 hF hl rfl (kq7 hm);obtain ⟨m1,m2,m3⟩:=jo hF a5 hm;obtain ⟨i1,i2,l',i3,i4⟩:=vjv hF f _ _ m3 h;refine ⟨a1,i2,(qh L [110,97,109,101] st).1::l',by rw[i3,tX];rfl,?_⟩;exact ⟨st.at_,wW _,hl,a2,by rw[a2];exact a3,i4.low (by omega)⟩
   ·rw[if_neg hn] at h ⊢;simp only at h ⊢;obtain ⟨a1,a2,a3,a4,a5⟩:=kj0 hF hl rfl h;exact ⟨a1,a5,[(qh L [110,97,109,101] st).1],rfl,by rw[a2];exact zw1 hl a3 (by omega)⟩
theorem vqv {L:List Tok}(hL:pq L)(st:RS)(hl:st.at_<L.length)(h:(kxl L st).2.bad=false):st.bad=false∧jjd (kxl L st).1.size∧(kxl L st).2.at_<L.length∧jc L st.at_ (kxl L st).2.at_ (zvm (kxl L st).1):=by
 have hF:=hL.qxt;unfold kxl at h ⊢;simp only at h ⊢;have hd:=kq7 h;have hk:=kxr hd;obtain ⟨m1,m2,m3⟩:=jo hF hl (kxr hk);obtain ⟨a1,a2,a3,a4,a5⟩:=kj0 hF m3 rfl hk;obtain ⟨b1,b2,b3,b4,b5⟩:=kj0 hF a5 rfl hd;obtain ⟨e1,e2,e3⟩:=jo hF b5 h;refine ⟨m1,by rw[b2];exact qwe hL a5 b3,e3,?_⟩;unfold zvm;simp only;rw[a2];exact (zw1 m3 a3 (by omega)).low (by omega)
theorem jqt {L:List Tok}(hL:pq L)(st:RS)(hl:st.at_<L.length)(h:(kjw L st).2.bad=false):st.bad=false∧True∧(kjw L st).2.at_<L.length∧jc L st.at_ (kjw L st).2.at_ (kkv (kjw L st).1):=by
 have hF:=hL.qxt;unfold kjw kwl at h ⊢;simp only at h ⊢;have hmm:=kq7 h;have hm:(qg L [123] (qh L [110,97,109,101] (qg L [107,105,110,100] st)).2).bad=false:=kj1 fun e=>by rw[zjz e,e] at hmm;cases hmm
 have hk:=kq7 hm;obtain ⟨m1,m2,m3⟩:=jo hF hl (kxr hk);obtain ⟨a1,a2,a3,a4,a5⟩:=kj0 hF m3 rfl hk;obtain ⟨b1,b2,b3⟩:=jo hF a5 hm;obtain ⟨i1,i2,l',i3,i4⟩:=vjv hF _ _ _ b3 hmm;obtain ⟨e1,e2,e3⟩:=jo hF i2 h;refine ⟨m1,trivial,e3,?_⟩;unfold kkv;simp only;rw[i3,lK,a2];exact ⟨_,by omega,m3,rfl,a3,(i4.low (by omega)).high (by omega)⟩
def qqc (t:Tok):List Tok:=if t.kind.toList==[110,97,109,101] then [t] else []
def kw2 (v:PVar):List Tok:=v.name::(qqc v.over++qqc v.type_)
def qyi (v:PVar):Prop:=(v.over=jk∨(v.over.kind.toList==[110,97,109,101])=true) ∧
 ((v.type_.kind.toList=[119,111,114,100]∧v.type_.text.toList=[98,111,111,108]∧v.top=jk)∨(v.type_.kind.toList=[119,111,114,100]∧v.type_.text.toList=[116,111]∧jjd v.top∧v.top.kind.toList=[100,105,103,105,116])∨(v.type_.kind.toList=[110,97,109,101]∧v.top=jk))
theorem vj2:qqc jk=[]:=by unfold qqc;rw[kjh];rfl
theorem vxx {L:List Tok}(hF:qv2 L){st:RS}(hl:st.at_<L.length)(h:(kjv L st).2.bad=false):st.bad=false∧((kjv L st).1=jk∨((kjv L st).1.kind.toList==[110,97,109,101])=true)∧(kjv L st).2.at_<L.length∧jc L st.at_ (kjv L st).2.at_ (qqc (kjv L st).1):=by
 unfold kjv at h ⊢;by_cases hn:ql L [91] st=true
 ·rw[if_pos hn] at h ⊢;simp only at h ⊢;have hk:=kq7 h;obtain ⟨m1,m2,m3⟩:=jo hF hl (kxr hk);obtain ⟨a1,a2,a3,a4,a5⟩:=kj0 hF m3 rfl hk;obtain ⟨e1,e2,e3⟩:=jo hF a5 h;refine ⟨m1,Or.inr (by rw[a2];exact a3),e3,?_⟩;unfold qqc;rw[a2,a3,if_pos rfl];exact (zw1 m3 a3 (by omega)).low (by omega)
 ·rw[if_neg hn] at h ⊢;exact ⟨h,Or.inl rfl,hl,by rw[vj2];exact wW _⟩
theorem vki {L:List Tok}(hL:pq L){st:RS}(hl:st.at_<L.length)(h:(kkw L st).2.bad=false):st.bad=false∧(kkw L st).2.at_<L.length ∧
  (((tk L st.at_).kind.toList=[119,111,114,100]∧(tk L st.at_).text.toList=[98,111,111,108]∧(kkw L st).1=jk)∨((tk L st.at_).kind.toList=[119,111,114,100]∧(tk L st.at_).text.toList=[116,111]∧jjd (kkw L st).1∧(kkw L st).1.kind.toList=[100,105,103,105,116])∨((tk L st.at_).kind.toList=[110,97,109,101]∧(kkw L st).1=jk)) ∧
  jc L st.at_ (kkw L st).2.at_ (qqc (tk L st.at_)):=by
 have hF:=hL.qxt;have wordy:∀ l:List UInt8,l∈lits→(∃ c r,l=c::r∧(decide (97≤(c.toNat:Int))&&decide ((c.toNat:Int)≤122))=true)→ql L l st=true→(tk L st.at_).kind.toList=[119,111,114,100]∧(tk L st.at_).text.toList=l∧qqc (tk L st.at_)=[]:=fun l hm hw hn=>by
  have k:=qwu hL hl hm hw hn;rw[wP] at k;exact ⟨k,(kq0 hn).1,by unfold qqc;rw[k];rfl⟩
 unfold kkw at h ⊢;by_cases hb:ql L [98,111,111,108] st=true
 ·rw[if_pos hb] at h ⊢;simp only at h ⊢;obtain ⟨m1,m2,m3⟩:=jo hF hl h;obtain ⟨k1,k2,k3⟩:=wordy _ (by decide) ⟨98,[111,111,108],rfl,by decide⟩ hb;exact ⟨m1,m3,Or.inl ⟨k1,k2,by first|rfl|trivial⟩,by rw[k3];show _≤_;omega⟩
 ·rw[if_neg hb] at h ⊢;by_cases ht:ql L [116,111] st=true
  ·rw[if_pos ht] at h ⊢;obtain ⟨m1,m2,m3⟩:=jo hF hl (kxr h);obtain ⟨a1,a2,a3,a4,a5⟩:=kj0 hF m3 rfl h;obtain ⟨k1,k2,k3⟩:=wordy _ (by decide) ⟨116,[111],rfl,by decide⟩ ht;refine ⟨m1,a5,Or.inr (Or.inl ⟨k1,k2,by rw[a2];exact qwe hL m3 a3,by rw[a2];rw[wP] at a3;exact a3⟩),by rw[k3];show _≤_;omega⟩
  ·rw[if_neg ht] at h ⊢;simp only at h ⊢;obtain ⟨a1,a2,a3,a4,a5⟩:=kj0 hF hl rfl h;refine ⟨a1,a5,Or.inr (Or.inr ⟨by rw[wP] at a3;exact a3,by first|rfl|trivial⟩),?_⟩;unfold qqc;rw[a3,if_pos rfl];exact zw1 hl a3 (by omega)
theorem vxz {L:List Tok}{st:RS}(h:(kjv L st).2.bad=false):st.bad=false:=kj1 fun e=>by rw[jvo e] at h;cases h
theorem vke {L:List Tok}{st:RS}(h:(kkw L st).2.bad=false):st.bad=false:=kj1 fun e=>by rw[vqt e] at h;cases h
theorem jyl {L:List Tok}(hL:pq L)(st:RS)(hl:st.at_<L.length)(h:(kyo L st).2.bad=false):st.bad=false∧qyi (kyo L st).1∧(kyo L st).2.at_<L.length∧jc L st.at_ (kyo L st).2.at_ (kw2 (kyo L st).1):=by
 have hF:=hL.qxt;unfold kyo at h ⊢;simp only at h ⊢;have ht:=kq7 h;have ho:=vke ht;have hm:=vxz ho;have hk:=kq7 hm;obtain ⟨m1,m2,m3⟩:=jo hF hl (kxr hk);obtain ⟨a1,a2,a3,a4,a5⟩:=kj0 hF m3 rfl hk;obtain ⟨b1,b2,b3⟩:=jo hF a5 hm;obtain ⟨o1,o2,o3,o4⟩:=vxx hF b3 ho;obtain ⟨t1,t2,t3,t4⟩:=vki hL o3 ht;obtain ⟨e1,e2,e3⟩:=jo hF t2 h;refine ⟨m1,⟨o2,t3⟩,e3,?_⟩;unfold kw2;simp only;rw[a2];exact ⟨_,by omega,m3,rfl,a3,((t4.app (o4.low (by omega))).high (by omega))⟩
def kq6 (r:PRule):List Tok:=r.name::(r.params.flatMap qjj++(yu r.guard++dh r.body))
def ky6 (r:PRule):Prop:=kks r.guard∧kw1 r.body∧qq1 r.body≤801
theorem qx7 {L:List Tok}{st:RS}(h:(kqr L st).2.bad=false):st.bad=false:=kj1 fun e=>by rw[zyg e] at h;cases h
theorem jkz {L:List Tok}(hL:pq L)(st:RS)(hl:st.at_<L.length)(h:(kqm L st).2.bad=false):st.bad=false∧ky6 (kqm L st).1∧(kqm L st).2.at_<L.length∧jc L st.at_ (kqm L st).2.at_ (kq6 (kqm L st).1):=by
 have hF:=hL.qxt;have hlen:=hL.len;unfold kqm at h ⊢;simp only at h ⊢;have hg:(kyu L st).2.bad=false:=kkp h;have hm:(qg L [105,102] (kyy L st).2).bad=false:=kz3 hg;have hp:(kyy L st).2.bad=false:=kq7 hm;have hk:(qvz L st).2.bad=false:=qx7 hp;obtain ⟨m1,m2,m3⟩:=jo hF hl (kxr hk);obtain ⟨a1,a2,a3,a4,a5⟩:=kj0 hF m3 rfl hk;obtain ⟨p1,p2,p3⟩:=qx8 hF a5 hp;obtain ⟨b1,b2,b3⟩:=jo hF p2 hm;obtain ⟨x1,x2,x3,x4⟩:=kvy hL b3 hg;have s:=zk3 hL _ _ _ x3 h;have l1:=s.len;have l2:=s.lt;have hbl:qq1 (rS (kwj L) 0 L (kyu L st).2).1≤801:=by
  have:qq1 (rS (kwj L) 0 L (kyu L st).2).1≤(rS (kwj L) 0 L (kyu L st).2).2.at_:=rV (Nat.le_add_left _ _) l1;have l2':(rS (kwj L) 0 L (kyu L st).2).2.at_<L.length:=l2;omega
 refine ⟨m1,⟨x2,s.well,hbl⟩,l2,?_⟩;unfold kq6;simp only;rw[show (qvz L st).1=_ from a2];refine ⟨_,by omega,m3,rfl,a3,?_⟩;have c1:jc L (qvz L st).2.at_ (kyy L st).2.at_ ((kyy L st).1.flatMap qjj):=p3;have c2:jc L (qg L [105,102] (kyy L st).2).at_ (kyu L st).2.at_ (yu (kyu L st).1):=x4;have c3:=s.nms;have a4':(qvz L st).2.at_=(qg L [114,117,108,101] st).at_+1:=a4;have b2':(qg L [105,102] (kyy L st).2).at_=(kyy L st).2.at_+1:=b2;exact ((c3.app (c2.low (by omega))).app c1).low (by omega)
theorem jq4 {L:List Tok}(hL:pq L)(st:RS)(hl:st.at_<L.length)(h:(kqn L st).2.bad=false):st.bad=false∧(ky6 (kqn L st).1∧(kqn L st).1.body=.nil)∧(kqn L st).2.at_<L.length∧jc L st.at_ (kqn L st).2.at_ (kq6 (kqn L st).1):=by
 have hF:=hL.qxt;unfold kqn at h ⊢;simp only at h ⊢;have hg:(kwf L st).2.bad=false:=kq7 h;have hp:(qjv L st).2.bad=false:=kz3 hg;have hk:(qjw L st).2.bad=false:=qx7 hp;obtain ⟨m1,m2,m3⟩:=jo hF hl (kxr hk);obtain ⟨a1,a2,a3,a4,a5⟩:=kj0 hF m3 rfl hk;obtain ⟨p1,p2,p3⟩:=qx8 hF a5 hp;obtain ⟨x1,x2,x3,x4⟩:=kvy hL p2 hg;obtain ⟨e1,e2,e3⟩:=jo hF x3 h;refine ⟨m1,⟨⟨x2,trivial,by simp[qq1]⟩,by first|rfl|trivial⟩,e3,?_⟩;unfold kq6;simp only;rw[show (qjw L st).1=_ from a2,show dh (Go.Deep.BT.nil:PB)=[] from rfl,ni];refine ⟨_,by omega,m3,rfl,a3,?_⟩;have c1:jc L (qjw L st).2.at_ (qjv L st).2.at_ ((qjv L st).1.flatMap qjj):=p3;have c2:jc L (qjv L st).2.at_ (kwf L st).2.at_ (yu (kwf L st).1):=x4;have a4':(qjw L st).2.at_=(qg L [110,101,118,101,114] st).at_+1:=a4;have e2':(qg L [59] (kwf L st).2).at_=(kwf L st).2.at_+1:=e2;exact ((c2.app c1).low (by omega)).high (by omega)
theorem kwa {α:Type}{L:List Tok}{lit:List UInt8}{one:RS→α × RS}{nm:α→List Tok}{P:α→Prop}(h1:∀ s,s.at_<L.length→(one s).2.bad=false→s.bad=false∧P (one s).1∧(one s).2.at_<L.length∧jc L s.at_ (one s).2.at_ (nm (one s).1)) :
  ∀ (f:Nat) (l:List α) (s:RS),s.at_<L.length→(loopA L lit one f l s).2.bad=false→s.bad=false∧(loopA L lit one f l s).2.at_<L.length∧∃ l',(loopA L lit one f l s).1=l++l'∧(∀ x∈l',P x)∧jc L s.at_ (loopA L lit one f l s).2.at_ (l'.flatMap nm)
 | 0,l,s,hl,h=>⟨h,hl,[],by simp[loopA],by simp,wW _⟩
 | f+1,l,s,hl,h=>by
  rw[loopA] at h ⊢;by_cases hn:ql L lit s=true
  ·rw[if_pos hn] at h ⊢;have ho:(one s).2.bad=false:=kj1 fun e=>by rw[kxt e] at h;rw[e] at h;cases h
   obtain ⟨a1,a2,a3,a4⟩:=h1 s hl ho;obtain ⟨b1,b2,l',b3,b4,b5⟩:=kwa h1 f _ _ a3 h;refine ⟨a1,b2,(one s).1::l',by rw[b3,tX];rfl,?_,b5.app a4⟩;intro x hx;rcases tK.mp hx with rfl|hx
   ·exact a2
   ·exact b4 x hx
  ·rw[if_neg hn] at h ⊢;exact ⟨h,hl,[],by simp,by simp,wW _⟩
theorem qzu {α:Type}{L:List Tok}{lit:List UInt8}{one:RS→α × RS}{nm:α→List Tok}{P:α→Prop}(h1:∀ s,s.at_<L.length→(one s).2.bad=false→s.bad=false∧P (one s).1∧(one s).2.at_<L.length∧jc L s.at_ (one s).2.at_ (nm (one s).1)) :
  ∀ (f:Nat) (l:List α) (s:RS),s.at_<L.length→(kz1 L lit one f l s).2.bad=false→s.bad=false∧(kz1 L lit one f l s).2.at_<L.length∧∃ l',(kz1 L lit one f l s).1=l++l'∧(∀ x∈l',P x)∧jc L s.at_ (kz1 L lit one f l s).2.at_ (l'.flatMap nm)
 | 0,l,s,hl,h=>⟨h,hl,[],by simp[kz1],by simp,wW _⟩
 | f+1,l,s,hl,h=>by
  rw[kz1] at h ⊢;by_cases hb:s.bad=true
  ·rw[if_pos hb] at h;rw[hb] at h;cases h
  ·rw[if_neg hb] at h ⊢;by_cases hn:ql L lit (one s).2=true
   ·rw[if_pos hn] at h ⊢;have ho:(one s).2.bad=false:=kj1 fun e=>by rw[kxh e] at h;rw[e] at h;cases h
    obtain ⟨a1,a2,a3,a4⟩:=h1 s hl ho;obtain ⟨b1,b2,l',b3,b4,b5⟩:=qzu h1 f _ _ a3 h;refine ⟨a1,b2,(one s).1::l',by rw[b3,tX];rfl,?_,b5.app a4⟩;intro x hx;rcases tK.mp hx with rfl|hx
    ·exact a2
    ·exact b4 x hx
   ·rw[if_neg hn] at h ⊢;simp only at h ⊢;obtain ⟨a1,a2,a3,a4⟩:=h1 s hl h;exact ⟨a1,a3,[(one s).1],rfl,by intro x hx;rw[tV] at hx;subst hx;exact a2,by simpa using a4⟩
def kx0 (t:PTree):List Tok:=t.sets.flatMap zvm++(t.kinds.flatMap kkv++(t.vars.flatMap kw2++(t.rules.flatMap kq6++t.nevers.flatMap kq6)))
structure qzo (L:List Tok)(t:PTree):Prop where
 nms:jc L 0 L.length (kx0 t)
 sets:∀ s∈t.sets,jjd s.size
 vars:∀ v∈t.vars,qyi v
 rules:∀ r∈t.rules,ky6 r
 nevers:∀ r∈t.nevers,ky6 r∧r.body=.nil
theorem tree_good {L:List Tok}(hL:pq L)(h:(kqy L).2=none):qzo L (kqy L).1:=by
 have hb:(kx3 L).2.bad=false:=by
  rw[qwq] at h;cases hb:(kx3 L).2.bad
  ·rfl
  ·rw[hb] at h;simp at h
 have hp:=hL.pos;have hN:=hb;unfold kx3 at hN;rw[kwc] at hN;have hR:(kv6 L).2.bad=false:=kj1 fun e=>by rw[kxt e] at hN;rw[e] at hN;cases hN
 have hR':=hR;unfold kv6 at hR';rw[qqz] at hR';have hV:(kkz L).2.bad=false:=kj1 fun e=>by rw[kxh e] at hR';rw[e] at hR';cases hR'
 have hV':=hV;unfold kkz at hV';rw[qj9] at hV';have hH:(kji L kq3).2.2.bad=false:=kj1 fun e=>by rw[kxh e] at hV';rw[e] at hV';cases hV'
 have hH':=hH;unfold kji at hH';simp only at hH';rw[qqv] at hH';have hS:(kyp (pz L) L [] kq3).2.bad=false:=kj1 fun e=>by rw[kxt e] at hH';rw[e] at hH';cases hH'
 rw[qx5] at hS;obtain ⟨s1,s2,ls,s3,s4,s5⟩:=kwa (P:=fun s=>jjd s.size) (vqv hL) (pz L) [] kq3 hp hS;rw[←qx5] at s2 s3 s5;obtain ⟨k1,k2,lk,k3,k4,k5⟩:=kwa (P:=fun _=>True) (jqt hL) (pz L) [] _ s2 hH';rw[←qqv] at k2 k3 k5;obtain ⟨v1,v2,lv,v3,v4,v5⟩:=qzu (P:=qyi) (jyl hL) (pz L) [] (kji L kq3).2.2 k2 hV';rw[←qj9] at v2 v3 v5;obtain ⟨r1,r2,lr,r3,r4,r5⟩:=qzu (P:=ky6) (jkz hL) (pz L) [] (kkz L).2 v2 hR';rw[←qqz] at r2 r3 r5;obtain ⟨n1,n2,ln,n3,n4,n5⟩:=kwa (P:=fun r=>ky6 r∧r.body=.nil) (jq4 hL) (pz L) [] (kv6 L).2 r2 hN;rw[←kwc] at n2 n3 n5;have es:(kqy L).1.sets=ls:=by show (kyp (pz L) L [] kq3).1=ls;rw[s3];rfl
 have ek:(kqy L).1.kinds=lk:=by show (qkv (pz L) L [] (kyp (pz L) L [] kq3).2).1=lk;rw[k3];rfl
 have ev:(kqy L).1.vars=lv:=by show (qyx (pz L) L [] (kji L kq3).2.2).1=lv;rw[v3];rfl
 have er:(kqy L).1.rules=lr:=by show (kw5 (pz L) L [] (kkz L).2).1=lr;rw[r3];rfl
 have en:(kqy L).1.nevers=ln:=by show (kvc (pz L) L [] (kv6 L).2).1=ln;rw[n3];rfl
 refine ⟨?_,by rw[es];exact s4,by rw[ev];exact v4,by rw[er];exact r4,by rw[en];exact n4⟩;unfold kx0;rw[es,ek,ev,er,en];have c1:jc L 0 (kyp (pz L) L [] kq3).2.at_ (ls.flatMap zvm):=s5;have c2:jc L (kyp (pz L) L [] kq3).2.at_ (kji L kq3).2.2.at_ (lk.flatMap kkv):=k5;have c3:jc L (kji L kq3).2.2.at_ (kkz L).2.at_ (lv.flatMap kw2):=v5;have c4:jc L (kkz L).2.at_ (kv6 L).2.at_ (lr.flatMap kq6):=r5;have c5:jc L (kv6 L).2.at_ (kx3 L).2.at_ (ln.flatMap kq6):=n5;have c6:(kx3 L).2.at_<L.length:=n2;exact (((((c5.app c4).app c3).app c2).app c1)).high (by omega)
def dw (z:Int)(l:List Tok):Int:=l.foldl (fun z t=>uf z t.at_) z
theorem xu (z:Int)(a b:List Tok):dw z (a++b)=dw (dw z a) b:=lY ..
theorem jy4 {z:Int}(n:Nat)(h:-1≤z):-1≤uf z n:=by unfold uf;split<;>omega
theorem kqv:∀ (l:List Tok) {z:Int},-1≤z→-1≤dw z l
 | [],z,h=>h
 | t::l,z,h=>kqv l (jy4 _ h)
theorem zjn:∀ (l:List Tok) (z:Int),0≤z→dw z l≤z∧(∀ y∈l,dw z l≤y.at_)∧(dw z l=z∨∃ y∈l,dw z l=y.at_)
 | [],z,h=>⟨Int.le_refl _,fun y hy=>by simp at hy,Or.inl rfl⟩
 | t::l,z,h=>by
  have h0:0≤uf z t.at_:=by unfold uf;split<;>omega
  have hz:uf z t.at_≤z∧uf z t.at_≤t.at_∧(uf z t.at_=z∨uf z t.at_=t.at_):=by unfold uf;split<;>omega
  obtain ⟨a,b,c⟩:=zjn l _ h0;have e:dw z (t::l)=dw (uf z t.at_) l:=rfl;rw[e];refine ⟨by omega,?_,?_⟩
  ·intro y hy;rcases tK.mp hy with rfl|hy
   ·omega
   ·exact b y hy
  ·rcases c with c|⟨y,hy,c⟩
   ·rcases hz.2.2 with d|d
    ·exact Or.inl (by omega)
    ·exact Or.inr ⟨t,rG ..,by omega⟩
   ·exact Or.inr ⟨y,rU _ hy,c⟩
theorem kym:∀ (l:List Tok),l≠[]→(∃ y∈l,dw (-1) l=y.at_)∧∀ y∈l,dw (-1) l≤y.at_
 | [],h=>(h rfl).elim
 | t::l,_=>by
  have e:dw (-1) (t::l)=dw t.at_ l:=by
   show dw (uf (-1) t.at_) l=_;rw[show uf (-1) (t.at_:Int)=t.at_ by unfold uf;rw[if_pos (by omega)]]
  obtain ⟨a,b,c⟩:=zjn l t.at_ (by omega);rw[e];constructor
  ·rcases c with c|⟨y,hy,c⟩
   ·exact ⟨t,rG ..,c⟩
   ·exact ⟨y,rU _ hy,c⟩
  ·intro y hy;rcases tK.mp hy with rfl|hy
   ·exact a
   ·exact b y hy
theorem zjl {l:List Tok}(h:dw (-1) l<0):l=[]:=by
 by_cases e:l=[]
 ·exact e
 ·obtain ⟨⟨y,_,hy⟩,_⟩:=kym l e;omega
theorem vj4 {a b:List Tok}(h1:∀ x∈a,∃ y∈b,y.at_≤x.at_)(h2:∀ y∈b,∃ x∈a,x.at_≤y.at_):dw (-1) a=dw (-1) b:=by
 by_cases ea:a=[]
 ·subst ea;by_cases eb:b=[]
  ·subst eb;rfl
  ·obtain ⟨y,hy⟩:=JV b eb;obtain ⟨x,hx,_⟩:=h2 y hy;simp at hx
 ·by_cases eb:b=[]
  ·subst eb;obtain ⟨x,hx⟩:=JV a ea;obtain ⟨y,hy,_⟩:=h1 x hx;simp at hy
  ·obtain ⟨⟨x,hx,ex⟩,lx⟩:=kym a ea;obtain ⟨⟨y,hy,ey⟩,ly⟩:=kym b eb;obtain ⟨y',hy',l1⟩:=h1 x hx;obtain ⟨x',hx',l2⟩:=h2 y hy;have:=lx x' hx';have:=ly y' hy';omega
theorem qku:∀ (b:List Tok) (z:Int),0≤z→dw z b=uf z (dw (-1) b)
 | [],z,h=>by
  show z=uf z (-1);unfold uf;rw[if_neg (by omega)]
 | t::b,z,h=>by
  have e1:dw z (t::b)=dw (uf z t.at_) b:=rfl;have e2:dw (-1) (t::b)=dw t.at_ b:=by
   show dw (uf (-1) t.at_) b=_;rw[show uf (-1) (t.at_:Int)=t.at_ by unfold uf;rw[if_pos (by omega)]]
  have hg:=kqv b (z:=-1) (by omega);rw[e1,e2,qku b _ (by unfold uf;split<;>omega),qku b t.at_ (by omega)];generalize dw (-1) b=m at hg;unfold uf;repeat' split
  all_goals omega
theorem qys (a b:List Tok):uf (dw (-1) a) (dw (-1) b)=dw (-1) (a++b):=by
 rw[xu];by_cases e:a=[]
 ·subst e;show uf (-1) _=_;unfold uf;rw[if_pos (by omega)];rfl
 ·obtain ⟨⟨y,_,hy⟩,_⟩:=kym a e;exact (qku b _ (by rw[hy];omega)).symm
def kqz (c:Bool)(t:Tok):List Tok:=if c then [t] else []
theorem jd {c:Bool}{t y:Tok}:y∈kqz c t↔c=true∧y=t:=by
 unfold kqz;cases c<;>simp
def jl {α:Type}(g:Nat→α→List Tok):List α→Nat→List Tok
 | [],_=>[]
 | x::l,i=>g i x++jl g l (i+1)
theorem je {α:Type}{g:Nat→α→List Tok}{y:Tok}:∀ (l:List α) (k:Nat),y∈jl g l k↔∃ i,∃ h:i<l.length,y∈g (k+i) l[i]
 | [],k=>by simp[jl]
 | x::l,k=>by
  rw[jl,rM,je l (k+1)];constructor
  ·rintro (h|⟨i,hi,h⟩)
   ·exact ⟨0,by simp,by simpa using h⟩
   ·exact ⟨i+1,by simpa using hi,by simpa[Qp,Jk 1 i] using h⟩
  ·rintro ⟨i,hi,h⟩;rcases i with _|i
   ·exact Or.inl (by simpa using h)
   ·exact Or.inr ⟨i,by simpa using hi,by simpa[Qp,Jk 1 i] using h⟩
theorem yh {α:Type}{f:Int→Nat→α→Int}{g:Nat→α→List Tok}(h:∀ a i x,-1≤a→f a i x=dw a (g i x)):∀ (l:List α) (i:Nat) (a:Int),-1≤a→gy f l i a=dw a (jl g l i)
 | [],i,a,_=>rfl
 | x::l,i,a,ha=>by
  rw[gy,jl,xu,h a i x ha];exact yh h l _ _ (kqv _ ha)
theorem kxz {α:Type}{f:Int→α→Int}{g:α→List Tok}(h:∀ a x,-1≤a→f a x=dw a (g x)):∀ (l:List α) (a:Int),-1≤a→l.foldl f a=dw a (l.flatMap g)
 | [],a,_=>rfl
 | x::l,a,ha=>by
  rw[Qe,lU,xu,h a x ha];exact kxz h l _ (kqv _ ha)
theorem kvi (a:Int)(n:Nat)(most:Int)(t:Tok):qq0 a n most t=dw a (kqz (decide (most≤(n:Int))) t):=by
 unfold qq0 kqz;by_cases h:most≤(n:Int)
 ·rw[if_pos h,if_pos (by simpa using h)];rfl
 ·rw[if_neg h,if_neg (by simpa using h)];rfl
theorem zy7 (a:Int)(t:Tok)(lo hi:Int):jz0 a t lo hi=dw a (kqz (decide (gu t.text<lo∨hi<gu t.text)) t):=by
 unfold jz0 kqz;by_cases h:gu t.text<lo∨hi<gu t.text
 ·rw[if_pos h,if_pos (by simpa using h)];rfl
 ·rw[if_neg h,if_neg (by simpa using h)];rfl
theorem kjl (c:Bool)(z:Int)(n:Tok):kqu c z n=dw z (kqz c n):=by
 unfold kqu kqz;cases c<;>rfl
def vxy (t:Tok)(lo hi:Int):Bool:=decide (gu t.text<lo∨hi<gu t.text)
def qS (i:Nat)(s:PSet):List Tok:=kqz (decide ((2:Int)≤i)) s.name++kqz (vxy s.size 2 3) s.size
def qM (i:Nat)(m:Tok):List Tok:=kqz (decide ((4:Int)≤i)) m
def qK (i:Nat)(k:PKind):List Tok:=kqz (decide ((2:Int)≤i)) k.name++jl qM k.members 0
def qV (i:Nat)(v:VrT):List Tok:=kqz (decide ((4:Int)≤i)) v.name++kqz ((v.si.form==1)&&vxy v.si.top 1 3) v.si.top
def qP (i:Nat)(p:PP):List Tok:=kqz (decide ((2:Int)≤i)) p.name
def qR (i:Nat)(r:PRule):List Tok:=kqz (decide ((5:Int)≤i)) r.name++jl qP r.params 0
def qN (i:Nat)(r:PRule):List Tok:=kqz (decide ((3:Int)≤i)) r.name++jl qP r.params 0
theorem jzw (m:MdL):kvq m=dw (-1) ((((jl qS m.sets 0++jl qK m.kinds 0)++jl qV m.vars 0)++jl qR m.rules 0)++jl qN m.nevers 0):=by
 have e1:pm1 m=dw (-1) (jl qS m.sets 0):=yh (fun a i x ha=>by unfold pS qS;rw[kvi,zy7,xu];rfl) _ _ _ (by omega);have g1:-1≤dw (-1) (jl qS m.sets 0):=kqv _ (by omega);have e2:pm2 m=dw (-1) (jl qS m.sets 0++jl qK m.kinds 0):=by
  unfold pm2;rw[e1,xu];exact yh (fun a i x ha=>by
   unfold pK qK;rw[kvi,xu];exact yh (fun a i x ha=>by unfold pM qM;exact kvi _ _ _ _) _ _ _ (kqv _ ha)) _ _ _ g1
 have g2:=kqv (jl qS m.sets 0++jl qK m.kinds 0) (z:=-1) (by omega);have e3:pm3 m=dw (-1) ((jl qS m.sets 0++jl qK m.kinds 0)++jl qV m.vars 0):=by
  unfold pm3;rw[e2];refine Eq.trans ?_ (xu _ _ _).symm;exact yh (fun a i x ha=>by
   unfold pV qV;cases hk:(x.si.form==1)
   ·rw[if_neg (by simp),kvi,xu];rfl
   ·rw[if_pos rfl,kvi,zy7,xu];rfl) _ _ _ g2
 have g3:=kqv ((jl qS m.sets 0++jl qK m.kinds 0)++jl qV m.vars 0) (z:=-1) (by omega);have pp:∀ (l:List PP) (a:Int),-1≤a→gy jxg l 0 a=dw a (jl qP l 0):=fun l a ha=>yh (fun a i x ha=>by unfold jxg qP;exact kvi _ _ _ _) _ _ _ ha
 have e4:pm4 m=dw (-1) (((jl qS m.sets 0++jl qK m.kinds 0)++jl qV m.vars 0)++jl qR m.rules 0):=by
  unfold pm4;rw[e3];refine Eq.trans ?_ (xu _ _ _).symm;exact yh (fun a i x ha=>by unfold pR qR;rw[kvi,xu];exact pp _ _ (kqv _ ha)) _ _ _ g3
 have g4:=kqv (((jl qS m.sets 0++jl qK m.kinds 0)++jl qV m.vars 0)++jl qR m.rules 0) (z:=-1) (by omega);unfold kvq;rw[e4];refine Eq.trans ?_ (xu _ _ _).symm;exact yh (fun a i x ha=>by unfold pN qN;rw[kvi,xu];exact pp _ _ (kqv _ ha)) _ _ _ g4
theorem qzo.pw {L:List Tok}{t:PTree}(hL:pq L)(h:qzo L t):(kx0 t).Pairwise (fun a b=>a.at_<b.at_):=(h.nms.ats hL.inc).2
def jkq (x:Tok)(a:Int)(_:Nat)(y:Tok):Int:=if y.text.toList==x.text.toList then uf a x.at_ else a
def vqu (x:Tok)(a:Int)(_:Nat)(q:PP):Int:=if q.name.text.toList==x.text.toList then uf a x.at_ else a
def vjo (g:List Tok)(a:Int)(i:Nat)(x:Tok):Int:=gy (jkq x) (g.take i) 0 a
def vky (g:List Tok)(ps:List PP)(a:Int)(k:Nat)(p:PP):Int:=gy (vqu p.name) (ps.take k) 0 (gy (jkq p.name) g 0 a)
def vkw (g:List Tok)(a:Int)(_:Nat)(r:PRule):Int:=gy (vky g r.params) r.params 0 a
def zw8 (t:PTree):Int:=gy (vkw (zf t)) (t.rules++t.nevers) 0 (gy (vjo (zf t)) (zf t) 0 (-1))
def vk6 (o:Int)(x:Tok)(a:Int):Int:=if x.kind.toList==[110,97,109,101]&&decide (o<0) then uf a x.at_ else a
def vk4 (s k:Int)(x:Tok)(a:Int):Int:=if x.kind.toList==[110,97,109,101]&&decide (s<0)&&decide (k<0) then uf a x.at_ else a
def jyf (t:PTree)(a:Int)(_:Nat)(v:PVar):Int:=
 vk4 (vk (kj6 t) v.type_.text.toList) (vk (kja t) v.type_.text.toList) v.type_ (vk6 (vk (kj6 t) v.over.text.toList) v.over a)
def jyo (t:PTree)(a:Int)(_:Nat)(p:PP):Int:=if vk (kj6 t) p.set_.text.toList<0 then uf a p.set_.at_ else a
def vk7 (t:PTree)(ps:List PP)(a:Int)(_:Nat)(n:Tok):Int:=if qwh t ps n.text.toList then a else uf a n.at_
def vk5 (t:PTree)(a:Int)(_:Nat)(r:PRule):Int:=gy (vk7 t r.params) (yu r.guard++dh r.body) 0 (gy (jyo t) r.params 0 a)
def vk8 (t:PTree):Int:=gy (jyf t) t.vars 0 (-1)
def jxi (t:PTree):Int:=gy (vk5 t) (t.rules++t.nevers) 0 (vk8 t)
end Go.Proofs.YtpmcnonmkghokaaGreatDoor

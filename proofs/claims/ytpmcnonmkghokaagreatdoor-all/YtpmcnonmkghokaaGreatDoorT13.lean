import Derived.Test.YtpmcnonmkghokaaGreatDoorT12
import Derived.Test.YtpmcnonmkghokaaGreatDoorT05
import Derived.WalkMore
import Derived.Test.YtpmcnonmkghokaaGreatDoorT10
import Derived.Test.YtpmcnonmkghokaaGreatDoorT08
import Derived.Test.YtpmcnonmkghokaaGreatDoorT11
set_option maxRecDepth 100000
set_option maxHeartbeats 16000000
set_option linter.unusedVariables false
set_option linter.unusedSimpArgs false
namespace Go.Proofs.YtpmcnonmkghokaaGreatDoor
open Go.Proofs.Tryz Go.RowKit
attribute [local go_sem ↓] Go.wp_at_zero Go.wp_at_succ
variable {d:Bool}{d9:ByteArray}{most:Int}{ks:List (List Int)}{a7 g9:List ByteArray}{st:List Int}{ts:List Turn}{vs:List Value}{v:MView}{a:Mach}{B E M O S T b cc fb gc lo n nb pc sb sc sn so:Nat}{g4 pa sa ta:Option Addr}{r:SRep}{s:SSt}{x y z:Value}{w w':World}
section
theorem pxs(h:zz4 so w M nb a)(d:MachOk a)(F:w.ownsRow 0 5 1 (.slice sa sn sc) st.length (st.map (Value.int .u8)))(x:st.length<=1000000)(hv:lookO a st=some v):Calls prog 78 #[pT M,.slice sa sn sc] w λe w'=>rT e (i_<|endOf v)/\oq w w':=by
 have⟨z,⟨ta,tc,cs,h1,A,B⟩,⟨N,O,ds,C,D,E⟩,_,_⟩:=h;go_in;go_wp21;refine(py6 z F h1 A B d.X C D E d.q d.z x d.sl d.nl jG hv).mono ?_;rintro e P ⟨x5,rfl,⟨y,en,ec,wa,Q,G,ba,bn,bc,rfl,J,t,u⟩,f⟩;obtain⟨H,I,g,-⟩:=qp u;obtain⟨K,L,i,-⟩:=qp t;injection g with m g p;injection i with q i s;subst g;subst i;subst m;subst p;subst q;subst s;have j:=f.alloc f.size<|.cells #[.string v.x,.slice y en ec,.slice wa v.xz.length G,.slice ba v.xs.length bc,.bool (kx2 v)] 24;by_cases c1:0<v.xs.length
 ·have k:(0:Int)<v.xs.length:=by omega
  go_wp2;go_ret;simp_all [endOf]
 ·have k:¬(0:Int)<v.xs.length:=by omega
  cases c2:kx2 v
  ·rw[c2]at j;by_cases c3:0<v.xz.length
   ·have l:(0:Int)<v.xz.length:=by omega
    go_wp2;go_ret;simp_all [endOf]
   ·have l:¬(0:Int)<v.xz.length:=by omega
    go_wp2;go_ret;simp_all [endOf]
  ·rw[c2]at j;go_wp2;go_ret;simp_all [endOf]
section
open Go.Sort
theorem pw5(h:w.ownsRow B 9 1 (.slice sa sn sc) a7.length (a7.map Value.string))(y:a7.length<=1000000):og 134 #[.slice sa sn sc] w λe w'=>rT e (.tuple #[])/\w'.ownsRow B 9 1 (.slice sa sn sc) a7.length (a7.reverse.map Value.string)/\kqg (qqc<|.slice sa sn sc) w w':=by
 obtain⟨f,m⟩|⟨g,cap,cur,f,m,e3,p,e5,q,e7⟩:=h.2
 ·injection f with f k i;subst f;subst k;subst i;have hn:a7=[]:=Qv m;subst hn;have d:=Any.slices_Reverse_string_empty Tryz.revS none 0 w;refine d.mono ?_;grind [kqg.refl]
 ·injection f with f k i;subst f;subst k;subst i;have s:∀(b:ByteArray),encStr b.data.toList=.string b:=λb=>ay
  have hH:Holds encStr w g 0 (a7.map λb=>b.data.toList).toArray:=by
   intro j t;have v:j<a7.length:=by simp_all
   refine⟨?_,?_⟩
   ·rw[getElem!_pos _ j t];unfold World.cell?;simp only[e3,Jc];have h9:cur.toList[j]?=(a7.map Value.string)[j]?:=by grind
    simp_all
   ·unfold World.frozen?;simp[e3]
  have d:=Any.slices_Reverse_string Tryz.revS g 0 sc (a7.map λb=>b.data.toList) w hH (by grind);rw[Ql]at d;refine d.mono ?_;rintro e w' ⟨rfl,n,u⟩;have l:w'=sortWorld encStr w g 0 n (a7.map λb=>b.data.toList).reverse.toArray #[]:=by rw[u];unfold sortWorld;simp
  refine⟨rfl,?_,by rw[l];exact qjo _ _ _ _ _ _ _⟩;refine⟨ay,.inr ⟨g,sc,_,rfl,m,by rw[l];exact zqr _ _ _ _ _ _ e3,p,e5,by simp[putCells,q],?_⟩⟩;have x:((a7.map λb=>b.data.toList).reverse.toArray).size=a7.length:=ay;grind [zqf,List.map_reverse,List.map_congr_left]
end
theorem jxa(h:kjy B w S O M gc cc sb fb ts s)(a1:0<lo->lo<s.m.length)(a2:s.m.length<=1000000)(a0:lo<=1000000)(HR:zk7 s.m lo lo []=some a7):Calls prog 80 #[pT S,i_ lo] w λe w'=>∃v,e=.returned v/\w'.ownsRow w.heap.size 9 1 v a7.length (a7.reverse.map Value.string)/\oq w w':=by
 have⟨la,ll,lc,cs,F,P,J⟩:=h.e;have⟨xa,xc,ex,A⟩:=qp P;injection ex with U V W;have C:=wQ F;go_in
 go_wp21;go_loopw [5,6] (λx i wr=>∃(n k:Nat)(acc:List ByteArray)(sa:Option Addr)(sn sc:Nat),i=i_ k/\k<=n/\k<=lo/\acc.length+k<=lo/\zk7 s.m n k acc=some a7/\x=.slice sa sn sc/\wr.ownsRow w.heap.size 9 1 (.slice sa sn sc) acc.length (acc.map Value.string)/\oq w wr) (λ_ i _=>(intOf i).toNat)
 ·grind [World.ownsRow_nil,Below.refl]
 obtain⟨n,k,acc,sa,sn,sc,rfl,Z,Y,X,l,rfl,f,j⟩:=hrel;have I:=j.size;cases k with
 |zero=>
  have N:acc=a7:=by grind [zk7]
  subst N;go_wp21;refine zM (pw5 f aj) ?_;rintro w5 ⟨HX,E⟩;have R:=j.trans (E.below I (λq hq=>(jo f) q (by grind [qqc])))
  go_wp2;go_ret;simp_all
 |succ k=>
  cases n with
  |zero=>omega
  |succ n=>
   have⟨x,u,l⟩:=wu.1 l;have H:x.J<=k:=by simp_all
   rw[lJ H]at l;have d:k+1<s.m.length:=aj;rw[wW d]at u;injection u with u;obtain⟨wa,wn,wc,c0,c1,c2,-⟩:=J.2 (k+1) d;rw[u]at c1 c2;obtain⟨g,rfl,_,D,L⟩:=A (k+1) d;have z0:=kz3<|(j.block S C).trans F;have e2:wr.cell? (Ad g ((k+1)*3+2))=some (.string x.E):=by rw[j.cell (p:=⟨g,(k+1)*3+2,none⟩) D,L _ aj];exact c2
   go_wp2_with (at_builtin;refine apO (f.alloc _) ?_)
   intro v6 Q y t _ K;obtain⟨a6,l6,c6,rfl⟩:=qh y;have z:=(j.alloc aj<|.cells #[.string x.E] 9).grown t ah<|jo f;have a8:=kz3<|(z.block S C).trans F;have T:Q.cell? ⟨g,(k+1)*3+1,none⟩=some (i_ x.J):=by obtain⟨a3,a5,a4,c0,c1,c2,-⟩:=J.2 (k+1) d;have⟨g',m,_,_,G⟩:=A (k+1) d;injection m with m;injection m with m;subst m;rw[z.cell (p:=⟨g,(k+1)*3+1,none⟩) D,G _ aj,c1,u]
   go_wp2;go_roundw
   case rel=>grind
   case measure=>exact ou
end
variable {d:Bool}{d9:ByteArray}{most:Int}{ks:List (List Int)}{a7 g9:List ByteArray}{st:List Int}{ts:List Turn}{vs:List Value}{v:MView}{a:Mach}{B E M O S T b cc fb gc lo n nb pc sb sc sn so:Nat}{g4 pa sa ta:Option Addr}{r:SRep}{s:SSt}{x y z:Value}{w w':World}
theorem xqn(f:Fnd)(k:List Int)(x:SWay):(qzc f k x).length<=f.length+1:=by unfold qzc;grind
theorem zv5{a8:SWay}{a9:Fnd}{b9:List Int}{d7:Fnd×List Int}(h:qx9 a ts a8 a9 b9=some d7):d7.1.length<=a9.length+1:=by
 unfold qx9 at h;split at h
 ·have⟨r,_,h⟩:=wu.1 h;grind [xqn]
 simp_all
theorem zjx:∀(l:List MStep)(f:Fnd)(c:List Int)(q:Fnd×List Int×Bool),kzc a ts M B st l f c=some q->f.length<=M->q.1.length<=M+1/\(q.2.2=false->q.1.length<=M)
 |[],f,c,q,h,hf=>by grind [kzc]
 |s::l,f,c,q,h,hf=>by
  rw[kzc]at h;have⟨r,_,h⟩:=wu.1 h;split at h
  ·have⟨e,d,h⟩:=wu.1 h;have h1:=zv5 d;split at h
   ·grind
   ·exact zjx l _ _ q h aj
  ·exact zjx l _ _ q h hf
theorem zvc:∀(l:List SWay)(at_:Nat)(f:Fnd)(c:List Int)(q:Fnd×List Int),kjh a ts M l at_ f c=some q->f.length<=M->q.1.length<=M+1
 |[],_,f,c,q,h,hf=>by grind [kjh]
 |x::l,at_,f,c,q,h,hf=>by
  rw[kjh]at h;split at h
  ·have⟨e,d,h⟩:=wu.1 h;have h1:=zjx _ _ _ _ d hf;cases hb:e.2.2
   ·rw[hb,Xy ay]at h;exact zvc l _ _ _ q h<|h1.2 hb
   grind
  simp_all
theorem pxj(s:SSt):(jd s).m.length<=s.m.length+s.P.length/\s.m.length<=(jd s).m.length:=by grind [jd,kv5,qyh,newF]
theorem zys:∀(l:List Int)(ts r:List Turn),kkm l ts=some r->ts.length<=100000->r.length<=100000
 |[],ts,r,h,ht=>by grind [kkm]
 |n::l,ts,r,h,ht=>by
  rw[kkm]at h;split at h
  ·rename_i d;exact zys l _ r h d.2.2
  simp_all
theorem xjp(h:zz4 so w M nb a)(l:MachOk a)(k:Nat)(i:k<a.X.length):∃g tc pa pn pc ma mn mc p ba bn bc,Ce w M 0 (sL g a.X.length tc)/\g<w.heap.size/\Ce w g (k*6) (.string a.X[k].x)/\Ce w g (k*6+1) (pT M)/\Ce w g (k*6+2) (.slice pa pn pc)/\Ce w g (k*6+3) (.slice ma mn mc)/\Ce w g (k*6+4) (.pointer p)/\Ce w g (k*6+5) (.slice ba bn bc) /\
   ∀(wx:World)(st:List Int)(sa:Option Addr)(sn sc:Nat)(r:List Int×Int),oq w wx->wx.ownsRow 0 5 1 (.slice sa sn sc) st.length (st.map<|Value.int .u8)->st.length<=1000000->kwi a.z a.C a.X[k].u a.X[k].xy st a.X[k].guard a.X[k].block=some r ->
    og 79 #[.agg #[.string a.X[k].x,pT M,.slice pa pn pc,.slice ma mn mc,.pointer p,.slice ba bn bc],.slice sa sn sc] wx λe w'=>∃v,rT e (.tuple #[v,i_ r.2])/\w'.ownsRow wx.heap.size 5 1 v r.1.length (r.1.map<|Value.int .u8)/\oq wx w':=by have⟨t,⟨ta,tc,cs,h1,u,x⟩,_,_,_⟩:=h;have⟨xa,xc,m,j⟩:=qp u;injection m with m _ e3;subst m;subst e3;obtain⟨g,rfl,_,q,d⟩:=j k i;have⟨pa,pn,pc,ma,mn,mc,p,ba,bn,bc,bs,no,e,i1,i2,i3,i4,i5⟩:=x.2 k i;have⟨A,s1,B,s3,C,D⟩:=pvm e;have f:=l.X a.X[k] (wZ _);refine⟨g,tc,pa,pn,pc,ma,mn,mc,p,ba,bn,bc,h1,q,(d _ aj).trans A,(d _ aj).trans s1,(d _ aj).trans B,(d _ aj).trans s3,(d _ aj).trans C,(d _ aj).trans D,?_⟩;intro wx st sa sn sc r hb y s z;exact jks no a.X[k].x ba bn bc bs (t.below hb) (qj i1 hb) (qj i2 hb) y l.z f.1 s (i3.below hb) f.2.1 ⟨qj i4 hb,i5.stay (λk _ i=>hb.block k i),f.2.2.1,f.2.2.2.1,f.2.2.2.2⟩ jG z
def qq7(w:World)(r:SRep)(e:Ending)(w':World):Prop:=
 ∃ta tn tc,rT e (.tuple #[.agg #[i_ r.end_,.slice ta tn tc,i_ r.xr],i_ r.err])/\w'.ownsRow w.heap.size 9 1 (.slice ta tn tc) r.xq.length (r.xq.map Value.string)/\oq w w'
theorem jwm{d8:TypeId}(h:Rw w b #[x,y,z] d8)(y0 y1 y2:Value):Rw (((w.setCell (Ad b 0) y0).setCell (Ad b 1) y1).setCell (Ad b 2) y2) b #[y0,y1,y2] d8:=by have h1:Rw (w.setCell (Ad b 0) y0) b #[y0,y,z] d8:=jD b 0 _ _ _ h;have d:Rw ((w.setCell (Ad b 0) y0).setCell (Ad b 1) y1) b #[y0,y1,z] d8:=jD b 1 _ _ _ h1;exact jD b 2 _ _ _ d
theorem qyt(w:World)(b:Nat)(y0 y1 y2:Value):kqg [b] w (((w.setCell (Ad b 0) y0).setCell (Ad b 1) y1).setCell (Ad b 2) y2):=
 (((kqg.refl [b] w).set (.inl ay) y0).set (.inl ay) y1).set (.inl ay) y2
theorem xv2(h:kvr w b ks vs)(e:prog.underlying T=some (.map 9 E))(ty:Nat):(Builtin.len_ #[T] ty #[.map (some b)]).run prog w=.ok (i_ ks.length) w:=by
 have⟨es,g,h1,d,_⟩:=h.ents;have f:es.size=ks.length:=by have:=congrArg List.length d;simp[h.T]at this;rw[h.T];omega
 simp[Builtin.len_,Q7 e,MapKept.run_getObj_map h1,Result.andThen,f];rfl
theorem py1(h:kvr w b ks vs)(e:prog.underlying T=some (.map 9 E))(ty:Nat):∃w',(Builtin.clear_ #[T] ty #[.map (some b)]).run prog w=.ok (.tuple #[]) w'/\kvr w' b [] []/\kqg [b] w w':=by have⟨es,d,h1,f,_⟩:=h.ents;refine⟨ChangeMaps.setBlock w b<|.map #[] d,?_,⟨⟨#[],d,ChangeMaps.heap_setBlock_same h1 _,rfl,ay,ay⟩,rfl,Jd,ay⟩,qxg h1⟩;simp[Builtin.clear_,Q7 e,MapKept.run_getObj_map h1,MapKept.run_setObj_map _ h1,Result.andThen,ChangeMaps.setBlock]
theorem kjy.zyg(h:kjy B w S O M gc cc sb fb ts s)(k:Nat)(p:k<s.m.length):∃g lc e i f,Ce w S 1 (sL g s.m.length lc)/\g<w.heap.size/\Ce w g (k*3) (.slice e i f)/\zqc B w gc s.m[k].U (.slice e i f):=by have⟨la,ll,lc,cs,q,t,u⟩:=h.e;have⟨xa,xc,ex,d⟩:=qp t;injection ex with j l m;subst j;subst l;subst m;have z0:=kz3 q;obtain⟨g,rfl,_,x,v⟩:=d k p;have⟨e,i,f,c0,_,_,y⟩:=u.2 k p;grind
theorem kjy.qv2(h:kjy B w S O M gc cc sb fb ts s):∃la lc,Ce w S 1 (.slice la s.m.length lc)/\Ce w S 3 (.map (some fb)):=by have⟨la,ll,lc,cs,g,i,j⟩:=h.e;have⟨xa,xc,ex,_⟩:=qp i;injection ex with d e f;subst d;subst e;subst f;have z0:=kz3 g;simp_all[Ce]
theorem kjy.cleared(h:kjy B w S O M gc cc sb fb ts s)(f:kvr w' fb [] [])(d:kqg [fb] w w'):kjy B w' S O M gc cc sb fb ts ⟨s.m,s.Z,[],s.cur⟩:=by
 have⟨tv,g⟩:=h.orb;have⟨vs,i,j⟩:=h.Z;exact h.turned (d.wide ay) rfl (qj7 g.xu d (λk e f=>by injection e with e;have l:gc=k:=e;simp at f;exact h.pxt.1 aj)) (i.stay d<|by simpa using h.ne) j f ⟨rfl,λk d=>by grind⟩
def xv6(w:World)(S:Nat):Nat:=match w.cell? ⟨S,1,none⟩ with|some (.slice _ n _)=>n|_=>0
theorem jyz(h:Ce w S 1 (.slice ta n M)):xv6 w S=n:=by unfold xv6;rw[h]
abbrev RdS(S:Nat)(wv:Value)(w:World):Prop:=w.cell? ⟨S,1,none⟩=some wv/\True
abbrev ReS(S:Nat)(wv:Value)(b:Nat)(tx:ByteArray)(M:Nat)(pv e d bv:Value)(f j:Nat)(g:Value)(w:World):Prop:=w.cell? ⟨S,1,none⟩=some wv/\w.cell? ⟨b,0,none⟩=some (.string tx)/\w.cell? ⟨b,1,none⟩=some (.pointer (some ⟨M,0,none⟩))/\w.cell? ⟨b,2,none⟩=some pv/\w.cell? ⟨b,3,none⟩=some e/\w.cell? ⟨b,4,none⟩=some d/\w.cell? ⟨b,5,none⟩=some bv/\w.cell? ⟨f,j,none⟩=some g
theorem ReS.below{e9 g0:Value}{g3:Value}(h:ReS S x b d9 M y z e9 g0 O gc g3 w)(hb:Below B w w')(h1:S<B)(d:b<B)(e:O<B):ReS S x b d9 M y z e9 g0 O gc g3 w':=by have⟨f,s1,g,s3,i,j,k,l⟩:=h;exact⟨(hb.cell (p:=⟨S,1,none⟩) h1).trans f,(hb.cell (p:=⟨b,0,none⟩) d).trans s1,(hb.cell (p:=⟨b,1,none⟩) d).trans g,(hb.cell (p:=⟨b,2,none⟩) d).trans s3,(hb.cell (p:=⟨b,3,none⟩) d).trans i,(hb.cell (p:=⟨b,4,none⟩) d).trans j,(hb.cell (p:=⟨b,5,none⟩) d).trans k,(hb.cell (p:=⟨O,gc,none⟩) e).trans l⟩
theorem vz5(h:w.heap[b]?=some (.map #[] M)):kvr w b [] []:=⟨⟨#[],M,h,rfl,ay,ay⟩,rfl,Jd,ay⟩
theorem pq9(ev:Int)(hR:Rw w' w.heap.size #[i_ 0,nS,i_ 0] 46)(h:w'.ownsRow lo 9 1 (.slice ta M B) a7.length (a7.reverse.map Value.string))(g:w.heap.size<=lo)(hb:oq w w'):Rw (puts w.heap.size [i_ ev,.slice ta M B,i_ n] 0 w') w.heap.size #[i_ ev,.slice ta M B,i_ n] 46/\qq7 w ⟨0,ev,a7.reverse,n⟩ (.returned<|.tuple #[.agg #[i_ ev,.slice ta M B,i_ n],i_ 0]) (puts w.heap.size [i_ ev,.slice ta M B,i_ n] 0 w'):=by
 have f:=qyt w' w.heap.size (i_ ev) (.slice ta M B)<|i_ n;refine⟨zju (k:=0) hR,ta,M,B,rfl,?_,hb.trans<|f.below hb.size ay⟩;show World.ownsRow _ _ _ _ _ a7.reverse.length _;rw[Zb];refine qo g (kkv h f<|λq i c fr d=>?_);have e:q=w.heap.size:=by simpa using i
 rw[e,hR]at d;injection d with d;injection d with _ d _;exact absurd d ak
theorem vvv(h:zz4 so w M nb a)(dJ:MachOk a)(cU:Ce w M 2 (.slice g4 lo T))(cZ:w.ownsRow 0 3 1 (.slice g4 lo T) a.j.length (a.j.map (Value.int .i64)))(h3:a.j.length<=1000)(I:jqy a most=some r):Calls prog 44 #[pT M,i_ most] w (qq7 w r):=by
 have⟨W,hW⟩:=cpy<|w.alloc (.cells #[i_ 0,nS,i_ 0] 46);have aP:oq w W:=jM;have eY:W.heap.size=w.heap.size+1:=by rw[hW];simp
 have cY:Rw W w.heap.size #[i_ 0,nS,i_ 0] 46:=kK;have⟨cJ,cQ,gB⟩:=jF aP cY hW.symm;unfold jqy at I;by_cases bJ:most<1\/500<most
 ·rw[lJ bJ]at I;injection I with I;have⟨P,cM⟩:=jS I.symm (show qq7 w (qq3 8) (.returned<|.tuple #[.agg #[i_ 0,nS,i_ 0],i_ 8]) (w.alloc<|.cells #[i_ 0,nS,i_ 0] 46) from⟨none,0,0,rfl,oN,jZ _⟩);clear h dJ cU cZ I cY aP hW eY;by_cases h1:most<1
  case' neg=>have h2:500<most:=aj
  all_goals
   go_enter func44,ntmps44
   go_wp21;go_step3
   go_wp2;try rw[Exit.noGoto_ret]
   refine tK (v:=.tuple #[.agg #[i_ 0,nS,i_ 0],i_ 8]) (kjv results44 _ _ w.heap.size _ _ _ _ rfl (qy) underlying46 rfl au) rfl ?_;rw[ku P];exact cM
 ·rw[Xy bJ]at I;have dN:a.size<=1000000:=by apply Qp;intro hc;rw[Xy hc]at I;cases I
  rw[lJ dN]at I;have⟨ts,dQ,I⟩:=wu.1 I;have⟨q0,aR,I⟩:=wu.1 I;obtain⟨m,hm⟩:∃m:Nat,most=m:=⟨most.toNat,aj⟩;subst hm;rw[tX]at I;have eS:1<=m:=aj;have iG:m<=500:=aj;have iE:¬((m:Int)<1):=aj;have iF:¬((500:Int)<m):=aj;have gJ:=h.lt;have cV:=h.below aP;have fY:=zv5 aR;have i0:0<a.size:=by
   unfold qx9 at aR;split at aR
   ·rename_i hc;simpa[kzs] using hc.1
   ·cases aR
  have fA:ts.length<=1000000:=by have:=zys _ _ _ dQ ay;omega
  have⟨eI,aM,aY,HR,g6⟩:=jz (vw3 aj ((aP.cell (p:=⟨M,2,none⟩) gJ).trans cU) (qj cZ aP) cV.size dN h3 dQ) cV dJ I aR;have fW:∀X:World,(Instr.makeMap 166 none).run prog X=.ok (.map<|some X.heap.size) (X.alloc<|.map #[] 0):=λX=>rfl
  have fX:∀X:World,(Instr.makeMap 167 none).run prog X=.ok (.map<|some X.heap.size) (X.alloc<|.map #[] 0):=λX=>rfl
  clear h dJ cU cZ I dQ aR cY aP hW bJ cV;go_enter func44,ntmps44
  go_wp21;go_step3
  go_wp21;rw[ku gB];refine eI.mono ?_;rintro e y ⟨O,tv,cv,rfl,cW,eN,b4,gL,d8⟩;have gZ:=d8.size;have⟨w4,aH⟩:=cpy<|((y.alloc<|.map #[] 0).alloc<|.map #[] 0).alloc (.cells #[pT O,nS,.map (some y.heap.size),.map (some (y.heap.size+1))] 170);have J:oq y w4:=by rw[aH];exact((jZ y).alloc ay _).alloc ah _
  have iL:w4.heap.size=y.heap.size+3:=by rw[aH];simp
  obtain⟨gc,cc,gQ⟩:∃gc cc,cv=sL gc a.size cc:=by
   rcases b4.2 with⟨G,e2⟩|⟨g,cap,cur,G,_⟩
   ·omega
   ·exact⟨g,cap,G⟩
  subst gQ;have e9:W.heap.size<=gc:=jo b4 gc rfl;have eA:gc<y.heap.size:=by have⟨c,fr,e⟩:=qj8 b4 gc (by simp[qqc,Value.ownBlock]);exact wQ e
  have dF:w4.heap[y.heap.size]?=some (.map #[] 0):=by rw[aH];have G:(y.alloc<|.map #[] 0).heap[y.heap.size]?=some (.map #[] 0):=Xk y _;rw[heap_alloc_old _ _ ah,heap_alloc_old _ _ ay];exact G
  have dH:w4.heap[y.heap.size+1]?=some (.map #[] 0):=by rw[aH,heap_alloc_old _ _ ay];have G:=Xk (y.alloc<|.map #[] 0)<|.map #[] 0;simp only[tV]at G;exact G
  have dI:w4.heap[y.heap.size+2]?=some (.cells #[pT O,nS,.map<|some y.heap.size,.map (some<|y.heap.size+1)] 170 (0,0)):=by rw[aH];have G:=qy (w:=(y.alloc<|.map #[] 0).alloc<|.map #[] 0) (o:=.cells #[pT O,nS,.map (some y.heap.size),.map (some (y.heap.size+1))] 170);simp only[tV]at G;exact G
  have a4:kjy W.heap.size w4 (y.heap.size+2) O M gc cc y.heap.size (y.heap.size+1) ts ⟨[],[],[],List.replicate a.size 0⟩:=by
   refine⟨⟨none,0,0,[],dI,oN,rfl,λk hk=>by simp at hk⟩,⟨tv,?_,?_,?_⟩,⟨[],vz5 dF,ay⟩,⟨[],vz5 dH,rfl,λk hk=>by simp at hk⟩,aj,aj,aj,aj,aj⟩
   ·show w4.heap[O]?=some (.cells #[_,_,.slice _ (List.replicate a.size (0:Int)).length _] _ _);rw[Qh];exact(J.block O<|wQ cW).trans cW
   ·have⟨la,ll,lc,cs,G,e2,e3⟩:=eN.tk (yt J none []) (pz.none _) ay ay ay;exact⟨la,ll,lc,cs,G,qo jG e2,e3⟩
   ·show w4.ownsRow _ _ _ (.slice _ (List.replicate a.size (0:Int)).length _) (List.replicate a.size (0:Int)).length _;rw[Qh];exact qj b4 J
  have⟨S,hS⟩:=cpy<|y.heap.size+2;have⟨sb,eZ⟩:=cpy y.heap.size;have⟨fb,eR⟩:=cpy<|y.heap.size+1;rw[<-hS,<-eR,<-eZ]at a4;have bM:oq W w4:=d8.trans<|J.mono gZ;have⟨B,hB⟩:=cpy W.heap.size;rw[<-hB]at a4;have⟨Y,cK,eE,gA⟩:=jE a4 bM (zw8 w4 M a.size (aM.below bM).size dN) aH.symm;have eO:y.heap.size+2=S:=hS.symm;have g9:=oz hS;have hJ:S<w4.heap.size:=aj;have gG:B=W.heap.size:=hB;have a8:=oz hB;have gH:B<=w4.heap.size:=aj;have hI:w.heap.size<B:=aj;clear cW eN b4 d8 J aH dF dH dI a4 bM eZ eR e9 eA gL eI hS eO hB gG;go_wp21
  rw[ku gA,<-ku g9];refine eE.mono ?_;rintro e w5 ⟨v5,rfl,a1,L⟩;obtain⟨a5,l5,c5,rfl⟩:=qh a1;have iM:=L.size;have bL:oq W w5:=cK.trans (L.mono (by have:=ku a8;omega));have aX:=oz (vxg a5 l5 c5 (Y.below L) ((aM.below bL).mc) (show zqc B w5 gc (kzs a).U (.slice a5 l5 c5) from⟨by
   show w5.ownsRow B 5 1 (.slice a5 l5 c5) (List.replicate a.size (0:Int)).length _;rw[Qh];exact qo gH a1,λG=>by have h9:=jo a1 gc G;have h8:=Y.lts.2.2.1;omega⟩) aY.z fA aj g6)
  have cH:=oz bL;clear a1 L bL eE;go_wp21;refine zM aX ?_;rintro w6 ⟨D,aF⟩;have iN:=aF.size;have⟨fJ,g2⟩:=jS D (cH.trans (show Below W.heap.size w5 w6 by rw[<-ku a8];exact aF));clear D aF aX cH;go_wp21;go_step3
  go_wp21;have⟨aL,fC⟩:=jS (show ∀wx:World,Below B W wx->oq W wx from λwx hx=>hx.mono<|Nat.le_of_eq (ku a8).symm) (show Below B W w6 by rw[ku a8];exact g2);have hH:B<=W.heap.size:=by have:=ku a8;omega
  have hY:w.heap.size<W.heap.size:=aj;have gI:M<B:=by have:=ku a8;omega
  clear eY fW fX cK Y;go_loopw [7,8,9,10,11,13,14,15] (λe7 e8 _ _ _ _ _ _ wr=>∃(n:Nat)(s:SSt),e7=i_ 0/\e8=i_ 0/\kjy B wr S O M gc cc sb fb ts s/\kjk a ts m n s=some r/\s.m.length<=m/\s.P.length<=m+1/\Below B W wr) (λ_ _ _ _ _ _ _ _ wr=>1000-xv6 wr S);exact⟨502,⟨[],[],q0.1,q0.2⟩,rfl,rfl,fJ,HR,ay,by simp at fY |-;omega,fC⟩;obtain⟨wo,rfl⟩:=cpy wr;obtain⟨n,s,rfl,rfl,bQ,U,iR,iA,hb⟩:=hrel;have i1:=hb.size;cases n with
  |zero=>rw[kjk]at U;cases U
  |succ n=>
   rw[kjk]at U;have iD:=pxj s;obtain⟨oa,oc,ow,-⟩:=bQ.qv2;have⟨eG,eF,Q,HB⟩:=jE (jyz ow) (vx6 bQ aj aj aj) U hb;clear bQ U hb ow;generalize jd s=l at *;go_wp21;go_step3
   go_wp21;refine zM eF ?_;rintro w2 ⟨a3,d9⟩;have iJ:=d9.size;have⟨iS,iW,z1,z3⟩:=a3.qv2;have dA:=HB.trans d9;have⟨cR,aS⟩:=jS a3 dA;have eO:=a3.lts.1;clear a3 d9 dA eF;by_cases Z:m<l.m.length
   ·have d:=ku Q;rw[lJ Z]at d;injection d with d;have P:=oz d.symm;have cX:=(aS.block w.heap.size aj).trans cQ;have⟨k0,k1,k2,cD,cE,cF⟩:=row3 cX;have⟨g7,cM⟩:=jS (jwm cX (i_ 0) nS (i_ 0)) (show qq7 w (qq3 9) (.returned<|.tuple #[.agg #[i_ 0,nS,i_ 0],i_ 9]) (((w2.setCell (Ad w.heap.size 0)<|i_ 0).setCell (Ad w.heap.size 1)<|nS).setCell (Ad w.heap.size 2)<|i_ 0) from⟨none,0,0,rfl,oN,(cJ.trans<|aS.mono aj).trans<|(qyt w2 w.heap.size _ _ _).below aj ay⟩);have e6:(m:Int)<l.m.length:=aj;have i5:w.heap.size<w2.heap.size:=aj;clear d cX Z;go_wp2
    try rw[Exit.noGoto_ret]
    refine tK (v:=.tuple #[.agg #[i_ 0,nS,i_ 0],i_ 9]) (kjv results44 _ _ w.heap.size _ _ _ _ rfl g7 underlying46 rfl au) rfl ?_;rw[ku P];exact cM
   ·have e6:¬((m:Int)<l.m.length):=by omega
    by_cases V:l.m.length=s.m.length
    ·have d:=ku Q;rw[Xy Z,lJ (by simpa using V)]at d;unfold qxm at d;have⟨lt,R,d⟩:=wX.1 d;have⟨P,bI,aD,a9⟩:=jE d.symm R cR (aL w2 aS);have bO:0<0->0<l.m.length:=λh=>aj
     have gY:((s.m.length:Int)==(l.m.length:Int))=true:=by simp[V]
     have h4:l.m.length<=1000:=aj;clear d R V Z Q;obtain⟨aI,hE,aJ,hD,aK,bA,-⟩:=(aD.below<|(Below.refl _ w2).drew).e;obtain⟨hF,hG,dV,-⟩:=qp bA;injection dV with bT bU bV;subst bT;subst bU;subst bV;obtain⟨dW,bB,dX,dY,-⟩:=kz3 aK;have⟨b2,b3⟩:=jS (show RdS S (.slice aI l.m.length aJ) w2.drew from⟨bB,trivial⟩) (jxa (aD.below<|(Below.refl _ w2).drew) bO aj aj bI);have h5:=a9.size;have d7:S<w2.heap.size:=wQ aK;clear aK bA dW bB dX dY;go_upto_region 28 with fail
     rw[Exit.noGoto_exit];go_upto_region 28 with fail
     refine bg (S:=RdS S<|.slice aI l.m.length aJ) (tl:=[7,8]) au ?_;refine frS 0 ?_;refine frS 1 ?_;refine frS 3 ?_;refine tkS 4 b2 ?_;refine frS 5 ?_;refine onS 2 λK E=>?_
     go_simp;go_at_call 80
     refine b3.mono ?_;rintro e wt ⟨vt,rfl,aG,b5⟩;obtain⟨ta,tn,tc,rfl⟩:=qh aG;have A:oq w2 wt:=qql b5;have fZ:=A.size;have bH:=oz (show RdS S (.slice aI l.m.length aJ) wt from⟨(A.cell (p:=⟨S,1,none⟩) d7).trans b2.1,trivial⟩);have aE:Rw wt w.heap.size #[i_ 0,nS,i_ 0] 46:=(A.block w.heap.size aj).trans<|(a9.block w.heap.size aj).trans cQ;have⟨k0,k1,k2,cD,cE,cF⟩:=row3 aE;have HE:=oz (pq9 0 aE aG (show w.heap.size<=w2.heap.size by omega) ((cJ.trans<|a9.mono aj).trans<|A.mono aj) (n:=l.m.length));clear aG b5 A aE b3;dsimp only;refine E _ _ bH ?_;clear E K;try simp only[Act.put,Qy,QW,QY]
     refine frS 6 ?_;refine kyj ?_;refine onA 7 λK E=>?_
     go_simp;refine E _ _ ?_;clear E K;refine onA 8 λK E=>?_
     go_simp;refine E _ _ ?_;clear E K;refine wpAny_done au ?_ _;clear k0 k1 k2 cD cE cF;go_wp2;try rw[Exit.noGoto_ret]
     rw[ku P];exact tK (v:=.tuple #[.agg #[i_ 0,.slice ta tn tc,i_ l.m.length],i_ 0]) (kjv results44 _ _ w.heap.size _ _ _ _ rfl HE.1 underlying46 rfl au) rfl HE.2
    ·have hP:s.m.length<l.m.length:=by omega
     have gY:((s.m.length:Int)==(l.m.length:Int))=false:=by rw[QG];omega
     have d:=ku Q;rw[Xy Z,Xy (by simpa using V)]at d;have⟨x,hx,d⟩:=wu.1 d;have⟨eD,a2⟩:=jS hx d;have h4:l.m.length<=500:=aj;have dC:decide (m<l.m.length)=false:=ah
     clear d hx V Z Q;go_wp21;try rw[dC]
     clear dC;go_loopw [7,8,10] (λe7 e8 i wr=>∃k:Nat,i=i_ k/\s.m.length<=k/\k<=l.m.length/\e7=i_ 0/\e8=i_ 0/\zwz a (l.m.drop k) k=some x/\kjy B wr S O M gc cc sb fb ts l/\Below B W wr) (λ_ _ i _=>l.m.length-(intOf i).toNat);exact⟨s.m.length,rfl,jV,aj,rfl,rfl,eD,cR,aS⟩;obtain⟨w3,rfl⟩:=cpy wr;obtain⟨k,rfl,iC,gW,rfl,rfl,t,z,aN⟩:=hrel;have iK:=aN.size;have i6:=z.lts.1;by_cases R:k<l.m.length
     ·have⟨wg,dZ,ya,yn,yc,y1,dS,y3,b9⟩:=z.zyg k R;rw[rU R,zwz]at t;have a0:l.m[k].U.length<=1000000:=by apply Qp;intro hc;rw[Xy hc]at t;cases t
      rw[lJ a0]at t;have⟨v,hv,t⟩:=wu.1 t;have⟨eC,aT,fI,g1⟩:=jE (pxs (aM.below<|aL w3 aN) aY (qo jG b9.1) a0 hv) t z aN;have aA:=oz (λ(e0:endOf v≠0)=>show x=(k,endOf v) from by have h9:=ku aT;rw[Xy (by simpa using e0)]at h9;injection h9 with h9;exact h9.symm)
      have aU:=oz (λ(e0:endOf v=0)=>show zwz a (l.m.drop<|k+1) (k+1)=some x from by have h9:=ku aT;rw[lJ (by simpa using e0)]at h9;exact h9)
      generalize endOf v=ev at *;clear t hv z aN b9 aT;go_wp21;refine zM eC λw4 J=>?_;have hU:=J.size;have Y:=oz<|fI.below J;have eB:=oz<|g1.trans (J.mono aj);clear J eC y1 y3;by_cases hz:ev=0
      ·subst hz;have bX:=oz<|aU rfl;clear aU aA;go_wp2
       exact rdM ⟨k+1,eu,aj,aj,rfl,rfl,bX,Y,eB⟩
      ·have fB:=(ku aA) hz;have iH:(ev != 0)=true:=by simpa using hz
       have d:=ku a2;rw[fB]at d;rw[Xy (by simpa using hz)]at d;unfold qxm at d;have⟨lt,dE,d⟩:=wX.1 d;have⟨P,bI,aD,a9⟩:=jE d.symm dE Y (aL w4 eB);have bO:0<k->k<l.m.length:=λh=>R
       clear d dE a2 aU aA fB;obtain⟨aI,hE,aJ,hD,aK,bA,-⟩:=(aD.below<|(Below.refl _ w4).drew).e;obtain⟨hF,hG,dV,-⟩:=qp bA;injection dV with bT bU bV;subst bT;subst bU;subst bV;obtain⟨dW,bB,dX,dY,-⟩:=kz3 aK;have⟨b2,b3⟩:=jS (show RdS S (.slice aI l.m.length aJ) w4.drew from⟨bB,trivial⟩) (jxa (aD.below<|(Below.refl _ w4).drew) bO aj aj bI);have h5:=a9.size;have d7:S<w4.heap.size:=wQ aK;clear aK bA dW bB dX dY;go_upto_region 28 with fail
       rw[Exit.noGoto_exit];go_upto_region 28 with fail
       refine bg (S:=RdS S<|.slice aI l.m.length aJ) (tl:=[7,8]) au ?_;refine frS 0 ?_;refine frS 1 ?_;refine frS 3 ?_;refine tkS 4 b2 ?_;refine frS 5 ?_;refine onS 2 λK E=>?_
       go_simp;go_at_call 80
       refine b3.mono ?_;rintro e wt ⟨vt,rfl,aG,b5⟩;obtain⟨ta,tn,tc,rfl⟩:=qh aG;have A:oq w4 wt:=qql b5;have fZ:=A.size;have bH:=oz (show RdS S (.slice aI l.m.length aJ) wt from⟨(A.cell (p:=⟨S,1,none⟩) d7).trans b2.1,trivial⟩);have aE:Rw wt w.heap.size #[i_ 0,nS,i_ 0] 46:=(A.block w.heap.size aj).trans<|(a9.block w.heap.size aj).trans cQ;have⟨k0,k1,k2,cD,cE,cF⟩:=row3 aE;have HE:=oz (pq9 ev aE aG (show w.heap.size<=w4.heap.size by omega) ((cJ.trans<|a9.mono aj).trans<|A.mono aj) (n:=l.m.length));clear aG b5 A aE b3;dsimp only;refine E _ _ bH ?_;clear E K;try simp only[Act.put,Qy,QW,QY]
       refine frS 6 ?_;refine kyj ?_;refine onA 7 λK E=>?_
       go_simp;refine E _ _ ?_;clear E K;refine onA 8 λK E=>?_
       go_simp;refine E _ _ ?_;clear E K;refine wpAny_done au ?_ _;clear k0 k1 k2 cD cE cF;go_wp2;try rw[Exit.noGoto_ret]
       rw[ku P];exact tK (v:=.tuple #[.agg #[i_ ev,.slice ta tn tc,i_ l.m.length],i_ 0]) (kjv results44 _ _ w.heap.size _ _ _ _ rfl HE.1 underlying46 rfl au) rfl HE.2
     ·have dD:k=l.m.length:=by omega
      subst dD;rw[sK,zwz]at t;injection t with t;have d:=ku a2;rw[<-t]at d;rw[lJ ay]at d;have⟨q,hq,d⟩:=wu.1 d;have⟨i3,eP,fQ⟩:=z.P;have⟨wc,fP,eT,aW⟩:=py1 eP underlying167 0;have aV:=z.cleared eT aW;have⟨iT,iX,y1,y3⟩:=z.qv2;have iQ:=aW.size;have iI:=zvc _ _ _ _ _ hq ay;have⟨HQ,bX,fO,g5⟩:=jE hq d aV (aN.trans<|aW.below aj (by simpa using z.ge.2.2.2));have i9:=aV.lts.1;have⟨iU,iY,j3,j4⟩:=aV.qv2;clear t d hq eP fQ eT aW aV z aN a2 eD;go_wp21
      go_step3
      go_wp21;clear fP;go_loopw [11,13,14,15] (λi _ _ _ wr=>∃(k:Nat)(f:Fnd)(c:List Int),i=i_ k/\k<=l.m.length/\kjh a ts m (l.m.drop k) k f c=some q/\f.length<=m/\kjy B wr S O M gc cc sb fb ts ⟨l.m,l.Z,f,c⟩/\Below B W wr) (λi _ _ _ _=>l.m.length-(intOf i).toNat);exact⟨s.m.length,[],l.cur,rfl,aj,HQ,ay,fO,g5⟩;obtain⟨w7,rfl⟩:=cpy wr;obtain⟨k,f,c,rfl,gW,u,cA,F,aO⟩:=hrel;have iO:=aO.size;have i8:=F.lts.1;by_cases R:k<l.m.length
      ·rw[rU R,kjh]at u;have a0:l.m[k].U.length<=1000000:=by apply Qp;intro hc;rw[Xy hc]at u;cases u
       rw[lJ a0]at u;have⟨q2,eU,u⟩:=wu.1 u;obtain⟨_,⟨j1,j2,j0,hC,-,-⟩,-,-,-⟩:=aM.below<|aL w7 aO;have⟨h7,hA,u1,u3⟩:=F.qv2;have hZ:a.X.length<=1000000:=aY.sl;have⟨eJ,bG,bF,bW,fH⟩:=jz eU u F aO hC;have⟨st,bS⟩:=cpy<|l.m[k].U;have gC:=oz (λ(wx:World)(f':Fnd)(c':List Int)(hx:kjy B wx S O M gc cc sb fb ts ⟨l.m,l.Z,f',c'⟩)=>(show ∃g lc ya yn yc,Ce wx S 1 (sL g l.m.length lc)/\g<wx.heap.size/\Ce wx g (k*3) (.slice ya yn yc)/\zqc B wx gc st (.slice ya yn yc) from by rw[bS];exact hx.zyg k R));rw[<-bS]at a0 eJ;clear u eU F aO bS;go_wp21
       go_loopw [13,14,15,78] (λ_ _ _ i wr=>∃(j:Nat)(f:Fnd)(c:List Int),i=i_ j/\j<=a.X.length/\kzc a ts m k st (a.X.drop j) f c=some q2/\f.length<=m/\kjy B wr S O M gc cc sb fb ts ⟨l.m,l.Z,f,c⟩/\Below B W wr) (λ_ _ _ i _=>a.X.length-(intOf i).toNat);exact⟨0,f,c,rfl,jG,eJ,cA,bF,bW⟩;obtain⟨w8,rfl⟩:=cpy wr;obtain⟨j,f,c,rfl,iB,N,cA,a6,H⟩:=hrel;have iP:=H.size;by_cases bP:j<a.X.length
       ·have⟨g,tc,pa,pn,pc,ma,mn,mc,pp,ba,bn,bc,d0,hg,d1,d2,d3,d4,d5,d6,cB⟩:=xjp aM aY j bP;have aQ:g<B:=by have:=ku a8;omega
        have cC:=(bW.cell (p:=⟨M,0,none⟩) gI).symm.trans fH;rw[d0]at cC;injection cC with cC;injection cC with eS _ gX;subst eS;subst gX;have e0:=(H.cell (p:=⟨g,j*6,none⟩) aQ).trans d1;have G:=(H.cell (p:=⟨g,j*6+1,none⟩) aQ).trans d2;have e2:=(H.cell (p:=⟨g,j*6+2,none⟩) aQ).trans d3;have e3:=(H.cell (p:=⟨g,j*6+3,none⟩) aQ).trans d4;have e4:=(H.cell (p:=⟨g,j*6+4,none⟩) aQ).trans d5;have e5:=(H.cell (p:=⟨g,j*6+5,none⟩) aQ).trans d6;rw[rU bP,kzc]at N;have⟨r1,eX,N⟩:=wu.1 N;have⟨wb,b8⟩:=cpy<|w8.alloc (.cells #[.string a.X[j].x,pT M,.slice pa pn pc,.slice ma mn mc,.pointer pp,.slice ba bn bc] 178);have dB:oq w8 wb.drew:=by rw[b8];exact(jZ _).drew
        have dT:wb.heap[w8.heap.size]?=some (.cells #[.string a.X[j].x,pT M,.slice pa pn pc,.slice ma mn mc,.pointer pp,.slice ba bn bc] 178 (0,0)):=by rw[b8];exact qy
        have a7:=a6.below dB;have⟨wg,dZ,ya,yn,yc,y1,dS,y3,b9⟩:=(ku gC) _ _ _ a7;obtain⟨x0,x1,x2,x3,x4,x5,-⟩:=kzh (show wb.drew.heap[w8.heap.size]?=_ from dT);have bN:Below B W wb.drew:=H.trans<|dB.mono aj;have⟨cL,aC,eL,cT,fD,aZ,eK⟩:=jj (cB wb.drew st ya yn yc r1 (aL _ bN) (qo jG b9.1) a0 eX) (show ReS S (sL wg l.m.length dZ) w8.heap.size a.X[j].x M (.slice pa pn pc) (.slice ma mn mc) (.pointer pp) (.slice ba bn bc) wg (k*3) (.slice ya yn yc) wb.drew from⟨y1,x0,x1,x2,x3,x4,x5,y3⟩) dT a7 bN N b8.symm;have dO:w8.heap.size<wb.heap.size:=by rw[b8];simp
        have gO:S<wb.heap.size:=a7.lts.1;have g0:wg<wb.heap.size:=dS;have hL:(0:Int)<=(k:Int):=aj;have hO:(k:Int)<l.m.length:=aj;have⟨dU,dM⟩:=cpy<|a.X[j];rw[<-dM]at cL aC eL aZ e0 eK;have HJ:=oz bP;clear cB d0 d1 d2 d3 d4 d5 d6 eX N b8 dB dT a7 b9 bN x0 x1 x2 x3 x4 x5 y1 y3 a6 H hg dM dS;go_upto_region 23 with fail
        rw[ku eK];refine bg (S:=ReS S (sL wg l.m.length dZ) w8.heap.size dU.x M (.slice pa pn pc) (.slice ma mn mc) (.pointer pp) (.slice ba bn bc) wg (k*3)<|.slice ya yn yc) (tl:=[]) au ?_;refine tkS 0 aC ?_;refine frS 1 ?_;refine tkS 2 aC ?_;refine frS 3 ?_;refine frS 4 ?_;refine frS 5 ?_;refine tkS 6 aC ?_;refine onS 7 λK E=>?_
        go_simp;go_at_call 79
        refine cL.mono ?_;rintro e w5 ⟨v5,rfl,a1,L⟩;obtain⟨gE,h6,gF,rfl⟩:=qh a1;have bK:oq wb w5:=qql L;have hV:=bK.size;have⟨g8,gD,cS,cG,eH⟩:=jz (aC.below L gO dO g0) ((bK.block w8.heap.size dO).trans eL) (cT.below L) (fD.trans<|L.mono (show B<=wb.heap.size by omega)) a1;clear a1 L bK cL;dsimp only;refine E _ _ g8 ?_;clear E K;try simp only[Act.put,Qy,QW,QY]
        refine frS 8 ?_;refine frS 9 ?_;refine frS 10 ?_;refine frS 11 ?_;refine frS 12 ?_;refine kyj ?_;refine wpAny_done au ?_ _;obtain⟨x0,x1,x2,x3,x4,x5,-⟩:=kzh gD;have i2:w8.heap.size<w5.heap.size:=aj;have bD:=oz (λ(h0:r1.2≠1)=>show kzc a ts m k st (a.X.drop<|j+1) f c=some q2 from by have h9:=ku aZ;rw[Xy (by simpa using h0)]at h9;exact h9)
        have bC:=oz (λ(h0:r1.2=1)=>show ∃C,qx9 a ts ⟨r1.1,k,dU.x⟩ f c=some C/\(m<C.1.length->q2=(C.1,C.2,true))/\(¬m<C.1.length->kzc a ts m k st (a.X.drop<|j+1) C.1 C.2=some q2) from by
         have h9:=ku aZ;rw[lJ (by simpa using h0)]at h9;have⟨C,b7,h9⟩:=wu.1 h9;refine⟨C,b7,λhc=>?_,λhc=>?_⟩
         ·rw[lJ hc]at h9;injection h9 with h9;exact h9.symm
         ·rw[Xy hc]at h9;exact h9)
        by_cases b6:r1.2=1
        ·have⟨C,b7,eV,dL⟩:=(ku bC) b6;have hT:=zv5 b7;have eM:=(aM.below<|aL w5 cG).mc;have aX:=oz (vxg (x:=⟨r1.1,k,dU.x⟩) gE h6 gF cS eM ⟨qo (show B<=wb.heap.size by omega) eH,λG=>by have h9:=jo eH gc G;have h8:=cT.lts.2.2.1;omega⟩ aY.z fA aj b7)
         have⟨cN,cO⟩:=jS eV dL;rw[b6];clear b7 eV dL eM bC bD aZ b6;go_wp21;refine zM aX ?_;rintro w6 ⟨D,aF⟩;have hX:=aF.size;obtain⟨i4,eQ,-⟩:=D.P;have fT:=xv2 eQ underlying167 3;rw[Ql]at fT;have⟨iV,iZ,v1,v3⟩:=D.qv2;have bY:=oz D;have i7:=D.lts.1;have cI:=oz<|cG.trans aF;have fF:=oz<|jyz v1;clear D aF eQ aX x0 x1 x2 x3 x4 x5;by_cases bZ:m<C.1.length
         ·have gP:(m:Int)<C.1.length:=by omega
          have dK:=(ku cN) bZ;have eW:q=(C.1,C.2):=by have h9:=ku bG;rw[dK]at h9;simp only[Xw]at h9;injection h9 with h9;exact h9.symm
          have cP:=oz (show kjk a ts m n ⟨l.m,l.Z,C.1,C.2⟩=some r from by have h9:=ku bX;rw[eW]at h9;exact h9);clear dK eW cN cO bG;go_wp2;exact⟨⟨_,_,_,_,_,_,_,_,_,_,_,_,_,_,_,_,_,_,_,_,_,_,_,_,_,_,_,_,_,_,_,_,_,_,_,_,_,_,_,_,_,_,_,_,_,_,_,_,_,_,_,_,_,_,_,_,_,_,_,_,_,_,_,_,_,_,_,_,_,_,_,_,_,_,_,_,_,_,_,_,_,_,_,_,_,⟨n,⟨l.m,l.Z,C.1,C.2⟩,rfl,rfl,bY,cP,(by show l.m.length<=m;omega),(by show C.1.length<=m+1;omega),cI⟩,rfl⟩,by rw[ku fF,ku eG];show 1000-l.m.length<1000-s.m.length;omega⟩
         ·have gP:¬(m:Int)<C.1.length:=by omega
          have aB:=oz<|cO bZ;clear cN cO;go_wp2
          exact⟨⟨j+1,C.1,C.2,eu,by have:=ku HJ;omega,aB,aj,bY,cI⟩,by have:=ku HJ;simp[intOf];omega⟩
        ·have aB:=oz<|bD b6;have hQ:(r1.2 != 1)=true:=by simpa using b6
         generalize r1.2=oc at *;clear bC bD aZ x0 x1 x2 x3 x4 x5;go_wp2;exact⟨⟨j+1,f,c,eu,by have:=ku HJ;omega,aB,cA,cS,cG⟩,by have:=ku HJ;simp[intOf];omega⟩
       ·have gU:j=a.X.length:=by omega
        subst gU;rw[sK,kzc]at N;injection N with N;have aB:=oz (show kjh a ts m (l.m.drop<|k+1) (k+1) f c=some q from by have h9:=ku bG;rw[<-N]at h9;simpa using h9)
        have⟨fL,g3⟩:=jS a6 H;clear N a6 H;go_wp2;exact rdM ⟨k+1,f,c,eu,aj,aB,cA,fL,g3⟩
      ·have dD:k=l.m.length:=by omega
       subst dD;rw[sK,kjh]at u;injection u with u;have cP:=oz (show kjk a ts m n ⟨l.m,l.Z,f,c⟩=some r from by have h9:=ku bX;rw[<-u]at h9;exact h9);have⟨h7,hA,u1,u3⟩:=F.qv2;have⟨fG,bF,bW⟩:=jF (jyz u1) F aO;clear u F aO;go_wp2
       exact⟨⟨n,_,rfl,rfl,bF,cP,(by show l.m.length<=m;omega),(by show f.length<=m+1;omega),bW⟩,by rw[ku fG,ku eG];show 1000-l.m.length<1000-s.m.length;omega⟩
theorem pzl{g5:MdL}(h:jy5 g5=some a):a.j=kje g5.j:=by have⟨t,_,h⟩:=wu.1 h;have⟨x,_,h⟩:=wu.1 h;have⟨st,_,h⟩:=wu.1 h;obtain⟨nv,_,rfl⟩:=wX.1 h;rfl
theorem vvx(w:World)(hr:kvn d9 most=some r):Calls prog 25 #[.string d9,i_ most] w λe w'=>qq7 w r e w':=by
 have⟨W,J⟩:=cpy<|w.alloc (.cells #[i_ 0,nS,i_ 0] 46);have Q:oq w W:=by rw[J];exact jZ w
 have S:w.heap.size<W.heap.size:=by simp_all
 have V:W.heap[w.heap.size]?=some (.cells #[i_ 0,nS,i_ 0] 46 (0,0)):=by rw[J];exact qy
 have g:=oz hr;go_in;go_wp21;rw[(oz J.symm)];refine(pvz d9 W).mono ?_;rintro e s ⟨B,x0,x1,x2,x3,x4,rfl,z,⟨a0,n0,k0,rfl⟩,⟨a1,n1,k1,rfl⟩,⟨a2,n2,k2,rfl⟩,⟨a3,n3,k3,rfl⟩,⟨a4,n4,k4,rfl⟩⟩;have x:oq w s:=Q.trans<|B.mono aj;have h:=oz<|(B.block w.heap.size S).trans V;have I:=wQ h;unfold kvn at g;obtain⟨c1,c2,hc⟩:∃c1 c2,qq4 d9=(c1,c2):=⟨_,_,rfl⟩;rw[hc]at g z |-;cases E:(c1==0)
 ·have Y:r=qq3 c1:=by have:=g;rw[E,Xy ay]at this;injection this with this;simp_all
  subst Y;have r0:=row3 h;go_wp2;refine tK (v:=.tuple #[.agg #[i_ 0,nS,i_ 0],i_ c1]) (kjv results25 _ _ w.heap.size _ _ _ _ rfl (zy<|jwm h _ _ _) underlying46 rfl au) rfl ?_;exact⟨none,0,0,rfl,jT,((x.trans<|(qyt s w.heap.size _ _ _).below aj ay).alloc jQ _)⟩
 ·have a5:(c1 != 0)=false:=by simp_all
  have L:c1=0:=by simp_all
  have F:=g;rw[E,lJ rfl]at F;have⟨a,d,T⟩:=wu.1 F;unfold qx5 at d;have f:zkh (ql (uz (jv d9).1).1)=true:=by simp_all
  rw[lJ f]at d;have⟨a',p,d⟩:=wu.1 d;have m:zq0 a'=true:=by grind
  rw[lJ m]at d;injection d with d;subst d;have u:a'.j.length<=1000:=by have X:a'.j=kje (ql (uz (jv d9).1).1).j:=pzl p;rw[X,kje,Ql];exact((jke f).j)
  have⟨wb,G⟩:=cpy<|s.alloc (.cells #[.slice a0 n0 k0,.slice a1 n1 k1,.slice a2 n2 k2,.slice a3 n3 k3,.slice a4 n4 k4] 68);have l:oq s wb:=by rw[G];exact jZ _
  have O:=new_any ((z L).stay λk _ hk=>l.block k hk) (jke f) p;have N:=x.trans<|l.mono aj;have P:=(l.block _ I).trans h;go_wp21
  rw[(oz G.symm)];refine O.mono ?_;rintro e w2 ⟨M,nb,sv,nv,tv,vv,rfl,i,C⟩;have y:=N.trans (C.mono<|by grind);obtain⟨a6,a8,a7,rfl⟩:=qh i.j;have⟨_,_,m2,_⟩:=kzh i.e;have A:=(C.block w.heap.size<|by grind).trans P;go_wp21;refine(vvv i.xy8 (vwv m) m2 (qo jG i.j) u T).mono ?_;rintro e w3 ⟨t,en,ec,rfl,R,D⟩;have H:=y.size;have j:=(D.block w.heap.size<|wQ A).trans A;have r0:=row3 j;have Z:=wQ j;have K:=qyt w3 w.heap.size (i_ r.end_) (.slice t en ec)<|i_ r.xr;have U:=show qq7 w r (.returned<|.tuple #[.agg #[i_ r.end_,.slice t en ec,i_ r.xr],i_ r.err]) _ from⟨t,en,ec,rfl,qo H (kkv R K (λq hq c fr e1=>by simp_all)),(y.trans<|D.mono H).trans<|K.below aj ay⟩
  go_wp2;exact tK (v:=.tuple #[.agg #[i_ r.end_,.slice t en ec,i_ r.xr],i_ r.err]) (kjv results25 _ _ w.heap.size _ _ _ _ rfl (jwm j _ _ _) underlying46 rfl au) rfl U
theorem vz1(n:Int)(w:World):Calls prog 14 #[i_ n] w λe w'=>rT e (i_ n)/\w'=w:=by go_wp2;go_ret;simp
theorem pxn(h:endOf v=most)(d:most≠0):(most=1/\0<v.xs.length)\/(most=2/\kx2 v=true)\/(most=3/\0<v.xz.length):=by grind [xzl]
theorem fits_any(S:-9223372036854775808<=most/\most<=9223372036854775807){g6 g7:Int}{g8:Int×Bool×Nat×Nat}(Q:pjc d9 most g8)(j:xj1 d9 ⟨g6,g7,a7,M⟩ g8)(tc:Nat)(T:jzh w ta a7):Calls prog 26 #[.string d9,i_ most,.agg #[i_ g7,.slice ta a7.length tc,i_ M],i_ g6] w λe w'=>rT e (.bool true)/\oq w w':=by
 obtain⟨rc,U,n1,n2⟩:=g8;obtain⟨h1,C,j⟩:=j;dsimp only at h1 C j;subst h1;subst C;have⟨W,k⟩:=cpy<|w.alloc (.cells #[i_ g7,.slice ta a7.length tc,i_ M] 46);have y:oq w W:=by rw[k];exact jZ w
 have h:w.heap.size<W.heap.size:=by simp_all
 have K:Hid (W.heap[w.heap.size]?=some (.cells #[i_ g7,.slice ta a7.length tc,i_ M] 46 (0,0))):=by rw[k];exact qy
 have B:=oz k.symm;have L:=vzi W S Q;have N:=oz T;clear k;go_in;go_wp21;rw[ku B];refine zM L λV p=>?_;have i:=y.trans<|p.mono (Qr h);have f:=oz<|(p.block w.heap.size h).trans K;have D:=wQ f;have A:=N.below i<|jV;clear h;dsimp only;go_wp21
 refine zM (vz1 rc V) ?_;rintro X rfl;go_wp21;refine zM (vz1 rc X) ?_;rintro w3 rfl;have J:=row3 f;obtain⟨E,rfl,rfl⟩|⟨rfl,rfl,rfl,R,v,hv,g,s⟩:=j
 ·by_cases F:rc=0
  case' pos=>
   obtain rfl:U=false:=by simp_all
   subst F
  case' neg=>have Z:(rc==0)=false:=by simp_all
  all_goals
   clear E;go_wp2;go_ret;exact⟨ay,i⟩
 ·have z:=vx1 a7.length tc rfl A aj hv;have t:=oz<|pxn g s;have H:=i.size;clear g s;go_wp21
  refine z.mono ?_;rintro e w4 ⟨O,eN,ec,wa,wn,Y,ba,bn,bc,rfl,u,q⟩;obtain⟨rfl,_⟩:=zzi u.a;obtain⟨rfl,_⟩:=zzi u.b;obtain⟨rfl,_⟩:=zzi u.c;have l:=i.trans<|q.mono H;have m:=oz<|(q.block w.heap.size D).trans f;have P:=wQ m;have G:=l.size;clear J;have J:=row3 m;dsimp only;have d:=l.alloc G<|.cells #[.string v.x,.slice O v.xn.length ec,.slice wa v.xz.length Y,.slice ba v.xs.length bc,.bool (kx2 v)] 24;obtain⟨rfl,x⟩|⟨rfl,x⟩|⟨rfl,x⟩:=t
  ·have I:(0:Int)<v.xs.length:=by omega
   go_wp2;go_ret;exact⟨ay,d⟩
  ·rw[x]at d |-;go_wp2
   go_ret;exact⟨ay,d⟩
  ·have I:(0:Int)<v.xz.length:=by omega
   go_wp2;go_ret;exact⟨ay,d⟩
theorem xyb{a:Mach}(h1:a.X.length<=1000000)(d:a.q.length<=1000000):∀(l:List ByteArray)(i:Nat)(st:List Int)(r:vyp),vq9 a l i st=some r->r.1.xn.length<=1000000/\r.1.xz.length<=1000000/\r.1.xs.length<=1000000
 |[],i,st,r,h=>by
  rw[vq9]at h;split at h
  ·obtain⟨v,hv,rfl⟩:=wX.1 h;have⟨t,_,hv⟩:=wu.1 hv;have⟨p,e,hv⟩:=wu.1 hv;obtain⟨b,hb,rfl⟩:=wX.1 hv;have:=jjg _ _ _ _ _ _ _ e;have:=jyk _ _ _ _ _ _ hb;simp at *;omega
  ·cases h
 |t::l,i,st,r,h=>by
  rw[vq9]at h;split at h
  ·have⟨q,_,h⟩:=wu.1 h;split at h
   ·exact xyb h1 d l _ _ _ h
   ·cases h;simp[noView]
  ·cases h
theorem xyo(s:ByteArray)(ts:List ByteArray):∃r:vyp,(∀w pa pc,jzh w pa ts->og 11 #[.string s,.slice pa ts.length pc] w (qyv w r))/\(∀w pa pc,jzh w pa ts->og 12 #[.string s,.slice pa ts.length pc] w (qyv w r))/\r.1.xn.length<=1000000/\r.1.xz.length<=1000000/\r.1.xs.length<=1000000:=by
 have⟨r,e⟩:=xyg s ts;refine⟨r,λw pa pc h=>xyf _ pc rfl h e,λw pa pc h=>xyl s w ts pa _ pc rfl h r<|xyn e,?_⟩;unfold vw1 at e;split at e
 ·have⟨a,d,f⟩:=wu.1 e;unfold qx5 at d;split at d
  ·have⟨a',_,d⟩:=wu.1 d;split at d
   ·cases d;have k:=vwv ‹_›;unfold xyx at f;split at f
    ·cases f;simp[noView]
    ·split at f
     ·exact xyb k.sl k.nl _ _ _ _ f
     ·cases f
   ·cases d
  ·cases d
 ·cases e;simp[noView]
theorem xyr(s:ByteArray)(g:-9223372036854775808<=most/\most<=9223372036854775807):∃r:SRep,(∀w,og 25 #[.string s,i_ most] w (qq7 w r))/\(∀w ta tc,jzh w ta r.xq->og 26 #[.string s,i_ most,.agg #[i_ r.end_,.slice ta r.xq.length tc,i_ r.xr],i_ r.err] w λe w'=>rT e (.bool true)/\oq w w')/\r.xq.length<=1000000:=by
 have⟨r,j,i,f,d⟩:=pvc s most;refine⟨r,λw=>vvx w i,λw ta tc h=>fits_any g f d tc h,?_⟩;obtain⟨_,_,⟨_,_,e⟩|⟨_,_,_,h,_⟩⟩:=d
 ·simp[e]
 ·omega
theorem xxz(s:ByteArray)(w:World):Calls prog 30 #[.string s] w λe w'=>rT e (.bool true)/\oq w w':=by
 have g:=oz<|jz9 s;go_in
 go_wp21;refine zM (check_any s w) λh d=>?_;go_wp21;refine zM (xyu s h) λi f=>?_;rw[ku g];generalize (qw0 s).1=a;generalize (qw0 s).2=b;go_wp21;refine zM (vz1 a i) ?_;rintro w3 rfl;go_wp21;refine zM (vz1 a w3) ?_;rintro w4 rfl;go_wp2;go_ret;exact⟨ay,d.trans<|f.mono d.size⟩
theorem Vw3.below{wr:List ByteArray}(h:Vw3 B w a7 wr g9 x y z)(hb:oq w w'):Vw3 B w' a7 wr g9 x y z:=h.tk (yt hb none [])<|jV
theorem xyt{h7 l i6 i7:Option Addr}{i8 i9:Nat}(p:Vw3 lo w v.xn v.xz v.xs (.slice ta B so) (.slice g4 S nb) (.slice h7 O T))(q:Vw3 M w v.xn v.xz v.xs (.slice l gc E) (.slice i6 cc i8) (.slice i7 fb i9)):Calls prog 13 #[.agg #[.string v.x,.slice ta B so,.slice g4 S nb,.slice h7 O T,.bool d],.agg #[.string v.x,.slice l gc E,.slice i6 cc i8,.slice i7 fb i9,.bool d]] w λe w'=>rT e (.bool true)/\oq w w':=by
 have H:∀{u:World}{ts:List ByteArray}{a b:Option Addr}{n m c e lo M:Nat},w.ownsRow lo 9 1 (.slice a n c) ts.length (ts.map Value.string)->w.ownsRow M 9 1 (.slice b m e) ts.length (ts.map Value.string)->oq w u->og 38 #[.slice a n c,.slice b m e] u λe w'=>rT e (.bool true)/\oq u w':=λh1 F hb=>by obtain⟨rfl,g1⟩:=zzi h1;obtain⟨rfl,D⟩:=zzi F;exact xyw (g1.below hb<|jV) (D.below hb<|jV)<|xyy h1
 have⟨W,j⟩:=cpy<|(w.alloc<|.cells #[.string v.x,.slice ta B so,.slice g4 S nb,.slice h7 O T,.bool d] 24).alloc (.cells #[.string v.x,.slice l gc E,.slice i6 cc i8,.slice i7 fb i9,.bool d] 24);have i:oq w W:=by rw[j];exact(jZ w).alloc ay _
 have hA:W.heap[w.heap.size]?=some (.cells #[.string v.x,.slice ta B so,.slice g4 S nb,.slice h7 O T,.bool d] 24 (0,0)):=by rw[j];exact(jR ay).trans qy
 have A:W.heap[w.heap.size+1]?=some (.cells #[.string v.x,.slice l gc E,.slice i6 cc i8,.slice i7 fb i9,.bool d] 24 (0,0)):=by rw[j];exact alloc_at _ ay
 have⟨s,x,C,y,z⟩:=jz hA A j.symm p q;have k:=wQ A;clear p q hA A j;go_in;go_wp21;rw[ku C];refine zM (H y.a z.a i) λG g=>?_;have r:=jl<|(g.block _ aj).trans s;have t:=jl<|(g.block _ k).trans x;go_wp21
 refine zM (H y.b z.b<|i.trans (g.mono aj)) λI f=>?_;have f:=g.trans<|f.mono g.size;have r:=jl<|(f.block _ aj).trans s;have t:=jl<|(f.block _ k).trans x;go_wp21
 refine zM (H y.c z.c<|i.trans (f.mono aj)) λw3 h=>?_;have h:=f.trans<|h.mono f.size;have r:=jl<|(h.block _ aj).trans s;have t:=jl<|(h.block _ k).trans x;go_wp2
 go_ret;exact⟨ay,i.trans<|h.mono aj⟩
theorem Bk.add{j0:List (Value×Nat)}(h:Bk lo M [] n w)(hb:oq w w')(l:∀p∈j0,p.2<=1000000/\∃xs,w'.ownsRow w.heap.size 9 1 p.1 p.2 xs)(x:j0.Pairwise λa b=>Apart a.1 b.1):Bk lo M j0 n w':=by
 obtain⟨j,⟨v,cs,h1,q,s⟩,-,-⟩:=h;have t:=wQ h1;refine⟨j,⟨v,cs,(hb.block _ t).trans h1,qj q hb,λi hi=>?_⟩,λp d=>?_,x⟩
 ·obtain⟨u,k,m,e,-⟩:=s i hi;refine⟨u,k,m,qj e hb,λp d b f g=>?_⟩;obtain⟨-,xs,o⟩:=l p d;have:=(e.lt b f).2;have:=(o.lt b g).1;omega
 ·have⟨y,xs,o⟩:=l p d;exact⟨y,xs,qo aj o⟩
structure Rc (w:World)(A:Nat)(v:MView)(x y z:Value)(d:Bool)(u:World):Prop where
 be:oq w u
 e:u.heap[A]?=some (.cells #[.string v.x,x,y,z,.bool d] 24 (0,0))
 vw:Vw3 w.heap.size u v.xn v.xz v.xs x y z
theorem Rc.below{j1:World}(h:Rc w M v x y z d w')(hb:Below w'.heap.size w' j1):Rc w M v x y z d j1:=
 ⟨h.be.trans<|hb.mono h.be.size,(hb.block M<|wQ h.e).trans h.e,h.vw.below hb⟩
theorem xyv(h:Bk lo M [] n w)(hn:n<=50)(s:ByteArray)(Q:jzh w g4 a7)(U:jzh w pa a7)(hm:-9223372036854775808<=most/\most<=9223372036854775807):Calls prog 31 #[pT M,.string s,.slice g4 a7.length S,.slice pa a7.length pc,i_ most] w λe w'=>rT e (.bool true)/\Bk lo M [] (n+4) w'/\Below lo w w':=by
 obtain⟨⟨v,d,x,y⟩,L,D,l1,W,l3⟩:=xyo s a7;obtain⟨⟨err,en,I,ob⟩,F,t,X⟩:=xyr s hm;dsimp only at l1 W l3 X t;have V:lo<=w.heap.size:=by obtain⟨h0,⟨_,_,h1,_⟩,_⟩:=h;have:=wQ h1;omega
 obtain⟨J,HP,D,F,t⟩:=jz h U D F t;go_in;go_wp21;refine(L w g4 S Q).mono ?_;clear L Q U h;rintro e Y ⟨O,en,ec,wa,wn,wc,ba,bn,bc,rfl,G,l⟩;dsimp only at G |-;have R:=show ∀o,o=_->Rc w Y.heap.size v (.slice O en ec) (.slice wa wn wc) (.slice ba bn bc) d (Y.alloc o) from λo e=>⟨l.alloc l.size _,by rw[e];exact qy,G.below<|jZ _⟩
 have R:=R _ rfl;clear G l;go_wp21;refine(D _ pa pc<|HP.below R.be jV).mono ?_;rintro e w2 ⟨fa,fn,fc,va,vn,vc,ca,cn,cc,rfl,H,z⟩;dsimp only at H |-;have R:=R.below z;have r:=jl R.e;have hl:=wQ R.e;clear z;go_wp21
 refine(xyt (R.below<|jZ _).vw<|H.below (jZ _)).mono ?_;rintro e w3 ⟨rfl,A⟩;have R:=(R.below<|jZ _).below A;have E:=R.vw;have P:=R.be.size;clear A H r hl;go_wp21;refine(F w3).mono ?_;rintro e w4 ⟨ta,tn,tc,rfl,T,C⟩;obtain⟨rfl,N⟩:=zzi T;dsimp only at T N |-;have R:=R.below C;have h3:=R.be.size;clear C;go_wp21
 refine(t _ ta tc<|N.below (jZ _) jV).mono ?_;rintro e Z ⟨rfl,j⟩;have R:=(R.below<|jZ _).below j;have g:=oz<|(j.block w4.heap.size ay).trans qy;have T:=qj (T.alloc _) j;have u:∀{q m xs},w3.ownsRow w.heap.size 9 1 q m xs->Apart q (.slice ta I.length tc):=λo k h1 h2=>by have:=(o.lt k h1).2;have:=(T.lt k h2).1;omega
 have B:Hid (Bk lo M [(.slice O en ec,v.xn.length),(.slice wa wn wc,v.xz.length),(.slice ba bn bc,v.xs.length),(.slice ta I.length tc,I.length)] n Z):=J.add R.be (by
  simp only[tZ,Qu,or_false];rintro p (rfl|rfl|rfl|rfl)
  ·exact⟨l1,_,R.vw.a⟩
  ·exact⟨W,_,R.vw.b⟩
  ·exact⟨l3,_,R.vw.c⟩
  ·exact⟨X,_,qo P T⟩) (by simp[R.vw.xy,R.vw.xz,R.vw.yz,u E.a,u E.b,u E.c])
 clear j T u;have hM:=wQ R.e;have a0:=wQ g;have f:=oz R.e;go_wp21;refine(vz1 x Z).mono ?_;rintro e w6 ⟨rfl,rfl⟩;go_wp21;refine(vz1 x w6).mono ?_;rintro e w7 ⟨rfl,rfl⟩;have r:=jl f;go_wp21;refine(jwh B aj).mono ?_;rintro e w8 ⟨rfl,B,hb,K⟩;have f:=oz<|K.e f ay ak;have g:=oz<|K.e g ay ak;have i:=hb;have r:=jl f;clear hb K;go_wp21
 refine(jwh B aj).mono ?_;rintro e w9 ⟨rfl,B,hb,K⟩;have f:=oz<|K.e f ay ak;have g:=oz<|K.e g ay ak;have i:=i.trans hb;have r:=jl f;clear hb K;go_wp21
 refine(jwh B aj).mono ?_;rintro e a1 ⟨rfl,B,hb,K⟩;have f:=oz<|K.e f ay ak;have g:=oz<|K.e g ay ak;have i:=i.trans hb;have r:=row3 g;clear hb K;go_wp21
 refine(jwh B aj).mono ?_;rintro e a2 ⟨rfl,B,hb,-⟩;have i:=i.trans hb;go_wp21;refine(xyp B aj).mono ?_;rintro e a3 ⟨rfl,rfl⟩;go_wp2;go_ret;exact⟨rfl,B,(R.be.mono V).trans i⟩
theorem xyi(s s':ByteArray)(A:jzh w pa a7)(C:jzh w ta g9)(h1:a7.length<=8796093022208)(z:g9.length<=8796093022208)(E:-9223372036854775808<=most/\most<=9223372036854775807):Calls prog 10 #[.string s,.string s',.slice pa a7.length pc,.slice ta g9.length M,i_ most] w λe w'=>rT e (.bool true)/\oq w w':=by
 have⟨d,f,v⟩:=jF A C E;clear A C;go_in;go_wp21;refine zM (xj8 d h1) ?_;rintro H ⟨j,b1⟩;go_wp21;refine zM (xj8 (f.below b1<|jV) z) ?_;rintro g ⟨l,b2⟩;have j:=oz<|(b2.block _<|wQ j).trans j;have q:=b1.trans<|b2.mono b1.size;have⟨d,f,x,y,l⟩:=jz (d.below q jV) (f.below q jV) (Hnd.str j) (Hnd.str l) l;clear b1 b2;have B:=show ∀o,o=_->Bk g.heap.size g.heap.size [] 0 (g.alloc o) from λo e=>⟨jV,⟨_,[],by rw[e];exact qy,oN,λi hi=>aj⟩,λp F=>(by cases F),.nil⟩
 have B:=B _ rfl;go_wp21;go_loopw [14,15,16,17] (λi _ _ _ wr=>∃k:Nat,i=i_ k/\k<=2/\Bk g.heap.size g.heap.size [] (8*k) wr/\oq g wr) (λi _ _ _ _=>2-(intOf i).toNat)
 ·exact⟨0,rfl,aj,B,jZ _⟩
 obtain⟨k,rfl,G,B,hb⟩:=hrel;by_cases D:k<2
 ·go_wp21;refine zM (xxz s wr) λw3 b3=>?_;go_wp21;refine zM (xxz s' w3) λw4 b4=>?_;have b4:=b3.trans<|b4.mono b3.size;have B:=B.add b4 (λ_ h=>ig) .nil;have hb:=hb.trans<|b4.mono hb.size;clear b3 b4;go_wp21
  refine zM (xyv B aj s (x.below hb<|jV) (d.below hb<|jV) v) ?_;rintro I ⟨B,b5⟩;have hb:=hb.trans b5;go_wp21;refine zM (xyv B aj s' (y.below hb<|jV) (f.below hb<|jV) v) ?_;rintro J ⟨B,b6⟩;have hb:=hb.trans b6;go_wp2;exact rdM ⟨k+1,eu,D,B,hb⟩
 ·have u:=(hb.block _<|wQ j).trans j;have t:=(hb.block _<|wQ l).trans l;have d:=oz<|d.below hb jV;have f:=oz<|f.below hb jV;have m:=q.trans<|hb.mono q.size;have⟨u,t⟩:=jS u t;clear hb;go_wp21
  refine zM (xyk u d h1) λK b7=>?_;have m:=m.trans<|b7.mono m.size;go_wp21
  refine zM (xyk ((b7.block _<|wQ t).trans t) (f.below b7<|jV) z) λL b8=>?_;go_wp2;go_ret;exact⟨rfl,m.trans<|b8.mono m.size⟩
end Go.Proofs.YtpmcnonmkghokaaGreatDoor

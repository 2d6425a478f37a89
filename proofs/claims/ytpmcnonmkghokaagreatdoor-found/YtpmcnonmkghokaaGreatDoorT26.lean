import Derived.Test.YtpmcnonmkghokaaGreatDoorT25
import Derived.Test.YtpmcnonmkghokaaGreatDoorT21
import Derived.Test.YtpmcnonmkghokaaGreatDoorT24
import Derived.Test.YtpmcnonmkghokaaGreatDoorT23
set_option linter.unusedVariables false
set_option linter.unusedSimpArgs false
namespace Go.Proofs.YtpmcnonmkghokaaGreatDoor
open Go.RowKit
theorem jkj {L:List Tok}{s:List UInt8}{st:RS}(h:(qp L s st).bad=false):(qp L s st).at_=st.at_+1:=by
 unfold qp at h ⊢;split at h
 ·cases h
 ·rename_i hc;rw[if_neg hc]
theorem jkp {L:List Tok}{s:List UInt8}{st:RS}(h:(qh L s st).2.bad=false):(qh L s st).2.at_=st.at_+1:=by
 unfold qh at h ⊢;split at h
 ·rename_i hc;rw[if_pos hc]
 ·cases h
theorem vqx {L:List Tok}{st:RS}(h:(uj L st).2.bad=false):st.at_+1≤(uj L st).2.at_∧kzu (uj L st).1=1:=by
 unfold uj at h ⊢;simp only at h ⊢;split at h
 ·rename_i hc;rw[if_pos hc];simp only at h ⊢;have h3:=kq7 h;have h2:=kxj h3;have h1:=kq7 h2;have e1:=jkp h1;have m2:=zo L [91] (qh L [110,97,109,101] st).2;have m3:=yt L [110,97,109,101] (qp L [91] (qh L [110,97,109,101] st).2);have m4:=zo L [93] (qh L [110,97,109,101] (qp L [91] (qh L [110,97,109,101] st).2)).2;exact ⟨by omega,rfl⟩
 ·rename_i hc;rw[if_neg hc];simp only at h ⊢;have e1:=jkp h;exact ⟨by omega,rfl⟩
theorem vq4 (L:List Tok):∀ (f tag:Nat) (x:PX) (st:RS),(rX f tag x L st).2.bad=false→kzu (rX f tag x L st).1+st.at_≤kzu x+(rX f tag x L st).2.at_
 | 0,tag,x,st,h=>wX _
 | f+1,tag,x,st,h=>by
  have ih:=vq4 L f;have hb:st.bad=false:=kja h;have hbf:¬st.bad=true:=by rw[hb];simp
  have z0:kzu (.nil:PX)=0:=rfl;rw[rX] at h ⊢;by_cases t4:tag<4
  ·rw[if_pos t4,if_neg hbf] at h ⊢;have h1:=ih (tag+1) .nil st (kja h);have h2:=ih (10+tag) _ _ h;omega
  ·rw[if_neg t4] at h ⊢;by_cases t10:tag<10
   ·rw[if_pos t10,if_neg hbf] at h ⊢;have h1:=ih 20 .nil st h;omega
   ·rw[if_neg t10] at h ⊢;by_cases t20:tag<20
    ·rw[if_pos t20,if_neg hbf] at h ⊢;by_cases hbin:kxd (tag-10) (tk L st.at_)=true
     ·rw[if_pos hbin] at h ⊢;by_cases t12:tag=12
      ·rw[if_pos t12] at h ⊢;simp only at h ⊢;have h1:=ih (tag-9) .nil { st with at_:=st.at_+1 } h;simp only at h1;show kzu x+kzu (rX f (tag-9) .nil L { st with at_:=st.at_+1 }).1+1+st.at_≤_;omega
      ·rw[if_neg t12] at h ⊢;have h1:=ih (tag-9) .nil { st with at_:=st.at_+1 } (kja h);have h2:=ih tag _ _ h;simp only at h1;have e:kzu (opX (tk L st.at_).text x (rX f (tag-9) .nil L { st with at_:=st.at_+1 }).1)=kzu x+kzu (rX f (tag-9) .nil L { st with at_:=st.at_+1 }).1+1:=rfl;rw[e] at h2;omega
     ·rw[if_neg hbin] at h ⊢;exact wX _
    ·rw[if_neg t20,if_neg hbf] at h ⊢;by_cases n33:zq L [33] st=true
     ·rw[if_pos n33] at h ⊢;by_cases t32:tag=32
      ·rw[if_pos t32] at h;simp at h
      ·rw[if_neg t32] at h ⊢;simp only at h ⊢;have h1:=ih (tag+1) .nil (qp L [33] st) h;have m1:=jkj (kja h);show kzu (rX f (tag+1) .nil L (qp L [33] st)).1+kzu (.nil:PX)+1+st.at_≤_;omega
     ·rw[if_neg n33] at h ⊢;by_cases n40:zq L [40] st=true
      ·rw[if_pos n40] at h ⊢;simp only at h ⊢;have h2:=kq7 h;have h1:=ih 0 .nil (qp L [40] st) h2;have m1:=jkj (kja h2);have m2:=zo L [41] (rX f 0 .nil L (qp L [40] st)).2;omega
      ·rw[if_neg n40] at h ⊢;by_cases hc:isConst (tk L st.at_)=true
       ·rw[if_pos hc] at h ⊢;show 0+0+1+st.at_≤kzu x+(st.at_+1);omega
       ·rw[if_neg hc] at h ⊢;by_cases hd:qv7 (tk L st.at_)=true
        ·rw[if_pos hd] at h ⊢;show 0+0+1+st.at_≤kzu x+(st.at_+1);omega
        ·rw[if_neg hd] at h ⊢;have:=vqx h;omega
theorem jxd {L:List Tok}(hL:pq L){st:RS}(hl:st.at_<L.length)(h:(rX (uz L) 0 .nil L st).2.bad=false):kzu (rX (uz L) 0 .nil L st).1≤801:=by
 obtain ⟨_,_,x3,_⟩:=kv9 hL hl h;have h1:=vq4 L (uz L) 0 .nil st h;have z0:kzu (.nil:PX)=0:=rfl;have hlen:=hL.len;omega
def BSm:PB→Prop
 | .nil=>True
 | .node _ _ a .nil n=>kzu a.value≤801∧BSm n
 | .node _ _ a (.node _ _ _ t e) n=>kzu a.cond≤801∧BSm t∧BSm e∧BSm n
theorem BSm.app:∀ {a b:PB},BSm a→BSm b→BSm (kxy a b)
 | .nil,b,_,h=>h
 | .node _ _ a .nil n,b,⟨h1,h2⟩,h=>⟨h1,h2.app h⟩
 | .node _ _ a (.node _ _ _ t e) n,b,⟨h1,h2,h3,h4⟩,h=>⟨h1,h2,h3,h4.app h⟩
theorem vw3 {L:List Tok}(hL:pq L){blk:RS→PB × RS}(hup:∀ s,(blk s).2.bad=false→s.bad=false)(hin:∀ s,s.at_<L.length→(blk s).2.bad=false→SIn L s (blk s))(hblk:∀ s,s.at_<L.length→(blk s).2.bad=false→BSm (blk s).1){st:RS}(hl:st.at_<L.length)(h:(rDo blk L st).2.bad=false):BSm (rDo blk L st).1:=by
 have hF:=hL.qxy;unfold rDo at h ⊢;by_cases hi:zq L [105,102] st=true
 ·rw[if_pos hi] at h ⊢;have common:(blk (rX (uz L) 0 .nil L (qp L [105,102] st)).2).2.bad=false→kzu (rX (uz L) 0 .nil L (qp L [105,102] st)).1≤801∧BSm (blk (rX (uz L) 0 .nil L (qp L [105,102] st)).2).1∧SIn L (rX (uz L) 0 .nil L (qp L [105,102] st)).2 (blk (rX (uz L) 0 .nil L (qp L [105,102] st)).2):=by
   intro hb;have hx:=hup _ hb;obtain ⟨m1,m2,m3⟩:=jl hF hl (kja hx);obtain ⟨x1,x2,x3,x4⟩:=kv9 hL m3 hx;exact ⟨jxd hL m3 hx,hblk _ x3 hb,hin _ x3 hb⟩
  by_cases he:zq L [101,108,115,101] (blk (rX (uz L) 0 .nil L (qp L [105,102] st)).2).2=true
  ·rw[if_pos he] at h ⊢;simp only at h ⊢;have hm:=hup _ h;obtain ⟨q1,q2,q3⟩:=common (kq7 hm);obtain ⟨e1,e2,e3⟩:=jl hF q3.lt hm;exact ⟨q1,q2,hblk _ e3 h,trivial⟩
  ·rw[if_neg he] at h ⊢;simp only at h ⊢;obtain ⟨q1,q2,q3⟩:=common h;exact ⟨q1,q2,trivial,trivial⟩
 ·rw[if_neg hi] at h ⊢;simp only at h ⊢;have hx:=kq7 h;have hm:=kja hx;have hp:=kq7 hm;obtain ⟨p1,p2,p3,p4,p5⟩:=zj4 hF hl hp;obtain ⟨m1,m2,m3⟩:=jl hF p4 hm;exact ⟨jxd hL m3 hx,trivial⟩
theorem jk4 {L:List Tok}(hL:pq L):∀ (f tag:Nat) (st:RS),st.at_<L.length→(rS f tag L st).2.bad=false→BSm (rS f tag L st).1
 | 0,tag,st,hl,h=>trivial
 | f+1,0,st,hl,h=>by
  have hF:=hL.qxy;rw[rS] at h ⊢;simp only at h ⊢;have hb:=kq7 h;obtain ⟨m1,m2,m3⟩:=jl hF hl (kk9 hb);exact jk4 hL f 1 _ m3 hb
 | f+1,t+1,st,hl,h=>by
  rw[rS] at h ⊢;by_cases hc:(zq L [125] st||st.bad)=true
  ·rw[if_pos hc] at h ⊢;exact trivial
  ·rw[if_neg hc] at h ⊢;simp only at h ⊢;have hd:=kk9 h;obtain ⟨d1,_⟩:SIn L st (rDo (rS f 0 L) L st)∧kyt (rDo (rS f 0 L) L st).1=1:=vxi hL (fun s=>kk9) (fun s hs hb=>zxt hL f 0 s hs hb) hl hd;exact (vw3 hL (fun s=>kk9) (fun s hs hb=>zxt hL f 0 s hs hb) (fun s hs hb=>jk4 hL f 0 s hs hb) hl hd).app (jk4 hL f 1 _ d1.lt h)
def qkg (r:PRule):Prop:=kzu r.guard≤801∧BSm r.body
theorem vzz {L:List Tok}(hL:pq L)(st:RS)(hl:st.at_<L.length)(h:(kql L st).2.bad=false):qkg (kql L st).1:=by
 have hF:=hL.qxy;unfold kql at h ⊢;simp only at h ⊢;have hg:(qje L st).2.bad=false:=kk9 h;have hm:(qp L [105,102] (qja L st).2).bad=false:=kja hg;have hp:(qja L st).2.bad=false:=kq7 hm;have hk:(zqr L st).2.bad=false:=qx1 hp;obtain ⟨m1,m2,m3⟩:=jl hF hl (kxj hk);obtain ⟨a1,a2,a3,a4,a5⟩:=kqi hF m3 rfl hk;obtain ⟨p1,p2,p3⟩:=qx2 hF a5 hp;obtain ⟨b1,b2,b3⟩:=jl hF p2 hm;obtain ⟨x1,x2,x3,x4⟩:=kv9 hL b3 hg;exact ⟨jxd hL b3 hg,jk4 hL _ _ _ x3 h⟩
theorem vqt {L:List Tok}(hL:pq L)(st:RS)(hl:st.at_<L.length)(h:(kqa L st).2.bad=false):qkg (kqa L st).1:=by
 have hF:=hL.qxy;unfold kqa at h ⊢;simp only at h ⊢;have hg:(qz5 L st).2.bad=false:=kq7 h;have hp:(qk8 L st).2.bad=false:=kja hg;have hk:(qk9 L st).2.bad=false:=qx1 hp;obtain ⟨m1,m2,m3⟩:=jl hF hl (kxj hk);obtain ⟨a1,a2,a3,a4,a5⟩:=kqi hF m3 rfl hk;obtain ⟨p1,p2,p3⟩:=qx2 hF a5 hp;exact ⟨jxd hL p2 hg,trivial⟩
theorem jq0 {α:Type}{L:List Tok}{lit:List UInt8}{one:RS→α × RS}:∀ (f:Nat) (l:List α) (s:RS),(kjf L lit one (f+1) l s).2.bad=false→s.bad=false→l.length<(kjf L lit one (f+1) l s).1.length
 | 0,l,s,h,hs=>by
  rw[kjf] at h ⊢;rw[if_neg (by rw[hs];simp)] at h ⊢;split
  ·simp[kjf]
  ·simp
 | f+1,l,s,h,hs=>by
  rw[kjf] at h ⊢;rw[if_neg (by rw[hs];simp)] at h ⊢;by_cases hn:zq L lit (one s).2=true
  ·rw[if_pos hn] at h ⊢;have ho:(one s).2.bad=false:=kj0 fun e=>by rw[kx9 e] at h;rw[e] at h;cases h
   have:=jq0 f (l++[(one s).1]) (one s).2 h ho;simp at this;omega
  ·rw[if_neg hn];simp
theorem zy5 (L:List Tok):∀ (f:Nat) (l:List Tok) (st:RS),l.length≤(kkb f L l st).1.length
 | 0,l,st=>wX _
 | f+1,l,st=>by
  rw[kkb];split
  ·exact wX _
  ·split
   ·have:=zy5 L f (l++[(qh L [110,97,109,101] st).1]) (qp L [44] (qh L [110,97,109,101] st).2);simp at this;omega
   ·simp
theorem vzy (L:List Tok)(f:Nat)(l:List Tok)(st:RS)(h:st.bad=false):l.length<(kkb (f+1) L l st).1.length:=by
 rw[kkb,if_neg (by rw[h];simp)];split
 ·have:=zy5 L f (l++[(qh L [110,97,109,101] st).1]) (qp L [44] (qh L [110,97,109,101] st).2);simp at this;omega
 ·simp
theorem vj2 {L:List Tok}(st:RS)(h:(kjx L st).2.bad=false):0<(kjx L st).1.members.length:=by
 have h1:(kwh L (qh L [110,97,109,101] (qp L [107,105,110,100] st)).2).2.bad=false:=h;unfold kwh at h1;have h2:=kq7 h1;have h3:(qp L [123] (qh L [110,97,109,101] (qp L [107,105,110,100] st)).2).bad=false:=kj0 fun e=>by
  rw[zqa e,e] at h2;cases h2
 have:=vzy L (L.length+1) [] (qp L [123] (qh L [110,97,109,101] (qp L [107,105,110,100] st)).2) h3;exact this
structure TreeSm (t:PTree):Prop where
 kinds:∀ k∈t.kinds,0<k.members.length
 rules:∀ r∈t.rules,qkg r
 nevers:∀ r∈t.nevers,qkg r
 vars:0<t.vars.length
theorem vz4 {L:List Tok}(hL:pq L)(h:(kqd L).2=none):TreeSm (kqd L).1:=by
 have hb:(kxu L).2.bad=false:=by
  rw[qvl] at h;cases hb:(kxu L).2.bad
  ·rfl
  ·rw[hb] at h;simp at h
 have hp:=hL.pos;have hN:=hb;unfold kxu at hN;rw[kwu] at hN;have hR:(kw6 L).2.bad=false:=kj0 fun e=>by rw[kxq e] at hN;rw[e] at hN;cases hN
 have hR':=hR;unfold kw6 at hR';rw[kye] at hR';have hV:(kkn L).2.bad=false:=kj0 fun e=>by rw[kx9 e] at hR';rw[e] at hR';cases hR'
 have hV':=hV;unfold kkn at hV';rw[qqs] at hV';have hH:(kz1 L kqq).2.2.bad=false:=kj0 fun e=>by rw[kx9 e] at hV';rw[e] at hV';cases hV'
 have hH':=hH;unfold kz1 at hH';simp only at hH';rw[qq0] at hH';have hS:(ky8 (uf L) L [] kqq).2.bad=false:=kj0 fun e=>by rw[kxq e] at hH';rw[e] at hH';cases hH'
 rw[qze] at hS;obtain ⟨s1,s2,ls,s3,s4,s5⟩:=kwl (P:=fun s=>jjj s.size) (jyo hL) (uf L) [] kqq hp hS;rw[←qze] at s2 s3 s5;obtain ⟨k1,k2,lk,k3,k4,k5⟩:=kwl (P:=fun k:PKind=>0<k.members.length) (fun s hs hg=>by obtain ⟨q1,_,q3,q4⟩:=jq9 hL s hs hg;exact ⟨q1,vj2 s hg,q3,q4⟩) (uf L) [] _ s2 hH';rw[←qq0] at k2 k3 k5;obtain ⟨v1,v2,lv,v3,v4,v5⟩:=qz9 (P:=qyp) (jyq hL) (uf L) [] (kz1 L kqq).2.2 k2 hV';have vne:0<(zqs (uf L) L [] (kz1 L kqq).2.2).1.length:=by
  rw[qqs];obtain ⟨f,hf⟩:∃ f,uf L=f+1:=⟨uf L-1,by unfold uf;omega⟩;rw[hf] at hV' ⊢;have:=jq0 f [] (kz1 L kqq).2.2 hV' hH;simpa using this
 rw[←qqs] at v2 v3 v5;obtain ⟨r1,r2,lr,r3,r4,r5⟩:=qz9 (P:=qkg) (fun s hs hg=>by obtain ⟨q1,_,q3,q4⟩:=jk0 hL s hs hg;exact ⟨q1,vzz hL s hs hg,q3,q4⟩) (uf L) [] (kkn L).2 v2 hR';rw[←kye] at r2 r3 r5;obtain ⟨n1,n2,ln,n3,n4,n5⟩:=kwl (P:=qkg) (fun s hs hg=>by obtain ⟨q1,_,q3,q4⟩:=zyg hL s hs hg;exact ⟨q1,vqt hL s hs hg,q3,q4⟩) (uf L) [] (kw6 L).2 r2 hN;rw[←kwu] at n2 n3 n5;have ev:(kqd L).1.vars=(zqs (uf L) L [] (kz1 L kqq).2.2).1:=rfl;have er:(kqd L).1.rules=lr:=by show (qvf (uf L) L [] (kkn L).2).1=lr;rw[r3];rfl
 have en:(kqd L).1.nevers=ln:=by show (qzi (uf L) L [] (kw6 L).2).1=ln;rw[n3];rfl
 have ek:(kqd L).1.kinds=lk:=by show (qk5 (uf L) L [] (ky8 (uf L) L [] kqq).2).1=lk;rw[k3];rfl
 exact ⟨by rw[ek];exact k4,by rw[er];exact r4,by rw[en];exact n4,by rw[ev];exact vne⟩
theorem kxo {α:Type}{g:Nat→α→List Tok}{l:List α}{k:Nat}(h:jr g l k=[])(i:Nat)(hi:i<l.length):g (k+i) l[i]=[]:=by
 apply List.eq_nil_iff_forall_not_mem.mpr;intro y hy;have:=(jf (g:=g) (y:=y) l k).mpr ⟨i,hi,hy⟩;rw[h] at this;cases this
theorem kxz {c:Bool}{t:Tok}(h:kqj c t=[]):c=false:=by
 cases c
 ·rfl
 ·cases h
structure MdBnd (m:MdL):Prop where
 sets:m.sets.length≤2
 size:∀ s∈m.sets,2≤yx s.size.text∧yx s.size.text≤3
 kinds:m.kinds.length≤2
 mems:∀ k∈m.kinds,k.members.length≤4
 vars:m.vars.length≤4
 top:∀ v∈m.vars,v.si.form=1→1≤yx v.si.top.text∧yx v.si.top.text≤3
 rules:m.rules.length≤5
 nevers:m.nevers.length≤3
 pars:∀ r∈m.rules++m.nevers,r.params.length≤2
theorem qkz {α:Type}{l:List α}{n:Nat}(h:∀ i,i<l.length→decide ((n:Int)≤i)=false):l.length≤n:=by
 apply rD;intro hc;have:=h n (by omega);simp at this
theorem vkf {m:MdL}(h:kw3 m<0):MdBnd m:=by
 rw[jzx] at h;have e:=zjk h;rw[lC,lC,lC,lC] at e;obtain ⟨⟨⟨⟨e1,e2⟩,e3⟩,e4⟩,e5⟩:=e;have f1:=fun i hi=>lC.mp (kxo e1 i hi)
 have f2:=fun i hi=>lC.mp (kxo e2 i hi)
 have f3:=fun i hi=>lC.mp (kxo e3 i hi)
 have f4:=fun i hi=>lC.mp (kxo e4 i hi)
 have f5:=fun i hi=>lC.mp (kxo e5 i hi)
 have par:∀ l:List PP,jr qP l 0=[]→l.length≤2:=fun l hl=>qkz (n:=2) fun i hi=>by
  have:=kxz (kxo hl i hi);simpa using this
 refine ⟨qkz (n:=2) fun i hi=>by simpa using kxz (f1 i hi).1,fun s hs=>?_,qkz (n:=2) fun i hi=>by simpa using kxz (f2 i hi).1,fun k hk=>?_,qkz (n:=4) fun i hi=>by simpa using kxz (f3 i hi).1,fun v hv hf=>?_,qkz (n:=5) fun i hi=>by simpa using kxz (f4 i hi).1,qkz (n:=3) fun i hi=>by simpa using kxz (f5 i hi).1,fun r hr=>?_⟩
 ·obtain ⟨i,hi,rfl⟩:=rP hs;have:=kxz (f1 i hi).2;unfold vzr at this;rw[decide_eq_false_iff_not] at this;omega
 ·obtain ⟨i,hi,rfl⟩:=rP hk;exact qkz (n:=4) fun j hj=>by
   have:=kxz (kxo (f2 i hi).2 j hj);simpa using this
 ·obtain ⟨i,hi,rfl⟩:=rP hv;have:=kxz (f3 i hi).2;rw[hf] at this;unfold vzr at this;have h2:¬(yx m.vars[i].si.top.text<1∨3<yx m.vars[i].si.top.text):=by simpa using this
  omega
 ·rcases rC.mp hr with hr|hr
  ·obtain ⟨i,hi,rfl⟩:=rP hr;exact par _ (f4 i hi).2
  ·obtain ⟨i,hi,rfl⟩:=rP hr;exact par _ (f5 i hi).2
structure Right (t:PTree):Prop where
 bnd:MdBnd (jk t)
 fine:NamesFine t
 typ:qqt (zl (jk t)) (jk t)=true
 good:∃ L,qzm L t∧pq L
 sm:TreeSm t
theorem zy1 {s:ByteArray}(h:(kz4 s).1=0):Right (kqd (dw s).1).1:=by
 unfold kz4 at h;split at h
 ·cases h
 ·rename_i hsz;split at h
  ·cases h
  ·rename_i hk;split at h
   ·cases h
   ·rename_i hk2;have hL:pq (dw s).1:=zql s (by omega) hk;have tg:=tree_good hL hk2;unfold zqx at h;split at h
    ·cases h
    ·rename_i hm;split at h
     ·cases h
     ·rename_i hw;split at h
      ·rename_i ht;refine ⟨vkf (by omega),jzd ?_,ht,⟨_,tg,hL⟩,vz4 hL hk2⟩;rw[←jjv tg.vars tg.rules tg.nevers (jyp (tg.pw hL))];omega
      ·cases h
def qz0:List (Tok × Mean)→uw→Option uw
 | [],t=>some t
 | x::l,t=>(qva t x.1.text x.2).bind fun t'=>qz0 l t'
theorem zqi:∀ (a b:List (Tok × Mean)) (t:uw),qz0 (a++b) t=(qz0 a t).bind fun t'=>qz0 b t'
 | [],b,t=>rfl
 | x::a,b,t=>by
  show (qva t x.1.text x.2).bind (fun t'=>qz0 (a++b) t')=((qva t x.1.text x.2).bind fun t'=>qz0 a t').bind fun t'=>qz0 b t'
  cases qva t x.1.text x.2 with
  | none=>rfl
  | some t'=>exact zqi a b t'
theorem jk5:∀ (l:List (Tok × Mean)) (t:uw),(t.map (fun x=>x.1.toList)++l.map (fun x=>x.1.text.toList)).Nodup→(∀ x∈l,x.1.text.size≤1000)→qz0 l t=some (t++l.map (fun x=>(x.1.text,x.2)))
 | [],t,_,_=>by simp[qz0]
 | x::l,t,hn,hs=>by
  have hp:qva t x.1.text x.2=some (t++[(x.1.text,x.2)]):=by
   unfold qva;rw[if_neg];rw[lY,not_or,l9,nG];refine ⟨fun ⟨y,hy,e⟩=>?_,by have:=hs x (rY ..);omega⟩;rw[rZ] at e;rw[Qp] at hn;exact hn.2.2 _ (tC (f:=fun x:ByteArray × Mean=>x.1.toList) hy) x.1.text.toList (by simp) e
  rw[qz0,hp];show qz0 l (t++[(x.1.text,x.2)])=_;rw[jk5 l _ (by simpa using hn) (fun y hy=>hs y (rJ _ hy))];simp
def zvm:List Tok→Nat→List (Tok × Mean)
 | [],_=>[]
 | x::l,i=>(x,⟨false,i⟩)::zvm l (i+1)
def zwv:List VrT→Nat→List (Tok × Mean)
 | [],_=>[]
 | v::l,i=>(v.name,⟨true,i⟩)::zwv l (i+1)
theorem zym:∀ (l:List Tok) (i:Nat) (t:uw),zjy l i t=qz0 (zvm l i) t
 | [],i,t=>rfl
 | x::l,i,t=>by
  show (qva t x.text ⟨false,i⟩).bind (fun t'=>zjy l (i+1) t')=(qva t x.text ⟨false,i⟩).bind fun t'=>qz0 (zvm l (i+1)) t'
  congr 1
  funext t'
  exact zym l (i+1) t'
theorem zkq:∀ (l:List PKind) (t:uw),qj5 l t=qz0 (l.flatMap fun k=>zvm k.members 0) t
 | [],t=>rfl
 | k::l,t=>by
  rw[qj5,lD,zqi,zym];congr 1
  funext t'
  exact zkq l t'
theorem zk4:∀ (l:List Tok) (i:Nat),(zvm l i).map (·.1)=l
 | [],i=>rfl
 | x::l,i=>by rw[zvm,lJ,zk4 l (i+1)]
theorem zxz:∀ (l:List VrT) (i:Nat),(zwv l i).map (·.1)=l.map (·.name)
 | [],i=>rfl
 | v::l,i=>by rw[zwv,lJ,zxz l (i+1)];rfl
theorem jkk:∀ (l:List Tok) (i:Nat) (j:Nat) (h:j<l.length),(l[j],(⟨false,i+j⟩:Mean))∈zvm l i
 | x::l,i,0,_=>rY ..
 | x::l,i,j+1,h=>by
  rw[zvm];have:=jkk l (i+1) j (by simpa using h);rw[show i+(j+1)=i+1+j by omega];exact rJ _ this
theorem zxx:∀ (l:List VrT) (i:Nat) (j:Nat) (h:j<l.length),(l[j].name,(⟨true,i+j⟩:Mean))∈zwv l i
 | x::l,i,0,_=>rY ..
 | x::l,i,j+1,h=>by
  rw[zwv];have:=zxx l (i+1) j (by simpa using h);rw[show i+(j+1)=i+1+j by omega];exact rJ _ this
def qju (m:MdL):List (Tok × Mean):=(m.kinds.flatMap fun k=>zvm k.members 0)++zwv m.vars 0
def kzm (m:MdL):uw:=(qju m).map fun x=>(x.1.text,x.2)
theorem qj8 {t:PTree}(h:NamesFine t):((zf t).map (fun x=>x.text.toList)).Nodup:=by
 unfold List.Nodup;rw[Qm];intro i j hi hj hij;rw[Qa,Qa];exact h.uniq j i hij (by simpa using hj) (by simpa using hi)
theorem qj7 (t:PTree):zf t=t.sets.flatMap zv9++(t.kinds.flatMap kk2++(t.vars.flatMap jyj++(t.rules++t.nevers).flatMap zqh)):=by
 unfold zf qyx zz0 zkp;rw[tK,tK]
theorem jw5 (t:PTree):(qju (jk t)).map (·.1)=(t.kinds.flatMap fun k=>k.members)++t.vars.flatMap jyj:=by
 unfold qju;rw[sJ,QC,zxz];congr 1
 ·simp only[zk4];rfl
 ·show (t.vars.map yg).map (·.name)=_;rw[Qz,JK];rfl
theorem zyl (t:PTree):((qju (jk t)).map (·.1)).Sublist (zf t):=by
 rw[jw5,qj7];exact ((qqz (fun k=>List.sublist_cons_self _ _) t.kinds).append (Js _ _)).trans (QZ _ _)
theorem zjg {t:PTree}(h:NamesFine t):((kzm (jk t)).map (fun x=>x.1.toList)).Nodup:=by
 have e:(kzm (jk t)).map (fun x=>x.1.toList)=((qju (jk t)).map (·.1)).map (fun x=>x.text.toList):=by
  unfold kzm;rw[Qz,Qz];rfl
 rw[e];exact ((zyl t).map _).nodup (qj8 h)
theorem jq8 {t:PTree}(h:NamesFine t):(t.kinds.map (fun k=>k.name.text.toList)).Nodup:=by
 have s:(t.kinds.flatMap fun k=>[k.name]).Sublist (zf t):=by
  rw[qj7];refine ((qqz (fun k=>?_) t.kinds).trans (Js _ _)).trans (QZ _ _);exact (Jf _).cons_cons _
 have:=(s.map (fun x=>x.text.toList)).nodup (qj8 h);rw[←JK,Qz] at this;exact this
theorem zwe {t:PTree}(h:NamesFine t):(t.rules.map (fun k=>k.name.text.toList)).Nodup:=by
 have s:(t.rules.flatMap zqh).Sublist (zf t):=by
  rw[qj7,lV];exact (((Js _ _).trans (QZ _ _)).trans (QZ _ _)).trans (QZ _ _)
 have:=(s.map (fun x=>x.text.toList)).nodup (qj8 h);have e:t.rules.flatMap zqh=t.rules.map (fun r=>r.name):=by rw[JK];rfl
 rw[e,Qz] at this;exact this
theorem vqe {t:PTree}(h:NamesFine t)(hs:TreeSize t):qz0 (qju (jk t)) []=some (kzm (jk t)):=by
 rw[jk5 (qju (jk t)) [] ?_ ?_]
 ·rfl
 ·have:=zjg h;unfold kzm at this;rw[Qz] at this;exact this
 ·intro x hx;have h1:x.1∈zf t:=(zyl t).subset (tC hx);have:=(hs.nm _ ((qyz t).subset h1)).2;omega
theorem zk5 {t:PTree}(h:NamesFine t){x:Tok × Mean}(hx:x∈qju (jk t)):kje (kzm (jk t)) x.1.text.toList=x.2:=
 zjm (kzm (jk t)) _ (zjg h) (x.1.text,x.2) (tC (f:=fun x:Tok × Mean=>(x.1.text,x.2)) hx) rfl
def ssz (m:MdL)(s:List UInt8):Nat:=(qxv m.sets s).getD 0
def ksz (m:MdL)(s:List UInt8):Nat:=match kwv m.kinds s with|some k=>k.members.length|none=>0
theorem jxi:∀ (l:List PSet) (s:List UInt8),(∃ q∈l,q.name.text.toList=s)→∃ k x,kyg l s=some k∧l[k]?=some x∧x∈l
 | [],s,⟨q,hq,_⟩=>by cases hq
 | x::l,s,⟨q,hq,e⟩=>by
  rw[kyg];cases hx:(x.name.text.toList==s)
  ·rw[sD] at hx;rcases tX.mp hq with rfl|hq
   ·exact (hx e).elim
   ·obtain ⟨k,y,h1,h2,h3⟩:=jxi l s ⟨q,hq,e⟩;exact ⟨k+1,y,by rw[if_neg (by simp),h1];rfl,by simpa using h2,rJ _ h3⟩
  ·exact ⟨0,x,by rw[if_pos rfl],rfl,rY ..⟩
theorem jq5 {α:Type}{f:α→ByteArray}{l:List α}{s:List UInt8}(h:¬ji (l.map f) s<0):∃ q∈l,(f q).toList=s:=by
 apply rD;intro hc;refine h ((kk1 _ _).mpr fun x hx=>?_);obtain ⟨q,hq,rfl⟩:=su.mp hx;exact fun e=>hc ⟨q,hq,e⟩
theorem zv6 {t:PTree}(h:Right t){s:List UInt8}(hs:¬ji (kj4 t) s<0):∃ n,qxv t.sets s=some n∧2≤n∧n≤3∧ssz (jk t) s=n:=by
 obtain ⟨k,x,h1,h2,h3⟩:=jxi t.sets s (jq5 hs);have hb:=h.bnd.size x h3;have e:qxv t.sets s=some (yx x.size.text).toNat:=by
  unfold qxv;rw[h1];show (t.sets[k]?).bind _=_;rw[h2];show jqt x.size.text=_;unfold jqt;rw[if_pos (by omega)]
 refine ⟨_,e,by omega,by omega,?_⟩;unfold ssz;rw[show (jk t).sets=t.sets from rfl,e];rfl
theorem qqq:∀ {l:List PKind} {s:List UInt8} {k:PKind},kwv l s=some k→k∈l∧k.name.text.toList=s
 | x::l,s,k,h=>by
  rw[kwv] at h;split at h
  ·rename_i hx;injection h with h;subst h;exact ⟨rY ..,by simpa using hx⟩
  ·obtain ⟨h1,h2⟩:=qqq h;exact ⟨rJ _ h1,h2⟩
theorem jkm:∀ (l:List PKind) (s:List UInt8),(∃ q∈l,q.name.text.toList=s)→∃ k,kwv l s=some k
 | [],s,⟨q,hq,_⟩=>by cases hq
 | x::l,s,⟨q,hq,e⟩=>by
  rw[kwv];cases hx:(x.name.text.toList==s)
  ·rw[sD] at hx;rcases tX.mp hq with rfl|hq
   ·exact (hx e).elim
   ·rw[if_neg (by simp)];exact jkm l s ⟨q,hq,e⟩
  ·exact ⟨x,by rw[if_pos rfl]⟩
theorem jkb:∀ {l:List PKind},(l.map (fun k=>k.name.text.toList)).Nodup→∀ {k:PKind},k∈l→kwv l k.name.text.toList=some k
 | x::l,hn,k,hk=>by
  rw[lJ,Qb] at hn;rw[kwv];rcases tX.mp hk with rfl|hk
  ·rw[if_pos (by simp)]
  ·rw[if_neg]
   ·exact jkb hn.2 hk
   ·rw[rZ];intro e;exact hn.1 (by rw[e];exact tC (f:=fun k:PKind=>k.name.text.toList) hk)
theorem vj1 {t:PTree}(h:NamesFine t){k:PKind}(hk:k∈t.kinds):ksz (jk t) k.name.text.toList=k.members.length:=by
 unfold ksz;rw[show (jk t).kinds=t.kinds from rfl,jkb (jq8 h) hk]
theorem vke {t:PTree}(h:Right t)(s:List UInt8):ksz (jk t) s≤1000:=by
 unfold ksz;cases hk:kwv (jk t).kinds s with
 | none=>exact rG _
 | some k=>
  have:=h.bnd.mems k (qqq hk).1;show k.members.length≤1000;omega
theorem vkg (m:MdL)(s:List UInt8):ssz m s≤1000:=by
 unfold ssz;cases hk:qxv m.sets s with
 | none=>exact rG _
 | some n=>
  obtain ⟨_,_,_,_,_,h⟩:=kwy hk;show n≤1000;omega
structure UOk (m:MdL)(u:MVar)(d:VrT):Prop where
 cnt:u.count=if d.arr then ssz m d.over.text.toList else 1
 low:1≤u.count
 top:u.count≤3
 few:u.texts.length≤200
 ne:0<u.texts.length
 tru:(kxn (zl m) d.si).fam=1→u.texts.length=2
 kin:(kxn (zl m) d.si).fam=3→u.texts.length=ksz m (kxn (zl m) d.si).name.toList
 set:(kxn (zl m) d.si).fam=4→u.texts.length=ssz m (kxn (zl m) d.si).name.toList+1
 txt:∀ x∈u.texts,x.size≤800∧0<x.size
theorem vjx (i:Nat):(kyb i).size=1:=rfl
theorem zjz {n:Nat}:∀ x∈kwt n,x.size≤800∧0<x.size:=by
 intro x hx;unfold kwt at hx;obtain ⟨i,_,rfl⟩:=su.mp hx;rw[vjx];omega
theorem vv4 {t:PTree}(h:Right t){v:PVar}(hv:v∈t.vars):∃ c,(if (yg v).arr then qxv t.sets (yg v).over.text.toList else some 1)=some c∧1≤c∧c≤3∧c=if (yg v).arr then ssz (jk t) (yg v).over.text.toList else 1:=by
 obtain ⟨L,hg,hL⟩:=h.good;obtain ⟨h1,_⟩:=hg.vars v hv;cases ha:(yg v).arr
 ·exact ⟨1,by simp,by omega,by omega,by simp⟩
 ·have hk:(v.over.kind.toList==[110,97,109,101])=true:=by
   rcases h1 with e|e
   ·have:(yg v).arr=!(v.over.kind.toList==[]):=rfl;rw[this,e,kqh] at ha;cases ha
   ·exact e
  obtain ⟨n,e1,e2,e3,e4⟩:=zv6 h (h.fine.over v hv hk);have eo:(yg v).over=v.over:=rfl;rw[eo];exact ⟨n,by rw[if_pos rfl];exact e1,by omega,e3,by rw[if_pos rfl];exact e4.symm⟩
theorem vky {t:PTree}(h:Right t){v:PVar}(hv:v∈t.vars):∃ l,jvz t.sets t.kinds (yg v).si=some l∧l.length≤200∧0<l.length∧((kxn (zl (jk t)) (yg v).si).fam=1→l.length=2)∧((kxn (zl (jk t)) (yg v).si).fam=3→l.length=ksz (jk t) (kxn (zl (jk t)) (yg v).si).name.toList)∧((kxn (zl (jk t)) (yg v).si).fam=4→l.length=ssz (jk t) (kxn (zl (jk t)) (yg v).si).name.toList+1)∧∀ x∈l,x.size≤800∧0<x.size:=by
 obtain ⟨L,hg,hL⟩:=h.good;have hsz:=kww hL hg;obtain ⟨_,h2⟩:=hg.vars v hv;rcases h2 with ⟨k1,k2,_⟩|⟨k1,k2,_,_⟩|⟨k1,_⟩
 ·have e:(yg v).si=⟨0,jy,jy⟩:=by unfold yg;rw[k1,k2];rfl
  rw[e];refine ⟨kwt 2,rfl,by rw[kzl];omega,by rw[kzl];omega,fun _=>kzl 2,fun e=>?_,fun e=>?_,zjz⟩
  ·have:(1:Int)=3:=e;omega
  ·have:(1:Int)=4:=e;omega
 ·have e:(yg v).si=⟨1,v.top,jy⟩:=by unfold yg;rw[k1,k2];rfl
  have hb:=h.bnd.top (yg v) (tC hv) (by rw[e]);rw[e] at hb ⊢;have hb':1≤yx v.top.text∧yx v.top.text≤3:=hb;refine ⟨kwt ((yx v.top.text).toNat+1),?_,by rw[kzl];omega,by rw[kzl];omega,fun e=>?_,fun e=>?_,fun e=>?_,zjz⟩
  ·show (jqt v.top.text).map (fun n=>kwt (n+1))=_;unfold jqt;rw[if_pos (by omega)];rfl
  ·have:(2:Int)=1:=e;omega
  ·have:(2:Int)=3:=e;omega
  ·have:(2:Int)=4:=e;omega
 ·have e:(yg v).si=⟨2,jy,v.type_⟩:=by unfold yg;rw[k1];rfl
  rw[e];have hT:kxn (zl (jk t)) ⟨2,jy,v.type_⟩=if (zk (zl (jk t)) v.type_.text.toList).role==1 then ⟨4,v.type_.text⟩ else ⟨3,v.type_.text⟩:=rfl
  have hX:jvz t.sets t.kinds ⟨2,jy,v.type_⟩=match kwv t.kinds v.type_.text.toList with|some k=>some (k.members.map (·.text))|none=>(qxv t.sets v.type_.text.toList).map fun m=>⟨#[45]⟩::kwt m:=rfl
  rw[hT,hX];by_cases hr:(zk (zl (jk t)) v.type_.text.toList).role=1
  ·rw[if_pos (by rw[rZ];exact hr)];have hno:kwv t.kinds v.type_.text.toList=none:=by
    cases hk:kwv t.kinds v.type_.text.toList with
    | none=>rfl
    | some k=>
     obtain ⟨q1,q2⟩:=qqq hk;have:=jkw h.fine (zkj q1);simp only[q2] at this;rw[this] at hr;cases hr
   obtain ⟨n,e1,e2,e3,e4⟩:=zv6 h ((qke t _).mp hr);rw[hno,e1];refine ⟨⟨#[45]⟩::kwt n,rfl,by rw[nX,kzl];omega,by simp,fun e=>?_,fun e=>?_,fun _=>?_,fun x hx=>?_⟩
   ·have:(4:Int)=1:=e;omega
   ·have:(4:Int)=3:=e;omega
   ·show (⟨#[45]⟩::kwt n).length=ssz (jk t) v.type_.text.toList+1;rw[nX,kzl,e4]
   ·rcases tX.mp hx with rfl|hx
    ·exact ⟨by decide,by decide⟩
    ·exact zjz x hx
  ·rw[if_neg (by rw[rZ];exact hr)];have hlt:ji (kj4 t) v.type_.text.toList<0:=by
    apply rD;intro hc;exact hr ((qke t _).mpr hc)
   obtain ⟨k,hk⟩:=jkm t.kinds v.type_.text.toList (jq5 (h.fine.type_ v hv (by rw[rZ];exact k1) hlt));obtain ⟨q1,q2⟩:=qqq hk;have hm:=h.bnd.mems k q1;rw[hk];refine ⟨k.members.map (·.text),rfl,by rw[ni];omega,by rw[ni];exact h.sm.kinds k q1,fun e=>?_,fun _=>?_,fun e=>?_,fun x hx=>?_⟩
   ·have:(3:Int)=1:=e;omega
   ·show (k.members.map (·.text)).length=ksz (jk t) v.type_.text.toList;rw[←q2,vj1 h.fine q1,ni]
   ·have:(3:Int)=4:=e;omega
   ·obtain ⟨y,hy,rfl⟩:=su.mp hx;have:=hsz.nm _ (qw4 q1 (rJ _ hy));exact ⟨this.2,this.1⟩
theorem vvx {t:PTree}(h:Right t){v:PVar}(hv:v∈t.vars)(sz:Nat):∃ u,zx7 t.sets t.kinds sz (yg v)=some u∧u.first=sz∧UOk (jk t) u (yg v):=by
 obtain ⟨c,c1,c2,c3,c4⟩:=vv4 h hv;obtain ⟨l,l1,l2,l3,l4,l5,l6,l7⟩:=vky h hv;unfold zx7;rw[c1,l1];exact ⟨_,rfl,rfl,c4,c2,c3,l2,l3,l4,l5,l6,l7⟩
def vmk (ss:List PSet)(ks:List PKind):List VrT→Nat→Option (List MVar × Nat)
 | [],sz=>some ([],sz)
 | v::l,sz=>(zx7 ss ks sz v).bind fun u=>(vmk ss ks l (sz+u.count)).map fun r=>(u::r.1,r.2)
structure VsOk (m:MdL)(l:List VrT)(sz:Nat)(us:List MVar)(z:Nat):Prop where
 len:us.length=l.length
 low:sz≤z
 top:z≤sz+3 * l.length
 at_:∀ j (hj:j<l.length),∃ u,us[j]?=some u∧UOk m u l[j]
 fit:∀ u∈us,sz≤u.first∧u.first+u.count≤z
 disj:qwn us
theorem jjg {t:PTree}(h:Right t):∀ (l:List PVar),(∀ v∈l,v∈t.vars)→∀ sz,∃ us z,vmk t.sets t.kinds (l.map yg) sz=some (us,z)∧VsOk (jk t) (l.map yg) sz us z
 | [],_,sz=>⟨[],sz,rfl,rfl,wX _,wX _,(fun j hj=>by simp at hj),(fun u hu=>by cases hu),fun i j u v hu=>by simp at hu⟩
 | v::l,hl,sz=>by
  obtain ⟨u,u1,u2,u3⟩:=vvx h (hl v (rY ..)) sz;obtain ⟨us,z,v1,v2⟩:=jjg h l (fun x hx=>hl x (rJ _ hx)) (sz+u.count);have hc:=u3.top;have a1:=v2.low;have a2:=v2.top;have a3:=v2.len;refine ⟨u::us,z,?_,?_,by omega,?_,?_,?_,?_⟩
  ·rw[lJ,vmk,u1];show (vmk t.sets t.kinds (l.map yg) (sz+u.count)).map _=_;rw[v1];rfl
  ·rw[lJ,nX,nX,a3]
  ·rw[lJ,nX];omega
  ·intro j hj;cases j with
   | zero=>exact ⟨u,rfl,by simpa using u3⟩
   | succ j=>
    obtain ⟨x,x1,x2⟩:=v2.at_ j (by simpa using hj);exact ⟨x,by simpa using x1,by simpa using x2⟩
  ·intro x hx;rcases tX.mp hx with rfl|hx
   ·omega
   ·have:=v2.fit x hx;omega
  ·intro i j x y hx hy hij;cases i with
   | zero=>
    cases j with
    | zero=>exact (hij rfl).elim
    | succ j=>
     rw[sZ] at hx;injection hx with hx;subst hx;rw[sV] at hy;have:=v2.fit y (nU hy);omega
   | succ i=>
    rw[sV] at hx;cases j with
    | zero=>
     rw[sZ] at hy;injection hy with hy;subst hy;have:=v2.fit x (nU hx);omega
    | succ j=>
     rw[sV] at hy;exact v2.disj i j x y hx hy (by omega)
theorem vmk_le {ss:List PSet} {ks:List PKind}:∀ (l:List VrT) (sz:Nat) (r:List MVar × Nat),vmk ss ks l sz=some r→sz≤r.2
 | [],sz,r,h=>by
  have e:some (([]:List MVar),sz)=some r:=h;injection e with e;subst e;exact wX _
 | v::l,sz,r,h=>by
  rw[vmk] at h;obtain ⟨u,q1,q2⟩:=wJ.mp h;obtain ⟨r',q3,q4⟩:=tu.mp q2;have:=vmk_le l _ _ q3;rw[←q4];show sz≤r'.2;omega
theorem jxb {ss:List PSet}{ks:List PKind}:∀ (l:List VrT) (i:Nat) (t t':uw) (vs us:List MVar) (sz z:Nat),qz0 (zwv l i) t=some t'→vmk ss ks l sz=some (us,z)→z≤100000→vs.length+l.length≤1000→ky5 ss ks l i t vs sz=some (t',vs++us,z)
 | [],i,t,t',vs,us,sz,z,h1,h2,h3,h4=>by
  have e1:some t=some t':=h1;have e2:some (([]:List MVar),sz)=some (us,z):=h2;injection e1 with e1;injection e2 with e2;injection e2 with e2 e3;subst e1;subst e2;subst e3;rw[ky5,lq]
 | v::l,i,t,t',vs,us,sz,z,h1,h2,h3,h4=>by
  rw[zwv,qz0] at h1;obtain ⟨t1,p1,p2⟩:=wJ.mp h1;rw[vmk] at h2;obtain ⟨u,q1,q2⟩:=wJ.mp h2;obtain ⟨r,q3,q4⟩:=tu.mp q2;injection q4 with q4 q5;have hz:sz+u.count≤z:=by rw[←q5];exact vmk_le l _ _ q3
  have p1':qva t v.name.text ⟨true,i⟩=some t1:=p1;rw[nX] at h4;rw[ky5,p1'];show (if sz≤100000∧vs.length≤1000 then (zx7 ss ks sz v).bind fun u=>ky5 ss ks l (i+1) t1 (vs++[u]) (sz+u.count) else none)=_;rw[if_pos (by omega),q1];show ky5 ss ks l (i+1) t1 (vs++[u]) (sz+u.count)=_;rw[jxb l (i+1) t1 t' (vs++[u]) r.1 (sz+u.count) r.2 p2 q3 (by rw[q5];exact h3) (by rw[wB];simp;omega),q5,←q4];simp
theorem vxf {t:PTree}(h:Right t){us:List MVar}{z:Nat}(hs:TreeSize t)(hv:vmk t.sets t.kinds (t.vars.map yg) 0=some (us,z))(hz:z≤100000):∃ t1,qj5 t.kinds []=some t1∧ky5 t.sets t.kinds (t.vars.map yg) 0 t1 [] 0=some (kzm (jk t),us,z):=by
 have hp:=vqe h.fine hs;unfold qju at hp;rw[zqi] at hp;obtain ⟨t1,p1,p2⟩:=wJ.mp hp;refine ⟨t1,by rw[zkq];exact p1,?_⟩;have hn:=h.bnd.vars;have:=jxb (ss:=t.sets) (ks:=t.kinds) (t.vars.map yg) 0 t1 _ [] us 0 z p2 hv hz (by
  have e:(jk t).vars=t.vars.map yg:=rfl;rw[e] at hn;simp only[QX];omega)
 rw[fD] at this;exact this
theorem vv2 {t:PTree}(h:Right t){us:List MVar}{z:Nat}(hv:VsOk (jk t) (t.vars.map yg) 0 us z):EnvOk (zl (jk t)) us (kzm (jk t)) (ksz (jk t)) (ssz (jk t)) z:=by
 refine ⟨fun s hr=>?_,fun s hr=>?_,fun s ha=>?_,vke h,vkg _,?_⟩
 ·rw[kjk] at hr ⊢;rcases kjv (kqf (jk t)) s with ⟨e,_⟩|⟨j,hj,g1,g2,e⟩
  ·rw[e] at hr;cases hr
  ·rw[e] at hr ⊢;simp only at hr ⊢;rcases kv4 _ _ (wY hj) with g|g|g|g|g|g
   ·have:=g.1;omega
   ·have:=g.1;omega
   ·obtain ⟨_,k,hk,hm,ek⟩:=g;obtain ⟨i,hi,ei⟩:=rP hm;have hin:((kqf (jk t))[j].1,(⟨false,0+i⟩:Mean))∈qju (jk t):=by
     unfold qju;refine wU _ (tV.mpr ⟨k,hk,?_⟩);have:=jkk k.members 0 i hi;rw[ei] at this;exact this
    have hl:=zk5 h.fine hin;simp only[g1] at hl;rw[hl,ek,vj1 h.fine hk];exact ⟨rfl,by show 0+i<_;omega⟩
   ·have:=g.1;omega
   ·have:=g.1;omega
   ·have:=g.1;omega
 ·obtain ⟨v1,v2⟩:=vqi h.fine s;have h0:=v1.mp hr;obtain ⟨hi,ev⟩:=v2 h0;obtain ⟨hi2,he⟩:=qq9 h0;have he':(t.vars[(ji (gq t) s).toNat]).name.text.toList=s:=by
   have:(gq t)[(ji (gq t) s).toNat]=(t.vars[(ji (gq t) s).toNat]).name.text:=by simp[gq]
   rw[←this];exact he
  generalize (ji (gq t) s).toNat=i at hi ev he';have hj:i<(t.vars.map yg).length:=by simpa using hi
  have hin:((t.vars.map yg)[i].name,(⟨true,0+i⟩:Mean))∈qju (jk t):=rV _ (zxx (t.vars.map yg) 0 i hj);have hl:=zk5 h.fine hin;have en:(t.vars.map yg)[i].name.text.toList=s:=by rw[Qa];exact he'
  simp only[en] at hl;obtain ⟨u,u1,u2⟩:=hv.at_ i hj;rw[hl,ev];refine ⟨rfl,u,by rw[lU];exact u1,?_⟩;have hf:=hv.fit u (nU u1);rw[Qa] at u2;exact ⟨hf.2,u2.cnt,u2.low,u2.few,u2.tru,u2.kin,u2.set⟩
 ·apply rD;intro hc;rw[jzl t s hc] at ha;cases ha
 ·have h1:=hv.top;have h2:=h.bnd.vars;have e:(jk t).vars=t.vars.map yg:=rfl;rw[e] at h2;omega
theorem jyt {m:MdL}{l:List VrT}{us:List MVar}{z:Nat}(hv:VsOk m l 0 us z):kjc us z (List.replicate z 0):=by
 refine ⟨QJ,fun v hm j hj=>?_⟩;obtain ⟨i,hi,rfl⟩:=rP hm;obtain ⟨u,u1,u2⟩:=hv.at_ i (by rw[←hv.len];exact hi);rw[wW hi] at u1;injection u1 with u1;have hf:=hv.fit us[i] hm;have hne:=u2.ne;rw[←u1] at hne;exact ⟨0,by rw[List.getElem?_replicate,if_pos (by omega)],Int.le_refl _,by omega⟩
theorem jxq {n:Nat}{all:List (List Int)}{x:List Int}(h:x∈uo n all):∃ c∈all,∃ j:Nat,j<n∧x=c++[(j:Int)]:=by
 unfold uo at h;obtain ⟨c,hc,h2⟩:=tV.mp h;obtain ⟨j,hj,rfl⟩:=su.mp h2;exact ⟨c,hc,j,by simpa using hj,rfl⟩
theorem qxl (n:Nat):∀ all:List (List Int),(uo n all).length=all.length * n
 | []=>by simp[uo]
 | c::l=>by
  have e:uo n (c::l)=((List.range n).map fun (j:Nat)=>c++[(j:Int)])++uo n l:=rfl;rw[e,wB,qxl n l,ni,List.length_range,nX,Nat.add_mul];omega
theorem zva {n:Nat}{all:List (List Int)}(h:all.Nodup):(uo n all).Nodup:=by
 unfold uo List.Nodup;rw[List.pairwise_flatMap];refine ⟨fun c _=>?_,?_⟩
 ·rw[JD];refine List.Pairwise.imp ?_ (List.nodup_range (n:=n));intro a b hab e;have:=List.append_cancel_left e;injection this with this;exact hab (by omega)
 ·refine List.Pairwise.imp ?_ h;intro a b hab x hx y hy e;obtain ⟨i,_,rfl⟩:=su.mp hx;obtain ⟨j,_,rfl⟩:=su.mp hy;exact hab (Jo e rfl).1
theorem vk0 {ss:List PSet}:∀ (l:List PP) (all:List (List Int)),(∀ p∈l,∃ n,qxv ss p.set_.text.toList=some n∧n≤3)→all.length * 3 ^ l.length≤100000→all.Nodup →
  ∃ c,chO ss l all=some c∧c.Nodup∧c.length≤all.length * 3 ^ l.length∧∀ x∈c,∃ y∈all,∃ z:List Int,x=y++z∧z.length=l.length∧∀ i (hi:i<l.length) (hz:i<z.length),0≤z[i]∧z[i]<((qxv ss l[i].set_.text.toList).getD 0:Nat)
 | [],all,_,hb,hn=>⟨all,rfl,hn,by simp,fun x hx=>⟨x,hx,[],by simp,rfl,fun i hi=>by simp at hi⟩⟩
 | p::l,all,hl,hb,hn=>by
  obtain ⟨n,h1,h2⟩:=hl p (rY ..);have hlen:=qxl n all;have hP:1≤3 ^ l.length:=Nat.one_le_pow _ _ (by omega);rw[nX,Nat.pow_succ] at hb;have hm:(uo n all).length * 3 ^ l.length≤all.length * (3 ^ l.length * 3):=by
   rw[hlen,Nat.mul_assoc];refine Zc _ ?_;rw[Nat.mul_comm];exact Zc _ h2
  have hle:(uo n all).length≤(uo n all).length * 3 ^ l.length:=Nat.le_mul_of_pos_right _ hP;obtain ⟨c,c1,c2,c3,c4⟩:=vk0 l (uo n all) (fun q hq=>hl q (rJ _ hq)) (by omega) (zva hn);refine ⟨c,?_,c2,by rw[nX,Nat.pow_succ];omega,fun x hx=>?_⟩
  ·rw[chO,h1];show (if (uo n all).length≤100000 then chO ss l (uo n all) else none)=_;rw[if_pos (by omega)];exact c1
  ·obtain ⟨y,hy,z,e1,e2,e3⟩:=c4 x hx;obtain ⟨y0,hy0,j,hj,rfl⟩:=jxq hy;refine ⟨y0,hy0,(j:Int)::z,by rw[e1,tK];rfl,by rw[nX,nX,e2],fun i hi hz=>?_⟩;cases i with
   | zero=>
    simp only[fG];rw[h1];show 0≤(j:Int)∧(j:Int)<((n:Nat):Int);omega
   | succ i=>
    simp only[Qd];exact e3 i (by simpa using hi) (by simpa using hz)
def qyd (z:List Int):Prop:=z.length≤2∧∀ x∈z,0≤x∧x<4
theorem qvb {z:List Int}(h:z.length≤2):z=[]∨(∃ a,z=[a])∨∃ a b,z=[a,b]:=by
 match z,h with
 | [],_=>exact Or.inl rfl
 | [a],_=>exact Or.inr (Or.inl ⟨a,rfl⟩)
 | [a,b],_=>exact Or.inr (Or.inr ⟨a,b,rfl⟩)
 | a::b::c::l,h=>simp at h
def qv6 (z:List Int):List UInt8:=Go.Lib.join ((z.map fun i=>kyb i.toNat).map (·.data.toList)) [44]
def dgB (a:Int):UInt8:=(48+a.toNat).toUInt8
theorem qwz:qv6 []=[]:=rfl
theorem qwj (a:Int):qv6 [a]=[dgB a]:=by simp[dgB,qv6,Go.Lib.join,kyb,List.intercalate,List.intersperse]
theorem qwq (a b:Int):qv6 [a,b]=[dgB a,44,dgB b]:=by simp[dgB,qv6,Go.Lib.join,kyb,List.intercalate,List.intersperse]
theorem vv1 {z:List Int}(h:qyd z):qxh z=true:=by
 have hl:(qv6 z).length≤3:=by
  rcases qvb h.1 with rfl|⟨a,rfl⟩|⟨a,b,rfl⟩
  ·rw[qwz];simp
  ·rw[qwj];simp
  ·rw[qwq];simp
 unfold qxh;rw[wG,wG,ng];refine ⟨⟨fun x hx=>?_,?_⟩,?_⟩
 ·have:=h.2 x hx;rw[wG];exact ⟨ny (by omega),ny (by omega)⟩
 ·have:=h.1;exact ny (by omega)
 ·exact ny (by unfold qv6 at hl;omega)
theorem zkw (n:ByteArray)(z:List Int):(kxf n z).toList=n.toList++(40::(qv6 z++[41])):=by
 unfold kxf zjl;rw[kqv,JJ,JJ,JJ,Jp,Jp,Jp,kqv];simp[qv6]
theorem zvs {a:Int}(h0:0≤a)(h1:a<4):dgB a≠40:=by
 have:a=0∨a=1∨a=2∨a=3:=by omega
 rcases this with rfl|rfl|rfl|rfl<;>decide
theorem zvf {a b:Int}(h0:0≤a)(h1:a<4)(h2:0≤b)(h3:b<4)(e:dgB a=dgB b):a=b:=by
 have ha:a=0∨a=1∨a=2∨a=3:=by omega
 have hb:b=0∨b=1∨b=2∨b=3:=by omega
 rcases ha with rfl|rfl|rfl|rfl<;>rcases hb with rfl|rfl|rfl|rfl<;>first|rfl|exact absurd e (by decide)
theorem jkt {n n':ByteArray}{z z':List Int}(h:qyd z)(h':qyd z')(e:(kxf n z).toList=(kxf n' z').toList):n.toList=n'.toList∧z=z':=by
 rw[zkw,zkw] at e;have e2:=congrArg List.reverse e;rcases qvb h.1 with rfl|⟨a,rfl⟩|⟨a,b,rfl⟩<;>rcases qvb h'.1 with rfl|⟨a',rfl⟩|⟨a',b',rfl⟩
 ·simp only[qwz] at e;exact ⟨(Jo e rfl).1,rfl⟩
 ·have ha:=h'.2 a' (by simp);simp[qwz,qwj] at e2;exact absurd e2.1.symm (zvs ha.1 ha.2)
 ·have hb:=h'.2 b' (by simp);simp[qwz,qwq] at e2;exact absurd e2.1.symm (zvs hb.1 hb.2)
 ·have ha:=h.2 a (by simp);simp[qwz,qwj] at e2;exact absurd e2.1 (zvs ha.1 ha.2)
 ·have ha:=h.2 a (by simp);have ha':=h'.2 a' (by simp);simp only[qwj] at e;obtain ⟨q1,q2⟩:=Jo e rfl;simp at q2;exact ⟨q1,by rw[zvf ha.1 ha.2 ha'.1 ha'.2 q2]⟩
 ·simp[qwj,qwq] at e2
 ·have hb:=h.2 b (by simp);simp[qwz,qwq] at e2;exact absurd e2.1 (zvs hb.1 hb.2)
 ·simp[qwj,qwq] at e2
 ·have ha:=h.2 a (by simp);have ha':=h'.2 a' (by simp);have hb:=h.2 b (by simp);have hb':=h'.2 b' (by simp);simp only[qwq] at e;obtain ⟨q1,q2⟩:=Jo e rfl;simp at q2;exact ⟨q1,by rw[zvf ha.1 ha.2 ha'.1 ha'.2 q2.1,zvf hb.1 hb.2 hb'.1 hb'.2 q2.2]⟩
theorem kku.num:∀ {x:PX},kku x→zx9 x
 | .node _ _ x a c,h=>by
  rcases h with ⟨hl,rfl,rfl⟩|⟨ho,ha,rfl⟩|⟨ho,ha,hc⟩
  ·refine ⟨fun e=>?_,trivial,trivial⟩;rcases hl with (e1|e1|e1)|⟨e1,h1,h2⟩|⟨e1,_⟩
   ·rw[e1] at e;exact absurd e (by decide)
   ·rw[e1] at e;exact absurd e (by decide)
   ·rw[e1] at e;exact absurd e (by decide)
   ·exact ⟨h1,h2⟩
   ·rw[e1] at e;exact absurd e (by decide)
  ·exact ⟨fun e=>by rw[ho] at e;exact absurd e (by decide),ha.num,trivial⟩
  ·refine ⟨fun e=>?_,ha.num,hc.num⟩;rcases zvi ho with q|q|q|q|q|q|q<;>rw[q] at e<;>exact absurd e (by decide)
theorem kvi.num:∀ {b:PB},kvi b→BSm b→jjz b
 | .nil,_,_=>trivial
 | .node _ _ a .nil n,⟨_,h2,_,h⟩,⟨s1,s2⟩=>⟨⟨h2.num,by omega⟩,h.num s2⟩
 | .node _ _ a (.node _ _ _ t e) n,⟨h1,_,_,h4,h5,h6⟩,⟨s1,s2,s3,s4⟩=>⟨⟨h1.num,by omega⟩,h4.1.num s2,h5.1.num s3,h6.num s4⟩
theorem vzx {t:PTree}(h:Right t){r:PRule}(hr:r∈t.rules++t.nevers):∃ c,chO t.sets r.params [[]]=some c∧c.Nodup∧c.length≤9∧∀ z∈c,qyd z∧ParOk (ssz (jk t)) r.params z:=by
 have hp:r.params.length≤2:=h.bnd.pars r hr;have h9:3 ^ r.params.length≤9:=by
  have:r.params.length=0∨r.params.length=1∨r.params.length=2:=by omega
  rcases this with e|e|e<;>rw[e]<;>decide
 obtain ⟨c,c1,c2,c3,c4⟩:=vk0 (ss:=t.sets) r.params [[]] (fun p hp=>by obtain ⟨n,e1,_,e3,_⟩:=zv6 h (h.fine.psets r hr p hp);exact ⟨n,e1,e3⟩) (by simp;omega) (by simp);refine ⟨c,c1,c2,by simp at c3;omega,fun z hz=>?_⟩;obtain ⟨y,hy,z',e1,e2,e3⟩:=c4 z hz;rw[tY] at hy;subst hy;rw[fD] at e1;subst e1;refine ⟨⟨by omega,fun x hx=>?_⟩,e2,fun i hi hm=>e3 i hi hm⟩;obtain ⟨i,hi,rfl⟩:=rP hx;have hi':i<r.params.length:=by omega
 obtain ⟨a1,a2⟩:=e3 i hi' hi;obtain ⟨n,e1,_,e3',_⟩:=zv6 h (h.fine.psets r hr r.params[i] (wY hi'));rw[e1] at a2;have a2':z[i]<((n:Nat):Int):=a2;omega
end Go.Proofs.YtpmcnonmkghokaaGreatDoor

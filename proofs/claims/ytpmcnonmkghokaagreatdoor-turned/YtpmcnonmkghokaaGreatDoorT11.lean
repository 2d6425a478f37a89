import Derived.Test.YtpmcnonmkghokaaGreatDoorT10
import Derived.Lib.SliceRun
import Derived.Laws.OwnMore
set_option maxRecDepth 100000
set_option maxHeartbeats 4000000
set_option linter.unusedVariables false
set_option linter.unusedSimpArgs false
namespace Go.Proofs.YtpmcnonmkghokaaGreatDoor
open Go.RowKit
attribute [local go_sem ↓] Go.wp_at_zero Go.wp_at_succ
structure kzd (R:Nat)(o:Option Nat)(w w':World):Prop where
 os:w'.os=w.os
 tape:w'.tape=w.tape
 output:w'.output=w.output
 size:w.heap.size≤w'.heap.size
 block:∀ k,k<w.heap.size→k≠R→o≠some k→w'.heap[k]?=w.heap[k]?
theorem kzd.refl (R:Nat)(o:Option Nat)(w:World):kzd R o w w:=⟨rfl,rfl,rfl,wW _,fun _ _ _ _=>rfl⟩
theorem kzd.trans {R:Nat}{o:Option Nat}{a b c:World}(h:kzd R o a b)(k:kzd R o b c):kzd R o a c:=
 ⟨k.os.trans h.os,k.tape.trans h.tape,k.output.trans h.output,rV h.size k.size,fun i h1 h2 h3=>(k.block i (lX h1 h.size) h2 h3).trans (h.block i h1 h2 h3)⟩
theorem Kept.o {R:Nat}{w w':World}(h:Kept R w w')(o:Option Nat):kzd R o w w':=⟨h.os,h.tape,h.output,h.size,fun k h1 h2 _=>h.block k h1 h2⟩
theorem qxu {w w':World}(h:Below w.heap.size w w')(R:Nat)(o:Option Nat):kzd R o w w':=⟨h.os,h.tape,h.output,h.size,fun k h1 _ _=>h.block k h1⟩
theorem kzd.alone {R:Nat}{w w':World}(h:kzd R none w w'):Kept R w w':=⟨h.os,h.tape,h.output,h.size,fun k h1 h2=>h.block k h1 h2 (by simp)⟩
theorem kzd.split {R s:Nat}{w w':World}(h:kzd R (some s) w w')(hs:s<w.heap.size):∃ m,Kept R w m∧m.heap[s]?=w.heap[s]?∧Kept s m w':=by
 obtain ⟨x,hx⟩:∃ x,w.heap[s]?=some x:=⟨_,Array.getElem?_eq_getElem hs⟩;have hss:s<w'.heap.size:=lX hs h.size;refine ⟨ChangeMaps.setBlock w' s x,⟨h.os,h.tape,h.output,by simpa[ChangeMaps.setBlock] using h.size,fun k h1 h2=>?_⟩,?_,⟨rfl,rfl,rfl,by simp[ChangeMaps.setBlock],fun k h1 h2=>?_⟩⟩
 ·by_cases e:k=s
  ·subst e;rw[hx];simp[ChangeMaps.setBlock,Qd,hss]
  ·rw[←h.block k h1 h2 (by intro e2;injection e2 with e2;exact e e2.symm)];simp[ChangeMaps.setBlock,Qd,Ne.symm e]
 ·rw[hx];simp[ChangeMaps.setBlock,Qd,hss]
 ·simp[ChangeMaps.setBlock,Qd,Ne.symm h2]
theorem jw4 {w:World}{lo e n g cap:Nat}{xs:List Value}(h:w.ownsRow lo e 1 (.slice (some ⟨g,0,none⟩) n cap) n xs)(q:Nat)(u:Value):(w.setCell ⟨g,q,none⟩ u).ownsRow lo e 1 (.slice (some ⟨g,0,none⟩) n cap) n (xs.set q u):=by
 refine ⟨by rw[Qa];exact h.1,?_⟩;rcases h.2 with ⟨h1,_⟩|⟨g',cap',cur,e1,e2,e3,e4,e5,e6,e7⟩
 ·cases h1
 ·injection e1 with e1 _ e1';injection e1 with e1;injection e1 with e1;subst e1;subst e1';exact Or.inr ⟨g,cap,_,rfl,e2,Go.heap_setCell_same _ g q _ _ _ e3,e4,e5,by simpa using e6,by rw[←e7,JX,List.take_set]⟩
theorem qzw (x:PX)(w:World)(lo xo R M nb:Nat)(vars:List MVar)(tab:uq)(l:List PP)(ms st:List Int)(sv:Value)(b:Bool)(p:Option Addr)(h:Rn lo w R M nb vars tab l ms st sv b)(hv:vars.length≤1000)(hpl:l.length≤1000)(hX:XIs xo w x (.pointer p))(hs:∀ y∈jr x,y.text.size≤1000)(r:Int × Bool)(hr:qja vars tab l ms st x=some r) :
  Calls Tryz.prog 132 #[.pointer (some ⟨R,0,none⟩),.pointer p] w fun e w'=>e=.returned (.bool (r.1==1))∧Rn lo w' R M nb vars tab l ms st sv (b||r.2)∧Kept R w w':=by
 have HV:=hide (qju x w lo xo R M nb vars tab l ms st sv b _ h hv hpl hX hs r hr);clear h hX hs hr;go_enter Tryz.func132,Tryz.ntmps132
 go_wp2_with fail
 refine (ku HV).mono ?_;rintro e w1 ⟨rfl,h1,hk1⟩;have H1:=hide h1;have HK1:=hide hk1;clear h1 hk1;go_wp2
 go_ret
 exact ⟨rfl,ku H1,ku HK1⟩
def zxd (vars:List MVar)(tab:uq)(l:List PP)(ms st:List Int)(n i:Tok)(x:PX):Option (List Int × Bool):=
 (qja vars tab l ms st x).bind fun p=>(vars[(kjt tab n.text.toList).num]?).bind fun v=>(atO vars tab l ms st v i).bind fun q=>
  if p.1<0||p.1 ≥ (v.texts.length:Int) then some (st,true) else if p.1 > 255||q.1<0||q.1 ≥ (st.length:Int) then none else some (st.set q.1.toNat p.1,p.2||q.2)
theorem Rn.setSt {lo:Nat}{w:World}{R M nb g n cap:Nat}{vars:List MVar}{tab:uq}{l:List PP}{ms st:List Int}{b:Bool}(h:Rn lo w R M nb vars tab l ms st (.slice (some ⟨g,0,none⟩) n cap) b)(q:Nat)(y:Int):Rn lo (w.setCell ⟨g,q,none⟩ (.int .u8 y)) R M nb vars tab l ms (st.set q y) (.slice (some ⟨g,0,none⟩) n cap) b:=by
 obtain ⟨⟨tx,pa,pn,pc,ma,mn,mc,hR,hP,hM⟩,hmc,hst⟩:=h;obtain ⟨za,zc,e3,_⟩:=zq hst;injection e3 with e1 e2 e3;subst e2;have hg:∃ cur,w.heap[g]?=some (.cells cur 5 (0,0)):=by
  rcases hst.2 with ⟨h1,_⟩|⟨g',cap',cur,e1,e2,e3,_⟩
  ·cases h1
  ·injection e1 with e1 _ e1';injection e1 with e1;injection e1 with e1;subst e1;exact ⟨cur,e3⟩
 obtain ⟨cur,hg⟩:=hg;have hk:Kept g w (w.setCell ⟨g,q,none⟩ (.int .u8 y)):=(Kept.refl _ _).kki q _;refine ⟨⟨tx,pa,pn,pc,ma,mn,mc,hk.row (zqv hR hg (by decide)) hR,yt hP hg (by decide) hk,yt hM hg (by decide) hk⟩,hmc.nm hg (by decide) (by decide) (by decide) hk,?_⟩;have:=jw4 hst q (.int .u8 y);rw[Qa,List.map_set];exact this
theorem kzd.zq4 {R g q:Nat}{n cap:Nat}{a w:World}{u:Value}(h:kzd R (Value.ownBlock (.slice (some ⟨g,0,none⟩) n cap)) a w):kzd R (Value.ownBlock (.slice (some ⟨g,0,none⟩) n cap)) a (w.setCell ⟨g,q,none⟩ u):=by
 have hk:Kept g w (w.setCell ⟨g,q,none⟩ u):=(Kept.refl _ _).kki q _;exact h.trans ⟨hk.os,hk.tape,hk.output,hk.size,fun k h1 _ h3=>hk.block k h1 (fun e=>h3 (by rw[e];rfl))⟩
theorem jqg (x:PX)(w:World)(lo xo R M nb:Nat)(vars:List MVar)(tab:uq)(l:List PP)(ms st:List Int)(sv:Value)(b:Bool)(n i:Tok)(p ta ea:Option Addr)(tn tc en ec:Nat)(c:Bool)(h:Rn lo w R M nb vars tab l ms st sv b)(hv:vars.length≤1000)(hpl:l.length≤1000)(hX:XIs xo w x (.pointer p))(hs:∀ y∈jr x,y.text.size≤1000)(hs2:∀ y∈kjb n i,y.text.size≤1000)(r:List Int × Bool)(hr:zxd vars tab l ms st n i x=some r) :
  Calls Tryz.prog 192 #[.pointer (some ⟨R,0,none⟩),.agg #[.bool c,.string n.text,.int .i64 n.at_,.bool (!(i.kind.toList==[])),.string i.text,.int .i64 i.at_,.pointer p,.slice ta tn tc,.slice ea en ec]] w fun e w'=>e=.returned (.tuple #[])∧Rn lo w' R M nb vars tab l ms r.1 sv (b||r.2)∧kzd R sv.ownBlock w w':=by
 unfold zxd at hr;obtain ⟨pv,hp,hr⟩:=wQ.mp hr;obtain ⟨v,hvv,hr⟩:=wQ.mp hr;obtain ⟨q,hq,hr⟩:=wQ.mp hr;have hn1:n.text.size≤1000:=hs2 n (by unfold kjb;split<;>simp);have hi1:(i.kind.toList==[])=false→i.text.size≤1000:=fun e=>hs2 i (by unfold kjb;rw[e];simp)
 obtain ⟨W,hW⟩:∃ W,W=w.alloc (.cells #[.bool c,.string n.text,.int .i64 n.at_,.bool (!(i.kind.toList==[])),.string i.text,.int .i64 i.at_,.pointer p,.slice ta tn tc,.slice ea en ec] 334):=⟨_,rfl⟩;have hbW:Below w.heap.size w W:=by rw[hW];exact below_alloc1 w _
 have hS:W.heap[w.heap.size]?=some (.cells #[.bool c,.string n.text,.int .i64 n.at_,.bool (!(i.kind.toList==[])),.string i.text,.int .i64 i.at_,.pointer p,.slice ta tn tc,.slice ea en ec] 334 (0,0)):=by rw[hW];exact qy _ _
 have hRl:=h.lt;have HV:=hide (qju x W lo xo R M nb vars tab l ms st sv b _ (h.below hbW) hv hpl (hX.below hbW) hs pv hp);obtain ⟨⟨q0,q1,q2,q3,q4,q5,q6,q7,q8⟩,_⟩:=kxg hS;have HS:=hide hS;have HKW:=hide (qxu hbW R sv.ownBlock);have HWE:=hide hW.symm;have HR:=hide hr;have HVV:=hide hvv;have HAT0:=hide (fun (w3:World) (b3:Bool) (h3:Rn lo w3 R M nb vars tab l ms st sv b3) (va:Option Addr) (vc:Nat)=>jkf w3 lo R M nb vars tab l ms st sv b3 v va vc n i h3 hv hpl hi1 q hq);unfold kxb pl5 at HAT0;generalize (!(i.kind.toList==[]))=d at *;clear hr hvv hq hp hs hs2 hi1 hX h hbW hS hW;go_enter Tryz.func192,Tryz.ntmps192
 go_wp2_with fail
 rw[ku HWE];refine (ku HV).mono ?_;rintro e w1 ⟨rfl,h1,hk1⟩;have hS1:=hk1.row (b:=w.heap.size) (by omega) (ku HS);obtain ⟨⟨a0,a1,a2,a3,a4,a5,a6,a7,a8⟩,_⟩:=kxg hS1;have HVA:=hide (kyi w1 lo R M nb vars tab l ms st sv _ n h1 hn1 v (ku HVV) hv);have HS1:=hide hS1;have H1:=hide h1;have HK1:=hide ((ku HKW).trans (hk1.o _));clear h1 hk1 hS1 q0 q1 q2 q3 q4 q5 q6 q7 q8 HKW HV;go_wp2_with fail
 refine (ku HVA).mono ?_;rintro e w2 ⟨va,vc,rfl,hT,hb2⟩;have hs2:=hb2.size;have hwl:w.heap.size<w1.heap.size:=wX (ku HS1);obtain ⟨⟨b0,b1,b2,b3,b4,b5,b6,b7,b8⟩,_⟩:=kxg ((hb2.block w.heap.size hwl).trans (ku HS1));have h2:=((ku H1).below hb2);have hR2:=h2.lt;have HAT:=hide ((ku HAT0) (w2.alloc (.cells (kxb v va vc) 213)) _ (h2.below (below_alloc1 _ _)) va vc);have HK2:=hide ((ku HK1).trans (qxu hb2 R sv.ownBlock));unfold kxb at *;have hwl2:w.heap.size<w2.heap.size:=by omega
 clear h2 hb2 hT H1 HS1 HVA a0 a1 a2 a3 a4 a5 a6 a7 a8 HK1;go_wp2_with fail
 refine (ku HAT).mono ?_;rintro e w4 ⟨rfl,h4,hk4⟩;have hV4:=hk4.row (b:=w2.heap.size) (by omega) (qy _ _);obtain ⟨v0,v1,v2,v3,v4,_⟩:=zo hV4;obtain ⟨r1,r4,r5,rf⟩:=h4.cells;obtain ⟨sa,sc,hsv,hsb⟩:=h4.vvz;have H4:=hide h4;have HK4:=hide ((ku HK2).trans ((qxu (below_alloc1 _ _) R sv.ownBlock).trans (hk4.o _)));have hr:=ku HR;clear h4 hk4 hV4 HAT HK2 b0 b1 b2 b3 b4 b5 b6 b7 b8;have HWR:=hide (fun (e:r=(st,true))=>(show Rn lo (w4.setCell ⟨R,5,none⟩ (.bool true)) R M nb vars tab l ms r.1 sv (b||r.2) by rw[e,Qw];exact (ku H4).wrong true));have HKW:=hide ((ku HK4).trans (((Kept.refl R w4).kki 5 (.bool true)).o sv.ownBlock));by_cases hneg:pv.1<0
 ·rw[if_pos (by simp[hneg])] at hr;injection hr with hr;have HWR':=hide ((ku HWR) hr.symm);generalize pv.1=y at *;clear hsb hsv hr HR HWR;go_wp2
  refine rY (results_none rfl _ _ _) rfl ?_;exact ⟨rfl,ku HWR',ku HKW⟩
 ·by_cases hge:(v.texts.length:Int)≤pv.1
  ·rw[if_pos (by simp[hge])] at hr;injection hr with hr;have HWR':=hide ((ku HWR) hr.symm);generalize pv.1=y at *;clear hsb hsv hr HR HWR;go_wp2
   refine rY (results_none rfl _ _ _) rfl ?_;exact ⟨rfl,ku HWR',ku HKW⟩
  ·rw[if_neg (by simp;omega)] at hr;by_cases hbad:(pv.1 > 255||q.1<0||q.1 ≥ (st.length:Int))=true
   ·rw[if_pos hbad] at hr;cases hr
   ·rw[if_neg hbad] at hr;injection hr with hr;simp only[lg,nU,not_or,ge_iff_le,gt_iff_lt] at hbad;obtain ⟨⟨hb1,hb2⟩,hb3⟩:=hbad;obtain ⟨p1,pw⟩:=pv;obtain ⟨q1,qw⟩:=q;obtain ⟨k,rfl⟩:=JU (show 0≤q1 by simpa using hb2);have hkl:k<st.length:=by simpa using hb3
    obtain ⟨g,rfl,hgl,hgc,hgf⟩:=hsb k hkl;subst hsv;have hc:=(ku H4).setSt k p1;have HC:=hide (show Rn lo (w4.setCell ⟨g,k,none⟩ (.int .u8 p1)) R M nb vars tab l ms r.1 (.slice (some ⟨g,0,none⟩) st.length sc) (b||r.2) by rw[←hr,←Q7];exact hc);have HKC:=hide ((ku HK4).zq4 (q:=k) (u:=.int .u8 p1));dsimp only at *;have hw8:IntKind.u8.wrap p1=p1:=by rw[IntKind.wrap_u8];omega
    clear hsb hr HR HWR hc HKW H4 HK4;go_wp2
    go_end0
    exact ⟨rfl,ku HC,ku HKC⟩
theorem Rn.sty {lo:Nat}{w:World}{R M nb:Nat}{vars:List MVar}{tab:uq}{l:List PP}{ms st:List Int}{sv:Value}{b:Bool}(h:Rn lo w R M nb vars tab l ms st sv b):∀ s,sv.ownBlock=some s→∃ cs fr,w.heap[s]?=some (.cells cs 5 fr):=by
 intro s hs;rcases h.st.2 with ⟨h1,h2⟩|⟨g,cap,cur,h1,_,h3,_⟩
 ·rw[h1] at hs;cases hs
 ·rw[h1] at hs;injection hs with hs;subst hs;exact ⟨cur,_,h3⟩
theorem kzd.via {R:Nat}{o:Option Nat}{w w':World}(h:kzd R o w w')(hs:∀ s,o=some s→∃ cs fr,w.heap[s]?=some (.cells cs 5 fr)):Kept R w w'∨∃ s m cs fr,Kept R w m∧m.heap[s]?=some (.cells cs 5 fr)∧Kept s m w':=by
 cases o with
 | none=>exact Or.inl h.alone
 | some s=>
  obtain ⟨cs,fr,hb⟩:=hs s rfl;obtain ⟨m,h1,h2,h3⟩:=h.split (wX hb);exact Or.inr ⟨s,m,cs,fr,h1,h2.trans hb,h3⟩
theorem zqk {w w':World}{R lo e size:Nat}{o:Option Nat}{v:Value}{n:Nat}{xs:List Value}(h:w.ownsRow lo e size v n xs)(hR:∃ cs fr,w.heap[R]?=some (.cells cs 269 fr))(hs:∀ s,o=some s→∃ cs fr,w.heap[s]?=some (.cells cs 5 fr))(he:269≠e)(he2:5≠e)(hk:kzd R o w w'):w'.ownsRow lo e size v n xs:=by
 obtain ⟨cs,fr,hR⟩:=hR;rcases hk.via hs with h1|⟨s,m,cs',fr',h1,h2,h3⟩
 ·exact yt h hR he h1
 ·exact yt (yt h hR he h1) h2 he2 h3
theorem BIs.ko {w w':World}{R lo:Nat}{o no:Option Nat}{b:PB}{xs:List Value}(h:BIs lo no w b xs)(hR:∃ cs fr,w.heap[R]?=some (.cells cs 269 fr))(hs:∀ s,o=some s→∃ cs fr,w.heap[s]?=some (.cells cs 5 fr))(hk:kzd R o w w'):BIs lo no w' b xs:=by
 obtain ⟨cs,fr,hR⟩:=hR;rcases hk.via hs with h1|⟨s,m,cs',fr',h1,h2,h3⟩
 ·exact h.nm hR (by decide) (by decide) h1
 ·exact (h.nm hR (by decide) (by decide) h1).nm h2 (by decide) (by decide) h3
def kvl:PX→Tok × Tok
 | .nil=>(jk,jk)
 | .node _ _ x _ _=>(x.name,x.index)
theorem jkd:∀ x:PX,plC x=[.string (kvl x).1.text,.int .i64 (kvl x).1.at_,.bool (!((kvl x).2.kind.toList==[])),.string (kvl x).2.text,.int .i64 (kvl x).2.at_]∧vqo x=kjb (kvl x).1 (kvl x).2
 | .nil=>⟨by rw[show (kvl .nil).2=jk from rfl,kjh];rfl,by rw[show (kvl .nil).2=jk from rfl];unfold kjb;rw[kjh];rfl⟩
 | .node _ _ x _ _=>⟨rfl,rfl⟩
def doO (vars:List MVar)(tab:uq)(l:List PP)(ms:List Int):PB→List Int→Option (List Int × Bool)
 | .nil,st=>some (st,false)
 | .node _ _ a .nil n,st=>(zxd vars tab l ms st (kvl a.place).1 (kvl a.place).2 a.value).bind fun p=>(doO vars tab l ms n p.1).map fun q=>(q.1,p.2||q.2)
 | .node _ _ a (.node _ _ _ t e) n,st=>(qja vars tab l ms st a.cond).bind fun c=>(if c.1==1 then doO vars tab l ms t st else doO vars tab l ms e st).bind fun p=>(doO vars tab l ms n p.1).map fun q=>(q.1,c.2||p.2||q.2)
def qxd (b:PB):Prop:=∀ (w:World) (lo so R M nb:Nat) (no:Option Nat) (vars:List MVar) (tab:uq) (l:List PP) (ms st:List Int) (sv:Value) (bb:Bool) (v:Value) (cs:List Value),Rn lo w R M nb vars tab l ms st sv bb→vars.length≤1000→l.length≤1000 →
  w.ownsRow so 334 9 v (uz b) cs→BIs so no w b cs→kke b→uz b≤1000→(∀ y∈zh b,y.text.size≤1000)→∀ r,doO vars tab l ms b st=some r →
  Calls Tryz.prog 133 #[.pointer (some ⟨R,0,none⟩),v] w fun e w'=>e=.returned (.tuple #[])∧Rn lo w' R M nb vars tab l ms r.1 sv (bb||r.2)∧kzd R sv.ownBlock w w'
theorem jqy (t e:PB)(iht:qxd t)(ihe:qxd e)(x:PX)(w:World)(lo so R M nb:Nat)(no:Option Nat)(vars:List MVar)(tab:uq)(l:List PP)(ms st:List Int)(sv:Value)(b:Bool)(n i:Tok)(d:Bool)(p ta ea:Option Addr)(tn tc en ec:Nat)(ct ce:List Value)(h:Rn lo w R M nb vars tab l ms st sv b)(hv:vars.length≤1000)(hpl:l.length≤1000)(hX:XIs so w x (.pointer p))(hs:∀ y∈jr x,y.text.size≤1000)
  (ht:w.ownsRow so 334 9 (.slice ta tn tc) (uz t) ct∧BIs so no w t ct∧kke t∧uz t≤1000∧(∀ y∈zh t,y.text.size≤1000)) (he:w.ownsRow so 334 9 (.slice ea en ec) (uz e) ce∧BIs so no w e ce∧kke e∧uz e≤1000∧(∀ y∈zh e,y.text.size≤1000))
  (c:Int × Bool) (hc:qja vars tab l ms st x=some c) (r:List Int × Bool) (hr:(if c.1==1 then doO vars tab l ms t st else doO vars tab l ms e st)=some r) :
  Calls Tryz.prog 191 #[.pointer (some ⟨R,0,none⟩),.agg #[.bool true,.string n.text,.int .i64 n.at_,.bool d,.string i.text,.int .i64 i.at_,.pointer p,.slice ta tn tc,.slice ea en ec]] w fun e w'=>e=.returned (.tuple #[])∧Rn lo w' R M nb vars tab l ms r.1 sv (b||c.2||r.2)∧kzd R sv.ownBlock w w':=by
 obtain ⟨W,hW⟩:∃ W,W=w.alloc (.cells #[.bool true,.string n.text,.int .i64 n.at_,.bool d,.string i.text,.int .i64 i.at_,.pointer p,.slice ta tn tc,.slice ea en ec] 334):=⟨_,rfl⟩;have hbW:Below w.heap.size w W:=by rw[hW];exact below_alloc1 w _
 have hS:W.heap[w.heap.size]?=some (.cells #[.bool true,.string n.text,.int .i64 n.at_,.bool d,.string i.text,.int .i64 i.at_,.pointer p,.slice ta tn tc,.slice ea en ec] 334 (0,0)):=by rw[hW];exact qy _ _
 have hRl:=h.lt;have hRW:=h.below hbW;have HV:=hide (qzw x W lo so R M nb vars tab l ms st sv b p hRW hv hpl (hX.below hbW) hs c hc);have HT:=hide (fun (w1:World) (b1:Bool) (h1:Rn lo w1 R M nb vars tab l ms st sv b1) (hk1:Kept R W w1) (hd:doO vars tab l ms t st=some r)=>iht w1 lo so R M nb no vars tab l ms st sv b1 _ ct h1 hv hpl (zqk (qj ht.1 hbW) hRW.blk hRW.sty (by decide) (by decide) (hk1.o _)) ((ht.2.1.stay fun k _ hk=>hbW.block k hk).ko hRW.blk hRW.sty (hk1.o _)) ht.2.2.1 ht.2.2.2.1 ht.2.2.2.2 r hd);have HE:=hide (fun (w1:World) (b1:Bool) (h1:Rn lo w1 R M nb vars tab l ms st sv b1) (hk1:Kept R W w1) (hd:doO vars tab l ms e st=some r)=>ihe w1 lo so R M nb no vars tab l ms st sv b1 _ ce h1 hv hpl (zqk (qj he.1 hbW) hRW.blk hRW.sty (by decide) (by decide) (hk1.o _)) ((he.2.1.stay fun k _ hk=>hbW.block k hk).ko hRW.blk hRW.sty (hk1.o _)) he.2.2.1 he.2.2.2.1 he.2.2.2.2 r hd);obtain ⟨⟨q0,q1,q2,q3,q4,q5,q6,q7,q8⟩,_⟩:=kxg hS;have HS:=hide hS;have HKW:=hide (qxu hbW R sv.ownBlock);have HWE:=hide hW.symm;have HR:=hide hr;clear hr hc hs hX h hbW hS hW ht he hRW;go_enter Tryz.func191,Tryz.ntmps191
 go_wp2_with fail
 rw[ku HWE];refine (ku HV).mono ?_;rintro ex w1 ⟨rfl,h1,hk1⟩;have hS1:=hk1.row (b:=w.heap.size) (by omega) (ku HS);obtain ⟨⟨a0,a1,a2,a3,a4,a5,a6,a7,a8⟩,_⟩:=kxg hS1;have HT1:=hide ((ku HT) w1 _ h1 hk1);have HE1:=hide ((ku HE) w1 _ h1 hk1);have HK1:=hide ((ku HKW).trans (hk1.o _));have hr:=ku HR;clear h1 hk1 hS1 q0 q1 q2 q3 q4 q5 q6 q7 q8 HKW HV HT HE HR;cases hc1:(c.1==1)
 ·rw[hc1,if_neg (by simp)] at hr;have HE2:=hide ((ku HE1) hr);clear hr HE1 HT1;go_wp2_with fail
  refine (ku HE2).mono ?_;rintro ex w2 ⟨rfl,h2,hk2⟩;have H2:=hide h2;have HK2:=hide ((ku HK1).trans hk2);clear h2 hk2;go_wp2
  go_end0
  exact ⟨rfl,ku H2,ku HK2⟩
 ·rw[hc1,if_pos rfl] at hr;have HT2:=hide ((ku HT1) hr);clear hr HE1 HT1;go_wp2_with fail
  refine (ku HT2).mono ?_;rintro ex w2 ⟨rfl,h2,hk2⟩;have H2:=hide h2;have HK2:=hide ((ku HK1).trans hk2);clear h2 hk2;go_wp2
  go_end0
  exact ⟨rfl,ku H2,ku HK2⟩
def qv1:PB→Prop
 | .nil=>True
 | .node _ _ _ .nil n=>qv1 n
 | .node _ _ _ (.node _ _ _ t e) n=>qxd t∧qxd e∧qv1 n
def vkl (w:World)(lo so R M nb:Nat)(no:Option Nat)(vars:List MVar)(tab:uq)(l:List PP)(ms:List Int)(sv:Value)(fin:List Int × Bool)(len:Nat)(cs:List Value)(i:Value)(wr:World):Prop:=
 ∃ (k:Nat) (rest:PB) (st:List Int) (b:Bool),k+uz rest=len∧i=.int .i64 k∧BIs so no wr rest (cs.drop (k * 9))∧qv1 rest∧kke rest∧(∀ y∈zh rest,y.text.size≤1000)∧(∃ q,doO vars tab l ms rest st=some q∧(q.1,b||q.2)=fin)∧Rn lo wr R M nb vars tab l ms st sv b∧kzd R sv.ownBlock w wr
theorem zji (b:PB)(hI:qv1 b):qxd b:=by
 intro w lo so R M nb no vars tab l ms st sv bb v cs h hv hpl hown hbi hbl hlen hs r hr;obtain ⟨xa,cap,rfl,_⟩:=zq hown;have HR:=hide (show vkl w lo so R M nb no vars tab l ms sv (r.1,bb||r.2) (uz b) cs (.int .i64 0) w from ⟨0,b,st,bb,by omega,rfl,by simpa using hbi,hI,hbl,hs,⟨r,hr,rfl⟩,h,kzd.refl _ _ _⟩);have HFIN:=hide (show ∀ (w':World) (st':List Int) (b':Bool),(st',b')=(r.1,bb||r.2)→Rn lo w' R M nb vars tab l ms st' sv b'→Rn lo w' R M nb vars tab l ms r.1 sv (bb||r.2) from fun w' st' b' e hh=>by injection e with e1 e2;rw[←e1,←e2];exact hh);have HOWN:=hide hown;have HBLK:=hide h.blk;have HSTY:=hide h.sty;generalize hfin:(r.1,bb||r.2)=fin at *;generalize uz b=len at *;clear hown hbi hbl hs hI hr hfin h;go_enter Tryz.func133,Tryz.ntmps133
 go_wp2_with fail
 go_loopw [5,8] (fun _ i wr=>vkl w lo so R M nb no vars tab l ms sv fin len cs i wr) (fun _ i _=>len-(intOf i).toNat)
 case atStart=>exact ku HR
 case round=>
  obtain ⟨k,rest,s1,b1,hk,rfl,hst,hIn,hbl,hs,⟨q,hq,hfin⟩,hN,hK⟩:=hrel;have HNr:=hide hN;have HKr:=hide hK;obtain ⟨ya,ycap,e1,hview⟩:=zq (zqk (ku HOWN) (ku HBLK) (ku HSTY) (by decide) (by decide) hK);injection e1 with e1 _ e3;subst e1;subst e3;have HF:=hide hfin;have hsz:=hK.size;have hRr:=hN.lt;clear hN hK hfin;match rest,hst,hIn,hbl,hs,hq,hk with
  | .nil,hst,hIn,hbl,hs,hq,hk=>
   have hne:¬k<len:=by simp only[uz] at hk;omega
   rw[doO] at hq;injection hq with hq;subst hq;have HE:=hide ((ku HFIN) wr s1 (b1||false) (ku HF) (ku HNr).orF);clear hst hIn hbl hs hk hview;go_wp2
   go_end0
   exact ⟨rfl,ku HE,ku HKr⟩
  | .node _ _ la .nil nx,hst,hIn,hbl,hs,hq,hk=>
   obtain ⟨p,rst,hd,hx,hnx⟩:=hst;have hlt:k<len:=by simp only[uz] at hk;omega
   obtain ⟨g,rfl,_,hgl,hc⟩:=hview k hlt;obtain ⟨hpc,hpn⟩:=jkd la.place;obtain ⟨hdr,hcc⟩:=kwh hd (kyk _ _ _ _ _);have cc:∀ j,j<9→∀ u,(stC false la (.pointer p) (.slice none 0 0) (.slice none 0 0))[j]?=some u→wr.cell? ⟨g,k * 9+j,none⟩=some u:=fun j hj u hu=>(hc (k * 9+j) (by omega)).trans ((hcc j hj).trans hu)
   unfold stC at cc;rw[hpc] at cc;have e0:=cc 0 (by omega) _ rfl;have e1:=cc 1 (by omega) _ rfl;have e2:=cc 2 (by omega) _ rfl;have e3:=cc 3 (by omega) _ rfl;have e4:=cc 4 (by omega) _ rfl;have e5:=cc 5 (by omega) _ rfl;have e6:=cc 6 (by omega) _ rfl;have e7:=cc 7 (by omega) _ rfl;have e8:=cc 8 (by omega) _ rfl;simp only[nV] at e0;rw[doO] at hq;obtain ⟨p1,hp1,hq⟩:=wQ.mp hq;obtain ⟨q2,hq2,hq⟩:=rQ.mp hq;have hsp:∀ y∈kjb (kvl la.place).1 (kvl la.place).2,y.text.size≤1000:=fun y hy=>hs y (by rw[zh,hpn];simp[hy])
   have hsv:∀ y∈jr la.value,y.text.size≤1000:=fun y hy=>hs y (by rw[zh];simp[hy])
   have hsn:∀ y∈zh nx,y.text.size≤1000:=fun y hy=>hs y (by rw[zh];simp[hy])
   have HNX:=hide (⟨hIn,hbl,hsn,⟨q2,hq2,by rw[←ku HF,←hq,Q7]⟩⟩:qv1 nx∧kke nx∧(∀ y∈zh nx,y.text.size≤1000)∧∃ q,doO vars tab l ms nx p1.1=some q∧(q.1,(b1||p1.2)||q.2)=fin);have HB1:=hide (show BIs so no wr nx (cs.drop ((k+1) * 9)) by rw[hdr];exact hnx);generalize (kvl la.place).1=n at *;generalize (kvl la.place).2=i at *;have HAS:=hide (jqg la.value (wr.alloc (.cells #[.bool false,.string n.text,.int .i64 n.at_,.bool (!(i.kind.toList==[])),.string i.text,.int .i64 i.at_,.pointer p,.slice none 0 0,.slice none 0 0] 334)) lo so R M nb vars tab l ms s1 sv b1 n i p none none 0 0 0 0 false ((ku HNr).below (below_alloc1 _ _)) hv hpl (hx.below (below_alloc1 _ _)) hsv hsp p1 hp1);have hkn:k+1+uz nx=len:=by simp only[uz] at hk;omega
   clear cc hc hcc hdr hd hpc hpn hs hsp hsn hx hnx hbl hIn HF HR hk hsv hview hp1 hq hq2;generalize (!(i.kind.toList==[]))=d at *;go_wp2_with fail
   refine (ku HAS).mono ?_;rintro e w2 ⟨rfl,h2,hk2⟩;have HK2:=hide ((qxu (below_alloc1 _ _) R sv.ownBlock).trans hk2);have H2:=hide h2;clear h2 hk2 HAS;go_wp2
   go_roundw
   case rel=>exact ⟨k+1,nx,_,_,hkn,by go_num,(ku HB1).ko (ku HNr).blk (ku HNr).sty (ku HK2),(ku HNX).1,(ku HNX).2.1,(ku HNX).2.2.1,(ku HNX).2.2.2,ku H2,(ku HKr).trans (ku HK2)⟩
   case measure=>simp[intOf];omega
  | .node _ _ la (.node _ _ _ t e) nx,hst,hIn,hbl,hs,hq,hk=>
   obtain ⟨p,ta,tn,tc,ea,en,ec,ct,ce,rst,hd,hx,⟨ht1,_,ht2⟩,⟨he1,_,he2⟩,hnx⟩:=hst;have hlt:k<len:=by simp only[uz] at hk;omega
   obtain ⟨g,rfl,_,hgl,hc⟩:=hview k hlt;obtain ⟨hpc,hpn⟩:=jkd la.place;obtain ⟨hdr,hcc⟩:=kwh hd (kyk _ _ _ _ _);have cc:∀ j,j<9→∀ u,(stC true la (.pointer p) (.slice ta tn tc) (.slice ea en ec))[j]?=some u→wr.cell? ⟨g,k * 9+j,none⟩=some u:=fun j hj u hu=>(hc (k * 9+j) (by omega)).trans ((hcc j hj).trans hu)
   unfold stC at cc;rw[hpc] at cc;have e0:=cc 0 (by omega) _ rfl;have e1:=cc 1 (by omega) _ rfl;have e2:=cc 2 (by omega) _ rfl;have e3:=cc 3 (by omega) _ rfl;have e4:=cc 4 (by omega) _ rfl;have e5:=cc 5 (by omega) _ rfl;have e6:=cc 6 (by omega) _ rfl;have e7:=cc 7 (by omega) _ rfl;have e8:=cc 8 (by omega) _ rfl;simp only[nV] at e0;rw[doO] at hq;obtain ⟨c,hc1,hq⟩:=wQ.mp hq;obtain ⟨p1,hp1,hq⟩:=wQ.mp hq;obtain ⟨q2,hq2,hq⟩:=rQ.mp hq;have hsc:∀ y∈jr la.cond,y.text.size≤1000:=fun y hy=>hs y (by rw[zh];simp[hy])
   have hstt:∀ y∈zh t,y.text.size≤1000:=fun y hy=>hs y (by rw[zh];simp[hy])
   have hse:∀ y∈zh e,y.text.size≤1000:=fun y hy=>hs y (by rw[zh];simp[hy])
   have hsn:∀ y∈zh nx,y.text.size≤1000:=fun y hy=>hs y (by rw[zh];simp[hy])
   have HNX:=hide (⟨hIn.2.2,hbl.2.2,hsn,⟨q2,hq2,by rw[←ku HF,←hq];simp[Q7]⟩⟩:qv1 nx∧kke nx∧(∀ y∈zh nx,y.text.size≤1000)∧∃ q,doO vars tab l ms nx p1.1=some q∧(q.1,(b1||c.2||p1.2)||q.2)=fin);have HB1:=hide (show BIs so no wr nx (cs.drop ((k+1) * 9)) by rw[hdr];exact hnx);generalize (kvl la.place).1=n at *;generalize (kvl la.place).2=i at *;generalize (!(i.kind.toList==[]))=d at *;have HCH:=hide (jqy t e hIn.1 hIn.2.1 la.cond (wr.alloc (.cells #[.bool true,.string n.text,.int .i64 n.at_,.bool d,.string i.text,.int .i64 i.at_,.pointer p,.slice ta tn tc,.slice ea en ec] 334)) lo so R M nb no vars tab l ms s1 sv b1 n i d p ta ea tn tc en ec ct ce ((ku HNr).below (below_alloc1 _ _)) hv hpl (hx.below (below_alloc1 _ _)) hsc
    ⟨qj ht1 (below_alloc1 _ _),ht2.stay (fun k _ hk=>(below_alloc1 _ _).block k hk),hbl.1.1,hbl.1.2,hstt⟩ ⟨qj he1 (below_alloc1 _ _),he2.stay (fun k _ hk=>(below_alloc1 _ _).block k hk),hbl.2.1.1,hbl.2.1.2,hse⟩ c hc1 p1 hp1)
   have hkn:k+1+uz nx=len:=by simp only[uz] at hk;omega
   clear cc hc hcc hdr hd hpc hpn hs hsc hstt hse hsn hx hnx hbl hIn HF HR hk hview hp1 hq hq2 hc1 ht1 ht2 he1 he2;go_wp2_with fail
   refine (ku HCH).mono ?_;rintro e' w2 ⟨rfl,h2,hk2⟩;have HK2:=hide ((qxu (below_alloc1 _ _) R sv.ownBlock).trans hk2);have H2:=hide h2;clear h2 hk2 HCH;go_wp2
   go_roundw
   case rel=>exact ⟨k+1,nx,_,_,hkn,by go_num,(ku HB1).ko (ku HNr).blk (ku HNr).sty (ku HK2),(ku HNX).1,(ku HNX).2.1,(ku HNX).2.2.1,(ku HNX).2.2.2,ku H2,(ku HKr).trans (ku HK2)⟩
   case measure=>simp[intOf];omega
theorem kwo:∀ b:PB,qv1 b
 | .nil=>trivial
 | .node _ _ _ .nil n=>kwo n
 | .node _ _ _ (.node _ _ _ t e) n=>⟨zji t (kwo t),zji e (kwo e),kwo n⟩
theorem vxg (b:PB):qxd b:=zji b (kwo b)
def zxg (vars:List MVar)(tab:uq)(l:List PP)(ms st:List Int)(x:PX):Option Bool:=(qja vars tab l ms st x).map fun r=>(r.1==1)||r.2
theorem jqu (x:PX)(w:World)(lo xo M nb:Nat)(vars:List MVar)(tab:uq)(l:List PP)(ms st:List Int)(tx:ByteArray)(p pa ma sa:Option Addr)(pn pc mn mc sn sc:Nat)(h:Mc lo w M nb vars tab)(hP:w.ownsRow lo 352 4 (.slice pa pn pc) l.length (jw l))(hM:w.ownsRow lo 3 1 (.slice ma mn mc) ms.length (ms.map (Value.int .i64)))(hS:w.ownsRow lo 5 1 (.slice sa sn sc) st.length (st.map (Value.int .u8)))
  (hv:vars.length≤1000) (hpl:l.length≤1000) (hX:XIs xo w x (.pointer p)) (hs:∀ y∈jr x,y.text.size≤1000) (r:Bool) (hr:zxg vars tab l ms st x=some r) :
  Calls Tryz.prog 96 #[.agg #[.string tx,.pointer (some ⟨M,0,none⟩),.slice pa pn pc,.slice ma mn mc,.pointer p],.slice sa sn sc] w fun e w'=>e=.returned (.bool r)∧Below w.heap.size w w':=by
 unfold zxg at hr;obtain ⟨c,hc,rfl⟩:=rQ.mp hr;obtain ⟨W,hW⟩:∃ W,W=(w.alloc (.cells #[.string tx,.pointer (some ⟨M,0,none⟩),.slice pa pn pc,.slice ma mn mc,.pointer p] 208)).alloc (.cells #[.string tx,.pointer (some ⟨M,0,none⟩),.slice pa pn pc,.slice ma mn mc,.slice sa sn sc,.bool false] 269):=⟨_,rfl⟩;have hbW:Below w.heap.size w W:=by rw[hW];exact (below_alloc1 w _).trans ((below_alloc1 _ _).mono (by simp))
 have hsW:w.heap.size+1<W.heap.size:=by rw[hW];simp
 have hN:W.heap[w.heap.size]?=some (.cells #[.string tx,.pointer (some ⟨M,0,none⟩),.slice pa pn pc,.slice ma mn mc,.pointer p] 208 (0,0)):=by rw[hW];exact qp (qy _ _)
 have hR:W.heap[w.heap.size+1]?=some (.cells #[.string tx,.pointer (some ⟨M,0,none⟩),.slice pa pn pc,.slice ma mn mc,.slice sa sn sc,.bool false] 269 (0,0)):=by
  rw[hW];have:=qy (w.alloc (.cells #[.string tx,.pointer (some ⟨M,0,none⟩),.slice pa pn pc,.slice ma mn mc,.pointer p] 208)) (.cells #[.string tx,.pointer (some ⟨M,0,none⟩),.slice pa pn pc,.slice ma mn mc,.slice sa sn sc,.bool false] 269);simp only[tJ] at this;exact this
 have hRn:Rn lo W (w.heap.size+1) M nb vars tab l ms st (.slice sa sn sc) false:=⟨⟨tx,pa,pn,pc,ma,mn,mc,hR,qj hP hbW,qj hM hbW⟩,h.below hbW,qj hS hbW⟩;have HV:=hide (qzw x W lo xo (w.heap.size+1) M nb vars tab l ms st _ false p hRn hv hpl (hX.below hbW) hs c hc);obtain ⟨q0,q1,q2,q3,q4,_⟩:=zo hN;have HWE:=hide hW.symm;have HBW:=hide hbW;clear hr hc hs hX hRn h hP hM hS hbW hN hR hW;generalize (c.1==1)=ct at *;generalize c.2=cw at *;rw[lQ] at HV;go_enter Tryz.func96,Tryz.ntmps96
 go_wp2_with fail
 rw[ku HWE];refine (ku HV).mono ?_;rintro e w1 ⟨rfl,h1,hk1⟩;obtain ⟨_,_,c5,_⟩:=h1.cells;have HB1:=hide ((ku HBW).trans (hk1.toBelow (B:=w.heap.size) (by omega) (by omega)));clear h1 hk1 HV HBW q0 q1 q2 q3 q4;cases ct
 ·go_wp2
  go_ret
  exact ⟨rfl,ku HB1⟩
 ·go_wp2
  go_ret
  exact ⟨rfl,ku HB1⟩
theorem jyz (st:List Int):∀ y∈st.map (Value.int .u8),y.oneCell'=true:=by
 intro y hy;obtain ⟨x,_,rfl⟩:=sV.mp hy;rfl
theorem Tryz.infoU8:(Tryz.prog.info? 5).map (fun i=>(i.zero,i.size,i.bytes))=some (some (.int .u8 0),1,1):=by kernel_rfl
theorem zz0 (w:World)(lo:Nat)(st:List Int)(sa:Option Addr)(sn sc:Nat)(hS:w.ownsRow lo 5 1 (.slice sa sn sc) st.length (st.map (Value.int .u8)))(hl:st.length≤1000000) :
  Calls Tryz.prog 131 #[.slice sa sn sc] w fun e w'=>∃ ca cn cc,e=.returned (.slice ca cn cc)∧w'.ownsRow w.heap.size 5 1 (.slice ca cn cc) st.length (st.map (Value.int .u8))∧Below w.heap.size w w':=by
 rcases hS.2 with ⟨e1,e2⟩|⟨g,cap,cur,e1,e2,e3,e4⟩
 ·injection e1 with e1 e1' e1'';subst e1;subst e1';subst e1'';have hn:st=[]:=fQ e2;subst hn;have hnil:=fun w=>Go.Lib.run_eql_slice_nil (P:=Tryz.prog) w 95 5 none 0 0 0 0 Tryz.underlying95
  clear hS e2 hl;go_enter Tryz.func131,Tryz.ntmps131
  go_wp2
  go_ret
  exact ⟨none,0,0,rfl,rP _ _ _ _,Below.refl _ _⟩
 ·injection e1 with e1 e1' e1'';subst e1;subst e1';subst e1'';have HS:=hide (qj hS (below_alloc1 w (.cells #[] 5)));have HO:=hide (show (w.alloc (.cells #[] 5)).ownsRow w.heap.size 5 1 (.slice (some ⟨w.heap.size,0,none⟩) 0 0) 0 [] from ⟨rfl,Or.inr ⟨w.heap.size,0,_,rfl,wW _,qy _ _,wW _,by unfold maxLen;omega,rfl,rfl⟩⟩);obtain ⟨i0,hi,hz0,hz1,hz2⟩:=info_parts Tryz.infoU8;have hnil:=fun w=>Go.Lib.run_eql_slice_nil (P:=Tryz.prog) w 95 5 (some ⟨g,0,none⟩) st.length sc 0 0 Tryz.underlying95
  clear hS e2 e3 e4;go_enter Tryz.func131,Tryz.ntmps131
  go_wp2_with (at_builtin;refine kzz rfl _ _ 95 rfl w.heap.size 5 i0 _ 1 1 Tryz.underlying95 hi hz0 hz1 hz2 rfl (by decide) (.slice (some ⟨w.heap.size,0,none⟩) 0 0) 0 [] rfl (ku HO) (.slice (some ⟨g,0,none⟩) st.length sc) st.length _ _ rfl (ku HS) (jyz st) (by unfold maxLen;omega) (by omega) (by simp) ?_)
  intro v3 w3 hown3 hgrow3 hat3;have HB3:=hide ((below_alloc1 w _).grown hgrow3 (by simp) (yw (ku HO)));obtain ⟨a3,l3,c3,rfl⟩:=jy hown3;have HV3:=hide hown3;clear hown3 hgrow3 hat3;go_wp2
  go_ret
  exact ⟨a3,l3,c3,rfl,ku HV3,ku HB3⟩
theorem vxj {w:World}{lo e size:Nat}{v:Value}{n:Nat}{xs:List Value}(h:w.ownsRow lo e size v n xs):∀ k,v.ownBlock=some k→lo≤k:=yw h
theorem zye {w:World}{lo B e size:Nat}{v:Value}{n:Nat}{xs:List Value}(h:w.ownsRow lo e size v n xs)(hB:∀ k,v.ownBlock=some k→B≤k):w.ownsRow B e size v n xs:=by
 refine ⟨h.1,?_⟩;rcases h.2 with h1|⟨g,cap,cur,e1,e2,e3⟩
 ·exact Or.inl h1
 ·exact Or.inr ⟨g,cap,cur,e1,hB g (by rw[e1];rfl),e3⟩
theorem kzd.toBelow {R B:Nat}{o:Option Nat}{w w':World}(h:kzd R o w w')(hB:B≤R)(hw:B≤w.heap.size)(ho:∀ k,o=some k→B≤k):Below B w w':=
 ⟨h.os,h.tape,h.output,h.size,fun k hk=>h.block k (by omega) (by omega) (fun e=>by have:=ho k e;omega)⟩
theorem jw3 {w:World}{lo e size b:Nat}{v:Value}{n:Nat}{xs:List Value}(h:w.ownsRow lo e size v n xs)(hb:∀ k,v.ownBlock=some k→b+1≤k)(y0 y1 y2 y3 y4 y5:Value) :
  ((((((w.setCell ⟨b,0,none⟩ y0).setCell ⟨b,1,none⟩ y1).setCell ⟨b,2,none⟩ y2).setCell ⟨b,3,none⟩ y3).setCell ⟨b,4,none⟩ y4).setCell ⟨b,5,none⟩ y5).ownsRow lo e size v n xs:=by
 have hne:v.ownBlock≠some b:=fun e=>by have:=hb b e;omega
 exact ownsRow_setCell_other (ownsRow_setCell_other (ownsRow_setCell_other (ownsRow_setCell_other (ownsRow_setCell_other (ownsRow_setCell_other h hne _) hne _) hne _) hne _) hne _) hne _
theorem jxm {B b:Nat}{a w:World}(h:Below B a w)(hb:B≤b)(y0 y1 y2 y3 y4 y5:Value) :
  Below B a ((((((w.setCell ⟨b,0,none⟩ y0).setCell ⟨b,1,none⟩ y1).setCell ⟨b,2,none⟩ y2).setCell ⟨b,3,none⟩ y3).setCell ⟨b,4,none⟩ y4).setCell ⟨b,5,none⟩ y5):=
 (((((h.setCell hb _).setCell hb _).setCell hb _).setCell hb _).setCell hb _).setCell hb _
def kv7 (vars:List MVar)(tab:uq)(l:List PP)(ms st:List Int)(x:PX)(b:PB):Option (List Int × Int):=
 (qja vars tab l ms st x).bind fun c=>(if c.1==1 then doO vars tab l ms b st else some (st,false)).map fun p=>if (c.2||p.2) then ([],2) else if c.1==1 then (p.1,1) else ([],0)
theorem zkg (x : PX) (bk : PB) (w : World) (lo so M nb : Nat) (no : Option Nat) (vars : List MVar) (tab : uq) (l : List PP) (ms st : List Int) (tx : ByteArray) (p pa ma sa ba : Option Addr) (pn pc mn mc sn sc bn bc : Nat) (cs : List Value) (h : Mc lo w M nb vars tab) (hP : w.ownsRow lo 352 4 (.slice pa pn pc) l.length (jw l)) (hM : w.ownsRow lo 3 1 (.slice ma mn mc) ms.length (ms.map (Value.int .i64))) (hS : w.ownsRow lo 5 1 (.slice sa sn sc) st.length (st.map (Value.int .u8)))
    (hv : vars.length ≤ 1000) (hpl : l.length ≤ 1000) (hsl : st.length ≤ 1000000) (hX : XIs so w x (.pointer p)) (hs : ∀ y ∈ jr x, y.text.size ≤ 1000) (hB : w.ownsRow so 334 9 (.slice ba bn bc) (uz bk) cs ∧ BIs so no w bk cs ∧ kke bk ∧ uz bk ≤ 1000 ∧ (∀ y ∈ zh bk, y.text.size ≤ 1000))
    (hlw : lo ≤ w.heap.size) (r : List Int × Int) (hr : kv7 vars tab l ms st x bk = some r) :
    Calls Tryz.prog 79 #[.agg #[.string tx, .pointer (some ⟨M, 0, none⟩), .slice pa pn pc, .slice ma mn mc, .pointer p, .slice ba bn bc], .slice sa sn sc] w fun e w' => ∃ v, e = .returned (.tuple #[v, .int .i64 r.2]) ∧ w'.ownsRow w.heap.size 5 1 v r.1.length (r.1.map (Value.int .u8)) ∧ Below w.heap.size w w' := by
  unfold kv7 at hr
  obtain ⟨c, hc, hr⟩ := Option.bind_eq_some_iff.mp hr
  obtain ⟨d, hd, hr⟩ := Option.map_eq_some_iff.mp hr
  obtain ⟨W, hW⟩ : ∃ W, W = w.alloc (.cells #[.string tx, .pointer (some ⟨M, 0, none⟩), .slice pa pn pc, .slice ma mn mc, .pointer p, .slice ba bn bc] 178) := ⟨_, rfl⟩
  have hbW : Below w.heap.size w W := by rw [hW]; exact below_alloc1 w _
  have hsW : w.heap.size < W.heap.size := by rw [hW]; simp
  have hT : W.heap[w.heap.size]? = some (.cells #[.string tx, .pointer (some ⟨M, 0, none⟩), .slice pa pn pc, .slice ma mn mc, .pointer p, .slice ba bn bc] 178 (0, 0)) := by rw [hW]; exact qy _ _
  have HC1 := hide (zz0 W.drew lo st sa sn sc (qj hS hbW.drew) hsl)
  have hbZ : Below w.heap.size w (W.alloc (.cells #[.string ⟨#[]⟩, .pointer none, .slice none 0 0, .slice none 0 0, .slice none 0 0, .bool false] 269)).drew := (hbW.trans ((below_alloc1 W _).mono (by omega))).drew
  have HC2 := hide (zz0 (W.alloc (.cells #[.string ⟨#[]⟩, .pointer none, .slice none 0 0, .slice none 0 0, .slice none 0 0, .bool false] 269)).drew lo st sa sn sc (qj hS hbZ) hsl)
  have HZ := hide (show (W.alloc (.cells #[.string ⟨#[]⟩, .pointer none, .slice none 0 0, .slice none 0 0, .slice none 0 0, .bool false] 269)).drew.heap[W.heap.size]? = some (.cells #[.string ⟨#[]⟩, .pointer none, .slice none 0 0, .slice none 0 0, .slice none 0 0, .bool false] 269 (0, 0)) from qy _ _)
  obtain ⟨t0, t1, t2, t3, t4, t5, _⟩ := kvt hT
  have HT := hide hT
  have HRN := hide (fun (wx : World) (R : Nat) (ca : Option Addr) (cn cc : Nat) (hb : Below w.heap.size w wx) (hR : wx.heap[R]? = some (.cells #[.string tx, .pointer (some ⟨M, 0, none⟩), .slice pa pn pc, .slice ma mn mc, .slice ca cn cc, .bool false] 269 (0, 0))) (hO : wx.ownsRow lo 5 1 (.slice ca cn cc) st.length (st.map (Value.int .u8))) => (⟨⟨tx, pa, pn, pc, ma, mn, mc, hR, qj hP hb, qj hM hb⟩, h.below hb, hO⟩ : Rn lo wx R M nb vars tab l ms st (.slice ca cn cc) false))
  have HTR := hide (fun (wx : World) (R : Nat) (sv : Value) (b : Bool) (hb : Below w.heap.size w wx) (hR : Rn lo wx R M nb vars tab l ms st sv b) => qzw x wx lo so R M nb vars tab l ms st sv b p hR hv hpl (hX.below hb) hs c hc)
  have HDO := hide (fun (wx wy : World) (R : Nat) (sv : Value) (b b' : Bool) (hb : Below w.heap.size w wx) (hR : Rn lo wx R M nb vars tab l ms st sv b) (hk : Kept R wx wy) (hR' : Rn lo wy R M nb vars tab l ms st sv b') (q : List Int × Bool) (hq : doO vars tab l ms bk st = some q) => vxg bk wy lo so R M nb no vars tab l ms st sv b' _ cs hR' hv hpl (zqk (qj hB.1 hb) hR.blk hR.sty (by decide) (by decide) (hk.o _)) ((hB.2.1.stay fun k _ hk => hb.block k hk).ko hR.blk hR.sty (hk.o _)) hB.2.2.1 hB.2.2.2.1 hB.2.2.2.2 q hq)
  have HBW := hide hbW
  have HWE := hide hW.symm
  have HR := hide hr
  have HD := hide hd
  clear hr hd hc hs hX h hP hM hS hB hbW hT hW hbZ
  go_enter Tryz.func79, Tryz.ntmps79
  go_upto_region 1 with fail
  rw [ku HWE]
  go_cut [6] from 8 to 12 (fun v wx => ∃ R ca cn cc, v = .pointer (some ⟨R, 0, none⟩) ∧ w.heap.size < R ∧ wx.heap[R]? = some (.cells #[.string tx, .pointer (some ⟨M, 0, none⟩), .slice pa pn pc, .slice ma mn mc, .slice ca cn cc, .bool false] 269 (0, 0)) ∧ wx.ownsRow w.heap.size 5 1 (.slice ca cn cc) st.length (st.map (Value.int .u8)) ∧ Below W.heap.size W wx)
  case first =>
    go_region_law ((go_simp; go_at_call 131; (first | (refine (ku HC1).mono ?_; rintro e w2 ⟨ca, cn, cc, rfl, ho2, hb2⟩; have hw2 : w.heap.size < w2.heap.size := (by have := hb2.size; simp at this; omega); obtain ⟨u0, u1, u2, u3, u4, u5, _⟩ := kvt (show w2.heap[w.heap.size]? = _ from (hb2.block _ (by simpa using hsW)).trans (ku HT))) | (refine (ku HC2).mono ?_; rintro e w2 ⟨ca, cn, cc, rfl, ho2, hb2⟩; have hw2 : w.heap.size < w2.heap.size := (by have := hb2.size; simp at this; omega); obtain ⟨u0, u1, u2, u3, u4, u5, _⟩ := kvt (show w2.heap[w.heap.size]? = _ from (hb2.block _ (by simp; omega)).trans (qp (ku HT))); obtain ⟨z0, z1, z2, z3, z4, z5, z6, z7, z8, z9, z10, z11⟩ := kvt (show w2.heap[W.heap.size]? = _ from (hb2.block _ (by simp)).trans (ku HZ)))); dsimp only))
    all_goals
      go_wp2_with fail
      go_meet
      refine ⟨_, ca, cn, cc, rfl, ?_⟩
      first
      | (refine ⟨hw2, ?_, ?_, ?_⟩
         · exact qy w2 _
         · exact qj (zu (Nat.le_of_lt hsW) ho2) (below_alloc1 _ _)
         · exact ((Below.refl _ _).drew.trans (hb2.mono (by simp))).alloc (by have := hb2.size; simp at this; omega) _)
      | (refine ⟨hsW, ?_, ?_, ?_⟩
         · exact vww (vwy (show w2.heap[W.heap.size]? = _ from (hb2.block _ (by simp)).trans (ku HZ)) _ _ _) _ _ _
         · exact jw3 (zu (by simp; omega) ho2) (fun k hk => by have := vxj ho2 k hk; simp at this; omega) _ _ _ _ _ _
         · exact jxm ((((Below.refl _ _).alloc (Nat.le_refl _) _).drew).trans (hb2.mono (by simp))) (Nat.le_refl _) _ _ _ _ _ _)
  case rest =>
  obtain ⟨R, ca, cn, cc, rfl, hRw, hR, hO, hb⟩ := hcut
  have hbw := (ku HBW).trans (hb.mono (Nat.le_of_lt hsW))
  have hRn := (ku HRN) _ R ca cn cc hbw hR (zu hlw hO)
  have hS1 := (hb.block w.heap.size hsW).trans (ku HT)
  obtain ⟨u0, u1, u2, u3, u4, u5, _⟩ := kvt hS1
  have HTR1 := hide ((ku HTR) _ R _ false hbw hRn)
  have HDO1 := hide (fun w1 b1 h1 hk1 d hd => (ku HDO) _ w1 R _ false b1 hbw hRn hk1 h1 d hd)
  have HS1 := hide hS1
  have HB1 := hide hbw
  have HGE := hide (yw hO)
  have hRn2 : R ≠ w.heap.size := by omega
  have hwl : w.heap.size ≤ wc.heap.size := hbw.size
  clear hbw hRn hS1 hR hO hb HRN HTR HDO HC1 HC2 HZ HT t0 t1 t2 t3 t4 t5
  go_wp2_with fail
  refine (ku HTR1).mono ?_
  rintro e w1 ⟨rfl, h1, hk1⟩
  have hS2 := hk1.row (Ne.symm hRn2) (ku HS1)
  obtain ⟨y0, y1, y2, y3, y4, y5, _⟩ := kvt hS2
  obtain ⟨_, r4, r5, _⟩ := h1.cells
  have HB2 := hide ((ku HB1).trans (hk1.toBelow (B := w.heap.size) (Nat.le_of_lt hRw) hwl))
  have hr := ku HR
  have hd := ku HD
  cases hct : (c.1 == 1)
  · rw [hct, if_neg (by simp)] at hd
    injection hd with hd
    subst hd
    rw [hct] at hr
    simp only [Bool.or_false, if_neg (Bool.false_ne_true)] at hr
    cases hcw : c.2
    · rw [hcw] at hr r5
      simp only [if_neg (Bool.false_ne_true)] at hr
      subst hr
      clear h1 hk1 hS2 HTR1 HDO1 HB1 HR HD u0 u1 u2 u3 u4 u5
      go_wp2
      go_ret2
      exact ⟨_, rfl, World.ownsRow_nil _ _ _ _, ku HB2⟩
    · rw [hcw] at hr r5
      simp only [if_pos] at hr
      subst hr
      clear h1 hk1 hS2 HTR1 HDO1 HB1 HR HD u0 u1 u2 u3 u4 u5
      go_wp2
      go_ret2
      exact ⟨_, rfl, World.ownsRow_nil _ _ _ _, ku HB2⟩
  · rw [hct, if_pos rfl] at hd
    rw [hct, if_pos rfl] at hr
    have HDO2 := hide ((ku HDO1) w1 _ h1 hk1 d hd)
    have hwl1 : w.heap.size ≤ w1.heap.size := Nat.le_trans hwl hk1.size
    clear h1 hk1 hS2 HTR1 HDO1 HB1 HR HD u0 u1 u2 u3 u4 u5 hd r4 r5
    go_wp2_with fail
    refine (ku HDO2).mono ?_
    rintro e w2 ⟨rfl, h2, hk2⟩
    obtain ⟨_, r4, r5, _⟩ := h2.cells
    have HB3 := hide ((ku HB2).trans (hk2.toBelow (Nat.le_of_lt hRw) hwl1 (ku HGE)))
    have HST := hide (zye h2.st (ku HGE))
    rw [Bool.false_or] at r5
    clear h2 hk2 HDO2 HB2 HGE y0 y1 y2 y3 y4 y5
    cases hcw : (c.2 || d.2)
    · rw [hcw] at hr r5
      simp only [if_neg (Bool.false_ne_true)] at hr
      subst hr
      go_wp2
      go_ret2
      exact ⟨_, rfl, ku HST, ku HB3⟩
    · rw [hcw] at hr r5
      simp only [if_pos] at hr
      subst hr
      go_wp2
      go_ret2
      exact ⟨_, rfl, World.ownsRow_nil _ _ _ _, ku HB3⟩
structure MStep where
 text:ByteArray
 params:List PP
 mems:List Int
 guard:PX
 block:PB
structure MNever where
 text:ByteArray
 params:List PP
 mems:List Int
 expr:PX
def qy6 (s:MStep):Prop:=s.params.length≤1000∧(∀ y∈jr s.guard,y.text.size≤1000)∧kke s.block∧uz s.block≤1000∧(∀ y∈zh s.block,y.text.size≤1000)
def qka (lo so:Nat)(w:World)(M:Nat)(s:MStep)(cs:List Value):Prop:=
 ∃ pa pn pc ma mn mc p ba bn bc bs no,cs=[.string s.text,.pointer (some ⟨M,0,none⟩),.slice pa pn pc,.slice ma mn mc,.pointer p,.slice ba bn bc]∧w.ownsRow lo 352 4 (.slice pa pn pc) s.params.length (jw s.params)∧w.ownsRow lo 3 1 (.slice ma mn mc) s.mems.length (s.mems.map (Value.int .i64))∧XIs so w s.guard (.pointer p)∧w.ownsRow so 334 9 (.slice ba bn bc) (uz s.block) bs∧BIs so no w s.block bs
def kko (lo so:Nat)(w:World)(M:Nat)(l:List MStep)(cs:List Value):Prop:=cs.length=l.length * 6∧∀ k (hk:k<l.length),qka lo so w M l[k] ((cs.drop (k * 6)).take 6)
theorem vqz {cs:List Value}{k:Nat}{a b c d e f:Value}(h:(cs.drop (k * 6)).take 6=[a,b,c,d,e,f]):cs[k * 6]?=some a∧cs[k * 6+1]?=some b∧cs[k * 6+2]?=some c∧cs[k * 6+3]?=some d∧cs[k * 6+4]?=some e∧cs[k * 6+5]?=some f:=by
 have g:∀ j,j<6→cs[k * 6+j]?=([a,b,c,d,e,f]:List Value)[j]?:=fun j hj=>by
  rw[←h,Qq hj,Qs]
 exact ⟨g 0 (by omega),g 1 (by omega),g 2 (by omega),g 3 (by omega),g 4 (by omega),g 5 (by omega)⟩
def qjm (vars:List MVar)(tab:uq)(st:List Int)(t:List UInt8):List MStep→Option (List Int × Bool)
 | []=>some ([],false)
 | s::l=>if s.text.toList==t then (kv7 vars tab s.params s.mems st s.guard s.block).map fun r=>(r.1,r.2==1) else qjm vars tab st t l
theorem zzh (vars:List MVar)(tab:uq)(st:List Int)(t:List UInt8):∀ (l:List MStep) (k:Nat),(∀ i (hi:i<l.length),i<k→(l[i].text.toList==t)=false)→qjm vars tab st t l=qjm vars tab st t (l.drop k)
 | [],k,_=>by simp
 | s::l,0,_=>rfl
 | s::l,k+1,h=>by
  have h0:=h 0 (by simp) (by omega);simp only[fB] at h0;rw[qjm,h0,QU];exact zzh vars tab st t l k (fun i hi hk=>by have:=h (i+1) (by simpa using hi) (by omega);simpa using this)
theorem jxh (w:World)(lo so M nb:Nat)(vars:List MVar)(tab:uq)(steps:List MStep)(st:List Int)(t:ByteArray)(sa ta:Option Addr)(sn sc tc:Nat)(cs:List Value)(h:Mc lo w M nb vars tab)(hS:w.ownsRow lo 5 1 (.slice sa sn sc) st.length (st.map (Value.int .u8)))(hM0:w.cell? ⟨M,0,none⟩=some (.slice ta steps.length tc))(hT:w.ownsRow lo 178 6 (.slice ta steps.length tc) steps.length cs)(hI:kko lo so w M steps cs)(hok:∀ s∈steps,qy6 s)
  (hv:vars.length≤1000) (hsl:st.length≤1000000) (hln:steps.length≤1000000) (hlw:lo≤w.heap.size) (r:List Int × Bool) (hr:qjm vars tab st t.toList steps=some r) :
  Calls Tryz.prog 55 #[.pointer (some ⟨M,0,none⟩),.slice sa sn sc,.string t] w fun e w'=>∃ v,e=.returned (.tuple #[v,.bool r.2])∧w'.ownsRow w.heap.size 5 1 v r.1.length (r.1.map (Value.int .u8))∧Below w.heap.size w w':=by
 obtain ⟨xa,cap,e1,hview⟩:=zq hT;injection e1 with e1 _ e3;subst e1;subst e3;have hMl:M<w.heap.size:=by obtain ⟨⟨_,_,_,_,_,_,_,hb,_⟩,_⟩:=h;exact wX hb
 have HW:=hide hview;have HI:=hide hI;have HR:=hide hr;have HOK:=hide hok;have HFR:=hide (fun (wx:World) (hb:Below w.heap.size w wx) (s:MStep) (hs:qy6 s) pa pn pc ma mn mc p ba bn bc bs no (h1:w.ownsRow lo 352 4 (.slice pa pn pc) s.params.length (jw s.params)) (h2:w.ownsRow lo 3 1 (.slice ma mn mc) s.mems.length (s.mems.map (Value.int .i64))) (h3:XIs so w s.guard (.pointer p)) (h4:w.ownsRow so 334 9 (.slice ba bn bc) (uz s.block) bs) (h5:BIs so no w s.block bs) (r:List Int × Int) (hr:kv7 vars tab s.params s.mems st s.guard s.block=some r)=>
  zkg s.guard s.block wx lo so M nb no vars tab s.params s.mems st s.text p pa ma sa ba pn pc mn mc sn sc bn bc bs (h.below hb) (qj h1 hb) (qj h2 hb) (qj hS hb) hv hs.1 hsl (h3.below hb) hs.2.1 ⟨qj h4 hb,h5.stay (fun k _ hk=>hb.block k hk),hs.2.2.1,hs.2.2.2.1,hs.2.2.2.2⟩ (rV hlw hb.size) r hr)
 clear hview hT hI hr hok h hS;go_enter Tryz.func55,Tryz.ntmps55
 go_wp2_with fail
 go_loopw [9,17] (fun _ i wr=>∃ k:Nat,k≤steps.length∧i=.int .i64 k∧(∀ i (hi:i<steps.length),i<k→(steps[i].text.toList==t.toList)=false)∧Below w.heap.size w wr) (fun _ i _=>steps.length-(intOf i).toNat)
 case atStart=>exact ⟨0,tu _,rfl,fun i _ h=>by omega,Below.refl _ _⟩
 case round=>
  obtain ⟨k,hk,rfl,hno,hb⟩:=hrel;have HNO:=hide hno;have HB:=hide hb;have hsz:=hb.size;clear hno;by_cases hlt:k<steps.length
  ·obtain ⟨g,rfl,hg1,hg2,hc⟩:=ku HW k hlt;obtain ⟨hcl,hst⟩:=ku HI;obtain ⟨pa,pn,pc,ma,mn,mc,p,ba,bn,bc,bs,no,e,h1,h2,h3,h4,h5⟩:=hst k hlt;obtain ⟨s0,s1,s2,s3,s4,s5⟩:=vqz e;have cc:∀ j,j<steps.length * 6→wr.cell? ⟨g,j,none⟩=cs[j]?:=fun j hj=>(hb.cell (p:=⟨g,j,none⟩) hg2).trans (hc j hj)
   have e0:=(cc (k * 6) (by omega)).trans s0;have e1:=(cc (k * 6+1) (by omega)).trans s1;have e2:=(cc (k * 6+2) (by omega)).trans s2;have e3:=(cc (k * 6+3) (by omega)).trans s3;have e4:=(cc (k * 6+4) (by omega)).trans s4;have e5:=(cc (k * 6+5) (by omega)).trans s5;have hsk:=(zzh vars tab st t.toList steps k (ku HNO)).symm.trans (ku HR);rw[sQ hlt,qjm] at hsk;have HST:=hide (fun (hq:(steps[k].text.toList==t.toList)=false)=>(show ∀ i (hi:i<steps.length),i<k+1→(steps[i].text.toList==t.toList)=false from fun i hi h=>by
    by_cases e:i=k
    ·subst e;exact hq
    ·exact (ku HNO) i hi (by omega)))
   have hsok:=ku HOK steps[k] (rJ _);have HF:=hide (fun (q:List Int × Int) (hq0:kv7 vars tab steps[k].params steps[k].mems st steps[k].guard steps[k].block=some q)=>(ku HFR) (wr.alloc (.cells #[.string steps[k].text,.pointer (some ⟨M,0,none⟩),.slice pa pn pc,.slice ma mn mc,.pointer p,.slice ba bn bc] 178)) (hb.alloc hsz _) steps[k] hsok pa pn pc ma mn mc p ba bn bc bs no h1 h2 h3 h4 h5 q hq0);generalize steps[k]=s at *;clear cc hc hst e h1 h2 h3 h4 h5 s0 s1 s2 s3 s4 s5 hsok hb;cases hq:(s.text.toList==t.toList)
   ·have HS2:=hide ((ku HST) hq);clear hsk HF;go_wp2
    go_roundw
    case rel=>exact ⟨k+1,by omega,by go_num,ku HS2,(ku HB).alloc hsz _⟩
    case measure=>simp[intOf];omega
   ·rw[hq,if_pos rfl] at hsk;obtain ⟨q,hq2,hq3⟩:=rQ.mp hsk;subst hq3;have HF1:=hide ((ku HF) q hq2);clear hsk HF hq2;go_wp2_with fail
    refine (ku HF1).mono ?_;rintro e w2 ⟨v,rfl,ho2,hb2⟩;have HO2:=hide (zu (rV hsz (by simp:wr.heap.size≤(wr.alloc _).heap.size)) ho2);have HB2:=hide (((ku HB).alloc hsz _).trans (hb2.mono (rV hsz (by simp))));obtain ⟨a3,l3,c3,rfl⟩:=jy ho2;clear ho2 hb2 HF1;go_wp2
    go_ret2
    exact ⟨_,rfl,ku HO2,ku HB2⟩
  ·have hsk:=(zzh vars tab st t.toList steps steps.length (fun i hi _=>(ku HNO) i hi (by omega))).symm.trans (ku HR);rw[lW,qjm] at hsk;injection hsk with hsk;subst hsk;clear hb;go_wp2
   go_ret2
   exact ⟨_,rfl,rP _ _ _ _,ku HB⟩
theorem jza (n:Nat):(madeCells (Value.int .u8 0).cells (n * 1)).toList=(List.replicate n (0:Int)).map (Value.int .u8):=by
 rw[show (Value.int .u8 0).cells=#[Value.int .u8 0] from rfl,toList_madeCells_one,JB,List.map_replicate]
theorem jqa (w:World)(M n:Nat)(hM:w.cell? ⟨M,5,none⟩=some (.int .i64 n))(hn:n≤1000000) :
  Calls Tryz.prog 54 #[.pointer (some ⟨M,0,none⟩)] w fun e w'=>∃ v,e=.returned v∧w'.ownsRow w.heap.size 5 1 v n ((List.replicate n (0:Int)).map (Value.int .u8))∧Below w.heap.size w w':=by
 obtain ⟨i0,hi,hz0,hz1,hz2⟩:=info_parts Tryz.infoU8;obtain ⟨w',hrun,hown,hgr⟩:=run_makeSlice_full (P:=Tryz.prog) (w:=w) w.heap.size 95 5 i0 _ 1 Tryz.underlying95 hi hz0 hz1 .i64 .i64 n (by omega) (by rw[hz2];omega) (by unfold maxLen;omega) (wW _);have HO:=hide (show w'.ownsRow w.heap.size 5 1 (.slice (some ⟨w.heap.size,0,none⟩) n n) n ((List.replicate n (0:Int)).map (Value.int .u8)) by
  rw[jza] at hown;exact hown)
 have HB:=hide (show Below w.heap.size w w' from (Below.refl _ _).grown hgr (wW _) (fun k hk=>by cases hk));clear hown hgr hi hz0 hz1 hz2;go_enter Tryz.func54,Tryz.ntmps54
 go_wp2
 go_ret
 exact ⟨_,rfl,ku HO,ku HB⟩
end Go.Proofs.YtpmcnonmkghokaaGreatDoor

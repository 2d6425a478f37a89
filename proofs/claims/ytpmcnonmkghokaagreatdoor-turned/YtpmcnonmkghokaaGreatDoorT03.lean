import Derived.Test.YtpmcnonmkghokaaGreatDoorT02
import Derived.Test.YtpmcnonmkghokaaGreatDoorT01
set_option maxRecDepth 100000
set_option maxHeartbeats 4000000
set_option linter.unusedVariables false
set_option linter.unusedSimpArgs false
namespace Go.Proofs.YtpmcnonmkghokaaGreatDoor
open Go.RowKit
def opN (o:List UInt8):Int:=
 if o==[116,114,117,101] then 0 else if o==[102,97,108,115,101] then 1 else if o==[110,111,110,101] then 2 else if o==[100,105,103,105,116] then 3 else if o==[112,108,97,99,101] then 4
 else if o==[33] then 5 else if o==[38] then 6 else if o==[124] then 7 else if o==[61,61] then 8 else if o==[33,61] then 9 else if o==[60] then 10 else if o==[43] then 11 else if o==[45] then 12 else 13
def kku (x:ELab)(a b:Value):Array Value:=#[.int .i64 (opN x.op.toList),.int .i64 x.n,.string x.name.text,.int .i64 x.name.at_,.bool (!(x.index.kind.toList==[])),.string x.index.text,.int .i64 x.index.at_,a,b]
def XIs (lo:Nat)(w:World):PX→Value→Prop
 | .nil,v=>v=.pointer none
 | .node _ _ x a b,v=>∃ k va vb,v=.pointer (some ⟨k,0,none⟩)∧lo≤k∧w.heap[k]?=some (.cells (kku x va vb) 358 (0,0))∧XIs lo w a va∧XIs lo w b vb
theorem XIs.ptr {lo:Nat}{w:World}{x:PX}{v:Value}(h:XIs lo w x v):∃ p,v=.pointer p:=by
 cases x with
 | nil=>exact ⟨_,h⟩
 | node _ _ _ _ _=>obtain ⟨k,_,_,e,_⟩:=h;exact ⟨_,e⟩
theorem XIs.stay {lo:Nat}{w w':World}(hk:∀ k,lo≤k→k<w.heap.size→w'.heap[k]?=w.heap[k]?):∀ {x:PX} {v:Value},XIs lo w x v→XIs lo w' x v
 | .nil,_,h=>h
 | .node _ _ _ _ _,_,⟨k,va,vb,e,hn,hh,ha,hb⟩=>⟨k,va,vb,e,hn,by rw[hk k hn (wX hh)];exact hh,ha.stay hk,hb.stay hk⟩
theorem XIs.kept {lo P:Nat}{w w':World}{x:PX}{v:Value}(h:XIs lo w x v)(hk:Kept P w w')(hP:P<lo):XIs lo w' x v:=
 h.stay fun k h1 h2=>hk.block k h2 (by omega)
theorem XIs.below {lo:Nat}{w w':World}{x:PX}{v:Value}(h:XIs lo w x v)(hk:Below w.heap.size w w'):XIs lo w' x v:=
 h.stay fun k _ h2=>hk.block k h2
theorem XIs.mono {lo lo':Nat}{w:World}(hl:lo'≤lo):∀ {x:PX} {v:Value},XIs lo w x v→XIs lo' w x v
 | .nil,_,h=>h
 | .node _ _ _ _ _,_,⟨k,va,vb,e,hn,hh,ha,hb⟩=>⟨k,va,vb,e,rV hl hn,hh,ha.mono hl,hb.mono hl⟩
theorem XIs.new {lo:Nat}{w:World}{x:ELab}{a b:PX}{va vb:Value}{cs:Array Value}(ha:XIs lo w a va)(hb:XIs lo w b vb)(hl:lo≤w.heap.size)(hc:cs=kku x va vb) :
  XIs lo (w.alloc (.cells cs 358)) (.node 0 0 x a b) (.pointer (some ⟨w.heap.size,0,none⟩)):=by
 subst hc;exact ⟨_,va,vb,rfl,hl,heap_alloc_new _ _,ha.below (below_alloc1 _ _),hb.below (below_alloc1 _ _)⟩
theorem kjh:jk.kind.toList=[]:=zy _
theorem kzs {o:ByteArray}{k:Int}{va vb:Value}(h:opN o.toList=k):#[Value.int .i64 k,.int .i64 0,.string ⟨#[]⟩,.int .i64 0,.bool false,.string ⟨#[]⟩,.int .i64 0,va,vb]=kku { op:=o,name:=jk,index:=jk,n:=0 } va vb:=by
 unfold kku;simp only;rw[h,kjh];rfl
theorem jy7 (n:Int):#[Value.int .i64 3,.int .i64 n,.string ⟨#[]⟩,.int .i64 0,.bool false,.string ⟨#[]⟩,.int .i64 0,.pointer none,.pointer none]=kku { op:=kw6,name:=jk,index:=jk,n:=n } (.pointer none) (.pointer none):=by
 unfold kku;simp only;rw[show kw6.toList=[100,105,103,105,116] from zy _,kjh];rfl
def EPost (P:Nat)(v:Value)(L:List Tok)(w:World)(r:PX × RS)(e:Ending)(w':World):Prop:=
 ∃ p t,e=.returned (.pointer p)∧XIs w.heap.size w' t (.pointer p)∧(r.2.bad=false→t=r.1)∧Pd w' P v L r.2∧Kept P w w'
theorem jkc (w:World)(P:Nat)(v:Value)(L:List Tok)(st:RS)(h:Pd w P v L st) :
  Calls Tryz.prog 152 #[.pointer (some ⟨P,0,none⟩)] w fun e w'=>∃ t,e=.returned (ptV t)∧kjq t.text 0=kq1 L [100,105,103,105,116] st∧(kj9 t.text 0&&!qvv t.text)=kq1 L [110,97,109,101] st∧Below w.heap.size w w':=by
 obtain ⟨r,h1,h2⟩:=h;exact (qzq w P v L r h1).mono fun e w' ⟨a,b⟩=>⟨_,a,h2.digit h1.ok,h2.name h1.ok,b⟩
def kzj (f:Nat)(L:List Tok)(st:RS):PX × RS:=
 if st.bad then (kw7,st)
 else if ql L [40] st then ((rX f 0 .nil L (qg L [40] st)).1,qg L [41] (rX f 0 .nil L (qg L [40] st)).2)
 else if isConst (tk L st.at_) then (opX (tk L st.at_).text .nil .nil,{ st with at_:=st.at_+1 })
 else if qvm (tk L st.at_) then (zq8 (gu (tk L st.at_).text),{ st with at_:=st.at_+1 })
 else vg L st
theorem vx1 (f n:Nat)(x:PX)(L:List Tok)(st:RS)(h:ql L [33] st=false):rX (f+1) (20+n) x L st=kzj f L st:=by
 rw[zvl];unfold kzj;rw[h];simp only[tZ,if_false]
theorem zvf {L:List Tok}{st:RS}(h:st.bad=true):(vg L st).2=st:=by
 unfold vg;simp only;have h1:=kj4 (L:=L) (s:=[110,97,109,101]) h;have h2:(qh L [110,97,109,101] st).2.bad=true:=by rw[h1];exact h
 rw[uj h2];exact h1
theorem zkx (L:List Tok)(st:RS):(plT L st).2.2.2=(vg L st).2:=by
 unfold plT vg jzz sqT;simp only;split<;>rfl
theorem qyp (L:List Tok)(st:RS)(hL:pq L)(hlt:st.at_<L.length):∃ x:ELab,#[Value.int .i64 4,.int .i64 0,.string (plT L st).1.text,.int .i64 (plT L st).1.at_,.bool (plT L st).2.1,.string (plT L st).2.2.1.text,.int .i64 (plT L st).2.2.1.at_,.pointer none,.pointer none]=kku x (.pointer none) (.pointer none) ∧
  ((vg L st).2.bad=false→.node 0 0 x .nil .nil=(vg L st).1):=by
 have hpl:kkb.toList=[112,108,97,99,101]:=zy _;unfold plT vg jzz sqT;simp only;cases hn:ql L [91] (qh L [110,97,109,101] st).2
 ·refine ⟨{ op:=kkb,name:=(qh L [110,97,109,101] st).1,index:=jk,n:=0 },?_,fun _=>rfl⟩;unfold kku;simp only[tZ,if_false];rw[hpl,kjh];rfl
 ·simp only[if_true];cases hb:(qg L [93] (qh L [110,97,109,101] (qg L [91] (qh L [110,97,109,101] st).2)).2).bad
  ·refine ⟨{ op:=kkb,name:=(qh L [110,97,109,101] st).1,index:=(qh L [110,97,109,101] (qg L [91] (qh L [110,97,109,101] st).2)).1,n:=0 },?_,fun _=>rfl⟩;have hk:=kj5 hb;have hkind:((qh L [110,97,109,101] (qg L [91] (qh L [110,97,109,101] st).2)).1.kind.toList==[])=false:=by
    generalize qg L [91] (qh L [110,97,109,101] st).2=s at *;unfold qh at hk ⊢;cases ho:kq1 L [110,97,109,101] s
    ·rw[ho] at hk;simp at hk
    ·simp only[if_true];unfold kq1 at ho;simp only[wY] at ho;have:=ho.2;rw[wP] at this;rw[this];rfl
   unfold kku;simp only;rw[hpl,hkind];rfl
  ·refine ⟨{ op:=kkb,name:=(qh L [110,97,109,101] st).1,index:={ kind:=kq4,text:=(qh L [110,97,109,101] (qg L [91] (qh L [110,97,109,101] st).2)).1.text,at_:=(qh L [110,97,109,101] (qg L [91] (qh L [110,97,109,101] st).2)).1.at_ },n:=0 },?_,fun h=>by cases h⟩;unfold kku;simp only;rw[hpl,show kq4.toList=[110,97,109,101] from zy _];rfl
theorem kq0 {L:List Tok}{st:RS}{l:List UInt8}(h:ql L l st=true):(tk L st.at_).text.toList=l∧st.bad=false:=by
 unfold ql qzk at h;simp only[wY,nP] at h;have:=h.2;rw[wP] at this;exact ⟨this,h.1.1⟩
theorem qvo.jyb {t:Tok}(h:qvo t){l:List UInt8}(hl:l∈lits)(ht:t.text.toList=l)(hw:kj9 t.text 0=true):(t.kind.toList==[119,111,114,100])=true:=by
 have h1:=h.lit l hl;have h2:=h.word;rw[ht,hw] at *;have e:(l==l)=true:=by simp
 rw[e,Ja] at h1;unfold jk7 at h1;cases hk:(t.kind.toList==[119,111,114,100])
 ·rw[hk] at h1 h2;simp at h1 h2;rw[h1] at h2;simp at h2
 ·rfl
theorem qwm {b:ByteArray}{c:UInt8}{r:List UInt8}(h:b.toList=c::r):kj9 b 0=(decide (97≤(c.toNat:Int))&&decide ((c.toNat:Int)≤122)):=by
 have hp:0<b.size:=qz1 (by rw[h];rfl);obtain ⟨c',r',e,e2⟩:=qzb 97 122 b hp;rw[h] at e;injection e with e1 _;subst e1;exact e2
theorem qqo {L:List Tok}{st:RS}(hL:pq L)(hlt:st.at_<L.length)(hb:st.bad=false):isConst (tk L st.at_)=(ql L [116,114,117,101] st||ql L [102,97,108,115,101] st||ql L [110,111,110,101] st):=by
 have hok:=hL.ok _ hlt;have key:∀ l:List UInt8,l∈lits→(∃ c r,l=c::r∧(decide (97≤(c.toNat:Int))&&decide ((c.toNat:Int)≤122))=true)→ql L l st=(((tk L st.at_).kind.toList==[119,111,114,100])&&((tk L st.at_).text.toList==l)):=by
  intro l hl ⟨c,r,e,hc⟩;unfold ql qzk;rw[hb];cases ht:((tk L st.at_).text.toList==l)
  ·simp
  ·rw[wP] at ht;have:=hok.jyb hl ht (by rw[qwm (ht.trans e)];exact hc);rw[this];simp
 rw[key _ (by decide) ⟨_,_,rfl,by decide⟩,key _ (by decide) ⟨_,_,rfl,by decide⟩,key _ (by decide) ⟨_,_,rfl,by decide⟩];unfold isConst;cases ((tk L st.at_).kind.toList==[119,111,114,100])<;>simp
theorem zks {L:List Tok}{st:RS}(hb:st.bad=false):qvm (tk L st.at_)=kq1 L [100,105,103,105,116] st:=by
 unfold qvm kq1;rw[hb];rfl
def kys (n F f:Nat):Prop:=∀ (w:World) (P:Nat) (v:Value) (L:List Tok) (st:RS),Pd w P v L st→(st.bad=false→8 * (L.length-st.at_)+(7-n)≤f) →
 Calls Tryz.prog F #[.pointer (some ⟨P,0,none⟩)] w fun e w'=>EPost P v L w (rX f n .nil L st) e w'
theorem vz5 (a b:Int)(w:World):(Instr.field 109 (.agg #[.int .i64 a,.int .i64 b]) 0).run Tryz.prog w=.ok (.int .i64 a) w:=by kernel_rfl
theorem qvl (f:Nat)(w:World)(P:Nat)(v:Value)(L:List Tok)(st:RS)(hE:st.bad=false→kys 0 210 f)(h:Pd w P v L st)(hf:st.bad=false→8 * (L.length-st.at_)+1≤f) :
  Calls Tryz.prog 299 #[.pointer (some ⟨P,0,none⟩)] w fun e w'=>EPost P v L w (kzj f L st) e w':=by
 have hX:=h.in;have hL:=h.ok;have hlt:=h.lt;go_enter Tryz.func299,Tryz.ntmps299
 go_wp2_with fail
 refine (kwi [40] (by decide) _ P v L st h).mono ?_;rintro e w1 ⟨rfl,h1,hk1⟩;have H1:=hide h1;have HK1:=hide hk1;clear h h1 hk1;cases hp:ql L [40] st
 ·go_wp2_with fail
  refine (kqc [116,114,117,101] (by decide) _ P v L st (ku H1)).mono ?_;rintro e w2 ⟨rfl,h2,hk2⟩;have HK2:=hide ((ku HK1).trans hk2);have hs2:=(ku HK2).size;clear hk2 H1 HK1;cases ht:ql L [116,114,117,101] st
  ·rw[kzx ht] at h2;have H2:=hide h2;clear h2;go_wp2_with fail
   refine (kqc [102,97,108,115,101] (by decide) _ P v L st (ku H2)).mono ?_;rintro e w3 ⟨rfl,h3,hk3⟩;have HK3:=hide ((ku HK2).trans hk3);have hs3:=(ku HK3).size;clear hk3 H2 HK2;cases hfa:ql L [102,97,108,115,101] st
   ·rw[kzx hfa] at h3;have H3:=hide h3;clear h3;go_wp2_with fail
    refine (kqc [110,111,110,101] (by decide) _ P v L st (ku H3)).mono ?_;rintro e w4 ⟨rfl,h4,hk4⟩;have HK4:=hide ((ku HK3).trans hk4);have hs4:=(ku HK4).size;clear hk4 H3 HK3;cases hno:ql L [110,111,110,101] st
    ·rw[kzx hno] at h4;have H4:=hide h4;clear h4;go_wp2_with fail
     refine (jkc _ P v L st (ku H4)).mono ?_;rintro e w5 ⟨t,rfl,hdg,_,hb5⟩;have HK5:=hide ((ku HK4).trans (.of_below hb5));have H5:=hide ((ku H4).below hb5);have hs5:=(ku HK5).size;clear hb5 H4 HK4;go_wp2_with fail
     refine (qv5 t _).mono ?_;rintro e w6 ⟨rfl,hb6⟩;rw[hdg];have HK6:=hide ((ku HK5).trans (.of_below hb6));have H6:=hide ((ku H5).below hb6);have hs6:=(ku HK6).size;clear hb6 H5 HK5 hdg;cases hd:kq1 L [100,105,103,105,116] st
     ·go_wp2_with fail
      refine (zjw _ P v L st (ku H6)).mono ?_;rintro e w7 ⟨rfl,h7,hk7⟩;rw[zkx] at h7;have HR:=hide (show (kzj f L st).2=(vg L st).2∧((vg L st).2.bad=false→(kzj f L st).1=(vg L st).1) by
       unfold kzj;cases hb:st.bad
       ·rw[hp,qqo hL hlt hb,ht,hfa,hno,zks hb,hd];simp
       ·simp[zvf hb,hb])
      obtain ⟨x,hx1,hx2⟩:=qyp L st hL hlt;have HX1:=hide hx1;have HX2:=hide hx2;have HK7:=hide ((ku HK6).trans hk7);have hs7:=(ku HK7).size;have H7:=hide h7;clear h7 hk7 hx1 hx2 H6 HK6;generalize plT L st=pt at *;unfold plV;go_wp2
      go_ret
      refine ⟨_,.node 0 0 x .nil .nil,rfl,XIs.new rfl rfl hs7 (ku HX1),?_,?_,(ku HK7).alloc _⟩
      ·intro hb;rw[(ku HR).1] at hb;rw[(ku HX2) hb,((ku HR).2 hb)]
      ·rw[(ku HR).1];exact (ku H7).alloc _
     ·have hb:st.bad=false:=by
       unfold kq1 at hd;simp only[wY,nP] at hd;exact hd.1
      have HR:=hide (show kzj f L st=(zq8 (gu (tk L st.at_).text),{ st with at_:=st.at_+1 }) by
       unfold kzj;rw[hb,hp,qqo hL hlt hb,ht,hfa,hno,zks hb,hd];simp)
      have HKd:=hide (show qh L [100,105,103,105,116] st=(tk L st.at_,{ st with at_:=st.at_+1 }) by unfold qh;rw[hd];rfl);go_wp2_with fail
      refine (qwa _ P v L st (ku H6)).mono ?_;rintro e w7 ⟨rfl,h7,hk7⟩;rw[ku HKd] at h7 ⊢;have HK7:=hide ((ku HK6).trans hk7);have hs7:=(ku HK7).size;have H7:=hide h7;have hfd:=vz5 (gu (tk L st.at_).text) (tk L st.at_).at_;clear h7 hk7 H6 HK6;unfold dgV;go_wp2
      go_ret
      rw[ku HR];exact ⟨_,zq8 (gu (tk L st.at_).text),rfl,XIs.new rfl rfl hs7 (jy7 _),fun _=>rfl,(ku H7).alloc _,(ku HK7).alloc _⟩
    ·obtain ⟨htx,hb⟩:=kq0 hno;have HR:=hide (show kzj f L st=(opX (tk L st.at_).text .nil .nil,{ st with at_:=st.at_+1 }) by
      unfold kzj;rw[hb,hp,qqo hL hlt hb,ht,hfa,hno];simp)
     have e4:kv2 L [110,111,110,101] st={ st with at_:=st.at_+1 }:=by unfold kv2;rw[hno];rfl
     rw[e4] at h4;have H4:=hide h4;clear h4 e4;go_wp2
     go_ret
     rw[ku HR];exact ⟨_,opX (tk L st.at_).text .nil .nil,rfl,XIs.new rfl rfl hs4 (kzs (by rw[htx];rfl)),fun _=>rfl,(ku H4).alloc _,(ku HK4).alloc _⟩
   ·obtain ⟨htx,hb⟩:=kq0 hfa;have HR:=hide (show kzj f L st=(opX (tk L st.at_).text .nil .nil,{ st with at_:=st.at_+1 }) by
     unfold kzj;rw[hb,hp,qqo hL hlt hb,ht,hfa];simp)
    have e3:kv2 L [102,97,108,115,101] st={ st with at_:=st.at_+1 }:=by unfold kv2;rw[hfa];rfl
    rw[e3] at h3;have H3:=hide h3;clear h3 e3;go_wp2
    go_ret
    rw[ku HR];exact ⟨_,opX (tk L st.at_).text .nil .nil,rfl,XIs.new rfl rfl hs3 (kzs (by rw[htx];rfl)),fun _=>rfl,(ku H3).alloc _,(ku HK3).alloc _⟩
  ·obtain ⟨htx,hb⟩:=kq0 ht;have HR:=hide (show kzj f L st=(opX (tk L st.at_).text .nil .nil,{ st with at_:=st.at_+1 }) by
    unfold kzj;rw[hb,hp,qqo hL hlt hb,ht];simp)
   have e2:kv2 L [116,114,117,101] st={ st with at_:=st.at_+1 }:=by unfold kv2;rw[ht];rfl
   rw[e2] at h2;have H2:=hide h2;clear h2 e2;go_wp2
   go_ret
   rw[ku HR];exact ⟨_,opX (tk L st.at_).text .nil .nil,rfl,XIs.new rfl rfl hs2 (kzs (by rw[htx];rfl)),fun _=>rfl,(ku H2).alloc _,(ku HK2).alloc _⟩
 ·obtain ⟨htx,hb⟩:=kq0 hp;have HR:=hide (show kzj f L st=((rX f 0 .nil L (qg L [40] st)).1,qg L [41] (rX f 0 .nil L (qg L [40] st)).2) by
   unfold kzj;rw[hb,hp];rfl)
  go_wp2_with fail
  refine (qzx [40] (by decide) rfl _ P v L st (ku H1)).mono ?_;rintro e w2 ⟨rfl,h2,hk2⟩;have hmono:=zi L [40] st;have hmo:(qg L [40] st).bad=false→(qg L [40] st).at_=st.at_+1:=qz7;have HK2:=hide ((ku HK1).trans hk2);have hs2:=(ku HK2).size;have H2:=hide h2;clear h2 hk2 H1 HK1;generalize qg L [40] st=s2 at *;go_wp2_with fail
  refine (hE hb _ P v L s2 (ku H2) (fun h2=>by have:=hmo h2;have:=hf hb;omega)).mono ?_;rintro e w3 ⟨p,t,rfl,hx3,ht3,h3,hk3⟩;have HK3:=hide ((ku HK2).trans hk3);have hs3:=(ku HK3).size;have HX3:=hide (hx3.mono hs2);have HT3:=hide ht3;have H3:=hide h3;clear hx3 ht3 h3 hk3 H2 HK2;generalize rX f 0 .nil L s2=r3 at *;go_wp2_with fail
  refine (qq9 [41] (by decide) rfl rfl _ P v L _ (ku H3)).mono ?_;rintro e w4 ⟨rfl,h4,hk4⟩;have HK4:=hide ((ku HK3).trans hk4);have HX4:=hide ((ku HX3).kept hk4 hX);have H4:=hide h4;clear h4 hk4;go_wp2
  go_ret
  rw[ku HR];exact ⟨p,t,rfl,ku HX4,fun hb=>(ku HT3) (kj5 hb),ku H4,ku HK4⟩
def qvs:Nat→PX→PX
 | 0,x=>x
 | n+1,x=>opX qyq (qvs n x) .nil
theorem jjk:∀ (n:Nat) (x:PX),qvs n (opX qyq x .nil)=qvs (n+1) x
 | 0,_=>rfl
 | n+1,x=>by rw[qvs,jjk n x];rfl
theorem vx2 {f n:Nat}{x:PX}{L:List Tok}{st:RS}(h:ql L [33] st=true)(hn:n≠12):rX (f+1) (20+n) x L st=(opX qyq (rX f (20+(n+1)) .nil L (qg L [33] st)).1 .nil,(rX f (20+(n+1)) .nil L (qg L [33] st)).2):=by
 rw[zvl,h,(kq0 h).2];simp[hn]
theorem jvs {f:Nat}{x:PX}{L:List Tok}{st:RS}(h:ql L [33] st=true):rX (f+1) (20+12) x L st=(kw7,{ st with bad:=true }):=by
 rw[zvl,h,(kq0 h).2];simp
def qy7 (L:List Tok)(fin:PX × RS)(j g:Nat)(s:RS):Prop:=
 fin=(qvs j (rX g (20+j) .nil L s).1,(rX g (20+j) .nil L s).2)∧(s.bad=false→8 * (L.length-s.at_)+2≤g)
theorem jjw {L:List Tok}{fin:PX × RS}{j g:Nat}{s:RS}(h:qy7 L fin j g s)(hn:ql L [33] s=true)(hj:j≠12)(hlt:s.at_<L.length):qy7 L fin (j+1) (g-1) { s with at_:=s.at_+1 }:=by
 obtain ⟨h1,h2⟩:=h;have hb:=(kq0 hn).2;have hg:=h2 hb;obtain ⟨g,rfl⟩:∃ k,g=k+1:=⟨g-1,by omega⟩;rw[vx2 hn hj] at h1;have hm:qg L [33] s={ s with at_:=s.at_+1 }:=by rw[kjn rfl rfl];unfold qwv;rw[hn];rfl
 rw[hm] at h1;simp only[Je];refine ⟨?_,fun _=>by simp only;omega⟩;rw[h1,jjk]
theorem jxt {L:List Tok}{fin:PX × RS}{j g:Nat}{s:RS}(h:qy7 L fin j g s)(hn:ql L [33] s=false):fin.2=(kzj (g-1) L s).2∧((kzj (g-1) L s).2.bad=false→fin.1=qvs j (kzj (g-1) L s).1):=by
 obtain ⟨h1,h2⟩:=h;cases hb:s.bad
 ·have hg:=h2 hb;obtain ⟨g,rfl⟩:∃ k,g=k+1:=⟨g-1,by omega⟩;rw[vx1 _ _ _ _ _ hn] at h1;rw[h1];exact ⟨rfl,fun _=>rfl⟩
 ·have e:kzj (g-1) L s=(kw7,s):=by unfold kzj;rw[hb];rfl
  rw[e,h1,kql hb];exact ⟨rfl,fun hb'=>by simp only at hb';rw[hb] at hb';cases hb'⟩
theorem jyu {L:List Tok}{fin:PX × RS}{g:Nat}{s:RS}(h:qy7 L fin 12 g s)(hn:ql L [33] s=true):fin.2=(kzj 0 L { s with bad:=true }).2∧((kzj 0 L { s with bad:=true }).2.bad=false→fin.1=qvs 12 (kzj 0 L { s with bad:=true }).1):=by
 obtain ⟨h1,h2⟩:=h;have hb:=(kq0 hn).2;have hg:=h2 hb;obtain ⟨g,rfl⟩:∃ k,g=k+1:=⟨g-1,by omega⟩;rw[jvs hn] at h1;have e:kzj 0 L { s with bad:=true }=(kw7,{ s with bad:=true }):=by unfold kzj;rfl
 rw[e,h1];exact ⟨rfl,fun hb'=>by simp at hb'⟩
theorem Pd.step {w:World}{P:Nat}{v:Value}{L:List Tok}{s:RS}(h:Pd w P v L s)(hb:s.bad=false)(hl:s.at_+1<L.length):w.cell? ⟨P,1,none⟩=some (.int .i64 s.at_)∧w.frozen? ⟨P,1,none⟩=false∧Pd (w.setCell ⟨P,1,none⟩ (.int .i64 ((s.at_:Int)+1))) P v L { s with at_:=s.at_+1 }:=by
 obtain ⟨r,h1,h2⟩:=h;obtain ⟨c0,c1,c2,c3,c4,f1,_⟩:=kyd h1.pd;have hn:=(h2.good hb).2.1;rw[hn] at c1;refine ⟨c1,f1,⟨_,?_,h2.step hb hl⟩⟩;have:=h1.step (by rw[hn];exact hl);rw[hn] at this ⊢;exact this
theorem zkk (f:Nat)(w:World)(P:Nat)(v:Value)(L:List Tok)(st:RS)(hE:st.bad=false→∀ g,g<f→kys 0 210 g)(h:Pd w P v L st)(hf:st.bad=false→8 * (L.length-st.at_)+2≤f) :
  Calls Tryz.prog 296 #[.pointer (some ⟨P,0,none⟩)] w fun e w'=>EPost P v L w (rX f 20 .nil L st) e w':=by
 have hX:=h.in;have hL:=h.ok;have hlen:=hL.len;have H:=hide h;have HE0:=hide hE;have HA0:=hide (show qy7 L (rX f 20 .nil L st) 0 f st from ⟨rfl,hf⟩);generalize rX f 20 .nil L st=fin at *;clear h hE hf;go_enter Tryz.func296,Tryz.ntmps296
 go_wp2
 go_loopw [3] (fun row wr=>∃ (j g:Nat) (s:RS),j≤12∧row=.int .i64 j∧qy7 L fin j g s∧(s.bad=false→g≤f∧st.bad=false)∧Pd wr P v L s∧Kept P w wr) (fun row _=>12-(intOf row).toNat)
 case atStart=>exact ⟨0,f,st,by omega,rfl,ku HA0,fun hb=>⟨wW _,hb⟩,ku H,Kept.refl _ _⟩
 case round=>
  obtain ⟨j,g,s,hj,rfl,hA,hgf,hp,hk⟩:=hrel;have hlt:=hp.lt;have HA:=hide hA;have HP:=hide hp;have HK:=hide hk;have HG:=hide hgf;clear hA hp hk hgf HA0 H;go_wp2_with fail
  refine (kwi [33] (by decide) _ P v L s (ku HP)).mono ?_;rintro e w2 ⟨rfl,h2,hk2⟩;have HK2:=hide ((ku HK).trans hk2);have hs2:=(ku HK2).size;have H2:=hide h2;clear h2 hk2 HK HP;cases hn:ql L [33] s
  ·have HF:=hide (jxt (ku HA) hn);have hA2:=(ku HA).2;go_wp2_with fail
   refine (qvl (g-1) _ P v L s (fun hb=>(ku HE0) ((ku HG) hb).2 (g-1) (by have:=hA2 hb;have:=((ku HG) hb).1;omega)) (ku H2) (fun hb=>by have:=hA2 hb;omega)).mono ?_;rintro e w5 ⟨p5,t5,rfl,hx5,ht5,h5,hk5⟩;have HK5:=hide ((ku HK2).trans hk5);have hs5:=(ku HK5).size;have HX5:=hide (hx5.mono hs2);have HT5:=hide ht5;have H5:=hide h5;clear hx5 ht5 h5 hk5;generalize kzj (g-1) L s=r5 at *;go_wp2
   go_loopw [4,23] (fun pe ie wr=>∃ (i:Nat) (p:Option Addr),i≤j∧ie=.int .i64 i∧pe=.pointer p∧XIs w.heap.size wr (qvs i t5) (.pointer p)∧Pd wr P v L r5.2∧Kept P w wr) (fun _ ie _=>j-(intOf ie).toNat)
   case atStart=>exact ⟨0,p5,tu _,rfl,rfl,ku HX5,ku H5,ku HK5⟩
   case round=>
    obtain ⟨i,p,hij,rfl,rfl,hx,hp,hk⟩:=hrel;have HX:=hide hx;have HP:=hide hp;have HK:=hide hk;have hsz:=hk.size;clear hx hp hk;by_cases hlt2:i<j
    ·go_wp2
     go_roundw
     case rel=>exact ⟨i+1,_,by omega,by go_num,rfl,XIs.new (ku HX) rfl hsz (kzs (by rw[show qyq.toList=[33] from zy _];rfl)),(ku HP).alloc _,(ku HK).alloc _⟩
     case measure=>simp[intOf];omega
    ·have hij2:i=j:=by omega
     subst hij2;go_wp2
     go_ret
     refine ⟨p,_,rfl,ku HX,?_,?_,ku HK⟩
     ·intro hb;rw[(ku HF).1] at hb;rw[((ku HF).2 hb),(ku HT5) hb]
     ·rw[(ku HF).1];exact ku HP
  ·have hns:=kqb hL hlt hn;by_cases h12:j=12
   ·subst h12;have HF:=hide (jyu (ku HA) hn);go_wp2_with fail
    refine (vz1 _ P v L s (ku H2)).mono ?_;rintro e w3 ⟨rfl,h3,hk3⟩;have HK3:=hide ((ku HK2).trans hk3);have hs3:=(ku HK3).size;have H3:=hide h3;clear h3 hk3 HK2 H2;go_wp2_with fail
    refine (qvl 0 _ P v L { s with bad:=true } (fun hb=>by simp at hb) (ku H3) (fun hb=>by simp at hb)).mono ?_;rintro e w5 ⟨p5,t5,rfl,hx5,ht5,h5,hk5⟩;have HK5:=hide ((ku HK3).trans hk5);have hs5:=(ku HK5).size;have HX5:=hide (hx5.mono hs3);have HT5:=hide ht5;have H5:=hide h5;clear hx5 ht5 h5 hk5;generalize kzj 0 L { s with bad:=true }=r5 at *;go_wp2
    go_loopw [4,23] (fun pe ie wr=>∃ (i:Nat) (p:Option Addr),i≤12∧ie=.int .i64 i∧pe=.pointer p∧XIs w.heap.size wr (qvs i t5) (.pointer p)∧Pd wr P v L r5.2∧Kept P w wr) (fun _ ie _=>12-(intOf ie).toNat)
    case atStart=>exact ⟨0,p5,tu _,rfl,rfl,ku HX5,ku H5,ku HK5⟩
    case round=>
     obtain ⟨i,p,hij,rfl,rfl,hx,hp,hk⟩:=hrel;have HX:=hide hx;have HP:=hide hp;have HK:=hide hk;have hsz:=hk.size;clear hx hp hk;by_cases hlt2:i<12
     ·go_wp2
      go_roundw
      case rel=>exact ⟨i+1,_,by omega,by go_num,rfl,XIs.new (ku HX) rfl hsz (kzs (by rw[show qyq.toList=[33] from zy _];rfl)),(ku HP).alloc _,(ku HK).alloc _⟩
      case measure=>simp[intOf];omega
     ·have hij2:i=12:=by omega
      subst hij2;go_wp2
      go_ret
      refine ⟨p,_,rfl,ku HX,?_,?_,ku HK⟩
      ·intro hb;rw[(ku HF).1] at hb;rw[((ku HF).2 hb),(ku HT5) hb]
      ·rw[(ku HF).1];exact ku HP
   ·have hj12:j<12:=by omega
    obtain ⟨c1,f1,hp3⟩:=(ku H2).step hns.1 hns.2;have HP3:=hide hp3;have HR:=hide (jjw (ku HA) hn h12 hlt);clear hp3;go_wp2
    go_roundw
    case rel=>exact ⟨j+1,g-1,_,by omega,by go_num,ku HR,fun _=>⟨by have:=((ku HG) hns.1).1;omega,((ku HG) hns.1).2⟩,ku HP3,(ku HK2).kki _ _⟩
    case measure=>simp[intOf];omega
theorem qvo.vvp {t:Tok}(h:qvo t){c:UInt8}{r:List UInt8}(ht:t.text.toList=c::r)(hc:(decide (97≤(c.toNat:Int))&&decide ((c.toNat:Int)≤122))=false):(t.kind.toList==[119,111,114,100])=false:=by
 have h1:=h.word;rw[qwm ht,hc] at h1;cases hk:(t.kind.toList==[119,111,114,100])
 ·rfl
 ·rw[hk] at h1;simp at h1
theorem kvj {L:List Tok}{st:RS}(hL:pq L)(hlt:st.at_<L.length)(hb:st.bad=false){l:List UInt8}(hl:∃ c r,l=c::r∧(decide (97≤(c.toNat:Int))&&decide ((c.toNat:Int)≤122))=false):ql L l st=(((tk L st.at_).kind.toList==[115,105,103,110])&&((tk L st.at_).text.toList==l)):=by
 obtain ⟨c,r,e,hc⟩:=hl;unfold ql qzk;rw[hb];cases ht:((tk L st.at_).text.toList==l)
 ·simp
 ·rw[wP] at ht;rw[(hL.ok _ hlt).vvp (ht.trans e) hc];simp
theorem ky5 (a b:List UInt8):(a==b)=(b==a):=by
 cases h:(a==b)
 ·cases h2:(b==a)
  ·rfl
  ·rw[wP] at h2;subst h2;simp at h
 ·rw[wP] at h;subst h;simp
theorem vy1 {L:List Tok}{st:RS}(hL:pq L)(hlt:st.at_<L.length)(hb:st.bad=false):kz7 0 (tk L st.at_)=ql L [124] st:=by
 rw[kvj hL hlt hb ⟨_,_,rfl,by decide⟩];simp only[kz7,kw0,Qi,Jt,nM];rw[zy [124],ky5,Bool.and_comm]
theorem vy0 {L:List Tok}{st:RS}(hL:pq L)(hlt:st.at_<L.length)(hb:st.bad=false):kz7 1 (tk L st.at_)=ql L [38] st:=by
 rw[kvj hL hlt hb ⟨_,_,rfl,by decide⟩];simp only[kz7,kw0,Qi,Jt,nM];rw[zy [38],ky5,Bool.and_comm]
theorem vve {L:List Tok}{st:RS}(hL:pq L)(hlt:st.at_<L.length)(hb:st.bad=false):kz7 3 (tk L st.at_)=(ql L [43] st||ql L [45] st):=by
 rw[kvj hL hlt hb ⟨_,_,rfl,by decide⟩,kvj hL hlt hb ⟨_,_,rfl,by decide⟩];simp only[kz7,kw0,Qi,Jt,nM];rw[zy [43],zy [45],ky5 [43],ky5 [45]];cases ((tk L st.at_).kind.toList==[115,105,103,110])<;>simp
theorem vk1 {L:List Tok}{st:RS}(hL:pq L)(hlt:st.at_<L.length)(hb:st.bad=false):kz7 2 (tk L st.at_)=(ql L [61,61] st||ql L [33,61] st||ql L [60] st):=by
 rw[kvj hL hlt hb ⟨_,_,rfl,by decide⟩,kvj hL hlt hb ⟨_,_,rfl,by decide⟩,kvj hL hlt hb ⟨_,_,rfl,by decide⟩];simp only[kz7,kw0,Qi,Jt,nM];rw[zy [61,61],zy [33,61],zy [60],ky5 [61,61],ky5 [33,61],ky5 [60]];cases ((tk L st.at_).kind.toList==[115,105,103,110])<;>simp[Q7]
def zza (L:List Tok)(n F:Nat)(fin:PX × RS)(t:PX)(s:RS):Prop:=
 (s.bad=true∧fin.2=s)∨(s.bad=false∧∃ g,g<F∧8 * (L.length-s.at_)+1≤g∧rX g (10+n) t L s=fin)
theorem kyx {L:List Tok}{n f:Nat}{st:RS}{t:PX}(hn:n<4)(hf:st.bad=false→8 * (L.length-st.at_)+(7-n)≤f)(ht:(rX (f-1) (n+1) .nil L st).2.bad=false→t=(rX (f-1) (n+1) .nil L st).1) :
  zza L n f (rX f n .nil L st) t (rX (f-1) (n+1) .nil L st).2:=by
 cases hb:st.bad
 ·have:=hf hb;obtain ⟨f,rfl⟩:∃ k,f=k+1:=⟨f-1,by omega⟩;simp only[Je] at ht ⊢;have hm:=kxd f (n+1) .nil L st;rw[vqm f n .nil L st hn];simp only[hb,tZ,if_false];cases hb1:(rX f (n+1) .nil L st).2.bad
  ·refine Or.inr ⟨hb1,f,by omega,by omega,?_⟩;rw[ht hb1]
  ·exact Or.inl ⟨hb1,kql hb1 _ _ _⟩
 ·rw[kql hb];exact Or.inl ⟨hb,kql hb _ _ _⟩
theorem qx1 {L:List Tok}{n F:Nat}{fin:PX × RS}{t:PX}{s:RS}(hn:n<4)(h:zza L n F fin t s)(hb:s.bad=false→kz7 n (tk L s.at_)=false):fin.2=s∧(s.bad=false→fin.1=t):=by
 rcases h with ⟨h1,h2⟩|⟨h1,g,_,h2,h3⟩
 ·exact ⟨h2,fun h=>by rw[h1] at h;cases h⟩
 ·obtain ⟨g,rfl⟩:∃ k,g=k+1:=⟨g-1,by omega⟩;rw[jkw _ _ _ _ _ hn,hb h1,h1] at h3;simp only[tZ,if_false] at h3;rw[←h3];exact ⟨rfl,fun _=>rfl⟩
theorem kk4 {L:List Tok}{n F:Nat}{fin:PX × RS}{t:PX}{s:RS}(hn:n<4)(h:zza L n F fin t s)(hb:s.bad=false)(hi:kz7 n (tk L s.at_)=true):∃ g,g+1<F∧8 * (L.length-s.at_)+1≤g+1 ∧
  (if n=2 then (opX (tk L s.at_).text t (rX g (n+1) .nil L { s with at_:=s.at_+1 }).1,(rX g (n+1) .nil L { s with at_:=s.at_+1 }).2)
   else rX g (10+n) (opX (tk L s.at_).text t (rX g (n+1) .nil L { s with at_:=s.at_+1 }).1) L (rX g (n+1) .nil L { s with at_:=s.at_+1 }).2)=fin:=by
 rcases h with ⟨h1,h2⟩|⟨h1,g,hg,h2,h3⟩
 ·rw[h1] at hb;cases hb
 ·obtain ⟨g,rfl⟩:∃ k,g=k+1:=⟨g-1,by omega⟩;rw[jkw _ _ _ _ _ hn,if_neg (by rw[h1];simp),if_pos hi] at h3;exact ⟨g,hg,h2,h3⟩
theorem qj6 {L:List Tok}{n F g:Nat}{fin:PX × RS}{t t':PX}{s:RS}{r:PX × RS}{o:ByteArray}(hgF:g+1<F)(hg:8 * (L.length-s.at_)+1≤g+1)(hm:s.at_+1≤r.2.at_)(hlt:s.at_<L.length)(h:rX g (10+n) (opX o t r.1) L r.2=fin)(ht:r.2.bad=false→t'=r.1) :
  zza L n F fin (opX o t t') r.2:=by
 cases hb:r.2.bad
 ·refine Or.inr ⟨hb,g,by omega,by omega,?_⟩;rw[ht hb];exact h
 ·refine Or.inl ⟨hb,?_⟩;rw[←h,kql hb]
def zwc (n F:Nat):Prop:=∀ (g:Nat) (w:World) (P:Nat) (v:Value) (L:List Tok) (st:RS),st.bad=true→Pd w P v L st →
 Calls Tryz.prog F #[.pointer (some ⟨P,0,none⟩)] w fun e w'=>EPost P v L w (rX g n .nil L st) e w'
theorem EPost.state {P:Nat}{v:Value}{L:List Tok}{w w':World}{r r':PX × RS}{e:Ending}(h:EPost P v L w r e w')(h2:r'.2=r.2)(h1:r.2.bad=false→r'.1=r.1):EPost P v L w r' e w':=by
 obtain ⟨p,t,a,b,c,d,k⟩:=h;exact ⟨p,t,a,b,fun hb=>by rw[h2] at hb;rw[c hb,h1 hb],by rw[h2];exact d,k⟩
theorem vxa {n F f:Nat}{st0:RS}(hB:zwc n F)(hS:st0.bad=false→∀ g,g<f→kys n F g)(g:Nat)(w:World)(P:Nat)(v:Value)(L:List Tok)(st:RS)(h:Pd w P v L st)(hg:st.bad=false→st0.bad=false∧g<f∧8 * (L.length-st.at_)+(7-n)≤g) :
  Calls Tryz.prog F #[.pointer (some ⟨P,0,none⟩)] w fun e w'=>EPost P v L w (rX g n .nil L st) e w':=by
 cases hb:st.bad
 ·have:=hg hb;exact hS this.1 g this.2.1 w P v L st h (fun _=>this.2.2)
 ·exact hB g w P v L st hb h
theorem zzl:zwc 4 296:=fun g w P v L st hb h=>by
 have:=zkk 0 w P v L st (fun h=>by rw[hb] at h;cases h) h (fun h=>by rw[hb] at h;cases h);exact this.mono fun e w' he=>he.state (by rw[kql hb,kql hb]) (fun h=>by rw[kql hb,hb] at h;cases h)
theorem jyy (f:Nat)(hE:∀ g,g<f→kys 0 210 g):kys 4 296 f:=fun w P v L st h hf=>by
 cases hb:st.bad
 ·have:=hf hb;obtain ⟨f,rfl⟩:∃ k,f=k+1:=⟨f-1,by omega⟩;rw[vx0];simp only[hb,tZ,if_false];exact zkk f w P v L st (fun _ g hg=>hE g (by omega)) h (fun _=>by omega)
 ·exact zzl f w P v L st hb h
theorem zym (f:Nat)(w:World)(P:Nat)(v:Value)(L:List Tok)(st:RS)(hB:zwc 4 296)(hS:st.bad=false→∀ g,g<f→kys 4 296 g)(h:Pd w P v L st)(hf:st.bad=false→8 * (L.length-st.at_)+(7-3)≤f) :
  Calls Tryz.prog 286 #[.pointer (some ⟨P,0,none⟩)] w fun e w'=>EPost P v L w (rX f 3 .nil L st) e w':=by
 have hX:=h.in;have hL:=h.ok;have hlen:=hL.len;have HS:=hide (vxa hB hS);have HST:=hide (fun (t:PX) ht=>kyx (L:=L) (st:=st) (t:=t) (n:=3) (by omega) hf ht);generalize rX f 3 .nil L st=fin at *;go_enter Tryz.func286,Tryz.ntmps286
 go_wp2_with fail
 refine ((ku HS) (f-1) _ P v L st h (fun hb=>⟨hb,by have:=hf hb;omega,by have:=hf hb;omega⟩)).mono ?_;rintro e w1 ⟨p1,t1,rfl,hx1,ht1,h1,hk1⟩;have hT:=(ku HST) t1 ht1;have HT:=hide hT;clear HST;have hgood:(rX (f-1) (3+1) .nil L st).2.bad=false→st.bad=false:=fun hb=>by
  cases hb0:st.bad
  ·rfl
  ·rw[kql hb0,hb0] at hb;cases hb
 generalize (rX (f-1) (3+1) .nil L st).2=s1 at *;have H1:=hide h1;have HK1:=hide hk1;have HX1:=hide hx1;clear hT h1 hk1 hx1 ht1 h hS hB hf;go_wp2_with fail
 go_loopw [3] (fun le wr=>∃ (p:Option Addr) (t:PX) (s:RS),le=.pointer p∧XIs w.heap.size wr t (.pointer p)∧zza L 3 f fin t s∧(s.bad=false→st.bad=false)∧Pd wr P v L s∧Kept P w wr) (fun _ wr=>L.length-qxh wr P)
 case atStart=>exact ⟨p1,t1,s1,rfl,ku HX1,ku HT,hgood,ku H1,ku HK1⟩
 case round=>
  obtain ⟨p,t,s,rfl,hx,hT,hgd,hp,hk⟩:=hrel;have hlt:=hp.lt;have HX:=hide hx;have HT2:=hide hT;have HP:=hide hp;have HK:=hide hk;have HG:=hide hgd;have hsz:=hk.size;clear hx hT hp hk hgd HT H1 HK1 HX1 hgood;go_wp2_with fail
  refine (kqc [43] (by decide) _ P v L s (ku HP)).mono ?_;rintro e w2 ⟨rfl,ha0,hka0⟩;have HXa0:=hide ((ku HX).kept hka0 hX);have HKa0:=hide ((ku HK).trans hka0);have hsa0:=(ku HKa0).size;clear hka0;cases hc0:ql L [43] s
  ·rw[kzx hc0] at ha0;have HPa0:=hide ha0;clear ha0;go_wp2_with fail
   refine (kqc [45] (by decide) _ P v L s (ku HPa0)).mono ?_;rintro e w3 ⟨rfl,ha1,hka1⟩;have HXa1:=hide ((ku HXa0).kept hka1 hX);have HKa1:=hide ((ku HKa0).trans hka1);have hsa1:=(ku HKa1).size;clear hka1;cases hc1:ql L [45] s
   ·rw[kzx hc1] at ha1;have HPa1:=hide ha1;clear ha1;obtain ⟨he1,he2⟩:=qx1 (by omega) (ku HT2) (fun hb=>by rw[vve hL hlt hb,hc0,hc1];rfl);go_wp2
    go_ret
    exact ⟨p,t,rfl,ku HXa1,fun hb=>by rw[he1] at hb;exact (he2 hb).symm,by rw[he1];exact ku HPa1,ku HKa1⟩
   ·obtain ⟨htx,hb⟩:=kq0 hc1;have hns:=kqb hL hlt hc1;have ea:kv2 L [45] s={ s with at_:=s.at_+1 }:=by unfold kv2;rw[hc1];rfl
    rw[ea] at ha1;obtain ⟨g,hg1,hg2,hg3⟩:=kk4 (by omega) (ku HT2) hb (by rw[vve hL hlt hb,hc0,hc1];simp);rw[if_neg (by omega)] at hg3;have HG3:=hide hg3;have HA:=hide ha1;clear ea ha1 hg3;go_wp2_with fail
    refine ((ku HS) g _ P v L { s with at_:=s.at_+1 } (ku HA) (fun _=>⟨(ku HG) hb,by omega,by simp only;omega⟩)).mono ?_;rintro e w6 ⟨p6,t6,rfl,hx6,ht6,h6,hk6⟩;have hm6:s.at_+1≤(rX g (3+1) .nil L { s with at_:=s.at_+1 }).2.at_:=kxd g (3+1) .nil L { s with at_:=s.at_+1 };have HX6:=hide (hx6.mono hsa1);have HXo:=hide ((ku HXa1).kept hk6 hX);have HK6:=hide ((ku HKa1).trans hk6);have hs6:=(ku HK6).size;have HM:=hide (qj6 hg1 hg2 hm6 hlt (ku HG3) ht6);have H6:=hide h6;clear hx6 hk6 ht6 h6 HG3;generalize rX g (3+1) .nil L { s with at_:=s.at_+1 }=r6 at *;have HMS:=hide (kxc (ku HP) (ku H6) hns.1 hns.2 (fun _=>hm6));go_wp2
    go_roundw
    case rel=>exact ⟨_,_,r6.2,rfl,XIs.new (ku HXo) (ku HX6) hs6 (kzs (by rw[htx];rfl)),ku HM,fun _=>(ku HG) hb,(ku H6).alloc _,(ku HK6).alloc _⟩
    case measure=>have:=ku HMS;exact (by rw[((ku H6).alloc _).nx,←(ku H6).nx];exact this)
  ·obtain ⟨htx,hb⟩:=kq0 hc0;have hns:=kqb hL hlt hc0;have ea:kv2 L [43] s={ s with at_:=s.at_+1 }:=by unfold kv2;rw[hc0];rfl
   rw[ea] at ha0;obtain ⟨g,hg1,hg2,hg3⟩:=kk4 (by omega) (ku HT2) hb (by rw[vve hL hlt hb,hc0];simp);rw[if_neg (by omega)] at hg3;have HG3:=hide hg3;have HA:=hide ha0;clear ea ha0 hg3;go_wp2_with fail
   refine ((ku HS) g _ P v L { s with at_:=s.at_+1 } (ku HA) (fun _=>⟨(ku HG) hb,by omega,by simp only;omega⟩)).mono ?_;rintro e w6 ⟨p6,t6,rfl,hx6,ht6,h6,hk6⟩;have hm6:s.at_+1≤(rX g (3+1) .nil L { s with at_:=s.at_+1 }).2.at_:=kxd g (3+1) .nil L { s with at_:=s.at_+1 };have HX6:=hide (hx6.mono hsa0);have HXo:=hide ((ku HXa0).kept hk6 hX);have HK6:=hide ((ku HKa0).trans hk6);have hs6:=(ku HK6).size;have HM:=hide (qj6 hg1 hg2 hm6 hlt (ku HG3) ht6);have H6:=hide h6;clear hx6 hk6 ht6 h6 HG3;generalize rX g (3+1) .nil L { s with at_:=s.at_+1 }=r6 at *;have HMS:=hide (kxc (ku HP) (ku H6) hns.1 hns.2 (fun _=>hm6));go_wp2
   go_roundw
   case rel=>exact ⟨_,_,r6.2,rfl,XIs.new (ku HXo) (ku HX6) hs6 (kzs (by rw[htx];rfl)),ku HM,fun _=>(ku HG) hb,(ku H6).alloc _,(ku HK6).alloc _⟩
   case measure=>have:=ku HMS;exact (by rw[((ku H6).alloc _).nx,←(ku H6).nx];exact this)
theorem qjn (f:Nat)(w:World)(P:Nat)(v:Value)(L:List Tok)(st:RS)(hB:zwc 3 286)(hS:st.bad=false→∀ g,g<f→kys 3 286 g)(h:Pd w P v L st)(hf:st.bad=false→8 * (L.length-st.at_)+(7-2)≤f) :
  Calls Tryz.prog 259 #[.pointer (some ⟨P,0,none⟩)] w fun e w'=>EPost P v L w (rX f 2 .nil L st) e w':=by
 have hX:=h.in;have hL:=h.ok;have hlen:=hL.len;have HS:=hide (vxa hB hS);have HST:=hide (fun (t:PX) ht=>kyx (L:=L) (st:=st) (t:=t) (n:=2) (by omega) hf ht);generalize rX f 2 .nil L st=fin at *;go_enter Tryz.func259,Tryz.ntmps259
 go_wp2_with fail
 refine ((ku HS) (f-1) _ P v L st h (fun hb=>⟨hb,by have:=hf hb;omega,by have:=hf hb;omega⟩)).mono ?_;rintro e w1 ⟨p,t,rfl,hx1,ht1,h1,hk1⟩;have hT:=(ku HST) t ht1;have HT2:=hide hT;clear HST;have hgood:(rX (f-1) (2+1) .nil L st).2.bad=false→st.bad=false:=fun hb=>by
  cases hb0:st.bad
  ·rfl
  ·rw[kql hb0,hb0] at hb;cases hb
 generalize (rX (f-1) (2+1) .nil L st).2=s at *;have HG:=hide hgood;have HP:=hide h1;have HK:=hide hk1;have HX:=hide hx1;have hlt:=h1.lt;have hsz:=hk1.size;clear hT h1 hk1 hx1 ht1 h hS hB hf hgood;go_wp2_with fail
 refine (kqc [61,61] (by decide) _ P v L s (ku HP)).mono ?_;rintro e w2 ⟨rfl,ha0,hka0⟩;have HXa0:=hide ((ku HX).kept hka0 hX);have HKa0:=hide ((ku HK).trans hka0);have hsa0:=(ku HKa0).size;clear hka0;cases hc0:ql L [61,61] s
 ·rw[kzx hc0] at ha0;have HPa0:=hide ha0;clear ha0;go_wp2_with fail
  refine (kqc [33,61] (by decide) _ P v L s (ku HPa0)).mono ?_;rintro e w3 ⟨rfl,ha1,hka1⟩;have HXa1:=hide ((ku HXa0).kept hka1 hX);have HKa1:=hide ((ku HKa0).trans hka1);have hsa1:=(ku HKa1).size;clear hka1;cases hc1:ql L [33,61] s
  ·rw[kzx hc1] at ha1;have HPa1:=hide ha1;clear ha1;go_wp2_with fail
   refine (kqc [60] (by decide) _ P v L s (ku HPa1)).mono ?_;rintro e w4 ⟨rfl,ha2,hka2⟩;have HXa2:=hide ((ku HXa1).kept hka2 hX);have HKa2:=hide ((ku HKa1).trans hka2);have hsa2:=(ku HKa2).size;clear hka2;cases hc2:ql L [60] s
   ·rw[kzx hc2] at ha2;have HPa2:=hide ha2;clear ha2;obtain ⟨he1,he2⟩:=qx1 (by omega) (ku HT2) (fun hb=>by rw[vk1 hL hlt hb,hc0,hc1,hc2];rfl);go_wp2
    go_ret
    exact ⟨p,t,rfl,ku HXa2,fun hb=>by rw[he1] at hb;exact (he2 hb).symm,by rw[he1];exact ku HPa2,ku HKa2⟩
   ·obtain ⟨htx,hb⟩:=kq0 hc2;have ea:kv2 L [60] s={ s with at_:=s.at_+1 }:=by unfold kv2;rw[hc2];rfl
    rw[ea] at ha2;obtain ⟨g,hg1,hg2,hg3⟩:=kk4 (by omega) (ku HT2) hb (by rw[vk1 hL hlt hb,hc0,hc1,hc2];simp);rw[if_pos rfl] at hg3;have HG3:=hide hg3;have HA:=hide ha2;clear ea ha2 hg3;go_wp2_with fail
    refine ((ku HS) g _ P v L { s with at_:=s.at_+1 } (ku HA) (fun _=>⟨(ku HG) hb,by omega,by simp only;omega⟩)).mono ?_;rintro e w6 ⟨p6,t6,rfl,hx6,ht6,h6,hk6⟩;have HX6:=hide (hx6.mono hsa2);have HXo:=hide ((ku HXa2).kept hk6 hX);have HK6:=hide ((ku HKa2).trans hk6);have hs6:=(ku HK6).size;have HT6:=hide ht6;have H6:=hide h6;clear hx6 hk6 ht6 h6;generalize rX g (2+1) .nil L { s with at_:=s.at_+1 }=r6 at *;go_wp2
    go_ret
    rw[←ku HG3];exact ⟨_,opX (tk L s.at_).text t t6,rfl,XIs.new (ku HXo) (ku HX6) hs6 (kzs (by rw[htx];rfl)),fun hb=>by simp only at hb;rw[(ku HT6) hb],(ku H6).alloc _,(ku HK6).alloc _⟩
  ·obtain ⟨htx,hb⟩:=kq0 hc1;have ea:kv2 L [33,61] s={ s with at_:=s.at_+1 }:=by unfold kv2;rw[hc1];rfl
   rw[ea] at ha1;obtain ⟨g,hg1,hg2,hg3⟩:=kk4 (by omega) (ku HT2) hb (by rw[vk1 hL hlt hb,hc0,hc1];simp);rw[if_pos rfl] at hg3;have HG3:=hide hg3;have HA:=hide ha1;clear ea ha1 hg3;go_wp2_with fail
   refine ((ku HS) g _ P v L { s with at_:=s.at_+1 } (ku HA) (fun _=>⟨(ku HG) hb,by omega,by simp only;omega⟩)).mono ?_;rintro e w6 ⟨p6,t6,rfl,hx6,ht6,h6,hk6⟩;have HX6:=hide (hx6.mono hsa1);have HXo:=hide ((ku HXa1).kept hk6 hX);have HK6:=hide ((ku HKa1).trans hk6);have hs6:=(ku HK6).size;have HT6:=hide ht6;have H6:=hide h6;clear hx6 hk6 ht6 h6;generalize rX g (2+1) .nil L { s with at_:=s.at_+1 }=r6 at *;go_wp2
   go_ret
   rw[←ku HG3];exact ⟨_,opX (tk L s.at_).text t t6,rfl,XIs.new (ku HXo) (ku HX6) hs6 (kzs (by rw[htx];rfl)),fun hb=>by simp only at hb;rw[(ku HT6) hb],(ku H6).alloc _,(ku HK6).alloc _⟩
 ·obtain ⟨htx,hb⟩:=kq0 hc0;have ea:kv2 L [61,61] s={ s with at_:=s.at_+1 }:=by unfold kv2;rw[hc0];rfl
  rw[ea] at ha0;obtain ⟨g,hg1,hg2,hg3⟩:=kk4 (by omega) (ku HT2) hb (by rw[vk1 hL hlt hb,hc0];simp);rw[if_pos rfl] at hg3;have HG3:=hide hg3;have HA:=hide ha0;clear ea ha0 hg3;go_wp2_with fail
  refine ((ku HS) g _ P v L { s with at_:=s.at_+1 } (ku HA) (fun _=>⟨(ku HG) hb,by omega,by simp only;omega⟩)).mono ?_;rintro e w6 ⟨p6,t6,rfl,hx6,ht6,h6,hk6⟩;have HX6:=hide (hx6.mono hsa0);have HXo:=hide ((ku HXa0).kept hk6 hX);have HK6:=hide ((ku HKa0).trans hk6);have hs6:=(ku HK6).size;have HT6:=hide ht6;have H6:=hide h6;clear hx6 hk6 ht6 h6;generalize rX g (2+1) .nil L { s with at_:=s.at_+1 }=r6 at *;go_wp2
  go_ret
  rw[←ku HG3];exact ⟨_,opX (tk L s.at_).text t t6,rfl,XIs.new (ku HXo) (ku HX6) hs6 (kzs (by rw[htx];rfl)),fun hb=>by simp only at hb;rw[(ku HT6) hb],(ku H6).alloc _,(ku HK6).alloc _⟩
theorem zyo (f:Nat)(w:World)(P:Nat)(v:Value)(L:List Tok)(st:RS)(hB:zwc 2 259)(hS:st.bad=false→∀ g,g<f→kys 2 259 g)(h:Pd w P v L st)(hf:st.bad=false→8 * (L.length-st.at_)+(7-1)≤f) :
  Calls Tryz.prog 241 #[.pointer (some ⟨P,0,none⟩)] w fun e w'=>EPost P v L w (rX f 1 .nil L st) e w':=by
 have hX:=h.in;have hL:=h.ok;have hlen:=hL.len;have HS:=hide (vxa hB hS);have HST:=hide (fun (t:PX) ht=>kyx (L:=L) (st:=st) (t:=t) (n:=1) (by omega) hf ht);generalize rX f 1 .nil L st=fin at *;go_enter Tryz.func241,Tryz.ntmps241
 go_wp2_with fail
 refine ((ku HS) (f-1) _ P v L st h (fun hb=>⟨hb,by have:=hf hb;omega,by have:=hf hb;omega⟩)).mono ?_;rintro e w1 ⟨p1,t1,rfl,hx1,ht1,h1,hk1⟩;have hT:=(ku HST) t1 ht1;have HT:=hide hT;clear HST;have hgood:(rX (f-1) (1+1) .nil L st).2.bad=false→st.bad=false:=fun hb=>by
  cases hb0:st.bad
  ·rfl
  ·rw[kql hb0,hb0] at hb;cases hb
 generalize (rX (f-1) (1+1) .nil L st).2=s1 at *;have H1:=hide h1;have HK1:=hide hk1;have HX1:=hide hx1;clear hT h1 hk1 hx1 ht1 h hS hB hf;go_wp2_with fail
 go_loopw [3] (fun le wr=>∃ (p:Option Addr) (t:PX) (s:RS),le=.pointer p∧XIs w.heap.size wr t (.pointer p)∧zza L 1 f fin t s∧(s.bad=false→st.bad=false)∧Pd wr P v L s∧Kept P w wr) (fun _ wr=>L.length-qxh wr P)
 case atStart=>exact ⟨p1,t1,s1,rfl,ku HX1,ku HT,hgood,ku H1,ku HK1⟩
 case round=>
  obtain ⟨p,t,s,rfl,hx,hT,hgd,hp,hk⟩:=hrel;have hlt:=hp.lt;have HX:=hide hx;have HT2:=hide hT;have HP:=hide hp;have HK:=hide hk;have HG:=hide hgd;have hsz:=hk.size;clear hx hT hp hk hgd HT H1 HK1 HX1 hgood;go_wp2_with fail
  refine (kqc [38] (by decide) _ P v L s (ku HP)).mono ?_;rintro e w2 ⟨rfl,ha0,hka0⟩;have HXa0:=hide ((ku HX).kept hka0 hX);have HKa0:=hide ((ku HK).trans hka0);have hsa0:=(ku HKa0).size;clear hka0;cases hc0:ql L [38] s
  ·rw[kzx hc0] at ha0;have HPa0:=hide ha0;clear ha0;obtain ⟨he1,he2⟩:=qx1 (by omega) (ku HT2) (fun hb=>by rw[vy0 hL hlt hb,hc0]);go_wp2
   go_ret
   exact ⟨p,t,rfl,ku HXa0,fun hb=>by rw[he1] at hb;exact (he2 hb).symm,by rw[he1];exact ku HPa0,ku HKa0⟩
  ·obtain ⟨htx,hb⟩:=kq0 hc0;have hns:=kqb hL hlt hc0;have ea:kv2 L [38] s={ s with at_:=s.at_+1 }:=by unfold kv2;rw[hc0];rfl
   rw[ea] at ha0;obtain ⟨g,hg1,hg2,hg3⟩:=kk4 (by omega) (ku HT2) hb (by rw[vy0 hL hlt hb,hc0]);rw[if_neg (by omega)] at hg3;have HG3:=hide hg3;have HA:=hide ha0;clear ea ha0 hg3;go_wp2_with fail
   refine ((ku HS) g _ P v L { s with at_:=s.at_+1 } (ku HA) (fun _=>⟨(ku HG) hb,by omega,by simp only;omega⟩)).mono ?_;rintro e w6 ⟨p6,t6,rfl,hx6,ht6,h6,hk6⟩;have hm6:s.at_+1≤(rX g (1+1) .nil L { s with at_:=s.at_+1 }).2.at_:=kxd g (1+1) .nil L { s with at_:=s.at_+1 };have HX6:=hide (hx6.mono hsa0);have HXo:=hide ((ku HXa0).kept hk6 hX);have HK6:=hide ((ku HKa0).trans hk6);have hs6:=(ku HK6).size;have HM:=hide (qj6 hg1 hg2 hm6 hlt (ku HG3) ht6);have H6:=hide h6;clear hx6 hk6 ht6 h6 HG3;generalize rX g (1+1) .nil L { s with at_:=s.at_+1 }=r6 at *;have HMS:=hide (kxc (ku HP) (ku H6) hns.1 hns.2 (fun _=>hm6));go_wp2
   go_roundw
   case rel=>exact ⟨_,_,r6.2,rfl,XIs.new (ku HXo) (ku HX6) hs6 (kzs (by rw[htx];rfl)),ku HM,fun _=>(ku HG) hb,(ku H6).alloc _,(ku HK6).alloc _⟩
   case measure=>have:=ku HMS;exact (by rw[((ku H6).alloc _).nx,←(ku H6).nx];exact this)
theorem jw1 (f:Nat)(w:World)(P:Nat)(v:Value)(L:List Tok)(st:RS)(hB:zwc 1 241)(hS:st.bad=false→∀ g,g<f→kys 1 241 g)(h:Pd w P v L st)(hf:st.bad=false→8 * (L.length-st.at_)+(7-0)≤f) :
  Calls Tryz.prog 210 #[.pointer (some ⟨P,0,none⟩)] w fun e w'=>EPost P v L w (rX f 0 .nil L st) e w':=by
 have hX:=h.in;have hL:=h.ok;have hlen:=hL.len;have HS:=hide (vxa hB hS);have HST:=hide (fun (t:PX) ht=>kyx (L:=L) (st:=st) (t:=t) (n:=0) (by omega) hf ht);generalize rX f 0 .nil L st=fin at *;go_enter Tryz.func210,Tryz.ntmps210
 go_wp2_with fail
 refine ((ku HS) (f-1) _ P v L st h (fun hb=>⟨hb,by have:=hf hb;omega,by have:=hf hb;omega⟩)).mono ?_;rintro e w1 ⟨p1,t1,rfl,hx1,ht1,h1,hk1⟩;have hT:=(ku HST) t1 ht1;have HT:=hide hT;clear HST;have hgood:(rX (f-1) (0+1) .nil L st).2.bad=false→st.bad=false:=fun hb=>by
  cases hb0:st.bad
  ·rfl
  ·rw[kql hb0,hb0] at hb;cases hb
 generalize (rX (f-1) (0+1) .nil L st).2=s1 at *;have H1:=hide h1;have HK1:=hide hk1;have HX1:=hide hx1;clear hT h1 hk1 hx1 ht1 h hS hB hf;go_wp2_with fail
 go_loopw [3] (fun le wr=>∃ (p:Option Addr) (t:PX) (s:RS),le=.pointer p∧XIs w.heap.size wr t (.pointer p)∧zza L 0 f fin t s∧(s.bad=false→st.bad=false)∧Pd wr P v L s∧Kept P w wr) (fun _ wr=>L.length-qxh wr P)
 case atStart=>exact ⟨p1,t1,s1,rfl,ku HX1,ku HT,hgood,ku H1,ku HK1⟩
 case round=>
  obtain ⟨p,t,s,rfl,hx,hT,hgd,hp,hk⟩:=hrel;have hlt:=hp.lt;have HX:=hide hx;have HT2:=hide hT;have HP:=hide hp;have HK:=hide hk;have HG:=hide hgd;have hsz:=hk.size;clear hx hT hp hk hgd HT H1 HK1 HX1 hgood;go_wp2_with fail
  refine (kqc [124] (by decide) _ P v L s (ku HP)).mono ?_;rintro e w2 ⟨rfl,ha0,hka0⟩;have HXa0:=hide ((ku HX).kept hka0 hX);have HKa0:=hide ((ku HK).trans hka0);have hsa0:=(ku HKa0).size;clear hka0;cases hc0:ql L [124] s
  ·rw[kzx hc0] at ha0;have HPa0:=hide ha0;clear ha0;obtain ⟨he1,he2⟩:=qx1 (by omega) (ku HT2) (fun hb=>by rw[vy1 hL hlt hb,hc0]);go_wp2
   go_ret
   exact ⟨p,t,rfl,ku HXa0,fun hb=>by rw[he1] at hb;exact (he2 hb).symm,by rw[he1];exact ku HPa0,ku HKa0⟩
  ·obtain ⟨htx,hb⟩:=kq0 hc0;have hns:=kqb hL hlt hc0;have ea:kv2 L [124] s={ s with at_:=s.at_+1 }:=by unfold kv2;rw[hc0];rfl
   rw[ea] at ha0;obtain ⟨g,hg1,hg2,hg3⟩:=kk4 (by omega) (ku HT2) hb (by rw[vy1 hL hlt hb,hc0]);rw[if_neg (by omega)] at hg3;have HG3:=hide hg3;have HA:=hide ha0;clear ea ha0 hg3;go_wp2_with fail
   refine ((ku HS) g _ P v L { s with at_:=s.at_+1 } (ku HA) (fun _=>⟨(ku HG) hb,by omega,by simp only;omega⟩)).mono ?_;rintro e w6 ⟨p6,t6,rfl,hx6,ht6,h6,hk6⟩;have hm6:s.at_+1≤(rX g (0+1) .nil L { s with at_:=s.at_+1 }).2.at_:=kxd g (0+1) .nil L { s with at_:=s.at_+1 };have HX6:=hide (hx6.mono hsa0);have HXo:=hide ((ku HXa0).kept hk6 hX);have HK6:=hide ((ku HKa0).trans hk6);have hs6:=(ku HK6).size;have HM:=hide (qj6 hg1 hg2 hm6 hlt (ku HG3) ht6);have H6:=hide h6;clear hx6 hk6 ht6 h6 HG3;generalize rX g (0+1) .nil L { s with at_:=s.at_+1 }=r6 at *;have HMS:=hide (kxc (ku HP) (ku H6) hns.1 hns.2 (fun _=>hm6));go_wp2
   go_roundw
   case rel=>exact ⟨_,_,r6.2,rfl,XIs.new (ku HXo) (ku HX6) hs6 (kzs (by rw[htx];rfl)),ku HM,fun _=>(ku HG) hb,(ku H6).alloc _,(ku HK6).alloc _⟩
   case measure=>have:=ku HMS;exact (by rw[((ku H6).alloc _).nx,←(ku H6).nx];exact this)
theorem jk3:zwc 3 286:=fun g w P v L st hb h=>by
 have:=zym 0 w P v L st zzl (fun h=>by rw[hb] at h;cases h) h (fun h=>by rw[hb] at h;cases h);exact this.mono fun e w' he=>he.state (by rw[kql hb,kql hb]) (fun h=>by rw[kql hb,hb] at h;cases h)
theorem qzt:zwc 2 259:=fun g w P v L st hb h=>by
 have:=qjn 0 w P v L st jk3 (fun h=>by rw[hb] at h;cases h) h (fun h=>by rw[hb] at h;cases h);exact this.mono fun e w' he=>he.state (by rw[kql hb,kql hb]) (fun h=>by rw[kql hb,hb] at h;cases h)
theorem vk2:zwc 1 241:=fun g w P v L st hb h=>by
 have:=zyo 0 w P v L st qzt (fun h=>by rw[hb] at h;cases h) h (fun h=>by rw[hb] at h;cases h);exact this.mono fun e w' he=>he.state (by rw[kql hb,kql hb]) (fun h=>by rw[kql hb,hb] at h;cases h)
theorem exprs (f:Nat):kys 0 210 f∧kys 1 241 f∧kys 2 259 f∧kys 3 286 f∧kys 4 296 f:=by
 induction f using Nat.strongRecOn with
 | ind f ih=>
  have h4:=jyy f (fun g hg=>(ih g hg).1);refine ⟨?_,?_,?_,?_,h4⟩
  ·exact fun w P v L st h hf=>jw1 f w P v L st vk2 (fun _ g hg=>(ih g hg).2.1) h hf
  ·exact fun w P v L st h hf=>zyo f w P v L st qzt (fun _ g hg=>(ih g hg).2.2.1) h hf
  ·exact fun w P v L st h hf=>qjn f w P v L st jk3 (fun _ g hg=>(ih g hg).2.2.2.1) h hf
  ·exact fun w P v L st h hf=>zym f w P v L st zzl (fun _ g hg=>(ih g hg).2.2.2.2) h hf
theorem qx6 (w:World)(P:Nat)(v:Value)(L:List Tok)(st:RS)(h:Pd w P v L st) :
  Calls Tryz.prog 210 #[.pointer (some ⟨P,0,none⟩)] w fun e w'=>EPost P v L w (rX (ji L) 0 .nil L st) e w':=
 (exprs (ji L)).1 w P v L st h (fun _=>by unfold ji;omega)
end Go.Proofs.YtpmcnonmkghokaaGreatDoor

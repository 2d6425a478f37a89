import Derived.Test.YtpmcnonmkghokaaGreatDoorT02
import Derived.Test.YtpmcnonmkghokaaGreatDoorT01
set_option linter.unusedVariables false
set_option linter.unusedSimpArgs false
namespace Go.Proofs.YtpmcnonmkghokaaGreatDoor
open Go.RowKit
def opN (o : List UInt8) : Int:=
 if o == [116,114,117,101] then 0 else if o == [102,97,108,115,101] then 1 else if o == [110,111,110,101] then 2 else if o == [100,105,103,105,116] then 3 else if o == [112,108,97,99,101] then 4
 else if o == [33] then 5 else if o == [38] then 6 else if o == [124] then 7 else if o == [61,61] then 8 else if o == [33,61] then 9 else if o == [60] then 10 else if o == [43] then 11 else if o == [45] then 12 else 13
def xCells (x : ELab) (a b : Value) : Array Value:=#[.int .i64 (opN x.op.toList),.int .i64 x.n,.string x.name.text,.int .i64 x.name.at_,.bool (!(x.index.kind.toList == [])),.string x.index.text,.int .i64 x.index.at_,a,b]
def XIs (lo : Nat) (w : World) : PX→Value→Prop
 | .nil,v=>v = .pointer none
 | .node _ _ x a b,v=>∃ k va vb,v = .pointer (some ⟨k,0,none⟩)∧lo≤k∧w.heap[k]? = some (.cells (xCells x va vb) 358 (0,0))∧XIs lo w a va∧XIs lo w b vb
theorem XIs.ptr {lo : Nat} {w : World} {x : PX} {v : Value} (h : XIs lo w x v) : ∃ p,v = .pointer p:=by
 cases x with
 | nil=>exact ⟨_,h⟩
 | node _ _ _ _ _=>obtain ⟨k,_,_,e,_⟩:=h; exact ⟨_,e⟩
theorem XIs.stay {lo : Nat} {w w' : World} (hk : ∀ k,lo≤k→k < w.heap.size→w'.heap[k]? = w.heap[k]?) : ∀ {x : PX} {v : Value},XIs lo w x v→XIs lo w' x v
 | .nil,_,h=>h
 | .node _ _ _ _ _,_,⟨k,va,vb,e,hn,hh,ha,hb⟩=>⟨k,va,vb,e,hn,by rw [hk k hn (lt_of_block hh)]; exact hh,ha.stay hk,hb.stay hk⟩
theorem XIs.kept {lo P : Nat} {w w' : World} {x : PX} {v : Value} (h : XIs lo w x v) (hk : Kept P w w') (hP : P < lo) : XIs lo w' x v:=
 h.stay fun k h1 h2=>hk.block k h2 (by omega)
theorem XIs.below {lo : Nat} {w w' : World} {x : PX} {v : Value} (h : XIs lo w x v) (hk : Below w.heap.size w w') : XIs lo w' x v:=
 h.stay fun k _ h2=>hk.block k h2
theorem XIs.mono {lo lo' : Nat} {w : World} (hl : lo'≤lo) : ∀ {x : PX} {v : Value},XIs lo w x v→XIs lo' w x v
 | .nil,_,h=>h
 | .node _ _ _ _ _,_,⟨k,va,vb,e,hn,hh,ha,hb⟩=>⟨k,va,vb,e,Nat.le_trans hl hn,hh,ha.mono hl,hb.mono hl⟩
theorem XIs.new {lo : Nat} {w : World} {x : ELab} {a b : PX} {va vb : Value} {cs : Array Value} (ha : XIs lo w a va) (hb : XIs lo w b vb) (hl : lo≤w.heap.size) (hc : cs = xCells x va vb) :
  XIs lo (w.alloc (.cells cs 358)) (.node 0 0 x a b) (.pointer (some ⟨w.heap.size,0,none⟩)):=by
 subst hc
 exact ⟨_,va,vb,rfl,hl,heap_alloc_new _ _,ha.below (below_alloc1 _ _),hb.below (below_alloc1 _ _)⟩
theorem kj4 : jg.kind.toList = []:=zu _
theorem kju {o : ByteArray} {k : Int} {va vb : Value} (h : opN o.toList = k) : #[Value.int .i64 k,.int .i64 0,.string ⟨#[]⟩,.int .i64 0,.bool false,.string ⟨#[]⟩,.int .i64 0,va,vb] = xCells { op:=o,name:=jg,index:=jg,n:=0 } va vb:=by
 unfold xCells
 simp only
 rw [h,kj4]; rfl
theorem dig_cells (n : Int) : #[Value.int .i64 3,.int .i64 n,.string ⟨#[]⟩,.int .i64 0,.bool false,.string ⟨#[]⟩,.int .i64 0,.pointer none,.pointer none] = xCells { op:=kDigit,name:=jg,index:=jg,n:=n } (.pointer none) (.pointer none):=by
 unfold xCells
 simp only
 rw [show kDigit.toList = [100,105,103,105,116] from zu _,kj4]; rfl
def EPost (P : Nat) (v : Value) (L : List Tok) (w : World) (r : PX × RS) (e : Ending) (w' : World) : Prop:=
 ∃ p t,e = .returned (.pointer p)∧XIs w.heap.size w' t (.pointer p)∧(r.2.bad = false→t = r.1)∧Pd w' P v L r.2∧Kept P w w'
theorem peek_pd (w : World) (P : Nat) (v : Value) (L : List Tok) (st : RS) (h : Pd w P v L st) :
  Calls Tryz.prog 152 #[.pointer (some ⟨P,0,none⟩)] w fun e w'=>∃ t,e = .returned (ptV t)∧kqi t.text 0 = yh L [100,105,103,105,116] st∧(kj5 t.text 0 && !resB t.text) = yh L [110,97,109,101] st∧Below w.heap.size w w':=by
 obtain ⟨r,h1,h2⟩:=h
 exact (peek_any w P v L r h1).mono fun e w' ⟨a,b⟩=>⟨_,a,h2.digit h1.ok,h2.name h1.ok,b⟩
def kj6 (f : Nat) (L : List Tok) (st : RS) : PX × RS:=
 if st.bad then (emptyX,st)
 else if zq L [40] st then ((rX f 0 .nil L (qp L [40] st)).1,qp L [41] (rX f 0 .nil L (qp L [40] st)).2)
 else if isConst (tk L st.at_) then (opX (tk L st.at_).text .nil .nil,{ st with at_:=st.at_ + 1 })
 else if isDig (tk L st.at_) then (digX (yu (tk L st.at_).text),{ st with at_:=st.at_ + 1 })
 else pq L st
theorem rX_bare (f n : Nat) (x : PX) (L : List Tok) (st : RS) (h : zq L [33] st = false) : rX (f + 1) (20 + n) x L st = kj6 f L st:=by
 rw [rX_atom]
 unfold kj6
 rw [h]
 simp only [Bool.false_eq_true,if_false]
theorem rPlace_badEq {L : List Tok} {st : RS} (h : st.bad = true) : (pq L st).2 = st:=by
 unfold pq
 simp only
 have h1:=kq8 (L:=L) (s:=[110,97,109,101]) h
 have h2 : (qh L [110,97,109,101] st).2.bad = true:=by rw [h1]; exact h
 rw [je h2]
 exact h1
theorem plT_state (L : List Tok) (st : RS) : (plT L st).2.2.2 = (pq L st).2:=by
 unfold plT pq plNext sqT
 simp only
 split <;> rfl
theorem place_cells (L : List Tok) (st : RS) (hL : pz L) (hlt : st.at_ < L.length) : ∃ x : ELab,#[Value.int .i64 4,.int .i64 0,.string (plT L st).1.text,.int .i64 (plT L st).1.at_,.bool (plT L st).2.1,.string (plT L st).2.2.1.text,.int .i64 (plT L st).2.2.1.at_,.pointer none,.pointer none] = xCells x (.pointer none) (.pointer none) ∧
  ((pq L st).2.bad = false→.node 0 0 x .nil .nil = (pq L st).1):=by
 have hpl : sPlace.toList = [112,108,97,99,101]:=zu _
 unfold plT pq plNext sqT
 simp only
 cases hn : zq L [91] (qh L [110,97,109,101] st).2
 ·refine ⟨{ op:=sPlace,name:=(qh L [110,97,109,101] st).1,index:=jg,n:=0 },?_,fun _=>rfl⟩
  unfold xCells
  simp only [Bool.false_eq_true,if_false]
  rw [hpl,kj4]; rfl
 ·simp only [if_true]
  cases hb : (qp L [93] (qh L [110,97,109,101] (qp L [91] (qh L [110,97,109,101] st).2)).2).bad
  ·refine ⟨{ op:=sPlace,name:=(qh L [110,97,109,101] st).1,index:=(qh L [110,97,109,101] (qp L [91] (qh L [110,97,109,101] st).2)).1,n:=0 },?_,fun _=>rfl⟩
   have hk:=kq9 hb
   have hkind : ((qh L [110,97,109,101] (qp L [91] (qh L [110,97,109,101] st).2)).1.kind.toList == []) = false:=by
    generalize qp L [91] (qh L [110,97,109,101] st).2 = s at *
    unfold qh at hk ⊢
    cases ho : yh L [110,97,109,101] s
    ·rw [ho] at hk; simp at hk
    ·simp only [if_true]
     unfold yh at ho
     simp only [Bool.and_eq_true] at ho
     have:=ho.2
     rw [beq_iff_eq] at this
     rw [this]; rfl
   unfold xCells
   simp only
   rw [hpl,hkind]; rfl
  ·refine ⟨{ op:=sPlace,name:=(qh L [110,97,109,101] st).1,index:={ kind:=kName,text:=(qh L [110,97,109,101] (qp L [91] (qh L [110,97,109,101] st).2)).1.text,at_:=(qh L [110,97,109,101] (qp L [91] (qh L [110,97,109,101] st).2)).1.at_ },n:=0 },?_,fun h=>by cases h⟩
   unfold xCells
   simp only
   rw [hpl,show kName.toList = [110,97,109,101] from zu _]; rfl
theorem uo {L : List Tok} {st : RS} {l : List UInt8} (h : zq L l st = true) : (tk L st.at_).text.toList = l∧st.bad = false:=by
 unfold zq nextB at h
 simp only [Bool.and_eq_true,Bool.not_eq_true'] at h
 have:=h.2
 rw [beq_iff_eq] at this
 exact ⟨this,h.1.1⟩
theorem TokOk.wordOf {t : Tok} (h : TokOk t) {l : List UInt8} (hl : l ∈ lits) (ht : t.text.toList = l) (hw : kj5 t.text 0 = true) : (t.kind.toList == [119,111,114,100]) = true:=by
 have h1:=h.lit l hl
 have h2:=h.word
 rw [ht,hw] at *
 have e : (l == l) = true:=by simp
 rw [e,Bool.and_true] at h1
 unfold signK at h1
 cases hk : (t.kind.toList == [119,111,114,100])
 ·rw [hk] at h1 h2
  simp at h1 h2
  rw [h1] at h2
  simp at h2
 ·rfl
theorem letB_head {b : ByteArray} {c : UInt8} {r : List UInt8} (h : b.toList = c :: r) : kj5 b 0 = (decide (97≤(c.toNat : Int)) && decide ((c.toNat : Int)≤122)):=by
 have hp : 0 < b.size:=toList_full (by rw [h]; rfl)
 obtain ⟨c',r',e,e2⟩:=inB_head 97 122 b hp
 rw [h] at e
 injection e with e1 _
 subst e1
 exact e2
theorem const_iff {L : List Tok} {st : RS} (hL : pz L) (hlt : st.at_ < L.length) (hb : st.bad = false) : isConst (tk L st.at_) = (zq L [116,114,117,101] st || zq L [102,97,108,115,101] st || zq L [110,111,110,101] st):=by
 have hok:=hL.ok _ hlt
 have key : ∀ l : List UInt8,l ∈ lits→(∃ c r,l = c :: r∧(decide (97≤(c.toNat : Int)) && decide ((c.toNat : Int)≤122)) = true)→zq L l st = (((tk L st.at_).kind.toList == [119,111,114,100]) && ((tk L st.at_).text.toList == l)):=by
  intro l hl ⟨c,r,e,hc⟩
  unfold zq nextB
  rw [hb]
  cases ht : ((tk L st.at_).text.toList == l)
  ·simp
  ·rw [beq_iff_eq] at ht
   have:=hok.wordOf hl ht (by rw [letB_head (ht.trans e)]; exact hc)
   rw [this]; simp
 rw [key _ (by decide) ⟨_,_,rfl,by decide⟩,key _ (by decide) ⟨_,_,rfl,by decide⟩,key _ (by decide) ⟨_,_,rfl,by decide⟩]
 unfold isConst
 cases ((tk L st.at_).kind.toList == [119,111,114,100]) <;> simp
theorem isDig_iff {L : List Tok} {st : RS} (hb : st.bad = false) : isDig (tk L st.at_) = yh L [100,105,103,105,116] st:=by
 unfold isDig yh; rw [hb]; rfl
def ESaid (n F f : Nat) : Prop:=∀ (w : World) (P : Nat) (v : Value) (L : List Tok) (st : RS),Pd w P v L st→(st.bad = false→8 * (L.length - st.at_) + (7 - n)≤f) →
 Calls Tryz.prog F #[.pointer (some ⟨P,0,none⟩)] w fun e w'=>EPost P v L w (rX f n .nil L st) e w'
theorem dg_field (a b : Int) (w : World) : (Instr.field 109 (.agg #[.int .i64 a,.int .i64 b]) 0).run Tryz.prog w = .ok (.int .i64 a) w:=by kernel_rfl
set_option maxRecDepth 100000 in
set_option maxHeartbeats 4000000 in
theorem bareAtom_any (f : Nat) (w : World) (P : Nat) (v : Value) (L : List Tok) (st : RS) (hE : st.bad = false→ESaid 0 210 f) (h : Pd w P v L st) (hf : st.bad = false→8 * (L.length - st.at_) + 1≤f) :
  Calls Tryz.prog 299 #[.pointer (some ⟨P,0,none⟩)] w fun e w'=>EPost P v L w (kj6 f L st) e w':=by
 have hX:=h.in
 have hL:=h.ok
 have hlt:=h.lt
 go_enter Tryz.func299,Tryz.ntmps299
 go_wp2_with fail
 refine (is_lit [40] (by decide) _ P v L st h).mono ?_
 rintro e w1 ⟨rfl,h1,hk1⟩
 have H1:=hide h1
 have HK1:=hide hk1
 clear h h1 hk1
 cases hp : zq L [40] st
 ·go_wp2_with fail
  refine (bg [116,114,117,101] (by decide) _ P v L st (ku H1)).mono ?_
  rintro e w2 ⟨rfl,h2,hk2⟩
  have HK2:=hide ((ku HK1).trans hk2)
  have hs2:=(ku HK2).size
  clear hk2 H1 HK1
  cases ht : zq L [116,114,117,101] st
  ·rw [kjq ht] at h2
   have H2:=hide h2
   clear h2
   go_wp2_with fail
   refine (bg [102,97,108,115,101] (by decide) _ P v L st (ku H2)).mono ?_
   rintro e w3 ⟨rfl,h3,hk3⟩
   have HK3:=hide ((ku HK2).trans hk3)
   have hs3:=(ku HK3).size
   clear hk3 H2 HK2
   cases hfa : zq L [102,97,108,115,101] st
   ·rw [kjq hfa] at h3
    have H3:=hide h3
    clear h3
    go_wp2_with fail
    refine (bg [110,111,110,101] (by decide) _ P v L st (ku H3)).mono ?_
    rintro e w4 ⟨rfl,h4,hk4⟩
    have HK4:=hide ((ku HK3).trans hk4)
    have hs4:=(ku HK4).size
    clear hk4 H3 HK3
    cases hno : zq L [110,111,110,101] st
    ·rw [kjq hno] at h4
     have H4:=hide h4
     clear h4
     go_wp2_with fail
     refine (peek_pd _ P v L st (ku H4)).mono ?_
     rintro e w5 ⟨t,rfl,hdg,_,hb5⟩
     have HK5:=hide ((ku HK4).trans (.of_below hb5))
     have H5:=hide ((ku H4).below hb5)
     have hs5:=(ku HK5).size
     clear hb5 H4 HK4
     go_wp2_with fail
     refine (tokDigit_any t _).mono ?_
     rintro e w6 ⟨rfl,hb6⟩
     rw [hdg]
     have HK6:=hide ((ku HK5).trans (.of_below hb6))
     have H6:=hide ((ku H5).below hb6)
     have hs6:=(ku HK6).size
     clear hb6 H5 HK5 hdg
     cases hd : yh L [100,105,103,105,116] st
     ·go_wp2_with fail
      refine (pplace_any _ P v L st (ku H6)).mono ?_
      rintro e w7 ⟨rfl,h7,hk7⟩
      rw [plT_state] at h7
      have HR:=hide (show (kj6 f L st).2 = (pq L st).2∧((pq L st).2.bad = false→(kj6 f L st).1 = (pq L st).1) by
       unfold kj6
       cases hb : st.bad
       ·rw [hp,const_iff hL hlt hb,ht,hfa,hno,isDig_iff hb,hd]
        simp
       ·simp [rPlace_badEq hb,hb])
      obtain ⟨x,hx1,hx2⟩:=place_cells L st hL hlt
      have HX1:=hide hx1
      have HX2:=hide hx2
      have HK7:=hide ((ku HK6).trans hk7)
      have hs7:=(ku HK7).size
      have H7:=hide h7
      clear h7 hk7 hx1 hx2 H6 HK6
      generalize plT L st = pt at *
      unfold plV
      go_wp2
      go_ret
      refine ⟨_,.node 0 0 x .nil .nil,rfl,XIs.new rfl rfl hs7 (ku HX1),?_,?_,(ku HK7).alloc _⟩
      ·intro hb
       rw [(ku HR).1] at hb
       rw [(ku HX2) hb,((ku HR).2 hb)]
      ·rw [(ku HR).1]; exact (ku H7).alloc _
     ·have hb : st.bad = false:=by
       unfold yh at hd
       simp only [Bool.and_eq_true,Bool.not_eq_true'] at hd
       exact hd.1
      have HR:=hide (show kj6 f L st = (digX (yu (tk L st.at_).text),{ st with at_:=st.at_ + 1 }) by
       unfold kj6
       rw [hb,hp,const_iff hL hlt hb,ht,hfa,hno,isDig_iff hb,hd]
       simp)
      have HKd:=hide (show qh L [100,105,103,105,116] st = (tk L st.at_,{ st with at_:=st.at_ + 1 }) by unfold qh; rw [hd]; rfl)
      go_wp2_with fail
      refine (digit_lit _ P v L st (ku H6)).mono ?_
      rintro e w7 ⟨rfl,h7,hk7⟩
      rw [ku HKd] at h7 ⊢
      have HK7:=hide ((ku HK6).trans hk7)
      have hs7:=(ku HK7).size
      have H7:=hide h7
      have hfd:=dg_field (yu (tk L st.at_).text) (tk L st.at_).at_
      clear h7 hk7 H6 HK6
      unfold dgV
      go_wp2
      go_ret
      rw [ku HR]
      exact ⟨_,digX (yu (tk L st.at_).text),rfl,XIs.new rfl rfl hs7 (dig_cells _),fun _=>rfl,(ku H7).alloc _,(ku HK7).alloc _⟩
    ·obtain ⟨htx,hb⟩:=uo hno
     have HR:=hide (show kj6 f L st = (opX (tk L st.at_).text .nil .nil,{ st with at_:=st.at_ + 1 }) by
      unfold kj6; rw [hb,hp,const_iff hL hlt hb,ht,hfa,hno]; simp)
     have e4 : pAcc L [110,111,110,101] st = { st with at_:=st.at_ + 1 }:=by unfold pAcc; rw [hno]; rfl
     rw [e4] at h4
     have H4:=hide h4
     clear h4 e4
     go_wp2
     go_ret
     rw [ku HR]
     exact ⟨_,opX (tk L st.at_).text .nil .nil,rfl,XIs.new rfl rfl hs4 (kju (by rw [htx]; rfl)),fun _=>rfl,(ku H4).alloc _,(ku HK4).alloc _⟩
   ·obtain ⟨htx,hb⟩:=uo hfa
    have HR:=hide (show kj6 f L st = (opX (tk L st.at_).text .nil .nil,{ st with at_:=st.at_ + 1 }) by
     unfold kj6; rw [hb,hp,const_iff hL hlt hb,ht,hfa]; simp)
    have e3 : pAcc L [102,97,108,115,101] st = { st with at_:=st.at_ + 1 }:=by unfold pAcc; rw [hfa]; rfl
    rw [e3] at h3
    have H3:=hide h3
    clear h3 e3
    go_wp2
    go_ret
    rw [ku HR]
    exact ⟨_,opX (tk L st.at_).text .nil .nil,rfl,XIs.new rfl rfl hs3 (kju (by rw [htx]; rfl)),fun _=>rfl,(ku H3).alloc _,(ku HK3).alloc _⟩
  ·obtain ⟨htx,hb⟩:=uo ht
   have HR:=hide (show kj6 f L st = (opX (tk L st.at_).text .nil .nil,{ st with at_:=st.at_ + 1 }) by
    unfold kj6; rw [hb,hp,const_iff hL hlt hb,ht]; simp)
   have e2 : pAcc L [116,114,117,101] st = { st with at_:=st.at_ + 1 }:=by unfold pAcc; rw [ht]; rfl
   rw [e2] at h2
   have H2:=hide h2
   clear h2 e2
   go_wp2
   go_ret
   rw [ku HR]
   exact ⟨_,opX (tk L st.at_).text .nil .nil,rfl,XIs.new rfl rfl hs2 (kju (by rw [htx]; rfl)),fun _=>rfl,(ku H2).alloc _,(ku HK2).alloc _⟩
 ·obtain ⟨htx,hb⟩:=uo hp
  have HR:=hide (show kj6 f L st = ((rX f 0 .nil L (qp L [40] st)).1,qp L [41] (rX f 0 .nil L (qp L [40] st)).2) by
   unfold kj6; rw [hb,hp]; rfl)
  go_wp2_with fail
  refine (open_lit [40] (by decide) rfl _ P v L st (ku H1)).mono ?_
  rintro e w2 ⟨rfl,h2,hk2⟩
  have hmono:=zl L [40] st
  have hmo : (qp L [40] st).bad = false→(qp L [40] st).at_ = st.at_ + 1:=rMust_ok
  have HK2:=hide ((ku HK1).trans hk2)
  have hs2:=(ku HK2).size
  have H2:=hide h2
  clear h2 hk2 H1 HK1
  generalize qp L [40] st = s2 at *
  go_wp2_with fail
  refine (hE hb _ P v L s2 (ku H2) (fun h2=>by have:=hmo h2; have:=hf hb; omega)).mono ?_
  rintro e w3 ⟨p,t,rfl,hx3,ht3,h3,hk3⟩
  have HK3:=hide ((ku HK2).trans hk3)
  have hs3:=(ku HK3).size
  have HX3:=hide (hx3.mono hs2)
  have HT3:=hide ht3
  have H3:=hide h3
  clear hx3 ht3 h3 hk3 H2 HK2
  generalize rX f 0 .nil L s2 = r3 at *
  go_wp2_with fail
  refine (shut_lit [41] (by decide) rfl rfl _ P v L _ (ku H3)).mono ?_
  rintro e w4 ⟨rfl,h4,hk4⟩
  have HK4:=hide ((ku HK3).trans hk4)
  have HX4:=hide ((ku HX3).kept hk4 hX)
  have H4:=hide h4
  clear h4 hk4
  go_wp2
  go_ret
  rw [ku HR]
  exact ⟨p,t,rfl,ku HX4,fun hb=>(ku HT3) (kq9 hb),ku H4,ku HK4⟩
def bangs : Nat→PX→PX
 | 0,x=>x
 | n + 1,x=>opX sBang (bangs n x) .nil
theorem bangs_in : ∀ (n : Nat) (x : PX),bangs n (opX sBang x .nil) = bangs (n + 1) x
 | 0,_=>rfl
 | n + 1,x=>by rw [bangs,bangs_in n x]; rfl
theorem rX_bang {f n : Nat} {x : PX} {L : List Tok} {st : RS} (h : zq L [33] st = true) (hn : n≠12) : rX (f + 1) (20 + n) x L st = (opX sBang (rX f (20 + (n + 1)) .nil L (qp L [33] st)).1 .nil,(rX f (20 + (n + 1)) .nil L (qp L [33] st)).2):=by
 rw [rX_atom,h,(uo h).2]
 simp [hn]
theorem rX_bang12 {f : Nat} {x : PX} {L : List Tok} {st : RS} (h : zq L [33] st = true) : rX (f + 1) (20 + 12) x L st = (emptyX,{ st with bad:=true }):=by
 rw [rX_atom,h,(uo h).2]
 simp
def AtLeft (L : List Tok) (fin : PX × RS) (j g : Nat) (s : RS) : Prop:=
 fin = (bangs j (rX g (20 + j) .nil L s).1,(rX g (20 + j) .nil L s).2)∧(s.bad = false→8 * (L.length - s.at_) + 2≤g)
theorem atLeft_more {L : List Tok} {fin : PX × RS} {j g : Nat} {s : RS} (h : AtLeft L fin j g s) (hn : zq L [33] s = true) (hj : j≠12) (hlt : s.at_ < L.length) : AtLeft L fin (j + 1) (g - 1) { s with at_:=s.at_ + 1 }:=by
 obtain ⟨h1,h2⟩:=h
 have hb:=(uo hn).2
 have hg:=h2 hb
 obtain ⟨g,rfl⟩ : ∃ k,g = k + 1:=⟨g - 1,by omega⟩
 rw [rX_bang hn hj] at h1
 have hm : qp L [33] s = { s with at_:=s.at_ + 1 }:=by rw [kqo rfl rfl]; unfold pExp; rw [hn]; rfl
 rw [hm] at h1
 simp only [Nat.add_sub_cancel]
 refine ⟨?_,fun _=>by simp only; omega⟩
 rw [h1,bangs_in]
theorem atLeft_end {L : List Tok} {fin : PX × RS} {j g : Nat} {s : RS} (h : AtLeft L fin j g s) (hn : zq L [33] s = false) : fin.2 = (kj6 (g - 1) L s).2∧((kj6 (g - 1) L s).2.bad = false→fin.1 = bangs j (kj6 (g - 1) L s).1):=by
 obtain ⟨h1,h2⟩:=h
 cases hb : s.bad
 ·have hg:=h2 hb
  obtain ⟨g,rfl⟩ : ∃ k,g = k + 1:=⟨g - 1,by omega⟩
  rw [rX_bare _ _ _ _ _ hn] at h1
  rw [h1]
  exact ⟨rfl,fun _=>rfl⟩
 ·have e : kj6 (g - 1) L s = (emptyX,s):=by unfold kj6; rw [hb]; rfl
  rw [e,h1,kq2 hb]
  exact ⟨rfl,fun hb'=>by simp only at hb'; rw [hb] at hb'; cases hb'⟩
theorem atLeft_12 {L : List Tok} {fin : PX × RS} {g : Nat} {s : RS} (h : AtLeft L fin 12 g s) (hn : zq L [33] s = true) : fin.2 = (kj6 0 L { s with bad:=true }).2∧((kj6 0 L { s with bad:=true }).2.bad = false→fin.1 = bangs 12 (kj6 0 L { s with bad:=true }).1):=by
 obtain ⟨h1,h2⟩:=h
 have hb:=(uo hn).2
 have hg:=h2 hb
 obtain ⟨g,rfl⟩ : ∃ k,g = k + 1:=⟨g - 1,by omega⟩
 rw [rX_bang12 hn] at h1
 have e : kj6 0 L { s with bad:=true } = (emptyX,{ s with bad:=true }):=by unfold kj6; rfl
 rw [e,h1]
 exact ⟨rfl,fun hb'=>by simp at hb'⟩
theorem Pd.step {w : World} {P : Nat} {v : Value} {L : List Tok} {s : RS} (h : Pd w P v L s) (hb : s.bad = false) (hl : s.at_ + 1 < L.length) : w.cell? ⟨P,1,none⟩ = some (.int .i64 s.at_)∧w.frozen? ⟨P,1,none⟩ = false∧Pd (w.setCell ⟨P,1,none⟩ (.int .i64 ((s.at_ : Int) + 1))) P v L { s with at_:=s.at_ + 1 }:=by
 obtain ⟨r,h1,h2⟩:=h
 obtain ⟨c0,c1,c2,c3,c4,f1,_⟩:=prow5 h1.pd
 have hn:=(h2.good hb).2.1
 rw [hn] at c1
 refine ⟨c1,f1,⟨_,?_,h2.step hb hl⟩⟩
 have:=h1.step (by rw [hn]; exact hl)
 rw [hn] at this ⊢
 exact this
set_option maxRecDepth 100000 in
set_option maxHeartbeats 4000000 in
theorem patom_any (f : Nat) (w : World) (P : Nat) (v : Value) (L : List Tok) (st : RS) (hE : st.bad = false→∀ g,g < f→ESaid 0 210 g) (h : Pd w P v L st) (hf : st.bad = false→8 * (L.length - st.at_) + 2≤f) :
  Calls Tryz.prog 296 #[.pointer (some ⟨P,0,none⟩)] w fun e w'=>EPost P v L w (rX f 20 .nil L st) e w':=by
 have hX:=h.in
 have hL:=h.ok
 have hlen:=hL.len
 have H:=hide h
 have HE0:=hide hE
 have HA0:=hide (show AtLeft L (rX f 20 .nil L st) 0 f st from ⟨rfl,hf⟩)
 generalize rX f 20 .nil L st = fin at *
 clear h hE hf
 go_enter Tryz.func296,Tryz.ntmps296
 go_wp2
 go_loopw [3] (fun row wr=>∃ (j g : Nat) (s : RS),j≤12∧row = .int .i64 j∧AtLeft L fin j g s∧(s.bad = false→g≤f∧st.bad = false)∧Pd wr P v L s∧Kept P w wr) (fun row _=>12 - (intOf row).toNat)
 case atStart=>exact ⟨0,f,st,by omega,rfl,ku HA0,fun hb=>⟨Nat.le_refl _,hb⟩,ku H,Kept.refl _ _⟩
 case round=>
  obtain ⟨j,g,s,hj,rfl,hA,hgf,hp,hk⟩:=hrel
  have hlt:=hp.lt
  have HA:=hide hA
  have HP:=hide hp
  have HK:=hide hk
  have HG:=hide hgf
  clear hA hp hk hgf HA0 H
  go_wp2_with fail
  refine (is_lit [33] (by decide) _ P v L s (ku HP)).mono ?_
  rintro e w2 ⟨rfl,h2,hk2⟩
  have HK2:=hide ((ku HK).trans hk2)
  have hs2:=(ku HK2).size
  have H2:=hide h2
  clear h2 hk2 HK HP
  cases hn : zq L [33] s
  ·have HF:=hide (atLeft_end (ku HA) hn)
   have hA2:=(ku HA).2
   go_wp2_with fail
   refine (bareAtom_any (g - 1) _ P v L s (fun hb=>(ku HE0) ((ku HG) hb).2 (g - 1) (by have:=hA2 hb; have:=((ku HG) hb).1; omega)) (ku H2) (fun hb=>by have:=hA2 hb; omega)).mono ?_
   rintro e w5 ⟨p5,t5,rfl,hx5,ht5,h5,hk5⟩
   have HK5:=hide ((ku HK2).trans hk5)
   have hs5:=(ku HK5).size
   have HX5:=hide (hx5.mono hs2)
   have HT5:=hide ht5
   have H5:=hide h5
   clear hx5 ht5 h5 hk5
   generalize kj6 (g - 1) L s = r5 at *
   go_wp2
   go_loopw [4,23] (fun pe ie wr=>∃ (i : Nat) (p : Option Addr),i≤j∧ie = .int .i64 i∧pe = .pointer p∧XIs w.heap.size wr (bangs i t5) (.pointer p)∧Pd wr P v L r5.2∧Kept P w wr) (fun _ ie _=>j - (intOf ie).toNat)
   case atStart=>exact ⟨0,p5,Nat.zero_le _,rfl,rfl,ku HX5,ku H5,ku HK5⟩
   case round=>
    obtain ⟨i,p,hij,rfl,rfl,hx,hp,hk⟩:=hrel
    have HX:=hide hx
    have HP:=hide hp
    have HK:=hide hk
    have hsz:=hk.size
    clear hx hp hk
    by_cases hlt2 : i < j
    ·go_wp2
     go_roundw
     case rel=>exact ⟨i + 1,_,by omega,by go_num,rfl,XIs.new (ku HX) rfl hsz (kju (by rw [show sBang.toList = [33] from zu _]; rfl)),(ku HP).alloc _,(ku HK).alloc _⟩
     case measure=>simp [intOf]; omega
    ·have hij2 : i = j:=by omega
     subst hij2
     go_wp2
     go_ret
     refine ⟨p,_,rfl,ku HX,?_,?_,ku HK⟩
     ·intro hb
      rw [(ku HF).1] at hb
      rw [((ku HF).2 hb),(ku HT5) hb]
     ·rw [(ku HF).1]; exact ku HP
  ·have hns:=mg hL hlt hn
   by_cases h12 : j = 12
   ·subst h12
    have HF:=hide (atLeft_12 (ku HA) hn)
    go_wp2_with fail
    refine (fail_lit _ P v L s (ku H2)).mono ?_
    rintro e w3 ⟨rfl,h3,hk3⟩
    have HK3:=hide ((ku HK2).trans hk3)
    have hs3:=(ku HK3).size
    have H3:=hide h3
    clear h3 hk3 HK2 H2
    go_wp2_with fail
    refine (bareAtom_any 0 _ P v L { s with bad:=true } (fun hb=>by simp at hb) (ku H3) (fun hb=>by simp at hb)).mono ?_
    rintro e w5 ⟨p5,t5,rfl,hx5,ht5,h5,hk5⟩
    have HK5:=hide ((ku HK3).trans hk5)
    have hs5:=(ku HK5).size
    have HX5:=hide (hx5.mono hs3)
    have HT5:=hide ht5
    have H5:=hide h5
    clear hx5 ht5 h5 hk5
    generalize kj6 0 L { s with bad:=true } = r5 at *
    go_wp2
    go_loopw [4,23] (fun pe ie wr=>∃ (i : Nat) (p : Option Addr),i≤12∧ie = .int .i64 i∧pe = .pointer p∧XIs w.heap.size wr (bangs i t5) (.pointer p)∧Pd wr P v L r5.2∧Kept P w wr) (fun _ ie _=>12 - (intOf ie).toNat)
    case atStart=>exact ⟨0,p5,Nat.zero_le _,rfl,rfl,ku HX5,ku H5,ku HK5⟩
    case round=>
     obtain ⟨i,p,hij,rfl,rfl,hx,hp,hk⟩:=hrel
     have HX:=hide hx
     have HP:=hide hp
     have HK:=hide hk
     have hsz:=hk.size
     clear hx hp hk
     by_cases hlt2 : i < 12
     ·go_wp2
      go_roundw
      case rel=>exact ⟨i + 1,_,by omega,by go_num,rfl,XIs.new (ku HX) rfl hsz (kju (by rw [show sBang.toList = [33] from zu _]; rfl)),(ku HP).alloc _,(ku HK).alloc _⟩
      case measure=>simp [intOf]; omega
     ·have hij2 : i = 12:=by omega
      subst hij2
      go_wp2
      go_ret
      refine ⟨p,_,rfl,ku HX,?_,?_,ku HK⟩
      ·intro hb
       rw [(ku HF).1] at hb
       rw [((ku HF).2 hb),(ku HT5) hb]
      ·rw [(ku HF).1]; exact ku HP
   ·have hj12 : j < 12:=by omega
    obtain ⟨c1,f1,hp3⟩:=(ku H2).step hns.1 hns.2
    have HP3:=hide hp3
    have HR:=hide (atLeft_more (ku HA) hn h12 hlt)
    clear hp3
    go_wp2
    go_roundw
    case rel=>exact ⟨j + 1,g - 1,_,by omega,by go_num,ku HR,fun _=>⟨by have:=((ku HG) hns.1).1; omega,((ku HG) hns.1).2⟩,ku HP3,(ku HK2).setR _ _⟩
    case measure=>simp [intOf]; omega
theorem TokOk.noWord {t : Tok} (h : TokOk t) {c : UInt8} {r : List UInt8} (ht : t.text.toList = c :: r) (hc : (decide (97≤(c.toNat : Int)) && decide ((c.toNat : Int)≤122)) = false) : (t.kind.toList == [119,111,114,100]) = false:=by
 have h1:=h.word
 rw [letB_head ht,hc] at h1
 cases hk : (t.kind.toList == [119,111,114,100])
 ·rfl
 ·rw [hk] at h1; simp at h1
theorem next_sign {L : List Tok} {st : RS} (hL : pz L) (hlt : st.at_ < L.length) (hb : st.bad = false) {l : List UInt8} (hl : ∃ c r,l = c :: r∧(decide (97≤(c.toNat : Int)) && decide ((c.toNat : Int)≤122)) = false) : zq L l st = (((tk L st.at_).kind.toList == [115,105,103,110]) && ((tk L st.at_).text.toList == l)):=by
 obtain ⟨c,r,e,hc⟩:=hl
 unfold zq nextB
 rw [hb]
 cases ht : ((tk L st.at_).text.toList == l)
 ·simp
 ·rw [beq_iff_eq] at ht
  rw [(hL.ok _ hlt).noWord (ht.trans e) hc]; simp
theorem beq_swap (a b : List UInt8) : (a == b) = (b == a):=by
 cases h : (a == b)
 ·cases h2 : (b == a)
  ·rfl
  ·rw [beq_iff_eq] at h2; subst h2; simp at h
 ·rw [beq_iff_eq] at h; subst h; simp
theorem bin0 {L : List Tok} {st : RS} (hL : pz L) (hlt : st.at_ < L.length) (hb : st.bad = false) : isBin 0 (tk L st.at_) = zq L [124] st:=by
 rw [next_sign hL hlt hb ⟨_,_,rfl,by decide⟩]
 simp only [isBin,binSigns,List.any_cons,List.any_nil,Bool.or_false]
 rw [zu [124],beq_swap,Bool.and_comm]
theorem bin1 {L : List Tok} {st : RS} (hL : pz L) (hlt : st.at_ < L.length) (hb : st.bad = false) : isBin 1 (tk L st.at_) = zq L [38] st:=by
 rw [next_sign hL hlt hb ⟨_,_,rfl,by decide⟩]
 simp only [isBin,binSigns,List.any_cons,List.any_nil,Bool.or_false]
 rw [zu [38],beq_swap,Bool.and_comm]
theorem bin3 {L : List Tok} {st : RS} (hL : pz L) (hlt : st.at_ < L.length) (hb : st.bad = false) : isBin 3 (tk L st.at_) = (zq L [43] st || zq L [45] st):=by
 rw [next_sign hL hlt hb ⟨_,_,rfl,by decide⟩,next_sign hL hlt hb ⟨_,_,rfl,by decide⟩]
 simp only [isBin,binSigns,List.any_cons,List.any_nil,Bool.or_false]
 rw [zu [43],zu [45],beq_swap [43],beq_swap [45]]
 cases ((tk L st.at_).kind.toList == [115,105,103,110]) <;> simp
theorem bin2 {L : List Tok} {st : RS} (hL : pz L) (hlt : st.at_ < L.length) (hb : st.bad = false) : isBin 2 (tk L st.at_) = (zq L [61,61] st || zq L [33,61] st || zq L [60] st):=by
 rw [next_sign hL hlt hb ⟨_,_,rfl,by decide⟩,next_sign hL hlt hb ⟨_,_,rfl,by decide⟩,next_sign hL hlt hb ⟨_,_,rfl,by decide⟩]
 simp only [isBin,binSigns,List.any_cons,List.any_nil,Bool.or_false]
 rw [zu [61,61],zu [33,61],zu [60],beq_swap [61,61],beq_swap [33,61],beq_swap [60]]
 cases ((tk L st.at_).kind.toList == [115,105,103,110]) <;> simp [Bool.or_assoc]
def TLeft (L : List Tok) (n F : Nat) (fin : PX × RS) (t : PX) (s : RS) : Prop:=
 (s.bad = true∧fin.2 = s)∨(s.bad = false∧∃ g,g < F∧8 * (L.length - s.at_) + 1≤g∧rX g (10 + n) t L s = fin)
theorem tLeft_start {L : List Tok} {n f : Nat} {st : RS} {t : PX} (hn : n < 4) (hf : st.bad = false→8 * (L.length - st.at_) + (7 - n)≤f) (ht : (rX (f - 1) (n + 1) .nil L st).2.bad = false→t = (rX (f - 1) (n + 1) .nil L st).1) :
  TLeft L n f (rX f n .nil L st) t (rX (f - 1) (n + 1) .nil L st).2:=by
 cases hb : st.bad
 ·have:=hf hb
  obtain ⟨f,rfl⟩ : ∃ k,f = k + 1:=⟨f - 1,by omega⟩
  simp only [Nat.add_sub_cancel] at ht ⊢
  have hm:=kje f (n + 1) .nil L st
  rw [rX_level f n .nil L st hn]
  simp only [hb,Bool.false_eq_true,if_false]
  cases hb1 : (rX f (n + 1) .nil L st).2.bad
  ·refine Or.inr ⟨hb1,f,by omega,by omega,?_⟩
   rw [ht hb1]
  ·exact Or.inl ⟨hb1,kq2 hb1 _ _ _⟩
 ·rw [kq2 hb]
  exact Or.inl ⟨hb,kq2 hb _ _ _⟩
theorem tLeft_end {L : List Tok} {n F : Nat} {fin : PX × RS} {t : PX} {s : RS} (hn : n < 4) (h : TLeft L n F fin t s) (hb : s.bad = false→isBin n (tk L s.at_) = false) : fin.2 = s∧(s.bad = false→fin.1 = t):=by
 rcases h with ⟨h1,h2⟩ | ⟨h1,g,_,h2,h3⟩
 ·exact ⟨h2,fun h=>by rw [h1] at h; cases h⟩
 ·obtain ⟨g,rfl⟩ : ∃ k,g = k + 1:=⟨g - 1,by omega⟩
  rw [rX_loop _ _ _ _ _ hn,hb h1,h1] at h3
  simp only [Bool.false_eq_true,if_false] at h3
  rw [← h3]; exact ⟨rfl,fun _=>rfl⟩
theorem kz9 {L : List Tok} {n F : Nat} {fin : PX × RS} {t : PX} {s : RS} (hn : n < 4) (h : TLeft L n F fin t s) (hb : s.bad = false) (hi : isBin n (tk L s.at_) = true) : ∃ g,g + 1 < F∧8 * (L.length - s.at_) + 1≤g + 1 ∧
  (if n = 2 then (opX (tk L s.at_).text t (rX g (n + 1) .nil L { s with at_:=s.at_ + 1 }).1,(rX g (n + 1) .nil L { s with at_:=s.at_ + 1 }).2)
   else rX g (10 + n) (opX (tk L s.at_).text t (rX g (n + 1) .nil L { s with at_:=s.at_ + 1 }).1) L (rX g (n + 1) .nil L { s with at_:=s.at_ + 1 }).2) = fin:=by
 rcases h with ⟨h1,h2⟩ | ⟨h1,g,hg,h2,h3⟩
 ·rw [h1] at hb; cases hb
 ·obtain ⟨g,rfl⟩ : ∃ k,g = k + 1:=⟨g - 1,by omega⟩
  rw [rX_loop _ _ _ _ _ hn,if_neg (by rw [h1]; simp),if_pos hi] at h3
  exact ⟨g,hg,h2,h3⟩
theorem tLeft_more {L : List Tok} {n F g : Nat} {fin : PX × RS} {t t' : PX} {s : RS} {r : PX × RS} {o : ByteArray} (hgF : g + 1 < F) (hg : 8 * (L.length - s.at_) + 1≤g + 1) (hm : s.at_ + 1≤r.2.at_) (hlt : s.at_ < L.length) (h : rX g (10 + n) (opX o t r.1) L r.2 = fin) (ht : r.2.bad = false→t' = r.1) :
  TLeft L n F fin (opX o t t') r.2:=by
 cases hb : r.2.bad
 ·refine Or.inr ⟨hb,g,by omega,by omega,?_⟩
  rw [ht hb]; exact h
 ·refine Or.inl ⟨hb,?_⟩
  rw [← h,kq2 hb]
def EBad (n F : Nat) : Prop:=∀ (g : Nat) (w : World) (P : Nat) (v : Value) (L : List Tok) (st : RS),st.bad = true→Pd w P v L st →
 Calls Tryz.prog F #[.pointer (some ⟨P,0,none⟩)] w fun e w'=>EPost P v L w (rX g n .nil L st) e w'
theorem EPost.state {P : Nat} {v : Value} {L : List Tok} {w w' : World} {r r' : PX × RS} {e : Ending} (h : EPost P v L w r e w') (h2 : r'.2 = r.2) (h1 : r.2.bad = false→r'.1 = r.1) : EPost P v L w r' e w':=by
 obtain ⟨p,t,a,b,c,d,k⟩:=h
 exact ⟨p,t,a,b,fun hb=>by rw [h2] at hb; rw [c hb,h1 hb],by rw [h2]; exact d,k⟩
theorem esub {n F f : Nat} {st0 : RS} (hB : EBad n F) (hS : st0.bad = false→∀ g,g < f→ESaid n F g) (g : Nat) (w : World) (P : Nat) (v : Value) (L : List Tok) (st : RS) (h : Pd w P v L st) (hg : st.bad = false→st0.bad = false∧g < f∧8 * (L.length - st.at_) + (7 - n)≤g) :
  Calls Tryz.prog F #[.pointer (some ⟨P,0,none⟩)] w fun e w'=>EPost P v L w (rX g n .nil L st) e w':=by
 cases hb : st.bad
 ·have:=hg hb
  exact hS this.1 g this.2.1 w P v L st h (fun _=>this.2.2)
 ·exact hB g w P v L st hb h
theorem atom_bad : EBad 4 296:=fun g w P v L st hb h=>by
 have:=patom_any 0 w P v L st (fun h=>by rw [hb] at h; cases h) h (fun h=>by rw [hb] at h; cases h)
 exact this.mono fun e w' he=>he.state (by rw [kq2 hb,kq2 hb]) (fun h=>by rw [kq2 hb,hb] at h; cases h)
theorem atom_said (f : Nat) (hE : ∀ g,g < f→ESaid 0 210 g) : ESaid 4 296 f:=fun w P v L st h hf=>by
 cases hb : st.bad
 ·have:=hf hb
  obtain ⟨f,rfl⟩ : ∃ k,f = k + 1:=⟨f - 1,by omega⟩
  rw [rX_four]
  simp only [hb,Bool.false_eq_true,if_false]
  exact patom_any f w P v L st (fun _ g hg=>hE g (by omega)) h (fun _=>by omega)
 ·exact atom_bad f w P v L st hb h
set_option maxRecDepth 100000 in
set_option maxHeartbeats 4000000 in
theorem psum_any (f : Nat) (w : World) (P : Nat) (v : Value) (L : List Tok) (st : RS) (hB : EBad 4 296) (hS : st.bad = false→∀ g,g < f→ESaid 4 296 g) (h : Pd w P v L st) (hf : st.bad = false→8 * (L.length - st.at_) + (7 - 3)≤f) :
  Calls Tryz.prog 286 #[.pointer (some ⟨P,0,none⟩)] w fun e w'=>EPost P v L w (rX f 3 .nil L st) e w':=by
 have hX:=h.in
 have hL:=h.ok
 have hlen:=hL.len
 have HS:=hide (esub hB hS)
 have HST:=hide (fun (t : PX) ht=>tLeft_start (L:=L) (st:=st) (t:=t) (n:=3) (by omega) hf ht)
 generalize rX f 3 .nil L st = fin at *
 go_enter Tryz.func286,Tryz.ntmps286
 go_wp2_with fail
 refine ((ku HS) (f - 1) _ P v L st h (fun hb=>⟨hb,by have:=hf hb; omega,by have:=hf hb; omega⟩)).mono ?_
 rintro e w1 ⟨p1,t1,rfl,hx1,ht1,h1,hk1⟩
 have hT:=(ku HST) t1 ht1
 have HT:=hide hT
 clear HST
 have hgood : (rX (f - 1) (3 + 1) .nil L st).2.bad = false→st.bad = false:=fun hb=>by
  cases hb0 : st.bad
  ·rfl
  ·rw [kq2 hb0,hb0] at hb; cases hb
 generalize (rX (f - 1) (3 + 1) .nil L st).2 = s1 at *
 have H1:=hide h1
 have HK1:=hide hk1
 have HX1:=hide hx1
 clear hT h1 hk1 hx1 ht1 h hS hB hf
 go_wp2_with fail
 go_loopw [3] (fun le wr=>∃ (p : Option Addr) (t : PX) (s : RS),le = .pointer p∧XIs w.heap.size wr t (.pointer p)∧TLeft L 3 f fin t s∧(s.bad = false→st.bad = false)∧Pd wr P v L s∧Kept P w wr) (fun _ wr=>L.length - nxOf wr P)
 case atStart=>exact ⟨p1,t1,s1,rfl,ku HX1,ku HT,hgood,ku H1,ku HK1⟩
 case round=>
  obtain ⟨p,t,s,rfl,hx,hT,hgd,hp,hk⟩:=hrel
  have hlt:=hp.lt
  have HX:=hide hx
  have HT2:=hide hT
  have HP:=hide hp
  have HK:=hide hk
  have HG:=hide hgd
  have hsz:=hk.size
  clear hx hT hp hk hgd HT H1 HK1 HX1 hgood
  go_wp2_with fail
  refine (bg [43] (by decide) _ P v L s (ku HP)).mono ?_
  rintro e w2 ⟨rfl,ha0,hka0⟩
  have HXa0:=hide ((ku HX).kept hka0 hX)
  have HKa0:=hide ((ku HK).trans hka0)
  have hsa0:=(ku HKa0).size
  clear hka0
  cases hc0 : zq L [43] s
  ·rw [kjq hc0] at ha0
   have HPa0:=hide ha0
   clear ha0
   go_wp2_with fail
   refine (bg [45] (by decide) _ P v L s (ku HPa0)).mono ?_
   rintro e w3 ⟨rfl,ha1,hka1⟩
   have HXa1:=hide ((ku HXa0).kept hka1 hX)
   have HKa1:=hide ((ku HKa0).trans hka1)
   have hsa1:=(ku HKa1).size
   clear hka1
   cases hc1 : zq L [45] s
   ·rw [kjq hc1] at ha1
    have HPa1:=hide ha1
    clear ha1
    obtain ⟨he1,he2⟩:=tLeft_end (by omega) (ku HT2) (fun hb=>by rw [bin3 hL hlt hb,hc0,hc1]; rfl)
    go_wp2
    go_ret
    exact ⟨p,t,rfl,ku HXa1,fun hb=>by rw [he1] at hb; exact (he2 hb).symm,by rw [he1]; exact ku HPa1,ku HKa1⟩
   ·obtain ⟨htx,hb⟩:=uo hc1
    have hns:=mg hL hlt hc1
    have ea : pAcc L [45] s = { s with at_:=s.at_ + 1 }:=by unfold pAcc; rw [hc1]; rfl
    rw [ea] at ha1
    obtain ⟨g,hg1,hg2,hg3⟩:=kz9 (by omega) (ku HT2) hb (by rw [bin3 hL hlt hb,hc0,hc1]; simp)
    rw [if_neg (by omega)] at hg3
    have HG3:=hide hg3
    have HA:=hide ha1
    clear ea ha1 hg3
    go_wp2_with fail
    refine ((ku HS) g _ P v L { s with at_:=s.at_ + 1 } (ku HA) (fun _=>⟨(ku HG) hb,by omega,by simp only; omega⟩)).mono ?_
    rintro e w6 ⟨p6,t6,rfl,hx6,ht6,h6,hk6⟩
    have hm6 : s.at_ + 1≤(rX g (3 + 1) .nil L { s with at_:=s.at_ + 1 }).2.at_:=kje g (3 + 1) .nil L { s with at_:=s.at_ + 1 }
    have HX6:=hide (hx6.mono hsa1)
    have HXo:=hide ((ku HXa1).kept hk6 hX)
    have HK6:=hide ((ku HKa1).trans hk6)
    have hs6:=(ku HK6).size
    have HM:=hide (tLeft_more hg1 hg2 hm6 hlt (ku HG3) ht6)
    have H6:=hide h6
    clear hx6 hk6 ht6 h6 HG3
    generalize rX g (3 + 1) .nil L { s with at_:=s.at_ + 1 } = r6 at *
    have HMS:=hide (kji (ku HP) (ku H6) hns.1 hns.2 (fun _=>hm6))
    go_wp2
    go_roundw
    case rel=>exact ⟨_,_,r6.2,rfl,XIs.new (ku HXo) (ku HX6) hs6 (kju (by rw [htx]; rfl)),ku HM,fun _=>(ku HG) hb,(ku H6).alloc _,(ku HK6).alloc _⟩
    case measure=>have:=ku HMS; exact (by rw [((ku H6).alloc _).nx,← (ku H6).nx]; exact this)
  ·obtain ⟨htx,hb⟩:=uo hc0
   have hns:=mg hL hlt hc0
   have ea : pAcc L [43] s = { s with at_:=s.at_ + 1 }:=by unfold pAcc; rw [hc0]; rfl
   rw [ea] at ha0
   obtain ⟨g,hg1,hg2,hg3⟩:=kz9 (by omega) (ku HT2) hb (by rw [bin3 hL hlt hb,hc0]; simp)
   rw [if_neg (by omega)] at hg3
   have HG3:=hide hg3
   have HA:=hide ha0
   clear ea ha0 hg3
   go_wp2_with fail
   refine ((ku HS) g _ P v L { s with at_:=s.at_ + 1 } (ku HA) (fun _=>⟨(ku HG) hb,by omega,by simp only; omega⟩)).mono ?_
   rintro e w6 ⟨p6,t6,rfl,hx6,ht6,h6,hk6⟩
   have hm6 : s.at_ + 1≤(rX g (3 + 1) .nil L { s with at_:=s.at_ + 1 }).2.at_:=kje g (3 + 1) .nil L { s with at_:=s.at_ + 1 }
   have HX6:=hide (hx6.mono hsa0)
   have HXo:=hide ((ku HXa0).kept hk6 hX)
   have HK6:=hide ((ku HKa0).trans hk6)
   have hs6:=(ku HK6).size
   have HM:=hide (tLeft_more hg1 hg2 hm6 hlt (ku HG3) ht6)
   have H6:=hide h6
   clear hx6 hk6 ht6 h6 HG3
   generalize rX g (3 + 1) .nil L { s with at_:=s.at_ + 1 } = r6 at *
   have HMS:=hide (kji (ku HP) (ku H6) hns.1 hns.2 (fun _=>hm6))
   go_wp2
   go_roundw
   case rel=>exact ⟨_,_,r6.2,rfl,XIs.new (ku HXo) (ku HX6) hs6 (kju (by rw [htx]; rfl)),ku HM,fun _=>(ku HG) hb,(ku H6).alloc _,(ku HK6).alloc _⟩
   case measure=>have:=ku HMS; exact (by rw [((ku H6).alloc _).nx,← (ku H6).nx]; exact this)
set_option maxRecDepth 100000 in
set_option maxHeartbeats 4000000 in
theorem pcomparison_any (f : Nat) (w : World) (P : Nat) (v : Value) (L : List Tok) (st : RS) (hB : EBad 3 286) (hS : st.bad = false→∀ g,g < f→ESaid 3 286 g) (h : Pd w P v L st) (hf : st.bad = false→8 * (L.length - st.at_) + (7 - 2)≤f) :
  Calls Tryz.prog 259 #[.pointer (some ⟨P,0,none⟩)] w fun e w'=>EPost P v L w (rX f 2 .nil L st) e w':=by
 have hX:=h.in
 have hL:=h.ok
 have hlen:=hL.len
 have HS:=hide (esub hB hS)
 have HST:=hide (fun (t : PX) ht=>tLeft_start (L:=L) (st:=st) (t:=t) (n:=2) (by omega) hf ht)
 generalize rX f 2 .nil L st = fin at *
 go_enter Tryz.func259,Tryz.ntmps259
 go_wp2_with fail
 refine ((ku HS) (f - 1) _ P v L st h (fun hb=>⟨hb,by have:=hf hb; omega,by have:=hf hb; omega⟩)).mono ?_
 rintro e w1 ⟨p,t,rfl,hx1,ht1,h1,hk1⟩
 have hT:=(ku HST) t ht1
 have HT2:=hide hT
 clear HST
 have hgood : (rX (f - 1) (2 + 1) .nil L st).2.bad = false→st.bad = false:=fun hb=>by
  cases hb0 : st.bad
  ·rfl
  ·rw [kq2 hb0,hb0] at hb; cases hb
 generalize (rX (f - 1) (2 + 1) .nil L st).2 = s at *
 have HG:=hide hgood
 have HP:=hide h1
 have HK:=hide hk1
 have HX:=hide hx1
 have hlt:=h1.lt
 have hsz:=hk1.size
 clear hT h1 hk1 hx1 ht1 h hS hB hf hgood
 go_wp2_with fail
 refine (bg [61,61] (by decide) _ P v L s (ku HP)).mono ?_
 rintro e w2 ⟨rfl,ha0,hka0⟩
 have HXa0:=hide ((ku HX).kept hka0 hX)
 have HKa0:=hide ((ku HK).trans hka0)
 have hsa0:=(ku HKa0).size
 clear hka0
 cases hc0 : zq L [61,61] s
 ·rw [kjq hc0] at ha0
  have HPa0:=hide ha0
  clear ha0
  go_wp2_with fail
  refine (bg [33,61] (by decide) _ P v L s (ku HPa0)).mono ?_
  rintro e w3 ⟨rfl,ha1,hka1⟩
  have HXa1:=hide ((ku HXa0).kept hka1 hX)
  have HKa1:=hide ((ku HKa0).trans hka1)
  have hsa1:=(ku HKa1).size
  clear hka1
  cases hc1 : zq L [33,61] s
  ·rw [kjq hc1] at ha1
   have HPa1:=hide ha1
   clear ha1
   go_wp2_with fail
   refine (bg [60] (by decide) _ P v L s (ku HPa1)).mono ?_
   rintro e w4 ⟨rfl,ha2,hka2⟩
   have HXa2:=hide ((ku HXa1).kept hka2 hX)
   have HKa2:=hide ((ku HKa1).trans hka2)
   have hsa2:=(ku HKa2).size
   clear hka2
   cases hc2 : zq L [60] s
   ·rw [kjq hc2] at ha2
    have HPa2:=hide ha2
    clear ha2
    obtain ⟨he1,he2⟩:=tLeft_end (by omega) (ku HT2) (fun hb=>by rw [bin2 hL hlt hb,hc0,hc1,hc2]; rfl)
    go_wp2
    go_ret
    exact ⟨p,t,rfl,ku HXa2,fun hb=>by rw [he1] at hb; exact (he2 hb).symm,by rw [he1]; exact ku HPa2,ku HKa2⟩
   ·obtain ⟨htx,hb⟩:=uo hc2
    have ea : pAcc L [60] s = { s with at_:=s.at_ + 1 }:=by unfold pAcc; rw [hc2]; rfl
    rw [ea] at ha2
    obtain ⟨g,hg1,hg2,hg3⟩:=kz9 (by omega) (ku HT2) hb (by rw [bin2 hL hlt hb,hc0,hc1,hc2]; simp)
    rw [if_pos rfl] at hg3
    have HG3:=hide hg3
    have HA:=hide ha2
    clear ea ha2 hg3
    go_wp2_with fail
    refine ((ku HS) g _ P v L { s with at_:=s.at_ + 1 } (ku HA) (fun _=>⟨(ku HG) hb,by omega,by simp only; omega⟩)).mono ?_
    rintro e w6 ⟨p6,t6,rfl,hx6,ht6,h6,hk6⟩
    have HX6:=hide (hx6.mono hsa2)
    have HXo:=hide ((ku HXa2).kept hk6 hX)
    have HK6:=hide ((ku HKa2).trans hk6)
    have hs6:=(ku HK6).size
    have HT6:=hide ht6
    have H6:=hide h6
    clear hx6 hk6 ht6 h6
    generalize rX g (2 + 1) .nil L { s with at_:=s.at_ + 1 } = r6 at *
    go_wp2
    go_ret
    rw [← ku HG3]
    exact ⟨_,opX (tk L s.at_).text t t6,rfl,XIs.new (ku HXo) (ku HX6) hs6 (kju (by rw [htx]; rfl)),fun hb=>by simp only at hb; rw [(ku HT6) hb],(ku H6).alloc _,(ku HK6).alloc _⟩
  ·obtain ⟨htx,hb⟩:=uo hc1
   have ea : pAcc L [33,61] s = { s with at_:=s.at_ + 1 }:=by unfold pAcc; rw [hc1]; rfl
   rw [ea] at ha1
   obtain ⟨g,hg1,hg2,hg3⟩:=kz9 (by omega) (ku HT2) hb (by rw [bin2 hL hlt hb,hc0,hc1]; simp)
   rw [if_pos rfl] at hg3
   have HG3:=hide hg3
   have HA:=hide ha1
   clear ea ha1 hg3
   go_wp2_with fail
   refine ((ku HS) g _ P v L { s with at_:=s.at_ + 1 } (ku HA) (fun _=>⟨(ku HG) hb,by omega,by simp only; omega⟩)).mono ?_
   rintro e w6 ⟨p6,t6,rfl,hx6,ht6,h6,hk6⟩
   have HX6:=hide (hx6.mono hsa1)
   have HXo:=hide ((ku HXa1).kept hk6 hX)
   have HK6:=hide ((ku HKa1).trans hk6)
   have hs6:=(ku HK6).size
   have HT6:=hide ht6
   have H6:=hide h6
   clear hx6 hk6 ht6 h6
   generalize rX g (2 + 1) .nil L { s with at_:=s.at_ + 1 } = r6 at *
   go_wp2
   go_ret
   rw [← ku HG3]
   exact ⟨_,opX (tk L s.at_).text t t6,rfl,XIs.new (ku HXo) (ku HX6) hs6 (kju (by rw [htx]; rfl)),fun hb=>by simp only at hb; rw [(ku HT6) hb],(ku H6).alloc _,(ku HK6).alloc _⟩
 ·obtain ⟨htx,hb⟩:=uo hc0
  have ea : pAcc L [61,61] s = { s with at_:=s.at_ + 1 }:=by unfold pAcc; rw [hc0]; rfl
  rw [ea] at ha0
  obtain ⟨g,hg1,hg2,hg3⟩:=kz9 (by omega) (ku HT2) hb (by rw [bin2 hL hlt hb,hc0]; simp)
  rw [if_pos rfl] at hg3
  have HG3:=hide hg3
  have HA:=hide ha0
  clear ea ha0 hg3
  go_wp2_with fail
  refine ((ku HS) g _ P v L { s with at_:=s.at_ + 1 } (ku HA) (fun _=>⟨(ku HG) hb,by omega,by simp only; omega⟩)).mono ?_
  rintro e w6 ⟨p6,t6,rfl,hx6,ht6,h6,hk6⟩
  have HX6:=hide (hx6.mono hsa0)
  have HXo:=hide ((ku HXa0).kept hk6 hX)
  have HK6:=hide ((ku HKa0).trans hk6)
  have hs6:=(ku HK6).size
  have HT6:=hide ht6
  have H6:=hide h6
  clear hx6 hk6 ht6 h6
  generalize rX g (2 + 1) .nil L { s with at_:=s.at_ + 1 } = r6 at *
  go_wp2
  go_ret
  rw [← ku HG3]
  exact ⟨_,opX (tk L s.at_).text t t6,rfl,XIs.new (ku HXo) (ku HX6) hs6 (kju (by rw [htx]; rfl)),fun hb=>by simp only at hb; rw [(ku HT6) hb],(ku H6).alloc _,(ku HK6).alloc _⟩
set_option maxRecDepth 100000 in
set_option maxHeartbeats 4000000 in
theorem pand_any (f : Nat) (w : World) (P : Nat) (v : Value) (L : List Tok) (st : RS) (hB : EBad 2 259) (hS : st.bad = false→∀ g,g < f→ESaid 2 259 g) (h : Pd w P v L st) (hf : st.bad = false→8 * (L.length - st.at_) + (7 - 1)≤f) :
  Calls Tryz.prog 241 #[.pointer (some ⟨P,0,none⟩)] w fun e w'=>EPost P v L w (rX f 1 .nil L st) e w':=by
 have hX:=h.in
 have hL:=h.ok
 have hlen:=hL.len
 have HS:=hide (esub hB hS)
 have HST:=hide (fun (t : PX) ht=>tLeft_start (L:=L) (st:=st) (t:=t) (n:=1) (by omega) hf ht)
 generalize rX f 1 .nil L st = fin at *
 go_enter Tryz.func241,Tryz.ntmps241
 go_wp2_with fail
 refine ((ku HS) (f - 1) _ P v L st h (fun hb=>⟨hb,by have:=hf hb; omega,by have:=hf hb; omega⟩)).mono ?_
 rintro e w1 ⟨p1,t1,rfl,hx1,ht1,h1,hk1⟩
 have hT:=(ku HST) t1 ht1
 have HT:=hide hT
 clear HST
 have hgood : (rX (f - 1) (1 + 1) .nil L st).2.bad = false→st.bad = false:=fun hb=>by
  cases hb0 : st.bad
  ·rfl
  ·rw [kq2 hb0,hb0] at hb; cases hb
 generalize (rX (f - 1) (1 + 1) .nil L st).2 = s1 at *
 have H1:=hide h1
 have HK1:=hide hk1
 have HX1:=hide hx1
 clear hT h1 hk1 hx1 ht1 h hS hB hf
 go_wp2_with fail
 go_loopw [3] (fun le wr=>∃ (p : Option Addr) (t : PX) (s : RS),le = .pointer p∧XIs w.heap.size wr t (.pointer p)∧TLeft L 1 f fin t s∧(s.bad = false→st.bad = false)∧Pd wr P v L s∧Kept P w wr) (fun _ wr=>L.length - nxOf wr P)
 case atStart=>exact ⟨p1,t1,s1,rfl,ku HX1,ku HT,hgood,ku H1,ku HK1⟩
 case round=>
  obtain ⟨p,t,s,rfl,hx,hT,hgd,hp,hk⟩:=hrel
  have hlt:=hp.lt
  have HX:=hide hx
  have HT2:=hide hT
  have HP:=hide hp
  have HK:=hide hk
  have HG:=hide hgd
  have hsz:=hk.size
  clear hx hT hp hk hgd HT H1 HK1 HX1 hgood
  go_wp2_with fail
  refine (bg [38] (by decide) _ P v L s (ku HP)).mono ?_
  rintro e w2 ⟨rfl,ha0,hka0⟩
  have HXa0:=hide ((ku HX).kept hka0 hX)
  have HKa0:=hide ((ku HK).trans hka0)
  have hsa0:=(ku HKa0).size
  clear hka0
  cases hc0 : zq L [38] s
  ·rw [kjq hc0] at ha0
   have HPa0:=hide ha0
   clear ha0
   obtain ⟨he1,he2⟩:=tLeft_end (by omega) (ku HT2) (fun hb=>by rw [bin1 hL hlt hb,hc0])
   go_wp2
   go_ret
   exact ⟨p,t,rfl,ku HXa0,fun hb=>by rw [he1] at hb; exact (he2 hb).symm,by rw [he1]; exact ku HPa0,ku HKa0⟩
  ·obtain ⟨htx,hb⟩:=uo hc0
   have hns:=mg hL hlt hc0
   have ea : pAcc L [38] s = { s with at_:=s.at_ + 1 }:=by unfold pAcc; rw [hc0]; rfl
   rw [ea] at ha0
   obtain ⟨g,hg1,hg2,hg3⟩:=kz9 (by omega) (ku HT2) hb (by rw [bin1 hL hlt hb,hc0])
   rw [if_neg (by omega)] at hg3
   have HG3:=hide hg3
   have HA:=hide ha0
   clear ea ha0 hg3
   go_wp2_with fail
   refine ((ku HS) g _ P v L { s with at_:=s.at_ + 1 } (ku HA) (fun _=>⟨(ku HG) hb,by omega,by simp only; omega⟩)).mono ?_
   rintro e w6 ⟨p6,t6,rfl,hx6,ht6,h6,hk6⟩
   have hm6 : s.at_ + 1≤(rX g (1 + 1) .nil L { s with at_:=s.at_ + 1 }).2.at_:=kje g (1 + 1) .nil L { s with at_:=s.at_ + 1 }
   have HX6:=hide (hx6.mono hsa0)
   have HXo:=hide ((ku HXa0).kept hk6 hX)
   have HK6:=hide ((ku HKa0).trans hk6)
   have hs6:=(ku HK6).size
   have HM:=hide (tLeft_more hg1 hg2 hm6 hlt (ku HG3) ht6)
   have H6:=hide h6
   clear hx6 hk6 ht6 h6 HG3
   generalize rX g (1 + 1) .nil L { s with at_:=s.at_ + 1 } = r6 at *
   have HMS:=hide (kji (ku HP) (ku H6) hns.1 hns.2 (fun _=>hm6))
   go_wp2
   go_roundw
   case rel=>exact ⟨_,_,r6.2,rfl,XIs.new (ku HXo) (ku HX6) hs6 (kju (by rw [htx]; rfl)),ku HM,fun _=>(ku HG) hb,(ku H6).alloc _,(ku HK6).alloc _⟩
   case measure=>have:=ku HMS; exact (by rw [((ku H6).alloc _).nx,← (ku H6).nx]; exact this)
set_option maxRecDepth 100000 in
set_option maxHeartbeats 4000000 in
theorem pexpr_any (f : Nat) (w : World) (P : Nat) (v : Value) (L : List Tok) (st : RS) (hB : EBad 1 241) (hS : st.bad = false→∀ g,g < f→ESaid 1 241 g) (h : Pd w P v L st) (hf : st.bad = false→8 * (L.length - st.at_) + (7 - 0)≤f) :
  Calls Tryz.prog 210 #[.pointer (some ⟨P,0,none⟩)] w fun e w'=>EPost P v L w (rX f 0 .nil L st) e w':=by
 have hX:=h.in
 have hL:=h.ok
 have hlen:=hL.len
 have HS:=hide (esub hB hS)
 have HST:=hide (fun (t : PX) ht=>tLeft_start (L:=L) (st:=st) (t:=t) (n:=0) (by omega) hf ht)
 generalize rX f 0 .nil L st = fin at *
 go_enter Tryz.func210,Tryz.ntmps210
 go_wp2_with fail
 refine ((ku HS) (f - 1) _ P v L st h (fun hb=>⟨hb,by have:=hf hb; omega,by have:=hf hb; omega⟩)).mono ?_
 rintro e w1 ⟨p1,t1,rfl,hx1,ht1,h1,hk1⟩
 have hT:=(ku HST) t1 ht1
 have HT:=hide hT
 clear HST
 have hgood : (rX (f - 1) (0 + 1) .nil L st).2.bad = false→st.bad = false:=fun hb=>by
  cases hb0 : st.bad
  ·rfl
  ·rw [kq2 hb0,hb0] at hb; cases hb
 generalize (rX (f - 1) (0 + 1) .nil L st).2 = s1 at *
 have H1:=hide h1
 have HK1:=hide hk1
 have HX1:=hide hx1
 clear hT h1 hk1 hx1 ht1 h hS hB hf
 go_wp2_with fail
 go_loopw [3] (fun le wr=>∃ (p : Option Addr) (t : PX) (s : RS),le = .pointer p∧XIs w.heap.size wr t (.pointer p)∧TLeft L 0 f fin t s∧(s.bad = false→st.bad = false)∧Pd wr P v L s∧Kept P w wr) (fun _ wr=>L.length - nxOf wr P)
 case atStart=>exact ⟨p1,t1,s1,rfl,ku HX1,ku HT,hgood,ku H1,ku HK1⟩
 case round=>
  obtain ⟨p,t,s,rfl,hx,hT,hgd,hp,hk⟩:=hrel
  have hlt:=hp.lt
  have HX:=hide hx
  have HT2:=hide hT
  have HP:=hide hp
  have HK:=hide hk
  have HG:=hide hgd
  have hsz:=hk.size
  clear hx hT hp hk hgd HT H1 HK1 HX1 hgood
  go_wp2_with fail
  refine (bg [124] (by decide) _ P v L s (ku HP)).mono ?_
  rintro e w2 ⟨rfl,ha0,hka0⟩
  have HXa0:=hide ((ku HX).kept hka0 hX)
  have HKa0:=hide ((ku HK).trans hka0)
  have hsa0:=(ku HKa0).size
  clear hka0
  cases hc0 : zq L [124] s
  ·rw [kjq hc0] at ha0
   have HPa0:=hide ha0
   clear ha0
   obtain ⟨he1,he2⟩:=tLeft_end (by omega) (ku HT2) (fun hb=>by rw [bin0 hL hlt hb,hc0])
   go_wp2
   go_ret
   exact ⟨p,t,rfl,ku HXa0,fun hb=>by rw [he1] at hb; exact (he2 hb).symm,by rw [he1]; exact ku HPa0,ku HKa0⟩
  ·obtain ⟨htx,hb⟩:=uo hc0
   have hns:=mg hL hlt hc0
   have ea : pAcc L [124] s = { s with at_:=s.at_ + 1 }:=by unfold pAcc; rw [hc0]; rfl
   rw [ea] at ha0
   obtain ⟨g,hg1,hg2,hg3⟩:=kz9 (by omega) (ku HT2) hb (by rw [bin0 hL hlt hb,hc0])
   rw [if_neg (by omega)] at hg3
   have HG3:=hide hg3
   have HA:=hide ha0
   clear ea ha0 hg3
   go_wp2_with fail
   refine ((ku HS) g _ P v L { s with at_:=s.at_ + 1 } (ku HA) (fun _=>⟨(ku HG) hb,by omega,by simp only; omega⟩)).mono ?_
   rintro e w6 ⟨p6,t6,rfl,hx6,ht6,h6,hk6⟩
   have hm6 : s.at_ + 1≤(rX g (0 + 1) .nil L { s with at_:=s.at_ + 1 }).2.at_:=kje g (0 + 1) .nil L { s with at_:=s.at_ + 1 }
   have HX6:=hide (hx6.mono hsa0)
   have HXo:=hide ((ku HXa0).kept hk6 hX)
   have HK6:=hide ((ku HKa0).trans hk6)
   have hs6:=(ku HK6).size
   have HM:=hide (tLeft_more hg1 hg2 hm6 hlt (ku HG3) ht6)
   have H6:=hide h6
   clear hx6 hk6 ht6 h6 HG3
   generalize rX g (0 + 1) .nil L { s with at_:=s.at_ + 1 } = r6 at *
   have HMS:=hide (kji (ku HP) (ku H6) hns.1 hns.2 (fun _=>hm6))
   go_wp2
   go_roundw
   case rel=>exact ⟨_,_,r6.2,rfl,XIs.new (ku HXo) (ku HX6) hs6 (kju (by rw [htx]; rfl)),ku HM,fun _=>(ku HG) hb,(ku H6).alloc _,(ku HK6).alloc _⟩
   case measure=>have:=ku HMS; exact (by rw [((ku H6).alloc _).nx,← (ku H6).nx]; exact this)
theorem sum_bad : EBad 3 286:=fun g w P v L st hb h=>by
 have:=psum_any 0 w P v L st atom_bad (fun h=>by rw [hb] at h; cases h) h (fun h=>by rw [hb] at h; cases h)
 exact this.mono fun e w' he=>he.state (by rw [kq2 hb,kq2 hb]) (fun h=>by rw [kq2 hb,hb] at h; cases h)
theorem comparison_bad : EBad 2 259:=fun g w P v L st hb h=>by
 have:=pcomparison_any 0 w P v L st sum_bad (fun h=>by rw [hb] at h; cases h) h (fun h=>by rw [hb] at h; cases h)
 exact this.mono fun e w' he=>he.state (by rw [kq2 hb,kq2 hb]) (fun h=>by rw [kq2 hb,hb] at h; cases h)
theorem and_bad : EBad 1 241:=fun g w P v L st hb h=>by
 have:=pand_any 0 w P v L st comparison_bad (fun h=>by rw [hb] at h; cases h) h (fun h=>by rw [hb] at h; cases h)
 exact this.mono fun e w' he=>he.state (by rw [kq2 hb,kq2 hb]) (fun h=>by rw [kq2 hb,hb] at h; cases h)
theorem exprs (f : Nat) : ESaid 0 210 f∧ESaid 1 241 f∧ESaid 2 259 f∧ESaid 3 286 f∧ESaid 4 296 f:=by
 induction f using Nat.strongRecOn with
 | ind f ih=>
  have h4:=atom_said f (fun g hg=>(ih g hg).1)
  refine ⟨?_,?_,?_,?_,h4⟩
  ·exact fun w P v L st h hf=>pexpr_any f w P v L st and_bad (fun _ g hg=>(ih g hg).2.1) h hf
  ·exact fun w P v L st h hf=>pand_any f w P v L st comparison_bad (fun _ g hg=>(ih g hg).2.2.1) h hf
  ·exact fun w P v L st h hf=>pcomparison_any f w P v L st sum_bad (fun _ g hg=>(ih g hg).2.2.2.1) h hf
  ·exact fun w P v L st h hf=>psum_any f w P v L st atom_bad (fun _ g hg=>(ih g hg).2.2.2.2) h hf
theorem pexpr_all (w : World) (P : Nat) (v : Value) (L : List Tok) (st : RS) (h : Pd w P v L st) :
  Calls Tryz.prog 210 #[.pointer (some ⟨P,0,none⟩)] w fun e w'=>EPost P v L w (rX (uz L) 0 .nil L st) e w':=
 (exprs (uz L)).1 w P v L st h (fun _=>by unfold uz; omega)
end Go.Proofs.YtpmcnonmkghokaaGreatDoor

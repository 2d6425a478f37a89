import Derived.Test.YtpmcnonmkghokaaGreatDoorT18
import Derived.Test.YtpmcnonmkghokaaGreatDoorT06
import Derived.Test.YtpmcnonmkghokaaGreatDoorT07
set_option linter.unusedVariables false
set_option linter.unusedSimpArgs false
namespace Go.Proofs.YtpmcnonmkghokaaGreatDoor
open Go.RowKit
theorem kj2 {p : Bool} (h : p = true→False) : p = false:=by
 cases p with
 | false=>rfl
 | true=>exact (h rfl).elim
theorem kqm {L : List Tok} {s : List UInt8} {st : RS} (h : (qp L s st).bad = false) : st.bad = false:=kj2 fun e=>by rw [kqe e] at h; cases h
theorem kind_up {L : List Tok} {s : List UInt8} {st : RS} (h : (qh L s st).2.bad = false) : st.bad = false:=kj2 fun e=>by rw [rKind_bad e] at h; cases h
theorem expr_up {L : List Tok} {f tag : Nat} {x : PX} {st : RS} (h : (rX f tag x L st).2.bad = false) : st.bad = false:=kj2 fun e=>by rw [kq2 e,e] at h; cases h
def binOps : List (List UInt8):=[[124],[38],[61,61],[33,61],[60],[43],[45]]
def leafW (x : ELab) : Prop:=
 (x.op.toList = [116,114,117,101]∨x.op.toList = [102,97,108,115,101]∨x.op.toList = [110,111,110,101]) ∨
 (x.op.toList = [100,105,103,105,116]∧0≤x.n∧x.n≤9) ∨
 (x.op.toList = [112,108,97,99,101]∧(x.name.kind.toList == [110,97,109,101]) = true∧(x.index = jg∨(x.index.kind.toList == [110,97,109,101]) = true))
def XWell : PX→Prop
 | .nil=>False
 | .node _ _ x a c=>(leafW x∧a = .nil∧c = .nil)∨(x.op.toList = [33]∧XWell a∧c = .nil)∨(x.op.toList ∈ binOps∧XWell a∧XWell c)
theorem XWell.some {x : PX} (h : XWell x) : isNil x = false:=by
 cases x with
 | nil=>exact h.elim
 | node=>rfl
theorem bin_ops {n : Nat} {t : Tok} (h : isBin n t = true) : t.text.toList ∈ binOps:=by
 unfold isBin at h
 rw [Bool.and_eq_true] at h
 have h1:=h.1
 rw [List.any_eq_true] at h1
 obtain ⟨s,hs,e⟩:=h1
 rw [beq_iff_eq] at e
 rw [← e]
 have this : ∀ l : List UInt8,(⟨l.toArray⟩ : ByteArray).toList = l:=zu
 rcases n with _ | _ | _ | n <;> simp only [binSigns,List.mem_cons,List.not_mem_nil,or_false] at hs
 ·subst hs; rw [show (ByteArray.mk #[124]).toList = [124] from this [124]]; decide
 ·subst hs; rw [show (ByteArray.mk #[38]).toList = [38] from this [38]]; decide
 ·rcases hs with rfl | rfl | rfl
  ·rw [show (ByteArray.mk #[61,61]).toList = [61,61] from this [61,61]]; decide
  ·rw [show (ByteArray.mk #[33,61]).toList = [33,61] from this [33,61]]; decide
  ·rw [show (ByteArray.mk #[60]).toList = [60] from this [60]]; decide
 ·rcases hs with rfl | rfl
  ·rw [show (ByteArray.mk #[43]).toList = [43] from this [43]]; decide
  ·rw [show (ByteArray.mk #[45]).toList = [45] from this [45]]; decide
theorem digit_dig {L : List Tok} (hL : pz L) {i : Nat} (hi : i < L.length) (h : ((tk L i).kind.toList == [100,105,103,105,116]) = true) : DigT (tk L i):=by
 have hd:=(hL.ok i hi).digit
 rw [h] at hd
 unfold kqi inB at hd
 by_cases h0 : 0 < (tk L i).text.size
 ·rw [dif_pos h0,Bool.and_eq_true,decide_eq_true_eq,decide_eq_true_eq] at hd
  exact ⟨h0,hd.1,hd.2⟩
 ·rw [dif_neg h0] at hd; cases hd
theorem dig_bd {t : Tok} (h : DigT t) : 0≤yu t.text∧yu t.text≤9:=by
 obtain ⟨h0,h1,h2⟩:=h
 unfold yu
 rw [dif_pos h0]
 omega
theorem place_well {L : List Tok} {st : RS} (hF : FinT L) (hl : st.at_ < L.length) (h : (pq L st).2.bad = false) : XWell (pq L st).1∧∃ x,(pq L st).1 = .node 0 0 x .nil .nil∧x.op.toList = [112,108,97,99,101]:=by
 have hpl : sPlace.toList = [112,108,97,99,101]:=zu _
 unfold pq at h ⊢
 simp only at h ⊢
 by_cases hn : zq L [91] (qh L [110,97,109,101] st).2 = true
 ·rw [if_pos hn] at h ⊢
  simp only at h ⊢
  have hk2:=kqm h
  have hm:=kind_up hk2
  have hk:=kqm hm
  obtain ⟨a1,a2,a3,a4,a5⟩:=kqv hF hl rfl hk
  obtain ⟨b1,b2,b3⟩:=jf hF a5 hm
  obtain ⟨c1,c2,c3,c4,c5⟩:=kqv hF b3 rfl hk2
  exact ⟨Or.inl ⟨Or.inr (Or.inr ⟨hpl,by rw [a2]; exact a3,Or.inr (by rw [c2]; exact c3)⟩),rfl,rfl⟩,_,rfl,hpl⟩
 ·rw [if_neg hn] at h ⊢
  simp only at h ⊢
  obtain ⟨a1,a2,a3,a4,a5⟩:=kqv hF hl rfl h
  exact ⟨Or.inl ⟨Or.inr (Or.inr ⟨hpl,by rw [a2]; exact a3,Or.inl rfl⟩),rfl,rfl⟩,_,rfl,hpl⟩
theorem rX_well (L : List Tok) (hL : pz L) : ∀ (f tag : Nat) (x : PX) (st : RS),(tag≤4∨(10≤tag∧tag≤13)∨(20≤tag∧tag≤32))→8 * (L.length - st.at_) + ndC tag≤f→st.at_ < L.length →
  (10≤tag→tag < 20→XWell x)→(rX f tag x L st).2.bad = false→XWell (rX f tag x L st).1
 | 0,tag,x,st,ht,hf,hl,hx,h=>by exfalso; unfold ndC at hf; split at hf <;> (try split at hf) <;> omega
 | f + 1,tag,x,st,ht,hf,hl,hx,h=>by
  have hF:=hL.finT
  have ih:=rX_well L hL f
  have inn:=rX_in L hF f
  have hb : st.bad = false:=expr_up h
  have hbf : ¬ st.bad = true:=by rw [hb]; simp
  rw [rX] at h ⊢
  by_cases t4 : tag < 4
  ·rw [if_pos t4,if_neg hbf] at h ⊢
   have nd : ndC tag = 7 - tag:=by unfold ndC; rw [if_pos (by omega)]
   have nd1 : ndC (tag + 1) = 7 - (tag + 1):=by unfold ndC; rw [if_pos (by omega)]
   have h1:=expr_up h
   obtain ⟨a1,a2,a3,a4,l1,a5,a6⟩:=inn (tag + 1) .nil st (Or.inl (by omega)) (by rw [nd1]; omega) hl (fun h1 h2=>by omega) h1
   have le1:=a6.le
   have w1:=ih (tag + 1) .nil st (Or.inl (by omega)) (by rw [nd1]; omega) hl (fun h1 h2=>by omega) h1
   exact ih (10 + tag) _ _ (Or.inr (Or.inl ⟨by omega,by omega⟩)) (by rw [show ndC (10 + tag) = 1 by unfold ndC; rw [if_neg (by omega),if_pos (by omega)]]; omega) a4 (fun _ _=>w1) h
  ·rw [if_neg t4] at h ⊢
   by_cases t10 : tag < 10
   ·rw [if_pos t10,if_neg hbf] at h ⊢
    have t : tag = 4:=by omega
    subst t
    have nd : ndC 4 = 3:=rfl
    exact ih 20 .nil st (Or.inr (Or.inr ⟨by omega,by omega⟩)) (by show _ + 2≤f; omega) hl (fun h1 h2=>by omega) h
   ·rw [if_neg t10] at h ⊢
    by_cases t20 : tag < 20
    ·rw [if_pos t20,if_neg hbf] at h ⊢
     have xw:=hx (by omega) t20
     have nd : ndC tag = 1:=by unfold ndC; rw [if_neg (by omega),if_pos (by omega)]
     by_cases hbin : isBin (tag - 10) (tk L st.at_) = true
     ·rw [if_pos hbin] at h ⊢
      have bo:=bin_ops hbin
      have hsg : st.at_ + 1 < L.length:=hF _ hl (by
       unfold isBin at hbin
       rw [Bool.and_eq_true] at hbin
       have:=hbin.2
       rw [beq_iff_eq] at this
       rw [this]; rfl)
      have nd' : ndC (tag - 9) = 7 - (tag - 9):=by unfold ndC; rw [if_pos (by omega)]
      by_cases t12 : tag = 12
      ·rw [if_pos t12] at h ⊢
       simp only at h ⊢
       have w1:=ih (tag - 9) .nil { st with at_:=st.at_ + 1 } (Or.inl (by omega)) (by rw [nd']; simp only; omega) hsg (fun h1 h2=>by omega) h
       exact Or.inr (Or.inr ⟨bo,xw,w1⟩)
      ·rw [if_neg t12] at h ⊢
       have h1:=expr_up h
       obtain ⟨a1,a2,a3,a4,l1,a5,a6⟩:=inn (tag - 9) .nil { st with at_:=st.at_ + 1 } (Or.inl (by omega)) (by rw [nd']; simp only; omega) hsg (fun h1 h2=>by omega) h1
       have le1:=a6.le
       have w1:=ih (tag - 9) .nil { st with at_:=st.at_ + 1 } (Or.inl (by omega)) (by rw [nd']; simp only; omega) hsg (fun h1 h2=>by omega) h1
       simp only at le1
       exact ih tag _ _ (Or.inr (Or.inl ⟨by omega,by omega⟩)) (by rw [nd]; omega) a4 (fun _ _=>Or.inr (Or.inr ⟨bo,xw,w1⟩)) h
     ·rw [if_neg hbin] at h ⊢
      exact xw
    ·rw [if_neg t20,if_neg hbf] at h ⊢
     have nd : ndC tag = 2:=by unfold ndC; rw [if_neg (by omega),if_neg (by omega)]
     by_cases n33 : zq L [33] st = true
     ·rw [if_pos n33] at h ⊢
      by_cases t32 : tag = 32
      ·rw [if_pos t32] at h; simp at h
      ·rw [if_neg t32] at h ⊢
       simp only at h ⊢
       obtain ⟨m1,m2,m3⟩:=jf hF hl (expr_up h)
       have w1:=ih (tag + 1) .nil (qp L [33] st) (Or.inr (Or.inr ⟨by omega,by omega⟩)) (by rw [show ndC (tag + 1) = 2 by unfold ndC; rw [if_neg (by omega),if_neg (by omega)]]; omega) m3 (fun h1 h2=>by omega) h
       exact Or.inr (Or.inl ⟨zu _,w1,rfl⟩)
     ·rw [if_neg n33] at h ⊢
      by_cases n40 : zq L [40] st = true
      ·rw [if_pos n40] at h ⊢
       simp only at h ⊢
       have h1:=kqm h
       obtain ⟨m1,m2,m3⟩:=jf hF hl (expr_up h1)
       exact ih 0 .nil (qp L [40] st) (Or.inl (by omega)) (by show _ + 7≤f; omega) m3 (fun h1 h2=>by omega) h1
      ·rw [if_neg n40] at h ⊢
       by_cases hc : isConst (tk L st.at_) = true
       ·rw [if_pos hc] at h ⊢
        refine Or.inl ⟨Or.inl ?_,rfl,rfl⟩
        unfold isConst at hc
        rw [Bool.and_eq_true] at hc
        have h1:=hc.2
        simp only [Bool.or_eq_true,beq_iff_eq] at h1
        rcases h1 with (e | e) | e
        ·exact Or.inl e
        ·exact Or.inr (Or.inl e)
        ·exact Or.inr (Or.inr e)
       ·rw [if_neg hc] at h ⊢
        by_cases hd : isDig (tk L st.at_) = true
        ·rw [if_pos hd] at h ⊢
         have hk : kDigit.toList = [100,105,103,105,116]:=zu _
         have hb:=dig_bd (digit_dig hL hl hd)
         exact Or.inl ⟨Or.inr (Or.inl ⟨hk,hb⟩),rfl,rfl⟩
        ·rw [if_neg hd] at h ⊢
         exact (place_well hF hl h).1
theorem expr_well {L : List Tok} (hL : pz L) {st : RS} (hl : st.at_ < L.length) (h : (rX (uz L) 0 .nil L st).2.bad = false) :
  st.bad = false∧XWell (rX (uz L) 0 .nil L st).1∧(rX (uz L) 0 .nil L st).2.at_ < L.length∧jw L st.at_ (rX (uz L) 0 .nil L st).2.at_ (gu (rX (uz L) 0 .nil L st).1):=by
 obtain ⟨a1,a2,a3,a4,a5⟩:=expr_in hL.finT hl h
 exact ⟨a1,rX_well L hL (uz L) 0 .nil st (Or.inl (by omega)) (by show _ + 7≤_; unfold uz; omega) hl (fun h1 _=>by omega) h,a4,a5⟩
def BWell : PB→Prop
 | .nil=>True
 | .node _ _ a .nil n=>(XWell a.place∧∃ x,a.place = .node 0 0 x .nil .nil∧x.op.toList = [112,108,97,99,101])∧XWell a.value∧a.cond = .nil∧BWell n
 | .node _ _ a (.node _ _ _ t e) n=>XWell a.cond∧a.place = .nil∧a.value = .nil∧(BWell t∧blen t≤801)∧(BWell e∧blen e≤801)∧BWell n
theorem BWell.app : ∀ {a b : PB},BWell a→BWell b→BWell (kz6 a b)
 | .nil,b,_,h=>h
 | .node _ _ a .nil n,b,⟨h1,h2,h3,h4⟩,h=>⟨h1,h2,h3,h4.app h⟩
 | .node _ _ a (.node _ _ _ t e) n,b,⟨h1,h2,h3,h4,h5,h6⟩,h=>⟨h1,h2,h3,h4,h5,h6.app h⟩
theorem blen_app : ∀ a b : PB,blen (kz6 a b) = blen a + blen b
 | .nil,b=>by simp [kz6,blen]
 | .node _ _ a s n,b=>by simp only [kz6,blen,blen_app n b]; omega
theorem inside_app : ∀ a b : PB,cu (kz6 a b) = cu a ++ cu b
 | .nil,b=>rfl
 | .node _ _ a .nil n,b=>by simp only [kz6,cu,inside_app n b,List.append_assoc]
 | .node _ _ a (.node _ _ _ t e) n,b=>by simp only [kz6,cu,inside_app n b,List.append_assoc]
structure SIn (L : List Tok) (s : RS) (r : PB × RS) : Prop where
 good : s.bad = false
 well : BWell r.1
 lt : r.2.at_ < L.length
 nms : jw L s.at_ r.2.at_ (cu r.1)
 len : s.at_ + blen r.1≤r.2.at_
theorem do_in {L : List Tok} (hL : pz L) {blk : RS→PB × RS} (hup : ∀ s,(blk s).2.bad = false→s.bad = false) (hblk : ∀ s,s.at_ < L.length→(blk s).2.bad = false→SIn L s (blk s)) {st : RS} (hl : st.at_ < L.length) (h : (rDo blk L st).2.bad = false) :
  SIn L st (rDo blk L st)∧blen (rDo blk L st).1 = 1:=by
 have hF:=hL.finT
 have hlen:=hL.len
 unfold rDo at h ⊢
 by_cases hi : zq L [105,102] st = true
 ·rw [if_pos hi] at h ⊢
  have common : (blk (rX (uz L) 0 .nil L (qp L [105,102] st)).2).2.bad = false→st.bad = false∧(qp L [105,102] st).at_ = st.at_ + 1∧XWell (rX (uz L) 0 .nil L (qp L [105,102] st)).1 ∧
    jw L (qp L [105,102] st).at_ (rX (uz L) 0 .nil L (qp L [105,102] st)).2.at_ (gu (rX (uz L) 0 .nil L (qp L [105,102] st)).1)∧SIn L (rX (uz L) 0 .nil L (qp L [105,102] st)).2 (blk (rX (uz L) 0 .nil L (qp L [105,102] st)).2):=by
   intro hb
   have hx:=hup _ hb
   obtain ⟨m1,m2,m3⟩:=jf hF hl (expr_up hx)
   obtain ⟨x1,x2,x3,x4⟩:=expr_well hL m3 hx
   exact ⟨m1,m2,x2,x4,hblk _ x3 hb⟩
  by_cases he : zq L [101,108,115,101] (blk (rX (uz L) 0 .nil L (qp L [105,102] st)).2).2 = true
  ·rw [if_pos he] at h ⊢
   simp only at h ⊢
   have hm:=hup _ h
   obtain ⟨g,m2,xw,xn,b1⟩:=common (kqm hm)
   obtain ⟨e1,e2,e3⟩:=jf hF b1.lt hm
   have b2:=hblk _ e3 h
   have lx:=xn.le
   have l1:=b1.len
   have l2:=b2.len
   have z2:=b2.lt
   refine ⟨⟨g,⟨xw,rfl,rfl,⟨b1.well,by omega⟩,⟨b2.well,by omega⟩,trivial⟩,b2.lt,?_,?_⟩,rfl⟩
   ·show jw L st.at_ _ (((labNames ⟨.nil,.nil,_⟩ ++ cu _) ++ cu _) ++ cu .nil)
    rw [show cu (Go.Deep.BT.nil : PB) = [] from rfl,List.append_nil]
    exact (b2.nms.low (by omega)).app (b1.nms.app (xn.low (by omega)))
   ·show st.at_ + 1≤_
    dsimp only
    omega
  ·rw [if_neg he] at h ⊢
   simp only at h ⊢
   obtain ⟨g,m2,xw,xn,b1⟩:=common h
   have lx:=xn.le
   have l1:=b1.len
   have z1:=b1.lt
   refine ⟨⟨g,⟨xw,rfl,rfl,⟨b1.well,by omega⟩,⟨trivial,by simp [blen]⟩,trivial⟩,b1.lt,?_,?_⟩,rfl⟩
   ·show jw L st.at_ _ (((labNames ⟨.nil,.nil,_⟩ ++ cu _) ++ cu .nil) ++ cu .nil)
    rw [show cu (Go.Deep.BT.nil : PB) = [] from rfl,List.append_nil,List.append_nil]
    exact b1.nms.app (xn.low (by omega))
   ·show st.at_ + 1≤_
    dsimp only
    omega
 ·rw [if_neg hi] at h ⊢
  simp only at h ⊢
  have hx:=kqm h
  have hm:=expr_up hx
  have hp:=kqm hm
  obtain ⟨p1,p2,p3,p4,p5⟩:=place_in hF hl hp
  obtain ⟨pw,px⟩:=place_well hF hl hp
  obtain ⟨m1,m2,m3⟩:=jf hF p4 hm
  obtain ⟨x1,x2,x3,x4⟩:=expr_well hL m3 hx
  obtain ⟨e1,e2,e3⟩:=jf hF x3 h
  have lp:=p5.le
  have lx:=x4.le
  refine ⟨⟨p1,⟨⟨pw,px⟩,x2,rfl,trivial⟩,e3,?_,?_⟩,rfl⟩
  ·show jw L st.at_ _ (labNames ⟨_,_,.nil⟩ ++ cu .nil)
   rw [show cu (Go.Deep.BT.nil : PB) = [] from rfl,List.append_nil]
   show jw L st.at_ _ ((gu _ ++ gu _) ++ gu .nil)
   rw [show gu (Go.Deep.BT.nil : PX) = [] from rfl,List.append_nil]
   exact ((x4.low (by omega)).app p5).high (by dsimp only; omega)
  ·show st.at_ + 1≤_
   dsimp only
   omega
theorem stmts_up {L : List Tok} {f tag : Nat} {st : RS} (h : (rS f tag L st).2.bad = false) : st.bad = false:=kj2 fun e=>by rw [rS_bad e] at h; cases h
theorem rS_in {L : List Tok} (hL : pz L) : ∀ (f tag : Nat) (st : RS),st.at_ < L.length→(rS f tag L st).2.bad = false→SIn L st (rS f tag L st)
 | 0,tag,st,hl,h=>⟨h,trivial,hl,Nat.le_refl _,by simp [rS,blen]⟩
 | f + 1,0,st,hl,h=>by
  have hF:=hL.finT
  rw [rS] at h ⊢
  simp only at h ⊢
  have hb:=kqm h
  obtain ⟨m1,m2,m3⟩:=jf hF hl (stmts_up hb)
  have ih:=rS_in hL f 1 _ m3 hb
  obtain ⟨e1,e2,e3⟩:=jf hF ih.lt h
  have l1:=ih.len
  exact ⟨m1,ih.well,e3,(ih.nms.low (by omega)).high (by show _≤(qp L [125] _).at_; omega),by show _≤(qp L [125] _).at_; simp only; omega⟩
 | f + 1,t + 1,st,hl,h=>by
  have hF:=hL.finT
  rw [rS] at h ⊢
  by_cases hc : (zq L [125] st || st.bad) = true
  ·rw [if_pos hc] at h ⊢
   exact ⟨h,trivial,hl,Nat.le_refl _,by simp [blen]⟩
  ·rw [if_neg hc] at h ⊢
   simp only at h ⊢
   obtain ⟨d1,d2⟩ : SIn L st (rDo (rS f 0 L) L st)∧blen (rDo (rS f 0 L) L st).1 = 1:=do_in hL (fun s=>stmts_up) (fun s hs hb=>rS_in hL f 0 s hs hb) hl (stmts_up h)
   have ih:=rS_in hL f 1 _ d1.lt h
   have l1:=d1.len
   have l2:=ih.len
   exact ⟨d1.good,d1.well.app ih.well,ih.lt,by rw [inside_app]; exact ih.nms.app d1.nms,by rw [blen_app]; dsimp only; omega⟩
def parAll (p : PP) : List Tok:=[p.name,p.set_]
theorem one_in {L : List Tok} {i b : Nat} (hl : i < L.length) (hk : ((tk L i).kind.toList == [110,97,109,101]) = true) (hb : i + 1≤b) : jw L i b [tk L i]:=⟨i,Nat.le_refl _,hl,rfl,hk,hb⟩
theorem pp_in {L : List Tok} (hF : FinT L) {st : RS} (hl : st.at_ < L.length) (h : (rPP L st).2.bad = false) : st.bad = false∧(rPP L st).2.at_ < L.length∧jw L st.at_ (rPP L st).2.at_ (parAll (rPP L st).1):=by
 unfold rPP at h ⊢
 simp only at h ⊢
 have hm:=kind_up h
 have hk:=kqm hm
 obtain ⟨a1,a2,a3,a4,a5⟩:=kqv hF hl rfl hk
 obtain ⟨b1,b2,b3⟩:=jf hF a5 hm
 obtain ⟨c1,c2,c3,c4,c5⟩:=kqv hF b3 rfl h
 refine ⟨a1,c5,?_⟩
 unfold parAll
 simp only
 rw [a2,c2]
 exact ⟨_,Nat.le_refl _,hl,rfl,a3,_,by omega,b3,rfl,c3,by show _≤_; omega⟩
theorem par_in {L : List Tok} (hF : FinT L) : ∀ (f : Nat) (l : List PP) (st : RS),st.at_ < L.length→(rPar f L l st).2.bad = false→st.bad = false∧(rPar f L l st).2.at_ < L.length∧∃ l',(rPar f L l st).1 = l ++ l'∧jw L st.at_ (rPar f L l st).2.at_ (l'.flatMap parAll)
 | 0,l,st,hl,h=>⟨h,hl,[],by simp [rPar],Nat.le_refl _⟩
 | f + 1,l,st,hl,h=>by
  rw [rPar] at h ⊢
  by_cases hb : st.bad = true
  ·rw [if_pos hb] at h; rw [hb] at h; cases h
  ·rw [if_neg hb] at h ⊢
   by_cases hn : zq L [44] (rPP L st).2 = true
   ·rw [if_pos hn] at h ⊢
    have hm : (qp L [44] (rPP L st).2).bad = false:=kj2 fun e=>by rw [rPar_bad e,e] at h; cases h
    obtain ⟨p1,p2,p3⟩:=pp_in hF hl (kqm hm)
    obtain ⟨m1,m2,m3⟩:=jf hF p2 hm
    obtain ⟨i1,i2,l',i3,i4⟩:=par_in hF f _ _ m3 h
    exact ⟨p1,i2,(rPP L st).1 :: l',by rw [i3,List.append_assoc]; rfl,(i4.low (by omega)).app p3⟩
   ·rw [if_neg hn] at h ⊢
    simp only at h ⊢
    obtain ⟨p1,p2,p3⟩:=pp_in hF hl h
    exact ⟨p1,p2,[(rPP L st).1],rfl,by simpa using p3⟩
theorem params_in {L : List Tok} (hF : FinT L) {st : RS} (hl : st.at_ < L.length) (h : (kq5 L st).2.bad = false) : st.bad = false∧(kq5 L st).2.at_ < L.length∧jw L st.at_ (kq5 L st).2.at_ ((kq5 L st).1.flatMap parAll):=by
 unfold kq5 at h ⊢
 by_cases hn : zq L [41] (qp L [40] st) = true
 ·rw [if_pos hn] at h ⊢
  simp only at h ⊢
  obtain ⟨m1,m2,m3⟩:=jf hF hl (kqm h)
  obtain ⟨e1,e2,e3⟩:=jf hF m3 h
  exact ⟨m1,e3,by show _≤_; omega⟩
 ·rw [if_neg hn] at h ⊢
  simp only at h ⊢
  have hp:=kqm h
  have hm : (qp L [40] st).bad = false:=kj2 fun e=>by rw [rPar_bad e,e] at hp; cases hp
  obtain ⟨m1,m2,m3⟩:=jf hF hl hm
  obtain ⟨i1,i2,l',i3,i4⟩:=par_in hF _ _ _ m3 hp
  obtain ⟨e1,e2,e3⟩:=jf hF i2 h
  refine ⟨m1,e3,?_⟩
  rw [i3,List.nil_append]
  exact (i4.low (by omega)).high (by omega)
theorem rMem_bad {L : List Tok} {st : RS} (h : st.bad = true) : ∀ (f : Nat) (l : List Tok),(rMem f L l st).2 = st
 | 0,_=>rfl
 | f + 1,l=>by rw [rMem,if_pos h]
theorem mem_in {L : List Tok} (hF : FinT L) : ∀ (f : Nat) (l : List Tok) (st : RS),st.at_ < L.length→(rMem f L l st).2.bad = false→st.bad = false∧(rMem f L l st).2.at_ < L.length∧∃ l',(rMem f L l st).1 = l ++ l'∧jw L st.at_ (rMem f L l st).2.at_ l'
 | 0,l,st,hl,h=>⟨h,hl,[],by simp [rMem],Nat.le_refl _⟩
 | f + 1,l,st,hl,h=>by
  rw [rMem] at h ⊢
  by_cases hb : st.bad = true
  ·rw [if_pos hb] at h; rw [hb] at h; cases h
  ·rw [if_neg hb] at h ⊢
   by_cases hn : (zq L [44] (qh L [110,97,109,101] st).2 || decide (l.length + 1 < 2)) = true
   ·rw [if_pos hn] at h ⊢
    have hm : (qp L [44] (qh L [110,97,109,101] st).2).bad = false:=kj2 fun e=>by
     rw [rMem_bad e,e] at h; cases h
    obtain ⟨a1,a2,a3,a4,a5⟩:=kqv hF hl rfl (kqm hm)
    obtain ⟨m1,m2,m3⟩:=jf hF a5 hm
    obtain ⟨i1,i2,l',i3,i4⟩:=mem_in hF f _ _ m3 h
    refine ⟨a1,i2,(qh L [110,97,109,101] st).1 :: l',by rw [i3,List.append_assoc]; rfl,?_⟩
    exact ⟨st.at_,Nat.le_refl _,hl,a2,by rw [a2]; exact a3,i4.low (by omega)⟩
   ·rw [if_neg hn] at h ⊢
    simp only at h ⊢
    obtain ⟨a1,a2,a3,a4,a5⟩:=kqv hF hl rfl h
    exact ⟨a1,a5,[(qh L [110,97,109,101] st).1],rfl,by rw [a2]; exact one_in hl a3 (by omega)⟩
theorem set_in {L : List Tok} (hL : pz L) (st : RS) (hl : st.at_ < L.length) (h : (kz1 L st).2.bad = false) : st.bad = false∧DigT (kz1 L st).1.size∧(kz1 L st).2.at_ < L.length∧jw L st.at_ (kz1 L st).2.at_ (setN (kz1 L st).1):=by
 have hF:=hL.finT
 unfold kz1 at h ⊢
 simp only at h ⊢
 have hd:=kqm h
 have hk:=kind_up hd
 obtain ⟨m1,m2,m3⟩:=jf hF hl (kind_up hk)
 obtain ⟨a1,a2,a3,a4,a5⟩:=kqv hF m3 rfl hk
 obtain ⟨b1,b2,b3,b4,b5⟩:=kqv hF a5 rfl hd
 obtain ⟨e1,e2,e3⟩:=jf hF b5 h
 refine ⟨m1,by rw [b2]; exact digit_dig hL a5 b3,e3,?_⟩
 unfold setN
 simp only
 rw [a2]
 exact (one_in m3 a3 (by omega)).low (by omega)
theorem kind1_in {L : List Tok} (hL : pz L) (st : RS) (hl : st.at_ < L.length) (h : (kql L st).2.bad = false) : st.bad = false∧True∧(kql L st).2.at_ < L.length∧jw L st.at_ (kql L st).2.at_ (kindN (kql L st).1):=by
 have hF:=hL.finT
 unfold kql rMembers at h ⊢
 simp only at h ⊢
 have hmm:=kqm h
 have hm : (qp L [123] (qh L [110,97,109,101] (qp L [107,105,110,100] st)).2).bad = false:=kj2 fun e=>by rw [rMem_bad e,e] at hmm; cases hmm
 have hk:=kqm hm
 obtain ⟨m1,m2,m3⟩:=jf hF hl (kind_up hk)
 obtain ⟨a1,a2,a3,a4,a5⟩:=kqv hF m3 rfl hk
 obtain ⟨b1,b2,b3⟩:=jf hF a5 hm
 obtain ⟨i1,i2,l',i3,i4⟩:=mem_in hF _ _ _ b3 hmm
 obtain ⟨e1,e2,e3⟩:=jf hF i2 h
 refine ⟨m1,trivial,e3,?_⟩
 unfold kindN
 simp only
 rw [i3,List.nil_append,a2]
 exact ⟨_,by omega,m3,rfl,a3,(i4.low (by omega)).high (by omega)⟩
def overN (t : Tok) : List Tok:=if t.kind.toList == [110,97,109,101] then [t] else []
def varAll (v : PVar) : List Tok:=v.name :: (overN v.over ++ overN v.type_)
def VarOk (v : PVar) : Prop:=(v.over = jg∨(v.over.kind.toList == [110,97,109,101]) = true) ∧
 ((v.type_.kind.toList = [119,111,114,100]∧v.type_.text.toList = [98,111,111,108]∧v.top = jg)∨(v.type_.kind.toList = [119,111,114,100]∧v.type_.text.toList = [116,111]∧DigT v.top∧v.top.kind.toList = [100,105,103,105,116])∨(v.type_.kind.toList = [110,97,109,101]∧v.top = jg))
theorem overN_no : overN jg = []:=by unfold overN; rw [kj4]; rfl
theorem over_in {L : List Tok} (hF : FinT L) {st : RS} (hl : st.at_ < L.length) (h : (kqu L st).2.bad = false) : st.bad = false∧((kqu L st).1 = jg∨((kqu L st).1.kind.toList == [110,97,109,101]) = true)∧(kqu L st).2.at_ < L.length∧jw L st.at_ (kqu L st).2.at_ (overN (kqu L st).1):=by
 unfold kqu at h ⊢
 by_cases hn : zq L [91] st = true
 ·rw [if_pos hn] at h ⊢
  simp only at h ⊢
  have hk:=kqm h
  obtain ⟨m1,m2,m3⟩:=jf hF hl (kind_up hk)
  obtain ⟨a1,a2,a3,a4,a5⟩:=kqv hF m3 rfl hk
  obtain ⟨e1,e2,e3⟩:=jf hF a5 h
  refine ⟨m1,Or.inr (by rw [a2]; exact a3),e3,?_⟩
  unfold overN
  rw [a2,a3,if_pos rfl]
  exact (one_in m3 a3 (by omega)).low (by omega)
 ·rw [if_neg hn] at h ⊢
  exact ⟨h,Or.inl rfl,hl,by rw [overN_no]; exact Nat.le_refl _⟩
theorem top_in {L : List Tok} (hL : pz L) {st : RS} (hl : st.at_ < L.length) (h : (rTop L st).2.bad = false) : st.bad = false∧(rTop L st).2.at_ < L.length ∧
  (((tk L st.at_).kind.toList = [119,111,114,100]∧(tk L st.at_).text.toList = [98,111,111,108]∧(rTop L st).1 = jg)∨((tk L st.at_).kind.toList = [119,111,114,100]∧(tk L st.at_).text.toList = [116,111]∧DigT (rTop L st).1∧(rTop L st).1.kind.toList = [100,105,103,105,116])∨((tk L st.at_).kind.toList = [110,97,109,101]∧(rTop L st).1 = jg)) ∧
  jw L st.at_ (rTop L st).2.at_ (overN (tk L st.at_)):=by
 have hF:=hL.finT
 have wordy : ∀ l : List UInt8,l ∈ lits→(∃ c r,l = c :: r∧(decide (97≤(c.toNat : Int)) && decide ((c.toNat : Int)≤122)) = true)→zq L l st = true→(tk L st.at_).kind.toList = [119,111,114,100]∧(tk L st.at_).text.toList = l∧overN (tk L st.at_) = []:=fun l hm hw hn=>by
  have k:=next_word hL hl hm hw hn
  rw [beq_iff_eq] at k
  exact ⟨k,(uo hn).1,by unfold overN; rw [k]; rfl⟩
 unfold rTop at h ⊢
 by_cases hb : zq L [98,111,111,108] st = true
 ·rw [if_pos hb] at h ⊢
  simp only at h ⊢
  obtain ⟨m1,m2,m3⟩:=jf hF hl h
  obtain ⟨k1,k2,k3⟩:=wordy _ (by decide) ⟨98,[111,111,108],rfl,by decide⟩ hb
  exact ⟨m1,m3,Or.inl ⟨k1,k2,by first | rfl | trivial⟩,by rw [k3]; show _≤_; omega⟩
 ·rw [if_neg hb] at h ⊢
  by_cases ht : zq L [116,111] st = true
  ·rw [if_pos ht] at h ⊢
   obtain ⟨m1,m2,m3⟩:=jf hF hl (kind_up h)
   obtain ⟨a1,a2,a3,a4,a5⟩:=kqv hF m3 rfl h
   obtain ⟨k1,k2,k3⟩:=wordy _ (by decide) ⟨116,[111],rfl,by decide⟩ ht
   refine ⟨m1,a5,Or.inr (Or.inl ⟨k1,k2,by rw [a2]; exact digit_dig hL m3 a3,by rw [a2]; rw [beq_iff_eq] at a3; exact a3⟩),by rw [k3]; show _≤_; omega⟩
  ·rw [if_neg ht] at h ⊢
   simp only at h ⊢
   obtain ⟨a1,a2,a3,a4,a5⟩:=kqv hF hl rfl h
   refine ⟨a1,a5,Or.inr (Or.inr ⟨by rw [beq_iff_eq] at a3; exact a3,by first | rfl | trivial⟩),?_⟩
   unfold overN
   rw [a3,if_pos rfl]
   exact one_in hl a3 (by omega)
theorem over_up {L : List Tok} {st : RS} (h : (kqu L st).2.bad = false) : st.bad = false:=kj2 fun e=>by rw [rOver_bad e] at h; cases h
theorem top_up {L : List Tok} {st : RS} (h : (rTop L st).2.bad = false) : st.bad = false:=kj2 fun e=>by rw [rTop_bad e] at h; cases h
theorem var_in {L : List Tok} (hL : pz L) (st : RS) (hl : st.at_ < L.length) (h : (rVar L st).2.bad = false) : st.bad = false∧VarOk (rVar L st).1∧(rVar L st).2.at_ < L.length∧jw L st.at_ (rVar L st).2.at_ (varAll (rVar L st).1):=by
 have hF:=hL.finT
 unfold rVar at h ⊢
 simp only at h ⊢
 have ht:=kqm h
 have ho:=top_up ht
 have hm:=over_up ho
 have hk:=kqm hm
 obtain ⟨m1,m2,m3⟩:=jf hF hl (kind_up hk)
 obtain ⟨a1,a2,a3,a4,a5⟩:=kqv hF m3 rfl hk
 obtain ⟨b1,b2,b3⟩:=jf hF a5 hm
 obtain ⟨o1,o2,o3,o4⟩:=over_in hF b3 ho
 obtain ⟨t1,t2,t3,t4⟩:=top_in hL o3 ht
 obtain ⟨e1,e2,e3⟩:=jf hF t2 h
 refine ⟨m1,⟨o2,t3⟩,e3,?_⟩
 unfold varAll
 simp only
 rw [a2]
 exact ⟨_,by omega,m3,rfl,a3,((t4.app (o4.low (by omega))).high (by omega))⟩
def kq7 (r : PRule) : List Tok:=r.name :: (r.params.flatMap parAll ++ (gu r.guard ++ cu r.body))
def RuleOk (r : PRule) : Prop:=XWell r.guard∧BWell r.body∧blen r.body≤801
theorem params_up {L : List Tok} {st : RS} (h : (kq5 L st).2.bad = false) : st.bad = false:=kj2 fun e=>by rw [rParams_bad e] at h; cases h
theorem rule_in {L : List Tok} (hL : pz L) (st : RS) (hl : st.at_ < L.length) (h : (kqx L st).2.bad = false) : st.bad = false∧RuleOk (kqx L st).1∧(kqx L st).2.at_ < L.length∧jw L st.at_ (kqx L st).2.at_ (kq7 (kqx L st).1):=by
 have hF:=hL.finT
 have hlen:=hL.len
 unfold kqx at h ⊢
 simp only at h ⊢
 have hg : (ruleG L st).2.bad = false:=stmts_up h
 have hm : (qp L [105,102] (ruleP L st).2).bad = false:=expr_up hg
 have hp : (ruleP L st).2.bad = false:=kqm hm
 have hk : (ruleK L st).2.bad = false:=params_up hp
 obtain ⟨m1,m2,m3⟩:=jf hF hl (kind_up hk)
 obtain ⟨a1,a2,a3,a4,a5⟩:=kqv hF m3 rfl hk
 obtain ⟨p1,p2,p3⟩:=params_in hF a5 hp
 obtain ⟨b1,b2,b3⟩:=jf hF p2 hm
 obtain ⟨x1,x2,x3,x4⟩:=expr_well hL b3 hg
 have s:=rS_in hL _ _ _ x3 h
 have l1:=s.len
 have l2:=s.lt
 have hbl : blen (rS (fuelB L) 0 L (ruleG L st).2).1≤801:=by
  have : blen (rS (fuelB L) 0 L (ruleG L st).2).1≤(rS (fuelB L) 0 L (ruleG L st).2).2.at_:=Nat.le_trans (Nat.le_add_left _ _) l1
  have l2' : (rS (fuelB L) 0 L (ruleG L st).2).2.at_ < L.length:=l2
  omega
 refine ⟨m1,⟨x2,s.well,hbl⟩,l2,?_⟩
 unfold kq7
 simp only
 rw [show (ruleK L st).1 = _ from a2]
 refine ⟨_,by omega,m3,rfl,a3,?_⟩
 have c1 : jw L (ruleK L st).2.at_ (ruleP L st).2.at_ ((ruleP L st).1.flatMap parAll):=p3
 have c2 : jw L (qp L [105,102] (ruleP L st).2).at_ (ruleG L st).2.at_ (gu (ruleG L st).1):=x4
 have c3:=s.nms
 have a4' : (ruleK L st).2.at_ = (qp L [114,117,108,101] st).at_ + 1:=a4
 have b2' : (qp L [105,102] (ruleP L st).2).at_ = (ruleP L st).2.at_ + 1:=b2
 exact ((c3.app (c2.low (by omega))).app c1).low (by omega)
theorem never_in {L : List Tok} (hL : pz L) (st : RS) (hl : st.at_ < L.length) (h : (kqc L st).2.bad = false) : st.bad = false∧(RuleOk (kqc L st).1∧(kqc L st).1.body = .nil)∧(kqc L st).2.at_ < L.length∧jw L st.at_ (kqc L st).2.at_ (kq7 (kqc L st).1):=by
 have hF:=hL.finT
 unfold kqc at h ⊢
 simp only at h ⊢
 have hg : (neverG L st).2.bad = false:=kqm h
 have hp : (neverP L st).2.bad = false:=expr_up hg
 have hk : (neverK L st).2.bad = false:=params_up hp
 obtain ⟨m1,m2,m3⟩:=jf hF hl (kind_up hk)
 obtain ⟨a1,a2,a3,a4,a5⟩:=kqv hF m3 rfl hk
 obtain ⟨p1,p2,p3⟩:=params_in hF a5 hp
 obtain ⟨x1,x2,x3,x4⟩:=expr_well hL p2 hg
 obtain ⟨e1,e2,e3⟩:=jf hF x3 h
 refine ⟨m1,⟨⟨x2,trivial,by simp [blen]⟩,by first | rfl | trivial⟩,e3,?_⟩
 unfold kq7
 simp only
 rw [show (neverK L st).1 = _ from a2,show cu (Go.Deep.BT.nil : PB) = [] from rfl,List.append_nil]
 refine ⟨_,by omega,m3,rfl,a3,?_⟩
 have c1 : jw L (neverK L st).2.at_ (neverP L st).2.at_ ((neverP L st).1.flatMap parAll):=p3
 have c2 : jw L (neverP L st).2.at_ (neverG L st).2.at_ (gu (neverG L st).1):=x4
 have a4' : (neverK L st).2.at_ = (qp L [110,101,118,101,114] st).at_ + 1:=a4
 have e2' : (qp L [59] (neverG L st).2).at_ = (neverG L st).2.at_ + 1:=e2
 exact ((c2.app c1).low (by omega)).high (by omega)
theorem loopA_in {α : Type} {L : List Tok} {lit : List UInt8} {one : RS→α × RS} {nm : α→List Tok} {P : α→Prop} (h1 : ∀ s,s.at_ < L.length→(one s).2.bad = false→s.bad = false∧P (one s).1∧(one s).2.at_ < L.length∧jw L s.at_ (one s).2.at_ (nm (one s).1)) :
  ∀ (f : Nat) (l : List α) (s : RS),s.at_ < L.length→(loopA L lit one f l s).2.bad = false→s.bad = false∧(loopA L lit one f l s).2.at_ < L.length∧∃ l',(loopA L lit one f l s).1 = l ++ l'∧(∀ x ∈ l',P x)∧jw L s.at_ (loopA L lit one f l s).2.at_ (l'.flatMap nm)
 | 0,l,s,hl,h=>⟨h,hl,[],by simp [loopA],by simp,Nat.le_refl _⟩
 | f + 1,l,s,hl,h=>by
  rw [loopA] at h ⊢
  by_cases hn : zq L lit s = true
  ·rw [if_pos hn] at h ⊢
   have ho : (one s).2.bad = false:=kj2 fun e=>by rw [loopA_bad e] at h; rw [e] at h; cases h
   obtain ⟨a1,a2,a3,a4⟩:=h1 s hl ho
   obtain ⟨b1,b2,l',b3,b4,b5⟩:=loopA_in h1 f _ _ a3 h
   refine ⟨a1,b2,(one s).1 :: l',by rw [b3,List.append_assoc]; rfl,?_,b5.app a4⟩
   intro x hx
   rcases List.mem_cons.mp hx with rfl | hx
   ·exact a2
   ·exact b4 x hx
  ·rw [if_neg hn] at h ⊢
   exact ⟨h,hl,[],by simp,by simp,Nat.le_refl _⟩
theorem loopB_in {α : Type} {L : List Tok} {lit : List UInt8} {one : RS→α × RS} {nm : α→List Tok} {P : α→Prop} (h1 : ∀ s,s.at_ < L.length→(one s).2.bad = false→s.bad = false∧P (one s).1∧(one s).2.at_ < L.length∧jw L s.at_ (one s).2.at_ (nm (one s).1)) :
  ∀ (f : Nat) (l : List α) (s : RS),s.at_ < L.length→(kjk L lit one f l s).2.bad = false→s.bad = false∧(kjk L lit one f l s).2.at_ < L.length∧∃ l',(kjk L lit one f l s).1 = l ++ l'∧(∀ x ∈ l',P x)∧jw L s.at_ (kjk L lit one f l s).2.at_ (l'.flatMap nm)
 | 0,l,s,hl,h=>⟨h,hl,[],by simp [kjk],by simp,Nat.le_refl _⟩
 | f + 1,l,s,hl,h=>by
  rw [kjk] at h ⊢
  by_cases hb : s.bad = true
  ·rw [if_pos hb] at h; rw [hb] at h; cases h
  ·rw [if_neg hb] at h ⊢
   by_cases hn : zq L lit (one s).2 = true
   ·rw [if_pos hn] at h ⊢
    have ho : (one s).2.bad = false:=kj2 fun e=>by rw [loopB_bad e] at h; rw [e] at h; cases h
    obtain ⟨a1,a2,a3,a4⟩:=h1 s hl ho
    obtain ⟨b1,b2,l',b3,b4,b5⟩:=loopB_in h1 f _ _ a3 h
    refine ⟨a1,b2,(one s).1 :: l',by rw [b3,List.append_assoc]; rfl,?_,b5.app a4⟩
    intro x hx
    rcases List.mem_cons.mp hx with rfl | hx
    ·exact a2
    ·exact b4 x hx
   ·rw [if_neg hn] at h ⊢
    simp only at h ⊢
    obtain ⟨a1,a2,a3,a4⟩:=h1 s hl h
    exact ⟨a1,a3,[(one s).1],rfl,by intro x hx; rw [List.mem_singleton] at hx; subst hx; exact a2,by simpa using a4⟩
def treeAll (t : PTree) : List Tok:=t.sets.flatMap setN ++ (t.kinds.flatMap kindN ++ (t.vars.flatMap varAll ++ (t.rules.flatMap kq7 ++ t.nevers.flatMap kq7)))
structure TreeGood (L : List Tok) (t : PTree) : Prop where
 nms : jw L 0 L.length (treeAll t)
 sets : ∀ s ∈ t.sets,DigT s.size
 vars : ∀ v ∈ t.vars,VarOk v
 rules : ∀ r ∈ t.rules,RuleOk r
 nevers : ∀ r ∈ t.nevers,RuleOk r∧r.body = .nil
theorem tree_good {L : List Tok} (hL : pz L) (h : (kqn L).2 = none) : TreeGood L (kqn L).1:=by
 have hb : (treeN L).2.bad = false:=by
  rw [rTree_two] at h
  cases hb : (treeN L).2.bad
  ·rfl
  ·rw [hb] at h; simp at h
 have hp:=hL.pos
 have hN:=hb
 unfold treeN at hN
 rw [rNevers_A] at hN
 have hR : (treeR L).2.bad = false:=kj2 fun e=>by rw [loopA_bad e] at hN; rw [e] at hN; cases hN
 have hR':=hR
 unfold treeR at hR'
 rw [rRules_B] at hR'
 have hV : (treeV L).2.bad = false:=kj2 fun e=>by rw [loopB_bad e] at hR'; rw [e] at hR'; cases hR'
 have hV':=hV
 unfold treeV at hV'
 rw [rVars_B] at hV'
 have hH : (rHeads L kqq).2.2.bad = false:=kj2 fun e=>by rw [loopB_bad e] at hV'; rw [e] at hV'; cases hV'
 have hH':=hH
 unfold rHeads at hH'
 simp only at hH'
 rw [rKinds_A] at hH'
 have hS : (rSets (yt L) L [] kqq).2.bad = false:=kj2 fun e=>by rw [loopA_bad e] at hH'; rw [e] at hH'; cases hH'
 rw [rSets_A] at hS
 obtain ⟨s1,s2,ls,s3,s4,s5⟩:=loopA_in (P:=fun s=>DigT s.size) (set_in hL) (yt L) [] kqq hp hS
 rw [← rSets_A] at s2 s3 s5
 obtain ⟨k1,k2,lk,k3,k4,k5⟩:=loopA_in (P:=fun _=>True) (kind1_in hL) (yt L) [] _ s2 hH'
 rw [← rKinds_A] at k2 k3 k5
 obtain ⟨v1,v2,lv,v3,v4,v5⟩:=loopB_in (P:=VarOk) (var_in hL) (yt L) [] (rHeads L kqq).2.2 k2 hV'
 rw [← rVars_B] at v2 v3 v5
 obtain ⟨r1,r2,lr,r3,r4,r5⟩:=loopB_in (P:=RuleOk) (rule_in hL) (yt L) [] (treeV L).2 v2 hR'
 rw [← rRules_B] at r2 r3 r5
 obtain ⟨n1,n2,ln,n3,n4,n5⟩:=loopA_in (P:=fun r=>RuleOk r∧r.body = .nil) (never_in hL) (yt L) [] (treeR L).2 r2 hN
 rw [← rNevers_A] at n2 n3 n5
 have es : (kqn L).1.sets = ls:=by show (rSets (yt L) L [] kqq).1 = ls; rw [s3]; rfl
 have ek : (kqn L).1.kinds = lk:=by show (rKinds (yt L) L [] (rSets (yt L) L [] kqq).2).1 = lk; rw [k3]; rfl
 have ev : (kqn L).1.vars = lv:=by show (rVars (yt L) L [] (rHeads L kqq).2.2).1 = lv; rw [v3]; rfl
 have er : (kqn L).1.rules = lr:=by show (rRules (yt L) L [] (treeV L).2).1 = lr; rw [r3]; rfl
 have en : (kqn L).1.nevers = ln:=by show (rNevers (yt L) L [] (treeR L).2).1 = ln; rw [n3]; rfl
 refine ⟨?_,by rw [es]; exact s4,by rw [ev]; exact v4,by rw [er]; exact r4,by rw [en]; exact n4⟩
 unfold treeAll
 rw [es,ek,ev,er,en]
 have c1 : jw L 0 (rSets (yt L) L [] kqq).2.at_ (ls.flatMap setN):=s5
 have c2 : jw L (rSets (yt L) L [] kqq).2.at_ (rHeads L kqq).2.2.at_ (lk.flatMap kindN):=k5
 have c3 : jw L (rHeads L kqq).2.2.at_ (treeV L).2.at_ (lv.flatMap varAll):=v5
 have c4 : jw L (treeV L).2.at_ (treeR L).2.at_ (lr.flatMap kq7):=r5
 have c5 : jw L (treeR L).2.at_ (treeN L).2.at_ (ln.flatMap kq7):=n5
 have c6 : (treeN L).2.at_ < L.length:=n2
 exact (((((c5.app c4).app c3).app c2).app c1)).high (by omega)
def entS (s : PSet) : List (Tok × Ent):=[(s.name,⟨1,0,bE,noVar⟩)]
def entK (k : PKind) : List (Tok × Ent):=(k.name,⟨2,0,bE,noVar⟩) :: k.members.map (fun x=>(x,⟨3,0,k.name.text,noVar⟩))
def entVr (v : VrT) : List (Tok × Ent):=[(v.name,⟨4,0,bE,v⟩)]
def entRu (r : PRule) : List (Tok × Ent):=[(r.name,⟨5,0,bE,noVar⟩)]
def entNv (r : PRule) : List (Tok × Ent):=[(r.name,⟨6,0,bE,noVar⟩)]
def globE (m : MdL) : List (Tok × Ent):=m.sets.flatMap entS ++ (m.kinds.flatMap entK ++ (m.vars.flatMap entVr ++ (m.rules.flatMap entRu ++ m.nevers.flatMap entNv)))
def giveE (t : Tab) (x : Tok × Ent) : Tab:=giveT t x.1 x.2
theorem foldl_flat {α β γ : Type} (f : α→List β) (g : γ→β→γ) : ∀ (l : List α) (c : γ),(l.flatMap f).foldl g c = l.foldl (fun c x=>(f x).foldl g c) c
 | [],c=>rfl
 | x :: l,c=>by rw [List.flatMap_cons,List.foldl_append,List.foldl_cons,foldl_flat f g l]
theorem gather_fold (m : MdL) : kqf m = (globE m).foldl giveE []:=by
 unfold kqf gt4 gt3 gt2 gt1 globE
 rw [List.foldl_append,List.foldl_append,List.foldl_append,List.foldl_append,foldl_flat,foldl_flat,foldl_flat,foldl_flat,foldl_flat]
 have e : (fun (c : Tab) (k : PKind)=>(entK k).foldl giveE c) = gK:=by
  funext c k
  unfold entK gK
  rw [List.foldl_cons,List.foldl_map]
  rfl
 rw [e]
 rfl
def findE (l : List (Tok × Ent)) (s : List UInt8) : Ent:=match l.find? (fun x=>x.1.text.toList == s) with | none=>noEnt | some x=>{ x.2 with place:=x.1.at_ }
theorem look_app {s : List UInt8} {u : Tab} : ∀ {t : Tab},(zf t s).role≠0→zf (t ++ u) s = zf t s
 | [],h=>(h rfl).elim
 | x :: l,h=>by
  rw [List.cons_append,zf,zf]
  rw [zf] at h
  split
  ·rfl
  ·rename_i hx; rw [if_neg hx] at h; exact look_app h
theorem look_app0 {s : List UInt8} {u : Tab} : ∀ {t : Tab},TabOk t→(zf t s).role = 0→zf (t ++ u) s = zf u s∧zf t s = noEnt
 | [],_,_=>⟨rfl,rfl⟩
 | x :: l,ht,h=>by
  rw [List.cons_append,zf,zf]
  rw [zf] at h
  split
  ·rename_i hx
   rw [if_pos hx] at h
   have:=ht x (List.mem_cons_self ..)
   omega
  ·rename_i hx
   rw [if_neg hx] at h
   exact look_app0 (fun y hy=>ht y (List.mem_cons_of_mem _ hy)) h
theorem look_give {t : Tab} (ht : TabOk t) (n : Tok) (e : Ent) (s : List UInt8) : zf (giveT t n e) s = if (zf t s).role = 0∧n.text.toList = s then { e with place:=n.at_ } else zf t s:=by
 unfold giveT
 by_cases h0 : (zf t n.text.toList).role = 0
 ·rw [if_pos (by rw [beq_iff_eq]; exact h0)]
  by_cases h1 : (zf t s).role = 0
  ·obtain ⟨a,b⟩:=look_app0 (u:=[(n.text,{ e with place:=n.at_ })]) ht h1
   rw [a]
   by_cases h2 : n.text.toList = s
   ·rw [if_pos ⟨h1,h2⟩,zf,if_pos (by rw [beq_iff_eq]; exact h2)]
   ·rw [if_neg (fun h=>h2 h.2),zf,if_neg (by rw [beq_iff_eq]; exact h2),b]; rfl
  ·rw [look_app h1,if_neg (fun h=>h1 h.1)]
 ·rw [if_neg (by rw [beq_iff_eq]; exact h0),if_neg]
  rintro ⟨h1,rfl⟩
  exact h0 h1
theorem look_fold {s : List UInt8} : ∀ (l : List (Tok × Ent)) (t : Tab),TabOk t→(∀ x ∈ l,1≤x.2.role)→zf (l.foldl giveE t) s = if (zf t s).role = 0 then findE l s else zf t s
 | [],t,ht,_=>by
  split
  ·rename_i h; exact (look_app0 (u:=[]) ht h).2
  ·rfl
 | x :: l,t,ht,hl=>by
  rw [List.foldl_cons,look_fold l (giveE t x) (giveT_ok ht (hl x (List.mem_cons_self ..))) (fun y hy=>hl y (List.mem_cons_of_mem _ hy))]
  have hg:=look_give ht x.1 x.2 s
  have he : zf (giveE t x) s = zf (giveT t x.1 x.2) s:=rfl
  rw [he]
  have hr:=hl x (List.mem_cons_self ..)
  by_cases h0 : (zf t s).role = 0
  ·rw [if_pos h0]
   by_cases h1 : x.1.text.toList = s
   ·rw [if_pos ⟨h0,h1⟩] at hg
    rw [hg,if_neg (by show ¬ x.2.role = 0; omega)]
    unfold findE
    rw [List.find?_cons,show (x.1.text.toList == s) = true by rw [beq_iff_eq]; exact h1]
   ·rw [if_neg (fun h=>h1 h.2)] at hg
    rw [hg,if_pos h0]
    unfold findE
    rw [List.find?_cons,show (x.1.text.toList == s) = false by rw [beq_eq_false_iff_ne]; exact h1]
  ·rw [if_neg (fun h=>h0 h.1)] at hg
   rw [hg,if_neg h0,if_neg h0]
theorem globE_role (m : MdL) : ∀ x ∈ globE m,(x.2.role = 1∧∃ q ∈ m.sets,x.1 = q.name)∨(x.2.role = 2∧∃ k ∈ m.kinds,x.1 = k.name)∨(x.2.role = 3∧∃ k ∈ m.kinds,x.1 ∈ k.members∧x.2.kind = k.name.text) ∨
  (x.2.role = 4∧∃ v ∈ m.vars,x.1 = v.name∧x.2.var = v)∨(x.2.role = 5∧∃ r ∈ m.rules,x.1 = r.name)∨(x.2.role = 6∧∃ r ∈ m.nevers,x.1 = r.name):=by
 intro x hx
 unfold globE at hx
 simp only [List.mem_append,List.mem_flatMap] at hx
 rcases hx with ⟨q,hq,hx⟩ | ⟨q,hq,hx⟩ | ⟨q,hq,hx⟩ | ⟨q,hq,hx⟩ | ⟨q,hq,hx⟩
 ·unfold entS at hx; rw [List.mem_singleton] at hx; subst hx; exact Or.inl ⟨rfl,q,hq,rfl⟩
 ·unfold entK at hx
  rw [List.mem_cons,List.mem_map] at hx
  rcases hx with rfl | ⟨y,hy,rfl⟩
  ·exact Or.inr (Or.inl ⟨rfl,q,hq,rfl⟩)
  ·exact Or.inr (Or.inr (Or.inl ⟨rfl,q,hq,hy,rfl⟩))
 ·unfold entVr at hx; rw [List.mem_singleton] at hx; subst hx; exact Or.inr (Or.inr (Or.inr (Or.inl ⟨rfl,q,hq,rfl,rfl⟩)))
 ·unfold entRu at hx; rw [List.mem_singleton] at hx; subst hx; exact Or.inr (Or.inr (Or.inr (Or.inr (Or.inl ⟨rfl,q,hq,rfl⟩))))
 ·unfold entNv at hx; rw [List.mem_singleton] at hx; subst hx; exact Or.inr (Or.inr (Or.inr (Or.inr (Or.inr ⟨rfl,q,hq,rfl⟩))))
theorem globE_pos (m : MdL) : ∀ x ∈ globE m,1≤x.2.role:=fun x hx=>by
 rcases globE_role m x hx with h | h | h | h | h | h <;> have:=h.1 <;> omega
theorem look_gather (m : MdL) (s : List UInt8) : zf (kqf m) s = findE (globE m) s:=by
 rw [gather_fold,look_fold _ _ (fun x hx=>by cases hx) (globE_pos m),if_pos (show (zf [] s).role = 0 from rfl)]
theorem findE_cases (l : List (Tok × Ent)) (s : List UInt8) : (findE l s = noEnt∧∀ x ∈ l,x.1.text.toList≠s) ∨
  ∃ j,∃ hj : j < l.length,(l[j]).1.text.toList = s∧(∀ k (hk : k < j),(l[k]'(by omega)).1.text.toList≠s)∧findE l s = { (l[j]).2 with place:=(l[j]).1.at_ }:=by
 unfold findE
 cases hf : l.find? (fun x=>x.1.text.toList == s) with
 | none=>
  refine Or.inl ⟨rfl,fun x hx=>?_⟩
  have:=List.find?_eq_none.mp hf x hx
  simpa using this
 | some b=>
  obtain ⟨h1,i,hi,e,h2⟩:=List.find?_eq_some_iff_getElem.mp hf
  refine Or.inr ⟨i,hi,by rw [e]; simpa using h1,fun k hk=>?_,by rw [e]⟩
  have:=h2 k hk
  simpa using this
theorem kjb : ∀ {x : PX},XWell x→jh x = gu x
 | .nil,h=>rfl
 | .node _ _ x a c,h=>by
  have own : ownP x = ownNames x:=by
   unfold ownP ownNames kqb
   by_cases hp : x.op.toList = [112,108,97,99,101]
   ·have hop : (x.op.toList == [112,108,97,99,101]) = true:=by rw [beq_iff_eq]; exact hp
    simp only [hop,if_true]
    have hi : x.index = jg∨(x.index.kind.toList == [110,97,109,101]) = true:=by
     rcases h with ⟨h1,_⟩ | ⟨h1,_⟩ | ⟨h1,_⟩
     ·rcases h1 with (h1 | h1 | h1) | ⟨h1,_⟩ | ⟨_,_,h1⟩
      ·rw [hp] at h1; cases h1
      ·rw [hp] at h1; cases h1
      ·rw [hp] at h1; cases h1
      ·rw [hp] at h1; cases h1
      ·exact h1
     ·rw [hp] at h1; cases h1
     ·rw [hp] at h1; exact absurd h1 (by decide)
    rcases hi with hi | hi
    ·rw [hi,kj4]; rfl
    ·rw [beq_iff_eq] at hi
     rw [hi]; rfl
   ·have hop : (x.op.toList == [112,108,97,99,101]) = false:=by rw [beq_eq_false_iff_ne]; exact hp
    simp only [hop]
    rfl
  rw [jh,gu,own]
  rcases h with ⟨_,rfl,rfl⟩ | ⟨_,h2,rfl⟩ | ⟨_,h2,h3⟩
  ·rfl
  ·rw [kjb h2]; rfl
  ·rw [kjb h2,kjb h3]
theorem namesB_well : ∀ {b : PB},BWell b→zi b = cu b
 | .nil,_=>rfl
 | .node _ _ a .nil n,⟨⟨h1,x,hx,ho⟩,h2,h3,h4⟩=>by
  rw [zi,cu,namesB_well h4,labNames,h3,kjb h2]
  have e : plNm a.place = gu a.place:=by
   have w:=kjb h1
   rw [hx] at w ⊢
   rw [← w]
   show kqb x.name x.index = (ownP x ++ []) ++ []
   unfold ownP
   rw [if_pos (by rw [beq_iff_eq]; exact ho)]
   simp
  rw [e,show gu (Go.Deep.BT.nil : PX) = [] from rfl,List.append_nil]
 | .node _ _ a (.node _ _ _ t e) n,⟨h1,h2,h3,h4,h5,h6⟩=>by
  rw [zi,cu,namesB_well h4.1,namesB_well h5.1,namesB_well h6,labNames,h2,h3,kjb h1]
  rfl
theorem vr_form {v : PVar} (h : VarOk v) : ((vrOf v).si.form == 2) = (v.type_.kind.toList == [110,97,109,101])∧((v.type_.kind.toList == [110,97,109,101]) = true→(vrOf v).si.name = v.type_):=by
 obtain ⟨_,h1 | h1 | h1⟩:=h
 ·obtain ⟨a,b,c⟩:=h1
  unfold vrOf; simp only; rw [a,b]
  exact ⟨rfl,fun h=>by cases h⟩
 ·obtain ⟨a,b,c,d⟩:=h1
  unfold vrOf; simp only; rw [a,b]
  exact ⟨rfl,fun h=>by cases h⟩
 ·obtain ⟨a,c⟩:=h1
  unfold vrOf; simp only; rw [a]
  exact ⟨rfl,fun _=>rfl⟩
end Go.Proofs.YtpmcnonmkghokaaGreatDoor

/-
  Plain facts on the trees that the reference makes of tokens, whole: each name in a tree is a token of the text, all of them one behind the other; no part of an expression or a statement lacks; digits are digits.
  The least of several places; tooMany of the program and of the reference are the same.
  The reference's given: the first name that is given although it may not be.
  The reference's used, plainly.
-/
import Derived.Test.YtpmcnonmkghokaaGreatDoorT18
import Derived.Test.YtpmcnonmkghokaaGreatDoorT06
import Derived.Test.YtpmcnonmkghokaaGreatDoorT07
set_option linter.unusedVariables false
set_option linter.unusedSimpArgs false
namespace Go.Proofs.YtpmcnonmkghokaaGreatDoor
open Go.RowKit
theorem good_of {p : Bool} (h : p = true → False) : p = false := by
 cases p with
 | false => rfl
 | true => exact (h rfl).elim
theorem must_up {L : List Tok} {s : List UInt8} {st : RS} (h : (rMust L s st).bad = false) : st.bad = false := good_of fun e => by rw [rMust_bad e] at h; cases h
theorem kind_up {L : List Tok} {s : List UInt8} {st : RS} (h : (rKind L s st).2.bad = false) : st.bad = false := good_of fun e => by rw [rKind_bad e] at h; cases h
theorem expr_up {L : List Tok} {f tag : Nat} {x : PX} {st : RS} (h : (rX f tag x L st).2.bad = false) : st.bad = false := good_of fun e => by rw [rX_bad e, e] at h; cases h

def binOps : List (List UInt8) := [[124], [38], [61, 61], [33, 61], [60], [43], [45]]
def leafW (x : ELab) : Prop :=
 (x.op.toList = [116, 114, 117, 101] ∨ x.op.toList = [102, 97, 108, 115, 101] ∨ x.op.toList = [110, 111, 110, 101]) ∨
 (x.op.toList = [100, 105, 103, 105, 116] ∧ 0 ≤ x.n ∧ x.n ≤ 9) ∨
 (x.op.toList = [112, 108, 97, 99, 101] ∧ (x.name.kind.toList == [110, 97, 109, 101]) = true ∧ (x.index = noTok ∨ (x.index.kind.toList == [110, 97, 109, 101]) = true))
def XWell : PX → Prop
 | .nil => False
 | .node _ _ x a c => (leafW x ∧ a = .nil ∧ c = .nil) ∨ (x.op.toList = [33] ∧ XWell a ∧ c = .nil) ∨ (x.op.toList ∈ binOps ∧ XWell a ∧ XWell c)
theorem XWell.some {x : PX} (h : XWell x) : isNil x = false := by
 cases x with
 | nil => exact h.elim
 | node => rfl
theorem bin_ops {n : Nat} {t : Tok} (h : isBin n t = true) : t.text.toList ∈ binOps := by
 unfold isBin at h
 rw [Bool.and_eq_true] at h
 have h1 := h.1
 rw [List.any_eq_true] at h1
 obtain ⟨s, hs, e⟩ := h1
 rw [beq_iff_eq] at e
 rw [← e]
 have this : ∀ l : List UInt8, (⟨l.toArray⟩ : ByteArray).toList = l := toList_lit
 rcases n with _ | _ | _ | n <;> simp only [binSigns, List.mem_cons, List.not_mem_nil, or_false] at hs
 ·subst hs; rw [show (ByteArray.mk #[124]).toList = [124] from this [124]]; decide
 ·subst hs; rw [show (ByteArray.mk #[38]).toList = [38] from this [38]]; decide
 ·rcases hs with rfl | rfl | rfl
  ·rw [show (ByteArray.mk #[61, 61]).toList = [61, 61] from this [61, 61]]; decide
  ·rw [show (ByteArray.mk #[33, 61]).toList = [33, 61] from this [33, 61]]; decide
  ·rw [show (ByteArray.mk #[60]).toList = [60] from this [60]]; decide
 ·rcases hs with rfl | rfl
  ·rw [show (ByteArray.mk #[43]).toList = [43] from this [43]]; decide
  ·rw [show (ByteArray.mk #[45]).toList = [45] from this [45]]; decide

theorem digit_dig {L : List Tok} (hL : ToksOk L) {i : Nat} (hi : i < L.length) (h : ((tk L i).kind.toList == [100, 105, 103, 105, 116]) = true) : DigT (tk L i) := by
 have hd := (hL.ok i hi).digit
 rw [h] at hd
 unfold digB inB at hd
 by_cases h0 : 0 < (tk L i).text.size
 ·rw [dif_pos h0, Bool.and_eq_true, decide_eq_true_eq, decide_eq_true_eq] at hd
  exact ⟨h0, hd.1, hd.2⟩
 ·rw [dif_neg h0] at hd; cases hd
theorem dig_bd {t : Tok} (h : DigT t) : 0 ≤ digV t.text ∧ digV t.text ≤ 9 := by
 obtain ⟨h0, h1, h2⟩ := h
 unfold digV
 rw [dif_pos h0]
 omega

theorem place_well {L : List Tok} {st : RS} (hF : FinT L) (hl : st.at_ < L.length) (h : (rPlace L st).2.bad = false) : XWell (rPlace L st).1 ∧ ∃ x, (rPlace L st).1 = .node 0 0 x .nil .nil ∧ x.op.toList = [112, 108, 97, 99, 101] := by
 have hpl : sPlace.toList = [112, 108, 97, 99, 101] := toList_lit _
 unfold rPlace at h ⊢
 simp only at h ⊢
 by_cases hn : rNext L [91] (rKind L [110, 97, 109, 101] st).2 = true
 ·rw [if_pos hn] at h ⊢
  simp only at h ⊢
  have hk2 := must_up h
  have hm := kind_up hk2
  have hk := must_up hm
  obtain ⟨a1, a2, a3, a4, a5⟩ := kind_in hF hl rfl hk
  obtain ⟨b1, b2, b3⟩ := must_in hF a5 hm
  obtain ⟨c1, c2, c3, c4, c5⟩ := kind_in hF b3 rfl hk2
  exact ⟨Or.inl ⟨Or.inr (Or.inr ⟨hpl, by rw [a2]; exact a3, Or.inr (by rw [c2]; exact c3)⟩), rfl, rfl⟩, _, rfl, hpl⟩
 ·rw [if_neg hn] at h ⊢
  simp only at h ⊢
  obtain ⟨a1, a2, a3, a4, a5⟩ := kind_in hF hl rfl h
  exact ⟨Or.inl ⟨Or.inr (Or.inr ⟨hpl, by rw [a2]; exact a3, Or.inl rfl⟩), rfl, rfl⟩, _, rfl, hpl⟩

theorem rX_well (L : List Tok) (hL : ToksOk L) : ∀ (f tag : Nat) (x : PX) (st : RS), (tag ≤ 4 ∨ (10 ≤ tag ∧ tag ≤ 13) ∨ (20 ≤ tag ∧ tag ≤ 32)) → 8 * (L.length - st.at_) + ndC tag ≤ f → st.at_ < L.length →
  (10 ≤ tag → tag < 20 → XWell x) → (rX f tag x L st).2.bad = false → XWell (rX f tag x L st).1
 | 0, tag, x, st, ht, hf, hl, hx, h => by exfalso; unfold ndC at hf; split at hf <;> (try split at hf) <;> omega
 | f + 1, tag, x, st, ht, hf, hl, hx, h => by
  have hF := hL.finT
  have ih := rX_well L hL f
  have inn := rX_in L hF f
  have hb : st.bad = false := expr_up h
  have hbf : ¬ st.bad = true := by rw [hb]; simp
  rw [rX] at h ⊢
  by_cases t4 : tag < 4
  ·rw [if_pos t4, if_neg hbf] at h ⊢
   have nd : ndC tag = 7 - tag := by unfold ndC; rw [if_pos (by omega)]
   have nd1 : ndC (tag + 1) = 7 - (tag + 1) := by unfold ndC; rw [if_pos (by omega)]
   have h1 := expr_up h
   obtain ⟨a1, a2, a3, a4, l1, a5, a6⟩ := inn (tag + 1) .nil st (Or.inl (by omega)) (by rw [nd1]; omega) hl (fun h1 h2 => by omega) h1
   have le1 := a6.le
   have w1 := ih (tag + 1) .nil st (Or.inl (by omega)) (by rw [nd1]; omega) hl (fun h1 h2 => by omega) h1
   exact ih (10 + tag) _ _ (Or.inr (Or.inl ⟨by omega, by omega⟩)) (by rw [show ndC (10 + tag) = 1 by unfold ndC; rw [if_neg (by omega), if_pos (by omega)]]; omega) a4 (fun _ _ => w1) h
  ·rw [if_neg t4] at h ⊢
   by_cases t10 : tag < 10
   ·rw [if_pos t10, if_neg hbf] at h ⊢
    have t : tag = 4 := by omega
    subst t
    have nd : ndC 4 = 3 := rfl
    exact ih 20 .nil st (Or.inr (Or.inr ⟨by omega, by omega⟩)) (by show _ + 2 ≤ f; omega) hl (fun h1 h2 => by omega) h
   ·rw [if_neg t10] at h ⊢
    by_cases t20 : tag < 20
    ·rw [if_pos t20, if_neg hbf] at h ⊢
     have xw := hx (by omega) t20
     have nd : ndC tag = 1 := by unfold ndC; rw [if_neg (by omega), if_pos (by omega)]
     by_cases hbin : isBin (tag - 10) (tk L st.at_) = true
     ·rw [if_pos hbin] at h ⊢
      have bo := bin_ops hbin
      have hsg : st.at_ + 1 < L.length := hF _ hl (by
       unfold isBin at hbin
       rw [Bool.and_eq_true] at hbin
       have := hbin.2
       rw [beq_iff_eq] at this
       rw [this]; rfl)
      have nd' : ndC (tag - 9) = 7 - (tag - 9) := by unfold ndC; rw [if_pos (by omega)]
      by_cases t12 : tag = 12
      ·rw [if_pos t12] at h ⊢
       simp only at h ⊢
       have w1 := ih (tag - 9) .nil { st with at_ := st.at_ + 1 } (Or.inl (by omega)) (by rw [nd']; simp only; omega) hsg (fun h1 h2 => by omega) h
       exact Or.inr (Or.inr ⟨bo, xw, w1⟩)
      ·rw [if_neg t12] at h ⊢
       have h1 := expr_up h
       obtain ⟨a1, a2, a3, a4, l1, a5, a6⟩ := inn (tag - 9) .nil { st with at_ := st.at_ + 1 } (Or.inl (by omega)) (by rw [nd']; simp only; omega) hsg (fun h1 h2 => by omega) h1
       have le1 := a6.le
       have w1 := ih (tag - 9) .nil { st with at_ := st.at_ + 1 } (Or.inl (by omega)) (by rw [nd']; simp only; omega) hsg (fun h1 h2 => by omega) h1
       simp only at le1
       exact ih tag _ _ (Or.inr (Or.inl ⟨by omega, by omega⟩)) (by rw [nd]; omega) a4 (fun _ _ => Or.inr (Or.inr ⟨bo, xw, w1⟩)) h
     ·rw [if_neg hbin] at h ⊢
      exact xw
    ·rw [if_neg t20, if_neg hbf] at h ⊢
     have nd : ndC tag = 2 := by unfold ndC; rw [if_neg (by omega), if_neg (by omega)]
     by_cases n33 : rNext L [33] st = true
     ·rw [if_pos n33] at h ⊢
      by_cases t32 : tag = 32
      ·rw [if_pos t32] at h; simp at h
      ·rw [if_neg t32] at h ⊢
       simp only at h ⊢
       obtain ⟨m1, m2, m3⟩ := must_in hF hl (expr_up h)
       have w1 := ih (tag + 1) .nil (rMust L [33] st) (Or.inr (Or.inr ⟨by omega, by omega⟩)) (by rw [show ndC (tag + 1) = 2 by unfold ndC; rw [if_neg (by omega), if_neg (by omega)]]; omega) m3 (fun h1 h2 => by omega) h
       exact Or.inr (Or.inl ⟨toList_lit _, w1, rfl⟩)
     ·rw [if_neg n33] at h ⊢
      by_cases n40 : rNext L [40] st = true
      ·rw [if_pos n40] at h ⊢
       simp only at h ⊢
       have h1 := must_up h
       obtain ⟨m1, m2, m3⟩ := must_in hF hl (expr_up h1)
       exact ih 0 .nil (rMust L [40] st) (Or.inl (by omega)) (by show _ + 7 ≤ f; omega) m3 (fun h1 h2 => by omega) h1
      ·rw [if_neg n40] at h ⊢
       by_cases hc : isConst (tk L st.at_) = true
       ·rw [if_pos hc] at h ⊢
        refine Or.inl ⟨Or.inl ?_, rfl, rfl⟩
        unfold isConst at hc
        rw [Bool.and_eq_true] at hc
        have h1 := hc.2
        simp only [Bool.or_eq_true, beq_iff_eq] at h1
        rcases h1 with (e | e) | e
        ·exact Or.inl e
        ·exact Or.inr (Or.inl e)
        ·exact Or.inr (Or.inr e)
       ·rw [if_neg hc] at h ⊢
        by_cases hd : isDig (tk L st.at_) = true
        ·rw [if_pos hd] at h ⊢
         have hk : kDigit.toList = [100, 105, 103, 105, 116] := toList_lit _
         have hb := dig_bd (digit_dig hL hl hd)
         exact Or.inl ⟨Or.inr (Or.inl ⟨hk, hb⟩), rfl, rfl⟩
        ·rw [if_neg hd] at h ⊢
         exact (place_well hF hl h).1

theorem expr_well {L : List Tok} (hL : ToksOk L) {st : RS} (hl : st.at_ < L.length) (h : (rX (fuelX L) 0 .nil L st).2.bad = false) :
  st.bad = false ∧ XWell (rX (fuelX L) 0 .nil L st).1 ∧ (rX (fuelX L) 0 .nil L st).2.at_ < L.length ∧ NamesIn L st.at_ (rX (fuelX L) 0 .nil L st).2.at_ (namesL (rX (fuelX L) 0 .nil L st).1) := by
 obtain ⟨a1, a2, a3, a4, a5⟩ := expr_in hL.finT hl h
 exact ⟨a1, rX_well L hL (fuelX L) 0 .nil st (Or.inl (by omega)) (by show _ + 7 ≤ _; unfold fuelX; omega) hl (fun h1 _ => by omega) h, a4, a5⟩

def BWell : PB → Prop
 | .nil => True
 | .node _ _ a .nil n => (XWell a.place ∧ ∃ x, a.place = .node 0 0 x .nil .nil ∧ x.op.toList = [112, 108, 97, 99, 101]) ∧ XWell a.value ∧ a.cond = .nil ∧ BWell n
 | .node _ _ a (.node _ _ _ t e) n => XWell a.cond ∧ a.place = .nil ∧ a.value = .nil ∧ (BWell t ∧ blen t ≤ 801) ∧ (BWell e ∧ blen e ≤ 801) ∧ BWell n
theorem BWell.app : ∀ {a b : PB}, BWell a → BWell b → BWell (bapp a b)
 | .nil, b, _, h => h
 | .node _ _ a .nil n, b, ⟨h1, h2, h3, h4⟩, h => ⟨h1, h2, h3, h4.app h⟩
 | .node _ _ a (.node _ _ _ t e) n, b, ⟨h1, h2, h3, h4, h5, h6⟩, h => ⟨h1, h2, h3, h4, h5, h6.app h⟩
theorem blen_app : ∀ a b : PB, blen (bapp a b) = blen a + blen b
 | .nil, b => by simp [bapp, blen]
 | .node _ _ a s n, b => by simp only [bapp, blen, blen_app n b]; omega
theorem inside_app : ∀ a b : PB, insideL (bapp a b) = insideL a ++ insideL b
 | .nil, b => rfl
 | .node _ _ a .nil n, b => by simp only [bapp, insideL, inside_app n b, List.append_assoc]
 | .node _ _ a (.node _ _ _ t e) n, b => by simp only [bapp, insideL, inside_app n b, List.append_assoc]

structure SIn (L : List Tok) (s : RS) (r : PB × RS) : Prop where
 good : s.bad = false
 well : BWell r.1
 lt : r.2.at_ < L.length
 nms : NamesIn L s.at_ r.2.at_ (insideL r.1)
 len : s.at_ + blen r.1 ≤ r.2.at_

theorem do_in {L : List Tok} (hL : ToksOk L) {blk : RS → PB × RS} (hup : ∀ s, (blk s).2.bad = false → s.bad = false) (hblk : ∀ s, s.at_ < L.length → (blk s).2.bad = false → SIn L s (blk s)) {st : RS} (hl : st.at_ < L.length) (h : (rDo blk L st).2.bad = false) :
  SIn L st (rDo blk L st) ∧ blen (rDo blk L st).1 = 1 := by
 have hF := hL.finT
 have hlen := hL.len
 unfold rDo at h ⊢
 by_cases hi : rNext L [105, 102] st = true
 ·rw [if_pos hi] at h ⊢
  have common : (blk (rX (fuelX L) 0 .nil L (rMust L [105, 102] st)).2).2.bad = false → st.bad = false ∧ (rMust L [105, 102] st).at_ = st.at_ + 1 ∧ XWell (rX (fuelX L) 0 .nil L (rMust L [105, 102] st)).1 ∧
    NamesIn L (rMust L [105, 102] st).at_ (rX (fuelX L) 0 .nil L (rMust L [105, 102] st)).2.at_ (namesL (rX (fuelX L) 0 .nil L (rMust L [105, 102] st)).1) ∧ SIn L (rX (fuelX L) 0 .nil L (rMust L [105, 102] st)).2 (blk (rX (fuelX L) 0 .nil L (rMust L [105, 102] st)).2) := by
   intro hb
   have hx := hup _ hb
   obtain ⟨m1, m2, m3⟩ := must_in hF hl (expr_up hx)
   obtain ⟨x1, x2, x3, x4⟩ := expr_well hL m3 hx
   exact ⟨m1, m2, x2, x4, hblk _ x3 hb⟩
  by_cases he : rNext L [101, 108, 115, 101] (blk (rX (fuelX L) 0 .nil L (rMust L [105, 102] st)).2).2 = true
  ·rw [if_pos he] at h ⊢
   simp only at h ⊢
   have hm := hup _ h
   obtain ⟨g, m2, xw, xn, b1⟩ := common (must_up hm)
   obtain ⟨e1, e2, e3⟩ := must_in hF b1.lt hm
   have b2 := hblk _ e3 h
   have lx := xn.le
   have l1 := b1.len
   have l2 := b2.len
   have z2 := b2.lt
   refine ⟨⟨g, ⟨xw, rfl, rfl, ⟨b1.well, by omega⟩, ⟨b2.well, by omega⟩, trivial⟩, b2.lt, ?_, ?_⟩, rfl⟩
   ·show NamesIn L st.at_ _ (((labNames ⟨.nil, .nil, _⟩ ++ insideL _) ++ insideL _) ++ insideL .nil)
    rw [show insideL (Go.Deep.BT.nil : PB) = [] from rfl, List.append_nil]
    exact (b2.nms.low (by omega)).app (b1.nms.app (xn.low (by omega)))
   ·show st.at_ + 1 ≤ _
    dsimp only
    omega
  ·rw [if_neg he] at h ⊢
   simp only at h ⊢
   obtain ⟨g, m2, xw, xn, b1⟩ := common h
   have lx := xn.le
   have l1 := b1.len
   have z1 := b1.lt
   refine ⟨⟨g, ⟨xw, rfl, rfl, ⟨b1.well, by omega⟩, ⟨trivial, by simp [blen]⟩, trivial⟩, b1.lt, ?_, ?_⟩, rfl⟩
   ·show NamesIn L st.at_ _ (((labNames ⟨.nil, .nil, _⟩ ++ insideL _) ++ insideL .nil) ++ insideL .nil)
    rw [show insideL (Go.Deep.BT.nil : PB) = [] from rfl, List.append_nil, List.append_nil]
    exact b1.nms.app (xn.low (by omega))
   ·show st.at_ + 1 ≤ _
    dsimp only
    omega
 ·rw [if_neg hi] at h ⊢
  simp only at h ⊢
  have hx := must_up h
  have hm := expr_up hx
  have hp := must_up hm
  obtain ⟨p1, p2, p3, p4, p5⟩ := place_in hF hl hp
  obtain ⟨pw, px⟩ := place_well hF hl hp
  obtain ⟨m1, m2, m3⟩ := must_in hF p4 hm
  obtain ⟨x1, x2, x3, x4⟩ := expr_well hL m3 hx
  obtain ⟨e1, e2, e3⟩ := must_in hF x3 h
  have lp := p5.le
  have lx := x4.le
  refine ⟨⟨p1, ⟨⟨pw, px⟩, x2, rfl, trivial⟩, e3, ?_, ?_⟩, rfl⟩
  ·show NamesIn L st.at_ _ (labNames ⟨_, _, .nil⟩ ++ insideL .nil)
   rw [show insideL (Go.Deep.BT.nil : PB) = [] from rfl, List.append_nil]
   show NamesIn L st.at_ _ ((namesL _ ++ namesL _) ++ namesL .nil)
   rw [show namesL (Go.Deep.BT.nil : PX) = [] from rfl, List.append_nil]
   exact ((x4.low (by omega)).app p5).high (by dsimp only; omega)
  ·show st.at_ + 1 ≤ _
   dsimp only
   omega

theorem stmts_up {L : List Tok} {f tag : Nat} {st : RS} (h : (rS f tag L st).2.bad = false) : st.bad = false := good_of fun e => by rw [rS_bad e] at h; cases h
theorem rS_in {L : List Tok} (hL : ToksOk L) : ∀ (f tag : Nat) (st : RS), st.at_ < L.length → (rS f tag L st).2.bad = false → SIn L st (rS f tag L st)
 | 0, tag, st, hl, h => ⟨h, trivial, hl, Nat.le_refl _, by simp [rS, blen]⟩
 | f + 1, 0, st, hl, h => by
  have hF := hL.finT
  rw [rS] at h ⊢
  simp only at h ⊢
  have hb := must_up h
  obtain ⟨m1, m2, m3⟩ := must_in hF hl (stmts_up hb)
  have ih := rS_in hL f 1 _ m3 hb
  obtain ⟨e1, e2, e3⟩ := must_in hF ih.lt h
  have l1 := ih.len
  exact ⟨m1, ih.well, e3, (ih.nms.low (by omega)).high (by show _ ≤ (rMust L [125] _).at_; omega), by show _ ≤ (rMust L [125] _).at_; simp only; omega⟩
 | f + 1, t + 1, st, hl, h => by
  have hF := hL.finT
  rw [rS] at h ⊢
  by_cases hc : (rNext L [125] st || st.bad) = true
  ·rw [if_pos hc] at h ⊢
   exact ⟨h, trivial, hl, Nat.le_refl _, by simp [blen]⟩
  ·rw [if_neg hc] at h ⊢
   simp only at h ⊢
   obtain ⟨d1, d2⟩ : SIn L st (rDo (rS f 0 L) L st) ∧ blen (rDo (rS f 0 L) L st).1 = 1 := do_in hL (fun s => stmts_up) (fun s hs hb => rS_in hL f 0 s hs hb) hl (stmts_up h)
   have ih := rS_in hL f 1 _ d1.lt h
   have l1 := d1.len
   have l2 := ih.len
   exact ⟨d1.good, d1.well.app ih.well, ih.lt, by rw [inside_app]; exact ih.nms.app d1.nms, by rw [blen_app]; dsimp only; omega⟩

def parAll (p : PP) : List Tok := [p.name, p.set_]
theorem one_in {L : List Tok} {i b : Nat} (hl : i < L.length) (hk : ((tk L i).kind.toList == [110, 97, 109, 101]) = true) (hb : i + 1 ≤ b) : NamesIn L i b [tk L i] := ⟨i, Nat.le_refl _, hl, rfl, hk, hb⟩
theorem pp_in {L : List Tok} (hF : FinT L) {st : RS} (hl : st.at_ < L.length) (h : (rPP L st).2.bad = false) : st.bad = false ∧ (rPP L st).2.at_ < L.length ∧ NamesIn L st.at_ (rPP L st).2.at_ (parAll (rPP L st).1) := by
 unfold rPP at h ⊢
 simp only at h ⊢
 have hm := kind_up h
 have hk := must_up hm
 obtain ⟨a1, a2, a3, a4, a5⟩ := kind_in hF hl rfl hk
 obtain ⟨b1, b2, b3⟩ := must_in hF a5 hm
 obtain ⟨c1, c2, c3, c4, c5⟩ := kind_in hF b3 rfl h
 refine ⟨a1, c5, ?_⟩
 unfold parAll
 simp only
 rw [a2, c2]
 exact ⟨_, Nat.le_refl _, hl, rfl, a3, _, by omega, b3, rfl, c3, by show _ ≤ _; omega⟩
theorem par_in {L : List Tok} (hF : FinT L) : ∀ (f : Nat) (l : List PP) (st : RS), st.at_ < L.length → (rPar f L l st).2.bad = false → st.bad = false ∧ (rPar f L l st).2.at_ < L.length ∧ ∃ l', (rPar f L l st).1 = l ++ l' ∧ NamesIn L st.at_ (rPar f L l st).2.at_ (l'.flatMap parAll)
 | 0, l, st, hl, h => ⟨h, hl, [], by simp [rPar], Nat.le_refl _⟩
 | f + 1, l, st, hl, h => by
  rw [rPar] at h ⊢
  by_cases hb : st.bad = true
  ·rw [if_pos hb] at h; rw [hb] at h; cases h
  ·rw [if_neg hb] at h ⊢
   by_cases hn : rNext L [44] (rPP L st).2 = true
   ·rw [if_pos hn] at h ⊢
    have hm : (rMust L [44] (rPP L st).2).bad = false := good_of fun e => by rw [rPar_bad e, e] at h; cases h
    obtain ⟨p1, p2, p3⟩ := pp_in hF hl (must_up hm)
    obtain ⟨m1, m2, m3⟩ := must_in hF p2 hm
    obtain ⟨i1, i2, l', i3, i4⟩ := par_in hF f _ _ m3 h
    exact ⟨p1, i2, (rPP L st).1 :: l', by rw [i3, List.append_assoc]; rfl, (i4.low (by omega)).app p3⟩
   ·rw [if_neg hn] at h ⊢
    simp only at h ⊢
    obtain ⟨p1, p2, p3⟩ := pp_in hF hl h
    exact ⟨p1, p2, [(rPP L st).1], rfl, by simpa using p3⟩
theorem params_in {L : List Tok} (hF : FinT L) {st : RS} (hl : st.at_ < L.length) (h : (rParams L st).2.bad = false) : st.bad = false ∧ (rParams L st).2.at_ < L.length ∧ NamesIn L st.at_ (rParams L st).2.at_ ((rParams L st).1.flatMap parAll) := by
 unfold rParams at h ⊢
 by_cases hn : rNext L [41] (rMust L [40] st) = true
 ·rw [if_pos hn] at h ⊢
  simp only at h ⊢
  obtain ⟨m1, m2, m3⟩ := must_in hF hl (must_up h)
  obtain ⟨e1, e2, e3⟩ := must_in hF m3 h
  exact ⟨m1, e3, by show _ ≤ _; omega⟩
 ·rw [if_neg hn] at h ⊢
  simp only at h ⊢
  have hp := must_up h
  have hm : (rMust L [40] st).bad = false := good_of fun e => by rw [rPar_bad e, e] at hp; cases hp
  obtain ⟨m1, m2, m3⟩ := must_in hF hl hm
  obtain ⟨i1, i2, l', i3, i4⟩ := par_in hF _ _ _ m3 hp
  obtain ⟨e1, e2, e3⟩ := must_in hF i2 h
  refine ⟨m1, e3, ?_⟩
  rw [i3, List.nil_append]
  exact (i4.low (by omega)).high (by omega)

theorem rMem_bad {L : List Tok} {st : RS} (h : st.bad = true) : ∀ (f : Nat) (l : List Tok), (rMem f L l st).2 = st
 | 0, _ => rfl
 | f + 1, l => by rw [rMem, if_pos h]
theorem mem_in {L : List Tok} (hF : FinT L) : ∀ (f : Nat) (l : List Tok) (st : RS), st.at_ < L.length → (rMem f L l st).2.bad = false → st.bad = false ∧ (rMem f L l st).2.at_ < L.length ∧ ∃ l', (rMem f L l st).1 = l ++ l' ∧ NamesIn L st.at_ (rMem f L l st).2.at_ l'
 | 0, l, st, hl, h => ⟨h, hl, [], by simp [rMem], Nat.le_refl _⟩
 | f + 1, l, st, hl, h => by
  rw [rMem] at h ⊢
  by_cases hb : st.bad = true
  ·rw [if_pos hb] at h; rw [hb] at h; cases h
  ·rw [if_neg hb] at h ⊢
   by_cases hn : (rNext L [44] (rKind L [110, 97, 109, 101] st).2 || decide (l.length + 1 < 2)) = true
   ·rw [if_pos hn] at h ⊢
    have hm : (rMust L [44] (rKind L [110, 97, 109, 101] st).2).bad = false := good_of fun e => by
     rw [rMem_bad e, e] at h; cases h
    obtain ⟨a1, a2, a3, a4, a5⟩ := kind_in hF hl rfl (must_up hm)
    obtain ⟨m1, m2, m3⟩ := must_in hF a5 hm
    obtain ⟨i1, i2, l', i3, i4⟩ := mem_in hF f _ _ m3 h
    refine ⟨a1, i2, (rKind L [110, 97, 109, 101] st).1 :: l', by rw [i3, List.append_assoc]; rfl, ?_⟩
    exact ⟨st.at_, Nat.le_refl _, hl, a2, by rw [a2]; exact a3, i4.low (by omega)⟩
   ·rw [if_neg hn] at h ⊢
    simp only at h ⊢
    obtain ⟨a1, a2, a3, a4, a5⟩ := kind_in hF hl rfl h
    exact ⟨a1, a5, [(rKind L [110, 97, 109, 101] st).1], rfl, by rw [a2]; exact one_in hl a3 (by omega)⟩

theorem set_in {L : List Tok} (hL : ToksOk L) (st : RS) (hl : st.at_ < L.length) (h : (rSet1 L st).2.bad = false) : st.bad = false ∧ DigT (rSet1 L st).1.size ∧ (rSet1 L st).2.at_ < L.length ∧ NamesIn L st.at_ (rSet1 L st).2.at_ (setN (rSet1 L st).1) := by
 have hF := hL.finT
 unfold rSet1 at h ⊢
 simp only at h ⊢
 have hd := must_up h
 have hk := kind_up hd
 obtain ⟨m1, m2, m3⟩ := must_in hF hl (kind_up hk)
 obtain ⟨a1, a2, a3, a4, a5⟩ := kind_in hF m3 rfl hk
 obtain ⟨b1, b2, b3, b4, b5⟩ := kind_in hF a5 rfl hd
 obtain ⟨e1, e2, e3⟩ := must_in hF b5 h
 refine ⟨m1, by rw [b2]; exact digit_dig hL a5 b3, e3, ?_⟩
 unfold setN
 simp only
 rw [a2]
 exact (one_in m3 a3 (by omega)).low (by omega)
theorem kind1_in {L : List Tok} (hL : ToksOk L) (st : RS) (hl : st.at_ < L.length) (h : (rKind1 L st).2.bad = false) : st.bad = false ∧ True ∧ (rKind1 L st).2.at_ < L.length ∧ NamesIn L st.at_ (rKind1 L st).2.at_ (kindN (rKind1 L st).1) := by
 have hF := hL.finT
 unfold rKind1 rMembers at h ⊢
 simp only at h ⊢
 have hmm := must_up h
 have hm : (rMust L [123] (rKind L [110, 97, 109, 101] (rMust L [107, 105, 110, 100] st)).2).bad = false := good_of fun e => by rw [rMem_bad e, e] at hmm; cases hmm
 have hk := must_up hm
 obtain ⟨m1, m2, m3⟩ := must_in hF hl (kind_up hk)
 obtain ⟨a1, a2, a3, a4, a5⟩ := kind_in hF m3 rfl hk
 obtain ⟨b1, b2, b3⟩ := must_in hF a5 hm
 obtain ⟨i1, i2, l', i3, i4⟩ := mem_in hF _ _ _ b3 hmm
 obtain ⟨e1, e2, e3⟩ := must_in hF i2 h
 refine ⟨m1, trivial, e3, ?_⟩
 unfold kindN
 simp only
 rw [i3, List.nil_append, a2]
 exact ⟨_, by omega, m3, rfl, a3, (i4.low (by omega)).high (by omega)⟩

def overN (t : Tok) : List Tok := if t.kind.toList == [110, 97, 109, 101] then [t] else []
def varAll (v : PVar) : List Tok := v.name :: (overN v.over ++ overN v.type_)
def VarOk (v : PVar) : Prop := (v.over = noTok ∨ (v.over.kind.toList == [110, 97, 109, 101]) = true) ∧
 ((v.type_.kind.toList = [119, 111, 114, 100] ∧ v.type_.text.toList = [98, 111, 111, 108] ∧ v.top = noTok) ∨ (v.type_.kind.toList = [119, 111, 114, 100] ∧ v.type_.text.toList = [116, 111] ∧ DigT v.top ∧ v.top.kind.toList = [100, 105, 103, 105, 116]) ∨ (v.type_.kind.toList = [110, 97, 109, 101] ∧ v.top = noTok))
theorem overN_no : overN noTok = [] := by unfold overN; rw [noTok_kind]; rfl
theorem over_in {L : List Tok} (hF : FinT L) {st : RS} (hl : st.at_ < L.length) (h : (rOver L st).2.bad = false) : st.bad = false ∧ ((rOver L st).1 = noTok ∨ ((rOver L st).1.kind.toList == [110, 97, 109, 101]) = true) ∧ (rOver L st).2.at_ < L.length ∧ NamesIn L st.at_ (rOver L st).2.at_ (overN (rOver L st).1) := by
 unfold rOver at h ⊢
 by_cases hn : rNext L [91] st = true
 ·rw [if_pos hn] at h ⊢
  simp only at h ⊢
  have hk := must_up h
  obtain ⟨m1, m2, m3⟩ := must_in hF hl (kind_up hk)
  obtain ⟨a1, a2, a3, a4, a5⟩ := kind_in hF m3 rfl hk
  obtain ⟨e1, e2, e3⟩ := must_in hF a5 h
  refine ⟨m1, Or.inr (by rw [a2]; exact a3), e3, ?_⟩
  unfold overN
  rw [a2, a3, if_pos rfl]
  exact (one_in m3 a3 (by omega)).low (by omega)
 ·rw [if_neg hn] at h ⊢
  exact ⟨h, Or.inl rfl, hl, by rw [overN_no]; exact Nat.le_refl _⟩
theorem top_in {L : List Tok} (hL : ToksOk L) {st : RS} (hl : st.at_ < L.length) (h : (rTop L st).2.bad = false) : st.bad = false ∧ (rTop L st).2.at_ < L.length ∧
  (((tk L st.at_).kind.toList = [119, 111, 114, 100] ∧ (tk L st.at_).text.toList = [98, 111, 111, 108] ∧ (rTop L st).1 = noTok) ∨ ((tk L st.at_).kind.toList = [119, 111, 114, 100] ∧ (tk L st.at_).text.toList = [116, 111] ∧ DigT (rTop L st).1 ∧ (rTop L st).1.kind.toList = [100, 105, 103, 105, 116]) ∨ ((tk L st.at_).kind.toList = [110, 97, 109, 101] ∧ (rTop L st).1 = noTok)) ∧
  NamesIn L st.at_ (rTop L st).2.at_ (overN (tk L st.at_)) := by
 have hF := hL.finT
 have wordy : ∀ l : List UInt8, l ∈ lits → (∃ c r, l = c :: r ∧ (decide (97 ≤ (c.toNat : Int)) && decide ((c.toNat : Int) ≤ 122)) = true) → rNext L l st = true → (tk L st.at_).kind.toList = [119, 111, 114, 100] ∧ (tk L st.at_).text.toList = l ∧ overN (tk L st.at_) = [] := fun l hm hw hn => by
  have k := next_word hL hl hm hw hn
  rw [beq_iff_eq] at k
  exact ⟨k, (next_text hn).1, by unfold overN; rw [k]; rfl⟩
 unfold rTop at h ⊢
 by_cases hb : rNext L [98, 111, 111, 108] st = true
 ·rw [if_pos hb] at h ⊢
  simp only at h ⊢
  obtain ⟨m1, m2, m3⟩ := must_in hF hl h
  obtain ⟨k1, k2, k3⟩ := wordy _ (by decide) ⟨98, [111, 111, 108], rfl, by decide⟩ hb
  exact ⟨m1, m3, Or.inl ⟨k1, k2, by first | rfl | trivial⟩, by rw [k3]; show _ ≤ _; omega⟩
 ·rw [if_neg hb] at h ⊢
  by_cases ht : rNext L [116, 111] st = true
  ·rw [if_pos ht] at h ⊢
   obtain ⟨m1, m2, m3⟩ := must_in hF hl (kind_up h)
   obtain ⟨a1, a2, a3, a4, a5⟩ := kind_in hF m3 rfl h
   obtain ⟨k1, k2, k3⟩ := wordy _ (by decide) ⟨116, [111], rfl, by decide⟩ ht
   refine ⟨m1, a5, Or.inr (Or.inl ⟨k1, k2, by rw [a2]; exact digit_dig hL m3 a3, by rw [a2]; rw [beq_iff_eq] at a3; exact a3⟩), by rw [k3]; show _ ≤ _; omega⟩
  ·rw [if_neg ht] at h ⊢
   simp only at h ⊢
   obtain ⟨a1, a2, a3, a4, a5⟩ := kind_in hF hl rfl h
   refine ⟨a1, a5, Or.inr (Or.inr ⟨by rw [beq_iff_eq] at a3; exact a3, by first | rfl | trivial⟩), ?_⟩
   unfold overN
   rw [a3, if_pos rfl]
   exact one_in hl a3 (by omega)
theorem over_up {L : List Tok} {st : RS} (h : (rOver L st).2.bad = false) : st.bad = false := good_of fun e => by rw [rOver_bad e] at h; cases h
theorem top_up {L : List Tok} {st : RS} (h : (rTop L st).2.bad = false) : st.bad = false := good_of fun e => by rw [rTop_bad e] at h; cases h
theorem var_in {L : List Tok} (hL : ToksOk L) (st : RS) (hl : st.at_ < L.length) (h : (rVar L st).2.bad = false) : st.bad = false ∧ VarOk (rVar L st).1 ∧ (rVar L st).2.at_ < L.length ∧ NamesIn L st.at_ (rVar L st).2.at_ (varAll (rVar L st).1) := by
 have hF := hL.finT
 unfold rVar at h ⊢
 simp only at h ⊢
 have ht := must_up h
 have ho := top_up ht
 have hm := over_up ho
 have hk := must_up hm
 obtain ⟨m1, m2, m3⟩ := must_in hF hl (kind_up hk)
 obtain ⟨a1, a2, a3, a4, a5⟩ := kind_in hF m3 rfl hk
 obtain ⟨b1, b2, b3⟩ := must_in hF a5 hm
 obtain ⟨o1, o2, o3, o4⟩ := over_in hF b3 ho
 obtain ⟨t1, t2, t3, t4⟩ := top_in hL o3 ht
 obtain ⟨e1, e2, e3⟩ := must_in hF t2 h
 refine ⟨m1, ⟨o2, t3⟩, e3, ?_⟩
 unfold varAll
 simp only
 rw [a2]
 exact ⟨_, by omega, m3, rfl, a3, ((t4.app (o4.low (by omega))).high (by omega))⟩

def ruleAll (r : PRule) : List Tok := r.name :: (r.params.flatMap parAll ++ (namesL r.guard ++ insideL r.body))
def RuleOk (r : PRule) : Prop := XWell r.guard ∧ BWell r.body ∧ blen r.body ≤ 801
theorem params_up {L : List Tok} {st : RS} (h : (rParams L st).2.bad = false) : st.bad = false := good_of fun e => by rw [rParams_bad e] at h; cases h
theorem rule_in {L : List Tok} (hL : ToksOk L) (st : RS) (hl : st.at_ < L.length) (h : (rRule1 L st).2.bad = false) : st.bad = false ∧ RuleOk (rRule1 L st).1 ∧ (rRule1 L st).2.at_ < L.length ∧ NamesIn L st.at_ (rRule1 L st).2.at_ (ruleAll (rRule1 L st).1) := by
 have hF := hL.finT
 have hlen := hL.len
 unfold rRule1 at h ⊢
 simp only at h ⊢
 have hg : (ruleG L st).2.bad = false := stmts_up h
 have hm : (rMust L [105, 102] (ruleP L st).2).bad = false := expr_up hg
 have hp : (ruleP L st).2.bad = false := must_up hm
 have hk : (ruleK L st).2.bad = false := params_up hp
 obtain ⟨m1, m2, m3⟩ := must_in hF hl (kind_up hk)
 obtain ⟨a1, a2, a3, a4, a5⟩ := kind_in hF m3 rfl hk
 obtain ⟨p1, p2, p3⟩ := params_in hF a5 hp
 obtain ⟨b1, b2, b3⟩ := must_in hF p2 hm
 obtain ⟨x1, x2, x3, x4⟩ := expr_well hL b3 hg
 have s := rS_in hL _ _ _ x3 h
 have l1 := s.len
 have l2 := s.lt
 have hbl : blen (rS (fuelB L) 0 L (ruleG L st).2).1 ≤ 801 := by
  have : blen (rS (fuelB L) 0 L (ruleG L st).2).1 ≤ (rS (fuelB L) 0 L (ruleG L st).2).2.at_ := Nat.le_trans (Nat.le_add_left _ _) l1
  have l2' : (rS (fuelB L) 0 L (ruleG L st).2).2.at_ < L.length := l2
  omega
 refine ⟨m1, ⟨x2, s.well, hbl⟩, l2, ?_⟩
 unfold ruleAll
 simp only
 rw [show (ruleK L st).1 = _ from a2]
 refine ⟨_, by omega, m3, rfl, a3, ?_⟩
 have c1 : NamesIn L (ruleK L st).2.at_ (ruleP L st).2.at_ ((ruleP L st).1.flatMap parAll) := p3
 have c2 : NamesIn L (rMust L [105, 102] (ruleP L st).2).at_ (ruleG L st).2.at_ (namesL (ruleG L st).1) := x4
 have c3 := s.nms
 have a4' : (ruleK L st).2.at_ = (rMust L [114, 117, 108, 101] st).at_ + 1 := a4
 have b2' : (rMust L [105, 102] (ruleP L st).2).at_ = (ruleP L st).2.at_ + 1 := b2
 exact ((c3.app (c2.low (by omega))).app c1).low (by omega)
theorem never_in {L : List Tok} (hL : ToksOk L) (st : RS) (hl : st.at_ < L.length) (h : (rNever1 L st).2.bad = false) : st.bad = false ∧ (RuleOk (rNever1 L st).1 ∧ (rNever1 L st).1.body = .nil) ∧ (rNever1 L st).2.at_ < L.length ∧ NamesIn L st.at_ (rNever1 L st).2.at_ (ruleAll (rNever1 L st).1) := by
 have hF := hL.finT
 unfold rNever1 at h ⊢
 simp only at h ⊢
 have hg : (neverG L st).2.bad = false := must_up h
 have hp : (neverP L st).2.bad = false := expr_up hg
 have hk : (neverK L st).2.bad = false := params_up hp
 obtain ⟨m1, m2, m3⟩ := must_in hF hl (kind_up hk)
 obtain ⟨a1, a2, a3, a4, a5⟩ := kind_in hF m3 rfl hk
 obtain ⟨p1, p2, p3⟩ := params_in hF a5 hp
 obtain ⟨x1, x2, x3, x4⟩ := expr_well hL p2 hg
 obtain ⟨e1, e2, e3⟩ := must_in hF x3 h
 refine ⟨m1, ⟨⟨x2, trivial, by simp [blen]⟩, by first | rfl | trivial⟩, e3, ?_⟩
 unfold ruleAll
 simp only
 rw [show (neverK L st).1 = _ from a2, show insideL (Go.Deep.BT.nil : PB) = [] from rfl, List.append_nil]
 refine ⟨_, by omega, m3, rfl, a3, ?_⟩
 have c1 : NamesIn L (neverK L st).2.at_ (neverP L st).2.at_ ((neverP L st).1.flatMap parAll) := p3
 have c2 : NamesIn L (neverP L st).2.at_ (neverG L st).2.at_ (namesL (neverG L st).1) := x4
 have a4' : (neverK L st).2.at_ = (rMust L [110, 101, 118, 101, 114] st).at_ + 1 := a4
 have e2' : (rMust L [59] (neverG L st).2).at_ = (neverG L st).2.at_ + 1 := e2
 exact ((c2.app c1).low (by omega)).high (by omega)

theorem loopA_in {α : Type} {L : List Tok} {lit : List UInt8} {one : RS → α × RS} {nm : α → List Tok} {P : α → Prop} (h1 : ∀ s, s.at_ < L.length → (one s).2.bad = false → s.bad = false ∧ P (one s).1 ∧ (one s).2.at_ < L.length ∧ NamesIn L s.at_ (one s).2.at_ (nm (one s).1)) :
  ∀ (f : Nat) (l : List α) (s : RS), s.at_ < L.length → (loopA L lit one f l s).2.bad = false → s.bad = false ∧ (loopA L lit one f l s).2.at_ < L.length ∧ ∃ l', (loopA L lit one f l s).1 = l ++ l' ∧ (∀ x ∈ l', P x) ∧ NamesIn L s.at_ (loopA L lit one f l s).2.at_ (l'.flatMap nm)
 | 0, l, s, hl, h => ⟨h, hl, [], by simp [loopA], by simp, Nat.le_refl _⟩
 | f + 1, l, s, hl, h => by
  rw [loopA] at h ⊢
  by_cases hn : rNext L lit s = true
  ·rw [if_pos hn] at h ⊢
   have ho : (one s).2.bad = false := good_of fun e => by rw [loopA_bad e] at h; rw [e] at h; cases h
   obtain ⟨a1, a2, a3, a4⟩ := h1 s hl ho
   obtain ⟨b1, b2, l', b3, b4, b5⟩ := loopA_in h1 f _ _ a3 h
   refine ⟨a1, b2, (one s).1 :: l', by rw [b3, List.append_assoc]; rfl, ?_, b5.app a4⟩
   intro x hx
   rcases List.mem_cons.mp hx with rfl | hx
   ·exact a2
   ·exact b4 x hx
  ·rw [if_neg hn] at h ⊢
   exact ⟨h, hl, [], by simp, by simp, Nat.le_refl _⟩
theorem loopB_in {α : Type} {L : List Tok} {lit : List UInt8} {one : RS → α × RS} {nm : α → List Tok} {P : α → Prop} (h1 : ∀ s, s.at_ < L.length → (one s).2.bad = false → s.bad = false ∧ P (one s).1 ∧ (one s).2.at_ < L.length ∧ NamesIn L s.at_ (one s).2.at_ (nm (one s).1)) :
  ∀ (f : Nat) (l : List α) (s : RS), s.at_ < L.length → (loopB L lit one f l s).2.bad = false → s.bad = false ∧ (loopB L lit one f l s).2.at_ < L.length ∧ ∃ l', (loopB L lit one f l s).1 = l ++ l' ∧ (∀ x ∈ l', P x) ∧ NamesIn L s.at_ (loopB L lit one f l s).2.at_ (l'.flatMap nm)
 | 0, l, s, hl, h => ⟨h, hl, [], by simp [loopB], by simp, Nat.le_refl _⟩
 | f + 1, l, s, hl, h => by
  rw [loopB] at h ⊢
  by_cases hb : s.bad = true
  ·rw [if_pos hb] at h; rw [hb] at h; cases h
  ·rw [if_neg hb] at h ⊢
   by_cases hn : rNext L lit (one s).2 = true
   ·rw [if_pos hn] at h ⊢
    have ho : (one s).2.bad = false := good_of fun e => by rw [loopB_bad e] at h; rw [e] at h; cases h
    obtain ⟨a1, a2, a3, a4⟩ := h1 s hl ho
    obtain ⟨b1, b2, l', b3, b4, b5⟩ := loopB_in h1 f _ _ a3 h
    refine ⟨a1, b2, (one s).1 :: l', by rw [b3, List.append_assoc]; rfl, ?_, b5.app a4⟩
    intro x hx
    rcases List.mem_cons.mp hx with rfl | hx
    ·exact a2
    ·exact b4 x hx
   ·rw [if_neg hn] at h ⊢
    simp only at h ⊢
    obtain ⟨a1, a2, a3, a4⟩ := h1 s hl h
    exact ⟨a1, a3, [(one s).1], rfl, by intro x hx; rw [List.mem_singleton] at hx; subst hx; exact a2, by simpa using a4⟩

def treeAll (t : PTree) : List Tok := t.sets.flatMap setN ++ (t.kinds.flatMap kindN ++ (t.vars.flatMap varAll ++ (t.rules.flatMap ruleAll ++ t.nevers.flatMap ruleAll)))
structure TreeGood (L : List Tok) (t : PTree) : Prop where
 nms : NamesIn L 0 L.length (treeAll t)
 sets : ∀ s ∈ t.sets, DigT s.size
 vars : ∀ v ∈ t.vars, VarOk v
 rules : ∀ r ∈ t.rules, RuleOk r
 nevers : ∀ r ∈ t.nevers, RuleOk r ∧ r.body = .nil
theorem tree_good {L : List Tok} (hL : ToksOk L) (h : (rTree L).2 = none) : TreeGood L (rTree L).1 := by
 have hb : (treeN L).2.bad = false := by
  rw [rTree_two] at h
  cases hb : (treeN L).2.bad
  ·rfl
  ·rw [hb] at h; simp at h
 have hp := hL.pos
 have hN := hb
 unfold treeN at hN
 rw [rNevers_A] at hN
 have hR : (treeR L).2.bad = false := good_of fun e => by rw [loopA_bad e] at hN; rw [e] at hN; cases hN
 have hR' := hR
 unfold treeR at hR'
 rw [rRules_B] at hR'
 have hV : (treeV L).2.bad = false := good_of fun e => by rw [loopB_bad e] at hR'; rw [e] at hR'; cases hR'
 have hV' := hV
 unfold treeV at hV'
 rw [rVars_B] at hV'
 have hH : (rHeads L startR).2.2.bad = false := good_of fun e => by rw [loopB_bad e] at hV'; rw [e] at hV'; cases hV'
 have hH' := hH
 unfold rHeads at hH'
 simp only at hH'
 rw [rKinds_A] at hH'
 have hS : (rSets (fuelM L) L [] startR).2.bad = false := good_of fun e => by rw [loopA_bad e] at hH'; rw [e] at hH'; cases hH'
 rw [rSets_A] at hS
 obtain ⟨s1, s2, ls, s3, s4, s5⟩ := loopA_in (P := fun s => DigT s.size) (set_in hL) (fuelM L) [] startR hp hS
 rw [← rSets_A] at s2 s3 s5
 obtain ⟨k1, k2, lk, k3, k4, k5⟩ := loopA_in (P := fun _ => True) (kind1_in hL) (fuelM L) [] _ s2 hH'
 rw [← rKinds_A] at k2 k3 k5
 obtain ⟨v1, v2, lv, v3, v4, v5⟩ := loopB_in (P := VarOk) (var_in hL) (fuelM L) [] (rHeads L startR).2.2 k2 hV'
 rw [← rVars_B] at v2 v3 v5
 obtain ⟨r1, r2, lr, r3, r4, r5⟩ := loopB_in (P := RuleOk) (rule_in hL) (fuelM L) [] (treeV L).2 v2 hR'
 rw [← rRules_B] at r2 r3 r5
 obtain ⟨n1, n2, ln, n3, n4, n5⟩ := loopA_in (P := fun r => RuleOk r ∧ r.body = .nil) (never_in hL) (fuelM L) [] (treeR L).2 r2 hN
 rw [← rNevers_A] at n2 n3 n5
 have es : (rTree L).1.sets = ls := by show (rSets (fuelM L) L [] startR).1 = ls; rw [s3]; rfl
 have ek : (rTree L).1.kinds = lk := by show (rKinds (fuelM L) L [] (rSets (fuelM L) L [] startR).2).1 = lk; rw [k3]; rfl
 have ev : (rTree L).1.vars = lv := by show (rVars (fuelM L) L [] (rHeads L startR).2.2).1 = lv; rw [v3]; rfl
 have er : (rTree L).1.rules = lr := by show (rRules (fuelM L) L [] (treeV L).2).1 = lr; rw [r3]; rfl
 have en : (rTree L).1.nevers = ln := by show (rNevers (fuelM L) L [] (treeR L).2).1 = ln; rw [n3]; rfl
 refine ⟨?_, by rw [es]; exact s4, by rw [ev]; exact v4, by rw [er]; exact r4, by rw [en]; exact n4⟩
 unfold treeAll
 rw [es, ek, ev, er, en]
 have c1 : NamesIn L 0 (rSets (fuelM L) L [] startR).2.at_ (ls.flatMap setN) := s5
 have c2 : NamesIn L (rSets (fuelM L) L [] startR).2.at_ (rHeads L startR).2.2.at_ (lk.flatMap kindN) := k5
 have c3 : NamesIn L (rHeads L startR).2.2.at_ (treeV L).2.at_ (lv.flatMap varAll) := v5
 have c4 : NamesIn L (treeV L).2.at_ (treeR L).2.at_ (lr.flatMap ruleAll) := r5
 have c5 : NamesIn L (treeR L).2.at_ (treeN L).2.at_ (ln.flatMap ruleAll) := n5
 have c6 : (treeN L).2.at_ < L.length := n2
 exact (((((c5.app c4).app c3).app c2).app c1)).high (by omega)

end Go.Proofs.YtpmcnonmkghokaaGreatDoor
namespace Go.Proofs.YtpmcnonmkghokaaGreatDoor
open Go.RowKit
def noteL (z : Int) (l : List Tok) : Int := l.foldl (fun z t => firstI z t.at_) z
theorem noteL_app (z : Int) (a b : List Tok) : noteL z (a ++ b) = noteL (noteL z a) b := List.foldl_append ..
theorem firstI_ge {z : Int} (n : Nat) (h : -1 ≤ z) : -1 ≤ firstI z n := by unfold firstI; split <;> omega
theorem noteL_ge : ∀ (l : List Tok) {z : Int}, -1 ≤ z → -1 ≤ noteL z l
 | [], z, h => h
 | t :: l, z, h => noteL_ge l (firstI_ge _ h)
theorem noteL_some : ∀ (l : List Tok) (z : Int), 0 ≤ z → noteL z l ≤ z ∧ (∀ y ∈ l, noteL z l ≤ y.at_) ∧ (noteL z l = z ∨ ∃ y ∈ l, noteL z l = y.at_)
 | [], z, h => ⟨Int.le_refl _, fun y hy => by simp at hy, Or.inl rfl⟩
 | t :: l, z, h => by
  have h0 : 0 ≤ firstI z t.at_ := by unfold firstI; split <;> omega
  have hz : firstI z t.at_ ≤ z ∧ firstI z t.at_ ≤ t.at_ ∧ (firstI z t.at_ = z ∨ firstI z t.at_ = t.at_) := by unfold firstI; split <;> omega
  obtain ⟨a, b, c⟩ := noteL_some l _ h0
  have e : noteL z (t :: l) = noteL (firstI z t.at_) l := rfl
  rw [e]
  refine ⟨by omega, ?_, ?_⟩
  ·intro y hy
   rcases List.mem_cons.mp hy with rfl | hy
   ·omega
   ·exact b y hy
  ·rcases c with c | ⟨y, hy, c⟩
   ·rcases hz.2.2 with d | d
    ·exact Or.inl (by omega)
    ·exact Or.inr ⟨t, List.mem_cons_self .., by omega⟩
   ·exact Or.inr ⟨y, List.mem_cons_of_mem _ hy, c⟩
theorem noteL_least : ∀ (l : List Tok), l ≠ [] → (∃ y ∈ l, noteL (-1) l = y.at_) ∧ ∀ y ∈ l, noteL (-1) l ≤ y.at_
 | [], h => (h rfl).elim
 | t :: l, _ => by
  have e : noteL (-1) (t :: l) = noteL t.at_ l := by
   show noteL (firstI (-1) t.at_) l = _
   rw [show firstI (-1) (t.at_ : Int) = t.at_ by unfold firstI; rw [if_pos (by omega)]]
  obtain ⟨a, b, c⟩ := noteL_some l t.at_ (by omega)
  rw [e]
  constructor
  ·rcases c with c | ⟨y, hy, c⟩
   ·exact ⟨t, List.mem_cons_self .., c⟩
   ·exact ⟨y, List.mem_cons_of_mem _ hy, c⟩
  ·intro y hy
   rcases List.mem_cons.mp hy with rfl | hy
   ·exact a
   ·exact b y hy
theorem noteL_none {l : List Tok} (h : noteL (-1) l < 0) : l = [] := by
 by_cases e : l = []
 ·exact e
 ·obtain ⟨⟨y, _, hy⟩, _⟩ := noteL_least l e
  omega
theorem noteL_eq {a b : List Tok} (h1 : ∀ x ∈ a, ∃ y ∈ b, y.at_ ≤ x.at_) (h2 : ∀ y ∈ b, ∃ x ∈ a, x.at_ ≤ y.at_) : noteL (-1) a = noteL (-1) b := by
 by_cases ea : a = []
 ·subst ea
  by_cases eb : b = []
  ·subst eb; rfl
  ·obtain ⟨y, hy⟩ := List.exists_mem_of_ne_nil b eb
   obtain ⟨x, hx, _⟩ := h2 y hy
   simp at hx
 ·by_cases eb : b = []
  ·subst eb
   obtain ⟨x, hx⟩ := List.exists_mem_of_ne_nil a ea
   obtain ⟨y, hy, _⟩ := h1 x hx
   simp at hy
  ·obtain ⟨⟨x, hx, ex⟩, lx⟩ := noteL_least a ea
   obtain ⟨⟨y, hy, ey⟩, ly⟩ := noteL_least b eb
   obtain ⟨y', hy', l1⟩ := h1 x hx
   obtain ⟨x', hx', l2⟩ := h2 y hy
   have := lx x' hx'
   have := ly y' hy'
   omega
theorem note_first : ∀ (b : List Tok) (z : Int), 0 ≤ z → noteL z b = firstI z (noteL (-1) b)
 | [], z, h => by
  show z = firstI z (-1)
  unfold firstI; rw [if_neg (by omega)]
 | t :: b, z, h => by
  have e1 : noteL z (t :: b) = noteL (firstI z t.at_) b := rfl
  have e2 : noteL (-1) (t :: b) = noteL t.at_ b := by
   show noteL (firstI (-1) t.at_) b = _
   rw [show firstI (-1) (t.at_ : Int) = t.at_ by unfold firstI; rw [if_pos (by omega)]]
  have hg := noteL_ge b (z := -1) (by omega)
  rw [e1, e2, note_first b _ (by unfold firstI; split <;> omega), note_first b t.at_ (by omega)]
  generalize noteL (-1) b = m at hg
  unfold firstI
  repeat' split
  all_goals omega
theorem first_notes (a b : List Tok) : firstI (noteL (-1) a) (noteL (-1) b) = noteL (-1) (a ++ b) := by
 rw [noteL_app]
 by_cases e : a = []
 ·subst e
  show firstI (-1) _ = _
  unfold firstI; rw [if_pos (by omega)]; rfl
 ·obtain ⟨⟨y, _, hy⟩, _⟩ := noteL_least a e
  exact (note_first b _ (by rw [hy]; omega)).symm

def flagB (c : Bool) (t : Tok) : List Tok := if c then [t] else []
theorem mem_flagB {c : Bool} {t y : Tok} : y ∈ flagB c t ↔ c = true ∧ y = t := by
 unfold flagB; cases c <;> simp
def flagAt {α : Type} (g : Nat → α → List Tok) : List α → Nat → List Tok
 | [], _ => []
 | x :: l, i => g i x ++ flagAt g l (i + 1)
theorem mem_flagAt {α : Type} {g : Nat → α → List Tok} {y : Tok} : ∀ (l : List α) (k : Nat), y ∈ flagAt g l k ↔ ∃ i, ∃ h : i < l.length, y ∈ g (k + i) l[i]
 | [], k => by simp [flagAt]
 | x :: l, k => by
  rw [flagAt, List.mem_append, mem_flagAt l (k + 1)]
  constructor
  ·rintro (h | ⟨i, hi, h⟩)
   ·exact ⟨0, by simp, by simpa using h⟩
   ·exact ⟨i + 1, by simpa using hi, by simpa [Nat.add_assoc, Nat.add_comm 1 i] using h⟩
  ·rintro ⟨i, hi, h⟩
   rcases i with _ | i
   ·exact Or.inl (by simpa using h)
   ·exact Or.inr ⟨i, by simpa using hi, by simpa [Nat.add_assoc, Nat.add_comm 1 i] using h⟩
theorem foldAt_note {α : Type} {f : Int → Nat → α → Int} {g : Nat → α → List Tok} (h : ∀ a i x, -1 ≤ a → f a i x = noteL a (g i x)) : ∀ (l : List α) (i : Nat) (a : Int), -1 ≤ a → foldAt f l i a = noteL a (flagAt g l i)
 | [], i, a, _ => rfl
 | x :: l, i, a, ha => by
  rw [foldAt, flagAt, noteL_app, h a i x ha]
  exact foldAt_note h l _ _ (noteL_ge _ ha)
theorem foldl_note {α : Type} {f : Int → α → Int} {g : α → List Tok} (h : ∀ a x, -1 ≤ a → f a x = noteL a (g x)) : ∀ (l : List α) (a : Int), -1 ≤ a → l.foldl f a = noteL a (l.flatMap g)
 | [], a, _ => rfl
 | x :: l, a, ha => by
  rw [List.foldl_cons, List.flatMap_cons, noteL_app, h a x ha]
  exact foldl_note h l _ (noteL_ge _ ha)
theorem cnt_note (a : Int) (n : Nat) (most : Int) (t : Tok) : cntI a n most t = noteL a (flagB (decide (most ≤ (n : Int))) t) := by
 unfold cntI flagB
 by_cases h : most ≤ (n : Int)
 ·rw [if_pos h, if_pos (by simpa using h)]; rfl
 ·rw [if_neg h, if_neg (by simpa using h)]; rfl
theorem siz_note (a : Int) (t : Tok) (lo hi : Int) : sizI a t lo hi = noteL a (flagB (decide (digV t.text < lo ∨ hi < digV t.text)) t) := by
 unfold sizI flagB
 by_cases h : digV t.text < lo ∨ hi < digV t.text
 ·rw [if_pos h, if_pos (by simpa using h)]; rfl
 ·rw [if_neg h, if_neg (by simpa using h)]; rfl
theorem noteIf_note (c : Bool) (z : Int) (n : Tok) : noteIf c z n = noteL z (flagB c n) := by
 unfold noteIf flagB; cases c <;> rfl

def offB (t : Tok) (lo hi : Int) : Bool := decide (digV t.text < lo ∨ hi < digV t.text)
def qS (i : Nat) (s : PSet) : List Tok := flagB (decide ((2 : Int) ≤ i)) s.name ++ flagB (offB s.size 2 3) s.size
def qM (i : Nat) (m : Tok) : List Tok := flagB (decide ((4 : Int) ≤ i)) m
def qK (i : Nat) (k : PKind) : List Tok := flagB (decide ((2 : Int) ≤ i)) k.name ++ flagAt qM k.members 0
def qV (i : Nat) (v : VrT) : List Tok := flagB (decide ((4 : Int) ≤ i)) v.name ++ flagB ((v.si.form == 1) && offB v.si.top 1 3) v.si.top
def qP (i : Nat) (p : PP) : List Tok := flagB (decide ((2 : Int) ≤ i)) p.name
def qR (i : Nat) (r : PRule) : List Tok := flagB (decide ((5 : Int) ≤ i)) r.name ++ flagAt qP r.params 0
def qN (i : Nat) (r : PRule) : List Tok := flagB (decide ((3 : Int) ≤ i)) r.name ++ flagAt qP r.params 0
theorem pMany_note (m : MdL) : pManyI m = noteL (-1) ((((flagAt qS m.sets 0 ++ flagAt qK m.kinds 0) ++ flagAt qV m.vars 0) ++ flagAt qR m.rules 0) ++ flagAt qN m.nevers 0) := by
 have e1 : pm1 m = noteL (-1) (flagAt qS m.sets 0) := foldAt_note (fun a i x ha => by unfold pS qS; rw [cnt_note, siz_note, noteL_app]; rfl) _ _ _ (by omega)
 have g1 : -1 ≤ noteL (-1) (flagAt qS m.sets 0) := noteL_ge _ (by omega)
 have e2 : pm2 m = noteL (-1) (flagAt qS m.sets 0 ++ flagAt qK m.kinds 0) := by
  unfold pm2
  rw [e1, noteL_app]
  exact foldAt_note (fun a i x ha => by
   unfold pK qK
   rw [cnt_note, noteL_app]
   exact foldAt_note (fun a i x ha => by unfold pM qM; exact cnt_note _ _ _ _) _ _ _ (noteL_ge _ ha)) _ _ _ g1
 have g2 := noteL_ge (flagAt qS m.sets 0 ++ flagAt qK m.kinds 0) (z := -1) (by omega)
 have e3 : pm3 m = noteL (-1) ((flagAt qS m.sets 0 ++ flagAt qK m.kinds 0) ++ flagAt qV m.vars 0) := by
  unfold pm3
  rw [e2]
  refine Eq.trans ?_ (noteL_app _ _ _).symm
  exact foldAt_note (fun a i x ha => by
   unfold pV qV
   cases hk : (x.si.form == 1)
   ·rw [if_neg (by simp), cnt_note, noteL_app]; rfl
   ·rw [if_pos rfl, cnt_note, siz_note, noteL_app]; rfl) _ _ _ g2
 have g3 := noteL_ge ((flagAt qS m.sets 0 ++ flagAt qK m.kinds 0) ++ flagAt qV m.vars 0) (z := -1) (by omega)
 have pp : ∀ (l : List PP) (a : Int), -1 ≤ a → foldAt cntP l 0 a = noteL a (flagAt qP l 0) := fun l a ha => foldAt_note (fun a i x ha => by unfold cntP qP; exact cnt_note _ _ _ _) _ _ _ ha
 have e4 : pm4 m = noteL (-1) (((flagAt qS m.sets 0 ++ flagAt qK m.kinds 0) ++ flagAt qV m.vars 0) ++ flagAt qR m.rules 0) := by
  unfold pm4
  rw [e3]
  refine Eq.trans ?_ (noteL_app _ _ _).symm
  exact foldAt_note (fun a i x ha => by unfold pR qR; rw [cnt_note, noteL_app]; exact pp _ _ (noteL_ge _ ha)) _ _ _ g3
 have g4 := noteL_ge (((flagAt qS m.sets 0 ++ flagAt qK m.kinds 0) ++ flagAt qV m.vars 0) ++ flagAt qR m.rules 0) (z := -1) (by omega)
 unfold pManyI
 rw [e4]
 refine Eq.trans ?_ (noteL_app _ _ _).symm
 exact foldAt_note (fun a i x ha => by unfold pN qN; rw [cnt_note, noteL_app]; exact pp _ _ (noteL_ge _ ha)) _ _ _ g4

theorem TreeGood.pw {L : List Tok} {t : PTree} (hL : ToksOk L) (h : TreeGood L t) : (treeAll t).Pairwise (fun a b => a.at_ < b.at_) := (h.nms.ats hL.inc).2
end Go.Proofs.YtpmcnonmkghokaaGreatDoor
namespace Go.Proofs.YtpmcnonmkghokaaGreatDoor
open Go.RowKit
def sameG (x : Tok) (a : Int) (_ : Nat) (y : Tok) : Int := if y.text.toList == x.text.toList then firstI a x.at_ else a
def sameP (x : Tok) (a : Int) (_ : Nat) (q : PP) : Int := if q.name.text.toList == x.text.toList then firstI a x.at_ else a
def giveG (g : List Tok) (a : Int) (i : Nat) (x : Tok) : Int := foldAt (sameG x) (g.take i) 0 a
def giveP (g : List Tok) (ps : List PP) (a : Int) (k : Nat) (p : PP) : Int := foldAt (sameP p.name) (ps.take k) 0 (foldAt (sameG p.name) g 0 a)
def giveR (g : List Tok) (a : Int) (_ : Nat) (r : PRule) : Int := foldAt (giveP g r.params) r.params 0 a
def givenI (t : PTree) : Int := foldAt (giveR (globalsL t)) (t.rules ++ t.nevers) 0 (foldAt (giveG (globalsL t)) (globalsL t) 0 (-1))

end Go.Proofs.YtpmcnonmkghokaaGreatDoor
namespace Go.Proofs.YtpmcnonmkghokaaGreatDoor
open Go.RowKit
def usedO (o : Int) (x : Tok) (a : Int) : Int := if x.kind.toList == [110, 97, 109, 101] && decide (o < 0) then firstI a x.at_ else a
def usedT (s k : Int) (x : Tok) (a : Int) : Int := if x.kind.toList == [110, 97, 109, 101] && decide (s < 0) && decide (k < 0) then firstI a x.at_ else a
def usedV (t : PTree) (a : Int) (_ : Nat) (v : PVar) : Int :=
 usedT (lookI (setTexts t) v.type_.text.toList) (lookI (kindTexts t) v.type_.text.toList) v.type_ (usedO (lookI (setTexts t) v.over.text.toList) v.over a)
def usedP (t : PTree) (a : Int) (_ : Nat) (p : PP) : Int := if lookI (setTexts t) p.set_.text.toList < 0 then firstI a p.set_.at_ else a
def usedN (t : PTree) (ps : List PP) (a : Int) (_ : Nat) (n : Tok) : Int := if knownB t ps n.text.toList then a else firstI a n.at_
def usedR (t : PTree) (a : Int) (_ : Nat) (r : PRule) : Int := foldAt (usedN t r.params) (namesL r.guard ++ insideL r.body) 0 (foldAt (usedP t) r.params 0 a)
def used1 (t : PTree) : Int := foldAt (usedV t) t.vars 0 (-1)
def usedI (t : PTree) : Int := foldAt (usedR t) (t.rules ++ t.nevers) 0 (used1 t)

end Go.Proofs.YtpmcnonmkghokaaGreatDoor

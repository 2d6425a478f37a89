/-
  Plain facts on the trees that the reference makes of tokens: each name in them is a token of the text, one behind the other; no expression lacks a part; no list is longer than the tokens.
-/
import Derived.Test.YtpmcnonmkghokaaGreatT11
import Derived.Test.YtpmcnonmkghokaaGreatT00
set_option linter.unusedVariables false
set_option linter.unusedSimpArgs false
namespace Go.Proofs.YtpmcnonmkghokaaGreat
open Go.RowKit

/-- Behind a token that is not the end there is another. -/
def FinT (L : List Tok) : Prop := ∀ i, i < L.length → ((tk L i).kind.toList == [101, 110, 100]) = false → i + 1 < L.length
theorem ToksOk.finT {L : List Tok} (h : ToksOk L) : FinT L := by
  intro i hi hk
  have hp := h.pos
  by_cases e : i + 1 < L.length
  · exact e
  · have : i = L.length - 1 := by omega
    subst this
    rw [h.last] at hk; cases hk

/-- Names of the text, one behind the other, from token a on and ahead of b. -/
def NamesIn (L : List Tok) : Nat → Nat → List Tok → Prop
  | a, b, [] => a ≤ b
  | a, b, t :: l => ∃ i, a ≤ i ∧ i < L.length ∧ t = tk L i ∧ (t.kind.toList == [110, 97, 109, 101]) = true ∧ NamesIn L (i + 1) b l
theorem NamesIn.le {L : List Tok} : ∀ {l : List Tok} {a b : Nat}, NamesIn L a b l → a + l.length ≤ b
  | [], a, b, h => h
  | t :: l, a, b, ⟨i, h1, _, _, _, h⟩ => by have := h.le; simp; omega
theorem NamesIn.low {L : List Tok} {a a' b : Nat} (ha : a' ≤ a) : ∀ {l : List Tok}, NamesIn L a b l → NamesIn L a' b l
  | [], h => Nat.le_trans ha h
  | t :: l, ⟨i, h1, h⟩ => ⟨i, Nat.le_trans ha h1, h⟩
theorem NamesIn.high {L : List Tok} {b b' : Nat} (hb : b ≤ b') : ∀ {l : List Tok} {a : Nat}, NamesIn L a b l → NamesIn L a b' l
  | [], a, h => Nat.le_trans h hb
  | t :: l, a, ⟨i, h1, h2, h3, h4, h⟩ => ⟨i, h1, h2, h3, h4, h.high hb⟩
theorem NamesIn.app {L : List Tok} {b c : Nat} {m : List Tok} (hm : NamesIn L b c m) : ∀ {l : List Tok} {a : Nat}, NamesIn L a b l → NamesIn L a c (l ++ m)
  | [], a, h => hm.low h
  | t :: l, a, ⟨i, h1, h2, h3, h4, h⟩ => ⟨i, h1, h2, h3, h4, NamesIn.app hm h⟩
theorem NamesIn.mem {L : List Tok} : ∀ {l : List Tok} {a b : Nat}, NamesIn L a b l → ∀ t ∈ l, t ∈ L ∧ (t.kind.toList == [110, 97, 109, 101]) = true
  | [], _, _, _, t, ht => by simp at ht
  | u :: l, a, b, ⟨i, h1, h2, h3, h4, h⟩, t, ht => by
    rcases List.mem_cons.mp ht with rfl | ht
    · exact ⟨h3 ▸ tk_mem h2, h4⟩
    · exact h.mem t ht
/-- The same names, by their numbers. -/
theorem NamesIn.ats {L : List Tok} (hL : L.Pairwise (fun a b => a.at_ < b.at_)) : ∀ {l : List Tok} {a b : Nat}, NamesIn L a b l → (∀ t ∈ l, ∀ i, i < a → i < L.length → (tk L i).at_ < t.at_) ∧ l.Pairwise (fun a b => a.at_ < b.at_)
  | [], _, _, _ => ⟨fun t ht => by simp at ht, List.Pairwise.nil⟩
  | u :: l, a, b, ⟨i, h1, h2, h3, h4, h⟩ => by
    obtain ⟨g1, g2⟩ := h.ats hL
    have lt : ∀ i j, i < j → j < L.length → (tk L i).at_ < (tk L j).at_ := by
      intro i j hij hj
      have e : ∀ k, k < L.length → tk L k = L.getD k (endTok 0) := fun k hk => rfl
      have hi : i < L.length := by omega
      have := List.pairwise_iff_getElem.mp hL i j hi hj hij
      unfold tk
      rw [show L.getD i (endTok 0) = L[i] by simp [List.getD, hi], show L.getD j (endTok 0) = L[j] by simp [List.getD, hj]]
      exact this
    refine ⟨?_, List.pairwise_cons.mpr ⟨fun t ht => ?_, g2⟩⟩
    · intro t ht k hk hkl
      rcases List.mem_cons.mp ht with rfl | ht
      · rw [h3]; exact lt k i (by omega) h2
      · exact g1 t ht k (by omega) hkl
    · rw [h3]; exact g1 t ht i (by omega) h2

theorem next_in {L : List Tok} {s : List UInt8} {st : RS} (hF : FinT L) (hl : st.at_ < L.length) (hn : rNext L s st = true) : st.bad = false ∧ st.at_ + 1 < L.length := by
  unfold rNext nextB at hn
  simp only [Bool.and_eq_true, Bool.or_eq_true, Bool.not_eq_true'] at hn
  refine ⟨hn.1.1, hF _ hl ?_⟩
  rcases hn.1.2 with e | e <;> (rw [beq_iff_eq] at e; rw [e]; rfl)
theorem must_in {L : List Tok} {s : List UInt8} {st : RS} (hF : FinT L) (hl : st.at_ < L.length) (h : (rMust L s st).bad = false) : st.bad = false ∧ (rMust L s st).at_ = st.at_ + 1 ∧ (rMust L s st).at_ < L.length := by
  have h1 := rMust_ok h
  have hn : rNext L s st = true := by
    cases hn : rNext L s st
    · unfold rMust at h; rw [hn] at h; simp at h
    · rfl
  have := next_in hF hl hn
  exact ⟨this.1, h1, by omega⟩
theorem kind_in {L : List Tok} {s : List UInt8} {st : RS} (hF : FinT L) (hl : st.at_ < L.length) (hs : (s == [101, 110, 100]) = false) (h : (rKind L s st).2.bad = false) :
    st.bad = false ∧ (rKind L s st).1 = tk L st.at_ ∧ ((tk L st.at_).kind.toList == s) = true ∧ (rKind L s st).2.at_ = st.at_ + 1 ∧ (rKind L s st).2.at_ < L.length := by
  have h1 := rKind_ok h
  have hn : rKindOk L s st = true := by
    cases hn : rKindOk L s st
    · unfold rKind at h; rw [hn] at h; simp at h
    · rfl
  have e : (rKind L s st).1 = tk L st.at_ := by unfold rKind; rw [hn]; rfl
  unfold rKindOk at hn
  simp only [Bool.and_eq_true, Bool.not_eq_true'] at hn
  have hk := hn.2
  have : st.at_ + 1 < L.length := hF _ hl (by rw [beq_iff_eq] at hk; rw [hk]; exact hs)
  exact ⟨hn.1, e, hk, h1, by omega⟩

def sName : List UInt8 := [110, 97, 109, 101]
theorem namesL_opX (o : ByteArray) (a b : PX) (ho : (o.toList == [112, 108, 97, 99, 101]) = false) : namesL (opX o a b) = namesL a ++ namesL b := by
  show (ownNames _ ++ namesL a) ++ namesL b = _
  unfold ownNames
  rw [ho]; rfl
theorem bin_noPlace {n : Nat} {t : Tok} (h : isBin n t = true) : (t.text.toList == [112, 108, 97, 99, 101]) = false ∧ leafOp t.text = false := by
  unfold isBin at h
  rw [Bool.and_eq_true] at h
  have h1 := h.1
  rw [List.any_eq_true] at h1
  obtain ⟨s, hs, e⟩ := h1
  rw [beq_iff_eq] at e
  unfold leafOp
  rw [← e]
  have all : ∀ n, ∀ s ∈ binSigns n, s.toList = [124] ∨ s.toList = [38] ∨ s.toList = [61, 61] ∨ s.toList = [33, 61] ∨ s.toList = [60] ∨ s.toList = [43] ∨ s.toList = [45] := by
    intro n s hs
    have : ∀ l : List UInt8, (⟨l.toArray⟩ : ByteArray).toList = l := toList_lit
    rcases n with _ | _ | _ | n <;> simp only [binSigns, List.mem_cons, List.not_mem_nil, or_false] at hs
    · subst hs; exact Or.inl (this [124])
    · subst hs; exact Or.inr (Or.inl (this [38]))
    · rcases hs with rfl | rfl | rfl
      · exact Or.inr (Or.inr (Or.inl (this [61, 61])))
      · exact Or.inr (Or.inr (Or.inr (Or.inl (this [33, 61]))))
      · exact Or.inr (Or.inr (Or.inr (Or.inr (Or.inl (this [60])))))
    · rcases hs with rfl | rfl
      · exact Or.inr (Or.inr (Or.inr (Or.inr (Or.inr (Or.inl (this [43]))))))
      · exact Or.inr (Or.inr (Or.inr (Or.inr (Or.inr (Or.inr (this [45]))))))
  rcases all n s hs with e | e | e | e | e | e | e <;> rw [e] <;> decide
theorem const_leaf {t : Tok} (h : isConst t = true) : (t.text.toList == [112, 108, 97, 99, 101]) = false ∧ leafOp t.text = true := by
  unfold isConst at h
  rw [Bool.and_eq_true] at h
  have h1 := h.2
  unfold leafOp
  simp only [Bool.or_eq_true, beq_iff_eq] at h1
  rcases h1 with (e | e) | e <;> rw [e] <;> decide

theorem place_in {L : List Tok} {st : RS} (hF : FinT L) (hl : st.at_ < L.length) (h : (rPlace L st).2.bad = false) :
    st.bad = false ∧ XOk (rPlace L st).1 ∧ isNil (rPlace L st).1 = false ∧ (rPlace L st).2.at_ < L.length ∧ NamesIn L st.at_ (rPlace L st).2.at_ (namesL (rPlace L st).1) := by
  have hlf : leafOp sPlace = true := by
    unfold leafOp
    rw [show sPlace.toList = [112, 108, 97, 99, 101] from toList_lit _]; rfl
  have hpl : (sPlace.toList == [112, 108, 97, 99, 101]) = true := by rw [show sPlace.toList = [112, 108, 97, 99, 101] from toList_lit _]; rfl
  unfold rPlace at h ⊢
  simp only at h ⊢
  by_cases hn : rNext L [91] (rKind L [110, 97, 109, 101] st).2 = true
  · rw [if_pos hn] at h ⊢
    simp only at h ⊢
    have n1 := fun hl => next_in hF hl hn
    have hk : (rKind L [110, 97, 109, 101] st).2.bad = false := by
      cases hb : (rKind L [110, 97, 109, 101] st).2.bad
      · rfl
      · rw [rNext_bad hb] at hn; cases hn
    obtain ⟨a1, a2, a3, a4, a5⟩ := kind_in hF hl rfl hk
    have hk2 : (rKind L [110, 97, 109, 101] (rMust L [91] (rKind L [110, 97, 109, 101] st).2)).2.bad = false := by
      cases hb : (rKind L [110, 97, 109, 101] (rMust L [91] (rKind L [110, 97, 109, 101] st).2)).2.bad
      · rfl
      · rw [rMust_bad hb] at h; cases h
    have hm : (rMust L [91] (rKind L [110, 97, 109, 101] st).2).bad = false := by
      cases hb : (rMust L [91] (rKind L [110, 97, 109, 101] st).2).bad
      · rfl
      · rw [rKind_bad hb] at hk2; cases hk2
    obtain ⟨b1, b2, b3⟩ := must_in hF a5 hm
    obtain ⟨c1, c2, c3, c4, c5⟩ := kind_in hF b3 rfl hk2
    obtain ⟨d1, d2, d3⟩ := must_in hF c5 h
    refine ⟨a1, ⟨Or.inl hlf, trivial, trivial⟩, rfl, d3, ?_⟩
    rw [show namesL (.node 0 0 { op := sPlace, name := (rKind L [110, 97, 109, 101] st).1, index := (rKind L [110, 97, 109, 101] (rMust L [91] (rKind L [110, 97, 109, 101] st).2)).1, n := 0 } .nil .nil) = [tk L st.at_, tk L (rMust L [91] (rKind L [110, 97, 109, 101] st).2).at_] by
      simp only [namesL, ownNames]
      rw [hpl, a2, c2, c3]; rfl]
    exact ⟨st.at_, Nat.le_refl _, hl, rfl, a3, _, by omega, b3, rfl, c3, by show _ ≤ _; omega⟩
  · rw [if_neg hn] at h ⊢
    simp only at h ⊢
    obtain ⟨a1, a2, a3, a4, a5⟩ := kind_in hF hl rfl h
    refine ⟨a1, ⟨Or.inl hlf, trivial, trivial⟩, rfl, a5, ?_⟩
    rw [show namesL (.node 0 0 { op := sPlace, name := (rKind L [110, 97, 109, 101] st).1, index := noTok, n := 0 } .nil .nil) = [tk L st.at_] by
      simp only [namesL, ownNames]
      rw [hpl, a2, show (noTok.kind.toList == [110, 97, 109, 101]) = false by rw [show noTok.kind.toList = [] from toList_lit _]; rfl]; rfl]
    exact ⟨st.at_, Nat.le_refl _, hl, rfl, a3, by show _ ≤ _; omega⟩

/-- How much a tag wants beyond the tokens. -/
def ndC (tag : Nat) : Nat := if tag < 10 then 7 - tag else if tag < 20 then 1 else 2
def preX (tag : Nat) (x : PX) : List Tok := if 10 ≤ tag ∧ tag < 20 then namesL x else []

theorem rX_in (L : List Tok) (hF : FinT L) : ∀ (f tag : Nat) (x : PX) (st : RS), (tag ≤ 4 ∨ (10 ≤ tag ∧ tag ≤ 13) ∨ (20 ≤ tag ∧ tag ≤ 32)) → 8 * (L.length - st.at_) + ndC tag ≤ f → st.at_ < L.length →
    (10 ≤ tag → tag < 20 → isNil x = false ∧ XOk x) → (rX f tag x L st).2.bad = false →
    st.bad = false ∧ XOk (rX f tag x L st).1 ∧ isNil (rX f tag x L st).1 = false ∧ (rX f tag x L st).2.at_ < L.length ∧ ∃ l, namesL (rX f tag x L st).1 = preX tag x ++ l ∧ NamesIn L st.at_ (rX f tag x L st).2.at_ l
  | 0, tag, x, st, ht, hf, hl, hx, h => by exfalso; unfold ndC at hf; split at hf <;> (try split at hf) <;> omega
  | f + 1, tag, x, st, ht, hf, hl, hx, h => by
    have ih := rX_in L hF f
    have hb : st.bad = false := by
      cases hb : st.bad
      · rfl
      · rw [rX_bad hb] at h; rw [hb] at h; cases h
    refine ⟨hb, ?_⟩
    have hbf : ¬ st.bad = true := by rw [hb]; simp
    rw [rX] at h ⊢
    by_cases t4 : tag < 4
    · rw [if_pos t4, if_neg hbf] at h ⊢
      have nd : ndC tag = 7 - tag := by unfold ndC; rw [if_pos (by omega)]
      have h1 : (rX f (tag + 1) .nil L st).2.bad = false := by
        cases hb1 : (rX f (tag + 1) .nil L st).2.bad
        · rfl
        · rw [rX_bad hb1, hb1] at h; cases h
      obtain ⟨a1, a2, a3, a4, l1, a5, a6⟩ := ih (tag + 1) .nil st (Or.inl (by omega)) (by rw [show ndC (tag + 1) = 7 - (tag + 1) by unfold ndC; rw [if_pos (by omega)]]; omega) hl (fun h1 h2 => by omega) h1
      have le1 := a6.le
      obtain ⟨b1, b2, b3, b4, l2, b5, b6⟩ := ih (10 + tag) (rX f (tag + 1) .nil L st).1 (rX f (tag + 1) .nil L st).2 (Or.inr (Or.inl ⟨by omega, by omega⟩)) (by rw [show ndC (10 + tag) = 1 by unfold ndC; rw [if_neg (by omega), if_pos (by omega)]]; omega) a4 (fun _ _ => ⟨a3, a2⟩) h
      refine ⟨b2, b3, b4, l1 ++ l2, ?_, b6.app a6⟩
      rw [b5]
      simp only [preX]
      rw [if_pos ⟨by omega, by omega⟩, if_neg (by omega), a5]
      simp only [preX]
      rw [if_neg (by omega)]
      simp
    · rw [if_neg t4] at h ⊢
      by_cases t10 : tag < 10
      · rw [if_pos t10, if_neg hbf] at h ⊢
        have t : tag = 4 := by omega
        subst t
        have nd : ndC 4 = 3 := rfl
        obtain ⟨a1, a2, a3, a4, l1, a5, a6⟩ := ih 20 .nil st (Or.inr (Or.inr ⟨by omega, by omega⟩)) (by show _ + 2 ≤ f; omega) hl (fun h1 h2 => by omega) h
        exact ⟨a2, a3, a4, l1, a5, a6⟩
      · rw [if_neg t10] at h ⊢
        by_cases t20 : tag < 20
        · rw [if_pos t20, if_neg hbf] at h ⊢
          obtain ⟨x1, x2⟩ := hx (by omega) t20
          have pr : preX tag x = namesL x := by unfold preX; rw [if_pos ⟨by omega, t20⟩]
          have nd : ndC tag = 1 := by unfold ndC; rw [if_neg (by omega), if_pos (by omega)]
          by_cases hbin : isBin (tag - 10) (tk L st.at_) = true
          · rw [if_pos hbin] at h ⊢
            obtain ⟨np, lf⟩ := bin_noPlace hbin
            have hsg : st.at_ + 1 < L.length := hF _ hl (by
              unfold isBin at hbin
              rw [Bool.and_eq_true] at hbin
              have := hbin.2
              rw [beq_iff_eq] at this
              rw [this]; rfl)
            have nd' : ndC (tag - 9) = 7 - (tag - 9) := by unfold ndC; rw [if_pos (by omega)]
            have sub : (rX f (tag - 9) .nil L { st with at_ := st.at_ + 1 }).2.bad = false → XOk (rX f (tag - 9) .nil L { st with at_ := st.at_ + 1 }).1 ∧ isNil (rX f (tag - 9) .nil L { st with at_ := st.at_ + 1 }).1 = false ∧ (rX f (tag - 9) .nil L { st with at_ := st.at_ + 1 }).2.at_ < L.length ∧
                ∃ l, namesL (rX f (tag - 9) .nil L { st with at_ := st.at_ + 1 }).1 = l ∧ NamesIn L (st.at_ + 1) (rX f (tag - 9) .nil L { st with at_ := st.at_ + 1 }).2.at_ l := by
              intro h1
              obtain ⟨a1, a2, a3, a4, l1, a5, a6⟩ := ih (tag - 9) .nil { st with at_ := st.at_ + 1 } (Or.inl (by omega)) (by rw [nd']; simp only; omega) hsg (fun h1 h2 => by omega) h1
              refine ⟨a2, a3, a4, l1, ?_, a6⟩
              rw [a5]; unfold preX; rw [if_neg (by omega)]; rfl
            by_cases t12 : tag = 12
            · rw [if_pos t12] at h ⊢
              simp only at h ⊢
              obtain ⟨a2, a3, a4, l1, a5, a6⟩ := sub h
              refine ⟨⟨Or.inr x1, x2, a2⟩, rfl, a4, l1, ?_, a6.low (by omega)⟩
              rw [namesL_opX _ _ _ np, a5, pr]
            · rw [if_neg t12] at h ⊢
              have h1 : (rX f (tag - 9) .nil L { st with at_ := st.at_ + 1 }).2.bad = false := by
                cases hb1 : (rX f (tag - 9) .nil L { st with at_ := st.at_ + 1 }).2.bad
                · rfl
                · rw [rX_bad hb1, hb1] at h; cases h
              obtain ⟨a2, a3, a4, l1, a5, a6⟩ := sub h1
              have le1 := a6.le
              obtain ⟨b1, b2, b3, b4, l2, b5, b6⟩ := ih tag (opX (tk L st.at_).text x (rX f (tag - 9) .nil L { st with at_ := st.at_ + 1 }).1) (rX f (tag - 9) .nil L { st with at_ := st.at_ + 1 }).2 (Or.inr (Or.inl ⟨by omega, by omega⟩)) (by rw [nd]; omega) a4 (fun _ _ => ⟨rfl, ⟨Or.inr x1, x2, a2⟩⟩) h
              refine ⟨b2, b3, b4, l1 ++ l2, ?_, b6.app (a6.low (by omega))⟩
              rw [b5]
              rw [show preX tag (opX (tk L st.at_).text x (rX f (tag - 9) .nil L { st with at_ := st.at_ + 1 }).1) = namesL (opX (tk L st.at_).text x (rX f (tag - 9) .nil L { st with at_ := st.at_ + 1 }).1) by unfold preX; rw [if_pos ⟨by omega, t20⟩], namesL_opX _ _ _ np, a5, pr, List.append_assoc]
          · rw [if_neg hbin] at h ⊢
            exact ⟨x2, x1, hl, [], by rw [pr, List.append_nil], Nat.le_refl _⟩
        · rw [if_neg t20, if_neg hbf] at h ⊢
          have pr : preX tag x = [] := by unfold preX; rw [if_neg (by omega)]
          have nd : ndC tag = 2 := by unfold ndC; rw [if_neg (by omega), if_neg (by omega)]
          by_cases n33 : rNext L [33] st = true
          · rw [if_pos n33] at h ⊢
            by_cases t32 : tag = 32
            · rw [if_pos t32] at h; simp at h
            · rw [if_neg t32] at h ⊢
              simp only at h ⊢
              have h1 : (rMust L [33] st).bad = false := by
                cases hb1 : (rMust L [33] st).bad
                · rfl
                · rw [rX_bad hb1, hb1] at h; cases h
              obtain ⟨m1, m2, m3⟩ := must_in hF hl h1
              obtain ⟨a1, a2, a3, a4, l1, a5, a6⟩ := ih (tag + 1) .nil (rMust L [33] st) (Or.inr (Or.inr ⟨by omega, by omega⟩)) (by rw [show ndC (tag + 1) = 2 by unfold ndC; rw [if_neg (by omega), if_neg (by omega)]]; omega) m3 (fun h1 h2 => by omega) h
              refine ⟨⟨Or.inr a3, a2, trivial⟩, rfl, a4, l1, ?_, a6.low (by omega)⟩
              rw [namesL_opX _ _ _ (by rw [show sBang.toList = [33] from toList_lit _]; rfl), a5, pr]
              simp only [preX]
              rw [if_neg (by omega)]
              simp [namesL]
          · rw [if_neg n33] at h ⊢
            by_cases n40 : rNext L [40] st = true
            · rw [if_pos n40] at h ⊢
              simp only at h ⊢
              have h1 : (rX f 0 .nil L (rMust L [40] st)).2.bad = false := by
                cases hb1 : (rX f 0 .nil L (rMust L [40] st)).2.bad
                · rfl
                · rw [rMust_bad hb1] at h; cases h
              have h0 : (rMust L [40] st).bad = false := by
                cases hb1 : (rMust L [40] st).bad
                · rfl
                · rw [rX_bad hb1, hb1] at h1; cases h1
              obtain ⟨m1, m2, m3⟩ := must_in hF hl h0
              obtain ⟨a1, a2, a3, a4, l1, a5, a6⟩ := ih 0 .nil (rMust L [40] st) (Or.inl (by omega)) (by show _ + 7 ≤ f; omega) m3 (fun h1 h2 => by omega) h1
              obtain ⟨e1, e2, e3⟩ := must_in hF a4 h
              exact ⟨a2, a3, e3, l1, by rw [a5, pr]; rfl, (a6.low (by omega)).high (by omega)⟩
            · rw [if_neg n40] at h ⊢
              by_cases hc : isConst (tk L st.at_) = true
              · rw [if_pos hc] at h ⊢
                obtain ⟨np, lf⟩ := const_leaf hc
                have hsg : st.at_ + 1 < L.length := hF _ hl (by
                  unfold isConst at hc
                  rw [Bool.and_eq_true] at hc
                  have := hc.1
                  rw [beq_iff_eq] at this
                  rw [this]; rfl)
                refine ⟨⟨Or.inl lf, trivial, trivial⟩, rfl, hsg, [], ?_, by show _ ≤ _; simp⟩
                rw [namesL_opX _ _ _ np, pr]; rfl
              · rw [if_neg hc] at h ⊢
                by_cases hd : isDig (tk L st.at_) = true
                · rw [if_pos hd] at h ⊢
                  have hsg : st.at_ + 1 < L.length := hF _ hl (by
                    unfold isDig at hd
                    rw [beq_iff_eq] at hd
                    rw [hd]; rfl)
                  have hk : kDigit.toList = [100, 105, 103, 105, 116] := toList_lit _
                  refine ⟨⟨Or.inl (by unfold leafOp; simp only; rw [hk]; rfl), trivial, trivial⟩, rfl, hsg, [], ?_, by show _ ≤ _; simp⟩
                  rw [pr]
                  show (ownNames _ ++ _) ++ _ = _
                  unfold ownNames
                  simp only
                  rw [hk]; rfl
                · rw [if_neg hd] at h ⊢
                  obtain ⟨p1, p2, p3, p4, p5⟩ := place_in hF hl h
                  exact ⟨p2, p3, p4, _, by rw [pr]; rfl, p5⟩

/-- An expression from its head on. -/
theorem expr_in {L : List Tok} (hF : FinT L) {st : RS} (hl : st.at_ < L.length) (h : (rX (fuelX L) 0 .nil L st).2.bad = false) :
    st.bad = false ∧ XOk (rX (fuelX L) 0 .nil L st).1 ∧ isNil (rX (fuelX L) 0 .nil L st).1 = false ∧ (rX (fuelX L) 0 .nil L st).2.at_ < L.length ∧ NamesIn L st.at_ (rX (fuelX L) 0 .nil L st).2.at_ (namesL (rX (fuelX L) 0 .nil L st).1) := by
  obtain ⟨a1, a2, a3, a4, l, a5, a6⟩ := rX_in L hF (fuelX L) 0 .nil st (Or.inl (by omega)) (by show _ + 7 ≤ _; unfold fuelX; omega) hl (fun h1 _ => by omega) h
  exact ⟨a1, a2, a3, a4, by rw [a5]; exact a6⟩

end Go.Proofs.YtpmcnonmkghokaaGreat

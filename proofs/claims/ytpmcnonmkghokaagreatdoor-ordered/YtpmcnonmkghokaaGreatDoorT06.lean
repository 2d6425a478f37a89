/-
  The program's sum, comparison, and, expr.
  The program's statements: how they lie in memory.
-/
import Derived.Test.YtpmcnonmkghokaaGreatDoorT05
set_option linter.unusedVariables false
set_option linter.unusedSimpArgs false
namespace Go.Proofs.YtpmcnonmkghokaaGreatDoor
open Go.RowKit
theorem TokOk.noWord {t : Tok} (h : TokOk t) {c : UInt8} {r : List UInt8} (ht : t.text.toList = c :: r) (hc : (decide (97 ≤ (c.toNat : Int)) && decide ((c.toNat : Int) ≤ 122)) = false) : (t.kind.toList == [119, 111, 114, 100]) = false := by
  have h1 := h.word
  rw [letB_head ht, hc] at h1
  cases hk : (t.kind.toList == [119, 111, 114, 100])
  · rfl
  · rw [hk] at h1; simp at h1
theorem next_sign {L : List Tok} {st : RS} (hL : ToksOk L) (hlt : st.at_ < L.length) (hb : st.bad = false) {l : List UInt8} (hl : ∃ c r, l = c :: r ∧ (decide (97 ≤ (c.toNat : Int)) && decide ((c.toNat : Int) ≤ 122)) = false) : rNext L l st = (((tk L st.at_).kind.toList == [115, 105, 103, 110]) && ((tk L st.at_).text.toList == l)) := by
  obtain ⟨c, r, e, hc⟩ := hl
  unfold rNext nextB
  rw [hb]
  cases ht : ((tk L st.at_).text.toList == l)
  · simp
  · rw [beq_iff_eq] at ht
    rw [(hL.ok _ hlt).noWord (ht.trans e) hc]; simp
theorem beq_swap (a b : List UInt8) : (a == b) = (b == a) := by
  cases h : (a == b)
  · cases h2 : (b == a)
    · rfl
    · rw [beq_iff_eq] at h2; subst h2; simp at h
  · rw [beq_iff_eq] at h; subst h; simp
theorem bin0 {L : List Tok} {st : RS} (hL : ToksOk L) (hlt : st.at_ < L.length) (hb : st.bad = false) : isBin 0 (tk L st.at_) = rNext L [124] st := by
  rw [next_sign hL hlt hb ⟨_, _, rfl, by decide⟩]
  simp only [isBin, binSigns, List.any_cons, List.any_nil, Bool.or_false]
  rw [toList_lit [124], beq_swap, Bool.and_comm]
theorem bin1 {L : List Tok} {st : RS} (hL : ToksOk L) (hlt : st.at_ < L.length) (hb : st.bad = false) : isBin 1 (tk L st.at_) = rNext L [38] st := by
  rw [next_sign hL hlt hb ⟨_, _, rfl, by decide⟩]
  simp only [isBin, binSigns, List.any_cons, List.any_nil, Bool.or_false]
  rw [toList_lit [38], beq_swap, Bool.and_comm]
theorem bin3 {L : List Tok} {st : RS} (hL : ToksOk L) (hlt : st.at_ < L.length) (hb : st.bad = false) : isBin 3 (tk L st.at_) = (rNext L [43] st || rNext L [45] st) := by
  rw [next_sign hL hlt hb ⟨_, _, rfl, by decide⟩, next_sign hL hlt hb ⟨_, _, rfl, by decide⟩]
  simp only [isBin, binSigns, List.any_cons, List.any_nil, Bool.or_false]
  rw [toList_lit [43], toList_lit [45], beq_swap [43], beq_swap [45]]
  cases ((tk L st.at_).kind.toList == [115, 105, 103, 110]) <;> simp
theorem bin2 {L : List Tok} {st : RS} (hL : ToksOk L) (hlt : st.at_ < L.length) (hb : st.bad = false) : isBin 2 (tk L st.at_) = (rNext L [61, 61] st || rNext L [33, 61] st || rNext L [60] st) := by
  rw [next_sign hL hlt hb ⟨_, _, rfl, by decide⟩, next_sign hL hlt hb ⟨_, _, rfl, by decide⟩, next_sign hL hlt hb ⟨_, _, rfl, by decide⟩]
  simp only [isBin, binSigns, List.any_cons, List.any_nil, Bool.or_false]
  rw [toList_lit [61, 61], toList_lit [33, 61], toList_lit [60], beq_swap [61, 61], beq_swap [33, 61], beq_swap [60]]
  cases ((tk L st.at_).kind.toList == [115, 105, 103, 110]) <;> simp [Bool.or_assoc]

/-- What is left behind the first part of a level. -/
def TLeft (L : List Tok) (n F : Nat) (fin : PX × RS) (t : PX) (s : RS) : Prop :=
  (s.bad = true ∧ fin.2 = s) ∨ (s.bad = false ∧ ∃ g, g < F ∧ 8 * (L.length - s.at_) + 1 ≤ g ∧ rX g (10 + n) t L s = fin)
theorem tLeft_start {L : List Tok} {n f : Nat} {st : RS} {t : PX} (hn : n < 4) (hf : st.bad = false → 8 * (L.length - st.at_) + (7 - n) ≤ f) (ht : (rX (f - 1) (n + 1) .nil L st).2.bad = false → t = (rX (f - 1) (n + 1) .nil L st).1) :
    TLeft L n f (rX f n .nil L st) t (rX (f - 1) (n + 1) .nil L st).2 := by
  cases hb : st.bad
  · have := hf hb
    obtain ⟨f, rfl⟩ : ∃ k, f = k + 1 := ⟨f - 1, by omega⟩
    simp only [Nat.add_sub_cancel] at ht ⊢
    have hm := rX_mono f (n + 1) .nil L st
    rw [rX_level f n .nil L st hn]
    simp only [hb, Bool.false_eq_true, if_false]
    cases hb1 : (rX f (n + 1) .nil L st).2.bad
    · refine Or.inr ⟨hb1, f, by omega, by omega, ?_⟩
      rw [ht hb1]
    · exact Or.inl ⟨hb1, rX_bad hb1 _ _ _⟩
  · rw [rX_bad hb]
    exact Or.inl ⟨hb, rX_bad hb _ _ _⟩
theorem tLeft_end {L : List Tok} {n F : Nat} {fin : PX × RS} {t : PX} {s : RS} (hn : n < 4) (h : TLeft L n F fin t s) (hb : s.bad = false → isBin n (tk L s.at_) = false) : fin.2 = s ∧ (s.bad = false → fin.1 = t) := by
  rcases h with ⟨h1, h2⟩ | ⟨h1, g, _, h2, h3⟩
  · exact ⟨h2, fun h => by rw [h1] at h; cases h⟩
  · obtain ⟨g, rfl⟩ : ∃ k, g = k + 1 := ⟨g - 1, by omega⟩
    rw [rX_loop _ _ _ _ _ hn, hb h1, h1] at h3
    simp only [Bool.false_eq_true, if_false] at h3
    rw [← h3]; exact ⟨rfl, fun _ => rfl⟩
theorem tLeft_good {L : List Tok} {n F : Nat} {fin : PX × RS} {t : PX} {s : RS} (hn : n < 4) (h : TLeft L n F fin t s) (hb : s.bad = false) (hi : isBin n (tk L s.at_) = true) : ∃ g, g + 1 < F ∧ 8 * (L.length - s.at_) + 1 ≤ g + 1 ∧
    (if n = 2 then (opX (tk L s.at_).text t (rX g (n + 1) .nil L { s with at_ := s.at_ + 1 }).1, (rX g (n + 1) .nil L { s with at_ := s.at_ + 1 }).2)
      else rX g (10 + n) (opX (tk L s.at_).text t (rX g (n + 1) .nil L { s with at_ := s.at_ + 1 }).1) L (rX g (n + 1) .nil L { s with at_ := s.at_ + 1 }).2) = fin := by
  rcases h with ⟨h1, h2⟩ | ⟨h1, g, hg, h2, h3⟩
  · rw [h1] at hb; cases hb
  · obtain ⟨g, rfl⟩ : ∃ k, g = k + 1 := ⟨g - 1, by omega⟩
    rw [rX_loop _ _ _ _ _ hn, if_neg (by rw [h1]; simp), if_pos hi] at h3
    exact ⟨g, hg, h2, h3⟩
theorem tLeft_more {L : List Tok} {n F g : Nat} {fin : PX × RS} {t t' : PX} {s : RS} {r : PX × RS} {o : ByteArray} (hgF : g + 1 < F) (hg : 8 * (L.length - s.at_) + 1 ≤ g + 1) (hm : s.at_ + 1 ≤ r.2.at_) (hlt : s.at_ < L.length) (h : rX g (10 + n) (opX o t r.1) L r.2 = fin) (ht : r.2.bad = false → t' = r.1) :
    TLeft L n F fin (opX o t t') r.2 := by
  cases hb : r.2.bad
  · refine Or.inr ⟨hb, g, by omega, by omega, ?_⟩
    rw [ht hb]; exact h
  · refine Or.inl ⟨hb, ?_⟩
    rw [← h, rX_bad hb]

/-- In a state that is bad. -/
def EBad (n F : Nat) : Prop := ∀ (g : Nat) (w : World) (P : Nat) (v : Value) (L : List Tok) (st : RS), st.bad = true → Pd w P v L st →
  Calls Tryz.prog F #[.pointer (some ⟨P, 0, none⟩)] w fun e w' => EPost P v L w (rX g n .nil L st) e w'
theorem EPost.state {P : Nat} {v : Value} {L : List Tok} {w w' : World} {r r' : PX × RS} {e : Ending} (h : EPost P v L w r e w') (h2 : r'.2 = r.2) (h1 : r.2.bad = false → r'.1 = r.1) : EPost P v L w r' e w' := by
  obtain ⟨p, t, a, b, c, d, k⟩ := h
  exact ⟨p, t, a, b, fun hb => by rw [h2] at hb; rw [c hb, h1 hb], by rw [h2]; exact d, k⟩
/-- In whatever state. -/
theorem esub {n F f : Nat} {st0 : RS} (hB : EBad n F) (hS : st0.bad = false → ∀ g, g < f → ESaid n F g) (g : Nat) (w : World) (P : Nat) (v : Value) (L : List Tok) (st : RS) (h : Pd w P v L st) (hg : st.bad = false → st0.bad = false ∧ g < f ∧ 8 * (L.length - st.at_) + (7 - n) ≤ g) :
    Calls Tryz.prog F #[.pointer (some ⟨P, 0, none⟩)] w fun e w' => EPost P v L w (rX g n .nil L st) e w' := by
  cases hb : st.bad
  · have := hg hb
    exact hS this.1 g this.2.1 w P v L st h (fun _ => this.2.2)
  · exact hB g w P v L st hb h
theorem atom_bad : EBad 4 296 := fun g w P v L st hb h => by
  have := patom_any 0 w P v L st (fun h => by rw [hb] at h; cases h) h (fun h => by rw [hb] at h; cases h)
  exact this.mono fun e w' he => he.state (by rw [rX_bad hb, rX_bad hb]) (fun h => by rw [rX_bad hb, hb] at h; cases h)
theorem atom_said (f : Nat) (hE : ∀ g, g < f → ESaid 0 210 g) : ESaid 4 296 f := fun w P v L st h hf => by
  cases hb : st.bad
  · have := hf hb
    obtain ⟨f, rfl⟩ : ∃ k, f = k + 1 := ⟨f - 1, by omega⟩
    rw [rX_four]
    simp only [hb, Bool.false_eq_true, if_false]
    exact patom_any f w P v L st (fun _ g hg => hE g (by omega)) h (fun _ => by omega)
  · exact atom_bad f w P v L st hb h

set_option maxRecDepth 100000 in
set_option maxHeartbeats 4000000 in
theorem psum_any (f : Nat) (w : World) (P : Nat) (v : Value) (L : List Tok) (st : RS) (hB : EBad 4 296) (hS : st.bad = false → ∀ g, g < f → ESaid 4 296 g) (h : Pd w P v L st) (hf : st.bad = false → 8 * (L.length - st.at_) + (7 - 3) ≤ f) :
    Calls Tryz.prog 286 #[.pointer (some ⟨P, 0, none⟩)] w fun e w' => EPost P v L w (rX f 3 .nil L st) e w' := by
  have hX := h.in
  have hL := h.ok
  have hlen := hL.len
  have HS := hide (esub hB hS)
  have HST := hide (fun (t : PX) ht => tLeft_start (L := L) (st := st) (t := t) (n := 3) (by omega) hf ht)
  generalize rX f 3 .nil L st = fin at *
  go_enter Tryz.func286, Tryz.ntmps286
  go_wp2_with fail
  refine ((unhide HS) (f - 1) _ P v L st h (fun hb => ⟨hb, by have := hf hb; omega, by have := hf hb; omega⟩)).mono ?_
  rintro e w1 ⟨p1, t1, rfl, hx1, ht1, h1, hk1⟩
  have hT := (unhide HST) t1 ht1
  have HT := hide hT
  clear HST
  have hgood : (rX (f - 1) (3 + 1) .nil L st).2.bad = false → st.bad = false := fun hb => by
    cases hb0 : st.bad
    · rfl
    · rw [rX_bad hb0, hb0] at hb; cases hb
  generalize (rX (f - 1) (3 + 1) .nil L st).2 = s1 at *
  have H1 := hide h1
  have HK1 := hide hk1
  have HX1 := hide hx1
  clear hT h1 hk1 hx1 ht1 h hS hB hf
  go_wp2_with fail
  go_loopw [3] (fun le wr => ∃ (p : Option Addr) (t : PX) (s : RS), le = .pointer p ∧ XIs w.heap.size wr t (.pointer p) ∧ TLeft L 3 f fin t s ∧ (s.bad = false → st.bad = false) ∧ Pd wr P v L s ∧ Kept P w wr) (fun _ wr => L.length - nxOf wr P)
  case atStart => exact ⟨p1, t1, s1, rfl, unhide HX1, unhide HT, hgood, unhide H1, unhide HK1⟩
  case round =>
    obtain ⟨p, t, s, rfl, hx, hT, hgd, hp, hk⟩ := hrel
    have hlt := hp.lt
    have HX := hide hx
    have HT2 := hide hT
    have HP := hide hp
    have HK := hide hk
    have HG := hide hgd
    have hsz := hk.size
    clear hx hT hp hk hgd HT H1 HK1 HX1 hgood
    go_wp2_with fail
    refine (accept_lit [43] (by decide) _ P v L s (unhide HP)).mono ?_
    rintro e w2 ⟨rfl, ha0, hka0⟩
    have HXa0 := hide ((unhide HX).kept hka0 hX)
    have HKa0 := hide ((unhide HK).trans hka0)
    have hsa0 := (unhide HKa0).size
    clear hka0
    cases hc0 : rNext L [43] s
    · rw [pAcc_no hc0] at ha0
      have HPa0 := hide ha0
      clear ha0
      go_wp2_with fail
      refine (accept_lit [45] (by decide) _ P v L s (unhide HPa0)).mono ?_
      rintro e w3 ⟨rfl, ha1, hka1⟩
      have HXa1 := hide ((unhide HXa0).kept hka1 hX)
      have HKa1 := hide ((unhide HKa0).trans hka1)
      have hsa1 := (unhide HKa1).size
      clear hka1
      cases hc1 : rNext L [45] s
      · rw [pAcc_no hc1] at ha1
        have HPa1 := hide ha1
        clear ha1
        obtain ⟨he1, he2⟩ := tLeft_end (by omega) (unhide HT2) (fun hb => by rw [bin3 hL hlt hb, hc0, hc1]; rfl)
        go_wp2
        go_ret
        exact ⟨p, t, rfl, unhide HXa1, fun hb => by rw [he1] at hb; exact (he2 hb).symm, by rw [he1]; exact unhide HPa1, unhide HKa1⟩
      · obtain ⟨htx, hb⟩ := next_text hc1
        have hns := next_step hL hlt hc1
        have ea : pAcc L [45] s = { s with at_ := s.at_ + 1 } := by unfold pAcc; rw [hc1]; rfl
        rw [ea] at ha1
        obtain ⟨g, hg1, hg2, hg3⟩ := tLeft_good (by omega) (unhide HT2) hb (by rw [bin3 hL hlt hb, hc0, hc1]; simp)
        rw [if_neg (by omega)] at hg3
        have HG3 := hide hg3
        have HA := hide ha1
        clear ea ha1 hg3
        go_wp2_with fail
        refine ((unhide HS) g _ P v L { s with at_ := s.at_ + 1 } (unhide HA) (fun _ => ⟨(unhide HG) hb, by omega, by simp only; omega⟩)).mono ?_
        rintro e w6 ⟨p6, t6, rfl, hx6, ht6, h6, hk6⟩
        have hm6 : s.at_ + 1 ≤ (rX g (3 + 1) .nil L { s with at_ := s.at_ + 1 }).2.at_ := rX_mono g (3 + 1) .nil L { s with at_ := s.at_ + 1 }
        have HX6 := hide (hx6.mono hsa1)
        have HXo := hide ((unhide HXa1).kept hk6 hX)
        have HK6 := hide ((unhide HKa1).trans hk6)
        have hs6 := (unhide HK6).size
        have HM := hide (tLeft_more hg1 hg2 hm6 hlt (unhide HG3) ht6)
        have H6 := hide h6
        clear hx6 hk6 ht6 h6 HG3
        generalize rX g (3 + 1) .nil L { s with at_ := s.at_ + 1 } = r6 at *
        have HMS := hide (nx_less (unhide HP) (unhide H6) hns.1 hns.2 (fun _ => hm6))
        go_wp2
        go_roundw
        case rel => exact ⟨_, _, r6.2, rfl, XIs.new (unhide HXo) (unhide HX6) hs6 (op_cells (by rw [htx]; rfl)), unhide HM, fun _ => (unhide HG) hb, (unhide H6).alloc _, (unhide HK6).alloc _⟩
        case measure => have := unhide HMS; exact (by rw [((unhide H6).alloc _).nx, ← (unhide H6).nx]; exact this)
    · obtain ⟨htx, hb⟩ := next_text hc0
      have hns := next_step hL hlt hc0
      have ea : pAcc L [43] s = { s with at_ := s.at_ + 1 } := by unfold pAcc; rw [hc0]; rfl
      rw [ea] at ha0
      obtain ⟨g, hg1, hg2, hg3⟩ := tLeft_good (by omega) (unhide HT2) hb (by rw [bin3 hL hlt hb, hc0]; simp)
      rw [if_neg (by omega)] at hg3
      have HG3 := hide hg3
      have HA := hide ha0
      clear ea ha0 hg3
      go_wp2_with fail
      refine ((unhide HS) g _ P v L { s with at_ := s.at_ + 1 } (unhide HA) (fun _ => ⟨(unhide HG) hb, by omega, by simp only; omega⟩)).mono ?_
      rintro e w6 ⟨p6, t6, rfl, hx6, ht6, h6, hk6⟩
      have hm6 : s.at_ + 1 ≤ (rX g (3 + 1) .nil L { s with at_ := s.at_ + 1 }).2.at_ := rX_mono g (3 + 1) .nil L { s with at_ := s.at_ + 1 }
      have HX6 := hide (hx6.mono hsa0)
      have HXo := hide ((unhide HXa0).kept hk6 hX)
      have HK6 := hide ((unhide HKa0).trans hk6)
      have hs6 := (unhide HK6).size
      have HM := hide (tLeft_more hg1 hg2 hm6 hlt (unhide HG3) ht6)
      have H6 := hide h6
      clear hx6 hk6 ht6 h6 HG3
      generalize rX g (3 + 1) .nil L { s with at_ := s.at_ + 1 } = r6 at *
      have HMS := hide (nx_less (unhide HP) (unhide H6) hns.1 hns.2 (fun _ => hm6))
      go_wp2
      go_roundw
      case rel => exact ⟨_, _, r6.2, rfl, XIs.new (unhide HXo) (unhide HX6) hs6 (op_cells (by rw [htx]; rfl)), unhide HM, fun _ => (unhide HG) hb, (unhide H6).alloc _, (unhide HK6).alloc _⟩
      case measure => have := unhide HMS; exact (by rw [((unhide H6).alloc _).nx, ← (unhide H6).nx]; exact this)

set_option maxRecDepth 100000 in
set_option maxHeartbeats 4000000 in
theorem pcomparison_any (f : Nat) (w : World) (P : Nat) (v : Value) (L : List Tok) (st : RS) (hB : EBad 3 286) (hS : st.bad = false → ∀ g, g < f → ESaid 3 286 g) (h : Pd w P v L st) (hf : st.bad = false → 8 * (L.length - st.at_) + (7 - 2) ≤ f) :
    Calls Tryz.prog 259 #[.pointer (some ⟨P, 0, none⟩)] w fun e w' => EPost P v L w (rX f 2 .nil L st) e w' := by
  have hX := h.in
  have hL := h.ok
  have hlen := hL.len
  have HS := hide (esub hB hS)
  have HST := hide (fun (t : PX) ht => tLeft_start (L := L) (st := st) (t := t) (n := 2) (by omega) hf ht)
  generalize rX f 2 .nil L st = fin at *
  go_enter Tryz.func259, Tryz.ntmps259
  go_wp2_with fail
  refine ((unhide HS) (f - 1) _ P v L st h (fun hb => ⟨hb, by have := hf hb; omega, by have := hf hb; omega⟩)).mono ?_
  rintro e w1 ⟨p, t, rfl, hx1, ht1, h1, hk1⟩
  have hT := (unhide HST) t ht1
  have HT2 := hide hT
  clear HST
  have hgood : (rX (f - 1) (2 + 1) .nil L st).2.bad = false → st.bad = false := fun hb => by
    cases hb0 : st.bad
    · rfl
    · rw [rX_bad hb0, hb0] at hb; cases hb
  generalize (rX (f - 1) (2 + 1) .nil L st).2 = s at *
  have HG := hide hgood
  have HP := hide h1
  have HK := hide hk1
  have HX := hide hx1
  have hlt := h1.lt
  have hsz := hk1.size
  clear hT h1 hk1 hx1 ht1 h hS hB hf hgood
  go_wp2_with fail
  refine (accept_lit [61, 61] (by decide) _ P v L s (unhide HP)).mono ?_
  rintro e w2 ⟨rfl, ha0, hka0⟩
  have HXa0 := hide ((unhide HX).kept hka0 hX)
  have HKa0 := hide ((unhide HK).trans hka0)
  have hsa0 := (unhide HKa0).size
  clear hka0
  cases hc0 : rNext L [61, 61] s
  · rw [pAcc_no hc0] at ha0
    have HPa0 := hide ha0
    clear ha0
    go_wp2_with fail
    refine (accept_lit [33, 61] (by decide) _ P v L s (unhide HPa0)).mono ?_
    rintro e w3 ⟨rfl, ha1, hka1⟩
    have HXa1 := hide ((unhide HXa0).kept hka1 hX)
    have HKa1 := hide ((unhide HKa0).trans hka1)
    have hsa1 := (unhide HKa1).size
    clear hka1
    cases hc1 : rNext L [33, 61] s
    · rw [pAcc_no hc1] at ha1
      have HPa1 := hide ha1
      clear ha1
      go_wp2_with fail
      refine (accept_lit [60] (by decide) _ P v L s (unhide HPa1)).mono ?_
      rintro e w4 ⟨rfl, ha2, hka2⟩
      have HXa2 := hide ((unhide HXa1).kept hka2 hX)
      have HKa2 := hide ((unhide HKa1).trans hka2)
      have hsa2 := (unhide HKa2).size
      clear hka2
      cases hc2 : rNext L [60] s
      · rw [pAcc_no hc2] at ha2
        have HPa2 := hide ha2
        clear ha2
        obtain ⟨he1, he2⟩ := tLeft_end (by omega) (unhide HT2) (fun hb => by rw [bin2 hL hlt hb, hc0, hc1, hc2]; rfl)
        go_wp2
        go_ret
        exact ⟨p, t, rfl, unhide HXa2, fun hb => by rw [he1] at hb; exact (he2 hb).symm, by rw [he1]; exact unhide HPa2, unhide HKa2⟩
      · obtain ⟨htx, hb⟩ := next_text hc2
        have ea : pAcc L [60] s = { s with at_ := s.at_ + 1 } := by unfold pAcc; rw [hc2]; rfl
        rw [ea] at ha2
        obtain ⟨g, hg1, hg2, hg3⟩ := tLeft_good (by omega) (unhide HT2) hb (by rw [bin2 hL hlt hb, hc0, hc1, hc2]; simp)
        rw [if_pos rfl] at hg3
        have HG3 := hide hg3
        have HA := hide ha2
        clear ea ha2 hg3
        go_wp2_with fail
        refine ((unhide HS) g _ P v L { s with at_ := s.at_ + 1 } (unhide HA) (fun _ => ⟨(unhide HG) hb, by omega, by simp only; omega⟩)).mono ?_
        rintro e w6 ⟨p6, t6, rfl, hx6, ht6, h6, hk6⟩
        have HX6 := hide (hx6.mono hsa2)
        have HXo := hide ((unhide HXa2).kept hk6 hX)
        have HK6 := hide ((unhide HKa2).trans hk6)
        have hs6 := (unhide HK6).size
        have HT6 := hide ht6
        have H6 := hide h6
        clear hx6 hk6 ht6 h6
        generalize rX g (2 + 1) .nil L { s with at_ := s.at_ + 1 } = r6 at *
        go_wp2
        go_ret
        rw [← unhide HG3]
        exact ⟨_, opX (tk L s.at_).text t t6, rfl, XIs.new (unhide HXo) (unhide HX6) hs6 (op_cells (by rw [htx]; rfl)), fun hb => by simp only at hb; rw [(unhide HT6) hb], (unhide H6).alloc _, (unhide HK6).alloc _⟩
    · obtain ⟨htx, hb⟩ := next_text hc1
      have ea : pAcc L [33, 61] s = { s with at_ := s.at_ + 1 } := by unfold pAcc; rw [hc1]; rfl
      rw [ea] at ha1
      obtain ⟨g, hg1, hg2, hg3⟩ := tLeft_good (by omega) (unhide HT2) hb (by rw [bin2 hL hlt hb, hc0, hc1]; simp)
      rw [if_pos rfl] at hg3
      have HG3 := hide hg3
      have HA := hide ha1
      clear ea ha1 hg3
      go_wp2_with fail
      refine ((unhide HS) g _ P v L { s with at_ := s.at_ + 1 } (unhide HA) (fun _ => ⟨(unhide HG) hb, by omega, by simp only; omega⟩)).mono ?_
      rintro e w6 ⟨p6, t6, rfl, hx6, ht6, h6, hk6⟩
      have HX6 := hide (hx6.mono hsa1)
      have HXo := hide ((unhide HXa1).kept hk6 hX)
      have HK6 := hide ((unhide HKa1).trans hk6)
      have hs6 := (unhide HK6).size
      have HT6 := hide ht6
      have H6 := hide h6
      clear hx6 hk6 ht6 h6
      generalize rX g (2 + 1) .nil L { s with at_ := s.at_ + 1 } = r6 at *
      go_wp2
      go_ret
      rw [← unhide HG3]
      exact ⟨_, opX (tk L s.at_).text t t6, rfl, XIs.new (unhide HXo) (unhide HX6) hs6 (op_cells (by rw [htx]; rfl)), fun hb => by simp only at hb; rw [(unhide HT6) hb], (unhide H6).alloc _, (unhide HK6).alloc _⟩
  · obtain ⟨htx, hb⟩ := next_text hc0
    have ea : pAcc L [61, 61] s = { s with at_ := s.at_ + 1 } := by unfold pAcc; rw [hc0]; rfl
    rw [ea] at ha0
    obtain ⟨g, hg1, hg2, hg3⟩ := tLeft_good (by omega) (unhide HT2) hb (by rw [bin2 hL hlt hb, hc0]; simp)
    rw [if_pos rfl] at hg3
    have HG3 := hide hg3
    have HA := hide ha0
    clear ea ha0 hg3
    go_wp2_with fail
    refine ((unhide HS) g _ P v L { s with at_ := s.at_ + 1 } (unhide HA) (fun _ => ⟨(unhide HG) hb, by omega, by simp only; omega⟩)).mono ?_
    rintro e w6 ⟨p6, t6, rfl, hx6, ht6, h6, hk6⟩
    have HX6 := hide (hx6.mono hsa0)
    have HXo := hide ((unhide HXa0).kept hk6 hX)
    have HK6 := hide ((unhide HKa0).trans hk6)
    have hs6 := (unhide HK6).size
    have HT6 := hide ht6
    have H6 := hide h6
    clear hx6 hk6 ht6 h6
    generalize rX g (2 + 1) .nil L { s with at_ := s.at_ + 1 } = r6 at *
    go_wp2
    go_ret
    rw [← unhide HG3]
    exact ⟨_, opX (tk L s.at_).text t t6, rfl, XIs.new (unhide HXo) (unhide HX6) hs6 (op_cells (by rw [htx]; rfl)), fun hb => by simp only at hb; rw [(unhide HT6) hb], (unhide H6).alloc _, (unhide HK6).alloc _⟩

set_option maxRecDepth 100000 in
set_option maxHeartbeats 4000000 in
theorem pand_any (f : Nat) (w : World) (P : Nat) (v : Value) (L : List Tok) (st : RS) (hB : EBad 2 259) (hS : st.bad = false → ∀ g, g < f → ESaid 2 259 g) (h : Pd w P v L st) (hf : st.bad = false → 8 * (L.length - st.at_) + (7 - 1) ≤ f) :
    Calls Tryz.prog 241 #[.pointer (some ⟨P, 0, none⟩)] w fun e w' => EPost P v L w (rX f 1 .nil L st) e w' := by
  have hX := h.in
  have hL := h.ok
  have hlen := hL.len
  have HS := hide (esub hB hS)
  have HST := hide (fun (t : PX) ht => tLeft_start (L := L) (st := st) (t := t) (n := 1) (by omega) hf ht)
  generalize rX f 1 .nil L st = fin at *
  go_enter Tryz.func241, Tryz.ntmps241
  go_wp2_with fail
  refine ((unhide HS) (f - 1) _ P v L st h (fun hb => ⟨hb, by have := hf hb; omega, by have := hf hb; omega⟩)).mono ?_
  rintro e w1 ⟨p1, t1, rfl, hx1, ht1, h1, hk1⟩
  have hT := (unhide HST) t1 ht1
  have HT := hide hT
  clear HST
  have hgood : (rX (f - 1) (1 + 1) .nil L st).2.bad = false → st.bad = false := fun hb => by
    cases hb0 : st.bad
    · rfl
    · rw [rX_bad hb0, hb0] at hb; cases hb
  generalize (rX (f - 1) (1 + 1) .nil L st).2 = s1 at *
  have H1 := hide h1
  have HK1 := hide hk1
  have HX1 := hide hx1
  clear hT h1 hk1 hx1 ht1 h hS hB hf
  go_wp2_with fail
  go_loopw [3] (fun le wr => ∃ (p : Option Addr) (t : PX) (s : RS), le = .pointer p ∧ XIs w.heap.size wr t (.pointer p) ∧ TLeft L 1 f fin t s ∧ (s.bad = false → st.bad = false) ∧ Pd wr P v L s ∧ Kept P w wr) (fun _ wr => L.length - nxOf wr P)
  case atStart => exact ⟨p1, t1, s1, rfl, unhide HX1, unhide HT, hgood, unhide H1, unhide HK1⟩
  case round =>
    obtain ⟨p, t, s, rfl, hx, hT, hgd, hp, hk⟩ := hrel
    have hlt := hp.lt
    have HX := hide hx
    have HT2 := hide hT
    have HP := hide hp
    have HK := hide hk
    have HG := hide hgd
    have hsz := hk.size
    clear hx hT hp hk hgd HT H1 HK1 HX1 hgood
    go_wp2_with fail
    refine (accept_lit [38] (by decide) _ P v L s (unhide HP)).mono ?_
    rintro e w2 ⟨rfl, ha0, hka0⟩
    have HXa0 := hide ((unhide HX).kept hka0 hX)
    have HKa0 := hide ((unhide HK).trans hka0)
    have hsa0 := (unhide HKa0).size
    clear hka0
    cases hc0 : rNext L [38] s
    · rw [pAcc_no hc0] at ha0
      have HPa0 := hide ha0
      clear ha0
      obtain ⟨he1, he2⟩ := tLeft_end (by omega) (unhide HT2) (fun hb => by rw [bin1 hL hlt hb, hc0])
      go_wp2
      go_ret
      exact ⟨p, t, rfl, unhide HXa0, fun hb => by rw [he1] at hb; exact (he2 hb).symm, by rw [he1]; exact unhide HPa0, unhide HKa0⟩
    · obtain ⟨htx, hb⟩ := next_text hc0
      have hns := next_step hL hlt hc0
      have ea : pAcc L [38] s = { s with at_ := s.at_ + 1 } := by unfold pAcc; rw [hc0]; rfl
      rw [ea] at ha0
      obtain ⟨g, hg1, hg2, hg3⟩ := tLeft_good (by omega) (unhide HT2) hb (by rw [bin1 hL hlt hb, hc0])
      rw [if_neg (by omega)] at hg3
      have HG3 := hide hg3
      have HA := hide ha0
      clear ea ha0 hg3
      go_wp2_with fail
      refine ((unhide HS) g _ P v L { s with at_ := s.at_ + 1 } (unhide HA) (fun _ => ⟨(unhide HG) hb, by omega, by simp only; omega⟩)).mono ?_
      rintro e w6 ⟨p6, t6, rfl, hx6, ht6, h6, hk6⟩
      have hm6 : s.at_ + 1 ≤ (rX g (1 + 1) .nil L { s with at_ := s.at_ + 1 }).2.at_ := rX_mono g (1 + 1) .nil L { s with at_ := s.at_ + 1 }
      have HX6 := hide (hx6.mono hsa0)
      have HXo := hide ((unhide HXa0).kept hk6 hX)
      have HK6 := hide ((unhide HKa0).trans hk6)
      have hs6 := (unhide HK6).size
      have HM := hide (tLeft_more hg1 hg2 hm6 hlt (unhide HG3) ht6)
      have H6 := hide h6
      clear hx6 hk6 ht6 h6 HG3
      generalize rX g (1 + 1) .nil L { s with at_ := s.at_ + 1 } = r6 at *
      have HMS := hide (nx_less (unhide HP) (unhide H6) hns.1 hns.2 (fun _ => hm6))
      go_wp2
      go_roundw
      case rel => exact ⟨_, _, r6.2, rfl, XIs.new (unhide HXo) (unhide HX6) hs6 (op_cells (by rw [htx]; rfl)), unhide HM, fun _ => (unhide HG) hb, (unhide H6).alloc _, (unhide HK6).alloc _⟩
      case measure => have := unhide HMS; exact (by rw [((unhide H6).alloc _).nx, ← (unhide H6).nx]; exact this)

set_option maxRecDepth 100000 in
set_option maxHeartbeats 4000000 in
theorem pexpr_any (f : Nat) (w : World) (P : Nat) (v : Value) (L : List Tok) (st : RS) (hB : EBad 1 241) (hS : st.bad = false → ∀ g, g < f → ESaid 1 241 g) (h : Pd w P v L st) (hf : st.bad = false → 8 * (L.length - st.at_) + (7 - 0) ≤ f) :
    Calls Tryz.prog 210 #[.pointer (some ⟨P, 0, none⟩)] w fun e w' => EPost P v L w (rX f 0 .nil L st) e w' := by
  have hX := h.in
  have hL := h.ok
  have hlen := hL.len
  have HS := hide (esub hB hS)
  have HST := hide (fun (t : PX) ht => tLeft_start (L := L) (st := st) (t := t) (n := 0) (by omega) hf ht)
  generalize rX f 0 .nil L st = fin at *
  go_enter Tryz.func210, Tryz.ntmps210
  go_wp2_with fail
  refine ((unhide HS) (f - 1) _ P v L st h (fun hb => ⟨hb, by have := hf hb; omega, by have := hf hb; omega⟩)).mono ?_
  rintro e w1 ⟨p1, t1, rfl, hx1, ht1, h1, hk1⟩
  have hT := (unhide HST) t1 ht1
  have HT := hide hT
  clear HST
  have hgood : (rX (f - 1) (0 + 1) .nil L st).2.bad = false → st.bad = false := fun hb => by
    cases hb0 : st.bad
    · rfl
    · rw [rX_bad hb0, hb0] at hb; cases hb
  generalize (rX (f - 1) (0 + 1) .nil L st).2 = s1 at *
  have H1 := hide h1
  have HK1 := hide hk1
  have HX1 := hide hx1
  clear hT h1 hk1 hx1 ht1 h hS hB hf
  go_wp2_with fail
  go_loopw [3] (fun le wr => ∃ (p : Option Addr) (t : PX) (s : RS), le = .pointer p ∧ XIs w.heap.size wr t (.pointer p) ∧ TLeft L 0 f fin t s ∧ (s.bad = false → st.bad = false) ∧ Pd wr P v L s ∧ Kept P w wr) (fun _ wr => L.length - nxOf wr P)
  case atStart => exact ⟨p1, t1, s1, rfl, unhide HX1, unhide HT, hgood, unhide H1, unhide HK1⟩
  case round =>
    obtain ⟨p, t, s, rfl, hx, hT, hgd, hp, hk⟩ := hrel
    have hlt := hp.lt
    have HX := hide hx
    have HT2 := hide hT
    have HP := hide hp
    have HK := hide hk
    have HG := hide hgd
    have hsz := hk.size
    clear hx hT hp hk hgd HT H1 HK1 HX1 hgood
    go_wp2_with fail
    refine (accept_lit [124] (by decide) _ P v L s (unhide HP)).mono ?_
    rintro e w2 ⟨rfl, ha0, hka0⟩
    have HXa0 := hide ((unhide HX).kept hka0 hX)
    have HKa0 := hide ((unhide HK).trans hka0)
    have hsa0 := (unhide HKa0).size
    clear hka0
    cases hc0 : rNext L [124] s
    · rw [pAcc_no hc0] at ha0
      have HPa0 := hide ha0
      clear ha0
      obtain ⟨he1, he2⟩ := tLeft_end (by omega) (unhide HT2) (fun hb => by rw [bin0 hL hlt hb, hc0])
      go_wp2
      go_ret
      exact ⟨p, t, rfl, unhide HXa0, fun hb => by rw [he1] at hb; exact (he2 hb).symm, by rw [he1]; exact unhide HPa0, unhide HKa0⟩
    · obtain ⟨htx, hb⟩ := next_text hc0
      have hns := next_step hL hlt hc0
      have ea : pAcc L [124] s = { s with at_ := s.at_ + 1 } := by unfold pAcc; rw [hc0]; rfl
      rw [ea] at ha0
      obtain ⟨g, hg1, hg2, hg3⟩ := tLeft_good (by omega) (unhide HT2) hb (by rw [bin0 hL hlt hb, hc0])
      rw [if_neg (by omega)] at hg3
      have HG3 := hide hg3
      have HA := hide ha0
      clear ea ha0 hg3
      go_wp2_with fail
      refine ((unhide HS) g _ P v L { s with at_ := s.at_ + 1 } (unhide HA) (fun _ => ⟨(unhide HG) hb, by omega, by simp only; omega⟩)).mono ?_
      rintro e w6 ⟨p6, t6, rfl, hx6, ht6, h6, hk6⟩
      have hm6 : s.at_ + 1 ≤ (rX g (0 + 1) .nil L { s with at_ := s.at_ + 1 }).2.at_ := rX_mono g (0 + 1) .nil L { s with at_ := s.at_ + 1 }
      have HX6 := hide (hx6.mono hsa0)
      have HXo := hide ((unhide HXa0).kept hk6 hX)
      have HK6 := hide ((unhide HKa0).trans hk6)
      have hs6 := (unhide HK6).size
      have HM := hide (tLeft_more hg1 hg2 hm6 hlt (unhide HG3) ht6)
      have H6 := hide h6
      clear hx6 hk6 ht6 h6 HG3
      generalize rX g (0 + 1) .nil L { s with at_ := s.at_ + 1 } = r6 at *
      have HMS := hide (nx_less (unhide HP) (unhide H6) hns.1 hns.2 (fun _ => hm6))
      go_wp2
      go_roundw
      case rel => exact ⟨_, _, r6.2, rfl, XIs.new (unhide HXo) (unhide HX6) hs6 (op_cells (by rw [htx]; rfl)), unhide HM, fun _ => (unhide HG) hb, (unhide H6).alloc _, (unhide HK6).alloc _⟩
      case measure => have := unhide HMS; exact (by rw [((unhide H6).alloc _).nx, ← (unhide H6).nx]; exact this)

theorem sum_bad : EBad 3 286 := fun g w P v L st hb h => by
  have := psum_any 0 w P v L st atom_bad (fun h => by rw [hb] at h; cases h) h (fun h => by rw [hb] at h; cases h)
  exact this.mono fun e w' he => he.state (by rw [rX_bad hb, rX_bad hb]) (fun h => by rw [rX_bad hb, hb] at h; cases h)
theorem comparison_bad : EBad 2 259 := fun g w P v L st hb h => by
  have := pcomparison_any 0 w P v L st sum_bad (fun h => by rw [hb] at h; cases h) h (fun h => by rw [hb] at h; cases h)
  exact this.mono fun e w' he => he.state (by rw [rX_bad hb, rX_bad hb]) (fun h => by rw [rX_bad hb, hb] at h; cases h)
theorem and_bad : EBad 1 241 := fun g w P v L st hb h => by
  have := pand_any 0 w P v L st comparison_bad (fun h => by rw [hb] at h; cases h) h (fun h => by rw [hb] at h; cases h)
  exact this.mono fun e w' he => he.state (by rw [rX_bad hb, rX_bad hb]) (fun h => by rw [rX_bad hb, hb] at h; cases h)

/-- Every expression, at each level. -/
theorem exprs (f : Nat) : ESaid 0 210 f ∧ ESaid 1 241 f ∧ ESaid 2 259 f ∧ ESaid 3 286 f ∧ ESaid 4 296 f := by
  induction f using Nat.strongRecOn with
  | ind f ih =>
    have h4 := atom_said f (fun g hg => (ih g hg).1)
    refine ⟨?_, ?_, ?_, ?_, h4⟩
    · exact fun w P v L st h hf => pexpr_any f w P v L st and_bad (fun _ g hg => (ih g hg).2.1) h hf
    · exact fun w P v L st h hf => pand_any f w P v L st comparison_bad (fun _ g hg => (ih g hg).2.2.1) h hf
    · exact fun w P v L st h hf => pcomparison_any f w P v L st sum_bad (fun _ g hg => (ih g hg).2.2.2.1) h hf
    · exact fun w P v L st h hf => psum_any f w P v L st atom_bad (fun _ g hg => (ih g hg).2.2.2.2) h hf
theorem pexpr_all (w : World) (P : Nat) (v : Value) (L : List Tok) (st : RS) (h : Pd w P v L st) :
    Calls Tryz.prog 210 #[.pointer (some ⟨P, 0, none⟩)] w fun e w' => EPost P v L w (rX (fuelX L) 0 .nil L st) e w' :=
  (exprs (fuelX L)).1 w P v L st h (fun _ => by unfold fuelX; omega)

end Go.Proofs.YtpmcnonmkghokaaGreatDoor
namespace Go.Proofs.YtpmcnonmkghokaaGreatDoor
open Go.RowKit
/-- What lies from lo on stays. -/
structure Sames (lo : Nat) (w w' : World) : Prop where
  size : w.heap.size ≤ w'.heap.size
  block : ∀ k, lo ≤ k → k < w.heap.size → w'.heap[k]? = w.heap[k]?
theorem Sames.refl (lo : Nat) (w : World) : Sames lo w w := ⟨Nat.le_refl _, fun _ _ _ => rfl⟩
theorem Sames.trans {lo : Nat} {a b c : World} (h : Sames lo a b) (k : Sames lo b c) : Sames lo a c :=
  ⟨Nat.le_trans h.size k.size, fun i h1 h2 => (k.block i h1 (Nat.lt_of_lt_of_le h2 h.size)).trans (h.block i h1 h2)⟩
theorem Sames.kept {lo P : Nat} {a w w' : World} (h : Sames lo a w) (hk : Kept P w w') (hP : P < lo) : Sames lo a w' :=
  h.trans ⟨hk.size, fun k h1 h2 => hk.block k h2 (by omega)⟩
theorem Sames.alloc {lo : Nat} {a w : World} (h : Sames lo a w) (o : Obj) : Sames lo a (w.alloc o) :=
  h.trans ⟨by simp, fun k _ h2 => Below.heap_alloc _ _ _ h2⟩
theorem Sames.set {lo : Nat} {a w : World} (h : Sames lo a w) {p : Addr} (hp : p.block < lo ∨ a.heap.size ≤ p.block) (u : Value) : Sames lo a (w.setCell p u) :=
  ⟨by simpa [World.setCell] using h.size, fun k h1 h2 => by rw [Below.heap_setCell _ _ _ _ (by omega)]; exact h.block k h1 h2⟩
theorem XIs.sames {lo : Nat} {w w' : World} {x : PX} {v : Value} (h : XIs lo w x v) (hs : Sames lo w w') : XIs lo w' x v := h.stay hs.block

def plen : PB → Nat
  | .nil => 0
  | .node _ _ _ _ n => plen n + 1
theorem plen_bapp : ∀ a b : PB, plen (bapp a b) = plen a + plen b
  | .nil, b => by simp [bapp, plen]
  | .node i j a s n, b => by rw [bapp, plen, plen, plen_bapp n b]; omega
/-- The cells of a place; of none: noughts. -/
def plC : PX → List Value
  | .nil => [.string ⟨#[]⟩, .int .i64 0, .bool false, .string ⟨#[]⟩, .int .i64 0]
  | .node _ _ x _ _ => [.string x.name.text, .int .i64 x.name.at_, .bool (!(x.index.kind.toList == [])), .string x.index.text, .int .i64 x.index.at_]
theorem plC_len (x : PX) : (plC x).length = 5 := by cases x <;> rfl
def stC (c : Bool) (a : SLab) (ve vt vl : Value) : List Value := .bool c :: (plC a.place ++ [ve, vt, vl])
theorem stC_len (c : Bool) (a : SLab) (ve vt vl : Value) : (stC c a ve vt vl).length = 9 := by simp [stC, plC_len]

/-- The cells are the statements of the block; nothing in them lies below lo, no list in them in block no. -/
def BIs (lo : Nat) (no : Option Nat) (w : World) : PB → List Value → Prop
  | .nil, cs => cs = []
  | .node _ _ a .nil n, cs => ∃ p rest, cs = stC false a (.pointer p) (.slice none 0 0) (.slice none 0 0) ++ rest ∧ XIs lo w a.value (.pointer p) ∧ BIs lo no w n rest
  | .node _ _ a (.node _ _ _ t e) n, cs => ∃ p ta tn tc ea en ec ct ce rest, cs = stC true a (.pointer p) (.slice ta tn tc) (.slice ea en ec) ++ rest ∧ XIs lo w a.cond (.pointer p) ∧
      (w.ownsRow lo 334 9 (.slice ta tn tc) (plen t) ct ∧ (∀ j, (Value.slice ta tn tc).ownBlock = some j → no ≠ some j) ∧ BIs lo no w t ct) ∧ (w.ownsRow lo 334 9 (.slice ea en ec) (plen e) ce ∧ (∀ j, (Value.slice ea en ec).ownBlock = some j → no ≠ some j) ∧ BIs lo no w e ce) ∧ BIs lo no w n rest

theorem BIs.len {lo : Nat} {no : Option Nat} {w : World} : ∀ {b : PB} {cs : List Value}, BIs lo no w b cs → cs.length = plen b * 9
  | .nil, cs, h => by
    have : cs = [] := h
    subst this; rfl
  | .node _ _ a .nil n, cs, ⟨p, rest, e, hx, hn⟩ => by rw [e, List.length_append, stC_len, hn.len, plen]; omega
  | .node _ _ a (.node _ _ _ t e) n, cs, ⟨p, ta, tn, tc, ea, en, ec, ct, ce, rest, e1, hx, ht, he, hn⟩ => by rw [e1, List.length_append, stC_len, hn.len, plen]; omega
theorem BIs.stay {lo : Nat} {no : Option Nat} {w w' : World} (hk : ∀ k, lo ≤ k → k < w.heap.size → w'.heap[k]? = w.heap[k]?) : ∀ {b : PB} {cs : List Value}, BIs lo no w b cs → BIs lo no w' b cs
  | .nil, _, h => h
  | .node _ _ a .nil n, cs, ⟨p, rest, e, hx, hn⟩ => ⟨p, rest, e, hx.stay hk, BIs.stay hk hn⟩
  | .node _ _ a (.node _ _ _ t e) n, cs, ⟨p, ta, tn, tc, ea, en, ec, ct, ce, rest, e1, hx, ⟨ht1, ht3, ht2⟩, ⟨he1, he3, he2⟩, hn⟩ =>
    ⟨p, ta, tn, tc, ea, en, ec, ct, ce, rest, e1, hx.stay hk, ⟨owns_stay hk ht1, ht3, BIs.stay hk ht2⟩, ⟨owns_stay hk he1, he3, BIs.stay hk he2⟩, BIs.stay hk hn⟩
theorem BIs.sames {lo : Nat} {no : Option Nat} {w w' : World} {b : PB} {cs : List Value} (h : BIs lo no w b cs) (hs : Sames lo w w') : BIs lo no w' b cs := h.stay hs.block
theorem BIs.mono {lo lo' : Nat} {no : Option Nat} {w : World} (hl : lo' ≤ lo) : ∀ {b : PB} {cs : List Value}, BIs lo no w b cs → BIs lo' no w b cs
  | .nil, _, h => h
  | .node _ _ a .nil n, cs, ⟨p, rest, e, hx, hn⟩ => ⟨p, rest, e, hx.mono hl, BIs.mono hl hn⟩
  | .node _ _ a (.node _ _ _ t e) n, cs, ⟨p, ta, tn, tc, ea, en, ec, ct, ce, rest, e1, hx, ⟨ht1, ht3, ht2⟩, ⟨he1, he3, he2⟩, hn⟩ =>
    ⟨p, ta, tn, tc, ea, en, ec, ct, ce, rest, e1, hx.mono hl, ⟨owns_mono hl ht1, ht3, BIs.mono hl ht2⟩, ⟨owns_mono hl he1, he3, BIs.mono hl he2⟩, BIs.mono hl hn⟩
theorem BIs.app {lo : Nat} {no : Option Nat} {w : World} : ∀ {b c : PB} {cs ds : List Value}, BIs lo no w b cs → BIs lo no w c ds → BIs lo no w (bapp b c) (cs ++ ds)
  | .nil, c, cs, ds, h, h' => by
    have : cs = [] := h
    subst this; exact h'
  | .node _ _ a .nil n, c, cs, ds, ⟨p, rest, e, hx, hn⟩, h' => ⟨p, rest ++ ds, by rw [e, List.append_assoc], hx, hn.app h'⟩
  | .node _ _ a (.node _ _ _ t e) n, c, cs, ds, ⟨p, ta, tn, tc, ea, en, ec, ct, ce, rest, e1, hx, ht, he, hn⟩, h' => ⟨p, ta, tn, tc, ea, en, ec, ct, ce, rest ++ ds, by rw [e1, List.append_assoc], hx, ht, he, hn.app h'⟩
/-- Another block is shunned: the same one, none, one that is not there, or one ahead of all. -/
theorem BIs.shun {lo : Nat} {no no' : Option Nat} {w : World} (hno : ∀ k, no' = some k → no = some k ∨ w.heap.size ≤ k ∨ k < lo) : ∀ {b : PB} {cs : List Value}, BIs lo no w b cs → BIs lo no' w b cs
  | .nil, _, h => h
  | .node _ _ a .nil n, cs, ⟨p, rest, e, hx, hn⟩ => ⟨p, rest, e, hx, BIs.shun hno hn⟩
  | .node _ _ a (.node _ _ _ t e) n, cs, ⟨p, ta, tn, tc, ea, en, ec, ct, ce, rest, e1, hx, ⟨ht1, ht3, ht2⟩, ⟨he1, he3, he2⟩, hn⟩ => by
    have out : ∀ {v : Value} {m : Nat} {q : List Value}, w.ownsRow lo 334 9 v m q → (∀ j, v.ownBlock = some j → no ≠ some j) → ∀ j, v.ownBlock = some j → no' ≠ some j := by
      intro v m q h1 h2 j hj h3
      have hge := own_ge h1 j hj
      have hlt := own_lt h1 j hj
      rcases hno j h3 with h | h | h
      · exact h2 j hj h
      · omega
      · omega
    exact ⟨p, ta, tn, tc, ea, en, ec, ct, ce, rest, e1, hx, ⟨ht1, out ht1 ht3, BIs.shun hno ht2⟩, ⟨he1, out he1 he3, BIs.shun hno he2⟩, BIs.shun hno hn⟩
theorem XIs.grown {lo base e size : Nat} {w w' : World} {v : Value} {n : Nat} {xs : List Value} (hv : w.ownsRow base e size v n xs) (he : 358 ≠ e) (hg : w.grownBy w' v.ownBlock) : ∀ {x : PX} {p : Value}, XIs lo w x p → XIs lo w' x p
  | .nil, _, h => h
  | .node _ _ _ _ _, _, ⟨k, va, vb, e1, hn, hh, ha, hb⟩ => ⟨k, va, vb, e1, hn, by rw [hg.block k (lt_of_block hh) (not_row hv hh he)]; exact hh, XIs.grown hv he hg ha, XIs.grown hv he hg hb⟩
/-- Behind an append to a list of statements whose row is shunned; the new row is shunned then. -/
theorem BIs.grownAt {lo base : Nat} {w w' : World} {v : Value} {n : Nat} {xs : List Value} {no' : Option Nat} (hv : w.ownsRow base 334 9 v n xs) (hg : w.grownBy w' v.ownBlock) (hno : ∀ k, no' = some k → v.ownBlock = some k ∨ w.heap.size ≤ k) :
    ∀ {b : PB} {cs : List Value}, BIs lo v.ownBlock w b cs → BIs lo no' w' b cs
  | .nil, _, h => h
  | .node _ _ a .nil nx, cs, ⟨p, rest, e, hx, hn⟩ => ⟨p, rest, e, hx.grown hv (by decide) hg, BIs.grownAt hv hg hno hn⟩
  | .node _ _ a (.node _ _ _ t e) nx, cs, ⟨p, ta, tn, tc, ea, en, ec, ct, ce, rest, e1, hx, ⟨ht1, ht3, ht2⟩, ⟨he1, he3, he2⟩, hn⟩ => by
    have keep : ∀ {u : Value} {m : Nat} {q : List Value}, w.ownsRow lo 334 9 u m q → (∀ j, u.ownBlock = some j → v.ownBlock ≠ some j) → w'.ownsRow lo 334 9 u m q ∧ (∀ j, u.ownBlock = some j → no' ≠ some j) := by
      intro u m q h1 h2
      constructor
      · refine h1.kept hg ?_
        cases hu : u.ownBlock with
        | none => exact Or.inl rfl
        | some j => exact Or.inr fun h => h2 j hu h.symm
      · intro j hj h3
        have hlt := own_lt h1 j hj
        rcases hno j h3 with h | h
        · exact h2 j hj h
        · omega
    exact ⟨p, ta, tn, tc, ea, en, ec, ct, ce, rest, e1, hx.grown hv (by decide) hg, ⟨(keep ht1 ht3).1, (keep ht1 ht3).2, BIs.grownAt hv hg hno ht2⟩, ⟨(keep he1 he3).1, (keep he1 he3).2, BIs.grownAt hv hg hno he2⟩, BIs.grownAt hv hg hno hn⟩

theorem stC_one {c : Bool} {a : SLab} {p : Option Addr} {ta ea : Option Addr} {tn tc en ec : Nat} : ∀ u ∈ stC c a (.pointer p) (.slice ta tn tc) (.slice ea en ec), u.oneCell' = true := by
  intro u hu
  unfold stC at hu
  simp only [List.mem_cons, List.mem_append, List.not_mem_nil, or_false] at hu
  rcases hu with rfl | h | rfl | rfl | rfl
  · rfl
  · cases hp : a.place with
    | nil => rw [hp] at h; simp only [plC, List.mem_cons, List.not_mem_nil, or_false] at h; rcases h with rfl | rfl | rfl | rfl | rfl <;> rfl
    | node _ _ x _ _ => rw [hp] at h; simp only [plC, List.mem_cons, List.not_mem_nil, or_false] at h; rcases h with rfl | rfl | rfl | rfl | rfl <;> rfl
  · rfl
  · rfl
  · rfl

/-- What stmt comes to. -/
def SPost (P : Nat) (v : Value) (L : List Tok) (w : World) (r : PB × RS) (e : Ending) (w' : World) : Prop :=
  ∃ b cs, e = .returned (.agg cs.toArray) ∧ BIs w.heap.size none w' b cs ∧ plen b = 1 ∧ (∀ u ∈ cs, u.oneCell' = true) ∧ (r.2.bad = false → b = r.1) ∧ Pd w' P v L r.2 ∧ Kept P w w'
/-- What block comes to. -/
def BkPost (P : Nat) (v : Value) (L : List Tok) (w : World) (r : PB × RS) (e : Ending) (w' : World) : Prop :=
  ∃ ua un uc b cs, e = .returned (.slice ua un uc) ∧ w'.ownsRow w.heap.size 334 9 (.slice ua un uc) (plen b) cs ∧ BIs w.heap.size (Value.slice ua un uc).ownBlock w' b cs ∧ (r.2.bad = false → b = r.1) ∧ Pd w' P v L r.2 ∧ Kept P w w' ∧ plen b ≤ 802

/-- The cells of a place, as the program lays them. -/
theorem place_five (L : List Tok) (st : RS) (hL : ToksOk L) (hlt : st.at_ < L.length) : ∃ x : ELab, [Value.string (plT L st).1.text, .int .i64 (plT L st).1.at_, .bool (plT L st).2.1, .string (plT L st).2.2.1.text, .int .i64 (plT L st).2.2.1.at_] = plC (.node 0 0 x .nil .nil) ∧
    ((rPlace L st).2.bad = false → .node 0 0 x .nil .nil = (rPlace L st).1) := by
  obtain ⟨x, h1, h2⟩ := place_cells L st hL hlt
  refine ⟨x, ?_, h2⟩
  unfold xCells at h1
  have := congrArg Array.toList h1
  simp only [List.cons.injEq] at this
  obtain ⟨_, _, a, b, c, d, e, _⟩ := this
  simp only [plC]
  rw [a, b, c, d, e]

theorem rS_badEq {L : List Tok} {st : RS} (h : st.bad = true) : ∀ f tag : Nat, (rS f tag L st).2 = st
  | 0, _ => rfl
  | f + 1, 0 => by
    rw [rS, rMust_badEq h]
    show rMust L [125] (rS f 1 L st).2 = st
    rw [rS_badEq h f 1, rMust_badEq h]
  | f + 1, t + 1 => by rw [rS]; simp [h]
end Go.Proofs.YtpmcnonmkghokaaGreatDoor

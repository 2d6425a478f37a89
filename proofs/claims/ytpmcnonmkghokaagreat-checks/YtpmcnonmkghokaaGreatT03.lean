/-
  The program's parser, by the reference's state of reading: while neither is bad they agree, and once bad they stay so, at the same place.
  The reference's do, walked: a statement as rDo says, if block makes what rS says.
  The reference's block, walked; and by induction on the fuel block as rS says.
  The reference's members and params, walked.
  The reference's params, walked.
-/
import Derived.Test.YtpmcnonmkghokaaGreatT02
import Derived.Maps.AppendAt
set_option linter.unusedVariables false
set_option linter.unusedSimpArgs false
namespace Go.Proofs.YtpmcnonmkghokaaGreat
open Go.RowKit

/-- The parser's own state is that of reading. -/
structure PS (L : List Tok) (st : RS) (r : PR) : Prop where
  lt : st.at_ < L.length
  nlo : -(st.at_ : Int) ≤ st.nest
  nhi : st.nest ≤ 12
  good : st.bad = false → r.failed = false ∧ r.next = st.at_ ∧ r.depth = st.nest ∧ r.place = 0
  bad : st.bad = true → r.failed = true ∧ r.next = L.length - 1 ∧ r.place = (tk L st.at_).at_
def Pd (w : World) (P : Nat) (v : Value) (L : List Tok) (st : RS) : Prop := ∃ r, Pw w P v L r ∧ PS L st r

theorem Pd.below {w w' : World} {P : Nat} {v : Value} {L : List Tok} {st : RS} (h : Pd w P v L st) (hk : Below w.heap.size w w') : Pd w' P v L st := by
  obtain ⟨r, h1, h2⟩ := h
  exact ⟨r, h1.below hk, h2⟩
theorem Pd.setOther {w : World} {P : Nat} {v : Value} {L : List Tok} {st : RS} {B : Nat} (h : Pd w P v L st) (hB : ∀ g, v.ownBlock = some g → g < B) (hP : P < B) {p : Addr} (hp : B ≤ p.block) (u : Value) : Pd (w.setCell p u) P v L st := by
  obtain ⟨r, h1, h2⟩ := h
  exact ⟨r, h1.setOther hB hP hp u, h2⟩
/-- Where P's block and the tokens' block are as they were. -/
theorem Pd.same {w w' : World} {P : Nat} {v : Value} {L : List Tok} {st : RS} (h : Pd w P v L st) (hP : w'.heap[P]? = w.heap[P]?) (ho : w'.ownsRow 0 66 2 v L.length (ptsCells L)) : Pd w' P v L st := by
  obtain ⟨r, h1, h2⟩ := h
  exact ⟨r, ⟨by rw [hP]; exact h1.pd, ho, h1.ne, h1.ok, h1.lt⟩, h2⟩
theorem Pd.own {w : World} {P : Nat} {v : Value} {L : List Tok} {st : RS} (h : Pd w P v L st) : w.ownsRow 0 66 2 v L.length (ptsCells L) := by
  obtain ⟨r, h1, h2⟩ := h; exact h1.own
theorem Pd.in {w : World} {P : Nat} {v : Value} {L : List Tok} {st : RS} (h : Pd w P v L st) : P < w.heap.size := by
  obtain ⟨r, h1, h2⟩ := h; exact lt_of_block h1.pd
theorem Pd.ok {w : World} {P : Nat} {v : Value} {L : List Tok} {st : RS} (h : Pd w P v L st) : ToksOk L := by
  obtain ⟨r, h1, h2⟩ := h; exact h1.ok
theorem Pd.lt {w : World} {P : Nat} {v : Value} {L : List Tok} {st : RS} (h : Pd w P v L st) : st.at_ < L.length := by
  obtain ⟨r, h1, h2⟩ := h; exact h2.lt

theorem lits_ne : ∀ l ∈ lits, (([] : List UInt8) == l) = false := by decide
theorem lits_ne' : ∀ l ∈ lits, (l == ([] : List UInt8)) = false := by decide

theorem PS.is {L : List Tok} {st : RS} {r : PR} (h : PS L st r) (hL : ToksOk L) {l : List UInt8} (hl : l ∈ lits) : isR L l r = rNext L l st := by
  unfold isR rNext nextB
  cases hb : st.bad
  · rw [(h.good hb).2.1]
    exact (hL.ok _ h.lt).lit l hl
  · rw [(h.bad hb).2.1, hL.lastText, lits_ne l hl]; rfl
theorem PS.name {L : List Tok} {st : RS} {r : PR} (h : PS L st r) (hL : ToksOk L) : nameB L r = rKindOk L [110, 97, 109, 101] st := by
  unfold nameB rKindOk
  cases hb : st.bad
  · rw [(h.good hb).2.1, (hL.ok _ h.lt).name]; rfl
  · have : letB (tk L (L.length - 1)).text 0 = false := inB_no (toList_empty (by rw [hL.lastText]; rfl))
    rw [(h.bad hb).2.1, this]; rfl
theorem PS.digit {L : List Tok} {st : RS} {r : PR} (h : PS L st r) (hL : ToksOk L) : digB (tk L r.next).text 0 = rKindOk L [100, 105, 103, 105, 116] st := by
  unfold rKindOk
  cases hb : st.bad
  · rw [(h.good hb).2.1, (hL.ok _ h.lt).digit]; rfl
  · have : digB (tk L (L.length - 1)).text 0 = false := inB_no (toList_empty (by rw [hL.lastText]; rfl))
    rw [(h.bad hb).2.1, this]; rfl
theorem PS.fail {L : List Tok} {st : RS} {r : PR} (h : PS L st r) : PS L { st with bad := true } (failR L r) := by
  refine ⟨h.lt, h.nlo, h.nhi, fun hb => by simp at hb, fun _ => ⟨rfl, rfl, ?_⟩⟩
  unfold failR
  cases hb : st.bad
  · rw [(h.good hb).1, (h.good hb).2.1]; rfl
  · rw [(h.bad hb).1, (h.bad hb).2.2]; rfl
theorem PS.step {L : List Tok} {st : RS} {r : PR} (h : PS L st r) (hb : st.bad = false) (hl : st.at_ + 1 < L.length) : PS L { st with at_ := st.at_ + 1 } { r with next := r.next + 1 } := by
  obtain ⟨g1, g2, g3, g4⟩ := h.good hb
  exact ⟨hl, by have := h.nlo; simp; omega, h.nhi, fun _ => ⟨g1, by simp [g2], g3, g4⟩, fun hb' => by simp [hb] at hb'⟩

def pAcc (L : List Tok) (l : List UInt8) (st : RS) : RS := if rNext L l st then { st with at_ := st.at_ + 1 } else st
def pExp (L : List Tok) (l : List UInt8) (st : RS) : RS := if rNext L l st then { st with at_ := st.at_ + 1 } else { st with bad := true }
theorem next_step {L : List Tok} {st : RS} {l : List UInt8} (hL : ToksOk L) (hl : st.at_ < L.length) (h : rNext L l st = true) : st.bad = false ∧ st.at_ + 1 < L.length := by
  unfold rNext nextB at h
  simp only [Bool.and_eq_true, Bool.or_eq_true, Bool.not_eq_true'] at h
  have hk : ((tk L st.at_).kind.toList == [101, 110, 100]) = false := by
    rcases h.1.2 with e | e <;> (rw [beq_iff_eq] at e; rw [e]; rfl)
  exact ⟨h.1.1, hL.fin hl (by rw [(hL.ok _ hl).fin]; exact hk)⟩
theorem PS.acc {L : List Tok} {st : RS} {r : PR} (h : PS L st r) (hL : ToksOk L) {l : List UInt8} (hl : l ∈ lits) : PS L (pAcc L l st) (accR L l r) := by
  unfold pAcc accR
  rw [h.is hL hl]
  cases hn : rNext L l st
  · exact h
  · have := next_step hL h.lt hn
    exact h.step this.1 this.2
theorem PS.exp {L : List Tok} {st : RS} {r : PR} (h : PS L st r) (hL : ToksOk L) {l : List UInt8} (hl : l ∈ lits) : PS L (pExp L l st) (expR L l r) := by
  unfold pExp expR
  rw [h.is hL hl]
  cases hn : rNext L l st
  · exact h.fail
  · have := next_step hL h.lt hn
    exact h.step this.1 this.2
theorem rMust_plain {L : List Tok} {l : List UInt8} {st : RS} (ho : opens l = false) (hs : shuts l = false) : rMust L l st = pExp L l st := by
  unfold rMust pExp
  rw [ho, hs]
  cases hn : rNext L l st
  · rfl
  · unfold rNext nextB at hn
    simp only [Bool.and_eq_true, Bool.or_eq_true, Bool.not_eq_true'] at hn
    simp [hn.1.1]
theorem PS.depth {L : List Tok} {st : RS} {r : PR} (h : PS L st r) (hb : st.bad = true) (d : Int) : PS L st { r with depth := d } :=
  ⟨h.lt, h.nlo, h.nhi, (fun hb' => by rw [hb] at hb'; cases hb'), fun hb' => h.bad hb'⟩
theorem PS.open {L : List Tok} {st : RS} {r : PR} (h : PS L st r) (hL : ToksOk L) {l : List UInt8} (hl : l ∈ lits) (ho : opens l = true) {d : Int} (hd : -1000 ≤ r.depth → r.depth ≤ 1000 → d = r.depth + 1) : PS L (rMust L l st) (openR L l d r) := by
  have hlen := hL.len
  have hlt := h.lt
  have hlo := h.nlo
  have hhi := h.nhi
  unfold rMust openR
  rw [ho]
  cases hb : st.bad
  · obtain ⟨g1, g2, g3, g4⟩ := h.good hb
    rw [g3]
    cases h12 : (st.nest == 12)
    · cases hn : rNext L l st
      · have e : expR L l r = failR L r := by unfold expR; rw [h.is hL hl, hn]; rfl
        simp only [Bool.not_false, Bool.true_or, if_true, Bool.false_eq_true, if_false]
        rw [e]
        exact (h.fail).depth rfl d
      · have e : expR L l r = { r with next := r.next + 1 } := by unfold expR; rw [h.is hL hl, hn]; rfl
        have hs := next_step hL h.lt hn
        have hn12 : st.nest ≠ 12 := by simpa using h12
        simp only [Bool.not_true, Bool.and_false, Bool.or_false, Bool.false_eq_true, if_false, if_true]
        rw [e]
        have hd' := hd (by omega) (by omega)
        exact ⟨hs.2, by simp; omega, by simp; omega, fun _ => ⟨g1, by simp [g2], by simp [hd', g3], g4⟩, fun hb' => by simp at hb'⟩
    · simp only [Bool.and_true, Bool.or_true, if_true]
      exact h.fail
  · rw [rNext_bad hb]
    simp only [Bool.not_false, Bool.true_or, if_true]
    have e : expR L l r = failR L r := by unfold expR; rw [h.is hL hl, rNext_bad hb]; rfl
    rw [e]
    have h1 := h.fail
    split
    · exact h1
    · exact h1.depth rfl d
theorem PS.shut {L : List Tok} {st : RS} {r : PR} (h : PS L st r) (hL : ToksOk L) {l : List UInt8} (hl : l ∈ lits) (ho : opens l = false) (hs : shuts l = true) {d : Int} (hd : -1000 ≤ r.depth → r.depth ≤ 1000 → d = r.depth - 1) : PS L (rMust L l st) { expR L l r with depth := d } := by
  have hlen := hL.len
  have hlt := h.lt
  have hlo := h.nlo
  have hhi := h.nhi
  unfold rMust
  rw [ho, hs]
  cases hb : st.bad
  · obtain ⟨g1, g2, g3, g4⟩ := h.good hb
    cases hn : rNext L l st
    · have e : expR L l r = failR L r := by unfold expR; rw [h.is hL hl, hn]; rfl
      simp only [Bool.not_false, Bool.true_or, if_true]
      rw [e]
      exact (h.fail).depth rfl d
    · have e : expR L l r = { r with next := r.next + 1 } := by unfold expR; rw [h.is hL hl, hn]; rfl
      have hs := next_step hL h.lt hn
      simp only [Bool.not_true, Bool.false_and, Bool.or_false, Bool.false_eq_true, if_false, if_true]
      rw [e]
      have hd' := hd (by omega) (by omega)
      exact ⟨hs.2, by simp; omega, by simp; omega, fun _ => ⟨g1, by simp [g2], by simp [hd', g3], g4⟩, fun hb' => by simp at hb'⟩
  · rw [rNext_bad hb]
    simp only [Bool.not_false, Bool.true_or, if_true]
    have e : expR L l r = failR L r := by unfold expR; rw [h.is hL hl, rNext_bad hb]; rfl
    rw [e]
    have h1 := h.fail
    exact h1.depth rfl d

theorem is_lit (l : List UInt8) (hl : l ∈ lits) (w : World) (P : Nat) (v : Value) (L : List Tok) (st : RS) (h : Pd w P v L st) :
    Calls Tryz.prog 24 #[.pointer (some ⟨P, 0, none⟩), .string ⟨l.toArray⟩] w fun e w' => e = .returned (.bool (rNext L l st)) ∧ Pd w' P v L st ∧ Kept P w w' := by
  obtain ⟨r, h1, h2⟩ := h
  refine (is_any ⟨l.toArray⟩ w P v L r h1).mono fun e w' ⟨a, b⟩ => ⟨?_, ⟨r, h1.below b, h2⟩, .of_below b⟩
  rw [a, ← h2.is h1.ok hl]; unfold isR; rw [toList_lit l]
theorem accept_lit (l : List UInt8) (hl : l ∈ lits) (w : World) (P : Nat) (v : Value) (L : List Tok) (st : RS) (h : Pd w P v L st) :
    Calls Tryz.prog 87 #[.pointer (some ⟨P, 0, none⟩), .string ⟨l.toArray⟩] w fun e w' => e = .returned (.bool (rNext L l st)) ∧ Pd w' P v L (pAcc L l st) ∧ Kept P w w' := by
  obtain ⟨r, h1, h2⟩ := h
  refine (accept_any ⟨l.toArray⟩ w P v L r h1 (by rw [toList_lit l]; exact lits_ne' l hl)).mono fun e w' ⟨a, b, c⟩ => ⟨?_, ⟨_, b, ?_⟩, c⟩
  · rw [a, toList_lit l, h2.is h1.ok hl]
  · rw [toList_lit l]; exact h2.acc h1.ok hl
theorem expect_lit (l : List UInt8) (hl : l ∈ lits) (ho : opens l = false) (hs : shuts l = false) (w : World) (P : Nat) (v : Value) (L : List Tok) (st : RS) (h : Pd w P v L st) :
    Calls Tryz.prog 83 #[.pointer (some ⟨P, 0, none⟩), .string ⟨l.toArray⟩] w fun e w' => e = .returned (.tuple #[]) ∧ Pd w' P v L (rMust L l st) ∧ Kept P w w' := by
  obtain ⟨r, h1, h2⟩ := h
  refine (expect_any ⟨l.toArray⟩ w P v L r h1 (by rw [toList_lit l]; exact lits_ne' l hl)).mono fun e w' ⟨a, b, c⟩ => ⟨a, ⟨_, b, ?_⟩, c⟩
  rw [toList_lit l, rMust_plain ho hs]; exact h2.exp h1.ok hl
theorem open_lit (l : List UInt8) (hl : l ∈ lits) (ho : opens l = true) (w : World) (P : Nat) (v : Value) (L : List Tok) (st : RS) (h : Pd w P v L st) :
    Calls Tryz.prog 86 #[.pointer (some ⟨P, 0, none⟩), .string ⟨l.toArray⟩] w fun e w' => e = .returned (.tuple #[]) ∧ Pd w' P v L (rMust L l st) ∧ Kept P w w' := by
  obtain ⟨r, h1, h2⟩ := h
  refine (open_any ⟨l.toArray⟩ w P v L r h1 (by rw [toList_lit l]; exact lits_ne' l hl)).mono fun e w' ⟨a, ⟨d, b, hd⟩, c⟩ => ⟨a, ⟨_, b, ?_⟩, c⟩
  rw [toList_lit l]; exact h2.open h1.ok hl ho hd
theorem shut_lit (l : List UInt8) (hl : l ∈ lits) (ho : opens l = false) (hs : shuts l = true) (w : World) (P : Nat) (v : Value) (L : List Tok) (st : RS) (h : Pd w P v L st) :
    Calls Tryz.prog 88 #[.pointer (some ⟨P, 0, none⟩), .string ⟨l.toArray⟩] w fun e w' => e = .returned (.tuple #[]) ∧ Pd w' P v L (rMust L l st) ∧ Kept P w w' := by
  obtain ⟨r, h1, h2⟩ := h
  refine (shut_any ⟨l.toArray⟩ w P v L r h1 (by rw [toList_lit l]; exact lits_ne' l hl)).mono fun e w' ⟨a, ⟨d, b, hd⟩, c⟩ => ⟨a, ⟨_, b, ?_⟩, c⟩
  rw [toList_lit l]; exact h2.shut h1.ok hl ho hs hd
theorem PS.kind {L : List Tok} {st : RS} {r : PR} (h : PS L st r) (hL : ToksOk L) {k : List UInt8} (hk : (k == [101, 110, 100]) = false) {b : Bool} (hb : b = rKindOk L k st) :
    PS L (rKind L k st).2 (if b then { r with next := r.next + 1 } else failR L r) ∧ (if b then tk L r.next else noTok) = (rKind L k st).1 := by
  subst hb
  unfold rKind
  cases hn : rKindOk L k st
  · exact ⟨h.fail, rfl⟩
  · have h1 := hn
    unfold rKindOk at h1
    simp only [Bool.and_eq_true, Bool.not_eq_true'] at h1
    have h2 := h1.2
    rw [beq_iff_eq] at h2
    refine ⟨h.step h1.1 (hL.fin h.lt (by rw [(hL.ok _ h.lt).fin, h2]; exact hk)), ?_⟩
    simp only [if_true]
    rw [(h.good h1.1).2.1]
theorem name_lit (w : World) (P : Nat) (v : Value) (L : List Tok) (st : RS) (h : Pd w P v L st) :
    Calls Tryz.prog 84 #[.pointer (some ⟨P, 0, none⟩)] w fun e w' => e = .returned (ptV (rKind L [110, 97, 109, 101] st).1) ∧ Pd w' P v L (rKind L [110, 97, 109, 101] st).2 ∧ Kept P w w' := by
  obtain ⟨r, h1, h2⟩ := h
  have hk := h2.kind h1.ok (k := [110, 97, 109, 101]) rfl (h2.name h1.ok)
  exact (name_any w P v L r h1).mono fun e w' ⟨a, b, c⟩ => ⟨by rw [a, ← hk.2]; rfl, ⟨_, b, hk.1⟩, c⟩
theorem digit_lit (w : World) (P : Nat) (v : Value) (L : List Tok) (st : RS) (h : Pd w P v L st) :
    Calls Tryz.prog 85 #[.pointer (some ⟨P, 0, none⟩)] w fun e w' => e = .returned (dgV (rKind L [100, 105, 103, 105, 116] st).1) ∧ Pd w' P v L (rKind L [100, 105, 103, 105, 116] st).2 ∧ Kept P w w' := by
  obtain ⟨r, h1, h2⟩ := h
  have hk := h2.kind h1.ok (k := [100, 105, 103, 105, 116]) rfl (h2.digit h1.ok)
  exact (pdigit_any w P v L r h1).mono fun e w' ⟨a, b, c⟩ => ⟨by rw [a, ← hk.2]; rfl, ⟨_, b, hk.1⟩, c⟩
theorem fail_lit (w : World) (P : Nat) (v : Value) (L : List Tok) (st : RS) (h : Pd w P v L st) :
    Calls Tryz.prog 25 #[.pointer (some ⟨P, 0, none⟩)] w fun e w' => e = .returned (.tuple #[]) ∧ Pd w' P v L { st with bad := true } ∧ Kept P w w' := by
  obtain ⟨r, h1, h2⟩ := h
  exact (fail_any w P v L r h1).mono fun e w' ⟨a, b, c⟩ => ⟨a, ⟨_, b, h2.fail⟩, c⟩

end Go.Proofs.YtpmcnonmkghokaaGreat
namespace Go.Proofs.YtpmcnonmkghokaaGreat
open Go.RowKit

def bFuel (L : List Tok) (k c : Nat) (st : RS) (f : Nat) : Prop := if st.bad then k ≤ f else 4 * (L.length - st.at_) + c ≤ f
theorem bFuel_le {L : List Tok} {k c : Nat} {st : RS} {f : Nat} (h : 4 * (L.length - st.at_) + c ≤ f) (hk : k ≤ f) : bFuel L k c st f := by
  unfold bFuel; split
  · exact hk
  · exact h
theorem bFuel_ok {L : List Tok} {k c : Nat} {st : RS} {f : Nat} (hb : st.bad = false) (h : bFuel L k c st f) : 4 * (L.length - st.at_) + c ≤ f := by simpa [bFuel, hb] using h
theorem bFuel_bad {L : List Tok} {k c : Nat} {st : RS} {f : Nat} (hb : st.bad = true) (h : bFuel L k c st f) : k ≤ f := by simpa [bFuel, hb] using h
theorem bFuel_must {L : List Tok} {s : List UInt8} {k c d : Nat} {st : RS} {f : Nat} (hlt : st.at_ < L.length) (hd : 4 * (L.length - st.at_) + d ≤ f + 1) (hc : c ≤ d + 3) (hk : k ≤ f) : bFuel L k c (rMust L s st) f := by
  unfold bFuel; split
  · exact hk
  · rename_i h
    rw [rMust_ok (by simpa using h)]
    omega

def BPost (R : Nat) (v : Value) (L : List Tok) (w : World) (r : PB × RS) (e : Ending) (w' : World) : Prop :=
  ∃ vs ps, e = .returned vs ∧ w'.ownsRow w.heap.size 112 1 vs ps.length ps ∧ StmtsIs w.heap.size none w' r.1 ps ∧ Rd w' R v L r.2 ∧ Kept R w w'
def DPost (R : Nat) (v : Value) (L : List Tok) (w : World) (r : PB × RS) (e : Ending) (w' : World) : Prop :=
  ∃ p, e = .returned (.pointer p) ∧ StmtsIs w.heap.size none w' r.1 [.pointer p] ∧ Rd w' R v L r.2 ∧ Kept R w w'
def BlockSaid (f : Nat) : Prop := ∀ (w : World) (R : Nat) (v : Value) (L : List Tok) (st : RS), Rd w R v L st → DigOk L → bFuel L 2 3 st f →
  Calls Tryz.prog 38 #[.pointer (some ⟨R, 0, none⟩)] w (BPost R v L w (rS f 0 L st))
def DoSaid (f : Nat) : Prop := ∀ (w : World) (R : Nat) (v : Value) (L : List Tok) (st : RS), Rd w R v L st → DigOk L → bFuel L 2 2 st (f + 1) →
  Calls Tryz.prog 78 #[.pointer (some ⟨R, 0, none⟩)] w (DPost R v L w (rDo (rS f 0 L) L st))

theorem level_zero (w : World) (R : Nat) (v : Value) (L : List Tok) (st : RS) (h : Rd w R v L st) (hD : DigOk L) :
    Calls Tryz.prog 37 #[.pointer (some ⟨R, 0, none⟩), .int .i64 0] w (XPost R v L w (rX (fuelX L) 0 .nil L st)) :=
  (levels (fuelX L)).1 0 w R v L st (by omega) h hD (need_le (by unfold fuelX; omega) (by unfold fuelX; omega))

theorem row5 {w : World} {b : Nat} {x0 x1 x2 x3 x4 : Value} {t : TypeId} (h : w.heap[b]? = some (.cells #[x0, x1, x2, x3, x4] t (0, 0))) :
    w.cell? ⟨b, 0, none⟩ = some x0 ∧ w.cell? ⟨b, 1, none⟩ = some x1 ∧ w.cell? ⟨b, 2, none⟩ = some x2 ∧ w.cell? ⟨b, 3, none⟩ = some x3 ∧ w.cell? ⟨b, 4, none⟩ = some x4 ∧
    w.frozen? ⟨b, 0, none⟩ = false ∧ w.frozen? ⟨b, 1, none⟩ = false ∧ w.frozen? ⟨b, 2, none⟩ = false ∧ w.frozen? ⟨b, 3, none⟩ = false ∧ w.frozen? ⟨b, 4, none⟩ = false :=
  ⟨by rw [cell_of_row w b 0 _ _ _ h]; rfl, by rw [cell_of_row w b 1 _ _ _ h]; rfl, by rw [cell_of_row w b 2 _ _ _ h]; rfl, by rw [cell_of_row w b 3 _ _ _ h]; rfl, by rw [cell_of_row w b 4 _ _ _ h]; rfl,
   frozen_of_row w b 0 _ _ h, frozen_of_row w b 1 _ _ h, frozen_of_row w b 2 _ _ h, frozen_of_row w b 3 _ _ h, frozen_of_row w b 4 _ _ h⟩

theorem set_stay {w : World} {X o : Nat} {u : Value} : ∀ k, X + 1 ≤ k → k < w.heap.size → (w.setCell ⟨X, o, none⟩ u).heap[k]? = w.heap[k]? := fun k h _ => Below.heap_setCell _ _ _ _ (by simp only; omega)

theorem own_slice {w : World} {lo e size : Nat} {v : Value} {n : Nat} {xs : List Value} (h : w.ownsRow lo e size v n xs) : ∃ a l c, v = .slice a l c := by
  rcases h.2 with ⟨rfl, _⟩ | ⟨g, cap, cur, rfl, _⟩
  · exact ⟨_, _, _, rfl⟩
  · exact ⟨_, _, _, rfl⟩

theorem rDo_set {blk : RS → PB × RS} {L : List Tok} {st : RS} (hi : rNext L [105, 102] st = false) :
    rDo blk L st = (setS (rPlace L st).1 (rX (fuelX L) 0 .nil L (rMust L [61] (rPlace L st).2)).1, rMust L [59] (rX (fuelX L) 0 .nil L (rMust L [61] (rPlace L st).2)).2) := by
  unfold rDo; rw [hi]; rfl
theorem rDo_if {blk : RS → PB × RS} {L : List Tok} {st : RS} {c : PX × RS} {t : PB × RS} (hi : rNext L [105, 102] st = true) (hc : rX (fuelX L) 0 .nil L (rMust L [105, 102] st) = c) (ht : blk c.2 = t) :
    rDo blk L st = if rNext L [101, 108, 115, 101] t.2 then (ifS c.1 t.1 (blk (rMust L [101, 108, 115, 101] t.2)).1, (blk (rMust L [101, 108, 115, 101] t.2)).2) else (ifS c.1 t.1 .nil, t.2) := by
  subst hc; subst ht
  unfold rDo; rw [if_pos hi]

set_option maxRecDepth 100000 in
set_option maxHeartbeats 4000000 in
theorem do_step (f : Nat) (hB : BlockSaid f) : DoSaid f := by
  intro w R v L st h hD hf
  have hX : R < w.heap.size := lt_of_block h.rd
  have HV := hide (own_lt h.own)
  have hlt := h.lt
  go_enter Tryz.func78, Tryz.ntmps78
  go_wp2_with fail
  refine (next_lit [105, 102] _ R v L st (h.below (below_alloc1 _ _))).mono ?_
  rintro e w1 ⟨rfl, h1, hk1⟩
  have hx1 := (hk1.block w.heap.size (by simp) (by omega)).trans (heap_alloc_new _ _)
  have HK1 := hide (((Kept.refl R w).alloc _).trans hk1)
  have H1 := hide h1
  have HX1 := hide hx1
  clear h h1 hk1 hx1
  cases hi : rNext L [105, 102] st
  · have HE := hide (rDo_set (blk := rS f 0 L) hi)
    go_wp2_with fail
    refine (place_any _ R v L st (unhide H1)).mono ?_
    rintro e w2 ⟨p2, rfl, hp2, h2, hk2⟩
    have hx2 := (hk2.block w.heap.size (lt_of_block (unhide HX1)) (by omega)).trans (unhide HX1)
    obtain ⟨d0, d1, d2, d3, d4, e0, e1, e2, e3, e4⟩ := row5 hx2
    have HK2 := hide ((unhide HK1).trans hk2)
    have HP2 := hide (hp2.mono (lo' := w.heap.size + 1) (lt_of_block (unhide HX1)))
    have H2 := hide h2
    have HX2 := hide hx2
    obtain ⟨p2, rfl⟩ := hp2.ptr
    clear hp2 h2 hk2 hx2 HX1 HK1 H1
    generalize rPlace L st = P at *
    go_wp2_with fail
    refine (must_lit [61] _ R v L P.2 ((unhide H2).setNew (unhide HV) hX (by simp) _)).mono ?_
    rintro e w3 ⟨rfl, h3, hk3⟩
    have hx3 := (hk3.block w.heap.size (by simpa using lt_of_block (unhide HX2)) (by omega)).trans (heap_setCell_same _ _ 0 _ _ (.pointer p2) (unhide HX2))
    have HK3 := hide (((unhide HK2).setNew (p := ⟨w.heap.size, 0, none⟩) (by simp) (.pointer p2)).trans hk3)
    have HP3 := hide (((unhide HP2).stay (set_stay (o := 0) (u := .pointer p2))).kept hk3 (by omega))
    have H3 := hide h3
    have HX3 := hide hx3
    clear h3 hk3 hx3 HX2 HK2 H2 HP2 d0 d1 d2 d3 d4 e0 e1 e2 e3 e4
    go_wp2_with fail
    refine (level_zero _ R v L _ (unhide H3) hD).mono ?_
    rintro e w4 ⟨p4, rfl, hp4, h4, hk4⟩
    have hx4 := (hk4.block w.heap.size (lt_of_block (unhide HX3)) (by omega)).trans (unhide HX3)
    obtain ⟨d0, d1, d2, d3, d4, e0, e1, e2, e3, e4⟩ := row5 hx4
    have HK4 := hide ((unhide HK3).trans hk4)
    have HP4 := hide ((unhide HP3).kept hk4 (by omega))
    have HV4 := hide (hp4.mono (lo' := w.heap.size + 1) (lt_of_block (unhide HX3)))
    have H4 := hide h4
    have HX4 := hide hx4
    obtain ⟨p4, rfl⟩ := hp4.ptr
    clear hp4 h4 hk4 hx4 HX3 HK3 H3 HP3
    generalize rX (fuelX L) 0 .nil L (rMust L [61] P.2) = V at *
    go_wp2_with fail
    refine (must_lit [59] _ R v L V.2 ((unhide H4).setNew (unhide HV) hX (by simp) _)).mono ?_
    rintro e w5 ⟨rfl, h5, hk5⟩
    have hx5 := (hk5.block w.heap.size (by simpa using lt_of_block (unhide HX4)) (by omega)).trans (heap_setCell_same _ _ 1 _ _ (.pointer p4) (unhide HX4))
    have HK5 := hide (((unhide HK4).setNew (p := ⟨w.heap.size, 1, none⟩) (by simp) (.pointer p4)).trans hk5)
    have HP5 := hide (((unhide HP4).stay (set_stay (o := 1) (u := .pointer p4))).kept hk5 (by omega))
    have HV5 := hide (((unhide HV4).stay (set_stay (o := 1) (u := .pointer p4))).kept hk5 (by omega))
    have H5 := hide h5
    have HX5 := hide hx5
    clear h5 hk5 hx5 HX4 HK4 H4 HP4 HV4 d0 d1 d2 d3 d4 e0 e1 e2 e3 e4
    go_wp2
    go_ret
    rw [unhide HE]
    exact ⟨_, rfl, ⟨_, _, _, _, [], rfl, Nat.le_refl _, unhide HX5, ⟨(unhide HP5).mono (by omega), (unhide HV5).mono (by omega), rfl⟩, rfl⟩, unhide H5, unhide HK5⟩
  · have hdf : 4 * (L.length - st.at_) + 2 ≤ f + 1 := bFuel_ok (next_lt (unhide H1) hi).2 hf
    go_wp2_with fail
    refine (must_lit [105, 102] _ R v L st (unhide H1)).mono ?_
    rintro e w2 ⟨rfl, h2, hk2⟩
    have hx2 := (hk2.block w.heap.size (lt_of_block (unhide HX1)) (by omega)).trans (unhide HX1)
    have HK2 := hide ((unhide HK1).trans hk2)
    have H2 := hide h2
    have HX2 := hide hx2
    have hat : (rMust L [105, 102] st).at_ = st.at_ + 1 := by
      apply rMust_ok
      unfold rMust; rw [hi]; rfl
    clear h2 hk2 hx2 HX1 HK1 H1
    go_wp2_with fail
    refine (level_zero _ R v L _ (unhide H2) hD).mono ?_
    rintro e w3 ⟨p3, rfl, hp3, h3, hk3⟩
    have hx3 := (hk3.block w.heap.size (lt_of_block (unhide HX2)) (by omega)).trans (unhide HX2)
    obtain ⟨d0, d1, d2, d3, d4, e0, e1, e2, e3, e4⟩ := row5 hx3
    have HK3 := hide ((unhide HK2).trans hk3)
    have HP3 := hide (hp3.mono (lo' := w.heap.size + 1) (lt_of_block (unhide HX2)))
    have H3 := hide h3
    have HX3 := hide hx3
    obtain ⟨p3, rfl⟩ := hp3.ptr
    clear hp3 h3 hk3 hx3 HX2 HK2 H2
    have hmo := rX_mono (fuelX L) 0 .nil L (rMust L [105, 102] st)
    generalize hc : rX (fuelX L) 0 .nil L (rMust L [105, 102] st) = C at HP3 H3 hmo
    have HC := hide hc
    clear hc
    go_wp2_with fail
    refine (hB _ R v L C.2 ((unhide H3).setNew (unhide HV) hX (by simp) _) hD (bFuel_le (by omega) (by omega))).mono ?_
    rintro e w4 ⟨vs, qs, rfl, hvs, hqs, h4, hk4⟩
    have hsz3 := lt_of_block (unhide HX3)
    have hx4 := (hk4.block w.heap.size (by simpa using lt_of_block (unhide HX3)) (by omega)).trans (heap_setCell_same _ _ 2 _ _ (.pointer p3) (unhide HX3))
    obtain ⟨d0, d1, d2, d3, d4, e0, e1, e2, e3, e4⟩ := row5 hx4
    have HK4 := hide (((unhide HK3).setNew (p := ⟨w.heap.size, 2, none⟩) (by simp) (.pointer p3)).trans hk4)
    have HP4 := hide (((unhide HP3).stay (set_stay (o := 2) (u := .pointer p3))).kept hk4 (by omega))
    have HS4 := hide (hqs.mono (lo' := w.heap.size + 1) (by have := hsz3; simp; omega))
    have HW4 := hide (owns_mono (lo' := w.heap.size + 1) (by have := hsz3; simp; omega) hvs)
    have H4 := hide h4
    have HX4 := hide hx4
    obtain ⟨sa, sl, sc, rfl⟩ := own_slice hvs
    clear hvs hqs h4 hk4 hx4 HX3 HK3 H3 HP3
    have hmt := rS_mono L f 0 C.2
    generalize ht : rS f 0 L C.2 = T at HS4 H4 hmt
    have HE := hide (rDo_if (blk := rS f 0 L) hi (unhide HC) ht)
    clear ht HC hi
    go_wp2_with fail
    refine (next_lit [101, 108, 115, 101] _ R v L T.2 ((unhide H4).setNew (unhide HV) hX (by simp) _)).mono ?_
    rintro e w5 ⟨rfl, h5, hk5⟩
    have hx5 := (hk5.block w.heap.size (by simpa using lt_of_block (unhide HX4)) (by omega)).trans (heap_setCell_same _ _ 3 _ _ (.slice sa sl sc) (unhide HX4))
    have HK5 := hide (((unhide HK4).setNew (p := ⟨w.heap.size, 3, none⟩) (by simp) (.slice sa sl sc)).trans hk5)
    have HP5 := hide (((unhide HP4).stay (set_stay (o := 3) (u := .slice sa sl sc))).kept hk5 (by omega))
    have HS5 := hide (((unhide HS4).stay (set_stay (o := 3) (u := .slice sa sl sc))).kept hk5 (by omega))
    have HW5 := hide (owns_kept' (owns_stay (set_stay (o := 3) (u := .slice sa sl sc)) (unhide HW4)) hk5 (by omega))
    have H5 := hide h5
    have HX5 := hide hx5
    clear h5 hk5 hx5 HX4 HK4 H4 HP4 HS4 HW4 d0 d1 d2 d3 d4 e0 e1 e2 e3 e4
    cases hel : rNext L [101, 108, 115, 101] T.2
    · rw [hel] at HE
      go_wp2
      go_ret
      rw [unhide HE]
      exact ⟨_, rfl, ⟨_, _, _, _, _, _, _, [], [], rfl, Nat.le_refl _, unhide HX5, ⟨rfl, rfl, (unhide HP5).mono (by omega)⟩, ⟨owns_mono (by omega) (unhide HW5), (fun _ _ h => by cases h), (unhide HS5).mono (by omega)⟩, ⟨World.ownsRow_nil _ _ _ _, (fun _ _ h => by cases h), rfl⟩, rfl⟩, unhide H5, unhide HK5⟩
    · rw [hel] at HE
      have hatT := (unhide H5).lt
      go_wp2_with fail
      refine (must_lit [101, 108, 115, 101] _ R v L T.2 (unhide H5)).mono ?_
      rintro e w6 ⟨rfl, h6, hk6⟩
      have hx6 := (hk6.block w.heap.size (lt_of_block (unhide HX5)) (by omega)).trans (unhide HX5)
      have HK6 := hide ((unhide HK5).trans hk6)
      have HP6 := hide ((unhide HP5).kept hk6 (by omega))
      have HS6 := hide ((unhide HS5).kept hk6 (by omega))
      have HW6 := hide (owns_kept' (unhide HW5) hk6 (by omega))
      have H6 := hide h6
      have HX6 := hide hx6
      clear h6 hk6 hx6 HX5 HK5 H5 HP5 HS5 HW5
      have hmm := rMust_mono L [101, 108, 115, 101] T.2
      go_wp2_with fail
      refine (hB _ R v L _ (unhide H6) hD (bFuel_le (by omega) (by omega))).mono ?_
      rintro e w7 ⟨ve, qe, rfl, hve, hqe, h7, hk7⟩
      have hsz6 := lt_of_block (unhide HX6)
      have hx7 := (hk7.block w.heap.size (lt_of_block (unhide HX6)) (by omega)).trans (unhide HX6)
      obtain ⟨d0, d1, d2, d3, d4, e0, e1, e2, e3, e4⟩ := row5 hx7
      have HK7 := hide ((unhide HK6).trans hk7)
      have HP7 := hide ((unhide HP6).kept hk7 (by omega))
      have HS7 := hide ((unhide HS6).kept hk7 (by omega))
      have HW7 := hide (owns_kept' (unhide HW6) hk7 (by omega))
      have HSe := hide (hqe.mono (lo' := w.heap.size + 1) hsz6)
      have HWe := hide (owns_mono (lo' := w.heap.size + 1) hsz6 hve)
      have H7 := hide h7
      have HX7 := hide hx7
      obtain ⟨ea, el, ec, rfl⟩ := own_slice hve
      clear hve hqe h7 hk7 hx7 HX6 HK6 H6 HP6 HS6 HW6
      go_wp2
      go_ret
      rw [unhide HE]
      exact ⟨_, rfl, ⟨_, _, _, _, _, _, _, _, [], rfl, Nat.le_refl _, heap_setCell_same _ _ 4 _ _ (.slice ea el ec) (unhide HX7), ⟨rfl, rfl, ((unhide HP7).stay set_stay).mono (by omega)⟩, ⟨owns_mono (by omega) (owns_stay set_stay (unhide HW7)), (fun _ _ h => by cases h), ((unhide HS7).stay set_stay).mono (by omega)⟩,
        ⟨owns_mono (by omega) (owns_stay set_stay (unhide HWe)), (fun _ _ h => by cases h), ((unhide HSe).stay set_stay).mono (by omega)⟩, rfl⟩, (unhide H7).setNew (unhide HV) hX (by simp) _, (unhide HK7).setNew (by simp) _⟩

end Go.Proofs.YtpmcnonmkghokaaGreat
namespace Go.Proofs.YtpmcnonmkghokaaGreat
open Go.RowKit

theorem Tryz.infoDoP : (Tryz.prog.info? 112).map (fun i => (i.zero, i.size, i.bytes)) = some (some (.pointer none), 1, 8) := by kernel_rfl

/-- What holds at the head of a round of block. -/
def BlRel (f : Nat) (w : World) (R : Nat) (v : Value) (L : List Tok) (fin : PB × RS) (l m : Value) (wr : World) : Prop :=
  ∃ (ps : List Value) (acc : PB) (st : RS) (g : Nat), m = .bool (rNext L [125] st) ∧ wr.ownsRow w.heap.size 112 1 l ps.length ps ∧ StmtsIs w.heap.size l.ownBlock wr acc ps ∧ Rd wr R v L st ∧ Kept R w wr ∧
    (bapp acc (rS g 1 L st).1, (rS g 1 L st).2) = fin ∧ bFuel L 1 2 st g ∧ g ≤ f ∧ ps.length ≤ st.at_ + st.bad.toNat

def gdOf (w : World) (R : Nat) : Nat := match w.cell? ⟨R, 3, none⟩ with
  | some (.bool false) => 1
  | _ => 0
theorem Rd.gdOf {w : World} {R : Nat} {v : Value} {L : List Tok} {st : RS} (h : Rd w R v L st) : Go.Proofs.YtpmcnonmkghokaaGreat.gdOf w R = (!st.bad).toNat := by
  obtain ⟨c0, c1, c2, c3, _⟩ := row4 h.rd
  unfold Go.Proofs.YtpmcnonmkghokaaGreat.gdOf
  rw [c3]
  cases st.bad <;> rfl

/-- Behind an append to a list of statements whose row is shunned, the new row is. -/
theorem StmtsIs.grownAt {lo base : Nat} {w w' : World} {v : Value} {n : Nat} {xs : List Value} {no' : Option Nat} (hv : w.ownsRow base 112 1 v n xs) (hg : w.grownBy w' v.ownBlock) (hno : ∀ k, no' = some k → v.ownBlock = some k ∨ w.heap.size ≤ k) :
    ∀ {b : PB} {ps : List Value}, StmtsIs lo v.ownBlock w b ps → StmtsIs lo no' w' b ps
  | .nil, _, h => h
  | .node _ _ a .nil nx, ps, ⟨k, vp, vv, vi, qs, e, hl, hh, ha, hn⟩ => ⟨k, vp, vv, vi, qs, e, hl, by rw [hg.block k (lt_of_block hh) (not_row hv hh (by decide))]; exact hh, ⟨ha.1.grown hv (by decide) hg, ha.2.1.grown hv (by decide) hg, ha.2.2.grown hv (by decide) hg⟩, StmtsIs.grownAt hv hg hno hn⟩
  | .node _ _ a (.node _ _ _ t e) nx, ps, ⟨k, vp, vv, vi, vt, ve, qt, qe, qs, e1, hl, hh, ha, ⟨ht1, ht3, ht2⟩, ⟨he1, he3, he2⟩, hn⟩ => by
    have keep : ∀ {u : Value} {q : List Value}, w.ownsRow lo 112 1 u q.length q → (∀ j, u.ownBlock = some j → v.ownBlock ≠ some j) → w'.ownsRow lo 112 1 u q.length q ∧ ∀ j, u.ownBlock = some j → no' ≠ some j := by
      intro u q h1 h2
      refine ⟨h1.kept hg ?_, fun j hj hc => ?_⟩
      · cases hu : u.ownBlock with
        | none => exact Or.inl rfl
        | some j => exact Or.inr fun h => h2 j hu h.symm
      · have hlt := own_lt h1 j hj
        rcases hno j hc with h | h
        · exact h2 j hj h
        · omega
    exact ⟨k, vp, vv, vi, vt, ve, qt, qe, qs, e1, hl, by rw [hg.block k (lt_of_block hh) (not_row hv hh (by decide))]; exact hh, ⟨ha.1.grown hv (by decide) hg, ha.2.1.grown hv (by decide) hg, ha.2.2.grown hv (by decide) hg⟩,
      ⟨(keep ht1 ht3).1, (keep ht1 ht3).2, StmtsIs.grownAt hv hg hno ht2⟩, ⟨(keep he1 he3).1, (keep he1 he3).2, StmtsIs.grownAt hv hg hno he2⟩, StmtsIs.grownAt hv hg hno hn⟩

theorem own_at {v v' : Value} {B : Nat} (hat : v'.ownBlock = v.ownBlock ∨ v'.ownBlock = some B) : ∀ k, v'.ownBlock = some k → v.ownBlock = some k ∨ B ≤ k := by
  intro k hk
  rcases hat with e | e
  · rw [e] at hk; exact Or.inl hk
  · rw [e] at hk; simp at hk; exact Or.inr (by omega)
theorem Kept.grown {R : Nat} {a w w' : World} {v : Value} (h : Kept R a w) (hg : w.grownBy w' v.ownBlock) (hv : ∀ k, v.ownBlock = some k → a.heap.size ≤ k) : Kept R a w' :=
  ⟨hg.os.trans h.os, hg.tape.trans h.tape, hg.output.trans h.output, Nat.le_trans h.size hg.size, fun k hk hn => (hg.block k (Nat.lt_of_lt_of_le hk h.size) (fun e => by have := hv k e.symm; omega)).trans (h.block k hk hn)⟩

theorem Rd.grown {w w' : World} {R B : Nat} {v u : Value} {L : List Tok} {st : RS} (h : Rd w R v L st) (hg : w.grownBy w' u.ownBlock) (hu : ∀ k, u.ownBlock = some k → B ≤ k) (hB : ∀ g, v.ownBlock = some g → g < B) (hR : R < B) : Rd w' R v L st := by
  refine ⟨by rw [hg.block R (lt_of_block h.rd) (fun e => by have := hu R e.symm; omega)]; exact h.rd, ?_, h.ne, h.lt, h.len, h.fin, h.nlo, h.nhi⟩
  refine h.own.kept hg ?_
  cases hv : v.ownBlock with
  | none => exact Or.inl rfl
  | some j => exact Or.inr fun e => by have h1 := hu j e.symm; have h2 := hB j hv; omega

set_option maxRecDepth 100000 in
set_option maxHeartbeats 4000000 in
theorem block_step (f : Nat) (hDo : ∀ g, g + 1 ≤ f → DoSaid g) : BlockSaid (f + 1) := by
  intro w R v L st h hD hf
  obtain ⟨i0, hi, hz0, hz1, hz2⟩ := info_parts Tryz.infoDoP
  have hX : R < w.heap.size := lt_of_block h.rd
  have HV := hide (own_lt h.own)
  have hlt := h.lt
  have HE := hide (show rS (f + 1) 0 L st = ((rS f 1 L (rMust L [123] st)).1, rMust L [125] (rS f 1 L (rMust L [123] st)).2) from by rw [rS])
  have hfl : bFuel L 1 2 (rMust L [123] st) f := by
    cases hb : st.bad
    · have := bFuel_ok hb hf
      exact bFuel_must hlt this (by omega) (by omega)
    · have := bFuel_bad hb hf
      unfold bFuel
      rw [rMust_bad hb]
      simp; omega
  go_enter Tryz.func38, Tryz.ntmps38
  go_wp2_with fail
  refine (must_lit [123] _ R v L st h).mono ?_
  rintro e w1 ⟨rfl, h1, hk1⟩
  go_wp2_with fail
  refine (next_lit [125] _ R v L _ h1).mono ?_
  rintro e w2 ⟨rfl, h2, hk2⟩
  have HR := hide (show BlRel f w R v L (rS f 1 L (rMust L [123] st)) (.slice none 0 0) (.bool (rNext L [125] (rMust L [123] st))) w2 from
    ⟨[], .nil, rMust L [123] st, f, rfl, World.ownsRow_nil _ _ _ _, rfl, h2, hk1.trans hk2, rfl, hfl, Nat.le_refl _, Nat.zero_le _⟩)
  clear h h1 hk1 h2 hk2 hfl
  go_wp2_with fail
  go_loopw [3, 4] (fun l m wr => BlRel f w R v L (rS f 1 L (rMust L [123] st)) l m wr) (fun _ _ wr => 2 * (L.length - atOf wr R) + gdOf wr R)
  case atStart => exact unhide HR
  case round =>
    obtain ⟨ps, acc, s2, g, rfl, hown, hst, h2, hk2, hfin, hfu, hgf, hpl⟩ := hrel
    have hlt2 := h2.lt
    have hlen := h2.len
    have hR2 := lt_of_block h2.rd
    obtain ⟨c0, c1, c2, c3, f0, f1, f2, f3⟩ := row4 h2.rd
    have HO := hide hown
    have HS := hide hst
    have H2 := hide h2
    have HK := hide hk2
    have HF := hide hfin
    have hsz := hk2.size
    obtain ⟨la, ll, lc, rfl⟩ := own_slice hown
    clear hown hst h2 hk2 hfin
    cases hn : (rNext L [125] s2 || s2.bad)
    · rw [Bool.or_eq_false_iff] at hn
      obtain ⟨hn1, hb2⟩ := hn
      have hfu' := bFuel_ok hb2 hfu
      obtain ⟨g, rfl⟩ : ∃ g', g = g' + 1 := ⟨g - 1, by omega⟩
      rw [hb2] at c3
      have hF := unhide HF
      clear HF
      rw [rS, hn1, hb2] at hF
      simp only [Bool.or_false, Bool.false_eq_true, if_false] at hF
      have HF := hide hF
      clear hF
      go_wp2_with fail
      refine (hDo g (by omega) _ R v L s2 (unhide H2) hD (bFuel_le (by omega) (by omega))).mono ?_
      rintro e w3 ⟨p, rfl, hp, h3, hk3⟩
      have HO3 := hide (owns_kept' (unhide HO) hk3 hX)
      have hl3 := own_lt (unhide HO)
      have HS3 := hide (((unhide HS).kept hk3 hX).app ((hp.shun (no' := (Value.slice la ll lc).ownBlock) (fun k hk => Or.inr (Or.inr (hl3 k hk)))).mono hsz))
      have HK3 := hide ((unhide HK).trans hk3)
      have H3 := hide h3
      have hsz3 := hk3.size
      have hm2 := (unhide H2).atOf
      have hg2 := (unhide H2).gdOf
      have hprog : (rDo (rS g 0 L) L s2).2.bad = false → s2.at_ + 1 ≤ (rDo (rS g 0 L) L s2).2.at_ := rDo_prog (fun s => rS_mono L g 0 s) (fun s hs => rS_bad hs g 0)
      have hmono := rDo_mono (fun s => rS_mono L g 0 s) L s2
      generalize rDo (rS g 0 L) L s2 = d at HS3 H3 HF hprog hmono
      have hdl := (unhide H3).lt
      rw [hb2] at hpl
      simp only [Bool.toNat_false, Nat.add_zero] at hpl
      clear hp h3 hk3 HO HS hl3 c0 c1 c2 c3 f0 f1 f2 f3
      go_wp2_with (at_builtin; refine wpList_append_own_at _ rfl _ _ 59 rfl w.heap.size 112 i0 _ 1 8 Tryz.underlying59 hi hz0 hz1 hz2 rfl (by decide) _ _ _ rfl ((unhide HO3).alloc _) ⟨w3.heap.size, 0, none⟩ 1 1 [.pointer p] rfl rfl ?c1 ?c2 ?c3 ?c4 ?c5 ?_)
      case c1 => exact cells_new w3 _ [.pointer p] _ rfl
      case c2 => intro u hu; simp at hu; subst hu; rfl
      case c3 => unfold maxLen; omega
      case c4 => omega
      case c5 => simp; omega
      intro v' w4 hown' hgrow _ hat
      have hge := own_ge (unhide HO3)
      have hst4 : StmtsIs w.heap.size v'.ownBlock w4 (bapp acc d.1) (ps ++ [.pointer p]) := StmtsIs.grownAt ((unhide HO3).alloc _) hgrow (fun k hk => (own_at hat k hk).imp id (fun h => by simpa using h)) ((unhide HS3).stay (fun k _ hk => Below.heap_alloc _ _ _ hk))
      have h4 := ((unhide H3).below (below_alloc1 _ _)).grown hgrow hge (unhide HV) hX
      have hK4 := ((unhide HK3).alloc _).grown hgrow hge
      have HO4 := hide hown'
      have HS4 := hide hst4
      have H4 := hide h4
      have HK4 := hide hK4
      obtain ⟨va, vl, vc, rfl⟩ := own_slice hown'
      clear hown' hgrow hat hst4 h4 hK4 hge HO3 HS3 H3 HK3
      go_wp2_with fail
      refine (next_lit [125] _ R v L d.2 (unhide H4)).mono ?_
      rintro e w5 ⟨rfl, h5, hk5⟩
      have HR5 := hide (show BlRel f w R v L (rS f 1 L (rMust L [123] st)) (.slice va vl vc) (.bool (rNext L [125] d.2)) w5 from
        ⟨ps ++ [.pointer p], bapp acc d.1, d.2, g, rfl, by rw [List.length_append]; exact owns_kept' (unhide HO4) hk5 hX, (unhide HS4).kept hk5 hX, h5, (unhide HK4).trans hk5, by rw [bapp_assoc]; exact unhide HF,
          by
            unfold bFuel
            split
            · omega
            · rename_i hbb
              have := hprog (by simpa using hbb)
              omega, by omega, by
            rw [List.length_append]
            cases hbb : d.2.bad
            · have := hprog hbb
              simp; omega
            · simp; omega⟩)
      have hm5 := h5.atOf
      have hg5 := h5.gdOf
      have HM := hide (show 2 * (L.length - atOf w5 R) + gdOf w5 R < 2 * (L.length - atOf wr R) + gdOf wr R by
        rw [hm5, hg5, hm2, hg2, hb2]
        cases hbb : d.2.bad
        · have := hprog hbb
          simp; omega
        · simp; omega)
      clear h5 hk5 hm5 hg5 hm2 hg2
      go_wp2
      go_roundw
      case rel => exact unhide HR5
      case measure => exact unhide HM
    · have hg1 : 1 ≤ g := by
        cases hb2 : s2.bad
        · have := bFuel_ok hb2 hfu; omega
        · exact bFuel_bad hb2 hfu
      obtain ⟨g, rfl⟩ : ∃ g', g = g' + 1 := ⟨g - 1, by omega⟩
      have hF := unhide HF
      clear HF
      rw [rS, hn] at hF
      simp only [if_true, bapp_nil] at hF
      have HF := hide hF
      clear hF
      cases hn1 : rNext L [125] s2
      · have hb2 : s2.bad = true := by rw [hn1] at hn; simpa using hn
        rw [hb2] at c3
        go_wp2_with fail
        refine (must_lit [125] _ R v L s2 (unhide H2)).mono ?_
        rintro e w3 ⟨rfl, h3, hk3⟩
        have HO3 := hide (owns_kept' (unhide HO) hk3 hX)
        have HS3 := hide (((unhide HS).kept hk3 hX).shun (no' := none) (fun k hk => by cases hk))
        have HK3 := hide ((unhide HK).trans hk3)
        have H3 := hide h3
        clear h3 hk3
        go_wp2
        go_ret
        rw [unhide HE, ← unhide HF]
        exact ⟨_, ps, rfl, unhide HO3, unhide HS3, unhide H3, unhide HK3⟩
      · go_wp2_with fail
        refine (must_lit [125] _ R v L s2 (unhide H2)).mono ?_
        rintro e w3 ⟨rfl, h3, hk3⟩
        have HO3 := hide (owns_kept' (unhide HO) hk3 hX)
        have HS3 := hide (((unhide HS).kept hk3 hX).shun (no' := none) (fun k hk => by cases hk))
        have HK3 := hide ((unhide HK).trans hk3)
        have H3 := hide h3
        clear h3 hk3
        go_wp2
        go_ret
        rw [unhide HE, ← unhide HF]
        exact ⟨_, ps, rfl, unhide HO3, unhide HS3, unhide H3, unhide HK3⟩

theorem blocks (f : Nat) : BlockSaid f := by
  have h : ∀ f, ∀ g, g ≤ f → BlockSaid g := by
    intro f
    induction f with
    | zero =>
      intro g hg w R v L st h _ hf
      have : g = 0 := by omega
      subst this
      have := h.lt
      unfold bFuel at hf
      split at hf <;> omega
    | succ f ih =>
      intro g hg
      by_cases e : g ≤ f
      · exact ih g e
      · have : g = f + 1 := by omega
        subst this
        exact block_step f (fun k hk => do_step k (ih k (by omega)))
  exact h f f (Nat.le_refl _)

def fuelB (L : List Tok) : Nat := 4 * L.length + 4
theorem block_any (w : World) (R : Nat) (v : Value) (L : List Tok) (st : RS) (h : Rd w R v L st) (hD : DigOk L) :
    Calls Tryz.prog 38 #[.pointer (some ⟨R, 0, none⟩)] w (BPost R v L w (rS (fuelB L) 0 L st)) :=
  blocks (fuelB L) w R v L st h hD (bFuel_le (by unfold fuelB; omega) (by unfold fuelB; omega))

end Go.Proofs.YtpmcnonmkghokaaGreat
namespace Go.Proofs.YtpmcnonmkghokaaGreat
open Go.RowKit

/-- The members of a kind, behind those that were read. -/
def rMem : Nat → List Tok → List Tok → RS → List Tok × RS
  | 0, _, l, st => (l, st)
  | f + 1, L, l, st =>
    if st.bad then (l, st)
    else if rNext L [44] (rKind L [110, 97, 109, 101] st).2 || decide (l.length + 1 < 2) then rMem f L (l ++ [(rKind L [110, 97, 109, 101] st).1]) (rMust L [44] (rKind L [110, 97, 109, 101] st).2)
    else (l ++ [(rKind L [110, 97, 109, 101] st).1], (rKind L [110, 97, 109, 101] st).2)
def fuelM (L : List Tok) : Nat := L.length + 2
def rMembers (L : List Tok) (st : RS) : List Tok × RS :=
  ((rMem (fuelM L) L [] (rMust L [123] st)).1, rMust L [125] (rMem (fuelM L) L [] (rMust L [123] st)).2)

def mFuel (L : List Tok) (st : RS) (f : Nat) : Prop := if st.bad then 1 ≤ f else L.length - st.at_ + 1 ≤ f

theorem mFuel_start (L : List Tok) (st : RS) : mFuel L st (fuelM L) := by
  unfold mFuel fuelM; split <;> omega
theorem mFuel_pos {L : List Tok} {st : RS} {f : Nat} (h : mFuel L st f) : 1 ≤ f := by
  unfold mFuel at h; split at h <;> omega
theorem mFuel_step {L : List Tok} {st st' : RS} {f : Nat} (hlt : st.at_ < L.length) (hb : st.bad = false) (h : mFuel L st (f + 1)) (hp : st'.bad = false → st.at_ + 1 ≤ st'.at_) : mFuel L st' f := by
  unfold mFuel at *
  rw [hb] at h
  simp only [Bool.false_eq_true, if_false] at h
  split
  · omega
  · rename_i h1
    have := hp (by simpa using h1)
    omega

/-- Behind a kind, and a must, that are not bad, the reader stands further on. -/
theorem kind_prog {L : List Tok} {s : List UInt8} {st : RS} (h : (rKind L s st).2.bad = false) : st.at_ + 1 ≤ (rKind L s st).2.at_ := by rw [rKind_ok h]; omega
theorem must_prog {L : List Tok} {s : List UInt8} {a st : RS} (hp : st.bad = false → a.at_ + 1 ≤ st.at_) (h : (rMust L s st).bad = false) : a.at_ + 1 ≤ (rMust L s st).at_ := by
  have hb : st.bad = false := by
    cases hb : st.bad
    · rfl
    · rw [rMust_bad hb] at h; cases h
  have := rMust_mono L s st
  have := hp hb
  omega

def MemRel (w : World) (R : Nat) (v : Value) (L : List Tok) (fin : List Tok × RS) (x m : Value) (wr : World) : Prop :=
  ∃ (l : List Tok) (st : RS) (g : Nat) (b : Bool), m = .bool b ∧ wr.ownsRow w.heap.size 56 3 x l.length (toksCells l) ∧ Rd wr R v L st ∧ Kept R w wr ∧
    (b = true → rMem g L l st = fin ∧ mFuel L st g) ∧ (b = false → (l, st) = fin) ∧ l.length ≤ st.at_ + st.bad.toNat

def MemPost (R : Nat) (v : Value) (L : List Tok) (w : World) (r : List Tok × RS) (e : Ending) (w' : World) : Prop :=
  ∃ x, e = .returned x ∧ w'.ownsRow w.heap.size 56 3 x r.1.length (toksCells r.1) ∧ Rd w' R v L r.2 ∧ Kept R w w' ∧ r.1.length ≤ 801

theorem own_len {w : World} {lo e size : Nat} {a : Option Addr} {l c n : Nat} {xs : List Value} (h : w.ownsRow lo e size (.slice a l c) n xs) : l = n := by
  rcases h.2 with ⟨e1, e2⟩ | ⟨_, _, _, e1, _⟩
  · cases e1; omega
  · cases e1; rfl
theorem rd_bound {w : World} {R : Nat} {v : Value} {L : List Tok} {st : RS} {n : Nat} (h : Rd w R v L st) (hn : n ≤ st.at_ + st.bad.toNat) : n ≤ 801 := by
  have h1 := h.lt
  have h2 := h.len
  have : st.bad.toNat ≤ 1 := by cases st.bad <;> simp
  omega
/-- The measure of a round that has gone bad or further on. -/
theorem rd_less {w w' : World} {R : Nat} {v : Value} {L : List Tok} {st st' : RS} (h : Rd w R v L st) (h' : Rd w' R v L st') (hb : st.bad = false) (hm : st.at_ ≤ st'.at_) (hp : st'.bad = false → st.at_ + 1 ≤ st'.at_) :
    2 * (L.length - atOf w' R) + gdOf w' R < 2 * (L.length - atOf w R) + gdOf w R := by
  rw [h.atOf, h'.atOf, h.gdOf, h'.gdOf, hb]
  have h1 := h.lt
  have h2 := h'.lt
  cases hbb : st'.bad
  · have := hp hbb
    simp; omega
  · simp; omega

set_option maxRecDepth 100000 in
set_option maxHeartbeats 4000000 in
theorem members_any (w : World) (R : Nat) (v : Value) (L : List Tok) (st : RS) (h : Rd w R v L st) :
    Calls Tryz.prog 76 #[.pointer (some ⟨R, 0, none⟩)] w (MemPost R v L w (rMembers L st)) := by
  obtain ⟨i0, hi, hz0, hz1, hz2⟩ := info_parts Tryz.infoTok
  have hX : R < w.heap.size := lt_of_block h.rd
  have HV := hide (own_lt h.own)
  go_enter Tryz.func76, Tryz.ntmps76
  go_wp2_with fail
  refine (must_lit [123] _ R v L st h).mono ?_
  rintro e w1 ⟨rfl, h1, hk1⟩
  have HR := hide (show MemRel w R v L (rMem (fuelM L) L [] (rMust L [123] st)) (.slice none 0 0) (.bool true) w1 from
    ⟨[], rMust L [123] st, fuelM L, true, rfl, World.ownsRow_nil _ _ _ _, h1, hk1, fun _ => ⟨rfl, mFuel_start _ _⟩, fun h => (by cases h), Nat.zero_le _⟩)
  clear h h1 hk1
  go_wp2_with fail
  go_loopw [3, 4] (fun l m wr => MemRel w R v L (rMem (fuelM L) L [] (rMust L [123] st)) l m wr) (fun _ _ wr => 2 * (L.length - atOf wr R) + gdOf wr R)
  case atStart => exact unhide HR
  case round =>
    obtain ⟨l, s2, g, b, rfl, hown, h2, hk2, hT, hF, hpl⟩ := hrel
    have hlt2 := h2.lt
    have hlen := h2.len
    have hR2 := lt_of_block h2.rd
    obtain ⟨c0, c1, c2, c3, f0, f1, f2, f3⟩ := row4 h2.rd
    have HO := hide hown
    have H2 := hide h2
    have HK := hide hk2
    have hsz := hk2.size
    obtain ⟨la, ll, lc, rfl⟩ := own_slice hown
    have hll := own_len hown
    subst hll
    clear hown h2 hk2
    cases b
    · have HF := hide (hF rfl)
      clear hT hF
      go_wp2_with fail
      refine (must_lit [125] _ R v L s2 (unhide H2)).mono ?_
      rintro e w3 ⟨rfl, h3, hk3⟩
      have HO3 := hide (owns_kept' (unhide HO) hk3 hX)
      have HK3 := hide ((unhide HK).trans hk3)
      have H3 := hide h3
      have hbd := rd_bound (unhide H2) hpl
      clear h3 hk3
      go_wp2
      go_ret
      unfold rMembers
      rw [← unhide HF]
      exact ⟨_, rfl, unhide HO3, unhide H3, unhide HK3, hbd⟩
    · obtain ⟨hT1, hT2⟩ := hT rfl
      clear hT hF
      obtain ⟨g, rfl⟩ : ∃ g', g = g' + 1 := ⟨g - 1, by have := mFuel_pos hT2; omega⟩
      cases hb2 : s2.bad
      · rw [rMem, hb2] at hT1
        simp only [Bool.false_eq_true, if_false] at hT1
        rw [hb2] at c3
        have HT1 := hide hT1
        clear hT1
        go_wp2_with fail
        refine (kind_lit [110, 97, 109, 101] _ R v L s2 (unhide H2) rfl).mono ?_
        rintro e w3 ⟨rfl, h3, hk3⟩
        have hkp := kind_prog (L := L) (s := [110, 97, 109, 101]) (st := s2)
        have hkm := rKind_mono L [110, 97, 109, 101] s2
        generalize rKind L [110, 97, 109, 101] s2 = k at HT1 h3 hkp hkm ⊢
        have HO3 := hide (owns_kept' (unhide HO) hk3 hX)
        have HK3 := hide ((unhide HK).trans hk3)
        have H3 := hide h3
        have hsz3 := hk3.size
        unfold tokV
        clear h3 hk3 HO c0 c1 c2 c3 f0 f1 f2 f3
        go_wp2_with (at_builtin; refine wpList_append_own_at _ rfl _ _ 45 rfl w.heap.size 56 i0 _ 3 40 Tryz.underlying45 hi hz0 hz1 hz2 rfl (by decide) _ _ _ rfl (((unhide HO3).alloc _).alloc _) ⟨w3.heap.size + 1, 0, none⟩ 1 1 (tokCells k.1) rfl rfl ?c1 ?c2 ?c3 ?c4 ?c5 ?_)
        case c1 => exact cells_new (w3.alloc _) _ (tokCells k.1) _ (by simp)
        case c2 => exact tokCells_one k.1
        case c3 => unfold maxLen; have := rd_bound (unhide H2) hpl; omega
        case c4 => have := rd_bound (unhide H2) hpl; omega
        case c5 => simp; omega
        intro v' w4 hown' hgrow _ hat
        have hge := own_ge (unhide HO3)
        have h4 := ((unhide H3).below (((Below.refl _ _).alloc (Nat.le_refl _) _).alloc (by simp) _)).grown hgrow hge (unhide HV) hX
        have HO4 := hide hown'
        have H4 := hide h4
        have HK4 := hide ((((unhide HK3).alloc _).alloc _).grown hgrow hge)
        obtain ⟨va, vl, vc, rfl⟩ := own_slice hown'
        have hvl := own_len hown'
        subst hvl
        clear hown' hgrow hat h4 hge HO3 H3 HK3
        go_wp2_with fail
        refine (next_lit [44] _ R v L k.2 (unhide H4)).mono ?_
        rintro e w5 ⟨rfl, h5, hk5⟩
        have HO5 := hide (owns_kept' (unhide HO4) hk5 hX)
        have HK5 := hide ((unhide HK4).trans hk5)
        have H5 := hide h5
        clear h5 hk5 HO4 HK4 H4
        rw [hb2] at hpl
        simp only [Bool.toNat_false, Nat.add_zero] at hpl
        have hpl' : l.length + 1 ≤ k.2.at_ + k.2.bad.toNat := by
          cases hkb : k.2.bad
          · have := hkp hkb; simp; omega
          · simp; omega
        cases hc : (rNext L [44] k.2 || decide (l.length + 1 < 2))
        · have hT1 := unhide HT1
          clear HT1
          rw [hc] at hT1
          simp only [Bool.false_eq_true, if_false] at hT1
          rw [Bool.or_eq_false_iff] at hc
          obtain ⟨hc1, hc2⟩ := hc
          have hc3 : 2 ≤ l.length + 1 := by simpa using hc2
          have hc4 : decide ((l.length : Int) + 1 < 2) = false := by simp; omega
          have HR5 := hide (show MemRel w R v L (rMem (fuelM L) L [] (rMust L [123] st)) (.slice va (l.length + 1) vc) (.bool false) w5 from
            ⟨l ++ [k.1], k.2, g, false, rfl, by rw [toksCells_snoc, List.length_append]; exact unhide HO5, unhide H5, unhide HK5, (fun h => by cases h), (fun _ => hT1), by simp; omega⟩)
          have HM := hide (rd_less (unhide H2) (unhide H5) hb2 hkm hkp)
          clear hT1 hc2 hpl' hpl hc3
          go_wp2
          go_roundw
          case rel => exact unhide HR5
          case measure => exact unhide HM
        · have hT1 := unhide HT1
          clear HT1
          rw [hc] at hT1
          simp only [if_true] at hT1
          have HC : Hid ((rNext L [44] k.2 = true) ∨ (rNext L [44] k.2 = false ∧ l.length + 1 < 2)) := by
            cases hx : rNext L [44] k.2
            · rw [hx] at hc; exact Or.inr ⟨rfl, by simpa using hc⟩
            · exact Or.inl rfl
          clear hc
          have HT1 := hide hT1
          clear hT1
          have hmp := must_prog (L := L) (s := [44]) hkp
          have hmm := Nat.le_trans hkm (rMust_mono L [44] k.2)
          have hmb : l.length + 1 ≤ (rMust L [44] k.2).at_ + (rMust L [44] k.2).bad.toNat := by
            cases hkb : (rMust L [44] k.2).bad
            · have := hmp hkb; simp; omega
            · simp; omega
          rcases unhide HC with hc1 | ⟨hc1, hc2⟩
          all_goals
            clear HC
            go_wp2_with fail
            refine (must_lit [44] _ R v L k.2 (unhide H5)).mono ?_
            rintro e w6 ⟨rfl, h6, hk6⟩
            have HR6 := hide (show MemRel w R v L (rMem (fuelM L) L [] (rMust L [123] st)) (.slice va (l.length + 1) vc) (.bool true) w6 from
              ⟨l ++ [k.1], rMust L [44] k.2, g, true, rfl, by rw [toksCells_snoc, List.length_append]; exact owns_kept' (unhide HO5) hk6 hX, h6, (unhide HK5).trans hk6, (fun _ => ⟨unhide HT1, mFuel_step hlt2 hb2 hT2 hmp⟩), (fun h => by cases h), by rw [List.length_append]; exact hmb⟩)
            have HM := hide (rd_less (unhide H2) h6 hb2 hmm hmp)
            clear h6 hk6
            go_wp2
            go_roundw
            case rel => exact unhide HR6
            case measure => exact unhide HM
      · rw [rMem, hb2] at hT1
        simp only [if_true] at hT1
        rw [hb2] at c3
        have HF := hide hT1
        clear hT1
        go_wp2_with fail
        refine (must_lit [125] _ R v L s2 (unhide H2)).mono ?_
        rintro e w3 ⟨rfl, h3, hk3⟩
        have HO3 := hide (owns_kept' (unhide HO) hk3 hX)
        have HK3 := hide ((unhide HK).trans hk3)
        have H3 := hide h3
        have hbd := rd_bound (unhide H2) hpl
        clear h3 hk3
        go_wp2
        go_ret
        unfold rMembers
        rw [← unhide HF]
        exact ⟨_, rfl, unhide HO3, unhide H3, unhide HK3, hbd⟩

end Go.Proofs.YtpmcnonmkghokaaGreat
namespace Go.Proofs.YtpmcnonmkghokaaGreat
open Go.RowKit

/-- A parameter: its name, its set. -/
structure PP where
  name : Tok
  set_ : Tok
def ppCells (p : PP) : List Value := tokCells p.name ++ tokCells p.set_
def ppsCells (l : List PP) : List Value := l.flatMap ppCells
theorem ppsCells_snoc (l : List PP) (p : PP) : ppsCells (l ++ [p]) = ppsCells l ++ ppCells p := by simp [ppsCells]
theorem ppCells_one (p : PP) : ∀ u ∈ ppCells p, u.oneCell' = true := by
  intro u h
  simp only [ppCells, List.mem_append] at h
  rcases h with h | h <;> exact tokCells_one _ u h

def nameK : List UInt8 := [110, 97, 109, 101]
/-- The state behind a parameter, and the parameter. -/
def rPP (L : List Tok) (st : RS) : PP × RS :=
  (⟨(rKind L [110, 97, 109, 101] st).1, (rKind L [110, 97, 109, 101] (rMust L [58] (rKind L [110, 97, 109, 101] st).2)).1⟩, (rKind L [110, 97, 109, 101] (rMust L [58] (rKind L [110, 97, 109, 101] st).2)).2)
def rPar : Nat → List Tok → List PP → RS → List PP × RS
  | 0, _, l, st => (l, st)
  | f + 1, L, l, st =>
    if st.bad then (l, st)
    else if rNext L [44] (rPP L st).2 then rPar f L (l ++ [(rPP L st).1]) (rMust L [44] (rPP L st).2)
    else (l ++ [(rPP L st).1], (rPP L st).2)
def rParams (L : List Tok) (st : RS) : List PP × RS :=
  if rNext L [41] (rMust L [40] st) then ([], rMust L [41] (rMust L [40] st))
  else ((rPar (fuelM L) L [] (rMust L [40] st)).1, rMust L [41] (rPar (fuelM L) L [] (rMust L [40] st)).2)

theorem rPP_mono (L : List Tok) (st : RS) : st.at_ ≤ (rPP L st).2.at_ := Nat.le_trans (rKind_mono L _ st) (Nat.le_trans (rMust_mono L [58] _) (rKind_mono L _ _))
theorem rPP_prog {L : List Tok} {st : RS} (h : (rPP L st).2.bad = false) : st.at_ + 1 ≤ (rPP L st).2.at_ := by
  have h1 : (rKind L [110, 97, 109, 101] st).2.bad = false := by
    cases hb : (rKind L [110, 97, 109, 101] st).2.bad
    · rfl
    · have : (rPP L st).2.bad = true := rKind_bad (rMust_bad hb)
      rw [this] at h; cases h
  have h2 := kind_prog h1
  exact Nat.le_trans h2 (Nat.le_trans (rMust_mono L [58] _) (rKind_mono L _ _))

theorem Tryz.infoPP : (Tryz.prog.info? 103).map (fun i => (i.zero, i.size, i.bytes)) = some (some (.agg #[.string ⟨#[]⟩, .string ⟨#[]⟩, .int .i64 0, .string ⟨#[]⟩, .string ⟨#[]⟩, .int .i64 0]), 6, 80) := by kernel_rfl

theorem row6 {w : World} {b : Nat} {x0 x1 x2 x3 x4 x5 : Value} {t : TypeId} (h : w.heap[b]? = some (.cells #[x0, x1, x2, x3, x4, x5] t (0, 0))) :
    w.cell? ⟨b, 0, none⟩ = some x0 ∧ w.cell? ⟨b, 1, none⟩ = some x1 ∧ w.cell? ⟨b, 2, none⟩ = some x2 ∧ w.cell? ⟨b, 3, none⟩ = some x3 ∧ w.cell? ⟨b, 4, none⟩ = some x4 ∧ w.cell? ⟨b, 5, none⟩ = some x5 ∧
    w.frozen? ⟨b, 0, none⟩ = false ∧ w.frozen? ⟨b, 1, none⟩ = false ∧ w.frozen? ⟨b, 2, none⟩ = false ∧ w.frozen? ⟨b, 3, none⟩ = false ∧ w.frozen? ⟨b, 4, none⟩ = false ∧ w.frozen? ⟨b, 5, none⟩ = false :=
  ⟨by rw [cell_of_row w b 0 _ _ _ h]; rfl, by rw [cell_of_row w b 1 _ _ _ h]; rfl, by rw [cell_of_row w b 2 _ _ _ h]; rfl, by rw [cell_of_row w b 3 _ _ _ h]; rfl, by rw [cell_of_row w b 4 _ _ _ h]; rfl, by rw [cell_of_row w b 5 _ _ _ h]; rfl,
   frozen_of_row w b 0 _ _ h, frozen_of_row w b 1 _ _ h, frozen_of_row w b 2 _ _ h, frozen_of_row w b 3 _ _ h, frozen_of_row w b 4 _ _ h, frozen_of_row w b 5 _ _ h⟩
theorem set6a {w : World} {b : Nat} {x0 x1 x2 x3 x4 x5 : Value} {t : TypeId} (h : w.heap[b]? = some (.cells #[x0, x1, x2, x3, x4, x5] t (0, 0))) (a c d : Value) :
    (((w.setCell ⟨b, 0, none⟩ a).setCell ⟨b, 1, none⟩ c).setCell ⟨b, 2, none⟩ d).heap[b]? = some (.cells #[a, c, d, x3, x4, x5] t (0, 0)) :=
  heap_setCell_same _ b 2 _ _ _ (heap_setCell_same _ b 1 _ _ _ (heap_setCell_same _ b 0 _ _ _ h))
theorem set6b {w : World} {b : Nat} {x0 x1 x2 x3 x4 x5 : Value} {t : TypeId} (h : w.heap[b]? = some (.cells #[x0, x1, x2, x3, x4, x5] t (0, 0))) (a c d : Value) :
    (((w.setCell ⟨b, 3, none⟩ a).setCell ⟨b, 4, none⟩ c).setCell ⟨b, 5, none⟩ d).heap[b]? = some (.cells #[x0, x1, x2, a, c, d] t (0, 0)) :=
  heap_setCell_same _ b 5 _ _ _ (heap_setCell_same _ b 4 _ _ _ (heap_setCell_same _ b 3 _ _ _ h))

theorem owns_setNew {w : World} {lo e size B : Nat} {v : Value} {n : Nat} {xs : List Value} (h : w.ownsRow lo e size v n xs) (hB : ∀ g, v.ownBlock = some g → g < B) {p : Addr} (hp : B ≤ p.block) (u : Value) : (w.setCell p u).ownsRow lo e size v n xs :=
  ownsRow_setCell_other h (fun e => by have := hB _ e; omega) u

theorem Rd.set3 {w : World} {R : Nat} {v : Value} {L : List Tok} {st : RS} {B : Nat} (h : Rd w R v L st) (hB : ∀ g, v.ownBlock = some g → g < B) (hR : R < B) {b : Nat} (hb : B ≤ b) {i j k : Nat} {x y z : Value} :
    Rd (((w.setCell ⟨b, i, none⟩ x).setCell ⟨b, j, none⟩ y).setCell ⟨b, k, none⟩ z) R v L st := ((h.setNew hB hR (p := ⟨b, i, none⟩) hb x).setNew hB hR (p := ⟨b, j, none⟩) hb y).setNew hB hR (p := ⟨b, k, none⟩) hb z
theorem owns_set3 {w : World} {lo e size B : Nat} {v : Value} {n : Nat} {xs : List Value} (h : w.ownsRow lo e size v n xs) (hB : ∀ g, v.ownBlock = some g → g < B) {b : Nat} (hb : B ≤ b) {i j k : Nat} {x y z : Value} :
    (((w.setCell ⟨b, i, none⟩ x).setCell ⟨b, j, none⟩ y).setCell ⟨b, k, none⟩ z).ownsRow lo e size v n xs := owns_setNew (owns_setNew (owns_setNew h hB (p := ⟨b, i, none⟩) hb x) hB (p := ⟨b, j, none⟩) hb y) hB (p := ⟨b, k, none⟩) hb z
theorem Kept.set3 {R : Nat} {a w : World} (h : Kept R a w) {b : Nat} (hb : a.heap.size ≤ b) {i j k : Nat} {x y z : Value} : Kept R a (((w.setCell ⟨b, i, none⟩ x).setCell ⟨b, j, none⟩ y).setCell ⟨b, k, none⟩ z) :=
  ((h.setNew (p := ⟨b, i, none⟩) hb x).setNew (p := ⟨b, j, none⟩) hb y).setNew (p := ⟨b, k, none⟩) hb z

def ParRel (w : World) (R : Nat) (v : Value) (L : List Tok) (fin : List PP × RS) (x m : Value) (wr : World) : Prop :=
  ∃ (l : List PP) (st : RS) (g : Nat) (b : Bool), m = .bool b ∧ wr.ownsRow w.heap.size 103 6 x l.length (ppsCells l) ∧ Rd wr R v L st ∧ Kept R w wr ∧
    (b = true → rPar g L l st = fin ∧ mFuel L st g) ∧ (b = false → (l, st) = fin) ∧ l.length ≤ st.at_ + st.bad.toNat

def ParPost (R : Nat) (v : Value) (L : List Tok) (w : World) (r : List PP × RS) (e : Ending) (w' : World) : Prop :=
  ∃ x, e = .returned x ∧ w'.ownsRow w.heap.size 103 6 x r.1.length (ppsCells r.1) ∧ Rd w' R v L r.2 ∧ Kept R w w' ∧ r.1.length ≤ 801

set_option maxRecDepth 100000 in
set_option maxHeartbeats 4000000 in
theorem params_any (w : World) (R : Nat) (v : Value) (L : List Tok) (st : RS) (h : Rd w R v L st) :
    Calls Tryz.prog 36 #[.pointer (some ⟨R, 0, none⟩)] w (ParPost R v L w (rParams L st)) := by
  obtain ⟨i0, hi, hz0, hz1, hz2⟩ := info_parts Tryz.infoPP
  have hX : R < w.heap.size := lt_of_block h.rd
  have HV := hide (own_lt h.own)
  go_enter Tryz.func36, Tryz.ntmps36
  go_wp2_with fail
  refine (must_lit [40] _ R v L st h).mono ?_
  rintro e w0 ⟨rfl, h0, hk0⟩
  have HK0 := hide hk0
  go_wp2_with fail
  refine (next_lit [41] _ R v L _ h0).mono ?_
  rintro e w1 ⟨rfl, h1, hk1⟩
  have hRel : ∃ fin b, b = !(rNext L [41] (rMust L [40] st)) ∧ rParams L st = (fin.1, rMust L [41] fin.2) ∧ ParRel w R v L fin (.slice none 0 0) (.bool b) w1 := by
    cases hn : rNext L [41] (rMust L [40] st)
    · exact ⟨rPar (fuelM L) L [] (rMust L [40] st), true, rfl, by rw [rParams, hn]; rfl, [], rMust L [40] st, fuelM L, true, rfl, World.ownsRow_nil _ _ _ _, h1, hk0.trans hk1, fun _ => ⟨rfl, mFuel_start _ _⟩, fun h => (by cases h), Nat.zero_le _⟩
    · exact ⟨([], rMust L [40] st), false, rfl, by rw [rParams, hn]; rfl, [], rMust L [40] st, fuelM L, false, rfl, World.ownsRow_nil _ _ _ _, h1, hk0.trans hk1, fun h => (by cases h), fun _ => rfl, Nat.zero_le _⟩
  obtain ⟨fin, b0, hb0, hfin, hR0⟩ := hRel
  have hnb : rNext L [41] (rMust L [40] st) = !b0 := by rw [hb0]; simp
  rw [hnb]
  have HR := hide hR0
  have HFIN := hide hfin
  clear h h0 hk0 h1 hk1 hnb hb0 hfin hR0
  go_wp2_with fail
  go_loopw [3, 5] (fun l m wr => ParRel w R v L fin l m wr) (fun _ _ wr => 2 * (L.length - atOf wr R) + gdOf wr R)
  case atStart => first | exact unhide HR | (have := unhide HR; simpa using this)
  case round =>
    obtain ⟨l, s2, g, b, rfl, hown, h2, hk2, hT, hF, hpl⟩ := hrel
    have hlt2 := h2.lt
    have hlen := h2.len
    have hR2 := lt_of_block h2.rd
    obtain ⟨c0, c1, c2, c3, f0, f1, f2, f3⟩ := row4 h2.rd
    have HO := hide hown
    have H2 := hide h2
    have HK := hide hk2
    have hsz := hk2.size
    obtain ⟨la, ll, lc, rfl⟩ := own_slice hown
    clear hown h2 hk2
    cases b
    · have HF := hide (hF rfl)
      clear hT hF
      go_wp2_with fail
      refine (must_lit [41] _ R v L s2 (unhide H2)).mono ?_
      rintro e w3 ⟨rfl, h3, hk3⟩
      have HO3 := hide (owns_kept' (unhide HO) hk3 hX)
      have HK3 := hide ((unhide HK).trans hk3)
      have H3 := hide h3
      have hbd := rd_bound (unhide H2) hpl
      clear h3 hk3
      go_wp2
      go_ret
      rw [unhide HFIN, ← unhide HF]
      exact ⟨_, rfl, unhide HO3, unhide H3, unhide HK3, hbd⟩
    · obtain ⟨hT1, hT2⟩ := hT rfl
      clear hT hF
      obtain ⟨g, rfl⟩ : ∃ g', g = g' + 1 := ⟨g - 1, by have := mFuel_pos hT2; omega⟩
      cases hb2 : s2.bad
      · rw [rPar, hb2] at hT1
        simp only [Bool.false_eq_true, if_false] at hT1
        rw [hb2] at c3
        have HT1 := hide hT1
        clear hT1
        go_wp2_with fail
        refine (kind_lit [110, 97, 109, 101] _ R v L s2 ((unhide H2).below (below_alloc1 _ _)) rfl).mono ?_
        rintro e w3 ⟨rfl, h3, hk3⟩
        have HVr := hide (show ∀ g, v.ownBlock = some g → g < wr.heap.size from fun g hg => Nat.lt_of_lt_of_le (unhide HV g hg) hsz)
        have HLr := hide (own_lt (unhide HO))
        have hx3 := (hk3.block wr.heap.size (by simp) (by omega)).trans (heap_alloc_new wr _)
        obtain ⟨d0, d1, d2, d3, d4, d5, e0, e1, e2, e3, e4, e5⟩ := row6 hx3
        have HX3 := hide hx3
        have HO3 := hide (owns_kept' ((unhide HO).alloc _) hk3 hX)
        have HK3 := hide (((unhide HK).alloc _).trans hk3)
        have H3 := hide h3
        have hpp := rPP_prog (L := L) (st := s2)
        have hpm := rPP_mono L s2
        have HPP := hide (show rPP L s2 = (⟨(rKind L [110, 97, 109, 101] s2).1, (rKind L [110, 97, 109, 101] (rMust L [58] (rKind L [110, 97, 109, 101] s2).2)).1⟩, (rKind L [110, 97, 109, 101] (rMust L [58] (rKind L [110, 97, 109, 101] s2).2)).2) from rfl)
        generalize rPP L s2 = P at HT1 hpp hpm HPP
        generalize rKind L [110, 97, 109, 101] s2 = k at HPP H3 ⊢
        unfold tokV
        clear h3 hk3 hx3 HO c0 c1 c2 c3 f0 f1 f2 f3
        go_wp2_with fail
        refine (must_lit [58] _ R v L k.2 ((((unhide H3).setNew (unhide HVr) hR2 (by simp) _).setNew (unhide HVr) hR2 (by simp) _).setNew (unhide HVr) hR2 (by simp) _)).mono ?_
        rintro e w4 ⟨rfl, h4, hk4⟩
        have hx4 := (hk4.block wr.heap.size (by simpa using lt_of_block (unhide HX3)) (by omega)).trans (set6a (unhide HX3) _ _ _)
        have HO4 := hide (owns_kept' (owns_setNew (owns_setNew (owns_setNew (unhide HO3) (unhide HLr) (p := ⟨wr.heap.size, 0, none⟩) (by simp) (.string k.1.kind)) (unhide HLr) (p := ⟨wr.heap.size, 1, none⟩) (by simp) (.string k.1.text)) (unhide HLr) (p := ⟨wr.heap.size, 2, none⟩) (by simp) (.int .i64 k.1.at_)) hk4 hX)
        have HK4 := hide (((((unhide HK3).setNew (p := ⟨wr.heap.size, 0, none⟩) hsz (.string k.1.kind)).setNew (p := ⟨wr.heap.size, 1, none⟩) hsz (.string k.1.text)).setNew (p := ⟨wr.heap.size, 2, none⟩) hsz (.int .i64 k.1.at_)).trans hk4)
        have H4 := hide h4
        have HX4 := hide hx4
        clear h4 hk4 hx4 d0 d1 d2 d3 d4 d5 e0 e1 e2 e3 e4 e5 HO3 HK3 H3 HX3
        go_wp2_with fail
        refine (kind_lit [110, 97, 109, 101] _ R v L _ (unhide H4) rfl).mono ?_
        rintro e w5 ⟨rfl, h5, hk5⟩
        have hx5 := (hk5.block wr.heap.size (lt_of_block (unhide HX4)) (by omega)).trans (unhide HX4)
        obtain ⟨d0, d1, d2, d3, d4, d5, e0, e1, e2, e3, e4, e5⟩ := row6 hx5
        have HO5 := hide (owns_kept' (unhide HO4) hk5 hX)
        have HK5 := hide ((unhide HK4).trans hk5)
        have H5 := hide h5
        have HX5 := hide hx5
        clear h5 hk5 hx5 HO4 HK4 H4 HX4
        generalize rKind L [110, 97, 109, 101] (rMust L [58] k.2) = j at HPP H5 ⊢
        unfold tokV
        have hb5 := rd_bound (unhide H2) hpl
        go_wp2_with (at_builtin; go_must (refine wpList_append_own_at _ rfl _ _ 57 rfl w.heap.size 103 i0 _ 6 80 Tryz.underlying57 hi hz0 hz1 hz2 rfl (by decide) (.slice la ll lc) l.length (ppsCells l) rfl ?c0 ⟨w5.heap.size, 0, none⟩ 1 1 (ppCells ⟨k.1, j.1⟩) rfl rfl ?c1 ?c2 ?c3 ?c4 ?c5 ?_))
        case c0 => exact (owns_set3 (unhide HO5) (unhide HLr) (Nat.le_refl _)).alloc _
        case c1 => exact cells_new _ _ (ppCells ⟨k.1, j.1⟩) _ (by simp)
        case c2 => exact ppCells_one _
        case c3 => unfold maxLen; omega
        case c4 => omega
        case c5 => have := (unhide HK5).size; simp; omega
        intro v' w6 hown' hgrow _ hat
        have hge := own_ge (unhide HO5)
        have H6 := hide (((unhide H5).set3 (unhide HVr) hR2 (Nat.le_refl _)).below (below_alloc1 _ _) |>.grown hgrow hge (unhide HV) hX)
        have HK6 := hide ((((unhide HK5).set3 hsz).alloc _).grown hgrow hge)
        have HO6 := hide hown'
        obtain ⟨va, vl, vc, rfl⟩ := own_slice hown'
        clear hown' hgrow hat hge HO5 H5 HK5 HX5 d0 d1 d2 d3 d4 d5 e0 e1 e2 e3 e4 e5
        go_wp2_with fail
        refine (next_lit [44] _ R v L j.2 (unhide H6)).mono ?_
        rintro e w7 ⟨rfl, h7, hk7⟩
        have HO7 := hide (owns_kept' (unhide HO6) hk7 hX)
        have HK7 := hide ((unhide HK6).trans hk7)
        have H7 := hide h7
        clear h7 hk7 HO6 HK6 H6
        rw [unhide HPP] at HT1 hpp hpm
        simp only at HT1 hpp hpm
        rw [hb2] at hpl
        simp only [Bool.toNat_false, Nat.add_zero] at hpl
        cases hc : rNext L [44] j.2
        · have hT1 := unhide HT1
          clear HT1
          rw [hc] at hT1
          simp only [Bool.false_eq_true, if_false] at hT1
          have HR7 := hide (show ParRel w R v L fin (.slice va vl vc) (.bool false) w7 from
            ⟨l ++ [⟨k.1, j.1⟩], j.2, g, false, rfl, by rw [ppsCells_snoc, List.length_append]; exact unhide HO7, unhide H7, unhide HK7, (fun h => by cases h), (fun _ => hT1), by
              rw [List.length_append]
              cases hkb : j.2.bad
              · have := hpp hkb; simp; omega
              · simp; omega⟩)
          have HM := hide (rd_less (unhide H2) (unhide H7) hb2 hpm hpp)
          clear hT1
          go_wp2
          go_roundw
          case rel => exact unhide HR7
          case measure => exact unhide HM
        · have hT1 := unhide HT1
          clear HT1
          rw [hc] at hT1
          simp only [if_true] at hT1
          have HT1 := hide hT1
          clear hT1
          have hmp := must_prog (L := L) (s := [44]) hpp
          have hmm := Nat.le_trans hpm (rMust_mono L [44] j.2)
          go_wp2_with fail
          refine (must_lit [44] _ R v L j.2 (unhide H7)).mono ?_
          rintro e w8 ⟨rfl, h8, hk8⟩
          have HR8 := hide (show ParRel w R v L fin (.slice va vl vc) (.bool true) w8 from
            ⟨l ++ [⟨k.1, j.1⟩], rMust L [44] j.2, g, true, rfl, by rw [ppsCells_snoc, List.length_append]; exact owns_kept' (unhide HO7) hk8 hX, h8, (unhide HK7).trans hk8, (fun _ => ⟨unhide HT1, mFuel_step hlt2 hb2 hT2 hmp⟩), (fun h => by cases h), by
              rw [List.length_append]
              cases hkb : (rMust L [44] j.2).bad
              · have := hmp hkb; simp; omega
              · simp; omega⟩)
          have HM := hide (rd_less (unhide H2) h8 hb2 hmm hmp)
          clear h8 hk8
          go_wp2
          go_roundw
          case rel => exact unhide HR8
          case measure => exact unhide HM
      · rw [rPar, hb2] at hT1
        simp only [if_true] at hT1
        rw [hb2] at c3
        have HF := hide hT1
        clear hT1
        go_wp2_with fail
        refine (must_lit [41] _ R v L s2 (unhide H2)).mono ?_
        rintro e w3 ⟨rfl, h3, hk3⟩
        have HO3 := hide (owns_kept' (unhide HO) hk3 hX)
        have HK3 := hide ((unhide HK).trans hk3)
        have H3 := hide h3
        have hbd := rd_bound (unhide H2) hpl
        clear h3 hk3
        go_wp2
        go_ret
        rw [unhide HFIN, ← unhide HF]
        exact ⟨_, rfl, unhide HO3, unhide H3, unhide HK3, hbd⟩

end Go.Proofs.YtpmcnonmkghokaaGreat

/-
  The program's parser, by the reference's state of reading: while neither is bad they agree, and once bad they stay so, at the same place.
  The reference's do, walked: a statement as rDo says, if block makes what rS says.
  The reference's block, walked; and by induction on the fuel block as rS says.
  The reference's members and params, walked.
  The reference's params, walked.
  The reference's variable, walked.
  The reference's heads: the plain functions rSets and rKinds, how sets and kinds lie in memory, and the first loop walked.
-/
import Derived.Test.YtpmcnonmkghokaaGreatDoorT02
import Derived.Maps.AppendAt
import Derived.Deep.RegionHeld3
import Derived.Deep.RegionLaw
import Derived.Deep.AppendLies
set_option linter.unusedVariables false
set_option linter.unusedSimpArgs false
namespace Go.Proofs.YtpmcnonmkghokaaGreatDoor
open Go.RowKit
/-- The parser's own state is that of reading. -/
structure PS (L : List Tok) (st : RS) (r : PR) : Prop where
  lt : st.at_ < L.length
  nlo : -(st.at_ : Int) ≤ st.nest
  nhi : st.nest ≤ 12
  good : st.bad = false → r.failed = false ∧ r.next = st.at_ ∧ r.depth = st.nest ∧ r.place = 0
  bad : st.bad = true → r.failed = true ∧ r.next = L.length - 1 ∧ r.place = (tk L st.at_).at_
def Pd (w : World) (P : Nat) (v : Value) (L : List Tok) (st : RS) : Prop := ∃ r, Pw w P v L r ∧ PS L st r

theorem Pd.below {w w' : World} {P : Nat} {v : Value} {L : List Tok} {st : RS} (h : Pd w P v L st) (hk : Below w.heap.size w w') : Pd w' P v L st := by
  obtain ⟨r, h1, h2⟩ := h
  exact ⟨r, h1.below hk, h2⟩
theorem Pd.setOther {w : World} {P : Nat} {v : Value} {L : List Tok} {st : RS} {B : Nat} (h : Pd w P v L st) (hB : ∀ g, v.ownBlock = some g → g < B) (hP : P < B) {p : Addr} (hp : B ≤ p.block) (u : Value) : Pd (w.setCell p u) P v L st := by
  obtain ⟨r, h1, h2⟩ := h
  exact ⟨r, h1.setOther hB hP hp u, h2⟩
/-- Where P's block and the tokens' block are as they were. -/
theorem Pd.same {w w' : World} {P : Nat} {v : Value} {L : List Tok} {st : RS} (h : Pd w P v L st) (hP : w'.heap[P]? = w.heap[P]?) (ho : w'.ownsRow 0 194 2 v L.length (ptsCells L)) : Pd w' P v L st := by
  obtain ⟨r, h1, h2⟩ := h
  exact ⟨r, ⟨by rw [hP]; exact h1.pd, ho, h1.ne, h1.ok, h1.lt⟩, h2⟩
theorem Pd.own {w : World} {P : Nat} {v : Value} {L : List Tok} {st : RS} (h : Pd w P v L st) : w.ownsRow 0 194 2 v L.length (ptsCells L) := by
  obtain ⟨r, h1, h2⟩ := h; exact h1.own
theorem Pd.in {w : World} {P : Nat} {v : Value} {L : List Tok} {st : RS} (h : Pd w P v L st) : P < w.heap.size := by
  obtain ⟨r, h1, h2⟩ := h; exact lt_of_block h1.pd
theorem Pd.ok {w : World} {P : Nat} {v : Value} {L : List Tok} {st : RS} (h : Pd w P v L st) : ToksOk L := by
  obtain ⟨r, h1, h2⟩ := h; exact h1.ok
theorem Pd.lt {w : World} {P : Nat} {v : Value} {L : List Tok} {st : RS} (h : Pd w P v L st) : st.at_ < L.length := by
  obtain ⟨r, h1, h2⟩ := h; exact h2.lt

theorem lits_ne : ∀ l ∈ lits, (([] : List UInt8) == l) = false := by decide
theorem lits_ne' : ∀ l ∈ lits, (l == ([] : List UInt8)) = false := by decide

theorem PS.is {L : List Tok} {st : RS} {r : PR} (h : PS L st r) (hL : ToksOk L) {l : List UInt8} (hl : l ∈ lits) : isR L l r = rNext L l st := by
  unfold isR rNext nextB
  cases hb : st.bad
  · rw [(h.good hb).2.1]
    exact (hL.ok _ h.lt).lit l hl
  · rw [(h.bad hb).2.1, hL.lastText, lits_ne l hl]; rfl
theorem PS.name {L : List Tok} {st : RS} {r : PR} (h : PS L st r) (hL : ToksOk L) : nameB L r = rKindOk L [110, 97, 109, 101] st := by
  unfold nameB rKindOk
  cases hb : st.bad
  · rw [(h.good hb).2.1, (hL.ok _ h.lt).name]; rfl
  · have : letB (tk L (L.length - 1)).text 0 = false := inB_no (toList_empty (by rw [hL.lastText]; rfl))
    rw [(h.bad hb).2.1, this]; rfl
theorem PS.digit {L : List Tok} {st : RS} {r : PR} (h : PS L st r) (hL : ToksOk L) : digB (tk L r.next).text 0 = rKindOk L [100, 105, 103, 105, 116] st := by
  unfold rKindOk
  cases hb : st.bad
  · rw [(h.good hb).2.1, (hL.ok _ h.lt).digit]; rfl
  · have : digB (tk L (L.length - 1)).text 0 = false := inB_no (toList_empty (by rw [hL.lastText]; rfl))
    rw [(h.bad hb).2.1, this]; rfl
theorem PS.fail {L : List Tok} {st : RS} {r : PR} (h : PS L st r) : PS L { st with bad := true } (failR L r) := by
  refine ⟨h.lt, h.nlo, h.nhi, fun hb => by simp at hb, fun _ => ⟨rfl, rfl, ?_⟩⟩
  unfold failR
  cases hb : st.bad
  · rw [(h.good hb).1, (h.good hb).2.1]; rfl
  · rw [(h.bad hb).1, (h.bad hb).2.2]; rfl
theorem PS.step {L : List Tok} {st : RS} {r : PR} (h : PS L st r) (hb : st.bad = false) (hl : st.at_ + 1 < L.length) : PS L { st with at_ := st.at_ + 1 } { r with next := r.next + 1 } := by
  obtain ⟨g1, g2, g3, g4⟩ := h.good hb
  exact ⟨hl, by have := h.nlo; simp; omega, h.nhi, fun _ => ⟨g1, by simp [g2], g3, g4⟩, fun hb' => by simp [hb] at hb'⟩

def pAcc (L : List Tok) (l : List UInt8) (st : RS) : RS := if rNext L l st then { st with at_ := st.at_ + 1 } else st
def pExp (L : List Tok) (l : List UInt8) (st : RS) : RS := if rNext L l st then { st with at_ := st.at_ + 1 } else { st with bad := true }
theorem next_step {L : List Tok} {st : RS} {l : List UInt8} (hL : ToksOk L) (hl : st.at_ < L.length) (h : rNext L l st = true) : st.bad = false ∧ st.at_ + 1 < L.length := by
  unfold rNext nextB at h
  simp only [Bool.and_eq_true, Bool.or_eq_true, Bool.not_eq_true'] at h
  have hk : ((tk L st.at_).kind.toList == [101, 110, 100]) = false := by
    rcases h.1.2 with e | e <;> (rw [beq_iff_eq] at e; rw [e]; rfl)
  exact ⟨h.1.1, hL.fin hl (by rw [(hL.ok _ hl).fin]; exact hk)⟩
theorem PS.acc {L : List Tok} {st : RS} {r : PR} (h : PS L st r) (hL : ToksOk L) {l : List UInt8} (hl : l ∈ lits) : PS L (pAcc L l st) (accR L l r) := by
  unfold pAcc accR
  rw [h.is hL hl]
  cases hn : rNext L l st
  · exact h
  · have := next_step hL h.lt hn
    exact h.step this.1 this.2
theorem PS.exp {L : List Tok} {st : RS} {r : PR} (h : PS L st r) (hL : ToksOk L) {l : List UInt8} (hl : l ∈ lits) : PS L (pExp L l st) (expR L l r) := by
  unfold pExp expR
  rw [h.is hL hl]
  cases hn : rNext L l st
  · exact h.fail
  · have := next_step hL h.lt hn
    exact h.step this.1 this.2
theorem rMust_plain {L : List Tok} {l : List UInt8} {st : RS} (ho : opens l = false) (hs : shuts l = false) : rMust L l st = pExp L l st := by
  unfold rMust pExp
  rw [ho, hs]
  cases hn : rNext L l st
  · rfl
  · unfold rNext nextB at hn
    simp only [Bool.and_eq_true, Bool.or_eq_true, Bool.not_eq_true'] at hn
    simp [hn.1.1]
theorem PS.depth {L : List Tok} {st : RS} {r : PR} (h : PS L st r) (hb : st.bad = true) (d : Int) : PS L st { r with depth := d } :=
  ⟨h.lt, h.nlo, h.nhi, (fun hb' => by rw [hb] at hb'; cases hb'), fun hb' => h.bad hb'⟩
theorem PS.open {L : List Tok} {st : RS} {r : PR} (h : PS L st r) (hL : ToksOk L) {l : List UInt8} (hl : l ∈ lits) (ho : opens l = true) {d : Int} (hd : -1000 ≤ r.depth → r.depth ≤ 1000 → d = r.depth + 1) : PS L (rMust L l st) (openR L l d r) := by
  have hlen := hL.len
  have hlt := h.lt
  have hlo := h.nlo
  have hhi := h.nhi
  unfold rMust openR
  rw [ho]
  cases hb : st.bad
  · obtain ⟨g1, g2, g3, g4⟩ := h.good hb
    rw [g3]
    cases h12 : (st.nest == 12)
    · cases hn : rNext L l st
      · have e : expR L l r = failR L r := by unfold expR; rw [h.is hL hl, hn]; rfl
        simp only [Bool.not_false, Bool.true_or, if_true, Bool.false_eq_true, if_false]
        rw [e]
        exact (h.fail).depth rfl d
      · have e : expR L l r = { r with next := r.next + 1 } := by unfold expR; rw [h.is hL hl, hn]; rfl
        have hs := next_step hL h.lt hn
        have hn12 : st.nest ≠ 12 := by simpa using h12
        simp only [Bool.not_true, Bool.and_false, Bool.or_false, Bool.false_eq_true, if_false, if_true]
        rw [e]
        have hd' := hd (by omega) (by omega)
        exact ⟨hs.2, by simp; omega, by simp; omega, fun _ => ⟨g1, by simp [g2], by simp [hd', g3], g4⟩, fun hb' => by simp at hb'⟩
    · simp only [Bool.and_true, Bool.or_true, if_true]
      exact h.fail
  · rw [rNext_bad hb]
    simp only [Bool.not_false, Bool.true_or, if_true]
    have e : expR L l r = failR L r := by unfold expR; rw [h.is hL hl, rNext_bad hb]; rfl
    rw [e]
    have h1 := h.fail
    split
    · exact h1
    · exact h1.depth rfl d
theorem PS.shut {L : List Tok} {st : RS} {r : PR} (h : PS L st r) (hL : ToksOk L) {l : List UInt8} (hl : l ∈ lits) (ho : opens l = false) (hs : shuts l = true) {d : Int} (hd : -1000 ≤ r.depth → r.depth ≤ 1000 → d = r.depth - 1) : PS L (rMust L l st) { expR L l r with depth := d } := by
  have hlen := hL.len
  have hlt := h.lt
  have hlo := h.nlo
  have hhi := h.nhi
  unfold rMust
  rw [ho, hs]
  cases hb : st.bad
  · obtain ⟨g1, g2, g3, g4⟩ := h.good hb
    cases hn : rNext L l st
    · have e : expR L l r = failR L r := by unfold expR; rw [h.is hL hl, hn]; rfl
      simp only [Bool.not_false, Bool.true_or, if_true]
      rw [e]
      exact (h.fail).depth rfl d
    · have e : expR L l r = { r with next := r.next + 1 } := by unfold expR; rw [h.is hL hl, hn]; rfl
      have hs := next_step hL h.lt hn
      simp only [Bool.not_true, Bool.false_and, Bool.or_false, Bool.false_eq_true, if_false, if_true]
      rw [e]
      have hd' := hd (by omega) (by omega)
      exact ⟨hs.2, by simp; omega, by simp; omega, fun _ => ⟨g1, by simp [g2], by simp [hd', g3], g4⟩, fun hb' => by simp at hb'⟩
  · rw [rNext_bad hb]
    simp only [Bool.not_false, Bool.true_or, if_true]
    have e : expR L l r = failR L r := by unfold expR; rw [h.is hL hl, rNext_bad hb]; rfl
    rw [e]
    have h1 := h.fail
    exact h1.depth rfl d

theorem is_lit (l : List UInt8) (hl : l ∈ lits) (w : World) (P : Nat) (v : Value) (L : List Tok) (st : RS) (h : Pd w P v L st) :
    Calls Tryz.prog 89 #[.pointer (some ⟨P, 0, none⟩), .string ⟨l.toArray⟩] w fun e w' => e = .returned (.bool (rNext L l st)) ∧ Pd w' P v L st ∧ Kept P w w' := by
  obtain ⟨r, h1, h2⟩ := h
  refine (is_any ⟨l.toArray⟩ w P v L r h1).mono fun e w' ⟨a, b⟩ => ⟨?_, ⟨r, h1.below b, h2⟩, .of_below b⟩
  rw [a, ← h2.is h1.ok hl]; unfold isR; rw [toList_lit l]
theorem accept_lit (l : List UInt8) (hl : l ∈ lits) (w : World) (P : Nat) (v : Value) (L : List Tok) (st : RS) (h : Pd w P v L st) :
    Calls Tryz.prog 205 #[.pointer (some ⟨P, 0, none⟩), .string ⟨l.toArray⟩] w fun e w' => e = .returned (.bool (rNext L l st)) ∧ Pd w' P v L (pAcc L l st) ∧ Kept P w w' := by
  obtain ⟨r, h1, h2⟩ := h
  refine (accept_any ⟨l.toArray⟩ w P v L r h1 (by rw [toList_lit l]; exact lits_ne' l hl)).mono fun e w' ⟨a, b, c⟩ => ⟨?_, ⟨_, b, ?_⟩, c⟩
  · rw [a, toList_lit l, h2.is h1.ok hl]
  · rw [toList_lit l]; exact h2.acc h1.ok hl
theorem expect_lit (l : List UInt8) (hl : l ∈ lits) (ho : opens l = false) (hs : shuts l = false) (w : World) (P : Nat) (v : Value) (L : List Tok) (st : RS) (h : Pd w P v L st) :
    Calls Tryz.prog 201 #[.pointer (some ⟨P, 0, none⟩), .string ⟨l.toArray⟩] w fun e w' => e = .returned (.tuple #[]) ∧ Pd w' P v L (rMust L l st) ∧ Kept P w w' := by
  obtain ⟨r, h1, h2⟩ := h
  refine (expect_any ⟨l.toArray⟩ w P v L r h1 (by rw [toList_lit l]; exact lits_ne' l hl)).mono fun e w' ⟨a, b, c⟩ => ⟨a, ⟨_, b, ?_⟩, c⟩
  rw [toList_lit l, rMust_plain ho hs]; exact h2.exp h1.ok hl
theorem open_lit (l : List UInt8) (hl : l ∈ lits) (ho : opens l = true) (w : World) (P : Nat) (v : Value) (L : List Tok) (st : RS) (h : Pd w P v L st) :
    Calls Tryz.prog 204 #[.pointer (some ⟨P, 0, none⟩), .string ⟨l.toArray⟩] w fun e w' => e = .returned (.tuple #[]) ∧ Pd w' P v L (rMust L l st) ∧ Kept P w w' := by
  obtain ⟨r, h1, h2⟩ := h
  refine (open_any ⟨l.toArray⟩ w P v L r h1 (by rw [toList_lit l]; exact lits_ne' l hl)).mono fun e w' ⟨a, ⟨d, b, hd⟩, c⟩ => ⟨a, ⟨_, b, ?_⟩, c⟩
  rw [toList_lit l]; exact h2.open h1.ok hl ho hd
theorem shut_lit (l : List UInt8) (hl : l ∈ lits) (ho : opens l = false) (hs : shuts l = true) (w : World) (P : Nat) (v : Value) (L : List Tok) (st : RS) (h : Pd w P v L st) :
    Calls Tryz.prog 206 #[.pointer (some ⟨P, 0, none⟩), .string ⟨l.toArray⟩] w fun e w' => e = .returned (.tuple #[]) ∧ Pd w' P v L (rMust L l st) ∧ Kept P w w' := by
  obtain ⟨r, h1, h2⟩ := h
  refine (shut_any ⟨l.toArray⟩ w P v L r h1 (by rw [toList_lit l]; exact lits_ne' l hl)).mono fun e w' ⟨a, ⟨d, b, hd⟩, c⟩ => ⟨a, ⟨_, b, ?_⟩, c⟩
  rw [toList_lit l]; exact h2.shut h1.ok hl ho hs hd
theorem PS.kind {L : List Tok} {st : RS} {r : PR} (h : PS L st r) (hL : ToksOk L) {k : List UInt8} (hk : (k == [101, 110, 100]) = false) {b : Bool} (hb : b = rKindOk L k st) :
    PS L (rKind L k st).2 (if b then { r with next := r.next + 1 } else failR L r) ∧ (if b then tk L r.next else noTok) = (rKind L k st).1 := by
  subst hb
  unfold rKind
  cases hn : rKindOk L k st
  · exact ⟨h.fail, rfl⟩
  · have h1 := hn
    unfold rKindOk at h1
    simp only [Bool.and_eq_true, Bool.not_eq_true'] at h1
    have h2 := h1.2
    rw [beq_iff_eq] at h2
    refine ⟨h.step h1.1 (hL.fin h.lt (by rw [(hL.ok _ h.lt).fin, h2]; exact hk)), ?_⟩
    simp only [if_true]
    rw [(h.good h1.1).2.1]
theorem name_lit (w : World) (P : Nat) (v : Value) (L : List Tok) (st : RS) (h : Pd w P v L st) :
    Calls Tryz.prog 202 #[.pointer (some ⟨P, 0, none⟩)] w fun e w' => e = .returned (ptV (rKind L [110, 97, 109, 101] st).1) ∧ Pd w' P v L (rKind L [110, 97, 109, 101] st).2 ∧ Kept P w w' := by
  obtain ⟨r, h1, h2⟩ := h
  have hk := h2.kind h1.ok (k := [110, 97, 109, 101]) rfl (h2.name h1.ok)
  exact (name_any w P v L r h1).mono fun e w' ⟨a, b, c⟩ => ⟨by rw [a, ← hk.2]; rfl, ⟨_, b, hk.1⟩, c⟩
theorem digit_lit (w : World) (P : Nat) (v : Value) (L : List Tok) (st : RS) (h : Pd w P v L st) :
    Calls Tryz.prog 203 #[.pointer (some ⟨P, 0, none⟩)] w fun e w' => e = .returned (dgV (rKind L [100, 105, 103, 105, 116] st).1) ∧ Pd w' P v L (rKind L [100, 105, 103, 105, 116] st).2 ∧ Kept P w w' := by
  obtain ⟨r, h1, h2⟩ := h
  have hk := h2.kind h1.ok (k := [100, 105, 103, 105, 116]) rfl (h2.digit h1.ok)
  exact (pdigit_any w P v L r h1).mono fun e w' ⟨a, b, c⟩ => ⟨by rw [a, ← hk.2]; rfl, ⟨_, b, hk.1⟩, c⟩
theorem fail_lit (w : World) (P : Nat) (v : Value) (L : List Tok) (st : RS) (h : Pd w P v L st) :
    Calls Tryz.prog 90 #[.pointer (some ⟨P, 0, none⟩)] w fun e w' => e = .returned (.tuple #[]) ∧ Pd w' P v L { st with bad := true } ∧ Kept P w w' := by
  obtain ⟨r, h1, h2⟩ := h
  exact (fail_any w P v L r h1).mono fun e w' ⟨a, b, c⟩ => ⟨a, ⟨_, b, h2.fail⟩, c⟩

end Go.Proofs.YtpmcnonmkghokaaGreatDoor
namespace Go.Proofs.YtpmcnonmkghokaaGreatDoor
open Go.RowKit
def bFuel (L : List Tok) (k c : Nat) (st : RS) (f : Nat) : Prop := if st.bad then k ≤ f else 4 * (L.length - st.at_) + c ≤ f
theorem bFuel_le {L : List Tok} {k c : Nat} {st : RS} {f : Nat} (h : 4 * (L.length - st.at_) + c ≤ f) (hk : k ≤ f) : bFuel L k c st f := by
  unfold bFuel; split
  · exact hk
  · exact h
theorem bFuel_ok {L : List Tok} {k c : Nat} {st : RS} {f : Nat} (hb : st.bad = false) (h : bFuel L k c st f) : 4 * (L.length - st.at_) + c ≤ f := by simpa [bFuel, hb] using h
theorem bFuel_bad {L : List Tok} {k c : Nat} {st : RS} {f : Nat} (hb : st.bad = true) (h : bFuel L k c st f) : k ≤ f := by simpa [bFuel, hb] using h
theorem bFuel_must {L : List Tok} {s : List UInt8} {k c d : Nat} {st : RS} {f : Nat} (hlt : st.at_ < L.length) (hd : 4 * (L.length - st.at_) + d ≤ f + 1) (hc : c ≤ d + 3) (hk : k ≤ f) : bFuel L k c (rMust L s st) f := by
  unfold bFuel; split
  · exact hk
  · rename_i h
    rw [rMust_ok (by simpa using h)]
    omega

def BPost (R : Nat) (v : Value) (L : List Tok) (w : World) (r : PB × RS) (e : Ending) (w' : World) : Prop :=
  ∃ vs ps, e = .returned vs ∧ w'.ownsRow w.heap.size 245 1 vs ps.length ps ∧ StmtsIs w.heap.size none w' r.1 ps ∧ Rd w' R v L r.2 ∧ Kept R w w'
def DPost (R : Nat) (v : Value) (L : List Tok) (w : World) (r : PB × RS) (e : Ending) (w' : World) : Prop :=
  ∃ p, e = .returned (.pointer p) ∧ StmtsIs w.heap.size none w' r.1 [.pointer p] ∧ Rd w' R v L r.2 ∧ Kept R w w'
def BlockSaid (f : Nat) : Prop := ∀ (w : World) (R : Nat) (v : Value) (L : List Tok) (st : RS), Rd w R v L st → DigOk L → bFuel L 2 3 st f →
  Calls Tryz.prog 109 #[.pointer (some ⟨R, 0, none⟩)] w (BPost R v L w (rS f 0 L st))
def DoSaid (f : Nat) : Prop := ∀ (w : World) (R : Nat) (v : Value) (L : List Tok) (st : RS), Rd w R v L st → DigOk L → bFuel L 2 2 st (f + 1) →
  Calls Tryz.prog 177 #[.pointer (some ⟨R, 0, none⟩)] w (DPost R v L w (rDo (rS f 0 L) L st))

theorem level_zero (w : World) (R : Nat) (v : Value) (L : List Tok) (st : RS) (h : Rd w R v L st) (hD : DigOk L) :
    Calls Tryz.prog 108 #[.pointer (some ⟨R, 0, none⟩), .int .i64 0] w (XPost R v L w (rX (fuelX L) 0 .nil L st)) :=
  (levels (fuelX L)).1 0 w R v L st (by omega) h hD (need_le (by unfold fuelX; omega) (by unfold fuelX; omega))

theorem row5 {w : World} {b : Nat} {x0 x1 x2 x3 x4 : Value} {t : TypeId} (h : w.heap[b]? = some (.cells #[x0, x1, x2, x3, x4] t (0, 0))) :
    w.cell? ⟨b, 0, none⟩ = some x0 ∧ w.cell? ⟨b, 1, none⟩ = some x1 ∧ w.cell? ⟨b, 2, none⟩ = some x2 ∧ w.cell? ⟨b, 3, none⟩ = some x3 ∧ w.cell? ⟨b, 4, none⟩ = some x4 ∧
    w.frozen? ⟨b, 0, none⟩ = false ∧ w.frozen? ⟨b, 1, none⟩ = false ∧ w.frozen? ⟨b, 2, none⟩ = false ∧ w.frozen? ⟨b, 3, none⟩ = false ∧ w.frozen? ⟨b, 4, none⟩ = false :=
  ⟨by rw [cell_of_row w b 0 _ _ _ h]; rfl, by rw [cell_of_row w b 1 _ _ _ h]; rfl, by rw [cell_of_row w b 2 _ _ _ h]; rfl, by rw [cell_of_row w b 3 _ _ _ h]; rfl, by rw [cell_of_row w b 4 _ _ _ h]; rfl,
   frozen_of_row w b 0 _ _ h, frozen_of_row w b 1 _ _ h, frozen_of_row w b 2 _ _ h, frozen_of_row w b 3 _ _ h, frozen_of_row w b 4 _ _ h⟩

theorem set_stay {w : World} {X o : Nat} {u : Value} : ∀ k, X + 1 ≤ k → k < w.heap.size → (w.setCell ⟨X, o, none⟩ u).heap[k]? = w.heap[k]? := fun k h _ => Below.heap_setCell _ _ _ _ (by simp only; omega)

theorem own_slice {w : World} {lo e size : Nat} {v : Value} {n : Nat} {xs : List Value} (h : w.ownsRow lo e size v n xs) : ∃ a l c, v = .slice a l c := by
  rcases h.2 with ⟨rfl, _⟩ | ⟨g, cap, cur, rfl, _⟩
  · exact ⟨_, _, _, rfl⟩
  · exact ⟨_, _, _, rfl⟩

theorem rDo_set {blk : RS → PB × RS} {L : List Tok} {st : RS} (hi : rNext L [105, 102] st = false) :
    rDo blk L st = (setS (rPlace L st).1 (rX (fuelX L) 0 .nil L (rMust L [61] (rPlace L st).2)).1, rMust L [59] (rX (fuelX L) 0 .nil L (rMust L [61] (rPlace L st).2)).2) := by
  unfold rDo; rw [hi]; rfl
theorem rDo_if {blk : RS → PB × RS} {L : List Tok} {st : RS} {c : PX × RS} {t : PB × RS} (hi : rNext L [105, 102] st = true) (hc : rX (fuelX L) 0 .nil L (rMust L [105, 102] st) = c) (ht : blk c.2 = t) :
    rDo blk L st = if rNext L [101, 108, 115, 101] t.2 then (ifS c.1 t.1 (blk (rMust L [101, 108, 115, 101] t.2)).1, (blk (rMust L [101, 108, 115, 101] t.2)).2) else (ifS c.1 t.1 .nil, t.2) := by
  subst hc; subst ht
  unfold rDo; rw [if_pos hi]

set_option maxRecDepth 100000 in
set_option maxHeartbeats 4000000 in
theorem do_step (f : Nat) (hB : BlockSaid f) : DoSaid f := by
  intro w R v L st h hD hf
  have hX : R < w.heap.size := lt_of_block h.rd
  have HV := hide (own_lt h.own)
  have hlt := h.lt
  go_enter Tryz.func177, Tryz.ntmps177
  go_wp2_with fail
  refine (next_lit [105, 102] _ R v L st (h.below (below_alloc1 _ _))).mono ?_
  rintro e w1 ⟨rfl, h1, hk1⟩
  have hx1 := (hk1.block w.heap.size (by simp) (by omega)).trans (heap_alloc_new _ _)
  have HK1 := hide (((Kept.refl R w).alloc _).trans hk1)
  have H1 := hide h1
  have HX1 := hide hx1
  clear h h1 hk1 hx1
  cases hi : rNext L [105, 102] st
  · have HE := hide (rDo_set (blk := rS f 0 L) hi)
    go_wp2_with fail
    refine (place_any _ R v L st (unhide H1)).mono ?_
    rintro e w2 ⟨p2, rfl, hp2, h2, hk2⟩
    have hx2 := (hk2.block w.heap.size (lt_of_block (unhide HX1)) (by omega)).trans (unhide HX1)
    obtain ⟨d0, d1, d2, d3, d4, e0, e1, e2, e3, e4⟩ := row5 hx2
    have HK2 := hide ((unhide HK1).trans hk2)
    have HP2 := hide (hp2.mono (lo' := w.heap.size + 1) (lt_of_block (unhide HX1)))
    have H2 := hide h2
    have HX2 := hide hx2
    obtain ⟨p2, rfl⟩ := hp2.ptr
    clear hp2 h2 hk2 hx2 HX1 HK1 H1
    generalize rPlace L st = P at *
    go_wp2_with fail
    refine (must_lit [61] _ R v L P.2 ((unhide H2).setNew (unhide HV) hX (by simp) _)).mono ?_
    rintro e w3 ⟨rfl, h3, hk3⟩
    have hx3 := (hk3.block w.heap.size (by simpa using lt_of_block (unhide HX2)) (by omega)).trans (heap_setCell_same _ _ 0 _ _ (.pointer p2) (unhide HX2))
    have HK3 := hide (((unhide HK2).setNew (p := ⟨w.heap.size, 0, none⟩) (by simp) (.pointer p2)).trans hk3)
    have HP3 := hide (((unhide HP2).stay (set_stay (o := 0) (u := .pointer p2))).kept hk3 (by omega))
    have H3 := hide h3
    have HX3 := hide hx3
    clear h3 hk3 hx3 HX2 HK2 H2 HP2 d0 d1 d2 d3 d4 e0 e1 e2 e3 e4
    go_wp2_with fail
    refine (level_zero _ R v L _ (unhide H3) hD).mono ?_
    rintro e w4 ⟨p4, rfl, hp4, h4, hk4⟩
    have hx4 := (hk4.block w.heap.size (lt_of_block (unhide HX3)) (by omega)).trans (unhide HX3)
    obtain ⟨d0, d1, d2, d3, d4, e0, e1, e2, e3, e4⟩ := row5 hx4
    have HK4 := hide ((unhide HK3).trans hk4)
    have HP4 := hide ((unhide HP3).kept hk4 (by omega))
    have HV4 := hide (hp4.mono (lo' := w.heap.size + 1) (lt_of_block (unhide HX3)))
    have H4 := hide h4
    have HX4 := hide hx4
    obtain ⟨p4, rfl⟩ := hp4.ptr
    clear hp4 h4 hk4 hx4 HX3 HK3 H3 HP3
    generalize rX (fuelX L) 0 .nil L (rMust L [61] P.2) = V at *
    go_wp2_with fail
    refine (must_lit [59] _ R v L V.2 ((unhide H4).setNew (unhide HV) hX (by simp) _)).mono ?_
    rintro e w5 ⟨rfl, h5, hk5⟩
    have hx5 := (hk5.block w.heap.size (by simpa using lt_of_block (unhide HX4)) (by omega)).trans (heap_setCell_same _ _ 1 _ _ (.pointer p4) (unhide HX4))
    have HK5 := hide (((unhide HK4).setNew (p := ⟨w.heap.size, 1, none⟩) (by simp) (.pointer p4)).trans hk5)
    have HP5 := hide (((unhide HP4).stay (set_stay (o := 1) (u := .pointer p4))).kept hk5 (by omega))
    have HV5 := hide (((unhide HV4).stay (set_stay (o := 1) (u := .pointer p4))).kept hk5 (by omega))
    have H5 := hide h5
    have HX5 := hide hx5
    clear h5 hk5 hx5 HX4 HK4 H4 HP4 HV4 d0 d1 d2 d3 d4 e0 e1 e2 e3 e4
    go_wp2
    go_ret
    rw [unhide HE]
    exact ⟨_, rfl, ⟨_, _, _, _, [], rfl, Nat.le_refl _, unhide HX5, ⟨(unhide HP5).mono (by omega), (unhide HV5).mono (by omega), rfl⟩, rfl⟩, unhide H5, unhide HK5⟩
  · have hdf : 4 * (L.length - st.at_) + 2 ≤ f + 1 := bFuel_ok (next_lt (unhide H1) hi).2 hf
    go_wp2_with fail
    refine (must_lit [105, 102] _ R v L st (unhide H1)).mono ?_
    rintro e w2 ⟨rfl, h2, hk2⟩
    have hx2 := (hk2.block w.heap.size (lt_of_block (unhide HX1)) (by omega)).trans (unhide HX1)
    have HK2 := hide ((unhide HK1).trans hk2)
    have H2 := hide h2
    have HX2 := hide hx2
    have hat : (rMust L [105, 102] st).at_ = st.at_ + 1 := by
      apply rMust_ok
      unfold rMust; rw [hi]; rfl
    clear h2 hk2 hx2 HX1 HK1 H1
    go_wp2_with fail
    refine (level_zero _ R v L _ (unhide H2) hD).mono ?_
    rintro e w3 ⟨p3, rfl, hp3, h3, hk3⟩
    have hx3 := (hk3.block w.heap.size (lt_of_block (unhide HX2)) (by omega)).trans (unhide HX2)
    obtain ⟨d0, d1, d2, d3, d4, e0, e1, e2, e3, e4⟩ := row5 hx3
    have HK3 := hide ((unhide HK2).trans hk3)
    have HP3 := hide (hp3.mono (lo' := w.heap.size + 1) (lt_of_block (unhide HX2)))
    have H3 := hide h3
    have HX3 := hide hx3
    obtain ⟨p3, rfl⟩ := hp3.ptr
    clear hp3 h3 hk3 hx3 HX2 HK2 H2
    have hmo := rX_mono (fuelX L) 0 .nil L (rMust L [105, 102] st)
    generalize hc : rX (fuelX L) 0 .nil L (rMust L [105, 102] st) = C at HP3 H3 hmo
    have HC := hide hc
    clear hc
    go_wp2_with fail
    refine (hB _ R v L C.2 ((unhide H3).setNew (unhide HV) hX (by simp) _) hD (bFuel_le (by omega) (by omega))).mono ?_
    rintro e w4 ⟨vs, qs, rfl, hvs, hqs, h4, hk4⟩
    have hsz3 := lt_of_block (unhide HX3)
    have hx4 := (hk4.block w.heap.size (by simpa using lt_of_block (unhide HX3)) (by omega)).trans (heap_setCell_same _ _ 2 _ _ (.pointer p3) (unhide HX3))
    obtain ⟨d0, d1, d2, d3, d4, e0, e1, e2, e3, e4⟩ := row5 hx4
    have HK4 := hide (((unhide HK3).setNew (p := ⟨w.heap.size, 2, none⟩) (by simp) (.pointer p3)).trans hk4)
    have HP4 := hide (((unhide HP3).stay (set_stay (o := 2) (u := .pointer p3))).kept hk4 (by omega))
    have HS4 := hide (hqs.mono (lo' := w.heap.size + 1) (by have := hsz3; simp; omega))
    have HW4 := hide (owns_mono (lo' := w.heap.size + 1) (by have := hsz3; simp; omega) hvs)
    have H4 := hide h4
    have HX4 := hide hx4
    obtain ⟨sa, sl, sc, rfl⟩ := own_slice hvs
    clear hvs hqs h4 hk4 hx4 HX3 HK3 H3 HP3
    have hmt := rS_mono L f 0 C.2
    generalize ht : rS f 0 L C.2 = T at HS4 H4 hmt
    have HE := hide (rDo_if (blk := rS f 0 L) hi (unhide HC) ht)
    clear ht HC hi
    go_wp2_with fail
    refine (next_lit [101, 108, 115, 101] _ R v L T.2 ((unhide H4).setNew (unhide HV) hX (by simp) _)).mono ?_
    rintro e w5 ⟨rfl, h5, hk5⟩
    have hx5 := (hk5.block w.heap.size (by simpa using lt_of_block (unhide HX4)) (by omega)).trans (heap_setCell_same _ _ 3 _ _ (.slice sa sl sc) (unhide HX4))
    have HK5 := hide (((unhide HK4).setNew (p := ⟨w.heap.size, 3, none⟩) (by simp) (.slice sa sl sc)).trans hk5)
    have HP5 := hide (((unhide HP4).stay (set_stay (o := 3) (u := .slice sa sl sc))).kept hk5 (by omega))
    have HS5 := hide (((unhide HS4).stay (set_stay (o := 3) (u := .slice sa sl sc))).kept hk5 (by omega))
    have HW5 := hide (owns_kept' (owns_stay (set_stay (o := 3) (u := .slice sa sl sc)) (unhide HW4)) hk5 (by omega))
    have H5 := hide h5
    have HX5 := hide hx5
    clear h5 hk5 hx5 HX4 HK4 H4 HP4 HS4 HW4 d0 d1 d2 d3 d4 e0 e1 e2 e3 e4
    cases hel : rNext L [101, 108, 115, 101] T.2
    · rw [hel] at HE
      go_wp2
      go_ret
      rw [unhide HE]
      exact ⟨_, rfl, ⟨_, _, _, _, _, _, _, [], [], rfl, Nat.le_refl _, unhide HX5, ⟨rfl, rfl, (unhide HP5).mono (by omega)⟩, ⟨owns_mono (by omega) (unhide HW5), (fun _ _ h => by cases h), (unhide HS5).mono (by omega)⟩, ⟨World.ownsRow_nil _ _ _ _, (fun _ _ h => by cases h), rfl⟩, rfl⟩, unhide H5, unhide HK5⟩
    · rw [hel] at HE
      have hatT := (unhide H5).lt
      go_wp2_with fail
      refine (must_lit [101, 108, 115, 101] _ R v L T.2 (unhide H5)).mono ?_
      rintro e w6 ⟨rfl, h6, hk6⟩
      have hx6 := (hk6.block w.heap.size (lt_of_block (unhide HX5)) (by omega)).trans (unhide HX5)
      have HK6 := hide ((unhide HK5).trans hk6)
      have HP6 := hide ((unhide HP5).kept hk6 (by omega))
      have HS6 := hide ((unhide HS5).kept hk6 (by omega))
      have HW6 := hide (owns_kept' (unhide HW5) hk6 (by omega))
      have H6 := hide h6
      have HX6 := hide hx6
      clear h6 hk6 hx6 HX5 HK5 H5 HP5 HS5 HW5
      have hmm := rMust_mono L [101, 108, 115, 101] T.2
      go_wp2_with fail
      refine (hB _ R v L _ (unhide H6) hD (bFuel_le (by omega) (by omega))).mono ?_
      rintro e w7 ⟨ve, qe, rfl, hve, hqe, h7, hk7⟩
      have hsz6 := lt_of_block (unhide HX6)
      have hx7 := (hk7.block w.heap.size (lt_of_block (unhide HX6)) (by omega)).trans (unhide HX6)
      obtain ⟨d0, d1, d2, d3, d4, e0, e1, e2, e3, e4⟩ := row5 hx7
      have HK7 := hide ((unhide HK6).trans hk7)
      have HP7 := hide ((unhide HP6).kept hk7 (by omega))
      have HS7 := hide ((unhide HS6).kept hk7 (by omega))
      have HW7 := hide (owns_kept' (unhide HW6) hk7 (by omega))
      have HSe := hide (hqe.mono (lo' := w.heap.size + 1) hsz6)
      have HWe := hide (owns_mono (lo' := w.heap.size + 1) hsz6 hve)
      have H7 := hide h7
      have HX7 := hide hx7
      obtain ⟨ea, el, ec, rfl⟩ := own_slice hve
      clear hve hqe h7 hk7 hx7 HX6 HK6 H6 HP6 HS6 HW6
      go_wp2
      go_ret
      rw [unhide HE]
      exact ⟨_, rfl, ⟨_, _, _, _, _, _, _, _, [], rfl, Nat.le_refl _, heap_setCell_same _ _ 4 _ _ (.slice ea el ec) (unhide HX7), ⟨rfl, rfl, ((unhide HP7).stay set_stay).mono (by omega)⟩, ⟨owns_mono (by omega) (owns_stay set_stay (unhide HW7)), (fun _ _ h => by cases h), ((unhide HS7).stay set_stay).mono (by omega)⟩,
        ⟨owns_mono (by omega) (owns_stay set_stay (unhide HWe)), (fun _ _ h => by cases h), ((unhide HSe).stay set_stay).mono (by omega)⟩, rfl⟩, (unhide H7).setNew (unhide HV) hX (by simp) _, (unhide HK7).setNew (by simp) _⟩

end Go.Proofs.YtpmcnonmkghokaaGreatDoor
namespace Go.Proofs.YtpmcnonmkghokaaGreatDoor
open Go.RowKit
theorem Tryz.infoDoP : (Tryz.prog.info? 245).map (fun i => (i.zero, i.size, i.bytes)) = some (some (.pointer none), 1, 8) := by kernel_rfl

/-- What holds at the head of a round of block. -/
def BlRel (f : Nat) (w : World) (R : Nat) (v : Value) (L : List Tok) (fin : PB × RS) (l m : Value) (wr : World) : Prop :=
  ∃ (ps : List Value) (acc : PB) (st : RS) (g : Nat), m = .bool (rNext L [125] st) ∧ wr.ownsRow w.heap.size 245 1 l ps.length ps ∧ StmtsIs w.heap.size l.ownBlock wr acc ps ∧ Rd wr R v L st ∧ Kept R w wr ∧
    (bapp acc (rS g 1 L st).1, (rS g 1 L st).2) = fin ∧ bFuel L 1 2 st g ∧ g ≤ f ∧ ps.length ≤ st.at_ + st.bad.toNat

def gdOf (w : World) (R : Nat) : Nat := match w.cell? ⟨R, 3, none⟩ with
  | some (.bool false) => 1
  | _ => 0
theorem Rd.gdOf {w : World} {R : Nat} {v : Value} {L : List Tok} {st : RS} (h : Rd w R v L st) : Go.Proofs.YtpmcnonmkghokaaGreatDoor.gdOf w R = (!st.bad).toNat := by
  obtain ⟨c0, c1, c2, c3, _⟩ := row4 h.rd
  unfold Go.Proofs.YtpmcnonmkghokaaGreatDoor.gdOf
  rw [c3]
  cases st.bad <;> rfl

/-- Behind an append to a list of statements whose row is shunned, the new row is. -/
theorem StmtsIs.grownAt {lo base : Nat} {w w' : World} {v : Value} {n : Nat} {xs : List Value} {no' : Option Nat} (hv : w.ownsRow base 245 1 v n xs) (hg : w.grownBy w' v.ownBlock) (hno : ∀ k, no' = some k → v.ownBlock = some k ∨ w.heap.size ≤ k) :
    ∀ {b : PB} {ps : List Value}, StmtsIs lo v.ownBlock w b ps → StmtsIs lo no' w' b ps
  | .nil, _, h => h
  | .node _ _ a .nil nx, ps, ⟨k, vp, vv, vi, qs, e, hl, hh, ha, hn⟩ => ⟨k, vp, vv, vi, qs, e, hl, by rw [hg.block k (lt_of_block hh) (not_row hv hh (by decide))]; exact hh, ⟨ha.1.grown hv (by decide) hg, ha.2.1.grown hv (by decide) hg, ha.2.2.grown hv (by decide) hg⟩, StmtsIs.grownAt hv hg hno hn⟩
  | .node _ _ a (.node _ _ _ t e) nx, ps, ⟨k, vp, vv, vi, vt, ve, qt, qe, qs, e1, hl, hh, ha, ⟨ht1, ht3, ht2⟩, ⟨he1, he3, he2⟩, hn⟩ => by
    have keep : ∀ {u : Value} {q : List Value}, w.ownsRow lo 245 1 u q.length q → (∀ j, u.ownBlock = some j → v.ownBlock ≠ some j) → w'.ownsRow lo 245 1 u q.length q ∧ ∀ j, u.ownBlock = some j → no' ≠ some j := by
      intro u q h1 h2
      refine ⟨h1.kept hg ?_, fun j hj hc => ?_⟩
      · cases hu : u.ownBlock with
        | none => exact Or.inl rfl
        | some j => exact Or.inr fun h => h2 j hu h.symm
      · have hlt := own_lt h1 j hj
        rcases hno j hc with h | h
        · exact h2 j hj h
        · omega
    exact ⟨k, vp, vv, vi, vt, ve, qt, qe, qs, e1, hl, by rw [hg.block k (lt_of_block hh) (not_row hv hh (by decide))]; exact hh, ⟨ha.1.grown hv (by decide) hg, ha.2.1.grown hv (by decide) hg, ha.2.2.grown hv (by decide) hg⟩,
      ⟨(keep ht1 ht3).1, (keep ht1 ht3).2, StmtsIs.grownAt hv hg hno ht2⟩, ⟨(keep he1 he3).1, (keep he1 he3).2, StmtsIs.grownAt hv hg hno he2⟩, StmtsIs.grownAt hv hg hno hn⟩

theorem own_at {v v' : Value} {B : Nat} (hat : v'.ownBlock = v.ownBlock ∨ v'.ownBlock = some B) : ∀ k, v'.ownBlock = some k → v.ownBlock = some k ∨ B ≤ k := by
  intro k hk
  rcases hat with e | e
  · rw [e] at hk; exact Or.inl hk
  · rw [e] at hk; simp at hk; exact Or.inr (by omega)
theorem Kept.grown {R : Nat} {a w w' : World} {v : Value} (h : Kept R a w) (hg : w.grownBy w' v.ownBlock) (hv : ∀ k, v.ownBlock = some k → a.heap.size ≤ k) : Kept R a w' :=
  ⟨hg.os.trans h.os, hg.tape.trans h.tape, hg.output.trans h.output, Nat.le_trans h.size hg.size, fun k hk hn => (hg.block k (Nat.lt_of_lt_of_le hk h.size) (fun e => by have := hv k e.symm; omega)).trans (h.block k hk hn)⟩

theorem Rd.grown {w w' : World} {R B : Nat} {v u : Value} {L : List Tok} {st : RS} (h : Rd w R v L st) (hg : w.grownBy w' u.ownBlock) (hu : ∀ k, u.ownBlock = some k → B ≤ k) (hB : ∀ g, v.ownBlock = some g → g < B) (hR : R < B) : Rd w' R v L st := by
  refine ⟨by rw [hg.block R (lt_of_block h.rd) (fun e => by have := hu R e.symm; omega)]; exact h.rd, ?_, h.ne, h.lt, h.len, h.fin, h.nlo, h.nhi⟩
  refine h.own.kept hg ?_
  cases hv : v.ownBlock with
  | none => exact Or.inl rfl
  | some j => exact Or.inr fun e => by have h1 := hu j e.symm; have h2 := hB j hv; omega

set_option maxRecDepth 100000 in
set_option maxHeartbeats 4000000 in
theorem block_step (f : Nat) (hDo : ∀ g, g + 1 ≤ f → DoSaid g) : BlockSaid (f + 1) := by
  intro w R v L st h hD hf
  obtain ⟨i0, hi, hz0, hz1, hz2⟩ := info_parts Tryz.infoDoP
  have hX : R < w.heap.size := lt_of_block h.rd
  have HV := hide (own_lt h.own)
  have hlt := h.lt
  have HE := hide (show rS (f + 1) 0 L st = ((rS f 1 L (rMust L [123] st)).1, rMust L [125] (rS f 1 L (rMust L [123] st)).2) from by rw [rS])
  have hfl : bFuel L 1 2 (rMust L [123] st) f := by
    cases hb : st.bad
    · have := bFuel_ok hb hf
      exact bFuel_must hlt this (by omega) (by omega)
    · have := bFuel_bad hb hf
      unfold bFuel
      rw [rMust_bad hb]
      simp; omega
  go_enter Tryz.func109, Tryz.ntmps109
  go_wp2_with fail
  refine (must_lit [123] _ R v L st h).mono ?_
  rintro e w1 ⟨rfl, h1, hk1⟩
  go_wp2_with fail
  refine (next_lit [125] _ R v L _ h1).mono ?_
  rintro e w2 ⟨rfl, h2, hk2⟩
  have HR := hide (show BlRel f w R v L (rS f 1 L (rMust L [123] st)) (.slice none 0 0) (.bool (rNext L [125] (rMust L [123] st))) w2 from
    ⟨[], .nil, rMust L [123] st, f, rfl, World.ownsRow_nil _ _ _ _, rfl, h2, hk1.trans hk2, rfl, hfl, Nat.le_refl _, Nat.zero_le _⟩)
  clear h h1 hk1 h2 hk2 hfl
  go_wp2_with fail
  go_loopw [3, 4] (fun l m wr => BlRel f w R v L (rS f 1 L (rMust L [123] st)) l m wr) (fun _ _ wr => 2 * (L.length - atOf wr R) + gdOf wr R)
  case atStart => exact unhide HR
  case round =>
    obtain ⟨ps, acc, s2, g, rfl, hown, hst, h2, hk2, hfin, hfu, hgf, hpl⟩ := hrel
    have hlt2 := h2.lt
    have hlen := h2.len
    have hR2 := lt_of_block h2.rd
    obtain ⟨c0, c1, c2, c3, f0, f1, f2, f3⟩ := row4 h2.rd
    have HO := hide hown
    have HS := hide hst
    have H2 := hide h2
    have HK := hide hk2
    have HF := hide hfin
    have hsz := hk2.size
    obtain ⟨la, ll, lc, rfl⟩ := own_slice hown
    clear hown hst h2 hk2 hfin
    cases hn : (rNext L [125] s2 || s2.bad)
    · rw [Bool.or_eq_false_iff] at hn
      obtain ⟨hn1, hb2⟩ := hn
      have hfu' := bFuel_ok hb2 hfu
      obtain ⟨g, rfl⟩ : ∃ g', g = g' + 1 := ⟨g - 1, by omega⟩
      rw [hb2] at c3
      have hF := unhide HF
      clear HF
      rw [rS, hn1, hb2] at hF
      simp only [Bool.or_false, Bool.false_eq_true, if_false] at hF
      have HF := hide hF
      clear hF
      go_wp2_with fail
      refine (hDo g (by omega) _ R v L s2 (unhide H2) hD (bFuel_le (by omega) (by omega))).mono ?_
      rintro e w3 ⟨p, rfl, hp, h3, hk3⟩
      have HO3 := hide (owns_kept' (unhide HO) hk3 hX)
      have hl3 := own_lt (unhide HO)
      have HS3 := hide (((unhide HS).kept hk3 hX).app ((hp.shun (no' := (Value.slice la ll lc).ownBlock) (fun k hk => Or.inr (Or.inr (hl3 k hk)))).mono hsz))
      have HK3 := hide ((unhide HK).trans hk3)
      have H3 := hide h3
      have hsz3 := hk3.size
      have hm2 := (unhide H2).atOf
      have hg2 := (unhide H2).gdOf
      have hprog : (rDo (rS g 0 L) L s2).2.bad = false → s2.at_ + 1 ≤ (rDo (rS g 0 L) L s2).2.at_ := rDo_prog (fun s => rS_mono L g 0 s) (fun s hs => rS_bad hs g 0)
      have hmono := rDo_mono (fun s => rS_mono L g 0 s) L s2
      generalize rDo (rS g 0 L) L s2 = d at HS3 H3 HF hprog hmono
      have hdl := (unhide H3).lt
      rw [hb2] at hpl
      simp only [Bool.toNat_false, Nat.add_zero] at hpl
      clear hp h3 hk3 HO HS hl3 c0 c1 c2 c3 f0 f1 f2 f3
      go_wp2_with (at_builtin; refine wpList_append_own_at _ rfl _ _ 145 rfl w.heap.size 245 i0 _ 1 8 Tryz.underlying145 hi hz0 hz1 hz2 rfl (by decide) _ _ _ rfl ((unhide HO3).alloc _) ⟨w3.heap.size, 0, none⟩ 1 1 [.pointer p] rfl rfl ?c1 ?c2 ?c3 ?c4 ?c5 ?_)
      case c1 => exact cells_new w3 _ [.pointer p] _ rfl
      case c2 => intro u hu; simp at hu; subst hu; rfl
      case c3 => unfold maxLen; omega
      case c4 => omega
      case c5 => simp; omega
      intro v' w4 hown' hgrow _ hat
      have hge := own_ge (unhide HO3)
      have hst4 : StmtsIs w.heap.size v'.ownBlock w4 (bapp acc d.1) (ps ++ [.pointer p]) := StmtsIs.grownAt ((unhide HO3).alloc _) hgrow (fun k hk => (own_at hat k hk).imp id (fun h => by simpa using h)) ((unhide HS3).stay (fun k _ hk => Below.heap_alloc _ _ _ hk))
      have h4 := ((unhide H3).below (below_alloc1 _ _)).grown hgrow hge (unhide HV) hX
      have hK4 := ((unhide HK3).alloc _).grown hgrow hge
      have HO4 := hide hown'
      have HS4 := hide hst4
      have H4 := hide h4
      have HK4 := hide hK4
      obtain ⟨va, vl, vc, rfl⟩ := own_slice hown'
      clear hown' hgrow hat hst4 h4 hK4 hge HO3 HS3 H3 HK3
      go_wp2_with fail
      refine (next_lit [125] _ R v L d.2 (unhide H4)).mono ?_
      rintro e w5 ⟨rfl, h5, hk5⟩
      have HR5 := hide (show BlRel f w R v L (rS f 1 L (rMust L [123] st)) (.slice va vl vc) (.bool (rNext L [125] d.2)) w5 from
        ⟨ps ++ [.pointer p], bapp acc d.1, d.2, g, rfl, by rw [List.length_append]; exact owns_kept' (unhide HO4) hk5 hX, (unhide HS4).kept hk5 hX, h5, (unhide HK4).trans hk5, by rw [bapp_assoc]; exact unhide HF,
          by
            unfold bFuel
            split
            · omega
            · rename_i hbb
              have := hprog (by simpa using hbb)
              omega, by omega, by
            rw [List.length_append]
            cases hbb : d.2.bad
            · have := hprog hbb
              simp; omega
            · simp; omega⟩)
      have hm5 := h5.atOf
      have hg5 := h5.gdOf
      have HM := hide (show 2 * (L.length - atOf w5 R) + gdOf w5 R < 2 * (L.length - atOf wr R) + gdOf wr R by
        rw [hm5, hg5, hm2, hg2, hb2]
        cases hbb : d.2.bad
        · have := hprog hbb
          simp; omega
        · simp; omega)
      clear h5 hk5 hm5 hg5 hm2 hg2
      go_wp2
      go_roundw
      case rel => exact unhide HR5
      case measure => exact unhide HM
    · have hg1 : 1 ≤ g := by
        cases hb2 : s2.bad
        · have := bFuel_ok hb2 hfu; omega
        · exact bFuel_bad hb2 hfu
      obtain ⟨g, rfl⟩ : ∃ g', g = g' + 1 := ⟨g - 1, by omega⟩
      have hF := unhide HF
      clear HF
      rw [rS, hn] at hF
      simp only [if_true, bapp_nil] at hF
      have HF := hide hF
      clear hF
      cases hn1 : rNext L [125] s2
      · have hb2 : s2.bad = true := by rw [hn1] at hn; simpa using hn
        rw [hb2] at c3
        go_wp2_with fail
        refine (must_lit [125] _ R v L s2 (unhide H2)).mono ?_
        rintro e w3 ⟨rfl, h3, hk3⟩
        have HO3 := hide (owns_kept' (unhide HO) hk3 hX)
        have HS3 := hide (((unhide HS).kept hk3 hX).shun (no' := none) (fun k hk => by cases hk))
        have HK3 := hide ((unhide HK).trans hk3)
        have H3 := hide h3
        clear h3 hk3
        go_wp2
        go_ret
        rw [unhide HE, ← unhide HF]
        exact ⟨_, ps, rfl, unhide HO3, unhide HS3, unhide H3, unhide HK3⟩
      · go_wp2_with fail
        refine (must_lit [125] _ R v L s2 (unhide H2)).mono ?_
        rintro e w3 ⟨rfl, h3, hk3⟩
        have HO3 := hide (owns_kept' (unhide HO) hk3 hX)
        have HS3 := hide (((unhide HS).kept hk3 hX).shun (no' := none) (fun k hk => by cases hk))
        have HK3 := hide ((unhide HK).trans hk3)
        have H3 := hide h3
        clear h3 hk3
        go_wp2
        go_ret
        rw [unhide HE, ← unhide HF]
        exact ⟨_, ps, rfl, unhide HO3, unhide HS3, unhide H3, unhide HK3⟩

theorem blocks (f : Nat) : BlockSaid f := by
  have h : ∀ f, ∀ g, g ≤ f → BlockSaid g := by
    intro f
    induction f with
    | zero =>
      intro g hg w R v L st h _ hf
      have : g = 0 := by omega
      subst this
      have := h.lt
      unfold bFuel at hf
      split at hf <;> omega
    | succ f ih =>
      intro g hg
      by_cases e : g ≤ f
      · exact ih g e
      · have : g = f + 1 := by omega
        subst this
        exact block_step f (fun k hk => do_step k (ih k (by omega)))
  exact h f f (Nat.le_refl _)

def fuelB (L : List Tok) : Nat := 4 * L.length + 4
end Go.Proofs.YtpmcnonmkghokaaGreatDoor
namespace Go.Proofs.YtpmcnonmkghokaaGreatDoor
open Go.RowKit
/-- The members of a kind, behind those that were read. -/
def rMem : Nat → List Tok → List Tok → RS → List Tok × RS
  | 0, _, l, st => (l, st)
  | f + 1, L, l, st =>
    if st.bad then (l, st)
    else if rNext L [44] (rKind L [110, 97, 109, 101] st).2 || decide (l.length + 1 < 2) then rMem f L (l ++ [(rKind L [110, 97, 109, 101] st).1]) (rMust L [44] (rKind L [110, 97, 109, 101] st).2)
    else (l ++ [(rKind L [110, 97, 109, 101] st).1], (rKind L [110, 97, 109, 101] st).2)
def fuelM (L : List Tok) : Nat := L.length + 2
def rMembers (L : List Tok) (st : RS) : List Tok × RS :=
  ((rMem (fuelM L) L [] (rMust L [123] st)).1, rMust L [125] (rMem (fuelM L) L [] (rMust L [123] st)).2)

end Go.Proofs.YtpmcnonmkghokaaGreatDoor
namespace Go.Proofs.YtpmcnonmkghokaaGreatDoor
open Go.RowKit
/-- A parameter: its name, its set. -/
structure PP where
  name : Tok
  set_ : Tok
def ppCells (p : PP) : List Value := tokCells p.name ++ tokCells p.set_
def ppsCells (l : List PP) : List Value := l.flatMap ppCells
/-- The state behind a parameter, and the parameter. -/
def rPP (L : List Tok) (st : RS) : PP × RS :=
  (⟨(rKind L [110, 97, 109, 101] st).1, (rKind L [110, 97, 109, 101] (rMust L [58] (rKind L [110, 97, 109, 101] st).2)).1⟩, (rKind L [110, 97, 109, 101] (rMust L [58] (rKind L [110, 97, 109, 101] st).2)).2)
def rPar : Nat → List Tok → List PP → RS → List PP × RS
  | 0, _, l, st => (l, st)
  | f + 1, L, l, st =>
    if st.bad then (l, st)
    else if rNext L [44] (rPP L st).2 then rPar f L (l ++ [(rPP L st).1]) (rMust L [44] (rPP L st).2)
    else (l ++ [(rPP L st).1], (rPP L st).2)
def rParams (L : List Tok) (st : RS) : List PP × RS :=
  if rNext L [41] (rMust L [40] st) then ([], rMust L [41] (rMust L [40] st))
  else ((rPar (fuelM L) L [] (rMust L [40] st)).1, rMust L [41] (rPar (fuelM L) L [] (rMust L [40] st)).2)

theorem rPP_mono (L : List Tok) (st : RS) : st.at_ ≤ (rPP L st).2.at_ := Nat.le_trans (rKind_mono L _ st) (Nat.le_trans (rMust_mono L [58] _) (rKind_mono L _ _))
theorem row6 {w : World} {b : Nat} {x0 x1 x2 x3 x4 x5 : Value} {t : TypeId} (h : w.heap[b]? = some (.cells #[x0, x1, x2, x3, x4, x5] t (0, 0))) :
    w.cell? ⟨b, 0, none⟩ = some x0 ∧ w.cell? ⟨b, 1, none⟩ = some x1 ∧ w.cell? ⟨b, 2, none⟩ = some x2 ∧ w.cell? ⟨b, 3, none⟩ = some x3 ∧ w.cell? ⟨b, 4, none⟩ = some x4 ∧ w.cell? ⟨b, 5, none⟩ = some x5 ∧
    w.frozen? ⟨b, 0, none⟩ = false ∧ w.frozen? ⟨b, 1, none⟩ = false ∧ w.frozen? ⟨b, 2, none⟩ = false ∧ w.frozen? ⟨b, 3, none⟩ = false ∧ w.frozen? ⟨b, 4, none⟩ = false ∧ w.frozen? ⟨b, 5, none⟩ = false :=
  ⟨by rw [cell_of_row w b 0 _ _ _ h]; rfl, by rw [cell_of_row w b 1 _ _ _ h]; rfl, by rw [cell_of_row w b 2 _ _ _ h]; rfl, by rw [cell_of_row w b 3 _ _ _ h]; rfl, by rw [cell_of_row w b 4 _ _ _ h]; rfl, by rw [cell_of_row w b 5 _ _ _ h]; rfl,
   frozen_of_row w b 0 _ _ h, frozen_of_row w b 1 _ _ h, frozen_of_row w b 2 _ _ h, frozen_of_row w b 3 _ _ h, frozen_of_row w b 4 _ _ h, frozen_of_row w b 5 _ _ h⟩
theorem set6a {w : World} {b : Nat} {x0 x1 x2 x3 x4 x5 : Value} {t : TypeId} (h : w.heap[b]? = some (.cells #[x0, x1, x2, x3, x4, x5] t (0, 0))) (a c d : Value) :
    (((w.setCell ⟨b, 0, none⟩ a).setCell ⟨b, 1, none⟩ c).setCell ⟨b, 2, none⟩ d).heap[b]? = some (.cells #[a, c, d, x3, x4, x5] t (0, 0)) :=
  heap_setCell_same _ b 2 _ _ _ (heap_setCell_same _ b 1 _ _ _ (heap_setCell_same _ b 0 _ _ _ h))
theorem set6b {w : World} {b : Nat} {x0 x1 x2 x3 x4 x5 : Value} {t : TypeId} (h : w.heap[b]? = some (.cells #[x0, x1, x2, x3, x4, x5] t (0, 0))) (a c d : Value) :
    (((w.setCell ⟨b, 3, none⟩ a).setCell ⟨b, 4, none⟩ c).setCell ⟨b, 5, none⟩ d).heap[b]? = some (.cells #[x0, x1, x2, a, c, d] t (0, 0)) :=
  heap_setCell_same _ b 5 _ _ _ (heap_setCell_same _ b 4 _ _ _ (heap_setCell_same _ b 3 _ _ _ h))

end Go.Proofs.YtpmcnonmkghokaaGreatDoor
namespace Go.Proofs.YtpmcnonmkghokaaGreatDoor
open Go.RowKit
/-- A variable's tokens. -/
structure PVar where
  name : Tok
  over : Tok
  type_ : Tok
  top : Tok
def varCells (x : PVar) : List Value := tokCells x.name ++ (tokCells x.over ++ (tokCells x.type_ ++ tokCells x.top))
def rOver (L : List Tok) (st : RS) : Tok × RS :=
  if rNext L [91] st then ((rKind L [110, 97, 109, 101] (rMust L [91] st)).1, rMust L [93] (rKind L [110, 97, 109, 101] (rMust L [91] st)).2) else (noTok, st)
def rTop (L : List Tok) (st : RS) : Tok × RS :=
  if rNext L [98, 111, 111, 108] st then (noTok, rMust L [98, 111, 111, 108] st)
  else if rNext L [116, 111] st then rKind L [100, 105, 103, 105, 116] (rMust L [116, 111] st)
  else (noTok, (rKind L [110, 97, 109, 101] st).2)
def rVar (L : List Tok) (st : RS) : PVar × RS :=
  ({ name := (rKind L [110, 97, 109, 101] (rMust L [118, 97, 114] st)).1,
     over := (rOver L (rMust L [58] (rKind L [110, 97, 109, 101] (rMust L [118, 97, 114] st)).2)).1,
     type_ := tk L (rOver L (rMust L [58] (rKind L [110, 97, 109, 101] (rMust L [118, 97, 114] st)).2)).2.at_,
     top := (rTop L (rOver L (rMust L [58] (rKind L [110, 97, 109, 101] (rMust L [118, 97, 114] st)).2)).2).1 },
   rMust L [59] (rTop L (rOver L (rMust L [58] (rKind L [110, 97, 109, 101] (rMust L [118, 97, 114] st)).2)).2).2)

end Go.Proofs.YtpmcnonmkghokaaGreatDoor
namespace Go.Proofs.YtpmcnonmkghokaaGreatDoor
open Go.RowKit
structure PSet where
  name : Tok
  size : Tok
def setCells1 (s : PSet) : List Value := tokCells s.name ++ tokCells s.size
def setsCells (l : List PSet) : List Value := l.flatMap setCells1
def rSet1 (L : List Tok) (st : RS) : PSet × RS :=
  (⟨(rKind L [110, 97, 109, 101] (rMust L [115, 101, 116] st)).1, (rKind L [100, 105, 103, 105, 116] (rKind L [110, 97, 109, 101] (rMust L [115, 101, 116] st)).2).1⟩,
   rMust L [59] (rKind L [100, 105, 103, 105, 116] (rKind L [110, 97, 109, 101] (rMust L [115, 101, 116] st)).2).2)
def rSets : Nat → List Tok → List PSet → RS → List PSet × RS
  | 0, _, l, st => (l, st)
  | f + 1, L, l, st => if rNext L [115, 101, 116] st then rSets f L (l ++ [(rSet1 L st).1]) (rSet1 L st).2 else (l, st)

structure PKind where
  name : Tok
  members : List Tok
def rKind1 (L : List Tok) (st : RS) : PKind × RS :=
  (⟨(rKind L [110, 97, 109, 101] (rMust L [107, 105, 110, 100] st)).1, (rMembers L (rKind L [110, 97, 109, 101] (rMust L [107, 105, 110, 100] st)).2).1⟩, (rMembers L (rKind L [110, 97, 109, 101] (rMust L [107, 105, 110, 100] st)).2).2)
def rKinds : Nat → List Tok → List PKind → RS → List PKind × RS
  | 0, _, l, st => (l, st)
  | f + 1, L, l, st => if rNext L [107, 105, 110, 100] st then rKinds f L (l ++ [(rKind1 L st).1]) (rKind1 L st).2 else (l, st)

theorem next_must_at {L : List Tok} {s : List UInt8} {st : RS} (h : rNext L s st = true) (ho : opens s = false) : (rMust L s st).at_ = st.at_ + 1 := by
  apply rMust_ok
  unfold rMust
  rw [h, ho]; rfl
theorem rSet1_prog {L : List Tok} {st : RS} (h : rNext L [115, 101, 116] st = true) : st.at_ + 1 ≤ (rSet1 L st).2.at_ := by
  have h1 := next_must_at h rfl
  have h2 := rKind_mono L [110, 97, 109, 101] (rMust L [115, 101, 116] st)
  have h3 := rKind_mono L [100, 105, 103, 105, 116] (rKind L [110, 97, 109, 101] (rMust L [115, 101, 116] st)).2
  have h4 := rMust_mono L [59] (rKind L [100, 105, 103, 105, 116] (rKind L [110, 97, 109, 101] (rMust L [115, 101, 116] st)).2).2
  show st.at_ + 1 ≤ (rMust L [59] (rKind L [100, 105, 103, 105, 116] (rKind L [110, 97, 109, 101] (rMust L [115, 101, 116] st)).2).2).at_
  omega

theorem frozen_later {w wx : World} {a : Addr} {b : Bool} (hb : Below w.heap.size w wx) (hl : a.block < w.heap.size) (h : w.frozen? a = b) : wx.frozen? a = b := (hb.frozen hl).trans h
theorem Kept.toBelow {R B : Nat} {w w' : World} (h : Kept R w w') (hB : B ≤ R) (hw : B ≤ w.heap.size) : Below B w w' :=
  ⟨h.os, h.tape, h.output, h.size, fun k hk => h.block k (by omega) (by omega)⟩

theorem owns_grown {lo base size size' e e' : Nat} {w w' : World} {u v : Value} {n m : Nat} {xs zs : List Value} (h : w.ownsRow lo e' size' u m xs) (hv : w.ownsRow base e size v n zs) (he : e' ≠ e) (hg : w.grownBy w' v.ownBlock) : w'.ownsRow lo e' size' u m xs := by
  refine h.kept hg ?_
  cases hu : u.ownBlock with
  | none => exact Or.inl rfl
  | some j =>
    refine Or.inr fun hj => ?_
    rcases h.2 with ⟨rfl, _⟩ | ⟨g, cap, cur, rfl, _, hh, _⟩
    · simp [Value.ownBlock] at hu
    · simp [Value.ownBlock] at hu
      subst hu
      exact not_row hv hh he hj

/-- Kinds as they lie in a row: a name, and a slice of members. -/
def KindsIs (lo : Nat) (w : World) : List PKind → List Value → Prop
  | [], xs => xs = []
  | k :: ks, xs => ∃ vm ys, xs = tokCells k.name ++ (vm :: ys) ∧ w.ownsRow lo 142 3 vm k.members.length (toksCells k.members) ∧ KindsIs lo w ks ys
theorem KindsIs.stay {lo : Nat} {w w' : World} (hk : ∀ k, lo ≤ k → k < w.heap.size → w'.heap[k]? = w.heap[k]?) : ∀ {ks : List PKind} {xs : List Value}, KindsIs lo w ks xs → KindsIs lo w' ks xs
  | [], _, h => h
  | k :: ks, xs, ⟨vm, ys, e, h1, h2⟩ => ⟨vm, ys, e, owns_stay hk h1, KindsIs.stay hk h2⟩
theorem KindsIs.kept {lo R : Nat} {w w' : World} {ks : List PKind} {xs : List Value} (h : KindsIs lo w ks xs) (hk : Kept R w w') (hR : R < lo) : KindsIs lo w' ks xs := h.stay fun k h1 h2 => hk.block k h2 (by omega)
theorem KindsIs.snoc {lo : Nat} {w : World} {k : PKind} {vm : Value} (hm : w.ownsRow lo 142 3 vm k.members.length (toksCells k.members)) : ∀ {ks : List PKind} {xs : List Value}, KindsIs lo w ks xs → KindsIs lo w (ks ++ [k]) (xs ++ (tokCells k.name ++ [vm]))
  | [], xs, h => by
    have : xs = [] := h
    subst this
    exact ⟨vm, [], rfl, hm, rfl⟩
  | k' :: ks, xs, ⟨v, ys, e, h1, h2⟩ => ⟨v, ys ++ (tokCells k.name ++ [vm]), by rw [e]; simp, h1, KindsIs.snoc hm h2⟩
theorem KindsIs.grown {lo base size e : Nat} {w w' : World} {v : Value} {n : Nat} {zs : List Value} (hv : w.ownsRow base e size v n zs) (he : 142 ≠ e) (hg : w.grownBy w' v.ownBlock) : ∀ {ks : List PKind} {xs : List Value}, KindsIs lo w ks xs → KindsIs lo w' ks xs
  | [], _, h => h
  | k :: ks, xs, ⟨vm, ys, e1, h1, h2⟩ => ⟨vm, ys, e1, owns_grown h1 hv he hg, KindsIs.grown hv he hg h2⟩

def rHeads (L : List Tok) (st : RS) : List PSet × List PKind × RS :=
  ((rSets (fuelM L) L [] st).1, rKinds (fuelM L) L [] (rSets (fuelM L) L [] st).2)
theorem rMembers_mono (L : List Tok) (st : RS) : st.at_ ≤ (rMembers L st).2.at_ := by
  have h : ∀ (f : Nat) (l : List Tok) (s : RS), s.at_ ≤ (rMem f L l s).2.at_ := by
    intro f
    induction f with
    | zero => intro l s; exact Nat.le_refl _
    | succ f ih =>
      intro l s
      rw [rMem]
      split
      · exact Nat.le_refl _
      · split
        · exact Nat.le_trans (Nat.le_trans (rKind_mono L _ s) (rMust_mono L [44] _)) (ih _ _)
        · exact rKind_mono L _ s
  exact Nat.le_trans (rMust_mono L [123] st) (Nat.le_trans (h _ _ _) (rMust_mono L [125] _))
theorem rKind1_prog {L : List Tok} {st : RS} (h : rNext L [107, 105, 110, 100] st = true) : st.at_ + 1 ≤ (rKind1 L st).2.at_ := by
  have h1 := next_must_at h rfl
  have h2 := rKind_mono L [110, 97, 109, 101] (rMust L [107, 105, 110, 100] st)
  have h3 := rMembers_mono L (rKind L [110, 97, 109, 101] (rMust L [107, 105, 110, 100] st)).2
  show st.at_ + 1 ≤ (rMembers L (rKind L [110, 97, 109, 101] (rMust L [107, 105, 110, 100] st)).2).2.at_
  omega

end Go.Proofs.YtpmcnonmkghokaaGreatDoor

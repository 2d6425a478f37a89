/-
  The program's parser: accept, expect, open, shut, name, digit, by its own state; and the same by the reference's state of reading: while neither is bad they agree, and once bad they stay so, at the same place.
  The program's parser: name and digit, by its own state.
  The reference's level, walked; and by induction on the fuel level and atom as rX says.
  The reference's statements, plainly: rDo, rS; and how they lie in memory.
-/
import Derived.Test.YtpmcnonmkghokaaGreatDoorT01
set_option linter.unusedVariables false
set_option linter.unusedSimpArgs false
namespace Go.Proofs.YtpmcnonmkghokaaGreatDoor
open Go.RowKit
theorem ToksOk.fin {L : List Tok} (h : ToksOk L) {i : Nat} (hi : i < L.length) (hk : ((tk L i).text.toList == []) = false) : i + 1 < L.length := by
  have hp := h.pos
  by_cases e : i + 1 < L.length
  · exact e
  · have : i = L.length - 1 := by omega
    subst this
    rw [(h.ok _ hi).fin, h.last] at hk; cases hk
theorem ToksOk.lastText {L : List Tok} (h : ToksOk L) : (tk L (L.length - 1)).text.toList = [] := by
  have hp := h.pos
  have := (h.ok (L.length - 1) (by omega)).fin
  rw [h.last, beq_iff_eq] at this
  exact this

theorem Pw.step {w : World} {P : Nat} {v : Value} {L : List Tok} {r : PR} (h : Pw w P v L r) (h1 : r.next + 1 < L.length) : Pw (w.setCell ⟨P, 1, none⟩ (.int .i64 ((r.next : Int) + 1))) P v L { r with next := r.next + 1 } :=
  h.kept (r' := { r with next := r.next + 1 }) ((Kept.refl _ _).setR _ _) (set5_1 h.pd _) h1

def isR (L : List Tok) (s : List UInt8) (r : PR) : Bool := (tk L r.next).text.toList == s
def accR (L : List Tok) (s : List UInt8) (r : PR) : PR := if isR L s r then { r with next := r.next + 1 } else r
def expR (L : List Tok) (s : List UInt8) (r : PR) : PR := if isR L s r then { r with next := r.next + 1 } else failR L r
theorem expR_depth (L : List Tok) (s : List UInt8) (r : PR) : (expR L s r).depth = r.depth := by unfold expR; split <;> rfl
def openR (L : List Tok) (s : List UInt8) (d : Int) (r : PR) : PR := if r.depth == 12 then failR L r else { expR L s r with depth := d }

set_option maxRecDepth 100000 in
set_option maxHeartbeats 1000000 in
theorem accept_any (s : ByteArray) (w : World) (P : Nat) (v : Value) (L : List Tok) (r : PR) (h : Pw w P v L r) (hs : (s.toList == []) = false) :
    Calls Tryz.prog 205 #[.pointer (some ⟨P, 0, none⟩), .string s] w fun e w' => e = .returned (.bool (isR L s.toList r)) ∧ Pw w' P v L (accR L s.toList r) ∧ Kept P w w' := by
  go_enter Tryz.func205, Tryz.ntmps205
  go_wp2_with fail
  refine (is_any s w P v L r h).mono ?_
  rintro e w1 ⟨rfl, hb⟩
  have h1 := h.below hb
  have HK := hide (Kept.of_below (R := P) hb)
  clear h hb
  rw [show ((tk L r.next).text.toList == s.toList) = isR L s.toList r from rfl]
  cases hq : isR L s.toList r
  · have HA := hide (show accR L s.toList r = r by unfold accR; rw [hq]; rfl)
    have H1 := hide h1
    clear h1
    go_wp2
    go_ret
    rw [unhide HA]
    exact ⟨ret_bool hq.symm, unhide H1, unhide HK⟩
  · have hlt : r.next + 1 < L.length := h1.ok.fin h1.lt (by unfold isR at hq; rw [beq_iff_eq] at hq; rw [hq]; exact hs)
    have hlen := h1.ok.len
    have HA := hide (show accR L s.toList r = { r with next := r.next + 1 } by unfold accR; rw [hq]; rfl)
    obtain ⟨c0, c1, c2, c3, c4, f1, f2, f3, f4⟩ := prow5 h1.pd
    have H1 := hide h1
    clear h1
    go_wp2
    go_ret
    rw [unhide HA]
    exact ⟨ret_bool hq.symm, (unhide H1).step hlt, (unhide HK).trans ((Kept.refl _ _).setR _ _)⟩

set_option maxRecDepth 100000 in
set_option maxHeartbeats 1000000 in
theorem expect_any (s : ByteArray) (w : World) (P : Nat) (v : Value) (L : List Tok) (r : PR) (h : Pw w P v L r) (hs : (s.toList == []) = false) :
    Calls Tryz.prog 201 #[.pointer (some ⟨P, 0, none⟩), .string s] w fun e w' => e = .returned (.tuple #[]) ∧ Pw w' P v L (expR L s.toList r) ∧ Kept P w w' := by
  go_enter Tryz.func201, Tryz.ntmps201
  go_wp2_with fail
  refine (accept_any s w P v L r h hs).mono ?_
  rintro e w1 ⟨rfl, h1, hk⟩
  have HK := hide hk
  clear h hk
  cases hq : isR L s.toList r
  · have HA := hide (show expR L s.toList r = failR L r by unfold expR; rw [hq]; rfl)
    rw [show accR L s.toList r = r by unfold accR; rw [hq]; rfl] at h1
    have H1 := hide h1
    clear h1
    go_wp2_with fail
    refine (fail_any _ P v L _ (unhide H1)).mono ?_
    rintro e w2 ⟨rfl, h2, hk2⟩
    have H2 := hide h2
    have HK2 := hide hk2
    clear h2 hk2
    go_wp2
    go_end0
    rw [unhide HA]
    exact ⟨rfl, unhide H2, (unhide HK).trans (unhide HK2)⟩
  · have HA := hide (show expR L s.toList r = { r with next := r.next + 1 } by unfold expR; rw [hq]; rfl)
    rw [show accR L s.toList r = { r with next := r.next + 1 } by unfold accR; rw [hq]; rfl] at h1
    have H1 := hide h1
    clear h1
    go_wp2
    go_end0
    rw [unhide HA]
    exact ⟨rfl, unhide H1, unhide HK⟩

theorem Pw.setDepth {w : World} {P : Nat} {v : Value} {L : List Tok} {r : PR} (h : Pw w P v L r) (d : Int) : Pw (w.setCell ⟨P, 2, none⟩ (.int .i64 d)) P v L { r with depth := d } :=
  h.kept (r' := { r with depth := d }) ((Kept.refl _ _).setR _ _) (set5_2 h.pd _) h.lt

set_option maxRecDepth 100000 in
set_option maxHeartbeats 1000000 in
theorem open_any (s : ByteArray) (w : World) (P : Nat) (v : Value) (L : List Tok) (r : PR) (h : Pw w P v L r) (hs : (s.toList == []) = false) :
    Calls Tryz.prog 204 #[.pointer (some ⟨P, 0, none⟩), .string s] w fun e w' => e = .returned (.tuple #[]) ∧
      (∃ d, Pw w' P v L (openR L s.toList d r) ∧ (-1000 ≤ r.depth → r.depth ≤ 1000 → d = r.depth + 1)) ∧ Kept P w w' := by
  obtain ⟨c0, c1, c2, c3, c4, f1, f2, f3, f4⟩ := prow5 h.pd
  cases h12 : (r.depth == 12)
  · have H := hide h
    clear h
    go_enter Tryz.func204, Tryz.ntmps204
    go_wp2_with fail
    refine (expect_any s w P v L r (unhide H) hs).mono ?_
    rintro e w1 ⟨rfl, h1, hk⟩
    have hd := expR_depth L s.toList r
    have h1' : Pw w1 P v L (expR L s.toList r) := h1
    have HO := hide (show ∀ d, openR L s.toList d r = { expR L s.toList r with depth := d } from fun d => by unfold openR; rw [h12]; rfl)
    clear c0 c1 c2 c3 c4 f1 f2 f3 f4 H h1
    obtain ⟨c0, c1, c2, c3, c4, f1, f2, f3, f4⟩ := prow5 h1'.pd
    have H1 := hide h1'
    have HK := hide hk
    rw [hd] at c2
    have HD := hide hd
    clear h1' hk hd
    by_cases hb : -1000 ≤ r.depth ∧ r.depth ≤ 1000
    · go_wp2
      go_end0
      exact ⟨rfl, ⟨r.depth + 1, by rw [unhide HO]; exact (unhide H1).setDepth _, fun _ _ => rfl⟩, (unhide HK).trans ((Kept.refl _ _).setR _ _)⟩
    · go_wp2
      go_end0
      exact ⟨rfl, ⟨_, by rw [unhide HO]; exact (unhide H1).setDepth _, fun x y => absurd ⟨x, y⟩ hb⟩, (unhide HK).trans ((Kept.refl _ _).setR _ _)⟩
  · have H := hide h
    clear h
    go_enter Tryz.func204, Tryz.ntmps204
    go_wp2_with fail
    refine (fail_any _ P v L _ (unhide H)).mono ?_
    rintro e w2 ⟨rfl, h2, hk2⟩
    have H2 := hide h2
    have HK2 := hide hk2
    clear h2 hk2
    go_wp2
    refine bodyPost_ret (v := .tuple #[]) (by simp [results, Tryz.results204]) rfl ?_
    exact ⟨rfl, ⟨r.depth + 1, by rw [show openR L s.toList (r.depth + 1) r = failR L r by unfold openR; rw [h12]; rfl]; exact unhide H2, fun _ _ => rfl⟩, unhide HK2⟩

set_option maxRecDepth 100000 in
set_option maxHeartbeats 1000000 in
theorem shut_any (s : ByteArray) (w : World) (P : Nat) (v : Value) (L : List Tok) (r : PR) (h : Pw w P v L r) (hs : (s.toList == []) = false) :
    Calls Tryz.prog 206 #[.pointer (some ⟨P, 0, none⟩), .string s] w fun e w' => e = .returned (.tuple #[]) ∧
      (∃ d, Pw w' P v L { expR L s.toList r with depth := d } ∧ (-1000 ≤ r.depth → r.depth ≤ 1000 → d = r.depth - 1)) ∧ Kept P w w' := by
  go_enter Tryz.func206, Tryz.ntmps206
  go_wp2_with fail
  refine (expect_any s w P v L r h hs).mono ?_
  rintro e w1 ⟨rfl, h1, hk⟩
  have hd := expR_depth L s.toList r
  have h1' : Pw w1 P v L (expR L s.toList r) := h1
  clear h h1
  obtain ⟨c0, c1, c2, c3, c4, f1, f2, f3, f4⟩ := prow5 h1'.pd
  have H1 := hide h1'
  have HK := hide hk
  rw [hd] at c2
  have HD := hide hd
  clear h1' hk hd
  by_cases hb : -1000 ≤ r.depth ∧ r.depth ≤ 1000
  · go_wp2
    go_end0
    exact ⟨rfl, ⟨_, (unhide H1).setDepth _, fun _ _ => rfl⟩, (unhide HK).trans ((Kept.refl _ _).setR _ _)⟩
  · go_wp2
    go_end0
    exact ⟨rfl, ⟨_, (unhide H1).setDepth _, fun x y => absurd ⟨x, y⟩ hb⟩, (unhide HK).trans ((Kept.refl _ _).setR _ _)⟩

end Go.Proofs.YtpmcnonmkghokaaGreatDoor
namespace Go.Proofs.YtpmcnonmkghokaaGreatDoor
open Go.RowKit
def nameB (L : List Tok) (r : PR) : Bool := letB (tk L r.next).text 0 && !resB (tk L r.next).text
def nameT (L : List Tok) (r : PR) : Tok := if nameB L r then tk L r.next else noTok
def nameR (L : List Tok) (r : PR) : PR := if nameB L r then { r with next := r.next + 1 } else failR L r
def digR (L : List Tok) (r : PR) : PR := if digB (tk L r.next).text 0 then { r with next := r.next + 1 } else failR L r
def digT (L : List Tok) (r : PR) : Tok := if digB (tk L r.next).text 0 then tk L r.next else noTok
def dgV (t : Tok) : Value := .agg #[.int .i64 (digV t.text), .int .i64 t.at_]

theorem row2 {w : World} {b : Nat} {x y : Value} {t : TypeId} (h : w.heap[b]? = some (.cells #[x, y] t (0, 0))) :
    w.cell? ⟨b, 0, none⟩ = some x ∧ w.cell? ⟨b, 1, none⟩ = some y ∧ w.frozen? ⟨b, 0, none⟩ = false ∧ w.frozen? ⟨b, 1, none⟩ = false :=
  ⟨by rw [cell_of_row w b 0 _ _ _ h]; rfl, by rw [cell_of_row w b 1 _ _ _ h]; rfl, frozen_of_row w b 0 _ _ h, frozen_of_row w b 1 _ _ h⟩
theorem set2 {w : World} {b : Nat} {x y : Value} {t : TypeId} (h : w.heap[b]? = some (.cells #[x, y] t (0, 0))) (m n : Value) : ((w.setCell ⟨b, 0, none⟩ m).setCell ⟨b, 1, none⟩ n).heap[b]? = some (.cells #[m, n] t (0, 0)) :=
  heap_setCell_same _ b 1 _ _ _ (heap_setCell_same w b 0 _ _ _ h)

theorem letB_full {b : ByteArray} (h : inB 97 122 b 0 = true ∨ inB 48 57 b 0 = true) : (b.toList == []) = false := by
  cases hb : (b.toList == [])
  · rfl
  · have := toList_empty hb
    rcases h with h | h <;> (rw [inB_no this] at h; cases h)

theorem Pw.setOther {w : World} {P : Nat} {v : Value} {L : List Tok} {r : PR} {B : Nat} (h : Pw w P v L r) (hB : ∀ g, v.ownBlock = some g → g < B) (hP : P < B) {p : Addr} (hp : B ≤ p.block) (u : Value) : Pw (w.setCell p u) P v L r := by
  refine ⟨by rw [Below.heap_setCell _ _ _ _ (by omega)]; exact h.pd, ?_, h.ne, h.ok, h.lt⟩
  exact ownsRow_setCell_other h.own (fun e => by have := hB _ e; omega) u

set_option maxRecDepth 100000 in
set_option maxHeartbeats 1000000 in
theorem name_any (w : World) (P : Nat) (v : Value) (L : List Tok) (r : PR) (h : Pw w P v L r) :
    Calls Tryz.prog 202 #[.pointer (some ⟨P, 0, none⟩)] w fun e w' => e = .returned (ptV (nameT L r)) ∧ Pw w' P v L (nameR L r) ∧ Kept P w w' := by
  have hX : P < w.heap.size := lt_of_block h.pd
  have HV := hide (own_lt h.own)
  have hlen := h.ok.len
  go_enter Tryz.func202, Tryz.ntmps202
  go_wp2_with fail
  refine (peek_any _ P v L r (h.below (below_alloc1 _ _))).mono ?_
  rintro e w1 ⟨rfl, hb⟩
  have h1 : Pw w1 P v L r := h.below ((below_alloc1 w _).trans (hb.mono (by simp)))
  have hk1 : Kept P w w1 := .of_below ((below_alloc1 w _).trans (hb.mono (by simp)))
  have hx1 := (hb.block w.heap.size (by simp)).trans (heap_alloc_new _ _)
  have hs1 := lt_of_block hx1
  have H1 := hide h1
  have HK1 := hide hk1
  have HX1 := hide hx1
  have hpos := h1.ok.fin h1.lt
  have HN := hide (show nameT L r = if nameB L r then tk L r.next else noTok from rfl)
  have HR := hide (show nameR L r = if nameB L r then { r with next := r.next + 1 } else failR L r from rfl)
  clear h h1 hb hk1 hx1
  unfold ptV
  go_wp2_with fail
  refine (isName_any (tk L r.next) _).mono ?_
  rintro e w2 ⟨rfl, hb2⟩
  have hlt2 : nameB L r = true → r.next + 1 < L.length := fun hn => hpos (letB_full (Or.inl (by unfold nameB at hn; rw [Bool.and_eq_true] at hn; exact hn.1)))
  rw [show (letB (tk L r.next).text 0 && !resB (tk L r.next).text) = nameB L r from rfl]
  have hx2 := (hb2.block w.heap.size (by simp; omega)).trans ((Below.heap_alloc w1 _ _ hs1).trans (unhide HX1))
  have ht2 := (hb2.block w1.heap.size (by simp)).trans (heap_alloc_new _ _)
  have h2 : Pw w2 P v L r := (unhide H1).below ((below_alloc1 w1 _).trans (hb2.mono (by simp)))
  have hk2 : Kept P w w2 := (unhide HK1).trans (.of_below ((below_alloc1 w1 _).trans (hb2.mono (by simp))))
  have hsz2 := hb2.size
  simp only [World.size_alloc] at hsz2
  have HK2 := hide hk2
  clear hb2 hk2 HX1 H1 HK1 hpos
  cases hn : nameB L r
  · rw [hn] at HN HR
    have H2 := hide h2
    have HX2 := hide hx2
    clear h2 hx2 ht2
    go_wp2_with fail
    refine (fail_any _ P v L _ (unhide H2)).mono ?_
    rintro e w3 ⟨rfl, h3, hk3⟩
    have hx3 := (hk3.block w.heap.size (lt_of_block (unhide HX2)) (by omega)).trans (unhide HX2)
    obtain ⟨d0, d1, e0, e1⟩ := row2 hx3
    have H3 := hide h3
    have HX3 := hide hx3
    have HK3 := hide ((unhide HK2).trans hk3)
    clear h3 hk3 hx3
    go_wp2
    refine bodyPost_ret (v := ptV noTok) (results_cell_row Tryz.results202 _ _ w.heap.size _ _ _ _ rfl (set2 (unhide HX3) _ _) Tryz.underlying107 rfl (by kernel_rfl)) rfl ?_
    rw [unhide HN, unhide HR]
    exact ⟨rfl, ((unhide H3).setOther (unhide HV) hX (by simp) _).setOther (unhide HV) hX (by simp) _, ((unhide HK3).setNew (by simp) _).setNew (by simp) _⟩
  · rw [hn] at HN HR
    have hlt := hlt2 hn
    obtain ⟨c0, c1, c2, c3, c4, f1, f2, f3, f4⟩ := prow5 h2.pd
    obtain ⟨d0, d1, e0, e1⟩ := row2 hx2
    obtain ⟨g0, g1, _, _⟩ := row2 ht2
    have H2 := hide h2
    have HX2 := hide (hx2)
    clear h2 hx2 ht2
    generalize tk L r.next = t at *
    go_wp2
    refine bodyPost_ret (v := ptV t) (results_cell_row Tryz.results202 _ _ w.heap.size _ _ _ _ rfl (set2 (by rw [Below.heap_setCell _ _ _ _ (by simp; omega)]; exact unhide HX2) _ _) Tryz.underlying107 rfl (by kernel_rfl)) rfl ?_
    rw [unhide HN, unhide HR]
    exact ⟨rfl, (((unhide H2).step hlt).setOther (unhide HV) hX (by simp) _).setOther (unhide HV) hX (by simp) _, (((unhide HK2).setR _ _).setNew (by simp) _).setNew (by simp) _⟩

theorem digB_byte {b : ByteArray} (h : digB b 0 = true) : ∃ hp : 0 < b.size, 48 ≤ ((b[0]'hp).toNat : Int) ∧ ((b[0]'hp).toNat : Int) ≤ 57 := by
  unfold digB inB at h
  by_cases hp : 0 < b.size
  · rw [dif_pos hp] at h
    simp at h
    exact ⟨hp, by omega, by omega⟩
  · rw [dif_neg hp] at h; cases h

set_option maxRecDepth 100000 in
set_option maxHeartbeats 1000000 in
theorem pdigit_any (w : World) (P : Nat) (v : Value) (L : List Tok) (r : PR) (h : Pw w P v L r) :
    Calls Tryz.prog 203 #[.pointer (some ⟨P, 0, none⟩)] w fun e w' => e = .returned (dgV (digT L r)) ∧ Pw w' P v L (digR L r) ∧ Kept P w w' := by
  have hX : P < w.heap.size := lt_of_block h.pd
  have HV := hide (own_lt h.own)
  have hlen := h.ok.len
  go_enter Tryz.func203, Tryz.ntmps203
  go_wp2_with fail
  refine (peek_any _ P v L r (h.below (below_alloc1 _ _))).mono ?_
  rintro e w1 ⟨rfl, hb⟩
  have h1 : Pw w1 P v L r := h.below ((below_alloc1 w _).trans (hb.mono (by simp)))
  have hk1 : Kept P w w1 := .of_below ((below_alloc1 w _).trans (hb.mono (by simp)))
  have hx1 := (hb.block w.heap.size (by simp)).trans (heap_alloc_new _ _)
  have hs1 := lt_of_block hx1
  have H1 := hide h1
  have HK1 := hide hk1
  have HX1 := hide hx1
  have hpos := h1.ok.fin h1.lt
  have HN := hide (show digT L r = if digB (tk L r.next).text 0 then tk L r.next else noTok from rfl)
  have HR := hide (show digR L r = if digB (tk L r.next).text 0 then { r with next := r.next + 1 } else failR L r from rfl)
  clear h h1 hb hk1 hx1
  unfold ptV
  go_wp2_with fail
  refine (tokDigit_any (tk L r.next) _).mono ?_
  rintro e w2 ⟨rfl, hb2⟩
  have hlt2 : digB (tk L r.next).text 0 = true → r.next + 1 < L.length := fun hn => hpos (letB_full (Or.inr hn))
  have hx2 := (hb2.block w.heap.size (by simp; omega)).trans ((Below.heap_alloc w1 _ _ hs1).trans (unhide HX1))
  have ht2 := (hb2.block w1.heap.size (by simp)).trans (heap_alloc_new _ _)
  have h2 : Pw w2 P v L r := (unhide H1).below ((below_alloc1 w1 _).trans (hb2.mono (by simp)))
  have hk2 : Kept P w w2 := (unhide HK1).trans (.of_below ((below_alloc1 w1 _).trans (hb2.mono (by simp))))
  have hsz2 := hb2.size
  simp only [World.size_alloc] at hsz2
  have HK2 := hide hk2
  clear hb2 hk2 HX1 H1 HK1 hpos
  cases hn : digB (tk L r.next).text 0
  · rw [hn] at HN HR
    have H2 := hide h2
    have HX2 := hide hx2
    clear h2 hx2 ht2
    go_wp2_with fail
    refine (fail_any _ P v L _ (unhide H2)).mono ?_
    rintro e w3 ⟨rfl, h3, hk3⟩
    have hx3 := (hk3.block w.heap.size (lt_of_block (unhide HX2)) (by omega)).trans (unhide HX2)
    obtain ⟨d0, d1, e0, e1⟩ := row2 hx3
    have H3 := hide h3
    have HX3 := hide hx3
    have HK3 := hide ((unhide HK2).trans hk3)
    clear h3 hk3 hx3
    go_wp2
    refine bodyPost_ret (v := dgV noTok) (results_cell_row Tryz.results203 _ _ w.heap.size _ _ _ _ rfl (set2 (unhide HX3) _ _) Tryz.underlying109 rfl (by kernel_rfl)) rfl ?_
    rw [unhide HN, unhide HR]
    exact ⟨rfl, ((unhide H3).setOther (unhide HV) hX (by simp) _).setOther (unhide HV) hX (by simp) _, ((unhide HK3).setNew (by simp) _).setNew (by simp) _⟩
  · rw [hn] at HN HR
    have hlt := hlt2 hn
    obtain ⟨hp0, hp1, hp2⟩ := digB_byte hn
    have HD := hide (show digV (tk L r.next).text = (((tk L r.next).text[0]'hp0).toNat : Int) - 48 by simp [digV, hp0])
    obtain ⟨c0, c1, c2, c3, c4, f1, f2, f3, f4⟩ := prow5 h2.pd
    obtain ⟨d0, d1, e0, e1⟩ := row2 hx2
    obtain ⟨g0, g1, _, _⟩ := row2 ht2
    have H2 := hide h2
    have HX2 := hide (hx2)
    have hx2' := hx2
    have hw1 := lt_of_block ht2
    clear h2 hx2 ht2
    have hgs := lt_of_block hx2'
    generalize tk L r.next = t at *
    go_wp2
    go_region
    go_wp2
    have hfin : (((w2.setCell ⟨P, 1, none⟩ (.int .i64 ((r.next : Int) + 1))).setCell ⟨w.heap.size, 0, none⟩ (.int .i64 (((t.text[0]'hp0).toNat : Int) - 48))).setCell ⟨w.heap.size, 1, none⟩ (.int .i64 (t.at_ : Int))).drew.heap[w.heap.size]? =
        some (.cells #[.int .i64 (((t.text[0]'hp0).toNat : Int) - 48), .int .i64 (t.at_ : Int)] 109 (0, 0)) :=
      set2 (w := w2.setCell ⟨P, 1, none⟩ (.int .i64 ((r.next : Int) + 1))) (by rw [Below.heap_setCell _ _ _ _ (by simp; omega)]; exact unhide HX2) _ _
    refine bodyPost_ret (v := .agg #[.int .i64 (((t.text[0]'hp0).toNat : Int) - 48), .int .i64 (t.at_ : Int)]) (results_cell_row Tryz.results203 _ _ w.heap.size _ _ _ _ rfl hfin Tryz.underlying109 rfl (by kernel_rfl)) rfl ?_
    rw [unhide HN, unhide HR]
    refine ⟨?_, ((((unhide H2).step hlt).setOther (unhide HV) hX (by simp) _).setOther (unhide HV) hX (by simp) _).below ((Below.refl _ _).drew), ((((unhide HK2).setR _ _).setNew (by simp) _).setNew (by simp) _).drew⟩
    simp only [if_true]
    unfold dgV
    rw [unhide HD]

end Go.Proofs.YtpmcnonmkghokaaGreatDoor
namespace Go.Proofs.YtpmcnonmkghokaaGreatDoor
open Go.RowKit
def atOf (w : World) (R : Nat) : Nat := match w.cell? ⟨R, 1, none⟩ with
  | some v => (intOf v).toNat
  | none => 0
def bOf : Value → Nat
  | .bool true => 1
  | _ => 0
theorem Rd.atOf {w : World} {R : Nat} {v : Value} {L : List Tok} {st : RS} (h : Rd w R v L st) : Go.Proofs.YtpmcnonmkghokaaGreatDoor.atOf w R = st.at_ := by
  obtain ⟨c0, c1, c2, c3, _⟩ := row4 h.rd
  simp [Go.Proofs.YtpmcnonmkghokaaGreatDoor.atOf, c1, intOf]

theorem heap_alloc_new' (w : World) (o : Obj) (b : Nat) (h : w.heap.size = b) : (w.alloc o).heap[b]? = some o := by subst h; exact heap_alloc_new w o

/-- The signs of the levels, as level lays them. -/
def Signs (w : World) (B : Nat) : Prop :=
  w.heap[B]? = some (.cells #[.string ⟨#[124]⟩] 9 (0, 0)) ∧ w.heap[B + 1]? = some (.cells #[.string ⟨#[38]⟩] 9 (0, 0)) ∧
  w.heap[B + 1 + 1]? = some (.cells #[.string ⟨#[61, 61]⟩, .string ⟨#[33, 61]⟩, .string ⟨#[60]⟩] 9 (0, 0)) ∧ w.heap[B + 1 + 1 + 1]? = some (.cells #[.string ⟨#[43]⟩, .string ⟨#[45]⟩] 9 (0, 0)) ∧
  w.heap[B + 1 + 1 + 1 + 1]? = some (.cells #[.slice (some ⟨B, 0, none⟩) 1 1, .slice (some ⟨B + 1, 0, none⟩) 1 1, .slice (some ⟨B + 1 + 1, 0, none⟩) 3 3, .slice (some ⟨B + 1 + 1 + 1, 0, none⟩) 2 2] 22 (0, 0))

theorem Signs.kept {R B : Nat} {w w' : World} (h : Signs w B) (hR : R < B) (hk : Kept R w w') : Signs w' B := by
  obtain ⟨h0, h1, h2, h3, h4⟩ := h
  exact ⟨by rw [hk.block _ (lt_of_block h0) (by omega)]; exact h0, by rw [hk.block _ (lt_of_block h1) (by omega)]; exact h1, by rw [hk.block _ (lt_of_block h2) (by omega)]; exact h2,
    by rw [hk.block _ (lt_of_block h3) (by omega)]; exact h3, by rw [hk.block _ (lt_of_block h4) (by omega)]; exact h4⟩

theorem Signs.at {B : Nat} {w : World} (h : Signs w B) (n : Nat) (hn : n < 4) : ∃ k, B ≤ k ∧ w.cell? ⟨B + 1 + 1 + 1 + 1, n, none⟩ = some (.slice (some ⟨k, 0, none⟩) (binSigns n).length (binSigns n).length) ∧
    ∀ i, i < (binSigns n).length → w.cell? ⟨k, 0 + i, none⟩ = some (.string ((binSigns n).getD i ByteArray.empty)) := by
  obtain ⟨h0, h1, h2, h3, h4⟩ := h
  have hn' : n = 0 ∨ n = 1 ∨ n = 2 ∨ n = 3 := by omega
  rcases hn' with rfl | rfl | rfl | rfl
  · refine ⟨B, Nat.le_refl _, by rw [cell_of_row _ _ _ _ _ _ h4]; rfl, fun i hi => ?_⟩
    have : i = 0 := by simp [binSigns] at hi; omega
    subst this; rw [cell_of_row _ _ _ _ _ _ h0]; rfl
  · refine ⟨B + 1, by omega, by rw [cell_of_row _ _ _ _ _ _ h4]; rfl, fun i hi => ?_⟩
    have : i = 0 := by simp [binSigns] at hi; omega
    subst this; rw [cell_of_row _ _ _ _ _ _ h1]; rfl
  · refine ⟨B + 1 + 1, by omega, by rw [cell_of_row _ _ _ _ _ _ h4]; rfl, fun i hi => ?_⟩
    have : i = 0 ∨ i = 1 ∨ i = 2 := by simp [binSigns] at hi; omega
    rcases this with rfl | rfl | rfl <;> (rw [cell_of_row _ _ _ _ _ _ h2]; rfl)
  · refine ⟨B + 1 + 1 + 1, by omega, by rw [cell_of_row _ _ _ _ _ _ h4]; rfl, fun i hi => ?_⟩
    have : i = 0 ∨ i = 1 := by simp [binSigns] at hi; omega
    rcases this with rfl | rfl <;> (rw [cell_of_row _ _ _ _ _ _ h3]; rfl)

theorem rX_level (f n : Nat) (x : PX) (L : List Tok) (st : RS) (hn : n < 4) : rX (f + 1) n x L st = if st.bad then (emptyX, st) else rX f (10 + n) (rX f (n + 1) .nil L st).1 L (rX f (n + 1) .nil L st).2 := by
  rw [rX, if_pos hn]
theorem rX_four (f : Nat) (x : PX) (L : List Tok) (st : RS) : rX (f + 1) 4 x L st = if st.bad then (emptyX, st) else rX f (20 + 0) .nil L st := by
  rw [rX, if_neg (by omega), if_pos (by omega)]
theorem rX_loop (f n : Nat) (x : PX) (L : List Tok) (st : RS) (hn : n < 4) : rX (f + 1) (10 + n) x L st =
    if st.bad then (x, st)
    else if isBin n (tk L st.at_) then
      if n = 2 then (opX (tk L st.at_).text x (rX f (n + 1) .nil L { st with at_ := st.at_ + 1 }).1, (rX f (n + 1) .nil L { st with at_ := st.at_ + 1 }).2)
      else rX f (10 + n) (opX (tk L st.at_).text x (rX f (n + 1) .nil L { st with at_ := st.at_ + 1 }).1) L (rX f (n + 1) .nil L { st with at_ := st.at_ + 1 }).2
    else (x, st) := by
  rw [rX, if_neg (by omega), if_neg (by omega), if_pos (by omega), show 10 + n - 10 = n by omega, show 10 + n - 9 = n + 1 by omega]
  simp only [show (10 + n = 12) = (n = 2) from by simp; omega]

theorem need_ok {L : List Tok} {c : Nat} {st : RS} (hb : st.bad = false) : need L c st = 8 * (L.length - st.at_) + c := by simp [need, hb]
theorem need_bad {L : List Tok} {c : Nat} {st : RS} (hb : st.bad = true) : need L c st = 1 := by simp [need, hb]
theorem need_le {L : List Tok} {c : Nat} {st : RS} {k : Nat} (h : 8 * (L.length - st.at_) + c ≤ k) (hk : 1 ≤ k) : need L c st ≤ k := by
  unfold need; split
  · exact hk
  · exact h

theorem signs_laid (w : World) : Signs (((((w.alloc (.cells #[.string ⟨#[124]⟩] 9)).alloc (.cells #[.string ⟨#[38]⟩] 9)).alloc (.cells #[.string ⟨#[61, 61]⟩, .string ⟨#[33, 61]⟩, .string ⟨#[60]⟩] 9)).alloc (.cells #[.string ⟨#[43]⟩, .string ⟨#[45]⟩] 9)).alloc
    (.cells #[.slice (some ⟨w.heap.size, 0, none⟩) 1 1, .slice (some ⟨w.heap.size + 1, 0, none⟩) 1 1, .slice (some ⟨w.heap.size + 1 + 1, 0, none⟩) 3 3, .slice (some ⟨w.heap.size + 1 + 1 + 1, 0, none⟩) 2 2] 22)) w.heap.size := by
  refine ⟨?_, ?_, ?_, ?_, ?_⟩
  · rw [Below.heap_alloc _ _ _ (by simp; omega), Below.heap_alloc _ _ _ (by simp; omega), Below.heap_alloc _ _ _ (by simp; omega), Below.heap_alloc _ _ _ (by simp), heap_alloc_new]
  · rw [Below.heap_alloc _ _ _ (by simp), Below.heap_alloc _ _ _ (by simp), Below.heap_alloc _ _ _ (by simp)]
    exact heap_alloc_new' _ _ _ (by simp)
  · rw [Below.heap_alloc _ _ _ (by simp), Below.heap_alloc _ _ _ (by simp)]
    exact heap_alloc_new' _ _ _ (by simp)
  · rw [Below.heap_alloc _ _ _ (by simp)]
    exact heap_alloc_new' _ _ _ (by simp)
  · exact heap_alloc_new' _ _ _ (by simp)
theorem kept_alloc5 (R : Nat) (w : World) (a b c d e : Obj) : Kept R w (((((w.alloc a).alloc b).alloc c).alloc d).alloc e) := (((((Kept.refl _ _).alloc _).alloc _).alloc _).alloc _).alloc _
theorem below_alloc5 (w : World) (a b c d e : Obj) : Below w.heap.size w (((((w.alloc a).alloc b).alloc c).alloc d).alloc e) :=
  (((((Below.refl _ _).alloc (Nat.le_refl _) _).alloc (by simp) _).alloc (by simp; omega) _).alloc (by simp; omega) _).alloc (by simp; omega) _

/-- What holds at the head of a round of level. -/
def LvRel (f lo R : Nat) (v : Value) (L : List Tok) (n : Nat) (w0 : World) (fin : PX × RS) (p m : Value) (wr : World) : Prop :=
  ∃ (x : PX) (st : RS) (g : Nat) (b : Bool), m = .bool b ∧ NodeIs lo wr x p ∧ Rd wr R v L st ∧ Kept R w0 wr ∧ (b = true → rX g (10 + n) x L st = fin ∧ need L 1 st ≤ g ∧ g ≤ f) ∧ (b = false → (x, st) = fin)

theorem quiet_one {P : Program} {f : FuncId} {args : Array Value} {w : World} {n : Nat} {v : Value}
    (h : Calls P f args (w.drewN (1 + n)) fun e w' => e = .returned v ∧ w' = w.drewN (1 + n)) : Calls P f args (w.drewN (1 + n)) fun e w'' => e = .returned v ∧ ∃ m, w'' = w.drewN (1 + m) :=
  h.mono fun _ _ ⟨he, hm⟩ => ⟨he, n, hm⟩

set_option maxRecDepth 100000 in
set_option maxHeartbeats 4000000 in
theorem level_step (f : Nat) (hL : ∀ g, g ≤ f → LevelSaid g) (hA : AtomSaid f) : LevelSaid (f + 1) := by
  intro n w R v L st hn h hD hf
  obtain ⟨c0, c1, c2, c3, f0, f1, f2, f3⟩ := row4 h.rd
  have hlt := h.lt
  have hlen := h.len
  have H := hide h
  have hR := lt_of_block h.rd
  clear h
  cases hb : st.bad
  · rw [hb] at c3
    by_cases h4 : n = 4
    · subst h4
      have HX := hide (rX_four f .nil L st)
      rw [hb] at HX
      have hnd : need L 2 st ≤ f := by rw [need_ok hb] at *; omega
      go_enter Tryz.func108, Tryz.ntmps108
      go_wp2_with fail
      refine (hA 0 _ R v L st (by omega) (unhide H) hD hnd).mono ?_
      rintro e w1 ⟨q, rfl, hq, h1, hk1⟩
      have HQ := hide hq
      have H1 := hide h1
      have HK := hide hk1
      clear hq h1 hk1
      go_wp2
      go_ret
      rw [unhide HX]
      exact ⟨_, rfl, unhide HQ, unhide H1, unhide HK⟩
    · have hn4 : n < 4 := by omega
      have h4' : ((n : Int) == 4) = false := by simp; omega
      have HX := hide (rX_level f n .nil L st hn4)
      rw [hb] at HX
      have hnd : need L (7 - (n + 1)) st ≤ f := by rw [need_ok hb] at *; omega
      have hf1 : 8 * (L.length - st.at_) + 1 ≤ f ∧ 1 ≤ f := by rw [need_ok hb] at hf; omega
      go_enter Tryz.func108, Tryz.ntmps108
      go_wp2_with fail
      have hSg := signs_laid w
      have hK0 := kept_alloc5 R w (.cells #[.string ⟨#[124]⟩] 9) (.cells #[.string ⟨#[38]⟩] 9) (.cells #[.string ⟨#[61, 61]⟩, .string ⟨#[33, 61]⟩, .string ⟨#[60]⟩] 9) (.cells #[.string ⟨#[43]⟩, .string ⟨#[45]⟩] 9) (.cells #[.slice (some ⟨w.heap.size, 0, none⟩) 1 1, .slice (some ⟨w.heap.size + 1, 0, none⟩) 1 1, .slice (some ⟨w.heap.size + 1 + 1, 0, none⟩) 3 3, .slice (some ⟨w.heap.size + 1 + 1 + 1, 0, none⟩) 2 2] 22)
      have h0 := (unhide H).below (below_alloc5 w (.cells #[.string ⟨#[124]⟩] 9) (.cells #[.string ⟨#[38]⟩] 9) (.cells #[.string ⟨#[61, 61]⟩, .string ⟨#[33, 61]⟩, .string ⟨#[60]⟩] 9) (.cells #[.string ⟨#[43]⟩, .string ⟨#[45]⟩] 9) (.cells #[.slice (some ⟨w.heap.size, 0, none⟩) 1 1, .slice (some ⟨w.heap.size + 1, 0, none⟩) 1 1, .slice (some ⟨w.heap.size + 1 + 1, 0, none⟩) 3 3, .slice (some ⟨w.heap.size + 1 + 1 + 1, 0, none⟩) 2 2] 22))
      generalize (((((w.alloc (.cells #[.string ⟨#[124]⟩] 9)).alloc (.cells #[.string ⟨#[38]⟩] 9)).alloc (.cells #[.string ⟨#[61, 61]⟩, .string ⟨#[33, 61]⟩, .string ⟨#[60]⟩] 9)).alloc (.cells #[.string ⟨#[43]⟩, .string ⟨#[45]⟩] 9)).alloc
    (.cells #[.slice (some ⟨w.heap.size, 0, none⟩) 1 1, .slice (some ⟨w.heap.size + 1, 0, none⟩) 1 1, .slice (some ⟨w.heap.size + 1 + 1, 0, none⟩) 3 3, .slice (some ⟨w.heap.size + 1 + 1 + 1, 0, none⟩) 2 2] 22)) = w0 at hSg hK0 h0 ⊢
      have HS := hide hSg
      have HK0 := hide hK0
      refine (hL f (Nat.le_refl _) (n + 1) w0 R v L st (by omega) h0 hD hnd).mono ?_
      rintro e w1 ⟨q, rfl, hq, h1, hk1⟩
      have hR1 : LvRel f w.heap.size R v L n w0 (rX (f + 1) n .nil L st) q (.bool true) w1 :=
        ⟨(rX f (n + 1) .nil L st).1, (rX f (n + 1) .nil L st).2, f, true, rfl, hq.mono (unhide HK0).size, h1, hk1, fun _ => ⟨(unhide HX).symm, need_le (by have := rX_mono f (n + 1) .nil L st; omega) hf1.2, Nat.le_refl _⟩, fun h => by cases h⟩
      have HR1 := hide hR1
      obtain ⟨q, rfl⟩ := hq.ptr
      clear hSg hK0 h0 hq h1 hk1 hR1 c0 c1 c2 c3 f0 f1 f2 f3
      go_wp2_with fail
      go_loopw [6, 7] (fun p m wr => LvRel f w.heap.size R v L n w0 (rX (f + 1) n .nil L st) p m wr) (fun _ m wr => 2 * (L.length - atOf wr R) + bOf m)
      case atStart => exact unhide HR1
      case round =>
        obtain ⟨x, st2, g, b, rfl, hq, h2, hk2, hT, hF⟩ := hrel
        obtain ⟨q2, rfl⟩ := hq.ptr
        have HQ := hide hq
        have H2 := hide h2
        have HK2 := hide ((unhide HK0).trans hk2)
        have HK0' := hide hk2
        have HS2 := hide ((unhide HS).kept hR hk2)
        have hlt2 := h2.lt
        have hR2 := lt_of_block h2.rd
        obtain ⟨c0, c1, c2, c3, f0, f1, f2, f3⟩ := row4 h2.rd
        clear hq h2 hk2
        cases b
        · have HF := hide (hF rfl)
          clear hT hF
          go_wp2
          go_ret
          rw [← unhide HF]
          exact ⟨_, rfl, unhide HQ, unhide H2, unhide HK2⟩
        · obtain ⟨hT1, hT2, hT3⟩ := hT rfl
          clear hT hF
          cases hb2 : st2.bad
          · obtain ⟨g, rfl⟩ : ∃ g', g = g' + 1 := ⟨g - 1, by rw [need_ok hb2] at hT2; omega⟩
            rw [need_ok hb2] at hT2
            rw [rX_loop g n x L st2 hn4, hb2] at hT1
            simp only [Bool.false_eq_true, if_false] at hT1
            rw [hb2] at c3
            obtain ⟨gb, cap, hv, hg, hgl, hRl, t0, t1, t2⟩ := (unhide H2).open
            have hfin := (unhide H2).fin st2.at_ hlt2
            rw [hv] at c0
            obtain ⟨kb, hkb, sc, sh⟩ := (unhide HS2).at n hn4
            have HSH := hide sh
            have HT1 := hide hT1
            have hkl : kb < wr.heap.size := by
              have := sh 0 (by unfold binSigns; split <;> simp)
              exact block_lt_of_cell this
            have hbl : (binSigns n).length ≤ 100 := by unfold binSigns; split <;> simp
            have hn4i : (n : Int) < 4 := by omega
            have hsgl := block_lt_of_cell sc
            simp only at hsgl
            clear hv hT1 sh
            generalize tk L st2.at_ = t at t0 t1 t2 HT1 hfin
            have hms := (unhide H2).atOf
            cases hbn : isBin n t
            · have hF := unhide HT1
              rw [hbn] at hF
              simp only [Bool.false_eq_true, if_false] at hF
              have HF := hide hF
              clear HT1 hF hfin
              have hbn' : (((binSigns n).any (fun s => s.toList == t.text.toList)) = true ∧ (t.kind.toList == [115, 105, 103, 110]) = false) ∨ ((binSigns n).any (fun s => s.toList == t.text.toList)) = false := by
                unfold isBin at hbn
                cases hx : ((binSigns n).any (fun s => s.toList == t.text.toList))
                · exact Or.inr rfl
                · rw [hx] at hbn; exact Or.inl ⟨rfl, by simpa using hbn⟩
              clear hbn
              rcases hbn' with ⟨k1, k2⟩ | k1
              all_goals
                go_wp2_with fail
                go_region
                go_wp2_with fail
                go_quiet ((go_at_call 136; go_must (exact quiet_one (has_any kb 0 _ (binSigns n) _ _ hbl (by intro i hi; have h9 := unhide HSH i hi; exact cell_later (below_drewN (below_alloc1 _ _) _) h9)))))
                rw [k1]
                go_wp2
                go_roundw
                case rel => exact ⟨x, st2, g, false, rfl, (unhide HQ).below (below_drewN (below_alloc1 _ _) _), (unhide H2).below (below_drewN (below_alloc1 _ _) _), ((unhide HK0').alloc _).drewN _, (fun h => by cases h), (fun _ => unhide HF)⟩
                case measure =>
                  rw [((unhide H2).below (below_drewN (below_alloc1 _ _) _)).atOf, (unhide H2).atOf]
                  simp [bOf]
            · have hF := unhide HT1
              rw [hbn] at hF
              simp only [if_true] at hF
              have HF := hide hF
              unfold isBin at hbn
              rw [Bool.and_eq_true] at hbn
              obtain ⟨k1, k2⟩ := hbn
              have hnx := hfin (by rw [beq_iff_eq] at k2; rw [k2]; rfl)
              clear HT1 hF hfin
              go_wp2_with fail
              go_region
              go_wp2_with fail
              go_quiet ((go_at_call 136; go_must (exact quiet_one (has_any kb 0 _ (binSigns n) _ _ hbl (by intro i hi; have h9 := unhide HSH i hi; exact cell_later (below_drewN (below_alloc1 _ _) _) h9)))))
              rw [k1]
              go_wp2_with fail
              refine (hL g (by omega) (n + 1) _ R v L { at_ := st2.at_ + 1, nest := st2.nest, bad := false } (by omega) (((unhide H2).below (below_drewN (below_alloc1 _ _) _)).stepF hb2 hnx) hD (need_le (by simp only; omega) (by omega))).mono ?_
              rintro e w3 ⟨q3, rfl, hq3, h3, hk3⟩
              have hT3 := (hk3.block wr.heap.size (by simp) (by omega)).trans ((heap_setCell_other _ _ wr.heap.size _ (by simp only; omega)).trans (heap_alloc_new wr _))
              obtain ⟨u0, u1, u2, _, _, _⟩ := row3 hT3
              have hmo := rX_mono g (n + 1) .nil L { at_ := st2.at_ + 1, nest := st2.nest, bad := false }
              generalize rX g (n + 1) .nil L { at_ := st2.at_ + 1, nest := st2.nest, bad := false } = y at HF hq3 h3 hmo
              have hK3 : Kept R wr w3 := ((((Kept.refl R wr).alloc _).drewN _).setR _ _).trans hk3
              have HK3 := hide hK3
              have hzw := (unhide HK2).size
              have HQ3 := hide (hq3.mono (lo' := w.heap.size) (by simp; omega))
              have HQx := hide ((unhide HQ).kept hK3 hR)
              have H3 := hide h3
              have hR3 := lt_of_block h3.rd
              have hy := h3.lt
              obtain ⟨q3, rfl⟩ := hq3.ptr
              simp only at hmo
              clear hk3 hT3 hK3 hq3 h3 c0 c1 c2 c3 f0 f1 f2 f3 t0 t1 t2 sc
              by_cases hn2 : n = 2
              · have hne : ((n : Int) != 2) = false := by simp; omega
                rw [if_pos hn2] at HF
                clear hn2
                go_wp2
                go_roundw
                case rel => exact ⟨opX t.text x y.1, y.2, g, false, rfl, opX_new (unhide HQx) (unhide HQ3) rfl (Nat.le_trans hzw (unhide HK3).size), (unhide H3).below (below_alloc1 _ _), ((unhide HK0').trans (unhide HK3)).alloc _, (fun h => by cases h), (fun _ => unhide HF)⟩
                case measure =>
                  rw [((unhide H3).below (below_alloc1 _ _)).atOf, (unhide H2).atOf]
                  simp [bOf]; omega
              · have hne : ((n : Int) != 2) = true := by simp; omega
                rw [if_neg hn2] at HF
                clear hn2
                go_wp2
                go_roundw
                case rel => exact ⟨opX t.text x y.1, y.2, g, true, rfl, opX_new (unhide HQx) (unhide HQ3) rfl (Nat.le_trans hzw (unhide HK3).size), (unhide H3).below (below_alloc1 _ _), ((unhide HK0').trans (unhide HK3)).alloc _, (fun _ => ⟨unhide HF, need_le (by omega) (by omega), by omega⟩), (fun h => by cases h)⟩
                case measure =>
                  rw [((unhide H3).below (below_alloc1 _ _)).atOf, (unhide H2).atOf]
                  simp [bOf]; omega
          · obtain ⟨g, rfl⟩ : ∃ g', g = g' + 1 := ⟨g - 1, by rw [need_bad hb2] at hT2; omega⟩
            rw [rX_loop g n x L st2 hn4, hb2] at hT1
            simp only [if_true] at hT1
            rw [hb2] at c3
            have HF := hide hT1
            clear hT1
            go_wp2
            go_ret
            rw [← unhide HF]
            exact ⟨_, rfl, unhide HQ, unhide H2, unhide HK2⟩
  · rw [hb] at c3
    have HX : Hid (rX (f + 1) n .nil L st = (emptyX, st)) := by
      by_cases h4 : n = 4
      · subst h4; rw [rX_four, hb]; rfl
      · rw [rX_level f n .nil L st (by omega), hb]; rfl
    go_enter Tryz.func108, Tryz.ntmps108
    go_wp2
    go_ret
    rw [unhide HX]
    exact ⟨_, rfl, emptyX_new rfl (Nat.le_refl _), (unhide H).below (below_alloc1 _ _), (Kept.refl _ _).alloc _⟩

theorem levels (f : Nat) : LevelSaid f ∧ AtomSaid f := by
  have h : ∀ f, (∀ g, g ≤ f → LevelSaid g) ∧ AtomSaid f := by
    intro f
    induction f with
    | zero =>
      have h0 : ∀ (L : List Tok) (c : Nat) (w : World) (R : Nat) (v : Value) (st : RS), Rd w R v L st → ¬ need L c st ≤ 0 := by
        intro L c w R v st h hn
        have := h.lt
        unfold need at hn
        split at hn <;> omega
      refine ⟨fun g hg => ?_, fun n w R v L st _ h _ hf => absurd hf (h0 _ _ _ _ _ _ h)⟩
      have : g = 0 := by omega
      subst this
      exact fun n w R v L st _ h _ hf => absurd hf (h0 _ _ _ _ _ _ h)
    | succ f ih =>
      refine ⟨fun g hg => ?_, atom_step f (ih.1 f (Nat.le_refl _)) ih.2⟩
      by_cases e : g ≤ f
      · exact ih.1 g e
      · have : g = f + 1 := by omega
        subst this
        exact level_step f ih.1 ih.2
  exact ⟨(h f).1 f (Nat.le_refl _), (h f).2⟩

end Go.Proofs.YtpmcnonmkghokaaGreatDoor
namespace Go.Proofs.YtpmcnonmkghokaaGreatDoor
open Go.RowKit
/-- A statement's expressions: a place and its value, or a condition. -/
structure SLab where
  place : PX
  value : PX
  cond : PX
abbrev PB := Go.Deep.BT SLab

def noS : SLab := { place := .nil, value := .nil, cond := .nil }
def bapp : PB → PB → PB
  | .nil, b => b
  | .node i j a s n, b => .node i j a s (bapp n b)
theorem bapp_nil : ∀ a : PB, bapp a .nil = a
  | .nil => rfl
  | .node i j a s n => by rw [bapp, bapp_nil n]
theorem bapp_assoc : ∀ a b c : PB, bapp (bapp a b) c = bapp a (bapp b c)
  | .nil, _, _ => rfl
  | .node i j a s n, b, c => by rw [bapp, bapp, bapp, bapp_assoc n b c]

def ifS (c : PX) (t e : PB) : PB := .node 0 0 { place := .nil, value := .nil, cond := c } (.node 0 0 noS t e) .nil
def setS (p v : PX) : PB := .node 0 0 { place := p, value := v, cond := .nil } .nil .nil
def fuelX (L : List Tok) : Nat := 8 * L.length + 8

/-- One statement. -/
def rDo (blk : RS → PB × RS) (L : List Tok) (st : RS) : PB × RS :=
  if rNext L [105, 102] st then
    if rNext L [101, 108, 115, 101] (blk (rX (fuelX L) 0 .nil L (rMust L [105, 102] st)).2).2 then
      (ifS (rX (fuelX L) 0 .nil L (rMust L [105, 102] st)).1 (blk (rX (fuelX L) 0 .nil L (rMust L [105, 102] st)).2).1 (blk (rMust L [101, 108, 115, 101] (blk (rX (fuelX L) 0 .nil L (rMust L [105, 102] st)).2).2)).1,
        (blk (rMust L [101, 108, 115, 101] (blk (rX (fuelX L) 0 .nil L (rMust L [105, 102] st)).2).2)).2)
    else (ifS (rX (fuelX L) 0 .nil L (rMust L [105, 102] st)).1 (blk (rX (fuelX L) 0 .nil L (rMust L [105, 102] st)).2).1 .nil, (blk (rX (fuelX L) 0 .nil L (rMust L [105, 102] st)).2).2)
  else (setS (rPlace L st).1 (rX (fuelX L) 0 .nil L (rMust L [61] (rPlace L st).2)).1, rMust L [59] (rX (fuelX L) 0 .nil L (rMust L [61] (rPlace L st).2)).2)

/-- tag 0: a block; 1: what is in it. -/
def rS : Nat → Nat → List Tok → RS → PB × RS
  | 0, _, _, st => (.nil, st)
  | f + 1, 0, L, st => ((rS f 1 L (rMust L [123] st)).1, rMust L [125] (rS f 1 L (rMust L [123] st)).2)
  | f + 1, _ + 1, L, st =>
    if rNext L [125] st || st.bad then (.nil, st)
    else (bapp (rDo (rS f 0 L) L st).1 (rS f 1 L (rDo (rS f 0 L) L st).2).1, (rS f 1 L (rDo (rS f 0 L) L st).2).2)

theorem rNext_bad {L : List Tok} {s : List UInt8} {st : RS} (h : st.bad = true) : rNext L s st = false := by simp [rNext, nextB, h]
theorem rMust_bad {L : List Tok} {s : List UInt8} {st : RS} (h : st.bad = true) : (rMust L s st).bad = true := by simp [rMust, rNext_bad h]
theorem rKind_bad {L : List Tok} {s : List UInt8} {st : RS} (h : st.bad = true) : (rKind L s st).2.bad = true := by simp [rKind, rKindOk, h]
theorem rX_bad {L : List Tok} {st : RS} (h : st.bad = true) : ∀ (f tag : Nat) (x : PX), (rX f tag x L st).2 = st
  | 0, _, _ => rfl
  | f + 1, tag, x => by
    rw [rX]
    simp only [h, if_true]
    split
    · rfl
    · split
      · rfl
      · split <;> rfl

theorem rS_bad {L : List Tok} {st : RS} (h : st.bad = true) : ∀ f tag : Nat, (rS f tag L st).2.bad = true
  | 0, _ => h
  | f + 1, 0 => by
    rw [rS]
    exact rMust_bad (rS_bad (rMust_bad h) f 1)
  | f + 1, t + 1 => by rw [rS]; simp [h]

theorem rDo_mono {blk : RS → PB × RS} (hm : ∀ s, s.at_ ≤ (blk s).2.at_) (L : List Tok) (st : RS) : st.at_ ≤ (rDo blk L st).2.at_ := by
  unfold rDo
  have h1 := Nat.le_trans (rMust_mono L [105, 102] st) (rX_mono (fuelX L) 0 .nil L (rMust L [105, 102] st))
  have h2 := Nat.le_trans h1 (hm (rX (fuelX L) 0 .nil L (rMust L [105, 102] st)).2)
  split
  · split
    · exact Nat.le_trans h2 (Nat.le_trans (rMust_mono L [101, 108, 115, 101] _) (hm _))
    · exact h2
  · exact Nat.le_trans (rPlace_mono L st) (Nat.le_trans (rMust_mono L [61] _) (Nat.le_trans (rX_mono (fuelX L) 0 .nil L _) (rMust_mono L [59] _)))

theorem rS_mono (L : List Tok) : ∀ (f tag : Nat) (st : RS), st.at_ ≤ (rS f tag L st).2.at_
  | 0, _, _ => Nat.le_refl _
  | f + 1, 0, st => by
    rw [rS]
    exact Nat.le_trans (rMust_mono L [123] st) (Nat.le_trans (rS_mono L f 1 _) (rMust_mono L [125] _))
  | f + 1, t + 1, st => by
    rw [rS]
    split
    · exact Nat.le_refl _
    · exact Nat.le_trans (rDo_mono (fun s => rS_mono L f 0 s) L st) (rS_mono L f 1 _)

theorem rKind_ok {L : List Tok} {s : List UInt8} {st : RS} (hb : (rKind L s st).2.bad = false) : (rKind L s st).2.at_ = st.at_ + 1 := by
  unfold rKind at hb ⊢
  split at hb
  · rename_i h; rw [if_pos h]
  · simp at hb

/-- A statement that is not bad has taken a token. -/
theorem rDo_prog {blk : RS → PB × RS} (hm : ∀ s, s.at_ ≤ (blk s).2.at_) (hs : ∀ s, s.bad = true → (blk s).2.bad = true) {L : List Tok} {st : RS} (h : (rDo blk L st).2.bad = false) : st.at_ + 1 ≤ (rDo blk L st).2.at_ := by
  have nb : ∀ {p : Bool}, ¬ p = true → p = false := fun h => by simpa using h
  by_cases hi : rNext L [105, 102] st = true
  · have hc : (rMust L [105, 102] st).bad = false := by
      unfold rMust
      rw [hi]
      rfl
    have h0 := rMust_ok hc
    have h1 := rX_mono (fuelX L) 0 .nil L (rMust L [105, 102] st)
    have h2 := hm (rX (fuelX L) 0 .nil L (rMust L [105, 102] st)).2
    unfold rDo
    rw [if_pos hi]
    split
    · have h3 := rMust_mono L [101, 108, 115, 101] (blk (rX (fuelX L) 0 .nil L (rMust L [105, 102] st)).2).2
      have h4 := hm (rMust L [101, 108, 115, 101] (blk (rX (fuelX L) 0 .nil L (rMust L [105, 102] st)).2).2)
      simp only; omega
    · simp only; omega
  · unfold rDo at h ⊢
    rw [if_neg hi] at h ⊢
    simp only at h ⊢
    have hp : (rPlace L st).2.bad = false := nb fun hb => by
      have := rMust_bad (L := L) (s := [59]) (st := (rX (fuelX L) 0 .nil L (rMust L [61] (rPlace L st).2)).2) (by rw [rX_bad (rMust_bad hb)]; exact rMust_bad hb)
      rw [this] at h; cases h
    have hk : (rKind L [110, 97, 109, 101] st).2.bad = false := nb fun hb => by
      have : (rPlace L st).2.bad = true := by
        unfold rPlace
        simp only
        rw [rNext_bad hb]
        exact hb
      rw [this] at hp; cases hp
    have h1 := rKind_ok hk
    have h2 : (rKind L [110, 97, 109, 101] st).2.at_ ≤ (rPlace L st).2.at_ := by
      unfold rPlace
      simp only
      split
      · exact Nat.le_trans (rMust_mono L [91] _) (Nat.le_trans (rKind_mono L _ _) (rMust_mono L [93] _))
      · exact Nat.le_refl _
    have h3 := rMust_mono L [61] (rPlace L st).2
    have h4 := rX_mono (fuelX L) 0 .nil L (rMust L [61] (rPlace L st).2)
    have h5 := rMust_mono L [59] (rX (fuelX L) 0 .nil L (rMust L [61] (rPlace L st).2)).2
    omega

def LabIs (lo : Nat) (w : World) (a : SLab) (vp vv vi : Value) : Prop := NodeIs lo w a.place vp ∧ NodeIs lo w a.value vv ∧ NodeIs lo w a.cond vi

/-- The pointers lead to the statements of the block, all from lo on; no list of statements in them lies in block no. -/
def StmtsIs (lo : Nat) (no : Option Nat) (w : World) : PB → List Value → Prop
  | .nil, ps => ps = []
  | .node _ _ a .nil n, ps => ∃ k vp vv vi qs, ps = .pointer (some ⟨k, 0, none⟩) :: qs ∧ lo ≤ k ∧ w.heap[k]? = some (.cells #[vp, vv, vi, .slice none 0 0, .slice none 0 0] 247 (0, 0)) ∧ LabIs lo w a vp vv vi ∧ StmtsIs lo no w n qs
  | .node _ _ a (.node _ _ _ t e) n, ps => ∃ k vp vv vi vt ve qt qe qs, ps = .pointer (some ⟨k, 0, none⟩) :: qs ∧ lo ≤ k ∧ w.heap[k]? = some (.cells #[vp, vv, vi, vt, ve] 247 (0, 0)) ∧ LabIs lo w a vp vv vi ∧
      (w.ownsRow lo 245 1 vt qt.length qt ∧ (∀ j, vt.ownBlock = some j → no ≠ some j) ∧ StmtsIs lo no w t qt) ∧ (w.ownsRow lo 245 1 ve qe.length qe ∧ (∀ j, ve.ownBlock = some j → no ≠ some j) ∧ StmtsIs lo no w e qe) ∧ StmtsIs lo no w n qs

theorem owns_stay {lo : Nat} {w w' : World} (hk : ∀ k, lo ≤ k → k < w.heap.size → w'.heap[k]? = w.heap[k]?) {e size : Nat} {v : Value} {n : Nat} {xs : List Value} (h : w.ownsRow lo e size v n xs) : w'.ownsRow lo e size v n xs := by
  obtain ⟨h1, h2⟩ := h
  refine ⟨h1, ?_⟩
  rcases h2 with h2 | ⟨g, cap, cur, hv, hg, hh, r⟩
  · exact Or.inl h2
  · exact Or.inr ⟨g, cap, cur, hv, hg, by rw [hk g hg (lt_of_block hh)]; exact hh, r⟩
theorem owns_mono {lo lo' : Nat} (hl : lo' ≤ lo) {w : World} {e size : Nat} {v : Value} {n : Nat} {xs : List Value} (h : w.ownsRow lo e size v n xs) : w.ownsRow lo' e size v n xs := by
  obtain ⟨h1, h2⟩ := h
  refine ⟨h1, ?_⟩
  rcases h2 with h2 | ⟨g, cap, cur, hv, hg, r⟩
  · exact Or.inl h2
  · exact Or.inr ⟨g, cap, cur, hv, Nat.le_trans hl hg, r⟩

theorem LabIs.stay {lo : Nat} {w w' : World} (hk : ∀ k, lo ≤ k → k < w.heap.size → w'.heap[k]? = w.heap[k]?) {a : SLab} {vp vv vi : Value} (h : LabIs lo w a vp vv vi) : LabIs lo w' a vp vv vi := ⟨h.1.stay hk, h.2.1.stay hk, h.2.2.stay hk⟩
theorem LabIs.mono {lo lo' : Nat} {w : World} (hl : lo' ≤ lo) {a : SLab} {vp vv vi : Value} (h : LabIs lo w a vp vv vi) : LabIs lo' w a vp vv vi := ⟨h.1.mono hl, h.2.1.mono hl, h.2.2.mono hl⟩

theorem StmtsIs.stay {lo : Nat} {no : Option Nat} {w w' : World} (hk : ∀ k, lo ≤ k → k < w.heap.size → w'.heap[k]? = w.heap[k]?) : ∀ {b : PB} {ps : List Value}, StmtsIs lo no w b ps → StmtsIs lo no w' b ps
  | .nil, _, h => h
  | .node _ _ a .nil n, ps, ⟨k, vp, vv, vi, qs, e, hl, hh, ha, hn⟩ => ⟨k, vp, vv, vi, qs, e, hl, by rw [hk k hl (lt_of_block hh)]; exact hh, ha.stay hk, StmtsIs.stay hk hn⟩
  | .node _ _ a (.node _ _ _ t e) n, ps, ⟨k, vp, vv, vi, vt, ve, qt, qe, qs, e1, hl, hh, ha, ⟨ht1, ht3, ht2⟩, ⟨he1, he3, he2⟩, hn⟩ =>
    ⟨k, vp, vv, vi, vt, ve, qt, qe, qs, e1, hl, by rw [hk k hl (lt_of_block hh)]; exact hh, ha.stay hk, ⟨owns_stay hk ht1, ht3, StmtsIs.stay hk ht2⟩, ⟨owns_stay hk he1, he3, StmtsIs.stay hk he2⟩, StmtsIs.stay hk hn⟩
theorem StmtsIs.mono {lo lo' : Nat} {no : Option Nat} {w : World} (hl' : lo' ≤ lo) : ∀ {b : PB} {ps : List Value}, StmtsIs lo no w b ps → StmtsIs lo' no w b ps
  | .nil, _, h => h
  | .node _ _ a .nil n, ps, ⟨k, vp, vv, vi, qs, e, hl, hh, ha, hn⟩ => ⟨k, vp, vv, vi, qs, e, Nat.le_trans hl' hl, hh, ha.mono hl', StmtsIs.mono hl' hn⟩
  | .node _ _ a (.node _ _ _ t e) n, ps, ⟨k, vp, vv, vi, vt, ve, qt, qe, qs, e1, hl, hh, ha, ⟨ht1, ht3, ht2⟩, ⟨he1, he3, he2⟩, hn⟩ =>
    ⟨k, vp, vv, vi, vt, ve, qt, qe, qs, e1, Nat.le_trans hl' hl, hh, ha.mono hl', ⟨owns_mono hl' ht1, ht3, StmtsIs.mono hl' ht2⟩, ⟨owns_mono hl' he1, he3, StmtsIs.mono hl' he2⟩, StmtsIs.mono hl' hn⟩
theorem StmtsIs.app {lo : Nat} {no : Option Nat} {w : World} : ∀ {b c : PB} {ps qs : List Value}, StmtsIs lo no w b ps → StmtsIs lo no w c qs → StmtsIs lo no w (bapp b c) (ps ++ qs)
  | .nil, c, ps, qs, h, h' => by
    have : ps = [] := h
    subst this; exact h'
  | .node _ _ a .nil n, c, ps, qs, ⟨k, vp, vv, vi, rs, e, hl, hh, ha, hn⟩, h' => ⟨k, vp, vv, vi, rs ++ qs, by rw [e]; rfl, hl, hh, ha, hn.app h'⟩
  | .node _ _ a (.node _ _ _ t e) n, c, ps, qs, ⟨k, vp, vv, vi, vt, ve, qt, qe, rs, e1, hl, hh, ha, ht, he, hn⟩, h' => ⟨k, vp, vv, vi, vt, ve, qt, qe, rs ++ qs, by rw [e1]; rfl, hl, hh, ha, ht, he, hn.app h'⟩
/-- Another block is shunned: the same one, none, one that is not there, or one ahead of all. -/
theorem StmtsIs.shun {lo : Nat} {no no' : Option Nat} {w : World} (hno : ∀ k, no' = some k → no = some k ∨ w.heap.size ≤ k ∨ k < lo) : ∀ {b : PB} {ps : List Value}, StmtsIs lo no w b ps → StmtsIs lo no' w b ps
  | .nil, _, h => h
  | .node _ _ a .nil n, ps, ⟨k, vp, vv, vi, qs, e, hl, hh, ha, hn⟩ => ⟨k, vp, vv, vi, qs, e, hl, hh, ha, StmtsIs.shun hno hn⟩
  | .node _ _ a (.node _ _ _ t e) n, ps, ⟨k, vp, vv, vi, vt, ve, qt, qe, qs, e1, hl, hh, ha, ⟨ht1, ht3, ht2⟩, ⟨he1, he3, he2⟩, hn⟩ => by
    have out : ∀ {v : Value} {q : List Value}, w.ownsRow lo 245 1 v q.length q → (∀ j, v.ownBlock = some j → no ≠ some j) → ∀ j, v.ownBlock = some j → no' ≠ some j := by
      intro v q h1 h2 j hj h3
      have hge := own_ge h1 j hj
      have hlt := own_lt h1 j hj
      rcases hno j h3 with h | h | h
      · exact h2 j hj h
      · omega
      · omega
    exact ⟨k, vp, vv, vi, vt, ve, qt, qe, qs, e1, hl, hh, ha, ⟨ht1, out ht1 ht3, StmtsIs.shun hno ht2⟩, ⟨he1, out he1 he3, StmtsIs.shun hno he2⟩, StmtsIs.shun hno hn⟩

/-- What lies in a block of another type is not the row of a slice. -/
theorem not_row {w : World} {base e size k : Nat} {t : TypeId} {v : Value} {n : Nat} {xs : List Value} {cs : Array Value} {fr : Nat × Nat} (hv : w.ownsRow base e size v n xs) (hh : w.heap[k]? = some (.cells cs t fr)) (hte : t ≠ e) : some k ≠ v.ownBlock := by
  intro he
  rcases hv.2 with ⟨rfl, _⟩ | ⟨g, cap, cur, rfl, _, hg, _⟩
  · simp [Value.ownBlock] at he
  · simp [Value.ownBlock] at he
    subst he
    rw [hh] at hg
    simp at hg
    exact hte hg.2.1
theorem NodeIs.grown {lo base e : Nat} {w w' : World} {v : Value} {n : Nat} {xs : List Value} (hv : w.ownsRow base e 1 v n xs) (he : 242 ≠ e) (hg : w.grownBy w' v.ownBlock) : ∀ {x : PX} {p : Value}, NodeIs lo w x p → NodeIs lo w' x p
  | .nil, _, h => h
  | .node _ _ _ _ _, _, ⟨k, va, vb, e1, hn, hh, ha, hb⟩ => ⟨k, va, vb, e1, hn, by rw [hg.block k (lt_of_block hh) (not_row hv hh he)]; exact hh, NodeIs.grown hv he hg ha, NodeIs.grown hv he hg hb⟩
/-- Behind an append to a list of statements whose row is shunned. -/
theorem StmtsIs.grown {lo base : Nat} {w w' : World} {v : Value} {n : Nat} {xs : List Value} (hv : w.ownsRow base 245 1 v n xs) (hg : w.grownBy w' v.ownBlock) : ∀ {b : PB} {ps : List Value}, StmtsIs lo v.ownBlock w b ps → StmtsIs lo v.ownBlock w' b ps
  | .nil, _, h => h
  | .node _ _ a .nil nx, ps, ⟨k, vp, vv, vi, qs, e, hl, hh, ha, hn⟩ => ⟨k, vp, vv, vi, qs, e, hl, by rw [hg.block k (lt_of_block hh) (not_row hv hh (by decide))]; exact hh, ⟨ha.1.grown hv (by decide) hg, ha.2.1.grown hv (by decide) hg, ha.2.2.grown hv (by decide) hg⟩, StmtsIs.grown hv hg hn⟩
  | .node _ _ a (.node _ _ _ t e) nx, ps, ⟨k, vp, vv, vi, vt, ve, qt, qe, qs, e1, hl, hh, ha, ⟨ht1, ht3, ht2⟩, ⟨he1, he3, he2⟩, hn⟩ => by
    have keep : ∀ {u : Value} {q : List Value}, w.ownsRow lo 245 1 u q.length q → (∀ j, u.ownBlock = some j → v.ownBlock ≠ some j) → w'.ownsRow lo 245 1 u q.length q := by
      intro u q h1 h2
      refine h1.kept hg ?_
      cases hu : u.ownBlock with
      | none => exact Or.inl rfl
      | some j => exact Or.inr fun h => h2 j hu h.symm
    exact ⟨k, vp, vv, vi, vt, ve, qt, qe, qs, e1, hl, by rw [hg.block k (lt_of_block hh) (not_row hv hh (by decide))]; exact hh, ⟨ha.1.grown hv (by decide) hg, ha.2.1.grown hv (by decide) hg, ha.2.2.grown hv (by decide) hg⟩,
      ⟨keep ht1 ht3, ht3, StmtsIs.grown hv hg ht2⟩, ⟨keep he1 he3, he3, StmtsIs.grown hv hg he2⟩, StmtsIs.grown hv hg hn⟩
theorem StmtsIs.kept {lo R : Nat} {no : Option Nat} {w w' : World} {b : PB} {ps : List Value} (h : StmtsIs lo no w b ps) (hk : Kept R w w') (hR : R < lo) : StmtsIs lo no w' b ps := h.stay fun k h1 h2 => hk.block k h2 (by omega)
theorem owns_kept' {lo R : Nat} {w w' : World} {e size : Nat} {v : Value} {n : Nat} {xs : List Value} (h : w.ownsRow lo e size v n xs) (hk : Kept R w w') (hR : R < lo) : w'.ownsRow lo e size v n xs := owns_stay (fun k h1 h2 => hk.block k h2 (by omega)) h

end Go.Proofs.YtpmcnonmkghokaaGreatDoor

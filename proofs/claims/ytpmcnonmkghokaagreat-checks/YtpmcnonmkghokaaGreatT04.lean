/-
  The reference's variable, walked.
  The reference's heads: the plain functions rSets and rKinds, how sets and kinds lie in memory, and the first loop walked.
-/
import Derived.Test.YtpmcnonmkghokaaGreatT03
import Derived.Deep.RegionHeld3
import Derived.Deep.RegionLaw
import Derived.Deep.AppendLies
set_option linter.unusedVariables false
set_option linter.unusedSimpArgs false
namespace Go.Proofs.YtpmcnonmkghokaaGreat
open Go.RowKit

/-- A variable's tokens. -/
structure PVar where
  name : Tok
  over : Tok
  type_ : Tok
  top : Tok
def varCells (x : PVar) : List Value := tokCells x.name ++ (tokCells x.over ++ (tokCells x.type_ ++ tokCells x.top))
def varV (x : PVar) : Value := .agg (varCells x).toArray

def rOver (L : List Tok) (st : RS) : Tok × RS :=
  if rNext L [91] st then ((rKind L [110, 97, 109, 101] (rMust L [91] st)).1, rMust L [93] (rKind L [110, 97, 109, 101] (rMust L [91] st)).2) else (noTok, st)
def rTop (L : List Tok) (st : RS) : Tok × RS :=
  if rNext L [98, 111, 111, 108] st then (noTok, rMust L [98, 111, 111, 108] st)
  else if rNext L [116, 111] st then rKind L [100, 105, 103, 105, 116] (rMust L [116, 111] st)
  else (noTok, (rKind L [110, 97, 109, 101] st).2)
def rVar (L : List Tok) (st : RS) : PVar × RS :=
  ({ name := (rKind L [110, 97, 109, 101] (rMust L [118, 97, 114] st)).1,
     over := (rOver L (rMust L [58] (rKind L [110, 97, 109, 101] (rMust L [118, 97, 114] st)).2)).1,
     type_ := tk L (rOver L (rMust L [58] (rKind L [110, 97, 109, 101] (rMust L [118, 97, 114] st)).2)).2.at_,
     top := (rTop L (rOver L (rMust L [58] (rKind L [110, 97, 109, 101] (rMust L [118, 97, 114] st)).2)).2).1 },
   rMust L [59] (rTop L (rOver L (rMust L [58] (rKind L [110, 97, 109, 101] (rMust L [118, 97, 114] st)).2)).2).2)

theorem rVar_of {L : List Tok} {st s1 s3 : RS} {k o t : Tok × RS} (h1 : rMust L [118, 97, 114] st = s1) (h2 : rKind L [110, 97, 109, 101] s1 = k) (h3 : rMust L [58] k.2 = s3) (h4 : rOver L s3 = o) (h5 : rTop L o.2 = t) :
    rVar L st = ({ name := k.1, over := o.1, type_ := tk L o.2.at_, top := t.1 }, rMust L [59] t.2) := by
  subst h1; subst h2; subst h3; subst h4; subst h5; rfl

def VarPost (R : Nat) (v : Value) (L : List Tok) (w : World) (r : PVar × RS) (e : Ending) (w' : World) : Prop :=
  e = .returned (varV r.1) ∧ Rd w' R v L r.2 ∧ Kept R w w'

/-- The cells of a block of twelve. -/
structure Row12 (w : World) (b : Nat) (x0 x1 x2 x3 x4 x5 x6 x7 x8 x9 x10 x11 : Value) : Prop where
  c0 : w.cell? ⟨b, 0, none⟩ = some x0
  c1 : w.cell? ⟨b, 1, none⟩ = some x1
  c2 : w.cell? ⟨b, 2, none⟩ = some x2
  c3 : w.cell? ⟨b, 3, none⟩ = some x3
  c4 : w.cell? ⟨b, 4, none⟩ = some x4
  c5 : w.cell? ⟨b, 5, none⟩ = some x5
  c6 : w.cell? ⟨b, 6, none⟩ = some x6
  c7 : w.cell? ⟨b, 7, none⟩ = some x7
  c8 : w.cell? ⟨b, 8, none⟩ = some x8
  c9 : w.cell? ⟨b, 9, none⟩ = some x9
  c10 : w.cell? ⟨b, 10, none⟩ = some x10
  c11 : w.cell? ⟨b, 11, none⟩ = some x11
  f0 : w.frozen? ⟨b, 0, none⟩ = false
  f1 : w.frozen? ⟨b, 1, none⟩ = false
  f2 : w.frozen? ⟨b, 2, none⟩ = false
  f3 : w.frozen? ⟨b, 3, none⟩ = false
  f4 : w.frozen? ⟨b, 4, none⟩ = false
  f5 : w.frozen? ⟨b, 5, none⟩ = false
  f6 : w.frozen? ⟨b, 6, none⟩ = false
  f7 : w.frozen? ⟨b, 7, none⟩ = false
  f8 : w.frozen? ⟨b, 8, none⟩ = false
  f9 : w.frozen? ⟨b, 9, none⟩ = false
  f10 : w.frozen? ⟨b, 10, none⟩ = false
  f11 : w.frozen? ⟨b, 11, none⟩ = false
theorem row12 {w : World} {b : Nat} {x0 x1 x2 x3 x4 x5 x6 x7 x8 x9 x10 x11 : Value} {t : TypeId} (h : w.heap[b]? = some (.cells #[x0, x1, x2, x3, x4, x5, x6, x7, x8, x9, x10, x11] t (0, 0))) : Row12 w b x0 x1 x2 x3 x4 x5 x6 x7 x8 x9 x10 x11 :=
  ⟨by rw [cell_of_row w b 0 _ _ _ h]; rfl, by rw [cell_of_row w b 1 _ _ _ h]; rfl, by rw [cell_of_row w b 2 _ _ _ h]; rfl, by rw [cell_of_row w b 3 _ _ _ h]; rfl, by rw [cell_of_row w b 4 _ _ _ h]; rfl, by rw [cell_of_row w b 5 _ _ _ h]; rfl, by rw [cell_of_row w b 6 _ _ _ h]; rfl, by rw [cell_of_row w b 7 _ _ _ h]; rfl, by rw [cell_of_row w b 8 _ _ _ h]; rfl, by rw [cell_of_row w b 9 _ _ _ h]; rfl, by rw [cell_of_row w b 10 _ _ _ h]; rfl, by rw [cell_of_row w b 11 _ _ _ h]; rfl, frozen_of_row w b 0 _ _ h, frozen_of_row w b 1 _ _ h, frozen_of_row w b 2 _ _ h, frozen_of_row w b 3 _ _ h, frozen_of_row w b 4 _ _ h, frozen_of_row w b 5 _ _ h, frozen_of_row w b 6 _ _ h, frozen_of_row w b 7 _ _ h, frozen_of_row w b 8 _ _ h, frozen_of_row w b 9 _ _ h, frozen_of_row w b 10 _ _ h, frozen_of_row w b 11 _ _ h⟩
theorem set12a {w : World} {b : Nat} {x0 x1 x2 x3 x4 x5 x6 x7 x8 x9 x10 x11 : Value} {t : TypeId} (h : w.heap[b]? = some (.cells #[x0, x1, x2, x3, x4, x5, x6, x7, x8, x9, x10, x11] t (0, 0))) (a c d : Value) :
    (((w.setCell ⟨b, 0, none⟩ a).setCell ⟨b, 1, none⟩ c).setCell ⟨b, 2, none⟩ d).heap[b]? = some (.cells #[a, c, d, x3, x4, x5, x6, x7, x8, x9, x10, x11] t (0, 0)) :=
  heap_setCell_same _ b 2 _ _ _ (heap_setCell_same _ b 1 _ _ _ (heap_setCell_same _ b 0 _ _ _ h))
theorem set12b {w : World} {b : Nat} {x0 x1 x2 x3 x4 x5 x6 x7 x8 x9 x10 x11 : Value} {t : TypeId} (h : w.heap[b]? = some (.cells #[x0, x1, x2, x3, x4, x5, x6, x7, x8, x9, x10, x11] t (0, 0))) (a c d : Value) :
    (((w.setCell ⟨b, 3, none⟩ a).setCell ⟨b, 4, none⟩ c).setCell ⟨b, 5, none⟩ d).heap[b]? = some (.cells #[x0, x1, x2, a, c, d, x6, x7, x8, x9, x10, x11] t (0, 0)) :=
  heap_setCell_same _ b 5 _ _ _ (heap_setCell_same _ b 4 _ _ _ (heap_setCell_same _ b 3 _ _ _ h))
theorem set12c {w : World} {b : Nat} {x0 x1 x2 x3 x4 x5 x6 x7 x8 x9 x10 x11 : Value} {t : TypeId} (h : w.heap[b]? = some (.cells #[x0, x1, x2, x3, x4, x5, x6, x7, x8, x9, x10, x11] t (0, 0))) (a c d : Value) :
    (((w.setCell ⟨b, 6, none⟩ a).setCell ⟨b, 7, none⟩ c).setCell ⟨b, 8, none⟩ d).heap[b]? = some (.cells #[x0, x1, x2, x3, x4, x5, a, c, d, x9, x10, x11] t (0, 0)) :=
  heap_setCell_same _ b 8 _ _ _ (heap_setCell_same _ b 7 _ _ _ (heap_setCell_same _ b 6 _ _ _ h))
theorem set12d {w : World} {b : Nat} {x0 x1 x2 x3 x4 x5 x6 x7 x8 x9 x10 x11 : Value} {t : TypeId} (h : w.heap[b]? = some (.cells #[x0, x1, x2, x3, x4, x5, x6, x7, x8, x9, x10, x11] t (0, 0))) (a c d : Value) :
    (((w.setCell ⟨b, 9, none⟩ a).setCell ⟨b, 10, none⟩ c).setCell ⟨b, 11, none⟩ d).heap[b]? = some (.cells #[x0, x1, x2, x3, x4, x5, x6, x7, x8, a, c, d] t (0, 0)) :=
  heap_setCell_same _ b 11 _ _ _ (heap_setCell_same _ b 10 _ _ _ (heap_setCell_same _ b 9 _ _ _ h))

theorem set12 {w : World} {b : Nat} {x0 x1 x2 x3 x4 x5 x6 x7 x8 x9 x10 x11 : Value} {t : TypeId} (h : w.heap[b]? = some (.cells #[x0, x1, x2, x3, x4, x5, x6, x7, x8, x9, x10, x11] t (0, 0))) (y0 y1 y2 y3 y4 y5 y6 y7 y8 y9 y10 y11 : Value) :
    ((((((((((((w.setCell ⟨b, 0, none⟩ y0).setCell ⟨b, 1, none⟩ y1).setCell ⟨b, 2, none⟩ y2).setCell ⟨b, 3, none⟩ y3).setCell ⟨b, 4, none⟩ y4).setCell ⟨b, 5, none⟩ y5).setCell ⟨b, 6, none⟩ y6).setCell ⟨b, 7, none⟩ y7).setCell ⟨b, 8, none⟩ y8).setCell ⟨b, 9, none⟩ y9).setCell ⟨b, 10, none⟩ y10).setCell ⟨b, 11, none⟩ y11).heap[b]? = some (.cells #[y0, y1, y2, y3, y4, y5, y6, y7, y8, y9, y10, y11] t (0, 0)) :=
  set12d (set12c (set12b (set12a h y0 y1 y2) y3 y4 y5) y6 y7 y8) y9 y10 y11
theorem Rd.set12 {w : World} {R : Nat} {v : Value} {L : List Tok} {st : RS} {B : Nat} (h : Rd w R v L st) (hB : ∀ g, v.ownBlock = some g → g < B) (hR : R < B) {b : Nat} (hb : B ≤ b) {y0 y1 y2 y3 y4 y5 y6 y7 y8 y9 y10 y11 : Value} :
    Rd ((((((((((((w.setCell ⟨b, 0, none⟩ y0).setCell ⟨b, 1, none⟩ y1).setCell ⟨b, 2, none⟩ y2).setCell ⟨b, 3, none⟩ y3).setCell ⟨b, 4, none⟩ y4).setCell ⟨b, 5, none⟩ y5).setCell ⟨b, 6, none⟩ y6).setCell ⟨b, 7, none⟩ y7).setCell ⟨b, 8, none⟩ y8).setCell ⟨b, 9, none⟩ y9).setCell ⟨b, 10, none⟩ y10).setCell ⟨b, 11, none⟩ y11) R v L st :=
  ((((((((((((h.setNew hB hR (p := ⟨b, 0, none⟩) hb y0).setNew hB hR (p := ⟨b, 1, none⟩) hb y1).setNew hB hR (p := ⟨b, 2, none⟩) hb y2).setNew hB hR (p := ⟨b, 3, none⟩) hb y3).setNew hB hR (p := ⟨b, 4, none⟩) hb y4).setNew hB hR (p := ⟨b, 5, none⟩) hb y5).setNew hB hR (p := ⟨b, 6, none⟩) hb y6).setNew hB hR (p := ⟨b, 7, none⟩) hb y7).setNew hB hR (p := ⟨b, 8, none⟩) hb y8).setNew hB hR (p := ⟨b, 9, none⟩) hb y9).setNew hB hR (p := ⟨b, 10, none⟩) hb y10).setNew hB hR (p := ⟨b, 11, none⟩) hb y11)
theorem Kept.set12 {R : Nat} {a w : World} (h : Kept R a w) {b : Nat} (hb : a.heap.size ≤ b) {y0 y1 y2 y3 y4 y5 y6 y7 y8 y9 y10 y11 : Value} : Kept R a ((((((((((((w.setCell ⟨b, 0, none⟩ y0).setCell ⟨b, 1, none⟩ y1).setCell ⟨b, 2, none⟩ y2).setCell ⟨b, 3, none⟩ y3).setCell ⟨b, 4, none⟩ y4).setCell ⟨b, 5, none⟩ y5).setCell ⟨b, 6, none⟩ y6).setCell ⟨b, 7, none⟩ y7).setCell ⟨b, 8, none⟩ y8).setCell ⟨b, 9, none⟩ y9).setCell ⟨b, 10, none⟩ y10).setCell ⟨b, 11, none⟩ y11) :=
  ((((((((((((h.setNew (p := ⟨b, 0, none⟩) hb y0).setNew (p := ⟨b, 1, none⟩) hb y1).setNew (p := ⟨b, 2, none⟩) hb y2).setNew (p := ⟨b, 3, none⟩) hb y3).setNew (p := ⟨b, 4, none⟩) hb y4).setNew (p := ⟨b, 5, none⟩) hb y5).setNew (p := ⟨b, 6, none⟩) hb y6).setNew (p := ⟨b, 7, none⟩) hb y7).setNew (p := ⟨b, 8, none⟩) hb y8).setNew (p := ⟨b, 9, none⟩) hb y9).setNew (p := ⟨b, 10, none⟩) hb y10).setNew (p := ⟨b, 11, none⟩) hb y11)

set_option maxRecDepth 100000 in
set_option maxHeartbeats 8000000 in
theorem variable_any (w : World) (R : Nat) (v : Value) (L : List Tok) (st : RS) (h : Rd w R v L st) :
    Calls Tryz.prog 33 #[.pointer (some ⟨R, 0, none⟩)] w (VarPost R v L w (rVar L st)) := by
  have hX : R < w.heap.size := lt_of_block h.rd
  have HV := hide (own_lt h.own)
  go_enter Tryz.func33, Tryz.ntmps33
  go_wp2_with fail
  refine (must_lit [118, 97, 114] _ R v L st (h.below (((Below.refl _ _).alloc (Nat.le_refl _) _).alloc (by simp) _))).mono ?_
  rintro e w1 ⟨rfl, h1, hk1⟩
  have hx1 := (hk1.block (w.heap.size + 1) (by simp) (by omega)).trans (heap_alloc_new' (w.alloc _) _ (w.heap.size + 1) (by simp))
  have hr1 := (hk1.block w.heap.size (by simp; omega) (by omega)).trans ((Below.heap_alloc (w.alloc _) _ w.heap.size (by simp)).trans (heap_alloc_new w _))
  have HK1 := hide ((((Kept.refl R w).alloc _).alloc _).trans hk1)
  have H1 := hide h1
  have HX1 := hide hx1
  have HR1 := hide hr1
  clear h h1 hk1 hx1 hr1
  generalize hs1 : rMust L [118, 97, 114] st = s1 at H1
  have E1 := hide hs1
  clear hs1
  go_wp2_with fail
  refine (kind_lit [110, 97, 109, 101] _ R v L s1 (unhide H1) rfl).mono ?_
  rintro e w2 ⟨rfl, h2, hk2⟩
  have hx2 := (hk2.block (w.heap.size + 1) (lt_of_block (unhide HX1)) (by omega)).trans (unhide HX1)
  have HR2 := hide ((hk2.block w.heap.size (lt_of_block (unhide HR1)) (by omega)).trans (unhide HR1))
  have HK2 := hide ((unhide HK1).trans hk2)
  have H2 := hide h2
  have HX2 := hide hx2
  obtain ⟨d0, d1, d2, d3, d4, d5, d6, d7, d8, d9, d10, d11, e0, e1, e2, e3, e4, e5, e6, e7, e8, e9, e10, e11⟩ := row12 hx2
  clear h2 hk2 hx2 HK1 H1 HX1 HR1
  generalize hk : rKind L [110, 97, 109, 101] s1 = k at H2 ⊢
  have E2 := hide hk
  clear hk
  unfold tokV
  go_wp2_with fail
  refine (must_lit [58] _ R v L k.2 ((unhide H2).set3 (unhide HV) hX (by simp))).mono ?_
  rintro e w3 ⟨rfl, h3, hk3⟩
  have HX3 := hide ((hk3.block (w.heap.size + 1) (by simpa using lt_of_block (unhide HX2)) (by omega)).trans (set12a (unhide HX2) _ _ _))
  have HR3 := hide ((hk3.block w.heap.size (by simpa using lt_of_block (unhide HR2)) (by omega)).trans ((Below.heap_setCell _ _ _ _ (by simp)).trans ((Below.heap_setCell _ _ _ _ (by simp)).trans ((Below.heap_setCell _ _ _ _ (by simp)).trans (unhide HR2)))))
  have HK3 := hide (((unhide HK2).set3 (b := w.heap.size + 1) (by simp)).trans hk3)
  have H3 := hide h3
  clear h3 hk3 d0 d1 d2 d3 d4 d5 d6 d7 d8 d9 d10 d11 e0 e1 e2 e3 e4 e5 e6 e7 e8 e9 e10 e11 HK2 H2 HX2 HR2
  generalize hs3 : rMust L [58] k.2 = s3 at H3
  have E3 := hide hs3
  clear hs3
  go_wp2_with fail
  refine (next_lit [91] _ R v L s3 (unhide H3)).mono ?_
  rintro e w4 ⟨rfl, h4, hk4⟩
  have HX4 := hide ((hk4.block (w.heap.size + 1) (lt_of_block (unhide HX3)) (by omega)).trans (unhide HX3))
  have HR4 := hide ((hk4.block w.heap.size (lt_of_block (unhide HR3)) (by omega)).trans (unhide HR3))
  have HK4 := hide ((unhide HK3).trans hk4)
  have H4 := hide h4
  clear h4 hk4 HK3 H3 HX3 HR3
  cases hov : rNext L [91] s3
  · have E4 := hide (show rOver L s3 = (noTok, s3) by simp [rOver, hov])
    obtain ⟨w5, hw5⟩ : ∃ w5, w5 = w4 := ⟨_, rfl⟩
    rw [← hw5]
    rw [← hw5] at HX4 H4 HR4 HK4
    clear hw5
    obtain ⟨o, ho⟩ : ∃ o : Tok × RS, o = (noTok, s3) := ⟨_, rfl⟩
    have HX5 := hide (show w5.heap[w.heap.size + 1]? = some (.cells #[.string k.1.kind, .string k.1.text, .int .i64 k.1.at_, .string o.1.kind, .string o.1.text, .int .i64 o.1.at_, .string ⟨#[]⟩, .string ⟨#[]⟩, .int .i64 0, .string ⟨#[]⟩, .string ⟨#[]⟩, .int .i64 0] 89 (0, 0)) by rw [ho]; exact unhide HX4)
    have H5 := hide (show Rd w5 R v L o.2 by rw [ho]; exact unhide H4)
    have HR5 := HR4
    have HK5 := HK4
    rw [← ho] at E4
    have ho' := hide ho
    clear ho HX4 H4 HR4 HK4
    obtain ⟨c0, c1, c2, c3, f0, f1, f2, f3⟩ := row4 (unhide H5).rd
    obtain ⟨gb, cap, hv, hg, hgl, hRl, t0, t1, t2⟩ := (unhide H5).open
    rw [hv] at c0
    have hgw : gb < w.heap.size := unhide HV gb (by rw [hv]; rfl)
    have hlt5 := (unhide H5).lt
    have hlen5 := (unhide H5).len
    obtain ⟨d0, d1, d2, d3, d4, d5, d6, d7, d8, d9, d10, d11, e0, e1, e2, e3, e4, e5, e6, e7, e8, e9, e10, e11⟩ := row12 (unhide HX5)
    have hz5 := lt_of_block (unhide HX5)
    clear hv
    generalize hty : tk L o.2.at_ = ty at t0 t1 t2
    have E6 := hide hty
    clear hty
    go_wp2_with fail
    go_region
    have HX6 := hide (show ((((w5.setCell ⟨w.heap.size + 1, 6, none⟩ (.string ty.kind)).setCell ⟨w.heap.size + 1, 7, none⟩ (.string ty.text)).setCell ⟨w.heap.size + 1, 8, none⟩ (.int .i64 ty.at_)).drew).heap[w.heap.size + 1]? = _ from set12c (unhide HX5) _ _ _)
    have HR6 := hide (show ((((w5.setCell ⟨w.heap.size + 1, 6, none⟩ (.string ty.kind)).setCell ⟨w.heap.size + 1, 7, none⟩ (.string ty.text)).setCell ⟨w.heap.size + 1, 8, none⟩ (.int .i64 ty.at_)).drew).heap[w.heap.size]? = _ from (Below.heap_setCell _ _ _ _ (by simp)).trans ((Below.heap_setCell _ _ _ _ (by simp)).trans ((Below.heap_setCell _ _ _ _ (by simp)).trans (unhide HR5))))
    have HK6 := hide (((unhide HK5).set3 (b := w.heap.size + 1) (i := 6) (j := 7) (k := 8) (x := .string ty.kind) (y := .string ty.text) (z := .int .i64 ty.at_) (by simp)).drew)
    have H6 := hide (((unhide H5).set3 (b := w.heap.size + 1) (i := 6) (j := 7) (k := 8) (x := .string ty.kind) (y := .string ty.text) (z := .int .i64 ty.at_) (unhide HV) hX (by simp)).below ((Below.refl _ _).drew))
    clear c0 c1 c2 c3 f0 f1 f2 f3 t0 t1 t2 d0 d1 d2 d3 d4 d5 d6 d7 d8 d9 d10 d11 e0 e1 e2 e3 e4 e5 e6 e7 e8 e9 e10 e11 HX5 HR5 HK5 H5
    generalize ((((w5.setCell ⟨w.heap.size + 1, 6, none⟩ (.string ty.kind)).setCell ⟨w.heap.size + 1, 7, none⟩ (.string ty.text)).setCell ⟨w.heap.size + 1, 8, none⟩ (.int .i64 ty.at_)).drew) = w6 at HX6 HR6 HK6 H6 ⊢
    go_wp2_with fail
    refine (next_lit [98, 111, 111, 108] _ R v L o.2 (unhide H6)).mono ?_
    rintro e w7 ⟨rfl, h7, hk7⟩
    have HX7 := hide ((hk7.block (w.heap.size + 1) (lt_of_block (unhide HX6)) (by omega)).trans (unhide HX6))
    have HR7 := hide ((hk7.block w.heap.size (lt_of_block (unhide HR6)) (by omega)).trans (unhide HR6))
    have HK7 := hide ((unhide HK6).trans hk7)
    have H7 := hide h7
    clear h7 hk7 HK6 H6 HX6 HR6
    go_wp2_with fail
    refine (next_lit [116, 111] _ R v L o.2 (unhide H7)).mono ?_
    rintro e w8 ⟨rfl, h8, hk8⟩
    have HX8 := hide ((hk8.block (w.heap.size + 1) (lt_of_block (unhide HX7)) (by omega)).trans (unhide HX7))
    have HR8 := hide ((hk8.block w.heap.size (lt_of_block (unhide HR7)) (by omega)).trans (unhide HR7))
    have HK8 := hide ((unhide HK7).trans hk8)
    have H8 := hide h8
    clear h8 hk8 HK7 H7 HX7 HR7
    cases hbo : rNext L [98, 111, 111, 108] o.2
    · cases hto : rNext L [116, 111] o.2
      · have E5 := hide (show rTop L o.2 = (noTok, (rKind L [110, 97, 109, 101] o.2).2) by simp [rTop, hbo, hto])
        go_wp2_with fail
        refine (kind_lit [110, 97, 109, 101] _ R v L o.2 (unhide H8) rfl).mono ?_
        rintro e w9 ⟨rfl, h9, hk9⟩
        have HX9 := hide ((hk9.block (w.heap.size + 1) (lt_of_block (unhide HX8)) (by omega)).trans (unhide HX8))
        have HR9 := hide ((hk9.block w.heap.size (lt_of_block (unhide HR8)) (by omega)).trans (unhide HR8))
        have HK9 := hide ((unhide HK8).trans hk9)
        have H9 := hide h9
        clear h9 hk9 HK8 H8 HX8 HR8
        go_wp2_with fail
        refine (must_lit [59] _ R v L _ (unhide H9)).mono ?_
        rintro e w20 ⟨rfl, h20, hk20⟩
        have hx20 := (hk20.block (w.heap.size + 1) (lt_of_block (unhide HX9)) (by omega)).trans (unhide HX9)
        have hr20 := (hk20.block w.heap.size (lt_of_block (unhide HR9)) (by omega)).trans (unhide HR9)
        have HK20 := hide ((unhide HK9).trans hk20)
        have H20 := hide h20
        have HR20 := hide hr20
        obtain ⟨d0, d1, d2, d3, d4, d5, d6, d7, d8, d9, d10, d11, e0, e1, e2, e3, e4, e5, e6, e7, e8, e9, e10, e11⟩ := row12 hx20
        obtain ⟨g0, g1, g2, g3, g4, g5, g6, g7, g8, g9, g10, g11, m0, m1, m2, m3, m4, m5, m6, m7, m8, m9, m10, m11⟩ := row12 hr20
        have HE := hide (rVar_of (unhide E1) (unhide E2) (unhide E3) (unhide E4) (unhide E5))
        rw [unhide E6] at HE
        clear h20 hk20 hx20 hr20 HK9 H9 HX9 HR9
        go_wp2
        refine bodyPost_ret (v := varV { name := k.1, over := o.1, type_ := ty, top := noTok }) (results_cell_row Tryz.results33 _ _ w.heap.size _ _ _ _ rfl (set12 (unhide HR20) _ _ _ _ _ _ _ _ _ _ _ _) Tryz.underlying89 rfl (by kernel_rfl)) rfl ?_
        rw [unhide HE]
        exact ⟨rfl, (unhide H20).set12 (unhide HV) hX (Nat.le_refl _), (unhide HK20).set12 (Nat.le_refl _)⟩
      · have E5 := hide (show rTop L o.2 = rKind L [100, 105, 103, 105, 116] (rMust L [116, 111] o.2) by simp [rTop, hbo, hto])
        go_wp2_with fail
        refine (must_lit [116, 111] _ R v L o.2 (unhide H8)).mono ?_
        rintro e w9 ⟨rfl, h9, hk9⟩
        have HX9 := hide ((hk9.block (w.heap.size + 1) (lt_of_block (unhide HX8)) (by omega)).trans (unhide HX8))
        have HR9 := hide ((hk9.block w.heap.size (lt_of_block (unhide HR8)) (by omega)).trans (unhide HR8))
        have HK9 := hide ((unhide HK8).trans hk9)
        have H9 := hide h9
        clear h9 hk9 HK8 H8 HX8 HR8
        go_wp2_with fail
        refine (kind_lit [100, 105, 103, 105, 116] _ R v L _ (unhide H9) rfl).mono ?_
        rintro e w10 ⟨rfl, h10, hk10⟩
        have HX10 := hide ((hk10.block (w.heap.size + 1) (lt_of_block (unhide HX9)) (by omega)).trans (unhide HX9))
        have HR10 := hide ((hk10.block w.heap.size (lt_of_block (unhide HR9)) (by omega)).trans (unhide HR9))
        have HK10 := hide ((unhide HK9).trans hk10)
        have H10 := hide h10
        obtain ⟨d0, d1, d2, d3, d4, d5, d6, d7, d8, d9, d10, d11, e0, e1, e2, e3, e4, e5, e6, e7, e8, e9, e10, e11⟩ := row12 (unhide HX10)
        clear h10 hk10 HK9 H9 HX9 HR9
        generalize hdg : rKind L [100, 105, 103, 105, 116] (rMust L [116, 111] o.2) = dg at H10 E5 ⊢
        unfold tokV
        go_wp2_with fail
        refine (must_lit [59] _ R v L dg.2 ((unhide H10).set3 (unhide HV) hX (by simp))).mono ?_
        rintro e w20 ⟨rfl, h20, hk20⟩
        have hx20 := (hk20.block (w.heap.size + 1) (by simpa using lt_of_block (unhide HX10)) (by omega)).trans (set12d (unhide HX10) _ _ _)
        have hr20 := (hk20.block w.heap.size (by simpa using lt_of_block (unhide HR10)) (by omega)).trans ((Below.heap_setCell _ _ _ _ (by simp)).trans ((Below.heap_setCell _ _ _ _ (by simp)).trans ((Below.heap_setCell _ _ _ _ (by simp)).trans (unhide HR10))))
        have HK20 := hide (((unhide HK10).set3 (b := w.heap.size + 1) (by simp)).trans hk20)
        have H20 := hide h20
        have HR20 := hide hr20
        clear d0 d1 d2 d3 d4 d5 d6 d7 d8 d9 d10 d11 e0 e1 e2 e3 e4 e5 e6 e7 e8 e9 e10 e11
        obtain ⟨d0, d1, d2, d3, d4, d5, d6, d7, d8, d9, d10, d11, e0, e1, e2, e3, e4, e5, e6, e7, e8, e9, e10, e11⟩ := row12 hx20
        obtain ⟨g0, g1, g2, g3, g4, g5, g6, g7, g8, g9, g10, g11, m0, m1, m2, m3, m4, m5, m6, m7, m8, m9, m10, m11⟩ := row12 hr20
        have HE := hide (rVar_of (unhide E1) (unhide E2) (unhide E3) (unhide E4) (unhide E5))
        rw [unhide E6] at HE
        clear h20 hk20 hx20 hr20 HK10 H10 HX10 HR10
        go_wp2
        refine bodyPost_ret (v := varV { name := k.1, over := o.1, type_ := ty, top := dg.1 }) (results_cell_row Tryz.results33 _ _ w.heap.size _ _ _ _ rfl (set12 (unhide HR20) _ _ _ _ _ _ _ _ _ _ _ _) Tryz.underlying89 rfl (by kernel_rfl)) rfl ?_
        rw [unhide HE]
        exact ⟨rfl, (unhide H20).set12 (unhide HV) hX (Nat.le_refl _), (unhide HK20).set12 (Nat.le_refl _)⟩
    · have E5 := hide (show rTop L o.2 = (noTok, rMust L [98, 111, 111, 108] o.2) by simp [rTop, hbo])
      go_wp2_with fail
      refine (must_lit [98, 111, 111, 108] _ R v L o.2 (unhide H8)).mono ?_
      rintro e w9 ⟨rfl, h9, hk9⟩
      have HX9 := hide ((hk9.block (w.heap.size + 1) (lt_of_block (unhide HX8)) (by omega)).trans (unhide HX8))
      have HR9 := hide ((hk9.block w.heap.size (lt_of_block (unhide HR8)) (by omega)).trans (unhide HR8))
      have HK9 := hide ((unhide HK8).trans hk9)
      have H9 := hide h9
      clear h9 hk9 HK8 H8 HX8 HR8
      go_wp2_with fail
      refine (must_lit [59] _ R v L _ (unhide H9)).mono ?_
      rintro e w20 ⟨rfl, h20, hk20⟩
      have hx20 := (hk20.block (w.heap.size + 1) (lt_of_block (unhide HX9)) (by omega)).trans (unhide HX9)
      have hr20 := (hk20.block w.heap.size (lt_of_block (unhide HR9)) (by omega)).trans (unhide HR9)
      have HK20 := hide ((unhide HK9).trans hk20)
      have H20 := hide h20
      have HR20 := hide hr20
      obtain ⟨d0, d1, d2, d3, d4, d5, d6, d7, d8, d9, d10, d11, e0, e1, e2, e3, e4, e5, e6, e7, e8, e9, e10, e11⟩ := row12 hx20
      obtain ⟨g0, g1, g2, g3, g4, g5, g6, g7, g8, g9, g10, g11, m0, m1, m2, m3, m4, m5, m6, m7, m8, m9, m10, m11⟩ := row12 hr20
      have HE := hide (rVar_of (unhide E1) (unhide E2) (unhide E3) (unhide E4) (unhide E5))
      rw [unhide E6] at HE
      clear h20 hk20 hx20 hr20 HK9 H9 HX9 HR9
      go_wp2
      refine bodyPost_ret (v := varV { name := k.1, over := o.1, type_ := ty, top := noTok }) (results_cell_row Tryz.results33 _ _ w.heap.size _ _ _ _ rfl (set12 (unhide HR20) _ _ _ _ _ _ _ _ _ _ _ _) Tryz.underlying89 rfl (by kernel_rfl)) rfl ?_
      rw [unhide HE]
      exact ⟨rfl, (unhide H20).set12 (unhide HV) hX (Nat.le_refl _), (unhide HK20).set12 (Nat.le_refl _)⟩
  · have E4 := hide (show rOver L s3 = ((rKind L [110, 97, 109, 101] (rMust L [91] s3)).1, rMust L [93] (rKind L [110, 97, 109, 101] (rMust L [91] s3)).2) by simp [rOver, hov])
    go_wp2_with fail
    refine (must_lit [91] _ R v L s3 (unhide H4)).mono ?_
    rintro e w14 ⟨rfl, h14, hk14⟩
    have HX14 := hide ((hk14.block (w.heap.size + 1) (lt_of_block (unhide HX4)) (by omega)).trans (unhide HX4))
    have HR14 := hide ((hk14.block w.heap.size (lt_of_block (unhide HR4)) (by omega)).trans (unhide HR4))
    have HK14 := hide ((unhide HK4).trans hk14)
    have H14 := hide h14
    clear h14 hk14 HK4 H4 HX4 HR4
    go_wp2_with fail
    refine (kind_lit [110, 97, 109, 101] _ R v L _ (unhide H14) rfl).mono ?_
    rintro e w15 ⟨rfl, h15, hk15⟩
    have HX15 := hide ((hk15.block (w.heap.size + 1) (lt_of_block (unhide HX14)) (by omega)).trans (unhide HX14))
    have HR15 := hide ((hk15.block w.heap.size (lt_of_block (unhide HR14)) (by omega)).trans (unhide HR14))
    have HK15 := hide ((unhide HK14).trans hk15)
    have H15 := hide h15
    obtain ⟨d0, d1, d2, d3, d4, d5, d6, d7, d8, d9, d10, d11, e0, e1, e2, e3, e4, e5, e6, e7, e8, e9, e10, e11⟩ := row12 (unhide HX15)
    clear h15 hk15 HK14 H14 HX14 HR14
    generalize hov2 : rKind L [110, 97, 109, 101] (rMust L [91] s3) = ov at H15 E4 ⊢
    unfold tokV
    go_wp2_with fail
    refine (must_lit [93] _ R v L ov.2 ((unhide H15).set3 (unhide HV) hX (by simp))).mono ?_
    rintro e w5 ⟨rfl, h5, hk5⟩
    obtain ⟨o, ho⟩ : ∃ o : Tok × RS, o = (ov.1, rMust L [93] ov.2) := ⟨_, rfl⟩
    have hx5 := (hk5.block (w.heap.size + 1) (by simpa using lt_of_block (unhide HX15)) (by omega)).trans (set12b (unhide HX15) _ _ _)
    have HX5 := hide (show w5.heap[w.heap.size + 1]? = some (.cells #[.string k.1.kind, .string k.1.text, .int .i64 k.1.at_, .string o.1.kind, .string o.1.text, .int .i64 o.1.at_, .string ⟨#[]⟩, .string ⟨#[]⟩, .int .i64 0, .string ⟨#[]⟩, .string ⟨#[]⟩, .int .i64 0] 89 (0, 0)) by rw [ho]; exact hx5)
    have H5 := hide (show Rd w5 R v L o.2 by rw [ho]; exact h5)
    have HR5 := hide ((hk5.block w.heap.size (by simpa using lt_of_block (unhide HR15)) (by omega)).trans ((Below.heap_setCell _ _ _ _ (by simp)).trans ((Below.heap_setCell _ _ _ _ (by simp)).trans ((Below.heap_setCell _ _ _ _ (by simp)).trans (unhide HR15)))))
    have HK5 := hide (((unhide HK15).set3 (b := w.heap.size + 1) (by simp)).trans hk5)
    rw [← ho] at E4
    have ho' := hide ho
    clear ho h5 hk5 hx5 HX15 H15 HR15 HK15 hov2 d0 d1 d2 d3 d4 d5 d6 d7 d8 d9 d10 d11 e0 e1 e2 e3 e4 e5 e6 e7 e8 e9 e10 e11
    obtain ⟨c0, c1, c2, c3, f0, f1, f2, f3⟩ := row4 (unhide H5).rd
    obtain ⟨gb, cap, hv, hg, hgl, hRl, t0, t1, t2⟩ := (unhide H5).open
    rw [hv] at c0
    have hgw : gb < w.heap.size := unhide HV gb (by rw [hv]; rfl)
    have hlt5 := (unhide H5).lt
    have hlen5 := (unhide H5).len
    obtain ⟨d0, d1, d2, d3, d4, d5, d6, d7, d8, d9, d10, d11, e0, e1, e2, e3, e4, e5, e6, e7, e8, e9, e10, e11⟩ := row12 (unhide HX5)
    have hz5 := lt_of_block (unhide HX5)
    clear hv
    generalize hty : tk L o.2.at_ = ty at t0 t1 t2
    have E6 := hide hty
    clear hty
    go_wp2_with fail
    go_region
    have HX6 := hide (show ((((w5.setCell ⟨w.heap.size + 1, 6, none⟩ (.string ty.kind)).setCell ⟨w.heap.size + 1, 7, none⟩ (.string ty.text)).setCell ⟨w.heap.size + 1, 8, none⟩ (.int .i64 ty.at_)).drew).heap[w.heap.size + 1]? = _ from set12c (unhide HX5) _ _ _)
    have HR6 := hide (show ((((w5.setCell ⟨w.heap.size + 1, 6, none⟩ (.string ty.kind)).setCell ⟨w.heap.size + 1, 7, none⟩ (.string ty.text)).setCell ⟨w.heap.size + 1, 8, none⟩ (.int .i64 ty.at_)).drew).heap[w.heap.size]? = _ from (Below.heap_setCell _ _ _ _ (by simp)).trans ((Below.heap_setCell _ _ _ _ (by simp)).trans ((Below.heap_setCell _ _ _ _ (by simp)).trans (unhide HR5))))
    have HK6 := hide (((unhide HK5).set3 (b := w.heap.size + 1) (i := 6) (j := 7) (k := 8) (x := .string ty.kind) (y := .string ty.text) (z := .int .i64 ty.at_) (by simp)).drew)
    have H6 := hide (((unhide H5).set3 (b := w.heap.size + 1) (i := 6) (j := 7) (k := 8) (x := .string ty.kind) (y := .string ty.text) (z := .int .i64 ty.at_) (unhide HV) hX (by simp)).below ((Below.refl _ _).drew))
    clear c0 c1 c2 c3 f0 f1 f2 f3 t0 t1 t2 d0 d1 d2 d3 d4 d5 d6 d7 d8 d9 d10 d11 e0 e1 e2 e3 e4 e5 e6 e7 e8 e9 e10 e11 HX5 HR5 HK5 H5
    generalize ((((w5.setCell ⟨w.heap.size + 1, 6, none⟩ (.string ty.kind)).setCell ⟨w.heap.size + 1, 7, none⟩ (.string ty.text)).setCell ⟨w.heap.size + 1, 8, none⟩ (.int .i64 ty.at_)).drew) = w6 at HX6 HR6 HK6 H6 ⊢
    go_wp2_with fail
    refine (next_lit [98, 111, 111, 108] _ R v L o.2 (unhide H6)).mono ?_
    rintro e w7 ⟨rfl, h7, hk7⟩
    have HX7 := hide ((hk7.block (w.heap.size + 1) (lt_of_block (unhide HX6)) (by omega)).trans (unhide HX6))
    have HR7 := hide ((hk7.block w.heap.size (lt_of_block (unhide HR6)) (by omega)).trans (unhide HR6))
    have HK7 := hide ((unhide HK6).trans hk7)
    have H7 := hide h7
    clear h7 hk7 HK6 H6 HX6 HR6
    go_wp2_with fail
    refine (next_lit [116, 111] _ R v L o.2 (unhide H7)).mono ?_
    rintro e w8 ⟨rfl, h8, hk8⟩
    have HX8 := hide ((hk8.block (w.heap.size + 1) (lt_of_block (unhide HX7)) (by omega)).trans (unhide HX7))
    have HR8 := hide ((hk8.block w.heap.size (lt_of_block (unhide HR7)) (by omega)).trans (unhide HR7))
    have HK8 := hide ((unhide HK7).trans hk8)
    have H8 := hide h8
    clear h8 hk8 HK7 H7 HX7 HR7
    cases hbo : rNext L [98, 111, 111, 108] o.2
    · cases hto : rNext L [116, 111] o.2
      · have E5 := hide (show rTop L o.2 = (noTok, (rKind L [110, 97, 109, 101] o.2).2) by simp [rTop, hbo, hto])
        go_wp2_with fail
        refine (kind_lit [110, 97, 109, 101] _ R v L o.2 (unhide H8) rfl).mono ?_
        rintro e w9 ⟨rfl, h9, hk9⟩
        have HX9 := hide ((hk9.block (w.heap.size + 1) (lt_of_block (unhide HX8)) (by omega)).trans (unhide HX8))
        have HR9 := hide ((hk9.block w.heap.size (lt_of_block (unhide HR8)) (by omega)).trans (unhide HR8))
        have HK9 := hide ((unhide HK8).trans hk9)
        have H9 := hide h9
        clear h9 hk9 HK8 H8 HX8 HR8
        go_wp2_with fail
        refine (must_lit [59] _ R v L _ (unhide H9)).mono ?_
        rintro e w20 ⟨rfl, h20, hk20⟩
        have hx20 := (hk20.block (w.heap.size + 1) (lt_of_block (unhide HX9)) (by omega)).trans (unhide HX9)
        have hr20 := (hk20.block w.heap.size (lt_of_block (unhide HR9)) (by omega)).trans (unhide HR9)
        have HK20 := hide ((unhide HK9).trans hk20)
        have H20 := hide h20
        have HR20 := hide hr20
        obtain ⟨d0, d1, d2, d3, d4, d5, d6, d7, d8, d9, d10, d11, e0, e1, e2, e3, e4, e5, e6, e7, e8, e9, e10, e11⟩ := row12 hx20
        obtain ⟨g0, g1, g2, g3, g4, g5, g6, g7, g8, g9, g10, g11, m0, m1, m2, m3, m4, m5, m6, m7, m8, m9, m10, m11⟩ := row12 hr20
        have HE := hide (rVar_of (unhide E1) (unhide E2) (unhide E3) (unhide E4) (unhide E5))
        rw [unhide E6] at HE
        clear h20 hk20 hx20 hr20 HK9 H9 HX9 HR9
        go_wp2
        refine bodyPost_ret (v := varV { name := k.1, over := o.1, type_ := ty, top := noTok }) (results_cell_row Tryz.results33 _ _ w.heap.size _ _ _ _ rfl (set12 (unhide HR20) _ _ _ _ _ _ _ _ _ _ _ _) Tryz.underlying89 rfl (by kernel_rfl)) rfl ?_
        rw [unhide HE]
        exact ⟨rfl, (unhide H20).set12 (unhide HV) hX (Nat.le_refl _), (unhide HK20).set12 (Nat.le_refl _)⟩
      · have E5 := hide (show rTop L o.2 = rKind L [100, 105, 103, 105, 116] (rMust L [116, 111] o.2) by simp [rTop, hbo, hto])
        go_wp2_with fail
        refine (must_lit [116, 111] _ R v L o.2 (unhide H8)).mono ?_
        rintro e w9 ⟨rfl, h9, hk9⟩
        have HX9 := hide ((hk9.block (w.heap.size + 1) (lt_of_block (unhide HX8)) (by omega)).trans (unhide HX8))
        have HR9 := hide ((hk9.block w.heap.size (lt_of_block (unhide HR8)) (by omega)).trans (unhide HR8))
        have HK9 := hide ((unhide HK8).trans hk9)
        have H9 := hide h9
        clear h9 hk9 HK8 H8 HX8 HR8
        go_wp2_with fail
        refine (kind_lit [100, 105, 103, 105, 116] _ R v L _ (unhide H9) rfl).mono ?_
        rintro e w10 ⟨rfl, h10, hk10⟩
        have HX10 := hide ((hk10.block (w.heap.size + 1) (lt_of_block (unhide HX9)) (by omega)).trans (unhide HX9))
        have HR10 := hide ((hk10.block w.heap.size (lt_of_block (unhide HR9)) (by omega)).trans (unhide HR9))
        have HK10 := hide ((unhide HK9).trans hk10)
        have H10 := hide h10
        obtain ⟨d0, d1, d2, d3, d4, d5, d6, d7, d8, d9, d10, d11, e0, e1, e2, e3, e4, e5, e6, e7, e8, e9, e10, e11⟩ := row12 (unhide HX10)
        clear h10 hk10 HK9 H9 HX9 HR9
        generalize hdg : rKind L [100, 105, 103, 105, 116] (rMust L [116, 111] o.2) = dg at H10 E5 ⊢
        unfold tokV
        go_wp2_with fail
        refine (must_lit [59] _ R v L dg.2 ((unhide H10).set3 (unhide HV) hX (by simp))).mono ?_
        rintro e w20 ⟨rfl, h20, hk20⟩
        have hx20 := (hk20.block (w.heap.size + 1) (by simpa using lt_of_block (unhide HX10)) (by omega)).trans (set12d (unhide HX10) _ _ _)
        have hr20 := (hk20.block w.heap.size (by simpa using lt_of_block (unhide HR10)) (by omega)).trans ((Below.heap_setCell _ _ _ _ (by simp)).trans ((Below.heap_setCell _ _ _ _ (by simp)).trans ((Below.heap_setCell _ _ _ _ (by simp)).trans (unhide HR10))))
        have HK20 := hide (((unhide HK10).set3 (b := w.heap.size + 1) (by simp)).trans hk20)
        have H20 := hide h20
        have HR20 := hide hr20
        clear d0 d1 d2 d3 d4 d5 d6 d7 d8 d9 d10 d11 e0 e1 e2 e3 e4 e5 e6 e7 e8 e9 e10 e11
        obtain ⟨d0, d1, d2, d3, d4, d5, d6, d7, d8, d9, d10, d11, e0, e1, e2, e3, e4, e5, e6, e7, e8, e9, e10, e11⟩ := row12 hx20
        obtain ⟨g0, g1, g2, g3, g4, g5, g6, g7, g8, g9, g10, g11, m0, m1, m2, m3, m4, m5, m6, m7, m8, m9, m10, m11⟩ := row12 hr20
        have HE := hide (rVar_of (unhide E1) (unhide E2) (unhide E3) (unhide E4) (unhide E5))
        rw [unhide E6] at HE
        clear h20 hk20 hx20 hr20 HK10 H10 HX10 HR10
        go_wp2
        refine bodyPost_ret (v := varV { name := k.1, over := o.1, type_ := ty, top := dg.1 }) (results_cell_row Tryz.results33 _ _ w.heap.size _ _ _ _ rfl (set12 (unhide HR20) _ _ _ _ _ _ _ _ _ _ _ _) Tryz.underlying89 rfl (by kernel_rfl)) rfl ?_
        rw [unhide HE]
        exact ⟨rfl, (unhide H20).set12 (unhide HV) hX (Nat.le_refl _), (unhide HK20).set12 (Nat.le_refl _)⟩
    · have E5 := hide (show rTop L o.2 = (noTok, rMust L [98, 111, 111, 108] o.2) by simp [rTop, hbo])
      go_wp2_with fail
      refine (must_lit [98, 111, 111, 108] _ R v L o.2 (unhide H8)).mono ?_
      rintro e w9 ⟨rfl, h9, hk9⟩
      have HX9 := hide ((hk9.block (w.heap.size + 1) (lt_of_block (unhide HX8)) (by omega)).trans (unhide HX8))
      have HR9 := hide ((hk9.block w.heap.size (lt_of_block (unhide HR8)) (by omega)).trans (unhide HR8))
      have HK9 := hide ((unhide HK8).trans hk9)
      have H9 := hide h9
      clear h9 hk9 HK8 H8 HX8 HR8
      go_wp2_with fail
      refine (must_lit [59] _ R v L _ (unhide H9)).mono ?_
      rintro e w20 ⟨rfl, h20, hk20⟩
      have hx20 := (hk20.block (w.heap.size + 1) (lt_of_block (unhide HX9)) (by omega)).trans (unhide HX9)
      have hr20 := (hk20.block w.heap.size (lt_of_block (unhide HR9)) (by omega)).trans (unhide HR9)
      have HK20 := hide ((unhide HK9).trans hk20)
      have H20 := hide h20
      have HR20 := hide hr20
      obtain ⟨d0, d1, d2, d3, d4, d5, d6, d7, d8, d9, d10, d11, e0, e1, e2, e3, e4, e5, e6, e7, e8, e9, e10, e11⟩ := row12 hx20
      obtain ⟨g0, g1, g2, g3, g4, g5, g6, g7, g8, g9, g10, g11, m0, m1, m2, m3, m4, m5, m6, m7, m8, m9, m10, m11⟩ := row12 hr20
      have HE := hide (rVar_of (unhide E1) (unhide E2) (unhide E3) (unhide E4) (unhide E5))
      rw [unhide E6] at HE
      clear h20 hk20 hx20 hr20 HK9 H9 HX9 HR9
      go_wp2
      refine bodyPost_ret (v := varV { name := k.1, over := o.1, type_ := ty, top := noTok }) (results_cell_row Tryz.results33 _ _ w.heap.size _ _ _ _ rfl (set12 (unhide HR20) _ _ _ _ _ _ _ _ _ _ _ _) Tryz.underlying89 rfl (by kernel_rfl)) rfl ?_
      rw [unhide HE]
      exact ⟨rfl, (unhide H20).set12 (unhide HV) hX (Nat.le_refl _), (unhide HK20).set12 (Nat.le_refl _)⟩

end Go.Proofs.YtpmcnonmkghokaaGreat
namespace Go.Proofs.YtpmcnonmkghokaaGreat
open Go.RowKit

structure PSet where
  name : Tok
  size : Tok
def setCells1 (s : PSet) : List Value := tokCells s.name ++ tokCells s.size
def setsCells (l : List PSet) : List Value := l.flatMap setCells1
theorem setsCells_snoc (l : List PSet) (p : PSet) : setsCells (l ++ [p]) = setsCells l ++ setCells1 p := by simp [setsCells]

def rSet1 (L : List Tok) (st : RS) : PSet × RS :=
  (⟨(rKind L [110, 97, 109, 101] (rMust L [115, 101, 116] st)).1, (rKind L [100, 105, 103, 105, 116] (rKind L [110, 97, 109, 101] (rMust L [115, 101, 116] st)).2).1⟩,
   rMust L [59] (rKind L [100, 105, 103, 105, 116] (rKind L [110, 97, 109, 101] (rMust L [115, 101, 116] st)).2).2)
def rSets : Nat → List Tok → List PSet → RS → List PSet × RS
  | 0, _, l, st => (l, st)
  | f + 1, L, l, st => if rNext L [115, 101, 116] st then rSets f L (l ++ [(rSet1 L st).1]) (rSet1 L st).2 else (l, st)

structure PKind where
  name : Tok
  members : List Tok
def rKind1 (L : List Tok) (st : RS) : PKind × RS :=
  (⟨(rKind L [110, 97, 109, 101] (rMust L [107, 105, 110, 100] st)).1, (rMembers L (rKind L [110, 97, 109, 101] (rMust L [107, 105, 110, 100] st)).2).1⟩, (rMembers L (rKind L [110, 97, 109, 101] (rMust L [107, 105, 110, 100] st)).2).2)
def rKinds : Nat → List Tok → List PKind → RS → List PKind × RS
  | 0, _, l, st => (l, st)
  | f + 1, L, l, st => if rNext L [107, 105, 110, 100] st then rKinds f L (l ++ [(rKind1 L st).1]) (rKind1 L st).2 else (l, st)

theorem next_must_at {L : List Tok} {s : List UInt8} {st : RS} (h : rNext L s st = true) (ho : opens s = false) : (rMust L s st).at_ = st.at_ + 1 := by
  apply rMust_ok
  unfold rMust
  rw [h, ho]; rfl
theorem rSet1_prog {L : List Tok} {st : RS} (h : rNext L [115, 101, 116] st = true) : st.at_ + 1 ≤ (rSet1 L st).2.at_ := by
  have h1 := next_must_at h rfl
  have h2 := rKind_mono L [110, 97, 109, 101] (rMust L [115, 101, 116] st)
  have h3 := rKind_mono L [100, 105, 103, 105, 116] (rKind L [110, 97, 109, 101] (rMust L [115, 101, 116] st)).2
  have h4 := rMust_mono L [59] (rKind L [100, 105, 103, 105, 116] (rKind L [110, 97, 109, 101] (rMust L [115, 101, 116] st)).2).2
  show st.at_ + 1 ≤ (rMust L [59] (rKind L [100, 105, 103, 105, 116] (rKind L [110, 97, 109, 101] (rMust L [115, 101, 116] st)).2).2).at_
  omega

theorem frozen_later {w wx : World} {a : Addr} {b : Bool} (hb : Below w.heap.size w wx) (hl : a.block < w.heap.size) (h : w.frozen? a = b) : wx.frozen? a = b := (hb.frozen hl).trans h
theorem Kept.toBelow {R B : Nat} {w w' : World} (h : Kept R w w') (hB : B ≤ R) (hw : B ≤ w.heap.size) : Below B w w' :=
  ⟨h.os, h.tape, h.output, h.size, fun k hk => h.block k (by omega) (by omega)⟩

theorem Tryz.infoSet : (Tryz.prog.info? 98).map (fun i => (i.zero, i.size, i.bytes)) = some (some (.agg #[.string ⟨#[]⟩, .string ⟨#[]⟩, .int .i64 0, .string ⟨#[]⟩, .string ⟨#[]⟩, .int .i64 0]), 6, 80) := by kernel_rfl

/-- What holds at the head of a round of the first loop of heads. B: below all that reading made; the Reader lies at R, the tree at T. -/
def SetRel (B R T : Nat) (w : World) (v : Value) (L : List Tok) (fin : List PSet × RS) (m : Value) (wr : World) : Prop :=
  ∃ (l : List PSet) (st : RS) (g : Nat) (x : Value), m = .bool (rNext L [115, 101, 116] st) ∧ wr.heap[T]? = some (.cells #[x, .slice none 0 0, .slice none 0 0, .slice none 0 0, .slice none 0 0] 86 (0, 0)) ∧
    wr.ownsRow (T + 1) 98 6 x l.length (setsCells l) ∧ Rd wr R v L st ∧ Below B w wr ∧ rSets g L l st = fin ∧ L.length - st.at_ + 1 ≤ g ∧ l.length ≤ st.at_

theorem setCells1_one (p : PSet) : ∀ u ∈ setCells1 p, u.oneCell' = true := by
  intro u h
  simp only [setCells1, List.mem_append] at h
  rcases h with h | h <;> exact tokCells_one _ u h

theorem owns_grown {lo base size size' e e' : Nat} {w w' : World} {u v : Value} {n m : Nat} {xs zs : List Value} (h : w.ownsRow lo e' size' u m xs) (hv : w.ownsRow base e size v n zs) (he : e' ≠ e) (hg : w.grownBy w' v.ownBlock) : w'.ownsRow lo e' size' u m xs := by
  refine h.kept hg ?_
  cases hu : u.ownBlock with
  | none => exact Or.inl rfl
  | some j =>
    refine Or.inr fun hj => ?_
    rcases h.2 with ⟨rfl, _⟩ | ⟨g, cap, cur, rfl, _, hh, _⟩
    · simp [Value.ownBlock] at hu
    · simp [Value.ownBlock] at hu
      subst hu
      exact not_row hv hh he hj

/-- Kinds as they lie in a row: a name, and a slice of members. -/
def KindsIs (lo : Nat) (w : World) : List PKind → List Value → Prop
  | [], xs => xs = []
  | k :: ks, xs => ∃ vm ys, xs = tokCells k.name ++ (vm :: ys) ∧ w.ownsRow lo 56 3 vm k.members.length (toksCells k.members) ∧ KindsIs lo w ks ys
theorem KindsIs.stay {lo : Nat} {w w' : World} (hk : ∀ k, lo ≤ k → k < w.heap.size → w'.heap[k]? = w.heap[k]?) : ∀ {ks : List PKind} {xs : List Value}, KindsIs lo w ks xs → KindsIs lo w' ks xs
  | [], _, h => h
  | k :: ks, xs, ⟨vm, ys, e, h1, h2⟩ => ⟨vm, ys, e, owns_stay hk h1, KindsIs.stay hk h2⟩
theorem KindsIs.kept {lo R : Nat} {w w' : World} {ks : List PKind} {xs : List Value} (h : KindsIs lo w ks xs) (hk : Kept R w w') (hR : R < lo) : KindsIs lo w' ks xs := h.stay fun k h1 h2 => hk.block k h2 (by omega)
theorem KindsIs.snoc {lo : Nat} {w : World} {k : PKind} {vm : Value} (hm : w.ownsRow lo 56 3 vm k.members.length (toksCells k.members)) : ∀ {ks : List PKind} {xs : List Value}, KindsIs lo w ks xs → KindsIs lo w (ks ++ [k]) (xs ++ (tokCells k.name ++ [vm]))
  | [], xs, h => by
    have : xs = [] := h
    subst this
    exact ⟨vm, [], rfl, hm, rfl⟩
  | k' :: ks, xs, ⟨v, ys, e, h1, h2⟩ => ⟨v, ys ++ (tokCells k.name ++ [vm]), by rw [e]; simp, h1, KindsIs.snoc hm h2⟩
theorem KindsIs.grown {lo base size e : Nat} {w w' : World} {v : Value} {n : Nat} {zs : List Value} (hv : w.ownsRow base e size v n zs) (he : 56 ≠ e) (hg : w.grownBy w' v.ownBlock) : ∀ {ks : List PKind} {xs : List Value}, KindsIs lo w ks xs → KindsIs lo w' ks xs
  | [], _, h => h
  | k :: ks, xs, ⟨vm, ys, e1, h1, h2⟩ => ⟨vm, ys, e1, owns_grown h1 hv he hg, KindsIs.grown hv he hg h2⟩

theorem Tryz.infoKind : (Tryz.prog.info? 101).map (fun i => (i.zero, i.size, i.bytes)) = some (some (.agg #[.string ⟨#[]⟩, .string ⟨#[]⟩, .int .i64 0, .slice none 0 0]), 4, 64) := by kernel_rfl

theorem set4abc {w : World} {b : Nat} {x0 x1 x2 x3 : Value} {t : TypeId} (h : w.heap[b]? = some (.cells #[x0, x1, x2, x3] t (0, 0))) (a c d : Value) :
    (((w.setCell ⟨b, 0, none⟩ a).setCell ⟨b, 1, none⟩ c).setCell ⟨b, 2, none⟩ d).heap[b]? = some (.cells #[a, c, d, x3] t (0, 0)) :=
  heap_setCell_same _ b 2 _ _ _ (heap_setCell_same _ b 1 _ _ _ (heap_setCell_same _ b 0 _ _ _ h))

theorem kindCells_one (t : Tok) (a : Option Addr) (l c : Nat) : ∀ u ∈ tokCells t ++ [Value.slice a l c], u.oneCell' = true := by
  intro u h
  simp only [List.mem_append, List.mem_singleton] at h
  rcases h with h | rfl
  · exact tokCells_one _ u h
  · rfl

def KinRel (B R T : Nat) (w : World) (v : Value) (L : List Tok) (sets : List PSet) (fin : List PKind × RS) (m : Value) (wr : World) : Prop :=
  ∃ (l : List PKind) (st : RS) (g : Nat) (x0 x : Value) (xs : List Value), m = .bool (rNext L [107, 105, 110, 100] st) ∧ wr.heap[T]? = some (.cells #[x0, x, .slice none 0 0, .slice none 0 0, .slice none 0 0] 86 (0, 0)) ∧
    wr.ownsRow (T + 1) 98 6 x0 sets.length (setsCells sets) ∧ wr.ownsRow (T + 1) 101 4 x l.length xs ∧ KindsIs (T + 1) wr l xs ∧ Rd wr R v L st ∧ Below B w wr ∧ rKinds g L l st = fin ∧ L.length - st.at_ + 1 ≤ g ∧ l.length ≤ st.at_

def rHeads (L : List Tok) (st : RS) : List PSet × List PKind × RS :=
  ((rSets (fuelM L) L [] st).1, rKinds (fuelM L) L [] (rSets (fuelM L) L [] st).2)
def HeadsPost (B R T : Nat) (v : Value) (L : List Tok) (w : World) (r : List PSet × List PKind × RS) (e : Ending) (w' : World) : Prop :=
  e = .returned (.tuple #[]) ∧ ∃ x0 x1 ys, w'.heap[T]? = some (.cells #[x0, x1, .slice none 0 0, .slice none 0 0, .slice none 0 0] 86 (0, 0)) ∧ w'.ownsRow (T + 1) 98 6 x0 r.1.length (setsCells r.1) ∧
    w'.ownsRow (T + 1) 101 4 x1 r.2.1.length ys ∧ KindsIs (T + 1) w' r.2.1 ys ∧ Rd w' R v L r.2.2 ∧ Below B w w' ∧ r.1.length ≤ 801 ∧ r.2.1.length ≤ 801

theorem rMembers_mono (L : List Tok) (st : RS) : st.at_ ≤ (rMembers L st).2.at_ := by
  have h : ∀ (f : Nat) (l : List Tok) (s : RS), s.at_ ≤ (rMem f L l s).2.at_ := by
    intro f
    induction f with
    | zero => intro l s; exact Nat.le_refl _
    | succ f ih =>
      intro l s
      rw [rMem]
      split
      · exact Nat.le_refl _
      · split
        · exact Nat.le_trans (Nat.le_trans (rKind_mono L _ s) (rMust_mono L [44] _)) (ih _ _)
        · exact rKind_mono L _ s
  exact Nat.le_trans (rMust_mono L [123] st) (Nat.le_trans (h _ _ _) (rMust_mono L [125] _))
theorem rKind1_prog {L : List Tok} {st : RS} (h : rNext L [107, 105, 110, 100] st = true) : st.at_ + 1 ≤ (rKind1 L st).2.at_ := by
  have h1 := next_must_at h rfl
  have h2 := rKind_mono L [110, 97, 109, 101] (rMust L [107, 105, 110, 100] st)
  have h3 := rMembers_mono L (rKind L [110, 97, 109, 101] (rMust L [107, 105, 110, 100] st)).2
  show st.at_ + 1 ≤ (rMembers L (rKind L [110, 97, 109, 101] (rMust L [107, 105, 110, 100] st)).2).2.at_
  omega

set_option maxRecDepth 100000 in
set_option maxHeartbeats 4000000 in
theorem heads_any (B R T : Nat) (w : World) (v : Value) (L : List Tok) (st : RS) (h : Rd w R v L st) (hBR : B ≤ R) (hRT : R < T) (hV : ∀ g, v.ownBlock = some g → g < B)
    (hT : w.heap[T]? = some (.cells #[.slice none 0 0, .slice none 0 0, .slice none 0 0, .slice none 0 0, .slice none 0 0] 86 (0, 0))) :
    Calls Tryz.prog 31 #[.pointer (some ⟨R, 0, none⟩), .pointer (some ⟨T, 0, none⟩)] w (HeadsPost B R T v L w (rHeads L st)) := by
  obtain ⟨i0, hi, hz0, hz1, hz2⟩ := info_parts Tryz.infoSet
  obtain ⟨i1, hj, hy0, hy1, hy2⟩ := info_parts Tryz.infoKind
  have HV := hide hV
  have hTl := lt_of_block hT
  go_enter Tryz.func31, Tryz.ntmps31
  go_wp2_with fail
  refine (next_lit [115, 101, 116] _ R v L st h).mono ?_
  rintro e w1 ⟨rfl, h1, hk1⟩
  have HR := hide (show SetRel B R T w v L (rSets (fuelM L) L [] st) (.bool (rNext L [115, 101, 116] st)) w1 from
    ⟨[], st, fuelM L, .slice none 0 0, rfl, (hk1.block T hTl (by omega)).trans hT, World.ownsRow_nil _ _ _ _, h1, hk1.toBelow hBR (by omega), rfl, by unfold fuelM; omega, Nat.zero_le _⟩)
  clear h h1 hk1 hV hT
  go_wp2_with fail
  go_loopw [4] (fun m wr => SetRel B R T w v L (rSets (fuelM L) L [] st) m wr) (fun _ wr => L.length - atOf wr R)
  case atStart => exact unhide HR
  case round =>
    obtain ⟨l, s2, g, x, rfl, hT, hown, h2, hb2, hF, hfu, hll⟩ := hrel
    have hlt2 := h2.lt
    have hlen := h2.len
    have hR2 := lt_of_block h2.rd
    have hT2 := lt_of_block hT
    have hBw := hb2.size
    have hw := hTl
    have HO := hide hown
    have H2 := hide h2
    have HB := hide hb2
    have HT := hide hT
    have HF := hide hF
    clear hown h2 hb2 hT hF
    cases hn : rNext L [115, 101, 116] s2
    · obtain ⟨g, rfl⟩ : ∃ g', g = g' + 1 := ⟨g - 1, by omega⟩
      have hF := unhide HF
      clear HF
      rw [rSets, hn] at hF
      simp only [Bool.false_eq_true, if_false] at hF
      have HF := hide hF
      have hsl : l.length ≤ 801 := by omega
      clear hF hfu
      go_wp2_with fail
      refine (next_lit [107, 105, 110, 100] _ R v L s2 (unhide H2)).mono ?_
      rintro e w3 ⟨rfl, h3, hk3⟩
      have HKR := hide (show KinRel B R T w v L l (rKinds (fuelM L) L [] s2) (.bool (rNext L [107, 105, 110, 100] s2)) w3 from
        ⟨[], s2, fuelM L, x, .slice none 0 0, [], rfl, (hk3.block T hT2 (by omega)).trans (unhide HT), owns_kept' (unhide HO) hk3 (by omega), World.ownsRow_nil _ _ _ _, rfl, h3, (unhide HB).trans (hk3.toBelow hBR (by omega)), rfl, by unfold fuelM; omega, Nat.zero_le _⟩)
      clear h3 hk3 H2 HO HT HB
      go_wp2_with fail
      go_loopw [6] (fun m wr => KinRel B R T w v L l (rKinds (fuelM L) L [] s2) m wr) (fun _ wr => L.length - atOf wr R)
      case atStart => exact unhide HKR
      case round =>
        clear hT2 hR2 hBw hlt2
        obtain ⟨kl, s5, g5, x0, x1, xs, rfl, hT, hown0, hown, hks, h5, hb5, hF5, hfu5, hkl⟩ := hrel
        have hlt5 := h5.lt
        have hlen5 := h5.len
        have hR5 := lt_of_block h5.rd
        have hT5 := lt_of_block hT
        have hBw5 := hb5.size
        have HO0 := hide hown0
        have HO := hide hown
        have HKS := hide hks
        have H5 := hide h5
        have HB := hide hb5
        have HT := hide hT
        have HF5 := hide hF5
        clear hown0 hown hks h5 hb5 hT hF5
        cases hn5 : rNext L [107, 105, 110, 100] s5
        · obtain ⟨g5, rfl⟩ : ∃ g', g5 = g' + 1 := ⟨g5 - 1, by omega⟩
          have hF := unhide HF5
          rw [rKinds, hn5] at hF
          simp only [Bool.false_eq_true, if_false] at hF
          have HF6 := hide hF
          clear HF5 hF
          go_wp2
          go_end0
          have e1 := unhide HF
          have e2 := unhide HF6
          have e3 : rHeads L st = (l, kl, s5) := by unfold rHeads; rw [← e1]; simp only; rw [← e2]
          rw [e3]
          exact ⟨rfl, x0, x1, xs, unhide HT, unhide HO0, unhide HO, unhide HKS, unhide H5, unhide HB, hsl, by simp only; omega⟩
        · obtain ⟨g5, rfl⟩ : ∃ g', g5 = g' + 1 := ⟨g5 - 1, by omega⟩
          have hF := unhide HF5
          rw [rKinds, if_pos hn5] at hF
          have HF6 := hide hF
          clear HF5 hF
          have hprog := rKind1_prog hn5
          have HVr := hide (show ∀ g, v.ownBlock = some g → g < wr.heap.size from fun g hg => by have := unhide HV g hg; omega)
          have HOl := hide (own_lt (unhide HO))
          have HOl0 := hide (own_lt (unhide HO0))
          go_wp2_with fail
          refine (must_lit [107, 105, 110, 100] _ R v L s5 ((unhide H5).below (below_alloc1 _ _))).mono ?_
          rintro e w6 ⟨rfl, h6, hk6⟩
          have HX6 := hide ((hk6.block wr.heap.size (by simp) (by omega)).trans (heap_alloc_new wr _))
          have HK6 := hide (((Kept.refl R wr).alloc _).trans hk6)
          have H6 := hide h6
          clear h6 hk6
          go_wp2_with fail
          refine (kind_lit [110, 97, 109, 101] _ R v L _ (unhide H6) rfl).mono ?_
          rintro e w7 ⟨rfl, h7, hk7⟩
          have hx7 := (hk7.block wr.heap.size (lt_of_block (unhide HX6)) (by omega)).trans (unhide HX6)
          obtain ⟨d0, d1, d2, d3, e0, e1, e2, e3⟩ := row4 hx7
          have HX7 := hide hx7
          have HK7 := hide ((unhide HK6).trans hk7)
          have H7 := hide h7
          clear h7 hk7 hx7 HX6 HK6 H6
          generalize hk : rKind L [110, 97, 109, 101] (rMust L [107, 105, 110, 100] s5) = k at H7 ⊢
          have E1 := hide hk
          clear hk
          unfold tokV
          go_wp2_with fail
          refine (members_any _ R v L k.2 ((unhide H7).set3 (unhide HVr) hR5 (Nat.le_refl _))).mono ?_
          rintro e w8 ⟨vm, rfl, hvm, h8, hk8, hml⟩
          have hx8 := (hk8.block wr.heap.size (by simpa using lt_of_block (unhide HX7)) (by omega)).trans (set4abc (unhide HX7) _ _ _)
          have hK8 := ((unhide HK7).set3 (b := wr.heap.size) (Nat.le_refl _)).trans hk8
          have hx7l := lt_of_block (unhide HX7)
          have HVM := hide (owns_mono (lo' := wr.heap.size + 1) (by simp; omega) hvm)
          have H8 := hide h8
          clear d0 d1 d2 d3 e0 e1 e2 e3 HX7 HK7 H7
          obtain ⟨d0, d1, d2, d3, e0, e1, e2, e3⟩ := row4 hx8
          obtain ⟨ma, ml, mc, rfl⟩ := own_slice hvm
          generalize hmm : rMembers L k.2 = M at HVM H8
          have E2 := hide hmm
          have hmX : (Value.slice ma ml mc).ownBlock ≠ some wr.heap.size := fun e => by have := own_ge (unhide HVM) _ e; omega
          have hx9 := heap_setCell_same w8 wr.heap.size 3 _ _ (.slice ma ml mc) hx8
          have hK9 := hK8.setNew (p := ⟨wr.heap.size, 3, none⟩) (Nat.le_refl _) (.slice ma ml mc)
          have h9 := (unhide H8).setNew (unhide HVr) hR5 (p := ⟨wr.heap.size, 3, none⟩) (Nat.le_refl _) (.slice ma ml mc)
          have hVM9 := ownsRow_setCell_other (unhide HVM) (a := ⟨wr.heap.size, 3, none⟩) hmX (.slice ma ml mc)
          clear hmm
          go_wp2_with fail
          generalize w8.setCell ⟨wr.heap.size, 3, none⟩ (.slice ma ml mc) = w9 at hx9 hK9 h9 hVM9 ⊢
          clear d0 d1 d2 d3 e0 e1 e2 e3
          obtain ⟨d0, d1, d2, d3, e0, e1, e2, e3⟩ := row4 hx9
          have hT9 := (hK9.block T hT5 (by omega)).trans (unhide HT)
          obtain ⟨q0, q1, q2, q3, q4, r0, r1, r2, r3, r4⟩ := row5 hT9
          have hT9l := lt_of_block hT9
          have hx9l := lt_of_block hx9
          have hz9 := hK9.size
          have HK9 := hide hK9
          have HT9 := hide hT9
          have H9 := hide h9
          have HVM9 := hide hVM9
          have HO9 := hide (owns_kept' (unhide HO) hK9 (by omega))
          have HO09 := hide (owns_kept' (unhide HO0) hK9 (by omega))
          have HKS9 := hide ((unhide HKS).kept hK9 (by omega))
          have hxT : x1.ownBlock ≠ some T := fun e => by have := own_ge (unhide HO9) T e; omega
          have hxX : x1.ownBlock ≠ some wr.heap.size := fun e => by have := unhide HOl _ e; omega
          clear hvm h8 hk8 hx8 hK8 HO HO0 HKS hx9 hK9 h9 hVM9 hT9 HVM H8 hmX
          go_region_law ((refine step_append_lies _ (by rfl) _ _ _ (by rfl) (T + 1) 101 i1 _ 4 64 Tryz.underlying83 hj hy0 hy1 hy2 rfl (by omega) x1 kl.length xs (by rfl) (((unhide HO9).alloc _).drew) ⟨w9.heap.size, 0, none⟩ 1 1 (tokCells k.1 ++ [Value.slice ma ml mc]) (by rfl) (by rfl) (World.news_of_block (cs := (tokCells k.1 ++ [Value.slice ma ml mc]).toArray) (t := 101) (fr := (0, 0)) (heap_alloc_new w9 _)) (kindCells_one _ _ _ _) (by omega) (by unfold maxLen; omega) (by omega) (by simp; omega) (w9.heap.size + 1) (by simp) ?_; intro gg cap w10 hown10 hgrow hat hlt10; have hf10 : w10.frozen? ⟨T, 1, none⟩ = false := (hgrow.frozen_far _ (by simp; omega) (Ne.symm hxT)).trans (frozen_later (below_alloc_drew _ _) hT9l r1); have hc10 : w10.cell? ⟨T, 1, none⟩ = some x1 := (hgrow.cell_far _ (by simp; omega) (Ne.symm hxT)).trans (cell_later (below_alloc_drew _ _) q1)))
          all_goals
            have hge := own_ge (unhide HO9)
            have h10 := ((unhide H9).below (below_alloc_drew _ _)).grown hgrow hge (fun g hg => by have := unhide HV g hg; omega) (by omega)
            have h11 := h10.setNew (B := T) (fun g hg => by have := unhide HV g hg; omega) hRT (p := ⟨T, 1, none⟩) (Nat.le_refl _) (.slice (some ⟨gg, 0, none⟩) (kl.length + 1) cap)
            have hT10 := (hgrow.block T (by simp; omega) (Ne.symm hxT)).trans ((Below.heap_alloc w9 _ T hT9l).trans (unhide HT9))
            have hT11 := heap_setCell_same w10 T 1 _ _ (.slice (some ⟨gg, 0, none⟩) (kl.length + 1) cap) hT10
            have hO11 := ownsRow_setCell_below hown10 (a := ⟨T, 1, none⟩) (by simp) (.slice (some ⟨gg, 0, none⟩) (kl.length + 1) cap)
            have hrow := ((unhide HO9).alloc (.cells (tokCells k.1 ++ [Value.slice ma ml mc]).toArray 101)).drew
            have hO011 := ownsRow_setCell_below (owns_grown (owns_stay (w' := (w9.alloc (.cells (tokCells k.1 ++ [Value.slice ma ml mc]).toArray 101)).drew) (fun j _ hj => Below.heap_alloc w9 _ j hj) (unhide HO09)) hrow (by decide) hgrow) (a := ⟨T, 1, none⟩) (by simp) (.slice (some ⟨gg, 0, none⟩) (kl.length + 1) cap)
            have hKS11 := (((((unhide HKS9).snoc (k := ⟨k.1, M.1⟩) (owns_mono (by omega) (unhide HVM9))).stay (w' := (w9.alloc (.cells (tokCells k.1 ++ [Value.slice ma ml mc]).toArray 101)).drew) (fun j _ hj => Below.heap_alloc w9 (.cells (tokCells k.1 ++ [Value.slice ma ml mc]).toArray 101) j hj)).grown hrow (by decide) hgrow).stay (w' := w10.setCell ⟨T, 1, none⟩ (.slice (some ⟨gg, 0, none⟩) (kl.length + 1) cap)) (fun j hj _ => Below.heap_setCell _ _ _ _ (by simp only; omega)))
            have hB11 : Below B w (w10.setCell ⟨T, 1, none⟩ (.slice (some ⟨gg, 0, none⟩) (kl.length + 1) cap)) :=
              (((((unhide HB).trans ((unhide HK9).toBelow hBR (by omega))).alloc (by omega) _).drew).grown hgrow (by simp; omega) (fun k hk => by have := hge k hk; omega)).setCell (by simp only; omega) _
            have H11 := hide h11
            have HT11 := hide hT11
            have HO11 := hide hO11
            have HO011 := hide hO011
            have HKS11 := hide hKS11
            have HB11 := hide hB11
            clear h10 h11 hT10 hT11 hO11 hO011 hKS11 hB11 hge hown10 hgrow hat hrow
            go_wp2_with fail
            refine (next_lit [107, 105, 110, 100] _ R v L _ (unhide H11)).mono ?_
            rintro e w12 ⟨rfl, h12, hk12⟩
            have hs1 : rKind1 L s5 = (⟨k.1, M.1⟩, M.2) := by unfold rKind1; rw [unhide E1, unhide E2]
            have hF := unhide HF6
            rw [hs1] at hF hprog
            have HR12 := hide (show KinRel B R T w v L l (rKinds (fuelM L) L [] s2) (.bool (rNext L [107, 105, 110, 100] M.2)) w12 from
              ⟨kl ++ [⟨k.1, M.1⟩], M.2, g5, x0, .slice (some ⟨gg, 0, none⟩) (kl.length + 1) cap, xs ++ (tokCells k.1 ++ [Value.slice ma ml mc]), rfl, (hk12.block T (by simpa using lt_of_block (unhide HT11)) (by omega)).trans (unhide HT11), owns_kept' (unhide HO011) hk12 (by omega),
                by rw [List.length_append]; exact owns_kept' (unhide HO11) hk12 (by omega), (unhide HKS11).kept hk12 (by omega), h12, (unhide HB11).trans (hk12.toBelow hBR (by have := (unhide HB11).size; omega)), hF, by simp only at hprog; omega, by rw [List.length_append]; simp only at hprog; simp; omega⟩)
            have HM := hide (show L.length - atOf w12 R < L.length - atOf wr R by rw [h12.atOf, (unhide H5).atOf]; simp only at hprog; have := h12.lt; omega)
            clear h12 hk12 hs1 hF
            go_wp2
            go_roundw
            case rel => exact unhide HR12
            case measure => exact unhide HM
    · obtain ⟨g, rfl⟩ : ∃ g', g = g' + 1 := ⟨g - 1, by omega⟩
      have hF := unhide HF
      clear HF
      rw [rSets, if_pos hn] at hF
      have HF := hide hF
      clear hF
      have hprog := rSet1_prog hn
      have HVr := hide (show ∀ g, v.ownBlock = some g → g < wr.heap.size from fun g hg => by have := unhide HV g hg; omega)
      have HOl := hide (own_lt (unhide HO))
      go_wp2_with fail
      refine (must_lit [115, 101, 116] _ R v L s2 ((unhide H2).below (below_alloc1 _ _))).mono ?_
      rintro e w3 ⟨rfl, h3, hk3⟩
      have HX3 := hide ((hk3.block wr.heap.size (by simp) (by omega)).trans (heap_alloc_new wr _))
      have HK3 := hide (((Kept.refl R wr).alloc _).trans hk3)
      have HO3 := hide (owns_kept' ((unhide HO).alloc _) hk3 (by omega))
      have H3 := hide h3
      clear h3 hk3
      go_wp2_with fail
      refine (kind_lit [110, 97, 109, 101] _ R v L _ (unhide H3) rfl).mono ?_
      rintro e w4 ⟨rfl, h4, hk4⟩
      have hx4 := (hk4.block wr.heap.size (lt_of_block (unhide HX3)) (by omega)).trans (unhide HX3)
      obtain ⟨d0, d1, d2, d3, d4, d5, e0, e1, e2, e3, e4, e5⟩ := row6 hx4
      have HX4 := hide hx4
      have HK4 := hide ((unhide HK3).trans hk4)
      have HO4 := hide (owns_kept' (unhide HO3) hk4 (by omega))
      have H4 := hide h4
      clear h4 hk4 hx4 HX3 HK3 HO3 H3
      generalize hk : rKind L [110, 97, 109, 101] (rMust L [115, 101, 116] s2) = k at H4 ⊢
      have E1 := hide hk
      clear hk
      unfold tokV
      go_wp2_with fail
      refine (kind_lit [100, 105, 103, 105, 116] _ R v L k.2 ((unhide H4).set3 (unhide HVr) hR2 (Nat.le_refl _)) rfl).mono ?_
      rintro e w5 ⟨rfl, h5, hk5⟩
      have hx5 := (hk5.block wr.heap.size (by simpa using lt_of_block (unhide HX4)) (by omega)).trans (set6a (unhide HX4) _ _ _)
      have HK5 := hide (((unhide HK4).set3 (b := wr.heap.size) (Nat.le_refl _)).trans hk5)
      have HO5 := hide (owns_kept' (owns_set3 (unhide HO4) (unhide HOl) (Nat.le_refl _)) hk5 (by omega))
      have H5 := hide h5
      clear d0 d1 d2 d3 d4 d5 e0 e1 e2 e3 e4 e5 HX4 HK4 HO4 H4
      obtain ⟨d0, d1, d2, d3, d4, d5, e0, e1, e2, e3, e4, e5⟩ := row6 hx5
      have HX5 := hide hx5
      clear h5 hk5 hx5
      generalize hd : rKind L [100, 105, 103, 105, 116] k.2 = d at H5 ⊢
      have E2 := hide hd
      clear hd
      unfold tokV
      go_wp2_with fail
      refine (must_lit [59] _ R v L d.2 ((unhide H5).set3 (unhide HVr) hR2 (Nat.le_refl _))).mono ?_
      rintro e w6 ⟨rfl, h6, hk6⟩
      have hx6 := (hk6.block wr.heap.size (by simpa using lt_of_block (unhide HX5)) (by omega)).trans (set6b (unhide HX5) _ _ _)
      have hK6 := ((unhide HK5).set3 (b := wr.heap.size) (Nat.le_refl _)).trans hk6
      have HO6 := hide (owns_kept' (owns_set3 (unhide HO5) (unhide HOl) (Nat.le_refl _)) hk6 (by omega))
      have hT6 := (hK6.block T hT2 (by omega)).trans (unhide HT)
      have H6 := hide h6
      clear d0 d1 d2 d3 d4 d5 e0 e1 e2 e3 e4 e5 HX5 HK5 HO5 H5
      obtain ⟨d0, d1, d2, d3, d4, d5, e0, e1, e2, e3, e4, e5⟩ := row6 hx6
      obtain ⟨q0, q1, q2, q3, q4, r0, r1, r2, r3, r4⟩ := row5 hT6
      have hz6 := hK6.size
      have hx6l := lt_of_block hx6
      have hT6l := lt_of_block hT6
      have hxT : x.ownBlock ≠ some T := fun e => by have := own_ge (unhide HO6) T e; omega
      have hxX : x.ownBlock ≠ some wr.heap.size := fun e => by have := unhide HOl _ e; omega
      have HX6 := hide hx6
      have HT6 := hide hT6
      have HK6 := hide hK6
      clear h6 hk6 hx6 hK6 hT6
      go_wp2_with fail
      go_region_law ((refine step_append_lies _ (by rfl) _ _ _ (by rfl) (T + 1) 98 i0 _ 6 80 Tryz.underlying82 hi hz0 hz1 hz2 rfl (by omega) x l.length (setsCells l) (by rfl) (((unhide HO6).alloc _).drew) ⟨w6.heap.size, 0, none⟩ 1 1 (setCells1 ⟨k.1, d.1⟩) (by rfl) (by rfl) (World.news_of_block (cs := (setCells1 ⟨k.1, d.1⟩).toArray) (t := 98) (fr := (0, 0)) (heap_alloc_new w6 _)) (setCells1_one _) (by omega) (by unfold maxLen; omega) (by omega) (by simp; omega) (w6.heap.size + 1) (by simp) ?_; intro gg cap w7 hown7 hgrow hat hlt7; have hf7 : w7.frozen? ⟨T, 0, none⟩ = false := (hgrow.frozen_far _ (by simp; omega) (Ne.symm hxT)).trans (frozen_later (below_alloc_drew _ _) hT6l r0); have hc7 : w7.cell? ⟨T, 0, none⟩ = some x := (hgrow.cell_far _ (by simp; omega) (Ne.symm hxT)).trans (cell_later (below_alloc_drew _ _) q0)))
      all_goals
        have hge := own_ge (unhide HO6)
        have h7 := ((unhide H6).below (below_alloc_drew _ _)).grown hgrow hge (fun g hg => by have := unhide HV g hg; omega) (by omega)
        have h8 := h7.setNew (B := T) (fun g hg => by have := unhide HV g hg; omega) hRT (p := ⟨T, 0, none⟩) (Nat.le_refl _) (.slice (some ⟨gg, 0, none⟩) (l.length + 1) cap)
        have hT7 := (hgrow.block T (by simp; omega) (Ne.symm hxT)).trans ((Below.heap_alloc w6 _ T hT6l).trans (unhide HT6))
        have hT8 := heap_setCell_same w7 T 0 _ _ (.slice (some ⟨gg, 0, none⟩) (l.length + 1) cap) hT7
        have hO8 := ownsRow_setCell_below hown7 (a := ⟨T, 0, none⟩) (by simp) (.slice (some ⟨gg, 0, none⟩) (l.length + 1) cap)
        have hB8 : Below B w (w7.setCell ⟨T, 0, none⟩ (.slice (some ⟨gg, 0, none⟩) (l.length + 1) cap)) :=
          (((((unhide HB).trans ((unhide HK6).toBelow hBR (by omega))).alloc (by omega) _).drew).grown hgrow (by simp; omega) (fun k hk => by have := hge k hk; omega)).setCell (by simp only; omega) _
        have H8 := hide h8
        have HT8 := hide hT8
        have HO8 := hide hO8
        have HB8 := hide hB8
        clear h7 h8 hT7 hT8 hO8 hB8 hge hown7 hgrow hat
        go_wp2_with fail
        refine (next_lit [115, 101, 116] _ R v L _ (unhide H8)).mono ?_
        rintro e w9 ⟨rfl, h9, hk9⟩
        have hs1 : rSet1 L s2 = (⟨k.1, d.1⟩, rMust L [59] d.2) := by unfold rSet1; rw [unhide E1, unhide E2]
        have hF := unhide HF
        rw [hs1] at hF hprog
        have HR9 := hide (show SetRel B R T w v L (rSets (fuelM L) L [] st) (.bool (rNext L [115, 101, 116] (rMust L [59] d.2))) w9 from
          ⟨l ++ [⟨k.1, d.1⟩], rMust L [59] d.2, g, .slice (some ⟨gg, 0, none⟩) (l.length + 1) cap, rfl, (hk9.block T (by simpa using lt_of_block (unhide HT8)) (by omega)).trans (unhide HT8),
            by rw [setsCells_snoc, List.length_append]; exact owns_kept' (unhide HO8) hk9 (by omega), h9, (unhide HB8).trans (hk9.toBelow hBR (by have := (unhide HB8).size; omega)), hF, by simp only at hprog; omega, by rw [List.length_append]; simp only at hprog; simp; omega⟩)
        have HM := hide (show L.length - atOf w9 R < L.length - atOf wr R by rw [h9.atOf, (unhide H2).atOf]; simp only at hprog; have := h9.lt; omega)
        clear h9 hk9 hs1 hF
        go_wp2
        go_roundw
        case rel => exact unhide HR9
        case measure => exact unhide HM

end Go.Proofs.YtpmcnonmkghokaaGreat

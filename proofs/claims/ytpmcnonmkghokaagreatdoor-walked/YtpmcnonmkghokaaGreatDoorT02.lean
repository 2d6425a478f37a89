/-
  The reference's params, walked.
  The reference's variable, walked.
  The reference's heads: the plain functions rSets and rKinds, how sets and kinds lie in memory, and the first loop walked.
  The program's parser: inSquare, place, simple, param, set, by the plain functions of the reference.
  The reference's tree, plainly: rTree; and how a tree lies in memory.
  The program's parser: set, simple, param.
  The program's parser: simple and variable.
  The program's parser: params.
-/
import Derived.Test.YtpmcnonmkghokaaGreatDoorT01
import Derived.Deep.RegionHeld3
import Derived.Deep.RegionLaw
import Derived.Deep.AppendLies
import Derived.Maps.AppendAt
set_option linter.unusedVariables false
set_option linter.unusedSimpArgs false
namespace Go.Proofs.YtpmcnonmkghokaaGreatDoor
open Go.RowKit
structure PP where
 name : Tok
 set_ : Tok
def rPP (L : List Tok) (st : RS) : PP × RS :=
 (⟨(rKind L [110, 97, 109, 101] st).1, (rKind L [110, 97, 109, 101] (rMust L [58] (rKind L [110, 97, 109, 101] st).2)).1⟩, (rKind L [110, 97, 109, 101] (rMust L [58] (rKind L [110, 97, 109, 101] st).2)).2)
def rPar : Nat → List Tok → List PP → RS → List PP × RS
 | 0, _, l, st => (l, st)
 | f + 1, L, l, st =>
  if st.bad then (l, st)
  else if rNext L [44] (rPP L st).2 then rPar f L (l ++ [(rPP L st).1]) (rMust L [44] (rPP L st).2)
  else (l ++ [(rPP L st).1], (rPP L st).2)
def rParams (L : List Tok) (st : RS) : List PP × RS :=
 if rNext L [41] (rMust L [40] st) then ([], rMust L [41] (rMust L [40] st))
 else ((rPar (fuelM L) L [] (rMust L [40] st)).1, rMust L [41] (rPar (fuelM L) L [] (rMust L [40] st)).2)

theorem rPP_mono (L : List Tok) (st : RS) : st.at_ ≤ (rPP L st).2.at_ := Nat.le_trans (rKind_mono L _ st) (Nat.le_trans (rMust_mono L [58] _) (rKind_mono L _ _))
theorem row6 {w : World} {b : Nat} {x0 x1 x2 x3 x4 x5 : Value} {t : TypeId} (h : w.heap[b]? = some (.cells #[x0, x1, x2, x3, x4, x5] t (0, 0))) :
    w.cell? ⟨b, 0, none⟩ = some x0 ∧ w.cell? ⟨b, 1, none⟩ = some x1 ∧ w.cell? ⟨b, 2, none⟩ = some x2 ∧ w.cell? ⟨b, 3, none⟩ = some x3 ∧ w.cell? ⟨b, 4, none⟩ = some x4 ∧ w.cell? ⟨b, 5, none⟩ = some x5 ∧
    w.frozen? ⟨b, 0, none⟩ = false ∧ w.frozen? ⟨b, 1, none⟩ = false ∧ w.frozen? ⟨b, 2, none⟩ = false ∧ w.frozen? ⟨b, 3, none⟩ = false ∧ w.frozen? ⟨b, 4, none⟩ = false ∧ w.frozen? ⟨b, 5, none⟩ = false :=
  ⟨by rw [cell_of_row w b 0 _ _ _ h]; rfl, by rw [cell_of_row w b 1 _ _ _ h]; rfl, by rw [cell_of_row w b 2 _ _ _ h]; rfl, by rw [cell_of_row w b 3 _ _ _ h]; rfl, by rw [cell_of_row w b 4 _ _ _ h]; rfl, by rw [cell_of_row w b 5 _ _ _ h]; rfl,
   frozen_of_row w b 0 _ _ h, frozen_of_row w b 1 _ _ h, frozen_of_row w b 2 _ _ h, frozen_of_row w b 3 _ _ h, frozen_of_row w b 4 _ _ h, frozen_of_row w b 5 _ _ h⟩
theorem set6a {w : World} {b : Nat} {x0 x1 x2 x3 x4 x5 : Value} {t : TypeId} (h : w.heap[b]? = some (.cells #[x0, x1, x2, x3, x4, x5] t (0, 0))) (a c d : Value) :
  (((w.setCell ⟨b, 0, none⟩ a).setCell ⟨b, 1, none⟩ c).setCell ⟨b, 2, none⟩ d).heap[b]? = some (.cells #[a, c, d, x3, x4, x5] t (0, 0)) :=
 heap_setCell_same _ b 2 _ _ _ (heap_setCell_same _ b 1 _ _ _ (heap_setCell_same _ b 0 _ _ _ h))
theorem set6b {w : World} {b : Nat} {x0 x1 x2 x3 x4 x5 : Value} {t : TypeId} (h : w.heap[b]? = some (.cells #[x0, x1, x2, x3, x4, x5] t (0, 0))) (a c d : Value) :
  (((w.setCell ⟨b, 3, none⟩ a).setCell ⟨b, 4, none⟩ c).setCell ⟨b, 5, none⟩ d).heap[b]? = some (.cells #[x0, x1, x2, a, c, d] t (0, 0)) :=
 heap_setCell_same _ b 5 _ _ _ (heap_setCell_same _ b 4 _ _ _ (heap_setCell_same _ b 3 _ _ _ h))

end Go.Proofs.YtpmcnonmkghokaaGreatDoor
namespace Go.Proofs.YtpmcnonmkghokaaGreatDoor
open Go.RowKit
structure PVar where
 name : Tok
 over : Tok
 type_ : Tok
 top : Tok
def rOver (L : List Tok) (st : RS) : Tok × RS :=
 if rNext L [91] st then ((rKind L [110, 97, 109, 101] (rMust L [91] st)).1, rMust L [93] (rKind L [110, 97, 109, 101] (rMust L [91] st)).2) else (noTok, st)
def rTop (L : List Tok) (st : RS) : Tok × RS :=
 if rNext L [98, 111, 111, 108] st then (noTok, rMust L [98, 111, 111, 108] st)
 else if rNext L [116, 111] st then rKind L [100, 105, 103, 105, 116] (rMust L [116, 111] st)
 else (noTok, (rKind L [110, 97, 109, 101] st).2)
def rVar (L : List Tok) (st : RS) : PVar × RS :=
  ({ name := (rKind L [110, 97, 109, 101] (rMust L [118, 97, 114] st)).1,
     over := (rOver L (rMust L [58] (rKind L [110, 97, 109, 101] (rMust L [118, 97, 114] st)).2)).1,
     type_ := tk L (rOver L (rMust L [58] (rKind L [110, 97, 109, 101] (rMust L [118, 97, 114] st)).2)).2.at_,
     top := (rTop L (rOver L (rMust L [58] (rKind L [110, 97, 109, 101] (rMust L [118, 97, 114] st)).2)).2).1 },
   rMust L [59] (rTop L (rOver L (rMust L [58] (rKind L [110, 97, 109, 101] (rMust L [118, 97, 114] st)).2)).2).2)

end Go.Proofs.YtpmcnonmkghokaaGreatDoor
namespace Go.Proofs.YtpmcnonmkghokaaGreatDoor
open Go.RowKit
structure PSet where
 name : Tok
 size : Tok
def rSet1 (L : List Tok) (st : RS) : PSet × RS :=
  (⟨(rKind L [110, 97, 109, 101] (rMust L [115, 101, 116] st)).1, (rKind L [100, 105, 103, 105, 116] (rKind L [110, 97, 109, 101] (rMust L [115, 101, 116] st)).2).1⟩,
   rMust L [59] (rKind L [100, 105, 103, 105, 116] (rKind L [110, 97, 109, 101] (rMust L [115, 101, 116] st)).2).2)
def rSets : Nat → List Tok → List PSet → RS → List PSet × RS
 | 0, _, l, st => (l, st)
 | f + 1, L, l, st => if rNext L [115, 101, 116] st then rSets f L (l ++ [(rSet1 L st).1]) (rSet1 L st).2 else (l, st)

structure PKind where
 name : Tok
 members : List Tok
def rKind1 (L : List Tok) (st : RS) : PKind × RS :=
 (⟨(rKind L [110, 97, 109, 101] (rMust L [107, 105, 110, 100] st)).1, (rMembers L (rKind L [110, 97, 109, 101] (rMust L [107, 105, 110, 100] st)).2).1⟩, (rMembers L (rKind L [110, 97, 109, 101] (rMust L [107, 105, 110, 100] st)).2).2)
def rKinds : Nat → List Tok → List PKind → RS → List PKind × RS
 | 0, _, l, st => (l, st)
 | f + 1, L, l, st => if rNext L [107, 105, 110, 100] st then rKinds f L (l ++ [(rKind1 L st).1]) (rKind1 L st).2 else (l, st)

theorem next_must_at {L : List Tok} {s : List UInt8} {st : RS} (h : rNext L s st = true) (ho : opens s = false) : (rMust L s st).at_ = st.at_ + 1 := by
 apply rMust_ok
 unfold rMust
 rw [h, ho]; rfl
theorem rSet1_prog {L : List Tok} {st : RS} (h : rNext L [115, 101, 116] st = true) : st.at_ + 1 ≤ (rSet1 L st).2.at_ := by
 have h1 := next_must_at h rfl
 have h2 := rKind_mono L [110, 97, 109, 101] (rMust L [115, 101, 116] st)
 have h3 := rKind_mono L [100, 105, 103, 105, 116] (rKind L [110, 97, 109, 101] (rMust L [115, 101, 116] st)).2
 have h4 := rMust_mono L [59] (rKind L [100, 105, 103, 105, 116] (rKind L [110, 97, 109, 101] (rMust L [115, 101, 116] st)).2).2
 show st.at_ + 1 ≤ (rMust L [59] (rKind L [100, 105, 103, 105, 116] (rKind L [110, 97, 109, 101] (rMust L [115, 101, 116] st)).2).2).at_
 omega

theorem frozen_later {w wx : World} {a : Addr} {b : Bool} (hb : Below w.heap.size w wx) (hl : a.block < w.heap.size) (h : w.frozen? a = b) : wx.frozen? a = b := (hb.frozen hl).trans h
theorem Kept.toBelow {R B : Nat} {w w' : World} (h : Kept R w w') (hB : B ≤ R) (hw : B ≤ w.heap.size) : Below B w w' :=
 ⟨h.os, h.tape, h.output, h.size, fun k hk => h.block k (by omega) (by omega)⟩

theorem owns_grown {lo base size size' e e' : Nat} {w w' : World} {u v : Value} {n m : Nat} {xs zs : List Value} (h : w.ownsRow lo e' size' u m xs) (hv : w.ownsRow base e size v n zs) (he : e' ≠ e) (hg : w.grownBy w' v.ownBlock) : w'.ownsRow lo e' size' u m xs := by
 refine h.kept hg ?_
 cases hu : u.ownBlock with
 | none => exact Or.inl rfl
 | some j =>
  refine Or.inr fun hj => ?_
  rcases h.2 with ⟨rfl, _⟩ | ⟨g, cap, cur, rfl, _, hh, _⟩
  ·simp [Value.ownBlock] at hu
  ·simp [Value.ownBlock] at hu
   subst hu
   exact not_row hv hh he hj

def rHeads (L : List Tok) (st : RS) : List PSet × List PKind × RS :=
 ((rSets (fuelM L) L [] st).1, rKinds (fuelM L) L [] (rSets (fuelM L) L [] st).2)
theorem rMembers_mono (L : List Tok) (st : RS) : st.at_ ≤ (rMembers L st).2.at_ := by
 have h : ∀ (f : Nat) (l : List Tok) (s : RS), s.at_ ≤ (rMem f L l s).2.at_ := by
  intro f
  induction f with
  | zero => intro l s; exact Nat.le_refl _
  | succ f ih =>
   intro l s
   rw [rMem]
   split
   ·exact Nat.le_refl _
   ·split
    ·exact Nat.le_trans (Nat.le_trans (rKind_mono L _ s) (rMust_mono L [44] _)) (ih _ _)
    ·exact rKind_mono L _ s
 exact Nat.le_trans (rMust_mono L [123] st) (Nat.le_trans (h _ _ _) (rMust_mono L [125] _))
theorem rKind1_prog {L : List Tok} {st : RS} (h : rNext L [107, 105, 110, 100] st = true) : st.at_ + 1 ≤ (rKind1 L st).2.at_ := by
 have h1 := next_must_at h rfl
 have h2 := rKind_mono L [110, 97, 109, 101] (rMust L [107, 105, 110, 100] st)
 have h3 := rMembers_mono L (rKind L [110, 97, 109, 101] (rMust L [107, 105, 110, 100] st)).2
 show st.at_ + 1 ≤ (rMembers L (rKind L [110, 97, 109, 101] (rMust L [107, 105, 110, 100] st)).2).2.at_
 omega

end Go.Proofs.YtpmcnonmkghokaaGreatDoor
namespace Go.Proofs.YtpmcnonmkghokaaGreatDoor
open Go.RowKit
theorem Kept.row {P : Nat} {w w' : World} {b : Nat} {o : Obj} (hk : Kept P w w') (hb : b ≠ P) (h : w.heap[b]? = some o) : w'.heap[b]? = some o := by
  rw [hk.block b (by by_cases hl : b < w.heap.size
                     · exact hl
                     · rw [Array.getElem?_eq_none (by omega)] at h; cases h) hb]; exact h
theorem alloc_row {w : World} {b : Nat} {o p : Obj} (h : w.heap[b]? = some o) : (w.alloc p).heap[b]? = some o := by
  rw [Below.heap_alloc _ _ _ (by by_cases hl : b < w.heap.size
                                 · exact hl
                                 · rw [Array.getElem?_eq_none (by omega)] at h; cases h)]; exact h
theorem alloc_new (w : World) (o : Obj) : (w.alloc o).heap[w.heap.size]? = some o := heap_alloc_new w o
theorem Kept.allocB {P : Nat} {w : World} (o : Obj) : Kept P w (w.alloc o) := (Kept.refl _ _).alloc _
theorem Pd.alloc {w : World} {P : Nat} {v : Value} {L : List Tok} {st : RS} (h : Pd w P v L st) (o : Obj) : Pd (w.alloc o) P v L st := h.below (below_alloc1 _ _)
theorem Pd.own_lt {w : World} {P : Nat} {v : Value} {L : List Tok} {st : RS} (h : Pd w P v L st) : ∀ g, v.ownBlock = some g → g < w.heap.size := Go.Proofs.YtpmcnonmkghokaaGreatDoor.own_lt h.own
theorem Pd.set2 {w : World} {P B : Nat} {v : Value} {L : List Tok} {st : RS} (h : Pd w P v L st) (hB : ∀ g, v.ownBlock = some g → g < B) (hP : P < B) {p q : Addr} (hp : B ≤ p.block) (hq : B ≤ q.block) (a b : Value) : Pd ((w.setCell p a).setCell q b) P v L st :=
 (h.setOther hB hP hp a).setOther hB hP hq b

def sqT (L : List Tok) (st : RS) : Tok × RS := rKind L [110, 97, 109, 101] (rMust L [91] st)
set_option maxRecDepth 100000 in
set_option maxHeartbeats 1000000 in
theorem inSquare_any (w : World) (P : Nat) (v : Value) (L : List Tok) (st : RS) (h : Pd w P v L st) :
  Calls Tryz.prog 207 #[.pointer (some ⟨P, 0, none⟩)] w fun e w' => e = .returned (ptV (sqT L st).1) ∧ Pd w' P v L (rMust L [93] (sqT L st).2) ∧ Kept P w w' := by
 have hX := h.in
 have HV := hide h.own_lt
 go_enter Tryz.func207, Tryz.ntmps207
 go_wp2_with fail
 refine (open_lit [91] (by decide) rfl _ P v L st (h.alloc _)).mono ?_
 rintro e w1 ⟨rfl, h1, hk1⟩
 have hx1 := hk1.row (b := w.heap.size) (by omega) (alloc_new _ _)
 have HK1 := hide ((Kept.allocB _).trans hk1)
 have H1 := hide h1
 have HX1 := hide hx1
 clear h1 hk1 hx1 h
 go_wp2_with fail
 refine (name_lit _ P v L _ (unhide H1)).mono ?_
 rintro e w2 ⟨rfl, h2, hk2⟩
 have HI := hide (show sqT L st = rKind L [110, 97, 109, 101] (rMust L [91] st) from rfl)
 generalize rKind L [110, 97, 109, 101] (rMust L [91] st) = i at *
 have hx2 := hk2.row (by omega) (unhide HX1)
 have hs2 := lt_of_block hx2
 have HK2 := hide ((unhide HK1).trans hk2)
 have H2 := hide h2
 have HX2 := hide hx2
 clear h2 hk2 hx2 H1 HX1 HK1
 unfold ptV
 go_wp2_with fail
 refine (shut_lit [93] (by decide) rfl rfl _ P v L _ ((unhide H2).alloc _)).mono ?_
 rintro e w3 ⟨rfl, h3, hk3⟩
 have hx3 := hk3.row (by omega) (alloc_row (unhide HX2))
 have hy3 := hk3.row (b := w2.heap.size) (by omega) (alloc_new _ _)
 obtain ⟨d0, d1, e0, e1⟩ := row2 hx3
 obtain ⟨g0, g1, _, _⟩ := row2 hy3
 have HK3 := hide (((unhide HK2).alloc _).trans hk3)
 have H3 := hide h3
 have HX3 := hide hx3
 clear h3 hk3 hx3 hy3 H2 HX2 HK2
 go_wp2
 refine bodyPost_ret (v := ptV i.1) (results_cell_row Tryz.results207 _ _ w.heap.size _ _ _ _ rfl (set2 (unhide HX3) _ _) Tryz.underlying107 rfl (by kernel_rfl)) rfl ?_
 rw [unhide HI]
 exact ⟨rfl, (unhide H3).set2 (unhide HV) hX (Nat.le_refl _) (Nat.le_refl _) _ _, ((unhide HK3).setNew (Nat.le_refl _) _).setNew (Nat.le_refl _) _⟩

theorem row5' {w : World} {b : Nat} {x0 x1 x2 x3 x4 : Value} {t : TypeId} (h : w.heap[b]? = some (.cells #[x0, x1, x2, x3, x4] t (0, 0))) :
    w.cell? ⟨b, 0, none⟩ = some x0 ∧ w.cell? ⟨b, 1, none⟩ = some x1 ∧ w.cell? ⟨b, 2, none⟩ = some x2 ∧ w.cell? ⟨b, 3, none⟩ = some x3 ∧ w.cell? ⟨b, 4, none⟩ = some x4 ∧
    w.frozen? ⟨b, 0, none⟩ = false ∧ w.frozen? ⟨b, 1, none⟩ = false ∧ w.frozen? ⟨b, 2, none⟩ = false ∧ w.frozen? ⟨b, 3, none⟩ = false ∧ w.frozen? ⟨b, 4, none⟩ = false :=
  ⟨by rw [cell_of_row w b 0 _ _ _ h]; rfl, by rw [cell_of_row w b 1 _ _ _ h]; rfl, by rw [cell_of_row w b 2 _ _ _ h]; rfl, by rw [cell_of_row w b 3 _ _ _ h]; rfl, by rw [cell_of_row w b 4 _ _ _ h]; rfl,
   frozen_of_row w b 0 _ _ h, frozen_of_row w b 1 _ _ h, frozen_of_row w b 2 _ _ h, frozen_of_row w b 3 _ _ h, frozen_of_row w b 4 _ _ h⟩
theorem set5all {w : World} {b : Nat} {x0 x1 x2 x3 x4 : Value} {t : TypeId} (h : w.heap[b]? = some (.cells #[x0, x1, x2, x3, x4] t (0, 0))) (y0 y1 y2 y3 y4 : Value) :
  (((((w.setCell ⟨b, 0, none⟩ y0).setCell ⟨b, 1, none⟩ y1).setCell ⟨b, 2, none⟩ y2).setCell ⟨b, 3, none⟩ y3).setCell ⟨b, 4, none⟩ y4).heap[b]? = some (.cells #[y0, y1, y2, y3, y4] t (0, 0)) :=
 heap_setCell_same _ b 4 _ _ _ (heap_setCell_same _ b 3 _ _ _ (heap_setCell_same _ b 2 _ _ _ (heap_setCell_same _ b 1 _ _ _ (heap_setCell_same _ b 0 _ _ _ h))))
theorem Pd.set5 {w : World} {P B : Nat} {v : Value} {L : List Tok} {st : RS} (h : Pd w P v L st) (hB : ∀ g, v.ownBlock = some g → g < B) (hP : P < B) {b : Nat} (hb : B ≤ b) (y0 y1 y2 y3 y4 : Value) :
  Pd (((((w.setCell ⟨b, 0, none⟩ y0).setCell ⟨b, 1, none⟩ y1).setCell ⟨b, 2, none⟩ y2).setCell ⟨b, 3, none⟩ y3).setCell ⟨b, 4, none⟩ y4) P v L st :=
 (((((h.setOther hB hP hb y0).setOther hB hP hb y1).setOther hB hP hb y2).setOther hB hP hb y3).setOther hB hP hb y4)
theorem Kept.set5 {P : Nat} {a w : World} (h : Kept P a w) {b : Nat} (hb : a.heap.size ≤ b) (y0 y1 y2 y3 y4 : Value) :
  Kept P a (((((w.setCell ⟨b, 0, none⟩ y0).setCell ⟨b, 1, none⟩ y1).setCell ⟨b, 2, none⟩ y2).setCell ⟨b, 3, none⟩ y3).setCell ⟨b, 4, none⟩ y4) :=
 ((((h.setNew hb y0).setNew hb y1).setNew hb y2).setNew hb y3).setNew hb y4

def plNext (L : List Tok) (st : RS) : Bool := rNext L [91] (rKind L [110, 97, 109, 101] st).2
def plT (L : List Tok) (st : RS) : Tok × Bool × Tok × RS :=
 if plNext L st then ((rKind L [110, 97, 109, 101] st).1, true, (sqT L (rKind L [110, 97, 109, 101] st).2).1, rMust L [93] (sqT L (rKind L [110, 97, 109, 101] st).2).2)
 else ((rKind L [110, 97, 109, 101] st).1, false, noTok, (rKind L [110, 97, 109, 101] st).2)
def plV (x : Tok × Bool × Tok × RS) : Value := .agg #[.string x.1.text, .int .i64 x.1.at_, .bool x.2.1, .string x.2.2.1.text, .int .i64 x.2.2.1.at_]

set_option maxRecDepth 100000 in
set_option maxHeartbeats 1000000 in
theorem pplace_any (w : World) (P : Nat) (v : Value) (L : List Tok) (st : RS) (h : Pd w P v L st) :
  Calls Tryz.prog 260 #[.pointer (some ⟨P, 0, none⟩)] w fun e w' => e = .returned (plV (plT L st)) ∧ Pd w' P v L (plT L st).2.2.2 ∧ Kept P w w' := by
 have hX := h.in
 have HV := hide h.own_lt
 go_enter Tryz.func260, Tryz.ntmps260
 go_wp2_with fail
 refine (name_lit _ P v L st (h.alloc _)).mono ?_
 rintro e w1 ⟨rfl, h1, hk1⟩
 have HP := hide (show plT L st = if rNext L [91] (rKind L [110, 97, 109, 101] st).2 then ((rKind L [110, 97, 109, 101] st).1, true, (sqT L (rKind L [110, 97, 109, 101] st).2).1, rMust L [93] (sqT L (rKind L [110, 97, 109, 101] st).2).2)
  else ((rKind L [110, 97, 109, 101] st).1, false, noTok, (rKind L [110, 97, 109, 101] st).2) from rfl)
 generalize rKind L [110, 97, 109, 101] st = k at *
 have hx1 := hk1.row (b := w.heap.size) (by omega) (alloc_new _ _)
 have hs1 := lt_of_block hx1
 have HK1 := hide ((Kept.allocB _).trans hk1)
 have H1 := hide h1
 have HX1 := hide hx1
 clear h1 hk1 hx1 h
 unfold ptV
 go_wp2_with fail
 refine (is_lit [91] (by decide) _ P v L _ ((unhide H1).alloc _)).mono ?_
 rintro e w2 ⟨rfl, h2, hk2⟩
 have hx2 := hk2.row (by omega) (alloc_row (unhide HX1))
 have hy2 := hk2.row (b := w1.heap.size) (by omega) (alloc_new _ _)
 have HK2 := hide (((unhide HK1).alloc _).trans hk2)
 have H2 := hide h2
 have HX2 := hide hx2
 have HY2 := hide hy2
 clear h2 hk2 hx2 hy2 H1 HX1 HK1
 cases hn : rNext L [91] k.2
 ·rw [hn] at HP
  obtain ⟨d0, d1, d2, d3, d4, e0, e1, e2, e3, e4⟩ := row5' (unhide HX2)
  obtain ⟨g0, g1, g2, g3, g4, _⟩ := row5' (unhide HY2)
  go_wp2
  refine bodyPost_ret (v := plV (k.1, false, noTok, k.2)) (results_cell_row Tryz.results260 _ _ w.heap.size _ _ _ _ rfl (set5all (unhide HX2) _ _ _ _ _) Tryz.underlying332 rfl (by kernel_rfl)) rfl ?_
  rw [unhide HP]
  exact ⟨rfl, (unhide H2).set5 (unhide HV) hX (Nat.le_refl _) _ _ _ _ _, (unhide HK2).set5 (Nat.le_refl _) _ _ _ _ _⟩
 ·rw [hn] at HP
  obtain ⟨g0, g1, g2, g3, g4, f0, f1, f2, f3, f4⟩ := row5' (unhide HY2)
  go_wp2_with fail
  refine (inSquare_any _ P v L _ ((unhide H2).setOther (unhide HV) hX (by simp; omega) _)).mono ?_
  rintro e w3 ⟨rfl, h3, hk3⟩
  clear g0 g1 g2 g3 g4 f0 f1 f2 f3 f4
  generalize sqT L k.2 = i at *
  have hx3 := hk3.row (b := w.heap.size) (by omega) ((Below.heap_setCell _ _ _ _ (by simp; omega)).trans (unhide HX2))
  have hy3 := hk3.row (b := w1.heap.size) (by omega) (heap_setCell_same _ _ 2 _ _ _ (unhide HY2))
  obtain ⟨d0, d1, d2, d3, d4, e0, e1, e2, e3, e4⟩ := row5' hx3
  obtain ⟨g0, g1, g2, g3, g4, f0, f1, f2, f3, f4⟩ := row5' hy3
  have HK3 := hide (((unhide HK2).setNew (p := ⟨w1.heap.size, 2, none⟩) (by simp; omega) (.bool true)).trans hk3)
  have H3 := hide h3
  have HX3 := hide hx3
  have HY3 := hide hy3
  clear h3 hk3 hx3 hy3 H2 HX2 HK2 HY2
  unfold ptV
  go_wp2
  refine bodyPost_ret (v := plV (k.1, true, i.1, rMust L [93] i.2)) (results_cell_row Tryz.results260 _ _ w.heap.size _ _ _ _ rfl (set5all (w := (w3.setCell ⟨w1.heap.size, 3, none⟩ _).setCell ⟨w1.heap.size, 4, none⟩ _) (by rw [Below.heap_setCell _ _ _ _ (by simp; omega), Below.heap_setCell _ _ _ _ (by simp; omega)]; exact unhide HX3) _ _ _ _ _) Tryz.underlying332 rfl (by kernel_rfl)) rfl ?_
  rw [unhide HP]
  exact ⟨rfl, ((unhide H3).set2 (unhide HV) hX (by simp; omega) (by simp; omega) _ _).set5 (unhide HV) hX (Nat.le_refl _) _ _ _ _ _, (((unhide HK3).setNew (by simp; omega) _).setNew (by simp; omega) _).set5 (Nat.le_refl _) _ _ _ _ _⟩

end Go.Proofs.YtpmcnonmkghokaaGreatDoor
namespace Go.Proofs.YtpmcnonmkghokaaGreatDoor
open Go.RowKit
structure PRule where
 name : Tok
 params : List PP
 guard : PX
 body : PB

structure PTree where
 sets : List PSet
 kinds : List PKind
 vars : List PVar
 rules : List PRule
 nevers : List PRule

def rVars : Nat → List Tok → List PVar → RS → List PVar × RS
 | 0, _, l, st => (l, st)
 | f + 1, L, l, st =>
  if st.bad then (l, st)
  else if rNext L [118, 97, 114] (rVar L st).2 then rVars f L (l ++ [(rVar L st).1]) (rVar L st).2
  else (l ++ [(rVar L st).1], (rVar L st).2)

def ruleK (L : List Tok) (st : RS) : Tok × RS := rKind L [110, 97, 109, 101] (rMust L [114, 117, 108, 101] st)
def ruleP (L : List Tok) (st : RS) : List PP × RS := rParams L (ruleK L st).2
def ruleG (L : List Tok) (st : RS) : PX × RS := rX (fuelX L) 0 .nil L (rMust L [105, 102] (ruleP L st).2)
def rRule1 (L : List Tok) (st : RS) : PRule × RS :=
 (⟨(ruleK L st).1, (ruleP L st).1, (ruleG L st).1, (rS (fuelB L) 0 L (ruleG L st).2).1⟩, (rS (fuelB L) 0 L (ruleG L st).2).2)
def rRules : Nat → List Tok → List PRule → RS → List PRule × RS
 | 0, _, l, st => (l, st)
 | f + 1, L, l, st =>
  if st.bad then (l, st)
  else if rNext L [114, 117, 108, 101] (rRule1 L st).2 then rRules f L (l ++ [(rRule1 L st).1]) (rRule1 L st).2
  else (l ++ [(rRule1 L st).1], (rRule1 L st).2)

def neverK (L : List Tok) (st : RS) : Tok × RS := rKind L [110, 97, 109, 101] (rMust L [110, 101, 118, 101, 114] st)
def neverP (L : List Tok) (st : RS) : List PP × RS := rParams L (neverK L st).2
def neverG (L : List Tok) (st : RS) : PX × RS := rX (fuelX L) 0 .nil L (neverP L st).2
def rNever1 (L : List Tok) (st : RS) : PRule × RS :=
 (⟨(neverK L st).1, (neverP L st).1, (neverG L st).1, .nil⟩, rMust L [59] (neverG L st).2)
def rNevers : Nat → List Tok → List PRule → RS → List PRule × RS
 | 0, _, l, st => (l, st)
 | f + 1, L, l, st => if rNext L [110, 101, 118, 101, 114] st then rNevers f L (l ++ [(rNever1 L st).1]) (rNever1 L st).2 else (l, st)

def startR : RS := { at_ := 0, nest := 0, bad := false }
def treeV (L : List Tok) : List PVar × RS := rVars (fuelM L) L [] (rHeads L startR).2.2
def treeR (L : List Tok) : List PRule × RS := rRules (fuelM L) L [] (treeV L).2
def treeN (L : List Tok) : List PRule × RS := rNevers (fuelM L) L [] (treeR L).2
def rTree (L : List Tok) : PTree × Option Nat :=
  (⟨(rHeads L startR).1, (rHeads L startR).2.1, (treeV L).1, (treeR L).1, (treeN L).1⟩,
   if (treeN L).2.bad || !((tk L (treeN L).2.at_).kind.toList == [101, 110, 100]) then some (tk L (treeN L).2.at_).at_ else none)

theorem rParams_mono (L : List Tok) (st : RS) : st.at_ ≤ (rParams L st).2.at_ := by
 have h : ∀ (f : Nat) (l : List PP) (s : RS), s.at_ ≤ (rPar f L l s).2.at_ := by
  intro f
  induction f with
  | zero => intro l s; exact Nat.le_refl _
  | succ f ih =>
   intro l s
   rw [rPar]
   split
   ·exact Nat.le_refl _
   ·split
    ·exact Nat.le_trans (Nat.le_trans (rPP_mono L s) (rMust_mono L [44] _)) (ih _ _)
    ·exact rPP_mono L s
 unfold rParams
 split
 ·exact Nat.le_trans (rMust_mono L [40] st) (rMust_mono L [41] _)
 ·exact Nat.le_trans (rMust_mono L [40] st) (Nat.le_trans (h _ _ _) (rMust_mono L [41] _))
theorem rOver_mono (L : List Tok) (st : RS) : st.at_ ≤ (rOver L st).2.at_ := by
 unfold rOver; split
 ·exact Nat.le_trans (rMust_mono L [91] st) (Nat.le_trans (rKind_mono L _ _) (rMust_mono L [93] _))
 ·exact Nat.le_refl _
theorem rTop_mono (L : List Tok) (st : RS) : st.at_ ≤ (rTop L st).2.at_ := by
 unfold rTop; split
 ·exact rMust_mono L _ st
 ·split
  ·exact Nat.le_trans (rMust_mono L [116, 111] st) (rKind_mono L _ _)
  ·exact rKind_mono L _ st
theorem rVar_mono (L : List Tok) (st : RS) : (rMust L [118, 97, 114] st).at_ ≤ (rVar L st).2.at_ :=
 Nat.le_trans (rKind_mono L _ _) (Nat.le_trans (rMust_mono L [58] _) (Nat.le_trans (rOver_mono L _) (Nat.le_trans (rTop_mono L _) (rMust_mono L [59] _))))
theorem rOver_bad {L : List Tok} {st : RS} (h : st.bad = true) : (rOver L st).2.bad = true := by simp [rOver, rNext_bad h, h]
theorem rTop_bad {L : List Tok} {st : RS} (h : st.bad = true) : (rTop L st).2.bad = true := by simp [rTop, rNext_bad h, rKind_bad h]
theorem rRule1_mono (L : List Tok) (st : RS) : (rMust L [114, 117, 108, 101] st).at_ ≤ (rRule1 L st).2.at_ :=
 Nat.le_trans (rKind_mono L _ _) (Nat.le_trans (rParams_mono L _) (Nat.le_trans (rMust_mono L [105, 102] _) (Nat.le_trans (rX_mono _ _ _ L _) (rS_mono L _ _ _))))
theorem rPar_bad {L : List Tok} {st : RS} (h : st.bad = true) : ∀ (f : Nat) (l : List PP), (rPar f L l st).2 = st
 | 0, _ => rfl
 | f + 1, l => by rw [rPar, h]; rfl
theorem rParams_bad {L : List Tok} {st : RS} (h : st.bad = true) : (rParams L st).2.bad = true := by
 unfold rParams
 rw [rNext_bad (rMust_bad h)]
 exact rMust_bad (by rw [rPar_bad (rMust_bad h)]; exact rMust_bad h)
theorem rNever1_prog {L : List Tok} {st : RS} (h : rNext L [110, 101, 118, 101, 114] st = true) : st.at_ + 1 ≤ (rNever1 L st).2.at_ := by
 have h1 := next_must_at h rfl
 have h2 : (rMust L [110, 101, 118, 101, 114] st).at_ ≤ (rNever1 L st).2.at_ :=
  Nat.le_trans (rKind_mono L _ _) (Nat.le_trans (rParams_mono L _) (Nat.le_trans (rX_mono _ _ _ L _) (rMust_mono L [59] _)))
 omega

end Go.Proofs.YtpmcnonmkghokaaGreatDoor
namespace Go.Proofs.YtpmcnonmkghokaaGreatDoor
open Go.RowKit
theorem cell_block {w : World} {a : Addr} {v : Value} (h : w.cell? a = some v) : a.block < w.heap.size := by
 by_cases hl : a.block < w.heap.size
 ·exact hl
 ·have : w.heap[a.block]? = none := Array.getElem?_eq_none (by omega)
  simp [World.cell?, this] at h
theorem Kept.cell {P : Nat} {w w' : World} {a : Addr} {v : Value} (hk : Kept P w w') (hb : a.block ≠ P) (h : w.cell? a = some v) : w'.cell? a = some v :=
 (World.cell?_of_block (w := w) (hk.block a.block (cell_block h) hb)).trans h

def stV (s : PSet) : Value := .agg #[.string s.name.text, .int .i64 s.name.at_, .int .i64 (digV s.size.text), .int .i64 s.size.at_]
theorem row4' {w : World} {b : Nat} {x0 x1 x2 x3 : Value} {t : TypeId} (h : w.heap[b]? = some (.cells #[x0, x1, x2, x3] t (0, 0))) :
    w.cell? ⟨b, 0, none⟩ = some x0 ∧ w.cell? ⟨b, 1, none⟩ = some x1 ∧ w.cell? ⟨b, 2, none⟩ = some x2 ∧ w.cell? ⟨b, 3, none⟩ = some x3 ∧
    w.frozen? ⟨b, 0, none⟩ = false ∧ w.frozen? ⟨b, 1, none⟩ = false ∧ w.frozen? ⟨b, 2, none⟩ = false ∧ w.frozen? ⟨b, 3, none⟩ = false :=
  ⟨by rw [cell_of_row w b 0 _ _ _ h]; rfl, by rw [cell_of_row w b 1 _ _ _ h]; rfl, by rw [cell_of_row w b 2 _ _ _ h]; rfl, by rw [cell_of_row w b 3 _ _ _ h]; rfl,
   frozen_of_row w b 0 _ _ h, frozen_of_row w b 1 _ _ h, frozen_of_row w b 2 _ _ h, frozen_of_row w b 3 _ _ h⟩
theorem set4all {w : World} {b : Nat} {x0 x1 x2 x3 : Value} {t : TypeId} (h : w.heap[b]? = some (.cells #[x0, x1, x2, x3] t (0, 0))) (y0 y1 y2 y3 : Value) :
  ((((w.setCell ⟨b, 0, none⟩ y0).setCell ⟨b, 1, none⟩ y1).setCell ⟨b, 2, none⟩ y2).setCell ⟨b, 3, none⟩ y3).heap[b]? = some (.cells #[y0, y1, y2, y3] t (0, 0)) :=
 heap_setCell_same _ b 3 _ _ _ (heap_setCell_same _ b 2 _ _ _ (heap_setCell_same _ b 1 _ _ _ (heap_setCell_same _ b 0 _ _ _ h)))
theorem Pd.set4 {w : World} {P B : Nat} {v : Value} {L : List Tok} {st : RS} (h : Pd w P v L st) (hB : ∀ g, v.ownBlock = some g → g < B) (hP : P < B) {b : Nat} (hb : B ≤ b) (y0 y1 y2 y3 : Value) :
  Pd ((((w.setCell ⟨b, 0, none⟩ y0).setCell ⟨b, 1, none⟩ y1).setCell ⟨b, 2, none⟩ y2).setCell ⟨b, 3, none⟩ y3) P v L st :=
 ((((h.setOther hB hP hb y0).setOther hB hP hb y1).setOther hB hP hb y2).setOther hB hP hb y3)
theorem Kept.set4 {P : Nat} {a w : World} (h : Kept P a w) {b : Nat} (hb : a.heap.size ≤ b) (y0 y1 y2 y3 : Value) :
  Kept P a ((((w.setCell ⟨b, 0, none⟩ y0).setCell ⟨b, 1, none⟩ y1).setCell ⟨b, 2, none⟩ y2).setCell ⟨b, 3, none⟩ y3) :=
 (((h.setNew hb y0).setNew hb y1).setNew hb y2).setNew hb y3
theorem rSet1_of {L : List Tok} {st s1 : RS} {k d : Tok × RS} (h1 : rMust L [115, 101, 116] st = s1) (h2 : rKind L [110, 97, 109, 101] s1 = k) (h3 : rKind L [100, 105, 103, 105, 116] k.2 = d) :
  rSet1 L st = (⟨k.1, d.1⟩, rMust L [59] d.2) := by
 subst h1; subst h2; subst h3; rfl

set_option maxRecDepth 100000 in
set_option maxHeartbeats 1000000 in
theorem pset_any (w : World) (P : Nat) (v : Value) (L : List Tok) (st : RS) (h : Pd w P v L st) :
  Calls Tryz.prog 147 #[.pointer (some ⟨P, 0, none⟩)] w fun e w' => e = .returned (stV (rSet1 L st).1) ∧ Pd w' P v L (rSet1 L st).2 ∧ Kept P w w' := by
 have hX := h.in
 have HV := hide h.own_lt
 go_enter Tryz.func147, Tryz.ntmps147
 go_wp2_with fail
 refine (expect_lit [115, 101, 116] (by decide) rfl rfl _ P v L st (h.alloc _)).mono ?_
 rintro e w1 ⟨rfl, h1, hk1⟩
 have HI := hide (rSet1_of (L := L) (st := st) rfl rfl rfl)
 generalize rMust L [115, 101, 116] st = s1 at *
 have hx1 := hk1.row (b := w.heap.size) (by omega) (alloc_new _ _)
 have HK1 := hide ((Kept.allocB _).trans hk1)
 have H1 := hide h1
 have HX1 := hide hx1
 clear h1 hk1 hx1 h
 go_wp2_with fail
 refine (name_lit _ P v L _ (unhide H1)).mono ?_
 rintro e w2 ⟨rfl, h2, hk2⟩
 generalize rKind L [110, 97, 109, 101] s1 = k at *
 have HK2 := hide ((unhide HK1).trans hk2)
 have HX2 := hide (hk2.row (by omega) (unhide HX1))
 have H2 := hide h2
 clear h2 hk2 HK1 HX1 H1
 go_wp2_with fail
 refine (digit_lit _ P v L _ (unhide H2)).mono ?_
 rintro e w3 ⟨rfl, h3, hk3⟩
 generalize rKind L [100, 105, 103, 105, 116] k.2 = d at *
 have HK3 := hide ((unhide HK2).trans hk3)
 have hx3 := hk3.row (by omega) (unhide HX2)
 have hs3 := lt_of_block hx3
 have HX3 := hide hx3
 have H3 := hide h3
 clear h3 hk3 HK2 HX2 H2 hx3
 unfold ptV dgV
 go_wp2_with fail
 refine (expect_lit [59] (by decide) rfl rfl _ P v L _ ((unhide H3).alloc _)).mono ?_
 rintro e w4 ⟨rfl, h4, hk4⟩
 have hx4 := hk4.row (by omega) (alloc_row (unhide HX3))
 have hy4 := hk4.row (b := w3.heap.size) (by omega) (alloc_new _ _)
 obtain ⟨d0, d1, d2, d3, e0, e1, e2, e3⟩ := row4' hx4
 obtain ⟨g0, g1, g2, g3, _⟩ := row4' hy4
 have HK4 := hide (((unhide HK3).alloc _).trans hk4)
 have H4 := hide h4
 have HX4 := hide hx4
 clear h4 hk4 hx4 hy4 H3 HX3 HK3
 go_wp2
 refine bodyPost_ret (v := stV ⟨k.1, d.1⟩) (results_cell_row Tryz.results147 _ _ w.heap.size _ _ _ _ rfl (set4all (unhide HX4) _ _ _ _) Tryz.underlying111 rfl (by kernel_rfl)) rfl ?_
 rw [unhide HI]
 exact ⟨rfl, (unhide H4).set4 (unhide HV) hX (Nat.le_refl _) _ _ _ _, (unhide HK4).set4 (Nat.le_refl _) _ _ _ _⟩

theorem cell_set4 {w : World} {a : Addr} {v : Value} {b : Nat} (hb : a.block ≠ b) (h : w.cell? a = some v) (y0 y1 y2 y3 : Value) : ((((w.setCell ⟨b, 0, none⟩ y0).setCell ⟨b, 1, none⟩ y1).setCell ⟨b, 2, none⟩ y2).setCell ⟨b, 3, none⟩ y3).cell? a = some v := by
 refine (World.cell?_of_block (w := w) ?_).trans h
 rw [Below.heap_setCell _ _ _ _ hb, Below.heap_setCell _ _ _ _ hb, Below.heap_setCell _ _ _ _ hb, Below.heap_setCell _ _ _ _ hb]

def paV (p : PP) : Value := .agg #[.string p.name.text, .int .i64 p.name.at_, .string p.set_.text, .int .i64 p.set_.at_]
theorem rPP_of {L : List Tok} {st s2 : RS} {k d : Tok × RS} (h1 : rKind L [110, 97, 109, 101] st = k) (h2 : rMust L [58] k.2 = s2) (h3 : rKind L [110, 97, 109, 101] s2 = d) :
  rPP L st = (⟨k.1, d.1⟩, d.2) := by
 subst h1; subst h2; subst h3; rfl
set_option maxRecDepth 100000 in
set_option maxHeartbeats 2000000 in
theorem pparam_any (w : World) (P : Nat) (v : Value) (L : List Tok) (st : RS) (h : Pd w P v L st) :
  Calls Tryz.prog 240 #[.pointer (some ⟨P, 0, none⟩)] w fun e w' => e = .returned (paV (rPP L st).1) ∧ Pd w' P v L (rPP L st).2 ∧ Kept P w w' := by
 have hX := h.in
 have HV := hide h.own_lt
 go_enter Tryz.func240, Tryz.ntmps240
 go_wp2_with fail
 refine (name_lit _ P v L st (h.alloc _)).mono ?_
 rintro e w1 ⟨rfl, h1, hk1⟩
 have HI := hide (rPP_of (L := L) (st := st) rfl rfl rfl)
 generalize rKind L [110, 97, 109, 101] st = k at *
 have hx1 := hk1.row (b := w.heap.size) (by omega) (alloc_new _ _)
 have hs1 := lt_of_block hx1
 have HK1 := hide ((Kept.allocB _).trans hk1)
 have H1 := hide h1
 have HX1 := hide hx1
 clear h1 hk1 hx1 h
 unfold ptV
 go_wp2_with fail
 refine (expect_lit [58] (by decide) rfl rfl _ P v L _ ((unhide H1).alloc _)).mono ?_
 rintro e w2 ⟨rfl, h2, hk2⟩
 generalize rMust L [58] k.2 = s2 at *
 have hx2 := hk2.row (by omega) (alloc_row (unhide HX1))
 have hy2 := hk2.row (b := w1.heap.size) (by omega) (alloc_new _ _)
 obtain ⟨g0, g1, _, _⟩ := row2 hy2
 have HK2 := hide (((unhide HK1).alloc _).trans hk2)
 have H2 := hide h2
 have HX2 := hide hx2
 clear h2 hk2 hx2 hy2 H1 HX1 HK1
 go_wp2_with fail
 go_region_held3 (fun w' => w'.cell? ⟨w1.heap.size, 0, none⟩ = some (.string k.1.text) ∧ w'.cell? ⟨w1.heap.size, 1, none⟩ = some (.int .i64 k.1.at_))
  (first | exact ⟨k0, k1⟩ | exact ⟨g0, g1⟩ | exact ⟨cell_set4 (by simp; omega) k0 _ _ _ _, cell_set4 (by simp; omega) k1 _ _ _ _⟩)
  ((go_at_call 202; refine (name_lit _ P v L _ ((unhide H2).below ((Below.refl _ _).drew))).mono ?_; rintro e w3 ⟨rfl, h3, hk3⟩; have k0 := hk3.cell (a := ⟨w1.heap.size, 0, none⟩) (show w1.heap.size ≠ P by omega) g0; have k1 := hk3.cell (a := ⟨w1.heap.size, 1, none⟩) (show w1.heap.size ≠ P by omega) g1; have hx3 := hk3.row (b := w.heap.size) (by omega) (unhide HX2); obtain ⟨d0, d1, d2, d3, e0, e1, e2, e3⟩ := row4' hx3; have HX3 := hide hx3; have H3 := hide h3; have HK3 := hide ((unhide HK2).drew.trans hk3); clear h3 hx3 hk3; unfold ptV))
 go_wp2
 refine bodyPost_ret (v := paV ⟨k.1, (rKind L [110, 97, 109, 101] s2).1⟩) (results_cell_row Tryz.results240 _ _ w.heap.size _ _ _ _ rfl (set4all (unhide HX3) _ _ _ _) Tryz.underlying352 rfl (by kernel_rfl)) rfl ?_
 rw [unhide HI]
 exact ⟨rfl, (unhide H3).set4 (unhide HV) hX (Nat.le_refl _) _ _ _ _, (unhide HK3).set4 (Nat.le_refl _) _ _ _ _⟩

end Go.Proofs.YtpmcnonmkghokaaGreatDoor
namespace Go.Proofs.YtpmcnonmkghokaaGreatDoor
open Go.RowKit
structure SiT where
 form : Int
 top : Tok
 name : Tok
def siV (x : SiT) : Value := .agg #[.int .i64 x.form, .int .i64 (digV x.top.text), .int .i64 x.top.at_, .string x.name.text, .int .i64 x.name.at_]
def siT (L : List Tok) (st : RS) : SiT :=
 if rNext L [98, 111, 111, 108] st then ⟨0, noTok, noTok⟩
 else if rNext L [116, 111] st then ⟨1, (rKind L [100, 105, 103, 105, 116] (rMust L [116, 111] st)).1, noTok⟩
 else ⟨2, noTok, (rKind L [110, 97, 109, 101] st).1⟩

theorem pAcc_yes {L : List Tok} {l : List UInt8} {st : RS} (h : rNext L l st = true) (ho : opens l = false) (hs : shuts l = false) : pAcc L l st = rMust L l st := by
 rw [rMust_plain ho hs]; unfold pAcc pExp; rw [h]; rfl
theorem pAcc_no {L : List Tok} {l : List UInt8} {st : RS} (h : rNext L l st = false) : pAcc L l st = st := by unfold pAcc; rw [h]; rfl

set_option maxRecDepth 100000 in
set_option maxHeartbeats 1000000 in
theorem psimple_any (w : World) (P : Nat) (v : Value) (L : List Tok) (st : RS) (h : Pd w P v L st) :
  Calls Tryz.prog 208 #[.pointer (some ⟨P, 0, none⟩)] w fun e w' => e = .returned (siV (siT L st)) ∧ Pd w' P v L (rTop L st).2 ∧ Kept P w w' := by
 have hX := h.in
 have HV := hide h.own_lt
 go_enter Tryz.func208, Tryz.ntmps208
 go_wp2_with fail
 refine (accept_lit [98, 111, 111, 108] (by decide) _ P v L st (h.alloc _)).mono ?_
 rintro e w1 ⟨rfl, h1, hk1⟩
 have hx1 := hk1.row (b := w.heap.size) (by omega) (alloc_new _ _)
 have HK1 := hide ((Kept.allocB _).trans hk1)
 have HX1 := hide hx1
 cases hb : rNext L [98, 111, 111, 108] st
 ·rw [pAcc_no hb] at h1
  have H1 := hide h1
  clear h1 hk1 hx1 h
  go_wp2_with fail
  refine (accept_lit [116, 111] (by decide) _ P v L st (unhide H1)).mono ?_
  rintro e w2 ⟨rfl, h2, hk2⟩
  have HK2 := hide ((unhide HK1).trans hk2)
  have HX2 := hide (hk2.row (by omega) (unhide HX1))
  clear hk2 H1 HK1 HX1
  cases ht : rNext L [116, 111] st
  ·have HE := hide (show siT L st = ⟨2, noTok, (rKind L [110, 97, 109, 101] st).1⟩ by unfold siT; rw [hb, ht]; rfl)
   have HF := hide (show (rTop L st).2 = (rKind L [110, 97, 109, 101] st).2 by unfold rTop; rw [hb, ht]; rfl)
   rw [pAcc_no ht] at h2
   have H2 := hide h2
   clear h2
   go_wp2_with fail
   refine (name_lit _ P v L st (unhide H2)).mono ?_
   rintro e w3 ⟨rfl, h3, hk3⟩
   generalize rKind L [110, 97, 109, 101] st = k at *
   have hx3 := hk3.row (by omega) (unhide HX2)
   obtain ⟨d0, d1, d2, d3, d4, e0, e1, e2, e3, e4⟩ := row5' hx3
   have HX3 := hide hx3
   have H3 := hide h3
   have HK3 := hide ((unhide HK2).trans hk3)
   clear h3 hx3 hk3 H2 HK2 HX2
   unfold ptV
   go_wp2
   refine bodyPost_ret (v := siV ⟨2, noTok, k.1⟩) (results_cell_row Tryz.results208 _ _ w.heap.size _ _ _ _ rfl (set5all (unhide HX3) _ _ _ _ _) Tryz.underlying119 rfl (by kernel_rfl)) rfl ?_
   rw [unhide HE, unhide HF]
   exact ⟨rfl, (unhide H3).set5 (unhide HV) hX (Nat.le_refl _) _ _ _ _ _, (unhide HK3).set5 (Nat.le_refl _) _ _ _ _ _⟩
  ·have HE := hide (show siT L st = ⟨1, (rKind L [100, 105, 103, 105, 116] (rMust L [116, 111] st)).1, noTok⟩ by unfold siT; rw [hb, ht]; rfl)
   have HF := hide (show (rTop L st).2 = (rKind L [100, 105, 103, 105, 116] (rMust L [116, 111] st)).2 by unfold rTop; rw [hb, ht]; rfl)
   rw [pAcc_yes ht rfl rfl] at h2
   have H2 := hide h2
   clear h2
   go_wp2_with fail
   refine (digit_lit _ P v L _ (unhide H2)).mono ?_
   rintro e w3 ⟨rfl, h3, hk3⟩
   generalize rKind L [100, 105, 103, 105, 116] (rMust L [116, 111] st) = k at *
   have hx3 := hk3.row (by omega) (unhide HX2)
   obtain ⟨d0, d1, d2, d3, d4, e0, e1, e2, e3, e4⟩ := row5' hx3
   have HX3 := hide hx3
   have H3 := hide h3
   have HK3 := hide ((unhide HK2).trans hk3)
   clear h3 hx3 hk3 H2 HK2 HX2
   unfold dgV
   go_wp2
   refine bodyPost_ret (v := siV ⟨1, k.1, noTok⟩) (results_cell_row Tryz.results208 _ _ w.heap.size _ _ _ _ rfl (set5all (unhide HX3) _ _ _ _ _) Tryz.underlying119 rfl (by kernel_rfl)) rfl ?_
   rw [unhide HE, unhide HF]
   exact ⟨rfl, (unhide H3).set5 (unhide HV) hX (Nat.le_refl _) _ _ _ _ _, (unhide HK3).set5 (Nat.le_refl _) _ _ _ _ _⟩
 ·have HE := hide (show siT L st = ⟨0, noTok, noTok⟩ by unfold siT; rw [hb]; rfl)
  have HF := hide (show (rTop L st).2 = rMust L [98, 111, 111, 108] st by unfold rTop; rw [hb]; rfl)
  rw [pAcc_yes hb rfl rfl] at h1
  obtain ⟨d0, d1, d2, d3, d4, e0, e1, e2, e3, e4⟩ := row5' hx1
  have H1 := hide h1
  clear h1 hk1 hx1 h
  go_wp2
  refine bodyPost_ret (v := siV ⟨0, noTok, noTok⟩) (results_cell_row Tryz.results208 _ _ w.heap.size _ _ _ _ rfl (set5all (unhide HX1) _ _ _ _ _) Tryz.underlying119 rfl (by kernel_rfl)) rfl ?_
  rw [unhide HE, unhide HF]
  exact ⟨rfl, (unhide H1).set5 (unhide HV) hX (Nat.le_refl _) _ _ _ _ _, (unhide HK1).set5 (Nat.le_refl _) _ _ _ _ _⟩

end Go.Proofs.YtpmcnonmkghokaaGreatDoor
namespace Go.Proofs.YtpmcnonmkghokaaGreatDoor
open Go.RowKit
def paCells (p : PP) : List Value := [.string p.name.text, .int .i64 p.name.at_, .string p.set_.text, .int .i64 p.set_.at_]
def pasCells (l : List PP) : List Value := l.flatMap paCells
theorem pasCells_snoc (l : List PP) (p : PP) : pasCells (l ++ [p]) = pasCells l ++ paCells p := by simp [pasCells]
theorem paCells_one (p : PP) : ∀ u ∈ paCells p, u.oneCell' = true := by
 intro u h
 simp only [paCells, List.mem_cons, List.not_mem_nil, or_false] at h
 rcases h with rfl | rfl | rfl | rfl <;> rfl
theorem Tryz.infoPa : (Tryz.prog.info? 352).map (fun i => (i.zero, i.size, i.bytes)) = some (some (.agg #[.string ⟨#[]⟩, .int .i64 0, .string ⟨#[]⟩, .int .i64 0]), 4, 48) := by kernel_rfl

theorem rMust_badEq {L : List Tok} {s : List UInt8} {st : RS} (h : st.bad = true) : rMust L s st = st := by
 unfold rMust
 rw [rNext_bad h]
 simp only [Bool.not_false, Bool.true_or, if_true]
 cases st; simp_all
theorem rKind_badEq {L : List Tok} {s : List UInt8} {st : RS} (h : st.bad = true) : (rKind L s st).2 = st := by
 unfold rKind rKindOk
 rw [h]
 simp only [Bool.not_true, Bool.false_and, Bool.false_eq_true, if_false]
 cases st; simp_all
theorem rPP_badEq {L : List Tok} {st : RS} (h : st.bad = true) : (rPP L st).2 = st := by
 show (rKind L _ (rMust L [58] (rKind L _ st).2)).2 = st
 rw [rKind_badEq h, rMust_badEq h, rKind_badEq h]

def PaLeft (L : List Tok) (fin : List PP × RS) (acc : List PP) (s : RS) : Prop :=
 (s.bad = true ∧ fin.2 = s) ∨ (s.bad = false ∧ ∃ f, L.length ≤ s.at_ + f ∧ (if rNext L [44] s then rPar f L acc (rMust L [44] s) else (acc, s)) = fin)
def PaRel (w : World) (P : Nat) (v : Value) (L : List Tok) (fin : List PP × RS) (x : Value) (wr : World) : Prop :=
 ∃ (acc : List PP) (s : RS), PaLeft L fin acc s ∧ acc.length ≤ s.at_ + 1 ∧ wr.ownsRow w.heap.size 352 4 x acc.length (pasCells acc) ∧ Pd wr P v L s ∧ Kept P w wr
def PaPost (P : Nat) (v : Value) (L : List Tok) (w : World) (r : List PP × RS) (e : Ending) (w' : World) : Prop :=
 ∃ x l, e = .returned x ∧ w'.ownsRow w.heap.size 352 4 x l.length (pasCells l) ∧ (r.2.bad = false → l = r.1) ∧ Pd w' P v L r.2 ∧ Kept P w w' ∧ l.length ≤ 801

theorem paLeft_first {L : List Tok} {s : RS} {f : Nat} (hf : L.length ≤ s.at_ + f) : PaLeft L (rPar (f + 1) L [] s) [(rPP L s).1] (rPP L s).2 := by
 cases hb : s.bad
 ·have hm := rPP_mono L s
  rw [rPar]
  simp only [hb, Bool.false_eq_true, if_false]
  cases hb2 : (rPP L s).2.bad
  ·exact Or.inr ⟨hb2, f, by omega, rfl⟩
  ·refine Or.inl ⟨hb2, ?_⟩
   rw [rNext_bad hb2]; rfl
 ·refine Or.inl ⟨by rw [rPP_badEq hb]; exact hb, ?_⟩
  rw [rPar]; simp only [hb, if_true]; rw [rPP_badEq hb]
theorem paLeft_more {L : List Tok} {fin : List PP × RS} {acc : List PP} {s : RS} (hlt : s.at_ < L.length) (h : PaLeft L fin acc s) (hn : rNext L [44] s = true) : PaLeft L fin (acc ++ [(rPP L (rMust L [44] s)).1]) (rPP L (rMust L [44] s)).2 := by
 rcases h with ⟨hb, _⟩ | ⟨hb, f, hf, e⟩
 ·rw [rNext_bad hb] at hn; cases hn
 ·rw [if_pos hn] at e
  have hm : rMust L [44] s = { s with at_ := s.at_ + 1 } := by rw [rMust_plain rfl rfl]; unfold pExp; rw [hn]; rfl
  have hat : (rMust L [44] s).at_ = s.at_ + 1 := by rw [hm]
  have hbm : (rMust L [44] s).bad = false := by rw [hm]; exact hb
  obtain ⟨f, rfl⟩ : ∃ g, f = g + 1 := ⟨f - 1, by omega⟩
  generalize rMust L [44] s = s' at *
  rw [rPar] at e
  simp only [hbm, Bool.false_eq_true, if_false] at e
  have hmo := rPP_mono L s'
  cases hb2 : (rPP L s').2.bad
  ·exact Or.inr ⟨hb2, f, by omega, e⟩
  ·refine Or.inl ⟨hb2, ?_⟩
   rw [rNext_bad hb2] at e
   rw [← e]; rfl
theorem paLeft_end {L : List Tok} {fin : List PP × RS} {acc : List PP} {s : RS} (h : PaLeft L fin acc s) (hn : rNext L [44] s = false) : fin.2 = s ∧ (s.bad = false → fin.1 = acc) := by
 rcases h with ⟨hb, e⟩ | ⟨hb, f, hf, e⟩
 ·exact ⟨e, fun hb' => by rw [hb] at hb'; cases hb'⟩
 ·rw [hn] at e
  simp only [Bool.false_eq_true, if_false] at e
  rw [← e]; exact ⟨rfl, fun _ => rfl⟩
theorem rParams_split (L : List Tok) (st : RS) : (rNext L [41] (rMust L [40] st) = true → rParams L st = ([], rMust L [41] (rMust L [40] st))) ∧
  (rNext L [41] (rMust L [40] st) = false → rParams L st = ((rPar (fuelM L) L [] (rMust L [40] st)).1, rMust L [41] (rPar (fuelM L) L [] (rMust L [40] st)).2)) := by
 constructor <;> intro h <;> (unfold rParams; rw [h]; rfl)
theorem bad_of_must {L : List Tok} {s : List UInt8} {st : RS} (h : (rMust L s st).bad = false) : st.bad = false := by
 cases hb : st.bad
 ·rfl
 ·rw [rMust_bad hb] at h; cases h
theorem Pd.grown {w w' : World} {P B : Nat} {v u : Value} {L : List Tok} {st : RS} (h : Pd w P v L st) (hg : w.grownBy w' u.ownBlock) (hu : ∀ k, u.ownBlock = some k → B ≤ k) (hB : ∀ g, v.ownBlock = some g → g < B) (hP : P < B) : Pd w' P v L st := by
 refine h.same (hg.block P h.in (fun e => by have := hu P e.symm; omega)) ?_
 refine h.own.kept hg ?_
 cases hv : v.ownBlock with
 | none => exact Or.inl rfl
 | some j => exact Or.inr fun hj => by have h1 := hB j hv; have h2 := hu j hj.symm; omega
def nxOf (w : World) (P : Nat) : Nat := match w.cell? ⟨P, 1, none⟩ with
 | some (.int _ n) => n.toNat
 | _ => 0
theorem Pd.nx {w : World} {P : Nat} {v : Value} {L : List Tok} {s : RS} (h : Pd w P v L s) : nxOf w P = if s.bad then L.length - 1 else s.at_ := by
 obtain ⟨r, h1, h2⟩ := h
 unfold nxOf
 rw [(prow5 h1.pd).2.1]
 simp only [Int.toNat_natCast]
 cases hb : s.bad
 ·simp [(h2.good hb).2.1]
 ·simp [(h2.bad hb).2.1]
theorem Pd.nx_good {w : World} {P : Nat} {v : Value} {L : List Tok} {s : RS} (h : Pd w P v L s) (hb : s.bad = false) : nxOf w P = s.at_ := by rw [h.nx, hb]; rfl
theorem nx_less {w w' : World} {P : Nat} {v : Value} {L : List Tok} {s s' : RS} (h : Pd w P v L s) (h' : Pd w' P v L s') (hb : s.bad = false) (hl : s.at_ + 1 < L.length) (hm : s'.bad = false → s.at_ + 1 ≤ s'.at_) : L.length - nxOf w' P < L.length - nxOf w P := by
 have := h'.lt
 rw [h.nx_good hb, h'.nx]
 split
 ·omega
 ·rename_i hb'
  have := hm (by simpa using hb')
  omega

set_option maxRecDepth 100000 in
set_option maxHeartbeats 2000000 in
theorem pparams_any (w : World) (P : Nat) (v : Value) (L : List Tok) (st : RS) (h : Pd w P v L st) :
  Calls Tryz.prog 209 #[.pointer (some ⟨P, 0, none⟩)] w fun e w' => PaPost P v L w (rParams L st) e w' := by
 obtain ⟨i0, hi, hz0, hz1, hz2⟩ := info_parts Tryz.infoPa
 have hX := h.in
 have HV := hide h.own_lt
 have hlen := h.ok.len
 go_enter Tryz.func209, Tryz.ntmps209
 go_wp2_with fail
 refine (open_lit [40] (by decide) rfl _ P v L st h).mono ?_
 rintro e w1 ⟨rfl, h1, hk1⟩
 obtain ⟨hS1, hS2⟩ := rParams_split L st
 have HS1 := hide hS1
 have HS2 := hide hS2
 have HK1 := hide hk1
 have H1 := hide h1
 clear h1 hk1 h hS1 hS2
 generalize rMust L [40] st = s1 at *
 go_wp2_with fail
 refine (is_lit [41] (by decide) _ P v L _ (unhide H1)).mono ?_
 rintro e w2 ⟨rfl, h2, hk2⟩
 have HK2 := hide ((unhide HK1).trans hk2)
 have H2 := hide h2
 clear h2 hk2 H1 HK1
 cases hn : rNext L [41] s1
 ·have HE := hide ((unhide HS2) hn)
  clear HS1 HS2
  go_wp2_with fail
  refine (pparam_any _ P v L _ (unhide H2)).mono ?_
  rintro e w3 ⟨rfl, h3, hk3⟩
  have HL := hide (paLeft_first (L := L) (s := s1) (f := L.length + 1) (by omega))
  have hat := rPP_mono L s1
  have HK3 := hide ((unhide HK2).trans hk3)
  have hsz3 := (unhide HK3).size
  have H3 := hide h3
  have HF := hide (show rPar (L.length + 1 + 1) L [] s1 = rPar (fuelM L) L [] s1 from rfl)
  generalize rPar (L.length + 1 + 1) L [] s1 = fin at *
  generalize rPP L s1 = q at *
  clear h3 hk3 H2 HK2
  unfold paV
  go_wp2_with (at_builtin; refine wpList_append_own _ rfl _ _ 123 rfl w.heap.size 352 i0 _ 4 48 Tryz.underlying123 hi hz0 hz1 hz2 rfl (by decide) _ _ _ rfl (World.ownsRow_nil _ _ _ _) ⟨w3.heap.size, 0, none⟩ 1 1 (paCells q.1) rfl rfl ?c1 ?c2 ?c3 ?c4 ?c5 ?_)
  case c1 => exact cells_new w3 _ (paCells q.1) _ rfl
  case c2 => exact paCells_one _
  case c3 => unfold maxLen; simp
  case c4 => simp
  case c5 => simp; omega
  intro v' w4 hown4 hgrow _
  have hk4 : Kept P w w4 := ((unhide HK3).alloc _).grown (v := .slice none 0 0) hgrow (fun k hk => by simp [Value.ownBlock] at hk)
  have h4 : Pd w4 P v L q.2 := ((unhide H3).alloc _).grown (u := .slice none 0 0) (B := w.heap.size) hgrow (fun k hk => by simp [Value.ownBlock] at hk) (unhide HV) hX
  have HR := hide (show PaRel w P v L fin v' w4 from ⟨[q.1], q.2, unhide HL, by simp, by simpa [pasCells] using hown4, h4, hk4⟩)
  clear hown4 hgrow hk4 h4 H3 HK3 HL
  go_wp2_with fail
  go_loopw [3] (fun x wr => PaRel w P v L fin x wr) (fun _ wr => L.length - nxOf wr P)
  case atStart => exact unhide HR
  case round =>
   obtain ⟨acc, s, hleft, hal, hown, hpd, hkp⟩ := hrel
   have hlt := hpd.lt
   have HL := hide hleft
   have HO := hide hown
   have HP := hide hpd
   have HK := hide hkp
   have hsz := hkp.size
   clear hleft hown hpd hkp
   go_wp2_with fail
   refine (accept_lit [44] (by decide) _ P v L s (unhide HP)).mono ?_
   rintro e w5 ⟨rfl, h5, hk5⟩
   have HO5 := hide (owns_kept' (unhide HO) hk5 hX)
   have HK5 := hide ((unhide HK).trans hk5)
   have hsz5 := (unhide HK5).size
   clear hk5 HK
   cases hc : rNext L [44] s
   ·rw [pAcc_no hc] at h5
    obtain ⟨he1, he2⟩ := paLeft_end (unhide HL) hc
    have H5 := hide h5
    have HE1 := hide he1
    have HE2 := hide he2
    clear h5 he1 he2
    go_wp2_with fail
    refine (shut_lit [41] (by decide) rfl rfl _ P v L s (unhide H5)).mono ?_
    rintro e w6 ⟨rfl, h6, hk6⟩
    have HO6 := hide (owns_kept' (unhide HO5) hk6 hX)
    have HK6 := hide ((unhide HK5).trans hk6)
    have H6 := hide h6
    clear h6 hk6
    go_wp2
    go_ret
    rw [unhide HE, ← unhide HF, unhide HE1]
    exact ⟨_, acc, rfl, unhide HO6, fun hb => ((unhide HE2) (bad_of_must hb)).symm, unhide H6, unhide HK6, by omega⟩
   ·rw [pAcc_yes hc rfl rfl] at h5
    have hns := next_step (unhide HP).ok hlt hc
    have hmm : (rMust L [44] s).at_ = s.at_ + 1 := by rw [rMust_plain rfl rfl]; unfold pExp; rw [hc]; rfl
    have HM := hide (paLeft_more hlt (unhide HL) hc)
    have H5 := hide h5
    clear h5 HL
    generalize rMust L [44] s = s' at *
    have hmo := rPP_mono L s'
    go_wp2_with fail
    refine (pparam_any _ P v L _ (unhide H5)).mono ?_
    rintro e w6 ⟨rfl, h6, hk6⟩
    have HO6 := hide (owns_kept' (unhide HO5) hk6 hX)
    have HK6 := hide ((unhide HK5).trans hk6)
    have hsz6 := (unhide HK6).size
    have H6 := hide h6
    clear h6 hk6 HO5 HK5 H5 HO
    generalize rPP L s' = q6 at *
    unfold paV
    go_wp2_with (at_builtin; refine wpList_append_own _ rfl _ _ 123 rfl w.heap.size 352 i0 _ 4 48 Tryz.underlying123 hi hz0 hz1 hz2 rfl (by decide) _ _ _ rfl ((unhide HO6).alloc _) ⟨w6.heap.size, 0, none⟩ 1 1 (paCells q6.1) rfl rfl ?k1 ?k2 ?k3 ?k4 ?k5 ?_)
    case k1 => exact cells_new w6 _ (paCells q6.1) _ rfl
    case k2 => exact paCells_one _
    case k3 => unfold maxLen; omega
    case k4 => omega
    case k5 => simp; omega
    intro v7 w7 hown7 hgrow7 _
    have hge := own_ge (unhide HO6)
    have hk7 : Kept P w w7 := ((unhide HK6).alloc _).grown hgrow7 hge
    have h7 : Pd w7 P v L q6.2 := ((unhide H6).alloc _).grown hgrow7 hge (unhide HV) hX
    have HR7 := hide (show PaRel w P v L fin v7 w7 from ⟨acc ++ [q6.1], q6.2, unhide HM, by simp; omega, by rw [pasCells_snoc, List.length_append]; exact hown7, h7, hk7⟩)
    have HMS := hide (nx_less (unhide HP) h7 hns.1 hns.2 (fun _ => by omega))
    clear hown7 hgrow7 hk7 h7 hge
    go_wp2
    go_roundw
    case rel => exact unhide HR7
    case measure => exact unhide HMS
 ·have HE := hide ((unhide HS1) hn)
  clear HS1 HS2
  go_wp2_with fail
  refine (shut_lit [41] (by decide) rfl rfl _ P v L _ (unhide H2)).mono ?_
  rintro e w6 ⟨rfl, h6, hk6⟩
  have HK6 := hide ((unhide HK2).trans hk6)
  have H6 := hide h6
  clear h6 hk6
  go_wp2
  go_ret
  rw [unhide HE]
  exact ⟨_, [], rfl, World.ownsRow_nil _ _ _ _, fun _ => rfl, unhide H6, unhide HK6, by simp⟩

end Go.Proofs.YtpmcnonmkghokaaGreatDoor

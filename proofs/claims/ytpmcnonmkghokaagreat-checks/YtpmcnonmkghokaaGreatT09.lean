/-
  The program's model, as far as it was read: how it lies in memory.
  The reference's look-ups over a tree: first, past, off, set, kind, variable.
  The reference's look-ups, further: member, param, known.
  The reference's names: all names of places and indices in an expression.
-/
import Derived.Test.YtpmcnonmkghokaaGreatT08
import Derived.Test.YtpmcnonmkghokaaGreatT05
import Derived.Laws.AppendOwnNone
set_option linter.unusedVariables false
set_option linter.unusedSimpArgs false
namespace Go.Proofs.YtpmcnonmkghokaaGreat
open Go.RowKit

def stC1 (s : PSet) : List Value := [.string s.name.text, .int .i64 s.name.at_, .int .i64 (digV s.size.text), .int .i64 s.size.at_]
def stsC (l : List PSet) : List Value := l.flatMap stC1
def vrsC (l : List VrT) : List Value := l.flatMap vrCells
theorem stsC_snoc (l : List PSet) (p : PSet) : stsC (l ++ [p]) = stsC l ++ stC1 p := by simp [stsC]
theorem vrsC_snoc (l : List VrT) (p : VrT) : vrsC (l ++ [p]) = vrsC l ++ vrCells p := by simp [vrsC]
theorem stC1_one (p : PSet) : ∀ u ∈ stC1 p, u.oneCell' = true := by
  intro u h
  simp only [stC1, List.mem_cons, List.not_mem_nil, or_false] at h
  rcases h with rfl | rfl | rfl | rfl <;> rfl
theorem vrCells_one (p : VrT) : ∀ u ∈ vrCells p, u.oneCell' = true := by
  intro u h
  simp only [vrCells, List.mem_cons, List.not_mem_nil, or_false] at h
  rcases h with rfl | rfl | rfl | rfl | rfl | rfl | rfl | rfl | rfl | rfl <;> rfl
/-- The cells are the kinds of the list. -/
def KdIs (lo : Nat) (w : World) : List PKind → List Value → Prop
  | [], cs => cs = []
  | k :: ks, cs => ∃ ma mn mc rest, cs = [.string k.name.text, .int .i64 k.name.at_, .slice ma mn mc] ++ rest ∧ w.ownsRow lo 118 2 (.slice ma mn mc) k.members.length (ptsCells k.members) ∧ KdIs lo w ks rest
theorem KdIs.stay {lo : Nat} {w w' : World} (hk : ∀ k, lo ≤ k → k < w.heap.size → w'.heap[k]? = w.heap[k]?) : ∀ {ks : List PKind} {cs : List Value}, KdIs lo w ks cs → KdIs lo w' ks cs
  | [], _, h => h
  | k :: ks, _, ⟨ma, mn, mc, rest, e, h1, h2⟩ => ⟨ma, mn, mc, rest, e, owns_stay hk h1, KdIs.stay hk h2⟩
theorem KdIs.mono {lo lo' : Nat} {w : World} (hl : lo' ≤ lo) : ∀ {ks : List PKind} {cs : List Value}, KdIs lo w ks cs → KdIs lo' w ks cs
  | [], _, h => h
  | k :: ks, _, ⟨ma, mn, mc, rest, e, h1, h2⟩ => ⟨ma, mn, mc, rest, e, owns_mono hl h1, KdIs.mono hl h2⟩
theorem KdIs.app {lo : Nat} {w : World} : ∀ {ks js : List PKind} {cs ds : List Value}, KdIs lo w ks cs → KdIs lo w js ds → KdIs lo w (ks ++ js) (cs ++ ds)
  | [], _, cs, ds, h, h' => by
    have : cs = [] := h
    subst this; exact h'
  | k :: ks, _, cs, ds, ⟨ma, mn, mc, rest, e, h1, h2⟩, h' => ⟨ma, mn, mc, rest ++ ds, by rw [e, List.append_assoc], h1, h2.app h'⟩
theorem KdIs.grown {lo base e size : Nat} {w w' : World} {v : Value} {n : Nat} {zs : List Value} (hv : w.ownsRow base e size v n zs) (he : 118 ≠ e) (hg : w.grownBy w' v.ownBlock) : ∀ {ks : List PKind} {cs : List Value}, KdIs lo w ks cs → KdIs lo w' ks cs
  | [], _, h => h
  | k :: ks, _, ⟨ma, mn, mc, rest, e1, h1, h2⟩ => ⟨ma, mn, mc, rest, e1, owns_grown h1 hv he hg, KdIs.grown hv he hg h2⟩
theorem BIs.grownOther {lo base e size : Nat} {no : Option Nat} {w w' : World} {v : Value} {n : Nat} {zs : List Value} (hv : w.ownsRow base e size v n zs) (he : 189 ≠ e) (hx : 186 ≠ e) (hg : w.grownBy w' v.ownBlock) : ∀ {b : PB} {cs : List Value}, BIs lo no w b cs → BIs lo no w' b cs
  | .nil, _, h => h
  | .node _ _ a .nil n, cs, ⟨p, rest, e, h1, hn⟩ => ⟨p, rest, e, h1.grown hv hx hg, BIs.grownOther hv he hx hg hn⟩
  | .node _ _ a (.node _ _ _ t e) n, cs, ⟨p, ta, tn, tc, ea, en, ec, ct, ce, rest, e1, h1, ⟨ht1, ht3, ht2⟩, ⟨he1, he3, he2⟩, hn⟩ =>
    ⟨p, ta, tn, tc, ea, en, ec, ct, ce, rest, e1, h1.grown hv hx hg, ⟨owns_grown ht1 hv he hg, ht3, BIs.grownOther hv he hx hg ht2⟩, ⟨owns_grown he1 hv he hg, he3, BIs.grownOther hv he hx hg he2⟩, BIs.grownOther hv he hx hg hn⟩
theorem RuIs.grown {lo base e size : Nat} {w w' : World} {v : Value} {n : Nat} {zs : List Value} (hv : w.ownsRow base e size v n zs) (hp : 178 ≠ e) (he : 189 ≠ e) (hx : 186 ≠ e) (hg : w.grownBy w' v.ownBlock) : ∀ {rs : List PRule} {cs : List Value}, RuIs lo w rs cs → RuIs lo w' rs cs
  | [], _, h => h
  | r :: rs, _, ⟨pa, pn, pc, gp, ba, bn, bc, bcs, rest, e1, h1, h2, h3, h4, h5⟩ => ⟨pa, pn, pc, gp, ba, bn, bc, bcs, rest, e1, owns_grown h1 hv hp hg, h2.grown hv hx hg, owns_grown h3 hv he hg, h4.grownOther hv he hx hg, RuIs.grown hv hp he hx hg h5⟩
theorem NvIs.grown {lo base e size : Nat} {w w' : World} {v : Value} {n : Nat} {zs : List Value} (hv : w.ownsRow base e size v n zs) (hp : 178 ≠ e) (hx : 186 ≠ e) (hg : w.grownBy w' v.ownBlock) : ∀ {rs : List PRule} {cs : List Value}, NvIs lo w rs cs → NvIs lo w' rs cs
  | [], _, h => h
  | r :: rs, _, ⟨pa, pn, pc, gp, rest, e1, h1, h2, h5⟩ => ⟨pa, pn, pc, gp, rest, e1, owns_grown h1 hv hp hg, h2.grown hv hx hg, NvIs.grown hv hp hx hg h5⟩

/-- What was read of a model. -/
structure MdL where
  sets : List PSet
  kinds : List PKind
  vars : List VrT
  rules : List PRule
  nevers : List PRule
/-- It lies so, the five lists in the block B1. -/
structure MdIs (lo : Nat) (w : World) (x0 x1 x2 x3 x4 : Value) (m : MdL) : Prop where
  o0 : w.ownsRow lo 122 4 x0 m.sets.length (stsC m.sets)
  o1 : ∃ cs, w.ownsRow lo 126 3 x1 m.kinds.length cs ∧ KdIs lo w m.kinds cs
  o2 : w.ownsRow lo 132 10 x2 m.vars.length (vrsC m.vars)
  o3 : ∃ cs, w.ownsRow lo 138 5 x3 m.rules.length cs ∧ RuIs lo w m.rules cs
  o4 : ∃ cs, w.ownsRow lo 141 4 x4 m.nevers.length cs ∧ NvIs lo w m.nevers cs
theorem MdIs.stay {lo : Nat} {w w' : World} {x0 x1 x2 x3 x4 : Value} {m : MdL} (hk : ∀ k, lo ≤ k → k < w.heap.size → w'.heap[k]? = w.heap[k]?) (h : MdIs lo w x0 x1 x2 x3 x4 m) : MdIs lo w' x0 x1 x2 x3 x4 m := by
  obtain ⟨h0, ⟨c1, h1, k1⟩, h2, ⟨c3, h3, k3⟩, ⟨c4, h4, k4⟩⟩ := h
  exact ⟨owns_stay hk h0, ⟨c1, owns_stay hk h1, k1.stay hk⟩, owns_stay hk h2, ⟨c3, owns_stay hk h3, k3.stay hk⟩, ⟨c4, owns_stay hk h4, k4.stay hk⟩⟩
theorem MdIs.mono {lo lo' : Nat} {w : World} {x0 x1 x2 x3 x4 : Value} {m : MdL} (hl : lo' ≤ lo) (h : MdIs lo w x0 x1 x2 x3 x4 m) : MdIs lo' w x0 x1 x2 x3 x4 m := by
  obtain ⟨h0, ⟨c1, h1, k1⟩, h2, ⟨c3, h3, k3⟩, ⟨c4, h4, k4⟩⟩ := h
  exact ⟨owns_mono hl h0, ⟨c1, owns_mono hl h1, k1.mono hl⟩, owns_mono hl h2, ⟨c3, owns_mono hl h3, k3.mono hl⟩, ⟨c4, owns_mono hl h4, k4.mono hl⟩⟩
structure MdRel (w : World) (P : Nat) (v : Value) (L : List Tok) (B0 B1 : Nat) (x0 x1 x2 x3 x4 : Value) (m : MdL) (s : RS) (wx : World) : Prop where
  b0 : wx.heap[B0]? = some (.cells #[.slice none 0 0, .slice none 0 0, .slice none 0 0, .slice none 0 0, .slice none 0 0] 33 (0, 0))
  b1 : wx.heap[B1]? = some (.cells #[x0, x1, x2, x3, x4] 33 (0, 0))
  md : MdIs (B1 + 1) wx x0 x1 x2 x3 x4 m
  pd : Pd wx P v L s
  kept : Kept P w wx
theorem MdRel.kept' {w : World} {P : Nat} {v : Value} {L : List Tok} {B0 B1 : Nat} {x0 x1 x2 x3 x4 : Value} {m : MdL} {s s' : RS} {wx wy : World} (h : MdRel w P v L B0 B1 x0 x1 x2 x3 x4 m s wx) (hk : Kept P wx wy) (hp : Pd wy P v L s') (h0 : P < B0) (h1 : P < B1) : MdRel w P v L B0 B1 x0 x1 x2 x3 x4 m s' wy :=
  ⟨hk.row (by omega) h.b0, hk.row (by omega) h.b1, h.md.stay (fun k hk1 hk2 => hk.block k hk2 (by omega)), hp, h.kept.trans hk⟩
/-- One more of sets. -/
theorem MdRel.more0 {w : World} {P : Nat} {v : Value} {L : List Tok} {B0 B1 : Nat} {x0 x1 x2 x3 x4 y : Value} {m : MdL} {s : RS} {wx wy : World} {e : PSet} {o : Obj} (h : MdRel w P v L B0 B1 x0 x1 x2 x3 x4 m s wx) (hg : (wx.alloc o).grownBy wy x0.ownBlock)
    (hown : wy.ownsRow (B1 + 1) 122 4 y (m.sets.length + 1) (stsC m.sets ++ stC1 e)) (hB : ∀ g, v.ownBlock = some g → g < w.heap.size) (hP : P < w.heap.size) (hB0 : w.heap.size = B0) (hB1 : B0 < B1) : MdRel w P v L B0 B1 y x1 x2 x3 x4 { m with sets := m.sets ++ [e] } s (wy.setCell ⟨B1, 0, none⟩ y) := by
  subst hB0
  obtain ⟨h0, ⟨c1, h1, k1⟩, h2, ⟨c3, h3, k3⟩, ⟨c4, h4, k4⟩⟩ := h.md
  have hv : (wx.alloc o).ownsRow (B1 + 1) 122 4 x0 _ _ := h0.alloc o
  have al : ∀ k, B1 + 1 ≤ k → k < wx.heap.size → (wx.alloc o).heap[k]? = wx.heap[k]? := fun k _ hk => Below.heap_alloc _ _ _ hk
  have st : ∀ k, B1 + 1 ≤ k → k < wy.heap.size → (wy.setCell ⟨B1, 0, none⟩ y).heap[k]? = wy.heap[k]? := fun k hk _ => Below.heap_setCell _ _ _ _ (by simp; omega)
  have hge := own_ge h0
  have l0 := lt_of_block h.b0
  have l1 := lt_of_block h.b1
  have e0 : wy.heap[w.heap.size]? = wx.heap[w.heap.size]? := (hg.block _ (by simp; omega) (fun e => by have := hge _ e.symm; omega)).trans (Below.heap_alloc _ _ _ l0)
  have e1 : wy.heap[B1]? = wx.heap[B1]? := (hg.block _ (by simp; omega) (fun e => by have := hge _ e.symm; omega)).trans (Below.heap_alloc _ _ _ l1)
  refine ⟨by rw [Below.heap_setCell _ _ _ _ (by simp; omega), e0]; exact h.b0, heap_setCell_same _ _ 0 _ _ _ (e1.trans h.b1), ?_, ?_, ?_⟩
  · refine ⟨?_, ?_, ?_, ?_, ?_⟩
    · simp only; rw [stsC_snoc, List.length_append]; exact owns_stay st hown
    · exact ⟨c1, owns_stay st (owns_grown (h1.alloc o) hv (by decide) hg), (KdIs.grown hv (by decide) hg (k1.stay al)).stay st⟩
    · exact owns_stay st (owns_grown (h2.alloc o) hv (by decide) hg)
    · exact ⟨c3, owns_stay st (owns_grown (h3.alloc o) hv (by decide) hg), (RuIs.grown hv (by decide) (by decide) (by decide) hg (k3.stay al)).stay st⟩
    · exact ⟨c4, owns_stay st (owns_grown (h4.alloc o) hv (by decide) hg), (NvIs.grown hv (by decide) (by decide) hg (k4.stay al)).stay st⟩
  · exact ((h.pd.alloc o).grown hg hge (fun g hg => by have := hB g hg; omega) (by omega)).setOther (B := w.heap.size) hB hP (by simp; omega) _
  · exact (((h.kept.alloc o).grown hg (fun k hk => by have := hge k hk; omega)).setNew (by simp; omega) _)
/-- One more of kinds. -/
theorem MdRel.more1 {w : World} {P : Nat} {v : Value} {L : List Tok} {B0 B1 : Nat} {x0 x1 x2 x3 x4 y : Value} {m : MdL} {s : RS} {wx wy : World} {e : PKind} {o : Obj} (h : MdRel w P v L B0 B1 x0 x1 x2 x3 x4 m s wx) (hg : (wx.alloc o).grownBy wy x1.ownBlock)
    {cs ds : List Value} (hown : wy.ownsRow (B1 + 1) 126 3 y (m.kinds.length + 1) (cs ++ ds)) (hin : KdIs (B1 + 1) wx m.kinds cs) (hnew : KdIs (B1 + 1) wx [e] ds) (hB : ∀ g, v.ownBlock = some g → g < w.heap.size) (hP : P < w.heap.size) (hB0 : w.heap.size = B0) (hB1 : B0 < B1) : MdRel w P v L B0 B1 x0 y x2 x3 x4 { m with kinds := m.kinds ++ [e] } s (wy.setCell ⟨B1, 1, none⟩ y) := by
  subst hB0
  obtain ⟨h0, ⟨c1, h1, k1⟩, h2, ⟨c3, h3, k3⟩, ⟨c4, h4, k4⟩⟩ := h.md
  have hv : (wx.alloc o).ownsRow (B1 + 1) 126 3 x1 _ _ := h1.alloc o
  have al : ∀ k, B1 + 1 ≤ k → k < wx.heap.size → (wx.alloc o).heap[k]? = wx.heap[k]? := fun k _ hk => Below.heap_alloc _ _ _ hk
  have st : ∀ k, B1 + 1 ≤ k → k < wy.heap.size → (wy.setCell ⟨B1, 1, none⟩ y).heap[k]? = wy.heap[k]? := fun k hk _ => Below.heap_setCell _ _ _ _ (by simp; omega)
  have hge := own_ge h1
  have l0 := lt_of_block h.b0
  have l1 := lt_of_block h.b1
  have e0 : wy.heap[w.heap.size]? = wx.heap[w.heap.size]? := (hg.block _ (by simp; omega) (fun e => by have := hge _ e.symm; omega)).trans (Below.heap_alloc _ _ _ l0)
  have e1 : wy.heap[B1]? = wx.heap[B1]? := (hg.block _ (by simp; omega) (fun e => by have := hge _ e.symm; omega)).trans (Below.heap_alloc _ _ _ l1)
  refine ⟨by rw [Below.heap_setCell _ _ _ _ (by simp; omega), e0]; exact h.b0, heap_setCell_same _ _ 1 _ _ _ (e1.trans h.b1), ?_, ?_, ?_⟩
  · refine ⟨?_, ?_, ?_, ?_, ?_⟩
    · exact owns_stay st (owns_grown (h0.alloc o) hv (by decide) hg)
    · exact ⟨cs ++ ds, by simp only; rw [List.length_append]; exact owns_stay st hown, (KdIs.grown hv (by decide) hg ((hin.app hnew).stay al)).stay st⟩
    · exact owns_stay st (owns_grown (h2.alloc o) hv (by decide) hg)
    · exact ⟨c3, owns_stay st (owns_grown (h3.alloc o) hv (by decide) hg), (RuIs.grown hv (by decide) (by decide) (by decide) hg (k3.stay al)).stay st⟩
    · exact ⟨c4, owns_stay st (owns_grown (h4.alloc o) hv (by decide) hg), (NvIs.grown hv (by decide) (by decide) hg (k4.stay al)).stay st⟩
  · exact ((h.pd.alloc o).grown hg hge (fun g hg => by have := hB g hg; omega) (by omega)).setOther (B := w.heap.size) hB hP (by simp; omega) _
  · exact (((h.kept.alloc o).grown hg (fun k hk => by have := hge k hk; omega)).setNew (by simp; omega) _)
/-- One more of vars. -/
theorem MdRel.more2 {w : World} {P : Nat} {v : Value} {L : List Tok} {B0 B1 : Nat} {x0 x1 x2 x3 x4 y : Value} {m : MdL} {s : RS} {wx wy : World} {e : VrT} {o : Obj} (h : MdRel w P v L B0 B1 x0 x1 x2 x3 x4 m s wx) (hg : (wx.alloc o).grownBy wy x2.ownBlock)
    (hown : wy.ownsRow (B1 + 1) 132 10 y (m.vars.length + 1) (vrsC m.vars ++ vrCells e)) (hB : ∀ g, v.ownBlock = some g → g < w.heap.size) (hP : P < w.heap.size) (hB0 : w.heap.size = B0) (hB1 : B0 < B1) : MdRel w P v L B0 B1 x0 x1 y x3 x4 { m with vars := m.vars ++ [e] } s (wy.setCell ⟨B1, 2, none⟩ y) := by
  subst hB0
  obtain ⟨h0, ⟨c1, h1, k1⟩, h2, ⟨c3, h3, k3⟩, ⟨c4, h4, k4⟩⟩ := h.md
  have hv : (wx.alloc o).ownsRow (B1 + 1) 132 10 x2 _ _ := h2.alloc o
  have al : ∀ k, B1 + 1 ≤ k → k < wx.heap.size → (wx.alloc o).heap[k]? = wx.heap[k]? := fun k _ hk => Below.heap_alloc _ _ _ hk
  have st : ∀ k, B1 + 1 ≤ k → k < wy.heap.size → (wy.setCell ⟨B1, 2, none⟩ y).heap[k]? = wy.heap[k]? := fun k hk _ => Below.heap_setCell _ _ _ _ (by simp; omega)
  have hge := own_ge h2
  have l0 := lt_of_block h.b0
  have l1 := lt_of_block h.b1
  have e0 : wy.heap[w.heap.size]? = wx.heap[w.heap.size]? := (hg.block _ (by simp; omega) (fun e => by have := hge _ e.symm; omega)).trans (Below.heap_alloc _ _ _ l0)
  have e1 : wy.heap[B1]? = wx.heap[B1]? := (hg.block _ (by simp; omega) (fun e => by have := hge _ e.symm; omega)).trans (Below.heap_alloc _ _ _ l1)
  refine ⟨by rw [Below.heap_setCell _ _ _ _ (by simp; omega), e0]; exact h.b0, heap_setCell_same _ _ 2 _ _ _ (e1.trans h.b1), ?_, ?_, ?_⟩
  · refine ⟨?_, ?_, ?_, ?_, ?_⟩
    · exact owns_stay st (owns_grown (h0.alloc o) hv (by decide) hg)
    · exact ⟨c1, owns_stay st (owns_grown (h1.alloc o) hv (by decide) hg), (KdIs.grown hv (by decide) hg (k1.stay al)).stay st⟩
    · simp only; rw [vrsC_snoc, List.length_append]; exact owns_stay st hown
    · exact ⟨c3, owns_stay st (owns_grown (h3.alloc o) hv (by decide) hg), (RuIs.grown hv (by decide) (by decide) (by decide) hg (k3.stay al)).stay st⟩
    · exact ⟨c4, owns_stay st (owns_grown (h4.alloc o) hv (by decide) hg), (NvIs.grown hv (by decide) (by decide) hg (k4.stay al)).stay st⟩
  · exact ((h.pd.alloc o).grown hg hge (fun g hg => by have := hB g hg; omega) (by omega)).setOther (B := w.heap.size) hB hP (by simp; omega) _
  · exact (((h.kept.alloc o).grown hg (fun k hk => by have := hge k hk; omega)).setNew (by simp; omega) _)
/-- One more of rules. -/
theorem MdRel.more3 {w : World} {P : Nat} {v : Value} {L : List Tok} {B0 B1 : Nat} {x0 x1 x2 x3 x4 y : Value} {m : MdL} {s : RS} {wx wy : World} {e : PRule} {o : Obj} (h : MdRel w P v L B0 B1 x0 x1 x2 x3 x4 m s wx) (hg : (wx.alloc o).grownBy wy x3.ownBlock)
    {cs ds : List Value} (hown : wy.ownsRow (B1 + 1) 138 5 y (m.rules.length + 1) (cs ++ ds)) (hin : RuIs (B1 + 1) wx m.rules cs) (hnew : RuIs (B1 + 1) wx [e] ds) (hB : ∀ g, v.ownBlock = some g → g < w.heap.size) (hP : P < w.heap.size) (hB0 : w.heap.size = B0) (hB1 : B0 < B1) : MdRel w P v L B0 B1 x0 x1 x2 y x4 { m with rules := m.rules ++ [e] } s (wy.setCell ⟨B1, 3, none⟩ y) := by
  subst hB0
  obtain ⟨h0, ⟨c1, h1, k1⟩, h2, ⟨c3, h3, k3⟩, ⟨c4, h4, k4⟩⟩ := h.md
  have hv : (wx.alloc o).ownsRow (B1 + 1) 138 5 x3 _ _ := h3.alloc o
  have al : ∀ k, B1 + 1 ≤ k → k < wx.heap.size → (wx.alloc o).heap[k]? = wx.heap[k]? := fun k _ hk => Below.heap_alloc _ _ _ hk
  have st : ∀ k, B1 + 1 ≤ k → k < wy.heap.size → (wy.setCell ⟨B1, 3, none⟩ y).heap[k]? = wy.heap[k]? := fun k hk _ => Below.heap_setCell _ _ _ _ (by simp; omega)
  have hge := own_ge h3
  have l0 := lt_of_block h.b0
  have l1 := lt_of_block h.b1
  have e0 : wy.heap[w.heap.size]? = wx.heap[w.heap.size]? := (hg.block _ (by simp; omega) (fun e => by have := hge _ e.symm; omega)).trans (Below.heap_alloc _ _ _ l0)
  have e1 : wy.heap[B1]? = wx.heap[B1]? := (hg.block _ (by simp; omega) (fun e => by have := hge _ e.symm; omega)).trans (Below.heap_alloc _ _ _ l1)
  refine ⟨by rw [Below.heap_setCell _ _ _ _ (by simp; omega), e0]; exact h.b0, heap_setCell_same _ _ 3 _ _ _ (e1.trans h.b1), ?_, ?_, ?_⟩
  · refine ⟨?_, ?_, ?_, ?_, ?_⟩
    · exact owns_stay st (owns_grown (h0.alloc o) hv (by decide) hg)
    · exact ⟨c1, owns_stay st (owns_grown (h1.alloc o) hv (by decide) hg), (KdIs.grown hv (by decide) hg (k1.stay al)).stay st⟩
    · exact owns_stay st (owns_grown (h2.alloc o) hv (by decide) hg)
    · exact ⟨cs ++ ds, by simp only; rw [List.length_append]; exact owns_stay st hown, (RuIs.grown hv (by decide) (by decide) (by decide) hg ((hin.app hnew).stay al)).stay st⟩
    · exact ⟨c4, owns_stay st (owns_grown (h4.alloc o) hv (by decide) hg), (NvIs.grown hv (by decide) (by decide) hg (k4.stay al)).stay st⟩
  · exact ((h.pd.alloc o).grown hg hge (fun g hg => by have := hB g hg; omega) (by omega)).setOther (B := w.heap.size) hB hP (by simp; omega) _
  · exact (((h.kept.alloc o).grown hg (fun k hk => by have := hge k hk; omega)).setNew (by simp; omega) _)
/-- One more of nevers. -/
theorem MdRel.more4 {w : World} {P : Nat} {v : Value} {L : List Tok} {B0 B1 : Nat} {x0 x1 x2 x3 x4 y : Value} {m : MdL} {s : RS} {wx wy : World} {e : PRule} {o : Obj} (h : MdRel w P v L B0 B1 x0 x1 x2 x3 x4 m s wx) (hg : (wx.alloc o).grownBy wy x4.ownBlock)
    {cs ds : List Value} (hown : wy.ownsRow (B1 + 1) 141 4 y (m.nevers.length + 1) (cs ++ ds)) (hin : NvIs (B1 + 1) wx m.nevers cs) (hnew : NvIs (B1 + 1) wx [e] ds) (hB : ∀ g, v.ownBlock = some g → g < w.heap.size) (hP : P < w.heap.size) (hB0 : w.heap.size = B0) (hB1 : B0 < B1) : MdRel w P v L B0 B1 x0 x1 x2 x3 y { m with nevers := m.nevers ++ [e] } s (wy.setCell ⟨B1, 4, none⟩ y) := by
  subst hB0
  obtain ⟨h0, ⟨c1, h1, k1⟩, h2, ⟨c3, h3, k3⟩, ⟨c4, h4, k4⟩⟩ := h.md
  have hv : (wx.alloc o).ownsRow (B1 + 1) 141 4 x4 _ _ := h4.alloc o
  have al : ∀ k, B1 + 1 ≤ k → k < wx.heap.size → (wx.alloc o).heap[k]? = wx.heap[k]? := fun k _ hk => Below.heap_alloc _ _ _ hk
  have st : ∀ k, B1 + 1 ≤ k → k < wy.heap.size → (wy.setCell ⟨B1, 4, none⟩ y).heap[k]? = wy.heap[k]? := fun k hk _ => Below.heap_setCell _ _ _ _ (by simp; omega)
  have hge := own_ge h4
  have l0 := lt_of_block h.b0
  have l1 := lt_of_block h.b1
  have e0 : wy.heap[w.heap.size]? = wx.heap[w.heap.size]? := (hg.block _ (by simp; omega) (fun e => by have := hge _ e.symm; omega)).trans (Below.heap_alloc _ _ _ l0)
  have e1 : wy.heap[B1]? = wx.heap[B1]? := (hg.block _ (by simp; omega) (fun e => by have := hge _ e.symm; omega)).trans (Below.heap_alloc _ _ _ l1)
  refine ⟨by rw [Below.heap_setCell _ _ _ _ (by simp; omega), e0]; exact h.b0, heap_setCell_same _ _ 4 _ _ _ (e1.trans h.b1), ?_, ?_, ?_⟩
  · refine ⟨?_, ?_, ?_, ?_, ?_⟩
    · exact owns_stay st (owns_grown (h0.alloc o) hv (by decide) hg)
    · exact ⟨c1, owns_stay st (owns_grown (h1.alloc o) hv (by decide) hg), (KdIs.grown hv (by decide) hg (k1.stay al)).stay st⟩
    · exact owns_stay st (owns_grown (h2.alloc o) hv (by decide) hg)
    · exact ⟨c3, owns_stay st (owns_grown (h3.alloc o) hv (by decide) hg), (RuIs.grown hv (by decide) (by decide) (by decide) hg (k3.stay al)).stay st⟩
    · exact ⟨cs ++ ds, by simp only; rw [List.length_append]; exact owns_stay st hown, (NvIs.grown hv (by decide) (by decide) hg ((hin.app hnew).stay al)).stay st⟩
  · exact ((h.pd.alloc o).grown hg hge (fun g hg => by have := hB g hg; omega) (by omega)).setOther (B := w.heap.size) hB hP (by simp; omega) _
  · exact (((h.kept.alloc o).grown hg (fun k hk => by have := hge k hk; omega)).setNew (by simp; omega) _)

end Go.Proofs.YtpmcnonmkghokaaGreat
namespace Go.Proofs.YtpmcnonmkghokaaGreat
open Go.RowKit

def firstI (a b : Int) : Int := if a < 0 ∨ (0 ≤ b ∧ b < a) then b else a

set_option maxHeartbeats 400000 in
theorem first_any (a b : Int) (w : World) : Calls Tryz.prog 15 #[.int .i64 a, .int .i64 b] w fun e w' => e = .returned (.int .i64 (firstI a b)) ∧ w' = w := by
  by_cases h1 : a < 0
  · go_enter Tryz.func15, Tryz.ntmps15
    go_wp2
    go_ret
    exact ⟨ret_int (by simp [firstI, h1]), rfl⟩
  · by_cases h2 : 0 ≤ b
    · by_cases h3 : b < a
      · go_enter Tryz.func15, Tryz.ntmps15
        go_wp2
        go_ret
        exact ⟨ret_int (by rw [firstI, if_pos (Or.inr ⟨by omega, by omega⟩)]), rfl⟩
      · go_enter Tryz.func15, Tryz.ntmps15
        go_wp2
        go_ret
        exact ⟨ret_int (by rw [firstI, if_neg (by omega)]), rfl⟩
    · go_enter Tryz.func15, Tryz.ntmps15
      go_wp2
      go_ret
      exact ⟨ret_int (by rw [firstI, if_neg (by omega)]), rfl⟩

def pastI (n most : Int) (t : Tok) : Int := if n == most then t.at_ else -1
set_option maxHeartbeats 400000 in
theorem past_any (n m : Int) (t : Tok) (w : World) : Calls Tryz.prog 39 #[.int .i64 n, .int .i64 m, tokV t] w fun e w' => e = .returned (.int .i64 (pastI n m t)) ∧ Below w.heap.size w w' := by
  unfold tokV
  cases h : (n == m)
  all_goals
    go_enter Tryz.func39, Tryz.ntmps39
    go_wp2
    go_ret
    exact ⟨ret_int (by simp [pastI, h]), below_alloc1 _ _⟩

def offI (t : Tok) (lo hi : Int) : Int := if digV t.text < lo ∨ hi < digV t.text then t.at_ else -1
set_option maxHeartbeats 400000 in
theorem off_any (t : Tok) (lo hi : Int) (w : World) (hd : ∃ h : 0 < t.text.size, 48 ≤ ((t.text[0]'h).toNat : Int) ∧ ((t.text[0]'h).toNat : Int) ≤ 57) :
    Calls Tryz.prog 40 #[tokV t, .int .i64 lo, .int .i64 hi] w fun e w' => e = .returned (.int .i64 (offI t lo hi)) ∧ Below w.heap.size w w' := by
  obtain ⟨h0, h1, h2⟩ := hd
  have HV := hide (show digV t.text = ((t.text[0]'h0).toNat : Int) - 48 by simp [digV, h0])
  unfold tokV
  by_cases h3 : ((t.text[0]'h0).toNat : Int) - 48 < lo
  · go_enter Tryz.func40, Tryz.ntmps40
    go_wp2
    go_ret
    exact ⟨ret_int (by rw [offI, unhide HV, if_pos (Or.inl h3)]), below_alloc1 _ _⟩
  · by_cases h4 : hi < ((t.text[0]'h0).toNat : Int) - 48
    · go_enter Tryz.func40, Tryz.ntmps40
      go_wp2
      go_ret
      exact ⟨ret_int (by rw [offI, unhide HV, if_pos (Or.inr (by omega))]), below_alloc1 _ _⟩
    · go_enter Tryz.func40, Tryz.ntmps40
      go_wp2
      go_ret
      exact ⟨ret_int (by rw [offI, unhide HV, if_neg (by omega)]), below_alloc1 _ _⟩

/-- The number of the first text that is s, or -1. -/
def lookI : List ByteArray → List UInt8 → Int
  | [], _ => -1
  | t :: l, s => if t.toList == s then 0 else if lookI l s < 0 then -1 else lookI l s + 1

theorem lookI_bd : ∀ (l : List ByteArray) (s : List UInt8), -1 ≤ lookI l s ∧ lookI l s < l.length
  | [], _ => by simp [lookI]
  | t :: l, s => by
    have ih := lookI_bd l s
    rw [lookI]
    split
    · simp
    · split
      · simp; omega
      · simp; omega
theorem lookI_none : ∀ (l : List ByteArray) (s : List UInt8), (∀ i, i < l.length → ((l.getD i ByteArray.empty).toList == s) = false) → lookI l s = -1
  | [], _, _ => rfl
  | t :: l, s, h => by
    have h0 := h 0 (by simp)
    have ih := lookI_none l s (fun i hi => by have := h (i + 1) (by simpa using hi); simpa using this)
    simp at h0
    rw [lookI, if_neg (by simpa using h0), ih]; rfl
theorem lookI_hit : ∀ (l : List ByteArray) (s : List UInt8) (k : Nat), k < l.length → (∀ i, i < k → ((l.getD i ByteArray.empty).toList == s) = false) → ((l.getD k ByteArray.empty).toList == s) = true → lookI l s = k
  | [], _, k, hk, _, _ => by simp at hk
  | t :: l, s, 0, _, _, h => by
    rw [lookI, if_pos (by simpa using h)]; rfl
  | t :: l, s, k + 1, hk, hn, h => by
    have h0 := hn 0 (by omega)
    have ih := lookI_hit l s k (by simpa using hk) (fun i hi => by have := hn (i + 1) (by omega); simpa using this) (by simpa using h)
    simp at h0
    rw [lookI, if_neg (by simpa using h0), ih, if_neg (by omega)]
    omega

theorem flat_at {α : Type} (f : α → List Value) (n : Nat) (hf : ∀ x, (f x).length = n) : ∀ (l : List α) (i j : Nat) (hi : i < l.length), j < n → (l.flatMap f)[i * n + j]? = (f l[i])[j]?
  | [], i, _, hi, _ => by simp at hi
  | a :: l, 0, j, _, hj => by
    simp only [List.flatMap_cons, Nat.zero_mul, Nat.zero_add, List.getElem_cons_zero]
    rw [List.getElem?_append_left (by rw [hf]; exact hj)]
  | a :: l, i + 1, j, hi, hj => by
    have ih := flat_at f n hf l i j (by simpa using hi) hj
    simp only [List.flatMap_cons, List.getElem_cons_succ]
    rw [List.getElem?_append_right (by rw [hf, Nat.succ_mul]; omega), hf, show (i + 1) * n + j - n = i * n + j by rw [Nat.succ_mul]; omega]
    exact ih

/-- How a slice that is owned is read. -/
theorem own_view {w : World} {lo e size : Nat} {v : Value} {n : Nat} {xs : List Value} (h : w.ownsRow lo e size v n xs) :
    ∃ a cap, v = .slice a n cap ∧ ∀ i, i < n → ∃ g, a = some ⟨g, 0, none⟩ ∧ ∀ j, j < n * size → w.cell? ⟨g, j, none⟩ = xs[j]? := by
  rcases h.2 with ⟨rfl, rfl⟩ | ⟨g, cap, cur, rfl, hg, hh, h3, h4, h5, h6⟩
  · exact ⟨none, 0, rfl, fun i hi => by omega⟩
  · refine ⟨_, cap, rfl, fun i hi => ⟨g, rfl, fun j hj => ?_⟩⟩
    rw [cell_of_row w g j _ _ _ hh, ← h6, List.getElem?_take_of_lt hj]; simp

def setTexts (t : PTree) : List ByteArray := t.sets.map (fun s => s.name.text)

set_option maxRecDepth 100000 in
set_option maxHeartbeats 1000000 in
theorem set_any (w : World) (T : Nat) (t : PTree) (s : ByteArray) (h : TreeIs w T t) (hl : t.sets.length ≤ 801) :
    Calls Tryz.prog 42 #[.pointer (some ⟨T, 0, none⟩), .string s] w fun e w' => e = .returned (.int .i64 (lookI (setTexts t) s.toList)) ∧ w' = w := by
  obtain ⟨x0, x1, x2, x3, x4, y1, y3, y4, hT, hs, _⟩ := h
  obtain ⟨q0, q1, q2, q3, q4, _⟩ := row5 hT
  obtain ⟨a, cap, rfl, hview⟩ := own_view hs
  have HV := hide hview
  clear hview hs hT
  go_enter Tryz.func42, Tryz.ntmps42
  go_wp2
  go_loop [5] (fun i => ∃ k : Nat, k ≤ t.sets.length ∧ i = .int .i64 k ∧ ∀ j, j < k → (((setTexts t).getD j ByteArray.empty).toList == s.toList) = false) (fun i => t.sets.length - (intOf i).toNat)
  case atStart => exact ⟨0, Nat.zero_le _, rfl, fun j hj => by omega⟩
  case round =>
    obtain ⟨k, hk, rfl, hno⟩ := hrel
    have HN := hide hno
    clear hno
    by_cases hlt : k < t.sets.length
    · obtain ⟨g, rfl, hc⟩ := unhide HV k hlt
      have ht : (setTexts t).getD k ByteArray.empty = (t.sets[k]).name.text := by simp [setTexts, hlt]
      have hck : w.cell? ⟨g, k * 6 + 1, none⟩ = some (.string (t.sets[k]).name.text) := by
        rw [hc _ (by omega)]
        exact flat_at setCells1 6 (fun _ => rfl) t.sets k 1 hlt (by omega)
      rw [← ht] at hck
      generalize hx : (setTexts t).getD k ByteArray.empty = x at hck
      have HX := hide hx
      clear hc ht hx
      go_wp2
      · go_ret
        exact ⟨ret_int (lookI_hit _ _ k (by simpa [setTexts] using hlt) (unhide HN) (by rw [unhide HX]; assumption)).symm, rfl⟩
      · have hf : (x.toList == s.toList) = false := by assumption
        go_round
        case rel => exact ⟨k + 1, by omega, by go_num, fun j hj => if e : j = k then by rw [e, unhide HX]; exact hf else unhide HN j (by omega)⟩
        case measure => simp [intOf]; omega
    · go_wp2
      go_ret
      exact ⟨ret_int (lookI_none _ _ (fun i hi => unhide HN i (by simp [setTexts] at hi; omega))).symm, rfl⟩

theorem kinds_at {lo : Nat} {w : World} : ∀ {ks : List PKind} {xs : List Value} (i : Nat) (hi : i < ks.length), KindsIs lo w ks xs →
    ∃ vm, xs[i * 4]? = some (.string (ks[i]).name.kind) ∧ xs[i * 4 + 1]? = some (.string (ks[i]).name.text) ∧ xs[i * 4 + 2]? = some (.int .i64 (ks[i]).name.at_) ∧ xs[i * 4 + 3]? = some vm ∧ w.ownsRow lo 56 3 vm (ks[i]).members.length (toksCells (ks[i]).members)
  | [], _, i, hi, _ => by simp at hi
  | k :: ks, xs, 0, _, ⟨vm, ys, e, h1, h2⟩ => by subst e; exact ⟨vm, rfl, rfl, rfl, rfl, h1⟩
  | k :: ks, xs, i + 1, hi, ⟨vm, ys, e, h1, h2⟩ => by
    subst e
    have ih := kinds_at i (by simpa using hi) h2
    have sh : ∀ j, (tokCells k.name ++ vm :: ys)[j + 4]? = ys[j]? := fun j => by
      rw [List.getElem?_append_right (by simp [tokCells])]
      simp [tokCells]
    rw [show (i + 1) * 4 = i * 4 + 4 by omega, show i * 4 + 4 + 1 = (i * 4 + 1) + 4 by omega, show i * 4 + 4 + 2 = (i * 4 + 2) + 4 by omega, show i * 4 + 4 + 3 = (i * 4 + 3) + 4 by omega, sh, sh, sh, sh]
    exact ih
theorem rules_at {lo : Nat} {w : World} : ∀ {rs : List PRule} {xs : List Value} (i : Nat) (hi : i < rs.length), RulesIs lo w rs xs →
    ∃ vp vg vb ps, (xs[i * 6]? = some (.string (rs[i]).name.kind) ∧ xs[i * 6 + 1]? = some (.string (rs[i]).name.text) ∧ xs[i * 6 + 2]? = some (.int .i64 (rs[i]).name.at_) ∧ xs[i * 6 + 3]? = some vp ∧ xs[i * 6 + 4]? = some vg ∧ xs[i * 6 + 5]? = some vb) ∧
      w.ownsRow lo 103 6 vp (rs[i]).params.length (ppsCells (rs[i]).params) ∧ NodeIs lo w (rs[i]).guard vg ∧ w.ownsRow lo 112 1 vb ps.length ps ∧ StmtsIs lo none w (rs[i]).body ps
  | [], _, i, hi, _ => by simp at hi
  | r :: rs, xs, 0, _, ⟨vp, vg, vb, ps, ys, e, h1, h2, h3, h4, h5⟩ => by subst e; exact ⟨vp, vg, vb, ps, ⟨rfl, rfl, rfl, rfl, rfl, rfl⟩, h1, h2, h3, h4⟩
  | r :: rs, xs, i + 1, hi, ⟨vp, vg, vb, ps, ys, e, h1, h2, h3, h4, h5⟩ => by
    subst e
    have ih := rules_at i (by simpa using hi) h5
    have sh : ∀ j, (tokCells r.name ++ vp :: vg :: vb :: ys)[j + 6]? = ys[j]? := fun j => by
      rw [List.getElem?_append_right (by simp [tokCells])]
      simp [tokCells]
    rw [show (i + 1) * 6 = i * 6 + 6 by omega, show i * 6 + 6 + 1 = (i * 6 + 1) + 6 by omega, show i * 6 + 6 + 2 = (i * 6 + 2) + 6 by omega, show i * 6 + 6 + 3 = (i * 6 + 3) + 6 by omega, show i * 6 + 6 + 4 = (i * 6 + 4) + 6 by omega, show i * 6 + 6 + 5 = (i * 6 + 5) + 6 by omega, sh, sh, sh, sh, sh, sh]
    exact ih

def kindTexts (t : PTree) : List ByteArray := t.kinds.map (fun s => s.name.text)

set_option maxRecDepth 100000 in
set_option maxHeartbeats 1000000 in
theorem kind_find (w : World) (T : Nat) (t : PTree) (s : ByteArray) (h : TreeIs w T t) (hl : t.kinds.length ≤ 801) :
    Calls Tryz.prog 43 #[.pointer (some ⟨T, 0, none⟩), .string s] w fun e w' => e = .returned (.int .i64 (lookI (kindTexts t) s.toList)) ∧ w' = w := by
  obtain ⟨x0, x1, x2, x3, x4, y1, y3, y4, hT, _, ⟨hs, hki⟩, _⟩ := h
  obtain ⟨q0, q1, q2, q3, q4, _⟩ := row5 hT
  obtain ⟨a, cap, rfl, hview⟩ := own_view hs
  have HV := hide hview
  clear hview hs hT
  go_enter Tryz.func43, Tryz.ntmps43
  go_wp2
  go_loop [5] (fun i => ∃ k : Nat, k ≤ t.kinds.length ∧ i = .int .i64 k ∧ ∀ j, j < k → (((kindTexts t).getD j ByteArray.empty).toList == s.toList) = false) (fun i => t.kinds.length - (intOf i).toNat)
  case atStart => exact ⟨0, Nat.zero_le _, rfl, fun j hj => by omega⟩
  case round =>
    obtain ⟨k, hk, rfl, hno⟩ := hrel
    have HN := hide hno
    clear hno
    by_cases hlt : k < t.kinds.length
    · obtain ⟨g, rfl, hc⟩ := unhide HV k hlt
      have ht : (kindTexts t).getD k ByteArray.empty = (t.kinds[k]).name.text := by simp [kindTexts, hlt]
      have hck : w.cell? ⟨g, k * 4 + 1, none⟩ = some (.string (t.kinds[k]).name.text) := by
        rw [hc _ (by omega)]
        obtain ⟨vm, _, h9, _⟩ := kinds_at k hlt hki
        exact h9
      rw [← ht] at hck
      generalize hx : (kindTexts t).getD k ByteArray.empty = x at hck
      have HX := hide hx
      clear hc ht hx
      go_wp2
      · go_ret
        exact ⟨ret_int (lookI_hit _ _ k (by simpa [kindTexts] using hlt) (unhide HN) (by rw [unhide HX]; assumption)).symm, rfl⟩
      · have hf : (x.toList == s.toList) = false := by assumption
        go_round
        case rel => exact ⟨k + 1, by omega, by go_num, fun j hj => if e : j = k then by rw [e, unhide HX]; exact hf else unhide HN j (by omega)⟩
        case measure => simp [intOf]; omega
    · go_wp2
      go_ret
      exact ⟨ret_int (lookI_none _ _ (fun i hi => unhide HN i (by simp [kindTexts] at hi; omega))).symm, rfl⟩

def varTexts (t : PTree) : List ByteArray := t.vars.map (fun s => s.name.text)

set_option maxRecDepth 100000 in
set_option maxHeartbeats 1000000 in
theorem var_find (w : World) (T : Nat) (t : PTree) (s : ByteArray) (h : TreeIs w T t) (hl : t.vars.length ≤ 801) :
    Calls Tryz.prog 48 #[.pointer (some ⟨T, 0, none⟩), .string s] w fun e w' => e = .returned (.int .i64 (lookI (varTexts t) s.toList)) ∧ w' = w := by
  obtain ⟨x0, x1, x2, x3, x4, y1, y3, y4, hT, _, _, hs, _⟩ := h
  obtain ⟨q0, q1, q2, q3, q4, _⟩ := row5 hT
  obtain ⟨a, cap, rfl, hview⟩ := own_view hs
  have HV := hide hview
  clear hview hs hT
  go_enter Tryz.func48, Tryz.ntmps48
  go_wp2
  go_loop [5] (fun i => ∃ k : Nat, k ≤ t.vars.length ∧ i = .int .i64 k ∧ ∀ j, j < k → (((varTexts t).getD j ByteArray.empty).toList == s.toList) = false) (fun i => t.vars.length - (intOf i).toNat)
  case atStart => exact ⟨0, Nat.zero_le _, rfl, fun j hj => by omega⟩
  case round =>
    obtain ⟨k, hk, rfl, hno⟩ := hrel
    have HN := hide hno
    clear hno
    by_cases hlt : k < t.vars.length
    · obtain ⟨g, rfl, hc⟩ := unhide HV k hlt
      have ht : (varTexts t).getD k ByteArray.empty = (t.vars[k]).name.text := by simp [varTexts, hlt]
      have hck : w.cell? ⟨g, k * 12 + 1, none⟩ = some (.string (t.vars[k]).name.text) := by
        rw [hc _ (by omega)]
        exact flat_at varCells 12 (fun _ => rfl) t.vars k 1 hlt (by omega)
      rw [← ht] at hck
      generalize hx : (varTexts t).getD k ByteArray.empty = x at hck
      have HX := hide hx
      clear hc ht hx
      go_wp2
      · go_ret
        exact ⟨ret_int (lookI_hit _ _ k (by simpa [varTexts] using hlt) (unhide HN) (by rw [unhide HX]; assumption)).symm, rfl⟩
      · have hf : (x.toList == s.toList) = false := by assumption
        go_round
        case rel => exact ⟨k + 1, by omega, by go_num, fun j hj => if e : j = k then by rw [e, unhide HX]; exact hf else unhide HN j (by omega)⟩
        case measure => simp [intOf]; omega
    · go_wp2
      go_ret
      exact ⟨ret_int (lookI_none _ _ (fun i hi => unhide HN i (by simp [varTexts] at hi; omega))).symm, rfl⟩

end Go.Proofs.YtpmcnonmkghokaaGreat
namespace Go.Proofs.YtpmcnonmkghokaaGreat
open Go.RowKit

def memTexts (k : PKind) : List ByteArray := k.members.map (fun m => m.text)
/-- Of which kind a name is a member, and which one. -/
def memI : List PKind → List UInt8 → Int × Int
  | [], _ => (-1, -1)
  | k :: ks, s => if 0 ≤ lookI (memTexts k) s then (0, lookI (memTexts k) s) else if (memI ks s).1 < 0 then (-1, -1) else ((memI ks s).1 + 1, (memI ks s).2)

theorem memI_none : ∀ (l : List PKind) (s : List UInt8), (∀ i (hi : i < l.length), lookI (memTexts l[i]) s = -1) → memI l s = (-1, -1)
  | [], _, _ => rfl
  | t :: l, s, h => by
    have h0 := h 0 (by simp)
    have ih := memI_none l s (fun i hi => by have := h (i + 1) (by simpa using hi); simpa using this)
    simp at h0
    rw [memI, if_neg (by omega), ih]; rfl
theorem memI_hit : ∀ (l : List PKind) (s : List UInt8) (k : Nat) (hk : k < l.length), (∀ i (hi : i < k), lookI (memTexts (l[i]'(by omega))) s = -1) → 0 ≤ lookI (memTexts l[k]) s → memI l s = ((k : Int), lookI (memTexts l[k]) s)
  | [], _, k, hk, _, _ => by simp at hk
  | t :: l, s, 0, _, _, h => by
    simp only [List.getElem_cons_zero] at h ⊢
    rw [memI, if_pos h]; rfl
  | t :: l, s, k + 1, hk, hn, h => by
    have h0 := hn 0 (by omega)
    have ih := memI_hit l s k (by simpa using hk) (fun i hi => by have := hn (i + 1) (by omega); simpa using this) (by simpa using h)
    simp only [List.getElem_cons_zero] at h0
    simp only [List.getElem_cons_succ]
    rw [memI, if_neg (by omega), ih]
    simp only
    rw [if_neg (by omega)]
    congr 1

theorem toksCells_text (l : List Tok) (j : Nat) (hj : j < l.length) : (toksCells l)[j * 3 + 1]? = some (.string (l[j]).text) := flat_at tokCells 3 (fun _ => rfl) l j 1 hj (by omega)

set_option maxRecDepth 100000 in
set_option maxHeartbeats 2000000 in
theorem member_any (w : World) (T : Nat) (t : PTree) (s : ByteArray) (h : TreeIs w T t) (hl : t.kinds.length ≤ 801) (hm : ∀ k ∈ t.kinds, k.members.length ≤ 801) :
    Calls Tryz.prog 79 #[.pointer (some ⟨T, 0, none⟩), .string s] w fun e w' => e = .returned (.tuple #[.int .i64 (memI t.kinds s.toList).1, .int .i64 (memI t.kinds s.toList).2]) ∧ w' = w := by
  obtain ⟨x0, x1, x2, x3, x4, y1, y3, y4, hT, _, ⟨hs, hki⟩, _⟩ := h
  obtain ⟨q0, q1, q2, q3, q4, _⟩ := row5 hT
  obtain ⟨a, cap, rfl, hview⟩ := own_view hs
  have HV := hide hview
  have HKI := hide hki
  have HM := hide hm
  clear hview hs hT hki hm
  go_enter Tryz.func79, Tryz.ntmps79
  go_wp2
  go_loop [6, 7] (fun i _ => ∃ k : Nat, k ≤ t.kinds.length ∧ i = .int .i64 k ∧ ∀ j (hj : j < k) (hl : k ≤ t.kinds.length), lookI (memTexts (t.kinds[j]'(by omega))) s.toList = -1) (fun i _ => t.kinds.length - (intOf i).toNat)
  case atStart => exact ⟨0, Nat.zero_le _, rfl, fun j hj => by omega⟩
  case round =>
    obtain ⟨k, hk, rfl, hno⟩ := hrel
    have HN := hide hno
    clear hno
    by_cases hlt : k < t.kinds.length
    · obtain ⟨g, rfl, hc⟩ := unhide HV k hlt
      obtain ⟨vm, _, _, _, hvm, hmo⟩ := kinds_at k hlt (unhide HKI)
      have hcm : w.cell? ⟨g, k * 4 + 3, none⟩ = some vm := by rw [hc _ (by omega)]; exact hvm
      have hml := unhide HM _ (List.getElem_mem hlt)
      generalize hK : t.kinds[k] = K at hmo hml
      have EK := hide hK
      obtain ⟨ma, mc, rfl, hmv⟩ := own_view hmo
      have HMV := hide hmv
      clear hc hvm hmo hmv hK
      go_wp2
      go_loop [7] (fun i => ∃ j : Nat, j ≤ K.members.length ∧ i = .int .i64 j ∧ ∀ i, i < j → (((memTexts K).getD i ByteArray.empty).toList == s.toList) = false) (fun i => K.members.length - (intOf i).toNat)
      case atStart => exact ⟨0, Nat.zero_le _, rfl, fun j hj => by omega⟩
      case round =>
        obtain ⟨j, hj, rfl, hnj⟩ := hrel
        have HNJ := hide hnj
        clear hnj
        by_cases hjt : j < K.members.length
        · obtain ⟨g2, rfl, hc2⟩ := unhide HMV j hjt
          have ht : (memTexts K).getD j ByteArray.empty = (K.members[j]).text := by simp [memTexts, hjt]
          have hck : w.cell? ⟨g2, j * 3 + 1, none⟩ = some (.string (K.members[j]).text) := by
            rw [hc2 _ (by omega)]; exact toksCells_text K.members j hjt
          rw [← ht] at hck
          generalize hx : (memTexts K).getD j ByteArray.empty = x at hck
          have HX := hide hx
          clear hc2 ht hx
          go_wp2
          · go_ret2
            have e1 := lookI_hit (memTexts K) s.toList j (by simpa [memTexts] using hjt) (unhide HNJ) (by rw [unhide HX]; assumption)
            have e2 := memI_hit t.kinds s.toList k hlt (fun i hi => unhide HN i hi (by omega)) (by rw [unhide EK, e1]; omega)
            rw [unhide EK, e1] at e2
            rw [e2]
            exact ⟨rfl, rfl⟩
          · have hf : (x.toList == s.toList) = false := by assumption
            go_round
            case rel => exact ⟨j + 1, by omega, by go_num, fun i hi => if e : i = j then by rw [e, unhide HX]; exact hf else unhide HNJ i (by omega)⟩
            case measure => simp [intOf]; omega
        · have hnone := lookI_none (memTexts K) s.toList (fun i hi => unhide HNJ i (by simp [memTexts] at hi; omega))
          have HNN := hide hnone
          clear hnone
          go_wp2
          go_round
          case rel => exact ⟨k + 1, by omega, by go_num, fun i hi hl => if e : i = k then by subst e; rw [unhide EK]; exact unhide HNN else unhide HN i (by omega) (by omega)⟩
          case measure => simp [intOf]; omega
    · go_wp2
      go_ret2
      rw [memI_none t.kinds s.toList (fun i hi => unhide HN i (by omega) (by omega))]
      exact ⟨rfl, rfl⟩

def parTexts (l : List PP) : List ByteArray := l.map (fun p => p.name.text)
def ruleV (n : Tok) (vp vg vb : Value) : Value := .agg #[.string n.kind, .string n.text, .int .i64 n.at_, vp, vg, vb]

set_option maxRecDepth 100000 in
set_option maxHeartbeats 1000000 in
theorem param_any (w : World) (lo : Nat) (n : Tok) (l : List PP) (va : Option Addr) (vn vc : Nat) (vg : Option Addr) (ba : Option Addr) (bn bc : Nat) (s : ByteArray) (h : w.ownsRow lo 103 6 (.slice va vn vc) l.length (ppsCells l)) (hl : l.length ≤ 801) :
    Calls Tryz.prog 80 #[ruleV n (.slice va vn vc) (.pointer vg) (.slice ba bn bc), .string s] w fun e w' => e = .returned (.int .i64 (lookI (parTexts l) s.toList)) ∧ Below w.heap.size w w' := by
  have hn := own_len h
  subst hn
  obtain ⟨a, cap, hv, hview⟩ := own_view h
  cases hv
  have HV := hide hview
  clear hview h
  unfold ruleV
  go_enter Tryz.func80, Tryz.ntmps80
  go_wp2
  go_loop [5] (fun i => ∃ k : Nat, k ≤ l.length ∧ i = .int .i64 k ∧ ∀ j, j < k → (((parTexts l).getD j ByteArray.empty).toList == s.toList) = false) (fun i => l.length - (intOf i).toNat)
  case atStart => exact ⟨0, Nat.zero_le _, rfl, fun j hj => by omega⟩
  case round =>
    obtain ⟨k, hk, rfl, hno⟩ := hrel
    have HN := hide hno
    clear hno
    by_cases hlt : k < l.length
    · obtain ⟨g, rfl, hc⟩ := unhide HV k hlt
      have ht : (parTexts l).getD k ByteArray.empty = (l[k]).name.text := by simp [parTexts, hlt]
      have hck : w.cell? ⟨g, k * 6 + 1, none⟩ = some (.string (l[k]).name.text) := by
        rw [hc _ (by omega)]
        exact flat_at ppCells 6 (fun _ => rfl) l k 1 hlt (by omega)
      have hgl := block_lt_of_cell hck
      simp only at hgl
      rw [← ht] at hck
      generalize hx : (parTexts l).getD k ByteArray.empty = x at hck
      have HX := hide hx
      clear hc ht hx
      go_wp2
      · go_ret
        exact ⟨ret_int (lookI_hit _ _ k (by simpa [parTexts] using hlt) (unhide HN) (by rw [unhide HX]; assumption)).symm, below_alloc1 _ _⟩
      · have hf : (x.toList == s.toList) = false := by assumption
        go_round
        case rel => exact ⟨k + 1, by omega, by go_num, fun j hj => if e : j = k then by rw [e, unhide HX]; exact hf else unhide HN j (by omega)⟩
        case measure => simp [intOf]; omega
    · go_wp2
      go_ret
      exact ⟨ret_int (lookI_none _ _ (fun i hi => unhide HN i (by simp [parTexts] at hi; omega))).symm, below_alloc1 _ _⟩

end Go.Proofs.YtpmcnonmkghokaaGreat
namespace Go.Proofs.YtpmcnonmkghokaaGreat
open Go.RowKit

/-- append(l, a...), both slices of one's own. -/
theorem wpList_append_slice {P : Program} {w : World} {ops : Array Oper} {rest : List Oper} {o : Oper} {a : Act} {Q : Exit → Act → World → Prop} (hgd : o.guard = none) (s x : Operand) (t : TypeId)
    (ho : o.op = .call { callee := .builtin .append, args := #[s, x], argTypes := #[t, t] })
    (base : Nat) (e : TypeId) (i : TypeInfo) (z : Value) (size bytes : Nat) (ht : P.underlying t = some (.slice e)) (hi : P.info? e = some i) (hz : i.zero = some z)
    (hsize : i.size = size) (hby : i.bytes = bytes) (hzs : z.cells.size = size) (hsz : 0 < size)
    (v : Value) (n : Nat) (xs : List Value) (hs : a.eval s = v) (hown : w.ownsRow base e size v n xs)
    (u : Value) (m : Nat) (ys : List Value) (lo : Nat) (hx : a.eval x = u) (hsrc : w.ownsRow lo e size u m ys) (h1 : ∀ y ∈ ys, y.oneCell' = true)
    (h63 : n + m ≤ maxLen) (hbytes : (n + m) * bytes ≤ 140737488355328) (hbase : base ≤ w.heap.size)
    (h : ∀ v' w', w'.ownsRow base e size v' (n + m) (xs ++ ys) → w.grownBy w' v.ownBlock → (v'.ownBlock = v.ownBlock ∨ v'.ownBlock = some w.heap.size) → wpList P ops Q rest (a.put o.dst v') w') :
    wpList P ops Q (o :: rest) a w := by
  have hl := hsrc.1
  rcases hsrc.2 with ⟨rfl, rfl⟩ | ⟨g, cap, cur, rfl, hg, hh, h3, h4, h5, h6⟩
  · have hy : ys = [] := by
      rw [Nat.zero_mul] at hl
      exact List.eq_nil_of_length_eq_zero hl
    subst hy
    refine wpList_append_own_none hgd s x t ho base e i size ht hi v n xs hs hown hx (h v w ?_ ⟨rfl, rfl, rfl, Nat.le_refl _, fun _ _ _ => rfl⟩ (Or.inl rfl))
    rw [List.append_nil]; exact hown
  · refine wpList_append_own_at w hgd s x t ho base e i z size bytes ht hi hz hsize hby hzs hsz v n xs hs hown ⟨g, 0, none⟩ m cap ys hx hl ?_ h1 h63 hbytes hbase (fun v' w' k1 k2 k3 k4 => h v' w' k1 k2 k4)
    intro j y hj
    rw [show ((⟨g, 0, none⟩ : Addr).add j) = ⟨g, j, none⟩ from by simp [Addr.add]; intro h; exact h.symm, cell_of_row w g j _ _ _ hh]
    have hjl : j < m * size := by
      rw [← hl]
      rcases Nat.lt_or_ge j ys.length with h | h
      · exact h
      · rw [List.getElem?_eq_none h] at hj; cases hj
    rw [← h6, List.getElem?_take_of_lt hjl] at hj
    simpa using hj

def ownNames (x : ELab) : List Tok := if x.op.toList == [112, 108, 97, 99, 101] then (if x.index.kind.toList == [110, 97, 109, 101] then [x.name, x.index] else [x.name]) else []
def namesL : PX → List Tok
  | .nil => []
  | .node _ _ x a b => (ownNames x ++ namesL a) ++ namesL b

theorem toksCells_one (l : List Tok) : ∀ y ∈ toksCells l, y.oneCell' = true := by
  intro y hy
  simp only [toksCells, List.mem_flatMap] at hy
  obtain ⟨t, _, ht⟩ := hy
  exact tokCells_one t y ht
theorem toksCells_app (a b : List Tok) : toksCells (a ++ b) = toksCells a ++ toksCells b := by simp [toksCells]

def NamesSaid (x : PX) : Prop := ∀ (w : World) (lo : Nat) (p : Value), (namesL x).length ≤ 100000 → NodeIs lo w x p →
  Calls Tryz.prog 44 #[p] w fun e w' => ∃ v, e = .returned v ∧ w'.ownsRow w.heap.size 56 3 v (namesL x).length (toksCells (namesL x)) ∧ Below w.heap.size w w'

theorem owns_other {w w' : World} {lo e size : Nat} {u : Value} {m : Nat} {ys : List Value} {row : Option Nat} (h : w.ownsRow lo e size u m ys) (hg : w.grownBy w' row) (hr : ∀ k, row = some k → k < lo) : w'.ownsRow lo e size u m ys := by
  refine h.kept hg ?_
  cases hu : u.ownBlock with
  | none => exact Or.inl rfl
  | some j => exact Or.inr fun hj => by have h1 := own_ge h j hu; have h2 := hr j hj.symm; omega

set_option maxRecDepth 100000 in
set_option maxHeartbeats 4000000 in
theorem names_rest (i j : Nat) (x : ELab) (a b : PX) (ha : NamesSaid a) (hb : NamesSaid b) : NamesSaid (.node i j x a b) := by
  intro w lo p hlen hN
  obtain ⟨i0, hi, hz0, hz1, hz2⟩ := info_parts Tryz.infoTok
  obtain ⟨k, pa, pb, rfl, _, hh, hna, hnb⟩ := hN
  have hL : (ownNames x).length + (namesL a).length + (namesL b).length ≤ 100000 := by
    simp only [namesL, List.length_append] at hlen; omega
  obtain ⟨d0, d1, d2, d3, d4, d5, d6, d7, d8, d9, _⟩ := row10 (show w.heap[k]? = some (.cells #[.string x.op, pa, pb, .string x.name.kind, .string x.name.text, .int .i64 x.name.at_, .string x.index.kind, .string x.index.text, .int .i64 x.index.at_, .int .i64 x.n] _ (0, 0)) from hh)
  have hkl := lt_of_block hh
  have HNA := hide hna
  have HNB := hide hnb
  have HH := hide hh
  clear hna hnb hh hlen
  cases c1 : (x.op.toList == [112, 108, 97, 99, 101])
  · have hon : ownNames x = [] := by simp [ownNames, c1]
    have HBW := hide (Below.refl w.heap.size w)
    have HV0 := hide (show w.ownsRow w.heap.size 56 3 (.slice none 0 0) (ownNames x).length (toksCells (ownNames x)) by rw [hon]; exact World.ownsRow_nil _ _ _ _)
    clear hon
    go_enter Tryz.func44, Tryz.ntmps44
    go_wp2_with fail
    refine (ha _ lo pa (by omega) ((unhide HNA).below (unhide HBW))).mono ?_
    rintro e w1 ⟨v1, rfl, hv1, hb1⟩
    have d2' := cell_later hb1 d2
    have HV1 := hide hv1
    have HB1 := hide hb1
    have hz1' := hb1.size
    have HV01 := hide (owns_below (unhide HV0) hb1)
    obtain ⟨a1, l1, c1', rfl⟩ := own_slice hv1
    clear hv1 hb1 d0 d1 d2 d3 d4 d5 d6 d7 d8 d9
    go_wp2_with fail
    refine (hb _ lo pb (by omega) (((unhide HNB).below (unhide HBW)).below (unhide HB1))).mono ?_
    rintro e w2 ⟨v2, rfl, hv2, hb2⟩
    have HV2 := hide hv2
    have HV12 := hide (owns_below (unhide HV1) hb2)
    have HV02 := hide (owns_below (unhide HV01) hb2)
    have hzw0 := (unhide HBW).size
    have HB2 := hide ((unhide HBW).trans (((unhide HB1).trans (hb2.mono hz1')).mono hzw0))
    have hz2' := hb2.size
    have hrow0 := own_lt (unhide HV0)
    obtain ⟨a2, l2, c2', rfl⟩ := own_slice hv2
    clear hv2 hb2 HV1 HV01 d2'
    go_wp2_with (at_builtin; refine wpList_append_slice rfl _ _ 45 rfl w.heap.size 56 i0 _ 3 40 Tryz.underlying45 hi hz0 hz1 hz2 rfl (by decide) (.slice none 0 0) (ownNames x).length (toksCells (ownNames x)) rfl (unhide HV02) (.slice a1 l1 c1') _ _ _ rfl (unhide HV12) (toksCells_one _) (by unfold maxLen; omega) (by omega) (by omega) ?_)
    intro v3 w3 hown3 hgrow3 hat3
    have HV3 := hide hown3
    have HB3 := hide ((unhide HB2).grown hgrow3 (by omega) (own_ge (unhide HV02)))
    have HV23 := hide (owns_other (unhide HV2) hgrow3 (fun k hk => by have := hrow0 k hk; omega))
    have hz3' := hgrow3.size
    obtain ⟨a3, l3, c3, rfl⟩ := own_slice hown3
    have hrow3 : ∀ k, (Value.slice a3 l3 c3).ownBlock = some k → k ≠ k ∨ k < w1.heap.size ∨ w2.heap.size ≤ k := fun k hk => by
      rcases hat3 with e | e
      · rw [e] at hk; have := hrow0 k hk; exact Or.inr (Or.inl (by omega))
      · rw [e] at hk; simp at hk; exact Or.inr (Or.inr (by omega))
    have HV24 := hide hrow3
    clear hown3 hgrow3 hat3 hrow3 HV02 HV12
    go_wp2_with (at_builtin; refine wpList_append_slice rfl _ _ 45 rfl w.heap.size 56 i0 _ 3 40 Tryz.underlying45 hi hz0 hz1 hz2 rfl (by decide) (.slice a3 l3 c3) _ _ rfl (unhide HV3) (.slice a2 l2 c2') _ _ _ rfl (unhide HV23) (toksCells_one _) (by unfold maxLen; omega) (by omega) (by omega) ?_)
    intro v4 w4 hown4 hgrow4 _
    have HV4 := hide (show w4.ownsRow w.heap.size 56 3 v4 (namesL (.node i j x a b)).length (toksCells (namesL (.node i j x a b))) by
      rw [namesL, toksCells_app, toksCells_app, List.length_append, List.length_append, List.append_assoc]; first | exact hown4 | (rw [← List.append_assoc]; exact hown4))
    have HB4 := hide ((unhide HB3).grown hgrow4 (by omega) (own_ge (unhide HV3)))
    clear hown4 hgrow4
    go_wp2
    go_ret
    exact ⟨_, rfl, unhide HV4, unhide HB4⟩
  · cases c2 : (x.index.kind.toList == [110, 97, 109, 101])
    · have hon : ownNames x = [x.name] := by simp [ownNames, c1, c2]
      rw [hon] at hL
      go_enter Tryz.func44, Tryz.ntmps44
      go_wp2_with (at_builtin; refine wpList_append_own_at _ rfl _ _ 45 rfl w.heap.size 56 i0 _ 3 40 Tryz.underlying45 hi hz0 hz1 hz2 rfl (by decide) (.slice none 0 0) 0 [] rfl (World.ownsRow_nil _ _ _ _) ⟨w.heap.size, 0, none⟩ 1 1 (tokCells x.name) rfl rfl ?k1 ?k2 ?k3 ?k4 ?k5 ?_)
      case k1 => exact cells_new w _ (tokCells x.name) _ rfl
      case k2 => exact tokCells_one _
      case k3 => unfold maxLen; omega
      case k4 => omega
      case k5 => simp
      intro v0 w0 hown0 hgrow0 _ hat0
      have hbw : Below w.heap.size w w0 := (below_alloc1 w _).grown hgrow0 (by simp) (fun k hk => by cases hk)
      have HBW := hide hbw
      have d0' := cell_later hbw d0
      have d1' := cell_later hbw d1
      have d2' := cell_later hbw d2
      have d3' := cell_later hbw d3
      have d4' := cell_later hbw d4
      have d5' := cell_later hbw d5
      have d6' := cell_later hbw d6
      have d7' := cell_later hbw d7
      have d8' := cell_later hbw d8
      have d9' := cell_later hbw d9
      clear d0 d1 d2 d3 d4 d5 d6 d7 d8 d9
      have HV0 := hide (show w0.ownsRow w.heap.size 56 3 v0 (ownNames x).length (toksCells (ownNames x)) by rw [hon]; exact hown0)
      obtain ⟨a0, l0, c0, rfl⟩ := own_slice hown0
      have hL' : (ownNames x).length + (namesL a).length + (namesL b).length ≤ 100000 := by rw [hon]; exact hL
      clear hown0 hgrow0 hat0 hbw hon hL
      go_wp2_with fail
      refine (ha _ lo pa (by omega) ((unhide HNA).below (unhide HBW))).mono ?_
      rintro e w1 ⟨v1, rfl, hv1, hb1⟩
      have e2' := cell_later hb1 d2'
      have HV1 := hide hv1
      have HB1 := hide hb1
      have hz1' := hb1.size
      have HV01 := hide (owns_below (unhide HV0) hb1)
      obtain ⟨a1, l1, c1', rfl⟩ := own_slice hv1
      clear hv1 hb1 d0' d1' d3' d4' d5' d6' d7' d8' d9'
      go_wp2_with fail
      refine (hb _ lo pb (by omega) (((unhide HNB).below (unhide HBW)).below (unhide HB1))).mono ?_
      rintro e w2 ⟨v2, rfl, hv2, hb2⟩
      have HV2 := hide hv2
      have HV12 := hide (owns_below (unhide HV1) hb2)
      have HV02 := hide (owns_below (unhide HV01) hb2)
      have hzw0 := (unhide HBW).size
      have HB2 := hide ((unhide HBW).trans (((unhide HB1).trans (hb2.mono hz1')).mono hzw0))
      have hz2' := hb2.size
      have hrow0 := own_lt (unhide HV0)
      obtain ⟨a2, l2, c2', rfl⟩ := own_slice hv2
      clear hv2 hb2 HV1 HV01 d2' e2'
      go_wp2_with (at_builtin; refine wpList_append_slice rfl _ _ 45 rfl w.heap.size 56 i0 _ 3 40 Tryz.underlying45 hi hz0 hz1 hz2 rfl (by decide) (.slice a0 l0 c0) (ownNames x).length (toksCells (ownNames x)) rfl (unhide HV02) (.slice a1 l1 c1') _ _ _ rfl (unhide HV12) (toksCells_one _) (by unfold maxLen; omega) (by omega) (by omega) ?_)
      intro v3 w3 hown3 hgrow3 hat3
      have HV3 := hide hown3
      have HB3 := hide ((unhide HB2).grown hgrow3 (by omega) (own_ge (unhide HV02)))
      have HV23 := hide (owns_other (unhide HV2) hgrow3 (fun k hk => by have := hrow0 k hk; omega))
      have hz3' := hgrow3.size
      obtain ⟨a3, l3, c3, rfl⟩ := own_slice hown3
      have hrow3 : ∀ k, (Value.slice a3 l3 c3).ownBlock = some k → k ≠ k ∨ k < w1.heap.size ∨ w2.heap.size ≤ k := fun k hk => by
        rcases hat3 with e | e
        · rw [e] at hk; have := hrow0 k hk; exact Or.inr (Or.inl (by omega))
        · rw [e] at hk; simp at hk; exact Or.inr (Or.inr (by omega))
      have HV24 := hide hrow3
      clear hown3 hgrow3 hat3 hrow3 HV02 HV12
      go_wp2_with (at_builtin; refine wpList_append_slice rfl _ _ 45 rfl w.heap.size 56 i0 _ 3 40 Tryz.underlying45 hi hz0 hz1 hz2 rfl (by decide) (.slice a3 l3 c3) _ _ rfl (unhide HV3) (.slice a2 l2 c2') _ _ _ rfl (unhide HV23) (toksCells_one _) (by unfold maxLen; omega) (by omega) (by omega) ?_)
      intro v4 w4 hown4 hgrow4 _
      have HV4 := hide (show w4.ownsRow w.heap.size 56 3 v4 (namesL (.node i j x a b)).length (toksCells (namesL (.node i j x a b))) by
        rw [namesL, toksCells_app, toksCells_app, List.length_append, List.length_append, List.append_assoc]; first | exact hown4 | (rw [← List.append_assoc]; exact hown4))
      have HB4 := hide ((unhide HB3).grown hgrow4 (by omega) (own_ge (unhide HV3)))
      clear hown4 hgrow4
      go_wp2
      go_ret
      exact ⟨_, rfl, unhide HV4, unhide HB4⟩
    · have hon : ownNames x = [x.name, x.index] := by simp [ownNames, c1, c2]
      rw [hon] at hL
      go_enter Tryz.func44, Tryz.ntmps44
      go_wp2_with (at_builtin; refine wpList_append_own_at _ rfl _ _ 45 rfl w.heap.size 56 i0 _ 3 40 Tryz.underlying45 hi hz0 hz1 hz2 rfl (by decide) (.slice none 0 0) 0 [] rfl (World.ownsRow_nil _ _ _ _) ⟨w.heap.size, 0, none⟩ 1 1 (tokCells x.name) rfl rfl ?j1 ?j2 ?j3 ?j4 ?j5 ?_)
      case j1 => exact cells_new w _ (tokCells x.name) _ rfl
      case j2 => exact tokCells_one _
      case j3 => unfold maxLen; omega
      case j4 => omega
      case j5 => simp
      intro v9 w9 hown9 hgrow9 _ hat9
      have hbw : Below w.heap.size w w9 := (below_alloc1 w _).grown hgrow9 (by simp) (fun k hk => by cases hk)
      have HBW9 := hide hbw
      have d0' := cell_later hbw d0
      have d1' := cell_later hbw d1
      have d2' := cell_later hbw d2
      have d3' := cell_later hbw d3
      have d4' := cell_later hbw d4
      have d5' := cell_later hbw d5
      have d6' := cell_later hbw d6
      have d7' := cell_later hbw d7
      have d8' := cell_later hbw d8
      have d9' := cell_later hbw d9
      clear d0 d1 d2 d3 d4 d5 d6 d7 d8 d9
      have HV9 := hide hown9
      have hz9 := hbw.size
      obtain ⟨a9, l9, c9, rfl⟩ := own_slice hown9
      clear hown9 hgrow9 hat9 hbw
      go_wp2_with (at_builtin; refine wpList_append_own_at _ rfl _ _ 45 rfl w.heap.size 56 i0 _ 3 40 Tryz.underlying45 hi hz0 hz1 hz2 rfl (by decide) (.slice a9 l9 c9) _ _ rfl ((unhide HV9).alloc _) ⟨w9.heap.size, 0, none⟩ 1 1 (tokCells x.index) rfl rfl ?l1 ?l2 ?l3 ?l4 ?l5 ?_)
      case l1 => exact cells_new w9 _ (tokCells x.index) _ rfl
      case l2 => exact tokCells_one _
      case l3 => unfold maxLen; omega
      case l4 => omega
      case l5 => simp; omega
      intro v0 w0 hown0 hgrow0 _ hat0
      have hb9 : Below w.heap.size w w0 := ((unhide HBW9).alloc (by omega) _).grown hgrow0 (by simp; omega) (own_ge (unhide HV9))
      have HBW := hide hb9
      have hk9 := (hgrow0.block k (by simp; omega) (fun e => by have := own_ge (unhide HV9) k e.symm; omega)).trans (Below.heap_alloc w9 _ k (by omega))
      have e2' : w0.cell? ⟨k, 2, none⟩ = some pb := (World.cell?_of_block (w := w9) (a := ⟨k, 2, none⟩) hk9).trans d2'
      have e1' : w0.cell? ⟨k, 1, none⟩ = some pa := (World.cell?_of_block (w := w9) (a := ⟨k, 1, none⟩) hk9).trans d1'
      have HV0 := hide (show w0.ownsRow w.heap.size 56 3 v0 (ownNames x).length (toksCells (ownNames x)) by rw [hon]; exact hown0)
      obtain ⟨a0, l0, c0, rfl⟩ := own_slice hown0
      have hL' : (ownNames x).length + (namesL a).length + (namesL b).length ≤ 100000 := by rw [hon]; exact hL
      clear hown0 hgrow0 hat0 hb9 hk9 hon hL HV9 HBW9 d0' d1' d2' d3' d4' d5' d6' d7' d8' d9'
      go_wp2_with fail
      refine (ha _ lo pa (by omega) ((unhide HNA).below (unhide HBW))).mono ?_
      rintro e w1 ⟨v1, rfl, hv1, hb1⟩
      have d2' := cell_later hb1 e2'
      have HV1 := hide hv1
      have HB1 := hide hb1
      have hz1' := hb1.size
      have HV01 := hide (owns_below (unhide HV0) hb1)
      obtain ⟨a1, l1, c1', rfl⟩ := own_slice hv1
      clear hv1 hb1 e1'
      go_wp2_with fail
      refine (hb _ lo pb (by omega) (((unhide HNB).below (unhide HBW)).below (unhide HB1))).mono ?_
      rintro e w2 ⟨v2, rfl, hv2, hb2⟩
      have HV2 := hide hv2
      have HV12 := hide (owns_below (unhide HV1) hb2)
      have HV02 := hide (owns_below (unhide HV01) hb2)
      have hzw0 := (unhide HBW).size
      have HB2 := hide ((unhide HBW).trans (((unhide HB1).trans (hb2.mono hz1')).mono hzw0))
      have hz2' := hb2.size
      have hrow0 := own_lt (unhide HV0)
      obtain ⟨a2, l2, c2', rfl⟩ := own_slice hv2
      clear hv2 hb2 HV1 HV01 d2'
      go_wp2_with (at_builtin; refine wpList_append_slice rfl _ _ 45 rfl w.heap.size 56 i0 _ 3 40 Tryz.underlying45 hi hz0 hz1 hz2 rfl (by decide) (.slice a0 l0 c0) (ownNames x).length (toksCells (ownNames x)) rfl (unhide HV02) (.slice a1 l1 c1') _ _ _ rfl (unhide HV12) (toksCells_one _) (by unfold maxLen; omega) (by omega) (by omega) ?_)
      intro v3 w3 hown3 hgrow3 hat3
      have HV3 := hide hown3
      have HB3 := hide ((unhide HB2).grown hgrow3 (by omega) (own_ge (unhide HV02)))
      have HV23 := hide (owns_other (unhide HV2) hgrow3 (fun k hk => by have := hrow0 k hk; omega))
      have hz3' := hgrow3.size
      obtain ⟨a3, l3, c3, rfl⟩ := own_slice hown3
      have hrow3 : ∀ k, (Value.slice a3 l3 c3).ownBlock = some k → k ≠ k ∨ k < w1.heap.size ∨ w2.heap.size ≤ k := fun k hk => by
        rcases hat3 with e | e
        · rw [e] at hk; have := hrow0 k hk; exact Or.inr (Or.inl (by omega))
        · rw [e] at hk; simp at hk; exact Or.inr (Or.inr (by omega))
      have HV24 := hide hrow3
      clear hown3 hgrow3 hat3 hrow3 HV02 HV12
      go_wp2_with (at_builtin; refine wpList_append_slice rfl _ _ 45 rfl w.heap.size 56 i0 _ 3 40 Tryz.underlying45 hi hz0 hz1 hz2 rfl (by decide) (.slice a3 l3 c3) _ _ rfl (unhide HV3) (.slice a2 l2 c2') _ _ _ rfl (unhide HV23) (toksCells_one _) (by unfold maxLen; omega) (by omega) (by omega) ?_)
      intro v4 w4 hown4 hgrow4 _
      have HV4 := hide (show w4.ownsRow w.heap.size 56 3 v4 (namesL (.node i j x a b)).length (toksCells (namesL (.node i j x a b))) by
        rw [namesL, toksCells_app, toksCells_app, List.length_append, List.length_append, List.append_assoc]; first | exact hown4 | (rw [← List.append_assoc]; exact hown4))
      have HB4 := hide ((unhide HB3).grown hgrow4 (by omega) (own_ge (unhide HV3)))
      clear hown4 hgrow4
      go_wp2
      go_ret
      exact ⟨_, rfl, unhide HV4, unhide HB4⟩

theorem names_all : ∀ x : PX, NamesSaid x
  | .nil => fun w lo p _ hN => by
    have hp : p = .pointer none := hN
    subst hp
    go_enter Tryz.func44, Tryz.ntmps44
    go_wp2
    go_ret
    exact ⟨_, rfl, World.ownsRow_nil _ _ _ _, Below.refl _ _⟩
  | .node i j x a b => names_rest i j x a b (names_all a) (names_all b)

end Go.Proofs.YtpmcnonmkghokaaGreat

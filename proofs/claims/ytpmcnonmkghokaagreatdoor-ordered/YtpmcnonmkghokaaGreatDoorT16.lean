/-
  The program's machine, made: what stays where only blocks of some types (and one table) are written into.
  The program's machine, made: what New makes of a model, plainly (none: where a name is not found, or a number is great).
  A law for a region that draws its order, with a tail: what is read may be taken first, though the tail writes over it.
-/
import Derived.Test.YtpmcnonmkghokaaGreatDoorT15
import Derived.Test.YtpmcnonmkghokaaGreatDoorT00
import Derived.RegionTactic
import Derived.OrdersHeld
set_option linter.unusedVariables false
set_option linter.unusedSimpArgs false
namespace Go.Proofs.YtpmcnonmkghokaaGreatDoor
open Go.RowKit
/-- All blocks stay but x and rows of the types in bad. -/
structure Tk (x : Option Nat) (bad : List Nat) (w w' : World) : Prop where
  os : w'.os = w.os
  tape : w'.tape = w.tape
  output : w'.output = w.output
  size : w.heap.size ≤ w'.heap.size
  block : ∀ k o, w.heap[k]? = some o → x ≠ some k → (∀ cs e fr, o = .cells cs e fr → e ∉ bad) → w'.heap[k]? = some o
theorem Tk.refl (x : Option Nat) (bad : List Nat) (w : World) : Tk x bad w w := ⟨rfl, rfl, rfl, Nat.le_refl _, fun _ _ h _ _ => h⟩
theorem Tk.trans {x : Option Nat} {bad : List Nat} {a b c : World} (h : Tk x bad a b) (k : Tk x bad b c) : Tk x bad a c :=
  ⟨k.os.trans h.os, k.tape.trans h.tape, k.output.trans h.output, Nat.le_trans h.size k.size, fun i o h1 h2 h3 => k.block i o (h.block i o h1 h2 h3) h2 h3⟩
theorem Tk.wide {x : Option Nat} {bad bad' : List Nat} {w w' : World} (h : Tk x bad w w') (hs : ∀ e ∈ bad, e ∈ bad') : Tk x bad' w w' :=
  ⟨h.os, h.tape, h.output, h.size, fun i o h1 h2 h3 => h.block i o h1 h2 fun cs e fr he hm => h3 cs e fr he (hs e hm)⟩
theorem Tk.any {bad : List Nat} {w w' : World} (h : Tk none bad w w') (x : Option Nat) : Tk x bad w w' :=
  ⟨h.os, h.tape, h.output, h.size, fun i o h1 _ h3 => h.block i o h1 (by simp) h3⟩
theorem below_tk {w w' : World} (h : Below w.heap.size w w') (x : Option Nat) (bad : List Nat) : Tk x bad w w' :=
  ⟨h.os, h.tape, h.output, h.size, fun i o h1 _ _ => (h.block i (lt_of_block h1)).trans h1⟩
/-- A row of a type in bad has grown. -/
theorem grown_tk {w w' : World} {lo e size : Nat} {v : Value} {n : Nat} {xs : List Value} {x : Option Nat} {bad : List Nat} (hv : w.ownsRow lo e size v n xs) (hg : w.grownBy w' v.ownBlock) (he : e ∈ bad) : Tk x bad w w' :=
  ⟨hg.os, hg.tape, hg.output, hg.size, fun i o h1 _ h3 => by
    rw [hg.block i (lt_of_block h1) (fun e2 => ?_)]
    · exact h1
    · rcases hv.2 with ⟨e1, _⟩ | ⟨g, cap, cur, e1, _, e3, _⟩
      · rw [e1] at e2; cases e2
      · rw [e1] at e2
        injection e2 with e2
        subst e2
        rw [e3] at h1
        injection h1 with h1
        exact h3 _ _ _ h1.symm he⟩
theorem set_tk {w : World} {M e : Nat} {cs : Array Value} {fr : Nat × Nat} {x : Option Nat} {bad : List Nat} (hM : w.heap[M]? = some (.cells cs e fr)) (he : e ∈ bad) (j : Nat) (v : Value) : Tk x bad w (w.setCell ⟨M, j, none⟩ v) :=
  ⟨rfl, rfl, rfl, by simp [World.setCell], fun i o h1 _ h3 => by
    rw [Below.heap_setCell _ _ _ _ (fun e2 => ?_)]
    · exact h1
    · subst e2
      rw [hM] at h1
      injection h1 with h1
      exact h3 _ _ _ h1.symm he⟩
theorem Tk.alloc {x : Option Nat} {bad : List Nat} {a w : World} (h : Tk x bad a w) (o : Obj) : Tk x bad a (w.alloc o) := h.trans (below_tk (below_alloc1 w o) x bad)
theorem Tk.drew {x : Option Nat} {bad : List Nat} {a w : World} (h : Tk x bad a w) : Tk x bad a w.drew := ⟨h.os, h.tape, h.output, h.size, h.block⟩
theorem Tk.row {x : Option Nat} {bad : List Nat} {w w' : World} {b e : Nat} {cs : Array Value} {fr : Nat × Nat} (h : Tk x bad w w') (hb : w.heap[b]? = some (.cells cs e fr)) (hx : x ≠ some b) (he : e ∉ bad) : w'.heap[b]? = some (.cells cs e fr) :=
  h.block b _ hb hx fun cs' e' fr' e1 hm => by injection e1 with _ e2; subst e2; exact he hm

/-- x is no row of cells. -/
def NoRow (w : World) (x : Option Nat) : Prop := ∀ k cs e fr, x = some k → w.heap[k]? ≠ some (.cells cs e fr)
theorem NoRow.none (w : World) : NoRow w none := fun _ _ _ _ e => by cases e
theorem MMapIs.no {w : World} {b : Nat} {t : MTab} (h : MMapIs w b t) : NoRow w (some b) := fun k cs e fr e1 h1 => by
  injection e1 with e1
  subst e1
  obtain ⟨⟨es, c, h2, _⟩, _⟩ := h
  rw [h2] at h1
  cases h1
theorem owns_tk {w w' : World} {x : Option Nat} {bad : List Nat} {lo e size : Nat} {v : Value} {n : Nat} {xs : List Value} (h : w.ownsRow lo e size v n xs) (hk : Tk x bad w w') (hx : NoRow w x) (he : e ∉ bad) : w'.ownsRow lo e size v n xs := by
  refine ⟨h.1, ?_⟩
  rcases h.2 with hh | ⟨g, cap, cur, e1, e2, e3, e4⟩
  · exact Or.inl hh
  · exact Or.inr ⟨g, cap, cur, e1, e2, hk.row e3 (fun e5 => hx _ _ _ _ e5 e3) he, e4⟩
theorem XIs.tk {lo : Nat} {w w' : World} {x : Option Nat} {bad : List Nat} (hk : Tk x bad w w') (hx : NoRow w x) (he : 358 ∉ bad) : ∀ {y : PX} {v : Value}, XIs lo w y v → XIs lo w' y v
  | .nil, _, h => h
  | .node _ _ _ _ _, _, ⟨k, va, vb, e, hn, hh, ha, hb⟩ => ⟨k, va, vb, e, hn, hk.row hh (fun e5 => hx _ _ _ _ e5 hh) he, ha.tk hk hx he, hb.tk hk hx he⟩
theorem BIs.tk {lo : Nat} {no : Option Nat} {w w' : World} {x : Option Nat} {bad : List Nat} (hk : Tk x bad w w') (hx : NoRow w x) (he : 358 ∉ bad) (he2 : 334 ∉ bad) : ∀ {b : PB} {xs : List Value}, BIs lo no w b xs → BIs lo no w' b xs
  | .nil, _, h => h
  | .node _ _ a .nil n, cs, ⟨p, rest, e, h1, hn⟩ => ⟨p, rest, e, h1.tk hk hx he, BIs.tk hk hx he he2 hn⟩
  | .node _ _ a (.node _ _ _ t e) n, cs, ⟨p, ta, tn, tc, ea, en, ec, ct, ce, rest, e1, h1, ⟨ht1, ht3, ht2⟩, ⟨he1, he3, hee2⟩, hn⟩ =>
    ⟨p, ta, tn, tc, ea, en, ec, ct, ce, rest, e1, h1.tk hk hx he, ⟨owns_tk ht1 hk hx he2, ht3, BIs.tk hk hx he he2 ht2⟩, ⟨owns_tk he1 hk hx he2, he3, BIs.tk hk hx he he2 hee2⟩, BIs.tk hk hx he he2 hn⟩
theorem KdIs.tk {lo : Nat} {w w' : World} {x : Option Nat} {bad : List Nat} (hk : Tk x bad w w') (hx : NoRow w x) (he : 107 ∉ bad) : ∀ {ks : List PKind} {cs : List Value}, KdIs lo w ks cs → KdIs lo w' ks cs
  | [], _, h => h
  | k :: ks, _, ⟨ma, mn, mc, rest, e, h1, h2⟩ => ⟨ma, mn, mc, rest, e, owns_tk h1 hk hx he, KdIs.tk hk hx he h2⟩
/-- The types in a model's lists. -/
def mdTypes : List Nat := [111, 114, 107, 121, 127, 130, 352, 334, 358]
theorem RuIs.tk {lo : Nat} {w w' : World} {x : Option Nat} {bad : List Nat} (hk : Tk x bad w w') (hx : NoRow w x) (hd : ∀ e ∈ mdTypes, e ∉ bad) : ∀ {rs : List PRule} {cs : List Value}, RuIs lo w rs cs → RuIs lo w' rs cs
  | [], _, h => h
  | r :: rs, _, ⟨pa, pn, pc, gp, ba, bn, bc, bcs, rest, e, h1, h2, h3, h4, h5⟩ => ⟨pa, pn, pc, gp, ba, bn, bc, bcs, rest, e, owns_tk h1 hk hx (hd _ (by decide)), h2.tk hk hx (hd _ (by decide)), owns_tk h3 hk hx (hd _ (by decide)), h4.tk hk hx (hd _ (by decide)) (hd _ (by decide)), RuIs.tk hk hx hd h5⟩
theorem NvIs.tk {lo : Nat} {w w' : World} {x : Option Nat} {bad : List Nat} (hk : Tk x bad w w') (hx : NoRow w x) (hd : ∀ e ∈ mdTypes, e ∉ bad) : ∀ {rs : List PRule} {cs : List Value}, NvIs lo w rs cs → NvIs lo w' rs cs
  | [], _, h => h
  | r :: rs, _, ⟨pa, pn, pc, gp, rest, e, h1, h2, h5⟩ => ⟨pa, pn, pc, gp, rest, e, owns_tk h1 hk hx (hd _ (by decide)), h2.tk hk hx (hd _ (by decide)), NvIs.tk hk hx hd h5⟩
theorem MdIs.tk {lo : Nat} {w w' : World} {x0 x1 x2 x3 x4 : Value} {m : MdL} {x : Option Nat} {bad : List Nat} (h : MdIs lo w x0 x1 x2 x3 x4 m) (hk : Tk x bad w w') (hx : NoRow w x) (hd : ∀ e ∈ mdTypes, e ∉ bad) : MdIs lo w' x0 x1 x2 x3 x4 m := by
  obtain ⟨h0, ⟨c1, h1, k1⟩, h2, ⟨c3, h3, k3⟩, ⟨c4, h4, k4⟩⟩ := h
  exact ⟨owns_tk h0 hk hx (hd _ (by decide)), ⟨c1, owns_tk h1 hk hx (hd _ (by decide)), k1.tk hk hx (hd _ (by decide))⟩, owns_tk h2 hk hx (hd _ (by decide)), ⟨c3, owns_tk h3 hk hx (hd _ (by decide)), k3.tk hk hx hd⟩, ⟨c4, owns_tk h4 hk hx (hd _ (by decide)), k4.tk hk hx hd⟩⟩
theorem MvIs.tk {lo : Nat} {w w' : World} {x : Option Nat} {bad : List Nat} (hk : Tk x bad w w') (hx : NoRow w x) (he : 9 ∉ bad) : ∀ {vs : List MVar} {cs : List Value}, MvIs lo w vs cs → MvIs lo w' vs cs
  | [], _, h => h
  | v :: vs, cs, ⟨ta, tc, rest, e, h1, h2⟩ => ⟨ta, tc, rest, e, owns_tk h1 hk hx he, MvIs.tk hk hx he h2⟩
theorem MvIs.app {lo : Nat} {w : World} : ∀ {vs us : List MVar} {cs ds : List Value}, MvIs lo w vs cs → MvIs lo w us ds → MvIs lo w (vs ++ us) (cs ++ ds)
  | [], _, cs, ds, h, h' => by
    have : cs = [] := h
    subst this; exact h'
  | v :: vs, _, cs, ds, ⟨ta, tc, rest, e, h1, h2⟩, h' => ⟨ta, tc, rest ++ ds, by rw [e, List.append_assoc], h1, h2.app h'⟩
theorem MMapIs.tk {w w' : World} {b : Nat} {t : MTab} {x : Option Nat} {bad : List Nat} (h : MMapIs w b t) (hk : Tk x bad w w') (hx : x ≠ some b) : MMapIs w' b t := by
  obtain ⟨⟨es, c, h1, h2⟩, h3⟩ := h
  exact ⟨⟨es, c, hk.block b _ h1 hx (fun _ _ _ e => by cases e), h2⟩, h3⟩
/-- The types in a step or a never, as it lies. -/
theorem StepIs.tk {lo so : Nat} {w w' : World} {M : Nat} {s : MStep} {cs : List Value} {x : Option Nat} {bad : List Nat} (h : StepIs lo so w M s cs) (hk : Tk x bad w w') (hx : NoRow w x) (hd : ∀ e ∈ mdTypes, e ∉ bad) (hi : 3 ∉ bad) : StepIs lo so w' M s cs := by
  obtain ⟨pa, pn, pc, ma, mn, mc, p, ba, bn, bc, bs, no, e, h1, h2, h3, h4, h5⟩ := h
  exact ⟨pa, pn, pc, ma, mn, mc, p, ba, bn, bc, bs, no, e, owns_tk h1 hk hx (hd _ (by decide)), owns_tk h2 hk hx hi, h3.tk hk hx (hd _ (by decide)), owns_tk h4 hk hx (hd _ (by decide)), h5.tk hk hx (hd _ (by decide)) (hd _ (by decide))⟩
theorem StepsIs.tk {lo so : Nat} {w w' : World} {M : Nat} {l : List MStep} {cs : List Value} {x : Option Nat} {bad : List Nat} (h : StepsIs lo so w M l cs) (hk : Tk x bad w w') (hx : NoRow w x) (hd : ∀ e ∈ mdTypes, e ∉ bad) (hi : 3 ∉ bad) : StepsIs lo so w' M l cs :=
  ⟨h.1, fun k hl => (h.2 k hl).tk hk hx hd hi⟩
theorem StepsIs.snoc {lo so : Nat} {w : World} {M : Nat} {l : List MStep} {s : MStep} {cs ds : List Value} (h : StepsIs lo so w M l cs) (hs : StepIs lo so w M s ds) (hd : ds.length = 6) : StepsIs lo so w M (l ++ [s]) (cs ++ ds) := by
  refine ⟨by simp [h.1, hd]; omega, fun k hk => ?_⟩
  by_cases hl : k < l.length
  · have hc := h.1
    rw [List.drop_append_of_le_length (by omega), List.take_append_of_le_length (by simp; omega), List.getElem_append_left hl]
    exact h.2 k hl
  · have : k = l.length := by simp at hk; omega
    subst this
    rw [← h.1, List.drop_left, List.take_of_length_le (by omega)]
    simpa using hs
/-- A never as it lies. -/
def NevIs (lo so : Nat) (w : World) (M : Nat) (s : MNever) (cs : List Value) : Prop :=
  ∃ pa pn pc ma mn mc p, cs = [.string s.text, .pointer (some ⟨M, 0, none⟩), .slice pa pn pc, .slice ma mn mc, .pointer p] ∧ w.ownsRow lo 352 4 (.slice pa pn pc) s.params.length (pasCells s.params) ∧ w.ownsRow lo 3 1 (.slice ma mn mc) s.mems.length (s.mems.map (Value.int .i64)) ∧ XIs so w s.expr (.pointer p)
theorem NevIs.tk {lo so : Nat} {w w' : World} {M : Nat} {s : MNever} {cs : List Value} {x : Option Nat} {bad : List Nat} (h : NevIs lo so w M s cs) (hk : Tk x bad w w') (hx : NoRow w x) (hd : ∀ e ∈ mdTypes, e ∉ bad) (hi : 3 ∉ bad) : NevIs lo so w' M s cs := by
  obtain ⟨pa, pn, pc, ma, mn, mc, p, e, h1, h2, h3⟩ := h
  exact ⟨pa, pn, pc, ma, mn, mc, p, e, owns_tk h1 hk hx (hd _ (by decide)), owns_tk h2 hk hx hi, h3.tk hk hx (hd _ (by decide))⟩
def NevsIs (lo so : Nat) (w : World) (M : Nat) (l : List MNever) (cs : List Value) : Prop := cs.length = l.length * 5 ∧ ∀ k (hk : k < l.length), NevIs lo so w M l[k] ((cs.drop (k * 5)).take 5)
theorem NevsIs.tk {lo so : Nat} {w w' : World} {M : Nat} {l : List MNever} {cs : List Value} {x : Option Nat} {bad : List Nat} (h : NevsIs lo so w M l cs) (hk : Tk x bad w w') (hx : NoRow w x) (hd : ∀ e ∈ mdTypes, e ∉ bad) (hi : 3 ∉ bad) : NevsIs lo so w' M l cs :=
  ⟨h.1, fun k hl => (h.2 k hl).tk hk hx hd hi⟩
theorem NevsIs.snoc {lo so : Nat} {w : World} {M : Nat} {l : List MNever} {s : MNever} {cs ds : List Value} (h : NevsIs lo so w M l cs) (hs : NevIs lo so w M s ds) (hd : ds.length = 5) : NevsIs lo so w M (l ++ [s]) (cs ++ ds) := by
  refine ⟨by simp [h.1, hd]; omega, fun k hk => ?_⟩
  by_cases hl : k < l.length
  · have hc := h.1
    rw [List.drop_append_of_le_length (by omega), List.take_append_of_le_length (by simp; omega), List.getElem_append_left hl]
    exact h.2 k hl
  · have : k = l.length := by simp at hk; omega
    subst this
    rw [← h.1, List.drop_left, List.take_of_length_le (by omega)]
    simpa using hs

theorem mset0 {w : World} {b : Nat} {x0 x1 x2 x3 x4 x5 : Value} {t : TypeId} (h : w.heap[b]? = some (.cells #[x0, x1, x2, x3, x4, x5] t (0, 0))) (a : Value) : (w.setCell ⟨b, 0, none⟩ a).heap[b]? = some (.cells #[a, x1, x2, x3, x4, x5] t (0, 0)) := heap_setCell_same _ b 0 _ _ _ h
theorem mset1 {w : World} {b : Nat} {x0 x1 x2 x3 x4 x5 : Value} {t : TypeId} (h : w.heap[b]? = some (.cells #[x0, x1, x2, x3, x4, x5] t (0, 0))) (a : Value) : (w.setCell ⟨b, 1, none⟩ a).heap[b]? = some (.cells #[x0, a, x2, x3, x4, x5] t (0, 0)) := heap_setCell_same _ b 1 _ _ _ h
theorem mset2 {w : World} {b : Nat} {x0 x1 x2 x3 x4 x5 : Value} {t : TypeId} (h : w.heap[b]? = some (.cells #[x0, x1, x2, x3, x4, x5] t (0, 0))) (a : Value) : (w.setCell ⟨b, 2, none⟩ a).heap[b]? = some (.cells #[x0, x1, a, x3, x4, x5] t (0, 0)) := heap_setCell_same _ b 2 _ _ _ h
theorem mset3 {w : World} {b : Nat} {x0 x1 x2 x3 x4 x5 : Value} {t : TypeId} (h : w.heap[b]? = some (.cells #[x0, x1, x2, x3, x4, x5] t (0, 0))) (a : Value) : (w.setCell ⟨b, 3, none⟩ a).heap[b]? = some (.cells #[x0, x1, x2, a, x4, x5] t (0, 0)) := heap_setCell_same _ b 3 _ _ _ h
theorem mset5 {w : World} {b : Nat} {x0 x1 x2 x3 x4 x5 : Value} {t : TypeId} (h : w.heap[b]? = some (.cells #[x0, x1, x2, x3, x4, x5] t (0, 0))) (a : Value) : (w.setCell ⟨b, 5, none⟩ a).heap[b]? = some (.cells #[x0, x1, x2, x3, x4, a] t (0, 0)) := heap_setCell_same _ b 5 _ _ _ h
/-- The machine whole, at block M. -/
structure MchIs (lo so : Nat) (w : World) (M nb : Nat) (steps : List MStep) (nevers : List MNever) (sets : List Int) (vars : List MVar) (tab : MTab) (size : Nat) (sv nv tv vv : Value) : Prop where
  row : w.heap[M]? = some (.cells #[sv, nv, tv, vv, .map (some nb), .int .i64 size] 105 (0, 0))
  steps : ∃ cs, w.ownsRow lo 178 6 sv steps.length cs ∧ StepsIs 0 so w M steps cs
  nevers : ∃ cs, w.ownsRow lo 208 5 nv nevers.length cs ∧ NevsIs 0 so w M nevers cs
  sets : w.ownsRow lo 3 1 tv sets.length (sets.map (Value.int .i64))
  vars : ∃ cs, w.ownsRow lo 213 5 vv vars.length cs ∧ MvIs 0 w vars cs
  tab : MMapIs w nb tab
  hM : lo ≤ M
  hN : lo ≤ nb
theorem MchIs.below {lo so : Nat} {w w' : World} {M nb : Nat} {steps : List MStep} {nevers : List MNever} {sets : List Int} {vars : List MVar} {tab : MTab} {size : Nat} {sv nv tv vv : Value} (h : MchIs lo so w M nb steps nevers sets vars tab size sv nv tv vv) (hb : Below w.heap.size w w') : MchIs lo so w' M nb steps nevers sets vars tab size sv nv tv vv := by
  have hk := below_tk hb none []
  have hx := NoRow.none w
  obtain ⟨h0, ⟨c1, h1, k1⟩, ⟨c2, h2, k2⟩, h3, ⟨c4, h4, k4⟩, h5, h6, h7⟩ := h
  exact ⟨(hb.block M (lt_of_block h0)).trans h0, ⟨c1, owns_below h1 hb, k1.tk hk hx (by simp) (by simp)⟩, ⟨c2, owns_below h2 hb, k2.tk hk hx (by simp) (by simp)⟩, owns_below h3 hb, ⟨c4, owns_below h4 hb, k4.tk hk hx (by simp)⟩, h5.tk hk (by simp), h6, h7⟩

end Go.Proofs.YtpmcnonmkghokaaGreatDoor
namespace Go.Proofs.YtpmcnonmkghokaaGreatDoor
open Go.RowKit
attribute [local go_sem ↓] Go.wp_at_zero Go.wp_at_succ
/-- The number that a digit tells, if it is one. -/
def digO (t : ByteArray) : Option Nat := if 0 ≤ digV t ∧ digV t ≤ 9 then some (digV t).toNat else none
theorem digO_some {t : ByteArray} {n : Nat} (h : digO t = some n) : digV t = n ∧ n ≤ 9 := by
  unfold digO at h
  split at h
  · injection h with h; subst h; omega
  · cases h
/-- The size of the set of that name. -/
def sizO (ss : List PSet) (s : List UInt8) : Option Nat := (sNum ss s).bind fun k => (ss[k]?).bind fun x => digO x.size.text
theorem sizO_some {ss : List PSet} {s : List UInt8} {n : Nat} (h : sizO ss s = some n) : ∃ k x, sNum ss s = some k ∧ ss[k]? = some x ∧ digV x.size.text = n ∧ n ≤ 9 := by
  unfold sizO at h
  obtain ⟨k, h1, h2⟩ := Option.bind_eq_some_iff.mp h
  obtain ⟨x, h3, h4⟩ := Option.bind_eq_some_iff.mp h2
  exact ⟨k, x, h1, h3, digO_some h4⟩
/-- The texts of a type's values. -/
def texO (ss : List PSet) (ks : List PKind) (s : SiT) : Option (List ByteArray) :=
  if s.form == 0 then some (numT 2)
  else if s.form == 1 then (digO s.top.text).map fun n => numT (n + 1)
  else match kNum ks s.name.text.toList with
    | some k => some (k.members.map (·.text))
    | none => (sizO ss s.name.text.toList).map fun m => ⟨#[45]⟩ :: numT m
/-- A variable, whose values begin at sz. -/
def addO (ss : List PSet) (ks : List PKind) (sz : Nat) (v : VrT) : Option MVar :=
  (if v.arr then sizO ss v.over.text.toList else some 1).bind fun c => (texO ss ks v.si).map fun t => ⟨sz, c, t, sNumI ss v.over.text.toList, sNumI ss v.si.name.text.toList⟩

/-- The model's five lists, as an argument. -/
def mdV (a0 a1 a2 a3 a4 : Option Addr) (n0 n1 n2 n3 n4 c0 c1 c2 c3 c4 : Nat) : Value := .agg #[.slice a0 n0 c0, .slice a1 n1 c1, .slice a2 n2 c2, .slice a3 n3 c3, .slice a4 n4 c4]
/-- Bounds on a model. -/
structure MdFit (m : MdL) : Prop where
  sets : m.sets.length ≤ 1000
  kinds : m.kinds.length ≤ 1000
  mems : ∀ x ∈ m.kinds, x.members.length ≤ 1000
  vars : m.vars.length ≤ 1000
  rules : m.rules.length ≤ 1000
  nevers : m.nevers.length ≤ 1000

theorem valueTexts_any (w : World) (lo : Nat) (s : SiT) (a0 a1 a2 a3 a4 : Option Addr) (n0 n1 n2 n3 n4 c0 c1 c2 c3 c4 : Nat) (m : MdL) (hm : MdIs lo w (.slice a0 n0 c0) (.slice a1 n1 c1) (.slice a2 n2 c2) (.slice a3 n3 c3) (.slice a4 n4 c4) m) (hf : MdFit m) (l : List ByteArray) (hl : texO m.sets m.kinds s = some l) :
    Calls Tryz.prog 98 #[mdV a0 a1 a2 a3 a4 n0 n1 n2 n3 n4 c0 c1 c2 c3 c4, siV s] w fun e w' => ∃ v, e = .returned v ∧ w'.ownsRow w.heap.size 9 1 v l.length (l.map Value.string) ∧ Below w.heap.size w w' := by
  obtain ⟨h0, ⟨c1', h1, k1⟩, h2, _, _⟩ := hm
  unfold texO at hl
  cases e0 : (s.form == 0)
  · rw [e0, if_neg (by simp)] at hl
    cases e1 : (s.form == 1)
    · rw [e1, if_neg (by simp)] at hl
      cases ek : kNum m.kinds s.name.text.toList with
      | some k =>
        rw [ek] at hl
        injection hl with hl
        subst hl
        have := valueTexts_kind w lo s.form (digV s.top.text) s.top.at_ s.name a0 a1 a2 a3 a4 n0 n1 n2 n3 n4 c0 c1 c2 c3 c4 m.kinds c1' h1 k1 hf.kinds hf.mems e0 e1 k ek
        refine this.mono ?_
        rintro e w' ⟨v, rfl, ho, hb⟩
        exact ⟨v, rfl, by rw [List.length_map, List.map_map]; exact ho, hb⟩
      | none =>
        rw [ek] at hl
        obtain ⟨n, hn, rfl⟩ := Option.map_eq_some_iff.mp hl
        obtain ⟨j, x, q1, q2, q3, q4⟩ := sizO_some hn
        have := valueTexts_set w lo s.form (digV s.top.text) s.top.at_ s.name a0 a1 a2 a3 a4 n0 n1 n2 n3 n4 c0 c1 c2 c3 c4 m.kinds c1' h1 k1 hf.kinds m.sets h0 hf.sets j q1 x q2 n q3 (by omega) e0 e1 ek
        refine this.mono ?_
        rintro e w' ⟨v, rfl, ho, hb⟩
        exact ⟨v, rfl, by simpa [numT_len] using ho, hb⟩
    · rw [e1, if_pos rfl] at hl
      obtain ⟨n, hn, rfl⟩ := Option.map_eq_some_iff.mp hl
      obtain ⟨q3, q4⟩ := digO_some hn
      have := valueTexts_plain w s.form (digV s.top.text) s.top.at_ s.name a0 a1 a2 a3 a4 n0 n1 n2 n3 n4 c0 c1 c2 c3 c4 (n + 1) (by omega) (Or.inr ⟨e0, e1, by omega⟩)
      refine this.mono ?_
      rintro e w' ⟨v, rfl, ho, hb⟩
      exact ⟨v, rfl, by simpa [numT_len] using ho, hb⟩
  · rw [e0, if_pos rfl] at hl
    injection hl with hl
    subst hl
    have := valueTexts_plain w s.form (digV s.top.text) s.top.at_ s.name a0 a1 a2 a3 a4 n0 n1 n2 n3 n4 c0 c1 c2 c3 c4 2 (by omega) (Or.inl (by rw [e0]; rfl))
    refine this.mono ?_
    rintro e w' ⟨v, rfl, ho, hb⟩
    exact ⟨v, rfl, by simpa [numT_len] using ho, hb⟩

end Go.Proofs.YtpmcnonmkghokaaGreatDoor
namespace Go.Proofs.YtpmcnonmkghokaaGreatDoor
open Go.RowKit
section
variable {P : Program} {ops : Array Oper} {Q : Exit → Act → World → Prop} {md : Region.Mode} {S : World → Prop} {tl : List Nat}
/-- Whatever order is picked from here on: S holds behind each operation that is not of the tail. -/
def wpAnyT (P : Program) (md : Region.Mode) (ops : Array Oper) (Q : Exit → Act → World → Prop) (S : World → Prop) (tl : List Nat) : Nat → Array Bool → Act → World → Prop
  | 0, listed, a, w => Region.ready md ops listed = [] ∧ Q .normal a w
  | fuel + 1, listed, a, w => (Region.ready md ops listed = [] → Q .normal a w) ∧ ∀ i ∈ Region.ready md ops listed, wpOp P ops Q i (fun a' w' => (S w → i ∉ tl → S w') ∧ wpAnyT P md ops Q S tl fuel (listed.setIfInBounds i true) a' w') a w
theorem wpAny_of_tail : ∀ (fuel : Nat) (listed : Array Bool) (a : Act) (w : World), wpAnyT P md ops Q S tl fuel listed a w → wpAny P md ops Q fuel listed a w
  | 0, _, _, _, h => h
  | fuel + 1, _, _, _, h => ⟨h.1, fun i hi => wpOp_mono (fun a' w' h' => wpAny_of_tail fuel _ a' w' h'.2) (h.2 i hi)⟩
/-- None of D has come up, and each of them waits for i or for another of D. -/
def coneOk (md : Region.Mode) (ops : Array Oper) (listed : Array Bool) (i : Nat) (D : List Nat) : Bool :=
  D.all fun d => !(listed.getD d true) && (match ops[d]? with | some o => o.after.any (fun e => Region.binds md e && (e.on == i || D.contains e.on)) | none => true)
theorem unlisted {listed : Array Bool} {j : Nat} (h : listed.getD j true = false) : ¬ listed.getD j false = true := by
  intro h1
  rcases Nat.lt_or_ge j listed.size with h' | h'
  · simp [h'] at h h1; rw [h] at h1; cases h1
  · simp [Array.getElem?_eq_none h'] at h1
theorem cone_not {listed : Array Bool} {i j : Nat} {D : List Nat} (hc : coneOk md ops listed i D = true) (hi : listed.getD i true = false) (hj : j ∈ Region.ready md ops listed) : j ∉ D := by
  intro hm
  have h := List.all_eq_true.1 hc j hm
  rw [Bool.and_eq_true] at h
  obtain ⟨h1, o, ho, hall⟩ := mem_ready.1 hj
  rw [ho] at h
  obtain ⟨e, he, hb⟩ := Array.any_eq_true'.mp h.2
  rw [Bool.and_eq_true, Bool.or_eq_true, beq_iff_eq, List.contains_iff_mem] at hb
  have hw := hall e he hb.1
  rcases hb.2 with e1 | e1
  · rw [e1] at hw; exact unlisted hi hw
  · have h2 := List.all_eq_true.1 hc _ e1
    rw [Bool.and_eq_true] at h2
    exact unlisted (by simpa using h2.1) hw
theorem cone_set {listed : Array Bool} {i j : Nat} {D : List Nat} (hc : coneOk md ops listed i D = true) (hj : j ∉ D) : coneOk md ops (listed.setIfInBounds j true) i D = true := by
  refine List.all_eq_true.2 fun d hd => ?_
  have h := List.all_eq_true.1 hc d hd
  have hne : j ≠ d := fun e => hj (e ▸ hd)
  rw [getD_set_ne true hne]
  exact h
theorem wpAnyT_first {i : Nat} {oi : Oper} {v : Value} (D : List Nat) (hi : ops[i]? = some oi) (hsel : ∀ (j : Nat) (o : Oper) cs b, ops[j]? = some o → o.op ≠ .select cs b)
    (hQ : ∀ c a w, Q (.panic c) (a.put oi.dst v) w → Q (.panic c) a w) (hsub : ∀ t ∈ tl, t ∈ D) :
    ∀ (fuel : Nat) (listed : Array Bool) (a : Act) (w : World),
      (∀ j oj, ops[j]? = some oj → j ≠ i → listed.getD j true = false → (∀ e ∈ oj.after, Region.binds md e = true → e.on ≠ i) → oi.apart ops oj = true) →
      coneOk md ops listed i D = true → i ∈ Region.ready md ops listed → YieldsIf P ops S oi v a → S w →
      wpAnyT P md ops Q S tl fuel (listed.setIfInBounds i true) (a.put oi.dst v) w → wpAnyT P md ops Q S tl (fuel + 1) listed a w := by
  intro fuel
  induction fuel with
  | zero =>
    intro listed a w _ hc hr hy hS H
    refine ⟨fun h => (by rw [h] at hr; cases hr), fun j hj => ?_⟩
    by_cases hji : j = i
    · subst hji; exact hy.wpOp hi hS ⟨fun _ _ => hS, H⟩
    · have := ready_mono hj hji
      rw [H.1] at this
      cases this
  | succ fuel ih =>
    intro listed a w hfree hc hr hy hS H
    refine ⟨fun h => (by rw [h] at hr; cases hr), fun j hj => ?_⟩
    by_cases hji : j = i
    · subst hji; exact hy.wpOp hi hS ⟨fun _ _ => hS, H⟩
    · have h1 := H.2 j (ready_mono hj hji)
      have hun := (mem_ready.1 hr).1
      have hjD := cone_not hc hun hj
      obtain ⟨hjun, oj, hoj, hall⟩ := mem_ready.1 hj
      have hnot : ∀ e ∈ oj.after, Region.binds md e = true → e.on ≠ i := fun e he hb heq => by
        have h1 := hall e he hb
        rw [heq] at h1
        exact unlisted hun h1
      have h2 := wpOp_putIf hoj (hfree j oj hoj hji hjun hnot) (fun cs b => hsel i oi cs b hi) (fun cs b => hsel j oj cs b hoj) hQ hy h1
      have hfree' : ∀ k ok, ops[k]? = some ok → k ≠ i → (listed.setIfInBounds j true).getD k true = false →
          (∀ e ∈ ok.after, Region.binds md e = true → e.on ≠ i) → oi.apart ops ok = true := fun k ok hk hki hun hno => by
        refine hfree k ok hk hki ?_ hno
        by_cases hjk : j = k
        · subst hjk; exact hjun
        · rw [getD_set_ne true hjk] at hun; exact hun
      refine wpOp_mono (fun a' w' h3 => ?_) h2
      have hS' : S w' := h3.2.1 hS fun ht => hjD (hsub j ht)
      refine ⟨fun _ _ => hS', ih (listed.setIfInBounds j true) a' w' hfree' (cone_set hc hjD) (ready_mono hr (Ne.symm hji)) h3.1 hS' ?_⟩
      rw [Array.setIfInBounds_comm _ _ hji]
      exact h3.2.2
/-- Take number i first. -/
theorem wpAnyT_take {i : Nat} {oi : Oper} {v : Value} {fuel : Nat} {listed : Array Bool} {a : Act} {w : World} (D : List Nat) (hi : ops[i]? = some oi)
    (hs : Region.noSelect ops = true) (hf : Region.free md ops listed i = true) (hr : (Region.ready md ops listed).contains i = true) (hc : coneOk md ops listed i D = true) (hsub : ∀ t ∈ tl, t ∈ D)
    (hQ : ∀ c a w, Q (.panic c) (a.put oi.dst v) w → Q (.panic c) a w) (hy : YieldsIf P ops S oi v a) (hS : S w)
    (h : wpAnyT P md ops Q S tl fuel (listed.setIfInBounds i true) (a.put oi.dst v) w) : wpAnyT P md ops Q S tl (fuel + 1) listed a w :=
  wpAnyT_first D hi (Region.noSelect_spec hs) hQ hsub fuel listed a w (Region.free_spec hi hf) hc (by simpa using hr) hy hS h
/-- An operation that yields its value in whatever world may be taken first, whatever the tail. -/
theorem wpAnyT_free1 {i : Nat} {oi : Oper} {v : Value} (hi : ops[i]? = some oi) (hsel : ∀ (j : Nat) (o : Oper) cs b, ops[j]? = some o → o.op ≠ .select cs b)
    (hQ : ∀ c a w, Q (.panic c) (a.put oi.dst v) w → Q (.panic c) a w) :
    ∀ (fuel : Nat) (listed : Array Bool) (a : Act) (w : World),
      (∀ j oj, ops[j]? = some oj → j ≠ i → listed.getD j true = false → (∀ e ∈ oj.after, Region.binds md e = true → e.on ≠ i) → oi.apart ops oj = true) →
      i ∈ Region.ready md ops listed → YieldsIf P ops (fun _ => True) oi v a →
      wpAnyT P md ops Q S tl fuel (listed.setIfInBounds i true) (a.put oi.dst v) w → wpAnyT P md ops Q S tl (fuel + 1) listed a w := by
  intro fuel
  induction fuel with
  | zero =>
    intro listed a w _ hr hy H
    refine ⟨fun h => (by rw [h] at hr; cases hr), fun j hj => ?_⟩
    by_cases hji : j = i
    · subst hji; exact hy.wpOp hi trivial ⟨fun h _ => h, H⟩
    · have := ready_mono hj hji
      rw [H.1] at this
      cases this
  | succ fuel ih =>
    intro listed a w hfree hr hy H
    refine ⟨fun h => (by rw [h] at hr; cases hr), fun j hj => ?_⟩
    by_cases hji : j = i
    · subst hji; exact hy.wpOp hi trivial ⟨fun h _ => h, H⟩
    · have h1 := H.2 j (ready_mono hj hji)
      have hun := (mem_ready.1 hr).1
      obtain ⟨hjun, oj, hoj, hall⟩ := mem_ready.1 hj
      have hnot : ∀ e ∈ oj.after, Region.binds md e = true → e.on ≠ i := fun e he hb heq => by
        have h1 := hall e he hb
        rw [heq] at h1
        exact unlisted hun h1
      have h2 := wpOp_putIf hoj (hfree j oj hoj hji hjun hnot) (fun cs b => hsel i oi cs b hi) (fun cs b => hsel j oj cs b hoj) hQ hy h1
      have hfree' : ∀ k ok, ops[k]? = some ok → k ≠ i → (listed.setIfInBounds j true).getD k true = false →
          (∀ e ∈ ok.after, Region.binds md e = true → e.on ≠ i) → oi.apart ops ok = true := fun k ok hk hki hun hno => by
        refine hfree k ok hk hki ?_ hno
        by_cases hjk : j = k
        · subst hjk; exact hjun
        · rw [getD_set_ne true hjk] at hun; exact hun
      refine wpOp_mono (fun a' w' h3 => ?_) h2
      refine ⟨h3.2.1, ih (listed.setIfInBounds j true) a' w' hfree' (ready_mono hr (Ne.symm hji)) h3.1 ?_⟩
      rw [Array.setIfInBounds_comm _ _ hji]
      exact h3.2.2
theorem wpAnyT_free {i : Nat} {oi : Oper} {v : Value} {fuel : Nat} {listed : Array Bool} {a : Act} {w : World} (hi : ops[i]? = some oi)
    (hs : Region.noSelect ops = true) (hf : Region.free md ops listed i = true) (hr : (Region.ready md ops listed).contains i = true)
    (hQ : ∀ c a w, Q (.panic c) (a.put oi.dst v) w → Q (.panic c) a w) (hy : YieldsIf P ops (fun _ => True) oi v a)
    (h : wpAnyT P md ops Q S tl fuel (listed.setIfInBounds i true) (a.put oi.dst v) w) : wpAnyT P md ops Q S tl (fuel + 1) listed a w :=
  wpAnyT_free1 hi (Region.noSelect_spec hs) hQ fuel listed a w (Region.free_spec hi hf) (by simpa using hr) hy h
/-- Each of rs comes up next. -/
def AllReadyT (P : Program) (md : Region.Mode) (ops : Array Oper) (Q : Exit → Act → World → Prop) (S : World → Prop) (tl : List Nat) (fuel : Nat) (listed : Array Bool) (a : Act) (w : World) (rs : List Nat) : Prop :=
  ∀ i ∈ rs, wpOp P ops Q i (fun a' w' => (S w → i ∉ tl → S w') ∧ wpAnyT P md ops Q S tl fuel (listed.setIfInBounds i true) a' w') a w
theorem AllReadyT.nil {fuel : Nat} {listed : Array Bool} {a : Act} {w : World} : AllReadyT P md ops Q S tl fuel listed a w [] := fun _ h => by cases h
theorem AllReadyT.cons {fuel : Nat} {listed : Array Bool} {a : Act} {w : World} {i : Nat} {o : Oper} {rs : List Nat} (ho : ops[i]? = some o)
    (h : ∀ K' : Act → World → Prop, (∀ a w, S w → wpAnyT P md ops Q S tl fuel (listed.setIfInBounds i true) a w → K' a w) → if Region.wanted o (yielded ops a.tmps) = true then Oper.wp P o a w K' Q else K' (a.put o.dst undef) w)
    (hs : AllReadyT P md ops Q S tl fuel listed a w rs) : AllReadyT P md ops Q S tl fuel listed a w (i :: rs) := fun j hj => by
  rcases List.mem_cons.1 hj with rfl | hj
  · exact wpOp_step ho (fun K' hK => h K' (fun a w hS hW => hK a w ⟨fun _ _ => hS, hW⟩))
  · exact hs j hj
theorem wpAnyT_ready {rs : List Nat} {fuel : Nat} {listed : Array Bool} {a : Act} {w : World} (hr : Region.ready md ops listed = rs) (hne : rs ≠ [])
    (h : AllReadyT P md ops Q S tl fuel listed a w rs) : wpAnyT P md ops Q S tl (fuel + 1) listed a w := ⟨fun h0 => absurd (hr ▸ h0) hne, hr ▸ h⟩
/-- The tail alone is left: S is asked no more. -/
theorem wpAnyT_tail : ∀ (fuel : Nat) (listed : Array Bool) (a : Act) (w : World), (∀ j, listed.getD j true = false → j ∈ tl) → wpAny P md ops Q fuel listed a w → wpAnyT P md ops Q S tl fuel listed a w
  | 0, _, _, _, _, h => h
  | fuel + 1, listed, a, w, hl, h => ⟨h.1, fun i hi => wpOp_mono (fun a' w' h' => ⟨fun _ hn => absurd (hl i (mem_ready.1 hi).1) hn, wpAnyT_tail fuel _ a' w' (fun j hj => hl j (by
      by_cases hij : i = j
      · subst hij; exact (mem_ready.1 hi).1
      · rw [getD_set_ne true hij] at hj; exact hj)) h'⟩) (h.2 i hi)⟩
theorem tail_all {listed : Array Bool} (h : ((List.range listed.size).all fun j => listed.getD j true || tl.contains j) = true) : ∀ j, listed.getD j true = false → j ∈ tl := fun j hj => by
  rcases Nat.lt_or_ge j listed.size with h' | h'
  · have := List.all_eq_true.1 h j (List.mem_range.2 h')
    rw [hj] at this
    simpa using this
  · simp [Array.getElem?_eq_none h'] at hj
theorem wp_region_tail {id : Nat} {a : Act} {w : World} (hm : P.follows .mixedOrders = true)
    (h : wpAnyT P .any ops Q S tl ops.size (Array.replicate ops.size false) a w.drew) : (Code.region id ops true).wp P Q a w :=
  wp_region_any hm (wpAny_of_tail _ _ _ _ h)
end
end Go.Proofs.YtpmcnonmkghokaaGreatDoor

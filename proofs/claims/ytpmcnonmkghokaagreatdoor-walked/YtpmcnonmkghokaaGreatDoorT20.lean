/-
  Names: the first wrong one of the program, by its table, and that of the reference, by looking each time, are the same.
  Names: the first wrong one of the program and that of the reference are the same place.
-/
import Derived.Test.YtpmcnonmkghokaaGreatDoorT19
set_option linter.unusedVariables false
set_option linter.unusedSimpArgs false
namespace Go.Proofs.YtpmcnonmkghokaaGreatDoor
open Go.RowKit
def entS (s : PSet) : List (Tok × Ent) := [(s.name, ⟨1, 0, bE, noVar⟩)]
def entK (k : PKind) : List (Tok × Ent) := (k.name, ⟨2, 0, bE, noVar⟩) :: k.members.map (fun x => (x, ⟨3, 0, k.name.text, noVar⟩))
def entVr (v : VrT) : List (Tok × Ent) := [(v.name, ⟨4, 0, bE, v⟩)]
def entRu (r : PRule) : List (Tok × Ent) := [(r.name, ⟨5, 0, bE, noVar⟩)]
def entNv (r : PRule) : List (Tok × Ent) := [(r.name, ⟨6, 0, bE, noVar⟩)]
def globE (m : MdL) : List (Tok × Ent) := m.sets.flatMap entS ++ (m.kinds.flatMap entK ++ (m.vars.flatMap entVr ++ (m.rules.flatMap entRu ++ m.nevers.flatMap entNv)))
def giveE (t : Tab) (x : Tok × Ent) : Tab := giveT t x.1 x.2
theorem foldl_flat {α β γ : Type} (f : α → List β) (g : γ → β → γ) : ∀ (l : List α) (c : γ), (l.flatMap f).foldl g c = l.foldl (fun c x => (f x).foldl g c) c
 | [], c => rfl
 | x :: l, c => by rw [List.flatMap_cons, List.foldl_append, List.foldl_cons, foldl_flat f g l]
theorem gather_fold (m : MdL) : gatherT m = (globE m).foldl giveE [] := by
 unfold gatherT gt4 gt3 gt2 gt1 globE
 rw [List.foldl_append, List.foldl_append, List.foldl_append, List.foldl_append, foldl_flat, foldl_flat, foldl_flat, foldl_flat, foldl_flat]
 have e : (fun (c : Tab) (k : PKind) => (entK k).foldl giveE c) = gK := by
  funext c k
  unfold entK gK
  rw [List.foldl_cons, List.foldl_map]
  rfl
 rw [e]
 rfl
def findE (l : List (Tok × Ent)) (s : List UInt8) : Ent := match l.find? (fun x => x.1.text.toList == s) with | none => noEnt | some x => { x.2 with place := x.1.at_ }

theorem look_app {s : List UInt8} {u : Tab} : ∀ {t : Tab}, (lookT t s).role ≠ 0 → lookT (t ++ u) s = lookT t s
 | [], h => (h rfl).elim
 | x :: l, h => by
  rw [List.cons_append, lookT, lookT]
  rw [lookT] at h
  split
  ·rfl
  ·rename_i hx; rw [if_neg hx] at h; exact look_app h
theorem look_app0 {s : List UInt8} {u : Tab} : ∀ {t : Tab}, TabOk t → (lookT t s).role = 0 → lookT (t ++ u) s = lookT u s ∧ lookT t s = noEnt
 | [], _, _ => ⟨rfl, rfl⟩
 | x :: l, ht, h => by
  rw [List.cons_append, lookT, lookT]
  rw [lookT] at h
  split
  ·rename_i hx
   rw [if_pos hx] at h
   have := ht x (List.mem_cons_self ..)
   omega
  ·rename_i hx
   rw [if_neg hx] at h
   exact look_app0 (fun y hy => ht y (List.mem_cons_of_mem _ hy)) h
theorem look_give {t : Tab} (ht : TabOk t) (n : Tok) (e : Ent) (s : List UInt8) : lookT (giveT t n e) s = if (lookT t s).role = 0 ∧ n.text.toList = s then { e with place := n.at_ } else lookT t s := by
 unfold giveT
 by_cases h0 : (lookT t n.text.toList).role = 0
 ·rw [if_pos (by rw [beq_iff_eq]; exact h0)]
  by_cases h1 : (lookT t s).role = 0
  ·obtain ⟨a, b⟩ := look_app0 (u := [(n.text, { e with place := n.at_ })]) ht h1
   rw [a]
   by_cases h2 : n.text.toList = s
   ·rw [if_pos ⟨h1, h2⟩, lookT, if_pos (by rw [beq_iff_eq]; exact h2)]
   ·rw [if_neg (fun h => h2 h.2), lookT, if_neg (by rw [beq_iff_eq]; exact h2), b]; rfl
  ·rw [look_app h1, if_neg (fun h => h1 h.1)]
 ·rw [if_neg (by rw [beq_iff_eq]; exact h0), if_neg]
  rintro ⟨h1, rfl⟩
  exact h0 h1
theorem look_fold {s : List UInt8} : ∀ (l : List (Tok × Ent)) (t : Tab), TabOk t → (∀ x ∈ l, 1 ≤ x.2.role) → lookT (l.foldl giveE t) s = if (lookT t s).role = 0 then findE l s else lookT t s
 | [], t, ht, _ => by
  split
  ·rename_i h; exact (look_app0 (u := []) ht h).2
  ·rfl
 | x :: l, t, ht, hl => by
  rw [List.foldl_cons, look_fold l (giveE t x) (giveT_ok ht (hl x (List.mem_cons_self ..))) (fun y hy => hl y (List.mem_cons_of_mem _ hy))]
  have hg := look_give ht x.1 x.2 s
  have he : lookT (giveE t x) s = lookT (giveT t x.1 x.2) s := rfl
  rw [he]
  have hr := hl x (List.mem_cons_self ..)
  by_cases h0 : (lookT t s).role = 0
  ·rw [if_pos h0]
   by_cases h1 : x.1.text.toList = s
   ·rw [if_pos ⟨h0, h1⟩] at hg
    rw [hg, if_neg (by show ¬ x.2.role = 0; omega)]
    unfold findE
    rw [List.find?_cons, show (x.1.text.toList == s) = true by rw [beq_iff_eq]; exact h1]
   ·rw [if_neg (fun h => h1 h.2)] at hg
    rw [hg, if_pos h0]
    unfold findE
    rw [List.find?_cons, show (x.1.text.toList == s) = false by rw [beq_eq_false_iff_ne]; exact h1]
  ·rw [if_neg (fun h => h0 h.1)] at hg
   rw [hg, if_neg h0, if_neg h0]
theorem globE_role (m : MdL) : ∀ x ∈ globE m, (x.2.role = 1 ∧ ∃ q ∈ m.sets, x.1 = q.name) ∨ (x.2.role = 2 ∧ ∃ k ∈ m.kinds, x.1 = k.name) ∨ (x.2.role = 3 ∧ ∃ k ∈ m.kinds, x.1 ∈ k.members ∧ x.2.kind = k.name.text) ∨
  (x.2.role = 4 ∧ ∃ v ∈ m.vars, x.1 = v.name ∧ x.2.var = v) ∨ (x.2.role = 5 ∧ ∃ r ∈ m.rules, x.1 = r.name) ∨ (x.2.role = 6 ∧ ∃ r ∈ m.nevers, x.1 = r.name) := by
 intro x hx
 unfold globE at hx
 simp only [List.mem_append, List.mem_flatMap] at hx
 rcases hx with ⟨q, hq, hx⟩ | ⟨q, hq, hx⟩ | ⟨q, hq, hx⟩ | ⟨q, hq, hx⟩ | ⟨q, hq, hx⟩
 ·unfold entS at hx; rw [List.mem_singleton] at hx; subst hx; exact Or.inl ⟨rfl, q, hq, rfl⟩
 ·unfold entK at hx
  rw [List.mem_cons, List.mem_map] at hx
  rcases hx with rfl | ⟨y, hy, rfl⟩
  ·exact Or.inr (Or.inl ⟨rfl, q, hq, rfl⟩)
  ·exact Or.inr (Or.inr (Or.inl ⟨rfl, q, hq, hy, rfl⟩))
 ·unfold entVr at hx; rw [List.mem_singleton] at hx; subst hx; exact Or.inr (Or.inr (Or.inr (Or.inl ⟨rfl, q, hq, rfl, rfl⟩)))
 ·unfold entRu at hx; rw [List.mem_singleton] at hx; subst hx; exact Or.inr (Or.inr (Or.inr (Or.inr (Or.inl ⟨rfl, q, hq, rfl⟩))))
 ·unfold entNv at hx; rw [List.mem_singleton] at hx; subst hx; exact Or.inr (Or.inr (Or.inr (Or.inr (Or.inr ⟨rfl, q, hq, rfl⟩))))
theorem globE_pos (m : MdL) : ∀ x ∈ globE m, 1 ≤ x.2.role := fun x hx => by
 rcases globE_role m x hx with h | h | h | h | h | h <;> have := h.1 <;> omega
theorem look_gather (m : MdL) (s : List UInt8) : lookT (gatherT m) s = findE (globE m) s := by
 rw [gather_fold, look_fold _ _ (fun x hx => by cases hx) (globE_pos m), if_pos (show (lookT [] s).role = 0 from rfl)]
theorem findE_cases (l : List (Tok × Ent)) (s : List UInt8) : (findE l s = noEnt ∧ ∀ x ∈ l, x.1.text.toList ≠ s) ∨
  ∃ j, ∃ hj : j < l.length, (l[j]).1.text.toList = s ∧ (∀ k (hk : k < j), (l[k]'(by omega)).1.text.toList ≠ s) ∧ findE l s = { (l[j]).2 with place := (l[j]).1.at_ } := by
 unfold findE
 cases hf : l.find? (fun x => x.1.text.toList == s) with
 | none =>
  refine Or.inl ⟨rfl, fun x hx => ?_⟩
  have := List.find?_eq_none.mp hf x hx
  simpa using this
 | some b =>
  obtain ⟨h1, i, hi, e, h2⟩ := List.find?_eq_some_iff_getElem.mp hf
  refine Or.inr ⟨i, hi, by rw [e]; simpa using h1, fun k hk => ?_, by rw [e]⟩
  have := h2 k hk
  simpa using this

theorem globE_toks (t : PTree) : (globE (mdOf t)).map (·.1) = globalsL t := by
 unfold globE globalsL glob3 glob2 glob1 mdOf
 have e1 : ∀ l : List PSet, (l.flatMap entS).map (·.1) = l.flatMap setN := fun l => by rw [List.map_flatMap]; rfl
 have e2 : ∀ l : List PKind, (l.flatMap entK).map (·.1) = l.flatMap kindN := fun l => by
  rw [List.map_flatMap]
  congr 1
  funext k
  unfold entK kindN
  rw [List.map_cons, List.map_map]
  congr 1
  exact List.map_id _
 have e3 : ∀ l : List PVar, ((l.map vrOf).flatMap entVr).map (·.1) = l.flatMap varN := fun l => by rw [List.flatMap_map, List.map_flatMap]; rfl
 have e4 : ∀ l : List PRule, (l.flatMap entRu).map (·.1) = l.flatMap ruleN := fun l => by rw [List.map_flatMap]; rfl
 have e5 : ∀ l : List PRule, (l.flatMap entNv).map (·.1) = l.flatMap ruleN := fun l => by rw [List.map_flatMap]; rfl
 simp only [List.map_append, e1, e2, e3, e4, e5, List.flatMap_append, List.append_assoc]
theorem globE_len (t : PTree) : (globE (mdOf t)).length = (globalsL t).length := by rw [← globE_toks, List.length_map]
theorem globE_at (t : PTree) {i : Nat} (hi : i < (globE (mdOf t)).length) : ((globE (mdOf t))[i]).1 = (globalsL t)[i]'(by rw [← globE_len]; exact hi) := by
 have : ((globE (mdOf t)).map (·.1))[i]'(by simpa using hi) = (globalsL t)[i]'(by rw [← globE_len]; exact hi) := by simp only [globE_toks]
 rw [← this, List.getElem_map]

theorem lookI_neg : ∀ (l : List ByteArray) (s : List UInt8), lookI l s < 0 ↔ ∀ x ∈ l, x.toList ≠ s
 | [], s => by simp [lookI]
 | x :: l, s => by
  rw [lookI]
  have ih := lookI_neg l s
  by_cases h : x.toList = s
  ·rw [if_pos (by rw [beq_iff_eq]; exact h)]
   constructor
   ·intro h0; omega
   ·intro h0; exact (h0 x (List.mem_cons_self ..) h).elim
  ·rw [if_neg (by rw [beq_iff_eq]; exact h)]
   constructor
   ·intro h0 y hy
    have h1 : lookI l s < 0 := by
     by_cases h1 : lookI l s < 0
     ·exact h1
     ·rw [if_neg h1] at h0; omega
    rcases List.mem_cons.mp hy with rfl | hy
    ·exact h
    ·exact ih.mp h1 y hy
   ·intro h0
    rw [if_pos (ih.mpr fun y hy => h0 y (List.mem_cons_of_mem _ hy))]
    omega
theorem lookI_pos {l : List ByteArray} {s : List UInt8} (h : 0 ≤ lookI l s) : ∃ hi : (lookI l s).toNat < l.length, (l[(lookI l s).toNat]).toList = s := by
 induction l with
 | nil => simp [lookI] at h
 | cons x l ih =>
  rw [lookI] at h
  by_cases hx : x.toList = s
  ·have e : lookI (x :: l) s = 0 := by rw [lookI, if_pos (by rw [beq_iff_eq]; exact hx)]
   rw [e]
   exact ⟨by simp, by simpa using hx⟩
  ·rw [if_neg (by rw [beq_iff_eq]; exact hx)] at h
   by_cases h1 : lookI l s < 0
   ·rw [if_pos h1] at h; omega
   ·have e : lookI (x :: l) s = lookI l s + 1 := by rw [lookI, if_neg (by rw [beq_iff_eq]; exact hx), if_neg h1]
    obtain ⟨hi, he⟩ := ih (by omega)
    rw [e]
    have e2 : (lookI l s + 1).toNat = (lookI l s).toNat + 1 := by omega
    refine ⟨by rw [e2]; simpa using hi, ?_⟩
    simp only [e2, List.getElem_cons_succ]
    exact he
theorem memI_neg : ∀ (l : List PKind) (s : List UInt8), (memI l s).1 < 0 ↔ ∀ k ∈ l, ∀ x ∈ k.members, x.text.toList ≠ s
 | [], s => by simp [memI]
 | k :: l, s => by
  have ih := memI_neg l s
  have h0 := lookI_neg (memTexts k) s
  have h0' : lookI (memTexts k) s < 0 ↔ ∀ x ∈ k.members, x.text.toList ≠ s := by
   rw [h0]; unfold memTexts
   simp
  rw [memI]
  by_cases h : 0 ≤ lookI (memTexts k) s
  ·rw [if_pos h]
   constructor
   ·intro h1; simp at h1
   ·intro h1
    have := h0'.mpr (h1 k (List.mem_cons_self ..))
    omega
  ·rw [if_neg h]
   have hk := h0'.mp (by omega)
   constructor
   ·intro h1 k' hk' x hx
    have h2 : (memI l s).1 < 0 := by
     by_cases h2 : (memI l s).1 < 0
     ·exact h2
     ·rw [if_neg h2] at h1; simp only at h1; omega
    rcases List.mem_cons.mp hk' with rfl | hk'
    ·exact hk x hx
    ·exact ih.mp h2 k' hk' x hx
   ·intro h1
    rw [if_pos (ih.mpr fun k' hk' => h1 k' (List.mem_cons_of_mem _ hk'))]
    simp
theorem memI_pos : ∀ {l : List PKind} {s : List UInt8}, 0 ≤ (memI l s).1 → ∃ hi : (memI l s).1.toNat < l.length, ∃ x ∈ (l[(memI l s).1.toNat]).members, x.text.toList = s
 | [], s, h => by simp [memI] at h
 | k :: l, s, h => by
  rw [memI] at h
  by_cases h0 : 0 ≤ lookI (memTexts k) s
  ·have e : (memI (k :: l) s).1 = 0 := by rw [memI, if_pos h0]
   obtain ⟨hi, he⟩ := lookI_pos h0
   rw [e]
   refine ⟨by simp, ?_⟩
   unfold memTexts at hi he
   rw [List.getElem_map] at he
   exact ⟨_, List.getElem_mem (by simpa using hi), by simpa using he⟩
  ·rw [if_neg h0] at h
   by_cases h1 : (memI l s).1 < 0
   ·rw [if_pos h1] at h; simp at h
   ·have e : (memI (k :: l) s).1 = (memI l s).1 + 1 := by rw [memI, if_neg h0, if_neg h1]
    obtain ⟨hi, x, hx, he⟩ := memI_pos (l := l) (s := s) (by omega)
    rw [e]
    have e2 : ((memI l s).1 + 1).toNat = (memI l s).1.toNat + 1 := by omega
    refine ⟨by rw [e2]; simpa using hi, x, ?_, he⟩
    simp only [e2, List.getElem_cons_succ]
    exact hx
theorem fpB_iff (l : List PP) (s : List UInt8) : fpB l s = true ↔ ∃ p ∈ l, p.name.text.toList = s := by
 unfold fpB; rw [List.any_eq_true]; simp
theorem parI_neg (l : List PP) (s : List UInt8) : lookI (parTexts l) s < 0 ↔ fpB l s = false := by
 rw [lookI_neg]
 unfold parTexts
 cases h : fpB l s
 ·simp only [iff_true]
  intro x hx e
  rw [List.mem_map] at hx
  obtain ⟨p, hp, rfl⟩ := hx
  have := (fpB_iff l s).mpr ⟨p, hp, e⟩
  rw [h] at this; cases this
 ·obtain ⟨p, hp, e⟩ := (fpB_iff l s).mp h
  simp only [Bool.true_eq_false, iff_false]
  intro h2
  exact h2 _ (List.mem_map_of_mem hp) e

theorem role_set (t : PTree) (s : List UInt8) : (lookT (gatherT (mdOf t)) s).role = 1 ↔ ¬ lookI (setTexts t) s < 0 := by
 rw [look_gather, lookI_neg]
 constructor
 ·intro h hno
  rcases findE_cases (globE (mdOf t)) s with ⟨e, _⟩ | ⟨j, hj, h1, h2, e⟩
  ·rw [e] at h; cases h
  ·rw [e] at h
   simp only at h
   rcases globE_role _ _ (List.getElem_mem hj) with g | g | g | g | g | g
   ·obtain ⟨_, q, hq, e1⟩ := g
    exact hno q.name.text (List.mem_map_of_mem hq) (by rw [← e1]; exact h1)
   all_goals (have := g.1; omega)
 ·intro h
  have : ∃ q ∈ t.sets, q.name.text.toList = s := by
   apply Classical.byContradiction
   intro h3
   apply h
   intro x hx
   unfold setTexts at hx
   rw [List.mem_map] at hx
   obtain ⟨q, hq, rfl⟩ := hx
   exact fun e => h3 ⟨q, hq, e⟩
  obtain ⟨q, hq, e⟩ := this
  unfold findE globE
  rw [List.find?_append]
  cases hf : (((mdOf t).sets.flatMap entS).find? (fun x => x.1.text.toList == s)) with
  | none =>
   have := List.find?_eq_none.mp hf (q.name, ⟨1, 0, bE, noVar⟩) (List.mem_flatMap.mpr ⟨q, hq, List.mem_singleton.mpr rfl⟩)
   simp only [beq_iff_eq] at this
   exact (this e).elim
  | some b =>
   have hb := List.mem_of_find?_eq_some hf
   rw [List.mem_flatMap] at hb
   obtain ⟨q2, _, hb⟩ := hb
   unfold entS at hb
   rw [List.mem_singleton] at hb
   subst hb
   rfl
theorem role_zero (t : PTree) (s : List UInt8) : (lookT (gatherT (mdOf t)) s).role = 0 ↔ ∀ x ∈ globalsL t, x.text.toList ≠ s := by
 rw [look_gather, ← globE_toks]
 rcases findE_cases (globE (mdOf t)) s with ⟨e, h⟩ | ⟨j, hj, h1, h2, e⟩
 ·rw [e]
  refine ⟨fun _ x hx => ?_, fun _ => rfl⟩
  rw [List.mem_map] at hx
  obtain ⟨y, hy, rfl⟩ := hx
  exact h y hy
 ·rw [e]
  have := globE_pos _ _ (List.getElem_mem hj)
  constructor
  ·intro h0; simp only at h0; omega
  ·intro h0
   exact (h0 _ (List.mem_map_of_mem (List.getElem_mem hj)) h1).elim

end Go.Proofs.YtpmcnonmkghokaaGreatDoor
namespace Go.Proofs.YtpmcnonmkghokaaGreatDoor
open Go.RowKit
theorem namesP_well : ∀ {x : PX}, XWell x → namesP x = namesL x
 | .nil, h => rfl
 | .node _ _ x a c, h => by
  have own : ownP x = ownNames x := by
   unfold ownP ownNames ownPl
   by_cases hp : x.op.toList = [112, 108, 97, 99, 101]
   ·have hop : (x.op.toList == [112, 108, 97, 99, 101]) = true := by rw [beq_iff_eq]; exact hp
    simp only [hop, if_true]
    have hi : x.index = noTok ∨ (x.index.kind.toList == [110, 97, 109, 101]) = true := by
     rcases h with ⟨h1, _⟩ | ⟨h1, _⟩ | ⟨h1, _⟩
     ·rcases h1 with (h1 | h1 | h1) | ⟨h1, _⟩ | ⟨_, _, h1⟩
      ·rw [hp] at h1; cases h1
      ·rw [hp] at h1; cases h1
      ·rw [hp] at h1; cases h1
      ·rw [hp] at h1; cases h1
      ·exact h1
     ·rw [hp] at h1; cases h1
     ·rw [hp] at h1; exact absurd h1 (by decide)
    rcases hi with hi | hi
    ·rw [hi, noTok_kind]; rfl
    ·rw [beq_iff_eq] at hi
     rw [hi]; rfl
   ·have hop : (x.op.toList == [112, 108, 97, 99, 101]) = false := by rw [beq_eq_false_iff_ne]; exact hp
    simp only [hop]
    rfl
  rw [namesP, namesL, own]
  rcases h with ⟨_, rfl, rfl⟩ | ⟨_, h2, rfl⟩ | ⟨_, h2, h3⟩
  ·rfl
  ·rw [namesP_well h2]; rfl
  ·rw [namesP_well h2, namesP_well h3]
theorem namesB_well : ∀ {b : PB}, BWell b → namesB b = insideL b
 | .nil, _ => rfl
 | .node _ _ a .nil n, ⟨⟨h1, x, hx, ho⟩, h2, h3, h4⟩ => by
  rw [namesB, insideL, namesB_well h4, labNames, h3, namesP_well h2]
  have e : plNm a.place = namesL a.place := by
   have w := namesP_well h1
   rw [hx] at w ⊢
   rw [← w]
   show ownPl x.name x.index = (ownP x ++ []) ++ []
   unfold ownP
   rw [if_pos (by rw [beq_iff_eq]; exact ho)]
   simp
  rw [e, show namesL (Go.Deep.BT.nil : PX) = [] from rfl, List.append_nil]
 | .node _ _ a (.node _ _ _ t e) n, ⟨h1, h2, h3, h4, h5, h6⟩ => by
  rw [namesB, insideL, namesB_well h4.1, namesB_well h5.1, namesB_well h6, labNames, h2, h3, namesP_well h1]
  rfl

def fS (tab : Tab) (s : PSet) : List Tok := flagB (givenC tab s.name) s.name
def fM (tab : Tab) (m : Tok) : List Tok := flagB (givenC tab m) m
def fK (tab : Tab) (k : PKind) : List Tok := flagB (givenC tab k.name) k.name ++ k.members.flatMap (fM tab)
def fV (tab : Tab) (v : VrT) : List Tok := flagB (givenC tab v.name) v.name ++ (flagB (v.arr && setC tab v.over) v.over ++ flagB ((v.si.form == 2) && sokC tab v.si.name) v.si.name)
def fE (tab : Tab) (l : List PP) (i : Nat) (p : PP) : List Tok := flagB (entC tab l i p) p.name ++ flagB (setC tab p.set_) p.set_
def fU (tab : Tab) (l : List PP) (n : Tok) : List Tok := flagB (valC tab l n) n
def fN (tab : Tab) (r : PRule) : List Tok := (flagB (givenC tab r.name) r.name ++ flagAt (fE tab r.params) r.params 0) ++ (namesP r.guard).flatMap (fU tab r.params)
def fR (tab : Tab) (r : PRule) : List Tok := fN tab r ++ (namesB r.body).flatMap (fU tab r.params)
theorem wrong_note (tab : Tab) (m : MdL) : wrongI tab m = noteL (-1) ((((m.sets.flatMap (fS tab) ++ m.kinds.flatMap (fK tab)) ++ m.vars.flatMap (fV tab)) ++ m.rules.flatMap (fR tab)) ++ m.nevers.flatMap (fN tab)) := by
 have g0 : (-1 : Int) ≤ -1 := by omega
 have val : ∀ (l : List PP) (ns : List Tok) (a : Int), -1 ≤ a → ns.foldl (valN tab l) a = noteL a (ns.flatMap (fU tab l)) := fun l ns a ha => foldl_note (f := valN tab l) (g := fU tab l) (fun a x _ => noteIf_note _ _ _) ns a ha
 have nev : ∀ (a : Int) (r : PRule), -1 ≤ a → wN tab a r = noteL a (fN tab r) := fun a r ha => by
  unfold wN fN
  rw [noteL_app, noteL_app, noteIf_note]
  have g1 := noteL_ge (flagB (givenC tab r.name) r.name) ha
  rw [foldAt_note (g := fE tab r.params) (fun a i x _ => by unfold entF fE; rw [noteIf_note, noteIf_note, noteL_app]) _ _ _ g1]
  exact val _ _ _ (noteL_ge _ g1)
 have e1 : wt1 tab m = noteL (-1) (m.sets.flatMap (fS tab)) := foldl_note (fun a x _ => by unfold wS fS; exact noteIf_note _ _ _) _ _ g0
 have e2 : wt2 tab m = noteL (-1) (m.sets.flatMap (fS tab) ++ m.kinds.flatMap (fK tab)) := by
  unfold wt2
  rw [e1, noteL_app]
  exact foldl_note (fun a x ha => by
   unfold wK fK
   rw [noteIf_note, noteL_app]
   exact foldl_note (fun a x _ => by unfold wM fM; exact noteIf_note _ _ _) _ _ (noteL_ge _ ha)) _ _ (noteL_ge _ g0)
 have e3 : wt3 tab m = noteL (-1) ((m.sets.flatMap (fS tab) ++ m.kinds.flatMap (fK tab)) ++ m.vars.flatMap (fV tab)) := by
  unfold wt3
  rw [e2]
  refine Eq.trans ?_ (noteL_app _ _ _).symm
  exact foldl_note (fun a x ha => by
   unfold wV vtyN fV
   rw [noteL_app, noteL_app, noteIf_note, noteIf_note, noteIf_note]
   cases hf : (x.si.form == 2)
   ·rw [if_neg (by simp)]; rfl
   ·rw [if_pos rfl]; rfl) _ _ (noteL_ge _ g0)
 have e4 : wt4 tab m = noteL (-1) (((m.sets.flatMap (fS tab) ++ m.kinds.flatMap (fK tab)) ++ m.vars.flatMap (fV tab)) ++ m.rules.flatMap (fR tab)) := by
  unfold wt4
  rw [e3]
  refine Eq.trans ?_ (noteL_app _ _ _).symm
  exact foldl_note (fun a x ha => by
   unfold fR
   rw [noteL_app, ← nev a x ha]
   have g := noteL_ge (fN tab x) ha
   rw [← nev a x ha] at g
   exact val _ _ _ g) _ _ (noteL_ge _ g0)
 unfold wrongI
 rw [e4]
 refine Eq.trans ?_ (noteL_app _ _ _).symm
 exact foldl_note nev _ _ (noteL_ge _ g0)

def dG (g : List Tok) (i : Nat) (x : Tok) : List Tok := flagAt (fun _ y => flagB (y.text.toList == x.text.toList) x) (g.take i) 0
def dP (g : List Tok) (ps : List PP) (k : Nat) (p : PP) : List Tok := flagAt (fun _ y => flagB (y.text.toList == p.name.text.toList) p.name) g 0 ++ flagAt (fun _ q => flagB (q.name.text.toList == p.name.text.toList) p.name) (ps.take k) 0
def dR (g : List Tok) (_ : Nat) (r : PRule) : List Tok := flagAt (dP g r.params) r.params 0
def uV (t : PTree) (_ : Nat) (v : PVar) : List Tok := flagB ((v.over.kind.toList == [110, 97, 109, 101]) && decide (lookI (setTexts t) v.over.text.toList < 0)) v.over ++
 flagB ((v.type_.kind.toList == [110, 97, 109, 101]) && decide (lookI (setTexts t) v.type_.text.toList < 0) && decide (lookI (kindTexts t) v.type_.text.toList < 0)) v.type_
def uP (t : PTree) (_ : Nat) (p : PP) : List Tok := flagB (decide (lookI (setTexts t) p.set_.text.toList < 0)) p.set_
def uN (t : PTree) (ps : List PP) (_ : Nat) (n : Tok) : List Tok := flagB (!knownB t ps n.text.toList) n
def uR (t : PTree) (_ : Nat) (r : PRule) : List Tok := flagAt (uP t) r.params 0 ++ flagAt (uN t r.params) (namesL r.guard ++ insideL r.body) 0
theorem given_note (t : PTree) : givenI t = noteL (-1) (flagAt (dG (globalsL t)) (globalsL t) 0 ++ flagAt (dR (globalsL t)) (t.rules ++ t.nevers) 0) := by
 have g0 : (-1 : Int) ≤ -1 := by omega
 have sm : ∀ (x : Tok) (l : List Tok) (a : Int), -1 ≤ a → foldAt (sameG x) l 0 a = noteL a (flagAt (fun _ y => flagB (y.text.toList == x.text.toList) x) l 0) := fun x l a ha => foldAt_note (fun a i y _ => by
  unfold sameG flagB; cases (y.text.toList == x.text.toList) <;> rfl) _ _ _ ha
 have sp : ∀ (x : Tok) (l : List PP) (a : Int), -1 ≤ a → foldAt (sameP x) l 0 a = noteL a (flagAt (fun _ q => flagB (q.name.text.toList == x.text.toList) x) l 0) := fun x l a ha => foldAt_note (fun a i q _ => by
  unfold sameP flagB; cases (q.name.text.toList == x.text.toList) <;> rfl) _ _ _ ha
 unfold givenI
 rw [noteL_app, foldAt_note (f := giveG (globalsL t)) (g := dG (globalsL t)) (fun a i x ha => by unfold giveG dG; exact sm _ _ _ ha) _ _ _ g0]
 exact foldAt_note (fun a i r ha => by
  unfold giveR dR
  exact foldAt_note (fun a k p ha => by unfold giveP dP; rw [noteL_app, sm _ _ _ ha]; exact sp _ _ _ (noteL_ge _ ha)) _ _ _ ha) _ _ _ (noteL_ge _ g0)
theorem used_note (t : PTree) : usedI t = noteL (-1) (flagAt (uV t) t.vars 0 ++ flagAt (uR t) (t.rules ++ t.nevers) 0) := by
 have g0 : (-1 : Int) ≤ -1 := by omega
 unfold usedI used1
 rw [noteL_app, foldAt_note (f := usedV t) (g := uV t) (fun a i x ha => by
  unfold usedV uV usedT usedO flagB
  rw [noteL_app]
  cases (x.over.kind.toList == [110, 97, 109, 101] && decide (lookI (setTexts t) x.over.text.toList < 0)) <;> cases (x.type_.kind.toList == [110, 97, 109, 101] && decide (lookI (setTexts t) x.type_.text.toList < 0) && decide (lookI (kindTexts t) x.type_.text.toList < 0)) <;> rfl) _ _ _ g0]
 exact foldAt_note (fun a i r ha => by
  unfold usedR uR
  rw [noteL_app, foldAt_note (f := usedP t) (g := uP t) (fun a i p _ => by
   unfold usedP uP flagB
   by_cases h : lookI (setTexts t) p.set_.text.toList < 0
   ·rw [if_pos h, if_pos (by simpa using h)]; rfl
   ·rw [if_neg h, if_neg (by simpa using h)]; rfl) _ _ _ ha]
  exact foldAt_note (fun a i n _ => by unfold usedN uN flagB; cases knownB t r.params n.text.toList <;> rfl) _ _ _ (noteL_ge _ ha)) _ _ _ (noteL_ge _ g0)

theorem flat_sub {α : Type} {f g : α → List Tok} (h : ∀ x, (f x).Sublist (g x)) : ∀ l : List α, (l.flatMap f).Sublist (l.flatMap g)
 | [] => List.Sublist.slnil
 | x :: l => by rw [List.flatMap_cons, List.flatMap_cons]; exact (h x).append (flat_sub h l)
theorem globals_sub (t : PTree) : (globalsL t).Sublist (treeAll t) := by
 unfold globalsL glob3 glob2 glob1 treeAll
 rw [List.flatMap_append, List.append_assoc, List.append_assoc]
 refine (List.Sublist.refl _).append ((List.Sublist.refl _).append ?_)
 refine (flat_sub (fun v => ?_) _).append ((flat_sub (fun r => ?_) _).append (flat_sub (fun r => ?_) _))
 ·exact (List.nil_sublist _).cons_cons _
 ·exact (List.nil_sublist _).cons_cons _
 ·exact (List.nil_sublist _).cons_cons _
structure TreeOrd (t : PTree) : Prop where
 glob : (globalsL t).Pairwise (fun a b => a.at_ < b.at_)
 kv : ∀ x ∈ t.kinds.flatMap kindN, ∀ y ∈ t.vars.flatMap varAll, x.at_ < y.at_
 kr : ∀ x ∈ t.kinds.flatMap kindN, ∀ r ∈ t.rules ++ t.nevers, ∀ y ∈ ruleAll r, x.at_ < y.at_
 vr : ∀ x ∈ t.vars.flatMap varAll, ∀ r ∈ t.rules ++ t.nevers, ∀ y ∈ ruleAll r, x.at_ < y.at_
theorem tree_ord {t : PTree} (h : (treeAll t).Pairwise (fun a b => a.at_ < b.at_)) : TreeOrd t := by
 have h' := h
 unfold treeAll at h'
 rw [List.pairwise_append, List.pairwise_append, List.pairwise_append] at h'
 obtain ⟨_, ⟨_, ⟨_, _, hvr⟩, hk⟩, _⟩ := h'
 have mem : ∀ r ∈ t.rules ++ t.nevers, ∀ y ∈ ruleAll r, y ∈ t.rules.flatMap ruleAll ++ t.nevers.flatMap ruleAll := fun r hr y hy => by
  rw [← List.flatMap_append]
  exact List.mem_flatMap.mpr ⟨r, hr, hy⟩
 exact ⟨h.sublist (globals_sub t), fun x hx y hy => hk x hx y (List.mem_append_left _ hy), fun x hx r hr y hy => hk x hx y (List.mem_append_right _ (mem r hr y hy)), fun x hx r hr y hy => hvr x hx y (mem r hr y hy)⟩

theorem mem_flagC {α : Type} {g : α → List Tok} {y : Tok} (l : List α) : y ∈ flagAt (fun _ => g) l 0 ↔ ∃ x ∈ l, y ∈ g x := by
 rw [mem_flagAt]
 constructor
 ·rintro ⟨i, hi, h⟩; exact ⟨_, List.getElem_mem hi, h⟩
 ·rintro ⟨x, hx, h⟩
  obtain ⟨i, hi, rfl⟩ := List.getElem_of_mem hx
  exact ⟨i, hi, h⟩
theorem mem_dG {g : List Tok} {y : Tok} : y ∈ flagAt (dG g) g 0 ↔ ∃ i, ∃ hi : i < g.length, y = g[i] ∧ ∃ j, ∃ hj : j < i, (g[j]'(by omega)).text.toList = (g[i]).text.toList := by
 rw [mem_flagAt]
 constructor
 ·rintro ⟨i, hi, h⟩
  unfold dG at h
  rw [Nat.zero_add, mem_flagAt] at h
  obtain ⟨j, hj, h⟩ := h
  rw [mem_flagB, beq_iff_eq, List.getElem_take] at h
  have hj' : j < i := by simp at hj; omega
  exact ⟨i, hi, h.2, j, hj', h.1⟩
 ·rintro ⟨i, hi, rfl, j, hj, e⟩
  refine ⟨i, hi, ?_⟩
  unfold dG
  rw [Nat.zero_add, mem_flagAt]
  refine ⟨j, by simp; omega, ?_⟩
  rw [mem_flagB, beq_iff_eq, List.getElem_take]
  exact ⟨e, rfl⟩

theorem given_iff {t : PTree} (ho : TreeOrd t) {i : Nat} (hi : i < (globalsL t).length) : givenC (gatherT (mdOf t)) (globalsL t)[i] = true ↔ ∃ j, ∃ hj : j < i, ((globalsL t)[j]'(by omega)).text.toList = ((globalsL t)[i]).text.toList := by
 have hi' : i < (globE (mdOf t)).length := by rw [globE_len]; exact hi
 unfold givenC
 rw [look_gather]
 rcases findE_cases (globE (mdOf t)) (globalsL t)[i].text.toList with ⟨_, h⟩ | ⟨j, hj, h1, h2, e⟩
 ·exact (h _ (List.getElem_mem hi') (by rw [globE_at])).elim
 ·rw [e]
  simp only
  have hj' : j < (globalsL t).length := by rw [← globE_len]; exact hj
  rw [globE_at t hj] at h1 ⊢
  have hle : j ≤ i := by
   apply Classical.byContradiction
   intro hc
   have := h2 i (by omega)
   rw [globE_at] at this
   exact this rfl
  constructor
  ·intro h
   refine ⟨j, ?_, h1⟩
   apply Classical.byContradiction
   intro hc
   have : j = i := by omega
   subst this
   simp at h
  ·rintro ⟨k, hk, e2⟩
   have : j < i := by
    apply Classical.byContradiction
    intro hc
    have := h2 k (by omega)
    rw [globE_at] at this
    exact this e2
   have := List.pairwise_iff_getElem.mp ho.glob j i (by omega) hi this
   simp only [Bool.not_eq_true', beq_eq_false_iff_ne]
   omega
theorem other_first {t : PTree} {x : Tok × Ent} (hx : x ∈ globE (mdOf t)) (hr : (lookT (gatherT (mdOf t)) x.1.text.toList).role ≠ x.2.role) : x.1 ∈ flagAt (dG (globalsL t)) (globalsL t) 0 := by
 obtain ⟨i, hi, rfl⟩ := List.getElem_of_mem hx
 rw [look_gather] at hr
 rcases findE_cases (globE (mdOf t)) (globE (mdOf t))[i].1.text.toList with ⟨_, h⟩ | ⟨j, hj, h1, h2, e⟩
 ·exact (h _ (List.getElem_mem hi) rfl).elim
 ·rw [e] at hr
  have hle : j ≤ i := by
   apply Classical.byContradiction
   intro hc
   exact h2 i (by omega) rfl
  have hne : j ≠ i := by rintro rfl; exact hr rfl
  rw [mem_dG]
  refine ⟨i, by rw [← globE_len]; exact hi, globE_at t hi, j, by omega, ?_⟩
  rw [← globE_at t hj, ← globE_at t hi]
  exact h1

theorem kindE_mem {t : PTree} {k : PKind} (hk : k ∈ t.kinds) : (k.name, (⟨2, 0, bE, noVar⟩ : Ent)) ∈ globE (mdOf t) := by
 unfold globE
 exact List.mem_append_right _ (List.mem_append_left _ (List.mem_flatMap.mpr ⟨k, hk, List.mem_cons_self ..⟩))
theorem memE_mem {t : PTree} {k : PKind} (hk : k ∈ t.kinds) {x : Tok} (hx : x ∈ k.members) : (x, (⟨3, 0, k.name.text, noVar⟩ : Ent)) ∈ globE (mdOf t) := by
 unfold globE
 exact List.mem_append_right _ (List.mem_append_left _ (List.mem_flatMap.mpr ⟨k, hk, List.mem_cons_of_mem _ (List.mem_map_of_mem (f := fun x => (x, (⟨3, 0, k.name.text, noVar⟩ : Ent))) hx)⟩))
theorem varE_mem {t : PTree} {v : PVar} (hv : v ∈ t.vars) : (v.name, (⟨4, 0, bE, vrOf v⟩ : Ent)) ∈ globE (mdOf t) := by
 unfold globE
 exact List.mem_append_right _ (List.mem_append_right _ (List.mem_append_left _ (List.mem_flatMap.mpr ⟨vrOf v, List.mem_map_of_mem hv, List.mem_singleton.mpr rfl⟩)))

theorem vr_form {v : PVar} (h : VarOk v) : ((vrOf v).si.form == 2) = (v.type_.kind.toList == [110, 97, 109, 101]) ∧ ((v.type_.kind.toList == [110, 97, 109, 101]) = true → (vrOf v).si.name = v.type_) := by
 obtain ⟨_, h1 | h1 | h1⟩ := h
 ·obtain ⟨a, b, c⟩ := h1
  unfold vrOf; simp only; rw [a, b]
  exact ⟨rfl, fun h => by cases h⟩
 ·obtain ⟨a, b, c, d⟩ := h1
  unfold vrOf; simp only; rw [a, b]
  exact ⟨rfl, fun h => by cases h⟩
 ·obtain ⟨a, c⟩ := h1
  unfold vrOf; simp only; rw [a]
  exact ⟨rfl, fun _ => rfl⟩
theorem vr_arr {v : PVar} (h : VarOk v) : (vrOf v).arr = (v.over.kind.toList == [110, 97, 109, 101]) := by
 obtain ⟨h1 | h1, _⟩ := h
 ·unfold vrOf; simp only; rw [h1, noTok_kind]; rfl
 ·unfold vrOf; simp only; rw [h1]; rw [beq_iff_eq] at h1; rw [h1]; rfl
theorem setC_iff (t : PTree) (n : Tok) : setC (gatherT (mdOf t)) n = decide (lookI (setTexts t) n.text.toList < 0) := by
 unfold setC
 by_cases h : lookI (setTexts t) n.text.toList < 0
 ·rw [decide_eq_true h]
  have : ¬ (lookT (gatherT (mdOf t)) n.text.toList).role = 1 := fun e => (role_set t _).mp e h
  simp [this]
 ·rw [decide_eq_false h, (role_set t _).mpr h]; rfl

theorem wrong_same {t : PTree} (hv : ∀ v ∈ t.vars, VarOk v) (hr : ∀ r ∈ t.rules, RuleOk r) (hn : ∀ r ∈ t.nevers, RuleOk r ∧ r.body = .nil) (ho : TreeOrd t) : wrongI (gatherT (mdOf t)) (mdOf t) = firstI (givenI t) (usedI t) := by
 rw [given_note, used_note, first_notes, wrong_note]
 have eall : ((((mdOf t).sets.flatMap (fS (gatherT (mdOf t))) ++ (mdOf t).kinds.flatMap (fK (gatherT (mdOf t)))) ++ (mdOf t).vars.flatMap (fV (gatherT (mdOf t)))) ++ (mdOf t).rules.flatMap (fR (gatherT (mdOf t)))) ++ (mdOf t).nevers.flatMap (fN (gatherT (mdOf t))) =
   ((t.sets.flatMap (fS (gatherT (mdOf t))) ++ t.kinds.flatMap (fK (gatherT (mdOf t)))) ++ (t.vars.map vrOf).flatMap (fV (gatherT (mdOf t)))) ++ (t.rules ++ t.nevers).flatMap (fR (gatherT (mdOf t))) := by
  rw [List.flatMap_append, ← List.append_assoc]
  congr 1
  show t.nevers.flatMap _ = t.nevers.flatMap _
  have : ∀ l : List PRule, (∀ r ∈ l, r.body = .nil) → l.flatMap (fN (gatherT (mdOf t))) = l.flatMap (fR (gatherT (mdOf t))) := by
   intro l
   induction l with
   | nil => intro _; rfl
   | cons r l ih =>
    intro h
    rw [List.flatMap_cons, List.flatMap_cons, ih fun r hr => h r (List.mem_cons_of_mem _ hr)]
    congr 1
    unfold fR
    rw [h r (List.mem_cons_self ..)]
    simp [namesB]
  exact this _ fun r hr => (hn r hr).2
 rw [eall]
 have hall : ∀ r ∈ t.rules ++ t.nevers, RuleOk r := fun r h => by
  rcases List.mem_append.mp h with h | h
  ·exact hr r h
  ·exact (hn r h).1
 -- a name that is given
 have gv : ∀ n ∈ globalsL t, givenC (gatherT (mdOf t)) n = true → n ∈ flagAt (dG (globalsL t)) (globalsL t) 0 := fun n hn hc => by
  obtain ⟨i, hi, rfl⟩ := List.getElem_of_mem hn
  obtain ⟨j, hj, e⟩ := (given_iff ho hi).mp hc
  rw [mem_dG]
  exact ⟨i, hi, rfl, j, hj, e⟩
 have inS : ∀ s ∈ t.sets, s.name ∈ globalsL t := fun s hs => by
  unfold globalsL glob3 glob2 glob1
  exact List.mem_append_left _ (List.mem_append_left _ (List.mem_append_left _ (List.mem_flatMap.mpr ⟨s, hs, List.mem_singleton.mpr rfl⟩)))
 have inK : ∀ k ∈ t.kinds, ∀ x ∈ kindN k, x ∈ globalsL t := fun k hk x hx => by
  unfold globalsL glob3 glob2
  exact List.mem_append_left _ (List.mem_append_left _ (List.mem_append_right _ (List.mem_flatMap.mpr ⟨k, hk, hx⟩)))
 have inV : ∀ v ∈ t.vars, v.name ∈ globalsL t := fun v hv => by
  unfold globalsL glob3
  exact List.mem_append_left _ (List.mem_append_right _ (List.mem_flatMap.mpr ⟨v, hv, List.mem_singleton.mpr rfl⟩))
 have inR : ∀ r ∈ t.rules ++ t.nevers, r.name ∈ globalsL t := fun r hr => by
  unfold globalsL
  exact List.mem_append_right _ (List.mem_flatMap.mpr ⟨r, hr, List.mem_singleton.mpr rfl⟩)
 have kN : ∀ k ∈ t.kinds, ∀ x ∈ kindN k, x ∈ t.kinds.flatMap kindN := fun k hk x hx => List.mem_flatMap.mpr ⟨k, hk, hx⟩
 apply noteL_eq
 ·intro x hx
  simp only [List.mem_append, List.mem_flatMap] at hx
  rcases hx with ((⟨s, hs, hx⟩ | ⟨k, hk, hx⟩) | ⟨v', hv', hx⟩) | ⟨r, hr', hx⟩
  ·unfold fS at hx
   rw [mem_flagB] at hx
   obtain ⟨hc, rfl⟩ := hx
   exact ⟨_, List.mem_append_left _ (List.mem_append_left _ (gv _ (inS s hs) hc)), Nat.le_refl _⟩
  ·unfold fK at hx
   rw [List.mem_append, mem_flagB, List.mem_flatMap] at hx
   rcases hx with ⟨hc, rfl⟩ | ⟨m, hm, hx⟩
   ·exact ⟨_, List.mem_append_left _ (List.mem_append_left _ (gv _ (inK k hk _ (List.mem_cons_self ..)) hc)), Nat.le_refl _⟩
   ·unfold fM at hx
    rw [mem_flagB] at hx
    obtain ⟨hc, rfl⟩ := hx
    exact ⟨_, List.mem_append_left _ (List.mem_append_left _ (gv _ (inK k hk _ (List.mem_cons_of_mem _ hm)) hc)), Nat.le_refl _⟩
  ·obtain ⟨v, hvm, rfl⟩ := List.mem_map.mp hv'
   have hok := hv v hvm
   unfold fV at hx
   rw [List.mem_append, List.mem_append, mem_flagB, mem_flagB, mem_flagB, Bool.and_eq_true, Bool.and_eq_true, vr_arr hok, setC_iff, (vr_form hok).1] at hx
   rcases hx with ⟨hc, rfl⟩ | ⟨⟨h1, h2⟩, rfl⟩ | ⟨⟨h1, h2⟩, rfl⟩
   ·exact ⟨_, List.mem_append_left _ (List.mem_append_left _ (gv _ (inV v hvm) hc)), Nat.le_refl _⟩
   ·refine ⟨v.over, List.mem_append_right _ (List.mem_append_left _ ?_), Nat.le_refl _⟩
    rw [mem_flagAt]
    obtain ⟨i, hi, rfl⟩ := List.getElem_of_mem hvm
    refine ⟨i, hi, ?_⟩
    unfold uV
    rw [List.mem_append, mem_flagB, Bool.and_eq_true]
    exact Or.inl ⟨⟨h1, h2⟩, rfl⟩
   ·rw [(vr_form hok).2 h1] at h2 ⊢
    unfold sokC at h2
    rw [Bool.and_eq_true, setC_iff] at h2
    by_cases hkd : lookI (kindTexts t) v.type_.text.toList < 0
    ·refine ⟨v.type_, List.mem_append_right _ (List.mem_append_left _ ?_), Nat.le_refl _⟩
     rw [mem_flagAt]
     obtain ⟨i, hi, rfl⟩ := List.getElem_of_mem hvm
     refine ⟨i, hi, ?_⟩
     unfold uV
     refine List.mem_append_right _ (mem_flagB.mpr ⟨?_, rfl⟩)
     rw [Bool.and_eq_true, Bool.and_eq_true]
     exact ⟨⟨h1, h2.2⟩, decide_eq_true hkd⟩
    ·obtain ⟨hi, he⟩ := lookI_pos (show 0 ≤ lookI (kindTexts t) v.type_.text.toList by omega)
     have hi' : (lookI (kindTexts t) v.type_.text.toList).toNat < t.kinds.length := by simpa [kindTexts] using hi
     have he' : (t.kinds[(lookI (kindTexts t) v.type_.text.toList).toNat]).name.text.toList = v.type_.text.toList := by
      have : (kindTexts t)[(lookI (kindTexts t) v.type_.text.toList).toNat] = (t.kinds[(lookI (kindTexts t) v.type_.text.toList).toNat]).name.text := by simp [kindTexts]
      rw [← this]; exact he
     have hk := List.getElem_mem hi'
     refine ⟨_, List.mem_append_left _ (List.mem_append_left _ (other_first (kindE_mem hk) ?_)), ?_⟩
     ·simp only
      rw [he']
      intro e
      rw [e] at h2
      simp at h2
     ·refine Nat.le_of_lt (ho.kv _ (kN _ hk _ (List.mem_cons_self ..)) _ (List.mem_flatMap.mpr ⟨v, hvm, ?_⟩))
      unfold varAll overN
      rw [h1]
      simp
  ·replace hr' : r ∈ t.rules ++ t.nevers := List.mem_append.mpr hr'
   have hok := hall r hr'
   unfold fR fN at hx
   rw [namesP_well hok.1, namesB_well hok.2.1] at hx
   simp only [List.mem_append, mem_flagB, mem_flagAt, List.mem_flatMap] at hx
   have use : ∀ n : Tok, (n ∈ namesL r.guard ∨ n ∈ insideL r.body) → x ∈ fU (gatherT (mdOf t)) r.params n → ∃ y ∈ (flagAt (dG (globalsL t)) (globalsL t) 0 ++ flagAt (dR (globalsL t)) (t.rules ++ t.nevers) 0) ++ (flagAt (uV t) t.vars 0 ++ flagAt (uR t) (t.rules ++ t.nevers) 0), y.at_ ≤ x.at_ := by
    intro n hnm hx
    have hmem : n ∈ ruleAll r := by
     unfold ruleAll
     refine List.mem_cons_of_mem _ (List.mem_append_right _ ?_)
     rcases hnm with h | h
     ·exact List.mem_append_left _ h
     ·exact List.mem_append_right _ h
    unfold fU at hx
    rw [mem_flagB] at hx
    obtain ⟨hc, rfl⟩ := hx
    unfold valC at hc
    simp only [Bool.and_eq_true, Bool.not_eq_true', beq_eq_false_iff_ne] at hc
    by_cases hkn : knownB t r.params x.text.toList = true
    ·unfold knownB at hkn
     simp only [Bool.or_eq_true, decide_eq_true_eq] at hkn
     rcases hkn with (h1 | h1) | h1
     ·obtain ⟨hi, y, hy, he⟩ := memI_pos h1
      have hk := List.getElem_mem hi
      refine ⟨y, List.mem_append_left _ (List.mem_append_left _ (other_first (memE_mem hk hy) ?_)), Nat.le_of_lt (ho.kr _ (kN _ hk _ (List.mem_cons_of_mem _ hy)) r hr' _ hmem)⟩
      simp only
      rw [he]; exact hc.1.2
     ·obtain ⟨hi, he⟩ := lookI_pos h1
      have hi' : (lookI (varTexts t) x.text.toList).toNat < t.vars.length := by simpa [varTexts] using hi
      have he' : (t.vars[(lookI (varTexts t) x.text.toList).toNat]).name.text.toList = x.text.toList := by
       have : (varTexts t)[(lookI (varTexts t) x.text.toList).toNat] = (t.vars[(lookI (varTexts t) x.text.toList).toNat]).name.text := by simp [varTexts]
       rw [← this]; exact he
      have hk := List.getElem_mem hi'
      refine ⟨_, List.mem_append_left _ (List.mem_append_left _ (other_first (varE_mem hk) ?_)), Nat.le_of_lt (ho.vr _ (List.mem_flatMap.mpr ⟨_, hk, List.mem_cons_self ..⟩) r hr' _ hmem)⟩
      simp only
      rw [he']; exact hc.2
     ·have := (parI_neg r.params x.text.toList).mpr hc.1.1
      omega
    ·refine ⟨x, List.mem_append_right _ (List.mem_append_right _ ?_), Nat.le_refl _⟩
     rw [mem_flagAt]
     obtain ⟨i, hi, rfl⟩ := List.getElem_of_mem hr'
     refine ⟨i, hi, ?_⟩
     unfold uR
     rw [List.mem_append]
     right
     rw [mem_flagAt]
     obtain ⟨j, hj, rfl⟩ := List.getElem_of_mem (show x ∈ namesL (t.rules ++ t.nevers)[i].guard ++ insideL (t.rules ++ t.nevers)[i].body from List.mem_append.mpr hnm)
     refine ⟨j, hj, ?_⟩
     unfold uN
     rw [mem_flagB]
     exact ⟨by simpa using hkn, rfl⟩
   rcases hx with ((⟨hc, rfl⟩ | ⟨k, hk, hx⟩) | ⟨n, hnm, hx⟩) | ⟨n, hnm, hx⟩
   ·exact ⟨_, List.mem_append_left _ (List.mem_append_left _ (gv _ (inR r hr') hc)), Nat.le_refl _⟩
   ·unfold fE at hx
    rw [List.mem_append, mem_flagB, mem_flagB, setC_iff, Nat.zero_add] at hx
    rcases hx with ⟨hc, rfl⟩ | ⟨hc, rfl⟩
    ·refine ⟨_, List.mem_append_left _ (List.mem_append_right _ ?_), Nat.le_refl _⟩
     rw [mem_flagAt]
     obtain ⟨i, hi, rfl⟩ := List.getElem_of_mem hr'
     refine ⟨i, hi, ?_⟩
     unfold dR
     rw [mem_flagAt]
     refine ⟨k, hk, ?_⟩
     unfold dP
     rw [List.mem_append, Nat.zero_add]
     unfold entC at hc
     rw [Bool.or_eq_true] at hc
     rcases hc with hc | hc
     ·right
      obtain ⟨p, hp, e⟩ := (fpB_iff _ _).mp hc
      rw [mem_flagC (g := fun q : PP => flagB (q.name.text.toList == _) _)]
      exact ⟨p, hp, by rw [mem_flagB, beq_iff_eq]; exact ⟨e, rfl⟩⟩
     ·left
      rw [mem_flagC (g := fun y : Tok => flagB (y.text.toList == _) _)]
      have : ¬ (lookT (gatherT (mdOf t)) (t.rules ++ t.nevers)[i].params[k].name.text.toList).role = 0 := by simpa using hc
      rw [role_zero] at this
      apply Classical.byContradiction
      intro h3
      apply this
      intro y hy e
      exact h3 ⟨y, hy, by rw [mem_flagB, beq_iff_eq]; exact ⟨e, rfl⟩⟩
    ·refine ⟨_, List.mem_append_right _ (List.mem_append_right _ ?_), Nat.le_refl _⟩
     rw [mem_flagAt]
     obtain ⟨i, hi, rfl⟩ := List.getElem_of_mem hr'
     refine ⟨i, hi, ?_⟩
     unfold uR
     rw [List.mem_append]
     left
     rw [mem_flagAt]
     exact ⟨k, hk, by unfold uP; rw [mem_flagB]; exact ⟨hc, rfl⟩⟩
   ·exact use n (Or.inl hnm) hx
   ·exact use n (Or.inr hnm) hx
 ·intro y hy
  refine ⟨y, ?_, Nat.le_refl _⟩
  simp only [List.mem_append] at hy
  rcases hy with (hy | hy) | (hy | hy)
  ·rw [mem_dG] at hy
   obtain ⟨i, hi, rfl, hj⟩ := hy
   have hc := (given_iff ho hi).mpr hj
   have hm := List.getElem_mem hi
   generalize (globalsL t)[i] = n at hc hm
   unfold globalsL glob3 glob2 glob1 at hm
   simp only [List.mem_append, List.mem_flatMap] at hm ⊢
   rcases hm with ((⟨s, hs, hm⟩ | ⟨k, hk, hm⟩) | ⟨v, hvm, hm⟩) | ⟨r, hrm, hm⟩
   ·unfold setN at hm; rw [List.mem_singleton] at hm; subst hm
    exact Or.inl (Or.inl (Or.inl ⟨s, hs, by unfold fS; rw [mem_flagB]; exact ⟨hc, rfl⟩⟩))
   ·unfold kindN at hm
    refine Or.inl (Or.inl (Or.inr ⟨k, hk, ?_⟩))
    unfold fK
    rw [List.mem_append, mem_flagB, List.mem_flatMap]
    rcases List.mem_cons.mp hm with rfl | hm
    ·exact Or.inl ⟨hc, rfl⟩
    ·exact Or.inr ⟨n, hm, by unfold fM; rw [mem_flagB]; exact ⟨hc, rfl⟩⟩
   ·unfold varN at hm; rw [List.mem_singleton] at hm; subst hm
    exact Or.inl (Or.inr ⟨vrOf v, List.mem_map_of_mem hvm, by unfold fV; rw [List.mem_append, mem_flagB]; exact Or.inl ⟨hc, rfl⟩⟩)
   ·unfold ruleN at hm; rw [List.mem_singleton] at hm; subst hm
    refine Or.inr ⟨r, hrm, ?_⟩
    unfold fR fN
    exact List.mem_append_left _ (List.mem_append_left _ (List.mem_append_left _ (mem_flagB.mpr ⟨hc, rfl⟩)))
  ·rw [mem_flagAt] at hy
   obtain ⟨i, hi, hy⟩ := hy
   unfold dR at hy
   rw [mem_flagAt] at hy
   obtain ⟨k, hk, hy⟩ := hy
   refine List.mem_append_right _ (List.mem_flatMap.mpr ⟨_, List.getElem_mem hi, ?_⟩)
   unfold fR fN
   simp only [List.mem_append]
   refine Or.inl (Or.inl (Or.inr ?_))
   rw [mem_flagAt]
   refine ⟨k, hk, ?_⟩
   unfold dP at hy
   unfold fE
   rw [List.mem_append, mem_flagB]
   rw [List.mem_append, Nat.zero_add, mem_flagC (g := fun y : Tok => flagB (y.text.toList == _) _), mem_flagC (g := fun q : PP => flagB (q.name.text.toList == _) _)] at hy
   rw [Nat.zero_add]
   rcases hy with ⟨z, hz, hy⟩ | ⟨q, hq, hy⟩
   ·rw [mem_flagB, beq_iff_eq] at hy
    refine Or.inl ⟨?_, hy.2⟩
    unfold entC
    have : ¬ (lookT (gatherT (mdOf t)) (t.rules ++ t.nevers)[i].params[k].name.text.toList).role = 0 := by
     rw [role_zero]
     intro h3
     exact h3 z hz hy.1
    simp [this]
   ·rw [mem_flagB, beq_iff_eq] at hy
    refine Or.inl ⟨?_, hy.2⟩
    unfold entC
    rw [(fpB_iff _ _).mpr ⟨q, hq, hy.1⟩]
    rfl
  ·rw [mem_flagAt] at hy
   obtain ⟨i, hi, hy⟩ := hy
   have hok := hv _ (List.getElem_mem hi)
   refine List.mem_append_left _ (List.mem_append_right _ (List.mem_flatMap.mpr ⟨_, List.mem_map_of_mem (List.getElem_mem hi), ?_⟩))
   unfold uV at hy
   unfold fV
   rw [List.mem_append, mem_flagB, mem_flagB] at hy
   rw [List.mem_append, List.mem_append, mem_flagB, mem_flagB, mem_flagB, vr_arr hok, setC_iff, (vr_form hok).1]
   rcases hy with ⟨h1, h2⟩ | ⟨h1, h2⟩
   ·exact Or.inr (Or.inl ⟨h1, h2⟩)
   ·rw [Bool.and_eq_true, Bool.and_eq_true] at h1
    refine Or.inr (Or.inr ⟨?_, by rw [(vr_form hok).2 h1.1.1]; exact h2⟩)
    rw [(vr_form hok).2 h1.1.1, h1.1.1, Bool.true_and]
    unfold sokC
    rw [setC_iff, h1.1.2, Bool.and_true]
    have hkd := h1.2
    rw [decide_eq_true_eq, lookI_neg] at hkd
    have : ¬ (lookT (gatherT (mdOf t)) t.vars[i].type_.text.toList).role = 2 := by
     intro e
     rw [look_gather] at e
     rcases findE_cases (globE (mdOf t)) t.vars[i].type_.text.toList with ⟨e2, _⟩ | ⟨j, hj, g1, g2, e2⟩
     ·rw [e2] at e; cases e
     ·rw [e2] at e
      simp only at e
      rcases globE_role _ _ (List.getElem_mem hj) with g | g | g | g | g | g
      ·have := g.1; omega
      ·obtain ⟨_, k, hk, ek⟩ := g
       exact hkd k.name.text (List.mem_map_of_mem (f := fun s : PKind => s.name.text) hk) (by rw [← ek]; exact g1)
      all_goals (have := g.1; omega)
    simp [this]
  ·rw [mem_flagAt] at hy
   obtain ⟨i, hi, hy⟩ := hy
   have hok := hall _ (List.getElem_mem hi)
   refine List.mem_append_right _ (List.mem_flatMap.mpr ⟨_, List.getElem_mem hi, ?_⟩)
   unfold uR at hy
   unfold fR fN
   rw [namesP_well hok.1, namesB_well hok.2.1]
   simp only [List.mem_append, List.mem_flatMap]
   rw [List.mem_append, mem_flagAt, mem_flagAt] at hy
   rcases hy with ⟨k, hk, hy⟩ | ⟨k, hk, hy⟩
   ·unfold uP at hy
    rw [mem_flagB] at hy
    refine Or.inl (Or.inl (Or.inr ?_))
    rw [mem_flagAt]
    refine ⟨k, hk, ?_⟩
    unfold fE
    rw [List.mem_append, mem_flagB, mem_flagB, setC_iff]
    exact Or.inr hy
   ·unfold uN at hy
    rw [mem_flagB] at hy
    have hm := List.getElem_mem hk
    obtain ⟨hun, rfl⟩ := hy
    generalize (namesL (t.rules ++ t.nevers)[i].guard ++ insideL (t.rules ++ t.nevers)[i].body)[k] = n at hun hm
    have hval : n ∈ fU (gatherT (mdOf t)) (t.rules ++ t.nevers)[i].params n := by
     unfold fU
     rw [mem_flagB]
     refine ⟨?_, rfl⟩
     unfold knownB at hun
     simp only [Bool.not_eq_true', Bool.or_eq_false_iff, decide_eq_false_iff_not] at hun
     obtain ⟨⟨h1, h2⟩, h3⟩ := hun
     unfold valC
     rw [(parI_neg _ _).mp (show _ < _ by omega)]
     have hmem := (memI_neg t.kinds n.text.toList).mp (by omega)
     have hvar := (lookI_neg (varTexts t) n.text.toList).mp (by omega)
     have : ¬ (lookT (gatherT (mdOf t)) n.text.toList).role = 3 ∧ ¬ (lookT (gatherT (mdOf t)) n.text.toList).role = 4 := by
      rw [look_gather]
      rcases findE_cases (globE (mdOf t)) n.text.toList with ⟨e2, _⟩ | ⟨j, hj, g1, g2, e2⟩
      ·rw [e2]; exact ⟨by decide, by decide⟩
      ·rw [e2]
       simp only
       rcases globE_role _ _ (List.getElem_mem hj) with g | g | g | g | g | g
       ·have := g.1; omega
       ·have := g.1; omega
       ·obtain ⟨_, k, hk, ek, _⟩ := g
        exact (hmem k hk _ ek g1).elim
       ·obtain ⟨_, v, hv, ek, _⟩ := g
        have hv2 : v ∈ t.vars.map vrOf := hv
        obtain ⟨v0, hv0, rfl⟩ := List.mem_map.mp hv2
        refine (hvar v0.name.text (List.mem_map_of_mem (f := fun s : PVar => s.name.text) hv0) ?_).elim
        rw [← g1, ek]; rfl
       ·have := g.1; omega
       ·have := g.1; omega
     simp [this.1, this.2]
    rcases List.mem_append.mp hm with hm | hm
    ·exact Or.inl (Or.inr ⟨n, hm, hval⟩)
    ·exact Or.inr ⟨n, hm, hval⟩

end Go.Proofs.YtpmcnonmkghokaaGreatDoor

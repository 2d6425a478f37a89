/-
  A model that was found right runs: expressions have values, of their types.
  A model that was found right runs: blocks, instances, views.
  A machine that fits: what Look and Walk tell of it.
  Expressions of a text are no greater than the text.
-/
import Derived.Test.YtpmcnonmkghokaaGreatDoorT23
import Derived.Test.YtpmcnonmkghokaaGreatDoorT21
set_option linter.unusedVariables false
set_option linter.unusedSimpArgs false
namespace Go.Proofs.YtpmcnonmkghokaaGreatDoor
open Go.RowKit
structure VIn (ksz ssz : List UInt8 → Nat) (B : Nat) (ty : VT) (x : Int) : Prop where
 tru : ty.fam = 1 → x = 0 ∨ x = 1
 num : ty.fam = 2 → -(B : Int) ≤ x ∧ x ≤ B
 kin : ty.fam = 3 → 0 ≤ x ∧ x < ksz ty.name.toList
 set : ty.fam = 4 → 0 ≤ x ∧ x ≤ ssz ty.name.toList
 non : ty.fam = 5 → x = 0
 fam : ty.fam = 1 ∨ ty.fam = 2 ∨ ty.fam = 3 ∨ ty.fam = 4 ∨ ty.fam = 5
structure MvOk (tab : Tab) (ksz ssz : List UInt8 → Nat) (size : Nat) (v : MVar) (d : VrT) : Prop where
 fit : v.first + v.count ≤ size
 cnt : v.count = if d.arr then ssz d.over.text.toList else 1
 pos : 1 ≤ v.count
 few : v.texts.length ≤ 200
 tru : (simT tab d.si).fam = 1 → v.texts.length = 2
 kin : (simT tab d.si).fam = 3 → v.texts.length = ksz (simT tab d.si).name.toList
 set : (simT tab d.si).fam = 4 → v.texts.length = ssz (simT tab d.si).name.toList + 1
structure EnvOk (tab : Tab) (vars : List MVar) (mt : MTab) (ksz ssz : List UInt8 → Nat) (size : Nat) : Prop where
 mem : ∀ s, (lookT tab s).role = 3 → (lookM mt s).isVar = false ∧ (lookM mt s).num < ksz (lookT tab s).kind.toList
 var : ∀ s, (lookT tab s).role = 4 → (lookM mt s).isVar = true ∧ ∃ v, vars[(lookM mt s).num]? = some v ∧ MvOk tab ksz ssz size v (lookT tab s).var
 arr : ∀ s, (lookT tab s).var.arr = true → (lookT tab s).role = 4
 kb : ∀ s, ksz s ≤ 1000
 sb : ∀ s, ssz s ≤ 1000
 size : size ≤ 1000
structure StOk (vars : List MVar) (size : Nat) (st : List Int) : Prop where
 len : st.length = size
 val : ∀ v ∈ vars, ∀ j, j < v.count → ∃ x, st[v.first + j]? = some x ∧ 0 ≤ x ∧ x < v.texts.length
structure ParOk (ssz : List UInt8 → Nat) (l : List PP) (ms : List Int) : Prop where
 len : ms.length = l.length
 val : ∀ i (hi : i < l.length) (hm : i < ms.length), 0 ≤ ms[i] ∧ ms[i] < ssz l[i].set_.text.toList
theorem small_some {x : Int} (h1 : -1000000000 ≤ x) (h2 : x ≤ 1000000000) : small x = some x := by
 unfold small
 rw [decide_eq_true h1, decide_eq_true h2]
 rfl
theorem fp_at : ∀ (l : List PP) (s : List UInt8), fpB l s = true → ∃ h : fpIx l s < l.length, l[fpIx l s] = fpP l s
 | [], s, h => by simp [fpB] at h
 | p :: l, s, h => by
  cases hp : (p.name.text.toList == s)
  ·have h2 : fpB l s = true := by unfold fpB at h ⊢; rw [List.any_cons, hp] at h; exact h
   obtain ⟨q1, q2⟩ := fp_at l s h2
   have e : fpIx (p :: l) s = fpIx l s + 1 := by rw [fpIx, hp]; rfl
   refine ⟨by rw [e]; simpa using q1, ?_⟩
   rw [fpP, hp]
   simp only [e, List.getElem_cons_succ]
   exact q2
  ·have e : fpIx (p :: l) s = 0 := by rw [fpIx, hp]; rfl
   refine ⟨by rw [e]; simp, ?_⟩
   rw [fpP, hp]
   simp only [e, List.getElem_cons_zero]
   rfl
theorem simF (tab : Tab) (x : SiT) : (simT tab x).fam = 1 ∨ (simT tab x).fam = 2 ∨ (simT tab x).fam = 3 ∨ (simT tab x).fam = 4 := by
 unfold simT
 split
 ·exact Or.inl rfl
 ·split
  ·exact Or.inr (Or.inl rfl)
  ·split
   ·exact Or.inr (Or.inr (Or.inr rfl))
   ·exact Or.inr (Or.inr (Or.inl rfl))
theorem mv_in {tab : Tab} {ksz ssz : List UInt8 → Nat} {size : Nat} {v : MVar} {d : VrT} (h : MvOk tab ksz ssz size v d) {x : Int} (h0 : 0 ≤ x) (h1 : x < v.texts.length) : VIn ksz ssz 200 (simT tab d.si) x := by
 have hf := h.few
 refine ⟨fun e => ?_, fun e => by omega, fun e => ?_, fun e => ?_, fun e => ?_, ?_⟩
 ·have := h.tru e; omega
 ·have := h.kin e; omega
 ·have := h.set e; omega
 ·rcases simF tab d.si with q | q | q | q <;> rw [q] at e <;> cases e
 ·rcases simF tab d.si with q | q | q | q
  ·exact Or.inl q
  ·exact Or.inr (Or.inl q)
  ·exact Or.inr (Or.inr (Or.inl q))
  ·exact Or.inr (Or.inr (Or.inr (Or.inl q)))
theorem VIn.mono {ksz ssz : List UInt8 → Nat} {B B' : Nat} {ty : VT} {x : Int} (h : VIn ksz ssz B ty x) (hb : B ≤ B') : VIn ksz ssz B' ty x :=
 ⟨h.tru, fun e => by have := h.num e; omega, h.kin, h.set, h.non, h.fam⟩
theorem VIn.small {ksz ssz : List UInt8 → Nat} {B : Nat} {ty : VT} {x : Int} (h : VIn ksz ssz B ty x) (hk : ∀ s, ksz s ≤ 1000) (hs : ∀ s, ssz s ≤ 1000) (hb : B ≤ 1000000) : -1000000 ≤ x ∧ x ≤ 1000000 := by
 rcases h.fam with e | e | e | e | e
 ·have := h.tru e; omega
 ·have := h.num e; omega
 ·have := h.kin e; have := hk ty.name.toList; omega
 ·have := h.set e; have := hs ty.name.toList; omega
 ·have := h.non e; omega
variable {tab : Tab} {vars : List MVar} {mt : MTab} {ksz ssz : List UInt8 → Nat} {size : Nat} {l : List PP} {ms st : List Int}
theorem sng_ok (he : EnvOk tab vars mt ksz ssz size) (hp : ParOk ssz l ms) (hs : StOk vars size st) (n : Tok) (ht : (singT tab l n).fam ≠ 0) : ∃ x, sngO vars mt l ms st n.text.toList = some x ∧ VIn ksz ssz 200 (singT tab l n) x := by
 cases hf : fpB l n.text.toList
 ·cases h3 : ((lookT tab n.text.toList).role == 3)
  ·cases h4 : ((lookT tab n.text.toList).role == 4 && !(lookT tab n.text.toList).var.arr)
   ·exact absurd (by unfold singT; rw [hf, h3, h4]; rfl) ht
   ·have hT : singT tab l n = simT tab (lookT tab n.text.toList).var.si := by unfold singT; rw [hf, h3, h4]; rfl
    rw [Bool.and_eq_true, beq_iff_eq, Bool.not_eq_true'] at h4
    obtain ⟨hv, v, hv1, hv2⟩ := he.var _ h4.1
    obtain ⟨x, hx, h0, h1⟩ := hs.val v (List.mem_of_getElem? hv1) 0 (by have := hv2.pos; omega)
    rw [Nat.add_zero] at hx
    have hfew := hv2.few
    refine ⟨x, ?_, by rw [hT]; exact mv_in hv2 h0 h1⟩
    unfold sngO
    rw [hf, hv, hv1]
    show (st[v.first]?).bind small = some x
    rw [hx]
    exact small_some (by omega) (by omega)
  ·have hT : singT tab l n = ⟨3, (lookT tab n.text.toList).kind⟩ := by unfold singT; rw [hf, h3]; rfl
   rw [beq_iff_eq] at h3
   obtain ⟨hv, hk⟩ := he.mem _ h3
   refine ⟨(lookM mt n.text.toList).num, by unfold sngO; rw [hf, hv]; rfl, ?_⟩
   rw [hT]
   exact ⟨fun e => by simp at e, fun e => by simp at e, fun _ => ⟨by omega, by show _ < ((ksz (lookT tab n.text.toList).kind.toList : Nat) : Int); omega⟩, fun e => by simp at e, fun e => by simp at e, by simp⟩
 ·have hT : singT tab l n = ⟨4, (fpP l n.text.toList).set_.text⟩ := by unfold singT; rw [hf]; rfl
  obtain ⟨q1, q2⟩ := fp_at l _ hf
  have hm : fpIx l n.text.toList < ms.length := by rw [hp.len]; exact q1
  obtain ⟨h0, h1⟩ := hp.val _ q1 hm
  rw [q2] at h1
  have hb := he.sb (fpP l n.text.toList).set_.text.toList
  refine ⟨ms[fpIx l n.text.toList] + 1, ?_, ?_⟩
  ·unfold sngO
   rw [hf, List.getElem?_eq_getElem hm]
   show (small ms[fpIx l n.text.toList]).map (· + 1) = _
   rw [small_some (by omega) (by omega)]
   rfl
  ·rw [hT]
   exact ⟨fun e => by simp at e, fun e => by simp at e, fun e => by simp at e, fun _ => ⟨by omega, by show _ ≤ ((ssz (fpP l n.text.toList).set_.text.toList : Nat) : Int); omega⟩, fun e => by simp at e, by simp⟩
theorem at_ok (he : EnvOk tab vars mt ksz ssz size) (hp : ParOk ssz l ms) (hs : StOk vars size st) (v : MVar) (d : VrT) (hv : MvOk tab ksz ssz size v d) (i : Tok) (hi : (i.kind.toList == []) = false → d.arr = true ∧ idxT tab l i d.over = true) : ∃ j w, atO vars mt l ms st v i = some ((v.first : Int) + (j : Nat), w) ∧ j < v.count := by
 unfold atO
 have hfit := hv.fit
 have hsz := he.size
 cases hk : (i.kind.toList == [])
 ·obtain ⟨ha, hx⟩ := hi hk
  rw [if_neg (by simp)]
  unfold idxT at hx
  rw [Bool.and_eq_true, beq_iff_eq, beq_iff_eq] at hx
  obtain ⟨x, h1, h2⟩ := sng_ok he hp hs i (by rw [hx.1]; decide)
  have hr := h2.set hx.1
  rw [hx.2] at hr
  have hc := hv.cnt
  rw [ha, if_pos rfl] at hc
  have hb := he.sb d.over.text.toList
  rw [h1]
  show ∃ j w, (if x == 0 then some ((v.first : Int), true) else (small x).bind fun _ => (small v.first).map fun _ => ((v.first : Int) + x - 1, false)) = some ((v.first : Int) + (j : Nat), w) ∧ j < v.count
  cases h0 : (x == 0)
  ·have hx0 : x ≠ 0 := by simpa using h0
   refine ⟨x.toNat - 1, false, ?_, by omega⟩
   rw [small_some (by omega) (by omega), small_some (by omega) (by omega)]
   show some ((v.first : Int) + x - 1, false) = _
   congr 2
   omega
  ·exact ⟨0, true, by simp, hv.pos⟩
 ·exact ⟨0, false, by simp, hv.pos⟩
theorem plv_ok (he : EnvOk tab vars mt ksz ssz size) (hp : ParOk ssz l ms) (hs : StOk vars size st) (n i : Tok) (ht : (tplT tab l n i).fam ≠ 0) : ∃ r, plvO vars mt l ms st n i = some r ∧ VIn ksz ssz 200 (tplT tab l n i) r.1 := by
 cases hk : (i.kind.toList == [])
 ·cases ha : (lookT tab n.text.toList).var.arr
  ·exact absurd (by unfold tplT; rw [hk, ha]; rfl) ht
  ·cases hx : idxT tab l i (lookT tab n.text.toList).var.over
   ·exact absurd (by unfold tplT; rw [hk, ha, hx]; rfl) ht
   ·have hT : tplT tab l n i = simT tab (lookT tab n.text.toList).var.si := by unfold tplT; rw [hk, ha, hx]; rfl
    obtain ⟨_, v, hv1, hv2⟩ := he.var _ (he.arr _ ha)
    obtain ⟨j, w, h1, h2⟩ := at_ok he hp hs v _ hv2 i (fun _ => ⟨ha, hx⟩)
    obtain ⟨x, hx1, hx2, hx3⟩ := hs.val v (List.mem_of_getElem? hv1) j h2
    have hfew := hv2.few
    refine ⟨(x, w), ?_, by rw [hT]; exact mv_in hv2 hx2 hx3⟩
    unfold plvO
    rw [hk, if_neg (by simp), hv1]
    show (atO vars mt l ms st v i).bind _ = _
    rw [h1]
    show (if (v.first : Int) + (j : Nat) < 0 then none else (st[((v.first : Int) + (j : Nat)).toNat]?).bind fun x => (small x).map fun y => (y, w)) = _
    rw [if_neg (by omega), show ((v.first : Int) + (j : Nat)).toNat = v.first + j by omega, hx1]
    show (small x).map _ = _
    rw [small_some (by omega) (by omega)]
    rfl
 ·have hT : tplT tab l n i = singT tab l n := by unfold tplT; rw [hk]; rfl
  rw [hT] at ht ⊢
  obtain ⟨x, h1, h2⟩ := sng_ok he hp hs n ht
  refine ⟨(x, false), ?_, h2⟩
  unfold plvO
  rw [hk, if_pos rfl, h1]
  rfl

def xnod : PX → Nat
 | .nil => 0
 | .node _ _ _ a c => xnod a + xnod c + 1
def NumX : PX → Prop
 | .nil => True
 | .node _ _ x a c => ((opN x.op.toList == 3) = true → 0 ≤ x.n ∧ x.n ≤ 9) ∧ NumX a ∧ NumX c
theorem truI_in (ksz ssz : List UInt8 → Nat) (B : Nat) (c : Bool) : VIn ksz ssz B ⟨1, ⟨#[]⟩⟩ (truI c) :=
 ⟨fun _ => by cases c; exact Or.inl rfl; exact Or.inr rfl, fun e => by simp at e, fun e => by simp at e, fun e => by simp at e, fun e => by simp at e, Or.inl rfl⟩
theorem makes_of {f : Int} {c : Bool} (h : (makesT f c).fam ≠ 0) : c = true ∧ makesT f c = ⟨f, ⟨#[]⟩⟩ := by
 unfold makesT at h ⊢
 cases c
 ·exact absurd rfl h
 ·exact ⟨rfl, rfl⟩
theorem ge_ite {c : Prop} [Decidable c] {a b : Int} (ha : 0 ≤ a) (hb : 0 ≤ b) : 0 ≤ if c then a else b := by split <;> assumption
theorem opN_ge (o : List UInt8) : 0 ≤ opN o := by
 unfold opN
 exact ge_ite (by decide) (ge_ite (by decide) (ge_ite (by decide) (ge_ite (by decide) (ge_ite (by decide) (ge_ite (by decide) (ge_ite (by decide) (ge_ite (by decide) (ge_ite (by decide) (ge_ite (by decide) (ge_ite (by decide) (ge_ite (by decide) (ge_ite (by decide) (by decide)))))))))))))
theorem bin_fams {o : Int} {x y : VT} (h : (binT o x y).fam ≠ 0) : x.fam ≠ 0 ∧ y.fam ≠ 0 ∧ ((o == 6 || o == 7) = true → (x.fam = 1 ∧ y.fam = 1) ∧ binT o x y = ⟨1, ⟨#[]⟩⟩) ∧ ((o == 6 || o == 7) = false → (o == 11 || o == 12) = true → (x.fam = 2 ∧ y.fam = 2) ∧ binT o x y = ⟨2, ⟨#[]⟩⟩) ∧ ((o == 6 || o == 7) = false → (o == 11 || o == 12) = false → binT o x y = ⟨1, ⟨#[]⟩⟩) := by
 unfold binT at h ⊢
 cases h6 : (o == 6 || o == 7)
 ·rw [h6] at h
  simp only [if_neg (show ¬ false = true by simp)] at h ⊢
  cases h11 : (o == 11 || o == 12)
  ·rw [h11] at h
   simp only [if_neg (show ¬ false = true by simp)] at h ⊢
   cases h10 : (o == 10)
   ·rw [h10] at h
    simp only [if_neg (show ¬ false = true by simp)] at h ⊢
    obtain ⟨hc, hm⟩ := makes_of h
    have hf : x.fam ≠ 0 ∧ y.fam ≠ 0 := by
     unfold canT sameT at hc
     simp only [Bool.or_eq_true, Bool.and_eq_true, beq_iff_eq, Bool.not_eq_true', beq_eq_false_iff_ne] at hc
     rcases hc with (((⟨⟨⟨h1, _⟩, h2⟩, _⟩) | ⟨h1, h2⟩) | ⟨h1, h2⟩)
     ·exact ⟨h2, by rw [← h1]; exact h2⟩
     ·exact ⟨by rw [h1]; decide, by rw [h2]; decide⟩
     ·exact ⟨by rw [h1]; decide, by rw [h2]; decide⟩
    exact ⟨hf.1, hf.2, (fun e => by cases e), (fun _ e => by cases e), fun _ _ => hm⟩
   ·rw [h10] at h
    simp only [if_pos rfl] at h ⊢
    obtain ⟨hc, hm⟩ := makes_of h
    rw [Bool.and_eq_true, beq_iff_eq, beq_iff_eq] at hc
    exact ⟨by rw [hc.1]; decide, by rw [hc.2]; decide, (fun e => by cases e), (fun _ e => by cases e), fun _ _ => hm⟩
  ·rw [h11] at h
   simp only [if_pos rfl] at h ⊢
   obtain ⟨hc, hm⟩ := makes_of h
   rw [Bool.and_eq_true, beq_iff_eq, beq_iff_eq] at hc
   exact ⟨by rw [hc.1]; decide, by rw [hc.2]; decide, (fun e => by cases e), (fun _ _ => ⟨hc, hm⟩), fun _ e => by cases e⟩
 ·rw [h6] at h
  simp only [if_pos rfl] at h ⊢
  obtain ⟨hc, hm⟩ := makes_of h
  rw [Bool.and_eq_true, beq_iff_eq, beq_iff_eq] at hc
  exact ⟨by rw [hc.1]; decide, by rw [hc.2]; decide, (fun _ => ⟨hc, hm⟩), (fun e => by cases e), fun e => by cases e⟩
theorem val_ok (he : EnvOk tab vars mt ksz ssz size) (hp : ParOk ssz l ms) (hs : StOk vars size st) : ∀ (x : PX), XFull x → NumX x → isNil x = false → xnod x ≤ 4000 → (typT tab l x).fam ≠ 0 → ∃ r, valO vars mt l ms st x = some r ∧ VIn ksz ssz (200 * xnod x) (typT tab l x) r.1
 | .nil, _, _, hn, _, _ => by cases hn
 | .node i j x a c, hx, hnum, hn, hsz, ht => by
  obtain ⟨⟨hxa, hxc⟩, hfa, hfc⟩ := hx
  obtain ⟨hn3, hna, hnc⟩ := hnum
  have hS : xnod (.node i j x a c) = xnod a + xnod c + 1 := rfl
  rw [hS] at hsz ⊢
  have iha := val_ok he hp hs a hfa hna
  have ihc := val_ok he hp hs c hfc hnc
  rw [typT] at ht ⊢
  rw [valO]
  have hop := opN_ge x.op.toList
  generalize opN x.op.toList = o at *
  cases h0 : (o == 0)
  ·cases h1 : (o == 1)
   ·cases h2 : (o == 2)
    ·cases h3 : (o == 3)
     ·cases h4 : (o == 4)
      ·cases h5 : (o == 5)
       ·
        have ho : 6 ≤ o := by
         have : o ≠ 0 ∧ o ≠ 1 ∧ o ≠ 2 ∧ o ≠ 3 ∧ o ≠ 4 ∧ o ≠ 5 := ⟨by simpa using h0, by simpa using h1, by simpa using h2, by simpa using h3, by simpa using h4, by simpa using h5⟩
         omega
        simp only [h0, h1, h2, h3, h4, h5, Bool.false_or, Bool.or_false, Bool.or_self, if_neg (show ¬ false = true by simp)] at ht ⊢
        obtain ⟨ga, gc, k1, k2, k3⟩ := bin_fams ht
        obtain ⟨p, hp1, hp2⟩ := iha (hxa (by omega)) (by omega) ga
        obtain ⟨q, hq1, hq2⟩ := ihc (hxc ho) (by omega) gc
        have sp := hp2.small he.kb he.sb (by omega)
        have sq := hq2.small he.kb he.sb (by omega)
        refine ⟨(joinI o p.1 q.1, p.2 || q.2), ?_, ?_⟩
        ·rw [hp1, hq1]
         show (small p.1).bind _ = _
         rw [small_some (by omega) (by omega)]
         show (small q.1).map _ = _
         rw [small_some (by omega) (by omega)]
         rfl
        ·show VIn ksz ssz (200 * (xnod a + xnod c + 1)) (binT o (typT tab l a) (typT tab l c)) (joinI o p.1 q.1)
         cases h6 : (o == 6 || o == 7)
         ·cases h11 : (o == 11 || o == 12)
          ·rw [k3 h6 h11]
           rw [Bool.or_eq_false_iff] at h6 h11
           unfold joinI
           rw [h6.1, h6.2, h11.1, h11.2]
           cases h10 : (o == 10)
           ·cases h9 : (o == 9)
            ·exact truI_in _ _ _ _
            ·exact truI_in _ _ _ _
           ·exact truI_in _ _ _ _
          ·obtain ⟨⟨e1, e2⟩, e3⟩ := k2 h6 h11
           rw [e3]
           have b1 := hp2.num e1
           have b2 := hq2.num e2
           rw [Bool.or_eq_false_iff] at h6
           have hj : joinI o p.1 q.1 = p.1 + q.1 ∨ joinI o p.1 q.1 = p.1 - q.1 := by
            unfold joinI
            rw [h6.1, h6.2]
            cases h12 : (o == 11)
            ·rw [h12, Bool.false_or] at h11
             rw [h11]; exact Or.inr rfl
            ·exact Or.inl rfl
           refine ⟨fun e => by simp at e, fun _ => ?_, fun e => by simp at e, fun e => by simp at e, fun e => by simp at e, Or.inr (Or.inl rfl)⟩
           rcases hj with e | e <;> rw [e] <;> constructor <;> omega
         ·obtain ⟨⟨e1, e2⟩, e3⟩ := k1 h6
          rw [e3]
          have b1 := hp2.tru e1
          have b2 := hq2.tru e2
          refine ⟨fun _ => ?_, fun e => by simp at e, fun e => by simp at e, fun e => by simp at e, fun e => by simp at e, Or.inl rfl⟩
          unfold joinI
          cases h66 : (o == 6)
          ·rw [h66, Bool.false_or] at h6
           rw [h6]
           show max p.1 q.1 = 0 ∨ max p.1 q.1 = 1
           omega
          ·show min p.1 q.1 = 0 ∨ min p.1 q.1 = 1
           omega
       ·
        have ho : o = 5 := by simpa using h5
        subst ho
        simp only [h0, h1, h2, h3, h4, Bool.false_or, Bool.or_false, Bool.or_self, if_neg (show ¬ false = true by simp), if_pos rfl, beq_self_eq_true] at ht ⊢
        obtain ⟨hc, hm⟩ := makes_of ht
        rw [hm]
        rw [beq_iff_eq] at hc
        obtain ⟨r, hr1, hr2⟩ := iha (hxa (by decide)) (by omega) (by rw [hc]; decide)
        have := hr2.tru hc
        rw [hr1]
        refine ⟨(1 - r.1, r.2), ?_, ⟨fun _ => by show (1 - r.1 = 0 ∨ 1 - r.1 = 1); omega, fun e => by simp at e, fun e => by simp at e, fun e => by simp at e, fun e => by simp at e, Or.inl rfl⟩⟩
        show (small r.1).map _ = _
        rw [small_some (by omega) (by omega)]
        rfl
      ·simp only [h0, h1, h2, h3, h4, Bool.false_or, Bool.or_false, Bool.or_self, if_neg (show ¬ false = true by simp), if_pos rfl] at ht ⊢
       obtain ⟨r, h1, h2⟩ := plv_ok he hp hs x.name x.index ht
       exact ⟨r, h1, h2.mono (by omega)⟩
     ·simp only [h0, h1, h2, Bool.false_or, Bool.or_false, Bool.or_self, if_neg (show ¬ false = true by simp), if_pos rfl] at ht ⊢
      obtain ⟨n0, n9⟩ := hn3 h3
      exact ⟨_, rfl, ⟨fun e => by simp at e, fun _ => ⟨by show -(((200 * (xnod a + xnod c + 1) : Nat)) : Int) ≤ x.n; omega, by show x.n ≤ ((200 * (xnod a + xnod c + 1) : Nat) : Int); omega⟩, fun e => by simp at e, fun e => by simp at e, fun e => by simp at e, Or.inr (Or.inl rfl)⟩⟩
    ·have ho : o = 2 := by simpa using h2
     subst ho
     simp only [h0, h1, Bool.false_or, Bool.or_false, Bool.or_self, if_neg (show ¬ false = true by simp), if_pos rfl, beq_self_eq_true, show ((2 : Int) == 3) = false from rfl, Bool.or_true] at ht ⊢
     exact ⟨_, rfl, ⟨fun e => by simp at e, fun e => by simp at e, fun e => by simp at e, fun e => by simp at e, fun _ => rfl, by simp⟩⟩
   ·simp only [h0, h1, Bool.false_or, Bool.true_or, Bool.or_true, if_neg (show ¬ false = true by simp), if_pos rfl] at ht ⊢
    exact ⟨_, rfl, ⟨fun _ => Or.inl rfl, fun e => by simp at e, fun e => by simp at e, fun e => by simp at e, fun e => by simp at e, Or.inl rfl⟩⟩
  ·simp only [h0, Bool.true_or, if_pos rfl] at ht ⊢
   exact ⟨_, rfl, ⟨fun _ => Or.inr rfl, fun e => by simp at e, fun e => by simp at e, fun e => by simp at e, fun e => by simp at e, Or.inl rfl⟩⟩

end Go.Proofs.YtpmcnonmkghokaaGreatDoor
namespace Go.Proofs.YtpmcnonmkghokaaGreatDoor
open Go.RowKit
def MvDisj (vars : List MVar) : Prop := ∀ (i j : Nat) (u v : MVar), vars[i]? = some u → vars[j]? = some v → i ≠ j → u.first + u.count ≤ v.first ∨ v.first + v.count ≤ u.first
theorem StOk.put {vars : List MVar} {size : Nat} {st : List Int} (h : StOk vars size st) (hd : MvDisj vars) {k : Nat} {v : MVar} (hv : vars[k]? = some v) {j : Nat} (hj : j < v.count) {x : Int} (h0 : 0 ≤ x) (h1 : x < v.texts.length) : StOk vars size (st.set (v.first + j) x) := by
 refine ⟨by rw [List.length_set]; exact h.len, fun u hu i hi => ?_⟩
 obtain ⟨y, hy, hy0, hy1⟩ := h.val u hu i hi
 obtain ⟨m, hm, rfl⟩ := List.getElem_of_mem hu
 have hm' : vars[m]? = some vars[m] := List.getElem?_eq_getElem hm
 by_cases e : vars[m].first + i = v.first + j
 ·by_cases hmk : m = k
  ·subst hmk
   have : vars[m] = v := by rw [hm'] at hv; injection hv
   rw [e]
   have hlt : v.first + j < st.length := by
    have := (List.getElem?_eq_some_iff.mp hy).1
    omega
   refine ⟨x, by rw [List.getElem?_set_self hlt], h0, by rw [this]; exact h1⟩
  ·rcases hd m k _ _ hm' hv hmk with q | q <;> omega
 ·exact ⟨y, by rw [List.getElem?_set_ne (by omega)]; exact hy, hy0, hy1⟩
def BNum : PB → Prop
 | .nil => True
 | .node _ _ a .nil n => (NumX a.value ∧ xnod a.value ≤ 4000) ∧ BNum n
 | .node _ _ a (.node _ _ _ t e) n => (NumX a.cond ∧ xnod a.cond ≤ 4000) ∧ BNum t ∧ BNum e ∧ BNum n
variable {tab : Tab} {vars : List MVar} {mt : MTab} {ksz ssz : List UInt8 → Nat} {size : Nat} {l : List PP} {ms st : List Int}
theorem opPlace : opN [112, 108, 97, 99, 101] = 4 := by decide
theorem typ_place (tab : Tab) (l : List PP) (x : ELab) (h : x.op.toList = [112, 108, 97, 99, 101]) : typT tab l (.node 0 0 x .nil .nil) = tplT tab l x.name x.index := by
 rw [typT, h, opPlace]; rfl
theorem set_fams {tab : Tab} {l : List PP} {p v : PX} (h : setT tab l p v = true) : (lookT tab (nameOfX p).toList).role = 4 ∧ (typT tab l p).fam ≠ 0 ∧ (typT tab l v).fam ≠ 0 := by
 unfold setT sameT at h
 simp only [Bool.or_eq_true, Bool.and_eq_true, beq_iff_eq, Bool.not_eq_true', beq_eq_false_iff_ne] at h
 rcases h with ⟨hr, ⟨⟨⟨h1, _⟩, h2⟩, _⟩ | ⟨h1, h2⟩⟩
 ·exact ⟨hr, h2, by rw [← h1]; exact h2⟩
 ·exact ⟨hr, by rw [h1]; decide, by rw [h2]; decide⟩
theorem asn_ok (he : EnvOk tab vars mt ksz ssz size) (hd : MvDisj vars) (hp : ParOk ssz l ms) (hs : StOk vars size st) (x : ELab) (v : PX) (hop : x.op.toList = [112, 108, 97, 99, 101]) (hf : XFull v) (hn : NumX v) (hnil : isNil v = false) (hz : xnod v ≤ 4000) (ht : setT tab l (.node 0 0 x .nil .nil) v = true) : ∃ r, asnO vars mt l ms st x.name x.index v = some r ∧ StOk vars size r.1 := by
 obtain ⟨hr, hpf, hvf⟩ := set_fams ht
 rw [typ_place tab l x hop] at hpf
 obtain ⟨p, hp1, hp2⟩ := val_ok he hp hs v hf hn hnil hz hvf
 obtain ⟨_, u, hu1, hu2⟩ := he.var _ hr
 obtain ⟨j, w, ha1, ha2⟩ := at_ok he hp hs u _ hu2 x.index (fun hk => by
  unfold tplT at hpf
  rw [hk] at hpf
  cases ha : (lookT tab x.name.text.toList).var.arr
  ·rw [ha] at hpf; exact absurd rfl hpf
  ·cases hx : idxT tab l x.index (lookT tab x.name.text.toList).var.over
   ·rw [ha, hx] at hpf; exact absurd rfl hpf
   ·exact ⟨ha, hx⟩)
 have hfit := hu2.fit
 have hlen := hs.len
 have hfew := hu2.few
 unfold asnO
 rw [hp1]
 show ∃ r, ((vars[(lookM mt x.name.text.toList).num]?).bind fun v => (atO vars mt l ms st v x.index).bind fun q => if p.1 < 0 || p.1 ≥ (v.texts.length : Int) then some (st, true) else if p.1 > 255 || q.1 < 0 || q.1 ≥ (st.length : Int) then none else some (st.set q.1.toNat p.1, p.2 || q.2)) = some r ∧ StOk vars size r.1
 rw [show nameOfX (.node 0 0 x .nil .nil) = x.name.text from rfl] at hu1
 rw [hu1]
 show ∃ r, ((atO vars mt l ms st u x.index).bind fun q => if p.1 < 0 || p.1 ≥ (u.texts.length : Int) then some (st, true) else if p.1 > 255 || q.1 < 0 || q.1 ≥ (st.length : Int) then none else some (st.set q.1.toNat p.1, p.2 || q.2)) = some r ∧ StOk vars size r.1
 rw [ha1]
 show ∃ r, (if p.1 < 0 || p.1 ≥ (u.texts.length : Int) then some (st, true) else if p.1 > 255 || ((u.first : Int) + (j : Nat)) < 0 || ((u.first : Int) + (j : Nat)) ≥ (st.length : Int) then none else some (st.set ((u.first : Int) + (j : Nat)).toNat p.1, p.2 || w)) = some r ∧ StOk vars size r.1
 by_cases hc : p.1 < 0 ∨ p.1 ≥ (u.texts.length : Int)
 ·rw [if_pos (by simpa using hc)]
  exact ⟨_, rfl, hs⟩
 ·have hc1 : 0 ≤ p.1 ∧ p.1 < (u.texts.length : Int) := by omega
  rw [if_neg (by simpa using hc), if_neg (by simp; omega)]
  refine ⟨_, rfl, ?_⟩
  show StOk vars size (st.set ((u.first : Int) + (j : Nat)).toNat p.1)
  rw [show ((u.first : Int) + (j : Nat)).toNat = u.first + j by omega]
  exact hs.put hd hu1 ha2 hc1.1 hc1.2
theorem do_ok (he : EnvOk tab vars mt ksz ssz size) (hd : MvDisj vars) (hp : ParOk ssz l ms) : ∀ (b : PB), BFull b → BNum b → blkT tab l b = true → ∀ st, StOk vars size st → ∃ r, doO vars mt l ms b st = some r ∧ StOk vars size r.1
 | .nil, _, _, _, st, hs => ⟨_, rfl, hs⟩
 | .node _ _ a .nil n, hf, hn, ht, st, hs => by
  obtain ⟨⟨h1, h2, x, h3, h4⟩, hfn⟩ := hf
  obtain ⟨⟨n1, n2⟩, hnn⟩ := hn
  rw [blkT, Bool.and_eq_true, h3] at ht
  obtain ⟨p, hp1, hp2⟩ := asn_ok he hd hp hs x a.value h4 h1 n1 h2 n2 ht.1
  obtain ⟨q, hq1, hq2⟩ := do_ok he hd hp n hfn hnn ht.2 p.1 hp2
  refine ⟨(q.1, p.2 || q.2), ?_, hq2⟩
  rw [doO, h3]
  show (asnO vars mt l ms st x.name x.index a.value).bind _ = _
  rw [hp1]
  show (doO vars mt l ms n p.1).map _ = _
  rw [hq1]
  rfl
 | .node _ _ a (.node _ _ _ t e) n, hf, hn, ht, st, hs => by
  obtain ⟨⟨h1, h2⟩, hft, hfe, hfn⟩ := hf
  obtain ⟨⟨n1, n2⟩, hnt, hne, hnn⟩ := hn
  rw [blkT, Bool.and_eq_true, Bool.and_eq_true, Bool.and_eq_true, beq_iff_eq] at ht
  obtain ⟨⟨⟨t1, t2⟩, t3⟩, t4⟩ := ht
  obtain ⟨c, hc1, hc2⟩ := val_ok he hp hs a.cond h1 n1 h2 n2 (by rw [t1]; decide)
  obtain ⟨pt, ht1, ht2⟩ := do_ok he hd hp t hft hnt t2 st hs
  obtain ⟨pe, he1, he2⟩ := do_ok he hd hp e hfe hne t3 st hs
  rw [doO, hc1]
  show ∃ r, ((if c.1 == 1 then doO vars mt l ms t st else doO vars mt l ms e st).bind fun p => (doO vars mt l ms n p.1).map fun q => (q.1, c.2 || p.2 || q.2)) = some r ∧ StOk vars size r.1
  cases hcc : (c.1 == 1)
  ·obtain ⟨q, hq1, hq2⟩ := do_ok he hd hp n hfn hnn t4 pe.1 he2
   rw [if_neg (by simp), he1]
   show ∃ r, ((doO vars mt l ms n pe.1).map fun q => (q.1, c.2 || pe.2 || q.2)) = some r ∧ StOk vars size r.1
   rw [hq1]
   exact ⟨_, rfl, hq2⟩
  ·obtain ⟨q, hq1, hq2⟩ := do_ok he hd hp n hfn hnn t4 pt.1 ht2
   rw [if_pos rfl, ht1]
   show ∃ r, ((doO vars mt l ms n pt.1).map fun q => (q.1, c.2 || pt.2 || q.2)) = some r ∧ StOk vars size r.1
   rw [hq1]
   exact ⟨_, rfl, hq2⟩
structure StepFit (tab : Tab) (ssz : List UInt8 → Nat) (s : MStep) : Prop where
 par : ParOk ssz s.params s.mems
 full : XFull s.guard ∧ NumX s.guard ∧ isNil s.guard = false ∧ xnod s.guard ≤ 4000 ∧ (typT tab s.params s.guard).fam = 1
 blk : BFull s.block ∧ BNum s.block ∧ blkT tab s.params s.block = true
structure NevFit (tab : Tab) (ssz : List UInt8 → Nat) (s : MNever) : Prop where
 par : ParOk ssz s.params s.mems
 full : XFull s.expr ∧ NumX s.expr ∧ isNil s.expr = false ∧ xnod s.expr ≤ 4000 ∧ (typT tab s.params s.expr).fam = 1
theorem from_ok (he : EnvOk tab vars mt ksz ssz size) (hd : MvDisj vars) (hs : StOk vars size st) (s : MStep) (h : StepFit tab ssz s) : ∃ r, fromO vars mt s.params s.mems st s.guard s.block = some r ∧ (r.2 = 1 → StOk vars size r.1) ∧ (r.2 = 0 ∨ r.2 = 1 ∨ r.2 = 2) := by
 obtain ⟨f1, f2, f3, f4, f5⟩ := h.full
 obtain ⟨b1, b2, b3⟩ := h.blk
 obtain ⟨c, hc1, hc2⟩ := val_ok he h.par hs s.guard f1 f2 f3 f4 (by rw [f5]; decide)
 obtain ⟨p, hp1, hp2⟩ := do_ok he hd h.par s.block b1 b2 b3 st hs
 unfold fromO
 rw [hc1]
 show ∃ r, ((if c.1 == 1 then doO vars mt s.params s.mems s.block st else some (st, false)).map fun p => if (c.2 || p.2) then (([], 2) : List Int × Int) else if c.1 == 1 then (p.1, 1) else ([], 0)) = some r ∧ _
 cases hcc : (c.1 == 1)
 ·rw [if_neg (by simp)]
  refine ⟨_, rfl, ?_, ?_⟩
  ·show (if (c.2 || false) then (([], 2) : List Int × Int) else if false = true then (st, 1) else ([], 0)).2 = 1 → _
   cases c.2 <;> intro e <;> simp at e
  ·show (if (c.2 || false) then (([], 2) : List Int × Int) else if false = true then (st, 1) else ([], 0)).2 = 0 ∨ _
   cases c.2
   ·exact Or.inl rfl
   ·exact Or.inr (Or.inr rfl)
 ·rw [if_pos rfl, hp1]
  refine ⟨_, rfl, ?_, ?_⟩
  ·show (if (c.2 || p.2) then (([], 2) : List Int × Int) else if true = true then (p.1, 1) else ([], 0)).2 = 1 → StOk vars size (if (c.2 || p.2) then (([], 2) : List Int × Int) else if true = true then (p.1, 1) else ([], 0)).1
   cases (c.2 || p.2)
   ·intro _; exact hp2
   ·intro e; cases e
  ·have key : ∀ b : Bool, (if b then (([], 2) : List Int × Int) else if true = true then (p.1, 1) else ([], 0)).2 = 0 ∨ (if b then (([], 2) : List Int × Int) else if true = true then (p.1, 1) else ([], 0)).2 = 1 ∨ (if b then (([], 2) : List Int × Int) else if true = true then (p.1, 1) else ([], 0)).2 = 2 := fun b => by
    cases b
    ·exact Or.inr (Or.inl rfl)
    ·exact Or.inr (Or.inr rfl)
   exact key (c.2 || p.2)
theorem brk_ok (he : EnvOk tab vars mt ksz ssz size) (hs : StOk vars size st) (s : MNever) (h : NevFit tab ssz s) : ∃ r, brkO vars mt s.params s.mems st s.expr = some r := by
 obtain ⟨f1, f2, f3, f4, f5⟩ := h.full
 obtain ⟨c, hc1, hc2⟩ := val_ok he h.par hs s.expr f1 f2 f3 f4 (by rw [f5]; decide)
 unfold brkO
 rw [hc1]
 exact ⟨_, rfl⟩

end Go.Proofs.YtpmcnonmkghokaaGreatDoor
namespace Go.Proofs.YtpmcnonmkghokaaGreatDoor
open Go.RowKit
structure MachGood (tab : Tab) (ksz ssz : List UInt8 → Nat) (a : Mach) : Prop where
 env : EnvOk tab a.vars a.tab ksz ssz a.size
 disj : MvDisj a.vars
 fit : ∀ v ∈ a.vars, (v.first + v.count ≤ a.size ∧ 1 ≤ v.count) ∧ v.count ≤ 10
 txt : ∀ v ∈ a.vars, v.texts.length ≤ 200 ∧ ∀ t ∈ v.texts, t.size ≤ 800 ∧ 0 < t.size
 one : 0 < a.vars.length
 few : a.vars.length ≤ 10
 steps : ∀ s ∈ a.steps, StepFit tab ssz s
 nevers : ∀ s ∈ a.nevers, NevFit tab ssz s
 nodup : (a.steps.map (fun s => s.text.toList)).Nodup
variable {tab : Tab} {ksz ssz : List UInt8 → Nat} {a : Mach} {st : List Int}
def outO (a : Mach) (st : List Int) (s : MStep) : Option (List Int × Int) := fromO a.vars a.tab s.params s.mems st s.guard s.block
def outN (a : Mach) (st : List Int) (s : MStep) : Int := match outO a st s with | some r => r.2 | none => 0
theorem out_ok (h : MachGood tab ksz ssz a) (hs : StOk a.vars a.size st) {s : MStep} (hm : s ∈ a.steps) : ∃ r, outO a st s = some r ∧ outN a st s = r.2 ∧ (r.2 = 1 → StOk a.vars a.size r.1) := by
 obtain ⟨r, h1, h2, h3⟩ := from_ok h.env h.disj hs s (h.steps s hm)
 have h1' : outO a st s = some r := h1
 exact ⟨r, h1', by unfold outN; rw [h1'], h2⟩
theorem lk_ok (h : MachGood tab ksz ssz a) (hs : StOk a.vars a.size st) : ∀ (l : List MStep), (∀ s ∈ l, s ∈ a.steps) → ∀ en wr, lkO a.vars a.tab st l en wr = some (en ++ (l.filter fun s => outN a st s == 1).map (·.text), wr ++ (l.filter fun s => !(outN a st s == 1) && outN a st s == 2).map (·.text))
 | [], _, en, wr => by rw [lkO]; simp
 | s :: l, hl, en, wr => by
  obtain ⟨r, h1, h2, _⟩ := out_ok h hs (hl s (List.mem_cons_self ..))
  have ih := lk_ok h hs l (fun x hx => hl x (List.mem_cons_of_mem _ hx))
  rw [lkO, show fromO a.vars a.tab s.params s.mems st s.guard s.block = some r from h1]
  show (if r.2 == 1 then lkO a.vars a.tab st l (en ++ [s.text]) wr else if r.2 == 2 then lkO a.vars a.tab st l en (wr ++ [s.text]) else lkO a.vars a.tab st l en wr) = _
  rw [List.filter_cons, List.filter_cons, h2]
  cases c1 : (r.2 == 1)
  ·cases c2 : (r.2 == 2)
   ·simp only [if_neg (show ¬ false = true by simp), Bool.not_false, Bool.and_self, Bool.and_false]
    exact ih en wr
   ·simp only [if_neg (show ¬ false = true by simp), if_pos rfl, Bool.not_false, Bool.and_self]
    rw [ih]
    simp
  ·simp only [if_pos rfl, Bool.not_true, Bool.false_and, if_neg (show ¬ false = true by simp)]
   rw [ih]
   simp
theorem lb_ok (h : MachGood tab ksz ssz a) (hs : StOk a.vars a.size st) : ∀ (l : List MNever), (∀ s ∈ l, s ∈ a.nevers) → ∀ br, ∃ r, lbO a.vars a.tab st l br = some r
 | [], _, br => ⟨br, rfl⟩
 | s :: l, hl, br => by
  obtain ⟨c, hc⟩ := brk_ok h.env hs s (h.nevers s (hl s (List.mem_cons_self ..)))
  rw [lbO, hc]
  show ∃ r, (if c then lbO a.vars a.tab st l (br ++ [s.text]) else lbO a.vars a.tab st l br) = some r
  cases c
  ·exact lb_ok h hs l (fun x hx => hl x (List.mem_cons_of_mem _ hx)) br
  ·exact lb_ok h hs l (fun x hx => hl x (List.mem_cons_of_mem _ hx)) (br ++ [s.text])
theorem txt_ok {v : MVar} (hv : v ∈ a.vars) (hs : StOk a.vars a.size st) (ht : ∀ t ∈ v.texts, t.size ≤ 800 ∧ 0 < t.size) (j : Nat) (hj : j < v.count) : ∃ t, txtO v st (v.first + j) = some t ∧ t.size ≤ 800 ∧ 0 < t.size := by
 obtain ⟨x, h1, h2, h3⟩ := hs.val v hv j hj
 have hl : x.toNat < v.texts.length := by omega
 refine ⟨v.texts[x.toNat], ?_, ht _ (List.getElem_mem hl)⟩
 unfold txtO
 rw [h1]
 show (if 0 ≤ x then v.texts[x.toNat]? else none) = _
 rw [if_pos h2, List.getElem?_eq_getElem hl]
theorem sepB_len (n : Nat) : (sepB n).length ≤ 1 := by unfold sepB; split <;> simp
theorem data_len (t : ByteArray) : t.data.toList.length = t.size := by rw [Array.length_toList]; rfl
theorem arr_ok {v : MVar} (hv : v ∈ a.vars) (hs : StOk a.vars a.size st) (ht : ∀ t ∈ v.texts, t.size ≤ 800 ∧ 0 < t.size) (hc : v.count ≤ 1000) : ∀ n, n ≤ v.count → ∃ l, arrO v st n = some l ∧ l.length ≤ n * 801
 | 0, _ => ⟨[], rfl, by simp⟩
 | n + 1, hn => by
  obtain ⟨l, h1, h2⟩ := arr_ok hv hs ht hc n (by omega)
  obtain ⟨t, h3, h4, _⟩ := txt_ok hv hs ht n (by omega)
  have hs1 := sepB_len n
  have hl : (l ++ sepB n ++ t.data.toList).length ≤ (n + 1) * 801 := by
   rw [List.length_append, List.length_append, data_len]; omega
  refine ⟨_, ?_, hl⟩
  rw [arrO, h1]
  show (txtO v st (v.first + n)).bind _ = _
  rw [h3]
  show (if (l ++ sepB n ++ t.data.toList).length ≤ 1000000 then some (l ++ sepB n ++ t.data.toList) else none) = _
  rw [if_pos (by omega)]
theorem wrt_ok (h : MachGood tab ksz ssz a) {v : MVar} (hv : v ∈ a.vars) (hs : StOk a.vars a.size st) : ∃ l, wrtO v st = some l ∧ l.length ≤ 8020 ∧ l ≠ [] := by
 obtain ⟨_, ht⟩ := h.txt v hv
 obtain ⟨⟨hf0, hf2⟩, hf1⟩ := h.fit v hv
 have hz := h.env.size
 unfold wrtO
 cases ho : (v.over == -1)
 ·obtain ⟨l, h1, h2⟩ := arr_ok hv hs ht (by omega) v.count (Nat.le_refl _)
  rw [if_neg (by simp), h1]
  refine ⟨_, rfl, ?_, by simp⟩
  simp only [List.length_cons, List.length_append, List.length_nil]
  omega
 ·obtain ⟨t, h1, h2, h3⟩ := txt_ok hv hs ht 0 (by omega)
  rw [Nat.add_zero] at h1
  rw [if_pos rfl, h1]
  show ∃ l, (if t.size ≤ 1000000 then some t.data.toList else none) = some l ∧ _
  rw [if_pos (by omega)]
  refine ⟨_, rfl, by rw [data_len]; omega, ?_⟩
  intro e
  have := data_len t
  rw [e] at this
  simp at this
  omega

theorem vtx_ok (h : MachGood tab ksz ssz a) (hs : StOk a.vars a.size st) : ∀ n, n ≤ a.vars.length → ∃ l, vtxO a.vars st n = some l ∧ l.length ≤ n * 8021 ∧ (0 < n → l ≠ [])
 | 0, _ => ⟨[], rfl, by simp, fun h => by omega⟩
 | n + 1, hn => by
  obtain ⟨l, h1, h2, _⟩ := vtx_ok h hs n (by omega)
  have hm : a.vars[n]? = some a.vars[n] := List.getElem?_eq_getElem (by omega)
  have hv : a.vars[n] ∈ a.vars := List.getElem_mem _
  obtain ⟨t, h3, h4, h5⟩ := wrt_ok h hv hs
  have hs1 := sepB_len n
  have hfew := h.few
  have hl : (l ++ sepB n ++ t).length ≤ (n + 1) * 8021 := by rw [List.length_append, List.length_append]; omega
  have hfit : vFit a.vars[n] = true := by
   obtain ⟨⟨q1, q2⟩, q3⟩ := h.fit _ hv
   obtain ⟨q4, _⟩ := h.txt _ hv
   have hz := h.env.size
   unfold vFit
   rw [decide_eq_true (by omega : a.vars[n].first ≤ 1000000), decide_eq_true (by omega : a.vars[n].count ≤ 1000000), decide_eq_true (by omega : a.vars[n].texts.length ≤ 1000000)]
   rfl
  refine ⟨_, ?_, hl, fun _ e => h5 (List.append_eq_nil_iff.mp e).2⟩
  rw [vtxO, h1]
  show (a.vars[n]?).bind _ = _
  rw [hm]
  show (wrtO a.vars[n] st).bind _ = _
  rw [h3]
  show (if (l ++ sepB n ++ t).length ≤ 1000000 ∧ vFit a.vars[n] = true then some (l ++ sepB n ++ t) else none) = _
  rw [if_pos ⟨by omega, hfit⟩]
theorem text_ok (h : MachGood tab ksz ssz a) (hs : StOk a.vars a.size st) : ∃ t, textO a.vars st = some t := by
 obtain ⟨l, h1, _, h3⟩ := vtx_ok h hs a.vars.length (Nat.le_refl _)
 unfold textO
 rw [h1]
 show ∃ t, (if l = [] then none else some l) = some t
 rw [if_neg (h3 h.one)]
 exact ⟨_, rfl⟩
theorem look_ok (h : MachGood tab ksz ssz a) (hs : StOk a.vars a.size st) : ∃ v, lookO a st = some v ∧ v.enabled = (a.steps.filter fun s => outN a st s == 1).map (·.text) ∧ v.wrong = (a.steps.filter fun s => !(outN a st s == 1) && outN a st s == 2).map (·.text) := by
 obtain ⟨t, h1⟩ := text_ok h hs
 have h2 := lk_ok h hs a.steps (fun _ hx => hx) [] []
 obtain ⟨b, h3⟩ := lb_ok h hs a.nevers (fun _ hx => hx) []
 unfold lookO
 rw [h1]
 show ∃ v, ((lkO a.vars a.tab st a.steps [] []).bind fun p => (lbO a.vars a.tab st a.nevers []).map fun b => (⟨⟨t.toArray⟩, p.1, p.2, b⟩ : MView)) = some v ∧ _
 rw [h2]
 show ∃ v, ((lbO a.vars a.tab st a.nevers []).map fun b => (⟨⟨t.toArray⟩, [] ++ (a.steps.filter fun s => outN a st s == 1).map (·.text), [] ++ (a.steps.filter fun s => !(outN a st s == 1) && outN a st s == 2).map (·.text), b⟩ : MView)) = some v ∧ _
 rw [h3]
 exact ⟨_, rfl, rfl, rfl⟩
theorem beh_at (h : MachGood tab ksz ssz a) (hs : StOk a.vars a.size st) : ∀ (l : List MStep), (∀ s ∈ l, s ∈ a.steps) → (l.map (fun s => s.text.toList)).Nodup → ∀ s ∈ l, ∃ r, behO a.vars a.tab st s.text.toList l = some r ∧ r.2 = (outN a st s == 1) ∧ (r.2 = true → StOk a.vars a.size r.1)
 | x :: l, hl, hn, s, hm => by
  rw [List.map_cons, List.nodup_cons] at hn
  rcases List.mem_cons.mp hm with rfl | hm
  ·obtain ⟨r, h1, h2, h3⟩ := out_ok h hs (hl s (List.mem_cons_self ..))
   rw [behO, if_pos (by simp), show fromO a.vars a.tab s.params s.mems st s.guard s.block = some r from h1]
   refine ⟨_, rfl, by rw [h2], fun e => h3 (by simpa using e)⟩
  ·have hne : (x.text.toList == s.text.toList) = false := by
    rw [beq_eq_false_iff_ne]
    intro e
    exact hn.1 (by rw [e]; exact List.mem_map_of_mem (f := fun s : MStep => s.text.toList) hm)
   rw [behO, hne, if_neg (by simp)]
   exact beh_at h hs l (fun y hy => hl y (List.mem_cons_of_mem _ hy)) hn.2 s hm
theorem beh_no {vars : List MVar} {mt : MTab} {t : List UInt8} : ∀ (l : List MStep), (∀ s ∈ l, s.text.toList ≠ t) → behO vars mt st t l = some ([], false)
 | [], _ => rfl
 | x :: l, h => by
  rw [behO, if_neg (by rw [beq_iff_eq]; exact h x (List.mem_cons_self ..))]
  exact beh_no l fun y hy => h y (List.mem_cons_of_mem _ hy)
def runO (a : Mach) : List ByteArray → List Int → Option (List Int)
 | [], st => some st
 | t :: l, st => (behO a.vars a.tab st t.toList a.steps).bind fun r => if r.2 then runO a l r.1 else none
theorem run_snoc (a : Mach) (t : ByteArray) : ∀ (l : List ByteArray) (st st' : List Int), runO a l st = some st' → runO a (l ++ [t]) st = (behO a.vars a.tab st' t.toList a.steps).bind fun r => if r.2 then some r.1 else none
 | [], st, st', h => by
  rw [runO] at h
  injection h with h
  subst h
  rfl
 | x :: l, st, st', h => by
  rw [runO] at h
  obtain ⟨r, h1, h2⟩ := Option.bind_eq_some_iff.mp h
  cases hr : r.2
  ·rw [hr] at h2; cases h2
  ·rw [hr, if_pos rfl] at h2
   rw [List.cons_append, runO, h1]
   show (if r.2 then runO a (l ++ [t]) r.1 else none) = _
   rw [hr, if_pos rfl]
   exact run_snoc a t l r.1 st' h2
theorem wlk_run (h : MachGood tab ksz ssz a) (us : List ByteArray) : ∀ (l : List ByteArray) (i : Nat) (st st' : List Int), StOk a.vars a.size st → runO a l st = some st' → StOk a.vars a.size st' ∧ wlkO a (l ++ us) i st = wlkO a us (i + l.length) st'
 | [], i, st, st', hs, hr => by
  rw [runO] at hr
  injection hr with hr
  subst hr
  exact ⟨hs, rfl⟩
 | t :: l, i, st, st', hs, hr => by
  rw [runO] at hr
  obtain ⟨r, h1, h2⟩ := Option.bind_eq_some_iff.mp hr
  cases hb : r.2
  ·rw [hb] at h2; cases h2
  ·rw [hb, if_pos rfl] at h2
   have hs' : StOk a.vars a.size r.1 := by
    by_cases hm : ∃ s ∈ a.steps, s.text.toList = t.toList
    ·obtain ⟨s, hs1, hs2⟩ := hm
     obtain ⟨q, k1, k2, k3⟩ := beh_at h hs a.steps (fun _ hx => hx) h.nodup s hs1
     rw [hs2, h1] at k1
     injection k1 with k1
     subst k1
     exact k3 hb
    ·rw [beh_no a.steps (fun s hs1 e => hm ⟨s, hs1, e⟩)] at h1
     injection h1 with h1
     subst h1
     cases hb
   obtain ⟨q1, q2⟩ := wlk_run h us l (i + 1) r.1 st' hs' h2
   refine ⟨q1, ?_⟩
   have hz := h.env.size
   have hl := hs.len
   rw [List.cons_append, wlkO, if_pos (by omega), h1]
   show (if r.2 then wlkO a (l ++ us) (i + 1) r.1 else some (noView, false, 7, (i : Int))) = _
   rw [hb, if_pos rfl, q2, List.length_cons]
   congr 1
   omega

end Go.Proofs.YtpmcnonmkghokaaGreatDoor
namespace Go.Proofs.YtpmcnonmkghokaaGreatDoor
open Go.RowKit
theorem must_at {L : List Tok} {s : List UInt8} {st : RS} (h : (rMust L s st).bad = false) : (rMust L s st).at_ = st.at_ + 1 := by
 unfold rMust at h ⊢
 split at h
 ·cases h
 ·rename_i hc
  rw [if_neg hc]
theorem kind_at {L : List Tok} {s : List UInt8} {st : RS} (h : (rKind L s st).2.bad = false) : (rKind L s st).2.at_ = st.at_ + 1 := by
 unfold rKind at h ⊢
 split at h
 ·rename_i hc
  rw [if_pos hc]
 ·cases h
theorem place_at {L : List Tok} {st : RS} (h : (rPlace L st).2.bad = false) : st.at_ + 1 ≤ (rPlace L st).2.at_ ∧ xnod (rPlace L st).1 = 1 := by
 unfold rPlace at h ⊢
 simp only at h ⊢
 split at h
 ·rename_i hc
  rw [if_pos hc]
  simp only at h ⊢
  have h3 := must_up h
  have h2 := kind_up h3
  have h1 := must_up h2
  have e1 := kind_at h1
  have m2 := rMust_mono L [91] (rKind L [110, 97, 109, 101] st).2
  have m3 := rKind_mono L [110, 97, 109, 101] (rMust L [91] (rKind L [110, 97, 109, 101] st).2)
  have m4 := rMust_mono L [93] (rKind L [110, 97, 109, 101] (rMust L [91] (rKind L [110, 97, 109, 101] st).2)).2
  exact ⟨by omega, rfl⟩
 ·rename_i hc
  rw [if_neg hc]
  simp only at h ⊢
  have e1 := kind_at h
  exact ⟨by omega, rfl⟩
theorem rX_nod (L : List Tok) : ∀ (f tag : Nat) (x : PX) (st : RS), (rX f tag x L st).2.bad = false → xnod (rX f tag x L st).1 + st.at_ ≤ xnod x + (rX f tag x L st).2.at_
 | 0, tag, x, st, h => Nat.le_refl _
 | f + 1, tag, x, st, h => by
  have ih := rX_nod L f
  have hb : st.bad = false := expr_up h
  have hbf : ¬ st.bad = true := by rw [hb]; simp
  have z0 : xnod (.nil : PX) = 0 := rfl
  rw [rX] at h ⊢
  by_cases t4 : tag < 4
  ·rw [if_pos t4, if_neg hbf] at h ⊢
   have h1 := ih (tag + 1) .nil st (expr_up h)
   have h2 := ih (10 + tag) _ _ h
   omega
  ·rw [if_neg t4] at h ⊢
   by_cases t10 : tag < 10
   ·rw [if_pos t10, if_neg hbf] at h ⊢
    have h1 := ih 20 .nil st h
    omega
   ·rw [if_neg t10] at h ⊢
    by_cases t20 : tag < 20
    ·rw [if_pos t20, if_neg hbf] at h ⊢
     by_cases hbin : isBin (tag - 10) (tk L st.at_) = true
     ·rw [if_pos hbin] at h ⊢
      by_cases t12 : tag = 12
      ·rw [if_pos t12] at h ⊢
       simp only at h ⊢
       have h1 := ih (tag - 9) .nil { st with at_ := st.at_ + 1 } h
       simp only at h1
       show xnod x + xnod (rX f (tag - 9) .nil L { st with at_ := st.at_ + 1 }).1 + 1 + st.at_ ≤ _
       omega
      ·rw [if_neg t12] at h ⊢
       have h1 := ih (tag - 9) .nil { st with at_ := st.at_ + 1 } (expr_up h)
       have h2 := ih tag _ _ h
       simp only at h1
       have e : xnod (opX (tk L st.at_).text x (rX f (tag - 9) .nil L { st with at_ := st.at_ + 1 }).1) = xnod x + xnod (rX f (tag - 9) .nil L { st with at_ := st.at_ + 1 }).1 + 1 := rfl
       rw [e] at h2
       omega
     ·rw [if_neg hbin] at h ⊢
      exact Nat.le_refl _
    ·rw [if_neg t20, if_neg hbf] at h ⊢
     by_cases n33 : rNext L [33] st = true
     ·rw [if_pos n33] at h ⊢
      by_cases t32 : tag = 32
      ·rw [if_pos t32] at h; simp at h
      ·rw [if_neg t32] at h ⊢
       simp only at h ⊢
       have h1 := ih (tag + 1) .nil (rMust L [33] st) h
       have m1 := must_at (expr_up h)
       show xnod (rX f (tag + 1) .nil L (rMust L [33] st)).1 + xnod (.nil : PX) + 1 + st.at_ ≤ _
       omega
     ·rw [if_neg n33] at h ⊢
      by_cases n40 : rNext L [40] st = true
      ·rw [if_pos n40] at h ⊢
       simp only at h ⊢
       have h2 := must_up h
       have h1 := ih 0 .nil (rMust L [40] st) h2
       have m1 := must_at (expr_up h2)
       have m2 := rMust_mono L [41] (rX f 0 .nil L (rMust L [40] st)).2
       omega
      ·rw [if_neg n40] at h ⊢
       by_cases hc : isConst (tk L st.at_) = true
       ·rw [if_pos hc] at h ⊢
        show 0 + 0 + 1 + st.at_ ≤ xnod x + (st.at_ + 1)
        omega
       ·rw [if_neg hc] at h ⊢
        by_cases hd : isDig (tk L st.at_) = true
        ·rw [if_pos hd] at h ⊢
         show 0 + 0 + 1 + st.at_ ≤ xnod x + (st.at_ + 1)
         omega
        ·rw [if_neg hd] at h ⊢
         have := place_at h
         omega
theorem xn_le {L : List Tok} (hL : ToksOk L) {st : RS} (hl : st.at_ < L.length) (h : (rX (fuelX L) 0 .nil L st).2.bad = false) : xnod (rX (fuelX L) 0 .nil L st).1 ≤ 801 := by
 obtain ⟨_, _, x3, _⟩ := expr_well hL hl h
 have h1 := rX_nod L (fuelX L) 0 .nil st h
 have z0 : xnod (.nil : PX) = 0 := rfl
 have hlen := hL.len
 omega
def BSm : PB → Prop
 | .nil => True
 | .node _ _ a .nil n => xnod a.value ≤ 801 ∧ BSm n
 | .node _ _ a (.node _ _ _ t e) n => xnod a.cond ≤ 801 ∧ BSm t ∧ BSm e ∧ BSm n
theorem BSm.app : ∀ {a b : PB}, BSm a → BSm b → BSm (bapp a b)
 | .nil, b, _, h => h
 | .node _ _ a .nil n, b, ⟨h1, h2⟩, h => ⟨h1, h2.app h⟩
 | .node _ _ a (.node _ _ _ t e) n, b, ⟨h1, h2, h3, h4⟩, h => ⟨h1, h2, h3, h4.app h⟩
theorem do_sm {L : List Tok} (hL : ToksOk L) {blk : RS → PB × RS} (hup : ∀ s, (blk s).2.bad = false → s.bad = false) (hin : ∀ s, s.at_ < L.length → (blk s).2.bad = false → SIn L s (blk s)) (hblk : ∀ s, s.at_ < L.length → (blk s).2.bad = false → BSm (blk s).1) {st : RS} (hl : st.at_ < L.length) (h : (rDo blk L st).2.bad = false) : BSm (rDo blk L st).1 := by
 have hF := hL.finT
 unfold rDo at h ⊢
 by_cases hi : rNext L [105, 102] st = true
 ·rw [if_pos hi] at h ⊢
  have common : (blk (rX (fuelX L) 0 .nil L (rMust L [105, 102] st)).2).2.bad = false → xnod (rX (fuelX L) 0 .nil L (rMust L [105, 102] st)).1 ≤ 801 ∧ BSm (blk (rX (fuelX L) 0 .nil L (rMust L [105, 102] st)).2).1 ∧ SIn L (rX (fuelX L) 0 .nil L (rMust L [105, 102] st)).2 (blk (rX (fuelX L) 0 .nil L (rMust L [105, 102] st)).2) := by
   intro hb
   have hx := hup _ hb
   obtain ⟨m1, m2, m3⟩ := must_in hF hl (expr_up hx)
   obtain ⟨x1, x2, x3, x4⟩ := expr_well hL m3 hx
   exact ⟨xn_le hL m3 hx, hblk _ x3 hb, hin _ x3 hb⟩
  by_cases he : rNext L [101, 108, 115, 101] (blk (rX (fuelX L) 0 .nil L (rMust L [105, 102] st)).2).2 = true
  ·rw [if_pos he] at h ⊢
   simp only at h ⊢
   have hm := hup _ h
   obtain ⟨q1, q2, q3⟩ := common (must_up hm)
   obtain ⟨e1, e2, e3⟩ := must_in hF q3.lt hm
   exact ⟨q1, q2, hblk _ e3 h, trivial⟩
  ·rw [if_neg he] at h ⊢
   simp only at h ⊢
   obtain ⟨q1, q2, q3⟩ := common h
   exact ⟨q1, q2, trivial, trivial⟩
 ·rw [if_neg hi] at h ⊢
  simp only at h ⊢
  have hx := must_up h
  have hm := expr_up hx
  have hp := must_up hm
  obtain ⟨p1, p2, p3, p4, p5⟩ := place_in hF hl hp
  obtain ⟨m1, m2, m3⟩ := must_in hF p4 hm
  exact ⟨xn_le hL m3 hx, trivial⟩
theorem rS_sm {L : List Tok} (hL : ToksOk L) : ∀ (f tag : Nat) (st : RS), st.at_ < L.length → (rS f tag L st).2.bad = false → BSm (rS f tag L st).1
 | 0, tag, st, hl, h => trivial
 | f + 1, 0, st, hl, h => by
  have hF := hL.finT
  rw [rS] at h ⊢
  simp only at h ⊢
  have hb := must_up h
  obtain ⟨m1, m2, m3⟩ := must_in hF hl (stmts_up hb)
  exact rS_sm hL f 1 _ m3 hb
 | f + 1, t + 1, st, hl, h => by
  rw [rS] at h ⊢
  by_cases hc : (rNext L [125] st || st.bad) = true
  ·rw [if_pos hc] at h ⊢
   exact trivial
  ·rw [if_neg hc] at h ⊢
   simp only at h ⊢
   have hd := stmts_up h
   obtain ⟨d1, _⟩ : SIn L st (rDo (rS f 0 L) L st) ∧ blen (rDo (rS f 0 L) L st).1 = 1 := do_in hL (fun s => stmts_up) (fun s hs hb => rS_in hL f 0 s hs hb) hl hd
   exact (do_sm hL (fun s => stmts_up) (fun s hs hb => rS_in hL f 0 s hs hb) (fun s hs hb => rS_sm hL f 0 s hs hb) hl hd).app (rS_sm hL f 1 _ d1.lt h)
def RuleSm (r : PRule) : Prop := xnod r.guard ≤ 801 ∧ BSm r.body
theorem rule_sm {L : List Tok} (hL : ToksOk L) (st : RS) (hl : st.at_ < L.length) (h : (rRule1 L st).2.bad = false) : RuleSm (rRule1 L st).1 := by
 have hF := hL.finT
 unfold rRule1 at h ⊢
 simp only at h ⊢
 have hg : (ruleG L st).2.bad = false := stmts_up h
 have hm : (rMust L [105, 102] (ruleP L st).2).bad = false := expr_up hg
 have hp : (ruleP L st).2.bad = false := must_up hm
 have hk : (ruleK L st).2.bad = false := params_up hp
 obtain ⟨m1, m2, m3⟩ := must_in hF hl (kind_up hk)
 obtain ⟨a1, a2, a3, a4, a5⟩ := kind_in hF m3 rfl hk
 obtain ⟨p1, p2, p3⟩ := params_in hF a5 hp
 obtain ⟨b1, b2, b3⟩ := must_in hF p2 hm
 obtain ⟨x1, x2, x3, x4⟩ := expr_well hL b3 hg
 exact ⟨xn_le hL b3 hg, rS_sm hL _ _ _ x3 h⟩
theorem never_sm {L : List Tok} (hL : ToksOk L) (st : RS) (hl : st.at_ < L.length) (h : (rNever1 L st).2.bad = false) : RuleSm (rNever1 L st).1 := by
 have hF := hL.finT
 unfold rNever1 at h ⊢
 simp only at h ⊢
 have hg : (neverG L st).2.bad = false := must_up h
 have hp : (neverP L st).2.bad = false := expr_up hg
 have hk : (neverK L st).2.bad = false := params_up hp
 obtain ⟨m1, m2, m3⟩ := must_in hF hl (kind_up hk)
 obtain ⟨a1, a2, a3, a4, a5⟩ := kind_in hF m3 rfl hk
 obtain ⟨p1, p2, p3⟩ := params_in hF a5 hp
 exact ⟨xn_le hL p2 hg, trivial⟩
theorem loopB_ne {α : Type} {L : List Tok} {lit : List UInt8} {one : RS → α × RS} : ∀ (f : Nat) (l : List α) (s : RS), (loopB L lit one (f + 1) l s).2.bad = false → s.bad = false → l.length < (loopB L lit one (f + 1) l s).1.length
 | 0, l, s, h, hs => by
  rw [loopB] at h ⊢
  rw [if_neg (by rw [hs]; simp)] at h ⊢
  split
  ·simp [loopB]
  ·simp
 | f + 1, l, s, h, hs => by
  rw [loopB] at h ⊢
  rw [if_neg (by rw [hs]; simp)] at h ⊢
  by_cases hn : rNext L lit (one s).2 = true
  ·rw [if_pos hn] at h ⊢
   have ho : (one s).2.bad = false := good_of fun e => by rw [loopB_bad e] at h; rw [e] at h; cases h
   have := loopB_ne f (l ++ [(one s).1]) (one s).2 h ho
   simp at this
   omega
  ·rw [if_neg hn]
   simp
theorem rMem_len (L : List Tok) : ∀ (f : Nat) (l : List Tok) (st : RS), l.length ≤ (rMem f L l st).1.length
 | 0, l, st => Nat.le_refl _
 | f + 1, l, st => by
  rw [rMem]
  split
  ·exact Nat.le_refl _
  ·split
   ·have := rMem_len L f (l ++ [(rKind L [110, 97, 109, 101] st).1]) (rMust L [44] (rKind L [110, 97, 109, 101] st).2)
    simp at this
    omega
   ·simp
theorem rMem_ne (L : List Tok) (f : Nat) (l : List Tok) (st : RS) (h : st.bad = false) : l.length < (rMem (f + 1) L l st).1.length := by
 rw [rMem, if_neg (by rw [h]; simp)]
 split
 ·have := rMem_len L f (l ++ [(rKind L [110, 97, 109, 101] st).1]) (rMust L [44] (rKind L [110, 97, 109, 101] st).2)
  simp at this
  omega
 ·simp
theorem kind1_ne {L : List Tok} (st : RS) (h : (rKind1 L st).2.bad = false) : 0 < (rKind1 L st).1.members.length := by
 have h1 : (rMembers L (rKind L [110, 97, 109, 101] (rMust L [107, 105, 110, 100] st)).2).2.bad = false := h
 unfold rMembers at h1
 have h2 := must_up h1
 have h3 : (rMust L [123] (rKind L [110, 97, 109, 101] (rMust L [107, 105, 110, 100] st)).2).bad = false := good_of fun e => by
  rw [rMem_bad e, e] at h2; cases h2
 have := rMem_ne L (L.length + 1) [] (rMust L [123] (rKind L [110, 97, 109, 101] (rMust L [107, 105, 110, 100] st)).2) h3
 exact this
structure TreeSm (t : PTree) : Prop where
 kinds : ∀ k ∈ t.kinds, 0 < k.members.length
 rules : ∀ r ∈ t.rules, RuleSm r
 nevers : ∀ r ∈ t.nevers, RuleSm r
 vars : 0 < t.vars.length
theorem tree_sm {L : List Tok} (hL : ToksOk L) (h : (rTree L).2 = none) : TreeSm (rTree L).1 := by
 have hb : (treeN L).2.bad = false := by
  rw [rTree_two] at h
  cases hb : (treeN L).2.bad
  ·rfl
  ·rw [hb] at h; simp at h
 have hp := hL.pos
 have hN := hb
 unfold treeN at hN
 rw [rNevers_A] at hN
 have hR : (treeR L).2.bad = false := good_of fun e => by rw [loopA_bad e] at hN; rw [e] at hN; cases hN
 have hR' := hR
 unfold treeR at hR'
 rw [rRules_B] at hR'
 have hV : (treeV L).2.bad = false := good_of fun e => by rw [loopB_bad e] at hR'; rw [e] at hR'; cases hR'
 have hV' := hV
 unfold treeV at hV'
 rw [rVars_B] at hV'
 have hH : (rHeads L startR).2.2.bad = false := good_of fun e => by rw [loopB_bad e] at hV'; rw [e] at hV'; cases hV'
 have hH' := hH
 unfold rHeads at hH'
 simp only at hH'
 rw [rKinds_A] at hH'
 have hS : (rSets (fuelM L) L [] startR).2.bad = false := good_of fun e => by rw [loopA_bad e] at hH'; rw [e] at hH'; cases hH'
 rw [rSets_A] at hS
 obtain ⟨s1, s2, ls, s3, s4, s5⟩ := loopA_in (P := fun s => DigT s.size) (set_in hL) (fuelM L) [] startR hp hS
 rw [← rSets_A] at s2 s3 s5
 obtain ⟨k1, k2, lk, k3, k4, k5⟩ := loopA_in (P := fun k : PKind => 0 < k.members.length) (fun s hs hg => by obtain ⟨q1, _, q3, q4⟩ := kind1_in hL s hs hg; exact ⟨q1, kind1_ne s hg, q3, q4⟩) (fuelM L) [] _ s2 hH'
 rw [← rKinds_A] at k2 k3 k5
 obtain ⟨v1, v2, lv, v3, v4, v5⟩ := loopB_in (P := VarOk) (var_in hL) (fuelM L) [] (rHeads L startR).2.2 k2 hV'
 have vne : 0 < (rVars (fuelM L) L [] (rHeads L startR).2.2).1.length := by
  rw [rVars_B]
  obtain ⟨f, hf⟩ : ∃ f, fuelM L = f + 1 := ⟨fuelM L - 1, by unfold fuelM; omega⟩
  rw [hf] at hV' ⊢
  have := loopB_ne f [] (rHeads L startR).2.2 hV' hH
  simpa using this
 rw [← rVars_B] at v2 v3 v5
 obtain ⟨r1, r2, lr, r3, r4, r5⟩ := loopB_in (P := RuleSm) (fun s hs hg => by obtain ⟨q1, _, q3, q4⟩ := rule_in hL s hs hg; exact ⟨q1, rule_sm hL s hs hg, q3, q4⟩) (fuelM L) [] (treeV L).2 v2 hR'
 rw [← rRules_B] at r2 r3 r5
 obtain ⟨n1, n2, ln, n3, n4, n5⟩ := loopA_in (P := RuleSm) (fun s hs hg => by obtain ⟨q1, _, q3, q4⟩ := never_in hL s hs hg; exact ⟨q1, never_sm hL s hs hg, q3, q4⟩) (fuelM L) [] (treeR L).2 r2 hN
 rw [← rNevers_A] at n2 n3 n5
 have ev : (rTree L).1.vars = (rVars (fuelM L) L [] (rHeads L startR).2.2).1 := rfl
 have er : (rTree L).1.rules = lr := by show (rRules (fuelM L) L [] (treeV L).2).1 = lr; rw [r3]; rfl
 have en : (rTree L).1.nevers = ln := by show (rNevers (fuelM L) L [] (treeR L).2).1 = ln; rw [n3]; rfl
 have ek : (rTree L).1.kinds = lk := by show (rKinds (fuelM L) L [] (rSets (fuelM L) L [] startR).2).1 = lk; rw [k3]; rfl
 exact ⟨by rw [ek]; exact k4, by rw [er]; exact r4, by rw [en]; exact n4, by rw [ev]; exact vne⟩

end Go.Proofs.YtpmcnonmkghokaaGreatDoor

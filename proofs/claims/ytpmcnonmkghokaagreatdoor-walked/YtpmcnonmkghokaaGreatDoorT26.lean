/-
  A model that was found right: its table of meanings, its variables.
  A model that was found right: its variables as New makes them, and what names mean.
  A model that was found right: its steps and its nevers as New makes them.
  A model that was found right runs.
  Walked, plainly: where Play stands after some steps, and what it tells of one more.
  The document's MUTEX, held against Check and Play: by the kernel.
  The statements without the document's answer: pick, mutex, awake.
  Walked: with, quiet.
-/
import Derived.Test.YtpmcnonmkghokaaGreatDoorT25
import Derived.Test.YtpmcnonmkghokaaGreatDoorT23
set_option linter.unusedVariables false
set_option linter.unusedSimpArgs false
namespace Go.Proofs.YtpmcnonmkghokaaGreatDoor
open Go.RowKit
theorem glob_nodup {t : PTree} (h : NamesFine t) : ((globalsL t).map (fun x => x.text.toList)).Nodup := by
 unfold List.Nodup
 rw [List.pairwise_iff_getElem]
 intro i j hi hj hij
 rw [List.getElem_map, List.getElem_map]
 exact h.uniq j i hij (by simpa using hj) (by simpa using hi)
theorem glob_parts (t : PTree) : globalsL t = t.sets.flatMap setN ++ (t.kinds.flatMap kindN ++ (t.vars.flatMap varN ++ (t.rules ++ t.nevers).flatMap ruleN)) := by
 unfold globalsL glob3 glob2 glob1
 rw [List.append_assoc, List.append_assoc]
theorem mean_toks (t : PTree) : (meanE (mdOf t)).map (·.1) = (t.kinds.flatMap fun k => k.members) ++ t.vars.flatMap varN := by
 unfold meanE
 rw [List.map_append, List.map_flatMap, varE_toks]
 congr 1
 ·simp only [memE_toks]
  rfl
 ·show (t.vars.map vrOf).map (·.name) = _
  rw [List.map_map, List.map_eq_flatMap]
  rfl
theorem mean_sub (t : PTree) : ((meanE (mdOf t)).map (·.1)).Sublist (globalsL t) := by
 rw [mean_toks, glob_parts]
 exact ((flat_sub (fun k => List.sublist_cons_self _ _) t.kinds).append (List.sublist_append_left _ _)).trans (List.sublist_append_right _ _)
theorem mean_nodup {t : PTree} (h : NamesFine t) : ((meanTab (mdOf t)).map (fun x => x.1.toList)).Nodup := by
 have e : (meanTab (mdOf t)).map (fun x => x.1.toList) = ((meanE (mdOf t)).map (·.1)).map (fun x => x.text.toList) := by
  unfold meanTab
  rw [List.map_map, List.map_map]
  rfl
 rw [e]
 exact ((mean_sub t).map _).nodup (glob_nodup h)
theorem kinds_nodup {t : PTree} (h : NamesFine t) : (t.kinds.map (fun k => k.name.text.toList)).Nodup := by
 have s : (t.kinds.flatMap fun k => [k.name]).Sublist (globalsL t) := by
  rw [glob_parts]
  refine ((flat_sub (fun k => ?_) t.kinds).trans (List.sublist_append_left _ _)).trans (List.sublist_append_right _ _)
  exact (List.nil_sublist _).cons_cons _
 have := (s.map (fun x => x.text.toList)).nodup (glob_nodup h)
 rw [← List.map_eq_flatMap, List.map_map] at this
 exact this
theorem rules_nodup {t : PTree} (h : NamesFine t) : (t.rules.map (fun k => k.name.text.toList)).Nodup := by
 have s : (t.rules.flatMap ruleN).Sublist (globalsL t) := by
  rw [glob_parts, List.flatMap_append]
  exact (((List.sublist_append_left _ _).trans (List.sublist_append_right _ _)).trans (List.sublist_append_right _ _)).trans (List.sublist_append_right _ _)
 have := (s.map (fun x => x.text.toList)).nodup (glob_nodup h)
 have e : t.rules.flatMap ruleN = t.rules.map (fun r => r.name) := by rw [List.map_eq_flatMap]; rfl
 rw [e, List.map_map] at this
 exact this
theorem mean_put {t : PTree} (h : NamesFine t) (hs : TreeSize t) : putL (meanE (mdOf t)) [] = some (meanTab (mdOf t)) := by
 rw [putL_ok (meanE (mdOf t)) [] ?_ ?_]
 ·rfl
 ·have := mean_nodup h
  unfold meanTab at this
  rw [List.map_map] at this
  exact this
 ·intro x hx
  have h1 : x.1 ∈ globalsL t := (mean_sub t).subset (List.mem_map_of_mem hx)
  have := (hs.nm _ ((globals_sub t).subset h1)).2
  omega
theorem mean_look {t : PTree} (h : NamesFine t) {x : Tok × Mean} (hx : x ∈ meanE (mdOf t)) : lookM (meanTab (mdOf t)) x.1.text.toList = x.2 :=
 lookM_at (meanTab (mdOf t)) _ (mean_nodup h) (x.1.text, x.2) (List.mem_map_of_mem (f := fun x : Tok × Mean => (x.1.text, x.2)) hx) rfl

def ssz (m : MdL) (s : List UInt8) : Nat := (sizO m.sets s).getD 0
def ksz (m : MdL) (s : List UInt8) : Nat := match kNum m.kinds s with | some k => k.members.length | none => 0
theorem sNum_ex : ∀ (l : List PSet) (s : List UInt8), (∃ q ∈ l, q.name.text.toList = s) → ∃ k x, sNum l s = some k ∧ l[k]? = some x ∧ x ∈ l
 | [], s, ⟨q, hq, _⟩ => by cases hq
 | x :: l, s, ⟨q, hq, e⟩ => by
  rw [sNum]
  cases hx : (x.name.text.toList == s)
  ·rw [beq_eq_false_iff_ne] at hx
   rcases List.mem_cons.mp hq with rfl | hq
   ·exact (hx e).elim
   ·obtain ⟨k, y, h1, h2, h3⟩ := sNum_ex l s ⟨q, hq, e⟩
    exact ⟨k + 1, y, by rw [if_neg (by simp), h1]; rfl, by simpa using h2, List.mem_cons_of_mem _ h3⟩
  ·exact ⟨0, x, by rw [if_pos rfl], rfl, List.mem_cons_self ..⟩
theorem lookI_ex {α : Type} {f : α → ByteArray} {l : List α} {s : List UInt8} (h : ¬ lookI (l.map f) s < 0) : ∃ q ∈ l, (f q).toList = s := by
 apply Classical.byContradiction
 intro hc
 refine h ((lookI_neg _ _).mpr fun x hx => ?_)
 obtain ⟨q, hq, rfl⟩ := List.mem_map.mp hx
 exact fun e => hc ⟨q, hq, e⟩
theorem siz_ok {t : PTree} (h : Right t) {s : List UInt8} (hs : ¬ lookI (setTexts t) s < 0) : ∃ n, sizO t.sets s = some n ∧ 2 ≤ n ∧ n ≤ 3 ∧ ssz (mdOf t) s = n := by
 obtain ⟨k, x, h1, h2, h3⟩ := sNum_ex t.sets s (lookI_ex hs)
 have hb := h.bnd.size x h3
 have e : sizO t.sets s = some (digV x.size.text).toNat := by
  unfold sizO
  rw [h1]
  show (t.sets[k]?).bind _ = _
  rw [h2]
  show digO x.size.text = _
  unfold digO
  rw [if_pos (by omega)]
 refine ⟨_, e, by omega, by omega, ?_⟩
 unfold ssz
 rw [show (mdOf t).sets = t.sets from rfl, e]
 rfl
theorem kNum_some : ∀ {l : List PKind} {s : List UInt8} {k : PKind}, kNum l s = some k → k ∈ l ∧ k.name.text.toList = s
 | x :: l, s, k, h => by
  rw [kNum] at h
  split at h
  ·rename_i hx
   injection h with h
   subst h
   exact ⟨List.mem_cons_self .., by simpa using hx⟩
  ·obtain ⟨h1, h2⟩ := kNum_some h
   exact ⟨List.mem_cons_of_mem _ h1, h2⟩
theorem kNum_ex : ∀ (l : List PKind) (s : List UInt8), (∃ q ∈ l, q.name.text.toList = s) → ∃ k, kNum l s = some k
 | [], s, ⟨q, hq, _⟩ => by cases hq
 | x :: l, s, ⟨q, hq, e⟩ => by
  rw [kNum]
  cases hx : (x.name.text.toList == s)
  ·rw [beq_eq_false_iff_ne] at hx
   rcases List.mem_cons.mp hq with rfl | hq
   ·exact (hx e).elim
   ·rw [if_neg (by simp)]
    exact kNum_ex l s ⟨q, hq, e⟩
  ·exact ⟨x, by rw [if_pos rfl]⟩
theorem kNum_of : ∀ {l : List PKind}, (l.map (fun k => k.name.text.toList)).Nodup → ∀ {k : PKind}, k ∈ l → kNum l k.name.text.toList = some k
 | x :: l, hn, k, hk => by
  rw [List.map_cons, List.nodup_cons] at hn
  rw [kNum]
  rcases List.mem_cons.mp hk with rfl | hk
  ·rw [if_pos (by simp)]
  ·rw [if_neg]
   ·exact kNum_of hn.2 hk
   ·rw [beq_iff_eq]
    intro e
    exact hn.1 (by rw [e]; exact List.mem_map_of_mem (f := fun k : PKind => k.name.text.toList) hk)
theorem ksz_of {t : PTree} (h : NamesFine t) {k : PKind} (hk : k ∈ t.kinds) : ksz (mdOf t) k.name.text.toList = k.members.length := by
 unfold ksz
 rw [show (mdOf t).kinds = t.kinds from rfl, kNum_of (kinds_nodup h) hk]
theorem ksz_le {t : PTree} (h : Right t) (s : List UInt8) : ksz (mdOf t) s ≤ 1000 := by
 unfold ksz
 cases hk : kNum (mdOf t).kinds s with
 | none => exact Nat.zero_le _
 | some k =>
  have := h.bnd.mems k (kNum_some hk).1
  show k.members.length ≤ 1000
  omega
theorem ssz_le (m : MdL) (s : List UInt8) : ssz m s ≤ 1000 := by
 unfold ssz
 cases hk : sizO m.sets s with
 | none => exact Nat.zero_le _
 | some n =>
  obtain ⟨_, _, _, _, _, h⟩ := sizO_some hk
  show n ≤ 1000
  omega

structure UOk (m : MdL) (u : MVar) (d : VrT) : Prop where
 cnt : u.count = if d.arr then ssz m d.over.text.toList else 1
 low : 1 ≤ u.count
 top : u.count ≤ 3
 few : u.texts.length ≤ 200
 ne : 0 < u.texts.length
 tru : (simT (gatherT m) d.si).fam = 1 → u.texts.length = 2
 kin : (simT (gatherT m) d.si).fam = 3 → u.texts.length = ksz m (simT (gatherT m) d.si).name.toList
 set : (simT (gatherT m) d.si).fam = 4 → u.texts.length = ssz m (simT (gatherT m) d.si).name.toList + 1
 txt : ∀ x ∈ u.texts, x.size ≤ 800 ∧ 0 < x.size
theorem dig_size (i : Nat) : (digS i).size = 1 := rfl
theorem numT_txt {n : Nat} : ∀ x ∈ numT n, x.size ≤ 800 ∧ 0 < x.size := by
 intro x hx
 unfold numT at hx
 obtain ⟨i, _, rfl⟩ := List.mem_map.mp hx
 rw [dig_size]
 omega
theorem cnt_ok {t : PTree} (h : Right t) {v : PVar} (hv : v ∈ t.vars) : ∃ c, (if (vrOf v).arr then sizO t.sets (vrOf v).over.text.toList else some 1) = some c ∧ 1 ≤ c ∧ c ≤ 3 ∧ c = if (vrOf v).arr then ssz (mdOf t) (vrOf v).over.text.toList else 1 := by
 obtain ⟨L, hg, hL⟩ := h.good
 obtain ⟨h1, _⟩ := hg.vars v hv
 cases ha : (vrOf v).arr
 ·exact ⟨1, by simp, by omega, by omega, by simp⟩
 ·have hk : (v.over.kind.toList == [110, 97, 109, 101]) = true := by
   rcases h1 with e | e
   ·have : (vrOf v).arr = !(v.over.kind.toList == []) := rfl
    rw [this, e, noTok_kind] at ha
    cases ha
   ·exact e
  obtain ⟨n, e1, e2, e3, e4⟩ := siz_ok h (h.fine.over v hv hk)
  have eo : (vrOf v).over = v.over := rfl
  rw [eo]
  exact ⟨n, by rw [if_pos rfl]; exact e1, by omega, e3, by rw [if_pos rfl]; exact e4.symm⟩
theorem tex_ok {t : PTree} (h : Right t) {v : PVar} (hv : v ∈ t.vars) : ∃ l, texO t.sets t.kinds (vrOf v).si = some l ∧ l.length ≤ 200 ∧ 0 < l.length ∧ ((simT (gatherT (mdOf t)) (vrOf v).si).fam = 1 → l.length = 2) ∧ ((simT (gatherT (mdOf t)) (vrOf v).si).fam = 3 → l.length = ksz (mdOf t) (simT (gatherT (mdOf t)) (vrOf v).si).name.toList) ∧ ((simT (gatherT (mdOf t)) (vrOf v).si).fam = 4 → l.length = ssz (mdOf t) (simT (gatherT (mdOf t)) (vrOf v).si).name.toList + 1) ∧ ∀ x ∈ l, x.size ≤ 800 ∧ 0 < x.size := by
 obtain ⟨L, hg, hL⟩ := h.good
 have hsz := tree_size hL hg
 obtain ⟨_, h2⟩ := hg.vars v hv
 rcases h2 with ⟨k1, k2, _⟩ | ⟨k1, k2, _, _⟩ | ⟨k1, _⟩
 ·have e : (vrOf v).si = ⟨0, noTok, noTok⟩ := by unfold vrOf; rw [k1, k2]; rfl
  rw [e]
  refine ⟨numT 2, rfl, by rw [numT_len]; omega, by rw [numT_len]; omega, fun _ => numT_len 2, fun e => ?_, fun e => ?_, numT_txt⟩
  ·have : (1 : Int) = 3 := e
   omega
  ·have : (1 : Int) = 4 := e
   omega
 ·have e : (vrOf v).si = ⟨1, v.top, noTok⟩ := by unfold vrOf; rw [k1, k2]; rfl
  have hb := h.bnd.top (vrOf v) (List.mem_map_of_mem hv) (by rw [e])
  rw [e] at hb ⊢
  have hb' : 1 ≤ digV v.top.text ∧ digV v.top.text ≤ 3 := hb
  refine ⟨numT ((digV v.top.text).toNat + 1), ?_, by rw [numT_len]; omega, by rw [numT_len]; omega, fun e => ?_, fun e => ?_, fun e => ?_, numT_txt⟩
  ·show (digO v.top.text).map (fun n => numT (n + 1)) = _
   unfold digO
   rw [if_pos (by omega)]
   rfl
  ·have : (2 : Int) = 1 := e
   omega
  ·have : (2 : Int) = 3 := e
   omega
  ·have : (2 : Int) = 4 := e
   omega
 ·have e : (vrOf v).si = ⟨2, noTok, v.type_⟩ := by unfold vrOf; rw [k1]; rfl
  rw [e]
  have hT : simT (gatherT (mdOf t)) ⟨2, noTok, v.type_⟩ = if (lookT (gatherT (mdOf t)) v.type_.text.toList).role == 1 then ⟨4, v.type_.text⟩ else ⟨3, v.type_.text⟩ := rfl
  have hX : texO t.sets t.kinds ⟨2, noTok, v.type_⟩ = match kNum t.kinds v.type_.text.toList with | some k => some (k.members.map (·.text)) | none => (sizO t.sets v.type_.text.toList).map fun m => ⟨#[45]⟩ :: numT m := rfl
  rw [hT, hX]
  by_cases hr : (lookT (gatherT (mdOf t)) v.type_.text.toList).role = 1
  ·rw [if_pos (by rw [beq_iff_eq]; exact hr)]
   have hno : kNum t.kinds v.type_.text.toList = none := by
    cases hk : kNum t.kinds v.type_.text.toList with
    | none => rfl
    | some k =>
     obtain ⟨q1, q2⟩ := kNum_some hk
     have := look_of h.fine (kindE_mem q1)
     simp only [q2] at this
     rw [this] at hr
     cases hr
   obtain ⟨n, e1, e2, e3, e4⟩ := siz_ok h ((role_set t _).mp hr)
   rw [hno, e1]
   refine ⟨⟨#[45]⟩ :: numT n, rfl, by rw [List.length_cons, numT_len]; omega, by simp, fun e => ?_, fun e => ?_, fun _ => ?_, fun x hx => ?_⟩
   ·have : (4 : Int) = 1 := e
    omega
   ·have : (4 : Int) = 3 := e
    omega
   ·show (⟨#[45]⟩ :: numT n).length = ssz (mdOf t) v.type_.text.toList + 1
    rw [List.length_cons, numT_len, e4]
   ·rcases List.mem_cons.mp hx with rfl | hx
    ·exact ⟨by decide, by decide⟩
    ·exact numT_txt x hx
  ·rw [if_neg (by rw [beq_iff_eq]; exact hr)]
   have hlt : lookI (setTexts t) v.type_.text.toList < 0 := by
    apply Classical.byContradiction
    intro hc
    exact hr ((role_set t _).mpr hc)
   obtain ⟨k, hk⟩ := kNum_ex t.kinds v.type_.text.toList (lookI_ex (h.fine.type_ v hv (by rw [beq_iff_eq]; exact k1) hlt))
   obtain ⟨q1, q2⟩ := kNum_some hk
   have hm := h.bnd.mems k q1
   rw [hk]
   refine ⟨k.members.map (·.text), rfl, by rw [List.length_map]; omega, by rw [List.length_map]; exact h.sm.kinds k q1, fun e => ?_, fun _ => ?_, fun e => ?_, fun x hx => ?_⟩
   ·have : (3 : Int) = 1 := e
    omega
   ·show (k.members.map (·.text)).length = ksz (mdOf t) v.type_.text.toList
    rw [← q2, ksz_of h.fine q1, List.length_map]
   ·have : (3 : Int) = 4 := e
    omega
   ·obtain ⟨y, hy, rfl⟩ := List.mem_map.mp hx
    have := hsz.nm _ (mem_kinds q1 (List.mem_cons_of_mem _ hy))
    exact ⟨this.2, this.1⟩
theorem add_ok {t : PTree} (h : Right t) {v : PVar} (hv : v ∈ t.vars) (sz : Nat) : ∃ u, addO t.sets t.kinds sz (vrOf v) = some u ∧ u.first = sz ∧ UOk (mdOf t) u (vrOf v) := by
 obtain ⟨c, c1, c2, c3, c4⟩ := cnt_ok h hv
 obtain ⟨l, l1, l2, l3, l4, l5, l6, l7⟩ := tex_ok h hv
 unfold addO
 rw [c1, l1]
 exact ⟨_, rfl, rfl, c4, c2, c3, l2, l3, l4, l5, l6, l7⟩

end Go.Proofs.YtpmcnonmkghokaaGreatDoor
namespace Go.Proofs.YtpmcnonmkghokaaGreatDoor
open Go.RowKit
def vmk (ss : List PSet) (ks : List PKind) : List VrT → Nat → Option (List MVar × Nat)
 | [], sz => some ([], sz)
 | v :: l, sz => (addO ss ks sz v).bind fun u => (vmk ss ks l (sz + u.count)).map fun r => (u :: r.1, r.2)
structure VsOk (m : MdL) (l : List VrT) (sz : Nat) (us : List MVar) (z : Nat) : Prop where
 len : us.length = l.length
 low : sz ≤ z
 top : z ≤ sz + 3 * l.length
 at_ : ∀ j (hj : j < l.length), ∃ u, us[j]? = some u ∧ UOk m u l[j]
 fit : ∀ u ∈ us, sz ≤ u.first ∧ u.first + u.count ≤ z
 disj : MvDisj us
theorem vmk_ok {t : PTree} (h : Right t) : ∀ (l : List PVar), (∀ v ∈ l, v ∈ t.vars) → ∀ sz, ∃ us z, vmk t.sets t.kinds (l.map vrOf) sz = some (us, z) ∧ VsOk (mdOf t) (l.map vrOf) sz us z
 | [], _, sz => ⟨[], sz, rfl, rfl, Nat.le_refl _, Nat.le_refl _, (fun j hj => by simp at hj), (fun u hu => by cases hu), fun i j u v hu => by simp at hu⟩
 | v :: l, hl, sz => by
  obtain ⟨u, u1, u2, u3⟩ := add_ok h (hl v (List.mem_cons_self ..)) sz
  obtain ⟨us, z, v1, v2⟩ := vmk_ok h l (fun x hx => hl x (List.mem_cons_of_mem _ hx)) (sz + u.count)
  have hc := u3.top
  have a1 := v2.low
  have a2 := v2.top
  have a3 := v2.len
  refine ⟨u :: us, z, ?_, ?_, by omega, ?_, ?_, ?_, ?_⟩
  ·rw [List.map_cons, vmk, u1]
   show (vmk t.sets t.kinds (l.map vrOf) (sz + u.count)).map _ = _
   rw [v1]
   rfl
  ·rw [List.map_cons, List.length_cons, List.length_cons, a3]
  ·rw [List.map_cons, List.length_cons]; omega
  ·intro j hj
   cases j with
   | zero => exact ⟨u, rfl, by simpa using u3⟩
   | succ j =>
    obtain ⟨x, x1, x2⟩ := v2.at_ j (by simpa using hj)
    exact ⟨x, by simpa using x1, by simpa using x2⟩
  ·intro x hx
   rcases List.mem_cons.mp hx with rfl | hx
   ·omega
   ·have := v2.fit x hx
    omega
  ·intro i j x y hx hy hij
   cases i with
   | zero =>
    cases j with
    | zero => exact (hij rfl).elim
    | succ j =>
     rw [List.getElem?_cons_zero] at hx
     injection hx with hx
     subst hx
     rw [List.getElem?_cons_succ] at hy
     have := v2.fit y (List.mem_of_getElem? hy)
     omega
   | succ i =>
    rw [List.getElem?_cons_succ] at hx
    cases j with
    | zero =>
     rw [List.getElem?_cons_zero] at hy
     injection hy with hy
     subst hy
     have := v2.fit x (List.mem_of_getElem? hx)
     omega
    | succ j =>
     rw [List.getElem?_cons_succ] at hy
     exact v2.disj i j x y hx hy (by omega)
theorem vmk_le {ss : List PSet} {ks : List PKind} : ∀ (l : List VrT) (sz : Nat) (r : List MVar × Nat), vmk ss ks l sz = some r → sz ≤ r.2
 | [], sz, r, h => by
  have e : some (([] : List MVar), sz) = some r := h
  injection e with e
  subst e
  exact Nat.le_refl _
 | v :: l, sz, r, h => by
  rw [vmk] at h
  obtain ⟨u, q1, q2⟩ := Option.bind_eq_some_iff.mp h
  obtain ⟨r', q3, q4⟩ := Option.map_eq_some_iff.mp q2
  have := vmk_le l _ _ q3
  rw [← q4]
  show sz ≤ r'.2
  omega
theorem vars_ok {ss : List PSet} {ks : List PKind} : ∀ (l : List VrT) (i : Nat) (t t' : MTab) (vs us : List MVar) (sz z : Nat), putL (varE l i) t = some t' → vmk ss ks l sz = some (us, z) → z ≤ 100000 → vs.length + l.length ≤ 1000 → varsO ss ks l i t vs sz = some (t', vs ++ us, z)
 | [], i, t, t', vs, us, sz, z, h1, h2, h3, h4 => by
  have e1 : some t = some t' := h1
  have e2 : some (([] : List MVar), sz) = some (us, z) := h2
  injection e1 with e1
  injection e2 with e2
  injection e2 with e2 e3
  subst e1; subst e2; subst e3
  rw [varsO, List.append_nil]
 | v :: l, i, t, t', vs, us, sz, z, h1, h2, h3, h4 => by
  rw [varE, putL] at h1
  obtain ⟨t1, p1, p2⟩ := Option.bind_eq_some_iff.mp h1
  rw [vmk] at h2
  obtain ⟨u, q1, q2⟩ := Option.bind_eq_some_iff.mp h2
  obtain ⟨r, q3, q4⟩ := Option.map_eq_some_iff.mp q2
  injection q4 with q4 q5
  have hz : sz + u.count ≤ z := by rw [← q5]; exact vmk_le l _ _ q3
  have p1' : putO t v.name.text ⟨true, i⟩ = some t1 := p1
  rw [List.length_cons] at h4
  rw [varsO, p1']
  show (if sz ≤ 100000 ∧ vs.length ≤ 1000 then (addO ss ks sz v).bind fun u => varsO ss ks l (i + 1) t1 (vs ++ [u]) (sz + u.count) else none) = _
  rw [if_pos (by omega), q1]
  show varsO ss ks l (i + 1) t1 (vs ++ [u]) (sz + u.count) = _
  rw [vars_ok l (i + 1) t1 t' (vs ++ [u]) r.1 (sz + u.count) r.2 p2 q3 (by rw [q5]; exact h3) (by rw [List.length_append]; simp; omega), q5, ← q4]
  simp
theorem kv_ok {t : PTree} (h : Right t) {us : List MVar} {z : Nat} (hs : TreeSize t) (hv : vmk t.sets t.kinds (t.vars.map vrOf) 0 = some (us, z)) (hz : z ≤ 100000) : ∃ t1, kindsO t.kinds [] = some t1 ∧ varsO t.sets t.kinds (t.vars.map vrOf) 0 t1 [] 0 = some (meanTab (mdOf t), us, z) := by
 have hp := mean_put h.fine hs
 unfold meanE at hp
 rw [putL_app] at hp
 obtain ⟨t1, p1, p2⟩ := Option.bind_eq_some_iff.mp hp
 refine ⟨t1, by rw [kinds_put]; exact p1, ?_⟩
 have hn := h.bnd.vars
 have := vars_ok (ss := t.sets) (ks := t.kinds) (t.vars.map vrOf) 0 t1 _ [] us 0 z p2 hv hz (by
  have e : (mdOf t).vars = t.vars.map vrOf := rfl
  rw [e] at hn
  simp only [List.length_nil]
  omega)
 rw [List.nil_append] at this
 exact this
theorem env_ok {t : PTree} (h : Right t) {us : List MVar} {z : Nat} (hv : VsOk (mdOf t) (t.vars.map vrOf) 0 us z) : EnvOk (gatherT (mdOf t)) us (meanTab (mdOf t)) (ksz (mdOf t)) (ssz (mdOf t)) z := by
 refine ⟨fun s hr => ?_, fun s hr => ?_, fun s ha => ?_, ksz_le h, ssz_le _, ?_⟩
 ·rw [look_gather] at hr ⊢
  rcases findE_cases (globE (mdOf t)) s with ⟨e, _⟩ | ⟨j, hj, g1, g2, e⟩
  ·rw [e] at hr; cases hr
  ·rw [e] at hr ⊢
   simp only at hr ⊢
   rcases globE_role _ _ (List.getElem_mem hj) with g | g | g | g | g | g
   ·have := g.1; omega
   ·have := g.1; omega
   ·obtain ⟨_, k, hk, hm, ek⟩ := g
    obtain ⟨i, hi, ei⟩ := List.getElem_of_mem hm
    have hin : ((globE (mdOf t))[j].1, (⟨false, 0 + i⟩ : Mean)) ∈ meanE (mdOf t) := by
     unfold meanE
     refine List.mem_append_left _ (List.mem_flatMap.mpr ⟨k, hk, ?_⟩)
     have := memE_at k.members 0 i hi
     rw [ei] at this
     exact this
    have hl := mean_look h.fine hin
    simp only [g1] at hl
    rw [hl, ek, ksz_of h.fine hk]
    exact ⟨rfl, by show 0 + i < _; omega⟩
   ·have := g.1; omega
   ·have := g.1; omega
   ·have := g.1; omega
 ·obtain ⟨v1, v2⟩ := look_var h.fine s
  have h0 := v1.mp hr
  obtain ⟨hi, ev⟩ := v2 h0
  obtain ⟨hi2, he⟩ := lookI_pos h0
  have he' : (t.vars[(lookI (varTexts t) s).toNat]).name.text.toList = s := by
   have : (varTexts t)[(lookI (varTexts t) s).toNat] = (t.vars[(lookI (varTexts t) s).toNat]).name.text := by simp [varTexts]
   rw [← this]; exact he
  generalize (lookI (varTexts t) s).toNat = i at hi ev he'
  have hj : i < (t.vars.map vrOf).length := by simpa using hi
  have hin : ((t.vars.map vrOf)[i].name, (⟨true, 0 + i⟩ : Mean)) ∈ meanE (mdOf t) := List.mem_append_right _ (varE_mem' (t.vars.map vrOf) 0 i hj)
  have hl := mean_look h.fine hin
  have en : (t.vars.map vrOf)[i].name.text.toList = s := by rw [List.getElem_map]; exact he'
  simp only [en] at hl
  obtain ⟨u, u1, u2⟩ := hv.at_ i hj
  rw [hl, ev]
  refine ⟨rfl, u, by rw [Nat.zero_add]; exact u1, ?_⟩
  have hf := hv.fit u (List.mem_of_getElem? u1)
  rw [List.getElem_map] at u2
  exact ⟨hf.2, u2.cnt, u2.low, u2.few, u2.tru, u2.kin, u2.set⟩
 ·apply Classical.byContradiction
  intro hc
  rw [look_novar t s hc] at ha
  cases ha
 ·have h1 := hv.top
  have h2 := h.bnd.vars
  have e : (mdOf t).vars = t.vars.map vrOf := rfl
  rw [e] at h2
  omega
theorem st_first {m : MdL} {l : List VrT} {us : List MVar} {z : Nat} (hv : VsOk m l 0 us z) : StOk us z (List.replicate z 0) := by
 refine ⟨List.length_replicate, fun v hm j hj => ?_⟩
 obtain ⟨i, hi, rfl⟩ := List.getElem_of_mem hm
 obtain ⟨u, u1, u2⟩ := hv.at_ i (by rw [← hv.len]; exact hi)
 rw [List.getElem?_eq_getElem hi] at u1
 injection u1 with u1
 have hf := hv.fit us[i] hm
 have hne := u2.ne
 rw [← u1] at hne
 exact ⟨0, by rw [List.getElem?_replicate, if_pos (by omega)], Int.le_refl _, by omega⟩

end Go.Proofs.YtpmcnonmkghokaaGreatDoor
namespace Go.Proofs.YtpmcnonmkghokaaGreatDoor
open Go.RowKit
theorem chStep_mem {n : Nat} {all : List (List Int)} {x : List Int} (h : x ∈ chStep n all) : ∃ c ∈ all, ∃ j : Nat, j < n ∧ x = c ++ [(j : Int)] := by
 unfold chStep at h
 obtain ⟨c, hc, h2⟩ := List.mem_flatMap.mp h
 obtain ⟨j, hj, rfl⟩ := List.mem_map.mp h2
 exact ⟨c, hc, j, by simpa using hj, rfl⟩
theorem chStep_length (n : Nat) : ∀ all : List (List Int), (chStep n all).length = all.length * n
 | [] => by simp [chStep]
 | c :: l => by
  have e : chStep n (c :: l) = ((List.range n).map fun (j : Nat) => c ++ [(j : Int)]) ++ chStep n l := rfl
  rw [e, List.length_append, chStep_length n l, List.length_map, List.length_range, List.length_cons, Nat.add_mul]
  omega
theorem chStep_nodup {n : Nat} {all : List (List Int)} (h : all.Nodup) : (chStep n all).Nodup := by
 unfold chStep List.Nodup
 rw [List.pairwise_flatMap]
 refine ⟨fun c _ => ?_, ?_⟩
 ·rw [List.pairwise_map]
  refine List.Pairwise.imp ?_ (List.nodup_range (n := n))
  intro a b hab e
  have := List.append_cancel_left e
  injection this with this
  exact hab (by omega)
 ·refine List.Pairwise.imp ?_ h
  intro a b hab x hx y hy e
  obtain ⟨i, _, rfl⟩ := List.mem_map.mp hx
  obtain ⟨j, _, rfl⟩ := List.mem_map.mp hy
  exact hab (List.append_inj' e rfl).1
theorem ch_ok {ss : List PSet} : ∀ (l : List PP) (all : List (List Int)), (∀ p ∈ l, ∃ n, sizO ss p.set_.text.toList = some n ∧ n ≤ 3) → all.length * 3 ^ l.length ≤ 100000 → all.Nodup →
  ∃ c, chO ss l all = some c ∧ c.Nodup ∧ c.length ≤ all.length * 3 ^ l.length ∧ ∀ x ∈ c, ∃ y ∈ all, ∃ z : List Int, x = y ++ z ∧ z.length = l.length ∧ ∀ i (hi : i < l.length) (hz : i < z.length), 0 ≤ z[i] ∧ z[i] < ((sizO ss l[i].set_.text.toList).getD 0 : Nat)
 | [], all, _, hb, hn => ⟨all, rfl, hn, by simp, fun x hx => ⟨x, hx, [], by simp, rfl, fun i hi => by simp at hi⟩⟩
 | p :: l, all, hl, hb, hn => by
  obtain ⟨n, h1, h2⟩ := hl p (List.mem_cons_self ..)
  have hlen := chStep_length n all
  have hP : 1 ≤ 3 ^ l.length := Nat.one_le_pow _ _ (by omega)
  rw [List.length_cons, Nat.pow_succ] at hb
  have hm : (chStep n all).length * 3 ^ l.length ≤ all.length * (3 ^ l.length * 3) := by
   rw [hlen, Nat.mul_assoc]
   refine Nat.mul_le_mul_left _ ?_
   rw [Nat.mul_comm]
   exact Nat.mul_le_mul_left _ h2
  have hle : (chStep n all).length ≤ (chStep n all).length * 3 ^ l.length := Nat.le_mul_of_pos_right _ hP
  obtain ⟨c, c1, c2, c3, c4⟩ := ch_ok l (chStep n all) (fun q hq => hl q (List.mem_cons_of_mem _ hq)) (by omega) (chStep_nodup hn)
  refine ⟨c, ?_, c2, by rw [List.length_cons, Nat.pow_succ]; omega, fun x hx => ?_⟩
  ·rw [chO, h1]
   show (if (chStep n all).length ≤ 100000 then chO ss l (chStep n all) else none) = _
   rw [if_pos (by omega)]
   exact c1
  ·obtain ⟨y, hy, z, e1, e2, e3⟩ := c4 x hx
   obtain ⟨y0, hy0, j, hj, rfl⟩ := chStep_mem hy
   refine ⟨y0, hy0, (j : Int) :: z, by rw [e1, List.append_assoc]; rfl, by rw [List.length_cons, List.length_cons, e2], fun i hi hz => ?_⟩
   cases i with
   | zero =>
    simp only [List.getElem_cons_zero]
    rw [h1]
    show 0 ≤ (j : Int) ∧ (j : Int) < ((n : Nat) : Int)
    omega
   | succ i =>
    simp only [List.getElem_cons_succ]
    exact e3 i (by simpa using hi) (by simpa using hz)
def InsSm (z : List Int) : Prop := z.length ≤ 2 ∧ ∀ x ∈ z, 0 ≤ x ∧ x < 4
theorem two_cases {z : List Int} (h : z.length ≤ 2) : z = [] ∨ (∃ a, z = [a]) ∨ ∃ a b, z = [a, b] := by
 match z, h with
 | [], _ => exact Or.inl rfl
 | [a], _ => exact Or.inr (Or.inl ⟨a, rfl⟩)
 | [a, b], _ => exact Or.inr (Or.inr ⟨a, b, rfl⟩)
 | a :: b :: c :: l, h => simp at h
def joinD (z : List Int) : List UInt8 := Go.Lib.join ((z.map fun i => digS i.toNat).map (·.data.toList)) [44]
def dgB (a : Int) : UInt8 := (48 + a.toNat).toUInt8
theorem joinD0 : joinD [] = [] := rfl
theorem joinD1 (a : Int) : joinD [a] = [dgB a] := by simp [dgB, joinD, Go.Lib.join, digS, List.intercalate, List.intersperse]
theorem joinD2 (a b : Int) : joinD [a, b] = [dgB a, 44, dgB b] := by simp [dgB, joinD, Go.Lib.join, digS, List.intercalate, List.intersperse]
theorem ins_ok {z : List Int} (h : InsSm z) : insOk z = true := by
 have hl : (joinD z).length ≤ 3 := by
  rcases two_cases h.1 with rfl | ⟨a, rfl⟩ | ⟨a, b, rfl⟩
  ·rw [joinD0]; simp
  ·rw [joinD1]; simp
  ·rw [joinD2]; simp
 unfold insOk
 rw [Bool.and_eq_true, Bool.and_eq_true, List.all_eq_true]
 refine ⟨⟨fun x hx => ?_, ?_⟩, ?_⟩
 ·have := h.2 x hx
  rw [Bool.and_eq_true]
  exact ⟨decide_eq_true (by omega), decide_eq_true (by omega)⟩
 ·have := h.1
  exact decide_eq_true (by omega)
 ·exact decide_eq_true (by unfold joinD at hl; omega)
theorem ins_list (n : ByteArray) (z : List Int) : (insT n z).toList = n.toList ++ (40 :: (joinD z ++ [41])) := by
 unfold insT joinB
 rw [toList_dat, ByteArray.data_append, ByteArray.data_append, ByteArray.data_append, Array.toList_append, Array.toList_append, Array.toList_append, toList_dat]
 simp [joinD]
theorem dig_ne {a : Int} (h0 : 0 ≤ a) (h1 : a < 4) : dgB a ≠ 40 := by
 have : a = 0 ∨ a = 1 ∨ a = 2 ∨ a = 3 := by omega
 rcases this with rfl | rfl | rfl | rfl <;> decide
theorem dig_inj {a b : Int} (h0 : 0 ≤ a) (h1 : a < 4) (h2 : 0 ≤ b) (h3 : b < 4) (e : dgB a = dgB b) : a = b := by
 have ha : a = 0 ∨ a = 1 ∨ a = 2 ∨ a = 3 := by omega
 have hb : b = 0 ∨ b = 1 ∨ b = 2 ∨ b = 3 := by omega
 rcases ha with rfl | rfl | rfl | rfl <;> rcases hb with rfl | rfl | rfl | rfl <;> first | rfl | exact absurd e (by decide)
theorem ins_inj {n n' : ByteArray} {z z' : List Int} (h : InsSm z) (h' : InsSm z') (e : (insT n z).toList = (insT n' z').toList) : n.toList = n'.toList ∧ z = z' := by
 rw [ins_list, ins_list] at e
 have e2 := congrArg List.reverse e
 rcases two_cases h.1 with rfl | ⟨a, rfl⟩ | ⟨a, b, rfl⟩ <;> rcases two_cases h'.1 with rfl | ⟨a', rfl⟩ | ⟨a', b', rfl⟩
 ·simp only [joinD0] at e
  exact ⟨(List.append_inj' e rfl).1, rfl⟩
 ·have ha := h'.2 a' (by simp)
  simp [joinD0, joinD1] at e2
  exact absurd e2.1.symm (dig_ne ha.1 ha.2)
 ·have hb := h'.2 b' (by simp)
  simp [joinD0, joinD2] at e2
  exact absurd e2.1.symm (dig_ne hb.1 hb.2)
 ·have ha := h.2 a (by simp)
  simp [joinD0, joinD1] at e2
  exact absurd e2.1 (dig_ne ha.1 ha.2)
 ·have ha := h.2 a (by simp)
  have ha' := h'.2 a' (by simp)
  simp only [joinD1] at e
  obtain ⟨q1, q2⟩ := List.append_inj' e rfl
  simp at q2
  exact ⟨q1, by rw [dig_inj ha.1 ha.2 ha'.1 ha'.2 q2]⟩
 ·simp [joinD1, joinD2] at e2
 ·have hb := h.2 b (by simp)
  simp [joinD0, joinD2] at e2
  exact absurd e2.1 (dig_ne hb.1 hb.2)
 ·simp [joinD1, joinD2] at e2
 ·have ha := h.2 a (by simp)
  have ha' := h'.2 a' (by simp)
  have hb := h.2 b (by simp)
  have hb' := h'.2 b' (by simp)
  simp only [joinD2] at e
  obtain ⟨q1, q2⟩ := List.append_inj' e rfl
  simp at q2
  exact ⟨q1, by rw [dig_inj ha.1 ha.2 ha'.1 ha'.2 q2.1, dig_inj hb.1 hb.2 hb'.1 hb'.2 q2.2]⟩

theorem XWell.num : ∀ {x : PX}, XWell x → NumX x
 | .node _ _ x a c, h => by
  rcases h with ⟨hl, rfl, rfl⟩ | ⟨ho, ha, rfl⟩ | ⟨ho, ha, hc⟩
  ·refine ⟨fun e => ?_, trivial, trivial⟩
   rcases hl with (e1 | e1 | e1) | ⟨e1, h1, h2⟩ | ⟨e1, _⟩
   ·rw [e1] at e; exact absurd e (by decide)
   ·rw [e1] at e; exact absurd e (by decide)
   ·rw [e1] at e; exact absurd e (by decide)
   ·exact ⟨h1, h2⟩
   ·rw [e1] at e; exact absurd e (by decide)
  ·exact ⟨fun e => by rw [ho] at e; exact absurd e (by decide), ha.num, trivial⟩
  ·refine ⟨fun e => ?_, ha.num, hc.num⟩
   rcases binOps_cases ho with q | q | q | q | q | q | q <;> rw [q] at e <;> exact absurd e (by decide)
theorem BWell.num : ∀ {b : PB}, BWell b → BSm b → BNum b
 | .nil, _, _ => trivial
 | .node _ _ a .nil n, ⟨_, h2, _, h⟩, ⟨s1, s2⟩ => ⟨⟨h2.num, by omega⟩, h.num s2⟩
 | .node _ _ a (.node _ _ _ t e) n, ⟨h1, _, _, h4, h5, h6⟩, ⟨s1, s2, s3, s4⟩ => ⟨⟨h1.num, by omega⟩, h4.1.num s2, h5.1.num s3, h6.num s4⟩
theorem rule_ch {t : PTree} (h : Right t) {r : PRule} (hr : r ∈ t.rules ++ t.nevers) : ∃ c, chO t.sets r.params [[]] = some c ∧ c.Nodup ∧ c.length ≤ 9 ∧ ∀ z ∈ c, InsSm z ∧ ParOk (ssz (mdOf t)) r.params z := by
 have hp : r.params.length ≤ 2 := h.bnd.pars r hr
 have h9 : 3 ^ r.params.length ≤ 9 := by
  have : r.params.length = 0 ∨ r.params.length = 1 ∨ r.params.length = 2 := by omega
  rcases this with e | e | e <;> rw [e] <;> decide
 obtain ⟨c, c1, c2, c3, c4⟩ := ch_ok (ss := t.sets) r.params [[]] (fun p hp => by obtain ⟨n, e1, _, e3, _⟩ := siz_ok h (h.fine.psets r hr p hp); exact ⟨n, e1, e3⟩) (by simp; omega) (by simp)
 refine ⟨c, c1, c2, by simp at c3; omega, fun z hz => ?_⟩
 obtain ⟨y, hy, z', e1, e2, e3⟩ := c4 z hz
 rw [List.mem_singleton] at hy
 subst hy
 rw [List.nil_append] at e1
 subst e1
 refine ⟨⟨by omega, fun x hx => ?_⟩, e2, fun i hi hm => e3 i hi hm⟩
 obtain ⟨i, hi, rfl⟩ := List.getElem_of_mem hx
 have hi' : i < r.params.length := by omega
 obtain ⟨a1, a2⟩ := e3 i hi' hi
 obtain ⟨n, e1, _, e3', _⟩ := siz_ok h (h.fine.psets r hr r.params[i] (List.getElem_mem hi'))
 rw [e1] at a2
 have a2' : z[i] < ((n : Nat) : Int) := a2
 omega

end Go.Proofs.YtpmcnonmkghokaaGreatDoor
namespace Go.Proofs.YtpmcnonmkghokaaGreatDoor
open Go.RowKit
theorem bLenB_of : ∀ {b : PB}, BLen b → bLenB b = true
 | .nil, _ => rfl
 | .node _ _ a .nil n, h => bLenB_of (b := n) h
 | .node _ _ a (.node _ _ _ t e) n, ⟨⟨h1, h2⟩, ⟨h3, h4⟩, h5⟩ => by
  rw [bLenB, bLenB_of h1, bLenB_of h3, bLenB_of h5, decide_eq_true h2, decide_eq_true h4]
  rfl
theorem tokFit_of {l : List Tok} (h : ∀ y ∈ l, y.text.size ≤ 1000) : tokFit l = true := List.all_eq_true.2 fun y hy => decide_eq_true (h y hy)
structure RGood (t : PTree) (r : PRule) : Prop where
 ch : ∃ c, chO t.sets r.params [[]] = some c ∧ c.Nodup ∧ c.length ≤ 9 ∧ ∀ z ∈ c, InsSm z ∧ ParOk (ssz (mdOf t)) r.params z
 par : r.params.length ≤ 1000
 nm : r.name.text.size ≤ 1000
 full : XFull r.guard ∧ NumX r.guard ∧ isNil r.guard = false ∧ xnod r.guard ≤ 4000 ∧ (typT (gatherT (mdOf t)) r.params r.guard).fam = 1
 blk : BFull r.body ∧ BNum r.body
 fitG : tokFit (namesP r.guard) = true
 fitB : bLenB r.body = true ∧ plen r.body ≤ 1000 ∧ tokFit (namesB r.body) = true
theorem rgood {t : PTree} (h : Right t) {r : PRule} (hr : r ∈ t.rules ++ t.nevers) : RGood t r := by
 obtain ⟨L, hg, hL⟩ := h.good
 have s := tree_size hL hg
 have hok : RuleOk r := by
  rcases List.mem_append.mp hr with hr | hr
  ·exact hg.rules r hr
  ·exact (hg.nevers r hr).1
 have hsm : RuleSm r := by
  rcases List.mem_append.mp hr with hr | hr
  ·exact h.sm.rules r hr
  ·exact h.sm.nevers r hr
 have hty : (typT (gatherT (mdOf t)) r.params r.guard).fam = 1 := by
  have := h.typ
  unfold typesT at this
  rw [Bool.and_eq_true] at this
  rcases List.mem_append.mp hr with hr | hr
  ·have := List.all_eq_true.1 this.1 r hr
   unfold ruleT at this
   rw [Bool.and_eq_true, beq_iff_eq] at this
   exact this.1
  ·have := List.all_eq_true.1 this.2 r hr
   unfold nevT at this
   rw [beq_iff_eq] at this
   exact this
 obtain ⟨x, b, bl⟩ := hok
 obtain ⟨x1, x2⟩ := hsm
 have hp := h.bnd.pars r hr
 refine ⟨rule_ch h hr, by omega, ?_, ⟨x.full, x.num, x.some, by omega, hty⟩, ⟨b.full, b.num x2⟩, tokFit_of fun y hy => ?_, bLenB_of b.len, by rw [plen_blen]; omega, tokFit_of fun y hy => ?_⟩
 ·have := (s.nm _ (mem_rules hr (List.mem_cons_self ..))).2; omega
 ·rw [namesP_well x] at hy
  have := (s.nm _ (mem_rules hr (mem_guard hy))).2
  omega
 ·rw [namesB_well b] at hy
  have := (s.nm _ (mem_rules hr (mem_body hy))).2
  omega
theorem fit_of {t : PTree} {r : PRule} (h : RGood t r) {c : List (List Int)} (hl : c.length ≤ 9) (hc : ∀ z ∈ c, InsSm z ∧ ParOk (ssz (mdOf t)) r.params z) {n : Nat} (hn : n ≤ 100000) : ruleFit r c n = true := by
 have h2 := h.par
 have h3 := h.nm
 unfold ruleFit
 rw [List.all_eq_true.2 fun z hz => ins_ok (hc z hz).1, decide_eq_true (by omega : c.length ≤ 100000), decide_eq_true hn, decide_eq_true h2, decide_eq_true h3]
 rfl
def StepOf (t : PTree) (l : List PRule) (s : MStep) : Prop := ∃ r ∈ l, ∃ z, s = mkStep r z ∧ InsSm z ∧ ParOk (ssz (mdOf t)) r.params z
theorem steps_ok {t : PTree} : ∀ (l : List PRule) (acc : List MStep), (∀ r ∈ l, RGood t r) → (l.map (fun r => r.name.text.toList)).Nodup → acc.length + 9 * l.length ≤ 100000 →
  ∃ S, stepsO t.sets l acc = some (acc ++ S) ∧ S.length ≤ 9 * l.length ∧ (∀ s ∈ S, StepOf t l s) ∧ (S.map (fun s => s.text.toList)).Nodup
 | [], acc, _, _, _ => ⟨[], by rw [stepsO, List.append_nil], by simp, (fun s hs => by cases hs), by simp⟩
 | r :: l, acc, hl, hn, hb => by
  have hg := hl r (List.mem_cons_self ..)
  obtain ⟨c, c1, c2, c3, c4⟩ := hg.ch
  rw [List.map_cons, List.nodup_cons] at hn
  rw [List.length_cons] at hb
  obtain ⟨S, s1, s2, s3, s4⟩ := steps_ok l (acc ++ c.map (mkStep r)) (fun x hx => hl x (List.mem_cons_of_mem _ hx)) hn.2 (by rw [List.length_append, List.length_map]; omega)
  refine ⟨c.map (mkStep r) ++ S, ?_, by rw [List.length_append, List.length_map, List.length_cons]; omega, fun s hs => ?_, ?_⟩
  ·rw [stepsO, c1]
   show (if ruleFit r c acc.length then stepsO t.sets l (acc ++ c.map (mkStep r)) else none) = _
   rw [if_pos (fit_of hg c3 c4 (by omega)), s1, List.append_assoc]
  ·rcases List.mem_append.mp hs with hs | hs
   ·obtain ⟨z, hz, rfl⟩ := List.mem_map.mp hs
    exact ⟨r, List.mem_cons_self .., z, rfl, c4 z hz⟩
   ·obtain ⟨r', hr', z, q⟩ := s3 s hs
    exact ⟨r', List.mem_cons_of_mem _ hr', z, q⟩
  ·rw [List.map_append, List.nodup_append]
   refine ⟨?_, s4, ?_⟩
   ·rw [List.map_map]
    unfold List.Nodup
    rw [List.pairwise_map]
    refine List.Pairwise.imp_of_mem ?_ c2
    intro a b ha hb' hab e
    exact hab (ins_inj (c4 a ha).1 (c4 b hb').1 e).2
   ·intro x hx y hy e
    rw [List.map_map] at hx
    obtain ⟨z, hz, rfl⟩ := List.mem_map.mp hx
    obtain ⟨s, hs, rfl⟩ := List.mem_map.mp hy
    obtain ⟨r', hr', z', rfl, q1, _⟩ := s3 s hs
    have := (ins_inj (c4 z hz).1 q1 e).1
    exact hn.1 (by rw [this]; exact List.mem_map_of_mem (f := fun r : PRule => r.name.text.toList) hr')
def NevOf (t : PTree) (l : List PRule) (s : MNever) : Prop := ∃ r ∈ l, ∃ z, s = mkNever r z ∧ InsSm z ∧ ParOk (ssz (mdOf t)) r.params z
theorem nevers_ok {t : PTree} : ∀ (l : List PRule) (acc : List MNever), (∀ r ∈ l, RGood t r) → acc.length + 9 * l.length ≤ 100000 →
  ∃ S, neversO t.sets l acc = some (acc ++ S) ∧ S.length ≤ 9 * l.length ∧ (∀ s ∈ S, NevOf t l s)
 | [], acc, _, _ => ⟨[], by rw [neversO, List.append_nil], by simp, fun s hs => by cases hs⟩
 | r :: l, acc, hl, hb => by
  have hg := hl r (List.mem_cons_self ..)
  obtain ⟨c, c1, c2, c3, c4⟩ := hg.ch
  rw [List.length_cons] at hb
  obtain ⟨S, s1, s2, s3⟩ := nevers_ok l (acc ++ c.map (mkNever r)) (fun x hx => hl x (List.mem_cons_of_mem _ hx)) (by rw [List.length_append, List.length_map]; omega)
  refine ⟨c.map (mkNever r) ++ S, ?_, by rw [List.length_append, List.length_map, List.length_cons]; omega, fun s hs => ?_⟩
  ·rw [neversO, c1]
   show (if ruleFit r c acc.length then neversO t.sets l (acc ++ c.map (mkNever r)) else none) = _
   rw [if_pos (fit_of hg c3 c4 (by omega)), s1, List.append_assoc]
  ·rcases List.mem_append.mp hs with hs | hs
   ·obtain ⟨z, hz, rfl⟩ := List.mem_map.mp hs
    exact ⟨r, List.mem_cons_self .., z, rfl, c4 z hz⟩
   ·obtain ⟨r', hr', z, q⟩ := s3 s hs
    exact ⟨r', List.mem_cons_of_mem _ hr', z, q⟩
structure MachOf (t : PTree) (a : Mach) : Prop where
 good : MachGood (gatherT (mdOf t)) (ksz (mdOf t)) (ssz (mdOf t)) a
 first : StOk a.vars a.size (List.replicate a.size 0)
 steps : ∀ s ∈ a.steps, StepOf t t.rules s
 nevers : ∀ s ∈ a.nevers, NevOf t t.nevers s
 few : a.steps.length ≤ 45
theorem mach_ok {s : ByteArray} (h : (chkC s).1 = 0) : ∃ a, machO s = some a ∧ MachOf (rTree (refToks s).1).1 a := by
 have hR := right_of h
 unfold machO
 generalize (rTree (refToks s).1).1 = t at hR
 obtain ⟨L, hg, hL⟩ := hR.good
 have hs := tree_size hL hg
 obtain ⟨us, z, v1, v2⟩ := vmk_ok hR t.vars (fun _ hv => hv) 0
 have hvn : (t.vars.map vrOf).length ≤ 4 := hR.bnd.vars
 have hz : z ≤ 12 := by have := v2.top; omega
 obtain ⟨t1, k1, k2⟩ := kv_ok hR hs v1 (by omega)
 have hrn : t.rules.length ≤ 5 := hR.bnd.rules
 have hnn : t.nevers.length ≤ 3 := hR.bnd.nevers
 obtain ⟨S, s1, s2, s3, s4⟩ := steps_ok (t := t) t.rules [] (fun r hr => rgood hR (List.mem_append_left _ hr)) (rules_nodup hR.fine) (by simp only [List.length_nil]; omega)
 obtain ⟨N, n1, n2, n3⟩ := nevers_ok (t := t) t.nevers [] (fun r hr => rgood hR (List.mem_append_right _ hr)) (by simp only [List.length_nil]; omega)
 rw [List.nil_append] at s1 n1
 have hul := v2.len
 have hty : ∀ r ∈ t.rules, blkT (gatherT (mdOf t)) r.params r.body = true := fun r hr => by
  have := hR.typ
  unfold typesT at this
  rw [Bool.and_eq_true] at this
  have := List.all_eq_true.1 this.1 r hr
  unfold ruleT at this
  rw [Bool.and_eq_true] at this
  exact this.2
 have hfit : mdFitB (mdOf t) = true := by
  have q1 : t.sets.length ≤ 2 := hR.bnd.sets
  have q2 : t.kinds.length ≤ 2 := hR.bnd.kinds
  unfold mdFitB
  have q3 : ((mdOf t).kinds.all fun x => decide (x.members.length ≤ 1000)) = true := List.all_eq_true.2 fun k hk => decide_eq_true (by have := hR.bnd.mems k hk; omega)
  rw [q3, decide_eq_true (show (mdOf t).sets.length ≤ 1000 by show t.sets.length ≤ 1000; omega), decide_eq_true (show (mdOf t).kinds.length ≤ 1000 by show t.kinds.length ≤ 1000; omega), decide_eq_true (show (mdOf t).vars.length ≤ 1000 by show (t.vars.map vrOf).length ≤ 1000; omega), decide_eq_true (show (mdOf t).rules.length ≤ 1000 by show t.rules.length ≤ 1000; omega), decide_eq_true (show (mdOf t).nevers.length ≤ 1000 by show t.nevers.length ≤ 1000; omega)]
  rfl
 have hnew : newO (mdOf t) = some ⟨S, N, setsI t.sets, us, meanTab (mdOf t), z⟩ := by
  unfold newO
  show (kindsO t.kinds []).bind _ = _
  rw [k1]
  show (varsO t.sets t.kinds (t.vars.map vrOf) 0 t1 [] 0).bind _ = _
  rw [k2]
  show (stepsO t.sets t.rules []).bind _ = _
  rw [s1]
  show (neversO t.sets t.nevers []).map _ = _
  rw [n1]
  rfl
 have hmok : machOkB ⟨S, N, setsI t.sets, us, meanTab (mdOf t), z⟩ = true := by
  unfold machOkB
  have q1 : S.all stepOkB = true := List.all_eq_true.2 fun x hx => by
   obtain ⟨r, hr, ms, rfl, _⟩ := s3 x hx
   have g := rgood hR (List.mem_append_left t.nevers hr)
   show stepOkB ⟨_, r.params, ms, r.guard, r.body⟩ = true
   unfold stepOkB
   simp only
   rw [decide_eq_true g.par, g.fitG, g.fitB.1, decide_eq_true g.fitB.2.1, g.fitB.2.2]
   rfl
  have q2 : N.all nevOkB = true := List.all_eq_true.2 fun x hx => by
   obtain ⟨r, hr, ms, rfl, _⟩ := n3 x hx
   have g := rgood hR (List.mem_append_right t.rules hr)
   show nevOkB ⟨_, r.params, ms, r.guard⟩ = true
   unfold nevOkB
   simp only
   rw [decide_eq_true g.par, g.fitG]
   rfl
  simp only
  rw [q1, q2, decide_eq_true (by omega : us.length ≤ 1000), decide_eq_true (by omega : S.length ≤ 1000000), decide_eq_true (by omega : N.length ≤ 1000000)]
  rfl
 refine ⟨⟨S, N, setsI t.sets, us, meanTab (mdOf t), z⟩, ?_, ?_⟩
 ·rw [if_pos hfit, hnew]
  show (if machOkB ⟨S, N, setsI t.sets, us, meanTab (mdOf t), z⟩ = true then some (⟨S, N, setsI t.sets, us, meanTab (mdOf t), z⟩ : Mach) else none) = _
  rw [if_pos hmok]
 ·have hu : ∀ v ∈ us, ∃ d, UOk (mdOf t) v d := fun v hv => by
   obtain ⟨i, hi, rfl⟩ := List.getElem_of_mem hv
   obtain ⟨u, u1, u2⟩ := v2.at_ i (by rw [← hul]; exact hi)
   rw [List.getElem?_eq_getElem hi] at u1
   injection u1 with u1
   rw [u1]
   exact ⟨_, u2⟩
  have hvp := hR.sm.vars
  rw [List.length_map] at hul hvn
  refine ⟨⟨env_ok hR v2, v2.disj, fun v hv => ?_, fun v hv => ?_, ?_, ?_, fun x hx => ?_, fun x hx => ?_, s4⟩, st_first v2, s3, n3, by show S.length ≤ 45; omega⟩
  ·obtain ⟨d, hd⟩ := hu v hv
   have q1 := v2.fit v hv
   have q2 := hd.low
   have q3 := hd.top
   exact ⟨⟨q1.2, q2⟩, by omega⟩
  ·obtain ⟨d, hd⟩ := hu v hv
   exact ⟨hd.few, hd.txt⟩
  ·show 0 < us.length
   omega
  ·show us.length ≤ 10
   omega
  ·obtain ⟨r, hr, ms, rfl, _, hp⟩ := s3 x hx
   have g := rgood hR (List.mem_append_left t.nevers hr)
   exact ⟨hp, g.full, g.blk.1, g.blk.2, hty r hr⟩
  ·obtain ⟨r, hr, ms, rfl, _, hp⟩ := n3 x hx
   have g := rgood hR (List.mem_append_right t.rules hr)
   exact ⟨hp, g.full⟩

end Go.Proofs.YtpmcnonmkghokaaGreatDoor
namespace Go.Proofs.YtpmcnonmkghokaaGreatDoor
open Go.RowKit
theorem play_is {s : ByteArray} (h : (chkC s).1 = 0) {a : Mach} (ha : machO s = some a) (l : List ByteArray) (hl : l.length ≤ 60) (hz : a.size ≤ 1000000) : playO s l = wlkO a l 0 (List.replicate a.size 0) := by
 unfold playO
 rw [h]
 show (machO s).bind _ = _
 rw [ha]
 show walkO a l = _
 unfold walkO
 rw [if_neg (by omega), if_pos hz]
def askT : ByteArray := ⟨#[63]⟩
theorem ask_no {t : PTree} {a : Mach} (h : MachOf t a) : ∀ x ∈ a.steps, x.text.toList ≠ askT.toList := by
 intro x hx e
 obtain ⟨r, _, z, rfl, _⟩ := h.steps x hx
 have e2 : (insT r.name.text z).toList = askT.toList := e
 rw [ins_list, show askT.toList = [63] from toList_lit [63]] at e2
 have := congrArg List.reverse e2
 simp at this
theorem wlk_stop {tab : Tab} {kz sz : List UInt8 → Nat} {a : Mach} (h : MachGood tab kz sz a) {st st' : List Int} (hs : StOk a.vars a.size st) {l : List ByteArray} (hr : runO a l st = some st') {t : ByteArray} {q : List Int} (hb : behO a.vars a.tab st' t.toList a.steps = some (q, false)) : wlkO a (l ++ [t]) 0 st = some (noView, false, 7, (l.length : Int)) := by
 obtain ⟨h1, h2⟩ := wlk_run h [t] l 0 st st' hs hr
 rw [h2, wlkO]
 have := h1.len
 have hz := h.env.size
 rw [if_pos (by omega), hb]
 show some (noView, false, 7, ((0 + l.length : Nat) : Int)) = _
 rw [Nat.zero_add]
structure WkOk (s : ByteArray) (a : Mach) (l : List ByteArray) (v : MView) : Prop where
 play : playO s l = some (v, mvDead v, 0, 0)
 wrong : ∀ t ∈ v.wrong, playO s (l ++ [t]) = some (noView, false, 7, (l.length : Int))
 ask : playO s (l ++ [askT]) = some (noView, false, 7, (l.length : Int))
 next : ∀ t ∈ v.enabled, ∃ st', runO a (l ++ [t]) (List.replicate a.size 0) = some st'
 few : v.enabled.length ≤ 45 ∧ v.wrong.length ≤ 45
theorem wk_ok {s : ByteArray} (h : (chkC s).1 = 0) {a : Mach} (ha : machO s = some a) {tr : PTree} (hm : MachOf tr a) {l : List ByteArray} (hl : l.length ≤ 50) {st : List Int} (hr : runO a l (List.replicate a.size 0) = some st) : ∃ v, WkOk s a l v := by
 have hg := hm.good
 have hz := hg.env.size
 have hfew := hm.few
 obtain ⟨hs, hw⟩ := wlk_run hg [] l 0 _ st hm.first hr
 obtain ⟨v, v1, v2, v3⟩ := look_ok hg hs
 have hsl := hs.len
 refine ⟨v, ?_, fun t ht => ?_, ?_, fun t ht => ?_, ?_⟩
 ·rw [play_is h ha l (by omega) (by omega)]
  rw [List.append_nil] at hw
  rw [hw, wlkO, if_pos (by omega), v1]
  rfl
 ·rw [v3] at ht
  obtain ⟨x, hx, rfl⟩ := List.mem_map.mp ht
  obtain ⟨hx1, hx2⟩ := List.mem_filter.mp hx
  obtain ⟨r, r1, r2, _⟩ := beh_at hg hs a.steps (fun _ hy => hy) hg.nodup x hx1
  rw [Bool.and_eq_true, Bool.not_eq_true'] at hx2
  rw [hx2.1] at r2
  rw [play_is h ha _ (by rw [List.length_append]; simp; omega) (by omega)]
  exact wlk_stop hg hm.first hr (q := r.1) (by rw [r1, ← r2])
 ·rw [play_is h ha _ (by rw [List.length_append]; simp; omega) (by omega)]
  exact wlk_stop hg hm.first hr (q := []) (beh_no a.steps (ask_no hm))
 ·rw [v2] at ht
  obtain ⟨x, hx, rfl⟩ := List.mem_map.mp ht
  obtain ⟨hx1, hx2⟩ := List.mem_filter.mp hx
  obtain ⟨r, r1, r2, _⟩ := beh_at hg hs a.steps (fun _ hy => hy) hg.nodup x hx1
  rw [hx2] at r2
  rw [run_snoc a x.text l _ st hr, r1]
  exact ⟨r.1, by show (if r.2 then some r.1 else none) = _; rw [r2, if_pos rfl]⟩
 ·rw [v2, v3, List.length_map, List.length_map]
  have := List.length_filter_le (fun s => outN a st s == 1) a.steps
  have := List.length_filter_le (fun s => !(outN a st s == 1) && outN a st s == 2) a.steps
  omega

end Go.Proofs.YtpmcnonmkghokaaGreatDoor
namespace Go.Proofs.YtpmcnonmkghokaaGreatDoor
open Go.RowKit
def mtxA : ByteArray := (⟨#[115, 101, 116, 32, 112, 32, 51, 59, 32, 107, 105, 110, 100, 32, 109, 111, 100, 101, 32, 123, 32, 105, 100, 108, 101, 44, 32, 98, 117, 115, 121, 44, 32, 99, 114, 105, 116, 32, 125, 32, 118, 97, 114, 32, 115, 116, 32, 58, 32, 91, 112, 93, 32, 109, 111, 100, 101, 59, 32, 118, 97, 114, 32, 111, 119, 110, 32, 58, 32, 112, 59, 10, 114, 117, 108, 101, 32, 97, 115, 107, 40, 105, 32, 58, 32, 112, 41, 32, 105, 102, 32, 115, 116, 91, 105, 93, 32, 61, 61, 32, 105, 100, 108, 101, 32, 123, 32, 115, 116, 91, 105, 93, 32, 61, 32, 98, 117, 115, 121, 59, 32, 125, 32, 114, 117, 108, 101, 32, 103, 101, 116, 40, 105, 32, 58, 32, 112, 41, 32, 105, 102, 32, 115, 116, 91, 105, 93, 32, 61, 61, 32, 98, 117, 115, 121]⟩ : ByteArray)
def mtxB : ByteArray := (⟨#[32, 38, 32, 111, 119, 110, 32, 61, 61, 32, 110, 111, 110, 101]⟩ : ByteArray)
def mtxC : ByteArray := (⟨#[32, 123, 32, 115, 116, 91, 105, 93, 32, 61, 32, 99, 114, 105, 116, 59, 32, 111, 119, 110, 32, 61, 32, 105, 59, 32, 125, 32, 114, 117, 108, 101, 32, 112, 117, 116, 40, 105, 32, 58, 32, 112, 41, 32, 105, 102, 32, 115, 116, 91, 105, 93, 32, 61, 61, 32, 99, 114, 105, 116, 32, 123, 32, 115, 116, 91, 105, 93, 32, 61, 32, 105, 100, 108, 101, 59, 32, 111, 119, 110, 32, 61, 32, 110, 111, 110, 101, 59, 32, 125, 10, 110, 101, 118, 101, 114, 32, 98, 111, 116, 104, 40, 105, 32, 58, 32, 112, 44, 32, 106, 32, 58, 32, 112, 41, 32, 105, 32, 33, 61, 32, 106, 32, 38, 32, 115, 116, 91, 105, 93, 32, 61, 61, 32, 99, 114, 105, 116, 32, 38, 32, 115, 116, 91, 106, 93, 32, 61, 61, 32, 99, 114, 105, 116, 59]⟩ : ByteArray)
def mtx : ByteArray := (mtxA ++ mtxB) ++ mtxC
def setFour : ByteArray := (⟨#[115, 101, 116, 32, 112, 32, 52, 59]⟩ : ByteArray)
def askOne : ByteArray := (⟨#[97, 115, 107, 40, 49, 41]⟩ : ByteArray)
def getOne : ByteArray := (⟨#[103, 101, 116, 40, 49, 41]⟩ : ByteArray)
set_option maxRecDepth 1000000 in
theorem mtx_check : chkC mtx = (0, 0) := by decide +kernel
set_option maxRecDepth 1000000 in
theorem four_check : chkC setFour = (3, 8) := by decide +kernel
set_option maxRecDepth 1000000 in
theorem mtx_play : (match playO mtx [askOne, getOne] with | some r => (r.1.text.toList == [91, 105, 100, 108, 101, 32, 99, 114, 105, 116, 32, 105, 100, 108, 101, 93, 32, 49]) && ((r.1.enabled.map (·.toList)) == [[97, 115, 107, 40, 48, 41], [97, 115, 107, 40, 50, 41], [112, 117, 116, 40, 49, 41]]) && (r.1.wrong.length == 0) && (r.1.broken.length == 0) && (r.2.1 == false) && (r.2.2.1 == 0) && (r.2.2.2 == 0) | none => false) = true := by decide +kernel
theorem mtx_played : ∃ r, playO mtx [askOne, getOne] = some r ∧ r.1.text.toList = [91, 105, 100, 108, 101, 32, 99, 114, 105, 116, 32, 105, 100, 108, 101, 93, 32, 49] ∧ r.1.enabled.map (·.toList) = [[97, 115, 107, 40, 48, 41], [97, 115, 107, 40, 50, 41], [112, 117, 116, 40, 49, 41]] ∧ r.1.wrong = [] ∧ r.1.broken = [] ∧ r.2.1 = false ∧ r.2.2.1 = 0 ∧ r.2.2.2 = 0 := by
 have h := mtx_play
 cases hp : playO mtx [askOne, getOne] with
 | none => rw [hp] at h; cases h
 | some r =>
  rw [hp] at h
  simp only [Bool.and_eq_true, beq_iff_eq] at h
  obtain ⟨⟨⟨⟨⟨⟨h1, h2⟩, h3⟩, h4⟩, h5⟩, h6⟩, h7⟩ := h
  exact ⟨r, rfl, h1, h2, List.eq_nil_of_length_eq_zero h3, List.eq_nil_of_length_eq_zero h4, h5, h6, h7⟩
end Go.Proofs.YtpmcnonmkghokaaGreatDoor
namespace Go.Proofs.YtpmcnonmkghokaaGreatDoor
open Go.RowKit
attribute [local go_sem ↓] Go.wp_at_zero Go.wp_at_succ
set_option maxRecDepth 100000 in
set_option maxHeartbeats 4000000 in
theorem mutex_true (w : World) : Calls Tryz.prog 39 #[.bool true] w fun e w' => e = .returned (.string mtx) ∧ w' = w := by
 go_enter Tryz.func39, Tryz.ntmps39
 go_wp2
 go_ret
 exact ⟨rfl, rfl⟩

def pickN (c : Int) (n : Nat) : Nat := ((if c < 0 then -(c + 1) else c) % n).toNat
set_option maxRecDepth 100000 in
set_option maxHeartbeats 4000000 in
theorem pick_any (c : Int) (n : Nat) (w : World) (h0 : -9223372036854775808 ≤ c) (h1 : c ≤ 9223372036854775807) (hn : 0 < n) (hn2 : n ≤ 1000000) : Calls Tryz.prog 19 #[.int .i64 c, .int .i64 n] w fun e w' => e = .returned (.int .i64 (pickN c n)) ∧ pickN c n < n ∧ w' = w := by
 have hnz : ((n : Int) == 0) = false := by simp; omega
 have hnz' : ¬ ((n : Int) = 0) := by omega
 by_cases hc : c < 0
 ·have e : (pickN c n : Int) = (-(c + 1)).tmod n := by
   rw [pickN, if_pos hc, Int.toNat_of_nonneg (Int.emod_nonneg _ (by omega)), Int.tmod_eq_emod_of_nonneg (by omega)]
  have hlt : pickN c n < n := by
   have := Int.emod_lt_of_pos (-(c + 1)) (b := (n : Int)) (by omega)
   have h3 := Int.emod_nonneg (-(c + 1)) (b := (n : Int)) (by omega)
   rw [pickN, if_pos hc]; omega
  have w1 : IntKind.i64.wrap (c + 1) = c + 1 := by rw [IntKind.wrap_i64]; omega
  have w2 : IntKind.i64.wrap (-(c + 1)) = -(c + 1) := by rw [IntKind.wrap_i64]; omega
  have w3 : IntKind.i64.wrap (-1 + -c) = -1 + -c := by rw [IntKind.wrap_i64]; omega
  have w4 : IntKind.i64.wrap ((-(c + 1)).tmod n) = (-(c + 1)).tmod n := by rw [← e, IntKind.wrap_i64]; omega
  have HE := hide e.symm
  have HL := hide hlt
  clear e hlt
  go_enter Tryz.func19, Tryz.ntmps19
  go_wp2
  go_ret
  exact ⟨ret_int (by rw [← unhide HE, Int.neg_tmod]), unhide HL, rfl⟩
 ·have e : (pickN c n : Int) = c.tmod n := by
   rw [pickN, if_neg hc, Int.toNat_of_nonneg (Int.emod_nonneg _ (by omega)), Int.tmod_eq_emod_of_nonneg (by omega)]
  have hlt : pickN c n < n := by
   have := Int.emod_lt_of_pos c (b := (n : Int)) (by omega)
   have h3 := Int.emod_nonneg c (b := (n : Int)) (by omega)
   rw [pickN, if_neg hc]; omega
  have w4 : IntKind.i64.wrap (c.tmod n) = c.tmod n := by rw [← e, IntKind.wrap_i64]; omega
  have HE := hide e.symm
  have HL := hide hlt
  clear e hlt
  go_enter Tryz.func19, Tryz.ntmps19
  go_wp2
  go_ret
  exact ⟨ret_int (by rw [← unhide HE, Int.tmod_eq_emod_of_nonneg (by omega)]), unhide HL, rfl⟩

theorem str_eq {a : ByteArray} {l : List UInt8} (h : a.toList = l) (b : ByteArray) (hb : b.toList = l) : a = b := byte_eq (h.trans hb.symm)
set_option maxRecDepth 100000 in
set_option maxHeartbeats 8000000 in
theorem awake_any (w : World) : Calls Tryz.prog 15 #[] w fun e w' => e = .returned (.bool true) ∧ Below w.heap.size w w' := by
 obtain ⟨r, hp, h1, h2, h3, h4, h5, h6, h7⟩ := mtx_played
 have htxt : r.1.text = ⟨#[91, 105, 100, 108, 101, 32, 99, 114, 105, 116, 32, 105, 100, 108, 101, 93, 32, 49]⟩ := str_eq h1 _ (by decide +kernel)
 have hel : r.1.enabled.length = 3 := by have := congrArg List.length h2; simpa using this
 have he2 : r.1.enabled[2]? = some ⟨#[112, 117, 116, 40, 49, 41]⟩ := by
  have h9 : (r.1.enabled.map (·.toList))[2]? = some [112, 117, 116, 40, 49, 41] := by rw [h2]; rfl
  rw [List.getElem?_map] at h9
  obtain ⟨x, hx, hx2⟩ := Option.map_eq_some_iff.mp h9
  rw [hx, str_eq hx2 ⟨#[112, 117, 116, 40, 49, 41]⟩ (by decide +kernel)]
 have HMT := hide mutex_true
 have HC1 := hide (fun wx => (show Calls Tryz.prog 16 #[.string mtx] wx fun e w' => e = .returned (.tuple #[.int .i64 0, .int .i64 0]) ∧ Below wx.heap.size wx w' from by have := check_any mtx wx; rw [mtx_check] at this; exact this))
 have HC2 := hide (fun wx => (show Calls Tryz.prog 16 #[.string ⟨#[115, 101, 116, 32, 112, 32, 52, 59]⟩] wx fun e w' => e = .returned (.tuple #[.int .i64 3, .int .i64 8]) ∧ Below wx.heap.size wx w' from by have := check_any setFour wx; rw [four_check] at this; exact this))
 have HPL := hide (fun (wx : World) (pa : Option Addr) (pn pc : Nat) (ho : wx.ownsRow 0 9 1 (.slice pa pn pc) 2 [.string askOne, .string getOne]) => play_any mtx wx [askOne, getOne] pa pn pc ho (by simp) r hp)
 clear hp h1 h2
 generalize mtx = mm at *
 go_enter Tryz.func15, Tryz.ntmps15
 go_wp2_with fail
 refine ((unhide HMT) _).mono ?_
 rintro e w0 ⟨rfl, rfl⟩
 go_wp2_with fail
 refine ((unhide HC1) _).mono ?_
 rintro e w1 ⟨rfl, hb1⟩
 have HB1 := hide hb1
 have hs1 := hb1.size
 clear hb1
 go_wp2_with fail
 refine ((unhide HC2) _).mono ?_
 rintro e w2 ⟨rfl, hb2⟩
 have HB2 := hide ((unhide HB1).trans (hb2.mono hs1))
 have hs2 := hb2.size
 clear hb2
 go_wp2_with fail
 refine ((unhide HMT) _).mono ?_
 rintro e w3 ⟨rfl, rfl⟩
 have HST := hide (show (w3.alloc (.cells #[.string ⟨#[97, 115, 107, 40, 49, 41]⟩, .string ⟨#[103, 101, 116, 40, 49, 41]⟩] 9)).ownsRow 0 9 1 (.slice (some ⟨w3.heap.size, 0, none⟩) 2 2) 2 [.string askOne, .string getOne] from ⟨rfl, Or.inr ⟨w3.heap.size, 2, _, rfl, Nat.zero_le _, alloc_new _ _, Nat.le_refl _, by unfold maxLen; omega, rfl, rfl⟩⟩)
 have HB3 := hide ((unhide HB2).alloc (by omega) (.cells #[.string ⟨#[97, 115, 107, 40, 49, 41]⟩, .string ⟨#[103, 101, 116, 40, 49, 41]⟩] 9))
 go_wp2_with fail
 refine ((unhide HPL) _ _ _ _ (unhide HST)).mono ?_
 rintro e w4 ⟨ea, en, ec, wa, wn, wc, ba, bn, bc, rfl, hp1, hp2, hp3, hb4⟩
 rw [h3] at hp2
 rw [h4] at hp3
 rw [h5, h6, h7, htxt]
 obtain ⟨za, zc, ez, hv⟩ := own_viewB hp1
 injection ez with ez1 ez2 ez3
 subst ez1; subst ez2; subst ez3
 obtain ⟨g, rfl, hg1, hg2, hc⟩ := hv 2 (by omega)
 have e2 : w4.cell? ⟨g, 2, none⟩ = some (.string ⟨#[112, 117, 116, 40, 49, 41]⟩) := by rw [hc 2 (by omega), List.getElem?_map, he2]; rfl
 obtain ⟨za, zc, ez, _⟩ := own_viewB hp2
 injection ez with ez1 ez2 ez3
 subst ez1; subst ez2; subst ez3
 obtain ⟨za, zc, ez, _⟩ := own_viewB hp3
 injection ez with ez1 ez2 ez3
 subst ez1; subst ez2; subst ez3
 rw [hel]
 have hs4 := hb4.size
 have HB4 := hide ((unhide HB3).trans (hb4.mono (by simp; omega)))
 clear hp1 hp2 hp3 hb4 hc hv HPL HC1 HC2 HMT
 simp only [List.length_nil]
 go_wp2
 go_ret
 exact ⟨rfl, (unhide HB4).alloc (by simp at hs4; omega) _⟩

end Go.Proofs.YtpmcnonmkghokaaGreatDoor
namespace Go.Proofs.YtpmcnonmkghokaaGreatDoor
open Go.RowKit
attribute [local go_sem ↓] Go.wp_at_zero Go.wp_at_succ
set_option maxRecDepth 100000 in
set_option maxHeartbeats 4000000 in
theorem with_any (w : World) (lo : Nat) (l : List ByteArray) (t : ByteArray) (a : Option Addr) (n c : Nat) (hS : w.ownsRow lo 9 1 (.slice a n c) l.length (l.map Value.string)) (hl : l.length ≤ 1000000) :
  Calls Tryz.prog 18 #[.slice a n c, .string t] w fun e w' => ∃ a2 n2 c2, e = .returned (.slice a2 n2 c2) ∧ w'.ownsRow w.heap.size 9 1 (.slice a2 n2 c2) (l.length + 1) ((l ++ [t]).map Value.string) ∧ Below w.heap.size w w' := by
 obtain ⟨i0, hi, hz0, hz1, hz2⟩ := info_parts Tryz.infoStr0
 have HS := hide hS
 have HO := hide (World.ownsRow_nil w w.heap.size 9 1)
 clear hS
 go_enter Tryz.func18, Tryz.ntmps18
 go_wp2_with (at_builtin; refine wpList_append_slice rfl _ _ 22 rfl w.heap.size 9 i0 _ 1 16 Tryz.underlying22 hi hz0 hz1 hz2 rfl (by decide) (.slice none 0 0) 0 [] rfl (unhide HO) (.slice a n c) l.length _ _ rfl (unhide HS) (by intro y hy; obtain ⟨x, _, rfl⟩ := List.mem_map.mp hy; rfl) (by unfold maxLen; omega) (by omega) (by omega) ?_)
 intro v3 w3 hown3 hgrow3 hat3
 have HB3 := hide ((Below.refl w.heap.size w).grown hgrow3 (Nat.le_refl _) (own_ge (unhide HO)))
 have hs3 := (unhide HB3).size
 obtain ⟨a3, l3, c3, rfl⟩ := own_slice hown3
 have HV3 := hide hown3
 clear hown3 hgrow3 hat3 HO
 go_wp2_with (at_builtin; refine wpList_append_own_at _ rfl _ _ 22 rfl w.heap.size 9 i0 _ 1 16 Tryz.underlying22 hi hz0 hz1 hz2 rfl (by decide) (.slice a3 l3 c3) _ _ rfl ((unhide HV3).alloc _) ⟨w3.heap.size, 0, none⟩ 1 1 [.string t] rfl rfl (cells_new w3 _ [.string t] _ rfl) (by intro y hy; simp at hy; subst hy; rfl) (by unfold maxLen; omega) (by omega) (by simp; omega) ?_)
 intro v' w' hown hgrow _ hat
 obtain ⟨a4, l4, c4, rfl⟩ := own_slice hown
 have HO' := hide (show w'.ownsRow w.heap.size 9 1 (.slice a4 l4 c4) (l.length + 1) ((l ++ [t]).map Value.string) by rw [List.map_append]; exact hown)
 have HB' := hide (((unhide HB3).alloc hs3 _).grown hgrow (by simp; omega) (own_ge (unhide HV3)))
 clear hown hgrow hat
 go_wp2
 go_ret
 exact ⟨a4, l4, c4, rfl, unhide HO', unhide HB'⟩

set_option maxRecDepth 100000 in
set_option maxHeartbeats 4000000 in
theorem quiet_none (w : World) (a0 a1 a2 : Option Addr) (c0 c1 c2 : Nat) :
  Calls Tryz.prog 17 #[.agg #[.string ⟨#[]⟩, .slice a0 0 c0, .slice a1 0 c1, .slice a2 0 c2, .bool false]] w fun e w' => e = .returned (.bool true) ∧ Below w.heap.size w w' := by
 go_enter Tryz.func17, Tryz.ntmps17
 go_wp2
 go_ret
 exact ⟨rfl, below_alloc1 _ _⟩

end Go.Proofs.YtpmcnonmkghokaaGreatDoor

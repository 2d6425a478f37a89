/-
  The reference's types: isSet, simple, alone; and known.
  The reference's typed: the type of an expression, as the plain function typedT says.
  The reference's typed, whole, by induction on the expression.
  The reference's well: are all statements typed as they must be?
-/
import Derived.Test.YtpmcnonmkghokaaGreatT09
import Derived.Deep.RegionWith
set_option linter.unusedVariables false
set_option linter.unusedSimpArgs false
namespace Go.Proofs.YtpmcnonmkghokaaGreat
open Go.RowKit

def sSetB : ByteArray := ⟨#[115, 101, 116, 32]⟩
def sKindB : ByteArray := ⟨#[107, 105, 110, 100, 32]⟩
def sTruth : ByteArray := ⟨#[116, 114, 117, 116, 104]⟩
def sNumber : ByteArray := ⟨#[110, 117, 109, 98, 101, 114]⟩
def sNone : ByteArray := ⟨#[110, 111, 110, 101]⟩
def sEmpty : ByteArray := ⟨#[]⟩
theorem ret_str {a b : ByteArray} (h : a = b) : Ending.returned (.string a) = .returned (.string b) := by rw [h]

def isSetB (s : ByteArray) : Bool := decide (4 < s.size) && ((s.extract 0 4).toList == [115, 101, 116, 32])
set_option maxHeartbeats 400000 in
theorem isSet_any (s : ByteArray) (w : World) (hs : s.size ≤ 2000) : Calls Tryz.prog 50 #[.string s] w fun e w' => e = .returned (.bool (isSetB s)) ∧ w' = w := by
  by_cases h : 4 < s.size
  · go_enter Tryz.func50, Tryz.ntmps50
    go_wp2
    go_ret
    exact ⟨ret_bool (by simp [isSetB, h]), rfl⟩
  · go_enter Tryz.func50, Tryz.ntmps50
    go_wp2
    go_ret
    exact ⟨ret_bool (by simp [isSetB, h]), rfl⟩

theorem TreeIs.stay {w w' : World} {T : Nat} {t : PTree} (h : TreeIs w T t) (hk : ∀ k, T ≤ k → k < w.heap.size → w'.heap[k]? = w.heap[k]?) : TreeIs w' T t := by
  obtain ⟨x0, x1, x2, x3, x4, y1, y3, y4, hT, h0, ⟨h1, h1'⟩, h2, ⟨h3, h3'⟩, ⟨h4, h4'⟩⟩ := h
  have hk' : ∀ k, T + 1 ≤ k → k < w.heap.size → w'.heap[k]? = w.heap[k]? := fun k h1 h2 => hk k (by omega) h2
  exact ⟨x0, x1, x2, x3, x4, y1, y3, y4, by rw [hk T (Nat.le_refl _) (lt_of_block hT)]; exact hT, owns_stay hk' h0, ⟨owns_stay hk' h1, h1'.stay hk'⟩, owns_stay hk' h2, ⟨owns_stay hk' h3, h3'.stay hk'⟩, ⟨owns_stay hk' h4, h4'.stay hk'⟩⟩
theorem TreeIs.below {w w' : World} {T : Nat} {t : PTree} (h : TreeIs w T t) (hb : Below w.heap.size w w') : TreeIs w' T t := h.stay fun k _ hk => hb.block k hk

/-- The type of a variable, or of what its array holds. -/
def simpleT (t : PTree) (v : PVar) : ByteArray :=
  if v.type_.kind.toList == [119, 111, 114, 100] then (if v.type_.text.toList == [98, 111, 111, 108] then sTruth else sNumber)
  else if 0 ≤ lookI (kindTexts t) v.type_.text.toList then sKindB ++ v.type_.text else sSetB ++ v.type_.text

set_option maxRecDepth 100000 in
set_option maxHeartbeats 1000000 in
theorem simple_any (w : World) (T : Nat) (t : PTree) (v : PVar) (h : TreeIs w T t) (hl : t.kinds.length ≤ 801) (hv : v.type_.text.size ≤ 800) :
    Calls Tryz.prog 49 #[.pointer (some ⟨T, 0, none⟩), varV v] w fun e w' => e = .returned (.string (simpleT t v)) ∧ Below w.heap.size w w' := by
  have HT := hide h
  clear h
  unfold varV varCells tokCells
  simp only [List.cons_append, List.nil_append]
  go_enter Tryz.func49, Tryz.ntmps49
  go_wp2_with fail
  refine (kind_find _ T t v.type_.text ((unhide HT).below (below_alloc1 _ _)) hl).mono ?_
  rintro e w1 ⟨rfl, rfl⟩
  cases h1 : (v.type_.kind.toList == [119, 111, 114, 100])
  · by_cases h2 : 0 ≤ lookI (kindTexts t) v.type_.text.toList
    · have HE := hide (show simpleT t v = sKindB ++ v.type_.text by simp [simpleT, h1, h2])
      generalize lookI (kindTexts t) v.type_.text.toList = n at h2 ⊢
      go_wp2
      go_ret
      exact ⟨ret_str (by rw [unhide HE]; rfl), below_alloc1 _ _⟩
    · have HE := hide (show simpleT t v = sSetB ++ v.type_.text by simp [simpleT, h1, h2])
      generalize lookI (kindTexts t) v.type_.text.toList = n at h2 ⊢
      go_wp2
      go_ret
      exact ⟨ret_str (by rw [unhide HE]; rfl), below_alloc1 _ _⟩
  · generalize lookI (kindTexts t) v.type_.text.toList = n
    cases h2 : (v.type_.text.toList == [98, 111, 111, 108])
    · have HE := hide (show simpleT t v = sNumber by simp [simpleT, h1, h2])
      go_wp2
      go_ret
      exact ⟨ret_str (by rw [unhide HE]; rfl), below_alloc1 _ _⟩
    · have HE := hide (show simpleT t v = sTruth by simp [simpleT, h1, h2])
      go_wp2
      go_ret
      exact ⟨ret_str (by rw [unhide HE]; rfl), below_alloc1 _ _⟩

def knownB (t : PTree) (l : List PP) (s : List UInt8) : Bool := decide (0 ≤ (memI t.kinds s).1) || decide (0 ≤ lookI (varTexts t) s) || decide (0 ≤ lookI (parTexts l) s)

/-- What is asked of a tree's lengths. -/
structure TreeOk (t : PTree) : Prop where
  sets : t.sets.length ≤ 801
  kinds : t.kinds.length ≤ 801
  vars : t.vars.length ≤ 801
  members : ∀ k ∈ t.kinds, k.members.length ≤ 801

set_option maxRecDepth 100000 in
set_option maxHeartbeats 1000000 in
theorem known_any (w : World) (T lo : Nat) (t : PTree) (n : Tok) (l : List PP) (va : Option Addr) (vn vc : Nat) (vg : Option Addr) (ba : Option Addr) (bn bc : Nat) (s : ByteArray) (h : TreeIs w T t) (ht : TreeOk t)
    (hp : w.ownsRow lo 103 6 (.slice va vn vc) l.length (ppsCells l)) (hl : l.length ≤ 801) :
    Calls Tryz.prog 46 #[.pointer (some ⟨T, 0, none⟩), ruleV n (.slice va vn vc) (.pointer vg) (.slice ba bn bc), .string s] w fun e w' => e = .returned (.bool (knownB t l s.toList)) ∧ Below w.heap.size w w' := by
  have HT := hide h
  have HP := hide hp
  clear h hp
  unfold ruleV
  go_enter Tryz.func46, Tryz.ntmps46
  go_wp2_with fail
  refine (member_any _ T t s ((unhide HT).below (below_alloc1 _ _)) ht.kinds ht.members).mono ?_
  rintro e w1 ⟨rfl, rfl⟩
  go_wp2_with fail
  refine (var_find _ T t s ((unhide HT).below (below_alloc1 _ _)) ht.vars).mono ?_
  rintro e w1 ⟨rfl, rfl⟩
  go_wp2_with fail
  refine (param_any _ lo n l va vn vc vg ba bn bc s (owns_below (unhide HP) (below_alloc1 _ _)) hl).mono ?_
  rintro e w1 ⟨rfl, hb1⟩
  have HB := hide ((below_alloc1 w _).trans (hb1.mono (by simp)))
  have HE := hide (show knownB t l s.toList = (decide (0 ≤ (memI t.kinds s.toList).1) || decide (0 ≤ lookI (varTexts t) s.toList) || decide (0 ≤ lookI (parTexts l) s.toList)) from rfl)
  clear hb1
  generalize (memI t.kinds s.toList).1 = a at HE ⊢
  generalize (memI t.kinds s.toList).2 = a2
  generalize lookI (varTexts t) s.toList = b at HE ⊢
  generalize lookI (parTexts l) s.toList = c at HE ⊢
  by_cases h1 : 0 ≤ a
  · go_wp2
    go_ret
    exact ⟨ret_bool (by rw [unhide HE]; simp [h1]), unhide HB⟩
  · by_cases h2 : 0 ≤ b
    · go_wp2
      go_ret
      exact ⟨ret_bool (by rw [unhide HE]; simp [h1, h2]), unhide HB⟩
    · go_wp2
      go_ret
      exact ⟨ret_bool (by rw [unhide HE]; try simp [h1, h2]), unhide HB⟩

theorem memI_bd : ∀ (l : List PKind) (s : List UInt8), -1 ≤ (memI l s).1 ∧ (memI l s).1 < l.length
  | [], _ => by simp [memI]
  | t :: l, s => by
    have ih := memI_bd l s
    rw [memI]
    split
    · simp
    · split
      · simp; omega
      · simp; omega

/-- The type of a name by itself. -/
def aloneT (t : PTree) (l : List PP) (s : List UInt8) : ByteArray :=
  if 0 ≤ lookI (parTexts l) s then sSetB ++ (l.getD (lookI (parTexts l) s).toNat ⟨noTok, noTok⟩).set_.text
  else if 0 ≤ (memI t.kinds s).1 then sKindB ++ (t.kinds.getD (memI t.kinds s).1.toNat ⟨noTok, []⟩).name.text
  else if 0 ≤ lookI (varTexts t) s then
    (if (t.vars.getD (lookI (varTexts t) s).toNat ⟨noTok, noTok, noTok, noTok⟩).over.kind.toList == [110, 97, 109, 101] then sEmpty else simpleT t (t.vars.getD (lookI (varTexts t) s).toNat ⟨noTok, noTok, noTok, noTok⟩))
  else sEmpty

/-- The texts in a tree are short. -/
structure TreeFit (t : PTree) : Prop where
  kinds : ∀ k ∈ t.kinds, k.name.text.size ≤ 800
  vars : ∀ v ∈ t.vars, v.type_.text.size ≤ 800 ∧ v.over.text.size ≤ 800

set_option maxRecDepth 100000 in
set_option maxHeartbeats 2000000 in
theorem alone_any (w : World) (T lo : Nat) (t : PTree) (n : Tok) (l : List PP) (va : Option Addr) (vn vc : Nat) (vg : Option Addr) (ba : Option Addr) (bn bc : Nat) (s : ByteArray) (h : TreeIs w T t) (ht : TreeOk t) (hf : TreeFit t) (hlf : ∀ p ∈ l, p.set_.text.size ≤ 800)
    (hp : w.ownsRow lo 103 6 (.slice va vn vc) l.length (ppsCells l)) (hl : l.length ≤ 801) :
    Calls Tryz.prog 47 #[.pointer (some ⟨T, 0, none⟩), ruleV n (.slice va vn vc) (.pointer vg) (.slice ba bn bc), .string s] w fun e w' => e = .returned (.string (aloneT t l s.toList)) ∧ Below w.heap.size w w' := by
  have HT := hide h
  have HP := hide hp
  clear h hp
  unfold ruleV
  go_enter Tryz.func47, Tryz.ntmps47
  go_wp2_with fail
  refine (param_any _ lo n l va vn vc vg ba bn bc s (owns_below (unhide HP) (below_alloc1 _ _)) hl).mono ?_
  rintro e w1 ⟨rfl, hb1⟩
  have hbb := (below_alloc1 w _).trans (hb1.mono (by simp))
  have hX1 := (hb1.block w.heap.size (by simp)).trans (heap_alloc_new w _)
  have HX1 := hide hX1
  have HB := hide hbb
  have HT1 := hide ((unhide HT).below hbb)
  have HP1 := hide (owns_below (unhide HP) hbb)
  clear hb1 hbb HT HP hX1
  go_wp2_with fail
  refine (var_find _ T t s (unhide HT1) ht.vars).mono ?_
  rintro e w2 ⟨rfl, rfl⟩
  go_wp2_with fail
  refine (member_any _ T t s (unhide HT1) ht.kinds ht.members).mono ?_
  rintro e w2 ⟨rfl, rfl⟩
  obtain ⟨d0, d1, d2, d3, d4, d5, _⟩ := row6 (unhide HX1)
  obtain ⟨x0, x1, x2, x3, x4, y1, y3, y4, hT, h0, ⟨h1, h1'⟩, h2, _⟩ := unhide HT1
  obtain ⟨q0, q1, q2, q3, q4, _⟩ := row5 hT
  have bp := lookI_bd (parTexts l) s.toList
  have bm := memI_bd t.kinds s.toList
  have bv := lookI_bd (varTexts t) s.toList
  rw [show (parTexts l).length = l.length by simp [parTexts]] at bp
  rw [show (varTexts t).length = t.vars.length by simp [varTexts]] at bv
  by_cases c1 : 0 ≤ lookI (parTexts l) s.toList
  · obtain ⟨np, hnp⟩ := Int.eq_ofNat_of_zero_le c1
    have hlt : np < l.length := by omega
    have hgd : l.getD np ⟨noTok, noTok⟩ = l[np] := getD_at _ _ _ hlt
    have HE := hide (show aloneT t l s.toList = sSetB ++ (l[np]).set_.text by rw [aloneT, if_pos c1, hnp, Int.toNat_natCast, hgd])
    have hsz := hlf _ (List.getElem_mem hlt)
    obtain ⟨a, cap, hv, hview⟩ := own_view (unhide HP1)
    cases hv
    obtain ⟨g, rfl, hc⟩ := hview np hlt
    have hck : w2.cell? ⟨g, np * 6 + 4, none⟩ = some (.string (l[np]).set_.text) := by
      rw [hc _ (by omega)]
      exact flat_at ppCells 6 (fun _ => rfl) l np 4 hlt (by omega)
    rw [hnp]
    generalize l[np] = P at hck HE hsz
    generalize lookI (varTexts t) s.toList = b
    generalize (memI t.kinds s.toList).1 = c
    generalize (memI t.kinds s.toList).2 = c'
    clear hview hc hgd hnp c1 bp bm bv h0 h1 h1' h2 hT
    go_wp2
    go_ret
    exact ⟨ret_str (by rw [unhide HE]; rfl), unhide HB⟩
  · by_cases c2 : 0 ≤ (memI t.kinds s.toList).1
    · obtain ⟨nk, hnk⟩ := Int.eq_ofNat_of_zero_le c2
      have hlt : nk < t.kinds.length := by omega
      have hgd : t.kinds.getD nk ⟨noTok, []⟩ = t.kinds[nk] := getD_at _ _ _ hlt
      have HE := hide (show aloneT t l s.toList = sKindB ++ (t.kinds[nk]).name.text by rw [aloneT, if_neg c1, if_pos c2, hnk, Int.toNat_natCast, hgd])
      have hsz := hf.kinds _ (List.getElem_mem hlt)
      have hkl := ht.kinds
      obtain ⟨a, cap, rfl, hview⟩ := own_view h1
      obtain ⟨g, rfl, hc⟩ := hview nk hlt
      have hck : w2.cell? ⟨g, nk * 4 + 1, none⟩ = some (.string (t.kinds[nk]).name.text) := by
        obtain ⟨vm, _, h9, _⟩ := kinds_at nk hlt h1'
        rw [hc _ (by omega)]; exact h9
      rw [hnk]
      generalize t.kinds[nk] = K at hck HE hsz
      generalize lookI (parTexts l) s.toList = a' at c1 ⊢
      generalize lookI (varTexts t) s.toList = b
      generalize (memI t.kinds s.toList).2 = c'
      clear hview hc hgd hnk c2 bp bm bv h0 h1 h1' h2 hT
      go_wp2
      go_ret
      exact ⟨ret_str (by rw [unhide HE]; rfl), unhide HB⟩
    · by_cases c3 : 0 ≤ lookI (varTexts t) s.toList
      · obtain ⟨nv, hnv⟩ := Int.eq_ofNat_of_zero_le c3
        have hlt : nv < t.vars.length := by omega
        have hgd : t.vars.getD nv ⟨noTok, noTok, noTok, noTok⟩ = t.vars[nv] := getD_at _ _ _ hlt
        have hE : aloneT t l s.toList = if (t.vars[nv]).over.kind.toList == [110, 97, 109, 101] then sEmpty else simpleT t (t.vars[nv]) := by rw [aloneT, if_neg c1, if_neg c2, if_pos c3, hnv, Int.toNat_natCast, hgd]
        have hsz := (hf.vars _ (List.getElem_mem hlt)).1
        have hvl := ht.vars
        obtain ⟨a, cap, rfl, hview⟩ := own_view h2
        obtain ⟨g, rfl, hc⟩ := hview nv hlt
        have hcs : ∀ j, j < 12 → w2.cell? ⟨g, nv * 12 + j, none⟩ = (varCells (t.vars[nv]))[j]? := fun j hj => by
          rw [hc _ (by omega)]; exact flat_at varCells 12 (fun _ => rfl) t.vars nv j hlt hj
        have k0 := hcs 0 (by omega)
        have k1 := hcs 1 (by omega)
        have k2 := hcs 2 (by omega)
        have k3 := hcs 3 (by omega)
        have k4 := hcs 4 (by omega)
        have k5 := hcs 5 (by omega)
        have k6 := hcs 6 (by omega)
        have k7 := hcs 7 (by omega)
        have k8 := hcs 8 (by omega)
        have k9 := hcs 9 (by omega)
        have k10 := hcs 10 (by omega)
        have k11 := hcs 11 (by omega)
        simp only [varCells, tokCells, List.cons_append, List.nil_append, List.getElem?_cons_zero, List.getElem?_cons_succ, Nat.add_zero] at k0 k1 k2 k3 k4 k5 k6 k7 k8 k9 k10 k11
        rw [hnv]
        generalize t.vars[nv] = V at k0 k1 k2 k3 k4 k5 k6 k7 k8 k9 k10 k11 hE hsz
        generalize lookI (parTexts l) s.toList = a' at c1 ⊢
        generalize (memI t.kinds s.toList).1 = c at c2 ⊢
        generalize (memI t.kinds s.toList).2 = c'
        clear hview hc hcs hgd hnv c3 bp bm bv h0 h1 h1' h2 hT
        cases ho : (V.over.kind.toList == [110, 97, 109, 101])
        · rw [ho] at hE
          have HE := hide (show aloneT t l s.toList = simpleT t V from hE)
          clear hE
          go_wp2_with fail
          refine (simple_any _ T t V (unhide HT1) ht.kinds hsz).mono ?_
          rintro e w3 ⟨rfl, hb3⟩
          have HB3 := hide ((unhide HB).trans (hb3.mono (unhide HB).size))
          clear hb3
          go_wp2
          go_ret
          exact ⟨ret_str (by rw [unhide HE]), unhide HB3⟩
        · rw [ho] at hE
          have HE := hide (show aloneT t l s.toList = sEmpty from hE)
          clear hE
          go_wp2
          go_ret
          exact ⟨ret_str (by rw [unhide HE]; rfl), unhide HB⟩
      · have HE := hide (show aloneT t l s.toList = sEmpty by rw [aloneT, if_neg c1, if_neg c2, if_neg c3])
        generalize lookI (parTexts l) s.toList = a' at c1 ⊢
        generalize (memI t.kinds s.toList).1 = c at c2 ⊢
        generalize (memI t.kinds s.toList).2 = c'
        generalize lookI (varTexts t) s.toList = b at c3 ⊢
        clear bp bm bv h0 h1 h1' h2 hT
        go_wp2
        go_ret
        exact ⟨ret_str (by rw [unhide HE]; rfl), unhide HB⟩

end Go.Proofs.YtpmcnonmkghokaaGreat
namespace Go.Proofs.YtpmcnonmkghokaaGreat
open Go.RowKit

def placeT (t : PTree) (l : List PP) (x : ELab) : ByteArray :=
  if x.index.kind.toList == [110, 97, 109, 101] then
    (if lookI (varTexts t) x.name.text.toList < 0 then sEmpty
     else if !((t.vars.getD (lookI (varTexts t) x.name.text.toList).toNat ⟨noTok, noTok, noTok, noTok⟩).over.kind.toList == [110, 97, 109, 101]) then sEmpty
     else if !((aloneT t l x.index.text.toList).toList == (sSetB ++ (t.vars.getD (lookI (varTexts t) x.name.text.toList).toNat ⟨noTok, noTok, noTok, noTok⟩).over.text).toList) then sEmpty
     else simpleT t (t.vars.getD (lookI (varTexts t) x.name.text.toList).toNat ⟨noTok, noTok, noTok, noTok⟩))
  else aloneT t l x.name.text.toList
def bothB (a b : ByteArray) : Bool := (a.toList == b.toList) && !a.toList.isEmpty && !(a.toList == [110, 111, 110, 101])
def opT (op a b : ByteArray) : ByteArray :=
  if (op.toList == [33]) || (op.toList == [38]) || (op.toList == [124]) then (if bothB a b && (a.toList == [116, 114, 117, 116, 104]) then sTruth else sEmpty)
  else if (op.toList == [43]) || (op.toList == [45]) then (if bothB a b && (a.toList == [110, 117, 109, 98, 101, 114]) then sNumber else sEmpty)
  else if op.toList == [60] then (if bothB a b && (a.toList == [110, 117, 109, 98, 101, 114]) then sTruth else sEmpty)
  else (if bothB a b || ((a.toList == [110, 111, 110, 101]) && isSetB b) || ((b.toList == [110, 111, 110, 101]) && isSetB a) then sTruth else sEmpty)
/-- The type of an expression; empty: nothing. -/
def typedT (t : PTree) (l : List PP) : PX → ByteArray
  | .nil => sEmpty
  | .node _ _ x a b =>
    if (x.op.toList == [116, 114, 117, 101]) || (x.op.toList == [102, 97, 108, 115, 101]) then sTruth
    else if x.op.toList == [110, 111, 110, 101] then sNone
    else if x.op.toList == [100, 105, 103, 105, 116] then sNumber
    else if x.op.toList == [112, 108, 97, 99, 101] then placeT t l x
    else opT x.op (typedT t l a) (match b with | .nil => typedT t l a | .node i j y c d => typedT t l (.node i j y c d))

def leafOp (op : ByteArray) : Bool := (op.toList == [116, 114, 117, 101]) || (op.toList == [102, 97, 108, 115, 101]) || (op.toList == [110, 111, 110, 101]) || (op.toList == [100, 105, 103, 105, 116]) || (op.toList == [112, 108, 97, 99, 101])
def isNil : PX → Bool
  | .nil => true
  | _ => false
/-- No node lacks a part. -/
def XOk : PX → Prop
  | .nil => True
  | .node _ _ x a b => (leafOp x.op = true ∨ isNil a = false) ∧ XOk a ∧ XOk b

theorem typedT_eq (t : PTree) (l : List PP) (i j : Nat) (x : ELab) (a b : PX) : typedT t l (.node i j x a b) =
    if (x.op.toList == [116, 114, 117, 101]) || (x.op.toList == [102, 97, 108, 115, 101]) then sTruth
    else if x.op.toList == [110, 111, 110, 101] then sNone
    else if x.op.toList == [100, 105, 103, 105, 116] then sNumber
    else if x.op.toList == [112, 108, 97, 99, 101] then placeT t l x
    else opT x.op (typedT t l a) (if isNil b then typedT t l a else typedT t l b) := by
  cases b with
  | nil => rw [typedT]; rfl
  | node _ _ _ _ _ => rw [typedT]; rfl

def TypedSaid (x : PX) : Prop := ∀ (w : World) (T lo lo' : Nat) (t : PTree) (n : Tok) (l : List PP) (va : Option Addr) (vn vc : Nat) (vg : Option Addr) (ba : Option Addr) (bn bc : Nat) (p : Value), isNil x = false → XOk x → TreeIs w T t → TreeOk t → TreeFit t → (∀ p ∈ l, p.set_.text.size ≤ 800) →
  w.ownsRow lo 103 6 (.slice va vn vc) l.length (ppsCells l) → l.length ≤ 801 → NodeIs lo' w x p →
  Calls Tryz.prog 19 #[.pointer (some ⟨T, 0, none⟩), ruleV n (.slice va vn vc) (.pointer vg) (.slice ba bn bc), p] w fun e w' => e = .returned (.string (typedT t l x)) ∧ Below w.heap.size w w'

set_option maxRecDepth 100000 in
set_option maxHeartbeats 4000000 in
theorem typed_place (i j : Nat) (x : ELab) (a b : PX) (hpl : (x.op.toList == [112, 108, 97, 99, 101]) = true) : TypedSaid (.node i j x a b) := by
  intro w T lo lo' t n l va vn vc vg ba bn bc p _ hx h ht hf hlf hp hl hN
  obtain ⟨k, pa, pb, rfl, _, hh, hna, hnb⟩ := hN
  have hop : x.op.toList = [112, 108, 97, 99, 101] := beq_iff_eq.mp hpl
  have o1 : (x.op.toList == [116, 114, 117, 101]) = false := by rw [hop]; rfl
  have o2 : (x.op.toList == [102, 97, 108, 115, 101]) = false := by rw [hop]; rfl
  have o3 : (x.op.toList == [110, 111, 110, 101]) = false := by rw [hop]; rfl
  have o4 : (x.op.toList == [100, 105, 103, 105, 116]) = false := by rw [hop]; rfl
  have HE := hide (show typedT t l (.node i j x a b) = placeT t l x by rw [typedT_eq]; simp [o1, o2, o3, o4, hpl])
  obtain ⟨d0, d1, d2, d3, d4, d5, d6, d7, d8, d9, _⟩ := row10 (show w.heap[k]? = some (.cells #[.string x.op, pa, pb, .string x.name.kind, .string x.name.text, .int .i64 x.name.at_, .string x.index.kind, .string x.index.text, .int .i64 x.index.at_, .int .i64 x.n] _ (0, 0)) from hh)
  have hkl := lt_of_block hh
  have HT := hide h
  have HP := hide hp
  clear h hp hna hnb hh hop
  unfold ruleV
  cases hix : (x.index.kind.toList == [110, 97, 109, 101])
  · go_enter Tryz.func19, Tryz.ntmps19
    go_wp2_with fail
    go_region_with ((go_at_call 47; refine (alone_any _ T lo t n l va vn vc vg ba bn bc x.name.text ((unhide HT).below (below_alloc_drew _ _)) ht hf hlf (owns_below (unhide HP) (below_alloc_drew _ _)) hl).mono ?_; rintro e w1 ⟨rfl, hb1⟩))
    all_goals
      have HB1 := hide ((below_alloc_drew w _).trans (hb1.mono (by simp)))
      have HEP := hide (show placeT t l x = aloneT t l x.name.text.toList by simp [placeT, hix])
      clear hb1
      go_wp2
      go_ret
      exact ⟨ret_str (by rw [unhide HE, unhide HEP]), unhide HB1⟩
  · have bv := lookI_bd (varTexts t) x.name.text.toList
    rw [show (varTexts t).length = t.vars.length by simp [varTexts]] at bv
    by_cases c3 : 0 ≤ lookI (varTexts t) x.name.text.toList
    · obtain ⟨nv, hnv⟩ := Int.eq_ofNat_of_zero_le c3
      have hlt : nv < t.vars.length := by omega
      have hgd : t.vars.getD nv ⟨noTok, noTok, noTok, noTok⟩ = t.vars[nv] := getD_at _ _ _ hlt
      have hEP : placeT t l x = if !((t.vars[nv]).over.kind.toList == [110, 97, 109, 101]) then sEmpty else if !((aloneT t l x.index.text.toList).toList == (sSetB ++ (t.vars[nv]).over.text).toList) then sEmpty else simpleT t (t.vars[nv]) := by
        rw [placeT, if_pos hix, if_neg (by omega), hnv, Int.toNat_natCast, hgd]
      have hsz := hf.vars _ (List.getElem_mem hlt)
      have hvl := ht.vars
      go_enter Tryz.func19, Tryz.ntmps19
      go_wp2_with fail
      refine (var_find _ T t x.name.text ((unhide HT).below (below_alloc1 _ _)) ht.vars).mono ?_
      rintro e w1 ⟨rfl, rfl⟩
      go_wp2_with fail
      clear hnv c3 bv hgd
      go_region_with ((go_at_call 47; refine (alone_any _ T lo t n l va vn vc vg ba bn bc x.index.text ((unhide HT).below (below_alloc_drew _ _)) ht hf hlf (owns_below (unhide HP) (below_alloc_drew _ _)) hl).mono ?_; rintro e w2 ⟨rfl, hb2⟩))
      all_goals
        have hbb := (below_alloc_drew w _).trans (hb2.mono (by simp))
        have HB2 := hide hbb
        have HT2 := hide ((unhide HT).below hbb)
        obtain ⟨x0, x1, x2, x3, x4, y1, y3, y4, hT, _, _, h2, _⟩ := unhide HT2
        obtain ⟨q0, q1, q2, q3, q4, _⟩ := row5 hT
        obtain ⟨av, cap, rfl, hview⟩ := own_view h2
        obtain ⟨g, rfl, hc⟩ := hview nv hlt
        have hcs : ∀ j, j < 12 → w2.cell? ⟨g, nv * 12 + j, none⟩ = (varCells (t.vars[nv]))[j]? := fun j hj => by
          rw [hc _ (by omega)]; exact flat_at varCells 12 (fun _ => rfl) t.vars nv j hlt hj
        have k0 := hcs 0 (by omega)
        have k1 := hcs 1 (by omega)
        have k2 := hcs 2 (by omega)
        have k3 := hcs 3 (by omega)
        have k4 := hcs 4 (by omega)
        have k5 := hcs 5 (by omega)
        have k6 := hcs 6 (by omega)
        have k7 := hcs 7 (by omega)
        have k8 := hcs 8 (by omega)
        have k9 := hcs 9 (by omega)
        have k10 := hcs 10 (by omega)
        have k11 := hcs 11 (by omega)
        simp only [varCells, tokCells, List.cons_append, List.nil_append, List.getElem?_cons_zero, List.getElem?_cons_succ, Nat.add_zero] at k0 k1 k2 k3 k4 k5 k6 k7 k8 k9 k10 k11
        generalize t.vars[nv] = V at k0 k1 k2 k3 k4 k5 k6 k7 k8 k9 k10 k11 hEP hsz
        obtain ⟨hsz1, hsz2⟩ := hsz
        generalize aloneT t l x.index.text.toList = al at hEP ⊢
        clear hview hc hcs h2 hT hb2 hbb
        cases ho : (V.over.kind.toList == [110, 97, 109, 101])
        · have HEP := hide (show placeT t l x = sEmpty by rw [hEP, ho]; rfl)
          clear hEP
          go_wp2
          go_ret
          exact ⟨ret_str (by rw [unhide HE, unhide HEP]; rfl), unhide HB2⟩
        · cases hq : (al.toList == ((⟨#[115, 101, 116, 32]⟩ : ByteArray) ++ V.over.text).toList)
          · have HEP := hide (show placeT t l x = sEmpty by rw [hEP, ho]; simp only [Bool.not_true, Bool.false_eq_true, if_false]; rw [show (al.toList == (sSetB ++ V.over.text).toList) = false from hq]; rfl)
            clear hEP
            go_wp2
            go_ret
            exact ⟨ret_str (by rw [unhide HE, unhide HEP]; rfl), unhide HB2⟩
          · have HEP := hide (show placeT t l x = simpleT t V by rw [hEP, ho]; simp only [Bool.not_true, Bool.false_eq_true, if_false]; rw [show (al.toList == (sSetB ++ V.over.text).toList) = true from hq]; rfl)
            clear hEP
            go_wp2_with fail
            refine (simple_any _ T t V (unhide HT2) ht.kinds hsz1).mono ?_
            rintro e w3 ⟨rfl, hb3⟩
            have HB3 := hide ((unhide HB2).trans (hb3.mono (unhide HB2).size))
            clear hb3
            go_wp2
            go_ret
            exact ⟨ret_str (by rw [unhide HE, unhide HEP]), unhide HB3⟩
    · have HEP := hide (show placeT t l x = sEmpty by rw [placeT, if_pos hix, if_pos (by omega)])
      go_enter Tryz.func19, Tryz.ntmps19
      go_wp2_with fail
      refine (var_find _ T t x.name.text ((unhide HT).below (below_alloc1 _ _)) ht.vars).mono ?_
      rintro e w1 ⟨rfl, rfl⟩
      generalize lookI (varTexts t) x.name.text.toList = z at c3 bv ⊢
      go_wp2_with fail
      go_region_with ((go_at_call 47; refine (alone_any _ T lo t n l va vn vc vg ba bn bc x.index.text ((unhide HT).below (below_alloc_drew _ _)) ht hf hlf (owns_below (unhide HP) (below_alloc_drew _ _)) hl).mono ?_; rintro e w2 ⟨rfl, hb2⟩))
      all_goals
        have HB1 := hide ((below_alloc_drew w _).trans (hb2.mono (by simp)))
        clear hb2
        go_wp2
        go_ret
        exact ⟨ret_str (by rw [unhide HE, unhide HEP]; rfl), unhide HB1⟩

end Go.Proofs.YtpmcnonmkghokaaGreat
namespace Go.Proofs.YtpmcnonmkghokaaGreat
open Go.RowKit

set_option maxRecDepth 100000 in
set_option maxHeartbeats 4000000 in
theorem typed_leaf (i j : Nat) (x : ELab) (a b : PX) (hpl : (x.op.toList == [116, 114, 117, 101]) = true ∨ (x.op.toList == [102, 97, 108, 115, 101]) = true ∨ (x.op.toList == [110, 111, 110, 101]) = true ∨ (x.op.toList == [100, 105, 103, 105, 116]) = true) : TypedSaid (.node i j x a b) := by
  intro w T lo lo' t n l va vn vc vg ba bn bc p _ hx h ht hf hlf hp hl hN
  obtain ⟨k, pa, pb, rfl, _, hh, hna, hnb⟩ := hN
  obtain ⟨d0, d1, d2, d3, d4, d5, d6, d7, d8, d9, _⟩ := row10 (show w.heap[k]? = some (.cells #[.string x.op, pa, pb, .string x.name.kind, .string x.name.text, .int .i64 x.name.at_, .string x.index.kind, .string x.index.text, .int .i64 x.index.at_, .int .i64 x.n] _ (0, 0)) from hh)
  have hkl := lt_of_block hh
  clear h hp hna hnb hh ht hf hlf hx
  unfold ruleV
  rcases hpl with h1 | h1 | h1 | h1
  all_goals
    have hop := beq_iff_eq.mp h1
    have HE := hide (show typedT t l (.node i j x a b) = _ from typedT_eq t l i j x a b)
    rw [hop] at HE
    have HOP := hide hop
    clear hop
  · go_enter Tryz.func19, Tryz.ntmps19
    go_wp2
    go_ret
    exact ⟨ret_str (by rw [unhide HE]; rfl), below_alloc1 _ _⟩
  · have o1 : (x.op.toList == [116, 114, 117, 101]) = false := by rw [unhide HOP]; rfl
    go_enter Tryz.func19, Tryz.ntmps19
    go_wp2
    go_ret
    exact ⟨ret_str (by rw [unhide HE]; rfl), below_alloc1 _ _⟩
  · have o1 : (x.op.toList == [116, 114, 117, 101]) = false := by rw [unhide HOP]; rfl
    have o2 : (x.op.toList == [102, 97, 108, 115, 101]) = false := by rw [unhide HOP]; rfl
    go_enter Tryz.func19, Tryz.ntmps19
    go_wp2
    go_ret
    exact ⟨ret_str (by rw [unhide HE]; rfl), below_alloc1 _ _⟩
  · have o1 : (x.op.toList == [116, 114, 117, 101]) = false := by rw [unhide HOP]; rfl
    have o2 : (x.op.toList == [102, 97, 108, 115, 101]) = false := by rw [unhide HOP]; rfl
    have o3 : (x.op.toList == [110, 111, 110, 101]) = false := by rw [unhide HOP]; rfl
    go_enter Tryz.func19, Tryz.ntmps19
    go_wp2
    go_ret
    exact ⟨ret_str (by rw [unhide HE]; rfl), below_alloc1 _ _⟩

theorem ba_append_size (a b : ByteArray) : (a ++ b).size = a.size + b.size := ByteArray.size_append
theorem ite_le {c : Prop} [Decidable c] {a b : ByteArray} {n : Nat} (ha : a.size ≤ n) (hb : b.size ≤ n) : (if c then a else b).size ≤ n := by split <;> assumption
theorem sizes : sTruth.size ≤ 900 ∧ sNumber.size ≤ 900 ∧ sEmpty.size ≤ 900 ∧ sNone.size ≤ 900 := ⟨by decide, by decide, by decide, by decide⟩
theorem simpleT_size (t : PTree) (v : PVar) (hv : v.type_.text.size ≤ 800) : (simpleT t v).size ≤ 900 := by
  unfold simpleT
  refine ite_le (ite_le sizes.1 sizes.2.1) (ite_le ?_ ?_)
  · rw [ba_append_size]; have : sKindB.size = 5 := rfl; omega
  · rw [ba_append_size]; have : sSetB.size = 4 := rfl; omega
theorem getD_mem {α : Type} (l : List α) (k : Nat) (d : α) (p : α → Prop) (hd : p d) (hl : ∀ x ∈ l, p x) : p (l.getD k d) := by
  by_cases h : k < l.length
  · rw [getD_at _ _ _ h]; exact hl _ (List.getElem_mem h)
  · rw [show l.getD k d = d from by simp [List.getD, h]]; exact hd
theorem aloneT_size (t : PTree) (l : List PP) (hf : TreeFit t) (hlf : ∀ p ∈ l, p.set_.text.size ≤ 800) (s : List UInt8) : (aloneT t l s).size ≤ 900 := by
  unfold aloneT
  split
  · rw [ba_append_size]
    have h1 : sSetB.size = 4 := rfl
    have := getD_mem l (lookI (parTexts l) s).toNat ⟨noTok, noTok⟩ (fun p => p.set_.text.size ≤ 800) (by decide) hlf
    omega
  · split
    · rw [ba_append_size]
      have h1 : sKindB.size = 5 := rfl
      have := getD_mem t.kinds (memI t.kinds s).1.toNat ⟨noTok, []⟩ (fun p => p.name.text.size ≤ 800) (by decide) hf.kinds
      omega
    · split
      · split
        · exact sizes.2.2.1
        · exact simpleT_size t _ (getD_mem t.vars (lookI (varTexts t) s).toNat ⟨noTok, noTok, noTok, noTok⟩ (fun p => p.type_.text.size ≤ 800) (by decide) (fun v hv => (hf.vars v hv).1))
      · exact sizes.2.2.1
theorem opT_size (op a b : ByteArray) : (opT op a b).size ≤ 900 := by
  unfold opT
  exact ite_le (ite_le sizes.1 sizes.2.2.1) (ite_le (ite_le sizes.2.1 sizes.2.2.1) (ite_le (ite_le sizes.1 sizes.2.2.1) (ite_le sizes.1 sizes.2.2.1)))
theorem typedT_size (t : PTree) (l : List PP) (hf : TreeFit t) (hlf : ∀ p ∈ l, p.set_.text.size ≤ 800) (x : PX) : (typedT t l x).size ≤ 900 := by
  cases x with
  | nil => exact sizes.2.2.1
  | node i j x a b =>
    rw [typedT_eq]
    refine ite_le sizes.1 (ite_le sizes.2.2.2 (ite_le sizes.2.1 (ite_le ?_ (opT_size _ _ _))))
    unfold placeT
    refine ite_le (ite_le sizes.2.2.1 (ite_le sizes.2.2.1 (ite_le sizes.2.2.1 ?_))) (aloneT_size t l hf hlf _)
    exact simpleT_size t _ (getD_mem t.vars _ ⟨noTok, noTok, noTok, noTok⟩ (fun p => p.type_.text.size ≤ 800) (by decide) (fun v hv => (hf.vars v hv).1))

theorem opClass (l : List UInt8) : ((l == [33]) = true ∧ (l == [38]) = false ∧ (l == [124]) = false ∧ (l == [43]) = false ∧ (l == [45]) = false ∧ (l == [60]) = false) ∨
    ((l == [33]) = false ∧ (l == [38]) = true ∧ (l == [124]) = false ∧ (l == [43]) = false ∧ (l == [45]) = false ∧ (l == [60]) = false) ∨
    ((l == [33]) = false ∧ (l == [38]) = false ∧ (l == [124]) = true ∧ (l == [43]) = false ∧ (l == [45]) = false ∧ (l == [60]) = false) ∨
    ((l == [33]) = false ∧ (l == [38]) = false ∧ (l == [124]) = false ∧ (l == [43]) = true ∧ (l == [45]) = false ∧ (l == [60]) = false) ∨
    ((l == [33]) = false ∧ (l == [38]) = false ∧ (l == [124]) = false ∧ (l == [43]) = false ∧ (l == [45]) = true ∧ (l == [60]) = false) ∨
    ((l == [33]) = false ∧ (l == [38]) = false ∧ (l == [124]) = false ∧ (l == [43]) = false ∧ (l == [45]) = false ∧ (l == [60]) = true) ∨
    ((l == [33]) = false ∧ (l == [38]) = false ∧ (l == [124]) = false ∧ (l == [43]) = false ∧ (l == [45]) = false ∧ (l == [60]) = false) := by
  by_cases h0 : l = [33]
  · subst h0; exact Or.inl (by decide)
  by_cases h1 : l = [38]
  · subst h1; exact Or.inr (Or.inl (by decide))
  by_cases h2 : l = [124]
  · subst h2; exact Or.inr (Or.inr (Or.inl (by decide)))
  by_cases h3 : l = [43]
  · subst h3; exact Or.inr (Or.inr (Or.inr (Or.inl (by decide))))
  by_cases h4 : l = [45]
  · subst h4; exact Or.inr (Or.inr (Or.inr (Or.inr (Or.inl (by decide)))))
  by_cases h5 : l = [60]
  · subst h5; exact Or.inr (Or.inr (Or.inr (Or.inr (Or.inr (Or.inl (by decide))))))
  exact Or.inr (Or.inr (Or.inr (Or.inr (Or.inr (Or.inr (by simp [h0, h1, h2, h3, h4, h5]))))))
theorem aClass (l : List UInt8) : ((l == [110, 111, 110, 101]) = true ∧ (l == [116, 114, 117, 116, 104]) = false ∧ (l == [110, 117, 109, 98, 101, 114]) = false ∧ (l == []) = false) ∨
    ((l == [110, 111, 110, 101]) = false ∧ (l == [116, 114, 117, 116, 104]) = true ∧ (l == [110, 117, 109, 98, 101, 114]) = false ∧ (l == []) = false) ∨
    ((l == [110, 111, 110, 101]) = false ∧ (l == [116, 114, 117, 116, 104]) = false ∧ (l == [110, 117, 109, 98, 101, 114]) = true ∧ (l == []) = false) ∨
    ((l == [110, 111, 110, 101]) = false ∧ (l == [116, 114, 117, 116, 104]) = false ∧ (l == [110, 117, 109, 98, 101, 114]) = false ∧ (l == []) = true) ∨
    ((l == [110, 111, 110, 101]) = false ∧ (l == [116, 114, 117, 116, 104]) = false ∧ (l == [110, 117, 109, 98, 101, 114]) = false ∧ (l == []) = false) := by
  by_cases h0 : l = [110, 111, 110, 101]
  · subst h0; exact Or.inl (by decide)
  by_cases h1 : l = [116, 114, 117, 116, 104]
  · subst h1; exact Or.inr (Or.inl (by decide))
  by_cases h2 : l = [110, 117, 109, 98, 101, 114]
  · subst h2; exact Or.inr (Or.inr (Or.inl (by decide)))
  by_cases h3 : l = []
  · subst h3; exact Or.inr (Or.inr (Or.inr (Or.inl (by decide))))
  exact Or.inr (Or.inr (Or.inr (Or.inr (by simp [h0, h1, h2, h3]))))
theorem empty_beq (l : List UInt8) : (l == []) = l.isEmpty := by cases l <;> rfl

/-- opT, its tests decided. -/
def opV (p1 p2 p3 p4 p5 p6 e m n t u sa nb sb : Bool) : ByteArray :=
  if p1 || p2 || p3 then (if (e && !m && !n) && t then sTruth else sEmpty)
  else if p4 || p5 then (if (e && !m && !n) && u then sNumber else sEmpty)
  else if p6 then (if (e && !m && !n) && u then sTruth else sEmpty)
  else (if (e && !m && !n) || (n && sb) || (nb && sa) then sTruth else sEmpty)
theorem opT_eval {op a b : ByteArray} {p1 p2 p3 p4 p5 p6 e m n t u sa nb sb : Bool} (h1 : (op.toList == [33]) = p1) (h2 : (op.toList == [38]) = p2) (h3 : (op.toList == [124]) = p3) (h4 : (op.toList == [43]) = p4) (h5 : (op.toList == [45]) = p5) (h6 : (op.toList == [60]) = p6)
    (he : (a.toList == b.toList) = e) (hm : a.toList.isEmpty = m) (hn : (a.toList == [110, 111, 110, 101]) = n) (ht : (a.toList == [116, 114, 117, 116, 104]) = t) (hu : (a.toList == [110, 117, 109, 98, 101, 114]) = u) (hsa : isSetB a = sa) (hnb : (b.toList == [110, 111, 110, 101]) = nb) (hsb : isSetB b = sb) :
    opT op a b = opV p1 p2 p3 p4 p5 p6 e m n t u sa nb sb := by
  subst h1; subst h2; subst h3; subst h4; subst h5; subst h6; subst he; subst hm; subst hn; subst ht; subst hu; subst hsa; subst hnb; subst hsb
  rfl

set_option maxRecDepth 100000 in
set_option maxHeartbeats 4000000 in
theorem typed_op (i j : Nat) (x : ELab) (a b : PX) (ha : TypedSaid a) (hb : TypedSaid b) (o1 : (x.op.toList == [116, 114, 117, 101]) = false) (o2 : (x.op.toList == [102, 97, 108, 115, 101]) = false) (o3 : (x.op.toList == [110, 111, 110, 101]) = false) (o4 : (x.op.toList == [100, 105, 103, 105, 116]) = false)
    (o5 : (x.op.toList == [112, 108, 97, 99, 101]) = false) : TypedSaid (.node i j x a b) := by
  intro w T lo lo' t n l va vn vc vg ba bn bc p _ hx h ht hf hlf hp hl hN
  obtain ⟨k, pa, pb, rfl, _, hh, hna, hnb⟩ := hN
  have HE := hide (show typedT t l (.node i j x a b) = opT x.op (typedT t l a) (if isNil b then typedT t l a else typedT t l b) by rw [typedT_eq]; simp [o1, o2, o3, o4, o5])
  obtain ⟨d0, d1, d2, d3, d4, d5, d6, d7, d8, d9, _⟩ := row10 (show w.heap[k]? = some (.cells #[.string x.op, pa, pb, .string x.name.kind, .string x.name.text, .int .i64 x.name.at_, .string x.index.kind, .string x.index.text, .int .i64 x.index.at_, .int .i64 x.n] _ (0, 0)) from hh)
  have hkl := lt_of_block hh
  have hnl : isNil a = false := by
    rcases hx.1 with h1 | h1
    · simp [leafOp, o1, o2, o3, o4, o5] at h1
    · exact h1
  have HT := hide h
  have HP := hide hp
  have HNA := hide hna
  have HNB := hide hnb
  have HHK := hide hh
  have HXA := hide hx.2.1
  have HXB := hide hx.2.2
  clear h hp hna hnb hh hx
  unfold ruleV
  go_enter Tryz.func19, Tryz.ntmps19
  go_wp2_with fail
  go_region_held3 (fun w' => w'.cell? ⟨w.heap.size, 0, none⟩ = some (.string n.kind) ∧ w'.cell? ⟨w.heap.size, 1, none⟩ = some (.string n.text) ∧ w'.cell? ⟨w.heap.size, 2, none⟩ = some (.int .i64 n.at_) ∧ w'.cell? ⟨w.heap.size, 3, none⟩ = some (.slice va vn vc) ∧ w'.cell? ⟨w.heap.size, 4, none⟩ = some (.pointer vg) ∧ w'.cell? ⟨w.heap.size, 5, none⟩ = some (.slice ba bn bc) ∧ w'.cell? ⟨k, 1, none⟩ = some pa)
    (first | go_keep | (go_split_ands; refine ⟨?_, ?_, ?_, ?_, ?_, ?_, ?_⟩ <;> (refine cell_later hb1 ?_; first | assumption | simp [*])))
    ((go_at_call 19; refine (ha _ T lo lo' t n l va vn vc vg ba bn bc pa hnl (unhide HXA) ((unhide HT).below (below_alloc_drew _ _)) ht hf hlf (owns_below (unhide HP) (below_alloc_drew _ _)) hl ((unhide HNA).below (below_alloc_drew _ _))).mono ?_; rintro e w1 ⟨rfl, hb1⟩))
  have hbb := (below_alloc_drew w _).trans (hb1.mono (by simp))
  have hX1 := (hb1.block w.heap.size (by simp)).trans (heap_alloc_new w _)
  obtain ⟨m0, m1, m2, m3, m4, m5, _⟩ := row6 hX1
  have hX1l := lt_of_block hX1
  have hk1 := (hbb.block k hkl).trans (unhide HHK)
  clear d0 d1 d2 d3 d4 d5 d6 d7 d8 d9
  obtain ⟨d0, d1, d2, d3, d4, d5, d6, d7, d8, d9, _⟩ := row10 (show w1.heap[k]? = some (.cells #[.string x.op, pa, pb, .string x.name.kind, .string x.name.text, .int .i64 x.name.at_, .string x.index.kind, .string x.index.text, .int .i64 x.index.at_, .int .i64 x.n] _ (0, 0)) from hk1)
  have hk1l := lt_of_block hk1
  have HB1 := hide hbb
  have HT1 := hide ((unhide HT).below hbb)
  have HP1 := hide (owns_below (unhide HP) hbb)
  have HNB1 := hide ((unhide HNB).below hbb)
  have hAs := typedT_size t l hf hlf a
  clear hb1 hbb hX1 hk1 HT HP HNB HNA HXA HHK
  cases b with
  | nil =>
    have hpb : pb = .pointer none := unhide HNB1
    subst hpb
    have HE2 := hide (show typedT t l (.node i j x a .nil) = opT x.op (typedT t l a) (typedT t l a) from unhide HE)
    clear HE HXB HNB1
    generalize typedT t l a = A at HE2 hAs ⊢
    have o6 : (A.toList == A.toList) = true := by simp
    rcases opClass x.op.toList with ⟨p1, p2, p3, p4, p5, p6⟩ | ⟨p1, p2, p3, p4, p5, p6⟩ | ⟨p1, p2, p3, p4, p5, p6⟩ | ⟨p1, p2, p3, p4, p5, p6⟩ | ⟨p1, p2, p3, p4, p5, p6⟩ | ⟨p1, p2, p3, p4, p5, p6⟩ | ⟨p1, p2, p3, p4, p5, p6⟩
    all_goals
      rcases aClass A.toList with ⟨a1, a2, a3, a4⟩ | ⟨a1, a2, a3, a4⟩ | ⟨a1, a2, a3, a4⟩ | ⟨a1, a2, a3, a4⟩ | ⟨a1, a2, a3, a4⟩
      all_goals
        rw [empty_beq] at a4
        cases hiA : isSetB A
        all_goals
          have HE3 := hide (show typedT t l (.node i j x a .nil) = _ from (unhide HE2).trans (opT_eval p1 p2 p3 p4 p5 p6 o6 a4 a1 a2 a3 hiA a1 hiA))
          go_wp2_with (first | (go_at_call 50; refine (isSet_any _ _ (by omega)).mono ?_; rintro e w' ⟨rfl, rfl⟩))
          go_ret
          exact ⟨ret_str (by rw [unhide HE3]; rfl), unhide HB1⟩
  | node i' j' x' c' d' =>
    obtain ⟨kb, vb1, vb2, hpb, _⟩ := unhide HNB1
    subst hpb
    have HE2 := hide (show typedT t l (.node i j x a (.node i' j' x' c' d')) = opT x.op (typedT t l a) (typedT t l (.node i' j' x' c' d')) from unhide HE)
    clear HE
    generalize typedT t l a = A at HE2 hAs ⊢
    go_wp2_with fail
    go_region_held3 (fun w' => w'.cell? ⟨w.heap.size, 0, none⟩ = some (.string n.kind) ∧ w'.cell? ⟨w.heap.size, 1, none⟩ = some (.string n.text) ∧ w'.cell? ⟨w.heap.size, 2, none⟩ = some (.int .i64 n.at_) ∧ w'.cell? ⟨w.heap.size, 3, none⟩ = some (.slice va vn vc) ∧ w'.cell? ⟨w.heap.size, 4, none⟩ = some (.pointer vg) ∧ w'.cell? ⟨w.heap.size, 5, none⟩ = some (.slice ba bn bc) ∧ w'.cell? ⟨k, 2, none⟩ = some (.pointer (some ⟨kb, 0, none⟩)))
      (first | go_keep | (go_split_ands; refine ⟨?_, ?_, ?_, ?_, ?_, ?_, ?_⟩ <;> (refine cell_later hb2 ?_; first | assumption | simp [*])))
      ((go_at_call 19; refine (hb _ T lo lo' t n l va vn vc vg ba bn bc _ rfl (unhide HXB) ((unhide HT1).below ((Below.refl _ _).drew)) ht hf hlf (owns_below (unhide HP1) ((Below.refl _ _).drew)) hl ((unhide HNB1).below ((Below.refl _ _).drew))).mono ?_; rintro e w2 ⟨rfl, hb2⟩))
    have hbb := (unhide HB1).trans (((Below.refl _ _).drew.trans hb2).mono (unhide HB1).size)
    have hk2 : w2.cell? ⟨k, 0, none⟩ = some (.string x.op) := cell_later ((Below.refl _ _).drew.trans hb2) d0
    have HB2 := hide hbb
    have hBs := typedT_size t l hf hlf (.node i' j' x' c' d')
    clear hb2 hbb HT1 HP1 HNB1 HXB HB1 d0 d1 d2 d3 d4 d5 d6 d7 d8 d9 m0 m1 m2 m3 m4 m5
    generalize typedT t l (.node i' j' x' c' d') = Bt at HE2 hBs ⊢
    rcases opClass x.op.toList with ⟨p1, p2, p3, p4, p5, p6⟩ | ⟨p1, p2, p3, p4, p5, p6⟩ | ⟨p1, p2, p3, p4, p5, p6⟩ | ⟨p1, p2, p3, p4, p5, p6⟩ | ⟨p1, p2, p3, p4, p5, p6⟩ | ⟨p1, p2, p3, p4, p5, p6⟩ | ⟨p1, p2, p3, p4, p5, p6⟩
    iterate 6
      · rcases aClass A.toList with ⟨a1, a2, a3, a4⟩ | ⟨a1, a2, a3, a4⟩ | ⟨a1, a2, a3, a4⟩ | ⟨a1, a2, a3, a4⟩ | ⟨a1, a2, a3, a4⟩
        all_goals
          rw [empty_beq] at a4
          cases e1 : (A.toList == Bt.toList)
          all_goals
            have HE3 := hide ((unhide HE2).trans (opT_eval p1 p2 p3 p4 p5 p6 e1 a4 a1 a2 a3 rfl rfl rfl))
            go_wp2_with fail
            go_ret
            exact ⟨ret_str (by rw [unhide HE3]; rfl), unhide HB2⟩
    · rcases aClass A.toList with ⟨a1, a2, a3, a4⟩ | ⟨a1, a2, a3, a4⟩ | ⟨a1, a2, a3, a4⟩ | ⟨a1, a2, a3, a4⟩ | ⟨a1, a2, a3, a4⟩
      all_goals
        rw [empty_beq] at a4
        cases e1 : (A.toList == Bt.toList)
        all_goals
          cases e2 : (Bt.toList == [110, 111, 110, 101])
          all_goals
            cases hiA : isSetB A
            all_goals
              cases hiB : isSetB Bt
              all_goals
                have HE3 := hide ((unhide HE2).trans (opT_eval p1 p2 p3 p4 p5 p6 e1 a4 a1 a2 a3 hiA e2 hiB))
                go_wp2_with (first | (go_at_call_of 50 (Value.string Bt); refine (isSet_any Bt _ (by omega)).mono ?_; rintro e w' ⟨rfl, rfl⟩; rw [hiB]) | (go_at_call_of 50 (Value.string A); refine (isSet_any A _ (by omega)).mono ?_; rintro e w' ⟨rfl, rfl⟩; rw [hiA]))
                go_ret
                exact ⟨ret_str (by rw [unhide HE3]; rfl), unhide HB2⟩

theorem typed_all : ∀ x : PX, TypedSaid x
  | .nil => fun w T lo lo' t n l va vn vc vg ba bn bc p h => by cases h
  | .node i j x a b => by
    cases o5 : (x.op.toList == [112, 108, 97, 99, 101])
    · cases o1 : (x.op.toList == [116, 114, 117, 101])
      · cases o2 : (x.op.toList == [102, 97, 108, 115, 101])
        · cases o3 : (x.op.toList == [110, 111, 110, 101])
          · cases o4 : (x.op.toList == [100, 105, 103, 105, 116])
            · exact typed_op i j x a b (typed_all a) (typed_all b) o1 o2 o3 o4 o5
            · exact typed_leaf i j x a b (Or.inr (Or.inr (Or.inr o4)))
          · exact typed_leaf i j x a b (Or.inr (Or.inr (Or.inl o3)))
        · exact typed_leaf i j x a b (Or.inr (Or.inl o2))
      · exact typed_leaf i j x a b (Or.inl o1)
    · exact typed_place i j x a b o5

end Go.Proofs.YtpmcnonmkghokaaGreat
namespace Go.Proofs.YtpmcnonmkghokaaGreat
open Go.RowKit

def nameOfX : PX → ByteArray
  | .nil => sEmpty
  | .node _ _ x _ _ => x.name.text
/-- Does a value of type b fit a place of type a, of the variable with number v? -/
def fitsB (v : Int) (a b : ByteArray) : Bool := !(decide (v < 0) || a.toList.isEmpty || (!(a.toList == b.toList) && (!(b.toList == [110, 111, 110, 101]) || !isSetB a)))
def wellB (t : PTree) (l : List PP) : PB → Bool
  | .nil => true
  | .node _ _ a .nil n => fitsB (lookI (varTexts t) (nameOfX a.place).toList) (typedT t l a.place) (typedT t l a.value) && wellB t l n
  | .node _ _ a (.node _ _ _ b e) n => ((typedT t l a.cond).toList == [116, 114, 117, 116, 104]) && wellB t l b && wellB t l e && wellB t l n

/-- How many statements a block has. -/
def blen : PB → Nat
  | .nil => 0
  | .node _ _ _ _ n => blen n + 1
theorem StmtsIs.len {lo : Nat} {no : Option Nat} {w : World} : ∀ {b : PB} {ps : List Value}, StmtsIs lo no w b ps → ps.length = blen b
  | .nil, ps, h => by
    have : ps = [] := h
    subst this; rfl
  | .node _ _ a .nil n, ps, ⟨k, vp, vv, vi, qs, e, hl, hh, ha, hn⟩ => by rw [e, List.length_cons, hn.len]; rfl
  | .node _ _ a (.node _ _ _ t e) n, ps, ⟨k, vp, vv, vi, vt, ve, qt, qe, qs, e1, hl, hh, ha, ht, he, hn⟩ => by rw [e1, List.length_cons, hn.len]; rfl

def SOk : PB → Prop
  | .nil => True
  | .node _ _ a .nil n => isNil a.cond = true ∧ isNil a.place = false ∧ XOk a.place ∧ isNil a.value = false ∧ XOk a.value ∧ SOk n
  | .node _ _ a (.node _ _ _ t e) n => isNil a.cond = false ∧ XOk a.cond ∧ (SOk t ∧ blen t ≤ 1000) ∧ (SOk e ∧ blen e ≤ 1000) ∧ SOk n

def WellSaid (b : PB) : Prop := ∀ (w : World) (T lo lo' : Nat) (t : PTree) (n : Tok) (l : List PP) (va : Option Addr) (vn vc : Nat) (vg : Option Addr) (ba : Option Addr) (bn bc : Nat) (v : Value) (ps : List Value), SOk b → TreeIs w T t → TreeOk t → TreeFit t → (∀ p ∈ l, p.set_.text.size ≤ 800) →
  w.ownsRow lo 103 6 (.slice va vn vc) l.length (ppsCells l) → l.length ≤ 801 → w.ownsRow lo' 112 1 v ps.length ps → StmtsIs lo' none w b ps → ps.length ≤ 1000 →
  Calls Tryz.prog 20 #[.pointer (some ⟨T, 0, none⟩), ruleV n (.slice va vn vc) (.pointer vg) (.slice ba bn bc), v] w fun e w' => e = .returned (.bool (wellB t l b)) ∧ Below w.heap.size w w'

/-- What is asked of the blocks within a block. -/
def Inner : PB → Prop
  | .nil => True
  | .node _ _ _ .nil n => Inner n
  | .node _ _ _ (.node _ _ _ t e) n => WellSaid t ∧ WellSaid e ∧ Inner n

theorem StmtsIs.below {lo : Nat} {no : Option Nat} {w w' : World} {b : PB} {ps : List Value} (h : StmtsIs lo no w b ps) (hb : Below w.heap.size w w') : StmtsIs lo no w' b ps := h.stay fun k _ hk => hb.block k hk

def WellRel (W0 : World) (t : PTree) (l : List PP) (b : PB) (lo : Nat) (ps : List Value) (i : Value) (wr : World) : Prop :=
  ∃ (k : Nat) (rest : PB), k ≤ ps.length ∧ i = .int .i64 k ∧ StmtsIs lo none wr rest (ps.drop k) ∧ SOk rest ∧ Inner rest ∧ wellB t l rest = wellB t l b ∧ Below W0.heap.size W0 wr

set_option maxRecDepth 100000 in
set_option maxHeartbeats 4000000 in
theorem well_step (b : PB) (hI : Inner b) : WellSaid b := by
  intro w T lo lo' t n l va vn vc vg ba bn bc v ps hS h ht hf hlf hp hl hv hst hpl
  obtain ⟨a, cap, rfl, hview⟩ := own_view hv
  have hX0 := heap_alloc_new w (.cells #[.string n.kind, .string n.text, .int .i64 n.at_, .slice va vn vc, .pointer vg, .slice ba bn bc] 61)
  have hb0 := below_alloc1 w (.cells #[.string n.kind, .string n.text, .int .i64 n.at_, .slice va vn vc, .pointer vg, .slice ba bn bc] 61)
  have HR0 := hide (show WellRel (w.alloc (.cells #[.string n.kind, .string n.text, .int .i64 n.at_, .slice va vn vc, .pointer vg, .slice ba bn bc] 61)) t l b lo' ps (.int .i64 0) (w.alloc (.cells #[.string n.kind, .string n.text, .int .i64 n.at_, .slice va vn vc, .pointer vg, .slice ba bn bc] 61)) from
    ⟨0, b, Nat.zero_le _, rfl, by rw [List.drop_zero]; exact hst.below hb0, hS, hI, rfl, Below.refl _ _⟩)
  have HT := hide (h.below hb0)
  have HP := hide (owns_below hp hb0)
  have HX0 := hide hX0
  have HB0 := hide hb0
  have HV := hide hview
  have hX0l := lt_of_block hX0
  have HVW := hide (show ∀ k, k < ps.length → ∀ g, a = some ⟨g, 0, none⟩ → g < w.heap.size from fun k hk g hg => by
    obtain ⟨g', e1, hc⟩ := hview k hk
    rw [hg] at e1; cases e1
    have := hc k (by omega)
    rw [List.getElem?_eq_getElem hk] at this
    exact block_lt_of_cell this)
  clear h hp hv hst hX0 hb0 hview
  unfold ruleV
  go_enter Tryz.func20, Tryz.ntmps20
  go_wp2_with fail
  generalize hW0 : w.alloc (.cells #[.string n.kind, .string n.text, .int .i64 n.at_, .slice va vn vc, .pointer vg, .slice ba bn bc] 61) = W0 at HR0 HT HP HX0 HB0 hX0l ⊢
  clear hW0
  go_loopw [7] (fun i wr => WellRel W0 t l b lo' ps i wr) (fun i _ => ps.length - (intOf i).toNat)
  case atStart => exact unhide HR0
  case round =>
    obtain ⟨k, rest, hk, rfl, hst, hS2, hI2, hW, hbr⟩ := hrel
    have hX := (hbr.block w.heap.size hX0l).trans (unhide HX0)
    obtain ⟨m0, m1, m2, m3, m4, m5, _⟩ := row6 hX
    have hXl := lt_of_block hX
    have HBr := hide hbr
    have HBw := hide ((unhide HB0).trans (hbr.mono (unhide HB0).size))
    have HTr := hide ((unhide HT).below hbr)
    have HPr := hide (owns_below (unhide HP) hbr)
    have HW := hide hW
    clear hX hbr hW
    match rest, hst, hS2, hI2, HW with
    | .nil, hst, hS2, hI2, HW =>
      have hd : ps.drop k = [] := hst
      have hke : ps.length ≤ k := by simpa using hd
      have hne : ¬ k < ps.length := by omega
      clear hd hst hS2 hI2
      go_wp2
      go_ret
      exact ⟨ret_bool (by rw [← unhide HW]; rfl), unhide HBw⟩
    | .node _ _ la .nil nx, hst, hS2, hI2, HW =>
      obtain ⟨kd, vp, vv, vi, qs, hd, _, hh, hlab, hnx⟩ := hst
      have hlt : k < ps.length := by
        rcases Nat.lt_or_ge k ps.length with h | h
        · exact h
        · rw [List.drop_of_length_le h] at hd; cases hd
      have hpk : ps[k]? = some (.pointer (some ⟨kd, 0, none⟩)) := by
        have := congrArg (fun l => l[0]?) hd
        simpa using this
      have hqs : ps.drop (k + 1) = qs := by
        have := congrArg List.tail hd
        simpa using this
      obtain ⟨g, rfl, hc⟩ := unhide HV k hlt
      have hgw := unhide HVW k hlt g rfl
      have hck : wr.cell? ⟨g, k, none⟩ = some (.pointer (some ⟨kd, 0, none⟩)) := by
        have h9 : w.cell? ⟨g, k, none⟩ = some (.pointer (some ⟨kd, 0, none⟩)) := (hc k (by omega)).trans hpk
        exact cell_later (unhide HBw) h9
      obtain ⟨d0, d1, d2, d3, d4, _⟩ := row5 hh
      have hvi : vi = .pointer none := by
        have h1 := hlab.2.2
        cases hcc : la.cond with
        | nil => rw [hcc] at h1; exact h1
        | node _ _ _ _ _ => have := hS2.1; rw [hcc] at this; cases this
      subst hvi
      go_wp2_with fail
      clear hc hd hpk
      match hla : la.place, hlab.1, hS2.2.1, hS2.2.2.1 with
      | .nil, _, h0, _ => cases h0
      | .node pi pj px pa' pb', hNP, _, hXP =>
      have hNP0 := hNP
      obtain ⟨kp, vpa, vpb, hvp, _, hhp, _, _⟩ := hNP
      subst hvp
      have hkp := lt_of_block hhp
      have hkd := lt_of_block hh
      obtain ⟨n0, n1, n2, n3, n4, _⟩ := row10 (show wr.heap[kp]? = some (.cells #[.string px.op, vpa, vpb, .string px.name.kind, .string px.name.text, .int .i64 px.name.at_, .string px.index.kind, .string px.index.text, .int .i64 px.index.at_, .int .i64 px.n] _ (0, 0)) from hhp)
      have HNP := hide hNP0
      have HNV := hide hlab.2.1
      have HNX := hide hnx
      have hnv := hS2.2.2.2.1
      have HXV := hide hS2.2.2.2.2.1
      have HSN := hide hS2.2.2.2.2.2
      have HIN := hide hI2
      have HXP := hide hXP
      have hW1 := unhide HW
      rw [wellB, hla] at hW1
      clear hlab hnx hS2 hI2 hNP0 hXP hhp hh hW1 n0 n1 n2 n3
      have HWW := HW
      go_region_held3 (fun w' => w'.cell? ⟨w.heap.size, 0, none⟩ = some (.string n.kind) ∧ w'.cell? ⟨w.heap.size, 1, none⟩ = some (.string n.text) ∧ w'.cell? ⟨w.heap.size, 2, none⟩ = some (.int .i64 n.at_) ∧ w'.cell? ⟨w.heap.size, 3, none⟩ = some (.slice va vn vc) ∧ w'.cell? ⟨w.heap.size, 4, none⟩ = some (.pointer vg) ∧ w'.cell? ⟨w.heap.size, 5, none⟩ = some (.slice ba bn bc) ∧ w'.cell? ⟨kd, 0, none⟩ = some (.pointer (some ⟨kp, 0, none⟩)))
        (first | go_keep | (go_split_ands; refine ⟨?_, ?_, ?_, ?_, ?_, ?_, ?_⟩ <;> (refine cell_later hb1 ?_; first | assumption | simp [*])))
        ((go_at_call 19; refine (typed_all (.node pi pj px pa' pb') _ T lo lo' t n l va vn vc vg ba bn bc _ rfl (unhide HXP) ((unhide HTr).below ((Below.refl _ _).drew)) ht hf hlf (owns_below (unhide HPr) ((Below.refl _ _).drew)) hl ((unhide HNP).below ((Below.refl _ _).drew))).mono ?_; rintro e w1 ⟨rfl, hb1⟩))
      have hb1' : Below wr.heap.size wr w1 := (Below.refl _ _).drew.trans hb1
      have d1' := cell_later hb1' d1
      have d0' := cell_later hb1' d0
      have n4' := cell_later hb1' n4
      have m0' := cell_later hb1' m0
      have m1' := cell_later hb1' m1
      have m2' := cell_later hb1' m2
      have m3' := cell_later hb1' m3
      have m4' := cell_later hb1' m4
      have m5' := cell_later hb1' m5
      have hz1 := hb1'.size
      have HB1 := hide hb1'
      have hAs := typedT_size t l hf hlf (.node pi pj px pa' pb')
      clear hb1 hb1' d0 d1 d2 d3 d4 n4 m0 m1 m2 m3 m4 m5 hck
      go_wp2_with fail
      go_region_held3 (fun w' => w'.cell? ⟨w.heap.size, 0, none⟩ = some (.string n.kind) ∧ w'.cell? ⟨w.heap.size, 1, none⟩ = some (.string n.text) ∧ w'.cell? ⟨w.heap.size, 2, none⟩ = some (.int .i64 n.at_) ∧ w'.cell? ⟨w.heap.size, 3, none⟩ = some (.slice va vn vc) ∧ w'.cell? ⟨w.heap.size, 4, none⟩ = some (.pointer vg) ∧ w'.cell? ⟨w.heap.size, 5, none⟩ = some (.slice ba bn bc) ∧ w'.cell? ⟨kd, 1, none⟩ = some vv)
        (first | go_keep | (go_split_ands; refine ⟨?_, ?_, ?_, ?_, ?_, ?_, ?_⟩ <;> (refine cell_later hb2 ?_; first | assumption | simp [*])))
        ((go_at_call 19; refine (typed_all la.value _ T lo lo' t n l va vn vc vg ba bn bc _ hnv (unhide HXV) (((unhide HTr).below (unhide HB1)).below ((Below.refl _ _).drew)) ht hf hlf (owns_below (owns_below (unhide HPr) (unhide HB1)) ((Below.refl _ _).drew)) hl (((unhide HNV).below (unhide HB1)).below ((Below.refl _ _).drew))).mono ?_; rintro e w2 ⟨rfl, hb2⟩))
      have hb2' : Below w1.heap.size w1 w2 := (Below.refl _ _).drew.trans hb2
      have d0'' := cell_later hb2' d0'
      have n4'' := cell_later hb2' n4'
      have HB2 := hide ((unhide HB1).trans (hb2'.mono hz1))
      have hBs := typedT_size t l hf hlf la.value
      clear hb2 hb2' d0' d1' n4' m0' m1' m2' m3' m4' m5'
      go_wp2_with fail
      refine (var_find _ T t px.name.text ((unhide HTr).below (unhide HB2)) ht.vars).mono ?_
      rintro e w3 ⟨rfl, rfl⟩
      go_wp2_with fail
      refine (isSet_any (typedT t l (.node pi pj px pa' pb')) _ (by omega)).mono ?_
      rintro e w4 ⟨rfl, rfl⟩
      have HWB : Hid (wellB t l (.node 0 0 la .nil nx) = (fitsB (lookI (varTexts t) px.name.text.toList) (typedT t l (.node pi pj px pa' pb')) (typedT t l la.value) && wellB t l nx)) := by rw [wellB, hla]; rfl
      generalize typedT t l (.node pi pj px pa' pb') = A at hAs HWB ⊢
      generalize typedT t l la.value = Bv at hBs HWB ⊢
      generalize lookI (varTexts t) px.name.text.toList = z at HWB ⊢
      have hWF : wellB t l b = (fitsB z A Bv && wellB t l nx) := (unhide HW).symm.trans (unhide HWB)
      have HWF := hide hWF
      have HBf := hide ((unhide HBw).trans ((unhide HB2).mono (unhide HBw).size))
      have HBg := hide ((unhide HBr).trans ((unhide HB2).mono (unhide HBr).size))
      have HNX2 := hide ((unhide HNX).below (unhide HB2))
      have HQS := hide hqs
      clear hWF HWB HW HWW hqs d0'' n4''
      have out : fitsB z A Bv = false → Hid (wellB t l b = false) := fun hh => by rw [unhide HWF, hh]; rfl
      have on : fitsB z A Bv = true → Hid (WellRel W0 t l b lo' ps (.int .i64 ((k : Int) + 1)) w4) := fun hh =>
        ⟨k + 1, nx, by omega, by go_num, by rw [unhide HQS]; exact unhide HNX2, unhide HSN, unhide HIN, by rw [unhide HWF, hh]; rfl, unhide HBg⟩
      by_cases c1 : z < 0
      · have HO := out (by simp [fitsB, c1])
        clear out on
        go_wp2
        go_ret
        exact ⟨ret_bool (unhide HO).symm, unhide HBf⟩
      · cases c2 : A.toList.isEmpty
        · cases c3 : (A.toList == Bv.toList)
          · cases c4 : (Bv.toList == [110, 111, 110, 101])
            · have HO := out (by simp only [fitsB, c2, c3, c4]; simp)
              clear out on
              go_wp2
              go_ret
              exact ⟨ret_bool (unhide HO).symm, unhide HBf⟩
            · cases c5 : isSetB A
              · have HO := out (by simp only [fitsB, c2, c3, c4, c5]; simp)
                clear out on
                go_wp2
                go_ret
                exact ⟨ret_bool (unhide HO).symm, unhide HBf⟩
              · have HO := on (by simp only [fitsB, c2, c3, c4, c5]; simp; omega)
                clear out on
                go_wp2
                go_roundw
                case rel => exact unhide HO
                case measure => simp [intOf]; omega
          · have HO := on (by simp only [fitsB, c2, c3]; simp; omega)
            generalize isSetB A = y
            clear out on
            go_wp2
            go_roundw
            case rel => exact unhide HO
            case measure => simp [intOf]; omega
        · have HO := out (by simp only [fitsB, c2]; simp)
          clear out on
          go_wp2
          go_ret
          exact ⟨ret_bool (unhide HO).symm, unhide HBf⟩
    | .node _ _ la (.node _ _ _ bt be) nx, hst, hS2, hI2, HW =>
      obtain ⟨kd, vp, vv, vi, vt, ve, qt, qe, qs, hd, _, hh, hlab, ⟨ht1, _, ht2⟩, ⟨he1, _, he2⟩, hnx⟩ := hst
      have hlt : k < ps.length := by
        rcases Nat.lt_or_ge k ps.length with h | h
        · exact h
        · rw [List.drop_of_length_le h] at hd; cases hd
      have hpk : ps[k]? = some (.pointer (some ⟨kd, 0, none⟩)) := by
        have := congrArg (fun l => l[0]?) hd
        simpa using this
      have hqs : ps.drop (k + 1) = qs := by
        have := congrArg List.tail hd
        simpa using this
      obtain ⟨g, rfl, hc⟩ := unhide HV k hlt
      have hgw := unhide HVW k hlt g rfl
      have hck : wr.cell? ⟨g, k, none⟩ = some (.pointer (some ⟨kd, 0, none⟩)) := by
        have h9 : w.cell? ⟨g, k, none⟩ = some (.pointer (some ⟨kd, 0, none⟩)) := (hc k (by omega)).trans hpk
        exact cell_later (unhide HBw) h9
      obtain ⟨d0, d1, d2, d3, d4, _⟩ := row5 hh
      have hkd := lt_of_block hh
      have hvi : ∃ ki, vi = .pointer (some ⟨ki, 0, none⟩) := by
        have h1 := hlab.2.2
        cases hcc : la.cond with
        | nil => have := hS2.1; rw [hcc] at this; cases this
        | node _ _ _ _ _ => rw [hcc] at h1; obtain ⟨ki, _, _, e, _⟩ := h1; exact ⟨ki, e⟩
      obtain ⟨ki, rfl⟩ := hvi
      have HNC := hide hlab.2.2
      have HXC := hide hS2.2.1
      have hcn := hS2.1
      have HST := hide hS2.2.2.1.1
      have HSE := hide hS2.2.2.2.1.1
      have HSN := hide hS2.2.2.2.2
      have HIT := hide hI2.1
      have HIE := hide hI2.2.1
      have HIN := hide hI2.2.2
      have HT1 := hide ht1
      have HT2 := hide ht2
      have HE1 := hide he1
      have HE2 := hide he2
      have HNX := hide hnx
      obtain ⟨ta, tl, tc, rfl⟩ := own_slice ht1
      obtain ⟨ea, el, ec, rfl⟩ := own_slice he1
      have hqt : qt.length ≤ 1000 := by rw [ht2.len]; exact hS2.2.2.1.2
      have hqe : qe.length ≤ 1000 := by rw [he2.len]; exact hS2.2.2.2.1.2
      clear hc hd hpk hlab hS2 hI2 ht1 ht2 he1 he2 hnx hh
      go_wp2_with fail
      go_region_held3 (fun w' => w'.cell? ⟨w.heap.size, 0, none⟩ = some (.string n.kind) ∧ w'.cell? ⟨w.heap.size, 1, none⟩ = some (.string n.text) ∧ w'.cell? ⟨w.heap.size, 2, none⟩ = some (.int .i64 n.at_) ∧ w'.cell? ⟨w.heap.size, 3, none⟩ = some (.slice va vn vc) ∧ w'.cell? ⟨w.heap.size, 4, none⟩ = some (.pointer vg) ∧ w'.cell? ⟨w.heap.size, 5, none⟩ = some (.slice ba bn bc) ∧ w'.cell? ⟨kd, 2, none⟩ = some (.pointer (some ⟨ki, 0, none⟩)))
        (first | go_keep | (go_split_ands; refine ⟨?_, ?_, ?_, ?_, ?_, ?_, ?_⟩ <;> (refine cell_later hb1 ?_; first | assumption | simp [*])))
        ((go_at_call 19; refine (typed_all la.cond _ T lo lo' t n l va vn vc vg ba bn bc _ hcn (unhide HXC) ((unhide HTr).below ((Below.refl _ _).drew)) ht hf hlf (owns_below (unhide HPr) ((Below.refl _ _).drew)) hl ((unhide HNC).below ((Below.refl _ _).drew))).mono ?_; rintro e w1 ⟨rfl, hb1⟩))
      have hb1' : Below wr.heap.size wr w1 := (Below.refl _ _).drew.trans hb1
      have d3' := cell_later hb1' d3
      have d4' := cell_later hb1' d4
      have m0' := cell_later hb1' m0
      have m1' := cell_later hb1' m1
      have m2' := cell_later hb1' m2
      have m3' := cell_later hb1' m3
      have m4' := cell_later hb1' m4
      have m5' := cell_later hb1' m5
      have hz1 := hb1'.size
      have HB1 := hide hb1'
      clear hb1 hb1' d0 d1 d2 d3 d4 m0 m1 m2 m3 m4 m5 hck
      go_wp2_with fail
      go_region_held3 (fun w' => w'.cell? ⟨w.heap.size, 0, none⟩ = some (.string n.kind) ∧ w'.cell? ⟨w.heap.size, 1, none⟩ = some (.string n.text) ∧ w'.cell? ⟨w.heap.size, 2, none⟩ = some (.int .i64 n.at_) ∧ w'.cell? ⟨w.heap.size, 3, none⟩ = some (.slice va vn vc) ∧ w'.cell? ⟨w.heap.size, 4, none⟩ = some (.pointer vg) ∧ w'.cell? ⟨w.heap.size, 5, none⟩ = some (.slice ba bn bc) ∧ w'.cell? ⟨kd, 3, none⟩ = some (.slice ta tl tc))
        (first | go_keep | (go_split_ands; refine ⟨?_, ?_, ?_, ?_, ?_, ?_, ?_⟩ <;> (refine cell_later hb2 ?_; first | assumption | simp [*])))
        ((go_at_call 20; refine ((unhide HIT) _ T lo lo' t n l va vn vc vg ba bn bc _ qt (unhide HST) (((unhide HTr).below (unhide HB1)).below ((Below.refl _ _).drew)) ht hf hlf (owns_below (owns_below (unhide HPr) (unhide HB1)) ((Below.refl _ _).drew)) hl (owns_below (owns_below (unhide HT1) (unhide HB1)) ((Below.refl _ _).drew)) (((unhide HT2).below (unhide HB1)).below ((Below.refl _ _).drew)) hqt).mono ?_; rintro e w2 ⟨rfl, hb2⟩))
      have hb2' : Below w1.heap.size w1 w2 := (Below.refl _ _).drew.trans hb2
      have d4'' := cell_later hb2' d4'
      have m0'' := cell_later hb2' m0'
      have m1'' := cell_later hb2' m1'
      have m2'' := cell_later hb2' m2'
      have m3'' := cell_later hb2' m3'
      have m4'' := cell_later hb2' m4'
      have m5'' := cell_later hb2' m5'
      have hb3' := (unhide HB1).trans (hb2'.mono hz1)
      have hz2 := hb3'.size
      have HB2 := hide hb3'
      clear hb2 hb2' hb3' d3' d4' m0' m1' m2' m3' m4' m5'
      go_wp2_with fail
      go_region_held3 (fun w' => w'.cell? ⟨w.heap.size, 0, none⟩ = some (.string n.kind) ∧ w'.cell? ⟨w.heap.size, 1, none⟩ = some (.string n.text) ∧ w'.cell? ⟨w.heap.size, 2, none⟩ = some (.int .i64 n.at_) ∧ w'.cell? ⟨w.heap.size, 3, none⟩ = some (.slice va vn vc) ∧ w'.cell? ⟨w.heap.size, 4, none⟩ = some (.pointer vg) ∧ w'.cell? ⟨w.heap.size, 5, none⟩ = some (.slice ba bn bc) ∧ w'.cell? ⟨kd, 4, none⟩ = some (.slice ea el ec))
        (first | go_keep | (go_split_ands; refine ⟨?_, ?_, ?_, ?_, ?_, ?_, ?_⟩ <;> (refine cell_later hb3 ?_; first | assumption | simp [*])))
        ((go_at_call 20; refine ((unhide HIE) _ T lo lo' t n l va vn vc vg ba bn bc _ qe (unhide HSE) (((unhide HTr).below (unhide HB2)).below ((Below.refl _ _).drew)) ht hf hlf (owns_below (owns_below (unhide HPr) (unhide HB2)) ((Below.refl _ _).drew)) hl (owns_below (owns_below (unhide HE1) (unhide HB2)) ((Below.refl _ _).drew)) (((unhide HE2).below (unhide HB2)).below ((Below.refl _ _).drew)) hqe).mono ?_; rintro e w3 ⟨rfl, hb3⟩))
      have hb3' : Below w2.heap.size w2 w3 := (Below.refl _ _).drew.trans hb3
      have HB3 := hide ((unhide HB2).trans (hb3'.mono hz2))
      clear hb3 hb3' d4'' m0'' m1'' m2'' m3'' m4'' m5''
      have HWB : Hid (wellB t l (.node 0 0 la (.node 0 0 noS bt be) nx) = (((typedT t l la.cond).toList == [116, 114, 117, 116, 104]) && wellB t l bt && wellB t l be && wellB t l nx)) := rfl
      generalize typedT t l la.cond = C at HWB ⊢
      generalize wellB t l bt = y1 at HWB ⊢
      generalize wellB t l be = y2 at HWB ⊢
      have HWF := hide (show wellB t l b = ((C.toList == [116, 114, 117, 116, 104]) && y1 && y2 && wellB t l nx) from (unhide HW).symm.trans (unhide HWB))
      have HBf := hide ((unhide HBw).trans ((unhide HB3).mono (unhide HBw).size))
      have HBg := hide ((unhide HBr).trans ((unhide HB3).mono (unhide HBr).size))
      have HNX2 := hide ((unhide HNX).below (unhide HB3))
      have HQS := hide hqs
      clear HWB HW hqs
      have out : ((C.toList == [116, 114, 117, 116, 104]) && y1 && y2) = false → Hid (wellB t l b = false) := fun hh => by rw [unhide HWF, hh]; rfl
      have on : ((C.toList == [116, 114, 117, 116, 104]) && y1 && y2) = true → Hid (WellRel W0 t l b lo' ps (.int .i64 ((k : Int) + 1)) w3) := fun hh =>
        ⟨k + 1, nx, by omega, by go_num, by rw [unhide HQS]; exact unhide HNX2, unhide HSN, unhide HIN, by rw [unhide HWF, hh]; rfl, unhide HBg⟩
      cases c1 : (C.toList == [116, 114, 117, 116, 104])
      · have HO := out (by rw [c1]; rfl)
        clear out on
        go_wp2
        go_ret
        exact ⟨ret_bool (unhide HO).symm, unhide HBf⟩
      · cases y1
        · have HO := out (by simp)
          clear out on
          go_wp2
          go_ret
          exact ⟨ret_bool (unhide HO).symm, unhide HBf⟩
        · cases y2
          · have HO := out (by simp)
            clear out on
            go_wp2
            go_ret
            exact ⟨ret_bool (unhide HO).symm, unhide HBf⟩
          · have HO := on (by rw [c1]; rfl)
            clear out on
            go_wp2
            go_roundw
            case rel => exact unhide HO
            case measure => simp [intOf]; omega

theorem inner_all : ∀ b : PB, Inner b
  | .nil => trivial
  | .node _ _ _ .nil n => inner_all n
  | .node _ _ _ (.node _ _ _ t e) n => ⟨well_step t (inner_all t), well_step e (inner_all e), inner_all n⟩
theorem well_all (b : PB) : WellSaid b := well_step b (inner_all b)

end Go.Proofs.YtpmcnonmkghokaaGreat

/-
  The reference's tree, walked: the loop over the variables.
-/
import Derived.Test.YtpmcnonmkghokaaGreatT05
set_option linter.unusedVariables false
set_option linter.unusedSimpArgs false
namespace Go.Proofs.YtpmcnonmkghokaaGreat
open Go.RowKit

/-- What the heads have made stays. -/
def HeadsAre (w : World) (T : Nat) (x0 x1 : Value) (y1 : List Value) (sets : List PSet) (kinds : List PKind) : Prop :=
  w.ownsRow (T + 1) 98 6 x0 sets.length (setsCells sets) ∧ w.ownsRow (T + 1) 101 4 x1 kinds.length y1 ∧ KindsIs (T + 1) w kinds y1
theorem HeadsAre.stay {w w' : World} {T : Nat} {x0 x1 : Value} {y1 : List Value} {sets : List PSet} {kinds : List PKind} (h : HeadsAre w T x0 x1 y1 sets kinds) (hk : ∀ k, T + 1 ≤ k → k < w.heap.size → w'.heap[k]? = w.heap[k]?) : HeadsAre w' T x0 x1 y1 sets kinds :=
  ⟨owns_stay hk h.1, owns_stay hk h.2.1, h.2.2.stay hk⟩
theorem HeadsAre.far {w w' : World} {T base e size : Nat} {x0 x1 : Value} {y1 : List Value} {sets : List PSet} {kinds : List PKind} {v : Value} {n : Nat} {zs : List Value} (h : HeadsAre w T x0 x1 y1 sets kinds) (hv : w.ownsRow base e size v n zs) (h0 : 98 ≠ e) (h1 : 101 ≠ e) (h2 : 56 ≠ e)
    (hg : w.grownBy w' v.ownBlock) : HeadsAre w' T x0 x1 y1 sets kinds := ⟨owns_grown h.1 hv h0 hg, owns_grown h.2.1 hv h1 hg, h.2.2.grown hv h2 hg⟩

/-- What holds at the head of a round over the variables. -/
def VarRel (B R T : Nat) (w : World) (v : Value) (L : List Tok) (sets : List PSet) (kinds : List PKind) (fin : List PVar × RS) (m : Value) (wr : World) : Prop :=
  ∃ (l : List PVar) (st : RS) (g : Nat) (b : Bool) (x0 x1 x : Value) (y1 : List Value), m = .bool b ∧ wr.heap[T]? = some (.cells #[x0, x1, x, .slice none 0 0, .slice none 0 0] 86 (0, 0)) ∧
    HeadsAre wr T x0 x1 y1 sets kinds ∧ wr.ownsRow (T + 1) 89 12 x l.length (varsCells l) ∧ Rd wr R v L st ∧ Below B w wr ∧ (b = true → rVars g L l st = fin ∧ mFuel L st g) ∧ (b = false → (l, st) = fin) ∧ l.length ≤ st.at_ + st.bad.toNat

/-- What the variables have made stays, too. -/
def VarsAre (w : World) (T : Nat) (x0 x1 x2 : Value) (y1 : List Value) (sets : List PSet) (kinds : List PKind) (vars : List PVar) : Prop :=
  HeadsAre w T x0 x1 y1 sets kinds ∧ w.ownsRow (T + 1) 89 12 x2 vars.length (varsCells vars)

theorem VarsAre.stay {w w' : World} {T : Nat} {x0 x1 x2 : Value} {y1 : List Value} {sets : List PSet} {kinds : List PKind} {vars : List PVar} (h : VarsAre w T x0 x1 x2 y1 sets kinds vars) (hk : ∀ k, T + 1 ≤ k → k < w.heap.size → w'.heap[k]? = w.heap[k]?) : VarsAre w' T x0 x1 x2 y1 sets kinds vars :=
  ⟨h.1.stay hk, owns_stay hk h.2⟩
theorem VarsAre.far {w w' : World} {T base e size : Nat} {x0 x1 x2 : Value} {y1 : List Value} {sets : List PSet} {kinds : List PKind} {vars : List PVar} {v : Value} {n : Nat} {zs : List Value} (h : VarsAre w T x0 x1 x2 y1 sets kinds vars) (hv : w.ownsRow base e size v n zs) (h0 : 98 ≠ e) (h1 : 101 ≠ e) (h2 : 56 ≠ e) (h3 : 89 ≠ e)
    (hg : w.grownBy w' v.ownBlock) : VarsAre w' T x0 x1 x2 y1 sets kinds vars := ⟨h.1.far hv h0 h1 h2 hg, owns_grown h.2 hv h3 hg⟩

/-- What holds at the head of a round over the rules. -/
def RulRel (B R T : Nat) (w : World) (v : Value) (L : List Tok) (sets : List PSet) (kinds : List PKind) (vars : List PVar) (fin : List PRule × RS) (m : Value) (wr : World) : Prop :=
  ∃ (l : List PRule) (st : RS) (g : Nat) (b : Bool) (x0 x1 x2 x : Value) (y1 ys : List Value), m = .bool b ∧ wr.heap[T]? = some (.cells #[x0, x1, x2, x, .slice none 0 0] 86 (0, 0)) ∧
    VarsAre wr T x0 x1 x2 y1 sets kinds vars ∧ (wr.ownsRow (T + 1) 61 6 x l.length ys ∧ RulesIs (T + 1) wr l ys) ∧ Rd wr R v L st ∧ Below B w wr ∧ (b = true → rRules g L l st = fin ∧ mFuel L st g) ∧ (b = false → (l, st) = fin) ∧ l.length ≤ st.at_ + st.bad.toNat

theorem set6d {w : World} {b : Nat} {x0 x1 x2 x3 x4 x5 : Value} {t : TypeId} (h : w.heap[b]? = some (.cells #[x0, x1, x2, x3, x4, x5] t (0, 0))) (a : Value) : (w.setCell ⟨b, 3, none⟩ a).heap[b]? = some (.cells #[x0, x1, x2, a, x4, x5] t (0, 0)) := heap_setCell_same _ b 3 _ _ _ h
theorem set6e {w : World} {b : Nat} {x0 x1 x2 x3 x4 x5 : Value} {t : TypeId} (h : w.heap[b]? = some (.cells #[x0, x1, x2, x3, x4, x5] t (0, 0))) (a : Value) : (w.setCell ⟨b, 4, none⟩ a).heap[b]? = some (.cells #[x0, x1, x2, x3, a, x5] t (0, 0)) := heap_setCell_same _ b 4 _ _ _ h
theorem set6f {w : World} {b : Nat} {x0 x1 x2 x3 x4 x5 : Value} {t : TypeId} (h : w.heap[b]? = some (.cells #[x0, x1, x2, x3, x4, x5] t (0, 0))) (a : Value) : (w.setCell ⟨b, 5, none⟩ a).heap[b]? = some (.cells #[x0, x1, x2, x3, x4, a] t (0, 0)) := heap_setCell_same _ b 5 _ _ _ h
theorem ruleCells_one (t : Tok) (a : Option Addr) (l c : Nat) (p : Option Addr) (a' : Option Addr) (l' c' : Nat) : ∀ u ∈ tokCells t ++ [Value.slice a l c, Value.pointer p, Value.slice a' l' c'], u.oneCell' = true := by
  intro u h
  simp only [List.mem_append, List.mem_cons, List.not_mem_nil, or_false] at h
  rcases h with h | rfl | rfl | rfl
  · exact tokCells_one _ u h
  · rfl
  · rfl
  · rfl

/-- What the rules have made stays, too. -/
def RulAre (w : World) (T : Nat) (x0 x1 x2 x3 : Value) (y1 y3 : List Value) (sets : List PSet) (kinds : List PKind) (vars : List PVar) (rules : List PRule) : Prop :=
  VarsAre w T x0 x1 x2 y1 sets kinds vars ∧ w.ownsRow (T + 1) 61 6 x3 rules.length y3 ∧ RulesIs (T + 1) w rules y3
theorem RulAre.stay {w w' : World} {T : Nat} {x0 x1 x2 x3 : Value} {y1 y3 : List Value} {sets : List PSet} {kinds : List PKind} {vars : List PVar} {rules : List PRule} (h : RulAre w T x0 x1 x2 x3 y1 y3 sets kinds vars rules) (hk : ∀ k, T + 1 ≤ k → k < w.heap.size → w'.heap[k]? = w.heap[k]?) : RulAre w' T x0 x1 x2 x3 y1 y3 sets kinds vars rules :=
  ⟨h.1.stay hk, owns_stay hk h.2.1, h.2.2.stay hk⟩
theorem RulAre.far {w w' : World} {T base size : Nat} {x0 x1 x2 x3 : Value} {y1 y3 : List Value} {sets : List PSet} {kinds : List PKind} {vars : List PVar} {rules : List PRule} {v : Value} {n : Nat} {zs : List Value} (h : RulAre w T x0 x1 x2 x3 y1 y3 sets kinds vars rules) (hv : w.ownsRow base 61 size v n zs) (hne : x3.ownBlock = none ∨ x3.ownBlock ≠ v.ownBlock)
    (hg : w.grownBy w' v.ownBlock) : RulAre w' T x0 x1 x2 x3 y1 y3 sets kinds vars rules :=
  ⟨h.1.far hv (by decide) (by decide) (by decide) (by decide) hg, h.2.1.kept hg hne, h.2.2.far hv (by decide) (by decide) (by decide) (by decide) hg⟩

/-- What holds at the head of a round over the nevers. -/
def NevRel (B R T : Nat) (w : World) (v : Value) (L : List Tok) (sets : List PSet) (kinds : List PKind) (vars : List PVar) (rules : List PRule) (fin : List PRule × RS) (m : Value) (wr : World) : Prop :=
  ∃ (l : List PRule) (st : RS) (g : Nat) (x0 x1 x2 x3 x : Value) (y1 y3 ys : List Value), m = .bool (rNext L [110, 101, 118, 101, 114] st) ∧ wr.heap[T]? = some (.cells #[x0, x1, x2, x3, x] 86 (0, 0)) ∧
    RulAre wr T x0 x1 x2 x3 y1 y3 sets kinds vars rules ∧ (wr.ownsRow (T + 1) 61 6 x l.length ys ∧ RulesIs (T + 1) wr l ys) ∧ (x3.ownBlock = none ∨ x3.ownBlock ≠ x.ownBlock) ∧ Rd wr R v L st ∧ Below B w wr ∧ rNevers g L l st = fin ∧ L.length - st.at_ + 1 ≤ g ∧ l.length ≤ st.at_

def TreePost (v : Value) (L : List Tok) (w : World) (e : Ending) (w' : World) : Prop :=
  Below w.heap.size w w' ∧ ((∃ k : Nat, (rTree L).2 = some k ∧ e = .returned (.tuple #[.pointer none, .int .i64 k])) ∨
    ((rTree L).2 = none ∧ ∃ T, w.heap.size ≤ T ∧ e = .returned (.tuple #[.pointer (some ⟨T, 0, none⟩), .int .i64 (-1)]) ∧ TreeIs w' T (rTree L).1))

set_option maxRecDepth 100000 in
set_option maxHeartbeats 8000000 in
theorem tree_any (w : World) (v : Value) (L : List Tok) (hown : w.ownsRow 0 56 3 v L.length (toksCells L)) (hpos : 0 < L.length) (hlen : L.length ≤ 801)
    (hfin : ∀ i, i < L.length → ((tk L i).kind.toList == [101, 110, 100]) = false → i + 1 < L.length) (hD : DigOk L) :
    Calls Tryz.prog 13 #[v] w (TreePost v L w) := by
  obtain ⟨i0, hi, hz0, hz1, hz2⟩ := info_parts Tryz.infoVar
  obtain ⟨i1, hj, hy0, hy1, hy2⟩ := info_parts Tryz.infoRule
  have HV := hide (own_lt hown)
  have hvn : v.ownBlock ≠ some w.heap.size := fun e => by have := own_lt hown _ e; omega
  have hW := below_alloc1 w (.cells #[v, .int .i64 0, .int .i64 0, .bool false] 81)
  have hRd : Rd ((w.alloc (.cells #[v, .int .i64 0, .int .i64 0, .bool false] 81)).alloc (.cells #[.slice none 0 0, .slice none 0 0, .slice none 0 0, .slice none 0 0, .slice none 0 0] 86)) w.heap.size v L startR :=
    ⟨(Below.heap_alloc _ _ _ (by simp)).trans (heap_alloc_new w _), (hown.alloc _).alloc _, hvn, hpos, hlen, hfin, by simp [startR], by simp [startR]⟩
  have hTt : ((w.alloc (.cells #[v, .int .i64 0, .int .i64 0, .bool false] 81)).alloc (.cells #[.slice none 0 0, .slice none 0 0, .slice none 0 0, .slice none 0 0, .slice none 0 0] 86)).heap[w.heap.size + 1]? = some (.cells #[.slice none 0 0, .slice none 0 0, .slice none 0 0, .slice none 0 0, .slice none 0 0] 86 (0, 0)) :=
    heap_alloc_new' _ _ _ (by simp)
  obtain ⟨va, vl, vc, rfl⟩ := own_slice hown
  have HRd := hide hRd
  have HTt := hide hTt
  clear hown hvn hW hRd hTt hfin
  go_enter Tryz.func13, Tryz.ntmps13
  go_wp2_with fail
  refine (heads_any w.heap.size w.heap.size (w.heap.size + 1) _ _ L startR (unhide HRd) (Nat.le_refl _) (by omega) (unhide HV) (unhide HTt)).mono ?_
  rintro e w1 ⟨rfl, x0, x1, y1, hT, h00, h01, h02, h1, hb1, hl0, hl1⟩
  have HR := hide (show VarRel w.heap.size w.heap.size (w.heap.size + 1) w (.slice va vl vc) L (rHeads L startR).1 (rHeads L startR).2.1 (treeV L) (.bool true) w1 from
    ⟨[], (rHeads L startR).2.2, fuelM L, true, x0, x1, .slice none 0 0, y1, rfl, hT, ⟨h00, h01, h02⟩, World.ownsRow_nil _ _ _ _, h1, (((Below.refl _ _).alloc (Nat.le_refl _) _).alloc (by simp) _).trans hb1, fun _ => ⟨rfl, mFuel_start _ _⟩, fun h => (by cases h), Nat.zero_le _⟩)
  clear hT h00 h01 h02 h1 hb1 HRd HTt
  go_wp2_with fail
  go_loopw [6] (fun m wr => VarRel w.heap.size w.heap.size (w.heap.size + 1) w (.slice va vl vc) L (rHeads L startR).1 (rHeads L startR).2.1 (treeV L) m wr) (fun _ wr => 2 * (L.length - atOf wr w.heap.size) + gdOf wr w.heap.size)
  case atStart => exact unhide HR
  case round =>
    obtain ⟨l, s2, g, b, x0, x1, x, y1, rfl, hT, hH, hown, h2, hb2, hTr, hFa, hpl⟩ := hrel
    have hlt2 := h2.lt
    have hR2 := lt_of_block h2.rd
    have hT2 := lt_of_block hT
    obtain ⟨c0, c1, c2, c3, f0, f1, f2, f3⟩ := row4 h2.rd
    have HO := hide hown
    have HH := hide hH
    have H2 := hide h2
    have HB := hide hb2
    have HT := hide hT
    have hbd := rd_bound h2 hpl
    clear hown hH h2 hb2 hT
    cases b
    · have HF := hide (hFa rfl)
      clear hTr hFa
      have htv : (l, s2) = treeV L := unhide HF
      have hvars : (treeV L).1 = l := by rw [← htv]
      have hstv : (treeV L).2 = s2 := by rw [← htv]
      have HVS := hide hvars
      have HRR := hide (show RulRel w.heap.size w.heap.size (w.heap.size + 1) w (.slice va vl vc) L (rHeads L startR).1 (rHeads L startR).2.1 (treeV L).1 (treeR L) (.bool true) wr from
        ⟨[], s2, fuelM L, true, x0, x1, x, .slice none 0 0, y1, [], rfl, unhide HT, by rw [hvars]; exact ⟨unhide HH, unhide HO⟩, ⟨World.ownsRow_nil _ _ _ _, rfl⟩, unhide H2, unhide HB, fun _ => ⟨by unfold treeR; rw [hstv], mFuel_start _ _⟩, fun h => (by cases h), Nat.zero_le _⟩)
      clear htv hvars hstv
      go_wp2_with fail
      clear HT HH HO H2 HB HF
      go_loopw [8] (fun m wr => RulRel w.heap.size w.heap.size (w.heap.size + 1) w (.slice va vl vc) L (rHeads L startR).1 (rHeads L startR).2.1 (treeV L).1 (treeR L) m wr) (fun _ wr => 2 * (L.length - atOf wr w.heap.size) + gdOf wr w.heap.size)
      case atStart => exact unhide HRR
      case round =>
        clear hlt2 hR2 hT2 hbd hpl
        obtain ⟨l, s2, g, b, x0, x1, x2, x, y1, ys, rfl, hT, hH, hown, h2, hb2, hTr, hFa, hpl⟩ := hrel
        have hlt2 := h2.lt
        have hR2 := lt_of_block h2.rd
        have hT2 := lt_of_block hT
        obtain ⟨c0, c1, c2, c3, f0, f1, f2, f3⟩ := row4 h2.rd
        have HO := hide hown
        have HH := hide hH
        have H2 := hide h2
        have HB := hide hb2
        have HT := hide hT
        have hbd := rd_bound h2 hpl
        clear hown hH h2 hb2 hT
        cases b
        · have HF := hide (hFa rfl)
          clear hTr hFa
          have htr : (l, s2) = treeR L := unhide HF
          have hrules : (treeR L).1 = l := by rw [← htr]
          have hstr : (treeR L).2 = s2 := by rw [← htr]
          go_wp2_with fail
          refine (next_lit [110, 101, 118, 101, 114] _ _ _ L s2 (unhide H2)).mono ?_
          rintro e w20 ⟨rfl, h20, hk20⟩
          have HNR := hide (show NevRel w.heap.size w.heap.size (w.heap.size + 1) w (.slice va vl vc) L (rHeads L startR).1 (rHeads L startR).2.1 (treeV L).1 (treeR L).1 (treeN L) (.bool (rNext L [110, 101, 118, 101, 114] s2)) w20 from
            ⟨[], s2, fuelM L, x0, x1, x2, x, .slice none 0 0, y1, ys, [], rfl, (hk20.block (w.heap.size + 1) hT2 (by omega)).trans (unhide HT), by rw [hrules]; exact ⟨(unhide HH).stay (fun k h1 h2 => hk20.block k h2 (by omega)), owns_kept' (unhide HO).1 hk20 (by omega), (unhide HO).2.kept hk20 (by omega)⟩, ⟨World.ownsRow_nil _ _ _ _, rfl⟩, (by cases hxo : x.ownBlock with | none => exact Or.inl rfl | some j => exact Or.inr (by simp [Value.ownBlock])), h20, (unhide HB).trans (hk20.toBelow (Nat.le_refl _) (by omega)), by unfold treeN; rw [hstr], by unfold fuelM; omega, Nat.zero_le _⟩)
          clear htr hrules hstr h20 hk20 HT HH HO H2 HB HF
          go_wp2_with fail
          go_loopw [10] (fun m wr => NevRel w.heap.size w.heap.size (w.heap.size + 1) w (.slice va vl vc) L (rHeads L startR).1 (rHeads L startR).2.1 (treeV L).1 (treeR L).1 (treeN L) m wr) (fun _ wr => L.length - atOf wr w.heap.size)
          case atStart => exact unhide HNR
          case round =>
            clear hlt2 hR2 hT2 hbd hpl
            obtain ⟨l, s2, g, x0, x1, x2, x3, x, y1, y3, ys, rfl, hT, hH, hown, hne, h2, hb2, hFa, hfu, hpl⟩ := hrel
            have hlt2 := h2.lt
            have hlen2 := h2.len
            have hR2 := lt_of_block h2.rd
            have hT2 := lt_of_block hT
            have hzw := hb2.size
            obtain ⟨c0, c1, c2, c3, f0, f1, f2, f3⟩ := row4 h2.rd
            have HO := hide hown
            have HH := hide hH
            have H2 := hide h2
            have HB := hide hb2
            have HT := hide hT
            have HNE := hide hne
            have HFa := hide hFa
            clear hown hH h2 hb2 hT hne hFa
            obtain ⟨g, rfl⟩ : ∃ g', g = g' + 1 := ⟨g - 1, by omega⟩
            cases hn : rNext L [110, 101, 118, 101, 114] s2
            · have hF := unhide HFa
              rw [rNevers, hn] at hF
              simp only [Bool.false_eq_true, if_false] at hF
              have htn : (treeN L).2 = s2 := by rw [← hF]
              have htn1 : (treeN L).1 = l := by rw [← hF]
              have HTN := hide htn
              have HTN1 := hide htn1
              clear hF htn htn1 HFa
              obtain ⟨gb, cap, hv, hg, hgl, hRl, t0, t1, t2⟩ := (unhide H2).open
              cases hv
              have hE : (rTree L).2 = if s2.bad || !((tk L s2.at_).kind.toList == [101, 110, 100]) then some (tk L s2.at_).at_ else none := by unfold rTree; simp only; rw [unhide HTN]
              have HE := hide hE
              clear hE
              generalize tk L s2.at_ = tt at t0 t1 t2 HE
              cases hbb : s2.bad
              · rw [hbb] at c3 HE
                cases hke : (tt.kind.toList == [101, 110, 100])
                · rw [hke] at HE
                  go_wp2
                  go_quiet (fail)
                  go_wp2
                  go_ret2
                  exact ⟨below_drewN (unhide HB) _, Or.inl ⟨_, unhide HE, rfl⟩⟩
                · rw [hke] at HE
                  go_wp2
                  go_ret2
                  refine ⟨unhide HB, Or.inr ⟨unhide HE, _, by omega, rfl, x0, x1, x2, x3, x, y1, y3, ys, unhide HT, ?_⟩⟩
                  have hH := unhide HH
                  have hO := unhide HO
                  unfold rTree
                  simp only
                  rw [unhide HTN1]
                  exact ⟨hH.1.1.1, ⟨hH.1.1.2.1, hH.1.1.2.2⟩, hH.1.2, ⟨hH.2.1, hH.2.2⟩, hO⟩
              · rw [hbb] at c3 HE
                go_wp2
                go_quiet (fail)
                go_wp2
                go_ret2
                exact ⟨below_drewN (unhide HB) _, Or.inl ⟨_, unhide HE, rfl⟩⟩
            · have hF := unhide HFa
              rw [rNevers, if_pos hn] at hF
              have HT1 := hide hF
              clear hF HFa
              have hvp := rNever1_prog hn
              have HVr := hide (show ∀ g, (Value.slice va vl vc).ownBlock = some g → g < wr.heap.size from fun g hg => by have := unhide HV g hg; omega)
              go_wp2_with fail
              refine (must_lit [110, 101, 118, 101, 114] _ _ _ L s2 ((unhide H2).below (below_alloc1 _ _))).mono ?_
              rintro e w3 ⟨rfl, h3, hk3⟩
              have HX3 := hide ((hk3.block wr.heap.size (by simp) (by omega)).trans (heap_alloc_new wr _))
              have HK3 := hide (((Kept.refl w.heap.size wr).alloc _).trans hk3)
              have H3 := hide h3
              clear h3 hk3 c0 c1 c2 c3 f0 f1 f2 f3
              go_wp2_with fail
              refine (kind_lit [110, 97, 109, 101] _ _ _ L _ (unhide H3) rfl).mono ?_
              rintro e w4 ⟨rfl, h4, hk4⟩
              have hx4 := (hk4.block wr.heap.size (lt_of_block (unhide HX3)) (by omega)).trans (unhide HX3)
              obtain ⟨d0, d1, d2, d3, d4, d5, e0, e1, e2, e3, e4, e5⟩ := row6 hx4
              have HX4 := hide hx4
              have HK4 := hide ((unhide HK3).trans hk4)
              have H4 := hide h4
              clear h4 hk4 hx4 HX3 HK3 H3
              generalize hk : rKind L [110, 97, 109, 101] (rMust L [110, 101, 118, 101, 114] s2) = k at H4 ⊢
              have E1 := hide (show neverK L s2 = k from hk)
              clear hk
              unfold tokV
              go_wp2_with fail
              refine (params_any _ _ _ L k.2 ((unhide H4).set3 (unhide HVr) hR2 (Nat.le_refl _))).mono ?_
              rintro e w5 ⟨vp, rfl, hvpo, h5, hk5, hpl5⟩
              have hx4l := lt_of_block (unhide HX4)
              have hx5 := (hk5.block wr.heap.size (by simpa using lt_of_block (unhide HX4)) (by omega)).trans (set6a (unhide HX4) _ _ _)
              clear d0 d1 d2 d3 d4 d5 e0 e1 e2 e3 e4 e5
              obtain ⟨d0, d1, d2, d3, d4, d5, e0, e1, e2, e3, e4, e5⟩ := row6 hx5
              have HX5 := hide hx5
              have HK5 := hide (((unhide HK4).set3 (b := wr.heap.size) (Nat.le_refl _)).trans hk5)
              have HP5 := hide (owns_mono (lo' := wr.heap.size + 1) (by simp; omega) hvpo)
              have H5 := hide h5
              obtain ⟨pa, pn, pc, rfl⟩ := own_slice hvpo
              clear hvpo h5 hk5 hx5 HX4 HK4 H4 hpl5
              generalize hP : rParams L k.2 = P at H5 HP5
              have E2 := hide (show neverP L s2 = P from by unfold neverP; rw [unhide E1]; exact hP)
              clear hP
              have hpX : (Value.slice pa pn pc).ownBlock ≠ some wr.heap.size := fun e => by have := own_ge (unhide HP5) _ e; omega
              go_wp2_with fail
              refine (level_zero _ _ _ L P.2 ((unhide H5).setNew (unhide HVr) hR2 (p := ⟨wr.heap.size, 3, none⟩) (Nat.le_refl _) _) hD).mono ?_
              rintro e w7 ⟨q7, rfl, hq7, h7, hk7⟩
              have hx5l := lt_of_block (unhide HX5)
              have hx7 := (hk7.block wr.heap.size (by simpa using lt_of_block (unhide HX5)) (by omega)).trans (set6d (unhide HX5) (.slice pa pn pc))
              clear d0 d1 d2 d3 d4 d5 e0 e1 e2 e3 e4 e5
              obtain ⟨d0, d1, d2, d3, d4, d5, e0, e1, e2, e3, e4, e5⟩ := row6 hx7
              have HX7 := hide hx7
              have HK7 := hide (((unhide HK5).setNew (p := ⟨wr.heap.size, 3, none⟩) (Nat.le_refl _) (.slice pa pn pc)).trans hk7)
              have HP7 := hide (owns_kept' (ownsRow_setCell_other (unhide HP5) (a := ⟨wr.heap.size, 3, none⟩) hpX (.slice pa pn pc)) hk7 (by omega))
              have HG7 := hide (hq7.mono (lo' := wr.heap.size + 1) (by simp; omega))
              have H7 := hide h7
              obtain ⟨q7, rfl⟩ := hq7.ptr
              clear hq7 h7 hk7 hx7 HX5 HK5 HP5 H5
              generalize hG : rX (fuelX L) 0 .nil L P.2 = G at H7 HG7
              have E3 := hide (show neverG L s2 = G from by unfold neverG; rw [unhide E2]; exact hG)
              clear hG
              go_wp2_with fail
              refine (must_lit [59] _ _ _ L G.2 ((unhide H7).setNew (unhide HVr) hR2 (p := ⟨wr.heap.size, 4, none⟩) (Nat.le_refl _) _)).mono ?_
              rintro e w9 ⟨rfl, h9, hk9⟩
              have hx9 := (hk9.block wr.heap.size (by simpa using lt_of_block (unhide HX7)) (by omega)).trans (set6e (unhide HX7) (.pointer q7))
              have hK9 := ((unhide HK7).setNew (p := ⟨wr.heap.size, 4, none⟩) (Nat.le_refl _) (.pointer q7)).trans hk9
              have hP9 := owns_kept' (ownsRow_setCell_other (unhide HP7) (a := ⟨wr.heap.size, 4, none⟩) hpX (.pointer q7)) hk9 (by omega)
              have hG9 := ((unhide HG7).stay (set_stay (o := 4) (u := .pointer q7))).kept hk9 (by omega)
              have E4 := hide (show rNever1 L s2 = (⟨k.1, P.1, G.1, .nil⟩, rMust L [59] G.2) from by unfold rNever1; rw [unhide E1, unhide E2, unhide E3])
              clear d0 d1 d2 d3 d4 d5 e0 e1 e2 e3 e4 e5
              obtain ⟨d0, d1, d2, d3, d4, d5, e0, e1, e2, e3, e4, e5⟩ := row6 hx9
              have hT9 := (hK9.block (w.heap.size + 1) hT2 (by omega)).trans (unhide HT)
              obtain ⟨q0, q1, q2, q3, q4, r0, r1, r2, r3, r4⟩ := row5 hT9
              have hT9l := lt_of_block hT9
              have hx9l := lt_of_block hx9
              have hz9 := hK9.size
              have HK9 := hide hK9
              have HT9 := hide hT9
              have H9 := hide h9
              have HP9 := hide hP9
              have HG9 := hide hG9
              have HO9 := hide (owns_kept' (unhide HO).1 hK9 (by omega))
              have HRI9 := hide ((unhide HO).2.kept hK9 (by omega))
              have HH9 := hide ((unhide HH).stay (fun k h1 h2 => hK9.block k h2 (by omega)))
              have hxT : x.ownBlock ≠ some (w.heap.size + 1) := fun e => by have := own_ge (unhide HO9) _ e; omega
              have hxX : x.ownBlock ≠ some wr.heap.size := fun e => by have := own_lt (unhide HO).1 _ e; omega
              rw [unhide E4] at HT1 hvp
              simp only at HT1 hvp
              clear h9 hk9 hx9 hK9 hP9 hG9 hT9 HX7 HK7 HP7 HG7 H7 HO HH HT
              go_wp2_with fail
              go_region_law ((refine step_append_lies _ (by rfl) _ _ _ (by rfl) (w.heap.size + 1 + 1) 61 i1 _ 6 96 Tryz.underlying52 hj hy0 hy1 hy2 rfl (by omega) x l.length ys (by rfl) (((unhide HO9).alloc _).drew) ⟨w9.heap.size, 0, none⟩ 1 1 (tokCells k.1 ++ [Value.slice pa pn pc, Value.pointer q7, Value.slice none 0 0]) (by rfl) (by rfl) (World.news_of_block (cs := (tokCells k.1 ++ [Value.slice pa pn pc, Value.pointer q7, Value.slice none 0 0]).toArray) (t := 61) (fr := (0, 0)) (heap_alloc_new w9 _)) (ruleCells_one _ _ _ _ _ _ _ _) (by omega) (by unfold maxLen; omega) (by omega) (by simp; omega) (w9.heap.size + 1) (by simp) ?_; intro gg cap w10 hown10 hgrow hat hlt10; have hf10 : w10.frozen? ⟨w.heap.size + 1, 4, none⟩ = false := (hgrow.frozen_far _ (by simp; omega) (Ne.symm hxT)).trans (frozen_later (below_alloc_drew _ _) hT9l r4); have hc10 : w10.cell? ⟨w.heap.size + 1, 4, none⟩ = some x := (hgrow.cell_far _ (by simp; omega) (Ne.symm hxT)).trans (cell_later (below_alloc_drew _ _) q4)))
              all_goals
                have hge := own_ge (unhide HO9)
                have hrow := ((unhide HO9).alloc (.cells (tokCells k.1 ++ [Value.slice pa pn pc, Value.pointer q7, Value.slice none 0 0]).toArray 61)).drew
                have h10 := ((unhide H9).below (below_alloc_drew _ _)).grown hgrow hge (fun g hg => by have := unhide HV g hg; omega) (by omega)
                have h11 := h10.setNew (B := w.heap.size + 1) (fun g hg => by have := unhide HV g hg; omega) (by omega) (p := ⟨w.heap.size + 1, 4, none⟩) (Nat.le_refl _) (.slice (some ⟨gg, 0, none⟩) (l.length + 1) cap)
                have hT10 := (hgrow.block (w.heap.size + 1) (by simp; omega) (Ne.symm hxT)).trans ((Below.heap_alloc w9 _ _ hT9l).trans (unhide HT9))
                have hT11 := heap_setCell_same w10 (w.heap.size + 1) 4 _ _ (.slice (some ⟨gg, 0, none⟩) (l.length + 1) cap) hT10
                have hO11 := ownsRow_setCell_below hown10 (a := ⟨w.heap.size + 1, 4, none⟩) (by simp) (.slice (some ⟨gg, 0, none⟩) (l.length + 1) cap)
                have hx3l := own_lt (unhide HH9).2.1
                have hne11 : x3.ownBlock = none ∨ x3.ownBlock ≠ (Value.slice (some ⟨gg, 0, none⟩) (l.length + 1) cap).ownBlock := by
                  cases hx3 : x3.ownBlock with
                  | none => exact Or.inl rfl
                  | some j =>
                    refine Or.inr fun he => ?_
                    simp [Value.ownBlock] at he
                    subst he
                    have := hx3l _ hx3
                    rcases hat with e | e
                    · rcases unhide HNE with e' | e'
                      · rw [hx3] at e'; cases e'
                      · rw [hx3] at e'; exact e' e.symm
                    · omega
                have hH11 := (((unhide HH9).stay (w' := (w9.alloc (.cells (tokCells k.1 ++ [Value.slice pa pn pc, Value.pointer q7, Value.slice none 0 0]).toArray 61)).drew) (fun j _ hj => Below.heap_alloc w9 _ j hj)).far hrow (unhide HNE) hgrow).stay (w' := w10.setCell ⟨w.heap.size + 1, 4, none⟩ (.slice (some ⟨gg, 0, none⟩) (l.length + 1) cap)) (fun j hj _ => Below.heap_setCell _ _ _ _ (by simp only; omega))
                have hzz := (unhide HK9).size
                have hRI := (unhide HRI9).snoc (r := ⟨k.1, P.1, G.1, .nil⟩) (ps := []) (owns_mono (by omega) (unhide HP9)) ((unhide HG9).mono (by omega)) (World.ownsRow_nil _ _ _ _) rfl
                have hRI11 := ((hRI.stay (w' := (w9.alloc (.cells (tokCells k.1 ++ [Value.slice pa pn pc, Value.pointer q7, Value.slice none 0 0]).toArray 61)).drew) (fun j _ hj => Below.heap_alloc w9 _ j hj)).far hrow (by decide) (by decide) (by decide) (by decide) hgrow).stay (w' := w10.setCell ⟨w.heap.size + 1, 4, none⟩ (.slice (some ⟨gg, 0, none⟩) (l.length + 1) cap)) (fun j hj _ => Below.heap_setCell _ _ _ _ (by simp only; omega))
                have hB11 : Below w.heap.size w (w10.setCell ⟨w.heap.size + 1, 4, none⟩ (.slice (some ⟨gg, 0, none⟩) (l.length + 1) cap)) :=
                  (((((unhide HB).trans ((unhide HK9).toBelow (Nat.le_refl _) (by omega))).alloc (by omega) _).drew).grown hgrow (by simp; omega) (fun k hk => by have := hge k hk; omega)).setCell (by simp only; omega) _
                have H11 := hide h11
                have HT11 := hide hT11
                have HO11 := hide hO11
                have HH11 := hide hH11
                have HRI11 := hide hRI11
                have HB11 := hide hB11
                have HNE11 := hide hne11
                clear h10 h11 hT10 hT11 hO11 hH11 hRI hRI11 hB11 hge hrow hown10 hgrow hat hx3l hne11
                go_wp2_with fail
                refine (next_lit [110, 101, 118, 101, 114] _ _ _ L _ (unhide H11)).mono ?_
                rintro e w12 ⟨rfl, h12, hk12⟩
                have HR12 := hide (show NevRel w.heap.size w.heap.size (w.heap.size + 1) w (.slice va vl vc) L (rHeads L startR).1 (rHeads L startR).2.1 (treeV L).1 (treeR L).1 (treeN L) (.bool (rNext L [110, 101, 118, 101, 114] (rMust L [59] G.2))) w12 from
                  ⟨l ++ [⟨k.1, P.1, G.1, .nil⟩], rMust L [59] G.2, g, x0, x1, x2, x3, _, y1, y3, _, rfl, (hk12.block (w.heap.size + 1) (by simpa using lt_of_block (unhide HT11)) (by omega)).trans (unhide HT11), (unhide HH11).stay (fun k h1 h2 => hk12.block k h2 (by omega)), ⟨by rw [List.length_append]; exact owns_kept' (unhide HO11) hk12 (by omega), (unhide HRI11).kept hk12 (by omega)⟩, unhide HNE11, h12, (unhide HB11).trans (hk12.toBelow (Nat.le_refl _) (by have := (unhide HB11).size; omega)), unhide HT1, by omega, by rw [List.length_append]; simp; omega⟩)
                have HM := hide (show L.length - atOf w12 w.heap.size < L.length - atOf wr w.heap.size by rw [h12.atOf, (unhide H2).atOf]; have := h12.lt; omega)
                clear h12 hk12
                go_wp2
                go_roundw
                case rel => exact unhide HR12
                case measure => exact unhide HM
        · obtain ⟨hT1, hfu⟩ := hTr rfl
          clear hTr hFa
          obtain ⟨g, rfl⟩ : ∃ g', g = g' + 1 := ⟨g - 1, by have := mFuel_pos hfu; omega⟩
          cases hb2 : s2.bad
          · rw [rRules, hb2] at hT1
            simp only [Bool.false_eq_true, if_false] at hT1
            rw [hb2] at c3
            have HT1 := hide hT1
            clear hT1
            have HVr := hide (show ∀ g, (Value.slice va vl vc).ownBlock = some g → g < wr.heap.size from fun g hg => by have := unhide HV g hg; omega)
            have hvp := rRule1_prog (L := L) (st := s2)
            have hvm := Nat.le_trans (rMust_mono L [114, 117, 108, 101] s2) (rRule1_mono L s2)
            go_wp2_with fail
            refine (must_lit [114, 117, 108, 101] _ _ _ L s2 ((unhide H2).below (below_alloc1 _ _))).mono ?_
            rintro e w3 ⟨rfl, h3, hk3⟩
            have HX3 := hide ((hk3.block wr.heap.size (by simp) (by omega)).trans (heap_alloc_new wr _))
            have HK3 := hide (((Kept.refl w.heap.size wr).alloc _).trans hk3)
            have H3 := hide h3
            clear h3 hk3 c0 c1 c2 c3 f0 f1 f2 f3
            go_wp2_with fail
            refine (kind_lit [110, 97, 109, 101] _ _ _ L _ (unhide H3) rfl).mono ?_
            rintro e w4 ⟨rfl, h4, hk4⟩
            have hx4 := (hk4.block wr.heap.size (lt_of_block (unhide HX3)) (by omega)).trans (unhide HX3)
            obtain ⟨d0, d1, d2, d3, d4, d5, e0, e1, e2, e3, e4, e5⟩ := row6 hx4
            have HX4 := hide hx4
            have HK4 := hide ((unhide HK3).trans hk4)
            have H4 := hide h4
            clear h4 hk4 hx4 HX3 HK3 H3
            generalize hk : rKind L [110, 97, 109, 101] (rMust L [114, 117, 108, 101] s2) = k at H4 ⊢
            have E1 := hide (show ruleK L s2 = k from hk)
            clear hk
            unfold tokV
            go_wp2_with fail
            refine (params_any _ _ _ L k.2 ((unhide H4).set3 (unhide HVr) hR2 (Nat.le_refl _))).mono ?_
            rintro e w5 ⟨vp, rfl, hvpo, h5, hk5, hpl5⟩
            have hx4l := lt_of_block (unhide HX4)
            have hx5 := (hk5.block wr.heap.size (by simpa using lt_of_block (unhide HX4)) (by omega)).trans (set6a (unhide HX4) _ _ _)
            clear d0 d1 d2 d3 d4 d5 e0 e1 e2 e3 e4 e5
            obtain ⟨d0, d1, d2, d3, d4, d5, e0, e1, e2, e3, e4, e5⟩ := row6 hx5
            have HX5 := hide hx5
            have HK5 := hide (((unhide HK4).set3 (b := wr.heap.size) (Nat.le_refl _)).trans hk5)
            have HP5 := hide (owns_mono (lo' := wr.heap.size + 1) (by simp; omega) hvpo)
            have H5 := hide h5
            obtain ⟨pa, pn, pc, rfl⟩ := own_slice hvpo
            clear hvpo h5 hk5 hx5 HX4 HK4 H4 hpl5
            generalize hP : rParams L k.2 = P at H5 HP5
            have E2 := hide (show ruleP L s2 = P from by unfold ruleP; rw [unhide E1]; exact hP)
            clear hP
            have hpX : (Value.slice pa pn pc).ownBlock ≠ some wr.heap.size := fun e => by have := own_ge (unhide HP5) _ e; omega
            go_wp2_with fail
            refine (must_lit [105, 102] _ _ _ L P.2 ((unhide H5).setNew (unhide HVr) hR2 (p := ⟨wr.heap.size, 3, none⟩) (Nat.le_refl _) _)).mono ?_
            rintro e w6 ⟨rfl, h6, hk6⟩
            have HX6 := hide ((hk6.block wr.heap.size (by simpa using lt_of_block (unhide HX5)) (by omega)).trans (set6d (unhide HX5) (.slice pa pn pc)))
            have HK6 := hide (((unhide HK5).setNew (p := ⟨wr.heap.size, 3, none⟩) (Nat.le_refl _) (.slice pa pn pc)).trans hk6)
            have HP6 := hide (owns_kept' (ownsRow_setCell_other (unhide HP5) (a := ⟨wr.heap.size, 3, none⟩) hpX (.slice pa pn pc)) hk6 (by omega))
            have H6 := hide h6
            clear d0 d1 d2 d3 d4 d5 e0 e1 e2 e3 e4 e5 h6 hk6 HX5 HK5 HP5 H5
            go_wp2_with fail
            refine (level_zero _ _ _ L _ (unhide H6) hD).mono ?_
            rintro e w7 ⟨q7, rfl, hq7, h7, hk7⟩
            have hx6l := lt_of_block (unhide HX6)
            have hx7 := (hk7.block wr.heap.size (lt_of_block (unhide HX6)) (by omega)).trans (unhide HX6)
            obtain ⟨d0, d1, d2, d3, d4, d5, e0, e1, e2, e3, e4, e5⟩ := row6 hx7
            have HX7 := hide hx7
            have HK7 := hide ((unhide HK6).trans hk7)
            have HP7 := hide (owns_kept' (unhide HP6) hk7 (by omega))
            have HG7 := hide (hq7.mono (lo' := wr.heap.size + 1) (by omega))
            have H7 := hide h7
            obtain ⟨q7, rfl⟩ := hq7.ptr
            clear hq7 h7 hk7 hx7 HX6 HK6 HP6 H6
            generalize hG : rX (fuelX L) 0 .nil L (rMust L [105, 102] P.2) = G at H7 HG7
            have E3 := hide (show ruleG L s2 = G from by unfold ruleG; rw [unhide E2]; exact hG)
            clear hG
            go_wp2_with fail
            refine (block_any _ _ _ L G.2 ((unhide H7).setNew (unhide HVr) hR2 (p := ⟨wr.heap.size, 4, none⟩) (Nat.le_refl _) _) hD).mono ?_
            rintro e w8 ⟨vb, qs, rfl, hvb, hqs, h8, hk8⟩
            have hx7l := lt_of_block (unhide HX7)
            have hx8 := (hk8.block wr.heap.size (by simpa using lt_of_block (unhide HX7)) (by omega)).trans (set6e (unhide HX7) (.pointer q7))
            clear d0 d1 d2 d3 d4 d5 e0 e1 e2 e3 e4 e5
            obtain ⟨d0, d1, d2, d3, d4, d5, e0, e1, e2, e3, e4, e5⟩ := row6 hx8
            have hK8 := ((unhide HK7).setNew (p := ⟨wr.heap.size, 4, none⟩) (Nat.le_refl _) (.pointer q7)).trans hk8
            have hP8 := owns_kept' (ownsRow_setCell_other (unhide HP7) (a := ⟨wr.heap.size, 4, none⟩) hpX (.pointer q7)) hk8 (by omega)
            have hG8 := ((unhide HG7).stay (set_stay (o := 4) (u := .pointer q7))).kept hk8 (by omega)
            have hS8 := hqs.mono (lo' := wr.heap.size + 1) (by simp; omega)
            have hW8 := owns_mono (lo' := wr.heap.size + 1) (by simp; omega) hvb
            obtain ⟨ba, bn, bc, rfl⟩ := own_slice hvb
            generalize hBd : rS (fuelB L) 0 L G.2 = Bd at h8 hS8
            have E4 := hide (show rRule1 L s2 = (⟨k.1, P.1, G.1, Bd.1⟩, Bd.2) from by unfold rRule1; rw [unhide E1, unhide E2, unhide E3, hBd])
            clear hBd
            have hx9 := set6f hx8 (.slice ba bn bc)
            have hK9 := hK8.setNew (p := ⟨wr.heap.size, 5, none⟩) (Nat.le_refl _) (.slice ba bn bc)
            have h9 := h8.setNew (unhide HVr) hR2 (p := ⟨wr.heap.size, 5, none⟩) (Nat.le_refl _) (.slice ba bn bc)
            have hP9 := owns_stay (set_stay (o := 5) (u := .slice ba bn bc)) hP8
            have hG9 := hG8.stay (set_stay (o := 5) (u := .slice ba bn bc))
            have hS9 := hS8.stay (set_stay (o := 5) (u := .slice ba bn bc))
            have hW9 := owns_stay (set_stay (o := 5) (u := .slice ba bn bc)) hW8
            go_wp2_with fail
            generalize w8.setCell ⟨wr.heap.size, 5, none⟩ (.slice ba bn bc) = w9 at hx9 hK9 h9 hP9 hG9 hS9 hW9 ⊢
            clear d0 d1 d2 d3 d4 d5 e0 e1 e2 e3 e4 e5
            obtain ⟨d0, d1, d2, d3, d4, d5, e0, e1, e2, e3, e4, e5⟩ := row6 hx9
            have hT9 := (hK9.block (w.heap.size + 1) hT2 (by omega)).trans (unhide HT)
            obtain ⟨q0, q1, q2, q3, q4, r0, r1, r2, r3, r4⟩ := row5 hT9
            have hT9l := lt_of_block hT9
            have hx9l := lt_of_block hx9
            have hz9 := hK9.size
            have HK9 := hide hK9
            have HT9 := hide hT9
            have H9 := hide h9
            have HP9 := hide hP9
            have HG9 := hide hG9
            have HS9 := hide hS9
            have HW9 := hide hW9
            have HO9 := hide (owns_kept' (unhide HO).1 hK9 (by omega))
            have HRI9 := hide ((unhide HO).2.kept hK9 (by omega))
            have HH9 := hide ((unhide HH).stay (fun k h1 h2 => hK9.block k h2 (by omega)))
            have hxT : x.ownBlock ≠ some (w.heap.size + 1) := fun e => by have := own_ge (unhide HO9) _ e; omega
            have hxX : x.ownBlock ≠ some wr.heap.size := fun e => by have := own_lt (unhide HO).1 _ e; omega
            rw [unhide E4] at HT1 hvp hvm
            simp only at HT1 hvp hvm
            clear hvb hqs h8 hk8 hx8 hK8 hP8 hG8 hS8 hW8 hx9 hK9 h9 hP9 hG9 hS9 hW9 hT9 HX7 HK7 HP7 HG7 H7 HO HH HT
            go_region_law ((refine step_append_lies _ (by rfl) _ _ _ (by rfl) (w.heap.size + 1 + 1) 61 i1 _ 6 96 Tryz.underlying52 hj hy0 hy1 hy2 rfl (by omega) x l.length ys (by rfl) (((unhide HO9).alloc _).drew) ⟨w9.heap.size, 0, none⟩ 1 1 (tokCells k.1 ++ [Value.slice pa pn pc, Value.pointer q7, Value.slice ba bn bc]) (by rfl) (by rfl) (World.news_of_block (cs := (tokCells k.1 ++ [Value.slice pa pn pc, Value.pointer q7, Value.slice ba bn bc]).toArray) (t := 61) (fr := (0, 0)) (heap_alloc_new w9 _)) (ruleCells_one _ _ _ _ _ _ _ _) (by omega) (by unfold maxLen; omega) (by omega) (by simp; omega) (w9.heap.size + 1) (by simp) ?_; intro gg cap w10 hown10 hgrow hat hlt10; have hf10 : w10.frozen? ⟨w.heap.size + 1, 3, none⟩ = false := (hgrow.frozen_far _ (by simp; omega) (Ne.symm hxT)).trans (frozen_later (below_alloc_drew _ _) hT9l r3); have hc10 : w10.cell? ⟨w.heap.size + 1, 3, none⟩ = some x := (hgrow.cell_far _ (by simp; omega) (Ne.symm hxT)).trans (cell_later (below_alloc_drew _ _) q3)))
            all_goals
              have hge := own_ge (unhide HO9)
              have hrow := ((unhide HO9).alloc (.cells (tokCells k.1 ++ [Value.slice pa pn pc, Value.pointer q7, Value.slice ba bn bc]).toArray 61)).drew
              have h10 := ((unhide H9).below (below_alloc_drew _ _)).grown hgrow hge (fun g hg => by have := unhide HV g hg; omega) (by omega)
              have h11 := h10.setNew (B := w.heap.size + 1) (fun g hg => by have := unhide HV g hg; omega) (by omega) (p := ⟨w.heap.size + 1, 3, none⟩) (Nat.le_refl _) (.slice (some ⟨gg, 0, none⟩) (l.length + 1) cap)
              have hT10 := (hgrow.block (w.heap.size + 1) (by simp; omega) (Ne.symm hxT)).trans ((Below.heap_alloc w9 _ _ hT9l).trans (unhide HT9))
              have hT11 := heap_setCell_same w10 (w.heap.size + 1) 3 _ _ (.slice (some ⟨gg, 0, none⟩) (l.length + 1) cap) hT10
              have hO11 := ownsRow_setCell_below hown10 (a := ⟨w.heap.size + 1, 3, none⟩) (by simp) (.slice (some ⟨gg, 0, none⟩) (l.length + 1) cap)
              have hH11 := (((unhide HH9).stay (w' := (w9.alloc (.cells (tokCells k.1 ++ [Value.slice pa pn pc, Value.pointer q7, Value.slice ba bn bc]).toArray 61)).drew) (fun j _ hj => Below.heap_alloc w9 _ j hj)).far hrow (by decide) (by decide) (by decide) (by decide) hgrow).stay (w' := w10.setCell ⟨w.heap.size + 1, 3, none⟩ (.slice (some ⟨gg, 0, none⟩) (l.length + 1) cap)) (fun j hj _ => Below.heap_setCell _ _ _ _ (by simp only; omega))
              have hzz := (unhide HK9).size
              have hRI := (unhide HRI9).snoc (r := ⟨k.1, P.1, G.1, Bd.1⟩) (owns_mono (by omega) (unhide HP9)) ((unhide HG9).mono (by omega)) (owns_mono (by omega) (unhide HW9)) ((unhide HS9).mono (by omega))
              have hRI11 := ((hRI.stay (w' := (w9.alloc (.cells (tokCells k.1 ++ [Value.slice pa pn pc, Value.pointer q7, Value.slice ba bn bc]).toArray 61)).drew) (fun j _ hj => Below.heap_alloc w9 _ j hj)).far hrow (by decide) (by decide) (by decide) (by decide) hgrow).stay (w' := w10.setCell ⟨w.heap.size + 1, 3, none⟩ (.slice (some ⟨gg, 0, none⟩) (l.length + 1) cap)) (fun j hj _ => Below.heap_setCell _ _ _ _ (by simp only; omega))
              have hB11 : Below w.heap.size w (w10.setCell ⟨w.heap.size + 1, 3, none⟩ (.slice (some ⟨gg, 0, none⟩) (l.length + 1) cap)) :=
                (((((unhide HB).trans ((unhide HK9).toBelow (Nat.le_refl _) (by omega))).alloc (by omega) _).drew).grown hgrow (by simp; omega) (fun k hk => by have := hge k hk; omega)).setCell (by simp only; omega) _
              have H11 := hide h11
              have HT11 := hide hT11
              have HO11 := hide hO11
              have HH11 := hide hH11
              have HRI11 := hide hRI11
              have HB11 := hide hB11
              clear h10 h11 hT10 hT11 hO11 hH11 hRI hRI11 hB11 hge hrow hown10 hgrow hat
              go_wp2_with fail
              refine (next_lit [114, 117, 108, 101] _ _ _ L Bd.2 (unhide H11)).mono ?_
              rintro e w12 ⟨rfl, h12, hk12⟩
              have hT12 := (hk12.block (w.heap.size + 1) (by simpa using lt_of_block (unhide HT11)) (by omega)).trans (unhide HT11)
              have hO12 := owns_kept' (unhide HO11) hk12 (by omega)
              have hRI12 := (unhide HRI11).kept hk12 (by omega)
              have hH12 := (unhide HH11).stay (fun k h1 h2 => hk12.block k h2 (by omega))
              have hB12 := (unhide HB11).trans (hk12.toBelow (Nat.le_refl _) (by have := (unhide HB11).size; omega))
              have hlen12 : (l ++ [(⟨k.1, P.1, G.1, Bd.1⟩ : PRule)]).length ≤ Bd.2.at_ + Bd.2.bad.toNat := by
                rw [hb2] at hpl
                simp only [Bool.toNat_false, Nat.add_zero] at hpl
                rw [List.length_append]
                cases hkb : Bd.2.bad
                · have := hvp hkb; simp; omega
                · simp; omega
              have HM := hide (rd_less (unhide H2) h12 hb2 hvm hvp)
              cases hnx : rNext L [114, 117, 108, 101] Bd.2
              · have hT1 := unhide HT1
                rw [hnx] at hT1
                simp only [Bool.false_eq_true, if_false] at hT1
                have HR12 := hide (show RulRel w.heap.size w.heap.size (w.heap.size + 1) w (.slice va vl vc) L (rHeads L startR).1 (rHeads L startR).2.1 (treeV L).1 (treeR L) (.bool false) w12 from
                  ⟨l ++ [⟨k.1, P.1, G.1, Bd.1⟩], Bd.2, g, false, x0, x1, x2, _, y1, _, rfl, hT12, hH12, ⟨by rw [List.length_append]; exact hO12, hRI12⟩, h12, hB12, (fun h => by cases h), (fun _ => hT1), hlen12⟩)
                clear h12 hk12 hT12 hO12 hRI12 hH12 hB12 hT1 hlen12
                go_wp2
                go_roundw
                case rel => exact unhide HR12
                case measure => exact unhide HM
              · have hT1 := unhide HT1
                rw [hnx] at hT1
                simp only [if_true] at hT1
                have HR12 := hide (show RulRel w.heap.size w.heap.size (w.heap.size + 1) w (.slice va vl vc) L (rHeads L startR).1 (rHeads L startR).2.1 (treeV L).1 (treeR L) (.bool true) w12 from
                  ⟨l ++ [⟨k.1, P.1, G.1, Bd.1⟩], Bd.2, g, true, x0, x1, x2, _, y1, _, rfl, hT12, hH12, ⟨by rw [List.length_append]; exact hO12, hRI12⟩, h12, hB12, (fun _ => ⟨hT1, mFuel_step hlt2 hb2 hfu hvp⟩), (fun h => by cases h), hlen12⟩)
                clear h12 hk12 hT12 hO12 hRI12 hH12 hB12 hT1 hlen12
                go_wp2
                go_roundw
                case rel => exact unhide HR12
                case measure => exact unhide HM
          · rw [rRules, hb2] at hT1
            simp only [if_true] at hT1
            rw [hb2] at c3
            have HF := hide hT1
            clear hT1
            have htr : (l, s2) = treeR L := unhide HF
            have hrules : (treeR L).1 = l := by rw [← htr]
            have hstr : (treeR L).2 = s2 := by rw [← htr]
            go_wp2_with fail
            refine (next_lit [110, 101, 118, 101, 114] _ _ _ L s2 (unhide H2)).mono ?_
            rintro e w20 ⟨rfl, h20, hk20⟩
            have HNR := hide (show NevRel w.heap.size w.heap.size (w.heap.size + 1) w (.slice va vl vc) L (rHeads L startR).1 (rHeads L startR).2.1 (treeV L).1 (treeR L).1 (treeN L) (.bool (rNext L [110, 101, 118, 101, 114] s2)) w20 from
              ⟨[], s2, fuelM L, x0, x1, x2, x, .slice none 0 0, y1, ys, [], rfl, (hk20.block (w.heap.size + 1) hT2 (by omega)).trans (unhide HT), by rw [hrules]; exact ⟨(unhide HH).stay (fun k h1 h2 => hk20.block k h2 (by omega)), owns_kept' (unhide HO).1 hk20 (by omega), (unhide HO).2.kept hk20 (by omega)⟩, ⟨World.ownsRow_nil _ _ _ _, rfl⟩, (by cases hxo : x.ownBlock with | none => exact Or.inl rfl | some j => exact Or.inr (by simp [Value.ownBlock])), h20, (unhide HB).trans (hk20.toBelow (Nat.le_refl _) (by omega)), by unfold treeN; rw [hstr], by unfold fuelM; omega, Nat.zero_le _⟩)
            clear htr hrules hstr h20 hk20 HT HH HO H2 HB HF
            go_wp2_with fail
            go_loopw [10] (fun m wr => NevRel w.heap.size w.heap.size (w.heap.size + 1) w (.slice va vl vc) L (rHeads L startR).1 (rHeads L startR).2.1 (treeV L).1 (treeR L).1 (treeN L) m wr) (fun _ wr => L.length - atOf wr w.heap.size)
            case atStart => exact unhide HNR
            case round =>
              clear hlt2 hR2 hT2 hbd hpl
              obtain ⟨l, s2, g, x0, x1, x2, x3, x, y1, y3, ys, rfl, hT, hH, hown, hne, h2, hb2, hFa, hfu, hpl⟩ := hrel
              have hlt2 := h2.lt
              have hlen2 := h2.len
              have hR2 := lt_of_block h2.rd
              have hT2 := lt_of_block hT
              have hzw := hb2.size
              obtain ⟨c0, c1, c2, c3, f0, f1, f2, f3⟩ := row4 h2.rd
              have HO := hide hown
              have HH := hide hH
              have H2 := hide h2
              have HB := hide hb2
              have HT := hide hT
              have HNE := hide hne
              have HFa := hide hFa
              clear hown hH h2 hb2 hT hne hFa
              obtain ⟨g, rfl⟩ : ∃ g', g = g' + 1 := ⟨g - 1, by omega⟩
              cases hn : rNext L [110, 101, 118, 101, 114] s2
              · have hF := unhide HFa
                rw [rNevers, hn] at hF
                simp only [Bool.false_eq_true, if_false] at hF
                have htn : (treeN L).2 = s2 := by rw [← hF]
                have htn1 : (treeN L).1 = l := by rw [← hF]
                have HTN := hide htn
                have HTN1 := hide htn1
                clear hF htn htn1 HFa
                obtain ⟨gb, cap, hv, hg, hgl, hRl, t0, t1, t2⟩ := (unhide H2).open
                cases hv
                have hE : (rTree L).2 = if s2.bad || !((tk L s2.at_).kind.toList == [101, 110, 100]) then some (tk L s2.at_).at_ else none := by unfold rTree; simp only; rw [unhide HTN]
                have HE := hide hE
                clear hE
                generalize tk L s2.at_ = tt at t0 t1 t2 HE
                cases hbb : s2.bad
                · rw [hbb] at c3 HE
                  cases hke : (tt.kind.toList == [101, 110, 100])
                  · rw [hke] at HE
                    go_wp2
                    go_quiet (fail)
                    go_wp2
                    go_ret2
                    exact ⟨below_drewN (unhide HB) _, Or.inl ⟨_, unhide HE, rfl⟩⟩
                  · rw [hke] at HE
                    go_wp2
                    go_ret2
                    refine ⟨unhide HB, Or.inr ⟨unhide HE, _, by omega, rfl, x0, x1, x2, x3, x, y1, y3, ys, unhide HT, ?_⟩⟩
                    have hH := unhide HH
                    have hO := unhide HO
                    unfold rTree
                    simp only
                    rw [unhide HTN1]
                    exact ⟨hH.1.1.1, ⟨hH.1.1.2.1, hH.1.1.2.2⟩, hH.1.2, ⟨hH.2.1, hH.2.2⟩, hO⟩
                · rw [hbb] at c3 HE
                  go_wp2
                  go_quiet (fail)
                  go_wp2
                  go_ret2
                  exact ⟨below_drewN (unhide HB) _, Or.inl ⟨_, unhide HE, rfl⟩⟩
              · have hF := unhide HFa
                rw [rNevers, if_pos hn] at hF
                have HT1 := hide hF
                clear hF HFa
                have hvp := rNever1_prog hn
                have HVr := hide (show ∀ g, (Value.slice va vl vc).ownBlock = some g → g < wr.heap.size from fun g hg => by have := unhide HV g hg; omega)
                go_wp2_with fail
                refine (must_lit [110, 101, 118, 101, 114] _ _ _ L s2 ((unhide H2).below (below_alloc1 _ _))).mono ?_
                rintro e w3 ⟨rfl, h3, hk3⟩
                have HX3 := hide ((hk3.block wr.heap.size (by simp) (by omega)).trans (heap_alloc_new wr _))
                have HK3 := hide (((Kept.refl w.heap.size wr).alloc _).trans hk3)
                have H3 := hide h3
                clear h3 hk3 c0 c1 c2 c3 f0 f1 f2 f3
                go_wp2_with fail
                refine (kind_lit [110, 97, 109, 101] _ _ _ L _ (unhide H3) rfl).mono ?_
                rintro e w4 ⟨rfl, h4, hk4⟩
                have hx4 := (hk4.block wr.heap.size (lt_of_block (unhide HX3)) (by omega)).trans (unhide HX3)
                obtain ⟨d0, d1, d2, d3, d4, d5, e0, e1, e2, e3, e4, e5⟩ := row6 hx4
                have HX4 := hide hx4
                have HK4 := hide ((unhide HK3).trans hk4)
                have H4 := hide h4
                clear h4 hk4 hx4 HX3 HK3 H3
                generalize hk : rKind L [110, 97, 109, 101] (rMust L [110, 101, 118, 101, 114] s2) = k at H4 ⊢
                have E1 := hide (show neverK L s2 = k from hk)
                clear hk
                unfold tokV
                go_wp2_with fail
                refine (params_any _ _ _ L k.2 ((unhide H4).set3 (unhide HVr) hR2 (Nat.le_refl _))).mono ?_
                rintro e w5 ⟨vp, rfl, hvpo, h5, hk5, hpl5⟩
                have hx4l := lt_of_block (unhide HX4)
                have hx5 := (hk5.block wr.heap.size (by simpa using lt_of_block (unhide HX4)) (by omega)).trans (set6a (unhide HX4) _ _ _)
                clear d0 d1 d2 d3 d4 d5 e0 e1 e2 e3 e4 e5
                obtain ⟨d0, d1, d2, d3, d4, d5, e0, e1, e2, e3, e4, e5⟩ := row6 hx5
                have HX5 := hide hx5
                have HK5 := hide (((unhide HK4).set3 (b := wr.heap.size) (Nat.le_refl _)).trans hk5)
                have HP5 := hide (owns_mono (lo' := wr.heap.size + 1) (by simp; omega) hvpo)
                have H5 := hide h5
                obtain ⟨pa, pn, pc, rfl⟩ := own_slice hvpo
                clear hvpo h5 hk5 hx5 HX4 HK4 H4 hpl5
                generalize hP : rParams L k.2 = P at H5 HP5
                have E2 := hide (show neverP L s2 = P from by unfold neverP; rw [unhide E1]; exact hP)
                clear hP
                have hpX : (Value.slice pa pn pc).ownBlock ≠ some wr.heap.size := fun e => by have := own_ge (unhide HP5) _ e; omega
                go_wp2_with fail
                refine (level_zero _ _ _ L P.2 ((unhide H5).setNew (unhide HVr) hR2 (p := ⟨wr.heap.size, 3, none⟩) (Nat.le_refl _) _) hD).mono ?_
                rintro e w7 ⟨q7, rfl, hq7, h7, hk7⟩
                have hx5l := lt_of_block (unhide HX5)
                have hx7 := (hk7.block wr.heap.size (by simpa using lt_of_block (unhide HX5)) (by omega)).trans (set6d (unhide HX5) (.slice pa pn pc))
                clear d0 d1 d2 d3 d4 d5 e0 e1 e2 e3 e4 e5
                obtain ⟨d0, d1, d2, d3, d4, d5, e0, e1, e2, e3, e4, e5⟩ := row6 hx7
                have HX7 := hide hx7
                have HK7 := hide (((unhide HK5).setNew (p := ⟨wr.heap.size, 3, none⟩) (Nat.le_refl _) (.slice pa pn pc)).trans hk7)
                have HP7 := hide (owns_kept' (ownsRow_setCell_other (unhide HP5) (a := ⟨wr.heap.size, 3, none⟩) hpX (.slice pa pn pc)) hk7 (by omega))
                have HG7 := hide (hq7.mono (lo' := wr.heap.size + 1) (by simp; omega))
                have H7 := hide h7
                obtain ⟨q7, rfl⟩ := hq7.ptr
                clear hq7 h7 hk7 hx7 HX5 HK5 HP5 H5
                generalize hG : rX (fuelX L) 0 .nil L P.2 = G at H7 HG7
                have E3 := hide (show neverG L s2 = G from by unfold neverG; rw [unhide E2]; exact hG)
                clear hG
                go_wp2_with fail
                refine (must_lit [59] _ _ _ L G.2 ((unhide H7).setNew (unhide HVr) hR2 (p := ⟨wr.heap.size, 4, none⟩) (Nat.le_refl _) _)).mono ?_
                rintro e w9 ⟨rfl, h9, hk9⟩
                have hx9 := (hk9.block wr.heap.size (by simpa using lt_of_block (unhide HX7)) (by omega)).trans (set6e (unhide HX7) (.pointer q7))
                have hK9 := ((unhide HK7).setNew (p := ⟨wr.heap.size, 4, none⟩) (Nat.le_refl _) (.pointer q7)).trans hk9
                have hP9 := owns_kept' (ownsRow_setCell_other (unhide HP7) (a := ⟨wr.heap.size, 4, none⟩) hpX (.pointer q7)) hk9 (by omega)
                have hG9 := ((unhide HG7).stay (set_stay (o := 4) (u := .pointer q7))).kept hk9 (by omega)
                have E4 := hide (show rNever1 L s2 = (⟨k.1, P.1, G.1, .nil⟩, rMust L [59] G.2) from by unfold rNever1; rw [unhide E1, unhide E2, unhide E3])
                clear d0 d1 d2 d3 d4 d5 e0 e1 e2 e3 e4 e5
                obtain ⟨d0, d1, d2, d3, d4, d5, e0, e1, e2, e3, e4, e5⟩ := row6 hx9
                have hT9 := (hK9.block (w.heap.size + 1) hT2 (by omega)).trans (unhide HT)
                obtain ⟨q0, q1, q2, q3, q4, r0, r1, r2, r3, r4⟩ := row5 hT9
                have hT9l := lt_of_block hT9
                have hx9l := lt_of_block hx9
                have hz9 := hK9.size
                have HK9 := hide hK9
                have HT9 := hide hT9
                have H9 := hide h9
                have HP9 := hide hP9
                have HG9 := hide hG9
                have HO9 := hide (owns_kept' (unhide HO).1 hK9 (by omega))
                have HRI9 := hide ((unhide HO).2.kept hK9 (by omega))
                have HH9 := hide ((unhide HH).stay (fun k h1 h2 => hK9.block k h2 (by omega)))
                have hxT : x.ownBlock ≠ some (w.heap.size + 1) := fun e => by have := own_ge (unhide HO9) _ e; omega
                have hxX : x.ownBlock ≠ some wr.heap.size := fun e => by have := own_lt (unhide HO).1 _ e; omega
                rw [unhide E4] at HT1 hvp
                simp only at HT1 hvp
                clear h9 hk9 hx9 hK9 hP9 hG9 hT9 HX7 HK7 HP7 HG7 H7 HO HH HT
                go_wp2_with fail
                go_region_law ((refine step_append_lies _ (by rfl) _ _ _ (by rfl) (w.heap.size + 1 + 1) 61 i1 _ 6 96 Tryz.underlying52 hj hy0 hy1 hy2 rfl (by omega) x l.length ys (by rfl) (((unhide HO9).alloc _).drew) ⟨w9.heap.size, 0, none⟩ 1 1 (tokCells k.1 ++ [Value.slice pa pn pc, Value.pointer q7, Value.slice none 0 0]) (by rfl) (by rfl) (World.news_of_block (cs := (tokCells k.1 ++ [Value.slice pa pn pc, Value.pointer q7, Value.slice none 0 0]).toArray) (t := 61) (fr := (0, 0)) (heap_alloc_new w9 _)) (ruleCells_one _ _ _ _ _ _ _ _) (by omega) (by unfold maxLen; omega) (by omega) (by simp; omega) (w9.heap.size + 1) (by simp) ?_; intro gg cap w10 hown10 hgrow hat hlt10; have hf10 : w10.frozen? ⟨w.heap.size + 1, 4, none⟩ = false := (hgrow.frozen_far _ (by simp; omega) (Ne.symm hxT)).trans (frozen_later (below_alloc_drew _ _) hT9l r4); have hc10 : w10.cell? ⟨w.heap.size + 1, 4, none⟩ = some x := (hgrow.cell_far _ (by simp; omega) (Ne.symm hxT)).trans (cell_later (below_alloc_drew _ _) q4)))
                all_goals
                  have hge := own_ge (unhide HO9)
                  have hrow := ((unhide HO9).alloc (.cells (tokCells k.1 ++ [Value.slice pa pn pc, Value.pointer q7, Value.slice none 0 0]).toArray 61)).drew
                  have h10 := ((unhide H9).below (below_alloc_drew _ _)).grown hgrow hge (fun g hg => by have := unhide HV g hg; omega) (by omega)
                  have h11 := h10.setNew (B := w.heap.size + 1) (fun g hg => by have := unhide HV g hg; omega) (by omega) (p := ⟨w.heap.size + 1, 4, none⟩) (Nat.le_refl _) (.slice (some ⟨gg, 0, none⟩) (l.length + 1) cap)
                  have hT10 := (hgrow.block (w.heap.size + 1) (by simp; omega) (Ne.symm hxT)).trans ((Below.heap_alloc w9 _ _ hT9l).trans (unhide HT9))
                  have hT11 := heap_setCell_same w10 (w.heap.size + 1) 4 _ _ (.slice (some ⟨gg, 0, none⟩) (l.length + 1) cap) hT10
                  have hO11 := ownsRow_setCell_below hown10 (a := ⟨w.heap.size + 1, 4, none⟩) (by simp) (.slice (some ⟨gg, 0, none⟩) (l.length + 1) cap)
                  have hx3l := own_lt (unhide HH9).2.1
                  have hne11 : x3.ownBlock = none ∨ x3.ownBlock ≠ (Value.slice (some ⟨gg, 0, none⟩) (l.length + 1) cap).ownBlock := by
                    cases hx3 : x3.ownBlock with
                    | none => exact Or.inl rfl
                    | some j =>
                      refine Or.inr fun he => ?_
                      simp [Value.ownBlock] at he
                      subst he
                      have := hx3l _ hx3
                      rcases hat with e | e
                      · rcases unhide HNE with e' | e'
                        · rw [hx3] at e'; cases e'
                        · rw [hx3] at e'; exact e' e.symm
                      · omega
                  have hH11 := (((unhide HH9).stay (w' := (w9.alloc (.cells (tokCells k.1 ++ [Value.slice pa pn pc, Value.pointer q7, Value.slice none 0 0]).toArray 61)).drew) (fun j _ hj => Below.heap_alloc w9 _ j hj)).far hrow (unhide HNE) hgrow).stay (w' := w10.setCell ⟨w.heap.size + 1, 4, none⟩ (.slice (some ⟨gg, 0, none⟩) (l.length + 1) cap)) (fun j hj _ => Below.heap_setCell _ _ _ _ (by simp only; omega))
                  have hzz := (unhide HK9).size
                  have hRI := (unhide HRI9).snoc (r := ⟨k.1, P.1, G.1, .nil⟩) (ps := []) (owns_mono (by omega) (unhide HP9)) ((unhide HG9).mono (by omega)) (World.ownsRow_nil _ _ _ _) rfl
                  have hRI11 := ((hRI.stay (w' := (w9.alloc (.cells (tokCells k.1 ++ [Value.slice pa pn pc, Value.pointer q7, Value.slice none 0 0]).toArray 61)).drew) (fun j _ hj => Below.heap_alloc w9 _ j hj)).far hrow (by decide) (by decide) (by decide) (by decide) hgrow).stay (w' := w10.setCell ⟨w.heap.size + 1, 4, none⟩ (.slice (some ⟨gg, 0, none⟩) (l.length + 1) cap)) (fun j hj _ => Below.heap_setCell _ _ _ _ (by simp only; omega))
                  have hB11 : Below w.heap.size w (w10.setCell ⟨w.heap.size + 1, 4, none⟩ (.slice (some ⟨gg, 0, none⟩) (l.length + 1) cap)) :=
                    (((((unhide HB).trans ((unhide HK9).toBelow (Nat.le_refl _) (by omega))).alloc (by omega) _).drew).grown hgrow (by simp; omega) (fun k hk => by have := hge k hk; omega)).setCell (by simp only; omega) _
                  have H11 := hide h11
                  have HT11 := hide hT11
                  have HO11 := hide hO11
                  have HH11 := hide hH11
                  have HRI11 := hide hRI11
                  have HB11 := hide hB11
                  have HNE11 := hide hne11
                  clear h10 h11 hT10 hT11 hO11 hH11 hRI hRI11 hB11 hge hrow hown10 hgrow hat hx3l hne11
                  go_wp2_with fail
                  refine (next_lit [110, 101, 118, 101, 114] _ _ _ L _ (unhide H11)).mono ?_
                  rintro e w12 ⟨rfl, h12, hk12⟩
                  have HR12 := hide (show NevRel w.heap.size w.heap.size (w.heap.size + 1) w (.slice va vl vc) L (rHeads L startR).1 (rHeads L startR).2.1 (treeV L).1 (treeR L).1 (treeN L) (.bool (rNext L [110, 101, 118, 101, 114] (rMust L [59] G.2))) w12 from
                    ⟨l ++ [⟨k.1, P.1, G.1, .nil⟩], rMust L [59] G.2, g, x0, x1, x2, x3, _, y1, y3, _, rfl, (hk12.block (w.heap.size + 1) (by simpa using lt_of_block (unhide HT11)) (by omega)).trans (unhide HT11), (unhide HH11).stay (fun k h1 h2 => hk12.block k h2 (by omega)), ⟨by rw [List.length_append]; exact owns_kept' (unhide HO11) hk12 (by omega), (unhide HRI11).kept hk12 (by omega)⟩, unhide HNE11, h12, (unhide HB11).trans (hk12.toBelow (Nat.le_refl _) (by have := (unhide HB11).size; omega)), unhide HT1, by omega, by rw [List.length_append]; simp; omega⟩)
                  have HM := hide (show L.length - atOf w12 w.heap.size < L.length - atOf wr w.heap.size by rw [h12.atOf, (unhide H2).atOf]; have := h12.lt; omega)
                  clear h12 hk12
                  go_wp2
                  go_roundw
                  case rel => exact unhide HR12
                  case measure => exact unhide HM
    · obtain ⟨hT1, hfu⟩ := hTr rfl
      clear hTr hFa
      obtain ⟨g, rfl⟩ : ∃ g', g = g' + 1 := ⟨g - 1, by have := mFuel_pos hfu; omega⟩
      cases hb2 : s2.bad
      · rw [rVars, hb2] at hT1
        simp only [Bool.false_eq_true, if_false] at hT1
        rw [hb2] at c3
        have HT1 := hide hT1
        clear hT1
        go_wp2_with fail
        refine (variable_any _ _ _ L s2 (unhide H2)).mono ?_
        rintro e w3 ⟨rfl, h3, hk3⟩
        have hvp := rVar_prog (L := L) (st := s2)
        have hvm := Nat.le_trans (rMust_mono L [118, 97, 114] s2) (rVar_mono L s2)
        generalize rVar L s2 = V at HT1 h3 hvp hvm ⊢
        have hz3 := hk3.size
        have hT3 := (hk3.block (w.heap.size + 1) hT2 (by omega)).trans (unhide HT)
        obtain ⟨q0, q1, q2, q3, q4, r0, r1, r2, r3, r4⟩ := row5 hT3
        have HT3 := hide hT3
        have HO3 := hide (owns_kept' (unhide HO) hk3 (by omega))
        have HH3 := hide ((unhide HH).stay (fun k h1 h2 => hk3.block k h2 (by omega)))
        have HB3 := hide ((unhide HB).trans (hk3.toBelow (Nat.le_refl _) (by omega)))
        have H3 := hide h3
        have hT3l := lt_of_block hT3
        have hxT : x.ownBlock ≠ some (w.heap.size + 1) := fun e => by have := own_ge (unhide HO3) _ e; omega
        have hxl := own_lt (unhide HO3)
        have HXL := hide hxl
        clear h3 hk3 hT3 HO HH HT HB hxl c0 c1 c2 c3 f0 f1 f2 f3
        unfold varV varCells tokCells
        simp only [List.cons_append, List.nil_append]
        go_wp2_with fail
        have hx4 := heap_alloc_new w3 (.cells #[.string V.1.name.kind, .string V.1.name.text, .int .i64 V.1.name.at_, .string V.1.over.kind, .string V.1.over.text, .int .i64 V.1.over.at_, .string V.1.type_.kind, .string V.1.type_.text, .int .i64 V.1.type_.at_, .string V.1.top.kind, .string V.1.top.text, .int .i64 V.1.top.at_] 89)
        have hb4 := below_alloc1 w3 (.cells #[.string V.1.name.kind, .string V.1.name.text, .int .i64 V.1.name.at_, .string V.1.over.kind, .string V.1.over.text, .int .i64 V.1.over.at_, .string V.1.type_.kind, .string V.1.type_.text, .int .i64 V.1.type_.at_, .string V.1.top.kind, .string V.1.top.text, .int .i64 V.1.top.at_] 89)
        generalize w3.alloc (.cells #[.string V.1.name.kind, .string V.1.name.text, .int .i64 V.1.name.at_, .string V.1.over.kind, .string V.1.over.text, .int .i64 V.1.over.at_, .string V.1.type_.kind, .string V.1.type_.text, .int .i64 V.1.type_.at_, .string V.1.top.kind, .string V.1.top.text, .int .i64 V.1.top.at_] 89) = w4 at hx4 hb4 ⊢
        obtain ⟨d0, d1, d2, d3, d4, d5, d6, d7, d8, d9, d10, d11, e0, e1, e2, e3, e4, e5, e6, e7, e8, e9, e10, e11⟩ := row12 hx4
        have hT4 := (hb4.block _ hT3l).trans (unhide HT3)
        clear q0 q1 q2 q3 q4 r0 r1 r2 r3 r4
        obtain ⟨q0, q1, q2, q3, q4, r0, r1, r2, r3, r4⟩ := row5 hT4
        have hx4l := lt_of_block hx4
        have hT4l := lt_of_block hT4
        have hz4 := hb4.size
        have hxX : x.ownBlock ≠ some w3.heap.size := fun e => by have := unhide HXL _ e; omega
        have H4 := hide ((unhide H3).below hb4)
        have HO4 := hide (owns_stay (fun k _ hk => hb4.block k hk) (unhide HO3))
        have HH4 := hide ((unhide HH3).stay (fun k _ hk => hb4.block k hk))
        have HB4 := hide ((unhide HB3).trans (hb4.mono (by omega)))
        have HT4 := hide hT4
        clear hx4 hb4 hT4
        go_region_law ((refine step_append_lies _ (by rfl) _ _ _ (by rfl) (w.heap.size + 1 + 1) 89 i0 _ 12 160 Tryz.underlying84 hi hz0 hz1 hz2 rfl (by omega) x l.length (varsCells l) (by rfl) (((unhide HO4).alloc _).drew) ⟨w4.heap.size, 0, none⟩ 1 1 (varCells V.1) (by rfl) (by rfl) (World.news_of_block (cs := (varCells V.1).toArray) (t := 89) (fr := (0, 0)) (heap_alloc_new w4 _)) (varCells_one _) (by omega) (by unfold maxLen; omega) (by omega) (by simp; omega) (w4.heap.size + 1) (by simp) ?_; intro gg cap w5 hown5 hgrow hat hlt5; have hf5 : w5.frozen? ⟨w.heap.size + 1, 2, none⟩ = false := (hgrow.frozen_far _ (by simp; omega) (Ne.symm hxT)).trans (frozen_later (below_alloc_drew _ _) hT4l r2); have hc5 : w5.cell? ⟨w.heap.size + 1, 2, none⟩ = some x := (hgrow.cell_far _ (by simp; omega) (Ne.symm hxT)).trans (cell_later (below_alloc_drew _ _) q2)))
        all_goals
          have hge := own_ge (unhide HO4)
          have hrow := ((unhide HO4).alloc (.cells (varCells V.1).toArray 89)).drew
          have h5 := ((unhide H4).below (below_alloc_drew _ _)).grown hgrow hge (fun g hg => by have := unhide HV g hg; omega) (by omega)
          have h6 := h5.setNew (B := w.heap.size + 1) (fun g hg => by have := unhide HV g hg; omega) (by omega) (p := ⟨w.heap.size + 1, 2, none⟩) (Nat.le_refl _) (.slice (some ⟨gg, 0, none⟩) (l.length + 1) cap)
          have hT5 := (hgrow.block (w.heap.size + 1) (by simp; omega) (Ne.symm hxT)).trans ((Below.heap_alloc w4 _ _ hT4l).trans (unhide HT4))
          have hT6 := heap_setCell_same w5 (w.heap.size + 1) 2 _ _ (.slice (some ⟨gg, 0, none⟩) (l.length + 1) cap) hT5
          have hO6 := ownsRow_setCell_below hown5 (a := ⟨w.heap.size + 1, 2, none⟩) (by simp) (.slice (some ⟨gg, 0, none⟩) (l.length + 1) cap)
          have hH6 := (((unhide HH4).stay (w' := (w4.alloc (.cells (varCells V.1).toArray 89)).drew) (fun j _ hj => Below.heap_alloc w4 _ j hj)).far hrow (by decide) (by decide) (by decide) hgrow).stay (w' := w5.setCell ⟨w.heap.size + 1, 2, none⟩ (.slice (some ⟨gg, 0, none⟩) (l.length + 1) cap)) (fun j hj _ => Below.heap_setCell _ _ _ _ (by simp only; omega))
          have hB6 : Below w.heap.size w (w5.setCell ⟨w.heap.size + 1, 2, none⟩ (.slice (some ⟨gg, 0, none⟩) (l.length + 1) cap)) :=
            ((((unhide HB4).alloc (by omega) _).drew).grown hgrow (by simp; omega) (fun k hk => by have := hge k hk; omega)).setCell (by simp only; omega) _
          have H6 := hide h6
          have HT6 := hide hT6
          have HO6 := hide hO6
          have HH6 := hide hH6
          have HB6 := hide hB6
          clear h5 h6 hT5 hT6 hO6 hH6 hB6 hge hrow hown5 hgrow hat
          go_wp2_with fail
          refine (next_lit [118, 97, 114] _ _ _ L V.2 (unhide H6)).mono ?_
          rintro e w7 ⟨rfl, h7, hk7⟩
          have hT7 := (hk7.block (w.heap.size + 1) (by simpa using lt_of_block (unhide HT6)) (by omega)).trans (unhide HT6)
          have hO7 := owns_kept' (unhide HO6) hk7 (by omega)
          have hH7 := (unhide HH6).stay (fun k h1 h2 => hk7.block k h2 (by omega))
          have hB7 := (unhide HB6).trans (hk7.toBelow (Nat.le_refl _) (by have := (unhide HB6).size; omega))
          have hlen7 : (l ++ [V.1]).length ≤ V.2.at_ + V.2.bad.toNat := by
            rw [hb2] at hpl
            simp only [Bool.toNat_false, Nat.add_zero] at hpl
            rw [List.length_append]
            cases hkb : V.2.bad
            · have := hvp hkb; simp; omega
            · simp; omega
          have HM := hide (rd_less (unhide H2) h7 hb2 hvm hvp)
          cases hnx : rNext L [118, 97, 114] V.2
          · have hT1 := unhide HT1
            rw [hnx] at hT1
            simp only [Bool.false_eq_true, if_false] at hT1
            have HR7 := hide (show VarRel w.heap.size w.heap.size (w.heap.size + 1) w (.slice va vl vc) L (rHeads L startR).1 (rHeads L startR).2.1 (treeV L) (.bool false) w7 from
              ⟨l ++ [V.1], V.2, g, false, x0, x1, _, y1, rfl, hT7, hH7, by rw [varsCells_snoc, List.length_append]; exact hO7, h7, hB7, (fun h => by cases h), (fun _ => hT1), hlen7⟩)
            clear h7 hk7 hT7 hO7 hH7 hB7 hT1 hlen7
            go_wp2
            go_roundw
            case rel => exact unhide HR7
            case measure => exact unhide HM
          · have hT1 := unhide HT1
            rw [hnx] at hT1
            simp only [if_true] at hT1
            have HR7 := hide (show VarRel w.heap.size w.heap.size (w.heap.size + 1) w (.slice va vl vc) L (rHeads L startR).1 (rHeads L startR).2.1 (treeV L) (.bool true) w7 from
              ⟨l ++ [V.1], V.2, g, true, x0, x1, _, y1, rfl, hT7, hH7, by rw [varsCells_snoc, List.length_append]; exact hO7, h7, hB7, (fun _ => ⟨hT1, mFuel_step hlt2 hb2 hfu hvp⟩), (fun h => by cases h), hlen7⟩)
            clear h7 hk7 hT7 hO7 hH7 hB7 hT1 hlen7
            go_wp2
            go_roundw
            case rel => exact unhide HR7
            case measure => exact unhide HM
      · rw [rVars, hb2] at hT1
        simp only [if_true] at hT1
        rw [hb2] at c3
        have HF := hide hT1
        clear hT1
        have htv : (l, s2) = treeV L := unhide HF
        have hvars : (treeV L).1 = l := by rw [← htv]
        have hstv : (treeV L).2 = s2 := by rw [← htv]
        have HVS := hide hvars
        have HRR := hide (show RulRel w.heap.size w.heap.size (w.heap.size + 1) w (.slice va vl vc) L (rHeads L startR).1 (rHeads L startR).2.1 (treeV L).1 (treeR L) (.bool true) wr from
          ⟨[], s2, fuelM L, true, x0, x1, x, .slice none 0 0, y1, [], rfl, unhide HT, by rw [hvars]; exact ⟨unhide HH, unhide HO⟩, ⟨World.ownsRow_nil _ _ _ _, rfl⟩, unhide H2, unhide HB, fun _ => ⟨by unfold treeR; rw [hstv], mFuel_start _ _⟩, fun h => (by cases h), Nat.zero_le _⟩)
        clear htv hvars hstv
        go_wp2_with fail
        clear HT HH HO H2 HB HF
        go_loopw [8] (fun m wr => RulRel w.heap.size w.heap.size (w.heap.size + 1) w (.slice va vl vc) L (rHeads L startR).1 (rHeads L startR).2.1 (treeV L).1 (treeR L) m wr) (fun _ wr => 2 * (L.length - atOf wr w.heap.size) + gdOf wr w.heap.size)
        case atStart => exact unhide HRR
        case round =>
          clear hlt2 hR2 hT2 hbd hpl
          obtain ⟨l, s2, g, b, x0, x1, x2, x, y1, ys, rfl, hT, hH, hown, h2, hb2, hTr, hFa, hpl⟩ := hrel
          have hlt2 := h2.lt
          have hR2 := lt_of_block h2.rd
          have hT2 := lt_of_block hT
          obtain ⟨c0, c1, c2, c3, f0, f1, f2, f3⟩ := row4 h2.rd
          have HO := hide hown
          have HH := hide hH
          have H2 := hide h2
          have HB := hide hb2
          have HT := hide hT
          have hbd := rd_bound h2 hpl
          clear hown hH h2 hb2 hT
          cases b
          · have HF := hide (hFa rfl)
            clear hTr hFa
            have htr : (l, s2) = treeR L := unhide HF
            have hrules : (treeR L).1 = l := by rw [← htr]
            have hstr : (treeR L).2 = s2 := by rw [← htr]
            go_wp2_with fail
            refine (next_lit [110, 101, 118, 101, 114] _ _ _ L s2 (unhide H2)).mono ?_
            rintro e w20 ⟨rfl, h20, hk20⟩
            have HNR := hide (show NevRel w.heap.size w.heap.size (w.heap.size + 1) w (.slice va vl vc) L (rHeads L startR).1 (rHeads L startR).2.1 (treeV L).1 (treeR L).1 (treeN L) (.bool (rNext L [110, 101, 118, 101, 114] s2)) w20 from
              ⟨[], s2, fuelM L, x0, x1, x2, x, .slice none 0 0, y1, ys, [], rfl, (hk20.block (w.heap.size + 1) hT2 (by omega)).trans (unhide HT), by rw [hrules]; exact ⟨(unhide HH).stay (fun k h1 h2 => hk20.block k h2 (by omega)), owns_kept' (unhide HO).1 hk20 (by omega), (unhide HO).2.kept hk20 (by omega)⟩, ⟨World.ownsRow_nil _ _ _ _, rfl⟩, (by cases hxo : x.ownBlock with | none => exact Or.inl rfl | some j => exact Or.inr (by simp [Value.ownBlock])), h20, (unhide HB).trans (hk20.toBelow (Nat.le_refl _) (by omega)), by unfold treeN; rw [hstr], by unfold fuelM; omega, Nat.zero_le _⟩)
            clear htr hrules hstr h20 hk20 HT HH HO H2 HB HF
            go_wp2_with fail
            go_loopw [10] (fun m wr => NevRel w.heap.size w.heap.size (w.heap.size + 1) w (.slice va vl vc) L (rHeads L startR).1 (rHeads L startR).2.1 (treeV L).1 (treeR L).1 (treeN L) m wr) (fun _ wr => L.length - atOf wr w.heap.size)
            case atStart => exact unhide HNR
            case round =>
              clear hlt2 hR2 hT2 hbd hpl
              obtain ⟨l, s2, g, x0, x1, x2, x3, x, y1, y3, ys, rfl, hT, hH, hown, hne, h2, hb2, hFa, hfu, hpl⟩ := hrel
              have hlt2 := h2.lt
              have hlen2 := h2.len
              have hR2 := lt_of_block h2.rd
              have hT2 := lt_of_block hT
              have hzw := hb2.size
              obtain ⟨c0, c1, c2, c3, f0, f1, f2, f3⟩ := row4 h2.rd
              have HO := hide hown
              have HH := hide hH
              have H2 := hide h2
              have HB := hide hb2
              have HT := hide hT
              have HNE := hide hne
              have HFa := hide hFa
              clear hown hH h2 hb2 hT hne hFa
              obtain ⟨g, rfl⟩ : ∃ g', g = g' + 1 := ⟨g - 1, by omega⟩
              cases hn : rNext L [110, 101, 118, 101, 114] s2
              · have hF := unhide HFa
                rw [rNevers, hn] at hF
                simp only [Bool.false_eq_true, if_false] at hF
                have htn : (treeN L).2 = s2 := by rw [← hF]
                have htn1 : (treeN L).1 = l := by rw [← hF]
                have HTN := hide htn
                have HTN1 := hide htn1
                clear hF htn htn1 HFa
                obtain ⟨gb, cap, hv, hg, hgl, hRl, t0, t1, t2⟩ := (unhide H2).open
                cases hv
                have hE : (rTree L).2 = if s2.bad || !((tk L s2.at_).kind.toList == [101, 110, 100]) then some (tk L s2.at_).at_ else none := by unfold rTree; simp only; rw [unhide HTN]
                have HE := hide hE
                clear hE
                generalize tk L s2.at_ = tt at t0 t1 t2 HE
                cases hbb : s2.bad
                · rw [hbb] at c3 HE
                  cases hke : (tt.kind.toList == [101, 110, 100])
                  · rw [hke] at HE
                    go_wp2
                    go_quiet (fail)
                    go_wp2
                    go_ret2
                    exact ⟨below_drewN (unhide HB) _, Or.inl ⟨_, unhide HE, rfl⟩⟩
                  · rw [hke] at HE
                    go_wp2
                    go_ret2
                    refine ⟨unhide HB, Or.inr ⟨unhide HE, _, by omega, rfl, x0, x1, x2, x3, x, y1, y3, ys, unhide HT, ?_⟩⟩
                    have hH := unhide HH
                    have hO := unhide HO
                    unfold rTree
                    simp only
                    rw [unhide HTN1]
                    exact ⟨hH.1.1.1, ⟨hH.1.1.2.1, hH.1.1.2.2⟩, hH.1.2, ⟨hH.2.1, hH.2.2⟩, hO⟩
                · rw [hbb] at c3 HE
                  go_wp2
                  go_quiet (fail)
                  go_wp2
                  go_ret2
                  exact ⟨below_drewN (unhide HB) _, Or.inl ⟨_, unhide HE, rfl⟩⟩
              · have hF := unhide HFa
                rw [rNevers, if_pos hn] at hF
                have HT1 := hide hF
                clear hF HFa
                have hvp := rNever1_prog hn
                have HVr := hide (show ∀ g, (Value.slice va vl vc).ownBlock = some g → g < wr.heap.size from fun g hg => by have := unhide HV g hg; omega)
                go_wp2_with fail
                refine (must_lit [110, 101, 118, 101, 114] _ _ _ L s2 ((unhide H2).below (below_alloc1 _ _))).mono ?_
                rintro e w3 ⟨rfl, h3, hk3⟩
                have HX3 := hide ((hk3.block wr.heap.size (by simp) (by omega)).trans (heap_alloc_new wr _))
                have HK3 := hide (((Kept.refl w.heap.size wr).alloc _).trans hk3)
                have H3 := hide h3
                clear h3 hk3 c0 c1 c2 c3 f0 f1 f2 f3
                go_wp2_with fail
                refine (kind_lit [110, 97, 109, 101] _ _ _ L _ (unhide H3) rfl).mono ?_
                rintro e w4 ⟨rfl, h4, hk4⟩
                have hx4 := (hk4.block wr.heap.size (lt_of_block (unhide HX3)) (by omega)).trans (unhide HX3)
                obtain ⟨d0, d1, d2, d3, d4, d5, e0, e1, e2, e3, e4, e5⟩ := row6 hx4
                have HX4 := hide hx4
                have HK4 := hide ((unhide HK3).trans hk4)
                have H4 := hide h4
                clear h4 hk4 hx4 HX3 HK3 H3
                generalize hk : rKind L [110, 97, 109, 101] (rMust L [110, 101, 118, 101, 114] s2) = k at H4 ⊢
                have E1 := hide (show neverK L s2 = k from hk)
                clear hk
                unfold tokV
                go_wp2_with fail
                refine (params_any _ _ _ L k.2 ((unhide H4).set3 (unhide HVr) hR2 (Nat.le_refl _))).mono ?_
                rintro e w5 ⟨vp, rfl, hvpo, h5, hk5, hpl5⟩
                have hx4l := lt_of_block (unhide HX4)
                have hx5 := (hk5.block wr.heap.size (by simpa using lt_of_block (unhide HX4)) (by omega)).trans (set6a (unhide HX4) _ _ _)
                clear d0 d1 d2 d3 d4 d5 e0 e1 e2 e3 e4 e5
                obtain ⟨d0, d1, d2, d3, d4, d5, e0, e1, e2, e3, e4, e5⟩ := row6 hx5
                have HX5 := hide hx5
                have HK5 := hide (((unhide HK4).set3 (b := wr.heap.size) (Nat.le_refl _)).trans hk5)
                have HP5 := hide (owns_mono (lo' := wr.heap.size + 1) (by simp; omega) hvpo)
                have H5 := hide h5
                obtain ⟨pa, pn, pc, rfl⟩ := own_slice hvpo
                clear hvpo h5 hk5 hx5 HX4 HK4 H4 hpl5
                generalize hP : rParams L k.2 = P at H5 HP5
                have E2 := hide (show neverP L s2 = P from by unfold neverP; rw [unhide E1]; exact hP)
                clear hP
                have hpX : (Value.slice pa pn pc).ownBlock ≠ some wr.heap.size := fun e => by have := own_ge (unhide HP5) _ e; omega
                go_wp2_with fail
                refine (level_zero _ _ _ L P.2 ((unhide H5).setNew (unhide HVr) hR2 (p := ⟨wr.heap.size, 3, none⟩) (Nat.le_refl _) _) hD).mono ?_
                rintro e w7 ⟨q7, rfl, hq7, h7, hk7⟩
                have hx5l := lt_of_block (unhide HX5)
                have hx7 := (hk7.block wr.heap.size (by simpa using lt_of_block (unhide HX5)) (by omega)).trans (set6d (unhide HX5) (.slice pa pn pc))
                clear d0 d1 d2 d3 d4 d5 e0 e1 e2 e3 e4 e5
                obtain ⟨d0, d1, d2, d3, d4, d5, e0, e1, e2, e3, e4, e5⟩ := row6 hx7
                have HX7 := hide hx7
                have HK7 := hide (((unhide HK5).setNew (p := ⟨wr.heap.size, 3, none⟩) (Nat.le_refl _) (.slice pa pn pc)).trans hk7)
                have HP7 := hide (owns_kept' (ownsRow_setCell_other (unhide HP5) (a := ⟨wr.heap.size, 3, none⟩) hpX (.slice pa pn pc)) hk7 (by omega))
                have HG7 := hide (hq7.mono (lo' := wr.heap.size + 1) (by simp; omega))
                have H7 := hide h7
                obtain ⟨q7, rfl⟩ := hq7.ptr
                clear hq7 h7 hk7 hx7 HX5 HK5 HP5 H5
                generalize hG : rX (fuelX L) 0 .nil L P.2 = G at H7 HG7
                have E3 := hide (show neverG L s2 = G from by unfold neverG; rw [unhide E2]; exact hG)
                clear hG
                go_wp2_with fail
                refine (must_lit [59] _ _ _ L G.2 ((unhide H7).setNew (unhide HVr) hR2 (p := ⟨wr.heap.size, 4, none⟩) (Nat.le_refl _) _)).mono ?_
                rintro e w9 ⟨rfl, h9, hk9⟩
                have hx9 := (hk9.block wr.heap.size (by simpa using lt_of_block (unhide HX7)) (by omega)).trans (set6e (unhide HX7) (.pointer q7))
                have hK9 := ((unhide HK7).setNew (p := ⟨wr.heap.size, 4, none⟩) (Nat.le_refl _) (.pointer q7)).trans hk9
                have hP9 := owns_kept' (ownsRow_setCell_other (unhide HP7) (a := ⟨wr.heap.size, 4, none⟩) hpX (.pointer q7)) hk9 (by omega)
                have hG9 := ((unhide HG7).stay (set_stay (o := 4) (u := .pointer q7))).kept hk9 (by omega)
                have E4 := hide (show rNever1 L s2 = (⟨k.1, P.1, G.1, .nil⟩, rMust L [59] G.2) from by unfold rNever1; rw [unhide E1, unhide E2, unhide E3])
                clear d0 d1 d2 d3 d4 d5 e0 e1 e2 e3 e4 e5
                obtain ⟨d0, d1, d2, d3, d4, d5, e0, e1, e2, e3, e4, e5⟩ := row6 hx9
                have hT9 := (hK9.block (w.heap.size + 1) hT2 (by omega)).trans (unhide HT)
                obtain ⟨q0, q1, q2, q3, q4, r0, r1, r2, r3, r4⟩ := row5 hT9
                have hT9l := lt_of_block hT9
                have hx9l := lt_of_block hx9
                have hz9 := hK9.size
                have HK9 := hide hK9
                have HT9 := hide hT9
                have H9 := hide h9
                have HP9 := hide hP9
                have HG9 := hide hG9
                have HO9 := hide (owns_kept' (unhide HO).1 hK9 (by omega))
                have HRI9 := hide ((unhide HO).2.kept hK9 (by omega))
                have HH9 := hide ((unhide HH).stay (fun k h1 h2 => hK9.block k h2 (by omega)))
                have hxT : x.ownBlock ≠ some (w.heap.size + 1) := fun e => by have := own_ge (unhide HO9) _ e; omega
                have hxX : x.ownBlock ≠ some wr.heap.size := fun e => by have := own_lt (unhide HO).1 _ e; omega
                rw [unhide E4] at HT1 hvp
                simp only at HT1 hvp
                clear h9 hk9 hx9 hK9 hP9 hG9 hT9 HX7 HK7 HP7 HG7 H7 HO HH HT
                go_wp2_with fail
                go_region_law ((refine step_append_lies _ (by rfl) _ _ _ (by rfl) (w.heap.size + 1 + 1) 61 i1 _ 6 96 Tryz.underlying52 hj hy0 hy1 hy2 rfl (by omega) x l.length ys (by rfl) (((unhide HO9).alloc _).drew) ⟨w9.heap.size, 0, none⟩ 1 1 (tokCells k.1 ++ [Value.slice pa pn pc, Value.pointer q7, Value.slice none 0 0]) (by rfl) (by rfl) (World.news_of_block (cs := (tokCells k.1 ++ [Value.slice pa pn pc, Value.pointer q7, Value.slice none 0 0]).toArray) (t := 61) (fr := (0, 0)) (heap_alloc_new w9 _)) (ruleCells_one _ _ _ _ _ _ _ _) (by omega) (by unfold maxLen; omega) (by omega) (by simp; omega) (w9.heap.size + 1) (by simp) ?_; intro gg cap w10 hown10 hgrow hat hlt10; have hf10 : w10.frozen? ⟨w.heap.size + 1, 4, none⟩ = false := (hgrow.frozen_far _ (by simp; omega) (Ne.symm hxT)).trans (frozen_later (below_alloc_drew _ _) hT9l r4); have hc10 : w10.cell? ⟨w.heap.size + 1, 4, none⟩ = some x := (hgrow.cell_far _ (by simp; omega) (Ne.symm hxT)).trans (cell_later (below_alloc_drew _ _) q4)))
                all_goals
                  have hge := own_ge (unhide HO9)
                  have hrow := ((unhide HO9).alloc (.cells (tokCells k.1 ++ [Value.slice pa pn pc, Value.pointer q7, Value.slice none 0 0]).toArray 61)).drew
                  have h10 := ((unhide H9).below (below_alloc_drew _ _)).grown hgrow hge (fun g hg => by have := unhide HV g hg; omega) (by omega)
                  have h11 := h10.setNew (B := w.heap.size + 1) (fun g hg => by have := unhide HV g hg; omega) (by omega) (p := ⟨w.heap.size + 1, 4, none⟩) (Nat.le_refl _) (.slice (some ⟨gg, 0, none⟩) (l.length + 1) cap)
                  have hT10 := (hgrow.block (w.heap.size + 1) (by simp; omega) (Ne.symm hxT)).trans ((Below.heap_alloc w9 _ _ hT9l).trans (unhide HT9))
                  have hT11 := heap_setCell_same w10 (w.heap.size + 1) 4 _ _ (.slice (some ⟨gg, 0, none⟩) (l.length + 1) cap) hT10
                  have hO11 := ownsRow_setCell_below hown10 (a := ⟨w.heap.size + 1, 4, none⟩) (by simp) (.slice (some ⟨gg, 0, none⟩) (l.length + 1) cap)
                  have hx3l := own_lt (unhide HH9).2.1
                  have hne11 : x3.ownBlock = none ∨ x3.ownBlock ≠ (Value.slice (some ⟨gg, 0, none⟩) (l.length + 1) cap).ownBlock := by
                    cases hx3 : x3.ownBlock with
                    | none => exact Or.inl rfl
                    | some j =>
                      refine Or.inr fun he => ?_
                      simp [Value.ownBlock] at he
                      subst he
                      have := hx3l _ hx3
                      rcases hat with e | e
                      · rcases unhide HNE with e' | e'
                        · rw [hx3] at e'; cases e'
                        · rw [hx3] at e'; exact e' e.symm
                      · omega
                  have hH11 := (((unhide HH9).stay (w' := (w9.alloc (.cells (tokCells k.1 ++ [Value.slice pa pn pc, Value.pointer q7, Value.slice none 0 0]).toArray 61)).drew) (fun j _ hj => Below.heap_alloc w9 _ j hj)).far hrow (unhide HNE) hgrow).stay (w' := w10.setCell ⟨w.heap.size + 1, 4, none⟩ (.slice (some ⟨gg, 0, none⟩) (l.length + 1) cap)) (fun j hj _ => Below.heap_setCell _ _ _ _ (by simp only; omega))
                  have hzz := (unhide HK9).size
                  have hRI := (unhide HRI9).snoc (r := ⟨k.1, P.1, G.1, .nil⟩) (ps := []) (owns_mono (by omega) (unhide HP9)) ((unhide HG9).mono (by omega)) (World.ownsRow_nil _ _ _ _) rfl
                  have hRI11 := ((hRI.stay (w' := (w9.alloc (.cells (tokCells k.1 ++ [Value.slice pa pn pc, Value.pointer q7, Value.slice none 0 0]).toArray 61)).drew) (fun j _ hj => Below.heap_alloc w9 _ j hj)).far hrow (by decide) (by decide) (by decide) (by decide) hgrow).stay (w' := w10.setCell ⟨w.heap.size + 1, 4, none⟩ (.slice (some ⟨gg, 0, none⟩) (l.length + 1) cap)) (fun j hj _ => Below.heap_setCell _ _ _ _ (by simp only; omega))
                  have hB11 : Below w.heap.size w (w10.setCell ⟨w.heap.size + 1, 4, none⟩ (.slice (some ⟨gg, 0, none⟩) (l.length + 1) cap)) :=
                    (((((unhide HB).trans ((unhide HK9).toBelow (Nat.le_refl _) (by omega))).alloc (by omega) _).drew).grown hgrow (by simp; omega) (fun k hk => by have := hge k hk; omega)).setCell (by simp only; omega) _
                  have H11 := hide h11
                  have HT11 := hide hT11
                  have HO11 := hide hO11
                  have HH11 := hide hH11
                  have HRI11 := hide hRI11
                  have HB11 := hide hB11
                  have HNE11 := hide hne11
                  clear h10 h11 hT10 hT11 hO11 hH11 hRI hRI11 hB11 hge hrow hown10 hgrow hat hx3l hne11
                  go_wp2_with fail
                  refine (next_lit [110, 101, 118, 101, 114] _ _ _ L _ (unhide H11)).mono ?_
                  rintro e w12 ⟨rfl, h12, hk12⟩
                  have HR12 := hide (show NevRel w.heap.size w.heap.size (w.heap.size + 1) w (.slice va vl vc) L (rHeads L startR).1 (rHeads L startR).2.1 (treeV L).1 (treeR L).1 (treeN L) (.bool (rNext L [110, 101, 118, 101, 114] (rMust L [59] G.2))) w12 from
                    ⟨l ++ [⟨k.1, P.1, G.1, .nil⟩], rMust L [59] G.2, g, x0, x1, x2, x3, _, y1, y3, _, rfl, (hk12.block (w.heap.size + 1) (by simpa using lt_of_block (unhide HT11)) (by omega)).trans (unhide HT11), (unhide HH11).stay (fun k h1 h2 => hk12.block k h2 (by omega)), ⟨by rw [List.length_append]; exact owns_kept' (unhide HO11) hk12 (by omega), (unhide HRI11).kept hk12 (by omega)⟩, unhide HNE11, h12, (unhide HB11).trans (hk12.toBelow (Nat.le_refl _) (by have := (unhide HB11).size; omega)), unhide HT1, by omega, by rw [List.length_append]; simp; omega⟩)
                  have HM := hide (show L.length - atOf w12 w.heap.size < L.length - atOf wr w.heap.size by rw [h12.atOf, (unhide H2).atOf]; have := h12.lt; omega)
                  clear h12 hk12
                  go_wp2
                  go_roundw
                  case rel => exact unhide HR12
                  case measure => exact unhide HM
          · obtain ⟨hT1, hfu⟩ := hTr rfl
            clear hTr hFa
            obtain ⟨g, rfl⟩ : ∃ g', g = g' + 1 := ⟨g - 1, by have := mFuel_pos hfu; omega⟩
            cases hb2 : s2.bad
            · rw [rRules, hb2] at hT1
              simp only [Bool.false_eq_true, if_false] at hT1
              rw [hb2] at c3
              have HT1 := hide hT1
              clear hT1
              have HVr := hide (show ∀ g, (Value.slice va vl vc).ownBlock = some g → g < wr.heap.size from fun g hg => by have := unhide HV g hg; omega)
              have hvp := rRule1_prog (L := L) (st := s2)
              have hvm := Nat.le_trans (rMust_mono L [114, 117, 108, 101] s2) (rRule1_mono L s2)
              go_wp2_with fail
              refine (must_lit [114, 117, 108, 101] _ _ _ L s2 ((unhide H2).below (below_alloc1 _ _))).mono ?_
              rintro e w3 ⟨rfl, h3, hk3⟩
              have HX3 := hide ((hk3.block wr.heap.size (by simp) (by omega)).trans (heap_alloc_new wr _))
              have HK3 := hide (((Kept.refl w.heap.size wr).alloc _).trans hk3)
              have H3 := hide h3
              clear h3 hk3 c0 c1 c2 c3 f0 f1 f2 f3
              go_wp2_with fail
              refine (kind_lit [110, 97, 109, 101] _ _ _ L _ (unhide H3) rfl).mono ?_
              rintro e w4 ⟨rfl, h4, hk4⟩
              have hx4 := (hk4.block wr.heap.size (lt_of_block (unhide HX3)) (by omega)).trans (unhide HX3)
              obtain ⟨d0, d1, d2, d3, d4, d5, e0, e1, e2, e3, e4, e5⟩ := row6 hx4
              have HX4 := hide hx4
              have HK4 := hide ((unhide HK3).trans hk4)
              have H4 := hide h4
              clear h4 hk4 hx4 HX3 HK3 H3
              generalize hk : rKind L [110, 97, 109, 101] (rMust L [114, 117, 108, 101] s2) = k at H4 ⊢
              have E1 := hide (show ruleK L s2 = k from hk)
              clear hk
              unfold tokV
              go_wp2_with fail
              refine (params_any _ _ _ L k.2 ((unhide H4).set3 (unhide HVr) hR2 (Nat.le_refl _))).mono ?_
              rintro e w5 ⟨vp, rfl, hvpo, h5, hk5, hpl5⟩
              have hx4l := lt_of_block (unhide HX4)
              have hx5 := (hk5.block wr.heap.size (by simpa using lt_of_block (unhide HX4)) (by omega)).trans (set6a (unhide HX4) _ _ _)
              clear d0 d1 d2 d3 d4 d5 e0 e1 e2 e3 e4 e5
              obtain ⟨d0, d1, d2, d3, d4, d5, e0, e1, e2, e3, e4, e5⟩ := row6 hx5
              have HX5 := hide hx5
              have HK5 := hide (((unhide HK4).set3 (b := wr.heap.size) (Nat.le_refl _)).trans hk5)
              have HP5 := hide (owns_mono (lo' := wr.heap.size + 1) (by simp; omega) hvpo)
              have H5 := hide h5
              obtain ⟨pa, pn, pc, rfl⟩ := own_slice hvpo
              clear hvpo h5 hk5 hx5 HX4 HK4 H4 hpl5
              generalize hP : rParams L k.2 = P at H5 HP5
              have E2 := hide (show ruleP L s2 = P from by unfold ruleP; rw [unhide E1]; exact hP)
              clear hP
              have hpX : (Value.slice pa pn pc).ownBlock ≠ some wr.heap.size := fun e => by have := own_ge (unhide HP5) _ e; omega
              go_wp2_with fail
              refine (must_lit [105, 102] _ _ _ L P.2 ((unhide H5).setNew (unhide HVr) hR2 (p := ⟨wr.heap.size, 3, none⟩) (Nat.le_refl _) _)).mono ?_
              rintro e w6 ⟨rfl, h6, hk6⟩
              have HX6 := hide ((hk6.block wr.heap.size (by simpa using lt_of_block (unhide HX5)) (by omega)).trans (set6d (unhide HX5) (.slice pa pn pc)))
              have HK6 := hide (((unhide HK5).setNew (p := ⟨wr.heap.size, 3, none⟩) (Nat.le_refl _) (.slice pa pn pc)).trans hk6)
              have HP6 := hide (owns_kept' (ownsRow_setCell_other (unhide HP5) (a := ⟨wr.heap.size, 3, none⟩) hpX (.slice pa pn pc)) hk6 (by omega))
              have H6 := hide h6
              clear d0 d1 d2 d3 d4 d5 e0 e1 e2 e3 e4 e5 h6 hk6 HX5 HK5 HP5 H5
              go_wp2_with fail
              refine (level_zero _ _ _ L _ (unhide H6) hD).mono ?_
              rintro e w7 ⟨q7, rfl, hq7, h7, hk7⟩
              have hx6l := lt_of_block (unhide HX6)
              have hx7 := (hk7.block wr.heap.size (lt_of_block (unhide HX6)) (by omega)).trans (unhide HX6)
              obtain ⟨d0, d1, d2, d3, d4, d5, e0, e1, e2, e3, e4, e5⟩ := row6 hx7
              have HX7 := hide hx7
              have HK7 := hide ((unhide HK6).trans hk7)
              have HP7 := hide (owns_kept' (unhide HP6) hk7 (by omega))
              have HG7 := hide (hq7.mono (lo' := wr.heap.size + 1) (by omega))
              have H7 := hide h7
              obtain ⟨q7, rfl⟩ := hq7.ptr
              clear hq7 h7 hk7 hx7 HX6 HK6 HP6 H6
              generalize hG : rX (fuelX L) 0 .nil L (rMust L [105, 102] P.2) = G at H7 HG7
              have E3 := hide (show ruleG L s2 = G from by unfold ruleG; rw [unhide E2]; exact hG)
              clear hG
              go_wp2_with fail
              refine (block_any _ _ _ L G.2 ((unhide H7).setNew (unhide HVr) hR2 (p := ⟨wr.heap.size, 4, none⟩) (Nat.le_refl _) _) hD).mono ?_
              rintro e w8 ⟨vb, qs, rfl, hvb, hqs, h8, hk8⟩
              have hx7l := lt_of_block (unhide HX7)
              have hx8 := (hk8.block wr.heap.size (by simpa using lt_of_block (unhide HX7)) (by omega)).trans (set6e (unhide HX7) (.pointer q7))
              clear d0 d1 d2 d3 d4 d5 e0 e1 e2 e3 e4 e5
              obtain ⟨d0, d1, d2, d3, d4, d5, e0, e1, e2, e3, e4, e5⟩ := row6 hx8
              have hK8 := ((unhide HK7).setNew (p := ⟨wr.heap.size, 4, none⟩) (Nat.le_refl _) (.pointer q7)).trans hk8
              have hP8 := owns_kept' (ownsRow_setCell_other (unhide HP7) (a := ⟨wr.heap.size, 4, none⟩) hpX (.pointer q7)) hk8 (by omega)
              have hG8 := ((unhide HG7).stay (set_stay (o := 4) (u := .pointer q7))).kept hk8 (by omega)
              have hS8 := hqs.mono (lo' := wr.heap.size + 1) (by simp; omega)
              have hW8 := owns_mono (lo' := wr.heap.size + 1) (by simp; omega) hvb
              obtain ⟨ba, bn, bc, rfl⟩ := own_slice hvb
              generalize hBd : rS (fuelB L) 0 L G.2 = Bd at h8 hS8
              have E4 := hide (show rRule1 L s2 = (⟨k.1, P.1, G.1, Bd.1⟩, Bd.2) from by unfold rRule1; rw [unhide E1, unhide E2, unhide E3, hBd])
              clear hBd
              have hx9 := set6f hx8 (.slice ba bn bc)
              have hK9 := hK8.setNew (p := ⟨wr.heap.size, 5, none⟩) (Nat.le_refl _) (.slice ba bn bc)
              have h9 := h8.setNew (unhide HVr) hR2 (p := ⟨wr.heap.size, 5, none⟩) (Nat.le_refl _) (.slice ba bn bc)
              have hP9 := owns_stay (set_stay (o := 5) (u := .slice ba bn bc)) hP8
              have hG9 := hG8.stay (set_stay (o := 5) (u := .slice ba bn bc))
              have hS9 := hS8.stay (set_stay (o := 5) (u := .slice ba bn bc))
              have hW9 := owns_stay (set_stay (o := 5) (u := .slice ba bn bc)) hW8
              go_wp2_with fail
              generalize w8.setCell ⟨wr.heap.size, 5, none⟩ (.slice ba bn bc) = w9 at hx9 hK9 h9 hP9 hG9 hS9 hW9 ⊢
              clear d0 d1 d2 d3 d4 d5 e0 e1 e2 e3 e4 e5
              obtain ⟨d0, d1, d2, d3, d4, d5, e0, e1, e2, e3, e4, e5⟩ := row6 hx9
              have hT9 := (hK9.block (w.heap.size + 1) hT2 (by omega)).trans (unhide HT)
              obtain ⟨q0, q1, q2, q3, q4, r0, r1, r2, r3, r4⟩ := row5 hT9
              have hT9l := lt_of_block hT9
              have hx9l := lt_of_block hx9
              have hz9 := hK9.size
              have HK9 := hide hK9
              have HT9 := hide hT9
              have H9 := hide h9
              have HP9 := hide hP9
              have HG9 := hide hG9
              have HS9 := hide hS9
              have HW9 := hide hW9
              have HO9 := hide (owns_kept' (unhide HO).1 hK9 (by omega))
              have HRI9 := hide ((unhide HO).2.kept hK9 (by omega))
              have HH9 := hide ((unhide HH).stay (fun k h1 h2 => hK9.block k h2 (by omega)))
              have hxT : x.ownBlock ≠ some (w.heap.size + 1) := fun e => by have := own_ge (unhide HO9) _ e; omega
              have hxX : x.ownBlock ≠ some wr.heap.size := fun e => by have := own_lt (unhide HO).1 _ e; omega
              rw [unhide E4] at HT1 hvp hvm
              simp only at HT1 hvp hvm
              clear hvb hqs h8 hk8 hx8 hK8 hP8 hG8 hS8 hW8 hx9 hK9 h9 hP9 hG9 hS9 hW9 hT9 HX7 HK7 HP7 HG7 H7 HO HH HT
              go_region_law ((refine step_append_lies _ (by rfl) _ _ _ (by rfl) (w.heap.size + 1 + 1) 61 i1 _ 6 96 Tryz.underlying52 hj hy0 hy1 hy2 rfl (by omega) x l.length ys (by rfl) (((unhide HO9).alloc _).drew) ⟨w9.heap.size, 0, none⟩ 1 1 (tokCells k.1 ++ [Value.slice pa pn pc, Value.pointer q7, Value.slice ba bn bc]) (by rfl) (by rfl) (World.news_of_block (cs := (tokCells k.1 ++ [Value.slice pa pn pc, Value.pointer q7, Value.slice ba bn bc]).toArray) (t := 61) (fr := (0, 0)) (heap_alloc_new w9 _)) (ruleCells_one _ _ _ _ _ _ _ _) (by omega) (by unfold maxLen; omega) (by omega) (by simp; omega) (w9.heap.size + 1) (by simp) ?_; intro gg cap w10 hown10 hgrow hat hlt10; have hf10 : w10.frozen? ⟨w.heap.size + 1, 3, none⟩ = false := (hgrow.frozen_far _ (by simp; omega) (Ne.symm hxT)).trans (frozen_later (below_alloc_drew _ _) hT9l r3); have hc10 : w10.cell? ⟨w.heap.size + 1, 3, none⟩ = some x := (hgrow.cell_far _ (by simp; omega) (Ne.symm hxT)).trans (cell_later (below_alloc_drew _ _) q3)))
              all_goals
                have hge := own_ge (unhide HO9)
                have hrow := ((unhide HO9).alloc (.cells (tokCells k.1 ++ [Value.slice pa pn pc, Value.pointer q7, Value.slice ba bn bc]).toArray 61)).drew
                have h10 := ((unhide H9).below (below_alloc_drew _ _)).grown hgrow hge (fun g hg => by have := unhide HV g hg; omega) (by omega)
                have h11 := h10.setNew (B := w.heap.size + 1) (fun g hg => by have := unhide HV g hg; omega) (by omega) (p := ⟨w.heap.size + 1, 3, none⟩) (Nat.le_refl _) (.slice (some ⟨gg, 0, none⟩) (l.length + 1) cap)
                have hT10 := (hgrow.block (w.heap.size + 1) (by simp; omega) (Ne.symm hxT)).trans ((Below.heap_alloc w9 _ _ hT9l).trans (unhide HT9))
                have hT11 := heap_setCell_same w10 (w.heap.size + 1) 3 _ _ (.slice (some ⟨gg, 0, none⟩) (l.length + 1) cap) hT10
                have hO11 := ownsRow_setCell_below hown10 (a := ⟨w.heap.size + 1, 3, none⟩) (by simp) (.slice (some ⟨gg, 0, none⟩) (l.length + 1) cap)
                have hH11 := (((unhide HH9).stay (w' := (w9.alloc (.cells (tokCells k.1 ++ [Value.slice pa pn pc, Value.pointer q7, Value.slice ba bn bc]).toArray 61)).drew) (fun j _ hj => Below.heap_alloc w9 _ j hj)).far hrow (by decide) (by decide) (by decide) (by decide) hgrow).stay (w' := w10.setCell ⟨w.heap.size + 1, 3, none⟩ (.slice (some ⟨gg, 0, none⟩) (l.length + 1) cap)) (fun j hj _ => Below.heap_setCell _ _ _ _ (by simp only; omega))
                have hzz := (unhide HK9).size
                have hRI := (unhide HRI9).snoc (r := ⟨k.1, P.1, G.1, Bd.1⟩) (owns_mono (by omega) (unhide HP9)) ((unhide HG9).mono (by omega)) (owns_mono (by omega) (unhide HW9)) ((unhide HS9).mono (by omega))
                have hRI11 := ((hRI.stay (w' := (w9.alloc (.cells (tokCells k.1 ++ [Value.slice pa pn pc, Value.pointer q7, Value.slice ba bn bc]).toArray 61)).drew) (fun j _ hj => Below.heap_alloc w9 _ j hj)).far hrow (by decide) (by decide) (by decide) (by decide) hgrow).stay (w' := w10.setCell ⟨w.heap.size + 1, 3, none⟩ (.slice (some ⟨gg, 0, none⟩) (l.length + 1) cap)) (fun j hj _ => Below.heap_setCell _ _ _ _ (by simp only; omega))
                have hB11 : Below w.heap.size w (w10.setCell ⟨w.heap.size + 1, 3, none⟩ (.slice (some ⟨gg, 0, none⟩) (l.length + 1) cap)) :=
                  (((((unhide HB).trans ((unhide HK9).toBelow (Nat.le_refl _) (by omega))).alloc (by omega) _).drew).grown hgrow (by simp; omega) (fun k hk => by have := hge k hk; omega)).setCell (by simp only; omega) _
                have H11 := hide h11
                have HT11 := hide hT11
                have HO11 := hide hO11
                have HH11 := hide hH11
                have HRI11 := hide hRI11
                have HB11 := hide hB11
                clear h10 h11 hT10 hT11 hO11 hH11 hRI hRI11 hB11 hge hrow hown10 hgrow hat
                go_wp2_with fail
                refine (next_lit [114, 117, 108, 101] _ _ _ L Bd.2 (unhide H11)).mono ?_
                rintro e w12 ⟨rfl, h12, hk12⟩
                have hT12 := (hk12.block (w.heap.size + 1) (by simpa using lt_of_block (unhide HT11)) (by omega)).trans (unhide HT11)
                have hO12 := owns_kept' (unhide HO11) hk12 (by omega)
                have hRI12 := (unhide HRI11).kept hk12 (by omega)
                have hH12 := (unhide HH11).stay (fun k h1 h2 => hk12.block k h2 (by omega))
                have hB12 := (unhide HB11).trans (hk12.toBelow (Nat.le_refl _) (by have := (unhide HB11).size; omega))
                have hlen12 : (l ++ [(⟨k.1, P.1, G.1, Bd.1⟩ : PRule)]).length ≤ Bd.2.at_ + Bd.2.bad.toNat := by
                  rw [hb2] at hpl
                  simp only [Bool.toNat_false, Nat.add_zero] at hpl
                  rw [List.length_append]
                  cases hkb : Bd.2.bad
                  · have := hvp hkb; simp; omega
                  · simp; omega
                have HM := hide (rd_less (unhide H2) h12 hb2 hvm hvp)
                cases hnx : rNext L [114, 117, 108, 101] Bd.2
                · have hT1 := unhide HT1
                  rw [hnx] at hT1
                  simp only [Bool.false_eq_true, if_false] at hT1
                  have HR12 := hide (show RulRel w.heap.size w.heap.size (w.heap.size + 1) w (.slice va vl vc) L (rHeads L startR).1 (rHeads L startR).2.1 (treeV L).1 (treeR L) (.bool false) w12 from
                    ⟨l ++ [⟨k.1, P.1, G.1, Bd.1⟩], Bd.2, g, false, x0, x1, x2, _, y1, _, rfl, hT12, hH12, ⟨by rw [List.length_append]; exact hO12, hRI12⟩, h12, hB12, (fun h => by cases h), (fun _ => hT1), hlen12⟩)
                  clear h12 hk12 hT12 hO12 hRI12 hH12 hB12 hT1 hlen12
                  go_wp2
                  go_roundw
                  case rel => exact unhide HR12
                  case measure => exact unhide HM
                · have hT1 := unhide HT1
                  rw [hnx] at hT1
                  simp only [if_true] at hT1
                  have HR12 := hide (show RulRel w.heap.size w.heap.size (w.heap.size + 1) w (.slice va vl vc) L (rHeads L startR).1 (rHeads L startR).2.1 (treeV L).1 (treeR L) (.bool true) w12 from
                    ⟨l ++ [⟨k.1, P.1, G.1, Bd.1⟩], Bd.2, g, true, x0, x1, x2, _, y1, _, rfl, hT12, hH12, ⟨by rw [List.length_append]; exact hO12, hRI12⟩, h12, hB12, (fun _ => ⟨hT1, mFuel_step hlt2 hb2 hfu hvp⟩), (fun h => by cases h), hlen12⟩)
                  clear h12 hk12 hT12 hO12 hRI12 hH12 hB12 hT1 hlen12
                  go_wp2
                  go_roundw
                  case rel => exact unhide HR12
                  case measure => exact unhide HM
            · rw [rRules, hb2] at hT1
              simp only [if_true] at hT1
              rw [hb2] at c3
              have HF := hide hT1
              clear hT1
              have htr : (l, s2) = treeR L := unhide HF
              have hrules : (treeR L).1 = l := by rw [← htr]
              have hstr : (treeR L).2 = s2 := by rw [← htr]
              go_wp2_with fail
              refine (next_lit [110, 101, 118, 101, 114] _ _ _ L s2 (unhide H2)).mono ?_
              rintro e w20 ⟨rfl, h20, hk20⟩
              have HNR := hide (show NevRel w.heap.size w.heap.size (w.heap.size + 1) w (.slice va vl vc) L (rHeads L startR).1 (rHeads L startR).2.1 (treeV L).1 (treeR L).1 (treeN L) (.bool (rNext L [110, 101, 118, 101, 114] s2)) w20 from
                ⟨[], s2, fuelM L, x0, x1, x2, x, .slice none 0 0, y1, ys, [], rfl, (hk20.block (w.heap.size + 1) hT2 (by omega)).trans (unhide HT), by rw [hrules]; exact ⟨(unhide HH).stay (fun k h1 h2 => hk20.block k h2 (by omega)), owns_kept' (unhide HO).1 hk20 (by omega), (unhide HO).2.kept hk20 (by omega)⟩, ⟨World.ownsRow_nil _ _ _ _, rfl⟩, (by cases hxo : x.ownBlock with | none => exact Or.inl rfl | some j => exact Or.inr (by simp [Value.ownBlock])), h20, (unhide HB).trans (hk20.toBelow (Nat.le_refl _) (by omega)), by unfold treeN; rw [hstr], by unfold fuelM; omega, Nat.zero_le _⟩)
              clear htr hrules hstr h20 hk20 HT HH HO H2 HB HF
              go_wp2_with fail
              go_loopw [10] (fun m wr => NevRel w.heap.size w.heap.size (w.heap.size + 1) w (.slice va vl vc) L (rHeads L startR).1 (rHeads L startR).2.1 (treeV L).1 (treeR L).1 (treeN L) m wr) (fun _ wr => L.length - atOf wr w.heap.size)
              case atStart => exact unhide HNR
              case round =>
                clear hlt2 hR2 hT2 hbd hpl
                obtain ⟨l, s2, g, x0, x1, x2, x3, x, y1, y3, ys, rfl, hT, hH, hown, hne, h2, hb2, hFa, hfu, hpl⟩ := hrel
                have hlt2 := h2.lt
                have hlen2 := h2.len
                have hR2 := lt_of_block h2.rd
                have hT2 := lt_of_block hT
                have hzw := hb2.size
                obtain ⟨c0, c1, c2, c3, f0, f1, f2, f3⟩ := row4 h2.rd
                have HO := hide hown
                have HH := hide hH
                have H2 := hide h2
                have HB := hide hb2
                have HT := hide hT
                have HNE := hide hne
                have HFa := hide hFa
                clear hown hH h2 hb2 hT hne hFa
                obtain ⟨g, rfl⟩ : ∃ g', g = g' + 1 := ⟨g - 1, by omega⟩
                cases hn : rNext L [110, 101, 118, 101, 114] s2
                · have hF := unhide HFa
                  rw [rNevers, hn] at hF
                  simp only [Bool.false_eq_true, if_false] at hF
                  have htn : (treeN L).2 = s2 := by rw [← hF]
                  have htn1 : (treeN L).1 = l := by rw [← hF]
                  have HTN := hide htn
                  have HTN1 := hide htn1
                  clear hF htn htn1 HFa
                  obtain ⟨gb, cap, hv, hg, hgl, hRl, t0, t1, t2⟩ := (unhide H2).open
                  cases hv
                  have hE : (rTree L).2 = if s2.bad || !((tk L s2.at_).kind.toList == [101, 110, 100]) then some (tk L s2.at_).at_ else none := by unfold rTree; simp only; rw [unhide HTN]
                  have HE := hide hE
                  clear hE
                  generalize tk L s2.at_ = tt at t0 t1 t2 HE
                  cases hbb : s2.bad
                  · rw [hbb] at c3 HE
                    cases hke : (tt.kind.toList == [101, 110, 100])
                    · rw [hke] at HE
                      go_wp2
                      go_quiet (fail)
                      go_wp2
                      go_ret2
                      exact ⟨below_drewN (unhide HB) _, Or.inl ⟨_, unhide HE, rfl⟩⟩
                    · rw [hke] at HE
                      go_wp2
                      go_ret2
                      refine ⟨unhide HB, Or.inr ⟨unhide HE, _, by omega, rfl, x0, x1, x2, x3, x, y1, y3, ys, unhide HT, ?_⟩⟩
                      have hH := unhide HH
                      have hO := unhide HO
                      unfold rTree
                      simp only
                      rw [unhide HTN1]
                      exact ⟨hH.1.1.1, ⟨hH.1.1.2.1, hH.1.1.2.2⟩, hH.1.2, ⟨hH.2.1, hH.2.2⟩, hO⟩
                  · rw [hbb] at c3 HE
                    go_wp2
                    go_quiet (fail)
                    go_wp2
                    go_ret2
                    exact ⟨below_drewN (unhide HB) _, Or.inl ⟨_, unhide HE, rfl⟩⟩
                · have hF := unhide HFa
                  rw [rNevers, if_pos hn] at hF
                  have HT1 := hide hF
                  clear hF HFa
                  have hvp := rNever1_prog hn
                  have HVr := hide (show ∀ g, (Value.slice va vl vc).ownBlock = some g → g < wr.heap.size from fun g hg => by have := unhide HV g hg; omega)
                  go_wp2_with fail
                  refine (must_lit [110, 101, 118, 101, 114] _ _ _ L s2 ((unhide H2).below (below_alloc1 _ _))).mono ?_
                  rintro e w3 ⟨rfl, h3, hk3⟩
                  have HX3 := hide ((hk3.block wr.heap.size (by simp) (by omega)).trans (heap_alloc_new wr _))
                  have HK3 := hide (((Kept.refl w.heap.size wr).alloc _).trans hk3)
                  have H3 := hide h3
                  clear h3 hk3 c0 c1 c2 c3 f0 f1 f2 f3
                  go_wp2_with fail
                  refine (kind_lit [110, 97, 109, 101] _ _ _ L _ (unhide H3) rfl).mono ?_
                  rintro e w4 ⟨rfl, h4, hk4⟩
                  have hx4 := (hk4.block wr.heap.size (lt_of_block (unhide HX3)) (by omega)).trans (unhide HX3)
                  obtain ⟨d0, d1, d2, d3, d4, d5, e0, e1, e2, e3, e4, e5⟩ := row6 hx4
                  have HX4 := hide hx4
                  have HK4 := hide ((unhide HK3).trans hk4)
                  have H4 := hide h4
                  clear h4 hk4 hx4 HX3 HK3 H3
                  generalize hk : rKind L [110, 97, 109, 101] (rMust L [110, 101, 118, 101, 114] s2) = k at H4 ⊢
                  have E1 := hide (show neverK L s2 = k from hk)
                  clear hk
                  unfold tokV
                  go_wp2_with fail
                  refine (params_any _ _ _ L k.2 ((unhide H4).set3 (unhide HVr) hR2 (Nat.le_refl _))).mono ?_
                  rintro e w5 ⟨vp, rfl, hvpo, h5, hk5, hpl5⟩
                  have hx4l := lt_of_block (unhide HX4)
                  have hx5 := (hk5.block wr.heap.size (by simpa using lt_of_block (unhide HX4)) (by omega)).trans (set6a (unhide HX4) _ _ _)
                  clear d0 d1 d2 d3 d4 d5 e0 e1 e2 e3 e4 e5
                  obtain ⟨d0, d1, d2, d3, d4, d5, e0, e1, e2, e3, e4, e5⟩ := row6 hx5
                  have HX5 := hide hx5
                  have HK5 := hide (((unhide HK4).set3 (b := wr.heap.size) (Nat.le_refl _)).trans hk5)
                  have HP5 := hide (owns_mono (lo' := wr.heap.size + 1) (by simp; omega) hvpo)
                  have H5 := hide h5
                  obtain ⟨pa, pn, pc, rfl⟩ := own_slice hvpo
                  clear hvpo h5 hk5 hx5 HX4 HK4 H4 hpl5
                  generalize hP : rParams L k.2 = P at H5 HP5
                  have E2 := hide (show neverP L s2 = P from by unfold neverP; rw [unhide E1]; exact hP)
                  clear hP
                  have hpX : (Value.slice pa pn pc).ownBlock ≠ some wr.heap.size := fun e => by have := own_ge (unhide HP5) _ e; omega
                  go_wp2_with fail
                  refine (level_zero _ _ _ L P.2 ((unhide H5).setNew (unhide HVr) hR2 (p := ⟨wr.heap.size, 3, none⟩) (Nat.le_refl _) _) hD).mono ?_
                  rintro e w7 ⟨q7, rfl, hq7, h7, hk7⟩
                  have hx5l := lt_of_block (unhide HX5)
                  have hx7 := (hk7.block wr.heap.size (by simpa using lt_of_block (unhide HX5)) (by omega)).trans (set6d (unhide HX5) (.slice pa pn pc))
                  clear d0 d1 d2 d3 d4 d5 e0 e1 e2 e3 e4 e5
                  obtain ⟨d0, d1, d2, d3, d4, d5, e0, e1, e2, e3, e4, e5⟩ := row6 hx7
                  have HX7 := hide hx7
                  have HK7 := hide (((unhide HK5).setNew (p := ⟨wr.heap.size, 3, none⟩) (Nat.le_refl _) (.slice pa pn pc)).trans hk7)
                  have HP7 := hide (owns_kept' (ownsRow_setCell_other (unhide HP5) (a := ⟨wr.heap.size, 3, none⟩) hpX (.slice pa pn pc)) hk7 (by omega))
                  have HG7 := hide (hq7.mono (lo' := wr.heap.size + 1) (by simp; omega))
                  have H7 := hide h7
                  obtain ⟨q7, rfl⟩ := hq7.ptr
                  clear hq7 h7 hk7 hx7 HX5 HK5 HP5 H5
                  generalize hG : rX (fuelX L) 0 .nil L P.2 = G at H7 HG7
                  have E3 := hide (show neverG L s2 = G from by unfold neverG; rw [unhide E2]; exact hG)
                  clear hG
                  go_wp2_with fail
                  refine (must_lit [59] _ _ _ L G.2 ((unhide H7).setNew (unhide HVr) hR2 (p := ⟨wr.heap.size, 4, none⟩) (Nat.le_refl _) _)).mono ?_
                  rintro e w9 ⟨rfl, h9, hk9⟩
                  have hx9 := (hk9.block wr.heap.size (by simpa using lt_of_block (unhide HX7)) (by omega)).trans (set6e (unhide HX7) (.pointer q7))
                  have hK9 := ((unhide HK7).setNew (p := ⟨wr.heap.size, 4, none⟩) (Nat.le_refl _) (.pointer q7)).trans hk9
                  have hP9 := owns_kept' (ownsRow_setCell_other (unhide HP7) (a := ⟨wr.heap.size, 4, none⟩) hpX (.pointer q7)) hk9 (by omega)
                  have hG9 := ((unhide HG7).stay (set_stay (o := 4) (u := .pointer q7))).kept hk9 (by omega)
                  have E4 := hide (show rNever1 L s2 = (⟨k.1, P.1, G.1, .nil⟩, rMust L [59] G.2) from by unfold rNever1; rw [unhide E1, unhide E2, unhide E3])
                  clear d0 d1 d2 d3 d4 d5 e0 e1 e2 e3 e4 e5
                  obtain ⟨d0, d1, d2, d3, d4, d5, e0, e1, e2, e3, e4, e5⟩ := row6 hx9
                  have hT9 := (hK9.block (w.heap.size + 1) hT2 (by omega)).trans (unhide HT)
                  obtain ⟨q0, q1, q2, q3, q4, r0, r1, r2, r3, r4⟩ := row5 hT9
                  have hT9l := lt_of_block hT9
                  have hx9l := lt_of_block hx9
                  have hz9 := hK9.size
                  have HK9 := hide hK9
                  have HT9 := hide hT9
                  have H9 := hide h9
                  have HP9 := hide hP9
                  have HG9 := hide hG9
                  have HO9 := hide (owns_kept' (unhide HO).1 hK9 (by omega))
                  have HRI9 := hide ((unhide HO).2.kept hK9 (by omega))
                  have HH9 := hide ((unhide HH).stay (fun k h1 h2 => hK9.block k h2 (by omega)))
                  have hxT : x.ownBlock ≠ some (w.heap.size + 1) := fun e => by have := own_ge (unhide HO9) _ e; omega
                  have hxX : x.ownBlock ≠ some wr.heap.size := fun e => by have := own_lt (unhide HO).1 _ e; omega
                  rw [unhide E4] at HT1 hvp
                  simp only at HT1 hvp
                  clear h9 hk9 hx9 hK9 hP9 hG9 hT9 HX7 HK7 HP7 HG7 H7 HO HH HT
                  go_wp2_with fail
                  go_region_law ((refine step_append_lies _ (by rfl) _ _ _ (by rfl) (w.heap.size + 1 + 1) 61 i1 _ 6 96 Tryz.underlying52 hj hy0 hy1 hy2 rfl (by omega) x l.length ys (by rfl) (((unhide HO9).alloc _).drew) ⟨w9.heap.size, 0, none⟩ 1 1 (tokCells k.1 ++ [Value.slice pa pn pc, Value.pointer q7, Value.slice none 0 0]) (by rfl) (by rfl) (World.news_of_block (cs := (tokCells k.1 ++ [Value.slice pa pn pc, Value.pointer q7, Value.slice none 0 0]).toArray) (t := 61) (fr := (0, 0)) (heap_alloc_new w9 _)) (ruleCells_one _ _ _ _ _ _ _ _) (by omega) (by unfold maxLen; omega) (by omega) (by simp; omega) (w9.heap.size + 1) (by simp) ?_; intro gg cap w10 hown10 hgrow hat hlt10; have hf10 : w10.frozen? ⟨w.heap.size + 1, 4, none⟩ = false := (hgrow.frozen_far _ (by simp; omega) (Ne.symm hxT)).trans (frozen_later (below_alloc_drew _ _) hT9l r4); have hc10 : w10.cell? ⟨w.heap.size + 1, 4, none⟩ = some x := (hgrow.cell_far _ (by simp; omega) (Ne.symm hxT)).trans (cell_later (below_alloc_drew _ _) q4)))
                  all_goals
                    have hge := own_ge (unhide HO9)
                    have hrow := ((unhide HO9).alloc (.cells (tokCells k.1 ++ [Value.slice pa pn pc, Value.pointer q7, Value.slice none 0 0]).toArray 61)).drew
                    have h10 := ((unhide H9).below (below_alloc_drew _ _)).grown hgrow hge (fun g hg => by have := unhide HV g hg; omega) (by omega)
                    have h11 := h10.setNew (B := w.heap.size + 1) (fun g hg => by have := unhide HV g hg; omega) (by omega) (p := ⟨w.heap.size + 1, 4, none⟩) (Nat.le_refl _) (.slice (some ⟨gg, 0, none⟩) (l.length + 1) cap)
                    have hT10 := (hgrow.block (w.heap.size + 1) (by simp; omega) (Ne.symm hxT)).trans ((Below.heap_alloc w9 _ _ hT9l).trans (unhide HT9))
                    have hT11 := heap_setCell_same w10 (w.heap.size + 1) 4 _ _ (.slice (some ⟨gg, 0, none⟩) (l.length + 1) cap) hT10
                    have hO11 := ownsRow_setCell_below hown10 (a := ⟨w.heap.size + 1, 4, none⟩) (by simp) (.slice (some ⟨gg, 0, none⟩) (l.length + 1) cap)
                    have hx3l := own_lt (unhide HH9).2.1
                    have hne11 : x3.ownBlock = none ∨ x3.ownBlock ≠ (Value.slice (some ⟨gg, 0, none⟩) (l.length + 1) cap).ownBlock := by
                      cases hx3 : x3.ownBlock with
                      | none => exact Or.inl rfl
                      | some j =>
                        refine Or.inr fun he => ?_
                        simp [Value.ownBlock] at he
                        subst he
                        have := hx3l _ hx3
                        rcases hat with e | e
                        · rcases unhide HNE with e' | e'
                          · rw [hx3] at e'; cases e'
                          · rw [hx3] at e'; exact e' e.symm
                        · omega
                    have hH11 := (((unhide HH9).stay (w' := (w9.alloc (.cells (tokCells k.1 ++ [Value.slice pa pn pc, Value.pointer q7, Value.slice none 0 0]).toArray 61)).drew) (fun j _ hj => Below.heap_alloc w9 _ j hj)).far hrow (unhide HNE) hgrow).stay (w' := w10.setCell ⟨w.heap.size + 1, 4, none⟩ (.slice (some ⟨gg, 0, none⟩) (l.length + 1) cap)) (fun j hj _ => Below.heap_setCell _ _ _ _ (by simp only; omega))
                    have hzz := (unhide HK9).size
                    have hRI := (unhide HRI9).snoc (r := ⟨k.1, P.1, G.1, .nil⟩) (ps := []) (owns_mono (by omega) (unhide HP9)) ((unhide HG9).mono (by omega)) (World.ownsRow_nil _ _ _ _) rfl
                    have hRI11 := ((hRI.stay (w' := (w9.alloc (.cells (tokCells k.1 ++ [Value.slice pa pn pc, Value.pointer q7, Value.slice none 0 0]).toArray 61)).drew) (fun j _ hj => Below.heap_alloc w9 _ j hj)).far hrow (by decide) (by decide) (by decide) (by decide) hgrow).stay (w' := w10.setCell ⟨w.heap.size + 1, 4, none⟩ (.slice (some ⟨gg, 0, none⟩) (l.length + 1) cap)) (fun j hj _ => Below.heap_setCell _ _ _ _ (by simp only; omega))
                    have hB11 : Below w.heap.size w (w10.setCell ⟨w.heap.size + 1, 4, none⟩ (.slice (some ⟨gg, 0, none⟩) (l.length + 1) cap)) :=
                      (((((unhide HB).trans ((unhide HK9).toBelow (Nat.le_refl _) (by omega))).alloc (by omega) _).drew).grown hgrow (by simp; omega) (fun k hk => by have := hge k hk; omega)).setCell (by simp only; omega) _
                    have H11 := hide h11
                    have HT11 := hide hT11
                    have HO11 := hide hO11
                    have HH11 := hide hH11
                    have HRI11 := hide hRI11
                    have HB11 := hide hB11
                    have HNE11 := hide hne11
                    clear h10 h11 hT10 hT11 hO11 hH11 hRI hRI11 hB11 hge hrow hown10 hgrow hat hx3l hne11
                    go_wp2_with fail
                    refine (next_lit [110, 101, 118, 101, 114] _ _ _ L _ (unhide H11)).mono ?_
                    rintro e w12 ⟨rfl, h12, hk12⟩
                    have HR12 := hide (show NevRel w.heap.size w.heap.size (w.heap.size + 1) w (.slice va vl vc) L (rHeads L startR).1 (rHeads L startR).2.1 (treeV L).1 (treeR L).1 (treeN L) (.bool (rNext L [110, 101, 118, 101, 114] (rMust L [59] G.2))) w12 from
                      ⟨l ++ [⟨k.1, P.1, G.1, .nil⟩], rMust L [59] G.2, g, x0, x1, x2, x3, _, y1, y3, _, rfl, (hk12.block (w.heap.size + 1) (by simpa using lt_of_block (unhide HT11)) (by omega)).trans (unhide HT11), (unhide HH11).stay (fun k h1 h2 => hk12.block k h2 (by omega)), ⟨by rw [List.length_append]; exact owns_kept' (unhide HO11) hk12 (by omega), (unhide HRI11).kept hk12 (by omega)⟩, unhide HNE11, h12, (unhide HB11).trans (hk12.toBelow (Nat.le_refl _) (by have := (unhide HB11).size; omega)), unhide HT1, by omega, by rw [List.length_append]; simp; omega⟩)
                    have HM := hide (show L.length - atOf w12 w.heap.size < L.length - atOf wr w.heap.size by rw [h12.atOf, (unhide H2).atOf]; have := h12.lt; omega)
                    clear h12 hk12
                    go_wp2
                    go_roundw
                    case rel => exact unhide HR12
                    case measure => exact unhide HM

end Go.Proofs.YtpmcnonmkghokaaGreat

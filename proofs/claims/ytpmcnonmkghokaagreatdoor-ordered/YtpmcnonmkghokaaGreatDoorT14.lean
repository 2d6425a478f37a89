/-
  The program's run at work: placeValue, value, isTrue.
  The program's run at work: isTrue; what stays where a run and its state are written into.
  The program's run at work: assign.
  The program's run at work: choose, do.
  The program's run at work: do, for every block.
  The program's instances: IsBroken; slices.Clone of a state.
-/
import Derived.Test.YtpmcnonmkghokaaGreatDoorT13
import Derived.Lib.SliceRun
set_option linter.unusedVariables false
set_option linter.unusedSimpArgs false
namespace Go.Proofs.YtpmcnonmkghokaaGreatDoor
open Go.RowKit
attribute [local go_sem ↓] Go.wp_at_zero Go.wp_at_succ
/-- What stands at a place, and whether it went wrong. -/
def plvO (vars : List MVar) (tab : MTab) (l : List PP) (ms st : List Int) (n i : Tok) : Option (Int × Bool) :=
  if i.kind.toList == [] then (sngO vars tab l ms st n.text.toList).map fun x => (x, false)
  else (vars[(lookM tab n.text.toList).num]?).bind fun v => (atO vars tab l ms st v i).bind fun p => if p.1 < 0 then none else (st[p.1.toNat]?).bind fun x => (small x).map fun y => (y, p.2)
def valO (vars : List MVar) (tab : MTab) (l : List PP) (ms st : List Int) : PX → Option (Int × Bool)
  | .nil => none
  | .node _ _ x a c =>
    if opN x.op.toList == 0 then some (1, false) else if (opN x.op.toList == 1 || opN x.op.toList == 2) then some (0, false) else if opN x.op.toList == 3 then some (x.n, false)
    else if opN x.op.toList == 4 then plvO vars tab l ms st x.name x.index
    else if opN x.op.toList == 5 then (valO vars tab l ms st a).bind fun p => (small p.1).map fun _ => (1 - p.1, p.2)
    else (valO vars tab l ms st a).bind fun p => (valO vars tab l ms st c).bind fun q => (small p.1).bind fun _ => (small q.1).map fun _ => (joinI (opN x.op.toList) p.1 q.1, p.2 || q.2)

def PlvSaid : Prop := ∀ (w : World) (lo R M nb : Nat) (vars : List MVar) (tab : MTab) (l : List PP) (ms st : List Int) (sv : Value) (b : Bool) (n i : Tok), Rn lo w R M nb vars tab l ms st sv b → vars.length ≤ 1000 → l.length ≤ 1000 → (∀ y ∈ ownPl n i, y.text.size ≤ 1000) →
    ∀ r : Int × Bool, plvO vars tab l ms st n i = some r →
    Calls Tryz.prog 231 #[.pointer (some ⟨R, 0, none⟩), pl5 n i] w fun e w' => e = .returned (.int .i64 r.1) ∧ Rn lo w' R M nb vars tab l ms st sv (b || r.2) ∧ Kept R w w'
def ValSaid (x : PX) : Prop := ∀ (w : World) (lo xo R M nb : Nat) (vars : List MVar) (tab : MTab) (l : List PP) (ms st : List Int) (sv : Value) (b : Bool) (v : Value), Rn lo w R M nb vars tab l ms st sv b → vars.length ≤ 1000 → l.length ≤ 1000 → XIs xo w x v → (∀ y ∈ namesP x, y.text.size ≤ 1000) →
    ∀ r : Int × Bool, valO vars tab l ms st x = some r →
    Calls Tryz.prog 190 #[.pointer (some ⟨R, 0, none⟩), v] w fun e w' => e = .returned (.int .i64 r.1) ∧ Rn lo w' R M nb vars tab l ms st sv (b || r.2) ∧ Kept R w w'
theorem Rn.blk {lo : Nat} {w : World} {R M nb : Nat} {vars : List MVar} {tab : MTab} {l : List PP} {ms st : List Int} {sv : Value} {b : Bool} (h : Rn lo w R M nb vars tab l ms st sv b) : ∃ cs fr, w.heap[R]? = some (.cells cs 269 fr) := by
  obtain ⟨⟨tx, pa, pn, pc, ma, mn, mc, hR, _⟩, _⟩ := h
  exact ⟨_, _, hR⟩
theorem Rn.drew {lo : Nat} {w : World} {R M nb : Nat} {vars : List MVar} {tab : MTab} {l : List PP} {ms st : List Int} {sv : Value} {b : Bool} (h : Rn lo w R M nb vars tab l ms st sv b) : Rn lo w.drew R M nb vars tab l ms st sv b := h.below (Below.refl _ _).drew
theorem Rn.or2 {lo : Nat} {w : World} {R M nb : Nat} {vars : List MVar} {tab : MTab} {l : List PP} {ms st : List Int} {sv : Value} {b c d : Bool} (h : Rn lo w R M nb vars tab l ms st sv (b || c || d)) : Rn lo w R M nb vars tab l ms st sv (b || (c || d)) := by rw [← Bool.or_assoc]; exact h

theorem Rn.sblk {lo : Nat} {w : World} {R M nb : Nat} {vars : List MVar} {tab : MTab} {l : List PP} {ms st : List Int} {sv : Value} {b : Bool} (h : Rn lo w R M nb vars tab l ms st sv b) : ∃ sa sc, sv = .slice sa st.length sc ∧ ∀ i (hi : i < st.length), ∃ g, sa = some ⟨g, 0, none⟩ ∧ g < w.heap.size ∧ w.cell? ⟨g, i, none⟩ = some (.int .u8 st[i]) ∧ w.frozen? ⟨g, i, none⟩ = false := by
  rcases h.st.2 with ⟨h1, h2⟩ | ⟨g, cap, cur, h1, _, h3, _, _, _, h7⟩
  · exact ⟨none, 0, by rw [h1, h2], fun i hi => by omega⟩
  · refine ⟨_, cap, h1, fun i hi => ⟨g, rfl, lt_of_block h3, ?_, frozen_of_row w g i _ _ h3⟩⟩
    rw [cell_of_row w g i _ _ _ h3]
    have : (cur.toList.take (st.length * 1))[i]? = some (.int .u8 st[i]) := by rw [h7, List.getElem?_map, List.getElem?_eq_getElem hi]; rfl
    rw [List.getElem?_take_of_lt (by omega)] at this
    simpa using this
theorem Rn.sat {lo : Nat} {w : World} {R M nb g n sc k : Nat} {vars : List MVar} {tab : MTab} {l : List PP} {ms st : List Int} {b : Bool} (h : Rn lo w R M nb vars tab l ms st (.slice (some ⟨g, 0, none⟩) n sc) b) (hk : k < st.length) : w.cell? ⟨g, k, none⟩ = some (.int .u8 st[k]) := by
  obtain ⟨sa, sc', e, hs⟩ := h.sblk
  injection e with e1 e2 e3
  subst e1
  obtain ⟨g', e4, _, h5, _⟩ := hs k hk
  injection e4 with e4
  injection e4 with e4
  subst e4
  exact h5
theorem Kept.undrew {R : Nat} {w w' : World} (h : Kept R w.drew w') : Kept R w w' := ⟨h.os, h.tape, h.output, h.size, h.block⟩

set_option maxRecDepth 100000 in
set_option maxHeartbeats 4000000 in
theorem mplace_any : PlvSaid := by
  intro w lo R M nb vars tab l ms st sv b n i h hv hpl hs2 r hr
  have hn1 : n.text.size ≤ 1000 := hs2 n (by unfold ownPl; split <;> simp)
  have hi1 : (i.kind.toList == []) = false → i.text.size ≤ 1000 := fun e => hs2 i (by unfold ownPl; rw [e]; simp)
  unfold plvO at hr
  unfold pl5
  have hRl := h.lt
  cases hk : (i.kind.toList == [])
  · rw [hk, if_neg (by simp)] at hr
    obtain ⟨v, hvv, hr⟩ := Option.bind_eq_some_iff.mp hr
    obtain ⟨⟨p1, pw⟩, hp, hr⟩ := Option.bind_eq_some_iff.mp hr
    by_cases hp0 : p1 < 0
    · rw [if_pos hp0] at hr; cases hr
    rw [if_neg hp0] at hr
    obtain ⟨k, rfl⟩ := Int.eq_ofNat_of_zero_le (show 0 ≤ p1 by omega)
    obtain ⟨x, hx, hr⟩ := Option.bind_eq_some_iff.mp hr
    obtain ⟨y, hy, hrr⟩ := Option.map_eq_some_iff.mp hr
    obtain ⟨hyx, hy1, hy2⟩ := small_of hy
    rw [hyx] at hrr
    subst hrr
    replace hx : st[k]? = some x := hx
    obtain ⟨hkl, hke⟩ := List.getElem?_eq_some_iff.mp hx
    obtain ⟨sa, sc, rfl, hsb⟩ := h.sblk
    obtain ⟨g, rfl, hgl, hgc, _⟩ := hsb k hkl
    obtain ⟨W, hW⟩ : ∃ W, W = w.alloc (.cells #[.string n.text, .int .i64 n.at_, .bool true, .string i.text, .int .i64 i.at_] 332) := ⟨_, rfl⟩
    have hbW : Below w.heap.size w W := by rw [hW]; exact below_alloc1 w _
    have hsW : w.heap.size < W.heap.size := by rw [hW]; simp
    have hP : W.heap[w.heap.size]? = some (.cells #[.string n.text, .int .i64 n.at_, .bool true, .string i.text, .int .i64 i.at_] 332 (0, 0)) := by rw [hW]; exact alloc_new _ _
    have hRW := h.below hbW
    obtain ⟨_, r4, _, _⟩ := hRW.cells
    obtain ⟨q0, q1, q2, q3, q4, _⟩ := row5' hP
    have s0 : W.cell? ⟨g, k, none⟩ = some (.int .u8 x) := by rw [← hke]; exact (hbW.cell (p := ⟨g, k, none⟩) hgl).trans hgc
    have HVA := hide (mvariable_any W.drew lo R M nb vars tab l ms st _ b n hRW.drew hn1 v hvv hv)
    have HAT := hide (fun (w1 : World) (h1 : Rn lo w1 R M nb vars tab l ms st (.slice (some ⟨g, 0, none⟩) st.length sc) b) (va : Option Addr) (vc : Nat) => mat_any w1 lo R M nb vars tab l ms st _ b v va vc n i h1 hv hpl hi1 _ hp)
    have HRN := hide hRW.drew
    have HP := hide hP
    have HBW := hide hbW
    have HWE := hide hW.symm
    unfold pl5 at HAT
    rw [hk] at HAT
    clear hp hvv hy hyx hr hgc hsb hRW hP hbW hW hs2 hi1 h
    go_enter Tryz.func231, Tryz.ntmps231
    go_upto_region 2 with fail
    rw [unhide HWE]
    go_region_held3 (fun w' => w'.cell? ⟨R, 4, none⟩ = some (.slice (some ⟨g, 0, none⟩) st.length sc) ∧ w'.cell? ⟨w.heap.size, 0, none⟩ = some (.string n.text) ∧ w'.cell? ⟨w.heap.size, 1, none⟩ = some (.int .i64 n.at_) ∧ w'.cell? ⟨w.heap.size, 2, none⟩ = some (.bool true) ∧ w'.cell? ⟨w.heap.size, 3, none⟩ = some (.string i.text) ∧ w'.cell? ⟨w.heap.size, 4, none⟩ = some (.int .i64 i.at_) ∧ w'.cell? ⟨g, k, none⟩ = some (.int .u8 x))
      (first | exact ⟨r4, q0, q1, q2, q3, q4, s0⟩ | exact ⟨a4, b0, b1, b2, b3, b4, t0⟩ | exact ⟨c4, d0, d1, d2, d3, d4, u0⟩)
      (first
      | (go_at_call 233; refine (unhide HVA).mono ?_; rintro e w1 ⟨va, vc, rfl, _, hb1⟩; have h1 := (unhide HRN).below hb1; have hP1 := (hb1.block w.heap.size (by simpa using hsW)).trans (unhide HP); obtain ⟨_, a4, _, _⟩ := h1.cells; obtain ⟨b0, b1, b2, b3, b4, _⟩ := row5' hP1; have t0 := (hb1.cell (p := ⟨g, k, none⟩) (by show g < W.heap.size; omega)).trans s0; have HAT1 := hide ((unhide HAT) w1 h1 va vc); have HP1 := hide hP1; have HK1 := hide (((unhide HBW).drew).trans (hb1.mono (by show w.heap.size ≤ W.heap.size; omega))); clear h1 hP1 hb1 HVA HAT)
      | (go_at_call 234; refine (unhide HAT1).mono ?_; rintro e w2 ⟨rfl, h2, hk2⟩; have hP2 := hk2.row (b := w.heap.size) (by omega) (unhide HP1); obtain ⟨_, c4, _, _⟩ := h2.cells; obtain ⟨d0, d1, d2, d3, d4, _⟩ := row5' hP2; have u0 : w2.cell? ⟨g, k, none⟩ = some (.int .u8 x) := (by rw [← hke]; exact h2.sat hkl); have H2 := hide h2; have HK2 := hide ((Kept.of_below (unhide HK1)).trans hk2); clear h2 hP2 hk2; dsimp only))
    all_goals
      go_wp2
      go_ret
      exact ⟨ret_int (by rw [IntKind.wrap_i64]; omega), unhide H2, unhide HK2⟩
  · rw [hk, if_pos rfl] at hr
    obtain ⟨x, hx, hr⟩ := Option.map_eq_some_iff.mp hr
    subst hr
    have hbW := below_alloc1 w (.cells #[.string n.text, .int .i64 n.at_, .bool false, .string i.text, .int .i64 i.at_] 332)
    have HSG := hide (msingle_any _ lo R M nb vars tab l ms st sv b n (h.below hbW) hv hpl hn1 x hx)
    have HRN := hide (h.below hbW)
    have HBW := hide hbW
    unfold ptV at HSG
    clear hbW hx hs2 hi1 h
    go_enter Tryz.func231, Tryz.ntmps231
    go_wp2_with fail
    refine (unhide HSG).mono ?_
    rintro e w1 ⟨rfl, hb1⟩
    have H1 := hide ((unhide HRN).below hb1)
    have HB1 := hide ((unhide HBW).trans (hb1.mono (by simp)))
    clear hb1
    go_wp2
    go_ret
    exact ⟨rfl, (unhide H1).orF, Kept.of_below (unhide HB1)⟩

set_option maxRecDepth 100000 in
set_option maxHeartbeats 4000000 in
theorem mvalue_node (PLV : PlvSaid) (i j : Nat) (x : ELab) (a c : PX) (iha : ValSaid a) (ihc : ValSaid c) : ValSaid (.node i j x a c) := by
  intro w lo xo R M nb vars tab l ms st sv b v h hv hpl hX hs r hr
  obtain ⟨k, va, vb, rfl, hk, hh, ha, hb⟩ := hX
  obtain ⟨p1, rfl⟩ := ha.ptr
  obtain ⟨p2, rfl⟩ := hb.ptr
  obtain ⟨rcs, rfr, hRb⟩ := h.blk
  have hkR : k ≠ R := ne_type hh hRb (by decide)
  have hsa : ∀ y ∈ namesP a, y.text.size ≤ 1000 := fun y hy => hs y (by rw [namesP]; simp [hy])
  have hsc : ∀ y ∈ namesP c, y.text.size ≤ 1000 := fun y hy => hs y (by rw [namesP]; simp [hy])
  have hsp : ∀ y ∈ ownP x, y.text.size ≤ 1000 := fun y hy => hs y (by rw [namesP]; simp [hy])
  have hop := opN_place x.op.toList
  have hh' := hh
  unfold xCells at hh
  obtain ⟨⟨q0, q1, q2, q3, q4, q5, q6, q7, q8⟩, _⟩ := row9 hh
  have E : (if opN x.op.toList == 0 then some (1, false) else if (opN x.op.toList == 1 || opN x.op.toList == 2) then some (0, false) else if opN x.op.toList == 3 then some (x.n, false)
    else if opN x.op.toList == 4 then plvO vars tab l ms st x.name x.index
    else if opN x.op.toList == 5 then (valO vars tab l ms st a).bind fun p => (small p.1).map fun _ => (1 - p.1, p.2)
    else (valO vars tab l ms st a).bind fun p => (valO vars tab l ms st c).bind fun q => (small p.1).bind fun _ => (small q.1).map fun _ => (joinI (opN x.op.toList) p.1 q.1, p.2 || q.2)) = some r := hr
  have HPL := hide (fun (e : ownP x = ownPl x.name x.index) (he : plvO vars tab l ms st x.name x.index = some r) => PLV w lo R M nb vars tab l ms st sv b x.name x.index h hv hpl (by rw [← e]; exact hsp) r he)
  have HA := hide (fun p e => iha w lo xo R M nb vars tab l ms st sv b _ h hv hpl ha hsa p e)
  have HAd := hide (fun p e => iha w.drew lo xo R M nb vars tab l ms st sv b _ h.drew hv hpl (ha.below (Below.refl _ _).drew) hsa p e)
  have HC := hide (fun (w1 : World) (b1 : Bool) (h1 : Rn lo w1 R M nb vars tab l ms st sv b1) (hk1 : Kept R w.drew w1) q e => ihc w1 lo xo R M nb vars tab l ms st sv b1 _ h1 hv hpl ((hb.below (Below.refl _ _).drew).nm (w := w.drew) hRb (by decide) hk1) hsc q e)
  have HX := hide hh
  have HRN := hide h
  unfold pl5 at HPL
  have hdX : w.drew.heap[k]? = w.heap[k]? := rfl
  generalize (!(x.index.kind.toList == [])) = d at *
  clear hr h ha hb hh hh' hs hsa hsc hsp hRb hk
  go_enter Tryz.func190, Tryz.ntmps190
  generalize opN x.op.toList = o at *
  cases h0 : (o == 0)
  case true =>
    rw [h0, if_pos rfl] at E
    injection E with E
    subst E
    go_wp2
    go_ret
    exact ⟨rfl, unhide HRN, Kept.refl _ _⟩
  case false =>
  rw [h0, if_neg (by simp)] at E
  cases h1 : (o == 1)
  case true =>
    rw [h1, Bool.true_or, if_pos rfl] at E
    injection E with E
    subst E
    go_wp2
    go_ret
    exact ⟨rfl, unhide HRN, Kept.refl _ _⟩
  case false =>
  cases h2 : (o == 2)
  case true =>
    rw [h1, h2, Bool.or_true, if_pos rfl] at E
    injection E with E
    subst E
    go_wp2
    go_ret
    exact ⟨rfl, unhide HRN, Kept.refl _ _⟩
  case false =>
  rw [h1, h2, Bool.or_false, if_neg (by simp)] at E
  cases h3 : (o == 3)
  case true =>
    rw [h3, if_pos rfl] at E
    injection E with E
    subst E
    go_wp2
    go_ret
    exact ⟨rfl, unhide HRN, Kept.refl _ _⟩
  case false =>
  rw [h3, if_neg (by simp)] at E
  cases h4 : (o == 4)
  case true =>
    rw [h4, if_pos rfl] at E
    rw [h4] at hop
    have HPL' := hide ((unhide HPL) (by unfold ownP; rw [← hop]; rfl) E)
    clear HPL E hop HA HAd HC
    go_wp2_with fail
    refine (unhide HPL').mono ?_
    rintro e w1 ⟨rfl, h1, hk1⟩
    have H1 := hide h1
    have HK1 := hide hk1
    clear h1 hk1
    go_wp2
    go_ret
    exact ⟨rfl, unhide H1, unhide HK1⟩
  case false =>
  rw [h4, if_neg (by simp)] at E
  cases h5 : (o == 5)
  case true =>
    rw [h5, if_pos rfl] at E
    obtain ⟨p, hp, E⟩ := Option.bind_eq_some_iff.mp E
    obtain ⟨y, hy, E⟩ := Option.map_eq_some_iff.mp E
    obtain ⟨_, hy1, hy2⟩ := small_of hy
    subst E
    have HA' := hide ((unhide HA) p hp)
    clear HPL hop HA HAd HC hp hy
    go_wp2_with fail
    refine (unhide HA').mono ?_
    rintro e w1 ⟨rfl, h1, hk1⟩
    have H1 := hide h1
    have HK1 := hide hk1
    clear h1 hk1
    go_wp2
    go_ret
    exact ⟨rfl, unhide H1, unhide HK1⟩
  case false =>
  rw [h5, if_neg (by simp)] at E
  obtain ⟨p, hp, E⟩ := Option.bind_eq_some_iff.mp E
  obtain ⟨q, hq, E⟩ := Option.bind_eq_some_iff.mp E
  obtain ⟨y, hy, E⟩ := Option.bind_eq_some_iff.mp E
  obtain ⟨z, hz, E⟩ := Option.map_eq_some_iff.mp E
  obtain ⟨_, hy1, hy2⟩ := small_of hy
  obtain ⟨_, hz1, hz2⟩ := small_of hz
  subst E
  have HA' := hide ((unhide HAd) p hp)
  have HC' := hide (fun w1 b1 h1 hk1 => (unhide HC) w1 b1 h1 hk1 q hq)
  clear HPL hop HA HAd HC hp hy hz hq
  go_upto_region 13 with fail
  go_region_held3 (fun w' => w'.cell? ⟨k, 0, none⟩ = some (.int .i64 o) ∧ w'.cell? ⟨k, 7, none⟩ = some (.pointer p1) ∧ w'.cell? ⟨k, 8, none⟩ = some (.pointer p2))
    (first | exact ⟨q0, q7, q8⟩ | exact ⟨a0, a7, a8⟩ | exact ⟨c0, c7, c8⟩)
    (first
    | (go_at_call 190; refine (unhide HA').mono ?_; rintro e w1 ⟨rfl, h1, hk1⟩; have hX1 := hk1.row hkR (unhide HX); obtain ⟨⟨a0, _, _, _, _, _, _, a7, a8⟩, _⟩ := row9 hX1; have HC1 := hide ((unhide HC') w1 _ h1 hk1); have HX1 := hide hX1; have HK1 := hide hk1; clear h1 hk1 hX1 HA')
    | (go_at_call 190; refine (unhide HC1).mono ?_; rintro e w2 ⟨rfl, h2, hk2⟩; have hX2 := hk2.row hkR (unhide HX1); obtain ⟨⟨c0, _, _, _, _, _, _, c7, c8⟩, _⟩ := row9 hX2; have H2 := hide h2; have HK2 := hide ((unhide HK1).trans hk2); clear h2 hk2 hX2 HC1)
    | (go_at_call 232; refine (join_any o p.1 q.1 _ hy1 hy2 hz1 hz2).mono ?_; rintro e w3 ⟨rfl, rfl⟩; dsimp only))
  all_goals
    go_wp2
    go_ret
    exact ⟨rfl, (unhide H2).or2, (unhide HK2).undrew⟩

theorem mvalue_all : ∀ x : PX, ValSaid x
  | .nil => fun w lo xo R M nb vars tab l ms st sv b v _ _ _ _ _ r h => by cases h
  | .node i j x a c => mvalue_node mplace_any i j x a c (mvalue_all a) (mvalue_all c)

end Go.Proofs.YtpmcnonmkghokaaGreatDoor
namespace Go.Proofs.YtpmcnonmkghokaaGreatDoor
open Go.RowKit
attribute [local go_sem ↓] Go.wp_at_zero Go.wp_at_succ
/-- All blocks but R and the one that o names stay. -/
structure KeptO (R : Nat) (o : Option Nat) (w w' : World) : Prop where
  os : w'.os = w.os
  tape : w'.tape = w.tape
  output : w'.output = w.output
  size : w.heap.size ≤ w'.heap.size
  block : ∀ k, k < w.heap.size → k ≠ R → o ≠ some k → w'.heap[k]? = w.heap[k]?
theorem KeptO.refl (R : Nat) (o : Option Nat) (w : World) : KeptO R o w w := ⟨rfl, rfl, rfl, Nat.le_refl _, fun _ _ _ _ => rfl⟩
theorem KeptO.trans {R : Nat} {o : Option Nat} {a b c : World} (h : KeptO R o a b) (k : KeptO R o b c) : KeptO R o a c :=
  ⟨k.os.trans h.os, k.tape.trans h.tape, k.output.trans h.output, Nat.le_trans h.size k.size, fun i h1 h2 h3 => (k.block i (Nat.lt_of_lt_of_le h1 h.size) h2 h3).trans (h.block i h1 h2 h3)⟩
theorem Kept.o {R : Nat} {w w' : World} (h : Kept R w w') (o : Option Nat) : KeptO R o w w' := ⟨h.os, h.tape, h.output, h.size, fun k h1 h2 _ => h.block k h1 h2⟩
theorem below_o {w w' : World} (h : Below w.heap.size w w') (R : Nat) (o : Option Nat) : KeptO R o w w' := ⟨h.os, h.tape, h.output, h.size, fun k h1 _ _ => h.block k h1⟩
theorem KeptO.row {R : Nat} {o : Option Nat} {w w' : World} {b : Nat} {x : Obj} (hk : KeptO R o w w') (hb : b ≠ R) (ho : o ≠ some b) (h : w.heap[b]? = some x) : w'.heap[b]? = some x := by
  rw [hk.block b (lt_of_block h) hb ho]; exact h
theorem KeptO.alone {R : Nat} {w w' : World} (h : KeptO R none w w') : Kept R w w' := ⟨h.os, h.tape, h.output, h.size, fun k h1 h2 => h.block k h1 h2 (by simp)⟩
/-- By way of a world in which the one block alone has turned. -/
theorem KeptO.split {R s : Nat} {w w' : World} (h : KeptO R (some s) w w') (hs : s < w.heap.size) : ∃ m, Kept R w m ∧ m.heap[s]? = w.heap[s]? ∧ Kept s m w' := by
  obtain ⟨x, hx⟩ : ∃ x, w.heap[s]? = some x := ⟨_, Array.getElem?_eq_getElem hs⟩
  have hss : s < w'.heap.size := Nat.lt_of_lt_of_le hs h.size
  refine ⟨ChangeMaps.setBlock w' s x, ⟨h.os, h.tape, h.output, by simpa [ChangeMaps.setBlock] using h.size, fun k h1 h2 => ?_⟩, ?_, ⟨rfl, rfl, rfl, by simp [ChangeMaps.setBlock], fun k h1 h2 => ?_⟩⟩
  · by_cases e : k = s
    · subst e
      rw [hx]
      simp [ChangeMaps.setBlock, Array.getElem?_setIfInBounds, hss]
    · rw [← h.block k h1 h2 (by intro e2; injection e2 with e2; exact e e2.symm)]
      simp [ChangeMaps.setBlock, Array.getElem?_setIfInBounds, Ne.symm e]
  · rw [hx]
    simp [ChangeMaps.setBlock, Array.getElem?_setIfInBounds, hss]
  · simp [ChangeMaps.setBlock, Array.getElem?_setIfInBounds, Ne.symm h2]

theorem owns_set1 {w : World} {lo e n g cap : Nat} {xs : List Value} (h : w.ownsRow lo e 1 (.slice (some ⟨g, 0, none⟩) n cap) n xs) (q : Nat) (u : Value) : (w.setCell ⟨g, q, none⟩ u).ownsRow lo e 1 (.slice (some ⟨g, 0, none⟩) n cap) n (xs.set q u) := by
  refine ⟨by rw [List.length_set]; exact h.1, ?_⟩
  rcases h.2 with ⟨h1, _⟩ | ⟨g', cap', cur, e1, e2, e3, e4, e5, e6, e7⟩
  · cases h1
  · injection e1 with e1 _ e1'
    injection e1 with e1
    injection e1 with e1
    subst e1; subst e1'
    exact Or.inr ⟨g, cap, _, rfl, e2, Go.heap_setCell_same _ g q _ _ _ e3, e4, e5, by simpa using e6, by rw [← e7, Array.toList_setIfInBounds, List.take_set]⟩

set_option maxRecDepth 100000 in
set_option maxHeartbeats 4000000 in
theorem misTrue_any (x : PX) (w : World) (lo xo R M nb : Nat) (vars : List MVar) (tab : MTab) (l : List PP) (ms st : List Int) (sv : Value) (b : Bool) (p : Option Addr) (h : Rn lo w R M nb vars tab l ms st sv b) (hv : vars.length ≤ 1000) (hpl : l.length ≤ 1000) (hX : XIs xo w x (.pointer p)) (hs : ∀ y ∈ namesP x, y.text.size ≤ 1000) (r : Int × Bool) (hr : valO vars tab l ms st x = some r) :
    Calls Tryz.prog 132 #[.pointer (some ⟨R, 0, none⟩), .pointer p] w fun e w' => e = .returned (.bool (r.1 == 1)) ∧ Rn lo w' R M nb vars tab l ms st sv (b || r.2) ∧ Kept R w w' := by
  have HV := hide (mvalue_all x w lo xo R M nb vars tab l ms st sv b _ h hv hpl hX hs r hr)
  clear h hX hs hr
  go_enter Tryz.func132, Tryz.ntmps132
  go_wp2_with fail
  refine (unhide HV).mono ?_
  rintro e w1 ⟨rfl, h1, hk1⟩
  have H1 := hide h1
  have HK1 := hide hk1
  clear h1 hk1
  go_wp2
  go_ret
  exact ⟨rfl, unhide H1, unhide HK1⟩

/-- A value put at a place: the state then, and whether it went wrong. -/
def asnO (vars : List MVar) (tab : MTab) (l : List PP) (ms st : List Int) (n i : Tok) (x : PX) : Option (List Int × Bool) :=
  (valO vars tab l ms st x).bind fun p => (vars[(lookM tab n.text.toList).num]?).bind fun v => (atO vars tab l ms st v i).bind fun q =>
    if p.1 < 0 || p.1 ≥ (v.texts.length : Int) then some (st, true) else if p.1 > 255 || q.1 < 0 || q.1 ≥ (st.length : Int) then none else some (st.set q.1.toNat p.1, p.2 || q.2)

end Go.Proofs.YtpmcnonmkghokaaGreatDoor
namespace Go.Proofs.YtpmcnonmkghokaaGreatDoor
open Go.RowKit
attribute [local go_sem ↓] Go.wp_at_zero Go.wp_at_succ
/-- A number of the state, set. -/
theorem Rn.setSt {lo : Nat} {w : World} {R M nb g n cap : Nat} {vars : List MVar} {tab : MTab} {l : List PP} {ms st : List Int} {b : Bool} (h : Rn lo w R M nb vars tab l ms st (.slice (some ⟨g, 0, none⟩) n cap) b) (q : Nat) (y : Int) : Rn lo (w.setCell ⟨g, q, none⟩ (.int .u8 y)) R M nb vars tab l ms (st.set q y) (.slice (some ⟨g, 0, none⟩) n cap) b := by
  obtain ⟨⟨tx, pa, pn, pc, ma, mn, mc, hR, hP, hM⟩, hmc, hst⟩ := h
  obtain ⟨za, zc, e3, _⟩ := own_viewB hst
  injection e3 with e1 e2 e3
  subst e2
  have hg : ∃ cur, w.heap[g]? = some (.cells cur 5 (0, 0)) := by
    rcases hst.2 with ⟨h1, _⟩ | ⟨g', cap', cur, e1, e2, e3, _⟩
    · cases h1
    · injection e1 with e1 _ e1'
      injection e1 with e1
      injection e1 with e1
      subst e1
      exact ⟨cur, e3⟩
  obtain ⟨cur, hg⟩ := hg
  have hk : Kept g w (w.setCell ⟨g, q, none⟩ (.int .u8 y)) := (Kept.refl _ _).setR q _
  refine ⟨⟨tx, pa, pn, pc, ma, mn, mc, hk.row (ne_type hR hg (by decide)) hR, owns_nm hP hg (by decide) hk, owns_nm hM hg (by decide) hk⟩, hmc.nm hg (by decide) (by decide) (by decide) hk, ?_⟩
  have := owns_set1 hst q (.int .u8 y)
  rw [List.length_set, List.map_set]
  exact this
theorem KeptO.setS {R g q : Nat} {n cap : Nat} {a w : World} {u : Value} (h : KeptO R (Value.ownBlock (.slice (some ⟨g, 0, none⟩) n cap)) a w) : KeptO R (Value.ownBlock (.slice (some ⟨g, 0, none⟩) n cap)) a (w.setCell ⟨g, q, none⟩ u) := by
  have hk : Kept g w (w.setCell ⟨g, q, none⟩ u) := (Kept.refl _ _).setR q _
  exact h.trans ⟨hk.os, hk.tape, hk.output, hk.size, fun k h1 _ h3 => hk.block k h1 (fun e => h3 (by rw [e]; rfl))⟩

set_option maxRecDepth 100000 in
set_option maxHeartbeats 4000000 in
theorem massign_any (x : PX) (w : World) (lo xo R M nb : Nat) (vars : List MVar) (tab : MTab) (l : List PP) (ms st : List Int) (sv : Value) (b : Bool) (n i : Tok) (p ta ea : Option Addr) (tn tc en ec : Nat) (c : Bool) (h : Rn lo w R M nb vars tab l ms st sv b) (hv : vars.length ≤ 1000) (hpl : l.length ≤ 1000) (hX : XIs xo w x (.pointer p)) (hs : ∀ y ∈ namesP x, y.text.size ≤ 1000) (hs2 : ∀ y ∈ ownPl n i, y.text.size ≤ 1000) (r : List Int × Bool) (hr : asnO vars tab l ms st n i x = some r) :
    Calls Tryz.prog 192 #[.pointer (some ⟨R, 0, none⟩), .agg #[.bool c, .string n.text, .int .i64 n.at_, .bool (!(i.kind.toList == [])), .string i.text, .int .i64 i.at_, .pointer p, .slice ta tn tc, .slice ea en ec]] w fun e w' => e = .returned (.tuple #[]) ∧ Rn lo w' R M nb vars tab l ms r.1 sv (b || r.2) ∧ KeptO R sv.ownBlock w w' := by
  unfold asnO at hr
  obtain ⟨pv, hp, hr⟩ := Option.bind_eq_some_iff.mp hr
  obtain ⟨v, hvv, hr⟩ := Option.bind_eq_some_iff.mp hr
  obtain ⟨q, hq, hr⟩ := Option.bind_eq_some_iff.mp hr
  have hn1 : n.text.size ≤ 1000 := hs2 n (by unfold ownPl; split <;> simp)
  have hi1 : (i.kind.toList == []) = false → i.text.size ≤ 1000 := fun e => hs2 i (by unfold ownPl; rw [e]; simp)
  obtain ⟨W, hW⟩ : ∃ W, W = w.alloc (.cells #[.bool c, .string n.text, .int .i64 n.at_, .bool (!(i.kind.toList == [])), .string i.text, .int .i64 i.at_, .pointer p, .slice ta tn tc, .slice ea en ec] 334) := ⟨_, rfl⟩
  have hbW : Below w.heap.size w W := by rw [hW]; exact below_alloc1 w _
  have hS : W.heap[w.heap.size]? = some (.cells #[.bool c, .string n.text, .int .i64 n.at_, .bool (!(i.kind.toList == [])), .string i.text, .int .i64 i.at_, .pointer p, .slice ta tn tc, .slice ea en ec] 334 (0, 0)) := by rw [hW]; exact alloc_new _ _
  have hRl := h.lt
  have HV := hide (mvalue_all x W lo xo R M nb vars tab l ms st sv b _ (h.below hbW) hv hpl (hX.below hbW) hs pv hp)
  obtain ⟨⟨q0, q1, q2, q3, q4, q5, q6, q7, q8⟩, _⟩ := row9 hS
  have HS := hide hS
  have HKW := hide (below_o hbW R sv.ownBlock)
  have HWE := hide hW.symm
  have HR := hide hr
  have HVV := hide hvv
  have HAT0 := hide (fun (w3 : World) (b3 : Bool) (h3 : Rn lo w3 R M nb vars tab l ms st sv b3) (va : Option Addr) (vc : Nat) => mat_any w3 lo R M nb vars tab l ms st sv b3 v va vc n i h3 hv hpl hi1 q hq)
  unfold mvCells pl5 at HAT0
  generalize (!(i.kind.toList == [])) = d at *
  clear hr hvv hq hp hs hs2 hi1 hX h hbW hS hW
  go_enter Tryz.func192, Tryz.ntmps192
  go_wp2_with fail
  rw [unhide HWE]
  refine (unhide HV).mono ?_
  rintro e w1 ⟨rfl, h1, hk1⟩
  have hS1 := hk1.row (b := w.heap.size) (by omega) (unhide HS)
  obtain ⟨⟨a0, a1, a2, a3, a4, a5, a6, a7, a8⟩, _⟩ := row9 hS1
  have HVA := hide (mvariable_any w1 lo R M nb vars tab l ms st sv _ n h1 hn1 v (unhide HVV) hv)
  have HS1 := hide hS1
  have H1 := hide h1
  have HK1 := hide ((unhide HKW).trans (hk1.o _))
  clear h1 hk1 hS1 q0 q1 q2 q3 q4 q5 q6 q7 q8 HKW HV
  go_wp2_with fail
  refine (unhide HVA).mono ?_
  rintro e w2 ⟨va, vc, rfl, hT, hb2⟩
  have hs2 := hb2.size
  have hwl : w.heap.size < w1.heap.size := lt_of_block (unhide HS1)
  obtain ⟨⟨b0, b1, b2, b3, b4, b5, b6, b7, b8⟩, _⟩ := row9 ((hb2.block w.heap.size hwl).trans (unhide HS1))
  have h2 := ((unhide H1).below hb2)
  have hR2 := h2.lt
  have HAT := hide ((unhide HAT0) (w2.alloc (.cells (mvCells v va vc) 213)) _ (h2.below (below_alloc1 _ _)) va vc)
  have HK2 := hide ((unhide HK1).trans (below_o hb2 R sv.ownBlock))
  unfold mvCells at *
  have hwl2 : w.heap.size < w2.heap.size := by omega
  clear h2 hb2 hT H1 HS1 HVA a0 a1 a2 a3 a4 a5 a6 a7 a8 HK1
  go_wp2_with fail
  refine (unhide HAT).mono ?_
  rintro e w4 ⟨rfl, h4, hk4⟩
  have hV4 := hk4.row (b := w2.heap.size) (by omega) (alloc_new _ _)
  obtain ⟨v0, v1, v2, v3, v4, _⟩ := row5' hV4
  obtain ⟨r1, r4, r5, rf⟩ := h4.cells
  obtain ⟨sa, sc, hsv, hsb⟩ := h4.sblk
  have H4 := hide h4
  have HK4 := hide ((unhide HK2).trans ((below_o (below_alloc1 _ _) R sv.ownBlock).trans (hk4.o _)))
  have hr := unhide HR
  clear h4 hk4 hV4 HAT HK2 b0 b1 b2 b3 b4 b5 b6 b7 b8
  have HWR := hide (fun (e : r = (st, true)) => (show Rn lo (w4.setCell ⟨R, 5, none⟩ (.bool true)) R M nb vars tab l ms r.1 sv (b || r.2) by rw [e, Bool.or_true]; exact (unhide H4).wrong true))
  have HKW := hide ((unhide HK4).trans (((Kept.refl R w4).setR 5 (.bool true)).o sv.ownBlock))
  by_cases hneg : pv.1 < 0
  · rw [if_pos (by simp [hneg])] at hr
    injection hr with hr
    have HWR' := hide ((unhide HWR) hr.symm)
    generalize pv.1 = y at *
    clear hsb hsv hr HR HWR
    go_wp2
    refine bodyPost_ret (results_none rfl _ _ _) rfl ?_
    exact ⟨rfl, unhide HWR', unhide HKW⟩
  · by_cases hge : (v.texts.length : Int) ≤ pv.1
    · rw [if_pos (by simp [hge])] at hr
      injection hr with hr
      have HWR' := hide ((unhide HWR) hr.symm)
      generalize pv.1 = y at *
      clear hsb hsv hr HR HWR
      go_wp2
      refine bodyPost_ret (results_none rfl _ _ _) rfl ?_
      exact ⟨rfl, unhide HWR', unhide HKW⟩
    · rw [if_neg (by simp; omega)] at hr
      by_cases hbad : (pv.1 > 255 || q.1 < 0 || q.1 ≥ (st.length : Int)) = true
      · rw [if_pos hbad] at hr; cases hr
      · rw [if_neg hbad] at hr
        injection hr with hr
        simp only [Bool.or_eq_true, decide_eq_true_eq, not_or, ge_iff_le, gt_iff_lt] at hbad
        obtain ⟨⟨hb1, hb2⟩, hb3⟩ := hbad
        obtain ⟨p1, pw⟩ := pv
        obtain ⟨q1, qw⟩ := q
        obtain ⟨k, rfl⟩ := Int.eq_ofNat_of_zero_le (show 0 ≤ q1 by simpa using hb2)
        have hkl : k < st.length := by simpa using hb3
        obtain ⟨g, rfl, hgl, hgc, hgf⟩ := hsb k hkl
        subst hsv
        have hc := (unhide H4).setSt k p1
        have HC := hide (show Rn lo (w4.setCell ⟨g, k, none⟩ (.int .u8 p1)) R M nb vars tab l ms r.1 (.slice (some ⟨g, 0, none⟩) st.length sc) (b || r.2) by rw [← hr, ← Bool.or_assoc]; exact hc)
        have HKC := hide ((unhide HK4).setS (q := k) (u := .int .u8 p1))
        dsimp only at *
        have hw8 : IntKind.u8.wrap p1 = p1 := by rw [IntKind.wrap_u8]; omega
        clear hsb hr HR HWR hc HKW H4 HK4
        go_wp2
        go_end0
        exact ⟨rfl, unhide HC, unhide HKC⟩

end Go.Proofs.YtpmcnonmkghokaaGreatDoor
namespace Go.Proofs.YtpmcnonmkghokaaGreatDoor
open Go.RowKit
attribute [local go_sem ↓] Go.wp_at_zero Go.wp_at_succ
theorem Rn.sty {lo : Nat} {w : World} {R M nb : Nat} {vars : List MVar} {tab : MTab} {l : List PP} {ms st : List Int} {sv : Value} {b : Bool} (h : Rn lo w R M nb vars tab l ms st sv b) : ∀ s, sv.ownBlock = some s → ∃ cs fr, w.heap[s]? = some (.cells cs 5 fr) := by
  intro s hs
  rcases h.st.2 with ⟨h1, h2⟩ | ⟨g, cap, cur, h1, _, h3, _⟩
  · rw [h1] at hs; cases hs
  · rw [h1] at hs
    injection hs with hs
    subst hs
    exact ⟨cur, _, h3⟩
theorem KeptO.via {R : Nat} {o : Option Nat} {w w' : World} (h : KeptO R o w w') (hs : ∀ s, o = some s → ∃ cs fr, w.heap[s]? = some (.cells cs 5 fr)) : Kept R w w' ∨ ∃ s m cs fr, Kept R w m ∧ m.heap[s]? = some (.cells cs 5 fr) ∧ Kept s m w' := by
  cases o with
  | none => exact Or.inl h.alone
  | some s =>
    obtain ⟨cs, fr, hb⟩ := hs s rfl
    obtain ⟨m, h1, h2, h3⟩ := h.split (lt_of_block hb)
    exact Or.inr ⟨s, m, cs, fr, h1, h2.trans hb, h3⟩
theorem owns_ko {w w' : World} {R lo e size : Nat} {o : Option Nat} {v : Value} {n : Nat} {xs : List Value} (h : w.ownsRow lo e size v n xs) (hR : ∃ cs fr, w.heap[R]? = some (.cells cs 269 fr)) (hs : ∀ s, o = some s → ∃ cs fr, w.heap[s]? = some (.cells cs 5 fr)) (he : 269 ≠ e) (he2 : 5 ≠ e) (hk : KeptO R o w w') : w'.ownsRow lo e size v n xs := by
  obtain ⟨cs, fr, hR⟩ := hR
  rcases hk.via hs with h1 | ⟨s, m, cs', fr', h1, h2, h3⟩
  · exact owns_nm h hR he h1
  · exact owns_nm (owns_nm h hR he h1) h2 he2 h3
theorem XIs.ko {w w' : World} {R lo : Nat} {o : Option Nat} {v : Value} {x : PX} (h : XIs lo w x v) (hR : ∃ cs fr, w.heap[R]? = some (.cells cs 269 fr)) (hs : ∀ s, o = some s → ∃ cs fr, w.heap[s]? = some (.cells cs 5 fr)) (hk : KeptO R o w w') : XIs lo w' x v := by
  obtain ⟨cs, fr, hR⟩ := hR
  rcases hk.via hs with h1 | ⟨s, m, cs', fr', h1, h2, h3⟩
  · exact h.nm hR (by decide) h1
  · exact (h.nm hR (by decide) h1).nm h2 (by decide) h3
theorem BIs.ko {w w' : World} {R lo : Nat} {o no : Option Nat} {b : PB} {xs : List Value} (h : BIs lo no w b xs) (hR : ∃ cs fr, w.heap[R]? = some (.cells cs 269 fr)) (hs : ∀ s, o = some s → ∃ cs fr, w.heap[s]? = some (.cells cs 5 fr)) (hk : KeptO R o w w') : BIs lo no w' b xs := by
  obtain ⟨cs, fr, hR⟩ := hR
  rcases hk.via hs with h1 | ⟨s, m, cs', fr', h1, h2, h3⟩
  · exact h.nm hR (by decide) (by decide) h1
  · exact (h.nm hR (by decide) (by decide) h1).nm h2 (by decide) (by decide) h3

/-- The two tokens of a place. -/
def plTok : PX → Tok × Tok
  | .nil => (noTok, noTok)
  | .node _ _ x _ _ => (x.name, x.index)
theorem plC_tok : ∀ x : PX, plC x = [.string (plTok x).1.text, .int .i64 (plTok x).1.at_, .bool (!((plTok x).2.kind.toList == [])), .string (plTok x).2.text, .int .i64 (plTok x).2.at_] ∧ plNm x = ownPl (plTok x).1 (plTok x).2
  | .nil => ⟨by rw [show (plTok .nil).2 = noTok from rfl, noTok_kind]; rfl, by rw [show (plTok .nil).2 = noTok from rfl]; unfold ownPl; rw [noTok_kind]; rfl⟩
  | .node _ _ x _ _ => ⟨rfl, rfl⟩
/-- A block done: the state then, and whether it went wrong. -/
def doO (vars : List MVar) (tab : MTab) (l : List PP) (ms : List Int) : PB → List Int → Option (List Int × Bool)
  | .nil, st => some (st, false)
  | .node _ _ a .nil n, st => (asnO vars tab l ms st (plTok a.place).1 (plTok a.place).2 a.value).bind fun p => (doO vars tab l ms n p.1).map fun q => (q.1, p.2 || q.2)
  | .node _ _ a (.node _ _ _ t e) n, st => (valO vars tab l ms st a.cond).bind fun c => (if c.1 == 1 then doO vars tab l ms t st else doO vars tab l ms e st).bind fun p => (doO vars tab l ms n p.1).map fun q => (q.1, c.2 || p.2 || q.2)
def MDoSaid (b : PB) : Prop := ∀ (w : World) (lo so R M nb : Nat) (no : Option Nat) (vars : List MVar) (tab : MTab) (l : List PP) (ms st : List Int) (sv : Value) (bb : Bool) (v : Value) (cs : List Value), Rn lo w R M nb vars tab l ms st sv bb → vars.length ≤ 1000 → l.length ≤ 1000 →
    w.ownsRow so 334 9 v (plen b) cs → BIs so no w b cs → BLen b → plen b ≤ 1000 → (∀ y ∈ namesB b, y.text.size ≤ 1000) → ∀ r, doO vars tab l ms b st = some r →
    Calls Tryz.prog 133 #[.pointer (some ⟨R, 0, none⟩), v] w fun e w' => e = .returned (.tuple #[]) ∧ Rn lo w' R M nb vars tab l ms r.1 sv (bb || r.2) ∧ KeptO R sv.ownBlock w w'

set_option maxRecDepth 100000 in
set_option maxHeartbeats 4000000 in
theorem mchoose_any (t e : PB) (iht : MDoSaid t) (ihe : MDoSaid e) (x : PX) (w : World) (lo so R M nb : Nat) (no : Option Nat) (vars : List MVar) (tab : MTab) (l : List PP) (ms st : List Int) (sv : Value) (b : Bool) (n i : Tok) (d : Bool) (p ta ea : Option Addr) (tn tc en ec : Nat) (ct ce : List Value) (h : Rn lo w R M nb vars tab l ms st sv b) (hv : vars.length ≤ 1000) (hpl : l.length ≤ 1000) (hX : XIs so w x (.pointer p)) (hs : ∀ y ∈ namesP x, y.text.size ≤ 1000)
    (ht : w.ownsRow so 334 9 (.slice ta tn tc) (plen t) ct ∧ BIs so no w t ct ∧ BLen t ∧ plen t ≤ 1000 ∧ (∀ y ∈ namesB t, y.text.size ≤ 1000)) (he : w.ownsRow so 334 9 (.slice ea en ec) (plen e) ce ∧ BIs so no w e ce ∧ BLen e ∧ plen e ≤ 1000 ∧ (∀ y ∈ namesB e, y.text.size ≤ 1000))
    (c : Int × Bool) (hc : valO vars tab l ms st x = some c) (r : List Int × Bool) (hr : (if c.1 == 1 then doO vars tab l ms t st else doO vars tab l ms e st) = some r) :
    Calls Tryz.prog 191 #[.pointer (some ⟨R, 0, none⟩), .agg #[.bool true, .string n.text, .int .i64 n.at_, .bool d, .string i.text, .int .i64 i.at_, .pointer p, .slice ta tn tc, .slice ea en ec]] w fun e w' => e = .returned (.tuple #[]) ∧ Rn lo w' R M nb vars tab l ms r.1 sv (b || c.2 || r.2) ∧ KeptO R sv.ownBlock w w' := by
  obtain ⟨W, hW⟩ : ∃ W, W = w.alloc (.cells #[.bool true, .string n.text, .int .i64 n.at_, .bool d, .string i.text, .int .i64 i.at_, .pointer p, .slice ta tn tc, .slice ea en ec] 334) := ⟨_, rfl⟩
  have hbW : Below w.heap.size w W := by rw [hW]; exact below_alloc1 w _
  have hS : W.heap[w.heap.size]? = some (.cells #[.bool true, .string n.text, .int .i64 n.at_, .bool d, .string i.text, .int .i64 i.at_, .pointer p, .slice ta tn tc, .slice ea en ec] 334 (0, 0)) := by rw [hW]; exact alloc_new _ _
  have hRl := h.lt
  have hRW := h.below hbW
  have HV := hide (misTrue_any x W lo so R M nb vars tab l ms st sv b p hRW hv hpl (hX.below hbW) hs c hc)
  have HT := hide (fun (w1 : World) (b1 : Bool) (h1 : Rn lo w1 R M nb vars tab l ms st sv b1) (hk1 : Kept R W w1) (hd : doO vars tab l ms t st = some r) => iht w1 lo so R M nb no vars tab l ms st sv b1 _ ct h1 hv hpl (owns_ko (owns_below ht.1 hbW) hRW.blk hRW.sty (by decide) (by decide) (hk1.o _)) ((ht.2.1.stay fun k _ hk => hbW.block k hk).ko hRW.blk hRW.sty (hk1.o _)) ht.2.2.1 ht.2.2.2.1 ht.2.2.2.2 r hd)
  have HE := hide (fun (w1 : World) (b1 : Bool) (h1 : Rn lo w1 R M nb vars tab l ms st sv b1) (hk1 : Kept R W w1) (hd : doO vars tab l ms e st = some r) => ihe w1 lo so R M nb no vars tab l ms st sv b1 _ ce h1 hv hpl (owns_ko (owns_below he.1 hbW) hRW.blk hRW.sty (by decide) (by decide) (hk1.o _)) ((he.2.1.stay fun k _ hk => hbW.block k hk).ko hRW.blk hRW.sty (hk1.o _)) he.2.2.1 he.2.2.2.1 he.2.2.2.2 r hd)
  obtain ⟨⟨q0, q1, q2, q3, q4, q5, q6, q7, q8⟩, _⟩ := row9 hS
  have HS := hide hS
  have HKW := hide (below_o hbW R sv.ownBlock)
  have HWE := hide hW.symm
  have HR := hide hr
  clear hr hc hs hX h hbW hS hW ht he hRW
  go_enter Tryz.func191, Tryz.ntmps191
  go_wp2_with fail
  rw [unhide HWE]
  refine (unhide HV).mono ?_
  rintro ex w1 ⟨rfl, h1, hk1⟩
  have hS1 := hk1.row (b := w.heap.size) (by omega) (unhide HS)
  obtain ⟨⟨a0, a1, a2, a3, a4, a5, a6, a7, a8⟩, _⟩ := row9 hS1
  have HT1 := hide ((unhide HT) w1 _ h1 hk1)
  have HE1 := hide ((unhide HE) w1 _ h1 hk1)
  have HK1 := hide ((unhide HKW).trans (hk1.o _))
  have hr := unhide HR
  clear h1 hk1 hS1 q0 q1 q2 q3 q4 q5 q6 q7 q8 HKW HV HT HE HR
  cases hc1 : (c.1 == 1)
  · rw [hc1, if_neg (by simp)] at hr
    have HE2 := hide ((unhide HE1) hr)
    clear hr HE1 HT1
    go_wp2_with fail
    refine (unhide HE2).mono ?_
    rintro ex w2 ⟨rfl, h2, hk2⟩
    have H2 := hide h2
    have HK2 := hide ((unhide HK1).trans hk2)
    clear h2 hk2
    go_wp2
    go_end0
    exact ⟨rfl, unhide H2, unhide HK2⟩
  · rw [hc1, if_pos rfl] at hr
    have HT2 := hide ((unhide HT1) hr)
    clear hr HE1 HT1
    go_wp2_with fail
    refine (unhide HT2).mono ?_
    rintro ex w2 ⟨rfl, h2, hk2⟩
    have H2 := hide h2
    have HK2 := hide ((unhide HK1).trans hk2)
    clear h2 hk2
    go_wp2
    go_end0
    exact ⟨rfl, unhide H2, unhide HK2⟩

end Go.Proofs.YtpmcnonmkghokaaGreatDoor
namespace Go.Proofs.YtpmcnonmkghokaaGreatDoor
open Go.RowKit
attribute [local go_sem ↓] Go.wp_at_zero Go.wp_at_succ
def MInner : PB → Prop
  | .nil => True
  | .node _ _ _ .nil n => MInner n
  | .node _ _ _ (.node _ _ _ t e) n => MDoSaid t ∧ MDoSaid e ∧ MInner n
def DORel (w : World) (lo so R M nb : Nat) (no : Option Nat) (vars : List MVar) (tab : MTab) (l : List PP) (ms : List Int) (sv : Value) (fin : List Int × Bool) (len : Nat) (cs : List Value) (i : Value) (wr : World) : Prop :=
  ∃ (k : Nat) (rest : PB) (st : List Int) (b : Bool), k + plen rest = len ∧ i = .int .i64 k ∧ BIs so no wr rest (cs.drop (k * 9)) ∧ MInner rest ∧ BLen rest ∧ (∀ y ∈ namesB rest, y.text.size ≤ 1000) ∧ (∃ q, doO vars tab l ms rest st = some q ∧ (q.1, b || q.2) = fin) ∧ Rn lo wr R M nb vars tab l ms st sv b ∧ KeptO R sv.ownBlock w wr

set_option maxRecDepth 100000 in
set_option maxHeartbeats 4000000 in
theorem mdo_step (b : PB) (hI : MInner b) : MDoSaid b := by
  intro w lo so R M nb no vars tab l ms st sv bb v cs h hv hpl hown hbi hbl hlen hs r hr
  obtain ⟨xa, cap, rfl, _⟩ := own_viewB hown
  have HR := hide (show DORel w lo so R M nb no vars tab l ms sv (r.1, bb || r.2) (plen b) cs (.int .i64 0) w from ⟨0, b, st, bb, by omega, rfl, by simpa using hbi, hI, hbl, hs, ⟨r, hr, rfl⟩, h, KeptO.refl _ _ _⟩)
  have HFIN := hide (show ∀ (w' : World) (st' : List Int) (b' : Bool), (st', b') = (r.1, bb || r.2) → Rn lo w' R M nb vars tab l ms st' sv b' → Rn lo w' R M nb vars tab l ms r.1 sv (bb || r.2) from fun w' st' b' e hh => by injection e with e1 e2; rw [← e1, ← e2]; exact hh)
  have HOWN := hide hown
  have HBLK := hide h.blk
  have HSTY := hide h.sty
  generalize hfin : (r.1, bb || r.2) = fin at *
  generalize plen b = len at *
  clear hown hbi hbl hs hI hr hfin h
  go_enter Tryz.func133, Tryz.ntmps133
  go_wp2_with fail
  go_loopw [5, 8] (fun _ i wr => DORel w lo so R M nb no vars tab l ms sv fin len cs i wr) (fun _ i _ => len - (intOf i).toNat)
  case atStart => exact unhide HR
  case round =>
    obtain ⟨k, rest, s1, b1, hk, rfl, hst, hIn, hbl, hs, ⟨q, hq, hfin⟩, hN, hK⟩ := hrel
    have HNr := hide hN
    have HKr := hide hK
    obtain ⟨ya, ycap, e1, hview⟩ := own_viewB (owns_ko (unhide HOWN) (unhide HBLK) (unhide HSTY) (by decide) (by decide) hK)
    injection e1 with e1 _ e3
    subst e1; subst e3
    have HF := hide hfin
    have hsz := hK.size
    have hRr := hN.lt
    clear hN hK hfin
    match rest, hst, hIn, hbl, hs, hq, hk with
    | .nil, hst, hIn, hbl, hs, hq, hk =>
      have hne : ¬ k < len := by simp only [plen] at hk; omega
      rw [doO] at hq
      injection hq with hq
      subst hq
      have HE := hide ((unhide HFIN) wr s1 (b1 || false) (unhide HF) (unhide HNr).orF)
      clear hst hIn hbl hs hk hview
      go_wp2
      go_end0
      exact ⟨rfl, unhide HE, unhide HKr⟩
    | .node _ _ la .nil nx, hst, hIn, hbl, hs, hq, hk =>
      obtain ⟨p, rst, hd, hx, hnx⟩ := hst
      have hlt : k < len := by simp only [plen] at hk; omega
      obtain ⟨g, rfl, _, hgl, hc⟩ := hview k hlt
      obtain ⟨hpc, hpn⟩ := plC_tok la.place
      obtain ⟨hdr, hcc⟩ := drop_nine hd (stC_len _ _ _ _ _)
      have cc : ∀ j, j < 9 → ∀ u, (stC false la (.pointer p) (.slice none 0 0) (.slice none 0 0))[j]? = some u → wr.cell? ⟨g, k * 9 + j, none⟩ = some u := fun j hj u hu => (hc (k * 9 + j) (by omega)).trans ((hcc j hj).trans hu)
      unfold stC at cc
      rw [hpc] at cc
      have e0 := cc 0 (by omega) _ rfl
      have e1 := cc 1 (by omega) _ rfl
      have e2 := cc 2 (by omega) _ rfl
      have e3 := cc 3 (by omega) _ rfl
      have e4 := cc 4 (by omega) _ rfl
      have e5 := cc 5 (by omega) _ rfl
      have e6 := cc 6 (by omega) _ rfl
      have e7 := cc 7 (by omega) _ rfl
      have e8 := cc 8 (by omega) _ rfl
      simp only [Nat.add_zero] at e0
      rw [doO] at hq
      obtain ⟨p1, hp1, hq⟩ := Option.bind_eq_some_iff.mp hq
      obtain ⟨q2, hq2, hq⟩ := Option.map_eq_some_iff.mp hq
      have hsp : ∀ y ∈ ownPl (plTok la.place).1 (plTok la.place).2, y.text.size ≤ 1000 := fun y hy => hs y (by rw [namesB, hpn]; simp [hy])
      have hsv : ∀ y ∈ namesP la.value, y.text.size ≤ 1000 := fun y hy => hs y (by rw [namesB]; simp [hy])
      have hsn : ∀ y ∈ namesB nx, y.text.size ≤ 1000 := fun y hy => hs y (by rw [namesB]; simp [hy])
      have HNX := hide (⟨hIn, hbl, hsn, ⟨q2, hq2, by rw [← unhide HF, ← hq, Bool.or_assoc]⟩⟩ : MInner nx ∧ BLen nx ∧ (∀ y ∈ namesB nx, y.text.size ≤ 1000) ∧ ∃ q, doO vars tab l ms nx p1.1 = some q ∧ (q.1, (b1 || p1.2) || q.2) = fin)
      have HB1 := hide (show BIs so no wr nx (cs.drop ((k + 1) * 9)) by rw [hdr]; exact hnx)
      generalize (plTok la.place).1 = n at *
      generalize (plTok la.place).2 = i at *
      have HAS := hide (massign_any la.value (wr.alloc (.cells #[.bool false, .string n.text, .int .i64 n.at_, .bool (!(i.kind.toList == [])), .string i.text, .int .i64 i.at_, .pointer p, .slice none 0 0, .slice none 0 0] 334)) lo so R M nb vars tab l ms s1 sv b1 n i p none none 0 0 0 0 false ((unhide HNr).below (below_alloc1 _ _)) hv hpl (hx.below (below_alloc1 _ _)) hsv hsp p1 hp1)
      have hkn : k + 1 + plen nx = len := by simp only [plen] at hk; omega
      clear cc hc hcc hdr hd hpc hpn hs hsp hsn hx hnx hbl hIn HF HR hk hsv hview hp1 hq hq2
      generalize (!(i.kind.toList == [])) = d at *
      go_wp2_with fail
      refine (unhide HAS).mono ?_
      rintro e w2 ⟨rfl, h2, hk2⟩
      have HK2 := hide ((below_o (below_alloc1 _ _) R sv.ownBlock).trans hk2)
      have H2 := hide h2
      clear h2 hk2 HAS
      go_wp2
      go_roundw
      case rel => exact ⟨k + 1, nx, _, _, hkn, by go_num, (unhide HB1).ko (unhide HNr).blk (unhide HNr).sty (unhide HK2), (unhide HNX).1, (unhide HNX).2.1, (unhide HNX).2.2.1, (unhide HNX).2.2.2, unhide H2, (unhide HKr).trans (unhide HK2)⟩
      case measure => simp [intOf]; omega
    | .node _ _ la (.node _ _ _ t e) nx, hst, hIn, hbl, hs, hq, hk =>
      obtain ⟨p, ta, tn, tc, ea, en, ec, ct, ce, rst, hd, hx, ⟨ht1, _, ht2⟩, ⟨he1, _, he2⟩, hnx⟩ := hst
      have hlt : k < len := by simp only [plen] at hk; omega
      obtain ⟨g, rfl, _, hgl, hc⟩ := hview k hlt
      obtain ⟨hpc, hpn⟩ := plC_tok la.place
      obtain ⟨hdr, hcc⟩ := drop_nine hd (stC_len _ _ _ _ _)
      have cc : ∀ j, j < 9 → ∀ u, (stC true la (.pointer p) (.slice ta tn tc) (.slice ea en ec))[j]? = some u → wr.cell? ⟨g, k * 9 + j, none⟩ = some u := fun j hj u hu => (hc (k * 9 + j) (by omega)).trans ((hcc j hj).trans hu)
      unfold stC at cc
      rw [hpc] at cc
      have e0 := cc 0 (by omega) _ rfl
      have e1 := cc 1 (by omega) _ rfl
      have e2 := cc 2 (by omega) _ rfl
      have e3 := cc 3 (by omega) _ rfl
      have e4 := cc 4 (by omega) _ rfl
      have e5 := cc 5 (by omega) _ rfl
      have e6 := cc 6 (by omega) _ rfl
      have e7 := cc 7 (by omega) _ rfl
      have e8 := cc 8 (by omega) _ rfl
      simp only [Nat.add_zero] at e0
      rw [doO] at hq
      obtain ⟨c, hc1, hq⟩ := Option.bind_eq_some_iff.mp hq
      obtain ⟨p1, hp1, hq⟩ := Option.bind_eq_some_iff.mp hq
      obtain ⟨q2, hq2, hq⟩ := Option.map_eq_some_iff.mp hq
      have hsc : ∀ y ∈ namesP la.cond, y.text.size ≤ 1000 := fun y hy => hs y (by rw [namesB]; simp [hy])
      have hstt : ∀ y ∈ namesB t, y.text.size ≤ 1000 := fun y hy => hs y (by rw [namesB]; simp [hy])
      have hse : ∀ y ∈ namesB e, y.text.size ≤ 1000 := fun y hy => hs y (by rw [namesB]; simp [hy])
      have hsn : ∀ y ∈ namesB nx, y.text.size ≤ 1000 := fun y hy => hs y (by rw [namesB]; simp [hy])
      have HNX := hide (⟨hIn.2.2, hbl.2.2, hsn, ⟨q2, hq2, by rw [← unhide HF, ← hq]; simp [Bool.or_assoc]⟩⟩ : MInner nx ∧ BLen nx ∧ (∀ y ∈ namesB nx, y.text.size ≤ 1000) ∧ ∃ q, doO vars tab l ms nx p1.1 = some q ∧ (q.1, (b1 || c.2 || p1.2) || q.2) = fin)
      have HB1 := hide (show BIs so no wr nx (cs.drop ((k + 1) * 9)) by rw [hdr]; exact hnx)
      generalize (plTok la.place).1 = n at *
      generalize (plTok la.place).2 = i at *
      generalize (!(i.kind.toList == [])) = d at *
      have HCH := hide (mchoose_any t e hIn.1 hIn.2.1 la.cond (wr.alloc (.cells #[.bool true, .string n.text, .int .i64 n.at_, .bool d, .string i.text, .int .i64 i.at_, .pointer p, .slice ta tn tc, .slice ea en ec] 334)) lo so R M nb no vars tab l ms s1 sv b1 n i d p ta ea tn tc en ec ct ce ((unhide HNr).below (below_alloc1 _ _)) hv hpl (hx.below (below_alloc1 _ _)) hsc
        ⟨owns_below ht1 (below_alloc1 _ _), ht2.stay (fun k _ hk => (below_alloc1 _ _).block k hk), hbl.1.1, hbl.1.2, hstt⟩ ⟨owns_below he1 (below_alloc1 _ _), he2.stay (fun k _ hk => (below_alloc1 _ _).block k hk), hbl.2.1.1, hbl.2.1.2, hse⟩ c hc1 p1 hp1)
      have hkn : k + 1 + plen nx = len := by simp only [plen] at hk; omega
      clear cc hc hcc hdr hd hpc hpn hs hsc hstt hse hsn hx hnx hbl hIn HF HR hk hview hp1 hq hq2 hc1 ht1 ht2 he1 he2
      go_wp2_with fail
      refine (unhide HCH).mono ?_
      rintro e' w2 ⟨rfl, h2, hk2⟩
      have HK2 := hide ((below_o (below_alloc1 _ _) R sv.ownBlock).trans hk2)
      have H2 := hide h2
      clear h2 hk2 HCH
      go_wp2
      go_roundw
      case rel => exact ⟨k + 1, nx, _, _, hkn, by go_num, (unhide HB1).ko (unhide HNr).blk (unhide HNr).sty (unhide HK2), (unhide HNX).1, (unhide HNX).2.1, (unhide HNX).2.2.1, (unhide HNX).2.2.2, unhide H2, (unhide HKr).trans (unhide HK2)⟩
      case measure => simp [intOf]; omega

theorem minner_all : ∀ b : PB, MInner b
  | .nil => trivial
  | .node _ _ _ .nil n => minner_all n
  | .node _ _ _ (.node _ _ _ t e) n => ⟨mdo_step t (minner_all t), mdo_step e (minner_all e), minner_all n⟩
theorem mdo_all (b : PB) : MDoSaid b := mdo_step b (minner_all b)

end Go.Proofs.YtpmcnonmkghokaaGreatDoor
namespace Go.Proofs.YtpmcnonmkghokaaGreatDoor
open Go.RowKit
attribute [local go_sem ↓] Go.wp_at_zero Go.wp_at_succ
/-- Is a never's expression true, or does it go wrong? -/
def brkO (vars : List MVar) (tab : MTab) (l : List PP) (ms st : List Int) (x : PX) : Option Bool := (valO vars tab l ms st x).map fun r => (r.1 == 1) || r.2

set_option maxRecDepth 100000 in
set_option maxHeartbeats 4000000 in
theorem mbroken_any (x : PX) (w : World) (lo xo M nb : Nat) (vars : List MVar) (tab : MTab) (l : List PP) (ms st : List Int) (tx : ByteArray) (p pa ma sa : Option Addr) (pn pc mn mc sn sc : Nat) (h : Mc lo w M nb vars tab) (hP : w.ownsRow lo 352 4 (.slice pa pn pc) l.length (pasCells l)) (hM : w.ownsRow lo 3 1 (.slice ma mn mc) ms.length (ms.map (Value.int .i64))) (hS : w.ownsRow lo 5 1 (.slice sa sn sc) st.length (st.map (Value.int .u8)))
    (hv : vars.length ≤ 1000) (hpl : l.length ≤ 1000) (hX : XIs xo w x (.pointer p)) (hs : ∀ y ∈ namesP x, y.text.size ≤ 1000) (r : Bool) (hr : brkO vars tab l ms st x = some r) :
    Calls Tryz.prog 96 #[.agg #[.string tx, .pointer (some ⟨M, 0, none⟩), .slice pa pn pc, .slice ma mn mc, .pointer p], .slice sa sn sc] w fun e w' => e = .returned (.bool r) ∧ Below w.heap.size w w' := by
  unfold brkO at hr
  obtain ⟨c, hc, rfl⟩ := Option.map_eq_some_iff.mp hr
  obtain ⟨W, hW⟩ : ∃ W, W = (w.alloc (.cells #[.string tx, .pointer (some ⟨M, 0, none⟩), .slice pa pn pc, .slice ma mn mc, .pointer p] 208)).alloc (.cells #[.string tx, .pointer (some ⟨M, 0, none⟩), .slice pa pn pc, .slice ma mn mc, .slice sa sn sc, .bool false] 269) := ⟨_, rfl⟩
  have hbW : Below w.heap.size w W := by rw [hW]; exact (below_alloc1 w _).trans ((below_alloc1 _ _).mono (by simp))
  have hsW : w.heap.size + 1 < W.heap.size := by rw [hW]; simp
  have hN : W.heap[w.heap.size]? = some (.cells #[.string tx, .pointer (some ⟨M, 0, none⟩), .slice pa pn pc, .slice ma mn mc, .pointer p] 208 (0, 0)) := by rw [hW]; exact alloc_row (alloc_new _ _)
  have hR : W.heap[w.heap.size + 1]? = some (.cells #[.string tx, .pointer (some ⟨M, 0, none⟩), .slice pa pn pc, .slice ma mn mc, .slice sa sn sc, .bool false] 269 (0, 0)) := by
    rw [hW]
    have := alloc_new (w.alloc (.cells #[.string tx, .pointer (some ⟨M, 0, none⟩), .slice pa pn pc, .slice ma mn mc, .pointer p] 208)) (.cells #[.string tx, .pointer (some ⟨M, 0, none⟩), .slice pa pn pc, .slice ma mn mc, .slice sa sn sc, .bool false] 269)
    simp only [World.size_alloc] at this
    exact this
  have hRn : Rn lo W (w.heap.size + 1) M nb vars tab l ms st (.slice sa sn sc) false := ⟨⟨tx, pa, pn, pc, ma, mn, mc, hR, owns_below hP hbW, owns_below hM hbW⟩, h.below hbW, owns_below hS hbW⟩
  have HV := hide (misTrue_any x W lo xo (w.heap.size + 1) M nb vars tab l ms st _ false p hRn hv hpl (hX.below hbW) hs c hc)
  obtain ⟨q0, q1, q2, q3, q4, _⟩ := row5' hN
  have HWE := hide hW.symm
  have HBW := hide hbW
  clear hr hc hs hX hRn h hP hM hS hbW hN hR hW
  generalize (c.1 == 1) = ct at *
  generalize c.2 = cw at *
  rw [Bool.false_or] at HV
  go_enter Tryz.func96, Tryz.ntmps96
  go_wp2_with fail
  rw [unhide HWE]
  refine (unhide HV).mono ?_
  rintro e w1 ⟨rfl, h1, hk1⟩
  obtain ⟨_, _, c5, _⟩ := h1.cells
  have HB1 := hide ((unhide HBW).trans (hk1.toBelow (B := w.heap.size) (by omega) (by omega)))
  clear h1 hk1 HV HBW q0 q1 q2 q3 q4
  cases ct
  · go_wp2
    go_ret
    exact ⟨rfl, unhide HB1⟩
  · go_wp2
    go_ret
    exact ⟨rfl, unhide HB1⟩

theorem bytes_one (st : List Int) : ∀ y ∈ st.map (Value.int .u8), y.oneCell' = true := by
  intro y hy
  obtain ⟨x, _, rfl⟩ := List.mem_map.mp hy
  rfl
theorem Tryz.infoU8 : (Tryz.prog.info? 5).map (fun i => (i.zero, i.size, i.bytes)) = some (some (.int .u8 0), 1, 1) := by kernel_rfl
set_option maxRecDepth 100000 in
set_option maxHeartbeats 4000000 in
theorem mclone_any (w : World) (lo : Nat) (st : List Int) (sa : Option Addr) (sn sc : Nat) (hS : w.ownsRow lo 5 1 (.slice sa sn sc) st.length (st.map (Value.int .u8))) (hl : st.length ≤ 1000000) :
    Calls Tryz.prog 131 #[.slice sa sn sc] w fun e w' => ∃ ca cn cc, e = .returned (.slice ca cn cc) ∧ w'.ownsRow w.heap.size 5 1 (.slice ca cn cc) st.length (st.map (Value.int .u8)) ∧ Below w.heap.size w w' := by
  rcases hS.2 with ⟨e1, e2⟩ | ⟨g, cap, cur, e1, e2, e3, e4⟩
  · injection e1 with e1 e1' e1''
    subst e1; subst e1'; subst e1''
    have hn : st = [] := List.eq_nil_of_length_eq_zero e2
    subst hn
    have hnil := fun w => Go.Lib.run_eql_slice_nil (P := Tryz.prog) w 95 5 none 0 0 0 0 Tryz.underlying95
    clear hS e2 hl
    go_enter Tryz.func131, Tryz.ntmps131
    go_wp2
    go_ret
    exact ⟨none, 0, 0, rfl, World.ownsRow_nil _ _ _ _, Below.refl _ _⟩
  · injection e1 with e1 e1' e1''
    subst e1; subst e1'; subst e1''
    have HS := hide (owns_below hS (below_alloc1 w (.cells #[] 5)))
    have HO := hide (show (w.alloc (.cells #[] 5)).ownsRow w.heap.size 5 1 (.slice (some ⟨w.heap.size, 0, none⟩) 0 0) 0 [] from ⟨rfl, Or.inr ⟨w.heap.size, 0, _, rfl, Nat.le_refl _, alloc_new _ _, Nat.le_refl _, by unfold maxLen; omega, rfl, rfl⟩⟩)
    obtain ⟨i0, hi, hz0, hz1, hz2⟩ := info_parts Tryz.infoU8
    have hnil := fun w => Go.Lib.run_eql_slice_nil (P := Tryz.prog) w 95 5 (some ⟨g, 0, none⟩) st.length sc 0 0 Tryz.underlying95
    clear hS e2 e3 e4
    go_enter Tryz.func131, Tryz.ntmps131
    go_wp2_with (at_builtin; refine wpList_append_slice rfl _ _ 95 rfl w.heap.size 5 i0 _ 1 1 Tryz.underlying95 hi hz0 hz1 hz2 rfl (by decide) (.slice (some ⟨w.heap.size, 0, none⟩) 0 0) 0 [] rfl (unhide HO) (.slice (some ⟨g, 0, none⟩) st.length sc) st.length _ _ rfl (unhide HS) (bytes_one st) (by unfold maxLen; omega) (by omega) (by simp) ?_)
    intro v3 w3 hown3 hgrow3 hat3
    have HB3 := hide ((below_alloc1 w _).grown hgrow3 (by simp) (own_ge (unhide HO)))
    obtain ⟨a3, l3, c3, rfl⟩ := own_slice hown3
    have HV3 := hide hown3
    clear hown3 hgrow3 hat3
    go_wp2
    go_ret
    exact ⟨a3, l3, c3, rfl, unhide HV3, unhide HB3⟩

end Go.Proofs.YtpmcnonmkghokaaGreatDoor

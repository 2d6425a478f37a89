/-
  The reference's inside: all names in the expressions of statements.
  The reference's rules: the rules and the nevers of a tree, in one list.
  The reference's globals: all names that are given to anything but parameters.
-/
import Derived.Test.YtpmcnonmkghokaaGreatT09
import Derived.Test.YtpmcnonmkghokaaGreatT10
set_option linter.unusedVariables false
set_option linter.unusedSimpArgs false
namespace Go.Proofs.YtpmcnonmkghokaaGreat
open Go.RowKit

def labNames (a : SLab) : List Tok := (namesL a.place ++ namesL a.value) ++ namesL a.cond
def insideL : PB → List Tok
  | .nil => []
  | .node _ _ a .nil n => labNames a ++ insideL n
  | .node _ _ a (.node _ _ _ t e) n => ((labNames a ++ insideL t) ++ insideL e) ++ insideL n

def InsideSaid (b : PB) : Prop := ∀ (w : World) (lo : Nat) (v : Value) (ps : List Value), (insideL b).length ≤ 90000 → w.ownsRow lo 112 1 v ps.length ps → StmtsIs lo none w b ps → ps.length ≤ 1000 →
  Calls Tryz.prog 45 #[v] w fun e w' => ∃ u, e = .returned u ∧ w'.ownsRow w.heap.size 56 3 u (insideL b).length (toksCells (insideL b)) ∧ Below w.heap.size w w'
def SLen : PB → Prop
  | .nil => True
  | .node _ _ _ .nil n => SLen n
  | .node _ _ _ (.node _ _ _ t e) n => blen t ≤ 1000 ∧ blen e ≤ 1000 ∧ SLen n
/-- All lists of statements within are short, to the bottom. -/
def SLenAll : PB → Prop
  | .nil => True
  | .node _ _ _ .nil n => SLenAll n
  | .node _ _ _ (.node _ _ _ t e) n => SLenAll t ∧ SLenAll e ∧ blen t ≤ 1000 ∧ blen e ≤ 1000 ∧ SLenAll n
theorem slen_of : ∀ {b : PB}, SLenAll b → SLen b
  | .nil, _ => trivial
  | .node _ _ _ .nil n, h => slen_of (b := n) h
  | .node _ _ _ (.node _ _ _ t e) n, h => ⟨h.2.2.1, h.2.2.2.1, slen_of h.2.2.2.2⟩
def InnerI : PB → Prop
  | .nil => True
  | .node _ _ _ .nil n => InnerI n
  | .node _ _ _ (.node _ _ _ t e) n => InsideSaid t ∧ InsideSaid e ∧ InnerI n

def InRel (w : World) (b : PB) (lo : Nat) (ps : List Value) (l i : Value) (wr : World) : Prop :=
  ∃ (k : Nat) (rest : PB) (acc : List Tok), k ≤ ps.length ∧ i = .int .i64 k ∧ StmtsIs lo none wr rest (ps.drop k) ∧ SLen rest ∧ InnerI rest ∧ acc ++ insideL rest = insideL b ∧ wr.ownsRow w.heap.size 56 3 l acc.length (toksCells acc) ∧ Below w.heap.size w wr

/-- A row that lies between two sizes stays while one outside grows. -/
theorem owns_apart {w w' : World} {lo e size A B : Nat} {u : Value} {m : Nat} {ys : List Value} {row : Option Nat} (h : w.ownsRow lo e size u m ys) (hg : w.grownBy w' row) (hu : ∀ k, u.ownBlock = some k → A ≤ k ∧ k < B) (hr : ∀ k, row = some k → k < A ∨ B ≤ k) : w'.ownsRow lo e size u m ys := by
  refine h.kept hg ?_
  cases he : u.ownBlock with
  | none => exact Or.inl rfl
  | some j => exact Or.inr fun hj => by have h1 := hu j he; have h2 := hr j hj.symm; omega
theorem row_next {A B H : Nat} {v v' : Value} (hv : ∀ k, v.ownBlock = some k → k < A ∨ B ≤ k) (hat : v'.ownBlock = v.ownBlock ∨ v'.ownBlock = some H) (hH : B ≤ H) : ∀ k, v'.ownBlock = some k → k < A ∨ B ≤ k := by
  intro k hk
  rcases hat with e | e
  · rw [e] at hk; exact hv k hk
  · rw [e] at hk; simp at hk; omega

set_option maxHeartbeats 1000000 in
theorem inside_nil (w : World) : Calls Tryz.prog 45 #[.slice none 0 0] w fun e w' => ∃ u, e = .returned u ∧ w'.ownsRow w.heap.size 56 3 u 0 [] ∧ Below w.heap.size w w' := by
  go_enter Tryz.func45, Tryz.ntmps45
  go_wp2_with fail
  refine wp_loop_rounds 1 ?_
  rw [rounds_succ]
  go_wp2
  go_ret
  exact ⟨_, rfl, World.ownsRow_nil _ _ _ _, Below.refl _ _⟩

set_option maxRecDepth 100000 in
set_option maxHeartbeats 4000000 in
theorem inside_step (b : PB) (hI : InnerI b) (hSL : SLen b) : InsideSaid b := by
  intro w lo v ps hlen hv hst hpl
  obtain ⟨i0, hi, hz0, hz1, hz2⟩ := info_parts Tryz.infoTok
  obtain ⟨a, cap, rfl, hview⟩ := own_view hv
  have HR0 := hide (show InRel w b lo ps (.slice none 0 0) (.int .i64 0) w from ⟨0, b, [], Nat.zero_le _, rfl, by rw [List.drop_zero]; exact hst, hSL, hI, rfl, World.ownsRow_nil _ _ _ _, Below.refl _ _⟩)
  have HV := hide hview
  have HVW := hide (show ∀ k, k < ps.length → ∀ g, a = some ⟨g, 0, none⟩ → g < w.heap.size from fun k hk g hg => by
    obtain ⟨g', e1, hc⟩ := hview k hk
    rw [hg] at e1; cases e1
    have := hc k (by omega)
    rw [List.getElem?_eq_getElem hk] at this
    exact block_lt_of_cell this)
  clear hv hst hview
  go_enter Tryz.func45, Tryz.ntmps45
  go_wp2_with fail
  go_loopw [3, 4] (fun l i wr => InRel w b lo ps l i wr) (fun _ i _ => ps.length - (intOf i).toNat)
  case atStart => exact unhide HR0
  case round =>
    obtain ⟨k, rest, acc, hk, rfl, hst, hS2, hI2, hacc, hown, hbr⟩ := hrel
    have HO := hide hown
    have HB := hide hbr
    have HA := hide hacc
    have hzr := hbr.size
    have hrow := own_lt hown
    obtain ⟨la0, ll0, lc0, rfl⟩ := own_slice hown
    clear hown hbr hacc
    match rest, hst, hS2, hI2, HA with
    | .nil, hst, hS2, hI2, HA =>
      have hd : ps.drop k = [] := hst
      have hke : ps.length ≤ k := by simpa using hd
      have hne : ¬ k < ps.length := by omega
      have hacc : acc = insideL b := by have := unhide HA; simpa [insideL] using this
      have HOF := hide (show wr.ownsRow w.heap.size 56 3 (.slice la0 ll0 lc0) (insideL b).length (toksCells (insideL b)) by rw [← hacc]; exact unhide HO)
      clear hd hst hS2 hI2 hacc
      go_wp2
      go_ret
      exact ⟨_, rfl, unhide HOF, unhide HB⟩
    | .node _ _ la .nil nx, hst, hS2, hI2, HA =>
      obtain ⟨kd, vp, vv, vi, qs, hd, _, hh, hlab, hnx⟩ := hst
      have hlt : k < ps.length := by
        rcases Nat.lt_or_ge k ps.length with h | h
        · exact h
        · rw [List.drop_of_length_le h] at hd; cases hd
      have hpk : ps[k]? = some (.pointer (some ⟨kd, 0, none⟩)) := by
        have := congrArg (fun l => l[0]?) hd
        simpa using this
      have hqs : ps.drop (k + 1) = qs := by
        have := congrArg List.tail hd
        simpa using this
      obtain ⟨g, rfl, hc⟩ := unhide HV k hlt
      have hgw := unhide HVW k hlt g rfl
      have f0 : wr.cell? ⟨g, k, none⟩ = some (.pointer (some ⟨kd, 0, none⟩)) := by
        have h9 : w.cell? ⟨g, k, none⟩ = some (.pointer (some ⟨kd, 0, none⟩)) := (hc k (by omega)).trans hpk
        exact cell_later (unhide HB) h9
      obtain ⟨d0, d1, d2, d3, d4, _⟩ := row5 hh
      have HNP := hide hlab.1
      have HNV := hide hlab.2.1
      have HNC := hide hlab.2.2
      have HNX := hide hnx
      have HSN := hide (show SLen nx from hS2)
      have HIN := hide (show InnerI nx from hI2)
      have hLE : acc.length + ((namesL la.place).length + (namesL la.value).length + (namesL la.cond).length) ≤ 90000 := by
        have := congrArg List.length (unhide HA)
        simp only [insideL, labNames, List.length_append] at this
        omega
      clear hc hd hpk hlab hS2 hI2 hh hnx
      go_wp2_with fail
      refine (names_all la.place _ lo _ (by omega) (unhide HNP)).mono ?_
      rintro e u1 ⟨t1, rfl, ht1, hb1⟩
      have f1 := cell_later hb1 f0
      have d01 := cell_later hb1 d0
      have d11 := cell_later hb1 d1
      have d21 := cell_later hb1 d2
      have d31 := cell_later hb1 d3
      have d41 := cell_later hb1 d4
      have HW1 := hide (show Below wr.heap.size wr u1 from hb1)
      have hs1 := hb1.size
      have HT1_1 := hide ht1
      have hr1 : ∀ k, t1.ownBlock = some k → wr.heap.size ≤ k ∧ k < u1.heap.size := fun k hk => ⟨by have := own_ge ht1 k hk; omega, own_lt ht1 k hk⟩
      obtain ⟨ta1, tl1, tc1, rfl⟩ := own_slice ht1
      clear f0 d0 d1 d2 d3 d4 ht1 hb1
      go_wp2_with fail
      refine (names_all la.value _ lo _ (by omega) ((unhide HNV).below (unhide HW1))).mono ?_
      rintro e u2 ⟨t2, rfl, ht2, hb2⟩
      have f2 := cell_later hb2 f1
      have d02 := cell_later hb2 d01
      have d12 := cell_later hb2 d11
      have d22 := cell_later hb2 d21
      have d32 := cell_later hb2 d31
      have d42 := cell_later hb2 d41
      have HW2 := hide (show Below wr.heap.size wr u2 from (unhide HW1).trans (hb2.mono (unhide HW1).size))
      have hs2 := hb2.size
      have HT2_2 := hide ht2
      have HT1_2 := hide (owns_below (unhide HT1_1) hb2)
      have hr2 : ∀ k, t2.ownBlock = some k → wr.heap.size ≤ k ∧ k < u2.heap.size := fun k hk => ⟨by have := own_ge ht2 k hk; omega, own_lt ht2 k hk⟩
      obtain ⟨ta2, tl2, tc2, rfl⟩ := own_slice ht2
      clear f1 d01 d11 d21 d31 d41 ht2 hb2 HT1_1
      go_wp2_with fail
      refine (names_all la.cond _ lo _ (by omega) ((unhide HNC).below (unhide HW2))).mono ?_
      rintro e u3 ⟨t3, rfl, ht3, hb3⟩
      have f3 := cell_later hb3 f2
      have d03 := cell_later hb3 d02
      have d13 := cell_later hb3 d12
      have d23 := cell_later hb3 d22
      have d33 := cell_later hb3 d32
      have d43 := cell_later hb3 d42
      have HW3 := hide (show Below wr.heap.size wr u3 from (unhide HW2).trans (hb3.mono (unhide HW2).size))
      have hs3 := hb3.size
      have HT3_3 := hide ht3
      have HT1_3 := hide (owns_below (unhide HT1_2) hb3)
      have HT2_3 := hide (owns_below (unhide HT2_2) hb3)
      have hr3 : ∀ k, t3.ownBlock = some k → wr.heap.size ≤ k ∧ k < u3.heap.size := fun k hk => ⟨by have := own_ge ht3 k hk; omega, own_lt ht3 k hk⟩
      obtain ⟨ta3, tl3, tc3, rfl⟩ := own_slice ht3
      clear f2 d02 d12 d22 d32 d42 ht3 hb3 HT1_2 HT2_2
      go_wp2_with fail
      refine (inside_nil _).mono ?_
      rintro e u4 ⟨t4, rfl, ht4, hb4⟩
      have f4 := cell_later hb4 f3
      have d04 := cell_later hb4 d03
      have d14 := cell_later hb4 d13
      have d24 := cell_later hb4 d23
      have d34 := cell_later hb4 d33
      have d44 := cell_later hb4 d43
      have HW4 := hide (show Below wr.heap.size wr u4 from (unhide HW3).trans (hb4.mono (unhide HW3).size))
      have hs4 := hb4.size
      have HT4_4 := hide ht4
      have HT1_4 := hide (owns_below (unhide HT1_3) hb4)
      have HT2_4 := hide (owns_below (unhide HT2_3) hb4)
      have HT3_4 := hide (owns_below (unhide HT3_3) hb4)
      have hr4 : ∀ k, t4.ownBlock = some k → wr.heap.size ≤ k ∧ k < u4.heap.size := fun k hk => ⟨by have := own_ge ht4 k hk; omega, own_lt ht4 k hk⟩
      obtain ⟨ta4, tl4, tc4, rfl⟩ := own_slice ht4
      clear f3 d03 d13 d23 d33 d43 ht4 hb4 HT1_3 HT2_3 HT3_3
      go_wp2_with fail
      refine (inside_nil _).mono ?_
      rintro e u5 ⟨t5, rfl, ht5, hb5⟩
      have f5 := cell_later hb5 f4
      have d05 := cell_later hb5 d04
      have d15 := cell_later hb5 d14
      have d25 := cell_later hb5 d24
      have d35 := cell_later hb5 d34
      have d45 := cell_later hb5 d44
      have HW5 := hide (show Below wr.heap.size wr u5 from (unhide HW4).trans (hb5.mono (unhide HW4).size))
      have hs5 := hb5.size
      have HT5_5 := hide ht5
      have HT1_5 := hide (owns_below (unhide HT1_4) hb5)
      have HT2_5 := hide (owns_below (unhide HT2_4) hb5)
      have HT3_5 := hide (owns_below (unhide HT3_4) hb5)
      have HT4_5 := hide (owns_below (unhide HT4_4) hb5)
      have hr5 : ∀ k, t5.ownBlock = some k → wr.heap.size ≤ k ∧ k < u5.heap.size := fun k hk => ⟨by have := own_ge ht5 k hk; omega, own_lt ht5 k hk⟩
      obtain ⟨ta5, tl5, tc5, rfl⟩ := own_slice ht5
      clear f4 d04 d14 d24 d34 d44 ht5 hb5 HT1_4 HT2_4 HT3_4 HT4_4
      have HL0 := hide (owns_below (unhide HO) (unhide HW5))
      have hq0 : ∀ k, (Value.slice la0 ll0 lc0).ownBlock = some k → k < wr.heap.size ∨ u5.heap.size ≤ k := fun k hk => Or.inl (hrow k hk)
      have HY0 := hide ((unhide HB).trans ((unhide HW5).mono hzr))
      have HS0 := hide ((unhide HNX).below (unhide HW5))
      have hx1 : ∀ k, (Value.slice ta1 tl1 tc1).ownBlock = some k → wr.heap.size ≤ k ∧ k < u5.heap.size := fun k hk => ⟨(hr1 k hk).1, by have := (hr1 k hk).2; omega⟩
      have hx2 : ∀ k, (Value.slice ta2 tl2 tc2).ownBlock = some k → wr.heap.size ≤ k ∧ k < u5.heap.size := fun k hk => ⟨(hr2 k hk).1, by have := (hr2 k hk).2; omega⟩
      have hx3 : ∀ k, (Value.slice ta3 tl3 tc3).ownBlock = some k → wr.heap.size ≤ k ∧ k < u5.heap.size := fun k hk => ⟨(hr3 k hk).1, by have := (hr3 k hk).2; omega⟩
      have hx4 : ∀ k, (Value.slice ta4 tl4 tc4).ownBlock = some k → wr.heap.size ≤ k ∧ k < u5.heap.size := fun k hk => ⟨(hr4 k hk).1, by have := (hr4 k hk).2; omega⟩
      have hx5 : ∀ k, (Value.slice ta5 tl5 tc5).ownBlock = some k → wr.heap.size ≤ k ∧ k < u5.heap.size := fun k hk => ⟨(hr5 k hk).1, by have := (hr5 k hk).2; omega⟩
      clear f5 d05 d15 d25 d35 d45
      go_wp2_with (at_builtin; go_must (refine wpList_append_slice rfl _ _ 45 rfl w.heap.size 56 i0 _ 3 40 Tryz.underlying45 hi hz0 hz1 hz2 rfl (by decide) (.slice la0 ll0 lc0) _ _ rfl (unhide HL0) (.slice ta1 tl1 tc1) _ _ _ rfl (unhide HT1_5) (by first | exact toksCells_one _ | (intro y hy; cases hy)) (by unfold maxLen; omega) (by omega) (by omega) ?_))
      intro v1 x1 hown1 hgrow1 hat1
      have hzx1 := hgrow1.size
      have HL1 := hide hown1
      have HY1 := hide ((unhide HY0).grown hgrow1 (by omega) (own_ge (unhide HL0)))
      have HS1 := hide ((unhide HS0).far (unhide HL0) (by decide) (by decide) (by decide) hgrow1)
      have hq1 := row_next hq0 hat1 (by omega)
      have HT2_6 := hide (owns_apart (unhide HT2_5) hgrow1 hx2 hq0)
      have HT3_6 := hide (owns_apart (unhide HT3_5) hgrow1 hx3 hq0)
      have HT4_6 := hide (owns_apart (unhide HT4_5) hgrow1 hx4 hq0)
      have HT5_6 := hide (owns_apart (unhide HT5_5) hgrow1 hx5 hq0)
      obtain ⟨la1, ll1, lc1, rfl⟩ := own_slice hown1
      clear hown1 hgrow1 hat1 HL0 HS0 HY0 HT1_5 HT2_5 HT3_5 HT4_5 HT5_5
      go_wp2_with (at_builtin; go_must (refine wpList_append_slice rfl _ _ 45 rfl w.heap.size 56 i0 _ 3 40 Tryz.underlying45 hi hz0 hz1 hz2 rfl (by decide) (.slice la1 ll1 lc1) _ _ rfl (unhide HL1) (.slice ta2 tl2 tc2) _ _ _ rfl (unhide HT2_6) (by first | exact toksCells_one _ | (intro y hy; cases hy)) (by unfold maxLen; omega) (by omega) (by omega) ?_))
      intro v2 x2 hown2 hgrow2 hat2
      have hzx2 := hgrow2.size
      have HL2 := hide hown2
      have HY2 := hide ((unhide HY1).grown hgrow2 (by omega) (own_ge (unhide HL1)))
      have HS2 := hide ((unhide HS1).far (unhide HL1) (by decide) (by decide) (by decide) hgrow2)
      have hq2 := row_next hq1 hat2 (by omega)
      have HT3_7 := hide (owns_apart (unhide HT3_6) hgrow2 hx3 hq1)
      have HT4_7 := hide (owns_apart (unhide HT4_6) hgrow2 hx4 hq1)
      have HT5_7 := hide (owns_apart (unhide HT5_6) hgrow2 hx5 hq1)
      obtain ⟨la2, ll2, lc2, rfl⟩ := own_slice hown2
      clear hown2 hgrow2 hat2 HL1 HS1 HY1 HT2_6 HT3_6 HT4_6 HT5_6
      go_wp2_with (at_builtin; go_must (refine wpList_append_slice rfl _ _ 45 rfl w.heap.size 56 i0 _ 3 40 Tryz.underlying45 hi hz0 hz1 hz2 rfl (by decide) (.slice la2 ll2 lc2) _ _ rfl (unhide HL2) (.slice ta3 tl3 tc3) _ _ _ rfl (unhide HT3_7) (by first | exact toksCells_one _ | (intro y hy; cases hy)) (by unfold maxLen; omega) (by omega) (by omega) ?_))
      intro v3 x3 hown3 hgrow3 hat3
      have hzx3 := hgrow3.size
      have HL3 := hide hown3
      have HY3 := hide ((unhide HY2).grown hgrow3 (by omega) (own_ge (unhide HL2)))
      have HS3 := hide ((unhide HS2).far (unhide HL2) (by decide) (by decide) (by decide) hgrow3)
      have hq3 := row_next hq2 hat3 (by omega)
      have HT4_8 := hide (owns_apart (unhide HT4_7) hgrow3 hx4 hq2)
      have HT5_8 := hide (owns_apart (unhide HT5_7) hgrow3 hx5 hq2)
      obtain ⟨la3, ll3, lc3, rfl⟩ := own_slice hown3
      clear hown3 hgrow3 hat3 HL2 HS2 HY2 HT3_7 HT4_7 HT5_7
      go_wp2_with (at_builtin; go_must (refine wpList_append_slice rfl _ _ 45 rfl w.heap.size 56 i0 _ 3 40 Tryz.underlying45 hi hz0 hz1 hz2 rfl (by decide) (.slice la3 ll3 lc3) _ _ rfl (unhide HL3) (.slice ta4 tl4 tc4) _ _ _ rfl (unhide HT4_8) (by first | exact toksCells_one _ | (intro y hy; cases hy)) (by unfold maxLen; omega) (by omega) (by omega) ?_))
      intro v4 x4 hown4 hgrow4 hat4
      have hzx4 := hgrow4.size
      have HL4 := hide hown4
      have HY4 := hide ((unhide HY3).grown hgrow4 (by omega) (own_ge (unhide HL3)))
      have HS4 := hide ((unhide HS3).far (unhide HL3) (by decide) (by decide) (by decide) hgrow4)
      have hq4 := row_next hq3 hat4 (by omega)
      have HT5_9 := hide (owns_apart (unhide HT5_8) hgrow4 hx5 hq3)
      obtain ⟨la4, ll4, lc4, rfl⟩ := own_slice hown4
      clear hown4 hgrow4 hat4 HL3 HS3 HY3 HT4_8 HT5_8
      go_wp2_with (at_builtin; go_must (refine wpList_append_slice rfl _ _ 45 rfl w.heap.size 56 i0 _ 3 40 Tryz.underlying45 hi hz0 hz1 hz2 rfl (by decide) (.slice la4 ll4 lc4) _ _ rfl (unhide HL4) (.slice ta5 tl5 tc5) _ _ _ rfl (unhide HT5_9) (by first | exact toksCells_one _ | (intro y hy; cases hy)) (by unfold maxLen; omega) (by omega) (by omega) ?_))
      intro v5 x5 hown5 hgrow5 hat5
      have hzx5 := hgrow5.size
      have HL5 := hide hown5
      have HY5 := hide ((unhide HY4).grown hgrow5 (by omega) (own_ge (unhide HL4)))
      have HS5 := hide ((unhide HS4).far (unhide HL4) (by decide) (by decide) (by decide) hgrow5)
      have hq5 := row_next hq4 hat5 (by omega)
      obtain ⟨la5, ll5, lc5, rfl⟩ := own_slice hown5
      clear hown5 hgrow5 hat5 HL4 HS4 HY4 HT5_9
      have HR5 := hide (show InRel w b lo ps (.slice la5 ll5 lc5) (.int .i64 ((k : Int) + 1)) x5 from
        ⟨k + 1, nx, acc ++ labNames la, by omega, by go_num, by rw [hqs]; exact unhide HS5, unhide HSN, unhide HIN, by rw [List.append_assoc]; exact unhide HA, by
          have := unhide HL5
          simp only [labNames, toksCells_app, List.length_append, List.append_assoc, Nat.add_assoc] at this ⊢
          first | exact this | simpa [toksCells] using this, unhide HY5⟩)
      go_wp2
      go_roundw
      case rel => exact unhide HR5
      case measure => simp [intOf]; omega
    | .node _ _ la (.node _ _ _ bt be) nx, hst, hS2, hI2, HA =>
      obtain ⟨kd, vp, vv, vi, vt, ve, qt, qe, qs, hd, _, hh, hlab, ⟨ht1, _, ht2⟩, ⟨he1, _, he2⟩, hnx⟩ := hst
      have hlt : k < ps.length := by
        rcases Nat.lt_or_ge k ps.length with h | h
        · exact h
        · rw [List.drop_of_length_le h] at hd; cases hd
      have hpk : ps[k]? = some (.pointer (some ⟨kd, 0, none⟩)) := by
        have := congrArg (fun l => l[0]?) hd
        simpa using this
      have hqs : ps.drop (k + 1) = qs := by
        have := congrArg List.tail hd
        simpa using this
      obtain ⟨g, rfl, hc⟩ := unhide HV k hlt
      have hgw := unhide HVW k hlt g rfl
      have f0 : wr.cell? ⟨g, k, none⟩ = some (.pointer (some ⟨kd, 0, none⟩)) := by
        have h9 : w.cell? ⟨g, k, none⟩ = some (.pointer (some ⟨kd, 0, none⟩)) := (hc k (by omega)).trans hpk
        exact cell_later (unhide HB) h9
      obtain ⟨d0, d1, d2, d3, d4, _⟩ := row5 hh
      have HNP := hide hlab.1
      have HNV := hide hlab.2.1
      have HNC := hide hlab.2.2
      have HNX := hide hnx
      have hqt : qt.length ≤ 1000 := by rw [ht2.len]; exact hS2.1
      have hqe : qe.length ≤ 1000 := by rw [he2.len]; exact hS2.2.1
      have HSN := hide (show SLen nx from hS2.2.2)
      have HIT := hide (show InsideSaid bt from hI2.1)
      have HIE := hide (show InsideSaid be from hI2.2.1)
      have HIN := hide (show InnerI nx from hI2.2.2)
      have KT1 := hide ht1
      have KT2 := hide ht2
      have KE1 := hide he1
      have KE2 := hide he2
      obtain ⟨sta, stl, stc, rfl⟩ := own_slice ht1
      obtain ⟨sea, sel, sec, rfl⟩ := own_slice he1
      have hLE : acc.length + ((namesL la.place).length + (namesL la.value).length + (namesL la.cond).length + (insideL bt).length + (insideL be).length) ≤ 90000 := by
        have := congrArg List.length (unhide HA)
        simp only [insideL, labNames, List.length_append] at this
        omega
      clear hc hd hpk hlab hS2 hI2 hh hnx ht1 ht2 he1 he2
      go_wp2_with fail
      refine (names_all la.place _ lo _ (by omega) (unhide HNP)).mono ?_
      rintro e u1 ⟨t1, rfl, ht1, hb1⟩
      have f1 := cell_later hb1 f0
      have d01 := cell_later hb1 d0
      have d11 := cell_later hb1 d1
      have d21 := cell_later hb1 d2
      have d31 := cell_later hb1 d3
      have d41 := cell_later hb1 d4
      have HW1 := hide (show Below wr.heap.size wr u1 from hb1)
      have hs1 := hb1.size
      have HT1_1 := hide ht1
      have hr1 : ∀ k, t1.ownBlock = some k → wr.heap.size ≤ k ∧ k < u1.heap.size := fun k hk => ⟨by have := own_ge ht1 k hk; omega, own_lt ht1 k hk⟩
      obtain ⟨ta1, tl1, tc1, rfl⟩ := own_slice ht1
      clear f0 d0 d1 d2 d3 d4 ht1 hb1
      go_wp2_with fail
      refine (names_all la.value _ lo _ (by omega) ((unhide HNV).below (unhide HW1))).mono ?_
      rintro e u2 ⟨t2, rfl, ht2, hb2⟩
      have f2 := cell_later hb2 f1
      have d02 := cell_later hb2 d01
      have d12 := cell_later hb2 d11
      have d22 := cell_later hb2 d21
      have d32 := cell_later hb2 d31
      have d42 := cell_later hb2 d41
      have HW2 := hide (show Below wr.heap.size wr u2 from (unhide HW1).trans (hb2.mono (unhide HW1).size))
      have hs2 := hb2.size
      have HT2_2 := hide ht2
      have HT1_2 := hide (owns_below (unhide HT1_1) hb2)
      have hr2 : ∀ k, t2.ownBlock = some k → wr.heap.size ≤ k ∧ k < u2.heap.size := fun k hk => ⟨by have := own_ge ht2 k hk; omega, own_lt ht2 k hk⟩
      obtain ⟨ta2, tl2, tc2, rfl⟩ := own_slice ht2
      clear f1 d01 d11 d21 d31 d41 ht2 hb2 HT1_1
      go_wp2_with fail
      refine (names_all la.cond _ lo _ (by omega) ((unhide HNC).below (unhide HW2))).mono ?_
      rintro e u3 ⟨t3, rfl, ht3, hb3⟩
      have f3 := cell_later hb3 f2
      have d03 := cell_later hb3 d02
      have d13 := cell_later hb3 d12
      have d23 := cell_later hb3 d22
      have d33 := cell_later hb3 d32
      have d43 := cell_later hb3 d42
      have HW3 := hide (show Below wr.heap.size wr u3 from (unhide HW2).trans (hb3.mono (unhide HW2).size))
      have hs3 := hb3.size
      have HT3_3 := hide ht3
      have HT1_3 := hide (owns_below (unhide HT1_2) hb3)
      have HT2_3 := hide (owns_below (unhide HT2_2) hb3)
      have hr3 : ∀ k, t3.ownBlock = some k → wr.heap.size ≤ k ∧ k < u3.heap.size := fun k hk => ⟨by have := own_ge ht3 k hk; omega, own_lt ht3 k hk⟩
      obtain ⟨ta3, tl3, tc3, rfl⟩ := own_slice ht3
      clear f2 d02 d12 d22 d32 d42 ht3 hb3 HT1_2 HT2_2
      go_wp2_with fail
      refine ((unhide HIT) _ lo _ qt (by omega) (owns_below (unhide KT1) (unhide HW3)) ((unhide KT2).below (unhide HW3)) hqt).mono ?_
      rintro e u4 ⟨t4, rfl, ht4, hb4⟩
      have f4 := cell_later hb4 f3
      have d04 := cell_later hb4 d03
      have d14 := cell_later hb4 d13
      have d24 := cell_later hb4 d23
      have d34 := cell_later hb4 d33
      have d44 := cell_later hb4 d43
      have HW4 := hide (show Below wr.heap.size wr u4 from (unhide HW3).trans (hb4.mono (unhide HW3).size))
      have hs4 := hb4.size
      have HT4_4 := hide ht4
      have HT1_4 := hide (owns_below (unhide HT1_3) hb4)
      have HT2_4 := hide (owns_below (unhide HT2_3) hb4)
      have HT3_4 := hide (owns_below (unhide HT3_3) hb4)
      have hr4 : ∀ k, t4.ownBlock = some k → wr.heap.size ≤ k ∧ k < u4.heap.size := fun k hk => ⟨by have := own_ge ht4 k hk; omega, own_lt ht4 k hk⟩
      obtain ⟨ta4, tl4, tc4, rfl⟩ := own_slice ht4
      clear f3 d03 d13 d23 d33 d43 ht4 hb4 HT1_3 HT2_3 HT3_3
      go_wp2_with fail
      refine ((unhide HIE) _ lo _ qe (by omega) (owns_below (unhide KE1) (unhide HW4)) ((unhide KE2).below (unhide HW4)) hqe).mono ?_
      rintro e u5 ⟨t5, rfl, ht5, hb5⟩
      have f5 := cell_later hb5 f4
      have d05 := cell_later hb5 d04
      have d15 := cell_later hb5 d14
      have d25 := cell_later hb5 d24
      have d35 := cell_later hb5 d34
      have d45 := cell_later hb5 d44
      have HW5 := hide (show Below wr.heap.size wr u5 from (unhide HW4).trans (hb5.mono (unhide HW4).size))
      have hs5 := hb5.size
      have HT5_5 := hide ht5
      have HT1_5 := hide (owns_below (unhide HT1_4) hb5)
      have HT2_5 := hide (owns_below (unhide HT2_4) hb5)
      have HT3_5 := hide (owns_below (unhide HT3_4) hb5)
      have HT4_5 := hide (owns_below (unhide HT4_4) hb5)
      have hr5 : ∀ k, t5.ownBlock = some k → wr.heap.size ≤ k ∧ k < u5.heap.size := fun k hk => ⟨by have := own_ge ht5 k hk; omega, own_lt ht5 k hk⟩
      obtain ⟨ta5, tl5, tc5, rfl⟩ := own_slice ht5
      clear f4 d04 d14 d24 d34 d44 ht5 hb5 HT1_4 HT2_4 HT3_4 HT4_4
      have HL0 := hide (owns_below (unhide HO) (unhide HW5))
      have hq0 : ∀ k, (Value.slice la0 ll0 lc0).ownBlock = some k → k < wr.heap.size ∨ u5.heap.size ≤ k := fun k hk => Or.inl (hrow k hk)
      have HY0 := hide ((unhide HB).trans ((unhide HW5).mono hzr))
      have HS0 := hide ((unhide HNX).below (unhide HW5))
      have hx1 : ∀ k, (Value.slice ta1 tl1 tc1).ownBlock = some k → wr.heap.size ≤ k ∧ k < u5.heap.size := fun k hk => ⟨(hr1 k hk).1, by have := (hr1 k hk).2; omega⟩
      have hx2 : ∀ k, (Value.slice ta2 tl2 tc2).ownBlock = some k → wr.heap.size ≤ k ∧ k < u5.heap.size := fun k hk => ⟨(hr2 k hk).1, by have := (hr2 k hk).2; omega⟩
      have hx3 : ∀ k, (Value.slice ta3 tl3 tc3).ownBlock = some k → wr.heap.size ≤ k ∧ k < u5.heap.size := fun k hk => ⟨(hr3 k hk).1, by have := (hr3 k hk).2; omega⟩
      have hx4 : ∀ k, (Value.slice ta4 tl4 tc4).ownBlock = some k → wr.heap.size ≤ k ∧ k < u5.heap.size := fun k hk => ⟨(hr4 k hk).1, by have := (hr4 k hk).2; omega⟩
      have hx5 : ∀ k, (Value.slice ta5 tl5 tc5).ownBlock = some k → wr.heap.size ≤ k ∧ k < u5.heap.size := fun k hk => ⟨(hr5 k hk).1, by have := (hr5 k hk).2; omega⟩
      clear f5 d05 d15 d25 d35 d45
      go_wp2_with (at_builtin; go_must (refine wpList_append_slice rfl _ _ 45 rfl w.heap.size 56 i0 _ 3 40 Tryz.underlying45 hi hz0 hz1 hz2 rfl (by decide) (.slice la0 ll0 lc0) _ _ rfl (unhide HL0) (.slice ta1 tl1 tc1) _ _ _ rfl (unhide HT1_5) (by first | exact toksCells_one _ | (intro y hy; cases hy)) (by unfold maxLen; omega) (by omega) (by omega) ?_))
      intro v1 x1 hown1 hgrow1 hat1
      have hzx1 := hgrow1.size
      have HL1 := hide hown1
      have HY1 := hide ((unhide HY0).grown hgrow1 (by omega) (own_ge (unhide HL0)))
      have HS1 := hide ((unhide HS0).far (unhide HL0) (by decide) (by decide) (by decide) hgrow1)
      have hq1 := row_next hq0 hat1 (by omega)
      have HT2_6 := hide (owns_apart (unhide HT2_5) hgrow1 hx2 hq0)
      have HT3_6 := hide (owns_apart (unhide HT3_5) hgrow1 hx3 hq0)
      have HT4_6 := hide (owns_apart (unhide HT4_5) hgrow1 hx4 hq0)
      have HT5_6 := hide (owns_apart (unhide HT5_5) hgrow1 hx5 hq0)
      obtain ⟨la1, ll1, lc1, rfl⟩ := own_slice hown1
      clear hown1 hgrow1 hat1 HL0 HS0 HY0 HT1_5 HT2_5 HT3_5 HT4_5 HT5_5
      go_wp2_with (at_builtin; go_must (refine wpList_append_slice rfl _ _ 45 rfl w.heap.size 56 i0 _ 3 40 Tryz.underlying45 hi hz0 hz1 hz2 rfl (by decide) (.slice la1 ll1 lc1) _ _ rfl (unhide HL1) (.slice ta2 tl2 tc2) _ _ _ rfl (unhide HT2_6) (by first | exact toksCells_one _ | (intro y hy; cases hy)) (by unfold maxLen; omega) (by omega) (by omega) ?_))
      intro v2 x2 hown2 hgrow2 hat2
      have hzx2 := hgrow2.size
      have HL2 := hide hown2
      have HY2 := hide ((unhide HY1).grown hgrow2 (by omega) (own_ge (unhide HL1)))
      have HS2 := hide ((unhide HS1).far (unhide HL1) (by decide) (by decide) (by decide) hgrow2)
      have hq2 := row_next hq1 hat2 (by omega)
      have HT3_7 := hide (owns_apart (unhide HT3_6) hgrow2 hx3 hq1)
      have HT4_7 := hide (owns_apart (unhide HT4_6) hgrow2 hx4 hq1)
      have HT5_7 := hide (owns_apart (unhide HT5_6) hgrow2 hx5 hq1)
      obtain ⟨la2, ll2, lc2, rfl⟩ := own_slice hown2
      clear hown2 hgrow2 hat2 HL1 HS1 HY1 HT2_6 HT3_6 HT4_6 HT5_6
      go_wp2_with (at_builtin; go_must (refine wpList_append_slice rfl _ _ 45 rfl w.heap.size 56 i0 _ 3 40 Tryz.underlying45 hi hz0 hz1 hz2 rfl (by decide) (.slice la2 ll2 lc2) _ _ rfl (unhide HL2) (.slice ta3 tl3 tc3) _ _ _ rfl (unhide HT3_7) (by first | exact toksCells_one _ | (intro y hy; cases hy)) (by unfold maxLen; omega) (by omega) (by omega) ?_))
      intro v3 x3 hown3 hgrow3 hat3
      have hzx3 := hgrow3.size
      have HL3 := hide hown3
      have HY3 := hide ((unhide HY2).grown hgrow3 (by omega) (own_ge (unhide HL2)))
      have HS3 := hide ((unhide HS2).far (unhide HL2) (by decide) (by decide) (by decide) hgrow3)
      have hq3 := row_next hq2 hat3 (by omega)
      have HT4_8 := hide (owns_apart (unhide HT4_7) hgrow3 hx4 hq2)
      have HT5_8 := hide (owns_apart (unhide HT5_7) hgrow3 hx5 hq2)
      obtain ⟨la3, ll3, lc3, rfl⟩ := own_slice hown3
      clear hown3 hgrow3 hat3 HL2 HS2 HY2 HT3_7 HT4_7 HT5_7
      go_wp2_with (at_builtin; go_must (refine wpList_append_slice rfl _ _ 45 rfl w.heap.size 56 i0 _ 3 40 Tryz.underlying45 hi hz0 hz1 hz2 rfl (by decide) (.slice la3 ll3 lc3) _ _ rfl (unhide HL3) (.slice ta4 tl4 tc4) _ _ _ rfl (unhide HT4_8) (by first | exact toksCells_one _ | (intro y hy; cases hy)) (by unfold maxLen; omega) (by omega) (by omega) ?_))
      intro v4 x4 hown4 hgrow4 hat4
      have hzx4 := hgrow4.size
      have HL4 := hide hown4
      have HY4 := hide ((unhide HY3).grown hgrow4 (by omega) (own_ge (unhide HL3)))
      have HS4 := hide ((unhide HS3).far (unhide HL3) (by decide) (by decide) (by decide) hgrow4)
      have hq4 := row_next hq3 hat4 (by omega)
      have HT5_9 := hide (owns_apart (unhide HT5_8) hgrow4 hx5 hq3)
      obtain ⟨la4, ll4, lc4, rfl⟩ := own_slice hown4
      clear hown4 hgrow4 hat4 HL3 HS3 HY3 HT4_8 HT5_8
      go_wp2_with (at_builtin; go_must (refine wpList_append_slice rfl _ _ 45 rfl w.heap.size 56 i0 _ 3 40 Tryz.underlying45 hi hz0 hz1 hz2 rfl (by decide) (.slice la4 ll4 lc4) _ _ rfl (unhide HL4) (.slice ta5 tl5 tc5) _ _ _ rfl (unhide HT5_9) (by first | exact toksCells_one _ | (intro y hy; cases hy)) (by unfold maxLen; omega) (by omega) (by omega) ?_))
      intro v5 x5 hown5 hgrow5 hat5
      have hzx5 := hgrow5.size
      have HL5 := hide hown5
      have HY5 := hide ((unhide HY4).grown hgrow5 (by omega) (own_ge (unhide HL4)))
      have HS5 := hide ((unhide HS4).far (unhide HL4) (by decide) (by decide) (by decide) hgrow5)
      have hq5 := row_next hq4 hat5 (by omega)
      obtain ⟨la5, ll5, lc5, rfl⟩ := own_slice hown5
      clear hown5 hgrow5 hat5 HL4 HS4 HY4 HT5_9
      have HR5 := hide (show InRel w b lo ps (.slice la5 ll5 lc5) (.int .i64 ((k : Int) + 1)) x5 from
        ⟨k + 1, nx, acc ++ ((labNames la ++ insideL bt) ++ insideL be), by omega, by go_num, by rw [hqs]; exact unhide HS5, unhide HSN, unhide HIN, by rw [List.append_assoc]; exact unhide HA, by
          have := unhide HL5
          simp only [labNames, toksCells_app, List.length_append, List.append_assoc, Nat.add_assoc] at this ⊢
          first | exact this | simpa [toksCells] using this, unhide HY5⟩)
      go_wp2
      go_roundw
      case rel => exact unhide HR5
      case measure => simp [intOf]; omega

theorem innerI_all : ∀ b : PB, SLenAll b → InnerI b
  | .nil, _ => trivial
  | .node _ _ _ .nil n, h => innerI_all n h
  | .node _ _ _ (.node _ _ _ t e) n, h => ⟨inside_step t (innerI_all t h.1) (slen_of h.1), inside_step e (innerI_all e h.2.1) (slen_of h.2.1), innerI_all n h.2.2.2.2⟩
theorem inside_all (b : PB) (h : SLenAll b) : InsideSaid b := inside_step b (innerI_all b h) (slen_of h)

end Go.Proofs.YtpmcnonmkghokaaGreat
namespace Go.Proofs.YtpmcnonmkghokaaGreat
open Go.RowKit

theorem RulesIs.app {lo : Nat} {w : World} : ∀ {rs ss : List PRule} {xs ys : List Value}, RulesIs lo w rs xs → RulesIs lo w ss ys → RulesIs lo w (rs ++ ss) (xs ++ ys)
  | [], ss, xs, ys, h, k => by
    have : xs = [] := h
    subst this
    exact k
  | r :: rs, ss, xs, ys, ⟨a, b, c, q, zs, e, k1, k2, k3, k4, k5⟩, k => ⟨a, b, c, q, zs ++ ys, by rw [e]; simp, k1, k2, k3, k4, RulesIs.app k5 k⟩
theorem RulesIs.one {lo : Nat} {w : World} : ∀ {rs : List PRule} {xs : List Value}, RulesIs lo w rs xs → ∀ y ∈ xs, y.oneCell' = true
  | [], xs, h => by
    have : xs = [] := h
    subst this
    intro y hy; cases hy
  | r :: rs, xs, ⟨vp, vg, vb, q, zs, e, k1, k2, k3, k4, k5⟩ => by
    intro y hy
    rw [e] at hy
    rcases List.mem_append.mp hy with h | h
    · exact tokCells_one _ y h
    · rcases List.mem_cons.mp h with rfl | h
      · obtain ⟨_, _, _, rfl⟩ := own_slice k1; rfl
      · rcases List.mem_cons.mp h with rfl | h
        · cases hg : r.guard with
          | nil => rw [hg] at k2; have : y = .pointer none := k2; subst this; rfl
          | node i j x a b => rw [hg] at k2; obtain ⟨k, pa, pb, rfl, _⟩ := k2; rfl
        · rcases List.mem_cons.mp h with rfl | h
          · obtain ⟨_, _, _, rfl⟩ := own_slice k3; rfl
          · exact RulesIs.one k5 y h
theorem RulesIs.below {lo : Nat} {w w' : World} {rs : List PRule} {xs : List Value} (h : RulesIs lo w rs xs) (hb : Below w.heap.size w w') : RulesIs lo w' rs xs := h.stay fun k _ hk => hb.block k hk

set_option maxRecDepth 100000 in
set_option maxHeartbeats 1000000 in
theorem rules_any (w : World) (T : Nat) (t : PTree) (h : TreeIs w T t) (hr : t.rules.length ≤ 801) (hn : t.nevers.length ≤ 801) :
    Calls Tryz.prog 18 #[.pointer (some ⟨T, 0, none⟩)] w fun e w' => ∃ v ys, e = .returned v ∧ w'.ownsRow w.heap.size 61 6 v (t.rules ++ t.nevers).length ys ∧
      RulesIs (T + 1) w' (t.rules ++ t.nevers) ys ∧ Below w.heap.size w w' := by
  obtain ⟨i0, hi, hz0, hz1, hz2⟩ := info_parts Tryz.infoRule
  obtain ⟨x0, x1, x2, x3, x4, y1, y3, y4, hT, _, _, _, ⟨h3, h3'⟩, ⟨h4, h4'⟩⟩ := h
  obtain ⟨_, _, _, q3, q4, _⟩ := row5 hT
  have H3 := hide h3
  have H3' := hide h3'
  have H4 := hide h4
  have H4' := hide h4'
  obtain ⟨a3, l3, c3, rfl⟩ := own_slice h3
  obtain ⟨a4, l4, c4, rfl⟩ := own_slice h4
  clear h3 h3' h4 h4' hT
  go_enter Tryz.func18, Tryz.ntmps18
  go_wp2_with (at_builtin; refine wpList_append_slice rfl _ _ 52 rfl w.heap.size 61 i0 _ 6 96 Tryz.underlying52 hi hz0 hz1 hz2 rfl (by decide) (.slice none 0 0) 0 [] rfl (World.ownsRow_nil _ _ _ _) (.slice a3 l3 c3) _ _ _ rfl (unhide H3) (unhide H3').one (by unfold maxLen; omega) (by omega) (Nat.le_refl _) ?_)
  intro v1 w1 hown1 hgrow1 _
  have hb1 : Below w.heap.size w w1 := (Below.refl w.heap.size w).grown hgrow1 (by omega) (fun k hk => by cases hk)
  have q4' := cell_later hb1 q4
  have HB1 := hide hb1
  have HV1 := hide hown1
  have hs1 := hb1.size
  have H4w := hide (owns_below (unhide H4) hb1)
  obtain ⟨b1, m1, d1, rfl⟩ := own_slice hown1
  clear hown1 hgrow1 hb1 q3 q4
  go_wp2_with (at_builtin; refine wpList_append_slice rfl _ _ 52 rfl w.heap.size 61 i0 _ 6 96 Tryz.underlying52 hi hz0 hz1 hz2 rfl (by decide) (.slice b1 m1 d1) _ _ rfl (unhide HV1) (.slice a4 l4 c4) _ _ _ rfl (unhide H4w) (unhide H4').one (by unfold maxLen; omega) (by omega) (by omega) ?_)
  intro v2 w2 hown2 hgrow2 _
  have HB2 := hide ((unhide HB1).grown hgrow2 (by omega) (own_ge (unhide HV1)))
  have HV2 := hide hown2
  clear hown2 hgrow2 q4'
  go_wp2
  go_ret
  refine ⟨_, y3 ++ y4, rfl, ?_, ((unhide H3').app (unhide H4')).below (unhide HB2), unhide HB2⟩
  have := unhide HV2
  simpa using this

end Go.Proofs.YtpmcnonmkghokaaGreat
namespace Go.Proofs.YtpmcnonmkghokaaGreat
open Go.RowKit

def setN (s : PSet) : List Tok := [s.name]
def kindN (k : PKind) : List Tok := k.name :: k.members
def varN (v : PVar) : List Tok := [v.name]
def ruleN (r : PRule) : List Tok := [r.name]
def glob1 (t : PTree) : List Tok := t.sets.flatMap setN
def glob2 (t : PTree) : List Tok := glob1 t ++ t.kinds.flatMap kindN
def glob3 (t : PTree) : List Tok := glob2 t ++ t.vars.flatMap varN
def globalsL (t : PTree) : List Tok := glob3 t ++ (t.rules ++ t.nevers).flatMap ruleN

/-- A list under way: what stood before, and the names of the first k items. -/
def GRel {α : Type} (w : World) (pre : List Tok) (f : α → List Tok) (items : List α) (l i : Value) (wr : World) : Prop :=
  ∃ k : Nat, k ≤ items.length ∧ i = .int .i64 k ∧ wr.ownsRow w.heap.size 56 3 l (pre ++ (items.take k).flatMap f).length (toksCells (pre ++ (items.take k).flatMap f)) ∧ Below w.heap.size w wr

theorem take_more {α : Type} (f : α → List Tok) (items : List α) (k : Nat) (h : k < items.length) : (items.take (k + 1)).flatMap f = (items.take k).flatMap f ++ f items[k] := by
  rw [List.take_succ_eq_append_getElem h, List.flatMap_append]; simp only [List.flatMap_cons, List.flatMap_nil, List.append_nil]
theorem take_len {α : Type} (f : α → List Tok) (items : List α) (k : Nat) (h : k < items.length) : ((items.take k).flatMap f).length + (f items[k]).length ≤ (items.flatMap f).length := by
  have h1 := congrArg List.length (take_more f items k h)
  have h2 : (items.flatMap f) = (items.take (k + 1)).flatMap f ++ (items.drop (k + 1)).flatMap f := by
    rw [← List.flatMap_append, List.take_append_drop]
  rw [h2]
  simp only [List.length_append] at h1 ⊢
  omega
theorem GRel.next {α : Type} {w wr : World} {pre : List Tok} {f : α → List Tok} {items : List α} {l : Value} {n : Nat} {k : Nat} (h : k < items.length)
    (ho : wr.ownsRow w.heap.size 56 3 l n (toksCells (pre ++ (items.take k).flatMap f) ++ toksCells (f items[k]))) (hn : n = (pre ++ (items.take k).flatMap f).length + (f items[k]).length) (hb : Below w.heap.size w wr) :
    GRel w pre f items l (.int .i64 ((k : Int) + 1)) wr := by
  refine ⟨k + 1, h, by go_num, ?_, hb⟩
  rw [take_more f items k h, ← List.append_assoc, toksCells_app, List.length_append, ← hn]
  exact ho
theorem GRel.done {α : Type} {w wr : World} {pre : List Tok} {f : α → List Tok} {items : List α} {l : Value} {k : Nat} (h : ¬ k < items.length)
    (ho : wr.ownsRow w.heap.size 56 3 l (pre ++ (items.take k).flatMap f).length (toksCells (pre ++ (items.take k).flatMap f))) : wr.ownsRow w.heap.size 56 3 l (pre ++ items.flatMap f).length (toksCells (pre ++ items.flatMap f)) := by
  rw [List.take_of_length_le (by omega)] at ho; exact ho
theorem GRel.start {α : Type} {w wr : World} {pre : List Tok} {f : α → List Tok} {items : List α} {l : Value} (ho : wr.ownsRow w.heap.size 56 3 l pre.length (toksCells pre)) (hb : Below w.heap.size w wr) : GRel w pre f items l (.int .i64 0) wr :=
  ⟨0, Nat.zero_le _, rfl, by simpa using ho, hb⟩

set_option maxRecDepth 100000 in
set_option maxHeartbeats 4000000 in
theorem globals_any (w : World) (T : Nat) (t : PTree) (h : TreeIs w T t) (hs : t.sets.length ≤ 801) (hk : t.kinds.length ≤ 801) (hv : t.vars.length ≤ 801) (hr : t.rules.length ≤ 801) (hn : t.nevers.length ≤ 801) (hlen : (globalsL t).length ≤ 90000) :
    Calls Tryz.prog 41 #[.pointer (some ⟨T, 0, none⟩)] w fun e w' => ∃ v, e = .returned v ∧ w'.ownsRow w.heap.size 56 3 v (globalsL t).length (toksCells (globalsL t)) ∧ Below w.heap.size w w' := by
  obtain ⟨i0, hi, hz0, hz1, hz2⟩ := info_parts Tryz.infoTok
  have HT := hide h
  obtain ⟨x0, x1, x2, x3, x4, y1, y3, y4, hT, h0, ⟨h1, h1'⟩, h2, _⟩ := h
  obtain ⟨q0, q1, q2, q3, q4, _⟩ := row5 hT
  obtain ⟨a0, cap0, rfl, hview0⟩ := own_view h0
  obtain ⟨a1, cap1, rfl, hview1⟩ := own_view h1
  obtain ⟨a2, cap2, rfl, hview2⟩ := own_view h2
  have HV0 := hide hview0
  have HV1 := hide hview1
  have HV2 := hide hview2
  have HK := hide h1'
  have hL1 : (glob1 t).length + (t.kinds.flatMap kindN).length + (t.vars.flatMap varN).length + ((t.rules ++ t.nevers).flatMap ruleN).length ≤ 90000 := by
    simp only [globalsL, glob3, glob2, List.length_append] at hlen ⊢; omega
  have hL2 : (glob2 t).length + (t.vars.flatMap varN).length + ((t.rules ++ t.nevers).flatMap ruleN).length ≤ 90000 := by
    simp only [globalsL, glob3, List.length_append] at hlen ⊢; omega
  have hL3 : (glob3 t).length + ((t.rules ++ t.nevers).flatMap ruleN).length ≤ 90000 := by
    simp only [globalsL, List.length_append] at hlen ⊢; omega
  have HR0 := hide (GRel.start (w := w) (f := setN) (items := t.sets) (World.ownsRow_nil w w.heap.size 56 3) (Below.refl _ _) : GRel w [] setN t.sets (.slice none 0 0) (.int .i64 0) w)
  have hTl := lt_of_block hT
  clear h0 h1 h1' h2 hview0 hview1 hview2 hT hlen
  go_enter Tryz.func41, Tryz.ntmps41
  go_wp2_with fail
  go_loopw [3, 4] (fun l i wr => GRel w ([] : List Tok) setN t.sets l i wr) (fun _ i _ => t.sets.length - (intOf i).toNat)
  case atStart => exact unhide HR0
  case round =>
    obtain ⟨k, hkl, rfl, hown, hbr⟩ := hrel
    have HO := hide hown
    have HB := hide hbr
    have hzr := hbr.size
    have p0 := cell_later hbr q0
    obtain ⟨la, ll, lc, rfl⟩ := own_slice hown
    by_cases hlt : k < t.sets.length
    · obtain ⟨g, rfl, hc⟩ := unhide HV0 k hlt
      have hle := take_len setN t.sets k hlt
      have e0 : wr.cell? ⟨g, k * 6, none⟩ = some (.string (t.sets[k]).name.kind) := cell_later hbr ((hc _ (by omega)).trans (flat_at setCells1 6 (fun _ => rfl) t.sets k 0 hlt (by omega)))
      have e1 : wr.cell? ⟨g, k * 6 + 1, none⟩ = some (.string (t.sets[k]).name.text) := cell_later hbr ((hc _ (by omega)).trans (flat_at setCells1 6 (fun _ => rfl) t.sets k 1 hlt (by omega)))
      have e2 : wr.cell? ⟨g, k * 6 + 2, none⟩ = some (.int .i64 (t.sets[k]).name.at_) := cell_later hbr ((hc _ (by omega)).trans (flat_at setCells1 6 (fun _ => rfl) t.sets k 2 hlt (by omega)))
      have hle' : (([] : List Tok) ++ (t.sets.take k).flatMap setN).length + 1 ≤ 90000 := by
        have : (setN t.sets[k]).length = 1 := rfl
        simp only [List.length_append, List.length_nil]; unfold glob1 at hL1; omega
      have hnm : setN t.sets[k] = [(t.sets[k]).name] := rfl
      have HNX := hide (fun (l' : Value) (w' : World) (n : Nat) ho hn hb => GRel.next (w := w) (wr := w') (pre := ([] : List Tok)) (f := setN) (items := t.sets) (l := l') (n := n) hlt ho hn hb)
      rw [hnm] at HNX
      generalize (t.sets[k]).name = x at e0 e1 e2 HNX
      generalize ([] : List Tok) ++ (t.sets.take k).flatMap setN = acc at HO HNX hle'
      clear hc hown hbr hle hnm
      go_wp2_with (at_builtin; refine wpList_append_own_at _ rfl _ _ 45 rfl w.heap.size 56 i0 _ 3 40 Tryz.underlying45 hi hz0 hz1 hz2 rfl (by decide) (.slice la ll lc) _ _ rfl ((unhide HO).alloc _) ⟨wr.heap.size, 0, none⟩ 1 1 (tokCells x) rfl rfl (cells_new wr _ (tokCells x) _ rfl) (tokCells_one _) (by unfold maxLen; omega) (by omega) (by simp; omega) ?_)
      intro v1 w1 hown1 hgrow1 _ _
      have hb1 : Below w.heap.size w w1 := ((unhide HB).alloc (by omega) _).grown hgrow1 (by simp; omega) (own_ge (unhide HO))
      have HR1 := hide (unhide HNX v1 w1 _ (by simpa [toksCells] using hown1) (by simp) hb1)
      obtain ⟨b1, m1, d1, rfl⟩ := own_slice hown1
      clear hown1 hgrow1 hb1 e0 e1 e2 p0
      go_wp2
      go_roundw
      case rel => exact unhide HR1
      case measure => simp [intOf]; omega
    · have HF := hide (show wr.ownsRow w.heap.size 56 3 (.slice la ll lc) (glob1 t).length (toksCells (glob1 t)) from GRel.done hlt hown)
      have HR0 := hide (GRel.start (f := kindN) (items := t.kinds) (unhide HF) hbr)
      clear hown HO HF HB hbr
      go_wp2_with fail
      go_loopw [3, 5] (fun l i wr => GRel w (glob1 t) kindN t.kinds l i wr) (fun _ i _ => t.kinds.length - (intOf i).toNat)
      case atStart => exact unhide HR0
      case round =>
        obtain ⟨k, hkl, rfl, hown, hbr⟩ := hrel
        have HO := hide hown
        have HB := hide hbr
        have hzr := hbr.size
        have p0 := cell_later hbr q1
        obtain ⟨la, ll, lc, rfl⟩ := own_slice hown
        by_cases hlt : k < t.kinds.length
        · obtain ⟨g, rfl, hc⟩ := unhide HV1 k hlt
          obtain ⟨vm, f0, f1, f2, f3, hm⟩ := kinds_at k hlt (unhide HK)
          have hle := take_len kindN t.kinds k hlt
          have e0 := cell_later hbr ((hc (k * 4) (by omega)).trans f0)
          have e1 := cell_later hbr ((hc (k * 4 + 1) (by omega)).trans f1)
          have e2 := cell_later hbr ((hc (k * 4 + 2) (by omega)).trans f2)
          have E3 := hide ((hc (k * 4 + 3) (by omega)).trans f3)
          have hle' : (glob1 t ++ (t.kinds.take k).flatMap kindN).length + (1 + (t.kinds[k]).members.length) ≤ 90000 := by
            have : (kindN t.kinds[k]).length = (t.kinds[k]).members.length + 1 := rfl
            rw [List.length_append]; omega
          have hnm : kindN t.kinds[k] = (t.kinds[k]).name :: (t.kinds[k]).members := rfl
          have HNX := hide (fun (l' : Value) (w' : World) (n : Nat) ho hn hb => GRel.next (w := w) (wr := w') (pre := glob1 t) (f := kindN) (items := t.kinds) (l := l') (n := n) hlt ho hn hb)
          rw [hnm] at HNX
          have HM := hide hm
          generalize (t.kinds[k]).name = x at e0 e1 e2 HNX
          generalize (t.kinds[k]).members = ms at HM HNX hle'
          generalize glob1 t ++ (t.kinds.take k).flatMap kindN = acc at HO HNX hle'
          obtain ⟨ma, ml, mc, rfl⟩ := own_slice hm
          clear hc hown hbr hle hnm f0 f1 f2 f3 hm
          go_wp2_with (at_builtin; refine wpList_append_own_at _ rfl _ _ 45 rfl w.heap.size 56 i0 _ 3 40 Tryz.underlying45 hi hz0 hz1 hz2 rfl (by decide) (.slice la ll lc) _ _ rfl ((unhide HO).alloc _) ⟨wr.heap.size, 0, none⟩ 1 1 (tokCells x) rfl rfl (cells_new wr _ (tokCells x) _ rfl) (tokCells_one _) (by unfold maxLen; omega) (by omega) (by simp; omega) ?_)
          intro v1 w1 hown1 hgrow1 _ _
          have hb1 : Below w.heap.size w w1 := ((unhide HB).alloc (by omega) _).grown hgrow1 (by simp; omega) (own_ge (unhide HO))
          have HO1 := hide hown1
          have HB1 := hide hb1
          have hs1 := hb1.size
          have p1 := cell_later hb1 q1
          have e3 := cell_later hb1 (unhide E3)
          have HM1 := hide (owns_below (unhide HM) hb1)
          obtain ⟨b1, m1, d1, rfl⟩ := own_slice hown1
          clear hown1 hgrow1 hb1 e0 e1 e2 p0
          go_wp2_with (at_builtin; refine wpList_append_slice rfl _ _ 45 rfl w.heap.size 56 i0 _ 3 40 Tryz.underlying45 hi hz0 hz1 hz2 rfl (by decide) (.slice b1 m1 d1) _ _ rfl (unhide HO1) (.slice ma ml mc) _ _ _ rfl (unhide HM1) (toksCells_one _) (by unfold maxLen; omega) (by omega) (by omega) ?_)
          intro v2 w2 hown2 hgrow2 _
          have hb2 : Below w.heap.size w w2 := (unhide HB1).grown hgrow2 (by omega) (own_ge (unhide HO1))
          have HR1 := hide (unhide HNX v2 w2 _ (by simpa [toksCells] using hown2) (by simp; omega) hb2)
          obtain ⟨b2, m2, d2, rfl⟩ := own_slice hown2
          clear hown2 hgrow2 hb2 p1 e3
          go_wp2
          go_roundw
          case rel => exact unhide HR1
          case measure => simp [intOf]; omega
        · have HF := hide (show wr.ownsRow w.heap.size 56 3 (.slice la ll lc) (glob2 t).length (toksCells (glob2 t)) from GRel.done hlt hown)
          have HR0 := hide (GRel.start (f := varN) (items := t.vars) (unhide HF) hbr)
          clear hown HO HF HB hbr
          go_wp2_with fail
          go_loopw [3, 6] (fun l i wr => GRel w (glob2 t) varN t.vars l i wr) (fun _ i _ => t.vars.length - (intOf i).toNat)
          case atStart => exact unhide HR0
          case round =>
            obtain ⟨k, hkl, rfl, hown, hbr⟩ := hrel
            have HO := hide hown
            have HB := hide hbr
            have hzr := hbr.size
            have p0 := cell_later hbr q2
            obtain ⟨la, ll, lc, rfl⟩ := own_slice hown
            by_cases hlt : k < t.vars.length
            · obtain ⟨g, rfl, hc⟩ := unhide HV2 k hlt
              have hle := take_len varN t.vars k hlt
              have e0 : wr.cell? ⟨g, k * 12, none⟩ = some (.string (t.vars[k]).name.kind) := cell_later hbr ((hc _ (by omega)).trans (flat_at varCells 12 (fun _ => rfl) t.vars k 0 hlt (by omega)))
              have e1 : wr.cell? ⟨g, k * 12 + 1, none⟩ = some (.string (t.vars[k]).name.text) := cell_later hbr ((hc _ (by omega)).trans (flat_at varCells 12 (fun _ => rfl) t.vars k 1 hlt (by omega)))
              have e2 : wr.cell? ⟨g, k * 12 + 2, none⟩ = some (.int .i64 (t.vars[k]).name.at_) := cell_later hbr ((hc _ (by omega)).trans (flat_at varCells 12 (fun _ => rfl) t.vars k 2 hlt (by omega)))
              have hle' : ((glob2 t) ++ (t.vars.take k).flatMap varN).length + 1 ≤ 90000 := by
                have : (varN t.vars[k]).length = 1 := rfl
                simp only [List.length_append, List.length_nil]; omega
              have hnm : varN t.vars[k] = [(t.vars[k]).name] := rfl
              have HNX := hide (fun (l' : Value) (w' : World) (n : Nat) ho hn hb => GRel.next (w := w) (wr := w') (pre := (glob2 t)) (f := varN) (items := t.vars) (l := l') (n := n) hlt ho hn hb)
              rw [hnm] at HNX
              generalize (t.vars[k]).name = x at e0 e1 e2 HNX
              generalize (glob2 t) ++ (t.vars.take k).flatMap varN = acc at HO HNX hle'
              clear hc hown hbr hle hnm
              go_wp2_with (at_builtin; refine wpList_append_own_at _ rfl _ _ 45 rfl w.heap.size 56 i0 _ 3 40 Tryz.underlying45 hi hz0 hz1 hz2 rfl (by decide) (.slice la ll lc) _ _ rfl ((unhide HO).alloc _) ⟨wr.heap.size, 0, none⟩ 1 1 (tokCells x) rfl rfl (cells_new wr _ (tokCells x) _ rfl) (tokCells_one _) (by unfold maxLen; omega) (by omega) (by simp; omega) ?_)
              intro v1 w1 hown1 hgrow1 _ _
              have hb1 : Below w.heap.size w w1 := ((unhide HB).alloc (by omega) _).grown hgrow1 (by simp; omega) (own_ge (unhide HO))
              have HR1 := hide (unhide HNX v1 w1 _ (by simpa [toksCells] using hown1) (by simp) hb1)
              obtain ⟨b1, m1, d1, rfl⟩ := own_slice hown1
              clear hown1 hgrow1 hb1 e0 e1 e2 p0
              go_wp2
              go_roundw
              case rel => exact unhide HR1
              case measure => simp [intOf]; omega
            · have HF := hide (show wr.ownsRow w.heap.size 56 3 (.slice la ll lc) (glob3 t).length (toksCells (glob3 t)) from GRel.done hlt hown)
              have hrow0 := own_lt hown
              have hge0 := own_ge hown
              clear hown HO HR0
              go_wp2_with fail
              refine (rules_any _ T t ((unhide HT).below hbr) hr hn).mono ?_
              rintro e w4 ⟨rv, rs, rfl, hrow4, hri4, hb4⟩
              have HRI := hide hri4
              have hs4 := hb4.size
              have hRB : ∀ k, rv.ownBlock = some k → wr.heap.size ≤ k ∧ k < w4.heap.size := fun k hk => ⟨own_ge hrow4 k hk, own_lt hrow4 k hk⟩
              have HR0 := hide (show GRel w (glob3 t) ruleN (t.rules ++ t.nevers) (.slice la ll lc) (.int .i64 0) w4 ∧ w4.ownsRow wr.heap.size 61 6 rv (t.rules ++ t.nevers).length rs ∧ (∀ k, (Value.slice la ll lc).ownBlock = some k → k < wr.heap.size ∨ w4.heap.size ≤ k) ∧ w4.heap.size ≤ w4.heap.size from
                ⟨GRel.start (owns_below (unhide HF) hb4) (hbr.trans (hb4.mono hzr)), hrow4, fun k hk => Or.inl (hrow0 k hk), Nat.le_refl _⟩)
              have hA0 := hzr
              generalize hAe : wr.heap.size = A at HR0 hRB hA0
              generalize hBe : w4.heap.size = B at HR0 hRB
              have HBE := hide (Nat.le_of_eq hBe.symm)
              have HGL := hide (show globalsL t = glob3 t ++ (t.rules ++ t.nevers).flatMap ruleN from rfl)
              have hrn : (t.rules ++ t.nevers).length ≤ 1602 := by rw [List.length_append]; omega
              generalize t.rules ++ t.nevers = RN at HR0 HGL HRI hL3 hL2 hL1 hrn
              obtain ⟨ra, rl, rc, rfl⟩ := own_slice hrow4
              clear hrow4 hri4 hb4 hbr HF HB p0 hrow0 hge0 q0 q1 q2 q3 q4 hAe hBe
              go_wp2_with fail
              go_loopw [3, 8] (fun l i wr => GRel w (glob3 t) ruleN RN l i wr ∧ wr.ownsRow A 61 6 (.slice ra rl rc) RN.length rs ∧ (∀ k, l.ownBlock = some k → k < A ∨ B ≤ k) ∧ B ≤ wr.heap.size) (fun _ i _ => RN.length - (intOf i).toNat)
              case atStart => exact ⟨(unhide HR0).1, (unhide HR0).2.1, (unhide HR0).2.2.1, unhide HBE⟩
              case round =>
                obtain ⟨⟨k, hkl, rfl, hown, hbr⟩, hrow, hfar, hBw⟩ := hrel
                have HO := hide hown
                have HB := hide hbr
                have HRW := hide hrow
                have HFAR := hide hfar
                have hzr := hbr.size
                obtain ⟨la, ll, lc, rfl⟩ := own_slice hown
                obtain ⟨ra', rc', hra, hview⟩ := own_view hrow
                cases hra
                by_cases hlt : k < RN.length
                · obtain ⟨g, rfl, hc⟩ := hview k hlt
                  obtain ⟨_, _, _, _, ⟨f0, f1, f2, _⟩, _⟩ := rules_at k hlt (unhide HRI)
                  have hle := take_len ruleN RN k hlt
                  have e0 := (hc (k * 6) (by omega)).trans f0
                  have e1 := (hc (k * 6 + 1) (by omega)).trans f1
                  have e2 := (hc (k * 6 + 2) (by omega)).trans f2
                  have hle' : (glob3 t ++ (RN.take k).flatMap ruleN).length + 1 ≤ 90000 := by
                    have : (ruleN RN[k]).length = 1 := rfl
                    rw [List.length_append]; omega
                  have hnm : ruleN RN[k] = [(RN[k]).name] := rfl
                  have HNX := hide (fun (l' : Value) (w' : World) (n : Nat) ho hn hb => GRel.next (w := w) (wr := w') (pre := glob3 t) (f := ruleN) (items := RN) (l := l') (n := n) hlt ho hn hb)
                  rw [hnm] at HNX
                  generalize (RN[k]).name = x at e0 e1 e2 HNX
                  generalize glob3 t ++ (RN.take k).flatMap ruleN = acc at HO HNX hle'
                  clear hc hown hbr hle hnm hview f0 f1 f2 hrow hfar
                  go_wp2_with (at_builtin; refine wpList_append_own_at _ rfl _ _ 45 rfl w.heap.size 56 i0 _ 3 40 Tryz.underlying45 hi hz0 hz1 hz2 rfl (by decide) (.slice la ll lc) _ _ rfl ((unhide HO).alloc _) ⟨wr.heap.size, 0, none⟩ 1 1 (tokCells x) rfl rfl (cells_new wr _ (tokCells x) _ rfl) (tokCells_one _) (by unfold maxLen; omega) (by omega) (by simp; omega) ?_)
                  intro v1 w1 hown1 hgrow1 _ hat1
                  have hb1 : Below w.heap.size w w1 := ((unhide HB).alloc (by omega) _).grown hgrow1 (by simp; omega) (own_ge (unhide HO))
                  have hs1 := hgrow1.size
                  have HR1 := hide (show GRel w (glob3 t) ruleN RN v1 (.int .i64 ((k : Int) + 1)) w1 ∧ w1.ownsRow A 61 6 (.slice (some ⟨g, 0, none⟩) RN.length rc) RN.length rs ∧ (∀ k, v1.ownBlock = some k → k < A ∨ B ≤ k) ∧ B ≤ w1.heap.size from
                    ⟨unhide HNX v1 w1 _ (by simpa [toksCells] using hown1) (by simp) hb1, owns_apart ((unhide HRW).alloc _) hgrow1 hRB (unhide HFAR), row_next (unhide HFAR) hat1 (by first | omega | (simp; omega)), by simp at hs1; omega⟩)
                  obtain ⟨b1, m1, d1, rfl⟩ := own_slice hown1
                  clear hown1 hgrow1 hb1 e0 e1 e2 hat1
                  go_wp2
                  go_roundw
                  case rel => exact unhide HR1
                  case measure => simp [intOf]; omega
                · have HF := hide (show wr.ownsRow w.heap.size 56 3 (.slice la ll lc) (globalsL t).length (toksCells (globalsL t)) by rw [unhide HGL]; exact GRel.done hlt hown)
                  clear hown hview hrow hfar HO
                  go_wp2
                  go_ret
                  exact ⟨_, rfl, unhide HF, unhide HB⟩

end Go.Proofs.YtpmcnonmkghokaaGreat

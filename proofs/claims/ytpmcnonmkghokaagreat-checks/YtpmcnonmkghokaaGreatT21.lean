/-
  The program's typesFit.
  The program's check.tree, check.Text and orbits.Check: what they answer, plainly.
  What is asked of a tree by the walks, of each tree that was read whole.
  The program's check.Text and orbits.Check.
  The reference's used: the first name that is used and given nowhere where it could be meant. UNDER WAY: the loop over the variables.
-/
import Derived.Test.YtpmcnonmkghokaaGreatT20
import Derived.Test.YtpmcnonmkghokaaGreatT16
import Derived.Test.YtpmcnonmkghokaaGreatT18
set_option linter.unusedVariables false
set_option linter.unusedSimpArgs false
namespace Go.Proofs.YtpmcnonmkghokaaGreat
open Go.RowKit
attribute [local go_sem ↓] Go.wp_at_zero Go.wp_at_succ

/-- What is asked of a model's expressions. -/
structure MdTy (m : MdL) : Prop where
  rules : ∀ r ∈ m.rules, XFull r.guard ∧ isNil r.guard = false ∧ BFull r.body
  nevers : ∀ r ∈ m.nevers, XFull r.guard ∧ isNil r.guard = false

def ARel {α : Type} (W : World) (f : α → Bool) (items : List α) (i : Value) (wr : World) : Prop :=
  ∃ k : Nat, k ≤ items.length ∧ i = .int .i64 k ∧ (items.drop k).all f = items.all f ∧ Below W.heap.size W wr
theorem ARel.start {α : Type} {W wr : World} {f : α → Bool} {items : List α} (hb : Below W.heap.size W wr) : ARel W f items (.int .i64 0) wr := ⟨0, Nat.zero_le _, rfl, rfl, hb⟩
theorem all_step {α : Type} {f : α → Bool} {items : List α} {k : Nat} (hk : k < items.length) (h : (items.drop k).all f = items.all f) : items.all f = (f items[k] && (items.drop (k + 1)).all f) := by
  rw [← h, List.drop_eq_getElem_cons hk, List.all_cons]
theorem all_done {α : Type} {f : α → Bool} {items : List α} {k : Nat} (hk : ¬ k < items.length) (h : (items.drop k).all f = items.all f) : items.all f = true := by
  rw [← h, List.drop_of_length_le (by omega)]; rfl

set_option maxRecDepth 100000 in
set_option maxHeartbeats 8000000 in
theorem typesFit_any (w : World) (lo b : Nat) (tab : Tab) (x0 x1 x2 x3 x4 : Value) (m : MdL) (h : MdIs lo w x0 x1 x2 x3 x4 m) (hM : MapIs w b tab) (htz : TabSz tab) (hok : MdOk m) (hnm : MdNm m) (hty : MdTy m) :
    Calls Tryz.prog 29 #[.agg #[x0, x1, x2, x3, x4], .map (some b)] w fun e w' => e = .returned (.bool (typesT tab m)) ∧ Below w.heap.size w w' := by
  obtain ⟨h0, ⟨c1, h1, k1⟩, h2, ⟨c3, h3, k3⟩, ⟨c4, h4, k4⟩⟩ := h
  obtain ⟨_, _, _, hok3, hok4, _, _⟩ := hok
  obtain ⟨W, hW⟩ : ∃ W, W = w.alloc (.cells #[x0, x1, x2, x3, x4] 33) := ⟨_, rfl⟩
  have hbW : Below w.heap.size w W := by rw [hW]; exact below_alloc1 _ _
  have hsW : W.heap.size = w.heap.size + 1 := by rw [hW]; simp
  have hMd : W.heap[w.heap.size]? = some (.cells #[x0, x1, x2, x3, x4] 33 (0, 0)) := by rw [hW]; exact alloc_new _ _
  have vw : ∀ {e size : Nat} {v : Value} {n : Nat} {xs : List Value}, w.ownsRow lo e size v n xs → ∃ a cap, v = .slice a n cap ∧ ∀ i, i < n → ∃ g, a = some ⟨g, 0, none⟩ ∧ ∀ j, j < n * size → ∀ u, xs[j]? = some u → W.cell? ⟨g, j, none⟩ = some u := by
    intro e size v n xs h
    obtain ⟨a, cap, e1, hv⟩ := own_viewB h
    refine ⟨a, cap, e1, fun i hi => ?_⟩
    obtain ⟨g, e2, _, hg, hc⟩ := hv i hi
    exact ⟨g, e2, fun j hj u hu => (hbW.cell (p := ⟨g, j, none⟩) hg).trans ((hc j hj).trans hu)⟩
  obtain ⟨a0, l0, n0, rfl⟩ := own_slice h0
  obtain ⟨a1, l1, n1, rfl⟩ := own_slice h1
  obtain ⟨a2, l2, n2, rfl⟩ := own_slice h2
  obtain ⟨a3, p3, rfl, hv3⟩ := vw h3
  obtain ⟨a4, p4, rfl, hv4⟩ := vw h4
  have HV3 := hide hv3
  have HV4 := hide hv4
  have HK3 := hide k3
  have HK4 := hide k4
  have HM := hide hM
  have HB := hide hbW
  have HMd := hide hMd
  obtain ⟨m0, m1, m2, m3, m4, _⟩ := row5' hMd
  have HWE := hide hW.symm
  have HR0 := hide (ARel.start (W := W) (wr := W) (f := ruleT tab) (items := m.rules) (Below.refl _ _))
  have HE := hide (show typesT tab m = (m.rules.all (ruleT tab) && m.nevers.all (nevT tab)) from rfl)
  generalize typesT tab m = fin at *
  clear h0 h1 h2 h3 h4 k1 k3 k4 hv3 hv4 hM hbW hMd hW vw
  go_enter Tryz.func29, Tryz.ntmps29
  go_upto_region 1 with fail
  rw [unhide HWE]
  go_wp2_with fail
  go_loopw [6, 7, 14] (fun _ _ i wr => ARel W (ruleT tab) m.rules i wr) (fun _ _ i _ => m.rules.length - (intOf i).toNat)
  case atStart => exact unhide HR0
  case round =>
    obtain ⟨k, hk, rfl, hall, hb⟩ := hrel
    have HBr := hide hb
    have hsz := hb.size
    by_cases hlt : k < m.rules.length
    · obtain ⟨g, rfl, hc⟩ := unhide HV3 k hlt
      obtain ⟨pa, pn, pc, gp, ba, bn, bc, bcs, ⟨f0, f1, f2, f3, f4⟩, hpo, hgx, hbo, hbi⟩ := ru_at k hlt (unhide HK3)
      have e0 := cell_later hb (hc (k * 5) (by omega) _ f0)
      have e1 := cell_later hb (hc (k * 5 + 1) (by omega) _ f1)
      have e2 := cell_later hb (hc (k * 5 + 2) (by omega) _ f2)
      have e3 := cell_later hb (hc (k * 5 + 3) (by omega) _ f3)
      have e4 := cell_later hb (hc (k * 5 + 4) (by omega) _ f4)
      have hst := all_step hlt hall
      obtain ⟨n1', n2', n3', n4', n5', n6'⟩ := hnm.rules _ (List.getElem_mem hlt)
      obtain ⟨y1, y2, y3⟩ := hty.rules _ (List.getElem_mem hlt)
      generalize m.rules[k] = r at e0 e1 e2 e3 e4 hpo hgx hbo hbi n1' n2' n3' n4' n5' n6' y1 y2 y3 hst
      obtain ⟨X, hX⟩ : ∃ X, X = (wr.alloc (.cells #[.string r.name.text, .int .i64 r.name.at_, .slice pa pn pc, .pointer gp, .slice ba bn bc] 138)).alloc (.cells #[.map (some b), .slice pa pn pc] 158) := ⟨_, rfl⟩
      have hbX : Below wr.heap.size wr X := by rw [hX]; exact below_two _ _ _
      have hsX : X.heap.size = wr.heap.size + 2 := by rw [hX]; simp
      have hRu : X.heap[wr.heap.size]? = some (.cells #[.string r.name.text, .int .i64 r.name.at_, .slice pa pn pc, .pointer gp, .slice ba bn bc] 138 (0, 0)) := by rw [hX]; exact alloc_row (alloc_new _ _)
      have hTy : X.heap[wr.heap.size + 1]? = some (.cells #[.map (some b), .slice pa pn pc] 158 (0, 0)) := by
        rw [hX]
        have := alloc_new (wr.alloc (.cells #[.string r.name.text, .int .i64 r.name.at_, .slice pa pn pc, .pointer gp, .slice ba bn bc] 138)) (.cells #[.map (some b), .slice pa pn pc] 158)
        simp only [World.size_alloc] at this
        exact this
      have hwX : Below w.heap.size w X := (unhide HB).trans ((hb.trans (hbX.mono hsz)).mono (by omega))
      have HTR := hide (isTruth_any r.guard X b lo lo tab r.params pa pn pc (.pointer gp) ((unhide HM).kept hwX) htz (owns_below hpo hwX) n1' (hgx.below hwX) y1 y2 n3')
      have HBF := hide (fun (w1 : World) (h1 : Below w.heap.size w w1) => bfit_all r.body w1 b lo lo none tab r.params pa pn pc (.slice ba bn bc) bcs ((unhide HM).kept h1) htz (owns_below hpo h1) n1' (owns_below hbo h1) (hbi.stay fun k _ hk => h1.block k hk) n4' y3 n5' n6')
      have hru : ruleT tab r = ((typT tab r.params r.guard).fam == 1 && blkT tab r.params r.body) := rfl
      rw [hru] at hst
      have HST := hide hst
      have HXE := hide hX.symm
      have HRu := hide hRu
      have HTy := hide hTy
      have HBX := hide hbX
      have HWX := hide hwX
      obtain ⟨q0, q1, q2, q3, q4, _⟩ := row5' hRu
      obtain ⟨t0, t1, _⟩ := row2 hTy
      generalize (typT tab r.params r.guard).fam = fc at *
      generalize blkT tab r.params r.body = gb at *
      unfold tyV at *
      clear hc f0 f1 f2 f3 f4 hpo hgx hbo hbi n1' n2' n3' n4' n5' n6' y1 y2 y3 hst hX hbX hRu hTy hwX hb hall hru HR0
      go_upto_region 5 with fail
      rw [unhide HXE]
      go_wp2_with fail
      refine (unhide HTR).mono ?_
      rintro e w1 ⟨rfl, hb1⟩
      have hRu1 := (hb1.block wr.heap.size (by omega)).trans (unhide HRu)
      have hTy1 := (hb1.block (wr.heap.size + 1) (by omega)).trans (unhide HTy)
      have HB1 := hide ((unhide HBr).trans (((unhide HBX).trans (hb1.mono (by omega))).mono hsz))
      have HW1 := hide ((unhide HWX).trans (hb1.mono (by omega)))
      have HBF1 := hide (unhide HBF w1 (unhide HW1))
      clear q0 q1 q2 q3 q4 t0 t1
      obtain ⟨q0, q1, q2, q3, q4, _⟩ := row5' hRu1
      obtain ⟨t0, t1, _⟩ := row2 hTy1
      clear hb1 hRu1 hTy1 HRu HTy HBX HWX HTR HBF
      cases hfc : (fc == 1)
      · rw [hfc] at HST
        go_wp2
        go_ret
        exact ⟨by rw [unhide HE, unhide HST]; rfl, (unhide HB).trans ((unhide HB1).mono (by omega))⟩
      · rw [hfc] at HST
        go_wp2_with fail
        refine (unhide HBF1).mono ?_
        rintro e w2 ⟨rfl, hb2⟩
        have HB2 := hide ((unhide HB1).trans (hb2.mono (unhide HB1).size))
        clear hb2 HBF1
        cases gb
        · go_wp2
          go_ret
          exact ⟨by rw [unhide HE, unhide HST]; rfl, (unhide HB).trans ((unhide HB2).mono (by omega))⟩
        · go_wp2
          go_roundw
          case rel => exact ⟨k + 1, by omega, by go_num, by rw [unhide HST]; rfl, unhide HB2⟩
          case measure => simp [intOf]; omega
    · have hd := all_done hlt hall
      rw [hd, Bool.true_and] at HE
      have hMr := (hb.block w.heap.size (by omega)).trans (unhide HMd)
      obtain ⟨_, _, _, _, z4, _⟩ := row5' hMr
      have HR1 := hide (ARel.start (W := W) (wr := wr) (f := nevT tab) (items := m.nevers) hb)
      clear hd hall hb hMr HR0 m0 m1 m2 m3 m4
      go_wp2_with fail
      go_loopw [9, 10, 38] (fun _ _ i wr => ARel W (nevT tab) m.nevers i wr) (fun _ _ i _ => m.nevers.length - (intOf i).toNat)
      case atStart => exact unhide HR1
      case round =>
        obtain ⟨k, hk, rfl, hall, hb⟩ := hrel
        have HBr := hide hb
        have hsz := hb.size
        by_cases hlt : k < m.nevers.length
        · obtain ⟨g, rfl, hc⟩ := unhide HV4 k hlt
          obtain ⟨pa, pn, pc, gp, ⟨f0, f1, f2, f3⟩, hpo, hgx⟩ := nv_at k hlt (unhide HK4)
          have e0 := cell_later hb (hc (k * 4) (by omega) _ f0)
          have e1 := cell_later hb (hc (k * 4 + 1) (by omega) _ f1)
          have e2 := cell_later hb (hc (k * 4 + 2) (by omega) _ f2)
          have e3 := cell_later hb (hc (k * 4 + 3) (by omega) _ f3)
          have hst := all_step hlt hall
          obtain ⟨n1', n2', n3'⟩ := hnm.nevers _ (List.getElem_mem hlt)
          obtain ⟨y1, y2⟩ := hty.nevers _ (List.getElem_mem hlt)
          generalize m.nevers[k] = r at e0 e1 e2 e3 hpo hgx n1' n2' n3' y1 y2 hst
          obtain ⟨X, hX⟩ : ∃ X, X = (wr.alloc (.cells #[.string r.name.text, .int .i64 r.name.at_, .slice pa pn pc, .pointer gp] 141)).alloc (.cells #[.map (some b), .slice pa pn pc] 158) := ⟨_, rfl⟩
          have hbX : Below wr.heap.size wr X := by rw [hX]; exact below_two _ _ _
          have hsX : X.heap.size = wr.heap.size + 2 := by rw [hX]; simp
          have hRu : X.heap[wr.heap.size]? = some (.cells #[.string r.name.text, .int .i64 r.name.at_, .slice pa pn pc, .pointer gp] 141 (0, 0)) := by rw [hX]; exact alloc_row (alloc_new _ _)
          have hTy : X.heap[wr.heap.size + 1]? = some (.cells #[.map (some b), .slice pa pn pc] 158 (0, 0)) := by
            rw [hX]
            have := alloc_new (wr.alloc (.cells #[.string r.name.text, .int .i64 r.name.at_, .slice pa pn pc, .pointer gp] 141)) (.cells #[.map (some b), .slice pa pn pc] 158)
            simp only [World.size_alloc] at this
            exact this
          have hwX : Below w.heap.size w X := (unhide HB).trans ((hb.trans (hbX.mono hsz)).mono (by omega))
          have HTR := hide (isTruth_any r.guard X b lo lo tab r.params pa pn pc (.pointer gp) ((unhide HM).kept hwX) htz (owns_below hpo hwX) n1' (hgx.below hwX) y1 y2 n3')
          have hru : nevT tab r = ((typT tab r.params r.guard).fam == 1) := rfl
          rw [hru] at hst
          have HST := hide hst
          have HXE := hide hX.symm
          have HBX := hide hbX
          obtain ⟨q0, q1, q2, q3, _⟩ := row4' hRu
          obtain ⟨t0, t1, _⟩ := row2 hTy
          generalize (typT tab r.params r.guard).fam = fc at *
          unfold tyV at *
          clear hc f0 f1 f2 f3 hpo hgx n1' n2' n3' y1 y2 hst hX hbX hRu hTy hwX hb hall hru HR1
          go_upto_region 12 with fail
          rw [unhide HXE]
          go_wp2_with fail
          refine (unhide HTR).mono ?_
          rintro e w1 ⟨rfl, hb1⟩
          have HB1 := hide ((unhide HBr).trans (((unhide HBX).trans (hb1.mono (by omega))).mono hsz))
          clear hb1 HTR q0 q1 q2 q3 t0 t1
          cases hfc : (fc == 1)
          · rw [hfc] at HST
            go_wp2
            go_ret
            exact ⟨by rw [unhide HE, unhide HST]; rfl, (unhide HB).trans ((unhide HB1).mono (by omega))⟩
          · rw [hfc] at HST
            go_wp2
            go_roundw
            case rel => exact ⟨k + 1, by omega, by go_num, by rw [unhide HST]; rfl, unhide HB1⟩
            case measure => simp [intOf]; omega
        · have hd := all_done hlt hall
          rw [hd] at HE
          clear hd hall
          go_wp2
          go_ret
          exact ⟨by rw [unhide HE]; rfl, (unhide HB).trans ((unhide HBr).mono (by omega))⟩

end Go.Proofs.YtpmcnonmkghokaaGreat
namespace Go.Proofs.YtpmcnonmkghokaaGreat
open Go.RowKit
attribute [local go_sem ↓] Go.wp_at_zero Go.wp_at_succ

/-- The error of a tree, and its place. -/
def treeC (m : MdL) : Int × Int :=
  if 0 ≤ pManyI m then (4, pManyI m) else if 0 ≤ wrongI (gatherT m) m then (5, wrongI (gatherT m) m) else if typesT (gatherT m) m then (0, 0) else (6, 0)
structure MdAll (m : MdL) : Prop where
  ok : MdOk m
  sz : MdSz m
  nm : MdNm m
  ty : MdTy m
  tab : TabSz (gatherT m)
theorem MdIs.below {lo : Nat} {w w' : World} {x0 x1 x2 x3 x4 : Value} {m : MdL} (h : MdIs lo w x0 x1 x2 x3 x4 m) (hb : Below w.heap.size w w') : MdIs lo w' x0 x1 x2 x3 x4 m := h.stay fun k _ hk => hb.block k hk

set_option maxRecDepth 100000 in
set_option maxHeartbeats 4000000 in
theorem ptree_any (w : World) (lo : Nat) (x0 x1 x2 x3 x4 : Value) (m : MdL) (h : MdIs lo w x0 x1 x2 x3 x4 m) (ha : MdAll m) :
    Calls Tryz.prog 11 #[.agg #[x0, x1, x2, x3, x4]] w fun e w' => e = .returned (.tuple #[.int .i64 (treeC m).1, .int .i64 (treeC m).2]) ∧ Below w.heap.size w w' := by
  obtain ⟨⟨a0, n0, k0, rfl⟩, ⟨a1, n1, k1, rfl⟩, ⟨a2, n2, k2, rfl⟩, ⟨a3, n3, k3, rfl⟩, ⟨a4, n4, k4, rfl⟩⟩ := mdis_slices h
  obtain ⟨W, hW⟩ : ∃ W, W = w.alloc (.cells #[.slice a0 n0 k0, .slice a1 n1 k1, .slice a2 n2 k2, .slice a3 n3 k3, .slice a4 n4 k4] 33) := ⟨_, rfl⟩
  have hbW : Below w.heap.size w W := by rw [hW]; exact below_alloc1 _ _
  have hsW : W.heap.size = w.heap.size + 1 := by rw [hW]; simp
  have hMd : W.heap[w.heap.size]? = some (.cells #[.slice a0 n0 k0, .slice a1 n1 k1, .slice a2 n2 k2, .slice a3 n3 k3, .slice a4 n4 k4] 33 (0, 0)) := by rw [hW]; exact alloc_new _ _
  have E := hide (show treeC m = if 0 ≤ pManyI m then (4, pManyI m) else if 0 ≤ wrongI (gatherT m) m then (5, wrongI (gatherT m) m) else if typesT (gatherT m) m then (0, 0) else (6, 0) from rfl)
  have HTM := hide (ptooMany_any W lo _ _ _ _ _ m (h.below hbW) ha.ok)
  have HG := hide (fun (w1 : World) (h1 : Below w.heap.size w w1) => gather_any w1 lo _ _ _ _ _ m (h.below h1) ha.ok ha.sz)
  have HWN := hide (fun (w1 : World) (b : Nat) (h1 : Below w.heap.size w w1) (hm : MapIs w1 b (gatherT m)) => wrongName_any w1 lo b (gatherT m) _ _ _ _ _ m (h.below h1) hm ha.ok ha.sz ha.nm)
  have HTF := hide (fun (w1 : World) (b : Nat) (h1 : Below w.heap.size w w1) (hm : MapIs w1 b (gatherT m)) => typesFit_any w1 lo b (gatherT m) _ _ _ _ _ m (h.below h1) hm ha.tab ha.ok ha.nm ha.ty)
  have HMd := hide hMd
  have HB := hide hbW
  have HWE := hide hW.symm
  obtain ⟨m0, m1, m2, m3, m4, _⟩ := row5' hMd
  generalize treeC m = R at *
  generalize pManyI m = P at *
  generalize wrongI (gatherT m) m = N at *
  generalize typesT (gatherT m) m = T at *
  generalize gatherT m = tab at *
  clear h ha hbW hMd hW
  go_enter Tryz.func11, Tryz.ntmps11
  go_upto_region 1 with fail
  rw [unhide HWE]
  go_wp2_with fail
  refine (unhide HTM).mono ?_
  rintro e w1 ⟨rfl, hb1⟩
  have HB1 := hide ((unhide HB).trans (hb1.mono (by omega)))
  have hM1 := (hb1.block w.heap.size (by omega)).trans (unhide HMd)
  have HM1 := hide hM1
  have hz1 := hb1.size
  clear m0 m1 m2 m3 m4
  obtain ⟨m0, m1, m2, m3, m4, _⟩ := row5' hM1
  have hl1 := lt_of_block hM1
  clear hb1 hM1 HTM HMd HB
  by_cases hP : 0 ≤ P
  · rw [if_pos hP] at E
    have hd : decide (0 ≤ P) = true := by simpa using hP
    have hfa : fAt P = P := by unfold fAt; rw [if_neg (by omega)]
    rw [hfa]
    clear hfa
    go_wp2
    go_region
    all_goals
      go_wp2
      go_ret2
      rw [unhide E]
      exact ⟨rfl, ((unhide HB1).alloc (by omega) _).drew⟩
  · rw [if_neg hP] at E
    have hd : decide (0 ≤ P) = false := by simpa using hP
    have hbA := ((unhide HB1).alloc (show w.heap.size ≤ w1.heap.size by omega) (.cells #[.bool (decide (0 ≤ P)), .int .i64 (fAt P)] 71))
    have HG1 := hide (unhide HG _ hbA)
    have HBA := hide hbA
    have HMA := hide (show (w1.alloc (.cells #[.bool (decide (0 ≤ P)), .int .i64 (fAt P)] 71)).heap[w.heap.size]? = some (.cells #[.slice a0 n0 k0, .slice a1 n1 k1, .slice a2 n2 k2, .slice a3 n3 k3, .slice a4 n4 k4] 33 (0, 0)) from alloc_row (unhide HM1))
    rw [hd] at HG1 HBA HMA ⊢
    clear HB1 HM1 HG hbA hP
    generalize fAt P = fp at *
    go_wp2_with fail
    refine (unhide HG1).mono ?_
    rintro e w2 ⟨b, rfl, hm2, _, hbl2, hb2⟩
    have HB2 := hide ((unhide HBA).trans (hb2.mono (by simp; omega)))
    have hM2 := (hb2.block w.heap.size (by simp; omega)).trans (unhide HMA)
    have HM2 := hide hM2
    have HT2 := hide hm2
    have hz2 := hb2.size
    simp at hz2
    clear m0 m1 m2 m3 m4
    obtain ⟨m0, m1, m2, m3, m4, _⟩ := row5' hM2
    have hl2 := lt_of_block hM2
    have HN2 := hide (unhide HWN w2 b (unhide HB2) hm2)
    clear hb2 hM2 hm2 HG1 HMA HBA HWN
    go_wp2_with fail
    refine (unhide HN2).mono ?_
    rintro e w3 ⟨rfl, hb3⟩
    have HB3 := hide ((unhide HB2).trans (hb3.mono (by omega)))
    have hM3 := (hb3.block w.heap.size (by omega)).trans (unhide HM2)
    have HM3 := hide hM3
    have HT3 := hide ((unhide HT2).kept hb3)
    have hz3 := hb3.size
    clear m0 m1 m2 m3 m4
    obtain ⟨m0, m1, m2, m3, m4, _⟩ := row5' hM3
    have hl3 := lt_of_block hM3
    clear hb3 hM3 HN2 HM2 HB2 HT2
    by_cases hN : 0 ≤ N
    · rw [if_pos hN] at E
      have hd : decide (0 ≤ N) = true := by simpa using hN
      have hfa : fAt N = N := by unfold fAt; rw [if_neg (by omega)]
      rw [hfa]
      clear hfa
      go_wp2
      go_region
      all_goals
        go_wp2
        go_ret2
        rw [unhide E]
        exact ⟨rfl, ((unhide HB3).alloc (by omega) _).drew⟩
    · rw [if_neg hN] at E
      have hd : decide (0 ≤ N) = false := by simpa using hN
      have hbA := ((unhide HB3).alloc (show w.heap.size ≤ w3.heap.size by omega) (.cells #[.bool (decide (0 ≤ N)), .int .i64 (fAt N)] 71))
      have HF3 := hide (unhide HTF _ b hbA ((unhide HT3).kept (below_alloc1 _ _)))
      have HBA := hide hbA
      rw [hd] at HF3 HBA ⊢
      clear HB3 HM3 HTF hbA hN HT3
      generalize fAt N = fn at *
      go_wp2_with fail
      refine (unhide HF3).mono ?_
      rintro e w4 ⟨rfl, hb4⟩
      have HB4 := hide ((unhide HBA).trans (hb4.mono (by simp; omega)))
      clear hb4 HF3 HBA m0 m1 m2 m3 m4
      cases T
      · go_wp2
        go_ret2
        rw [unhide E]
        exact ⟨rfl, unhide HB4⟩
      · go_wp2
        go_ret2
        rw [unhide E]
        exact ⟨rfl, unhide HB4⟩

/-- What Check comes to. -/
def chkC (s : ByteArray) : Int × Int :=
  if 800 < s.size then (1, 0) else match (refToks s).2 with
    | some k => (2, k)
    | none => match (rTree (refToks s).1).2 with
      | some k => (3, k)
      | none => treeC (mdOf (rTree (refToks s).1).1)
def TxPost (s : ByteArray) (w : World) (e : Ending) (w' : World) : Prop :=
  Below w.heap.size w w' ∧ ∃ x0 x1 x2 x3 x4, e = .returned (.tuple #[.agg #[x0, x1, x2, x3, x4], .int .i64 (chkC s).1, .int .i64 (chkC s).2]) ∧ ((chkC s).1 = 0 → MdIs w.heap.size w' x0 x1 x2 x3 x4 (mdOf (rTree (refToks s).1).1)) ∧
    (∃ a l c, x0 = .slice a l c) ∧ (∃ a l c, x1 = .slice a l c) ∧ (∃ a l c, x2 = .slice a l c) ∧ (∃ a l c, x3 = .slice a l c) ∧ (∃ a l c, x4 = .slice a l c)

theorem below_set5 {B : Nat} {a w : World} (h : Below B a w) (x0 x1 x2 x3 x4 : Value) : Below B a (((((w.setCell ⟨B, 0, none⟩ x0).setCell ⟨B, 1, none⟩ x1).setCell ⟨B, 2, none⟩ x2).setCell ⟨B, 3, none⟩ x3).setCell ⟨B, 4, none⟩ x4) :=
  ((((h.setCell (p := ⟨B, 0, none⟩) (Nat.le_refl _) x0).setCell (p := ⟨B, 1, none⟩) (Nat.le_refl _) x1).setCell (p := ⟨B, 2, none⟩) (Nat.le_refl _) x2).setCell (p := ⟨B, 3, none⟩) (Nat.le_refl _) x3).setCell (p := ⟨B, 4, none⟩) (Nat.le_refl _) x4

end Go.Proofs.YtpmcnonmkghokaaGreat
namespace Go.Proofs.YtpmcnonmkghokaaGreat
open Go.RowKit

theorem flat_len {α : Type} {f : α → List Tok} (hf : ∀ x, 1 ≤ (f x).length) : ∀ l : List α, l.length ≤ (l.flatMap f).length
  | [] => Nat.le_refl _
  | x :: l => by rw [List.flatMap_cons, List.length_append, List.length_cons]; have := flat_len hf l; have := hf x; omega
theorem flat_one {α : Type} {f : α → List Tok} : ∀ {l : List α} {x : α}, x ∈ l → (f x).length ≤ (l.flatMap f).length
  | y :: l, x, h => by
    rw [List.flatMap_cons, List.length_append]
    rcases List.mem_cons.mp h with rfl | h
    · omega
    · have := flat_one (f := f) h; omega
theorem plen_blen : ∀ b : PB, plen b = blen b
  | .nil => rfl
  | .node _ _ _ _ n => by rw [plen, blen, plen_blen n]
/-- A name of the text: not empty, not long. -/
def NmOk (t : Tok) : Prop := 0 < t.text.size ∧ t.text.size ≤ 800
theorem tok_nm {t : Tok} (h : TokOk t) (hk : (t.kind.toList == [110, 97, 109, 101]) = true) : NmOk t := by
  refine ⟨?_, h.size⟩
  have := h.name
  rw [hk, Bool.and_eq_true] at this
  have hl := this.1
  unfold letB inB at hl
  by_cases h0 : 0 < t.text.size
  · exact h0
  · rw [dif_neg h0] at hl; cases hl

/-- What is known of a tree: lengths and texts. -/
structure TreeSize (t : PTree) : Prop where
  nm : ∀ x ∈ treeAll t, NmOk x
  sets : t.sets.length ≤ 801
  kinds : t.kinds.length ≤ 801
  vars : t.vars.length ≤ 801
  rules : t.rules.length ≤ 801
  nevers : t.nevers.length ≤ 801
  members : ∀ k ∈ t.kinds, k.members.length ≤ 801
  all : ∀ r ∈ t.rules ++ t.nevers, (ruleAll r).length ≤ 801
theorem tree_size {L : List Tok} {t : PTree} (hL : ToksOk L) (h : TreeGood L t) : TreeSize t := by
  have hle := h.nms.le
  have hlen := hL.len
  have h1 : (treeAll t).length ≤ 801 := by omega
  unfold treeAll at h1
  simp only [List.length_append] at h1
  have l1 := flat_len (f := setN) (fun x => Nat.le_refl _) t.sets
  have l2 := flat_len (f := kindN) (fun x => by unfold kindN; simp) t.kinds
  have l3 := flat_len (f := varAll) (fun x => by unfold varAll; simp) t.vars
  have l4 := flat_len (f := ruleAll) (fun x => by unfold ruleAll; simp) t.rules
  have l5 := flat_len (f := ruleAll) (fun x => by unfold ruleAll; simp) t.nevers
  refine ⟨?_, by omega, by omega, by omega, by omega, by omega, ?_, ?_⟩
  · intro x hx
    obtain ⟨hm, hk⟩ := h.nms.mem x hx
    obtain ⟨i, hi, rfl⟩ := List.getElem_of_mem hm
    have e : tk L i = L[i] := getD_at _ _ _ hi
    have ok := hL.ok i hi
    rw [e] at ok
    exact tok_nm ok hk
  · intro k hk
    have := flat_one (f := kindN) hk
    unfold kindN at this
    simp only [List.length_cons] at this
    have e : (t.kinds.flatMap (fun k => k.name :: k.members)).length = (t.kinds.flatMap kindN).length := rfl
    omega
  · intro r hr
    rcases List.mem_append.mp hr with hr | hr
    · have := flat_one (f := ruleAll) hr; omega
    · have := flat_one (f := ruleAll) hr; omega
theorem mem_sets {t : PTree} {s : PSet} (h : s ∈ t.sets) : s.name ∈ treeAll t := List.mem_append_left _ (List.mem_flatMap.mpr ⟨s, h, List.mem_cons_self ..⟩)
theorem mem_kinds {t : PTree} {k : PKind} (h : k ∈ t.kinds) {x : Tok} (hx : x ∈ kindN k) : x ∈ treeAll t := List.mem_append_right _ (List.mem_append_left _ (List.mem_flatMap.mpr ⟨k, h, hx⟩))
theorem mem_vars {t : PTree} {v : PVar} (h : v ∈ t.vars) {x : Tok} (hx : x ∈ varAll v) : x ∈ treeAll t := List.mem_append_right _ (List.mem_append_right _ (List.mem_append_left _ (List.mem_flatMap.mpr ⟨v, h, hx⟩)))
theorem mem_rules {t : PTree} {r : PRule} (h : r ∈ t.rules ++ t.nevers) {x : Tok} (hx : x ∈ ruleAll r) : x ∈ treeAll t := by
  refine List.mem_append_right _ (List.mem_append_right _ (List.mem_append_right _ ?_))
  rw [← List.flatMap_append]
  exact List.mem_flatMap.mpr ⟨r, h, hx⟩
theorem mem_par {r : PRule} {p : PP} (h : p ∈ r.params) : p.name ∈ ruleAll r ∧ p.set_ ∈ ruleAll r := by
  unfold ruleAll
  exact ⟨List.mem_cons_of_mem _ (List.mem_append_left _ (List.mem_flatMap.mpr ⟨p, h, List.mem_cons_self ..⟩)), List.mem_cons_of_mem _ (List.mem_append_left _ (List.mem_flatMap.mpr ⟨p, h, List.mem_cons_of_mem _ (List.mem_cons_self ..)⟩))⟩
theorem mem_guard {r : PRule} {x : Tok} (h : x ∈ namesL r.guard) : x ∈ ruleAll r := List.mem_cons_of_mem _ (List.mem_append_right _ (List.mem_append_left _ h))
theorem mem_body {r : PRule} {x : Tok} (h : x ∈ insideL r.body) : x ∈ ruleAll r := List.mem_cons_of_mem _ (List.mem_append_right _ (List.mem_append_right _ h))
theorem rule_len {r : PRule} (h : (ruleAll r).length ≤ 801) : r.params.length ≤ 801 ∧ (namesL r.guard).length ≤ 801 ∧ (insideL r.body).length ≤ 801 := by
  unfold ruleAll at h
  simp only [List.length_cons, List.length_append] at h
  have := flat_len (f := parAll) (fun x => by unfold parAll; simp) r.params
  omega

theorem BWell.len : ∀ {b : PB}, BWell b → BLen b
  | .nil, _ => trivial
  | .node _ _ a .nil n, ⟨_, _, _, h⟩ => h.len
  | .node _ _ a (.node _ _ _ t e) n, ⟨_, _, _, h4, h5, h6⟩ => ⟨⟨h4.1.len, by rw [plen_blen]; omega⟩, ⟨h5.1.len, by rw [plen_blen]; omega⟩, h6.len⟩
theorem BWell.full : ∀ {b : PB}, BWell b → BFull b
  | .nil, _ => trivial
  | .node _ _ a .nil n, ⟨h1, h2, _, h⟩ => ⟨⟨h2.full, h2.some, h1.2⟩, h.full⟩
  | .node _ _ a (.node _ _ _ t e) n, ⟨h1, _, _, h4, h5, h6⟩ => ⟨⟨h1.full, h1.some⟩, h4.1.full, h5.1.full, h6.full⟩
theorem BWell.sok : ∀ {b : PB}, BWell b → SOk b
  | .nil, _ => trivial
  | .node _ _ a .nil n, ⟨h1, h2, h3, h⟩ => ⟨by rw [h3]; rfl, h1.1.some, h1.1.ok, h2.some, h2.ok, h.sok⟩
  | .node _ _ a (.node _ _ _ t e) n, ⟨h1, _, _, h4, h5, h6⟩ => ⟨h1.some, h1.ok, ⟨h4.1.sok, by omega⟩, ⟨h5.1.sok, by omega⟩, h6.sok⟩
theorem BWell.slen : ∀ {b : PB}, BWell b → SLenAll b
  | .nil, _ => trivial
  | .node _ _ a .nil n, ⟨_, _, _, h⟩ => h.slen
  | .node _ _ a (.node _ _ _ t e) n, ⟨_, _, _, h4, h5, h6⟩ => ⟨h4.1.slen, h5.1.slen, by omega, by omega, h6.slen⟩

theorem noTok_size : noTok.text.size = 0 := rfl
theorem vr_sizes {t : PTree} (hs : TreeSize t) {v : PVar} (hv : v ∈ t.vars) (hok : VarOk v) : (vrOf v).over.text.size ≤ 800 ∧ (vrOf v).si.name.text.size ≤ 800 := by
  constructor
  · show v.over.text.size ≤ 800
    obtain ⟨h1 | h1, _⟩ := hok
    · rw [h1, noTok_size]; omega
    · refine (hs.nm _ (mem_vars hv ?_)).2
      unfold varAll overN
      rw [h1]; simp
  · obtain ⟨f1, f2⟩ := vr_form hok
    cases hk : (v.type_.kind.toList == [110, 97, 109, 101])
    · obtain ⟨_, h1 | h1 | h1⟩ := hok
      · obtain ⟨a, b, c⟩ := h1
        unfold vrOf; simp only; rw [a, b]; show noTok.text.size ≤ 800; rw [noTok_size]; omega
      · obtain ⟨a, b, c, d⟩ := h1
        unfold vrOf; simp only; rw [a, b]; show noTok.text.size ≤ 800; rw [noTok_size]; omega
      · rw [h1.1] at hk; cases hk
    · rw [f2 hk]
      refine (hs.nm _ (mem_vars hv ?_)).2
      unfold varAll overN
      rw [hk]; simp
theorem md_all {L : List Tok} (hL : ToksOk L) (h : (rTree L).2 = none) : MdAll (mdOf (rTree L).1) := by
  have g := tree_good hL h
  have s := tree_size hL g
  generalize (rTree L).1 = t at g s
  have rok : ∀ r ∈ t.rules ++ t.nevers, RuleOk r := fun r hr => by
    rcases List.mem_append.mp hr with hr | hr
    · exact g.rules r hr
    · exact (g.nevers r hr).1
  have nmG : ∀ r ∈ t.rules ++ t.nevers, r.params.length ≤ 1000 ∧ (∀ p ∈ r.params, p.name.text.size ≤ 1000 ∧ p.set_.text.size ≤ 1000) ∧ (∀ y ∈ namesP r.guard, y.text.size ≤ 1000) ∧ BLen r.body ∧ plen r.body ≤ 1000 ∧ (∀ y ∈ namesB r.body, y.text.size ≤ 1000) := fun r hr => by
    obtain ⟨x, b, bl⟩ := rok r hr
    obtain ⟨e1, e2, e3⟩ := rule_len (s.all r hr)
    refine ⟨by omega, fun p hp => ?_, fun y hy => ?_, b.len, by rw [plen_blen]; omega, fun y hy => ?_⟩
    · have a1 := (s.nm _ (mem_rules hr (mem_par hp).1)).2
      have a2 := (s.nm _ (mem_rules hr (mem_par hp).2)).2
      omega
    · rw [namesP_well x] at hy
      have := (s.nm _ (mem_rules hr (mem_guard hy))).2
      omega
    · rw [namesB_well b] at hy
      have := (s.nm _ (mem_rules hr (mem_body hy))).2
      omega
  refine ⟨⟨?_, ?_, ?_, ?_, ?_, ?_, ?_⟩, ⟨?_, ?_, ?_, ?_, ?_⟩, ⟨?_, ?_, ?_⟩, ⟨?_, ?_⟩, ?_⟩
  · exact Nat.le_trans s.sets (by omega)
  · exact Nat.le_trans s.kinds (by omega)
  · show (t.vars.map vrOf).length ≤ 1000; rw [List.length_map]; exact Nat.le_trans s.vars (by omega)
  · exact Nat.le_trans s.rules (by omega)
  · exact Nat.le_trans s.nevers (by omega)
  · intro k hk; exact Nat.le_trans (s.members k hk) (by omega)
  · intro r hr; exact (nmG r hr).1
  · intro x hx; have := (s.nm _ (mem_sets hx)).2; omega
  · intro k hk
    refine ⟨?_, fun x hx => ?_⟩
    · have := (s.nm _ (mem_kinds hk (List.mem_cons_self ..))).2; omega
    · have := (s.nm _ (mem_kinds hk (List.mem_cons_of_mem _ hx))).2; omega
  · intro v hv
    obtain ⟨v0, hv0, rfl⟩ := List.mem_map.mp (show v ∈ t.vars.map vrOf from hv)
    have := (s.nm _ (mem_vars hv0 (List.mem_cons_self ..))).2
    show v0.name.text.size ≤ 1000
    omega
  · intro r hr
    have := (s.nm _ (mem_rules (List.mem_append_left _ hr) (List.mem_cons_self ..))).2; omega
  · intro r hr
    have := (s.nm _ (mem_rules (List.mem_append_right _ hr) (List.mem_cons_self ..))).2; omega
  · intro v hv
    obtain ⟨v0, hv0, rfl⟩ := List.mem_map.mp (show v ∈ t.vars.map vrOf from hv)
    have := vr_sizes s hv0 (g.vars v0 hv0)
    omega
  · intro r hr; exact nmG r (List.mem_append_left _ hr)
  · intro r hr
    obtain ⟨a, b, c, _⟩ := nmG r (List.mem_append_right _ hr)
    exact ⟨a, b, c⟩
  · intro r hr
    obtain ⟨x, b, _⟩ := rok r (List.mem_append_left _ hr)
    exact ⟨x.full, x.some, b.full⟩
  · intro r hr
    obtain ⟨x, _⟩ := rok r (List.mem_append_right _ hr)
    exact ⟨x.full, x.some⟩
  · intro q
    have noV : noVar.si.name.text.size ≤ 1000 := by show noTok.text.size ≤ 1000; rw [noTok_size]; omega
    have all : ∀ x ∈ globE (mdOf t), x.2.var.si.name.text.size ≤ 1000 := by
      intro x hx
      unfold globE at hx
      simp only [List.mem_append, List.mem_flatMap] at hx
      rcases hx with ⟨q, hq, hx⟩ | ⟨q, hq, hx⟩ | ⟨q, hq, hx⟩ | ⟨q, hq, hx⟩ | ⟨q, hq, hx⟩
      · unfold entS at hx; rw [List.mem_singleton] at hx; subst hx; exact noV
      · unfold entK at hx
        rw [List.mem_cons, List.mem_map] at hx
        rcases hx with rfl | ⟨y, hy, rfl⟩
        · exact noV
        · exact noV
      · unfold entVr at hx; rw [List.mem_singleton] at hx; subst hx
        obtain ⟨v0, hv0, rfl⟩ := List.mem_map.mp (show q ∈ t.vars.map vrOf from hq)
        have := (vr_sizes s hv0 (g.vars v0 hv0)).2
        show (vrOf v0).si.name.text.size ≤ 1000
        omega
      · unfold entRu at hx; rw [List.mem_singleton] at hx; subst hx; exact noV
      · unfold entNv at hx; rw [List.mem_singleton] at hx; subst hx; exact noV
    rw [look_gather]
    rcases findE_cases (globE (mdOf t)) q with ⟨e, _⟩ | ⟨j, hj, _, _, e⟩
    · rw [e]; exact noV
    · rw [e]; exact all _ (List.getElem_mem hj)

/-- The reference's error of a tree. -/
def treeR2 (t : PTree) : Int × Int :=
  if 0 ≤ tooManyI t then (4, tooManyI t) else if 0 ≤ firstI (givenI t) (usedI t) then (5, firstI (givenI t) (usedI t)) else if typedAll t then (0, 0) else (6, 0)
theorem tree_same {L : List Tok} (hL : ToksOk L) (h : (rTree L).2 = none) : treeC (mdOf (rTree L).1) = treeR2 (rTree L).1 := by
  have g := tree_good hL h
  have s := tree_size hL g
  generalize (rTree L).1 = t at g s
  have pw := g.pw hL
  unfold treeC treeR2
  rw [many_same g.vars (tree_inc pw), wrong_same g.vars g.rules g.nevers (tree_ord pw)]
  by_cases h1 : 0 ≤ tooManyI t
  · rw [if_pos h1, if_pos h1]
  · rw [if_neg h1, if_neg h1]
    by_cases h2 : 0 ≤ firstI (givenI t) (usedI t)
    · rw [if_pos h2, if_pos h2]
    · rw [if_neg h2, if_neg h2, types_same (names_fine (by omega)) ⟨?_, ?_⟩ ?_ g.rules g.nevers]
      · intro k hk; exact (s.nm _ (mem_kinds hk (List.mem_cons_self ..))).1
      · intro v hv
        refine ⟨g.vars v hv, fun hk => (s.nm _ (mem_vars hv ?_)).1, fun hk => (s.nm _ (mem_vars hv ?_)).1⟩
        · unfold varAll overN; rw [hk]; simp
        · unfold varAll overN; rw [hk]; simp
      · intro r hr p hp; exact (s.nm _ (mem_rules hr (mem_par hp).2)).1

end Go.Proofs.YtpmcnonmkghokaaGreat
namespace Go.Proofs.YtpmcnonmkghokaaGreat
open Go.RowKit
attribute [local go_sem ↓] Go.wp_at_zero Go.wp_at_succ

set_option maxRecDepth 100000 in
set_option maxHeartbeats 8000000 in
theorem text_any (s : ByteArray) (w : World) : Calls Tryz.prog 7 #[.string s] w fun e w' => TxPost s w e w' := by
  have hsl : ∀ a : Option Addr, ∀ l c : Nat, ∃ a' l' c', Value.slice a l c = .slice a' l' c' := fun a l c => ⟨a, l, c, rfl⟩
  by_cases hbig : 800 < s.size
  · have hE : chkC s = (1, 0) := by unfold chkC; rw [if_pos hbig]
    have HE := hide hE
    have HX := hide (alloc_new w (.cells #[.slice none 0 0, .slice none 0 0, .slice none 0 0, .slice none 0 0, .slice none 0 0] 33))
    clear hE
    go_enter Tryz.func7, Tryz.ntmps7
    go_wp2
    refine bodyPost_ret (results_cell_row2 Tryz.results7 _ _ w.heap.size _ _ _ _ rfl (unhide HX) Tryz.underlying33 rfl (by kernel_rfl)) rfl ?_
    unfold TxPost
    rw [unhide HE]
    exact ⟨below_alloc1 _ _, _, _, _, _, _, rfl, (fun e => by cases e), hsl _ _ _, hsl _ _ _, hsl _ _ _, hsl _ _ _, hsl _ _ _⟩
  · have hss : s.size ≤ 800 := by omega
    have hE : chkC s = match (refToks s).2 with | some k => (2, (k : Int)) | none => match (rTree (refToks s).1).2 with | some k => (3, (k : Int)) | none => treeC (mdOf (rTree (refToks s).1).1) := by unfold chkC; rw [if_neg hbig] <;> rfl
    have HE := hide hE
    clear hE
    go_enter Tryz.func7, Tryz.ntmps7
    go_wp2_with fail
    refine (scan_any s _ hss).mono ?_
    rintro e w1 ⟨hb1, hp⟩
    have hX1 := (hb1.block w.heap.size (by simp)).trans (alloc_new _ _)
    have HB1 := hide ((below_alloc1 w (.cells #[.slice none 0 0, .slice none 0 0, .slice none 0 0, .slice none 0 0, .slice none 0 0] 33)).trans (hb1.mono (by simp)))
    have HX1 := hide hX1
    have hz1 := hb1.size
    simp at hz1
    obtain ⟨x0, x1, x2, x3, x4, f0, f1, f2, f3, f4⟩ := row5' hX1
    rcases hp with ⟨hno, v, rfl, hv⟩ | ⟨k, hk, rfl⟩
    · rw [hno] at HE
      have hL := refToks_ok s hss hno
      have HV := hide (owns_mono (Nat.zero_le _) hv)
      obtain ⟨va, vl, vc, rfl⟩ := own_slice hv
      clear hb1 hX1 hv
      go_wp2_with fail
      refine (parse_any w1 _ _ hL (unhide HV)).mono ?_
      rintro e w2 ⟨hb2, hp⟩
      have hX2 := (hb2.block w.heap.size (by omega)).trans (unhide HX1)
      have HB2 := hide ((unhide HB1).trans (hb2.mono (by omega)))
      have HX2 := hide hX2
      have hz2 := hb2.size
      clear x0 x1 x2 x3 x4 f0 f1 f2 f3 f4
      obtain ⟨x0, x1, x2, x3, x4, f0, f1, f2, f3, f4⟩ := row5' hX2
      rcases hp with ⟨hno2, y0, y1, y2, y3, y4, rfl, hmd⟩ | ⟨k, hk, rfl⟩
      · rw [hno2] at HE
        have hall := md_all hL hno2
        obtain ⟨⟨a0, n0, k0, rfl⟩, ⟨a1, n1, k1, rfl⟩, ⟨a2, n2, k2, rfl⟩, ⟨a3, n3, k3, rfl⟩, ⟨a4, n4, k4, rfl⟩⟩ := mdis_slices hmd
        have HMD := hide (hmd.mono (show w.heap.size + 1 ≤ w1.heap.size by omega))
        obtain ⟨m, hm⟩ : ∃ m, m = mdOf (rTree (refToks s).1).1 := ⟨_, rfl⟩
        rw [← hm] at HE HMD hall
        have HMM := hide hm
        have HTC := hide (ptree_any (w2.alloc (.cells #[.slice a0 n0 k0, .slice a1 n1 k1, .slice a2 n2 k2, .slice a3 n3 k3, .slice a4 n4 k4] 33)) (w.heap.size + 1) _ _ _ _ _ m ((unhide HMD).below (below_alloc1 _ _)) hall)
        clear hm
        clear hb2 hX2 hmd hall
        go_wp2_with fail
        refine (unhide HTC).mono ?_
        rintro e w3 ⟨rfl, hb3⟩
        have hz3 := hb3.size
        simp at hz3
        have hX3 := (hb3.block w.heap.size (by simp; omega)).trans (alloc_row (unhide HX2))
        have hM3 := (hb3.block w2.heap.size (by simp)).trans (alloc_new _ _)
        have HB3 := hide (((unhide HB2).alloc (by omega) _).trans (hb3.mono (by simp; omega)))
        have HMD3 := hide (((unhide HMD).below (below_alloc1 _ _)).below hb3)
        have HX3 := hide hX3
        clear x0 x1 x2 x3 x4 f0 f1 f2 f3 f4
        obtain ⟨x0, x1, x2, x3, x4, f0, f1, f2, f3, f4⟩ := row5' hX3
        obtain ⟨g0, g1, g2, g3, g4, _⟩ := row5' hM3
        have hlX := lt_of_block hX3
        have hlM := lt_of_block hM3
        clear hb3 hX3 hM3 HTC
        go_wp2
        refine bodyPost_ret (results_cell_row2 Tryz.results7 _ _ w.heap.size _ _ _ _ rfl (set5all (unhide HX3) _ _ _ _ _) Tryz.underlying33 rfl (by kernel_rfl)) rfl ?_
        unfold TxPost
        rw [← unhide HMM, unhide HE]
        exact ⟨below_set5 (unhide HB3) _ _ _ _ _, _, _, _, _, _, rfl, fun _ => ((unhide HMD3).stay ((Sames.refl _ w3).set5 (b := w.heap.size) (Or.inl (by omega)) _ _ _ _ _).block).mono (by omega), hsl _ _ _, hsl _ _ _, hsl _ _ _, hsl _ _ _, hsl _ _ _⟩
      · rw [hk] at HE
        have hlX := lt_of_block hX2
        clear hb2 hX2
        go_wp2
        refine bodyPost_ret (results_cell_row2 Tryz.results7 _ _ w.heap.size _ _ _ _ rfl (alloc_row (set5all (unhide HX2) _ _ _ _ _)) Tryz.underlying33 rfl (by kernel_rfl)) rfl ?_
        unfold TxPost
        rw [unhide HE]
        exact ⟨(below_set5 (unhide HB2) _ _ _ _ _).alloc (by simp [World.setCell]; omega) _, _, _, _, _, _, rfl, (fun e => by cases e), hsl _ _ _, hsl _ _ _, hsl _ _ _, hsl _ _ _, hsl _ _ _⟩
    · rw [hk] at HE
      clear hb1 hX1
      go_wp2
      refine bodyPost_ret (results_cell_row2 Tryz.results7 _ _ w.heap.size _ _ _ _ rfl (set5all (unhide HX1) _ _ _ _ _) Tryz.underlying33 rfl (by kernel_rfl)) rfl ?_
      unfold TxPost
      rw [unhide HE]
      exact ⟨below_set5 (unhide HB1) _ _ _ _ _, _, _, _, _, _, rfl, (fun e => by cases e), hsl _ _ _, hsl _ _ _, hsl _ _ _, hsl _ _ _, hsl _ _ _⟩

set_option maxRecDepth 100000 in
set_option maxHeartbeats 2000000 in
theorem check_any (s : ByteArray) (w : World) : Calls Tryz.prog 4 #[.string s] w fun e w' => e = .returned (.tuple #[.int .i64 (chkC s).1, .int .i64 (chkC s).2]) ∧ Below w.heap.size w w' := by
  go_enter Tryz.func4, Tryz.ntmps4
  go_wp2_with fail
  refine (text_any s w).mono ?_
  rintro e w1 ⟨hb1, x0, x1, x2, x3, x4, rfl, _, ⟨a0, n0, k0, rfl⟩, ⟨a1, n1, k1, rfl⟩, ⟨a2, n2, k2, rfl⟩, ⟨a3, n3, k3, rfl⟩, ⟨a4, n4, k4, rfl⟩⟩
  have HB := hide hb1
  have hz := hb1.size
  clear hb1
  go_wp2
  go_ret2
  exact ⟨rfl, (unhide HB).alloc hz _⟩

end Go.Proofs.YtpmcnonmkghokaaGreat
namespace Go.Proofs.YtpmcnonmkghokaaGreat
open Go.RowKit

theorem pps2_at (l : List PP) (k : Nat) (h : k < l.length) : (ppsCells l)[k * 6 + 4]? = some (.string (l[k]).set_.text) ∧ (ppsCells l)[k * 6 + 5]? = some (.int .i64 (l[k]).set_.at_) :=
  ⟨flat_at ppCells 6 (fun _ => rfl) l k 4 h (by omega), flat_at ppCells 6 (fun _ => rfl) l k 5 h (by omega)⟩
theorem var_at (l : List PVar) (k j : Nat) (h : k < l.length) (hj : j < 12) : (varsCells l)[k * 12 + j]? = (varCells l[k])[j]? := flat_at varCells 12 (fun _ => rfl) l k j h hj

set_option maxRecDepth 100000 in
set_option maxHeartbeats 8000000 in
theorem used_any (w : World) (T : Nat) (t : PTree) (h : TreeIs w T t) (ht : TreeOk t) (hr : t.rules.length ≤ 801) (hn : t.nevers.length ≤ 801) (hp : ∀ r ∈ t.rules ++ t.nevers, r.params.length ≤ 801 ∧ (namesL r.guard).length ≤ 10000 ∧ (insideL r.body).length ≤ 10000 ∧ SLenAll r.body ∧ blen r.body ≤ 1000) :
    Calls Tryz.prog 17 #[.pointer (some ⟨T, 0, none⟩)] w fun e w' => e = .returned (.int .i64 (usedI t)) ∧ Below w.heap.size w w' := by
  obtain ⟨i0, hi, hz0, hz1, hz2⟩ := info_parts Tryz.infoTok
  have HI := hide (⟨hi, hz0, hz1, hz2⟩ : _ ∧ _ ∧ _ ∧ _)
  clear hi hz0 hz1 hz2
  have HTO := hide ht
  have HT := hide h
  have HP := hide hp
  obtain ⟨hs0, hk0, hv0, hm0⟩ := ht
  have HM0 := hide hm0
  obtain ⟨x0, x1, x2, x3, x4, y1, y3, y4, hT, _, _, h2, _⟩ := h
  obtain ⟨q0, q1, q2, q3, q4, _⟩ := row5 hT
  obtain ⟨a2, cap2, rfl, hview2⟩ := own_view h2
  have HV2 := hide hview2
  have HR0 := hide (MRel.start (f := usedV t) (items := t.vars) (z := -1) (Below.refl w.heap.size w))
  clear hp hm0 h2 hT hview2
  go_enter Tryz.func17, Tryz.ntmps17
  go_wp2_with fail
  go_loopw [3, 4, 5, 6, 7, 8] (fun at_ i _ _ _ _ wr => MRel w (usedV t) t.vars (-1) at_ i wr) (fun _ i _ _ _ _ _ => t.vars.length - (intOf i).toNat)
  case atStart => exact unhide HR0
  case round =>
    obtain ⟨k, a, hkl, rfl, rfl, hfo, hbr⟩ := hrel
    have HB := hide hbr
    have hzr := hbr.size
    have p0 := cell_later hbr q2
    by_cases hlt : k < t.vars.length
    · obtain ⟨g, rfl, hc⟩ := unhide HV2 k hlt
      have E := fun j (hj : j < 12) => (hc (k * 12 + j) (by omega)).trans (var_at t.vars k j hlt hj)
      have c0 := cell_later hbr (E 0 (by omega))
      have c1 := cell_later hbr (E 1 (by omega))
      have c2 := cell_later hbr (E 2 (by omega))
      have c3 := cell_later hbr (E 3 (by omega))
      have c4 := cell_later hbr (E 4 (by omega))
      have c5 := cell_later hbr (E 5 (by omega))
      have c6 := cell_later hbr (E 6 (by omega))
      have c7 := cell_later hbr (E 7 (by omega))
      have c8 := cell_later hbr (E 8 (by omega))
      have c9 := cell_later hbr (E 9 (by omega))
      have c10 := cell_later hbr (E 10 (by omega))
      have c11 := cell_later hbr (E 11 (by omega))
      have HNX := hide (fun (w' : World) (b : Int) (hb : b = usedT (lookI (setTexts t) (t.vars[k]).type_.text.toList) (lookI (kindTexts t) (t.vars[k]).type_.text.toList) (t.vars[k]).type_ (usedO (lookI (setTexts t) (t.vars[k]).over.text.toList) (t.vars[k]).over a)) hw => MRel.next (W := w) (wr := w') (f := usedV t) (items := t.vars) (z := -1) (a := a) (b := b) hlt hfo hb hw)
      rw [Nat.add_zero] at c0
      generalize t.vars[k] = V at c0 c1 c2 c3 c4 c5 c6 c7 c8 c9 c10 c11 HNX
      clear hc hfo hbr E
      go_wp2_with fail
      -- CALLS
      have hb9 : Below w.heap.size w (wr.alloc (.cells #[.string V.name.kind, .string V.name.text, .int .i64 V.name.at_, .string V.over.kind, .string V.over.text, .int .i64 V.over.at_, .string V.type_.kind, .string V.type_.text, .int .i64 V.type_.at_, .string V.top.kind, .string V.top.text, .int .i64 V.top.at_] 89)) := (unhide HB).alloc (by omega) _
      have hh := heap_alloc_new wr (.cells #[.string V.name.kind, .string V.name.text, .int .i64 V.name.at_, .string V.over.kind, .string V.over.text, .int .i64 V.over.at_, .string V.type_.kind, .string V.type_.text, .int .i64 V.type_.at_, .string V.top.kind, .string V.top.text, .int .i64 V.top.at_] 89)
      refine (set_any _ T t V.over.text ((unhide HT).below hb9) hs0).mono ?_
      rintro e u1 ⟨rfl, rfl⟩
      generalize wr.alloc (.cells #[.string V.name.kind, .string V.name.text, .int .i64 V.name.at_, .string V.over.kind, .string V.over.text, .int .i64 V.over.at_, .string V.type_.kind, .string V.type_.text, .int .i64 V.type_.at_, .string V.top.kind, .string V.top.text, .int .i64 V.top.at_] 89) = W at hb9 hh ⊢
      have d3 := cell_of_row W _ 3 _ _ _ hh
      have d4 := cell_of_row W _ 4 _ _ _ hh
      have d5 := cell_of_row W _ 5 _ _ _ hh
      have d6 := cell_of_row W _ 6 _ _ _ hh
      have d7 := cell_of_row W _ 7 _ _ _ hh
      have d8 := cell_of_row W _ 8 _ _ _ hh
      simp only [List.getElem?_toArray, List.getElem?_cons_succ, List.getElem?_cons_zero, Nat.reduceAdd] at d3 d4 d5 d6 d7 d8
      have HB9 := hide hb9
      have HT9 := hide ((unhide HT).below hb9)
      have p9 := cell_later hb9 q2
      generalize hO : lookI (setTexts t) V.over.text.toList = O at HNX ⊢
      clear hb9 hh hO c0 c1 c2 c3 c4 c5 c6 c7 c8 c9 c10 c11 p0
      go_wp2_with fail
      refine (set_any _ T t V.type_.text (unhide HT9) hs0).mono ?_
      rintro e u2 ⟨rfl, rfl⟩
      generalize hS : lookI (setTexts t) V.type_.text.toList = S at HNX ⊢
      clear hS
      go_wp2_with fail
      refine (kind_find _ T t V.type_.text (unhide HT9) hk0).mono ?_
      rintro e u3 ⟨rfl, rfl⟩
      generalize hK : lookI (kindTexts t) V.type_.text.toList = K at HNX ⊢
      clear hK
      generalize V.over = X at d3 d4 d5 HNX ⊢
      generalize V.type_ = Y at d6 d7 d8 HNX ⊢
      cases cx : (X.kind.toList == [110, 97, 109, 101])
      · have DX := hide cx
        cases cy : (Y.kind.toList == [110, 97, 109, 101])
        · have DY := hide cy
          go_wp2
          go_roundw
          case rel => exact unhide HNX _ _ (by simp only [usedT, usedO, unhide DX, unhide DY, Bool.and_true, Bool.and_false, Bool.false_and, Bool.true_and, Bool.false_eq_true, ↓reduceIte]) (unhide HB9)
          case measure => simp [intOf]; omega
        · have DY := hide cy
          by_cases hS : S < 0
          · have DS := hide (decide_eq_true hS)
            by_cases hK : K < 0
            · have DK := hide (decide_eq_true hK)
              go_wp2_with fail
              refine (first_any _ _ _).mono ?_
              rintro e u9 ⟨rfl, rfl⟩
              go_wp2
              go_roundw
              case rel => exact unhide HNX _ _ (by simp only [usedT, usedO, unhide DX, unhide DY, unhide DS, unhide DK, Bool.and_true, Bool.and_false, Bool.false_and, Bool.true_and, Bool.false_eq_true, ↓reduceIte]) (unhide HB9)
              case measure => simp [intOf]; omega
            · have DK := hide (decide_eq_false hK)
              go_wp2
              go_roundw
              case rel => exact unhide HNX _ _ (by simp only [usedT, usedO, unhide DX, unhide DY, unhide DS, unhide DK, Bool.and_true, Bool.and_false, Bool.false_and, Bool.true_and, Bool.false_eq_true, ↓reduceIte]) (unhide HB9)
              case measure => simp [intOf]; omega
          · have DS := hide (decide_eq_false hS)
            go_wp2
            go_roundw
            case rel => exact unhide HNX _ _ (by simp only [usedT, usedO, unhide DX, unhide DY, unhide DS, Bool.and_true, Bool.and_false, Bool.false_and, Bool.true_and, Bool.false_eq_true, ↓reduceIte]) (unhide HB9)
            case measure => simp [intOf]; omega
      · have DX := hide cx
        by_cases hO : O < 0
        · have DO := hide (decide_eq_true hO)
          go_wp2_with fail
          refine (first_any _ _ _).mono ?_
          rintro e u8 ⟨rfl, rfl⟩
          cases cy : (Y.kind.toList == [110, 97, 109, 101])
          · have DY := hide cy
            go_wp2
            go_roundw
            case rel => exact unhide HNX _ _ (by simp only [usedT, usedO, unhide DX, unhide DO, unhide DY, Bool.and_true, Bool.and_false, Bool.false_and, Bool.true_and, Bool.false_eq_true, ↓reduceIte]) (unhide HB9)
            case measure => simp [intOf]; omega
          · have DY := hide cy
            by_cases hS : S < 0
            · have DS := hide (decide_eq_true hS)
              by_cases hK : K < 0
              · have DK := hide (decide_eq_true hK)
                go_wp2_with fail
                refine (first_any _ _ _).mono ?_
                rintro e u9 ⟨rfl, rfl⟩
                go_wp2
                go_roundw
                case rel => exact unhide HNX _ _ (by simp only [usedT, usedO, unhide DX, unhide DO, unhide DY, unhide DS, unhide DK, Bool.and_true, Bool.and_false, Bool.false_and, Bool.true_and, Bool.false_eq_true, ↓reduceIte]) (unhide HB9)
                case measure => simp [intOf]; omega
              · have DK := hide (decide_eq_false hK)
                go_wp2
                go_roundw
                case rel => exact unhide HNX _ _ (by simp only [usedT, usedO, unhide DX, unhide DO, unhide DY, unhide DS, unhide DK, Bool.and_true, Bool.and_false, Bool.false_and, Bool.true_and, Bool.false_eq_true, ↓reduceIte]) (unhide HB9)
                case measure => simp [intOf]; omega
            · have DS := hide (decide_eq_false hS)
              go_wp2
              go_roundw
              case rel => exact unhide HNX _ _ (by simp only [usedT, usedO, unhide DX, unhide DO, unhide DY, unhide DS, Bool.and_true, Bool.and_false, Bool.false_and, Bool.true_and, Bool.false_eq_true, ↓reduceIte]) (unhide HB9)
              case measure => simp [intOf]; omega
        · have DO := hide (decide_eq_false hO)
          cases cy : (Y.kind.toList == [110, 97, 109, 101])
          · have DY := hide cy
            go_wp2
            go_roundw
            case rel => exact unhide HNX _ _ (by simp only [usedT, usedO, unhide DX, unhide DO, unhide DY, Bool.and_true, Bool.and_false, Bool.false_and, Bool.true_and, Bool.false_eq_true, ↓reduceIte]) (unhide HB9)
            case measure => simp [intOf]; omega
          · have DY := hide cy
            by_cases hS : S < 0
            · have DS := hide (decide_eq_true hS)
              by_cases hK : K < 0
              · have DK := hide (decide_eq_true hK)
                go_wp2_with fail
                refine (first_any _ _ _).mono ?_
                rintro e u9 ⟨rfl, rfl⟩
                go_wp2
                go_roundw
                case rel => exact unhide HNX _ _ (by simp only [usedT, usedO, unhide DX, unhide DO, unhide DY, unhide DS, unhide DK, Bool.and_true, Bool.and_false, Bool.false_and, Bool.true_and, Bool.false_eq_true, ↓reduceIte]) (unhide HB9)
                case measure => simp [intOf]; omega
              · have DK := hide (decide_eq_false hK)
                go_wp2
                go_roundw
                case rel => exact unhide HNX _ _ (by simp only [usedT, usedO, unhide DX, unhide DO, unhide DY, unhide DS, unhide DK, Bool.and_true, Bool.and_false, Bool.false_and, Bool.true_and, Bool.false_eq_true, ↓reduceIte]) (unhide HB9)
                case measure => simp [intOf]; omega
            · have DS := hide (decide_eq_false hS)
              go_wp2
              go_roundw
              case rel => exact unhide HNX _ _ (by simp only [usedT, usedO, unhide DX, unhide DO, unhide DY, unhide DS, Bool.and_true, Bool.and_false, Bool.false_and, Bool.true_and, Bool.false_eq_true, ↓reduceIte]) (unhide HB9)
              case measure => simp [intOf]; omega
    · have hend := fold_done hlt hfo
      clear HR0
      go_wp2_with fail
      refine (rules_any _ T t ((unhide HT).below hbr) hr hn).mono ?_
      rintro e w4 ⟨rv, rs, rfl, hrow4, hri4, hb4⟩
      have HRI4 := hide hri4
      have HBW := hide ((unhide HB).trans (hb4.mono hzr))
      obtain ⟨ra, rc, rfl, hvr⟩ := own_view hrow4
      have HVR := hide hvr
      have hrn : (t.rules ++ t.nevers).length ≤ 1602 := by rw [List.length_append]; omega
      have HGI := hide (show usedI t = foldAt (usedR t) (t.rules ++ t.nevers) 0 a by rw [hend]; rfl)
      generalize hz0' : a = z0 at HGI
      clear hz0'
      have HR0 := hide (MRel.start (W := w4) (wr := w4) (f := usedR t) (items := t.rules ++ t.nevers) (z := z0) (Below.refl _ _))
      generalize t.rules ++ t.nevers = RN at HR0 HRI4 HVR hrn HP HGI hvr hrow4 hri4
      clear hrow4 hri4 hb4 hvr hend hfo hbr p0 q0 q1 q2 q3 q4
      go_wp2_with fail
      go_loopw [3, 10, 11, 12, 13, 14, 15, 16] (fun at_ i _ _ _ _ _ _ wr => MRel w4 (usedR t) RN z0 at_ i wr) (fun _ i _ _ _ _ _ _ _ => RN.length - (intOf i).toNat)
      case atStart => exact unhide HR0
      case round =>
        obtain ⟨k, a, hkl, rfl, rfl, hfo, hbo⟩ := hrel
        have HBO := hide hbo
        have hzo := hbo.size
        by_cases hlt : k < RN.length
        · obtain ⟨g, rfl, hc⟩ := unhide HVR k hlt
          obtain ⟨vp, vg, vb, qs, ⟨f0, f1, f2, f3, f4, f5⟩, hpo, hng, hbw, hst⟩ := rules_at k hlt (unhide HRI4)
          have e0 := (hc (k * 6) (by omega)).trans f0
          have e1 := (hc (k * 6 + 1) (by omega)).trans f1
          have e2 := (hc (k * 6 + 2) (by omega)).trans f2
          have e3 := (hc (k * 6 + 3) (by omega)).trans f3
          have e4 := (hc (k * 6 + 4) (by omega)).trans f4
          have e5 := (hc (k * 6 + 5) (by omega)).trans f5
          obtain ⟨hpl, hgl, hil, hsl, hbl⟩ := unhide HP _ (List.getElem_mem hlt)
          have hql := StmtsIs.len hst
          have HNX := hide (fun (w' : World) (b : Int) (hb : b = foldAt (usedN t (RN[k]).params) (namesL (RN[k]).guard ++ insideL (RN[k]).body) 0 (foldAt (usedP t) (RN[k]).params 0 a)) hw => MRel.next (W := w4) (wr := w') (f := usedR t) (items := RN) (z := z0) (a := a) (b := b) hlt hfo hb hw)
          generalize (RN[k]).params = ps at HNX hpo hpl
          generalize (RN[k]).guard = gd at HNX hng hgl
          generalize (RN[k]).body = bd at HNX hst hil hsl hbl hql
          generalize (RN[k]).name = nm at e0 e1 e2
          obtain ⟨ma, mc, rfl, hmv⟩ := own_view hpo
          obtain ⟨gp, rfl⟩ := hng.ptr
          obtain ⟨ba, bn, bc, rfl⟩ := own_slice hbw
          have HMV := hide hmv
          have HPO := hide hpo
          have HNG := hide hng
          have HBOW := hide hbw
          have HST := hide hst
          have HQ0 := hide (MRel.start (W := w4) (f := usedP t) (items := ps) (z := a) hbo)
          have c3 := cell_later hbo e3
          clear hc f0 f1 f2 f3 f4 f5 hpo hmv hfo hbo hng hbw hst
          go_wp2_with fail
          go_loopw [3, 11, 12] (fun at_ i _ wr => MRel w4 (usedP t) ps a at_ i wr) (fun _ i _ _ => ps.length - (intOf i).toNat)
          case atStart => exact unhide HQ0
          case round =>
            obtain ⟨k3, b3, hk3, rfl, rfl, hf3, hb3⟩ := hrel
            have HB3 := hide hb3
            have c3 := cell_later hb3 e3
            by_cases hl3 : k3 < ps.length
            · obtain ⟨gq, rfl, hcp⟩ := unhide HMV k3 hl3
              obtain ⟨z1, z2⟩ := pps2_at ps k3 hl3
              replace z1 := cell_later hb3 ((hcp (k3 * 6 + 4) (by omega)).trans z1)
              replace z2 := cell_later hb3 ((hcp (k3 * 6 + 5) (by omega)).trans z2)
              have HNX3 := hide (fun (w' : World) (b : Int) (hb : b = if lookI (setTexts t) (ps[k3]).set_.text.toList < 0 then firstI b3 (ps[k3]).set_.at_ else b3) hw => MRel.next (W := w4) (wr := w') (f := usedP t) (items := ps) (z := a) (a := b3) (b := b) hl3 hf3 hb hw)
              generalize (ps[k3]).set_ = x at z1 z2 HNX3
              have HT3 := hide ((unhide HT).below ((unhide HBW).trans (hb3.mono (unhide HBW).size)))
              clear hcp hf3 hb3
              go_wp2_with fail
              refine (set_any _ T t x.text (unhide HT3) hs0).mono ?_
              rintro e u1 ⟨rfl, rfl⟩
              generalize hS : lookI (setTexts t) x.text.toList = S at HNX3 ⊢
              clear hS
              by_cases hneg : S < 0
              · rw [if_pos hneg] at HNX3
                go_wp2_with fail
                refine (first_any _ _ _).mono ?_
                rintro e u9 ⟨rfl, rfl⟩
                generalize hF : firstI b3 (x.at_ : Int) = F at HNX3
                have HRI := hide (unhide HNX3 _ F rfl (unhide HB3))
                clear HNX3 hF
                go_wp2
                go_roundw
                case rel => exact unhide HRI
                case measure => simp [intOf]; omega
              · rw [if_neg hneg] at HNX3
                have HRI := hide (unhide HNX3 _ b3 rfl (unhide HB3))
                clear HNX3
                go_wp2
                go_roundw
                case rel => exact unhide HRI
                case measure => simp [intOf]; omega
            · have hend := fold_done hl3 hf3
              have HE3 := hide hend
              have c4 := cell_later hb3 e4
              have c5 := cell_later hb3 e5
              clear hend hf3
              go_wp2_with fail
              refine (names_all gd _ (T + 1) (.pointer gp) (by omega) ((unhide HNG).below hb3)).mono ?_
              rintro e w6 ⟨v6, rfl, hv6, hb6⟩
              have hz3 := hb3.size
              have HB6 := hide ((unhide HB3).trans (hb6.mono hz3))
              have hz6 := (unhide HB6).size
              have h36 := hb6.size
              have HV6 := hide hv6
              obtain ⟨a6, l6, c6, rfl⟩ := own_slice hv6
              have c5' := cell_later (unhide HB6) e5
              clear hv6 hb6 c3 c4 c5 hb3
              go_wp2_with fail
              refine (inside_all bd hsl _ (T + 1) (.slice ba bn bc) qs (by omega) (owns_below (unhide HBOW) (unhide HB6)) ((unhide HST).below (unhide HB6)) (by omega)).mono ?_
              rintro e w7 ⟨v7, rfl, hv7, hb7⟩
              have HB7 := hide ((unhide HB6).trans (hb7.mono hz6))
              have hz7 := (unhide HB7).size
              have h67 := hb7.size
              have HV7 := hide hv7
              have HV67 := hide (owns_below (unhide HV6) hb7)
              have hlt6 := own_lt (unhide HV6)
              obtain ⟨a7, l7, c7, rfl⟩ := own_slice hv7
              clear hv7 hb7 c5' HV6
              obtain ⟨hi, hz0, hz1, hz2⟩ := unhide HI
              go_wp2_with (at_builtin; go_must (refine wpList_append_slice rfl _ _ 45 rfl wr.heap.size 56 i0 _ 3 40 Tryz.underlying45 hi hz0 hz1 hz2 rfl (by decide) (.slice a6 l6 c6) _ _ rfl (unhide HV67) (.slice a7 l7 c7) _ _ _ rfl (unhide HV7) (toksCells_one _) (by unfold maxLen; omega) (by omega) (by omega) ?_))
              intro v8 w8 hown8 hgrow8 hat8
              have HB48 := hide ((unhide HB7).grown hgrow8 (by omega) (fun g hg => by have := own_ge (unhide HV67) g hg; omega))
              have HB8 := hide ((unhide HBW).trans ((unhide HB48).mono (unhide HBW).size))
              have hown8' : w8.ownsRow wr.heap.size 56 3 v8 (namesL gd ++ insideL bd).length (toksCells (namesL gd ++ insideL bd)) := by
                rw [toksCells_app, List.length_append]; exact hown8
              obtain ⟨a8, c8, rfl, hnv⟩ := own_view hown8'
              have hnl : (namesL gd ++ insideL bd).length ≤ 20000 := by rw [List.length_append]; omega
              have HNV := hide hnv
              generalize hNL : namesL gd ++ insideL bd = NL at hnv HNV hnl hown8'
              have HNLE2 := hide hNL.symm
              have j0 := cell_later (unhide HB48) e0
              have j1 := cell_later (unhide HB48) e1
              have j2 := cell_later (unhide HB48) e2
              have j3 := cell_later (unhide HB48) e3
              have j4 := cell_later (unhide HB48) e4
              have j5 := cell_later (unhide HB48) e5
              have HPO8 := hide (owns_below (unhide HPO) (unhide HB48))
              have HS0 := hide (MRel.start (W := w8) (wr := w8) (f := usedN t ps) (items := NL) (z := b3) (Below.refl _ _))
              clear hown8 hgrow8 hat8 hown8' hnv hNL HV67 HV7 hi hz0 hz1 hz2 hlt6
              go_wp2_with fail
              go_loopw [3, 15, 16] (fun at_ i _ wr => MRel w8 (usedN t ps) NL b3 at_ i wr) (fun _ i _ _ => NL.length - (intOf i).toNat)
              case atStart => exact unhide HS0
              case round =>
                obtain ⟨k4, a4, hk4, rfl, rfl, hf4, hb4⟩ := hrel
                have HB4 := hide hb4
                have hz4 := hb4.size
                by_cases hl4 : k4 < NL.length
                · obtain ⟨g4, rfl, hc4⟩ := unhide HNV k4 hl4
                  obtain ⟨y1, y2⟩ := toks_at NL k4 hl4
                  replace y1 := cell_later hb4 ((hc4 (k4 * 3 + 1) (by omega)).trans y1)
                  have Y2 := hide ((hc4 (k4 * 3 + 2) (by omega)).trans y2)
                  have b0 := cell_later hb4 j0
                  have b1 := cell_later hb4 j1
                  have b2 := cell_later hb4 j2
                  have b3' := cell_later hb4 j3
                  have b4 := cell_later hb4 j4
                  have b5 := cell_later hb4 j5
                  have HNX4 := hide (fun (w' : World) (b : Int) (hb : b = if knownB t ps (NL[k4]).text.toList then a4 else firstI a4 (NL[k4]).at_) hw => MRel.next (W := w8) (wr := w') (f := usedN t ps) (items := NL) (z := b3) (a := a4) (b := b) hl4 hf4 hb hw)
                  generalize NL[k4] = X at y1 y2 Y2 HNX4
                  have hb8d := ((unhide HB8).trans (hb4.mono (unhide HB8).size)).drew
                  have HKN := hide (known_any wr.drew T (T + 1) t nm ps ma ps.length mc gp ba bn bc X.text ((unhide HT).below hb8d) (unhide HTO) (owns_below (owns_below (unhide HPO8) hb4) ((Below.refl _ _).drew)) hpl)
                  clear hf4 hb4 hc4 y2 hb8d
                  go_wp2_with fail
                  go_region_held3 (fun w' => w'.cell? ⟨g, k * 6, none⟩ = some (.string nm.kind) ∧ w'.cell? ⟨g, k * 6 + 1, none⟩ = some (.string nm.text) ∧ w'.cell? ⟨g, k * 6 + 2, none⟩ = some (.int .i64 nm.at_) ∧ w'.cell? ⟨g, k * 6 + 3, none⟩ = some (.slice ma ps.length mc) ∧ w'.cell? ⟨g, k * 6 + 4, none⟩ = some (.pointer gp) ∧ w'.cell? ⟨g, k * 6 + 5, none⟩ = some (.slice ba bn bc) ∧ w'.cell? ⟨g4, k4 * 3 + 1, none⟩ = some (.string X.text))
                    (first | go_keep | (go_split_ands; refine ⟨?_, ?_, ?_, ?_, ?_, ?_, ?_⟩ <;> (refine cell_later hb9 ?_; first | assumption | simp [*])))
                    ((go_at_call 46; refine (unhide HKN).mono ?_; rintro e w9 ⟨rfl, hb9⟩))
                  have HB9 := hide ((unhide HB4).drew.trans (hb9.mono (by simpa using (unhide HB4).size)))
                  have y2' := cell_later (unhide HB9) (unhide Y2)
                  clear hb9 b0 b1 b2 b3' b4 b5 y1
                  cases ck : knownB t ps X.text.toList
                  · rw [ck] at HNX4
                    go_wp2_with fail
                    refine (first_any _ _ _).mono ?_
                    rintro e u9 ⟨rfl, rfl⟩
                    generalize hF : firstI a4 (X.at_ : Int) = F at HNX4
                    have HRI := hide (unhide HNX4 _ F (by rw [if_neg (by decide)]) (unhide HB9))
                    clear HNX4 hF
                    go_wp2
                    go_roundw
                    case rel => exact unhide HRI
                    case measure => simp [intOf]; omega
                  · rw [ck] at HNX4
                    have HRI := hide (unhide HNX4 _ a4 (by rw [if_pos (by rfl)]) (unhide HB9))
                    clear HNX4
                    go_wp2
                    go_roundw
                    case rel => exact unhide HRI
                    case measure => simp [intOf]; omega
                · have hend := fold_done hl4 hf4
                  have HRN := hide (unhide HNX _ a4 (by rw [← unhide HNLE2, ← unhide HE3]; exact hend) ((unhide HB48).trans (hb4.mono (unhide HB48).size)))
                  clear hend hf4 hb4
                  go_wp2
                  go_roundw
                  case rel => exact unhide HRN
                  case measure => simp [intOf]; omega
        · have hend := fold_done hlt hfo
          have HE := hide (show a = usedI t by rw [unhide HGI]; exact hend)
          clear hend hfo
          go_wp2
          go_ret
          exact ⟨ret_int (unhide HE), (unhide HBW).trans ((unhide HBO).mono (unhide HBW).size)⟩

end Go.Proofs.YtpmcnonmkghokaaGreat

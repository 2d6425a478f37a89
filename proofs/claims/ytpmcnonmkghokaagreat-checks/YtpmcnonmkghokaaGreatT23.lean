/-
  The reference's Read and Check.
  For every text, orbits.Check tells the error and the place that the document's reading (orbitsref.Check) tells: the law Checks returns true, without a condition.
-/
import Derived.Test.YtpmcnonmkghokaaGreatT21
import Derived.Test.YtpmcnonmkghokaaGreatT22
import Derived.Test.YtpmcnonmkghokaaGreatT14
import Derived.ProofKit
import Derived.OpenShut
import Derived.ShutString
set_option linter.unusedVariables false
set_option linter.unusedSimpArgs false
namespace Go.Proofs.YtpmcnonmkghokaaGreat
open Go.RowKit
attribute [local go_sem ↓] Go.wp_at_zero Go.wp_at_succ

/-- What Read comes to: the error and its place. -/
def refC (s : ByteArray) : Int × Int :=
  if 800 < s.size then (1, 0) else match (refToks s).2 with
    | some k => (2, k)
    | none => match (rTree (refToks s).1).2 with
      | some k => (3, k)
      | none => treeR2 (rTree (refToks s).1).1
theorem chk_same (s : ByteArray) : chkC s = refC s := by
  unfold chkC refC
  split
  · rfl
  · rename_i hb
    cases h1 : (refToks s).2 with
    | some k => rfl
    | none =>
      simp only
      cases h2 : (rTree (refToks s).1).2 with
      | some k => rfl
      | none => exact tree_same (refToks_ok s (by omega) h1) h2

/-- What is asked of a tree by the walks of the reference. -/
structure RefOk (t : PTree) : Prop where
  ok : TreeOk t
  fit : TreeFit t
  rules : t.rules.length ≤ 801
  nevers : t.nevers.length ≤ 801
  pars : ∀ r ∈ t.rules ++ t.nevers, r.params.length ≤ 801 ∧ (namesL r.guard).length ≤ 10000 ∧ (insideL r.body).length ≤ 10000 ∧ SLenAll r.body ∧ blen r.body ≤ 1000
  sets : ∀ s ∈ t.sets, DigT s.size
  tops : ∀ v ∈ t.vars, (v.top.kind.toList == [100, 105, 103, 105, 116]) = true → DigT v.top
  glob : (globalsL t).length ≤ 90000
  gd : ∀ r ∈ t.rules ++ t.nevers, isNil r.guard = false ∧ XOk r.guard ∧ SOk r.body ∧ ∀ p ∈ r.params, p.set_.text.size ≤ 800
theorem ref_ok {L : List Tok} (hL : ToksOk L) (h : (rTree L).2 = none) : RefOk (rTree L).1 := by
  have g := tree_good hL h
  have s := tree_size hL g
  generalize (rTree L).1 = t at g s
  have rok : ∀ r ∈ t.rules ++ t.nevers, RuleOk r := fun r hr => by
    rcases List.mem_append.mp hr with hr | hr
    · exact g.rules r hr
    · exact (g.nevers r hr).1
  refine ⟨⟨s.sets, s.kinds, s.vars, s.members⟩, ⟨?_, ?_⟩, s.rules, s.nevers, ?_, g.sets, ?_, ?_, ?_⟩
  · intro k hk; exact (s.nm _ (mem_kinds hk (List.mem_cons_self ..))).2
  · intro v hv
    have hok := g.vars v hv
    constructor
    · obtain ⟨_, h1 | h1 | h1⟩ := hok
      · obtain ⟨a, b, c⟩ := h1
        have : v.type_.text.size = v.type_.text.toList.length := by rw [toList_dat]; simp
        rw [this, b]; simp
      · obtain ⟨a, b, c, d⟩ := h1
        have : v.type_.text.size = v.type_.text.toList.length := by rw [toList_dat]; simp
        rw [this, b]; simp
      · refine (s.nm _ (mem_vars hv ?_)).2
        unfold varAll overN
        rw [h1.1]; simp
    · exact (vr_sizes s hv hok).1
  · intro r hr
    obtain ⟨x, b, bl⟩ := rok r hr
    obtain ⟨e1, e2, e3⟩ := rule_len (s.all r hr)
    exact ⟨e1, by omega, by omega, b.slen, by omega⟩
  · intro v hv hk
    obtain ⟨_, h1 | h1 | h1⟩ := g.vars v hv
    · rw [h1.2.2, noTok_kind] at hk; cases hk
    · exact h1.2.2.1
    · rw [h1.2, noTok_kind] at hk; cases hk
  · have := (globals_sub t).length_le
    have := g.nms.le
    have := hL.len
    omega
  · intro r hr
    obtain ⟨x, b, bl⟩ := rok r hr
    exact ⟨x.some, x.ok, b.sok, fun p hp => (s.nm _ (mem_rules hr (mem_par hp).2)).2⟩

/-- What Read answers. -/
def RdPost (s : ByteArray) (w : World) (e : Ending) (w' : World) : Prop :=
  Below w.heap.size w w' ∧ ((¬ (refC s).1 = 0 ∧ e = .returned (.tuple #[.pointer none, .int .i64 (refC s).1, .int .i64 (refC s).2])) ∨
    ((refC s).1 = 0 ∧ (refC s).2 = 0 ∧ ∃ T, w.heap.size ≤ T ∧ e = .returned (.tuple #[.pointer (some ⟨T, 0, none⟩), .int .i64 0, .int .i64 0]) ∧ TreeIs w' T (rTree (refToks s).1).1))
def tyRuleB (t : PTree) (r : PRule) : Bool := ((typedT t r.params r.guard).toList == [116, 114, 117, 116, 104]) && wellB t r.params r.body
theorem typedAll_eq (t : PTree) : typedAll t = (t.rules ++ t.nevers).all (tyRuleB t) := rfl

set_option maxRecDepth 100000 in
set_option maxHeartbeats 8000000 in
theorem read_any (s : ByteArray) (w : World) : Calls Tryz.prog 8 #[.string s] w fun e w' => RdPost s w e w' := by
  by_cases hbig : 800 < s.size
  · have hE : refC s = (1, 0) := by unfold refC; rw [if_pos hbig]
    have HE := hide hE
    clear hE
    go_enter Tryz.func8, Tryz.ntmps8
    go_wp2
    go_ret3
    unfold RdPost
    rw [unhide HE]
    exact ⟨Below.refl _ _, Or.inl ⟨by decide, rfl⟩⟩
  · have hss : s.size ≤ 800 := by omega
    have hE : refC s = match (refToks s).2 with | some k => (2, (k : Int)) | none => match (rTree (refToks s).1).2 with | some k => (3, (k : Int)) | none => treeR2 (rTree (refToks s).1).1 := by unfold refC; rw [if_neg hbig]
    have HE := hide hE
    clear hE
    go_enter Tryz.func8, Tryz.ntmps8
    go_wp2_with fail
    refine (toks_any s w hss).mono ?_
    rintro e w1 ⟨hb1, hp⟩
    have HB1 := hide hb1
    have hz1 := hb1.size
    rcases hp with ⟨hno, v, rfl, hv⟩ | ⟨k, hk, rfl⟩
    · rw [hno] at HE
      have hL := refToks_ok s hss hno
      have HV := hide (owns_mono (Nat.zero_le _) hv)
      obtain ⟨va, vl, vc, rfl⟩ := own_slice hv
      clear hb1 hv
      go_wp2_with fail
      refine (tree_any w1 _ _ (unhide HV) hL.pos hL.len hL.finT (fun i hi hd => digit_dig hL hi hd)).mono ?_
      rintro e w2 ⟨hb2, hp⟩
      have HB2 := hide ((unhide HB1).trans (hb2.mono hz1))
      have hz2 := hb2.size
      rcases hp with ⟨k, hk, rfl⟩ | ⟨hno2, T, hT, rfl, htr⟩
      · rw [hk] at HE
        clear hb2
        go_wp2
        go_ret3
        unfold RdPost
        rw [unhide HE]
        exact ⟨unhide HB2, Or.inl ⟨by simp, rfl⟩⟩
      · rw [hno2] at HE
        have rk := ref_ok hL hno2
        obtain ⟨t, ht⟩ : ∃ t, t = (rTree (refToks s).1).1 := ⟨_, rfl⟩
        rw [← ht] at HE rk htr
        have HTE := hide ht
        have HTR := hide htr
        have HE' := hide (show treeR2 t = if 0 ≤ tooManyI t then (4, tooManyI t) else if 0 ≤ firstI (givenI t) (usedI t) then (5, firstI (givenI t) (usedI t)) else if typedAll t then (0, 0) else (6, 0) from rfl)
        clear hb2 ht htr
        go_wp2_with fail
        refine (tooMany_any w2 T t (unhide HTR) rk.ok rk.rules rk.nevers (fun r hr => (rk.pars r hr).1) rk.sets rk.tops).mono ?_
        rintro e w3 ⟨rfl, hb3⟩
        have HB3 := hide ((unhide HB2).trans (hb3.mono (by omega)))
        have HTR3 := hide ((unhide HTR).below hb3)
        have hz3 := hb3.size
        generalize tooManyI t = P at HE' ⊢
        clear hb3 HTR
        by_cases hP : 0 ≤ P
        · rw [if_pos hP] at HE'
          go_wp2
          go_ret3
          unfold RdPost
          rw [unhide HE]
          simp only [unhide HE']
          exact ⟨unhide HB3, Or.inl ⟨by decide, rfl⟩⟩
        · rw [if_neg hP] at HE'
          go_wp2_with fail
          refine (given_any w3 T t (unhide HTR3) rk.ok rk.rules rk.nevers (fun r hr => (rk.pars r hr).1) rk.glob).mono ?_
          rintro e w4 ⟨rfl, hb4⟩
          have HB4 := hide ((unhide HB3).trans (hb4.mono (by omega)))
          have HTR4 := hide ((unhide HTR3).below hb4)
          have hz4 := hb4.size
          generalize givenI t = G at HE' ⊢
          clear hb4 HTR3
          go_wp2_with fail
          refine (used_any w4 T t (unhide HTR4) rk.ok rk.rules rk.nevers rk.pars).mono ?_
          rintro e w5 ⟨rfl, hb5⟩
          have HB5 := hide ((unhide HB4).trans (hb5.mono (by omega)))
          have HTR5 := hide ((unhide HTR4).below hb5)
          have hz5 := hb5.size
          generalize usedI t = U at HE' ⊢
          clear hb5 HTR4
          go_wp2_with fail
          refine (first_any _ _ _).mono ?_
          rintro e w6 ⟨rfl, rfl⟩
          generalize firstI G U = F at HE' ⊢
          by_cases hF : 0 ≤ F
          · rw [if_pos hF] at HE'
            go_wp2
            go_ret3
            unfold RdPost
            rw [unhide HE]
            simp only [unhide HE']
            exact ⟨unhide HB5, Or.inl ⟨by decide, rfl⟩⟩
          · rw [if_neg hF, typedAll_eq] at HE'
            go_wp2_with fail
            refine (rules_any w6 T t (unhide HTR5) rk.rules rk.nevers).mono ?_
            rintro e w7 ⟨rv, rs, rfl, hrow, hri, hb7⟩
            have HB7 := hide ((unhide HB5).trans (hb7.mono (by omega)))
            have HTR7 := hide ((unhide HTR5).below hb7)
            have hz7 := hb7.size
            obtain ⟨ra, rc, rfl, hvr⟩ := own_view hrow
            have HVR := hide hvr
            have HRI := hide hri
            have hrn : (t.rules ++ t.nevers).length ≤ 1602 := by have := rk.rules; have := rk.nevers; rw [List.length_append]; omega
            have HR0 := hide (ARel.start (W := w7) (wr := w7) (f := tyRuleB t) (items := t.rules ++ t.nevers) (Below.refl _ _))
            have HGD := hide rk.gd
            have HPA := hide rk.pars
            generalize t.rules ++ t.nevers = RN at *
            clear hb7 HTR5 hrow hri hvr
            go_wp2_with fail
            go_loopw [10, 11, 12] (fun i _ _ wr => ARel w7 (tyRuleB t) RN i wr) (fun i _ _ _ => RN.length - (intOf i).toNat)
            case atStart => exact unhide HR0
            case round =>
              obtain ⟨k, hk, rfl, hall, hb⟩ := hrel
              have HBr := hide hb
              have hsz := hb.size
              by_cases hlt : k < RN.length
              · obtain ⟨g, rfl, hc⟩ := unhide HVR k hlt
                obtain ⟨vp, vg, vb, qs, ⟨f0, f1, f2, f3, f4, f5⟩, hpo, hng, hbw, hst⟩ := rules_at k hlt (unhide HRI)
                have e0 := cell_later hb ((hc (k * 6) (by omega)).trans f0)
                have e1 := cell_later hb ((hc (k * 6 + 1) (by omega)).trans f1)
                have e2 := cell_later hb ((hc (k * 6 + 2) (by omega)).trans f2)
                have e3 := cell_later hb ((hc (k * 6 + 3) (by omega)).trans f3)
                have e4 := cell_later hb ((hc (k * 6 + 4) (by omega)).trans f4)
                have e5 := cell_later hb ((hc (k * 6 + 5) (by omega)).trans f5)
                have g0 := (hc (k * 6) (by omega)).trans f0
                have g1 := (hc (k * 6 + 1) (by omega)).trans f1
                have g2 := (hc (k * 6 + 2) (by omega)).trans f2
                have g3 := (hc (k * 6 + 3) (by omega)).trans f3
                have g4 := (hc (k * 6 + 4) (by omega)).trans f4
                have g5 := (hc (k * 6 + 5) (by omega)).trans f5
                have hstp := all_step hlt hall
                obtain ⟨y1, y2, y3, y4⟩ := unhide HGD _ (List.getElem_mem hlt)
                obtain ⟨z1, z2, z3, z4, z5⟩ := unhide HPA _ (List.getElem_mem hlt)
                have hql := StmtsIs.len hst
                generalize RN[k] = r at e0 e1 e2 g0 g1 g2 hpo hng hst y1 y2 y3 y4 z1 z2 z3 z4 z5 hstp hql
                obtain ⟨ma, ml, mc, rfl⟩ := own_slice hpo
                obtain ⟨gp, rfl⟩ := hng.ptr
                obtain ⟨ba, bn, bc, rfl⟩ := own_slice hbw
                have HTY := hide (typed_all r.guard wr.drew T (T + 1) (T + 1) t r.name r.params ma ml mc gp ba bn bc (.pointer gp) y1 y2 ((unhide HTR7).below hb.drew) rk.ok rk.fit y4 (owns_below hpo hb.drew) z1 (hng.below hb.drew))
                have HWE := hide (fun (w9 : World) (h9 : Below w7.heap.size w7 w9) => well_all r.body w9 T (T + 1) (T + 1) t r.name r.params ma ml mc gp ba bn bc (.slice ba bn bc) qs y3 ((unhide HTR7).below h9) rk.ok rk.fit y4 (owns_below hpo h9) z1 (owns_below hbw h9) (hst.below h9) (by omega))
                have hru : tyRuleB t r = (((typedT t r.params r.guard).toList == [116, 114, 117, 116, 104]) && wellB t r.params r.body) := rfl
                rw [hru] at hstp
                have HST := hide hstp
                generalize typedT t r.params r.guard = ty at *
                generalize wellB t r.params r.body = wl at *
                unfold ruleV at *
                clear hc f0 f1 f2 f3 f4 f5 hpo hng hbw hst y1 y2 y3 y4 z1 z2 z3 z4 z5 hql hstp hru hall hb HR0
                go_wp2_with fail
                go_region_held3 (fun w' => w'.cell? ⟨g, k * 6, none⟩ = some (.string r.name.kind) ∧ w'.cell? ⟨g, k * 6 + 1, none⟩ = some (.string r.name.text) ∧ w'.cell? ⟨g, k * 6 + 2, none⟩ = some (.int .i64 r.name.at_) ∧ w'.cell? ⟨g, k * 6 + 3, none⟩ = some (.slice ma ml mc) ∧ w'.cell? ⟨g, k * 6 + 4, none⟩ = some (.pointer gp) ∧ w'.cell? ⟨g, k * 6 + 5, none⟩ = some (.slice ba bn bc))
                  (first | exact ⟨e0, e1, e2, e3, e4, e5⟩ | exact ⟨n0, n1, n2, n3, n4, n5⟩)
                  ((go_at_call 19; refine (unhide HTY).mono ?_; rintro e w9 ⟨rfl, hb9⟩; have HB9 := hide ((unhide HBr).drew.trans (hb9.mono (by simpa using hsz))); have n0 := cell_later (unhide HB9) g0; have n1 := cell_later (unhide HB9) g1; have n2 := cell_later (unhide HB9) g2; have n3 := cell_later (unhide HB9) g3; have n4 := cell_later (unhide HB9) g4; have n5 := cell_later (unhide HB9) g5; clear hb9))
                have HW9 := hide (unhide HWE w9.drew (unhide HB9).drew)
                clear e0 e1 e2 e3 e4 e5 HWE HTY
                go_wp2_with fail
                go_region_held3 (fun w' => w'.cell? ⟨g, k * 6, none⟩ = some (.string r.name.kind) ∧ w'.cell? ⟨g, k * 6 + 1, none⟩ = some (.string r.name.text) ∧ w'.cell? ⟨g, k * 6 + 2, none⟩ = some (.int .i64 r.name.at_) ∧ w'.cell? ⟨g, k * 6 + 3, none⟩ = some (.slice ma ml mc) ∧ w'.cell? ⟨g, k * 6 + 4, none⟩ = some (.pointer gp) ∧ w'.cell? ⟨g, k * 6 + 5, none⟩ = some (.slice ba bn bc))
                  (first | exact ⟨n0, n1, n2, n3, n4, n5⟩ | exact ⟨p0, p1, p2, p3, p4, p5⟩)
                  ((go_at_call 20; refine (unhide HW9).mono ?_; rintro e w10 ⟨rfl, hb10⟩; have HB10 := hide ((unhide HB9).drew.trans (hb10.mono (by simpa using (unhide HB9).size))); have p0 := cell_later (unhide HB10) g0; have p1 := cell_later (unhide HB10) g1; have p2 := cell_later (unhide HB10) g2; have p3 := cell_later (unhide HB10) g3; have p4 := cell_later (unhide HB10) g4; have p5 := cell_later (unhide HB10) g5; clear hb10))
                clear n0 n1 n2 n3 n4 n5 p0 p1 p2 p3 p4 p5 HW9 g0 g1 g2 g3 g4 g5
                cases hty : (ty.toList == [116, 114, 117, 116, 104])
                · rw [hty] at HST
                  go_wp2
                  go_ret3
                  unfold RdPost
                  rw [unhide HE, unhide HE', unhide HST]
                  exact ⟨(unhide HB7).trans ((unhide HB10).mono (by omega)), Or.inl ⟨by simp, rfl⟩⟩
                · rw [hty] at HST
                  cases wl
                  · go_wp2
                    go_ret3
                    unfold RdPost
                    rw [unhide HE, unhide HE', unhide HST]
                    exact ⟨(unhide HB7).trans ((unhide HB10).mono (by omega)), Or.inl ⟨by simp, rfl⟩⟩
                  · go_wp2
                    go_roundw
                    case rel => exact ⟨k + 1, by omega, by go_num, by rw [unhide HST]; rfl, unhide HB10⟩
                    case measure => simp [intOf]; omega
              · have hd := all_done hlt hall
                rw [hd] at HE'
                clear hd hall
                go_wp2
                go_ret3
                unfold RdPost
                rw [← unhide HTE, unhide HE, unhide HE']
                exact ⟨(unhide HB7).trans ((unhide HBr).mono (by omega)), Or.inr ⟨rfl, rfl, T, by omega, rfl, (unhide HTR7).below (unhide HBr)⟩⟩
    · rw [hk] at HE
      clear hb1
      go_wp2
      go_ret3
      unfold RdPost
      rw [unhide HE]
      exact ⟨unhide HB1, Or.inl ⟨by simp, rfl⟩⟩

set_option maxRecDepth 100000 in
set_option maxHeartbeats 2000000 in
theorem rcheck_any (s : ByteArray) (w : World) : Calls Tryz.prog 5 #[.string s] w fun e w' => e = .returned (.tuple #[.int .i64 (refC s).1, .int .i64 (refC s).2]) ∧ Below w.heap.size w w' := by
  go_enter Tryz.func5, Tryz.ntmps5
  go_wp2_with fail
  refine (read_any s w).mono ?_
  rintro e w1 ⟨hb1, ⟨h0, rfl⟩ | ⟨h0, h1, T, hT, rfl, htr⟩⟩
  · have HB := hide hb1
    clear hb1 h0
    go_wp2
    go_ret2
    exact ⟨rfl, unhide HB⟩
  · have HB := hide hb1
    have H0 := hide h0
    have H1 := hide h1
    clear hb1 htr h0 h1
    go_wp2
    go_ret2
    rw [unhide H0, unhide H1]
    exact ⟨rfl, unhide HB⟩

end Go.Proofs.YtpmcnonmkghokaaGreat
namespace Go.Proofs.YtpmcnonmkghokaaGreat
open Go.RowKit
attribute [local go_sem ↓] Go.wp_at_zero Go.wp_at_succ

theorem num_any (n : Int) (w : World) : Calls Tryz.prog 6 #[.int .i64 n] w fun e w' => e = .returned (.int .i64 n) ∧ w' = w := by
  go_enter Tryz.func6, Tryz.ntmps6
  go_wp2
  go_ret
  exact ⟨rfl, rfl⟩

set_option maxRecDepth 100000 in
set_option maxHeartbeats 2000000 in
theorem checks_any (s : ByteArray) (w : World) : Calls Tryz.prog 3 #[.string s] w fun e w' => e = .returned (.bool true) ∧ Below w.heap.size w w' := by
  have HS := hide (chk_same s)
  go_enter Tryz.func3, Tryz.ntmps3
  go_wp2_with fail
  refine (check_any s w).mono ?_
  rintro e w1 ⟨rfl, hb1⟩
  have HB1 := hide hb1
  clear hb1
  go_wp2_with fail
  refine (rcheck_any s w1).mono ?_
  rintro e w2 ⟨rfl, hb2⟩
  have HB2 := hide ((unhide HB1).trans (hb2.mono (unhide HB1).size))
  clear hb2
  rw [unhide HS]
  generalize (refC s).1 = a
  generalize (refC s).2 = b
  go_wp2_with fail
  refine (num_any a w2).mono ?_
  rintro e w3 ⟨rfl, rfl⟩
  go_wp2_with fail
  refine (num_any a w3).mono ?_
  rintro e w4 ⟨rfl, rfl⟩
  go_wp2
  go_ret
  exact ⟨by simp, unhide HB2⟩

end Go.Proofs.YtpmcnonmkghokaaGreat
namespace Go.Proofs.YtpmcnonmkghokaaGreat.checks
open Go.ChangeShapes Go.WideShapes Go.ChangeAt Go.RowKit
open Go.ChangeMaps (open_string shut_string)

theorem own : ownKnob Tryz.prog.godebug = none := by kernel_rfl
/-- Where nothing that was handed in lies in memory, new blocks turn nothing. -/
theorem post_new {H : Type} {enc : TypeId × Value → H} {P : Program} {f : Func} {s : ChangeSpec} {apart fresh handsOn again : Bool} {W W' : World} {args : Array Value} {v : Value} {ds gs : List (DataW H)}
    (hW : DataW.Whole enc P f.params.toList s.vars apart W args.toList ds gs [])
    (hres : ∀ (b : Nat) (sp : Nat → Bool) (hd : Bool), DataW.TrodAll enc P W' b sp hd f.resultTypes.toList (v.resultList f.resultTypes.size) (s.fn H (ds ++ gs)).results [])
    (hargs : ∀ sp : Nat → Bool, DataW.TrodAll enc P W' 0 sp true f.params.toList args.toList (s.fn H (ds ++ gs)).args [])
    (hvars : ∀ sp : Nat → Bool, DataW.TrodVars enc P W' sp s.vars (s.fn H (ds ++ gs)).vars [])
    (hk : Below W.heap.size W W')
    (hok : ∀ (j : Nat) (t : TypeId) (r : Value), f.resultTypes[j]? = some t → (v.resultList f.resultTypes.size)[j]? = some r → Value.okWide P W' .any 0 t r) :
    s.post enc P f apart fresh handsOn again W args v W' := by
  refine ⟨ds, gs, [], [], [], [], hW, hres _ _ _, hargs _, hvars _, World.keptBut_mono (fun p hp => by cases hp) (hk.frame (fun _ => False)), fun _ => ?_⟩
  exact ⟨hok, _, _, [], ⟨[], [], trodAll_append (hargs _) (hres _ _ _), hvars _, rfl, fun b off hp => by simp at hp, fun _ => by simp⟩, fun p hp _ => by simp at hp⟩

set_option maxRecDepth 100000 in
theorem lifted (os : Os) (started : os.Started) (H : Type) (enc : TypeId × Value → H) :
    ReturnsInHanded {} Tryz.checked os 3 .any (Rows.checksSpec.pre6 enc Tryz.prog Tryz.f3 Rows.checksRow.domain false) (Rows.checksSpec.post enc Tryz.prog Tryz.f3 false true false false) := by
  refine returnsInHanded_of_change (C := Tryz.checked) own started (by kernel_rfl) Tryz.func3
    (ChangeSpec.witness6 (enc := enc) (C := Tryz.checked) false ⟨#[], #[.string ByteArray.empty], []⟩ 8 (by kernel_rfl) (by kernel_rfl) (by kernel_rfl) (by kernel_rfl)) ?_
  intro W base args ds gs before hval0 hW hcnd _
  have hval : ∀ (j : Nat) t v, Tryz.f3.params[j]? = some t → args[j]? = some v → Value.okWide Tryz.prog W .any base t v := hval0
  have hW' := hW
  obtain ⟨p, q, hA0, hV, rfl, hfz, hnd⟩ := hW
  have hA : DataW.TrodAll enc Tryz.prog W 0 (fun _ => true) true Tryz.f3.params.toList args.toList ds p := hA0
  rw [Tryz.params3] at hA hval
  obtain ⟨v0, vs0, d0, ds0, p0, q0, hargs, rfl, rfl, h0, r0⟩ := trodAll_cons hA
  obtain ⟨rfl, rfl, rfl⟩ := trodAll_nil r0
  obtain rfl : args = #[v0] := by cases args; simp_all
  obtain ⟨rfl, rfl⟩ := trodVars_none hV
  obtain ⟨a0, rfl, rfl, rfl, w0⟩ := open_string Tryz.underlying9 (hval 0 9 v0 rfl rfl) h0
  clear hA0 hval0
  simp only [List.append_nil] at hW'
  refine (checks_any a0 W).mono fun e W' ⟨he, hg⟩ => ?_
  subst he
  exact ⟨_, rfl, post_new hW' (fun _ _ _ => (trodAll_cons_mk (shut_bool Tryz.underlying4 _) trodAll_mk0)) (fun sp => (trodAll_cons_mk (shut_string Tryz.underlying9 w0) trodAll_mk0)) (fun _ => rfl)
    hg (ok_one (by kernel_rfl) rfl (okWide_bool_mk Tryz.underlying4 _))⟩

theorem over : Rows.checksRow.holds Tryz.pinned (OpenSpec.ofChange Rows.checksSpec) :=
  OpenClaim.holds_of_wide 3 Tryz.f3 rfl rfl rfl rfl rfl rfl rfl ⟨rfl, rfl, rfl, rfl, rfl⟩ rfl rfl rfl rfl rfl (by kernel_rfl) Tryz.func3 (by kernel_rfl)
    (of_decide_eq_true (by kernel_rfl)) (by unfold Func.isWrapper; first | (rw [if_pos (by decide +kernel)]; kernel_rfl) | (rw [if_neg (by decide +kernel)]; exact ⟨rfl, rfl⟩))
    (fun os started H enc _ => lifted os started H enc)

end Go.Proofs.YtpmcnonmkghokaaGreat.checks
namespace Go.Proofs.YtpmcnonmkghokaaGreat
theorem checks_proved : Rows.ChecksSaid := checks.over
end Go.Proofs.YtpmcnonmkghokaaGreat

/-
  The program's machine, made: addVar.
  The program's machine, made: choices.
-/
import Derived.Test.YtpmcnonmkghokaaGreatDoorT16
import Derived.Deep.AppendLies
import Derived.Lib.SliceRun
set_option linter.unusedVariables false
set_option linter.unusedSimpArgs false
namespace Go.Proofs.YtpmcnonmkghokaaGreatDoor
open Go.RowKit
attribute [local go_sem ↓] Go.wp_at_zero Go.wp_at_succ
theorem Tryz.infoMv : (Tryz.prog.info? 213).map (fun i => (i.zero, i.size, i.bytes)) = some (some (.agg #[.int .i64 0, .int .i64 0, .slice none 0 0, .int .i64 0, .int .i64 0]), 5, 56) := by kernel_rfl
/-- What is read in addVar's great region. -/
def AvS (M H size : Nat) (vv : Value) (a0 a1 a2 a3 a4 : Option Addr) (n0 n1 n2 n3 n4 c0 c1 c2 c3 c4 : Nat) (v : VrT) (w : World) : Prop :=
  w.cell? ⟨M, 3, none⟩ = some (vv) ∧ w.cell? ⟨M, 5, none⟩ = some (.int .i64 size) ∧ w.cell? ⟨H, 0, none⟩ = some (.slice a0 n0 c0) ∧ w.cell? ⟨H, 1, none⟩ = some (.slice a1 n1 c1) ∧ w.cell? ⟨H, 2, none⟩ = some (.slice a2 n2 c2) ∧ w.cell? ⟨H, 3, none⟩ = some (.slice a3 n3 c3) ∧ w.cell? ⟨H, 4, none⟩ = some (.slice a4 n4 c4) ∧ w.cell? ⟨H + 1, 3, none⟩ = some (.string v.over.text) ∧ w.cell? ⟨H + 1, 4, none⟩ = some (.int .i64 v.over.at_) ∧ w.cell? ⟨H + 1, 5, none⟩ = some (.int .i64 v.si.form) ∧ w.cell? ⟨H + 1, 6, none⟩ = some (.int .i64 (digV v.si.top.text)) ∧ w.cell? ⟨H + 1, 7, none⟩ = some (.int .i64 v.si.top.at_) ∧ w.cell? ⟨H + 1, 8, none⟩ = some (.string v.si.name.text) ∧ w.cell? ⟨H + 1, 9, none⟩ = some (.int .i64 v.si.name.at_)
theorem AvS.below {M H size : Nat} {vv : Value} {a0 a1 a2 a3 a4 : Option Addr} {n0 n1 n2 n3 n4 c0 c1 c2 c3 c4 : Nat} {v : VrT} {B : Nat} {w w' : World} (h : AvS M H size vv a0 a1 a2 a3 a4 n0 n1 n2 n3 n4 c0 c1 c2 c3 c4 v w) (hb : Below B w w') (hM : M < B) (hH : H + 1 < B) : AvS M H size vv a0 a1 a2 a3 a4 n0 n1 n2 n3 n4 c0 c1 c2 c3 c4 v w' := by
  obtain ⟨s0, s1, s2, s3, s4, s5, s6, s7, s8, s9, s10, s11, s12, s13⟩ := h
  exact ⟨(hb.cell (p := ⟨M, 3, none⟩) (by simp; omega)).trans s0, (hb.cell (p := ⟨M, 5, none⟩) (by simp; omega)).trans s1, (hb.cell (p := ⟨H, 0, none⟩) (by simp; omega)).trans s2, (hb.cell (p := ⟨H, 1, none⟩) (by simp; omega)).trans s3, (hb.cell (p := ⟨H, 2, none⟩) (by simp; omega)).trans s4, (hb.cell (p := ⟨H, 3, none⟩) (by simp; omega)).trans s5, (hb.cell (p := ⟨H, 4, none⟩) (by simp; omega)).trans s6, (hb.cell (p := ⟨H + 1, 3, none⟩) (by simp; omega)).trans s7, (hb.cell (p := ⟨H + 1, 4, none⟩) (by simp; omega)).trans s8, (hb.cell (p := ⟨H + 1, 5, none⟩) (by simp; omega)).trans s9, (hb.cell (p := ⟨H + 1, 6, none⟩) (by simp; omega)).trans s10, (hb.cell (p := ⟨H + 1, 7, none⟩) (by simp; omega)).trans s11, (hb.cell (p := ⟨H + 1, 8, none⟩) (by simp; omega)).trans s12, (hb.cell (p := ⟨H + 1, 9, none⟩) (by simp; omega)).trans s13⟩
theorem Mch_M {lo so : Nat} {w : World} {M nb : Nat} {steps : List MStep} {nevers : List MNever} {sets : List Int} {vars : List MVar} {tab : MTab} {size : Nat} {sv nv tv vv : Value} (h : MchIs lo so w M nb steps nevers sets vars tab size sv nv tv vv) : M < w.heap.size := lt_of_block h.row
theorem av_row4 {lo so : Nat} {w : World} {M nb : Nat} {steps : List MStep} {nevers : List MNever} {sets : List Int} {vars : List MVar} {tab : MTab} {size : Nat} {sv nv tv vv : Value} (h : MchIs lo so w M nb steps nevers sets vars tab size sv nv tv vv) {w3 w4 : World} {o : Obj} (hb : Below w.heap.size w w3) (hg : (w3.alloc o).grownBy w4 vv.ownBlock) : w4.heap[M]? = some (.cells #[sv, nv, tv, vv, .map (some nb), .int .i64 size] 105 (0, 0)) := by
  have h3 : (w3.alloc o).heap[M]? = some (.cells #[sv, nv, tv, vv, .map (some nb), .int .i64 size] 105 (0, 0)) := alloc_row ((hb.block M (lt_of_block h.row)).trans h.row)
  obtain ⟨cs, ho, _⟩ := h.vars
  exact (grown_tk (x := none) (bad := [213]) (owns_below ho (hb.alloc hb.size o)) hg (by decide)).row h3 (by simp) (by decide)
theorem av_end {lo so : Nat} {w : World} {M nb : Nat} {steps : List MStep} {nevers : List MNever} {sets : List Int} {vars : List MVar} {tab : MTab} {size : Nat} {sv nv tv vv : Value} (h : MchIs lo so w M nb steps nevers sets vars tab size sv nv tv vv) (u : MVar) {cnt : Nat} (hfst : u.first = size) (hcnt : u.count = cnt) {cs : List Value} (hva : w.ownsRow lo 213 5 vv vars.length cs) (hmv : MvIs 0 w vars cs) {w3 w4 : World} (hb : Below w.heap.size w w3) {ta : Option Addr} {tc : Nat} (hT : w3.ownsRow 0 9 1 (.slice ta u.texts.length tc) u.texts.length (u.texts.map Value.string))
    (hg : (w3.alloc (.cells #[.int .i64 size, .int .i64 cnt, .slice ta u.texts.length tc, .int .i64 u.over, .int .i64 u.of_] 213)).grownBy w4 vv.ownBlock) {gg gcap : Nat} (hown : w4.ownsRow lo 213 5 (.slice (some ⟨gg, 0, none⟩) (vars.length + 1) gcap) (vars.length + 1) (cs ++ [.int .i64 size, .int .i64 cnt, .slice ta u.texts.length tc, .int .i64 u.over, .int .i64 u.of_])) (hlo : lo ≤ w.heap.size) :
    (∃ vv', MchIs lo so ((w4.setCell ⟨M, 3, none⟩ (.slice (some ⟨gg, 0, none⟩) (vars.length + 1) gcap)).setCell ⟨M, 5, none⟩ (.int .i64 ((size : Int) + cnt))) M nb steps nevers sets (vars ++ [u]) tab (size + u.count) sv nv tv vv') ∧ Tk none [105, 213] w ((w4.setCell ⟨M, 3, none⟩ (.slice (some ⟨gg, 0, none⟩) (vars.length + 1) gcap)).setCell ⟨M, 5, none⟩ (.int .i64 ((size : Int) + cnt))) ∧ Below lo w ((w4.setCell ⟨M, 3, none⟩ (.slice (some ⟨gg, 0, none⟩) (vars.length + 1) gcap)).setCell ⟨M, 5, none⟩ (.int .i64 ((size : Int) + cnt))) := by
  have hr4 := av_row4 h hb hg
  have hr5 := mset3 hr4 (.slice (some ⟨gg, 0, none⟩) (vars.length + 1) gcap)
  have hr6 := mset5 hr5 (.int .i64 ((size : Int) + cnt))
  have hb3 : Below w.heap.size w (w3.alloc (.cells #[.int .i64 size, .int .i64 cnt, .slice ta u.texts.length tc, .int .i64 u.over, .int .i64 u.of_] 213)) := hb.alloc hb.size _
  have hv3 := owns_below hva hb3
  have k4 : Tk none [105, 213] (w3.alloc (.cells #[.int .i64 size, .int .i64 cnt, .slice ta u.texts.length tc, .int .i64 u.over, .int .i64 u.of_] 213)) w4 := grown_tk hv3 hg (by decide)
  have k5 : Tk none [105] w4 ((w4.setCell ⟨M, 3, none⟩ (.slice (some ⟨gg, 0, none⟩) (vars.length + 1) gcap)).setCell ⟨M, 5, none⟩ (.int .i64 ((size : Int) + cnt))) := (set_tk hr4 (by decide) 3 _).trans (set_tk hr5 (by decide) 5 _)
  have k35 := k4.trans (k5.wide (by decide : ∀ e ∈ [105], e ∈ [105, 213]))
  have K := (below_tk hb3 none [105, 213]).trans k35
  have nr := NoRow.none w
  have hn3 := (hT.alloc (.cells #[.int .i64 size, .int .i64 cnt, .slice ta u.texts.length tc, .int .i64 u.over, .int .i64 u.of_] 213))
  obtain ⟨h0, ⟨c1, h1, q1⟩, ⟨c2, h2, q2⟩, h3, _, h5, h6, h7⟩ := h
  refine ⟨⟨_, ⟨by rw [hr6, hcnt]; rfl, ⟨c1, owns_tk h1 K nr (by decide), q1.tk K nr (by decide) (by decide)⟩, ⟨c2, owns_tk h2 K nr (by decide), q2.tk K nr (by decide) (by decide)⟩, owns_tk h3 K nr (by decide), ⟨cs ++ [.int .i64 size, .int .i64 cnt, .slice ta u.texts.length tc, .int .i64 u.over, .int .i64 u.of_], ?_, ?_⟩, h5.tk K (by simp), h6, h7⟩⟩, K, ?_⟩
  · rw [List.length_append]; exact owns_tk hown k5 (NoRow.none _) (by decide)
  · refine (hmv.tk K nr (by decide)).app ⟨ta, tc, [], ?_, owns_tk hn3 k35 (NoRow.none _) (by decide), rfl⟩
    rw [hfst, hcnt]; rfl
  · exact ((((hb3.mono hlo)).grown hg (Nat.le_trans hlo hb3.size) (own_ge hv3)).setCell (p := ⟨M, 3, none⟩) h6 _).setCell (p := ⟨M, 5, none⟩) h6 _

set_option maxRecDepth 100000 in
set_option maxHeartbeats 8000000 in
theorem addVar_any (w : World) (lo so mo M nb : Nat) (steps : List MStep) (nevers : List MNever) (sets : List Int) (vars : List MVar) (tab : MTab) (size : Nat) (sv nv tv vv : Value) (a0 a1 a2 a3 a4 : Option Addr) (n0 n1 n2 n3 n4 c0 c1 c2 c3 c4 : Nat) (m : MdL) (v : VrT) (u : MVar) (h : MchIs lo so w M nb steps nevers sets vars tab size sv nv tv vv) (hm : MdIs mo w (.slice a0 n0 c0) (.slice a1 n1 c1) (.slice a2 n2 c2) (.slice a3 n3 c3) (.slice a4 n4 c4) m) (hf : MdFit m) (hu : addO m.sets m.kinds size v = some u) (hvl : vars.length ≤ 1000) (hsz : size ≤ 1000000) (hlo : lo ≤ w.heap.size) :
    Calls Tryz.prog 57 #[.pointer (some ⟨M, 0, none⟩), mdV a0 a1 a2 a3 a4 n0 n1 n2 n3 n4 c0 c1 c2 c3 c4, vrV v] w fun e w' => e = .returned (.tuple #[]) ∧ (∃ vv', MchIs lo so w' M nb steps nevers sets (vars ++ [u]) tab (size + u.count) sv nv tv vv') ∧ Tk none [105, 213] w w' ∧ Below lo w w' := by
  obtain ⟨W, hW⟩ : ∃ W, W = (w.alloc (.cells #[.slice a0 n0 c0, .slice a1 n1 c1, .slice a2 n2 c2, .slice a3 n3 c3, .slice a4 n4 c4] 68)).alloc (.cells #[.string v.name.text, .int .i64 v.name.at_, .bool v.arr, .string v.over.text, .int .i64 v.over.at_, .int .i64 v.si.form, .int .i64 (digV v.si.top.text), .int .i64 v.si.top.at_, .string v.si.name.text, .int .i64 v.si.name.at_] 121) := ⟨_, rfl⟩
  have hbW : Below w.heap.size w W := by rw [hW]; exact (below_alloc1 w _).trans ((below_alloc1 _ _).mono (by simp))
  have hsW : w.heap.size ≤ W.heap.size := hbW.size
  have hsW2 : w.heap.size + 1 < W.heap.size := by rw [hW]; simp
  have hD : W.heap[w.heap.size]? = some (.cells #[.slice a0 n0 c0, .slice a1 n1 c1, .slice a2 n2 c2, .slice a3 n3 c3, .slice a4 n4 c4] 68 (0, 0)) := by rw [hW]; exact alloc_row (alloc_new _ _)
  have hN : W.heap[w.heap.size + 1]? = some (.cells #[.string v.name.text, .int .i64 v.name.at_, .bool v.arr, .string v.over.text, .int .i64 v.over.at_, .int .i64 v.si.form, .int .i64 (digV v.si.top.text), .int .i64 v.si.top.at_, .string v.si.name.text, .int .i64 v.si.name.at_] 121 (0, 0)) := by
    rw [hW]
    have := alloc_new (w.alloc (.cells #[.slice a0 n0 c0, .slice a1 n1 c1, .slice a2 n2 c2, .slice a3 n3 c3, .slice a4 n4 c4] 68)) (.cells #[.string v.name.text, .int .i64 v.name.at_, .bool v.arr, .string v.over.text, .int .i64 v.over.at_, .int .i64 v.si.form, .int .i64 (digV v.si.top.text), .int .i64 v.si.top.at_, .string v.si.name.text, .int .i64 v.si.name.at_] 121)
    simp only [World.size_alloc] at this
    exact this
  have hMl := Mch_M h
  have hM := (hbW.block M hMl).trans h.row
  obtain ⟨m0, m1, m2, m3, m4, m5, f0, f1, f2, f3, f4, f5⟩ := row6 hM
  obtain ⟨q0, q1, q2, q3, q4, _⟩ := row5' hD
  obtain ⟨⟨v0, v1, v2, v3, v4, v5, v6, v7, v8, v9⟩, _⟩ := row10' hN
  have HSW := hide (show AvS M w.heap.size size vv a0 a1 a2 a3 a4 n0 n1 n2 n3 n4 c0 c1 c2 c3 c4 v W from ⟨m3, m5, q0, q1, q2, q3, q4, v3, v4, v5, v6, v7, v8, v9⟩)
  obtain ⟨cs, hva, hmv⟩ := h.vars
  obtain ⟨va, vc, e, _⟩ := own_viewB hva
  unfold addO at hu
  obtain ⟨cnt, hcn, hu2⟩ := Option.bind_eq_some_iff.mp hu
  obtain ⟨tx, htx, hu3⟩ := Option.map_eq_some_iff.mp hu2
  have hfst : u.first = size := by rw [← hu3]
  have hcnt : u.count = cnt := by rw [← hu3]
  have htex : u.texts = tx := by rw [← hu3]
  have hov : u.over = sNumI m.sets v.over.text.toList := by rw [← hu3]
  have hof : u.of_ = sNumI m.sets v.si.name.text.toList := by rw [← hu3]
  rw [← htex] at htx
  have HVT := hide (fun (wx : World) (hb : Below w.heap.size w wx) => valueTexts_any wx mo v.si a0 a1 a2 a3 a4 n0 n1 n2 n3 n4 c0 c1 c2 c3 c4 m (hm.stay fun k _ hk => hb.block k hk) hf u.texts htx)
  have HSO := hide (fun (wx : World) (hb : Below w.heap.size w wx) => setNumber_any wx mo m.sets v.over a0 a1 a2 a3 a4 n0 n1 n2 n3 n4 c0 c1 c2 c3 c4 (owns_below hm.o0 hb) hf.sets)
  have HSM := hide (fun (wx : World) (hb : Below w.heap.size w wx) => setNumber_any wx mo m.sets v.si.name a0 a1 a2 a3 a4 n0 n1 n2 n3 n4 c0 c1 c2 c3 c4 (owns_below hm.o0 hb) hf.sets)
  have HSZ := hide (fun (ha : v.arr = true) => (show ∃ k x, sNum m.sets v.over.text.toList = some k ∧ m.sets[k]? = some x ∧ digV x.size.text = cnt ∧ cnt ≤ 9 from by rw [ha, if_pos rfl] at hcn; exact sizO_some hcn))
  have hc9 : cnt ≤ 9 := by
    cases ha : v.arr
    · rw [ha] at hcn; injection hcn with hcn; omega
    · obtain ⟨_, _, _, _, _, h9⟩ := (unhide HSZ) ha; exact h9
  have hc1 : v.arr = false → cnt = 1 := fun ha => by rw [ha] at hcn; injection hcn with hcn; exact hcn.symm
  have HSS := hide (fun (wx : World) (hb : Below w.heap.size w wx) (k : Nat) (x : PSet) (h1 : sNum m.sets v.over.text.toList = some k) (h2 : m.sets[k]? = some x) => setSize_any wx mo m.sets v.over a0 a1 a2 a3 a4 n0 n1 n2 n3 n4 c0 c1 c2 c3 c4 (owns_below hm.o0 hb) hf.sets k h1 x h2)
  rw [← hov] at HSO
  rw [← hof] at HSM
  unfold mdV siV at HVT
  unfold ptV at HSO HSM HSS
  have hwrap : IntKind.i64.wrap ((size : Int) + cnt) = (size : Int) + cnt := by rw [IntKind.wrap_i64]; omega
  obtain ⟨i0, hi, hz0, hz1, hz2⟩ := info_parts Tryz.infoMv
  have HMC := hide h
  have HVA := hide hva
  have HMV := hide hmv
  have HBW := hide hbW
  have HWE := hide hW.symm
  have HC1 := hide hc1
  have HC9 := hide hc9
  clear hu hu2 hu3 hcn htx htex hov hof hM m0 m1 m2 m3 m4 m5 f0 f1 f2 f3 f4 f5 hmv hbW hW hN hD h hm hf q0 q1 q2 q3 q4 v0 v1 v3 v4 v5 v6 v7 v8 v9 hc1 hva
  subst e
  unfold mdV vrV vrCells
  generalize harr : v.arr = arr at *
  cases arr
  case' false =>
    have hcn1 := hide ((unhide HC1) rfl)
    clear HSS HSZ
    have hbr : Below W.heap.size W W := Below.refl _ _
    go_enter Tryz.func57, Tryz.ntmps57
    go_upto_region 4 with fail
    rw [unhide HWE, show (Value.int IntKind.i64 1) = .int .i64 (cnt : Int) by rw [unhide hcn1]; rfl]
    have HS0 := hide (show AvS M w.heap.size size (.slice va vars.length vc) a0 a1 a2 a3 a4 n0 n1 n2 n3 n4 c0 c1 c2 c3 c4 v W.drew from (unhide HSW).below hbr.drew (by omega) (by omega))
    have HB0 := hide (show Below w.heap.size w W.drew from ((unhide HBW).trans (hbr.mono hsW)).drew)
    have hy0 := hbr.size
    clear hbr
    refine wp_region_tail (S := AvS M w.heap.size size (.slice va vars.length vc) a0 a1 a2 a3 a4 n0 n1 n2 n3 n4 c0 c1 c2 c3 c4 v) (tl := [25, 26, 27, 28]) (by kernel_rfl) ?_
    refine wpAnyT_free (i := 0) (v := .pointer (some ⟨M, 0, none⟩)) rfl (by kernel_rfl) (by kernel_rfl) (by kernel_rfl) (fun _ _ _ h => h) (Or.inl ⟨by rfl, fun _ _ => by go_simp⟩) ?_
    try simp only [Act.put, List.setIfInBounds_toArray, List.set_cons_zero, List.set_cons_succ]
    refine wpAnyT_free (i := 1) (v := .pointer (some ⟨M, 0, none⟩)) rfl (by kernel_rfl) (by kernel_rfl) (by kernel_rfl) (fun _ _ _ h => h) (Or.inl ⟨by rfl, fun _ _ => by go_simp⟩) ?_
    try simp only [Act.put, List.setIfInBounds_toArray, List.set_cons_zero, List.set_cons_succ]
    refine wpAnyT_free (i := 2) (v := .pointer (some ⟨M, 0, none⟩)) rfl (by kernel_rfl) (by kernel_rfl) (by kernel_rfl) (fun _ _ _ h => h) (Or.inl ⟨by rfl, fun _ _ => by go_simp⟩) ?_
    try simp only [Act.put, List.setIfInBounds_toArray, List.set_cons_zero, List.set_cons_succ]
    refine wpAnyT_free (i := 3) (v := .pointer (some ⟨M, 3, none⟩)) rfl (by kernel_rfl) (by kernel_rfl) (by kernel_rfl) (fun _ _ _ h => h) (Or.inl ⟨by rfl, fun _ _ => by go_simp⟩) ?_
    try simp only [Act.put, List.setIfInBounds_toArray, List.set_cons_zero, List.set_cons_succ]
    refine wpAnyT_take (i := 4) (v := .slice va vars.length vc) [25, 26, 27, 28] rfl (by kernel_rfl) (by kernel_rfl) (by kernel_rfl) (by kernel_rfl) (by decide) (fun _ _ _ h => h) (Or.inl ⟨by rfl, fun wq hSw => by (obtain ⟨s0, s1, s2, s3, s4, s5, s6, s7, s8, s9, s10, s11, s12, s13⟩ := hSw; go_simp)⟩) (unhide HS0) ?_
    try simp only [Act.put, List.setIfInBounds_toArray, List.set_cons_zero, List.set_cons_succ]
    refine wpAnyT_free (i := 5) (v := .pointer (some ⟨M, 0, none⟩)) rfl (by kernel_rfl) (by kernel_rfl) (by kernel_rfl) (fun _ _ _ h => h) (Or.inl ⟨by rfl, fun _ _ => by go_simp⟩) ?_
    try simp only [Act.put, List.setIfInBounds_toArray, List.set_cons_zero, List.set_cons_succ]
    refine wpAnyT_free (i := 6) (v := .pointer (some ⟨M, 0, none⟩)) rfl (by kernel_rfl) (by kernel_rfl) (by kernel_rfl) (fun _ _ _ h => h) (Or.inl ⟨by rfl, fun _ _ => by go_simp⟩) ?_
    try simp only [Act.put, List.setIfInBounds_toArray, List.set_cons_zero, List.set_cons_succ]
    refine wpAnyT_free (i := 7) (v := .pointer (some ⟨M, 5, none⟩)) rfl (by kernel_rfl) (by kernel_rfl) (by kernel_rfl) (fun _ _ _ h => h) (Or.inl ⟨by rfl, fun _ _ => by go_simp⟩) ?_
    try simp only [Act.put, List.setIfInBounds_toArray, List.set_cons_zero, List.set_cons_succ]
    refine wpAnyT_take (i := 8) (v := .int .i64 size) [23, 24, 25, 26, 27, 28] rfl (by kernel_rfl) (by kernel_rfl) (by kernel_rfl) (by kernel_rfl) (by decide) (fun _ _ _ h => h) (Or.inl ⟨by rfl, fun wq hSw => by (obtain ⟨s0, s1, s2, s3, s4, s5, s6, s7, s8, s9, s10, s11, s12, s13⟩ := hSw; go_simp)⟩) (unhide HS0) ?_
    try simp only [Act.put, List.setIfInBounds_toArray, List.set_cons_zero, List.set_cons_succ]
    refine wpAnyT_free (i := 9) (v := .int .i64 cnt) rfl (by kernel_rfl) (by kernel_rfl) (by kernel_rfl) (fun _ _ _ h => h) (Or.inl ⟨by rfl, fun _ _ => by go_simp⟩) ?_
    try simp only [Act.put, List.setIfInBounds_toArray, List.set_cons_zero, List.set_cons_succ]
    refine wpAnyT_take (i := 10) (v := .agg #[.slice a0 n0 c0, .slice a1 n1 c1, .slice a2 n2 c2, .slice a3 n3 c3, .slice a4 n4 c4]) [13, 23, 24, 25, 26, 27, 28] rfl (by kernel_rfl) (by kernel_rfl) (by kernel_rfl) (by kernel_rfl) (by decide) (fun _ _ _ h => h) (Or.inl ⟨by rfl, fun wq hSw => by (obtain ⟨s0, s1, s2, s3, s4, s5, s6, s7, s8, s9, s10, s11, s12, s13⟩ := hSw; go_simp)⟩) (unhide HS0) ?_
    try simp only [Act.put, List.setIfInBounds_toArray, List.set_cons_zero, List.set_cons_succ]
    refine wpAnyT_free (i := 11) (v := .pointer (some ⟨w.heap.size + 1, 5, none⟩)) rfl (by kernel_rfl) (by kernel_rfl) (by kernel_rfl) (fun _ _ _ h => h) (Or.inl ⟨by rfl, fun _ _ => by go_simp⟩) ?_
    try simp only [Act.put, List.setIfInBounds_toArray, List.set_cons_zero, List.set_cons_succ]
    refine wpAnyT_take (i := 12) (v := .agg #[.int .i64 v.si.form, .int .i64 (digV v.si.top.text), .int .i64 v.si.top.at_, .string v.si.name.text, .int .i64 v.si.name.at_]) [13, 23, 24, 25, 26, 27, 28] rfl (by kernel_rfl) (by kernel_rfl) (by kernel_rfl) (by kernel_rfl) (by decide) (fun _ _ _ h => h) (Or.inl ⟨by rfl, fun wq hSw => by (obtain ⟨s0, s1, s2, s3, s4, s5, s6, s7, s8, s9, s10, s11, s12, s13⟩ := hSw; go_simp)⟩) (unhide HS0) ?_
    try simp only [Act.put, List.setIfInBounds_toArray, List.set_cons_zero, List.set_cons_succ]
    refine wpAnyT_take (i := 14) (v := .agg #[.slice a0 n0 c0, .slice a1 n1 c1, .slice a2 n2 c2, .slice a3 n3 c3, .slice a4 n4 c4]) [17, 23, 24, 25, 26, 27, 28] rfl (by kernel_rfl) (by kernel_rfl) (by kernel_rfl) (by kernel_rfl) (by decide) (fun _ _ _ h => h) (Or.inl ⟨by rfl, fun wq hSw => by (obtain ⟨s0, s1, s2, s3, s4, s5, s6, s7, s8, s9, s10, s11, s12, s13⟩ := hSw; go_simp)⟩) (unhide HS0) ?_
    try simp only [Act.put, List.setIfInBounds_toArray, List.set_cons_zero, List.set_cons_succ]
    refine wpAnyT_free (i := 15) (v := .pointer (some ⟨w.heap.size + 1, 3, none⟩)) rfl (by kernel_rfl) (by kernel_rfl) (by kernel_rfl) (fun _ _ _ h => h) (Or.inl ⟨by rfl, fun _ _ => by go_simp⟩) ?_
    try simp only [Act.put, List.setIfInBounds_toArray, List.set_cons_zero, List.set_cons_succ]
    refine wpAnyT_take (i := 16) (v := .agg #[.string v.over.text, .int .i64 v.over.at_]) [17, 23, 24, 25, 26, 27, 28] rfl (by kernel_rfl) (by kernel_rfl) (by kernel_rfl) (by kernel_rfl) (by decide) (fun _ _ _ h => h) (Or.inl ⟨by rfl, fun wq hSw => by (obtain ⟨s0, s1, s2, s3, s4, s5, s6, s7, s8, s9, s10, s11, s12, s13⟩ := hSw; go_simp)⟩) (unhide HS0) ?_
    try simp only [Act.put, List.setIfInBounds_toArray, List.set_cons_zero, List.set_cons_succ]
    refine wpAnyT_take (i := 18) (v := .agg #[.slice a0 n0 c0, .slice a1 n1 c1, .slice a2 n2 c2, .slice a3 n3 c3, .slice a4 n4 c4]) [22, 23, 24, 25, 26, 27, 28] rfl (by kernel_rfl) (by kernel_rfl) (by kernel_rfl) (by kernel_rfl) (by decide) (fun _ _ _ h => h) (Or.inl ⟨by rfl, fun wq hSw => by (obtain ⟨s0, s1, s2, s3, s4, s5, s6, s7, s8, s9, s10, s11, s12, s13⟩ := hSw; go_simp)⟩) (unhide HS0) ?_
    try simp only [Act.put, List.setIfInBounds_toArray, List.set_cons_zero, List.set_cons_succ]
    refine wpAnyT_free (i := 19) (v := .pointer (some ⟨w.heap.size + 1, 5, none⟩)) rfl (by kernel_rfl) (by kernel_rfl) (by kernel_rfl) (fun _ _ _ h => h) (Or.inl ⟨by rfl, fun _ _ => by go_simp⟩) ?_
    try simp only [Act.put, List.setIfInBounds_toArray, List.set_cons_zero, List.set_cons_succ]
    refine wpAnyT_free (i := 20) (v := .pointer (some ⟨w.heap.size + 1, 8, none⟩)) rfl (by kernel_rfl) (by kernel_rfl) (by kernel_rfl) (fun _ _ _ h => h) (Or.inl ⟨by rfl, fun _ _ => by go_simp⟩) ?_
    try simp only [Act.put, List.setIfInBounds_toArray, List.set_cons_zero, List.set_cons_succ]
    refine wpAnyT_take (i := 21) (v := .agg #[.string v.si.name.text, .int .i64 v.si.name.at_]) [22, 23, 24, 25, 26, 27, 28] rfl (by kernel_rfl) (by kernel_rfl) (by kernel_rfl) (by kernel_rfl) (by decide) (fun _ _ _ h => h) (Or.inl ⟨by rfl, fun wq hSw => by (obtain ⟨s0, s1, s2, s3, s4, s5, s6, s7, s8, s9, s10, s11, s12, s13⟩ := hSw; go_simp)⟩) (unhide HS0) ?_
    try simp only [Act.put, List.setIfInBounds_toArray, List.set_cons_zero, List.set_cons_succ]
    refine wpAnyT_ready (rs := [13]) (by kernel_rfl) (by simp) ?_
    refine AllReadyT.cons rfl (fun K hK => ?_) AllReadyT.nil
    go_simp
    go_at_call 98
    refine ((unhide HVT) W.drew (unhide HB0)).mono ?_
    rintro e x1 ⟨tvv, rfl, ho1, hb1⟩
    obtain ⟨ta, tc, e, _⟩ := own_viewB ho1
    subst e
    have HT1 := hide (owns_mono (Nat.zero_le _) ho1)
    clear ho1
    have hy1 : W.heap.size ≤ x1.heap.size := hb1.size
    have HS1 := hide ((unhide HS0).below hb1 (show M < W.heap.size by omega) (show w.heap.size + 1 < W.heap.size by omega))
    have HB1 := hide ((unhide HB0).trans (hb1.mono (unhide HB0).size))
    clear hb1
    dsimp only
    refine hK _ _ (unhide HS1) ?_
    clear hK K
    try simp only [Act.put, List.setIfInBounds_toArray, List.set_cons_zero, List.set_cons_succ]
    refine wpAnyT_ready (rs := [17]) (by kernel_rfl) (by simp) ?_
    refine AllReadyT.cons rfl (fun K hK => ?_) AllReadyT.nil
    go_simp
    go_at_call 99
    refine ((unhide HSO) x1 (unhide HB1)).mono ?_
    rintro e x2 ⟨rfl, hb2⟩
    have HT2 := hide (owns_below (unhide HT1) hb2)
    have hy2 : x1.heap.size ≤ x2.heap.size := hb2.size
    have HS2 := hide ((unhide HS1).below hb2 (show M < x1.heap.size by omega) (show w.heap.size + 1 < x1.heap.size by omega))
    have HB2 := hide ((unhide HB1).trans (hb2.mono (unhide HB1).size))
    clear hb2
    dsimp only
    refine hK _ _ (unhide HS2) ?_
    clear hK K
    try simp only [Act.put, List.setIfInBounds_toArray, List.set_cons_zero, List.set_cons_succ]
    refine wpAnyT_ready (rs := [22]) (by kernel_rfl) (by simp) ?_
    refine AllReadyT.cons rfl (fun K hK => ?_) AllReadyT.nil
    go_simp
    go_at_call 99
    refine ((unhide HSM) x2 (unhide HB2)).mono ?_
    rintro e x3 ⟨rfl, hb3⟩
    have HT3 := hide (owns_below (unhide HT2) hb3)
    have hy3 : x2.heap.size ≤ x3.heap.size := hb3.size
    have HS3 := hide ((unhide HS2).below hb3 (show M < x2.heap.size by omega) (show w.heap.size + 1 < x2.heap.size by omega))
    have HB3 := hide ((unhide HB2).trans (hb3.mono (unhide HB2).size))
    clear hb3
    dsimp only
    refine hK _ _ (unhide HS3) ?_
    clear hK K
    try simp only [Act.put, List.setIfInBounds_toArray, List.set_cons_zero, List.set_cons_succ]
  case' true =>
    obtain ⟨sk, sx, e1, e2, e3, e4⟩ := (unhide HSZ) rfl
    have HSC := hide ((unhide HSS) W (unhide HBW) sk sx e1 e2)
    rw [e3] at HSC
    clear e1 e2 e3 HSS HSZ
    go_enter Tryz.func57, Tryz.ntmps57
    go_wp2_with fail
    rw [unhide HWE]
    refine (unhide HSC).mono ?_
    rintro e wr ⟨rfl, hbr⟩
    clear HSC
    have HBR := hide hbr
    clear hbr
    go_upto_region 4 with fail
    have hbr := unhide HBR
    have HS0 := hide (show AvS M w.heap.size size (.slice va vars.length vc) a0 a1 a2 a3 a4 n0 n1 n2 n3 n4 c0 c1 c2 c3 c4 v wr.drew from (unhide HSW).below hbr.drew (by omega) (by omega))
    have HB0 := hide (show Below w.heap.size w wr.drew from ((unhide HBW).trans (hbr.mono hsW)).drew)
    have hy0 := hbr.size
    clear hbr
    refine wp_region_tail (S := AvS M w.heap.size size (.slice va vars.length vc) a0 a1 a2 a3 a4 n0 n1 n2 n3 n4 c0 c1 c2 c3 c4 v) (tl := [25, 26, 27, 28]) (by kernel_rfl) ?_
    refine wpAnyT_free (i := 0) (v := .pointer (some ⟨M, 0, none⟩)) rfl (by kernel_rfl) (by kernel_rfl) (by kernel_rfl) (fun _ _ _ h => h) (Or.inl ⟨by rfl, fun _ _ => by go_simp⟩) ?_
    try simp only [Act.put, List.setIfInBounds_toArray, List.set_cons_zero, List.set_cons_succ]
    refine wpAnyT_free (i := 1) (v := .pointer (some ⟨M, 0, none⟩)) rfl (by kernel_rfl) (by kernel_rfl) (by kernel_rfl) (fun _ _ _ h => h) (Or.inl ⟨by rfl, fun _ _ => by go_simp⟩) ?_
    try simp only [Act.put, List.setIfInBounds_toArray, List.set_cons_zero, List.set_cons_succ]
    refine wpAnyT_free (i := 2) (v := .pointer (some ⟨M, 0, none⟩)) rfl (by kernel_rfl) (by kernel_rfl) (by kernel_rfl) (fun _ _ _ h => h) (Or.inl ⟨by rfl, fun _ _ => by go_simp⟩) ?_
    try simp only [Act.put, List.setIfInBounds_toArray, List.set_cons_zero, List.set_cons_succ]
    refine wpAnyT_free (i := 3) (v := .pointer (some ⟨M, 3, none⟩)) rfl (by kernel_rfl) (by kernel_rfl) (by kernel_rfl) (fun _ _ _ h => h) (Or.inl ⟨by rfl, fun _ _ => by go_simp⟩) ?_
    try simp only [Act.put, List.setIfInBounds_toArray, List.set_cons_zero, List.set_cons_succ]
    refine wpAnyT_take (i := 4) (v := .slice va vars.length vc) [25, 26, 27, 28] rfl (by kernel_rfl) (by kernel_rfl) (by kernel_rfl) (by kernel_rfl) (by decide) (fun _ _ _ h => h) (Or.inl ⟨by rfl, fun wq hSw => by (obtain ⟨s0, s1, s2, s3, s4, s5, s6, s7, s8, s9, s10, s11, s12, s13⟩ := hSw; go_simp)⟩) (unhide HS0) ?_
    try simp only [Act.put, List.setIfInBounds_toArray, List.set_cons_zero, List.set_cons_succ]
    refine wpAnyT_free (i := 5) (v := .pointer (some ⟨M, 0, none⟩)) rfl (by kernel_rfl) (by kernel_rfl) (by kernel_rfl) (fun _ _ _ h => h) (Or.inl ⟨by rfl, fun _ _ => by go_simp⟩) ?_
    try simp only [Act.put, List.setIfInBounds_toArray, List.set_cons_zero, List.set_cons_succ]
    refine wpAnyT_free (i := 6) (v := .pointer (some ⟨M, 0, none⟩)) rfl (by kernel_rfl) (by kernel_rfl) (by kernel_rfl) (fun _ _ _ h => h) (Or.inl ⟨by rfl, fun _ _ => by go_simp⟩) ?_
    try simp only [Act.put, List.setIfInBounds_toArray, List.set_cons_zero, List.set_cons_succ]
    refine wpAnyT_free (i := 7) (v := .pointer (some ⟨M, 5, none⟩)) rfl (by kernel_rfl) (by kernel_rfl) (by kernel_rfl) (fun _ _ _ h => h) (Or.inl ⟨by rfl, fun _ _ => by go_simp⟩) ?_
    try simp only [Act.put, List.setIfInBounds_toArray, List.set_cons_zero, List.set_cons_succ]
    refine wpAnyT_take (i := 8) (v := .int .i64 size) [23, 24, 25, 26, 27, 28] rfl (by kernel_rfl) (by kernel_rfl) (by kernel_rfl) (by kernel_rfl) (by decide) (fun _ _ _ h => h) (Or.inl ⟨by rfl, fun wq hSw => by (obtain ⟨s0, s1, s2, s3, s4, s5, s6, s7, s8, s9, s10, s11, s12, s13⟩ := hSw; go_simp)⟩) (unhide HS0) ?_
    try simp only [Act.put, List.setIfInBounds_toArray, List.set_cons_zero, List.set_cons_succ]
    refine wpAnyT_free (i := 9) (v := .int .i64 cnt) rfl (by kernel_rfl) (by kernel_rfl) (by kernel_rfl) (fun _ _ _ h => h) (Or.inl ⟨by rfl, fun _ _ => by go_simp⟩) ?_
    try simp only [Act.put, List.setIfInBounds_toArray, List.set_cons_zero, List.set_cons_succ]
    refine wpAnyT_take (i := 10) (v := .agg #[.slice a0 n0 c0, .slice a1 n1 c1, .slice a2 n2 c2, .slice a3 n3 c3, .slice a4 n4 c4]) [13, 23, 24, 25, 26, 27, 28] rfl (by kernel_rfl) (by kernel_rfl) (by kernel_rfl) (by kernel_rfl) (by decide) (fun _ _ _ h => h) (Or.inl ⟨by rfl, fun wq hSw => by (obtain ⟨s0, s1, s2, s3, s4, s5, s6, s7, s8, s9, s10, s11, s12, s13⟩ := hSw; go_simp)⟩) (unhide HS0) ?_
    try simp only [Act.put, List.setIfInBounds_toArray, List.set_cons_zero, List.set_cons_succ]
    refine wpAnyT_free (i := 11) (v := .pointer (some ⟨w.heap.size + 1, 5, none⟩)) rfl (by kernel_rfl) (by kernel_rfl) (by kernel_rfl) (fun _ _ _ h => h) (Or.inl ⟨by rfl, fun _ _ => by go_simp⟩) ?_
    try simp only [Act.put, List.setIfInBounds_toArray, List.set_cons_zero, List.set_cons_succ]
    refine wpAnyT_take (i := 12) (v := .agg #[.int .i64 v.si.form, .int .i64 (digV v.si.top.text), .int .i64 v.si.top.at_, .string v.si.name.text, .int .i64 v.si.name.at_]) [13, 23, 24, 25, 26, 27, 28] rfl (by kernel_rfl) (by kernel_rfl) (by kernel_rfl) (by kernel_rfl) (by decide) (fun _ _ _ h => h) (Or.inl ⟨by rfl, fun wq hSw => by (obtain ⟨s0, s1, s2, s3, s4, s5, s6, s7, s8, s9, s10, s11, s12, s13⟩ := hSw; go_simp)⟩) (unhide HS0) ?_
    try simp only [Act.put, List.setIfInBounds_toArray, List.set_cons_zero, List.set_cons_succ]
    refine wpAnyT_take (i := 14) (v := .agg #[.slice a0 n0 c0, .slice a1 n1 c1, .slice a2 n2 c2, .slice a3 n3 c3, .slice a4 n4 c4]) [17, 23, 24, 25, 26, 27, 28] rfl (by kernel_rfl) (by kernel_rfl) (by kernel_rfl) (by kernel_rfl) (by decide) (fun _ _ _ h => h) (Or.inl ⟨by rfl, fun wq hSw => by (obtain ⟨s0, s1, s2, s3, s4, s5, s6, s7, s8, s9, s10, s11, s12, s13⟩ := hSw; go_simp)⟩) (unhide HS0) ?_
    try simp only [Act.put, List.setIfInBounds_toArray, List.set_cons_zero, List.set_cons_succ]
    refine wpAnyT_free (i := 15) (v := .pointer (some ⟨w.heap.size + 1, 3, none⟩)) rfl (by kernel_rfl) (by kernel_rfl) (by kernel_rfl) (fun _ _ _ h => h) (Or.inl ⟨by rfl, fun _ _ => by go_simp⟩) ?_
    try simp only [Act.put, List.setIfInBounds_toArray, List.set_cons_zero, List.set_cons_succ]
    refine wpAnyT_take (i := 16) (v := .agg #[.string v.over.text, .int .i64 v.over.at_]) [17, 23, 24, 25, 26, 27, 28] rfl (by kernel_rfl) (by kernel_rfl) (by kernel_rfl) (by kernel_rfl) (by decide) (fun _ _ _ h => h) (Or.inl ⟨by rfl, fun wq hSw => by (obtain ⟨s0, s1, s2, s3, s4, s5, s6, s7, s8, s9, s10, s11, s12, s13⟩ := hSw; go_simp)⟩) (unhide HS0) ?_
    try simp only [Act.put, List.setIfInBounds_toArray, List.set_cons_zero, List.set_cons_succ]
    refine wpAnyT_take (i := 18) (v := .agg #[.slice a0 n0 c0, .slice a1 n1 c1, .slice a2 n2 c2, .slice a3 n3 c3, .slice a4 n4 c4]) [22, 23, 24, 25, 26, 27, 28] rfl (by kernel_rfl) (by kernel_rfl) (by kernel_rfl) (by kernel_rfl) (by decide) (fun _ _ _ h => h) (Or.inl ⟨by rfl, fun wq hSw => by (obtain ⟨s0, s1, s2, s3, s4, s5, s6, s7, s8, s9, s10, s11, s12, s13⟩ := hSw; go_simp)⟩) (unhide HS0) ?_
    try simp only [Act.put, List.setIfInBounds_toArray, List.set_cons_zero, List.set_cons_succ]
    refine wpAnyT_free (i := 19) (v := .pointer (some ⟨w.heap.size + 1, 5, none⟩)) rfl (by kernel_rfl) (by kernel_rfl) (by kernel_rfl) (fun _ _ _ h => h) (Or.inl ⟨by rfl, fun _ _ => by go_simp⟩) ?_
    try simp only [Act.put, List.setIfInBounds_toArray, List.set_cons_zero, List.set_cons_succ]
    refine wpAnyT_free (i := 20) (v := .pointer (some ⟨w.heap.size + 1, 8, none⟩)) rfl (by kernel_rfl) (by kernel_rfl) (by kernel_rfl) (fun _ _ _ h => h) (Or.inl ⟨by rfl, fun _ _ => by go_simp⟩) ?_
    try simp only [Act.put, List.setIfInBounds_toArray, List.set_cons_zero, List.set_cons_succ]
    refine wpAnyT_take (i := 21) (v := .agg #[.string v.si.name.text, .int .i64 v.si.name.at_]) [22, 23, 24, 25, 26, 27, 28] rfl (by kernel_rfl) (by kernel_rfl) (by kernel_rfl) (by kernel_rfl) (by decide) (fun _ _ _ h => h) (Or.inl ⟨by rfl, fun wq hSw => by (obtain ⟨s0, s1, s2, s3, s4, s5, s6, s7, s8, s9, s10, s11, s12, s13⟩ := hSw; go_simp)⟩) (unhide HS0) ?_
    try simp only [Act.put, List.setIfInBounds_toArray, List.set_cons_zero, List.set_cons_succ]
    refine wpAnyT_ready (rs := [13]) (by kernel_rfl) (by simp) ?_
    refine AllReadyT.cons rfl (fun K hK => ?_) AllReadyT.nil
    go_simp
    go_at_call 98
    refine ((unhide HVT) wr.drew (unhide HB0)).mono ?_
    rintro e x1 ⟨tvv, rfl, ho1, hb1⟩
    obtain ⟨ta, tc, e, _⟩ := own_viewB ho1
    subst e
    have HT1 := hide (owns_mono (Nat.zero_le _) ho1)
    clear ho1
    have hy1 : wr.heap.size ≤ x1.heap.size := hb1.size
    have HS1 := hide ((unhide HS0).below hb1 (show M < wr.heap.size by omega) (show w.heap.size + 1 < wr.heap.size by omega))
    have HB1 := hide ((unhide HB0).trans (hb1.mono (unhide HB0).size))
    clear hb1
    dsimp only
    refine hK _ _ (unhide HS1) ?_
    clear hK K
    try simp only [Act.put, List.setIfInBounds_toArray, List.set_cons_zero, List.set_cons_succ]
    refine wpAnyT_ready (rs := [17]) (by kernel_rfl) (by simp) ?_
    refine AllReadyT.cons rfl (fun K hK => ?_) AllReadyT.nil
    go_simp
    go_at_call 99
    refine ((unhide HSO) x1 (unhide HB1)).mono ?_
    rintro e x2 ⟨rfl, hb2⟩
    have HT2 := hide (owns_below (unhide HT1) hb2)
    have hy2 : x1.heap.size ≤ x2.heap.size := hb2.size
    have HS2 := hide ((unhide HS1).below hb2 (show M < x1.heap.size by omega) (show w.heap.size + 1 < x1.heap.size by omega))
    have HB2 := hide ((unhide HB1).trans (hb2.mono (unhide HB1).size))
    clear hb2
    dsimp only
    refine hK _ _ (unhide HS2) ?_
    clear hK K
    try simp only [Act.put, List.setIfInBounds_toArray, List.set_cons_zero, List.set_cons_succ]
    refine wpAnyT_ready (rs := [22]) (by kernel_rfl) (by simp) ?_
    refine AllReadyT.cons rfl (fun K hK => ?_) AllReadyT.nil
    go_simp
    go_at_call 99
    refine ((unhide HSM) x2 (unhide HB2)).mono ?_
    rintro e x3 ⟨rfl, hb3⟩
    have HT3 := hide (owns_below (unhide HT2) hb3)
    have hy3 : x2.heap.size ≤ x3.heap.size := hb3.size
    have HS3 := hide ((unhide HS2).below hb3 (show M < x2.heap.size by omega) (show w.heap.size + 1 < x2.heap.size by omega))
    have HB3 := hide ((unhide HB2).trans (hb3.mono (unhide HB2).size))
    clear hb3
    dsimp only
    refine hK _ _ (unhide HS3) ?_
    clear hK K
    try simp only [Act.put, List.setIfInBounds_toArray, List.set_cons_zero, List.set_cons_succ]
  all_goals
    refine wpAnyT_free (i := 23) (v := .agg #[.int .i64 size, .int .i64 cnt, .slice ta u.texts.length tc, .int .i64 u.over, .int .i64 u.of_]) rfl (by kernel_rfl) (by kernel_rfl) (by kernel_rfl) (fun _ _ _ h => h) (Or.inl ⟨by rfl, fun _ _ => by go_simp⟩) ?_
    try simp only [Act.put, List.setIfInBounds_toArray, List.set_cons_zero, List.set_cons_succ]
    refine wpAnyT_ready (rs := [24]) (by kernel_rfl) (by simp) ?_
    refine AllReadyT.cons rfl (fun K hK => ?_) AllReadyT.nil
    go_simp
    refine hK _ _ ((unhide HS3).below (below_alloc1 _ _) (by omega) (by omega)) ?_
    clear hK K
    refine wpAnyT_tail _ _ _ _ (tail_all (by kernel_rfl)) ?_
    refine wpAny_ready (rs := [25]) (by kernel_rfl) (by simp) (AllReady.cons rfl (fun K hK => ?_) AllReady.nil)
    refine step_append_lies _ (by rfl) _ _ _ (by rfl) lo 213 i0 _ 5 56 Tryz.underlying103 hi hz0 hz1 hz2 rfl (by omega) (.slice va vars.length vc) vars.length cs (by rfl) (owns_below (unhide HVA) ((unhide HB3).trans ((below_alloc1 x3 _).mono (unhide HB3).size))) ⟨x3.heap.size, 0, none⟩ 1 1 [.int .i64 size, .int .i64 cnt, .slice ta u.texts.length tc, .int .i64 u.over, .int .i64 u.of_] (by rfl) (by rfl) (World.news_of_block (cs := #[.int .i64 size, .int .i64 cnt, .slice ta u.texts.length tc, .int .i64 u.over, .int .i64 u.of_]) (t := 213) (fr := (0, 0)) (heap_alloc_new x3 _)) (by intro y hy; simp only [List.mem_cons, List.not_mem_nil, or_false] at hy; rcases hy with rfl | rfl | rfl | rfl | rfl <;> rfl) (by omega) (by unfold maxLen; omega) (by omega) (by simp; omega) (x3.heap.size + 1) (by simp) ?_
    intro gg gcap w4 hown4 hgrow hat hlt4
    refine hK _ _ ?_
    clear hK K
    have hr4 := av_row4 (unhide HMC) (unhide HB3) hgrow
    obtain ⟨m0, m1, m2, m3, m4, m5, f0, f1, f2, f3, f4, f5⟩ := row6 hr4
    obtain ⟨p0, p1, p2, p3, p4, p5, g0, g1, g2, g3, g4, g5⟩ := row6 (mset3 hr4 (.slice (some ⟨gg, 0, none⟩) (vars.length + 1) gcap))
    have hend := av_end (unhide HMC) u hfst hcnt (unhide HVA) (unhide HMV) (unhide HB3) (unhide HT3) hgrow hown4 hlo
    rw [hcnt] at hend
    have HEND := hide hend
    clear hend
    clear hr4 hown4 hgrow hat
    refine wpAny_ready (rs := [26]) (by kernel_rfl) (by simp) (AllReady.cons rfl (fun K hK => ?_) AllReady.nil)
    go_simp
    refine hK _ _ ?_
    clear hK K
    refine wpAny_ready (rs := [27]) (by kernel_rfl) (by simp) (AllReady.cons rfl (fun K hK => ?_) AllReady.nil)
    go_simp
    refine hK _ _ ?_
    clear hK K
    refine wpAny_ready (rs := [28]) (by kernel_rfl) (by simp) (AllReady.cons rfl (fun K hK => ?_) AllReady.nil)
    go_simp
    refine hK _ _ ?_
    clear hK K
    refine wpAny_done (by kernel_rfl) ?_ _
    go_wp2
    go_end0
    first
      | exact ⟨rfl, unhide HEND⟩
      | (rw [hcnt]; exact ⟨rfl, unhide HEND⟩)

end Go.Proofs.YtpmcnonmkghokaaGreatDoor
namespace Go.Proofs.YtpmcnonmkghokaaGreatDoor
open Go.RowKit
attribute [local go_sem ↓] Go.wp_at_zero Go.wp_at_succ
theorem Tryz.infoInt : (Tryz.prog.info? 3).map (fun i => (i.zero, i.size, i.bytes)) = some (some (.int .i64 0), 1, 8) := by kernel_rfl
theorem Tryz.infoInts : (Tryz.prog.info? 31).map (fun i => (i.zero, i.size, i.bytes)) = some (some (.slice none 0 0), 1, 24) := by kernel_rfl
theorem ints_one (l : List Int) : ∀ y ∈ l.map (Value.int .i64), y.oneCell' = true := by
  intro y hy
  obtain ⟨x, _, rfl⟩ := List.mem_map.mp hy
  rfl
set_option maxRecDepth 100000 in
set_option maxHeartbeats 4000000 in
theorem cloneInts_any (w : World) (lo : Nat) (st : List Int) (sa : Option Addr) (sn sc : Nat) (hS : w.ownsRow lo 3 1 (.slice sa sn sc) st.length (st.map (Value.int .i64))) (hl : st.length ≤ 1000000) :
    Calls Tryz.prog 185 #[.slice sa sn sc] w fun e w' => ∃ ca cn cc, e = .returned (.slice ca cn cc) ∧ w'.ownsRow w.heap.size 3 1 (.slice ca cn cc) st.length (st.map (Value.int .i64)) ∧ Below w.heap.size w w' := by
  rcases hS.2 with ⟨e1, e2⟩ | ⟨g, cap, cur, e1, e2, e3, e4⟩
  · injection e1 with e1 e1' e1''
    subst e1; subst e1'; subst e1''
    have hn : st = [] := List.eq_nil_of_length_eq_zero e2
    subst hn
    have hnil := fun w => Go.Lib.run_eql_slice_nil (P := Tryz.prog) w 31 3 none 0 0 0 0 Tryz.underlying31
    clear hS e2 hl
    go_enter Tryz.func185, Tryz.ntmps185
    go_wp2
    go_ret
    exact ⟨none, 0, 0, rfl, World.ownsRow_nil _ _ _ _, Below.refl _ _⟩
  · injection e1 with e1 e1' e1''
    subst e1; subst e1'; subst e1''
    have HS := hide (owns_below hS (below_alloc1 w (.cells #[] 3)))
    have HO := hide (show (w.alloc (.cells #[] 3)).ownsRow w.heap.size 3 1 (.slice (some ⟨w.heap.size, 0, none⟩) 0 0) 0 [] from ⟨rfl, Or.inr ⟨w.heap.size, 0, _, rfl, Nat.le_refl _, alloc_new _ _, Nat.le_refl _, by unfold maxLen; omega, rfl, rfl⟩⟩)
    obtain ⟨i0, hi, hz0, hz1, hz2⟩ := info_parts Tryz.infoInt
    have hnil := fun w => Go.Lib.run_eql_slice_nil (P := Tryz.prog) w 31 3 (some ⟨g, 0, none⟩) st.length sc 0 0 Tryz.underlying31
    clear hS e2 e3 e4
    go_enter Tryz.func185, Tryz.ntmps185
    go_wp2_with (at_builtin; refine wpList_append_slice rfl _ _ 31 rfl w.heap.size 3 i0 _ 1 8 Tryz.underlying31 hi hz0 hz1 hz2 rfl (by decide) (.slice (some ⟨w.heap.size, 0, none⟩) 0 0) 0 [] rfl (unhide HO) (.slice (some ⟨g, 0, none⟩) st.length sc) st.length _ _ rfl (unhide HS) (ints_one st) (by unfold maxLen; omega) (by omega) (by simp) ?_)
    intro v3 w3 hown3 hgrow3 hat3
    have HB3 := hide ((below_alloc1 w _).grown hgrow3 (by simp) (own_ge (unhide HO)))
    obtain ⟨a3, l3, c3, rfl⟩ := own_slice hown3
    have HV3 := hide hown3
    clear hown3 hgrow3 hat3
    go_wp2
    go_ret
    exact ⟨a3, l3, c3, rfl, unhide HV3, unhide HB3⟩

/-- All lists, each with each number below n behind it. -/
def chStep (n : Nat) (all : List (List Int)) : List (List Int) := all.flatMap fun c => (List.range n).map fun (j : Nat) => c ++ [(j : Int)]
def chO (ss : List PSet) : List PP → List (List Int) → Option (List (List Int))
  | [], all => some all
  | p :: l, all => (sizO ss p.set_.text.toList).bind fun n => if (chStep n all).length ≤ 100000 then chO ss l (chStep n all) else none
theorem chStep_take (n : Nat) (all : List (List Int)) (j : Nat) (hj : j < all.length) : chStep n (all.take (j + 1)) = chStep n (all.take j) ++ (List.range n).map fun (q : Nat) => all[j] ++ [(q : Int)] := by
  rw [List.take_succ_eq_append_getElem hj, chStep, List.flatMap_append]; simp [chStep]
theorem chStep_le (n : Nat) (all : List (List Int)) (j : Nat) : (chStep n (all.take j)).length ≤ (chStep n all).length := by
  have := List.take_append_drop j all
  have h2 : chStep n all = chStep n (all.take j) ++ chStep n (all.drop j) := by rw [chStep, chStep, chStep, ← List.flatMap_append, this]
  rw [h2, List.length_append]; omega
theorem chStep_len {n : Nat} {all : List (List Int)} {k : Nat} (h : ∀ x ∈ all, x.length ≤ k) : ∀ x ∈ chStep n all, x.length ≤ k + 1 := by
  intro x hx
  obtain ⟨c, hc, h2⟩ := List.mem_flatMap.mp hx
  obtain ⟨j, _, rfl⟩ := List.mem_map.mp h2
  have := h c hc
  simp; omega
/-- The cells are rows of numbers. -/
def RowsIs (w : World) (ls : List (List Int)) (cs : List Value) : Prop := cs.length = ls.length ∧ ∀ k (hk : k < ls.length), ∃ a n c, cs[k]? = some (.slice a n c) ∧ w.ownsRow 0 3 1 (.slice a n c) ls[k].length (ls[k].map (Value.int .i64))
theorem RowsIs.tk {w w' : World} {ls : List (List Int)} {cs : List Value} {x : Option Nat} {bad : List Nat} (h : RowsIs w ls cs) (hk : Tk x bad w w') (hx : NoRow w x) (he : 3 ∉ bad) : RowsIs w' ls cs :=
  ⟨h.1, fun k hl => by obtain ⟨a, n, c, e, ho⟩ := h.2 k hl; exact ⟨a, n, c, e, owns_tk ho hk hx he⟩⟩
theorem RowsIs.snoc {w : World} {ls : List (List Int)} {cs : List Value} {l : List Int} {a : Option Addr} {n c : Nat} (h : RowsIs w ls cs) (ho : w.ownsRow 0 3 1 (.slice a n c) l.length (l.map (Value.int .i64))) : RowsIs w (ls ++ [l]) (cs ++ [.slice a n c]) := by
  refine ⟨by simp [h.1], fun k hk => ?_⟩
  by_cases hl : k < ls.length
  · obtain ⟨a', n', c', e, ho'⟩ := h.2 k hl
    refine ⟨a', n', c', ?_, ?_⟩
    · rw [List.getElem?_append_left (by rw [h.1]; exact hl)]; exact e
    · rw [List.getElem_append_left hl]; exact ho'
  · have : k = ls.length := by simp at hk; omega
    subst this
    exact ⟨a, n, c, by rw [← h.1]; simp, by simpa using ho⟩
/-- Rows of numbers that the call owns. -/
def OwnRows (B : Nat) (w : World) (x : Value) (ls : List (List Int)) : Prop := ∃ la ll lc cs, x = .slice la ll lc ∧ w.ownsRow B 31 1 (.slice la ll lc) ls.length cs ∧ RowsIs w ls cs

set_option maxRecDepth 100000 in
set_option maxHeartbeats 8000000 in
theorem choices_any (w : World) (lo mo : Nat) (a0 a1 a2 a3 a4 : Option Addr) (n0 n1 n2 n3 n4 c0 c1 c2 c3 c4 : Nat) (m : MdL) (hm : MdIs mo w (.slice a0 n0 c0) (.slice a1 n1 c1) (.slice a2 n2 c2) (.slice a3 n3 c3) (.slice a4 n4 c4) m) (hf : MdFit m) (l : List PP) (pa : Option Addr) (pn pc : Nat) (hP : w.ownsRow lo 352 4 (.slice pa pn pc) l.length (pasCells l)) (hl : l.length ≤ 1000) (r : List (List Int)) (hr : chO m.sets l [[]] = some r) :
    Calls Tryz.prog 171 #[mdV a0 a1 a2 a3 a4 n0 n1 n2 n3 n4 c0 c1 c2 c3 c4, .slice pa pn pc] w fun e w' => ∃ v, e = .returned v ∧ OwnRows w.heap.size w' v r ∧ Below w.heap.size w w' := by
  obtain ⟨i0, hi, hz0, hz1, hz2⟩ := info_parts Tryz.infoInt
  obtain ⟨j0, hj, hy0, hy1, hy2⟩ := info_parts Tryz.infoInts
  obtain ⟨W, hW⟩ : ∃ W, W = (w.alloc (.cells #[.slice a0 n0 c0, .slice a1 n1 c1, .slice a2 n2 c2, .slice a3 n3 c3, .slice a4 n4 c4] 68)).alloc (.cells #[.slice none 0 0] 31) := ⟨_, rfl⟩
  have hbW : Below w.heap.size w W := by rw [hW]; exact (below_alloc1 w _).trans ((below_alloc1 _ _).mono (by simp))
  have hsW : w.heap.size + 1 < W.heap.size := by rw [hW]; simp
  have hD : W.heap[w.heap.size]? = some (.cells #[.slice a0 n0 c0, .slice a1 n1 c1, .slice a2 n2 c2, .slice a3 n3 c3, .slice a4 n4 c4] 68 (0, 0)) := by rw [hW]; exact alloc_row (alloc_new _ _)
  have hA : W.heap[w.heap.size + 1]? = some (.cells #[.slice none 0 0] 31 (0, 0)) := by
    rw [hW]
    have := alloc_new (w.alloc (.cells #[.slice a0 n0 c0, .slice a1 n1 c1, .slice a2 n2 c2, .slice a3 n3 c3, .slice a4 n4 c4] 68)) (.cells #[.slice none 0 0] 31)
    simp only [World.size_alloc] at this
    exact this
  have hstart : OwnRows w.heap.size W (.slice (some ⟨w.heap.size + 1, 0, none⟩) 1 1) [[]] :=
    ⟨_, _, _, [.slice none 0 0], rfl, ⟨rfl, Or.inr ⟨w.heap.size + 1, 1, _, rfl, by omega, hA, Nat.le_refl _, by unfold maxLen; omega, rfl, rfl⟩⟩, rfl, fun k hk => by
      have : k = 0 := by simp at hk; exact hk
      subst this
      exact ⟨none, 0, 0, rfl, World.ownsRow_nil _ _ _ _⟩⟩
  obtain ⟨ya, yc, e1, hview⟩ := own_viewB (owns_below hP hbW)
  injection e1 with e1 e2 e3
  subst e1; subst e2; subst e3
  have HW := hide hview
  have HST := hide hstart
  have HD := hide hD
  have HBW := hide hbW
  have HWE := hide hW.symm
  have HR := hide hr
  have HSZ := hide (fun (wx : World) (hb : Below w.heap.size w wx) (t : Tok) (n : Nat) (h : sizO m.sets t.text.toList = some n) => (show ∃ d : Int, d = n ∧ Calls Tryz.prog 97 #[.agg #[.slice a0 n0 c0, .slice a1 n1 c1, .slice a2 n2 c2, .slice a3 n3 c3, .slice a4 n4 c4], .agg #[.string t.text, .int .i64 t.at_]] wx fun e w' => e = .returned (.int .i64 d) ∧ Below wx.heap.size wx w' from by
    obtain ⟨k, x, h1, h2, h3, _⟩ := sizO_some h
    exact ⟨_, h3, setSize_any wx mo m.sets t a0 a1 a2 a3 a4 n0 n1 n2 n3 n4 c0 c1 c2 c3 c4 (owns_below hm.o0 hb) hf.sets k h1 x h2⟩))
  clear hview hP hm hf hr hstart hD hA hbW hW
  unfold mdV
  go_enter Tryz.func171, Tryz.ntmps171
  go_wp2_with fail
  rw [unhide HWE]
  go_loopw [5, 7, 8, 10, 11, 15] (fun x _ _ _ _ i wr => ∃ (k : Nat) (all : List (List Int)), k ≤ l.length ∧ i = .int .i64 k ∧ OwnRows w.heap.size wr x all ∧ chO m.sets (l.drop k) all = some r ∧ all.length ≤ 100000 ∧ (∀ y ∈ all, y.length ≤ k) ∧ Below W.heap.size W wr) (fun _ _ _ _ _ i _ => l.length - (intOf i).toNat)
  case atStart => exact ⟨0, [[]], Nat.zero_le _, rfl, unhide HST, unhide HR, by simp, by simp, Below.refl _ _⟩
  case round =>
    obtain ⟨wo, hwo⟩ : ∃ wo, wo = wr := ⟨_, rfl⟩
    subst hwo
    obtain ⟨k, all, hk, rfl, hown, hrest, hal, hlen, hb⟩ := hrel
    obtain ⟨xa, xn, xc, cs, rfl, hrow, hrows⟩ := hown
    obtain ⟨za, zc, ez, hzv⟩ := own_viewB hrow
    injection ez with ez1 ez2 ez3
    subst ez1; subst ez2; subst ez3
    have hsz := hb.size
    by_cases hlt : k < l.length
    · obtain ⟨g, rfl, hg1, hg2, hc⟩ := unhide HW k hlt
      have fl := fun j (hj : j < 4) => flat_at paCells 4 (fun _ => rfl) l k j hlt hj
      have cc : ∀ j, j < l.length * 4 → wo.cell? ⟨g, j, none⟩ = (pasCells l)[j]? := fun j hj => (hb.cell (p := ⟨g, j, none⟩) hg2).trans (hc j hj)
      have e0 := (cc (k * 4 + 0) (by omega)).trans (fl 0 (by omega))
      have e1 := (cc (k * 4 + 1) (by omega)).trans (fl 1 (by omega))
      have e2 := (cc (k * 4 + 2) (by omega)).trans (fl 2 (by omega))
      have e3 := (cc (k * 4 + 3) (by omega)).trans (fl 3 (by omega))
      simp only [paCells, List.getElem?_cons_zero, List.getElem?_cons_succ, Nat.add_zero] at e0 e1 e2 e3
      rw [List.drop_eq_getElem_cons hlt, chO] at hrest
      obtain ⟨n, hn, hrest⟩ := Option.bind_eq_some_iff.mp hrest
      have hcl : (chStep n all).length ≤ 100000 := by
        apply Classical.byContradiction
        intro hc
        rw [if_neg hc] at hrest
        cases hrest
      rw [if_pos hcl] at hrest
      have HREST := hide hrest
      have HN := hide hn
      obtain ⟨w1, hw1⟩ : ∃ w1, w1 = wo.alloc (.cells #[.string l[k].name.text, .int .i64 l[k].name.at_, .string l[k].set_.text, .int .i64 l[k].set_.at_] 352) := ⟨_, rfl⟩
      have hb1 : Below W.heap.size W w1 := by rw [hw1]; exact hb.alloc hsz _
      have hp1 : w1.heap[wo.heap.size]? = some (.cells #[.string l[k].name.text, .int .i64 l[k].name.at_, .string l[k].set_.text, .int .i64 l[k].set_.at_] 352 (0, 0)) := by rw [hw1]; exact alloc_new _ _
      have hbr1 : Below wo.heap.size wo w1 := by rw [hw1]; exact below_alloc1 _ _
      have hs1 : wo.heap.size < w1.heap.size := by rw [hw1]; simp
      have hzv1 := hzv
      have HZV := hide hzv
      have HRW := hide (hrows.tk (below_tk hbr1 none []) (NoRow.none _) (by simp))
      have HB1 := hide hb1
      have HBR1 := hide hbr1
      have HP1 := hide hp1
      have HW1 := hide hw1.symm
      have HLEN := hide hlen
      have HS0 := hide (show OwnRows w1.heap.size w1 (.slice none 0 0) (chStep n (all.take 0)) from ⟨none, 0, 0, [], rfl, by simp [chStep]; exact World.ownsRow_nil _ _ _ _, by simp [chStep], fun k hk => by simp [chStep] at hk⟩)
      generalize l[k] = p at *
      clear cc fl hc hb hrow hrows hzv hzv1 hrest hn hb1 hp1 hbr1 hw1 hlen
      go_wp2_with fail
      rw [unhide HW1]
      go_loopw [8, 10, 11, 21] (fun y _ _ i wm => ∃ j : Nat, j ≤ all.length ∧ i = .int .i64 j ∧ OwnRows w1.heap.size wm y (chStep n (all.take j)) ∧ Below w1.heap.size w1 wm) (fun _ _ _ i _ => all.length - (intOf i).toNat)
      case atStart => exact ⟨0, Nat.zero_le _, rfl, unhide HS0, Below.refl _ _⟩
      case round =>
        obtain ⟨wm, hwm⟩ : ∃ wm, wm = wr := ⟨_, rfl⟩
        subst hwm
        obtain ⟨j, hjl, rfl, hown, hbm⟩ := hrel
        obtain ⟨ya, yn, yc, ds, rfl, hrow, hrows⟩ := hown
        have hszm := hbm.size
        have hbm0 : Below W.heap.size W wm := (unhide HB1).trans (hbm.mono (unhide HB1).size)
        by_cases hltj : j < all.length
        · obtain ⟨g5, rfl, hg51, hg52, hc5⟩ := unhide HZV j hltj
          obtain ⟨ca, cn, cc5, ec5, hch⟩ := (unhide HRW).2 j hltj
          have e5 : wm.cell? ⟨g5, j * 1, none⟩ = some (.slice ca cn cc5) := by
            rw [hbm.cell (p := ⟨g5, j * 1, none⟩) (by show g5 < w1.heap.size; omega), (unhide HBR1).cell (p := ⟨g5, j * 1, none⟩) hg52, hc5 (j * 1) (by omega), Nat.mul_one]; exact ec5
          simp only [Nat.mul_one] at e5
          have hch' := owns_below hch hbm
          have hcl5 : all[j].length ≤ 1000 := by have := (unhide HLEN) _ (List.getElem_mem hltj); omega
          obtain ⟨q0, q1, q2, q3, q4, _⟩ := row5' ((hbm0.block w.heap.size (by omega)).trans (unhide HD))
          obtain ⟨p0, p1, p2, p3, _⟩ := row4' ((hbm.block wo.heap.size (by omega)).trans (unhide HP1))
          have hbw : Below w.heap.size w wm := (unhide HBW).trans (hbm0.mono (by omega))
          obtain ⟨d, hd, hcall⟩ := (unhide HSZ) wm hbw p.set_ n (unhide HN)
          have HCALL := hide hcall
          have HCH := hide hch
          have HROW := hide hrow
          have HROWS := hide hrows
          have HBM := hide hbm
          have hstep := chStep_take n all j hltj
          have hsle := chStep_le n all (j + 1)
          have HSTEP := hide hstep
          generalize all[j] = c at *
          clear hrow hrows hbm hch' hcall hbm0 hbw hc5 hch ec5
          go_wp2_with fail
          refine (unhide HCALL).mono ?_
          rintro e w3 ⟨rfl, hb3⟩
          subst hd
          have hsz3 := hb3.size
          have HB31 := hide ((unhide HBM).trans (hb3.mono hszm))
          have HS3 := hide (show OwnRows w1.heap.size w3 (.slice ya yn yc) (chStep n (all.take j) ++ (List.range 0).map fun (q : Nat) => c ++ [(q : Int)]) from ⟨ya, yn, yc, ds, rfl, by simpa using owns_below (unhide HROW) hb3, by simpa using (unhide HROWS).tk (below_tk hb3 none []) (NoRow.none _) (by simp)⟩)
          clear hb3 HCALL q0 q1 q2 q3 q4 p0 p1 p2 p3
          go_wp2_with fail
          go_loopw [8, 11, 29] (fun y _ i wi => ∃ q : Nat, q ≤ n ∧ i = .int .i64 q ∧ OwnRows w1.heap.size wi y (chStep n (all.take j) ++ (List.range q).map fun (q : Nat) => c ++ [(q : Int)]) ∧ Below w1.heap.size w1 wi) (fun _ _ i _ => n - (intOf i).toNat)
          case atStart => exact ⟨0, Nat.zero_le _, rfl, unhide HS3, unhide HB31⟩
          case round =>
            obtain ⟨wi, hwi⟩ : ∃ wi, wi = wr := ⟨_, rfl⟩
            subst hwi
            obtain ⟨q, hq, rfl, hown, hbi⟩ := hrel
            obtain ⟨ya', yn', yc', ds', rfl, hrow, hrows⟩ := hown
            have hszi := hbi.size
            by_cases hlq : q < n
            · have HCW := hide (owns_below (unhide HCH) hbi)
              have HROWi := hide hrow
              have HROWSi := hide hrows
              have HBi := hide hbi
              have hdl := hrows.1
              have hlen2 : (chStep n (all.take j) ++ (List.range q).map fun (q : Nat) => c ++ [(q : Int)]).length ≤ 100000 := by
                have h1 : (chStep n (all.take j) ++ (List.range q).map fun (q : Nat) => c ++ [(q : Int)]).length ≤ (chStep n (all.take (j + 1))).length := by
                  rw [unhide HSTEP]; simp; omega
                omega
              have hq9 : (q : Int) ≤ 1000000 := by
                have : q ≤ 100000 := by simp at hlen2; omega
                omega
              have HSN := hide (show (chStep n (all.take j) ++ (List.range (q + 1)).map fun (q : Nat) => c ++ [(q : Int)]) = (chStep n (all.take j) ++ (List.range q).map fun (q : Nat) => c ++ [(q : Int)]) ++ [c ++ [(q : Int)]] by rw [List.range_succ, List.map_append, ← List.append_assoc]; rfl)
              generalize (chStep n (all.take j) ++ (List.range q).map fun (q : Nat) => c ++ [(q : Int)]) = Lg at *
              clear hrow hrows hbi
              go_wp2_with fail
              refine (cloneInts_any _ 0 c ca cn cc5 (unhide HCW) (by omega)).mono ?_
              rintro e w4 ⟨xa, xn, xc, rfl, ho4, hb4⟩
              have hsz4 := hb4.size
              have HO4 := hide ho4
              have HB4 := hide hb4
              clear ho4 hb4
              go_wp2_with (at_builtin; refine wpList_append_own_at _ rfl _ _ 31 rfl wi.heap.size 3 i0 _ 1 8 Tryz.underlying31 hi hz0 hz1 hz2 rfl (by decide) (.slice xa xn xc) _ _ rfl ((unhide HO4).alloc _) ⟨w4.heap.size, 0, none⟩ 1 1 [.int .i64 q] rfl rfl (cells_new w4 _ [.int .i64 q] _ rfl) (by intro y hy; simp at hy; subst hy; rfl) (by unfold maxLen; omega) (by omega) (by simp; omega) ?_)
              intro v5 w5 hown5 hgrow5 _ hat5
              obtain ⟨a5, l5, c5, rfl⟩ := own_slice hown5
              have hb5 : Below wi.heap.size wi w5 := ((unhide HB4).alloc hsz4 _).grown hgrow5 (by simp; omega) (own_ge (unhide HO4))
              have hsz5 := hb5.size
              have HN5 := hide (show w5.ownsRow 0 3 1 (.slice a5 l5 c5) (c ++ [(q : Int)]).length ((c ++ [(q : Int)]).map (Value.int .i64)) by rw [List.length_append, List.map_append]; exact owns_mono (Nat.zero_le _) hown5)
              have HB5 := hide hb5
              have HRW5 := hide (owns_below (unhide HROWi) hb5)
              clear hown5 hgrow5 hat5 hb5
              go_wp2_with (at_builtin; refine wpList_append_own_at _ rfl _ _ 79 rfl w1.heap.size 31 j0 _ 1 24 Tryz.underlying79 hj hy0 hy1 hy2 rfl (by decide) (.slice ya' yn' yc') _ _ rfl ((unhide HRW5).alloc _) ⟨w5.heap.size, 0, none⟩ 1 1 [.slice a5 l5 c5] rfl rfl (cells_new w5 _ [.slice a5 l5 c5] _ rfl) (by intro y hy; simp at hy; subst hy; rfl) (by unfold maxLen; omega) (by omega) (by simp; omega) ?_)
              intro v6 w6 hown6 hgrow6 _ hat6
              obtain ⟨a6, l6, c6, rfl⟩ := own_slice hown6
              have k6 : Tk none [31] w5 w6 := (below_tk (below_alloc1 w5 _) _ _).trans (grown_tk ((unhide HRW5).alloc _) hgrow6 (by simp))
              have HX6 := hide (show OwnRows w1.heap.size w6 (.slice a6 l6 c6) (Lg ++ [c ++ [(q : Int)]]) from ⟨a6, l6, c6, _, rfl, by rw [List.length_append]; exact hown6, (((unhide HROWSi).tk (below_tk (unhide HB5) none [31]) (NoRow.none _) (by decide)).snoc (unhide HN5)).tk k6 (NoRow.none _) (by decide)⟩)
              have HB6 := hide ((((unhide HBi).trans ((unhide HB5).mono hszi)).alloc (by omega) _).grown hgrow6 (by simp; omega) (own_ge (unhide HRW5)))
              clear hown6 hgrow6 hat6 k6
              go_wp2
              go_roundw
              case rel => exact ⟨q + 1, by omega, by go_num, by rw [unhide HSN]; exact unhide HX6, unhide HB6⟩
              case measure => simp [intOf]; omega
            · have : q = n := by omega
              subst this
              have HX := hide (show OwnRows w1.heap.size wi (.slice ya' yn' yc') (chStep q (all.take (j + 1))) from ⟨ya', yn', yc', ds', rfl, by rw [unhide HSTEP]; exact hrow, by rw [unhide HSTEP]; exact hrows⟩)
              have HBi := hide hbi
              clear hrow hrows hbi
              go_wp2
              go_roundw
              case rel => exact ⟨j + 1, by omega, by go_num, unhide HX, unhide HBi⟩
              case measure => simp [intOf]; omega
        · have : j = all.length := by omega
          subst this
          rw [List.take_length] at hrow hrows
          have HX := hide (show OwnRows w.heap.size wm (.slice ya yn yc) (chStep n all) from ⟨ya, yn, yc, ds, rfl, owns_mono (by omega) hrow, hrows⟩)
          have HBm := hide hbm0
          have HL2 := hide (chStep_len (n := n) (unhide HLEN))
          clear hrow hrows hbm hbm0
          go_wp2
          go_roundw
          case rel => exact ⟨k + 1, chStep n all, by omega, by go_num, unhide HX, unhide HREST, hcl, unhide HL2, unhide HBm⟩
          case measure => simp [intOf]; omega
    · have : k = l.length := by omega
      subst this
      rw [List.drop_length, chO] at hrest
      injection hrest with hrest
      subst hrest
      have HX := hide (show OwnRows w.heap.size wo (.slice xa all.length xc) all from ⟨xa, all.length, xc, cs, rfl, hrow, hrows⟩)
      have HB := hide ((unhide HBW).trans (hb.mono (by omega)))
      clear hrow hrows hb hzv
      go_wp2
      go_ret
      exact ⟨_, rfl, unhide HX, unhide HB⟩

end Go.Proofs.YtpmcnonmkghokaaGreatDoor

/-
  The program's instances: From.
  The program's machine whole, as it lies; behind.
  The program's first state.
  The program's machine, made: the texts of values.
  The program's machine, made: the texts of a kind's members.
  The program's machine, made: the number of a set.
  The program's machine, made: setNumber, setSize.
  The program's machine, made: the texts of a type's values.
  The program's machine, made: the texts of a set's members.
-/
import Derived.Test.YtpmcnonmkghokaaGreatDoorT14
import Derived.Laws.OwnMore
set_option linter.unusedVariables false
set_option linter.unusedSimpArgs false
namespace Go.Proofs.YtpmcnonmkghokaaGreatDoor
open Go.RowKit
attribute [local go_sem ↓] Go.wp_at_zero Go.wp_at_succ
theorem own_big {w : World} {lo e size : Nat} {v : Value} {n : Nat} {xs : List Value} (h : w.ownsRow lo e size v n xs) : ∀ k, v.ownBlock = some k → lo ≤ k := own_ge h
theorem owns_rebase {w : World} {lo B e size : Nat} {v : Value} {n : Nat} {xs : List Value} (h : w.ownsRow lo e size v n xs) (hB : ∀ k, v.ownBlock = some k → B ≤ k) : w.ownsRow B e size v n xs := by
  refine ⟨h.1, ?_⟩
  rcases h.2 with h1 | ⟨g, cap, cur, e1, e2, e3⟩
  · exact Or.inl h1
  · exact Or.inr ⟨g, cap, cur, e1, hB g (by rw [e1]; rfl), e3⟩
theorem KeptO.toBelow {R B : Nat} {o : Option Nat} {w w' : World} (h : KeptO R o w w') (hB : B ≤ R) (hw : B ≤ w.heap.size) (ho : ∀ k, o = some k → B ≤ k) : Below B w w' :=
  ⟨h.os, h.tape, h.output, h.size, fun k hk => h.block k (by omega) (by omega) (fun e => by have := ho k e; omega)⟩
theorem owns_set6 {w : World} {lo e size b : Nat} {v : Value} {n : Nat} {xs : List Value} (h : w.ownsRow lo e size v n xs) (hb : ∀ k, v.ownBlock = some k → b + 1 ≤ k) (y0 y1 y2 y3 y4 y5 : Value) :
    ((((((w.setCell ⟨b, 0, none⟩ y0).setCell ⟨b, 1, none⟩ y1).setCell ⟨b, 2, none⟩ y2).setCell ⟨b, 3, none⟩ y3).setCell ⟨b, 4, none⟩ y4).setCell ⟨b, 5, none⟩ y5).ownsRow lo e size v n xs := by
  have hne : v.ownBlock ≠ some b := fun e => by have := hb b e; omega
  exact ownsRow_setCell_other (ownsRow_setCell_other (ownsRow_setCell_other (ownsRow_setCell_other (ownsRow_setCell_other (ownsRow_setCell_other h hne _) hne _) hne _) hne _) hne _) hne _
theorem below_set6 {B b : Nat} {a w : World} (h : Below B a w) (hb : B ≤ b) (y0 y1 y2 y3 y4 y5 : Value) :
    Below B a ((((((w.setCell ⟨b, 0, none⟩ y0).setCell ⟨b, 1, none⟩ y1).setCell ⟨b, 2, none⟩ y2).setCell ⟨b, 3, none⟩ y3).setCell ⟨b, 4, none⟩ y4).setCell ⟨b, 5, none⟩ y5) :=
  (((((h.setCell hb _).setCell hb _).setCell hb _).setCell hb _).setCell hb _).setCell hb _

/-- What an instance of a rule comes to: 0 idle, 1 enabled, 2 wrong; and the state behind it. -/
def fromO (vars : List MVar) (tab : MTab) (l : List PP) (ms st : List Int) (x : PX) (b : PB) : Option (List Int × Int) :=
  (valO vars tab l ms st x).bind fun c => (if c.1 == 1 then doO vars tab l ms b st else some (st, false)).map fun p => if (c.2 || p.2) then ([], 2) else if c.1 == 1 then (p.1, 1) else ([], 0)

set_option maxRecDepth 100000 in
set_option maxHeartbeats 4000000 in
theorem mfrom_any (x : PX) (bk : PB) (w : World) (lo so M nb : Nat) (no : Option Nat) (vars : List MVar) (tab : MTab) (l : List PP) (ms st : List Int) (tx : ByteArray) (p pa ma sa ba : Option Addr) (pn pc mn mc sn sc bn bc : Nat) (cs : List Value) (h : Mc lo w M nb vars tab) (hP : w.ownsRow lo 352 4 (.slice pa pn pc) l.length (pasCells l)) (hM : w.ownsRow lo 3 1 (.slice ma mn mc) ms.length (ms.map (Value.int .i64))) (hS : w.ownsRow lo 5 1 (.slice sa sn sc) st.length (st.map (Value.int .u8)))
    (hv : vars.length ≤ 1000) (hpl : l.length ≤ 1000) (hsl : st.length ≤ 1000000) (hX : XIs so w x (.pointer p)) (hs : ∀ y ∈ namesP x, y.text.size ≤ 1000) (hB : w.ownsRow so 334 9 (.slice ba bn bc) (plen bk) cs ∧ BIs so no w bk cs ∧ BLen bk ∧ plen bk ≤ 1000 ∧ (∀ y ∈ namesB bk, y.text.size ≤ 1000))
    (hlw : lo ≤ w.heap.size) (r : List Int × Int) (hr : fromO vars tab l ms st x bk = some r) :
    Calls Tryz.prog 79 #[.agg #[.string tx, .pointer (some ⟨M, 0, none⟩), .slice pa pn pc, .slice ma mn mc, .pointer p, .slice ba bn bc], .slice sa sn sc] w fun e w' => ∃ v, e = .returned (.tuple #[v, .int .i64 r.2]) ∧ w'.ownsRow w.heap.size 5 1 v r.1.length (r.1.map (Value.int .u8)) ∧ Below w.heap.size w w' := by
  unfold fromO at hr
  obtain ⟨c, hc, hr⟩ := Option.bind_eq_some_iff.mp hr
  obtain ⟨d, hd, hr⟩ := Option.map_eq_some_iff.mp hr
  obtain ⟨W, hW⟩ : ∃ W, W = w.alloc (.cells #[.string tx, .pointer (some ⟨M, 0, none⟩), .slice pa pn pc, .slice ma mn mc, .pointer p, .slice ba bn bc] 178) := ⟨_, rfl⟩
  have hbW : Below w.heap.size w W := by rw [hW]; exact below_alloc1 w _
  have hsW : w.heap.size < W.heap.size := by rw [hW]; simp
  have hT : W.heap[w.heap.size]? = some (.cells #[.string tx, .pointer (some ⟨M, 0, none⟩), .slice pa pn pc, .slice ma mn mc, .pointer p, .slice ba bn bc] 178 (0, 0)) := by rw [hW]; exact alloc_new _ _
  have HC1 := hide (mclone_any W.drew lo st sa sn sc (owns_below hS hbW.drew) hsl)
  have hbZ : Below w.heap.size w (W.alloc (.cells #[.string ⟨#[]⟩, .pointer none, .slice none 0 0, .slice none 0 0, .slice none 0 0, .bool false] 269)).drew := (hbW.trans ((below_alloc1 W _).mono (by omega))).drew
  have HC2 := hide (mclone_any (W.alloc (.cells #[.string ⟨#[]⟩, .pointer none, .slice none 0 0, .slice none 0 0, .slice none 0 0, .bool false] 269)).drew lo st sa sn sc (owns_below hS hbZ) hsl)
  have HZ := hide (show (W.alloc (.cells #[.string ⟨#[]⟩, .pointer none, .slice none 0 0, .slice none 0 0, .slice none 0 0, .bool false] 269)).drew.heap[W.heap.size]? = some (.cells #[.string ⟨#[]⟩, .pointer none, .slice none 0 0, .slice none 0 0, .slice none 0 0, .bool false] 269 (0, 0)) from alloc_new _ _)
  obtain ⟨t0, t1, t2, t3, t4, t5, _⟩ := row6 hT
  have HT := hide hT
  have HRN := hide (fun (wx : World) (R : Nat) (ca : Option Addr) (cn cc : Nat) (hb : Below w.heap.size w wx) (hR : wx.heap[R]? = some (.cells #[.string tx, .pointer (some ⟨M, 0, none⟩), .slice pa pn pc, .slice ma mn mc, .slice ca cn cc, .bool false] 269 (0, 0))) (hO : wx.ownsRow lo 5 1 (.slice ca cn cc) st.length (st.map (Value.int .u8))) => (⟨⟨tx, pa, pn, pc, ma, mn, mc, hR, owns_below hP hb, owns_below hM hb⟩, h.below hb, hO⟩ : Rn lo wx R M nb vars tab l ms st (.slice ca cn cc) false))
  have HTR := hide (fun (wx : World) (R : Nat) (sv : Value) (b : Bool) (hb : Below w.heap.size w wx) (hR : Rn lo wx R M nb vars tab l ms st sv b) => misTrue_any x wx lo so R M nb vars tab l ms st sv b p hR hv hpl (hX.below hb) hs c hc)
  have HDO := hide (fun (wx wy : World) (R : Nat) (sv : Value) (b b' : Bool) (hb : Below w.heap.size w wx) (hR : Rn lo wx R M nb vars tab l ms st sv b) (hk : Kept R wx wy) (hR' : Rn lo wy R M nb vars tab l ms st sv b') (q : List Int × Bool) (hq : doO vars tab l ms bk st = some q) => mdo_all bk wy lo so R M nb no vars tab l ms st sv b' _ cs hR' hv hpl (owns_ko (owns_below hB.1 hb) hR.blk hR.sty (by decide) (by decide) (hk.o _)) ((hB.2.1.stay fun k _ hk => hb.block k hk).ko hR.blk hR.sty (hk.o _)) hB.2.2.1 hB.2.2.2.1 hB.2.2.2.2 q hq)
  have HBW := hide hbW
  have HWE := hide hW.symm
  have HR := hide hr
  have HD := hide hd
  clear hr hd hc hs hX h hP hM hS hB hbW hT hW hbZ
  go_enter Tryz.func79, Tryz.ntmps79
  go_upto_region 1 with fail
  rw [unhide HWE]
  go_cut [6] from 8 to 12 (fun v wx => ∃ R ca cn cc, v = .pointer (some ⟨R, 0, none⟩) ∧ w.heap.size < R ∧ wx.heap[R]? = some (.cells #[.string tx, .pointer (some ⟨M, 0, none⟩), .slice pa pn pc, .slice ma mn mc, .slice ca cn cc, .bool false] 269 (0, 0)) ∧ wx.ownsRow w.heap.size 5 1 (.slice ca cn cc) st.length (st.map (Value.int .u8)) ∧ Below W.heap.size W wx)
  case first =>
    go_region_law ((go_simp; go_at_call 131; (first | (refine (unhide HC1).mono ?_; rintro e w2 ⟨ca, cn, cc, rfl, ho2, hb2⟩; have hw2 : w.heap.size < w2.heap.size := (by have := hb2.size; simp at this; omega); obtain ⟨u0, u1, u2, u3, u4, u5, _⟩ := row6 (show w2.heap[w.heap.size]? = _ from (hb2.block _ (by simpa using hsW)).trans (unhide HT))) | (refine (unhide HC2).mono ?_; rintro e w2 ⟨ca, cn, cc, rfl, ho2, hb2⟩; have hw2 : w.heap.size < w2.heap.size := (by have := hb2.size; simp at this; omega); obtain ⟨u0, u1, u2, u3, u4, u5, _⟩ := row6 (show w2.heap[w.heap.size]? = _ from (hb2.block _ (by simp; omega)).trans (alloc_row (unhide HT))); obtain ⟨z0, z1, z2, z3, z4, z5, z6, z7, z8, z9, z10, z11⟩ := row6 (show w2.heap[W.heap.size]? = _ from (hb2.block _ (by simp)).trans (unhide HZ)))); dsimp only))
    all_goals
      go_wp2_with fail
      go_meet
      refine ⟨_, ca, cn, cc, rfl, ?_⟩
      first
      | (refine ⟨hw2, ?_, ?_, ?_⟩
         · exact alloc_new w2 _
         · exact owns_below (owns_mono (Nat.le_of_lt hsW) ho2) (below_alloc1 _ _)
         · exact ((Below.refl _ _).drew.trans (hb2.mono (by simp))).alloc (by have := hb2.size; simp at this; omega) _)
      | (refine ⟨hsW, ?_, ?_, ?_⟩
         · exact set6b (set6a (show w2.heap[W.heap.size]? = _ from (hb2.block _ (by simp)).trans (unhide HZ)) _ _ _) _ _ _
         · exact owns_set6 (owns_mono (by simp; omega) ho2) (fun k hk => by have := own_big ho2 k hk; simp at this; omega) _ _ _ _ _ _
         · exact below_set6 ((((Below.refl _ _).alloc (Nat.le_refl _) _).drew).trans (hb2.mono (by simp))) (Nat.le_refl _) _ _ _ _ _ _)
  case rest =>
  obtain ⟨R, ca, cn, cc, rfl, hRw, hR, hO, hb⟩ := hcut
  have hbw := (unhide HBW).trans (hb.mono (Nat.le_of_lt hsW))
  have hRn := (unhide HRN) _ R ca cn cc hbw hR (owns_mono hlw hO)
  have hS1 := (hb.block w.heap.size hsW).trans (unhide HT)
  obtain ⟨u0, u1, u2, u3, u4, u5, _⟩ := row6 hS1
  have HTR1 := hide ((unhide HTR) _ R _ false hbw hRn)
  have HDO1 := hide (fun w1 b1 h1 hk1 d hd => (unhide HDO) _ w1 R _ false b1 hbw hRn hk1 h1 d hd)
  have HS1 := hide hS1
  have HB1 := hide hbw
  have HGE := hide (own_ge hO)
  have hRn2 : R ≠ w.heap.size := by omega
  have hwl : w.heap.size ≤ wc.heap.size := hbw.size
  clear hbw hRn hS1 hR hO hb HRN HTR HDO HC1 HC2 HZ HT t0 t1 t2 t3 t4 t5
  go_wp2_with fail
  refine (unhide HTR1).mono ?_
  rintro e w1 ⟨rfl, h1, hk1⟩
  have hS2 := hk1.row (Ne.symm hRn2) (unhide HS1)
  obtain ⟨y0, y1, y2, y3, y4, y5, _⟩ := row6 hS2
  obtain ⟨_, r4, r5, _⟩ := h1.cells
  have HB2 := hide ((unhide HB1).trans (hk1.toBelow (B := w.heap.size) (Nat.le_of_lt hRw) hwl))
  have hr := unhide HR
  have hd := unhide HD
  cases hct : (c.1 == 1)
  · rw [hct, if_neg (by simp)] at hd
    injection hd with hd
    subst hd
    rw [hct] at hr
    simp only [Bool.or_false, if_neg (Bool.false_ne_true)] at hr
    cases hcw : c.2
    · rw [hcw] at hr r5
      simp only [if_neg (Bool.false_ne_true)] at hr
      subst hr
      clear h1 hk1 hS2 HTR1 HDO1 HB1 HR HD u0 u1 u2 u3 u4 u5
      go_wp2
      go_ret2
      exact ⟨_, rfl, World.ownsRow_nil _ _ _ _, unhide HB2⟩
    · rw [hcw] at hr r5
      simp only [if_pos] at hr
      subst hr
      clear h1 hk1 hS2 HTR1 HDO1 HB1 HR HD u0 u1 u2 u3 u4 u5
      go_wp2
      go_ret2
      exact ⟨_, rfl, World.ownsRow_nil _ _ _ _, unhide HB2⟩
  · rw [hct, if_pos rfl] at hd
    rw [hct, if_pos rfl] at hr
    have HDO2 := hide ((unhide HDO1) w1 _ h1 hk1 d hd)
    have hwl1 : w.heap.size ≤ w1.heap.size := Nat.le_trans hwl hk1.size
    clear h1 hk1 hS2 HTR1 HDO1 HB1 HR HD u0 u1 u2 u3 u4 u5 hd r4 r5
    go_wp2_with fail
    refine (unhide HDO2).mono ?_
    rintro e w2 ⟨rfl, h2, hk2⟩
    obtain ⟨_, r4, r5, _⟩ := h2.cells
    have HB3 := hide ((unhide HB2).trans (hk2.toBelow (Nat.le_of_lt hRw) hwl1 (unhide HGE)))
    have HST := hide (owns_rebase h2.st (unhide HGE))
    rw [Bool.false_or] at r5
    clear h2 hk2 HDO2 HB2 HGE y0 y1 y2 y3 y4 y5
    cases hcw : (c.2 || d.2)
    · rw [hcw] at hr r5
      simp only [if_neg (Bool.false_ne_true)] at hr
      subst hr
      go_wp2
      go_ret2
      exact ⟨_, rfl, unhide HST, unhide HB3⟩
    · rw [hcw] at hr r5
      simp only [if_pos] at hr
      subst hr
      go_wp2
      go_ret2
      exact ⟨_, rfl, World.ownsRow_nil _ _ _ _, unhide HB3⟩

end Go.Proofs.YtpmcnonmkghokaaGreatDoor
namespace Go.Proofs.YtpmcnonmkghokaaGreatDoor
open Go.RowKit
attribute [local go_sem ↓] Go.wp_at_zero Go.wp_at_succ
structure MStep where
  text : ByteArray
  params : List PP
  mems : List Int
  guard : PX
  block : PB
structure MNever where
  text : ByteArray
  params : List PP
  mems : List Int
  expr : PX
def StepOk (s : MStep) : Prop := s.params.length ≤ 1000 ∧ (∀ y ∈ namesP s.guard, y.text.size ≤ 1000) ∧ BLen s.block ∧ plen s.block ≤ 1000 ∧ (∀ y ∈ namesB s.block, y.text.size ≤ 1000)
/-- A step as it lies: its cells. -/
def StepIs (lo so : Nat) (w : World) (M : Nat) (s : MStep) (cs : List Value) : Prop :=
  ∃ pa pn pc ma mn mc p ba bn bc bs no, cs = [.string s.text, .pointer (some ⟨M, 0, none⟩), .slice pa pn pc, .slice ma mn mc, .pointer p, .slice ba bn bc] ∧ w.ownsRow lo 352 4 (.slice pa pn pc) s.params.length (pasCells s.params) ∧ w.ownsRow lo 3 1 (.slice ma mn mc) s.mems.length (s.mems.map (Value.int .i64)) ∧ XIs so w s.guard (.pointer p) ∧ w.ownsRow so 334 9 (.slice ba bn bc) (plen s.block) bs ∧ BIs so no w s.block bs
theorem StepIs.below {lo so : Nat} {w w' : World} {M : Nat} {s : MStep} {cs : List Value} (h : StepIs lo so w M s cs) (hb : Below w.heap.size w w') : StepIs lo so w' M s cs := by
  obtain ⟨pa, pn, pc, ma, mn, mc, p, ba, bn, bc, bs, no, e, h1, h2, h3, h4, h5⟩ := h
  exact ⟨pa, pn, pc, ma, mn, mc, p, ba, bn, bc, bs, no, e, owns_below h1 hb, owns_below h2 hb, h3.below hb, owns_below h4 hb, h5.stay fun k _ hk => hb.block k hk⟩
/-- Steps as they lie, one behind the other. -/
def StepsIs (lo so : Nat) (w : World) (M : Nat) (l : List MStep) (cs : List Value) : Prop := cs.length = l.length * 6 ∧ ∀ k (hk : k < l.length), StepIs lo so w M l[k] ((cs.drop (k * 6)).take 6)
theorem six_of {cs : List Value} {k : Nat} {a b c d e f : Value} (h : (cs.drop (k * 6)).take 6 = [a, b, c, d, e, f]) : cs[k * 6]? = some a ∧ cs[k * 6 + 1]? = some b ∧ cs[k * 6 + 2]? = some c ∧ cs[k * 6 + 3]? = some d ∧ cs[k * 6 + 4]? = some e ∧ cs[k * 6 + 5]? = some f := by
  have g : ∀ j, j < 6 → cs[k * 6 + j]? = ([a, b, c, d, e, f] : List Value)[j]? := fun j hj => by
    rw [← h, List.getElem?_take_of_lt hj, List.getElem?_drop]
  exact ⟨g 0 (by omega), g 1 (by omega), g 2 (by omega), g 3 (by omega), g 4 (by omega), g 5 (by omega)⟩
/-- What a step of that text leads to. -/
def behO (vars : List MVar) (tab : MTab) (st : List Int) (t : List UInt8) : List MStep → Option (List Int × Bool)
  | [] => some ([], false)
  | s :: l => if s.text.toList == t then (fromO vars tab s.params s.mems st s.guard s.block).map fun r => (r.1, r.2 == 1) else behO vars tab st t l
theorem beh_skip (vars : List MVar) (tab : MTab) (st : List Int) (t : List UInt8) : ∀ (l : List MStep) (k : Nat), (∀ i (hi : i < l.length), i < k → (l[i].text.toList == t) = false) → behO vars tab st t l = behO vars tab st t (l.drop k)
  | [], k, _ => by simp
  | s :: l, 0, _ => rfl
  | s :: l, k + 1, h => by
    have h0 := h 0 (by simp) (by omega)
    simp only [List.getElem_cons_zero] at h0
    rw [behO, h0, List.drop_succ_cons]
    exact beh_skip vars tab st t l k (fun i hi hk => by have := h (i + 1) (by simpa using hi) (by omega); simpa using this)

set_option maxRecDepth 100000 in
set_option maxHeartbeats 4000000 in
theorem behind_any (w : World) (lo so M nb : Nat) (vars : List MVar) (tab : MTab) (steps : List MStep) (st : List Int) (t : ByteArray) (sa ta : Option Addr) (sn sc tc : Nat) (cs : List Value) (h : Mc lo w M nb vars tab) (hS : w.ownsRow lo 5 1 (.slice sa sn sc) st.length (st.map (Value.int .u8))) (hM0 : w.cell? ⟨M, 0, none⟩ = some (.slice ta steps.length tc)) (hT : w.ownsRow lo 178 6 (.slice ta steps.length tc) steps.length cs) (hI : StepsIs lo so w M steps cs) (hok : ∀ s ∈ steps, StepOk s)
    (hv : vars.length ≤ 1000) (hsl : st.length ≤ 1000000) (hln : steps.length ≤ 1000000) (hlw : lo ≤ w.heap.size) (r : List Int × Bool) (hr : behO vars tab st t.toList steps = some r) :
    Calls Tryz.prog 55 #[.pointer (some ⟨M, 0, none⟩), .slice sa sn sc, .string t] w fun e w' => ∃ v, e = .returned (.tuple #[v, .bool r.2]) ∧ w'.ownsRow w.heap.size 5 1 v r.1.length (r.1.map (Value.int .u8)) ∧ Below w.heap.size w w' := by
  obtain ⟨xa, cap, e1, hview⟩ := own_viewB hT
  injection e1 with e1 _ e3
  subst e1; subst e3
  have hMl : M < w.heap.size := by obtain ⟨⟨_, _, _, _, _, _, _, hb, _⟩, _⟩ := h; exact lt_of_block hb
  have HW := hide hview
  have HI := hide hI
  have HR := hide hr
  have HOK := hide hok
  have HFR := hide (fun (wx : World) (hb : Below w.heap.size w wx) (s : MStep) (hs : StepOk s) pa pn pc ma mn mc p ba bn bc bs no (h1 : w.ownsRow lo 352 4 (.slice pa pn pc) s.params.length (pasCells s.params)) (h2 : w.ownsRow lo 3 1 (.slice ma mn mc) s.mems.length (s.mems.map (Value.int .i64))) (h3 : XIs so w s.guard (.pointer p)) (h4 : w.ownsRow so 334 9 (.slice ba bn bc) (plen s.block) bs) (h5 : BIs so no w s.block bs) (r : List Int × Int) (hr : fromO vars tab s.params s.mems st s.guard s.block = some r) =>
    mfrom_any s.guard s.block wx lo so M nb no vars tab s.params s.mems st s.text p pa ma sa ba pn pc mn mc sn sc bn bc bs (h.below hb) (owns_below h1 hb) (owns_below h2 hb) (owns_below hS hb) hv hs.1 hsl (h3.below hb) hs.2.1 ⟨owns_below h4 hb, h5.stay (fun k _ hk => hb.block k hk), hs.2.2.1, hs.2.2.2.1, hs.2.2.2.2⟩ (Nat.le_trans hlw hb.size) r hr)
  clear hview hT hI hr hok h hS
  go_enter Tryz.func55, Tryz.ntmps55
  go_wp2_with fail
  go_loopw [9, 17] (fun _ i wr => ∃ k : Nat, k ≤ steps.length ∧ i = .int .i64 k ∧ (∀ i (hi : i < steps.length), i < k → (steps[i].text.toList == t.toList) = false) ∧ Below w.heap.size w wr) (fun _ i _ => steps.length - (intOf i).toNat)
  case atStart => exact ⟨0, Nat.zero_le _, rfl, fun i _ h => by omega, Below.refl _ _⟩
  case round =>
    obtain ⟨k, hk, rfl, hno, hb⟩ := hrel
    have HNO := hide hno
    have HB := hide hb
    have hsz := hb.size
    clear hno
    by_cases hlt : k < steps.length
    · obtain ⟨g, rfl, hg1, hg2, hc⟩ := unhide HW k hlt
      obtain ⟨hcl, hst⟩ := unhide HI
      obtain ⟨pa, pn, pc, ma, mn, mc, p, ba, bn, bc, bs, no, e, h1, h2, h3, h4, h5⟩ := hst k hlt
      obtain ⟨s0, s1, s2, s3, s4, s5⟩ := six_of e
      have cc : ∀ j, j < steps.length * 6 → wr.cell? ⟨g, j, none⟩ = cs[j]? := fun j hj => (hb.cell (p := ⟨g, j, none⟩) hg2).trans (hc j hj)
      have e0 := (cc (k * 6) (by omega)).trans s0
      have e1 := (cc (k * 6 + 1) (by omega)).trans s1
      have e2 := (cc (k * 6 + 2) (by omega)).trans s2
      have e3 := (cc (k * 6 + 3) (by omega)).trans s3
      have e4 := (cc (k * 6 + 4) (by omega)).trans s4
      have e5 := (cc (k * 6 + 5) (by omega)).trans s5
      have hsk := (beh_skip vars tab st t.toList steps k (unhide HNO)).symm.trans (unhide HR)
      rw [List.drop_eq_getElem_cons hlt, behO] at hsk
      have HST := hide (fun (hq : (steps[k].text.toList == t.toList) = false) => (show ∀ i (hi : i < steps.length), i < k + 1 → (steps[i].text.toList == t.toList) = false from fun i hi h => by
        by_cases e : i = k
        · subst e; exact hq
        · exact (unhide HNO) i hi (by omega)))
      have hsok := unhide HOK steps[k] (List.getElem_mem _)
      have HF := hide (fun (q : List Int × Int) (hq0 : fromO vars tab steps[k].params steps[k].mems st steps[k].guard steps[k].block = some q) => (unhide HFR) (wr.alloc (.cells #[.string steps[k].text, .pointer (some ⟨M, 0, none⟩), .slice pa pn pc, .slice ma mn mc, .pointer p, .slice ba bn bc] 178)) (hb.alloc hsz _) steps[k] hsok pa pn pc ma mn mc p ba bn bc bs no h1 h2 h3 h4 h5 q hq0)
      generalize steps[k] = s at *
      clear cc hc hst e h1 h2 h3 h4 h5 s0 s1 s2 s3 s4 s5 hsok hb
      cases hq : (s.text.toList == t.toList)
      · have HS2 := hide ((unhide HST) hq)
        clear hsk HF
        go_wp2
        go_roundw
        case rel => exact ⟨k + 1, by omega, by go_num, unhide HS2, (unhide HB).alloc hsz _⟩
        case measure => simp [intOf]; omega
      · rw [hq, if_pos rfl] at hsk
        obtain ⟨q, hq2, hq3⟩ := Option.map_eq_some_iff.mp hsk
        subst hq3
        have HF1 := hide ((unhide HF) q hq2)
        clear hsk HF hq2
        go_wp2_with fail
        refine (unhide HF1).mono ?_
        rintro e w2 ⟨v, rfl, ho2, hb2⟩
        have HO2 := hide (owns_mono (Nat.le_trans hsz (by simp : wr.heap.size ≤ (wr.alloc _).heap.size)) ho2)
        have HB2 := hide (((unhide HB).alloc hsz _).trans (hb2.mono (Nat.le_trans hsz (by simp))))
        obtain ⟨a3, l3, c3, rfl⟩ := own_slice ho2
        clear ho2 hb2 HF1
        go_wp2
        go_ret2
        exact ⟨_, rfl, unhide HO2, unhide HB2⟩
    · have hsk := (beh_skip vars tab st t.toList steps steps.length (fun i hi _ => (unhide HNO) i hi (by omega))).symm.trans (unhide HR)
      rw [List.drop_length, behO] at hsk
      injection hsk with hsk
      subst hsk
      clear hb
      go_wp2
      go_ret2
      exact ⟨_, rfl, World.ownsRow_nil _ _ _ _, unhide HB⟩

end Go.Proofs.YtpmcnonmkghokaaGreatDoor
namespace Go.Proofs.YtpmcnonmkghokaaGreatDoor
open Go.RowKit
attribute [local go_sem ↓] Go.wp_at_zero Go.wp_at_succ
theorem made_bytes (n : Nat) : (madeCells (Value.int .u8 0).cells (n * 1)).toList = (List.replicate n (0 : Int)).map (Value.int .u8) := by
  rw [show (Value.int .u8 0).cells = #[Value.int .u8 0] from rfl, toList_madeCells_one, Nat.mul_one, List.map_replicate]
set_option maxRecDepth 100000 in
set_option maxHeartbeats 4000000 in
theorem first_state (w : World) (M n : Nat) (hM : w.cell? ⟨M, 5, none⟩ = some (.int .i64 n)) (hn : n ≤ 1000000) :
    Calls Tryz.prog 54 #[.pointer (some ⟨M, 0, none⟩)] w fun e w' => ∃ v, e = .returned v ∧ w'.ownsRow w.heap.size 5 1 v n ((List.replicate n (0 : Int)).map (Value.int .u8)) ∧ Below w.heap.size w w' := by
  obtain ⟨i0, hi, hz0, hz1, hz2⟩ := info_parts Tryz.infoU8
  obtain ⟨w', hrun, hown, hgr⟩ := run_makeSlice_full (P := Tryz.prog) (w := w) w.heap.size 95 5 i0 _ 1 Tryz.underlying95 hi hz0 hz1 .i64 .i64 n (by omega) (by rw [hz2]; omega) (by unfold maxLen; omega) (Nat.le_refl _)
  have HO := hide (show w'.ownsRow w.heap.size 5 1 (.slice (some ⟨w.heap.size, 0, none⟩) n n) n ((List.replicate n (0 : Int)).map (Value.int .u8)) by
    rw [made_bytes] at hown; exact hown)
  have HB := hide (show Below w.heap.size w w' from (Below.refl _ _).grown hgr (Nat.le_refl _) (fun k hk => by cases hk))
  clear hown hgr hi hz0 hz1 hz2
  go_enter Tryz.func54, Tryz.ntmps54
  go_wp2
  go_ret
  exact ⟨_, rfl, unhide HO, unhide HB⟩

end Go.Proofs.YtpmcnonmkghokaaGreatDoor
namespace Go.Proofs.YtpmcnonmkghokaaGreatDoor
open Go.RowKit
attribute [local go_sem ↓] Go.wp_at_zero Go.wp_at_succ
def digS (i : Nat) : ByteArray := ⟨#[(48 + i).toUInt8]⟩
set_option maxRecDepth 100000 in
set_option maxHeartbeats 4000000 in
theorem itoa_digit (i : Nat) (hi : i < 10) (w : World) : Calls Tryz.prog 28 #[.int .i64 i] w fun e w' => e = .returned (.string (digS i)) ∧ w' = w := by
  have h : i = 0 ∨ i = 1 ∨ i = 2 ∨ i = 3 ∨ i = 4 ∨ i = 5 ∨ i = 6 ∨ i = 7 ∨ i = 8 ∨ i = 9 := by omega
  rcases h with rfl | rfl | rfl | rfl | rfl | rfl | rfl | rfl | rfl | rfl
  all_goals
    go_enter Tryz.func28, Tryz.ntmps28
    go_wp2
    go_ret
    exact ⟨rfl, rfl⟩

theorem Tryz.infoStr0 : (Tryz.prog.info? 9).map (fun i => (i.zero, i.size, i.bytes)) = some (some (.string ⟨#[]⟩), 1, 16) := by kernel_rfl
/-- The texts of the numbers below n. -/
def numT (n : Nat) : List ByteArray := (List.range n).map digS
theorem numT_succ (k : Nat) : numT (k + 1) = numT k ++ [digS k] := by rw [numT, List.range_succ, List.map_append]; rfl
theorem numT_len (k : Nat) : (numT k).length = k := by simp [numT]
def NTRel (w : World) (n : Nat) (x i : Value) (wr : World) : Prop :=
  ∃ (k : Nat) (la : Option Addr) (ll lc : Nat), k ≤ n ∧ i = .int .i64 k ∧ x = .slice la ll lc ∧ wr.ownsRow w.heap.size 9 1 (.slice la ll lc) k ((numT k).map Value.string) ∧ Below w.heap.size w wr

set_option maxRecDepth 100000 in
set_option maxHeartbeats 4000000 in
theorem numberTexts_any (n : Nat) (hn : n ≤ 10) (w : World) : Calls Tryz.prog 167 #[.int .i64 n] w fun e w' => ∃ v, e = .returned v ∧ w'.ownsRow w.heap.size 9 1 v n ((numT n).map Value.string) ∧ Below w.heap.size w w' := by
  obtain ⟨i0, hi, hz0, hz1, hz2⟩ := info_parts Tryz.infoStr0
  have HS := hide (show NTRel w n (.slice none 0 0) (.int .i64 0) w from ⟨0, none, 0, 0, Nat.zero_le _, rfl, rfl, World.ownsRow_nil _ _ _ _, Below.refl _ _⟩)
  go_enter Tryz.func167, Tryz.ntmps167
  go_wp2_with fail
  go_loopw [3, 4, 6] (fun x _ i wr => NTRel w n x i wr) (fun _ _ i _ => n - (intOf i).toNat)
  case atStart => exact unhide HS
  case round =>
    obtain ⟨k, la, ll, lc, hk, rfl, rfl, ho, hb⟩ := hrel
    have HO := hide ho
    have HB := hide hb
    have hsz := hb.size
    clear ho hb
    by_cases hlt : k < n
    · have hk10 : k < 10 := by omega
      have HIT := hide (itoa_digit k hk10 wr)
      have HSTEP := hide (numT_succ k)
      generalize digS k = dk at *
      go_wp2_with (first
        | (go_at_call 28; refine (unhide HIT).mono ?_; rintro e w2 ⟨rfl, rfl⟩)
        | (at_builtin; refine wpList_append_own_at _ rfl _ _ 22 rfl w.heap.size 9 i0 _ 1 16 Tryz.underlying22 hi hz0 hz1 hz2 rfl (by decide) (.slice la ll lc) _ _ rfl ((unhide HO).alloc _) ⟨w2.heap.size, 0, none⟩ 1 1 [.string dk] rfl rfl (cells_new w2 _ [.string dk] _ rfl) (by intro y hy; simp at hy; subst hy; rfl) (by unfold maxLen; omega) (by omega) (by simp; omega) ?_))
      intro v' w' hown hgrow _ hat
      obtain ⟨a3, l3, c3, rfl⟩ := own_slice hown
      have HO' := hide (show w'.ownsRow w.heap.size 9 1 (.slice a3 l3 c3) (k + 1) ((numT (k + 1)).map Value.string) by rw [unhide HSTEP, List.map_append]; exact hown)
      have HB' := hide (((unhide HB).alloc hsz _).grown hgrow (by simp; omega) (own_ge (unhide HO)))
      clear hown hgrow hat
      go_wp2
      go_roundw
      case rel => exact ⟨k + 1, a3, l3, c3, by omega, by go_num, rfl, unhide HO', unhide HB'⟩
      case measure => simp [intOf]; omega
    · have : k = n := by omega
      subst this
      go_wp2
      go_ret
      exact ⟨_, rfl, unhide HO, unhide HB⟩

end Go.Proofs.YtpmcnonmkghokaaGreatDoor
namespace Go.Proofs.YtpmcnonmkghokaaGreatDoor
open Go.RowKit
attribute [local go_sem ↓] Go.wp_at_zero Go.wp_at_succ
def MTRel (w W : World) (l : List Tok) (x i : Value) (wr : World) : Prop :=
  ∃ (k : Nat) (la : Option Addr) (ll lc : Nat), k ≤ l.length ∧ i = .int .i64 k ∧ x = .slice la ll lc ∧ wr.ownsRow W.heap.size 9 1 (.slice la ll lc) k ((l.take k).map (fun t => Value.string t.text)) ∧ Below W.heap.size W wr

set_option maxRecDepth 100000 in
set_option maxHeartbeats 4000000 in
theorem memberTexts_any (w : World) (lo : Nat) (l : List Tok) (nm : Tok) (ma : Option Addr) (mn mc : Nat) (hM : w.ownsRow lo 107 2 (.slice ma mn mc) l.length (ptsCells l)) (hl : l.length ≤ 1000) :
    Calls Tryz.prog 168 #[.agg #[.string nm.text, .int .i64 nm.at_, .slice ma mn mc]] w fun e w' => ∃ v, e = .returned v ∧ w'.ownsRow w.heap.size 9 1 v l.length (l.map (fun t => Value.string t.text)) ∧ Below w.heap.size w w' := by
  obtain ⟨i0, hi, hz0, hz1, hz2⟩ := info_parts Tryz.infoStr0
  obtain ⟨W, hW⟩ : ∃ W, W = w.alloc (.cells #[.string nm.text, .int .i64 nm.at_, .slice ma mn mc] 114) := ⟨_, rfl⟩
  have hbW : Below w.heap.size w W := by rw [hW]; exact below_alloc1 w _
  have hsW : w.heap.size < W.heap.size := by rw [hW]; simp
  obtain ⟨xa, cap, e1, hview⟩ := own_viewB (owns_below hM hbW)
  injection e1 with e1 e2 e3
  subst e1; subst e2; subst e3
  have HW := hide hview
  have HS := hide (show MTRel w W l (.slice none 0 0) (.int .i64 0) W from ⟨0, none, 0, 0, Nat.zero_le _, rfl, rfl, World.ownsRow_nil _ _ _ _, Below.refl _ _⟩)
  have HBW := hide hbW
  have HWE := hide hW.symm
  clear hview hM hbW hW
  go_enter Tryz.func168, Tryz.ntmps168
  go_wp2_with fail
  rw [unhide HWE]
  go_loopw [3, 5, 9] (fun x _ i wr => MTRel w W l x i wr) (fun _ _ i _ => l.length - (intOf i).toNat)
  case atStart => exact unhide HS
  case round =>
    obtain ⟨k, la, ll, lc, hk, rfl, rfl, ho, hb⟩ := hrel
    have HO := hide ho
    have HB := hide hb
    have hsz := hb.size
    by_cases hlt : k < l.length
    · obtain ⟨g, rfl, hg1, hg2, hc⟩ := unhide HW k hlt
      have fl := fun j (hj : j < 2) => flat_at ptCells 2 (fun _ => rfl) l k j hlt hj
      have cc : ∀ j, j < l.length * 2 → wr.cell? ⟨g, j, none⟩ = (ptsCells l)[j]? := fun j hj => (hb.cell (p := ⟨g, j, none⟩) hg2).trans (hc j hj)
      have e0 := (cc (k * 2 + 0) (by omega)).trans (fl 0 (by omega))
      have e1 := (cc (k * 2 + 1) (by omega)).trans (fl 1 (by omega))
      simp only [ptCells, List.getElem?_cons_zero, List.getElem?_cons_succ, Nat.add_zero] at e0 e1
      have HSTEP := hide (show (l.take (k + 1)).map (fun t => Value.string t.text) = (l.take k).map (fun t => Value.string t.text) ++ [.string l[k].text] by rw [List.take_succ_eq_append_getElem hlt, List.map_append]; rfl)
      generalize l[k] = t at *
      clear cc fl hc ho hb
      go_wp2_with (at_builtin; refine wpList_append_own_at _ rfl _ _ 22 rfl W.heap.size 9 i0 _ 1 16 Tryz.underlying22 hi hz0 hz1 hz2 rfl (by decide) (.slice la ll lc) _ _ rfl (((unhide HO).alloc _).alloc _) ⟨wr.heap.size + 1, 0, none⟩ 1 1 [.string t.text] rfl rfl (cells_new (wr.alloc _) _ [.string t.text] _ (by simp)) (by intro y hy; simp at hy; subst hy; rfl) (by unfold maxLen; omega) (by omega) (by simp; omega) ?_)
      intro v' w' hown hgrow _ hat
      obtain ⟨a3, l3, c3, rfl⟩ := own_slice hown
      have HO' := hide (show w'.ownsRow W.heap.size 9 1 (.slice a3 l3 c3) (k + 1) ((l.take (k + 1)).map (fun t => Value.string t.text)) by rw [unhide HSTEP, List.map_take]; exact hown)
      have HB' := hide ((((unhide HB).alloc hsz _).alloc (by simp; omega) _).grown hgrow (by simp; omega) (own_ge (unhide HO)))
      clear hown hgrow hat
      go_wp2
      go_roundw
      case rel => exact ⟨k + 1, a3, l3, c3, by omega, by go_num, rfl, unhide HO', unhide HB'⟩
      case measure => simp [intOf]; omega
    · have : k = l.length := by omega
      subst this
      rw [List.take_length] at ho
      have HO' := hide (owns_mono (Nat.le_of_lt hsW) ho)
      have HB' := hide ((unhide HBW).trans (hb.mono (Nat.le_of_lt hsW)))
      clear ho hb HO
      go_wp2
      go_ret
      exact ⟨_, rfl, unhide HO', unhide HB'⟩

end Go.Proofs.YtpmcnonmkghokaaGreatDoor
namespace Go.Proofs.YtpmcnonmkghokaaGreatDoor
open Go.RowKit
attribute [local go_sem ↓] Go.wp_at_zero Go.wp_at_succ
/-- Where a set of that name first stands. -/
def sNum : List PSet → List UInt8 → Option Nat
  | [], _ => none
  | x :: l, s => if x.name.text.toList == s then some 0 else (sNum l s).map (· + 1)
def sNumI (l : List PSet) (s : List UInt8) : Int := match sNum l s with | some k => k | none => -1
theorem sNum_skip : ∀ (l : List PSet) (k : Nat) (s : List UInt8), (∀ i (hi : i < l.length), i < k → (l[i].name.text.toList == s) = false) → k ≤ l.length → sNum l s = (sNum (l.drop k) s).map (· + k)
  | [], k, s, _, hk => by simp at hk; subst hk; simp [sNum]
  | x :: l, 0, s, _, _ => by simp
  | x :: l, k + 1, s, h, hk => by
    have h0 := h 0 (by simp) (by omega)
    simp only [List.getElem_cons_zero] at h0
    have := sNum_skip l k s (fun i hi hk => by have := h (i + 1) (by simpa using hi) (by omega); simpa using this) (by simpa using hk)
    rw [sNum, h0, List.drop_succ_cons, if_neg (by simp), this, Option.map_map]
    rfl

set_option maxRecDepth 100000 in
set_option maxHeartbeats 4000000 in
theorem indexSet_any (w : World) (lo cb : Nat) (l : List PSet) (n : Tok) (xa : Option Addr) (xn xc : Nat) (ho : w.ownsRow lo 111 4 (.slice xa xn xc) l.length (stsC l)) (hc : w.heap[cb]? = some (.cells #[.string n.text, .int .i64 n.at_] 107 (0, 0))) (hl : l.length ≤ 1000) :
    Calls Tryz.prog 169 #[.slice xa xn xc, .func (.func 170) #[] #[.pointer (some ⟨cb, 0, none⟩)]] w fun e w' => e = .returned (.int .i64 (sNumI l n.text.toList)) ∧ Below w.heap.size w w' := by
  obtain ⟨ya, yc, e1, hview⟩ := own_viewB ho
  injection e1 with e1 e2 e3
  subst e1; subst e2; subst e3
  have HW := hide hview
  have HC := hide hc
  have hcl := lt_of_block hc
  clear hview ho hc
  go_enter Tryz.func169, Tryz.ntmps169
  go_wp2_with fail
  go_loopw [5, 8] (fun _ i wr => ∃ k : Nat, k ≤ l.length ∧ i = .int .i64 k ∧ (∀ i (hi : i < l.length), i < k → (l[i].name.text.toList == n.text.toList) = false) ∧ Below w.heap.size w wr) (fun _ i _ => l.length - (intOf i).toNat)
  case atStart => exact ⟨0, Nat.zero_le _, rfl, fun i _ h => by omega, Below.refl _ _⟩
  case round =>
    obtain ⟨k, hk, rfl, hno, hb⟩ := hrel
    have HNO := hide hno
    have HB := hide hb
    have hsz := hb.size
    obtain ⟨m0, m1, _, _⟩ := row2 ((hb.block cb hcl).trans (unhide HC))
    have hcr : cb < wr.heap.size := by omega
    clear hno
    by_cases hlt : k < l.length
    · obtain ⟨g, rfl, hg1, hg2, hc⟩ := unhide HW k hlt
      have fl := fun j (hj : j < 4) => flat_at stC1 4 (fun _ => rfl) l k j hlt hj
      have cc : ∀ j, j < l.length * 4 → wr.cell? ⟨g, j, none⟩ = (stsC l)[j]? := fun j hj => (hb.cell (p := ⟨g, j, none⟩) hg2).trans (hc j hj)
      have e0 := (cc (k * 4 + 0) (by omega)).trans (fl 0 (by omega))
      have e1 := (cc (k * 4 + 1) (by omega)).trans (fl 1 (by omega))
      have e2 := (cc (k * 4 + 2) (by omega)).trans (fl 2 (by omega))
      have e3 := (cc (k * 4 + 3) (by omega)).trans (fl 3 (by omega))
      simp only [stC1, List.getElem?_cons_zero, List.getElem?_cons_succ, Nat.add_zero] at e0 e1 e2 e3
      have hsk := sNum_skip l k n.text.toList (unhide HNO) hk
      rw [List.drop_eq_getElem_cons hlt, sNum] at hsk
      have HSK := hide hsk
      have HST := hide (fun (hq : (l[k].name.text.toList == n.text.toList) = false) => (show ∀ i (hi : i < l.length), i < k + 1 → (l[i].name.text.toList == n.text.toList) = false from fun i hi h => by
        by_cases e : i = k
        · subst e; exact hq
        · exact (unhide HNO) i hi (by omega)))
      generalize l[k] = p at *
      clear cc fl hc hsk hb
      cases hq : (p.name.text.toList == n.text.toList)
      · have HS2 := hide ((unhide HST) hq)
        clear HSK
        go_wp2
        go_roundw
        case rel => exact ⟨k + 1, by omega, by go_num, unhide HS2, (unhide HB).alloc hsz _⟩
        case measure => simp [intOf]; omega
      · have HE := hide (show sNumI l n.text.toList = k by rw [sNumI, unhide HSK, hq]; simp)
        clear HSK HST
        go_wp2
        go_ret
        exact ⟨ret_int (unhide HE).symm, (unhide HB).alloc hsz _⟩
    · have hsk := sNum_skip l l.length n.text.toList (fun i hi _ => (unhide HNO) i hi (by omega)) (Nat.le_refl _)
      rw [List.drop_length, sNum] at hsk
      have HE := hide (show sNumI l n.text.toList = -1 by rw [sNumI, hsk]; rfl)
      clear hsk hb
      go_wp2
      go_ret
      exact ⟨ret_int (unhide HE).symm, unhide HB⟩

end Go.Proofs.YtpmcnonmkghokaaGreatDoor
namespace Go.Proofs.YtpmcnonmkghokaaGreatDoor
open Go.RowKit
attribute [local go_sem ↓] Go.wp_at_zero Go.wp_at_succ
set_option maxRecDepth 100000 in
set_option maxHeartbeats 4000000 in
theorem setNumber_any (w : World) (lo : Nat) (l : List PSet) (n : Tok) (a0 a1 a2 a3 a4 : Option Addr) (n0 n1 n2 n3 n4 c0 c1 c2 c3 c4 : Nat) (ho : w.ownsRow lo 111 4 (.slice a0 n0 c0) l.length (stsC l)) (hl : l.length ≤ 1000) :
    Calls Tryz.prog 99 #[.agg #[.slice a0 n0 c0, .slice a1 n1 c1, .slice a2 n2 c2, .slice a3 n3 c3, .slice a4 n4 c4], ptV n] w fun e w' => e = .returned (.int .i64 (sNumI l n.text.toList)) ∧ Below w.heap.size w w' := by
  obtain ⟨W, hW⟩ : ∃ W, W = (w.alloc (.cells #[.slice a0 n0 c0, .slice a1 n1 c1, .slice a2 n2 c2, .slice a3 n3 c3, .slice a4 n4 c4] 68)).alloc (.cells #[.string n.text, .int .i64 n.at_] 107) := ⟨_, rfl⟩
  have hbW : Below w.heap.size w W := by rw [hW]; exact (below_alloc1 w _).trans ((below_alloc1 _ _).mono (by simp))
  have hN : W.heap[w.heap.size + 1]? = some (.cells #[.string n.text, .int .i64 n.at_] 107 (0, 0)) := by
    rw [hW]
    have := alloc_new (w.alloc (.cells #[.slice a0 n0 c0, .slice a1 n1 c1, .slice a2 n2 c2, .slice a3 n3 c3, .slice a4 n4 c4] 68)) (.cells #[.string n.text, .int .i64 n.at_] 107)
    simp only [World.size_alloc] at this
    exact this
  have HI := hide (indexSet_any W lo (w.heap.size + 1) l n a0 n0 c0 (owns_below ho hbW) hN hl)
  have hsW : w.heap.size ≤ W.heap.size := hbW.size
  have HBW := hide hbW
  have HWE := hide hW.symm
  clear ho hN hbW hW
  generalize sNumI l n.text.toList = y at *
  unfold ptV
  go_enter Tryz.func99, Tryz.ntmps99
  go_wp2_with fail
  rw [unhide HWE]
  refine (unhide HI).mono ?_
  rintro e w1 ⟨rfl, hb1⟩
  have HB1 := hide ((unhide HBW).trans (hb1.mono hsW))
  clear hb1 HI
  go_wp2
  go_ret
  exact ⟨rfl, unhide HB1⟩

set_option maxRecDepth 100000 in
set_option maxHeartbeats 4000000 in
theorem setSize_any (w : World) (lo : Nat) (l : List PSet) (n : Tok) (a0 a1 a2 a3 a4 : Option Addr) (n0 n1 n2 n3 n4 c0 c1 c2 c3 c4 : Nat) (ho : w.ownsRow lo 111 4 (.slice a0 n0 c0) l.length (stsC l)) (hl : l.length ≤ 1000) (k : Nat) (hk : sNum l n.text.toList = some k) (s : PSet) (hs : l[k]? = some s) :
    Calls Tryz.prog 97 #[.agg #[.slice a0 n0 c0, .slice a1 n1 c1, .slice a2 n2 c2, .slice a3 n3 c3, .slice a4 n4 c4], ptV n] w fun e w' => e = .returned (.int .i64 (digV s.size.text)) ∧ Below w.heap.size w w' := by
  obtain ⟨hkl, hke⟩ := List.getElem?_eq_some_iff.mp hs
  obtain ⟨W, hW⟩ : ∃ W, W = (w.alloc (.cells #[.slice a0 n0 c0, .slice a1 n1 c1, .slice a2 n2 c2, .slice a3 n3 c3, .slice a4 n4 c4] 68)).alloc (.cells #[.string n.text, .int .i64 n.at_] 107) := ⟨_, rfl⟩
  have hbW : Below w.heap.size w W := by rw [hW]; exact (below_alloc1 w _).trans ((below_alloc1 _ _).mono (by simp))
  have hsW : w.heap.size + 1 < W.heap.size := by rw [hW]; simp
  have hD : W.heap[w.heap.size]? = some (.cells #[.slice a0 n0 c0, .slice a1 n1 c1, .slice a2 n2 c2, .slice a3 n3 c3, .slice a4 n4 c4] 68 (0, 0)) := by rw [hW]; exact alloc_row (alloc_new _ _)
  have hN : W.heap[w.heap.size + 1]? = some (.cells #[.string n.text, .int .i64 n.at_] 107 (0, 0)) := by
    rw [hW]
    have := alloc_new (w.alloc (.cells #[.slice a0 n0 c0, .slice a1 n1 c1, .slice a2 n2 c2, .slice a3 n3 c3, .slice a4 n4 c4] 68)) (.cells #[.string n.text, .int .i64 n.at_] 107)
    simp only [World.size_alloc] at this
    exact this
  have HSN := hide (setNumber_any W.drew lo l n a0 a1 a2 a3 a4 n0 n1 n2 n3 n4 c0 c1 c2 c3 c4 (owns_below ho hbW.drew) hl)
  rw [show sNumI l n.text.toList = (k : Int) by rw [sNumI, hk]] at HSN
  obtain ⟨ya, yc, e1, hview⟩ := own_viewB (owns_below ho hbW)
  injection e1 with e1 e2 e3
  subst e1; subst e2; subst e3
  obtain ⟨g, rfl, hg1, hg2, hc⟩ := hview k hkl
  have d0 := (hc (k * 4 + 2) (by omega)).trans (flat_at stC1 4 (fun _ => rfl) l k 2 hkl (by omega))
  simp only [stC1, List.getElem?_cons_zero, List.getElem?_cons_succ] at d0
  rw [hke] at d0
  obtain ⟨q0, q1, q2, q3, q4, _⟩ := row5' hD
  obtain ⟨m0, m1, _, _⟩ := row2 hN
  have HD := hide hD
  have HN := hide hN
  have HBW := hide hbW
  have HWE := hide hW.symm
  have hgW : g < W.heap.size := hg2
  clear hview hc ho hD hN hbW hW hs hke hk
  unfold ptV at *
  go_enter Tryz.func97, Tryz.ntmps97
  go_upto_region 1 with fail
  rw [unhide HWE]
  go_region_held3 (fun w' => w'.cell? ⟨w.heap.size, 0, none⟩ = some (.slice (some ⟨g, 0, none⟩) l.length c0) ∧ w'.cell? ⟨w.heap.size, 1, none⟩ = some (.slice a1 n1 c1) ∧ w'.cell? ⟨w.heap.size, 2, none⟩ = some (.slice a2 n2 c2) ∧ w'.cell? ⟨w.heap.size, 3, none⟩ = some (.slice a3 n3 c3) ∧ w'.cell? ⟨w.heap.size, 4, none⟩ = some (.slice a4 n4 c4) ∧ w'.cell? ⟨w.heap.size + 1, 0, none⟩ = some (.string n.text) ∧ w'.cell? ⟨w.heap.size + 1, 1, none⟩ = some (.int .i64 n.at_) ∧ w'.cell? ⟨g, k * 4 + 2, none⟩ = some (.int .i64 (digV s.size.text)))
    (first | exact ⟨q0, q1, q2, q3, q4, m0, m1, d0⟩ | exact ⟨u0, u1, u2, u3, u4, v0, v1, z0⟩)
    ((go_at_call 99; refine (unhide HSN).mono ?_; rintro e w1 ⟨rfl, hb1⟩; obtain ⟨u0, u1, u2, u3, u4, _⟩ := row5' ((hb1.block w.heap.size (by show w.heap.size < W.heap.size; omega)).trans (unhide HD)); obtain ⟨v0, v1, _⟩ := row2 ((hb1.block (w.heap.size + 1) (by show w.heap.size + 1 < W.heap.size; omega)).trans (unhide HN)); have z0 := (hb1.cell (p := ⟨g, k * 4 + 2, none⟩) (by show g < W.heap.size; omega)).trans d0; have HB1 := hide ((unhide HBW).drew.trans (hb1.mono (by show w.heap.size ≤ W.heap.size; omega))); clear hb1; dsimp only))
  go_wp2
  go_ret
  exact ⟨rfl, unhide HB1⟩

end Go.Proofs.YtpmcnonmkghokaaGreatDoor
namespace Go.Proofs.YtpmcnonmkghokaaGreatDoor
open Go.RowKit
attribute [local go_sem ↓] Go.wp_at_zero Go.wp_at_succ
set_option maxRecDepth 100000 in
set_option maxHeartbeats 4000000 in
/-- The texts of a truth's, or of numbers up to a top. -/
theorem valueTexts_plain (w : World) (f t : Int) (ta : Nat) (n : Tok) (a0 a1 a2 a3 a4 : Option Addr) (n0 n1 n2 n3 n4 c0 c1 c2 c3 c4 : Nat) (k : Nat) (hk : k ≤ 10) (hf : (f == 0 && k == 2) = true ∨ (f == 0) = false ∧ (f == 1) = true ∧ t + 1 = k) :
    Calls Tryz.prog 98 #[.agg #[.slice a0 n0 c0, .slice a1 n1 c1, .slice a2 n2 c2, .slice a3 n3 c3, .slice a4 n4 c4], .agg #[.int .i64 f, .int .i64 t, .int .i64 ta, .string n.text, .int .i64 n.at_]] w fun e w' => ∃ v, e = .returned v ∧ w'.ownsRow w.heap.size 9 1 v k ((numT k).map Value.string) ∧ Below w.heap.size w w' := by
  obtain ⟨W, hW⟩ : ∃ W, W = (w.alloc (.cells #[.slice a0 n0 c0, .slice a1 n1 c1, .slice a2 n2 c2, .slice a3 n3 c3, .slice a4 n4 c4] 68)).alloc (.cells #[.int .i64 f, .int .i64 t, .int .i64 ta, .string n.text, .int .i64 n.at_] 119) := ⟨_, rfl⟩
  have hbW : Below w.heap.size w W := by rw [hW]; exact (below_alloc1 w _).trans ((below_alloc1 _ _).mono (by simp))
  have HN := hide (numberTexts_any k hk W)
  have HBW := hide hbW
  have hsW := hbW.size
  have HWE := hide hW.symm
  clear hbW hW
  rcases hf with hf | ⟨h0, h1, ht⟩
  · rw [Bool.and_eq_true] at hf
    obtain ⟨h0, h2⟩ := hf
    have h2' : k = 2 := by simpa using h2
    subst h2'
    clear h2
    go_enter Tryz.func98, Tryz.ntmps98
    go_wp2_with fail
    rw [unhide HWE]
    refine (unhide HN).mono ?_
    rintro e w1 ⟨v, rfl, ho, hb⟩
    have HO := hide (owns_mono hsW ho)
    have HB := hide ((unhide HBW).trans (hb.mono hsW))
    clear ho hb
    go_wp2
    go_ret
    exact ⟨_, rfl, unhide HO, unhide HB⟩
  · have ht' : t = (k : Int) - 1 := by omega
    subst ht'
    go_enter Tryz.func98, Tryz.ntmps98
    go_wp2_with fail
    rw [unhide HWE]
    refine (unhide HN).mono ?_
    rintro e w1 ⟨v, rfl, ho, hb⟩
    have HO := hide (owns_mono hsW ho)
    have HB := hide ((unhide HBW).trans (hb.mono hsW))
    clear ho hb
    go_wp2
    go_ret
    exact ⟨_, rfl, unhide HO, unhide HB⟩

/-- The first kind of that name. -/
def kNum : List PKind → List UInt8 → Option PKind
  | [], _ => none
  | x :: l, s => if x.name.text.toList == s then some x else kNum l s
theorem kNum_skip : ∀ (l : List PKind) (k : Nat) (s : List UInt8), (∀ i (hi : i < l.length), i < k → (l[i].name.text.toList == s) = false) → kNum l s = kNum (l.drop k) s
  | [], k, s, _ => by simp
  | x :: l, 0, s, _ => rfl
  | x :: l, k + 1, s, h => by
    have h0 := h 0 (by simp) (by omega)
    simp only [List.getElem_cons_zero] at h0
    rw [kNum, h0, List.drop_succ_cons]
    exact kNum_skip l k s (fun i hi hk => by have := h (i + 1) (by simpa using hi) (by omega); simpa using this)

set_option maxRecDepth 100000 in
set_option maxHeartbeats 4000000 in
/-- The texts of a kind's members. -/
theorem valueTexts_kind (w : World) (lo : Nat) (f t : Int) (ta : Nat) (n : Tok) (a0 a1 a2 a3 a4 : Option Addr) (n0 n1 n2 n3 n4 c0 c1 c2 c3 c4 : Nat) (ks : List PKind) (cs : List Value) (ho : w.ownsRow lo 114 3 (.slice a1 n1 c1) ks.length cs) (hki : KdIs lo w ks cs) (hl : ks.length ≤ 1000) (hml : ∀ x ∈ ks, x.members.length ≤ 1000) (h0 : (f == 0) = false) (h1 : (f == 1) = false) (kd : PKind) (hkd : kNum ks n.text.toList = some kd) :
    Calls Tryz.prog 98 #[.agg #[.slice a0 n0 c0, .slice a1 n1 c1, .slice a2 n2 c2, .slice a3 n3 c3, .slice a4 n4 c4], .agg #[.int .i64 f, .int .i64 t, .int .i64 ta, .string n.text, .int .i64 n.at_]] w fun e w' => ∃ v, e = .returned v ∧ w'.ownsRow w.heap.size 9 1 v kd.members.length (kd.members.map (fun t => Value.string t.text)) ∧ Below w.heap.size w w' := by
  obtain ⟨W, hW⟩ : ∃ W, W = (w.alloc (.cells #[.slice a0 n0 c0, .slice a1 n1 c1, .slice a2 n2 c2, .slice a3 n3 c3, .slice a4 n4 c4] 68)).alloc (.cells #[.int .i64 f, .int .i64 t, .int .i64 ta, .string n.text, .int .i64 n.at_] 119) := ⟨_, rfl⟩
  have hbW : Below w.heap.size w W := by rw [hW]; exact (below_alloc1 w _).trans ((below_alloc1 _ _).mono (by simp))
  have hsW : w.heap.size + 1 < W.heap.size := by rw [hW]; simp
  have hS : W.heap[w.heap.size + 1]? = some (.cells #[.int .i64 f, .int .i64 t, .int .i64 ta, .string n.text, .int .i64 n.at_] 119 (0, 0)) := by
    rw [hW]
    have := alloc_new (w.alloc (.cells #[.slice a0 n0 c0, .slice a1 n1 c1, .slice a2 n2 c2, .slice a3 n3 c3, .slice a4 n4 c4] 68)) (.cells #[.int .i64 f, .int .i64 t, .int .i64 ta, .string n.text, .int .i64 n.at_] 119)
    simp only [World.size_alloc] at this
    exact this
  obtain ⟨ya, yc, e1, hview⟩ := own_viewB (owns_below ho hbW)
  injection e1 with e1 e2 e3
  subst e1; subst e2; subst e3
  have HW := hide hview
  have HKI := hide (show KdIs lo W ks cs from hki.stay fun k _ hk => hbW.block k hk)
  have HS := hide hS
  have HBW := hide hbW
  have HWE := hide hW.symm
  have HKD := hide hkd
  have HML := hide hml
  clear hview ho hki hS hbW hW hkd hml
  go_enter Tryz.func98, Tryz.ntmps98
  go_wp2_with fail
  rw [unhide HWE]
  go_loopw [6, 22] (fun _ i wr => ∃ k : Nat, k ≤ ks.length ∧ i = .int .i64 k ∧ (∀ i (hi : i < ks.length), i < k → (ks[i].name.text.toList == n.text.toList) = false) ∧ Below W.heap.size W wr) (fun _ i _ => ks.length - (intOf i).toNat)
  case atStart => exact ⟨0, Nat.zero_le _, rfl, fun i _ h => by omega, Below.refl _ _⟩
  case round =>
    obtain ⟨k, hk, rfl, hno, hb⟩ := hrel
    have HNO := hide hno
    have HB := hide hb
    have hsz := hb.size
    obtain ⟨m0, m1, m2, m3, m4, _⟩ := row5' ((hb.block (w.heap.size + 1) hsW).trans (unhide HS))
    have hcr : w.heap.size + 1 < wr.heap.size := by omega
    clear hno
    have hlt : k < ks.length := by
      apply Classical.byContradiction
      intro hge
      have := (kNum_skip ks ks.length n.text.toList (fun i hi _ => (unhide HNO) i hi (by omega))).symm.trans (unhide HKD)
      rw [List.drop_length, kNum] at this
      cases this
    obtain ⟨g, rfl, hg1, hg2, hc⟩ := unhide HW k hlt
    obtain ⟨ma, mn, mc, s0, s1, s2, hmem⟩ := kd_at k hlt (unhide HKI)
    have cc : ∀ j, j < ks.length * 3 → wr.cell? ⟨g, j, none⟩ = cs[j]? := fun j hj => (hb.cell (p := ⟨g, j, none⟩) hg2).trans (hc j hj)
    have e0 := (cc (k * 3) (by omega)).trans s0
    have e1 := (cc (k * 3 + 1) (by omega)).trans s1
    have e2 := (cc (k * 3 + 2) (by omega)).trans s2
    have hsk := (kNum_skip ks k n.text.toList (unhide HNO)).symm.trans (unhide HKD)
    rw [List.drop_eq_getElem_cons hlt, kNum] at hsk
    have HST := hide (fun (hq : (ks[k].name.text.toList == n.text.toList) = false) => (show ∀ i (hi : i < ks.length), i < k + 1 → (ks[i].name.text.toList == n.text.toList) = false from fun i hi h => by
      by_cases e : i = k
      · subst e; exact hq
      · exact (unhide HNO) i hi (by omega)))
    have HMT := hide (memberTexts_any (wr.alloc (.cells #[.string ks[k].name.text, .int .i64 ks[k].name.at_, .slice ma mn mc] 114)) lo ks[k].members ks[k].name ma mn mc (owns_below hmem (hb.alloc hsz _)) ((unhide HML) _ (List.getElem_mem _)))
    generalize ks[k] = p at *
    clear cc hc hb hmem s0 s1 s2
    cases hq : (p.name.text.toList == n.text.toList)
    · have HS2 := hide ((unhide HST) hq)
      clear hsk HMT
      go_wp2
      go_roundw
      case rel => exact ⟨k + 1, by omega, by go_num, unhide HS2, (unhide HB).alloc hsz _⟩
      case measure => simp [intOf]; omega
    · rw [hq, if_pos rfl] at hsk
      injection hsk with hsk
      subst hsk
      go_wp2_with fail
      refine (unhide HMT).mono ?_
      rintro e w2 ⟨v, rfl, ho2, hb2⟩
      have HO2 := hide (owns_mono (by simp; omega) ho2 : w2.ownsRow w.heap.size 9 1 v _ _)
      have HB2 := hide ((unhide HBW).trans ((((unhide HB).alloc hsz _).mono (by omega)).trans (hb2.mono (by simp; omega))))
      clear ho2 hb2 HMT
      go_wp2
      go_ret
      exact ⟨_, rfl, unhide HO2, unhide HB2⟩

end Go.Proofs.YtpmcnonmkghokaaGreatDoor
namespace Go.Proofs.YtpmcnonmkghokaaGreatDoor
open Go.RowKit
attribute [local go_sem ↓] Go.wp_at_zero Go.wp_at_succ
set_option maxRecDepth 100000 in
set_option maxHeartbeats 4000000 in
/-- The texts of a set's members: none first. -/
theorem valueTexts_set (w : World) (lo : Nat) (f t : Int) (ta : Nat) (n : Tok) (a0 a1 a2 a3 a4 : Option Addr) (n0 n1 n2 n3 n4 c0 c1 c2 c3 c4 : Nat) (ks : List PKind) (cs : List Value) (ho : w.ownsRow lo 114 3 (.slice a1 n1 c1) ks.length cs) (hki : KdIs lo w ks cs) (hl : ks.length ≤ 1000) (ss : List PSet) (hss : w.ownsRow lo 111 4 (.slice a0 n0 c0) ss.length (stsC ss)) (hsl : ss.length ≤ 1000) (j : Nat) (hj : sNum ss n.text.toList = some j) (sx : PSet) (hsx : ss[j]? = some sx) (m : Nat) (hm : digV sx.size.text = m) (hm10 : m ≤ 10) (h0 : (f == 0) = false) (h1 : (f == 1) = false) (hkd : kNum ks n.text.toList = none) :
    Calls Tryz.prog 98 #[.agg #[.slice a0 n0 c0, .slice a1 n1 c1, .slice a2 n2 c2, .slice a3 n3 c3, .slice a4 n4 c4], .agg #[.int .i64 f, .int .i64 t, .int .i64 ta, .string n.text, .int .i64 n.at_]] w fun e w' => ∃ v, e = .returned v ∧ w'.ownsRow w.heap.size 9 1 v (m + 1) (Value.string ⟨#[45]⟩ :: (numT m).map Value.string) ∧ Below w.heap.size w w' := by
  obtain ⟨W, hW⟩ : ∃ W, W = (w.alloc (.cells #[.slice a0 n0 c0, .slice a1 n1 c1, .slice a2 n2 c2, .slice a3 n3 c3, .slice a4 n4 c4] 68)).alloc (.cells #[.int .i64 f, .int .i64 t, .int .i64 ta, .string n.text, .int .i64 n.at_] 119) := ⟨_, rfl⟩
  have hbW : Below w.heap.size w W := by rw [hW]; exact (below_alloc1 w _).trans ((below_alloc1 _ _).mono (by simp))
  have hsW : w.heap.size + 1 < W.heap.size := by rw [hW]; simp
  have hS : W.heap[w.heap.size + 1]? = some (.cells #[.int .i64 f, .int .i64 t, .int .i64 ta, .string n.text, .int .i64 n.at_] 119 (0, 0)) := by
    rw [hW]
    have := alloc_new (w.alloc (.cells #[.slice a0 n0 c0, .slice a1 n1 c1, .slice a2 n2 c2, .slice a3 n3 c3, .slice a4 n4 c4] 68)) (.cells #[.int .i64 f, .int .i64 t, .int .i64 ta, .string n.text, .int .i64 n.at_] 119)
    simp only [World.size_alloc] at this
    exact this
  obtain ⟨ya, yc, e1, hview⟩ := own_viewB (owns_below ho hbW)
  injection e1 with e1 e2 e3
  subst e1; subst e2; subst e3
  have HW := hide hview
  have HKI := hide (show KdIs lo W ks cs from hki.stay fun k _ hk => hbW.block k hk)
  have HS := hide hS
  have HBW := hide hbW
  have HWE := hide hW.symm
  have HKD := hide hkd
  have hD : W.heap[w.heap.size]? = some (.cells #[.slice a0 n0 c0, .slice a1 ks.length c1, .slice a2 n2 c2, .slice a3 n3 c3, .slice a4 n4 c4] 68 (0, 0)) := by rw [hW]; exact alloc_row (alloc_new _ _)
  have HD := hide hD
  have HSZ := hide (fun (wx : World) (hb : Below w.heap.size w wx) => setSize_any wx lo ss n a0 a1 a2 a3 a4 n0 ks.length n2 n3 n4 c0 c1 c2 c3 c4 (owns_below hss hb) hsl j hj sx hsx)
  rw [hm] at HSZ
  obtain ⟨i0, hi, hz0, hz1, hz2⟩ := info_parts Tryz.infoStr0
  clear hview ho hki hS hbW hW hkd hD hss hsx hj
  go_enter Tryz.func98, Tryz.ntmps98
  go_wp2_with fail
  rw [unhide HWE]
  go_loopw [6, 22] (fun _ i wr => ∃ k : Nat, k ≤ ks.length ∧ i = .int .i64 k ∧ (∀ i (hi : i < ks.length), i < k → (ks[i].name.text.toList == n.text.toList) = false) ∧ Below W.heap.size W wr) (fun _ i _ => ks.length - (intOf i).toNat)
  case atStart => exact ⟨0, Nat.zero_le _, rfl, fun i _ h => by omega, Below.refl _ _⟩
  case round =>
    obtain ⟨k, hk, rfl, hno, hb⟩ := hrel
    have HNO := hide hno
    have HB := hide hb
    have hsz := hb.size
    obtain ⟨m0, m1, m2, m3, m4, _⟩ := row5' ((hb.block (w.heap.size + 1) hsW).trans (unhide HS))
    have hcr : w.heap.size + 1 < wr.heap.size := by omega
    clear hno
    by_cases hlt : k < ks.length
    · obtain ⟨g, rfl, hg1, hg2, hc⟩ := unhide HW k hlt
      obtain ⟨ma, mn, mc, s0, s1, s2, hmem⟩ := kd_at k hlt (unhide HKI)
      have cc : ∀ j, j < ks.length * 3 → wr.cell? ⟨g, j, none⟩ = cs[j]? := fun j hj => (hb.cell (p := ⟨g, j, none⟩) hg2).trans (hc j hj)
      have e0 := (cc (k * 3) (by omega)).trans s0
      have e1 := (cc (k * 3 + 1) (by omega)).trans s1
      have e2 := (cc (k * 3 + 2) (by omega)).trans s2
      have hsk := (kNum_skip ks k n.text.toList (unhide HNO)).symm.trans (unhide HKD)
      rw [List.drop_eq_getElem_cons hlt, kNum] at hsk
      have HST := hide (fun (hq : (ks[k].name.text.toList == n.text.toList) = false) => (show ∀ i (hi : i < ks.length), i < k + 1 → (ks[i].name.text.toList == n.text.toList) = false from fun i hi h => by
        by_cases e : i = k
        · subst e; exact hq
        · exact (unhide HNO) i hi (by omega)))
      have hqk : (ks[k].name.text.toList == n.text.toList) = false := by
        cases hq : (ks[k].name.text.toList == n.text.toList)
        · rfl
        · rw [hq, if_pos rfl] at hsk; cases hsk
      have HS2 := hide ((unhide HST) hqk)
      generalize ks[k] = p at *
      clear cc hc hb hmem s0 s1 s2 hsk HST
      go_wp2
      go_roundw
      case rel => exact ⟨k + 1, by omega, by go_num, unhide HS2, (unhide HB).alloc hsz _⟩
      case measure => simp [intOf]; omega
    · obtain ⟨q0, q1, q2, q3, q4, _⟩ := row5' ((hb.block w.heap.size (by omega)).trans (unhide HD))
      have hwr : w.heap.size < wr.heap.size := by omega
      have hbw : Below w.heap.size w wr := (unhide HBW).trans (hb.mono (by omega))
      have HSZ1 := hide ((unhide HSZ) (wr.alloc (.cells #[.string ⟨#[45]⟩] 9)) (hbw.alloc (by omega) _))
      have HBw := hide hbw
      unfold ptV at HSZ1
      clear hb hbw
      go_wp2_with fail
      refine (unhide HSZ1).mono ?_
      rintro e w2 ⟨rfl, hb2⟩
      have hs2 := hb2.size
      have HDASH := hide (owns_below (show (wr.alloc (.cells #[.string ⟨#[45]⟩] 9)).ownsRow w.heap.size 9 1 (.slice (some ⟨wr.heap.size, 0, none⟩) 1 1) 1 [.string ⟨#[45]⟩] from ⟨rfl, Or.inr ⟨wr.heap.size, 1, _, rfl, by omega, alloc_new _ _, Nat.le_refl _, by unfold maxLen; omega, rfl, rfl⟩⟩) hb2)
      have HB2 := hide (((unhide HBw).alloc (by omega) _).trans (hb2.mono (by simp; omega)))
      have HNT := hide (numberTexts_any m hm10 w2)
      simp at hs2
      clear hb2 HSZ1
      go_wp2_with fail
      refine (unhide HNT).mono ?_
      rintro e w3 ⟨v3, rfl, ho3, hb3⟩
      have hs3 := hb3.size
      obtain ⟨a5, l5, c5, rfl⟩ := own_slice ho3
      have HD3 := hide (owns_below (unhide HDASH) hb3)
      have HB3 := hide ((unhide HB2).trans (hb3.mono (by omega)))
      have HO3 := hide ho3
      clear ho3 hb3 HNT HDASH
      go_wp2_with (at_builtin; refine wpList_append_slice rfl _ _ 22 rfl w.heap.size 9 i0 _ 1 16 Tryz.underlying22 hi hz0 hz1 hz2 rfl (by decide) (.slice (some ⟨wr.heap.size, 0, none⟩) 1 1) 1 _ rfl (unhide HD3) (.slice a5 l5 c5) m _ _ rfl (unhide HO3) (by intro y hy; obtain ⟨x, _, rfl⟩ := List.mem_map.mp hy; rfl) (by unfold maxLen; omega) (by omega) (by omega) ?_)
      intro v4 w4 hown4 hgrow4 hat4
      obtain ⟨a6, l6, c6, rfl⟩ := own_slice hown4
      have HO4 := hide (show w4.ownsRow w.heap.size 9 1 (.slice a6 l6 c6) (m + 1) (Value.string ⟨#[45]⟩ :: (numT m).map Value.string) by rw [Nat.add_comm m 1]; exact hown4)
      have HB4 := hide ((unhide HB3).grown hgrow4 (by omega) (own_ge (unhide HD3)))
      clear hown4 hgrow4 hat4
      go_wp2
      go_ret
      exact ⟨_, rfl, unhide HO4, unhide HB4⟩

end Go.Proofs.YtpmcnonmkghokaaGreatDoor

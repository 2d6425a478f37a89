/-
  The program's typer: makes, sameType, canCompare, binary.
  The program's typer: simple, single.
  The program's typer: single.
  The program's typer: isIndex, place.
  The program's typer: place.
  Types: where no name is wrong, the program's types and those of the reference are the same.
  The program's types of expressions and of statements, plainly.
  Types of expressions and statements: the program's and the reference's are the same where no name is wrong.
-/
import Derived.Test.YtpmcnonmkghokaaGreatDoorT17
import Derived.Test.YtpmcnonmkghokaaGreatDoorT20
import Derived.Test.YtpmcnonmkghokaaGreatDoorT06
set_option linter.unusedVariables false
set_option linter.unusedSimpArgs false
namespace Go.Proofs.YtpmcnonmkghokaaGreatDoor
open Go.RowKit
attribute [local go_sem ↓] Go.wp_at_zero Go.wp_at_succ
structure VT where
 fam : Int
 name : ByteArray
def vtV (x : VT) : Value := .agg #[.int .i64 x.fam, .string x.name]
def noVT : VT := ⟨0, ⟨#[]⟩⟩
def makesT (f : Int) (c : Bool) : VT := if c then ⟨f, ⟨#[]⟩⟩ else noVT

theorem makes_any (w : World) (f : Int) (c : Bool) :
  Calls Tryz.prog 245 #[.int .i64 f, .bool c] w fun e w' => e = .returned (vtV (makesT f c)) ∧ Below w.heap.size w w' := by
 cases c
 ·go_enter Tryz.func245, Tryz.ntmps245
  go_wp2
  refine bodyPost_ret (results_cell_row Tryz.results245 _ _ w.heap.size _ _ _ _ rfl (alloc_new _ _) Tryz.underlying362 rfl (by kernel_rfl)) rfl ?_
  exact ⟨rfl, below_alloc1 _ _⟩
 ·go_enter Tryz.func245, Tryz.ntmps245
  go_wp2
  refine bodyPost_ret (results_cell_row Tryz.results245 _ _ w.heap.size _ _ _ _ rfl (alloc_new _ _) Tryz.underlying362 rfl (by kernel_rfl)) rfl ?_
  exact ⟨rfl, below_alloc1 _ _⟩

def sameT (x y : VT) : Bool := ((x.fam == y.fam && x.name.toList == y.name.toList) && !(x.fam == 0)) && !(x.fam == 5)
theorem below_two (w : World) (o p : Obj) : Below w.heap.size w ((w.alloc o).alloc p) := (below_alloc1 w _).trans ((below_alloc1 _ _).mono (by simp))
theorem same_any (w : World) (x y : VT) :
  Calls Tryz.prog 247 #[vtV x, vtV y] w fun e w' => e = .returned (.bool (sameT x y)) ∧ Below w.heap.size w w' := by
 unfold vtV
 go_enter Tryz.func247, Tryz.ntmps247
 go_wp2
 all_goals
  go_ret
  exact ⟨ret_bool (by simp [sameT, bne, *]), below_two _ _ _⟩

def canT (x y : VT) : Bool := (sameT x y || (x.fam == 4 && y.fam == 5)) || (x.fam == 5 && y.fam == 4)
set_option maxRecDepth 100000 in
set_option maxHeartbeats 2000000 in
theorem can_any (w : World) (x y : VT) :
  Calls Tryz.prog 264 #[vtV x, vtV y] w fun e w' => e = .returned (.bool (canT x y)) ∧ Below w.heap.size w w' := by
 have E := hide (show canT x y = ((sameT x y || (x.fam == 4 && y.fam == 5)) || (x.fam == 5 && y.fam == 4)) from rfl)
 have HS := hide (same_any ((w.alloc (.cells #[.int .i64 x.fam, .string x.name] 362)).alloc (.cells #[.int .i64 y.fam, .string y.name] 362)) x y)
 unfold vtV at *
 generalize canT x y = fin at *
 go_enter Tryz.func264, Tryz.ntmps264
 go_wp2_with fail
 refine (unhide HS).mono ?_
 rintro e w1 ⟨rfl, hb1⟩
 have hx := hb1.block w.heap.size (by simp; omega)
 have hy := hb1.block (w.heap.size + 1) (by simp)
 obtain ⟨a0, _⟩ := row2 (hx.trans (alloc_row (alloc_new _ _)))
 obtain ⟨b0, _⟩ := row2 (hy.trans (by have := alloc_new (w.alloc (.cells #[.int .i64 x.fam, .string x.name] 362)) (.cells #[.int .i64 y.fam, .string y.name] 362); simp only [World.size_alloc] at this; exact this))
 have HB := hide ((below_two w (.cells #[.int .i64 x.fam, .string x.name] 362) (.cells #[.int .i64 y.fam, .string y.name] 362)).trans (hb1.mono (by simp; omega)))
 generalize sameT x y = s at *
 clear hb1 hx hy HS
 cases s
 ·cases h4 : (x.fam == 4)
  ·cases h5 : (x.fam == 5)
   ·go_wp2
    go_ret
    exact ⟨ret_bool (by rw [unhide E, h4, h5]; rfl), unhide HB⟩
   ·go_wp2
    go_ret
    exact ⟨ret_bool (by rw [unhide E, h4, h5]; simp), unhide HB⟩
  ·have h5 : (x.fam == 5) = false := by rw [beq_iff_eq] at h4; rw [h4]; rfl
   cases h6 : (y.fam == 5)
   ·go_wp2
    go_ret
    exact ⟨ret_bool (by rw [unhide E, h4, h5, h6]; rfl), unhide HB⟩
   ·go_wp2
    go_ret
    exact ⟨ret_bool (by rw [unhide E, h4, h5, h6]; rfl), unhide HB⟩
 ·go_wp2
  go_ret
  exact ⟨ret_bool (by rw [unhide E]; rfl), unhide HB⟩

def binT (o : Int) (x y : VT) : VT :=
 if (o == 6 || o == 7) then makesT 1 (x.fam == 1 && y.fam == 1) else if (o == 11 || o == 12) then makesT 2 (x.fam == 2 && y.fam == 2) else if o == 10 then makesT 1 (x.fam == 2 && y.fam == 2) else makesT 1 (canT x y)
set_option maxRecDepth 100000 in
set_option maxHeartbeats 4000000 in
theorem binary_any (w : World) (o : Int) (x y : VT) :
  Calls Tryz.prog 246 #[.int .i64 o, vtV x, vtV y] w fun e w' => e = .returned (vtV (binT o x y)) ∧ Below w.heap.size w w' := by
 have E := hide (show binT o x y = if (o == 6 || o == 7) then makesT 1 (x.fam == 1 && y.fam == 1) else if (o == 11 || o == 12) then makesT 2 (x.fam == 2 && y.fam == 2) else if o == 10 then makesT 1 (x.fam == 2 && y.fam == 2) else makesT 1 (canT x y) from rfl)
 have HR := hide (show (((w.alloc (.cells #[.int .i64 x.fam, .string x.name] 362)).alloc (.cells #[.int .i64 y.fam, .string y.name] 362)).alloc (.cells #[.int .i64 0, .string ⟨#[]⟩] 362)).heap[w.heap.size + 2]? = some (.cells #[.int .i64 0, .string ⟨#[]⟩] 362 (0, 0)) by
  have := alloc_new ((w.alloc (.cells #[.int .i64 x.fam, .string x.name] 362)).alloc (.cells #[.int .i64 y.fam, .string y.name] 362)) (.cells #[.int .i64 0, .string ⟨#[]⟩] 362)
  simp only [World.size_alloc] at this
  exact this)
 have HB := hide (show Below w.heap.size w (((w.alloc (.cells #[.int .i64 x.fam, .string x.name] 362)).alloc (.cells #[.int .i64 y.fam, .string y.name] 362)).alloc (.cells #[.int .i64 0, .string ⟨#[]⟩] 362)) from (below_two w _ _).trans ((below_alloc1 _ _).mono (by simp; omega)))
 have HM := hide (fun f c => makes_any (((w.alloc (.cells #[.int .i64 x.fam, .string x.name] 362)).alloc (.cells #[.int .i64 y.fam, .string y.name] 362)).alloc (.cells #[.int .i64 0, .string ⟨#[]⟩] 362)) f c)
 have HC := hide (can_any (((w.alloc (.cells #[.int .i64 x.fam, .string x.name] 362)).alloc (.cells #[.int .i64 y.fam, .string y.name] 362)).alloc (.cells #[.int .i64 0, .string ⟨#[]⟩] 362)) x y)
 have hsz : (((w.alloc (.cells #[.int .i64 x.fam, .string x.name] 362)).alloc (.cells #[.int .i64 y.fam, .string y.name] 362)).alloc (.cells #[.int .i64 0, .string ⟨#[]⟩] 362)).heap.size = w.heap.size + 3 := by simp
 generalize binT o x y = fin at *
 unfold vtV at *
 go_enter Tryz.func246, Tryz.ntmps246
 cases h6 : (o == 6)
 ·cases h7 : (o == 7)
  ·rw [h6, h7] at E
   cases h11 : (o == 11)
   ·cases h12 : (o == 12)
    ·rw [h11, h12] at E
     cases h10 : (o == 10)
     ·rw [h10] at E
      go_wp2_with fail
      refine (unhide HC).mono ?_
      rintro e w2 ⟨rfl, hb2⟩
      have hr2 := (hb2.block (w.heap.size + 2) (by simp)).trans (unhide HR)
      have HB2 := hide ((unhide HB).trans (hb2.mono (by simp; omega)))
      have hs2 := hb2.size
      simp at hs2
      have HR2 := hide hr2
      clear HM HC HR HB hb2 hr2
      go_wp2_with fail
      refine (makes_any w2 1 (canT x y)).mono ?_
      rintro e w1 ⟨rfl, hb1⟩
      have hr := (hb1.block (w.heap.size + 2) (by omega)).trans (unhide HR2)
      obtain ⟨q0, q1, q2, q3⟩ := row2 hr
      have HB1 := hide ((unhide HB2).trans (hb1.mono (by omega)))
      have HR1 := hide hr
      clear hb1 hr HR2 HB2
      unfold vtV
      go_wp2
      refine bodyPost_ret (results_cell_row Tryz.results246 _ _ (w.heap.size + 2) _ _ _ _ rfl (set2 (unhide HR1) _ _) Tryz.underlying362 rfl (by kernel_rfl)) rfl ?_
      exact ⟨by rw [unhide E]; rfl, ((unhide HB1).setCell (show w.heap.size ≤ w.heap.size + 2 by omega) _).setCell (show w.heap.size ≤ w.heap.size + 2 by omega) _⟩
     ·rw [h10] at E
      cases hx : (x.fam == 2)
      ·rw [hx, Bool.false_and] at E
       go_wp2_with fail
       refine (unhide HM 1 false).mono ?_
       rintro e w1 ⟨rfl, hb1⟩
       have hr := (hb1.block (w.heap.size + 2) (by simp)).trans (unhide HR)
       obtain ⟨_, _, q2, q3⟩ := row2 hr
       obtain ⟨q0, q1, _, _⟩ := row2 hr
       have HB1 := hide ((unhide HB).trans (hb1.mono (by simp; omega)))
       have HR1 := hide hr
       clear hb1 hr HM HC HR HB
       go_wp2
       refine bodyPost_ret (results_cell_row Tryz.results246 _ _ (w.heap.size + 2) _ _ _ _ rfl (set2 (unhide HR1) _ _) Tryz.underlying362 rfl (by kernel_rfl)) rfl ?_
       exact ⟨by rw [unhide E]; rfl, ((unhide HB1).setCell (show w.heap.size ≤ w.heap.size + 2 by omega) _).setCell (show w.heap.size ≤ w.heap.size + 2 by omega) _⟩
      ·rw [hx, Bool.true_and] at E
       go_wp2_with fail
       refine (unhide HM 1 (y.fam == 2)).mono ?_
       rintro e w1 ⟨rfl, hb1⟩
       have hr := (hb1.block (w.heap.size + 2) (by simp)).trans (unhide HR)
       obtain ⟨_, _, q2, q3⟩ := row2 hr
       obtain ⟨q0, q1, _, _⟩ := row2 hr
       have HB1 := hide ((unhide HB).trans (hb1.mono (by simp; omega)))
       have HR1 := hide hr
       clear hb1 hr HM HC HR HB
       go_wp2
       refine bodyPost_ret (results_cell_row Tryz.results246 _ _ (w.heap.size + 2) _ _ _ _ rfl (set2 (unhide HR1) _ _) Tryz.underlying362 rfl (by kernel_rfl)) rfl ?_
       exact ⟨by rw [unhide E]; rfl, ((unhide HB1).setCell (show w.heap.size ≤ w.heap.size + 2 by omega) _).setCell (show w.heap.size ≤ w.heap.size + 2 by omega) _⟩
    ·rw [h11, h12] at E
     cases hx : (x.fam == 2)
     ·rw [hx, Bool.false_and] at E
      go_wp2_with fail
      refine (unhide HM 2 false).mono ?_
      rintro e w1 ⟨rfl, hb1⟩
      have hr := (hb1.block (w.heap.size + 2) (by simp)).trans (unhide HR)
      obtain ⟨_, _, q2, q3⟩ := row2 hr
      obtain ⟨q0, q1, _, _⟩ := row2 hr
      have HB1 := hide ((unhide HB).trans (hb1.mono (by simp; omega)))
      have HR1 := hide hr
      clear hb1 hr HM HC HR HB
      go_wp2
      refine bodyPost_ret (results_cell_row Tryz.results246 _ _ (w.heap.size + 2) _ _ _ _ rfl (set2 (unhide HR1) _ _) Tryz.underlying362 rfl (by kernel_rfl)) rfl ?_
      exact ⟨by rw [unhide E]; rfl, ((unhide HB1).setCell (show w.heap.size ≤ w.heap.size + 2 by omega) _).setCell (show w.heap.size ≤ w.heap.size + 2 by omega) _⟩
     ·rw [hx, Bool.true_and] at E
      go_wp2_with fail
      refine (unhide HM 2 (y.fam == 2)).mono ?_
      rintro e w1 ⟨rfl, hb1⟩
      have hr := (hb1.block (w.heap.size + 2) (by simp)).trans (unhide HR)
      obtain ⟨_, _, q2, q3⟩ := row2 hr
      obtain ⟨q0, q1, _, _⟩ := row2 hr
      have HB1 := hide ((unhide HB).trans (hb1.mono (by simp; omega)))
      have HR1 := hide hr
      clear hb1 hr HM HC HR HB
      go_wp2
      refine bodyPost_ret (results_cell_row Tryz.results246 _ _ (w.heap.size + 2) _ _ _ _ rfl (set2 (unhide HR1) _ _) Tryz.underlying362 rfl (by kernel_rfl)) rfl ?_
      exact ⟨by rw [unhide E]; rfl, ((unhide HB1).setCell (show w.heap.size ≤ w.heap.size + 2 by omega) _).setCell (show w.heap.size ≤ w.heap.size + 2 by omega) _⟩
   ·rw [h11] at E
    cases hx : (x.fam == 2)
    ·rw [hx, Bool.false_and] at E
     go_wp2_with fail
     refine (unhide HM 2 false).mono ?_
     rintro e w1 ⟨rfl, hb1⟩
     have hr := (hb1.block (w.heap.size + 2) (by simp)).trans (unhide HR)
     obtain ⟨_, _, q2, q3⟩ := row2 hr
     obtain ⟨q0, q1, _, _⟩ := row2 hr
     have HB1 := hide ((unhide HB).trans (hb1.mono (by simp; omega)))
     have HR1 := hide hr
     clear hb1 hr HM HC HR HB
     go_wp2
     refine bodyPost_ret (results_cell_row Tryz.results246 _ _ (w.heap.size + 2) _ _ _ _ rfl (set2 (unhide HR1) _ _) Tryz.underlying362 rfl (by kernel_rfl)) rfl ?_
     exact ⟨by rw [unhide E]; rfl, ((unhide HB1).setCell (show w.heap.size ≤ w.heap.size + 2 by omega) _).setCell (show w.heap.size ≤ w.heap.size + 2 by omega) _⟩
    ·rw [hx, Bool.true_and] at E
     go_wp2_with fail
     refine (unhide HM 2 (y.fam == 2)).mono ?_
     rintro e w1 ⟨rfl, hb1⟩
     have hr := (hb1.block (w.heap.size + 2) (by simp)).trans (unhide HR)
     obtain ⟨_, _, q2, q3⟩ := row2 hr
     obtain ⟨q0, q1, _, _⟩ := row2 hr
     have HB1 := hide ((unhide HB).trans (hb1.mono (by simp; omega)))
     have HR1 := hide hr
     clear hb1 hr HM HC HR HB
     go_wp2
     refine bodyPost_ret (results_cell_row Tryz.results246 _ _ (w.heap.size + 2) _ _ _ _ rfl (set2 (unhide HR1) _ _) Tryz.underlying362 rfl (by kernel_rfl)) rfl ?_
     exact ⟨by rw [unhide E]; rfl, ((unhide HB1).setCell (show w.heap.size ≤ w.heap.size + 2 by omega) _).setCell (show w.heap.size ≤ w.heap.size + 2 by omega) _⟩
  ·rw [h6, h7] at E
   cases hx : (x.fam == 1)
   ·rw [hx, Bool.false_and] at E
    go_wp2_with fail
    refine (unhide HM 1 false).mono ?_
    rintro e w1 ⟨rfl, hb1⟩
    have hr := (hb1.block (w.heap.size + 2) (by simp)).trans (unhide HR)
    obtain ⟨_, _, q2, q3⟩ := row2 hr
    obtain ⟨q0, q1, _, _⟩ := row2 hr
    have HB1 := hide ((unhide HB).trans (hb1.mono (by simp; omega)))
    have HR1 := hide hr
    clear hb1 hr HM HC HR HB
    go_wp2
    refine bodyPost_ret (results_cell_row Tryz.results246 _ _ (w.heap.size + 2) _ _ _ _ rfl (set2 (unhide HR1) _ _) Tryz.underlying362 rfl (by kernel_rfl)) rfl ?_
    exact ⟨by rw [unhide E]; rfl, ((unhide HB1).setCell (show w.heap.size ≤ w.heap.size + 2 by omega) _).setCell (show w.heap.size ≤ w.heap.size + 2 by omega) _⟩
   ·rw [hx, Bool.true_and] at E
    go_wp2_with fail
    refine (unhide HM 1 (y.fam == 1)).mono ?_
    rintro e w1 ⟨rfl, hb1⟩
    have hr := (hb1.block (w.heap.size + 2) (by simp)).trans (unhide HR)
    obtain ⟨_, _, q2, q3⟩ := row2 hr
    obtain ⟨q0, q1, _, _⟩ := row2 hr
    have HB1 := hide ((unhide HB).trans (hb1.mono (by simp; omega)))
    have HR1 := hide hr
    clear hb1 hr HM HC HR HB
    go_wp2
    refine bodyPost_ret (results_cell_row Tryz.results246 _ _ (w.heap.size + 2) _ _ _ _ rfl (set2 (unhide HR1) _ _) Tryz.underlying362 rfl (by kernel_rfl)) rfl ?_
    exact ⟨by rw [unhide E]; rfl, ((unhide HB1).setCell (show w.heap.size ≤ w.heap.size + 2 by omega) _).setCell (show w.heap.size ≤ w.heap.size + 2 by omega) _⟩
 ·rw [h6] at E
  cases hx : (x.fam == 1)
  ·rw [hx, Bool.false_and] at E
   go_wp2_with fail
   refine (unhide HM 1 false).mono ?_
   rintro e w1 ⟨rfl, hb1⟩
   have hr := (hb1.block (w.heap.size + 2) (by simp)).trans (unhide HR)
   obtain ⟨_, _, q2, q3⟩ := row2 hr
   obtain ⟨q0, q1, _, _⟩ := row2 hr
   have HB1 := hide ((unhide HB).trans (hb1.mono (by simp; omega)))
   have HR1 := hide hr
   clear hb1 hr HM HC HR HB
   go_wp2
   refine bodyPost_ret (results_cell_row Tryz.results246 _ _ (w.heap.size + 2) _ _ _ _ rfl (set2 (unhide HR1) _ _) Tryz.underlying362 rfl (by kernel_rfl)) rfl ?_
   exact ⟨by rw [unhide E]; rfl, ((unhide HB1).setCell (show w.heap.size ≤ w.heap.size + 2 by omega) _).setCell (show w.heap.size ≤ w.heap.size + 2 by omega) _⟩
  ·rw [hx, Bool.true_and] at E
   go_wp2_with fail
   refine (unhide HM 1 (y.fam == 1)).mono ?_
   rintro e w1 ⟨rfl, hb1⟩
   have hr := (hb1.block (w.heap.size + 2) (by simp)).trans (unhide HR)
   obtain ⟨_, _, q2, q3⟩ := row2 hr
   obtain ⟨q0, q1, _, _⟩ := row2 hr
   have HB1 := hide ((unhide HB).trans (hb1.mono (by simp; omega)))
   have HR1 := hide hr
   clear hb1 hr HM HC HR HB
   go_wp2
   refine bodyPost_ret (results_cell_row Tryz.results246 _ _ (w.heap.size + 2) _ _ _ _ rfl (set2 (unhide HR1) _ _) Tryz.underlying362 rfl (by kernel_rfl)) rfl ?_
   exact ⟨by rw [unhide E]; rfl, ((unhide HB1).setCell (show w.heap.size ≤ w.heap.size + 2 by omega) _).setCell (show w.heap.size ≤ w.heap.size + 2 by omega) _⟩

end Go.Proofs.YtpmcnonmkghokaaGreatDoor
namespace Go.Proofs.YtpmcnonmkghokaaGreatDoor
open Go.RowKit
attribute [local go_sem ↓] Go.wp_at_zero Go.wp_at_succ
def tyV (b : Nat) (ps : Value) : Value := .agg #[.map (some b), ps]
def simT (tab : Tab) (x : SiT) : VT := if x.form == 0 then ⟨1, ⟨#[]⟩⟩ else if x.form == 1 then ⟨2, ⟨#[]⟩⟩ else if (lookT tab x.name.text.toList).role == 1 then ⟨4, x.name.text⟩ else ⟨3, x.name.text⟩

set_option maxRecDepth 100000 in
set_option maxHeartbeats 4000000 in
theorem tsimple_any (w : World) (b : Nat) (tab : Tab) (ps : Value) (x : SiT) (ht : MapIs w b tab) (hs : x.name.text.size ≤ 1000) (hps : ps.oneCell' = true) :
  Calls Tryz.prog 263 #[tyV b ps, siV x] w fun e w' => e = .returned (vtV (simT tab x)) ∧ Below w.heap.size w w' := by
 have E := hide (show simT tab x = if x.form == 0 then ⟨1, ⟨#[]⟩⟩ else if x.form == 1 then ⟨2, ⟨#[]⟩⟩ else if (lookT tab x.name.text.toList).role == 1 then ⟨4, x.name.text⟩ else ⟨3, x.name.text⟩ from rfl)
 obtain ⟨W, hW⟩ : ∃ W, W = ((w.alloc (.cells #[.map (some b), ps] 301)).alloc (.cells #[.int .i64 x.form, .int .i64 (digV x.top.text), .int .i64 x.top.at_, .string x.name.text, .int .i64 x.name.at_] 119)).alloc (.cells #[.int .i64 0, .string ⟨#[]⟩] 362) := ⟨_, rfl⟩
 have hbW : Below w.heap.size w W := by rw [hW]; exact (below_two w _ _).trans ((below_alloc1 _ _).mono (by simp; omega))
 have hsW : W.heap.size = w.heap.size + 3 := by rw [hW]; simp
 have hT : W.heap[w.heap.size]? = some (.cells #[.map (some b), ps] 301 (0, 0)) := by rw [hW]; exact alloc_row (alloc_row (alloc_new _ _))
 have hX : W.heap[w.heap.size + 1]? = some (.cells #[.int .i64 x.form, .int .i64 (digV x.top.text), .int .i64 x.top.at_, .string x.name.text, .int .i64 x.name.at_] 119 (0, 0)) := by
  rw [hW]
  have := alloc_new (w.alloc (.cells #[.map (some b), ps] 301)) (.cells #[.int .i64 x.form, .int .i64 (digV x.top.text), .int .i64 x.top.at_, .string x.name.text, .int .i64 x.name.at_] 119)
  simp only [World.size_alloc] at this
  exact alloc_row this
 have hR : W.heap[w.heap.size + 2]? = some (.cells #[.int .i64 0, .string ⟨#[]⟩] 362 (0, 0)) := by
  rw [hW]
  have := alloc_new ((w.alloc (.cells #[.map (some b), ps] 301)).alloc (.cells #[.int .i64 x.form, .int .i64 (digV x.top.text), .int .i64 x.top.at_, .string x.name.text, .int .i64 x.name.at_] 119)) (.cells #[.int .i64 0, .string ⟨#[]⟩] 362)
  simp only [World.size_alloc] at this
  exact this
 have hM : MapIs W b tab := ht.kept hbW
 have hlk := look_run hM hs
 have hf := ent_field0 (lookT tab x.name.text.toList)
 obtain ⟨t0, t1, _⟩ := row2 hT
 obtain ⟨x0, x1, x2, x3, x4, _⟩ := row5' hX
 obtain ⟨r0, r1, r2, r3⟩ := row2 hR
 have HR := hide hR
 have HB := hide hbW
 have HWE := hide hW.symm
 generalize simT tab x = fin at *
 generalize lookT tab x.name.text.toList = q at *
 clear hR hbW hW hM ht hT hX hsW
 unfold tyV siV vtV
 go_enter Tryz.func263, Tryz.ntmps263
 go_upto_region 1 with fail
 rw [unhide HWE, show w.heap.size + 1 + 1 = w.heap.size + 2 from rfl]
 cases h0 : (x.form == 0)
 ·cases h1 : (x.form == 1)
  ·cases h2 : (q.role == 1)
   ·rw [h0, h1, h2] at E
    go_wp2
    refine bodyPost_ret (results_cell_row Tryz.results263 _ _ (w.heap.size + 2) _ _ _ _ rfl (set2 (unhide HR) _ _) Tryz.underlying362 rfl (by kernel_rfl)) rfl ?_
    exact ⟨by rw [unhide E]; rfl, ((unhide HB).setCell (show w.heap.size ≤ w.heap.size + 2 by omega) _).setCell (show w.heap.size ≤ w.heap.size + 2 by omega) _⟩
   ·rw [h0, h1, h2] at E
    go_wp2
    refine bodyPost_ret (results_cell_row Tryz.results263 _ _ (w.heap.size + 2) _ _ _ _ rfl (set2 (unhide HR) _ _) Tryz.underlying362 rfl (by kernel_rfl)) rfl ?_
    exact ⟨by rw [unhide E]; rfl, ((unhide HB).setCell (show w.heap.size ≤ w.heap.size + 2 by omega) _).setCell (show w.heap.size ≤ w.heap.size + 2 by omega) _⟩
  ·rw [h0, h1] at E
   go_wp2
   refine bodyPost_ret (results_cell_row Tryz.results263 _ _ (w.heap.size + 2) _ _ _ _ rfl (set2 (unhide HR) _ _) Tryz.underlying362 rfl (by kernel_rfl)) rfl ?_
   exact ⟨by rw [unhide E]; rfl, ((unhide HB).setCell (show w.heap.size ≤ w.heap.size + 2 by omega) _).setCell (show w.heap.size ≤ w.heap.size + 2 by omega) _⟩
 ·rw [h0] at E
  go_wp2
  refine bodyPost_ret (results_cell_row Tryz.results263 _ _ (w.heap.size + 2) _ _ _ _ rfl (set2 (unhide HR) _ _) Tryz.underlying362 rfl (by kernel_rfl)) rfl ?_
  exact ⟨by rw [unhide E]; rfl, ((unhide HB).setCell (show w.heap.size ≤ w.heap.size + 2 by omega) _).setCell (show w.heap.size ≤ w.heap.size + 2 by omega) _⟩


end Go.Proofs.YtpmcnonmkghokaaGreatDoor
namespace Go.Proofs.YtpmcnonmkghokaaGreatDoor
open Go.RowKit
attribute [local go_sem ↓] Go.wp_at_zero Go.wp_at_succ
def TabSz (tab : Tab) : Prop := ∀ s, (lookT tab s).var.si.name.text.size ≤ 1000
def singT (tab : Tab) (l : List PP) (n : Tok) : VT :=
 if fpB l n.text.toList then ⟨4, (fpP l n.text.toList).set_.text⟩
 else if (lookT tab n.text.toList).role == 3 then ⟨3, (lookT tab n.text.toList).kind⟩
 else if (lookT tab n.text.toList).role == 4 && !(lookT tab n.text.toList).var.arr then simT tab (lookT tab n.text.toList).var.si else noVT

set_option maxRecDepth 100000 in
set_option maxHeartbeats 4000000 in
theorem single_any (w : World) (b lo : Nat) (tab : Tab) (l : List PP) (pa : Option Addr) (pn pc : Nat) (n : Tok) (ht : MapIs w b tab) (htz : TabSz tab) (ho : w.ownsRow lo 352 4 (.slice pa pn pc) l.length (pasCells l)) (hl : l.length ≤ 1000) (hs : n.text.size ≤ 1000) :
  Calls Tryz.prog 261 #[tyV b (.slice pa pn pc), ptV n] w fun e w' => e = .returned (vtV (singT tab l n)) ∧ Below w.heap.size w w' := by
 obtain ⟨ps, hps⟩ : ∃ ps, ps = Value.slice pa pn pc := ⟨_, rfl⟩
 rw [← hps] at ho ⊢
 have E := hide (show singT tab l n = if fpB l n.text.toList then ⟨4, (fpP l n.text.toList).set_.text⟩
  else if (lookT tab n.text.toList).role == 3 then ⟨3, (lookT tab n.text.toList).kind⟩
  else if (lookT tab n.text.toList).role == 4 && !(lookT tab n.text.toList).var.arr then simT tab (lookT tab n.text.toList).var.si else noVT from rfl)
 obtain ⟨W, hW⟩ : ∃ W, W = ((w.alloc (.cells #[.map (some b), ps] 301)).alloc (.cells #[.string n.text, .int .i64 n.at_] 107)).alloc (.cells #[.int .i64 0, .string ⟨#[]⟩] 362) := ⟨_, rfl⟩
 have hbW : Below w.heap.size w W := by rw [hW]; exact (below_two w _ _).trans ((below_alloc1 _ _).mono (by simp; omega))
 have hsW : W.heap.size = w.heap.size + 3 := by rw [hW]; simp
 have hT : W.heap[w.heap.size]? = some (.cells #[.map (some b), ps] 301 (0, 0)) := by rw [hW]; exact alloc_row (alloc_row (alloc_new _ _))
 have hX : W.heap[w.heap.size + 1]? = some (.cells #[.string n.text, .int .i64 n.at_] 107 (0, 0)) := by
  rw [hW]
  have := alloc_new (w.alloc (.cells #[.map (some b), ps] 301)) (.cells #[.string n.text, .int .i64 n.at_] 107)
  simp only [World.size_alloc] at this
  exact alloc_row this
 have hR : W.heap[w.heap.size + 2]? = some (.cells #[.int .i64 0, .string ⟨#[]⟩] 362 (0, 0)) := by
  rw [hW]
  have := alloc_new ((w.alloc (.cells #[.map (some b), ps] 301)).alloc (.cells #[.string n.text, .int .i64 n.at_] 107)) (.cells #[.int .i64 0, .string ⟨#[]⟩] 362)
  simp only [World.size_alloc] at this
  exact this
 have hM : MapIs W b tab := ht.kept hbW
 have HFP := hide (findParam_any W lo l ps n (owns_below ho hbW) hl)
 have hqs := htz n.text.toList
 obtain ⟨t0, t1, _⟩ := row2 hT
 obtain ⟨x0, x1, _⟩ := row2 hX
 have HT := hide hT
 have HX := hide hX
 have HR := hide hR
 have HB := hide hbW
 have HM := hide hM
 have HWE := hide hW.symm
 generalize singT tab l n = fin at *
 clear hR hbW hW hM ht hT hX ho
 subst hps
 unfold tyV ptV vtV at *
 go_enter Tryz.func261, Tryz.ntmps261
 go_upto_region 1 with fail
 rw [unhide HWE, show w.heap.size + 1 + 1 = w.heap.size + 2 from rfl]
 go_wp2_with fail
 refine (unhide HFP).mono ?_
 rintro e w1 ⟨rfl, hb1⟩
 have hs1 := hb1.size
 generalize fpP l n.text.toList = p at *
 generalize fpB l n.text.toList = r at *
 have hR1 := (hb1.block (w.heap.size + 2) (by omega)).trans (unhide HR)
 have hT1 := (hb1.block w.heap.size (by omega)).trans (unhide HT)
 have hX1 := (hb1.block (w.heap.size + 1) (by omega)).trans (unhide HX)
 have hM1 := (unhide HM).kept hb1
 have hlk := look_run (hM1.kept (below_alloc1 w1 (.cells #[.string p.name.text, .int .i64 p.name.at_, .string p.set_.text, .int .i64 p.set_.at_] 352))) hs
 obtain ⟨t0, t1, _⟩ := row2 hT1
 obtain ⟨x0, x1, _⟩ := row2 hX1
 obtain ⟨r0, r1, r2, r3⟩ := row2 hR1
 have HB1 := hide ((unhide HB).trans (hb1.mono (by omega)))
 have HR1 := hide hR1
 have HT1 := hide hT1
 have HM1 := hide hM1
 have hlt0 : w.heap.size < w1.heap.size := by omega
 have hlt1 : w.heap.size + 1 < w1.heap.size := by omega
 have hlt2 : w.heap.size + 2 < w1.heap.size := by omega
 clear hb1 hR1 hT1 hX1 hM1 HFP HR HT HX HM HB hs1 hsW
 unfold paV
 cases r
 case true =>
  go_wp2
  refine bodyPost_ret (results_cell_row Tryz.results261 _ _ (w.heap.size + 2) _ _ _ _ rfl (alloc_row (set2 (unhide HR1) _ _)) Tryz.underlying362 rfl (by kernel_rfl)) rfl ?_
  exact ⟨by rw [unhide E]; rfl, ((((unhide HB1).setCell (show w.heap.size ≤ w.heap.size + 2 by omega) _).setCell (show w.heap.size ≤ w.heap.size + 2 by omega) _).alloc (by simp [World.setCell]; omega) _)⟩
 case false =>
  generalize lookT tab n.text.toList = q at *
  simp only [entV, entCells, vrCells, List.cons_append, List.nil_append] at hlk
  cases h3 : (q.role == 3)
  ·rw [h3] at E
   cases h4 : (q.role == 4)
   ·rw [h4] at E
    go_wp2
    refine bodyPost_ret (results_cell_row Tryz.results261 _ _ (w.heap.size + 2) _ _ _ _ rfl (alloc_row (alloc_row (set2 (unhide HR1) _ _))) Tryz.underlying362 rfl (by kernel_rfl)) rfl ?_
    exact ⟨by rw [unhide E]; rfl, (((((unhide HB1).setCell (show w.heap.size ≤ w.heap.size + 2 by omega) _).setCell (show w.heap.size ≤ w.heap.size + 2 by omega) _).alloc (by simp [World.setCell]; omega) _).alloc (by simp [World.setCell]; omega) _)⟩
   ·rw [h4] at E
    cases ha : q.var.arr
    ·rw [ha] at E hlk
     have HSI := hide (tsimple_any ((w1.alloc (.cells #[.string p.name.text, .int .i64 p.name.at_, .string p.set_.text, .int .i64 p.set_.at_] 352)).alloc (.cells #[.int .i64 q.role, .int .i64 q.place, .string q.kind, .string q.var.name.text, .int .i64 q.var.name.at_, .bool false, .string q.var.over.text, .int .i64 q.var.over.at_, .int .i64 q.var.si.form, .int .i64 (digV q.var.si.top.text), .int .i64 q.var.si.top.at_, .string q.var.si.name.text, .int .i64 q.var.si.name.at_] 294)) b tab (.slice pa pn pc) q.var.si (((unhide HM1).kept (below_alloc1 _ _)).kept (below_alloc1 _ _)) hqs rfl)
     unfold tyV siV vtV at HSI
     go_wp2_with fail
     refine (unhide HSI).mono ?_
     rintro e w3 ⟨rfl, hb3⟩
     have hs3 := hb3.size
     simp at hs3
     have hR3 := (hb3.block (w.heap.size + 2) (by simp; omega)).trans (alloc_row (alloc_row (unhide HR1)))
     obtain ⟨s0, s1, s2, s3⟩ := row2 hR3
     have HR3 := hide hR3
     have HB3 := hide ((((unhide HB1).alloc (by omega) _).alloc (by simp; omega) _).trans (hb3.mono (by simp; omega)))
     clear hb3 hR3 HSI
     go_wp2
     refine bodyPost_ret (results_cell_row Tryz.results261 _ _ (w.heap.size + 2) _ _ _ _ rfl (set2 (unhide HR3) _ _) Tryz.underlying362 rfl (by kernel_rfl)) rfl ?_
     exact ⟨by rw [unhide E]; rfl, ((unhide HB3).setCell (show w.heap.size ≤ w.heap.size + 2 by omega) _).setCell (show w.heap.size ≤ w.heap.size + 2 by omega) _⟩
    ·rw [ha] at E hlk
     go_wp2
     refine bodyPost_ret (results_cell_row Tryz.results261 _ _ (w.heap.size + 2) _ _ _ _ rfl (alloc_row (alloc_row (set2 (unhide HR1) _ _))) Tryz.underlying362 rfl (by kernel_rfl)) rfl ?_
     exact ⟨by rw [unhide E]; rfl, (((((unhide HB1).setCell (show w.heap.size ≤ w.heap.size + 2 by omega) _).setCell (show w.heap.size ≤ w.heap.size + 2 by omega) _).alloc (by simp [World.setCell]; omega) _).alloc (by simp [World.setCell]; omega) _)⟩
  ·rw [h3] at E
   go_wp2
   refine bodyPost_ret (results_cell_row Tryz.results261 _ _ (w.heap.size + 2) _ _ _ _ rfl (alloc_row (alloc_row (set2 (unhide HR1) _ _))) Tryz.underlying362 rfl (by kernel_rfl)) rfl ?_
   exact ⟨by rw [unhide E]; rfl, (((((unhide HB1).setCell (show w.heap.size ≤ w.heap.size + 2 by omega) _).setCell (show w.heap.size ≤ w.heap.size + 2 by omega) _).alloc (by simp [World.setCell]; omega) _).alloc (by simp [World.setCell]; omega) _)⟩

end Go.Proofs.YtpmcnonmkghokaaGreatDoor
namespace Go.Proofs.YtpmcnonmkghokaaGreatDoor
open Go.RowKit
attribute [local go_sem ↓] Go.wp_at_zero Go.wp_at_succ
def idxT (tab : Tab) (l : List PP) (i s : Tok) : Bool := (singT tab l i).fam == 4 && (singT tab l i).name.toList == s.text.toList
set_option maxRecDepth 100000 in
set_option maxHeartbeats 4000000 in
theorem isIndex_any (w : World) (b lo : Nat) (tab : Tab) (l : List PP) (pa : Option Addr) (pn pc : Nat) (i s : Tok) (ht : MapIs w b tab) (htz : TabSz tab) (ho : w.ownsRow lo 352 4 (.slice pa pn pc) l.length (pasCells l)) (hl : l.length ≤ 1000) (hs : i.text.size ≤ 1000) :
  Calls Tryz.prog 262 #[tyV b (.slice pa pn pc), ptV i, ptV s] w fun e w' => e = .returned (.bool (idxT tab l i s)) ∧ Below w.heap.size w w' := by
 have E := hide (show idxT tab l i s = ((singT tab l i).fam == 4 && (singT tab l i).name.toList == s.text.toList) from rfl)
 have HB := hide ((below_two w (.cells #[.map (some b), .slice pa pn pc] 301) (.cells #[.string i.text, .int .i64 i.at_] 107)).trans ((below_alloc1 _ (.cells #[.string s.text, .int .i64 s.at_] 107)).mono (by simp; omega))).drew
 have HSG := hide (single_any (((w.alloc (.cells #[.map (some b), .slice pa pn pc] 301)).alloc (.cells #[.string i.text, .int .i64 i.at_] 107)).alloc (.cells #[.string s.text, .int .i64 s.at_] 107)).drew b lo tab l pa pn pc i (ht.kept (unhide HB)) htz (owns_below ho (unhide HB)) hl hs)
 have HX := hide (show (((w.alloc (.cells #[.map (some b), .slice pa pn pc] 301)).alloc (.cells #[.string i.text, .int .i64 i.at_] 107)).alloc (.cells #[.string s.text, .int .i64 s.at_] 107)).drew.heap[w.heap.size + 2]? = some (.cells #[.string s.text, .int .i64 s.at_] 107 (0, 0)) by
  have := alloc_new ((w.alloc (.cells #[.map (some b), .slice pa pn pc] 301)).alloc (.cells #[.string i.text, .int .i64 i.at_] 107)) (.cells #[.string s.text, .int .i64 s.at_] 107)
  simp only [World.size_alloc] at this
  exact this)
 unfold tyV ptV vtV at *
 generalize idxT tab l i s = fin at *
 generalize singT tab l i = q at *
 clear ht ho htz
 go_enter Tryz.func262, Tryz.ntmps262
 go_wp2
 by_cases h4 : q.fam = 4
 ·by_cases hn : q.name.toList = s.text.toList
  ·go_region_law ((go_simp; go_at_call 261; refine (unhide HSG).mono ?_; rintro e w1 ⟨rfl, hb1⟩; obtain ⟨y0, y1, _⟩ := row2 ((hb1.block (w.heap.size + 2) (by simp)).trans (unhide HX)); dsimp only))
   all_goals
    go_wp2
    go_ret
    exact ⟨ret_bool (by rw [unhide E]; simp [h4, hn]), (unhide HB).trans (hb1.mono (by simp; omega))⟩
  ·go_region_law ((go_simp; go_at_call 261; refine (unhide HSG).mono ?_; rintro e w1 ⟨rfl, hb1⟩; obtain ⟨y0, y1, _⟩ := row2 ((hb1.block (w.heap.size + 2) (by simp)).trans (unhide HX)); dsimp only))
   all_goals
    go_wp2
    go_ret
    exact ⟨ret_bool (by rw [unhide E]; simp [h4, hn]), (unhide HB).trans (hb1.mono (by simp; omega))⟩
 ·go_region_law ((go_simp; go_at_call 261; refine (unhide HSG).mono ?_; rintro e w1 ⟨rfl, hb1⟩; obtain ⟨y0, y1, _⟩ := row2 ((hb1.block (w.heap.size + 2) (by simp)).trans (unhide HX)); dsimp only))
  all_goals
   go_wp2
   go_ret
   exact ⟨ret_bool (by rw [unhide E]; simp [h4]), (unhide HB).trans (hb1.mono (by simp; omega))⟩

end Go.Proofs.YtpmcnonmkghokaaGreatDoor
namespace Go.Proofs.YtpmcnonmkghokaaGreatDoor
open Go.RowKit
attribute [local go_sem ↓] Go.wp_at_zero Go.wp_at_succ
theorem ent_field3 (q : Ent) (w : World) : (Instr.field 294 (entV q) 3).run Tryz.prog w = .ok (.agg #[.string q.var.name.text, .int .i64 q.var.name.at_, .bool q.var.arr, .string q.var.over.text, .int .i64 q.var.over.at_, .int .i64 q.var.si.form, .int .i64 (digV q.var.si.top.text), .int .i64 q.var.si.top.at_, .string q.var.si.name.text, .int .i64 q.var.si.name.at_]) w := by kernel_rfl
def tplT (tab : Tab) (l : List PP) (n i : Tok) : VT :=
 if (!(i.kind.toList == [])) then (if (lookT tab n.text.toList).var.arr then (if idxT tab l i (lookT tab n.text.toList).var.over then simT tab (lookT tab n.text.toList).var.si else noVT) else noVT) else singT tab l n

set_option maxRecDepth 100000 in
set_option maxHeartbeats 4000000 in
theorem tplace_any (w : World) (b lo : Nat) (tab : Tab) (l : List PP) (pa : Option Addr) (pn pc : Nat) (n i : Tok) (ht : MapIs w b tab) (htz : TabSz tab) (ho : w.ownsRow lo 352 4 (.slice pa pn pc) l.length (pasCells l)) (hl : l.length ≤ 1000) (hs : ∀ y ∈ ownPl n i, y.text.size ≤ 1000) :
  Calls Tryz.prog 244 #[tyV b (.slice pa pn pc), pl5 n i] w fun e w' => e = .returned (vtV (tplT tab l n i)) ∧ Below w.heap.size w w' := by
 obtain ⟨ps, hps⟩ : ∃ ps, ps = Value.slice pa pn pc := ⟨_, rfl⟩
 have hsn : n.text.size ≤ 1000 := hs n (by unfold ownPl; split <;> simp)
 have hsi : (!(i.kind.toList == [])) = true → i.text.size ≤ 1000 := fun e => hs i (by unfold ownPl; rw [Bool.not_eq_true'] at e; rw [e]; simp)
 have E := hide (show tplT tab l n i = if (!(i.kind.toList == [])) then (if (lookT tab n.text.toList).var.arr then (if idxT tab l i (lookT tab n.text.toList).var.over then simT tab (lookT tab n.text.toList).var.si else noVT) else noVT) else singT tab l n from rfl)
 have hqs := htz n.text.toList
 generalize tplT tab l n i = fin at *
 unfold pl5
 generalize (!(i.kind.toList == [])) = d at *
 rw [← hps] at ho ⊢
 obtain ⟨W, hW⟩ : ∃ W, W = ((w.alloc (.cells #[.map (some b), ps] 301)).alloc (.cells #[.string n.text, .int .i64 n.at_, .bool d, .string i.text, .int .i64 i.at_] 332)).alloc (.cells #[.int .i64 0, .string ⟨#[]⟩] 362) := ⟨_, rfl⟩
 have hbW : Below w.heap.size w W := by rw [hW]; exact (below_two w _ _).trans ((below_alloc1 _ _).mono (by simp; omega))
 have hsW : W.heap.size = w.heap.size + 3 := by rw [hW]; simp
 have hT : W.heap[w.heap.size]? = some (.cells #[.map (some b), ps] 301 (0, 0)) := by rw [hW]; exact alloc_row (alloc_row (alloc_new _ _))
 have hX : W.heap[w.heap.size + 1]? = some (.cells #[.string n.text, .int .i64 n.at_, .bool d, .string i.text, .int .i64 i.at_] 332 (0, 0)) := by
  rw [hW]
  have := alloc_new (w.alloc (.cells #[.map (some b), ps] 301)) (.cells #[.string n.text, .int .i64 n.at_, .bool d, .string i.text, .int .i64 i.at_] 332)
  simp only [World.size_alloc] at this
  exact alloc_row this
 have hR : W.heap[w.heap.size + 2]? = some (.cells #[.int .i64 0, .string ⟨#[]⟩] 362 (0, 0)) := by
  rw [hW]
  have := alloc_new ((w.alloc (.cells #[.map (some b), ps] 301)).alloc (.cells #[.string n.text, .int .i64 n.at_, .bool d, .string i.text, .int .i64 i.at_] 332)) (.cells #[.int .i64 0, .string ⟨#[]⟩] 362)
  simp only [World.size_alloc] at this
  exact this
 have hM : MapIs W b tab := ht.kept hbW
 have hOW := owns_below ho hbW
 have hlk := look_run hM hsn
 have hf := ent_field3 (lookT tab n.text.toList)
 subst hps
 have HSG := hide (single_any W b lo tab l pa pn pc n hM htz hOW hl hsn)
 obtain ⟨t0, t1, _⟩ := row2 hT
 obtain ⟨x0, x1, x2, x3, x4, _⟩ := row5' hX
 obtain ⟨r0, r1, r2, r3⟩ := row2 hR
 have HT := hide hT
 have HX := hide hX
 have HR := hide hR
 have HB := hide hbW
 have HM := hide hM
 have HO := hide hOW
 have HWE := hide hW.symm
 have hlt0 : w.heap.size < W.heap.size := by omega
 have hlt1 : w.heap.size + 1 < W.heap.size := by omega
 have hlt2 : w.heap.size + 2 < W.heap.size := by omega
 clear hR hbW hW hM ht hT hX ho hOW hs hsW
 unfold tyV ptV vtV at *
 go_enter Tryz.func244, Tryz.ntmps244
 go_upto_region 1 with fail
 rw [unhide HWE, show w.heap.size + 1 + 1 = w.heap.size + 2 from rfl]
 cases d
 case false =>
  clear hsi hlk hf
  go_wp2_with fail
  refine (unhide HSG).mono ?_
  rintro e w1 ⟨rfl, hb1⟩
  have hR1 := (hb1.block (w.heap.size + 2) (by omega)).trans (unhide HR)
  obtain ⟨s0, s1, s2, s3⟩ := row2 hR1
  have HR1 := hide hR1
  have HB1 := hide ((unhide HB).trans (hb1.mono (by omega)))
  clear hb1 hR1 HSG
  go_wp2
  refine bodyPost_ret (results_cell_row Tryz.results244 _ _ (w.heap.size + 2) _ _ _ _ rfl (set2 (unhide HR1) _ _) Tryz.underlying362 rfl (by kernel_rfl)) rfl ?_
  exact ⟨by rw [unhide E]; rfl, ((unhide HB1).setCell (show w.heap.size ≤ w.heap.size + 2 by omega) _).setCell (show w.heap.size ≤ w.heap.size + 2 by omega) _⟩
 case true =>
 have hsi' := hsi rfl
 have HIX := hide (isIndex_any (W.alloc (.cells #[.string (lookT tab n.text.toList).var.name.text, .int .i64 (lookT tab n.text.toList).var.name.at_, .bool (lookT tab n.text.toList).var.arr, .string (lookT tab n.text.toList).var.over.text, .int .i64 (lookT tab n.text.toList).var.over.at_, .int .i64 (lookT tab n.text.toList).var.si.form, .int .i64 (digV (lookT tab n.text.toList).var.si.top.text), .int .i64 (lookT tab n.text.toList).var.si.top.at_, .string (lookT tab n.text.toList).var.si.name.text, .int .i64 (lookT tab n.text.toList).var.si.name.at_] 121)) b lo tab l pa pn pc i (lookT tab n.text.toList).var.over ((unhide HM).kept (below_alloc1 _ _)) htz ((unhide HO).alloc _) hl hsi')
 unfold tyV ptV at HIX
 generalize lookT tab n.text.toList = q at *
 clear hsi HSG
 cases ha : q.var.arr
 ·rw [ha] at E hf
  go_wp2
  refine bodyPost_ret (results_cell_row Tryz.results244 _ _ (w.heap.size + 2) _ _ _ _ rfl (alloc_row (set2 (unhide HR) _ _)) Tryz.underlying362 rfl (by kernel_rfl)) rfl ?_
  exact ⟨by rw [unhide E]; rfl, ((((unhide HB).setCell (show w.heap.size ≤ w.heap.size + 2 by omega) _).setCell (show w.heap.size ≤ w.heap.size + 2 by omega) _).alloc (by simp [World.setCell]; omega) _)⟩
 ·rw [ha] at E hf HIX
  go_wp2_with fail
  refine (unhide HIX).mono ?_
  rintro e w1 ⟨rfl, hb1⟩
  generalize idxT tab l i q.var.over = c at *
  have hs1 := hb1.size
  simp at hs1
  have hv1 := (hb1.block W.heap.size (by simp)).trans (alloc_new _ _)
  have hT1 := (hb1.block w.heap.size (by simp; omega)).trans (alloc_row (unhide HT))
  have hR1 := (hb1.block (w.heap.size + 2) (by simp; omega)).trans (alloc_row (unhide HR))
  have hM1 := ((unhide HM).kept (below_alloc1 _ _)).kept hb1
  obtain ⟨⟨_, _, _, _, _, g5, g6, g7, g8, g9⟩, _⟩ := row10' hv1
  obtain ⟨t0, t1, _⟩ := row2 hT1
  obtain ⟨s0, s1, s2, s3⟩ := row2 hR1
  have HR1 := hide hR1
  have HB1 := hide (((unhide HB).alloc (by omega) _).trans (hb1.mono (by simp; omega)))
  have HSI := hide (tsimple_any w1 b tab (.slice pa pn pc) q.var.si hM1 hqs rfl)
  unfold tyV siV vtV at HSI
  clear hb1 hv1 hT1 hR1 hM1 HIX
  cases c
  ·go_wp2
   refine bodyPost_ret (results_cell_row Tryz.results244 _ _ (w.heap.size + 2) _ _ _ _ rfl (set2 (unhide HR1) _ _) Tryz.underlying362 rfl (by kernel_rfl)) rfl ?_
   exact ⟨by rw [unhide E]; rfl, ((unhide HB1).setCell (show w.heap.size ≤ w.heap.size + 2 by omega) _).setCell (show w.heap.size ≤ w.heap.size + 2 by omega) _⟩
  ·go_wp2_with fail
   refine (unhide HSI).mono ?_
   rintro e w3 ⟨rfl, hb3⟩
   have hR3 := (hb3.block (w.heap.size + 2) (by omega)).trans (unhide HR1)
   obtain ⟨u0, u1, u2, u3⟩ := row2 hR3
   have HR3 := hide hR3
   have HB3 := hide ((unhide HB1).trans (hb3.mono (by omega)))
   clear hb3 hR3 HSI
   go_wp2
   refine bodyPost_ret (results_cell_row Tryz.results244 _ _ (w.heap.size + 2) _ _ _ _ rfl (set2 (unhide HR3) _ _) Tryz.underlying362 rfl (by kernel_rfl)) rfl ?_
   exact ⟨by rw [unhide E]; rfl, ((unhide HB3).setCell (show w.heap.size ≤ w.heap.size + 2 by omega) _).setCell (show w.heap.size ≤ w.heap.size + 2 by omega) _⟩

end Go.Proofs.YtpmcnonmkghokaaGreatDoor
namespace Go.Proofs.YtpmcnonmkghokaaGreatDoor
open Go.RowKit
structure NamesFine (t : PTree) : Prop where
 uniq : ∀ i j, j < i → ∀ hi : i < (globalsL t).length, ∀ hj : j < (globalsL t).length, ((globalsL t)[j]).text.toList ≠ ((globalsL t)[i]).text.toList
 pars : ∀ r ∈ t.rules ++ t.nevers, ∀ p ∈ r.params, ∀ x ∈ globalsL t, x.text.toList ≠ p.name.text.toList
 psets : ∀ r ∈ t.rules ++ t.nevers, ∀ p ∈ r.params, ¬ lookI (setTexts t) p.set_.text.toList < 0
 over : ∀ v ∈ t.vars, (v.over.kind.toList == [110, 97, 109, 101]) = true → ¬ lookI (setTexts t) v.over.text.toList < 0
 type_ : ∀ v ∈ t.vars, (v.type_.kind.toList == [110, 97, 109, 101]) = true → lookI (setTexts t) v.type_.text.toList < 0 → ¬ lookI (kindTexts t) v.type_.text.toList < 0
theorem names_fine {t : PTree} (h : firstI (givenI t) (usedI t) < 0) : NamesFine t := by
 rw [given_note, used_note, first_notes] at h
 have e := noteL_none h
 have no : ∀ y, y ∉ (flagAt (dG (globalsL t)) (globalsL t) 0 ++ flagAt (dR (globalsL t)) (t.rules ++ t.nevers) 0) ++ (flagAt (uV t) t.vars 0 ++ flagAt (uR t) (t.rules ++ t.nevers) 0) := fun y => by rw [e]; simp
 refine ⟨?_, ?_, ?_, ?_, ?_⟩
 ·intro i j hij hi hj e
  exact no _ (List.mem_append_left _ (List.mem_append_left _ (mem_dG.mpr ⟨i, hi, rfl, j, hij, e⟩)))
 ·intro r hr p hp x hx e
  obtain ⟨i, hi, rfl⟩ := List.getElem_of_mem hr
  obtain ⟨k, hk, rfl⟩ := List.getElem_of_mem hp
  refine no (t.rules ++ t.nevers)[i].params[k].name (List.mem_append_left _ (List.mem_append_right _ ((mem_flagAt _ _).mpr ⟨i, hi, ?_⟩)))
  unfold dR
  refine (mem_flagAt _ _).mpr ⟨k, hk, ?_⟩
  unfold dP
  refine List.mem_append_left _ ((mem_flagC (g := fun y : Tok => flagB (y.text.toList == _) _) _).mpr ⟨x, hx, ?_⟩)
  rw [mem_flagB, beq_iff_eq]
  exact ⟨e, rfl⟩
 ·intro r hr p hp hlt
  obtain ⟨i, hi, rfl⟩ := List.getElem_of_mem hr
  obtain ⟨k, hk, rfl⟩ := List.getElem_of_mem hp
  refine no (t.rules ++ t.nevers)[i].params[k].set_ (List.mem_append_right _ (List.mem_append_right _ ((mem_flagAt _ _).mpr ⟨i, hi, ?_⟩)))
  unfold uR
  refine List.mem_append_left _ ((mem_flagAt _ _).mpr ⟨k, hk, ?_⟩)
  unfold uP
  rw [mem_flagB, decide_eq_true_eq]
  exact ⟨hlt, rfl⟩
 ·intro v hv hk hlt
  obtain ⟨i, hi, rfl⟩ := List.getElem_of_mem hv
  refine no t.vars[i].over (List.mem_append_right _ (List.mem_append_left _ ((mem_flagAt _ _).mpr ⟨i, hi, ?_⟩)))
  unfold uV
  rw [List.mem_append, mem_flagB, Bool.and_eq_true, decide_eq_true_eq]
  exact Or.inl ⟨⟨hk, hlt⟩, rfl⟩
 ·intro v hv hk hlt hlt2
  obtain ⟨i, hi, rfl⟩ := List.getElem_of_mem hv
  refine no t.vars[i].type_ (List.mem_append_right _ (List.mem_append_left _ ((mem_flagAt _ _).mpr ⟨i, hi, ?_⟩)))
  unfold uV
  refine List.mem_append_right _ (mem_flagB.mpr ⟨?_, rfl⟩)
  rw [Bool.and_eq_true, Bool.and_eq_true, decide_eq_true_eq, decide_eq_true_eq]
  exact ⟨⟨hk, hlt⟩, hlt2⟩

theorem look_of {t : PTree} (h : NamesFine t) {x : Tok × Ent} (hx : x ∈ globE (mdOf t)) : lookT (gatherT (mdOf t)) x.1.text.toList = { x.2 with place := x.1.at_ } := by
 rw [look_gather]
 obtain ⟨i, hi, rfl⟩ := List.getElem_of_mem hx
 rcases findE_cases (globE (mdOf t)) (globE (mdOf t))[i].1.text.toList with ⟨_, hn⟩ | ⟨j, hj, h1, h2, e⟩
 ·exact (hn _ (List.getElem_mem hi) rfl).elim
 ·have hle : j ≤ i := by
   apply Classical.byContradiction
   intro hc
   exact h2 i (by omega) rfl
  by_cases hne : j = i
  ·subst hne; exact e
  ·have := h.uniq i j (by omega) (by rw [← globE_len]; exact hi) (by rw [← globE_len]; exact hj)
   rw [← globE_at t hj, ← globE_at t hi] at this
   exact (this h1).elim
theorem look_var {t : PTree} (h : NamesFine t) (s : List UInt8) : ((lookT (gatherT (mdOf t)) s).role = 4 ↔ 0 ≤ lookI (varTexts t) s) ∧ (0 ≤ lookI (varTexts t) s → ∃ hi : (lookI (varTexts t) s).toNat < t.vars.length, (lookT (gatherT (mdOf t)) s).var = vrOf t.vars[(lookI (varTexts t) s).toNat]) := by
 have back : 0 ≤ lookI (varTexts t) s → (lookT (gatherT (mdOf t)) s).role = 4 ∧ ∃ hi : (lookI (varTexts t) s).toNat < t.vars.length, (lookT (gatherT (mdOf t)) s).var = vrOf t.vars[(lookI (varTexts t) s).toNat] := by
  intro h0
  obtain ⟨hi, he⟩ := lookI_pos h0
  have hi' : (lookI (varTexts t) s).toNat < t.vars.length := by simpa [varTexts] using hi
  have he' : (t.vars[(lookI (varTexts t) s).toNat]).name.text.toList = s := by
   have : (varTexts t)[(lookI (varTexts t) s).toNat] = (t.vars[(lookI (varTexts t) s).toNat]).name.text := by simp [varTexts]
   rw [← this]; exact he
  have := look_of h (varE_mem (List.getElem_mem hi'))
  simp only [he'] at this
  rw [this]
  exact ⟨rfl, hi', rfl⟩
 refine ⟨⟨?_, fun h0 => (back h0).1⟩, fun h0 => (back h0).2⟩
 intro hr
 rw [look_gather] at hr
 rcases findE_cases (globE (mdOf t)) s with ⟨e, _⟩ | ⟨j, hj, g1, g2, e⟩
 ·rw [e] at hr; cases hr
 ·rw [e] at hr
  simp only at hr
  rcases globE_role _ _ (List.getElem_mem hj) with g | g | g | g | g | g
  ·have := g.1; omega
  ·have := g.1; omega
  ·have := g.1; omega
  ·obtain ⟨_, v, hv, ek, _⟩ := g
   have hv2 : v ∈ t.vars.map vrOf := hv
   obtain ⟨v0, hv0, rfl⟩ := List.mem_map.mp hv2
   apply Classical.byContradiction
   intro hc
   exact (lookI_neg (varTexts t) s).mp (by omega) v0.name.text (List.mem_map_of_mem (f := fun s : PVar => s.name.text) hv0) (by rw [← g1, ek]; rfl)
  ·have := g.1; omega
  ·have := g.1; omega
theorem look_novar (t : PTree) (s : List UInt8) (h : ¬ (lookT (gatherT (mdOf t)) s).role = 4) : (lookT (gatherT (mdOf t)) s).var.arr = false := by
 have all : ∀ x ∈ globE (mdOf t), ¬ x.2.role = 4 → x.2.var.arr = false := by
  intro x hx hr
  unfold globE at hx
  simp only [List.mem_append, List.mem_flatMap] at hx
  rcases hx with ⟨q, hq, hx⟩ | ⟨q, hq, hx⟩ | ⟨q, hq, hx⟩ | ⟨q, hq, hx⟩ | ⟨q, hq, hx⟩
  ·unfold entS at hx; rw [List.mem_singleton] at hx; subst hx; rfl
  ·unfold entK at hx
   rw [List.mem_cons, List.mem_map] at hx
   rcases hx with rfl | ⟨y, hy, rfl⟩ <;> rfl
  ·unfold entVr at hx; rw [List.mem_singleton] at hx; subst hx; exact (hr rfl).elim
  ·unfold entRu at hx; rw [List.mem_singleton] at hx; subst hx; rfl
  ·unfold entNv at hx; rw [List.mem_singleton] at hx; subst hx; rfl
 rw [look_gather] at h ⊢
 rcases findE_cases (globE (mdOf t)) s with ⟨e, _⟩ | ⟨j, hj, g1, g2, e⟩
 ·rw [e]; rfl
 ·rw [e] at h ⊢
  exact all _ (List.getElem_mem hj) h
end Go.Proofs.YtpmcnonmkghokaaGreatDoor
namespace Go.Proofs.YtpmcnonmkghokaaGreatDoor
open Go.RowKit
def XFull : PX → Prop
 | .nil => True
 | .node _ _ x a c => ((5 ≤ opN x.op.toList → isNil a = false) ∧ (6 ≤ opN x.op.toList → isNil c = false)) ∧ XFull a ∧ XFull c
def typT (tab : Tab) (l : List PP) : PX → VT
 | .nil => noVT
 | .node _ _ x a c =>
  if (opN x.op.toList == 0 || opN x.op.toList == 1) then ⟨1, ⟨#[]⟩⟩ else if opN x.op.toList == 3 then ⟨2, ⟨#[]⟩⟩ else if opN x.op.toList == 2 then ⟨5, ⟨#[]⟩⟩
  else if opN x.op.toList == 4 then tplT tab l x.name x.index else if opN x.op.toList == 5 then makesT 1 ((typT tab l a).fam == 1) else binT (opN x.op.toList) (typT tab l a) (typT tab l c)
def setT (tab : Tab) (l : List PP) (p v : PX) : Bool := ((lookT tab (nameOfX p).toList).role == 4) && (sameT (typT tab l p) (typT tab l v) || ((typT tab l p).fam == 4 && (typT tab l v).fam == 5))
def blkT (tab : Tab) (l : List PP) : PB → Bool
 | .nil => true
 | .node _ _ a .nil n => setT tab l a.place a.value && blkT tab l n
 | .node _ _ a (.node _ _ _ t e) n => (((typT tab l a.cond).fam == 1 && blkT tab l t) && blkT tab l e) && blkT tab l n
def BFull : PB → Prop
 | .nil => True
 | .node _ _ a .nil n => (XFull a.value ∧ isNil a.value = false ∧ ∃ x, a.place = .node 0 0 x .nil .nil ∧ x.op.toList = [112, 108, 97, 99, 101]) ∧ BFull n
 | .node _ _ a (.node _ _ _ t e) n => (XFull a.cond ∧ isNil a.cond = false) ∧ BFull t ∧ BFull e ∧ BFull n
def ruleT (tab : Tab) (r : PRule) : Bool := (typT tab r.params r.guard).fam == 1 && blkT tab r.params r.body
def nevT (tab : Tab) (r : PRule) : Bool := (typT tab r.params r.guard).fam == 1
def typesT (tab : Tab) (m : MdL) : Bool := m.rules.all (ruleT tab) && m.nevers.all (nevT tab)

end Go.Proofs.YtpmcnonmkghokaaGreatDoor
namespace Go.Proofs.YtpmcnonmkghokaaGreatDoor
open Go.RowKit
theorem binOps_cases {o : List UInt8} (h : o ∈ binOps) : o = [124] ∨ o = [38] ∨ o = [61, 61] ∨ o = [33, 61] ∨ o = [60] ∨ o = [43] ∨ o = [45] := by
 unfold binOps at h
 simpa using h
theorem XWell.full : ∀ {x : PX}, XWell x → XFull x
 | .nil, h => trivial
 | .node _ _ x a c, h => by
  rcases h with ⟨h1, rfl, rfl⟩ | ⟨h1, h2, rfl⟩ | ⟨h1, h2, h3⟩
  ·refine ⟨⟨fun h5 => ?_, fun h5 => ?_⟩, trivial, trivial⟩ <;> (exfalso; rcases h1 with (h1 | h1 | h1) | ⟨h1, _⟩ | ⟨h1, _⟩ <;> rw [h1] at h5 <;> revert h5 <;> decide)
  ·refine ⟨⟨fun _ => h2.some, fun h5 => ?_⟩, h2.full, trivial⟩
   exfalso; rw [h1] at h5; revert h5; decide
  ·exact ⟨⟨fun _ => h2.some, fun _ => h3.some⟩, h2.full, h3.full⟩

end Go.Proofs.YtpmcnonmkghokaaGreatDoor

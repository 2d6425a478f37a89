/-
  The statements without the document's answer: pick, mutex, awake.
  What would tell members apart is refused: Ordered, at all its texts.
  The closed facts of Ordered's row.
  What would tell members of a set apart is refused: for every two raw numbers Ordered returns true. No condition.
-/
import Derived.Test.YtpmcnonmkghokaaGreatDoorT27
import Derived.Test.YtpmcnonmkghokaaGreatDoorRows
import Derived.ProofKit
import Derived.JoinedOf
import Derived.Test.YtpmcnonmkghokaaGreatDoorCards
import Derived.Test.YtpmcnonmkghokaaGreatDoorTie
import Derived.LaidMore
import Derived.OpenShut
import Derived.Stop.Joined
import Derived.SevenTiedAt
set_option linter.unusedVariables false
set_option linter.unusedSimpArgs false
namespace Go.Proofs.YtpmcnonmkghokaaGreatDoor
open Go.RowKit
attribute [local go_sem ↓] Go.wp_at_zero Go.wp_at_succ
set_option maxRecDepth 100000 in
set_option maxHeartbeats 4000000 in
theorem mutex_true (w : World) : Calls Tryz.prog 39 #[.bool true] w fun e w' => e = .returned (.string mtx) ∧ w' = w := by
  go_enter Tryz.func39, Tryz.ntmps39
  go_wp2
  go_ret
  exact ⟨rfl, rfl⟩

/-- Which of n things a raw number speaks of. -/
def pickN (c : Int) (n : Nat) : Nat := ((if c < 0 then -(c + 1) else c) % n).toNat
set_option maxRecDepth 100000 in
set_option maxHeartbeats 4000000 in
theorem pick_any (c : Int) (n : Nat) (w : World) (h0 : -9223372036854775808 ≤ c) (h1 : c ≤ 9223372036854775807) (hn : 0 < n) (hn2 : n ≤ 1000000) : Calls Tryz.prog 19 #[.int .i64 c, .int .i64 n] w fun e w' => e = .returned (.int .i64 (pickN c n)) ∧ pickN c n < n ∧ w' = w := by
  have hnz : ((n : Int) == 0) = false := by simp; omega
  have hnz' : ¬ ((n : Int) = 0) := by omega
  by_cases hc : c < 0
  · have e : (pickN c n : Int) = (-(c + 1)).tmod n := by
      rw [pickN, if_pos hc, Int.toNat_of_nonneg (Int.emod_nonneg _ (by omega)), Int.tmod_eq_emod_of_nonneg (by omega)]
    have hlt : pickN c n < n := by
      have := Int.emod_lt_of_pos (-(c + 1)) (b := (n : Int)) (by omega)
      have h3 := Int.emod_nonneg (-(c + 1)) (b := (n : Int)) (by omega)
      rw [pickN, if_pos hc]; omega
    have w1 : IntKind.i64.wrap (c + 1) = c + 1 := by rw [IntKind.wrap_i64]; omega
    have w2 : IntKind.i64.wrap (-(c + 1)) = -(c + 1) := by rw [IntKind.wrap_i64]; omega
    have w3 : IntKind.i64.wrap (-1 + -c) = -1 + -c := by rw [IntKind.wrap_i64]; omega
    have w4 : IntKind.i64.wrap ((-(c + 1)).tmod n) = (-(c + 1)).tmod n := by rw [← e, IntKind.wrap_i64]; omega
    have HE := hide e.symm
    have HL := hide hlt
    clear e hlt
    go_enter Tryz.func19, Tryz.ntmps19
    go_wp2
    go_ret
    exact ⟨ret_int (by rw [← unhide HE, Int.neg_tmod]), unhide HL, rfl⟩
  · have e : (pickN c n : Int) = c.tmod n := by
      rw [pickN, if_neg hc, Int.toNat_of_nonneg (Int.emod_nonneg _ (by omega)), Int.tmod_eq_emod_of_nonneg (by omega)]
    have hlt : pickN c n < n := by
      have := Int.emod_lt_of_pos c (b := (n : Int)) (by omega)
      have h3 := Int.emod_nonneg c (b := (n : Int)) (by omega)
      rw [pickN, if_neg hc]; omega
    have w4 : IntKind.i64.wrap (c.tmod n) = c.tmod n := by rw [← e, IntKind.wrap_i64]; omega
    have HE := hide e.symm
    have HL := hide hlt
    clear e hlt
    go_enter Tryz.func19, Tryz.ntmps19
    go_wp2
    go_ret
    exact ⟨ret_int (by rw [← unhide HE, Int.tmod_eq_emod_of_nonneg (by omega)]), unhide HL, rfl⟩

theorem str_eq {a : ByteArray} {l : List UInt8} (h : a.toList = l) (b : ByteArray) (hb : b.toList = l) : a = b := byte_eq (h.trans hb.symm)
set_option maxRecDepth 100000 in
set_option maxHeartbeats 8000000 in
/-- The model is played. -/
theorem awake_any (w : World) : Calls Tryz.prog 15 #[] w fun e w' => e = .returned (.bool true) ∧ Below w.heap.size w w' := by
  obtain ⟨r, hp, h1, h2, h3, h4, h5, h6, h7⟩ := mtx_played
  have htxt : r.1.text = ⟨#[91, 105, 100, 108, 101, 32, 99, 114, 105, 116, 32, 105, 100, 108, 101, 93, 32, 49]⟩ := str_eq h1 _ (by decide +kernel)
  have hel : r.1.enabled.length = 3 := by have := congrArg List.length h2; simpa using this
  have he2 : r.1.enabled[2]? = some ⟨#[112, 117, 116, 40, 49, 41]⟩ := by
    have h9 : (r.1.enabled.map (·.toList))[2]? = some [112, 117, 116, 40, 49, 41] := by rw [h2]; rfl
    rw [List.getElem?_map] at h9
    obtain ⟨x, hx, hx2⟩ := Option.map_eq_some_iff.mp h9
    rw [hx, str_eq hx2 ⟨#[112, 117, 116, 40, 49, 41]⟩ (by decide +kernel)]
  have HMT := hide mutex_true
  have HC1 := hide (fun wx => (show Calls Tryz.prog 16 #[.string mtx] wx fun e w' => e = .returned (.tuple #[.int .i64 0, .int .i64 0]) ∧ Below wx.heap.size wx w' from by have := check_any mtx wx; rw [mtx_check] at this; exact this))
  have HC2 := hide (fun wx => (show Calls Tryz.prog 16 #[.string ⟨#[115, 101, 116, 32, 112, 32, 52, 59]⟩] wx fun e w' => e = .returned (.tuple #[.int .i64 3, .int .i64 8]) ∧ Below wx.heap.size wx w' from by have := check_any setFour wx; rw [four_check] at this; exact this))
  have HPL := hide (fun (wx : World) (pa : Option Addr) (pn pc : Nat) (ho : wx.ownsRow 0 9 1 (.slice pa pn pc) 2 [.string askOne, .string getOne]) => play_any mtx wx [askOne, getOne] pa pn pc ho (by simp) r hp)
  clear hp h1 h2
  generalize mtx = mm at *
  go_enter Tryz.func15, Tryz.ntmps15
  go_wp2_with fail
  refine ((unhide HMT) _).mono ?_
  rintro e w0 ⟨rfl, rfl⟩
  go_wp2_with fail
  refine ((unhide HC1) _).mono ?_
  rintro e w1 ⟨rfl, hb1⟩
  have HB1 := hide hb1
  have hs1 := hb1.size
  clear hb1
  go_wp2_with fail
  refine ((unhide HC2) _).mono ?_
  rintro e w2 ⟨rfl, hb2⟩
  have HB2 := hide ((unhide HB1).trans (hb2.mono hs1))
  have hs2 := hb2.size
  clear hb2
  go_wp2_with fail
  refine ((unhide HMT) _).mono ?_
  rintro e w3 ⟨rfl, rfl⟩
  have HST := hide (show (w3.alloc (.cells #[.string ⟨#[97, 115, 107, 40, 49, 41]⟩, .string ⟨#[103, 101, 116, 40, 49, 41]⟩] 9)).ownsRow 0 9 1 (.slice (some ⟨w3.heap.size, 0, none⟩) 2 2) 2 [.string askOne, .string getOne] from ⟨rfl, Or.inr ⟨w3.heap.size, 2, _, rfl, Nat.zero_le _, alloc_new _ _, Nat.le_refl _, by unfold maxLen; omega, rfl, rfl⟩⟩)
  have HB3 := hide ((unhide HB2).alloc (by omega) (.cells #[.string ⟨#[97, 115, 107, 40, 49, 41]⟩, .string ⟨#[103, 101, 116, 40, 49, 41]⟩] 9))
  go_wp2_with fail
  refine ((unhide HPL) _ _ _ _ (unhide HST)).mono ?_
  rintro e w4 ⟨ea, en, ec, wa, wn, wc, ba, bn, bc, rfl, hp1, hp2, hp3, hb4⟩
  rw [h3] at hp2
  rw [h4] at hp3
  rw [h5, h6, h7, htxt]
  obtain ⟨za, zc, ez, hv⟩ := own_viewB hp1
  injection ez with ez1 ez2 ez3
  subst ez1; subst ez2; subst ez3
  obtain ⟨g, rfl, hg1, hg2, hc⟩ := hv 2 (by omega)
  have e2 : w4.cell? ⟨g, 2, none⟩ = some (.string ⟨#[112, 117, 116, 40, 49, 41]⟩) := by rw [hc 2 (by omega), List.getElem?_map, he2]; rfl
  obtain ⟨za, zc, ez, _⟩ := own_viewB hp2
  injection ez with ez1 ez2 ez3
  subst ez1; subst ez2; subst ez3
  obtain ⟨za, zc, ez, _⟩ := own_viewB hp3
  injection ez with ez1 ez2 ez3
  subst ez1; subst ez2; subst ez3
  rw [hel]
  have hs4 := hb4.size
  have HB4 := hide ((unhide HB3).trans (hb4.mono (by simp; omega)))
  clear hp1 hp2 hp3 hb4 hc hv HPL HC1 HC2 HMT
  simp only [List.length_nil]
  go_wp2
  go_ret
  exact ⟨rfl, (unhide HB4).alloc (by simp at hs4; omega) _⟩

end Go.Proofs.YtpmcnonmkghokaaGreatDoor
namespace Go.Proofs.YtpmcnonmkghokaaGreatDoor
open Go.RowKit
attribute [local go_sem ↓] Go.wp_at_zero Go.wp_at_succ
def ordL : List ByteArray := [⟨#[105, 32, 60, 32, 106]⟩, ⟨#[105, 32, 61, 61, 32, 49]⟩, ⟨#[118, 32, 60, 32, 105]⟩, ⟨#[105, 32, 43, 32, 49, 32, 61, 61, 32, 50]⟩, ⟨#[33, 105]⟩, ⟨#[118, 32, 38, 32, 116, 114, 117, 101]⟩, ⟨#[110, 91, 105, 93, 32, 61, 61, 32, 105]⟩, ⟨#[118, 32, 61, 61, 32, 110]⟩, ⟨#[110, 111, 110, 101, 32, 61, 61, 32, 110, 111, 110, 101]⟩, ⟨#[110, 111, 110, 101]⟩, ⟨#[105]⟩, ⟨#[110]⟩, ⟨#[119, 91, 105, 93]⟩, ⟨#[110, 91, 119, 93, 32, 61, 61, 32, 48]⟩, ⟨#[110, 91, 107, 93, 32, 61, 61, 32, 48]⟩, ⟨#[118, 32, 61, 61, 32, 107]⟩, ⟨#[105, 32, 61, 61, 32, 107]⟩, ⟨#[120, 32, 61, 61, 32, 110, 111, 110, 101]⟩, ⟨#[48, 32, 61, 61, 32, 110, 111, 110, 101]⟩, ⟨#[110, 91, 120, 93, 32, 61, 61, 32, 48]⟩, ⟨#[105, 32, 33, 61, 32, 119]⟩]
def ordM : List ByteArray := [⟨#[118, 32, 61, 32, 49, 59]⟩, ⟨#[110, 91, 105, 93, 32, 61, 32, 105, 59]⟩, ⟨#[105, 32, 61, 32, 118, 59]⟩, ⟨#[118, 32, 61, 32, 107, 59]⟩, ⟨#[118, 32, 61, 32, 119, 59]⟩, ⟨#[110, 32, 61, 32, 49, 59]⟩, ⟨#[107, 32, 61, 32, 107, 59]⟩, ⟨#[110, 91, 119, 93, 32, 61, 32, 49, 59]⟩, ⟨#[120, 32, 61, 32, 110, 111, 110, 101, 59]⟩, ⟨#[110, 91, 105, 93, 32, 61, 32, 110, 111, 110, 101, 59]⟩, ⟨#[120, 32, 61, 32, 118, 59]⟩, ⟨#[119, 32, 61, 32, 118, 59]⟩]
def ordS : ByteArray := ⟨#[115, 101, 116, 32, 115, 32, 50, 59, 32, 115, 101, 116, 32, 116, 32, 50, 59, 32, 107, 105, 110, 100, 32, 113, 32, 123, 32, 107, 44, 32, 104, 32, 125, 32, 118, 97, 114, 32, 110, 32, 58, 32, 91, 115, 93, 32, 116, 111, 32, 50, 59, 32, 118, 97, 114, 32, 118, 32, 58, 32, 115, 59, 32, 118, 97, 114, 32, 119, 32, 58, 32, 116, 59, 32, 118, 97, 114, 32, 120, 32, 58, 32, 116, 111, 32, 49, 59, 32, 114, 117, 108, 101, 32, 114, 40, 105, 32, 58, 32, 115, 44, 32, 106, 32, 58, 32, 115, 41, 32, 105, 102, 32]⟩
def ordG : ByteArray := ⟨#[105, 32, 33, 61, 32, 106, 32, 38, 32, 118, 32, 61, 61, 32, 105, 32, 38, 32, 118, 32, 33, 61, 32, 110, 111, 110, 101, 32, 38, 32, 119, 32, 61, 61, 32, 110, 111, 110, 101, 32, 38, 32, 110, 91, 118, 93, 32, 61, 61, 32, 120, 32, 123, 32, 118, 32, 61, 32, 106, 59, 32, 118, 32, 61, 32, 110, 111, 110, 101, 59, 32, 110, 91, 105, 93, 32, 61, 32, 120, 59, 32, 120, 32, 61, 32, 110, 91, 106, 93, 59, 32, 119, 32, 61, 32, 110, 111, 110, 101, 59, 32, 125]⟩
set_option maxRecDepth 1000000 in
theorem ordL_all : (ordL.all fun g => (chkC ((ordS ++ g) ++ ⟨#[32, 123, 32, 125]⟩)).1 == 6 && (chkC ((ordS ++ g) ++ ⟨#[32, 123, 32, 125]⟩)).2 == 0 && decide (g.size ≤ 100)) = true := by decide +kernel
set_option maxRecDepth 1000000 in
theorem ordM_all : (ordM.all fun b => (chkC (((ordS ++ ⟨#[116, 114, 117, 101, 32, 123, 32]⟩) ++ b) ++ ⟨#[32, 125]⟩)).1 == 6 && (chkC (((ordS ++ ⟨#[116, 114, 117, 101, 32, 123, 32]⟩) ++ b) ++ ⟨#[32, 125]⟩)).2 == 0 && decide (b.size ≤ 100)) = true := by decide +kernel
set_option maxRecDepth 1000000 in
theorem ordG_ok : chkC (ordS ++ ordG) = (0, 0) := by decide +kernel
theorem ordL_at (k : Nat) (hk : k < 21) : ∃ g, ordL[k]? = some g ∧ chkC ((ordS ++ g) ++ ⟨#[32, 123, 32, 125]⟩) = (6, 0) ∧ g.size ≤ 100 := by
  have hl : k < ordL.length := hk
  have := List.all_eq_true.1 ordL_all ordL[k] (List.getElem_mem hl)
  simp only [Bool.and_eq_true, beq_iff_eq, decide_eq_true_eq] at this
  exact ⟨_, List.getElem?_eq_getElem hl, Prod.ext this.1.1 this.1.2, this.2⟩
theorem ordM_at (k : Nat) (hk : k < 12) : ∃ b, ordM[k]? = some b ∧ chkC (((ordS ++ ⟨#[116, 114, 117, 101, 32, 123, 32]⟩) ++ b) ++ ⟨#[32, 125]⟩) = (6, 0) ∧ b.size ≤ 100 := by
  have hl : k < ordM.length := hk
  have := List.all_eq_true.1 ordM_all ordM[k] (List.getElem_mem hl)
  simp only [Bool.and_eq_true, beq_iff_eq, decide_eq_true_eq] at this
  exact ⟨_, List.getElem?_eq_getElem hl, Prod.ext this.1.1 this.1.2, this.2⟩
theorem ordL_row : #[.string ⟨#[105, 32, 60, 32, 106]⟩, .string ⟨#[105, 32, 61, 61, 32, 49]⟩, .string ⟨#[118, 32, 60, 32, 105]⟩, .string ⟨#[105, 32, 43, 32, 49, 32, 61, 61, 32, 50]⟩, .string ⟨#[33, 105]⟩, .string ⟨#[118, 32, 38, 32, 116, 114, 117, 101]⟩, .string ⟨#[110, 91, 105, 93, 32, 61, 61, 32, 105]⟩, .string ⟨#[118, 32, 61, 61, 32, 110]⟩, .string ⟨#[110, 111, 110, 101, 32, 61, 61, 32, 110, 111, 110, 101]⟩, .string ⟨#[110, 111, 110, 101]⟩, .string ⟨#[105]⟩, .string ⟨#[110]⟩, .string ⟨#[119, 91, 105, 93]⟩, .string ⟨#[110, 91, 119, 93, 32, 61, 61, 32, 48]⟩, .string ⟨#[110, 91, 107, 93, 32, 61, 61, 32, 48]⟩, .string ⟨#[118, 32, 61, 61, 32, 107]⟩, .string ⟨#[105, 32, 61, 61, 32, 107]⟩, .string ⟨#[120, 32, 61, 61, 32, 110, 111, 110, 101]⟩, .string ⟨#[48, 32, 61, 61, 32, 110, 111, 110, 101]⟩, .string ⟨#[110, 91, 120, 93, 32, 61, 61, 32, 48]⟩, .string ⟨#[105, 32, 33, 61, 32, 119]⟩] = (ordL.map Value.string).toArray := rfl
theorem ordM_row : #[.string ⟨#[118, 32, 61, 32, 49, 59]⟩, .string ⟨#[110, 91, 105, 93, 32, 61, 32, 105, 59]⟩, .string ⟨#[105, 32, 61, 32, 118, 59]⟩, .string ⟨#[118, 32, 61, 32, 107, 59]⟩, .string ⟨#[118, 32, 61, 32, 119, 59]⟩, .string ⟨#[110, 32, 61, 32, 49, 59]⟩, .string ⟨#[107, 32, 61, 32, 107, 59]⟩, .string ⟨#[110, 91, 119, 93, 32, 61, 32, 49, 59]⟩, .string ⟨#[120, 32, 61, 32, 110, 111, 110, 101, 59]⟩, .string ⟨#[110, 91, 105, 93, 32, 61, 32, 110, 111, 110, 101, 59]⟩, .string ⟨#[120, 32, 61, 32, 118, 59]⟩, .string ⟨#[119, 32, 61, 32, 118, 59]⟩] = (ordM.map Value.string).toArray := rfl

set_option maxRecDepth 100000 in
set_option maxHeartbeats 8000000 in
theorem ordered_any (c d : Int) (w : World) (hc0 : -9223372036854775808 ≤ c) (hc1 : c ≤ 9223372036854775807) (hd0 : -9223372036854775808 ≤ d) (hd1 : d ≤ 9223372036854775807) : Calls Tryz.prog 6 #[.int .i64 c, .int .i64 d] w fun e w' => e = .returned (.bool true) ∧ Below w.heap.size w w' := by
  have HPC := hide (fun wx => pick_any c 21 wx hc0 hc1 (by omega) (by omega))
  have HPD := hide (fun wx => pick_any d 12 wx hd0 hd1 (by omega) (by omega))
  go_enter Tryz.func6, Tryz.ntmps6
  go_wp2_with fail
  refine (awake_any w).mono ?_
  rintro e w1 ⟨rfl, hb1⟩
  have hs1 := hb1.size
  obtain ⟨W, hW⟩ : ∃ W, W = (w1.alloc (.cells #[.string ⟨#[105, 32, 60, 32, 106]⟩, .string ⟨#[105, 32, 61, 61, 32, 49]⟩, .string ⟨#[118, 32, 60, 32, 105]⟩, .string ⟨#[105, 32, 43, 32, 49, 32, 61, 61, 32, 50]⟩, .string ⟨#[33, 105]⟩, .string ⟨#[118, 32, 38, 32, 116, 114, 117, 101]⟩, .string ⟨#[110, 91, 105, 93, 32, 61, 61, 32, 105]⟩, .string ⟨#[118, 32, 61, 61, 32, 110]⟩, .string ⟨#[110, 111, 110, 101, 32, 61, 61, 32, 110, 111, 110, 101]⟩, .string ⟨#[110, 111, 110, 101]⟩, .string ⟨#[105]⟩, .string ⟨#[110]⟩, .string ⟨#[119, 91, 105, 93]⟩, .string ⟨#[110, 91, 119, 93, 32, 61, 61, 32, 48]⟩, .string ⟨#[110, 91, 107, 93, 32, 61, 61, 32, 48]⟩, .string ⟨#[118, 32, 61, 61, 32, 107]⟩, .string ⟨#[105, 32, 61, 61, 32, 107]⟩, .string ⟨#[120, 32, 61, 61, 32, 110, 111, 110, 101]⟩, .string ⟨#[48, 32, 61, 61, 32, 110, 111, 110, 101]⟩, .string ⟨#[110, 91, 120, 93, 32, 61, 61, 32, 48]⟩, .string ⟨#[105, 32, 33, 61, 32, 119]⟩] 9)).alloc (.cells #[.string ⟨#[118, 32, 61, 32, 49, 59]⟩, .string ⟨#[110, 91, 105, 93, 32, 61, 32, 105, 59]⟩, .string ⟨#[105, 32, 61, 32, 118, 59]⟩, .string ⟨#[118, 32, 61, 32, 107, 59]⟩, .string ⟨#[118, 32, 61, 32, 119, 59]⟩, .string ⟨#[110, 32, 61, 32, 49, 59]⟩, .string ⟨#[107, 32, 61, 32, 107, 59]⟩, .string ⟨#[110, 91, 119, 93, 32, 61, 32, 49, 59]⟩, .string ⟨#[120, 32, 61, 32, 110, 111, 110, 101, 59]⟩, .string ⟨#[110, 91, 105, 93, 32, 61, 32, 110, 111, 110, 101, 59]⟩, .string ⟨#[120, 32, 61, 32, 118, 59]⟩, .string ⟨#[119, 32, 61, 32, 118, 59]⟩] 9) := ⟨_, rfl⟩
  have hbW : Below w.heap.size w W := by rw [hW]; exact (hb1.alloc hs1 _).alloc (by simp; omega) _
  have hsW : w1.heap.size + 1 < W.heap.size := by rw [hW]; simp
  have hL : W.heap[w1.heap.size]? = some (.cells #[.string ⟨#[105, 32, 60, 32, 106]⟩, .string ⟨#[105, 32, 61, 61, 32, 49]⟩, .string ⟨#[118, 32, 60, 32, 105]⟩, .string ⟨#[105, 32, 43, 32, 49, 32, 61, 61, 32, 50]⟩, .string ⟨#[33, 105]⟩, .string ⟨#[118, 32, 38, 32, 116, 114, 117, 101]⟩, .string ⟨#[110, 91, 105, 93, 32, 61, 61, 32, 105]⟩, .string ⟨#[118, 32, 61, 61, 32, 110]⟩, .string ⟨#[110, 111, 110, 101, 32, 61, 61, 32, 110, 111, 110, 101]⟩, .string ⟨#[110, 111, 110, 101]⟩, .string ⟨#[105]⟩, .string ⟨#[110]⟩, .string ⟨#[119, 91, 105, 93]⟩, .string ⟨#[110, 91, 119, 93, 32, 61, 61, 32, 48]⟩, .string ⟨#[110, 91, 107, 93, 32, 61, 61, 32, 48]⟩, .string ⟨#[118, 32, 61, 61, 32, 107]⟩, .string ⟨#[105, 32, 61, 61, 32, 107]⟩, .string ⟨#[120, 32, 61, 61, 32, 110, 111, 110, 101]⟩, .string ⟨#[48, 32, 61, 61, 32, 110, 111, 110, 101]⟩, .string ⟨#[110, 91, 120, 93, 32, 61, 61, 32, 48]⟩, .string ⟨#[105, 32, 33, 61, 32, 119]⟩] 9 (0, 0)) := by rw [hW]; exact alloc_row (alloc_new _ _)
  have hM : W.heap[w1.heap.size + 1]? = some (.cells #[.string ⟨#[118, 32, 61, 32, 49, 59]⟩, .string ⟨#[110, 91, 105, 93, 32, 61, 32, 105, 59]⟩, .string ⟨#[105, 32, 61, 32, 118, 59]⟩, .string ⟨#[118, 32, 61, 32, 107, 59]⟩, .string ⟨#[118, 32, 61, 32, 119, 59]⟩, .string ⟨#[110, 32, 61, 32, 49, 59]⟩, .string ⟨#[107, 32, 61, 32, 107, 59]⟩, .string ⟨#[110, 91, 119, 93, 32, 61, 32, 49, 59]⟩, .string ⟨#[120, 32, 61, 32, 110, 111, 110, 101, 59]⟩, .string ⟨#[110, 91, 105, 93, 32, 61, 32, 110, 111, 110, 101, 59]⟩, .string ⟨#[120, 32, 61, 32, 118, 59]⟩, .string ⟨#[119, 32, 61, 32, 118, 59]⟩] 9 (0, 0)) := by
    rw [hW]
    have := alloc_new (w1.alloc (.cells #[.string ⟨#[105, 32, 60, 32, 106]⟩, .string ⟨#[105, 32, 61, 61, 32, 49]⟩, .string ⟨#[118, 32, 60, 32, 105]⟩, .string ⟨#[105, 32, 43, 32, 49, 32, 61, 61, 32, 50]⟩, .string ⟨#[33, 105]⟩, .string ⟨#[118, 32, 38, 32, 116, 114, 117, 101]⟩, .string ⟨#[110, 91, 105, 93, 32, 61, 61, 32, 105]⟩, .string ⟨#[118, 32, 61, 61, 32, 110]⟩, .string ⟨#[110, 111, 110, 101, 32, 61, 61, 32, 110, 111, 110, 101]⟩, .string ⟨#[110, 111, 110, 101]⟩, .string ⟨#[105]⟩, .string ⟨#[110]⟩, .string ⟨#[119, 91, 105, 93]⟩, .string ⟨#[110, 91, 119, 93, 32, 61, 61, 32, 48]⟩, .string ⟨#[110, 91, 107, 93, 32, 61, 61, 32, 48]⟩, .string ⟨#[118, 32, 61, 61, 32, 107]⟩, .string ⟨#[105, 32, 61, 61, 32, 107]⟩, .string ⟨#[120, 32, 61, 61, 32, 110, 111, 110, 101]⟩, .string ⟨#[48, 32, 61, 61, 32, 110, 111, 110, 101]⟩, .string ⟨#[110, 91, 120, 93, 32, 61, 61, 32, 48]⟩, .string ⟨#[105, 32, 33, 61, 32, 119]⟩] 9)) (.cells #[.string ⟨#[118, 32, 61, 32, 49, 59]⟩, .string ⟨#[110, 91, 105, 93, 32, 61, 32, 105, 59]⟩, .string ⟨#[105, 32, 61, 32, 118, 59]⟩, .string ⟨#[118, 32, 61, 32, 107, 59]⟩, .string ⟨#[118, 32, 61, 32, 119, 59]⟩, .string ⟨#[110, 32, 61, 32, 49, 59]⟩, .string ⟨#[107, 32, 61, 32, 107, 59]⟩, .string ⟨#[110, 91, 119, 93, 32, 61, 32, 49, 59]⟩, .string ⟨#[120, 32, 61, 32, 110, 111, 110, 101, 59]⟩, .string ⟨#[110, 91, 105, 93, 32, 61, 32, 110, 111, 110, 101, 59]⟩, .string ⟨#[120, 32, 61, 32, 118, 59]⟩, .string ⟨#[119, 32, 61, 32, 118, 59]⟩] 9)
    simp only [World.size_alloc] at this
    exact this
  have HLC := hide (fun (k : Nat) (g : ByteArray) (h : ordL[k]? = some g) => (show W.cell? ⟨w1.heap.size, k, none⟩ = some (.string g) by rw [Lib.cell_of_heap hL, ordL_row]; simp [h]))
  have HMC := hide (fun (k : Nat) (g : ByteArray) (h : ordM[k]? = some g) => (show W.cell? ⟨w1.heap.size + 1, k, none⟩ = some (.string g) by rw [Lib.cell_of_heap hM, ordM_row]; simp [h]))
  have HBW := hide hbW
  have HWE := hide hW.symm
  clear hb1 hbW hW hL hM
  go_wp2_with fail
  rw [unhide HWE]
  refine ((unhide HPC) _).mono ?_
  rintro e w2 ⟨rfl, hk1, rfl⟩
  obtain ⟨g, hg1, hg2, hg3⟩ := ordL_at _ hk1
  have cL := (unhide HLC) _ g hg1
  generalize pickN c 21 = k1 at *
  have HG2 := hide hg2
  clear hg1 hg2 HLC HWE
  go_wp2_with fail
  refine ((unhide HPD) _).mono ?_
  rintro e w3 ⟨rfl, hk2, rfl⟩
  obtain ⟨b, hb1, hb2, hb3⟩ := ordM_at _ hk2
  have cM := (unhide HMC) _ b hb1
  generalize pickN d 12 = k2 at *
  have HM2 := hide hb2
  clear hb1 hb2 HMC
  have HC1 := hide (fun wx => (show Calls Tryz.prog 16 #[.string ((ordS ++ g) ++ ⟨#[32, 123, 32, 125]⟩)] wx fun e w' => e = .returned (.tuple #[.int .i64 6, .int .i64 0]) ∧ Below wx.heap.size wx w' from by have := check_any ((ordS ++ g) ++ ⟨#[32, 123, 32, 125]⟩) wx; rw [unhide HG2] at this; exact this))
  have HC2 := hide (fun wx => (show Calls Tryz.prog 16 #[.string (((ordS ++ ⟨#[116, 114, 117, 101, 32, 123, 32]⟩) ++ b) ++ ⟨#[32, 125]⟩)] wx fun e w' => e = .returned (.tuple #[.int .i64 6, .int .i64 0]) ∧ Below wx.heap.size wx w' from by have := check_any (((ordS ++ ⟨#[116, 114, 117, 101, 32, 123, 32]⟩) ++ b) ++ ⟨#[32, 125]⟩) wx; rw [unhide HM2] at this; exact this))
  have HC3 := hide (fun wx => (show Calls Tryz.prog 16 #[.string (ordS ++ ordG)] wx fun e w' => e = .returned (.tuple #[.int .i64 0, .int .i64 0]) ∧ Below wx.heap.size wx w' from by have := check_any (ordS ++ ordG) wx; rw [ordG_ok] at this; exact this))
  clear HG2 HM2
  go_wp2_with fail
  refine ((unhide HC1) _).mono ?_
  rintro e w4 ⟨rfl, hb4⟩
  have HB4 := hide ((unhide HBW).trans (hb4.mono (unhide HBW).size))
  clear hb4
  go_wp2_with fail
  refine ((unhide HC2) _).mono ?_
  rintro e w5 ⟨rfl, hb5⟩
  have HB5 := hide ((unhide HB4).trans (hb5.mono (unhide HB4).size))
  clear hb5
  go_wp2_with fail
  refine ((unhide HC3) _).mono ?_
  rintro e w6 ⟨rfl, hb6⟩
  have HB6 := hide ((unhide HB5).trans (hb6.mono (unhide HB5).size))
  clear hb6
  go_wp2
  go_ret
  exact ⟨rfl, unhide HB6⟩

end Go.Proofs.YtpmcnonmkghokaaGreatDoor
namespace Go.Proofs.YtpmcnonmkghokaaGreatDoor
set_option maxRecDepth 1000000 in
theorem ordered_closed : joinedFacts Tryz.pinned.checked.prog 6 Tryz.f6 Rows.orderedSpec Rows.orderedRow = true := by kernel_rfl
end Go.Proofs.YtpmcnonmkghokaaGreatDoor
namespace Go.Proofs.YtpmcnonmkghokaaGreatDoor.keep
open Go.ChangeShapes Go.WideShapes Go.ChangeAt Go.RowKit
theorem own : ownKnob Tryz.prog.godebug = none := by kernel_rfl
/-- What the row lists. -/
abbrev laid3 : List (String × DataW Unit) := Rows.orderedRow.laid
set_option maxRecDepth 100000 in
theorem door_met (os : Os) (args : Array Value) : laidMetH Tryz.prog laid3 ((World.doorLaid Tryz.prog 400 os).forCall (fun _ _ => 0) ⟨#[], args, []⟩).memory :=
  laidMetH_of_parts3 (fuel := 8) (laidMet_of_run' 8 (by kernel_rfl) (by kernel_rfl)) (by kernel_rfl) (by kernel_rfl)
/-- Where nothing that was handed in lies in memory, new blocks turn nothing. -/
theorem post_new {H : Type} {enc : TypeId × Value → H} {P : Program} {f : Func} {s : ChangeSpec} {apart fresh handsOn again : Bool} {W W' : World} {args : Array Value} {v : Value} {ds gs : List (DataW H)}
    (hW : DataW.Whole enc P f.params.toList s.vars apart W args.toList ds gs [])
    (hres : ∀ (b : Nat) (sp : Nat → Bool) (hd : Bool), DataW.TrodAll enc P W' b sp hd f.resultTypes.toList (v.resultList f.resultTypes.size) (s.fn H (ds ++ gs)).results [])
    (hargs : ∀ sp : Nat → Bool, DataW.TrodAll enc P W' 0 sp true f.params.toList args.toList (s.fn H (ds ++ gs)).args [])
    (hvars : ∀ sp : Nat → Bool, DataW.TrodVars enc P W' sp s.vars (s.fn H (ds ++ gs)).vars [])
    (hk : Below W.heap.size W W')
    (hok : ∀ (j : Nat) (t : TypeId) (r : Value), f.resultTypes[j]? = some t → (v.resultList f.resultTypes.size)[j]? = some r → Value.okWide P W' .any 0 t r) :
    s.post enc P f apart fresh handsOn again W args v W' := by
  refine ⟨ds, gs, [], [], [], [], hW, hres _ _ _, hargs _, hvars _, World.keptBut_mono (fun p hp => by cases hp) (hk.frame (fun _ => False)), fun _ => ?_⟩
  exact ⟨hok, _, _, [], ⟨[], [], trodAll_append (hargs _) (hres _ _ _), hvars _, rfl, fun b off hp => by simp at hp, fun _ => by simp⟩, fun p hp _ => by simp at hp⟩

set_option maxRecDepth 100000 in
theorem lifted (os : Os) (started : os.Started) (H : Type) (enc : TypeId × Value → H) :
    ReturnsInHanded {} Tryz.checked os 6 .any (fun w args => (Rows.orderedSpec.pre enc Tryz.prog Tryz.f6 [] false w args ∧ laidMetH Tryz.prog laid3 w) ∧ sizedMet enc Tryz.prog Tryz.f6 (OpenSpec.ofChange Rows.orderedSpec) false w args)
      (Rows.orderedSpec.post enc Tryz.prog Tryz.f6 false true false false) := by
  refine returnsInHanded_of_change_and (C := Tryz.checked) (X := fun w _ => laidMetH Tryz.prog laid3 w) (fun _ _ _ hh h => h.of_heap hh) own started (by kernel_rfl) Tryz.func6
    (ChangeSpec.witness_shaped (enc := enc) (C := Tryz.checked) (os := os) (X := fun w _ => laidMetH Tryz.prog laid3 w) false (World.doorLaid Tryz.prog 400 os) #[.int .i64 0, .int .i64 0] 8 rfl (World.shaped_of_RefB (by kernel_rfl) (by kernel_rfl)) (by kernel_rfl) (by kernel_rfl) (by kernel_rfl) (door_met os _)) ?_
  intro W base args ds gs before hval0 hW _ _ hL _
  have hval : ∀ (j : Nat) t v, Tryz.f6.params[j]? = some t → args[j]? = some v → Value.okWide Tryz.prog W .any base t v := hval0
  have hW' := hW
  obtain ⟨p, q, hA0, hV, rfl, hfz, hnd⟩ := hW
  have hA : DataW.TrodAll enc Tryz.prog W 0 (fun _ => true) true Tryz.f6.params.toList args.toList ds p := hA0
  rw [Tryz.params6] at hA hval
  obtain ⟨v0, vs0, d0, ds0, p0, q0, hargs, rfl, rfl, h0, r0⟩ := trodAll_cons hA
  obtain ⟨v1, vs1, d1, ds1, p1, q1, hargs1, rfl, rfl, h1, r1⟩ := trodAll_cons r0
  obtain ⟨rfl, rfl, rfl⟩ := trodAll_nil r1
  subst hargs1
  obtain rfl : args = #[v0, v1] := by cases args; simp_all
  obtain ⟨rfl, rfl⟩ := trodVars_none hV
  obtain ⟨a0, rfl, rfl, rfl, w0⟩ := open_int Tryz.underlying3 (hval 0 3 v0 rfl rfl) h0
  obtain ⟨a1, rfl, rfl, rfl, w1⟩ := open_int Tryz.underlying3 (hval 1 3 v1 rfl rfl) h1
  clear hA0 hval0
  simp only [List.append_nil] at hW'
  have z0 : -9223372036854775808 ≤ a0 ∧ a0 ≤ 9223372036854775807 := by
    obtain ⟨x, y⟩ := Bool.and_eq_true_iff.mp w0
    exact ⟨of_decide_eq_true x, of_decide_eq_true y⟩
  have z1 : -9223372036854775808 ≤ a1 ∧ a1 ≤ 9223372036854775807 := by
    obtain ⟨x, y⟩ := Bool.and_eq_true_iff.mp w1
    exact ⟨of_decide_eq_true x, of_decide_eq_true y⟩
  refine (ordered_any a0 a1 W z0.1 z0.2 z1.1 z1.2).mono fun e W' ⟨he, hg⟩ => ?_
  subst he
  exact ⟨_, rfl, post_new hW' (fun _ _ _ => (trodAll_cons_mk (shut_bool Tryz.underlying4 _) trodAll_mk0)) (fun sp => (trodAll_cons_mk (shut_int Tryz.underlying3 w0) (trodAll_cons_mk (shut_int Tryz.underlying3 w1) trodAll_mk0))) (fun _ => rfl)
    hg (ok_one (by kernel_rfl) rfl (okWide_bool_mk Tryz.underlying4 _))⟩

theorem over : Rows.OrderedSaid :=
  OpenClaim.holds_of_wide 6 Tryz.f6 rfl rfl rfl rfl rfl rfl rfl ⟨rfl, rfl, rfl, rfl, rfl⟩ rfl rfl rfl rfl rfl (by kernel_rfl) Tryz.func6 ordered_closed
    (of_decide_eq_true (by kernel_rfl)) (by unfold Func.isWrapper; first | (rw [if_pos (by decide +kernel)]; kernel_rfl) | (rw [if_neg (by decide +kernel)]; exact ⟨rfl, rfl⟩))
    (fun os started H enc _ => lifted os started H enc)

end Go.Proofs.YtpmcnonmkghokaaGreatDoor.keep
namespace Go.Proofs.YtpmcnonmkghokaaGreatDoor
open Go
theorem ordered_proved : Rows.OrderedCardSaid :=
  Claim7.holds_tied_plain_at .later [] [.data, .data, .data] true (true, "866e42b94a8d35afcd2281c26c94c6bb01422d5ed6fd52653700cd8dee87b256") false
    keep.over (fun _ h => by cases h) (by kernel_rfl) (fun _ h => by cases h) ordered_row_tie rfl ⟨rfl, rfl⟩ (by kernel_rfl) rfl
    (fun f fn hf hfn => by
      obtain rfl : f = 6 := Option.some.inj ((show Tryz.prog.funcNamed "orbits/orbitskeep.Ordered" = some 6 by kernel_rfl).symm.trans hf) |>.symm
      obtain rfl : fn = Tryz.f6 := (Option.some.inj (Tryz.func6.symm.trans hfn)).symm
      exact ⟨by kernel_rfl, fun j t ht => by
        rw [Tryz.params6] at ht
        have hm : t ∈ [3, 3] := by simpa using Array.mem_of_getElem? ht
        have hall : ([3, 3].all fun u => !Tryz.prog.wantsStandIn u) = true := by kernel_rfl
        exact (show Tryz.prog.wantsStandIn t = false by simpa using List.all_eq_true.1 hall t hm)⟩)
    (by kernel_rfl)
end Go.Proofs.YtpmcnonmkghokaaGreatDoor

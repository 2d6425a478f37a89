/-
  Walked, of a model that was not found right.
  Walked, of a model that was found right.
  Walked, of any model and any choices.
  The closed facts of Walked's row.
  Of any model and any choices Walked returns true. No condition.
-/
import Derived.Test.YtpmcnonmkghokaaGreatDoorT26
import Derived.Test.YtpmcnonmkghokaaGreatDoorRows
import Derived.ProofKit
import Derived.JoinedOf
import Derived.Test.YtpmcnonmkghokaaGreatDoorCards
import Derived.Test.YtpmcnonmkghokaaGreatDoorTie
import Derived.LaidMore
import Derived.OpenShut
import Derived.Stop.Joined
import Derived.SevenTiedAt
import Derived.ShutString
import Derived.Carry
set_option linter.unusedVariables false
set_option linter.unusedSimpArgs false
namespace Go.Proofs.YtpmcnonmkghokaaGreatDoor
open Go.RowKit
attribute [local go_sem ↓] Go.wp_at_zero Go.wp_at_succ
set_option maxRecDepth 100000 in
set_option maxHeartbeats 8000000 in
theorem walked_bad (w : World) (s : ByteArray) (ca : Option Addr) (cn cc : Nat) (h : ¬ (chkC s).1 = 0) :
  Calls Tryz.prog 4 #[.string s, .slice ca cn cc] w fun e w' => e = .returned (.bool true) ∧ Below w.heap.size w w' := by
 have HPL := hide (fun (wx : World) => play_any s wx [] none 0 0 (World.ownsRow_nil _ _ _ _) (by simp) (noView, false, (chkC s).1, (chkC s).2) (by unfold playO; rw [if_neg (by rw [beq_iff_eq]; exact h)]))
 have HCK := hide (check_any s)
 have hne : ((chkC s).1 == 0) = false := by rw [beq_eq_false_iff_ne]; exact h
 have HAW := hide awake_any
 have HQU := hide quiet_none
 generalize (chkC s).1 = ce at *
 generalize (chkC s).2 = cp at *
 go_enter Tryz.func4, Tryz.ntmps4
 go_wp2_with fail
 refine ((unhide HAW) _).mono ?_
 rintro e w1 ⟨rfl, hb1⟩
 have HB1 := hide hb1
 have hs1 := hb1.size
 clear hb1 HAW
 go_wp2_with fail
 refine ((unhide HCK) _).mono ?_
 rintro e w2 ⟨rfl, hb2⟩
 have HB2 := hide ((unhide HB1).trans (hb2.mono hs1))
 have hs2 := hb2.size
 clear hb2 HCK HB1
 go_wp2_with fail
 go_loopw [8, 9, 10, 11, 12, 14, 15, 16, 17, 18, 19, 20, 21, 22, 23] (fun x i _ _ _ _ _ _ _ _ _ _ _ _ _ wr => x = .slice none 0 0 ∧ i = .int .i64 0 ∧ Below w.heap.size w wr) (fun _ _ _ _ _ _ _ _ _ _ _ _ _ _ _ _ => 0)
 case atStart => exact ⟨rfl, rfl, unhide HB2⟩
 case round =>
  obtain ⟨rfl, rfl, hb⟩ := hrel
  have HB := hide hb
  have hsz := hb.size
  clear hb
  go_wp2_with fail
  refine ((unhide HPL) _).mono ?_
  rintro e w4 ⟨ea, en, ec, wa, wn, wc, ba, bn, bc, rfl, hp1, hp2, hp3, hb4⟩
  obtain ⟨za, zc, ez, _⟩ := own_viewB hp1
  injection ez with ez1 ez2 ez3
  subst ez1; subst ez2; subst ez3
  obtain ⟨za, zc, ez, _⟩ := own_viewB hp2
  injection ez with ez1 ez2 ez3
  subst ez1; subst ez2; subst ez3
  obtain ⟨za, zc, ez, _⟩ := own_viewB hp3
  injection ez with ez1 ez2 ez3
  subst ez1; subst ez2; subst ez3
  have hs4 := hb4.size
  have HB4 := hide ((unhide HB).trans (hb4.mono hsz))
  clear hp1 hp2 hp3 hb4 HPL HB
  dsimp only [noView]
  simp only [List.length_nil]
  go_wp2_with fail
  refine ((unhide HQU) _ _ _ _ _ _ _).mono ?_
  rintro e w5 ⟨rfl, hb5⟩
  have hs5 := hb5.size
  simp at hs5
  have HB5 := hide (((unhide HB4).alloc (by omega) _).trans (hb5.mono (by simp; omega)))
  clear hb5 HB4 HQU
  go_wp2
  go_ret
  exact ⟨rfl, unhide HB5⟩

end Go.Proofs.YtpmcnonmkghokaaGreatDoor
namespace Go.Proofs.YtpmcnonmkghokaaGreatDoor
open Go.RowKit
attribute [local go_sem ↓] Go.wp_at_zero Go.wp_at_succ
theorem pickN_lt (c : Int) {n : Nat} (hn : 0 < n) : pickN c n < n := by
 unfold pickN
 have h1 := Int.emod_lt_of_pos (if c < 0 then -(c + 1) else c) (b := (n : Int)) (by omega)
 have h2 := Int.emod_nonneg (if c < 0 then -(c + 1) else c) (b := (n : Int)) (by omega)
 omega
def ChoIs (w : World) (ca : Option Addr) (cs : List Int) : Prop := ∀ i (hi : i < cs.length), (∃ g o, ca = some ⟨g, o, none⟩ ∧ g < w.heap.size ∧ w.cell? ⟨g, o + i, none⟩ = some (.int .i64 cs[i])) ∧ -9223372036854775808 ≤ cs[i] ∧ cs[i] ≤ 9223372036854775807
def WkRel (w : World) (a : Mach) (x i : Value) (wr : World) : Prop := ∃ (k : Nat) (l : List ByteArray) (sa : Option Addr) (sn sc : Nat), k ≤ 12 ∧ i = .int .i64 k ∧ x = .slice sa sn sc ∧ l.length = k ∧ wr.ownsRow 0 9 1 (.slice sa sn sc) l.length (l.map Value.string) ∧ (∃ st, runO a l (List.replicate a.size 0) = some st) ∧ Below w.heap.size w wr

set_option maxRecDepth 100000 in
set_option maxHeartbeats 8000000 in
theorem walked_good (w : World) (s : ByteArray) (cs : List Int) (ca : Option Addr) (cc : Nat) (hC : ChoIs w ca cs) (h : (chkC s).1 = 0) (a : Mach) (ha : machO s = some a) (tr : PTree) (hm : MachOf tr a) :
  Calls Tryz.prog 4 #[.string s, .slice ca cs.length cc] w fun e w' => e = .returned (.bool true) ∧ Below w.heap.size w w' := by
 have HPL := hide (fun (wx : World) (l : List ByteArray) (sa : Option Addr) (sn sc : Nat) (ho : wx.ownsRow 0 9 1 (.slice sa sn sc) l.length (l.map Value.string)) (hl : l.length ≤ 1000) (r : MOut) (hr : playO s l = some r) => play_any s wx l sa sn sc ho (by omega) r hr)

 have HWK := hide (fun (l : List ByteArray) (hl : l.length ≤ 50) (st : List Int) (hr : runO a l (List.replicate a.size 0) = some st) => wk_ok h ha hm hl hr)
 have HAW := hide awake_any
 have HWI := hide with_any
 have HPK := hide pick_any
 have HCK := hide (fun wx => (show Calls Tryz.prog 16 #[.string s] wx fun e w' => e = .returned (.tuple #[.int .i64 0, .int .i64 (chkC s).2]) ∧ Below wx.heap.size wx w' from by have := check_any s wx; rw [h] at this; exact this))
 have HC := hide hC
 clear hC hm
 go_enter Tryz.func4, Tryz.ntmps4
 go_wp2_with fail
 refine ((unhide HAW) _).mono ?_
 rintro e w1 ⟨rfl, hb1⟩
 have HB1 := hide hb1
 have hs1 := hb1.size
 clear hb1 HAW
 go_wp2_with fail
 refine ((unhide HCK) _).mono ?_
 rintro e w2 ⟨rfl, hb2⟩
 have HB2 := hide ((unhide HB1).trans (hb2.mono hs1))
 have hs2 := hb2.size
 clear hb2 HCK HB1
 go_wp2_with fail
 go_loopw [8, 9, 10, 11, 12, 14, 15, 16, 17, 18, 19, 20, 21, 22, 23] (fun x i _ _ _ _ _ _ _ _ _ _ _ _ _ wr => WkRel w a x i wr) (fun _ i _ _ _ _ _ _ _ _ _ _ _ _ _ _ => 13 - (intOf i).toNat)
 case atStart => exact ⟨0, [], none, 0, 0, by omega, rfl, rfl, rfl, World.ownsRow_nil _ _ _ _, ⟨_, rfl⟩, unhide HB2⟩
 case round =>
  obtain ⟨k, l, sa, sn, sc, hk, rfl, rfl, hlen, ho, ⟨st, hst⟩, hb⟩ := hrel
  obtain ⟨v, hv1, hv2, hv3, hv4, hv5⟩ := (unhide HWK) l (by omega) st hst
  obtain ⟨za, zc, ez, hq⟩ := own_viewB ho
  clear hq
  injection ez with ez1 ez2 ez3
  subst ez1; subst ez2; subst ez3
  have HB := hide hb
  have hsz := hb.size
  have HO := hide ho
  have HV1 := hide hv1
  have HV2 := hide hv2
  have HV3 := hide hv3
  have HV4 := hide hv4
  subst hlen
  have HV5 := hide hv5
  clear hb ho hv1 hv2 hv3 hv4 hv5 hst HWK
  go_wp2_with fail
  refine ((unhide HPL) _ _ _ _ _ (unhide HO) (by omega) _ (unhide HV1)).mono ?_
  rintro e w4 ⟨ea, en, ec, wa, wn, wc, ba, bn, bc, rfl, hp1, hp2, hp3, hb4⟩
  obtain ⟨za, zc, ez, hq⟩ := own_viewB hp1
  clear hq
  injection ez with ez1 ez2 ez3
  subst ez1; subst ez2; subst ez3
  obtain ⟨za, zc, ez, hq⟩ := own_viewB hp2
  clear hq
  injection ez with ez1 ez2 ez3
  subst ez1; subst ez2; subst ez3
  have hs4 := hb4.size
  have HB4 := hide ((unhide HB).trans (hb4.mono hsz))
  have HP1 := hide hp1
  have HP2 := hide hp2
  have HO4 := hide (owns_below (unhide HO) hb4)
  clear hp1 hp2 hp3 hb4 HO HB
  dsimp only
  dsimp only at HP1 HP2
  obtain ⟨W, hW⟩ : ∃ W, W = w4.alloc (.cells #[.string v.text, .slice ea v.enabled.length ec, .slice wa v.wrong.length wc, .slice ba bn bc, .bool (mvDead v)] 24) := ⟨_, rfl⟩
  have hbW : Below w4.heap.size w4 W := by rw [hW]; exact below_alloc1 w4 _
  have hsW : w4.heap.size < W.heap.size := by rw [hW]; simp
  have hN : W.heap[w4.heap.size]? = some (.cells #[.string v.text, .slice ea v.enabled.length ec, .slice wa v.wrong.length wc, .slice ba bn bc, .bool (mvDead v)] 24 (0, 0)) := by rw [hW]; exact alloc_new _ _
  have HWE := hide hW.symm
  have HOW := hide (owns_below (unhide HO4) hbW)
  have HPW1 := hide (owns_below (unhide HP1) hbW)
  have HPW2 := hide (owns_below (unhide HP2) hbW)
  have HBW := hide ((unhide HB4).trans (hbW.mono (by omega)))
  have HN := hide hN
  clear hW hbW hN HO4 HP1 HP2 HB4
  go_wp2_with fail
  rw [unhide HWE]
  refine ((unhide HPL) _ _ _ _ _ (unhide HOW) (by omega) _ (unhide HV1)).mono ?_
  rintro e w5 ⟨ea2, en2, ec2, wa2, wn2, wc2, ba2, bn2, bc2, rfl, hp1, hp2, hp3, hb5⟩
  clear hp1 hp2 hp3
  have hs5 := hb5.size
  obtain ⟨W2, hW2⟩ : ∃ W2, W2 = w5.alloc (.cells #[.string v.text, .slice ea2 en2 ec2, .slice wa2 wn2 wc2, .slice ba2 bn2 bc2, .bool (mvDead v)] 24) := ⟨_, rfl⟩
  have hb52 : Below w5.heap.size w5 W2 := by rw [hW2]; exact below_alloc1 w5 _
  have hs52 : w5.heap.size < W2.heap.size := by rw [hW2]; simp
  have hA2 : W2.heap[w5.heap.size]? = some (.cells #[.string v.text, .slice ea2 en2 ec2, .slice wa2 wn2 wc2, .slice ba2 bn2 bc2, .bool (mvDead v)] 24 (0, 0)) := by rw [hW2]; exact alloc_new _ _
  have hbx : Below W.heap.size W W2 := hb5.trans (hb52.mono hs5)
  have hN2 := (hbx.block w4.heap.size hsW).trans (unhide HN)
  have HN2 := hide hN2
  have HO2 := hide (owns_below (unhide HOW) hbx)
  have HQ1 := hide (owns_below (unhide HPW1) hbx)
  have HQ2 := hide (owns_below (unhide HPW2) hbx)
  have HB2' := hide ((unhide HBW).trans (hbx.mono (by omega)))
  have HWE2 := hide hW2.symm
  obtain ⟨r0, r1, r2, r3, r4, y0, y1, y2, y3, y4⟩ := row5' ((hb5.block w4.heap.size hsW).trans (unhide HN))
  have h45 : w4.heap.size < w5.heap.size := by omega
  have HA2 := hide hA2
  clear hW2 hb52 hA2 hbx hN2 HN HOW HPW1 HPW2 HBW HWE hb5
  dsimp only
  have hdd : mvDead v = ((v.enabled.length == 0) && (v.wrong.length == 0)) := rfl
  generalize mvDead v = dd at *
  by_cases hen : v.enabled.length = 0
  ·have hen2 : ((v.enabled.length : Int) == 0) = true := by rw [beq_iff_eq]; omega
   have hwd : ((v.wrong.length : Int) == 0) = dd := by
    rw [hdd, show (v.enabled.length == 0) = true by rw [beq_iff_eq]; exact hen, Bool.true_and]
    cases hw : (v.wrong.length == 0)
    ·rw [beq_eq_false_iff_ne] at hw ⊢
     omega
    ·rw [beq_iff_eq] at hw ⊢
     omega
   clear hdd hen
   go_wp2_with fail
   rw [unhide HWE2]
   have HEN := hide hen2
   clear hwd hen2
   clear r0 r1 r2 r3 r4 y0 y1 y2 y3 y4
   go_loopw [17, 18, 19, 20] (fun y _ _ _ wx => ∃ j : Nat, j ≤ v.wrong.length ∧ y = .int .i64 j ∧ Below W2.heap.size W2 wx) (fun y _ _ _ _ => v.wrong.length - (intOf y).toNat)
   case atStart => exact ⟨0, Nat.zero_le _, rfl, Below.refl _ _⟩
   case round =>
    obtain ⟨j, hj, rfl, hbx⟩ := hrel
    have hsx := hbx.size
    obtain ⟨r0, r1, r2, r3, r4, y0, y1, y2, y3, y4⟩ := row5' ((hbx.block w4.heap.size (by omega)).trans (unhide HN2))
    have HBX := hide hbx
    have HOX := hide (owns_below (unhide HO2) hbx)
    have h4x : w4.heap.size < wr.heap.size := by omega
    have hw45 := (unhide HV5).2
    by_cases hlt : j < v.wrong.length
    ·obtain ⟨za, zc, ez, hvw⟩ := own_viewB (owns_below (unhide HQ2) hbx)
     have ez1 : wa = za := by injection ez
     subst ez1
     obtain ⟨g, hga, hg1, hg2, hc⟩ := hvw j hlt
     clear hvw ez
     have e0 : wr.cell? ⟨g, j, none⟩ = some (.string v.wrong[j]) := by
      rw [hc j (by omega), List.getElem?_map, List.getElem?_eq_getElem hlt]; rfl
     subst hga
     have HPJ := hide ((unhide HV2) v.wrong[j] (List.getElem_mem hlt))
     generalize v.wrong[j] = t at *
     clear hc hbx
     go_wp2_with fail
     refine ((unhide HWI) _ _ _ _ _ _ _ (unhide HOX) (by omega)).mono ?_
     rintro e w6 ⟨a6, n6, c6, rfl, ho6, hb6⟩
     have hs6 := hb6.size
     have HO6 := hide (show w6.ownsRow 0 9 1 (.slice a6 n6 c6) (l ++ [t]).length ((l ++ [t]).map Value.string) by rw [List.length_append]; exact owns_mono (Nat.zero_le _) ho6)
     have HB6 := hide ((unhide HBX).trans (hb6.mono hsx))
     clear ho6 hb6 HBX
     go_wp2_with fail
     refine ((unhide HPL) _ _ _ _ _ (unhide HO6) (by rw [List.length_append]; simp; omega) _ (unhide HPJ)).mono ?_
     rintro e w7 ⟨ea3, en3, ec3, wa3, wn3, wc3, ba3, bn3, bc3, rfl, hp1, hp2, hp3, hb7⟩
     clear hp1 hp2 hp3
     have hs7 := hb7.size
     have HB7 := hide ((unhide HB6).trans (hb7.mono (by omega)))
     clear hb7 HB6 HO6 HPJ
     dsimp only [noView]
     go_wp2
     go_roundw
     case rel => exact ⟨j + 1, by omega, by go_num, (unhide HB7).alloc (by omega) _⟩
     case measure => simp [intOf]; omega
    ·have hen2 := unhide HEN
     have HAF := hide (show Below W2.heap.size W2 wr from hbx)
     have HE1 := hide (owns_below (unhide HQ1) hbx)
     have HBR := hide ((unhide HB2').trans (hbx.mono (by omega)))
     clear hbx HBX
     go_wp2_with fail
     refine ((unhide HWI) _ _ _ _ _ _ _ (unhide HOX) (by omega)).mono ?_
     rintro e w6 ⟨a6, n6, c6, rfl, ho6, hb6⟩
     have hs6 := hb6.size
     have HO6 := hide (show w6.ownsRow 0 9 1 (.slice a6 n6 c6) (l ++ [askT]).length ((l ++ [askT]).map Value.string) by rw [List.length_append]; exact owns_mono (Nat.zero_le _) ho6)
     have HB6 := hide hb6
     clear ho6 hb6
     go_wp2_with fail
     refine ((unhide HPL) _ _ _ _ _ (unhide HO6) (by rw [List.length_append]; simp; omega) _ (unhide HV3)).mono ?_
     rintro e w7 ⟨ea3, en3, ec3, wa3, wn3, wc3, ba3, bn3, bc3, rfl, hp1, hp2, hp3, hb7⟩
     clear hp1 hp2 hp3
     have hs7 := hb7.size
     have hb67 := (unhide HB6).trans (hb7.mono hs6)
     obtain ⟨r0, r1, r2, r3, r4, y0, y1, y2, y3, y4⟩ := row5' ((((unhide HAF).trans (hb67.mono hsx)).block w4.heap.size (by omega)).trans (unhide HN2))
     have h47 : w4.heap.size < w7.heap.size := by omega
     have HB7 := hide hb67
     clear hb7 hb67 HB6 HO6
     dsimp only [noView]
     go_wp2
     go_ret
     exact ⟨rfl, ((unhide HBR).trans ((unhide HB7).mono (by omega))).alloc (by omega) _⟩
  ·have hd : dd = false := by rw [hdd, show (v.enabled.length == 0) = false by rw [beq_eq_false_iff_ne]; exact hen]; rfl
   subst hd
   have hen2 : ((v.enabled.length : Int) == 0) = false := by rw [beq_eq_false_iff_ne]; omega
   clear hdd
   go_wp2_with fail
   rw [unhide HWE2]
   clear r0 r1 r2 r3 r4 y0 y1 y2 y3 y4
   go_loopw [17, 18, 19, 20] (fun y _ _ _ wx => ∃ j : Nat, j ≤ v.wrong.length ∧ y = .int .i64 j ∧ Below W2.heap.size W2 wx) (fun y _ _ _ _ => v.wrong.length - (intOf y).toNat)
   case atStart => exact ⟨0, Nat.zero_le _, rfl, Below.refl _ _⟩
   case round =>
    obtain ⟨j, hj, rfl, hbx⟩ := hrel
    have hsx := hbx.size
    obtain ⟨r0, r1, r2, r3, r4, y0, y1, y2, y3, y4⟩ := row5' ((hbx.block w4.heap.size (by omega)).trans (unhide HN2))
    have HBX := hide hbx
    have HOX := hide (owns_below (unhide HO2) hbx)
    have h4x : w4.heap.size < wr.heap.size := by omega
    have hw45 := (unhide HV5).2
    by_cases hlt : j < v.wrong.length
    ·obtain ⟨za, zc, ez, hvw⟩ := own_viewB (owns_below (unhide HQ2) hbx)
     have ez1 : wa = za := by injection ez
     subst ez1
     obtain ⟨g, hga, hg1, hg2, hc⟩ := hvw j hlt
     clear hvw ez
     have e0 : wr.cell? ⟨g, j, none⟩ = some (.string v.wrong[j]) := by
      rw [hc j (by omega), List.getElem?_map, List.getElem?_eq_getElem hlt]; rfl
     subst hga
     have HPJ := hide ((unhide HV2) v.wrong[j] (List.getElem_mem hlt))
     generalize v.wrong[j] = t at *
     clear hc hbx
     go_wp2_with fail
     refine ((unhide HWI) _ _ _ _ _ _ _ (unhide HOX) (by omega)).mono ?_
     rintro e w6 ⟨a6, n6, c6, rfl, ho6, hb6⟩
     have hs6 := hb6.size
     have HO6 := hide (show w6.ownsRow 0 9 1 (.slice a6 n6 c6) (l ++ [t]).length ((l ++ [t]).map Value.string) by rw [List.length_append]; exact owns_mono (Nat.zero_le _) ho6)
     have HB6 := hide ((unhide HBX).trans (hb6.mono hsx))
     clear ho6 hb6 HBX
     go_wp2_with fail
     refine ((unhide HPL) _ _ _ _ _ (unhide HO6) (by rw [List.length_append]; simp; omega) _ (unhide HPJ)).mono ?_
     rintro e w7 ⟨ea3, en3, ec3, wa3, wn3, wc3, ba3, bn3, bc3, rfl, hp1, hp2, hp3, hb7⟩
     clear hp1 hp2 hp3
     have hs7 := hb7.size
     have HB7 := hide ((unhide HB6).trans (hb7.mono (by omega)))
     clear hb7 HB6 HO6 HPJ
     dsimp only [noView]
     go_wp2
     go_roundw
     case rel => exact ⟨j + 1, by omega, by go_num, (unhide HB7).alloc (by omega) _⟩
     case measure => simp [intOf]; omega
    ·have HAF := hide (show Below W2.heap.size W2 wr from hbx)
     have HE1 := hide (owns_below (unhide HQ1) hbx)
     have HBR := hide ((unhide HB2').trans (hbx.mono (by omega)))
     clear hbx HBX
     go_wp2_with fail
     refine ((unhide HWI) _ _ _ _ _ _ _ (unhide HOX) (by omega)).mono ?_
     rintro e w6 ⟨a6, n6, c6, rfl, ho6, hb6⟩
     have hs6 := hb6.size
     have HO6 := hide (show w6.ownsRow 0 9 1 (.slice a6 n6 c6) (l ++ [askT]).length ((l ++ [askT]).map Value.string) by rw [List.length_append]; exact owns_mono (Nat.zero_le _) ho6)
     have HB6 := hide hb6
     clear ho6 hb6
     go_wp2_with fail
     refine ((unhide HPL) _ _ _ _ _ (unhide HO6) (by rw [List.length_append]; simp; omega) _ (unhide HV3)).mono ?_
     rintro e w7 ⟨ea3, en3, ec3, wa3, wn3, wc3, ba3, bn3, bc3, rfl, hp1, hp2, hp3, hb7⟩
     clear hp1 hp2 hp3
     have hs7 := hb7.size
     have hb67 := (unhide HB6).trans (hb7.mono hs6)
     obtain ⟨r0, r1, r2, r3, r4, y0, y1, y2, y3, y4⟩ := row5' ((((unhide HAF).trans (hb67.mono hsx)).block w4.heap.size (by omega)).trans (unhide HN2))
     have h47 : w4.heap.size < w7.heap.size := by omega
     have HB7 := hide hb67
     clear hb7 hb67 HB6 HO6
     dsimp only [noView]
     by_cases hci : l.length < cs.length
     ·have hci2 : ((l.length : Int) ≥ (cs.length : Int)) = False := by simp; omega
      by_cases h12 : l.length = 12
      ·have h12b : ((l.length : Int) == 12) = true := by rw [beq_iff_eq]; omega
       go_wp2
       go_ret
       exact ⟨rfl, ((unhide HBR).trans ((unhide HB7).mono (by omega))).alloc (by omega) _⟩
      ·have h12b : ((l.length : Int) == 12) = false := by rw [beq_eq_false_iff_ne]; omega
       obtain ⟨⟨cg, co, hca, hcg, hcc⟩, hc0, hc1⟩ := (unhide HC) l.length hci
       subst hca
       have hpl := pickN_lt cs[l.length] (n := v.enabled.length) (by omega)
       have HPK2 := hide (fun wx => (unhide HPK) cs[l.length] v.enabled.length wx hc0 hc1 (by omega) (by have := (unhide HV5).1; omega))
       have hb7e := (unhide HB7)
       obtain ⟨za, zc, ez, hvw⟩ := own_viewB (owns_below (unhide HE1) hb7e)
       have ez1 : ea = za := by injection ez
       subst ez1
       obtain ⟨g, hga, hg1, hg2, hc⟩ := hvw (pickN cs[l.length] v.enabled.length) hpl
       subst hga
       have e0 : w7.cell? ⟨g, pickN cs[l.length] v.enabled.length, none⟩ = some (.string v.enabled[pickN cs[l.length] v.enabled.length]) := by
        rw [hc _ (by omega), List.getElem?_map, List.getElem?_eq_getElem hpl]; rfl
       have HNX := hide ((unhide HV4) v.enabled[pickN cs[l.length] v.enabled.length] (List.getElem_mem hpl))
       have hbw7 := (unhide HBR).trans ((unhide HB7).mono (by omega))
       have e1 : w7.cell? ⟨cg, co + l.length, none⟩ = some (.int .i64 cs[l.length]) := (hbw7.cell (p := ⟨cg, co + l.length, none⟩) hcg).trans hcc
       have hcg7 : cg < w7.heap.size := by omega
       have HW8 := hide (fun (w' : World) (hb' : Below w7.heap.size w7 w') => with_any w' 0 l v.enabled[pickN cs[l.length] v.enabled.length] sa l.length sc (owns_below (owns_below (unhide HOX) hb7e) hb') (by omega))
       have HB7w := hide hbw7
       generalize v.enabled[pickN cs[l.length] v.enabled.length] = t at *
       generalize pickN cs[l.length] v.enabled.length = pk at *
       generalize cs[l.length] = cv at *
       clear hc hvw ez hb7e hbw7 hcc
       go_upto_region 26 with fail
       go_region_held3 (fun w' => w'.cell? ⟨w4.heap.size, 1, none⟩ = some (.slice (some ⟨g, 0, none⟩) v.enabled.length ec) ∧ w'.cell? ⟨cg, co + l.length, none⟩ = some (.int .i64 cv) ∧ w'.cell? ⟨g, pk, none⟩ = some (.string t))
        (first | exact ⟨z0, z1, z2⟩ | exact ⟨cellA _ r1 h47, cellA _ e1 hcg7, cellA _ e0 hg2⟩)
        (first | (go_at_call 19; refine ((unhide HPK2) _).mono ?_; rintro e w8 ⟨rfl, _, rfl⟩; dsimp only) | (go_at_call 18; refine ((unhide HW8) _ (by first | exact ((Below.refl _ _).alloc (Nat.le_refl _) _) | exact ((Below.refl _ _).alloc (Nat.le_refl _) _).drew | exact ((Below.refl _ _).alloc (Nat.le_refl _) _).drew.drew | exact ((Below.refl _ _).alloc (Nat.le_refl _) _).drew.drew.drew)).mono ?_; rintro e w9 ⟨a9, n9, c9, rfl, ho9, hb9⟩; have HO9 := hide ho9; have HB9 := hide hb9; have z0 := (hb9.cell (p := ⟨w4.heap.size, 1, none⟩) (by simp; omega)).trans (cellA _ r1 h47); have z1 := (hb9.cell (p := ⟨cg, co + l.length, none⟩) (by simp; omega)).trans (cellA _ e1 hcg7); have z2 := (hb9.cell (p := ⟨g, pk, none⟩) (by simp; omega)).trans (cellA _ e0 hg2); clear ho9 hb9; dsimp only))
       have HO10 := hide (show w9.ownsRow 0 9 1 (.slice a9 n9 c9) (l ++ [t]).length ((l ++ [t]).map Value.string) by rw [List.length_append]; exact owns_mono (Nat.zero_le _) (unhide HO9))
       have HB10 := hide (((unhide HB7w).alloc (by omega) _).drew.trans ((unhide HB9).mono (by simp; omega)))
       clear z0 z1 z2 HO9 HB9 r0 r1 r2 r3 r4 y0 y1 y2 y3 y4 e0 e1
       go_wp2
       go_roundw
       case rel => exact ⟨l.length + 1, l ++ [t], a9, n9, c9, by omega, by go_num, rfl, by simp, unhide HO10, unhide HNX, unhide HB10⟩
       case measure => simp [intOf]; omega
     ·go_wp2
      go_ret
      exact ⟨rfl, ((unhide HBR).trans ((unhide HB7).mono (by omega))).alloc (by omega) _⟩

end Go.Proofs.YtpmcnonmkghokaaGreatDoor
namespace Go.Proofs.YtpmcnonmkghokaaGreatDoor
open Go.RowKit
theorem walked_any (w : World) (s : ByteArray) (cs : List Int) (ca : Option Addr) (cn cc : Nat) (hn : cs.length = cn) (hC : ChoIs w ca cs) :
  Calls Tryz.prog 4 #[.string s, .slice ca cn cc] w fun e w' => e = .returned (.bool true) ∧ Below w.heap.size w w' := by
 subst hn
 by_cases h : (chkC s).1 = 0
 ·obtain ⟨a, ha, hm⟩ := mach_ok h
  exact walked_good w s cs ca cc hC h a ha _ hm
 ·exact walked_bad w s ca _ cc h

end Go.Proofs.YtpmcnonmkghokaaGreatDoor
namespace Go.Proofs.YtpmcnonmkghokaaGreatDoor
set_option maxRecDepth 1000000 in
theorem walked_closed : joinedFacts Tryz.pinned.checked.prog 4 Tryz.f4 Rows.walkedSpec Rows.walkedRow = true := by kernel_rfl
end Go.Proofs.YtpmcnonmkghokaaGreatDoor
namespace Go.Proofs.YtpmcnonmkghokaaGreatDoor.keep
open Go.ChangeShapes Go.WideShapes Go.ChangeAt Go.RowKit
open Go.ChangeMaps (open_string shut_string)
theorem laidOut : laidOutB Tryz.prog = true := by kernel_rfl
theorem cellsI : Tryz.prog.cellsOf 3 = 1 := by kernel_rfl

theorem own : ownKnob Tryz.prog.godebug = none := by kernel_rfl
abbrev laid3 : List (String × DataW Unit) := Rows.walkedRow.laid
set_option maxRecDepth 100000 in
theorem door_met (os : Os) (args : Array Value) : laidMetH Tryz.prog laid3 ((World.doorLaid Tryz.prog 400 os).forCall (fun _ _ => 0) ⟨#[], args, []⟩).memory :=
 laidMetH_of_parts3 (fuel := 8) (laidMet_of_run' 8 (by kernel_rfl) (by kernel_rfl)) (by kernel_rfl) (by kernel_rfl)
set_option maxRecDepth 100000 in
theorem lifted (os : Os) (started : os.Started) (H : Type) (enc : TypeId × Value → H) :
  ReturnsInHanded {} Tryz.checked os 4 .any (fun w args => (Rows.walkedSpec.pre enc Tryz.prog Tryz.f4 [] false w args ∧ laidMetH Tryz.prog laid3 w) ∧ sizedMet enc Tryz.prog Tryz.f4 (OpenSpec.ofChange Rows.walkedSpec) false w args)
   (Rows.walkedSpec.post enc Tryz.prog Tryz.f4 false true false false) := by
 refine returnsInHanded_of_change_and (C := Tryz.checked) (X := fun w _ => laidMetH Tryz.prog laid3 w) (fun _ _ _ hh h => h.of_heap hh) own started (by kernel_rfl) Tryz.func4
  (ChangeSpec.witness_shaped (enc := enc) (C := Tryz.checked) (os := os) (X := fun w _ => laidMetH Tryz.prog laid3 w) false (World.doorLaid Tryz.prog 400 os) #[.string ⟨#[]⟩, .slice none 0 0] 8 rfl (World.shaped_of_RefB (by kernel_rfl) (by kernel_rfl)) (by kernel_rfl) (by kernel_rfl) (by kernel_rfl) (door_met os _)) ?_
 intro W base args ds gs before hval0 hW _ _ hL _
 have hval : ∀ (j : Nat) t v, Tryz.f4.params[j]? = some t → args[j]? = some v → Value.okWide Tryz.prog W .any base t v := hval0
 have hW' := hW
 obtain ⟨p, q, hA0, hV, rfl, hfz, hnd⟩ := hW
 have hA : DataW.TrodAll enc Tryz.prog W 0 (fun _ => true) true Tryz.f4.params.toList args.toList ds p := hA0
 rw [Tryz.params4] at hA hval
 obtain ⟨v0, vs0, d0, ds0, p0, q0, hargs, rfl, rfl, h0, r0⟩ := trodAll_cons hA
 obtain ⟨v1, vs1, d1, ds1, p1, q1, hargs1, rfl, rfl, h1, r1⟩ := trodAll_cons r0
 obtain ⟨rfl, rfl, rfl⟩ := trodAll_nil r1
 subst hargs1
 obtain rfl : args = #[v0, v1] := by cases args; simp_all
 obtain ⟨rfl, rfl⟩ := trodVars_none hV
 obtain ⟨a0, rfl, rfl, rfl, w0⟩ := open_string Tryz.underlying9 (hval 0 9 v0 rfl rfl) h0
 obtain ⟨ca, cn, cc, rfl⟩ := okWide_slice Tryz.underlying31 (hval 1 31 v1 rfl rfl)
 have h1k := h1
 obtain ⟨fuel, hf⟩ := h1
 clear hA0 hval0
 simp only [List.append_nil, List.nil_append] at hW'
 have hlt : ∀ x ∈ p1, x.block < W.heap.size := fun x hx => by simpa using hW'.lt x hx
 have close : ∀ cs : List Int, cs.length = cn → ChoIs W ca cs → Calls Tryz.prog 4 #[.string a0, .slice ca cn cc] W fun e W' => ∃ v, e = .returned v ∧ Rows.walkedSpec.post enc Tryz.prog Tryz.f4 false true false false W #[.string a0, .slice ca cn cc] v W' := by
  intro cs hn hC
  refine (walked_any W a0 cs ca cn cc hn hC).mono fun e W' ⟨he, hg⟩ => ?_
  subst he
  refine ⟨_, rfl, _, _, _, [], p1, [], hW', ?_, ?_, rfl, hg.frame _, fun h => by cases h⟩
  ·exact trodAll_cons_mk (shut_bool Tryz.underlying4 _) trodAll_mk0
  ·have := trodAll_cons_mk (shut_string (H := H) (enc := enc) (w := W') (base := 0) (sp := fun b => decide (b < W.heap.size)) (held := true) Tryz.underlying9 w0) (trodAll_cons_mk (Below.trod laidOut (by kernel_rfl) (of_decide_eq_true (by kernel_rfl)) h1k hg hlt) trodAll_mk0)
   rw [List.nil_append, List.append_nil] at this
   exact this
 rcases open_ints Tryz.underlying31 Tryz.underlying3 cellsI hf with ⟨hcs, hx⟩ | ⟨a, len', cap', zs, hcs, _, hl, hm, hz, hx, hcell, hwz⟩
 ·simp [Value.cells] at hcs
  obtain ⟨rfl, rfl, rfl⟩ := hcs
  exact close [] rfl (fun i hi => by simp at hi)
 ·simp [Value.cells] at hcs
  obtain ⟨rfl, rfl, rfl⟩ := hcs
  simp only [if_true] at hz
  refine close (zs.take cn) (by rw [List.length_take]; omega) (fun i hi => ?_)
  rw [List.length_take] at hi
  obtain ⟨b, off, rfl, hc⟩ := ints_at hcell (by omega)
  have e : (zs.take cn)[i]'(by rw [List.length_take]; exact hi) = zs.getD i 0 := by rw [List.getElem_take]; simp [List.getD, show i < zs.length by omega]
  rw [e]
  refine ⟨⟨b, off, rfl, ?_, hc i (by omega)⟩, ?_⟩
  ·simp only [Prod.mk.injEq] at hx
   obtain ⟨_, rfl⟩ := hx
   exact hlt (.cell b off) (MemPlace.mem_row.2 ⟨0, by omega, by simp⟩)
  ·exact bounds_i64 (hwz _ (by simp [List.getD, show i < zs.length by omega]))

theorem over : Rows.WalkedSaid :=
 OpenClaim.holds_of_wide 4 Tryz.f4 rfl rfl rfl rfl rfl rfl rfl ⟨rfl, rfl, rfl, rfl, rfl⟩ rfl rfl rfl rfl rfl (by kernel_rfl) Tryz.func4 walked_closed
  (of_decide_eq_true (by kernel_rfl)) (by unfold Func.isWrapper; first | (rw [if_pos (by decide +kernel)]; kernel_rfl) | (rw [if_neg (by decide +kernel)]; exact ⟨rfl, rfl⟩))
  (fun os started H enc _ => lifted os started H enc)

end Go.Proofs.YtpmcnonmkghokaaGreatDoor.keep
namespace Go.Proofs.YtpmcnonmkghokaaGreatDoor
open Go
theorem walked_proved : Rows.WalkedCardSaid :=
 Claim7.holds_tied_plain_at .later [] [.data, .data, .data] true (true, "866e42b94a8d35afcd2281c26c94c6bb01422d5ed6fd52653700cd8dee87b256") false
  keep.over (fun _ h => by cases h) (by kernel_rfl) (fun _ h => by cases h) walked_row_tie rfl ⟨rfl, rfl⟩ (by kernel_rfl) rfl
  (fun f fn hf hfn => by
   obtain rfl : f = 4 := Option.some.inj ((show Tryz.prog.funcNamed "orbits/orbitskeep.Walked" = some 4 by kernel_rfl).symm.trans hf) |>.symm
   obtain rfl : fn = Tryz.f4 := (Option.some.inj (Tryz.func4.symm.trans hfn)).symm
   exact ⟨by kernel_rfl, fun j t ht => by
    rw [Tryz.params4] at ht
    have hm : t ∈ [9, 31] := by simpa using Array.mem_of_getElem? ht
    have hall : ([9, 31].all fun u => !Tryz.prog.wantsStandIn u) = true := by kernel_rfl
    exact (show Tryz.prog.wantsStandIn t = false by simpa using List.all_eq_true.1 hall t hm)⟩)
  (by kernel_rfl)
end Go.Proofs.YtpmcnonmkghokaaGreatDoor

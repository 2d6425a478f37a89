/-
  The program's namer: block.
  The program's namer: enter.
  The program's wrongName: the first name that is wrong, by the table.
-/
import Derived.Test.YtpmcnonmkghokaaGreatT15
set_option linter.unusedVariables false
set_option linter.unusedSimpArgs false
namespace Go.Proofs.YtpmcnonmkghokaaGreat
open Go.RowKit
attribute [local go_sem ↓] Go.wp_at_zero Go.wp_at_succ

theorem BIs.nm {lo B : Nat} {no : Option Nat} {w w' : World} {t : TypeId} {cs : Array Value} {fr : Nat × Nat} (hB : w.heap[B]? = some (.cells cs t fr)) (he : t ≠ 186) (he2 : t ≠ 189) (hk : Kept B w w') : ∀ {b : PB} {xs : List Value}, BIs lo no w b xs → BIs lo no w' b xs
  | .nil, _, h => h
  | .node _ _ a .nil n, cs, ⟨p, rest, e, hx, hn⟩ => ⟨p, rest, e, hx.nm hB he hk, BIs.nm hB he he2 hk hn⟩
  | .node _ _ a (.node _ _ _ t e) n, cs, ⟨p, ta, tn, tc, ea, en, ec, ct, ce, rest, e1, hx, ⟨ht1, ht3, ht2⟩, ⟨he1, he3, hee2⟩, hn⟩ =>
    ⟨p, ta, tn, tc, ea, en, ec, ct, ce, rest, e1, hx.nm hB he hk, ⟨owns_nm ht1 hB he2 hk, ht3, BIs.nm hB he he2 hk ht2⟩, ⟨owns_nm he1 hB he2 hk, he3, BIs.nm hB he he2 hk hee2⟩, BIs.nm hB he he2 hk hn⟩

def plNm : PX → List Tok
  | .nil => [noTok]
  | .node _ _ x _ _ => ownPl x.name x.index
theorem plC_five : ∀ x : PX, ∃ n i : Tok, plC x = [.string n.text, .int .i64 n.at_, .bool (!(i.kind.toList == [])), .string i.text, .int .i64 i.at_] ∧ plNm x = ownPl n i
  | .nil => ⟨noTok, noTok, by rw [noTok_kind]; rfl, by unfold ownPl; rw [noTok_kind]; rfl⟩
  | .node _ _ x _ _ => ⟨x.name, x.index, rfl, rfl⟩
/-- The names of places and values in a block. -/
def namesB : PB → List Tok
  | .nil => []
  | .node _ _ a .nil n => (plNm a.place ++ namesP a.value) ++ namesB n
  | .node _ _ a (.node _ _ _ t e) n => ((namesP a.cond ++ namesB t) ++ namesB e) ++ namesB n
def BLen : PB → Prop
  | .nil => True
  | .node _ _ a .nil n => BLen n
  | .node _ _ a (.node _ _ _ t e) n => (BLen t ∧ plen t ≤ 1000) ∧ (BLen e ∧ plen e ≤ 1000) ∧ BLen n

def NBlockSaid (b : PB) : Prop := ∀ (w : World) (B bb lo so : Nat) (no : Option Nat) (tab : Tab) (l : List PP) (pa : Option Addr) (pn pc : Nat) (z : Int) (v : Value) (cs : List Value), Nm w B bb tab (.slice pa pn pc) z → w.ownsRow lo 178 4 (.slice pa pn pc) l.length (pasCells l) → l.length ≤ 1000 →
    w.ownsRow so 189 9 v (plen b) cs → BIs so no w b cs → BLen b → plen b ≤ 1000 → (∀ y ∈ namesB b, y.text.size ≤ 1000) →
    Calls Tryz.prog 70 #[.pointer (some ⟨B, 0, none⟩), v] w fun e w' => e = .returned (.tuple #[]) ∧ Nm w' B bb tab (.slice pa pn pc) ((namesB b).foldl (valN tab l) z) ∧ Kept B w w'
def NInner : PB → Prop
  | .nil => True
  | .node _ _ _ .nil n => NBlockSaid .nil ∧ NInner n
  | .node _ _ _ (.node _ _ _ t e) n => NBlockSaid t ∧ NBlockSaid e ∧ NInner n

def NBRel (w : World) (B bb so : Nat) (no : Option Nat) (tab : Tab) (l : List PP) (ps : Value) (fin : Int) (len : Nat) (cs : List Value) (i : Value) (wr : World) : Prop :=
  ∃ (k : Nat) (rest : PB) (a : Int), k + plen rest = len ∧ i = .int .i64 k ∧ BIs so no wr rest (cs.drop (k * 9)) ∧ NInner rest ∧ BLen rest ∧ (∀ y ∈ namesB rest, y.text.size ≤ 1000) ∧ (namesB rest).foldl (valN tab l) a = fin ∧ Nm wr B bb tab ps a ∧ Kept B w wr

theorem drop_nine {cs st rest : List Value} {k : Nat} (h : cs.drop (k * 9) = st ++ rest) (hl : st.length = 9) : cs.drop ((k + 1) * 9) = rest ∧ ∀ j, j < 9 → cs[k * 9 + j]? = st[j]? := by
  constructor
  · rw [show (k + 1) * 9 = k * 9 + 9 by omega, ← List.drop_drop, h, ← hl, List.drop_left]
  · intro j hj
    rw [← List.getElem?_drop, h, List.getElem?_append_left (by omega)]

set_option maxRecDepth 100000 in
set_option maxHeartbeats 4000000 in
theorem nblock_step (b : PB) (hI : NInner b) : NBlockSaid b := by
  intro w B bb lo so no tab l pa pn pc z v cs h ho hl hv hbi hbl hpl hs
  have hBl := lt_of_block h.nm
  obtain ⟨xa, cap, rfl, hview⟩ := own_viewB hv
  have HW := hide (show ∀ i, i < plen b → ∃ g, xa = some ⟨g, 0, none⟩ ∧ g ≠ B ∧ ∀ j, j < plen b * 9 → w.cell? ⟨g, j, none⟩ = cs[j]? from fun i hi => by
    obtain ⟨g, rfl, _, _, hc⟩ := hview i hi
    exact ⟨g, rfl, fun e => not_row hv h.nm (by decide) (by rw [← e]; rfl), hc⟩)
  have HR := hide (show NBRel w B bb so no tab l (.slice pa pn pc) ((namesB b).foldl (valN tab l) z) (plen b) cs (.int .i64 0) w from ⟨0, b, z, by omega, rfl, by simpa using hbi, hI, hbl, hs, rfl, h, Kept.refl _ _⟩)
  have HCL := hide (show cs.length = plen b * 9 from hbi.len)
  have HN := hide h
  have HO := hide ho
  generalize (namesB b).foldl (valN tab l) z = fin at *
  generalize plen b = len at *
  clear h ho hview hv hbi hbl hs hI
  go_enter Tryz.func70, Tryz.ntmps70
  go_wp2_with fail
  go_loopw [5, 8] (fun _ i wr => NBRel w B bb so no tab l (.slice pa pn pc) fin len cs i wr) (fun _ i _ => len - (intOf i).toNat)
  case atStart => exact unhide HR
  case round =>
    obtain ⟨k, rest, a0, hk, rfl, hst, hIn, hbl, hs, hfin, hN, hK⟩ := hrel
    have HNr := hide hN
    have HKr := hide hK
    have HOr := hide (owns_nm (unhide HO) (unhide HN).nm (by decide) hK)
    have HF := hide hfin
    have hsz := hK.size
    have hBr := lt_of_block hN.nm
    clear hN hK hfin
    match rest, hst, hIn, hbl, hs, HF, hk with
    | .nil, hst, hIn, hbl, hs, HF, hk =>
      have hne : ¬ k < len := by simp only [plen] at hk; omega
      clear hst hIn hbl hs hk
      go_wp2
      go_end0
      exact ⟨rfl, by rw [← unhide HF]; exact unhide HNr, unhide HKr⟩
    | .node _ _ la .nil nx, hst, hIn, hbl, hs, HF, hk =>
      obtain ⟨p, rst, hd, hx, hnx⟩ := hst
      have hlt : k < len := by simp only [plen] at hk; omega
      obtain ⟨g, rfl, hgB, hc⟩ := unhide HW k hlt
      obtain ⟨n, i, hpc, hpn⟩ := plC_five la.place
      obtain ⟨hdr, hcc⟩ := drop_nine hd (stC_len _ _ _ _ _)
      have cc : ∀ j, j < 9 → ∀ u, (stC false la (.pointer p) (.slice none 0 0) (.slice none 0 0))[j]? = some u → wr.cell? ⟨g, k * 9 + j, none⟩ = some u := fun j hj u hu => (unhide HKr).cell (a := ⟨g, k * 9 + j, none⟩) hgB ((hc (k * 9 + j) (by omega)).trans ((hcc j hj).trans hu))
      unfold stC at cc
      rw [hpc] at cc
      have e0 := cc 0 (by omega) _ rfl
      have e1 := cc 1 (by omega) _ rfl
      have e2 := cc 2 (by omega) _ rfl
      have e3 := cc 3 (by omega) _ rfl
      have e4 := cc 4 (by omega) _ rfl
      have e5 := cc 5 (by omega) _ rfl
      have e6 := cc 6 (by omega) _ rfl
      have e7 := cc 7 (by omega) _ rfl
      have e8 := cc 8 (by omega) _ rfl
      simp only [Nat.add_zero] at e0
      have hsp : ∀ y ∈ ownPl n i, y.text.size ≤ 1000 := fun y hy => hs y (by rw [namesB, hpn]; simp [hy])
      have hsv : ∀ y ∈ namesP la.value, y.text.size ≤ 1000 := fun y hy => hs y (by rw [namesB]; simp [hy])
      have hsn : ∀ y ∈ namesB nx, y.text.size ≤ 1000 := fun y hy => hs y (by rw [namesB]; simp [hy])
      have HF2 := hide (show (namesB nx).foldl (valN tab l) ((namesP la.value).foldl (valN tab l) ((ownPl n i).foldl (valN tab l) a0)) = fin by rw [← unhide HF, namesB, hpn, List.foldl_append, List.foldl_append])
      have HB1 := hide (show BIs so no wr nx (cs.drop ((k + 1) * 9)) by rw [hdr]; exact hnx)
      have HX0 := hide hx
      have HPL := hide (place_one _ B bb lo tab l pa pn pc a0 n i ((unhide HNr).alloc (.cells #[.bool false, .string n.text, .int .i64 n.at_, .bool (!(i.kind.toList == [])), .string i.text, .int .i64 i.at_, .pointer p, .slice none 0 0, .slice none 0 0] 189)) ((unhide HOr).alloc _) hl hsp)
      have HNX := hide (⟨hIn.2, hbl, hsn⟩ : NInner nx ∧ BLen nx ∧ ∀ y ∈ namesB nx, y.text.size ≤ 1000)
      have hnil := hIn.1
      have HSV := hide hsv
      have hkn : k + 1 + plen nx = len := by simp only [plen] at hk; omega
      clear cc hc hcc hdr hd hpc hpn hs hsp hsn hx hnx hbl hIn HF HR HW HCL hk hsv
      unfold pl5 at HPL
      generalize (!(i.kind.toList == [])) = d at *
      go_wp2_with fail
      refine (unhide HPL).mono ?_
      rintro e w2 ⟨rfl, h2, hk2⟩
      have r2 := hk2.row (b := wr.heap.size) (by omega) (alloc_new _ _)
      obtain ⟨⟨_, _, _, _, _, _, r6, r7, r8⟩, _⟩ := row9 r2
      have HR2 := hide r2
      have HO2 := hide (owns_nm ((unhide HOr).alloc _) ((unhide HNr).alloc _).nm (by decide) hk2)
      have HEX := hide (nexpr_all la.value w2 B bb lo so tab l pa pn pc _ _ h2 (unhide HO2) hl (XIs.nm ((unhide HNr).alloc _).nm (by decide) hk2 ((unhide HX0).below (below_alloc1 _ _))) (unhide HSV))
      have HK2 := hide ((Kept.allocB _).trans hk2)
      have HN2 := hide h2
      clear h2 hk2 r2 HPL e0 e1 e2 e3 e4 e5 e6 e7 e8 HX0 HSV
      go_wp2_with fail
      refine (unhide HEX).mono ?_
      rintro e w3 ⟨rfl, h3, hk3⟩
      have r3 := hk3.row (b := wr.heap.size) (by omega) (unhide HR2)
      obtain ⟨⟨_, _, _, _, _, _, _, t7, t8⟩, _⟩ := row9 r3
      have HR3 := hide r3
      have HO3 := hide (owns_nm (unhide HO2) (unhide HN2).nm (by decide) hk3)
      have HK3 := hide ((unhide HK2).trans hk3)
      have HN3 := hide h3
      clear h3 hk3 r3 HEX r6 r7 r8 HR2 HO2 HN2 HK2
      go_wp2_with fail
      refine (hnil w3 B bb lo so no tab l pa pn pc _ _ [] (unhide HN3) (unhide HO3) hl (World.ownsRow_nil _ _ _ _) rfl trivial (by simp [plen]) (by simp [namesB])).mono ?_
      rintro e w4 ⟨rfl, h4, hk4⟩
      have r4 := hk4.row (b := wr.heap.size) (by omega) (unhide HR3)
      obtain ⟨⟨_, _, _, _, _, _, _, _, s8⟩, _⟩ := row9 r4
      have HO4 := hide (owns_nm (unhide HO3) (unhide HN3).nm (by decide) hk4)
      have HK4 := hide ((unhide HK3).trans hk4)
      have HN4 := hide h4
      clear h4 hk4 r4 t7 t8 HR3 HO3 HN3 HK3
      go_wp2_with fail
      refine (hnil w4 B bb lo so no tab l pa pn pc _ _ [] (unhide HN4) (unhide HO4) hl (World.ownsRow_nil _ _ _ _) rfl trivial (by simp [plen]) (by simp [namesB])).mono ?_
      rintro e w5 ⟨rfl, h5, hk5⟩
      have HK5 := hide ((unhide HK4).trans hk5)
      have HN5 := hide h5
      clear h5 hk5 s8 HO4 HN4 HK4
      go_wp2
      go_roundw
      case rel => exact ⟨k + 1, nx, _, hkn, by go_num, (unhide HB1).nm (unhide HNr).nm (by decide) (by decide) (unhide HK5), (unhide HNX).1, (unhide HNX).2.1, (unhide HNX).2.2, unhide HF2, unhide HN5, (unhide HKr).trans (unhide HK5)⟩
      case measure => simp [intOf]; omega
    | .node _ _ la (.node _ _ _ t e) nx, hst, hIn, hbl, hs, HF, hk =>
      obtain ⟨p, ta, tn, tc, ea, en, ec, ct, ce, rst, hd, hx, ⟨ht1, _, ht2⟩, ⟨he1, _, he2⟩, hnx⟩ := hst
      have hlt : k < len := by simp only [plen] at hk; omega
      obtain ⟨g, rfl, hgB, hc⟩ := unhide HW k hlt
      obtain ⟨n, i, hpc, hpn⟩ := plC_five la.place
      obtain ⟨hdr, hcc⟩ := drop_nine hd (stC_len _ _ _ _ _)
      have cc : ∀ j, j < 9 → ∀ u, (stC true la (.pointer p) (.slice ta tn tc) (.slice ea en ec))[j]? = some u → wr.cell? ⟨g, k * 9 + j, none⟩ = some u := fun j hj u hu => (unhide HKr).cell (a := ⟨g, k * 9 + j, none⟩) hgB ((hc (k * 9 + j) (by omega)).trans ((hcc j hj).trans hu))
      unfold stC at cc
      rw [hpc] at cc
      have e0 := cc 0 (by omega) _ rfl
      have e1 := cc 1 (by omega) _ rfl
      have e2 := cc 2 (by omega) _ rfl
      have e3 := cc 3 (by omega) _ rfl
      have e4 := cc 4 (by omega) _ rfl
      have e5 := cc 5 (by omega) _ rfl
      have e6 := cc 6 (by omega) _ rfl
      have e7 := cc 7 (by omega) _ rfl
      have e8 := cc 8 (by omega) _ rfl
      simp only [Nat.add_zero] at e0
      have hsc : ∀ y ∈ namesP la.cond, y.text.size ≤ 1000 := fun y hy => hs y (by rw [namesB]; simp [hy])
      have hstt : ∀ y ∈ namesB t, y.text.size ≤ 1000 := fun y hy => hs y (by rw [namesB]; simp [hy])
      have hse : ∀ y ∈ namesB e, y.text.size ≤ 1000 := fun y hy => hs y (by rw [namesB]; simp [hy])
      have hsn : ∀ y ∈ namesB nx, y.text.size ≤ 1000 := fun y hy => hs y (by rw [namesB]; simp [hy])
      have HF2 := hide (show (namesB nx).foldl (valN tab l) ((namesB e).foldl (valN tab l) ((namesB t).foldl (valN tab l) ((namesP la.cond).foldl (valN tab l) a0))) = fin by rw [← unhide HF, namesB, List.foldl_append, List.foldl_append, List.foldl_append])
      have HB1 := hide (show BIs so no wr nx (cs.drop ((k + 1) * 9)) by rw [hdr]; exact hnx)
      have HT := hide (⟨ht1, ht2, hbl.1.1, hbl.1.2, hstt, hIn.1⟩ : wr.ownsRow so 189 9 (.slice ta tn tc) (plen t) ct ∧ BIs so no wr t ct ∧ BLen t ∧ plen t ≤ 1000 ∧ (∀ y ∈ namesB t, y.text.size ≤ 1000) ∧ NBlockSaid t)
      have HE := hide (⟨he1, he2, hbl.2.1.1, hbl.2.1.2, hse, hIn.2.1⟩ : wr.ownsRow so 189 9 (.slice ea en ec) (plen e) ce ∧ BIs so no wr e ce ∧ BLen e ∧ plen e ≤ 1000 ∧ (∀ y ∈ namesB e, y.text.size ≤ 1000) ∧ NBlockSaid e)
      have HEX := hide (nexpr_all la.cond _ B bb lo so tab l pa pn pc a0 _ ((unhide HNr).alloc (.cells #[.bool true, .string n.text, .int .i64 n.at_, .bool (!(i.kind.toList == [])), .string i.text, .int .i64 i.at_, .pointer p, .slice ta tn tc, .slice ea en ec] 189)) ((unhide HOr).alloc _) hl (hx.below (below_alloc1 _ _)) hsc)
      have HNX := hide (⟨hIn.2.2, hbl.2.2, hsn⟩ : NInner nx ∧ BLen nx ∧ ∀ y ∈ namesB nx, y.text.size ≤ 1000)
      have hkn : k + 1 + plen nx = len := by simp only [plen] at hk; omega
      clear cc hc hcc hdr hd hpc hpn hs hsc hsn hx hnx hbl hIn HF HR HW HCL hk hstt hse ht1 ht2 he1 he2
      generalize (!(i.kind.toList == [])) = d at *
      go_wp2_with fail
      refine (unhide HEX).mono ?_
      rintro e' w3 ⟨rfl, h3, hk3⟩
      have r3 := hk3.row (b := wr.heap.size) (by omega) (alloc_new _ _)
      obtain ⟨⟨_, _, _, _, _, _, _, t7, t8⟩, _⟩ := row9 r3
      have HR3 := hide r3
      have HO3 := hide (owns_nm ((unhide HOr).alloc _) ((unhide HNr).alloc _).nm (by decide) hk3)
      have HK3 := hide ((Kept.allocB _).trans hk3)
      have HN3 := hide h3
      clear h3 hk3 r3 HEX e0 e1 e2 e3 e4 e5 e6 e7 e8
      go_wp2_with fail
      refine ((unhide HT).2.2.2.2.2 w3 B bb lo so no tab l pa pn pc _ _ ct (unhide HN3) (unhide HO3) hl (owns_nm (unhide HT).1 (unhide HNr).nm (by decide) (unhide HK3)) ((unhide HT).2.1.nm (unhide HNr).nm (by decide) (by decide) (unhide HK3)) (unhide HT).2.2.1 (unhide HT).2.2.2.1 (unhide HT).2.2.2.2.1).mono ?_
      rintro e' w4 ⟨rfl, h4, hk4⟩
      have r4 := hk4.row (b := wr.heap.size) (by omega) (unhide HR3)
      obtain ⟨⟨_, _, _, _, _, _, _, _, s8⟩, _⟩ := row9 r4
      have HO4 := hide (owns_nm (unhide HO3) (unhide HN3).nm (by decide) hk4)
      have HK4 := hide ((unhide HK3).trans hk4)
      have HN4 := hide h4
      clear h4 hk4 r4 t7 t8 HR3 HO3 HN3 HK3 HT
      go_wp2_with fail
      refine ((unhide HE).2.2.2.2.2 w4 B bb lo so no tab l pa pn pc _ _ ce (unhide HN4) (unhide HO4) hl (owns_nm (unhide HE).1 (unhide HNr).nm (by decide) (unhide HK4)) ((unhide HE).2.1.nm (unhide HNr).nm (by decide) (by decide) (unhide HK4)) (unhide HE).2.2.1 (unhide HE).2.2.2.1 (unhide HE).2.2.2.2.1).mono ?_
      rintro e' w5 ⟨rfl, h5, hk5⟩
      have HK5 := hide ((unhide HK4).trans hk5)
      have HN5 := hide h5
      clear h5 hk5 s8 HO4 HN4 HK4 HE
      go_wp2
      go_roundw
      case rel => exact ⟨k + 1, nx, _, hkn, by go_num, (unhide HB1).nm (unhide HNr).nm (by decide) (by decide) (unhide HK5), (unhide HNX).1, (unhide HNX).2.1, (unhide HNX).2.2, unhide HF2, unhide HN5, (unhide HKr).trans (unhide HK5)⟩
      case measure => simp [intOf]; omega

theorem nblock_nil : NBlockSaid .nil := nblock_step .nil trivial
theorem ninner_all : ∀ b : PB, NInner b
  | .nil => trivial
  | .node _ _ _ .nil n => ⟨nblock_nil, ninner_all n⟩
  | .node _ _ _ (.node _ _ _ t e) n => ⟨nblock_step t (ninner_all t), nblock_step e (ninner_all e), ninner_all n⟩
theorem nblock_all (b : PB) : NBlockSaid b := nblock_step b (ninner_all b)

end Go.Proofs.YtpmcnonmkghokaaGreat
namespace Go.Proofs.YtpmcnonmkghokaaGreat
open Go.RowKit
attribute [local go_sem ↓] Go.wp_at_zero Go.wp_at_succ

theorem owns_take {w : World} {lo e size : Nat} {a : Option Addr} {n cap i : Nat} {xs : List Value} (h : w.ownsRow lo e size (.slice a n cap) n xs) (hi : i ≤ n) : w.ownsRow lo e size (.slice a i cap) i (xs.take (i * size)) := by
  have hm : i * size ≤ n * size := Nat.mul_le_mul_right _ hi
  refine ⟨by rw [List.length_take, h.1]; omega, ?_⟩
  rcases h.2 with ⟨h1, h2⟩ | ⟨g, cap', cur, h1, hg, hh, h3, h4, h5, h6⟩
  · injection h1 with e1 e2 e3
    subst e1 e3
    have : i = 0 := by omega
    subst this
    exact Or.inl ⟨rfl, rfl⟩
  · injection h1 with e1 e2 e3
    subst e1 e3
    refine Or.inr ⟨g, cap, cur, rfl, hg, hh, by omega, h4, h5, ?_⟩
    rw [← h6, List.take_take]
    congr 1
    omega
theorem owns_cap {w : World} {lo e size : Nat} {a : Option Addr} {n cap : Nat} {xs : List Value} (h : w.ownsRow lo e size (.slice a n cap) n xs) : n ≤ cap := by
  rcases h.2 with ⟨h1, h2⟩ | ⟨g, cap', cur, h1, hg, hh, h3, h4, h5, h6⟩
  · omega
  · injection h1 with e1 e2 e3
    omega
theorem pas_take : ∀ (l : List PP) (i : Nat), pasCells (l.take i) = (pasCells l).take (i * 4)
  | [], i => by simp [pasCells]
  | p :: l, 0 => by simp [pasCells]
  | p :: l, i + 1 => by
    have := pas_take l i
    unfold pasCells at *
    rw [List.take_succ_cons, List.flatMap_cons, List.flatMap_cons, this, List.take_append, show (i + 1) * 4 = i * 4 + 4 by omega]
    simp [paCells]

def entC (tab : Tab) (l : List PP) (i : Nat) (p : PP) : Bool := fpB (l.take i) p.name.text.toList || !((lookT tab p.name.text.toList).role == 0)
def entF (tab : Tab) (l : List PP) (a : Int) (i : Nat) (p : PP) : Int := noteIf (setC tab p.set_) (noteIf (entC tab l i p) a p.name) p.set_
theorem Nm.setPs {w : World} {B b : Nat} {tab : Tab} {ps : Value} {z : Int} (h : Nm w B b tab ps z) (u : Value) : Nm (w.setCell ⟨B, 1, none⟩ u) B b tab u z :=
  ⟨heap_setCell_same _ B 1 _ _ _ h.nm, h.tab.other (by simpa using h.ne) _, h.ne⟩
def EnRel (W : World) (B b : Nat) (tab : Tab) (l : List PP) (ps : Value) (fin : Int) (i : Value) (wr : World) : Prop :=
  ∃ (k : Nat) (a : Int), k ≤ l.length ∧ i = .int .i64 k ∧ foldAt (entF tab l) (l.drop k) k a = fin ∧ Nm wr B b tab ps a ∧ Kept B W wr

set_option maxRecDepth 100000 in
set_option maxHeartbeats 4000000 in
theorem enter_any (w : World) (B b lo : Nat) (tab : Tab) (l : List PP) (ps0 : Value) (pa : Option Addr) (pn pc : Nat) (z : Int) (h : Nm w B b tab ps0 z) (ho : w.ownsRow lo 178 4 (.slice pa pn pc) l.length (pasCells l)) (hl : l.length ≤ 1000) (hs : ∀ p ∈ l, p.name.text.size ≤ 1000 ∧ p.set_.text.size ≤ 1000) :
    Calls Tryz.prog 68 #[.pointer (some ⟨B, 0, none⟩), .slice pa pn pc] w fun e w' => e = .returned (.tuple #[]) ∧ Nm w' B b tab (.slice pa pn pc) (foldAt (entF tab l) l 0 z) ∧ Kept B w w' := by
  have hBl := lt_of_block h.nm
  obtain ⟨_, _, _, _, f1, _, _⟩ := h.cells
  obtain ⟨c0, c1, c2, c3, _⟩ := h.cells
  obtain ⟨xa, cap, hxa, hview⟩ := own_viewB ho
  injection hxa with e1 e2 e3
  subst e1 e2 e3
  have HW := hide (show ∀ i, i < l.length → ∃ g, pa = some ⟨g, 0, none⟩ ∧ g ≠ B ∧ ∀ j, j < l.length * 4 → w.cell? ⟨g, j, none⟩ = (pasCells l)[j]? from fun i hi => by
    obtain ⟨g, rfl, _, _, hc⟩ := hview i hi
    exact ⟨g, rfl, fun e => not_row ho h.nm (by decide) (by rw [← e]; rfl), hc⟩)
  obtain ⟨W, hW⟩ : ∃ W, W = w.setCell ⟨B, 1, none⟩ (.slice pa l.length pc) := ⟨_, rfl⟩
  have hKW : Kept B w W := by rw [hW]; exact (Kept.refl _ _).setR _ _
  have hNW : Nm W B b tab (.slice pa l.length pc) z := by rw [hW]; exact h.setPs _
  have hR : EnRel W B b tab l (.slice pa l.length pc) (foldAt (entF tab l) l 0 z) (.int .i64 0) W := ⟨0, z, Nat.zero_le _, rfl, rfl, hNW, Kept.refl _ _⟩
  have HR := hide hR
  have HKW := hide hKW
  have HN := hide h
  have HO := hide ho
  have HS := hide hs
  have HWE := hide hW.symm
  generalize foldAt (entF tab l) l 0 z = fin at *
  clear h ho hview hs hW hKW hNW hR
  go_enter Tryz.func68, Tryz.ntmps68
  go_wp2_with fail
  rw [unhide HWE]
  go_loopw [4, 5, 6, 7, 14] (fun _ _ _ _ i wr => EnRel W B b tab l (.slice pa l.length pc) fin i wr) (fun _ _ _ _ i _ => l.length - (intOf i).toNat)
  case atStart => exact unhide HR
  case round =>
    obtain ⟨k, a0, hk, rfl, hfin, hN, hK⟩ := hrel
    have HNr := hide hN
    have HKr := hide ((unhide HKW).trans hK)
    have HKW2 := hide hK
    have HOr := hide (owns_nm (unhide HO) (unhide HN).nm (by decide) ((unhide HKW).trans hK))
    have hBr := lt_of_block hN.nm
    clear hN hK
    by_cases hlt : k < l.length
    · obtain ⟨g, rfl, hgB, hc⟩ := unhide HW k hlt
      have fl := fun j (hj : j < 4) => flat_at paCells 4 (fun _ => rfl) l k j hlt hj
      have cc : ∀ j, j < 4 → ∀ u, (paCells l[k])[j]? = some u → wr.cell? ⟨g, k * 4 + j, none⟩ = some u := fun j hj u hu => (unhide HKr).cell (a := ⟨g, k * 4 + j, none⟩) hgB ((hc (k * 4 + j) (by omega)).trans ((fl j hj).trans hu))
      have e0 := cc 0 (by omega) _ rfl
      have e1 := cc 1 (by omega) _ rfl
      have e2 := cc 2 (by omega) _ rfl
      have e3 := cc 3 (by omega) _ rfl
      simp only [Nat.add_zero] at e0
      obtain ⟨hs1, hs2⟩ := unhide HS l[k] (List.getElem_mem hlt)
      rw [List.drop_eq_getElem_cons hlt, foldAt] at hfin
      have HF := hide hfin
      have HFX := hide (show entF tab l a0 k l[k] = noteIf (setC tab l[k].set_) (noteIf (entC tab l k l[k]) a0 l[k].name) l[k].set_ from rfl)
      have HEC := hide (show entC tab l k l[k] = (fpB (l.take k) l[k].name.text.toList || !((lookT tab l[k].name.text.toList).role == 0)) from rfl)
      have hOt := owns_take (i := k) (unhide HOr) (by omega)
      rw [← pas_take] at hOt
      have htk : (l.take k).length = k := by rw [List.length_take]; omega
      generalize hl' : l.take k = lt at hOt htk HEC
      generalize l[k] = p at e0 e1 e2 e3 hs1 hs2 HF HFX HEC
      clear cc fl hc hfin hl'
      subst htk
      have hcap : lt.length ≤ pc := by have := owns_cap (unhide HOr); omega
      have hlt1 : lt.length ≤ 1000 := by omega
      have HFP := hide (findParam_any (wr.alloc (.cells #[.string p.name.text, .int .i64 p.name.at_, .string p.set_.text, .int .i64 p.set_.at_] 178)).drew lo lt _ p.name (hOt.alloc _).drew hlt1)
      have HFQ := hide (findParam_any (((wr.alloc (.cells #[.string p.name.text, .int .i64 p.name.at_, .string p.set_.text, .int .i64 p.set_.at_] 178)).alloc (.cells #[.string ⟨#[]⟩, .int .i64 0, .string ⟨#[]⟩, .int .i64 0] 178)).drew) lo lt _ p.name ((hOt.alloc _).alloc _).drew hlt1)
      have HZ := hide (show (((wr.alloc (.cells #[.string p.name.text, .int .i64 p.name.at_, .string p.set_.text, .int .i64 p.set_.at_] 178)).alloc (.cells #[.string ⟨#[]⟩, .int .i64 0, .string ⟨#[]⟩, .int .i64 0] 178)).drew).heap[wr.heap.size + 1]? = some (.cells #[.string ⟨#[]⟩, .int .i64 0, .string ⟨#[]⟩, .int .i64 0] 178 (0, 0)) by
        have := alloc_new (wr.alloc (.cells #[.string p.name.text, .int .i64 p.name.at_, .string p.set_.text, .int .i64 p.set_.at_] 178)) (.cells #[.string ⟨#[]⟩, .int .i64 0, .string ⟨#[]⟩, .int .i64 0] 178)
        simp only [World.size_alloc] at this
        exact this)
      have HSP := hide (alloc_new wr (.cells #[.string p.name.text, .int .i64 p.name.at_, .string p.set_.text, .int .i64 p.set_.at_] 178))
      clear hOt
      unfold ptV at *
      go_upto_region 4 with fail
      go_cut [7] from 19 to 27 (fun v wx => v = .bool (fpB lt p.name.text.toList) ∧ Below (wr.heap.size + 1) (wr.alloc (.cells #[.string p.name.text, .int .i64 p.name.at_, .string p.set_.text, .int .i64 p.set_.at_] 178)) wx)
      case first =>
        go_region_law ((go_simp; go_at_call 97; (first | (refine (unhide HFP).mono ?_; rintro e w2 ⟨rfl, hb2⟩) | (refine (unhide HFQ).mono ?_; rintro e w2 ⟨rfl, hb2⟩; obtain ⟨z0, z1, z2, z3, z4, z5, z6, z7⟩ := row4' (show w2.heap[wr.heap.size + 1]? = _ from (hb2.block _ (by simp)).trans (unhide HZ)))); dsimp only [paV]))
        all_goals
          go_wp2_with fail
          go_meet
          refine ⟨rfl, ?_⟩
          have hsz := hb2.size
          simp at hsz
          first
          | exact (((Below.refl _ _).drew.trans (hb2.mono (by simp))).alloc (by omega) _)
          | exact below_set4 ((((Below.refl _ _).alloc (by simp) _).drew).trans (hb2.mono (by simp))) _ _ _ _
      case rest =>
      obtain ⟨rfl, hb⟩ := hcut
      have hNc := ((unhide HNr).alloc (.cells #[.string p.name.text, .int .i64 p.name.at_, .string p.set_.text, .int .i64 p.set_.at_] 178)).below (hb.mono (by simp))
      have hnb := (hb.block wr.heap.size (by omega)).trans (unhide HSP)
      obtain ⟨d0, d1, d2, d3, _⟩ := row4' hnb
      have hlk := look_run hNc.drew.tab hs1
      have hf := ent_field0 (lookT tab p.name.text.toList)
      obtain ⟨c0, c1, c2, c3, f1, f2, f3⟩ := hNc.cells
      have HNc := hide hNc
      have HKc := hide ((Kept.allocB (P := B) (w := wr) (.cells #[.string p.name.text, .int .i64 p.name.at_, .string p.set_.text, .int .i64 p.set_.at_] 178)).trans (Kept.of_below (hb.mono (by simp))))
      have HSPc := hide hnb
      have HST := hide (fun (W2 : World) (z2 : Int) (h2 : Nm W2 B b tab (.slice (some ⟨g, 0, none⟩) l.length pc) z2) => set_one W2 B b tab _ z2 p.set_ h2 hs2)
      clear hNc hb hnb HZ HFP HFQ HSP
      unfold ptV at *
      generalize lookT tab p.name.text.toList = q at *
      generalize fpB lt p.name.text.toList = r at *
      cases r
      case true =>
        rw [Bool.true_or] at HEC
        have HNT := hide (note_any (wc.drew.drew) B 2 a0 p.name.at_ c2 c3 f2 f3)
        go_wp2
        go_region
        go_wp2
        go_region_law ((go_simp; go_at_call 94; refine (unhide HNT).mono ?_; rintro e w1 ⟨rfl, hw⟩; dsimp only))
        all_goals
          subst hw
          have hsp := ((Kept.refl B wc).drew.drew.trans (Kept.note B 2 wc.drew.drew a0 p.name.at_)).row (b := wr.heap.size) (by omega) (unhide HSPc)
          obtain ⟨_, _, g2, g3, _⟩ := row4' hsp
          go_wp2_with fail
          refine (unhide HST _ _ (((unhide HNc).drew.drew).note (by omega))).mono ?_
          rintro e w6 ⟨rfl, h6, hk6⟩
          have H6 := hide h6
          have HK6 := hide (((((Kept.refl B wc).drew.drew).trans (Kept.note _ _ _ _ _))).trans hk6)
          clear h6 hk6
          go_wp2
          go_roundw
          case rel => exact ⟨lt.length + 1, _, by omega, by go_num, unhide HF, by rw [unhide HFX, unhide HEC]; exact unhide H6, (unhide HKW2).trans ((unhide HKc).trans (unhide HK6))⟩
          case measure => simp [intOf]; omega
      case false =>
        rw [Bool.false_or] at HEC
        cases hc : (q.role != 0)
        case true =>
          have hE : (!(q.role == 0)) = true := hc
          rw [hE] at HEC
          have HNT := hide (note_any (wc.drew.drew) B 2 a0 p.name.at_ c2 c3 f2 f3)
          go_wp2
          go_region
          go_wp2
          go_region_law ((go_simp; go_at_call 94; refine (unhide HNT).mono ?_; rintro e w1 ⟨rfl, hw⟩; dsimp only))
          all_goals
            subst hw
            have hsp := ((Kept.refl B wc).drew.drew.trans (Kept.note B 2 wc.drew.drew a0 p.name.at_)).row (b := wr.heap.size) (by omega) (unhide HSPc)
            obtain ⟨_, _, g2, g3, _⟩ := row4' hsp
            go_wp2_with fail
            refine (unhide HST _ _ (((unhide HNc).drew.drew).note (by omega))).mono ?_
            rintro e w6 ⟨rfl, h6, hk6⟩
            have H6 := hide h6
            have HK6 := hide (((((Kept.refl B wc).drew.drew).trans (Kept.note _ _ _ _ _))).trans hk6)
            clear h6 hk6
            go_wp2
            go_roundw
            case rel => exact ⟨lt.length + 1, _, by omega, by go_num, unhide HF, by rw [unhide HFX, unhide HEC]; exact unhide H6, (unhide HKW2).trans ((unhide HKc).trans (unhide HK6))⟩
            case measure => simp [intOf]; omega
        case false =>
          have hE : (!(q.role == 0)) = false := hc
          rw [hE] at HEC
          go_wp2
          go_region
          obtain ⟨_, _, g2, g3, _⟩ := row4' ((Kept.refl B wc).drew.row (b := wr.heap.size) (by omega) (unhide HSPc))
          go_wp2_with fail
          refine (unhide HST _ _ ((unhide HNc).drew)).mono ?_
          rintro e w6 ⟨rfl, h6, hk6⟩
          have H6 := hide h6
          have HK6 := hide ((((Kept.refl B wc).drew)).trans hk6)
          clear h6 hk6
          go_wp2
          go_roundw
          case rel => exact ⟨lt.length + 1, _, by omega, by go_num, unhide HF, by rw [unhide HFX, unhide HEC]; exact unhide H6, (unhide HKW2).trans ((unhide HKc).trans (unhide HK6))⟩
          case measure => simp [intOf]; omega
    · have hke : k = l.length := by omega
      rw [hke, List.drop_length] at hfin
      have HF := hide hfin
      clear hfin hke
      go_wp2
      go_end0
      exact ⟨rfl, by rw [← unhide HF]; exact unhide HNr, unhide HKr⟩

end Go.Proofs.YtpmcnonmkghokaaGreat
namespace Go.Proofs.YtpmcnonmkghokaaGreat
open Go.RowKit

def wS (tab : Tab) (z : Int) (s : PSet) : Int := noteIf (givenC tab s.name) z s.name
def wM (tab : Tab) (z : Int) (n : Tok) : Int := noteIf (givenC tab n) z n
def wK (tab : Tab) (z : Int) (k : PKind) : Int := k.members.foldl (wM tab) (noteIf (givenC tab k.name) z k.name)
def wV (tab : Tab) (z : Int) (v : VrT) : Int := vtyN tab (noteIf (givenC tab v.name) z v.name) v
def wN (tab : Tab) (z : Int) (r : PRule) : Int := (namesP r.guard).foldl (valN tab r.params) (foldAt (entF tab r.params) r.params 0 (noteIf (givenC tab r.name) z r.name))
def wR (tab : Tab) (z : Int) (r : PRule) : Int := (namesB r.body).foldl (valN tab r.params) ((namesP r.guard).foldl (valN tab r.params) (foldAt (entF tab r.params) r.params 0 (noteIf (givenC tab r.name) z r.name)))
def wt1 (tab : Tab) (m : MdL) : Int := m.sets.foldl (wS tab) (-1)
def wt2 (tab : Tab) (m : MdL) : Int := m.kinds.foldl (wK tab) (wt1 tab m)
def wt3 (tab : Tab) (m : MdL) : Int := m.vars.foldl (wV tab) (wt2 tab m)
def wt4 (tab : Tab) (m : MdL) : Int := m.rules.foldl (wR tab) (wt3 tab m)
def wrongI (tab : Tab) (m : MdL) : Int := m.nevers.foldl (wN tab) (wt4 tab m)
/-- No name in it is too long for the walk. -/
structure MdNm (m : MdL) : Prop where
  vars : ∀ v ∈ m.vars, v.over.text.size ≤ 1000 ∧ v.si.name.text.size ≤ 1000
  rules : ∀ r ∈ m.rules, r.params.length ≤ 1000 ∧ (∀ p ∈ r.params, p.name.text.size ≤ 1000 ∧ p.set_.text.size ≤ 1000) ∧ (∀ y ∈ namesP r.guard, y.text.size ≤ 1000) ∧ BLen r.body ∧ plen r.body ≤ 1000 ∧ (∀ y ∈ namesB r.body, y.text.size ≤ 1000)
  nevers : ∀ r ∈ m.nevers, r.params.length ≤ 1000 ∧ (∀ p ∈ r.params, p.name.text.size ≤ 1000 ∧ p.set_.text.size ≤ 1000) ∧ (∀ y ∈ namesP r.guard, y.text.size ≤ 1000)

def WRel {α : Type} (W : World) (B b : Nat) (tab : Tab) (g : Int → α → Int) (items : List α) (z0 : Int) (i : Value) (wr : World) : Prop :=
  ∃ (k : Nat) (a : Int) (ps : Value), k ≤ items.length ∧ i = .int .i64 k ∧ (items.drop k).foldl g a = items.foldl g z0 ∧ Nm wr B b tab ps a ∧ Kept B W wr
theorem WRel.start {α : Type} {W wr : World} {B b : Nat} {tab : Tab} {g : Int → α → Int} {items : List α} {z : Int} {ps : Value} (hf : Nm wr B b tab ps z) (hk : Kept B W wr) : WRel W B b tab g items z (.int .i64 0) wr :=
  ⟨0, z, ps, Nat.zero_le _, rfl, rfl, hf, hk⟩
theorem WRel.next {α : Type} {W wr : World} {B b : Nat} {tab : Tab} {g : Int → α → Int} {items : List α} {z0 a : Int} {k : Nat} {ps : Value} (hk : k < items.length) (h : (items.drop k).foldl g a = items.foldl g z0) (hf : Nm wr B b tab ps (g a items[k])) (hw : Kept B W wr) :
    WRel W B b tab g items z0 (.int .i64 ((k : Int) + 1)) wr := by
  refine ⟨k + 1, _, ps, hk, by go_num, ?_, hf, hw⟩
  rw [List.drop_eq_getElem_cons hk, List.foldl_cons] at h
  exact h
theorem w_done {α : Type} {g : Int → α → Int} {items : List α} {z0 a : Int} {k : Nat} (hk : ¬ k < items.length) (h : (items.drop k).foldl g a = items.foldl g z0) : a = items.foldl g z0 := by
  rw [List.drop_of_length_le (by omega), List.foldl_nil] at h; exact h

set_option maxRecDepth 100000 in
set_option maxHeartbeats 8000000 in
theorem wrongName_any (w : World) (lo b : Nat) (tab : Tab) (x0 x1 x2 x3 x4 : Value) (m : MdL) (h : MdIs lo w x0 x1 x2 x3 x4 m) (ht : MapIs w b tab) (hok : MdOk m) (hszz : MdSz m) (hnmm : MdNm m) :
    Calls Tryz.prog 28 #[.agg #[x0, x1, x2, x3, x4], .map (some b)] w fun e w' => e = .returned (.agg #[.bool (decide (0 ≤ wrongI tab m)), .int .i64 (fAt (wrongI tab m))]) ∧ Below w.heap.size w w' := by
  obtain ⟨h0, ⟨c1, h1, k1⟩, h2, ⟨c3, h3, k3⟩, ⟨c4, h4, k4⟩⟩ := h
  obtain ⟨hok0, hok1, hok2, hok3, hok4, hok5, hok6⟩ := hok
  have hok : MdOk m := ⟨hok0, hok1, hok2, hok3, hok4, hok5, hok6⟩
  obtain ⟨W, hW⟩ : ∃ W, W = ((w.alloc (.cells #[x0, x1, x2, x3, x4] 33)).alloc (.cells #[.bool false, .int .i64 0] 71)).alloc (.cells #[.map (some b), .slice none 0 0, .bool false, .int .i64 0] 152) := ⟨_, rfl⟩
  have hbl : b < w.heap.size := by obtain ⟨⟨es, c, hb, _⟩, _⟩ := ht; exact lt_of_block hb
  have hbW : Below w.heap.size w W := by
    rw [hW]
    exact ((below_alloc1 w _).trans ((below_alloc1 _ _).mono (by simp))).trans ((below_alloc1 _ _).mono (by simp; omega))
  have hsW : W.heap.size = w.heap.size + 3 := by rw [hW]; simp
  obtain ⟨B, hB⟩ : ∃ B, B = w.heap.size + 2 := ⟨_, rfl⟩
  have HWE := hide hW.symm
  have HBX := hide (show W.heap[w.heap.size]? = some (.cells #[x0, x1, x2, x3, x4] 33 (0, 0)) by rw [hW]; exact alloc_row (alloc_row (alloc_new _ _)))
  have HRS := hide (show W.heap[w.heap.size + 1]? = some (.cells #[.bool false, .int .i64 0] 71 (0, 0)) by
    rw [hW]
    have := alloc_new (w.alloc (.cells #[x0, x1, x2, x3, x4] 33)) (.cells #[.bool false, .int .i64 0] 71)
    simp only [World.size_alloc] at this
    exact alloc_row this)
  have hNW : Nm W B b tab (.slice none 0 0) (-1) := by
    refine ⟨?_, ht.kept hbW, by omega⟩
    rw [hW, hB]
    have := alloc_new ((w.alloc (.cells #[x0, x1, x2, x3, x4] 33)).alloc (.cells #[.bool false, .int .i64 0] 71)) (.cells #[.map (some b), .slice none 0 0, .bool false, .int .i64 0] 152)
    simp only [World.size_alloc] at this
    exact this
  have vw : ∀ {e size : Nat} {v : Value} {n : Nat} {xs : List Value}, w.ownsRow lo e size v n xs → ∃ a cap, v = .slice a n cap ∧ ∀ i, i < n → ∃ g, a = some ⟨g, 0, none⟩ ∧ lo ≤ g ∧ g < w.heap.size ∧ ∀ j, j < n * size → W.cell? ⟨g, j, none⟩ = xs[j]? := by
    intro e size v n xs h
    obtain ⟨a, cap, e1, hv⟩ := own_viewB h
    refine ⟨a, cap, e1, fun i hi => ?_⟩
    obtain ⟨g, q1, q2, q3, q4⟩ := hv i hi
    exact ⟨g, q1, q2, q3, fun j hj => (hbW.cell (p := ⟨g, j, none⟩) q3).trans (q4 j hj)⟩
  obtain ⟨a0, cp0, rfl, v0⟩ := vw h0
  obtain ⟨a1, cp1, rfl, v1⟩ := vw h1
  obtain ⟨a2, cp2, rfl, v2⟩ := vw h2
  obtain ⟨a3, cp3, rfl, v3⟩ := vw h3
  obtain ⟨a4, cp4, rfl, v4⟩ := vw h4
  have HW0 := hide v0
  have HW1 := hide v1
  have HW2 := hide v2
  have HW3 := hide v3
  have HW4 := hide v4
  have HC1 := hide k1
  have HC3 := hide (k3.stay (w' := W) (fun k _ h => hbW.block k h))
  have HC4 := hide (k4.stay (w' := W) (fun k _ h => hbW.block k h))
  have HBW := hide hbW
  have HBE := hide hB
  have HNW := hide hNW
  have hB1 : w.heap.size + 1 < B := by omega
  have hB2 : B < W.heap.size := by omega
  clear h0 h1 h2 h3 h4 k1 k3 k4 v0 v1 v2 v3 v4 vw hsW hB hW hbW hok5 hok6 ht
  have HR0 := hide (show WRel W B b tab (wS tab) m.sets (-1) (.int .i64 0) W from WRel.start hNW (Kept.refl _ _))
  clear hNW
  go_enter Tryz.func28, Tryz.ntmps28
  go_wp2_with fail
  rw [unhide HWE, ← unhide HBE]
  go_loopw [7, 23] (fun _ i wr => WRel W B b tab (wS tab) m.sets (-1) i wr) (fun _ i _ => m.sets.length - (intOf i).toNat)
  case atStart => exact unhide HR0
  case round =>
    obtain ⟨k, a0, ps0, hk, rfl, hfo, hnm, hkp⟩ := hrel
    have HFO := hide hfo
    have HN0 := hide hnm
    have HK := hide hkp
    have hsz := hkp.size
    clear hfo hnm HR0
    by_cases hlt : k < m.sets.length
    · obtain ⟨g, rfl, hg1, hg2, hc⟩ := unhide HW0 k hlt
      have hgB : g ≠ B := by omega
      have fl := fun j (hj : j < 4) => flat_at stC1 4 (fun _ => rfl) m.sets k j hlt hj
      have e0 := hkp.cell (a := ⟨g, k * 4 + 0, none⟩) hgB ((hc (k * 4 + 0) (by omega)).trans (fl 0 (by omega)))
      have e1 := hkp.cell (a := ⟨g, k * 4 + 1, none⟩) hgB ((hc (k * 4 + 1) (by omega)).trans (fl 1 (by omega)))
      have e2 := hkp.cell (a := ⟨g, k * 4 + 2, none⟩) hgB ((hc (k * 4 + 2) (by omega)).trans (fl 2 (by omega)))
      have e3 := hkp.cell (a := ⟨g, k * 4 + 3, none⟩) hgB ((hc (k * 4 + 3) (by omega)).trans (fl 3 (by omega)))
      simp only [stC1, List.getElem?_cons_zero, List.getElem?_cons_succ, Nat.add_zero] at e0 e1 e2 e3
      have HNX := hide (fun (w' : World) (ps : Value) (hf : Nm w' B b tab ps ((wS tab) a0 (m.sets[k]))) (hw : Kept B W w') => WRel.next (W := W) (wr := w') (B := B) (b := b) (tab := tab) (g := (wS tab)) (items := m.sets) (z0 := (-1)) (a := a0) hlt (unhide HFO) hf hw)
      have hns := hszz.sets _ (List.getElem_mem hlt)
      have hwB := lt_of_block (unhide HN0).nm
      generalize m.sets[k] = p at e0 e1 e2 e3 HNX hns
      clear hc fl hkp HFO
      go_wp2_with fail
      refine (given_one _ B b tab ps0 a0 p.name ((unhide HN0).alloc _) hns).mono ?_
      rintro e w1 ⟨rfl, h1, hk1⟩
      have hv1 := hk1.row (b := wr.heap.size) (by omega) (alloc_new _ _)
      have HK1 := hide ((Kept.allocB _).trans hk1)
      have HN1 := hide h1
      have HV1 := hide hv1
      clear h1 hk1 hv1 e0 e1 e2 e3
      have HN := hide (unhide HNX _ _ (unhide HN1) ((unhide HK).trans (unhide HK1)))
      clear HNX
      go_wp2
      go_roundw
      case rel => exact unhide HN
      case measure => simp [intOf]; omega
    · have hd := w_done hlt (unhide HFO)
      rw [hd] at HN0
      have hbx := hkp.row (b := w.heap.size) (by omega) (unhide HBX)
      obtain ⟨_, qx, _, _, _, _⟩ := row5' hbx
      have HR1 := hide (show WRel W B b tab (wK tab) m.kinds (wt1 tab m) (.int .i64 0) wr from WRel.start (unhide HN0) (unhide HK))
      clear hd hbx hkp HN0 HK HFO
      go_wp2_with fail
      go_loopw [9, 11, 34] (fun _ _ i wr => WRel W B b tab (wK tab) m.kinds (wt1 tab m) i wr) (fun _ _ i _ => m.kinds.length - (intOf i).toNat)
      case atStart => exact unhide HR1
      case round =>
        obtain ⟨k, a0, ps0, hk, rfl, hfo, hnm, hkp⟩ := hrel
        have HFO := hide hfo
        have HN0 := hide hnm
        have HK := hide hkp
        have hsz := hkp.size
        clear hfo hnm HR1
        by_cases hlt : k < m.kinds.length
        · obtain ⟨g, rfl, hg1, hg2, hc⟩ := unhide HW1 k hlt
          have hgB : g ≠ B := by omega
          obtain ⟨ma, mn, mc, fl0, fl1, fl2, hm⟩ := kd_at k hlt (unhide HC1)
          have e0 := hkp.cell (a := ⟨g, k * 3, none⟩) hgB ((hc (k * 3) (by omega)).trans fl0)
          have e1 := hkp.cell (a := ⟨g, k * 3 + 1, none⟩) hgB ((hc (k * 3 + 1) (by omega)).trans fl1)
          have e2 := hkp.cell (a := ⟨g, k * 3 + 2, none⟩) hgB ((hc (k * 3 + 2) (by omega)).trans fl2)
          have HNX := hide (fun (w' : World) (ps : Value) (hf : Nm w' B b tab ps ((wK tab) a0 (m.kinds[k]))) (hw : Kept B W w') => WRel.next (W := W) (wr := w') (B := B) (b := b) (tab := tab) (g := (wK tab)) (items := m.kinds) (z0 := (wt1 tab m)) (a := a0) hlt (unhide HFO) hf hw)
          have hns := hszz.kinds _ (List.getElem_mem hlt)
          have hml := hok.members _ (List.getElem_mem hlt)
          have HM := hide hm
          have hwB := lt_of_block (unhide HN0).nm
          generalize m.kinds[k] = p at e0 e1 e2 HNX hns HM hml
          clear hc fl0 fl1 fl2 hm hkp HFO
          go_wp2_with fail
          refine (given_one _ B b tab ps0 a0 p.name ((unhide HN0).alloc _) hns.1).mono ?_
          rintro e w1 ⟨rfl, h1, hk1⟩
          have hv1 := hk1.row (b := wr.heap.size) (by omega) (alloc_new _ _)
          have HK1 := hide ((Kept.allocB _).trans hk1)
          have HN1 := hide h1
          have HV1 := hide hv1
          have hz1 := (unhide HK1).size
          have hvl := lt_of_block hv1
          have HKW1 := hide ((unhide HK).trans (unhide HK1))
          obtain ⟨_, _, g2, _⟩ := row3 hv1
          obtain ⟨mb, mcap, hmeq, hmv⟩ := own_viewB (unhide HM)
          injection hmeq with q1 q2 q3
          subst q1; subst q2; subst q3
          have HMV := hide hmv
          have HRI := hide (show WRel w1 B b tab (wM tab) p.members (noteIf (givenC tab p.name) a0 p.name) (.int .i64 0) w1 from WRel.start h1 (Kept.refl _ _))
          clear hmv h1 hk1 hv1 e0 e1 e2
          go_wp2_with fail
          go_loopw [11, 44] (fun _ i wr => WRel w1 B b tab (wM tab) p.members (noteIf (givenC tab p.name) a0 p.name) i wr) (fun _ i _ => p.members.length - (intOf i).toNat)
          case atStart => exact unhide HRI
          case round =>
            obtain ⟨k5, a5, ps5, hk5, rfl, hfo5, hnm5, hkp5⟩ := hrel
            have HFO5 := hide hfo5
            have HN5 := hide hnm5
            have HK5 := hide hkp5
            have hsz5 := hkp5.size
            clear hfo5 hnm5 HRI
            by_cases hlt5 : k5 < p.members.length
            · obtain ⟨g5, rfl, hg51, hg52, hc5⟩ := unhide HMV k5 hlt5
              have hgB5 : g5 ≠ B := by omega
              have fl := fun j (hj : j < 2) => flat_at ptCells 2 (fun _ => rfl) p.members k5 j hlt5 hj
              have e0 := hkp5.cell (a := ⟨g5, k5 * 2 + 0, none⟩) hgB5 ((unhide HKW1).cell hgB5 (((unhide HBW).cell (p := ⟨g5, k5 * 2 + 0, none⟩) hg52).trans ((hc5 (k5 * 2 + 0) (by omega)).trans (fl 0 (by omega)))))
              have e1 := hkp5.cell (a := ⟨g5, k5 * 2 + 1, none⟩) hgB5 ((unhide HKW1).cell hgB5 (((unhide HBW).cell (p := ⟨g5, k5 * 2 + 1, none⟩) hg52).trans ((hc5 (k5 * 2 + 1) (by omega)).trans (fl 1 (by omega)))))
              simp only [ptCells, List.getElem?_cons_zero, List.getElem?_cons_succ, Nat.add_zero] at e0 e1
              have hns5 := hns.2 _ (List.getElem_mem hlt5)
              have HNX5 := hide (fun (w' : World) (ps : Value) (hf : Nm w' B b tab ps (wM tab a5 (p.members[k5]))) (hw : Kept B w1 w') => WRel.next (W := w1) (wr := w') (B := B) (b := b) (tab := tab) (g := wM tab) (items := p.members) (z0 := noteIf (givenC tab p.name) a0 p.name) (a := a5) hlt5 (unhide HFO5) hf hw)
              generalize p.members[k5] = y5 at e0 e1 HNX5 hns5
              clear hc5 fl hkp5 HFO5
              go_wp2_with fail
              refine (given_one _ B b tab ps5 a5 y5 ((unhide HN5).alloc _) hns5).mono ?_
              rintro e w6 ⟨rfl, h6, hk6⟩
              have HN := hide (unhide HNX5 _ _ h6 (((unhide HK5).alloc _).trans hk6))
              clear h6 hk6 HNX5
              go_wp2
              go_roundw
              case rel => exact unhide HN
              case measure => simp [intOf]; omega
            · have hd5 := w_done hlt5 (unhide HFO5)
              rw [hd5] at HN5
              have HN := hide (unhide HNX _ _ (unhide HN5) ((unhide HKW1).trans (unhide HK5)))
              clear hd5 HNX
              go_wp2
              go_roundw
              case rel => exact unhide HN
              case measure => simp [intOf]; omega
        · have hd := w_done hlt (unhide HFO)
          rw [hd] at HN0
          have hbx := hkp.row (b := w.heap.size) (by omega) (unhide HBX)
          obtain ⟨_, _, qx, _, _, _⟩ := row5' hbx
          have HR2 := hide (show WRel W B b tab (wV tab) m.vars (wt2 tab m) (.int .i64 0) wr from WRel.start (unhide HN0) (unhide HK))
          clear hd hbx hkp HN0 HK HFO
          go_wp2_with fail
          go_loopw [13, 55] (fun _ i wr => WRel W B b tab (wV tab) m.vars (wt2 tab m) i wr) (fun _ i _ => m.vars.length - (intOf i).toNat)
          case atStart => exact unhide HR2
          case round =>
            obtain ⟨k, a0, ps0, hk, rfl, hfo, hnm, hkp⟩ := hrel
            have HFO := hide hfo
            have HN0 := hide hnm
            have HK := hide hkp
            have hsz := hkp.size
            clear hfo hnm HR2
            by_cases hlt : k < m.vars.length
            · obtain ⟨g, rfl, hg1, hg2, hc⟩ := unhide HW2 k hlt
              have hgB : g ≠ B := by omega
              have fl := fun j (hj : j < 10) => flat_at vrCells 10 (fun _ => rfl) m.vars k j hlt hj
              have e0 := hkp.cell (a := ⟨g, k * 10 + 0, none⟩) hgB ((hc (k * 10 + 0) (by omega)).trans (fl 0 (by omega)))
              have e1 := hkp.cell (a := ⟨g, k * 10 + 1, none⟩) hgB ((hc (k * 10 + 1) (by omega)).trans (fl 1 (by omega)))
              have e2 := hkp.cell (a := ⟨g, k * 10 + 2, none⟩) hgB ((hc (k * 10 + 2) (by omega)).trans (fl 2 (by omega)))
              have e3 := hkp.cell (a := ⟨g, k * 10 + 3, none⟩) hgB ((hc (k * 10 + 3) (by omega)).trans (fl 3 (by omega)))
              have e4 := hkp.cell (a := ⟨g, k * 10 + 4, none⟩) hgB ((hc (k * 10 + 4) (by omega)).trans (fl 4 (by omega)))
              have e5 := hkp.cell (a := ⟨g, k * 10 + 5, none⟩) hgB ((hc (k * 10 + 5) (by omega)).trans (fl 5 (by omega)))
              have e6 := hkp.cell (a := ⟨g, k * 10 + 6, none⟩) hgB ((hc (k * 10 + 6) (by omega)).trans (fl 6 (by omega)))
              have e7 := hkp.cell (a := ⟨g, k * 10 + 7, none⟩) hgB ((hc (k * 10 + 7) (by omega)).trans (fl 7 (by omega)))
              have e8 := hkp.cell (a := ⟨g, k * 10 + 8, none⟩) hgB ((hc (k * 10 + 8) (by omega)).trans (fl 8 (by omega)))
              have e9 := hkp.cell (a := ⟨g, k * 10 + 9, none⟩) hgB ((hc (k * 10 + 9) (by omega)).trans (fl 9 (by omega)))
              simp only [vrCells, List.getElem?_cons_zero, List.getElem?_cons_succ, Nat.add_zero] at e0 e1 e2 e3 e4 e5 e6 e7 e8 e9
              have HNX := hide (fun (w' : World) (ps : Value) (hf : Nm w' B b tab ps ((wV tab) a0 (m.vars[k]))) (hw : Kept B W w') => WRel.next (W := W) (wr := w') (B := B) (b := b) (tab := tab) (g := (wV tab)) (items := m.vars) (z0 := (wt2 tab m)) (a := a0) hlt (unhide HFO) hf hw)
              have hns := hszz.vars _ (List.getElem_mem hlt)
              have hnn := hnmm.vars _ (List.getElem_mem hlt)
              have hwB := lt_of_block (unhide HN0).nm
              generalize m.vars[k] = p at e0 e1 e2 e3 e4 e5 e6 e7 e8 e9 HNX hns hnn
              clear hc fl hkp HFO
              go_wp2_with fail
              refine (given_one _ B b tab ps0 a0 p.name ((unhide HN0).alloc _) hns).mono ?_
              rintro e w1 ⟨rfl, h1, hk1⟩
              have hv1 := hk1.row (b := wr.heap.size) (by omega) (alloc_new _ _)
              have HK1 := hide ((Kept.allocB _).trans hk1)
              have HN1 := hide h1
              have HV1 := hide hv1
              obtain ⟨⟨g0, g1, g2, g3, g4, g5, g6, g7, g8, g9⟩, _⟩ := row10' hv1
              have HVT := hide (varType_one w1 B b tab ps0 _ p h1 hnn.1 hnn.2)
              unfold vrV vrCells at HVT
              clear h1 hk1 hv1 e0 e1 e2 e3 e4 e5 e6 e7 e8 e9
              go_wp2_with fail
              refine (unhide HVT).mono ?_
              rintro e w2 ⟨rfl, h2, hk2⟩
              have HK2 := hide ((unhide HK1).trans hk2)
              have HN2 := hide h2
              clear h2 hk2 HVT
              have HN := hide (unhide HNX _ _ (unhide HN2) ((unhide HK).trans (unhide HK2)))
              clear HNX
              go_wp2
              go_roundw
              case rel => exact unhide HN
              case measure => simp [intOf]; omega
            · have hd := w_done hlt (unhide HFO)
              rw [hd] at HN0
              have hbx := hkp.row (b := w.heap.size) (by omega) (unhide HBX)
              obtain ⟨_, _, _, qx, _, _⟩ := row5' hbx
              have HR3 := hide (show WRel W B b tab (wR tab) m.rules (wt3 tab m) (.int .i64 0) wr from WRel.start (unhide HN0) (unhide HK))
              clear hd hbx hkp HN0 HK HFO
              go_wp2_with fail
              go_loopw [15, 68] (fun _ i wr => WRel W B b tab (wR tab) m.rules (wt3 tab m) i wr) (fun _ i _ => m.rules.length - (intOf i).toNat)
              case atStart => exact unhide HR3
              case round =>
                obtain ⟨k, a0, ps0, hk, rfl, hfo, hnm, hkp⟩ := hrel
                have HFO := hide hfo
                have HN0 := hide hnm
                have HK := hide hkp
                have hsz := hkp.size
                clear hfo hnm HR3
                by_cases hlt : k < m.rules.length
                · obtain ⟨g, rfl, hg1, hg2, hc⟩ := unhide HW3 k hlt
                  have hgB : g ≠ B := by omega
                  obtain ⟨pa, pn, pc, gp, ba, bn, bc, bcs, ⟨fl0, fl1, fl2, fl3, fl4⟩, hi1, hi2, hi3, hi4⟩ := ru_at k hlt (unhide HC3)
                  have e0 := hkp.cell (a := ⟨g, k * 5, none⟩) hgB ((hc (k * 5) (by omega)).trans fl0)
                  have e1 := hkp.cell (a := ⟨g, k * 5 + 1, none⟩) hgB ((hc (k * 5 + 1) (by omega)).trans fl1)
                  have e2 := hkp.cell (a := ⟨g, k * 5 + 2, none⟩) hgB ((hc (k * 5 + 2) (by omega)).trans fl2)
                  have e3 := hkp.cell (a := ⟨g, k * 5 + 3, none⟩) hgB ((hc (k * 5 + 3) (by omega)).trans fl3)
                  have e4 := hkp.cell (a := ⟨g, k * 5 + 4, none⟩) hgB ((hc (k * 5 + 4) (by omega)).trans fl4)
                  have HNX := hide (fun (w' : World) (ps : Value) (hf : Nm w' B b tab ps ((wR tab) a0 (m.rules[k]))) (hw : Kept B W w') => WRel.next (W := W) (wr := w') (B := B) (b := b) (tab := tab) (g := (wR tab)) (items := m.rules) (z0 := (wt3 tab m)) (a := a0) hlt (unhide HFO) hf hw)
                  have hns := hszz.rules _ (List.getElem_mem hlt)
                  have hnn := hnmm.rules _ (List.getElem_mem hlt)
                  have HI := hide (⟨owns_nm hi1 (unhide HNW).nm (by decide) hkp, XIs.nm (unhide HNW).nm (by decide) hkp hi2, owns_nm hi3 (unhide HNW).nm (by decide) hkp, BIs.nm (unhide HNW).nm (by decide) (by decide) hkp hi4⟩ : wr.ownsRow lo 178 4 (.slice pa pn pc) (m.rules[k]).params.length (pasCells (m.rules[k]).params) ∧ XIs lo wr (m.rules[k]).guard (.pointer gp) ∧ wr.ownsRow lo 189 9 (.slice ba bn bc) (plen (m.rules[k]).body) bcs ∧ BIs lo none wr (m.rules[k]).body bcs)
                  have hwB := lt_of_block (unhide HN0).nm
                  clear hi1 hi2 hi3 hi4
                  generalize m.rules[k] = p at e0 e1 e2 e3 e4 HNX hns hnn HI
                  clear hc fl0 fl1 fl2 fl3 fl4 hkp HFO
                  go_wp2_with fail
                  refine (given_one _ B b tab ps0 a0 p.name ((unhide HN0).alloc _) hns).mono ?_
                  rintro e w1 ⟨rfl, h1, hk1⟩
                  have hv1 := hk1.row (b := wr.heap.size) (by omega) (alloc_new _ _)
                  have HK1 := hide ((Kept.allocB _).trans hk1)
                  have HN1 := hide h1
                  have HV1 := hide hv1
                  obtain ⟨_, _, g2, _, _, _⟩ := row5' hv1
                  have HEN := hide (enter_any w1 B b lo tab p.params ps0 pa pn pc _ h1 (owns_nm ((unhide HI).1.alloc _) ((unhide HN0).alloc _).nm (by decide) hk1) hnn.1 hnn.2.1)
                  clear h1 hk1 hv1 e0 e1 e2 e3 e4
                  go_wp2_with fail
                  refine (unhide HEN).mono ?_
                  rintro e w2 ⟨rfl, h2, hk2⟩
                  have hv2 := hk2.row (b := wr.heap.size) (by omega) (unhide HV1)
                  obtain ⟨_, _, _, g3, _, _⟩ := row5' hv2
                  have HV2 := hide hv2
                  have HK2 := hide ((unhide HK1).trans hk2)
                  have HN2 := hide h2
                  clear h2 hk2 HEN g2 hv2 HV1 HK1 HN1
                  go_wp2_with fail
                  refine (nexpr_all p.guard w2 B b lo lo tab p.params pa pn pc _ _ (unhide HN2) (owns_nm (unhide HI).1 (unhide HN0).nm (by decide) (unhide HK2)) hnn.1 (XIs.nm (unhide HN0).nm (by decide) (unhide HK2) (unhide HI).2.1) hnn.2.2.1).mono ?_
                  rintro e w3 ⟨rfl, h3, hk3⟩
                  have hv3 := hk3.row (b := wr.heap.size) (by omega) (unhide HV2)
                  have HV3 := hide hv3
                  have HK3 := hide ((unhide HK2).trans hk3)
                  have HN3 := hide h3
                  obtain ⟨_, _, _, _, g4, _⟩ := row5' hv3
                  clear h3 hk3 g3 hv3 HV2 HK2 HN2
                  go_wp2_with fail
                  refine (nblock_all p.body w3 B b lo lo none tab p.params pa pn pc _ _ bcs (unhide HN3) (owns_nm (unhide HI).1 (unhide HN0).nm (by decide) (unhide HK3)) hnn.1 (owns_nm (unhide HI).2.2.1 (unhide HN0).nm (by decide) (unhide HK3)) (BIs.nm (unhide HN0).nm (by decide) (by decide) (unhide HK3) (unhide HI).2.2.2) hnn.2.2.2.1 hnn.2.2.2.2.1 hnn.2.2.2.2.2).mono ?_
                  rintro e w4 ⟨rfl, h4, hk4⟩
                  have HK4 := hide ((unhide HK3).trans hk4)
                  have HN4 := hide h4
                  clear h4 hk4 g4 HV3 HK3 HN3
                  have HN := hide (unhide HNX _ _ (unhide HN4) ((unhide HK).trans (unhide HK4)))
                  clear HNX
                  go_wp2
                  go_roundw
                  case rel => exact unhide HN
                  case measure => simp [intOf]; omega
                · have hd := w_done hlt (unhide HFO)
                  rw [hd] at HN0
                  have hbx := hkp.row (b := w.heap.size) (by omega) (unhide HBX)
                  obtain ⟨_, _, _, _, qx, _⟩ := row5' hbx
                  have HR4 := hide (show WRel W B b tab (wN tab) m.nevers (wt4 tab m) (.int .i64 0) wr from WRel.start (unhide HN0) (unhide HK))
                  clear hd hbx hkp HN0 HK HFO
                  go_wp2_with fail
                  go_loopw [17, 88] (fun _ i wr => WRel W B b tab (wN tab) m.nevers (wt4 tab m) i wr) (fun _ i _ => m.nevers.length - (intOf i).toNat)
                  case atStart => exact unhide HR4
                  case round =>
                    obtain ⟨k, a0, ps0, hk, rfl, hfo, hnm, hkp⟩ := hrel
                    have HFO := hide hfo
                    have HN0 := hide hnm
                    have HK := hide hkp
                    have hsz := hkp.size
                    clear hfo hnm HR4
                    by_cases hlt : k < m.nevers.length
                    · obtain ⟨g, rfl, hg1, hg2, hc⟩ := unhide HW4 k hlt
                      have hgB : g ≠ B := by omega
                      obtain ⟨pa, pn, pc, gp, ⟨fl0, fl1, fl2, fl3⟩, hi1, hi2⟩ := nv_at k hlt (unhide HC4)
                      have e0 := hkp.cell (a := ⟨g, k * 4, none⟩) hgB ((hc (k * 4) (by omega)).trans fl0)
                      have e1 := hkp.cell (a := ⟨g, k * 4 + 1, none⟩) hgB ((hc (k * 4 + 1) (by omega)).trans fl1)
                      have e2 := hkp.cell (a := ⟨g, k * 4 + 2, none⟩) hgB ((hc (k * 4 + 2) (by omega)).trans fl2)
                      have e3 := hkp.cell (a := ⟨g, k * 4 + 3, none⟩) hgB ((hc (k * 4 + 3) (by omega)).trans fl3)
                      have HNX := hide (fun (w' : World) (ps : Value) (hf : Nm w' B b tab ps ((wN tab) a0 (m.nevers[k]))) (hw : Kept B W w') => WRel.next (W := W) (wr := w') (B := B) (b := b) (tab := tab) (g := (wN tab)) (items := m.nevers) (z0 := (wt4 tab m)) (a := a0) hlt (unhide HFO) hf hw)
                      have hns := hszz.nevers _ (List.getElem_mem hlt)
                      have hnn := hnmm.nevers _ (List.getElem_mem hlt)
                      have HI := hide (⟨owns_nm hi1 (unhide HNW).nm (by decide) hkp, XIs.nm (unhide HNW).nm (by decide) hkp hi2⟩ : wr.ownsRow lo 178 4 (.slice pa pn pc) (m.nevers[k]).params.length (pasCells (m.nevers[k]).params) ∧ XIs lo wr (m.nevers[k]).guard (.pointer gp))
                      have hwB := lt_of_block (unhide HN0).nm
                      clear hi1 hi2
                      generalize m.nevers[k] = p at e0 e1 e2 e3 HNX hns hnn HI
                      clear hc fl0 fl1 fl2 fl3 hkp HFO
                      go_wp2_with fail
                      refine (given_one _ B b tab ps0 a0 p.name ((unhide HN0).alloc _) hns).mono ?_
                      rintro e w1 ⟨rfl, h1, hk1⟩
                      have hv1 := hk1.row (b := wr.heap.size) (by omega) (alloc_new _ _)
                      have HK1 := hide ((Kept.allocB _).trans hk1)
                      have HN1 := hide h1
                      have HV1 := hide hv1
                      obtain ⟨_, _, g2, _, _⟩ := row4' hv1
                      have HEN := hide (enter_any w1 B b lo tab p.params ps0 pa pn pc _ h1 (owns_nm ((unhide HI).1.alloc _) ((unhide HN0).alloc _).nm (by decide) hk1) hnn.1 hnn.2.1)
                      clear h1 hk1 hv1 e0 e1 e2 e3
                      go_wp2_with fail
                      refine (unhide HEN).mono ?_
                      rintro e w2 ⟨rfl, h2, hk2⟩
                      have hv2 := hk2.row (b := wr.heap.size) (by omega) (unhide HV1)
                      obtain ⟨_, _, _, g3, _⟩ := row4' hv2
                      have HV2 := hide hv2
                      have HK2 := hide ((unhide HK1).trans hk2)
                      have HN2 := hide h2
                      clear h2 hk2 HEN g2 hv2 HV1 HK1 HN1
                      go_wp2_with fail
                      refine (nexpr_all p.guard w2 B b lo lo tab p.params pa pn pc _ _ (unhide HN2) (owns_nm (unhide HI).1 (unhide HN0).nm (by decide) (unhide HK2)) hnn.1 (XIs.nm (unhide HN0).nm (by decide) (unhide HK2) (unhide HI).2) hnn.2.2).mono ?_
                      rintro e w3 ⟨rfl, h3, hk3⟩
                      have hv3 := hk3.row (b := wr.heap.size) (by omega) (unhide HV2)
                      have HV3 := hide hv3
                      have HK3 := hide ((unhide HK2).trans hk3)
                      have HN3 := hide h3
                      clear h3 hk3 g3 hv3 HV2 HK2 HN2
                      have HN := hide (unhide HNX _ _ (unhide HN3) ((unhide HK).trans (unhide HK3)))
                      clear HNX
                      go_wp2
                      go_roundw
                      case rel => exact unhide HN
                      case measure => simp [intOf]; omega
                    · have hd := w_done hlt (unhide HFO)
                      rw [hd] at HN0
                      have hbx := hkp.row (b := w.heap.size) (by omega) (unhide HBX)
                      have hrs := hkp.row (b := w.heap.size + 1) (by omega) (unhide HRS)
                      obtain ⟨_, _, s2, s3, _⟩ := (unhide HN0).cells
                      obtain ⟨t0, t1, t2, t3⟩ := row2 hrs
                      have HRS2 := hide hrs
                      clear hd hbx HFO hrs
                      go_wp2
                      refine bodyPost_ret (v := .agg #[.bool (decide (0 ≤ wrongI tab m)), .int .i64 (fAt (wrongI tab m))]) (results_cell_row Tryz.results28 _ _ (w.heap.size + 1) _ _ _ _ rfl (set2 (unhide HRS2) _ _) Tryz.underlying71 rfl (by kernel_rfl)) rfl ?_
                      refine ⟨rfl, ?_⟩
                      exact (((unhide HBW).trans (Kept.toBelow (B := w.heap.size) (unhide HK) (by omega) (by omega))).setCell (by simp) _).setCell (by simp) _

end Go.Proofs.YtpmcnonmkghokaaGreat

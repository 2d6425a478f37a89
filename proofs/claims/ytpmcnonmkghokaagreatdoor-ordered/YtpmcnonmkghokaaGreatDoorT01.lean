/-
  The program's Scan: the tokens of a text, or the place at which none begins: those of refToks.
  The reference's Reader: kind and place.
  The reference's expressions, plainly: rX, what level and atom of the Reader make of the tokens.
  The reference's atom, walked: it makes what rX says, if level and atom do so with less fuel.
  The program's parser: its state in memory, and peek, is, fail, accept, expect, open, shut; and what a token's text says: isReserved, isName, isDigit.
-/
import Derived.Test.YtpmcnonmkghokaaGreatDoorT00
import Derived.OwnWalk
set_option linter.unusedVariables false
set_option linter.unusedSimpArgs false
namespace Go.Proofs.YtpmcnonmkghokaaGreatDoor
open Go.RowKit
def ptCells (t : Tok) : List Value := [.string t.text, .int .i64 t.at_]
def ptV (t : Tok) : Value := .agg #[.string t.text, .int .i64 t.at_]
def ptsCells (l : List Tok) : List Value := l.flatMap ptCells
theorem ptsCells_snoc (l : List Tok) (t : Tok) : ptsCells (l ++ [t]) = ptsCells l ++ ptCells t := by simp [ptsCells]
theorem ptCells_one (t : Tok) : ∀ u ∈ ptCells t, u.oneCell' = true := by
  intro u h
  simp only [ptCells, List.mem_cons, List.not_mem_nil, or_false] at h
  rcases h with rfl | rfl <;> rfl
theorem Tryz.infoToken : (Tryz.prog.info? 194).map (fun i => (i.zero, i.size, i.bytes)) = some (some (.agg #[.string ⟨#[]⟩, .int .i64 0]), 2, 24) := by kernel_rfl

def ScanRel (s : ByteArray) (w : World) (v i : Value) (wr : World) : Prop :=
  ∃ (k f : Nat) (acc : List Tok), k ≤ s.size ∧ i = .int .i64 k ∧ acc.length ≤ k ∧ s.size - k < f ∧ toksF f s k acc = refToks s ∧
    wr.ownsRow w.heap.size 194 2 v acc.length (ptsCells acc) ∧ Below w.heap.size w wr

def ScanPost (s : ByteArray) (w : World) (e : Ending) (w' : World) : Prop :=
  Below w.heap.size w w' ∧ (((refToks s).2 = none ∧ ∃ v, e = .returned (.tuple #[v, .int .i64 0, .bool true]) ∧ w'.ownsRow w.heap.size 194 2 v (refToks s).1.length (ptsCells (refToks s).1)) ∨
    ∃ k : Nat, (refToks s).2 = some k ∧ e = .returned (.tuple #[.slice none 0 0, .int .i64 k, .bool false]))

theorem tLen_of {t : Tok} (h : t.kind.toList.isEmpty = false) : tLen t = t.text.size := by unfold tLen; rw [h]; rfl
theorem tLen_no {t : Tok} (h : t.kind.toList.isEmpty = true) : tLen t = 0 := by unfold tLen; rw [h]; rfl
theorem blank_byte {s : ByteArray} {k : Nat} (h : k < s.size) : ((((s[k]).toNat : Int) == 32) || (((s[k]).toNat : Int) == 10)) = blankB s k := by simp [blankB, h]

theorem scanRel_blank {f : Nat} {s : ByteArray} {k : Nat} {acc : List Tok} {w wr : World} {v : Value} (hb : blankB s k = true) (hk : k < s.size) (hf : toksF f s k acc = refToks s) (hfu : s.size - k < f) (hac : acc.length ≤ k)
    (hown : wr.ownsRow w.heap.size 194 2 v acc.length (ptsCells acc)) (hbel : Below w.heap.size w wr) : ScanRel s w v (.int .i64 ((k : Int) + 1)) wr := by
  obtain ⟨f, rfl⟩ : ∃ g, f = g + 1 := ⟨f - 1, by omega⟩
  rw [toksF_blank hb hk] at hf
  exact ⟨k + 1, f, acc, by omega, by go_num, by omega, by omega, hf, hown, hbel⟩

/-- The text of the token at a place. -/
theorem tokAt_cut (s : ByteArray) (k : Nat) (hk : k < s.size) : s.extract k (k + (tokAt s k).text.size) = (tokAt s k).text := by
  unfold tokAt
  have e7 := wEnd_bd s 800 (k + 1) (by omega)
  split
  · rename_i hl
    have h2 : wEnd 801 s k = wEnd 800 s (k + 1) := by rw [wEnd, if_pos hl]
    simp only
    rw [extract_size _ _ _ (by omega), show k + (wEnd 801 s k - k) = wEnd 801 s k by omega]
  · split
    · simp only; rw [extract_size _ _ _ (by omega), show k + (k + 1 - k) = k + 1 by omega]
    · split
      · rename_i h2
        have : k + 1 < s.size := by unfold twoB at h2; simp at h2; exact h2.1
        simp only; rw [extract_size _ _ _ (by omega), show k + (k + 2 - k) = k + 2 by omega]
      · simp only; rw [extract_size _ _ _ (by omega), show k + (k + 1 - k) = k + 1 by omega]

set_option maxRecDepth 100000 in
set_option maxHeartbeats 1000000 in
theorem scan_any (s : ByteArray) (w : World) (hs : s.size ≤ 800) :
    Calls Tryz.prog 51 #[.string s] w fun e w' => ScanPost s w e w' := by
  obtain ⟨i0, hi, hz0, hz1, hz2⟩ := info_parts Tryz.infoToken
  go_enter Tryz.func51, Tryz.ntmps51
  go_wp2
  go_loopw [2, 5, 6] (fun v i _ wr => ScanRel s w v i wr) (fun _ i _ _ => s.size - (intOf i).toNat)
  case atStart => exact ⟨0, 801, [], by omega, rfl, by simp, by omega, rfl, World.ownsRow_nil _ _ _ _, Below.refl _ _⟩
  case round =>
    obtain ⟨k, f, acc, hk, rfl, hac, hf, hfe, hown, hbel⟩ := hrel
    have HF := hide hfe
    have HO := hide hown
    have HB := hide hbel
    have hsz := hbel.size
    clear hfe hown hbel
    by_cases hlt : k < s.size
    · cases hbl : blankB s k
      · go_wp2_with fail
        refine (isBlank_any _ _).mono ?_
        rintro e w' ⟨rfl, rfl⟩
        rw [blank_byte hlt, hbl]
        go_wp2_with fail
        have hsh := tokAt_shift s k hlt
        have htl : tLen (tokAt (s.extract k s.size) 0) = tLen (tokAt s k) := by unfold tLen; rw [hsh.1, hsh.2]
        refine (tokenLength_any (s.extract k s.size) _ (by rw [extract_size _ _ _ (Nat.le_refl _)]; omega) (by rw [extract_size _ _ _ (Nat.le_refl _)]; omega)).mono ?_
        rintro e w' ⟨rfl, rfl⟩
        rw [htl]
        have htx := tokAt_text s k hlt
        have hcut := tokAt_cut s k hlt
        have HF1 := hide (toksF_step hbl hlt (unhide HF))
        have hat := tokAt_at s k
        clear hsh htl HF
        generalize tokAt s k = t at htx HF1 hcut hat ⊢
        cases hem : t.kind.toList.isEmpty
        · rw [tLen_of hem]
          have hne : ¬ ((t.text.size : Int) = 0) := by omega
          have hcut' : s.extract k (k + t.text.size) = t.text := hcut
          have hadd : ((k : Int) + (t.text.size : Int)).toNat = k + t.text.size := by omega
          go_wp2_with (at_builtin; refine wpList_append_own _ rfl _ _ 89 rfl w.heap.size 194 i0 _ 2 24 Tryz.underlying89 hi hz0 hz1 hz2 rfl (by decide) _ _ _ rfl ((unhide HO).alloc _) ⟨w'.heap.size, 0, none⟩ 1 1 (ptCells t) rfl rfl ?c1 ?c2 ?c3 ?c4 ?c5 ?_)
          case c1 =>
            intro j u hu
            have := cells_new w' _ (ptCells t) 194 rfl j u hu
            simp only [ptCells] at this
            rw [hat] at this
            exact this
          case c2 => exact ptCells_one t
          case c3 => unfold maxLen; omega
          case c4 => omega
          case c5 => simp; omega
          intro v' w2 hown' hgrow _
          have hb2 : Below w.heap.size w w2 := ((unhide HB).alloc (by omega) _).grown hgrow (by simp; omega) (own_ge (unhide HO))
          have HO2 := hide hown'
          have HB2 := hide hb2
          clear hown' hgrow hb2
          have R : ScanRel s w v' (.int .i64 ((k : Int) + t.text.size)) w2 :=
            ⟨k + t.text.size, f - 1, acc ++ [t], by omega, by go_num, by simp; omega, by omega, ((unhide HF1) (f - 1) (by omega)).2 hem, by rw [ptsCells_snoc, List.length_append]; exact unhide HO2, unhide HB2⟩
          have HR := hide R
          clear R
          go_wp2
          go_roundw
          case rel => exact unhide HR
          case measure => simp [intOf]; omega
        · rw [tLen_no hem]
          go_wp2
          go_ret3
          exact ⟨unhide HB, Or.inr ⟨k, by rw [((unhide HF1) (f - 1) (by omega)).1 hem], rfl⟩⟩
      · have HR := hide (scanRel_blank hbl hlt (unhide HF) hf hac (unhide HO) (unhide HB))
        go_wp2_with fail
        refine (isBlank_any _ _).mono ?_
        rintro e w' ⟨rfl, rfl⟩
        rw [blank_byte hlt, hbl]
        go_wp2
        go_roundw
        case rel => exact unhide HR
        case measure => simp [intOf]; omega
    · go_wp2_with (at_builtin; refine wpList_append_own _ rfl _ _ 89 rfl w.heap.size 194 i0 _ 2 24 Tryz.underlying89 hi hz0 hz1 hz2 rfl (by decide) _ _ _ rfl ((unhide HO).alloc _) ⟨wr.heap.size, 0, none⟩ 1 1 (ptCells (endTok s.size)) rfl rfl ?d1 ?d2 ?d3 ?d4 ?d5 ?_)
      case d1 => exact cells_new wr _ (ptCells (endTok s.size)) _ rfl
      case d2 => exact ptCells_one _
      case d3 => unfold maxLen; omega
      case d4 => omega
      case d5 => simp; omega
      intro v' w2 hown' hgrow _
      have hb2 : Below w.heap.size w w2 := ((unhide HB).alloc (by omega) _).grown hgrow (by simp; omega) (own_ge (unhide HO))
      obtain ⟨f, rfl⟩ : ∃ g, f = g + 1 := ⟨f - 1, by omega⟩
      have hfe := unhide HF
      rw [toksF, if_neg hlt] at hfe
      have HE := hide hfe
      have HO2 := hide hown'
      have HB2 := hide hb2
      clear hown' hgrow hfe hb2 HF HO HB
      go_wp2
      go_ret3
      refine ⟨unhide HB2, Or.inl ⟨by rw [← unhide HE], _, rfl, ?_⟩⟩
      have := unhide HO2
      rw [← unhide HE, ptsCells_snoc, List.length_append]
      exact this

end Go.Proofs.YtpmcnonmkghokaaGreatDoor
namespace Go.Proofs.YtpmcnonmkghokaaGreatDoor
open Go.RowKit
def noTok : Tok := { kind := ⟨#[]⟩, text := ⟨#[]⟩, at_ := 0 }
def rKindOk (L : List Tok) (k : List UInt8) (st : RS) : Bool := !st.bad && ((tk L st.at_).kind.toList == k)
def rKind (L : List Tok) (k : List UInt8) (st : RS) : Tok × RS :=
  if rKindOk L k st then (tk L st.at_, { st with at_ := st.at_ + 1 }) else (noTok, { st with bad := true })

theorem kind_lt {w : World} {R : Nat} {v : Value} {L : List Tok} {st : RS} {s : List UInt8} (h : Rd w R v L st) (hs : (s == [101, 110, 100]) = false) (hn : rKindOk L s st = true) : st.at_ + 1 < L.length ∧ st.bad = false := by
  unfold rKindOk at hn
  simp only [Bool.and_eq_true, Bool.not_eq_true'] at hn
  refine ⟨h.fin _ h.lt ?_, hn.1⟩
  have e := hn.2
  rw [beq_iff_eq] at e; rw [e]; exact hs

theorem Rd.setBad {w : World} {R : Nat} {v : Value} {L : List Tok} {st : RS} (h : Rd w R v L st) : Rd (w.setCell ⟨R, 3, none⟩ (.bool true)) R v L { st with bad := true } :=
  h.put (st' := { st with bad := true }) ((Kept.refl _ _).setR _ _) (set4_3 h.rd _) h.lt h.nlo h.nhi
theorem Rd.step {w : World} {R : Nat} {v : Value} {L : List Tok} {st : RS} (h : Rd w R v L st) (h1 : st.at_ + 1 < L.length) : Rd (w.setCell ⟨R, 1, none⟩ (.int .i64 ((st.at_ : Int) + 1))) R v L { st with at_ := st.at_ + 1 } :=
  h.put (st' := { st with at_ := st.at_ + 1 }) ((Kept.refl _ _).setR _ _) (set4_1 h.rd _) h1 (by have := h.nlo; simp; omega) h.nhi

theorem below_alloc2_drew (w : World) (o p : Obj) : Below w.heap.size w ((w.alloc o).alloc p).drew := (((Below.refl _ _).alloc (Nat.le_refl _) _).alloc (by simp) _).drew

set_option maxRecDepth 100000 in
set_option maxHeartbeats 1000000 in
theorem kind_any (s : ByteArray) (w : World) (R : Nat) (v : Value) (L : List Tok) (st : RS) (h : Rd w R v L st) (hs : (s.toList == [101, 110, 100]) = false) :
    Calls Tryz.prog 106 #[.pointer (some ⟨R, 0, none⟩), .string s] w fun e w' => e = .returned (tokV (rKind L s.toList st).1) ∧ Rd w' R v L (rKind L s.toList st).2 ∧ Kept R w w' := by
  obtain ⟨c0, c1, c2, c3, f0, f1, f2, f3⟩ := row4 h.rd
  have H := hide h
  obtain ⟨g, cap, hv, hg, hgl, hRl, t0, t1, t2⟩ := h.open
  have HV := hide hv
  rw [hv] at c0
  have hlt := h.lt
  have hlen := h.len
  clear h hv
  cases hok : rKindOk L s.toList st
  · have E := hide (show rKind L s.toList st = (noTok, { st with bad := true }) by simp [rKind, hok])
    cases hb : st.bad
    · have hq : ((tk L st.at_).kind.toList == s.toList) = false := by simpa [rKindOk, hb] using hok
      rw [hb] at c3
      clear hok
      generalize tk L st.at_ = t at t0 t1 t2 hq
      go_enter Tryz.func106, Tryz.ntmps106
      go_wp2
      go_region
      go_wp2
      refine bodyPost_ret (v := tokV noTok) (by simp [results, Tryz.results106, go_sem, tokV, noTok]) rfl ?_
      rw [unhide E]
      exact ⟨rfl, (unhide H).setBad.below (below_alloc2_drew _ _ _), ((((Kept.refl _ _).setR _ _).alloc _).alloc _).drew⟩
    · rw [hb] at c3
      clear hok
      generalize tk L st.at_ = t at t0 t1 t2
      go_enter Tryz.func106, Tryz.ntmps106
      go_wp2
      go_region
      go_wp2
      refine bodyPost_ret (v := tokV noTok) (by simp [results, Tryz.results106, go_sem, tokV, noTok]) rfl ?_
      rw [unhide E]
      exact ⟨rfl, (unhide H).setBad.below (below_alloc2_drew _ _ _), ((((Kept.refl _ _).setR _ _).alloc _).alloc _).drew⟩
  · have hl := kind_lt (unhide H) hs hok
    have E := hide (show rKind L s.toList st = (tk L st.at_, { st with at_ := st.at_ + 1 }) by simp [rKind, hok])
    have hb := hl.2
    have hq : ((tk L st.at_).kind.toList == s.toList) = true := by simpa [rKindOk, hb] using hok
    have hl1 := hl.1
    rw [hb] at c3
    clear hok hl
    generalize tk L st.at_ = t at t0 t1 t2 hq E
    go_enter Tryz.func106, Tryz.ntmps106
    go_wp2
    go_region
    go_wp2
    refine bodyPost_ret (v := tokV t) (by simp [results, Tryz.results106, go_sem, tokV, noTok]) rfl ?_
    rw [unhide E]
    exact ⟨rfl, ((unhide H).step hl1).below (below_alloc2_drew _ _ _), ((((Kept.refl _ _).setR _ _).alloc _).alloc _).drew⟩

theorem next_lit (l : List UInt8) (w : World) (R : Nat) (v : Value) (L : List Tok) (st : RS) (h : Rd w R v L st) :
    Calls Tryz.prog 103 #[.pointer (some ⟨R, 0, none⟩), .string ⟨l.toArray⟩] w fun e w' => e = .returned (.bool (rNext L l st)) ∧ Rd w' R v L st ∧ Kept R w w' := by
  have := next_any ⟨l.toArray⟩ w R v L st h
  rw [ByteArray.toList_mk] at this
  exact this.mono fun e w' ⟨h1, h2⟩ => ⟨h1, h.below h2, .of_below h2⟩
theorem must_lit (l : List UInt8) (w : World) (R : Nat) (v : Value) (L : List Tok) (st : RS) (h : Rd w R v L st) :
    Calls Tryz.prog 105 #[.pointer (some ⟨R, 0, none⟩), .string ⟨l.toArray⟩] w fun e w' => e = .returned (.tuple #[]) ∧ Rd w' R v L (rMust L l st) ∧ Kept R w w' := by
  have := must_any ⟨l.toArray⟩ w R v L st h
  rw [ByteArray.toList_mk] at this
  exact this
theorem kind_lit (l : List UInt8) (w : World) (R : Nat) (v : Value) (L : List Tok) (st : RS) (h : Rd w R v L st) (hl : (l == [101, 110, 100]) = false) :
    Calls Tryz.prog 106 #[.pointer (some ⟨R, 0, none⟩), .string ⟨l.toArray⟩] w fun e w' => e = .returned (tokV (rKind L l st).1) ∧ Rd w' R v L (rKind L l st).2 ∧ Kept R w w' := by
  have := kind_any ⟨l.toArray⟩ w R v L st h (by rw [ByteArray.toList_mk]; exact hl)
  rw [ByteArray.toList_mk] at this
  exact this

/-- What stands at a node of an expression. -/
structure ELab where
  op : ByteArray
  name : Tok
  index : Tok
  n : Int
abbrev PX := Go.Deep.BT ELab

def nodeCells (x : ELab) (a b : Value) : Array Value := #[.string x.op, a, b, .string x.name.kind, .string x.name.text, .int .i64 x.name.at_, .string x.index.kind, .string x.index.text, .int .i64 x.index.at_, .int .i64 x.n]

/-- The value is a pointer to the nodes of the tree, none of which lies below block lo. -/
def NodeIs (lo : Nat) (w : World) : PX → Value → Prop
  | .nil, v => v = .pointer none
  | .node _ _ x a b, v => ∃ k va vb, v = .pointer (some ⟨k, 0, none⟩) ∧ lo ≤ k ∧ w.heap[k]? = some (.cells (nodeCells x va vb) 242 (0, 0)) ∧ NodeIs lo w a va ∧ NodeIs lo w b vb

theorem NodeIs.ptr {lo : Nat} {w : World} {x : PX} {v : Value} (h : NodeIs lo w x v) : ∃ p, v = .pointer p := by
  cases x with
  | nil => exact ⟨_, h⟩
  | node _ _ _ _ _ => obtain ⟨k, _, _, e, _⟩ := h; exact ⟨_, e⟩

/-- A tree stays where what lies from lo on stays. -/
theorem NodeIs.stay {lo : Nat} {w w' : World} (hk : ∀ k, lo ≤ k → k < w.heap.size → w'.heap[k]? = w.heap[k]?) : ∀ {x : PX} {v : Value}, NodeIs lo w x v → NodeIs lo w' x v
  | .nil, _, h => h
  | .node _ _ _ _ _, _, ⟨k, va, vb, e, hn, hh, ha, hb⟩ => ⟨k, va, vb, e, hn, by rw [hk k hn (lt_of_block hh)]; exact hh, ha.stay hk, hb.stay hk⟩
theorem NodeIs.kept {lo R : Nat} {w w' : World} {x : PX} {v : Value} (h : NodeIs lo w x v) (hk : Kept R w w') (hR : R < lo) : NodeIs lo w' x v :=
  h.stay fun k h1 h2 => hk.block k h2 (by omega)
theorem NodeIs.below {lo : Nat} {w w' : World} {x : PX} {v : Value} (h : NodeIs lo w x v) (hk : Below w.heap.size w w') : NodeIs lo w' x v :=
  h.stay fun k _ h2 => hk.block k h2
theorem NodeIs.mono {lo lo' : Nat} {w : World} (hl : lo' ≤ lo) : ∀ {x : PX} {v : Value}, NodeIs lo w x v → NodeIs lo' w x v
  | .nil, _, h => h
  | .node _ _ _ _ _, _, ⟨k, va, vb, e, hn, hh, ha, hb⟩ => ⟨k, va, vb, e, Nat.le_trans hl hn, hh, ha.mono hl, hb.mono hl⟩

theorem row10 {w : World} {b : Nat} {x0 x1 x2 x3 x4 x5 x6 x7 x8 x9 : Value} {t : TypeId} (h : w.heap[b]? = some (.cells #[x0, x1, x2, x3, x4, x5, x6, x7, x8, x9] t (0, 0))) :
    w.cell? ⟨b, 0, none⟩ = some x0 ∧ w.cell? ⟨b, 1, none⟩ = some x1 ∧ w.cell? ⟨b, 2, none⟩ = some x2 ∧ w.cell? ⟨b, 3, none⟩ = some x3 ∧ w.cell? ⟨b, 4, none⟩ = some x4 ∧ w.cell? ⟨b, 5, none⟩ = some x5 ∧ w.cell? ⟨b, 6, none⟩ = some x6 ∧ w.cell? ⟨b, 7, none⟩ = some x7 ∧ w.cell? ⟨b, 8, none⟩ = some x8 ∧ w.cell? ⟨b, 9, none⟩ = some x9 ∧
    w.frozen? ⟨b, 3, none⟩ = false ∧ w.frozen? ⟨b, 4, none⟩ = false ∧ w.frozen? ⟨b, 5, none⟩ = false ∧ w.frozen? ⟨b, 6, none⟩ = false ∧ w.frozen? ⟨b, 7, none⟩ = false ∧ w.frozen? ⟨b, 8, none⟩ = false :=
  ⟨by rw [cell_of_row w b 0 _ _ _ h]; rfl, by rw [cell_of_row w b 1 _ _ _ h]; rfl, by rw [cell_of_row w b 2 _ _ _ h]; rfl, by rw [cell_of_row w b 3 _ _ _ h]; rfl, by rw [cell_of_row w b 4 _ _ _ h]; rfl, by rw [cell_of_row w b 5 _ _ _ h]; rfl, by rw [cell_of_row w b 6 _ _ _ h]; rfl, by rw [cell_of_row w b 7 _ _ _ h]; rfl, by rw [cell_of_row w b 8 _ _ _ h]; rfl, by rw [cell_of_row w b 9 _ _ _ h]; rfl,
   frozen_of_row w b 3 _ _ h, frozen_of_row w b 4 _ _ h, frozen_of_row w b 5 _ _ h, frozen_of_row w b 6 _ _ h, frozen_of_row w b 7 _ _ h, frozen_of_row w b 8 _ _ h⟩

theorem Rd.setNew {w : World} {R : Nat} {v : Value} {L : List Tok} {st : RS} {B : Nat} (h : Rd w R v L st) (hB : ∀ g, v.ownBlock = some g → g < B) (hR : R < B) {p : Addr} (hp : B ≤ p.block) (u : Value) : Rd (w.setCell p u) R v L st := by
  refine ⟨by rw [Below.heap_setCell _ _ _ _ (by omega)]; exact h.rd, ?_, h.ne, h.lt, h.len, h.fin, h.nlo, h.nhi⟩
  exact ownsRow_setCell_other h.own (fun e => by have := hB _ e; omega) u

theorem set10a {w : World} {b : Nat} {x0 x1 x2 x3 x4 x5 x6 x7 x8 x9 : Value} {t : TypeId} (h : w.heap[b]? = some (.cells #[x0, x1, x2, x3, x4, x5, x6, x7, x8, x9] t (0, 0))) (a c d : Value) :
    (((w.setCell ⟨b, 3, none⟩ a).setCell ⟨b, 4, none⟩ c).setCell ⟨b, 5, none⟩ d).heap[b]? = some (.cells #[x0, x1, x2, a, c, d, x6, x7, x8, x9] t (0, 0)) :=
  heap_setCell_same _ b 5 _ _ _ (heap_setCell_same _ b 4 _ _ _ (heap_setCell_same _ b 3 _ _ _ h))
theorem set10b {w : World} {b : Nat} {x0 x1 x2 x3 x4 x5 x6 x7 x8 x9 : Value} {t : TypeId} (h : w.heap[b]? = some (.cells #[x0, x1, x2, x3, x4, x5, x6, x7, x8, x9] t (0, 0))) (a c d : Value) :
    (((w.setCell ⟨b, 6, none⟩ a).setCell ⟨b, 7, none⟩ c).setCell ⟨b, 8, none⟩ d).heap[b]? = some (.cells #[x0, x1, x2, x3, x4, x5, a, c, d, x9] t (0, 0)) :=
  heap_setCell_same _ b 8 _ _ _ (heap_setCell_same _ b 7 _ _ _ (heap_setCell_same _ b 6 _ _ _ h))

def sPlace : ByteArray := ⟨#[112, 108, 97, 99, 101]⟩
def rPlace (L : List Tok) (st : RS) : PX × RS :=
  let k := rKind L [110, 97, 109, 101] st
  if rNext L [91] k.2 then
    let i := rKind L [110, 97, 109, 101] (rMust L [91] k.2)
    (.node 0 0 { op := sPlace, name := k.1, index := i.1, n := 0 } .nil .nil, rMust L [93] i.2)
  else (.node 0 0 { op := sPlace, name := k.1, index := noTok, n := 0 } .nil .nil, k.2)

set_option maxRecDepth 100000 in
set_option maxHeartbeats 1000000 in
theorem place_any (w : World) (R : Nat) (v : Value) (L : List Tok) (st : RS) (h : Rd w R v L st) :
    Calls Tryz.prog 222 #[.pointer (some ⟨R, 0, none⟩)] w fun e w' => ∃ p, e = .returned p ∧ NodeIs w.heap.size w' (rPlace L st).1 p ∧ Rd w' R v L (rPlace L st).2 ∧ Kept R w w' := by
  go_enter Tryz.func222, Tryz.ntmps222
  go_wp2_with fail
  have hX : R < w.heap.size := lt_of_block h.rd
  have HV := hide (own_lt h.own)
  refine (kind_lit [110, 97, 109, 101] _ R v L st (h.below ((Below.refl _ _).alloc (Nat.le_refl _) _)) rfl).mono ?_
  rintro e w1 ⟨rfl, h1, hk1⟩
  have hx1 := (hk1.block w.heap.size (by simp) (by omega)).trans (heap_alloc_new _ _)
  have hK1 : Kept R w w1 := ((Kept.refl _ _).alloc _).trans hk1
  obtain ⟨d0, d1, d2, d3, d4, d5, d6, d7, d8, d9, e3, e4, e5, e6, e7, e8⟩ := row10 hx1
  have HX1 := hide hx1
  have HK1 := hide hK1
  have H1 := hide h1
  clear hk1 h hx1 hK1 h1
  have HP : Hid (rPlace L st = if rNext L [91] (rKind L [110, 97, 109, 101] st).2 then
    (.node 0 0 { op := sPlace, name := (rKind L [110, 97, 109, 101] st).1, index := (rKind L [110, 97, 109, 101] (rMust L [91] (rKind L [110, 97, 109, 101] st).2)).1, n := 0 } .nil .nil, rMust L [93] (rKind L [110, 97, 109, 101] (rMust L [91] (rKind L [110, 97, 109, 101] st).2)).2)
    else (.node 0 0 { op := sPlace, name := (rKind L [110, 97, 109, 101] st).1, index := noTok, n := 0 } .nil .nil, (rKind L [110, 97, 109, 101] st).2)) := rfl
  generalize rKind L [110, 97, 109, 101] st = k at *
  unfold tokV
  go_wp2_with fail
  refine (next_lit [91] _ R v L k.2 ((((unhide H1).setNew (unhide HV) hX (by simp) _).setNew (unhide HV) hX (by simp) _).setNew (unhide HV) hX (by simp) _)).mono ?_
  rintro e w2 ⟨rfl, h2, hk2⟩
  have hx2 := (hk2.block w.heap.size (by simpa using lt_of_block (unhide HX1)) (by omega)).trans (set10a (unhide HX1) _ _ _)
  have hK2 : Kept R w w2 := ((((unhide HK1).setNew (by simp) _).setNew (by simp) _).setNew (by simp) _).trans hk2
  clear d0 d1 d2 d3 d4 d5 d6 d7 d8 d9 e3 e4 e5 e6 e7 e8 hk2 HK1 H1 HX1
  cases hn : rNext L [91] k.2
  · have HX := hide hx2
    have HK := hide hK2
    have H2 := hide h2
    rw [hn] at HP
    clear hx2 hK2 h2 hn
    go_wp2
    go_ret
    rw [unhide HP]
    exact ⟨_, rfl, ⟨_, _, _, rfl, Nat.le_refl _, unhide HX, rfl, rfl⟩, unhide H2, unhide HK⟩
  · rw [hn] at HP
    have HX2 := hide hx2
    have HK2 := hide hK2
    have H2 := hide h2
    clear hx2 hK2 h2 hn
    go_wp2_with fail
    refine (must_lit [91] _ R v L k.2 (unhide H2)).mono ?_
    rintro e w3 ⟨rfl, h3, hk3⟩
    have hx3 := (hk3.block w.heap.size (lt_of_block (unhide HX2)) (by omega)).trans (unhide HX2)
    have HK3 := hide ((unhide HK2).trans hk3)
    have HX3 := hide hx3
    have H3 := hide h3
    clear hk3 hx3 h3 HX2 HK2 H2
    go_wp2_with fail
    refine (kind_lit [110, 97, 109, 101] _ R v L _ (unhide H3) rfl).mono ?_
    rintro e w4 ⟨rfl, h4, hk4⟩
    have hx4 := (hk4.block w.heap.size (lt_of_block (unhide HX3)) (by omega)).trans (unhide HX3)
    obtain ⟨d0, d1, d2, d3, d4, d5, d6, d7, d8, d9, e3, e4, e5, e6, e7, e8⟩ := row10 hx4
    have HK4 := hide ((unhide HK3).trans hk4)
    have HX4 := hide hx4
    have H4 := hide h4
    clear hk4 hx4 h4 HX3 HK3 H3
    generalize rKind L [110, 97, 109, 101] (rMust L [91] k.2) = i at *
    unfold tokV
    go_wp2_with fail
    refine (must_lit [93] _ R v L i.2 ((((unhide H4).setNew (unhide HV) hX (by simp) _).setNew (unhide HV) hX (by simp) _).setNew (unhide HV) hX (by simp) _)).mono ?_
    rintro e w5 ⟨rfl, h5, hk5⟩
    have hx5 := (hk5.block w.heap.size (by simpa using lt_of_block (unhide HX4)) (by omega)).trans (set10b (unhide HX4) _ _ _)
    have hK5 : Kept R w w5 := ((((unhide HK4).setNew (by simp) _).setNew (by simp) _).setNew (by simp) _).trans hk5
    have HX := hide hx5
    have HK := hide hK5
    have H5 := hide h5
    clear d0 d1 d2 d3 d4 d5 d6 d7 d8 d9 e3 e4 e5 e6 e7 e8 hk5 hx5 hK5 h5
    go_wp2
    go_ret
    rw [unhide HP]
    exact ⟨_, rfl, ⟨_, _, _, rfl, Nat.le_refl _, unhide HX, rfl, rfl⟩, unhide H5, unhide HK⟩

end Go.Proofs.YtpmcnonmkghokaaGreatDoor
namespace Go.Proofs.YtpmcnonmkghokaaGreatDoor
open Go.RowKit
def emptyX : PX := .node 0 0 { op := ⟨#[]⟩, name := noTok, index := noTok, n := 0 } .nil .nil
def opX (o : ByteArray) (a b : PX) : PX := .node 0 0 { op := o, name := noTok, index := noTok, n := 0 } a b
def digX (n : Int) : PX := .node 0 0 { op := kDigit, name := noTok, index := noTok, n := n } .nil .nil
def digV (t : ByteArray) : Int := if h : 0 < t.size then ((t[0]).toNat : Int) - 48 else 0

def binSigns : Nat → List ByteArray
  | 0 => [⟨#[124]⟩]
  | 1 => [⟨#[38]⟩]
  | 2 => [⟨#[61, 61]⟩, ⟨#[33, 61]⟩, ⟨#[60]⟩]
  | _ => [⟨#[43]⟩, ⟨#[45]⟩]
def isBin (n : Nat) (t : Tok) : Bool := (binSigns n).any (fun s => s.toList == t.text.toList) && (t.kind.toList == [115, 105, 103, 110])
def isConst (t : Tok) : Bool := (t.kind.toList == [119, 111, 114, 100]) && ((t.text.toList == [116, 114, 117, 101]) || (t.text.toList == [102, 97, 108, 115, 101]) || (t.text.toList == [110, 111, 110, 101]))
def isDig (t : Tok) : Bool := t.kind.toList == [100, 105, 103, 105, 116]
def sBang : ByteArray := ⟨#[33]⟩

/-- tag 0 to 4: a level; 10 to 13: what goes on behind the first part of a level; from 20 on: an atom behind so many signs of not. -/
def rX : Nat → Nat → PX → List Tok → RS → PX × RS
  | 0, _, x, _, st => (x, st)
  | f + 1, tag, x, L, st =>
    if tag < 4 then
      if st.bad then (emptyX, st)
      else rX f (10 + tag) (rX f (tag + 1) .nil L st).1 L (rX f (tag + 1) .nil L st).2
    else if tag < 10 then
      if st.bad then (emptyX, st) else rX f 20 .nil L st
    else if tag < 20 then
      if st.bad then (x, st)
      else if isBin (tag - 10) (tk L st.at_) then
        if tag = 12 then (opX (tk L st.at_).text x (rX f (tag - 9) .nil L { st with at_ := st.at_ + 1 }).1, (rX f (tag - 9) .nil L { st with at_ := st.at_ + 1 }).2)
        else rX f tag (opX (tk L st.at_).text x (rX f (tag - 9) .nil L { st with at_ := st.at_ + 1 }).1) L (rX f (tag - 9) .nil L { st with at_ := st.at_ + 1 }).2
      else (x, st)
    else
      if st.bad then (emptyX, st)
      else if rNext L [33] st then
        if tag = 32 then (emptyX, { st with bad := true })
        else (opX sBang (rX f (tag + 1) .nil L (rMust L [33] st)).1 .nil, (rX f (tag + 1) .nil L (rMust L [33] st)).2)
      else if rNext L [40] st then ((rX f 0 .nil L (rMust L [40] st)).1, rMust L [41] (rX f 0 .nil L (rMust L [40] st)).2)
      else if isConst (tk L st.at_) then (opX (tk L st.at_).text .nil .nil, { st with at_ := st.at_ + 1 })
      else if isDig (tk L st.at_) then (digX (digV (tk L st.at_).text), { st with at_ := st.at_ + 1 })
      else rPlace L st

theorem rMust_mono (L : List Tok) (s : List UInt8) (st : RS) : st.at_ ≤ (rMust L s st).at_ := by
  unfold rMust; split
  · exact Nat.le_refl _
  · simp
theorem rKind_mono (L : List Tok) (s : List UInt8) (st : RS) : st.at_ ≤ (rKind L s st).2.at_ := by
  unfold rKind; split <;> simp
theorem rPlace_mono (L : List Tok) (st : RS) : st.at_ ≤ (rPlace L st).2.at_ := by
  unfold rPlace
  simp only
  have h1 := rKind_mono L [110, 97, 109, 101] st
  split
  · have h2 := rMust_mono L [91] (rKind L [110, 97, 109, 101] st).2
    have h3 := rKind_mono L [110, 97, 109, 101] (rMust L [91] (rKind L [110, 97, 109, 101] st).2)
    have h4 := rMust_mono L [93] (rKind L [110, 97, 109, 101] (rMust L [91] (rKind L [110, 97, 109, 101] st).2)).2
    exact Nat.le_trans h1 (Nat.le_trans h2 (Nat.le_trans h3 h4))
  · exact h1

theorem rX_mono : ∀ (f tag : Nat) (x : PX) (L : List Tok) (st : RS), st.at_ ≤ (rX f tag x L st).2.at_
  | 0, _, _, _, _ => Nat.le_refl _
  | f + 1, tag, x, L, st => by
    have ih := rX_mono f
    rw [rX]
    split
    · split
      · exact Nat.le_refl _
      · exact Nat.le_trans (ih _ _ _ _) (ih _ _ _ _)
    · split
      · split
        · exact Nat.le_refl _
        · exact ih _ _ _ _
      · split
        · split
          · exact Nat.le_refl _
          · split
            · have h1 := ih (tag - 9) .nil L { st with at_ := st.at_ + 1 }
              simp only at h1
              split
              · exact Nat.le_trans (by omega) h1
              · exact Nat.le_trans (Nat.le_trans (by omega) h1) (ih _ _ _ _)
            · exact Nat.le_refl _
        · split
          · exact Nat.le_refl _
          · split
            · split
              · exact Nat.le_refl _
              · exact Nat.le_trans (rMust_mono L [33] st) (ih _ _ _ _)
            · split
              · exact Nat.le_trans (rMust_mono L [40] st) (Nat.le_trans (ih _ _ _ _) (rMust_mono L [41] _))
              · split
                · simp
                · split
                  · simp
                  · exact rPlace_mono L st

/-- How much fuel a state wants. -/
def need (L : List Tok) (c : Nat) (st : RS) : Nat := if st.bad then 1 else 8 * (L.length - st.at_) + c

theorem rMust_ok {L : List Tok} {s : List UInt8} {st : RS} (hb : (rMust L s st).bad = false) : (rMust L s st).at_ = st.at_ + 1 := by
  unfold rMust at hb ⊢
  split at hb
  · simp at hb
  · rename_i h; rw [if_neg h]

/-- Behind a must the need is less. -/
theorem need_must {L : List Tok} {s : List UInt8} {st : RS} {f c d : Nat} (hlt : st.at_ < L.length) (hb : st.bad = false) (hc : c ≤ 7) (hd : 1 ≤ d) (hf : need L d st ≤ f + 1) : need L c (rMust L s st) ≤ f := by
  unfold need at *
  rw [hb] at hf
  simp only [Bool.false_eq_true, if_false] at hf
  split
  · omega
  · rename_i h
    rw [rMust_ok (by simpa using h)]
    omega

end Go.Proofs.YtpmcnonmkghokaaGreatDoor
namespace Go.Proofs.YtpmcnonmkghokaaGreatDoor
open Go.RowKit
/-- A digit's text is one digit. -/
def DigOk (L : List Tok) : Prop := ∀ i, i < L.length → isDig (tk L i) = true → ∃ h : 0 < (tk L i).text.size, 48 ≤ (((tk L i).text[0]'h).toNat : Int) ∧ (((tk L i).text[0]'h).toNat : Int) ≤ 57

def XPost (R : Nat) (v : Value) (L : List Tok) (w : World) (r : PX × RS) (e : Ending) (w' : World) : Prop :=
  ∃ p, e = .returned p ∧ NodeIs w.heap.size w' r.1 p ∧ Rd w' R v L r.2 ∧ Kept R w w'
def LevelSaid (f : Nat) : Prop := ∀ (n : Nat) (w : World) (R : Nat) (v : Value) (L : List Tok) (st : RS), n ≤ 4 → Rd w R v L st → DigOk L → need L (7 - n) st ≤ f →
  Calls Tryz.prog 108 #[.pointer (some ⟨R, 0, none⟩), .int .i64 n] w (XPost R v L w (rX f n .nil L st))
def AtomSaid (f : Nat) : Prop := ∀ (n : Nat) (w : World) (R : Nat) (v : Value) (L : List Tok) (st : RS), n ≤ 12 → Rd w R v L st → DigOk L → need L 2 st ≤ f →
  Calls Tryz.prog 176 #[.pointer (some ⟨R, 0, none⟩), .int .i64 n] w (XPost R v L w (rX f (20 + n) .nil L st))

theorem rX_atom (f n : Nat) (x : PX) (L : List Tok) (st : RS) : rX (f + 1) (20 + n) x L st =
    if st.bad then (emptyX, st)
    else if rNext L [33] st then
      if n = 12 then (emptyX, { st with bad := true })
      else (opX sBang (rX f (20 + (n + 1)) .nil L (rMust L [33] st)).1 .nil, (rX f (20 + (n + 1)) .nil L (rMust L [33] st)).2)
    else if rNext L [40] st then ((rX f 0 .nil L (rMust L [40] st)).1, rMust L [41] (rX f 0 .nil L (rMust L [40] st)).2)
    else if isConst (tk L st.at_) then (opX (tk L st.at_).text .nil .nil, { st with at_ := st.at_ + 1 })
    else if isDig (tk L st.at_) then (digX (digV (tk L st.at_).text), { st with at_ := st.at_ + 1 })
    else rPlace L st := by
  rw [rX, if_neg (by omega), if_neg (by omega), if_neg (by omega)]
  simp only [show (20 + n = 32) = (n = 12) from by simp; omega, Nat.add_assoc]

theorem below_alloc1 (w : World) (o : Obj) : Below w.heap.size w (w.alloc o) := (Below.refl _ _).alloc (Nat.le_refl _) _
theorem NodeIs.new {lo : Nat} {w : World} {x : ELab} {a b : PX} {va vb : Value} {i j : Nat} (ha : NodeIs lo w a va) (hb : NodeIs lo w b vb) (hl : lo ≤ w.heap.size) :
    NodeIs lo (w.alloc (.cells (nodeCells x va vb) 242)) (.node i j x a b) (.pointer (some ⟨w.heap.size, 0, none⟩)) :=
  ⟨_, va, vb, rfl, hl, heap_alloc_new _ _, ha.below (below_alloc1 _ _), hb.below (below_alloc1 _ _)⟩
theorem opX_new {lo : Nat} {w : World} {k : Nat} {o : ByteArray} {a b : PX} {va vb : Value} (ha : NodeIs lo w a va) (hb : NodeIs lo w b vb) (hk : w.heap.size = k) (hl : lo ≤ k) :
    NodeIs lo (w.alloc (.cells #[.string o, va, vb, .string ⟨#[]⟩, .string ⟨#[]⟩, .int .i64 0, .string ⟨#[]⟩, .string ⟨#[]⟩, .int .i64 0, .int .i64 0] 242)) (opX o a b) (.pointer (some ⟨k, 0, none⟩)) := by
  subst hk; exact NodeIs.new (x := { op := o, name := noTok, index := noTok, n := 0 }) (i := 0) (j := 0) ha hb hl
theorem digX_new {lo : Nat} {w : World} {k : Nat} {n : Int} (hk : w.heap.size = k) (hl : lo ≤ k) :
    NodeIs lo (w.alloc (.cells #[.string ⟨#[100, 105, 103, 105, 116]⟩, .pointer none, .pointer none, .string ⟨#[]⟩, .string ⟨#[]⟩, .int .i64 0, .string ⟨#[]⟩, .string ⟨#[]⟩, .int .i64 0, .int .i64 n] 242)) (digX n) (.pointer (some ⟨k, 0, none⟩)) := by
  subst hk; exact NodeIs.new (x := { op := kDigit, name := noTok, index := noTok, n := n }) (i := 0) (j := 0) (a := .nil) (b := .nil) (va := .pointer none) (vb := .pointer none) rfl rfl hl
theorem emptyX_new {lo : Nat} {w : World} {k : Nat} (hk : w.heap.size = k) (hl : lo ≤ k) :
    NodeIs lo (w.alloc (.cells #[.string ⟨#[]⟩, .pointer none, .pointer none, .string ⟨#[]⟩, .string ⟨#[]⟩, .int .i64 0, .string ⟨#[]⟩, .string ⟨#[]⟩, .int .i64 0, .int .i64 0] 242)) emptyX (.pointer (some ⟨k, 0, none⟩)) :=
  opX_new (a := .nil) (b := .nil) (va := .pointer none) (vb := .pointer none) rfl rfl hk hl
theorem opX0_new {lo : Nat} {w : World} {k : Nat} {o : ByteArray} (hk : w.heap.size = k) (hl : lo ≤ k) :
    NodeIs lo (w.alloc (.cells #[.string o, .pointer none, .pointer none, .string ⟨#[]⟩, .string ⟨#[]⟩, .int .i64 0, .string ⟨#[]⟩, .string ⟨#[]⟩, .int .i64 0, .int .i64 0] 242)) (opX o .nil .nil) (.pointer (some ⟨k, 0, none⟩)) :=
  opX_new (a := .nil) (b := .nil) (va := .pointer none) (vb := .pointer none) rfl rfl hk hl
theorem opX1_new {lo : Nat} {w : World} {k : Nat} {o : ByteArray} {a : PX} {va : Value} (ha : NodeIs lo w a va) (hk : w.heap.size = k) (hl : lo ≤ k) :
    NodeIs lo (w.alloc (.cells #[.string o, va, .pointer none, .string ⟨#[]⟩, .string ⟨#[]⟩, .int .i64 0, .string ⟨#[]⟩, .string ⟨#[]⟩, .int .i64 0, .int .i64 0] 242)) (opX o a .nil) (.pointer (some ⟨k, 0, none⟩)) :=
  opX_new (b := .nil) (vb := .pointer none) ha rfl hk hl
theorem Rd.stepF {w : World} {R : Nat} {v : Value} {L : List Tok} {st : RS} (h : Rd w R v L st) (hb : st.bad = false) (h1 : st.at_ + 1 < L.length) : Rd (w.setCell ⟨R, 1, none⟩ (.int .i64 ((st.at_ : Int) + 1))) R v L { at_ := st.at_ + 1, nest := st.nest, bad := false } := by
  have := h.step h1
  rw [hb] at this
  exact this

theorem const_yes {t : Tok} (h : isConst t = true) : (t.kind.toList == [119, 111, 114, 100]) = true ∧ ((t.text.toList == [116, 114, 117, 101]) = true ∨ ((t.text.toList == [116, 114, 117, 101]) = false ∧ ((t.text.toList == [102, 97, 108, 115, 101]) = true ∨ ((t.text.toList == [102, 97, 108, 115, 101]) = false ∧ (t.text.toList == [110, 111, 110, 101]) = true)))) := by
  unfold isConst at h
  rw [Bool.and_eq_true, Bool.or_eq_true, Bool.or_eq_true] at h
  refine ⟨h.1, ?_⟩
  cases h1 : (t.text.toList == [116, 114, 117, 101])
  · cases h2 : (t.text.toList == [102, 97, 108, 115, 101])
    · rw [h1, h2] at h; exact Or.inr ⟨rfl, Or.inr ⟨rfl, by simpa using h.2⟩⟩
    · exact Or.inr ⟨rfl, Or.inl rfl⟩
  · exact Or.inl rfl
theorem const_no {t : Tok} (h : isConst t = false) : (t.kind.toList == [119, 111, 114, 100]) = false ∨ ((t.kind.toList == [119, 111, 114, 100]) = true ∧ (t.text.toList == [116, 114, 117, 101]) = false ∧ (t.text.toList == [102, 97, 108, 115, 101]) = false ∧ (t.text.toList == [110, 111, 110, 101]) = false) := by
  unfold isConst at h
  cases h0 : (t.kind.toList == [119, 111, 114, 100])
  · exact Or.inl rfl
  · rw [h0] at h
    simp only [Bool.true_and, Bool.or_eq_false_iff] at h
    exact Or.inr ⟨rfl, h.1.1, h.1.2, h.2⟩

set_option maxRecDepth 100000 in
set_option maxHeartbeats 4000000 in
theorem atom_step (f : Nat) (hL : LevelSaid f) (hA : AtomSaid f) : AtomSaid (f + 1) := by
  intro n w R v L st hn h hD hf
  obtain ⟨c0, c1, c2, c3, _, _, _, _⟩ := row4 h.rd
  have hlt := h.lt
  have hlen := h.len
  have H := hide h
  obtain ⟨g, cap, hv, hg, hgl, hRl, t0, t1, t2⟩ := h.open
  rw [hv] at c0
  have HX := hide (rX_atom f n .nil L st)
  clear h hv
  go_enter Tryz.func176, Tryz.ntmps176
  go_wp2_with fail
  go_region
  go_wp2_with fail
  refine (next_lit [33] _ R v L st ((unhide H).below (below_alloc_drew _ _))).mono ?_
  rintro e w1 ⟨rfl, h1, hk1⟩
  go_wp2_with fail
  refine (next_lit [40] _ R v L st h1).mono ?_
  rintro e w2 ⟨rfl, h2, hk2⟩
  have hT := (hk2.block w.heap.size (Nat.lt_of_lt_of_le (by simp) hk1.size) (by omega)).trans ((hk1.block w.heap.size (by simp) (by omega)).trans (heap_alloc_new w _))
  have HK2 := hide (((Kept.of_below (below_alloc_drew w _)).trans hk1).trans hk2)
  have hR2 := lt_of_block h2.rd
  have hz2 := (((Kept.of_below (R := R) (below_alloc_drew w (.cells #[.string (tk L st.at_).kind, .string (tk L st.at_).text, .int .i64 (tk L st.at_).at_] 142))).trans hk1).trans hk2).size
  have H2 := hide h2
  obtain ⟨c0, c1, c2, c3, f0, f1, f2, f3⟩ := row4 h2.rd
  obtain ⟨u0, u1, u2, _, _, _⟩ := row3 hT
  clear h1 hk1 hk2 h2 hT H
  cases hb : st.bad
  · rw [hb] at c3
    have hX := unhide HX
    clear HX
    rw [hb] at hX
    simp only [Bool.false_eq_true, if_false] at hX
    have HX := hide hX
    clear hX
    cases hn33 : rNext L [33] st
    · have hX := unhide HX
      clear HX
      rw [hn33] at hX
      simp only [Bool.false_eq_true, if_false] at hX
      cases hn40 : rNext L [40] st
      · rw [hn40] at hX
        simp only [Bool.false_eq_true, if_false] at hX
        have hfin := (unhide H2).fin st.at_ hlt
        have hdg := hD st.at_ hlt
        generalize tk L st.at_ = t at hX u0 u1 u2 hfin hdg
        cases hc : isConst t
        · rw [hc] at hX
          simp only [Bool.false_eq_true, if_false] at hX
          cases hd : isDig t
          · rw [hd] at hX
            simp only [Bool.false_eq_true, if_false] at hX
            have HX := hide hX
            have hd' : (t.kind.toList == [100, 105, 103, 105, 116]) = false := hd
            clear hX hfin hdg hd
            rcases const_no hc with k1 | ⟨k1, k2, k3, k4⟩
            all_goals
              clear hc
              go_wp2_with fail
              refine (place_any _ R v L st (unhide H2)).mono ?_
              rintro e w3 ⟨q, rfl, hq, h3, hk3⟩
              have HK3 := hide ((unhide HK2).trans hk3)
              have H3 := hide h3
              have HQ := hide hq
              clear h3 hk3 hq
              go_wp2
              go_ret
              rw [unhide HX]
              exact ⟨_, rfl, (unhide HQ).mono hz2, unhide H3, unhide HK3⟩
          · rw [hd] at hX
            simp only [if_true] at hX
            have HX := hide hX
            have hd' : (t.kind.toList == [100, 105, 103, 105, 116]) = true := hd
            have hw : (t.kind.toList == [119, 111, 114, 100]) = false := by rw [beq_iff_eq] at hd'; rw [hd']; rfl
            have hnx := hfin (by rw [beq_iff_eq] at hd'; rw [hd']; rfl)
            obtain ⟨hd0, hd1, hd2⟩ := hdg hd
            have HV := hide (show digV t.text = ((t.text[0]'hd0).toNat : Int) - 48 by simp [digV, hd0])
            clear hX hfin hdg hd hc
            go_wp2
            go_ret
            rw [unhide HX, unhide HV]
            exact ⟨_, rfl, digX_new (by simp) hz2, ((unhide H2).stepF hb hnx).below (below_alloc1 _ _), ((unhide HK2).setR _ _).alloc _⟩
        · rw [hc] at hX
          simp only [if_true] at hX
          have HX := hide hX
          have hc' := const_yes hc
          have hnx := hfin (by have := hc'.1; rw [beq_iff_eq] at this; rw [this]; rfl)
          obtain ⟨k1, k2⟩ := hc'
          clear hX hfin hdg hc
          rcases k2 with k2 | ⟨k2, k3 | ⟨k3, k4⟩⟩
          all_goals
            go_wp2
            go_ret
            rw [unhide HX]
            exact ⟨_, rfl, opX0_new (by simp) hz2, ((unhide H2).stepF hb hnx).below (below_alloc1 _ _), ((unhide HK2).setR _ _).alloc _⟩
      · rw [hn40] at hX
        simp only [if_true] at hX
        have HX := hide hX
        clear hX
        have hnm := need_must (s := [40]) (c := 7) hlt hb (by omega) (by omega) hf
        go_wp2_with fail
        refine (must_lit [40] _ R v L st (unhide H2)).mono ?_
        rintro e w3 ⟨rfl, h3, hk3⟩
        have HK3 := hide ((unhide HK2).trans hk3)
        have hR3 := lt_of_block h3.rd
        have H3 := hide h3
        clear h3 hk3 c0 c1 c2 c3 f0 f1 f2 f3 u0 u1 u2
        go_wp2_with fail
        refine (hL 0 _ R v L (rMust L [40] st) (by omega) (unhide H3) hD hnm).mono ?_
        rintro e w4 ⟨q, rfl, hq, h4, hk4⟩
        have HK4 := hide ((unhide HK3).trans hk4)
        have H4 := hide h4
        have HQ := hide hq
        clear h4 hk4 hq
        go_wp2_with fail
        refine (must_lit [41] _ R v L _ (unhide H4)).mono ?_
        rintro e w5 ⟨rfl, h5, hk5⟩
        have HK5 := hide ((unhide HK4).trans hk5)
        have H5 := hide h5
        have HQ5 := hide ((unhide HQ).kept hk5 hR3)
        clear h5 hk5
        go_wp2
        go_ret
        rw [unhide HX]
        exact ⟨_, rfl, (unhide HQ5).mono (unhide HK3).size, unhide H5, unhide HK5⟩
    · have hX := unhide HX
      clear HX
      rw [hn33] at hX
      simp only [if_true] at hX
      by_cases h12 : n = 12
      · rw [if_pos h12] at hX
        have HX := hide hX
        subst h12
        clear hX
        go_wp2
        go_ret
        rw [unhide HX]
        exact ⟨_, rfl, emptyX_new (by simp) hz2, (unhide H2).setBad.below (below_alloc1 _ _), ((unhide HK2).setR _ _).alloc _⟩
      · rw [if_neg h12] at hX
        have HX := hide hX
        have h12' : n < 12 := by omega
        clear hX h12
        have hnm := need_must (s := [33]) (c := 2) hlt hb (by omega) (by omega) hf
        go_wp2_with fail
        refine (must_lit [33] _ R v L st (unhide H2)).mono ?_
        rintro e w3 ⟨rfl, h3, hk3⟩
        have HK3 := hide ((unhide HK2).trans hk3)
        have hR3 := lt_of_block h3.rd
        have H3 := hide h3
        clear h3 hk3 c0 c1 c2 c3 f0 f1 f2 f3 u0 u1 u2
        go_wp2_with fail
        refine (hA (n + 1) _ R v L (rMust L [33] st) (by omega) (unhide H3) hD hnm).mono ?_
        rintro e w4 ⟨q, rfl, hq, h4, hk4⟩
        have HK4 := hide ((unhide HK3).trans hk4)
        have H4 := hide h4
        have HQ := hide hq
        have hR4 := lt_of_block h4.rd
        obtain ⟨q, rfl⟩ := hq.ptr
        clear h4 hk4 hq
        go_wp2
        go_ret
        rw [unhide HX]
        exact ⟨_, rfl, opX1_new ((unhide HQ).mono (unhide HK3).size) rfl (unhide HK4).size, (unhide H4).below (below_alloc1 _ _), (unhide HK4).alloc _⟩
  · rw [hb] at c3
    have hX := unhide HX
    clear HX
    rw [hb] at hX
    simp only [if_true] at hX
    have HX := hide hX
    have hn33 : rNext L [33] st = false := by simp [rNext, nextB, hb]
    have hn40 : rNext L [40] st = false := by simp [rNext, nextB, hb]
    clear hX
    go_wp2
    go_ret
    rw [unhide HX]
    exact ⟨_, rfl, emptyX_new rfl hz2, (unhide H2).below (below_alloc1 _ _), (unhide HK2).alloc _⟩

end Go.Proofs.YtpmcnonmkghokaaGreatDoor
namespace Go.Proofs.YtpmcnonmkghokaaGreatDoor
open Go.RowKit
theorem any_cons {α : Type} (p : α → Bool) (a : α) (l : List α) : (a :: l).any p = (p a || l.any p) := rfl
set_option maxHeartbeats 2000000 in
theorem isReserved_any (s : ByteArray) (w : World) : Calls Tryz.prog 258 #[.string s] w fun e w' => e = .returned (.bool (resB s)) ∧ w' = w := by
  have e : resB s = (((s.toList == [115, 101, 116]) || (s.toList == [107, 105, 110, 100]) || (s.toList == [118, 97, 114]) || (s.toList == [98, 111, 111, 108]) || (s.toList == [116, 111]) || (s.toList == [114, 117, 108, 101])) ||
      ((s.toList == [105, 102]) || (s.toList == [101, 108, 115, 101]) || (s.toList == [110, 101, 118, 101, 114]) || (s.toList == [116, 114, 117, 101]) || (s.toList == [102, 97, 108, 115, 101]) || (s.toList == [110, 111, 110, 101]))) := by
    have sw : ∀ a b : List UInt8, (a == b) = (b == a) := fun a b => by
      cases h : (a == b)
      · cases h2 : (b == a)
        · rfl
        · rw [beq_iff_eq] at h2; subst h2; simp at h
      · rw [beq_iff_eq] at h; subst h; simp
    unfold resB
    simp only [wordsL, List.any_cons, List.any_nil, toList_dat, Bool.or_false]
    simp only [sw _ s.data.toList, Bool.or_assoc]
  have E := hide e
  clear e
  cases h1 : (s.toList == [115, 101, 116])
  · cases h2 : (s.toList == [107, 105, 110, 100])
    · cases h3 : (s.toList == [118, 97, 114])
      · cases h4 : (s.toList == [98, 111, 111, 108])
        · cases h5 : (s.toList == [116, 111])
          · cases h6 : (s.toList == [114, 117, 108, 101])
            · cases h7 : (s.toList == [105, 102])
              · cases h8 : (s.toList == [101, 108, 115, 101])
                · cases h9 : (s.toList == [110, 101, 118, 101, 114])
                  · cases h10 : (s.toList == [116, 114, 117, 101])
                    · cases h11 : (s.toList == [102, 97, 108, 115, 101])
                      · cases h12 : (s.toList == [110, 111, 110, 101])
                        all_goals
                          go_enter Tryz.func258, Tryz.ntmps258
                          go_wp2
                          go_ret
                          exact ⟨ret_bool (by rw [unhide E]; simp [h1, h2, h3, h4, h5, h6, h7, h8, h9, h10, h11, h12]), rfl⟩
                      · go_enter Tryz.func258, Tryz.ntmps258
                        go_wp2
                        go_ret
                        exact ⟨ret_bool (by rw [unhide E]; simp [h11]), rfl⟩
                    · go_enter Tryz.func258, Tryz.ntmps258
                      go_wp2
                      go_ret
                      exact ⟨ret_bool (by rw [unhide E]; simp [h10]), rfl⟩
                  · go_enter Tryz.func258, Tryz.ntmps258
                    go_wp2
                    go_ret
                    exact ⟨ret_bool (by rw [unhide E]; simp [h9]), rfl⟩
                · go_enter Tryz.func258, Tryz.ntmps258
                  go_wp2
                  go_ret
                  exact ⟨ret_bool (by rw [unhide E]; simp [h8]), rfl⟩
              · go_enter Tryz.func258, Tryz.ntmps258
                go_wp2
                go_ret
                exact ⟨ret_bool (by rw [unhide E]; simp [h7]), rfl⟩
            · go_enter Tryz.func258, Tryz.ntmps258
              go_wp2
              go_ret
              exact ⟨ret_bool (by rw [unhide E]; simp [h6]), rfl⟩
          · go_enter Tryz.func258, Tryz.ntmps258
            go_wp2
            go_ret
            exact ⟨ret_bool (by rw [unhide E]; simp [h5]), rfl⟩
        · go_enter Tryz.func258, Tryz.ntmps258
          go_wp2
          go_ret
          exact ⟨ret_bool (by rw [unhide E]; simp [h4]), rfl⟩
      · go_enter Tryz.func258, Tryz.ntmps258
        go_wp2
        go_ret
        exact ⟨ret_bool (by rw [unhide E]; simp [h3]), rfl⟩
    · go_enter Tryz.func258, Tryz.ntmps258
      go_wp2
      go_ret
      exact ⟨ret_bool (by rw [unhide E]; simp [h2]), rfl⟩
  · go_enter Tryz.func258, Tryz.ntmps258
    go_wp2
    go_ret
    exact ⟨ret_bool (by rw [unhide E]; simp [h1]), rfl⟩

theorem toList_empty {b : ByteArray} (h : (b.toList == []) = true) : ¬ 0 < b.size := by
  rw [beq_iff_eq, toList_dat] at h
  have : b.data.size = 0 := by rw [← Array.length_toList, h]; rfl
  intro hb
  have : b.size = 0 := this
  omega
theorem toList_full {b : ByteArray} (h : (b.toList == []) = false) : 0 < b.size := by
  cases hb : b.size with
  | zero =>
    have : b.data.toList = [] := by
      apply List.eq_nil_of_length_eq_zero
      rw [Array.length_toList]; exact hb
    rw [toList_dat, this] at h; simp at h
  | succ n => omega

set_option maxHeartbeats 1000000 in
theorem isName_any (t : Tok) (w : World) : Calls Tryz.prog 238 #[ptV t] w fun e w' => e = .returned (.bool (letB t.text 0 && !resB t.text)) ∧ Below w.heap.size w w' := by
  unfold ptV
  cases h0 : (t.text.toList == [])
  · have hp := toList_full h0
    cases hl : letB t.text 0
    · go_enter Tryz.func238, Tryz.ntmps238
      go_wp2_with fail
      refine (isLetter_any _ _).mono ?_
      rintro e w' ⟨rfl, rfl⟩
      rw [inB_at hp, show inB 97 122 t.text 0 = false from hl]
      go_wp2
      go_ret
      exact ⟨rfl, below_alloc1 _ _⟩
    · cases hr : resB t.text
      all_goals
        go_enter Tryz.func238, Tryz.ntmps238
        go_wp2_with fail
        refine (isLetter_any _ _).mono ?_
        rintro e w' ⟨rfl, rfl⟩
        rw [inB_at hp, show inB 97 122 t.text 0 = true from hl]
        go_wp2_with fail
        refine (isReserved_any _ _).mono ?_
        rintro e w' ⟨rfl, rfl⟩
        rw [hr]
        go_wp2
        go_ret
        exact ⟨rfl, below_alloc1 _ _⟩
  · have hl : letB t.text 0 = false := inB_no (toList_empty h0)
    go_enter Tryz.func238, Tryz.ntmps238
    go_wp2
    go_ret
    exact ⟨ret_bool (by rw [hl]; rfl), below_alloc1 _ _⟩
set_option maxHeartbeats 1000000 in
theorem tokDigit_any (t : Tok) (w : World) : Calls Tryz.prog 239 #[ptV t] w fun e w' => e = .returned (.bool (digB t.text 0)) ∧ Below w.heap.size w w' := by
  unfold ptV
  cases h0 : (t.text.toList == [])
  · have hp := toList_full h0
    go_enter Tryz.func239, Tryz.ntmps239
    go_wp2_with fail
    refine (isDigit_any _ _).mono ?_
    rintro e w' ⟨rfl, rfl⟩
    rw [inB_at hp]
    go_wp2
    go_ret
    exact ⟨rfl, below_alloc1 _ _⟩
  · have hl : digB t.text 0 = false := inB_no (toList_empty h0)
    go_enter Tryz.func239, Tryz.ntmps239
    go_wp2
    go_ret
    exact ⟨ret_bool (by rw [hl]), below_alloc1 _ _⟩

/-- The parser's own state. -/
structure PR where
  next : Nat
  depth : Int
  failed : Bool
  place : Int

/-- The parser lies at block P, its tokens are L. -/
structure Pw (w : World) (P : Nat) (v : Value) (L : List Tok) (r : PR) : Prop where
  pd : w.heap[P]? = some (.cells #[v, .int .i64 r.next, .int .i64 r.depth, .bool r.failed, .int .i64 r.place] 196 (0, 0))
  own : w.ownsRow 0 194 2 v L.length (ptsCells L)
  ne : v.ownBlock ≠ some P
  ok : ToksOk L
  lt : r.next < L.length

theorem prow5 {w : World} {b : Nat} {x y z u t5 : Value} {t : TypeId} (h : w.heap[b]? = some (.cells #[x, y, z, u, t5] t (0, 0))) :
    w.cell? ⟨b, 0, none⟩ = some x ∧ w.cell? ⟨b, 1, none⟩ = some y ∧ w.cell? ⟨b, 2, none⟩ = some z ∧ w.cell? ⟨b, 3, none⟩ = some u ∧ w.cell? ⟨b, 4, none⟩ = some t5 ∧ w.frozen? ⟨b, 1, none⟩ = false ∧ w.frozen? ⟨b, 2, none⟩ = false ∧ w.frozen? ⟨b, 3, none⟩ = false ∧ w.frozen? ⟨b, 4, none⟩ = false :=
  ⟨by rw [cell_of_row w b 0 _ _ _ h]; rfl, by rw [cell_of_row w b 1 _ _ _ h]; rfl, by rw [cell_of_row w b 2 _ _ _ h]; rfl, by rw [cell_of_row w b 3 _ _ _ h]; rfl, by rw [cell_of_row w b 4 _ _ _ h]; rfl, frozen_of_row w b 1 _ _ h, frozen_of_row w b 2 _ _ h, frozen_of_row w b 3 _ _ h, frozen_of_row w b 4 _ _ h⟩
theorem set5_1 {w : World} {b : Nat} {x y z u s : Value} {t : TypeId} (h : w.heap[b]? = some (.cells #[x, y, z, u, s] t (0, 0))) (n : Value) : (w.setCell ⟨b, 1, none⟩ n).heap[b]? = some (.cells #[x, n, z, u, s] t (0, 0)) := heap_setCell_same w b 1 _ _ _ h
theorem set5_2 {w : World} {b : Nat} {x y z u s : Value} {t : TypeId} (h : w.heap[b]? = some (.cells #[x, y, z, u, s] t (0, 0))) (n : Value) : (w.setCell ⟨b, 2, none⟩ n).heap[b]? = some (.cells #[x, y, n, u, s] t (0, 0)) := heap_setCell_same w b 2 _ _ _ h
theorem set5_3 {w : World} {b : Nat} {x y z u s : Value} {t : TypeId} (h : w.heap[b]? = some (.cells #[x, y, z, u, s] t (0, 0))) (n : Value) : (w.setCell ⟨b, 3, none⟩ n).heap[b]? = some (.cells #[x, y, z, n, s] t (0, 0)) := heap_setCell_same w b 3 _ _ _ h
theorem set5_4 {w : World} {b : Nat} {x y z u s : Value} {t : TypeId} (h : w.heap[b]? = some (.cells #[x, y, z, u, s] t (0, 0))) (n : Value) : (w.setCell ⟨b, 4, none⟩ n).heap[b]? = some (.cells #[x, y, z, u, n] t (0, 0)) := heap_setCell_same w b 4 _ _ _ h

theorem Pw.kept {w w' : World} {P : Nat} {v : Value} {L : List Tok} {r r' : PR} (h : Pw w P v L r) (hk : Kept P w w')
    (hr : w'.heap[P]? = some (.cells #[v, .int .i64 r'.next, .int .i64 r'.depth, .bool r'.failed, .int .i64 r'.place] 196 (0, 0))) (hl : r'.next < L.length) : Pw w' P v L r' :=
  ⟨hr, owns_kept h.own h.ne hk, h.ne, h.ok, hl⟩
theorem Pw.below {w w' : World} {P : Nat} {v : Value} {L : List Tok} {r : PR} (h : Pw w P v L r) (hk : Below w.heap.size w w') : Pw w' P v L r :=
  h.kept (.of_below hk) (by rw [hk.block P (lt_of_block h.pd)]; exact h.pd) h.lt

theorem ptsCells_at : ∀ (L : List Tok) (k : Nat), k < L.length → (ptsCells L)[k * 2]? = some (.string (tk L k).text) ∧ (ptsCells L)[k * 2 + 1]? = some (.int .i64 (tk L k).at_)
  | [], k, h => by simp at h
  | a :: L, 0, _ => ⟨rfl, rfl⟩
  | a :: L, k + 1, h => by
    have ih := ptsCells_at L k (by simpa using h)
    have e : ∀ i, (ptsCells (a :: L))[i + 2]? = (ptsCells L)[i]? := fun i => by
      show (ptCells a ++ ptsCells L)[i + 2]? = _
      rw [List.getElem?_append_right (by simp [ptCells])]
      simp [ptCells]
    have t1 : tk (a :: L) (k + 1) = tk L k := by simp [tk]
    rw [t1, show (k + 1) * 2 = k * 2 + 2 by omega, e, show k * 2 + 2 + 1 = (k * 2 + 1) + 2 by omega, e]
    exact ih
theorem Pw.open {w : World} {P : Nat} {v : Value} {L : List Tok} {r : PR} (h : Pw w P v L r) :
    ∃ g cap, v = .slice (some ⟨g, 0, none⟩) L.length cap ∧ g ≠ P ∧ g < w.heap.size ∧ P < w.heap.size ∧ w.cell? ⟨g, r.next * 2, none⟩ = some (.string (tk L r.next).text) ∧ w.cell? ⟨g, r.next * 2 + 1, none⟩ = some (.int .i64 (tk L r.next).at_) := by
  obtain ⟨h1, h2⟩ := h.own
  have hlt := h.lt
  rcases h2 with ⟨_, h2⟩ | ⟨g, cap, cur, hv, hg, hh, h3, h4, h5, h6⟩
  · omega
  · have hat := ptsCells_at L r.next hlt
    refine ⟨g, cap, hv, fun e => h.ne (by rw [hv]; simp [Value.ownBlock, e]), lt_of_block hh, lt_of_block h.pd, ?_⟩
    have hc : ∀ j, j < L.length * 2 → w.cell? ⟨g, j, none⟩ = (ptsCells L)[j]? := fun j hj => by
      rw [cell_of_row w g j _ _ _ hh, ← h6, List.getElem?_take_of_lt hj]; simp
    exact ⟨(hc _ (by omega)).trans hat.1, (hc _ (by omega)).trans hat.2⟩

set_option maxRecDepth 100000 in
set_option maxHeartbeats 1000000 in
theorem peek_any (w : World) (P : Nat) (v : Value) (L : List Tok) (r : PR) (h : Pw w P v L r) :
    Calls Tryz.prog 152 #[.pointer (some ⟨P, 0, none⟩)] w fun e w' => e = .returned (ptV (tk L r.next)) ∧ Below w.heap.size w w' := by
  obtain ⟨c0, c1, c2, c3, c4, _⟩ := prow5 h.pd
  obtain ⟨g, cap, rfl, hg, hgl, hPl, t0, t1⟩ := h.open
  have hlt := h.lt
  have hlen := h.ok.len
  generalize tk L r.next = t at *
  obtain ⟨n, d, b, a⟩ := r
  simp only at *
  clear h
  go_enter Tryz.func152, Tryz.ntmps152
  go_wp2
  go_region
  go_wp2
  refine bodyPost_ret (v := ptV t) (by simp [results, Tryz.results152, go_sem, ptV]) rfl ?_
  exact ⟨rfl, below_alloc_drew w _⟩

theorem Tryz.fTok0 (a : ByteArray) (b : Int) (w : World) : (Instr.field 194 (.agg #[.string a, .int .i64 b]) 0).run Tryz.prog w = .ok (.string a) w := by kernel_rfl
theorem Tryz.fTok1 (a : ByteArray) (b : Int) (w : World) : (Instr.field 194 (.agg #[.string a, .int .i64 b]) 1).run Tryz.prog w = .ok (.int .i64 b) w := by kernel_rfl

set_option maxRecDepth 100000 in
set_option maxHeartbeats 1000000 in
theorem is_any (s : ByteArray) (w : World) (P : Nat) (v : Value) (L : List Tok) (r : PR) (h : Pw w P v L r) :
    Calls Tryz.prog 89 #[.pointer (some ⟨P, 0, none⟩), .string s] w fun e w' => e = .returned (.bool ((tk L r.next).text.toList == s.toList)) ∧ Below w.heap.size w w' := by
  go_enter Tryz.func89, Tryz.ntmps89
  go_wp2_with fail
  refine (peek_any w P v L r h).mono ?_
  rintro e w1 ⟨rfl, hb⟩
  have hf0 := Tryz.fTok0 (tk L r.next).text (tk L r.next).at_
  unfold ptV
  go_wp2
  go_ret
  exact ⟨rfl, hb⟩

def failR (L : List Tok) (r : PR) : PR := { next := L.length - 1, depth := r.depth, failed := true, place := if r.failed then r.place else (tk L r.next).at_ }
set_option maxRecDepth 100000 in
set_option maxHeartbeats 1000000 in
theorem fail_any (w : World) (P : Nat) (v : Value) (L : List Tok) (r : PR) (h : Pw w P v L r) :
    Calls Tryz.prog 90 #[.pointer (some ⟨P, 0, none⟩)] w fun e w' => e = .returned (.tuple #[]) ∧ Pw w' P v L (failR L r) ∧ Kept P w w' := by
  obtain ⟨c0, c1, c2, c3, c4, f1, f2, f3, f4⟩ := prow5 h.pd
  have hpos := h.ok.pos
  have hlen := h.ok.len
  obtain ⟨g, cap, hv, _⟩ := h.open
  cases hf : r.failed
  · rw [hf] at c3
    have h1 : Pw (w.setCell ⟨P, 3, none⟩ (.bool true)) P v L { r with failed := true } := h.kept ((Kept.refl _ _).setR _ _) (set5_3 h.pd _) h.lt
    have H := hide h
    have H1 := hide h1
    clear h h1
    go_enter Tryz.func90, Tryz.ntmps90
    go_wp2_with fail
    refine (peek_any _ P v L _ (unhide H1)).mono ?_
    rintro e w1 ⟨rfl, hb⟩
    have h2 := (unhide H1).below hb
    have hk2 : Kept P w w1 := ((Kept.refl _ _).setR _ _).trans (.of_below hb)
    clear c0 c1 c2 c3 c4 f1 f2 f3 f4 hb
    obtain ⟨c0, c1, c2, c3, c4, f1, f2, f3, f4⟩ := prow5 h2.pd
    have H2 := hide h2
    have HK := hide hk2
    subst hv
    clear h2 hk2
    have hf1 := Tryz.fTok1 (tk L r.next).text (tk L r.next).at_
    unfold ptV
    go_wp2
    go_end0
    refine ⟨rfl, (unhide H2).kept (((Kept.refl _ _).setR _ _).setR _ _) ?_ (by show L.length - 1 < _; omega), (unhide HK).trans (((Kept.refl _ _).setR _ _).setR _ _)⟩
    have := set5_1 (set5_4 (unhide H2).pd (.int .i64 (tk L r.next).at_)) (.int .i64 ((L.length : Int) - 1))
    rw [show failR L r = ⟨L.length - 1, r.depth, true, (tk L r.next).at_⟩ by unfold failR; rw [hf]; rfl]
    rw [show ((L.length - 1 : Nat) : Int) = (L.length : Int) - 1 by omega]
    exact this
  · rw [hf] at c3
    have H := hide h
    clear h
    subst hv
    go_enter Tryz.func90, Tryz.ntmps90
    go_wp2
    go_end0
    refine ⟨rfl, (unhide H).kept ((Kept.refl _ _).setR _ _) ?_ (by show L.length - 1 < _; omega), (Kept.refl _ _).setR _ _⟩
    have hp := (unhide H).pd
    rw [hf] at hp
    have := set5_1 hp (.int .i64 ((L.length : Int) - 1))
    rw [show failR L r = ⟨L.length - 1, r.depth, true, r.place⟩ by unfold failR; rw [hf]; rfl]
    rw [show ((L.length - 1 : Nat) : Int) = (L.length : Int) - 1 by omega]
    exact this

end Go.Proofs.YtpmcnonmkghokaaGreatDoor

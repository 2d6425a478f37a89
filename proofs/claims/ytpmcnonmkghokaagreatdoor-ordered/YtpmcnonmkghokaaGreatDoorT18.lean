/-
  strings.Join, by the shelf's contract, laid at this program.
  The program's machine, made: instanceText.
  The program's machine, made: the instances of a rule or never.
  The program's machine, made: addSteps.
-/
import Derived.Shelf.Strings.OnBuilder
import Derived.Test.YtpmcnonmkghokaaGreatDoorRows
import Derived.Test.YtpmcnonmkghokaaGreatDoorT16
import Derived.Test.YtpmcnonmkghokaaGreatDoorT17
import Derived.Deep.AppendLies
set_option linter.unusedVariables false
set_option linter.unusedSimpArgs false
namespace Go.Proofs
open Go.Shelf
def Tryz.lays156_ren : Go.Shelf.Ren := ⟨fun | 156 => 221 | 165 => 249 | 166 => 220 | 169 => 166 | 240 => 219 | 241 => 265 | 276 => 248 | 277 => 287 | n => n, fun | 31 => 22 | 9 => 9 | 3 => 3 | 4 => 4 | 0 => 0 | 20 => 20 | 72 => 305 | 76 => 365 | 70 => 303 | 37 => 83 | 75 => 307 | 127 => 367 | 164 => 389 | 5 => 5 | 80 => 310 | n => n, fun | n => n⟩
theorem Tryz.lays156 : Go.Proofs.Lays.n156 Tryz.prog Tryz.lays156_ren := {
  mixed := by kernel_rfl
  f156 := Tryz.func221.trans (congrArg some (by kernel_rfl))
  f165 := Tryz.func249.trans (congrArg some (by kernel_rfl))
  f166 := Tryz.func220.trans (congrArg some (by kernel_rfl))
  f169 := Tryz.func166.trans (congrArg some (by kernel_rfl))
  f240 := Tryz.func219.trans (congrArg some (by kernel_rfl))
  f241 := Tryz.func265.trans (congrArg some (by kernel_rfl))
  f276 := Tryz.func248.trans (congrArg some (by kernel_rfl))
  f277 := Tryz.func287.trans (congrArg some (by kernel_rfl))
  t0 := Tryz.underlying0
  a0 := Tryz.isAgg0
  z0 := Tryz.sizeOf0
  v0 := Tryz.zeroValue0
  t3 := Tryz.underlying3
  a3 := Tryz.isAgg3
  z3 := Tryz.sizeOf3
  v3 := Tryz.zeroValue3
  t4 := Tryz.underlying4
  a4 := Tryz.isAgg4
  z4 := Tryz.sizeOf4
  v4 := Tryz.zeroValue4
  t9 := Tryz.underlying9
  a9 := Tryz.isAgg9
  z9 := Tryz.sizeOf9
  v9 := Tryz.zeroValue9
  t20 := Tryz.underlying20
  a20 := Tryz.isAgg20
  z20 := Tryz.sizeOf20
  v20 := Tryz.zeroValue20
  t31 := Tryz.underlying22
  a31 := Tryz.isAgg22
  z31 := Tryz.sizeOf22
  v31 := Tryz.zeroValue22
  t37 := Tryz.underlying83
  a37 := Tryz.isAgg83
  z37 := Tryz.sizeOf83
  v37 := Tryz.zeroValue83
  t70 := Tryz.underlying303
  a70 := Tryz.isAgg303
  z70 := Tryz.sizeOf303
  v70 := Tryz.zeroValue303
  t72 := Tryz.underlying305
  a72 := Tryz.isAgg305
  z72 := Tryz.sizeOf305
  v72 := Tryz.zeroValue305
  t75 := Tryz.underlying307
  a75 := Tryz.isAgg307
  z75 := Tryz.sizeOf307
  v75 := Tryz.zeroValue307
  t76 := Tryz.underlying365
  a76 := Tryz.isAgg365
  z76 := Tryz.sizeOf365
  v76 := Tryz.zeroValue365
  t127 := Tryz.underlying367
  a127 := Tryz.isAgg367
  z127 := Tryz.sizeOf367
  v127 := Tryz.zeroValue367
  t164 := Tryz.underlying389
  a164 := Tryz.isAgg389
  z164 := Tryz.sizeOf389
  v164 := Tryz.zeroValue389 }
theorem Tryz.Builder_Extra_156 : Builder.Extra Tryz.prog Tryz.lays156_ren := {
  sizeBuilder := by kernel_rfl
  liesBuilder := by kernel_rfl
  t5 := Tryz.underlying5
  a5 := Tryz.isAgg5
  z5 := Tryz.sizeOf5
  v5 := Tryz.zeroValue5
  infoByte := by kernel_rfl
  cellsByte := by kernel_rfl
  sizeByte := by kernel_rfl
  neB5 := by decide }
open Go.RowKit in
/-- No element: the empty string; the world is as it was. (Whatever the slice's address and capacity: a nil slice too.) (LAID: no walk: one application.) -/
theorem Tryz.strings_Join_none (a : Option Addr) (c : Nat) (sep : ByteArray) (w : World) :
    Calls Tryz.prog 221 #[.slice a 0 c, .string sep] w fun e w' => e = .returned (.string ⟨#[]⟩) ∧ w' = w := Any.strings_Join_none Tryz.lays156 Tryz.Builder_Extra_156 a c sep w
open Go.RowKit in
/-- strings.Join: "Join concatenates the elements of its first argument to create a single string. The separator string sep is placed between elements in the resulting string.": HOWEVER MANY ELEMENTS. Below the heap's end the world is as it was. (LAID: no walk: one application.) -/
theorem Tryz.strings_Join (bk o c : Nat) (xs : List ByteArray) (sep : ByteArray) (w : World) (hcells : ∀ (j : Nat) x, xs[j]? = some x → w.cell? ⟨bk, o + j, none⟩ = some (.string x)) (hbk : bk < w.heap.size) (hN : xs.length ≤ 140737488355328) (hcap : xs.length ≤ c) (hlen : (Lib.join (xs.map (·.data.toList)) sep.data.toList).length ≤ 140737488355328) :
    Calls Tryz.prog 221 #[.slice (some ⟨bk, o, none⟩) xs.length c, .string sep] w fun e w' => e = .returned (.string ⟨(Lib.join (xs.map (·.data.toList)) sep.data.toList).toArray⟩) ∧ Below w.heap.size w w' := Any.strings_Join Tryz.lays156 Tryz.Builder_Extra_156 bk o c xs sep w hcells hbk hN hcap hlen
end Go.Proofs
namespace Go.Proofs.YtpmcnonmkghokaaGreatDoor
open Go.RowKit
attribute [local go_sem ↓] Go.wp_at_zero Go.wp_at_succ
/-- Texts with a comma between them. -/
def joinB (xs : List ByteArray) : ByteArray := ⟨(Go.Lib.join (xs.map (·.data.toList)) [44]).toArray⟩
theorem joinS_any (w : World) (lo : Nat) (xs : List ByteArray) (la : Option Addr) (ll lc : Nat) (ho : w.ownsRow lo 9 1 (.slice la ll lc) xs.length (xs.map Value.string)) (hn : xs.length ≤ 1000000) (hj : (Go.Lib.join (xs.map (·.data.toList)) [44]).length ≤ 1000000) :
    Calls Tryz.prog 221 #[.slice la ll lc, .string ⟨#[44]⟩] w fun e w' => e = .returned (.string (joinB xs)) ∧ Below w.heap.size w w' := by
  rcases ho.2 with ⟨e1, e2⟩ | ⟨g, cap, cur, e1, e2, e3, e4, e5, e6, e7⟩
  · injection e1 with e1 e1' e1''
    subst e1; subst e1'; subst e1''
    have hx : xs = [] := List.eq_nil_of_length_eq_zero e2
    subst hx
    refine (Tryz.strings_Join_none none 0 ⟨#[44]⟩ w).mono ?_
    rintro e w' ⟨rfl, rfl⟩
    exact ⟨rfl, Below.refl _ _⟩
  · injection e1 with e1 e1' e1''
    subst e1; subst e1'; subst e1''
    refine (Tryz.strings_Join g 0 lc xs ⟨#[44]⟩ w ?_ (lt_of_block e3) (by omega) e4 (by show (Go.Lib.join (xs.map (·.data.toList)) [44]).length ≤ _; omega)).mono ?_
    · intro j x hx
      have := ho.cells (g := g) rfl j (.string x) (by simp [hx])
      rw [show ((⟨g, 0, none⟩ : Addr).add j) = ⟨g, j, none⟩ from by simp [Addr.add]; intro h; exact h.symm] at this
      rw [Nat.zero_add]; exact this
    · rintro e w' ⟨rfl, hb⟩
      exact ⟨rfl, hb⟩

/-- The text of an instance. -/
def insT (n : ByteArray) (ms : List Int) : ByteArray := ((n ++ ⟨#[40]⟩) ++ joinB (ms.map fun i => digS i.toNat)) ++ ⟨#[41]⟩
def insOk (ms : List Int) : Bool := ms.all (fun i => decide (0 ≤ i) && decide (i ≤ 9)) && decide (ms.length ≤ 1000) && decide ((Go.Lib.join ((ms.map fun i => digS i.toNat).map (·.data.toList)) [44]).length ≤ 1000000)
theorem insOk_some {ms : List Int} (h : insOk ms = true) : (∀ i ∈ ms, 0 ≤ i ∧ i ≤ 9) ∧ ms.length ≤ 1000 ∧ (Go.Lib.join ((ms.map fun i => digS i.toNat).map (·.data.toList)) [44]).length ≤ 1000000 := by
  unfold insOk at h
  rw [Bool.and_eq_true, Bool.and_eq_true] at h
  refine ⟨fun i hi => ?_, of_decide_eq_true h.1.2, of_decide_eq_true h.2⟩
  have := List.all_eq_true.1 h.1.1 i hi
  rw [Bool.and_eq_true] at this
  exact ⟨of_decide_eq_true this.1, of_decide_eq_true this.2⟩

set_option maxRecDepth 100000 in
set_option maxHeartbeats 4000000 in
theorem instanceText_any (w : World) (lo : Nat) (n : Tok) (ms : List Int) (ma : Option Addr) (mn mc : Nat) (hM : w.ownsRow lo 3 1 (.slice ma mn mc) ms.length (ms.map (Value.int .i64))) (hok : insOk ms = true) (hns : n.text.size ≤ 1000) :
    Calls Tryz.prog 172 #[.agg #[.string n.text, .int .i64 n.at_], .slice ma mn mc] w fun e w' => e = .returned (.string (insT n.text ms)) ∧ Below w.heap.size w w' := by
  obtain ⟨i0, hi, hz0, hz1, hz2⟩ := info_parts Tryz.infoStr0
  obtain ⟨hdig, hl, hjl⟩ := insOk_some hok
  obtain ⟨W, hW⟩ : ∃ W, W = w.alloc (.cells #[.string n.text, .int .i64 n.at_] 107) := ⟨_, rfl⟩
  have hbW : Below w.heap.size w W := by rw [hW]; exact below_alloc1 w _
  have hsW : w.heap.size < W.heap.size := by rw [hW]; simp
  have hN : W.heap[w.heap.size]? = some (.cells #[.string n.text, .int .i64 n.at_] 107 (0, 0)) := by rw [hW]; exact alloc_new _ _
  obtain ⟨xa, cap, e1, hview⟩ := own_viewB (owns_below hM hbW)
  injection e1 with e1 e2 e3
  subst e1; subst e2; subst e3
  have HW := hide hview
  have HDIG := hide hdig
  have HJL := hide hjl
  have HN := hide hN
  have HBW := hide hbW
  have HWE := hide hW.symm
  clear hview hM hbW hW hdig hok hN hjl
  go_enter Tryz.func172, Tryz.ntmps172
  go_wp2_with fail
  rw [unhide HWE]
  go_loopw [5, 7, 10] (fun x _ i wr => ∃ (k : Nat) (la : Option Addr) (ll lc : Nat), k ≤ ms.length ∧ i = .int .i64 k ∧ x = .slice la ll lc ∧ wr.ownsRow W.heap.size 9 1 (.slice la ll lc) k (((ms.take k).map fun i => digS i.toNat).map Value.string) ∧ Below W.heap.size W wr) (fun _ _ i _ => ms.length - (intOf i).toNat)
  case atStart => exact ⟨0, none, 0, 0, Nat.zero_le _, rfl, rfl, World.ownsRow_nil _ _ _ _, Below.refl _ _⟩
  case round =>
    obtain ⟨k, la, ll, lc, hk, rfl, rfl, ho, hb⟩ := hrel
    have HO := hide ho
    have HB := hide hb
    have hsz := hb.size
    by_cases hlt : k < ms.length
    · obtain ⟨g, rfl, hg1, hg2, hc⟩ := unhide HW k hlt
      have e0 : wr.cell? ⟨g, k, none⟩ = some (.int .i64 ms[k]) := by
        rw [hb.cell (p := ⟨g, k, none⟩) hg2, hc k (by omega), List.getElem?_map, List.getElem?_eq_getElem hlt]; rfl
      obtain ⟨d0, d9⟩ := (unhide HDIG) ms[k] (List.getElem_mem hlt)
      have HIT := hide (itoa_digit ms[k].toNat (by omega) wr)
      rw [Int.toNat_of_nonneg d0] at HIT
      have HSTEP := hide (show ((ms.take (k + 1)).map fun i => digS i.toNat).map Value.string = ((ms.take k).map fun i => digS i.toNat).map Value.string ++ [.string (digS ms[k].toNat)] by rw [List.take_succ_eq_append_getElem hlt, List.map_append, List.map_append]; rfl)
      generalize digS ms[k].toNat = dk at *
      generalize ms[k] = x at *
      clear hc ho hb
      go_wp2_with fail
      refine (unhide HIT).mono ?_
      rintro e w2 ⟨rfl, rfl⟩
      go_wp2_with (at_builtin; refine wpList_append_own_at _ rfl _ _ 22 rfl W.heap.size 9 i0 _ 1 16 Tryz.underlying22 hi hz0 hz1 hz2 rfl (by decide) (.slice la ll lc) _ _ rfl ((unhide HO).alloc _) ⟨w2.heap.size, 0, none⟩ 1 1 [.string dk] rfl rfl (cells_new w2 _ [.string dk] _ rfl) (by intro y hy; simp at hy; subst hy; rfl) (by unfold maxLen; omega) (by omega) (by simp; omega) ?_)
      intro v' w' hown hgrow _ hat
      obtain ⟨a3, l3, c3, rfl⟩ := own_slice hown
      have HO' := hide (show w'.ownsRow W.heap.size 9 1 (.slice a3 l3 c3) (k + 1) (((ms.take (k + 1)).map fun i => digS i.toNat).map Value.string) by rw [unhide HSTEP, List.map_map, List.map_take]; exact hown)
      have HB' := hide (((unhide HB).alloc hsz _).grown hgrow (by simp; omega) (own_ge (unhide HO)))
      clear hown hgrow hat
      go_wp2
      go_roundw
      case rel => exact ⟨k + 1, a3, l3, c3, by omega, by go_num, rfl, unhide HO', unhide HB'⟩
      case measure => simp [intOf]; omega
    · have : k = ms.length := by omega
      subst this
      rw [List.take_length] at ho
      have HJ := hide (joinS_any wr.drew W.heap.size (ms.map fun i => digS i.toNat) la ll lc (by rw [List.length_map]; exact ho) (by rw [List.length_map]; omega) (unhide HJL))
      have hrow := (hb.block w.heap.size hsW).trans (unhide HN)
      obtain ⟨q0, q1, _, _⟩ := row2 hrow
      have HROW := hide hrow
      clear ho hb HO hrow
      have hinsT : insT n.text ms = ((n.text ++ ⟨#[40]⟩) ++ joinB (ms.map fun i => digS i.toNat)) ++ ⟨#[41]⟩ := rfl
      have HIN := hide hinsT
      have hjs : (joinB (ms.map fun i => digS i.toNat)).size ≤ 1000000 := by have := unhide HJL; simpa [joinB, ByteArray.size] using this
      generalize joinB (ms.map fun i => digS i.toNat) = jb at *
      have hc1 : ¬ (9223372036854775807 < n.text.size + 1) := by omega
      have hc2 : ¬ (9223372036854775807 < n.text.size + 1 + jb.size) := by omega
      have hc3 : ¬ (9223372036854775807 < n.text.size + 1 + jb.size + 1) := by omega
      clear hinsT
      go_upto_region 7 with fail
      go_region_held3 (fun w' => w'.cell? ⟨w.heap.size, 0, none⟩ = some (.string n.text)) (first | exact q0 | exact u0)
        ((go_at_call 221; refine (unhide HJ).mono ?_; rintro e w1 ⟨rfl, hb1⟩; obtain ⟨u0, u1, _⟩ := row2 ((hb1.block w.heap.size (by show w.heap.size < wr.heap.size; omega)).trans (unhide HROW)); have HB1 := hide ((unhide HBW).trans (((unhide HB).drew.trans (hb1.mono (by show W.heap.size ≤ wr.heap.size; omega))).mono (Nat.le_of_lt hsW))); clear hb1; dsimp only))
      go_wp2
      go_ret
      rw [unhide HIN]
      exact ⟨rfl, unhide HB1⟩

end Go.Proofs.YtpmcnonmkghokaaGreatDoor
namespace Go.Proofs.YtpmcnonmkghokaaGreatDoor
open Go.RowKit
attribute [local go_sem ↓] Go.wp_at_zero Go.wp_at_succ
theorem Tryz.infoIns : (Tryz.prog.info? 176).map (fun i => (i.zero, i.size, i.bytes)) = some (some (.agg #[.string ⟨#[]⟩, .pointer none, .slice none 0 0, .slice none 0 0]), 4, 72) := by kernel_rfl
/-- The cells of instances: one behind the other. -/
def InsIs (w : World) (M : Nat) (pv : Value) (n : ByteArray) (ls : List (List Int)) (cs : List Value) : Prop :=
  cs.length = ls.length * 4 ∧ ∀ k (hk : k < ls.length), ∃ ma mn mc, (cs.drop (k * 4)).take 4 = [.string (insT n ls[k]), .pointer (some ⟨M, 0, none⟩), pv, .slice ma mn mc] ∧ w.ownsRow 0 3 1 (.slice ma mn mc) ls[k].length (ls[k].map (Value.int .i64))
theorem InsIs.tk {w w' : World} {M : Nat} {pv : Value} {n : ByteArray} {ls : List (List Int)} {cs : List Value} {x : Option Nat} {bad : List Nat} (h : InsIs w M pv n ls cs) (hk : Tk x bad w w') (hx : NoRow w x) (he : 3 ∉ bad) : InsIs w' M pv n ls cs :=
  ⟨h.1, fun k hl => by obtain ⟨a, b, c, e, ho⟩ := h.2 k hl; exact ⟨a, b, c, e, owns_tk ho hk hx he⟩⟩
theorem InsIs.snoc {w : World} {M : Nat} {pv : Value} {n : ByteArray} {ls : List (List Int)} {cs : List Value} {l : List Int} {ma : Option Addr} {mn mc : Nat} (h : InsIs w M pv n ls cs) (ho : w.ownsRow 0 3 1 (.slice ma mn mc) l.length (l.map (Value.int .i64))) : InsIs w M pv n (ls ++ [l]) (cs ++ [.string (insT n l), .pointer (some ⟨M, 0, none⟩), pv, .slice ma mn mc]) := by
  refine ⟨by simp [h.1]; omega, fun k hk => ?_⟩
  by_cases hl : k < ls.length
  · have hc := h.1
    rw [List.drop_append_of_le_length (by omega), List.take_append_of_le_length (by simp; omega), List.getElem_append_left hl]
    exact h.2 k hl
  · have : k = ls.length := by simp at hk; omega
    subst this
    rw [← h.1, List.drop_left]
    exact ⟨ma, mn, mc, by simp, by simpa using ho⟩
theorem four_of {cs : List Value} {k : Nat} {a b c d : Value} (h : (cs.drop (k * 4)).take 4 = [a, b, c, d]) : cs[k * 4]? = some a ∧ cs[k * 4 + 1]? = some b ∧ cs[k * 4 + 2]? = some c ∧ cs[k * 4 + 3]? = some d := by
  have g : ∀ j, j < 4 → cs[k * 4 + j]? = ([a, b, c, d] : List Value)[j]? := fun j hj => by
    rw [← h, List.getElem?_take_of_lt hj, List.getElem?_drop]
  exact ⟨g 0 (by omega), g 1 (by omega), g 2 (by omega), g 3 (by omega)⟩

set_option maxRecDepth 100000 in
set_option maxHeartbeats 8000000 in
theorem instances_any (w : World) (lo mo M : Nat) (a0 a1 a2 a3 a4 : Option Addr) (n0 n1 n2 n3 n4 c0 c1 c2 c3 c4 : Nat) (m : MdL) (hm : MdIs mo w (.slice a0 n0 c0) (.slice a1 n1 c1) (.slice a2 n2 c2) (.slice a3 n3 c3) (.slice a4 n4 c4) m) (hf : MdFit m) (n : Tok) (hns : n.text.size ≤ 1000) (l : List PP) (pa : Option Addr) (pn pc : Nat) (hP : w.ownsRow lo 352 4 (.slice pa pn pc) l.length (pasCells l)) (hl : l.length ≤ 1000) (r : List (List Int)) (hr : chO m.sets l [[]] = some r) (hok : ∀ x ∈ r, insOk x = true) (hrl : r.length ≤ 100000) :
    Calls Tryz.prog 100 #[.pointer (some ⟨M, 0, none⟩), mdV a0 a1 a2 a3 a4 n0 n1 n2 n3 n4 c0 c1 c2 c3 c4, .agg #[.string n.text, .int .i64 n.at_], .slice pa pn pc] w fun e w' => ∃ xa xn xc cs, e = .returned (.slice xa xn xc) ∧ w'.ownsRow w.heap.size 176 4 (.slice xa xn xc) r.length cs ∧ InsIs w' M (.slice pa pn pc) n.text r cs ∧ Below w.heap.size w w' := by
  obtain ⟨i0, hi, hz0, hz1, hz2⟩ := info_parts Tryz.infoIns
  obtain ⟨W, hW⟩ : ∃ W, W = (w.alloc (.cells #[.slice a0 n0 c0, .slice a1 n1 c1, .slice a2 n2 c2, .slice a3 n3 c3, .slice a4 n4 c4] 68)).alloc (.cells #[.string n.text, .int .i64 n.at_] 107) := ⟨_, rfl⟩
  have hbW : Below w.heap.size w W := by rw [hW]; exact (below_alloc1 w _).trans ((below_alloc1 _ _).mono (by simp))
  have hsW : w.heap.size + 1 < W.heap.size := by rw [hW]; simp
  have hN : W.heap[w.heap.size + 1]? = some (.cells #[.string n.text, .int .i64 n.at_] 107 (0, 0)) := by
    rw [hW]
    have := alloc_new (w.alloc (.cells #[.slice a0 n0 c0, .slice a1 n1 c1, .slice a2 n2 c2, .slice a3 n3 c3, .slice a4 n4 c4] 68)) (.cells #[.string n.text, .int .i64 n.at_] 107)
    simp only [World.size_alloc] at this
    exact this
  have HCH := hide (choices_any W lo mo a0 a1 a2 a3 a4 n0 n1 n2 n3 n4 c0 c1 c2 c3 c4 m (hm.stay fun k _ hk => hbW.block k hk) hf l pa pn pc (owns_below hP hbW) hl r hr)
  unfold mdV at HCH ⊢
  have HN := hide hN
  have HBW := hide hbW
  have HWE := hide hW.symm
  have HOK := hide hok
  clear hm hf hP hr hN hbW hW hok
  go_enter Tryz.func100, Tryz.ntmps100
  go_wp2_with fail
  rw [unhide HWE]
  refine (unhide HCH).mono ?_
  rintro e w1 ⟨v1, rfl, hown1, hb1⟩
  obtain ⟨xa, xn, xc, cs, rfl, hrow, hrows⟩ := hown1
  obtain ⟨ya, yc, e1, hview⟩ := own_viewB hrow
  injection e1 with e1 e2 e3
  subst e1; subst e2; subst e3
  have hs1 := hb1.size
  have HV := hide hview
  have HROWS := hide hrows
  have HN1 := hide ((hb1.block _ hsW).trans (unhide HN))
  have HB1 := hide ((unhide HBW).trans (hb1.mono (by omega)))
  clear hview hrow hrows hb1 HCH HN
  go_wp2_with fail
  go_loopw [9, 11, 16] (fun x _ i wr => ∃ (k : Nat) (za : Option Addr) (zn zc : Nat) (ds : List Value), k ≤ r.length ∧ i = .int .i64 k ∧ x = .slice za zn zc ∧ wr.ownsRow w1.heap.size 176 4 (.slice za zn zc) k ds ∧ InsIs wr M (.slice pa pn pc) n.text (r.take k) ds ∧ Below w1.heap.size w1 wr) (fun _ _ i _ => r.length - (intOf i).toNat)
  case atStart => exact ⟨0, none, 0, 0, [], Nat.zero_le _, rfl, rfl, World.ownsRow_nil _ _ _ _, ⟨rfl, fun k hk => by simp at hk⟩, Below.refl _ _⟩
  case round =>
    obtain ⟨k, za, zn, zc, ds, hk, rfl, rfl, ho, hins, hb⟩ := hrel
    have hsz := hb.size
    by_cases hlt : k < r.length
    · obtain ⟨g, rfl, hg1, hg2, hc⟩ := unhide HV k hlt
      obtain ⟨ca, cn, cc, ec, hch⟩ := (unhide HROWS).2 k hlt
      have e0 : wr.cell? ⟨g, k, none⟩ = some (.slice ca cn cc) := by
        rw [hb.cell (p := ⟨g, k, none⟩) hg2, hc k (by omega)]; exact ec
      have hch' := owns_below hch hb
      have hnr := (hb.block _ (by omega)).trans (unhide HN1)
      obtain ⟨q0, q1, _, _⟩ := row2 hnr
      have hxo := (unhide HOK) _ (List.getElem_mem hlt)
      have HIT := hide (instanceText_any wr 0 n r[k] ca cn cc hch' hxo hns)
      have HSN := hide (show r.take (k + 1) = r.take k ++ [r[k]] from List.take_succ_eq_append_getElem hlt)
      have HC := hide hch'
      have HO := hide ho
      have HI := hide hins
      have HB := hide hb
      have HIT2 := hide (show ∃ tt, tt = insT n.text r[k] from ⟨_, rfl⟩)
      obtain ⟨tt, htt⟩ := unhide HIT2
      rw [← htt] at HIT
      have HTT := hide htt
      generalize r[k] = c at *
      clear hc hb hch hch' ec ho hins hnr hxo htt HIT2
      go_wp2_with fail
      refine (unhide HIT).mono ?_
      rintro e w2 ⟨rfl, hb2⟩
      have hs2 := hb2.size
      have HO2 := hide (owns_below (unhide HO) hb2)
      have HI2 := hide ((unhide HI).tk (below_tk hb2 none [176]) (NoRow.none _) (by decide))
      have HC2 := hide (owns_below (unhide HC) hb2)
      have HB2 := hide ((unhide HB).trans (hb2.mono hsz))
      clear hb2 HIT
      go_wp2_with (at_builtin; refine wpList_append_own_at _ rfl _ _ 214 rfl w1.heap.size 176 i0 _ 4 72 Tryz.underlying214 hi hz0 hz1 hz2 rfl (by decide) (.slice za zn zc) _ _ rfl ((unhide HO2).alloc _) ⟨w2.heap.size, 0, none⟩ 1 1 [.string tt, .pointer (some ⟨M, 0, none⟩), .slice pa pn pc, .slice ca cn cc] rfl rfl (cells_new w2 _ [.string tt, .pointer (some ⟨M, 0, none⟩), .slice pa pn pc, .slice ca cn cc] _ rfl) (by intro y hy; simp only [List.mem_cons, List.not_mem_nil, or_false] at hy; rcases hy with rfl | rfl | rfl | rfl <;> rfl) (by unfold maxLen; omega) (by omega) (by simp; omega) ?_)
      intro v3 w3 hown3 hgrow3 _ hat3
      obtain ⟨a5, l5, c5, rfl⟩ := own_slice hown3
      have k3 : Tk none [176] w2 w3 := (below_tk (below_alloc1 w2 _) _ _).trans (grown_tk ((unhide HO2).alloc _) hgrow3 (by simp))
      have HI3 := hide (show InsIs w3 M (.slice pa pn pc) n.text (r.take (k + 1)) (ds ++ [.string tt, .pointer (some ⟨M, 0, none⟩), .slice pa pn pc, .slice ca cn cc]) by
        rw [unhide HSN, unhide HTT]; exact ((unhide HI2).snoc (unhide HC2)).tk k3 (NoRow.none _) (by decide))
      have HO3 := hide hown3
      have HB3 := hide (((unhide HB2).alloc (by omega) _).grown hgrow3 (by simp; omega) (own_ge (unhide HO2)))
      clear hown3 hgrow3 hat3 k3
      go_wp2
      go_roundw
      case rel => exact ⟨k + 1, a5, l5, c5, _, by omega, by go_num, rfl, unhide HO3, unhide HI3, unhide HB3⟩
      case measure => simp [intOf]; omega
    · have : k = r.length := by omega
      subst this
      rw [List.take_length] at hins
      have HO := hide (owns_mono (by omega : w.heap.size ≤ w1.heap.size) ho)
      have HI := hide hins
      have HB := hide ((unhide HB1).trans (hb.mono (by omega)))
      clear ho hins hb
      go_wp2
      go_ret
      exact ⟨_, _, _, _, rfl, unhide HO, unhide HI, unhide HB⟩

end Go.Proofs.YtpmcnonmkghokaaGreatDoor
namespace Go.Proofs.YtpmcnonmkghokaaGreatDoor
open Go.RowKit
attribute [local go_sem ↓] Go.wp_at_zero Go.wp_at_succ
theorem Tryz.infoMStep : (Tryz.prog.info? 178).map (fun i => (i.zero, i.size, i.bytes)) = some (some (.agg #[.string ⟨#[]⟩, .pointer none, .slice none 0 0, .slice none 0 0, .pointer none, .slice none 0 0]), 6, 104) := by kernel_rfl
/-- What is read in the region. -/
def AsS (M b R : Nat) (xv x0 x1 x2 x3 y3 y4 : Value) (w : World) : Prop :=
  w.cell? ⟨M, 0, none⟩ = some xv ∧ w.cell? ⟨b, 0, none⟩ = some x0 ∧ w.cell? ⟨b, 1, none⟩ = some x1 ∧ w.cell? ⟨b, 2, none⟩ = some x2 ∧ w.cell? ⟨b, 3, none⟩ = some x3 ∧ w.cell? ⟨R, 3, none⟩ = some y3 ∧ w.cell? ⟨R, 4, none⟩ = some y4
theorem AsS.below {M b R : Nat} {xv x0 x1 x2 x3 y3 y4 : Value} {B : Nat} {w w' : World} (h : AsS M b R xv x0 x1 x2 x3 y3 y4 w) (hb : Below B w w') (hM : M < B) (hB : b < B) (hR : R < B) : AsS M b R xv x0 x1 x2 x3 y3 y4 w' := by
  obtain ⟨s0, s1, s2, s3, s4, s5, s6⟩ := h
  exact ⟨(hb.cell (p := ⟨M, 0, none⟩) (by simp; omega)).trans s0, (hb.cell (p := ⟨b, 0, none⟩) (by simp; omega)).trans s1, (hb.cell (p := ⟨b, 1, none⟩) (by simp; omega)).trans s2, (hb.cell (p := ⟨b, 2, none⟩) (by simp; omega)).trans s3, (hb.cell (p := ⟨b, 3, none⟩) (by simp; omega)).trans s4, (hb.cell (p := ⟨R, 3, none⟩) (by simp; omega)).trans s5, (hb.cell (p := ⟨R, 4, none⟩) (by simp; omega)).trans s6⟩
theorem as_row4 {lo so : Nat} {w : World} {M nb : Nat} {steps : List MStep} {nevers : List MNever} {sets : List Int} {vars : List MVar} {tab : MTab} {size : Nat} {sv nv tv vv : Value} (h : MchIs lo so w M nb steps nevers sets vars tab size sv nv tv vv) {w3 w4 : World} {o : Obj} (hb : Below w.heap.size w w3) (hg : (w3.alloc o).grownBy w4 sv.ownBlock) : w4.heap[M]? = some (.cells #[sv, nv, tv, vv, .map (some nb), .int .i64 size] 105 (0, 0)) := by
  have h3 : (w3.alloc o).heap[M]? = some (.cells #[sv, nv, tv, vv, .map (some nb), .int .i64 size] 105 (0, 0)) := alloc_row ((hb.block M (lt_of_block h.row)).trans h.row)
  obtain ⟨cs, ho, _⟩ := h.steps
  exact (grown_tk (x := none) (bad := [178]) (owns_below ho (hb.alloc hb.size o)) hg (by decide)).row h3 (by simp) (by decide)
theorem as_end {lo so : Nat} {w : World} {M nb : Nat} {steps : List MStep} {nevers : List MNever} {sets : List Int} {vars : List MVar} {tab : MTab} {size : Nat} {sv nv tv vv : Value} (h : MchIs lo so w M nb steps nevers sets vars tab size sv nv tv vv) (s : MStep) {cs ds : List Value} (hva : w.ownsRow lo 178 6 sv steps.length cs) (hsi : StepsIs 0 so w M steps cs) {w3 w4 : World} (hb : Below w.heap.size w w3) (hs : StepIs 0 so w3 M s ds) (hd : ds.length = 6)
    (hg : (w3.alloc (.cells ds.toArray 178)).grownBy w4 sv.ownBlock) {gg gcap : Nat} (hown : w4.ownsRow lo 178 6 (.slice (some ⟨gg, 0, none⟩) (steps.length + 1) gcap) (steps.length + 1) (cs ++ ds)) (hlo : lo ≤ w.heap.size) :
    (∃ gv gn gc, MchIs lo so (w4.setCell ⟨M, 0, none⟩ (.slice (some ⟨gg, 0, none⟩) (steps.length + 1) gcap)) M nb (steps ++ [s]) nevers sets vars tab size (.slice gv gn gc) nv tv vv) ∧ Tk none [105, 178] w (w4.setCell ⟨M, 0, none⟩ (.slice (some ⟨gg, 0, none⟩) (steps.length + 1) gcap)) ∧ Below lo w (w4.setCell ⟨M, 0, none⟩ (.slice (some ⟨gg, 0, none⟩) (steps.length + 1) gcap)) := by
  have hr4 := as_row4 h hb hg
  have hr5 := mset0 hr4 (.slice (some ⟨gg, 0, none⟩) (steps.length + 1) gcap)
  have hb3 : Below w.heap.size w (w3.alloc (.cells ds.toArray 178)) := hb.alloc hb.size _
  have hv3 := owns_below hva hb3
  have k4 : Tk none [105, 178] (w3.alloc (.cells ds.toArray 178)) w4 := grown_tk hv3 hg (by decide)
  have k5 : Tk none [105] w4 (w4.setCell ⟨M, 0, none⟩ (.slice (some ⟨gg, 0, none⟩) (steps.length + 1) gcap)) := set_tk hr4 (by decide) 0 _
  have k35 := k4.trans (k5.wide (by decide : ∀ e ∈ [105], e ∈ [105, 178]))
  have k3 := (below_tk (below_alloc1 w3 (.cells ds.toArray 178)) none [105, 178]).trans k35
  have K := (below_tk hb3 none [105, 178]).trans k35
  have nr := NoRow.none w
  obtain ⟨h0, h1, h2, h3, ⟨c4, h4, q4⟩, h5, h6, h7⟩ := h
  obtain ⟨c2, h2, q2⟩ := h2
  refine ⟨⟨_, _, _, ⟨hr5, ⟨cs ++ ds, ?_, ?_⟩, ⟨c2, owns_tk h2 K nr (by decide), q2.tk K nr (by decide) (by decide)⟩, owns_tk h3 K nr (by decide), ⟨c4, owns_tk h4 K nr (by decide), q4.tk K nr (by decide)⟩, h5.tk K (by simp), h6, h7⟩⟩, K, ?_⟩
  · rw [List.length_append]; exact owns_tk hown k5 (NoRow.none _) (by decide)
  · exact (hsi.tk K nr (by decide) (by decide)).snoc (hs.tk k3 (NoRow.none _) (by decide) (by decide)) hd
  · exact (((hb3.mono hlo)).grown hg (Nat.le_trans hlo hb3.size) (own_ge hv3)).setCell (p := ⟨M, 0, none⟩) h6 _

set_option maxRecDepth 100000 in
set_option maxHeartbeats 8000000 in
theorem addSteps_any (w : World) (lo so M nb : Nat) (steps : List MStep) (nevers : List MNever) (sets : List Int) (vars : List MVar) (tab : MTab) (size : Nat) (sv nv tv vv : Value) (a0 a1 a2 a3 a4 : Option Addr) (n0 n1 n2 n3 n4 c0 c1 c2 c3 c4 : Nat) (m : MdL) (rl : PRule) (pa gp ba : Option Addr) (pn pc bn bc : Nat) (bs : List Value) (h : MchIs lo so w M nb steps nevers sets vars tab size sv nv tv vv) (hm : MdIs so w (.slice a0 n0 c0) (.slice a1 n1 c1) (.slice a2 n2 c2) (.slice a3 n3 c3) (.slice a4 n4 c4) m) (hf : MdFit m) (hns : rl.name.text.size ≤ 1000)
    (hP : w.ownsRow so 352 4 (.slice pa pn pc) rl.params.length (pasCells rl.params)) (hpl : rl.params.length ≤ 1000) (hX : XIs so w rl.guard (.pointer gp)) (hB : w.ownsRow so 334 9 (.slice ba bn bc) (plen rl.body) bs) (hBI : BIs so none w rl.body bs) (r : List (List Int)) (hr : chO m.sets rl.params [[]] = some r) (hok : ∀ x ∈ r, insOk x = true) (hrl : r.length ≤ 100000) (hsl : steps.length ≤ 100000) (hlo : lo ≤ w.heap.size) :
    Calls Tryz.prog 58 #[.pointer (some ⟨M, 0, none⟩), mdV a0 a1 a2 a3 a4 n0 n1 n2 n3 n4 c0 c1 c2 c3 c4, .agg #[.string rl.name.text, .int .i64 rl.name.at_, .slice pa pn pc, .pointer gp, .slice ba bn bc]] w fun e w' => e = .returned (.tuple #[]) ∧ (∃ gv gn gc, MchIs lo so w' M nb (steps ++ r.map (fun ms => (⟨insT rl.name.text ms, rl.params, ms, rl.guard, rl.body⟩ : MStep))) nevers sets vars tab size (.slice gv gn gc) nv tv vv) ∧ Tk none [105, 178] w w' ∧ Below lo w w' := by
  obtain ⟨i0, hi, hz0, hz1, hz2⟩ := info_parts Tryz.infoMStep
  obtain ⟨W, hW⟩ : ∃ W, W = (w.alloc (.cells #[.slice a0 n0 c0, .slice a1 n1 c1, .slice a2 n2 c2, .slice a3 n3 c3, .slice a4 n4 c4] 68)).alloc (.cells #[.string rl.name.text, .int .i64 rl.name.at_, .slice pa pn pc, .pointer gp, .slice ba bn bc] 127) := ⟨_, rfl⟩
  have hbW : Below w.heap.size w W := by rw [hW]; exact (below_alloc1 w _).trans ((below_alloc1 _ _).mono (by simp))
  have hsW : w.heap.size + 1 < W.heap.size := by rw [hW]; simp
  have hN : W.heap[w.heap.size + 1]? = some (.cells #[.string rl.name.text, .int .i64 rl.name.at_, .slice pa pn pc, .pointer gp, .slice ba bn bc] 127 (0, 0)) := by
    rw [hW]
    have := alloc_new (w.alloc (.cells #[.slice a0 n0 c0, .slice a1 n1 c1, .slice a2 n2 c2, .slice a3 n3 c3, .slice a4 n4 c4] 68)) (.cells #[.string rl.name.text, .int .i64 rl.name.at_, .slice pa pn pc, .pointer gp, .slice ba bn bc] 127)
    simp only [World.size_alloc] at this
    exact this
  have HINS := hide (instances_any W so so M a0 a1 a2 a3 a4 n0 n1 n2 n3 n4 c0 c1 c2 c3 c4 m (hm.stay fun k _ hk => hbW.block k hk) hf rl.name hns rl.params pa pn pc (owns_below hP hbW) hpl r hr hok hrl)
  unfold mdV at HINS ⊢
  have hMl : M < w.heap.size := lt_of_block h.row
  have HN := hide hN
  have HBW := hide hbW
  have HWE := hide hW.symm
  have HMC := hide (h.below hbW)
  have HP := hide (owns_below hP hbW)
  have HX := hide (hX.below hbW)
  have HBO := hide (owns_below hB hbW)
  have HBI := hide (show BIs so none W rl.body bs from hBI.stay fun k _ hk => hbW.block k hk)
  clear hB hBI
  clear h hm hf hP hX hr hok hN hbW hW
  go_enter Tryz.func58, Tryz.ntmps58
  go_wp2_with fail
  rw [unhide HWE]
  refine (unhide HINS).mono ?_
  rintro e w1 ⟨xa, xn, xc, cs, rfl, hrow, hins, hb1⟩
  obtain ⟨ya, yc, e1, hview⟩ := own_viewB hrow
  injection e1 with e1 e2 e3
  subst e1; subst e2; subst e3
  have hs1 := hb1.size
  have HV := hide hview
  have HROW := hide hrow
  have HI := hide hins
  have HN1 := hide ((hb1.block _ hsW).trans (unhide HN))
  have HMC1 := hide ((unhide HMC).below hb1)
  have HP1 := hide (owns_below (unhide HP) hb1)
  have HX1 := hide ((unhide HX).below hb1)
  have HBO1 := hide (owns_below (unhide HBO) hb1)
  have HBI1 := hide (show BIs so none w1 rl.body bs from (unhide HBI).stay fun k _ hk => hb1.block k hk)
  clear HBO HBI
  have HB1 := hide ((unhide HBW).trans (hb1.mono (by omega)))
  clear hview hrow hins hb1 HINS HN HMC HP HX
  go_wp2_with fail
  go_loopw [7, 16] (fun _ i wr => ∃ k : Nat, k ≤ r.length ∧ i = .int .i64 k ∧ (∃ gv gn gc, MchIs lo so wr M nb (steps ++ (r.take k).map (fun ms => (⟨insT rl.name.text ms, rl.params, ms, rl.guard, rl.body⟩ : MStep))) nevers sets vars tab size (.slice gv gn gc) nv tv vv) ∧ Tk none [105, 178] w1 wr ∧ Below lo w1 wr) (fun _ i _ => r.length - (intOf i).toNat)
  case atStart =>
    obtain ⟨gx, hgx⟩ : ∃ gx : List Value, w1.ownsRow lo 178 6 sv steps.length gx := by obtain ⟨q, hq, _⟩ := (unhide HMC1).steps; exact ⟨q, hq⟩
    obtain ⟨gv, gc, e, _⟩ := own_viewB hgx
    subst e
    exact ⟨0, Nat.zero_le _, rfl, ⟨gv, _, gc, by simpa using unhide HMC1⟩, Tk.refl _ _ _, Below.refl _ _⟩
  case round =>
    obtain ⟨k, hk, rfl, ⟨va, vn, vc, hmc⟩, htk, hb⟩ := hrel
    have hsz := htk.size
    by_cases hlt : k < r.length
    · have hrow := owns_tk (unhide HROW) htk (NoRow.none _) (by decide)
      obtain ⟨yb, yd, e1, hvw⟩ := own_viewB hrow
      injection e1 with e1 e2 e3
      subst e1; subst e3
      obtain ⟨g, rfl, hg1, hg2, hc⟩ := hvw k hlt
      obtain ⟨ma, mn, mc, ec, hch⟩ := (unhide HI).2 k hlt
      have hch' := owns_tk hch htk (NoRow.none _) (by decide)
      obtain ⟨s0, s1, s2, s3⟩ := four_of ec
      have e0 := (hc (k * 4) (by omega)).trans s0
      have e1 := (hc (k * 4 + 1) (by omega)).trans s1
      have e2 := (hc (k * 4 + 2) (by omega)).trans s2
      have e3 := (hc (k * 4 + 3) (by omega)).trans s3
      have hnr := htk.row (unhide HN1) (by simp) (by decide)
      have hp' := owns_tk (unhide HP1) htk (NoRow.none _) (by decide)
      have hx' := (unhide HX1).tk htk (NoRow.none _) (by decide)
      have hbo' := owns_tk (unhide HBO1) htk (NoRow.none _) (by decide)
      have hbi' := (unhide HBI1).tk htk (NoRow.none _) (by decide) (by decide)
      obtain ⟨tt, htt⟩ : ∃ tt, tt = insT rl.name.text r[k] := ⟨_, rfl⟩
      obtain ⟨one, hone⟩ : ∃ one : MStep, one = (fun ms => (⟨insT rl.name.text ms, rl.params, ms, rl.guard, rl.body⟩ : MStep)) r[k] := ⟨_, rfl⟩
      have hsI : StepIs 0 so wr M one [.string tt, .pointer (some ⟨M, 0, none⟩), .slice pa pn pc, .slice ma mn mc, .pointer gp, .slice ba bn bc] := by rw [hone, htt]; exact ⟨pa, pn, pc, ma, mn, mc, gp, ba, bn, bc, bs, none, rfl, owns_mono (Nat.zero_le _) hp', owns_mono (Nat.zero_le _) hch', hx', hbo', hbi'⟩
      have HSI := hide hsI
      have HSN := hide (show (steps ++ (r.take (k + 1)).map (fun ms => (⟨insT rl.name.text ms, rl.params, ms, rl.guard, rl.body⟩ : MStep))) = (steps ++ (r.take k).map (fun ms => (⟨insT rl.name.text ms, rl.params, ms, rl.guard, rl.body⟩ : MStep))) ++ [one] by rw [hone, List.take_succ_eq_append_getElem hlt, List.map_append, ← List.append_assoc]; rfl)
      have hxl : (steps ++ (r.take k).map (fun ms => (⟨insT rl.name.text ms, rl.params, ms, rl.guard, rl.body⟩ : MStep))).length ≤ 200000 := by simp; omega
      rw [← htt] at e0
      generalize (steps ++ (r.take k).map (fun ms => (⟨insT rl.name.text ms, rl.params, ms, rl.guard, rl.body⟩ : MStep))) = Lx at *
      have hrM := hmc.row
      have hMr : M < wr.heap.size := lt_of_block hrM
      obtain ⟨m0, m1, m2, m3, m4, m5, f0, f1, f2, f3, f4, f5⟩ := row6 hrM
      have hRl : w.heap.size + 1 < wr.heap.size := by omega
      obtain ⟨u0, u1, u2, u3, u4, _⟩ := row5' hnr
      have hbx : Below wr.heap.size wr (wr.alloc (.cells #[.string tt, .pointer (some ⟨M, 0, none⟩), .slice pa pn pc, .slice ma mn mc] 176)) := below_alloc1 _ _
      have hbxr : (wr.alloc (.cells #[.string tt, .pointer (some ⟨M, 0, none⟩), .slice pa pn pc, .slice ma mn mc] 176)).heap[wr.heap.size]? = some (.cells #[.string tt, .pointer (some ⟨M, 0, none⟩), .slice pa pn pc, .slice ma mn mc] 176 (0, 0)) := alloc_new _ _
      obtain ⟨b0, b1, b2, b3, _⟩ := row4' hbxr
      have HS0 := hide (show AsS M wr.heap.size (w.heap.size + 1) (.slice va vn vc) (.string tt) (.pointer (some ⟨M, 0, none⟩)) (.slice pa pn pc) (.slice ma mn mc) (.pointer gp) (.slice ba bn bc) (wr.alloc (.cells #[.string tt, .pointer (some ⟨M, 0, none⟩), .slice pa pn pc, .slice ma mn mc] 176)).drew from ⟨(hbx.cell (p := ⟨M, 0, none⟩) hMr).trans m0, b0, b1, b2, b3, (hbx.cell (p := ⟨w.heap.size + 1, 3, none⟩) hRl).trans u3, (hbx.cell (p := ⟨w.heap.size + 1, 4, none⟩) hRl).trans u4⟩)
      obtain ⟨xs, hva, hsis⟩ := hmc.steps
      have HVA := hide hva
      have HSIS := hide hsis
      have HMCr := hide hmc
      have HTK := hide htk
      have HB := hide hb
      have HBX := hide (show Below wr.heap.size wr (wr.alloc (.cells #[.string tt, .pointer (some ⟨M, 0, none⟩), .slice pa pn pc, .slice ma mn mc] 176)).drew from hbx.drew)
      generalize r[k] = c at *
      clear hc hch hch' ec s0 s1 s2 s3 hvw hrow hnr hp' hx' hbo' hbi' htt hone hsI hmc htk hb hva hsis hbx hbxr b0 b1 b2 b3 u0 u1 u2 u3 u4 m0 m1 m2 m3 m4 m5 f0 f1 f2 f3 f4 f5 hrM
      go_upto_region 4 with fail
      refine wp_region_tail (S := AsS M wr.heap.size (w.heap.size + 1) (.slice va vn vc) (.string tt) (.pointer (some ⟨M, 0, none⟩)) (.slice pa pn pc) (.slice ma mn mc) (.pointer gp) (.slice ba bn bc)) (tl := [12, 13, 14, 15]) (by kernel_rfl) ?_
      refine wpAnyT_free (i := 0) (v := .pointer (some ⟨M, 0, none⟩)) rfl (by kernel_rfl) (by kernel_rfl) (by kernel_rfl) (fun _ _ _ h => h) (Or.inl ⟨by rfl, fun _ _ => by go_simp⟩) ?_
      try simp only [Act.put, List.setIfInBounds_toArray, List.set_cons_zero, List.set_cons_succ]
      refine wpAnyT_free (i := 1) (v := .pointer (some ⟨M, 0, none⟩)) rfl (by kernel_rfl) (by kernel_rfl) (by kernel_rfl) (fun _ _ _ h => h) (Or.inl ⟨by rfl, fun _ _ => by go_simp⟩) ?_
      try simp only [Act.put, List.setIfInBounds_toArray, List.set_cons_zero, List.set_cons_succ]
      refine wpAnyT_free (i := 2) (v := .pointer (some ⟨M, 0, none⟩)) rfl (by kernel_rfl) (by kernel_rfl) (by kernel_rfl) (fun _ _ _ h => h) (Or.inl ⟨by rfl, fun _ _ => by go_simp⟩) ?_
      try simp only [Act.put, List.setIfInBounds_toArray, List.set_cons_zero, List.set_cons_succ]
      refine wpAnyT_free (i := 3) (v := .pointer (some ⟨M, 0, none⟩)) rfl (by kernel_rfl) (by kernel_rfl) (by kernel_rfl) (fun _ _ _ h => h) (Or.inl ⟨by rfl, fun _ _ => by go_simp⟩) ?_
      try simp only [Act.put, List.setIfInBounds_toArray, List.set_cons_zero, List.set_cons_succ]
      refine wpAnyT_take (i := 4) (v := .slice va vn vc) [12, 13, 14, 15] rfl (by kernel_rfl) (by kernel_rfl) (by kernel_rfl) (by kernel_rfl) (by decide) (fun _ _ _ h => h) (Or.inl ⟨by rfl, fun wq hSw => by (obtain ⟨s0, s1, s2, s3, s4, s5, s6⟩ := hSw; go_simp)⟩) (unhide HS0) ?_
      try simp only [Act.put, List.setIfInBounds_toArray, List.set_cons_zero, List.set_cons_succ]
      refine wpAnyT_take (i := 5) (v := .agg #[.string tt, .pointer (some ⟨M, 0, none⟩), .slice pa pn pc, .slice ma mn mc]) [10, 11, 12, 13, 14, 15] rfl (by kernel_rfl) (by kernel_rfl) (by kernel_rfl) (by kernel_rfl) (by decide) (fun _ _ _ h => h) (Or.inl ⟨by rfl, fun wq hSw => by (obtain ⟨s0, s1, s2, s3, s4, s5, s6⟩ := hSw; go_simp)⟩) (unhide HS0) ?_
      try simp only [Act.put, List.setIfInBounds_toArray, List.set_cons_zero, List.set_cons_succ]
      refine wpAnyT_free (i := 6) (v := .pointer (some ⟨w.heap.size + 1, 3, none⟩)) rfl (by kernel_rfl) (by kernel_rfl) (by kernel_rfl) (fun _ _ _ h => h) (Or.inl ⟨by rfl, fun _ _ => by go_simp⟩) ?_
      try simp only [Act.put, List.setIfInBounds_toArray, List.set_cons_zero, List.set_cons_succ]
      refine wpAnyT_take (i := 7) (v := .pointer gp) [10, 11, 12, 13, 14, 15] rfl (by kernel_rfl) (by kernel_rfl) (by kernel_rfl) (by kernel_rfl) (by decide) (fun _ _ _ h => h) (Or.inl ⟨by rfl, fun wq hSw => by (obtain ⟨s0, s1, s2, s3, s4, s5, s6⟩ := hSw; go_simp)⟩) (unhide HS0) ?_
      try simp only [Act.put, List.setIfInBounds_toArray, List.set_cons_zero, List.set_cons_succ]
      refine wpAnyT_free (i := 8) (v := .pointer (some ⟨w.heap.size + 1, 4, none⟩)) rfl (by kernel_rfl) (by kernel_rfl) (by kernel_rfl) (fun _ _ _ h => h) (Or.inl ⟨by rfl, fun _ _ => by go_simp⟩) ?_
      try simp only [Act.put, List.setIfInBounds_toArray, List.set_cons_zero, List.set_cons_succ]
      refine wpAnyT_take (i := 9) (v := .slice ba bn bc) [10, 11, 12, 13, 14, 15] rfl (by kernel_rfl) (by kernel_rfl) (by kernel_rfl) (by kernel_rfl) (by decide) (fun _ _ _ h => h) (Or.inl ⟨by rfl, fun wq hSw => by (obtain ⟨s0, s1, s2, s3, s4, s5, s6⟩ := hSw; go_simp)⟩) (unhide HS0) ?_
      try simp only [Act.put, List.setIfInBounds_toArray, List.set_cons_zero, List.set_cons_succ]
      refine wpAnyT_free (i := 10) (v := .agg #[.string tt, .pointer (some ⟨M, 0, none⟩), .slice pa pn pc, .slice ma mn mc, .pointer gp, .slice ba bn bc]) rfl (by kernel_rfl) (by kernel_rfl) (by kernel_rfl) (fun _ _ _ h => h) (Or.inl ⟨by rfl, fun _ _ => by go_simp⟩) ?_
      try simp only [Act.put, List.setIfInBounds_toArray, List.set_cons_zero, List.set_cons_succ]
      refine wpAnyT_ready (rs := [11]) (by kernel_rfl) (by simp) ?_
      refine AllReadyT.cons rfl (fun K hK => ?_) AllReadyT.nil
      go_simp
      refine hK _ _ ((unhide HS0).below (below_alloc1 _ _) (show M < (wr.alloc _).heap.size by simp; omega) (show wr.heap.size < (wr.alloc _).heap.size by simp) (show w.heap.size + 1 < (wr.alloc _).heap.size by simp; omega)) ?_
      clear hK K
      refine wpAnyT_tail _ _ _ _ (tail_all (by kernel_rfl)) ?_
      refine wpAny_ready (rs := [12]) (by kernel_rfl) (by simp) (AllReady.cons rfl (fun K hK => ?_) AllReady.nil)
      refine step_append_lies _ (by rfl) _ _ _ (by rfl) lo 178 i0 _ 6 104 Tryz.underlying101 hi hz0 hz1 hz2 rfl (by omega) (.slice va vn vc) Lx.length xs (by rfl) (owns_below (unhide HVA) ((unhide HBX).alloc (unhide HBX).size _)) ⟨wr.heap.size + 1, 0, none⟩ 1 1 [.string tt, .pointer (some ⟨M, 0, none⟩), .slice pa pn pc, .slice ma mn mc, .pointer gp, .slice ba bn bc] (by rfl) (by rfl) (World.news_of_block (cs := #[.string tt, .pointer (some ⟨M, 0, none⟩), .slice pa pn pc, .slice ma mn mc, .pointer gp, .slice ba bn bc]) (t := 178) (fr := (0, 0)) (by have := heap_alloc_new (wr.alloc (.cells #[.string tt, .pointer (some ⟨M, 0, none⟩), .slice pa pn pc, .slice ma mn mc] 176)) (.cells #[.string tt, .pointer (some ⟨M, 0, none⟩), .slice pa pn pc, .slice ma mn mc, .pointer gp, .slice ba bn bc] 178); simp only [World.size_alloc] at this; exact this)) (by intro y hy; simp only [List.mem_cons, List.not_mem_nil, or_false] at hy; rcases hy with rfl | rfl | rfl | rfl | rfl | rfl <;> rfl) (by omega) (by unfold maxLen; omega) (by omega) (by simp; omega) (wr.heap.size + 2) (by simp) ?_
      intro gg gcap w4 hown4 hgrow hat hlt4
      refine hK _ _ ?_
      clear hK K
      have hgrow : ((wr.alloc (.cells #[.string tt, .pointer (some ⟨M, 0, none⟩), .slice pa pn pc, .slice ma mn mc] 176)).drew.alloc (.cells #[.string tt, .pointer (some ⟨M, 0, none⟩), .slice pa pn pc, .slice ma mn mc, .pointer gp, .slice ba bn bc] 178)).grownBy w4 (Value.slice va vn vc).ownBlock := hgrow
      have hr4 := as_row4 (unhide HMCr) (unhide HBX) hgrow
      obtain ⟨m0, m1, m2, m3, m4, m5, f0, f1, f2, f3, f4, f5⟩ := row6 hr4
      have hend := as_end (unhide HMCr) one (unhide HVA) (unhide HSIS) (unhide HBX) ((unhide HSI).tk (below_tk (unhide HBX) none []) (NoRow.none _) (by simp) (by simp)) rfl hgrow hown4 (by omega)
      have HEND := hide (show (∃ gv gn gc, MchIs lo so (w4.setCell ⟨M, 0, none⟩ (.slice (some ⟨gg, 0, none⟩) (Lx.length + 1) gcap)) M nb (Lx ++ [one]) nevers sets vars tab size (.slice gv gn gc) nv tv vv) ∧ Tk none [105, 178] w1 (w4.setCell ⟨M, 0, none⟩ (.slice (some ⟨gg, 0, none⟩) (Lx.length + 1) gcap)) ∧ Below lo w1 (w4.setCell ⟨M, 0, none⟩ (.slice (some ⟨gg, 0, none⟩) (Lx.length + 1) gcap)) from ⟨hend.1, (unhide HTK).trans hend.2.1, (unhide HB).trans hend.2.2⟩)
      clear hr4 hown4 hgrow hat hend
      refine wpAny_ready (rs := [13]) (by kernel_rfl) (by simp) (AllReady.cons rfl (fun K hK => ?_) AllReady.nil)
      go_simp
      refine hK _ _ ?_
      clear hK K
      refine wpAny_ready (rs := [14]) (by kernel_rfl) (by simp) (AllReady.cons rfl (fun K hK => ?_) AllReady.nil)
      go_simp
      refine hK _ _ ?_
      clear hK K
      refine wpAny_ready (rs := [15]) (by kernel_rfl) (by simp) (AllReady.cons rfl (fun K hK => ?_) AllReady.nil)
      go_simp
      refine hK _ _ ?_
      clear hK K
      refine wpAny_done (by kernel_rfl) ?_ _
      go_wp2
      go_roundw
      case rel => exact ⟨k + 1, by omega, by go_num, by rw [unhide HSN]; exact (unhide HEND).1, (unhide HEND).2⟩
      case measure => simp [intOf]; omega
    · have : k = r.length := by omega
      subst this
      rw [List.take_length] at hmc
      have HEND := hide (show (∃ gv gn gc, MchIs lo so wr M nb (steps ++ r.map (fun ms => (⟨insT rl.name.text ms, rl.params, ms, rl.guard, rl.body⟩ : MStep))) nevers sets vars tab size (.slice gv gn gc) nv tv vv) ∧ Tk none [105, 178] w wr ∧ Below lo w wr from ⟨⟨va, vn, vc, hmc⟩, (below_tk (unhide HB1) _ _).trans htk, ((unhide HB1).mono hlo).trans hb⟩)
      clear hmc htk hb
      go_wp2
      go_end0
      exact ⟨rfl, unhide HEND⟩

end Go.Proofs.YtpmcnonmkghokaaGreatDoor

/-
  The reference's small functions over strings: letter, digit, has. Each answers what the plain function beside it says, for every string and place; nothing in memory turns.
  The reference's token: the token that begins at a place of a text, as the plain function tokAt says; nothing that was in memory turns.
  The reference's toks: the tokens of a text, or the place at which none begins, as the plain function refToks says.
  The reference's Reader: next, must, kind, by the plain functions rNext, rMust, rKind on a state of reading.
  Plain facts on tokens: what begins where a text is cut is what begins at that place; what a token's text says of its kind; the tokens of a text, in their order, with the end behind them.
  The program's small functions over bytes and texts: isBlank, isLetter, isDigit, wordLength, tokenLength: the token at the head of a text is the one that tokAt says.
-/
import Derived.Test.YtpmcnonmkghokaaGreatDoorRows
import Derived.WalkKit
import Derived.WalkSpells
import Derived.WalkLawsBesides
import Derived.Deep.QuietTactic
import Derived.BigQuiet
import Derived.Deep.Trees
import Derived.BigRegion
import Derived.Lib.Strings
import Derived.Lib.Slices
import Derived.Lib.Walk
import Derived.Lib.Bytealg
set_option linter.unusedVariables false
set_option linter.unusedSimpArgs false
namespace Go.Proofs.YtpmcnonmkghokaaGreatDoor
open Go.RowKit
theorem hide {p : Prop} (h : p) : Hid p := h
theorem unhide {p : Prop} (h : Hid p) : p := h
theorem getD_at {α : Type} (l : List α) (k : Nat) (d : α) (h : k < l.length) : l.getD k d = l[k] := by
  simp [List.getD, h]

theorem ret_bool {a b : Bool} (h : a = b) : Ending.returned (.bool a) = .returned (.bool b) := by rw [h]
theorem ret_int {k : IntKind} {a b : Int} (h : a = b) : Ending.returned (.int k a) = .returned (.int k b) := by rw [h]

/-- A block of three cells that may be written. -/
theorem row3 {w : World} {b : Nat} {x y z : Value} {t : TypeId} (h : w.heap[b]? = some (.cells #[x, y, z] t (0, 0))) :
    w.cell? ⟨b, 0, none⟩ = some x ∧ w.cell? ⟨b, 1, none⟩ = some y ∧ w.cell? ⟨b, 2, none⟩ = some z ∧ w.frozen? ⟨b, 0, none⟩ = false ∧ w.frozen? ⟨b, 1, none⟩ = false ∧ w.frozen? ⟨b, 2, none⟩ = false :=
  ⟨by rw [cell_of_row w b 0 _ _ _ h]; rfl, by rw [cell_of_row w b 1 _ _ _ h]; rfl, by rw [cell_of_row w b 2 _ _ _ h]; rfl, frozen_of_row w b 0 _ _ h, frozen_of_row w b 1 _ _ h, frozen_of_row w b 2 _ _ h⟩

/-- Is there a byte from lo to hi at a place? -/
def inB (lo hi : Int) (s : ByteArray) (i : Nat) : Bool := if h : i < s.size then decide (lo ≤ ((s[i]).toNat : Int)) && decide (((s[i]).toNat : Int) ≤ hi) else false
def letB (s : ByteArray) (i : Nat) : Bool := inB 97 122 s i
def digB (s : ByteArray) (i : Nat) : Bool := inB 48 57 s i

theorem inB_no {lo hi : Int} {s : ByteArray} {i : Nat} (h : ¬ i < s.size) : inB lo hi s i = false := by simp [inB, h]
set_option maxHeartbeats 400000 in
theorem has_any (b o cap : Nat) (ls : List ByteArray) (s : ByteArray) (w : World) (hl : ls.length ≤ 100)
    (hc : ∀ i, i < ls.length → w.cell? ⟨b, o + i, none⟩ = some (.string (ls.getD i ByteArray.empty))) :
    Calls Tryz.prog 136 #[.slice (some ⟨b, o, none⟩) ls.length cap, .string s] w fun e w' => e = .returned (.bool (ls.any (fun t => t.toList == s.toList))) ∧ w' = w := by
  go_enter Tryz.func136, Tryz.ntmps136
  go_wp2
  go_loop [5] (fun i => ∃ k : Nat, k ≤ ls.length ∧ i = .int .i64 k ∧ (ls.take k).any (fun t => t.toList == s.toList) = false) (fun i => ls.length - (intOf i).toNat)
  case atStart => exact ⟨0, Nat.zero_le _, rfl, by simp⟩
  case round =>
    obtain ⟨k, hk, rfl, hno⟩ := hrel
    have HN : Hid ((ls.take k).any (fun t => t.toList == s.toList) = false) := hno
    clear hno
    by_cases hlt : k < ls.length
    · have hck := hc k hlt
      obtain ⟨t, ht⟩ : ∃ t, t = ls.getD k ByteArray.empty := ⟨_, rfl⟩
      rw [← ht] at hck
      have HT : Hid (t = ls.getD k ByteArray.empty) := ht
      clear ht hc
      go_wp2
      · go_ret
        refine ⟨ret_bool ?_, rfl⟩
        have h1 : (t.toList == s.toList) = true := by assumption
        symm
        rw [List.any_eq_true]
        refine ⟨t, ?_, h1⟩
        rw [HT.out, getD_at _ _ _ hlt]
        exact List.getElem_mem hlt
      · have h1 : (t.toList == s.toList) = false := by assumption
        have h2 : (ls[k].toList == s.toList) = false := by
          have := HT.out
          rw [getD_at _ _ _ hlt] at this
          rw [← this]; exact h1
        go_round
        case rel => exact ⟨k + 1, by omega, by go_num, by rw [List.take_succ_eq_append_getElem hlt, List.any_append, HN.out]; simp only [List.any_cons, h2]; rfl⟩
        case measure => simp [intOf]; omega
    · go_wp2
      go_ret
      have hh := HN.out
      rw [List.take_of_length_le (by omega)] at hh
      exact ⟨ret_bool hh.symm, rfl⟩

end Go.Proofs.YtpmcnonmkghokaaGreatDoor
namespace Go.Proofs.YtpmcnonmkghokaaGreatDoor
open Go.RowKit
/-- The end of the word that begins at i. -/
def wEnd : Nat → ByteArray → Nat → Nat
  | 0, _, i => i
  | f + 1, s, i => if letB s i then wEnd f s (i + 1) else i

theorem letB_lt {s : ByteArray} {i : Nat} (h : letB s i = true) : i < s.size := by
  unfold letB inB at h
  by_cases hh : i < s.size
  · exact hh
  · simp [hh] at h

theorem wEnd_of {s : ByteArray} {n : Nat} (hn : letB s n = false) : ∀ (f k : Nat), k ≤ n → n - k < f → (∀ j, k ≤ j → j < n → letB s j = true) → wEnd f s k = n
  | 0, k, _, h, _ => by omega
  | f + 1, k, hk, h, hall => by
    rw [wEnd]
    by_cases e : k = n
    · subst e; simp [hn]
    · rw [if_pos (hall k (Nat.le_refl _) (by omega))]
      exact wEnd_of hn f (k + 1) (by omega) (by omega) (fun j h1 h2 => hall j (by omega) h2)

def wordsL : List ByteArray := [⟨#[115, 101, 116]⟩, ⟨#[107, 105, 110, 100]⟩, ⟨#[118, 97, 114]⟩, ⟨#[98, 111, 111, 108]⟩, ⟨#[116, 111]⟩, ⟨#[114, 117, 108, 101]⟩, ⟨#[105, 102]⟩, ⟨#[101, 108, 115, 101]⟩, ⟨#[110, 101, 118, 101, 114]⟩, ⟨#[116, 114, 117, 101]⟩, ⟨#[102, 97, 108, 115, 101]⟩, ⟨#[110, 111, 110, 101]⟩]
def resB (s : ByteArray) : Bool := wordsL.any (fun t => t.toList == s.toList)

structure Tok where
  kind : ByteArray
  text : ByteArray
  at_ : Nat

def tokV (t : Tok) : Value := .agg #[.string t.kind, .string t.text, .int .i64 t.at_]
def tokCells (t : Tok) : List Value := [.string t.kind, .string t.text, .int .i64 t.at_]

def kWord : ByteArray := ⟨#[119, 111, 114, 100]⟩
def kName : ByteArray := ⟨#[110, 97, 109, 101]⟩
def kDigit : ByteArray := ⟨#[100, 105, 103, 105, 116]⟩
def kSign : ByteArray := ⟨#[115, 105, 103, 110]⟩
def kEnd : ByteArray := ⟨#[101, 110, 100]⟩
def kNone : ByteArray := ⟨#[]⟩

def signsA : ByteArray := ⟨#[40, 41, 91, 93, 123, 125, 58, 59, 44, 33, 38, 124, 43, 45, 60, 61]⟩
def twoB (s : ByteArray) (k : Nat) : Bool := decide (k + 1 < s.size) && ((s.extract k (k + 2)).toList == [61, 61] || (s.extract k (k + 2)).toList == [33, 61])
def signB (s : ByteArray) (k : Nat) : Bool := signsA.toList.any (fun c => c.toNat == (s.get! k).toNat)

/-- The token at a place; its kind is empty if none begins there. -/
def tokAt (s : ByteArray) (k : Nat) : Tok :=
  if letB s k then
    let t := s.extract k (wEnd 801 s k)
    { kind := if resB t then kWord else kName, text := t, at_ := k }
  else if digB s k then { kind := if digB s (k + 1) then kNone else kDigit, text := s.extract k (k + 1), at_ := k }
  else if twoB s k then { kind := kSign, text := s.extract k (k + 2), at_ := k }
  else { kind := if signB s k then kSign else kNone, text := s.extract k (k + 1), at_ := k }

end Go.Proofs.YtpmcnonmkghokaaGreatDoor
namespace Go.Proofs.YtpmcnonmkghokaaGreatDoor
open Go.RowKit
def blankB (s : ByteArray) (k : Nat) : Bool := if h : k < s.size then (((s[k]).toNat : Int) == 32) || (((s[k]).toNat : Int) == 10) else false
def endTok (n : Nat) : Tok := { kind := kEnd, text := ⟨#[]⟩, at_ := n }

/-- The tokens from a place on, behind those that were read; or the place at which none begins. -/
def toksF : Nat → ByteArray → Nat → List Tok → List Tok × Option Nat
  | 0, _, k, acc => (acc, some k)
  | f + 1, s, k, acc =>
    if k < s.size then
      if blankB s k then toksF f s (k + 1) acc
      else if (tokAt s k).kind.toList.isEmpty then (acc, some k)
      else toksF f s (k + (tokAt s k).text.size) (acc ++ [tokAt s k])
    else (acc ++ [endTok s.size], none)
def refToks (s : ByteArray) : List Tok × Option Nat := toksF 801 s 0 []

def toksCells (l : List Tok) : List Value := l.flatMap tokCells

theorem extract_size (s : ByteArray) (a b : Nat) (h : b ≤ s.size) : (s.extract a b).size = b - a := by
  rw [ByteArray.size_extract]; omega

theorem wEnd_bd (s : ByteArray) : ∀ (f k : Nat), k ≤ s.size → k ≤ wEnd f s k ∧ wEnd f s k ≤ s.size
  | 0, k, h => ⟨Nat.le_refl _, h⟩
  | f + 1, k, h => by
    rw [wEnd]
    split
    · rename_i hl
      have := letB_lt hl
      have := wEnd_bd s f (k + 1) (by omega)
      omega
    · omega

theorem tokAt_text (s : ByteArray) (k : Nat) (hk : k < s.size) : 1 ≤ (tokAt s k).text.size ∧ k + (tokAt s k).text.size ≤ s.size := by
  unfold tokAt
  split
  · rename_i hl
    have h1 := wEnd_bd s 800 (k + 1) (by omega)
    have h2 : wEnd 801 s k = wEnd 800 s (k + 1) := by rw [wEnd, if_pos hl]
    show 1 ≤ (s.extract k (wEnd 801 s k)).size ∧ k + (s.extract k (wEnd 801 s k)).size ≤ s.size
    rw [extract_size _ _ _ (by omega)]
    omega
  · split
    · show 1 ≤ (s.extract k (k + 1)).size ∧ k + (s.extract k (k + 1)).size ≤ s.size
      rw [extract_size _ _ _ (by omega)]; omega
    · split
      · rename_i h2
        unfold twoB at h2
        simp at h2
        show 1 ≤ (s.extract k (k + 2)).size ∧ k + (s.extract k (k + 2)).size ≤ s.size
        rw [extract_size _ _ _ (by omega)]; omega
      · show 1 ≤ (s.extract k (k + 1)).size ∧ k + (s.extract k (k + 1)).size ≤ s.size
        rw [extract_size _ _ _ (by omega)]; omega

theorem cells_new (w : World) (b : Nat) (cs : List Value) (t : TypeId) (hb : w.heap.size = b) : ∀ j u, cs[j]? = some u → (w.alloc (.cells cs.toArray t)).cell? ((⟨b, 0, none⟩ : Addr).add j) = some u := by
  intro j u h
  subst hb
  have hh := heap_alloc_new w (.cells cs.toArray t)
  rw [show ((⟨w.heap.size, 0, none⟩ : Addr).add j) = ⟨w.heap.size, j, none⟩ from by simp [Addr.add]; intro h; exact h.symm, cell_of_row _ _ _ _ _ _ hh]
  simpa using h
theorem tokCells_one (t : Tok) : ∀ u ∈ tokCells t, u.oneCell' = true := by
  intro u h
  simp only [tokCells, List.mem_cons, List.not_mem_nil, or_false] at h
  rcases h with rfl | rfl | rfl <;> rfl
theorem toksF_blank {f : Nat} {s : ByteArray} {k : Nat} {acc : List Tok} (hb : blankB s k = true) (hk : k < s.size) : toksF (f + 1) s k acc = toksF f s (k + 1) acc := by
  rw [toksF, if_pos hk, if_pos hb]
/-- What the token at a place that is no blank makes of the tokens. -/
theorem toksF_step {f : Nat} {s : ByteArray} {k : Nat} {acc : List Tok} (hb : blankB s k = false) (hk : k < s.size) (hf : toksF f s k acc = refToks s) :
    ∀ g, f = g + 1 → ((tokAt s k).kind.toList.isEmpty = true → refToks s = (acc, some k)) ∧ ((tokAt s k).kind.toList.isEmpty = false → toksF g s (k + (tokAt s k).text.size) (acc ++ [tokAt s k]) = refToks s) := by
  intro g hg
  subst hg
  rw [toksF, if_pos hk, hb] at hf
  constructor
  · intro h; rw [h] at hf; simpa using hf.symm
  · intro h; rw [h] at hf; simpa using hf
theorem owns_below {w w' : World} {base e size : Nat} {v : Value} {n : Nat} {xs : List Value} (h : w.ownsRow base e size v n xs) (hb : Below w.heap.size w w') : w'.ownsRow base e size v n xs := by
  obtain ⟨h1, h2⟩ := h
  refine ⟨h1, ?_⟩
  rcases h2 with h2 | ⟨g, cap, cur, hv, hg, hh, r⟩
  · exact Or.inl h2
  · exact Or.inr ⟨g, cap, cur, hv, hg, by rw [hb.block g (lt_of_block hh)]; exact hh, r⟩

theorem own_ge {w : World} {base e size : Nat} {v : Value} {n : Nat} {xs : List Value} (h : w.ownsRow base e size v n xs) : ∀ k, v.ownBlock = some k → base ≤ k := by
  intro k hk
  rcases h.2 with ⟨rfl, _⟩ | ⟨g, cap, cur, rfl, hg, _⟩
  · simp [Value.ownBlock] at hk
  · simp [Value.ownBlock] at hk; omega
theorem own_lt {w : World} {base e size : Nat} {v : Value} {n : Nat} {xs : List Value} (h : w.ownsRow base e size v n xs) : ∀ k, v.ownBlock = some k → k < w.heap.size := by
  intro k hk
  rcases h.2 with ⟨rfl, _⟩ | ⟨g, cap, cur, rfl, hg, hh, _⟩
  · simp [Value.ownBlock] at hk
  · simp [Value.ownBlock] at hk; subst hk; exact lt_of_block hh
end Go.Proofs.YtpmcnonmkghokaaGreatDoor
namespace Go.Proofs.YtpmcnonmkghokaaGreatDoor
open Go.RowKit
/-- A state of reading: the token at hand, how deep, is it bad? -/
structure RS where
  at_ : Nat
  nest : Int
  bad : Bool

def tk (L : List Tok) (k : Nat) : Tok := L.getD k (endTok 0)

/-- All blocks but R, of those that were there, are as they were. -/
structure Kept (R : Nat) (w w' : World) : Prop where
  os : w'.os = w.os
  tape : w'.tape = w.tape
  output : w'.output = w.output
  size : w.heap.size ≤ w'.heap.size
  block : ∀ k, k < w.heap.size → k ≠ R → w'.heap[k]? = w.heap[k]?

theorem Kept.refl (R : Nat) (w : World) : Kept R w w := ⟨rfl, rfl, rfl, Nat.le_refl _, fun _ _ _ => rfl⟩
theorem Kept.trans {R : Nat} {a b c : World} (h : Kept R a b) (k : Kept R b c) : Kept R a c :=
  ⟨k.os.trans h.os, k.tape.trans h.tape, k.output.trans h.output, Nat.le_trans h.size k.size, fun i hi hn => (k.block i (Nat.lt_of_lt_of_le hi h.size) hn).trans (h.block i hi hn)⟩
theorem Kept.of_below {R : Nat} {w w' : World} (h : Below w.heap.size w w') : Kept R w w' := ⟨h.os, h.tape, h.output, h.size, fun k hk _ => h.block k hk⟩
theorem Kept.alloc {R : Nat} {a w : World} (h : Kept R a w) (o : Obj) : Kept R a (w.alloc o) := h.trans (.of_below ((Below.refl _ _).alloc (Nat.le_refl _) o))
theorem Kept.drew {R : Nat} {a w : World} (h : Kept R a w) : Kept R a w.drew := ⟨h.os, h.tape, h.output, h.size, h.block⟩
theorem Kept.drewN {R : Nat} {a w : World} (h : Kept R a w) (n : Nat) : Kept R a (w.drewN n) := ⟨h.os, h.tape, h.output, h.size, h.block⟩
theorem Kept.setR {R : Nat} {a w : World} (h : Kept R a w) (o : Nat) (u : Value) : Kept R a (w.setCell ⟨R, o, none⟩ u) :=
  h.trans ⟨rfl, rfl, rfl, by simp [World.setCell], fun k hk hn => Below.heap_setCell _ _ _ _ hn⟩
theorem Kept.setNew {R : Nat} {a w : World} (h : Kept R a w) {p : Addr} (hp : a.heap.size ≤ p.block) (u : Value) : Kept R a (w.setCell p u) :=
  ⟨h.os, h.tape, h.output, by simpa [World.setCell] using h.size, fun k hk hn => by rw [Below.heap_setCell _ _ _ _ (by omega)]; exact h.block k hk hn⟩

theorem owns_kept {w w' : World} {R base e size : Nat} {v : Value} {n : Nat} {xs : List Value} (h : w.ownsRow base e size v n xs) (hne : v.ownBlock ≠ some R) (hb : Kept R w w') : w'.ownsRow base e size v n xs := by
  obtain ⟨h1, h2⟩ := h
  refine ⟨h1, ?_⟩
  rcases h2 with h2 | ⟨g, cap, cur, rfl, hg, hh, r⟩
  · exact Or.inl h2
  · exact Or.inr ⟨g, cap, cur, rfl, hg, by rw [hb.block g (lt_of_block hh) (fun e => hne (by simp [Value.ownBlock, e]))]; exact hh, r⟩

/-- The Reader lies at block R, its tokens are L, its state is st. -/
structure Rd (w : World) (R : Nat) (v : Value) (L : List Tok) (st : RS) : Prop where
  rd : w.heap[R]? = some (.cells #[v, .int .i64 st.at_, .int .i64 st.nest, .bool st.bad] 219 (0, 0))
  own : w.ownsRow 0 142 3 v L.length (toksCells L)
  ne : v.ownBlock ≠ some R
  lt : st.at_ < L.length
  len : L.length ≤ 801
  fin : ∀ i, i < L.length → ((tk L i).kind.toList == [101, 110, 100]) = false → i + 1 < L.length
  nlo : -(st.at_ : Int) ≤ st.nest
  nhi : st.nest ≤ 12

theorem row4 {w : World} {b : Nat} {x y z u : Value} {t : TypeId} (h : w.heap[b]? = some (.cells #[x, y, z, u] t (0, 0))) :
    w.cell? ⟨b, 0, none⟩ = some x ∧ w.cell? ⟨b, 1, none⟩ = some y ∧ w.cell? ⟨b, 2, none⟩ = some z ∧ w.cell? ⟨b, 3, none⟩ = some u ∧ w.frozen? ⟨b, 0, none⟩ = false ∧ w.frozen? ⟨b, 1, none⟩ = false ∧ w.frozen? ⟨b, 2, none⟩ = false ∧ w.frozen? ⟨b, 3, none⟩ = false :=
  ⟨by rw [cell_of_row w b 0 _ _ _ h]; rfl, by rw [cell_of_row w b 1 _ _ _ h]; rfl, by rw [cell_of_row w b 2 _ _ _ h]; rfl, by rw [cell_of_row w b 3 _ _ _ h]; rfl, frozen_of_row w b 0 _ _ h, frozen_of_row w b 1 _ _ h, frozen_of_row w b 2 _ _ h, frozen_of_row w b 3 _ _ h⟩

theorem toksCells_at : ∀ (L : List Tok) (k : Nat), k < L.length → (toksCells L)[k * 3]? = some (.string (tk L k).kind) ∧ (toksCells L)[k * 3 + 1]? = some (.string (tk L k).text) ∧ (toksCells L)[k * 3 + 2]? = some (.int .i64 (tk L k).at_)
  | [], k, h => by simp at h
  | a :: L, 0, _ => ⟨rfl, rfl, rfl⟩
  | a :: L, k + 1, h => by
    have ih := toksCells_at L k (by simpa using h)
    have e : ∀ i, (toksCells (a :: L))[i + 3]? = (toksCells L)[i]? := fun i => by
      show (tokCells a ++ toksCells L)[i + 3]? = _
      rw [List.getElem?_append_right (by simp [tokCells])]
      simp [tokCells]
    have t1 : tk (a :: L) (k + 1) = tk L k := by simp [tk]
    rw [t1, show (k + 1) * 3 = k * 3 + 3 by omega, e, show k * 3 + 3 + 1 = (k * 3 + 1) + 3 by omega, e, show k * 3 + 3 + 2 = (k * 3 + 2) + 3 by omega, e]
    exact ih

/-- What a walk wants of the Reader. -/
theorem Rd.open {w : World} {R : Nat} {v : Value} {L : List Tok} {st : RS} (h : Rd w R v L st) :
    ∃ g cap, v = .slice (some ⟨g, 0, none⟩) L.length cap ∧ g ≠ R ∧ g < w.heap.size ∧ R < w.heap.size ∧ w.cell? ⟨g, st.at_ * 3, none⟩ = some (.string (tk L st.at_).kind) ∧ w.cell? ⟨g, st.at_ * 3 + 1, none⟩ = some (.string (tk L st.at_).text) ∧ w.cell? ⟨g, st.at_ * 3 + 2, none⟩ = some (.int .i64 (tk L st.at_).at_) := by
  obtain ⟨h1, h2⟩ := h.own
  have hlt := h.lt
  rcases h2 with ⟨_, h2⟩ | ⟨g, cap, cur, hv, hg, hh, h3, h4, h5, h6⟩
  · omega
  · have hat := toksCells_at L st.at_ hlt
    refine ⟨g, cap, hv, fun e => h.ne (by rw [hv]; simp [Value.ownBlock, e]), lt_of_block hh, lt_of_block h.rd, ?_⟩
    have hc : ∀ j, j < L.length * 3 → w.cell? ⟨g, j, none⟩ = (toksCells L)[j]? := fun j hj => by
      rw [cell_of_row w g j _ _ _ hh, ← h6, List.getElem?_take_of_lt hj]; simp
    exact ⟨(hc _ (by omega)).trans hat.1, (hc _ (by omega)).trans hat.2.1, (hc _ (by omega)).trans hat.2.2⟩

theorem below_alloc_drew (w : World) (o : Obj) : Below w.heap.size w (w.alloc o).drew := ((Below.refl _ _).alloc (Nat.le_refl _) _).drew

def nextB (t : Tok) (s : List UInt8) (bad : Bool) : Bool :=
  !bad && (t.kind.toList == [115, 105, 103, 110] || t.kind.toList == [119, 111, 114, 100]) && (t.text.toList == s)
def rNext (L : List Tok) (s : List UInt8) (st : RS) : Bool := nextB (tk L st.at_) s st.bad

set_option maxRecDepth 100000 in
set_option maxHeartbeats 1000000 in
theorem next_any (s : ByteArray) (w : World) (R : Nat) (v : Value) (L : List Tok) (st : RS) (h : Rd w R v L st) :
    Calls Tryz.prog 103 #[.pointer (some ⟨R, 0, none⟩), .string s] w fun e w' => e = .returned (.bool (rNext L s.toList st)) ∧ Below w.heap.size w w' := by
  obtain ⟨c0, c1, c2, c3, _, _, _, _⟩ := row4 h.rd
  obtain ⟨g, cap, rfl, hg, hgl, hRl, t0, t1, t2⟩ := h.open
  have hlt := h.lt
  have hlen := h.len
  unfold rNext
  generalize tk L st.at_ = t at *
  obtain ⟨a, n, bad⟩ := st
  simp only at *
  clear h
  cases bad
  · cases k1 : (t.kind.toList == [115, 105, 103, 110])
    · cases k2 : (t.kind.toList == [119, 111, 114, 100])
      · go_enter Tryz.func103, Tryz.ntmps103
        go_wp2
        go_region
        go_wp2
        go_ret
        exact ⟨ret_bool (by simp [nextB, k1, k2]), below_alloc_drew w _⟩
      · go_enter Tryz.func103, Tryz.ntmps103
        go_wp2
        go_region
        go_wp2
        go_ret
        exact ⟨ret_bool (by simp [nextB, k1, k2]), below_alloc_drew w _⟩
    · go_enter Tryz.func103, Tryz.ntmps103
      go_wp2
      go_region
      go_wp2
      go_ret
      exact ⟨ret_bool (by simp [nextB, k1]), below_alloc_drew w _⟩
  · go_enter Tryz.func103, Tryz.ntmps103
    go_wp2
    go_region
    go_wp2
    go_ret
    exact ⟨ret_bool (by simp [nextB]), below_alloc_drew w _⟩

theorem set4_1 {w : World} {b : Nat} {x y z u : Value} {t : TypeId} (h : w.heap[b]? = some (.cells #[x, y, z, u] t (0, 0))) (n : Value) : (w.setCell ⟨b, 1, none⟩ n).heap[b]? = some (.cells #[x, n, z, u] t (0, 0)) := heap_setCell_same w b 1 _ _ _ h
theorem set4_2 {w : World} {b : Nat} {x y z u : Value} {t : TypeId} (h : w.heap[b]? = some (.cells #[x, y, z, u] t (0, 0))) (n : Value) : (w.setCell ⟨b, 2, none⟩ n).heap[b]? = some (.cells #[x, y, n, u] t (0, 0)) := heap_setCell_same w b 2 _ _ _ h
theorem set4_3 {w : World} {b : Nat} {x y z u : Value} {t : TypeId} (h : w.heap[b]? = some (.cells #[x, y, z, u] t (0, 0))) (n : Value) : (w.setCell ⟨b, 3, none⟩ n).heap[b]? = some (.cells #[x, y, z, n] t (0, 0)) := heap_setCell_same w b 3 _ _ _ h

theorem Rd.kept {w w' : World} {R : Nat} {v : Value} {L : List Tok} {st : RS} (h : Rd w R v L st) (hk : Kept R w w') (hr : w'.heap[R]? = w.heap[R]?) : Rd w' R v L st :=
  ⟨by rw [hr]; exact h.rd, owns_kept h.own h.ne hk, h.ne, h.lt, h.len, h.fin, h.nlo, h.nhi⟩
theorem Rd.below {w w' : World} {R : Nat} {v : Value} {L : List Tok} {st : RS} (h : Rd w R v L st) (hk : Below w.heap.size w w') : Rd w' R v L st :=
  h.kept (.of_below hk) (hk.block R (lt_of_block h.rd))
theorem Rd.put {w w' : World} {R : Nat} {v : Value} {L : List Tok} {st st' : RS} (h : Rd w R v L st) (hk : Kept R w w')
    (hr : w'.heap[R]? = some (.cells #[v, .int .i64 st'.at_, .int .i64 st'.nest, .bool st'.bad] 219 (0, 0))) (h1 : st'.at_ < L.length) (h2 : -(st'.at_ : Int) ≤ st'.nest) (h3 : st'.nest ≤ 12) : Rd w' R v L st' :=
  ⟨hr, owns_kept h.own h.ne hk, h.ne, h1, h.len, h.fin, h2, h3⟩

def opens (s : List UInt8) : Bool := s == [40] || s == [91] || s == [123]
def shuts (s : List UInt8) : Bool := s == [41] || s == [93] || s == [125]
def rMust (L : List Tok) (s : List UInt8) (st : RS) : RS :=
  if !rNext L s st || (opens s && st.nest == 12) then { st with bad := true }
  else { at_ := st.at_ + 1, nest := if opens s then st.nest + 1 else if shuts s then st.nest - 1 else st.nest, bad := false }

/-- A token that is at hand and no end: one stands behind it. -/
theorem next_lt {w : World} {R : Nat} {v : Value} {L : List Tok} {st : RS} {s : List UInt8} (h : Rd w R v L st) (hn : rNext L s st = true) : st.at_ + 1 < L.length ∧ st.bad = false := by
  unfold rNext nextB at hn
  simp only [Bool.and_eq_true, Bool.or_eq_true, Bool.not_eq_true'] at hn
  refine ⟨h.fin _ h.lt ?_, hn.1.1⟩
  rcases hn.1.2 with e | e <;> (rw [beq_iff_eq] at e; rw [e]; rfl)

/-- A text is a bracket or none. -/
theorem bracket (s : List UInt8) : ((s == [40]) = true ∧ (s == [91]) = false ∧ (s == [123]) = false ∧ (s == [41]) = false ∧ (s == [93]) = false ∧ (s == [125]) = false) ∨
    ((s == [40]) = false ∧ (s == [91]) = true ∧ (s == [123]) = false ∧ (s == [41]) = false ∧ (s == [93]) = false ∧ (s == [125]) = false) ∨
    ((s == [40]) = false ∧ (s == [91]) = false ∧ (s == [123]) = true ∧ (s == [41]) = false ∧ (s == [93]) = false ∧ (s == [125]) = false) ∨
    ((s == [40]) = false ∧ (s == [91]) = false ∧ (s == [123]) = false ∧ (s == [41]) = true ∧ (s == [93]) = false ∧ (s == [125]) = false) ∨
    ((s == [40]) = false ∧ (s == [91]) = false ∧ (s == [123]) = false ∧ (s == [41]) = false ∧ (s == [93]) = true ∧ (s == [125]) = false) ∨
    ((s == [40]) = false ∧ (s == [91]) = false ∧ (s == [123]) = false ∧ (s == [41]) = false ∧ (s == [93]) = false ∧ (s == [125]) = true) ∨
    ((s == [40]) = false ∧ (s == [91]) = false ∧ (s == [123]) = false ∧ (s == [41]) = false ∧ (s == [93]) = false ∧ (s == [125]) = false) := by
  by_cases h1 : s = [40]
  · subst h1; exact Or.inl (by decide)
  by_cases h2 : s = [91]
  · subst h2; exact Or.inr (Or.inl (by decide))
  by_cases h3 : s = [123]
  · subst h3; exact Or.inr (Or.inr (Or.inl (by decide)))
  by_cases h4 : s = [41]
  · subst h4; exact Or.inr (Or.inr (Or.inr (Or.inl (by decide))))
  by_cases h5 : s = [93]
  · subst h5; exact Or.inr (Or.inr (Or.inr (Or.inr (Or.inl (by decide)))))
  by_cases h6 : s = [125]
  · subst h6; exact Or.inr (Or.inr (Or.inr (Or.inr (Or.inr (Or.inl (by decide))))))
  exact Or.inr (Or.inr (Or.inr (Or.inr (Or.inr (Or.inr (by simp [h1, h2, h3, h4, h5, h6]))))))

set_option maxRecDepth 100000 in
set_option maxHeartbeats 4000000 in
theorem must_any (s : ByteArray) (w : World) (R : Nat) (v : Value) (L : List Tok) (st : RS) (h : Rd w R v L st) :
    Calls Tryz.prog 105 #[.pointer (some ⟨R, 0, none⟩), .string s] w fun e w' => e = .returned (.tuple #[]) ∧ Rd w' R v L (rMust L s.toList st) ∧ Kept R w w' := by
  go_enter Tryz.func105, Tryz.ntmps105
  go_wp2_with fail
  refine (next_any s w R v L st h).mono ?_
  rintro e w1 ⟨rfl, hb⟩
  have h1 := h.below hb
  have HK := hide (Kept.of_below (R := R) hb)
  obtain ⟨c0, c1, c2, c3, f0, f1, f2, f3⟩ := row4 h1.rd
  have hlt := h1.lt
  have hlen := h1.len
  have hnlo := h1.nlo
  have hnhi := h1.nhi
  have H1 := hide h1
  clear h hb h1
  cases hn : rNext L s.toList st
  · have e : rMust L s.toList st = { st with bad := true } := by simp [rMust, hn]
    have E := hide e
    clear e
    rcases bracket s.toList with ⟨b1, b2, b3, b4, b5, b6⟩ | ⟨b1, b2, b3, b4, b5, b6⟩ | ⟨b1, b2, b3, b4, b5, b6⟩ | ⟨b1, b2, b3, b4, b5, b6⟩ | ⟨b1, b2, b3, b4, b5, b6⟩ | ⟨b1, b2, b3, b4, b5, b6⟩ | ⟨b1, b2, b3, b4, b5, b6⟩
    all_goals
      go_wp2
      refine bodyPost_ret (v := .tuple #[]) (by simp [results, Tryz.results105]) rfl ?_
      rw [unhide E]
      exact ⟨rfl, (unhide H1).put ((Kept.refl _ _).setR _ _) (set4_3 (unhide H1).rd _) hlt hnlo hnhi, (unhide HK).trans ((Kept.refl _ _).setR _ _)⟩
  · have hnx := (next_lt (unhide H1) hn).1
    have hbad := (next_lt (unhide H1) hn).2
    have HRD := hide (unhide H1).rd
    rw [hbad] at HRD c3
    cases hop : opens s.toList
    · cases hsh : shuts s.toList
      · have E := hide (show rMust L s.toList st = { at_ := st.at_ + 1, nest := st.nest, bad := false } by simp [rMust, hn, hop, hsh])
        rcases bracket s.toList with ⟨b1, b2, b3, b4, b5, b6⟩ | ⟨b1, b2, b3, b4, b5, b6⟩ | ⟨b1, b2, b3, b4, b5, b6⟩ | ⟨b1, b2, b3, b4, b5, b6⟩ | ⟨b1, b2, b3, b4, b5, b6⟩ | ⟨b1, b2, b3, b4, b5, b6⟩ | ⟨b1, b2, b3, b4, b5, b6⟩
        all_goals first | (exfalso; revert hop hsh; simp [opens, shuts, b1, b2, b3, b4, b5, b6]; done) | skip
        all_goals
          clear hop hsh
          go_wp2
          go_end0
          rw [unhide E]
          exact ⟨rfl, (unhide H1).put ((Kept.refl _ _).setR _ _) (set4_1 (unhide HRD) _) hnx (by simp; omega) hnhi, (unhide HK).trans ((Kept.refl _ _).setR _ _)⟩
      · have E := hide (show rMust L s.toList st = { at_ := st.at_ + 1, nest := st.nest - 1, bad := false } by simp [rMust, hn, hop, hsh])
        rcases bracket s.toList with ⟨b1, b2, b3, b4, b5, b6⟩ | ⟨b1, b2, b3, b4, b5, b6⟩ | ⟨b1, b2, b3, b4, b5, b6⟩ | ⟨b1, b2, b3, b4, b5, b6⟩ | ⟨b1, b2, b3, b4, b5, b6⟩ | ⟨b1, b2, b3, b4, b5, b6⟩ | ⟨b1, b2, b3, b4, b5, b6⟩
        all_goals first | (exfalso; revert hop hsh; simp [opens, shuts, b1, b2, b3, b4, b5, b6]; done) | skip
        all_goals
          clear hop hsh
          go_wp2
          go_end0
          rw [unhide E]
          exact ⟨rfl, (unhide H1).put (((Kept.refl _ _).setR _ _).setR _ _) (set4_1 (set4_2 (unhide HRD) _) _) hnx (by simp; omega) (by simp; omega), (unhide HK).trans (((Kept.refl _ _).setR _ _).setR _ _)⟩
    · cases h12 : (st.nest == 12)
      · have e : rMust L s.toList st = { at_ := st.at_ + 1, nest := st.nest + 1, bad := false } := by simp [rMust, hn, hop, h12]
        have E := hide e
        clear e
        have hn12 : st.nest < 12 := by have : st.nest ≠ 12 := by simpa using h12
                                       omega
        rcases bracket s.toList with ⟨b1, b2, b3, b4, b5, b6⟩ | ⟨b1, b2, b3, b4, b5, b6⟩ | ⟨b1, b2, b3, b4, b5, b6⟩ | ⟨b1, b2, b3, b4, b5, b6⟩ | ⟨b1, b2, b3, b4, b5, b6⟩ | ⟨b1, b2, b3, b4, b5, b6⟩ | ⟨b1, b2, b3, b4, b5, b6⟩
        all_goals first | (exfalso; revert hop; simp [opens, shuts, b1, b2, b3, b4, b5, b6]; done) | skip
        all_goals
          clear hop
          go_wp2
          go_end0
          rw [unhide E]
          exact ⟨rfl, (unhide H1).put (((Kept.refl _ _).setR _ _).setR _ _) (set4_1 (set4_2 (unhide HRD) _) _) hnx (by simp; omega) (by simp; omega), (unhide HK).trans (((Kept.refl _ _).setR _ _).setR _ _)⟩
      · have e : rMust L s.toList st = { st with bad := true } := by simp [rMust, hn, hop, h12]
        have E := hide e
        clear e
        rcases bracket s.toList with ⟨b1, b2, b3, b4, b5, b6⟩ | ⟨b1, b2, b3, b4, b5, b6⟩ | ⟨b1, b2, b3, b4, b5, b6⟩ | ⟨b1, b2, b3, b4, b5, b6⟩ | ⟨b1, b2, b3, b4, b5, b6⟩ | ⟨b1, b2, b3, b4, b5, b6⟩ | ⟨b1, b2, b3, b4, b5, b6⟩
        all_goals first | (exfalso; revert hop; simp [opens, shuts, b1, b2, b3, b4, b5, b6]; done) | skip
        all_goals
          clear hop
          go_wp2
          refine bodyPost_ret (v := .tuple #[]) (by simp [results, Tryz.results105]) rfl ?_
          rw [unhide E]
          exact ⟨rfl, (unhide H1).put ((Kept.refl _ _).setR _ _) (set4_3 (unhide H1).rd _) hlt hnlo hnhi, (unhide HK).trans ((Kept.refl _ _).setR _ _)⟩

end Go.Proofs.YtpmcnonmkghokaaGreatDoor
namespace Go.Proofs.YtpmcnonmkghokaaGreatDoor
open Go.RowKit
theorem inB_shift (lo hi : Int) (s : ByteArray) (k i : Nat) : inB lo hi (s.extract k s.size) i = inB lo hi s (k + i) := by
  unfold inB
  by_cases h : k + i < s.size
  · have h' : i < (s.extract k s.size).size := by rw [extract_size _ _ _ (Nat.le_refl _)]; omega
    rw [dif_pos h, dif_pos h', ByteArray.getElem_extract]
  · have h' : ¬ i < (s.extract k s.size).size := by rw [extract_size _ _ _ (Nat.le_refl _)]; omega
    rw [dif_neg h, dif_neg h']
theorem wEnd_shift (s : ByteArray) (k : Nat) : ∀ f i, k + wEnd f (s.extract k s.size) i = wEnd f s (k + i)
  | 0, i => rfl
  | f + 1, i => by
    rw [wEnd, wEnd, letB, letB, inB_shift]
    split
    · exact wEnd_shift s k f (i + 1)
    · rfl
theorem cut_shift (s : ByteArray) (k i j : Nat) (h : k + j ≤ s.size) : (s.extract k s.size).extract i j = s.extract (k + i) (k + j) := by
  rw [ByteArray.extract_extract, Nat.min_eq_left h]
theorem get_shift (s : ByteArray) (k : Nat) (h : k < s.size) : (s.extract k s.size).get! 0 = s.get! k := by
  have hz : 0 < (s.extract k s.size).size := by rw [extract_size _ _ _ (Nat.le_refl _)]; omega
  have e : (s.extract k s.size)[0]'hz = s[k] := by rw [ByteArray.getElem_extract]; rfl
  have a1 : ∀ (b : ByteArray) (i : Nat) (hb : i < b.size), b.get! i = b[i] := fun b i hb => getElem!_pos b.data i hb
  rw [a1 _ _ hz, a1 _ _ h, e]
/-- What begins where the text is cut is what begins at that place. -/
theorem tokAt_shift (s : ByteArray) (k : Nat) (h : k < s.size) : (tokAt (s.extract k s.size) 0).kind = (tokAt s k).kind ∧ (tokAt (s.extract k s.size) 0).text = (tokAt s k).text := by
  have e1 : letB (s.extract k s.size) 0 = letB s k := by rw [letB, letB, inB_shift]; rfl
  have e2 : digB (s.extract k s.size) 0 = digB s k := by rw [digB, digB, inB_shift]; rfl
  have e3 : digB (s.extract k s.size) (0 + 1) = digB s (k + 1) := by rw [digB, digB, inB_shift]
  have e4 : twoB (s.extract k s.size) 0 = twoB s k := by
    unfold twoB
    by_cases h2 : k + 1 < s.size
    · rw [cut_shift _ _ _ _ (by omega), extract_size _ _ _ (Nat.le_refl _), show decide (0 + 1 < s.size - k) = true by simp; omega, show decide (k + 1 < s.size) = true by simp; omega, Nat.add_zero, Nat.zero_add]
    · rw [extract_size _ _ _ (Nat.le_refl _), show decide (0 + 1 < s.size - k) = false by simp; omega, show decide (k + 1 < s.size) = false by simp; omega, Bool.false_and, Bool.false_and]
  have e5 : signB (s.extract k s.size) 0 = signB s k := by unfold signB; rw [get_shift s k h]
  have e6 := wEnd_shift s k 801 0
  have e7 := wEnd_bd s 801 k (by omega)
  unfold tokAt
  rw [e1, e2, e3, e4, e5]
  have e8 : (s.extract k s.size).extract 0 (wEnd 801 (s.extract k s.size) 0) = s.extract k (wEnd 801 s k) := by
    rw [cut_shift _ _ _ _ (by rw [e6]; exact e7.2), e6]; rfl
  have e9 : (s.extract k s.size).extract 0 (0 + 1) = s.extract k (k + 1) := by rw [cut_shift _ _ _ _ (by omega)]; rfl
  split
  · rw [e8]; exact ⟨rfl, rfl⟩
  · split
    · rw [e9]; exact ⟨rfl, rfl⟩
    · split
      · rename_i h4
        have : k + 1 < s.size := by unfold twoB at h4; simp at h4; exact h4.1
        rw [cut_shift _ _ _ _ (by omega)]; exact ⟨rfl, rfl⟩
      · rw [e9]; exact ⟨rfl, rfl⟩

/-- The texts that are signs or words of the language. -/
def lits : List (List UInt8) := [[115, 101, 116], [107, 105, 110, 100], [118, 97, 114], [98, 111, 111, 108], [116, 111], [114, 117, 108, 101], [105, 102], [101, 108, 115, 101], [110, 101, 118, 101, 114], [116, 114, 117, 101], [102, 97, 108, 115, 101], [110, 111, 110, 101],
  [40], [41], [91], [93], [123], [125], [58], [59], [44], [33], [38], [124], [43], [45], [60], [61], [61, 61], [33, 61]]
def signK (t : Tok) : Bool := (t.kind.toList == [115, 105, 103, 110]) || (t.kind.toList == [119, 111, 114, 100])
/-- What a token's text says of its kind. -/
structure TokOk (t : Tok) : Prop where
  name : (letB t.text 0 && !resB t.text) = (t.kind.toList == [110, 97, 109, 101])
  digit : digB t.text 0 = (t.kind.toList == [100, 105, 103, 105, 116])
  lit : ∀ l ∈ lits, (t.text.toList == l) = (signK t && (t.text.toList == l))
  fin : (t.text.toList == []) = (t.kind.toList == [101, 110, 100])
  size : t.text.size ≤ 800
  word : letB t.text 0 = ((t.kind.toList == [119, 111, 114, 100]) || (t.kind.toList == [110, 97, 109, 101]))

theorem toList_dat (b : ByteArray) : b.toList = b.data.toList := ByteArray.toList_eq b
theorem toList_lit (l : List UInt8) : (ByteArray.mk l.toArray).toList = l := toList_dat _
theorem inB_head (lo hi : Int) (b : ByteArray) (h : 0 < b.size) : ∃ c r, b.toList = c :: r ∧ inB lo hi b 0 = (decide (lo ≤ (c.toNat : Int)) && decide ((c.toNat : Int) ≤ hi)) := by
  have hl : b.data.toList ≠ [] := fun e => by
    have : b.data.size = 0 := by rw [← Array.length_toList, e]; rfl
    exact absurd (show b.size = 0 from this) (by omega)
  obtain ⟨c, r, e⟩ := List.exists_cons_of_ne_nil hl
  refine ⟨c, r, by rw [toList_dat, e], ?_⟩
  unfold inB
  rw [dif_pos h]
  have : b[0] = c := by
    show b.data[0] = c
    rw [← Array.getElem_toList]
    simp [e]
  rw [this]
theorem resB_iff (b : ByteArray) : resB b = true ↔ b.toList ∈ wordsL.map ByteArray.toList := by
  unfold resB
  rw [List.any_eq_true]
  constructor
  · rintro ⟨x, hx, e⟩
    rw [beq_iff_eq] at e
    rw [← e]; exact List.mem_map_of_mem hx
  · intro h
    obtain ⟨x, hx, e⟩ := List.mem_map.mp h
    exact ⟨x, hx, by rw [beq_iff_eq]; exact e⟩
theorem endTok_ok (n : Nat) : TokOk (endTok n) := by
  have hk : (endTok n).kind.toList = [101, 110, 100] := toList_lit _
  have ht : (endTok n).text.toList = [] := toList_lit _
  have hz : (endTok n).text.size = 0 := rfl
  have hi : ∀ lo hi, inB lo hi (endTok n).text 0 = false := fun lo hi => by unfold inB; rw [dif_neg (by rw [hz]; omega)]
  refine ⟨?_, ?_, ?_, ?_, by rw [hz]; omega, by rw [letB, hi, hk]; rfl⟩
  · rw [letB, hi, hk]; rfl
  · rw [digB, hi, hk]; rfl
  · intro l hl
    rw [ht]
    have : ([] == l) = false := by revert l; decide
    rw [this, Bool.and_false]
  · rw [hk, ht]; rfl

theorem inB_cut (lo hi : Int) (s : ByteArray) (k e : Nat) (h1 : k < e) (h2 : e ≤ s.size) : inB lo hi (s.extract k e) 0 = inB lo hi s k := by
  unfold inB
  rw [dif_pos (show k < s.size by omega), dif_pos (show 0 < (s.extract k e).size by rw [extract_size _ _ _ h2]; omega), ByteArray.getElem_extract]
  rfl
theorem inB_apart {s : ByteArray} {k : Nat} (h : letB s k = true) : digB s k = false := by
  unfold letB digB inB at *
  by_cases hk : k < s.size
  · rw [dif_pos hk] at h ⊢
    simp at h ⊢
    omega
  · rw [dif_neg hk] at h; cases h
theorem lits_word : ∀ l ∈ lits, ∀ c r, l = c :: r → (decide (97 ≤ (c.toNat : Int)) && decide ((c.toNat : Int) ≤ 122)) = true → l ∈ wordsL.map ByteArray.toList := by
  have hw : wordsL.map ByteArray.toList = [[115, 101, 116], [107, 105, 110, 100], [118, 97, 114], [98, 111, 111, 108], [116, 111], [114, 117, 108, 101], [105, 102], [101, 108, 115, 101], [110, 101, 118, 101, 114], [116, 114, 117, 101], [102, 97, 108, 115, 101], [110, 111, 110, 101]] := by
    simp only [wordsL, List.map, toList_dat]
  rw [hw]
  intro l hl c r e
  subst e
  simp only [lits, List.mem_cons, List.cons.injEq, List.not_mem_nil, or_false] at hl
  rcases hl with h | h | h | h | h | h | h | h | h | h | h | h | h | h | h | h | h | h | h | h | h | h | h | h | h | h | h | h | h | h <;> (obtain ⟨rfl, rfl⟩ := h; decide)
theorem lits_digit : ∀ l ∈ lits, ∀ c r, l = c :: r → (decide (48 ≤ (c.toNat : Int)) && decide ((c.toNat : Int) ≤ 57)) = false := by
  intro l hl c r e
  subst e
  simp only [lits, List.mem_cons, List.cons.injEq, List.not_mem_nil, or_false] at hl
  rcases hl with h | h | h | h | h | h | h | h | h | h | h | h | h | h | h | h | h | h | h | h | h | h | h | h | h | h | h | h | h | h <;> (obtain ⟨rfl, rfl⟩ := h; decide)
theorem tokAt_ok (s : ByteArray) (k : Nat) (hk : k < s.size) (hs : s.size ≤ 800) (hne : (tokAt s k).kind.toList.isEmpty = false) : TokOk (tokAt s k) := by
  have htx := tokAt_text s k hk
  have kW : kWord.toList = [119, 111, 114, 100] := toList_dat _
  have kN : kName.toList = [110, 97, 109, 101] := toList_dat _
  have kD : kDigit.toList = [100, 105, 103, 105, 116] := toList_dat _
  have kS : kSign.toList = [115, 105, 103, 110] := toList_dat _
  have k0 : kNone.toList = [] := toList_dat _
  have hcut : ∀ lo hi, inB lo hi (tokAt s k).text 0 = inB lo hi s k := by
    intro lo hi
    have : (tokAt s k).text = s.extract k (k + (tokAt s k).text.size) := by
      unfold tokAt
      have e7 := wEnd_bd s 800 (k + 1) (by omega)
      split
      · rename_i hl
        have h2 : wEnd 801 s k = wEnd 800 s (k + 1) := by rw [wEnd, if_pos hl]
        simp only
        rw [extract_size _ _ _ (by omega), show k + (wEnd 801 s k - k) = wEnd 801 s k by omega]
      · split
        · simp only; rw [extract_size _ _ _ (by omega), show k + (k + 1 - k) = k + 1 by omega]
        · split
          · rename_i h2
            have : k + 1 < s.size := by unfold twoB at h2; simp at h2; exact h2.1
            simp only; rw [extract_size _ _ _ (by omega), show k + (k + 2 - k) = k + 2 by omega]
          · simp only; rw [extract_size _ _ _ (by omega), show k + (k + 1 - k) = k + 1 by omega]
    rw [this]
    exact inB_cut _ _ _ _ _ (by omega) htx.2
  have hsz : (tokAt s k).text.size ≤ 800 := by omega
  have hno : ((tokAt s k).text.toList == []) = false := by
    obtain ⟨c, r, e, _⟩ := inB_head 0 0 (tokAt s k).text (by omega)
    rw [e]; rfl
  by_cases hl : letB s k = true
  · have hd := inB_apart hl
    have hl' : letB (tokAt s k).text 0 = true := by rw [letB, hcut]; exact hl
    have hd' : digB (tokAt s k).text 0 = false := by rw [digB, hcut]; exact hd
    have hkd : (tokAt s k).kind = if resB (tokAt s k).text then kWord else kName := by unfold tokAt; simp [hl]
    cases hr : resB (tokAt s k).text
    · rw [hr] at hkd
      have hkd : (tokAt s k).kind.toList = [110, 97, 109, 101] := by rw [hkd]; exact kN
      refine ⟨by rw [hl', hr, hkd]; rfl, by rw [hd', hkd]; rfl, ?_, by rw [hno, hkd]; rfl, hsz, by rw [hl', hkd]; rfl⟩
      intro l hll
      have : ((tokAt s k).text.toList == l) = false := by
        cases he : ((tokAt s k).text.toList == l)
        · rfl
        · rw [beq_iff_eq] at he
          obtain ⟨c, r, e, h3⟩ := inB_head 97 122 (tokAt s k).text (by omega)
          have := lits_word l hll c r (by rw [← he]; exact e) (by rw [← h3]; exact hl')
          rw [← he] at this
          rw [(resB_iff _).mpr this] at hr
          cases hr
      rw [this, Bool.and_false]
    · rw [hr] at hkd
      have hkd : (tokAt s k).kind.toList = [119, 111, 114, 100] := by rw [hkd]; exact kW
      refine ⟨by rw [hl', hr, hkd]; rfl, by rw [hd', hkd]; rfl, ?_, by rw [hno, hkd]; rfl, hsz, by rw [hl', hkd]; rfl⟩
      intro l hll
      rw [signK, hkd]
      simp
  · have hl : letB s k = false := by simpa using hl
    have hl' : letB (tokAt s k).text 0 = false := by rw [letB, hcut]; exact hl
    by_cases hd : digB s k = true
    · have hd' : digB (tokAt s k).text 0 = true := by rw [digB, hcut]; exact hd
      have hkd : (tokAt s k).kind = if digB s (k + 1) then kNone else kDigit := by unfold tokAt; simp [hl, hd]
      cases h2 : digB s (k + 1)
      · rw [h2] at hkd
        have hkd : (tokAt s k).kind.toList = [100, 105, 103, 105, 116] := by rw [hkd]; exact kD
        refine ⟨by rw [hl', hkd]; rfl, by rw [hd', hkd]; rfl, ?_, by rw [hno, hkd]; rfl, hsz, by rw [hl', hkd]; rfl⟩
        intro l hll
        have : ((tokAt s k).text.toList == l) = false := by
          cases he : ((tokAt s k).text.toList == l)
          · rfl
          · rw [beq_iff_eq] at he
            obtain ⟨c, r, e, h3⟩ := inB_head 48 57 (tokAt s k).text (by omega)
            have := lits_digit l hll c r (by rw [← he]; exact e)
            rw [← h3] at this
            rw [digB] at hd'
            rw [hd'] at this; cases this
        rw [this, Bool.and_false]
      · rw [h2] at hkd
        rw [hkd] at hne
        simp [k0] at hne
    · have hd : digB s k = false := by simpa using hd
      have hd' : digB (tokAt s k).text 0 = false := by rw [digB, hcut]; exact hd
      have hkd : (tokAt s k).kind.toList = [115, 105, 103, 110] := by
        unfold tokAt at hne ⊢
        simp only [hl, hd] at hne ⊢
        simp only [Bool.false_eq_true, if_false] at hne ⊢
        split
        · exact kS
        · rename_i h4
          rw [if_neg h4] at hne
          simp only at hne ⊢
          split
          · exact kS
          · rename_i h5
            rw [if_neg h5] at hne
            simp [k0] at hne
      refine ⟨by rw [hl', hkd]; rfl, by rw [hd', hkd]; rfl, ?_, by rw [hno, hkd]; rfl, hsz, by rw [hl', hkd]; rfl⟩
      intro l hll
      rw [signK, hkd]
      simp

/-- Tokens as they are read: each as it should, none the end's, in the order of their places, all ahead of k. -/
structure AccOk (acc : List Tok) (k : Nat) : Prop where
  ok : ∀ t ∈ acc, TokOk t ∧ (t.kind.toList == [101, 110, 100]) = false ∧ t.at_ < k
  inc : acc.Pairwise (fun a b => a.at_ < b.at_)
  len : acc.length ≤ k
theorem tokAt_at (s : ByteArray) (k : Nat) : (tokAt s k).at_ = k := by
  unfold tokAt; repeat (split; · rfl)
  rfl
theorem toksF_ok (s : ByteArray) (hs : s.size ≤ 800) : ∀ (f k : Nat) (acc : List Tok), k ≤ s.size → AccOk acc k → (toksF f s k acc).2 = none → ∃ acc', (toksF f s k acc).1 = acc' ++ [endTok s.size] ∧ AccOk acc' s.size
  | 0, k, acc, _, _, h => by simp [toksF] at h
  | f + 1, k, acc, hk, ha, h => by
    rw [toksF] at h ⊢
    by_cases h1 : k < s.size
    · rw [if_pos h1] at h ⊢
      by_cases h2 : blankB s k = true
      · rw [if_pos h2] at h ⊢
        exact toksF_ok s hs f (k + 1) acc h1 ⟨fun t ht => ⟨(ha.ok t ht).1, (ha.ok t ht).2.1, by have := (ha.ok t ht).2.2; omega⟩, ha.inc, by have := ha.len; omega⟩ h
      · rw [if_neg h2] at h ⊢
        by_cases h3 : (tokAt s k).kind.toList.isEmpty = true
        · rw [if_pos h3] at h; cases h
        · rw [if_neg h3] at h ⊢
          have htx := tokAt_text s k h1
          have hok := tokAt_ok s k h1 hs (by simpa using h3)
          have hat := tokAt_at s k
          have hne : ((tokAt s k).kind.toList == [101, 110, 100]) = false := by
            rw [← hok.fin]
            obtain ⟨c, r, e, _⟩ := inB_head 0 0 (tokAt s k).text (by omega)
            rw [e]; rfl
          refine toksF_ok s hs f _ _ htx.2 ⟨?_, ?_, ?_⟩ h
          · intro t ht
            rcases List.mem_append.mp ht with ht | ht
            · exact ⟨(ha.ok t ht).1, (ha.ok t ht).2.1, by have := (ha.ok t ht).2.2; omega⟩
            · rw [List.mem_singleton] at ht
              subst ht
              exact ⟨hok, hne, by omega⟩
          · rw [List.pairwise_append]
            refine ⟨ha.inc, List.pairwise_singleton _ _, ?_⟩
            intro a ha' b hb
            rw [List.mem_singleton] at hb
            subst hb
            rw [hat]; exact (ha.ok a ha').2.2
          · rw [List.length_append]; have := ha.len; simp; omega
    · rw [if_neg h1] at h ⊢
      exact ⟨acc, rfl, ⟨fun t ht => ⟨(ha.ok t ht).1, (ha.ok t ht).2.1, by have := (ha.ok t ht).2.2; omega⟩, ha.inc, by have := ha.len; omega⟩⟩

/-- The tokens of a text that has no fault there. -/
structure ToksOk (L : List Tok) : Prop where
  len : L.length ≤ 801
  pos : 0 < L.length
  ok : ∀ i, i < L.length → TokOk (tk L i)
  mid : ∀ i, i + 1 < L.length → ((tk L i).kind.toList == [101, 110, 100]) = false
  last : ((tk L (L.length - 1)).kind.toList == [101, 110, 100]) = true
  inc : L.Pairwise (fun a b => a.at_ < b.at_)
  le : ∀ t ∈ L, t.at_ ≤ 800
theorem tk_mem {L : List Tok} {i : Nat} (h : i < L.length) : tk L i ∈ L := by
  unfold tk; rw [show L.getD i (endTok 0) = L[i] by simp [List.getD, h]]; exact List.getElem_mem h
theorem refToks_ok (s : ByteArray) (hs : s.size ≤ 800) (h : (refToks s).2 = none) : ToksOk (refToks s).1 := by
  obtain ⟨acc, e, ha⟩ := toksF_ok s hs 801 0 [] (Nat.zero_le _) ⟨fun t ht => by simp at ht, List.Pairwise.nil, by simp⟩ h
  have e' : (refToks s).1 = acc ++ [endTok s.size] := e
  rw [e']
  have kE : kEnd.toList = [101, 110, 100] := toList_dat _
  have hl := ha.len
  have tkl : ∀ i, i < acc.length → tk (acc ++ [endTok s.size]) i ∈ acc := by
    intro i hi
    have : tk (acc ++ [endTok s.size]) i = acc[i] := by
      unfold tk
      simp [List.getD, List.getElem?_append_left hi, hi]
    rw [this]; exact List.getElem_mem hi
  have tke : tk (acc ++ [endTok s.size]) acc.length = endTok s.size := by
    unfold tk
    simp [List.getD]
  refine ⟨by simp; omega, by simp, ?_, ?_, ?_, ?_, ?_⟩
  · intro i hi
    simp at hi
    by_cases hh : i < acc.length
    · exact (ha.ok _ (tkl i hh)).1
    · have : i = acc.length := by omega
      subst this
      rw [tke]; exact endTok_ok _
  · intro i hi
    simp at hi
    exact (ha.ok _ (tkl i hi)).2.1
  · simp only [List.length_append, List.length_singleton, Nat.add_sub_cancel]
    rw [tke]
    show (kEnd.toList == _) = true
    rw [kE]; rfl
  · rw [List.pairwise_append]
    refine ⟨ha.inc, List.pairwise_singleton _ _, ?_⟩
    intro a h1 b hb
    rw [List.mem_singleton] at hb
    subst hb
    exact (ha.ok a h1).2.2
  · intro t ht
    rcases List.mem_append.mp ht with ht | ht
    · have := (ha.ok t ht).2.2; omega
    · rw [List.mem_singleton] at ht; subst ht; exact hs

end Go.Proofs.YtpmcnonmkghokaaGreatDoor
namespace Go.Proofs.YtpmcnonmkghokaaGreatDoor
open Go.RowKit
set_option maxHeartbeats 400000 in
theorem isBlank_any (b : Int) (w : World) : Calls Tryz.prog 86 #[.int .u8 b] w fun e w' => e = .returned (.bool ((b == 32) || (b == 10))) ∧ w' = w := by
  cases h : (b == 32)
  all_goals
    go_enter Tryz.func86, Tryz.ntmps86
    go_wp2
    go_ret
    exact ⟨ret_bool (by simp), rfl⟩
set_option maxHeartbeats 400000 in
theorem isLetter_any (b : Int) (w : World) : Calls Tryz.prog 142 #[.int .u8 b] w fun e w' => e = .returned (.bool (decide (97 ≤ b) && decide (b ≤ 122))) ∧ w' = w := by
  by_cases h : 97 ≤ b
  all_goals
    go_enter Tryz.func142, Tryz.ntmps142
    go_wp2
    go_ret
    exact ⟨ret_bool (by first | (simp [h]; done) | (simp; omega)), rfl⟩
set_option maxHeartbeats 400000 in
theorem isDigit_any (b : Int) (w : World) : Calls Tryz.prog 144 #[.int .u8 b] w fun e w' => e = .returned (.bool (decide (48 ≤ b) && decide (b ≤ 57))) ∧ w' = w := by
  by_cases h : 48 ≤ b
  all_goals
    go_enter Tryz.func144, Tryz.ntmps144
    go_wp2
    go_ret
    exact ⟨ret_bool (by first | (simp [h]; done) | (simp; omega)), rfl⟩
theorem inB_at {lo hi : Int} {s : ByteArray} {i : Nat} (h : i < s.size) : (decide (lo ≤ ((s[i]).toNat : Int)) && decide (((s[i]).toNat : Int) ≤ hi)) = inB lo hi s i := by simp [inB, h]

set_option maxHeartbeats 1000000 in
theorem wordLength_any (s : ByteArray) (w : World) (hs : s.size ≤ 800) :
    Calls Tryz.prog 143 #[.string s] w fun e w' => e = .returned (.int .i64 (wEnd 801 s 0)) ∧ w' = w := by
  go_enter Tryz.func143, Tryz.ntmps143
  go_wp2
  go_loop [3] (fun i => ∃ k : Nat, k ≤ s.size ∧ i = .int .i64 k ∧ ∀ j, 0 ≤ j → j < k → letB s j = true) (fun i => s.size - (intOf i).toNat)
  case atStart => exact ⟨0, Nat.zero_le _, rfl, fun j _ h => by omega⟩
  case round =>
    obtain ⟨k, hk, rfl, hall⟩ := hrel
    have HA := hide hall
    clear hall
    by_cases hlt : k < s.size
    · cases hl : letB s k
      · have HE := hide (wEnd_of hl 801 0 (Nat.zero_le _) (by omega) (unhide HA))
        go_wp2_with fail
        refine (isLetter_any _ _).mono ?_
        rintro e w' ⟨rfl, rfl⟩
        rw [inB_at hlt, show inB 97 122 s k = false from hl]
        go_wp2
        go_ret
        rw [unhide HE]
        exact ⟨rfl, rfl⟩
      · go_wp2_with fail
        refine (isLetter_any _ _).mono ?_
        rintro e w' ⟨rfl, rfl⟩
        rw [inB_at hlt, show inB 97 122 s k = true from hl]
        go_wp2
        go_round
        case rel => exact ⟨k + 1, by omega, by go_num, fun j h1 h2 => if e : j = k then e ▸ hl else (unhide HA) j h1 (by omega)⟩
        case measure => simp [intOf]; omega
    · have hl : letB s k = false := by
        cases h : letB s k
        · rfl
        · exact absurd (letB_lt h) hlt
      have HE := hide (wEnd_of hl 801 0 (Nat.zero_le _) (by omega) (unhide HA))
      go_wp2
      go_ret
      rw [unhide HE]
      exact ⟨rfl, rfl⟩

set_option maxHeartbeats 1000000 in
theorem hasPrefix_any (s p : ByteArray) (w : World) :
    Calls Tryz.prog 145 #[.string s, .string p] w fun e w' => e = .returned (.bool (decide (p.size ≤ s.size) && ((s.extract 0 p.size).toList == p.toList))) ∧ w' = w := by
  have inner : Calls Tryz.prog 199 #[.string s, .string p] w fun e w' => e = .returned (.bool (decide (p.size ≤ s.size) && ((s.extract 0 p.size).toList == p.toList))) ∧ w' = w := by
    by_cases h : p.size ≤ s.size
    · go_enter Tryz.func199, Tryz.ntmps199
      go_wp2
      go_ret
      exact ⟨ret_bool (by simp [h]), rfl⟩
    · go_enter Tryz.func199, Tryz.ntmps199
      go_wp2
      go_ret
      exact ⟨ret_bool (by simp [h]), rfl⟩
  go_enter Tryz.func145, Tryz.ntmps145
  go_wp2_with fail
  refine inner.mono ?_
  rintro e w' ⟨rfl, rfl⟩
  go_wp2
  go_ret
  exact ⟨rfl, rfl⟩

set_option maxHeartbeats 1000000 in
set_option maxRecDepth 100000 in
theorem indexByte_any (s : ByteArray) (c : Int) (w : World) :
    Calls Tryz.prog 146 #[.string s, .int .u8 c] w fun e w' => e = .returned (.int .i64 (Lib.indexByte s.data.toList c.toNat.toUInt8)) ∧ w' = w := by
  have inner : Calls Tryz.prog 200 #[.string s, .int .u8 c] w fun e w' => e = .returned (.int .i64 (Lib.indexByte s.data.toList c.toNat.toUInt8)) ∧ w' = w := by
    go_enter Tryz.func200, Tryz.ntmps200
    go_wp2
    rw [run_callFunc_extern Tryz.func237 (by kernel_rfl) (by kernel_rfl) (by kernel_rfl) (e := Extern.BytealgIndexByte.indexByte) (by kernel_rfl), Lib.run_indexByteString]
    simp only [Result.andThen]
    rw [Oper.upon_value]
    go_wp2
    go_ret
    exact ⟨rfl, rfl⟩
  go_enter Tryz.func146, Tryz.ntmps146
  go_wp2_with fail
  refine inner.mono ?_
  rintro e w' ⟨rfl, rfl⟩
  go_wp2
  go_ret
  exact ⟨rfl, rfl⟩

theorem indexByte_has (c : UInt8) : ∀ l : List UInt8, (0 ≤ Lib.indexByte l c ↔ l.any (fun b => b.toNat == c.toNat) = true)
  | [] => by simp [Lib.indexByte]
  | b :: l => by
    have ih := indexByte_has c l
    have hg := Lib.indexByte_ge l c
    rw [Lib.indexByte, List.any_cons]
    cases h : (b == c)
    · have hn : (b.toNat == c.toNat) = false := by
        cases hh : (b.toNat == c.toNat)
        · rfl
        · rw [beq_iff_eq] at hh
          have : b = c := UInt8.toNat_inj.mp hh
          subst this; simp at h
      rw [hn, Bool.false_or, ← ih]
      simp only [Bool.false_eq_true, if_false]
      by_cases h1 : Lib.indexByte l c = -1
      · simp [h1]
      · have : (Lib.indexByte l c == -1) = false := by simpa using h1
        rw [this]; simp only [Bool.false_eq_true, if_false]; omega
    · rw [beq_iff_eq] at h
      subst h; simp
theorem sign_iff (s : ByteArray) (h : 0 < s.size) : decide ((0 : Int) ≤ Lib.indexByte signsA.data.toList (((s[0]).toNat : Int).toNat.toUInt8)) = signB s 0 := by
  have a1 : s.get! 0 = s[0] := getElem!_pos s.data 0 h
  have e : (((s[0]).toNat : Int).toNat.toUInt8) = s[0] := by
    rw [Int.toNat_natCast]; simp
  rw [e]
  unfold signB
  rw [a1, toList_dat]
  have i := indexByte_has (s[0]) signsA.data.toList
  cases hh : signsA.data.toList.any (fun c => c.toNat == (s[0]).toNat)
  · rw [hh] at i
    rw [decide_eq_false_iff_not]
    intro hc
    have := i.mp hc
    cases this
  · rw [decide_eq_true_iff]; exact i.mpr hh

def tLen (t : Tok) : Nat := if t.kind.toList.isEmpty then 0 else t.text.size

theorem tLen_word {s : ByteArray} (hl : letB s 0 = true) : tLen (tokAt s 0) = wEnd 801 s 0 := by
  have hb := wEnd_bd s 801 0 (Nat.zero_le _)
  have hk : (tokAt s 0).kind.toList.isEmpty = false := by
    unfold tokAt; rw [if_pos hl]
    simp only
    split
    · rw [show kWord.toList = [119, 111, 114, 100] from toList_lit _]; rfl
    · rw [show kName.toList = [110, 97, 109, 101] from toList_lit _]; rfl
  unfold tLen
  rw [hk]
  unfold tokAt; rw [if_pos hl]
  simp only [Bool.false_eq_true, if_false]
  rw [extract_size _ _ _ hb.2]; omega
theorem tLen_digit {s : ByteArray} (hs : 0 < s.size) (hl : letB s 0 = false) (hd : digB s 0 = true) : tLen (tokAt s 0) = if digB s 1 then 0 else 1 := by
  unfold tLen tokAt
  simp only [hl, hd, Bool.false_eq_true, if_false, if_true, Nat.zero_add]
  cases h : digB s 1
  · simp only [Bool.false_eq_true, if_false]
    rw [show kDigit.toList = [100, 105, 103, 105, 116] from toList_lit _, extract_size _ _ _ (by omega)]; rfl
  · simp only [if_true]
    rw [show kNone.toList = [] from toList_lit _]; rfl
theorem tLen_two {s : ByteArray} (hl : letB s 0 = false) (hd : digB s 0 = false) (h2 : twoB s 0 = true) : tLen (tokAt s 0) = 2 := by
  have : 0 + 1 < s.size := by unfold twoB at h2; simp at h2; omega
  unfold tLen tokAt
  simp only [hl, hd, h2, Bool.false_eq_true, if_false, if_true]
  rw [show kSign.toList = [115, 105, 103, 110] from toList_lit _, extract_size _ _ _ (by omega)]; rfl
theorem tLen_one {s : ByteArray} (hs : 0 < s.size) (hl : letB s 0 = false) (hd : digB s 0 = false) (h2 : twoB s 0 = false) : tLen (tokAt s 0) = if signB s 0 then 1 else 0 := by
  unfold tLen tokAt
  simp only [hl, hd, h2, Bool.false_eq_true, if_false]
  cases h : signB s 0
  · simp only [Bool.false_eq_true, if_false]
    rw [show kNone.toList = [] from toList_lit _]; rfl
  · simp only [if_true]
    rw [show kSign.toList = [115, 105, 103, 110] from toList_lit _, extract_size _ _ _ (by omega)]; rfl
theorem two_iff (s : ByteArray) : twoB s 0 = ((decide (2 ≤ s.size) && ((s.extract 0 2).toList == [61, 61])) || (decide (2 ≤ s.size) && ((s.extract 0 2).toList == [33, 61]))) := by
  unfold twoB
  simp only [Nat.zero_add]
  by_cases h : 2 ≤ s.size
  · have h1 : 1 < s.size := by omega
    simp [h, h1]
  · have h1 : ¬ 1 < s.size := by omega
    simp [h, h1]

theorem prefix_lit (s : ByteArray) (a b : UInt8) (w : World) :
    Calls Tryz.prog 145 #[.string s, .string ⟨#[a, b]⟩] w fun e w' => e = .returned (.bool (decide (2 ≤ s.size) && ((s.extract 0 2).toList == [a, b]))) ∧ w' = w := by
  have h := hasPrefix_any s ⟨#[a, b]⟩ w
  rw [show (⟨#[a, b]⟩ : ByteArray).toList = [a, b] from toList_lit _] at h
  exact h

set_option maxHeartbeats 1000000 in
theorem tokenLength_any (s : ByteArray) (w : World) (h0 : 0 < s.size) (hs : s.size ≤ 800) :
    Calls Tryz.prog 87 #[.string s] w fun e w' => e = .returned (.int .i64 (tLen (tokAt s 0))) ∧ w' = w := by
  cases hl : letB s 0
  · cases hd : digB s 0
    · cases h2 : twoB s 0
      · have HT := hide (tLen_one h0 hl hd h2)
        rw [two_iff, Bool.or_eq_false_iff] at h2
        go_enter Tryz.func87, Tryz.ntmps87
        go_wp2_with fail
        refine (isLetter_any _ _).mono ?_
        rintro e w' ⟨rfl, rfl⟩
        rw [inB_at h0, show inB 97 122 s 0 = false from hl]
        go_wp2_with fail
        refine (isDigit_any _ _).mono ?_
        rintro e w' ⟨rfl, rfl⟩
        rw [inB_at h0, show inB 48 57 s 0 = false from hd]
        go_wp2_with fail
        refine (prefix_lit s 61 61 _).mono ?_
        rintro e w' ⟨rfl, rfl⟩
        rw [h2.1]
        go_wp2_with fail
        refine (prefix_lit s 33 61 _).mono ?_
        rintro e w' ⟨rfl, rfl⟩
        rw [h2.2]
        go_wp2_with fail
        refine (indexByte_any _ _ _).mono ?_
        rintro e w' ⟨rfl, rfl⟩
        have hsi := sign_iff s h0
        unfold signsA at hsi
        generalize Lib.indexByte _ _ = z at hsi ⊢
        cases hsg : signB s 0
        · rw [hsg] at HT hsi
          have hz : ¬ 0 ≤ z := by simpa using hsi
          go_wp2
          go_ret
          rw [unhide HT]; exact ⟨rfl, rfl⟩
        · rw [hsg] at HT hsi
          have hz : 0 ≤ z := by simpa using hsi
          go_wp2
          go_ret
          rw [unhide HT]; exact ⟨rfl, rfl⟩
      · have HT := hide (tLen_two hl hd h2)
        rw [two_iff] at h2
        go_enter Tryz.func87, Tryz.ntmps87
        go_wp2_with fail
        refine (isLetter_any _ _).mono ?_
        rintro e w' ⟨rfl, rfl⟩
        rw [inB_at h0, show inB 97 122 s 0 = false from hl]
        go_wp2_with fail
        refine (isDigit_any _ _).mono ?_
        rintro e w' ⟨rfl, rfl⟩
        rw [inB_at h0, show inB 48 57 s 0 = false from hd]
        go_wp2_with fail
        refine (prefix_lit s 61 61 _).mono ?_
        rintro e w' ⟨rfl, rfl⟩
        cases hp : (decide (2 ≤ s.size) && ((s.extract 0 2).toList == [61, 61]))
        · rw [hp, Bool.false_or] at h2
          go_wp2_with fail
          refine (prefix_lit s 33 61 _).mono ?_
          rintro e w' ⟨rfl, rfl⟩
          rw [h2]
          go_wp2
          go_ret
          rw [unhide HT]; exact ⟨rfl, rfl⟩
        · clear h2
          go_wp2
          go_ret
          rw [unhide HT]; exact ⟨rfl, rfl⟩
    · have HT := hide (tLen_digit h0 hl hd)
      go_enter Tryz.func87, Tryz.ntmps87
      go_wp2_with fail
      refine (isLetter_any _ _).mono ?_
      rintro e w' ⟨rfl, rfl⟩
      rw [inB_at h0, show inB 97 122 s 0 = false from hl]
      go_wp2_with fail
      refine (isDigit_any _ _).mono ?_
      rintro e w' ⟨rfl, rfl⟩
      rw [inB_at h0, show inB 48 57 s 0 = true from hd]
      by_cases h1 : 1 < s.size
      · go_wp2_with fail
        refine (isDigit_any _ _).mono ?_
        rintro e w' ⟨rfl, rfl⟩
        rw [inB_at h1]
        cases hd1 : digB s 1
        · rw [hd1] at HT
          rw [show inB 48 57 s 1 = false from hd1]
          go_wp2
          go_ret
          rw [unhide HT]; exact ⟨rfl, rfl⟩
        · rw [hd1] at HT
          rw [show inB 48 57 s 1 = true from hd1]
          go_wp2
          go_ret
          rw [unhide HT]; exact ⟨rfl, rfl⟩
      · have hd1 : digB s 1 = false := inB_no h1
        rw [hd1] at HT
        go_wp2
        go_ret
        rw [unhide HT]; exact ⟨rfl, rfl⟩
  · have HT := hide (tLen_word hl)
    go_enter Tryz.func87, Tryz.ntmps87
    go_wp2_with fail
    refine (isLetter_any _ _).mono ?_
    rintro e w' ⟨rfl, rfl⟩
    rw [inB_at h0, show inB 97 122 s 0 = true from hl]
    go_wp2_with fail
    refine (wordLength_any s _ hs).mono ?_
    rintro e w' ⟨rfl, rfl⟩
    go_wp2
    go_ret
    rw [unhide HT]; exact ⟨rfl, rfl⟩

end Go.Proofs.YtpmcnonmkghokaaGreatDoor

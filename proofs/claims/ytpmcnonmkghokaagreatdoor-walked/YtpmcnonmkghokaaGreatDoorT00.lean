/-
  The reference's small functions over strings: letter, digit, has. Each answers what the plain function beside it says, for every string and place; nothing in memory turns.
  The reference's token: the token that begins at a place of a text, as the plain function tokAt says; nothing that was in memory turns.
  The reference's toks: the tokens of a text, or the place at which none begins, as the plain function refToks says.
  The reference's Reader: next, must, kind, by the plain functions rNext, rMust, rKind on a state of reading.
  Plain facts on tokens: what begins where a text is cut is what begins at that place; what a token's text says of its kind; the tokens of a text, in their order, with the end behind them.
  The program's small functions over bytes and texts: isBlank, isLetter, isDigit, wordLength, tokenLength: the token at the head of a text is the one that tokAt says.
  The program's Scan: the tokens of a text, or the place at which none begins: those of refToks.
  The reference's Reader: kind and place.
  The reference's expressions, plainly: rX, what level and atom of the Reader make of the tokens.
  The reference's atom, walked: it makes what rX says, if level and atom do so with less fuel.
-/
import Derived.Test.YtpmcnonmkghokaaGreatDoorRows
import Derived.WalkKit
import Derived.WalkSpells
import Derived.WalkLawsBesides
import Derived.Deep.QuietTactic
import Derived.BigQuiet
import Derived.Deep.Trees
import Derived.BigRegion
import Derived.Lib.Strings
import Derived.Lib.Slices
import Derived.Lib.Walk
import Derived.Lib.Bytealg
import Derived.OwnWalk
set_option linter.unusedVariables false
set_option linter.unusedSimpArgs false
namespace Go.Proofs.YtpmcnonmkghokaaGreatDoor
open Go.RowKit
theorem hide {p : Prop} (h : p) : Hid p := h
theorem unhide {p : Prop} (h : Hid p) : p := h
theorem getD_at {α : Type} (l : List α) (k : Nat) (d : α) (h : k < l.length) : l.getD k d = l[k] := by
 simp [List.getD, h]

theorem ret_bool {a b : Bool} (h : a = b) : Ending.returned (.bool a) = .returned (.bool b) := by rw [h]
theorem ret_int {k : IntKind} {a b : Int} (h : a = b) : Ending.returned (.int k a) = .returned (.int k b) := by rw [h]

theorem row3 {w : World} {b : Nat} {x y z : Value} {t : TypeId} (h : w.heap[b]? = some (.cells #[x, y, z] t (0, 0))) :
  w.cell? ⟨b, 0, none⟩ = some x ∧ w.cell? ⟨b, 1, none⟩ = some y ∧ w.cell? ⟨b, 2, none⟩ = some z ∧ w.frozen? ⟨b, 0, none⟩ = false ∧ w.frozen? ⟨b, 1, none⟩ = false ∧ w.frozen? ⟨b, 2, none⟩ = false :=
 ⟨by rw [cell_of_row w b 0 _ _ _ h]; rfl, by rw [cell_of_row w b 1 _ _ _ h]; rfl, by rw [cell_of_row w b 2 _ _ _ h]; rfl, frozen_of_row w b 0 _ _ h, frozen_of_row w b 1 _ _ h, frozen_of_row w b 2 _ _ h⟩

def inB (lo hi : Int) (s : ByteArray) (i : Nat) : Bool := if h : i < s.size then decide (lo ≤ ((s[i]).toNat : Int)) && decide (((s[i]).toNat : Int) ≤ hi) else false
def letB (s : ByteArray) (i : Nat) : Bool := inB 97 122 s i
def digB (s : ByteArray) (i : Nat) : Bool := inB 48 57 s i

theorem inB_no {lo hi : Int} {s : ByteArray} {i : Nat} (h : ¬ i < s.size) : inB lo hi s i = false := by simp [inB, h]
end Go.Proofs.YtpmcnonmkghokaaGreatDoor
namespace Go.Proofs.YtpmcnonmkghokaaGreatDoor
open Go.RowKit
def wEnd : Nat → ByteArray → Nat → Nat
 | 0, _, i => i
 | f + 1, s, i => if letB s i then wEnd f s (i + 1) else i

theorem letB_lt {s : ByteArray} {i : Nat} (h : letB s i = true) : i < s.size := by
 unfold letB inB at h
 by_cases hh : i < s.size
 ·exact hh
 ·simp [hh] at h

theorem wEnd_of {s : ByteArray} {n : Nat} (hn : letB s n = false) : ∀ (f k : Nat), k ≤ n → n - k < f → (∀ j, k ≤ j → j < n → letB s j = true) → wEnd f s k = n
 | 0, k, _, h, _ => by omega
 | f + 1, k, hk, h, hall => by
  rw [wEnd]
  by_cases e : k = n
  ·subst e; simp [hn]
  ·rw [if_pos (hall k (Nat.le_refl _) (by omega))]
   exact wEnd_of hn f (k + 1) (by omega) (by omega) (fun j h1 h2 => hall j (by omega) h2)

def wordsL : List ByteArray := [⟨#[115, 101, 116]⟩, ⟨#[107, 105, 110, 100]⟩, ⟨#[118, 97, 114]⟩, ⟨#[98, 111, 111, 108]⟩, ⟨#[116, 111]⟩, ⟨#[114, 117, 108, 101]⟩, ⟨#[105, 102]⟩, ⟨#[101, 108, 115, 101]⟩, ⟨#[110, 101, 118, 101, 114]⟩, ⟨#[116, 114, 117, 101]⟩, ⟨#[102, 97, 108, 115, 101]⟩, ⟨#[110, 111, 110, 101]⟩]
def resB (s : ByteArray) : Bool := wordsL.any (fun t => t.toList == s.toList)

structure Tok where
 kind : ByteArray
 text : ByteArray
 at_ : Nat

def kWord : ByteArray := ⟨#[119, 111, 114, 100]⟩
def kName : ByteArray := ⟨#[110, 97, 109, 101]⟩
def kDigit : ByteArray := ⟨#[100, 105, 103, 105, 116]⟩
def kSign : ByteArray := ⟨#[115, 105, 103, 110]⟩
def kEnd : ByteArray := ⟨#[101, 110, 100]⟩
def kNone : ByteArray := ⟨#[]⟩

def signsA : ByteArray := ⟨#[40, 41, 91, 93, 123, 125, 58, 59, 44, 33, 38, 124, 43, 45, 60, 61]⟩
def twoB (s : ByteArray) (k : Nat) : Bool := decide (k + 1 < s.size) && ((s.extract k (k + 2)).toList == [61, 61] || (s.extract k (k + 2)).toList == [33, 61])
def signB (s : ByteArray) (k : Nat) : Bool := signsA.toList.any (fun c => c.toNat == (s.get! k).toNat)

def tokAt (s : ByteArray) (k : Nat) : Tok :=
 if letB s k then
  let t := s.extract k (wEnd 801 s k)
  { kind := if resB t then kWord else kName, text := t, at_ := k }
 else if digB s k then { kind := if digB s (k + 1) then kNone else kDigit, text := s.extract k (k + 1), at_ := k }
 else if twoB s k then { kind := kSign, text := s.extract k (k + 2), at_ := k }
 else { kind := if signB s k then kSign else kNone, text := s.extract k (k + 1), at_ := k }

end Go.Proofs.YtpmcnonmkghokaaGreatDoor
namespace Go.Proofs.YtpmcnonmkghokaaGreatDoor
open Go.RowKit
def blankB (s : ByteArray) (k : Nat) : Bool := if h : k < s.size then (((s[k]).toNat : Int) == 32) || (((s[k]).toNat : Int) == 10) else false
def endTok (n : Nat) : Tok := { kind := kEnd, text := ⟨#[]⟩, at_ := n }

def toksF : Nat → ByteArray → Nat → List Tok → List Tok × Option Nat
 | 0, _, k, acc => (acc, some k)
 | f + 1, s, k, acc =>
  if k < s.size then
   if blankB s k then toksF f s (k + 1) acc
   else if (tokAt s k).kind.toList.isEmpty then (acc, some k)
   else toksF f s (k + (tokAt s k).text.size) (acc ++ [tokAt s k])
  else (acc ++ [endTok s.size], none)
def refToks (s : ByteArray) : List Tok × Option Nat := toksF 801 s 0 []

theorem extract_size (s : ByteArray) (a b : Nat) (h : b ≤ s.size) : (s.extract a b).size = b - a := by
 rw [ByteArray.size_extract]; omega

theorem wEnd_bd (s : ByteArray) : ∀ (f k : Nat), k ≤ s.size → k ≤ wEnd f s k ∧ wEnd f s k ≤ s.size
 | 0, k, h => ⟨Nat.le_refl _, h⟩
 | f + 1, k, h => by
  rw [wEnd]
  split
  ·rename_i hl
   have := letB_lt hl
   have := wEnd_bd s f (k + 1) (by omega)
   omega
  ·omega

theorem tokAt_text (s : ByteArray) (k : Nat) (hk : k < s.size) : 1 ≤ (tokAt s k).text.size ∧ k + (tokAt s k).text.size ≤ s.size := by
 unfold tokAt
 split
 ·rename_i hl
  have h1 := wEnd_bd s 800 (k + 1) (by omega)
  have h2 : wEnd 801 s k = wEnd 800 s (k + 1) := by rw [wEnd, if_pos hl]
  show 1 ≤ (s.extract k (wEnd 801 s k)).size ∧ k + (s.extract k (wEnd 801 s k)).size ≤ s.size
  rw [extract_size _ _ _ (by omega)]
  omega
 ·split
  ·show 1 ≤ (s.extract k (k + 1)).size ∧ k + (s.extract k (k + 1)).size ≤ s.size
   rw [extract_size _ _ _ (by omega)]; omega
  ·split
   ·rename_i h2
    unfold twoB at h2
    simp at h2
    show 1 ≤ (s.extract k (k + 2)).size ∧ k + (s.extract k (k + 2)).size ≤ s.size
    rw [extract_size _ _ _ (by omega)]; omega
   ·show 1 ≤ (s.extract k (k + 1)).size ∧ k + (s.extract k (k + 1)).size ≤ s.size
    rw [extract_size _ _ _ (by omega)]; omega

theorem cells_new (w : World) (b : Nat) (cs : List Value) (t : TypeId) (hb : w.heap.size = b) : ∀ j u, cs[j]? = some u → (w.alloc (.cells cs.toArray t)).cell? ((⟨b, 0, none⟩ : Addr).add j) = some u := by
 intro j u h
 subst hb
 have hh := heap_alloc_new w (.cells cs.toArray t)
 rw [show ((⟨w.heap.size, 0, none⟩ : Addr).add j) = ⟨w.heap.size, j, none⟩ from by simp [Addr.add]; intro h; exact h.symm, cell_of_row _ _ _ _ _ _ hh]
 simpa using h
theorem toksF_blank {f : Nat} {s : ByteArray} {k : Nat} {acc : List Tok} (hb : blankB s k = true) (hk : k < s.size) : toksF (f + 1) s k acc = toksF f s (k + 1) acc := by
 rw [toksF, if_pos hk, if_pos hb]
theorem toksF_step {f : Nat} {s : ByteArray} {k : Nat} {acc : List Tok} (hb : blankB s k = false) (hk : k < s.size) (hf : toksF f s k acc = refToks s) :
  ∀ g, f = g + 1 → ((tokAt s k).kind.toList.isEmpty = true → refToks s = (acc, some k)) ∧ ((tokAt s k).kind.toList.isEmpty = false → toksF g s (k + (tokAt s k).text.size) (acc ++ [tokAt s k]) = refToks s) := by
 intro g hg
 subst hg
 rw [toksF, if_pos hk, hb] at hf
 constructor
 ·intro h; rw [h] at hf; simpa using hf.symm
 ·intro h; rw [h] at hf; simpa using hf
theorem owns_below {w w' : World} {base e size : Nat} {v : Value} {n : Nat} {xs : List Value} (h : w.ownsRow base e size v n xs) (hb : Below w.heap.size w w') : w'.ownsRow base e size v n xs := by
 obtain ⟨h1, h2⟩ := h
 refine ⟨h1, ?_⟩
 rcases h2 with h2 | ⟨g, cap, cur, hv, hg, hh, r⟩
 ·exact Or.inl h2
 ·exact Or.inr ⟨g, cap, cur, hv, hg, by rw [hb.block g (lt_of_block hh)]; exact hh, r⟩

theorem own_ge {w : World} {base e size : Nat} {v : Value} {n : Nat} {xs : List Value} (h : w.ownsRow base e size v n xs) : ∀ k, v.ownBlock = some k → base ≤ k := by
 intro k hk
 rcases h.2 with ⟨rfl, _⟩ | ⟨g, cap, cur, rfl, hg, _⟩
 ·simp [Value.ownBlock] at hk
 ·simp [Value.ownBlock] at hk; omega
theorem own_lt {w : World} {base e size : Nat} {v : Value} {n : Nat} {xs : List Value} (h : w.ownsRow base e size v n xs) : ∀ k, v.ownBlock = some k → k < w.heap.size := by
 intro k hk
 rcases h.2 with ⟨rfl, _⟩ | ⟨g, cap, cur, rfl, hg, hh, _⟩
 ·simp [Value.ownBlock] at hk
 ·simp [Value.ownBlock] at hk; subst hk; exact lt_of_block hh
end Go.Proofs.YtpmcnonmkghokaaGreatDoor
namespace Go.Proofs.YtpmcnonmkghokaaGreatDoor
open Go.RowKit
structure RS where
 at_ : Nat
 nest : Int
 bad : Bool

def tk (L : List Tok) (k : Nat) : Tok := L.getD k (endTok 0)

structure Kept (R : Nat) (w w' : World) : Prop where
 os : w'.os = w.os
 tape : w'.tape = w.tape
 output : w'.output = w.output
 size : w.heap.size ≤ w'.heap.size
 block : ∀ k, k < w.heap.size → k ≠ R → w'.heap[k]? = w.heap[k]?

theorem Kept.refl (R : Nat) (w : World) : Kept R w w := ⟨rfl, rfl, rfl, Nat.le_refl _, fun _ _ _ => rfl⟩
theorem Kept.trans {R : Nat} {a b c : World} (h : Kept R a b) (k : Kept R b c) : Kept R a c :=
 ⟨k.os.trans h.os, k.tape.trans h.tape, k.output.trans h.output, Nat.le_trans h.size k.size, fun i hi hn => (k.block i (Nat.lt_of_lt_of_le hi h.size) hn).trans (h.block i hi hn)⟩
theorem Kept.of_below {R : Nat} {w w' : World} (h : Below w.heap.size w w') : Kept R w w' := ⟨h.os, h.tape, h.output, h.size, fun k hk _ => h.block k hk⟩
theorem Kept.alloc {R : Nat} {a w : World} (h : Kept R a w) (o : Obj) : Kept R a (w.alloc o) := h.trans (.of_below ((Below.refl _ _).alloc (Nat.le_refl _) o))
theorem Kept.drew {R : Nat} {a w : World} (h : Kept R a w) : Kept R a w.drew := ⟨h.os, h.tape, h.output, h.size, h.block⟩
theorem Kept.setR {R : Nat} {a w : World} (h : Kept R a w) (o : Nat) (u : Value) : Kept R a (w.setCell ⟨R, o, none⟩ u) :=
 h.trans ⟨rfl, rfl, rfl, by simp [World.setCell], fun k hk hn => Below.heap_setCell _ _ _ _ hn⟩
theorem Kept.setNew {R : Nat} {a w : World} (h : Kept R a w) {p : Addr} (hp : a.heap.size ≤ p.block) (u : Value) : Kept R a (w.setCell p u) :=
 ⟨h.os, h.tape, h.output, by simpa [World.setCell] using h.size, fun k hk hn => by rw [Below.heap_setCell _ _ _ _ (by omega)]; exact h.block k hk hn⟩

theorem owns_kept {w w' : World} {R base e size : Nat} {v : Value} {n : Nat} {xs : List Value} (h : w.ownsRow base e size v n xs) (hne : v.ownBlock ≠ some R) (hb : Kept R w w') : w'.ownsRow base e size v n xs := by
 obtain ⟨h1, h2⟩ := h
 refine ⟨h1, ?_⟩
 rcases h2 with h2 | ⟨g, cap, cur, rfl, hg, hh, r⟩
 ·exact Or.inl h2
 ·exact Or.inr ⟨g, cap, cur, rfl, hg, by rw [hb.block g (lt_of_block hh) (fun e => hne (by simp [Value.ownBlock, e]))]; exact hh, r⟩

theorem below_alloc_drew (w : World) (o : Obj) : Below w.heap.size w (w.alloc o).drew := ((Below.refl _ _).alloc (Nat.le_refl _) _).drew

def nextB (t : Tok) (s : List UInt8) (bad : Bool) : Bool :=
 !bad && (t.kind.toList == [115, 105, 103, 110] || t.kind.toList == [119, 111, 114, 100]) && (t.text.toList == s)
def rNext (L : List Tok) (s : List UInt8) (st : RS) : Bool := nextB (tk L st.at_) s st.bad

def opens (s : List UInt8) : Bool := s == [40] || s == [91] || s == [123]
def shuts (s : List UInt8) : Bool := s == [41] || s == [93] || s == [125]
def rMust (L : List Tok) (s : List UInt8) (st : RS) : RS :=
 if !rNext L s st || (opens s && st.nest == 12) then { st with bad := true }
 else { at_ := st.at_ + 1, nest := if opens s then st.nest + 1 else if shuts s then st.nest - 1 else st.nest, bad := false }

end Go.Proofs.YtpmcnonmkghokaaGreatDoor
namespace Go.Proofs.YtpmcnonmkghokaaGreatDoor
open Go.RowKit
theorem inB_shift (lo hi : Int) (s : ByteArray) (k i : Nat) : inB lo hi (s.extract k s.size) i = inB lo hi s (k + i) := by
 unfold inB
 by_cases h : k + i < s.size
 ·have h' : i < (s.extract k s.size).size := by rw [extract_size _ _ _ (Nat.le_refl _)]; omega
  rw [dif_pos h, dif_pos h', ByteArray.getElem_extract]
 ·have h' : ¬ i < (s.extract k s.size).size := by rw [extract_size _ _ _ (Nat.le_refl _)]; omega
  rw [dif_neg h, dif_neg h']
theorem wEnd_shift (s : ByteArray) (k : Nat) : ∀ f i, k + wEnd f (s.extract k s.size) i = wEnd f s (k + i)
 | 0, i => rfl
 | f + 1, i => by
  rw [wEnd, wEnd, letB, letB, inB_shift]
  split
  ·exact wEnd_shift s k f (i + 1)
  ·rfl
theorem cut_shift (s : ByteArray) (k i j : Nat) (h : k + j ≤ s.size) : (s.extract k s.size).extract i j = s.extract (k + i) (k + j) := by
 rw [ByteArray.extract_extract, Nat.min_eq_left h]
theorem get_shift (s : ByteArray) (k : Nat) (h : k < s.size) : (s.extract k s.size).get! 0 = s.get! k := by
 have hz : 0 < (s.extract k s.size).size := by rw [extract_size _ _ _ (Nat.le_refl _)]; omega
 have e : (s.extract k s.size)[0]'hz = s[k] := by rw [ByteArray.getElem_extract]; rfl
 have a1 : ∀ (b : ByteArray) (i : Nat) (hb : i < b.size), b.get! i = b[i] := fun b i hb => getElem!_pos b.data i hb
 rw [a1 _ _ hz, a1 _ _ h, e]
theorem tokAt_shift (s : ByteArray) (k : Nat) (h : k < s.size) : (tokAt (s.extract k s.size) 0).kind = (tokAt s k).kind ∧ (tokAt (s.extract k s.size) 0).text = (tokAt s k).text := by
 have e1 : letB (s.extract k s.size) 0 = letB s k := by rw [letB, letB, inB_shift]; rfl
 have e2 : digB (s.extract k s.size) 0 = digB s k := by rw [digB, digB, inB_shift]; rfl
 have e3 : digB (s.extract k s.size) (0 + 1) = digB s (k + 1) := by rw [digB, digB, inB_shift]
 have e4 : twoB (s.extract k s.size) 0 = twoB s k := by
  unfold twoB
  by_cases h2 : k + 1 < s.size
  ·rw [cut_shift _ _ _ _ (by omega), extract_size _ _ _ (Nat.le_refl _), show decide (0 + 1 < s.size - k) = true by simp; omega, show decide (k + 1 < s.size) = true by simp; omega, Nat.add_zero, Nat.zero_add]
  ·rw [extract_size _ _ _ (Nat.le_refl _), show decide (0 + 1 < s.size - k) = false by simp; omega, show decide (k + 1 < s.size) = false by simp; omega, Bool.false_and, Bool.false_and]
 have e5 : signB (s.extract k s.size) 0 = signB s k := by unfold signB; rw [get_shift s k h]
 have e6 := wEnd_shift s k 801 0
 have e7 := wEnd_bd s 801 k (by omega)
 unfold tokAt
 rw [e1, e2, e3, e4, e5]
 have e8 : (s.extract k s.size).extract 0 (wEnd 801 (s.extract k s.size) 0) = s.extract k (wEnd 801 s k) := by
  rw [cut_shift _ _ _ _ (by rw [e6]; exact e7.2), e6]; rfl
 have e9 : (s.extract k s.size).extract 0 (0 + 1) = s.extract k (k + 1) := by rw [cut_shift _ _ _ _ (by omega)]; rfl
 split
 ·rw [e8]; exact ⟨rfl, rfl⟩
 ·split
  ·rw [e9]; exact ⟨rfl, rfl⟩
  ·split
   ·rename_i h4
    have : k + 1 < s.size := by unfold twoB at h4; simp at h4; exact h4.1
    rw [cut_shift _ _ _ _ (by omega)]; exact ⟨rfl, rfl⟩
   ·rw [e9]; exact ⟨rfl, rfl⟩

def lits : List (List UInt8) := [[115, 101, 116], [107, 105, 110, 100], [118, 97, 114], [98, 111, 111, 108], [116, 111], [114, 117, 108, 101], [105, 102], [101, 108, 115, 101], [110, 101, 118, 101, 114], [116, 114, 117, 101], [102, 97, 108, 115, 101], [110, 111, 110, 101],
 [40], [41], [91], [93], [123], [125], [58], [59], [44], [33], [38], [124], [43], [45], [60], [61], [61, 61], [33, 61]]
def signK (t : Tok) : Bool := (t.kind.toList == [115, 105, 103, 110]) || (t.kind.toList == [119, 111, 114, 100])
structure TokOk (t : Tok) : Prop where
 name : (letB t.text 0 && !resB t.text) = (t.kind.toList == [110, 97, 109, 101])
 digit : digB t.text 0 = (t.kind.toList == [100, 105, 103, 105, 116])
 lit : ∀ l ∈ lits, (t.text.toList == l) = (signK t && (t.text.toList == l))
 fin : (t.text.toList == []) = (t.kind.toList == [101, 110, 100])
 size : t.text.size ≤ 800
 word : letB t.text 0 = ((t.kind.toList == [119, 111, 114, 100]) || (t.kind.toList == [110, 97, 109, 101]))

theorem toList_dat (b : ByteArray) : b.toList = b.data.toList := ByteArray.toList_eq b
theorem toList_lit (l : List UInt8) : (ByteArray.mk l.toArray).toList = l := toList_dat _
theorem inB_head (lo hi : Int) (b : ByteArray) (h : 0 < b.size) : ∃ c r, b.toList = c :: r ∧ inB lo hi b 0 = (decide (lo ≤ (c.toNat : Int)) && decide ((c.toNat : Int) ≤ hi)) := by
 have hl : b.data.toList ≠ [] := fun e => by
  have : b.data.size = 0 := by rw [← Array.length_toList, e]; rfl
  exact absurd (show b.size = 0 from this) (by omega)
 obtain ⟨c, r, e⟩ := List.exists_cons_of_ne_nil hl
 refine ⟨c, r, by rw [toList_dat, e], ?_⟩
 unfold inB
 rw [dif_pos h]
 have : b[0] = c := by
  show b.data[0] = c
  rw [← Array.getElem_toList]
  simp [e]
 rw [this]
theorem resB_iff (b : ByteArray) : resB b = true ↔ b.toList ∈ wordsL.map ByteArray.toList := by
 unfold resB
 rw [List.any_eq_true]
 constructor
 ·rintro ⟨x, hx, e⟩
  rw [beq_iff_eq] at e
  rw [← e]; exact List.mem_map_of_mem hx
 ·intro h
  obtain ⟨x, hx, e⟩ := List.mem_map.mp h
  exact ⟨x, hx, by rw [beq_iff_eq]; exact e⟩
theorem endTok_ok (n : Nat) : TokOk (endTok n) := by
 have hk : (endTok n).kind.toList = [101, 110, 100] := toList_lit _
 have ht : (endTok n).text.toList = [] := toList_lit _
 have hz : (endTok n).text.size = 0 := rfl
 have hi : ∀ lo hi, inB lo hi (endTok n).text 0 = false := fun lo hi => by unfold inB; rw [dif_neg (by rw [hz]; omega)]
 refine ⟨?_, ?_, ?_, ?_, by rw [hz]; omega, by rw [letB, hi, hk]; rfl⟩
 ·rw [letB, hi, hk]; rfl
 ·rw [digB, hi, hk]; rfl
 ·intro l hl
  rw [ht]
  have : ([] == l) = false := by revert l; decide
  rw [this, Bool.and_false]
 ·rw [hk, ht]; rfl

theorem inB_cut (lo hi : Int) (s : ByteArray) (k e : Nat) (h1 : k < e) (h2 : e ≤ s.size) : inB lo hi (s.extract k e) 0 = inB lo hi s k := by
 unfold inB
 rw [dif_pos (show k < s.size by omega), dif_pos (show 0 < (s.extract k e).size by rw [extract_size _ _ _ h2]; omega), ByteArray.getElem_extract]
 rfl
theorem inB_apart {s : ByteArray} {k : Nat} (h : letB s k = true) : digB s k = false := by
 unfold letB digB inB at *
 by_cases hk : k < s.size
 ·rw [dif_pos hk] at h ⊢
  simp at h ⊢
  omega
 ·rw [dif_neg hk] at h; cases h
theorem lits_word : ∀ l ∈ lits, ∀ c r, l = c :: r → (decide (97 ≤ (c.toNat : Int)) && decide ((c.toNat : Int) ≤ 122)) = true → l ∈ wordsL.map ByteArray.toList := by
 have hw : wordsL.map ByteArray.toList = [[115, 101, 116], [107, 105, 110, 100], [118, 97, 114], [98, 111, 111, 108], [116, 111], [114, 117, 108, 101], [105, 102], [101, 108, 115, 101], [110, 101, 118, 101, 114], [116, 114, 117, 101], [102, 97, 108, 115, 101], [110, 111, 110, 101]] := by
  simp only [wordsL, List.map, toList_dat]
 rw [hw]
 intro l hl c r e
 subst e
 simp only [lits, List.mem_cons, List.cons.injEq, List.not_mem_nil, or_false] at hl
 rcases hl with h | h | h | h | h | h | h | h | h | h | h | h | h | h | h | h | h | h | h | h | h | h | h | h | h | h | h | h | h | h <;> (obtain ⟨rfl, rfl⟩ := h; decide)
theorem lits_digit : ∀ l ∈ lits, ∀ c r, l = c :: r → (decide (48 ≤ (c.toNat : Int)) && decide ((c.toNat : Int) ≤ 57)) = false := by
 intro l hl c r e
 subst e
 simp only [lits, List.mem_cons, List.cons.injEq, List.not_mem_nil, or_false] at hl
 rcases hl with h | h | h | h | h | h | h | h | h | h | h | h | h | h | h | h | h | h | h | h | h | h | h | h | h | h | h | h | h | h <;> (obtain ⟨rfl, rfl⟩ := h; decide)
theorem tokAt_ok (s : ByteArray) (k : Nat) (hk : k < s.size) (hs : s.size ≤ 800) (hne : (tokAt s k).kind.toList.isEmpty = false) : TokOk (tokAt s k) := by
 have htx := tokAt_text s k hk
 have kW : kWord.toList = [119, 111, 114, 100] := toList_dat _
 have kN : kName.toList = [110, 97, 109, 101] := toList_dat _
 have kD : kDigit.toList = [100, 105, 103, 105, 116] := toList_dat _
 have kS : kSign.toList = [115, 105, 103, 110] := toList_dat _
 have k0 : kNone.toList = [] := toList_dat _
 have hcut : ∀ lo hi, inB lo hi (tokAt s k).text 0 = inB lo hi s k := by
  intro lo hi
  have : (tokAt s k).text = s.extract k (k + (tokAt s k).text.size) := by
   unfold tokAt
   have e7 := wEnd_bd s 800 (k + 1) (by omega)
   split
   ·rename_i hl
    have h2 : wEnd 801 s k = wEnd 800 s (k + 1) := by rw [wEnd, if_pos hl]
    simp only
    rw [extract_size _ _ _ (by omega), show k + (wEnd 801 s k - k) = wEnd 801 s k by omega]
   ·split
    ·simp only; rw [extract_size _ _ _ (by omega), show k + (k + 1 - k) = k + 1 by omega]
    ·split
     ·rename_i h2
      have : k + 1 < s.size := by unfold twoB at h2; simp at h2; exact h2.1
      simp only; rw [extract_size _ _ _ (by omega), show k + (k + 2 - k) = k + 2 by omega]
     ·simp only; rw [extract_size _ _ _ (by omega), show k + (k + 1 - k) = k + 1 by omega]
  rw [this]
  exact inB_cut _ _ _ _ _ (by omega) htx.2
 have hsz : (tokAt s k).text.size ≤ 800 := by omega
 have hno : ((tokAt s k).text.toList == []) = false := by
  obtain ⟨c, r, e, _⟩ := inB_head 0 0 (tokAt s k).text (by omega)
  rw [e]; rfl
 by_cases hl : letB s k = true
 ·have hd := inB_apart hl
  have hl' : letB (tokAt s k).text 0 = true := by rw [letB, hcut]; exact hl
  have hd' : digB (tokAt s k).text 0 = false := by rw [digB, hcut]; exact hd
  have hkd : (tokAt s k).kind = if resB (tokAt s k).text then kWord else kName := by unfold tokAt; simp [hl]
  cases hr : resB (tokAt s k).text
  ·rw [hr] at hkd
   have hkd : (tokAt s k).kind.toList = [110, 97, 109, 101] := by rw [hkd]; exact kN
   refine ⟨by rw [hl', hr, hkd]; rfl, by rw [hd', hkd]; rfl, ?_, by rw [hno, hkd]; rfl, hsz, by rw [hl', hkd]; rfl⟩
   intro l hll
   have : ((tokAt s k).text.toList == l) = false := by
    cases he : ((tokAt s k).text.toList == l)
    ·rfl
    ·rw [beq_iff_eq] at he
     obtain ⟨c, r, e, h3⟩ := inB_head 97 122 (tokAt s k).text (by omega)
     have := lits_word l hll c r (by rw [← he]; exact e) (by rw [← h3]; exact hl')
     rw [← he] at this
     rw [(resB_iff _).mpr this] at hr
     cases hr
   rw [this, Bool.and_false]
  ·rw [hr] at hkd
   have hkd : (tokAt s k).kind.toList = [119, 111, 114, 100] := by rw [hkd]; exact kW
   refine ⟨by rw [hl', hr, hkd]; rfl, by rw [hd', hkd]; rfl, ?_, by rw [hno, hkd]; rfl, hsz, by rw [hl', hkd]; rfl⟩
   intro l hll
   rw [signK, hkd]
   simp
 ·have hl : letB s k = false := by simpa using hl
  have hl' : letB (tokAt s k).text 0 = false := by rw [letB, hcut]; exact hl
  by_cases hd : digB s k = true
  ·have hd' : digB (tokAt s k).text 0 = true := by rw [digB, hcut]; exact hd
   have hkd : (tokAt s k).kind = if digB s (k + 1) then kNone else kDigit := by unfold tokAt; simp [hl, hd]
   cases h2 : digB s (k + 1)
   ·rw [h2] at hkd
    have hkd : (tokAt s k).kind.toList = [100, 105, 103, 105, 116] := by rw [hkd]; exact kD
    refine ⟨by rw [hl', hkd]; rfl, by rw [hd', hkd]; rfl, ?_, by rw [hno, hkd]; rfl, hsz, by rw [hl', hkd]; rfl⟩
    intro l hll
    have : ((tokAt s k).text.toList == l) = false := by
     cases he : ((tokAt s k).text.toList == l)
     ·rfl
     ·rw [beq_iff_eq] at he
      obtain ⟨c, r, e, h3⟩ := inB_head 48 57 (tokAt s k).text (by omega)
      have := lits_digit l hll c r (by rw [← he]; exact e)
      rw [← h3] at this
      rw [digB] at hd'
      rw [hd'] at this; cases this
    rw [this, Bool.and_false]
   ·rw [h2] at hkd
    rw [hkd] at hne
    simp [k0] at hne
  ·have hd : digB s k = false := by simpa using hd
   have hd' : digB (tokAt s k).text 0 = false := by rw [digB, hcut]; exact hd
   have hkd : (tokAt s k).kind.toList = [115, 105, 103, 110] := by
    unfold tokAt at hne ⊢
    simp only [hl, hd] at hne ⊢
    simp only [Bool.false_eq_true, if_false] at hne ⊢
    split
    ·exact kS
    ·rename_i h4
     rw [if_neg h4] at hne
     simp only at hne ⊢
     split
     ·exact kS
     ·rename_i h5
      rw [if_neg h5] at hne
      simp [k0] at hne
   refine ⟨by rw [hl', hkd]; rfl, by rw [hd', hkd]; rfl, ?_, by rw [hno, hkd]; rfl, hsz, by rw [hl', hkd]; rfl⟩
   intro l hll
   rw [signK, hkd]
   simp

structure AccOk (acc : List Tok) (k : Nat) : Prop where
 ok : ∀ t ∈ acc, TokOk t ∧ (t.kind.toList == [101, 110, 100]) = false ∧ t.at_ < k
 inc : acc.Pairwise (fun a b => a.at_ < b.at_)
 len : acc.length ≤ k
theorem tokAt_at (s : ByteArray) (k : Nat) : (tokAt s k).at_ = k := by
 unfold tokAt; repeat (split; · rfl)
 rfl
theorem toksF_ok (s : ByteArray) (hs : s.size ≤ 800) : ∀ (f k : Nat) (acc : List Tok), k ≤ s.size → AccOk acc k → (toksF f s k acc).2 = none → ∃ acc', (toksF f s k acc).1 = acc' ++ [endTok s.size] ∧ AccOk acc' s.size
 | 0, k, acc, _, _, h => by simp [toksF] at h
 | f + 1, k, acc, hk, ha, h => by
  rw [toksF] at h ⊢
  by_cases h1 : k < s.size
  ·rw [if_pos h1] at h ⊢
   by_cases h2 : blankB s k = true
   ·rw [if_pos h2] at h ⊢
    exact toksF_ok s hs f (k + 1) acc h1 ⟨fun t ht => ⟨(ha.ok t ht).1, (ha.ok t ht).2.1, by have := (ha.ok t ht).2.2; omega⟩, ha.inc, by have := ha.len; omega⟩ h
   ·rw [if_neg h2] at h ⊢
    by_cases h3 : (tokAt s k).kind.toList.isEmpty = true
    ·rw [if_pos h3] at h; cases h
    ·rw [if_neg h3] at h ⊢
     have htx := tokAt_text s k h1
     have hok := tokAt_ok s k h1 hs (by simpa using h3)
     have hat := tokAt_at s k
     have hne : ((tokAt s k).kind.toList == [101, 110, 100]) = false := by
      rw [← hok.fin]
      obtain ⟨c, r, e, _⟩ := inB_head 0 0 (tokAt s k).text (by omega)
      rw [e]; rfl
     refine toksF_ok s hs f _ _ htx.2 ⟨?_, ?_, ?_⟩ h
     ·intro t ht
      rcases List.mem_append.mp ht with ht | ht
      ·exact ⟨(ha.ok t ht).1, (ha.ok t ht).2.1, by have := (ha.ok t ht).2.2; omega⟩
      ·rw [List.mem_singleton] at ht
       subst ht
       exact ⟨hok, hne, by omega⟩
     ·rw [List.pairwise_append]
      refine ⟨ha.inc, List.pairwise_singleton _ _, ?_⟩
      intro a ha' b hb
      rw [List.mem_singleton] at hb
      subst hb
      rw [hat]; exact (ha.ok a ha').2.2
     ·rw [List.length_append]; have := ha.len; simp; omega
  ·rw [if_neg h1] at h ⊢
   exact ⟨acc, rfl, ⟨fun t ht => ⟨(ha.ok t ht).1, (ha.ok t ht).2.1, by have := (ha.ok t ht).2.2; omega⟩, ha.inc, by have := ha.len; omega⟩⟩

structure ToksOk (L : List Tok) : Prop where
 len : L.length ≤ 801
 pos : 0 < L.length
 ok : ∀ i, i < L.length → TokOk (tk L i)
 mid : ∀ i, i + 1 < L.length → ((tk L i).kind.toList == [101, 110, 100]) = false
 last : ((tk L (L.length - 1)).kind.toList == [101, 110, 100]) = true
 inc : L.Pairwise (fun a b => a.at_ < b.at_)
 le : ∀ t ∈ L, t.at_ ≤ 800
theorem tk_mem {L : List Tok} {i : Nat} (h : i < L.length) : tk L i ∈ L := by
 unfold tk; rw [show L.getD i (endTok 0) = L[i] by simp [List.getD, h]]; exact List.getElem_mem h
theorem refToks_ok (s : ByteArray) (hs : s.size ≤ 800) (h : (refToks s).2 = none) : ToksOk (refToks s).1 := by
 obtain ⟨acc, e, ha⟩ := toksF_ok s hs 801 0 [] (Nat.zero_le _) ⟨fun t ht => by simp at ht, List.Pairwise.nil, by simp⟩ h
 have e' : (refToks s).1 = acc ++ [endTok s.size] := e
 rw [e']
 have kE : kEnd.toList = [101, 110, 100] := toList_dat _
 have hl := ha.len
 have tkl : ∀ i, i < acc.length → tk (acc ++ [endTok s.size]) i ∈ acc := by
  intro i hi
  have : tk (acc ++ [endTok s.size]) i = acc[i] := by
   unfold tk
   simp [List.getD, List.getElem?_append_left hi, hi]
  rw [this]; exact List.getElem_mem hi
 have tke : tk (acc ++ [endTok s.size]) acc.length = endTok s.size := by
  unfold tk
  simp [List.getD]
 refine ⟨by simp; omega, by simp, ?_, ?_, ?_, ?_, ?_⟩
 ·intro i hi
  simp at hi
  by_cases hh : i < acc.length
  ·exact (ha.ok _ (tkl i hh)).1
  ·have : i = acc.length := by omega
   subst this
   rw [tke]; exact endTok_ok _
 ·intro i hi
  simp at hi
  exact (ha.ok _ (tkl i hi)).2.1
 ·simp only [List.length_append, List.length_singleton, Nat.add_sub_cancel]
  rw [tke]
  show (kEnd.toList == _) = true
  rw [kE]; rfl
 ·rw [List.pairwise_append]
  refine ⟨ha.inc, List.pairwise_singleton _ _, ?_⟩
  intro a h1 b hb
  rw [List.mem_singleton] at hb
  subst hb
  exact (ha.ok a h1).2.2
 ·intro t ht
  rcases List.mem_append.mp ht with ht | ht
  ·have := (ha.ok t ht).2.2; omega
  ·rw [List.mem_singleton] at ht; subst ht; exact hs

end Go.Proofs.YtpmcnonmkghokaaGreatDoor
namespace Go.Proofs.YtpmcnonmkghokaaGreatDoor
open Go.RowKit
set_option maxHeartbeats 400000 in
theorem isBlank_any (b : Int) (w : World) : Calls Tryz.prog 86 #[.int .u8 b] w fun e w' => e = .returned (.bool ((b == 32) || (b == 10))) ∧ w' = w := by
 cases h : (b == 32)
 all_goals
  go_enter Tryz.func86, Tryz.ntmps86
  go_wp2
  go_ret
  exact ⟨ret_bool (by simp), rfl⟩
set_option maxHeartbeats 400000 in
theorem isLetter_any (b : Int) (w : World) : Calls Tryz.prog 142 #[.int .u8 b] w fun e w' => e = .returned (.bool (decide (97 ≤ b) && decide (b ≤ 122))) ∧ w' = w := by
 by_cases h : 97 ≤ b
 all_goals
  go_enter Tryz.func142, Tryz.ntmps142
  go_wp2
  go_ret
  exact ⟨ret_bool (by first | (simp [h]; done) | (simp; omega)), rfl⟩
set_option maxHeartbeats 400000 in
theorem isDigit_any (b : Int) (w : World) : Calls Tryz.prog 144 #[.int .u8 b] w fun e w' => e = .returned (.bool (decide (48 ≤ b) && decide (b ≤ 57))) ∧ w' = w := by
 by_cases h : 48 ≤ b
 all_goals
  go_enter Tryz.func144, Tryz.ntmps144
  go_wp2
  go_ret
  exact ⟨ret_bool (by first | (simp [h]; done) | (simp; omega)), rfl⟩
theorem inB_at {lo hi : Int} {s : ByteArray} {i : Nat} (h : i < s.size) : (decide (lo ≤ ((s[i]).toNat : Int)) && decide (((s[i]).toNat : Int) ≤ hi)) = inB lo hi s i := by simp [inB, h]

set_option maxHeartbeats 1000000 in
theorem wordLength_any (s : ByteArray) (w : World) (hs : s.size ≤ 800) :
  Calls Tryz.prog 143 #[.string s] w fun e w' => e = .returned (.int .i64 (wEnd 801 s 0)) ∧ w' = w := by
 go_enter Tryz.func143, Tryz.ntmps143
 go_wp2
 go_loop [3] (fun i => ∃ k : Nat, k ≤ s.size ∧ i = .int .i64 k ∧ ∀ j, 0 ≤ j → j < k → letB s j = true) (fun i => s.size - (intOf i).toNat)
 case atStart => exact ⟨0, Nat.zero_le _, rfl, fun j _ h => by omega⟩
 case round =>
  obtain ⟨k, hk, rfl, hall⟩ := hrel
  have HA := hide hall
  clear hall
  by_cases hlt : k < s.size
  ·cases hl : letB s k
   ·have HE := hide (wEnd_of hl 801 0 (Nat.zero_le _) (by omega) (unhide HA))
    go_wp2_with fail
    refine (isLetter_any _ _).mono ?_
    rintro e w' ⟨rfl, rfl⟩
    rw [inB_at hlt, show inB 97 122 s k = false from hl]
    go_wp2
    go_ret
    rw [unhide HE]
    exact ⟨rfl, rfl⟩
   ·go_wp2_with fail
    refine (isLetter_any _ _).mono ?_
    rintro e w' ⟨rfl, rfl⟩
    rw [inB_at hlt, show inB 97 122 s k = true from hl]
    go_wp2
    go_round
    case rel => exact ⟨k + 1, by omega, by go_num, fun j h1 h2 => if e : j = k then e ▸ hl else (unhide HA) j h1 (by omega)⟩
    case measure => simp [intOf]; omega
  ·have hl : letB s k = false := by
    cases h : letB s k
    ·rfl
    ·exact absurd (letB_lt h) hlt
   have HE := hide (wEnd_of hl 801 0 (Nat.zero_le _) (by omega) (unhide HA))
   go_wp2
   go_ret
   rw [unhide HE]
   exact ⟨rfl, rfl⟩

set_option maxHeartbeats 1000000 in
theorem hasPrefix_any (s p : ByteArray) (w : World) :
  Calls Tryz.prog 145 #[.string s, .string p] w fun e w' => e = .returned (.bool (decide (p.size ≤ s.size) && ((s.extract 0 p.size).toList == p.toList))) ∧ w' = w := by
 have inner : Calls Tryz.prog 199 #[.string s, .string p] w fun e w' => e = .returned (.bool (decide (p.size ≤ s.size) && ((s.extract 0 p.size).toList == p.toList))) ∧ w' = w := by
  by_cases h : p.size ≤ s.size
  ·go_enter Tryz.func199, Tryz.ntmps199
   go_wp2
   go_ret
   exact ⟨ret_bool (by simp [h]), rfl⟩
  ·go_enter Tryz.func199, Tryz.ntmps199
   go_wp2
   go_ret
   exact ⟨ret_bool (by simp [h]), rfl⟩
 go_enter Tryz.func145, Tryz.ntmps145
 go_wp2_with fail
 refine inner.mono ?_
 rintro e w' ⟨rfl, rfl⟩
 go_wp2
 go_ret
 exact ⟨rfl, rfl⟩

set_option maxHeartbeats 1000000 in
set_option maxRecDepth 100000 in
theorem indexByte_any (s : ByteArray) (c : Int) (w : World) :
  Calls Tryz.prog 146 #[.string s, .int .u8 c] w fun e w' => e = .returned (.int .i64 (Lib.indexByte s.data.toList c.toNat.toUInt8)) ∧ w' = w := by
 have inner : Calls Tryz.prog 200 #[.string s, .int .u8 c] w fun e w' => e = .returned (.int .i64 (Lib.indexByte s.data.toList c.toNat.toUInt8)) ∧ w' = w := by
  go_enter Tryz.func200, Tryz.ntmps200
  go_wp2
  rw [run_callFunc_extern Tryz.func237 (by kernel_rfl) (by kernel_rfl) (by kernel_rfl) (e := Extern.BytealgIndexByte.indexByte) (by kernel_rfl), Lib.run_indexByteString]
  simp only [Result.andThen]
  rw [Oper.upon_value]
  go_wp2
  go_ret
  exact ⟨rfl, rfl⟩
 go_enter Tryz.func146, Tryz.ntmps146
 go_wp2_with fail
 refine inner.mono ?_
 rintro e w' ⟨rfl, rfl⟩
 go_wp2
 go_ret
 exact ⟨rfl, rfl⟩

theorem indexByte_has (c : UInt8) : ∀ l : List UInt8, (0 ≤ Lib.indexByte l c ↔ l.any (fun b => b.toNat == c.toNat) = true)
 | [] => by simp [Lib.indexByte]
 | b :: l => by
  have ih := indexByte_has c l
  have hg := Lib.indexByte_ge l c
  rw [Lib.indexByte, List.any_cons]
  cases h : (b == c)
  ·have hn : (b.toNat == c.toNat) = false := by
    cases hh : (b.toNat == c.toNat)
    ·rfl
    ·rw [beq_iff_eq] at hh
     have : b = c := UInt8.toNat_inj.mp hh
     subst this; simp at h
   rw [hn, Bool.false_or, ← ih]
   simp only [Bool.false_eq_true, if_false]
   by_cases h1 : Lib.indexByte l c = -1
   ·simp [h1]
   ·have : (Lib.indexByte l c == -1) = false := by simpa using h1
    rw [this]; simp only [Bool.false_eq_true, if_false]; omega
  ·rw [beq_iff_eq] at h
   subst h; simp
theorem sign_iff (s : ByteArray) (h : 0 < s.size) : decide ((0 : Int) ≤ Lib.indexByte signsA.data.toList (((s[0]).toNat : Int).toNat.toUInt8)) = signB s 0 := by
 have a1 : s.get! 0 = s[0] := getElem!_pos s.data 0 h
 have e : (((s[0]).toNat : Int).toNat.toUInt8) = s[0] := by
  rw [Int.toNat_natCast]; simp
 rw [e]
 unfold signB
 rw [a1, toList_dat]
 have i := indexByte_has (s[0]) signsA.data.toList
 cases hh : signsA.data.toList.any (fun c => c.toNat == (s[0]).toNat)
 ·rw [hh] at i
  rw [decide_eq_false_iff_not]
  intro hc
  have := i.mp hc
  cases this
 ·rw [decide_eq_true_iff]; exact i.mpr hh

def tLen (t : Tok) : Nat := if t.kind.toList.isEmpty then 0 else t.text.size

theorem tLen_word {s : ByteArray} (hl : letB s 0 = true) : tLen (tokAt s 0) = wEnd 801 s 0 := by
 have hb := wEnd_bd s 801 0 (Nat.zero_le _)
 have hk : (tokAt s 0).kind.toList.isEmpty = false := by
  unfold tokAt; rw [if_pos hl]
  simp only
  split
  ·rw [show kWord.toList = [119, 111, 114, 100] from toList_lit _]; rfl
  ·rw [show kName.toList = [110, 97, 109, 101] from toList_lit _]; rfl
 unfold tLen
 rw [hk]
 unfold tokAt; rw [if_pos hl]
 simp only [Bool.false_eq_true, if_false]
 rw [extract_size _ _ _ hb.2]; omega
theorem tLen_digit {s : ByteArray} (hs : 0 < s.size) (hl : letB s 0 = false) (hd : digB s 0 = true) : tLen (tokAt s 0) = if digB s 1 then 0 else 1 := by
 unfold tLen tokAt
 simp only [hl, hd, Bool.false_eq_true, if_false, if_true, Nat.zero_add]
 cases h : digB s 1
 ·simp only [Bool.false_eq_true, if_false]
  rw [show kDigit.toList = [100, 105, 103, 105, 116] from toList_lit _, extract_size _ _ _ (by omega)]; rfl
 ·simp only [if_true]
  rw [show kNone.toList = [] from toList_lit _]; rfl
theorem tLen_two {s : ByteArray} (hl : letB s 0 = false) (hd : digB s 0 = false) (h2 : twoB s 0 = true) : tLen (tokAt s 0) = 2 := by
 have : 0 + 1 < s.size := by unfold twoB at h2; simp at h2; omega
 unfold tLen tokAt
 simp only [hl, hd, h2, Bool.false_eq_true, if_false, if_true]
 rw [show kSign.toList = [115, 105, 103, 110] from toList_lit _, extract_size _ _ _ (by omega)]; rfl
theorem tLen_one {s : ByteArray} (hs : 0 < s.size) (hl : letB s 0 = false) (hd : digB s 0 = false) (h2 : twoB s 0 = false) : tLen (tokAt s 0) = if signB s 0 then 1 else 0 := by
 unfold tLen tokAt
 simp only [hl, hd, h2, Bool.false_eq_true, if_false]
 cases h : signB s 0
 ·simp only [Bool.false_eq_true, if_false]
  rw [show kNone.toList = [] from toList_lit _]; rfl
 ·simp only [if_true]
  rw [show kSign.toList = [115, 105, 103, 110] from toList_lit _, extract_size _ _ _ (by omega)]; rfl
theorem two_iff (s : ByteArray) : twoB s 0 = ((decide (2 ≤ s.size) && ((s.extract 0 2).toList == [61, 61])) || (decide (2 ≤ s.size) && ((s.extract 0 2).toList == [33, 61]))) := by
 unfold twoB
 simp only [Nat.zero_add]
 by_cases h : 2 ≤ s.size
 ·have h1 : 1 < s.size := by omega
  simp [h, h1]
 ·have h1 : ¬ 1 < s.size := by omega
  simp [h, h1]

theorem prefix_lit (s : ByteArray) (a b : UInt8) (w : World) :
  Calls Tryz.prog 145 #[.string s, .string ⟨#[a, b]⟩] w fun e w' => e = .returned (.bool (decide (2 ≤ s.size) && ((s.extract 0 2).toList == [a, b]))) ∧ w' = w := by
 have h := hasPrefix_any s ⟨#[a, b]⟩ w
 rw [show (⟨#[a, b]⟩ : ByteArray).toList = [a, b] from toList_lit _] at h
 exact h

set_option maxHeartbeats 1000000 in
theorem tokenLength_any (s : ByteArray) (w : World) (h0 : 0 < s.size) (hs : s.size ≤ 800) :
  Calls Tryz.prog 87 #[.string s] w fun e w' => e = .returned (.int .i64 (tLen (tokAt s 0))) ∧ w' = w := by
 cases hl : letB s 0
 ·cases hd : digB s 0
  ·cases h2 : twoB s 0
   ·have HT := hide (tLen_one h0 hl hd h2)
    rw [two_iff, Bool.or_eq_false_iff] at h2
    go_enter Tryz.func87, Tryz.ntmps87
    go_wp2_with fail
    refine (isLetter_any _ _).mono ?_
    rintro e w' ⟨rfl, rfl⟩
    rw [inB_at h0, show inB 97 122 s 0 = false from hl]
    go_wp2_with fail
    refine (isDigit_any _ _).mono ?_
    rintro e w' ⟨rfl, rfl⟩
    rw [inB_at h0, show inB 48 57 s 0 = false from hd]
    go_wp2_with fail
    refine (prefix_lit s 61 61 _).mono ?_
    rintro e w' ⟨rfl, rfl⟩
    rw [h2.1]
    go_wp2_with fail
    refine (prefix_lit s 33 61 _).mono ?_
    rintro e w' ⟨rfl, rfl⟩
    rw [h2.2]
    go_wp2_with fail
    refine (indexByte_any _ _ _).mono ?_
    rintro e w' ⟨rfl, rfl⟩
    have hsi := sign_iff s h0
    unfold signsA at hsi
    generalize Lib.indexByte _ _ = z at hsi ⊢
    cases hsg : signB s 0
    ·rw [hsg] at HT hsi
     have hz : ¬ 0 ≤ z := by simpa using hsi
     go_wp2
     go_ret
     rw [unhide HT]; exact ⟨rfl, rfl⟩
    ·rw [hsg] at HT hsi
     have hz : 0 ≤ z := by simpa using hsi
     go_wp2
     go_ret
     rw [unhide HT]; exact ⟨rfl, rfl⟩
   ·have HT := hide (tLen_two hl hd h2)
    rw [two_iff] at h2
    go_enter Tryz.func87, Tryz.ntmps87
    go_wp2_with fail
    refine (isLetter_any _ _).mono ?_
    rintro e w' ⟨rfl, rfl⟩
    rw [inB_at h0, show inB 97 122 s 0 = false from hl]
    go_wp2_with fail
    refine (isDigit_any _ _).mono ?_
    rintro e w' ⟨rfl, rfl⟩
    rw [inB_at h0, show inB 48 57 s 0 = false from hd]
    go_wp2_with fail
    refine (prefix_lit s 61 61 _).mono ?_
    rintro e w' ⟨rfl, rfl⟩
    cases hp : (decide (2 ≤ s.size) && ((s.extract 0 2).toList == [61, 61]))
    ·rw [hp, Bool.false_or] at h2
     go_wp2_with fail
     refine (prefix_lit s 33 61 _).mono ?_
     rintro e w' ⟨rfl, rfl⟩
     rw [h2]
     go_wp2
     go_ret
     rw [unhide HT]; exact ⟨rfl, rfl⟩
    ·clear h2
     go_wp2
     go_ret
     rw [unhide HT]; exact ⟨rfl, rfl⟩
  ·have HT := hide (tLen_digit h0 hl hd)
   go_enter Tryz.func87, Tryz.ntmps87
   go_wp2_with fail
   refine (isLetter_any _ _).mono ?_
   rintro e w' ⟨rfl, rfl⟩
   rw [inB_at h0, show inB 97 122 s 0 = false from hl]
   go_wp2_with fail
   refine (isDigit_any _ _).mono ?_
   rintro e w' ⟨rfl, rfl⟩
   rw [inB_at h0, show inB 48 57 s 0 = true from hd]
   by_cases h1 : 1 < s.size
   ·go_wp2_with fail
    refine (isDigit_any _ _).mono ?_
    rintro e w' ⟨rfl, rfl⟩
    rw [inB_at h1]
    cases hd1 : digB s 1
    ·rw [hd1] at HT
     rw [show inB 48 57 s 1 = false from hd1]
     go_wp2
     go_ret
     rw [unhide HT]; exact ⟨rfl, rfl⟩
    ·rw [hd1] at HT
     rw [show inB 48 57 s 1 = true from hd1]
     go_wp2
     go_ret
     rw [unhide HT]; exact ⟨rfl, rfl⟩
   ·have hd1 : digB s 1 = false := inB_no h1
    rw [hd1] at HT
    go_wp2
    go_ret
    rw [unhide HT]; exact ⟨rfl, rfl⟩
 ·have HT := hide (tLen_word hl)
  go_enter Tryz.func87, Tryz.ntmps87
  go_wp2_with fail
  refine (isLetter_any _ _).mono ?_
  rintro e w' ⟨rfl, rfl⟩
  rw [inB_at h0, show inB 97 122 s 0 = true from hl]
  go_wp2_with fail
  refine (wordLength_any s _ hs).mono ?_
  rintro e w' ⟨rfl, rfl⟩
  go_wp2
  go_ret
  rw [unhide HT]; exact ⟨rfl, rfl⟩

end Go.Proofs.YtpmcnonmkghokaaGreatDoor
namespace Go.Proofs.YtpmcnonmkghokaaGreatDoor
open Go.RowKit
def ptCells (t : Tok) : List Value := [.string t.text, .int .i64 t.at_]
def ptV (t : Tok) : Value := .agg #[.string t.text, .int .i64 t.at_]
def ptsCells (l : List Tok) : List Value := l.flatMap ptCells
theorem ptsCells_snoc (l : List Tok) (t : Tok) : ptsCells (l ++ [t]) = ptsCells l ++ ptCells t := by simp [ptsCells]
theorem ptCells_one (t : Tok) : ∀ u ∈ ptCells t, u.oneCell' = true := by
 intro u h
 simp only [ptCells, List.mem_cons, List.not_mem_nil, or_false] at h
 rcases h with rfl | rfl <;> rfl
theorem Tryz.infoToken : (Tryz.prog.info? 194).map (fun i => (i.zero, i.size, i.bytes)) = some (some (.agg #[.string ⟨#[]⟩, .int .i64 0]), 2, 24) := by kernel_rfl

def ScanRel (s : ByteArray) (w : World) (v i : Value) (wr : World) : Prop :=
 ∃ (k f : Nat) (acc : List Tok), k ≤ s.size ∧ i = .int .i64 k ∧ acc.length ≤ k ∧ s.size - k < f ∧ toksF f s k acc = refToks s ∧
  wr.ownsRow w.heap.size 194 2 v acc.length (ptsCells acc) ∧ Below w.heap.size w wr

def ScanPost (s : ByteArray) (w : World) (e : Ending) (w' : World) : Prop :=
 Below w.heap.size w w' ∧ (((refToks s).2 = none ∧ ∃ v, e = .returned (.tuple #[v, .int .i64 0, .bool true]) ∧ w'.ownsRow w.heap.size 194 2 v (refToks s).1.length (ptsCells (refToks s).1)) ∨
  ∃ k : Nat, (refToks s).2 = some k ∧ e = .returned (.tuple #[.slice none 0 0, .int .i64 k, .bool false]))

theorem tLen_of {t : Tok} (h : t.kind.toList.isEmpty = false) : tLen t = t.text.size := by unfold tLen; rw [h]; rfl
theorem tLen_no {t : Tok} (h : t.kind.toList.isEmpty = true) : tLen t = 0 := by unfold tLen; rw [h]; rfl
theorem blank_byte {s : ByteArray} {k : Nat} (h : k < s.size) : ((((s[k]).toNat : Int) == 32) || (((s[k]).toNat : Int) == 10)) = blankB s k := by simp [blankB, h]

theorem scanRel_blank {f : Nat} {s : ByteArray} {k : Nat} {acc : List Tok} {w wr : World} {v : Value} (hb : blankB s k = true) (hk : k < s.size) (hf : toksF f s k acc = refToks s) (hfu : s.size - k < f) (hac : acc.length ≤ k)
  (hown : wr.ownsRow w.heap.size 194 2 v acc.length (ptsCells acc)) (hbel : Below w.heap.size w wr) : ScanRel s w v (.int .i64 ((k : Int) + 1)) wr := by
 obtain ⟨f, rfl⟩ : ∃ g, f = g + 1 := ⟨f - 1, by omega⟩
 rw [toksF_blank hb hk] at hf
 exact ⟨k + 1, f, acc, by omega, by go_num, by omega, by omega, hf, hown, hbel⟩

theorem tokAt_cut (s : ByteArray) (k : Nat) (hk : k < s.size) : s.extract k (k + (tokAt s k).text.size) = (tokAt s k).text := by
 unfold tokAt
 have e7 := wEnd_bd s 800 (k + 1) (by omega)
 split
 ·rename_i hl
  have h2 : wEnd 801 s k = wEnd 800 s (k + 1) := by rw [wEnd, if_pos hl]
  simp only
  rw [extract_size _ _ _ (by omega), show k + (wEnd 801 s k - k) = wEnd 801 s k by omega]
 ·split
  ·simp only; rw [extract_size _ _ _ (by omega), show k + (k + 1 - k) = k + 1 by omega]
  ·split
   ·rename_i h2
    have : k + 1 < s.size := by unfold twoB at h2; simp at h2; exact h2.1
    simp only; rw [extract_size _ _ _ (by omega), show k + (k + 2 - k) = k + 2 by omega]
   ·simp only; rw [extract_size _ _ _ (by omega), show k + (k + 1 - k) = k + 1 by omega]

set_option maxRecDepth 100000 in
set_option maxHeartbeats 1000000 in
theorem scan_any (s : ByteArray) (w : World) (hs : s.size ≤ 800) :
  Calls Tryz.prog 51 #[.string s] w fun e w' => ScanPost s w e w' := by
 obtain ⟨i0, hi, hz0, hz1, hz2⟩ := info_parts Tryz.infoToken
 go_enter Tryz.func51, Tryz.ntmps51
 go_wp2
 go_loopw [2, 5, 6] (fun v i _ wr => ScanRel s w v i wr) (fun _ i _ _ => s.size - (intOf i).toNat)
 case atStart => exact ⟨0, 801, [], by omega, rfl, by simp, by omega, rfl, World.ownsRow_nil _ _ _ _, Below.refl _ _⟩
 case round =>
  obtain ⟨k, f, acc, hk, rfl, hac, hf, hfe, hown, hbel⟩ := hrel
  have HF := hide hfe
  have HO := hide hown
  have HB := hide hbel
  have hsz := hbel.size
  clear hfe hown hbel
  by_cases hlt : k < s.size
  ·cases hbl : blankB s k
   ·go_wp2_with fail
    refine (isBlank_any _ _).mono ?_
    rintro e w' ⟨rfl, rfl⟩
    rw [blank_byte hlt, hbl]
    go_wp2_with fail
    have hsh := tokAt_shift s k hlt
    have htl : tLen (tokAt (s.extract k s.size) 0) = tLen (tokAt s k) := by unfold tLen; rw [hsh.1, hsh.2]
    refine (tokenLength_any (s.extract k s.size) _ (by rw [extract_size _ _ _ (Nat.le_refl _)]; omega) (by rw [extract_size _ _ _ (Nat.le_refl _)]; omega)).mono ?_
    rintro e w' ⟨rfl, rfl⟩
    rw [htl]
    have htx := tokAt_text s k hlt
    have hcut := tokAt_cut s k hlt
    have HF1 := hide (toksF_step hbl hlt (unhide HF))
    have hat := tokAt_at s k
    clear hsh htl HF
    generalize tokAt s k = t at htx HF1 hcut hat ⊢
    cases hem : t.kind.toList.isEmpty
    ·rw [tLen_of hem]
     have hne : ¬ ((t.text.size : Int) = 0) := by omega
     have hcut' : s.extract k (k + t.text.size) = t.text := hcut
     have hadd : ((k : Int) + (t.text.size : Int)).toNat = k + t.text.size := by omega
     go_wp2_with (at_builtin; refine wpList_append_own _ rfl _ _ 89 rfl w.heap.size 194 i0 _ 2 24 Tryz.underlying89 hi hz0 hz1 hz2 rfl (by decide) _ _ _ rfl ((unhide HO).alloc _) ⟨w'.heap.size, 0, none⟩ 1 1 (ptCells t) rfl rfl ?c1 ?c2 ?c3 ?c4 ?c5 ?_)
     case c1 =>
      intro j u hu
      have := cells_new w' _ (ptCells t) 194 rfl j u hu
      simp only [ptCells] at this
      rw [hat] at this
      exact this
     case c2 => exact ptCells_one t
     case c3 => unfold maxLen; omega
     case c4 => omega
     case c5 => simp; omega
     intro v' w2 hown' hgrow _
     have hb2 : Below w.heap.size w w2 := ((unhide HB).alloc (by omega) _).grown hgrow (by simp; omega) (own_ge (unhide HO))
     have HO2 := hide hown'
     have HB2 := hide hb2
     clear hown' hgrow hb2
     have R : ScanRel s w v' (.int .i64 ((k : Int) + t.text.size)) w2 :=
      ⟨k + t.text.size, f - 1, acc ++ [t], by omega, by go_num, by simp; omega, by omega, ((unhide HF1) (f - 1) (by omega)).2 hem, by rw [ptsCells_snoc, List.length_append]; exact unhide HO2, unhide HB2⟩
     have HR := hide R
     clear R
     go_wp2
     go_roundw
     case rel => exact unhide HR
     case measure => simp [intOf]; omega
    ·rw [tLen_no hem]
     go_wp2
     go_ret3
     exact ⟨unhide HB, Or.inr ⟨k, by rw [((unhide HF1) (f - 1) (by omega)).1 hem], rfl⟩⟩
   ·have HR := hide (scanRel_blank hbl hlt (unhide HF) hf hac (unhide HO) (unhide HB))
    go_wp2_with fail
    refine (isBlank_any _ _).mono ?_
    rintro e w' ⟨rfl, rfl⟩
    rw [blank_byte hlt, hbl]
    go_wp2
    go_roundw
    case rel => exact unhide HR
    case measure => simp [intOf]; omega
  ·go_wp2_with (at_builtin; refine wpList_append_own _ rfl _ _ 89 rfl w.heap.size 194 i0 _ 2 24 Tryz.underlying89 hi hz0 hz1 hz2 rfl (by decide) _ _ _ rfl ((unhide HO).alloc _) ⟨wr.heap.size, 0, none⟩ 1 1 (ptCells (endTok s.size)) rfl rfl ?d1 ?d2 ?d3 ?d4 ?d5 ?_)
   case d1 => exact cells_new wr _ (ptCells (endTok s.size)) _ rfl
   case d2 => exact ptCells_one _
   case d3 => unfold maxLen; omega
   case d4 => omega
   case d5 => simp; omega
   intro v' w2 hown' hgrow _
   have hb2 : Below w.heap.size w w2 := ((unhide HB).alloc (by omega) _).grown hgrow (by simp; omega) (own_ge (unhide HO))
   obtain ⟨f, rfl⟩ : ∃ g, f = g + 1 := ⟨f - 1, by omega⟩
   have hfe := unhide HF
   rw [toksF, if_neg hlt] at hfe
   have HE := hide hfe
   have HO2 := hide hown'
   have HB2 := hide hb2
   clear hown' hgrow hfe hb2 HF HO HB
   go_wp2
   go_ret3
   refine ⟨unhide HB2, Or.inl ⟨by rw [← unhide HE], _, rfl, ?_⟩⟩
   have := unhide HO2
   rw [← unhide HE, ptsCells_snoc, List.length_append]
   exact this

end Go.Proofs.YtpmcnonmkghokaaGreatDoor
namespace Go.Proofs.YtpmcnonmkghokaaGreatDoor
open Go.RowKit
def noTok : Tok := { kind := ⟨#[]⟩, text := ⟨#[]⟩, at_ := 0 }
def rKindOk (L : List Tok) (k : List UInt8) (st : RS) : Bool := !st.bad && ((tk L st.at_).kind.toList == k)
def rKind (L : List Tok) (k : List UInt8) (st : RS) : Tok × RS :=
 if rKindOk L k st then (tk L st.at_, { st with at_ := st.at_ + 1 }) else (noTok, { st with bad := true })

structure ELab where
 op : ByteArray
 name : Tok
 index : Tok
 n : Int
abbrev PX := Go.Deep.BT ELab

def sPlace : ByteArray := ⟨#[112, 108, 97, 99, 101]⟩
def rPlace (L : List Tok) (st : RS) : PX × RS :=
 let k := rKind L [110, 97, 109, 101] st
 if rNext L [91] k.2 then
  let i := rKind L [110, 97, 109, 101] (rMust L [91] k.2)
  (.node 0 0 { op := sPlace, name := k.1, index := i.1, n := 0 } .nil .nil, rMust L [93] i.2)
 else (.node 0 0 { op := sPlace, name := k.1, index := noTok, n := 0 } .nil .nil, k.2)

end Go.Proofs.YtpmcnonmkghokaaGreatDoor
namespace Go.Proofs.YtpmcnonmkghokaaGreatDoor
open Go.RowKit
def emptyX : PX := .node 0 0 { op := ⟨#[]⟩, name := noTok, index := noTok, n := 0 } .nil .nil
def opX (o : ByteArray) (a b : PX) : PX := .node 0 0 { op := o, name := noTok, index := noTok, n := 0 } a b
def digX (n : Int) : PX := .node 0 0 { op := kDigit, name := noTok, index := noTok, n := n } .nil .nil
def digV (t : ByteArray) : Int := if h : 0 < t.size then ((t[0]).toNat : Int) - 48 else 0

def binSigns : Nat → List ByteArray
 | 0 => [⟨#[124]⟩]
 | 1 => [⟨#[38]⟩]
 | 2 => [⟨#[61, 61]⟩, ⟨#[33, 61]⟩, ⟨#[60]⟩]
 | _ => [⟨#[43]⟩, ⟨#[45]⟩]
def isBin (n : Nat) (t : Tok) : Bool := (binSigns n).any (fun s => s.toList == t.text.toList) && (t.kind.toList == [115, 105, 103, 110])
def isConst (t : Tok) : Bool := (t.kind.toList == [119, 111, 114, 100]) && ((t.text.toList == [116, 114, 117, 101]) || (t.text.toList == [102, 97, 108, 115, 101]) || (t.text.toList == [110, 111, 110, 101]))
def isDig (t : Tok) : Bool := t.kind.toList == [100, 105, 103, 105, 116]
def sBang : ByteArray := ⟨#[33]⟩

def rX : Nat → Nat → PX → List Tok → RS → PX × RS
 | 0, _, x, _, st => (x, st)
 | f + 1, tag, x, L, st =>
  if tag < 4 then
   if st.bad then (emptyX, st)
   else rX f (10 + tag) (rX f (tag + 1) .nil L st).1 L (rX f (tag + 1) .nil L st).2
  else if tag < 10 then
   if st.bad then (emptyX, st) else rX f 20 .nil L st
  else if tag < 20 then
   if st.bad then (x, st)
   else if isBin (tag - 10) (tk L st.at_) then
    if tag = 12 then (opX (tk L st.at_).text x (rX f (tag - 9) .nil L { st with at_ := st.at_ + 1 }).1, (rX f (tag - 9) .nil L { st with at_ := st.at_ + 1 }).2)
    else rX f tag (opX (tk L st.at_).text x (rX f (tag - 9) .nil L { st with at_ := st.at_ + 1 }).1) L (rX f (tag - 9) .nil L { st with at_ := st.at_ + 1 }).2
   else (x, st)
  else
   if st.bad then (emptyX, st)
   else if rNext L [33] st then
    if tag = 32 then (emptyX, { st with bad := true })
    else (opX sBang (rX f (tag + 1) .nil L (rMust L [33] st)).1 .nil, (rX f (tag + 1) .nil L (rMust L [33] st)).2)
   else if rNext L [40] st then ((rX f 0 .nil L (rMust L [40] st)).1, rMust L [41] (rX f 0 .nil L (rMust L [40] st)).2)
   else if isConst (tk L st.at_) then (opX (tk L st.at_).text .nil .nil, { st with at_ := st.at_ + 1 })
   else if isDig (tk L st.at_) then (digX (digV (tk L st.at_).text), { st with at_ := st.at_ + 1 })
   else rPlace L st

theorem rMust_mono (L : List Tok) (s : List UInt8) (st : RS) : st.at_ ≤ (rMust L s st).at_ := by
 unfold rMust; split
 ·exact Nat.le_refl _
 ·simp
theorem rKind_mono (L : List Tok) (s : List UInt8) (st : RS) : st.at_ ≤ (rKind L s st).2.at_ := by
 unfold rKind; split <;> simp
theorem rPlace_mono (L : List Tok) (st : RS) : st.at_ ≤ (rPlace L st).2.at_ := by
 unfold rPlace
 simp only
 have h1 := rKind_mono L [110, 97, 109, 101] st
 split
 ·have h2 := rMust_mono L [91] (rKind L [110, 97, 109, 101] st).2
  have h3 := rKind_mono L [110, 97, 109, 101] (rMust L [91] (rKind L [110, 97, 109, 101] st).2)
  have h4 := rMust_mono L [93] (rKind L [110, 97, 109, 101] (rMust L [91] (rKind L [110, 97, 109, 101] st).2)).2
  exact Nat.le_trans h1 (Nat.le_trans h2 (Nat.le_trans h3 h4))
 ·exact h1

theorem rX_mono : ∀ (f tag : Nat) (x : PX) (L : List Tok) (st : RS), st.at_ ≤ (rX f tag x L st).2.at_
 | 0, _, _, _, _ => Nat.le_refl _
 | f + 1, tag, x, L, st => by
  have ih := rX_mono f
  rw [rX]
  split
  ·split
   ·exact Nat.le_refl _
   ·exact Nat.le_trans (ih _ _ _ _) (ih _ _ _ _)
  ·split
   ·split
    ·exact Nat.le_refl _
    ·exact ih _ _ _ _
   ·split
    ·split
     ·exact Nat.le_refl _
     ·split
      ·have h1 := ih (tag - 9) .nil L { st with at_ := st.at_ + 1 }
       simp only at h1
       split
       ·exact Nat.le_trans (by omega) h1
       ·exact Nat.le_trans (Nat.le_trans (by omega) h1) (ih _ _ _ _)
      ·exact Nat.le_refl _
    ·split
     ·exact Nat.le_refl _
     ·split
      ·split
       ·exact Nat.le_refl _
       ·exact Nat.le_trans (rMust_mono L [33] st) (ih _ _ _ _)
      ·split
       ·exact Nat.le_trans (rMust_mono L [40] st) (Nat.le_trans (ih _ _ _ _) (rMust_mono L [41] _))
       ·split
        ·simp
        ·split
         ·simp
         ·exact rPlace_mono L st

theorem rMust_ok {L : List Tok} {s : List UInt8} {st : RS} (hb : (rMust L s st).bad = false) : (rMust L s st).at_ = st.at_ + 1 := by
 unfold rMust at hb ⊢
 split at hb
 ·simp at hb
 ·rename_i h; rw [if_neg h]

end Go.Proofs.YtpmcnonmkghokaaGreatDoor
namespace Go.Proofs.YtpmcnonmkghokaaGreatDoor
open Go.RowKit
theorem rX_atom (f n : Nat) (x : PX) (L : List Tok) (st : RS) : rX (f + 1) (20 + n) x L st =
  if st.bad then (emptyX, st)
  else if rNext L [33] st then
   if n = 12 then (emptyX, { st with bad := true })
   else (opX sBang (rX f (20 + (n + 1)) .nil L (rMust L [33] st)).1 .nil, (rX f (20 + (n + 1)) .nil L (rMust L [33] st)).2)
  else if rNext L [40] st then ((rX f 0 .nil L (rMust L [40] st)).1, rMust L [41] (rX f 0 .nil L (rMust L [40] st)).2)
  else if isConst (tk L st.at_) then (opX (tk L st.at_).text .nil .nil, { st with at_ := st.at_ + 1 })
  else if isDig (tk L st.at_) then (digX (digV (tk L st.at_).text), { st with at_ := st.at_ + 1 })
  else rPlace L st := by
 rw [rX, if_neg (by omega), if_neg (by omega), if_neg (by omega)]
 simp only [show (20 + n = 32) = (n = 12) from by simp; omega, Nat.add_assoc]

theorem below_alloc1 (w : World) (o : Obj) : Below w.heap.size w (w.alloc o) := (Below.refl _ _).alloc (Nat.le_refl _) _
end Go.Proofs.YtpmcnonmkghokaaGreatDoor

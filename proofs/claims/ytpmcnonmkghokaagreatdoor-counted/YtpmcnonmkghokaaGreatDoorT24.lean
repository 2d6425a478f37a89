import Derived.Test.YtpmcnonmkghokaaGreatDoorT23
import Derived.Test.YtpmcnonmkghokaaGreatDoorT08
import Derived.Sort.LotA
import Derived.BigQuiet
import Derived.Shelf.SlSortCmp.NoneTotal
import Derived.Shelf.Spec.SlicesInsertGrow
import Derived.Shelf.Slices.ReverseS
import Derived.Shelf.SlLaysF
import Derived.Test.YtpmcnonmkghokaaGreatDoorRows
set_option linter.unusedVariables false
set_option linter.unusedSimpArgs false
namespace Go.Proofs.YtpmcnonmkghokaaGreatDoor
open Go.RowKit
attribute [local go_sem ↓] Go.wp_at_zero Go.wp_at_succ
set_option maxRecDepth 100000 in
set_option maxHeartbeats 4000000 in
theorem mutex_true (w : World) : Calls Tryz.prog 39 #[.bool true] w fun e w'=>e = .returned (.string mtx)∧w' = w:=by
 go_enter Tryz.func39,Tryz.ntmps39
 go_wp2
 go_ret
 exact ⟨rfl,rfl⟩
def pickN (c : Int) (n : Nat) : Nat:=((if c < 0 then -(c + 1) else c) % n).toNat
set_option maxRecDepth 100000 in
set_option maxHeartbeats 4000000 in
theorem pick_any (c : Int) (n : Nat) (w : World) (h0 : -9223372036854775808≤c) (h1 : c≤9223372036854775807) (hn : 0 < n) (hn2 : n≤1000000) : Calls Tryz.prog 19 #[.int .i64 c,.int .i64 n] w fun e w'=>e = .returned (.int .i64 (pickN c n))∧pickN c n < n∧w' = w:=by
 have hnz : ((n : Int) == 0) = false:=by simp; omega
 have hnz' : ¬ ((n : Int) = 0):=by omega
 by_cases hc : c < 0
 ·have e : (pickN c n : Int) = (-(c + 1)).tmod n:=by
   rw [pickN,if_pos hc,Int.toNat_of_nonneg (Int.emod_nonneg _ (by omega)),Int.tmod_eq_emod_of_nonneg (by omega)]
  have hlt : pickN c n < n:=by
   have:=Int.emod_lt_of_pos (-(c + 1)) (b:=(n : Int)) (by omega)
   have h3:=Int.emod_nonneg (-(c + 1)) (b:=(n : Int)) (by omega)
   rw [pickN,if_pos hc]; omega
  have w1 : IntKind.i64.wrap (c + 1) = c + 1:=by rw [IntKind.wrap_i64]; omega
  have w2 : IntKind.i64.wrap (-(c + 1)) = -(c + 1):=by rw [IntKind.wrap_i64]; omega
  have w3 : IntKind.i64.wrap (-1 + -c) = -1 + -c:=by rw [IntKind.wrap_i64]; omega
  have w4 : IntKind.i64.wrap ((-(c + 1)).tmod n) = (-(c + 1)).tmod n:=by rw [← e,IntKind.wrap_i64]; omega
  have HE:=hide e.symm
  have HL:=hide hlt
  clear e hlt
  go_enter Tryz.func19,Tryz.ntmps19
  go_wp2
  go_ret
  exact ⟨ret_int (by rw [← ku HE,Int.neg_tmod]),ku HL,rfl⟩
 ·have e : (pickN c n : Int) = c.tmod n:=by
   rw [pickN,if_neg hc,Int.toNat_of_nonneg (Int.emod_nonneg _ (by omega)),Int.tmod_eq_emod_of_nonneg (by omega)]
  have hlt : pickN c n < n:=by
   have:=Int.emod_lt_of_pos c (b:=(n : Int)) (by omega)
   have h3:=Int.emod_nonneg c (b:=(n : Int)) (by omega)
   rw [pickN,if_neg hc]; omega
  have w4 : IntKind.i64.wrap (c.tmod n) = c.tmod n:=by rw [← e,IntKind.wrap_i64]; omega
  have HE:=hide e.symm
  have HL:=hide hlt
  clear e hlt
  go_enter Tryz.func19,Tryz.ntmps19
  go_wp2
  go_ret
  exact ⟨ret_int (by rw [← ku HE,Int.tmod_eq_emod_of_nonneg (by omega)]),ku HL,rfl⟩
theorem str_eq {a : ByteArray} {l : List UInt8} (h : a.toList = l) (b : ByteArray) (hb : b.toList = l) : a = b:=byte_eq (h.trans hb.symm)
set_option maxRecDepth 100000 in
set_option maxHeartbeats 8000000 in
theorem awake_any (w : World) : Calls Tryz.prog 15 #[] w fun e w'=>e = .returned (.bool true)∧Below w.heap.size w w':=by
 obtain ⟨r,hp,h1,h2,h3,h4,h5,h6,h7⟩:=mtx_played
 have htxt : r.1.text = ⟨#[91,105,100,108,101,32,99,114,105,116,32,105,100,108,101,93,32,49]⟩:=str_eq h1 _ (by decide +kernel)
 have hel : r.1.enabled.length = 3:=by have:=congrArg List.length h2; simpa using this
 have he2 : r.1.enabled[2]? = some ⟨#[112,117,116,40,49,41]⟩:=by
  have h9 : (r.1.enabled.map (·.toList))[2]? = some [112,117,116,40,49,41]:=by rw [h2]; rfl
  rw [List.getElem?_map] at h9
  obtain ⟨x,hx,hx2⟩:=Option.map_eq_some_iff.mp h9
  rw [hx,str_eq hx2 ⟨#[112,117,116,40,49,41]⟩ (by decide +kernel)]
 have HMT:=hide mutex_true
 have HC1:=hide (fun wx=>(show Calls Tryz.prog 16 #[.string mtx] wx fun e w'=>e = .returned (.tuple #[.int .i64 0,.int .i64 0])∧Below wx.heap.size wx w' from by have:=check_any mtx wx; rw [mtx_check] at this; exact this))
 have HC2:=hide (fun wx=>(show Calls Tryz.prog 16 #[.string ⟨#[115,101,116,32,112,32,52,59]⟩] wx fun e w'=>e = .returned (.tuple #[.int .i64 3,.int .i64 8])∧Below wx.heap.size wx w' from by have:=check_any setFour wx; rw [four_check] at this; exact this))
 have HPL:=hide (fun (wx : World) (pa : Option Addr) (pn pc : Nat) (ho : wx.ownsRow 0 9 1 (.slice pa pn pc) 2 [.string askOne,.string getOne])=>play_any mtx wx [askOne,getOne] pa pn pc ho (by simp) r hp)
 clear hp h1 h2
 generalize mtx = mm at *
 go_enter Tryz.func15,Tryz.ntmps15
 go_wp2_with fail
 refine ((ku HMT) _).mono ?_
 rintro e w0 ⟨rfl,rfl⟩
 go_wp2_with fail
 refine ((ku HC1) _).mono ?_
 rintro e w1 ⟨rfl,hb1⟩
 have HB1:=hide hb1
 have hs1:=hb1.size
 clear hb1
 go_wp2_with fail
 refine ((ku HC2) _).mono ?_
 rintro e w2 ⟨rfl,hb2⟩
 have HB2:=hide ((ku HB1).trans (hb2.mono hs1))
 have hs2:=hb2.size
 clear hb2
 go_wp2_with fail
 refine ((ku HMT) _).mono ?_
 rintro e w3 ⟨rfl,rfl⟩
 have HST:=hide (show (w3.alloc (.cells #[.string ⟨#[97,115,107,40,49,41]⟩,.string ⟨#[103,101,116,40,49,41]⟩] 9)).ownsRow 0 9 1 (.slice (some ⟨w3.heap.size,0,none⟩) 2 2) 2 [.string askOne,.string getOne] from ⟨rfl,Or.inr ⟨w3.heap.size,2,_,rfl,Nat.zero_le _,qg _ _,Nat.le_refl _,by unfold maxLen; omega,rfl,rfl⟩⟩)
 have HB3:=hide ((ku HB2).alloc (by omega) (.cells #[.string ⟨#[97,115,107,40,49,41]⟩,.string ⟨#[103,101,116,40,49,41]⟩] 9))
 go_wp2_with fail
 refine ((ku HPL) _ _ _ _ (ku HST)).mono ?_
 rintro e w4 ⟨ea,en,ec,wa,wn,wc,ba,bn,bc,rfl,hp1,hp2,hp3,hb4⟩
 rw [h3] at hp2
 rw [h4] at hp3
 rw [h5,h6,h7,htxt]
 obtain ⟨za,zc,ez,hv⟩:=qm hp1
 injection ez with ez1 ez2 ez3
 subst ez1; subst ez2; subst ez3
 obtain ⟨g,rfl,hg1,hg2,hc⟩:=hv 2 (by omega)
 have e2 : w4.cell? ⟨g,2,none⟩ = some (.string ⟨#[112,117,116,40,49,41]⟩):=by rw [hc 2 (by omega),List.getElem?_map,he2]; rfl
 obtain ⟨za,zc,ez,_⟩:=qm hp2
 injection ez with ez1 ez2 ez3
 subst ez1; subst ez2; subst ez3
 obtain ⟨za,zc,ez,_⟩:=qm hp3
 injection ez with ez1 ez2 ez3
 subst ez1; subst ez2; subst ez3
 rw [hel]
 have hs4:=hb4.size
 have HB4:=hide ((ku HB3).trans (hb4.mono (by simp; omega)))
 clear hp1 hp2 hp3 hb4 hc hv HPL HC1 HC2 HMT
 simp only [List.length_nil]
 go_wp2
 go_ret
 exact ⟨rfl,(ku HB4).alloc (by simp at hs4; omega) _⟩
end Go.Proofs.YtpmcnonmkghokaaGreatDoor
namespace Go.Proofs.YtpmcnonmkghokaaGreatDoor
open Go.RowKit
def cmpI (a b : Int) : Int:=if a < b then -1 else if b < a then 1 else 0
def cmpL : List Int→List Int→Int
 | [],[]=>0
 | [],_ :: _=>-1
 | _ :: _,[]=>1
 | a :: l,b :: m=>if a == b then cmpL l m else cmpI a b
theorem cmpI_neg (a b : Int) : cmpI b a = - cmpI a b:=by
 unfold cmpI
 by_cases h1 : a < b
 ·have : ¬ b < a:=by omega
  simp [h1,this]
 ·by_cases h2 : b < a <;> simp [h1,h2]
theorem cmpL_neg : ∀ l m : List Int,cmpL m l = - cmpL l m
 | [],[]=>rfl
 | [],_ :: _=>rfl
 | _ :: _,[]=>rfl
 | a :: l,b :: m=>by
  rw [cmpL,cmpL]
  by_cases h : a = b
  ·subst h; simp [cmpL_neg l m]
  ·have h2 : ¬ b = a:=fun e=>h e.symm
   simp [h,h2,cmpI_neg a b]
theorem cmpI_zero {a b : Int} (h : cmpI a b = 0) : a = b:=by
 unfold cmpI at h
 by_cases h1 : a < b
 ·simp [h1] at h
 ·by_cases h2 : b < a
  ·simp [h1,h2] at h
  ·omega
theorem cmpL_zero : ∀ l m : List Int,cmpL l m = 0→l = m
 | [],[],_=>rfl
 | [],_ :: _,h=>by simp [cmpL] at h
 | _ :: _,[],h=>by simp [cmpL] at h
 | a :: l,b :: m,h=>by
  rw [cmpL] at h
  by_cases e : a = b
  ·subst e; simp at h; rw [cmpL_zero l m h]
  ·simp [e] at h; exact absurd (cmpI_zero h) e
theorem cmpL_self (l : List Int) : cmpL l l = 0:=by have:=cmpL_neg l l; omega
theorem cmpI_le {a b : Int} (h : cmpI a b≤0) : a≤b:=by
 unfold cmpI at h
 by_cases h1 : a < b
 ·omega
 ·by_cases h2 : b < a
  ·simp [h1,h2] at h
  ·omega
theorem cmpI_lt {a b : Int} (h : a < b) : cmpI a b = -1:=by simp [cmpI,h]
theorem cmpL_trans : ∀ a b c : List Int,cmpL a b≤0→cmpL b c≤0→cmpL a c≤0
 | [],_,[],_,_=>by simp [cmpL]
 | [],_,_ :: _,_,_=>by simp [cmpL]
 | _ :: _,[],_,h,_=>by simp [cmpL] at h
 | _ :: _,_ :: _,[],_,h=>by simp [cmpL] at h
 | x :: a,y :: b,z :: c,h1,h2=>by
  rw [cmpL] at h1 h2 ⊢
  by_cases e1 : x = y
  ·subst e1
   by_cases e2 : x = z
   ·subst e2; simp at h1 h2 ⊢; exact cmpL_trans a b c h1 h2
   ·simp [e2] at h2 ⊢; exact h2
  ·simp [e1] at h1
   by_cases e2 : y = z
   ·subst e2; simp [e1]; exact h1
   ·simp [e2] at h2
    have g1:=cmpI_le h1
    have g2:=cmpI_le h2
    have e3 : x≠z:=by omega
    simp [e3]
    rw [cmpI_lt (by omega)]; decide
theorem cmpL_swo {α : Type} (c : α→List Int) : Go.Sort.SWO (fun x y : α=>decide (cmpL (c x) (c y) < 0)) where
 irrefl x:=by simp [cmpL_self]
 trans x y z h1 h2:=by
  simp only [decide_eq_true_eq] at *
  have g:=cmpL_trans (c x) (c y) (c z) (by omega) (by omega)
  rcases Int.lt_or_eq_of_le g with g | g
  ·exact g
  ·have e:=cmpL_zero _ _ g
   rw [e] at h1
   have:=cmpL_neg (c y) (c z)
   omega
 ntrans x y z h1 h2:=by
  simp only [decide_eq_false_iff_not] at *
  have n1:=cmpL_neg (c x) (c y)
  have n2:=cmpL_neg (c y) (c z)
  have n3:=cmpL_neg (c x) (c z)
  have g:=cmpL_trans (c z) (c y) (c x) (by omega) (by omega)
  omega
def insL (x : List Int) : List (List Int)→List (List Int)
 | []=>[x]
 | y :: l=>if cmpL x y≤0 then x :: y :: l else y :: insL x l
def sortL : List (List Int)→List (List Int)
 | []=>[]
 | x :: l=>insL x (sortL l)
theorem insL_perm (x : List Int) : ∀ l,(insL x l).Perm (x :: l)
 | []=>List.Perm.refl _
 | y :: l=>by
  rw [insL]
  split
  ·exact List.Perm.refl _
  ·exact ((insL_perm x l).cons y).trans (List.Perm.swap x y l)
theorem sortL_perm : ∀ l,(sortL l).Perm l
 | []=>List.Perm.refl _
 | x :: l=>(insL_perm x _).trans ((sortL_perm l).cons x)
theorem sortL_len (l : List (List Int)) : (sortL l).length = l.length:=(sortL_perm l).length_eq
theorem insL_sorted (x : List Int) : ∀ l,l.Pairwise (fun a b=>cmpL a b≤0)→(insL x l).Pairwise (fun a b=>cmpL a b≤0)
 | [],_=>by simp [insL]
 | y :: l,h=>by
  rw [insL]
  rw [List.pairwise_cons] at h
  split
  ·rename_i hx
   rw [List.pairwise_cons]
   refine ⟨fun z hz=>?_,List.pairwise_cons.mpr h⟩
   rcases List.mem_cons.mp hz with rfl | hz
   ·exact hx
   ·exact cmpL_trans _ _ _ hx (h.1 z hz)
  ·rename_i hx
   rw [List.pairwise_cons]
   refine ⟨fun z hz=>?_,insL_sorted x l h.2⟩
   rcases List.mem_cons.mp ((insL_perm x l).mem_iff.mp hz) with rfl | hz
   ·have:=cmpL_neg z y
    omega
   ·exact h.1 z hz
theorem sortL_sorted : ∀ l,(sortL l).Pairwise (fun a b=>cmpL a b≤0)
 | []=>List.Pairwise.nil
 | x :: l=>insL_sorted x _ (sortL_sorted l)
theorem sortL_unique {l l' : List (List Int)} (hp : l'.Perm l) (hs : l'.Pairwise (fun a b=>cmpL a b≤0)) : l' = sortL l:=by
 refine List.Perm.eq_of_pairwise (le:=fun a b=>cmpL a b≤0) ?_ hs (sortL_sorted l) (hp.trans (sortL_perm l).symm)
 intro a b _ _ h1 h2
 have:=cmpL_neg a b
 exact cmpL_zero a b (by omega)
def insAt (x : Int) (o : List Int) (k : Nat) : List Int:=o.take k ++ x :: o.drop k
def insAll (x : Int) (o : List Int) : List (List Int):=(List.range (o.length + 1)).map (insAt x o)
def gy (x : Int) (all : List (List Int)) : List (List Int):=all.flatMap (insAll x)
def kz2 : Nat→List (List Int)
 | 0=>[[]]
 | n + 1=>gy n (kz2 n)
def orders (n : Nat) : List (List Int):=sortL (kz2 n)
theorem insAt_len (x : Int) (o : List Int) (k : Nat) (hk : k≤o.length) : (insAt x o k).length = o.length + 1:=by
 simp [insAt]; omega
theorem ordStep_take (x : Int) (all : List (List Int)) (j : Nat) (hj : j < all.length) : gy x (all.take (j + 1)) = gy x (all.take j) ++ insAll x all[j]:=by
 rw [List.take_succ_eq_append_getElem hj,gy,List.flatMap_append]; simp [gy]
theorem ordRaw_in : ∀ n,∀ o ∈ kz2 n,o.length = n∧∀ x ∈ o,0≤x∧x < n
 | 0,o,h=>by simp [kz2] at h; subst h; simp
 | n + 1,o,h=>by
  rw [kz2,gy] at h
  obtain ⟨c,hc,h2⟩:=List.mem_flatMap.mp h
  obtain ⟨k,hk,rfl⟩:=List.mem_map.mp h2
  obtain ⟨e1,e2⟩:=ordRaw_in n c hc
  have hk' : k≤c.length:=by have:=List.mem_range.mp hk; omega
  refine ⟨by rw [insAt_len _ _ _ hk',e1],fun x hx=>?_⟩
  rcases List.mem_append.mp hx with hx | hx
  ·have:=e2 x (List.mem_of_mem_take hx); omega
  ·rcases List.mem_cons.mp hx with rfl | hx
   ·omega
   ·have:=e2 x (List.mem_of_mem_drop hx); omega
end Go.Proofs.YtpmcnonmkghokaaGreatDoor
namespace Go.Proofs.YtpmcnonmkghokaaGreatDoor
open Go.RowKit
attribute [local go_sem ↓] Go.wp_at_zero Go.wp_at_succ
def RowAt (kd : IntKind) (w : World) (v : Value) (l : List Int) : Prop:=∃ xa xc,v = .slice xa l.length xc∧(0 < l.length→∃ g,xa = some ⟨g,0,none⟩∧g < w.heap.size∧∀ j (hj : j < l.length),w.cell? ⟨g,j,none⟩ = some (.int kd l[j]))
theorem rowAt_own {kd : IntKind} {w : World} {lo e : Nat} {v : Value} {l : List Int} (h : w.ownsRow lo e 1 v l.length (l.map (Value.int kd))) : RowAt kd w v l:=by
 obtain ⟨xa,xc,e1,hv⟩:=qm h
 refine ⟨xa,xc,e1,fun h0=>?_⟩
 obtain ⟨g,e2,_,h2,h3⟩:=hv 0 h0
 refine ⟨g,e2,h2,fun j hj=>?_⟩
 rw [h3 j (by omega),List.getElem?_map,List.getElem?_eq_getElem hj]; rfl
theorem RowAt.cells {kd : IntKind} {w w' : World} {v : Value} {l : List Int} (h : RowAt kd w v l) (hs : w.heap.size≤w'.heap.size) (hc : ∀ (g : Nat) (cs : Array Value) (e : Nat) (fr : Nat × Nat),w.heap[g]? = some (Obj.cells cs e fr)→(∃ x,cs[0]? = some (Value.int kd x))→w'.heap[g]? = w.heap[g]?) : RowAt kd w' v l:=by
 obtain ⟨xa,xc,e1,hv⟩:=h
 refine ⟨xa,xc,e1,fun h0=>?_⟩
 obtain ⟨g,e2,h2,h3⟩:=hv h0
 refine ⟨g,e2,by omega,fun j hj=>?_⟩
 have h4:=h3 0 h0
 have h5:=h3 j hj
 unfold World.cell? at h4 h5 ⊢
 cases hg : w.heap[g]? with
 | none=>rw [hg] at h4; simp at h4
 | some o=>
  rw [hg] at h4 h5
  cases o with
  | cells cs e fr=>
   show (match w'.heap[g]? with | some (Obj.cells c _ _)=>if _ then none else c[j]? | _=>none) = _
   rw [hc g cs e fr hg ⟨_,by simpa using h4⟩,hg]
   exact h5
  | _=>simp at h4
theorem cmpL_drop {a b : List Int} {k : Nat} (ha : k < a.length) (hb : k < b.length) : cmpL (a.drop k) (b.drop k) = if a[k] == b[k] then cmpL (a.drop (k + 1)) (b.drop (k + 1)) else cmpI a[k] b[k]:=by
 rw [List.drop_eq_getElem_cons ha,List.drop_eq_getElem_cons hb,cmpL]
theorem cmpL_end {a b : List Int} {k : Nat} (h : k = min a.length b.length) : cmpL (a.drop k) (b.drop k) = cmpI a.length b.length:=by
 by_cases h1 : a.length < b.length
 ·have e : k = a.length:=by omega
  subst e
  rw [List.drop_length]
  rw [cmpI_lt (by omega)]
  cases hd : b.drop a.length with
  | nil=>have:=congrArg List.length hd; simp at this; omega
  | cons _ _=>rfl
 ·have e : k = b.length:=by omega
  subst e
  rw [List.drop_length]
  by_cases h2 : b.length < a.length
  ·have : cmpI (a.length : Int) (b.length : Int) = 1:=by unfold cmpI; rw [if_neg (by omega),if_pos (by omega)]
   rw [this]
   cases hd : a.drop b.length with
   | nil=>have:=congrArg List.length hd; simp at this; omega
   | cons _ _=>rfl
  ·have e : a.length = b.length:=by omega
   rw [← e,List.drop_length]
   unfold cmpI
   rw [if_neg (by omega),if_neg (by omega)]; rfl
theorem isNaNInts (x : Int) (w : World) : Calls Tryz.prog 276 #[.int .i64 x] w fun e w'=>e = .returned (.bool false)∧w' = w:=by
 go_enter Tryz.func276,Tryz.ntmps276
 go_wp2
 go_ret
 exact ⟨by simp,rfl⟩
set_option maxHeartbeats 1000000 in
theorem cmpOneInts (x y : Int) (w : World) : Calls Tryz.prog 253 #[.int .i64 x,.int .i64 y] w fun e w'=>e = .returned (.int .i64 (cmpI x y))∧w' = w:=by
 go_enter Tryz.func253,Tryz.ntmps253
 go_wp2_with (go_at_call 276; refine (isNaNInts _ _).mono ?_; rintro e w' ⟨rfl,hw⟩; rw [hw])
 all_goals (go_ret; refine ⟨?_,rfl⟩; unfold cmpI; (repeat' split) <;> first | rfl | (exfalso; omega))
theorem cmpOneQInts (x y : Int) (w : World) : Calls Tryz.prog 253 #[.int .i64 x,.int .i64 y] w fun e w'=>e = .returned (.int .i64 (cmpI x y))∧∃ q,w' = w.drewN q:=(cmpOneInts x y w).mono fun _ _ h=>⟨h.1,0,h.2⟩
set_option maxRecDepth 100000 in
set_option maxHeartbeats 4000000 in
theorem cmpInts_any (w : World) (a b : List Int) (va vb : Value) (hA : RowAt .i64 w va a) (hB : RowAt .i64 w vb b) (hal : a.length≤1000000) (hbl : b.length≤1000000) :
  Calls Tryz.prog 226 #[va,vb] w fun e w'=>e = .returned (.int .i64 (cmpL a b))∧∃ q,w' = w.drewN q:=by
 obtain ⟨xa,xc,e1,hva⟩:=hA
 subst e1
 obtain ⟨xb,xd,e1,hvb⟩:=hB
 subst e1
 have HVA:=hide hva
 have HVB:=hide hvb
 clear hva hvb
 obtain ⟨m,hm⟩ : ∃ m,m = min a.length b.length:=⟨_,rfl⟩
 have hmin : min (a.length : Int) (b.length : Int) = (m : Int):=by omega
 have HM:=hide hm
 clear hm
 go_enter Tryz.func226,Tryz.ntmps226
 go_wp2
 go_loopw [5,11] (fun _ i wr=>∃ k : Nat,i = .int .i64 k∧k≤m∧cmpL (a.drop k) (b.drop k) = cmpL a b∧∃ q,wr = w.drewN q) (fun _ i _=>m - (intOf i).toNat)
 case atStart=>exact ⟨0,rfl,Nat.zero_le _,rfl,0,rfl⟩
 case round=>
  obtain ⟨k,rfl,hk,hr,q,rfl⟩:=hrel
  have hm2:=ku HM
  by_cases hlt : k < m
  ·have hka : k < a.length:=by omega
   have hkb : k < b.length:=by omega
   obtain ⟨g1,rfl,_,hc1⟩:=ku HVA (by omega)
   obtain ⟨g2,rfl,_,hc2⟩:=ku HVB (by omega)
   have c1 : w.cell? ⟨g1,k,none⟩ = some (.int .i64 a[k]):=hc1 k hka
   have c2 : w.cell? ⟨g2,k,none⟩ = some (.int .i64 b[k]):=hc2 k hkb
   have hd:=cmpL_drop hka hkb
   rw [hr] at hd
   have HR:=hide hd
   generalize a[k] = x at *
   generalize b[k] = y at *
   clear hc1 hc2 hr hd hm2
   by_cases hxy : x = y
   ·subst hxy
    go_wp2
    go_quiet (fail)
    go_wp2
    go_roundw
    case rel=>exact ⟨k + 1,by go_num,by omega,by have:=ku HR; rw [this]; simp,_,rfl⟩
    case measure=>simp [intOf]; omega
   ·have hb : (x == y) = false:=by simpa using hxy
    have hne : (x != y) = true:=by simp [hxy]
    go_wp2
    go_quiet (fail)
    go_wp2_with fail
    obtain ⟨w5,hw5⟩ : ∃ w5,w5 = (w.drewN q).drewN nq:=⟨_,rfl⟩
    rw [← hw5]
    have c3 : w5.cell? ⟨g1,k,none⟩ = some (.int .i64 x):=by rw [hw5]; exact c1
    have c4 : w5.cell? ⟨g2,k,none⟩ = some (.int .i64 y):=by rw [hw5]; exact c2
    have HW5:=hide (show ∃ n,w5 = w.drewN n from ⟨q + nq,by rw [hw5,World.drewN_drewN]⟩)
    clear hw5 c1 c2
    go_quiet (first | (go_at_call 253; refine Calls.quiet_of (cmpOneQInts _ _ _)))
    go_wp2
    go_ret
    obtain ⟨n5,hn5⟩:=ku HW5
    refine ⟨by have:=ku HR; rw [this,hb]; rfl,n5 + nq,by rw [hn5,World.drewN_drewN]⟩
  ·have hke : k = m:=by omega
   subst hke
   have he:=cmpL_end (a:=a) (b:=b) hm2
   rw [hr] at he
   have HR:=hide he
   clear he hr hm2
   go_wp2_with fail
   refine (cmpOneInts _ _ _).mono ?_
   rintro e w2 ⟨rfl,rfl⟩
   go_wp2
   go_ret
   exact ⟨by rw [ku HR]; rfl,_,rfl⟩
theorem isNaNState (x : Int) (w : World) : Calls Tryz.prog 277 #[.int .u8 x] w fun e w'=>e = .returned (.bool false)∧w' = w:=by
 go_enter Tryz.func277,Tryz.ntmps277
 go_wp2
 go_ret
 exact ⟨by simp,rfl⟩
set_option maxHeartbeats 1000000 in
theorem cmpOneState (x y : Int) (w : World) : Calls Tryz.prog 254 #[.int .u8 x,.int .u8 y] w fun e w'=>e = .returned (.int .i64 (cmpI x y))∧w' = w:=by
 go_enter Tryz.func254,Tryz.ntmps254
 go_wp2_with (go_at_call 277; refine (isNaNState _ _).mono ?_; rintro e w' ⟨rfl,hw⟩; rw [hw])
 all_goals (go_ret; refine ⟨?_,rfl⟩; unfold cmpI; (repeat' split) <;> first | rfl | (exfalso; omega))
theorem cmpOneQState (x y : Int) (w : World) : Calls Tryz.prog 254 #[.int .u8 x,.int .u8 y] w fun e w'=>e = .returned (.int .i64 (cmpI x y))∧∃ q,w' = w.drewN q:=(cmpOneState x y w).mono fun _ _ h=>⟨h.1,0,h.2⟩
set_option maxRecDepth 100000 in
set_option maxHeartbeats 4000000 in
theorem cmpState_any (w : World) (a b : List Int) (va vb : Value) (hA : RowAt .u8 w va a) (hB : RowAt .u8 w vb b) (hal : a.length≤1000000) (hbl : b.length≤1000000) :
  Calls Tryz.prog 229 #[va,vb] w fun e w'=>e = .returned (.int .i64 (cmpL a b))∧∃ q,w' = w.drewN q:=by
 obtain ⟨xa,xc,e1,hva⟩:=hA
 subst e1
 obtain ⟨xb,xd,e1,hvb⟩:=hB
 subst e1
 have HVA:=hide hva
 have HVB:=hide hvb
 clear hva hvb
 obtain ⟨m,hm⟩ : ∃ m,m = min a.length b.length:=⟨_,rfl⟩
 have hmin : min (a.length : Int) (b.length : Int) = (m : Int):=by omega
 have HM:=hide hm
 clear hm
 go_enter Tryz.func229,Tryz.ntmps229
 go_wp2
 go_loopw [5,11] (fun _ i wr=>∃ k : Nat,i = .int .i64 k∧k≤m∧cmpL (a.drop k) (b.drop k) = cmpL a b∧∃ q,wr = w.drewN q) (fun _ i _=>m - (intOf i).toNat)
 case atStart=>exact ⟨0,rfl,Nat.zero_le _,rfl,0,rfl⟩
 case round=>
  obtain ⟨k,rfl,hk,hr,q,rfl⟩:=hrel
  have hm2:=ku HM
  by_cases hlt : k < m
  ·have hka : k < a.length:=by omega
   have hkb : k < b.length:=by omega
   obtain ⟨g1,rfl,_,hc1⟩:=ku HVA (by omega)
   obtain ⟨g2,rfl,_,hc2⟩:=ku HVB (by omega)
   have c1 : w.cell? ⟨g1,k,none⟩ = some (.int .u8 a[k]):=hc1 k hka
   have c2 : w.cell? ⟨g2,k,none⟩ = some (.int .u8 b[k]):=hc2 k hkb
   have hd:=cmpL_drop hka hkb
   rw [hr] at hd
   have HR:=hide hd
   generalize a[k] = x at *
   generalize b[k] = y at *
   clear hc1 hc2 hr hd hm2
   by_cases hxy : x = y
   ·subst hxy
    go_wp2
    go_quiet (fail)
    go_wp2
    go_roundw
    case rel=>exact ⟨k + 1,by go_num,by omega,by have:=ku HR; rw [this]; simp,_,rfl⟩
    case measure=>simp [intOf]; omega
   ·have hb : (x == y) = false:=by simpa using hxy
    have hne : (x != y) = true:=by simp [hxy]
    go_wp2
    go_quiet (fail)
    go_wp2_with fail
    obtain ⟨w5,hw5⟩ : ∃ w5,w5 = (w.drewN q).drewN nq:=⟨_,rfl⟩
    rw [← hw5]
    have c3 : w5.cell? ⟨g1,k,none⟩ = some (.int .u8 x):=by rw [hw5]; exact c1
    have c4 : w5.cell? ⟨g2,k,none⟩ = some (.int .u8 y):=by rw [hw5]; exact c2
    have HW5:=hide (show ∃ n,w5 = w.drewN n from ⟨q + nq,by rw [hw5,World.drewN_drewN]⟩)
    clear hw5 c1 c2
    go_quiet (first | (go_at_call 254; refine Calls.quiet_of (cmpOneQState _ _ _)))
    go_wp2
    go_ret
    obtain ⟨n5,hn5⟩:=ku HW5
    refine ⟨by have:=ku HR; rw [this,hb]; rfl,n5 + nq,by rw [hn5,World.drewN_drewN]⟩
  ·have hke : k = m:=by omega
   subst hke
   have he:=cmpL_end (a:=a) (b:=b) hm2
   rw [hr] at he
   have HR:=hide he
   clear he hr hm2
   go_wp2_with fail
   refine (cmpOneInts _ _ _).mono ?_
   rintro e w2 ⟨rfl,rfl⟩
   go_wp2
   go_ret
   exact ⟨by rw [ku HR]; rfl,_,rfl⟩
end Go.Proofs.YtpmcnonmkghokaaGreatDoor
namespace Go.Proofs.YtpmcnonmkghokaaGreatDoor
open Go.RowKit
structure xg (S : List Nat) (w w' : World) : Prop where
 os : w'.os = w.os
 tape : w'.tape = w.tape
 output : w'.output = w.output
 size : w.heap.size≤w'.heap.size
 block : ∀ k,k < w.heap.size→k ∉ S→w'.heap[k]? = w.heap[k]?
theorem xg.refl (S : List Nat) (w : World) : xg S w w:=⟨rfl,rfl,rfl,Nat.le_refl _,fun _ _ _=>rfl⟩
theorem xg.trans {S : List Nat} {a b c : World} (h : xg S a b) (k : xg S b c) : xg S a c:=
 ⟨k.os.trans h.os,k.tape.trans h.tape,k.output.trans h.output,Nat.le_trans h.size k.size,fun i hi hn=>(k.block i (Nat.lt_of_lt_of_le hi h.size) hn).trans (h.block i hi hn)⟩
theorem xg.wide {S S' : List Nat} {w w' : World} (h : xg S w w') (hs : ∀ k ∈ S,k < w.heap.size→k ∈ S') : xg S' w w':=
 ⟨h.os,h.tape,h.output,h.size,fun k hk hn=>h.block k hk fun hm=>hn (hs k hm hk)⟩
theorem xg.of_below {S : List Nat} {w w' : World} (h : Below w.heap.size w w') : xg S w w':=⟨h.os,h.tape,h.output,h.size,fun k hk _=>h.block k hk⟩
theorem xg.alloc {S : List Nat} {a w : World} (h : xg S a w) (o : Obj) : xg S a (w.alloc o):=h.trans (.of_below (below_alloc1 w o))
theorem xg.drewN {S : List Nat} {a w : World} (h : xg S a w) (n : Nat) : xg S a (w.drewN n):=⟨h.os,h.tape,h.output,h.size,h.block⟩
theorem xg.set {S : List Nat} {a w : World} (h : xg S a w) {p : Addr} (hp : p.block ∈ S∨a.heap.size≤p.block) (u : Value) : xg S a (w.setCell p u):=
 ⟨h.os,h.tape,h.output,by simpa [World.setCell] using h.size,fun k hk hn=>by
  rw [Below.heap_setCell _ _ _ _ (fun e=>by subst e; rcases hp with hp | hp; exact hn hp; omega)]
  exact h.block k hk hn⟩
theorem xg.grown {S : List Nat} {a w w' : World} {r : Option Nat} (h : xg S a w) (hg : w.grownBy w' r) (hr : ∀ k,r = some k→k ∈ S∨a.heap.size≤k) : xg S a w':=
 ⟨hg.os.trans h.os,hg.tape.trans h.tape,hg.output.trans h.output,Nat.le_trans h.size hg.size,fun k hk hn=>by
  rw [hg.block k (Nat.lt_of_lt_of_le hk h.size) (fun e=>by rcases hr k e.symm with h1 | h1; exact hn h1; omega)]
  exact h.block k hk hn⟩
theorem xg.below {S : List Nat} {B : Nat} {w w' : World} (h : xg S w w') (hB : B≤w.heap.size) (hs : ∀ k ∈ S,B≤k) : Below B w w':=
 ⟨h.os,h.tape,h.output,h.size,fun k hk=>h.block k (by omega) fun hm=>by have:=hs k hm; omega⟩
theorem xg.at {S : List Nat} {w w' : World} {k : Nat} {o : Obj} (h : xg S w w') (hk : w.heap[k]? = some o) (hn : k ∉ S) : w'.heap[k]? = some o:=(h.block k (lt_of_block hk) hn).trans hk
theorem owns_st {S : List Nat} {w w' : World} {lo e size : Nat} {v : Value} {n : Nat} {xs : List Value} (h : w.ownsRow lo e size v n xs) (hk : xg S w w') (hn : ∀ k,v.ownBlock = some k→k ∉ S) : w'.ownsRow lo e size v n xs:=by
 refine ⟨h.1,?_⟩
 rcases h.2 with hh | ⟨g,cap,cur,e1,e2,e3,e4⟩
 ·exact Or.inl hh
 ·exact Or.inr ⟨g,cap,cur,e1,e2,hk.at e3 (hn g (by rw [e1]; rfl)),e4⟩
def NoTy (w : World) (S : List Nat) (e : Nat) : Prop:=∀ k ∈ S,∀ cs fr,w.heap[k]?≠some (.cells cs e fr)
theorem kjz {S : List Nat} {w w' : World} {lo e size : Nat} {v : Value} {n : Nat} {xs : List Value} (h : w.ownsRow lo e size v n xs) (hk : xg S w w') (hn : NoTy w S e) : w'.ownsRow lo e size v n xs:=by
 refine owns_st h hk fun k ek hm=>?_
 rcases h.2 with ⟨e1,_⟩ | ⟨g,cap,cur,e1,_,e3,_⟩
 ·rw [e1] at ek; cases ek
 ·rw [e1] at ek
  injection ek with ek
  exact hn k hm _ _ (by rw [← ek]; exact e3)
theorem RowAt.stay {kd : IntKind} {S : List Nat} {w w' : World} {v : Value} {l : List Int} (h : RowAt kd w v l) (hk : xg S w w') (hn : ∀ k,v.ownBlock = some k→k ∉ S) : RowAt kd w' v l:=by
 obtain ⟨xa,xc,e1,hv⟩:=h
 refine ⟨xa,xc,e1,fun h0=>?_⟩
 obtain ⟨g,e2,h2,h3⟩:=hv h0
 have hs:=hk.size
 refine ⟨g,e2,by omega,fun j hj=>?_⟩
 rw [← h3 j hj]
 exact World.cell?_of_block (hk.block g h2 (hn g (by rw [e1,e2]; rfl)))
section
open Go.Sort
variable {P : Program}
def encC (cs : List Value) (k : Nat) : Value:=cs.getD k (.slice none 0 0)
def kqa (ls : List (List Int)) (k : Nat) : List Int:=ls.getD k []
theorem encC_one {cs : List Value} (h : ∀ y ∈ cs,∃ a n c,y = .slice a n c) : Go.Proofs.OneCell (encC cs):=by
 intro k
 unfold encC
 rcases Nat.lt_or_ge k cs.length with hk | hk
 ·rw [List.getD_eq_getElem?_getD,List.getElem?_eq_getElem hk,Option.getD_some]
  obtain ⟨a,n,c,e⟩:=h _ (List.getElem_mem hk)
  rw [e]; rfl
 ·rw [List.getD_eq_getElem?_getD,List.getElem?_eq_none hk]; rfl
theorem range_get {n j : Nat} (hj : j < n) : (Array.range n)[j]! = j:=by
 rw [getElem!_pos _ j (by simpa using hj)]; simp
theorem holdsC {w : World} {lo e blk cap : Nat} {cs : List Value} (h : w.ownsRow lo e 1 (.slice (some ⟨blk,0,none⟩) cs.length cap) cs.length cs) : Holds (encC cs) w blk 0 (Array.range cs.length):=by
 rcases h.2 with ⟨e1,_⟩ | ⟨g,c,cur,e1,_,e3,e4,e5,e6,e7⟩
 ·cases e1
 ·injection e1 with e1 _ _
  injection e1 with e1
  injection e1 with e1
  subst e1
  intro j hj
  have hj' : j < cs.length:=by simpa using hj
  rw [range_get hj']
  refine ⟨?_,?_⟩
  ·unfold World.cell? encC
   simp only [e3,Nat.zero_add]
   have h1 : cur.toList[j]? = cs[j]?:=by rw [← e7,List.getElem?_take_of_lt (by omega)]
   rw [List.getD_eq_getElem?_getD,List.getElem?_eq_getElem hj',Option.getD_some,← List.getElem?_eq_getElem hj',← h1]
   simp
  ·unfold World.frozen?
   simp [e3]
theorem sortWorld_stay {α : Type} [Inhabited α] (enc : α→Value) (w : World) (blk off m : Nat) (d : Array α) (os : Array Obj) : xg [blk] w (sortWorld enc w blk off m d os):=by
 unfold sortWorld
 refine ⟨rfl,rfl,rfl,?_,fun k hk hn=>?_⟩
 ·rw [size_grow,size_putRow]; show w.heap.size≤w.heap.size + _; omega
 ·have hne : blk≠k:=fun e=>hn (by simp [e])
  rw [heap_grow_old _ _ (by rw [size_putRow]; exact hk)]
  simp [putRow,mapBlock,ahead,Array.getElem?_modify,hne]
theorem sortWorld_row {α : Type} [Inhabited α] (enc : α→Value) (w : World) (blk m : Nat) (d : Array α) (os : Array Obj) {cur : Array Value} {e : Nat} {fr : Nat × Nat} (h : w.heap[blk]? = some (.cells cur e fr)) : (sortWorld enc w blk 0 m d os).heap[blk]? = some (.cells (putCells enc 0 d cur) e fr):=by
 unfold sortWorld
 rw [heap_grow_old _ _ (by rw [size_putRow]; exact lt_of_block h)]
 simp [putRow,mapBlock,ahead,Array.getElem?_modify,h,onCells]
theorem putCells_take {α : Type} [Inhabited α] (enc : α→Value) (d : Array α) (cur : Array Value) (h : d.size≤cur.size) : (putCells enc 0 d cur).toList.take d.size = d.toList.map enc:=by
 apply List.ext_getElem?
 intro j
 by_cases hj : j < d.size
 ·rw [List.getElem?_take_of_lt hj,List.getElem?_map,Array.getElem?_toList,Array.getElem?_toList]
  unfold putCells
  rw [Array.getElem?_mapIdx,Array.getElem?_eq_getElem (by omega),Array.getElem?_eq_getElem hj]
  simp [hj]
 ·rw [List.getElem?_eq_none (by simp [putCells]; omega),List.getElem?_eq_none (by simp; omega)]
def SortedPost (S : List Nat) (lo e : Nat) (w : World) (v : Value) (cs : List Value) (ls : List (List Int)) (w' : World) : Prop:=
 xg S w w'∧∃ p : List Nat,p.Perm (List.range cs.length)∧w'.ownsRow lo e 1 v cs.length (p.map (encC cs))∧sortL ls = p.map (kqa ls)
theorem sorted_post {w : World} {lo e blk cap : Nat} {cs : List Value} {ls : List (List Int)} (h : w.ownsRow lo e 1 (.slice (some ⟨blk,0,none⟩) cs.length cap) cs.length cs) (hl : ls.length = cs.length) {d' : Array Nat} {m : Nat} {os : Array Obj}
  (hp : PermIn 0 (Array.range cs.length).size (Array.range cs.length) d') (hs : SortedIn (ltOf fun x y=>cmpL (kqa ls x) (kqa ls y)) 0 (Array.range cs.length).size d') :
  SortedPost [blk] lo e w (.slice (some ⟨blk,0,none⟩) cs.length cap) cs ls (sortWorld (encC cs) w blk 0 m d' os):=by
 obtain ⟨h1,_,h3⟩:=hp
 have hsz : d'.size = cs.length:=by rw [h1]; simp
 have hperm : d'.toList.Perm (List.range cs.length):=by
  have e1 : d'.extract 0 (Array.range cs.length).size = d':=by rw [← h1]; exact Array.extract_size
  rw [e1,Array.extract_size] at h3
  rw [← Array.toList_range]; exact h3
 refine ⟨sortWorld_stay _ _ _ _ _ _ _,d'.toList,hperm,?_,?_⟩
 ·rcases h.2 with ⟨e1,_⟩ | ⟨g,c,cur,e1,e2,e3,e4,e5,e6,e7⟩
  ·cases e1
  ·injection e1 with e1 _ e1'
   injection e1 with e1
   injection e1 with e1
   subst e1; subst e1'
   refine ⟨by simp [hsz],Or.inr ⟨blk,cap,_,rfl,e2,sortWorld_row _ _ _ _ _ _ e3,e4,e5,by simp [putCells,e6],?_⟩⟩
   rw [Nat.mul_one,← hsz]
   exact putCells_take _ _ _ (by omega)
 ·symm
  refine sortL_unique ?_ ?_
  ·have h4 : (List.range cs.length).map (kqa ls) = ls:=by
    apply List.ext_getElem?
    intro j
    rw [List.getElem?_map]
    by_cases hj : j < cs.length
    ·rw [List.getElem?_range hj,Option.map_some,kqa,List.getD_eq_getElem?_getD,List.getElem?_eq_getElem (by omega),Option.getD_some]
    ·rw [List.getElem?_eq_none (by simp; omega),List.getElem?_eq_none (by omega)]; rfl
   have h5:=hperm.map (kqa ls)
   rw [h4] at h5
   exact h5
  ·rw [List.pairwise_map,List.pairwise_iff_getElem]
   intro i j hi hj hij
   have hi' : i < d'.size:=by simpa using hi
   have hj' : j < d'.size:=by simpa using hj
   have:=hs i j (Nat.zero_le _) hij (by simpa [hsz] using hj')
   rw [getElem!_pos d' j hj',getElem!_pos d' i hi'] at this
   unfold ltOf at this
   rw [decide_eq_false_iff_not] at this
   dsimp only at this
   have n:=cmpL_neg (kqa ls d'[i]) (kqa ls d'[j])
   simp only [Array.getElem_toList]
   omega
end
end Go.Proofs.YtpmcnonmkghokaaGreatDoor
namespace Go.Proofs
open Go.Shelf
def Tryz.insI_ren : Go.Shelf.Ren:=⟨fun | 21=>184 | 27=>223 | 28=>224 | 35=>250 | 39=>266 | n=>n,fun | 22=>31 | 3=>3 | 4=>4 | 0=>0 | n=>n,fun | n=>n⟩
theorem Tryz.insI : Go.Proofs.Lays2.n21 Tryz.prog Tryz.insI_ren:={
 mixed:=by kernel_rfl
 f21:=Tryz.func184.trans (congrArg some (by kernel_rfl))
 f27:=Tryz.func223.trans (congrArg some (by kernel_rfl))
 f28:=Tryz.func224.trans (congrArg some (by kernel_rfl))
 f35:=Tryz.func250.trans (congrArg some (by kernel_rfl))
 f39:=Tryz.func266.trans (congrArg some (by kernel_rfl))
 t0:=Tryz.underlying0
 a0:=Tryz.isAgg0
 z0:=Tryz.sizeOf0
 v0:=Tryz.zeroValue0
 t3:=Tryz.underlying3
 a3:=Tryz.isAgg3
 z3:=Tryz.sizeOf3
 v3:=Tryz.zeroValue3
 t4:=Tryz.underlying4
 a4:=Tryz.isAgg4
 z4:=Tryz.sizeOf4
 v4:=Tryz.zeroValue4
 t22:=Tryz.underlying31
 a22:=Tryz.isAgg31
 z22:=Tryz.sizeOf31
 v22:=Tryz.zeroValue31
 i3:=by kernel_rfl }
def Tryz.revS_ren : Go.Shelf.Ren:=⟨fun | 17=>134 | n=>n,fun | 24=>22 | 9=>9 | 3=>3 | 4=>4 | 0=>0 | n=>n,fun | n=>n⟩
theorem Tryz.revS : Go.Proofs.Lays2.n17 Tryz.prog Tryz.revS_ren:={
 mixed:=by kernel_rfl
 f17:=Tryz.func134.trans (congrArg some (by kernel_rfl))
 t0:=Tryz.underlying0
 a0:=Tryz.isAgg0
 z0:=Tryz.sizeOf0
 v0:=Tryz.zeroValue0
 t3:=Tryz.underlying3
 a3:=Tryz.isAgg3
 z3:=Tryz.sizeOf3
 v3:=Tryz.zeroValue3
 t4:=Tryz.underlying4
 a4:=Tryz.isAgg4
 z4:=Tryz.sizeOf4
 v4:=Tryz.zeroValue4
 t9:=Tryz.underlying9
 a9:=Tryz.isAgg9
 z9:=Tryz.sizeOf9
 v9:=Tryz.zeroValue9
 t24:=Tryz.underlying22
 a24:=Tryz.isAgg22
 z24:=Tryz.sizeOf22
 v24:=Tryz.zeroValue22 }
def Tryz.sortI_ren : Go.Shelf.Ren:=⟨fun | 6=>225 | 15=>252 | 14=>251 | 28=>275 | 29=>195 | 20=>267 | 21=>268 | 22=>269 | 23=>270 | 24=>271 | 25=>272 | 26=>273 | 27=>274 | 46=>288 | 47=>289 | 48=>290 | 49=>291 | 50=>292 | 57=>297 | n=>n,fun | 22=>79 | 24=>31 | 25=>373 | 3=>3 | 39=>341 | 0=>0 | 53=>338 | 55=>274 | 4=>4 | 46=>404 | 45=>403 | 50=>408 | 5=>5 | 9=>9 | 66=>416 | 70=>420 | 76=>424 | 77=>317 | n=>n,fun | n=>n⟩
theorem Tryz.sortI : Go.Proofs.SlLaysF.n6 Tryz.prog Tryz.sortI_ren:={
 mixed:=by kernel_rfl
 f6:=⟨Tryz.f225.name,by decide,Tryz.func225.trans (congrArg some (by kernel_rfl))⟩
 f14:=⟨Tryz.f251.name,by decide,Tryz.func251.trans (congrArg some (by kernel_rfl))⟩
 f15:=Tryz.func252.trans (congrArg some (by kernel_rfl))
 f20:=⟨Tryz.f267.name,by decide,Tryz.func267.trans (congrArg some (by kernel_rfl))⟩
 f21:=⟨Tryz.f268.name,by decide,Tryz.func268.trans (congrArg some (by kernel_rfl))⟩
 f22:=⟨Tryz.f269.name,by decide,Tryz.func269.trans (congrArg some (by kernel_rfl))⟩
 f23:=⟨Tryz.f270.name,by decide,Tryz.func270.trans (congrArg some (by kernel_rfl))⟩
 f24:=⟨Tryz.f271.name,by decide,Tryz.func271.trans (congrArg some (by kernel_rfl))⟩
 f25:=⟨Tryz.f272.name,by decide,Tryz.func272.trans (congrArg some (by kernel_rfl))⟩
 f26:=⟨Tryz.f273.name,by decide,Tryz.func273.trans (congrArg some (by kernel_rfl))⟩
 f27:=⟨Tryz.f274.name,by decide,Tryz.func274.trans (congrArg some (by kernel_rfl))⟩
 f28:=Tryz.func275.trans (congrArg some (by kernel_rfl))
 f29:=Tryz.func195.trans (congrArg some (by kernel_rfl))
 f46:=⟨Tryz.f288.name,by decide,Tryz.func288.trans (congrArg some (by kernel_rfl))⟩
 f47:=Tryz.func289.trans (congrArg some (by kernel_rfl))
 f48:=Tryz.func290.trans (congrArg some (by kernel_rfl))
 f49:=⟨Tryz.f291.name,by decide,Tryz.func291.trans (congrArg some (by kernel_rfl))⟩
 f50:=⟨Tryz.f292.name,by decide,Tryz.func292.trans (congrArg some (by kernel_rfl))⟩
 f57:=⟨Tryz.f297.name,by decide,Tryz.func297.trans (congrArg some (by kernel_rfl))⟩
 t0:=Tryz.underlying0
 a0:=Tryz.isAgg0
 z0:=Tryz.sizeOf0
 v0:=Tryz.zeroValue0
 t3:=Tryz.underlying3
 a3:=Tryz.isAgg3
 z3:=Tryz.sizeOf3
 v3:=Tryz.zeroValue3
 t4:=Tryz.underlying4
 a4:=Tryz.isAgg4
 z4:=Tryz.sizeOf4
 v4:=Tryz.zeroValue4
 t5:=Tryz.underlying5
 a5:=Tryz.isAgg5
 z5:=Tryz.sizeOf5
 v5:=Tryz.zeroValue5
 t9:=Tryz.underlying9
 a9:=Tryz.isAgg9
 z9:=Tryz.sizeOf9
 v9:=Tryz.zeroValue9
 t22:=Tryz.underlying79
 a22:=Tryz.isAgg79
 z22:=Tryz.sizeOf79
 v22:=Tryz.zeroValue79
 a24:=Tryz.isAgg31
 z24:=Tryz.sizeOf31
 t25:=Tryz.underlying373
 a25:=Tryz.isAgg373
 z25:=Tryz.sizeOf373
 v25:=Tryz.zeroValue373
 t39:=Tryz.underlying341
 a39:=Tryz.isAgg341
 z39:=Tryz.sizeOf341
 v39:=Tryz.zeroValue341
 t45:=Tryz.underlying403
 a45:=Tryz.isAgg403
 z45:=Tryz.sizeOf403
 v45:=Tryz.zeroValue403
 t46:=Tryz.underlying404
 a46:=Tryz.isAgg404
 z46:=Tryz.sizeOf404
 v46:=Tryz.zeroValue404
 t50:=Tryz.underlying408
 a50:=Tryz.isAgg408
 z50:=Tryz.sizeOf408
 v50:=Tryz.zeroValue408
 t53:=Tryz.underlying338
 a53:=Tryz.isAgg338
 z53:=Tryz.sizeOf338
 v53:=Tryz.zeroValue338
 t55:=Tryz.underlying274
 a55:=Tryz.isAgg274
 z55:=Tryz.sizeOf274
 v55:=Tryz.zeroValue274
 t66:=Tryz.underlying416
 a66:=Tryz.isAgg416
 z66:=Tryz.sizeOf416
 v66:=Tryz.zeroValue416
 t70:=Tryz.underlying420
 a70:=Tryz.isAgg420
 z70:=Tryz.sizeOf420
 v70:=Tryz.zeroValue420
 t76:=Tryz.underlying424
 a76:=Tryz.isAgg424
 z76:=Tryz.sizeOf424
 v76:=Tryz.zeroValue424
 t77:=Tryz.underlying317
 a77:=Tryz.isAgg317
 z77:=Tryz.sizeOf317
 v77:=Tryz.zeroValue317 }
def Tryz.sortS_ren : Go.Shelf.Ren:=⟨fun | 6=>230 | 15=>252 | 14=>255 | 28=>275 | 29=>195 | 20=>278 | 21=>279 | 22=>280 | 23=>281 | 24=>282 | 25=>283 | 26=>284 | 27=>285 | 46=>293 | 47=>289 | 48=>290 | 49=>294 | 50=>295 | 57=>298 | n=>n,fun | 22=>266 | 24=>95 | 25=>376 | 3=>3 | 39=>341 | 0=>0 | 53=>338 | 55=>274 | 4=>4 | 46=>404 | 45=>403 | 50=>408 | 5=>5 | 9=>9 | 66=>416 | 70=>420 | 76=>424 | 77=>317 | n=>n,fun | n=>n⟩
theorem Tryz.sortS : Go.Proofs.SlLaysF.n6 Tryz.prog Tryz.sortS_ren:={
 mixed:=by kernel_rfl
 f6:=⟨Tryz.f230.name,by decide,Tryz.func230.trans (congrArg some (by kernel_rfl))⟩
 f14:=⟨Tryz.f255.name,by decide,Tryz.func255.trans (congrArg some (by kernel_rfl))⟩
 f15:=Tryz.func252.trans (congrArg some (by kernel_rfl))
 f20:=⟨Tryz.f278.name,by decide,Tryz.func278.trans (congrArg some (by kernel_rfl))⟩
 f21:=⟨Tryz.f279.name,by decide,Tryz.func279.trans (congrArg some (by kernel_rfl))⟩
 f22:=⟨Tryz.f280.name,by decide,Tryz.func280.trans (congrArg some (by kernel_rfl))⟩
 f23:=⟨Tryz.f281.name,by decide,Tryz.func281.trans (congrArg some (by kernel_rfl))⟩
 f24:=⟨Tryz.f282.name,by decide,Tryz.func282.trans (congrArg some (by kernel_rfl))⟩
 f25:=⟨Tryz.f283.name,by decide,Tryz.func283.trans (congrArg some (by kernel_rfl))⟩
 f26:=⟨Tryz.f284.name,by decide,Tryz.func284.trans (congrArg some (by kernel_rfl))⟩
 f27:=⟨Tryz.f285.name,by decide,Tryz.func285.trans (congrArg some (by kernel_rfl))⟩
 f28:=Tryz.func275.trans (congrArg some (by kernel_rfl))
 f29:=Tryz.func195.trans (congrArg some (by kernel_rfl))
 f46:=⟨Tryz.f293.name,by decide,Tryz.func293.trans (congrArg some (by kernel_rfl))⟩
 f47:=Tryz.func289.trans (congrArg some (by kernel_rfl))
 f48:=Tryz.func290.trans (congrArg some (by kernel_rfl))
 f49:=⟨Tryz.f294.name,by decide,Tryz.func294.trans (congrArg some (by kernel_rfl))⟩
 f50:=⟨Tryz.f295.name,by decide,Tryz.func295.trans (congrArg some (by kernel_rfl))⟩
 f57:=⟨Tryz.f298.name,by decide,Tryz.func298.trans (congrArg some (by kernel_rfl))⟩
 t0:=Tryz.underlying0
 a0:=Tryz.isAgg0
 z0:=Tryz.sizeOf0
 v0:=Tryz.zeroValue0
 t3:=Tryz.underlying3
 a3:=Tryz.isAgg3
 z3:=Tryz.sizeOf3
 v3:=Tryz.zeroValue3
 t4:=Tryz.underlying4
 a4:=Tryz.isAgg4
 z4:=Tryz.sizeOf4
 v4:=Tryz.zeroValue4
 t5:=Tryz.underlying5
 a5:=Tryz.isAgg5
 z5:=Tryz.sizeOf5
 v5:=Tryz.zeroValue5
 t9:=Tryz.underlying9
 a9:=Tryz.isAgg9
 z9:=Tryz.sizeOf9
 v9:=Tryz.zeroValue9
 t22:=Tryz.underlying266
 a22:=Tryz.isAgg266
 z22:=Tryz.sizeOf266
 v22:=Tryz.zeroValue266
 a24:=Tryz.isAgg95
 z24:=Tryz.sizeOf95
 t25:=Tryz.underlying376
 a25:=Tryz.isAgg376
 z25:=Tryz.sizeOf376
 v25:=Tryz.zeroValue376
 t39:=Tryz.underlying341
 a39:=Tryz.isAgg341
 z39:=Tryz.sizeOf341
 v39:=Tryz.zeroValue341
 t45:=Tryz.underlying403
 a45:=Tryz.isAgg403
 z45:=Tryz.sizeOf403
 v45:=Tryz.zeroValue403
 t46:=Tryz.underlying404
 a46:=Tryz.isAgg404
 z46:=Tryz.sizeOf404
 v46:=Tryz.zeroValue404
 t50:=Tryz.underlying408
 a50:=Tryz.isAgg408
 z50:=Tryz.sizeOf408
 v50:=Tryz.zeroValue408
 t53:=Tryz.underlying338
 a53:=Tryz.isAgg338
 z53:=Tryz.sizeOf338
 v53:=Tryz.zeroValue338
 t55:=Tryz.underlying274
 a55:=Tryz.isAgg274
 z55:=Tryz.sizeOf274
 v55:=Tryz.zeroValue274
 t66:=Tryz.underlying416
 a66:=Tryz.isAgg416
 z66:=Tryz.sizeOf416
 v66:=Tryz.zeroValue416
 t70:=Tryz.underlying420
 a70:=Tryz.isAgg420
 z70:=Tryz.sizeOf420
 v70:=Tryz.zeroValue420
 t76:=Tryz.underlying424
 a76:=Tryz.isAgg424
 z76:=Tryz.sizeOf424
 v76:=Tryz.zeroValue424
 t77:=Tryz.underlying317
 a77:=Tryz.isAgg317
 z77:=Tryz.sizeOf317
 v77:=Tryz.zeroValue317 }
end Go.Proofs
namespace Go.Proofs.YtpmcnonmkghokaaGreatDoor
open Go.RowKit
attribute [local go_sem ↓] Go.wp_at_zero Go.wp_at_succ
theorem rowAt_nil (kd : IntKind) (w : World) : RowAt kd w (.slice none 0 0) []:=⟨none,0,rfl,fun h=>by simp at h⟩
def RowsAt (kd : IntKind) (w : World) (cs : List Value) (ls : List (List Int)) : Prop:=ls.length = cs.length∧∀ k (hk : k < cs.length) (hl : k < ls.length),RowAt kd w cs[k] ls[k]∧ls[k].length≤1000000
theorem RowsAt.slices {kd : IntKind} {w : World} {cs : List Value} {ls : List (List Int)} (h : RowsAt kd w cs ls) : ∀ y ∈ cs,∃ a n c,y = .slice a n c:=by
 intro y hy
 obtain ⟨k,hk,rfl⟩:=List.getElem_of_mem hy
 obtain ⟨⟨a,c,e,_⟩,_⟩:=h.2 k hk (by rw [h.1]; exact hk)
 exact ⟨a,_,c,e⟩
theorem RowsAt.sorting {kd : IntKind} {w : World} {cs : List Value} {ls : List (List Int)} {lo e blk cap : Nat} (h : RowsAt kd w cs ls) (ho : w.ownsRow lo e 1 (.slice (some ⟨blk,0,none⟩) cs.length cap) cs.length cs) (m : Nat) (os : Array Obj) (dk : Array Nat) (x : Nat) :
  RowAt kd (sortWorld (encC cs) w blk 0 m dk os) (encC cs x) (kqa ls x)∧(kqa ls x).length≤1000000:=by
 unfold encC kqa
 rcases Nat.lt_or_ge x cs.length with hx | hx
 ·have hl : x < ls.length:=by rw [h.1]; exact hx
  rw [List.getD_eq_getElem?_getD,List.getElem?_eq_getElem hx,List.getD_eq_getElem?_getD,List.getElem?_eq_getElem hl,Option.getD_some,Option.getD_some]
  obtain ⟨h1,h2⟩:=h.2 x hx hl
  refine ⟨?_,h2⟩
  have hst:=sortWorld_stay (encC cs) w blk 0 m dk os
  refine h1.cells hst.size fun g c t fr hg ⟨y,hy⟩=>hst.block g (lt_of_block hg) fun hm=>?_
  have e1 : g = blk:=by simpa using hm
  subst e1
  rcases ho.2 with ⟨e1,_⟩ | ⟨g2,c2,cur,e1,_,e3,e4,e5,e6,e7⟩
  ·cases e1
  ·injection e1 with e1 _ _
   injection e1 with e1
   injection e1 with e1
   subst e1
   rw [e3] at hg
   injection hg with hg
   injection hg with hg _ _
   subst hg
   obtain ⟨a,n,c,ec⟩:=h.slices cs[0] (List.getElem_mem (by omega))
   have h0 : cs[0]? = cur.toList[0]?:=by rw [← e7,List.getElem?_take_of_lt (by omega)]
   rw [List.getElem?_eq_getElem (by omega),ec] at h0
   rw [Array.getElem?_toList,hy] at h0
   cases h0
 ·rw [List.getD_eq_getElem?_getD,List.getElem?_eq_none hx,List.getD_eq_getElem?_getD,List.getElem?_eq_none (by rw [h.1]; exact hx)]
  exact ⟨rowAt_nil _ _,by simp⟩
set_option maxHeartbeats 1000000 in
theorem sortInts_any (w : World) (lo : Nat) (cs : List Value) (ls : List (List Int)) (la : Option Addr) (ll lc : Nat) (ho : w.ownsRow lo 31 1 (.slice la ll lc) cs.length cs) (h : RowsAt .i64 w cs ls) (hn : cs.length≤1000000) :
  Calls Tryz.prog 186 #[.slice la ll lc] w fun e w'=>e = .returned (.tuple #[])∧∃ S,(∀ k ∈ S,(Value.slice la ll lc).ownBlock = some k)∧SortedPost S lo 31 w (.slice la ll lc) cs ls w':=by
 rcases ho.2 with ⟨e1,e2⟩ | ⟨g,cap,cur,e1,e2,e3,e4⟩
 ·injection e1 with e1 e1' e1''
  subst e1; subst e1'; subst e1''
  have hcs : cs = []:=List.eq_nil_of_length_eq_zero e2
  subst hcs
  have hls : ls = []:=List.eq_nil_of_length_eq_zero h.1
  subst hls
  have hcon:=AnyF.slices_SortFunc_none (P:=Tryz.prog) (ρ:=Tryz.sortI_ren) { Tryz.sortI with } none 0 (.func (.func 226) #[] #[]) w
  change Calls Tryz.prog 225 _ _ _ at hcon
  have HO:=hide ho
  clear ho h e2 hn
  go_enter Tryz.func186,Tryz.ntmps186
  go_wp2_with (go_at_call 225; refine hcon.mono ?_; rintro e w' ⟨rfl,rfl⟩)
  go_end0
  exact ⟨rfl,[],by simp,xg.refl _ _,[],List.Perm.refl _,ku HO,rfl⟩
 ·injection e1 with e1 e1' e1''
  subst e1; subst e1'; subst e1''
  have eg : ∀ args w,(callFunc 226 args).run Tryz.prog w = .ok (.enter 226 args) w:=enters_of Tryz.func226 (by kernel_rfl) rfl
  have hcon:=Any.slices_SortFunc Tryz.sortI (encC cs) (encC_one h.slices) (fun x y=>cmpL (kqa ls x) (kqa ls y)) (cmpL_swo (kqa ls)) 226 #[] g 0 lc (Array.range cs.length) w eg (fun m os dk _ x y=>by
   have hx:=h.sorting ho m os dk x
   have hy:=h.sorting ho m os dk y
   exact (cmpInts_any _ _ _ _ _ hx.1 hy.1 hx.2 hy.2).mono fun _ _ ⟨he,q,hq⟩=>⟨he,q,#[],by rw [hq,Go.Sort.grow_empty]⟩) (holdsC ho) (lt_of_block e3) (by simp; omega)
  change Calls Tryz.prog 225 _ _ _ at hcon
  simp only [Array.size_range] at hcon
  have HP:=hide (fun (d' : Array Nat) (m : Nat) (os : Array Obj) hp hs=>sorted_post (ls:=ls) ho h.1 (d':=d') (m:=m) (os:=os) hp hs)
  clear ho h e2 e3 e4 hn
  go_enter Tryz.func186,Tryz.ntmps186
  go_wp2_with (go_at_call 225; refine hcon.mono ?_; rintro e w' ⟨rfl,d',n,os,hp,hs,rfl⟩)
  go_end0
  exact ⟨rfl,[g],by simp [Value.ownBlock],(ku HP) d' n os (by simpa using hp) (by simpa using hs)⟩
end Go.Proofs.YtpmcnonmkghokaaGreatDoor

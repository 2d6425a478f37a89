import Derived.Test.YtpmcnonmkghokaaGreatDoorT07
import Derived.Maps.Own
set_option linter.unusedVariables false
set_option linter.unusedSimpArgs false
namespace Go.Proofs.YtpmcnonmkghokaaGreatDoor
open Go.RowKit
def fAt (z : Int) : Int:=if z < 0 then 0 else z
def noteW (w : World) (B o : Nat) (z a : Int) : World:=if z < 0∨a < z then (w.setCell ⟨B,o,none⟩ (.bool true)).setCell ⟨B,o + 1,none⟩ (.int .i64 a) else w
set_option maxRecDepth 100000 in
set_option maxHeartbeats 1000000 in
theorem note_any (w : World) (B o : Nat) (z a : Int) (c0 : w.cell? ⟨B,o,none⟩ = some (.bool (decide (0≤z)))) (c1 : w.cell? ⟨B,o + 1,none⟩ = some (.int .i64 (fAt z))) (f0 : w.frozen? ⟨B,o,none⟩ = false) (f1 : w.frozen? ⟨B,o + 1,none⟩ = false) :
  Calls Tryz.prog 212 #[.pointer (some ⟨B,o,none⟩),.int .i64 a] w fun e w'=>e = .returned (.tuple #[])∧w' = noteW w B o z a:=by
 by_cases hz : z < 0
 ·have E:=hide (show noteW w B o z a = (w.setCell ⟨B,o,none⟩ (.bool true)).setCell ⟨B,o + 1,none⟩ (.int .i64 a) by unfold noteW; rw [if_pos (Or.inl hz)])
  rw [show decide (0≤z) = false by simp; omega] at c0
  go_enter Tryz.func212,Tryz.ntmps212
  go_wp2
  go_end0
  rw [ku E]
  exact ⟨rfl,rfl⟩
 ·rw [show decide (0≤z) = true by simp; omega] at c0
  rw [show fAt z = z by unfold fAt; rw [if_neg hz]] at c1
  by_cases ha : a < z
  ·have E:=hide (show noteW w B o z a = (w.setCell ⟨B,o,none⟩ (.bool true)).setCell ⟨B,o + 1,none⟩ (.int .i64 a) by unfold noteW; rw [if_pos (Or.inr ha)])
   go_enter Tryz.func212,Tryz.ntmps212
   go_wp2
   go_end0
   rw [ku E]
   exact ⟨rfl,rfl⟩
  ·have E:=hide (show noteW w B o z a = w by unfold noteW; rw [if_neg (by omega)])
   go_enter Tryz.func212,Tryz.ntmps212
   go_wp2
   go_end0
   rw [ku E]
   exact ⟨rfl,rfl⟩
def FB (w : World) (B : Nat) (z : Int) : Prop:=w.heap[B]? = some (.cells #[.bool (decide (0≤z)),.int .i64 (fAt z)] 199 (0,0))
theorem firstI_note (z a : Int) (ha : 0≤a) : firstI z a = if z < 0∨a < z then a else z:=by
 unfold firstI
 by_cases h : z < 0∨a < z
 ·rw [if_pos h,if_pos (by omega)]
 ·rw [if_neg h,if_neg (by omega)]
theorem FB.note {w : World} {B : Nat} {z : Int} (h : FB w B z) {a : Int} (ha : 0≤a) : FB (noteW w B 0 z a) B (firstI z a):=by
 unfold FB at *
 rw [firstI_note z a ha]
 unfold noteW
 by_cases hh : z < 0∨a < z
 ·rw [if_pos hh,if_pos hh]
  have:=set2 h (.bool true) (.int .i64 a)
  rw [show decide (0≤a) = true by simp; omega,show fAt a = a by unfold fAt; rw [if_neg (by omega)]]
  exact this
 ·rw [if_neg hh,if_neg hh]; exact h
theorem Kept.note (B o : Nat) (w : World) (z a : Int) : Kept B w (noteW w B o z a):=by
 unfold noteW
 split
 ·exact ((Kept.refl _ _).setR _ _).setR _ _
 ·exact Kept.refl _ _
theorem FB.kept {w w' : World} {B : Nat} {z : Int} (h : FB w B z) (hb : Below w.heap.size w w') : FB w' B z:=by
 unfold FB at *
 rw [hb.block B (lt_of_block h)]; exact h
def cntI (z : Int) (n : Int) (most : Int) (t : Tok) : Int:=if most≤n then firstI z t.at_ else z
def sizI (z : Int) (t : Tok) (lo hi : Int) : Int:=if yu t.text < lo∨hi < yu t.text then firstI z t.at_ else z
set_option maxRecDepth 100000 in
set_option maxHeartbeats 1000000 in
theorem count_any (w : World) (B : Nat) (z n most : Int) (t : Tok) (h : FB w B z) :
  Calls Tryz.prog 153 #[.pointer (some ⟨B,0,none⟩),.int .i64 n,.int .i64 most,ptV t] w fun e w'=>e = .returned (.tuple #[])∧FB w' B (cntI z n most t)∧Kept B w w':=by
 unfold ptV
 have hl:=lt_of_block h
 by_cases hm : most≤n
 ·have E:=hide (show cntI z n most t = firstI z t.at_ by unfold cntI; rw [if_pos hm])
  have h1 : FB (w.alloc (.cells #[.string t.text,.int .i64 t.at_] 107)) B z:=h.kept (below_alloc1 _ _)
  obtain ⟨c0,c1,f0,f1⟩:=uw h1
  have H1:=hide h1
  go_enter Tryz.func153,Tryz.ntmps153
  go_wp2_with fail
  refine (note_any _ B 0 z t.at_ c0 c1 f0 f1).mono ?_
  rintro e w1 ⟨rfl,hw⟩
  subst hw
  go_wp2
  go_end0
  rw [ku E]
  exact ⟨rfl,(ku H1).note (by omega),(Kept.gq _).trans (Kept.note _ _ _ _ _)⟩
 ·have E:=hide (show cntI z n most t = z by unfold cntI; rw [if_neg hm])
  go_enter Tryz.func153,Tryz.ntmps153
  go_wp2
  go_end0
  rw [ku E]
  exact ⟨rfl,h.kept (below_alloc1 _ _),Kept.gq _⟩
set_option maxRecDepth 100000 in
set_option maxHeartbeats 1000000 in
theorem size_any (w : World) (B : Nat) (z lo hi : Int) (t : Tok) (h : FB w B z) :
  Calls Tryz.prog 154 #[.pointer (some ⟨B,0,none⟩),dgV t,.int .i64 lo,.int .i64 hi] w fun e w'=>e = .returned (.tuple #[])∧FB w' B (sizI z t lo hi)∧Kept B w w':=by
 unfold dgV
 have hl:=lt_of_block h
 have h1 : FB (w.alloc (.cells #[.int .i64 (yu t.text),.int .i64 t.at_] 109)) B z:=h.kept (below_alloc1 _ _)
 obtain ⟨c0,c1,f0,f1⟩:=uw h1
 have H1:=hide h1
 have HN:=hide (note_any _ B 0 z t.at_ c0 c1 f0 f1)
 have E:=hide (show sizI z t lo hi = if yu t.text < lo∨hi < yu t.text then firstI z t.at_ else z from rfl)
 generalize yu t.text = d at *
 clear h1 c0 c1 f0 f1
 by_cases h1 : d < lo
 ·rw [if_pos (Or.inl h1)] at E
  go_enter Tryz.func154,Tryz.ntmps154
  go_wp2_with fail
  refine (ku HN).mono ?_
  rintro e w1 ⟨rfl,hw⟩
  subst hw
  go_wp2
  go_end0
  rw [ku E]
  exact ⟨rfl,(ku H1).note (by omega),(Kept.gq _).trans (Kept.note _ _ _ _ _)⟩
 ·by_cases h2 : hi < d
  ·rw [if_pos (Or.inr h2)] at E
   go_enter Tryz.func154,Tryz.ntmps154
   go_wp2_with fail
   refine (ku HN).mono ?_
   rintro e w1 ⟨rfl,hw⟩
   subst hw
   go_wp2
   go_end0
   rw [ku E]
   exact ⟨rfl,(ku H1).note (by omega),(Kept.gq _).trans (Kept.note _ _ _ _ _)⟩
  ·rw [if_neg (by omega)] at E
   go_enter Tryz.func154,Tryz.ntmps154
   go_wp2
   go_end0
   rw [ku E]
   exact ⟨rfl,ku H1,Kept.gq _⟩
theorem qm {w : World} {lo e size : Nat} {v : Value} {n : Nat} {xs : List Value} (h : w.ownsRow lo e size v n xs) :
  ∃ a cap,v = .slice a n cap∧∀ i,i < n→∃ g,a = some ⟨g,0,none⟩∧lo≤g∧g < w.heap.size∧∀ j,j < n * size→w.cell? ⟨g,j,none⟩ = xs[j]?:=by
 rcases h.2 with ⟨rfl,rfl⟩ | ⟨g,cap,cur,rfl,hg,hh,h3,h4,h5,h6⟩
 ·exact ⟨none,0,rfl,fun i hi=>by omega⟩
 ·refine ⟨_,cap,rfl,fun i hi=>⟨g,rfl,hg,lt_of_block hh,fun j hj=>?_⟩⟩
  rw [cell_of_row w g j _ _ _ hh,← h6,List.getElem?_take_of_lt hj]; simp
def NRel {α : Type} (W : World) (B : Nat) (f : Int→Nat→α→Int) (items : List α) (z0 : Int) (i : Value) (wr : World) : Prop:=
 ∃ (k : Nat) (a : Int),k≤items.length∧i = .int .i64 k∧kqg f (items.drop k) k a = kqg f items 0 z0∧FB wr B a∧Kept B W wr
theorem NRel.start {α : Type} {W wr : World} {B : Nat} {f : Int→Nat→α→Int} {items : List α} {z : Int} (hf : FB wr B z) (hk : Kept B W wr) : NRel W B f items z (.int .i64 0) wr:=
 ⟨0,z,Nat.zero_le _,rfl,rfl,hf,hk⟩
theorem NRel.next {α : Type} {W wr : World} {B : Nat} {f : Int→Nat→α→Int} {items : List α} {z a : Int} {k : Nat} (hk : k < items.length) (h : kqg f (items.drop k) k a = kqg f items 0 z) (hf : FB wr B (f a k items[k])) (hw : Kept B W wr) :
  NRel W B f items z (.int .i64 ((k : Int) + 1)) wr:=by
 refine ⟨k + 1,_,hk,by go_num,?_,hf,hw⟩
 rw [List.drop_eq_getElem_cons hk,kqg] at h
 exact h
def cntP (a : Int) (i : Nat) (p : PP) : Int:=cntI a i 2 p.name
set_option maxRecDepth 100000 in
set_option maxHeartbeats 1000000 in
theorem countParams_any (w : World) (B lo : Nat) (z : Int) (l : List PP) (x : Value) (h : FB w B z) (hl : l.length≤1000) (ho : w.ownsRow lo 352 4 x l.length (jq l)) (hB : x.ownBlock≠some B) :
  Calls Tryz.prog 155 #[.pointer (some ⟨B,0,none⟩),x] w fun e w'=>e = .returned (.tuple #[])∧FB w' B (kqg cntP l 0 z)∧Kept B w w':=by
 obtain ⟨xa,cap,rfl,hview⟩:=qm ho
 have HW:=hide hview
 have H:=hide h
 clear hview h
 go_enter Tryz.func155,Tryz.ntmps155
 go_wp2_with fail
 go_loopw [4,5,8] (fun _ _ i wr=>NRel w B cntP l z i wr) (fun _ _ i _=>l.length - (intOf i).toNat)
 case atStart=>exact NRel.start (ku H) (Kept.refl _ _)
 case round=>
  obtain ⟨k,a,hk,rfl,hfo,hfb,hkp⟩:=hrel
  have HFO:=hide hfo
  have HFB:=hide hfb
  have HK:=hide hkp
  have hsz:=hkp.size
  clear hfo hfb
  by_cases hlt : k < l.length
  ·obtain ⟨g,rfl,hg1,hg2,hc⟩:=ku HW k hlt
   have hgB : g≠B:=fun e=>hB (by simp [Value.ownBlock,e])
   have fl:=fun j (hj : j < 4)=>kqy kqs 4 (fun _=>rfl) l k j hlt hj
   have e0:=hkp.cell (a:=⟨g,k * 4 + 0,none⟩) hgB ((hc (k * 4 + 0) (by omega)).trans (fl 0 (by omega)))
   have e1:=hkp.cell (a:=⟨g,k * 4 + 1,none⟩) hgB ((hc (k * 4 + 1) (by omega)).trans (fl 1 (by omega)))
   have e2:=hkp.cell (a:=⟨g,k * 4 + 2,none⟩) hgB ((hc (k * 4 + 2) (by omega)).trans (fl 2 (by omega)))
   have e3:=hkp.cell (a:=⟨g,k * 4 + 3,none⟩) hgB ((hc (k * 4 + 3) (by omega)).trans (fl 3 (by omega)))
   have HNX:=hide (fun (w' : World) (hf : FB w' B (cntI a k 2 (l[k]).name)) (hw : Kept B w w')=>NRel.next (W:=w) (wr:=w') (B:=B) (f:=cntP) (items:=l) (z:=z) (a:=a) hlt (ku HFO) hf hw)
   simp only [kqs,List.getElem?_cons_zero,List.getElem?_cons_succ,Nat.add_zero] at e0 e1 e2 e3
   generalize l[k] = p at e0 e1 e2 e3 HNX
   clear hc fl hkp HFO
   go_wp2_with fail
   refine (count_any _ B a k 2 p.name ((ku HFB).kept (below_alloc1 _ _))).mono ?_
   rintro e w1 ⟨rfl,h1,hk1⟩
   have HN:=hide (ku HNX _ h1 (((ku HK).alloc _).trans hk1))
   clear h1 hk1 HNX
   go_wp2
   go_roundw
   case rel=>exact ku HN
   case measure=>simp [intOf]; omega
  ·have hd:=fold_done hlt (ku HFO)
   go_wp2
   go_end0
   rw [← hd]
   exact ⟨rfl,ku HFB,ku HK⟩
theorem kd_at {lo : Nat} {w : World} : ∀ {ks : List PKind} {cs : List Value} (i : Nat) (hi : i < ks.length),kjf lo w ks cs →
  ∃ ma mn mc,cs[i * 3]? = some (.string (ks[i]).name.text)∧cs[i * 3 + 1]? = some (.int .i64 (ks[i]).name.at_)∧cs[i * 3 + 2]? = some (.slice ma mn mc)∧w.ownsRow lo 107 2 (.slice ma mn mc) (ks[i]).members.length (uf (ks[i]).members)
 | [],_,i,hi,_=>by simp at hi
 | k :: ks,cs,0,_,⟨ma,mn,mc,rest,e,h1,h2⟩=>by subst e; exact ⟨ma,mn,mc,rfl,rfl,rfl,h1⟩
 | k :: ks,cs,i + 1,hi,⟨ma,mn,mc,rest,e,h1,h2⟩=>by
  subst e
  obtain ⟨a,b,c,q0,q1,q2,q3⟩:=kd_at i (by simpa using hi) h2
  refine ⟨a,b,c,?_,?_,?_,q3⟩
  ·rw [show (i + 1) * 3 = i * 3 + 3 by omega,List.getElem?_append_right (by simp)]; simpa using q0
  ·rw [show (i + 1) * 3 + 1 = i * 3 + 1 + 3 by omega,List.getElem?_append_right (by simp)]; simpa using q1
  ·rw [show (i + 1) * 3 + 2 = i * 3 + 2 + 3 by omega,List.getElem?_append_right (by simp)]; simpa using q2
theorem ru_at {lo : Nat} {w : World} : ∀ {rs : List PRule} {cs : List Value} (i : Nat) (hi : i < rs.length),kjn lo w rs cs →
  ∃ pa pn pc gp ba bn bc bcs,(cs[i * 5]? = some (.string (rs[i]).name.text)∧cs[i * 5 + 1]? = some (.int .i64 (rs[i]).name.at_)∧cs[i * 5 + 2]? = some (.slice pa pn pc)∧cs[i * 5 + 3]? = some (.pointer gp)∧cs[i * 5 + 4]? = some (.slice ba bn bc)) ∧
   w.ownsRow lo 352 4 (.slice pa pn pc) (rs[i]).params.length (jq (rs[i]).params)∧XIs lo w (rs[i]).guard (.pointer gp)∧w.ownsRow lo 334 9 (.slice ba bn bc) (vg (rs[i]).body) bcs∧BIs lo none w (rs[i]).body bcs
 | [],_,i,hi,_=>by simp at hi
 | r :: rs,cs,0,_,⟨pa,pn,pc,gp,ba,bn,bc,bcs,rest,e,h1,h2,h3,h4,h5⟩=>by subst e; exact ⟨pa,pn,pc,gp,ba,bn,bc,bcs,⟨rfl,rfl,rfl,rfl,rfl⟩,h1,h2,h3,h4⟩
 | r :: rs,cs,i + 1,hi,⟨pa,pn,pc,gp,ba,bn,bc,bcs,rest,e,h1,h2,h3,h4,h5⟩=>by
  subst e
  obtain ⟨a1,a2,a3,a4,a5,a6,a7,a8,⟨q0,q1,q2,q3,q4⟩,r1⟩:=ru_at i (by simpa using hi) h5
  refine ⟨a1,a2,a3,a4,a5,a6,a7,a8,⟨?_,?_,?_,?_,?_⟩,r1⟩
  ·rw [show (i + 1) * 5 = i * 5 + 5 by omega,List.getElem?_append_right (by simp)]; simpa using q0
  ·rw [show (i + 1) * 5 + 1 = i * 5 + 1 + 5 by omega,List.getElem?_append_right (by simp)]; simpa using q1
  ·rw [show (i + 1) * 5 + 2 = i * 5 + 2 + 5 by omega,List.getElem?_append_right (by simp)]; simpa using q2
  ·rw [show (i + 1) * 5 + 3 = i * 5 + 3 + 5 by omega,List.getElem?_append_right (by simp)]; simpa using q3
  ·rw [show (i + 1) * 5 + 4 = i * 5 + 4 + 5 by omega,List.getElem?_append_right (by simp)]; simpa using q4
theorem nv_at {lo : Nat} {w : World} : ∀ {rs : List PRule} {cs : List Value} (i : Nat) (hi : i < rs.length),kjl lo w rs cs →
  ∃ pa pn pc gp,(cs[i * 4]? = some (.string (rs[i]).name.text)∧cs[i * 4 + 1]? = some (.int .i64 (rs[i]).name.at_)∧cs[i * 4 + 2]? = some (.slice pa pn pc)∧cs[i * 4 + 3]? = some (.pointer gp)) ∧
   w.ownsRow lo 352 4 (.slice pa pn pc) (rs[i]).params.length (jq (rs[i]).params)∧XIs lo w (rs[i]).guard (.pointer gp)
 | [],_,i,hi,_=>by simp at hi
 | r :: rs,cs,0,_,⟨pa,pn,pc,gp,rest,e,h1,h2,h5⟩=>by subst e; exact ⟨pa,pn,pc,gp,⟨rfl,rfl,rfl,rfl⟩,h1,h2⟩
 | r :: rs,cs,i + 1,hi,⟨pa,pn,pc,gp,rest,e,h1,h2,h5⟩=>by
  subst e
  obtain ⟨a1,a2,a3,a4,⟨q0,q1,q2,q3⟩,r1⟩:=nv_at i (by simpa using hi) h5
  refine ⟨a1,a2,a3,a4,⟨?_,?_,?_,?_⟩,r1⟩
  ·rw [show (i + 1) * 4 = i * 4 + 4 by omega,List.getElem?_append_right (by simp)]; simpa using q0
  ·rw [show (i + 1) * 4 + 1 = i * 4 + 1 + 4 by omega,List.getElem?_append_right (by simp)]; simpa using q1
  ·rw [show (i + 1) * 4 + 2 = i * 4 + 2 + 4 by omega,List.getElem?_append_right (by simp)]; simpa using q2
  ·rw [show (i + 1) * 4 + 3 = i * 4 + 3 + 4 by omega,List.getElem?_append_right (by simp)]; simpa using q3
def pS (a : Int) (i : Nat) (s : PSet) : Int:=sizI (cntI a i 2 s.name) s.size 2 3
def pM (a : Int) (i : Nat) (m : Tok) : Int:=cntI a i 4 m
def pK (a : Int) (i : Nat) (k : PKind) : Int:=kqg pM k.members 0 (cntI a i 2 k.name)
def pV (a : Int) (i : Nat) (v : VrT) : Int:=if v.si.form == 1 then sizI (cntI a i 4 v.name) v.si.top 1 3 else cntI a i 4 v.name
def pR (a : Int) (i : Nat) (r : PRule) : Int:=kqg cntP r.params 0 (cntI a i 5 r.name)
def pN (a : Int) (i : Nat) (r : PRule) : Int:=kqg cntP r.params 0 (cntI a i 3 r.name)
def pm1 (m : MdL) : Int:=kqg pS m.sets 0 (-1)
def pm2 (m : MdL) : Int:=kqg pK m.kinds 0 (pm1 m)
def pm3 (m : MdL) : Int:=kqg pV m.vars 0 (pm2 m)
def pm4 (m : MdL) : Int:=kqg pR m.rules 0 (pm3 m)
def pManyI (m : MdL) : Int:=kqg pN m.nevers 0 (pm4 m)
structure MdOk (m : MdL) : Prop where
 sets : m.sets.length≤1000
 kinds : m.kinds.length≤1000
 vars : m.vars.length≤1000
 rules : m.rules.length≤1000
 nevers : m.nevers.length≤1000
 members : ∀ k ∈ m.kinds,k.members.length≤1000
 params : ∀ r ∈ m.rules ++ m.nevers,r.params.length≤1000
set_option maxRecDepth 100000 in
set_option maxHeartbeats 8000000 in
theorem ptooMany_any (w : World) (lo : Nat) (x0 x1 x2 x3 x4 : Value) (m : MdL) (h : MdIs lo w x0 x1 x2 x3 x4 m) (hok : MdOk m) :
  Calls Tryz.prog 91 #[.agg #[x0,x1,x2,x3,x4]] w fun e w'=>e = .returned (.agg #[.bool (decide (0≤pManyI m)),.int .i64 (fAt (pManyI m))])∧Below w.heap.size w w':=by
 obtain ⟨h0,⟨c1,h1,k1⟩,h2,⟨c3,h3,k3⟩,⟨c4,h4,k4⟩⟩:=h
 have l0:=kq6 h0
 have l1:=kq6 h1
 have l2:=kq6 h2
 have l3:=kq6 h3
 have l4:=kq6 h4
 obtain ⟨hok0,hok1,hok2,hok3,hok4,hok5,hok6⟩:=hok
 have hok : MdOk m:=⟨hok0,hok1,hok2,hok3,hok4,hok5,hok6⟩
 obtain ⟨W,hW⟩ : ∃ W,W = ((w.alloc (.cells #[x0,x1,x2,x3,x4] 68)).alloc (.cells #[.bool false,.int .i64 0] 199)).alloc (.cells #[.bool false,.int .i64 0] 199):=⟨_,rfl⟩
 have hbW : Below w.heap.size w W:=by
  rw [hW]
  exact ((below_alloc1 w _).trans ((below_alloc1 _ _).mono (by simp))).trans ((below_alloc1 _ _).mono (by simp; omega))
 have hsW : W.heap.size = w.heap.size + 3:=by rw [hW]; simp
 obtain ⟨B,hB⟩ : ∃ B,B = w.heap.size + 1 + 1:=⟨_,rfl⟩
 have HWE:=hide hW.symm
 have HBX:=hide (show W.heap[w.heap.size]? = some (.cells #[x0,x1,x2,x3,x4] 68 (0,0)) by rw [hW]; exact ql (ql (qg _ _)))
 have HB0:=hide (show W.heap[w.heap.size + 1]? = some (.cells #[.bool false,.int .i64 0] 199 (0,0)) by
  rw [hW]
  have:=qg (w.alloc (.cells #[x0,x1,x2,x3,x4] 68)) (.cells #[.bool false,.int .i64 0] 199)
  simp only [World.size_alloc] at this
  exact ql this)
 have HFW:=hide (show FB W B (-1) by
  rw [hW,hB]
  have:=qg ((w.alloc (.cells #[x0,x1,x2,x3,x4] 68)).alloc (.cells #[.bool false,.int .i64 0] 199)) (.cells #[.bool false,.int .i64 0] 199)
  simp only [World.size_alloc] at this
  exact this)
 have st : ∀ k,lo≤k→k < w.heap.size→W.heap[k]? = w.heap[k]?:=fun k _ hk=>hbW.block k hk
 have vw : ∀ {e size : Nat} {v : Value} {n : Nat} {xs : List Value},w.ownsRow lo e size v n xs→∃ a cap,v = .slice a n cap∧∀ i,i < n→∃ g,a = some ⟨g,0,none⟩∧lo≤g∧g < w.heap.size∧∀ j,j < n * size→W.cell? ⟨g,j,none⟩ = xs[j]?:=by
  intro e size v n xs h
  obtain ⟨a,cap,e1,hv⟩:=qm h
  refine ⟨a,cap,e1,fun i hi=>?_⟩
  obtain ⟨g,q1,q2,q3,q4⟩:=hv i hi
  exact ⟨g,q1,q2,q3,fun j hj=>(hbW.cell (p:=⟨g,j,none⟩) q3).trans (q4 j hj)⟩
 have HMem:=hide (fun (v : Value) (n : Nat) (xs : List Value) (h : W.ownsRow lo 107 2 v n xs)=>h)
 obtain ⟨a0,cp0,rfl,v0⟩:=vw h0
 obtain ⟨a1,cp1,rfl,v1⟩:=vw h1
 obtain ⟨a2,cp2,rfl,v2⟩:=vw h2
 obtain ⟨a3,cp3,rfl,v3⟩:=vw h3
 obtain ⟨a4,cp4,rfl,v4⟩:=vw h4
 have HW0:=hide v0
 have HW1:=hide v1
 have HW2:=hide v2
 have HW3:=hide v3
 have HW4:=hide v4
 have HC1:=hide k1
 have HC3:=hide k3
 have HC4:=hide k4
 have HBW:=hide hbW
 clear h0 h1 h2 h3 h4 k1 k3 k4 v0 v1 v2 v3 v4 vw HMem l0 l1 l2 l3 l4
 have HBE:=hide hB
 have hB1 : w.heap.size + 1 < B:=by omega
 have hB2 : B < W.heap.size:=by omega
 clear hsW hB hW hbW st hok5 hok6
 have HR0:=hide (show NRel W B pS m.sets (-1) (.int .i64 0) W from NRel.start (ku HFW) (Kept.refl _ _))
 go_enter Tryz.func91,Tryz.ntmps91
 go_wp2_with fail
 rw [ku HWE,← ku HBE]
 go_loopw [4,5,19] (fun _ _ i wr=>NRel W B pS m.sets (-1) i wr) (fun _ _ i _=>m.sets.length - (intOf i).toNat)
 case atStart=>exact ku HR0
 case round=>
  obtain ⟨k,a,hk,rfl,hfo,hfb,hkp⟩:=hrel
  have HFO:=hide hfo
  have HFB:=hide hfb
  have HK:=hide hkp
  have hsz:=hkp.size
  clear hfo hfb HR0
  by_cases hlt : k < m.sets.length
  ·obtain ⟨g,rfl,hg1,hg2,hc⟩:=ku HW0 k hlt
   have hgB : g≠B:=by omega
   have fl:=fun j (hj : j < 4)=>kqy stC1 4 (fun _=>rfl) m.sets k j hlt hj
   have e0:=hkp.cell (a:=⟨g,k * 4 + 0,none⟩) hgB ((hc (k * 4 + 0) (by omega)).trans (fl 0 (by omega)))
   have e1:=hkp.cell (a:=⟨g,k * 4 + 1,none⟩) hgB ((hc (k * 4 + 1) (by omega)).trans (fl 1 (by omega)))
   have e2:=hkp.cell (a:=⟨g,k * 4 + 2,none⟩) hgB ((hc (k * 4 + 2) (by omega)).trans (fl 2 (by omega)))
   have e3:=hkp.cell (a:=⟨g,k * 4 + 3,none⟩) hgB ((hc (k * 4 + 3) (by omega)).trans (fl 3 (by omega)))
   simp only [stC1,List.getElem?_cons_zero,List.getElem?_cons_succ,Nat.add_zero] at e0 e1 e2 e3
   have HNX:=hide (fun (w' : World) (hf : FB w' B (pS a k (m.sets[k]))) (hw : Kept B W w')=>NRel.next (W:=W) (wr:=w') (B:=B) (f:=pS) (items:=m.sets) (z:=(-1)) (a:=a) hlt (ku HFO) hf hw)
   generalize m.sets[k] = p at e0 e1 e2 e3 HNX
   clear hc fl hkp HFO
   go_wp2_with fail
   refine (count_any _ B a k 2 p.name ((ku HFB).kept (below_alloc1 _ _))).mono ?_
   rintro e w1 ⟨rfl,h1,hk1⟩
   have hv1:=hk1.row (b:=wr.heap.size) (by omega) (qg _ _)
   have HK1:=hide (((ku HK).alloc _).trans hk1)
   have hz1:=(ku HK1).size
   have H1:=hide h1
   clear h1 hk1 e0 e1 e2 e3
   obtain ⟨_,_,g2,g3,_⟩:=kqj hv1
   clear hv1
   go_wp2_with fail
   refine (size_any _ B _ 2 3 p.size (ku H1)).mono ?_
   rintro e w2 ⟨rfl,h2,hk2⟩
   have HN:=hide (ku HNX _ h2 ((ku HK1).trans hk2))
   clear h2 hk2 HNX
   go_wp2
   go_roundw
   case rel=>exact ku HN
   case measure=>simp [intOf]; omega
  ·have hd:=fold_done hlt (ku HFO)
   rw [hd] at HFB
   have hbx:=hkp.row (b:=w.heap.size) (by omega) (ku HBX)
   obtain ⟨_,qx,_,_,_,_⟩:=zh hbx
   have HR1:=hide (show NRel W B pK m.kinds (pm1 m) (.int .i64 0) wr from NRel.start (ku HFB) (ku HK))
   clear hd hbx hkp HFB HK HFO
   go_wp2_with fail
   go_loopw [6,7,8,9,35] (fun _ _ _ _ i wr=>NRel W B pK m.kinds (pm1 m) i wr) (fun _ _ _ _ i _=>m.kinds.length - (intOf i).toNat)
   case atStart=>exact ku HR1
   case round=>
    obtain ⟨k,a,hk,rfl,hfo,hfb,hkp⟩:=hrel
    have HFO:=hide hfo
    have HFB:=hide hfb
    have HK:=hide hkp
    have hsz:=hkp.size
    clear hfo hfb HR1
    by_cases hlt : k < m.kinds.length
    ·obtain ⟨g,rfl,hg1,hg2,hc⟩:=ku HW1 k hlt
     have hgB : g≠B:=by omega
     obtain ⟨ma,mn,mc,fl0,fl1,fl2,hm⟩:=kd_at k hlt (ku HC1)
     have e0:=hkp.cell (a:=⟨g,k * 3,none⟩) hgB ((hc (k * 3) (by omega)).trans fl0)
     have e1:=hkp.cell (a:=⟨g,k * 3 + 1,none⟩) hgB ((hc (k * 3 + 1) (by omega)).trans fl1)
     have e2:=hkp.cell (a:=⟨g,k * 3 + 2,none⟩) hgB ((hc (k * 3 + 2) (by omega)).trans fl2)
     have HNX:=hide (fun (w' : World) (hf : FB w' B (pK a k (m.kinds[k]))) (hw : Kept B W w')=>NRel.next (W:=W) (wr:=w') (B:=B) (f:=pK) (items:=m.kinds) (z:=(pm1 m)) (a:=a) hlt (ku HFO) hf hw)
     have hml:=hok.members _ (List.getElem_mem hlt)
     have HM:=hide hm
     generalize m.kinds[k] = p at e0 e1 e2 HNX HM hml
     clear hc fl0 fl1 fl2 hm hkp HFO
     go_wp2_with fail
     refine (count_any _ B a k 2 p.name ((ku HFB).kept (below_alloc1 _ _))).mono ?_
     rintro e w1 ⟨rfl,h1,hk1⟩
     have hv1:=hk1.row (b:=wr.heap.size) (by omega) (qg _ _)
     have HK1:=hide (((ku HK).alloc _).trans hk1)
     have hz1:=(ku HK1).size
     have H1:=hide h1
     clear h1 hk1 e0 e1 e2
     obtain ⟨_,_,g2,_⟩:=row3 hv1
     clear hv1
     obtain ⟨mb,mcap,hmeq,hmv⟩:=qm (ku HM)
     injection hmeq with q1 q2 q3
     subst q1; subst q2; subst q3
     have HMV:=hide hmv
     have hmB:=kq6 (ku HM)
     have HRI:=hide (show NRel W B pM p.members (cntI a k 2 p.name) (.int .i64 0) w1 from NRel.start (ku H1) (ku HK1))
     clear hmv H1
     go_wp2_with fail
     go_loopw [8,9,47] (fun _ _ i wr=>NRel W B pM p.members (cntI a k 2 p.name) i wr) (fun _ _ i _=>p.members.length - (intOf i).toNat)
     case atStart=>exact ku HRI
     case round=>
      obtain ⟨k5,a5,hk5,rfl,hfo5,hfb5,hkp5⟩:=hrel
      have HFO5:=hide hfo5
      have HFB5:=hide hfb5
      have HK5:=hide hkp5
      have hsz5:=hkp5.size
      clear hfo5 hfb5 HRI
      by_cases hlt5 : k5 < p.members.length
      ·obtain ⟨g5,rfl,hg51,hg52,hc5⟩:=ku HMV k5 hlt5
       have hgB5 : g5≠B:=by omega
       have fl:=fun j (hj : j < 2)=>kqy yx 2 (fun _=>rfl) p.members k5 j hlt5 hj
       have e0:=hkp5.cell (a:=⟨g5,k5 * 2 + 0,none⟩) hgB5 (((ku HBW).cell (p:=⟨g5,k5 * 2 + 0,none⟩) hg52).trans ((hc5 (k5 * 2 + 0) (by omega)).trans (fl 0 (by omega))))
       have e1:=hkp5.cell (a:=⟨g5,k5 * 2 + 1,none⟩) hgB5 (((ku HBW).cell (p:=⟨g5,k5 * 2 + 1,none⟩) hg52).trans ((hc5 (k5 * 2 + 1) (by omega)).trans (fl 1 (by omega))))
       simp only [yx,List.getElem?_cons_zero,List.getElem?_cons_succ,Nat.add_zero] at e0 e1
       have HNX5:=hide (fun (w' : World) (hf : FB w' B (pM a5 k5 (p.members[k5]))) (hw : Kept B W w')=>NRel.next (W:=W) (wr:=w') (B:=B) (f:=pM) (items:=p.members) (z:=cntI a k 2 p.name) (a:=a5) hlt5 (ku HFO5) hf hw)
       generalize p.members[k5] = t5 at e0 e1 HNX5
       clear hc5 fl hkp5 HFO5
       go_wp2_with fail
       refine (count_any _ B a5 k5 4 t5 ((ku HFB5).kept (below_alloc1 _ _))).mono ?_
       rintro e w6 ⟨rfl,h6,hk6⟩
       have HN:=hide (ku HNX5 _ h6 (((ku HK5).alloc _).trans hk6))
       clear h6 hk6 HNX5
       go_wp2
       go_roundw
       case rel=>exact ku HN
       case measure=>simp [intOf]; omega
      ·have hd5:=fold_done hlt5 (ku HFO5)
       rw [hd5] at HFB5
       have HN:=hide (ku HNX _ (ku HFB5) (ku HK5))
       clear hd5 HNX
       go_wp2
       go_roundw
       case rel=>exact ku HN
       case measure=>simp [intOf]; omega
    ·have hd:=fold_done hlt (ku HFO)
     rw [hd] at HFB
     have hbx:=hkp.row (b:=w.heap.size) (by omega) (ku HBX)
     obtain ⟨_,_,qx,_,_,_⟩:=zh hbx
     have HR2:=hide (show NRel W B pV m.vars (pm2 m) (.int .i64 0) wr from NRel.start (ku HFB) (ku HK))
     clear hd hbx hkp HFB HK HFO
     go_wp2_with fail
     go_loopw [10,11,60] (fun _ _ i wr=>NRel W B pV m.vars (pm2 m) i wr) (fun _ _ i _=>m.vars.length - (intOf i).toNat)
     case atStart=>exact ku HR2
     case round=>
      obtain ⟨k,a,hk,rfl,hfo,hfb,hkp⟩:=hrel
      have HFO:=hide hfo
      have HFB:=hide hfb
      have HK:=hide hkp
      have hsz:=hkp.size
      clear hfo hfb HR2
      by_cases hlt : k < m.vars.length
      ·obtain ⟨g,rfl,hg1,hg2,hc⟩:=ku HW2 k hlt
       have hgB : g≠B:=by omega
       have fl:=fun j (hj : j < 10)=>kqy yg 10 (fun _=>rfl) m.vars k j hlt hj
       have e0:=hkp.cell (a:=⟨g,k * 10 + 0,none⟩) hgB ((hc (k * 10 + 0) (by omega)).trans (fl 0 (by omega)))
       have e1:=hkp.cell (a:=⟨g,k * 10 + 1,none⟩) hgB ((hc (k * 10 + 1) (by omega)).trans (fl 1 (by omega)))
       have e2:=hkp.cell (a:=⟨g,k * 10 + 2,none⟩) hgB ((hc (k * 10 + 2) (by omega)).trans (fl 2 (by omega)))
       have e3:=hkp.cell (a:=⟨g,k * 10 + 3,none⟩) hgB ((hc (k * 10 + 3) (by omega)).trans (fl 3 (by omega)))
       have e4:=hkp.cell (a:=⟨g,k * 10 + 4,none⟩) hgB ((hc (k * 10 + 4) (by omega)).trans (fl 4 (by omega)))
       have e5:=hkp.cell (a:=⟨g,k * 10 + 5,none⟩) hgB ((hc (k * 10 + 5) (by omega)).trans (fl 5 (by omega)))
       have e6:=hkp.cell (a:=⟨g,k * 10 + 6,none⟩) hgB ((hc (k * 10 + 6) (by omega)).trans (fl 6 (by omega)))
       have e7:=hkp.cell (a:=⟨g,k * 10 + 7,none⟩) hgB ((hc (k * 10 + 7) (by omega)).trans (fl 7 (by omega)))
       have e8:=hkp.cell (a:=⟨g,k * 10 + 8,none⟩) hgB ((hc (k * 10 + 8) (by omega)).trans (fl 8 (by omega)))
       have e9:=hkp.cell (a:=⟨g,k * 10 + 9,none⟩) hgB ((hc (k * 10 + 9) (by omega)).trans (fl 9 (by omega)))
       simp only [yg,List.getElem?_cons_zero,List.getElem?_cons_succ,Nat.add_zero] at e0 e1 e2 e3 e4 e5 e6 e7 e8 e9
       have HNX:=hide (fun (w' : World) (hf : FB w' B (pV a k (m.vars[k]))) (hw : Kept B W w')=>NRel.next (W:=W) (wr:=w') (B:=B) (f:=pV) (items:=m.vars) (z:=(pm2 m)) (a:=a) hlt (ku HFO) hf hw)
       generalize m.vars[k] = p at e0 e1 e2 e3 e4 e5 e6 e7 e8 e9 HNX
       clear hc fl hkp HFO
       go_wp2_with fail
       refine (count_any _ B a k 4 p.name ((ku HFB).kept (below_alloc1 _ _))).mono ?_
       rintro e w1 ⟨rfl,h1,hk1⟩
       have hv1:=hk1.row (b:=wr.heap.size) (by omega) (qg _ _)
       have HK1:=hide (((ku HK).alloc _).trans hk1)
       have hz1:=(ku HK1).size
       have H1:=hide h1
       clear h1 hk1 e0 e1 e2 e3 e4 e5 e6 e7 e8 e9
       obtain ⟨⟨_,_,_,_,_,g5,g6,g7,_,_⟩,_⟩:=kzq hv1
       clear hv1
       cases hfm : (p.si.form == 1)
       ·have HP:=hide (show pV a k p = cntI a k 4 p.name by unfold pV; rw [hfm]; rfl)
        rw [ku HP] at HNX
        have HN:=hide (ku HNX _ (ku H1) (ku HK1))
        clear HNX H1
        go_wp2
        go_roundw
        case rel=>exact ku HN
        case measure=>simp [intOf]; omega
       ·have HP:=hide (show pV a k p = sizI (cntI a k 4 p.name) p.si.top 1 3 by unfold pV; rw [hfm]; rfl)
        rw [ku HP] at HNX
        go_wp2_with fail
        refine (size_any _ B _ 1 3 p.si.top (ku H1)).mono ?_
        rintro e w2 ⟨rfl,h2,hk2⟩
        have HN:=hide (ku HNX _ h2 ((ku HK1).trans hk2))
        clear h2 hk2 HNX
        go_wp2
        go_roundw
        case rel=>exact ku HN
        case measure=>simp [intOf]; omega
      ·have hd:=fold_done hlt (ku HFO)
       rw [hd] at HFB
       have hbx:=hkp.row (b:=w.heap.size) (by omega) (ku HBX)
       obtain ⟨_,_,_,qx,_,_⟩:=zh hbx
       have HR3:=hide (show NRel W B pR m.rules (pm3 m) (.int .i64 0) wr from NRel.start (ku HFB) (ku HK))
       clear hd hbx hkp HFB HK HFO
       go_wp2_with fail
       go_loopw [12,13,81] (fun _ _ i wr=>NRel W B pR m.rules (pm3 m) i wr) (fun _ _ i _=>m.rules.length - (intOf i).toNat)
       case atStart=>exact ku HR3
       case round=>
        obtain ⟨k,a,hk,rfl,hfo,hfb,hkp⟩:=hrel
        have HFO:=hide hfo
        have HFB:=hide hfb
        have HK:=hide hkp
        have hsz:=hkp.size
        clear hfo hfb HR3
        by_cases hlt : k < m.rules.length
        ·obtain ⟨g,rfl,hg1,hg2,hc⟩:=ku HW3 k hlt
         have hgB : g≠B:=by omega
         obtain ⟨pa,pn,pc,gp,ba,bn,bc,bcs,⟨fl0,fl1,fl2,fl3,fl4⟩,hm,_⟩:=ru_at k hlt (ku HC3)
         have e0:=hkp.cell (a:=⟨g,k * 5,none⟩) hgB ((hc (k * 5) (by omega)).trans fl0)
         have e1:=hkp.cell (a:=⟨g,k * 5 + 1,none⟩) hgB ((hc (k * 5 + 1) (by omega)).trans fl1)
         have e2:=hkp.cell (a:=⟨g,k * 5 + 2,none⟩) hgB ((hc (k * 5 + 2) (by omega)).trans fl2)
         have e3:=hkp.cell (a:=⟨g,k * 5 + 3,none⟩) hgB ((hc (k * 5 + 3) (by omega)).trans fl3)
         have e4:=hkp.cell (a:=⟨g,k * 5 + 4,none⟩) hgB ((hc (k * 5 + 4) (by omega)).trans fl4)
         have HNX:=hide (fun (w' : World) (hf : FB w' B (pR a k (m.rules[k]))) (hw : Kept B W w')=>NRel.next (W:=W) (wr:=w') (B:=B) (f:=pR) (items:=m.rules) (z:=(pm3 m)) (a:=a) hlt (ku HFO) hf hw)
         have hml:=hok.params _ (List.mem_append_left _ (List.getElem_mem hlt))
         have HM:=hide hm
         generalize m.rules[k] = p at e0 e1 e2 e3 e4 HNX HM hml
         clear hc fl0 fl1 fl2 fl3 fl4 hm hkp HFO
         go_wp2_with fail
         refine (count_any _ B a k 5 p.name ((ku HFB).kept (below_alloc1 _ _))).mono ?_
         rintro e w1 ⟨rfl,h1,hk1⟩
         have hv1:=hk1.row (b:=wr.heap.size) (by omega) (qg _ _)
         have HK1:=hide (((ku HK).alloc _).trans hk1)
         have hz1:=(ku HK1).size
         have H1:=hide h1
         clear h1 hk1 e0 e1 e2 e3 e4
         obtain ⟨_,_,g2,_⟩:=zh hv1
         clear hv1
         have hpB : (Value.slice pa pn pc).ownBlock≠some B:=fun e=>by have:=kq6 (ku HM) _ e; omega
         have HO1:=hide (owns_kept (zo (fun k _ hk=>(ku HBW).block k hk) (ku HM)) hpB (ku HK1))
         go_wp2_with fail
         refine (countParams_any _ B _ _ p.params _ (ku H1) hml (ku HO1) hpB).mono ?_
         rintro e w2 ⟨rfl,h2,hk2⟩
         have HN:=hide (ku HNX _ h2 ((ku HK1).trans hk2))
         clear h2 hk2 HNX
         go_wp2
         go_roundw
         case rel=>exact ku HN
         case measure=>simp [intOf]; omega
        ·have hd:=fold_done hlt (ku HFO)
         rw [hd] at HFB
         have hbx:=hkp.row (b:=w.heap.size) (by omega) (ku HBX)
         obtain ⟨_,_,_,_,qx,_⟩:=zh hbx
         have HR4:=hide (show NRel W B pN m.nevers (pm4 m) (.int .i64 0) wr from NRel.start (ku HFB) (ku HK))
         clear hd hbx hkp HFB HK HFO
         go_wp2_with fail
         go_loopw [14,15,97] (fun _ _ i wr=>NRel W B pN m.nevers (pm4 m) i wr) (fun _ _ i _=>m.nevers.length - (intOf i).toNat)
         case atStart=>exact ku HR4
         case round=>
          obtain ⟨k,a,hk,rfl,hfo,hfb,hkp⟩:=hrel
          have HFO:=hide hfo
          have HFB:=hide hfb
          have HK:=hide hkp
          have hsz:=hkp.size
          clear hfo hfb HR4
          by_cases hlt : k < m.nevers.length
          ·obtain ⟨g,rfl,hg1,hg2,hc⟩:=ku HW4 k hlt
           have hgB : g≠B:=by omega
           obtain ⟨pa,pn,pc,gp,⟨fl0,fl1,fl2,fl3⟩,hm,_⟩:=nv_at k hlt (ku HC4)
           have e0:=hkp.cell (a:=⟨g,k * 4,none⟩) hgB ((hc (k * 4) (by omega)).trans fl0)
           have e1:=hkp.cell (a:=⟨g,k * 4 + 1,none⟩) hgB ((hc (k * 4 + 1) (by omega)).trans fl1)
           have e2:=hkp.cell (a:=⟨g,k * 4 + 2,none⟩) hgB ((hc (k * 4 + 2) (by omega)).trans fl2)
           have e3:=hkp.cell (a:=⟨g,k * 4 + 3,none⟩) hgB ((hc (k * 4 + 3) (by omega)).trans fl3)
           have HNX:=hide (fun (w' : World) (hf : FB w' B (pN a k (m.nevers[k]))) (hw : Kept B W w')=>NRel.next (W:=W) (wr:=w') (B:=B) (f:=pN) (items:=m.nevers) (z:=(pm4 m)) (a:=a) hlt (ku HFO) hf hw)
           have hml:=hok.params _ (List.mem_append_right _ (List.getElem_mem hlt))
           have HM:=hide hm
           generalize m.nevers[k] = p at e0 e1 e2 e3 HNX HM hml
           clear hc fl0 fl1 fl2 fl3 hm hkp HFO
           go_wp2_with fail
           refine (count_any _ B a k 3 p.name ((ku HFB).kept (below_alloc1 _ _))).mono ?_
           rintro e w1 ⟨rfl,h1,hk1⟩
           have hv1:=hk1.row (b:=wr.heap.size) (by omega) (qg _ _)
           have HK1:=hide (((ku HK).alloc _).trans hk1)
           have hz1:=(ku HK1).size
           have H1:=hide h1
           clear h1 hk1 e0 e1 e2 e3
           obtain ⟨_,_,g2,_⟩:=kqj hv1
           clear hv1
           have hpB : (Value.slice pa pn pc).ownBlock≠some B:=fun e=>by have:=kq6 (ku HM) _ e; omega
           have HO1:=hide (owns_kept (zo (fun k _ hk=>(ku HBW).block k hk) (ku HM)) hpB (ku HK1))
           go_wp2_with fail
           refine (countParams_any _ B _ _ p.params _ (ku H1) hml (ku HO1) hpB).mono ?_
           rintro e w2 ⟨rfl,h2,hk2⟩
           have HN:=hide (ku HNX _ h2 ((ku HK1).trans hk2))
           clear h2 hk2 HNX
           go_wp2
           go_roundw
           case rel=>exact ku HN
           case measure=>simp [intOf]; omega
          ·have hd:=fold_done hlt (ku HFO)
           rw [hd] at HFB
           have hbx:=hkp.row (b:=w.heap.size) (by omega) (ku HBX)
           have hb0:=hkp.row (b:=w.heap.size + 1) (by omega) (ku HB0)
           obtain ⟨d0,d1,e0,e1⟩:=uw hb0
           obtain ⟨g0,g1,_,_⟩:=uw (ku HFB)
           have HB0':=hide hb0
           clear hd hbx hb0 HFO
           go_wp2
           refine bodyPost_ret (v:=.agg #[.bool (decide (0≤pManyI m)),.int .i64 (fAt (pManyI m))]) (results_cell_row Tryz.results91 _ _ (w.heap.size + 1) _ _ _ _ rfl (set2 (ku HB0') _ _) Tryz.underlying199 rfl (by kernel_rfl)) rfl ?_
           refine ⟨rfl,?_⟩
           have hbel : Below w.heap.size w wr:=(ku HBW).trans (Kept.toBelow (B:=w.heap.size) (ku HK) (by omega) (by omega))
           exact (hbel.setCell (by simp) _).setCell (by simp) _
structure Ent where
 role : Int
 place : Int
 kind : ByteArray
 var : VrT
def noVar : VrT:=⟨jg,false,jg,⟨0,jg,jg⟩⟩
def noEnt : Ent:=⟨0,0,⟨#[]⟩,noVar⟩
def entCells (e : Ent) : List Value:=[.int .i64 e.role,.int .i64 e.place,.string e.kind] ++ yg e.var
def entV (e : Ent) : Value:=.agg (entCells e).toArray
abbrev Tab:=List (ByteArray × Ent)
def zf : Tab→List UInt8→Ent
 | [],_=>noEnt
 | x :: l,s=>if x.1.toList == s then x.2 else zf l s
def dw (w : World) (b : Nat) (t : Tab) : Prop:=
 (∃ es clock,w.heap[b]? = some (.map es clock)∧es.toList.map (fun e=>(e.key,e.val)) = t.map (fun x=>(Value.string x.1,entV x.2)))∧(t.map (fun x=>x.1.toList)).Nodup∧∀ x ∈ t,x.1.size≤1000
theorem dw.kept {w w' : World} {b : Nat} {t : Tab} (h : dw w b t) (hb : Below w.heap.size w w') : dw w' b t:=by
 obtain ⟨⟨es,c,h1,h2⟩,h3⟩:=h
 have hl : b < w.heap.size:=by
  by_cases hl : b < w.heap.size
  ·exact hl
  ·rw [Array.getElem?_eq_none (by omega)] at h1; cases h1
 exact ⟨⟨es,c,by rw [hb.block b hl]; exact h1,h2⟩,h3⟩
theorem keyed : Maps.Keyed Tryz.prog 9:=Maps.string_keyed Tryz.underlying9
theorem keyS {s : ByteArray} (hs : s.size≤1000) : keyOf Tryz.prog 9 (.string s) = some (.string s.data.toList):=WideMaps.keyOf_string_mk Tryz.underlying9 (by unfold maxLen; omega)
theorem zeroEnt (w : World) : (zeroValue 294).run Tryz.prog w = .ok (entV noEnt) w:=by kernel_rfl
theorem mem_pair {es : Array MapEntry} {t : Tab} (h : es.toList.map (fun e=>(e.key,e.val)) = t.map (fun x=>(Value.string x.1,entV x.2))) {e : MapEntry} (he : e ∈ es.toList) : ∃ x ∈ t,e.key = .string x.1∧e.val = entV x.2:=by
 have : (e.key,e.val) ∈ t.map (fun x=>(Value.string x.1,entV x.2)):=by rw [← h]; exact List.mem_map_of_mem he
 obtain ⟨x,hx,e1⟩:=List.mem_map.mp this
 simp only [Prod.mk.injEq] at e1
 exact ⟨x,hx,e1.1.symm,e1.2.symm⟩
theorem pair_mem {es : Array MapEntry} {t : Tab} (h : es.toList.map (fun e=>(e.key,e.val)) = t.map (fun x=>(Value.string x.1,entV x.2))) {x : ByteArray × Ent} (hx : x ∈ t) : ∃ e ∈ es.toList,e.key = .string x.1∧e.val = entV x.2:=by
 have : (Value.string x.1,entV x.2) ∈ es.toList.map (fun e=>(e.key,e.val)):=by rw [h]; exact List.mem_map_of_mem hx
 obtain ⟨e,he,e1⟩:=List.mem_map.mp this
 simp only [Prod.mk.injEq] at e1
 exact ⟨e,he,e1.1,e1.2⟩
theorem lookT_no : ∀ (t : Tab) (s : List UInt8),(∀ x ∈ t,x.1.toList≠s)→zf t s = noEnt
 | [],_,_=>rfl
 | x :: l,s,h=>by
  rw [zf,if_neg (by rw [beq_iff_eq]; exact h x (List.mem_cons_self ..))]
  exact lookT_no l s fun y hy=>h y (List.mem_cons_of_mem _ hy)
theorem lookT_at : ∀ (t : Tab) (s : List UInt8),(t.map (fun x=>x.1.toList)).Nodup→∀ x ∈ t,x.1.toList = s→zf t s = x.2
 | y :: l,s,hn,x,hx,e=>by
  rw [List.map_cons,List.nodup_cons] at hn
  rw [zf]
  rcases List.mem_cons.mp hx with rfl | hx
  ·rw [if_pos (by rw [beq_iff_eq]; exact e)]
  ·rw [if_neg (by
    rw [beq_iff_eq]
    intro e2
    exact hn.1 (by rw [e2,← e]; exact List.mem_map_of_mem hx))]
   exact lookT_at l s hn.2 x hx e
theorem byte_eq {a b : ByteArray} (h : a.toList = b.toList) : a = b:=by
 rw [kq1,kq1] at h
 cases a; cases b
 simp at h
 rw [h]
set_option maxRecDepth 10000 in
theorem kz4 {w : World} {b : Nat} {t : Tab} {s : ByteArray} (h : dw w b t) (hs : s.size≤1000) : (Instr.lookup 202 (.map (some b)) (.string s) false).run Tryz.prog w = .ok (entV (zf t s.toList)) w:=by
 obtain ⟨⟨es,c,h1,h2⟩,h3,h4⟩:=h
 have hk:=keyS hs
 have hall : ∀ e ∈ es.toList,∃ l,keyOf Tryz.prog 9 e.key = some l:=fun e he=>by
  obtain ⟨x,hx,e1,_⟩:=mem_pair h2 he
  exact ⟨_,by rw [e1]; exact keyS (h4 x hx)⟩
 rcases keyed.find w hk es.toList hall with ⟨f1,f2⟩ | ⟨j,e0,f1,f2,f3⟩
 ·rw [lookT_no t s.toList (fun x hx e=>by
   obtain ⟨e',he',e1,_⟩:=pair_mem h2 hx
   exact f2 e' he' (by rw [e1,byte_eq e]))]
  simp [Instr.lookup,run_underlying Tryz.underlying202,MapKept.run_getObj_map h1,keyed.check w _ hk,f1,zeroEnt w,Result.andThen]
 ·have hm:=List.mem_of_getElem? f2
  obtain ⟨x,hx,e1,e2⟩:=mem_pair h2 hm
  rw [f3] at e1
  injection e1 with e1
  rw [lookT_at t s.toList h3 x hx (by rw [e1]),← e2]
  simp [Instr.lookup,run_underlying Tryz.underlying202,MapKept.run_getObj_map h1,keyed.check w _ hk,f1,Result.andThen]
set_option maxRecDepth 10000 in
theorem put_run {w : World} {b : Nat} {t : Tab} {s : ByteArray} {e : Ent} (h : dw w b t) (hs : s.size≤1000) (hno : ∀ x ∈ t,x.1.toList≠s.toList) : ∃ w',(Instr.mapUpdate 202 (.map (some b)) (.string s) (entV e)).run Tryz.prog w = .ok () w'∧dw w' b (t ++ [(s,e)])∧Kept b w w':=by
 obtain ⟨⟨es,c,h1,h2⟩,h3,h4⟩:=h
 have hk:=keyS hs
 have hall : ∀ e ∈ es.toList,∃ l,keyOf Tryz.prog 9 e.key = some l:=fun e he=>by
  obtain ⟨x,hx,e1,_⟩:=mem_pair h2 he
  exact ⟨_,by rw [e1]; exact keyS (h4 x hx)⟩
 rcases keyed.find w hk es.toList hall with ⟨f1,f2⟩ | ⟨j,e0,f1,f2,f3⟩
 ·refine ⟨ChangeMaps.setBlock w b (.map (es.push ⟨.string s,entV e,c⟩) (c + 1)),by simp [Instr.mapUpdate,run_underlying Tryz.underlying202,MapKept.run_getObj_map h1,keyed.check w false hk,f1,MapKept.run_setObj_map _ h1,Result.andThen,ChangeMaps.setBlock],⟨⟨_,_,ChangeMaps.heap_setBlock_same h1 _,?_⟩,?_,?_⟩,⟨rfl,rfl,rfl,by simp [ChangeMaps.setBlock],fun k _ hn=>ChangeMaps.heap_setBlock_other h1 _ hn⟩⟩
  ·rw [Array.toList_push,List.map_append,List.map_append,h2]; rfl
  ·rw [List.map_append,List.nodup_append]
   refine ⟨h3,by simp,?_⟩
   intro a ha b hb
   simp only [List.map_cons,List.map_nil,List.mem_singleton] at hb
   obtain ⟨x,hx,rfl⟩:=List.mem_map.mp ha
   rw [hb]; exact hno x hx
  ·intro x hx
   rcases List.mem_append.mp hx with hx | hx
   ·exact h4 x hx
   ·rw [List.mem_singleton] at hx; subst hx; exact hs
 ·exfalso
  have hm:=List.mem_of_getElem? f2
  obtain ⟨x,hx,e1,_⟩:=mem_pair h2 hm
  rw [f3] at e1
  injection e1 with e1
  exact hno x hx (by rw [e1])
def TabOk (t : Tab) : Prop:=∀ x ∈ t,1≤x.2.role
theorem look_zero {t : Tab} (h : TabOk t) (hn : (t.map (fun x=>x.1.toList)).Nodup) {s : List UInt8} (h0 : (zf t s).role = 0) : ∀ x ∈ t,x.1.toList≠s:=by
 intro x hx e
 rw [lookT_at t s hn x hx e] at h0
 have:=h x hx
 omega
def giveT (t : Tab) (n : Tok) (e : Ent) : Tab:=if (zf t n.text.toList).role == 0 then t ++ [(n.text,{ e with place:=n.at_ })] else t
theorem giveT_ok {t : Tab} (h : TabOk t) {n : Tok} {e : Ent} (he : 1≤e.role) : TabOk (giveT t n e):=by
 unfold giveT
 split
 ·intro x hx
  rcases List.mem_append.mp hx with hx | hx
  ·exact h x hx
  ·rw [List.mem_singleton] at hx; subst hx; exact he
 ·exact h
theorem ent_field0 (e : Ent) (w : World) : (Instr.field 294 (entV e) 0).run Tryz.prog w = .ok (.int .i64 e.role) w:=by kernel_rfl
theorem ent_field1 (e : Ent) (w : World) : (Instr.field 294 (entV e) 1).run Tryz.prog w = .ok (.int .i64 e.place) w:=by kernel_rfl
structure MVar where
 first : Nat
 count : Nat
 texts : List ByteArray
 over : Int
 of_ : Int
structure Mean where
 isVar : Bool
 num : Nat
def noMean : Mean:=⟨false,0⟩
def meanV (e : Mean) : Value:=.agg #[.bool e.isVar,.int .i64 e.num]
abbrev uq:=List (ByteArray × Mean)
def kjm : uq→List UInt8→Mean
 | [],_=>noMean
 | x :: l,s=>if x.1.toList == s then x.2 else kjm l s
def kjp (w : World) (b : Nat) (t : uq) : Prop:=
 (∃ es clock,w.heap[b]? = some (.map es clock)∧es.toList.map (fun e=>(e.key,e.val)) = t.map (fun x=>(Value.string x.1,meanV x.2)))∧(t.map (fun x=>x.1.toList)).Nodup∧∀ x ∈ t,x.1.size≤1000
theorem kjp.lt {w : World} {b : Nat} {t : uq} (h : kjp w b t) : b < w.heap.size:=by
 obtain ⟨⟨es,c,h1,h2⟩,h3⟩:=h
 exact lt_of_block h1
theorem kjp.stay {w w' : World} {b : Nat} {t : uq} (h : kjp w b t) (hb : w'.heap[b]? = w.heap[b]?) : kjp w' b t:=by
 obtain ⟨⟨es,c,h1,h2⟩,h3⟩:=h
 exact ⟨⟨es,c,by rw [hb]; exact h1,h2⟩,h3⟩
theorem zeroMean (w : World) : (zeroValue 116).run Tryz.prog w = .ok (meanV noMean) w:=by kernel_rfl
theorem mmem_pair {es : Array MapEntry} {t : uq} (h : es.toList.map (fun e=>(e.key,e.val)) = t.map (fun x=>(Value.string x.1,meanV x.2))) {e : MapEntry} (he : e ∈ es.toList) : ∃ x ∈ t,e.key = .string x.1∧e.val = meanV x.2:=by
 have : (e.key,e.val) ∈ t.map (fun x=>(Value.string x.1,meanV x.2)):=by rw [← h]; exact List.mem_map_of_mem he
 obtain ⟨x,hx,e1⟩:=List.mem_map.mp this
 simp only [Prod.mk.injEq] at e1
 exact ⟨x,hx,e1.1.symm,e1.2.symm⟩
theorem mpair_mem {es : Array MapEntry} {t : uq} (h : es.toList.map (fun e=>(e.key,e.val)) = t.map (fun x=>(Value.string x.1,meanV x.2))) {x : ByteArray × Mean} (hx : x ∈ t) : ∃ e ∈ es.toList,e.key = .string x.1∧e.val = meanV x.2:=by
 have : (Value.string x.1,meanV x.2) ∈ es.toList.map (fun e=>(e.key,e.val)):=by rw [h]; exact List.mem_map_of_mem hx
 obtain ⟨e,he,e1⟩:=List.mem_map.mp this
 simp only [Prod.mk.injEq] at e1
 exact ⟨e,he,e1.1,e1.2⟩
theorem lookM_no : ∀ (t : uq) (s : List UInt8),(∀ x ∈ t,x.1.toList≠s)→kjm t s = noMean
 | [],_,_=>rfl
 | x :: l,s,h=>by
  rw [kjm,if_neg (by rw [beq_iff_eq]; exact h x (List.mem_cons_self ..))]
  exact lookM_no l s fun y hy=>h y (List.mem_cons_of_mem _ hy)
theorem lookM_at : ∀ (t : uq) (s : List UInt8),(t.map (fun x=>x.1.toList)).Nodup→∀ x ∈ t,x.1.toList = s→kjm t s = x.2
 | y :: l,s,hn,x,hx,e=>by
  rw [List.map_cons,List.nodup_cons] at hn
  rw [kjm]
  rcases List.mem_cons.mp hx with rfl | hx
  ·rw [if_pos (by rw [beq_iff_eq]; exact e)]
  ·rw [if_neg (by
    rw [beq_iff_eq]
    intro e2
    exact hn.1 (by rw [e2,← e]; exact List.mem_map_of_mem (f:=fun x : ByteArray × Mean=>x.1.toList) hx))]
   exact lookM_at l s hn.2 x hx e
set_option maxRecDepth 10000 in
theorem mlook_run {w : World} {b : Nat} {t : uq} {s : ByteArray} (h : kjp w b t) (hs : s.size≤1000) : (Instr.lookup 100 (.map (some b)) (.string s) false).run Tryz.prog w = .ok (meanV (kjm t s.toList)) w:=by
 obtain ⟨⟨es,c,h1,h2⟩,h3,h4⟩:=h
 have hk:=keyS hs
 have hall : ∀ e ∈ es.toList,∃ l,keyOf Tryz.prog 9 e.key = some l:=fun e he=>by
  obtain ⟨x,hx,e1,_⟩:=mmem_pair h2 he
  exact ⟨_,by rw [e1]; exact keyS (h4 x hx)⟩
 rcases keyed.find w hk es.toList hall with ⟨f1,f2⟩ | ⟨j,e0,f1,f2,f3⟩
 ·rw [lookM_no t s.toList (fun x hx e=>by
   obtain ⟨e',he',e1,_⟩:=mpair_mem h2 hx
   exact f2 e' he' (by rw [e1,byte_eq e]))]
  simp [Instr.lookup,run_underlying Tryz.underlying100,MapKept.run_getObj_map h1,keyed.check w _ hk,f1,zeroMean w,Result.andThen]
 ·have hm:=List.mem_of_getElem? f2
  obtain ⟨x,hx,e1,e2⟩:=mmem_pair h2 hm
  rw [f3] at e1
  injection e1 with e1
  rw [lookM_at t s.toList h3 x hx (by rw [e1]),← e2]
  simp [Instr.lookup,run_underlying Tryz.underlying100,MapKept.run_getObj_map h1,keyed.check w _ hk,f1,Result.andThen]
set_option maxRecDepth 10000 in
theorem mput_run {w : World} {b : Nat} {t : uq} {s : ByteArray} {e : Mean} (h : kjp w b t) (hs : s.size≤1000) (hno : ∀ x ∈ t,x.1.toList≠s.toList) : ∃ w',(Instr.mapUpdate 100 (.map (some b)) (.string s) (meanV e)).run Tryz.prog w = .ok () w'∧kjp w' b (t ++ [(s,e)])∧Kept b w w':=by
 obtain ⟨⟨es,c,h1,h2⟩,h3,h4⟩:=h
 have hk:=keyS hs
 have hall : ∀ e ∈ es.toList,∃ l,keyOf Tryz.prog 9 e.key = some l:=fun e he=>by
  obtain ⟨x,hx,e1,_⟩:=mmem_pair h2 he
  exact ⟨_,by rw [e1]; exact keyS (h4 x hx)⟩
 rcases keyed.find w hk es.toList hall with ⟨f1,f2⟩ | ⟨j,e0,f1,f2,f3⟩
 ·refine ⟨ChangeMaps.setBlock w b (.map (es.push ⟨.string s,meanV e,c⟩) (c + 1)),by simp [Instr.mapUpdate,run_underlying Tryz.underlying100,MapKept.run_getObj_map h1,keyed.check w false hk,f1,MapKept.run_setObj_map _ h1,Result.andThen,ChangeMaps.setBlock],⟨⟨_,_,ChangeMaps.heap_setBlock_same h1 _,?_⟩,?_,?_⟩,⟨rfl,rfl,rfl,by simp [ChangeMaps.setBlock],fun k _ hn=>ChangeMaps.heap_setBlock_other h1 _ hn⟩⟩
  ·rw [Array.toList_push,List.map_append,List.map_append,h2]; rfl
  ·rw [List.map_append,List.nodup_append]
   refine ⟨h3,by simp,?_⟩
   intro a ha b hb
   simp only [List.map_cons,List.map_nil,List.mem_singleton] at hb
   obtain ⟨x,hx,rfl⟩:=List.mem_map.mp ha
   rw [hb]; exact hno x hx
  ·intro x hx
   rcases List.mem_append.mp hx with hx | hx
   ·exact h4 x hx
   ·rw [List.mem_singleton] at hx; subst hx; exact hs
 ·exfalso
  have hm:=List.mem_of_getElem? f2
  obtain ⟨x,hx,e1,_⟩:=mmem_pair h2 hm
  rw [f3] at e1
  injection e1 with e1
  exact hno x hx (by rw [e1])
theorem mean_field1 (e : Mean) (w : World) : (Instr.field 116 (meanV e) 1).run Tryz.prog w = .ok (.int .i64 e.num) w:=by kernel_rfl
def MvIs (lo : Nat) (w : World) : List MVar→List Value→Prop
 | [],cs=>cs = []
 | v :: vs,cs=>∃ ta tc rest,cs = [.int .i64 v.first,.int .i64 v.count,.slice ta v.texts.length tc,.int .i64 v.over,.int .i64 v.of_] ++ rest∧w.ownsRow lo 9 1 (.slice ta v.texts.length tc) v.texts.length (v.texts.map Value.string)∧MvIs lo w vs rest
theorem MvIs.stay {lo : Nat} {w w' : World} (hk : ∀ (k : Nat) (e : TypeId) (cs : Array Value) (fr : Nat × Nat),w.heap[k]? = some (Obj.cells cs e fr)→e = 9→w'.heap[k]? = w.heap[k]?) : ∀ {vs : List MVar} {cs : List Value},MvIs lo w vs cs→MvIs lo w' vs cs
 | [],_,h=>h
 | v :: vs,cs,⟨ta,tc,rest,e,h1,h2⟩=>⟨ta,tc,rest,e,by
   refine ⟨h1.1,?_⟩
   rcases h1.2 with hh | ⟨g,cap,cur,e1,e2,e3,e4⟩
   ·exact Or.inl hh
   ·exact Or.inr ⟨g,cap,cur,e1,e2,by rw [hk g _ _ _ e3 rfl]; exact e3,e4⟩,MvIs.stay hk h2⟩
theorem mv_at {lo : Nat} {w : World} : ∀ {vs : List MVar} {cs : List Value} (i : Nat) (hi : i < vs.length),MvIs lo w vs cs →
  ∃ ta tc,(cs[i * 5]? = some (.int .i64 (vs[i]).first)∧cs[i * 5 + 1]? = some (.int .i64 (vs[i]).count)∧cs[i * 5 + 2]? = some (.slice ta (vs[i]).texts.length tc)∧cs[i * 5 + 3]? = some (.int .i64 (vs[i]).over)∧cs[i * 5 + 4]? = some (.int .i64 (vs[i]).of_)) ∧
   w.ownsRow lo 9 1 (.slice ta (vs[i]).texts.length tc) (vs[i]).texts.length ((vs[i]).texts.map Value.string)
 | [],_,i,hi,_=>by simp at hi
 | v :: vs,cs,0,_,⟨ta,tc,rest,e,h1,h2⟩=>by subst e; exact ⟨ta,tc,⟨rfl,rfl,rfl,rfl,rfl⟩,h1⟩
 | v :: vs,cs,i + 1,hi,⟨ta,tc,rest,e,h1,h2⟩=>by
  subst e
  obtain ⟨a,b,⟨q0,q1,q2,q3,q4⟩,r1⟩:=mv_at i (by simpa using hi) h2
  refine ⟨a,b,⟨?_,?_,?_,?_,?_⟩,r1⟩
  ·rw [show (i + 1) * 5 = i * 5 + 5 by omega,List.getElem?_append_right (by simp)]; simpa using q0
  ·rw [show (i + 1) * 5 + 1 = i * 5 + 1 + 5 by omega,List.getElem?_append_right (by simp)]; simpa using q1
  ·rw [show (i + 1) * 5 + 2 = i * 5 + 2 + 5 by omega,List.getElem?_append_right (by simp)]; simpa using q2
  ·rw [show (i + 1) * 5 + 3 = i * 5 + 3 + 5 by omega,List.getElem?_append_right (by simp)]; simpa using q3
  ·rw [show (i + 1) * 5 + 4 = i * 5 + 4 + 5 by omega,List.getElem?_append_right (by simp)]; simpa using q4
theorem MvIs.len {lo : Nat} {w : World} : ∀ {vs : List MVar} {cs : List Value},MvIs lo w vs cs→cs.length = vs.length * 5
 | [],_,h=>by rw [show _ = _ from h]; rfl
 | v :: vs,cs,⟨ta,tc,rest,e,h1,h2⟩=>by rw [e]; have:=MvIs.len h2; simp; omega
end Go.Proofs.YtpmcnonmkghokaaGreatDoor
namespace Go.Proofs.YtpmcnonmkghokaaGreatDoor
open Go.RowKit
attribute [local go_sem ↓] Go.wp_at_zero Go.wp_at_succ
structure Mc (lo : Nat) (w : World) (M nb : Nat) (vars : List MVar) (tab : uq) : Prop where
 mc : ∃ x0 x1 x2 va vc z cs,w.heap[M]? = some (.cells #[x0,x1,x2,.slice va vars.length vc,.map (some nb),z] 105 (0,0))∧w.ownsRow lo 213 5 (.slice va vars.length vc) vars.length cs∧MvIs lo w vars cs
 tab : kjp w nb tab
structure Rn (lo : Nat) (w : World) (R M nb : Nat) (vars : List MVar) (tab : uq) (l : List PP) (ms st : List Int) (sv : Value) (b : Bool) : Prop where
 rn : ∃ tx pa pn pc ma mn mc,w.heap[R]? = some (.cells #[.string tx,.pointer (some ⟨M,0,none⟩),.slice pa pn pc,.slice ma mn mc,sv,.bool b] 269 (0,0))∧w.ownsRow lo 352 4 (.slice pa pn pc) l.length (jq l)∧w.ownsRow lo 3 1 (.slice ma mn mc) ms.length (ms.map (Value.int .i64))
 mc : Mc lo w M nb vars tab
 st : w.ownsRow lo 5 1 sv st.length (st.map (Value.int .u8))
theorem Mc.below {lo : Nat} {w w' : World} {M nb : Nat} {vars : List MVar} {tab : uq} (h : Mc lo w M nb vars tab) (hb : Below w.heap.size w w') : Mc lo w' M nb vars tab:=by
 obtain ⟨⟨x0,x1,x2,va,vc,z,cs,h1,h2,h3⟩,h4⟩:=h
 exact ⟨⟨x0,x1,x2,va,vc,z,cs,(hb.block M (lt_of_block h1)).trans h1,qy h2 hb,h3.stay fun k e cs fr hk _=>hb.block k (lt_of_block hk)⟩,h4.stay (hb.block nb h4.lt)⟩
theorem Rn.below {lo : Nat} {w w' : World} {R M nb : Nat} {vars : List MVar} {tab : uq} {l : List PP} {ms st : List Int} {sv : Value} {b : Bool} (h : Rn lo w R M nb vars tab l ms st sv b) (hb : Below w.heap.size w w') : Rn lo w' R M nb vars tab l ms st sv b:=by
 obtain ⟨⟨tx,pa,pn,pc,ma,mn,mc,h1,h2,h3⟩,h4,h5⟩:=h
 exact ⟨⟨tx,pa,pn,pc,ma,mn,mc,(hb.block R (lt_of_block h1)).trans h1,qy h2 hb,qy h3 hb⟩,h4.below hb,qy h5 hb⟩
def truI (c : Bool) : Int:=if c then 1 else 0
theorem truth_any (c : Bool) (w : World) : Calls Tryz.prog 257 #[.bool c] w fun e w'=>e = .returned (.int .i64 (truI c))∧w' = w:=by
 cases c
 ·go_enter Tryz.func257,Tryz.ntmps257
  go_wp2
  go_ret
  exact ⟨rfl,rfl⟩
 ·go_enter Tryz.func257,Tryz.ntmps257
  go_wp2
  go_ret
  exact ⟨rfl,rfl⟩
def joinI (o a b : Int) : Int:=
 if o == 6 then min a b else if o == 7 then max a b else if o == 11 then a + b else if o == 12 then a - b
 else if o == 10 then truI (decide (a < b)) else if o == 9 then truI (!(a == b)) else truI (a == b)
set_option maxRecDepth 100000 in
set_option maxHeartbeats 2000000 in
theorem join_any (o a b : Int) (w : World) (ha : -1000000000≤a) (ha2 : a≤1000000000) (hb : -1000000000≤b) (hb2 : b≤1000000000) : Calls Tryz.prog 232 #[.int .i64 o,.int .i64 a,.int .i64 b] w fun e w'=>e = .returned (.int .i64 (joinI o a b))∧w' = w:=by
 cases h6 : (o == 6)
 case true=>
  rw [show joinI o a b = min a b by simp [joinI,h6]]
  go_enter Tryz.func232,Tryz.ntmps232
  go_wp2
  all_goals
   go_ret
   exact ⟨ret_int (by omega),rfl⟩
 case false=>
 cases h7 : (o == 7)
 case true=>
  rw [show joinI o a b = max a b by simp [joinI,h6,h7]]
  go_enter Tryz.func232,Tryz.ntmps232
  go_wp2
  all_goals
   go_ret
   exact ⟨ret_int (by omega),rfl⟩
 case false=>
 cases h11 : (o == 11)
 case true=>
  rw [show joinI o a b = a + b by simp [joinI,h6,h7,h11]]
  go_enter Tryz.func232,Tryz.ntmps232
  go_wp2
  go_ret
  exact ⟨rfl,rfl⟩
 case false=>
 cases h12 : (o == 12)
 case true=>
  rw [show joinI o a b = a - b by simp [joinI,h6,h7,h11,h12]]
  go_enter Tryz.func232,Tryz.ntmps232
  go_wp2
  go_ret
  exact ⟨rfl,rfl⟩
 case false=>
 cases h10 : (o == 10)
 case true=>
  rw [show joinI o a b = truI (decide (a < b)) by simp [joinI,h6,h7,h11,h12,h10]]
  have HT:=hide (truth_any (decide (a < b)) w)
  generalize truI (decide (a < b)) = y at *
  go_enter Tryz.func232,Tryz.ntmps232
  go_wp2_with fail
  refine (ku HT).mono ?_
  rintro e w1 ⟨rfl,rfl⟩
  go_wp2
  go_ret
  exact ⟨rfl,rfl⟩
 case false=>
 cases h9 : (o == 9)
 case true=>
  rw [show joinI o a b = truI (!(a == b)) by simp [joinI,h6,h7,h11,h12,h10,h9]]
  have HT:=hide (truth_any (!(a == b)) w)
  generalize truI (!(a == b)) = y at *
  go_enter Tryz.func232,Tryz.ntmps232
  go_wp2_with fail
  refine (ku HT).mono ?_
  rintro e w1 ⟨rfl,rfl⟩
  go_wp2
  go_ret
  exact ⟨rfl,rfl⟩
 case false=>
  rw [show joinI o a b = truI (a == b) by simp [joinI,h6,h7,h11,h12,h10,h9]]
  have HT:=hide (truth_any (a == b) w)
  generalize truI (a == b) = y at *
  go_enter Tryz.func232,Tryz.ntmps232
  go_wp2_with fail
  refine (ku HT).mono ?_
  rintro e w1 ⟨rfl,rfl⟩
  go_wp2
  go_ret
  exact ⟨rfl,rfl⟩
def kz0 (v : MVar) (ta : Option Addr) (tc : Nat) : Array Value:=#[.int .i64 v.first,.int .i64 v.count,.slice ta v.texts.length tc,.int .i64 v.over,.int .i64 v.of_]
theorem set5r {w : World} {b : Nat} {x0 x1 x2 x3 x4 : Value} {t : TypeId} (h : w.heap[b]? = some (.cells #[x0,x1,x2,x3,x4] t (0,0))) (y0 y1 y2 y3 y4 : Value) :
  (((((w.setCell ⟨b,0,none⟩ y0).setCell ⟨b,1,none⟩ y1).setCell ⟨b,2,none⟩ y2).setCell ⟨b,3,none⟩ y3).setCell ⟨b,4,none⟩ y4).heap[b]? = some (.cells #[y0,y1,y2,y3,y4] t (0,0)):=kqd h y0 y1 y2 y3 y4
end Go.Proofs.YtpmcnonmkghokaaGreatDoor

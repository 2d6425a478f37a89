import Derived.Test.YtpmcnonmkghokaaGreatDoorT17
import Derived.Test.YtpmcnonmkghokaaGreatDoorT19
import Derived.Test.YtpmcnonmkghokaaGreatDoorT06
set_option linter.unusedVariables false
set_option linter.unusedSimpArgs false
namespace Go.Proofs.YtpmcnonmkghokaaGreatDoor
open Go.RowKit
attribute [local go_sem ↓] Go.wp_at_zero Go.wp_at_succ
structure VT where
 fam : Int
 name : ByteArray
def vtV (x : VT) : Value:=.agg #[.int .i64 x.fam,.string x.name]
def noVT : VT:=⟨0,⟨#[]⟩⟩
def makesT (f : Int) (c : Bool) : VT:=if c then ⟨f,⟨#[]⟩⟩ else noVT
theorem makes_any (w : World) (f : Int) (c : Bool) :
  Calls Tryz.prog 245 #[.int .i64 f,.bool c] w fun e w'=>e = .returned (vtV (makesT f c))∧Below w.heap.size w w':=by
 cases c
 ·go_enter Tryz.func245,Tryz.ntmps245
  go_wp2
  refine bodyPost_ret (results_cell_row Tryz.results245 _ _ w.heap.size _ _ _ _ rfl (qg _ _) Tryz.underlying362 rfl (by kernel_rfl)) rfl ?_
  exact ⟨rfl,below_alloc1 _ _⟩
 ·go_enter Tryz.func245,Tryz.ntmps245
  go_wp2
  refine bodyPost_ret (results_cell_row Tryz.results245 _ _ w.heap.size _ _ _ _ rfl (qg _ _) Tryz.underlying362 rfl (by kernel_rfl)) rfl ?_
  exact ⟨rfl,below_alloc1 _ _⟩
def sameT (x y : VT) : Bool:=((x.fam == y.fam && x.name.toList == y.name.toList) && !(x.fam == 0)) && !(x.fam == 5)
theorem kj0 (w : World) (o p : Obj) : Below w.heap.size w ((w.alloc o).alloc p):=(below_alloc1 w _).trans ((below_alloc1 _ _).mono (by simp))
theorem same_any (w : World) (x y : VT) :
  Calls Tryz.prog 247 #[vtV x,vtV y] w fun e w'=>e = .returned (.bool (sameT x y))∧Below w.heap.size w w':=by
 unfold vtV
 go_enter Tryz.func247,Tryz.ntmps247
 go_wp2
 all_goals
  go_ret
  exact ⟨jd (by simp [sameT,bne, *]),kj0 _ _ _⟩
def canT (x y : VT) : Bool:=(sameT x y || (x.fam == 4 && y.fam == 5)) || (x.fam == 5 && y.fam == 4)
set_option maxRecDepth 100000 in
set_option maxHeartbeats 2000000 in
theorem can_any (w : World) (x y : VT) :
  Calls Tryz.prog 264 #[vtV x,vtV y] w fun e w'=>e = .returned (.bool (canT x y))∧Below w.heap.size w w':=by
 have E:=hide (show canT x y = ((sameT x y || (x.fam == 4 && y.fam == 5)) || (x.fam == 5 && y.fam == 4)) from rfl)
 have HS:=hide (same_any ((w.alloc (.cells #[.int .i64 x.fam,.string x.name] 362)).alloc (.cells #[.int .i64 y.fam,.string y.name] 362)) x y)
 unfold vtV at *
 generalize canT x y = fin at *
 go_enter Tryz.func264,Tryz.ntmps264
 go_wp2_with fail
 refine (ku HS).mono ?_
 rintro e w1 ⟨rfl,hb1⟩
 have hx:=hb1.block w.heap.size (by simp; omega)
 have hy:=hb1.block (w.heap.size + 1) (by simp)
 obtain ⟨a0,_⟩:=uw (hx.trans (ql (qg _ _)))
 obtain ⟨b0,_⟩:=uw (hy.trans (by have:=qg (w.alloc (.cells #[.int .i64 x.fam,.string x.name] 362)) (.cells #[.int .i64 y.fam,.string y.name] 362); simp only [World.size_alloc] at this; exact this))
 have HB:=hide ((kj0 w (.cells #[.int .i64 x.fam,.string x.name] 362) (.cells #[.int .i64 y.fam,.string y.name] 362)).trans (hb1.mono (by simp; omega)))
 generalize sameT x y = s at *
 clear hb1 hx hy HS
 cases s
 ·cases h4 : (x.fam == 4)
  ·cases h5 : (x.fam == 5)
   ·go_wp2
    go_ret
    exact ⟨jd (by rw [ku E,h4,h5]; rfl),ku HB⟩
   ·go_wp2
    go_ret
    exact ⟨jd (by rw [ku E,h4,h5]; simp),ku HB⟩
  ·have h5 : (x.fam == 5) = false:=by rw [beq_iff_eq] at h4; rw [h4]; rfl
   cases h6 : (y.fam == 5)
   ·go_wp2
    go_ret
    exact ⟨jd (by rw [ku E,h4,h5,h6]; rfl),ku HB⟩
   ·go_wp2
    go_ret
    exact ⟨jd (by rw [ku E,h4,h5,h6]; rfl),ku HB⟩
 ·go_wp2
  go_ret
  exact ⟨jd (by rw [ku E]; rfl),ku HB⟩
def binT (o : Int) (x y : VT) : VT:=
 if (o == 6 || o == 7) then makesT 1 (x.fam == 1 && y.fam == 1) else if (o == 11 || o == 12) then makesT 2 (x.fam == 2 && y.fam == 2) else if o == 10 then makesT 1 (x.fam == 2 && y.fam == 2) else makesT 1 (canT x y)
set_option maxRecDepth 100000 in
set_option maxHeartbeats 4000000 in
theorem binary_any (w : World) (o : Int) (x y : VT) :
  Calls Tryz.prog 246 #[.int .i64 o,vtV x,vtV y] w fun e w'=>e = .returned (vtV (binT o x y))∧Below w.heap.size w w':=by
 have E:=hide (show binT o x y = if (o == 6 || o == 7) then makesT 1 (x.fam == 1 && y.fam == 1) else if (o == 11 || o == 12) then makesT 2 (x.fam == 2 && y.fam == 2) else if o == 10 then makesT 1 (x.fam == 2 && y.fam == 2) else makesT 1 (canT x y) from rfl)
 have HR:=hide (show (((w.alloc (.cells #[.int .i64 x.fam,.string x.name] 362)).alloc (.cells #[.int .i64 y.fam,.string y.name] 362)).alloc (.cells #[.int .i64 0,.string ⟨#[]⟩] 362)).heap[w.heap.size + 2]? = some (.cells #[.int .i64 0,.string ⟨#[]⟩] 362 (0,0)) by
  have:=qg ((w.alloc (.cells #[.int .i64 x.fam,.string x.name] 362)).alloc (.cells #[.int .i64 y.fam,.string y.name] 362)) (.cells #[.int .i64 0,.string ⟨#[]⟩] 362)
  simp only [World.size_alloc] at this
  exact this)
 have HB:=hide (show Below w.heap.size w (((w.alloc (.cells #[.int .i64 x.fam,.string x.name] 362)).alloc (.cells #[.int .i64 y.fam,.string y.name] 362)).alloc (.cells #[.int .i64 0,.string ⟨#[]⟩] 362)) from (kj0 w _ _).trans ((below_alloc1 _ _).mono (by simp; omega)))
 have HM:=hide (fun f c=>makes_any (((w.alloc (.cells #[.int .i64 x.fam,.string x.name] 362)).alloc (.cells #[.int .i64 y.fam,.string y.name] 362)).alloc (.cells #[.int .i64 0,.string ⟨#[]⟩] 362)) f c)
 have HC:=hide (can_any (((w.alloc (.cells #[.int .i64 x.fam,.string x.name] 362)).alloc (.cells #[.int .i64 y.fam,.string y.name] 362)).alloc (.cells #[.int .i64 0,.string ⟨#[]⟩] 362)) x y)
 have hsz : (((w.alloc (.cells #[.int .i64 x.fam,.string x.name] 362)).alloc (.cells #[.int .i64 y.fam,.string y.name] 362)).alloc (.cells #[.int .i64 0,.string ⟨#[]⟩] 362)).heap.size = w.heap.size + 3:=by simp
 generalize binT o x y = fin at *
 unfold vtV at *
 go_enter Tryz.func246,Tryz.ntmps246
 cases h6 : (o == 6)
 ·cases h7 : (o == 7)
  ·rw [h6,h7] at E
   cases h11 : (o == 11)
   ·cases h12 : (o == 12)
    ·rw [h11,h12] at E
     cases h10 : (o == 10)
     ·rw [h10] at E
      go_wp2_with fail
      refine (ku HC).mono ?_
      rintro e w2 ⟨rfl,hb2⟩
      have hr2:=(hb2.block (w.heap.size + 2) (by simp)).trans (ku HR)
      have HB2:=hide ((ku HB).trans (hb2.mono (by simp; omega)))
      have hs2:=hb2.size
      simp at hs2
      have HR2:=hide hr2
      clear HM HC HR HB hb2 hr2
      go_wp2_with fail
      refine (makes_any w2 1 (canT x y)).mono ?_
      rintro e w1 ⟨rfl,hb1⟩
      have hr:=(hb1.block (w.heap.size + 2) (by omega)).trans (ku HR2)
      obtain ⟨q0,q1,q2,q3⟩:=uw hr
      have HB1:=hide ((ku HB2).trans (hb1.mono (by omega)))
      have HR1:=hide hr
      clear hb1 hr HR2 HB2
      unfold vtV
      go_wp2
      refine bodyPost_ret (results_cell_row Tryz.results246 _ _ (w.heap.size + 2) _ _ _ _ rfl (set2 (ku HR1) _ _) Tryz.underlying362 rfl (by kernel_rfl)) rfl ?_
      exact ⟨by rw [ku E]; rfl,((ku HB1).setCell (show w.heap.size≤w.heap.size + 2 by omega) _).setCell (show w.heap.size≤w.heap.size + 2 by omega) _⟩
     ·rw [h10] at E
      cases hx : (x.fam == 2)
      ·rw [hx,Bool.false_and] at E
       go_wp2_with fail
       refine (ku HM 1 false).mono ?_
       rintro e w1 ⟨rfl,hb1⟩
       have hr:=(hb1.block (w.heap.size + 2) (by simp)).trans (ku HR)
       obtain ⟨_,_,q2,q3⟩:=uw hr
       obtain ⟨q0,q1,_,_⟩:=uw hr
       have HB1:=hide ((ku HB).trans (hb1.mono (by simp; omega)))
       have HR1:=hide hr
       clear hb1 hr HM HC HR HB
       go_wp2
       refine bodyPost_ret (results_cell_row Tryz.results246 _ _ (w.heap.size + 2) _ _ _ _ rfl (set2 (ku HR1) _ _) Tryz.underlying362 rfl (by kernel_rfl)) rfl ?_
       exact ⟨by rw [ku E]; rfl,((ku HB1).setCell (show w.heap.size≤w.heap.size + 2 by omega) _).setCell (show w.heap.size≤w.heap.size + 2 by omega) _⟩
      ·rw [hx,Bool.true_and] at E
       go_wp2_with fail
       refine (ku HM 1 (y.fam == 2)).mono ?_
       rintro e w1 ⟨rfl,hb1⟩
       have hr:=(hb1.block (w.heap.size + 2) (by simp)).trans (ku HR)
       obtain ⟨_,_,q2,q3⟩:=uw hr
       obtain ⟨q0,q1,_,_⟩:=uw hr
       have HB1:=hide ((ku HB).trans (hb1.mono (by simp; omega)))
       have HR1:=hide hr
       clear hb1 hr HM HC HR HB
       go_wp2
       refine bodyPost_ret (results_cell_row Tryz.results246 _ _ (w.heap.size + 2) _ _ _ _ rfl (set2 (ku HR1) _ _) Tryz.underlying362 rfl (by kernel_rfl)) rfl ?_
       exact ⟨by rw [ku E]; rfl,((ku HB1).setCell (show w.heap.size≤w.heap.size + 2 by omega) _).setCell (show w.heap.size≤w.heap.size + 2 by omega) _⟩
    ·rw [h11,h12] at E
     cases hx : (x.fam == 2)
     ·rw [hx,Bool.false_and] at E
      go_wp2_with fail
      refine (ku HM 2 false).mono ?_
      rintro e w1 ⟨rfl,hb1⟩
      have hr:=(hb1.block (w.heap.size + 2) (by simp)).trans (ku HR)
      obtain ⟨_,_,q2,q3⟩:=uw hr
      obtain ⟨q0,q1,_,_⟩:=uw hr
      have HB1:=hide ((ku HB).trans (hb1.mono (by simp; omega)))
      have HR1:=hide hr
      clear hb1 hr HM HC HR HB
      go_wp2
      refine bodyPost_ret (results_cell_row Tryz.results246 _ _ (w.heap.size + 2) _ _ _ _ rfl (set2 (ku HR1) _ _) Tryz.underlying362 rfl (by kernel_rfl)) rfl ?_
      exact ⟨by rw [ku E]; rfl,((ku HB1).setCell (show w.heap.size≤w.heap.size + 2 by omega) _).setCell (show w.heap.size≤w.heap.size + 2 by omega) _⟩
     ·rw [hx,Bool.true_and] at E
      go_wp2_with fail
      refine (ku HM 2 (y.fam == 2)).mono ?_
      rintro e w1 ⟨rfl,hb1⟩
      have hr:=(hb1.block (w.heap.size + 2) (by simp)).trans (ku HR)
      obtain ⟨_,_,q2,q3⟩:=uw hr
      obtain ⟨q0,q1,_,_⟩:=uw hr
      have HB1:=hide ((ku HB).trans (hb1.mono (by simp; omega)))
      have HR1:=hide hr
      clear hb1 hr HM HC HR HB
      go_wp2
      refine bodyPost_ret (results_cell_row Tryz.results246 _ _ (w.heap.size + 2) _ _ _ _ rfl (set2 (ku HR1) _ _) Tryz.underlying362 rfl (by kernel_rfl)) rfl ?_
      exact ⟨by rw [ku E]; rfl,((ku HB1).setCell (show w.heap.size≤w.heap.size + 2 by omega) _).setCell (show w.heap.size≤w.heap.size + 2 by omega) _⟩
   ·rw [h11] at E
    cases hx : (x.fam == 2)
    ·rw [hx,Bool.false_and] at E
     go_wp2_with fail
     refine (ku HM 2 false).mono ?_
     rintro e w1 ⟨rfl,hb1⟩
     have hr:=(hb1.block (w.heap.size + 2) (by simp)).trans (ku HR)
     obtain ⟨_,_,q2,q3⟩:=uw hr
     obtain ⟨q0,q1,_,_⟩:=uw hr
     have HB1:=hide ((ku HB).trans (hb1.mono (by simp; omega)))
     have HR1:=hide hr
     clear hb1 hr HM HC HR HB
     go_wp2
     refine bodyPost_ret (results_cell_row Tryz.results246 _ _ (w.heap.size + 2) _ _ _ _ rfl (set2 (ku HR1) _ _) Tryz.underlying362 rfl (by kernel_rfl)) rfl ?_
     exact ⟨by rw [ku E]; rfl,((ku HB1).setCell (show w.heap.size≤w.heap.size + 2 by omega) _).setCell (show w.heap.size≤w.heap.size + 2 by omega) _⟩
    ·rw [hx,Bool.true_and] at E
     go_wp2_with fail
     refine (ku HM 2 (y.fam == 2)).mono ?_
     rintro e w1 ⟨rfl,hb1⟩
     have hr:=(hb1.block (w.heap.size + 2) (by simp)).trans (ku HR)
     obtain ⟨_,_,q2,q3⟩:=uw hr
     obtain ⟨q0,q1,_,_⟩:=uw hr
     have HB1:=hide ((ku HB).trans (hb1.mono (by simp; omega)))
     have HR1:=hide hr
     clear hb1 hr HM HC HR HB
     go_wp2
     refine bodyPost_ret (results_cell_row Tryz.results246 _ _ (w.heap.size + 2) _ _ _ _ rfl (set2 (ku HR1) _ _) Tryz.underlying362 rfl (by kernel_rfl)) rfl ?_
     exact ⟨by rw [ku E]; rfl,((ku HB1).setCell (show w.heap.size≤w.heap.size + 2 by omega) _).setCell (show w.heap.size≤w.heap.size + 2 by omega) _⟩
  ·rw [h6,h7] at E
   cases hx : (x.fam == 1)
   ·rw [hx,Bool.false_and] at E
    go_wp2_with fail
    refine (ku HM 1 false).mono ?_
    rintro e w1 ⟨rfl,hb1⟩
    have hr:=(hb1.block (w.heap.size + 2) (by simp)).trans (ku HR)
    obtain ⟨_,_,q2,q3⟩:=uw hr
    obtain ⟨q0,q1,_,_⟩:=uw hr
    have HB1:=hide ((ku HB).trans (hb1.mono (by simp; omega)))
    have HR1:=hide hr
    clear hb1 hr HM HC HR HB
    go_wp2
    refine bodyPost_ret (results_cell_row Tryz.results246 _ _ (w.heap.size + 2) _ _ _ _ rfl (set2 (ku HR1) _ _) Tryz.underlying362 rfl (by kernel_rfl)) rfl ?_
    exact ⟨by rw [ku E]; rfl,((ku HB1).setCell (show w.heap.size≤w.heap.size + 2 by omega) _).setCell (show w.heap.size≤w.heap.size + 2 by omega) _⟩
   ·rw [hx,Bool.true_and] at E
    go_wp2_with fail
    refine (ku HM 1 (y.fam == 1)).mono ?_
    rintro e w1 ⟨rfl,hb1⟩
    have hr:=(hb1.block (w.heap.size + 2) (by simp)).trans (ku HR)
    obtain ⟨_,_,q2,q3⟩:=uw hr
    obtain ⟨q0,q1,_,_⟩:=uw hr
    have HB1:=hide ((ku HB).trans (hb1.mono (by simp; omega)))
    have HR1:=hide hr
    clear hb1 hr HM HC HR HB
    go_wp2
    refine bodyPost_ret (results_cell_row Tryz.results246 _ _ (w.heap.size + 2) _ _ _ _ rfl (set2 (ku HR1) _ _) Tryz.underlying362 rfl (by kernel_rfl)) rfl ?_
    exact ⟨by rw [ku E]; rfl,((ku HB1).setCell (show w.heap.size≤w.heap.size + 2 by omega) _).setCell (show w.heap.size≤w.heap.size + 2 by omega) _⟩
 ·rw [h6] at E
  cases hx : (x.fam == 1)
  ·rw [hx,Bool.false_and] at E
   go_wp2_with fail
   refine (ku HM 1 false).mono ?_
   rintro e w1 ⟨rfl,hb1⟩
   have hr:=(hb1.block (w.heap.size + 2) (by simp)).trans (ku HR)
   obtain ⟨_,_,q2,q3⟩:=uw hr
   obtain ⟨q0,q1,_,_⟩:=uw hr
   have HB1:=hide ((ku HB).trans (hb1.mono (by simp; omega)))
   have HR1:=hide hr
   clear hb1 hr HM HC HR HB
   go_wp2
   refine bodyPost_ret (results_cell_row Tryz.results246 _ _ (w.heap.size + 2) _ _ _ _ rfl (set2 (ku HR1) _ _) Tryz.underlying362 rfl (by kernel_rfl)) rfl ?_
   exact ⟨by rw [ku E]; rfl,((ku HB1).setCell (show w.heap.size≤w.heap.size + 2 by omega) _).setCell (show w.heap.size≤w.heap.size + 2 by omega) _⟩
  ·rw [hx,Bool.true_and] at E
   go_wp2_with fail
   refine (ku HM 1 (y.fam == 1)).mono ?_
   rintro e w1 ⟨rfl,hb1⟩
   have hr:=(hb1.block (w.heap.size + 2) (by simp)).trans (ku HR)
   obtain ⟨_,_,q2,q3⟩:=uw hr
   obtain ⟨q0,q1,_,_⟩:=uw hr
   have HB1:=hide ((ku HB).trans (hb1.mono (by simp; omega)))
   have HR1:=hide hr
   clear hb1 hr HM HC HR HB
   go_wp2
   refine bodyPost_ret (results_cell_row Tryz.results246 _ _ (w.heap.size + 2) _ _ _ _ rfl (set2 (ku HR1) _ _) Tryz.underlying362 rfl (by kernel_rfl)) rfl ?_
   exact ⟨by rw [ku E]; rfl,((ku HB1).setCell (show w.heap.size≤w.heap.size + 2 by omega) _).setCell (show w.heap.size≤w.heap.size + 2 by omega) _⟩
def tyV (b : Nat) (ps : Value) : Value:=.agg #[.map (some b),ps]
def simT (tab : Tab) (x : SiT) : VT:=if x.form == 0 then ⟨1,⟨#[]⟩⟩ else if x.form == 1 then ⟨2,⟨#[]⟩⟩ else if (zf tab x.name.text.toList).role == 1 then ⟨4,x.name.text⟩ else ⟨3,x.name.text⟩
set_option maxRecDepth 100000 in
set_option maxHeartbeats 4000000 in
theorem tsimple_any (w : World) (b : Nat) (tab : Tab) (ps : Value) (x : SiT) (ht : dw w b tab) (hs : x.name.text.size≤1000) (hps : ps.oneCell' = true) :
  Calls Tryz.prog 263 #[tyV b ps,siV x] w fun e w'=>e = .returned (vtV (simT tab x))∧Below w.heap.size w w':=by
 have E:=hide (show simT tab x = if x.form == 0 then ⟨1,⟨#[]⟩⟩ else if x.form == 1 then ⟨2,⟨#[]⟩⟩ else if (zf tab x.name.text.toList).role == 1 then ⟨4,x.name.text⟩ else ⟨3,x.name.text⟩ from rfl)
 obtain ⟨W,hW⟩ : ∃ W,W = ((w.alloc (.cells #[.map (some b),ps] 301)).alloc (.cells #[.int .i64 x.form,.int .i64 (yu x.top.text),.int .i64 x.top.at_,.string x.name.text,.int .i64 x.name.at_] 119)).alloc (.cells #[.int .i64 0,.string ⟨#[]⟩] 362):=⟨_,rfl⟩
 have hbW : Below w.heap.size w W:=by rw [hW]; exact (kj0 w _ _).trans ((below_alloc1 _ _).mono (by simp; omega))
 have hsW : W.heap.size = w.heap.size + 3:=by rw [hW]; simp
 have hT : W.heap[w.heap.size]? = some (.cells #[.map (some b),ps] 301 (0,0)):=by rw [hW]; exact ql (ql (qg _ _))
 have hX : W.heap[w.heap.size + 1]? = some (.cells #[.int .i64 x.form,.int .i64 (yu x.top.text),.int .i64 x.top.at_,.string x.name.text,.int .i64 x.name.at_] 119 (0,0)):=by
  rw [hW]
  have:=qg (w.alloc (.cells #[.map (some b),ps] 301)) (.cells #[.int .i64 x.form,.int .i64 (yu x.top.text),.int .i64 x.top.at_,.string x.name.text,.int .i64 x.name.at_] 119)
  simp only [World.size_alloc] at this
  exact ql this
 have hR : W.heap[w.heap.size + 2]? = some (.cells #[.int .i64 0,.string ⟨#[]⟩] 362 (0,0)):=by
  rw [hW]
  have:=qg ((w.alloc (.cells #[.map (some b),ps] 301)).alloc (.cells #[.int .i64 x.form,.int .i64 (yu x.top.text),.int .i64 x.top.at_,.string x.name.text,.int .i64 x.name.at_] 119)) (.cells #[.int .i64 0,.string ⟨#[]⟩] 362)
  simp only [World.size_alloc] at this
  exact this
 have hM : dw W b tab:=ht.kept hbW
 have hlk:=kz4 hM hs
 have hf:=ent_field0 (zf tab x.name.text.toList)
 obtain ⟨t0,t1,_⟩:=uw hT
 obtain ⟨x0,x1,x2,x3,x4,_⟩:=zh hX
 obtain ⟨r0,r1,r2,r3⟩:=uw hR
 have HR:=hide hR
 have HB:=hide hbW
 have HWE:=hide hW.symm
 generalize simT tab x = fin at *
 generalize zf tab x.name.text.toList = q at *
 clear hR hbW hW hM ht hT hX hsW
 unfold tyV siV vtV
 go_enter Tryz.func263,Tryz.ntmps263
 go_upto_region 1 with fail
 rw [ku HWE,show w.heap.size + 1 + 1 = w.heap.size + 2 from rfl]
 cases h0 : (x.form == 0)
 ·cases h1 : (x.form == 1)
  ·cases h2 : (q.role == 1)
   ·rw [h0,h1,h2] at E
    go_wp2
    refine bodyPost_ret (results_cell_row Tryz.results263 _ _ (w.heap.size + 2) _ _ _ _ rfl (set2 (ku HR) _ _) Tryz.underlying362 rfl (by kernel_rfl)) rfl ?_
    exact ⟨by rw [ku E]; rfl,((ku HB).setCell (show w.heap.size≤w.heap.size + 2 by omega) _).setCell (show w.heap.size≤w.heap.size + 2 by omega) _⟩
   ·rw [h0,h1,h2] at E
    go_wp2
    refine bodyPost_ret (results_cell_row Tryz.results263 _ _ (w.heap.size + 2) _ _ _ _ rfl (set2 (ku HR) _ _) Tryz.underlying362 rfl (by kernel_rfl)) rfl ?_
    exact ⟨by rw [ku E]; rfl,((ku HB).setCell (show w.heap.size≤w.heap.size + 2 by omega) _).setCell (show w.heap.size≤w.heap.size + 2 by omega) _⟩
  ·rw [h0,h1] at E
   go_wp2
   refine bodyPost_ret (results_cell_row Tryz.results263 _ _ (w.heap.size + 2) _ _ _ _ rfl (set2 (ku HR) _ _) Tryz.underlying362 rfl (by kernel_rfl)) rfl ?_
   exact ⟨by rw [ku E]; rfl,((ku HB).setCell (show w.heap.size≤w.heap.size + 2 by omega) _).setCell (show w.heap.size≤w.heap.size + 2 by omega) _⟩
 ·rw [h0] at E
  go_wp2
  refine bodyPost_ret (results_cell_row Tryz.results263 _ _ (w.heap.size + 2) _ _ _ _ rfl (set2 (ku HR) _ _) Tryz.underlying362 rfl (by kernel_rfl)) rfl ?_
  exact ⟨by rw [ku E]; rfl,((ku HB).setCell (show w.heap.size≤w.heap.size + 2 by omega) _).setCell (show w.heap.size≤w.heap.size + 2 by omega) _⟩
def TabSz (tab : Tab) : Prop:=∀ s,(zf tab s).var.si.name.text.size≤1000
def singT (tab : Tab) (l : List PP) (n : Tok) : VT:=
 if fpB l n.text.toList then ⟨4,(fpP l n.text.toList).set_.text⟩
 else if (zf tab n.text.toList).role == 3 then ⟨3,(zf tab n.text.toList).kind⟩
 else if (zf tab n.text.toList).role == 4 && !(zf tab n.text.toList).var.arr then simT tab (zf tab n.text.toList).var.si else noVT
set_option maxRecDepth 100000 in
set_option maxHeartbeats 4000000 in
theorem single_any (w : World) (b lo : Nat) (tab : Tab) (l : List PP) (pa : Option Addr) (pn pc : Nat) (n : Tok) (ht : dw w b tab) (htz : TabSz tab) (ho : w.ownsRow lo 352 4 (.slice pa pn pc) l.length (jq l)) (hl : l.length≤1000) (hs : n.text.size≤1000) :
  Calls Tryz.prog 261 #[tyV b (.slice pa pn pc),ptV n] w fun e w'=>e = .returned (vtV (singT tab l n))∧Below w.heap.size w w':=by
 obtain ⟨ps,hps⟩ : ∃ ps,ps = Value.slice pa pn pc:=⟨_,rfl⟩
 rw [← hps] at ho ⊢
 have E:=hide (show singT tab l n = if fpB l n.text.toList then ⟨4,(fpP l n.text.toList).set_.text⟩
  else if (zf tab n.text.toList).role == 3 then ⟨3,(zf tab n.text.toList).kind⟩
  else if (zf tab n.text.toList).role == 4 && !(zf tab n.text.toList).var.arr then simT tab (zf tab n.text.toList).var.si else noVT from rfl)
 obtain ⟨W,hW⟩ : ∃ W,W = ((w.alloc (.cells #[.map (some b),ps] 301)).alloc (.cells #[.string n.text,.int .i64 n.at_] 107)).alloc (.cells #[.int .i64 0,.string ⟨#[]⟩] 362):=⟨_,rfl⟩
 have hbW : Below w.heap.size w W:=by rw [hW]; exact (kj0 w _ _).trans ((below_alloc1 _ _).mono (by simp; omega))
 have hsW : W.heap.size = w.heap.size + 3:=by rw [hW]; simp
 have hT : W.heap[w.heap.size]? = some (.cells #[.map (some b),ps] 301 (0,0)):=by rw [hW]; exact ql (ql (qg _ _))
 have hX : W.heap[w.heap.size + 1]? = some (.cells #[.string n.text,.int .i64 n.at_] 107 (0,0)):=by
  rw [hW]
  have:=qg (w.alloc (.cells #[.map (some b),ps] 301)) (.cells #[.string n.text,.int .i64 n.at_] 107)
  simp only [World.size_alloc] at this
  exact ql this
 have hR : W.heap[w.heap.size + 2]? = some (.cells #[.int .i64 0,.string ⟨#[]⟩] 362 (0,0)):=by
  rw [hW]
  have:=qg ((w.alloc (.cells #[.map (some b),ps] 301)).alloc (.cells #[.string n.text,.int .i64 n.at_] 107)) (.cells #[.int .i64 0,.string ⟨#[]⟩] 362)
  simp only [World.size_alloc] at this
  exact this
 have hM : dw W b tab:=ht.kept hbW
 have HFP:=hide (kz5 W lo l ps n (qy ho hbW) hl)
 have hqs:=htz n.text.toList
 obtain ⟨t0,t1,_⟩:=uw hT
 obtain ⟨x0,x1,_⟩:=uw hX
 have HT:=hide hT
 have HX:=hide hX
 have HR:=hide hR
 have HB:=hide hbW
 have HM:=hide hM
 have HWE:=hide hW.symm
 generalize singT tab l n = fin at *
 clear hR hbW hW hM ht hT hX ho
 subst hps
 unfold tyV ptV vtV at *
 go_enter Tryz.func261,Tryz.ntmps261
 go_upto_region 1 with fail
 rw [ku HWE,show w.heap.size + 1 + 1 = w.heap.size + 2 from rfl]
 go_wp2_with fail
 refine (ku HFP).mono ?_
 rintro e w1 ⟨rfl,hb1⟩
 have hs1:=hb1.size
 generalize fpP l n.text.toList = p at *
 generalize fpB l n.text.toList = r at *
 have hR1:=(hb1.block (w.heap.size + 2) (by omega)).trans (ku HR)
 have hT1:=(hb1.block w.heap.size (by omega)).trans (ku HT)
 have hX1:=(hb1.block (w.heap.size + 1) (by omega)).trans (ku HX)
 have hM1:=(ku HM).kept hb1
 have hlk:=kz4 (hM1.kept (below_alloc1 w1 (.cells #[.string p.name.text,.int .i64 p.name.at_,.string p.set_.text,.int .i64 p.set_.at_] 352))) hs
 obtain ⟨t0,t1,_⟩:=uw hT1
 obtain ⟨x0,x1,_⟩:=uw hX1
 obtain ⟨r0,r1,r2,r3⟩:=uw hR1
 have HB1:=hide ((ku HB).trans (hb1.mono (by omega)))
 have HR1:=hide hR1
 have HT1:=hide hT1
 have HM1:=hide hM1
 have hlt0 : w.heap.size < w1.heap.size:=by omega
 have hlt1 : w.heap.size + 1 < w1.heap.size:=by omega
 have hlt2 : w.heap.size + 2 < w1.heap.size:=by omega
 clear hb1 hR1 hT1 hX1 hM1 HFP HR HT HX HM HB hs1 hsW
 unfold paV
 cases r
 case true=>
  go_wp2
  refine bodyPost_ret (results_cell_row Tryz.results261 _ _ (w.heap.size + 2) _ _ _ _ rfl (ql (set2 (ku HR1) _ _)) Tryz.underlying362 rfl (by kernel_rfl)) rfl ?_
  exact ⟨by rw [ku E]; rfl,((((ku HB1).setCell (show w.heap.size≤w.heap.size + 2 by omega) _).setCell (show w.heap.size≤w.heap.size + 2 by omega) _).alloc (by simp [World.setCell]; omega) _)⟩
 case false=>
  generalize zf tab n.text.toList = q at *
  simp only [entV,entCells,yg,List.cons_append,List.nil_append] at hlk
  cases h3 : (q.role == 3)
  ·rw [h3] at E
   cases h4 : (q.role == 4)
   ·rw [h4] at E
    go_wp2
    refine bodyPost_ret (results_cell_row Tryz.results261 _ _ (w.heap.size + 2) _ _ _ _ rfl (ql (ql (set2 (ku HR1) _ _))) Tryz.underlying362 rfl (by kernel_rfl)) rfl ?_
    exact ⟨by rw [ku E]; rfl,(((((ku HB1).setCell (show w.heap.size≤w.heap.size + 2 by omega) _).setCell (show w.heap.size≤w.heap.size + 2 by omega) _).alloc (by simp [World.setCell]; omega) _).alloc (by simp [World.setCell]; omega) _)⟩
   ·rw [h4] at E
    cases ha : q.var.arr
    ·rw [ha] at E hlk
     have HSI:=hide (tsimple_any ((w1.alloc (.cells #[.string p.name.text,.int .i64 p.name.at_,.string p.set_.text,.int .i64 p.set_.at_] 352)).alloc (.cells #[.int .i64 q.role,.int .i64 q.place,.string q.kind,.string q.var.name.text,.int .i64 q.var.name.at_,.bool false,.string q.var.over.text,.int .i64 q.var.over.at_,.int .i64 q.var.si.form,.int .i64 (yu q.var.si.top.text),.int .i64 q.var.si.top.at_,.string q.var.si.name.text,.int .i64 q.var.si.name.at_] 294)) b tab (.slice pa pn pc) q.var.si (((ku HM1).kept (below_alloc1 _ _)).kept (below_alloc1 _ _)) hqs rfl)
     unfold tyV siV vtV at HSI
     go_wp2_with fail
     refine (ku HSI).mono ?_
     rintro e w3 ⟨rfl,hb3⟩
     have hs3:=hb3.size
     simp at hs3
     have hR3:=(hb3.block (w.heap.size + 2) (by simp; omega)).trans (ql (ql (ku HR1)))
     obtain ⟨s0,s1,s2,s3⟩:=uw hR3
     have HR3:=hide hR3
     have HB3:=hide ((((ku HB1).alloc (by omega) _).alloc (by simp; omega) _).trans (hb3.mono (by simp; omega)))
     clear hb3 hR3 HSI
     go_wp2
     refine bodyPost_ret (results_cell_row Tryz.results261 _ _ (w.heap.size + 2) _ _ _ _ rfl (set2 (ku HR3) _ _) Tryz.underlying362 rfl (by kernel_rfl)) rfl ?_
     exact ⟨by rw [ku E]; rfl,((ku HB3).setCell (show w.heap.size≤w.heap.size + 2 by omega) _).setCell (show w.heap.size≤w.heap.size + 2 by omega) _⟩
    ·rw [ha] at E hlk
     go_wp2
     refine bodyPost_ret (results_cell_row Tryz.results261 _ _ (w.heap.size + 2) _ _ _ _ rfl (ql (ql (set2 (ku HR1) _ _))) Tryz.underlying362 rfl (by kernel_rfl)) rfl ?_
     exact ⟨by rw [ku E]; rfl,(((((ku HB1).setCell (show w.heap.size≤w.heap.size + 2 by omega) _).setCell (show w.heap.size≤w.heap.size + 2 by omega) _).alloc (by simp [World.setCell]; omega) _).alloc (by simp [World.setCell]; omega) _)⟩
  ·rw [h3] at E
   go_wp2
   refine bodyPost_ret (results_cell_row Tryz.results261 _ _ (w.heap.size + 2) _ _ _ _ rfl (ql (ql (set2 (ku HR1) _ _))) Tryz.underlying362 rfl (by kernel_rfl)) rfl ?_
   exact ⟨by rw [ku E]; rfl,(((((ku HB1).setCell (show w.heap.size≤w.heap.size + 2 by omega) _).setCell (show w.heap.size≤w.heap.size + 2 by omega) _).alloc (by simp [World.setCell]; omega) _).alloc (by simp [World.setCell]; omega) _)⟩
def idxT (tab : Tab) (l : List PP) (i s : Tok) : Bool:=(singT tab l i).fam == 4 && (singT tab l i).name.toList == s.text.toList
set_option maxRecDepth 100000 in
set_option maxHeartbeats 4000000 in
theorem isIndex_any (w : World) (b lo : Nat) (tab : Tab) (l : List PP) (pa : Option Addr) (pn pc : Nat) (i s : Tok) (ht : dw w b tab) (htz : TabSz tab) (ho : w.ownsRow lo 352 4 (.slice pa pn pc) l.length (jq l)) (hl : l.length≤1000) (hs : i.text.size≤1000) :
  Calls Tryz.prog 262 #[tyV b (.slice pa pn pc),ptV i,ptV s] w fun e w'=>e = .returned (.bool (idxT tab l i s))∧Below w.heap.size w w':=by
 have E:=hide (show idxT tab l i s = ((singT tab l i).fam == 4 && (singT tab l i).name.toList == s.text.toList) from rfl)
 have HB:=hide ((kj0 w (.cells #[.map (some b),.slice pa pn pc] 301) (.cells #[.string i.text,.int .i64 i.at_] 107)).trans ((below_alloc1 _ (.cells #[.string s.text,.int .i64 s.at_] 107)).mono (by simp; omega))).drew
 have HSG:=hide (single_any (((w.alloc (.cells #[.map (some b),.slice pa pn pc] 301)).alloc (.cells #[.string i.text,.int .i64 i.at_] 107)).alloc (.cells #[.string s.text,.int .i64 s.at_] 107)).drew b lo tab l pa pn pc i (ht.kept (ku HB)) htz (qy ho (ku HB)) hl hs)
 have HX:=hide (show (((w.alloc (.cells #[.map (some b),.slice pa pn pc] 301)).alloc (.cells #[.string i.text,.int .i64 i.at_] 107)).alloc (.cells #[.string s.text,.int .i64 s.at_] 107)).drew.heap[w.heap.size + 2]? = some (.cells #[.string s.text,.int .i64 s.at_] 107 (0,0)) by
  have:=qg ((w.alloc (.cells #[.map (some b),.slice pa pn pc] 301)).alloc (.cells #[.string i.text,.int .i64 i.at_] 107)) (.cells #[.string s.text,.int .i64 s.at_] 107)
  simp only [World.size_alloc] at this
  exact this)
 unfold tyV ptV vtV at *
 generalize idxT tab l i s = fin at *
 generalize singT tab l i = q at *
 clear ht ho htz
 go_enter Tryz.func262,Tryz.ntmps262
 go_wp2
 by_cases h4 : q.fam = 4
 ·by_cases hn : q.name.toList = s.text.toList
  ·go_region_law ((go_simp; go_at_call 261; refine (ku HSG).mono ?_; rintro e w1 ⟨rfl,hb1⟩; obtain ⟨y0,y1,_⟩:=uw ((hb1.block (w.heap.size + 2) (by simp)).trans (ku HX)); dsimp only))
   all_goals
    go_wp2
    go_ret
    exact ⟨jd (by rw [ku E]; simp [h4,hn]),(ku HB).trans (hb1.mono (by simp; omega))⟩
  ·go_region_law ((go_simp; go_at_call 261; refine (ku HSG).mono ?_; rintro e w1 ⟨rfl,hb1⟩; obtain ⟨y0,y1,_⟩:=uw ((hb1.block (w.heap.size + 2) (by simp)).trans (ku HX)); dsimp only))
   all_goals
    go_wp2
    go_ret
    exact ⟨jd (by rw [ku E]; simp [h4,hn]),(ku HB).trans (hb1.mono (by simp; omega))⟩
 ·go_region_law ((go_simp; go_at_call 261; refine (ku HSG).mono ?_; rintro e w1 ⟨rfl,hb1⟩; obtain ⟨y0,y1,_⟩:=uw ((hb1.block (w.heap.size + 2) (by simp)).trans (ku HX)); dsimp only))
  all_goals
   go_wp2
   go_ret
   exact ⟨jd (by rw [ku E]; simp [h4]),(ku HB).trans (hb1.mono (by simp; omega))⟩
theorem ent_field3 (q : Ent) (w : World) : (Instr.field 294 (entV q) 3).run Tryz.prog w = .ok (.agg #[.string q.var.name.text,.int .i64 q.var.name.at_,.bool q.var.arr,.string q.var.over.text,.int .i64 q.var.over.at_,.int .i64 q.var.si.form,.int .i64 (yu q.var.si.top.text),.int .i64 q.var.si.top.at_,.string q.var.si.name.text,.int .i64 q.var.si.name.at_]) w:=by kernel_rfl
def tplT (tab : Tab) (l : List PP) (n i : Tok) : VT:=
 if (!(i.kind.toList == [])) then (if (zf tab n.text.toList).var.arr then (if idxT tab l i (zf tab n.text.toList).var.over then simT tab (zf tab n.text.toList).var.si else noVT) else noVT) else singT tab l n
set_option maxRecDepth 100000 in
set_option maxHeartbeats 4000000 in
theorem tplace_any (w : World) (b lo : Nat) (tab : Tab) (l : List PP) (pa : Option Addr) (pn pc : Nat) (n i : Tok) (ht : dw w b tab) (htz : TabSz tab) (ho : w.ownsRow lo 352 4 (.slice pa pn pc) l.length (jq l)) (hl : l.length≤1000) (hs : ∀ y ∈ kqb n i,y.text.size≤1000) :
  Calls Tryz.prog 244 #[tyV b (.slice pa pn pc),pl5 n i] w fun e w'=>e = .returned (vtV (tplT tab l n i))∧Below w.heap.size w w':=by
 obtain ⟨ps,hps⟩ : ∃ ps,ps = Value.slice pa pn pc:=⟨_,rfl⟩
 have hsn : n.text.size≤1000:=hs n (by unfold kqb; split <;> simp)
 have hsi : (!(i.kind.toList == [])) = true→i.text.size≤1000:=fun e=>hs i (by unfold kqb; rw [Bool.not_eq_true'] at e; rw [e]; simp)
 have E:=hide (show tplT tab l n i = if (!(i.kind.toList == [])) then (if (zf tab n.text.toList).var.arr then (if idxT tab l i (zf tab n.text.toList).var.over then simT tab (zf tab n.text.toList).var.si else noVT) else noVT) else singT tab l n from rfl)
 have hqs:=htz n.text.toList
 generalize tplT tab l n i = fin at *
 unfold pl5
 generalize (!(i.kind.toList == [])) = d at *
 rw [← hps] at ho ⊢
 obtain ⟨W,hW⟩ : ∃ W,W = ((w.alloc (.cells #[.map (some b),ps] 301)).alloc (.cells #[.string n.text,.int .i64 n.at_,.bool d,.string i.text,.int .i64 i.at_] 332)).alloc (.cells #[.int .i64 0,.string ⟨#[]⟩] 362):=⟨_,rfl⟩
 have hbW : Below w.heap.size w W:=by rw [hW]; exact (kj0 w _ _).trans ((below_alloc1 _ _).mono (by simp; omega))
 have hsW : W.heap.size = w.heap.size + 3:=by rw [hW]; simp
 have hT : W.heap[w.heap.size]? = some (.cells #[.map (some b),ps] 301 (0,0)):=by rw [hW]; exact ql (ql (qg _ _))
 have hX : W.heap[w.heap.size + 1]? = some (.cells #[.string n.text,.int .i64 n.at_,.bool d,.string i.text,.int .i64 i.at_] 332 (0,0)):=by
  rw [hW]
  have:=qg (w.alloc (.cells #[.map (some b),ps] 301)) (.cells #[.string n.text,.int .i64 n.at_,.bool d,.string i.text,.int .i64 i.at_] 332)
  simp only [World.size_alloc] at this
  exact ql this
 have hR : W.heap[w.heap.size + 2]? = some (.cells #[.int .i64 0,.string ⟨#[]⟩] 362 (0,0)):=by
  rw [hW]
  have:=qg ((w.alloc (.cells #[.map (some b),ps] 301)).alloc (.cells #[.string n.text,.int .i64 n.at_,.bool d,.string i.text,.int .i64 i.at_] 332)) (.cells #[.int .i64 0,.string ⟨#[]⟩] 362)
  simp only [World.size_alloc] at this
  exact this
 have hM : dw W b tab:=ht.kept hbW
 have hOW:=qy ho hbW
 have hlk:=kz4 hM hsn
 have hf:=ent_field3 (zf tab n.text.toList)
 subst hps
 have HSG:=hide (single_any W b lo tab l pa pn pc n hM htz hOW hl hsn)
 obtain ⟨t0,t1,_⟩:=uw hT
 obtain ⟨x0,x1,x2,x3,x4,_⟩:=zh hX
 obtain ⟨r0,r1,r2,r3⟩:=uw hR
 have HT:=hide hT
 have HX:=hide hX
 have HR:=hide hR
 have HB:=hide hbW
 have HM:=hide hM
 have HO:=hide hOW
 have HWE:=hide hW.symm
 have hlt0 : w.heap.size < W.heap.size:=by omega
 have hlt1 : w.heap.size + 1 < W.heap.size:=by omega
 have hlt2 : w.heap.size + 2 < W.heap.size:=by omega
 clear hR hbW hW hM ht hT hX ho hOW hs hsW
 unfold tyV ptV vtV at *
 go_enter Tryz.func244,Tryz.ntmps244
 go_upto_region 1 with fail
 rw [ku HWE,show w.heap.size + 1 + 1 = w.heap.size + 2 from rfl]
 cases d
 case false=>
  clear hsi hlk hf
  go_wp2_with fail
  refine (ku HSG).mono ?_
  rintro e w1 ⟨rfl,hb1⟩
  have hR1:=(hb1.block (w.heap.size + 2) (by omega)).trans (ku HR)
  obtain ⟨s0,s1,s2,s3⟩:=uw hR1
  have HR1:=hide hR1
  have HB1:=hide ((ku HB).trans (hb1.mono (by omega)))
  clear hb1 hR1 HSG
  go_wp2
  refine bodyPost_ret (results_cell_row Tryz.results244 _ _ (w.heap.size + 2) _ _ _ _ rfl (set2 (ku HR1) _ _) Tryz.underlying362 rfl (by kernel_rfl)) rfl ?_
  exact ⟨by rw [ku E]; rfl,((ku HB1).setCell (show w.heap.size≤w.heap.size + 2 by omega) _).setCell (show w.heap.size≤w.heap.size + 2 by omega) _⟩
 case true=>
 have hsi':=hsi rfl
 have HIX:=hide (isIndex_any (W.alloc (.cells #[.string (zf tab n.text.toList).var.name.text,.int .i64 (zf tab n.text.toList).var.name.at_,.bool (zf tab n.text.toList).var.arr,.string (zf tab n.text.toList).var.over.text,.int .i64 (zf tab n.text.toList).var.over.at_,.int .i64 (zf tab n.text.toList).var.si.form,.int .i64 (yu (zf tab n.text.toList).var.si.top.text),.int .i64 (zf tab n.text.toList).var.si.top.at_,.string (zf tab n.text.toList).var.si.name.text,.int .i64 (zf tab n.text.toList).var.si.name.at_] 121)) b lo tab l pa pn pc i (zf tab n.text.toList).var.over ((ku HM).kept (below_alloc1 _ _)) htz ((ku HO).alloc _) hl hsi')
 unfold tyV ptV at HIX
 generalize zf tab n.text.toList = q at *
 clear hsi HSG
 cases ha : q.var.arr
 ·rw [ha] at E hf
  go_wp2
  refine bodyPost_ret (results_cell_row Tryz.results244 _ _ (w.heap.size + 2) _ _ _ _ rfl (ql (set2 (ku HR) _ _)) Tryz.underlying362 rfl (by kernel_rfl)) rfl ?_
  exact ⟨by rw [ku E]; rfl,((((ku HB).setCell (show w.heap.size≤w.heap.size + 2 by omega) _).setCell (show w.heap.size≤w.heap.size + 2 by omega) _).alloc (by simp [World.setCell]; omega) _)⟩
 ·rw [ha] at E hf HIX
  go_wp2_with fail
  refine (ku HIX).mono ?_
  rintro e w1 ⟨rfl,hb1⟩
  generalize idxT tab l i q.var.over = c at *
  have hs1:=hb1.size
  simp at hs1
  have hv1:=(hb1.block W.heap.size (by simp)).trans (qg _ _)
  have hT1:=(hb1.block w.heap.size (by simp; omega)).trans (ql (ku HT))
  have hR1:=(hb1.block (w.heap.size + 2) (by simp; omega)).trans (ql (ku HR))
  have hM1:=((ku HM).kept (below_alloc1 _ _)).kept hb1
  obtain ⟨⟨_,_,_,_,_,g5,g6,g7,g8,g9⟩,_⟩:=kzq hv1
  obtain ⟨t0,t1,_⟩:=uw hT1
  obtain ⟨s0,s1,s2,s3⟩:=uw hR1
  have HR1:=hide hR1
  have HB1:=hide (((ku HB).alloc (by omega) _).trans (hb1.mono (by simp; omega)))
  have HSI:=hide (tsimple_any w1 b tab (.slice pa pn pc) q.var.si hM1 hqs rfl)
  unfold tyV siV vtV at HSI
  clear hb1 hv1 hT1 hR1 hM1 HIX
  cases c
  ·go_wp2
   refine bodyPost_ret (results_cell_row Tryz.results244 _ _ (w.heap.size + 2) _ _ _ _ rfl (set2 (ku HR1) _ _) Tryz.underlying362 rfl (by kernel_rfl)) rfl ?_
   exact ⟨by rw [ku E]; rfl,((ku HB1).setCell (show w.heap.size≤w.heap.size + 2 by omega) _).setCell (show w.heap.size≤w.heap.size + 2 by omega) _⟩
  ·go_wp2_with fail
   refine (ku HSI).mono ?_
   rintro e w3 ⟨rfl,hb3⟩
   have hR3:=(hb3.block (w.heap.size + 2) (by omega)).trans (ku HR1)
   obtain ⟨u0,u1,u2,u3⟩:=uw hR3
   have HR3:=hide hR3
   have HB3:=hide ((ku HB1).trans (hb3.mono (by omega)))
   clear hb3 hR3 HSI
   go_wp2
   refine bodyPost_ret (results_cell_row Tryz.results244 _ _ (w.heap.size + 2) _ _ _ _ rfl (set2 (ku HR3) _ _) Tryz.underlying362 rfl (by kernel_rfl)) rfl ?_
   exact ⟨by rw [ku E]; rfl,((ku HB3).setCell (show w.heap.size≤w.heap.size + 2 by omega) _).setCell (show w.heap.size≤w.heap.size + 2 by omega) _⟩
end Go.Proofs.YtpmcnonmkghokaaGreatDoor
namespace Go.Proofs.YtpmcnonmkghokaaGreatDoor
open Go.RowKit
def XFull : PX→Prop
 | .nil=>True
 | .node _ _ x a c=>((5≤opN x.op.toList→isNil a = false)∧(6≤opN x.op.toList→isNil c = false))∧XFull a∧XFull c
def kj7 (tab : Tab) (l : List PP) : PX→VT
 | .nil=>noVT
 | .node _ _ x a c=>
  if (opN x.op.toList == 0 || opN x.op.toList == 1) then ⟨1,⟨#[]⟩⟩ else if opN x.op.toList == 3 then ⟨2,⟨#[]⟩⟩ else if opN x.op.toList == 2 then ⟨5,⟨#[]⟩⟩
  else if opN x.op.toList == 4 then tplT tab l x.name x.index else if opN x.op.toList == 5 then makesT 1 ((kj7 tab l a).fam == 1) else binT (opN x.op.toList) (kj7 tab l a) (kj7 tab l c)
def setT (tab : Tab) (l : List PP) (p v : PX) : Bool:=((zf tab (nameOfX p).toList).role == 4) && (sameT (kj7 tab l p) (kj7 tab l v) || ((kj7 tab l p).fam == 4 && (kj7 tab l v).fam == 5))
def blkT (tab : Tab) (l : List PP) : PB→Bool
 | .nil=>true
 | .node _ _ a .nil n=>setT tab l a.place a.value && blkT tab l n
 | .node _ _ a (.node _ _ _ t e) n=>(((kj7 tab l a.cond).fam == 1 && blkT tab l t) && blkT tab l e) && blkT tab l n
def BFull : PB→Prop
 | .nil=>True
 | .node _ _ a .nil n=>(XFull a.value∧isNil a.value = false∧∃ x,a.place = .node 0 0 x .nil .nil∧x.op.toList = [112,108,97,99,101])∧BFull n
 | .node _ _ a (.node _ _ _ t e) n=>(XFull a.cond∧isNil a.cond = false)∧BFull t∧BFull e∧BFull n
def ruleT (tab : Tab) (r : PRule) : Bool:=(kj7 tab r.params r.guard).fam == 1 && blkT tab r.params r.body
def nevT (tab : Tab) (r : PRule) : Bool:=(kj7 tab r.params r.guard).fam == 1
def typesT (tab : Tab) (m : MdL) : Bool:=m.rules.all (ruleT tab) && m.nevers.all (nevT tab)
theorem XWell.full : ∀ {x : PX},XWell x→XFull x
 | .nil,h=>trivial
 | .node _ _ x a c,h=>by
  rcases h with ⟨h1,rfl,rfl⟩ | ⟨h1,h2,rfl⟩ | ⟨h1,h2,h3⟩
  ·refine ⟨⟨fun h5=>?_,fun h5=>?_⟩,trivial,trivial⟩ <;> (exfalso; rcases h1 with (h1 | h1 | h1) | ⟨h1,_⟩ | ⟨h1,_⟩ <;> rw [h1] at h5 <;> revert h5 <;> decide)
  ·refine ⟨⟨fun _=>h2.some,fun h5=>?_⟩,h2.full,trivial⟩
   exfalso; rw [h1] at h5; revert h5; decide
  ·exact ⟨⟨fun _=>h2.some,fun _=>h3.some⟩,h2.full,h3.full⟩
end Go.Proofs.YtpmcnonmkghokaaGreatDoor
namespace Go.Proofs.YtpmcnonmkghokaaGreatDoor
open Go.RowKit
attribute [local go_sem ↓] Go.wp_at_zero Go.wp_at_succ
theorem cell_set2 {w : World} {a : Addr} {v : Value} {b : Nat} (h : a.block≠b) (hc : w.cell? a = some v) (x y : Value) : ((w.setCell ⟨b,0,none⟩ x).setCell ⟨b,1,none⟩ y).cell? a = some v:=by
 refine (World.cell?_of_block (w:=w) ?_).trans hc
 rw [Below.heap_setCell _ _ _ _ h,Below.heap_setCell _ _ _ _ h]
theorem vt_field0 (f : Int) (s : ByteArray) (w : World) : (Instr.field 362 (.agg #[.int .i64 f,.string s]) 0).run Tryz.prog w = .ok (.int .i64 f) w:=by kernel_rfl
theorem opN_range (o : List UInt8) : 0≤opN o∧opN o≤13:=by
 unfold opN
 repeat (first | (split; · omega) | omega)
def TExprSaid (x : PX) : Prop:=∀ (w : World) (b lo xo : Nat) (tab : Tab) (l : List PP) (pa : Option Addr) (pn pc : Nat) (v : Value),dw w b tab→TabSz tab→w.ownsRow lo 352 4 (.slice pa pn pc) l.length (jq l)→l.length≤1000 →
  XIs xo w x v→XFull x→isNil x = false→(∀ y ∈ jh x,y.text.size≤1000) →
  Calls Tryz.prog 217 #[tyV b (.slice pa pn pc),v] w fun e w'=>e = .returned (vtV (kj7 tab l x))∧Below w.heap.size w w'
set_option maxRecDepth 100000 in
set_option maxHeartbeats 8000000 in
theorem texpr_node (i j : Nat) (x : ELab) (a c : PX) (iha : TExprSaid a) (ihc : TExprSaid c) : TExprSaid (.node i j x a c):=by
 intro w b lo xo tab l pa pn pc v ht htz ho hl hX hF _ hs
 obtain ⟨k,va,vb,rfl,hk,hh,ha,hb⟩:=hX
 obtain ⟨p1,rfl⟩:=ha.ptr
 obtain ⟨p2,rfl⟩:=hb.ptr
 have hsa : ∀ y ∈ jh a,y.text.size≤1000:=fun y hy=>hs y (by rw [jh]; simp [hy])
 have hsc : ∀ y ∈ jh c,y.text.size≤1000:=fun y hy=>hs y (by rw [jh]; simp [hy])
 have hsp : ∀ y ∈ ownP x,y.text.size≤1000:=fun y hy=>hs y (by rw [jh]; simp [hy])
 have hop:=opN_place x.op.toList
 have hor:=opN_range x.op.toList
 obtain ⟨W,hW⟩ : ∃ W,W = (w.alloc (.cells #[.map (some b),.slice pa pn pc] 301)).alloc (.cells #[.int .i64 0,.string ⟨#[]⟩] 362):=⟨_,rfl⟩
 have hbW : Below w.heap.size w W:=by rw [hW]; exact kj0 w _ _
 have hsW : W.heap.size = w.heap.size + 2:=by rw [hW]; simp
 have hT : W.heap[w.heap.size]? = some (.cells #[.map (some b),.slice pa pn pc] 301 (0,0)):=by rw [hW]; exact ql (qg _ _)
 have hR : W.heap[w.heap.size + 1]? = some (.cells #[.int .i64 0,.string ⟨#[]⟩] 362 (0,0)):=by
  rw [hW]
  have:=qg (w.alloc (.cells #[.map (some b),.slice pa pn pc] 301)) (.cells #[.int .i64 0,.string ⟨#[]⟩] 362)
  simp only [World.size_alloc] at this
  exact this
 have hkl:=lt_of_block hh
 have hhW:=(hbW.block k hkl).trans hh
 unfold xCells at hhW
 have E:=hide (show kj7 tab l (.node i j x a c) = if (opN x.op.toList == 0 || opN x.op.toList == 1) then ⟨1,⟨#[]⟩⟩ else if opN x.op.toList == 3 then ⟨2,⟨#[]⟩⟩ else if opN x.op.toList == 2 then ⟨5,⟨#[]⟩⟩
  else if opN x.op.toList == 4 then tplT tab l x.name x.index else if opN x.op.toList == 5 then makesT 1 ((kj7 tab l a).fam == 1) else binT (opN x.op.toList) (kj7 tab l a) (kj7 tab l c) from rfl)
 have hbWd : Below w.heap.size w W.drew:=hbW.drew
 have HPL:=hide (fun e : ownP x = kqb x.name x.index=>tplace_any W.drew b lo tab l pa pn pc x.name x.index (ht.kept hbWd) htz (qy ho hbWd) hl (by rw [← e]; exact hsp))
 have HA:=hide (fun e : isNil a = false=>iha W.drew b lo xo tab l pa pn pc _ (ht.kept hbWd) htz (qy ho hbWd) hl (ha.below hbWd) hF.2.1 e hsa)
 have HC:=hide (fun (e : isNil c = false) (w1 : World) (h1 : Below w.heap.size w w1)=>ihc w1 b lo xo tab l pa pn pc _ (ht.kept h1) htz (qy ho h1) hl (hb.below h1) hF.2.2 e hsc)
 have hF1:=hF.1
 obtain ⟨⟨q0,q1,q2,q3,q4,q5,q6,q7,q8⟩,_⟩:=kja hhW
 obtain ⟨t0,t1,_⟩:=uw hT
 obtain ⟨r0,r1,r2,r3⟩:=uw hR
 have HX:=hide hhW
 have HT:=hide hT
 have HR:=hide hR
 have HB:=hide hbW
 have HWE:=hide hW.symm
 have hlt0 : w.heap.size < W.heap.size:=by omega
 have hlt1 : w.heap.size + 1 < W.heap.size:=by omega
 have hltk : k < W.heap.size:=by omega
 have hkn : (⟨k,0,none⟩ : Addr).block≠w.heap.size + 1:=by show k≠_; omega
 have hwn : (⟨w.heap.size,0,none⟩ : Addr).block≠w.heap.size + 1:=by show w.heap.size≠_; omega
 generalize kj7 tab l (.node i j x a c) = fin at *
 clear hR hbW hW hT hh hhW ho ht ha hb hs hsa hsc hsp hF hbWd
 unfold tyV pl5 vtV at *
 generalize (!(x.index.kind.toList == [])) = d at *
 go_enter Tryz.func217,Tryz.ntmps217
 generalize opN x.op.toList = o at *
 go_upto_region 1 with fail
 rw [ku HWE]
 cases h0 : (o == 0)
 case true=>
  rw [h0] at E
  go_wp2
  refine bodyPost_ret (results_cell_row Tryz.results217 _ _ (w.heap.size + 1) _ _ _ _ rfl (set2 (ku HR) _ _) Tryz.underlying362 rfl (by kernel_rfl)) rfl ?_
  exact ⟨by rw [ku E]; rfl,((ku HB).setCell (show w.heap.size≤w.heap.size + 1 by omega) _).setCell (show w.heap.size≤w.heap.size + 1 by omega) _⟩
 case false=>
 cases h1 : (o == 1)
 case true=>
  rw [h0,h1] at E
  go_wp2
  refine bodyPost_ret (results_cell_row Tryz.results217 _ _ (w.heap.size + 1) _ _ _ _ rfl (set2 (ku HR) _ _) Tryz.underlying362 rfl (by kernel_rfl)) rfl ?_
  exact ⟨by rw [ku E]; rfl,((ku HB).setCell (show w.heap.size≤w.heap.size + 1 by omega) _).setCell (show w.heap.size≤w.heap.size + 1 by omega) _⟩
 case false=>
 rw [h0,h1] at E
 cases h3 : (o == 3)
 case true=>
  rw [h3] at E
  go_wp2
  refine bodyPost_ret (results_cell_row Tryz.results217 _ _ (w.heap.size + 1) _ _ _ _ rfl (set2 (ku HR) _ _) Tryz.underlying362 rfl (by kernel_rfl)) rfl ?_
  exact ⟨by rw [ku E]; rfl,((ku HB).setCell (show w.heap.size≤w.heap.size + 1 by omega) _).setCell (show w.heap.size≤w.heap.size + 1 by omega) _⟩
 case false=>
 rw [h3] at E
 cases h2 : (o == 2)
 case true=>
  rw [h2] at E
  go_wp2
  refine bodyPost_ret (results_cell_row Tryz.results217 _ _ (w.heap.size + 1) _ _ _ _ rfl (set2 (ku HR) _ _) Tryz.underlying362 rfl (by kernel_rfl)) rfl ?_
  exact ⟨by rw [ku E]; rfl,((ku HB).setCell (show w.heap.size≤w.heap.size + 1 by omega) _).setCell (show w.heap.size≤w.heap.size + 1 by omega) _⟩
 case false=>
 rw [h2] at E
 cases h4 : (o == 4)
 case true=>
  rw [h4] at E hop
  have HPL':=hide ((ku HPL) (by unfold ownP; rw [← hop]; rfl))
  clear HPL HA HC hop
  go_upto_region 10 with fail
  go_region_law ((go_simp; go_at_call 244; refine (ku HPL').mono ?_; rintro e w1 ⟨rfl,hb1⟩; have hR1:=(hb1.block (w.heap.size + 1) (by simpa using hlt1)).trans (ku HR); obtain ⟨s0,s1,s2,s3⟩:=uw hR1; have HR1:=hide hR1; have HB1:=hide ((ku HB).drew.trans (hb1.mono (by have:=hsW; simp; omega))); clear hb1 hR1; dsimp only))
  all_goals
   go_wp2
   refine bodyPost_ret (results_cell_row Tryz.results217 _ _ (w.heap.size + 1) _ _ _ _ rfl (set2 (ku HR1) _ _) Tryz.underlying362 rfl (by kernel_rfl)) rfl ?_
   exact ⟨by rw [ku E]; rfl,((ku HB1).setCell (show w.heap.size≤w.heap.size + 1 by omega) _).setCell (show w.heap.size≤w.heap.size + 1 by omega) _⟩
 case false=>
 rw [h4] at E
 have hn0 : ¬ o = 0:=by simpa using h0
 have hn1 : ¬ o = 1:=by simpa using h1
 have hn2 : ¬ o = 2:=by simpa using h2
 have hn3 : ¬ o = 3:=by simpa using h3
 have hn4 : ¬ o = 4:=by simpa using h4
 have HA':=hide ((ku HA) (hF1.1 (by omega)))
 clear HA HPL hop
 cases h5 : (o == 5)
 case true=>
  rw [h5] at E
  have hvf:=vt_field0 (kj7 tab l a).fam (kj7 tab l a).name
  generalize kj7 tab l a = ta at *
  clear HC hn0 hn1 hn2 hn3 hn4
  go_upto_region 12 with fail
  go_region_law (first | (go_simp; go_at_call 217; refine (ku HA').mono ?_; rintro e w1 ⟨rfl,hb1⟩; have hs1:=hb1.size; have hR1:=(hb1.block (w.heap.size + 1) (by simpa using hlt1)).trans (ku HR); have HR1:=hide hR1; have HB1:=hide ((ku HB).drew.trans (hb1.mono (by have:=hsW; simp; omega))); clear hb1 hR1; dsimp only) | (go_simp; go_at_call 245; refine (makes_any _ _ _).mono ?_; rintro e w2 ⟨rfl,hb2⟩; have hR2:=(hb2.block (w.heap.size + 1) (by simp at hs1; omega)).trans (ku HR1); obtain ⟨s0,s1,s2,s3⟩:=uw hR2; have HR2:=hide hR2; have HB2:=hide ((ku HB1).trans (hb2.mono (by simp at hs1; omega))); clear hb2 hR2; dsimp only [vtV]))
  all_goals
   go_wp2
   refine bodyPost_ret (results_cell_row Tryz.results217 _ _ (w.heap.size + 1) _ _ _ _ rfl (set2 (ku HR2) _ _) Tryz.underlying362 rfl (by kernel_rfl)) rfl ?_
   exact ⟨by rw [ku E]; rfl,((ku HB2).setCell (show w.heap.size≤w.heap.size + 1 by omega) _).setCell (show w.heap.size≤w.heap.size + 1 by omega) _⟩
 case false=>
 rw [h5] at E
 have hn5 : ¬ o = 5:=by simpa using h5
 have HC':=hide ((ku HC) (hF1.2 (by omega)))
 generalize kj7 tab l a = ta at *
 generalize kj7 tab l c = tc at *
 clear HC hn0 hn1 hn2 hn3 hn4 hn5 hor hF1
 go_upto_region 13 with fail
 go_region_held3 (fun w'=>w'.cell? ⟨k,0,none⟩ = some (.int .i64 o)∧w'.cell? ⟨k,7,none⟩ = some (.pointer p1)∧w'.cell? ⟨k,8,none⟩ = some (.pointer p2)∧w'.cell? ⟨w.heap.size,0,none⟩ = some (.map (some b))∧w'.cell? ⟨w.heap.size,1,none⟩ = some (.slice pa pn pc))
  (first | exact ⟨q0,q7,q8,t0,t1⟩ | exact ⟨a0,a7,a8,b0,b1⟩ | exact ⟨c0,c7,c8,d0,d1⟩ | exact ⟨e0,e7,e8,f0,f1⟩ | exact ⟨cell_set2 hkn e0 _ _,cell_set2 (a:=⟨k,7,none⟩) hkn e7 _ _,cell_set2 (a:=⟨k,8,none⟩) hkn e8 _ _,cell_set2 hwn f0 _ _,cell_set2 (a:=⟨w.heap.size,1,none⟩) hwn f1 _ _⟩)
  (first
  | (go_at_call 217; refine (ku HA').mono ?_; rintro e w1 ⟨rfl,hb1⟩; have hs1:=hb1.size; have hX1:=(hb1.block k (by simpa using hltk)).trans (ku HX); have hT1:=(hb1.block w.heap.size (by simpa using hlt0)).trans (ku HT); have hR1:=(hb1.block (w.heap.size + 1) (by simpa using hlt1)).trans (ku HR); obtain ⟨⟨a0,_,_,_,_,_,_,a7,a8⟩,_⟩:=kja hX1; obtain ⟨b0,b1,_⟩:=uw hT1; have HX1:=hide hX1; have HT1:=hide hT1; have HR1:=hide hR1; have HB1:=hide ((ku HB).drew.trans (hb1.mono (by have:=hsW; simp; omega))); have HC1:=hide ((ku HC') w1 (ku HB1)); have hz1 : w.heap.size + 1 < w1.heap.size:=Nat.lt_of_lt_of_le hlt1 hs1; have hk1 : k < w1.heap.size:=Nat.lt_of_lt_of_le hltk hs1; have hw1 : w.heap.size < w1.heap.size:=Nat.lt_of_lt_of_le hlt0 hs1; clear hb1 hX1 hT1 hR1 hs1 HA')
  | (go_at_call 217; refine (ku HC1).mono ?_; rintro e w2 ⟨rfl,hb2⟩; have hs2:=hb2.size; have hX2:=(hb2.block k hk1).trans (ku HX1); have hT2:=(hb2.block w.heap.size hw1).trans (ku HT1); have hR2:=(hb2.block (w.heap.size + 1) hz1).trans (ku HR1); obtain ⟨⟨c0,_,_,_,_,_,_,c7,c8⟩,_⟩:=kja hX2; obtain ⟨d0,d1,_⟩:=uw hT2; have HX2:=hide hX2; have HT2:=hide hT2; have HR2:=hide hR2; have HB2:=hide ((ku HB1).trans (hb2.mono (Nat.le_of_lt hw1))); have hz2 : w.heap.size + 1 < w2.heap.size:=Nat.lt_of_lt_of_le hz1 hs2; have hk2 : k < w2.heap.size:=Nat.lt_of_lt_of_le hk1 hs2; have hw2 : w.heap.size < w2.heap.size:=Nat.lt_of_lt_of_le hw1 hs2; clear hb2 hX2 hT2 hR2 hs2 HC1)
  | (go_at_call 246; refine (binary_any _ o ta tc).mono ?_; rintro e w3 ⟨rfl,hb3⟩; have hX3:=(hb3.block k hk2).trans (ku HX2); have hT3:=(hb3.block w.heap.size hw2).trans (ku HT2); have hR3:=(hb3.block (w.heap.size + 1) hz2).trans (ku HR2); obtain ⟨⟨e0,_,_,_,_,_,_,e7,e8⟩,_⟩:=kja hX3; obtain ⟨f0,f1,_⟩:=uw hT3; obtain ⟨s0,s1,s2,s3⟩:=uw hR3; have HR3:=hide hR3; have HB3:=hide ((ku HB2).trans (hb3.mono (Nat.le_of_lt hw2))); clear hb3 hR3 hX3 hT3; dsimp only [vtV]))
 all_goals
  go_wp2
  refine bodyPost_ret (results_cell_row Tryz.results217 _ _ (w.heap.size + 1) _ _ _ _ rfl (set2 (ku HR3) _ _) Tryz.underlying362 rfl (by kernel_rfl)) rfl ?_
  exact ⟨by rw [ku E]; rfl,((ku HB3).setCell (show w.heap.size≤w.heap.size + 1 by omega) _).setCell (show w.heap.size≤w.heap.size + 1 by omega) _⟩
theorem texpr_all : ∀ x : PX,TExprSaid x
 | .nil=>fun w b lo xo tab l pa pn pc v _ _ _ _ _ _ h _=>by cases h
 | .node i j x a c=>texpr_node i j x a c (texpr_all a) (texpr_all c)
end Go.Proofs.YtpmcnonmkghokaaGreatDoor

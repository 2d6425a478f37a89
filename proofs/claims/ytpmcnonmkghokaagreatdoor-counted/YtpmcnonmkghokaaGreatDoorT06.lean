import Derived.Test.YtpmcnonmkghokaaGreatDoorT05
import Derived.Test.YtpmcnonmkghokaaGreatDoorT02
import Derived.Laws.AppendOwnNone
import Derived.Deep.RegionWith
import Derived.Test.YtpmcnonmkghokaaGreatDoorT00
set_option linter.unusedVariables false
set_option linter.unusedSimpArgs false
namespace Go.Proofs.YtpmcnonmkghokaaGreatDoor
open Go.RowKit
def stC1 (s : PSet) : List Value:=[.string s.name.text,.int .i64 s.name.at_,.int .i64 (yu s.size.text),.int .i64 s.size.at_]
def stsC (l : List PSet) : List Value:=l.flatMap stC1
def vrsC (l : List VrT) : List Value:=l.flatMap yg
theorem stsC_snoc (l : List PSet) (p : PSet) : stsC (l ++ [p]) = stsC l ++ stC1 p:=by simp [stsC]
theorem vrsC_snoc (l : List VrT) (p : VrT) : vrsC (l ++ [p]) = vrsC l ++ yg p:=by simp [vrsC]
theorem stC1_one (p : PSet) : ∀ u ∈ stC1 p,u.oneCell' = true:=by
 intro u h
 simp only [stC1,List.mem_cons,List.not_mem_nil,or_false] at h
 rcases h with rfl | rfl | rfl | rfl <;> rfl
theorem vrCells_one (p : VrT) : ∀ u ∈ yg p,u.oneCell' = true:=by
 intro u h
 simp only [yg,List.mem_cons,List.not_mem_nil,or_false] at h
 rcases h with rfl | rfl | rfl | rfl | rfl | rfl | rfl | rfl | rfl | rfl <;> rfl
def kjf (lo : Nat) (w : World) : List PKind→List Value→Prop
 | [],cs=>cs = []
 | k :: ks,cs=>∃ ma mn mc rest,cs = [.string k.name.text,.int .i64 k.name.at_,.slice ma mn mc] ++ rest∧w.ownsRow lo 107 2 (.slice ma mn mc) k.members.length (uf k.members)∧kjf lo w ks rest
theorem kjf.stay {lo : Nat} {w w' : World} (hk : ∀ k,lo≤k→k < w.heap.size→w'.heap[k]? = w.heap[k]?) : ∀ {ks : List PKind} {cs : List Value},kjf lo w ks cs→kjf lo w' ks cs
 | [],_,h=>h
 | k :: ks,_,⟨ma,mn,mc,rest,e,h1,h2⟩=>⟨ma,mn,mc,rest,e,zo hk h1,kjf.stay hk h2⟩
theorem kjf.mono {lo lo' : Nat} {w : World} (hl : lo'≤lo) : ∀ {ks : List PKind} {cs : List Value},kjf lo w ks cs→kjf lo' w ks cs
 | [],_,h=>h
 | k :: ks,_,⟨ma,mn,mc,rest,e,h1,h2⟩=>⟨ma,mn,mc,rest,e,zx hl h1,kjf.mono hl h2⟩
theorem kjf.app {lo : Nat} {w : World} : ∀ {ks js : List PKind} {cs ds : List Value},kjf lo w ks cs→kjf lo w js ds→kjf lo w (ks ++ js) (cs ++ ds)
 | [],_,cs,ds,h,h'=>by
  have : cs = []:=h
  subst this; exact h'
 | k :: ks,_,cs,ds,⟨ma,mn,mc,rest,e,h1,h2⟩,h'=>⟨ma,mn,mc,rest ++ ds,by rw [e,List.append_assoc],h1,h2.app h'⟩
theorem kjf.grown {lo base e size : Nat} {w w' : World} {v : Value} {n : Nat} {zs : List Value} (hv : w.ownsRow base e size v n zs) (he : 107≠e) (hg : w.grownBy w' v.ownBlock) : ∀ {ks : List PKind} {cs : List Value},kjf lo w ks cs→kjf lo w' ks cs
 | [],_,h=>h
 | k :: ks,_,⟨ma,mn,mc,rest,e1,h1,h2⟩=>⟨ma,mn,mc,rest,e1,jl h1 hv he hg,kjf.grown hv he hg h2⟩
theorem BIs.grownOther {lo base e size : Nat} {no : Option Nat} {w w' : World} {v : Value} {n : Nat} {zs : List Value} (hv : w.ownsRow base e size v n zs) (he : 334≠e) (hx : 358≠e) (hg : w.grownBy w' v.ownBlock) : ∀ {b : PB} {cs : List Value},BIs lo no w b cs→BIs lo no w' b cs
 | .nil,_,h=>h
 | .node _ _ a .nil n,cs,⟨p,rest,e,h1,hn⟩=>⟨p,rest,e,h1.grown hv hx hg,BIs.grownOther hv he hx hg hn⟩
 | .node _ _ a (.node _ _ _ t e) n,cs,⟨p,ta,tn,tc,ea,en,ec,ct,ce,rest,e1,h1,⟨ht1,ht3,ht2⟩,⟨he1,he3,he2⟩,hn⟩=>
  ⟨p,ta,tn,tc,ea,en,ec,ct,ce,rest,e1,h1.grown hv hx hg,⟨jl ht1 hv he hg,ht3,BIs.grownOther hv he hx hg ht2⟩,⟨jl he1 hv he hg,he3,BIs.grownOther hv he hx hg he2⟩,BIs.grownOther hv he hx hg hn⟩
theorem kjn.grown {lo base e size : Nat} {w w' : World} {v : Value} {n : Nat} {zs : List Value} (hv : w.ownsRow base e size v n zs) (hp : 352≠e) (he : 334≠e) (hx : 358≠e) (hg : w.grownBy w' v.ownBlock) : ∀ {rs : List PRule} {cs : List Value},kjn lo w rs cs→kjn lo w' rs cs
 | [],_,h=>h
 | r :: rs,_,⟨pa,pn,pc,gp,ba,bn,bc,bcs,rest,e1,h1,h2,h3,h4,h5⟩=>⟨pa,pn,pc,gp,ba,bn,bc,bcs,rest,e1,jl h1 hv hp hg,h2.grown hv hx hg,jl h3 hv he hg,h4.grownOther hv he hx hg,kjn.grown hv hp he hx hg h5⟩
theorem kjl.grown {lo base e size : Nat} {w w' : World} {v : Value} {n : Nat} {zs : List Value} (hv : w.ownsRow base e size v n zs) (hp : 352≠e) (hx : 358≠e) (hg : w.grownBy w' v.ownBlock) : ∀ {rs : List PRule} {cs : List Value},kjl lo w rs cs→kjl lo w' rs cs
 | [],_,h=>h
 | r :: rs,_,⟨pa,pn,pc,gp,rest,e1,h1,h2,h5⟩=>⟨pa,pn,pc,gp,rest,e1,jl h1 hv hp hg,h2.grown hv hx hg,kjl.grown hv hp hx hg h5⟩
structure MdL where
 sets : List PSet
 kinds : List PKind
 vars : List VrT
 rules : List PRule
 nevers : List PRule
structure MdIs (lo : Nat) (w : World) (x0 x1 x2 x3 x4 : Value) (m : MdL) : Prop where
 o0 : w.ownsRow lo 111 4 x0 m.sets.length (stsC m.sets)
 o1 : ∃ cs,w.ownsRow lo 114 3 x1 m.kinds.length cs∧kjf lo w m.kinds cs
 o2 : w.ownsRow lo 121 10 x2 m.vars.length (vrsC m.vars)
 o3 : ∃ cs,w.ownsRow lo 127 5 x3 m.rules.length cs∧kjn lo w m.rules cs
 o4 : ∃ cs,w.ownsRow lo 130 4 x4 m.nevers.length cs∧kjl lo w m.nevers cs
theorem MdIs.stay {lo : Nat} {w w' : World} {x0 x1 x2 x3 x4 : Value} {m : MdL} (hk : ∀ k,lo≤k→k < w.heap.size→w'.heap[k]? = w.heap[k]?) (h : MdIs lo w x0 x1 x2 x3 x4 m) : MdIs lo w' x0 x1 x2 x3 x4 m:=by
 obtain ⟨h0,⟨c1,h1,k1⟩,h2,⟨c3,h3,k3⟩,⟨c4,h4,k4⟩⟩:=h
 exact ⟨zo hk h0,⟨c1,zo hk h1,k1.stay hk⟩,zo hk h2,⟨c3,zo hk h3,k3.stay hk⟩,⟨c4,zo hk h4,k4.stay hk⟩⟩
theorem MdIs.mono {lo lo' : Nat} {w : World} {x0 x1 x2 x3 x4 : Value} {m : MdL} (hl : lo'≤lo) (h : MdIs lo w x0 x1 x2 x3 x4 m) : MdIs lo' w x0 x1 x2 x3 x4 m:=by
 obtain ⟨h0,⟨c1,h1,k1⟩,h2,⟨c3,h3,k3⟩,⟨c4,h4,k4⟩⟩:=h
 exact ⟨zx hl h0,⟨c1,zx hl h1,k1.mono hl⟩,zx hl h2,⟨c3,zx hl h3,k3.mono hl⟩,⟨c4,zx hl h4,k4.mono hl⟩⟩
structure kqp (w : World) (P : Nat) (v : Value) (L : List Tok) (B0 B1 : Nat) (x0 x1 x2 x3 x4 : Value) (m : MdL) (s : RS) (wx : World) : Prop where
 b0 : wx.heap[B0]? = some (.cells #[.slice none 0 0,.slice none 0 0,.slice none 0 0,.slice none 0 0,.slice none 0 0] 68 (0,0))
 b1 : wx.heap[B1]? = some (.cells #[x0,x1,x2,x3,x4] 68 (0,0))
 md : MdIs (B1 + 1) wx x0 x1 x2 x3 x4 m
 pd : Pd wx P v L s
 kept : Kept P w wx
theorem kqp.kept' {w : World} {P : Nat} {v : Value} {L : List Tok} {B0 B1 : Nat} {x0 x1 x2 x3 x4 : Value} {m : MdL} {s s' : RS} {wx wy : World} (h : kqp w P v L B0 B1 x0 x1 x2 x3 x4 m s wx) (hk : Kept P wx wy) (hp : Pd wy P v L s') (h0 : P < B0) (h1 : P < B1) : kqp w P v L B0 B1 x0 x1 x2 x3 x4 m s' wy:=
 ⟨hk.row (by omega) h.b0,hk.row (by omega) h.b1,h.md.stay (fun k hk1 hk2=>hk.block k hk2 (by omega)),hp,h.kept.trans hk⟩
theorem kqp.more0 {w : World} {P : Nat} {v : Value} {L : List Tok} {B0 B1 : Nat} {x0 x1 x2 x3 x4 y : Value} {m : MdL} {s : RS} {wx wy : World} {e : PSet} {o : Obj} (h : kqp w P v L B0 B1 x0 x1 x2 x3 x4 m s wx) (hg : (wx.alloc o).grownBy wy x0.ownBlock)
  (hown : wy.ownsRow (B1 + 1) 111 4 y (m.sets.length + 1) (stsC m.sets ++ stC1 e)) (hB : ∀ g,v.ownBlock = some g→g < w.heap.size) (hP : P < w.heap.size) (hB0 : w.heap.size = B0) (hB1 : B0 < B1) : kqp w P v L B0 B1 y x1 x2 x3 x4 { m with sets:=m.sets ++ [e] } s (wy.setCell ⟨B1,0,none⟩ y):=by
 subst hB0
 obtain ⟨h0,⟨c1,h1,k1⟩,h2,⟨c3,h3,k3⟩,⟨c4,h4,k4⟩⟩:=h.md
 have hv : (wx.alloc o).ownsRow (B1 + 1) 111 4 x0 _ _:=h0.alloc o
 have al : ∀ k,B1 + 1≤k→k < wx.heap.size→(wx.alloc o).heap[k]? = wx.heap[k]?:=fun k _ hk=>Below.heap_alloc _ _ _ hk
 have st : ∀ k,B1 + 1≤k→k < wy.heap.size→(wy.setCell ⟨B1,0,none⟩ y).heap[k]? = wy.heap[k]?:=fun k hk _=>Below.heap_setCell _ _ _ _ (by simp; omega)
 have hge:=jm h0
 have l0:=lt_of_block h.b0
 have l1:=lt_of_block h.b1
 have e0 : wy.heap[w.heap.size]? = wx.heap[w.heap.size]?:=(hg.block _ (by simp; omega) (fun e=>by have:=hge _ e.symm; omega)).trans (Below.heap_alloc _ _ _ l0)
 have e1 : wy.heap[B1]? = wx.heap[B1]?:=(hg.block _ (by simp; omega) (fun e=>by have:=hge _ e.symm; omega)).trans (Below.heap_alloc _ _ _ l1)
 refine ⟨by rw [Below.heap_setCell _ _ _ _ (by simp; omega),e0]; exact h.b0,heap_setCell_same _ _ 0 _ _ _ (e1.trans h.b1),?_,?_,?_⟩
 ·refine ⟨?_,?_,?_,?_,?_⟩
  ·simp only; rw [stsC_snoc,List.length_append]; exact zo st hown
  ·exact ⟨c1,zo st (jl (h1.alloc o) hv (by decide) hg),(kjf.grown hv (by decide) hg (k1.stay al)).stay st⟩
  ·exact zo st (jl (h2.alloc o) hv (by decide) hg)
  ·exact ⟨c3,zo st (jl (h3.alloc o) hv (by decide) hg),(kjn.grown hv (by decide) (by decide) (by decide) hg (k3.stay al)).stay st⟩
  ·exact ⟨c4,zo st (jl (h4.alloc o) hv (by decide) hg),(kjl.grown hv (by decide) (by decide) hg (k4.stay al)).stay st⟩
 ·exact ((h.pd.alloc o).grown hg hge (fun g hg=>by have:=hB g hg; omega) (by omega)).setOther (B:=w.heap.size) hB hP (by simp; omega) _
 ·exact (((h.kept.alloc o).grown hg (fun k hk=>by have:=hge k hk; omega)).jv (by simp; omega) _)
theorem kqp.more1 {w : World} {P : Nat} {v : Value} {L : List Tok} {B0 B1 : Nat} {x0 x1 x2 x3 x4 y : Value} {m : MdL} {s : RS} {wx wy : World} {e : PKind} {o : Obj} (h : kqp w P v L B0 B1 x0 x1 x2 x3 x4 m s wx) (hg : (wx.alloc o).grownBy wy x1.ownBlock)
  {cs ds : List Value} (hown : wy.ownsRow (B1 + 1) 114 3 y (m.kinds.length + 1) (cs ++ ds)) (hin : kjf (B1 + 1) wx m.kinds cs) (hnew : kjf (B1 + 1) wx [e] ds) (hB : ∀ g,v.ownBlock = some g→g < w.heap.size) (hP : P < w.heap.size) (hB0 : w.heap.size = B0) (hB1 : B0 < B1) : kqp w P v L B0 B1 x0 y x2 x3 x4 { m with kinds:=m.kinds ++ [e] } s (wy.setCell ⟨B1,1,none⟩ y):=by
 subst hB0
 obtain ⟨h0,⟨c1,h1,k1⟩,h2,⟨c3,h3,k3⟩,⟨c4,h4,k4⟩⟩:=h.md
 have hv : (wx.alloc o).ownsRow (B1 + 1) 114 3 x1 _ _:=h1.alloc o
 have al : ∀ k,B1 + 1≤k→k < wx.heap.size→(wx.alloc o).heap[k]? = wx.heap[k]?:=fun k _ hk=>Below.heap_alloc _ _ _ hk
 have st : ∀ k,B1 + 1≤k→k < wy.heap.size→(wy.setCell ⟨B1,1,none⟩ y).heap[k]? = wy.heap[k]?:=fun k hk _=>Below.heap_setCell _ _ _ _ (by simp; omega)
 have hge:=jm h1
 have l0:=lt_of_block h.b0
 have l1:=lt_of_block h.b1
 have e0 : wy.heap[w.heap.size]? = wx.heap[w.heap.size]?:=(hg.block _ (by simp; omega) (fun e=>by have:=hge _ e.symm; omega)).trans (Below.heap_alloc _ _ _ l0)
 have e1 : wy.heap[B1]? = wx.heap[B1]?:=(hg.block _ (by simp; omega) (fun e=>by have:=hge _ e.symm; omega)).trans (Below.heap_alloc _ _ _ l1)
 refine ⟨by rw [Below.heap_setCell _ _ _ _ (by simp; omega),e0]; exact h.b0,heap_setCell_same _ _ 1 _ _ _ (e1.trans h.b1),?_,?_,?_⟩
 ·refine ⟨?_,?_,?_,?_,?_⟩
  ·exact zo st (jl (h0.alloc o) hv (by decide) hg)
  ·exact ⟨cs ++ ds,by simp only; rw [List.length_append]; exact zo st hown,(kjf.grown hv (by decide) hg ((hin.app hnew).stay al)).stay st⟩
  ·exact zo st (jl (h2.alloc o) hv (by decide) hg)
  ·exact ⟨c3,zo st (jl (h3.alloc o) hv (by decide) hg),(kjn.grown hv (by decide) (by decide) (by decide) hg (k3.stay al)).stay st⟩
  ·exact ⟨c4,zo st (jl (h4.alloc o) hv (by decide) hg),(kjl.grown hv (by decide) (by decide) hg (k4.stay al)).stay st⟩
 ·exact ((h.pd.alloc o).grown hg hge (fun g hg=>by have:=hB g hg; omega) (by omega)).setOther (B:=w.heap.size) hB hP (by simp; omega) _
 ·exact (((h.kept.alloc o).grown hg (fun k hk=>by have:=hge k hk; omega)).jv (by simp; omega) _)
theorem kqp.more2 {w : World} {P : Nat} {v : Value} {L : List Tok} {B0 B1 : Nat} {x0 x1 x2 x3 x4 y : Value} {m : MdL} {s : RS} {wx wy : World} {e : VrT} {o : Obj} (h : kqp w P v L B0 B1 x0 x1 x2 x3 x4 m s wx) (hg : (wx.alloc o).grownBy wy x2.ownBlock)
  (hown : wy.ownsRow (B1 + 1) 121 10 y (m.vars.length + 1) (vrsC m.vars ++ yg e)) (hB : ∀ g,v.ownBlock = some g→g < w.heap.size) (hP : P < w.heap.size) (hB0 : w.heap.size = B0) (hB1 : B0 < B1) : kqp w P v L B0 B1 x0 x1 y x3 x4 { m with vars:=m.vars ++ [e] } s (wy.setCell ⟨B1,2,none⟩ y):=by
 subst hB0
 obtain ⟨h0,⟨c1,h1,k1⟩,h2,⟨c3,h3,k3⟩,⟨c4,h4,k4⟩⟩:=h.md
 have hv : (wx.alloc o).ownsRow (B1 + 1) 121 10 x2 _ _:=h2.alloc o
 have al : ∀ k,B1 + 1≤k→k < wx.heap.size→(wx.alloc o).heap[k]? = wx.heap[k]?:=fun k _ hk=>Below.heap_alloc _ _ _ hk
 have st : ∀ k,B1 + 1≤k→k < wy.heap.size→(wy.setCell ⟨B1,2,none⟩ y).heap[k]? = wy.heap[k]?:=fun k hk _=>Below.heap_setCell _ _ _ _ (by simp; omega)
 have hge:=jm h2
 have l0:=lt_of_block h.b0
 have l1:=lt_of_block h.b1
 have e0 : wy.heap[w.heap.size]? = wx.heap[w.heap.size]?:=(hg.block _ (by simp; omega) (fun e=>by have:=hge _ e.symm; omega)).trans (Below.heap_alloc _ _ _ l0)
 have e1 : wy.heap[B1]? = wx.heap[B1]?:=(hg.block _ (by simp; omega) (fun e=>by have:=hge _ e.symm; omega)).trans (Below.heap_alloc _ _ _ l1)
 refine ⟨by rw [Below.heap_setCell _ _ _ _ (by simp; omega),e0]; exact h.b0,heap_setCell_same _ _ 2 _ _ _ (e1.trans h.b1),?_,?_,?_⟩
 ·refine ⟨?_,?_,?_,?_,?_⟩
  ·exact zo st (jl (h0.alloc o) hv (by decide) hg)
  ·exact ⟨c1,zo st (jl (h1.alloc o) hv (by decide) hg),(kjf.grown hv (by decide) hg (k1.stay al)).stay st⟩
  ·simp only; rw [vrsC_snoc,List.length_append]; exact zo st hown
  ·exact ⟨c3,zo st (jl (h3.alloc o) hv (by decide) hg),(kjn.grown hv (by decide) (by decide) (by decide) hg (k3.stay al)).stay st⟩
  ·exact ⟨c4,zo st (jl (h4.alloc o) hv (by decide) hg),(kjl.grown hv (by decide) (by decide) hg (k4.stay al)).stay st⟩
 ·exact ((h.pd.alloc o).grown hg hge (fun g hg=>by have:=hB g hg; omega) (by omega)).setOther (B:=w.heap.size) hB hP (by simp; omega) _
 ·exact (((h.kept.alloc o).grown hg (fun k hk=>by have:=hge k hk; omega)).jv (by simp; omega) _)
theorem kqp.more3 {w : World} {P : Nat} {v : Value} {L : List Tok} {B0 B1 : Nat} {x0 x1 x2 x3 x4 y : Value} {m : MdL} {s : RS} {wx wy : World} {e : PRule} {o : Obj} (h : kqp w P v L B0 B1 x0 x1 x2 x3 x4 m s wx) (hg : (wx.alloc o).grownBy wy x3.ownBlock)
  {cs ds : List Value} (hown : wy.ownsRow (B1 + 1) 127 5 y (m.rules.length + 1) (cs ++ ds)) (hin : kjn (B1 + 1) wx m.rules cs) (hnew : kjn (B1 + 1) wx [e] ds) (hB : ∀ g,v.ownBlock = some g→g < w.heap.size) (hP : P < w.heap.size) (hB0 : w.heap.size = B0) (hB1 : B0 < B1) : kqp w P v L B0 B1 x0 x1 x2 y x4 { m with rules:=m.rules ++ [e] } s (wy.setCell ⟨B1,3,none⟩ y):=by
 subst hB0
 obtain ⟨h0,⟨c1,h1,k1⟩,h2,⟨c3,h3,k3⟩,⟨c4,h4,k4⟩⟩:=h.md
 have hv : (wx.alloc o).ownsRow (B1 + 1) 127 5 x3 _ _:=h3.alloc o
 have al : ∀ k,B1 + 1≤k→k < wx.heap.size→(wx.alloc o).heap[k]? = wx.heap[k]?:=fun k _ hk=>Below.heap_alloc _ _ _ hk
 have st : ∀ k,B1 + 1≤k→k < wy.heap.size→(wy.setCell ⟨B1,3,none⟩ y).heap[k]? = wy.heap[k]?:=fun k hk _=>Below.heap_setCell _ _ _ _ (by simp; omega)
 have hge:=jm h3
 have l0:=lt_of_block h.b0
 have l1:=lt_of_block h.b1
 have e0 : wy.heap[w.heap.size]? = wx.heap[w.heap.size]?:=(hg.block _ (by simp; omega) (fun e=>by have:=hge _ e.symm; omega)).trans (Below.heap_alloc _ _ _ l0)
 have e1 : wy.heap[B1]? = wx.heap[B1]?:=(hg.block _ (by simp; omega) (fun e=>by have:=hge _ e.symm; omega)).trans (Below.heap_alloc _ _ _ l1)
 refine ⟨by rw [Below.heap_setCell _ _ _ _ (by simp; omega),e0]; exact h.b0,heap_setCell_same _ _ 3 _ _ _ (e1.trans h.b1),?_,?_,?_⟩
 ·refine ⟨?_,?_,?_,?_,?_⟩
  ·exact zo st (jl (h0.alloc o) hv (by decide) hg)
  ·exact ⟨c1,zo st (jl (h1.alloc o) hv (by decide) hg),(kjf.grown hv (by decide) hg (k1.stay al)).stay st⟩
  ·exact zo st (jl (h2.alloc o) hv (by decide) hg)
  ·exact ⟨cs ++ ds,by simp only; rw [List.length_append]; exact zo st hown,(kjn.grown hv (by decide) (by decide) (by decide) hg ((hin.app hnew).stay al)).stay st⟩
  ·exact ⟨c4,zo st (jl (h4.alloc o) hv (by decide) hg),(kjl.grown hv (by decide) (by decide) hg (k4.stay al)).stay st⟩
 ·exact ((h.pd.alloc o).grown hg hge (fun g hg=>by have:=hB g hg; omega) (by omega)).setOther (B:=w.heap.size) hB hP (by simp; omega) _
 ·exact (((h.kept.alloc o).grown hg (fun k hk=>by have:=hge k hk; omega)).jv (by simp; omega) _)
theorem kqp.more4 {w : World} {P : Nat} {v : Value} {L : List Tok} {B0 B1 : Nat} {x0 x1 x2 x3 x4 y : Value} {m : MdL} {s : RS} {wx wy : World} {e : PRule} {o : Obj} (h : kqp w P v L B0 B1 x0 x1 x2 x3 x4 m s wx) (hg : (wx.alloc o).grownBy wy x4.ownBlock)
  {cs ds : List Value} (hown : wy.ownsRow (B1 + 1) 130 4 y (m.nevers.length + 1) (cs ++ ds)) (hin : kjl (B1 + 1) wx m.nevers cs) (hnew : kjl (B1 + 1) wx [e] ds) (hB : ∀ g,v.ownBlock = some g→g < w.heap.size) (hP : P < w.heap.size) (hB0 : w.heap.size = B0) (hB1 : B0 < B1) : kqp w P v L B0 B1 x0 x1 x2 x3 y { m with nevers:=m.nevers ++ [e] } s (wy.setCell ⟨B1,4,none⟩ y):=by
 subst hB0
 obtain ⟨h0,⟨c1,h1,k1⟩,h2,⟨c3,h3,k3⟩,⟨c4,h4,k4⟩⟩:=h.md
 have hv : (wx.alloc o).ownsRow (B1 + 1) 130 4 x4 _ _:=h4.alloc o
 have al : ∀ k,B1 + 1≤k→k < wx.heap.size→(wx.alloc o).heap[k]? = wx.heap[k]?:=fun k _ hk=>Below.heap_alloc _ _ _ hk
 have st : ∀ k,B1 + 1≤k→k < wy.heap.size→(wy.setCell ⟨B1,4,none⟩ y).heap[k]? = wy.heap[k]?:=fun k hk _=>Below.heap_setCell _ _ _ _ (by simp; omega)
 have hge:=jm h4
 have l0:=lt_of_block h.b0
 have l1:=lt_of_block h.b1
 have e0 : wy.heap[w.heap.size]? = wx.heap[w.heap.size]?:=(hg.block _ (by simp; omega) (fun e=>by have:=hge _ e.symm; omega)).trans (Below.heap_alloc _ _ _ l0)
 have e1 : wy.heap[B1]? = wx.heap[B1]?:=(hg.block _ (by simp; omega) (fun e=>by have:=hge _ e.symm; omega)).trans (Below.heap_alloc _ _ _ l1)
 refine ⟨by rw [Below.heap_setCell _ _ _ _ (by simp; omega),e0]; exact h.b0,heap_setCell_same _ _ 4 _ _ _ (e1.trans h.b1),?_,?_,?_⟩
 ·refine ⟨?_,?_,?_,?_,?_⟩
  ·exact zo st (jl (h0.alloc o) hv (by decide) hg)
  ·exact ⟨c1,zo st (jl (h1.alloc o) hv (by decide) hg),(kjf.grown hv (by decide) hg (k1.stay al)).stay st⟩
  ·exact zo st (jl (h2.alloc o) hv (by decide) hg)
  ·exact ⟨c3,zo st (jl (h3.alloc o) hv (by decide) hg),(kjn.grown hv (by decide) (by decide) (by decide) hg (k3.stay al)).stay st⟩
  ·exact ⟨cs ++ ds,by simp only; rw [List.length_append]; exact zo st hown,(kjl.grown hv (by decide) (by decide) hg ((hin.app hnew).stay al)).stay st⟩
 ·exact ((h.pd.alloc o).grown hg hge (fun g hg=>by have:=hB g hg; omega) (by omega)).setOther (B:=w.heap.size) hB hP (by simp; omega) _
 ·exact (((h.kept.alloc o).grown hg (fun k hk=>by have:=hge k hk; omega)).jv (by simp; omega) _)
def firstI (a b : Int) : Int:=if a < 0∨(0≤b∧b < a) then b else a
theorem kqy {α : Type} (f : α→List Value) (n : Nat) (hf : ∀ x,(f x).length = n) : ∀ (l : List α) (i j : Nat) (hi : i < l.length),j < n→(l.flatMap f)[i * n + j]? = (f l[i])[j]?
 | [],i,_,hi,_=>by simp at hi
 | a :: l,0,j,_,hj=>by
  simp only [List.flatMap_cons,Nat.zero_mul,Nat.zero_add,List.getElem_cons_zero]
  rw [List.getElem?_append_left (by rw [hf]; exact hj)]
 | a :: l,i + 1,j,hi,hj=>by
  have ih:=kqy f n hf l i j (by simpa using hi) hj
  simp only [List.flatMap_cons,List.getElem_cons_succ]
  rw [List.getElem?_append_right (by rw [hf,Nat.succ_mul]; omega),hf,show (i + 1) * n + j - n = i * n + j by rw [Nat.succ_mul]; omega]
  exact ih
theorem kj9 {P : Program} {w : World} {ops : Array Oper} {rest : List Oper} {o : Oper} {a : Act} {Q : Exit→Act→World→Prop} (hgd : o.guard = none) (s x : Operand) (t : TypeId)
  (ho : o.op = .call { callee:=.builtin .append,args:=#[s,x],argTypes:=#[t,t] })
  (base : Nat) (e : TypeId) (i : TypeInfo) (z : Value) (size bytes : Nat) (ht : P.underlying t = some (.slice e)) (hi : P.info? e = some i) (hz : i.zero = some z)
  (hsize : i.size = size) (hby : i.bytes = bytes) (hzs : z.cells.size = size) (hsz : 0 < size)
  (v : Value) (n : Nat) (xs : List Value) (hs : a.eval s = v) (hown : w.ownsRow base e size v n xs)
  (u : Value) (m : Nat) (ys : List Value) (lo : Nat) (hx : a.eval x = u) (hsrc : w.ownsRow lo e size u m ys) (h1 : ∀ y ∈ ys,y.oneCell' = true)
  (h63 : n + m≤maxLen) (hbytes : (n + m) * bytes≤140737488355328) (hbase : base≤w.heap.size)
  (h : ∀ v' w',w'.ownsRow base e size v' (n + m) (xs ++ ys)→w.grownBy w' v.ownBlock→(v'.ownBlock = v.ownBlock∨v'.ownBlock = some w.heap.size)→wpList P ops Q rest (a.put o.dst v') w') :
  wpList P ops Q (o :: rest) a w:=by
 have hl:=hsrc.1
 rcases hsrc.2 with ⟨rfl,rfl⟩ | ⟨g,cap,cur,rfl,hg,hh,h3,h4,h5,h6⟩
 ·have hy : ys = []:=by
   rw [Nat.zero_mul] at hl
   exact List.eq_nil_of_length_eq_zero hl
  subst hy
  refine wpList_append_own_none hgd s x t ho base e i size ht hi v n xs hs hown hx (h v w ?_ ⟨rfl,rfl,rfl,Nat.le_refl _,fun _ _ _=>rfl⟩ (Or.inl rfl))
  rw [List.append_nil]; exact hown
 ·refine wpList_append_own_at w hgd s x t ho base e i z size bytes ht hi hz hsize hby hzs hsz v n xs hs hown ⟨g,0,none⟩ m cap ys hx hl ?_ h1 h63 hbytes hbase (fun v' w' k1 k2 k3 k4=>h v' w' k1 k2 k4)
  intro j y hj
  rw [show ((⟨g,0,none⟩ : Addr).add j) = ⟨g,j,none⟩ from by simp [Addr.add]; intro h; exact h.symm,cell_of_row w g j _ _ _ hh]
  have hjl : j < m * size:=by
   rw [← hl]
   rcases Nat.lt_or_ge j ys.length with h | h
   ·exact h
   ·rw [List.getElem?_eq_none h] at hj; cases hj
  rw [← h6,List.getElem?_take_of_lt hjl] at hj
  simpa using hj
def ownNames (x : ELab) : List Tok:=if x.op.toList == [112,108,97,99,101] then (if x.index.kind.toList == [110,97,109,101] then [x.name,x.index] else [x.name]) else []
def gu : PX→List Tok
 | .nil=>[]
 | .node _ _ x a b=>(ownNames x ++ gu a) ++ gu b
def sEmpty : ByteArray:=⟨#[]⟩
def leafOp (op : ByteArray) : Bool:=(op.toList == [116,114,117,101]) || (op.toList == [102,97,108,115,101]) || (op.toList == [110,111,110,101]) || (op.toList == [100,105,103,105,116]) || (op.toList == [112,108,97,99,101])
def isNil : PX→Bool
 | .nil=>true
 | _=>false
def XOk : PX→Prop
 | .nil=>True
 | .node _ _ x a b=>(leafOp x.op = true∨isNil a = false)∧XOk a∧XOk b
def nameOfX : PX→ByteArray
 | .nil=>sEmpty
 | .node _ _ x _ _=>x.name.text
def blen : PB→Nat
 | .nil=>0
 | .node _ _ _ _ n=>blen n + 1
def labNames (a : SLab) : List Tok:=(gu a.place ++ gu a.value) ++ gu a.cond
def cu : PB→List Tok
 | .nil=>[]
 | .node _ _ a .nil n=>labNames a ++ cu n
 | .node _ _ a (.node _ _ _ t e) n=>((labNames a ++ cu t) ++ cu e) ++ cu n
def setN (s : PSet) : List Tok:=[s.name]
def kindN (k : PKind) : List Tok:=k.name :: k.members
def FinT (L : List Tok) : Prop:=∀ i,i < L.length→((tk L i).kind.toList == [101,110,100]) = false→i + 1 < L.length
theorem pz.finT {L : List Tok} (h : pz L) : FinT L:=by
 intro i hi hk
 have hp:=h.pos
 by_cases e : i + 1 < L.length
 ·exact e
 ·have : i = L.length - 1:=by omega
  subst this
  rw [h.last] at hk; cases hk
def jw (L : List Tok) : Nat→Nat→List Tok→Prop
 | a,b,[]=>a≤b
 | a,b,t :: l=>∃ i,a≤i∧i < L.length∧t = tk L i∧(t.kind.toList == [110,97,109,101]) = true∧jw L (i + 1) b l
theorem jw.le {L : List Tok} : ∀ {l : List Tok} {a b : Nat},jw L a b l→a + l.length≤b
 | [],a,b,h=>h
 | t :: l,a,b,⟨i,h1,_,_,_,h⟩=>by have:=h.le; simp; omega
theorem jw.low {L : List Tok} {a a' b : Nat} (ha : a'≤a) : ∀ {l : List Tok},jw L a b l→jw L a' b l
 | [],h=>Nat.le_trans ha h
 | t :: l,⟨i,h1,h⟩=>⟨i,Nat.le_trans ha h1,h⟩
theorem jw.high {L : List Tok} {b b' : Nat} (hb : b≤b') : ∀ {l : List Tok} {a : Nat},jw L a b l→jw L a b' l
 | [],a,h=>Nat.le_trans h hb
 | t :: l,a,⟨i,h1,h2,h3,h4,h⟩=>⟨i,h1,h2,h3,h4,h.high hb⟩
theorem jw.app {L : List Tok} {b c : Nat} {m : List Tok} (hm : jw L b c m) : ∀ {l : List Tok} {a : Nat},jw L a b l→jw L a c (l ++ m)
 | [],a,h=>hm.low h
 | t :: l,a,⟨i,h1,h2,h3,h4,h⟩=>⟨i,h1,h2,h3,h4,jw.app hm h⟩
theorem jw.mem {L : List Tok} : ∀ {l : List Tok} {a b : Nat},jw L a b l→∀ t ∈ l,t ∈ L∧(t.kind.toList == [110,97,109,101]) = true
 | [],_,_,_,t,ht=>by simp at ht
 | u :: l,a,b,⟨i,h1,h2,h3,h4,h⟩,t,ht=>by
  rcases List.mem_cons.mp ht with rfl | ht
  ·exact ⟨h3 ▸ tk_mem h2,h4⟩
  ·exact h.mem t ht
theorem next_in {L : List Tok} {s : List UInt8} {st : RS} (hF : FinT L) (hl : st.at_ < L.length) (hn : zq L s st = true) : st.bad = false∧st.at_ + 1 < L.length:=by
 unfold zq nextB at hn
 simp only [Bool.and_eq_true,Bool.or_eq_true,Bool.not_eq_true'] at hn
 refine ⟨hn.1.1,hF _ hl ?_⟩
 rcases hn.1.2 with e | e <;> (rw [beq_iff_eq] at e; rw [e]; rfl)
theorem jf {L : List Tok} {s : List UInt8} {st : RS} (hF : FinT L) (hl : st.at_ < L.length) (h : (qp L s st).bad = false) : st.bad = false∧(qp L s st).at_ = st.at_ + 1∧(qp L s st).at_ < L.length:=by
 have h1:=rMust_ok h
 have hn : zq L s st = true:=by
  cases hn : zq L s st
  ·unfold qp at h; rw [hn] at h; simp at h
  ·rfl
 have:=next_in hF hl hn
 exact ⟨this.1,h1,by omega⟩
theorem kqv {L : List Tok} {s : List UInt8} {st : RS} (hF : FinT L) (hl : st.at_ < L.length) (hs : (s == [101,110,100]) = false) (h : (qh L s st).2.bad = false) :
  st.bad = false∧(qh L s st).1 = tk L st.at_∧((tk L st.at_).kind.toList == s) = true∧(qh L s st).2.at_ = st.at_ + 1∧(qh L s st).2.at_ < L.length:=by
 have h1:=rKind_ok h
 have hn : yh L s st = true:=by
  cases hn : yh L s st
  ·unfold qh at h; rw [hn] at h; simp at h
  ·rfl
 have e : (qh L s st).1 = tk L st.at_:=by unfold qh; rw [hn]; rfl
 unfold yh at hn
 simp only [Bool.and_eq_true,Bool.not_eq_true'] at hn
 have hk:=hn.2
 have : st.at_ + 1 < L.length:=hF _ hl (by rw [beq_iff_eq] at hk; rw [hk]; exact hs)
 exact ⟨hn.1,e,hk,h1,by omega⟩
theorem namesL_opX (o : ByteArray) (a b : PX) (ho : (o.toList == [112,108,97,99,101]) = false) : gu (opX o a b) = gu a ++ gu b:=by
 show (ownNames _ ++ gu a) ++ gu b = _
 unfold ownNames
 rw [ho]; rfl
theorem bin_noPlace {n : Nat} {t : Tok} (h : isBin n t = true) : (t.text.toList == [112,108,97,99,101]) = false∧leafOp t.text = false:=by
 unfold isBin at h
 rw [Bool.and_eq_true] at h
 have h1:=h.1
 rw [List.any_eq_true] at h1
 obtain ⟨s,hs,e⟩:=h1
 rw [beq_iff_eq] at e
 unfold leafOp
 rw [← e]
 have all : ∀ n,∀ s ∈ binSigns n,s.toList = [124]∨s.toList = [38]∨s.toList = [61,61]∨s.toList = [33,61]∨s.toList = [60]∨s.toList = [43]∨s.toList = [45]:=by
  intro n s hs
  have : ∀ l : List UInt8,(⟨l.toArray⟩ : ByteArray).toList = l:=zu
  rcases n with _ | _ | _ | n <;> simp only [binSigns,List.mem_cons,List.not_mem_nil,or_false] at hs
  ·subst hs; exact Or.inl (this [124])
  ·subst hs; exact Or.inr (Or.inl (this [38]))
  ·rcases hs with rfl | rfl | rfl
   ·exact Or.inr (Or.inr (Or.inl (this [61,61])))
   ·exact Or.inr (Or.inr (Or.inr (Or.inl (this [33,61]))))
   ·exact Or.inr (Or.inr (Or.inr (Or.inr (Or.inl (this [60])))))
  ·rcases hs with rfl | rfl
   ·exact Or.inr (Or.inr (Or.inr (Or.inr (Or.inr (Or.inl (this [43]))))))
   ·exact Or.inr (Or.inr (Or.inr (Or.inr (Or.inr (Or.inr (this [45]))))))
 rcases all n s hs with e | e | e | e | e | e | e <;> rw [e] <;> decide
theorem const_leaf {t : Tok} (h : isConst t = true) : (t.text.toList == [112,108,97,99,101]) = false∧leafOp t.text = true:=by
 unfold isConst at h
 rw [Bool.and_eq_true] at h
 have h1:=h.2
 unfold leafOp
 simp only [Bool.or_eq_true,beq_iff_eq] at h1
 rcases h1 with (e | e) | e <;> rw [e] <;> decide
theorem place_in {L : List Tok} {st : RS} (hF : FinT L) (hl : st.at_ < L.length) (h : (pq L st).2.bad = false) :
  st.bad = false∧XOk (pq L st).1∧isNil (pq L st).1 = false∧(pq L st).2.at_ < L.length∧jw L st.at_ (pq L st).2.at_ (gu (pq L st).1):=by
 have hlf : leafOp sPlace = true:=by
  unfold leafOp
  rw [show sPlace.toList = [112,108,97,99,101] from zu _]; rfl
 have hpl : (sPlace.toList == [112,108,97,99,101]) = true:=by rw [show sPlace.toList = [112,108,97,99,101] from zu _]; rfl
 unfold pq at h ⊢
 simp only at h ⊢
 by_cases hn : zq L [91] (qh L [110,97,109,101] st).2 = true
 ·rw [if_pos hn] at h ⊢
  simp only at h ⊢
  have n1:=fun hl=>next_in hF hl hn
  have hk : (qh L [110,97,109,101] st).2.bad = false:=by
   cases hb : (qh L [110,97,109,101] st).2.bad
   ·rfl
   ·rw [je hb] at hn; cases hn
  obtain ⟨a1,a2,a3,a4,a5⟩:=kqv hF hl rfl hk
  have hk2 : (qh L [110,97,109,101] (qp L [91] (qh L [110,97,109,101] st).2)).2.bad = false:=by
   cases hb : (qh L [110,97,109,101] (qp L [91] (qh L [110,97,109,101] st).2)).2.bad
   ·rfl
   ·rw [kqe hb] at h; cases h
  have hm : (qp L [91] (qh L [110,97,109,101] st).2).bad = false:=by
   cases hb : (qp L [91] (qh L [110,97,109,101] st).2).bad
   ·rfl
   ·rw [rKind_bad hb] at hk2; cases hk2
  obtain ⟨b1,b2,b3⟩:=jf hF a5 hm
  obtain ⟨c1,c2,c3,c4,c5⟩:=kqv hF b3 rfl hk2
  obtain ⟨d1,d2,d3⟩:=jf hF c5 h
  refine ⟨a1,⟨Or.inl hlf,trivial,trivial⟩,rfl,d3,?_⟩
  rw [show gu (.node 0 0 { op:=sPlace,name:=(qh L [110,97,109,101] st).1,index:=(qh L [110,97,109,101] (qp L [91] (qh L [110,97,109,101] st).2)).1,n:=0 } .nil .nil) = [tk L st.at_,tk L (qp L [91] (qh L [110,97,109,101] st).2).at_] by
   simp only [gu,ownNames]
   rw [hpl,a2,c2,c3]; rfl]
  exact ⟨st.at_,Nat.le_refl _,hl,rfl,a3,_,by omega,b3,rfl,c3,by show _≤_; omega⟩
 ·rw [if_neg hn] at h ⊢
  simp only at h ⊢
  obtain ⟨a1,a2,a3,a4,a5⟩:=kqv hF hl rfl h
  refine ⟨a1,⟨Or.inl hlf,trivial,trivial⟩,rfl,a5,?_⟩
  rw [show gu (.node 0 0 { op:=sPlace,name:=(qh L [110,97,109,101] st).1,index:=jg,n:=0 } .nil .nil) = [tk L st.at_] by
   simp only [gu,ownNames]
   rw [hpl,a2,show (jg.kind.toList == [110,97,109,101]) = false by rw [show jg.kind.toList = [] from zu _]; rfl]; rfl]
  exact ⟨st.at_,Nat.le_refl _,hl,rfl,a3,by show _≤_; omega⟩
def ndC (tag : Nat) : Nat:=if tag < 10 then 7 - tag else if tag < 20 then 1 else 2
def preX (tag : Nat) (x : PX) : List Tok:=if 10≤tag∧tag < 20 then gu x else []
theorem rX_in (L : List Tok) (hF : FinT L) : ∀ (f tag : Nat) (x : PX) (st : RS),(tag≤4∨(10≤tag∧tag≤13)∨(20≤tag∧tag≤32))→8 * (L.length - st.at_) + ndC tag≤f→st.at_ < L.length →
  (10≤tag→tag < 20→isNil x = false∧XOk x)→(rX f tag x L st).2.bad = false →
  st.bad = false∧XOk (rX f tag x L st).1∧isNil (rX f tag x L st).1 = false∧(rX f tag x L st).2.at_ < L.length∧∃ l,gu (rX f tag x L st).1 = preX tag x ++ l∧jw L st.at_ (rX f tag x L st).2.at_ l
 | 0,tag,x,st,ht,hf,hl,hx,h=>by exfalso; unfold ndC at hf; split at hf <;> (try split at hf) <;> omega
 | f + 1,tag,x,st,ht,hf,hl,hx,h=>by
  have ih:=rX_in L hF f
  have hb : st.bad = false:=by
   cases hb : st.bad
   ·rfl
   ·rw [kq2 hb] at h; rw [hb] at h; cases h
  refine ⟨hb,?_⟩
  have hbf : ¬ st.bad = true:=by rw [hb]; simp
  rw [rX] at h ⊢
  by_cases t4 : tag < 4
  ·rw [if_pos t4,if_neg hbf] at h ⊢
   have nd : ndC tag = 7 - tag:=by unfold ndC; rw [if_pos (by omega)]
   have h1 : (rX f (tag + 1) .nil L st).2.bad = false:=by
    cases hb1 : (rX f (tag + 1) .nil L st).2.bad
    ·rfl
    ·rw [kq2 hb1,hb1] at h; cases h
   obtain ⟨a1,a2,a3,a4,l1,a5,a6⟩:=ih (tag + 1) .nil st (Or.inl (by omega)) (by rw [show ndC (tag + 1) = 7 - (tag + 1) by unfold ndC; rw [if_pos (by omega)]]; omega) hl (fun h1 h2=>by omega) h1
   have le1:=a6.le
   obtain ⟨b1,b2,b3,b4,l2,b5,b6⟩:=ih (10 + tag) (rX f (tag + 1) .nil L st).1 (rX f (tag + 1) .nil L st).2 (Or.inr (Or.inl ⟨by omega,by omega⟩)) (by rw [show ndC (10 + tag) = 1 by unfold ndC; rw [if_neg (by omega),if_pos (by omega)]]; omega) a4 (fun _ _=>⟨a3,a2⟩) h
   refine ⟨b2,b3,b4,l1 ++ l2,?_,b6.app a6⟩
   rw [b5]
   simp only [preX]
   rw [if_pos ⟨by omega,by omega⟩,if_neg (by omega),a5]
   simp only [preX]
   rw [if_neg (by omega)]
   simp
  ·rw [if_neg t4] at h ⊢
   by_cases t10 : tag < 10
   ·rw [if_pos t10,if_neg hbf] at h ⊢
    have t : tag = 4:=by omega
    subst t
    have nd : ndC 4 = 3:=rfl
    obtain ⟨a1,a2,a3,a4,l1,a5,a6⟩:=ih 20 .nil st (Or.inr (Or.inr ⟨by omega,by omega⟩)) (by show _ + 2≤f; omega) hl (fun h1 h2=>by omega) h
    exact ⟨a2,a3,a4,l1,a5,a6⟩
   ·rw [if_neg t10] at h ⊢
    by_cases t20 : tag < 20
    ·rw [if_pos t20,if_neg hbf] at h ⊢
     obtain ⟨x1,x2⟩:=hx (by omega) t20
     have pr : preX tag x = gu x:=by unfold preX; rw [if_pos ⟨by omega,t20⟩]
     have nd : ndC tag = 1:=by unfold ndC; rw [if_neg (by omega),if_pos (by omega)]
     by_cases hbin : isBin (tag - 10) (tk L st.at_) = true
     ·rw [if_pos hbin] at h ⊢
      obtain ⟨np,lf⟩:=bin_noPlace hbin
      have hsg : st.at_ + 1 < L.length:=hF _ hl (by
       unfold isBin at hbin
       rw [Bool.and_eq_true] at hbin
       have:=hbin.2
       rw [beq_iff_eq] at this
       rw [this]; rfl)
      have nd' : ndC (tag - 9) = 7 - (tag - 9):=by unfold ndC; rw [if_pos (by omega)]
      have sub : (rX f (tag - 9) .nil L { st with at_:=st.at_ + 1 }).2.bad = false→XOk (rX f (tag - 9) .nil L { st with at_:=st.at_ + 1 }).1∧isNil (rX f (tag - 9) .nil L { st with at_:=st.at_ + 1 }).1 = false∧(rX f (tag - 9) .nil L { st with at_:=st.at_ + 1 }).2.at_ < L.length ∧
        ∃ l,gu (rX f (tag - 9) .nil L { st with at_:=st.at_ + 1 }).1 = l∧jw L (st.at_ + 1) (rX f (tag - 9) .nil L { st with at_:=st.at_ + 1 }).2.at_ l:=by
       intro h1
       obtain ⟨a1,a2,a3,a4,l1,a5,a6⟩:=ih (tag - 9) .nil { st with at_:=st.at_ + 1 } (Or.inl (by omega)) (by rw [nd']; simp only; omega) hsg (fun h1 h2=>by omega) h1
       refine ⟨a2,a3,a4,l1,?_,a6⟩
       rw [a5]; unfold preX; rw [if_neg (by omega)]; rfl
      by_cases t12 : tag = 12
      ·rw [if_pos t12] at h ⊢
       simp only at h ⊢
       obtain ⟨a2,a3,a4,l1,a5,a6⟩:=sub h
       refine ⟨⟨Or.inr x1,x2,a2⟩,rfl,a4,l1,?_,a6.low (by omega)⟩
       rw [namesL_opX _ _ _ np,a5,pr]
      ·rw [if_neg t12] at h ⊢
       have h1 : (rX f (tag - 9) .nil L { st with at_:=st.at_ + 1 }).2.bad = false:=by
        cases hb1 : (rX f (tag - 9) .nil L { st with at_:=st.at_ + 1 }).2.bad
        ·rfl
        ·rw [kq2 hb1,hb1] at h; cases h
       obtain ⟨a2,a3,a4,l1,a5,a6⟩:=sub h1
       have le1:=a6.le
       obtain ⟨b1,b2,b3,b4,l2,b5,b6⟩:=ih tag (opX (tk L st.at_).text x (rX f (tag - 9) .nil L { st with at_:=st.at_ + 1 }).1) (rX f (tag - 9) .nil L { st with at_:=st.at_ + 1 }).2 (Or.inr (Or.inl ⟨by omega,by omega⟩)) (by rw [nd]; omega) a4 (fun _ _=>⟨rfl,⟨Or.inr x1,x2,a2⟩⟩) h
       refine ⟨b2,b3,b4,l1 ++ l2,?_,b6.app (a6.low (by omega))⟩
       rw [b5]
       rw [show preX tag (opX (tk L st.at_).text x (rX f (tag - 9) .nil L { st with at_:=st.at_ + 1 }).1) = gu (opX (tk L st.at_).text x (rX f (tag - 9) .nil L { st with at_:=st.at_ + 1 }).1) by unfold preX; rw [if_pos ⟨by omega,t20⟩],namesL_opX _ _ _ np,a5,pr,List.append_assoc]
     ·rw [if_neg hbin] at h ⊢
      exact ⟨x2,x1,hl,[],by rw [pr,List.append_nil],Nat.le_refl _⟩
    ·rw [if_neg t20,if_neg hbf] at h ⊢
     have pr : preX tag x = []:=by unfold preX; rw [if_neg (by omega)]
     have nd : ndC tag = 2:=by unfold ndC; rw [if_neg (by omega),if_neg (by omega)]
     by_cases n33 : zq L [33] st = true
     ·rw [if_pos n33] at h ⊢
      by_cases t32 : tag = 32
      ·rw [if_pos t32] at h; simp at h
      ·rw [if_neg t32] at h ⊢
       simp only at h ⊢
       have h1 : (qp L [33] st).bad = false:=by
        cases hb1 : (qp L [33] st).bad
        ·rfl
        ·rw [kq2 hb1,hb1] at h; cases h
       obtain ⟨m1,m2,m3⟩:=jf hF hl h1
       obtain ⟨a1,a2,a3,a4,l1,a5,a6⟩:=ih (tag + 1) .nil (qp L [33] st) (Or.inr (Or.inr ⟨by omega,by omega⟩)) (by rw [show ndC (tag + 1) = 2 by unfold ndC; rw [if_neg (by omega),if_neg (by omega)]]; omega) m3 (fun h1 h2=>by omega) h
       refine ⟨⟨Or.inr a3,a2,trivial⟩,rfl,a4,l1,?_,a6.low (by omega)⟩
       rw [namesL_opX _ _ _ (by rw [show sBang.toList = [33] from zu _]; rfl),a5,pr]
       simp only [preX]
       rw [if_neg (by omega)]
       simp [gu]
     ·rw [if_neg n33] at h ⊢
      by_cases n40 : zq L [40] st = true
      ·rw [if_pos n40] at h ⊢
       simp only at h ⊢
       have h1 : (rX f 0 .nil L (qp L [40] st)).2.bad = false:=by
        cases hb1 : (rX f 0 .nil L (qp L [40] st)).2.bad
        ·rfl
        ·rw [kqe hb1] at h; cases h
       have h0 : (qp L [40] st).bad = false:=by
        cases hb1 : (qp L [40] st).bad
        ·rfl
        ·rw [kq2 hb1,hb1] at h1; cases h1
       obtain ⟨m1,m2,m3⟩:=jf hF hl h0
       obtain ⟨a1,a2,a3,a4,l1,a5,a6⟩:=ih 0 .nil (qp L [40] st) (Or.inl (by omega)) (by show _ + 7≤f; omega) m3 (fun h1 h2=>by omega) h1
       obtain ⟨e1,e2,e3⟩:=jf hF a4 h
       exact ⟨a2,a3,e3,l1,by rw [a5,pr]; rfl,(a6.low (by omega)).high (by omega)⟩
      ·rw [if_neg n40] at h ⊢
       by_cases hc : isConst (tk L st.at_) = true
       ·rw [if_pos hc] at h ⊢
        obtain ⟨np,lf⟩:=const_leaf hc
        have hsg : st.at_ + 1 < L.length:=hF _ hl (by
         unfold isConst at hc
         rw [Bool.and_eq_true] at hc
         have:=hc.1
         rw [beq_iff_eq] at this
         rw [this]; rfl)
        refine ⟨⟨Or.inl lf,trivial,trivial⟩,rfl,hsg,[],?_,by show _≤_; simp⟩
        rw [namesL_opX _ _ _ np,pr]; rfl
       ·rw [if_neg hc] at h ⊢
        by_cases hd : isDig (tk L st.at_) = true
        ·rw [if_pos hd] at h ⊢
         have hsg : st.at_ + 1 < L.length:=hF _ hl (by
          unfold isDig at hd
          rw [beq_iff_eq] at hd
          rw [hd]; rfl)
         have hk : kDigit.toList = [100,105,103,105,116]:=zu _
         refine ⟨⟨Or.inl (by unfold leafOp; simp only; rw [hk]; rfl),trivial,trivial⟩,rfl,hsg,[],?_,by show _≤_; simp⟩
         rw [pr]
         show (ownNames _ ++ _) ++ _ = _
         unfold ownNames
         simp only
         rw [hk]; rfl
        ·rw [if_neg hd] at h ⊢
         obtain ⟨p1,p2,p3,p4,p5⟩:=place_in hF hl h
         exact ⟨p2,p3,p4,_,by rw [pr]; rfl,p5⟩
theorem expr_in {L : List Tok} (hF : FinT L) {st : RS} (hl : st.at_ < L.length) (h : (rX (uz L) 0 .nil L st).2.bad = false) :
  st.bad = false∧XOk (rX (uz L) 0 .nil L st).1∧isNil (rX (uz L) 0 .nil L st).1 = false∧(rX (uz L) 0 .nil L st).2.at_ < L.length∧jw L st.at_ (rX (uz L) 0 .nil L st).2.at_ (gu (rX (uz L) 0 .nil L st).1):=by
 obtain ⟨a1,a2,a3,a4,l,a5,a6⟩:=rX_in L hF (uz L) 0 .nil st (Or.inl (by omega)) (by show _ + 7≤_; unfold uz; omega) hl (fun h1 _=>by omega) h
 exact ⟨a1,a2,a3,a4,by rw [a5]; exact a6⟩
end Go.Proofs.YtpmcnonmkghokaaGreatDoor

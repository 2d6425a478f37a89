import Derived.Test.YtpmcnonmkghokaaGreatDoorT05
import Derived.Test.YtpmcnonmkghokaaGreatDoorT02
import Derived.Laws.AppendOwnNone
import Derived.Deep.RegionWith
import Derived.Test.YtpmcnonmkghokaaGreatDoorT00
set_option linter.unusedVariables false
set_option linter.unusedSimpArgs false
namespace Go.Proofs.YtpmcnonmkghokaaGreatDoor
open Go.RowKit
def qj7 (s:PSet):List Value:=[.string s.name.text,.int .i64 s.name.at_,.int .i64 (gu s.size.text),.int .i64 s.size.at_]
def zqo (l:List PSet):List Value:=l.flatMap qj7
def jjt (l:List VrT):List Value:=l.flatMap kqx
theorem jvh (l:List PSet)(p:PSet):zqo (l++[p])=zqo l++qj7 p:=by simp[zqo]
theorem jvy (l:List VrT)(p:VrT):jjt (l++[p])=jjt l++kqx p:=by simp[jjt]
theorem vq9 (p:PSet):∀ u∈qj7 p,u.oneCell'=true:=by
 intro u h;simp only[qj7,tK,nY,or_false] at h;rcases h with rfl|rfl|rfl|rfl<;>rfl
theorem qy8 (p:VrT):∀ u∈kqx p,u.oneCell'=true:=by
 intro u h;simp only[kqx,tK,nY,or_false] at h;rcases h with rfl|rfl|rfl|rfl|rfl|rfl|rfl|rfl|rfl|rfl<;>rfl
def kxu (lo:Nat)(w:World):List PKind→List Value→Prop
 | [],cs=>cs=[]
 | k::ks,cs=>∃ ma mn mc rest,cs=[.string k.name.text,.int .i64 k.name.at_,.slice ma mn mc]++rest∧w.ownsRow lo 107 2 (.slice ma mn mc) k.members.length (bf k.members)∧kxu lo w ks rest
theorem kxu.stay {lo:Nat}{w w':World}(hk:∀ k,lo≤k→k<w.heap.size→w'.heap[k]?=w.heap[k]?):∀ {ks:List PKind} {cs:List Value},kxu lo w ks cs→kxu lo w' ks cs
 | [],_,h=>h
 | k::ks,_,⟨ma,mn,mc,rest,e,h1,h2⟩=>⟨ma,mn,mc,rest,e,jv hk h1,kxu.stay hk h2⟩
theorem kxu.mono {lo lo':Nat}{w:World}(hl:lo'≤lo):∀ {ks:List PKind} {cs:List Value},kxu lo w ks cs→kxu lo' w ks cs
 | [],_,h=>h
 | k::ks,_,⟨ma,mn,mc,rest,e,h1,h2⟩=>⟨ma,mn,mc,rest,e,zu hl h1,kxu.mono hl h2⟩
theorem kxu.app {lo:Nat}{w:World}:∀ {ks js:List PKind} {cs ds:List Value},kxu lo w ks cs→kxu lo w js ds→kxu lo w (ks++js) (cs++ds)
 | [],_,cs,ds,h,h'=>by
  have:cs=[]:=h;subst this;exact h'
 | k::ks,_,cs,ds,⟨ma,mn,mc,rest,e,h1,h2⟩,h'=>⟨ma,mn,mc,rest++ds,by rw[e,tX],h1,h2.app h'⟩
theorem kxu.grown {lo base e size:Nat}{w w':World}{v:Value}{n:Nat}{zs:List Value}(hv:w.ownsRow base e size v n zs)(he:107≠e)(hg:w.grownBy w' v.ownBlock):∀ {ks:List PKind} {cs:List Value},kxu lo w ks cs→kxu lo w' ks cs
 | [],_,h=>h
 | k::ks,_,⟨ma,mn,mc,rest,e1,h1,h2⟩=>⟨ma,mn,mc,rest,e1,xq h1 hv he hg,kxu.grown hv he hg h2⟩
theorem BIs.ky0 {lo base e size:Nat}{no:Option Nat}{w w':World}{v:Value}{n:Nat}{zs:List Value}(hv:w.ownsRow base e size v n zs)(he:334≠e)(hx:358≠e)(hg:w.grownBy w' v.ownBlock):∀ {b:PB} {cs:List Value},BIs lo no w b cs→BIs lo no w' b cs
 | .nil,_,h=>h
 | .node _ _ a .nil n,cs,⟨p,rest,e,h1,hn⟩=>⟨p,rest,e,h1.grown hv hx hg,BIs.ky0 hv he hx hg hn⟩
 | .node _ _ a (.node _ _ _ t e) n,cs,⟨p,ta,tn,tc,ea,en,ec,ct,ce,rest,e1,h1,⟨ht1,ht3,ht2⟩,⟨he1,he3,he2⟩,hn⟩=>
  ⟨p,ta,tn,tc,ea,en,ec,ct,ce,rest,e1,h1.grown hv hx hg,⟨xq ht1 hv he hg,ht3,BIs.ky0 hv he hx hg ht2⟩,⟨xq he1 hv he hg,he3,BIs.ky0 hv he hx hg he2⟩,BIs.ky0 hv he hx hg hn⟩
theorem kxv.grown {lo base e size:Nat}{w w':World}{v:Value}{n:Nat}{zs:List Value}(hv:w.ownsRow base e size v n zs)(hp:352≠e)(he:334≠e)(hx:358≠e)(hg:w.grownBy w' v.ownBlock):∀ {rs:List PRule} {cs:List Value},kxv lo w rs cs→kxv lo w' rs cs
 | [],_,h=>h
 | r::rs,_,⟨pa,pn,pc,gp,ba,bn,bc,bcs,rest,e1,h1,h2,h3,h4,h5⟩=>⟨pa,pn,pc,gp,ba,bn,bc,bcs,rest,e1,xq h1 hv hp hg,h2.grown hv hx hg,xq h3 hv he hg,h4.ky0 hv he hx hg,kxv.grown hv hp he hx hg h5⟩
theorem kxw.grown {lo base e size:Nat}{w w':World}{v:Value}{n:Nat}{zs:List Value}(hv:w.ownsRow base e size v n zs)(hp:352≠e)(hx:358≠e)(hg:w.grownBy w' v.ownBlock):∀ {rs:List PRule} {cs:List Value},kxw lo w rs cs→kxw lo w' rs cs
 | [],_,h=>h
 | r::rs,_,⟨pa,pn,pc,gp,rest,e1,h1,h2,h5⟩=>⟨pa,pn,pc,gp,rest,e1,xq h1 hv hp hg,h2.grown hv hx hg,kxw.grown hv hp hx hg h5⟩
structure MdL where
 sets:List PSet
 kinds:List PKind
 vars:List VrT
 rules:List PRule
 nevers:List PRule
structure kky (lo:Nat)(w:World)(x0 x1 x2 x3 x4:Value)(m:MdL):Prop where
 o0:w.ownsRow lo 111 4 x0 m.sets.length (zqo m.sets)
 o1:∃ cs,w.ownsRow lo 114 3 x1 m.kinds.length cs∧kxu lo w m.kinds cs
 o2:w.ownsRow lo 121 10 x2 m.vars.length (jjt m.vars)
 o3:∃ cs,w.ownsRow lo 127 5 x3 m.rules.length cs∧kxv lo w m.rules cs
 o4:∃ cs,w.ownsRow lo 130 4 x4 m.nevers.length cs∧kxw lo w m.nevers cs
theorem kky.stay {lo:Nat}{w w':World}{x0 x1 x2 x3 x4:Value}{m:MdL}(hk:∀ k,lo≤k→k<w.heap.size→w'.heap[k]?=w.heap[k]?)(h:kky lo w x0 x1 x2 x3 x4 m):kky lo w' x0 x1 x2 x3 x4 m:=by
 obtain ⟨h0,⟨c1,h1,k1⟩,h2,⟨c3,h3,k3⟩,⟨c4,h4,k4⟩⟩:=h;exact ⟨jv hk h0,⟨c1,jv hk h1,k1.stay hk⟩,jv hk h2,⟨c3,jv hk h3,k3.stay hk⟩,⟨c4,jv hk h4,k4.stay hk⟩⟩
theorem kky.mono {lo lo':Nat}{w:World}{x0 x1 x2 x3 x4:Value}{m:MdL}(hl:lo'≤lo)(h:kky lo w x0 x1 x2 x3 x4 m):kky lo' w x0 x1 x2 x3 x4 m:=by
 obtain ⟨h0,⟨c1,h1,k1⟩,h2,⟨c3,h3,k3⟩,⟨c4,h4,k4⟩⟩:=h;exact ⟨zu hl h0,⟨c1,zu hl h1,k1.mono hl⟩,zu hl h2,⟨c3,zu hl h3,k3.mono hl⟩,⟨c4,zu hl h4,k4.mono hl⟩⟩
structure kjp (w:World)(P:Nat)(v:Value)(L:List Tok)(B0 B1:Nat)(x0 x1 x2 x3 x4:Value)(m:MdL)(s:RS)(wx:World):Prop where
 b0:wx.heap[B0]?=some (.cells #[.slice none 0 0,.slice none 0 0,.slice none 0 0,.slice none 0 0,.slice none 0 0] 68 (0,0))
 b1:wx.heap[B1]?=some (.cells #[x0,x1,x2,x3,x4] 68 (0,0))
 md:kky (B1+1) wx x0 x1 x2 x3 x4 m
 pd:Pd wx P v L s
 kept:Kept P w wx
theorem kjp.kept' {w:World}{P:Nat}{v:Value}{L:List Tok}{B0 B1:Nat}{x0 x1 x2 x3 x4:Value}{m:MdL}{s s':RS}{wx wy:World}(h:kjp w P v L B0 B1 x0 x1 x2 x3 x4 m s wx)(hk:Kept P wx wy)(hp:Pd wy P v L s')(h0:P<B0)(h1:P<B1):kjp w P v L B0 B1 x0 x1 x2 x3 x4 m s' wy:=
 ⟨hk.row (by omega) h.b0,hk.row (by omega) h.b1,h.md.stay (fun k hk1 hk2=>hk.block k hk2 (by omega)),hp,h.kept.trans hk⟩
theorem kjp.more0 {w:World}{P:Nat}{v:Value}{L:List Tok}{B0 B1:Nat}{x0 x1 x2 x3 x4 y:Value}{m:MdL}{s:RS}{wx wy:World}{e:PSet}{o:Obj}(h:kjp w P v L B0 B1 x0 x1 x2 x3 x4 m s wx)(hg:(wx.alloc o).grownBy wy x0.ownBlock)
  (hown:wy.ownsRow (B1+1) 111 4 y (m.sets.length+1) (zqo m.sets++qj7 e)) (hB:∀ g,v.ownBlock=some g→g<w.heap.size) (hP:P<w.heap.size) (hB0:w.heap.size=B0) (hB1:B0<B1):kjp w P v L B0 B1 y x1 x2 x3 x4 { m with sets:=m.sets++[e] } s (wy.setCell ⟨B1,0,none⟩ y):=by
 subst hB0;obtain ⟨h0,⟨c1,h1,k1⟩,h2,⟨c3,h3,k3⟩,⟨c4,h4,k4⟩⟩:=h.md;have hv:(wx.alloc o).ownsRow (B1+1) 111 4 x0 _ _:=h0.alloc o;have al:∀ k,B1+1≤k→k<wx.heap.size→(wx.alloc o).heap[k]?=wx.heap[k]?:=fun k _ hk=>nZ _ _ _ hk
 have st:∀ k,B1+1≤k→k<wy.heap.size→(wy.setCell ⟨B1,0,none⟩ y).heap[k]?=wy.heap[k]?:=fun k hk _=>ru _ _ _ _ (by simp;omega)
 have hge:=yw h0;have l0:=wX h.b0;have l1:=wX h.b1;have e0:wy.heap[w.heap.size]?=wx.heap[w.heap.size]?:=(hg.block _ (by simp;omega) (fun e=>by have:=hge _ e.symm;omega)).trans (nZ _ _ _ l0);have e1:wy.heap[B1]?=wx.heap[B1]?:=(hg.block _ (by simp;omega) (fun e=>by have:=hge _ e.symm;omega)).trans (nZ _ _ _ l1);refine ⟨by rw[ru _ _ _ _ (by simp;omega),e0];exact h.b0,heap_setCell_same _ _ 0 _ _ _ (e1.trans h.b1),?_,?_,?_⟩
 ·refine ⟨?_,?_,?_,?_,?_⟩
  ·simp only;rw[jvh,wU];exact jv st hown
  ·exact ⟨c1,jv st (xq (h1.alloc o) hv (by decide) hg),(kxu.grown hv (by decide) hg (k1.stay al)).stay st⟩
  ·exact jv st (xq (h2.alloc o) hv (by decide) hg)
  ·exact ⟨c3,jv st (xq (h3.alloc o) hv (by decide) hg),(kxv.grown hv (by decide) (by decide) (by decide) hg (k3.stay al)).stay st⟩
  ·exact ⟨c4,jv st (xq (h4.alloc o) hv (by decide) hg),(kxw.grown hv (by decide) (by decide) hg (k4.stay al)).stay st⟩
 ·exact ((h.pd.alloc o).grown hg hge (fun g hg=>by have:=hB g hg;omega) (by omega)).setOther (B:=w.heap.size) hB hP (by simp;omega) _
 ·exact (((h.kept.alloc o).grown hg (fun k hk=>by have:=hge k hk;omega)).jm (by simp;omega) _)
theorem kjp.more1 {w:World}{P:Nat}{v:Value}{L:List Tok}{B0 B1:Nat}{x0 x1 x2 x3 x4 y:Value}{m:MdL}{s:RS}{wx wy:World}{e:PKind}{o:Obj}(h:kjp w P v L B0 B1 x0 x1 x2 x3 x4 m s wx)(hg:(wx.alloc o).grownBy wy x1.ownBlock)
  {cs ds:List Value} (hown:wy.ownsRow (B1+1) 114 3 y (m.kinds.length+1) (cs++ds)) (hin:kxu (B1+1) wx m.kinds cs) (hnew:kxu (B1+1) wx [e] ds) (hB:∀ g,v.ownBlock=some g→g<w.heap.size) (hP:P<w.heap.size) (hB0:w.heap.size=B0) (hB1:B0<B1):kjp w P v L B0 B1 x0 y x2 x3 x4 { m with kinds:=m.kinds++[e] } s (wy.setCell ⟨B1,1,none⟩ y):=by
 subst hB0;obtain ⟨h0,⟨c1,h1,k1⟩,h2,⟨c3,h3,k3⟩,⟨c4,h4,k4⟩⟩:=h.md;have hv:(wx.alloc o).ownsRow (B1+1) 114 3 x1 _ _:=h1.alloc o;have al:∀ k,B1+1≤k→k<wx.heap.size→(wx.alloc o).heap[k]?=wx.heap[k]?:=fun k _ hk=>nZ _ _ _ hk
 have st:∀ k,B1+1≤k→k<wy.heap.size→(wy.setCell ⟨B1,1,none⟩ y).heap[k]?=wy.heap[k]?:=fun k hk _=>ru _ _ _ _ (by simp;omega)
 have hge:=yw h1;have l0:=wX h.b0;have l1:=wX h.b1;have e0:wy.heap[w.heap.size]?=wx.heap[w.heap.size]?:=(hg.block _ (by simp;omega) (fun e=>by have:=hge _ e.symm;omega)).trans (nZ _ _ _ l0);have e1:wy.heap[B1]?=wx.heap[B1]?:=(hg.block _ (by simp;omega) (fun e=>by have:=hge _ e.symm;omega)).trans (nZ _ _ _ l1);refine ⟨by rw[ru _ _ _ _ (by simp;omega),e0];exact h.b0,heap_setCell_same _ _ 1 _ _ _ (e1.trans h.b1),?_,?_,?_⟩
 ·refine ⟨?_,?_,?_,?_,?_⟩
  ·exact jv st (xq (h0.alloc o) hv (by decide) hg)
  ·exact ⟨cs++ds,by simp only;rw[wU];exact jv st hown,(kxu.grown hv (by decide) hg ((hin.app hnew).stay al)).stay st⟩
  ·exact jv st (xq (h2.alloc o) hv (by decide) hg)
  ·exact ⟨c3,jv st (xq (h3.alloc o) hv (by decide) hg),(kxv.grown hv (by decide) (by decide) (by decide) hg (k3.stay al)).stay st⟩
  ·exact ⟨c4,jv st (xq (h4.alloc o) hv (by decide) hg),(kxw.grown hv (by decide) (by decide) hg (k4.stay al)).stay st⟩
 ·exact ((h.pd.alloc o).grown hg hge (fun g hg=>by have:=hB g hg;omega) (by omega)).setOther (B:=w.heap.size) hB hP (by simp;omega) _
 ·exact (((h.kept.alloc o).grown hg (fun k hk=>by have:=hge k hk;omega)).jm (by simp;omega) _)
theorem kjp.more2 {w:World}{P:Nat}{v:Value}{L:List Tok}{B0 B1:Nat}{x0 x1 x2 x3 x4 y:Value}{m:MdL}{s:RS}{wx wy:World}{e:VrT}{o:Obj}(h:kjp w P v L B0 B1 x0 x1 x2 x3 x4 m s wx)(hg:(wx.alloc o).grownBy wy x2.ownBlock)
  (hown:wy.ownsRow (B1+1) 121 10 y (m.vars.length+1) (jjt m.vars++kqx e)) (hB:∀ g,v.ownBlock=some g→g<w.heap.size) (hP:P<w.heap.size) (hB0:w.heap.size=B0) (hB1:B0<B1):kjp w P v L B0 B1 x0 x1 y x3 x4 { m with vars:=m.vars++[e] } s (wy.setCell ⟨B1,2,none⟩ y):=by
 subst hB0;obtain ⟨h0,⟨c1,h1,k1⟩,h2,⟨c3,h3,k3⟩,⟨c4,h4,k4⟩⟩:=h.md;have hv:(wx.alloc o).ownsRow (B1+1) 121 10 x2 _ _:=h2.alloc o;have al:∀ k,B1+1≤k→k<wx.heap.size→(wx.alloc o).heap[k]?=wx.heap[k]?:=fun k _ hk=>nZ _ _ _ hk
 have st:∀ k,B1+1≤k→k<wy.heap.size→(wy.setCell ⟨B1,2,none⟩ y).heap[k]?=wy.heap[k]?:=fun k hk _=>ru _ _ _ _ (by simp;omega)
 have hge:=yw h2;have l0:=wX h.b0;have l1:=wX h.b1;have e0:wy.heap[w.heap.size]?=wx.heap[w.heap.size]?:=(hg.block _ (by simp;omega) (fun e=>by have:=hge _ e.symm;omega)).trans (nZ _ _ _ l0);have e1:wy.heap[B1]?=wx.heap[B1]?:=(hg.block _ (by simp;omega) (fun e=>by have:=hge _ e.symm;omega)).trans (nZ _ _ _ l1);refine ⟨by rw[ru _ _ _ _ (by simp;omega),e0];exact h.b0,heap_setCell_same _ _ 2 _ _ _ (e1.trans h.b1),?_,?_,?_⟩
 ·refine ⟨?_,?_,?_,?_,?_⟩
  ·exact jv st (xq (h0.alloc o) hv (by decide) hg)
  ·exact ⟨c1,jv st (xq (h1.alloc o) hv (by decide) hg),(kxu.grown hv (by decide) hg (k1.stay al)).stay st⟩
  ·simp only;rw[jvy,wU];exact jv st hown
  ·exact ⟨c3,jv st (xq (h3.alloc o) hv (by decide) hg),(kxv.grown hv (by decide) (by decide) (by decide) hg (k3.stay al)).stay st⟩
  ·exact ⟨c4,jv st (xq (h4.alloc o) hv (by decide) hg),(kxw.grown hv (by decide) (by decide) hg (k4.stay al)).stay st⟩
 ·exact ((h.pd.alloc o).grown hg hge (fun g hg=>by have:=hB g hg;omega) (by omega)).setOther (B:=w.heap.size) hB hP (by simp;omega) _
 ·exact (((h.kept.alloc o).grown hg (fun k hk=>by have:=hge k hk;omega)).jm (by simp;omega) _)
theorem kjp.more3 {w:World}{P:Nat}{v:Value}{L:List Tok}{B0 B1:Nat}{x0 x1 x2 x3 x4 y:Value}{m:MdL}{s:RS}{wx wy:World}{e:PRule}{o:Obj}(h:kjp w P v L B0 B1 x0 x1 x2 x3 x4 m s wx)(hg:(wx.alloc o).grownBy wy x3.ownBlock)
  {cs ds:List Value} (hown:wy.ownsRow (B1+1) 127 5 y (m.rules.length+1) (cs++ds)) (hin:kxv (B1+1) wx m.rules cs) (hnew:kxv (B1+1) wx [e] ds) (hB:∀ g,v.ownBlock=some g→g<w.heap.size) (hP:P<w.heap.size) (hB0:w.heap.size=B0) (hB1:B0<B1):kjp w P v L B0 B1 x0 x1 x2 y x4 { m with rules:=m.rules++[e] } s (wy.setCell ⟨B1,3,none⟩ y):=by
 subst hB0;obtain ⟨h0,⟨c1,h1,k1⟩,h2,⟨c3,h3,k3⟩,⟨c4,h4,k4⟩⟩:=h.md;have hv:(wx.alloc o).ownsRow (B1+1) 127 5 x3 _ _:=h3.alloc o;have al:∀ k,B1+1≤k→k<wx.heap.size→(wx.alloc o).heap[k]?=wx.heap[k]?:=fun k _ hk=>nZ _ _ _ hk
 have st:∀ k,B1+1≤k→k<wy.heap.size→(wy.setCell ⟨B1,3,none⟩ y).heap[k]?=wy.heap[k]?:=fun k hk _=>ru _ _ _ _ (by simp;omega)
 have hge:=yw h3;have l0:=wX h.b0;have l1:=wX h.b1;have e0:wy.heap[w.heap.size]?=wx.heap[w.heap.size]?:=(hg.block _ (by simp;omega) (fun e=>by have:=hge _ e.symm;omega)).trans (nZ _ _ _ l0);have e1:wy.heap[B1]?=wx.heap[B1]?:=(hg.block _ (by simp;omega) (fun e=>by have:=hge _ e.symm;omega)).trans (nZ _ _ _ l1);refine ⟨by rw[ru _ _ _ _ (by simp;omega),e0];exact h.b0,heap_setCell_same _ _ 3 _ _ _ (e1.trans h.b1),?_,?_,?_⟩
 ·refine ⟨?_,?_,?_,?_,?_⟩
  ·exact jv st (xq (h0.alloc o) hv (by decide) hg)
  ·exact ⟨c1,jv st (xq (h1.alloc o) hv (by decide) hg),(kxu.grown hv (by decide) hg (k1.stay al)).stay st⟩
  ·exact jv st (xq (h2.alloc o) hv (by decide) hg)
  ·exact ⟨cs++ds,by simp only;rw[wU];exact jv st hown,(kxv.grown hv (by decide) (by decide) (by decide) hg ((hin.app hnew).stay al)).stay st⟩
  ·exact ⟨c4,jv st (xq (h4.alloc o) hv (by decide) hg),(kxw.grown hv (by decide) (by decide) hg (k4.stay al)).stay st⟩
 ·exact ((h.pd.alloc o).grown hg hge (fun g hg=>by have:=hB g hg;omega) (by omega)).setOther (B:=w.heap.size) hB hP (by simp;omega) _
 ·exact (((h.kept.alloc o).grown hg (fun k hk=>by have:=hge k hk;omega)).jm (by simp;omega) _)
theorem kjp.more4 {w:World}{P:Nat}{v:Value}{L:List Tok}{B0 B1:Nat}{x0 x1 x2 x3 x4 y:Value}{m:MdL}{s:RS}{wx wy:World}{e:PRule}{o:Obj}(h:kjp w P v L B0 B1 x0 x1 x2 x3 x4 m s wx)(hg:(wx.alloc o).grownBy wy x4.ownBlock)
  {cs ds:List Value} (hown:wy.ownsRow (B1+1) 130 4 y (m.nevers.length+1) (cs++ds)) (hin:kxw (B1+1) wx m.nevers cs) (hnew:kxw (B1+1) wx [e] ds) (hB:∀ g,v.ownBlock=some g→g<w.heap.size) (hP:P<w.heap.size) (hB0:w.heap.size=B0) (hB1:B0<B1):kjp w P v L B0 B1 x0 x1 x2 x3 y { m with nevers:=m.nevers++[e] } s (wy.setCell ⟨B1,4,none⟩ y):=by
 subst hB0;obtain ⟨h0,⟨c1,h1,k1⟩,h2,⟨c3,h3,k3⟩,⟨c4,h4,k4⟩⟩:=h.md;have hv:(wx.alloc o).ownsRow (B1+1) 130 4 x4 _ _:=h4.alloc o;have al:∀ k,B1+1≤k→k<wx.heap.size→(wx.alloc o).heap[k]?=wx.heap[k]?:=fun k _ hk=>nZ _ _ _ hk
 have st:∀ k,B1+1≤k→k<wy.heap.size→(wy.setCell ⟨B1,4,none⟩ y).heap[k]?=wy.heap[k]?:=fun k hk _=>ru _ _ _ _ (by simp;omega)
 have hge:=yw h4;have l0:=wX h.b0;have l1:=wX h.b1;have e0:wy.heap[w.heap.size]?=wx.heap[w.heap.size]?:=(hg.block _ (by simp;omega) (fun e=>by have:=hge _ e.symm;omega)).trans (nZ _ _ _ l0);have e1:wy.heap[B1]?=wx.heap[B1]?:=(hg.block _ (by simp;omega) (fun e=>by have:=hge _ e.symm;omega)).trans (nZ _ _ _ l1);refine ⟨by rw[ru _ _ _ _ (by simp;omega),e0];exact h.b0,heap_setCell_same _ _ 4 _ _ _ (e1.trans h.b1),?_,?_,?_⟩
 ·refine ⟨?_,?_,?_,?_,?_⟩
  ·exact jv st (xq (h0.alloc o) hv (by decide) hg)
  ·exact ⟨c1,jv st (xq (h1.alloc o) hv (by decide) hg),(kxu.grown hv (by decide) hg (k1.stay al)).stay st⟩
  ·exact jv st (xq (h2.alloc o) hv (by decide) hg)
  ·exact ⟨c3,jv st (xq (h3.alloc o) hv (by decide) hg),(kxv.grown hv (by decide) (by decide) (by decide) hg (k3.stay al)).stay st⟩
  ·exact ⟨cs++ds,by simp only;rw[wU];exact jv st hown,(kxw.grown hv (by decide) (by decide) hg ((hin.app hnew).stay al)).stay st⟩
 ·exact ((h.pd.alloc o).grown hg hge (fun g hg=>by have:=hB g hg;omega) (by omega)).setOther (B:=w.heap.size) hB hP (by simp;omega) _
 ·exact (((h.kept.alloc o).grown hg (fun k hk=>by have:=hge k hk;omega)).jm (by simp;omega) _)
def uf (a b:Int):Int:=if a<0∨(0≤b∧b<a) then b else a
def vk:List ByteArray→List UInt8→Int
 | [],_=>-1
 | t::l,s=>if t.toList==s then 0 else if vk l s<0 then -1 else vk l s+1
theorem kjx {α:Type}(f:α→List Value)(n:Nat)(hf:∀ x,(f x).length=n):∀ (l:List α) (i j:Nat) (hi:i<l.length),j<n→(l.flatMap f)[i * n+j]?=(f l[i])[j]?
 | [],i,_,hi,_=>by simp at hi
 | a::l,0,j,_,hj=>by
  simp only[lU,Nat.zero_mul,Qx,fB];rw[Qm (by rw[hf];exact hj)]
 | a::l,i+1,j,hi,hj=>by
  have ih:=kjx f n hf l i j (by simpa using hi) hj;simp only[lU,Ql];rw[rC (by rw[hf,Nat.succ_mul];omega),hf,show (i+1) * n+j-n=i * n+j by rw[Nat.succ_mul];omega];exact ih
def kj6 (t:PTree):List ByteArray:=t.sets.map (fun s=>s.name.text)
def kja (t:PTree):List ByteArray:=t.kinds.map (fun s=>s.name.text)
def uh (t:PTree):List ByteArray:=t.vars.map (fun s=>s.name.text)
def kvf (k:PKind):List ByteArray:=k.members.map (fun m=>m.text)
def kyq:List PKind→List UInt8→Int × Int
 | [],_=>(-1,-1)
 | k::ks,s=>if 0≤vk (kvf k) s then (0,vk (kvf k) s) else if (kyq ks s).1<0 then (-1,-1) else ((kyq ks s).1+1,(kyq ks s).2)
def zjh (l:List PP):List ByteArray:=l.map (fun p=>p.name.text)
theorem kzz {P:Program}{w:World}{ops:Array Oper}{rest:List Oper}{o:Oper}{a:Act}{Q:Exit→Act→World→Prop}(hgd:o.guard=none)(s x:Operand)(t:TypeId)
  (ho:o.op=.call { callee:=.builtin .append,args:=#[s,x],argTypes:=#[t,t] })
  (base:Nat) (e:TypeId) (i:TypeInfo) (z:Value) (size bytes:Nat) (ht:P.underlying t=some (.slice e)) (hi:P.info? e=some i) (hz:i.zero=some z)
  (hsize:i.size=size) (hby:i.bytes=bytes) (hzs:z.cells.size=size) (hsz:0<size)
  (v:Value) (n:Nat) (xs:List Value) (hs:a.eval s=v) (hown:w.ownsRow base e size v n xs)
  (u:Value) (m:Nat) (ys:List Value) (lo:Nat) (hx:a.eval x=u) (hsrc:w.ownsRow lo e size u m ys) (h1:∀ y∈ys,y.oneCell'=true)
  (h63:n+m≤maxLen) (hbytes:(n+m) * bytes≤140737488355328) (hbase:base≤w.heap.size)
  (h:∀ v' w',w'.ownsRow base e size v' (n+m) (xs++ys)→w.grownBy w' v.ownBlock→(v'.ownBlock=v.ownBlock∨v'.ownBlock=some w.heap.size)→wpList P ops Q rest (a.put o.dst v') w') :
  wpList P ops Q (o::rest) a w:=by
 have hl:=hsrc.1;rcases hsrc.2 with ⟨rfl,rfl⟩|⟨g,cap,cur,rfl,hg,hh,h3,h4,h5,h6⟩
 ·have hy:ys=[]:=by
   rw[Nat.zero_mul] at hl;exact fQ hl
  subst hy;refine wpList_append_own_none hgd s x t ho base e i size ht hi v n xs hs hown hx (h v w ?_ ⟨rfl,rfl,rfl,wW _,fun _ _ _=>rfl⟩ (Or.inl rfl));rw[ni];exact hown
 ·refine lJ w hgd s x t ho base e i z size bytes ht hi hz hsize hby hzs hsz v n xs hs hown ⟨g,0,none⟩ m cap ys hx hl ?_ h1 h63 hbytes hbase (fun v' w' k1 k2 k3 k4=>h v' w' k1 k2 k4);intro j y hj;rw[show ((⟨g,0,none⟩:Addr).add j)=⟨g,j,none⟩ from by simp[Addr.add];intro h;exact h.symm,rD w g j _ _ _ hh];have hjl:j<m * size:=by
   rw[←hl];rcases Jh j ys.length with h|h
   ·exact h
   ·rw[List.getElem?_eq_none h] at hj;cases hj
  rw[←h6,Qq hjl] at hj;simpa using hj
def ownNames (x:ELab):List Tok:=if x.op.toList==[112,108,97,99,101] then (if x.index.kind.toList==[110,97,109,101] then [x.name,x.index] else [x.name]) else []
def yu:PX→List Tok
 | .nil=>[]
 | .node _ _ x a b=>(ownNames x++yu a)++yu b
def vvx:ByteArray:=⟨#[]⟩
theorem jkx {a b:ByteArray}(h:a=b):Ending.returned (.string a)=.returned (.string b):=by rw[h]
def qwh (t:PTree)(l:List PP)(s:List UInt8):Bool:=decide (0≤(kyq t.kinds s).1)||decide (0≤vk (uh t) s)||decide (0≤vk (zjh l) s)
def qzg (op:ByteArray):Bool:=(op.toList==[116,114,117,101])||(op.toList==[102,97,108,115,101])||(op.toList==[110,111,110,101])||(op.toList==[100,105,103,105,116])||(op.toList==[112,108,97,99,101])
def isNil:PX→Bool
 | .nil=>true
 | _=>false
def XOk:PX→Prop
 | .nil=>True
 | .node _ _ x a b=>(qzg x.op=true∨isNil a=false)∧XOk a∧XOk b
def zqw:PX→ByteArray
 | .nil=>vvx
 | .node _ _ x _ _=>x.name.text
def qq1:PB→Nat
 | .nil=>0
 | .node _ _ _ _ n=>qq1 n+1
def kwe (a:SLab):List Tok:=(yu a.place++yu a.value)++yu a.cond
def dh:PB→List Tok
 | .nil=>[]
 | .node _ _ a .nil n=>kwe a++dh n
 | .node _ _ a (.node _ _ _ t e) n=>((kwe a++dh t)++dh e)++dh n
def zvm (s:PSet):List Tok:=[s.name]
def kkv (k:PKind):List Tok:=k.name::k.members
def jys (v:PVar):List Tok:=[v.name]
def zj6 (r:PRule):List Tok:=[r.name]
def zki (t:PTree):List Tok:=t.sets.flatMap zvm
def zzx (t:PTree):List Tok:=zki t++t.kinds.flatMap kkv
def qyl (t:PTree):List Tok:=zzx t++t.vars.flatMap jys
def zf (t:PTree):List Tok:=qyl t++(t.rules++t.nevers).flatMap zj6
def qv2 (L:List Tok):Prop:=∀ i,i<L.length→((tk L i).kind.toList==[101,110,100])=false→i+1<L.length
theorem pq.qxt {L:List Tok}(h:pq L):qv2 L:=by
 intro i hi hk;have hp:=h.pos;by_cases e:i+1<L.length
 ·exact e
 ·have:i=L.length-1:=by omega
  subst this;rw[h.last] at hk;cases hk
def jc (L:List Tok):Nat→Nat→List Tok→Prop
 | a,b,[]=>a≤b
 | a,b,t::l=>∃ i,a≤i∧i<L.length∧t=tk L i∧(t.kind.toList==[110,97,109,101])=true∧jc L (i+1) b l
theorem jc.le {L:List Tok}:∀ {l:List Tok} {a b:Nat},jc L a b l→a+l.length≤b
 | [],a,b,h=>h
 | t::l,a,b,⟨i,h1,_,_,_,h⟩=>by have:=h.le;simp;omega
theorem jc.low {L:List Tok}{a a' b:Nat}(ha:a'≤a):∀ {l:List Tok},jc L a b l→jc L a' b l
 | [],h=>rV ha h
 | t::l,⟨i,h1,h⟩=>⟨i,rV ha h1,h⟩
theorem jc.high {L:List Tok}{b b':Nat}(hb:b≤b'):∀ {l:List Tok} {a:Nat},jc L a b l→jc L a b' l
 | [],a,h=>rV h hb
 | t::l,a,⟨i,h1,h2,h3,h4,h⟩=>⟨i,h1,h2,h3,h4,h.high hb⟩
theorem jc.app {L:List Tok}{b c:Nat}{m:List Tok}(hm:jc L b c m):∀ {l:List Tok} {a:Nat},jc L a b l→jc L a c (l++m)
 | [],a,h=>hm.low h
 | t::l,a,⟨i,h1,h2,h3,h4,h⟩=>⟨i,h1,h2,h3,h4,jc.app hm h⟩
theorem jc.mem {L:List Tok}:∀ {l:List Tok} {a b:Nat},jc L a b l→∀ t∈l,t∈L∧(t.kind.toList==[110,97,109,101])=true
 | [],_,_,_,t,ht=>by simp at ht
 | u::l,a,b,⟨i,h1,h2,h3,h4,h⟩,t,ht=>by
  rcases tK.mp ht with rfl|ht
  ·exact ⟨h3 ▸ vv1 h2,h4⟩
  ·exact h.mem t ht
theorem jc.ats {L:List Tok}(hL:L.Pairwise (fun a b=>a.at_<b.at_)):∀ {l:List Tok} {a b:Nat},jc L a b l→(∀ t∈l,∀ i,i<a→i<L.length→(tk L i).at_<t.at_)∧l.Pairwise (fun a b=>a.at_<b.at_)
 | [],_,_,_=>⟨fun t ht=>by simp at ht,List.Pairwise.nil⟩
 | u::l,a,b,⟨i,h1,h2,h3,h4,h⟩=>by
  obtain ⟨g1,g2⟩:=h.ats hL;have lt:∀ i j,i<j→j<L.length→(tk L i).at_<(tk L j).at_:=by
   intro i j hij hj;have e:∀ k,k<L.length→tk L k=L.getD k (kq2 0):=fun k hk=>rfl
   have hi:i<L.length:=by omega
   have:=Jy.mp hL i j hi hj hij;unfold tk;rw[show L.getD i (kq2 0)=L[i] by simp[List.getD,hi],show L.getD j (kq2 0)=L[j] by simp[List.getD,hj]];exact this
  refine ⟨?_,List.pairwise_cons.mpr ⟨fun t ht=>?_,g2⟩⟩
  ·intro t ht k hk hkl;rcases tK.mp ht with rfl|ht
   ·rw[h3];exact lt k i (by omega) h2
   ·exact g1 t ht k (by omega) hkl
  ·rw[h3];exact g1 t ht i (by omega) h2
theorem jkh {L:List Tok}{s:List UInt8}{st:RS}(hF:qv2 L)(hl:st.at_<L.length)(hn:ql L s st=true):st.bad=false∧st.at_+1<L.length:=by
 unfold ql qzk at hn;simp only[wY,lg,nP] at hn;refine ⟨hn.1.1,hF _ hl ?_⟩;rcases hn.1.2 with e|e<;>(rw[wP] at e;rw[e];rfl)
theorem jo {L:List Tok}{s:List UInt8}{st:RS}(hF:qv2 L)(hl:st.at_<L.length)(h:(qg L s st).bad=false):st.bad=false∧(qg L s st).at_=st.at_+1∧(qg L s st).at_<L.length:=by
 have h1:=qz7 h;have hn:ql L s st=true:=by
  cases hn:ql L s st
  ·unfold qg at h;rw[hn] at h;simp at h
  ·rfl
 have:=jkh hF hl hn;exact ⟨this.1,h1,by omega⟩
theorem kj0 {L:List Tok}{s:List UInt8}{st:RS}(hF:qv2 L)(hl:st.at_<L.length)(hs:(s==[101,110,100])=false)(h:(qh L s st).2.bad=false) :
  st.bad=false∧(qh L s st).1=tk L st.at_∧((tk L st.at_).kind.toList==s)=true∧(qh L s st).2.at_=st.at_+1∧(qh L s st).2.at_<L.length:=by
 have h1:=zyd h;have hn:kq1 L s st=true:=by
  cases hn:kq1 L s st
  ·unfold qh at h;rw[hn] at h;simp at h
  ·rfl
 have e:(qh L s st).1=tk L st.at_:=by unfold qh;rw[hn];rfl
 unfold kq1 at hn;simp only[wY,nP] at hn;have hk:=hn.2;have:st.at_+1<L.length:=hF _ hl (by rw[wP] at hk;rw[hk];exact hs);exact ⟨hn.1,e,hk,h1,by omega⟩
theorem qjy (o:ByteArray)(a b:PX)(ho:(o.toList==[112,108,97,99,101])=false):yu (opX o a b)=yu a++yu b:=by
 show (ownNames _++yu a)++yu b=_;unfold ownNames;rw[ho];rfl
theorem jjj {n:Nat}{t:Tok}(h:kz7 n t=true):(t.text.toList==[112,108,97,99,101])=false∧qzg t.text=false:=by
 unfold kz7 at h;rw[wY] at h;have h1:=h.1;rw[QY] at h1;obtain ⟨s,hs,e⟩:=h1;rw[wP] at e;unfold qzg;rw[←e];have all:∀ n,∀ s∈kw0 n,s.toList=[124]∨s.toList=[38]∨s.toList=[61,61]∨s.toList=[33,61]∨s.toList=[60]∨s.toList=[43]∨s.toList=[45]:=by
  intro n s hs;have:∀ l:List UInt8,(⟨l.toArray⟩:ByteArray).toList=l:=zy;rcases n with _|_|_|n<;>simp only[kw0,tK,nY,or_false] at hs
  ·subst hs;exact Or.inl (this [124])
  ·subst hs;exact Or.inr (Or.inl (this [38]))
  ·rcases hs with rfl|rfl|rfl
   ·exact Or.inr (Or.inr (Or.inl (this [61,61])))
   ·exact Or.inr (Or.inr (Or.inr (Or.inl (this [33,61]))))
   ·exact Or.inr (Or.inr (Or.inr (Or.inr (Or.inl (this [60])))))
  ·rcases hs with rfl|rfl
   ·exact Or.inr (Or.inr (Or.inr (Or.inr (Or.inr (Or.inl (this [43]))))))
   ·exact Or.inr (Or.inr (Or.inr (Or.inr (Or.inr (Or.inr (this [45]))))))
 rcases all n s hs with e|e|e|e|e|e|e<;>rw[e]<;>decide
theorem jxu {t:Tok}(h:isConst t=true):(t.text.toList==[112,108,97,99,101])=false∧qzg t.text=true:=by
 unfold isConst at h;rw[wY] at h;have h1:=h.2;unfold qzg;simp only[lg,wP] at h1;rcases h1 with (e|e)|e<;>rw[e]<;>decide
theorem zjd {L:List Tok}{st:RS}(hF:qv2 L)(hl:st.at_<L.length)(h:(vg L st).2.bad=false) :
  st.bad=false∧XOk (vg L st).1∧isNil (vg L st).1=false∧(vg L st).2.at_<L.length∧jc L st.at_ (vg L st).2.at_ (yu (vg L st).1):=by
 have hlf:qzg kkb=true:=by
  unfold qzg;rw[show kkb.toList=[112,108,97,99,101] from zy _];rfl
 have hpl:(kkb.toList==[112,108,97,99,101])=true:=by rw[show kkb.toList=[112,108,97,99,101] from zy _];rfl
 unfold vg at h ⊢;simp only at h ⊢;by_cases hn:ql L [91] (qh L [110,97,109,101] st).2=true
 ·rw[if_pos hn] at h ⊢;simp only at h ⊢;have n1:=fun hl=>jkh hF hl hn
  have hk:(qh L [110,97,109,101] st).2.bad=false:=by
   cases hb:(qh L [110,97,109,101] st).2.bad
   ·rfl
   ·rw[uj hb] at hn;cases hn
  obtain ⟨a1,a2,a3,a4,a5⟩:=kj0 hF hl rfl hk;have hk2:(qh L [110,97,109,101] (qg L [91] (qh L [110,97,109,101] st).2)).2.bad=false:=by
   cases hb:(qh L [110,97,109,101] (qg L [91] (qh L [110,97,109,101] st).2)).2.bad
   ·rfl
   ·rw[kjo hb] at h;cases h
  have hm:(qg L [91] (qh L [110,97,109,101] st).2).bad=false:=by
   cases hb:(qg L [91] (qh L [110,97,109,101] st).2).bad
   ·rfl
   ·rw[qwz hb] at hk2;cases hk2
  obtain ⟨b1,b2,b3⟩:=jo hF a5 hm;obtain ⟨c1,c2,c3,c4,c5⟩:=kj0 hF b3 rfl hk2;obtain ⟨d1,d2,d3⟩:=jo hF c5 h;refine ⟨a1,⟨Or.inl hlf,trivial,trivial⟩,rfl,d3,?_⟩;rw[show yu (.node 0 0 { op:=kkb,name:=(qh L [110,97,109,101] st).1,index:=(qh L [110,97,109,101] (qg L [91] (qh L [110,97,109,101] st).2)).1,n:=0 } .nil .nil)=[tk L st.at_,tk L (qg L [91] (qh L [110,97,109,101] st).2).at_] by
   simp only[yu,ownNames];rw[hpl,a2,c2,c3];rfl]
  exact ⟨st.at_,wW _,hl,rfl,a3,_,by omega,b3,rfl,c3,by show _≤_;omega⟩
 ·rw[if_neg hn] at h ⊢;simp only at h ⊢;obtain ⟨a1,a2,a3,a4,a5⟩:=kj0 hF hl rfl h;refine ⟨a1,⟨Or.inl hlf,trivial,trivial⟩,rfl,a5,?_⟩;rw[show yu (.node 0 0 { op:=kkb,name:=(qh L [110,97,109,101] st).1,index:=jk,n:=0 } .nil .nil)=[tk L st.at_] by
   simp only[yu,ownNames];rw[hpl,a2,show (jk.kind.toList==[110,97,109,101])=false by rw[show jk.kind.toList=[] from zy _];rfl];rfl]
  exact ⟨st.at_,wW _,hl,rfl,a3,by show _≤_;omega⟩
def ndC (tag:Nat):Nat:=if tag<10 then 7-tag else if tag<20 then 1 else 2
def zjv (tag:Nat)(x:PX):List Tok:=if 10≤tag∧tag<20 then yu x else []
theorem vqh (L:List Tok)(hF:qv2 L):∀ (f tag:Nat) (x:PX) (st:RS),(tag≤4∨(10≤tag∧tag≤13)∨(20≤tag∧tag≤32))→8 * (L.length-st.at_)+ndC tag≤f→st.at_<L.length →
  (10≤tag→tag<20→isNil x=false∧XOk x)→(rX f tag x L st).2.bad=false →
  st.bad=false∧XOk (rX f tag x L st).1∧isNil (rX f tag x L st).1=false∧(rX f tag x L st).2.at_<L.length∧∃ l,yu (rX f tag x L st).1=zjv tag x++l∧jc L st.at_ (rX f tag x L st).2.at_ l
 | 0,tag,x,st,ht,hf,hl,hx,h=>by exfalso;unfold ndC at hf;split at hf<;>(try split at hf)<;>omega
 | f+1,tag,x,st,ht,hf,hl,hx,h=>by
  have ih:=vqh L hF f;have hb:st.bad=false:=by
   cases hb:st.bad
   ·rfl
   ·rw[kql hb] at h;rw[hb] at h;cases h
  refine ⟨hb,?_⟩;have hbf:¬st.bad=true:=by rw[hb];simp
  rw[rX] at h ⊢;by_cases t4:tag<4
  ·rw[if_pos t4,if_neg hbf] at h ⊢;have nd:ndC tag=7-tag:=by unfold ndC;rw[if_pos (by omega)]
   have h1:(rX f (tag+1) .nil L st).2.bad=false:=by
    cases hb1:(rX f (tag+1) .nil L st).2.bad
    ·rfl
    ·rw[kql hb1,hb1] at h;cases h
   obtain ⟨a1,a2,a3,a4,l1,a5,a6⟩:=ih (tag+1) .nil st (Or.inl (by omega)) (by rw[show ndC (tag+1)=7-(tag+1) by unfold ndC;rw[if_pos (by omega)]];omega) hl (fun h1 h2=>by omega) h1;have le1:=a6.le;obtain ⟨b1,b2,b3,b4,l2,b5,b6⟩:=ih (10+tag) (rX f (tag+1) .nil L st).1 (rX f (tag+1) .nil L st).2 (Or.inr (Or.inl ⟨by omega,by omega⟩)) (by rw[show ndC (10+tag)=1 by unfold ndC;rw[if_neg (by omega),if_pos (by omega)]];omega) a4 (fun _ _=>⟨a3,a2⟩) h;refine ⟨b2,b3,b4,l1++l2,?_,b6.app a6⟩;rw[b5];simp only[zjv];rw[if_pos ⟨by omega,by omega⟩,if_neg (by omega),a5];simp only[zjv];rw[if_neg (by omega)];simp
  ·rw[if_neg t4] at h ⊢;by_cases t10:tag<10
   ·rw[if_pos t10,if_neg hbf] at h ⊢;have t:tag=4:=by omega
    subst t;have nd:ndC 4=3:=rfl;obtain ⟨a1,a2,a3,a4,l1,a5,a6⟩:=ih 20 .nil st (Or.inr (Or.inr ⟨by omega,by omega⟩)) (by show _+2≤f;omega) hl (fun h1 h2=>by omega) h;exact ⟨a2,a3,a4,l1,a5,a6⟩
   ·rw[if_neg t10] at h ⊢;by_cases t20:tag<20
    ·rw[if_pos t20,if_neg hbf] at h ⊢;obtain ⟨x1,x2⟩:=hx (by omega) t20;have pr:zjv tag x=yu x:=by unfold zjv;rw[if_pos ⟨by omega,t20⟩]
     have nd:ndC tag=1:=by unfold ndC;rw[if_neg (by omega),if_pos (by omega)]
     by_cases hbin:kz7 (tag-10) (tk L st.at_)=true
     ·rw[if_pos hbin] at h ⊢;obtain ⟨np,lf⟩:=jjj hbin;have hsg:st.at_+1<L.length:=hF _ hl (by
       unfold kz7 at hbin;rw[wY] at hbin;have:=hbin.2;rw[wP] at this;rw[this];rfl)
      have nd':ndC (tag-9)=7-(tag-9):=by unfold ndC;rw[if_pos (by omega)]
      have sub:(rX f (tag-9) .nil L { st with at_:=st.at_+1 }).2.bad=false→XOk (rX f (tag-9) .nil L { st with at_:=st.at_+1 }).1∧isNil (rX f (tag-9) .nil L { st with at_:=st.at_+1 }).1=false∧(rX f (tag-9) .nil L { st with at_:=st.at_+1 }).2.at_<L.length ∧
        ∃ l,yu (rX f (tag-9) .nil L { st with at_:=st.at_+1 }).1=l∧jc L (st.at_+1) (rX f (tag-9) .nil L { st with at_:=st.at_+1 }).2.at_ l:=by
       intro h1;obtain ⟨a1,a2,a3,a4,l1,a5,a6⟩:=ih (tag-9) .nil { st with at_:=st.at_+1 } (Or.inl (by omega)) (by rw[nd'];simp only;omega) hsg (fun h1 h2=>by omega) h1;refine ⟨a2,a3,a4,l1,?_,a6⟩;rw[a5];unfold zjv;rw[if_neg (by omega)];rfl
      by_cases t12:tag=12
      ·rw[if_pos t12] at h ⊢;simp only at h ⊢;obtain ⟨a2,a3,a4,l1,a5,a6⟩:=sub h;refine ⟨⟨Or.inr x1,x2,a2⟩,rfl,a4,l1,?_,a6.low (by omega)⟩;rw[qjy _ _ _ np,a5,pr]
      ·rw[if_neg t12] at h ⊢;have h1:(rX f (tag-9) .nil L { st with at_:=st.at_+1 }).2.bad=false:=by
        cases hb1:(rX f (tag-9) .nil L { st with at_:=st.at_+1 }).2.bad
        ·rfl
        ·rw[kql hb1,hb1] at h;cases h
       obtain ⟨a2,a3,a4,l1,a5,a6⟩:=sub h1;have le1:=a6.le;obtain ⟨b1,b2,b3,b4,l2,b5,b6⟩:=ih tag (opX (tk L st.at_).text x (rX f (tag-9) .nil L { st with at_:=st.at_+1 }).1) (rX f (tag-9) .nil L { st with at_:=st.at_+1 }).2 (Or.inr (Or.inl ⟨by omega,by omega⟩)) (by rw[nd];omega) a4 (fun _ _=>⟨rfl,⟨Or.inr x1,x2,a2⟩⟩) h;refine ⟨b2,b3,b4,l1++l2,?_,b6.app (a6.low (by omega))⟩;rw[b5];rw[show zjv tag (opX (tk L st.at_).text x (rX f (tag-9) .nil L { st with at_:=st.at_+1 }).1)=yu (opX (tk L st.at_).text x (rX f (tag-9) .nil L { st with at_:=st.at_+1 }).1) by unfold zjv;rw[if_pos ⟨by omega,t20⟩],qjy _ _ _ np,a5,pr,tX]
     ·rw[if_neg hbin] at h ⊢;exact ⟨x2,x1,hl,[],by rw[pr,ni],wW _⟩
    ·rw[if_neg t20,if_neg hbf] at h ⊢;have pr:zjv tag x=[]:=by unfold zjv;rw[if_neg (by omega)]
     have nd:ndC tag=2:=by unfold ndC;rw[if_neg (by omega),if_neg (by omega)]
     by_cases n33:ql L [33] st=true
     ·rw[if_pos n33] at h ⊢;by_cases t32:tag=32
      ·rw[if_pos t32] at h;simp at h
      ·rw[if_neg t32] at h ⊢;simp only at h ⊢;have h1:(qg L [33] st).bad=false:=by
        cases hb1:(qg L [33] st).bad
        ·rfl
        ·rw[kql hb1,hb1] at h;cases h
       obtain ⟨m1,m2,m3⟩:=jo hF hl h1;obtain ⟨a1,a2,a3,a4,l1,a5,a6⟩:=ih (tag+1) .nil (qg L [33] st) (Or.inr (Or.inr ⟨by omega,by omega⟩)) (by rw[show ndC (tag+1)=2 by unfold ndC;rw[if_neg (by omega),if_neg (by omega)]];omega) m3 (fun h1 h2=>by omega) h;refine ⟨⟨Or.inr a3,a2,trivial⟩,rfl,a4,l1,?_,a6.low (by omega)⟩;rw[qjy _ _ _ (by rw[show qyq.toList=[33] from zy _];rfl),a5,pr];simp only[zjv];rw[if_neg (by omega)];simp[yu]
     ·rw[if_neg n33] at h ⊢;by_cases n40:ql L [40] st=true
      ·rw[if_pos n40] at h ⊢;simp only at h ⊢;have h1:(rX f 0 .nil L (qg L [40] st)).2.bad=false:=by
        cases hb1:(rX f 0 .nil L (qg L [40] st)).2.bad
        ·rfl
        ·rw[kjo hb1] at h;cases h
       have h0:(qg L [40] st).bad=false:=by
        cases hb1:(qg L [40] st).bad
        ·rfl
        ·rw[kql hb1,hb1] at h1;cases h1
       obtain ⟨m1,m2,m3⟩:=jo hF hl h0;obtain ⟨a1,a2,a3,a4,l1,a5,a6⟩:=ih 0 .nil (qg L [40] st) (Or.inl (by omega)) (by show _+7≤f;omega) m3 (fun h1 h2=>by omega) h1;obtain ⟨e1,e2,e3⟩:=jo hF a4 h;exact ⟨a2,a3,e3,l1,by rw[a5,pr];rfl,(a6.low (by omega)).high (by omega)⟩
      ·rw[if_neg n40] at h ⊢;by_cases hc:isConst (tk L st.at_)=true
       ·rw[if_pos hc] at h ⊢;obtain ⟨np,lf⟩:=jxu hc;have hsg:st.at_+1<L.length:=hF _ hl (by
         unfold isConst at hc;rw[wY] at hc;have:=hc.1;rw[wP] at this;rw[this];rfl)
        refine ⟨⟨Or.inl lf,trivial,trivial⟩,rfl,hsg,[],?_,by show _≤_;simp⟩;rw[qjy _ _ _ np,pr];rfl
       ·rw[if_neg hc] at h ⊢;by_cases hd:qvm (tk L st.at_)=true
        ·rw[if_pos hd] at h ⊢;have hsg:st.at_+1<L.length:=hF _ hl (by
          unfold qvm at hd;rw[wP] at hd;rw[hd];rfl)
         have hk:kw6.toList=[100,105,103,105,116]:=zy _;refine ⟨⟨Or.inl (by unfold qzg;simp only;rw[hk];rfl),trivial,trivial⟩,rfl,hsg,[],?_,by show _≤_;simp⟩;rw[pr];show (ownNames _++_)++_=_;unfold ownNames;simp only;rw[hk];rfl
        ·rw[if_neg hd] at h ⊢;obtain ⟨p1,p2,p3,p4,p5⟩:=zjd hF hl h;exact ⟨p2,p3,p4,_,by rw[pr];rfl,p5⟩
theorem vxo {L:List Tok}(hF:qv2 L){st:RS}(hl:st.at_<L.length)(h:(rX (ji L) 0 .nil L st).2.bad=false) :
  st.bad=false∧XOk (rX (ji L) 0 .nil L st).1∧isNil (rX (ji L) 0 .nil L st).1=false∧(rX (ji L) 0 .nil L st).2.at_<L.length∧jc L st.at_ (rX (ji L) 0 .nil L st).2.at_ (yu (rX (ji L) 0 .nil L st).1):=by
 obtain ⟨a1,a2,a3,a4,l,a5,a6⟩:=vqh L hF (ji L) 0 .nil st (Or.inl (by omega)) (by show _+7≤_;unfold ji;omega) hl (fun h1 _=>by omega) h;exact ⟨a1,a2,a3,a4,by rw[a5];exact a6⟩
end Go.Proofs.YtpmcnonmkghokaaGreatDoor

import Derived.Test.YtpmcnonmkghokaaGreatDoorT05
import Derived.Test.YtpmcnonmkghokaaGreatDoorT02
import Derived.Laws.AppendOwnNone
import Derived.Deep.RegionWith
import Derived.Test.YtpmcnonmkghokaaGreatDoorT00
set_option linter.unusedVariables false
set_option linter.unusedSimpArgs false
namespace Go.Proofs.YtpmcnonmkghokaaGreatDoor
open Go.RowKit
def qqn (s:PSet):List Value:=[.string s.name.text,.int .i64 s.name.at_,.int .i64 (yx s.size.text),.int .i64 s.size.at_]
def zqy (l:List PSet):List Value:=l.flatMap qqn
def jju (l:List VrT):List Value:=l.flatMap kqx
theorem jvk (l:List PSet)(p:PSet):zqy (l++[p])=zqy l++qqn p:=by simp[zqy]
theorem jv8 (l:List VrT)(p:VrT):jju (l++[p])=jju l++kqx p:=by simp[jju]
theorem jyr (p:PSet):∀ u∈qqn p,u.oneCell'=true:=by
 intro u h;simp only[qqn,tX,nM,or_false] at h;rcases h with rfl|rfl|rfl|rfl<;>rfl
theorem qws (p:VrT):∀ u∈kqx p,u.oneCell'=true:=by
 intro u h;simp only[kqx,tX,nM,or_false] at h;rcases h with rfl|rfl|rfl|rfl|rfl|rfl|rfl|rfl|rfl|rfl<;>rfl
def kx1 (lo:Nat)(w:World):List PKind→List Value→Prop
 | [],cs=>cs=[]
 | k::ks,cs=>∃ ma mn mc rest,cs=[.string k.name.text,.int .i64 k.name.at_,.slice ma mn mc]++rest∧w.ownsRow lo 107 2 (.slice ma mn mc) k.members.length (kq2 k.members)∧kx1 lo w ks rest
theorem kx1.stay {lo:Nat}{w w':World}(hk:∀ k,lo≤k→k<w.heap.size→w'.heap[k]?=w.heap[k]?):∀ {ks:List PKind} {cs:List Value},kx1 lo w ks cs→kx1 lo w' ks cs
 | [],_,h=>h
 | k::ks,_,⟨ma,mn,mc,rest,e,h1,h2⟩=>⟨ma,mn,mc,rest,e,jv hk h1,kx1.stay hk h2⟩
theorem kx1.mono {lo lo':Nat}{w:World}(hl:lo'≤lo):∀ {ks:List PKind} {cs:List Value},kx1 lo w ks cs→kx1 lo' w ks cs
 | [],_,h=>h
 | k::ks,_,⟨ma,mn,mc,rest,e,h1,h2⟩=>⟨ma,mn,mc,rest,e,zx hl h1,kx1.mono hl h2⟩
theorem kx1.app {lo:Nat}{w:World}:∀ {ks js:List PKind} {cs ds:List Value},kx1 lo w ks cs→kx1 lo w js ds→kx1 lo w (ks++js) (cs++ds)
 | [],_,cs,ds,h,h'=>by
  have:cs=[]:=h;subst this;exact h'
 | k::ks,_,cs,ds,⟨ma,mn,mc,rest,e,h1,h2⟩,h'=>⟨ma,mn,mc,rest++ds,by rw[e,tK],h1,h2.app h'⟩
theorem kx1.grown {lo base e size:Nat}{w w':World}{v:Value}{n:Nat}{zs:List Value}(hv:w.ownsRow base e size v n zs)(he:107≠e)(hg:w.grownBy w' v.ownBlock):∀ {ks:List PKind} {cs:List Value},kx1 lo w ks cs→kx1 lo w' ks cs
 | [],_,h=>h
 | k::ks,_,⟨ma,mn,mc,rest,e1,h1,h2⟩=>⟨ma,mn,mc,rest,e1,xu h1 hv he hg,kx1.grown hv he hg h2⟩
theorem BIs.kwo {lo base e size:Nat}{no:Option Nat}{w w':World}{v:Value}{n:Nat}{zs:List Value}(hv:w.ownsRow base e size v n zs)(he:334≠e)(hx:358≠e)(hg:w.grownBy w' v.ownBlock):∀ {b:PB} {cs:List Value},BIs lo no w b cs→BIs lo no w' b cs
 | .nil,_,h=>h
 | .node _ _ a .nil n,cs,⟨p,rest,e,h1,hn⟩=>⟨p,rest,e,h1.grown hv hx hg,BIs.kwo hv he hx hg hn⟩
 | .node _ _ a (.node _ _ _ t e) n,cs,⟨p,ta,tn,tc,ea,en,ec,ct,ce,rest,e1,h1,⟨ht1,ht3,ht2⟩,⟨he1,he3,he2⟩,hn⟩=>
  ⟨p,ta,tn,tc,ea,en,ec,ct,ce,rest,e1,h1.grown hv hx hg,⟨xu ht1 hv he hg,ht3,BIs.kwo hv he hx hg ht2⟩,⟨xu he1 hv he hg,he3,BIs.kwo hv he hx hg he2⟩,BIs.kwo hv he hx hg hn⟩
theorem kze.grown {lo base e size:Nat}{w w':World}{v:Value}{n:Nat}{zs:List Value}(hv:w.ownsRow base e size v n zs)(hp:352≠e)(he:334≠e)(hx:358≠e)(hg:w.grownBy w' v.ownBlock):∀ {rs:List PRule} {cs:List Value},kze lo w rs cs→kze lo w' rs cs
 | [],_,h=>h
 | r::rs,_,⟨pa,pn,pc,gp,ba,bn,bc,bcs,rest,e1,h1,h2,h3,h4,h5⟩=>⟨pa,pn,pc,gp,ba,bn,bc,bcs,rest,e1,xu h1 hv hp hg,h2.grown hv hx hg,xu h3 hv he hg,h4.kwo hv he hx hg,kze.grown hv hp he hx hg h5⟩
theorem kzi.grown {lo base e size:Nat}{w w':World}{v:Value}{n:Nat}{zs:List Value}(hv:w.ownsRow base e size v n zs)(hp:352≠e)(hx:358≠e)(hg:w.grownBy w' v.ownBlock):∀ {rs:List PRule} {cs:List Value},kzi lo w rs cs→kzi lo w' rs cs
 | [],_,h=>h
 | r::rs,_,⟨pa,pn,pc,gp,rest,e1,h1,h2,h5⟩=>⟨pa,pn,pc,gp,rest,e1,xu h1 hv hp hg,h2.grown hv hx hg,kzi.grown hv hp hx hg h5⟩
structure MdL where
 sets:List PSet
 kinds:List PKind
 vars:List VrT
 rules:List PRule
 nevers:List PRule
structure kk6 (lo:Nat)(w:World)(x0 x1 x2 x3 x4:Value)(m:MdL):Prop where
 o0:w.ownsRow lo 111 4 x0 m.sets.length (zqy m.sets)
 o1:∃ cs,w.ownsRow lo 114 3 x1 m.kinds.length cs∧kx1 lo w m.kinds cs
 o2:w.ownsRow lo 121 10 x2 m.vars.length (jju m.vars)
 o3:∃ cs,w.ownsRow lo 127 5 x3 m.rules.length cs∧kze lo w m.rules cs
 o4:∃ cs,w.ownsRow lo 130 4 x4 m.nevers.length cs∧kzi lo w m.nevers cs
theorem kk6.stay {lo:Nat}{w w':World}{x0 x1 x2 x3 x4:Value}{m:MdL}(hk:∀ k,lo≤k→k<w.heap.size→w'.heap[k]?=w.heap[k]?)(h:kk6 lo w x0 x1 x2 x3 x4 m):kk6 lo w' x0 x1 x2 x3 x4 m:=by
 obtain ⟨h0,⟨c1,h1,k1⟩,h2,⟨c3,h3,k3⟩,⟨c4,h4,k4⟩⟩:=h;exact ⟨jv hk h0,⟨c1,jv hk h1,k1.stay hk⟩,jv hk h2,⟨c3,jv hk h3,k3.stay hk⟩,⟨c4,jv hk h4,k4.stay hk⟩⟩
theorem kk6.mono {lo lo':Nat}{w:World}{x0 x1 x2 x3 x4:Value}{m:MdL}(hl:lo'≤lo)(h:kk6 lo w x0 x1 x2 x3 x4 m):kk6 lo' w x0 x1 x2 x3 x4 m:=by
 obtain ⟨h0,⟨c1,h1,k1⟩,h2,⟨c3,h3,k3⟩,⟨c4,h4,k4⟩⟩:=h;exact ⟨zx hl h0,⟨c1,zx hl h1,k1.mono hl⟩,zx hl h2,⟨c3,zx hl h3,k3.mono hl⟩,⟨c4,zx hl h4,k4.mono hl⟩⟩
structure kjw (w:World)(P:Nat)(v:Value)(L:List Tok)(B0 B1:Nat)(x0 x1 x2 x3 x4:Value)(m:MdL)(s:RS)(wx:World):Prop where
 b0:wx.heap[B0]?=some (.cells #[.slice none 0 0,.slice none 0 0,.slice none 0 0,.slice none 0 0,.slice none 0 0] 68 (0,0))
 b1:wx.heap[B1]?=some (.cells #[x0,x1,x2,x3,x4] 68 (0,0))
 md:kk6 (B1+1) wx x0 x1 x2 x3 x4 m
 pd:Pd wx P v L s
 kept:Kept P w wx
theorem kjw.kept' {w:World}{P:Nat}{v:Value}{L:List Tok}{B0 B1:Nat}{x0 x1 x2 x3 x4:Value}{m:MdL}{s s':RS}{wx wy:World}(h:kjw w P v L B0 B1 x0 x1 x2 x3 x4 m s wx)(hk:Kept P wx wy)(hp:Pd wy P v L s')(h0:P<B0)(h1:P<B1):kjw w P v L B0 B1 x0 x1 x2 x3 x4 m s' wy:=
 ⟨hk.row (by omega) h.b0,hk.row (by omega) h.b1,h.md.stay (fun k hk1 hk2=>hk.block k hk2 (by omega)),hp,h.kept.trans hk⟩
theorem kjw.more0 {w:World}{P:Nat}{v:Value}{L:List Tok}{B0 B1:Nat}{x0 x1 x2 x3 x4 y:Value}{m:MdL}{s:RS}{wx wy:World}{e:PSet}{o:Obj}(h:kjw w P v L B0 B1 x0 x1 x2 x3 x4 m s wx)(hg:(wx.alloc o).grownBy wy x0.ownBlock)
  (hown:wy.ownsRow (B1+1) 111 4 y (m.sets.length+1) (zqy m.sets++qqn e)) (hB:∀ g,v.ownBlock=some g→g<w.heap.size) (hP:P<w.heap.size) (hB0:w.heap.size=B0) (hB1:B0<B1):kjw w P v L B0 B1 y x1 x2 x3 x4 { m with sets:=m.sets++[e] } s (wy.setCell ⟨B1,0,none⟩ y):=by
 subst hB0;obtain ⟨h0,⟨c1,h1,k1⟩,h2,⟨c3,h3,k3⟩,⟨c4,h4,k4⟩⟩:=h.md;have hv:(wx.alloc o).ownsRow (B1+1) 111 4 x0 _ _:=h0.alloc o;have al:∀ k,B1+1≤k→k<wx.heap.size→(wx.alloc o).heap[k]?=wx.heap[k]?:=fun k _ hk=>nY _ _ _ hk
 have st:∀ k,B1+1≤k→k<wy.heap.size→(wy.setCell ⟨B1,0,none⟩ y).heap[k]?=wy.heap[k]?:=fun k hk _=>wP _ _ _ _ (by simp;omega)
 have hge:=vg h0;have l0:=wZ h.b0;have l1:=wZ h.b1;have e0:wy.heap[w.heap.size]?=wx.heap[w.heap.size]?:=(hg.block _ (by simp;omega) (fun e=>by have:=hge _ e.symm;omega)).trans (nY _ _ _ l0);have e1:wy.heap[B1]?=wx.heap[B1]?:=(hg.block _ (by simp;omega) (fun e=>by have:=hge _ e.symm;omega)).trans (nY _ _ _ l1);refine ⟨by rw[wP _ _ _ _ (by simp;omega),e0];exact h.b0,heap_setCell_same _ _ 0 _ _ _ (e1.trans h.b1),?_,?_,?_⟩
 ·refine ⟨?_,?_,?_,?_,?_⟩
  ·simp only;rw[jvk,wB];exact jv st hown
  ·exact ⟨c1,jv st (xu (h1.alloc o) hv (by decide) hg),(kx1.grown hv (by decide) hg (k1.stay al)).stay st⟩
  ·exact jv st (xu (h2.alloc o) hv (by decide) hg)
  ·exact ⟨c3,jv st (xu (h3.alloc o) hv (by decide) hg),(kze.grown hv (by decide) (by decide) (by decide) hg (k3.stay al)).stay st⟩
  ·exact ⟨c4,jv st (xu (h4.alloc o) hv (by decide) hg),(kzi.grown hv (by decide) (by decide) hg (k4.stay al)).stay st⟩
 ·exact ((h.pd.alloc o).grown hg hge (fun g hg=>by have:=hB g hg;omega) (by omega)).setOther (B:=w.heap.size) hB hP (by simp;omega) _
 ·exact (((h.kept.alloc o).grown hg (fun k hk=>by have:=hge k hk;omega)).jm (by simp;omega) _)
theorem kjw.more1 {w:World}{P:Nat}{v:Value}{L:List Tok}{B0 B1:Nat}{x0 x1 x2 x3 x4 y:Value}{m:MdL}{s:RS}{wx wy:World}{e:PKind}{o:Obj}(h:kjw w P v L B0 B1 x0 x1 x2 x3 x4 m s wx)(hg:(wx.alloc o).grownBy wy x1.ownBlock)
  {cs ds:List Value} (hown:wy.ownsRow (B1+1) 114 3 y (m.kinds.length+1) (cs++ds)) (hin:kx1 (B1+1) wx m.kinds cs) (hnew:kx1 (B1+1) wx [e] ds) (hB:∀ g,v.ownBlock=some g→g<w.heap.size) (hP:P<w.heap.size) (hB0:w.heap.size=B0) (hB1:B0<B1):kjw w P v L B0 B1 x0 y x2 x3 x4 { m with kinds:=m.kinds++[e] } s (wy.setCell ⟨B1,1,none⟩ y):=by
 subst hB0;obtain ⟨h0,⟨c1,h1,k1⟩,h2,⟨c3,h3,k3⟩,⟨c4,h4,k4⟩⟩:=h.md;have hv:(wx.alloc o).ownsRow (B1+1) 114 3 x1 _ _:=h1.alloc o;have al:∀ k,B1+1≤k→k<wx.heap.size→(wx.alloc o).heap[k]?=wx.heap[k]?:=fun k _ hk=>nY _ _ _ hk
 have st:∀ k,B1+1≤k→k<wy.heap.size→(wy.setCell ⟨B1,1,none⟩ y).heap[k]?=wy.heap[k]?:=fun k hk _=>wP _ _ _ _ (by simp;omega)
 have hge:=vg h1;have l0:=wZ h.b0;have l1:=wZ h.b1;have e0:wy.heap[w.heap.size]?=wx.heap[w.heap.size]?:=(hg.block _ (by simp;omega) (fun e=>by have:=hge _ e.symm;omega)).trans (nY _ _ _ l0);have e1:wy.heap[B1]?=wx.heap[B1]?:=(hg.block _ (by simp;omega) (fun e=>by have:=hge _ e.symm;omega)).trans (nY _ _ _ l1);refine ⟨by rw[wP _ _ _ _ (by simp;omega),e0];exact h.b0,heap_setCell_same _ _ 1 _ _ _ (e1.trans h.b1),?_,?_,?_⟩
 ·refine ⟨?_,?_,?_,?_,?_⟩
  ·exact jv st (xu (h0.alloc o) hv (by decide) hg)
  ·exact ⟨cs++ds,by simp only;rw[wB];exact jv st hown,(kx1.grown hv (by decide) hg ((hin.app hnew).stay al)).stay st⟩
  ·exact jv st (xu (h2.alloc o) hv (by decide) hg)
  ·exact ⟨c3,jv st (xu (h3.alloc o) hv (by decide) hg),(kze.grown hv (by decide) (by decide) (by decide) hg (k3.stay al)).stay st⟩
  ·exact ⟨c4,jv st (xu (h4.alloc o) hv (by decide) hg),(kzi.grown hv (by decide) (by decide) hg (k4.stay al)).stay st⟩
 ·exact ((h.pd.alloc o).grown hg hge (fun g hg=>by have:=hB g hg;omega) (by omega)).setOther (B:=w.heap.size) hB hP (by simp;omega) _
 ·exact (((h.kept.alloc o).grown hg (fun k hk=>by have:=hge k hk;omega)).jm (by simp;omega) _)
theorem kjw.more2 {w:World}{P:Nat}{v:Value}{L:List Tok}{B0 B1:Nat}{x0 x1 x2 x3 x4 y:Value}{m:MdL}{s:RS}{wx wy:World}{e:VrT}{o:Obj}(h:kjw w P v L B0 B1 x0 x1 x2 x3 x4 m s wx)(hg:(wx.alloc o).grownBy wy x2.ownBlock)
  (hown:wy.ownsRow (B1+1) 121 10 y (m.vars.length+1) (jju m.vars++kqx e)) (hB:∀ g,v.ownBlock=some g→g<w.heap.size) (hP:P<w.heap.size) (hB0:w.heap.size=B0) (hB1:B0<B1):kjw w P v L B0 B1 x0 x1 y x3 x4 { m with vars:=m.vars++[e] } s (wy.setCell ⟨B1,2,none⟩ y):=by
 subst hB0;obtain ⟨h0,⟨c1,h1,k1⟩,h2,⟨c3,h3,k3⟩,⟨c4,h4,k4⟩⟩:=h.md;have hv:(wx.alloc o).ownsRow (B1+1) 121 10 x2 _ _:=h2.alloc o;have al:∀ k,B1+1≤k→k<wx.heap.size→(wx.alloc o).heap[k]?=wx.heap[k]?:=fun k _ hk=>nY _ _ _ hk
 have st:∀ k,B1+1≤k→k<wy.heap.size→(wy.setCell ⟨B1,2,none⟩ y).heap[k]?=wy.heap[k]?:=fun k hk _=>wP _ _ _ _ (by simp;omega)
 have hge:=vg h2;have l0:=wZ h.b0;have l1:=wZ h.b1;have e0:wy.heap[w.heap.size]?=wx.heap[w.heap.size]?:=(hg.block _ (by simp;omega) (fun e=>by have:=hge _ e.symm;omega)).trans (nY _ _ _ l0);have e1:wy.heap[B1]?=wx.heap[B1]?:=(hg.block _ (by simp;omega) (fun e=>by have:=hge _ e.symm;omega)).trans (nY _ _ _ l1);refine ⟨by rw[wP _ _ _ _ (by simp;omega),e0];exact h.b0,heap_setCell_same _ _ 2 _ _ _ (e1.trans h.b1),?_,?_,?_⟩
 ·refine ⟨?_,?_,?_,?_,?_⟩
  ·exact jv st (xu (h0.alloc o) hv (by decide) hg)
  ·exact ⟨c1,jv st (xu (h1.alloc o) hv (by decide) hg),(kx1.grown hv (by decide) hg (k1.stay al)).stay st⟩
  ·simp only;rw[jv8,wB];exact jv st hown
  ·exact ⟨c3,jv st (xu (h3.alloc o) hv (by decide) hg),(kze.grown hv (by decide) (by decide) (by decide) hg (k3.stay al)).stay st⟩
  ·exact ⟨c4,jv st (xu (h4.alloc o) hv (by decide) hg),(kzi.grown hv (by decide) (by decide) hg (k4.stay al)).stay st⟩
 ·exact ((h.pd.alloc o).grown hg hge (fun g hg=>by have:=hB g hg;omega) (by omega)).setOther (B:=w.heap.size) hB hP (by simp;omega) _
 ·exact (((h.kept.alloc o).grown hg (fun k hk=>by have:=hge k hk;omega)).jm (by simp;omega) _)
theorem kjw.more3 {w:World}{P:Nat}{v:Value}{L:List Tok}{B0 B1:Nat}{x0 x1 x2 x3 x4 y:Value}{m:MdL}{s:RS}{wx wy:World}{e:PRule}{o:Obj}(h:kjw w P v L B0 B1 x0 x1 x2 x3 x4 m s wx)(hg:(wx.alloc o).grownBy wy x3.ownBlock)
  {cs ds:List Value} (hown:wy.ownsRow (B1+1) 127 5 y (m.rules.length+1) (cs++ds)) (hin:kze (B1+1) wx m.rules cs) (hnew:kze (B1+1) wx [e] ds) (hB:∀ g,v.ownBlock=some g→g<w.heap.size) (hP:P<w.heap.size) (hB0:w.heap.size=B0) (hB1:B0<B1):kjw w P v L B0 B1 x0 x1 x2 y x4 { m with rules:=m.rules++[e] } s (wy.setCell ⟨B1,3,none⟩ y):=by
 subst hB0;obtain ⟨h0,⟨c1,h1,k1⟩,h2,⟨c3,h3,k3⟩,⟨c4,h4,k4⟩⟩:=h.md;have hv:(wx.alloc o).ownsRow (B1+1) 127 5 x3 _ _:=h3.alloc o;have al:∀ k,B1+1≤k→k<wx.heap.size→(wx.alloc o).heap[k]?=wx.heap[k]?:=fun k _ hk=>nY _ _ _ hk
 have st:∀ k,B1+1≤k→k<wy.heap.size→(wy.setCell ⟨B1,3,none⟩ y).heap[k]?=wy.heap[k]?:=fun k hk _=>wP _ _ _ _ (by simp;omega)
 have hge:=vg h3;have l0:=wZ h.b0;have l1:=wZ h.b1;have e0:wy.heap[w.heap.size]?=wx.heap[w.heap.size]?:=(hg.block _ (by simp;omega) (fun e=>by have:=hge _ e.symm;omega)).trans (nY _ _ _ l0);have e1:wy.heap[B1]?=wx.heap[B1]?:=(hg.block _ (by simp;omega) (fun e=>by have:=hge _ e.symm;omega)).trans (nY _ _ _ l1);refine ⟨by rw[wP _ _ _ _ (by simp;omega),e0];exact h.b0,heap_setCell_same _ _ 3 _ _ _ (e1.trans h.b1),?_,?_,?_⟩
 ·refine ⟨?_,?_,?_,?_,?_⟩
  ·exact jv st (xu (h0.alloc o) hv (by decide) hg)
  ·exact ⟨c1,jv st (xu (h1.alloc o) hv (by decide) hg),(kx1.grown hv (by decide) hg (k1.stay al)).stay st⟩
  ·exact jv st (xu (h2.alloc o) hv (by decide) hg)
  ·exact ⟨cs++ds,by simp only;rw[wB];exact jv st hown,(kze.grown hv (by decide) (by decide) (by decide) hg ((hin.app hnew).stay al)).stay st⟩
  ·exact ⟨c4,jv st (xu (h4.alloc o) hv (by decide) hg),(kzi.grown hv (by decide) (by decide) hg (k4.stay al)).stay st⟩
 ·exact ((h.pd.alloc o).grown hg hge (fun g hg=>by have:=hB g hg;omega) (by omega)).setOther (B:=w.heap.size) hB hP (by simp;omega) _
 ·exact (((h.kept.alloc o).grown hg (fun k hk=>by have:=hge k hk;omega)).jm (by simp;omega) _)
theorem kjw.more4 {w:World}{P:Nat}{v:Value}{L:List Tok}{B0 B1:Nat}{x0 x1 x2 x3 x4 y:Value}{m:MdL}{s:RS}{wx wy:World}{e:PRule}{o:Obj}(h:kjw w P v L B0 B1 x0 x1 x2 x3 x4 m s wx)(hg:(wx.alloc o).grownBy wy x4.ownBlock)
  {cs ds:List Value} (hown:wy.ownsRow (B1+1) 130 4 y (m.nevers.length+1) (cs++ds)) (hin:kzi (B1+1) wx m.nevers cs) (hnew:kzi (B1+1) wx [e] ds) (hB:∀ g,v.ownBlock=some g→g<w.heap.size) (hP:P<w.heap.size) (hB0:w.heap.size=B0) (hB1:B0<B1):kjw w P v L B0 B1 x0 x1 x2 x3 y { m with nevers:=m.nevers++[e] } s (wy.setCell ⟨B1,4,none⟩ y):=by
 subst hB0;obtain ⟨h0,⟨c1,h1,k1⟩,h2,⟨c3,h3,k3⟩,⟨c4,h4,k4⟩⟩:=h.md;have hv:(wx.alloc o).ownsRow (B1+1) 130 4 x4 _ _:=h4.alloc o;have al:∀ k,B1+1≤k→k<wx.heap.size→(wx.alloc o).heap[k]?=wx.heap[k]?:=fun k _ hk=>nY _ _ _ hk
 have st:∀ k,B1+1≤k→k<wy.heap.size→(wy.setCell ⟨B1,4,none⟩ y).heap[k]?=wy.heap[k]?:=fun k hk _=>wP _ _ _ _ (by simp;omega)
 have hge:=vg h4;have l0:=wZ h.b0;have l1:=wZ h.b1;have e0:wy.heap[w.heap.size]?=wx.heap[w.heap.size]?:=(hg.block _ (by simp;omega) (fun e=>by have:=hge _ e.symm;omega)).trans (nY _ _ _ l0);have e1:wy.heap[B1]?=wx.heap[B1]?:=(hg.block _ (by simp;omega) (fun e=>by have:=hge _ e.symm;omega)).trans (nY _ _ _ l1);refine ⟨by rw[wP _ _ _ _ (by simp;omega),e0];exact h.b0,heap_setCell_same _ _ 4 _ _ _ (e1.trans h.b1),?_,?_,?_⟩
 ·refine ⟨?_,?_,?_,?_,?_⟩
  ·exact jv st (xu (h0.alloc o) hv (by decide) hg)
  ·exact ⟨c1,jv st (xu (h1.alloc o) hv (by decide) hg),(kx1.grown hv (by decide) hg (k1.stay al)).stay st⟩
  ·exact jv st (xu (h2.alloc o) hv (by decide) hg)
  ·exact ⟨c3,jv st (xu (h3.alloc o) hv (by decide) hg),(kze.grown hv (by decide) (by decide) (by decide) hg (k3.stay al)).stay st⟩
  ·exact ⟨cs++ds,by simp only;rw[wB];exact jv st hown,(kzi.grown hv (by decide) (by decide) hg ((hin.app hnew).stay al)).stay st⟩
 ·exact ((h.pd.alloc o).grown hg hge (fun g hg=>by have:=hB g hg;omega) (by omega)).setOther (B:=w.heap.size) hB hP (by simp;omega) _
 ·exact (((h.kept.alloc o).grown hg (fun k hk=>by have:=hge k hk;omega)).jm (by simp;omega) _)
def gy (a b:Int):Int:=if a<0∨(0≤b∧b<a) then b else a
def ji:List ByteArray→List UInt8→Int
 | [],_=>-1
 | t::l,s=>if t.toList==s then 0 else if ji l s<0 then -1 else ji l s+1
theorem kjj {α:Type}(f:α→List Value)(n:Nat)(hf:∀ x,(f x).length=n):∀ (l:List α) (i j:Nat) (hi:i<l.length),j<n→(l.flatMap f)[i * n+j]?=(f l[i])[j]?
 | [],i,_,hi,_=>by simp at hi
 | a::l,0,j,_,hj=>by
  simp only[lD,Nat.zero_mul,lU,fG];rw[lX (by rw[hf];exact hj)]
 | a::l,i+1,j,hi,hj=>by
  have ih:=kjj f n hf l i j (by simpa using hi) hj;simp only[lD,Qd];rw[rU (by rw[hf,Nat.succ_mul];omega),hf,show (i+1) * n+j-n=i * n+j by rw[Nat.succ_mul];omega];exact ih
def kj4 (t:PTree):List ByteArray:=t.sets.map (fun s=>s.name.text)
def kjl (t:PTree):List ByteArray:=t.kinds.map (fun s=>s.name.text)
def gq (t:PTree):List ByteArray:=t.vars.map (fun s=>s.name.text)
def kvh (k:PKind):List ByteArray:=k.members.map (fun m=>m.text)
def ky4:List PKind→List UInt8→Int × Int
 | [],_=>(-1,-1)
 | k::ks,s=>if 0≤ji (kvh k) s then (0,ji (kvh k) s) else if (ky4 ks s).1<0 then (-1,-1) else ((ky4 ks s).1+1,(ky4 ks s).2)
def zj9 (l:List PP):List ByteArray:=l.map (fun p=>p.name.text)
theorem kz6 {P:Program}{w:World}{ops:Array Oper}{rest:List Oper}{o:Oper}{a:Act}{Q:Exit→Act→World→Prop}(hgd:o.guard=none)(s x:Operand)(t:TypeId)
  (ho:o.op=.call { callee:=.builtin .append,args:=#[s,x],argTypes:=#[t,t] })
  (base:Nat) (e:TypeId) (i:TypeInfo) (z:Value) (size bytes:Nat) (ht:P.underlying t=some (.slice e)) (hi:P.info? e=some i) (hz:i.zero=some z)
  (hsize:i.size=size) (hby:i.bytes=bytes) (hzs:z.cells.size=size) (hsz:0<size)
  (v:Value) (n:Nat) (xs:List Value) (hs:a.eval s=v) (hown:w.ownsRow base e size v n xs)
  (u:Value) (m:Nat) (ys:List Value) (lo:Nat) (hx:a.eval x=u) (hsrc:w.ownsRow lo e size u m ys) (h1:∀ y∈ys,y.oneCell'=true)
  (h63:n+m≤maxLen) (hbytes:(n+m) * bytes≤140737488355328) (hbase:base≤w.heap.size)
  (h:∀ v' w',w'.ownsRow base e size v' (n+m) (xs++ys)→w.grownBy w' v.ownBlock→(v'.ownBlock=v.ownBlock∨v'.ownBlock=some w.heap.size)→wpList P ops Q rest (a.put o.dst v') w') :
  wpList P ops Q (o::rest) a w:=by
 have hl:=hsrc.1;rcases hsrc.2 with ⟨rfl,rfl⟩|⟨g,cap,cur,rfl,hg,hh,h3,h4,h5,h6⟩
 ·have hy:ys=[]:=by
   rw[Nat.zero_mul] at hl;exact sG hl
  subst hy;refine wpList_append_own_none hgd s x t ho base e i size ht hi v n xs hs hown hx (h v w ?_ ⟨rfl,rfl,rfl,wX _,fun _ _ _=>rfl⟩ (Or.inl rfl));rw[lq];exact hown
 ·refine nC w hgd s x t ho base e i z size bytes ht hi hz hsize hby hzs hsz v n xs hs hown ⟨g,0,none⟩ m cap ys hx hl ?_ h1 h63 hbytes hbase (fun v' w' k1 k2 k3 k4=>h v' w' k1 k2 k4);intro j y hj;rw[show ((⟨g,0,none⟩:Addr).add j)=⟨g,j,none⟩ from by simp[Addr.add];intro h;exact h.symm,sU w g j _ _ _ hh];have hjl:j<m * size:=by
   rw[←hl];rcases Qk j ys.length with h|h
   ·exact h
   ·rw[nZ h] at hj;cases hj
  rw[←h6,lg hjl] at hj;simpa using hj
def ownNames (x:ELab):List Tok:=if x.op.toList==[112,108,97,99,101] then (if x.index.kind.toList==[110,97,109,101] then [x.name,x.index] else [x.name]) else []
def dh:PX→List Tok
 | .nil=>[]
 | .node _ _ x a b=>(ownNames x++dh a)++dh b
def vkh:ByteArray:=⟨#[]⟩
def qw9 (t:PTree)(l:List PP)(s:List UInt8):Bool:=decide (0≤(ky4 t.kinds s).1)||decide (0≤ji (gq t) s)||decide (0≤ji (zj9 l) s)
def qzq (op:ByteArray):Bool:=(op.toList==[116,114,117,101])||(op.toList==[102,97,108,115,101])||(op.toList==[110,111,110,101])||(op.toList==[100,105,103,105,116])||(op.toList==[112,108,97,99,101])
def isNil:PX→Bool
 | .nil=>true
 | _=>false
def XOk:PX→Prop
 | .nil=>True
 | .node _ _ x a b=>(qzq x.op=true∨isNil a=false)∧XOk a∧XOk b
def qyi:PX→ByteArray
 | .nil=>vkh
 | .node _ _ x _ _=>x.name.text
def kyt:PB→Nat
 | .nil=>0
 | .node _ _ _ _ n=>kyt n+1
def kws (a:SLab):List Tok:=(dh a.place++dh a.value)++dh a.cond
def kq0:PB→List Tok
 | .nil=>[]
 | .node _ _ a .nil n=>kws a++kq0 n
 | .node _ _ a (.node _ _ _ t e) n=>((kws a++kq0 t)++kq0 e)++kq0 n
def zv9 (s:PSet):List Tok:=[s.name]
def kk2 (k:PKind):List Tok:=k.name::k.members
def jyj (v:PVar):List Tok:=[v.name]
def zqh (r:PRule):List Tok:=[r.name]
def zkp (t:PTree):List Tok:=t.sets.flatMap zv9
def zz0 (t:PTree):List Tok:=zkp t++t.kinds.flatMap kk2
def qyx (t:PTree):List Tok:=zz0 t++t.vars.flatMap jyj
def zf (t:PTree):List Tok:=qyx t++(t.rules++t.nevers).flatMap zqh
def qkc (L:List Tok):Prop:=∀ i,i<L.length→((tk L i).kind.toList==[101,110,100])=false→i+1<L.length
theorem pq.qxy {L:List Tok}(h:pq L):qkc L:=by
 intro i hi hk;have hp:=h.pos;by_cases e:i+1<L.length
 ·exact e
 ·have:i=L.length-1:=by omega
  subst this;rw[h.last] at hk;cases hk
def jc (L:List Tok):Nat→Nat→List Tok→Prop
 | a,b,[]=>a≤b
 | a,b,t::l=>∃ i,a≤i∧i<L.length∧t=tk L i∧(t.kind.toList==[110,97,109,101])=true∧jc L (i+1) b l
theorem jc.le {L:List Tok}:∀ {l:List Tok} {a b:Nat},jc L a b l→a+l.length≤b
 | [],a,b,h=>h
 | t::l,a,b,⟨i,h1,_,_,_,h⟩=>by have:=h.le;simp;omega
theorem jc.low {L:List Tok}{a a' b:Nat}(ha:a'≤a):∀ {l:List Tok},jc L a b l→jc L a' b l
 | [],h=>rQ ha h
 | t::l,⟨i,h1,h⟩=>⟨i,rQ ha h1,h⟩
theorem jc.high {L:List Tok}{b b':Nat}(hb:b≤b'):∀ {l:List Tok} {a:Nat},jc L a b l→jc L a b' l
 | [],a,h=>rQ h hb
 | t::l,a,⟨i,h1,h2,h3,h4,h⟩=>⟨i,h1,h2,h3,h4,h.high hb⟩
theorem jc.app {L:List Tok}{b c:Nat}{m:List Tok}(hm:jc L b c m):∀ {l:List Tok} {a:Nat},jc L a b l→jc L a c (l++m)
 | [],a,h=>hm.low h
 | t::l,a,⟨i,h1,h2,h3,h4,h⟩=>⟨i,h1,h2,h3,h4,jc.app hm h⟩
theorem jc.mem {L:List Tok}:∀ {l:List Tok} {a b:Nat},jc L a b l→∀ t∈l,t∈L∧(t.kind.toList==[110,97,109,101])=true
 | [],_,_,_,t,ht=>by simp at ht
 | u::l,a,b,⟨i,h1,h2,h3,h4,h⟩,t,ht=>by
  rcases tX.mp ht with rfl|ht
  ·exact ⟨h3 ▸ vkw h2,h4⟩
  ·exact h.mem t ht
theorem jc.ats {L:List Tok}(hL:L.Pairwise (fun a b=>a.at_<b.at_)):∀ {l:List Tok} {a b:Nat},jc L a b l→(∀ t∈l,∀ i,i<a→i<L.length→(tk L i).at_<t.at_)∧l.Pairwise (fun a b=>a.at_<b.at_)
 | [],_,_,_=>⟨fun t ht=>by simp at ht,List.Pairwise.nil⟩
 | u::l,a,b,⟨i,h1,h2,h3,h4,h⟩=>by
  obtain ⟨g1,g2⟩:=h.ats hL;have lt:∀ i j,i<j→j<L.length→(tk L i).at_<(tk L j).at_:=by
   intro i j hij hj;have e:∀ k,k<L.length→tk L k=L.getD k (kzw 0):=fun k hk=>rfl
   have hi:i<L.length:=by omega
   have:=Qm.mp hL i j hi hj hij;unfold tk;rw[show L.getD i (kzw 0)=L[i] by simp[List.getD,hi],show L.getD j (kzw 0)=L[j] by simp[List.getD,hj]];exact this
  refine ⟨?_,Q7.mpr ⟨fun t ht=>?_,g2⟩⟩
  ·intro t ht k hk hkl;rcases tX.mp ht with rfl|ht
   ·rw[h3];exact lt k i (by omega) h2
   ·exact g1 t ht k (by omega) hkl
  ·rw[h3];exact g1 t ht i (by omega) h2
theorem jk8 {L:List Tok}{s:List UInt8}{st:RS}(hF:qkc L)(hl:st.at_<L.length)(hn:zq L s st=true):st.bad=false∧st.at_+1<L.length:=by
 unfold zq qz4 at hn;simp only[wG,lY,lQ] at hn;refine ⟨hn.1.1,hF _ hl ?_⟩;rcases hn.1.2 with e|e<;>(rw[rZ] at e;rw[e];rfl)
theorem jl {L:List Tok}{s:List UInt8}{st:RS}(hF:qkc L)(hl:st.at_<L.length)(h:(qp L s st).bad=false):st.bad=false∧(qp L s st).at_=st.at_+1∧(qp L s st).at_<L.length:=by
 have h1:=qji h;have hn:zq L s st=true:=by
  cases hn:zq L s st
  ·unfold qp at h;rw[hn] at h;simp at h
  ·rfl
 have:=jk8 hF hl hn;exact ⟨this.1,h1,by omega⟩
theorem kqi {L:List Tok}{s:List UInt8}{st:RS}(hF:qkc L)(hl:st.at_<L.length)(hs:(s==[101,110,100])=false)(h:(qh L s st).2.bad=false) :
  st.bad=false∧(qh L s st).1=tk L st.at_∧((tk L st.at_).kind.toList==s)=true∧(qh L s st).2.at_=st.at_+1∧(qh L s st).2.at_<L.length:=by
 have h1:=zy6 h;have hn:kqk L s st=true:=by
  cases hn:kqk L s st
  ·unfold qh at h;rw[hn] at h;simp at h
  ·rfl
 have e:(qh L s st).1=tk L st.at_:=by unfold qh;rw[hn];rfl
 unfold kqk at hn;simp only[wG,lQ] at hn;have hk:=hn.2;have:st.at_+1<L.length:=hF _ hl (by rw[rZ] at hk;rw[hk];exact hs);exact ⟨hn.1,e,hk,h1,by omega⟩
theorem qj0 (o:ByteArray)(a b:PX)(ho:(o.toList==[112,108,97,99,101])=false):dh (opX o a b)=dh a++dh b:=by
 show (ownNames _++dh a)++dh b=_;unfold ownNames;rw[ho];rfl
theorem jj1 {n:Nat}{t:Tok}(h:kxd n t=true):(t.text.toList==[112,108,97,99,101])=false∧qzq t.text=false:=by
 unfold kxd at h;rw[wG] at h;have h1:=h.1;rw[l9] at h1;obtain ⟨s,hs,e⟩:=h1;rw[rZ] at e;unfold qzq;rw[←e];have all:∀ n,∀ s∈kvo n,s.toList=[124]∨s.toList=[38]∨s.toList=[61,61]∨s.toList=[33,61]∨s.toList=[60]∨s.toList=[43]∨s.toList=[45]:=by
  intro n s hs;have:∀ l:List UInt8,(⟨l.toArray⟩:ByteArray).toList=l:=zh;rcases n with _|_|_|n<;>simp only[kvo,tX,nM,or_false] at hs
  ·subst hs;exact Or.inl (this [124])
  ·subst hs;exact Or.inr (Or.inl (this [38]))
  ·rcases hs with rfl|rfl|rfl
   ·exact Or.inr (Or.inr (Or.inl (this [61,61])))
   ·exact Or.inr (Or.inr (Or.inr (Or.inl (this [33,61]))))
   ·exact Or.inr (Or.inr (Or.inr (Or.inr (Or.inl (this [60])))))
  ·rcases hs with rfl|rfl
   ·exact Or.inr (Or.inr (Or.inr (Or.inr (Or.inr (Or.inl (this [43]))))))
   ·exact Or.inr (Or.inr (Or.inr (Or.inr (Or.inr (Or.inr (this [45]))))))
 rcases all n s hs with e|e|e|e|e|e|e<;>rw[e]<;>decide
theorem jx8 {t:Tok}(h:isConst t=true):(t.text.toList==[112,108,97,99,101])=false∧qzq t.text=true:=by
 unfold isConst at h;rw[wG] at h;have h1:=h.2;unfold qzq;simp only[lY,rZ] at h1;rcases h1 with (e|e)|e<;>rw[e]<;>decide
theorem zj4 {L:List Tok}{st:RS}(hF:qkc L)(hl:st.at_<L.length)(h:(uj L st).2.bad=false) :
  st.bad=false∧XOk (uj L st).1∧isNil (uj L st).1=false∧(uj L st).2.at_<L.length∧jc L st.at_ (uj L st).2.at_ (dh (uj L st).1):=by
 have hlf:qzq kv0=true:=by
  unfold qzq;rw[show kv0.toList=[112,108,97,99,101] from zh _];rfl
 have hpl:(kv0.toList==[112,108,97,99,101])=true:=by rw[show kv0.toList=[112,108,97,99,101] from zh _];rfl
 unfold uj at h ⊢;simp only at h ⊢;by_cases hn:zq L [91] (qh L [110,97,109,101] st).2=true
 ·rw[if_pos hn] at h ⊢;simp only at h ⊢;have n1:=fun hl=>jk8 hF hl hn
  have hk:(qh L [110,97,109,101] st).2.bad=false:=by
   cases hb:(qh L [110,97,109,101] st).2.bad
   ·rfl
   ·rw[uy hb] at hn;cases hn
  obtain ⟨a1,a2,a3,a4,a5⟩:=kqi hF hl rfl hk;have hk2:(qh L [110,97,109,101] (qp L [91] (qh L [110,97,109,101] st).2)).2.bad=false:=by
   cases hb:(qh L [110,97,109,101] (qp L [91] (qh L [110,97,109,101] st).2)).2.bad
   ·rfl
   ·rw[kjn hb] at h;cases h
  have hm:(qp L [91] (qh L [110,97,109,101] st).2).bad=false:=by
   cases hb:(qp L [91] (qh L [110,97,109,101] st).2).bad
   ·rfl
   ·rw[qvo hb] at hk2;cases hk2
  obtain ⟨b1,b2,b3⟩:=jl hF a5 hm;obtain ⟨c1,c2,c3,c4,c5⟩:=kqi hF b3 rfl hk2;obtain ⟨d1,d2,d3⟩:=jl hF c5 h;refine ⟨a1,⟨Or.inl hlf,trivial,trivial⟩,rfl,d3,?_⟩;rw[show dh (.node 0 0 { op:=kv0,name:=(qh L [110,97,109,101] st).1,index:=(qh L [110,97,109,101] (qp L [91] (qh L [110,97,109,101] st).2)).1,n:=0 } .nil .nil)=[tk L st.at_,tk L (qp L [91] (qh L [110,97,109,101] st).2).at_] by
   simp only[dh,ownNames];rw[hpl,a2,c2,c3];rfl]
  exact ⟨st.at_,wX _,hl,rfl,a3,_,by omega,b3,rfl,c3,by show _≤_;omega⟩
 ·rw[if_neg hn] at h ⊢;simp only at h ⊢;obtain ⟨a1,a2,a3,a4,a5⟩:=kqi hF hl rfl h;refine ⟨a1,⟨Or.inl hlf,trivial,trivial⟩,rfl,a5,?_⟩;rw[show dh (.node 0 0 { op:=kv0,name:=(qh L [110,97,109,101] st).1,index:=jy,n:=0 } .nil .nil)=[tk L st.at_] by
   simp only[dh,ownNames];rw[hpl,a2,show (jy.kind.toList==[110,97,109,101])=false by rw[show jy.kind.toList=[] from zh _];rfl];rfl]
  exact ⟨st.at_,wX _,hl,rfl,a3,by show _≤_;omega⟩
def ndC (tag:Nat):Nat:=if tag<10 then 7-tag else if tag<20 then 1 else 2
def zj0 (tag:Nat)(x:PX):List Tok:=if 10≤tag∧tag<20 then dh x else []
theorem vq6 (L:List Tok)(hF:qkc L):∀ (f tag:Nat) (x:PX) (st:RS),(tag≤4∨(10≤tag∧tag≤13)∨(20≤tag∧tag≤32))→8 * (L.length-st.at_)+ndC tag≤f→st.at_<L.length →
  (10≤tag→tag<20→isNil x=false∧XOk x)→(rX f tag x L st).2.bad=false →
  st.bad=false∧XOk (rX f tag x L st).1∧isNil (rX f tag x L st).1=false∧(rX f tag x L st).2.at_<L.length∧∃ l,dh (rX f tag x L st).1=zj0 tag x++l∧jc L st.at_ (rX f tag x L st).2.at_ l
 | 0,tag,x,st,ht,hf,hl,hx,h=>by exfalso;unfold ndC at hf;split at hf<;>(try split at hf)<;>omega
 | f+1,tag,x,st,ht,hf,hl,hx,h=>by
  have ih:=vq6 L hF f;have hb:st.bad=false:=by
   cases hb:st.bad
   ·rfl
   ·rw[kqm hb] at h;rw[hb] at h;cases h
  refine ⟨hb,?_⟩;have hbf:¬st.bad=true:=by rw[hb];simp
  rw[rX] at h ⊢;by_cases t4:tag<4
  ·rw[if_pos t4,if_neg hbf] at h ⊢;have nd:ndC tag=7-tag:=by unfold ndC;rw[if_pos (by omega)]
   have h1:(rX f (tag+1) .nil L st).2.bad=false:=by
    cases hb1:(rX f (tag+1) .nil L st).2.bad
    ·rfl
    ·rw[kqm hb1,hb1] at h;cases h
   obtain ⟨a1,a2,a3,a4,l1,a5,a6⟩:=ih (tag+1) .nil st (Or.inl (by omega)) (by rw[show ndC (tag+1)=7-(tag+1) by unfold ndC;rw[if_pos (by omega)]];omega) hl (fun h1 h2=>by omega) h1;have le1:=a6.le;obtain ⟨b1,b2,b3,b4,l2,b5,b6⟩:=ih (10+tag) (rX f (tag+1) .nil L st).1 (rX f (tag+1) .nil L st).2 (Or.inr (Or.inl ⟨by omega,by omega⟩)) (by rw[show ndC (10+tag)=1 by unfold ndC;rw[if_neg (by omega),if_pos (by omega)]];omega) a4 (fun _ _=>⟨a3,a2⟩) h;refine ⟨b2,b3,b4,l1++l2,?_,b6.app a6⟩;rw[b5];simp only[zj0];rw[if_pos ⟨by omega,by omega⟩,if_neg (by omega),a5];simp only[zj0];rw[if_neg (by omega)];simp
  ·rw[if_neg t4] at h ⊢;by_cases t10:tag<10
   ·rw[if_pos t10,if_neg hbf] at h ⊢;have t:tag=4:=by omega
    subst t;have nd:ndC 4=3:=rfl;obtain ⟨a1,a2,a3,a4,l1,a5,a6⟩:=ih 20 .nil st (Or.inr (Or.inr ⟨by omega,by omega⟩)) (by show _+2≤f;omega) hl (fun h1 h2=>by omega) h;exact ⟨a2,a3,a4,l1,a5,a6⟩
   ·rw[if_neg t10] at h ⊢;by_cases t20:tag<20
    ·rw[if_pos t20,if_neg hbf] at h ⊢;obtain ⟨x1,x2⟩:=hx (by omega) t20;have pr:zj0 tag x=dh x:=by unfold zj0;rw[if_pos ⟨by omega,t20⟩]
     have nd:ndC tag=1:=by unfold ndC;rw[if_neg (by omega),if_pos (by omega)]
     by_cases hbin:kxd (tag-10) (tk L st.at_)=true
     ·rw[if_pos hbin] at h ⊢;obtain ⟨np,lf⟩:=jj1 hbin;have hsg:st.at_+1<L.length:=hF _ hl (by
       unfold kxd at hbin;rw[wG] at hbin;have:=hbin.2;rw[rZ] at this;rw[this];rfl)
      have nd':ndC (tag-9)=7-(tag-9):=by unfold ndC;rw[if_pos (by omega)]
      have sub:(rX f (tag-9) .nil L { st with at_:=st.at_+1 }).2.bad=false→XOk (rX f (tag-9) .nil L { st with at_:=st.at_+1 }).1∧isNil (rX f (tag-9) .nil L { st with at_:=st.at_+1 }).1=false∧(rX f (tag-9) .nil L { st with at_:=st.at_+1 }).2.at_<L.length ∧
        ∃ l,dh (rX f (tag-9) .nil L { st with at_:=st.at_+1 }).1=l∧jc L (st.at_+1) (rX f (tag-9) .nil L { st with at_:=st.at_+1 }).2.at_ l:=by
       intro h1;obtain ⟨a1,a2,a3,a4,l1,a5,a6⟩:=ih (tag-9) .nil { st with at_:=st.at_+1 } (Or.inl (by omega)) (by rw[nd'];simp only;omega) hsg (fun h1 h2=>by omega) h1;refine ⟨a2,a3,a4,l1,?_,a6⟩;rw[a5];unfold zj0;rw[if_neg (by omega)];rfl
      by_cases t12:tag=12
      ·rw[if_pos t12] at h ⊢;simp only at h ⊢;obtain ⟨a2,a3,a4,l1,a5,a6⟩:=sub h;refine ⟨⟨Or.inr x1,x2,a2⟩,rfl,a4,l1,?_,a6.low (by omega)⟩;rw[qj0 _ _ _ np,a5,pr]
      ·rw[if_neg t12] at h ⊢;have h1:(rX f (tag-9) .nil L { st with at_:=st.at_+1 }).2.bad=false:=by
        cases hb1:(rX f (tag-9) .nil L { st with at_:=st.at_+1 }).2.bad
        ·rfl
        ·rw[kqm hb1,hb1] at h;cases h
       obtain ⟨a2,a3,a4,l1,a5,a6⟩:=sub h1;have le1:=a6.le;obtain ⟨b1,b2,b3,b4,l2,b5,b6⟩:=ih tag (opX (tk L st.at_).text x (rX f (tag-9) .nil L { st with at_:=st.at_+1 }).1) (rX f (tag-9) .nil L { st with at_:=st.at_+1 }).2 (Or.inr (Or.inl ⟨by omega,by omega⟩)) (by rw[nd];omega) a4 (fun _ _=>⟨rfl,⟨Or.inr x1,x2,a2⟩⟩) h;refine ⟨b2,b3,b4,l1++l2,?_,b6.app (a6.low (by omega))⟩;rw[b5];rw[show zj0 tag (opX (tk L st.at_).text x (rX f (tag-9) .nil L { st with at_:=st.at_+1 }).1)=dh (opX (tk L st.at_).text x (rX f (tag-9) .nil L { st with at_:=st.at_+1 }).1) by unfold zj0;rw[if_pos ⟨by omega,t20⟩],qj0 _ _ _ np,a5,pr,tK]
     ·rw[if_neg hbin] at h ⊢;exact ⟨x2,x1,hl,[],by rw[pr,lq],wX _⟩
    ·rw[if_neg t20,if_neg hbf] at h ⊢;have pr:zj0 tag x=[]:=by unfold zj0;rw[if_neg (by omega)]
     have nd:ndC tag=2:=by unfold ndC;rw[if_neg (by omega),if_neg (by omega)]
     by_cases n33:zq L [33] st=true
     ·rw[if_pos n33] at h ⊢;by_cases t32:tag=32
      ·rw[if_pos t32] at h;simp at h
      ·rw[if_neg t32] at h ⊢;simp only at h ⊢;have h1:(qp L [33] st).bad=false:=by
        cases hb1:(qp L [33] st).bad
        ·rfl
        ·rw[kqm hb1,hb1] at h;cases h
       obtain ⟨m1,m2,m3⟩:=jl hF hl h1;obtain ⟨a1,a2,a3,a4,l1,a5,a6⟩:=ih (tag+1) .nil (qp L [33] st) (Or.inr (Or.inr ⟨by omega,by omega⟩)) (by rw[show ndC (tag+1)=2 by unfold ndC;rw[if_neg (by omega),if_neg (by omega)]];omega) m3 (fun h1 h2=>by omega) h;refine ⟨⟨Or.inr a3,a2,trivial⟩,rfl,a4,l1,?_,a6.low (by omega)⟩;rw[qj0 _ _ _ (by rw[show qwe.toList=[33] from zh _];rfl),a5,pr];simp only[zj0];rw[if_neg (by omega)];simp[dh]
     ·rw[if_neg n33] at h ⊢;by_cases n40:zq L [40] st=true
      ·rw[if_pos n40] at h ⊢;simp only at h ⊢;have h1:(rX f 0 .nil L (qp L [40] st)).2.bad=false:=by
        cases hb1:(rX f 0 .nil L (qp L [40] st)).2.bad
        ·rfl
        ·rw[kjn hb1] at h;cases h
       have h0:(qp L [40] st).bad=false:=by
        cases hb1:(qp L [40] st).bad
        ·rfl
        ·rw[kqm hb1,hb1] at h1;cases h1
       obtain ⟨m1,m2,m3⟩:=jl hF hl h0;obtain ⟨a1,a2,a3,a4,l1,a5,a6⟩:=ih 0 .nil (qp L [40] st) (Or.inl (by omega)) (by show _+7≤f;omega) m3 (fun h1 h2=>by omega) h1;obtain ⟨e1,e2,e3⟩:=jl hF a4 h;exact ⟨a2,a3,e3,l1,by rw[a5,pr];rfl,(a6.low (by omega)).high (by omega)⟩
      ·rw[if_neg n40] at h ⊢;by_cases hc:isConst (tk L st.at_)=true
       ·rw[if_pos hc] at h ⊢;obtain ⟨np,lf⟩:=jx8 hc;have hsg:st.at_+1<L.length:=hF _ hl (by
         unfold isConst at hc;rw[wG] at hc;have:=hc.1;rw[rZ] at this;rw[this];rfl)
        refine ⟨⟨Or.inl lf,trivial,trivial⟩,rfl,hsg,[],?_,by show _≤_;simp⟩;rw[qj0 _ _ _ np,pr];rfl
       ·rw[if_neg hc] at h ⊢;by_cases hd:qv7 (tk L st.at_)=true
        ·rw[if_pos hd] at h ⊢;have hsg:st.at_+1<L.length:=hF _ hl (by
          unfold qv7 at hd;rw[rZ] at hd;rw[hd];rfl)
         have hk:qj6.toList=[100,105,103,105,116]:=zh _;refine ⟨⟨Or.inl (by unfold qzq;simp only;rw[hk];rfl),trivial,trivial⟩,rfl,hsg,[],?_,by show _≤_;simp⟩;rw[pr];show (ownNames _++_)++_=_;unfold ownNames;simp only;rw[hk];rfl
        ·rw[if_neg hd] at h ⊢;obtain ⟨p1,p2,p3,p4,p5⟩:=zj4 hF hl h;exact ⟨p2,p3,p4,_,by rw[pr];rfl,p5⟩
theorem vx3 {L:List Tok}(hF:qkc L){st:RS}(hl:st.at_<L.length)(h:(rX (uz L) 0 .nil L st).2.bad=false) :
  st.bad=false∧XOk (rX (uz L) 0 .nil L st).1∧isNil (rX (uz L) 0 .nil L st).1=false∧(rX (uz L) 0 .nil L st).2.at_<L.length∧jc L st.at_ (rX (uz L) 0 .nil L st).2.at_ (dh (rX (uz L) 0 .nil L st).1):=by
 obtain ⟨a1,a2,a3,a4,l,a5,a6⟩:=vq6 L hF (uz L) 0 .nil st (Or.inl (by omega)) (by show _+7≤_;unfold uz;omega) hl (fun h1 _=>by omega) h;exact ⟨a1,a2,a3,a4,by rw[a5];exact a6⟩
end Go.Proofs.YtpmcnonmkghokaaGreatDoor

import Derived.Test.YtpmcnonmkghokaaGreatDoorT03
set_option maxRecDepth 100000
set_option maxHeartbeats 4000000
set_option linter.unusedVariables false
set_option linter.unusedSimpArgs false
namespace Go.Proofs.YtpmcnonmkghokaaGreatDoor
open Go.RowKit
structure uo (lo:Nat)(w w':World):Prop where
 size:w.heap.size≤w'.heap.size
 block:∀ k,lo≤k→k<w.heap.size→w'.heap[k]?=w.heap[k]?
theorem uo.refl (lo:Nat)(w:World):uo lo w w:=⟨wW _,fun _ _ _=>rfl⟩
theorem uo.trans {lo:Nat}{a b c:World}(h:uo lo a b)(k:uo lo b c):uo lo a c:=
 ⟨rV h.size k.size,fun i h1 h2=>(k.block i h1 (lX h2 h.size)).trans (h.block i h1 h2)⟩
theorem uo.kept {lo P:Nat}{a w w':World}(h:uo lo a w)(hk:Kept P w w')(hP:P<lo):uo lo a w':=
 h.trans ⟨hk.size,fun k h1 h2=>hk.block k h2 (by omega)⟩
theorem uo.alloc {lo:Nat}{a w:World}(h:uo lo a w)(o:Obj):uo lo a (w.alloc o):=
 h.trans ⟨by simp,fun k _ h2=>nZ _ _ _ h2⟩
theorem uo.set {lo:Nat}{a w:World}(h:uo lo a w){p:Addr}(hp:p.block<lo∨a.heap.size≤p.block)(u:Value):uo lo a (w.setCell p u):=
 ⟨by simpa[World.setCell] using h.size,fun k h1 h2=>by rw[ru _ _ _ _ (by omega)];exact h.block k h1 h2⟩
theorem XIs.qxl {lo:Nat}{w w':World}{x:PX}{v:Value}(h:XIs lo w x v)(hs:uo lo w w'):XIs lo w' x v:=h.stay hs.block
def uz:PB→Nat
 | .nil=>0
 | .node _ _ _ _ n=>uz n+1
theorem qqy:∀ a b:PB,uz (kz8 a b)=uz a+uz b
 | .nil,b=>by simp[kz8,uz]
 | .node i j a s n,b=>by rw[kz8,uz,uz,qqy n b];omega
def plC:PX→List Value
 | .nil=>[.string ⟨#[]⟩,.int .i64 0,.bool false,.string ⟨#[]⟩,.int .i64 0]
 | .node _ _ x _ _=>[.string x.name.text,.int .i64 x.name.at_,.bool (!(x.index.kind.toList==[])),.string x.index.text,.int .i64 x.index.at_]
theorem vx9 (x:PX):(plC x).length=5:=by cases x<;>rfl
def stC (c:Bool)(a:SLab)(ve vt vl:Value):List Value:=.bool c::(plC a.place++[ve,vt,vl])
theorem kyk (c:Bool)(a:SLab)(ve vt vl:Value):(stC c a ve vt vl).length=9:=by simp[stC,vx9]
def BIs (lo:Nat)(no:Option Nat)(w:World):PB→List Value→Prop
 | .nil,cs=>cs=[]
 | .node _ _ a .nil n,cs=>∃ p rest,cs=stC false a (.pointer p) (.slice none 0 0) (.slice none 0 0)++rest∧XIs lo w a.value (.pointer p)∧BIs lo no w n rest
 | .node _ _ a (.node _ _ _ t e) n,cs=>∃ p ta tn tc ea en ec ct ce rest,cs=stC true a (.pointer p) (.slice ta tn tc) (.slice ea en ec)++rest∧XIs lo w a.cond (.pointer p) ∧
   (w.ownsRow lo 334 9 (.slice ta tn tc) (uz t) ct∧(∀ j,(Value.slice ta tn tc).ownBlock=some j→no≠some j)∧BIs lo no w t ct)∧(w.ownsRow lo 334 9 (.slice ea en ec) (uz e) ce∧(∀ j,(Value.slice ea en ec).ownBlock=some j→no≠some j)∧BIs lo no w e ce)∧BIs lo no w n rest
theorem BIs.len {lo:Nat}{no:Option Nat}{w:World}:∀ {b:PB} {cs:List Value},BIs lo no w b cs→cs.length=uz b * 9
 | .nil,cs,h=>by
  have:cs=[]:=h;subst this;rfl
 | .node _ _ a .nil n,cs,⟨p,rest,e,hx,hn⟩=>by rw[e,wU,kyk,hn.len,uz];omega
 | .node _ _ a (.node _ _ _ t e) n,cs,⟨p,ta,tn,tc,ea,en,ec,ct,ce,rest,e1,hx,ht,he,hn⟩=>by rw[e1,wU,kyk,hn.len,uz];omega
theorem BIs.stay {lo:Nat}{no:Option Nat}{w w':World}(hk:∀ k,lo≤k→k<w.heap.size→w'.heap[k]?=w.heap[k]?):∀ {b:PB} {cs:List Value},BIs lo no w b cs→BIs lo no w' b cs
 | .nil,_,h=>h
 | .node _ _ a .nil n,cs,⟨p,rest,e,hx,hn⟩=>⟨p,rest,e,hx.stay hk,BIs.stay hk hn⟩
 | .node _ _ a (.node _ _ _ t e) n,cs,⟨p,ta,tn,tc,ea,en,ec,ct,ce,rest,e1,hx,⟨ht1,ht3,ht2⟩,⟨he1,he3,he2⟩,hn⟩=>
  ⟨p,ta,tn,tc,ea,en,ec,ct,ce,rest,e1,hx.stay hk,⟨jv hk ht1,ht3,BIs.stay hk ht2⟩,⟨jv hk he1,he3,BIs.stay hk he2⟩,BIs.stay hk hn⟩
theorem BIs.qxl {lo:Nat}{no:Option Nat}{w w':World}{b:PB}{cs:List Value}(h:BIs lo no w b cs)(hs:uo lo w w'):BIs lo no w' b cs:=h.stay hs.block
theorem BIs.mono {lo lo':Nat}{no:Option Nat}{w:World}(hl:lo'≤lo):∀ {b:PB} {cs:List Value},BIs lo no w b cs→BIs lo' no w b cs
 | .nil,_,h=>h
 | .node _ _ a .nil n,cs,⟨p,rest,e,hx,hn⟩=>⟨p,rest,e,hx.mono hl,BIs.mono hl hn⟩
 | .node _ _ a (.node _ _ _ t e) n,cs,⟨p,ta,tn,tc,ea,en,ec,ct,ce,rest,e1,hx,⟨ht1,ht3,ht2⟩,⟨he1,he3,he2⟩,hn⟩=>
  ⟨p,ta,tn,tc,ea,en,ec,ct,ce,rest,e1,hx.mono hl,⟨zu hl ht1,ht3,BIs.mono hl ht2⟩,⟨zu hl he1,he3,BIs.mono hl he2⟩,BIs.mono hl hn⟩
theorem BIs.app {lo:Nat}{no:Option Nat}{w:World}:∀ {b c:PB} {cs ds:List Value},BIs lo no w b cs→BIs lo no w c ds→BIs lo no w (kz8 b c) (cs++ds)
 | .nil,c,cs,ds,h,h'=>by
  have:cs=[]:=h;subst this;exact h'
 | .node _ _ a .nil n,c,cs,ds,⟨p,rest,e,hx,hn⟩,h'=>⟨p,rest++ds,by rw[e,tX],hx,hn.app h'⟩
 | .node _ _ a (.node _ _ _ t e) n,c,cs,ds,⟨p,ta,tn,tc,ea,en,ec,ct,ce,rest,e1,hx,ht,he,hn⟩,h'=>⟨p,ta,tn,tc,ea,en,ec,ct,ce,rest++ds,by rw[e1,tX],hx,ht,he,hn.app h'⟩
theorem BIs.shun {lo:Nat}{no no':Option Nat}{w:World}(hno:∀ k,no'=some k→no=some k∨w.heap.size≤k∨k<lo):∀ {b:PB} {cs:List Value},BIs lo no w b cs→BIs lo no' w b cs
 | .nil,_,h=>h
 | .node _ _ a .nil n,cs,⟨p,rest,e,hx,hn⟩=>⟨p,rest,e,hx,BIs.shun hno hn⟩
 | .node _ _ a (.node _ _ _ t e) n,cs,⟨p,ta,tn,tc,ea,en,ec,ct,ce,rest,e1,hx,⟨ht1,ht3,ht2⟩,⟨he1,he3,he2⟩,hn⟩=>by
  have out:∀ {v:Value} {m:Nat} {q:List Value},w.ownsRow lo 334 9 v m q→(∀ j,v.ownBlock=some j→no≠some j)→∀ j,v.ownBlock=some j→no'≠some j:=by
   intro v m q h1 h2 j hj h3;have hge:=yw h1 j hj;have hlt:=kqa h1 j hj;rcases hno j h3 with h|h|h
   ·exact h2 j hj h
   ·omega
   ·omega
  exact ⟨p,ta,tn,tc,ea,en,ec,ct,ce,rest,e1,hx,⟨ht1,out ht1 ht3,BIs.shun hno ht2⟩,⟨he1,out he1 he3,BIs.shun hno he2⟩,BIs.shun hno hn⟩
theorem XIs.grown {lo base e size:Nat}{w w':World}{v:Value}{n:Nat}{xs:List Value}(hv:w.ownsRow base e size v n xs)(he:358≠e)(hg:w.grownBy w' v.ownBlock):∀ {x:PX} {p:Value},XIs lo w x p→XIs lo w' x p
 | .nil,_,h=>h
 | .node _ _ _ _ _,_,⟨k,va,vb,e1,hn,hh,ha,hb⟩=>⟨k,va,vb,e1,hn,by rw[hg.block k (wX hh) (not_row hv hh he)];exact hh,XIs.grown hv he hg ha,XIs.grown hv he hg hb⟩
theorem BIs.qxk {lo base:Nat}{w w':World}{v:Value}{n:Nat}{xs:List Value}{no':Option Nat}(hv:w.ownsRow base 334 9 v n xs)(hg:w.grownBy w' v.ownBlock)(hno:∀ k,no'=some k→v.ownBlock=some k∨w.heap.size≤k) :
  ∀ {b:PB} {cs:List Value},BIs lo v.ownBlock w b cs→BIs lo no' w' b cs
 | .nil,_,h=>h
 | .node _ _ a .nil nx,cs,⟨p,rest,e,hx,hn⟩=>⟨p,rest,e,hx.grown hv (by decide) hg,BIs.qxk hv hg hno hn⟩
 | .node _ _ a (.node _ _ _ t e) nx,cs,⟨p,ta,tn,tc,ea,en,ec,ct,ce,rest,e1,hx,⟨ht1,ht3,ht2⟩,⟨he1,he3,he2⟩,hn⟩=>by
  have keep:∀ {u:Value} {m:Nat} {q:List Value},w.ownsRow lo 334 9 u m q→(∀ j,u.ownBlock=some j→v.ownBlock≠some j)→w'.ownsRow lo 334 9 u m q∧(∀ j,u.ownBlock=some j→no'≠some j):=by
   intro u m q h1 h2;constructor
   ·refine h1.kept hg ?_;cases hu:u.ownBlock with
    | none=>exact Or.inl rfl
    | some j=>exact Or.inr fun h=>h2 j hu h.symm
   ·intro j hj h3;have hlt:=kqa h1 j hj;rcases hno j h3 with h|h
    ·exact h2 j hj h
    ·omega
  exact ⟨p,ta,tn,tc,ea,en,ec,ct,ce,rest,e1,hx.grown hv (by decide) hg,⟨(keep ht1 ht3).1,(keep ht1 ht3).2,BIs.qxk hv hg hno ht2⟩,⟨(keep he1 he3).1,(keep he1 he3).2,BIs.qxk hv hg hno he2⟩,BIs.qxk hv hg hno hn⟩
theorem zvu {c:Bool}{a:SLab}{p:Option Addr}{ta ea:Option Addr}{tn tc en ec:Nat}:∀ u∈stC c a (.pointer p) (.slice ta tn tc) (.slice ea en ec),u.oneCell'=true:=by
 intro u hu;unfold stC at hu;simp only[tK,rM,nY,or_false] at hu;rcases hu with rfl|h|rfl|rfl|rfl
 ·rfl
 ·cases hp:a.place with
  | nil=>rw[hp] at h;simp only[plC,tK,nY,or_false] at h;rcases h with rfl|rfl|rfl|rfl|rfl<;>rfl
  | node _ _ x _ _=>rw[hp] at h;simp only[plC,tK,nY,or_false] at h;rcases h with rfl|rfl|rfl|rfl|rfl<;>rfl
 ·rfl
 ·rfl
 ·rfl
def vy4 (P:Nat)(v:Value)(L:List Tok)(w:World)(r:PB × RS)(e:Ending)(w':World):Prop:=
 ∃ b cs,e=.returned (.agg cs.toArray)∧BIs w.heap.size none w' b cs∧uz b=1∧(∀ u∈cs,u.oneCell'=true)∧(r.2.bad=false→b=r.1)∧Pd w' P v L r.2∧Kept P w w'
def zx3 (P:Nat)(v:Value)(L:List Tok)(w:World)(r:PB × RS)(e:Ending)(w':World):Prop:=
 ∃ ua un uc b cs,e=.returned (.slice ua un uc)∧w'.ownsRow w.heap.size 334 9 (.slice ua un uc) (uz b) cs∧BIs w.heap.size (Value.slice ua un uc).ownBlock w' b cs∧(r.2.bad=false→b=r.1)∧Pd w' P v L r.2∧Kept P w w'∧uz b≤802
theorem jzj (L:List Tok)(st:RS)(hL:pq L)(hlt:st.at_<L.length):∃ x:ELab,[Value.string (plT L st).1.text,.int .i64 (plT L st).1.at_,.bool (plT L st).2.1,.string (plT L st).2.2.1.text,.int .i64 (plT L st).2.2.1.at_]=plC (.node 0 0 x .nil .nil) ∧
  ((vg L st).2.bad=false→.node 0 0 x .nil .nil=(vg L st).1):=by
 obtain ⟨x,h1,h2⟩:=qyp L st hL hlt;refine ⟨x,?_,h2⟩;unfold kku at h1;have:=congrArg Array.toList h1;simp only[List.cons.injEq] at this;obtain ⟨_,_,a,b,c,d,e,_⟩:=this;simp only[plC];rw[a,b,c,d,e]
theorem kx9 {L:List Tok}{st:RS}(h:st.bad=true):∀ f tag:Nat,(rS f tag L st).2=st
 | 0,_=>rfl
 | f+1,0=>by
  rw[rS,yg h];show qg L [125] (rS f 1 L st).2=st;rw[kx9 h f 1,yg h]
 | f+1,t+1=>by rw[rS];simp[h]
theorem kxg {w : World} {b : Nat} {x0 x1 x2 x3 x4 x5 x6 x7 x8 : Value} {t : TypeId} (h : w.heap[b]? = some (.cells #[x0, x1, x2, x3, x4, x5, x6, x7, x8] t (0, 0))) :
    (w.cell? ⟨b, 0, none⟩ = some x0 ∧ w.cell? ⟨b, 1, none⟩ = some x1 ∧ w.cell? ⟨b, 2, none⟩ = some x2 ∧ w.cell? ⟨b, 3, none⟩ = some x3 ∧ w.cell? ⟨b, 4, none⟩ = some x4 ∧ w.cell? ⟨b, 5, none⟩ = some x5 ∧ w.cell? ⟨b, 6, none⟩ = some x6 ∧ w.cell? ⟨b, 7, none⟩ = some x7 ∧ w.cell? ⟨b, 8, none⟩ = some x8) ∧
    (w.frozen? ⟨b, 0, none⟩ = false ∧ w.frozen? ⟨b, 1, none⟩ = false ∧ w.frozen? ⟨b, 2, none⟩ = false ∧ w.frozen? ⟨b, 3, none⟩ = false ∧ w.frozen? ⟨b, 4, none⟩ = false ∧ w.frozen? ⟨b, 5, none⟩ = false ∧ w.frozen? ⟨b, 6, none⟩ = false ∧ w.frozen? ⟨b, 7, none⟩ = false ∧ w.frozen? ⟨b, 8, none⟩ = false) :=
  ⟨⟨by rw [cell_of_row w b 0 _ _ _ h]; rfl, by rw [cell_of_row w b 1 _ _ _ h]; rfl, by rw [cell_of_row w b 2 _ _ _ h]; rfl, by rw [cell_of_row w b 3 _ _ _ h]; rfl, by rw [cell_of_row w b 4 _ _ _ h]; rfl, by rw [cell_of_row w b 5 _ _ _ h]; rfl, by rw [cell_of_row w b 6 _ _ _ h]; rfl, by rw [cell_of_row w b 7 _ _ _ h]; rfl, by rw [cell_of_row w b 8 _ _ _ h]; rfl⟩,
   ⟨frozen_of_row w b 0 _ _ h, frozen_of_row w b 1 _ _ h, frozen_of_row w b 2 _ _ h, frozen_of_row w b 3 _ _ h, frozen_of_row w b 4 _ _ h, frozen_of_row w b 5 _ _ h, frozen_of_row w b 6 _ _ h, frozen_of_row w b 7 _ _ h, frozen_of_row w b 8 _ _ h⟩⟩
theorem zvh {w:World}{b:Nat}{x0 x1 x2 x3 x4 x5 x6 x7 x8:Value}{t:TypeId}(h:w.heap[b]?=some (.cells #[x0,x1,x2,x3,x4,x5,x6,x7,x8] t (0,0)))(y0 y1 y2 y3 y4 y5 y6 y7 y8:Value) :
  (((((((((w.setCell ⟨b,0,none⟩ y0).setCell ⟨b,1,none⟩ y1).setCell ⟨b,2,none⟩ y2).setCell ⟨b,3,none⟩ y3).setCell ⟨b,4,none⟩ y4).setCell ⟨b,5,none⟩ y5).setCell ⟨b,6,none⟩ y6).setCell ⟨b,7,none⟩ y7).setCell ⟨b,8,none⟩ y8).heap[b]?=some (.cells #[y0,y1,y2,y3,y4,y5,y6,y7,y8] t (0,0)):=by
 have h0:(w.setCell ⟨b,0,none⟩ y0).heap[b]?=some (.cells #[y0,x1,x2,x3,x4,x5,x6,x7,x8] t (0,0)):=heap_setCell_same _ b 0 _ _ _ h;have h1:((w.setCell ⟨b,0,none⟩ y0).setCell ⟨b,1,none⟩ y1).heap[b]?=some (.cells #[y0,y1,x2,x3,x4,x5,x6,x7,x8] t (0,0)):=heap_setCell_same _ b 1 _ _ _ h0;have h2:(((w.setCell ⟨b,0,none⟩ y0).setCell ⟨b,1,none⟩ y1).setCell ⟨b,2,none⟩ y2).heap[b]?=some (.cells #[y0,y1,y2,x3,x4,x5,x6,x7,x8] t (0,0)):=heap_setCell_same _ b 2 _ _ _ h1;have h3:((((w.setCell ⟨b,0,none⟩ y0).setCell ⟨b,1,none⟩ y1).setCell ⟨b,2,none⟩ y2).setCell ⟨b,3,none⟩ y3).heap[b]?=some (.cells #[y0,y1,y2,y3,x4,x5,x6,x7,x8] t (0,0)):=heap_setCell_same _ b 3 _ _ _ h2;have h4:(((((w.setCell ⟨b,0,none⟩ y0).setCell ⟨b,1,none⟩ y1).setCell ⟨b,2,none⟩ y2).setCell ⟨b,3,none⟩ y3).setCell ⟨b,4,none⟩ y4).heap[b]?=some (.cells #[y0,y1,y2,y3,y4,x5,x6,x7,x8] t (0,0)):=heap_setCell_same _ b 4 _ _ _ h3;have h5:((((((w.setCell ⟨b,0,none⟩ y0).setCell ⟨b,1,none⟩ y1).setCell ⟨b,2,none⟩ y2).setCell ⟨b,3,none⟩ y3).setCell ⟨b,4,none⟩ y4).setCell ⟨b,5,none⟩ y5).heap[b]?=some (.cells #[y0,y1,y2,y3,y4,y5,x6,x7,x8] t (0,0)):=heap_setCell_same _ b 5 _ _ _ h4;have h6:(((((((w.setCell ⟨b,0,none⟩ y0).setCell ⟨b,1,none⟩ y1).setCell ⟨b,2,none⟩ y2).setCell ⟨b,3,none⟩ y3).setCell ⟨b,4,none⟩ y4).setCell ⟨b,5,none⟩ y5).setCell ⟨b,6,none⟩ y6).heap[b]?=some (.cells #[y0,y1,y2,y3,y4,y5,y6,x7,x8] t (0,0)):=heap_setCell_same _ b 6 _ _ _ h5;have h7:((((((((w.setCell ⟨b,0,none⟩ y0).setCell ⟨b,1,none⟩ y1).setCell ⟨b,2,none⟩ y2).setCell ⟨b,3,none⟩ y3).setCell ⟨b,4,none⟩ y4).setCell ⟨b,5,none⟩ y5).setCell ⟨b,6,none⟩ y6).setCell ⟨b,7,none⟩ y7).heap[b]?=some (.cells #[y0,y1,y2,y3,y4,y5,y6,y7,x8] t (0,0)):=heap_setCell_same _ b 7 _ _ _ h6;have h8:(((((((((w.setCell ⟨b,0,none⟩ y0).setCell ⟨b,1,none⟩ y1).setCell ⟨b,2,none⟩ y2).setCell ⟨b,3,none⟩ y3).setCell ⟨b,4,none⟩ y4).setCell ⟨b,5,none⟩ y5).setCell ⟨b,6,none⟩ y6).setCell ⟨b,7,none⟩ y7).setCell ⟨b,8,none⟩ y8).heap[b]?=some (.cells #[y0,y1,y2,y3,y4,y5,y6,y7,y8] t (0,0)):=heap_setCell_same _ b 8 _ _ _ h7;exact h8
theorem Pd.qz4 {w:World}{P B:Nat}{v:Value}{L:List Tok}{st:RS}(h:Pd w P v L st)(hB:∀ g,v.ownBlock=some g→g<B)(hP:P<B){b:Nat}(hb:B≤b)(y0 y1 y2 y3 y4 y5 y6 y7 y8:Value) :
  Pd (((((((((w.setCell ⟨b,0,none⟩ y0).setCell ⟨b,1,none⟩ y1).setCell ⟨b,2,none⟩ y2).setCell ⟨b,3,none⟩ y3).setCell ⟨b,4,none⟩ y4).setCell ⟨b,5,none⟩ y5).setCell ⟨b,6,none⟩ y6).setCell ⟨b,7,none⟩ y7).setCell ⟨b,8,none⟩ y8) P v L st:=by
 have h0:Pd (w.setCell ⟨b,0,none⟩ y0) P v L st:=Pd.setOther h hB hP hb y0;have h1:Pd ((w.setCell ⟨b,0,none⟩ y0).setCell ⟨b,1,none⟩ y1) P v L st:=Pd.setOther h0 hB hP hb y1;have h2:Pd (((w.setCell ⟨b,0,none⟩ y0).setCell ⟨b,1,none⟩ y1).setCell ⟨b,2,none⟩ y2) P v L st:=Pd.setOther h1 hB hP hb y2;have h3:Pd ((((w.setCell ⟨b,0,none⟩ y0).setCell ⟨b,1,none⟩ y1).setCell ⟨b,2,none⟩ y2).setCell ⟨b,3,none⟩ y3) P v L st:=Pd.setOther h2 hB hP hb y3;have h4:Pd (((((w.setCell ⟨b,0,none⟩ y0).setCell ⟨b,1,none⟩ y1).setCell ⟨b,2,none⟩ y2).setCell ⟨b,3,none⟩ y3).setCell ⟨b,4,none⟩ y4) P v L st:=Pd.setOther h3 hB hP hb y4;have h5:Pd ((((((w.setCell ⟨b,0,none⟩ y0).setCell ⟨b,1,none⟩ y1).setCell ⟨b,2,none⟩ y2).setCell ⟨b,3,none⟩ y3).setCell ⟨b,4,none⟩ y4).setCell ⟨b,5,none⟩ y5) P v L st:=Pd.setOther h4 hB hP hb y5;have h6:Pd (((((((w.setCell ⟨b,0,none⟩ y0).setCell ⟨b,1,none⟩ y1).setCell ⟨b,2,none⟩ y2).setCell ⟨b,3,none⟩ y3).setCell ⟨b,4,none⟩ y4).setCell ⟨b,5,none⟩ y5).setCell ⟨b,6,none⟩ y6) P v L st:=Pd.setOther h5 hB hP hb y6;have h7:Pd ((((((((w.setCell ⟨b,0,none⟩ y0).setCell ⟨b,1,none⟩ y1).setCell ⟨b,2,none⟩ y2).setCell ⟨b,3,none⟩ y3).setCell ⟨b,4,none⟩ y4).setCell ⟨b,5,none⟩ y5).setCell ⟨b,6,none⟩ y6).setCell ⟨b,7,none⟩ y7) P v L st:=Pd.setOther h6 hB hP hb y7;have h8:Pd (((((((((w.setCell ⟨b,0,none⟩ y0).setCell ⟨b,1,none⟩ y1).setCell ⟨b,2,none⟩ y2).setCell ⟨b,3,none⟩ y3).setCell ⟨b,4,none⟩ y4).setCell ⟨b,5,none⟩ y5).setCell ⟨b,6,none⟩ y6).setCell ⟨b,7,none⟩ y7).setCell ⟨b,8,none⟩ y8) P v L st:=Pd.setOther h7 hB hP hb y8;exact h8
theorem Kept.qz4 {P:Nat}{a w:World}(h:Kept P a w){b:Nat}(hb:a.heap.size≤b)(y0 y1 y2 y3 y4 y5 y6 y7 y8:Value) :
  Kept P a (((((((((w.setCell ⟨b,0,none⟩ y0).setCell ⟨b,1,none⟩ y1).setCell ⟨b,2,none⟩ y2).setCell ⟨b,3,none⟩ y3).setCell ⟨b,4,none⟩ y4).setCell ⟨b,5,none⟩ y5).setCell ⟨b,6,none⟩ y6).setCell ⟨b,7,none⟩ y7).setCell ⟨b,8,none⟩ y8):=by
 have h0:Kept P a (w.setCell ⟨b,0,none⟩ y0):=Kept.jm h hb y0;have h1:Kept P a ((w.setCell ⟨b,0,none⟩ y0).setCell ⟨b,1,none⟩ y1):=Kept.jm h0 hb y1;have h2:Kept P a (((w.setCell ⟨b,0,none⟩ y0).setCell ⟨b,1,none⟩ y1).setCell ⟨b,2,none⟩ y2):=Kept.jm h1 hb y2;have h3:Kept P a ((((w.setCell ⟨b,0,none⟩ y0).setCell ⟨b,1,none⟩ y1).setCell ⟨b,2,none⟩ y2).setCell ⟨b,3,none⟩ y3):=Kept.jm h2 hb y3;have h4:Kept P a (((((w.setCell ⟨b,0,none⟩ y0).setCell ⟨b,1,none⟩ y1).setCell ⟨b,2,none⟩ y2).setCell ⟨b,3,none⟩ y3).setCell ⟨b,4,none⟩ y4):=Kept.jm h3 hb y4;have h5:Kept P a ((((((w.setCell ⟨b,0,none⟩ y0).setCell ⟨b,1,none⟩ y1).setCell ⟨b,2,none⟩ y2).setCell ⟨b,3,none⟩ y3).setCell ⟨b,4,none⟩ y4).setCell ⟨b,5,none⟩ y5):=Kept.jm h4 hb y5;have h6:Kept P a (((((((w.setCell ⟨b,0,none⟩ y0).setCell ⟨b,1,none⟩ y1).setCell ⟨b,2,none⟩ y2).setCell ⟨b,3,none⟩ y3).setCell ⟨b,4,none⟩ y4).setCell ⟨b,5,none⟩ y5).setCell ⟨b,6,none⟩ y6):=Kept.jm h5 hb y6;have h7:Kept P a ((((((((w.setCell ⟨b,0,none⟩ y0).setCell ⟨b,1,none⟩ y1).setCell ⟨b,2,none⟩ y2).setCell ⟨b,3,none⟩ y3).setCell ⟨b,4,none⟩ y4).setCell ⟨b,5,none⟩ y5).setCell ⟨b,6,none⟩ y6).setCell ⟨b,7,none⟩ y7):=Kept.jm h6 hb y7;have h8:Kept P a (((((((((w.setCell ⟨b,0,none⟩ y0).setCell ⟨b,1,none⟩ y1).setCell ⟨b,2,none⟩ y2).setCell ⟨b,3,none⟩ y3).setCell ⟨b,4,none⟩ y4).setCell ⟨b,5,none⟩ y5).setCell ⟨b,6,none⟩ y6).setCell ⟨b,7,none⟩ y7).setCell ⟨b,8,none⟩ y8):=Kept.jm h7 hb y8;exact h8
theorem uo.qz4 {lo:Nat}{a w:World}(h:uo lo a w){b:Nat}(hb:b<lo∨a.heap.size≤b)(y0 y1 y2 y3 y4 y5 y6 y7 y8:Value) :
  uo lo a (((((((((w.setCell ⟨b,0,none⟩ y0).setCell ⟨b,1,none⟩ y1).setCell ⟨b,2,none⟩ y2).setCell ⟨b,3,none⟩ y3).setCell ⟨b,4,none⟩ y4).setCell ⟨b,5,none⟩ y5).setCell ⟨b,6,none⟩ y6).setCell ⟨b,7,none⟩ y7).setCell ⟨b,8,none⟩ y8):=by
 have h0:uo lo a (w.setCell ⟨b,0,none⟩ y0):=uo.set h hb y0;have h1:uo lo a ((w.setCell ⟨b,0,none⟩ y0).setCell ⟨b,1,none⟩ y1):=uo.set h0 hb y1;have h2:uo lo a (((w.setCell ⟨b,0,none⟩ y0).setCell ⟨b,1,none⟩ y1).setCell ⟨b,2,none⟩ y2):=uo.set h1 hb y2;have h3:uo lo a ((((w.setCell ⟨b,0,none⟩ y0).setCell ⟨b,1,none⟩ y1).setCell ⟨b,2,none⟩ y2).setCell ⟨b,3,none⟩ y3):=uo.set h2 hb y3;have h4:uo lo a (((((w.setCell ⟨b,0,none⟩ y0).setCell ⟨b,1,none⟩ y1).setCell ⟨b,2,none⟩ y2).setCell ⟨b,3,none⟩ y3).setCell ⟨b,4,none⟩ y4):=uo.set h3 hb y4;have h5:uo lo a ((((((w.setCell ⟨b,0,none⟩ y0).setCell ⟨b,1,none⟩ y1).setCell ⟨b,2,none⟩ y2).setCell ⟨b,3,none⟩ y3).setCell ⟨b,4,none⟩ y4).setCell ⟨b,5,none⟩ y5):=uo.set h4 hb y5;have h6:uo lo a (((((((w.setCell ⟨b,0,none⟩ y0).setCell ⟨b,1,none⟩ y1).setCell ⟨b,2,none⟩ y2).setCell ⟨b,3,none⟩ y3).setCell ⟨b,4,none⟩ y4).setCell ⟨b,5,none⟩ y5).setCell ⟨b,6,none⟩ y6):=uo.set h5 hb y6;have h7:uo lo a ((((((((w.setCell ⟨b,0,none⟩ y0).setCell ⟨b,1,none⟩ y1).setCell ⟨b,2,none⟩ y2).setCell ⟨b,3,none⟩ y3).setCell ⟨b,4,none⟩ y4).setCell ⟨b,5,none⟩ y5).setCell ⟨b,6,none⟩ y6).setCell ⟨b,7,none⟩ y7):=uo.set h6 hb y7;have h8:uo lo a (((((((((w.setCell ⟨b,0,none⟩ y0).setCell ⟨b,1,none⟩ y1).setCell ⟨b,2,none⟩ y2).setCell ⟨b,3,none⟩ y3).setCell ⟨b,4,none⟩ y4).setCell ⟨b,5,none⟩ y5).setCell ⟨b,6,none⟩ y6).setCell ⟨b,7,none⟩ y7).setCell ⟨b,8,none⟩ y8):=uo.set h7 hb y8;exact h8
def zwb (f:Nat):Prop:=∀ (w:World) (P:Nat) (v:Value) (L:List Tok) (st:RS),Pd w P v L st→(st.bad=false→2 * (L.length-st.at_)+2≤f) →
 Calls Tryz.prog 211 #[.pointer (some ⟨P,0,none⟩)] w fun e w'=>zx3 P v L w (rS f 0 L st) e w'
def jvw:Prop:=∀ (g:Nat) (w:World) (P:Nat) (v:Value) (L:List Tok) (st:RS),st.bad=true→Pd w P v L st →
 Calls Tryz.prog 211 #[.pointer (some ⟨P,0,none⟩)] w fun e w'=>zx3 P v L w (rS g 0 L st) e w'
theorem vyv {f:Nat}{st0:RS}(hB:st0.bad=false→jvw)(hS:st0.bad=false→zwb f)(h0:st0.bad=false)(w:World)(P:Nat)(v:Value)(L:List Tok)(st:RS)(h:Pd w P v L st)(hg:st.bad=false→2 * (L.length-st.at_)+2≤f) :
  Calls Tryz.prog 211 #[.pointer (some ⟨P,0,none⟩)] w fun e w'=>zx3 P v L w (rS f 0 L st) e w':=by
 cases hb:st.bad
 ·exact hS h0 w P v L st h (fun _=>hg hb)
 ·exact hB h0 f w P v L st hb h
theorem vql {blk:RS→PB × RS}{L:List Tok}{st s3:RS}{x:PX × RS}(h:ql L [105,102] st=false)(h1:qg L [61] (vg L st).2=s3)(h2:rX (ji L) 0 .nil L s3=x):rDo blk L st=(zq4 (vg L st).1 x.1,qg L [59] x.2):=by
 subst h1;subst h2;unfold rDo;rw[h];rfl
theorem vx7 {blk:RS→PB × RS}{L:List Tok}{st s1:RS}{x:PX × RS}{b:PB × RS}(h:ql L [105,102] st=true)(h1:qg L [105,102] st=s1)(h2:rX (ji L) 0 .nil L s1=x)(h3:blk x.2=b) :
  (ql L [101,108,115,101] b.2=false→rDo blk L st=(ifS x.1 b.1 .nil,b.2))∧(ql L [101,108,115,101] b.2=true→rDo blk L st=(ifS x.1 b.1 (blk (qg L [101,108,115,101] b.2)).1,(blk (qg L [101,108,115,101] b.2)).2)):=by
 subst h1;subst h2;subst h3;constructor<;>intro h4<;>(unfold rDo;rw[h,h4];rfl)
theorem qwf {L:List Tok}{f tag:Nat}{x:PX}{s:RS}(h:(rX f tag x L s).2.bad=false):s.bad=false:=by
 cases hb:s.bad
 ·rfl
 ·rw[kql hb,hb] at h;cases h
theorem zk9 (f:Nat)(w:World)(P:Nat)(v:Value)(L:List Tok)(st:RS)(hB:st.bad=false→jvw)(hS:st.bad=false→zwb f)(h:Pd w P v L st)(hf:st.bad=false→2 * (L.length-st.at_)≤f) :
  Calls Tryz.prog 242 #[.pointer (some ⟨P,0,none⟩)] w fun e w'=>vy4 P v L w (rDo (rS f 0 L) L st) e w':=by
 have hX:=h.in;have HV:=hide h.kqa;have hL:=h.ok;have hlen:=hL.len;have hlt:=h.lt;have HSub:=hide (vyv hB hS);clear hB hS;go_enter Tryz.func242,Tryz.ntmps242
 go_wp2_with fail
 refine (kqc [105,102] (by decide) _ P v L st (h.alloc _)).mono ?_;rintro e w1 ⟨rfl,h1,hk1⟩;have hx1:=hk1.row (b:=w.heap.size) (by omega) (qy _ _);have hz1:=wX hx1;have HX1:=hide hx1;have HK1:=hide ((Kept.kq5 _).trans hk1);clear h hk1 hx1;cases hn:ql L [105,102] st
 ·rw[kzx hn] at h1;have H1:=hide h1;clear h1;go_wp2_with fail
  refine (zjw _ P v L st (ku H1)).mono ?_;rintro e w2 ⟨rfl,h2,hk2⟩;rw[zkx] at h2;obtain ⟨xp,hxp1,hxp2⟩:=jzj L st hL hlt;have HD:=hide (vql (blk:=rS f 0 L) hn rfl rfl);have HGB:=hide (show (rX (ji L) 0 .nil L (qg L [61] (vg L st).2)).2.bad=false→(vg L st).2.bad=false from fun h=>kj5 (qwf h));have HXP1:=hide hxp1;have HXP2:=hide hxp2;have hx2:=hk2.row (by omega) (ku HX1);have hz2:=wX hx2;have HX2:=hide hx2;have HK2:=hide ((ku HK1).trans hk2);have H2:=hide h2;clear h2 hk2 hx2 HX1 HK1 H1 hxp1 hxp2;generalize plT L st=pt at *;generalize vg L st=rp at *;unfold plV;go_wp2_with fail
  refine (kqo [61] (by decide) rfl rfl _ P v L _ ((ku H2).alloc _)).mono ?_;rintro e w3 ⟨rfl,h3,hk3⟩;generalize qg L [61] rp.2=s3 at *;have HX3:=hide (hk3.row (by omega) (qp (ku HX2)));have HY3:=hide (hk3.row (b:=w2.heap.size) (by omega) (qy _ _));have HK3:=hide (((ku HK2).alloc _).trans hk3);have hz3:=wX (ku HY3);have H3:=hide h3;clear h3 hk3 HX2 HK2 H2;go_wp2_with fail
  refine (qx6 _ P v L s3 (ku H3)).mono ?_;rintro e w4 ⟨p4,t4,rfl,hx4,ht4,h4,hk4⟩;have HX4:=hide (hk4.row (by omega) (ku HX3));have hy4:=hk4.row (b:=w2.heap.size) (by omega) (ku HY3);have HK4:=hide ((ku HK3).trans hk4);have hz4:=hk4.size;have HT4:=hide ht4;have HXX:=hide hx4;have H4:=hide h4;obtain ⟨⟨_,_,_,_,_,_,g6,_,_⟩,⟨_,_,_,_,_,_,f6,_,_⟩⟩:=kxg hy4;have HY4:=hide hy4;clear h4 hk4 hx4 ht4 hy4 HX3 HY3 HK3 H3;generalize rX (ji L) 0 .nil L s3=r4 at *;go_wp2_with fail
  clear g6 f6;refine (kqo [59] (by decide) rfl rfl _ P v L _ ((ku H4).setOther (ku HV) hX (by simp;omega) _)).mono ?_;rintro e w5 ⟨rfl,h5,hk5⟩;have hx5:=hk5.row (b:=w.heap.size) (by omega) ((ru _ _ _ _ (by simp;omega)).trans (ku HX4));have hy5:=hk5.row (b:=w2.heap.size) (by omega) (heap_setCell_same _ _ 6 _ _ _ (ku HY4));have HK5:=hide (((ku HK4).jm (p:=⟨w2.heap.size,6,none⟩) (by simp;omega) (.pointer p4)).trans hk5);have HSm:=hide ((((uo.refl w3.heap.size w4).set (p:=⟨w2.heap.size,6,none⟩) (Or.inl (by simp;omega)) (.pointer p4)).kept hk5 (by omega)));obtain ⟨⟨d0,d1,d2,d3,d4,d5,d6,d7,d8⟩,⟨e0,e1,e2,e3,e4,e5,e6,e7,e8⟩⟩:=kxg hx5;obtain ⟨⟨g0,g1,g2,g3,g4,g5,g6,g7,g8⟩,_⟩:=kxg hy5;have HX5:=hide hx5;have H5:=hide h5;clear h5 hk5 hx5 hy5 HX4 HY4 HK4 H4;go_wp2
  refine rY (v:=.agg #[.bool false,.string pt.1.text,.int .i64 pt.1.at_,.bool pt.2.1,.string pt.2.2.1.text,.int .i64 pt.2.2.1.at_,.pointer p4,.slice none 0 0,.slice none 0 0]) (rZ Tryz.results242 _ _ w.heap.size _ _ _ _ rfl (zvh (ku HX5) _ _ _ _ _ _ _ _ _) Tryz.underlying334 rfl (by kernel_rfl)) rfl ?_;rw[ku HD];have hcs:[Value.bool false,.string pt.1.text,.int .i64 pt.1.at_,.bool pt.2.1,.string pt.2.2.1.text,.int .i64 pt.2.2.1.at_,.pointer p4,.slice none 0 0,.slice none 0 0]=stC false { place:=.node 0 0 xp .nil .nil,value:=t4,cond:=.nil } (.pointer p4) (.slice none 0 0) (.slice none 0 0):=by
   unfold stC;simp only;rw[←ku HXP1];rfl
  refine ⟨.node 0 0 { place:=.node 0 0 xp .nil .nil,value:=t4,cond:=.nil } .nil .nil,[Value.bool false,.string pt.1.text,.int .i64 pt.1.at_,.bool pt.2.1,.string pt.2.2.1.text,.int .i64 pt.2.2.1.at_,.pointer p4,.slice none 0 0,.slice none 0 0],rfl,⟨p4,[],by rw[ni];exact hcs,?_,rfl⟩,rfl,by rw[hcs];exact zvu,?_,(ku H5).qz4 (ku HV) hX (wW _) _ _ _ _ _ _ _ _ _,(ku HK5).qz4 (wW _) _ _ _ _ _ _ _ _ _⟩
  ·exact ((ku HXX).qxl ((ku HSm).qz4 (Or.inl (by omega)) _ _ _ _ _ _ _ _ _)).mono (by omega)
  ·intro hb;have hb4:=kj5 hb;have hb2:rp.2.bad=false:=(ku HGB) hb4;rw[(ku HT4) hb4,(ku HXP2) hb2];rfl
 ·have hb0:=(kq0 hn).2;have hns:=kqb hL hlt hn;have hf0:=hf hb0;have em:kv2 L [105,102] st=qg L [105,102] st:=qqp hn rfl rfl;have hat1:(qg L [105,102] st).at_=st.at_+1:=by rw[kjn rfl rfl];unfold qwv;rw[hn];rfl
  rw[em] at h1;have hD:=vx7 (blk:=rS f 0 L) hn rfl rfl rfl;have HD1:=hide hD.1;have HD2:=hide hD.2;have H1:=hide h1;clear h1 em hD;generalize qg L [105,102] st=s1 at *;go_wp2_with fail
  refine (qx6 _ P v L s1 (ku H1)).mono ?_;rintro e w2 ⟨p2,t2,rfl,hx2,ht2,h2,hk2⟩;have hm2:=kxd (ji L) 0 .nil L s1;have HX2:=hide (hk2.row (by omega) (ku HX1));have HK2:=hide ((ku HK1).trans hk2);have hz2:=hk2.size;have HT2:=hide ht2;have HXX:=hide hx2;have H2:=hide h2;clear h2 hk2 hx2 ht2 HX1 HK1 H1;generalize rX (ji L) 0 .nil L s1=r2 at *;go_wp2_with fail
  refine ((ku HSub) hb0 _ P v L r2.2 (ku H2) (fun _=>by omega)).mono ?_;rintro e w3 ⟨ua,un,uc,b3,c3,rfl,ho3,hbi3,hb3,h3,hk3,_⟩;have hgb:(rS f 0 L r2.2).2.bad=false→r2.2.bad=false:=fun h=>by
   cases hb:r2.2.bad
   ·rfl
   ·rw[kx9 hb,hb] at h;cases h
  have hm3:=kkm L f 0 r2.2;have hx3:=hk3.row (by omega) (ku HX2);have hz3:=hk3.size;have HX3:=hide hx3;have HK3:=hide ((ku HK2).trans hk3);have HO3:=hide ho3;have HBI3:=hide hbi3;have HB3:=hide hb3;have HGB:=hide hgb;have HSm2:=hide ((uo.refl w1.heap.size w2).kept hk3 (by omega));have H3:=hide h3;clear h3 hk3 hx3 ho3 hbi3 hb3 hgb HX2 HK2 H2;generalize rS f 0 L r2.2=r3 at *;go_wp2_with fail
  refine (kqc [101,108,115,101] (by decide) _ P v L _ ((ku H3).alloc _)).mono ?_;rintro e w4 ⟨rfl,h4,hk4⟩;have HX4:=hide (hk4.row (by omega) (qp (ku HX3)));have HY4:=hide (hk4.row (b:=w3.heap.size) (by omega) (qy _ _));have hz4:=wX (ku HY4);have HK4:=hide (((ku HK3).alloc _).trans hk4);have HSm2':=hide (((ku HSm2).alloc _).kept hk4 (by omega));have HSm3:=hide (((uo.refl w2.heap.size w3).alloc _).kept hk4 (by omega));clear hk4 HX3 HK3 H3 HSm2;cases hel:ql L [101,108,115,101] r3.2
  ·rw[kzx hel] at h4;have H4:=hide h4;have HD:=hide ((ku HD1) hel);clear h4 HD1 HD2;obtain ⟨⟨d0,d1,d2,d3,d4,d5,d6,d7,d8⟩,⟨e0,e1,e2,e3,e4,e5,e6,e7,e8⟩⟩:=kxg (ku HX4);obtain ⟨⟨g0,g1,g2,g3,g4,g5,g6,g7,g8⟩,_⟩:=kxg (ku HY4);go_wp2
   refine rY (v:=.agg (stC true { place:=.nil,value:=.nil,cond:=t2 } (.pointer p2) (.slice ua un uc) (.slice none 0 0)).toArray) (rZ Tryz.results242 _ _ w.heap.size _ _ _ _ rfl (zvh (ku HX4) _ _ _ _ _ _ _ _ _) Tryz.underlying334 rfl (by kernel_rfl)) rfl ?_;rw[ku HD];refine ⟨.node 0 0 { place:=.nil,value:=.nil,cond:=t2 } (.node 0 0 noS b3 .nil) .nil,_,rfl,⟨p2,ua,un,uc,none,0,0,c3,[],[],by rw[ni],?_,⟨?_,(fun j _ h=>by cases h),?_⟩,⟨rP _ _ _ _,(fun j _ h=>by cases h),rfl⟩,rfl⟩,rfl,zvu,?_,(ku H4).qz4 (ku HV) hX (wW _) _ _ _ _ _ _ _ _ _,(ku HK4).qz4 (wW _) _ _ _ _ _ _ _ _ _⟩
   ·exact ((ku HXX).qxl ((ku HSm2').qz4 (Or.inl (by omega)) _ _ _ _ _ _ _ _ _)).mono (by omega)
   ·exact zu (by omega) (jv ((ku HSm3).qz4 (Or.inl (by omega)) _ _ _ _ _ _ _ _ _).block (ku HO3))
   ·exact (((ku HBI3).shun (no':=none) (fun k hk=>by cases hk)).qxl ((ku HSm3).qz4 (Or.inl (by omega)) _ _ _ _ _ _ _ _ _)).mono (by omega)
   ·intro hb;rw[(ku HT2) ((ku HGB) hb),(ku HB3) hb];rfl
  ·rw[qqp hel rfl rfl] at h4;have H4:=hide h4;have HD:=hide ((ku HD2) hel);have hb3:=(kq0 hel).2;have hat4:(qg L [101,108,115,101] r3.2).at_=r3.2.at_+1:=by rw[kjn rfl rfl];unfold qwv;rw[hel];rfl
   clear h4 HD1 HD2;generalize qg L [101,108,115,101] r3.2=s4 at *;go_wp2_with fail
   refine ((ku HSub) hb0 _ P v L s4 (ku H4) (fun _=>by omega)).mono ?_;rintro e w5 ⟨va,vn,vc,b5,c5,rfl,ho5,hbi5,hb5,h5,hk5,_⟩;have hx5:=hk5.row (by omega) (ku HX4);have hy5:=hk5.row (b:=w3.heap.size) (by omega) (ku HY4);have hz5:=hk5.size;obtain ⟨⟨d0,d1,d2,d3,d4,d5,d6,d7,d8⟩,⟨e0,e1,e2,e3,e4,e5,e6,e7,e8⟩⟩:=kxg hx5;obtain ⟨⟨g0,g1,g2,g3,g4,g5,g6,g7,g8⟩,⟨_,_,_,_,_,_,_,_,f8⟩⟩:=kxg hy5;have HX5:=hide hx5;have HK5:=hide ((ku HK4).trans hk5);have HO5:=hide ho5;have HBI5:=hide hbi5;have HB5:=hide hb5;have HSm2'':=hide ((ku HSm2').kept hk5 (by omega));have HSm3'':=hide ((ku HSm3).kept hk5 (by omega));have H5:=hide h5;clear h5 hk5 hx5 hy5 ho5 hbi5 hb5 HX4 HK4 HY4 H4 HSm2' HSm3;generalize rS f 0 L s4=r5 at *;go_wp2
   refine rY (v:=.agg (stC true { place:=.nil,value:=.nil,cond:=t2 } (.pointer p2) (.slice ua un uc) (.slice va vn vc)).toArray) (rZ Tryz.results242 _ _ w.heap.size _ _ _ _ rfl (zvh (w:=w5.setCell ⟨w3.heap.size,8,none⟩ _) (by rw[ru _ _ _ _ (by simp;omega)];exact ku HX5) _ _ _ _ _ _ _ _ _) Tryz.underlying334 rfl (by kernel_rfl)) rfl ?_;rw[ku HD];refine ⟨.node 0 0 { place:=.nil,value:=.nil,cond:=t2 } (.node 0 0 noS b3 b5) .nil,_,rfl,⟨p2,ua,un,uc,va,vn,vc,c3,c5,[],by rw[ni],?_,⟨?_,(fun j _ h=>by cases h),?_⟩,⟨?_,(fun j _ h=>by cases h),?_⟩,rfl⟩,rfl,zvu,?_,((ku H5).setOther (ku HV) hX (by simp;omega) _).qz4 (ku HV) hX (wW _) _ _ _ _ _ _ _ _ _,((ku HK5).jm (by simp;omega) _).qz4 (wW _) _ _ _ _ _ _ _ _ _⟩
   ·exact ((ku HXX).qxl (((ku HSm2'').set (Or.inr (by simp;omega)) _).qz4 (Or.inl (by omega)) _ _ _ _ _ _ _ _ _)).mono (by omega)
   ·exact zu (by omega) (jv (((ku HSm3'').set (Or.inr (by simp)) _).qz4 (Or.inl (by omega)) _ _ _ _ _ _ _ _ _).block (ku HO3))
   ·exact (((ku HBI3).shun (no':=none) (fun k hk=>by cases hk)).qxl (((ku HSm3'').set (Or.inr (by simp)) _).qz4 (Or.inl (by omega)) _ _ _ _ _ _ _ _ _)).mono (by omega)
   ·exact zu (by omega) (jv (((uo.refl w4.heap.size w5).set (Or.inl (by simp;omega)) _).qz4 (Or.inl (by omega)) _ _ _ _ _ _ _ _ _).block (ku HO5))
   ·exact (((ku HBI5).shun (no':=none) (fun k hk=>by cases hk)).qxl (((uo.refl w4.heap.size w5).set (Or.inl (by simp;omega)) _).qz4 (Or.inl (by omega)) _ _ _ _ _ _ _ _ _)).mono (by omega)
   ·intro hb;rw[(ku HT2) ((ku HGB) hb3),(ku HB3) hb3,(ku HB5) hb];rfl
theorem vkv {l:List Value}(h:l.length=9):∃ c0 c1 c2 c3 c4 c5 c6 c7 c8,l=[c0,c1,c2,c3,c4,c5,c6,c7,c8]:=by
 match l,h with
 | [c0,c1,c2,c3,c4,c5,c6,c7,c8],_=>exact ⟨_,_,_,_,_,_,_,_,_,rfl⟩
theorem Tryz.infoSt:(Tryz.prog.info? 334).map (fun i=>(i.zero,i.size,i.bytes))=some (some (.agg #[.bool false,.string ⟨#[]⟩,.int .i64 0,.bool false,.string ⟨#[]⟩,.int .i64 0,.pointer none,.slice none 0 0,.slice none 0 0]),9,120):=by kernel_rfl
def jjc (L:List Tok)(F:Nat)(fin:PB × RS)(acc:PB)(s:RS):Prop:=
 (s.bad=true∧fin.2=s)∨(s.bad=false∧∃ g,g<F∧2 * (L.length-s.at_)+1≤g∧fin=(kz8 acc (rS g 1 L s).1,qg L [125] (rS g 1 L s).2))
theorem jjv {L:List Tok}{f:Nat}{st:RS}(hf:st.bad=false→2 * (L.length-st.at_)+2≤f)(hlt:st.at_<L.length):jjc L f (rS f 0 L st) .nil (qg L [123] st):=by
 cases hb:st.bad
 ·have:=hf hb;obtain ⟨f,rfl⟩:∃ k,f=k+1:=⟨f-1,by omega⟩;rw[rS];cases hb1:(qg L [123] st).bad
  ·have:=qz7 hb1;exact Or.inr ⟨hb1,f,by omega,by omega,rfl⟩
  ·exact Or.inl ⟨hb1,by show qg L [125] (rS f 1 L (qg L [123] st)).2=_;rw[kx9 hb1,yg hb1]⟩
 ·rw[yg hb];exact Or.inl ⟨hb,kx9 hb _ _⟩
def zq7 (L:List Tok)(s:RS):Bool:=ql L [105,102] s||kq1 L [110,97,109,101] s
theorem qwo {L:List Tok}{s:RS}(h:zq7 L s=true):s.bad=false∧ql L [125] s=false:=by
 unfold zq7 at h;rw[lg] at h;rcases h with h|h
 ·have:=kq0 h;refine ⟨this.2,?_⟩;unfold ql qzk;rw[this.1];simp
 ·unfold kq1 at h;simp only[wY,nP] at h;refine ⟨h.1,?_⟩;have hk:=h.2;rw[wP] at hk;unfold ql qzk;rw[hk];simp
theorem jv3 {L:List Tok}{s:RS}(hL:pq L)(hlt:s.at_<L.length)(h:zq7 L s=true):s.at_+1<L.length:=by
 unfold zq7 at h;rw[lg] at h;rcases h with h|h
 ·exact (kqb hL hlt h).2
 ·unfold kq1 at h;simp only[wY] at h;have hk:=h.2;rw[wP] at hk;exact hL.fin hlt (by rw[(hL.ok _ hlt).fin,hk];rfl)
theorem zzn {L:List Tok}{F:Nat}{fin:PB × RS}{acc:PB}{s:RS}(h:jjc L F fin acc s)(hg:zq7 L s=true):∃ g,g+1<F∧2 * (L.length-s.at_)+1≤g+1 ∧
  fin=(kz8 acc (kz8 (rDo (rS g 0 L) L s).1 (rS g 1 L (rDo (rS g 0 L) L s).2).1),qg L [125] (rS g 1 L (rDo (rS g 0 L) L s).2).2):=by
 obtain ⟨hb,hn⟩:=qwo hg;rcases h with ⟨h1,_⟩|⟨h1,g,hgF,h2,h3⟩
 ·rw[h1] at hb;cases hb
 ·obtain ⟨g,rfl⟩:∃ k,g=k+1:=⟨g-1,by omega⟩;refine ⟨g,hgF,h2,?_⟩;rw[h3,rS,if_neg (by rw[hn,hb];simp)]
theorem zzr {L:List Tok}{F g:Nat}{fin:PB × RS}{acc b:PB}{s:RS}{r:PB × RS}
  (h:g+1<F∧(r.2.bad=false→2 * (L.length-r.2.at_)+1≤g)∧fin=(kz8 acc (kz8 r.1 (rS g 1 L r.2).1),qg L [125] (rS g 1 L r.2).2)) (hl:uz b=1) (hb:r.2.bad=false→b=r.1):jjc L F fin (kz8 acc b) r.2:=by
 obtain ⟨h1,h2,h3⟩:=h;cases hbad:r.2.bad
 ·refine Or.inr ⟨hbad,g,by omega,h2 hbad,?_⟩;rw[h3,hb hbad,zzt]
 ·refine Or.inl ⟨hbad,?_⟩;rw[h3];show qg L [125] (rS g 1 L r.2).2=r.2;rw[kx9 hbad,yg hbad]
theorem jyv {L:List Tok}{F:Nat}{fin:PB × RS}{acc:PB}{s:RS}(h:jjc L F fin acc s)(hg:zq7 L s=false):fin.2=qg L [125] s∧(fin.2.bad=false→fin.1=acc):=by
 unfold zq7 at hg;rw[fC] at hg;rcases h with ⟨h1,h2⟩|⟨h1,g,hgF,h2,h3⟩
 ·rw[yg h1];exact ⟨h2,fun hb=>by rw[h2,h1] at hb;cases hb⟩
 ·obtain ⟨g,rfl⟩:∃ k,g=k+1:=⟨g-1,by omega⟩;cases hn:ql L [125] s
  ·have hd:(rDo (rS g 0 L) L s).2={ s with bad:=true }:=by
    have e1:qh L [110,97,109,101] s=(jk,{ s with bad:=true }):=by unfold qh;rw[hg.2];rfl
    have e2:(vg L s).2={ s with bad:=true }:=by
     unfold vg;simp only;rw[e1];simp only;rw[uj rfl];rfl
    unfold rDo;rw[hg.1];simp only[tZ,if_false];rw[e2,yg rfl,kql rfl,yg rfl]
   rw[rS,if_neg (by rw[hn,h1];simp)] at h3;have e:fin.2={ s with bad:=true }:=by
    rw[h3];show qg L [125] (rS g 1 L (rDo (rS g 0 L) L s).2).2=_;rw[hd,kx9 rfl,yg rfl]
   refine ⟨?_,fun hb=>by rw[e] at hb;cases hb⟩;rw[e];unfold qg;rw[hn];simp
  ·rw[rS,if_pos (by rw[hn];rfl)] at h3;rw[h3];exact ⟨rfl,fun _=>by simp only;rw[jjx]⟩
def jvv (w:World)(P:Nat)(v:Value)(L:List Tok)(F:Nat)(fin:PB × RS)(st0:RS)(x:Value)(wr:World):Prop:=
 ∃ (acc:PB) (cs:List Value) (s:RS),jjc L F fin acc s∧(s.bad=false→st0.bad=false)∧uz acc≤s.at_+s.bad.toNat∧wr.ownsRow w.heap.size 334 9 x (uz acc) cs∧BIs w.heap.size x.ownBlock wr acc cs∧Pd wr P v L s∧Kept P w wr
theorem zjm (f:Nat)(w:World)(P:Nat)(v:Value)(L:List Tok)(st:RS)(hBad:st.bad=false→jvw)(hS:st.bad=false→∀ g,g<f→zwb g)(h:Pd w P v L st)(hf:st.bad=false→2 * (L.length-st.at_)+2≤f) :
  Calls Tryz.prog 211 #[.pointer (some ⟨P,0,none⟩)] w fun e w'=>zx3 P v L w (rS f 0 L st) e w':=by
 obtain ⟨i0,hi,hz0,hz1,hz2⟩:=info_parts Tryz.infoSt;have hX:=h.in;have HV:=hide h.kqa;have hL:=h.ok;have hlen:=hL.len;have HSt:=hide (jjv hf h.lt);generalize rS f 0 L st=fin at *;go_enter Tryz.func211,Tryz.ntmps211
 go_wp2_with fail
 refine (qzx [123] (by decide) rfl _ P v L st h).mono ?_;rintro e w1 ⟨rfl,h1,hk1⟩;have HR:=hide (show jvv w P v L f fin st (.slice none 0 0) w1 from ⟨.nil,[],qg L [123] st,ku HSt,fun hb=>kj5 hb,by simp[uz],rP _ _ _ _,rfl,h1,hk1⟩);clear h h1 hk1 HSt hf;go_wp2_with fail
 go_loopw [3] (fun x wr=>jvv w P v L f fin st x wr) (fun _ wr=>L.length-qxh wr P)
 case atStart=>exact ku HR
 case round=>
  obtain ⟨acc,cs,s,hleft,hgd,hal,hown,hbi,hp,hk⟩:=hrel;have hlt:=hp.lt;have hbt:s.bad.toNat≤1:=by cases s.bad<;>decide
  have HL:=hide hleft;have HO:=hide hown;have HBI:=hide hbi;have HP:=hide hp;have HK:=hide hk;have hsz:=hk.size;obtain ⟨xa,xl,xc,rfl⟩:=jy hown;clear hleft hown hbi hp hk;go_wp2_with fail
  refine (kwi [105,102] (by decide) _ P v L s (ku HP)).mono ?_;rintro e w2 ⟨rfl,h2,hk2⟩;have H2:=hide h2;have HO2:=hide (kzq (ku HO) hk2 hX);have HBI2:=hide ((ku HBI).stay (fun k h1 h2=>hk2.block k h2 (by omega)));have HK2:=hide ((ku HK).trans hk2);have hs2:=(ku HK2).size;clear h2 hk2 HO HBI HK;cases hn:ql L [105,102] s
  ·go_wp2_with fail
   refine (jkc _ P v L s (ku H2)).mono ?_;rintro e w3 ⟨t,rfl,_,hnm,hb3⟩;have hk3:Kept P w2 w3:=.of_below hb3;have H3:=hide ((ku H2).below hb3);have HO3:=hide (kzq (ku HO2) hk3 hX);have HBI3:=hide ((ku HBI2).stay (fun k h1 h2=>hk3.block k h2 (by omega)));have HK3:=hide ((ku HK2).trans hk3);have hs3:=(ku HK3).size;clear hb3 hk3 H2 HO2 HBI2 HK2;go_wp2_with fail
   refine (zz7 t _).mono ?_;rintro e w4 ⟨rfl,hb4⟩;rw[hnm];have hk4:Kept P w3 w4:=.of_below hb4;have H4:=hide ((ku H3).below hb4);have HO4:=hide (kzq (ku HO3) hk4 hX);have HBI4:=hide ((ku HBI3).stay (fun k h1 h2=>hk4.block k h2 (by omega)));have HK4:=hide ((ku HK3).trans hk4);have hs4:=(ku HK4).size;clear hb4 hk4 H3 HO3 HBI3 HK3 hnm;cases hnk:kq1 L [110,97,109,101] s
   ·obtain ⟨he1,he2⟩:=jyv (ku HL) (by unfold zq7;rw[hn,hnk];rfl);have HE1:=hide he1;have HE2:=hide he2;clear he1 he2;go_wp2_with fail
    refine (qq9 [125] (by decide) rfl rfl _ P v L s (ku H4)).mono ?_;rintro e w5 ⟨rfl,h5,hk5⟩;have HO5:=hide (kzq (ku HO4) hk5 hX);have HBI5:=hide ((ku HBI4).stay (fun k h1 h2=>hk5.block k h2 (by omega)));have HK5:=hide ((ku HK4).trans hk5);have H5:=hide h5;clear h5 hk5;go_wp2
    go_ret
    exact ⟨xa,xl,xc,acc,cs,rfl,ku HO5,ku HBI5,fun hb=>((ku HE2) hb).symm,by rw[ku HE1];exact ku H5,ku HK5,by omega⟩
   ·have hgo:zq7 L s=true:=by unfold zq7;rw[hn,hnk];rfl
    have hb0:=(qwo hgo).1;have hns:=jv3 hL hlt hgo;obtain ⟨g,hg1,hg2,hg3⟩:=zzn (ku HL) hgo;have HL3:=hide hg3;clear HL hg3;go_wp2_with fail
    refine (zk9 g _ P v L s (fun _=>hBad (hgd hb0)) (fun _=>hS (hgd hb0) g (by omega)) (ku H4) (fun _=>by omega)).mono ?_;rintro e w6 ⟨b6,c6,rfl,hbi6,hl6,ho6,hg6,h6,hk6⟩;have hlen6:=hbi6.len;rw[hl6] at hlen6;have HO6:=hide (kzq (ku HO4) hk6 hX);have HBA:=hide ((ku HBI4).stay (fun k h1 h2=>hk6.block k h2 (by omega)));have HB6:=hide ((hbi6.shun (no':=(Value.slice xa xl xc).ownBlock) (fun k hk=>Or.inr (Or.inr (kqa (ku HO4) k hk)))).mono hs4);have HK6:=hide ((ku HK4).trans hk6);have hs6:=(ku HK6).size;have HM:=hide (zzr (L:=L) (F:=f) (g:=g) (fin:=fin) (acc:=acc) (b:=b6) (s:=s) ⟨hg1,fun hb=>by have:=qvu (L:=L) (st:=s) (fun s=>kkm L g 0 s) (fun s hb=>qwj hb g 0) hb;omega,ku HL3⟩ hl6 hg6);have hmo:=zjx (L:=L) (st:=s) (fun s=>kkm L g 0 s);have hpr:=qvu (L:=L) (st:=s) (fun s=>kkm L g 0 s) (fun s hb=>qwj hb g 0);have H6:=hide h6;have HC6:=hide ho6;clear hbi6 hg6 h6 hk6 HL3 ho6;generalize rDo (rS g 0 L) L s=r6 at *;obtain ⟨c0,c1,c2,c3,c4,c5,c6,c7,c8,rfl⟩:=vkv (by omega);go_wp2_with (at_builtin;refine lJ _ rfl _ _ 125 rfl w.heap.size 334 i0 _ 9 120 Tryz.underlying125 hi hz0 hz1 hz2 rfl (by decide) _ _ _ rfl ((ku HO6).alloc _) ⟨w6.heap.size,0,none⟩ 1 1 [c0,c1,c2,c3,c4,c5,c6,c7,c8] rfl rfl (kj3 w6 _ [c0,c1,c2,c3,c4,c5,c6,c7,c8] _ rfl) (ku HC6) (by unfold maxLen;omega) (by omega) (by simp;omega) ?_)
    intro v7 w7 hown7 hgrow7 hnn7 hat7;have hge:=yw (ku HO6);have hk7:Kept P w w7:=((ku HK6).alloc _).grown hgrow7 hge;have h7:Pd w7 P v L r6.2:=((ku H6).alloc _).grown hgrow7 hge (ku HV) hX;have hbi7:BIs w.heap.size v7.ownBlock w7 (kz8 acc b6) (cs++[c0,c1,c2,c3,c4,c5,c6,c7,c8]):=
     BIs.qxk ((ku HO6).alloc _) hgrow7 (fun k hk=>(vj1 hat7 k hk).imp id (fun h=>by simpa using h)) (((ku HBA).app (ku HB6)).stay (fun k _ hk=>nZ _ _ _ hk))
    have HR7:=hide (show jvv w P v L f fin st v7 w7 from ⟨kz8 acc b6,_,r6.2,ku HM,fun _=>hgd hb0,by rw[qqy];cases hb6:r6.2.bad<;>simp only[Jm,Bool.toNat_true]<;>(try have:=hpr hb6)<;>(try rw[hb0] at hal)<;>simp only[Jm] at hal<;>omega,by rw[qqy,hl6];exact hown7,hbi7,h7,hk7⟩);have HMS:=hide (kxc (ku HP) h7 hb0 hns hpr);clear hown7 hgrow7 hk7 h7 hge hbi7 hat7 hnn7;go_wp2
    go_roundw
    case rel=>exact ku HR7
    case measure=>exact ku HMS
  ·have hgo:zq7 L s=true:=by unfold zq7;rw[hn];rfl
   have hb0:=(qwo hgo).1;have hns:=jv3 hL hlt hgo;obtain ⟨g,hg1,hg2,hg3⟩:=zzn (ku HL) hgo;have HL3:=hide hg3;clear HL hg3;go_wp2_with fail
   refine (zk9 g _ P v L s (fun _=>hBad (hgd hb0)) (fun _=>hS (hgd hb0) g (by omega)) (ku H2) (fun _=>by omega)).mono ?_;rintro e w6 ⟨b6,c6,rfl,hbi6,hl6,ho6,hg6,h6,hk6⟩;have hlen6:=hbi6.len;rw[hl6] at hlen6;have HO6:=hide (kzq (ku HO2) hk6 hX);have HBA:=hide ((ku HBI2).stay (fun k h1 h2=>hk6.block k h2 (by omega)));have HB6:=hide ((hbi6.shun (no':=(Value.slice xa xl xc).ownBlock) (fun k hk=>Or.inr (Or.inr (kqa (ku HO2) k hk)))).mono hs2);have HK6:=hide ((ku HK2).trans hk6);have hs6:=(ku HK6).size;have HM:=hide (zzr (L:=L) (F:=f) (g:=g) (fin:=fin) (acc:=acc) (b:=b6) (s:=s) ⟨hg1,fun hb=>by have:=qvu (L:=L) (st:=s) (fun s=>kkm L g 0 s) (fun s hb=>qwj hb g 0) hb;omega,ku HL3⟩ hl6 hg6);have hmo:=zjx (L:=L) (st:=s) (fun s=>kkm L g 0 s);have hpr:=qvu (L:=L) (st:=s) (fun s=>kkm L g 0 s) (fun s hb=>qwj hb g 0);have H6:=hide h6;have HC6:=hide ho6;clear hbi6 hg6 h6 hk6 HL3 ho6;generalize rDo (rS g 0 L) L s=r6 at *;obtain ⟨c0,c1,c2,c3,c4,c5,c6,c7,c8,rfl⟩:=vkv (by omega);go_wp2_with (at_builtin;refine lJ _ rfl _ _ 125 rfl w.heap.size 334 i0 _ 9 120 Tryz.underlying125 hi hz0 hz1 hz2 rfl (by decide) _ _ _ rfl ((ku HO6).alloc _) ⟨w6.heap.size,0,none⟩ 1 1 [c0,c1,c2,c3,c4,c5,c6,c7,c8] rfl rfl (kj3 w6 _ [c0,c1,c2,c3,c4,c5,c6,c7,c8] _ rfl) (ku HC6) (by unfold maxLen;omega) (by omega) (by simp;omega) ?_)
   intro v7 w7 hown7 hgrow7 hnn7 hat7;have hge:=yw (ku HO6);have hk7:Kept P w w7:=((ku HK6).alloc _).grown hgrow7 hge;have h7:Pd w7 P v L r6.2:=((ku H6).alloc _).grown hgrow7 hge (ku HV) hX;have hbi7:BIs w.heap.size v7.ownBlock w7 (kz8 acc b6) (cs++[c0,c1,c2,c3,c4,c5,c6,c7,c8]):=
    BIs.qxk ((ku HO6).alloc _) hgrow7 (fun k hk=>(vj1 hat7 k hk).imp id (fun h=>by simpa using h)) (((ku HBA).app (ku HB6)).stay (fun k _ hk=>nZ _ _ _ hk))
   have HR7:=hide (show jvv w P v L f fin st v7 w7 from ⟨kz8 acc b6,_,r6.2,ku HM,fun _=>hgd hb0,by rw[qqy];cases hb6:r6.2.bad<;>simp only[Jm,Bool.toNat_true]<;>(try have:=hpr hb6)<;>(try rw[hb0] at hal)<;>simp only[Jm] at hal<;>omega,by rw[qqy,hl6];exact hown7,hbi7,h7,hk7⟩);have HMS:=hide (kxc (ku HP) h7 hb0 hns hpr);clear hown7 hgrow7 hk7 h7 hge hbi7 hat7 hnn7;go_wp2
   go_roundw
   case rel=>exact ku HR7
   case measure=>exact ku HMS
theorem jyx:jvw:=fun g w P v L st hb h=>by
 have:=zjm 0 w P v L st (fun h=>by rw[hb] at h;cases h) (fun h=>by rw[hb] at h;cases h) h (fun h=>by rw[hb] at h;cases h);refine this.mono ?_;rintro e w' ⟨ua,un,uc,b,cs,h1,h2,h3,h4,h5,h6⟩;rw[kx9 hb] at h4 h5;exact ⟨ua,un,uc,b,cs,h1,h2,h3,fun h=>(by rw[kx9 hb,hb] at h;cases h),by rw[kx9 hb];exact h5,h6⟩
theorem vxq (f:Nat):zwb f:=by
 induction f using Nat.strongRecOn with
 | ind f ih=>exact fun w P v L st h hf=>zjm f w P v L st (fun _=>jyx) (fun _ g hg=>ih g hg) h hf
theorem jzk (w:World)(P:Nat)(v:Value)(L:List Tok)(st:RS)(h:Pd w P v L st) :
  Calls Tryz.prog 211 #[.pointer (some ⟨P,0,none⟩)] w fun e w'=>zx3 P v L w (rS (kwj L) 0 L st) e w':=
 vxq (kwj L) w P v L st h (fun _=>by unfold kwj;omega)
end Go.Proofs.YtpmcnonmkghokaaGreatDoor

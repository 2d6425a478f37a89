import Derived.Test.YtpmcnonmkghokaaGreatDoorT01
import Derived.Deep.RegionHeld3
import Derived.Deep.RegionLaw
import Derived.Deep.AppendLies
import Derived.Maps.AppendAt
set_option maxRecDepth 100000
set_option maxHeartbeats 2000000
set_option linter.unusedVariables false
set_option linter.unusedSimpArgs false
namespace Go.Proofs.YtpmcnonmkghokaaGreatDoor
open Go.RowKit
structure PP where
 name:Tok
 set_:Tok
def rPP (L:List Tok)(st:RS):PP × RS:=
 (⟨(qh L [110,97,109,101] st).1,(qh L [110,97,109,101] (qg L [58] (qh L [110,97,109,101] st).2)).1⟩,(qh L [110,97,109,101] (qg L [58] (qh L [110,97,109,101] st).2)).2)
def kk6:Nat→List Tok→List PP→RS→List PP × RS
 | 0,_,l,st=>(l,st)
 | f+1,L,l,st=>
  if st.bad then (l,st)
  else if ql L [44] (rPP L st).2 then kk6 f L (l++[(rPP L st).1]) (qg L [44] (rPP L st).2)
  else (l++[(rPP L st).1],(rPP L st).2)
def kqr (L:List Tok)(st:RS):List PP × RS:=
 if ql L [41] (qg L [40] st) then ([],qg L [41] (qg L [40] st))
 else ((kk6 (pz L) L [] (qg L [40] st)).1,qg L [41] (kk6 (pz L) L [] (qg L [40] st)).2)
theorem qqk (L:List Tok)(st:RS):st.at_≤(rPP L st).2.at_:=rV (yx L _ st) (rV (zi L [58] _) (yx L _ _))
theorem kvt {w : World} {b : Nat} {x0 x1 x2 x3 x4 x5 : Value} {t : TypeId} (h : w.heap[b]? = some (.cells #[x0, x1, x2, x3, x4, x5] t (0, 0))) :
    w.cell? ⟨b, 0, none⟩ = some x0 ∧ w.cell? ⟨b, 1, none⟩ = some x1 ∧ w.cell? ⟨b, 2, none⟩ = some x2 ∧ w.cell? ⟨b, 3, none⟩ = some x3 ∧ w.cell? ⟨b, 4, none⟩ = some x4 ∧ w.cell? ⟨b, 5, none⟩ = some x5 ∧
    w.frozen? ⟨b, 0, none⟩ = false ∧ w.frozen? ⟨b, 1, none⟩ = false ∧ w.frozen? ⟨b, 2, none⟩ = false ∧ w.frozen? ⟨b, 3, none⟩ = false ∧ w.frozen? ⟨b, 4, none⟩ = false ∧ w.frozen? ⟨b, 5, none⟩ = false :=
  ⟨by rw [cell_of_row w b 0 _ _ _ h]; rfl, by rw [cell_of_row w b 1 _ _ _ h]; rfl, by rw [cell_of_row w b 2 _ _ _ h]; rfl, by rw [cell_of_row w b 3 _ _ _ h]; rfl, by rw [cell_of_row w b 4 _ _ _ h]; rfl, by rw [cell_of_row w b 5 _ _ _ h]; rfl,
   frozen_of_row w b 0 _ _ h, frozen_of_row w b 1 _ _ h, frozen_of_row w b 2 _ _ h, frozen_of_row w b 3 _ _ h, frozen_of_row w b 4 _ _ h, frozen_of_row w b 5 _ _ h⟩
theorem vwy {w:World}{b:Nat}{x0 x1 x2 x3 x4 x5:Value}{t:TypeId}(h:w.heap[b]?=some (.cells #[x0,x1,x2,x3,x4,x5] t (0,0)))(a c d:Value) :
  (((w.setCell ⟨b,0,none⟩ a).setCell ⟨b,1,none⟩ c).setCell ⟨b,2,none⟩ d).heap[b]?=some (.cells #[a,c,d,x3,x4,x5] t (0,0)):=
 heap_setCell_same _ b 2 _ _ _ (heap_setCell_same _ b 1 _ _ _ (heap_setCell_same _ b 0 _ _ _ h))
theorem vww {w:World}{b:Nat}{x0 x1 x2 x3 x4 x5:Value}{t:TypeId}(h:w.heap[b]?=some (.cells #[x0,x1,x2,x3,x4,x5] t (0,0)))(a c d:Value) :
  (((w.setCell ⟨b,3,none⟩ a).setCell ⟨b,4,none⟩ c).setCell ⟨b,5,none⟩ d).heap[b]?=some (.cells #[x0,x1,x2,a,c,d] t (0,0)):=
 heap_setCell_same _ b 5 _ _ _ (heap_setCell_same _ b 4 _ _ _ (heap_setCell_same _ b 3 _ _ _ h))
structure PVar where
 name:Tok
 over:Tok
 type_:Tok
 top:Tok
def kjv (L:List Tok)(st:RS):Tok × RS:=
 if ql L [91] st then ((qh L [110,97,109,101] (qg L [91] st)).1,qg L [93] (qh L [110,97,109,101] (qg L [91] st)).2) else (jk,st)
def kkw (L:List Tok)(st:RS):Tok × RS:=
 if ql L [98,111,111,108] st then (jk,qg L [98,111,111,108] st)
 else if ql L [116,111] st then qh L [100,105,103,105,116] (qg L [116,111] st)
 else (jk,(qh L [110,97,109,101] st).2)
def kyo (L : List Tok) (st : RS) : PVar × RS :=
  ({ name := (qh L [110, 97, 109, 101] (qg L [118, 97, 114] st)).1,
     over := (kjv L (qg L [58] (qh L [110, 97, 109, 101] (qg L [118, 97, 114] st)).2)).1,
     type_ := tk L (kjv L (qg L [58] (qh L [110, 97, 109, 101] (qg L [118, 97, 114] st)).2)).2.at_,
     top := (kkw L (kjv L (qg L [58] (qh L [110, 97, 109, 101] (qg L [118, 97, 114] st)).2)).2).1 },
   qg L [59] (kkw L (kjv L (qg L [58] (qh L [110, 97, 109, 101] (qg L [118, 97, 114] st)).2)).2).2)
structure PSet where
 name:Tok
 size:Tok
def kxl (L:List Tok)(st:RS):PSet × RS:=
  (⟨(qh L [110,97,109,101] (qg L [115,101,116] st)).1,(qh L [100,105,103,105,116] (qh L [110,97,109,101] (qg L [115,101,116] st)).2).1⟩,
   qg L [59] (qh L [100,105,103,105,116] (qh L [110,97,109,101] (qg L [115,101,116] st)).2).2)
def kyp:Nat→List Tok→List PSet→RS→List PSet × RS
 | 0,_,l,st=>(l,st)
 | f+1,L,l,st=>if ql L [115,101,116] st then kyp f L (l++[(kxl L st).1]) (kxl L st).2 else (l,st)
structure PKind where
 name:Tok
 members:List Tok
def kjw (L:List Tok)(st:RS):PKind × RS:=
 (⟨(qh L [110,97,109,101] (qg L [107,105,110,100] st)).1,(kwl L (qh L [110,97,109,101] (qg L [107,105,110,100] st)).2).1⟩,(kwl L (qh L [110,97,109,101] (qg L [107,105,110,100] st)).2).2)
def qkv:Nat→List Tok→List PKind→RS→List PKind × RS
 | 0,_,l,st=>(l,st)
 | f+1,L,l,st=>if ql L [107,105,110,100] st then qkv f L (l++[(kjw L st).1]) (kjw L st).2 else (l,st)
theorem qjk {L:List Tok}{s:List UInt8}{st:RS}(h:ql L s st=true)(ho:opens s=false):(qg L s st).at_=st.at_+1:=by
 apply qz7;unfold qg;rw[h,ho];rfl
theorem jz5 {L:List Tok}{st:RS}(h:ql L [115,101,116] st=true):st.at_+1≤(kxl L st).2.at_:=by
 have h1:=qjk h rfl;have h2:=yx L [110,97,109,101] (qg L [115,101,116] st);have h3:=yx L [100,105,103,105,116] (qh L [110,97,109,101] (qg L [115,101,116] st)).2;have h4:=zi L [59] (qh L [100,105,103,105,116] (qh L [110,97,109,101] (qg L [115,101,116] st)).2).2;show st.at_+1≤(qg L [59] (qh L [100,105,103,105,116] (qh L [110,97,109,101] (qg L [115,101,116] st)).2).2).at_;omega
theorem kjz {w wx:World}{a:Addr}{b:Bool}(hb:Below w.heap.size w wx)(hl:a.block<w.heap.size)(h:w.frozen? a=b):wx.frozen? a=b:=(hb.frozen hl).trans h
theorem Kept.toBelow {R B:Nat}{w w':World}(h:Kept R w w')(hB:B≤R)(hw:B≤w.heap.size):Below B w w':=
 ⟨h.os,h.tape,h.output,h.size,fun k hk=>h.block k (by omega) (by omega)⟩
theorem xq {lo base size size' e e':Nat}{w w':World}{u v:Value}{n m:Nat}{xs zs:List Value}(h:w.ownsRow lo e' size' u m xs)(hv:w.ownsRow base e size v n zs)(he:e'≠e)(hg:w.grownBy w' v.ownBlock):w'.ownsRow lo e' size' u m xs:=by
 refine h.kept hg ?_;cases hu:u.ownBlock with
 | none=>exact Or.inl rfl
 | some j=>
  refine Or.inr fun hj=>?_
  rcases h.2 with ⟨rfl,_⟩|⟨g,cap,cur,rfl,_,hh,_⟩
  ·simp[Value.ownBlock] at hu
  ·simp[Value.ownBlock] at hu;subst hu;exact not_row hv hh he hj
def kji (L:List Tok)(st:RS):List PSet × List PKind × RS:=
 ((kyp (pz L) L [] st).1,qkv (pz L) L [] (kyp (pz L) L [] st).2)
theorem zxz (L:List Tok)(st:RS):st.at_≤(kwl L st).2.at_:=by
 have h:∀ (f:Nat) (l:List Tok) (s:RS),s.at_≤(kv1 f L l s).2.at_:=by
  intro f;induction f with
  | zero=>intro l s;exact wW _
  | succ f ih=>
   intro l s;rw[kv1];split
   ·exact wW _
   ·split
    ·exact rV (rV (yx L _ s) (zi L [44] _)) (ih _ _)
    ·exact yx L _ s
 exact rV (zi L [123] st) (rV (h _ _ _) (zi L [125] _))
theorem zyc {L:List Tok}{st:RS}(h:ql L [107,105,110,100] st=true):st.at_+1≤(kjw L st).2.at_:=by
 have h1:=qjk h rfl;have h2:=yx L [110,97,109,101] (qg L [107,105,110,100] st);have h3:=zxz L (qh L [110,97,109,101] (qg L [107,105,110,100] st)).2;show st.at_+1≤(kwl L (qh L [110,97,109,101] (qg L [107,105,110,100] st)).2).2.at_;omega
theorem Kept.row {P : Nat} {w w' : World} {b : Nat} {o : Obj} (hk : Kept P w w') (hb : b ≠ P) (h : w.heap[b]? = some o) : w'.heap[b]? = some o := by
  rw [hk.block b (by by_cases hl : b < w.heap.size
                     · exact hl
                     · rw [Array.getElem?_eq_none (by omega)] at h; cases h) hb]; exact h
theorem qp {w : World} {b : Nat} {o p : Obj} (h : w.heap[b]? = some o) : (w.alloc p).heap[b]? = some o := by
  rw [Below.heap_alloc _ _ _ (by by_cases hl : b < w.heap.size
                                 · exact hl
                                 · rw [Array.getElem?_eq_none (by omega)] at h; cases h)]; exact h
theorem qy (w:World)(o:Obj):(w.alloc o).heap[w.heap.size]?=some o:=heap_alloc_new w o
theorem Kept.kq5 {P:Nat}{w:World}(o:Obj):Kept P w (w.alloc o):=(Kept.refl _ _).alloc _
theorem Pd.alloc {w:World}{P:Nat}{v:Value}{L:List Tok}{st:RS}(h:Pd w P v L st)(o:Obj):Pd (w.alloc o) P v L st:=h.below (below_alloc1 _ _)
theorem Pd.kqa {w:World}{P:Nat}{v:Value}{L:List Tok}{st:RS}(h:Pd w P v L st):∀ g,v.ownBlock=some g→g<w.heap.size:=Go.Proofs.YtpmcnonmkghokaaGreatDoor.kqa h.own
theorem Pd.set2 {w:World}{P B:Nat}{v:Value}{L:List Tok}{st:RS}(h:Pd w P v L st)(hB:∀ g,v.ownBlock=some g→g<B)(hP:P<B){p q:Addr}(hp:B≤p.block)(hq:B≤q.block)(a b:Value):Pd ((w.setCell p a).setCell q b) P v L st:=
 (h.setOther hB hP hp a).setOther hB hP hq b
def sqT (L:List Tok)(st:RS):Tok × RS:=qh L [110,97,109,101] (qg L [91] st)
theorem qvh (w:World)(P:Nat)(v:Value)(L:List Tok)(st:RS)(h:Pd w P v L st) :
  Calls Tryz.prog 207 #[.pointer (some ⟨P,0,none⟩)] w fun e w'=>e=.returned (ptV (sqT L st).1)∧Pd w' P v L (qg L [93] (sqT L st).2)∧Kept P w w':=by
 have hX:=h.in;have HV:=hide h.kqa;go_enter Tryz.func207,Tryz.ntmps207
 go_wp2_with fail
 refine (qzx [91] (by decide) rfl _ P v L st (h.alloc _)).mono ?_;rintro e w1 ⟨rfl,h1,hk1⟩;have hx1:=hk1.row (b:=w.heap.size) (by omega) (qy _ _);have HK1:=hide ((Kept.kq5 _).trans hk1);have H1:=hide h1;have HX1:=hide hx1;clear h1 hk1 hx1 h;go_wp2_with fail
 refine (kzv _ P v L _ (ku H1)).mono ?_;rintro e w2 ⟨rfl,h2,hk2⟩;have HI:=hide (show sqT L st=qh L [110,97,109,101] (qg L [91] st) from rfl);generalize qh L [110,97,109,101] (qg L [91] st)=i at *;have hx2:=hk2.row (by omega) (ku HX1);have hs2:=wX hx2;have HK2:=hide ((ku HK1).trans hk2);have H2:=hide h2;have HX2:=hide hx2;clear h2 hk2 hx2 H1 HX1 HK1;unfold ptV;go_wp2_with fail
 refine (qq9 [93] (by decide) rfl rfl _ P v L _ ((ku H2).alloc _)).mono ?_;rintro e w3 ⟨rfl,h3,hk3⟩;have hx3:=hk3.row (by omega) (qp (ku HX2));have hy3:=hk3.row (b:=w2.heap.size) (by omega) (qy _ _);obtain ⟨d0,d1,e0,e1⟩:=yj hx3;obtain ⟨g0,g1,_,_⟩:=yj hy3;have HK3:=hide (((ku HK2).alloc _).trans hk3);have H3:=hide h3;have HX3:=hide hx3;clear h3 hk3 hx3 hy3 H2 HX2 HK2;go_wp2
 refine rY (v:=ptV i.1) (rZ Tryz.results207 _ _ w.heap.size _ _ _ _ rfl (set2 (ku HX3) _ _) Tryz.underlying107 rfl (by kernel_rfl)) rfl ?_;rw[ku HI];exact ⟨rfl,(ku H3).set2 (ku HV) hX (wW _) (wW _) _ _,((ku HK3).jm (wW _) _).jm (wW _) _⟩
theorem zo {w : World} {b : Nat} {x0 x1 x2 x3 x4 : Value} {t : TypeId} (h : w.heap[b]? = some (.cells #[x0, x1, x2, x3, x4] t (0, 0))) :
    w.cell? ⟨b, 0, none⟩ = some x0 ∧ w.cell? ⟨b, 1, none⟩ = some x1 ∧ w.cell? ⟨b, 2, none⟩ = some x2 ∧ w.cell? ⟨b, 3, none⟩ = some x3 ∧ w.cell? ⟨b, 4, none⟩ = some x4 ∧
    w.frozen? ⟨b, 0, none⟩ = false ∧ w.frozen? ⟨b, 1, none⟩ = false ∧ w.frozen? ⟨b, 2, none⟩ = false ∧ w.frozen? ⟨b, 3, none⟩ = false ∧ w.frozen? ⟨b, 4, none⟩ = false :=
  ⟨by rw [cell_of_row w b 0 _ _ _ h]; rfl, by rw [cell_of_row w b 1 _ _ _ h]; rfl, by rw [cell_of_row w b 2 _ _ _ h]; rfl, by rw [cell_of_row w b 3 _ _ _ h]; rfl, by rw [cell_of_row w b 4 _ _ _ h]; rfl,
   frozen_of_row w b 0 _ _ h, frozen_of_row w b 1 _ _ h, frozen_of_row w b 2 _ _ h, frozen_of_row w b 3 _ _ h, frozen_of_row w b 4 _ _ h⟩
theorem kjc {w:World}{b:Nat}{x0 x1 x2 x3 x4:Value}{t:TypeId}(h:w.heap[b]?=some (.cells #[x0,x1,x2,x3,x4] t (0,0)))(y0 y1 y2 y3 y4:Value) :
  (((((w.setCell ⟨b,0,none⟩ y0).setCell ⟨b,1,none⟩ y1).setCell ⟨b,2,none⟩ y2).setCell ⟨b,3,none⟩ y3).setCell ⟨b,4,none⟩ y4).heap[b]?=some (.cells #[y0,y1,y2,y3,y4] t (0,0)):=
 heap_setCell_same _ b 4 _ _ _ (heap_setCell_same _ b 3 _ _ _ (heap_setCell_same _ b 2 _ _ _ (heap_setCell_same _ b 1 _ _ _ (heap_setCell_same _ b 0 _ _ _ h))))
theorem Pd.kv0 {w:World}{P B:Nat}{v:Value}{L:List Tok}{st:RS}(h:Pd w P v L st)(hB:∀ g,v.ownBlock=some g→g<B)(hP:P<B){b:Nat}(hb:B≤b)(y0 y1 y2 y3 y4:Value) :
  Pd (((((w.setCell ⟨b,0,none⟩ y0).setCell ⟨b,1,none⟩ y1).setCell ⟨b,2,none⟩ y2).setCell ⟨b,3,none⟩ y3).setCell ⟨b,4,none⟩ y4) P v L st:=
 (((((h.setOther hB hP hb y0).setOther hB hP hb y1).setOther hB hP hb y2).setOther hB hP hb y3).setOther hB hP hb y4)
theorem Kept.kv0 {P:Nat}{a w:World}(h:Kept P a w){b:Nat}(hb:a.heap.size≤b)(y0 y1 y2 y3 y4:Value) :
  Kept P a (((((w.setCell ⟨b,0,none⟩ y0).setCell ⟨b,1,none⟩ y1).setCell ⟨b,2,none⟩ y2).setCell ⟨b,3,none⟩ y3).setCell ⟨b,4,none⟩ y4):=
 ((((h.jm hb y0).jm hb y1).jm hb y2).jm hb y3).jm hb y4
def jzz (L:List Tok)(st:RS):Bool:=ql L [91] (qh L [110,97,109,101] st).2
def plT (L:List Tok)(st:RS):Tok × Bool × Tok × RS:=
 if jzz L st then ((qh L [110,97,109,101] st).1,true,(sqT L (qh L [110,97,109,101] st).2).1,qg L [93] (sqT L (qh L [110,97,109,101] st).2).2)
 else ((qh L [110,97,109,101] st).1,false,jk,(qh L [110,97,109,101] st).2)
def plV (x:Tok × Bool × Tok × RS):Value:=.agg #[.string x.1.text,.int .i64 x.1.at_,.bool x.2.1,.string x.2.2.1.text,.int .i64 x.2.2.1.at_]
theorem zjw (w:World)(P:Nat)(v:Value)(L:List Tok)(st:RS)(h:Pd w P v L st) :
  Calls Tryz.prog 260 #[.pointer (some ⟨P,0,none⟩)] w fun e w'=>e=.returned (plV (plT L st))∧Pd w' P v L (plT L st).2.2.2∧Kept P w w':=by
 have hX:=h.in;have HV:=hide h.kqa;go_enter Tryz.func260,Tryz.ntmps260
 go_wp2_with fail
 refine (kzv _ P v L st (h.alloc _)).mono ?_;rintro e w1 ⟨rfl,h1,hk1⟩;have HP:=hide (show plT L st=if ql L [91] (qh L [110,97,109,101] st).2 then ((qh L [110,97,109,101] st).1,true,(sqT L (qh L [110,97,109,101] st).2).1,qg L [93] (sqT L (qh L [110,97,109,101] st).2).2)
  else ((qh L [110,97,109,101] st).1,false,jk,(qh L [110,97,109,101] st).2) from rfl)
 generalize qh L [110,97,109,101] st=k at *;have hx1:=hk1.row (b:=w.heap.size) (by omega) (qy _ _);have hs1:=wX hx1;have HK1:=hide ((Kept.kq5 _).trans hk1);have H1:=hide h1;have HX1:=hide hx1;clear h1 hk1 hx1 h;unfold ptV;go_wp2_with fail
 refine (kwi [91] (by decide) _ P v L _ ((ku H1).alloc _)).mono ?_;rintro e w2 ⟨rfl,h2,hk2⟩;have hx2:=hk2.row (by omega) (qp (ku HX1));have hy2:=hk2.row (b:=w1.heap.size) (by omega) (qy _ _);have HK2:=hide (((ku HK1).alloc _).trans hk2);have H2:=hide h2;have HX2:=hide hx2;have HY2:=hide hy2;clear h2 hk2 hx2 hy2 H1 HX1 HK1;cases hn:ql L [91] k.2
 ·rw[hn] at HP;obtain ⟨d0,d1,d2,d3,d4,e0,e1,e2,e3,e4⟩:=zo (ku HX2);obtain ⟨g0,g1,g2,g3,g4,_⟩:=zo (ku HY2);go_wp2
  refine rY (v:=plV (k.1,false,jk,k.2)) (rZ Tryz.results260 _ _ w.heap.size _ _ _ _ rfl (kjc (ku HX2) _ _ _ _ _) Tryz.underlying332 rfl (by kernel_rfl)) rfl ?_;rw[ku HP];exact ⟨rfl,(ku H2).kv0 (ku HV) hX (wW _) _ _ _ _ _,(ku HK2).kv0 (wW _) _ _ _ _ _⟩
 ·rw[hn] at HP;obtain ⟨g0,g1,g2,g3,g4,f0,f1,f2,f3,f4⟩:=zo (ku HY2);go_wp2_with fail
  refine (qvh _ P v L _ ((ku H2).setOther (ku HV) hX (by simp;omega) _)).mono ?_;rintro e w3 ⟨rfl,h3,hk3⟩;clear g0 g1 g2 g3 g4 f0 f1 f2 f3 f4;generalize sqT L k.2=i at *;have hx3:=hk3.row (b:=w.heap.size) (by omega) ((ru _ _ _ _ (by simp;omega)).trans (ku HX2));have hy3:=hk3.row (b:=w1.heap.size) (by omega) (heap_setCell_same _ _ 2 _ _ _ (ku HY2));obtain ⟨d0,d1,d2,d3,d4,e0,e1,e2,e3,e4⟩:=zo hx3;obtain ⟨g0,g1,g2,g3,g4,f0,f1,f2,f3,f4⟩:=zo hy3;have HK3:=hide (((ku HK2).jm (p:=⟨w1.heap.size,2,none⟩) (by simp;omega) (.bool true)).trans hk3);have H3:=hide h3;have HX3:=hide hx3;have HY3:=hide hy3;clear h3 hk3 hx3 hy3 H2 HX2 HK2 HY2;unfold ptV;go_wp2
  refine rY (v:=plV (k.1,true,i.1,qg L [93] i.2)) (rZ Tryz.results260 _ _ w.heap.size _ _ _ _ rfl (kjc (w:=(w3.setCell ⟨w1.heap.size,3,none⟩ _).setCell ⟨w1.heap.size,4,none⟩ _) (by rw[ru _ _ _ _ (by simp;omega),ru _ _ _ _ (by simp;omega)];exact ku HX3) _ _ _ _ _) Tryz.underlying332 rfl (by kernel_rfl)) rfl ?_;rw[ku HP];exact ⟨rfl,((ku H3).set2 (ku HV) hX (by simp;omega) (by simp;omega) _ _).kv0 (ku HV) hX (wW _) _ _ _ _ _,(((ku HK3).jm (by simp;omega) _).jm (by simp;omega) _).kv0 (wW _) _ _ _ _ _⟩
structure PRule where
 name:Tok
 params:List PP
 guard:PX
 body:PB
structure PTree where
 sets:List PSet
 kinds:List PKind
 vars:List PVar
 rules:List PRule
 nevers:List PRule
def qyx:Nat→List Tok→List PVar→RS→List PVar × RS
 | 0,_,l,st=>(l,st)
 | f+1,L,l,st=>
  if st.bad then (l,st)
  else if ql L [118,97,114] (kyo L st).2 then qyx f L (l++[(kyo L st).1]) (kyo L st).2
  else (l++[(kyo L st).1],(kyo L st).2)
def qvz (L:List Tok)(st:RS):Tok × RS:=qh L [110,97,109,101] (qg L [114,117,108,101] st)
def kyy (L:List Tok)(st:RS):List PP × RS:=kqr L (qvz L st).2
def kyu (L:List Tok)(st:RS):PX × RS:=rX (ji L) 0 .nil L (qg L [105,102] (kyy L st).2)
def kqm (L:List Tok)(st:RS):PRule × RS:=
 (⟨(qvz L st).1,(kyy L st).1,(kyu L st).1,(rS (kwj L) 0 L (kyu L st).2).1⟩,(rS (kwj L) 0 L (kyu L st).2).2)
def kw5:Nat→List Tok→List PRule→RS→List PRule × RS
 | 0,_,l,st=>(l,st)
 | f+1,L,l,st=>
  if st.bad then (l,st)
  else if ql L [114,117,108,101] (kqm L st).2 then kw5 f L (l++[(kqm L st).1]) (kqm L st).2
  else (l++[(kqm L st).1],(kqm L st).2)
def qjw (L:List Tok)(st:RS):Tok × RS:=qh L [110,97,109,101] (qg L [110,101,118,101,114] st)
def qjv (L:List Tok)(st:RS):List PP × RS:=kqr L (qjw L st).2
def kwf (L:List Tok)(st:RS):PX × RS:=rX (ji L) 0 .nil L (qjv L st).2
def kqn (L:List Tok)(st:RS):PRule × RS:=
 (⟨(qjw L st).1,(qjv L st).1,(kwf L st).1,.nil⟩,qg L [59] (kwf L st).2)
def kvc:Nat→List Tok→List PRule→RS→List PRule × RS
 | 0,_,l,st=>(l,st)
 | f+1,L,l,st=>if ql L [110,101,118,101,114] st then kvc f L (l++[(kqn L st).1]) (kqn L st).2 else (l,st)
def kq3:RS:={ at_:=0,nest:=0,bad:=false }
def kkz (L:List Tok):List PVar × RS:=qyx (pz L) L [] (kji L kq3).2.2
def kv6 (L:List Tok):List PRule × RS:=kw5 (pz L) L [] (kkz L).2
def kx3 (L:List Tok):List PRule × RS:=kvc (pz L) L [] (kv6 L).2
def kqy (L:List Tok):PTree × Option Nat:=
  (⟨(kji L kq3).1,(kji L kq3).2.1,(kkz L).1,(kv6 L).1,(kx3 L).1⟩,
   if (kx3 L).2.bad||!((tk L (kx3 L).2.at_).kind.toList==[101,110,100]) then some (tk L (kx3 L).2.at_).at_ else none)
theorem qvw (L:List Tok)(st:RS):st.at_≤(kqr L st).2.at_:=by
 have h:∀ (f:Nat) (l:List PP) (s:RS),s.at_≤(kk6 f L l s).2.at_:=by
  intro f;induction f with
  | zero=>intro l s;exact wW _
  | succ f ih=>
   intro l s;rw[kk6];split
   ·exact wW _
   ·split
    ·exact rV (rV (qqk L s) (zi L [44] _)) (ih _ _)
    ·exact qqk L s
 unfold kqr;split
 ·exact rV (zi L [40] st) (zi L [41] _)
 ·exact rV (zi L [40] st) (rV (h _ _ _) (zi L [41] _))
theorem jz7 (L:List Tok)(st:RS):st.at_≤(kjv L st).2.at_:=by
 unfold kjv;split
 ·exact rV (zi L [91] st) (rV (yx L _ _) (zi L [93] _))
 ·exact wW _
theorem jvf (L:List Tok)(st:RS):st.at_≤(kkw L st).2.at_:=by
 unfold kkw;split
 ·exact zi L _ st
 ·split
  ·exact rV (zi L [116,111] st) (yx L _ _)
  ·exact yx L _ st
theorem zk2 (L:List Tok)(st:RS):(qg L [118,97,114] st).at_≤(kyo L st).2.at_:=
 rV (yx L _ _) (rV (zi L [58] _) (rV (jz7 L _) (rV (jvf L _) (zi L [59] _))))
theorem jvo {L:List Tok}{st:RS}(h:st.bad=true):(kjv L st).2.bad=true:=by simp[kjv,uj h,h]
theorem vqt {L:List Tok}{st:RS}(h:st.bad=true):(kkw L st).2.bad=true:=by simp[kkw,uj h,qwz h]
theorem qyk (L:List Tok)(st:RS):(qg L [114,117,108,101] st).at_≤(kqm L st).2.at_:=
 rV (yx L _ _) (rV (qvw L _) (rV (zi L [105,102] _) (rV (kxd _ _ _ L _) (kkm L _ _ _))))
theorem zjj {L:List Tok}{st:RS}(h:st.bad=true):∀ (f:Nat) (l:List PP),(kk6 f L l st).2=st
 | 0,_=>rfl
 | f+1,l=>by rw[kk6,h];rfl
theorem zyg {L:List Tok}{st:RS}(h:st.bad=true):(kqr L st).2.bad=true:=by
 unfold kqr;rw[uj (kjo h)];exact kjo (by rw[zjj (kjo h)];exact kjo h)
theorem zvo {L:List Tok}{st:RS}(h:ql L [110,101,118,101,114] st=true):st.at_+1≤(kqn L st).2.at_:=by
 have h1:=qjk h rfl;have h2:(qg L [110,101,118,101,114] st).at_≤(kqn L st).2.at_:=
  rV (yx L _ _) (rV (qvw L _) (rV (kxd _ _ _ L _) (zi L [59] _)))
 omega
theorem jxc {w:World}{a:Addr}{v:Value}(h:w.cell? a=some v):a.block<w.heap.size:=by
 by_cases hl:a.block<w.heap.size
 ·exact hl
 ·have:w.heap[a.block]?=none:=fG (by omega);simp[World.cell?,this] at h
theorem Kept.cell {P:Nat}{w w':World}{a:Addr}{v:Value}(hk:Kept P w w')(hb:a.block≠P)(h:w.cell? a=some v):w'.cell? a=some v:=
 (Jr (w:=w) (hk.block a.block (jxc h) hb)).trans h
def stV (s:PSet):Value:=.agg #[.string s.name.text,.int .i64 s.name.at_,.int .i64 (gu s.size.text),.int .i64 s.size.at_]
theorem kx8 {w : World} {b : Nat} {x0 x1 x2 x3 : Value} {t : TypeId} (h : w.heap[b]? = some (.cells #[x0, x1, x2, x3] t (0, 0))) :
    w.cell? ⟨b, 0, none⟩ = some x0 ∧ w.cell? ⟨b, 1, none⟩ = some x1 ∧ w.cell? ⟨b, 2, none⟩ = some x2 ∧ w.cell? ⟨b, 3, none⟩ = some x3 ∧
    w.frozen? ⟨b, 0, none⟩ = false ∧ w.frozen? ⟨b, 1, none⟩ = false ∧ w.frozen? ⟨b, 2, none⟩ = false ∧ w.frozen? ⟨b, 3, none⟩ = false :=
  ⟨by rw [cell_of_row w b 0 _ _ _ h]; rfl, by rw [cell_of_row w b 1 _ _ _ h]; rfl, by rw [cell_of_row w b 2 _ _ _ h]; rfl, by rw [cell_of_row w b 3 _ _ _ h]; rfl,
   frozen_of_row w b 0 _ _ h, frozen_of_row w b 1 _ _ h, frozen_of_row w b 2 _ _ h, frozen_of_row w b 3 _ _ h⟩
theorem qvj {w:World}{b:Nat}{x0 x1 x2 x3:Value}{t:TypeId}(h:w.heap[b]?=some (.cells #[x0,x1,x2,x3] t (0,0)))(y0 y1 y2 y3:Value) :
  ((((w.setCell ⟨b,0,none⟩ y0).setCell ⟨b,1,none⟩ y1).setCell ⟨b,2,none⟩ y2).setCell ⟨b,3,none⟩ y3).heap[b]?=some (.cells #[y0,y1,y2,y3] t (0,0)):=
 heap_setCell_same _ b 3 _ _ _ (heap_setCell_same _ b 2 _ _ _ (heap_setCell_same _ b 1 _ _ _ (heap_setCell_same _ b 0 _ _ _ h)))
theorem Pd.zx8 {w:World}{P B:Nat}{v:Value}{L:List Tok}{st:RS}(h:Pd w P v L st)(hB:∀ g,v.ownBlock=some g→g<B)(hP:P<B){b:Nat}(hb:B≤b)(y0 y1 y2 y3:Value) :
  Pd ((((w.setCell ⟨b,0,none⟩ y0).setCell ⟨b,1,none⟩ y1).setCell ⟨b,2,none⟩ y2).setCell ⟨b,3,none⟩ y3) P v L st:=
 ((((h.setOther hB hP hb y0).setOther hB hP hb y1).setOther hB hP hb y2).setOther hB hP hb y3)
theorem Kept.zx8 {P:Nat}{a w:World}(h:Kept P a w){b:Nat}(hb:a.heap.size≤b)(y0 y1 y2 y3:Value) :
  Kept P a ((((w.setCell ⟨b,0,none⟩ y0).setCell ⟨b,1,none⟩ y1).setCell ⟨b,2,none⟩ y2).setCell ⟨b,3,none⟩ y3):=
 (((h.jm hb y0).jm hb y1).jm hb y2).jm hb y3
theorem vqr {L:List Tok}{st s1:RS}{k d:Tok × RS}(h1:qg L [115,101,116] st=s1)(h2:qh L [110,97,109,101] s1=k)(h3:qh L [100,105,103,105,116] k.2=d) :
  kxl L st=(⟨k.1,d.1⟩,qg L [59] d.2):=by
 subst h1;subst h2;subst h3;rfl
theorem vqn (w:World)(P:Nat)(v:Value)(L:List Tok)(st:RS)(h:Pd w P v L st) :
  Calls Tryz.prog 147 #[.pointer (some ⟨P,0,none⟩)] w fun e w'=>e=.returned (stV (kxl L st).1)∧Pd w' P v L (kxl L st).2∧Kept P w w':=by
 have hX:=h.in;have HV:=hide h.kqa;go_enter Tryz.func147,Tryz.ntmps147
 go_wp2_with fail
 refine (kqo [115,101,116] (by decide) rfl rfl _ P v L st (h.alloc _)).mono ?_;rintro e w1 ⟨rfl,h1,hk1⟩;have HI:=hide (vqr (L:=L) (st:=st) rfl rfl rfl);generalize qg L [115,101,116] st=s1 at *;have hx1:=hk1.row (b:=w.heap.size) (by omega) (qy _ _);have HK1:=hide ((Kept.kq5 _).trans hk1);have H1:=hide h1;have HX1:=hide hx1;clear h1 hk1 hx1 h;go_wp2_with fail
 refine (kzv _ P v L _ (ku H1)).mono ?_;rintro e w2 ⟨rfl,h2,hk2⟩;generalize qh L [110,97,109,101] s1=k at *;have HK2:=hide ((ku HK1).trans hk2);have HX2:=hide (hk2.row (by omega) (ku HX1));have H2:=hide h2;clear h2 hk2 HK1 HX1 H1;go_wp2_with fail
 refine (qwa _ P v L _ (ku H2)).mono ?_;rintro e w3 ⟨rfl,h3,hk3⟩;generalize qh L [100,105,103,105,116] k.2=d at *;have HK3:=hide ((ku HK2).trans hk3);have hx3:=hk3.row (by omega) (ku HX2);have hs3:=wX hx3;have HX3:=hide hx3;have H3:=hide h3;clear h3 hk3 HK2 HX2 H2 hx3;unfold ptV dgV;go_wp2_with fail
 refine (kqo [59] (by decide) rfl rfl _ P v L _ ((ku H3).alloc _)).mono ?_;rintro e w4 ⟨rfl,h4,hk4⟩;have hx4:=hk4.row (by omega) (qp (ku HX3));have hy4:=hk4.row (b:=w3.heap.size) (by omega) (qy _ _);obtain ⟨d0,d1,d2,d3,e0,e1,e2,e3⟩:=kx8 hx4;obtain ⟨g0,g1,g2,g3,_⟩:=kx8 hy4;have HK4:=hide (((ku HK3).alloc _).trans hk4);have H4:=hide h4;have HX4:=hide hx4;clear h4 hk4 hx4 hy4 H3 HX3 HK3;go_wp2
 refine rY (v:=stV ⟨k.1,d.1⟩) (rZ Tryz.results147 _ _ w.heap.size _ _ _ _ rfl (qvj (ku HX4) _ _ _ _) Tryz.underlying111 rfl (by kernel_rfl)) rfl ?_;rw[ku HI];exact ⟨rfl,(ku H4).zx8 (ku HV) hX (wW _) _ _ _ _,(ku HK4).zx8 (wW _) _ _ _ _⟩
theorem zv5 {w:World}{a:Addr}{v:Value}{b:Nat}(hb:a.block≠b)(h:w.cell? a=some v)(y0 y1 y2 y3:Value):((((w.setCell ⟨b,0,none⟩ y0).setCell ⟨b,1,none⟩ y1).setCell ⟨b,2,none⟩ y2).setCell ⟨b,3,none⟩ y3).cell? a=some v:=by
 refine (Jr (w:=w) ?_).trans h;rw[ru _ _ _ _ hb,ru _ _ _ _ hb,ru _ _ _ _ hb,ru _ _ _ _ hb]
def paV (p:PP):Value:=.agg #[.string p.name.text,.int .i64 p.name.at_,.string p.set_.text,.int .i64 p.set_.at_]
theorem vvw {L:List Tok}{st s2:RS}{k d:Tok × RS}(h1:qh L [110,97,109,101] st=k)(h2:qg L [58] k.2=s2)(h3:qh L [110,97,109,101] s2=d) :
  rPP L st=(⟨k.1,d.1⟩,d.2):=by
 subst h1;subst h2;subst h3;rfl
theorem zjy (w:World)(P:Nat)(v:Value)(L:List Tok)(st:RS)(h:Pd w P v L st) :
  Calls Tryz.prog 240 #[.pointer (some ⟨P,0,none⟩)] w fun e w'=>e=.returned (paV (rPP L st).1)∧Pd w' P v L (rPP L st).2∧Kept P w w':=by
 have hX:=h.in;have HV:=hide h.kqa;go_enter Tryz.func240,Tryz.ntmps240
 go_wp2_with fail
 refine (kzv _ P v L st (h.alloc _)).mono ?_;rintro e w1 ⟨rfl,h1,hk1⟩;have HI:=hide (vvw (L:=L) (st:=st) rfl rfl rfl);generalize qh L [110,97,109,101] st=k at *;have hx1:=hk1.row (b:=w.heap.size) (by omega) (qy _ _);have hs1:=wX hx1;have HK1:=hide ((Kept.kq5 _).trans hk1);have H1:=hide h1;have HX1:=hide hx1;clear h1 hk1 hx1 h;unfold ptV;go_wp2_with fail
 refine (kqo [58] (by decide) rfl rfl _ P v L _ ((ku H1).alloc _)).mono ?_;rintro e w2 ⟨rfl,h2,hk2⟩;generalize qg L [58] k.2=s2 at *;have hx2:=hk2.row (by omega) (qp (ku HX1));have hy2:=hk2.row (b:=w1.heap.size) (by omega) (qy _ _);obtain ⟨g0,g1,_,_⟩:=yj hy2;have HK2:=hide (((ku HK1).alloc _).trans hk2);have H2:=hide h2;have HX2:=hide hx2;clear h2 hk2 hx2 hy2 H1 HX1 HK1;go_wp2_with fail
 go_region_held3 (fun w'=>w'.cell? ⟨w1.heap.size,0,none⟩=some (.string k.1.text)∧w'.cell? ⟨w1.heap.size,1,none⟩=some (.int .i64 k.1.at_))
  (first|exact ⟨k0,k1⟩|exact ⟨g0,g1⟩|exact ⟨zv5 (by simp;omega) k0 _ _ _ _,zv5 (by simp;omega) k1 _ _ _ _⟩)
  ((go_at_call 202;refine (kzv _ P v L _ ((ku H2).below ((Below.refl _ _).drew))).mono ?_;rintro e w3 ⟨rfl,h3,hk3⟩;have k0:=hk3.cell (a:=⟨w1.heap.size,0,none⟩) (show w1.heap.size≠P by omega) g0;have k1:=hk3.cell (a:=⟨w1.heap.size,1,none⟩) (show w1.heap.size≠P by omega) g1;have hx3:=hk3.row (b:=w.heap.size) (by omega) (ku HX2);obtain ⟨d0,d1,d2,d3,e0,e1,e2,e3⟩:=kx8 hx3;have HX3:=hide hx3;have H3:=hide h3;have HK3:=hide ((ku HK2).drew.trans hk3);clear h3 hx3 hk3;unfold ptV))
 go_wp2
 refine rY (v:=paV ⟨k.1,(qh L [110,97,109,101] s2).1⟩) (rZ Tryz.results240 _ _ w.heap.size _ _ _ _ rfl (qvj (ku HX3) _ _ _ _) Tryz.underlying352 rfl (by kernel_rfl)) rfl ?_;rw[ku HI];exact ⟨rfl,(ku H3).zx8 (ku HV) hX (wW _) _ _ _ _,(ku HK3).zx8 (wW _) _ _ _ _⟩
structure SiT where
 form:Int
 top:Tok
 name:Tok
def siV (x:SiT):Value:=.agg #[.int .i64 x.form,.int .i64 (gu x.top.text),.int .i64 x.top.at_,.string x.name.text,.int .i64 x.name.at_]
def siT (L:List Tok)(st:RS):SiT:=
 if ql L [98,111,111,108] st then ⟨0,jk,jk⟩
 else if ql L [116,111] st then ⟨1,(qh L [100,105,103,105,116] (qg L [116,111] st)).1,jk⟩
 else ⟨2,jk,(qh L [110,97,109,101] st).1⟩
theorem qqp {L:List Tok}{l:List UInt8}{st:RS}(h:ql L l st=true)(ho:opens l=false)(hs:shuts l=false):kv2 L l st=qg L l st:=by
 rw[kjn ho hs];unfold kv2 qwv;rw[h];rfl
theorem kzx {L:List Tok}{l:List UInt8}{st:RS}(h:ql L l st=false):kv2 L l st=st:=by unfold kv2;rw[h];rfl
theorem qyu (w:World)(P:Nat)(v:Value)(L:List Tok)(st:RS)(h:Pd w P v L st) :
  Calls Tryz.prog 208 #[.pointer (some ⟨P,0,none⟩)] w fun e w'=>e=.returned (siV (siT L st))∧Pd w' P v L (kkw L st).2∧Kept P w w':=by
 have hX:=h.in;have HV:=hide h.kqa;go_enter Tryz.func208,Tryz.ntmps208
 go_wp2_with fail
 refine (kqc [98,111,111,108] (by decide) _ P v L st (h.alloc _)).mono ?_;rintro e w1 ⟨rfl,h1,hk1⟩;have hx1:=hk1.row (b:=w.heap.size) (by omega) (qy _ _);have HK1:=hide ((Kept.kq5 _).trans hk1);have HX1:=hide hx1;cases hb:ql L [98,111,111,108] st
 ·rw[kzx hb] at h1;have H1:=hide h1;clear h1 hk1 hx1 h;go_wp2_with fail
  refine (kqc [116,111] (by decide) _ P v L st (ku H1)).mono ?_;rintro e w2 ⟨rfl,h2,hk2⟩;have HK2:=hide ((ku HK1).trans hk2);have HX2:=hide (hk2.row (by omega) (ku HX1));clear hk2 H1 HK1 HX1;cases ht:ql L [116,111] st
  ·have HE:=hide (show siT L st=⟨2,jk,(qh L [110,97,109,101] st).1⟩ by unfold siT;rw[hb,ht];rfl);have HF:=hide (show (kkw L st).2=(qh L [110,97,109,101] st).2 by unfold kkw;rw[hb,ht];rfl);rw[kzx ht] at h2;have H2:=hide h2;clear h2;go_wp2_with fail
   refine (kzv _ P v L st (ku H2)).mono ?_;rintro e w3 ⟨rfl,h3,hk3⟩;generalize qh L [110,97,109,101] st=k at *;have hx3:=hk3.row (by omega) (ku HX2);obtain ⟨d0,d1,d2,d3,d4,e0,e1,e2,e3,e4⟩:=zo hx3;have HX3:=hide hx3;have H3:=hide h3;have HK3:=hide ((ku HK2).trans hk3);clear h3 hx3 hk3 H2 HK2 HX2;unfold ptV;go_wp2
   refine rY (v:=siV ⟨2,jk,k.1⟩) (rZ Tryz.results208 _ _ w.heap.size _ _ _ _ rfl (kjc (ku HX3) _ _ _ _ _) Tryz.underlying119 rfl (by kernel_rfl)) rfl ?_;rw[ku HE,ku HF];exact ⟨rfl,(ku H3).kv0 (ku HV) hX (wW _) _ _ _ _ _,(ku HK3).kv0 (wW _) _ _ _ _ _⟩
  ·have HE:=hide (show siT L st=⟨1,(qh L [100,105,103,105,116] (qg L [116,111] st)).1,jk⟩ by unfold siT;rw[hb,ht];rfl);have HF:=hide (show (kkw L st).2=(qh L [100,105,103,105,116] (qg L [116,111] st)).2 by unfold kkw;rw[hb,ht];rfl);rw[qqp ht rfl rfl] at h2;have H2:=hide h2;clear h2;go_wp2_with fail
   refine (qwa _ P v L _ (ku H2)).mono ?_;rintro e w3 ⟨rfl,h3,hk3⟩;generalize qh L [100,105,103,105,116] (qg L [116,111] st)=k at *;have hx3:=hk3.row (by omega) (ku HX2);obtain ⟨d0,d1,d2,d3,d4,e0,e1,e2,e3,e4⟩:=zo hx3;have HX3:=hide hx3;have H3:=hide h3;have HK3:=hide ((ku HK2).trans hk3);clear h3 hx3 hk3 H2 HK2 HX2;unfold dgV;go_wp2
   refine rY (v:=siV ⟨1,k.1,jk⟩) (rZ Tryz.results208 _ _ w.heap.size _ _ _ _ rfl (kjc (ku HX3) _ _ _ _ _) Tryz.underlying119 rfl (by kernel_rfl)) rfl ?_;rw[ku HE,ku HF];exact ⟨rfl,(ku H3).kv0 (ku HV) hX (wW _) _ _ _ _ _,(ku HK3).kv0 (wW _) _ _ _ _ _⟩
 ·have HE:=hide (show siT L st=⟨0,jk,jk⟩ by unfold siT;rw[hb];rfl);have HF:=hide (show (kkw L st).2=qg L [98,111,111,108] st by unfold kkw;rw[hb];rfl);rw[qqp hb rfl rfl] at h1;obtain ⟨d0,d1,d2,d3,d4,e0,e1,e2,e3,e4⟩:=zo hx1;have H1:=hide h1;clear h1 hk1 hx1 h;go_wp2
  refine rY (v:=siV ⟨0,jk,jk⟩) (rZ Tryz.results208 _ _ w.heap.size _ _ _ _ rfl (kjc (ku HX1) _ _ _ _ _) Tryz.underlying119 rfl (by kernel_rfl)) rfl ?_;rw[ku HE,ku HF];exact ⟨rfl,(ku H1).kv0 (ku HV) hX (wW _) _ _ _ _ _,(ku HK1).kv0 (wW _) _ _ _ _ _⟩
def kjr (p:PP):List Value:=[.string p.name.text,.int .i64 p.name.at_,.string p.set_.text,.int .i64 p.set_.at_]
def jw (l:List PP):List Value:=l.flatMap kjr
theorem zxx (l:List PP)(p:PP):jw (l++[p])=jw l++kjr p:=by simp[jw]
theorem qyc (p:PP):∀ u∈kjr p,u.oneCell'=true:=by
 intro u h;simp only[kjr,tK,nY,or_false] at h;rcases h with rfl|rfl|rfl|rfl<;>rfl
theorem Tryz.infoPa:(Tryz.prog.info? 352).map (fun i=>(i.zero,i.size,i.bytes))=some (some (.agg #[.string ⟨#[]⟩,.int .i64 0,.string ⟨#[]⟩,.int .i64 0]),4,48):=by kernel_rfl
theorem yg {L:List Tok}{s:List UInt8}{st:RS}(h:st.bad=true):qg L s st=st:=by
 unfold qg;rw[uj h];simp only[QX,Qc,if_true];cases st;simp_all
theorem kj4 {L:List Tok}{s:List UInt8}{st:RS}(h:st.bad=true):(qh L s st).2=st:=by
 unfold qh kq1;rw[h];simp only[Jo,lD,tZ,if_false];cases st;simp_all
theorem zk7 {L:List Tok}{st:RS}(h:st.bad=true):(rPP L st).2=st:=by
 show (qh L _ (qg L [58] (qh L _ st).2)).2=st;rw[kj4 h,yg h,kj4 h]
def zzi (L:List Tok)(fin:List PP × RS)(acc:List PP)(s:RS):Prop:=
 (s.bad=true∧fin.2=s)∨(s.bad=false∧∃ f,L.length≤s.at_+f∧(if ql L [44] s then kk6 f L acc (qg L [44] s) else (acc,s))=fin)
def vzb (w:World)(P:Nat)(v:Value)(L:List Tok)(fin:List PP × RS)(x:Value)(wr:World):Prop:=
 ∃ (acc:List PP) (s:RS),zzi L fin acc s∧acc.length≤s.at_+1∧wr.ownsRow w.heap.size 352 4 x acc.length (jw acc)∧Pd wr P v L s∧Kept P w wr
def vw7 (P:Nat)(v:Value)(L:List Tok)(w:World)(r:List PP × RS)(e:Ending)(w':World):Prop:=
 ∃ x l,e=.returned x∧w'.ownsRow w.heap.size 352 4 x l.length (jw l)∧(r.2.bad=false→l=r.1)∧Pd w' P v L r.2∧Kept P w w'∧l.length≤801
theorem zvi {L:List Tok}{s:RS}{f:Nat}(hf:L.length≤s.at_+f):zzi L (kk6 (f+1) L [] s) [(rPP L s).1] (rPP L s).2:=by
 cases hb:s.bad
 ·have hm:=qqk L s;rw[kk6];simp only[hb,tZ,if_false];cases hb2:(rPP L s).2.bad
  ·exact Or.inr ⟨hb2,f,by omega,rfl⟩
  ·refine Or.inl ⟨hb2,?_⟩;rw[uj hb2];rfl
 ·refine Or.inl ⟨by rw[zk7 hb];exact hb,?_⟩;rw[kk6];simp only[hb,if_true];rw[zk7 hb]
theorem zya {L:List Tok}{fin:List PP × RS}{acc:List PP}{s:RS}(hlt:s.at_<L.length)(h:zzi L fin acc s)(hn:ql L [44] s=true):zzi L fin (acc++[(rPP L (qg L [44] s)).1]) (rPP L (qg L [44] s)).2:=by
 rcases h with ⟨hb,_⟩|⟨hb,f,hf,e⟩
 ·rw[uj hb] at hn;cases hn
 ·rw[if_pos hn] at e;have hm:qg L [44] s={ s with at_:=s.at_+1 }:=by rw[kjn rfl rfl];unfold qwv;rw[hn];rfl
  have hat:(qg L [44] s).at_=s.at_+1:=by rw[hm]
  have hbm:(qg L [44] s).bad=false:=by rw[hm];exact hb
  obtain ⟨f,rfl⟩:∃ g,f=g+1:=⟨f-1,by omega⟩;generalize qg L [44] s=s' at *;rw[kk6] at e;simp only[hbm,tZ,if_false] at e;have hmo:=qqk L s';cases hb2:(rPP L s').2.bad
  ·exact Or.inr ⟨hb2,f,by omega,e⟩
  ·refine Or.inl ⟨hb2,?_⟩;rw[uj hb2] at e;rw[←e];rfl
theorem jzv {L:List Tok}{fin:List PP × RS}{acc:List PP}{s:RS}(h:zzi L fin acc s)(hn:ql L [44] s=false):fin.2=s∧(s.bad=false→fin.1=acc):=by
 rcases h with ⟨hb,e⟩|⟨hb,f,hf,e⟩
 ·exact ⟨e,fun hb'=>by rw[hb] at hb';cases hb'⟩
 ·rw[hn] at e;simp only[tZ,if_false] at e;rw[←e];exact ⟨rfl,fun _=>rfl⟩
theorem zxq (L:List Tok)(st:RS):(ql L [41] (qg L [40] st)=true→kqr L st=([],qg L [41] (qg L [40] st))) ∧
  (ql L [41] (qg L [40] st)=false→kqr L st=((kk6 (pz L) L [] (qg L [40] st)).1,qg L [41] (kk6 (pz L) L [] (qg L [40] st)).2)):=by
 constructor<;>intro h<;>(unfold kqr;rw[h];rfl)
theorem kj5 {L:List Tok}{s:List UInt8}{st:RS}(h:(qg L s st).bad=false):st.bad=false:=by
 cases hb:st.bad
 ·rfl
 ·rw[kjo hb] at h;cases h
theorem Pd.grown {w w':World}{P B:Nat}{v u:Value}{L:List Tok}{st:RS}(h:Pd w P v L st)(hg:w.grownBy w' u.ownBlock)(hu:∀ k,u.ownBlock=some k→B≤k)(hB:∀ g,v.ownBlock=some g→g<B)(hP:P<B):Pd w' P v L st:=by
 refine h.same (hg.block P h.in (fun e=>by have:=hu P e.symm;omega)) ?_;refine h.own.kept hg ?_;cases hv:v.ownBlock with
 | none=>exact Or.inl rfl
 | some j=>exact Or.inr fun hj=>by have h1:=hB j hv;have h2:=hu j hj.symm;omega
def qxh (w:World)(P:Nat):Nat:=match w.cell? ⟨P,1,none⟩ with
 | some (.int _ n)=>n.toNat
 | _=>0
theorem Pd.nx {w:World}{P:Nat}{v:Value}{L:List Tok}{s:RS}(h:Pd w P v L s):qxh w P=if s.bad then L.length-1 else s.at_:=by
 obtain ⟨r,h1,h2⟩:=h;unfold qxh;rw[(kyd h1.pd).2.1];simp only[Int.toNat_natCast];cases hb:s.bad
 ·simp[(h2.good hb).2.1]
 ·simp[(h2.bad hb).2.1]
theorem Pd.vxu {w:World}{P:Nat}{v:Value}{L:List Tok}{s:RS}(h:Pd w P v L s)(hb:s.bad=false):qxh w P=s.at_:=by rw[h.nx,hb];rfl
theorem kxc {w w':World}{P:Nat}{v:Value}{L:List Tok}{s s':RS}(h:Pd w P v L s)(h':Pd w' P v L s')(hb:s.bad=false)(hl:s.at_+1<L.length)(hm:s'.bad=false→s.at_+1≤s'.at_):L.length-qxh w' P<L.length-qxh w P:=by
 have:=h'.lt;rw[h.vxu hb,h'.nx];split
 ·omega
 ·rename_i hb';have:=hm (by simpa using hb');omega
theorem qyg (w:World)(P:Nat)(v:Value)(L:List Tok)(st:RS)(h:Pd w P v L st) :
  Calls Tryz.prog 209 #[.pointer (some ⟨P,0,none⟩)] w fun e w'=>vw7 P v L w (kqr L st) e w':=by
 obtain ⟨i0,hi,hz0,hz1,hz2⟩:=info_parts Tryz.infoPa;have hX:=h.in;have HV:=hide h.kqa;have hlen:=h.ok.len;go_enter Tryz.func209,Tryz.ntmps209
 go_wp2_with fail
 refine (qzx [40] (by decide) rfl _ P v L st h).mono ?_;rintro e w1 ⟨rfl,h1,hk1⟩;obtain ⟨hS1,hS2⟩:=zxq L st;have HS1:=hide hS1;have HS2:=hide hS2;have HK1:=hide hk1;have H1:=hide h1;clear h1 hk1 h hS1 hS2;generalize qg L [40] st=s1 at *;go_wp2_with fail
 refine (kwi [41] (by decide) _ P v L _ (ku H1)).mono ?_;rintro e w2 ⟨rfl,h2,hk2⟩;have HK2:=hide ((ku HK1).trans hk2);have H2:=hide h2;clear h2 hk2 H1 HK1;cases hn:ql L [41] s1
 ·have HE:=hide ((ku HS2) hn);clear HS1 HS2;go_wp2_with fail
  refine (zjy _ P v L _ (ku H2)).mono ?_;rintro e w3 ⟨rfl,h3,hk3⟩;have HL:=hide (zvi (L:=L) (s:=s1) (f:=L.length+1) (by omega));have hat:=qqk L s1;have HK3:=hide ((ku HK2).trans hk3);have hsz3:=(ku HK3).size;have H3:=hide h3;have HF:=hide (show kk6 (L.length+1+1) L [] s1=kk6 (pz L) L [] s1 from rfl);generalize kk6 (L.length+1+1) L [] s1=fin at *;generalize rPP L s1=q at *;clear h3 hk3 H2 HK2;unfold paV;go_wp2_with (at_builtin;refine wpList_append_own _ rfl _ _ 123 rfl w.heap.size 352 i0 _ 4 48 Tryz.underlying123 hi hz0 hz1 hz2 rfl (by decide) _ _ _ rfl (rP _ _ _ _) ⟨w3.heap.size,0,none⟩ 1 1 (kjr q.1) rfl rfl ?c1 ?c2 ?c3 ?c4 ?c5 ?_)
  case c1=>exact kj3 w3 _ (kjr q.1) _ rfl
  case c2=>exact qyc _
  case c3=>unfold maxLen;simp
  case c4=>simp
  case c5=>simp;omega
  intro v' w4 hown4 hgrow _;have hk4:Kept P w w4:=((ku HK3).alloc _).grown (v:=.slice none 0 0) hgrow (fun k hk=>by simp[Value.ownBlock] at hk);have h4:Pd w4 P v L q.2:=((ku H3).alloc _).grown (u:=.slice none 0 0) (B:=w.heap.size) hgrow (fun k hk=>by simp[Value.ownBlock] at hk) (ku HV) hX;have HR:=hide (show vzb w P v L fin v' w4 from ⟨[q.1],q.2,ku HL,by simp,by simpa[jw] using hown4,h4,hk4⟩);clear hown4 hgrow hk4 h4 H3 HK3 HL;go_wp2_with fail
  go_loopw [3] (fun x wr=>vzb w P v L fin x wr) (fun _ wr=>L.length-qxh wr P)
  case atStart=>exact ku HR
  case round=>
   obtain ⟨acc,s,hleft,hal,hown,hpd,hkp⟩:=hrel;have hlt:=hpd.lt;have HL:=hide hleft;have HO:=hide hown;have HP:=hide hpd;have HK:=hide hkp;have hsz:=hkp.size;clear hleft hown hpd hkp;go_wp2_with fail
   refine (kqc [44] (by decide) _ P v L s (ku HP)).mono ?_;rintro e w5 ⟨rfl,h5,hk5⟩;have HO5:=hide (kzq (ku HO) hk5 hX);have HK5:=hide ((ku HK).trans hk5);have hsz5:=(ku HK5).size;clear hk5 HK;cases hc:ql L [44] s
   ·rw[kzx hc] at h5;obtain ⟨he1,he2⟩:=jzv (ku HL) hc;have H5:=hide h5;have HE1:=hide he1;have HE2:=hide he2;clear h5 he1 he2;go_wp2_with fail
    refine (qq9 [41] (by decide) rfl rfl _ P v L s (ku H5)).mono ?_;rintro e w6 ⟨rfl,h6,hk6⟩;have HO6:=hide (kzq (ku HO5) hk6 hX);have HK6:=hide ((ku HK5).trans hk6);have H6:=hide h6;clear h6 hk6;go_wp2
    go_ret
    rw[ku HE,←ku HF,ku HE1];exact ⟨_,acc,rfl,ku HO6,fun hb=>((ku HE2) (kj5 hb)).symm,ku H6,ku HK6,by omega⟩
   ·rw[qqp hc rfl rfl] at h5;have hns:=kqb (ku HP).ok hlt hc;have hmm:(qg L [44] s).at_=s.at_+1:=by rw[kjn rfl rfl];unfold qwv;rw[hc];rfl
    have HM:=hide (zya hlt (ku HL) hc);have H5:=hide h5;clear h5 HL;generalize qg L [44] s=s' at *;have hmo:=qqk L s';go_wp2_with fail
    refine (zjy _ P v L _ (ku H5)).mono ?_;rintro e w6 ⟨rfl,h6,hk6⟩;have HO6:=hide (kzq (ku HO5) hk6 hX);have HK6:=hide ((ku HK5).trans hk6);have hsz6:=(ku HK6).size;have H6:=hide h6;clear h6 hk6 HO5 HK5 H5 HO;generalize rPP L s'=q6 at *;unfold paV;go_wp2_with (at_builtin;refine wpList_append_own _ rfl _ _ 123 rfl w.heap.size 352 i0 _ 4 48 Tryz.underlying123 hi hz0 hz1 hz2 rfl (by decide) _ _ _ rfl ((ku HO6).alloc _) ⟨w6.heap.size,0,none⟩ 1 1 (kjr q6.1) rfl rfl ?k1 ?k2 ?k3 ?k4 ?k5 ?_)
    case k1=>exact kj3 w6 _ (kjr q6.1) _ rfl
    case k2=>exact qyc _
    case k3=>unfold maxLen;omega
    case k4=>omega
    case k5=>simp;omega
    intro v7 w7 hown7 hgrow7 _;have hge:=yw (ku HO6);have hk7:Kept P w w7:=((ku HK6).alloc _).grown hgrow7 hge;have h7:Pd w7 P v L q6.2:=((ku H6).alloc _).grown hgrow7 hge (ku HV) hX;have HR7:=hide (show vzb w P v L fin v7 w7 from ⟨acc++[q6.1],q6.2,ku HM,by simp;omega,by rw[zxx,wU];exact hown7,h7,hk7⟩);have HMS:=hide (kxc (ku HP) h7 hns.1 hns.2 (fun _=>by omega));clear hown7 hgrow7 hk7 h7 hge;go_wp2
    go_roundw
    case rel=>exact ku HR7
    case measure=>exact ku HMS
 ·have HE:=hide ((ku HS1) hn);clear HS1 HS2;go_wp2_with fail
  refine (qq9 [41] (by decide) rfl rfl _ P v L _ (ku H2)).mono ?_;rintro e w6 ⟨rfl,h6,hk6⟩;have HK6:=hide ((ku HK2).trans hk6);have H6:=hide h6;clear h6 hk6;go_wp2
  go_ret
  rw[ku HE];exact ⟨_,[],rfl,rP _ _ _ _,fun _=>rfl,ku H6,ku HK6,by simp⟩
end Go.Proofs.YtpmcnonmkghokaaGreatDoor

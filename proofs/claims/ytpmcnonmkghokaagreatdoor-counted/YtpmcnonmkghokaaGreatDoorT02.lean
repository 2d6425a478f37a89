import Derived.Test.YtpmcnonmkghokaaGreatDoorT01
import Derived.Deep.RegionHeld3
import Derived.Deep.RegionLaw
import Derived.Deep.AppendLies
import Derived.Maps.AppendAt
set_option linter.unusedVariables false
set_option linter.unusedSimpArgs false
namespace Go.Proofs.YtpmcnonmkghokaaGreatDoor
open Go.RowKit
structure PP where
 name : Tok
 set_ : Tok
def rPP (L : List Tok) (st : RS) : PP × RS:=
 (⟨(qh L [110,97,109,101] st).1,(qh L [110,97,109,101] (qp L [58] (qh L [110,97,109,101] st).2)).1⟩,(qh L [110,97,109,101] (qp L [58] (qh L [110,97,109,101] st).2)).2)
def rPar : Nat→List Tok→List PP→RS→List PP × RS
 | 0,_,l,st=>(l,st)
 | f + 1,L,l,st=>
  if st.bad then (l,st)
  else if zq L [44] (rPP L st).2 then rPar f L (l ++ [(rPP L st).1]) (qp L [44] (rPP L st).2)
  else (l ++ [(rPP L st).1],(rPP L st).2)
def kq5 (L : List Tok) (st : RS) : List PP × RS:=
 if zq L [41] (qp L [40] st) then ([],qp L [41] (qp L [40] st))
 else ((rPar (yt L) L [] (qp L [40] st)).1,qp L [41] (rPar (yt L) L [] (qp L [40] st)).2)
theorem rPP_mono (L : List Tok) (st : RS) : st.at_≤(rPP L st).2.at_:=Nat.le_trans (um L _ st) (Nat.le_trans (zl L [58] _) (um L _ _))
theorem row6 {w : World} {b : Nat} {x0 x1 x2 x3 x4 x5 : Value} {t : TypeId} (h : w.heap[b]? = some (.cells #[x0, x1, x2, x3, x4, x5] t (0, 0))) :
    w.cell? ⟨b, 0, none⟩ = some x0 ∧ w.cell? ⟨b, 1, none⟩ = some x1 ∧ w.cell? ⟨b, 2, none⟩ = some x2 ∧ w.cell? ⟨b, 3, none⟩ = some x3 ∧ w.cell? ⟨b, 4, none⟩ = some x4 ∧ w.cell? ⟨b, 5, none⟩ = some x5 ∧
    w.frozen? ⟨b, 0, none⟩ = false ∧ w.frozen? ⟨b, 1, none⟩ = false ∧ w.frozen? ⟨b, 2, none⟩ = false ∧ w.frozen? ⟨b, 3, none⟩ = false ∧ w.frozen? ⟨b, 4, none⟩ = false ∧ w.frozen? ⟨b, 5, none⟩ = false :=
  ⟨by rw [cell_of_row w b 0 _ _ _ h]; rfl, by rw [cell_of_row w b 1 _ _ _ h]; rfl, by rw [cell_of_row w b 2 _ _ _ h]; rfl, by rw [cell_of_row w b 3 _ _ _ h]; rfl, by rw [cell_of_row w b 4 _ _ _ h]; rfl, by rw [cell_of_row w b 5 _ _ _ h]; rfl,
   frozen_of_row w b 0 _ _ h, frozen_of_row w b 1 _ _ h, frozen_of_row w b 2 _ _ h, frozen_of_row w b 3 _ _ h, frozen_of_row w b 4 _ _ h, frozen_of_row w b 5 _ _ h⟩
theorem set6a {w : World} {b : Nat} {x0 x1 x2 x3 x4 x5 : Value} {t : TypeId} (h : w.heap[b]? = some (.cells #[x0,x1,x2,x3,x4,x5] t (0,0))) (a c d : Value) :
  (((w.setCell ⟨b,0,none⟩ a).setCell ⟨b,1,none⟩ c).setCell ⟨b,2,none⟩ d).heap[b]? = some (.cells #[a,c,d,x3,x4,x5] t (0,0)):=
 heap_setCell_same _ b 2 _ _ _ (heap_setCell_same _ b 1 _ _ _ (heap_setCell_same _ b 0 _ _ _ h))
theorem set6b {w : World} {b : Nat} {x0 x1 x2 x3 x4 x5 : Value} {t : TypeId} (h : w.heap[b]? = some (.cells #[x0,x1,x2,x3,x4,x5] t (0,0))) (a c d : Value) :
  (((w.setCell ⟨b,3,none⟩ a).setCell ⟨b,4,none⟩ c).setCell ⟨b,5,none⟩ d).heap[b]? = some (.cells #[x0,x1,x2,a,c,d] t (0,0)):=
 heap_setCell_same _ b 5 _ _ _ (heap_setCell_same _ b 4 _ _ _ (heap_setCell_same _ b 3 _ _ _ h))
structure PVar where
 name : Tok
 over : Tok
 type_ : Tok
 top : Tok
def kqu (L : List Tok) (st : RS) : Tok × RS:=
 if zq L [91] st then ((qh L [110,97,109,101] (qp L [91] st)).1,qp L [93] (qh L [110,97,109,101] (qp L [91] st)).2) else (jg,st)
def rTop (L : List Tok) (st : RS) : Tok × RS:=
 if zq L [98,111,111,108] st then (jg,qp L [98,111,111,108] st)
 else if zq L [116,111] st then qh L [100,105,103,105,116] (qp L [116,111] st)
 else (jg,(qh L [110,97,109,101] st).2)
def rVar (L : List Tok) (st : RS) : PVar × RS :=
  ({ name := (qh L [110, 97, 109, 101] (qp L [118, 97, 114] st)).1,
     over := (kqu L (qp L [58] (qh L [110, 97, 109, 101] (qp L [118, 97, 114] st)).2)).1,
     type_ := tk L (kqu L (qp L [58] (qh L [110, 97, 109, 101] (qp L [118, 97, 114] st)).2)).2.at_,
     top := (rTop L (kqu L (qp L [58] (qh L [110, 97, 109, 101] (qp L [118, 97, 114] st)).2)).2).1 },
   qp L [59] (rTop L (kqu L (qp L [58] (qh L [110, 97, 109, 101] (qp L [118, 97, 114] st)).2)).2).2)
structure PSet where
 name : Tok
 size : Tok
def kz1 (L : List Tok) (st : RS) : PSet × RS:=
  (⟨(qh L [110,97,109,101] (qp L [115,101,116] st)).1,(qh L [100,105,103,105,116] (qh L [110,97,109,101] (qp L [115,101,116] st)).2).1⟩,
   qp L [59] (qh L [100,105,103,105,116] (qh L [110,97,109,101] (qp L [115,101,116] st)).2).2)
def rSets : Nat→List Tok→List PSet→RS→List PSet × RS
 | 0,_,l,st=>(l,st)
 | f + 1,L,l,st=>if zq L [115,101,116] st then rSets f L (l ++ [(kz1 L st).1]) (kz1 L st).2 else (l,st)
structure PKind where
 name : Tok
 members : List Tok
def kql (L : List Tok) (st : RS) : PKind × RS:=
 (⟨(qh L [110,97,109,101] (qp L [107,105,110,100] st)).1,(rMembers L (qh L [110,97,109,101] (qp L [107,105,110,100] st)).2).1⟩,(rMembers L (qh L [110,97,109,101] (qp L [107,105,110,100] st)).2).2)
def rKinds : Nat→List Tok→List PKind→RS→List PKind × RS
 | 0,_,l,st=>(l,st)
 | f + 1,L,l,st=>if zq L [107,105,110,100] st then rKinds f L (l ++ [(kql L st).1]) (kql L st).2 else (l,st)
theorem next_must_at {L : List Tok} {s : List UInt8} {st : RS} (h : zq L s st = true) (ho : opens s = false) : (qp L s st).at_ = st.at_ + 1:=by
 apply rMust_ok
 unfold qp
 rw [h,ho]; rfl
theorem rSet1_prog {L : List Tok} {st : RS} (h : zq L [115,101,116] st = true) : st.at_ + 1≤(kz1 L st).2.at_:=by
 have h1:=next_must_at h rfl
 have h2:=um L [110,97,109,101] (qp L [115,101,116] st)
 have h3:=um L [100,105,103,105,116] (qh L [110,97,109,101] (qp L [115,101,116] st)).2
 have h4:=zl L [59] (qh L [100,105,103,105,116] (qh L [110,97,109,101] (qp L [115,101,116] st)).2).2
 show st.at_ + 1≤(qp L [59] (qh L [100,105,103,105,116] (qh L [110,97,109,101] (qp L [115,101,116] st)).2).2).at_
 omega
theorem kqw {w wx : World} {a : Addr} {b : Bool} (hb : Below w.heap.size w wx) (hl : a.block < w.heap.size) (h : w.frozen? a = b) : wx.frozen? a = b:=(hb.frozen hl).trans h
theorem Kept.toBelow {R B : Nat} {w w' : World} (h : Kept R w w') (hB : B≤R) (hw : B≤w.heap.size) : Below B w w':=
 ⟨h.os,h.tape,h.output,h.size,fun k hk=>h.block k (by omega) (by omega)⟩
theorem jl {lo base size size' e e' : Nat} {w w' : World} {u v : Value} {n m : Nat} {xs zs : List Value} (h : w.ownsRow lo e' size' u m xs) (hv : w.ownsRow base e size v n zs) (he : e'≠e) (hg : w.grownBy w' v.ownBlock) : w'.ownsRow lo e' size' u m xs:=by
 refine h.kept hg ?_
 cases hu : u.ownBlock with
 | none=>exact Or.inl rfl
 | some j=>
  refine Or.inr fun hj=>?_
  rcases h.2 with ⟨rfl,_⟩ | ⟨g,cap,cur,rfl,_,hh,_⟩
  ·simp [Value.ownBlock] at hu
  ·simp [Value.ownBlock] at hu
   subst hu
   exact not_row hv hh he hj
def rHeads (L : List Tok) (st : RS) : List PSet × List PKind × RS:=
 ((rSets (yt L) L [] st).1,rKinds (yt L) L [] (rSets (yt L) L [] st).2)
theorem rMembers_mono (L : List Tok) (st : RS) : st.at_≤(rMembers L st).2.at_:=by
 have h : ∀ (f : Nat) (l : List Tok) (s : RS),s.at_≤(rMem f L l s).2.at_:=by
  intro f
  induction f with
  | zero=>intro l s; exact Nat.le_refl _
  | succ f ih=>
   intro l s
   rw [rMem]
   split
   ·exact Nat.le_refl _
   ·split
    ·exact Nat.le_trans (Nat.le_trans (um L _ s) (zl L [44] _)) (ih _ _)
    ·exact um L _ s
 exact Nat.le_trans (zl L [123] st) (Nat.le_trans (h _ _ _) (zl L [125] _))
theorem rKind1_prog {L : List Tok} {st : RS} (h : zq L [107,105,110,100] st = true) : st.at_ + 1≤(kql L st).2.at_:=by
 have h1:=next_must_at h rfl
 have h2:=um L [110,97,109,101] (qp L [107,105,110,100] st)
 have h3:=rMembers_mono L (qh L [110,97,109,101] (qp L [107,105,110,100] st)).2
 show st.at_ + 1≤(rMembers L (qh L [110,97,109,101] (qp L [107,105,110,100] st)).2).2.at_
 omega
theorem Kept.row {P : Nat} {w w' : World} {b : Nat} {o : Obj} (hk : Kept P w w') (hb : b ≠ P) (h : w.heap[b]? = some o) : w'.heap[b]? = some o := by
  rw [hk.block b (by by_cases hl : b < w.heap.size
                     · exact hl
                     · rw [Array.getElem?_eq_none (by omega)] at h; cases h) hb]; exact h
theorem ql {w : World} {b : Nat} {o p : Obj} (h : w.heap[b]? = some o) : (w.alloc p).heap[b]? = some o := by
  rw [Below.heap_alloc _ _ _ (by by_cases hl : b < w.heap.size
                                 · exact hl
                                 · rw [Array.getElem?_eq_none (by omega)] at h; cases h)]; exact h
theorem qg (w : World) (o : Obj) : (w.alloc o).heap[w.heap.size]? = some o:=heap_alloc_new w o
theorem Kept.gq {P : Nat} {w : World} (o : Obj) : Kept P w (w.alloc o):=(Kept.refl _ _).alloc _
theorem Pd.alloc {w : World} {P : Nat} {v : Value} {L : List Tok} {st : RS} (h : Pd w P v L st) (o : Obj) : Pd (w.alloc o) P v L st:=h.below (below_alloc1 _ _)
theorem Pd.kq6 {w : World} {P : Nat} {v : Value} {L : List Tok} {st : RS} (h : Pd w P v L st) : ∀ g,v.ownBlock = some g→g < w.heap.size:=Go.Proofs.YtpmcnonmkghokaaGreatDoor.kq6 h.own
theorem Pd.set2 {w : World} {P B : Nat} {v : Value} {L : List Tok} {st : RS} (h : Pd w P v L st) (hB : ∀ g,v.ownBlock = some g→g < B) (hP : P < B) {p q : Addr} (hp : B≤p.block) (hq : B≤q.block) (a b : Value) : Pd ((w.setCell p a).setCell q b) P v L st:=
 (h.setOther hB hP hp a).setOther hB hP hq b
def sqT (L : List Tok) (st : RS) : Tok × RS:=qh L [110,97,109,101] (qp L [91] st)
set_option maxRecDepth 100000 in
set_option maxHeartbeats 1000000 in
theorem inSquare_any (w : World) (P : Nat) (v : Value) (L : List Tok) (st : RS) (h : Pd w P v L st) :
  Calls Tryz.prog 207 #[.pointer (some ⟨P,0,none⟩)] w fun e w'=>e = .returned (ptV (sqT L st).1)∧Pd w' P v L (qp L [93] (sqT L st).2)∧Kept P w w':=by
 have hX:=h.in
 have HV:=hide h.kq6
 go_enter Tryz.func207,Tryz.ntmps207
 go_wp2_with fail
 refine (open_lit [91] (by decide) rfl _ P v L st (h.alloc _)).mono ?_
 rintro e w1 ⟨rfl,h1,hk1⟩
 have hx1:=hk1.row (b:=w.heap.size) (by omega) (qg _ _)
 have HK1:=hide ((Kept.gq _).trans hk1)
 have H1:=hide h1
 have HX1:=hide hx1
 clear h1 hk1 hx1 h
 go_wp2_with fail
 refine (kjx _ P v L _ (ku H1)).mono ?_
 rintro e w2 ⟨rfl,h2,hk2⟩
 have HI:=hide (show sqT L st = qh L [110,97,109,101] (qp L [91] st) from rfl)
 generalize qh L [110,97,109,101] (qp L [91] st) = i at *
 have hx2:=hk2.row (by omega) (ku HX1)
 have hs2:=lt_of_block hx2
 have HK2:=hide ((ku HK1).trans hk2)
 have H2:=hide h2
 have HX2:=hide hx2
 clear h2 hk2 hx2 H1 HX1 HK1
 unfold ptV
 go_wp2_with fail
 refine (shut_lit [93] (by decide) rfl rfl _ P v L _ ((ku H2).alloc _)).mono ?_
 rintro e w3 ⟨rfl,h3,hk3⟩
 have hx3:=hk3.row (by omega) (ql (ku HX2))
 have hy3:=hk3.row (b:=w2.heap.size) (by omega) (qg _ _)
 obtain ⟨d0,d1,e0,e1⟩:=uw hx3
 obtain ⟨g0,g1,_,_⟩:=uw hy3
 have HK3:=hide (((ku HK2).alloc _).trans hk3)
 have H3:=hide h3
 have HX3:=hide hx3
 clear h3 hk3 hx3 hy3 H2 HX2 HK2
 go_wp2
 refine bodyPost_ret (v:=ptV i.1) (results_cell_row Tryz.results207 _ _ w.heap.size _ _ _ _ rfl (set2 (ku HX3) _ _) Tryz.underlying107 rfl (by kernel_rfl)) rfl ?_
 rw [ku HI]
 exact ⟨rfl,(ku H3).set2 (ku HV) hX (Nat.le_refl _) (Nat.le_refl _) _ _,((ku HK3).jv (Nat.le_refl _) _).jv (Nat.le_refl _) _⟩
theorem zh {w : World} {b : Nat} {x0 x1 x2 x3 x4 : Value} {t : TypeId} (h : w.heap[b]? = some (.cells #[x0, x1, x2, x3, x4] t (0, 0))) :
    w.cell? ⟨b, 0, none⟩ = some x0 ∧ w.cell? ⟨b, 1, none⟩ = some x1 ∧ w.cell? ⟨b, 2, none⟩ = some x2 ∧ w.cell? ⟨b, 3, none⟩ = some x3 ∧ w.cell? ⟨b, 4, none⟩ = some x4 ∧
    w.frozen? ⟨b, 0, none⟩ = false ∧ w.frozen? ⟨b, 1, none⟩ = false ∧ w.frozen? ⟨b, 2, none⟩ = false ∧ w.frozen? ⟨b, 3, none⟩ = false ∧ w.frozen? ⟨b, 4, none⟩ = false :=
  ⟨by rw [cell_of_row w b 0 _ _ _ h]; rfl, by rw [cell_of_row w b 1 _ _ _ h]; rfl, by rw [cell_of_row w b 2 _ _ _ h]; rfl, by rw [cell_of_row w b 3 _ _ _ h]; rfl, by rw [cell_of_row w b 4 _ _ _ h]; rfl,
   frozen_of_row w b 0 _ _ h, frozen_of_row w b 1 _ _ h, frozen_of_row w b 2 _ _ h, frozen_of_row w b 3 _ _ h, frozen_of_row w b 4 _ _ h⟩
theorem kqd {w : World} {b : Nat} {x0 x1 x2 x3 x4 : Value} {t : TypeId} (h : w.heap[b]? = some (.cells #[x0,x1,x2,x3,x4] t (0,0))) (y0 y1 y2 y3 y4 : Value) :
  (((((w.setCell ⟨b,0,none⟩ y0).setCell ⟨b,1,none⟩ y1).setCell ⟨b,2,none⟩ y2).setCell ⟨b,3,none⟩ y3).setCell ⟨b,4,none⟩ y4).heap[b]? = some (.cells #[y0,y1,y2,y3,y4] t (0,0)):=
 heap_setCell_same _ b 4 _ _ _ (heap_setCell_same _ b 3 _ _ _ (heap_setCell_same _ b 2 _ _ _ (heap_setCell_same _ b 1 _ _ _ (heap_setCell_same _ b 0 _ _ _ h))))
theorem Pd.set5 {w : World} {P B : Nat} {v : Value} {L : List Tok} {st : RS} (h : Pd w P v L st) (hB : ∀ g,v.ownBlock = some g→g < B) (hP : P < B) {b : Nat} (hb : B≤b) (y0 y1 y2 y3 y4 : Value) :
  Pd (((((w.setCell ⟨b,0,none⟩ y0).setCell ⟨b,1,none⟩ y1).setCell ⟨b,2,none⟩ y2).setCell ⟨b,3,none⟩ y3).setCell ⟨b,4,none⟩ y4) P v L st:=
 (((((h.setOther hB hP hb y0).setOther hB hP hb y1).setOther hB hP hb y2).setOther hB hP hb y3).setOther hB hP hb y4)
theorem Kept.set5 {P : Nat} {a w : World} (h : Kept P a w) {b : Nat} (hb : a.heap.size≤b) (y0 y1 y2 y3 y4 : Value) :
  Kept P a (((((w.setCell ⟨b,0,none⟩ y0).setCell ⟨b,1,none⟩ y1).setCell ⟨b,2,none⟩ y2).setCell ⟨b,3,none⟩ y3).setCell ⟨b,4,none⟩ y4):=
 ((((h.jv hb y0).jv hb y1).jv hb y2).jv hb y3).jv hb y4
def plNext (L : List Tok) (st : RS) : Bool:=zq L [91] (qh L [110,97,109,101] st).2
def plT (L : List Tok) (st : RS) : Tok × Bool × Tok × RS:=
 if plNext L st then ((qh L [110,97,109,101] st).1,true,(sqT L (qh L [110,97,109,101] st).2).1,qp L [93] (sqT L (qh L [110,97,109,101] st).2).2)
 else ((qh L [110,97,109,101] st).1,false,jg,(qh L [110,97,109,101] st).2)
def plV (x : Tok × Bool × Tok × RS) : Value:=.agg #[.string x.1.text,.int .i64 x.1.at_,.bool x.2.1,.string x.2.2.1.text,.int .i64 x.2.2.1.at_]
set_option maxRecDepth 100000 in
set_option maxHeartbeats 1000000 in
theorem pplace_any (w : World) (P : Nat) (v : Value) (L : List Tok) (st : RS) (h : Pd w P v L st) :
  Calls Tryz.prog 260 #[.pointer (some ⟨P,0,none⟩)] w fun e w'=>e = .returned (plV (plT L st))∧Pd w' P v L (plT L st).2.2.2∧Kept P w w':=by
 have hX:=h.in
 have HV:=hide h.kq6
 go_enter Tryz.func260,Tryz.ntmps260
 go_wp2_with fail
 refine (kjx _ P v L st (h.alloc _)).mono ?_
 rintro e w1 ⟨rfl,h1,hk1⟩
 have HP:=hide (show plT L st = if zq L [91] (qh L [110,97,109,101] st).2 then ((qh L [110,97,109,101] st).1,true,(sqT L (qh L [110,97,109,101] st).2).1,qp L [93] (sqT L (qh L [110,97,109,101] st).2).2)
  else ((qh L [110,97,109,101] st).1,false,jg,(qh L [110,97,109,101] st).2) from rfl)
 generalize qh L [110,97,109,101] st = k at *
 have hx1:=hk1.row (b:=w.heap.size) (by omega) (qg _ _)
 have hs1:=lt_of_block hx1
 have HK1:=hide ((Kept.gq _).trans hk1)
 have H1:=hide h1
 have HX1:=hide hx1
 clear h1 hk1 hx1 h
 unfold ptV
 go_wp2_with fail
 refine (is_lit [91] (by decide) _ P v L _ ((ku H1).alloc _)).mono ?_
 rintro e w2 ⟨rfl,h2,hk2⟩
 have hx2:=hk2.row (by omega) (ql (ku HX1))
 have hy2:=hk2.row (b:=w1.heap.size) (by omega) (qg _ _)
 have HK2:=hide (((ku HK1).alloc _).trans hk2)
 have H2:=hide h2
 have HX2:=hide hx2
 have HY2:=hide hy2
 clear h2 hk2 hx2 hy2 H1 HX1 HK1
 cases hn : zq L [91] k.2
 ·rw [hn] at HP
  obtain ⟨d0,d1,d2,d3,d4,e0,e1,e2,e3,e4⟩:=zh (ku HX2)
  obtain ⟨g0,g1,g2,g3,g4,_⟩:=zh (ku HY2)
  go_wp2
  refine bodyPost_ret (v:=plV (k.1,false,jg,k.2)) (results_cell_row Tryz.results260 _ _ w.heap.size _ _ _ _ rfl (kqd (ku HX2) _ _ _ _ _) Tryz.underlying332 rfl (by kernel_rfl)) rfl ?_
  rw [ku HP]
  exact ⟨rfl,(ku H2).set5 (ku HV) hX (Nat.le_refl _) _ _ _ _ _,(ku HK2).set5 (Nat.le_refl _) _ _ _ _ _⟩
 ·rw [hn] at HP
  obtain ⟨g0,g1,g2,g3,g4,f0,f1,f2,f3,f4⟩:=zh (ku HY2)
  go_wp2_with fail
  refine (inSquare_any _ P v L _ ((ku H2).setOther (ku HV) hX (by simp; omega) _)).mono ?_
  rintro e w3 ⟨rfl,h3,hk3⟩
  clear g0 g1 g2 g3 g4 f0 f1 f2 f3 f4
  generalize sqT L k.2 = i at *
  have hx3:=hk3.row (b:=w.heap.size) (by omega) ((Below.heap_setCell _ _ _ _ (by simp; omega)).trans (ku HX2))
  have hy3:=hk3.row (b:=w1.heap.size) (by omega) (heap_setCell_same _ _ 2 _ _ _ (ku HY2))
  obtain ⟨d0,d1,d2,d3,d4,e0,e1,e2,e3,e4⟩:=zh hx3
  obtain ⟨g0,g1,g2,g3,g4,f0,f1,f2,f3,f4⟩:=zh hy3
  have HK3:=hide (((ku HK2).jv (p:=⟨w1.heap.size,2,none⟩) (by simp; omega) (.bool true)).trans hk3)
  have H3:=hide h3
  have HX3:=hide hx3
  have HY3:=hide hy3
  clear h3 hk3 hx3 hy3 H2 HX2 HK2 HY2
  unfold ptV
  go_wp2
  refine bodyPost_ret (v:=plV (k.1,true,i.1,qp L [93] i.2)) (results_cell_row Tryz.results260 _ _ w.heap.size _ _ _ _ rfl (kqd (w:=(w3.setCell ⟨w1.heap.size,3,none⟩ _).setCell ⟨w1.heap.size,4,none⟩ _) (by rw [Below.heap_setCell _ _ _ _ (by simp; omega),Below.heap_setCell _ _ _ _ (by simp; omega)]; exact ku HX3) _ _ _ _ _) Tryz.underlying332 rfl (by kernel_rfl)) rfl ?_
  rw [ku HP]
  exact ⟨rfl,((ku H3).set2 (ku HV) hX (by simp; omega) (by simp; omega) _ _).set5 (ku HV) hX (Nat.le_refl _) _ _ _ _ _,(((ku HK3).jv (by simp; omega) _).jv (by simp; omega) _).set5 (Nat.le_refl _) _ _ _ _ _⟩
structure PRule where
 name : Tok
 params : List PP
 guard : PX
 body : PB
structure PTree where
 sets : List PSet
 kinds : List PKind
 vars : List PVar
 rules : List PRule
 nevers : List PRule
def rVars : Nat→List Tok→List PVar→RS→List PVar × RS
 | 0,_,l,st=>(l,st)
 | f + 1,L,l,st=>
  if st.bad then (l,st)
  else if zq L [118,97,114] (rVar L st).2 then rVars f L (l ++ [(rVar L st).1]) (rVar L st).2
  else (l ++ [(rVar L st).1],(rVar L st).2)
def ruleK (L : List Tok) (st : RS) : Tok × RS:=qh L [110,97,109,101] (qp L [114,117,108,101] st)
def ruleP (L : List Tok) (st : RS) : List PP × RS:=kq5 L (ruleK L st).2
def ruleG (L : List Tok) (st : RS) : PX × RS:=rX (uz L) 0 .nil L (qp L [105,102] (ruleP L st).2)
def kqx (L : List Tok) (st : RS) : PRule × RS:=
 (⟨(ruleK L st).1,(ruleP L st).1,(ruleG L st).1,(rS (fuelB L) 0 L (ruleG L st).2).1⟩,(rS (fuelB L) 0 L (ruleG L st).2).2)
def rRules : Nat→List Tok→List PRule→RS→List PRule × RS
 | 0,_,l,st=>(l,st)
 | f + 1,L,l,st=>
  if st.bad then (l,st)
  else if zq L [114,117,108,101] (kqx L st).2 then rRules f L (l ++ [(kqx L st).1]) (kqx L st).2
  else (l ++ [(kqx L st).1],(kqx L st).2)
def neverK (L : List Tok) (st : RS) : Tok × RS:=qh L [110,97,109,101] (qp L [110,101,118,101,114] st)
def neverP (L : List Tok) (st : RS) : List PP × RS:=kq5 L (neverK L st).2
def neverG (L : List Tok) (st : RS) : PX × RS:=rX (uz L) 0 .nil L (neverP L st).2
def kqc (L : List Tok) (st : RS) : PRule × RS:=
 (⟨(neverK L st).1,(neverP L st).1,(neverG L st).1,.nil⟩,qp L [59] (neverG L st).2)
def rNevers : Nat→List Tok→List PRule→RS→List PRule × RS
 | 0,_,l,st=>(l,st)
 | f + 1,L,l,st=>if zq L [110,101,118,101,114] st then rNevers f L (l ++ [(kqc L st).1]) (kqc L st).2 else (l,st)
def kqq : RS:={ at_:=0,nest:=0,bad:=false }
def treeV (L : List Tok) : List PVar × RS:=rVars (yt L) L [] (rHeads L kqq).2.2
def treeR (L : List Tok) : List PRule × RS:=rRules (yt L) L [] (treeV L).2
def treeN (L : List Tok) : List PRule × RS:=rNevers (yt L) L [] (treeR L).2
def kqn (L : List Tok) : PTree × Option Nat:=
  (⟨(rHeads L kqq).1,(rHeads L kqq).2.1,(treeV L).1,(treeR L).1,(treeN L).1⟩,
   if (treeN L).2.bad || !((tk L (treeN L).2.at_).kind.toList == [101,110,100]) then some (tk L (treeN L).2.at_).at_ else none)
theorem rParams_mono (L : List Tok) (st : RS) : st.at_≤(kq5 L st).2.at_:=by
 have h : ∀ (f : Nat) (l : List PP) (s : RS),s.at_≤(rPar f L l s).2.at_:=by
  intro f
  induction f with
  | zero=>intro l s; exact Nat.le_refl _
  | succ f ih=>
   intro l s
   rw [rPar]
   split
   ·exact Nat.le_refl _
   ·split
    ·exact Nat.le_trans (Nat.le_trans (rPP_mono L s) (zl L [44] _)) (ih _ _)
    ·exact rPP_mono L s
 unfold kq5
 split
 ·exact Nat.le_trans (zl L [40] st) (zl L [41] _)
 ·exact Nat.le_trans (zl L [40] st) (Nat.le_trans (h _ _ _) (zl L [41] _))
theorem rOver_mono (L : List Tok) (st : RS) : st.at_≤(kqu L st).2.at_:=by
 unfold kqu; split
 ·exact Nat.le_trans (zl L [91] st) (Nat.le_trans (um L _ _) (zl L [93] _))
 ·exact Nat.le_refl _
theorem rTop_mono (L : List Tok) (st : RS) : st.at_≤(rTop L st).2.at_:=by
 unfold rTop; split
 ·exact zl L _ st
 ·split
  ·exact Nat.le_trans (zl L [116,111] st) (um L _ _)
  ·exact um L _ st
theorem rVar_mono (L : List Tok) (st : RS) : (qp L [118,97,114] st).at_≤(rVar L st).2.at_:=
 Nat.le_trans (um L _ _) (Nat.le_trans (zl L [58] _) (Nat.le_trans (rOver_mono L _) (Nat.le_trans (rTop_mono L _) (zl L [59] _))))
theorem rOver_bad {L : List Tok} {st : RS} (h : st.bad = true) : (kqu L st).2.bad = true:=by simp [kqu,je h,h]
theorem rTop_bad {L : List Tok} {st : RS} (h : st.bad = true) : (rTop L st).2.bad = true:=by simp [rTop,je h,rKind_bad h]
theorem rRule1_mono (L : List Tok) (st : RS) : (qp L [114,117,108,101] st).at_≤(kqx L st).2.at_:=
 Nat.le_trans (um L _ _) (Nat.le_trans (rParams_mono L _) (Nat.le_trans (zl L [105,102] _) (Nat.le_trans (kje _ _ _ L _) (rS_mono L _ _ _))))
theorem rPar_bad {L : List Tok} {st : RS} (h : st.bad = true) : ∀ (f : Nat) (l : List PP),(rPar f L l st).2 = st
 | 0,_=>rfl
 | f + 1,l=>by rw [rPar,h]; rfl
theorem rParams_bad {L : List Tok} {st : RS} (h : st.bad = true) : (kq5 L st).2.bad = true:=by
 unfold kq5
 rw [je (kqe h)]
 exact kqe (by rw [rPar_bad (kqe h)]; exact kqe h)
theorem rNever1_prog {L : List Tok} {st : RS} (h : zq L [110,101,118,101,114] st = true) : st.at_ + 1≤(kqc L st).2.at_:=by
 have h1:=next_must_at h rfl
 have h2 : (qp L [110,101,118,101,114] st).at_≤(kqc L st).2.at_:=
  Nat.le_trans (um L _ _) (Nat.le_trans (rParams_mono L _) (Nat.le_trans (kje _ _ _ L _) (zl L [59] _)))
 omega
theorem cell_block {w : World} {a : Addr} {v : Value} (h : w.cell? a = some v) : a.block < w.heap.size:=by
 by_cases hl : a.block < w.heap.size
 ·exact hl
 ·have : w.heap[a.block]? = none:=Array.getElem?_eq_none (by omega)
  simp [World.cell?,this] at h
theorem Kept.cell {P : Nat} {w w' : World} {a : Addr} {v : Value} (hk : Kept P w w') (hb : a.block≠P) (h : w.cell? a = some v) : w'.cell? a = some v:=
 (World.cell?_of_block (w:=w) (hk.block a.block (cell_block h) hb)).trans h
def stV (s : PSet) : Value:=.agg #[.string s.name.text,.int .i64 s.name.at_,.int .i64 (yu s.size.text),.int .i64 s.size.at_]
theorem kqj {w : World} {b : Nat} {x0 x1 x2 x3 : Value} {t : TypeId} (h : w.heap[b]? = some (.cells #[x0, x1, x2, x3] t (0, 0))) :
    w.cell? ⟨b, 0, none⟩ = some x0 ∧ w.cell? ⟨b, 1, none⟩ = some x1 ∧ w.cell? ⟨b, 2, none⟩ = some x2 ∧ w.cell? ⟨b, 3, none⟩ = some x3 ∧
    w.frozen? ⟨b, 0, none⟩ = false ∧ w.frozen? ⟨b, 1, none⟩ = false ∧ w.frozen? ⟨b, 2, none⟩ = false ∧ w.frozen? ⟨b, 3, none⟩ = false :=
  ⟨by rw [cell_of_row w b 0 _ _ _ h]; rfl, by rw [cell_of_row w b 1 _ _ _ h]; rfl, by rw [cell_of_row w b 2 _ _ _ h]; rfl, by rw [cell_of_row w b 3 _ _ _ h]; rfl,
   frozen_of_row w b 0 _ _ h, frozen_of_row w b 1 _ _ h, frozen_of_row w b 2 _ _ h, frozen_of_row w b 3 _ _ h⟩
theorem set4all {w : World} {b : Nat} {x0 x1 x2 x3 : Value} {t : TypeId} (h : w.heap[b]? = some (.cells #[x0,x1,x2,x3] t (0,0))) (y0 y1 y2 y3 : Value) :
  ((((w.setCell ⟨b,0,none⟩ y0).setCell ⟨b,1,none⟩ y1).setCell ⟨b,2,none⟩ y2).setCell ⟨b,3,none⟩ y3).heap[b]? = some (.cells #[y0,y1,y2,y3] t (0,0)):=
 heap_setCell_same _ b 3 _ _ _ (heap_setCell_same _ b 2 _ _ _ (heap_setCell_same _ b 1 _ _ _ (heap_setCell_same _ b 0 _ _ _ h)))
theorem Pd.set4 {w : World} {P B : Nat} {v : Value} {L : List Tok} {st : RS} (h : Pd w P v L st) (hB : ∀ g,v.ownBlock = some g→g < B) (hP : P < B) {b : Nat} (hb : B≤b) (y0 y1 y2 y3 : Value) :
  Pd ((((w.setCell ⟨b,0,none⟩ y0).setCell ⟨b,1,none⟩ y1).setCell ⟨b,2,none⟩ y2).setCell ⟨b,3,none⟩ y3) P v L st:=
 ((((h.setOther hB hP hb y0).setOther hB hP hb y1).setOther hB hP hb y2).setOther hB hP hb y3)
theorem Kept.set4 {P : Nat} {a w : World} (h : Kept P a w) {b : Nat} (hb : a.heap.size≤b) (y0 y1 y2 y3 : Value) :
  Kept P a ((((w.setCell ⟨b,0,none⟩ y0).setCell ⟨b,1,none⟩ y1).setCell ⟨b,2,none⟩ y2).setCell ⟨b,3,none⟩ y3):=
 (((h.jv hb y0).jv hb y1).jv hb y2).jv hb y3
theorem rSet1_of {L : List Tok} {st s1 : RS} {k d : Tok × RS} (h1 : qp L [115,101,116] st = s1) (h2 : qh L [110,97,109,101] s1 = k) (h3 : qh L [100,105,103,105,116] k.2 = d) :
  kz1 L st = (⟨k.1,d.1⟩,qp L [59] d.2):=by
 subst h1; subst h2; subst h3; rfl
set_option maxRecDepth 100000 in
set_option maxHeartbeats 1000000 in
theorem pset_any (w : World) (P : Nat) (v : Value) (L : List Tok) (st : RS) (h : Pd w P v L st) :
  Calls Tryz.prog 147 #[.pointer (some ⟨P,0,none⟩)] w fun e w'=>e = .returned (stV (kz1 L st).1)∧Pd w' P v L (kz1 L st).2∧Kept P w w':=by
 have hX:=h.in
 have HV:=hide h.kq6
 go_enter Tryz.func147,Tryz.ntmps147
 go_wp2_with fail
 refine (kq3 [115,101,116] (by decide) rfl rfl _ P v L st (h.alloc _)).mono ?_
 rintro e w1 ⟨rfl,h1,hk1⟩
 have HI:=hide (rSet1_of (L:=L) (st:=st) rfl rfl rfl)
 generalize qp L [115,101,116] st = s1 at *
 have hx1:=hk1.row (b:=w.heap.size) (by omega) (qg _ _)
 have HK1:=hide ((Kept.gq _).trans hk1)
 have H1:=hide h1
 have HX1:=hide hx1
 clear h1 hk1 hx1 h
 go_wp2_with fail
 refine (kjx _ P v L _ (ku H1)).mono ?_
 rintro e w2 ⟨rfl,h2,hk2⟩
 generalize qh L [110,97,109,101] s1 = k at *
 have HK2:=hide ((ku HK1).trans hk2)
 have HX2:=hide (hk2.row (by omega) (ku HX1))
 have H2:=hide h2
 clear h2 hk2 HK1 HX1 H1
 go_wp2_with fail
 refine (digit_lit _ P v L _ (ku H2)).mono ?_
 rintro e w3 ⟨rfl,h3,hk3⟩
 generalize qh L [100,105,103,105,116] k.2 = d at *
 have HK3:=hide ((ku HK2).trans hk3)
 have hx3:=hk3.row (by omega) (ku HX2)
 have hs3:=lt_of_block hx3
 have HX3:=hide hx3
 have H3:=hide h3
 clear h3 hk3 HK2 HX2 H2 hx3
 unfold ptV dgV
 go_wp2_with fail
 refine (kq3 [59] (by decide) rfl rfl _ P v L _ ((ku H3).alloc _)).mono ?_
 rintro e w4 ⟨rfl,h4,hk4⟩
 have hx4:=hk4.row (by omega) (ql (ku HX3))
 have hy4:=hk4.row (b:=w3.heap.size) (by omega) (qg _ _)
 obtain ⟨d0,d1,d2,d3,e0,e1,e2,e3⟩:=kqj hx4
 obtain ⟨g0,g1,g2,g3,_⟩:=kqj hy4
 have HK4:=hide (((ku HK3).alloc _).trans hk4)
 have H4:=hide h4
 have HX4:=hide hx4
 clear h4 hk4 hx4 hy4 H3 HX3 HK3
 go_wp2
 refine bodyPost_ret (v:=stV ⟨k.1,d.1⟩) (results_cell_row Tryz.results147 _ _ w.heap.size _ _ _ _ rfl (set4all (ku HX4) _ _ _ _) Tryz.underlying111 rfl (by kernel_rfl)) rfl ?_
 rw [ku HI]
 exact ⟨rfl,(ku H4).set4 (ku HV) hX (Nat.le_refl _) _ _ _ _,(ku HK4).set4 (Nat.le_refl _) _ _ _ _⟩
theorem cell_set4 {w : World} {a : Addr} {v : Value} {b : Nat} (hb : a.block≠b) (h : w.cell? a = some v) (y0 y1 y2 y3 : Value) : ((((w.setCell ⟨b,0,none⟩ y0).setCell ⟨b,1,none⟩ y1).setCell ⟨b,2,none⟩ y2).setCell ⟨b,3,none⟩ y3).cell? a = some v:=by
 refine (World.cell?_of_block (w:=w) ?_).trans h
 rw [Below.heap_setCell _ _ _ _ hb,Below.heap_setCell _ _ _ _ hb,Below.heap_setCell _ _ _ _ hb,Below.heap_setCell _ _ _ _ hb]
def paV (p : PP) : Value:=.agg #[.string p.name.text,.int .i64 p.name.at_,.string p.set_.text,.int .i64 p.set_.at_]
theorem rPP_of {L : List Tok} {st s2 : RS} {k d : Tok × RS} (h1 : qh L [110,97,109,101] st = k) (h2 : qp L [58] k.2 = s2) (h3 : qh L [110,97,109,101] s2 = d) :
  rPP L st = (⟨k.1,d.1⟩,d.2):=by
 subst h1; subst h2; subst h3; rfl
set_option maxRecDepth 100000 in
set_option maxHeartbeats 2000000 in
theorem pparam_any (w : World) (P : Nat) (v : Value) (L : List Tok) (st : RS) (h : Pd w P v L st) :
  Calls Tryz.prog 240 #[.pointer (some ⟨P,0,none⟩)] w fun e w'=>e = .returned (paV (rPP L st).1)∧Pd w' P v L (rPP L st).2∧Kept P w w':=by
 have hX:=h.in
 have HV:=hide h.kq6
 go_enter Tryz.func240,Tryz.ntmps240
 go_wp2_with fail
 refine (kjx _ P v L st (h.alloc _)).mono ?_
 rintro e w1 ⟨rfl,h1,hk1⟩
 have HI:=hide (rPP_of (L:=L) (st:=st) rfl rfl rfl)
 generalize qh L [110,97,109,101] st = k at *
 have hx1:=hk1.row (b:=w.heap.size) (by omega) (qg _ _)
 have hs1:=lt_of_block hx1
 have HK1:=hide ((Kept.gq _).trans hk1)
 have H1:=hide h1
 have HX1:=hide hx1
 clear h1 hk1 hx1 h
 unfold ptV
 go_wp2_with fail
 refine (kq3 [58] (by decide) rfl rfl _ P v L _ ((ku H1).alloc _)).mono ?_
 rintro e w2 ⟨rfl,h2,hk2⟩
 generalize qp L [58] k.2 = s2 at *
 have hx2:=hk2.row (by omega) (ql (ku HX1))
 have hy2:=hk2.row (b:=w1.heap.size) (by omega) (qg _ _)
 obtain ⟨g0,g1,_,_⟩:=uw hy2
 have HK2:=hide (((ku HK1).alloc _).trans hk2)
 have H2:=hide h2
 have HX2:=hide hx2
 clear h2 hk2 hx2 hy2 H1 HX1 HK1
 go_wp2_with fail
 go_region_held3 (fun w'=>w'.cell? ⟨w1.heap.size,0,none⟩ = some (.string k.1.text)∧w'.cell? ⟨w1.heap.size,1,none⟩ = some (.int .i64 k.1.at_))
  (first | exact ⟨k0,k1⟩ | exact ⟨g0,g1⟩ | exact ⟨cell_set4 (by simp; omega) k0 _ _ _ _,cell_set4 (by simp; omega) k1 _ _ _ _⟩)
  ((go_at_call 202; refine (kjx _ P v L _ ((ku H2).below ((Below.refl _ _).drew))).mono ?_; rintro e w3 ⟨rfl,h3,hk3⟩; have k0:=hk3.cell (a:=⟨w1.heap.size,0,none⟩) (show w1.heap.size≠P by omega) g0; have k1:=hk3.cell (a:=⟨w1.heap.size,1,none⟩) (show w1.heap.size≠P by omega) g1; have hx3:=hk3.row (b:=w.heap.size) (by omega) (ku HX2); obtain ⟨d0,d1,d2,d3,e0,e1,e2,e3⟩:=kqj hx3; have HX3:=hide hx3; have H3:=hide h3; have HK3:=hide ((ku HK2).drew.trans hk3); clear h3 hx3 hk3; unfold ptV))
 go_wp2
 refine bodyPost_ret (v:=paV ⟨k.1,(qh L [110,97,109,101] s2).1⟩) (results_cell_row Tryz.results240 _ _ w.heap.size _ _ _ _ rfl (set4all (ku HX3) _ _ _ _) Tryz.underlying352 rfl (by kernel_rfl)) rfl ?_
 rw [ku HI]
 exact ⟨rfl,(ku H3).set4 (ku HV) hX (Nat.le_refl _) _ _ _ _,(ku HK3).set4 (Nat.le_refl _) _ _ _ _⟩
structure SiT where
 form : Int
 top : Tok
 name : Tok
def siV (x : SiT) : Value:=.agg #[.int .i64 x.form,.int .i64 (yu x.top.text),.int .i64 x.top.at_,.string x.name.text,.int .i64 x.name.at_]
def siT (L : List Tok) (st : RS) : SiT:=
 if zq L [98,111,111,108] st then ⟨0,jg,jg⟩
 else if zq L [116,111] st then ⟨1,(qh L [100,105,103,105,116] (qp L [116,111] st)).1,jg⟩
 else ⟨2,jg,(qh L [110,97,109,101] st).1⟩
theorem pAcc_yes {L : List Tok} {l : List UInt8} {st : RS} (h : zq L l st = true) (ho : opens l = false) (hs : shuts l = false) : pAcc L l st = qp L l st:=by
 rw [kqo ho hs]; unfold pAcc pExp; rw [h]; rfl
theorem kjq {L : List Tok} {l : List UInt8} {st : RS} (h : zq L l st = false) : pAcc L l st = st:=by unfold pAcc; rw [h]; rfl
set_option maxRecDepth 100000 in
set_option maxHeartbeats 1000000 in
theorem psimple_any (w : World) (P : Nat) (v : Value) (L : List Tok) (st : RS) (h : Pd w P v L st) :
  Calls Tryz.prog 208 #[.pointer (some ⟨P,0,none⟩)] w fun e w'=>e = .returned (siV (siT L st))∧Pd w' P v L (rTop L st).2∧Kept P w w':=by
 have hX:=h.in
 have HV:=hide h.kq6
 go_enter Tryz.func208,Tryz.ntmps208
 go_wp2_with fail
 refine (bg [98,111,111,108] (by decide) _ P v L st (h.alloc _)).mono ?_
 rintro e w1 ⟨rfl,h1,hk1⟩
 have hx1:=hk1.row (b:=w.heap.size) (by omega) (qg _ _)
 have HK1:=hide ((Kept.gq _).trans hk1)
 have HX1:=hide hx1
 cases hb : zq L [98,111,111,108] st
 ·rw [kjq hb] at h1
  have H1:=hide h1
  clear h1 hk1 hx1 h
  go_wp2_with fail
  refine (bg [116,111] (by decide) _ P v L st (ku H1)).mono ?_
  rintro e w2 ⟨rfl,h2,hk2⟩
  have HK2:=hide ((ku HK1).trans hk2)
  have HX2:=hide (hk2.row (by omega) (ku HX1))
  clear hk2 H1 HK1 HX1
  cases ht : zq L [116,111] st
  ·have HE:=hide (show siT L st = ⟨2,jg,(qh L [110,97,109,101] st).1⟩ by unfold siT; rw [hb,ht]; rfl)
   have HF:=hide (show (rTop L st).2 = (qh L [110,97,109,101] st).2 by unfold rTop; rw [hb,ht]; rfl)
   rw [kjq ht] at h2
   have H2:=hide h2
   clear h2
   go_wp2_with fail
   refine (kjx _ P v L st (ku H2)).mono ?_
   rintro e w3 ⟨rfl,h3,hk3⟩
   generalize qh L [110,97,109,101] st = k at *
   have hx3:=hk3.row (by omega) (ku HX2)
   obtain ⟨d0,d1,d2,d3,d4,e0,e1,e2,e3,e4⟩:=zh hx3
   have HX3:=hide hx3
   have H3:=hide h3
   have HK3:=hide ((ku HK2).trans hk3)
   clear h3 hx3 hk3 H2 HK2 HX2
   unfold ptV
   go_wp2
   refine bodyPost_ret (v:=siV ⟨2,jg,k.1⟩) (results_cell_row Tryz.results208 _ _ w.heap.size _ _ _ _ rfl (kqd (ku HX3) _ _ _ _ _) Tryz.underlying119 rfl (by kernel_rfl)) rfl ?_
   rw [ku HE,ku HF]
   exact ⟨rfl,(ku H3).set5 (ku HV) hX (Nat.le_refl _) _ _ _ _ _,(ku HK3).set5 (Nat.le_refl _) _ _ _ _ _⟩
  ·have HE:=hide (show siT L st = ⟨1,(qh L [100,105,103,105,116] (qp L [116,111] st)).1,jg⟩ by unfold siT; rw [hb,ht]; rfl)
   have HF:=hide (show (rTop L st).2 = (qh L [100,105,103,105,116] (qp L [116,111] st)).2 by unfold rTop; rw [hb,ht]; rfl)
   rw [pAcc_yes ht rfl rfl] at h2
   have H2:=hide h2
   clear h2
   go_wp2_with fail
   refine (digit_lit _ P v L _ (ku H2)).mono ?_
   rintro e w3 ⟨rfl,h3,hk3⟩
   generalize qh L [100,105,103,105,116] (qp L [116,111] st) = k at *
   have hx3:=hk3.row (by omega) (ku HX2)
   obtain ⟨d0,d1,d2,d3,d4,e0,e1,e2,e3,e4⟩:=zh hx3
   have HX3:=hide hx3
   have H3:=hide h3
   have HK3:=hide ((ku HK2).trans hk3)
   clear h3 hx3 hk3 H2 HK2 HX2
   unfold dgV
   go_wp2
   refine bodyPost_ret (v:=siV ⟨1,k.1,jg⟩) (results_cell_row Tryz.results208 _ _ w.heap.size _ _ _ _ rfl (kqd (ku HX3) _ _ _ _ _) Tryz.underlying119 rfl (by kernel_rfl)) rfl ?_
   rw [ku HE,ku HF]
   exact ⟨rfl,(ku H3).set5 (ku HV) hX (Nat.le_refl _) _ _ _ _ _,(ku HK3).set5 (Nat.le_refl _) _ _ _ _ _⟩
 ·have HE:=hide (show siT L st = ⟨0,jg,jg⟩ by unfold siT; rw [hb]; rfl)
  have HF:=hide (show (rTop L st).2 = qp L [98,111,111,108] st by unfold rTop; rw [hb]; rfl)
  rw [pAcc_yes hb rfl rfl] at h1
  obtain ⟨d0,d1,d2,d3,d4,e0,e1,e2,e3,e4⟩:=zh hx1
  have H1:=hide h1
  clear h1 hk1 hx1 h
  go_wp2
  refine bodyPost_ret (v:=siV ⟨0,jg,jg⟩) (results_cell_row Tryz.results208 _ _ w.heap.size _ _ _ _ rfl (kqd (ku HX1) _ _ _ _ _) Tryz.underlying119 rfl (by kernel_rfl)) rfl ?_
  rw [ku HE,ku HF]
  exact ⟨rfl,(ku H1).set5 (ku HV) hX (Nat.le_refl _) _ _ _ _ _,(ku HK1).set5 (Nat.le_refl _) _ _ _ _ _⟩
def kqs (p : PP) : List Value:=[.string p.name.text,.int .i64 p.name.at_,.string p.set_.text,.int .i64 p.set_.at_]
def jq (l : List PP) : List Value:=l.flatMap kqs
theorem pasCells_snoc (l : List PP) (p : PP) : jq (l ++ [p]) = jq l ++ kqs p:=by simp [jq]
theorem paCells_one (p : PP) : ∀ u ∈ kqs p,u.oneCell' = true:=by
 intro u h
 simp only [kqs,List.mem_cons,List.not_mem_nil,or_false] at h
 rcases h with rfl | rfl | rfl | rfl <;> rfl
theorem Tryz.infoPa : (Tryz.prog.info? 352).map (fun i=>(i.zero,i.size,i.bytes)) = some (some (.agg #[.string ⟨#[]⟩,.int .i64 0,.string ⟨#[]⟩,.int .i64 0]),4,48):=by kernel_rfl
theorem uy {L : List Tok} {s : List UInt8} {st : RS} (h : st.bad = true) : qp L s st = st:=by
 unfold qp
 rw [je h]
 simp only [Bool.not_false,Bool.true_or,if_true]
 cases st; simp_all
theorem kq8 {L : List Tok} {s : List UInt8} {st : RS} (h : st.bad = true) : (qh L s st).2 = st:=by
 unfold qh yh
 rw [h]
 simp only [Bool.not_true,Bool.false_and,Bool.false_eq_true,if_false]
 cases st; simp_all
theorem rPP_badEq {L : List Tok} {st : RS} (h : st.bad = true) : (rPP L st).2 = st:=by
 show (qh L _ (qp L [58] (qh L _ st).2)).2 = st
 rw [kq8 h,uy h,kq8 h]
def PaLeft (L : List Tok) (fin : List PP × RS) (acc : List PP) (s : RS) : Prop:=
 (s.bad = true∧fin.2 = s)∨(s.bad = false∧∃ f,L.length≤s.at_ + f∧(if zq L [44] s then rPar f L acc (qp L [44] s) else (acc,s)) = fin)
def PaRel (w : World) (P : Nat) (v : Value) (L : List Tok) (fin : List PP × RS) (x : Value) (wr : World) : Prop:=
 ∃ (acc : List PP) (s : RS),PaLeft L fin acc s∧acc.length≤s.at_ + 1∧wr.ownsRow w.heap.size 352 4 x acc.length (jq acc)∧Pd wr P v L s∧Kept P w wr
def PaPost (P : Nat) (v : Value) (L : List Tok) (w : World) (r : List PP × RS) (e : Ending) (w' : World) : Prop:=
 ∃ x l,e = .returned x∧w'.ownsRow w.heap.size 352 4 x l.length (jq l)∧(r.2.bad = false→l = r.1)∧Pd w' P v L r.2∧Kept P w w'∧l.length≤801
theorem paLeft_first {L : List Tok} {s : RS} {f : Nat} (hf : L.length≤s.at_ + f) : PaLeft L (rPar (f + 1) L [] s) [(rPP L s).1] (rPP L s).2:=by
 cases hb : s.bad
 ·have hm:=rPP_mono L s
  rw [rPar]
  simp only [hb,Bool.false_eq_true,if_false]
  cases hb2 : (rPP L s).2.bad
  ·exact Or.inr ⟨hb2,f,by omega,rfl⟩
  ·refine Or.inl ⟨hb2,?_⟩
   rw [je hb2]; rfl
 ·refine Or.inl ⟨by rw [rPP_badEq hb]; exact hb,?_⟩
  rw [rPar]; simp only [hb,if_true]; rw [rPP_badEq hb]
theorem paLeft_more {L : List Tok} {fin : List PP × RS} {acc : List PP} {s : RS} (hlt : s.at_ < L.length) (h : PaLeft L fin acc s) (hn : zq L [44] s = true) : PaLeft L fin (acc ++ [(rPP L (qp L [44] s)).1]) (rPP L (qp L [44] s)).2:=by
 rcases h with ⟨hb,_⟩ | ⟨hb,f,hf,e⟩
 ·rw [je hb] at hn; cases hn
 ·rw [if_pos hn] at e
  have hm : qp L [44] s = { s with at_:=s.at_ + 1 }:=by rw [kqo rfl rfl]; unfold pExp; rw [hn]; rfl
  have hat : (qp L [44] s).at_ = s.at_ + 1:=by rw [hm]
  have hbm : (qp L [44] s).bad = false:=by rw [hm]; exact hb
  obtain ⟨f,rfl⟩ : ∃ g,f = g + 1:=⟨f - 1,by omega⟩
  generalize qp L [44] s = s' at *
  rw [rPar] at e
  simp only [hbm,Bool.false_eq_true,if_false] at e
  have hmo:=rPP_mono L s'
  cases hb2 : (rPP L s').2.bad
  ·exact Or.inr ⟨hb2,f,by omega,e⟩
  ·refine Or.inl ⟨hb2,?_⟩
   rw [je hb2] at e
   rw [← e]; rfl
theorem paLeft_end {L : List Tok} {fin : List PP × RS} {acc : List PP} {s : RS} (h : PaLeft L fin acc s) (hn : zq L [44] s = false) : fin.2 = s∧(s.bad = false→fin.1 = acc):=by
 rcases h with ⟨hb,e⟩ | ⟨hb,f,hf,e⟩
 ·exact ⟨e,fun hb'=>by rw [hb] at hb'; cases hb'⟩
 ·rw [hn] at e
  simp only [Bool.false_eq_true,if_false] at e
  rw [← e]; exact ⟨rfl,fun _=>rfl⟩
theorem rParams_split (L : List Tok) (st : RS) : (zq L [41] (qp L [40] st) = true→kq5 L st = ([],qp L [41] (qp L [40] st))) ∧
  (zq L [41] (qp L [40] st) = false→kq5 L st = ((rPar (yt L) L [] (qp L [40] st)).1,qp L [41] (rPar (yt L) L [] (qp L [40] st)).2)):=by
 constructor <;> intro h <;> (unfold kq5; rw [h]; rfl)
theorem kq9 {L : List Tok} {s : List UInt8} {st : RS} (h : (qp L s st).bad = false) : st.bad = false:=by
 cases hb : st.bad
 ·rfl
 ·rw [kqe hb] at h; cases h
theorem Pd.grown {w w' : World} {P B : Nat} {v u : Value} {L : List Tok} {st : RS} (h : Pd w P v L st) (hg : w.grownBy w' u.ownBlock) (hu : ∀ k,u.ownBlock = some k→B≤k) (hB : ∀ g,v.ownBlock = some g→g < B) (hP : P < B) : Pd w' P v L st:=by
 refine h.same (hg.block P h.in (fun e=>by have:=hu P e.symm; omega)) ?_
 refine h.own.kept hg ?_
 cases hv : v.ownBlock with
 | none=>exact Or.inl rfl
 | some j=>exact Or.inr fun hj=>by have h1:=hB j hv; have h2:=hu j hj.symm; omega
def nxOf (w : World) (P : Nat) : Nat:=match w.cell? ⟨P,1,none⟩ with
 | some (.int _ n)=>n.toNat
 | _=>0
theorem Pd.nx {w : World} {P : Nat} {v : Value} {L : List Tok} {s : RS} (h : Pd w P v L s) : nxOf w P = if s.bad then L.length - 1 else s.at_:=by
 obtain ⟨r,h1,h2⟩:=h
 unfold nxOf
 rw [(prow5 h1.pd).2.1]
 simp only [Int.toNat_natCast]
 cases hb : s.bad
 ·simp [(h2.good hb).2.1]
 ·simp [(h2.bad hb).2.1]
theorem Pd.nx_good {w : World} {P : Nat} {v : Value} {L : List Tok} {s : RS} (h : Pd w P v L s) (hb : s.bad = false) : nxOf w P = s.at_:=by rw [h.nx,hb]; rfl
theorem kji {w w' : World} {P : Nat} {v : Value} {L : List Tok} {s s' : RS} (h : Pd w P v L s) (h' : Pd w' P v L s') (hb : s.bad = false) (hl : s.at_ + 1 < L.length) (hm : s'.bad = false→s.at_ + 1≤s'.at_) : L.length - nxOf w' P < L.length - nxOf w P:=by
 have:=h'.lt
 rw [h.nx_good hb,h'.nx]
 split
 ·omega
 ·rename_i hb'
  have:=hm (by simpa using hb')
  omega
set_option maxRecDepth 100000 in
set_option maxHeartbeats 2000000 in
theorem pparams_any (w : World) (P : Nat) (v : Value) (L : List Tok) (st : RS) (h : Pd w P v L st) :
  Calls Tryz.prog 209 #[.pointer (some ⟨P,0,none⟩)] w fun e w'=>PaPost P v L w (kq5 L st) e w':=by
 obtain ⟨i0,hi,hz0,hz1,hz2⟩:=info_parts Tryz.infoPa
 have hX:=h.in
 have HV:=hide h.kq6
 have hlen:=h.ok.len
 go_enter Tryz.func209,Tryz.ntmps209
 go_wp2_with fail
 refine (open_lit [40] (by decide) rfl _ P v L st h).mono ?_
 rintro e w1 ⟨rfl,h1,hk1⟩
 obtain ⟨hS1,hS2⟩:=rParams_split L st
 have HS1:=hide hS1
 have HS2:=hide hS2
 have HK1:=hide hk1
 have H1:=hide h1
 clear h1 hk1 h hS1 hS2
 generalize qp L [40] st = s1 at *
 go_wp2_with fail
 refine (is_lit [41] (by decide) _ P v L _ (ku H1)).mono ?_
 rintro e w2 ⟨rfl,h2,hk2⟩
 have HK2:=hide ((ku HK1).trans hk2)
 have H2:=hide h2
 clear h2 hk2 H1 HK1
 cases hn : zq L [41] s1
 ·have HE:=hide ((ku HS2) hn)
  clear HS1 HS2
  go_wp2_with fail
  refine (pparam_any _ P v L _ (ku H2)).mono ?_
  rintro e w3 ⟨rfl,h3,hk3⟩
  have HL:=hide (paLeft_first (L:=L) (s:=s1) (f:=L.length + 1) (by omega))
  have hat:=rPP_mono L s1
  have HK3:=hide ((ku HK2).trans hk3)
  have hsz3:=(ku HK3).size
  have H3:=hide h3
  have HF:=hide (show rPar (L.length + 1 + 1) L [] s1 = rPar (yt L) L [] s1 from rfl)
  generalize rPar (L.length + 1 + 1) L [] s1 = fin at *
  generalize rPP L s1 = q at *
  clear h3 hk3 H2 HK2
  unfold paV
  go_wp2_with (at_builtin; refine wpList_append_own _ rfl _ _ 123 rfl w.heap.size 352 i0 _ 4 48 Tryz.underlying123 hi hz0 hz1 hz2 rfl (by decide) _ _ _ rfl (World.ownsRow_nil _ _ _ _) ⟨w3.heap.size,0,none⟩ 1 1 (kqs q.1) rfl rfl ?c1 ?c2 ?c3 ?c4 ?c5 ?_)
  case c1=>exact yw w3 _ (kqs q.1) _ rfl
  case c2=>exact paCells_one _
  case c3=>unfold maxLen; simp
  case c4=>simp
  case c5=>simp; omega
  intro v' w4 hown4 hgrow _
  have hk4 : Kept P w w4:=((ku HK3).alloc _).grown (v:=.slice none 0 0) hgrow (fun k hk=>by simp [Value.ownBlock] at hk)
  have h4 : Pd w4 P v L q.2:=((ku H3).alloc _).grown (u:=.slice none 0 0) (B:=w.heap.size) hgrow (fun k hk=>by simp [Value.ownBlock] at hk) (ku HV) hX
  have HR:=hide (show PaRel w P v L fin v' w4 from ⟨[q.1],q.2,ku HL,by simp,by simpa [jq] using hown4,h4,hk4⟩)
  clear hown4 hgrow hk4 h4 H3 HK3 HL
  go_wp2_with fail
  go_loopw [3] (fun x wr=>PaRel w P v L fin x wr) (fun _ wr=>L.length - nxOf wr P)
  case atStart=>exact ku HR
  case round=>
   obtain ⟨acc,s,hleft,hal,hown,hpd,hkp⟩:=hrel
   have hlt:=hpd.lt
   have HL:=hide hleft
   have HO:=hide hown
   have HP:=hide hpd
   have HK:=hide hkp
   have hsz:=hkp.size
   clear hleft hown hpd hkp
   go_wp2_with fail
   refine (bg [44] (by decide) _ P v L s (ku HP)).mono ?_
   rintro e w5 ⟨rfl,h5,hk5⟩
   have HO5:=hide (kj3 (ku HO) hk5 hX)
   have HK5:=hide ((ku HK).trans hk5)
   have hsz5:=(ku HK5).size
   clear hk5 HK
   cases hc : zq L [44] s
   ·rw [kjq hc] at h5
    obtain ⟨he1,he2⟩:=paLeft_end (ku HL) hc
    have H5:=hide h5
    have HE1:=hide he1
    have HE2:=hide he2
    clear h5 he1 he2
    go_wp2_with fail
    refine (shut_lit [41] (by decide) rfl rfl _ P v L s (ku H5)).mono ?_
    rintro e w6 ⟨rfl,h6,hk6⟩
    have HO6:=hide (kj3 (ku HO5) hk6 hX)
    have HK6:=hide ((ku HK5).trans hk6)
    have H6:=hide h6
    clear h6 hk6
    go_wp2
    go_ret
    rw [ku HE,← ku HF,ku HE1]
    exact ⟨_,acc,rfl,ku HO6,fun hb=>((ku HE2) (kq9 hb)).symm,ku H6,ku HK6,by omega⟩
   ·rw [pAcc_yes hc rfl rfl] at h5
    have hns:=mg (ku HP).ok hlt hc
    have hmm : (qp L [44] s).at_ = s.at_ + 1:=by rw [kqo rfl rfl]; unfold pExp; rw [hc]; rfl
    have HM:=hide (paLeft_more hlt (ku HL) hc)
    have H5:=hide h5
    clear h5 HL
    generalize qp L [44] s = s' at *
    have hmo:=rPP_mono L s'
    go_wp2_with fail
    refine (pparam_any _ P v L _ (ku H5)).mono ?_
    rintro e w6 ⟨rfl,h6,hk6⟩
    have HO6:=hide (kj3 (ku HO5) hk6 hX)
    have HK6:=hide ((ku HK5).trans hk6)
    have hsz6:=(ku HK6).size
    have H6:=hide h6
    clear h6 hk6 HO5 HK5 H5 HO
    generalize rPP L s' = q6 at *
    unfold paV
    go_wp2_with (at_builtin; refine wpList_append_own _ rfl _ _ 123 rfl w.heap.size 352 i0 _ 4 48 Tryz.underlying123 hi hz0 hz1 hz2 rfl (by decide) _ _ _ rfl ((ku HO6).alloc _) ⟨w6.heap.size,0,none⟩ 1 1 (kqs q6.1) rfl rfl ?k1 ?k2 ?k3 ?k4 ?k5 ?_)
    case k1=>exact yw w6 _ (kqs q6.1) _ rfl
    case k2=>exact paCells_one _
    case k3=>unfold maxLen; omega
    case k4=>omega
    case k5=>simp; omega
    intro v7 w7 hown7 hgrow7 _
    have hge:=jm (ku HO6)
    have hk7 : Kept P w w7:=((ku HK6).alloc _).grown hgrow7 hge
    have h7 : Pd w7 P v L q6.2:=((ku H6).alloc _).grown hgrow7 hge (ku HV) hX
    have HR7:=hide (show PaRel w P v L fin v7 w7 from ⟨acc ++ [q6.1],q6.2,ku HM,by simp; omega,by rw [pasCells_snoc,List.length_append]; exact hown7,h7,hk7⟩)
    have HMS:=hide (kji (ku HP) h7 hns.1 hns.2 (fun _=>by omega))
    clear hown7 hgrow7 hk7 h7 hge
    go_wp2
    go_roundw
    case rel=>exact ku HR7
    case measure=>exact ku HMS
 ·have HE:=hide ((ku HS1) hn)
  clear HS1 HS2
  go_wp2_with fail
  refine (shut_lit [41] (by decide) rfl rfl _ P v L _ (ku H2)).mono ?_
  rintro e w6 ⟨rfl,h6,hk6⟩
  have HK6:=hide ((ku HK2).trans hk6)
  have H6:=hide h6
  clear h6 hk6
  go_wp2
  go_ret
  rw [ku HE]
  exact ⟨_,[],rfl,World.ownsRow_nil _ _ _ _,fun _=>rfl,ku H6,ku HK6,by simp⟩
end Go.Proofs.YtpmcnonmkghokaaGreatDoor

import Derived.Test.YtpmcnonmkghokaaGreatDoorT02
import Derived.Deep.AppendLies
import Derived.Deep.RegionLaw
import Derived.Deep.DrawnRows
import Derived.Deep.CutRange
import Derived.Test.YtpmcnonmkghokaaGreatDoorT04
set_option maxRecDepth 100000
set_option maxHeartbeats 4000000
set_option linter.unusedVariables false
set_option linter.unusedSimpArgs false
namespace Go.Proofs.YtpmcnonmkghokaaGreatDoor
open Go.RowKit
theorem kk5 {w : World} {b : Nat} {x0 x1 x2 x3 x4 x5 x6 x7 x8 x9 : Value} {t : TypeId} (h : w.heap[b]? = some (.cells #[x0, x1, x2, x3, x4, x5, x6, x7, x8, x9] t (0, 0))) :
    (w.cell? ⟨b, 0, none⟩ = some x0 ∧ w.cell? ⟨b, 1, none⟩ = some x1 ∧ w.cell? ⟨b, 2, none⟩ = some x2 ∧ w.cell? ⟨b, 3, none⟩ = some x3 ∧ w.cell? ⟨b, 4, none⟩ = some x4 ∧ w.cell? ⟨b, 5, none⟩ = some x5 ∧ w.cell? ⟨b, 6, none⟩ = some x6 ∧ w.cell? ⟨b, 7, none⟩ = some x7 ∧ w.cell? ⟨b, 8, none⟩ = some x8 ∧ w.cell? ⟨b, 9, none⟩ = some x9) ∧
    (w.frozen? ⟨b, 0, none⟩ = false ∧ w.frozen? ⟨b, 1, none⟩ = false ∧ w.frozen? ⟨b, 2, none⟩ = false ∧ w.frozen? ⟨b, 3, none⟩ = false ∧ w.frozen? ⟨b, 4, none⟩ = false ∧ w.frozen? ⟨b, 5, none⟩ = false ∧ w.frozen? ⟨b, 6, none⟩ = false ∧ w.frozen? ⟨b, 7, none⟩ = false ∧ w.frozen? ⟨b, 8, none⟩ = false ∧ w.frozen? ⟨b, 9, none⟩ = false) :=
  ⟨⟨by rw [cell_of_row w b 0 _ _ _ h]; rfl, by rw [cell_of_row w b 1 _ _ _ h]; rfl, by rw [cell_of_row w b 2 _ _ _ h]; rfl, by rw [cell_of_row w b 3 _ _ _ h]; rfl, by rw [cell_of_row w b 4 _ _ _ h]; rfl, by rw [cell_of_row w b 5 _ _ _ h]; rfl, by rw [cell_of_row w b 6 _ _ _ h]; rfl, by rw [cell_of_row w b 7 _ _ _ h]; rfl, by rw [cell_of_row w b 8 _ _ _ h]; rfl, by rw [cell_of_row w b 9 _ _ _ h]; rfl⟩,
   ⟨frozen_of_row w b 0 _ _ h, frozen_of_row w b 1 _ _ h, frozen_of_row w b 2 _ _ h, frozen_of_row w b 3 _ _ h, frozen_of_row w b 4 _ _ h, frozen_of_row w b 5 _ _ h, frozen_of_row w b 6 _ _ h, frozen_of_row w b 7 _ _ h, frozen_of_row w b 8 _ _ h, frozen_of_row w b 9 _ _ h⟩⟩
theorem zy9 {w:World}{b:Nat}{x0 x1 x2 x3 x4 x5 x6 x7 x8 x9:Value}{t:TypeId}(h:w.heap[b]?=some (.cells #[x0,x1,x2,x3,x4,x5,x6,x7,x8,x9] t (0,0)))(y0 y1 y2 y3 y4 y5 y6 y7 y8 y9:Value) :
  ((((((((((w.setCell ⟨b,0,none⟩ y0).setCell ⟨b,1,none⟩ y1).setCell ⟨b,2,none⟩ y2).setCell ⟨b,3,none⟩ y3).setCell ⟨b,4,none⟩ y4).setCell ⟨b,5,none⟩ y5).setCell ⟨b,6,none⟩ y6).setCell ⟨b,7,none⟩ y7).setCell ⟨b,8,none⟩ y8).setCell ⟨b,9,none⟩ y9).heap[b]?=some (.cells #[y0,y1,y2,y3,y4,y5,y6,y7,y8,y9] t (0,0)):=by
 have h0:(w.setCell ⟨b,0,none⟩ y0).heap[b]?=some (.cells #[y0,x1,x2,x3,x4,x5,x6,x7,x8,x9] t (0,0)):=heap_setCell_same _ b 0 _ _ _ h;have h1:((w.setCell ⟨b,0,none⟩ y0).setCell ⟨b,1,none⟩ y1).heap[b]?=some (.cells #[y0,y1,x2,x3,x4,x5,x6,x7,x8,x9] t (0,0)):=heap_setCell_same _ b 1 _ _ _ h0;have h2:(((w.setCell ⟨b,0,none⟩ y0).setCell ⟨b,1,none⟩ y1).setCell ⟨b,2,none⟩ y2).heap[b]?=some (.cells #[y0,y1,y2,x3,x4,x5,x6,x7,x8,x9] t (0,0)):=heap_setCell_same _ b 2 _ _ _ h1;have h3:((((w.setCell ⟨b,0,none⟩ y0).setCell ⟨b,1,none⟩ y1).setCell ⟨b,2,none⟩ y2).setCell ⟨b,3,none⟩ y3).heap[b]?=some (.cells #[y0,y1,y2,y3,x4,x5,x6,x7,x8,x9] t (0,0)):=heap_setCell_same _ b 3 _ _ _ h2;have h4:(((((w.setCell ⟨b,0,none⟩ y0).setCell ⟨b,1,none⟩ y1).setCell ⟨b,2,none⟩ y2).setCell ⟨b,3,none⟩ y3).setCell ⟨b,4,none⟩ y4).heap[b]?=some (.cells #[y0,y1,y2,y3,y4,x5,x6,x7,x8,x9] t (0,0)):=heap_setCell_same _ b 4 _ _ _ h3;have h5:((((((w.setCell ⟨b,0,none⟩ y0).setCell ⟨b,1,none⟩ y1).setCell ⟨b,2,none⟩ y2).setCell ⟨b,3,none⟩ y3).setCell ⟨b,4,none⟩ y4).setCell ⟨b,5,none⟩ y5).heap[b]?=some (.cells #[y0,y1,y2,y3,y4,y5,x6,x7,x8,x9] t (0,0)):=heap_setCell_same _ b 5 _ _ _ h4;have h6:(((((((w.setCell ⟨b,0,none⟩ y0).setCell ⟨b,1,none⟩ y1).setCell ⟨b,2,none⟩ y2).setCell ⟨b,3,none⟩ y3).setCell ⟨b,4,none⟩ y4).setCell ⟨b,5,none⟩ y5).setCell ⟨b,6,none⟩ y6).heap[b]?=some (.cells #[y0,y1,y2,y3,y4,y5,y6,x7,x8,x9] t (0,0)):=heap_setCell_same _ b 6 _ _ _ h5;have h7:((((((((w.setCell ⟨b,0,none⟩ y0).setCell ⟨b,1,none⟩ y1).setCell ⟨b,2,none⟩ y2).setCell ⟨b,3,none⟩ y3).setCell ⟨b,4,none⟩ y4).setCell ⟨b,5,none⟩ y5).setCell ⟨b,6,none⟩ y6).setCell ⟨b,7,none⟩ y7).heap[b]?=some (.cells #[y0,y1,y2,y3,y4,y5,y6,y7,x8,x9] t (0,0)):=heap_setCell_same _ b 7 _ _ _ h6;have h8:(((((((((w.setCell ⟨b,0,none⟩ y0).setCell ⟨b,1,none⟩ y1).setCell ⟨b,2,none⟩ y2).setCell ⟨b,3,none⟩ y3).setCell ⟨b,4,none⟩ y4).setCell ⟨b,5,none⟩ y5).setCell ⟨b,6,none⟩ y6).setCell ⟨b,7,none⟩ y7).setCell ⟨b,8,none⟩ y8).heap[b]?=some (.cells #[y0,y1,y2,y3,y4,y5,y6,y7,y8,x9] t (0,0)):=heap_setCell_same _ b 8 _ _ _ h7;have h9:((((((((((w.setCell ⟨b,0,none⟩ y0).setCell ⟨b,1,none⟩ y1).setCell ⟨b,2,none⟩ y2).setCell ⟨b,3,none⟩ y3).setCell ⟨b,4,none⟩ y4).setCell ⟨b,5,none⟩ y5).setCell ⟨b,6,none⟩ y6).setCell ⟨b,7,none⟩ y7).setCell ⟨b,8,none⟩ y8).setCell ⟨b,9,none⟩ y9).heap[b]?=some (.cells #[y0,y1,y2,y3,y4,y5,y6,y7,y8,y9] t (0,0)):=heap_setCell_same _ b 9 _ _ _ h8;exact h9
theorem Pd.zyq {w:World}{P B:Nat}{v:Value}{L:List Tok}{st:RS}(h:Pd w P v L st)(hB:∀ g,v.ownBlock=some g→g<B)(hP:P<B){b:Nat}(hb:B≤b)(y0 y1 y2 y3 y4 y5 y6 y7 y8 y9:Value) :
  Pd ((((((((((w.setCell ⟨b,0,none⟩ y0).setCell ⟨b,1,none⟩ y1).setCell ⟨b,2,none⟩ y2).setCell ⟨b,3,none⟩ y3).setCell ⟨b,4,none⟩ y4).setCell ⟨b,5,none⟩ y5).setCell ⟨b,6,none⟩ y6).setCell ⟨b,7,none⟩ y7).setCell ⟨b,8,none⟩ y8).setCell ⟨b,9,none⟩ y9) P v L st:=by
 have h0:Pd (w.setCell ⟨b,0,none⟩ y0) P v L st:=Pd.setOther h hB hP hb y0;have h1:Pd ((w.setCell ⟨b,0,none⟩ y0).setCell ⟨b,1,none⟩ y1) P v L st:=Pd.setOther h0 hB hP hb y1;have h2:Pd (((w.setCell ⟨b,0,none⟩ y0).setCell ⟨b,1,none⟩ y1).setCell ⟨b,2,none⟩ y2) P v L st:=Pd.setOther h1 hB hP hb y2;have h3:Pd ((((w.setCell ⟨b,0,none⟩ y0).setCell ⟨b,1,none⟩ y1).setCell ⟨b,2,none⟩ y2).setCell ⟨b,3,none⟩ y3) P v L st:=Pd.setOther h2 hB hP hb y3;have h4:Pd (((((w.setCell ⟨b,0,none⟩ y0).setCell ⟨b,1,none⟩ y1).setCell ⟨b,2,none⟩ y2).setCell ⟨b,3,none⟩ y3).setCell ⟨b,4,none⟩ y4) P v L st:=Pd.setOther h3 hB hP hb y4;have h5:Pd ((((((w.setCell ⟨b,0,none⟩ y0).setCell ⟨b,1,none⟩ y1).setCell ⟨b,2,none⟩ y2).setCell ⟨b,3,none⟩ y3).setCell ⟨b,4,none⟩ y4).setCell ⟨b,5,none⟩ y5) P v L st:=Pd.setOther h4 hB hP hb y5;have h6:Pd (((((((w.setCell ⟨b,0,none⟩ y0).setCell ⟨b,1,none⟩ y1).setCell ⟨b,2,none⟩ y2).setCell ⟨b,3,none⟩ y3).setCell ⟨b,4,none⟩ y4).setCell ⟨b,5,none⟩ y5).setCell ⟨b,6,none⟩ y6) P v L st:=Pd.setOther h5 hB hP hb y6;have h7:Pd ((((((((w.setCell ⟨b,0,none⟩ y0).setCell ⟨b,1,none⟩ y1).setCell ⟨b,2,none⟩ y2).setCell ⟨b,3,none⟩ y3).setCell ⟨b,4,none⟩ y4).setCell ⟨b,5,none⟩ y5).setCell ⟨b,6,none⟩ y6).setCell ⟨b,7,none⟩ y7) P v L st:=Pd.setOther h6 hB hP hb y7;have h8:Pd (((((((((w.setCell ⟨b,0,none⟩ y0).setCell ⟨b,1,none⟩ y1).setCell ⟨b,2,none⟩ y2).setCell ⟨b,3,none⟩ y3).setCell ⟨b,4,none⟩ y4).setCell ⟨b,5,none⟩ y5).setCell ⟨b,6,none⟩ y6).setCell ⟨b,7,none⟩ y7).setCell ⟨b,8,none⟩ y8) P v L st:=Pd.setOther h7 hB hP hb y8;have h9:Pd ((((((((((w.setCell ⟨b,0,none⟩ y0).setCell ⟨b,1,none⟩ y1).setCell ⟨b,2,none⟩ y2).setCell ⟨b,3,none⟩ y3).setCell ⟨b,4,none⟩ y4).setCell ⟨b,5,none⟩ y5).setCell ⟨b,6,none⟩ y6).setCell ⟨b,7,none⟩ y7).setCell ⟨b,8,none⟩ y8).setCell ⟨b,9,none⟩ y9) P v L st:=Pd.setOther h8 hB hP hb y9;exact h9
theorem Kept.zyq {P:Nat}{a w:World}(h:Kept P a w){b:Nat}(hb:a.heap.size≤b)(y0 y1 y2 y3 y4 y5 y6 y7 y8 y9:Value) :
  Kept P a ((((((((((w.setCell ⟨b,0,none⟩ y0).setCell ⟨b,1,none⟩ y1).setCell ⟨b,2,none⟩ y2).setCell ⟨b,3,none⟩ y3).setCell ⟨b,4,none⟩ y4).setCell ⟨b,5,none⟩ y5).setCell ⟨b,6,none⟩ y6).setCell ⟨b,7,none⟩ y7).setCell ⟨b,8,none⟩ y8).setCell ⟨b,9,none⟩ y9):=by
 have h0:Kept P a (w.setCell ⟨b,0,none⟩ y0):=Kept.jm h hb y0;have h1:Kept P a ((w.setCell ⟨b,0,none⟩ y0).setCell ⟨b,1,none⟩ y1):=Kept.jm h0 hb y1;have h2:Kept P a (((w.setCell ⟨b,0,none⟩ y0).setCell ⟨b,1,none⟩ y1).setCell ⟨b,2,none⟩ y2):=Kept.jm h1 hb y2;have h3:Kept P a ((((w.setCell ⟨b,0,none⟩ y0).setCell ⟨b,1,none⟩ y1).setCell ⟨b,2,none⟩ y2).setCell ⟨b,3,none⟩ y3):=Kept.jm h2 hb y3;have h4:Kept P a (((((w.setCell ⟨b,0,none⟩ y0).setCell ⟨b,1,none⟩ y1).setCell ⟨b,2,none⟩ y2).setCell ⟨b,3,none⟩ y3).setCell ⟨b,4,none⟩ y4):=Kept.jm h3 hb y4;have h5:Kept P a ((((((w.setCell ⟨b,0,none⟩ y0).setCell ⟨b,1,none⟩ y1).setCell ⟨b,2,none⟩ y2).setCell ⟨b,3,none⟩ y3).setCell ⟨b,4,none⟩ y4).setCell ⟨b,5,none⟩ y5):=Kept.jm h4 hb y5;have h6:Kept P a (((((((w.setCell ⟨b,0,none⟩ y0).setCell ⟨b,1,none⟩ y1).setCell ⟨b,2,none⟩ y2).setCell ⟨b,3,none⟩ y3).setCell ⟨b,4,none⟩ y4).setCell ⟨b,5,none⟩ y5).setCell ⟨b,6,none⟩ y6):=Kept.jm h5 hb y6;have h7:Kept P a ((((((((w.setCell ⟨b,0,none⟩ y0).setCell ⟨b,1,none⟩ y1).setCell ⟨b,2,none⟩ y2).setCell ⟨b,3,none⟩ y3).setCell ⟨b,4,none⟩ y4).setCell ⟨b,5,none⟩ y5).setCell ⟨b,6,none⟩ y6).setCell ⟨b,7,none⟩ y7):=Kept.jm h6 hb y7;have h8:Kept P a (((((((((w.setCell ⟨b,0,none⟩ y0).setCell ⟨b,1,none⟩ y1).setCell ⟨b,2,none⟩ y2).setCell ⟨b,3,none⟩ y3).setCell ⟨b,4,none⟩ y4).setCell ⟨b,5,none⟩ y5).setCell ⟨b,6,none⟩ y6).setCell ⟨b,7,none⟩ y7).setCell ⟨b,8,none⟩ y8):=Kept.jm h7 hb y8;have h9:Kept P a ((((((((((w.setCell ⟨b,0,none⟩ y0).setCell ⟨b,1,none⟩ y1).setCell ⟨b,2,none⟩ y2).setCell ⟨b,3,none⟩ y3).setCell ⟨b,4,none⟩ y4).setCell ⟨b,5,none⟩ y5).setCell ⟨b,6,none⟩ y6).setCell ⟨b,7,none⟩ y7).setCell ⟨b,8,none⟩ y8).setCell ⟨b,9,none⟩ y9):=Kept.jm h8 hb y9;exact h9
structure VrT where
 name:Tok
 arr:Bool
 over:Tok
 si:SiT
def kqx (x:VrT):List Value:=[.string x.name.text,.int .i64 x.name.at_,.bool x.arr,.string x.over.text,.int .i64 x.over.at_,.int .i64 x.si.form,.int .i64 (gu x.si.top.text),.int .i64 x.si.top.at_,.string x.si.name.text,.int .i64 x.si.name.at_]
def vrV (x:VrT):Value:=.agg (kqx x).toArray
def qk7 (L:List Tok)(st:RS):RS:=qg L [58] (qh L [110,97,109,101] (qg L [118,97,114] st)).2
def vrT (L:List Tok)(st:RS):VrT:=⟨(qh L [110,97,109,101] (qg L [118,97,114] st)).1,ql L [91] (qk7 L st),(kjv L (qk7 L st)).1,siT L (kjv L (qk7 L st)).2⟩
theorem vkf {L:List Tok}{st s1 s3:RS}{k:Tok × RS}(h1:qg L [118,97,114] st=s1)(h2:qh L [110,97,109,101] s1=k)(h3:qg L [58] k.2=s3) :
  vrT L st=⟨k.1,ql L [91] s3,(kjv L s3).1,siT L (kjv L s3).2⟩∧(kyo L st).2=qg L [59] (kkw L (kjv L s3).2).2:=by
 subst h1;subst h2;subst h3;exact ⟨rfl,rfl⟩
theorem zz9 {w:World}{b:Nat}{x0 x1 x2 x3 x4 x5 x6 x7 x8 x9:Value}{t:TypeId}(h:w.heap[b]?=some (.cells #[x0,x1,x2,x3,x4,x5,x6,x7,x8,x9] t (0,0)))(y5 y6 y7 y8 y9:Value) :
  (((((w.setCell ⟨b,5,none⟩ y5).setCell ⟨b,6,none⟩ y6).setCell ⟨b,7,none⟩ y7).setCell ⟨b,8,none⟩ y8).setCell ⟨b,9,none⟩ y9).heap[b]?=some (.cells #[x0,x1,x2,x3,x4,y5,y6,y7,y8,y9] t (0,0)):=
 heap_setCell_same _ b 9 _ _ _ (heap_setCell_same _ b 8 _ _ _ (heap_setCell_same _ b 7 _ _ _ (heap_setCell_same _ b 6 _ _ _ (heap_setCell_same _ b 5 _ _ _ h))))
theorem zz8 {w:World}{b c:Nat}{o:Obj}(h:w.heap[c]?=some o)(hc:c≠b)(y5 y6 y7 y8 y9:Value) :
  (((((w.setCell ⟨b,5,none⟩ y5).setCell ⟨b,6,none⟩ y6).setCell ⟨b,7,none⟩ y7).setCell ⟨b,8,none⟩ y8).setCell ⟨b,9,none⟩ y9).heap[c]?=some o:=by
 rw[ru _ _ _ _ hc,ru _ _ _ _ hc,ru _ _ _ _ hc,ru _ _ _ _ hc,ru _ _ _ _ hc];exact h
theorem qxf (w:World)(P:Nat)(v:Value)(L:List Tok)(st:RS)(h:Pd w P v L st) :
  Calls Tryz.prog 149 #[.pointer (some ⟨P,0,none⟩)] w fun e w'=>e=.returned (vrV (vrT L st))∧Pd w' P v L (kyo L st).2∧Kept P w w':=by
 have hX:=h.in;have HV:=hide h.kqa;go_enter Tryz.func149,Tryz.ntmps149
 go_wp2_with fail
 refine (kqo [118,97,114] (by decide) rfl rfl _ P v L st (h.alloc _)).mono ?_;rintro e w1 ⟨rfl,h1,hk1⟩;obtain ⟨hI,hJ⟩:=vkf (L:=L) (st:=st) rfl rfl rfl;have HI:=hide hI;have HJ:=hide hJ;clear hI hJ;generalize qg L [118,97,114] st=s1 at *;have hx1:=hk1.row (b:=w.heap.size) (by omega) (qy _ _);have HK1:=hide ((Kept.kq5 _).trans hk1);have H1:=hide h1;have HX1:=hide hx1;clear h1 hk1 hx1 h;go_wp2_with fail
 refine (kzv _ P v L _ (ku H1)).mono ?_;rintro e w2 ⟨rfl,h2,hk2⟩;generalize qh L [110,97,109,101] s1=k at *;have HK2:=hide ((ku HK1).trans hk2);have hx2:=hk2.row (by omega) (ku HX1);have hs2:=wX hx2;have HX2:=hide hx2;have H2:=hide h2;clear h2 hk2 HK1 HX1 H1 hx2;unfold ptV;go_wp2_with fail
 refine (kqo [58] (by decide) rfl rfl _ P v L _ ((ku H2).alloc _)).mono ?_;rintro e w3 ⟨rfl,h3,hk3⟩;generalize qg L [58] k.2=s3 at *;have HX3:=hide (hk3.row (by omega) (qp (ku HX2)));have HY3:=hide (hk3.row (b:=w2.heap.size) (by omega) (qy _ _));have HK3:=hide (((ku HK2).alloc _).trans hk3);have H3:=hide h3;clear h3 hk3 H2 HX2 HK2;go_wp2_with fail
 refine (kwi [91] (by decide) _ P v L _ (ku H3)).mono ?_;rintro e w4 ⟨rfl,h4,hk4⟩;have HX4:=hide (hk4.row (by omega) (ku HX3));have HY4:=hide (hk4.row (by omega) (ku HY3));have HK4:=hide ((ku HK3).trans hk4);have H4:=hide h4;clear h4 hk4 H3 HX3 HY3 HK3;cases hn:ql L [91] s3
 ·have HO:=hide (show kjv L s3=(jk,s3) by unfold kjv;rw[hn];rfl);rw[hn,ku HO] at HI;rw[ku HO] at HJ;go_wp2_with fail
  refine (qyu _ P v L _ (ku H4)).mono ?_;rintro e w5 ⟨rfl,h5,hk5⟩;have HX5:=hide (hk5.row (by omega) (ku HX4));have hy5:=hk5.row (b:=w2.heap.size) (by omega) (ku HY4);have HK5:=hide ((ku HK4).trans hk5);have H5:=hide h5;clear h5 hk5 H4 HX4 HY4 HK4;generalize siT L s3=q at *;obtain ⟨⟨_,_,_,_,_,g5,g6,g7,g8,g9⟩,⟨_,_,_,_,_,f5,f6,f7,f8,f9⟩⟩:=kk5 hy5;have HY5:=hide hy5;clear hy5;unfold siV;go_wp2_with fail
  clear g5 g6 g7 g8 g9 f5 f6 f7 f8 f9;refine (kqo [59] (by decide) rfl rfl _ P v L _ ((((((ku H5).setOther (ku HV) hX (by simp;omega) _).setOther (ku HV) hX (by simp;omega) _).setOther (ku HV) hX (by simp;omega) _).setOther (ku HV) hX (by simp;omega) _).setOther (ku HV) hX (by simp;omega) _)).mono ?_;rintro e w6 ⟨rfl,h6,hk6⟩;have hx6:=hk6.row (b:=w.heap.size) (by omega) (zz8 (ku HX5) (by omega) _ _ _ _ _);have hy6:=hk6.row (b:=w2.heap.size) (by omega) (zz9 (ku HY5) _ _ _ _ _);have HK6:=hide ((((((ku HK5).jm (p:=⟨w2.heap.size,5,none⟩) (by simp;omega) _).jm (p:=⟨w2.heap.size,6,none⟩) (by simp;omega) _).jm (p:=⟨w2.heap.size,7,none⟩) (by simp;omega) _).jm (p:=⟨w2.heap.size,8,none⟩) (by simp;omega) _).jm (p:=⟨w2.heap.size,9,none⟩) (by simp;omega) _ |>.trans hk6);obtain ⟨⟨d0,d1,d2,d3,d4,d5,d6,d7,d8,d9⟩,⟨e0,e1,e2,e3,e4,e5,e6,e7,e8,e9⟩⟩:=kk5 hx6;obtain ⟨⟨g0,g1,g2,g3,g4,g5,g6,g7,g8,g9⟩,_⟩:=kk5 hy6;have HX6:=hide hx6;have H6:=hide h6;clear h6 hk6 hx6 hy6 H5 HX5 HK5 HY5;go_wp2
  refine rY (v:=vrV ⟨k.1,false,jk,q⟩) (rZ Tryz.results149 _ _ w.heap.size _ _ _ _ rfl (zy9 (ku HX6) _ _ _ _ _ _ _ _ _ _) Tryz.underlying121 rfl (by kernel_rfl)) rfl ?_;rw[ku HI,ku HJ];exact ⟨rfl,(ku H6).zyq (ku HV) hX (wW _) _ _ _ _ _ _ _ _ _ _,(ku HK6).zyq (wW _) _ _ _ _ _ _ _ _ _ _⟩
 ·have HO:=hide (show kjv L s3=((sqT L s3).1,qg L [93] (sqT L s3).2) by unfold kjv;rw[hn];rfl);rw[hn,ku HO] at HI;rw[ku HO] at HJ;obtain ⟨⟨_,_,g2,_⟩,⟨_,_,f2,_⟩⟩:=kk5 (ku HY4);go_wp2_with fail
  refine (qvh _ P v L _ ((ku H4).setOther (ku HV) hX (by simp;omega) _)).mono ?_;rintro e w4b ⟨rfl,h4b,hk4b⟩;clear g2 f2;have HX4b:=hide (hk4b.row (b:=w.heap.size) (by omega) ((ru _ _ _ _ (by simp;omega)).trans (ku HX4)));have hy4b:=hk4b.row (b:=w2.heap.size) (by omega) (heap_setCell_same _ _ 2 _ _ _ (ku HY4));have HK4b:=hide (((ku HK4).jm (p:=⟨w2.heap.size,2,none⟩) (by simp;omega) (.bool true)).trans hk4b);have H4b:=hide h4b;clear h4b hk4b H4 HX4 HY4 HK4;generalize sqT L s3=i at *;obtain ⟨⟨_,_,_,g3,g4,_⟩,⟨_,_,_,f3,f4,_⟩⟩:=kk5 hy4b;have HY4b:=hide hy4b;clear hy4b;unfold ptV;go_wp2_with fail
  clear g3 g4 f3 f4;refine (qyu _ P v L _ ((ku H4b).set2 (ku HV) hX (by simp;omega) (by simp;omega) _ _)).mono ?_;rintro e w5 ⟨rfl,h5,hk5⟩;have HX5:=hide (hk5.row (b:=w.heap.size) (by omega) ((ru _ _ _ _ (by simp;omega)).trans ((ru _ _ _ _ (by simp;omega)).trans (ku HX4b))));have hy5:=hk5.row (b:=w2.heap.size) (by omega) (heap_setCell_same _ _ 4 _ _ _ (heap_setCell_same _ _ 3 _ _ _ (ku HY4b)));have HK5:=hide ((((ku HK4b).jm (p:=⟨w2.heap.size,3,none⟩) (by simp;omega) _).jm (p:=⟨w2.heap.size,4,none⟩) (by simp;omega) _).trans hk5);have H5:=hide h5;clear h5 hk5 H4b HX4b HY4b HK4b;generalize siT L (qg L [93] i.2)=q at *;generalize qg L [93] i.2=s5 at *;obtain ⟨⟨_,_,_,_,_,g5,g6,g7,g8,g9⟩,⟨_,_,_,_,_,f5,f6,f7,f8,f9⟩⟩:=kk5 hy5;have HY5:=hide hy5;clear hy5;unfold siV;go_wp2_with fail
  clear g5 g6 g7 g8 g9 f5 f6 f7 f8 f9;refine (kqo [59] (by decide) rfl rfl _ P v L _ ((((((ku H5).setOther (ku HV) hX (by simp;omega) _).setOther (ku HV) hX (by simp;omega) _).setOther (ku HV) hX (by simp;omega) _).setOther (ku HV) hX (by simp;omega) _).setOther (ku HV) hX (by simp;omega) _)).mono ?_;rintro e w6 ⟨rfl,h6,hk6⟩;have hx6:=hk6.row (b:=w.heap.size) (by omega) (zz8 (ku HX5) (by omega) _ _ _ _ _);have hy6:=hk6.row (b:=w2.heap.size) (by omega) (zz9 (ku HY5) _ _ _ _ _);have HK6:=hide ((((((ku HK5).jm (p:=⟨w2.heap.size,5,none⟩) (by simp;omega) _).jm (p:=⟨w2.heap.size,6,none⟩) (by simp;omega) _).jm (p:=⟨w2.heap.size,7,none⟩) (by simp;omega) _).jm (p:=⟨w2.heap.size,8,none⟩) (by simp;omega) _).jm (p:=⟨w2.heap.size,9,none⟩) (by simp;omega) _ |>.trans hk6);obtain ⟨⟨d0,d1,d2,d3,d4,d5,d6,d7,d8,d9⟩,⟨e0,e1,e2,e3,e4,e5,e6,e7,e8,e9⟩⟩:=kk5 hx6;obtain ⟨⟨g0,g1,g2,g3,g4,g5,g6,g7,g8,g9⟩,_⟩:=kk5 hy6;have HX6:=hide hx6;have H6:=hide h6;clear h6 hk6 hx6 hy6 H5 HX5 HK5 HY5;go_wp2
  refine rY (v:=vrV ⟨k.1,true,i.1,q⟩) (rZ Tryz.results149 _ _ w.heap.size _ _ _ _ rfl (zy9 (ku HX6) _ _ _ _ _ _ _ _ _ _) Tryz.underlying121 rfl (by kernel_rfl)) rfl ?_;rw[ku HI,ku HJ];exact ⟨rfl,(ku H6).zyq (ku HV) hX (wW _) _ _ _ _ _ _ _ _ _ _,(ku HK6).zyq (wW _) _ _ _ _ _ _ _ _ _ _⟩
end Go.Proofs.YtpmcnonmkghokaaGreatDoor
namespace Go.Proofs.YtpmcnonmkghokaaGreatDoor
open Go.RowKit
attribute [local go_sem ↓] Go.wp_at_zero Go.wp_at_succ
theorem Tryz.infoNm:(Tryz.prog.info? 107).map (fun i=>(i.zero,i.size,i.bytes))=some (some (.agg #[.string ⟨#[]⟩,.int .i64 0]),2,24):=by kernel_rfl
theorem vza {w:World}{b:Nat}{x0 x1 x2:Value}{t:TypeId}(h:w.heap[b]?=some (.cells #[x0,x1,x2] t (0,0)))(y0 y1 y2:Value) :
  (((w.setCell ⟨b,0,none⟩ y0).setCell ⟨b,1,none⟩ y1).setCell ⟨b,2,none⟩ y2).heap[b]?=some (.cells #[y0,y1,y2] t (0,0)):=
 heap_setCell_same _ b 2 _ _ _ (heap_setCell_same _ b 1 _ _ _ (heap_setCell_same _ b 0 _ _ _ h))
structure qk5 (w:World)(P:Nat)(v:Value)(L:List Tok)(B0 B1:Nat)(name:Tok)(acc:List Tok)(s:RS)(x:Value)(wx:World):Prop where
 b0:wx.heap[B0]?=some (.cells #[.string ⟨#[]⟩,.int .i64 0,.slice none 0 0] 114 (0,0))
 b1:wx.heap[B1]?=some (.cells #[.string name.text,.int .i64 name.at_,x] 114 (0,0))
 own:wx.ownsRow (B1+1) 107 2 x acc.length (bf acc)
 pd:Pd wx P v L s
 kept:Kept P w wx
theorem qk5.kept' {w:World}{P:Nat}{v:Value}{L:List Tok}{B0 B1:Nat}{name:Tok}{acc:List Tok}{s s':RS}{x:Value}{wx wy:World}(h:qk5 w P v L B0 B1 name acc s x wx)(hk:Kept P wx wy)(hp:Pd wy P v L s')(h0:B0≠P)(h1:P<B1):qk5 w P v L B0 B1 name acc s' x wy:=
 ⟨hk.row h0 h.b0,hk.row (by omega) h.b1,kzq h.own hk (by omega),hp,h.kept.trans hk⟩
theorem qk5.more {w:World}{P:Nat}{v:Value}{L:List Tok}{B0 B1:Nat}{name:Tok}{acc:List Tok}{s:RS}{x y:Value}{wx wy:World}{t:Tok}{o:Obj}(h:qk5 w P v L B0 B1 name acc s x wx)(hg:(wx.alloc o).grownBy wy x.ownBlock)
  (hown:wy.ownsRow (B1+1) 107 2 y (acc.length+1) (bf acc++kqq t)) (hB:∀ g,v.ownBlock=some g→g<w.heap.size) (hP:P<w.heap.size) (hB0:w.heap.size=B0) (hB1:B0<B1):qk5 w P v L B0 B1 name (acc++[t]) s y (wy.setCell ⟨B1,2,none⟩ y):=by
 subst hB0;have hge:=yw h.own;have l0:=wX h.b0;have l1:=wX h.b1;have e0:wy.heap[w.heap.size]?=wx.heap[w.heap.size]?:=(hg.block _ (by simp;omega) (fun e=>by have:=hge _ e.symm;omega)).trans (nZ _ _ _ l0);have e1:wy.heap[B1]?=wx.heap[B1]?:=(hg.block _ (by simp;omega) (fun e=>by have:=hge _ e.symm;omega)).trans (nZ _ _ _ l1);refine ⟨by rw[ru _ _ _ _ (by simp;omega),e0];exact h.b0,heap_setCell_same _ _ 2 _ _ _ (e1.trans h.b1),?_,?_,?_⟩
 ·rw[kya,wU];exact ownsRow_setCell_other hown (fun e=>by have:=yw hown _ e;simp at this;omega) _
 ·exact ((h.pd.alloc o).grown hg hge (fun g hg=>by have:=hB g hg;omega) (by omega)).setOther (B:=w.heap.size) hB hP (by simp;omega) _
 ·exact (((h.kept.alloc o).grown hg (fun k hk=>by have:=hge k hk;omega)).jm (by simp;omega) _)
def zx1 (L:List Tok)(fin:List Tok × RS)(acc:List Tok)(s:RS):Prop:=
 (s.bad=true∧fin.2=s)∨(s.bad=false∧1≤acc.length∧∃ f,L.length≤s.at_+f∧(if ql L [44] s then kv1 f L acc (qg L [44] s) else (acc,s))=fin)
theorem jzf {L:List Tok}{s:RS}{f:Nat}(hf:L.length≤s.at_+f):zx1 L (kv1 (f+1+1) L [] s) [(qh L [110,97,109,101] s).1,(qh L [110,97,109,101] (qg L [44] (qh L [110,97,109,101] s).2)).1] (qh L [110,97,109,101] (qg L [44] (qh L [110,97,109,101] s).2)).2:=by
 cases hb:s.bad
 ·rw[kv1];simp only[hb,tZ,if_false,fP,Qx,Nat.reduceLT,decide_true,Qw,if_true,lK];have m1:=yx L [110,97,109,101] s;have m2:=zi L [44] (qh L [110,97,109,101] s).2;generalize qg L [44] (qh L [110,97,109,101] s).2=s4 at *;have m3:=yx L [110,97,109,101] s4;rw[kv1];cases hb4:s4.bad
  ·simp only[tZ,if_false,QJ,Nat.reduceAdd,Nat.lt_irrefl,decide_false,nM,fD,lK];cases hb5:(qh L [110,97,109,101] s4).2.bad
   ·exact Or.inr ⟨hb5,by simp,f,by omega,rfl⟩
   ·exact Or.inl ⟨hb5,by rw[uj hb5];rfl⟩
  ·simp only[if_true];exact Or.inl ⟨by rw[kj4 hb4];exact hb4,by rw[kj4 hb4]⟩
 ·have e:(qh L [110,97,109,101] (qg L [44] (qh L [110,97,109,101] s).2)).2=s:=by rw[kj4 hb,yg hb,kj4 hb]
  rw[e,kv1];simp only[hb,if_true];exact Or.inl ⟨hb,rfl⟩
theorem jqw {L:List Tok}{fin:List Tok × RS}{acc:List Tok}{s:RS}(hlt:s.at_<L.length)(h:zx1 L fin acc s)(hn:ql L [44] s=true):zx1 L fin (acc++[(qh L [110,97,109,101] (qg L [44] s)).1]) (qh L [110,97,109,101] (qg L [44] s)).2:=by
 rcases h with ⟨hb,_⟩|⟨hb,hal,f,hf,e⟩
 ·rw[uj hb] at hn;cases hn
 ·rw[if_pos hn] at e;have hm:qg L [44] s={ s with at_:=s.at_+1 }:=by rw[kjn rfl rfl];unfold qwv;rw[hn];rfl
  have hat:(qg L [44] s).at_=s.at_+1:=by rw[hm]
  have hbm:(qg L [44] s).bad=false:=by rw[hm];exact hb
  obtain ⟨f,rfl⟩:∃ g,f=g+1:=⟨f-1,by omega⟩;generalize qg L [44] s=s' at *;rw[kv1] at e;simp only[hbm,tZ,if_false] at e;rw[show decide (acc.length+1<2)=false by simp;omega,nM] at e;have hmo:=yx L [110,97,109,101] s';cases hb2:(qh L [110,97,109,101] s').2.bad
  ·exact Or.inr ⟨hb2,by simp,f,by omega,e⟩
  ·refine Or.inl ⟨hb2,?_⟩;rw[uj hb2] at e;rw[←e];rfl
theorem jzo {L:List Tok}{fin:List Tok × RS}{acc:List Tok}{s:RS}(h:zx1 L fin acc s)(hn:ql L [44] s=false):fin.2=s∧(s.bad=false→fin.1=acc):=by
 rcases h with ⟨hb,e⟩|⟨hb,_,f,hf,e⟩
 ·exact ⟨e,fun hb'=>by rw[hb] at hb';cases hb'⟩
 ·rw[hn] at e;simp only[tZ,if_false] at e;rw[←e];exact ⟨rfl,fun _=>rfl⟩
theorem jva {L:List Tok}{st s1 s3:RS}{k:Tok × RS}(h1:qg L [107,105,110,100] st=s1)(h2:qh L [110,97,109,101] s1=k)(h3:qg L [123] k.2=s3) :
  kjw L st=(⟨k.1,(kv1 (pz L) L [] s3).1⟩,qg L [125] (kv1 (pz L) L [] s3).2):=by
 subst h1;subst h2;subst h3;rfl
def vwq (P:Nat)(v:Value)(L:List Tok)(w:World)(r:PKind × RS)(e:Ending)(w':World):Prop:=
 ∃ x l,e=.returned (.agg #[.string r.1.name.text,.int .i64 r.1.name.at_,x])∧w'.ownsRow w.heap.size 107 2 x l.length (bf l)∧(r.2.bad=false→l=r.1.members)∧Pd w' P v L r.2∧Kept P w w'∧l.length≤802
def jxs (w:World)(P:Nat)(v:Value)(L:List Tok)(fin:List Tok × RS)(B1:Nat)(name:Tok)(wx:World):Prop:=
 ∃ acc s x,zx1 L fin acc s∧acc.length≤s.at_+2∧qk5 w P v L w.heap.size B1 name acc s x wx
theorem jw0 (w:World)(P:Nat)(v:Value)(L:List Tok)(st:RS)(h:Pd w P v L st) :
  Calls Tryz.prog 148 #[.pointer (some ⟨P,0,none⟩)] w fun e w'=>vwq P v L w (kjw L st) e w':=by
 obtain ⟨i0,hi,hz0,hz1,hz2⟩:=info_parts Tryz.infoNm;have hX:=h.in;have HV:=hide h.kqa;have hlen:=h.ok.len;go_enter Tryz.func148,Tryz.ntmps148
 go_wp2_with fail
 refine (kqo [107,105,110,100] (by decide) rfl rfl _ P v L st (h.alloc _)).mono ?_;rintro e w1 ⟨rfl,h1,hk1⟩;have HE:=hide (jva (L:=L) (st:=st) rfl rfl rfl);generalize qg L [107,105,110,100] st=s1 at *;have hx1:=hk1.row (b:=w.heap.size) (by omega) (qy _ _);have HK1:=hide ((Kept.kq5 _).trans hk1);have H1:=hide h1;have HX1:=hide hx1;clear h1 hk1 hx1 h;go_wp2_with fail
 refine (kzv _ P v L _ (ku H1)).mono ?_;rintro e w2 ⟨rfl,h2,hk2⟩;generalize qh L [110,97,109,101] s1=k at *;have HK2:=hide ((ku HK1).trans hk2);have hx2:=hk2.row (by omega) (ku HX1);have hs2:=wX hx2;have HX2:=hide hx2;have H2:=hide h2;clear h2 hk2 HK1 HX1 H1 hx2;unfold ptV;go_wp2_with fail
 refine (qzx [123] (by decide) rfl _ P v L _ ((ku H2).alloc _)).mono ?_;rintro e w3 ⟨rfl,h3,hk3⟩;generalize qg L [123] k.2=s3 at *;have HR3:=hide (show qk5 w P v L w.heap.size w2.heap.size k.1 [] s3 (.slice none 0 0) w3 from ⟨hk3.row (by omega) (qp (ku HX2)),hk3.row (b:=w2.heap.size) (by omega) (qy _ _),rP _ _ _ _,h3,((ku HK2).alloc _).trans hk3⟩);clear h3 hk3 H2 HX2 HK2;go_upto_region 4 with fail
 go_cut [] from 11 to 17 (fun wx=>∃ x,qk5 w P v L w.heap.size w2.heap.size k.1 [(qh L [110,97,109,101] s3).1] (qh L [110,97,109,101] s3).2 x wx)
 case first=>
  obtain ⟨_,_,q2,_,_,r2⟩:=row3 (ku HR3).b1;have hsz3:=wX (ku HR3).b1;go_region_law (first
   | (refine step_append_lies _ (by rfl) _ _ _ (by rfl) (w2.heap.size+1) 107 i0 _ 2 24 Tryz.underlying112 hi hz0 hz1 hz2 rfl (by omega) (.slice none 0 0) 0 (bf []) (by rfl) ((ku HR5).own.alloc _) ⟨w5.heap.size,0,none⟩ 1 1 (kqq (qh L [110,97,109,101] s3).1) (by rfl) (by rfl) (World.news_of_block (cs:=(kqq (qh L [110,97,109,101] s3).1).toArray) (t:=107) (fr:=(0,0)) (heap_alloc_new w5 _)) (kvn _) (by omega) (by unfold maxLen;omega) (by omega) (by simp;omega) (w5.heap.size+1) (by simp) ?_;intro gg cap w6 hown6 hgrow hat hlt6;have hf6:w6.frozen? ⟨w2.heap.size,2,none⟩=false:=(hgrow.frozen_far _ (by simp;omega) (by simp[Value.ownBlock])).trans (kjz (below_alloc1 _ _) hsz5 r5);have hc6:w6.cell? ⟨w2.heap.size,2,none⟩=some (.slice none 0 0):=(hgrow.cell_far _ (by simp;omega) (by simp[Value.ownBlock])).trans (fJ (below_alloc1 _ _) q5))
   | (go_simp;go_at_call 202;refine (kzv _ P v L _ ((ku HR3).pd.below ((Below.refl _ _).drew))).mono ?_;rintro e w5 ⟨rfl,h5,hk5⟩;have hR5:=(ku HR3).kept' ((Kept.refl _ _).drew.trans hk5) h5 (by omega) (by omega);obtain ⟨_,_,q5,_,_,r5⟩:=row3 hR5.b1;have HR5:=hide hR5;have hsz5:=wX hR5.b1;clear h5 hk5 hR5;unfold ptV;dsimp only))
  all_goals
   go_wp2_with fail
   go_meet
   exact ⟨_,(ku HR5).more hgrow hown6 (ku HV) hX rfl hs2⟩
 case rest=>
 obtain ⟨x4,hR4⟩:=hcut;have HR4:=hide hR4;have HL:=hide (jzf (L:=L) (s:=s3) (f:=L.length) (by omega));have HF:=hide (show kv1 (L.length+1+1) L [] s3=kv1 (pz L) L [] s3 from rfl);generalize kv1 (L.length+1+1) L [] s3=fin at *;clear HR3 hR4;go_wp2_with fail
 generalize qh L [110,97,109,101] s3=k3 at *;refine (kqo [44] (by decide) rfl rfl _ P v L _ (ku HR4).pd).mono ?_;rintro e w7 ⟨rfl,h7,hk7⟩;have hR7:=(ku HR4).kept' hk7 h7 (by omega) (by omega);obtain ⟨xa,xl,xc,rfl⟩:=jy hR7.own;have HR7:=hide hR7;clear h7 hk7 hR7 HR4;generalize qg L [44] k3.2=s7 at *;go_upto_region 6 with fail
 go_cut [] from 20 to 26 (fun wx=>∃ x,qk5 w P v L w.heap.size w2.heap.size k.1 [k3.1,(qh L [110,97,109,101] s7).1] (qh L [110,97,109,101] s7).2 x wx)
 case first=>
  obtain ⟨_,_,q2,_,_,r2⟩:=row3 (ku HR7).b1;have hsz3:=wX (ku HR7).b1;go_region_law (first
   | (refine step_append_lies _ (by rfl) _ _ _ (by rfl) (w2.heap.size+1) 107 i0 _ 2 24 Tryz.underlying112 hi hz0 hz1 hz2 rfl (by omega) (.slice xa xl xc) [k3.1].length (bf [k3.1]) (by rfl) ((ku HR5).own.alloc _) ⟨w5.heap.size,0,none⟩ 1 1 (kqq (qh L [110,97,109,101] s7).1) (by rfl) (by rfl) (World.news_of_block (cs:=(kqq (qh L [110,97,109,101] s7).1).toArray) (t:=107) (fr:=(0,0)) (heap_alloc_new w5 _)) (kvn _) (by omega) (by unfold maxLen;simp only[QJ];omega) (by simp only[QJ];omega) (by simp;omega) (w5.heap.size+1) (by simp) ?_;intro gg cap w6 hown6 hgrow hat hlt6;have hf6:w6.frozen? ⟨w2.heap.size,2,none⟩=false:=(hgrow.frozen_far _ (by simp;omega) (show some w2.heap.size≠_ from fun e=>by have:=hge5 _ e.symm;omega)).trans (kjz (below_alloc1 _ _) hsz5 r5);have hc6:w6.cell? ⟨w2.heap.size,2,none⟩=some (.slice xa xl xc):=(hgrow.cell_far _ (by simp;omega) (show some w2.heap.size≠_ from fun e=>by have:=hge5 _ e.symm;omega)).trans (fJ (below_alloc1 _ _) q5))
   | (go_simp;go_at_call 202;refine (kzv _ P v L _ ((ku HR7).pd.below ((Below.refl _ _).drew))).mono ?_;rintro e w5 ⟨rfl,h5,hk5⟩;have hR5:=(ku HR7).kept' ((Kept.refl _ _).drew.trans hk5) h5 (by omega) (by omega);obtain ⟨_,_,q5,_,_,r5⟩:=row3 hR5.b1;have hge5:=yw hR5.own;have HR5:=hide hR5;have hsz5:=wX hR5.b1;clear h5 hk5 hR5;unfold ptV;dsimp only))
  all_goals
   go_wp2_with fail
   go_meet
   exact ⟨_,(ku HR5).more hgrow hown6 (ku HV) hX rfl hs2⟩
 case rest=>
 obtain ⟨x8,hR8⟩:=hcut;have HLoop:=hide (show jxs w P v L fin w2.heap.size k.1 _ from ⟨_,_,x8,ku HL,by simp,hR8⟩);clear HR7 hR8 HL;go_wp2_with fail
 go_loopw [] (fun wr=>jxs w P v L fin w2.heap.size k.1 wr) (fun wr=>L.length-qxh wr P)
 case atStart=>exact ku HLoop
 case round=>
  obtain ⟨acc,s,x,hleft,hal,hR⟩:=hrel;have hlt:=hR.pd.lt;have HL:=hide hleft;have HR:=hide hR;clear hleft hR;go_wp2_with fail
  refine (kqc [44] (by decide) _ P v L s (ku HR).pd).mono ?_;rintro e w9 ⟨rfl,h9,hk9⟩;cases hc:ql L [44] s
  ·rw[kzx hc] at h9;obtain ⟨he1,he2⟩:=jzo (ku HL) hc;have HR9:=hide ((ku HR).kept' hk9 h9 (by omega) (by omega));have HE1:=hide he1;have HE2:=hide he2;clear h9 hk9 he1 he2;go_wp2_with fail
   refine (qq9 [125] (by decide) rfl rfl _ P v L s (ku HR9).pd).mono ?_;rintro e w10 ⟨rfl,h10,hk10⟩;have hR10:=(ku HR9).kept' hk10 h10 (by omega) (by omega);obtain ⟨ya,yl,yc,rfl⟩:=jy hR10.own;obtain ⟨d0,d1,d2,e0,e1,e2⟩:=row3 hR10.b0;obtain ⟨g0,g1,g2,_⟩:=row3 hR10.b1;have HR10:=hide hR10;clear h10 hk10 hR10;go_wp2
   refine rY (v:=.agg #[.string k.1.text,.int .i64 k.1.at_,.slice ya yl yc]) (rZ Tryz.results148 _ _ w.heap.size _ _ _ _ rfl (vza (ku HR10).b0 _ _ _) Tryz.underlying114 rfl (by kernel_rfl)) rfl ?_;rw[ku HE,←ku HF,ku HE1];have hge:=yw (ku HR10).own;refine ⟨_,acc,rfl,?_,fun hb=>((ku HE2) (kj5 hb)).symm,?_,?_,by omega⟩
   ·exact zu (by omega) (ownsRow_setCell_other (ownsRow_setCell_other (ownsRow_setCell_other (ku HR10).own (fun e=>by have:=hge _ e;simp at this;omega) _) (fun e=>by have:=hge _ e;simp at this;omega) _) (fun e=>by have:=hge _ e;simp at this;omega) _)
   ·exact (((ku HR10).pd.setOther (ku HV) hX (wW _) _).setOther (ku HV) hX (wW _) _).setOther (ku HV) hX (wW _) _
   ·exact (((ku HR10).kept.jm (wW _) _).jm (wW _) _).jm (wW _) _
  ·rw[qqp hc rfl rfl] at h9;have hns:=kqb (ku HR).pd.ok hlt hc;have hmm:(qg L [44] s).at_=s.at_+1:=by rw[kjn rfl rfl];unfold qwv;rw[hc];rfl
   have HM:=hide (jqw hlt (ku HL) hc);have hR9:=(ku HR).kept' hk9 h9 (by omega) (by omega);obtain ⟨xa,xl,xc,rfl⟩:=jy hR9.own;have HR9:=hide hR9;clear h9 hk9 hR9 HL;generalize qg L [44] s=s' at *;have hmo:=yx L [110,97,109,101] s';go_wp2_with fail
   obtain ⟨_,_,q2,_,_,r2⟩:=row3 (ku HR9).b1;have hsz3:=wX (ku HR9).b1;go_region_law (first
   | (refine step_append_lies _ (by rfl) _ _ _ (by rfl) (w2.heap.size+1) 107 i0 _ 2 24 Tryz.underlying112 hi hz0 hz1 hz2 rfl (by omega) (.slice xa xl xc) acc.length (bf acc) (by rfl) ((ku HR5).own.alloc _) ⟨w5.heap.size,0,none⟩ 1 1 (kqq (qh L [110,97,109,101] s').1) (by rfl) (by rfl) (World.news_of_block (cs:=(kqq (qh L [110,97,109,101] s').1).toArray) (t:=107) (fr:=(0,0)) (heap_alloc_new w5 _)) (kvn _) (by omega) (by unfold maxLen;omega) (by omega) (by simp;omega) (w5.heap.size+1) (by simp) ?_;intro gg cap w6 hown6 hgrow hat hlt6;have hf6:w6.frozen? ⟨w2.heap.size,2,none⟩=false:=(hgrow.frozen_far _ (by simp;omega) (show some w2.heap.size≠_ from fun e=>by have:=hge5 _ e.symm;omega)).trans (kjz (below_alloc1 _ _) hsz5 r5);have hc6:w6.cell? ⟨w2.heap.size,2,none⟩=some (.slice xa xl xc):=(hgrow.cell_far _ (by simp;omega) (show some w2.heap.size≠_ from fun e=>by have:=hge5 _ e.symm;omega)).trans (fJ (below_alloc1 _ _) q5))
   | (go_simp;go_at_call 202;refine (kzv _ P v L _ ((ku HR9).pd.below ((Below.refl _ _).drew))).mono ?_;rintro e w5 ⟨rfl,h5,hk5⟩;have hR5:=(ku HR9).kept' ((Kept.refl _ _).drew.trans hk5) h5 (by omega) (by omega);obtain ⟨_,_,q5,_,_,r5⟩:=row3 hR5.b1;have hge5:=yw hR5.own;have HR5:=hide hR5;have hsz5:=wX hR5.b1;clear h5 hk5 hR5;unfold ptV;dsimp only))
   all_goals
    have hm2:=(ku HR5).more hgrow hown6 (ku HV) hX rfl hs2;have HMS:=hide (kxc (ku HR).pd hm2.pd hns.1 hns.2 (fun _=>by omega));have HR7:=hide (show jxs w P v L fin w2.heap.size k.1 _ from ⟨_,_,_,ku HM,by simp;omega,hm2⟩);clear hm2 hown6 hgrow hat hf6 hc6;go_wp2
    go_roundw
    case rel=>exact ku HR7
    case measure=>exact ku HMS
end Go.Proofs.YtpmcnonmkghokaaGreatDoor
namespace Go.Proofs.YtpmcnonmkghokaaGreatDoor
open Go.RowKit
def kxv (lo:Nat)(w:World):List PRule→List Value→Prop
 | [],cs=>cs=[]
 | r::rs,cs=>∃ pa pn pc gp ba bn bc bcs rest,cs=[.string r.name.text,.int .i64 r.name.at_,.slice pa pn pc,.pointer gp,.slice ba bn bc]++rest∧w.ownsRow lo 352 4 (.slice pa pn pc) r.params.length (jw r.params) ∧
   XIs lo w r.guard (.pointer gp)∧w.ownsRow lo 334 9 (.slice ba bn bc) (uz r.body) bcs∧BIs lo none w r.body bcs∧kxv lo w rs rest
def kxw (lo:Nat)(w:World):List PRule→List Value→Prop
 | [],cs=>cs=[]
 | r::rs,cs=>∃ pa pn pc gp rest,cs=[.string r.name.text,.int .i64 r.name.at_,.slice pa pn pc,.pointer gp]++rest∧w.ownsRow lo 352 4 (.slice pa pn pc) r.params.length (jw r.params) ∧
   XIs lo w r.guard (.pointer gp)∧kxw lo w rs rest
theorem kxv.stay {lo:Nat}{w w':World}(hk:∀ k,lo≤k→k<w.heap.size→w'.heap[k]?=w.heap[k]?):∀ {rs:List PRule} {cs:List Value},kxv lo w rs cs→kxv lo w' rs cs
 | [],_,h=>h
 | r::rs,_,⟨pa,pn,pc,gp,ba,bn,bc,bcs,rest,e,h1,h2,h3,h4,h5⟩=>⟨pa,pn,pc,gp,ba,bn,bc,bcs,rest,e,jv hk h1,h2.stay hk,jv hk h3,h4.stay hk,kxv.stay hk h5⟩
theorem kxw.stay {lo:Nat}{w w':World}(hk:∀ k,lo≤k→k<w.heap.size→w'.heap[k]?=w.heap[k]?):∀ {rs:List PRule} {cs:List Value},kxw lo w rs cs→kxw lo w' rs cs
 | [],_,h=>h
 | r::rs,_,⟨pa,pn,pc,gp,rest,e,h1,h2,h5⟩=>⟨pa,pn,pc,gp,rest,e,jv hk h1,h2.stay hk,kxw.stay hk h5⟩
theorem kxv.mono {lo lo':Nat}{w:World}(hl:lo'≤lo):∀ {rs:List PRule} {cs:List Value},kxv lo w rs cs→kxv lo' w rs cs
 | [],_,h=>h
 | r::rs,_,⟨pa,pn,pc,gp,ba,bn,bc,bcs,rest,e,h1,h2,h3,h4,h5⟩=>⟨pa,pn,pc,gp,ba,bn,bc,bcs,rest,e,zu hl h1,h2.mono hl,zu hl h3,h4.mono hl,kxv.mono hl h5⟩
theorem kxw.mono {lo lo':Nat}{w:World}(hl:lo'≤lo):∀ {rs:List PRule} {cs:List Value},kxw lo w rs cs→kxw lo' w rs cs
 | [],_,h=>h
 | r::rs,_,⟨pa,pn,pc,gp,rest,e,h1,h2,h5⟩=>⟨pa,pn,pc,gp,rest,e,zu hl h1,h2.mono hl,kxw.mono hl h5⟩
theorem kxv.app {lo:Nat}{w:World}:∀ {rs ss:List PRule} {cs ds:List Value},kxv lo w rs cs→kxv lo w ss ds→kxv lo w (rs++ss) (cs++ds)
 | [],_,cs,ds,h,h'=>by
  have:cs=[]:=h;subst this;exact h'
 | r::rs,ss,cs,ds,⟨pa,pn,pc,gp,ba,bn,bc,bcs,rest,e,h1,h2,h3,h4,h5⟩,h'=>⟨pa,pn,pc,gp,ba,bn,bc,bcs,rest++ds,by rw[e,tX],h1,h2,h3,h4,h5.app h'⟩
theorem kxw.app {lo:Nat}{w:World}:∀ {rs ss:List PRule} {cs ds:List Value},kxw lo w rs cs→kxw lo w ss ds→kxw lo w (rs++ss) (cs++ds)
 | [],_,cs,ds,h,h'=>by
  have:cs=[]:=h;subst this;exact h'
 | r::rs,ss,cs,ds,⟨pa,pn,pc,gp,rest,e,h1,h2,h5⟩,h'=>⟨pa,pn,pc,gp,rest++ds,by rw[e,tX],h1,h2,h5.app h'⟩
def vw5 (P:Nat)(v:Value)(L:List Tok)(w:World)(r:PRule × RS)(e:Ending)(w':World):Prop:=
 ∃ c0 c1 c2 c3 c4 rr,e=.returned (.agg #[c0,c1,c2,c3,c4])∧kxv w.heap.size w' [rr] [c0,c1,c2,c3,c4]∧(∀ u∈[c0,c1,c2,c3,c4],u.oneCell'=true)∧(r.2.bad=false→rr=r.1)∧Pd w' P v L r.2∧Kept P w w'
def vw8 (P:Nat)(v:Value)(L:List Tok)(w:World)(r:PRule × RS)(e:Ending)(w':World):Prop:=
 ∃ c0 c1 c2 c3 rr,e=.returned (.agg #[c0,c1,c2,c3])∧kxw w.heap.size w' [rr] [c0,c1,c2,c3]∧(∀ u∈[c0,c1,c2,c3],u.oneCell'=true)∧(r.2.bad=false→rr=r.1)∧Pd w' P v L r.2∧Kept P w w'
theorem zk4 {L:List Tok}{st s1 s4:RS}{k:Tok × RS}{p:List PP × RS}{g:PX × RS}{b:PB × RS}(h1:qg L [114,117,108,101] st=s1)(h2:qh L [110,97,109,101] s1=k)(h3:kqr L k.2=p)(h4:qg L [105,102] p.2=s4)(h5:rX (ji L) 0 .nil L s4=g)(h6:rS (kwj L) 0 L g.2=b) :
  kqm L st=(⟨k.1,p.1,g.1,b.1⟩,b.2):=by
 subst h1;subst h2;subst h3;subst h4;subst h5;subst h6;rfl
theorem jz8 {L:List Tok}{st s1:RS}{k:Tok × RS}{p:List PP × RS}{g:PX × RS}(h1:qg L [110,101,118,101,114] st=s1)(h2:qh L [110,97,109,101] s1=k)(h3:kqr L k.2=p)(h5:rX (ji L) 0 .nil L p.2=g) :
  kqn L st=(⟨k.1,p.1,g.1,.nil⟩,qg L [59] g.2):=by
 subst h1;subst h2;subst h3;subst h5;rfl
theorem uo.kv0 {lo:Nat}{a w:World}(h:uo lo a w){b:Nat}(hb:b<lo∨a.heap.size≤b)(y0 y1 y2 y3 y4:Value) :
  uo lo a (((((w.setCell ⟨b,0,none⟩ y0).setCell ⟨b,1,none⟩ y1).setCell ⟨b,2,none⟩ y2).setCell ⟨b,3,none⟩ y3).setCell ⟨b,4,none⟩ y4):=
 ((((h.set hb y0).set hb y1).set hb y2).set hb y3).set hb y4
theorem uo.zx8 {lo:Nat}{a w:World}(h:uo lo a w){b:Nat}(hb:b<lo∨a.heap.size≤b)(y0 y1 y2 y3:Value) :
  uo lo a ((((w.setCell ⟨b,0,none⟩ y0).setCell ⟨b,1,none⟩ y1).setCell ⟨b,2,none⟩ y2).setCell ⟨b,3,none⟩ y3):=
 (((h.set hb y0).set hb y1).set hb y2).set hb y3
theorem qky {lo:Nat}{w w':World}{e size:Nat}{v:Value}{n:Nat}{xs:List Value}(h:w.ownsRow lo e size v n xs)(hs:uo lo w w'):w'.ownsRow lo e size v n xs:=jv hs.block h
theorem vxm {L:List Tok}{f tag:Nat}{s:RS}(h:(rS f tag L s).2.bad=false):s.bad=false:=by
 cases hb:s.bad
 ·rfl
 ·rw[kx9 hb,hb] at h;cases h
theorem zkq (w:World)(P:Nat)(v:Value)(L:List Tok)(st:RS)(h:Pd w P v L st) :
  Calls Tryz.prog 150 #[.pointer (some ⟨P,0,none⟩)] w fun e w'=>vw5 P v L w (kqm L st) e w':=by
 have hX:=h.in;have HV:=hide h.kqa;go_enter Tryz.func150,Tryz.ntmps150
 go_wp2_with fail
 refine (kqo [114,117,108,101] (by decide) rfl rfl _ P v L st (h.alloc _)).mono ?_;rintro e w1 ⟨rfl,h1,hk1⟩;have HD:=hide (zk4 (L:=L) (st:=st) rfl rfl rfl rfl rfl rfl);generalize qg L [114,117,108,101] st=s1 at *;have hx1:=hk1.row (b:=w.heap.size) (by omega) (qy _ _);have hz1:=wX hx1;have HX1:=hide hx1;have HK1:=hide ((Kept.kq5 _).trans hk1);have H1:=hide h1;clear h h1 hk1 hx1;go_wp2_with fail
 refine (kzv _ P v L _ (ku H1)).mono ?_;rintro e w2 ⟨rfl,h2,hk2⟩;generalize qh L [110,97,109,101] s1=k at *;have hx2:=hk2.row (by omega) (ku HX1);have hz2:=wX hx2;have HX2:=hide hx2;have HK2:=hide ((ku HK1).trans hk2);have H2:=hide h2;clear h2 hk2 hx2 H1 HX1 HK1;go_wp2_with fail
 refine (qyg _ P v L _ (ku H2)).mono ?_;rintro e w3 ⟨x3,l3,rfl,ho3,hl3,h3,hk3,_⟩;obtain ⟨pa,pn,pc,rfl⟩:=jy ho3;have hgp:(qg L [105,102] (kqr L k.2).2).bad=false→(kqr L k.2).2.bad=false:=fun hb=>kj5 hb
 have hx3:=hk3.row (by omega) (ku HX2);have hz3:=wX hx3;have hq3:=hk3.size;have HX3:=hide hx3;have HK3:=hide ((ku HK2).trans hk3);have HO3:=hide ho3;have HL3:=hide hl3;have H3:=hide h3;clear h3 hk3 hx3 ho3 hl3 H2 HX2 HK2;generalize kqr L k.2=p at *;unfold ptV;go_wp2_with fail
 refine (kqo [105,102] (by decide) rfl rfl _ P v L _ ((ku H3).alloc _)).mono ?_;rintro e w4 ⟨rfl,h4,hk4⟩;generalize qg L [105,102] p.2=s4 at *;have HX4:=hide (hk4.row (by omega) (qp (ku HX3)));have HY4:=hide (hk4.row (b:=w3.heap.size) (by omega) (qy _ _));have hz4:=wX (ku HY4);have HK4:=hide (((ku HK3).alloc _).trans hk4);have HS3:=hide (((uo.refl w2.heap.size w3).alloc (.cells #[.string k.1.text,.int .i64 k.1.at_,.slice pa pn pc,.pointer none,.slice none 0 0] 127)).kept hk4 (by omega));have H4:=hide h4;clear h4 hk4 H3 HX3 HK3;go_wp2_with fail
 refine (qx6 _ P v L s4 (ku H4)).mono ?_;rintro e w5 ⟨p5,t5,rfl,hx5,ht5,h5,hk5⟩;have hg5:(rX (ji L) 0 .nil L s4).2.bad=false→s4.bad=false:=fun hb=>qwf hb
 have HX5:=hide (hk5.row (by omega) (ku HX4));have hy5:=hk5.row (b:=w3.heap.size) (by omega) (ku HY4);have hz5:=hk5.size;have HK5:=hide ((ku HK4).trans hk5);have HS3':=hide ((ku HS3).kept hk5 (by omega));have HT5:=hide ht5;have HXX:=hide hx5;have H5:=hide h5;obtain ⟨_,_,_,g3,_,_,_,_,f3,_⟩:=zo hy5;have HY5:=hide hy5;clear h5 hk5 hx5 ht5 hy5 H4 HX4 HY4 HK4 HS3;generalize rX (ji L) 0 .nil L s4=r5 at *;go_wp2_with fail
 clear g3 f3;refine (jzk _ P v L r5.2 ((ku H5).setOther (ku HV) hX (by simp;omega) _)).mono ?_;rintro e w6 ⟨ua,un,uc,b6,c6,rfl,ho6,hbi6,hb6,h6,hk6,_⟩;have hg6:(rS (kwj L) 0 L r5.2).2.bad=false→r5.2.bad=false:=fun hb=>vxm hb
 have hx6:=hk6.row (b:=w.heap.size) (by omega) ((ru _ _ _ _ (by simp;omega)).trans (ku HX5));have hy6:=hk6.row (b:=w3.heap.size) (by omega) (heap_setCell_same _ _ 3 _ _ _ (ku HY5));have hz6:=hk6.size;simp only[World.setCell,Array.size_modify] at hz6;have HK6:=hide (((ku HK5).jm (p:=⟨w3.heap.size,3,none⟩) (by simp;omega) (.pointer p5)).trans hk6);have HS3'':=hide (((ku HS3').set (p:=⟨w3.heap.size,3,none⟩) (Or.inr (by simp)) (.pointer p5)).kept hk6 (by omega));have HS5:=hide (((uo.refl w4.heap.size w5).set (p:=⟨w3.heap.size,3,none⟩) (Or.inl (by simp;omega)) (.pointer p5)).kept hk6 (by omega));obtain ⟨d0,d1,d2,d3,d4,e0,e1,e2,e3,e4⟩:=zo hx6;obtain ⟨g0,g1,g2,g3,g4,_,_,_,_,f4⟩:=zo hy6;have HX6:=hide hx6;have HO6:=hide ho6;have HBI6:=hide hbi6;have HB6:=hide hb6;have H6:=hide h6;clear h6 hk6 hx6 hy6 ho6 hbi6 hb6 H5 HX5 HK5 HY5 HS3';generalize rS (kwj L) 0 L r5.2=r6 at *;go_wp2
 refine rY (v:=.agg #[.string k.1.text,.int .i64 k.1.at_,.slice pa pn pc,.pointer p5,.slice ua un uc]) (rZ Tryz.results150 _ _ w.heap.size _ _ _ _ rfl (kjc (w:=w6.setCell ⟨w3.heap.size,4,none⟩ _) (by rw[ru _ _ _ _ (by simp;omega)];exact ku HX6) _ _ _ _ _) Tryz.underlying127 rfl (by kernel_rfl)) rfl ?_;rw[ku HD];refine ⟨_,_,_,_,_,⟨k.1,l3,t5,b6⟩,rfl,⟨pa,pn,pc,p5,ua,un,uc,c6,[],rfl,?_,?_,?_,?_,rfl⟩,?_,?_,((ku H6).setOther (ku HV) hX (by simp;omega) _).kv0 (ku HV) hX (wW _) _ _ _ _ _,((ku HK6).jm (by simp;omega) _).kv0 (wW _) _ _ _ _ _⟩
 ·exact zu (by omega) (qky (ku HO3) (((ku HS3'').set (Or.inr (by simp)) _).kv0 (Or.inl (by omega)) _ _ _ _ _))
 ·exact ((ku HXX).qxl (((ku HS5).set (Or.inl (by simp;omega)) _).kv0 (Or.inl (by omega)) _ _ _ _ _)).mono (by omega)
 ·refine zu ?_ (qky (ku HO6) (((uo.refl _ w6).set (Or.inl ?_) _).kv0 (Or.inl ?_) _ _ _ _ _))
  ·simp[World.setCell];omega
  ·simp[World.setCell];omega
  ·simp[World.setCell];omega
 ·refine ((((ku HBI6).shun (no':=none) (fun k hk=>by cases hk)).qxl (((uo.refl _ w6).set (Or.inl ?_) _).kv0 (Or.inl ?_) _ _ _ _ _))).mono ?_
  ·simp[World.setCell];omega
  ·simp[World.setCell];omega
  ·simp[World.setCell];omega
 ·intro u hu;simp only[tK,nY,or_false] at hu;rcases hu with rfl|rfl|rfl|rfl|rfl<;>rfl
 ·intro hb;have hb5:=hg6 hb;rw[(ku HL3) (hgp (hg5 hb5)),(ku HT5) hb5,(ku HB6) hb]
theorem jz9 (w:World)(P:Nat)(v:Value)(L:List Tok)(st:RS)(h:Pd w P v L st) :
  Calls Tryz.prog 151 #[.pointer (some ⟨P,0,none⟩)] w fun e w'=>vw8 P v L w (kqn L st) e w':=by
 have hX:=h.in;have HV:=hide h.kqa;go_enter Tryz.func151,Tryz.ntmps151
 go_wp2_with fail
 refine (kqo [110,101,118,101,114] (by decide) rfl rfl _ P v L st (h.alloc _)).mono ?_;rintro e w1 ⟨rfl,h1,hk1⟩;have HD:=hide (jz8 (L:=L) (st:=st) rfl rfl rfl rfl);generalize qg L [110,101,118,101,114] st=s1 at *;have hx1:=hk1.row (b:=w.heap.size) (by omega) (qy _ _);have HX1:=hide hx1;have HK1:=hide ((Kept.kq5 _).trans hk1);have H1:=hide h1;clear h h1 hk1 hx1;go_wp2_with fail
 refine (kzv _ P v L _ (ku H1)).mono ?_;rintro e w2 ⟨rfl,h2,hk2⟩;generalize qh L [110,97,109,101] s1=k at *;have hx2:=hk2.row (by omega) (ku HX1);have hz2:=wX hx2;have HX2:=hide hx2;have HK2:=hide ((ku HK1).trans hk2);have H2:=hide h2;clear h2 hk2 hx2 H1 HX1 HK1;go_wp2_with fail
 refine (qyg _ P v L _ (ku H2)).mono ?_;rintro e w3 ⟨x3,l3,rfl,ho3,hl3,h3,hk3,_⟩;obtain ⟨pa,pn,pc,rfl⟩:=jy ho3;have hx3:=hk3.row (by omega) (ku HX2);have hz3:=wX hx3;have hq3:=hk3.size;have HX3:=hide hx3;have HK3:=hide ((ku HK2).trans hk3);have HO3:=hide ho3;have HL3:=hide hl3;have H3:=hide h3;clear h3 hk3 hx3 ho3 hl3 H2 HX2 HK2;generalize kqr L k.2=p at *;go_wp2_with fail
 refine (qx6 _ P v L p.2 (ku H3)).mono ?_;rintro e w5 ⟨p5,t5,rfl,hx5,ht5,h5,hk5⟩;have hg5:(rX (ji L) 0 .nil L p.2).2.bad=false→p.2.bad=false:=fun hb=>qwf hb
 have hx5':=hk5.row (by omega) (ku HX3);have hq5:=wX hx5';have HX5:=hide hx5';have hz5:=hk5.size;have HK5:=hide ((ku HK3).trans hk5);have HS3:=hide ((uo.refl w2.heap.size w3).kept hk5 (by omega));have HT5:=hide ht5;have HXX:=hide hx5;have H5:=hide h5;clear h5 hk5 hx5 ht5 hx5' H3 HX3 HK3;generalize rX (ji L) 0 .nil L p.2=r5 at *;unfold ptV;go_wp2_with fail
 refine (kqo [59] (by decide) rfl rfl _ P v L _ ((ku H5).alloc _)).mono ?_;rintro e w6 ⟨rfl,h6,hk6⟩;have hx6:=hk6.row (b:=w.heap.size) (by omega) (qp (ku HX5));have hy6:=hk6.row (b:=w5.heap.size) (by omega) (qy _ _);have HK6:=hide (((ku HK5).alloc _).trans hk6);have HS3':=hide (((ku HS3).alloc (.cells #[.string k.1.text,.int .i64 k.1.at_,.slice pa pn pc,.pointer p5] 130)).kept hk6 (by omega));have HS5:=hide (((uo.refl w3.heap.size w5).alloc (.cells #[.string k.1.text,.int .i64 k.1.at_,.slice pa pn pc,.pointer p5] 130)).kept hk6 (by omega));obtain ⟨d0,d1,d2,d3,e0,e1,e2,e3⟩:=kx8 hx6;obtain ⟨g0,g1,g2,g3,_⟩:=kx8 hy6;have HX6:=hide hx6;have H6:=hide h6;clear h6 hk6 hx6 hy6 H5 HX5 HK5 HS3;go_wp2
 refine rY (v:=.agg #[.string k.1.text,.int .i64 k.1.at_,.slice pa pn pc,.pointer p5]) (rZ Tryz.results151 _ _ w.heap.size _ _ _ _ rfl (qvj (ku HX6) _ _ _ _) Tryz.underlying130 rfl (by kernel_rfl)) rfl ?_;rw[ku HD];refine ⟨_,_,_,_,⟨k.1,l3,t5,.nil⟩,rfl,⟨pa,pn,pc,p5,[],rfl,?_,?_,rfl⟩,?_,?_,(ku H6).zx8 (ku HV) hX (wW _) _ _ _ _,(ku HK6).zx8 (wW _) _ _ _ _⟩
 ·exact zu (by omega) (qky (ku HO3) ((ku HS3').zx8 (Or.inl (by omega)) _ _ _ _))
 ·exact ((ku HXX).qxl ((ku HS5).zx8 (Or.inl (by omega)) _ _ _ _)).mono (by omega)
 ·intro u hu;simp only[tK,nY,or_false] at hu;rcases hu with rfl|rfl|rfl|rfl<;>rfl
 ·intro hb;have hb5:=kj5 hb;rw[(ku HL3) (hg5 hb5),(ku HT5) hb5]
end Go.Proofs.YtpmcnonmkghokaaGreatDoor

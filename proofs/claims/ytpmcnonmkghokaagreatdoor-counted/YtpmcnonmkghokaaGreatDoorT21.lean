import Derived.Test.YtpmcnonmkghokaaGreatDoorT20
import Derived.Test.YtpmcnonmkghokaaGreatDoorT18
set_option linter.unusedVariables false
set_option linter.unusedSimpArgs false
namespace Go.Proofs.YtpmcnonmkghokaaGreatDoor
open Go.RowKit
attribute [local go_sem ↓] Go.wp_at_zero Go.wp_at_succ
set_option maxRecDepth 100000 in
set_option maxHeartbeats 2000000 in
theorem isTruth_any (x : PX) (w : World) (b lo xo : Nat) (tab : Tab) (l : List PP) (pa : Option Addr) (pn pc : Nat) (v : Value) (ht : dw w b tab) (htz : TabSz tab) (ho : w.ownsRow lo 352 4 (.slice pa pn pc) l.length (jq l)) (hl : l.length≤1000)
  (hX : XIs xo w x v) (hF : XFull x) (hn : isNil x = false) (hs : ∀ y ∈ jh x,y.text.size≤1000) :
  Calls Tryz.prog 162 #[tyV b (.slice pa pn pc),v] w fun e w'=>e = .returned (.bool ((kj7 tab l x).fam == 1))∧Below w.heap.size w w':=by
 have HE:=hide (texpr_all x (w.alloc (.cells #[.map (some b),.slice pa pn pc] 301)) b lo xo tab l pa pn pc v (ht.kept (below_alloc1 _ _)) htz (ho.alloc _) hl (hX.below (below_alloc1 _ _)) hF hn hs)
 have hvf:=vt_field0 (kj7 tab l x).fam (kj7 tab l x).name
 obtain ⟨p,rfl⟩:=hX.ptr
 generalize kj7 tab l x = ty at *
 clear ht htz ho hX hF hn hs
 unfold tyV vtV at *
 go_enter Tryz.func162,Tryz.ntmps162
 go_wp2_with fail
 refine (ku HE).mono ?_
 rintro e w1 ⟨rfl,hb1⟩
 have HB:=hide ((below_alloc1 w (.cells #[.map (some b),.slice pa pn pc] 301)).trans (hb1.mono (by simp)))
 clear hb1 HE
 go_wp2
 go_ret
 exact ⟨rfl,ku HB⟩
def BFitSaid (b : PB) : Prop:=∀ (w : World) (bb lo so : Nat) (no : Option Nat) (tab : Tab) (l : List PP) (pa : Option Addr) (pn pc : Nat) (v : Value) (cs : List Value),dw w bb tab→TabSz tab→w.ownsRow lo 352 4 (.slice pa pn pc) l.length (jq l)→l.length≤1000 →
  w.ownsRow so 334 9 v (vg b) cs→BIs so no w b cs→BLen b→BFull b→vg b≤1000→(∀ y ∈ zi b,y.text.size≤1000) →
  Calls Tryz.prog 163 #[tyV bb (.slice pa pn pc),v] w fun e w'=>e = .returned (.bool (blkT tab l b))∧Below w.heap.size w w'
def smV (c : Bool) (n i : Tok) (p vt ve : Value) : Value:=.agg #[.bool c,.string n.text,.int .i64 n.at_,.bool (!(i.kind.toList == [])),.string i.text,.int .i64 i.at_,p,vt,ve]
set_option maxRecDepth 100000 in
set_option maxHeartbeats 4000000 in
theorem stmtIf_any (w : World) (bb lo so : Nat) (no : Option Nat) (tab : Tab) (l : List PP) (pa : Option Addr) (pn pc : Nat) (n i : Tok) (c : PX) (t e : PB) (p : Option Addr) (ta : Option Addr) (tn tc : Nat) (ea : Option Addr) (en ec : Nat) (ct ce : List Value) (hM : dw w bb tab) (htz : TabSz tab) (ho : w.ownsRow lo 352 4 (.slice pa pn pc) l.length (jq l)) (hl : l.length≤1000)
  (hx : XIs so w c (.pointer p)) (hF : XFull c) (hn : isNil c = false) (hs : ∀ y ∈ jh c,y.text.size≤1000)
  (hT : BFitSaid t) (ht1 : w.ownsRow so 334 9 (.slice ta tn tc) (vg t) ct) (ht2 : BIs so no w t ct) (ht3 : BLen t) (ht4 : BFull t) (ht5 : vg t≤1000) (ht6 : ∀ y ∈ zi t,y.text.size≤1000)
  (hE : BFitSaid e) (he1 : w.ownsRow so 334 9 (.slice ea en ec) (vg e) ce) (he2 : BIs so no w e ce) (he3 : BLen e) (he4 : BFull e) (he5 : vg e≤1000) (he6 : ∀ y ∈ zi e,y.text.size≤1000) :
  Calls Tryz.prog 218 #[tyV bb (.slice pa pn pc),smV true n i (.pointer p) (.slice ta tn tc) (.slice ea en ec)] w fun r w'=>r = .returned (.bool (((kj7 tab l c).fam == 1 && blkT tab l t) && blkT tab l e))∧Below w.heap.size w w':=by
 unfold smV
 generalize (!(i.kind.toList == [])) = d
 obtain ⟨W,hW⟩ : ∃ W,W = (w.alloc (.cells #[.map (some bb),.slice pa pn pc] 301)).alloc (.cells #[.bool true,.string n.text,.int .i64 n.at_,.bool d,.string i.text,.int .i64 i.at_,.pointer p,.slice ta tn tc,.slice ea en ec] 334):=⟨_,rfl⟩
 have hbW : Below w.heap.size w W:=by rw [hW]; exact kj0 w _ _
 have hsW : W.heap.size = w.heap.size + 2:=by rw [hW]; simp
 have hTy : W.heap[w.heap.size]? = some (.cells #[.map (some bb),.slice pa pn pc] 301 (0,0)):=by rw [hW]; exact ql (qg _ _)
 have hSt : W.heap[w.heap.size + 1]? = some (.cells #[.bool true,.string n.text,.int .i64 n.at_,.bool d,.string i.text,.int .i64 i.at_,.pointer p,.slice ta tn tc,.slice ea en ec] 334 (0,0)):=by
  rw [hW]
  have:=qg (w.alloc (.cells #[.map (some bb),.slice pa pn pc] 301)) (.cells #[.bool true,.string n.text,.int .i64 n.at_,.bool d,.string i.text,.int .i64 i.at_,.pointer p,.slice ta tn tc,.slice ea en ec] 334)
  simp only [World.size_alloc] at this
  exact this
 have HTR:=hide (isTruth_any c W bb lo so tab l pa pn pc (.pointer p) (hM.kept hbW) htz (qy ho hbW) hl (hx.below hbW) hF hn hs)
 have HBT:=hide (fun (w1 : World) (h1 : Below w.heap.size w w1)=>hT w1 bb lo so no tab l pa pn pc _ ct (hM.kept h1) htz (qy ho h1) hl (qy ht1 h1) (ht2.stay fun k _ hk=>h1.block k hk) ht3 ht4 ht5 ht6)
 have HBE:=hide (fun (w1 : World) (h1 : Below w.heap.size w w1)=>hE w1 bb lo so no tab l pa pn pc _ ce (hM.kept h1) htz (qy ho h1) hl (qy he1 h1) (he2.stay fun k _ hk=>h1.block k hk) he3 he4 he5 he6)
 obtain ⟨t0,t1,_⟩:=uw hTy
 obtain ⟨⟨q0,q1,q2,q3,q4,q5,q6,q7,q8⟩,_⟩:=kja hSt
 have HTY:=hide hTy
 have HST:=hide hSt
 have HB:=hide hbW
 have HWE:=hide hW.symm
 generalize (kj7 tab l c).fam = fc at *
 generalize blkT tab l t = gt at *
 generalize blkT tab l e = ge at *
 clear hM htz ho hx hF hs hT hE ht1 ht2 ht3 ht4 ht6 he1 he2 he3 he4 he6 hTy hSt hbW hW
 unfold tyV at *
 go_enter Tryz.func218,Tryz.ntmps218
 go_upto_region 1 with fail
 rw [ku HWE]
 go_wp2_with fail
 refine (ku HTR).mono ?_
 rintro r w1 ⟨rfl,hb1⟩
 have hT1:=(hb1.block w.heap.size (by omega)).trans (ku HTY)
 have hS1:=(hb1.block (w.heap.size + 1) (by omega)).trans (ku HST)
 have HB1:=hide ((ku HB).trans (hb1.mono (by omega)))
 have hs1:=hb1.size
 have HTY1:=hide hT1
 have HST1:=hide hS1
 clear t0 t1 q0 q1 q2 q3 q4 q5 q6 q7 q8
 obtain ⟨t0,t1,_⟩:=uw hT1
 obtain ⟨⟨_,_,_,_,_,_,_,q7,q8⟩,_⟩:=kja hS1
 have HBT1:=hide (ku HBT w1 (ku HB1))
 clear hb1 hT1 hS1 HTY HST HB HTR HBT
 cases hc : (fc == 1)
 ·go_wp2
  go_ret
  exact ⟨jd (by rw [hc]; rfl),ku HB1⟩
 ·go_wp2_with fail
  refine (ku HBT1).mono ?_
  rintro r w2 ⟨rfl,hb2⟩
  have hT2:=(hb2.block w.heap.size (by omega)).trans (ku HTY1)
  have hS2:=(hb2.block (w.heap.size + 1) (by omega)).trans (ku HST1)
  have HB2:=hide ((ku HB1).trans (hb2.mono (by omega)))
  clear t0 t1 q7 q8
  obtain ⟨t0,t1,_⟩:=uw hT2
  obtain ⟨⟨_,_,_,_,_,_,_,_,q8⟩,_⟩:=kja hS2
  have HBE2:=hide (ku HBE w2 (ku HB2))
  have hz2:=(ku HB2).size
  clear hb2 hT2 hS2 HTY1 HST1 HB1 HBE HBT1
  cases gt
  ·go_wp2
   go_ret
   exact ⟨jd (by rw [hc]; rfl),ku HB2⟩
  ·go_wp2_with fail
   refine (ku HBE2).mono ?_
   rintro r w3 ⟨rfl,hb3⟩
   have HB3:=hide ((ku HB2).trans (hb3.mono hz2))
   clear hb3
   go_wp2
   go_ret
   exact ⟨jd (by rw [hc]; rfl),ku HB3⟩
end Go.Proofs.YtpmcnonmkghokaaGreatDoor
namespace Go.Proofs.YtpmcnonmkghokaaGreatDoor
open Go.RowKit
theorem count_set : ∀ (l : List Bool) (i : Nat),l[i]? = some false→(l.set i true).countP (fun b=>!b) + 1 = l.countP (fun b=>!b)
 | [],i,h=>by simp at h
 | b :: l,0,h=>by simp at h; subst h; simp
 | b :: l,i + 1,h=>by
  have:=count_set l i (by simpa using h)
  rw [List.set_cons_succ,List.countP_cons,List.countP_cons]
  omega
theorem count_zero : ∀ (l : List Bool) (i : Nat),l.countP (fun b=>!b) = 0→l[i]?≠some false
 | [],i,_,h=>by simp at h
 | b :: l,0,h,e=>by simp at e; subst e; simp at h
 | b :: l,i + 1,h,e=>by
  rw [List.countP_cons] at h
  exact count_zero l i (by omega) (by simpa using e)
theorem kjy {P : Program} {ops : Array Oper} {Q : Exit→Act→World→Prop} {i : Nat} {o : Oper} {a : Act} {w : World} {K : Act→World→Prop} (ho : ops[i]? = some o) (hg : o.guard = none) (h : ∀ K',(∀ a' w',K a' w'→K' a' w')→o.wp P a w K' Q) : wpOp P ops Q i K a w:=by
 unfold wpOp
 rw [ho]
 simp only
 rw [if_pos (by simp [Region.wanted,hg])]
 exact Or.inl (h K (fun _ _ h=>h))
theorem ready_at {md : Region.Mode} {ops : Array Oper} {l : Array Bool} {i : Nat} (h : i ∈ Region.ready md ops l) : l.toList[i]? = some false:=by
 have:=(mem_ready.1 h).1
 by_cases hl : i < l.size
 ·simp [hl] at this ⊢; exact this
 ·simp [hl] at this
theorem wpAny_inv {P : Program} {md : Region.Mode} {ops : Array Oper} {Q : Exit→Act→World→Prop} (I : Array Bool→Act→World→Prop)
  (hstep : ∀ l a w i,I l a w→i ∈ Region.ready md ops l→wpOp P ops Q i (fun a' w'=>I (l.setIfInBounds i true) a' w') a w)
  (hdone : ∀ l a w,I l a w→Region.ready md ops l = []→Q .normal a w) :
  ∀ (fuel : Nat) (l : Array Bool) (a : Act) (w : World),l.toList.countP (fun b=>!b)≤fuel→I l a w→wpAny P md ops Q fuel l a w
 | 0,l,a,w,hc,h=>by
  have hr : Region.ready md ops l = []:=by
   cases hr : Region.ready md ops l with
   | nil=>rfl
   | cons i r=>exact (count_zero _ i (by omega) (ready_at (show i ∈ Region.ready md ops l by rw [hr]; exact List.mem_cons_self ..))).elim
  exact ⟨hr,hdone l a w h hr⟩
 | fuel + 1,l,a,w,hc,h=>by
  refine ⟨fun hr=>hdone l a w h hr,fun i hi=>?_⟩
  refine wpOp_mono (fun a' w' h'=>wpAny_inv I hstep hdone fuel _ a' w' ?_ h') (hstep l a w i h hi)
  have:=count_set _ i (ready_at hi)
  rw [Array.toList_setIfInBounds]
  omega
end Go.Proofs.YtpmcnonmkghokaaGreatDoor
namespace Go.Proofs.YtpmcnonmkghokaaGreatDoor
open Go.RowKit
attribute [local go_sem ↓] Go.wp_at_zero Go.wp_at_succ
def RAct (bb : Nat) (pa : Option Addr) (pn pc : Nat) (n i : Tok) (d : Bool) (p : Option Addr) (w : World) (q : Ent) (u5 u6 u34 u35 u36 u37 u38 u39 u40 u41 : Value) : Act:=
 ⟨#[.agg #[.map (some bb),.slice pa pn pc],.agg #[.bool false,.string n.text,.int .i64 n.at_,.bool d,.string i.text,.int .i64 i.at_,.pointer p,.slice none 0 0,.slice none 0 0],.pointer (some ⟨w.heap.size,0,none⟩),.pointer (some ⟨w.heap.size + 1,0,none⟩),.bool false,u5,u6,.pointer (some ⟨w.heap.size + 1,0,none⟩),.bool false,undef,undef,undef,undef,undef,undef,undef,undef,undef,undef,undef,undef,undef,undef,undef,undef,
  .pointer (some ⟨w.heap.size,0,none⟩),.map (some bb),.pointer (some ⟨w.heap.size + 1,1,none⟩),.pointer (some ⟨w.heap.size + 1,1,none⟩),.pointer (some ⟨w.heap.size + 1,1,none⟩),.string n.text,entV q,.int .i64 q.role,.bool false,u34,u35,u36,u37,u38,u39,u40,u41,undef,undef,undef,undef,undef,undef,undef,undef,undef,undef,undef,undef,undef],[]⟩
structure RInv (bb : Nat) (pa : Option Addr) (pn pc : Nat) (n i : Tok) (d : Bool) (p : Option Addr) (tp tx : VT) (w W : World) (b0 b1 b2 b3 b4 b5 b6 b7 b8 b9 b10 b11 : Bool) (u5 u6 u34 u35 u36 u37 u38 u39 u40 u41 : Value) (wx : World) : Prop where
 k0 : b0 = true→u34 = .agg #[.map (some bb),.slice pa pn pc]
 k1 : b1 = true→u35 = .pointer (some ⟨w.heap.size + 1,1,none⟩)
 k2 : b2 = true→u36 = .agg #[.string n.text,.int .i64 n.at_,.bool d,.string i.text,.int .i64 i.at_]
 k3 : b3 = true→u37 = .agg #[.int .i64 tp.fam,.string tp.name]
 k4 : b4 = true→u38 = .agg #[.map (some bb),.slice pa pn pc]
 k5 : b5 = true→u39 = .pointer (some ⟨w.heap.size + 1,6,none⟩)
 k6 : b6 = true→u40 = .pointer p
 k7 : b7 = true→u41 = .agg #[.int .i64 tx.fam,.string tx.name]
 k8 : b8 = true→∃ g x y,u5 = .pointer (some ⟨g,0,none⟩)∧W.heap.size≤g∧wx.heap[g]? = some (.cells #[x,y] 362 (0,0))∧(b10 = true→x = .int .i64 tp.fam∧y = .string tp.name)
 k9 : b9 = true→∃ g x y,u6 = .pointer (some ⟨g,0,none⟩)∧W.heap.size≤g∧wx.heap[g]? = some (.cells #[x,y] 362 (0,0))∧(b11 = true→x = .int .i64 tx.fam∧y = .string tx.name)
 kn : b8 = true→b9 = true→u5≠u6
 d10 : b10 = true→b8 = true
 d11 : b11 = true→b9 = true
 ty : wx.heap[w.heap.size]? = some (.cells #[.map (some bb),.slice pa pn pc] 301 (0,0))
 st : wx.heap[w.heap.size + 1]? = some (.cells #[.bool false,.string n.text,.int .i64 n.at_,.bool d,.string i.text,.int .i64 i.at_,.pointer p,.slice none 0 0,.slice none 0 0] 334 (0,0))
 be : Below w.heap.size w wx
 sz : W.heap.size≤wx.heap.size
def RI (bb : Nat) (pa : Option Addr) (pn pc : Nat) (n i : Tok) (d : Bool) (p : Option Addr) (tp tx : VT) (q : Ent) (w W : World) (l : Array Bool) (a : Act) (wx : World) : Prop:=
 ∃ (b0 b1 b2 b3 b4 b5 b6 b7 b8 b9 b10 b11 : Bool) (u5 u6 u34 u35 u36 u37 u38 u39 u40 u41 : Value),l = #[b0,b1,b2,b3,b4,b5,b6,b7,b8,b9,b10,b11]∧a = RAct bb pa pn pc n i d p w q u5 u6 u34 u35 u36 u37 u38 u39 u40 u41∧RInv bb pa pn pc n i d p tp tx w W b0 b1 b2 b3 b4 b5 b6 b7 b8 b9 b10 b11 u5 u6 u34 u35 u36 u37 u38 u39 u40 u41 wx
set_option maxRecDepth 100000 in
set_option maxHeartbeats 8000000 in
theorem stmtSet_any (w : World) (bb lo so : Nat) (tab : Tab) (l : List PP) (pa : Option Addr) (pn pc : Nat) (n i : Tok) (x : PX) (p : Option Addr) (hM : dw w bb tab) (htz : TabSz tab) (ho : w.ownsRow lo 352 4 (.slice pa pn pc) l.length (jq l)) (hl : l.length≤1000)
  (hx : XIs so w x (.pointer p)) (hF : XFull x) (hn : isNil x = false) (hs : ∀ y ∈ jh x,y.text.size≤1000) (hsp : ∀ y ∈ kqb n i,y.text.size≤1000) (hsn : n.text.size≤1000) :
  Calls Tryz.prog 218 #[tyV bb (.slice pa pn pc),smV false n i (.pointer p) (.slice none 0 0) (.slice none 0 0)] w fun r w'=>r = .returned (.bool (((zf tab n.text.toList).role == 4) && (sameT (tplT tab l n i) (kj7 tab l x) || ((tplT tab l n i).fam == 4 && (kj7 tab l x).fam == 5))))∧Below w.heap.size w w':=by
 have HPL:=hide (fun (w1 : World) (h1 : Below w.heap.size w w1)=>tplace_any w1 bb lo tab l pa pn pc n i (hM.kept h1) htz (qy ho h1) hl hsp)
 have HEX:=hide (fun (w1 : World) (h1 : Below w.heap.size w w1)=>texpr_all x w1 bb lo so tab l pa pn pc (.pointer p) (hM.kept h1) htz (qy ho h1) hl (hx.below h1) hF hn hs)
 unfold smV
 unfold pl5 at HPL
 generalize (!(i.kind.toList == [])) = d at *
 obtain ⟨W,hW⟩ : ∃ W,W = (w.alloc (.cells #[.map (some bb),.slice pa pn pc] 301)).alloc (.cells #[.bool false,.string n.text,.int .i64 n.at_,.bool d,.string i.text,.int .i64 i.at_,.pointer p,.slice none 0 0,.slice none 0 0] 334):=⟨_,rfl⟩
 have hbW : Below w.heap.size w W:=by rw [hW]; exact kj0 w _ _
 have hsW : W.heap.size = w.heap.size + 2:=by rw [hW]; simp
 have hTy : W.heap[w.heap.size]? = some (.cells #[.map (some bb),.slice pa pn pc] 301 (0,0)):=by rw [hW]; exact ql (qg _ _)
 have hSt : W.heap[w.heap.size + 1]? = some (.cells #[.bool false,.string n.text,.int .i64 n.at_,.bool d,.string i.text,.int .i64 i.at_,.pointer p,.slice none 0 0,.slice none 0 0] 334 (0,0)):=by
  rw [hW]
  have:=qg (w.alloc (.cells #[.map (some bb),.slice pa pn pc] 301)) (.cells #[.bool false,.string n.text,.int .i64 n.at_,.bool d,.string i.text,.int .i64 i.at_,.pointer p,.slice none 0 0,.slice none 0 0] 334)
  simp only [World.size_alloc] at this
  exact this
 have hlk:=kz4 (hM.kept hbW) hsn
 have hf:=ent_field0 (zf tab n.text.toList)
 obtain ⟨t0,t1,_⟩:=uw hTy
 obtain ⟨⟨q0,q1,q2,q3,q4,q5,q6,q7,q8⟩,_⟩:=kja hSt
 have HTY:=hide hTy
 have HST:=hide hSt
 have HB:=hide hbW
 have HWE:=hide hW.symm
 generalize zf tab n.text.toList = q at *
 generalize tplT tab l n i = tp at *
 generalize kj7 tab l x = tx at *
 clear hM htz ho hx hF hs hsp hTy hSt hbW hW
 unfold tyV vtV at *
 go_enter Tryz.func218,Tryz.ntmps218
 go_upto_region 1 with fail
 rw [ku HWE]
 cases hr : (q.role == 4)
 ·have hr2 : (q.role != 4) = true:=by simp [bne,hr]
  go_wp2
  go_ret
  exact ⟨jd (by rw [hr]; rfl),ku HB⟩
 ·have hr2 : (q.role != 4) = false:=by simp [bne,hr]
  go_upto_region 5 with fail
  have HRR:=hide hr
  clear hlk hf hr hr2
  have hlt0 : w.heap.size < W.heap.size:=by omega
  have hlt1 : w.heap.size + 1 < W.heap.size:=by omega
  go_cut [5,6] from 34 to 41 (fun v5 v6 wx=>∃ g5 g6,v5 = .pointer (some ⟨g5,0,none⟩)∧v6 = .pointer (some ⟨g6,0,none⟩)∧(wx.cell? ⟨g5,0,none⟩ = some (.int .i64 tp.fam)∧wx.cell? ⟨g5,1,none⟩ = some (.string tp.name))∧(wx.cell? ⟨g6,0,none⟩ = some (.int .i64 tx.fam)∧wx.cell? ⟨g6,1,none⟩ = some (.string tx.name))∧g5 < wx.heap.size∧g6 < wx.heap.size∧Below w.heap.size w wx)
  case first=>
   refine wp_region_any (by kernel_rfl) ?_
   change wpAny _ _ _ _ _ _ _ (World.drew _)
   refine wpAny_inv (RI bb pa pn pc n i d p tp tx q w W) ?_ ?_ _ _ _ _ (by decide) ⟨false,false,false,false,false,false,false,false,false,false,false,false,undef,undef,undef,undef,undef,undef,undef,undef,undef,undef,rfl,rfl,⟨(fun h=>by cases h),(fun h=>by cases h),(fun h=>by cases h),(fun h=>by cases h),(fun h=>by cases h),(fun h=>by cases h),(fun h=>by cases h),(fun h=>by cases h),(fun h=>by cases h),(fun h=>by cases h),(fun h=>by cases h),(fun h=>by cases h),(fun h=>by cases h),ku HTY,ku HST,(ku HB).drew,Nat.le_refl _⟩⟩
   ·intro l a wx j hI hr
    obtain ⟨b0,b1,b2,b3,b4,b5,b6,b7,b8,b9,b10,b11,u5,u6,u34,u35,u36,u37,u38,u39,u40,u41,rfl,rfl,h⟩:=hI
    obtain ⟨hun,o,ho,hall⟩:=mem_ready.1 hr
    clear hr t0 t1 q0 q1 q2 q3 q4 q5 q6 q7 q8
    have hj : j < 12:=by
     apply Classical.byContradiction
     intro hc
     have : j = (j - 12) + 12:=by omega
     rw [this] at ho
     cases ho
    have hc : j = 0∨j = 1∨j = 2∨j = 3∨j = 4∨j = 5∨j = 6∨j = 7∨j = 8∨j = 9∨j = 10∨j = 11:=by omega
    rcases hc with rfl | rfl | rfl | rfl | rfl | rfl | rfl | rfl | rfl | rfl | rfl | rfl <;> (injection ho with ho; subst ho)
    ·have hbn : b0 = false:=by simpa using hun
     obtain ⟨t0,t1,_⟩:=uw h.ty
     refine kjy rfl rfl (fun K hK=>?_)
     unfold RAct
     go_simp
     refine hK _ _ ⟨true,b1,b2,b3,b4,b5,b6,b7,b8,b9,b10,b11,_,_,_,_,_,_,_,_,_,_,rfl,rfl,⟨fun _=>rfl,h.k1,h.k2,h.k3,h.k4,h.k5,h.k6,h.k7,h.k8,h.k9,h.kn,h.d10,h.d11,h.ty,h.st,h.be,h.sz⟩⟩
    ·have hbn : b1 = false:=by simpa using hun
     refine kjy rfl rfl (fun K hK=>?_)
     unfold RAct
     go_simp
     refine hK _ _ ⟨b0,true,b2,b3,b4,b5,b6,b7,b8,b9,b10,b11,_,_,_,_,_,_,_,_,_,_,rfl,rfl,⟨h.k0,fun _=>rfl,h.k2,h.k3,h.k4,h.k5,h.k6,h.k7,h.k8,h.k9,h.kn,h.d10,h.d11,h.ty,h.st,h.be,h.sz⟩⟩
    ·have hbn : b2 = false:=by simpa using hun
     have c1 : b1 = true:=by simpa using hall ⟨1,.data⟩ (by simp) rfl
     obtain ⟨⟨q0,q1,q2,q3,q4,q5,q6,q7,q8⟩,_⟩:=kja h.st
     obtain rfl:=h.k1 c1
     refine kjy rfl rfl (fun K hK=>?_)
     unfold RAct
     go_simp
     refine hK _ _ ⟨b0,b1,true,b3,b4,b5,b6,b7,b8,b9,b10,b11,_,_,_,_,_,_,_,_,_,_,rfl,rfl,⟨h.k0,fun _=>rfl,fun _=>rfl,h.k3,h.k4,h.k5,h.k6,h.k7,h.k8,h.k9,h.kn,h.d10,h.d11,h.ty,h.st,h.be,h.sz⟩⟩
    ·have hbn : b3 = false:=by simpa using hun
     have c0 : b0 = true:=by simpa using hall ⟨0,.data⟩ (by simp) rfl
     have c2 : b2 = true:=by simpa using hall ⟨2,.data⟩ (by simp) rfl
     obtain rfl:=h.k0 c0
     obtain rfl:=h.k2 c2
     refine kjy rfl rfl (fun K hK=>?_)
     unfold RAct
     go_simp
     go_at_call 244
     refine (ku HPL wx h.be).mono ?_
     rintro e w1 ⟨rfl,hb1⟩
     dsimp only
     refine hK _ _ ⟨b0,b1,b2,true,b4,b5,b6,b7,b8,b9,b10,b11,_,_,_,_,_,_,_,_,_,_,rfl,rfl,⟨fun _=>rfl,h.k1,fun _=>rfl,fun _=>rfl,h.k4,h.k5,h.k6,h.k7,fun hc=>by
       obtain ⟨g,x,y,e1,e2,e3,e4⟩:=h.k8 hc
       exact ⟨g,x,y,e1,e2,(hb1.block g (lt_of_block e3)).trans e3,e4⟩,fun hc=>by
       obtain ⟨g,x,y,e1,e2,e3,e4⟩:=h.k9 hc
       exact ⟨g,x,y,e1,e2,(hb1.block g (lt_of_block e3)).trans e3,e4⟩,h.kn,h.d10,h.d11,(hb1.block _ (lt_of_block h.ty)).trans h.ty,(hb1.block _ (lt_of_block h.st)).trans h.st,h.be.trans (hb1.mono h.be.size),Nat.le_trans h.sz hb1.size⟩⟩
    ·have hbn : b4 = false:=by simpa using hun
     obtain ⟨t0,t1,_⟩:=uw h.ty
     refine kjy rfl rfl (fun K hK=>?_)
     unfold RAct
     go_simp
     refine hK _ _ ⟨b0,b1,b2,b3,true,b5,b6,b7,b8,b9,b10,b11,_,_,_,_,_,_,_,_,_,_,rfl,rfl,⟨h.k0,h.k1,h.k2,h.k3,fun _=>rfl,h.k5,h.k6,h.k7,h.k8,h.k9,h.kn,h.d10,h.d11,h.ty,h.st,h.be,h.sz⟩⟩
    ·have hbn : b5 = false:=by simpa using hun
     refine kjy rfl rfl (fun K hK=>?_)
     unfold RAct
     go_simp
     refine hK _ _ ⟨b0,b1,b2,b3,b4,true,b6,b7,b8,b9,b10,b11,_,_,_,_,_,_,_,_,_,_,rfl,rfl,⟨h.k0,h.k1,h.k2,h.k3,h.k4,fun _=>rfl,h.k6,h.k7,h.k8,h.k9,h.kn,h.d10,h.d11,h.ty,h.st,h.be,h.sz⟩⟩
    ·have hbn : b6 = false:=by simpa using hun
     have c5 : b5 = true:=by simpa using hall ⟨5,.data⟩ (by simp) rfl
     obtain ⟨⟨q0,q1,q2,q3,q4,q5,q6,q7,q8⟩,_⟩:=kja h.st
     obtain rfl:=h.k5 c5
     refine kjy rfl rfl (fun K hK=>?_)
     unfold RAct
     go_simp
     refine hK _ _ ⟨b0,b1,b2,b3,b4,b5,true,b7,b8,b9,b10,b11,_,_,_,_,_,_,_,_,_,_,rfl,rfl,⟨h.k0,h.k1,h.k2,h.k3,h.k4,fun _=>rfl,fun _=>rfl,h.k7,h.k8,h.k9,h.kn,h.d10,h.d11,h.ty,h.st,h.be,h.sz⟩⟩
    ·have hbn : b7 = false:=by simpa using hun
     have c4 : b4 = true:=by simpa using hall ⟨4,.data⟩ (by simp) rfl
     have c6 : b6 = true:=by simpa using hall ⟨6,.data⟩ (by simp) rfl
     obtain rfl:=h.k4 c4
     obtain rfl:=h.k6 c6
     refine kjy rfl rfl (fun K hK=>?_)
     unfold RAct
     go_simp
     go_at_call 217
     refine (ku HEX wx h.be).mono ?_
     rintro e w1 ⟨rfl,hb1⟩
     dsimp only
     refine hK _ _ ⟨b0,b1,b2,b3,b4,b5,b6,true,b8,b9,b10,b11,_,_,_,_,_,_,_,_,_,_,rfl,rfl,⟨h.k0,h.k1,h.k2,h.k3,fun _=>rfl,h.k5,fun _=>rfl,fun _=>rfl,fun hc=>by
       obtain ⟨g,x,y,e1,e2,e3,e4⟩:=h.k8 hc
       exact ⟨g,x,y,e1,e2,(hb1.block g (lt_of_block e3)).trans e3,e4⟩,fun hc=>by
       obtain ⟨g,x,y,e1,e2,e3,e4⟩:=h.k9 hc
       exact ⟨g,x,y,e1,e2,(hb1.block g (lt_of_block e3)).trans e3,e4⟩,h.kn,h.d10,h.d11,(hb1.block _ (lt_of_block h.ty)).trans h.ty,(hb1.block _ (lt_of_block h.st)).trans h.st,h.be.trans (hb1.mono h.be.size),Nat.le_trans h.sz hb1.size⟩⟩
    ·have hbn : b8 = false:=by simpa using hun
     refine kjy rfl rfl (fun K hK=>?_)
     unfold RAct
     go_simp
     refine hK _ _ ⟨b0,b1,b2,b3,b4,b5,b6,b7,true,b9,b10,b11,_,_,_,_,_,_,_,_,_,_,rfl,rfl,⟨h.k0,h.k1,h.k2,h.k3,h.k4,h.k5,h.k6,h.k7,fun _=>⟨wx.heap.size,_,_,rfl,h.sz,heap_alloc_new _ _,fun hc=>by rw [h.d10 hc] at hbn; cases hbn⟩,fun hc=>by
       obtain ⟨g,x,y,e1,e2,e3,e4⟩:=h.k9 hc
       exact ⟨g,x,y,e1,e2,ql e3,e4⟩,fun _ hc e=>by
       obtain ⟨g,x,y,e1,e2,e3,e4⟩:=h.k9 hc
       rw [e1] at e
       injection e with e
       injection e with e
       injection e with e
       have:=lt_of_block e3
       omega,fun _=>rfl,h.d11,ql h.ty,ql h.st,h.be.alloc h.be.size _,by simp; exact Nat.le_succ_of_le h.sz⟩⟩
    ·have hbn : b9 = false:=by simpa using hun
     refine kjy rfl rfl (fun K hK=>?_)
     unfold RAct
     go_simp
     refine hK _ _ ⟨b0,b1,b2,b3,b4,b5,b6,b7,b8,true,b10,b11,_,_,_,_,_,_,_,_,_,_,rfl,rfl,⟨h.k0,h.k1,h.k2,h.k3,h.k4,h.k5,h.k6,h.k7,fun hc=>by
       obtain ⟨g,x,y,e1,e2,e3,e4⟩:=h.k8 hc
       exact ⟨g,x,y,e1,e2,ql e3,e4⟩,fun _=>⟨wx.heap.size,_,_,rfl,h.sz,heap_alloc_new _ _,fun hc=>by rw [h.d11 hc] at hbn; cases hbn⟩,fun hc _ e=>by
       obtain ⟨g,x,y,e1,e2,e3,e4⟩:=h.k8 hc
       rw [e1] at e
       injection e with e
       injection e with e
       injection e with e
       have:=lt_of_block e3
       omega,h.d10,fun _=>rfl,ql h.ty,ql h.st,h.be.alloc h.be.size _,by simp; exact Nat.le_succ_of_le h.sz⟩⟩
    ·have hbn : b10 = false:=by simpa using hun
     have c8 : b8 = true:=by simpa using hall ⟨8,.data⟩ (by simp) rfl
     have c3 : b3 = true:=by simpa using hall ⟨3,.data⟩ (by simp) rfl
     obtain ⟨g,x,y,rfl,hg,hrow,_⟩:=h.k8 c8
     obtain rfl:=h.k3 c3
     obtain ⟨z0,z1,z2,z3⟩:=uw hrow
     refine kjy rfl rfl (fun K hK=>?_)
     unfold RAct
     go_simp
     refine hK _ _ ⟨b0,b1,b2,b3,b4,b5,b6,b7,b8,b9,true,b11,_,_,_,_,_,_,_,_,_,_,rfl,rfl,⟨h.k0,h.k1,h.k2,fun _=>rfl,h.k4,h.k5,h.k6,h.k7,fun _=>⟨g,_,_,rfl,hg,set2 hrow _ _,fun _=>⟨rfl,rfl⟩⟩,fun hc=>by
       obtain ⟨g2,x2,y2,f1,f2,f3,f4⟩:=h.k9 hc
       refine ⟨g2,x2,y2,f1,f2,?_,f4⟩
       have hne : g2≠g:=fun e=>h.kn c8 hc (by rw [f1,e])
       rw [Below.heap_setCell _ _ _ _ hne,Below.heap_setCell _ _ _ _ hne]; exact f3,h.kn,fun _=>c8,h.d11,by rw [Below.heap_setCell _ _ _ _ (show w.heap.size≠g by omega),Below.heap_setCell _ _ _ _ (show w.heap.size≠g by omega)]; exact h.ty,by rw [Below.heap_setCell _ _ _ _ (show w.heap.size + 1≠g by omega),Below.heap_setCell _ _ _ _ (show w.heap.size + 1≠g by omega)]; exact h.st,(h.be.setCell (show w.heap.size≤g by omega) _).setCell (show w.heap.size≤g by omega) _,by simpa [World.setCell] using h.sz⟩⟩
    ·have hbn : b11 = false:=by simpa using hun
     have c9 : b9 = true:=by simpa using hall ⟨9,.data⟩ (by simp) rfl
     have c7 : b7 = true:=by simpa using hall ⟨7,.data⟩ (by simp) rfl
     obtain ⟨g,x,y,rfl,hg,hrow,_⟩:=h.k9 c9
     obtain rfl:=h.k7 c7
     obtain ⟨z0,z1,z2,z3⟩:=uw hrow
     refine kjy rfl rfl (fun K hK=>?_)
     unfold RAct
     go_simp
     refine hK _ _ ⟨b0,b1,b2,b3,b4,b5,b6,b7,b8,b9,b10,true,_,_,_,_,_,_,_,_,_,_,rfl,rfl,⟨h.k0,h.k1,h.k2,h.k3,h.k4,h.k5,h.k6,fun _=>rfl,fun hc=>by
       obtain ⟨g2,x2,y2,f1,f2,f3,f4⟩:=h.k8 hc
       refine ⟨g2,x2,y2,f1,f2,?_,f4⟩
       have hne : g2≠g:=fun e=>h.kn hc c9 (by rw [f1,e])
       rw [Below.heap_setCell _ _ _ _ hne,Below.heap_setCell _ _ _ _ hne]; exact f3,fun _=>⟨g,_,_,rfl,hg,set2 hrow _ _,fun _=>⟨rfl,rfl⟩⟩,h.kn,h.d10,fun _=>c9,by rw [Below.heap_setCell _ _ _ _ (show w.heap.size≠g by omega),Below.heap_setCell _ _ _ _ (show w.heap.size≠g by omega)]; exact h.ty,by rw [Below.heap_setCell _ _ _ _ (show w.heap.size + 1≠g by omega),Below.heap_setCell _ _ _ _ (show w.heap.size + 1≠g by omega)]; exact h.st,(h.be.setCell (show w.heap.size≤g by omega) _).setCell (show w.heap.size≤g by omega) _,by simpa [World.setCell] using h.sz⟩⟩
   ·intro l a wx hI hr
    obtain ⟨b0,b1,b2,b3,b4,b5,b6,b7,b8,b9,b10,b11,u5,u6,u34,u35,u36,u37,u38,u39,u40,u41,rfl,rfl,h⟩:=hI
    have no : ∀ j : Nat,¬ j ∈ Region.ready .any _ #[b0,b1,b2,b3,b4,b5,b6,b7,b8,b9,b10,b11]:=fun j=>by rw [hr]; simp
    obtain rfl : b0 = true:=by
     cases b0 with
     | true=>rfl
     | false=>exact (no 0 (mem_ready.2 ⟨rfl,_,rfl,by simp⟩)).elim
    obtain rfl : b1 = true:=by
     cases b1 with
     | true=>rfl
     | false=>exact (no 1 (mem_ready.2 ⟨rfl,_,rfl,by simp⟩)).elim
    obtain rfl : b2 = true:=by
     cases b2 with
     | true=>rfl
     | false=>exact (no 2 (mem_ready.2 ⟨rfl,_,rfl,by simp⟩)).elim
    obtain rfl : b3 = true:=by
     cases b3 with
     | true=>rfl
     | false=>exact (no 3 (mem_ready.2 ⟨rfl,_,rfl,by simp⟩)).elim
    obtain rfl : b4 = true:=by
     cases b4 with
     | true=>rfl
     | false=>exact (no 4 (mem_ready.2 ⟨rfl,_,rfl,by simp⟩)).elim
    obtain rfl : b5 = true:=by
     cases b5 with
     | true=>rfl
     | false=>exact (no 5 (mem_ready.2 ⟨rfl,_,rfl,by simp⟩)).elim
    obtain rfl : b6 = true:=by
     cases b6 with
     | true=>rfl
     | false=>exact (no 6 (mem_ready.2 ⟨rfl,_,rfl,by simp⟩)).elim
    obtain rfl : b7 = true:=by
     cases b7 with
     | true=>rfl
     | false=>exact (no 7 (mem_ready.2 ⟨rfl,_,rfl,by simp⟩)).elim
    obtain rfl : b8 = true:=by
     cases b8 with
     | true=>rfl
     | false=>exact (no 8 (mem_ready.2 ⟨rfl,_,rfl,by simp⟩)).elim
    obtain rfl : b9 = true:=by
     cases b9 with
     | true=>rfl
     | false=>exact (no 9 (mem_ready.2 ⟨rfl,_,rfl,by simp⟩)).elim
    obtain rfl : b10 = true:=by
     cases b10 with
     | true=>rfl
     | false=>exact (no 10 (mem_ready.2 ⟨rfl,_,rfl,by simp⟩)).elim
    obtain rfl : b11 = true:=by
     cases b11 with
     | true=>rfl
     | false=>exact (no 11 (mem_ready.2 ⟨rfl,_,rfl,by simp⟩)).elim
    obtain ⟨g5,x5,y5,rfl,hg5,hr5,hv5⟩:=h.k8 rfl
    obtain ⟨g6,x6,y6,rfl,hg6,hr6,hv6⟩:=h.k9 rfl
    obtain ⟨rfl,rfl⟩:=hv5 rfl
    obtain ⟨rfl,rfl⟩:=hv6 rfl
    obtain ⟨v0,v1,_⟩:=uw hr5
    obtain ⟨v2,v3,_⟩:=uw hr6
    have hbe:=h.be
    unfold RAct
    clear no hr h t0 t1 q0 q1 q2 q3 q4 q5 q6 q7 q8
    go_wp2_with fail
    go_meet
    exact ⟨g5,g6,rfl,rfl,⟨v0,v1⟩,⟨v2,v3⟩,lt_of_block hr5,lt_of_block hr6,hbe⟩
  case rest=>
   obtain ⟨g5,g6,rfl,rfl,⟨c0,c1⟩,⟨d0,d1⟩,l5,l6,hb⟩:=hcut
   have HB2:=hide hb
   have hz2:=hb.size
   clear HTY HST HB hb t0 t1 q0 q1 q2 q3 q4 q5 q6 q7 q8
   go_wp2_with fail
   refine (same_any _ tp tx).mono ?_
   rintro r w3 ⟨rfl,hb3⟩
   have e0:=(hb3.cell (p:=⟨g5,0,none⟩) l5).trans c0
   have e1:=(hb3.cell (p:=⟨g6,0,none⟩) l6).trans d0
   have HB3:=hide ((ku HB2).trans (hb3.mono hz2))
   clear hb3 c0 c1 d0 d1
   generalize hsm : sameT tp tx = sm
   have HSM:=hide hsm
   clear hsm
   cases sm
   ·cases h4 : (tp.fam == 4)
    ·go_wp2
     go_ret
     exact ⟨jd (by rw [ku HRR,h4,ku HSM]; rfl),ku HB3⟩
    ·go_wp2
     go_ret
     exact ⟨jd (by rw [ku HRR,h4,ku HSM]; simp),ku HB3⟩
   ·go_wp2
    go_ret
    exact ⟨jd (by rw [ku HRR,ku HSM]; rfl),ku HB3⟩
def FInner : PB→Prop
 | .nil=>True
 | .node _ _ _ .nil n=>FInner n
 | .node _ _ _ (.node _ _ _ t e) n=>BFitSaid t∧BFitSaid e∧FInner n
def FRel (W : World) (so : Nat) (no : Option Nat) (tab : Tab) (l : List PP) (fin : Bool) (len : Nat) (cs : List Value) (i : Value) (wr : World) : Prop:=
 ∃ (k : Nat) (rest : PB),k + vg rest = len∧i = .int .i64 k∧BIs so no wr rest (cs.drop (k * 9))∧FInner rest∧BLen rest∧BFull rest∧(∀ y ∈ zi rest,y.text.size≤1000)∧blkT tab l rest = fin∧Below W.heap.size W wr
theorem plC_place {p : PX} {x : ELab} (h : p = .node 0 0 x .nil .nil) : plC p = [.string x.name.text,.int .i64 x.name.at_,.bool (!(x.index.kind.toList == [])),.string x.index.text,.int .i64 x.index.at_]∧plNm p = kqb x.name x.index∧nameOfX p = x.name.text:=by subst h; exact ⟨rfl,rfl,rfl⟩
set_option maxRecDepth 100000 in
set_option maxHeartbeats 4000000 in
theorem bfit_step (b : PB) (hI : FInner b) : BFitSaid b:=by
 intro w bb lo so no tab l pa pn pc v cs hM htz ho hl hv hbi hbl hbf hpl hs
 obtain ⟨xa,cap,rfl,hview⟩:=qm hv
 obtain ⟨W,hW⟩ : ∃ W,W = w.alloc (.cells #[.map (some bb),.slice pa pn pc] 301):=⟨_,rfl⟩
 have hbW : Below w.heap.size w W:=by rw [hW]; exact below_alloc1 _ _
 have hsW : W.heap.size = w.heap.size + 1:=by rw [hW]; simp
 have hTy : W.heap[w.heap.size]? = some (.cells #[.map (some bb),.slice pa pn pc] 301 (0,0)):=by rw [hW]; exact qg _ _
 have HW:=hide (show ∀ i,i < vg b→∃ g,xa = some ⟨g,0,none⟩∧∀ j,j < vg b * 9→∀ u,cs[j]? = some u→W.cell? ⟨g,j,none⟩ = some u from fun i hi=>by
  obtain ⟨g,rfl,_,hg,hc⟩:=hview i hi
  exact ⟨g,rfl,fun j hj u hu=>(hbW.cell (p:=⟨g,j,none⟩) hg).trans ((hc j hj).trans hu)⟩)
 have HR:=hide (show FRel W so no tab l (blkT tab l b) (vg b) cs (.int .i64 0) W from ⟨0,b,by omega,rfl,by simpa using hbi.stay (fun k _ hk=>hbW.block k hk),hI,hbl,hbf,hs,rfl,Below.refl _ _⟩)
 have HM:=hide (hM.kept hbW)
 have HO:=hide (qy ho hbW)
 have HTY:=hide hTy
 have HB:=hide hbW
 have HWE:=hide hW.symm
 generalize blkT tab l b = fin at *
 generalize vg b = len at *
 clear hview hv hbi hbl hbf hs hI hM ho hbW hTy hW
 unfold tyV
 go_enter Tryz.func163,Tryz.ntmps163
 go_upto_region 2 with fail
 rw [ku HWE]
 go_loopw [6,9] (fun _ i wr=>FRel W so no tab l fin len cs i wr) (fun _ i _=>len - (intOf i).toNat)
 case atStart=>exact ku HR
 case round=>
  obtain ⟨k,rest,hk,rfl,hst,hIn,hbl,hbf,hs,hfin,hb⟩:=hrel
  have HBr:=hide hb
  have hsz:=hb.size
  have hTr:=(hb.block w.heap.size (by omega)).trans (ku HTY)
  obtain ⟨t0,t1,_⟩:=uw hTr
  have htl:=lt_of_block hTr
  have HMr:=hide ((ku HM).kept hb)
  have HOr:=hide (qy (ku HO) hb)
  have HF:=hide hfin
  have HTr:=hide hTr
  clear hfin hTr
  match rest,hst,hIn,hbl,hbf,hs,HF,hk with
  | .nil,hst,hIn,hbl,hbf,hs,HF,hk=>
   have hne : ¬ k < len:=by simp only [vg] at hk; omega
   clear hst hIn hbl hbf hs hk hb
   go_wp2
   go_ret
   exact ⟨by rw [← ku HF]; rfl,(ku HB).trans ((ku HBr).mono (by omega))⟩
  | .node _ _ la .nil nx,hst,hIn,hbl,hbf,hs,HF,hk=>
   obtain ⟨p,rst,hd,hx,hnx⟩:=hst
   have hlt : k < len:=by simp only [vg] at hk; omega
   obtain ⟨g,rfl,hc⟩:=ku HW k hlt
   obtain ⟨⟨hb1,hb2,xl,hpx,hop⟩,hbf'⟩:=hbf
   obtain ⟨hpc,hpn,hnm⟩:=plC_place hpx
   obtain ⟨hdr,hcc⟩:=drop_nine hd (stC_len _ _ _ _ _)
   have cc : ∀ j,j < 9→∀ u,(stC false la (.pointer p) (.slice none 0 0) (.slice none 0 0))[j]? = some u→wr.cell? ⟨g,k * 9 + j,none⟩ = some u:=fun j hj u hu=>cell_later hb (hc (k * 9 + j) (by omega) u ((hcc j hj).trans hu))
   unfold stC at cc
   rw [hpc] at cc
   have e0:=cc 0 (by omega) _ rfl
   have e1:=cc 1 (by omega) _ rfl
   have e2:=cc 2 (by omega) _ rfl
   have e3:=cc 3 (by omega) _ rfl
   have e4:=cc 4 (by omega) _ rfl
   have e5:=cc 5 (by omega) _ rfl
   have e6:=cc 6 (by omega) _ rfl
   have e7:=cc 7 (by omega) _ rfl
   have e8:=cc 8 (by omega) _ rfl
   simp only [Nat.add_zero] at e0
   have hsp : ∀ y ∈ kqb xl.name xl.index,y.text.size≤1000:=fun y hy=>hs y (by rw [zi,hpn]; simp [hy])
   have hsv : ∀ y ∈ jh la.value,y.text.size≤1000:=fun y hy=>hs y (by rw [zi]; simp [hy])
   have hsn : ∀ y ∈ zi nx,y.text.size≤1000:=fun y hy=>hs y (by rw [zi]; simp [hy])
   have hn1 : xl.name.text.size≤1000:=hsp _ (by unfold kqb; split <;> simp)
   have htp : kj7 tab l la.place = tplT tab l xl.name xl.index:=by rw [hpx,kj7,hop]; rfl
   have HF2:=hide (show (((zf tab xl.name.text.toList).role == 4) && (sameT (tplT tab l xl.name xl.index) (kj7 tab l la.value) || ((tplT tab l xl.name xl.index).fam == 4 && (kj7 tab l la.value).fam == 5)) && blkT tab l nx) = fin by rw [← ku HF,blkT,setT,hnm,htp])
   have HB1:=hide (show BIs so no wr nx (cs.drop ((k + 1) * 9)) by rw [hdr]; exact hnx)
   have HSM:=hide (stmtSet_any (wr.alloc (.cells #[.bool false,.string xl.name.text,.int .i64 xl.name.at_,.bool (!(xl.index.kind.toList == [])),.string xl.index.text,.int .i64 xl.index.at_,.pointer p,.slice none 0 0,.slice none 0 0] 334)) bb lo so tab l pa pn pc xl.name xl.index la.value p ((ku HMr).kept (below_alloc1 _ _)) htz ((ku HOr).alloc _) hl (hx.below (below_alloc1 _ _)) hb1 hb2 hsv hsp hn1)
   have HNX:=hide (⟨hIn,hbl,hbf',hsn⟩ : FInner nx∧BLen nx∧BFull nx∧∀ y ∈ zi nx,y.text.size≤1000)
   have hkn : k + 1 + vg nx = len:=by simp only [vg] at hk; omega
   unfold smV tyV at HSM
   generalize (((zf tab xl.name.text.toList).role == 4) && (sameT (tplT tab l xl.name xl.index) (kj7 tab l la.value) || ((tplT tab l xl.name xl.index).fam == 4 && (kj7 tab l la.value).fam == 5))) = s at *
   generalize (!(xl.index.kind.toList == [])) = d at *
   clear cc hc hcc hdr hd hpc hpn hnm hpx hop htp hs hsp hsv hsn hn1 hx hnx hbl hIn hbf' hb1 hb2 HF HR HW hk hb HMr HOr
   go_wp2_with fail
   refine (ku HSM).mono ?_
   rintro r w2 ⟨rfl,hb2⟩
   have HB2:=hide ((ku HBr).trans (((below_alloc1 wr _).trans (hb2.mono (by simp))).mono hsz))
   have HB12:=hide ((below_alloc1 wr (.cells #[.bool false,.string xl.name.text,.int .i64 xl.name.at_,.bool d,.string xl.index.text,.int .i64 xl.index.at_,.pointer p,.slice none 0 0,.slice none 0 0] 334)).trans (hb2.mono (by simp)))
   clear hb2 HSM
   cases s
   ·go_wp2
    go_ret
    exact ⟨by rw [← ku HF2]; rfl,(ku HB).trans ((ku HB2).mono (by omega))⟩
   ·go_wp2
    go_roundw
    case rel=>exact ⟨k + 1,nx,hkn,by go_num,(ku HB1).stay (fun k _ hk=>(ku HB12).block k hk),(ku HNX).1,(ku HNX).2.1,(ku HNX).2.2.1,(ku HNX).2.2.2,by rw [← ku HF2]; rfl,ku HB2⟩
    case measure=>simp [intOf]; omega
  | .node _ _ la (.node _ _ _ t e) nx,hst,hIn,hbl,hbf,hs,HF,hk=>
   obtain ⟨p,ta,tn,tc,ea,en,ec,ct,ce,rst,hd,hx,⟨ht1,_,ht2⟩,⟨he1,_,he2⟩,hnx⟩:=hst
   have hlt : k < len:=by simp only [vg] at hk; omega
   obtain ⟨g,rfl,hc⟩:=ku HW k hlt
   obtain ⟨n,i,hpc,hpn⟩:=plC_five la.place
   obtain ⟨⟨hb1,hb2⟩,hbt,hbe,hbf'⟩:=hbf
   obtain ⟨hdr,hcc⟩:=drop_nine hd (stC_len _ _ _ _ _)
   have cc : ∀ j,j < 9→∀ u,(stC true la (.pointer p) (.slice ta tn tc) (.slice ea en ec))[j]? = some u→wr.cell? ⟨g,k * 9 + j,none⟩ = some u:=fun j hj u hu=>cell_later hb (hc (k * 9 + j) (by omega) u ((hcc j hj).trans hu))
   unfold stC at cc
   rw [hpc] at cc
   have e0:=cc 0 (by omega) _ rfl
   have e1:=cc 1 (by omega) _ rfl
   have e2:=cc 2 (by omega) _ rfl
   have e3:=cc 3 (by omega) _ rfl
   have e4:=cc 4 (by omega) _ rfl
   have e5:=cc 5 (by omega) _ rfl
   have e6:=cc 6 (by omega) _ rfl
   have e7:=cc 7 (by omega) _ rfl
   have e8:=cc 8 (by omega) _ rfl
   simp only [Nat.add_zero] at e0
   have hsc : ∀ y ∈ jh la.cond,y.text.size≤1000:=fun y hy=>hs y (by rw [zi]; simp [hy])
   have hstt : ∀ y ∈ zi t,y.text.size≤1000:=fun y hy=>hs y (by rw [zi]; simp [hy])
   have hse : ∀ y ∈ zi e,y.text.size≤1000:=fun y hy=>hs y (by rw [zi]; simp [hy])
   have hsn : ∀ y ∈ zi nx,y.text.size≤1000:=fun y hy=>hs y (by rw [zi]; simp [hy])
   have HF2:=hide (show ((((kj7 tab l la.cond).fam == 1 && blkT tab l t) && blkT tab l e) && blkT tab l nx) = fin by rw [← ku HF,blkT])
   have HB1:=hide (show BIs so no wr nx (cs.drop ((k + 1) * 9)) by rw [hdr]; exact hnx)
   have hal : ∀ o : Obj,Below wr.heap.size wr (wr.alloc o):=fun o=>below_alloc1 _ _
   have HSM:=hide (stmtIf_any (wr.alloc (.cells #[.bool true,.string n.text,.int .i64 n.at_,.bool (!(i.kind.toList == [])),.string i.text,.int .i64 i.at_,.pointer p,.slice ta tn tc,.slice ea en ec] 334)) bb lo so no tab l pa pn pc n i la.cond t e p ta tn tc ea en ec ct ce ((ku HMr).kept (hal _)) htz ((ku HOr).alloc _) hl (hx.below (hal _)) hb1 hb2 hsc
    hIn.1 (qy ht1 (hal _)) (ht2.stay fun k _ hk=>(hal _).block k hk) hbl.1.1 hbt hbl.1.2 hstt hIn.2.1 (qy he1 (hal _)) (he2.stay fun k _ hk=>(hal _).block k hk) hbl.2.1.1 hbe hbl.2.1.2 hse)
   have HNX:=hide (⟨hIn.2.2,hbl.2.2,hbf',hsn⟩ : FInner nx∧BLen nx∧BFull nx∧∀ y ∈ zi nx,y.text.size≤1000)
   have hkn : k + 1 + vg nx = len:=by simp only [vg] at hk; omega
   unfold smV tyV at HSM
   generalize (((kj7 tab l la.cond).fam == 1 && blkT tab l t) && blkT tab l e) = s at *
   generalize (!(i.kind.toList == [])) = d at *
   clear cc hc hcc hdr hd hpc hpn hs hsc hstt hse hsn hx hnx hbl hIn hbf' hbt hbe hb1 hb2 HF HR HW hk hb HMr HOr ht1 ht2 he1 he2 hal
   go_wp2_with fail
   refine (ku HSM).mono ?_
   rintro r w2 ⟨rfl,hb2⟩
   have HB2:=hide ((ku HBr).trans (((below_alloc1 wr _).trans (hb2.mono (by simp))).mono hsz))
   have HB12:=hide ((below_alloc1 wr (.cells #[.bool true,.string n.text,.int .i64 n.at_,.bool d,.string i.text,.int .i64 i.at_,.pointer p,.slice ta tn tc,.slice ea en ec] 334)).trans (hb2.mono (by simp)))
   clear hb2 HSM
   cases s
   ·go_wp2
    go_ret
    exact ⟨by rw [← ku HF2]; rfl,(ku HB).trans ((ku HB2).mono (by omega))⟩
   ·go_wp2
    go_roundw
    case rel=>exact ⟨k + 1,nx,hkn,by go_num,(ku HB1).stay (fun k _ hk=>(ku HB12).block k hk),(ku HNX).1,(ku HNX).2.1,(ku HNX).2.2.1,(ku HNX).2.2.2,by rw [← ku HF2]; rfl,ku HB2⟩
    case measure=>simp [intOf]; omega
theorem finner_all : ∀ b : PB,FInner b
 | .nil=>trivial
 | .node _ _ _ .nil n=>finner_all n
 | .node _ _ _ (.node _ _ _ t e) n=>⟨bfit_step t (finner_all t),bfit_step e (finner_all e),finner_all n⟩
theorem bfit_all (b : PB) : BFitSaid b:=bfit_step b (finner_all b)
structure MdTy (m : MdL) : Prop where
 rules : ∀ r ∈ m.rules,XFull r.guard∧isNil r.guard = false∧BFull r.body
 nevers : ∀ r ∈ m.nevers,XFull r.guard∧isNil r.guard = false
def ARel {α : Type} (W : World) (f : α→Bool) (items : List α) (i : Value) (wr : World) : Prop:=
 ∃ k : Nat,k≤items.length∧i = .int .i64 k∧(items.drop k).all f = items.all f∧Below W.heap.size W wr
theorem ARel.start {α : Type} {W wr : World} {f : α→Bool} {items : List α} (hb : Below W.heap.size W wr) : ARel W f items (.int .i64 0) wr:=⟨0,Nat.zero_le _,rfl,rfl,hb⟩
theorem all_step {α : Type} {f : α→Bool} {items : List α} {k : Nat} (hk : k < items.length) (h : (items.drop k).all f = items.all f) : items.all f = (f items[k] && (items.drop (k + 1)).all f):=by
 rw [← h,List.drop_eq_getElem_cons hk,List.all_cons]
theorem all_done {α : Type} {f : α→Bool} {items : List α} {k : Nat} (hk : ¬ k < items.length) (h : (items.drop k).all f = items.all f) : items.all f = true:=by
 rw [← h,List.drop_of_length_le (by omega)]; rfl
set_option maxRecDepth 100000 in
set_option maxHeartbeats 8000000 in
theorem typesFit_any (w : World) (lo b : Nat) (tab : Tab) (x0 x1 x2 x3 x4 : Value) (m : MdL) (h : MdIs lo w x0 x1 x2 x3 x4 m) (hM : dw w b tab) (htz : TabSz tab) (hok : MdOk m) (hnm : MdNm m) (hty : MdTy m) :
  Calls Tryz.prog 94 #[.agg #[x0,x1,x2,x3,x4],.map (some b)] w fun e w'=>e = .returned (.bool (typesT tab m))∧Below w.heap.size w w':=by
 obtain ⟨h0,⟨c1,h1,k1⟩,h2,⟨c3,h3,k3⟩,⟨c4,h4,k4⟩⟩:=h
 obtain ⟨_,_,_,hok3,hok4,_,_⟩:=hok
 obtain ⟨W,hW⟩ : ∃ W,W = w.alloc (.cells #[x0,x1,x2,x3,x4] 68):=⟨_,rfl⟩
 have hbW : Below w.heap.size w W:=by rw [hW]; exact below_alloc1 _ _
 have hsW : W.heap.size = w.heap.size + 1:=by rw [hW]; simp
 have hMd : W.heap[w.heap.size]? = some (.cells #[x0,x1,x2,x3,x4] 68 (0,0)):=by rw [hW]; exact qg _ _
 have vw : ∀ {e size : Nat} {v : Value} {n : Nat} {xs : List Value},w.ownsRow lo e size v n xs→∃ a cap,v = .slice a n cap∧∀ i,i < n→∃ g,a = some ⟨g,0,none⟩∧∀ j,j < n * size→∀ u,xs[j]? = some u→W.cell? ⟨g,j,none⟩ = some u:=by
  intro e size v n xs h
  obtain ⟨a,cap,e1,hv⟩:=qm h
  refine ⟨a,cap,e1,fun i hi=>?_⟩
  obtain ⟨g,e2,_,hg,hc⟩:=hv i hi
  exact ⟨g,e2,fun j hj u hu=>(hbW.cell (p:=⟨g,j,none⟩) hg).trans ((hc j hj).trans hu)⟩
 obtain ⟨a0,l0,n0,rfl⟩:=zy h0
 obtain ⟨a1,l1,n1,rfl⟩:=zy h1
 obtain ⟨a2,l2,n2,rfl⟩:=zy h2
 obtain ⟨a3,p3,rfl,hv3⟩:=vw h3
 obtain ⟨a4,p4,rfl,hv4⟩:=vw h4
 have HV3:=hide hv3
 have HV4:=hide hv4
 have HK3:=hide k3
 have HK4:=hide k4
 have HM:=hide hM
 have HB:=hide hbW
 have HMd:=hide hMd
 obtain ⟨m0,m1,m2,m3,m4,_⟩:=zh hMd
 have HWE:=hide hW.symm
 have HR0:=hide (ARel.start (W:=W) (wr:=W) (f:=ruleT tab) (items:=m.rules) (Below.refl _ _))
 have HE:=hide (show typesT tab m = (m.rules.all (ruleT tab) && m.nevers.all (nevT tab)) from rfl)
 generalize typesT tab m = fin at *
 clear h0 h1 h2 h3 h4 k1 k3 k4 hv3 hv4 hM hbW hMd hW vw
 go_enter Tryz.func94,Tryz.ntmps94
 go_upto_region 1 with fail
 rw [ku HWE]
 go_wp2_with fail
 go_loopw [6,7,14] (fun _ _ i wr=>ARel W (ruleT tab) m.rules i wr) (fun _ _ i _=>m.rules.length - (intOf i).toNat)
 case atStart=>exact ku HR0
 case round=>
  obtain ⟨k,hk,rfl,hall,hb⟩:=hrel
  have HBr:=hide hb
  have hsz:=hb.size
  by_cases hlt : k < m.rules.length
  ·obtain ⟨g,rfl,hc⟩:=ku HV3 k hlt
   obtain ⟨pa,pn,pc,gp,ba,bn,bc,bcs,⟨f0,f1,f2,f3,f4⟩,hpo,hgx,hbo,hbi⟩:=ru_at k hlt (ku HK3)
   have e0:=cell_later hb (hc (k * 5) (by omega) _ f0)
   have e1:=cell_later hb (hc (k * 5 + 1) (by omega) _ f1)
   have e2:=cell_later hb (hc (k * 5 + 2) (by omega) _ f2)
   have e3:=cell_later hb (hc (k * 5 + 3) (by omega) _ f3)
   have e4:=cell_later hb (hc (k * 5 + 4) (by omega) _ f4)
   have hst:=all_step hlt hall
   obtain ⟨n1',n2',n3',n4',n5',n6'⟩:=hnm.rules _ (List.getElem_mem hlt)
   obtain ⟨y1,y2,y3⟩:=hty.rules _ (List.getElem_mem hlt)
   generalize m.rules[k] = r at e0 e1 e2 e3 e4 hpo hgx hbo hbi n1' n2' n3' n4' n5' n6' y1 y2 y3 hst
   obtain ⟨X,hX⟩ : ∃ X,X = (wr.alloc (.cells #[.string r.name.text,.int .i64 r.name.at_,.slice pa pn pc,.pointer gp,.slice ba bn bc] 127)).alloc (.cells #[.map (some b),.slice pa pn pc] 301):=⟨_,rfl⟩
   have hbX : Below wr.heap.size wr X:=by rw [hX]; exact kj0 _ _ _
   have hsX : X.heap.size = wr.heap.size + 2:=by rw [hX]; simp
   have hRu : X.heap[wr.heap.size]? = some (.cells #[.string r.name.text,.int .i64 r.name.at_,.slice pa pn pc,.pointer gp,.slice ba bn bc] 127 (0,0)):=by rw [hX]; exact ql (qg _ _)
   have hTy : X.heap[wr.heap.size + 1]? = some (.cells #[.map (some b),.slice pa pn pc] 301 (0,0)):=by
    rw [hX]
    have:=qg (wr.alloc (.cells #[.string r.name.text,.int .i64 r.name.at_,.slice pa pn pc,.pointer gp,.slice ba bn bc] 127)) (.cells #[.map (some b),.slice pa pn pc] 301)
    simp only [World.size_alloc] at this
    exact this
   have hwX : Below w.heap.size w X:=(ku HB).trans ((hb.trans (hbX.mono hsz)).mono (by omega))
   have HTR:=hide (isTruth_any r.guard X b lo lo tab r.params pa pn pc (.pointer gp) ((ku HM).kept hwX) htz (qy hpo hwX) n1' (hgx.below hwX) y1 y2 n3')
   have HBF:=hide (fun (w1 : World) (h1 : Below w.heap.size w w1)=>bfit_all r.body w1 b lo lo none tab r.params pa pn pc (.slice ba bn bc) bcs ((ku HM).kept h1) htz (qy hpo h1) n1' (qy hbo h1) (hbi.stay fun k _ hk=>h1.block k hk) n4' y3 n5' n6')
   have hru : ruleT tab r = ((kj7 tab r.params r.guard).fam == 1 && blkT tab r.params r.body):=rfl
   rw [hru] at hst
   have HST:=hide hst
   have HXE:=hide hX.symm
   have HRu:=hide hRu
   have HTy:=hide hTy
   have HBX:=hide hbX
   have HWX:=hide hwX
   obtain ⟨q0,q1,q2,q3,q4,_⟩:=zh hRu
   obtain ⟨t0,t1,_⟩:=uw hTy
   generalize (kj7 tab r.params r.guard).fam = fc at *
   generalize blkT tab r.params r.body = gb at *
   unfold tyV at *
   clear hc f0 f1 f2 f3 f4 hpo hgx hbo hbi n1' n2' n3' n4' n5' n6' y1 y2 y3 hst hX hbX hRu hTy hwX hb hall hru HR0
   go_upto_region 5 with fail
   rw [ku HXE]
   go_wp2_with fail
   refine (ku HTR).mono ?_
   rintro e w1 ⟨rfl,hb1⟩
   have hRu1:=(hb1.block wr.heap.size (by omega)).trans (ku HRu)
   have hTy1:=(hb1.block (wr.heap.size + 1) (by omega)).trans (ku HTy)
   have HB1:=hide ((ku HBr).trans (((ku HBX).trans (hb1.mono (by omega))).mono hsz))
   have HW1:=hide ((ku HWX).trans (hb1.mono (by omega)))
   have HBF1:=hide (ku HBF w1 (ku HW1))
   clear q0 q1 q2 q3 q4 t0 t1
   obtain ⟨q0,q1,q2,q3,q4,_⟩:=zh hRu1
   obtain ⟨t0,t1,_⟩:=uw hTy1
   clear hb1 hRu1 hTy1 HRu HTy HBX HWX HTR HBF
   cases hfc : (fc == 1)
   ·rw [hfc] at HST
    go_wp2
    go_ret
    exact ⟨by rw [ku HE,ku HST]; rfl,(ku HB).trans ((ku HB1).mono (by omega))⟩
   ·rw [hfc] at HST
    go_wp2_with fail
    refine (ku HBF1).mono ?_
    rintro e w2 ⟨rfl,hb2⟩
    have HB2:=hide ((ku HB1).trans (hb2.mono (ku HB1).size))
    clear hb2 HBF1
    cases gb
    ·go_wp2
     go_ret
     exact ⟨by rw [ku HE,ku HST]; rfl,(ku HB).trans ((ku HB2).mono (by omega))⟩
    ·go_wp2
     go_roundw
     case rel=>exact ⟨k + 1,by omega,by go_num,by rw [ku HST]; rfl,ku HB2⟩
     case measure=>simp [intOf]; omega
  ·have hd:=all_done hlt hall
   rw [hd,Bool.true_and] at HE
   have hMr:=(hb.block w.heap.size (by omega)).trans (ku HMd)
   obtain ⟨_,_,_,_,z4,_⟩:=zh hMr
   have HR1:=hide (ARel.start (W:=W) (wr:=wr) (f:=nevT tab) (items:=m.nevers) hb)
   clear hd hall hb hMr HR0 m0 m1 m2 m3 m4
   go_wp2_with fail
   go_loopw [9,10,38] (fun _ _ i wr=>ARel W (nevT tab) m.nevers i wr) (fun _ _ i _=>m.nevers.length - (intOf i).toNat)
   case atStart=>exact ku HR1
   case round=>
    obtain ⟨k,hk,rfl,hall,hb⟩:=hrel
    have HBr:=hide hb
    have hsz:=hb.size
    by_cases hlt : k < m.nevers.length
    ·obtain ⟨g,rfl,hc⟩:=ku HV4 k hlt
     obtain ⟨pa,pn,pc,gp,⟨f0,f1,f2,f3⟩,hpo,hgx⟩:=nv_at k hlt (ku HK4)
     have e0:=cell_later hb (hc (k * 4) (by omega) _ f0)
     have e1:=cell_later hb (hc (k * 4 + 1) (by omega) _ f1)
     have e2:=cell_later hb (hc (k * 4 + 2) (by omega) _ f2)
     have e3:=cell_later hb (hc (k * 4 + 3) (by omega) _ f3)
     have hst:=all_step hlt hall
     obtain ⟨n1',n2',n3'⟩:=hnm.nevers _ (List.getElem_mem hlt)
     obtain ⟨y1,y2⟩:=hty.nevers _ (List.getElem_mem hlt)
     generalize m.nevers[k] = r at e0 e1 e2 e3 hpo hgx n1' n2' n3' y1 y2 hst
     obtain ⟨X,hX⟩ : ∃ X,X = (wr.alloc (.cells #[.string r.name.text,.int .i64 r.name.at_,.slice pa pn pc,.pointer gp] 130)).alloc (.cells #[.map (some b),.slice pa pn pc] 301):=⟨_,rfl⟩
     have hbX : Below wr.heap.size wr X:=by rw [hX]; exact kj0 _ _ _
     have hsX : X.heap.size = wr.heap.size + 2:=by rw [hX]; simp
     have hRu : X.heap[wr.heap.size]? = some (.cells #[.string r.name.text,.int .i64 r.name.at_,.slice pa pn pc,.pointer gp] 130 (0,0)):=by rw [hX]; exact ql (qg _ _)
     have hTy : X.heap[wr.heap.size + 1]? = some (.cells #[.map (some b),.slice pa pn pc] 301 (0,0)):=by
      rw [hX]
      have:=qg (wr.alloc (.cells #[.string r.name.text,.int .i64 r.name.at_,.slice pa pn pc,.pointer gp] 130)) (.cells #[.map (some b),.slice pa pn pc] 301)
      simp only [World.size_alloc] at this
      exact this
     have hwX : Below w.heap.size w X:=(ku HB).trans ((hb.trans (hbX.mono hsz)).mono (by omega))
     have HTR:=hide (isTruth_any r.guard X b lo lo tab r.params pa pn pc (.pointer gp) ((ku HM).kept hwX) htz (qy hpo hwX) n1' (hgx.below hwX) y1 y2 n3')
     have hru : nevT tab r = ((kj7 tab r.params r.guard).fam == 1):=rfl
     rw [hru] at hst
     have HST:=hide hst
     have HXE:=hide hX.symm
     have HBX:=hide hbX
     obtain ⟨q0,q1,q2,q3,_⟩:=kqj hRu
     obtain ⟨t0,t1,_⟩:=uw hTy
     generalize (kj7 tab r.params r.guard).fam = fc at *
     unfold tyV at *
     clear hc f0 f1 f2 f3 hpo hgx n1' n2' n3' y1 y2 hst hX hbX hRu hTy hwX hb hall hru HR1
     go_upto_region 12 with fail
     rw [ku HXE]
     go_wp2_with fail
     refine (ku HTR).mono ?_
     rintro e w1 ⟨rfl,hb1⟩
     have HB1:=hide ((ku HBr).trans (((ku HBX).trans (hb1.mono (by omega))).mono hsz))
     clear hb1 HTR q0 q1 q2 q3 t0 t1
     cases hfc : (fc == 1)
     ·rw [hfc] at HST
      go_wp2
      go_ret
      exact ⟨by rw [ku HE,ku HST]; rfl,(ku HB).trans ((ku HB1).mono (by omega))⟩
     ·rw [hfc] at HST
      go_wp2
      go_roundw
      case rel=>exact ⟨k + 1,by omega,by go_num,by rw [ku HST]; rfl,ku HB1⟩
      case measure=>simp [intOf]; omega
    ·have hd:=all_done hlt hall
     rw [hd] at HE
     clear hd hall
     go_wp2
     go_ret
     exact ⟨by rw [ku HE]; rfl,(ku HB).trans ((ku HBr).mono (by omega))⟩
end Go.Proofs.YtpmcnonmkghokaaGreatDoor

import Derived.Test.YtpmcnonmkghokaaGreatDoorT25
import Derived.Laws.CopyOwn
import Derived.Laws.BytesArg
import Derived.Maps.RangeRun
set_option linter.unusedVariables false
set_option linter.unusedSimpArgs false
namespace Go.Proofs.YtpmcnonmkghokaaGreatDoor
open Go.RowKit
attribute [local go_sem ↓] Go.wp_at_zero Go.wp_at_succ
def mvV (v : MVar) (ta : Option Addr) (tc : Nat) : Value:=.agg #[.int .i64 v.first,.int .i64 v.count,.slice ta v.texts.length tc,.int .i64 v.over,.int .i64 v.of_]
theorem turn_at {w : World} {tv : Value} {t : Turn} (h : OwnRows 0 w tv t) {k j : Nat} {o : List Int} {x : Int} (hk : t[k]? = some o) (hj : o[j]? = some x) :
  ∃ g c g2 n2 c2,tv = .slice (some ⟨g,0,none⟩) t.length c∧g < w.heap.size∧g2 < w.heap.size∧w.cell? ⟨g,k,none⟩ = some (.slice (some ⟨g2,0,none⟩) n2 c2)∧n2 = o.length∧w.cell? ⟨g2,j,none⟩ = some (.int .i64 x)∧k < t.length∧j < o.length∧t.length≤maxLen∧o.length≤maxLen:=by
 obtain ⟨la,ll,lc,cs,rfl,h1,h2⟩:=h
 have hkl : k < t.length:=by
  rcases Nat.lt_or_ge k t.length with h | h
  ·exact h
  ·rw [List.getElem?_eq_none h] at hk; cases hk
 have hjl : j < o.length:=by
  rcases Nat.lt_or_ge j o.length with h | h
  ·exact h
  ·rw [List.getElem?_eq_none h] at hj; cases hj
 rw [List.getElem?_eq_getElem hkl] at hk
 injection hk with hk
 obtain ⟨xa,xc,e1,hv⟩:=qm h1
 injection e1 with e1 e2 e3
 subst e1; subst e2; subst e3
 obtain ⟨g,rfl,_,hg,hc⟩:=hv k hkl
 obtain ⟨a,n,c,e4,h3⟩:=h2.2 k hkl
 rw [hk] at h3
 obtain ⟨ya,yc,e5,hv2⟩:=qm h3
 injection e5 with e5 e6 e7
 subst e5; subst e6; subst e7
 obtain ⟨g2,rfl,_,hg2,hc2⟩:=hv2 j hjl
 have m1 : t.length≤maxLen:=by
  rcases h1.2 with ⟨e1,_⟩ | ⟨_,cap,_,e1,_,_,e4,e5,_⟩
  ·cases e1
  ·omega
 have m2 : o.length≤maxLen:=by
  rcases h3.2 with ⟨e1,_⟩ | ⟨_,cap,_,e1,_,_,e4,e5,_⟩
  ·cases e1
  ·omega
 refine ⟨g,_,g2,_,c,rfl,hg,hg2,?_,rfl,?_,hkl,hjl,m1,m2⟩
 ·rw [hc k (by omega),e4]
 ·rw [hc2 j (by omega),List.getElem?_map,hj]; rfl
set_option maxRecDepth 100000 in
set_option maxHeartbeats 4000000 in
theorem placeBehind_any (w : World) (v : MVar) (ta : Option Addr) (tc : Nat) (t : Turn) (tv : Value) (i : Nat) (hT : OwnRows 0 w tv t) (p : Int) (hp : placeO v t i = some p) :
  Calls Tryz.prog 228 #[mvV v ta tc,tv,.int .i64 i] w fun e w'=>e = .returned (.int .i64 p)∧Below w.heap.size w w':=by
 have HB:=hide (below_alloc1 w (.cells #[.int .i64 v.first,.int .i64 v.count,.slice ta v.texts.length tc,.int .i64 v.over,.int .i64 v.of_] 213))
 unfold placeO at hp
 unfold mvV
 by_cases h1 : v.over = -1
 ·rw [h1] at HB ⊢
  rw [h1,if_pos (by decide)] at hp
  injection hp with hp
  subst hp
  clear hT
  go_enter Tryz.func228,Tryz.ntmps228
  go_wp2
  go_ret
  exact ⟨rfl,ku HB⟩
 ·rw [if_neg (by simpa using h1)] at hp
  have h2 : ¬ v.over < 0:=fun h=>by rw [if_pos h] at hp; cases hp
  rw [if_neg h2] at hp
  obtain ⟨o,ho,hp⟩:=Option.bind_eq_some_iff.mp hp
  obtain ⟨k,hk⟩ : ∃ k : Nat,v.over = k:=⟨v.over.toNat,by omega⟩
  rw [hk,Int.toNat_natCast] at ho
  obtain ⟨g,c,g2,n2,c2,rfl,hg,hg2,d1,rfl,d2,hkl,hjl,m1,m2⟩:=turn_at hT ho hp
  have D1 : (w.alloc (.cells #[.int .i64 v.first,.int .i64 v.count,.slice ta v.texts.length tc,.int .i64 (k : Int),.int .i64 v.of_] 213)).cell? ⟨g,k,none⟩ = some (.slice (some ⟨g2,0,none⟩) o.length c2):=((below_alloc1 w _).cell (p:=⟨g,k,none⟩) hg).trans d1
  have D2 : (w.alloc (.cells #[.int .i64 v.first,.int .i64 v.count,.slice ta v.texts.length tc,.int .i64 (k : Int),.int .i64 v.of_] 213)).cell? ⟨g2,i,none⟩ = some (.int .i64 p):=((below_alloc1 w _).cell (p:=⟨g2,i,none⟩) hg2).trans d2
  rw [hk] at HB ⊢
  have hk1 : ¬ ((k : Int) = -1):=by omega
  have m1' : t.length≤9223372036854775807:=by unfold maxLen at m1; omega
  have m2' : o.length≤9223372036854775807:=by unfold maxLen at m2; omega
  clear hT d1 d2 hk h1 h2 ho hp m1 m2
  go_enter Tryz.func228,Tryz.ntmps228
  go_wp2
  go_ret
  exact ⟨rfl,ku HB⟩
set_option maxRecDepth 100000 in
set_option maxHeartbeats 4000000 in
theorem valueBehind_any (w : World) (v : MVar) (ta : Option Addr) (tc : Nat) (t : Turn) (tv : Value) (x : Int) (hT : OwnRows 0 w tv t) (p : Int) (hp : valueO v t x = some p) :
  Calls Tryz.prog 227 #[mvV v ta tc,tv,.int .u8 x] w fun e w'=>e = .returned (.int .u8 p)∧Below w.heap.size w w':=by
 have HB:=hide (below_alloc1 w (.cells #[.int .i64 v.first,.int .i64 v.count,.slice ta v.texts.length tc,.int .i64 v.over,.int .i64 v.of_] 213))
 unfold valueO at hp
 unfold mvV
 by_cases h1 : v.of_ = -1
 ·rw [h1] at HB ⊢
  rw [h1,if_pos (by simp)] at hp
  injection hp with hp
  subst hp
  clear hT
  go_enter Tryz.func227,Tryz.ntmps227
  go_wp2
  go_ret
  exact ⟨rfl,ku HB⟩
 ·have h1b : (v.of_ == -1) = false:=by simpa using h1
  by_cases hx : x = 0
  ·subst hx
   rw [if_pos (by simp)] at hp
   injection hp with hp
   subst hp
   clear hT
   generalize v.of_ = ov at *
   go_enter Tryz.func227,Tryz.ntmps227
   go_wp2
   go_ret
   exact ⟨rfl,ku HB⟩
  ·rw [if_neg (by simp [h1,hx])] at hp
   have h2 : ¬ (v.of_ < 0∨x < 0∨255 < x):=fun h=>by rw [if_pos h] at hp; cases hp
   rw [if_neg h2] at hp
   obtain ⟨o,ho,hp⟩:=Option.bind_eq_some_iff.mp hp
   obtain ⟨y,hy,hp⟩:=Option.bind_eq_some_iff.mp hp
   have h3 : 0≤y∧y < 255:=by
    apply Classical.byContradiction
    intro hc
    rw [if_neg hc] at hp; cases hp
   rw [if_pos h3] at hp
   injection hp with hp
   subst hp
   obtain ⟨k,hk⟩ : ∃ k : Nat,v.of_ = k:=⟨v.of_.toNat,by omega⟩
   obtain ⟨j,hj⟩ : ∃ j : Nat,x = (j : Int) + 1:=⟨x.toNat - 1,by omega⟩
   rw [hk,Int.toNat_natCast] at ho
   rw [show x.toNat - 1 = j by omega] at hy
   obtain ⟨g,c,g2,n2,c2,rfl,hg,hg2,d1,rfl,d2,hkl,hjl,m1,m2⟩:=turn_at hT ho hy
   have D1 : (w.alloc (.cells #[.int .i64 v.first,.int .i64 v.count,.slice ta v.texts.length tc,.int .i64 v.over,.int .i64 (k : Int)] 213)).cell? ⟨g,k,none⟩ = some (.slice (some ⟨g2,0,none⟩) o.length c2):=((below_alloc1 w _).cell (p:=⟨g,k,none⟩) hg).trans d1
   have D2 : (w.alloc (.cells #[.int .i64 v.first,.int .i64 v.count,.slice ta v.texts.length tc,.int .i64 v.over,.int .i64 (k : Int)] 213)).cell? ⟨g2,j,none⟩ = some (.int .i64 y):=((below_alloc1 w _).cell (p:=⟨g2,j,none⟩) hg2).trans d2
   rw [hk] at HB ⊢
   rw [hj]
   have hk1 : ¬ ((k : Int) = -1):=by omega
   have hj1 : ¬ ((j : Int) + 1 = 0):=by omega
   have hk2 : ((k : Int) == -1) = false:=by simp
   have hj2 : ((j : Int) + 1 == 0) = false:=by simpa using hj1
   have wr1 : IntKind.u8.wrap ((j : Int) + 1 - 1) = (j : Int):=by simp [IntKind.wrap,IntKind.bits,IntKind.signed]; omega
   have wr2 : IntKind.i64.wrap (y + 1) = y + 1:=by rw [IntKind.wrap_i64]; omega
   have wr3 : IntKind.u8.wrap (y + 1) = y + 1:=by simp [IntKind.wrap,IntKind.bits,IntKind.signed]; omega
   have m1' : t.length≤9223372036854775807:=by unfold maxLen at m1; omega
   have m2' : o.length≤9223372036854775807:=by unfold maxLen at m2; omega
   have hm1 : (j : Int) % 256 = (j : Int):=by omega
   have hm2 : j % 256 = j:=by omega
   have hm3 : (y + 1) % 256 = y + 1:=by omega
   clear hT d1 d2 hk h1 h1b h2 ho hy m1 m2 hx hj
   go_enter Tryz.func227,Tryz.ntmps227
   go_wp2
   go_ret
   exact ⟨rfl,ku HB⟩
def ownS (v : Value) : List Nat:=v.ownBlock.toList
theorem ownS_ty {w : World} {lo e size : Nat} {v : Value} {n : Nat} {xs : List Value} (h : w.ownsRow lo e size v n xs) : ∀ k ∈ ownS v,∃ cs fr,w.heap[k]? = some (.cells cs e fr):=by
 intro k hk
 rcases h.2 with ⟨e1,_⟩ | ⟨g,cap,cur,e1,_,e3,_⟩
 ·rw [e1] at hk; simp [ownS,Value.ownBlock] at hk
 ·rw [e1] at hk
  simp [ownS,Value.ownBlock] at hk
  subst hk
  exact ⟨_,_,e3⟩
theorem stay_tk {S : List Nat} {w w' : World} {e : Nat} {bad : List Nat} (h : xg S w w') (hS : ∀ k ∈ S,∃ cs fr,w.heap[k]? = some (.cells cs e fr)) (he : e ∈ bad) (x : Option Nat) : Tk x bad w w':=
 ⟨h.os,h.tape,h.output,h.size,fun i o h1 _ h3=>by
  by_cases hm : i ∈ S
  ·obtain ⟨cs,fr,e1⟩:=hS i hm
   rw [e1] at h1
   injection h1 with h1
   exact absurd he (h3 cs e fr h1.symm)
  ·exact h.at h1 hm⟩
theorem set_own {w : World} {B e g n c : Nat} {xs : List Value} (h : w.ownsRow B e 1 (.slice (some ⟨g,0,none⟩) n c) n xs) (j : Nat) (u : Value) : (w.setCell ⟨g,j,none⟩ u).ownsRow B e 1 (.slice (some ⟨g,0,none⟩) n c) n (xs.set j u):=by
 refine ⟨by rw [List.length_set]; exact h.1,?_⟩
 rcases h.2 with ⟨e1,_⟩ | ⟨g',cap,cur,e1,e2,e3,e4,e5,e6,e7⟩
 ·cases e1
 ·injection e1 with e1 _ e1'
  injection e1 with e1
  injection e1 with e1
  subst e1; subst e1'
  refine Or.inr ⟨g,c,_,rfl,e2,heap_setCell_same w g j _ _ u e3,e4,e5,by simpa using e6,?_⟩
  rw [Array.toList_setIfInBounds,List.take_set,e7]
theorem own_cell {w : World} {B e g n c : Nat} {l : List Int} {kd : IntKind} (h : w.ownsRow B e 1 (.slice (some ⟨g,0,none⟩) n c) n (l.map (Value.int kd))) (j : Nat) (hj : j < l.length) : w.cell? ⟨g,j,none⟩ = some (.int kd l[j]):=by
 obtain ⟨xa,xc,e1,hv⟩:=qm h
 injection e1 with e1 e2 e3
 have hl : l.length = n:=by have:=h.1; simpa using this
 obtain ⟨g2,e4,_,_,hc⟩:=hv j (by omega)
 rw [← e1] at e4
 injection e4 with e4
 injection e4 with e4
 subst e4
 rw [hc j (by omega),List.getElem?_map,List.getElem?_eq_getElem hj]; rfl
theorem own_thaw {w : World} {B e g n c : Nat} {xs : List Value} (h : w.ownsRow B e 1 (.slice (some ⟨g,0,none⟩) n c) n xs) (j : Nat) : w.frozen? ⟨g,j,none⟩ = false:=by
 rcases h.2 with ⟨e1,_⟩ | ⟨g',cap,cur,e1,e2,e3,e4,e5,e6,e7⟩
 ·cases e1
 ·injection e1 with e1 _ e1'
  injection e1 with e1
  injection e1 with e1
  subst e1
  unfold World.frozen?
  simp [e3]
theorem below_drewl {B : Nat} {w w' : World} (h : Below B w.drew w') : Below B w w':=⟨h.os,h.tape,h.output,h.size,h.block⟩
theorem below_setNew {b : Nat} {w x : World} {o : Obj} (h : w.heap[b]? = some o) (hb : Below w.heap.size w x) (hl : b < w.heap.size) (g j : Nat) (u : Value) (hne : g≠b) : (x.setCell ⟨g,j,none⟩ u).heap[b]? = some o:=by
 rw [Below.heap_setCell _ _ _ _ (by show b≠g; omega),hb.block b hl]; exact h
def TuS (O b gs k : Nat) (cv : Value) (v : MVar) (ta : Option Addr) (tc : Nat) (x : Int) (w : World) : Prop:=
 w.cell? ⟨O,2,none⟩ = some cv∧w.cell? ⟨b,0,none⟩ = some (.int .i64 v.first)∧w.cell? ⟨b,1,none⟩ = some (.int .i64 v.count)∧w.cell? ⟨b,2,none⟩ = some (.slice ta v.texts.length tc)∧w.cell? ⟨b,3,none⟩ = some (.int .i64 v.over)∧w.cell? ⟨b,4,none⟩ = some (.int .i64 v.of_)∧w.cell? ⟨gs,k,none⟩ = some (.int .u8 x)
theorem TuS.below {O b gs k : Nat} {cv : Value} {v : MVar} {ta : Option Addr} {tc : Nat} {x : Int} {B : Nat} {w w' : World} (h : TuS O b gs k cv v ta tc x w) (hb : Below B w w') (hO : O < B) (h1 : b < B) (h2 : gs < B) : TuS O b gs k cv v ta tc x w':=by
 obtain ⟨s0,s1,s2,s3,s4,s5,s6⟩:=h
 exact ⟨(hb.cell (p:=⟨O,2,none⟩) hO).trans s0,(hb.cell (p:=⟨b,0,none⟩) h1).trans s1,(hb.cell (p:=⟨b,1,none⟩) h1).trans s2,(hb.cell (p:=⟨b,2,none⟩) h1).trans s3,(hb.cell (p:=⟨b,3,none⟩) h1).trans s4,(hb.cell (p:=⟨b,4,none⟩) h1).trans s5,(hb.cell (p:=⟨gs,k,none⟩) h2).trans s6⟩
set_option maxRecDepth 100000 in
set_option maxHeartbeats 8000000 in
theorem turn_any (w : World) (B O M nb : Nat) (vars : List MVar) (tab : uq) (t : Turn) (tv ts : Value) (st cur0 : List Int) (sv : Value) (gc cc : Nat) (hO : w.heap[O]? = some (.cells #[.pointer (some ⟨M,0,none⟩),ts,.slice (some ⟨gc,0,none⟩) cur0.length cc] 260 (0,0))) (h : Mc 0 w M nb vars tab) (hT : OwnRows 0 w tv t) (hS : RowAt .u8 w sv st) (hC : w.ownsRow B 5 1 (.slice (some ⟨gc,0,none⟩) cur0.length cc) cur0.length (cur0.map (Value.int .u8))) (hne : sv.ownBlock≠some gc)
  (hv : vars.length≤1000) (hcl : cur0.length≤1000000) (hsl : st.length≤1000000) (r : List Int) (hr : turnO t st vars cur0 = some r) :
  Calls Tryz.prog 187 #[.pointer (some ⟨O,0,none⟩),tv,sv] w fun e w'=>e = .returned (.tuple #[])∧w'.ownsRow B 5 1 (.slice (some ⟨gc,0,none⟩) cur0.length cc) cur0.length (r.map (Value.int .u8))∧xg [gc] w w':=by
 obtain ⟨⟨y0,y1,y2,va,vc,z,cs,hM,hV,hI⟩,_⟩:=h
 obtain ⟨m0,m1,m2,m3,m4,m5,_⟩:=row6 hM
 obtain ⟨o0,o1,o2,_⟩:=row3 hO
 have hOl:=lt_of_block hO
 have hty : ∀ k ∈ [gc],∃ c fr,w.heap[k]? = some (.cells c 5 fr):=fun k hk=>ownS_ty hC k (by simpa [ownS,Value.ownBlock] using hk)
 have hOg : O≠gc:=fun e=>by
  obtain ⟨c,fr,e1⟩:=hty gc (by simp)
  rw [← e,hO] at e1
  injection e1 with e1
  injection e1 with _ e1 _
  exact absurd e1 (by decide)
 obtain ⟨sa,sc,rfl,hsv⟩:=hS
 have HSV:=hide hsv
 have HNE:=hide hne
 have HO:=hide hO
 have HT:=hide hT
 have HV:=hide hV
 have HI:=hide hI
 have HC:=hide hC
 have HR:=hide hr
 have HTY:=hide hty
 have hgl : gc < w.heap.size:=by obtain ⟨c,fr,e1⟩:=hty gc (by simp); exact lt_of_block e1
 have hfirst : ∀ v ∈ vars,True:=fun _ _=>trivial
 clear hO hT hV hI hC hr hM hsv hty hfirst hne y0 y1 y2 m0 m1 m2 m4 m5
 go_enter Tryz.func187,Tryz.ntmps187
 go_wp2_with fail
 go_loopw [7,8,17] (fun _ _ i wr=>∃ (k : Nat) (c : List Int),k≤vars.length∧i = .int .i64 k∧turnO t st (vars.drop k) c = some r∧c.length = cur0.length∧wr.ownsRow B 5 1 (.slice (some ⟨gc,0,none⟩) cur0.length cc) cur0.length (c.map (Value.int .u8))∧xg [gc] w wr) (fun _ _ i _=>vars.length - (intOf i).toNat)
 case atStart=>exact ⟨0,cur0,Nat.zero_le _,rfl,ku HR,rfl,ku HC,xg.refl _ _⟩
 case round=>
  obtain ⟨wo,hwo⟩ : ∃ wo,wo = wr:=⟨_,rfl⟩
  subst hwo
  obtain ⟨k,c,hk,rfl,hrest,hclen,hcur,hst⟩:=hrel
  have hszo:=hst.size
  by_cases hlt : k < vars.length
  ·have K:=stay_tk (bad:=[5]) hst (ku HTY) (by decide) none
   obtain ⟨xa,xc,e1,hview⟩:=qm (zk (ku HV) K (jy.none _) (by decide))
   injection e1 with e1 _ e3
   subst e1; subst e3
   obtain ⟨ta,tc,⟨f0,f1,f2,f3,f4⟩,_⟩:=mv_at k hlt (ku HI)
   obtain ⟨g,rfl,hg1,hg2,hc⟩:=hview k hlt
   have e0:=(hc (k * 5) (by omega)).trans f0
   have e1:=(hc (k * 5 + 1) (by omega)).trans f1
   have e2:=(hc (k * 5 + 2) (by omega)).trans f2
   have e3:=(hc (k * 5 + 3) (by omega)).trans f3
   have e4:=(hc (k * 5 + 4) (by omega)).trans f4
   rw [List.drop_eq_getElem_cons hlt,turnO] at hrest
   obtain ⟨c2,hc2,hrest⟩:=Option.bind_eq_some_iff.mp hrest
   have HREST:=hide hrest
   have HC2:=hide hc2
   have HCL2:=hide (turnCO_len _ _ _ _ _ _ hc2)
   have HBXN:=hide (qg wo (.cells #[.int .i64 vars[k].first,.int .i64 vars[k].count,.slice ta vars[k].texts.length tc,.int .i64 vars[k].over,.int .i64 vars[k].of_] 213))
   have HST0:=hide (hst.alloc (.cells #[.int .i64 vars[k].first,.int .i64 vars[k].count,.slice ta vars[k].texts.length tc,.int .i64 vars[k].over,.int .i64 vars[k].of_] 213))
   have HCU0:=hide (hcur.alloc (.cells #[.int .i64 vars[k].first,.int .i64 vars[k].count,.slice ta vars[k].texts.length tc,.int .i64 vars[k].over,.int .i64 vars[k].of_] 213))
   generalize vars[k] = v at *
   clear hc hrest hc2 hcur hst K hview f0 f1 f2 f3 f4
   go_wp2_with fail
   go_loopw [8,23] (fun _ i wr=>∃ (j : Nat) (cur : List Int),j≤v.count∧i = .int .i64 j∧turnCO v t st ((List.range v.count).drop j) cur = some c2∧cur.length = cur0.length∧wr.ownsRow B 5 1 (.slice (some ⟨gc,0,none⟩) cur0.length cc) cur0.length (cur.map (Value.int .u8))∧xg [gc] w wr∧wr.heap[wo.heap.size]? = some (.cells #[.int .i64 v.first,.int .i64 v.count,.slice ta v.texts.length tc,.int .i64 v.over,.int .i64 v.of_] 213 (0,0))) (fun _ i _=>v.count - (intOf i).toNat)
   case atStart=>exact ⟨0,c,Nat.zero_le _,rfl,ku HC2,hclen,ku HCU0,ku HST0,ku HBXN⟩
   case round=>
    obtain ⟨j,cur,hj,rfl,hrc,hcurl,hcur,hst,hbx⟩:=hrel
    have hszr:=hst.size
    have hbl:=lt_of_block hbx
    obtain ⟨b0,b1,b2,b3,b4,_⟩:=zh hbx
    by_cases hltj : j < v.count
    ·have hjr : j < (List.range v.count).length:=by simpa using hltj
     rw [List.drop_eq_getElem_cons hjr,List.getElem_range,turnCO] at hrc
     obtain ⟨p,hp,hrc⟩:=Option.bind_eq_some_iff.mp hrc
     obtain ⟨x,hx,hrc⟩:=Option.bind_eq_some_iff.mp hrc
     obtain ⟨y,hy,hrc⟩:=Option.bind_eq_some_iff.mp hrc
     have hq : 0≤p∧v.first + p.toNat < cur.length:=by
      apply Classical.byContradiction
      intro hc
      rw [if_neg hc] at hrc; cases hrc
     rw [if_pos hq] at hrc
     obtain ⟨q,hpq⟩ : ∃ q : Nat,p = q:=⟨p.toNat,by omega⟩
     subst hpq
     rw [Int.toNat_natCast] at hq hrc
     obtain ⟨_,hq3⟩:=hq
     have hxl : v.first + j < st.length:=by
      rcases Nat.lt_or_ge (v.first + j) st.length with h | h
      ·exact h
      ·rw [List.getElem?_eq_none h] at hx; cases hx
     obtain ⟨gs,rfl,hgs,hgc2⟩:=ku HSV (by omega)
     have hgsne : gs≠gc:=fun e=>(ku HNE) (by rw [e]; rfl)
     have cs1 : wr.cell? ⟨gs,v.first + j,none⟩ = some (.int .u8 x):=by
      rw [World.cell?_of_block (hst.block gs hgs (by simpa using hgsne)),hgc2 _ hxl]
      rw [List.getElem?_eq_getElem hxl] at hx
      injection hx with hx
      rw [hx]
     obtain ⟨o0',o1',o2',_⟩:=row3 (hst.at (ku HO) (by simpa using hOg))
     have K:=stay_tk (bad:=[5]) hst (ku HTY) (by decide) none
     have hT2:=(ku HT).tk K (jy.none _) (by decide) (by decide)
     have HPB:=hide (placeBehind_any wr.drew v ta tc t tv j (hT2.below ((Below.refl _ wr).drew)) q hp)
     have HVB:=hide (fun (wx : World) (hb : Below wr.heap.size wr wx)=>valueBehind_any wx v ta tc t tv x (hT2.below hb) y hy)
     have HS0:=hide (show TuS O wo.heap.size gs (v.first + j) (.slice (some ⟨gc,0,none⟩) cur0.length cc) v ta tc x wr.drew from ⟨o2',b0,b1,b2,b3,b4,cs1⟩)
     have HCUR:=hide hcur
     have HSTr:=hide hst
     have HBXr:=hide hbx
     have HRC:=hide hrc
     have hgcb : gc≠wo.heap.size:=by omega
     have hOw : O < wr.heap.size:=by omega
     have hgw : gs < wr.heap.size:=by omega
     have hq4 : v.first + q < cur0.length:=by omega
     have wj : IntKind.i64.wrap ((v.first : Int) + j) = (v.first : Int) + j:=by rw [IntKind.wrap_i64]; omega
     have wq : IntKind.i64.wrap ((v.first : Int) + q) = (v.first : Int) + q:=by rw [IntKind.wrap_i64]; omega
     have ij1 : (0 : Int)≤(v.first : Int) + j:=by omega
     have ij2 : (v.first : Int) + j < st.length:=by omega
     have iq1 : (0 : Int)≤(v.first : Int) + q:=by omega
     have iq2 : (v.first : Int) + q < cur0.length:=by omega
     have tj : ((v.first : Int) + j).toNat = v.first + j:=by omega
     have tq : ((v.first : Int) + q).toNat = v.first + q:=by omega
     unfold mvV at HPB HVB
     clear hrc hcur hst hbx hp hx hy hT2 K o0' o1' o2' b0 b1 b2 b3 b4 cs1 hgc2 e0 e1 e2 e3 e4
     go_upto_region 6 with fail
     refine jr (S:=TuS O wo.heap.size gs (v.first + j) (.slice (some ⟨gc,0,none⟩) cur0.length cc) v ta tc x) (tl:=[22]) (by kernel_rfl) ?_
     refine qj (i:=0) (v:=.pointer (some ⟨O,0,none⟩)) rfl (by kernel_rfl) (by kernel_rfl) (by kernel_rfl) (fun _ _ _ h=>h) (Or.inl ⟨by rfl,fun _ _=>by go_simp⟩) ?_
     try simp only [Act.put,List.setIfInBounds_toArray,List.set_cons_zero,List.set_cons_succ]
     refine qj (i:=1) (v:=.pointer (some ⟨O,0,none⟩)) rfl (by kernel_rfl) (by kernel_rfl) (by kernel_rfl) (fun _ _ _ h=>h) (Or.inl ⟨by rfl,fun _ _=>by go_simp⟩) ?_
     try simp only [Act.put,List.setIfInBounds_toArray,List.set_cons_zero,List.set_cons_succ]
     refine qj (i:=2) (v:=.pointer (some ⟨O,2,none⟩)) rfl (by kernel_rfl) (by kernel_rfl) (by kernel_rfl) (fun _ _ _ h=>h) (Or.inl ⟨by rfl,fun _ _=>by go_simp⟩) ?_
     try simp only [Act.put,List.setIfInBounds_toArray,List.set_cons_zero,List.set_cons_succ]
     refine qo (i:=3) (v:=.slice (some ⟨gc,0,none⟩) cur0.length cc) [21,22] rfl (by kernel_rfl) (by kernel_rfl) (by kernel_rfl) (by kernel_rfl) (by decide) (fun _ _ _ h=>h) (Or.inl ⟨by rfl,fun wq hSw=>by (obtain ⟨s0,s1,s2,s3,s4,s5,s6⟩:=hSw; go_simp)⟩) (ku HS0) ?_
     try simp only [Act.put,List.setIfInBounds_toArray,List.set_cons_zero,List.set_cons_succ]
     refine qj (i:=4) (v:=.pointer (some ⟨wo.heap.size,0,none⟩)) rfl (by kernel_rfl) (by kernel_rfl) (by kernel_rfl) (fun _ _ _ h=>h) (Or.inl ⟨by rfl,fun _ _=>by go_simp⟩) ?_
     try simp only [Act.put,List.setIfInBounds_toArray,List.set_cons_zero,List.set_cons_succ]
     refine qo (i:=5) (v:=.int .i64 v.first) [10,21,22] rfl (by kernel_rfl) (by kernel_rfl) (by kernel_rfl) (by kernel_rfl) (by decide) (fun _ _ _ h=>h) (Or.inl ⟨by rfl,fun wq hSw=>by (obtain ⟨s0,s1,s2,s3,s4,s5,s6⟩:=hSw; go_simp)⟩) (ku HS0) ?_
     try simp only [Act.put,List.setIfInBounds_toArray,List.set_cons_zero,List.set_cons_succ]
     refine qo (i:=6) (v:=.agg #[.int .i64 v.first,.int .i64 v.count,.slice ta v.texts.length tc,.int .i64 v.over,.int .i64 v.of_]) [9,10,21,22] rfl (by kernel_rfl) (by kernel_rfl) (by kernel_rfl) (by kernel_rfl) (by decide) (fun _ _ _ h=>h) (Or.inl ⟨by rfl,fun wq hSw=>by (obtain ⟨s0,s1,s2,s3,s4,s5,s6⟩:=hSw; go_simp)⟩) (ku HS0) ?_
     try simp only [Act.put,List.setIfInBounds_toArray,List.set_cons_zero,List.set_cons_succ]
     refine qj (i:=7) (v:=tv) rfl (by kernel_rfl) (by kernel_rfl) (by kernel_rfl) (fun _ _ _ h=>h) (Or.inl ⟨by rfl,fun _ _=>by go_simp⟩) ?_
     try simp only [Act.put,List.setIfInBounds_toArray,List.set_cons_zero,List.set_cons_succ]
     refine qj (i:=8) (v:=.int .i64 j) rfl (by kernel_rfl) (by kernel_rfl) (by kernel_rfl) (fun _ _ _ h=>h) (Or.inl ⟨by rfl,fun _ _=>by go_simp⟩) ?_
     try simp only [Act.put,List.setIfInBounds_toArray,List.set_cons_zero,List.set_cons_succ]
     refine qo (i:=11) (v:=.agg #[.int .i64 v.first,.int .i64 v.count,.slice ta v.texts.length tc,.int .i64 v.over,.int .i64 v.of_]) [20,22] rfl (by kernel_rfl) (by kernel_rfl) (by kernel_rfl) (by kernel_rfl) (by decide) (fun _ _ _ h=>h) (Or.inl ⟨by rfl,fun wq hSw=>by (obtain ⟨s0,s1,s2,s3,s4,s5,s6⟩:=hSw; go_simp)⟩) (ku HS0) ?_
     try simp only [Act.put,List.setIfInBounds_toArray,List.set_cons_zero,List.set_cons_succ]
     refine qj (i:=12) (v:=tv) rfl (by kernel_rfl) (by kernel_rfl) (by kernel_rfl) (fun _ _ _ h=>h) (Or.inl ⟨by rfl,fun _ _=>by go_simp⟩) ?_
     try simp only [Act.put,List.setIfInBounds_toArray,List.set_cons_zero,List.set_cons_succ]
     refine qj (i:=13) (v:=.slice (some ⟨gs,0,none⟩) st.length sc) rfl (by kernel_rfl) (by kernel_rfl) (by kernel_rfl) (fun _ _ _ h=>h) (Or.inl ⟨by rfl,fun _ _=>by go_simp⟩) ?_
     try simp only [Act.put,List.setIfInBounds_toArray,List.set_cons_zero,List.set_cons_succ]
     refine qj (i:=14) (v:=.pointer (some ⟨wo.heap.size,0,none⟩)) rfl (by kernel_rfl) (by kernel_rfl) (by kernel_rfl) (fun _ _ _ h=>h) (Or.inl ⟨by rfl,fun _ _=>by go_simp⟩) ?_
     try simp only [Act.put,List.setIfInBounds_toArray,List.set_cons_zero,List.set_cons_succ]
     refine qo (i:=15) (v:=.int .i64 v.first) [17,18,19,20,22] rfl (by kernel_rfl) (by kernel_rfl) (by kernel_rfl) (by kernel_rfl) (by decide) (fun _ _ _ h=>h) (Or.inl ⟨by rfl,fun wq hSw=>by (obtain ⟨s0,s1,s2,s3,s4,s5,s6⟩:=hSw; go_simp)⟩) (ku HS0) ?_
     try simp only [Act.put,List.setIfInBounds_toArray,List.set_cons_zero,List.set_cons_succ]
     refine qj (i:=16) (v:=.int .i64 j) rfl (by kernel_rfl) (by kernel_rfl) (by kernel_rfl) (fun _ _ _ h=>h) (Or.inl ⟨by rfl,fun _ _=>by go_simp⟩) ?_
     try simp only [Act.put,List.setIfInBounds_toArray,List.set_cons_zero,List.set_cons_succ]
     refine qj (i:=17) (v:=.int .i64 ((v.first : Int) + j)) rfl (by kernel_rfl) (by kernel_rfl) (by kernel_rfl) (fun _ _ _ h=>h) (Or.inl ⟨by rfl,fun _ _=>by go_simp⟩) ?_
     try simp only [Act.put,List.setIfInBounds_toArray,List.set_cons_zero,List.set_cons_succ]
     refine qj (i:=18) (v:=.pointer (some ⟨gs,v.first + j,none⟩)) rfl (by kernel_rfl) (by kernel_rfl) (by kernel_rfl) (fun _ _ _ h=>h) (Or.inl ⟨by rfl,fun _ _=>by go_simp⟩) ?_
     try simp only [Act.put,List.setIfInBounds_toArray,List.set_cons_zero,List.set_cons_succ]
     refine qo (i:=19) (v:=.int .u8 x) [20,22] rfl (by kernel_rfl) (by kernel_rfl) (by kernel_rfl) (by kernel_rfl) (by decide) (fun _ _ _ h=>h) (Or.inl ⟨by rfl,fun wq hSw=>by (obtain ⟨s0,s1,s2,s3,s4,s5,s6⟩:=hSw; go_simp)⟩) (ku HS0) ?_
     try simp only [Act.put,List.setIfInBounds_toArray,List.set_cons_zero,List.set_cons_succ]
     refine uj (rs:=[9]) (by kernel_rfl) (by simp) ?_
     refine jk.cons rfl (fun K hK=>?_) jk.nil
     go_simp
     go_at_call 228
     refine (ku HPB).mono ?_
     rintro e x1 ⟨rfl,hb1⟩
     have hy1 : wr.heap.size≤x1.heap.size:=hb1.size
     have HS1:=hide ((ku HS0).below hb1 (show O < wr.heap.size by omega) (show wo.heap.size < wr.heap.size by omega) (show gs < wr.heap.size by omega))
     have HB1:=hide (show Below wr.heap.size wr x1 from below_drewl hb1)
     have HVB1:=hide ((ku HVB) x1 (show Below wr.heap.size wr x1 from below_drewl hb1))
     clear hb1
     dsimp only
     refine hK _ _ (ku HS1) ?_
     clear hK K
     try simp only [Act.put,List.setIfInBounds_toArray,List.set_cons_zero,List.set_cons_succ]
     refine qj (i:=10) (v:=.int .i64 ((v.first : Int) + q)) rfl (by kernel_rfl) (by kernel_rfl) (by kernel_rfl) (fun _ _ _ h=>h) (Or.inl ⟨by rfl,fun _ _=>by go_simp⟩) ?_
     try simp only [Act.put,List.setIfInBounds_toArray,List.set_cons_zero,List.set_cons_succ]
     refine uj (rs:=[20]) (by kernel_rfl) (by simp) ?_
     refine jk.cons rfl (fun K hK=>?_) jk.nil
     go_simp
     go_at_call 227
     refine (ku HVB1).mono ?_
     rintro e x2 ⟨rfl,hb2⟩
     have hy2 : x1.heap.size≤x2.heap.size:=hb2.size
     have HS2:=hide ((ku HS1).below hb2 (show O < x1.heap.size by omega) (show wo.heap.size < x1.heap.size by omega) (show gs < x1.heap.size by omega))
     have hb12 : Below wr.heap.size wr x2:=(ku HB1).trans (hb2.mono hy1)
     have ho2:=qy (ku HCUR) hb12
     have cd:=own_cell ho2 (v.first + q) hq3
     have fd:=own_thaw ho2 (v.first + q)
     have HO2:=hide (set_own ho2 (v.first + q) (.int .u8 y))
     have HST2:=hide (((ku HSTr).trans (.of_below hb12)).set (p:=⟨gc,v.first + q,none⟩) (Or.inl (by simp [ownS,Value.ownBlock])) (.int .u8 y))
     have HBX2:=hide ((below_setNew (ku HBXr) hb12 (by omega) gc (v.first + q) (.int .u8 y) hgcb))
     clear hb2 hb12 ho2 HVB1 HVB HPB
     dsimp only
     refine hK _ _ (ku HS2) ?_
     clear hK K
     try simp only [Act.put,List.setIfInBounds_toArray,List.set_cons_zero,List.set_cons_succ]
     refine qj (i:=21) (v:=.pointer (some ⟨gc,v.first + q,none⟩)) rfl (by kernel_rfl) (by kernel_rfl) (by kernel_rfl) (fun _ _ _ h=>h) (Or.inl ⟨by rfl,fun _ _=>by go_simp⟩) ?_
     try simp only [Act.put,List.setIfInBounds_toArray,List.set_cons_zero,List.set_cons_succ]
     refine uh _ _ _ _ (kqr (by kernel_rfl)) ?_
     refine wpAny_ready (rs:=[22]) (by kernel_rfl) (by simp) (AllReady.cons rfl (fun K hK=>?_) AllReady.nil)
     go_simp
     refine hK _ _ ?_
     clear hK K
     refine wpAny_done (by kernel_rfl) ?_ _
     go_wp2
     go_roundw
     case rel=>exact ⟨j + 1,cur.set (v.first + q) y,by omega,by go_num,ku HRC,by simpa using hcurl,by rw [List.map_set]; exact ku HO2,ku HST2,ku HBX2⟩
     case measure=>simp [intOf]; omega
    ·have : j = v.count:=by omega
     subst this
     rw [List.drop_of_length_le (by simp),turnCO] at hrc
     injection hrc with hrc
     subst hrc
     have HCUR:=hide hcur
     have HSTr:=hide hst
     clear hcur hst hbx b0 b1 b2 b3 b4
     go_wp2
     go_roundw
     case rel=>exact ⟨k + 1,cur,by omega,by go_num,ku HREST,hcurl,ku HCUR,ku HSTr⟩
     case measure=>simp [intOf]; omega
  ·have : k = vars.length:=by omega
   subst this
   rw [List.drop_length,turnO] at hrest
   injection hrest with hrest
   subst hrest
   have HX:=hide hcur
   have HST:=hide hst
   clear hcur hst
   go_wp2
   go_end0
   exact ⟨rfl,ku HX,ku HST⟩
theorem Mc.tk {lo : Nat} {w w' : World} {M nb : Nat} {vars : List MVar} {tab : uq} {x : Option Nat} {bad : List Nat} (h : Mc lo w M nb vars tab) (hk : Tk x bad w w') (hx : jy w x) (hxn : x≠some nb) (h0 : 105 ∉ bad) (h1 : 213 ∉ bad) (h2 : 9 ∉ bad) : Mc lo w' M nb vars tab:=by
 obtain ⟨⟨x0,x1,x2,va,vc,z,cs,hM,hV,hI⟩,ht⟩:=h
 exact ⟨⟨x0,x1,x2,va,vc,z,cs,hk.row hM (fun e=>hx _ _ _ _ e hM) h0,zk hV hk hx h1,hI.tk hk hx h2⟩,ht.tk hk hxn⟩
theorem info_size (t : TypeId) (z : Value) (s b : Nat) (h : (Tryz.prog.info? t).map (fun i=>(i.zero,i.size,i.bytes)) = some (some z,s,b)) : (Tryz.prog.info? t).map (·.size) = some s:=by
 cases hi : Tryz.prog.info? t with
 | none=>rw [hi] at h; cases h
 | some i=>rw [hi] at h; simp at h ⊢; exact h.2.1
theorem setRow_stay (w : World) (g : Nat) (cs : Array Value) : xg [g] w (w.setRow g cs):=
 ⟨rfl,rfl,rfl,by simp [World.setRow],fun k hk hn=>setRow_other w g k cs (by simpa using hn)⟩
theorem own_over {w : World} {B e g n c : Nat} {xs ys : List Value} (h : w.ownsRow B e 1 (.slice (some ⟨g,0,none⟩) n c) n xs) (hy : ys.length = n) :
  ∃ cur,w.heap[g]? = some (.cells cur e (0,0))∧n≤cur.size∧(w.setRow g (cur.toList.take 0 ++ (ys ++ cur.toList.drop (0 + ys.length))).toArray).ownsRow B e 1 (.slice (some ⟨g,0,none⟩) n c) n ys:=by
 rcases h.2 with ⟨e1,_⟩ | ⟨g',cap,cur,e1,e2,e3,e4,e5,e6,e7⟩
 ·cases e1
 ·injection e1 with e1 _ e1'
  injection e1 with e1
  injection e1 with e1
  subst e1; subst e1'
  refine ⟨cur,e3,by omega,by rw [hy]; omega,Or.inr ⟨g,c,_,rfl,e2,setRow_heap w g _ _ e _ e3,e4,e5,?_,?_⟩⟩
  ·simp; omega
  ·simp [← hy]
set_option maxRecDepth 100000 in
set_option maxHeartbeats 4000000 in
theorem lower_any (w : World) (B g n c : Nat) (least low : List Int) (ov : Value) (hR : w.ownsRow B 5 1 (.slice (some ⟨g,0,none⟩) n c) n (least.map (Value.int .u8))) (hO : RowAt .u8 w ov low) (hl : low.length = least.length) (hn : n≤1000000) :
  Calls Tryz.prog 188 #[.slice (some ⟨g,0,none⟩) n c,ov] w fun e w'=>e = .returned (.tuple #[])∧w'.ownsRow B 5 1 (.slice (some ⟨g,0,none⟩) n c) n ((lowL least low).map (Value.int .u8))∧xg [g] w w':=by
 have hln : least.length = n:=by have:=hR.1; simpa using this
 have hRA : RowAt .u8 w (.slice (some ⟨g,0,none⟩) n c) least:=rowAt_own (by rw [hln]; exact hR)
 have HC:=hide (cmpState_any w low least ov (.slice (some ⟨g,0,none⟩) n c) hO hRA (by omega) (by omega))
 obtain ⟨xa,xc,rfl,hov⟩:=hO
 obtain ⟨cur,hcur,hcs,hov2⟩:=own_over hR (ys:=low.map (Value.int .u8)) (by simp; omega)
 have HR:=hide hR
 have HOV:=hide hov
 have HO2:=hide hov2
 have HCU:=hide hcur
 have a1 : low.length≤n:=by omega
 have a2 : n≤low.length:=by omega
 have HL0:=hide (show low = []→cmpL low least = 0 from fun e=>by
  have e2 : least = []:=List.eq_nil_of_length_eq_zero (by rw [← hl,e]; rfl)
  rw [e,e2]; rfl)
 have HGO:=hide (show ∀ (cm : Int),cm = cmpL low least→(if cmpL low least < 0 then low else least) = if cm < 0 then low else least from fun cm e=>by rw [e])
 unfold lowL
 clear hR hRA hov hov2 hcur hl hln
 obtain ⟨cm,hcm⟩ : ∃ cm,cm = cmpL low least:=⟨_,rfl⟩
 rw [ku HGO cm hcm]
 rw [← hcm] at HC
 have HCM:=hide hcm
 clear hcm HGO
 by_cases hlt : cm < 0
 ·rw [if_pos hlt]
  go_enter Tryz.func188,Tryz.ntmps188
  go_wp2_with fail
  refine (ku HC).mono ?_
  rintro e w1 ⟨rfl,q,rfl⟩
  clear HC
  by_cases h0 : 0 < low.length
  ·obtain ⟨g2,rfl,hg2,hc2⟩:=ku HOV h0
   have HSRC:=hide (show ∀ j v,(low.map (Value.int .u8))[j]? = some v→(w.drewN q).cell? ((⟨g2,0,none⟩ : Addr).add j) = some v from fun j v hj=>by
    have hjl : j < low.length:=by
     rcases Nat.lt_or_ge j low.length with h | h
     ·exact h
     ·rw [List.getElem?_eq_none (by simpa using h)] at hj; cases hj
    rw [List.getElem?_map,List.getElem?_eq_getElem hjl] at hj
    rw [show ((⟨g2,0,none⟩ : Addr).add j) = ⟨g2,j,none⟩ from by simp [Addr.add]; intro h; exact h.symm]
    rw [← hj]
    exact hc2 j hjl)
   have HSZ:=hide (info_size 5 _ _ _ Tryz.infoU8)
   clear hc2
   go_wp2_with (refine wpList_copy_own rfl _ _ 95 95 rfl 5 Tryz.underlying95 (ku HSZ) g 0 n c ⟨g2,0,none⟩ low.length xc rfl rfl cur 5 (ku HCU) (low.map (Value.int .u8)) (by rw [List.length_map]; show low.length = Nat.min low.length n; exact (Nat.min_eq_left a1).symm) (ku HSRC) (by simp; omega) (bytes_one low) ?_)
   go_wp2
   go_end0
   exact ⟨rfl,(by have h9:=ku HO2; simp only [List.take_zero,List.nil_append,List.length_map,Nat.zero_add] at h9; exact h9),((xg.refl _ w).drewN q).trans (setRow_stay _ _ _)⟩
  ·have e0 : low = []:=List.eq_nil_of_length_eq_zero (by omega)
   exact absurd hlt (by rw [ku HCM,(ku HL0) e0]; decide)
 ·rw [if_neg hlt]
  go_enter Tryz.func188,Tryz.ntmps188
  go_wp2_with fail
  refine (ku HC).mono ?_
  rintro e w1 ⟨rfl,q,rfl⟩
  go_wp2
  go_end0
  exact ⟨rfl,ku HR,((xg.refl _ w).drewN q)⟩
structure OrbIs (B : Nat) (w : World) (O M gc cc : Nat) (ts : List Turn) (cur : List Int) (tv : Value) : Prop where
 row : w.heap[O]? = some (.cells #[.pointer (some ⟨M,0,none⟩),tv,.slice (some ⟨gc,0,none⟩) cur.length cc] 260 (0,0))
 turns : kqz 0 w tv ts
 own : w.ownsRow B 5 1 (.slice (some ⟨gc,0,none⟩) cur.length cc) cur.length (cur.map (Value.int .u8))
theorem OrbIs.ty {B : Nat} {w : World} {O M gc cc : Nat} {ts : List Turn} {cur : List Int} {tv : Value} (h : OrbIs B w O M gc cc ts cur tv) : ∀ k ∈ [gc],∃ c fr,w.heap[k]? = some (.cells c 5 fr):=fun k hk=>ownS_ty h.own k (by simpa [ownS,Value.ownBlock] using hk)
theorem OrbIs.ne {B : Nat} {w : World} {O M gc cc : Nat} {ts : List Turn} {cur : List Int} {tv : Value} (h : OrbIs B w O M gc cc ts cur tv) : O≠gc:=fun e=>by
 obtain ⟨c,fr,e1⟩:=h.ty gc (by simp)
 rw [← e,h.row] at e1
 injection e1 with e1
 injection e1 with _ e1 _
 exact absurd e1 (by decide)
set_option maxRecDepth 100000 in
set_option maxHeartbeats 8000000 in
theorem least_any (w : World) (B O M nb : Nat) (vars : List MVar) (tab : uq) (ts : List Turn) (tv : Value) (st cur0 : List Int) (sa : Option Addr) (sn sc : Nat) (gc cc : Nat) (hO : OrbIs B w O M gc cc ts cur0 tv) (h : Mc 0 w M nb vars tab) (hS : w.ownsRow 0 5 1 (.slice sa sn sc) st.length (st.map (Value.int .u8))) (hne : (Value.slice sa sn sc).ownBlock≠some gc)
  (hv : vars.length≤1000) (h0 : 0 < st.length) (hcl : st.length = cur0.length) (hsl : st.length≤1000000) (htl : ts.length≤1000000) (r : List Int × List Int) (hr : leastO vars st ts st cur0 = some r) :
  Calls Tryz.prog 129 #[.pointer (some ⟨O,0,none⟩),.slice sa sn sc] w fun e w'=>∃ ga ca,e = .returned (.slice (some ⟨ga,0,none⟩) st.length ca)∧w.heap.size≤ga∧w'.ownsRow w.heap.size 5 1 (.slice (some ⟨ga,0,none⟩) st.length ca) st.length (r.1.map (Value.int .u8))∧w'.ownsRow B 5 1 (.slice (some ⟨gc,0,none⟩) cur0.length cc) cur0.length (r.2.map (Value.int .u8))∧xg [gc] w w':=by
 have HCL:=hide (mclone_any w 0 st sa sn sc hS (by omega))
 obtain ⟨ya,yc,e1,-⟩:=qm hS
 injection e1 with e1 e2 e3
 subst e1; subst e2; subst e3
 have HNE:=hide hne
 have HO:=hide hO
 have HMC:=hide h
 have HS:=hide hS
 have HR:=hide hr
 have hOl:=lt_of_block hO.row
 have hgl : gc < w.heap.size:=by obtain ⟨c,fr,e1⟩:=hO.ty gc (by simp); exact lt_of_block e1
 have hOne:=hO.ne
 have hcl1 : st.length≤cur0.length:=by omega
 have hcl2' : cur0.length≤st.length:=by omega
 clear hO h hS hr hne hcl
 go_enter Tryz.func129,Tryz.ntmps129
 go_wp2_with fail
 refine (ku HCL).mono ?_
 rintro e w1 ⟨ka,kn,kc,rfl,ho1,hb1⟩
 have hs1:=hb1.size
 obtain ⟨ga,hga,hka⟩ : ∃ ga,w.heap.size≤ga∧(Value.slice ka kn kc) = .slice (some ⟨ga,0,none⟩) st.length kc:=by
  rcases ho1.2 with ⟨e1,e2⟩ | ⟨g,cap,cur,e1,e2,_⟩
  ·omega
  ·injection e1 with e1 e1' e1''
   subst e1''
   exact ⟨g,e2,by rw [e1,e1']⟩
 injection hka with hka1 hka2
 subst hka1; subst hka2
 obtain ⟨o0,o1,o2,_⟩:=row3 ((hb1.block O hOl).trans (ku HO).row)
 obtain ⟨la,ll,lc,cs,etv,hto,htr⟩:=(ku HO).turns
 obtain ⟨xa,xc,ex,-⟩:=qm hto
 injection ex with ex1 ex2 ex3
 subst ex1; subst ex2; subst ex3
 subst etv
 have HL1:=hide ho1
 have HB1:=hide hb1
 have HTO:=hide hto
 have HTR:=hide htr
 have HC1:=hide (qy (ku HO).own hb1)
 clear ho1 hb1 HCL hto htr
 go_wp2_with fail
 go_loopw [7,15] (fun _ i wr=>∃ (k : Nat) (least cur : List Int),k≤ts.length∧i = .int .i64 k∧leastO vars st (ts.drop k) least cur = some r∧least.length = st.length∧cur.length = cur0.length∧wr.ownsRow w.heap.size 5 1 (.slice (some ⟨ga,0,none⟩) st.length kc) st.length (least.map (Value.int .u8))∧wr.ownsRow B 5 1 (.slice (some ⟨gc,0,none⟩) cur0.length cc) cur0.length (cur.map (Value.int .u8))∧xg [gc] w wr) (fun _ i _=>ts.length - (intOf i).toNat)
 case atStart=>exact ⟨0,st,cur0,Nat.zero_le _,rfl,ku HR,rfl,rfl,ku HL1,ku HC1,.of_below (ku HB1)⟩
 case round=>
  obtain ⟨wo,hwo⟩ : ∃ wo,wo = wr:=⟨_,rfl⟩
  subst hwo
  obtain ⟨k,least,cur,hk,rfl,hrest,hll,hcl2,hlo,hco,hst⟩:=hrel
  have hszo:=hst.size
  have hgal : ga < wo.heap.size:=by
   rcases hlo.2 with ⟨e1,_⟩ | ⟨g,_,_,e1,_,e3,_⟩
   ·cases e1
   ·injection e1 with e1
    injection e1 with e1
    injection e1 with e1
    rw [e1]; exact lt_of_block e3
  by_cases hlt : k < ts.length
  ·have K:=stay_tk (bad:=[5]) hst (ku HO).ty (by decide) none
   obtain ⟨xa',xc',ex,hview⟩:=qm (zk (ku HTO) K (jy.none _) (by decide))
   injection ex with ex1 _ ex3
   subst ex1; subst ex3
   obtain ⟨g,rfl,hg1,hg2,hc⟩:=hview k hlt
   obtain ⟨v,ev,hv3⟩:=((ku HTR).tk K (jy.none _) (by decide) (by decide)).2 k hlt
   have e5 : wo.cell? ⟨g,k * 1,none⟩ = some v:=by rw [hc (k * 1) (by omega),Nat.mul_one]; exact ev
   simp only [Nat.mul_one] at e5
   have hrow:=hst.at (ku HO).row (by simpa using hOne)
   obtain ⟨p0,p1,p2,_⟩:=row3 hrow
   rw [List.drop_eq_getElem_cons hlt,leastO] at hrest
   obtain ⟨c2,hc2,hrest⟩:=Option.bind_eq_some_iff.mp hrest
   have hc2l:=turnO_len _ _ _ _ _ hc2
   have hrow2 : wo.heap[O]? = some (.cells #[.pointer (some ⟨M,0,none⟩),.slice (some ⟨g,0,none⟩) ts.length lc,.slice (some ⟨gc,0,none⟩) cur.length cc] 260 (0,0)):=by rw [hcl2]; exact hrow
   have hco2 : wo.ownsRow B 5 1 (.slice (some ⟨gc,0,none⟩) cur.length cc) cur.length (cur.map (Value.int .u8)):=by rw [hcl2]; exact hco
   have HTU:=hide (turn_any wo B O M nb vars tab ts[k] v (.slice (some ⟨g,0,none⟩) ts.length lc) st cur (.slice sa st.length sc) gc cc hrow2 ((ku HMC).tk K (jy.none _) (by simp) (by decide) (by decide) (by decide)) hv3 ((rowAt_own (ku HS)).stay hst (fun k hk hm=>(ku HNE) (by rw [hk]; simpa using hm))) hco2 (ku HNE) hv (by omega) hsl c2 hc2)
   have HREST:=hide hrest
   have HLO:=hide hlo
   have HST:=hide hst
   have HRO:=hide hrow
   clear hc hrest hc2 hlo hco hco2 hst K hview hv3 ev hrow hrow2
   go_wp2_with fail
   refine (ku HTU).mono ?_
   rintro e w2 ⟨rfl,hc3,hst2⟩
   rw [hcl2] at hc3
   have hsz2:=hst2.size
   obtain ⟨p0',p1',p2',_⟩:=row3 (hst2.at (ku HRO) (by simpa using hOne))
   have hlo2:=owns_st (ku HLO) hst2 (fun k hk hm=>by
    injection hk with hk
    have : ga = k:=hk
    simp at hm
    omega)
   have HLW:=hide (lower_any w2 w.heap.size ga st.length kc least c2 (.slice (some ⟨gc,0,none⟩) cur0.length cc) hlo2 (rowAt_own (by rw [show c2.length = cur0.length by omega]; exact hc3)) (by omega) (by omega))
   have HC3:=hide hc3
   have HST2:=hide ((ku HST).trans hst2)
   clear hc3 hst2 hlo2 HTU p0 p1 p2
   go_wp2_with fail
   refine (ku HLW).mono ?_
   rintro e w3 ⟨rfl,hlo3,hst3⟩
   have HX1:=hide hlo3
   have HX2:=hide (owns_st (ku HC3) hst3 (fun k hk hm=>by
    injection hk with hk
    have : gc = k:=hk
    simp at hm
    omega))
   have HX3:=hide (show xg [gc] w w3 from (((ku HST2).wide (S':=[gc,ga]) (by simp)).trans (hst3.wide (S':=[gc,ga]) (by simp))).wide (fun k hk hl=>by
    simp at hk
    rcases hk with rfl | rfl
    ·simp
    ·omega))
   have hlw:=lowL_len (least:=least) (c:=c2) (by omega)
   clear hlo3 hst3 HLW
   go_wp2
   go_roundw
   case rel=>exact ⟨k + 1,lowL least c2,c2,by omega,by go_num,ku HREST,by omega,by omega,ku HX1,ku HX2,ku HX3⟩
   case measure=>simp [intOf]; omega
  ·have : k = ts.length:=by omega
   subst this
   rw [List.drop_length,leastO] at hrest
   injection hrest with hrest
   subst hrest
   have HX1:=hide hlo
   have HX2:=hide hco
   have HX3:=hide hst
   clear hlo hco hst
   go_wp2
   go_ret
   exact ⟨ga,kc,rfl,hga,ku HX1,ku HX2,ku HX3⟩
end Go.Proofs.YtpmcnonmkghokaaGreatDoor
namespace Go.Proofs.YtpmcnonmkghokaaGreatDoor
open Go.RowKit
theorem okKey_at {k : List Int} (h : okKey k = true) : ∀ x ∈ k,0≤x∧x≤255:=by
 intro x hx
 have:=List.all_eq_true.1 h x hx
 simpa using this
theorem ofNat_inj {a b : Int} (ha : 0≤a∧a≤255) (hb : 0≤b∧b≤255) (h : UInt8.ofNat a.toNat = UInt8.ofNat b.toNat) : a = b:=by
 have:=congrArg UInt8.toNat h
 simp only [UInt8.toNat_ofNat'] at this
 omega
theorem key_injL {a b : List Int} (ha : okKey a = true) (hb : okKey b = true) (h1 : (strOfNums a).data.toList = (strOfNums b).data.toList) : a = b:=by
 rw [strOfNums_data,strOfNums_data] at h1
 have h2:=okKey_at ha
 have h3:=okKey_at hb
 clear ha hb
 induction a generalizing b with
 | nil=>
  cases b with
  | nil=>rfl
  | cons y b=>simp at h1
 | cons x a ih=>
  cases b with
  | nil=>simp at h1
  | cons y b=>
   simp only [List.map_cons,List.cons.injEq] at h1
   rw [ofNat_inj (h2 x (by simp)) (h3 y (by simp)) h1.1,ih h1.2 (fun z hz=>h2 z (by simp [hz])) (fun z hz=>h3 z (by simp [hz]))]
theorem key_inj {a b : List Int} (ha : okKey a = true) (hb : okKey b = true) (h : strOfNums a = strOfNums b) : a = b:=key_injL ha hb (by rw [h])
theorem nodup_inj {α : Type} {l : List α} (h : l.Nodup) {i j : Nat} (hi : i < l.length) (hj : j < l.length) (e : l[i] = l[j]) : i = j:=by
 rcases Nat.lt_trichotomy i j with hlt | rfl | hlt
 ·exact absurd e (List.pairwise_iff_getElem.mp h i j hi hj hlt)
 ·rfl
 ·exact absurd e.symm (List.pairwise_iff_getElem.mp h j i hj hi hlt)
structure kz7 (w : World) (b : Nat) (ks : List (List Int)) (vs : List Value) : Prop where
 ents : ∃ es clock,w.heap[b]? = some (.map es clock)∧es.toList.map (fun e=>(e.key,e.val)) = (ks.zip vs).map (fun p=>(Value.string (strOfNums p.1),p.2))∧(es.toList.map (·.born)).Nodup∧∀ e ∈ es.toList,e.born < clock
 len : ks.length = vs.length
 nodup : ks.Nodup
 ok : ∀ k ∈ ks,okKey k = true∧k.length≤1000
theorem kz7.lt {w : World} {b : Nat} {ks : List (List Int)} {vs : List Value} (h : kz7 w b ks vs) : b < w.heap.size:=by
 obtain ⟨es,c,h1,_⟩:=h.ents
 exact lt_of_block h1
theorem kz7.stay {S : List Nat} {w w' : World} {b : Nat} {ks : List (List Int)} {vs : List Value} (h : kz7 w b ks vs) (hk : xg S w w') (hn : b ∉ S) : kz7 w' b ks vs:=by
 obtain ⟨es,c,h1,h2⟩:=h.ents
 exact ⟨⟨es,c,hk.at h1 hn,h2⟩,h.len,h.nodup,h.ok⟩
theorem key_of {k : List Int} (h : k.length≤1000) : keyOf Tryz.prog 9 (.string (strOfNums k)) = some (.string (strOfNums k).data.toList):=keyS (by rw [strOfNums_size]; exact h)
theorem kz7.ent {ks : List (List Int)} {vs : List Value} {es : Array MapEntry} (h2 : es.toList.map (fun e=>(e.key,e.val)) = (ks.zip vs).map (fun p=>(Value.string (strOfNums p.1),p.2))) (hl : ks.length = vs.length) (j : Nat) (hj : j < ks.length) :
  ∃ e,es.toList[j]? = some e∧e.key = .string (strOfNums ks[j])∧e.val = vs[j]:=by
 have h3 : (es.toList.map (fun e=>(e.key,e.val)))[j]? = some (.string (strOfNums ks[j]),vs[j]):=by
  rw [h2,List.getElem?_map,(List.getElem?_zip_eq_some (z:=(ks[j],vs[j]'(by omega)))).mpr ⟨List.getElem?_eq_getElem hj,List.getElem?_eq_getElem (by omega)⟩]; rfl
 rw [List.getElem?_map] at h3
 obtain ⟨e,h4,h5⟩:=Option.map_eq_some_iff.mp h3
 simp only [Prod.mk.injEq] at h5
 exact ⟨e,h4,h5.1,h5.2⟩
theorem kz7.back {ks : List (List Int)} {vs : List Value} {es : Array MapEntry} (h2 : es.toList.map (fun e=>(e.key,e.val)) = (ks.zip vs).map (fun p=>(Value.string (strOfNums p.1),p.2))) (hl : ks.length = vs.length) {j : Nat} {e : MapEntry} (he : es.toList[j]? = some e) :
  ∃ (hj : j < ks.length),e.key = .string (strOfNums ks[j])∧e.val = vs[j]:=by
 have h3 : es.toList.length = ks.length:=by have:=congrArg List.length h2; simp at this; simp; omega
 have hj : j < ks.length:=by
  rw [← h3]
  rcases Nat.lt_or_ge j es.toList.length with h | h
  ·exact h
  ·rw [List.getElem?_eq_none h] at he; cases he
 obtain ⟨e',h4,h5,h6⟩:=kz7.ent h2 hl j hj
 rw [he] at h4
 injection h4 with h4
 subst h4
 exact ⟨hj,h5,h6⟩
theorem kz7.allKeys {w : World} {b : Nat} {ks : List (List Int)} {vs : List Value} (h : kz7 w b ks vs) {es : Array MapEntry} (h2 : es.toList.map (fun e=>(e.key,e.val)) = (ks.zip vs).map (fun p=>(Value.string (strOfNums p.1),p.2))) : ∀ e ∈ es.toList,∃ l,keyOf Tryz.prog 9 e.key = some l:=fun e he=>by
 obtain ⟨j,hj,e1⟩:=List.getElem_of_mem he
 obtain ⟨hj',e2,_⟩:=kz7.back h2 h.len (j:=j) (e:=e) (by rw [List.getElem?_eq_getElem hj,e1])
 exact ⟨_,by rw [e2]; exact key_of (h.ok _ (List.getElem_mem hj')).2⟩
theorem kz7.findKey {w : World} {b : Nat} {ks : List (List Int)} {vs : List Value} (h : kz7 w b ks vs) {es : Array MapEntry} (h2 : es.toList.map (fun e=>(e.key,e.val)) = (ks.zip vs).map (fun p=>(Value.string (strOfNums p.1),p.2))) {k : List Int} (hk : okKey k = true) (hl : k.length≤1000) (w' : World) :
  (k ∉ ks∧(Instr.findKey 9 (.string (strOfNums k)) es.toList).run Tryz.prog w' = .ok none w')∨∃ j e,∃ (hj : j < ks.length),ks[j] = k∧es.toList[j]? = some e∧e.val = vs[j]'(by rw [← h.len]; exact hj)∧(Instr.findKey 9 (.string (strOfNums k)) es.toList).run Tryz.prog w' = .ok (some (j,e.val)) w':=by
 rcases keyed.find w' (key_of hl) es.toList (h.allKeys h2) with ⟨f1,f2⟩ | ⟨j,e0,f1,f2,f3⟩
 ·refine Or.inl ⟨fun hm=>?_,f1⟩
  obtain ⟨j,hj,e1⟩:=List.getElem_of_mem hm
  obtain ⟨e,h4,h5,_⟩:=kz7.ent h2 h.len j hj
  exact f2 e (List.mem_of_getElem? h4) (by rw [h5,e1])
 ·obtain ⟨hj,e1,e2⟩:=kz7.back h2 h.len f2
  rw [f3] at e1
  injection e1 with e1
  exact Or.inr ⟨j,e0,hj,(key_inj hk (h.ok _ (List.getElem_mem hj)).1 e1).symm,f2,e2,f1⟩
section
variable {w : World} {b : Nat} {ks : List (List Int)} {vs : List Value} {T E : Nat} {z : Value}
set_option maxRecDepth 10000 in
theorem mp_no (h : kz7 w b ks vs) (hT : Tryz.prog.underlying T = some (.map 9 E)) (hz : ∀ w,(zeroValue E).run Tryz.prog w = .ok z w) {k : List Int} (hk : okKey k = true) (hl : k.length≤1000) (hn : k ∉ ks) (c : Bool) : (Instr.lookup T (.map (some b)) (.string (strOfNums k)) c).run Tryz.prog w = .ok (if c then .tuple #[z,.bool false] else z) w:=by
 obtain ⟨es,cl,h1,h2,_⟩:=h.ents
 rcases h.findKey h2 hk hl w with ⟨_,f1⟩ | ⟨j,e,hj,e1,_⟩
 ·simp [Instr.lookup,run_underlying hT,MapKept.run_getObj_map h1,keyed.check w _ (key_of hl),f1,hz w,Result.andThen]
 ·exact absurd (by rw [← e1]; exact List.getElem_mem hj) hn
set_option maxRecDepth 10000 in
theorem mp_at (h : kz7 w b ks vs) (hT : Tryz.prog.underlying T = some (.map 9 E)) {j : Nat} (hj : j < ks.length) (hv : j < vs.length) (c : Bool) : (Instr.lookup T (.map (some b)) (.string (strOfNums ks[j])) c).run Tryz.prog w = .ok (if c then .tuple #[vs[j],.bool true] else vs[j]) w:=by
 obtain ⟨es,cl,h1,h2,_⟩:=h.ents
 have hok:=h.ok _ (List.getElem_mem hj)
 rcases h.findKey h2 hok.1 hok.2 w with ⟨hn,_⟩ | ⟨i,e,hi,e1,_,e2,f1⟩
 ·exact absurd (List.getElem_mem hj) hn
 ·have : i = j:=nodup_inj h.nodup hi hj e1
  subst this
  simp [Instr.lookup,run_underlying hT,MapKept.run_getObj_map h1,keyed.check w _ (key_of hok.2),f1,e2,Result.andThen]
theorem setBlock_stay (w : World) (b : Nat) (o : Obj) {es : Array MapEntry} {c : Nat} (h : w.heap[b]? = some (.map es c)) : xg [b] w (ChangeMaps.setBlock w b o):=
 ⟨rfl,rfl,rfl,by simp [ChangeMaps.setBlock],fun k _ hn=>ChangeMaps.heap_setBlock_other h _ (by simpa using hn)⟩
set_option maxRecDepth 10000 in
theorem mp_put (h : kz7 w b ks vs) (hT : Tryz.prog.underlying T = some (.map 9 E)) {k : List Int} (hk : okKey k = true) (hl : k.length≤1000) (hn : k ∉ ks) (v : Value) : ∃ w',(Instr.mapUpdate T (.map (some b)) (.string (strOfNums k)) v).run Tryz.prog w = .ok () w'∧kz7 w' b (ks ++ [k]) (vs ++ [v])∧xg [b] w w':=by
 obtain ⟨es,cl,h1,h2,h3,h4⟩:=h.ents
 rcases h.findKey h2 hk hl w with ⟨_,f1⟩ | ⟨j,e,hj,e1,_⟩
 ·refine ⟨ChangeMaps.setBlock w b (.map (es.push ⟨.string (strOfNums k),v,cl⟩) (cl + 1)),by simp [Instr.mapUpdate,run_underlying hT,MapKept.run_getObj_map h1,keyed.check w false (key_of hl),f1,MapKept.run_setObj_map _ h1,Result.andThen,ChangeMaps.setBlock],⟨⟨_,_,ChangeMaps.heap_setBlock_same h1 _,?_,?_,?_⟩,by simp [h.len],?_,?_⟩,setBlock_stay w b _ h1⟩
  ·rw [Array.toList_push,List.map_append,h2,List.zip_append h.len,List.map_append]; rfl
  ·rw [Array.toList_push,List.map_append,List.nodup_append]
   refine ⟨h3,by simp,fun a ha c hc=>?_⟩
   obtain ⟨e,he,rfl⟩:=List.mem_map.mp ha
   simp at hc
   have:=h4 e he
   omega
  ·intro e he
   rw [Array.toList_push,List.mem_append] at he
   rcases he with he | he
   ·have:=h4 e he; omega
   ·simp at he; subst he; simp
  ·rw [List.nodup_append]
   exact ⟨h.nodup,by simp,fun a ha c hc e=>by simp at hc; subst hc; exact hn (e ▸ ha)⟩
  ·intro x hx
   rcases List.mem_append.mp hx with hx | hx
   ·exact h.ok x hx
   ·simp at hx; subst hx; exact ⟨hk,hl⟩
 ·exact absurd (by rw [← e1]; exact List.getElem_mem hj) hn
end
end Go.Proofs.YtpmcnonmkghokaaGreatDoor

import Derived.Test.YtpmcnonmkghokaaGreatDoorT08
import Derived.BigRegion
import Derived.Deep.CutRange
set_option linter.unusedVariables false
set_option linter.unusedSimpArgs false
namespace Go.Proofs.YtpmcnonmkghokaaGreatDoor
open Go.RowKit
attribute [local go_sem ↓] Go.wp_at_zero Go.wp_at_succ
def small (x : Int) : Option Int:=if decide (-1000000000≤x) && decide (x≤1000000000) then some x else none
theorem small_of {x y : Int} (h : small x = some y) : y = x∧-1000000000≤x∧x≤1000000000:=by
 unfold small at h
 split at h
 ·rename_i hc
  simp at hc
  injection h with h
  exact ⟨h.symm,hc⟩
 ·cases h
theorem mv_field0 (v : MVar) (ta : Option Addr) (tc : Nat) (w : World) : (Instr.field 213 (.agg (kz0 v ta tc)) 0).run Tryz.prog w = .ok (.int .i64 v.first) w:=by kernel_rfl
def TextsAt (lo : Nat) (w : World) (v : MVar) (ta : Option Addr) (tc : Nat) : Prop:=
 w.ownsRow lo 9 1 (.slice ta v.texts.length tc) v.texts.length (v.texts.map Value.string)
set_option maxRecDepth 100000 in
set_option maxHeartbeats 2000000 in
theorem mvariable_any (w : World) (lo R M nb : Nat) (vars : List MVar) (tab : uq) (l : List PP) (ms st : List Int) (sv : Value) (b : Bool) (n : Tok) (h : Rn lo w R M nb vars tab l ms st sv b) (hs : n.text.size≤1000) (v : MVar) (hgi : vars[(kjm tab n.text.toList).num]? = some v) (hv : vars.length≤1000) :
  Calls Tryz.prog 233 #[.pointer (some ⟨R,0,none⟩),ptV n] w fun e w'=>∃ ta tc,e = .returned (.agg (kz0 v ta tc))∧TextsAt lo w v ta tc∧Below w.heap.size w w':=by
 obtain ⟨hi,rfl⟩:=List.getElem?_eq_some_iff.mp hgi
 clear hgi
 obtain ⟨W,hW⟩ : ∃ W,W = (w.alloc (.cells #[.string n.text,.int .i64 n.at_] 107)).alloc (.cells #[.int .i64 0,.int .i64 0,.slice none 0 0,.int .i64 0,.int .i64 0] 213):=⟨_,rfl⟩
 have hbW : Below w.heap.size w W:=by rw [hW]; exact (below_alloc1 w _).trans ((below_alloc1 _ _).mono (by simp))
 have hsW : w.heap.size + 1 < W.heap.size:=by rw [hW]; simp
 have hnm : W.heap[w.heap.size]? = some (.cells #[.string n.text,.int .i64 n.at_] 107 (0,0)):=by rw [hW]; exact ql (qg _ _)
 have hv0 : W.heap[w.heap.size + 1]? = some (.cells #[.int .i64 0,.int .i64 0,.slice none 0 0,.int .i64 0,.int .i64 0] 213 (0,0)):=by
  rw [hW]
  have:=qg (w.alloc (.cells #[.string n.text,.int .i64 n.at_] 107)) (.cells #[.int .i64 0,.int .i64 0,.slice none 0 0,.int .i64 0,.int .i64 0] 213)
  simp only [World.size_alloc] at this
  exact this
 obtain ⟨⟨tx,pa,pn,pc,ma,mn,mc,hR,_,_⟩,⟨⟨x0,x1,x2,va,vc,z,cs,hM,hO,hV⟩,hT⟩,_⟩:=h
 obtain ⟨ta,tc,hq,hown⟩:=mv_at _ hi hV
 obtain ⟨xa,cap,e1,hview⟩:=qm hO
 injection e1 with ea _ ec
 subst ea; subst ec
 obtain ⟨g,rfl,hg1,hg2,hc⟩:=hview _ hi
 have hRl:=lt_of_block hR
 have hMl:=lt_of_block hM
 have hl:=mlook_run (hT.stay (hbW.block nb hT.lt)) hs
 have hlD:=mlook_run (show kjp W.drew nb tab from (hT.stay (hbW.block nb hT.lt)).stay rfl) hs
 obtain ⟨_,r1,_⟩:=row6 ((hbW.block R hRl).trans hR)
 obtain ⟨_,_,_,m3,m4,_⟩:=row6 ((hbW.block M hMl).trans hM)
 obtain ⟨n0,n1,_⟩:=uw hnm
 obtain ⟨v0,v1,v2,v3,v4,f0,f1,f2,f3,f4⟩:=zh hv0
 have HOWN:=hide (show TextsAt lo w (vars[(kjm tab n.text.toList).num]) ta tc from hown)
 clear hown
 have hcl:=hV.len
 have cc : ∀ j,j < 5→W.cell? ⟨g,(kjm tab n.text.toList).num * 5 + j,none⟩ = cs[(kjm tab n.text.toList).num * 5 + j]?:=fun j hj=>(hbW.cell (p:=⟨g,_,none⟩) hg2).trans (hc _ (by omega))
 have c0:=(cc 0 (by omega)).trans hq.1
 have c1:=(cc 1 (by omega)).trans hq.2.1
 have c2:=(cc 2 (by omega)).trans hq.2.2.1
 have c3:=(cc 3 (by omega)).trans hq.2.2.2.1
 have c4:=(cc 4 (by omega)).trans hq.2.2.2.2
 rw [Nat.add_zero] at c0
 have hff:=mean_field1 (kjm tab n.text.toList)
 generalize kjm tab n.text.toList = q at *
 have HV0:=hide hv0
 have HBW:=hide hbW
 have HWE:=hide hW.symm
 have hgW : g < W.heap.size:=by omega
 have hRW : R < W.heap.size:=by omega
 have hMW : M < W.heap.size:=by omega
 generalize hvv : vars[q.num] = vv at *
 clear hvv hcl cc hq hc hview hV hO hT hM hR hnm hv0 hbW hW
 unfold ptV
 go_enter Tryz.func233,Tryz.ntmps233
 go_wp2_with fail
 rw [ku HWE]
 go_region
 go_wp2
 refine bodyPost_ret (v:=.agg (kz0 vv ta tc)) (results_cell_row Tryz.results233 _ _ (w.heap.size + 1) _ _ _ _ rfl (set5r (ku HV0) _ _ _ _ _) Tryz.underlying213 rfl (by kernel_rfl)) rfl ?_
 exact ⟨ta,tc,rfl,ku HOWN,((((((ku HBW).drew.setCell (show w.heap.size≤w.heap.size + 1 by omega) _).setCell (show w.heap.size≤w.heap.size + 1 by omega) _).setCell (show w.heap.size≤w.heap.size + 1 by omega) _).setCell (show w.heap.size≤w.heap.size + 1 by omega) _).setCell (show w.heap.size≤w.heap.size + 1 by omega) _)⟩
end Go.Proofs.YtpmcnonmkghokaaGreatDoor
namespace Go.Proofs.YtpmcnonmkghokaaGreatDoor
open Go.RowKit
theorem dw.nodup {w : World} {b : Nat} {t : Tab} (h : dw w b t) : (t.map (fun x=>x.1.toList)).Nodup:=h.2.1
theorem dw.lt {w : World} {b : Nat} {t : Tab} (h : dw w b t) : b < w.heap.size:=by
 obtain ⟨⟨es,c,h1,h2⟩,h3⟩:=h
 by_cases hl : b < w.heap.size
 ·exact hl
 ·rw [Array.getElem?_eq_none (by omega)] at h1; cases h1
theorem dw.other {w : World} {b : Nat} {t : Tab} (h : dw w b t) {p : Addr} (hp : b≠p.block) (u : Value) : dw (w.setCell p u) b t:=by
 obtain ⟨⟨es,c,h1,h2⟩,h3⟩:=h
 exact ⟨⟨es,c,by rw [Below.heap_setCell _ _ _ _ hp]; exact h1,h2⟩,h3⟩
set_option maxRecDepth 100000 in
set_option maxHeartbeats 2000000 in
theorem give_any (w : World) (b : Nat) (t : Tab) (n : Tok) (e : Ent) (h : dw w b t) (ht : TabOk t) (hs : n.text.size≤1000) :
  Calls Tryz.prog 156 #[.map (some b),ptV n,entV e] w fun r w'=>r = .returned (.tuple #[])∧dw w' b (giveT t n e)∧Kept b w w':=by
 have hlt:=h.lt
 obtain ⟨W,hW⟩ : ∃ W,W = (w.alloc (.cells #[.string n.text,.int .i64 n.at_] 107)).alloc (.cells (entCells e).toArray 294):=⟨_,rfl⟩
 have hbW : Below w.heap.size w W:=by rw [hW]; exact (below_alloc1 w _).trans ((below_alloc1 _ _).mono (by simp))
 have hM:=h.kept hbW
 have HMP:=hide (h.kept ((below_alloc1 w (.cells #[.string n.text,.int .i64 n.at_] 107)).trans ((below_alloc1 _ (.cells (entCells { e with place:=n.at_ }).toArray 294)).mono (by simp))))
 have hl:=kz4 hM hs
 have hf:=ent_field0 (zf t n.text.toList)
 have E:=hide (show giveT t n e = if (zf t n.text.toList).role == 0 then t ++ [(n.text,{ e with place:=n.at_ })] else t from rfl)
 have HM:=hide hM
 have HBW:=hide hbW
 have HZ:=hide (look_zero ht h.nodup (s:=n.text.toList))
 generalize hent : zf t n.text.toList = q at *
 have hkW : Kept b w W:=.of_below hbW
 have HKW:=hide hkW
 rw [hW] at hl
 clear hent h ht hbW hkW hM
 unfold ptV entV entCells yg at *
 simp only [List.cons_append,List.nil_append] at *
 cases hr : (q.role == 0)
 ·rw [hr] at E
  simp only [Bool.false_eq_true,if_false] at E
  go_enter Tryz.func156,Tryz.ntmps156
  go_wp2
  go_end0
  rw [ku E,← hW]
  exact ⟨rfl,ku HM,ku HKW⟩
 ·rw [hr] at E
  simp only [if_true] at E
  rw [beq_iff_eq] at hr
  have hno:=(ku HZ) hr
  have hq : (q.role == 0) = true:=by rw [beq_iff_eq]; exact hr
  clear hr
  obtain ⟨w',hrun,hm2,hk2⟩:=put_run (e:={ e with place:=n.at_ }) (ku HMP) hs hno
  unfold entV entCells yg at hrun
  simp only [List.cons_append,List.nil_append] at hrun
  have HM2:=hide hm2
  have HK2:=hide ((((Kept.refl b w).alloc _).alloc _).trans hk2)
  clear hm2 hk2 hno HM hW
  go_enter Tryz.func156,Tryz.ntmps156
  go_wp2
  go_end0
  rw [ku E]
  exact ⟨rfl,ku HM2,ku HK2⟩
def bE : ByteArray:=⟨#[]⟩
def gS (t : Tab) (s : PSet) : Tab:=giveT t s.name ⟨1,0,bE,noVar⟩
def gM (kn : ByteArray) (t : Tab) (m : Tok) : Tab:=giveT t m ⟨3,0,kn,noVar⟩
def gK (t : Tab) (k : PKind) : Tab:=k.members.foldl (gM k.name.text) (giveT t k.name ⟨2,0,bE,noVar⟩)
def gV (t : Tab) (v : VrT) : Tab:=giveT t v.name ⟨4,0,bE,v⟩
def gR (t : Tab) (r : PRule) : Tab:=giveT t r.name ⟨5,0,bE,noVar⟩
def gN (t : Tab) (r : PRule) : Tab:=giveT t r.name ⟨6,0,bE,noVar⟩
def gt1 (m : MdL) : Tab:=m.sets.foldl gS []
def gt2 (m : MdL) : Tab:=m.kinds.foldl gK (gt1 m)
def gt3 (m : MdL) : Tab:=m.vars.foldl gV (gt2 m)
def gt4 (m : MdL) : Tab:=m.rules.foldl gR (gt3 m)
def kqf (m : MdL) : Tab:=m.nevers.foldl gN (gt4 m)
structure MdSz (m : MdL) : Prop where
 sets : ∀ s ∈ m.sets,s.name.text.size≤1000
 kinds : ∀ k ∈ m.kinds,k.name.text.size≤1000∧∀ x ∈ k.members,x.text.size≤1000
 vars : ∀ v ∈ m.vars,v.name.text.size≤1000
 rules : ∀ r ∈ m.rules,r.name.text.size≤1000
 nevers : ∀ r ∈ m.nevers,r.name.text.size≤1000
def TRel {α : Type} (W : World) (b : Nat) (g : Tab→α→Tab) (items : List α) (t0 : Tab) (i : Value) (wr : World) : Prop:=
 ∃ (k : Nat) (t : Tab),k≤items.length∧i = .int .i64 k∧(items.drop k).foldl g t = items.foldl g t0∧TabOk t∧dw wr b t∧Kept b W wr
theorem TRel.start {α : Type} {W wr : World} {b : Nat} {g : Tab→α→Tab} {items : List α} {t : Tab} (ho : TabOk t) (hf : dw wr b t) (hk : Kept b W wr) : TRel W b g items t (.int .i64 0) wr:=
 ⟨0,t,Nat.zero_le _,rfl,rfl,ho,hf,hk⟩
theorem TRel.next {α : Type} {W wr : World} {b : Nat} {g : Tab→α→Tab} {items : List α} {t0 t : Tab} {k : Nat} (hk : k < items.length) (h : (items.drop k).foldl g t = items.foldl g t0) (ho : TabOk (g t items[k])) (hf : dw wr b (g t items[k])) (hw : Kept b W wr) :
  TRel W b g items t0 (.int .i64 ((k : Int) + 1)) wr:=by
 refine ⟨k + 1,_,hk,by go_num,?_,ho,hf,hw⟩
 rw [List.drop_eq_getElem_cons hk,List.foldl_cons] at h
 exact h
theorem tab_done {α : Type} {g : Tab→α→Tab} {items : List α} {t0 t : Tab} {k : Nat} (hk : ¬ k < items.length) (h : (items.drop k).foldl g t = items.foldl g t0) : t = items.foldl g t0:=by
 rw [List.drop_of_length_le (by omega),List.foldl_nil] at h; exact h
theorem give_zero (w : World) (b : Nat) (t : Tab) (n : Tok) (r : Int) (kn : ByteArray) (h : dw w b t) (ht : TabOk t) (hs : n.text.size≤1000) :
  Calls Tryz.prog 156 #[.map (some b),.agg #[.string n.text,.int .i64 n.at_],.agg #[.int .i64 r,.int .i64 0,.string kn,.string ⟨#[]⟩,.int .i64 0,.bool false,.string ⟨#[]⟩,.int .i64 0,.int .i64 0,.int .i64 0,.int .i64 0,.string ⟨#[]⟩,.int .i64 0]] w fun e w'=>e = .returned (.tuple #[])∧dw w' b (giveT t n ⟨r,0,kn,noVar⟩)∧Kept b w w':=
 give_any w b t n ⟨r,0,kn,noVar⟩ h ht hs
theorem give_var (w : World) (b : Nat) (t : Tab) (n : Tok) (r : Int) (x : VrT) (h : dw w b t) (ht : TabOk t) (hs : n.text.size≤1000) :
  Calls Tryz.prog 156 #[.map (some b),.agg #[.string n.text,.int .i64 n.at_],.agg #[.int .i64 r,.int .i64 0,.string ⟨#[]⟩,.string x.name.text,.int .i64 x.name.at_,.bool x.arr,.string x.over.text,.int .i64 x.over.at_,.int .i64 x.si.form,.int .i64 (yu x.si.top.text),.int .i64 x.si.top.at_,.string x.si.name.text,.int .i64 x.si.name.at_]] w fun e w'=>e = .returned (.tuple #[])∧dw w' b (giveT t n ⟨r,0,bE,x⟩)∧Kept b w w':=
 give_any w b t n ⟨r,0,bE,x⟩ h ht hs
set_option maxRecDepth 100000 in
set_option maxHeartbeats 8000000 in
theorem gather_any (w : World) (lo : Nat) (x0 x1 x2 x3 x4 : Value) (m : MdL) (h : MdIs lo w x0 x1 x2 x3 x4 m) (hok : MdOk m) (hszz : MdSz m) :
  Calls Tryz.prog 92 #[.agg #[x0,x1,x2,x3,x4]] w fun e w'=>∃ b,e = .returned (.map (some b))∧dw w' b (kqf m)∧TabOk (kqf m)∧w.heap.size≤b∧Below w.heap.size w w':=by
 obtain ⟨h0,⟨c1,h1,k1⟩,h2,⟨c3,h3,k3⟩,⟨c4,h4,k4⟩⟩:=h
 obtain ⟨hok0,hok1,hok2,hok3,hok4,hok5,hok6⟩:=hok
 have hok : MdOk m:=⟨hok0,hok1,hok2,hok3,hok4,hok5,hok6⟩
 obtain ⟨W,hW⟩ : ∃ W,W = (w.alloc (.cells #[x0,x1,x2,x3,x4] 68)).alloc (.map #[] 0):=⟨_,rfl⟩
 have hbW : Below w.heap.size w W:=by
  rw [hW]
  exact (below_alloc1 w _).trans ((below_alloc1 _ _).mono (by simp))
 have hsW : W.heap.size = w.heap.size + 2:=by rw [hW]; simp
 obtain ⟨b,hB⟩ : ∃ b,b = w.heap.size + 1:=⟨_,rfl⟩
 have HWE:=hide hW.symm
 have HBX:=hide (show W.heap[w.heap.size]? = some (.cells #[x0,x1,x2,x3,x4] 68 (0,0)) by rw [hW]; exact ql (qg _ _))
 have HMW:=hide (show dw W b [] by
  rw [hW,hB]
  have:=qg (w.alloc (.cells #[x0,x1,x2,x3,x4] 68)) (.map #[] 0)
  simp only [World.size_alloc] at this
  exact ⟨⟨#[],0,this,rfl⟩,List.nodup_nil,fun x hx=>by simp at hx⟩)
 have vw : ∀ {e size : Nat} {v : Value} {n : Nat} {xs : List Value},w.ownsRow lo e size v n xs→∃ a cap,v = .slice a n cap∧∀ i,i < n→∃ g,a = some ⟨g,0,none⟩∧lo≤g∧g < w.heap.size∧∀ j,j < n * size→W.cell? ⟨g,j,none⟩ = xs[j]?:=by
  intro e size v n xs h
  obtain ⟨a,cap,e1,hv⟩:=qm h
  refine ⟨a,cap,e1,fun i hi=>?_⟩
  obtain ⟨g,q1,q2,q3,q4⟩:=hv i hi
  exact ⟨g,q1,q2,q3,fun j hj=>(hbW.cell (p:=⟨g,j,none⟩) q3).trans (q4 j hj)⟩
 obtain ⟨a0,cp0,rfl,v0⟩:=vw h0
 obtain ⟨a1,cp1,rfl,v1⟩:=vw h1
 obtain ⟨a2,cp2,rfl,v2⟩:=vw h2
 obtain ⟨a3,cp3,rfl,v3⟩:=vw h3
 obtain ⟨a4,cp4,rfl,v4⟩:=vw h4
 have HW0:=hide v0
 have HW1:=hide v1
 have HW2:=hide v2
 have HW3:=hide v3
 have HW4:=hide v4
 have HC1:=hide k1
 have HC3:=hide k3
 have HC4:=hide k4
 have HBW:=hide hbW
 have HBE:=hide hB
 have hB1 : w.heap.size < b:=by omega
 have hB2 : b < W.heap.size:=by omega
 clear h0 h1 h2 h3 h4 k1 k3 k4 v0 v1 v2 v3 v4 vw hsW hB hW hbW hok5 hok6
 have HR0:=hide (show TRel W b gS m.sets [] (.int .i64 0) W from TRel.start (fun x hx=>by simp at hx) (ku HMW) (Kept.refl _ _))
 have hmk : ∀ W : World,(Instr.makeMap 202 none).run Tryz.prog W = .ok (.map (some W.heap.size)) (W.alloc (.map #[] 0)):=fun W=>rfl
 go_enter Tryz.func92,Tryz.ntmps92
 go_wp2_with fail
 clear hmk
 rw [ku HWE,← ku HBE]
 go_loopw [5,20] (fun _ i wr=>TRel W b gS m.sets [] i wr) (fun _ i _=>m.sets.length - (intOf i).toNat)
 case atStart=>exact ku HR0
 case round=>
  obtain ⟨k,t,hk,rfl,hfo,hto,hmp,hkp⟩:=hrel
  have HFO:=hide hfo
  have HTO:=hide hto
  have HMP:=hide hmp
  have HK:=hide hkp
  have hsz:=hkp.size
  clear hfo hto hmp HR0
  by_cases hlt : k < m.sets.length
  ·obtain ⟨g,rfl,hg1,hg2,hc⟩:=ku HW0 k hlt
   have hgB : g≠b:=by omega
   have fl:=fun j (hj : j < 4)=>kqy stC1 4 (fun _=>rfl) m.sets k j hlt hj
   have e0:=hkp.cell (a:=⟨g,k * 4 + 0,none⟩) hgB ((hc (k * 4 + 0) (by omega)).trans (fl 0 (by omega)))
   have e1:=hkp.cell (a:=⟨g,k * 4 + 1,none⟩) hgB ((hc (k * 4 + 1) (by omega)).trans (fl 1 (by omega)))
   have e2:=hkp.cell (a:=⟨g,k * 4 + 2,none⟩) hgB ((hc (k * 4 + 2) (by omega)).trans (fl 2 (by omega)))
   have e3:=hkp.cell (a:=⟨g,k * 4 + 3,none⟩) hgB ((hc (k * 4 + 3) (by omega)).trans (fl 3 (by omega)))
   simp only [stC1,List.getElem?_cons_zero,List.getElem?_cons_succ,Nat.add_zero] at e0 e1 e2 e3
   have HNX:=hide (fun (w' : World) (ho : TabOk (gS t (m.sets[k]))) (hf : dw w' b (gS t (m.sets[k]))) (hw : Kept b W w')=>TRel.next (W:=W) (wr:=w') (b:=b) (g:=gS) (items:=m.sets) (t0:=[]) (t:=t) hlt (ku HFO) ho hf hw)
   have hns:=hszz.sets _ (List.getElem_mem hlt)
   generalize m.sets[k] = p at e0 e1 e2 e3 HNX hns
   clear hc fl hkp HFO
   go_wp2_with fail
   refine (give_zero _ b t p.name 1 ⟨#[]⟩ ((ku HMP).kept (below_alloc1 _ _)) (ku HTO) hns).mono ?_
   rintro e w1 ⟨rfl,h1,hk1⟩
   have HN:=hide (ku HNX _ (giveT_ok (ku HTO) (by simp)) h1 (((ku HK).alloc _).trans hk1))
   clear h1 hk1 HNX e0 e1 e2 e3
   go_wp2
   go_roundw
   case rel=>exact ku HN
   case measure=>simp [intOf]; omega
  ·have hd:=tab_done hlt (ku HFO)
   rw [hd] at HMP HTO
   have hbx:=hkp.row (b:=w.heap.size) (by omega) (ku HBX)
   obtain ⟨_,qx,_,_,_,_⟩:=zh hbx
   have HR1:=hide (show TRel W b gK m.kinds (gt1 m) (.int .i64 0) wr from TRel.start (ku HTO) (ku HMP) (ku HK))
   clear hd hbx hkp HMP HTO HK HFO
   go_wp2_with fail
   go_loopw [7,9,33] (fun _ _ i wr=>TRel W b gK m.kinds (gt1 m) i wr) (fun _ _ i _=>m.kinds.length - (intOf i).toNat)
   case atStart=>exact ku HR1
   case round=>
    obtain ⟨k,t,hk,rfl,hfo,hto,hmp,hkp⟩:=hrel
    have HFO:=hide hfo
    have HTO:=hide hto
    have HMP:=hide hmp
    have HK:=hide hkp
    have hsz:=hkp.size
    clear hfo hto hmp HR1
    by_cases hlt : k < m.kinds.length
    ·obtain ⟨g,rfl,hg1,hg2,hc⟩:=ku HW1 k hlt
     have hgB : g≠b:=by omega
     obtain ⟨ma,mn,mc,fl0,fl1,fl2,hm⟩:=kd_at k hlt (ku HC1)
     have e0:=hkp.cell (a:=⟨g,k * 3,none⟩) hgB ((hc (k * 3) (by omega)).trans fl0)
     have e1:=hkp.cell (a:=⟨g,k * 3 + 1,none⟩) hgB ((hc (k * 3 + 1) (by omega)).trans fl1)
     have e2:=hkp.cell (a:=⟨g,k * 3 + 2,none⟩) hgB ((hc (k * 3 + 2) (by omega)).trans fl2)
     have HNX:=hide (fun (w' : World) (ho : TabOk (gK t (m.kinds[k]))) (hf : dw w' b (gK t (m.kinds[k]))) (hw : Kept b W w')=>TRel.next (W:=W) (wr:=w') (b:=b) (g:=gK) (items:=m.kinds) (t0:=(gt1 m)) (t:=t) hlt (ku HFO) ho hf hw)
     have hns:=hszz.kinds _ (List.getElem_mem hlt)
     have hml:=hok.members _ (List.getElem_mem hlt)
     have HM:=hide hm
     generalize m.kinds[k] = p at e0 e1 e2 HNX hns HM hml
     clear hc fl0 fl1 fl2 hm hkp HFO
     go_wp2_with fail
     refine (give_zero _ b t p.name 2 ⟨#[]⟩ ((ku HMP).kept (below_alloc1 _ _)) (ku HTO) hns.1).mono ?_
     rintro e w1 ⟨rfl,h1,hk1⟩
     have hv1:=hk1.row (b:=wr.heap.size) (by omega) (qg _ _)
     have HK1:=hide (((ku HK).alloc _).trans hk1)
     have hz1:=(ku HK1).size
     have hvl:=lt_of_block hv1
     have HT1:=hide (giveT_ok (t:=t) (ku HTO) (n:=p.name) (e:=⟨2,0,bE,noVar⟩) (by simp))
     obtain ⟨_,_,g2,_⟩:=row3 hv1
     have HV1:=hide hv1
     obtain ⟨mb,mcap,hmeq,hmv⟩:=qm (ku HM)
     injection hmeq with q1 q2 q3
     subst q1; subst q2; subst q3
     have HMV:=hide hmv
     have HRI:=hide (show TRel w1 b (gM p.name.text) p.members (giveT t p.name ⟨2,0,bE,noVar⟩) (.int .i64 0) w1 from TRel.start (ku HT1) h1 (Kept.refl _ _))
     clear hmv h1 hk1 hv1 e0 e1 e2
     go_wp2_with fail
     go_loopw [9,45] (fun _ i wr=>TRel w1 b (gM p.name.text) p.members (giveT t p.name ⟨2,0,bE,noVar⟩) i wr) (fun _ i _=>p.members.length - (intOf i).toNat)
     case atStart=>exact ku HRI
     case round=>
      obtain ⟨k5,t5,hk5,rfl,hfo5,hto5,hmp5,hkp5⟩:=hrel
      have HFO5:=hide hfo5
      have HTO5:=hide hto5
      have HMP5:=hide hmp5
      have HK5:=hide hkp5
      have hsz5:=hkp5.size
      clear hfo5 hto5 hmp5 HRI
      by_cases hlt5 : k5 < p.members.length
      ·obtain ⟨g5,rfl,hg51,hg52,hc5⟩:=ku HMV k5 hlt5
       have hgB5 : g5≠b:=by omega
       have fl:=fun j (hj : j < 2)=>kqy yx 2 (fun _=>rfl) p.members k5 j hlt5 hj
       have e0:=hkp5.cell (a:=⟨g5,k5 * 2 + 0,none⟩) hgB5 ((ku HK1).cell hgB5 (((ku HBW).cell (p:=⟨g5,k5 * 2 + 0,none⟩) hg52).trans ((hc5 (k5 * 2 + 0) (by omega)).trans (fl 0 (by omega)))))
       have e1:=hkp5.cell (a:=⟨g5,k5 * 2 + 1,none⟩) hgB5 ((ku HK1).cell hgB5 (((ku HBW).cell (p:=⟨g5,k5 * 2 + 1,none⟩) hg52).trans ((hc5 (k5 * 2 + 1) (by omega)).trans (fl 1 (by omega)))))
       simp only [yx,List.getElem?_cons_zero,List.getElem?_cons_succ,Nat.add_zero] at e0 e1
       have hv5:=hkp5.row (by omega) (ku HV1)
       obtain ⟨v0,_⟩:=row3 hv5
       have hvl5:=lt_of_block hv5
       have hvn5:=Nat.ne_of_lt hvl5
       have hns5:=hns.2 _ (List.getElem_mem hlt5)
       have HNX5:=hide (fun (w' : World) (ho : TabOk (gM p.name.text t5 (p.members[k5]))) (hf : dw w' b (gM p.name.text t5 (p.members[k5]))) (hw : Kept b w1 w')=>TRel.next (W:=w1) (wr:=w') (b:=b) (g:=gM p.name.text) (items:=p.members) (t0:=giveT t p.name ⟨2,0,bE,noVar⟩) (t:=t5) hlt5 (ku HFO5) ho hf hw)
       generalize p.members[k5] = y5 at e0 e1 HNX5 hns5
       clear hc5 fl hkp5 HFO5 hv5
       go_wp2_with fail
       refine (give_zero _ b t5 y5 3 p.name.text ((ku HMP5).kept (below_alloc1 _ _)) (ku HTO5) hns5).mono ?_
       rintro e w6 ⟨rfl,h6,hk6⟩
       have HN:=hide (ku HNX5 _ (giveT_ok (ku HTO5) (by simp)) h6 (((ku HK5).alloc _).trans hk6))
       clear h6 hk6 HNX5
       go_wp2
       go_roundw
       case rel=>exact ku HN
       case measure=>simp [intOf]; omega
      ·have hd5:=tab_done hlt5 (ku HFO5)
       rw [hd5] at HMP5 HTO5
       have HN:=hide (ku HNX _ (ku HTO5) (ku HMP5) ((ku HK1).trans (ku HK5)))
       clear hd5 HNX
       go_wp2
       go_roundw
       case rel=>exact ku HN
       case measure=>simp [intOf]; omega
    ·have hd:=tab_done hlt (ku HFO)
     rw [hd] at HMP HTO
     have hbx:=hkp.row (b:=w.heap.size) (by omega) (ku HBX)
     obtain ⟨_,_,qx,_,_,_⟩:=zh hbx
     have HR2:=hide (show TRel W b gV m.vars (gt2 m) (.int .i64 0) wr from TRel.start (ku HTO) (ku HMP) (ku HK))
     clear hd hbx hkp HMP HTO HK HFO
     go_wp2_with fail
     go_loopw [11,61] (fun _ i wr=>TRel W b gV m.vars (gt2 m) i wr) (fun _ i _=>m.vars.length - (intOf i).toNat)
     case atStart=>exact ku HR2
     case round=>
      obtain ⟨k,t,hk,rfl,hfo,hto,hmp,hkp⟩:=hrel
      have HFO:=hide hfo
      have HTO:=hide hto
      have HMP:=hide hmp
      have HK:=hide hkp
      have hsz:=hkp.size
      clear hfo hto hmp HR2
      by_cases hlt : k < m.vars.length
      ·obtain ⟨g,rfl,hg1,hg2,hc⟩:=ku HW2 k hlt
       have hgB : g≠b:=by omega
       have fl:=fun j (hj : j < 10)=>kqy yg 10 (fun _=>rfl) m.vars k j hlt hj
       have e0:=hkp.cell (a:=⟨g,k * 10 + 0,none⟩) hgB ((hc (k * 10 + 0) (by omega)).trans (fl 0 (by omega)))
       have e1:=hkp.cell (a:=⟨g,k * 10 + 1,none⟩) hgB ((hc (k * 10 + 1) (by omega)).trans (fl 1 (by omega)))
       have e2:=hkp.cell (a:=⟨g,k * 10 + 2,none⟩) hgB ((hc (k * 10 + 2) (by omega)).trans (fl 2 (by omega)))
       have e3:=hkp.cell (a:=⟨g,k * 10 + 3,none⟩) hgB ((hc (k * 10 + 3) (by omega)).trans (fl 3 (by omega)))
       have e4:=hkp.cell (a:=⟨g,k * 10 + 4,none⟩) hgB ((hc (k * 10 + 4) (by omega)).trans (fl 4 (by omega)))
       have e5:=hkp.cell (a:=⟨g,k * 10 + 5,none⟩) hgB ((hc (k * 10 + 5) (by omega)).trans (fl 5 (by omega)))
       have e6:=hkp.cell (a:=⟨g,k * 10 + 6,none⟩) hgB ((hc (k * 10 + 6) (by omega)).trans (fl 6 (by omega)))
       have e7:=hkp.cell (a:=⟨g,k * 10 + 7,none⟩) hgB ((hc (k * 10 + 7) (by omega)).trans (fl 7 (by omega)))
       have e8:=hkp.cell (a:=⟨g,k * 10 + 8,none⟩) hgB ((hc (k * 10 + 8) (by omega)).trans (fl 8 (by omega)))
       have e9:=hkp.cell (a:=⟨g,k * 10 + 9,none⟩) hgB ((hc (k * 10 + 9) (by omega)).trans (fl 9 (by omega)))
       simp only [yg,List.getElem?_cons_zero,List.getElem?_cons_succ,Nat.add_zero] at e0 e1 e2 e3 e4 e5 e6 e7 e8 e9
       have HNX:=hide (fun (w' : World) (ho : TabOk (gV t (m.vars[k]))) (hf : dw w' b (gV t (m.vars[k]))) (hw : Kept b W w')=>TRel.next (W:=W) (wr:=w') (b:=b) (g:=gV) (items:=m.vars) (t0:=(gt2 m)) (t:=t) hlt (ku HFO) ho hf hw)
       have hns:=hszz.vars _ (List.getElem_mem hlt)
       generalize m.vars[k] = p at e0 e1 e2 e3 e4 e5 e6 e7 e8 e9 HNX hns
       clear hc fl hkp HFO
       go_wp2_with fail
       refine (give_var _ b t p.name 4 p ((ku HMP).kept (below_alloc1 _ _)) (ku HTO) hns).mono ?_
       rintro e w1 ⟨rfl,h1,hk1⟩
       have HN:=hide (ku HNX _ (giveT_ok (ku HTO) (by simp)) h1 (((ku HK).alloc _).trans hk1))
       clear h1 hk1 HNX e0 e1 e2 e3 e4 e5 e6 e7 e8 e9
       go_wp2
       go_roundw
       case rel=>exact ku HN
       case measure=>simp [intOf]; omega
      ·have hd:=tab_done hlt (ku HFO)
       rw [hd] at HMP HTO
       have hbx:=hkp.row (b:=w.heap.size) (by omega) (ku HBX)
       obtain ⟨_,_,_,qx,_,_⟩:=zh hbx
       have HR3:=hide (show TRel W b gR m.rules (gt3 m) (.int .i64 0) wr from TRel.start (ku HTO) (ku HMP) (ku HK))
       clear hd hbx hkp HMP HTO HK HFO
       go_wp2_with fail
       go_loopw [13,75] (fun _ i wr=>TRel W b gR m.rules (gt3 m) i wr) (fun _ i _=>m.rules.length - (intOf i).toNat)
       case atStart=>exact ku HR3
       case round=>
        obtain ⟨k,t,hk,rfl,hfo,hto,hmp,hkp⟩:=hrel
        have HFO:=hide hfo
        have HTO:=hide hto
        have HMP:=hide hmp
        have HK:=hide hkp
        have hsz:=hkp.size
        clear hfo hto hmp HR3
        by_cases hlt : k < m.rules.length
        ·obtain ⟨g,rfl,hg1,hg2,hc⟩:=ku HW3 k hlt
         have hgB : g≠b:=by omega
         obtain ⟨pa,pn,pc,gp,ba,bn,bc,bcs,⟨fl0,fl1,fl2,fl3,fl4⟩,_⟩:=ru_at k hlt (ku HC3)
         have e0:=hkp.cell (a:=⟨g,k * 5,none⟩) hgB ((hc (k * 5) (by omega)).trans fl0)
         have e1:=hkp.cell (a:=⟨g,k * 5 + 1,none⟩) hgB ((hc (k * 5 + 1) (by omega)).trans fl1)
         have e2:=hkp.cell (a:=⟨g,k * 5 + 2,none⟩) hgB ((hc (k * 5 + 2) (by omega)).trans fl2)
         have e3:=hkp.cell (a:=⟨g,k * 5 + 3,none⟩) hgB ((hc (k * 5 + 3) (by omega)).trans fl3)
         have e4:=hkp.cell (a:=⟨g,k * 5 + 4,none⟩) hgB ((hc (k * 5 + 4) (by omega)).trans fl4)
         have HNX:=hide (fun (w' : World) (ho : TabOk (gR t (m.rules[k]))) (hf : dw w' b (gR t (m.rules[k]))) (hw : Kept b W w')=>TRel.next (W:=W) (wr:=w') (b:=b) (g:=gR) (items:=m.rules) (t0:=(gt3 m)) (t:=t) hlt (ku HFO) ho hf hw)
         have hns:=hszz.rules _ (List.getElem_mem hlt)
         generalize m.rules[k] = p at e0 e1 e2 e3 e4 HNX hns
         clear hc fl0 fl1 fl2 fl3 fl4 hkp HFO
         go_wp2_with fail
         refine (give_zero _ b t p.name 5 ⟨#[]⟩ ((ku HMP).kept (below_alloc1 _ _)) (ku HTO) hns).mono ?_
         rintro e w1 ⟨rfl,h1,hk1⟩
         have HN:=hide (ku HNX _ (giveT_ok (ku HTO) (by simp)) h1 (((ku HK).alloc _).trans hk1))
         clear h1 hk1 HNX e0 e1 e2 e3 e4
         go_wp2
         go_roundw
         case rel=>exact ku HN
         case measure=>simp [intOf]; omega
        ·have hd:=tab_done hlt (ku HFO)
         rw [hd] at HMP HTO
         have hbx:=hkp.row (b:=w.heap.size) (by omega) (ku HBX)
         obtain ⟨_,_,_,_,qx,_⟩:=zh hbx
         have HR4:=hide (show TRel W b gN m.nevers (gt4 m) (.int .i64 0) wr from TRel.start (ku HTO) (ku HMP) (ku HK))
         clear hd hbx hkp HMP HTO HK HFO
         go_wp2_with fail
         go_loopw [15,88] (fun _ i wr=>TRel W b gN m.nevers (gt4 m) i wr) (fun _ i _=>m.nevers.length - (intOf i).toNat)
         case atStart=>exact ku HR4
         case round=>
          obtain ⟨k,t,hk,rfl,hfo,hto,hmp,hkp⟩:=hrel
          have HFO:=hide hfo
          have HTO:=hide hto
          have HMP:=hide hmp
          have HK:=hide hkp
          have hsz:=hkp.size
          clear hfo hto hmp HR4
          by_cases hlt : k < m.nevers.length
          ·obtain ⟨g,rfl,hg1,hg2,hc⟩:=ku HW4 k hlt
           have hgB : g≠b:=by omega
           obtain ⟨pa,pn,pc,gp,⟨fl0,fl1,fl2,fl3⟩,_⟩:=nv_at k hlt (ku HC4)
           have e0:=hkp.cell (a:=⟨g,k * 4,none⟩) hgB ((hc (k * 4) (by omega)).trans fl0)
           have e1:=hkp.cell (a:=⟨g,k * 4 + 1,none⟩) hgB ((hc (k * 4 + 1) (by omega)).trans fl1)
           have e2:=hkp.cell (a:=⟨g,k * 4 + 2,none⟩) hgB ((hc (k * 4 + 2) (by omega)).trans fl2)
           have e3:=hkp.cell (a:=⟨g,k * 4 + 3,none⟩) hgB ((hc (k * 4 + 3) (by omega)).trans fl3)
           have HNX:=hide (fun (w' : World) (ho : TabOk (gN t (m.nevers[k]))) (hf : dw w' b (gN t (m.nevers[k]))) (hw : Kept b W w')=>TRel.next (W:=W) (wr:=w') (b:=b) (g:=gN) (items:=m.nevers) (t0:=(gt4 m)) (t:=t) hlt (ku HFO) ho hf hw)
           have hns:=hszz.nevers _ (List.getElem_mem hlt)
           generalize m.nevers[k] = p at e0 e1 e2 e3 HNX hns
           clear hc fl0 fl1 fl2 fl3 hkp HFO
           go_wp2_with fail
           refine (give_zero _ b t p.name 6 ⟨#[]⟩ ((ku HMP).kept (below_alloc1 _ _)) (ku HTO) hns).mono ?_
           rintro e w1 ⟨rfl,h1,hk1⟩
           have HN:=hide (ku HNX _ (giveT_ok (ku HTO) (by simp)) h1 (((ku HK).alloc _).trans hk1))
           clear h1 hk1 HNX e0 e1 e2 e3
           go_wp2
           go_roundw
           case rel=>exact ku HN
           case measure=>simp [intOf]; omega
          ·have hd:=tab_done hlt (ku HFO)
           rw [hd] at HMP HTO
           have hbx:=hkp.row (b:=w.heap.size) (by omega) (ku HBX)
           clear hd hbx HFO
           go_wp2
           go_ret
           refine ⟨b,rfl,ku HMP,ku HTO,by omega,(ku HBW).trans (Kept.toBelow (B:=w.heap.size) (ku HK) (by omega) (by omega))⟩
end Go.Proofs.YtpmcnonmkghokaaGreatDoor
namespace Go.Proofs.YtpmcnonmkghokaaGreatDoor
open Go.RowKit
attribute [local go_sem ↓] Go.wp_at_zero Go.wp_at_succ
structure Nm (w : World) (B b : Nat) (tab : Tab) (ps : Value) (z : Int) : Prop where
 nm : w.heap[B]? = some (.cells #[.map (some b),ps,.bool (decide (0≤z)),.int .i64 (fAt z)] 296 (0,0))
 tab : dw w b tab
 ne : b≠B
theorem Nm.below {w w' : World} {B b : Nat} {tab : Tab} {ps : Value} {z : Int} (h : Nm w B b tab ps z) (hb : Below w.heap.size w w') : Nm w' B b tab ps z:=
 ⟨by rw [hb.block B (lt_of_block h.nm)]; exact h.nm,h.tab.kept hb,h.ne⟩
theorem Nm.alloc {w : World} {B b : Nat} {tab : Tab} {ps : Value} {z : Int} (h : Nm w B b tab ps z) (o : Obj) : Nm (w.alloc o) B b tab ps z:=h.below (below_alloc1 _ _)
theorem Nm.drew {w : World} {B b : Nat} {tab : Tab} {ps : Value} {z : Int} (h : Nm w B b tab ps z) : Nm w.drew B b tab ps z:=h.below ((Below.refl _ _).drew)
theorem Nm.note {w : World} {B b : Nat} {tab : Tab} {ps : Value} {z : Int} (h : Nm w B b tab ps z) {a : Int} (ha : 0≤a) : Nm (noteW w B 2 z a) B b tab ps (firstI z a):=by
 refine ⟨?_,?_,h.ne⟩
 ·rw [firstI_note z a ha]
  unfold noteW
  by_cases hh : z < 0∨a < z
  ·rw [if_pos hh,if_pos hh,show decide (0≤a) = true by simp; omega,show fAt a = a by unfold fAt; rw [if_neg (by omega)]]
   exact heap_setCell_same _ B 3 _ _ _ (heap_setCell_same _ B 2 _ _ _ h.nm)
  ·rw [if_neg hh,if_neg hh]; exact h.nm
 ·unfold noteW
  split
  ·exact (h.tab.other (by simpa using h.ne) _).other (by simpa using h.ne) _
  ·exact h.tab
theorem Nm.cells {w : World} {B b : Nat} {tab : Tab} {ps : Value} {z : Int} (h : Nm w B b tab ps z) :
  w.cell? ⟨B,0,none⟩ = some (.map (some b))∧w.cell? ⟨B,1,none⟩ = some ps∧w.cell? ⟨B,2,none⟩ = some (.bool (decide (0≤z)))∧w.cell? ⟨B,3,none⟩ = some (.int .i64 (fAt z))∧w.frozen? ⟨B,1,none⟩ = false∧w.frozen? ⟨B,2,none⟩ = false∧w.frozen? ⟨B,3,none⟩ = false:=by
 obtain ⟨a,b,c,d,_,f,g,i⟩:=kqj h.nm
 exact ⟨a,b,c,d,f,g,i⟩
def kqk (c : Bool) (z : Int) (n : Tok) : Int:=if c then firstI z n.at_ else z
def givenC (tab : Tab) (n : Tok) : Bool:=!((zf tab n.text.toList).place == n.at_)
set_option maxRecDepth 100000 in
set_option maxHeartbeats 2000000 in
theorem given_one (w : World) (B b : Nat) (tab : Tab) (ps : Value) (z : Int) (n : Tok) (h : Nm w B b tab ps z) (hs : n.text.size≤1000) :
  Calls Tryz.prog 157 #[.pointer (some ⟨B,0,none⟩),ptV n] w fun e w'=>e = .returned (.tuple #[])∧Nm w' B b tab ps (kqk (givenC tab n) z n)∧Kept B w w':=by
 have hBl:=lt_of_block h.nm
 have h1:=h.alloc (.cells #[.string n.text,.int .i64 n.at_] 107)
 obtain ⟨c0,c1,c2,c3,f1,f2,f3⟩:=h1.cells
 have hl:=kz4 h1.drew.tab hs
 have hf:=ent_field1 (zf tab n.text.toList)
 have H1:=hide h1
 have E:=hide (show kqk (givenC tab n) z n = if !((zf tab n.text.toList).place == n.at_) then firstI z n.at_ else z from rfl)
 generalize zf tab n.text.toList = q at *
 clear h h1
 unfold ptV
 go_enter Tryz.func157,Tryz.ntmps157
 go_wp2
 go_region
 cases hc : (q.place != (n.at_ : Int))
 ·have hE : (!(q.place == (n.at_ : Int))) = false:=hc
  rw [hE] at E
  go_wp2
  go_end0
  rw [ku E]
  exact ⟨rfl,(ku H1).drew,(Kept.gq _).drew⟩
 ·have hE : (!(q.place == (n.at_ : Int))) = true:=hc
  rw [hE] at E
  have HNT:=hide (note_any ((w.alloc (.cells #[.string n.text,.int .i64 n.at_] 107)).drew.drew) B 2 z n.at_ c2 c3 f2 f3)
  go_wp2
  go_region_law ((go_simp; go_at_call 212; refine (ku HNT).mono ?_; rintro e w1 ⟨rfl,hw⟩; dsimp only))
  all_goals
   subst hw
   go_wp2
   go_end0
   rw [ku E]
   exact ⟨rfl,((ku H1).drew.drew).note (by omega),((Kept.gq _).drew.drew).trans (Kept.note _ _ _ _ _)⟩
def setC (tab : Tab) (n : Tok) : Bool:=!((zf tab n.text.toList).role == 1)
set_option maxRecDepth 100000 in
set_option maxHeartbeats 2000000 in
theorem set_one (w : World) (B b : Nat) (tab : Tab) (ps : Value) (z : Int) (n : Tok) (h : Nm w B b tab ps z) (hs : n.text.size≤1000) :
  Calls Tryz.prog 213 #[.pointer (some ⟨B,0,none⟩),ptV n] w fun e w'=>e = .returned (.tuple #[])∧Nm w' B b tab ps (kqk (setC tab n) z n)∧Kept B w w':=by
 have hBl:=lt_of_block h.nm
 have h1:=h.alloc (.cells #[.string n.text,.int .i64 n.at_] 107)
 obtain ⟨c0,c1,c2,c3,f1,f2,f3⟩:=h1.cells
 have hl:=kz4 h1.drew.tab hs
 have hf:=ent_field0 (zf tab n.text.toList)
 have H1:=hide h1
 have E:=hide (show kqk (setC tab n) z n = if !((zf tab n.text.toList).role == 1) then firstI z n.at_ else z from rfl)
 generalize zf tab n.text.toList = q at *
 clear h h1
 unfold ptV
 go_enter Tryz.func213,Tryz.ntmps213
 go_wp2
 go_region
 cases hc : (q.role != 1)
 ·have hE : (!(q.role == 1)) = false:=hc
  rw [hE] at E
  go_wp2
  go_end0
  rw [ku E]
  exact ⟨rfl,(ku H1).drew,(Kept.gq _).drew⟩
 ·have hE : (!(q.role == 1)) = true:=hc
  rw [hE] at E
  have HNT:=hide (note_any ((w.alloc (.cells #[.string n.text,.int .i64 n.at_] 107)).drew.drew) B 2 z n.at_ c2 c3 f2 f3)
  go_wp2
  go_region_law ((go_simp; go_at_call 212; refine (ku HNT).mono ?_; rintro e w1 ⟨rfl,hw⟩; dsimp only))
  all_goals
   subst hw
   go_wp2
   go_end0
   rw [ku E]
   exact ⟨rfl,((ku H1).drew.drew).note (by omega),((Kept.gq _).drew.drew).trans (Kept.note _ _ _ _ _)⟩
def sokC (tab : Tab) (n : Tok) : Bool:=!((zf tab n.text.toList).role == 2) && setC tab n
set_option maxRecDepth 100000 in
set_option maxHeartbeats 2000000 in
theorem sok_one (w : World) (B b : Nat) (tab : Tab) (ps : Value) (z : Int) (n : Tok) (h : Nm w B b tab ps z) (hs : n.text.size≤1000) :
  Calls Tryz.prog 214 #[.pointer (some ⟨B,0,none⟩),ptV n] w fun e w'=>e = .returned (.tuple #[])∧Nm w' B b tab ps (kqk (sokC tab n) z n)∧Kept B w w':=by
 have hBl:=lt_of_block h.nm
 have h1:=h.alloc (.cells #[.string n.text,.int .i64 n.at_] 107)
 obtain ⟨c0,c1,c2,c3,f1,f2,f3⟩:=h1.cells
 have hl:=kz4 h1.drew.tab hs
 have hf:=ent_field0 (zf tab n.text.toList)
 have H1:=hide h1
 have E:=hide (show sokC tab n = (!((zf tab n.text.toList).role == 2) && setC tab n) from rfl)
 have HST:=hide (set_one ((w.alloc (.cells #[.string n.text,.int .i64 n.at_] 107)).drew) B b tab ps z n h1.drew hs)
 generalize zf tab n.text.toList = q at *
 clear h h1
 unfold ptV at *
 go_enter Tryz.func214,Tryz.ntmps214
 go_wp2
 go_region
 cases hc : (q.role != 2)
 ·have hE : (!(q.role == 2)) = false:=hc
  rw [hE] at E
  go_wp2
  go_end0
  rw [ku E]
  exact ⟨rfl,(ku H1).drew,(Kept.gq _).drew⟩
 ·have hE : (!(q.role == 2)) = true:=hc
  rw [hE,Bool.true_and] at E
  go_wp2_with fail
  refine (ku HST).mono ?_
  rintro e w1 ⟨rfl,h2,hk2⟩
  have H2:=hide h2
  have HK2:=hide hk2
  clear h2 hk2
  go_wp2
  go_end0
  rw [ku E]
  exact ⟨rfl,ku H2,((Kept.gq _).drew).trans (ku HK2)⟩
def vtyN (tab : Tab) (z : Int) (x : VrT) : Int:=
 if x.si.form == 2 then kqk (sokC tab x.si.name) (kqk (x.arr && setC tab x.over) z x.over) x.si.name else kqk (x.arr && setC tab x.over) z x.over
set_option maxRecDepth 100000 in
set_option maxHeartbeats 2000000 in
theorem varType_one (w : World) (B b : Nat) (tab : Tab) (ps : Value) (z : Int) (x : VrT) (h : Nm w B b tab ps z) (hs : x.over.text.size≤1000) (hs2 : x.si.name.text.size≤1000) :
  Calls Tryz.prog 158 #[.pointer (some ⟨B,0,none⟩),vrV x] w fun e w'=>e = .returned (.tuple #[])∧Nm w' B b tab ps (vtyN tab z x)∧Kept B w w':=by
 have hBl:=lt_of_block h.nm
 have E:=hide (show vtyN tab z x = if x.si.form == 2 then kqk (sokC tab x.si.name) (kqk (x.arr && setC tab x.over) z x.over) x.si.name else kqk (x.arr && setC tab x.over) z x.over from rfl)
 unfold vrV yg
 go_enter Tryz.func158,Tryz.ntmps158
 cases ha : x.arr
 ·rw [ha,Bool.false_and,show kqk false z x.over = z from rfl] at E
  cases hf : (x.si.form == 2)
  ·rw [hf] at E
   go_wp2
   go_end0
   rw [ku E]
   exact ⟨rfl,h.alloc _,Kept.gq _⟩
  ·rw [hf] at E
   go_wp2_with fail
   refine (sok_one _ B b tab ps z x.si.name (h.alloc _) hs2).mono ?_
   rintro e w1 ⟨rfl,h1,hk1⟩
   go_wp2
   go_end0
   rw [ku E]
   exact ⟨rfl,h1,(Kept.gq _).trans hk1⟩
 ·rw [ha,Bool.true_and] at E
  go_wp2_with fail
  refine (set_one _ B b tab ps z x.over (h.alloc _) hs).mono ?_
  rintro e w1 ⟨rfl,h1,hk1⟩
  have hv:=hk1.row (b:=w.heap.size) (by omega) (qg _ _)
  obtain ⟨⟨_,_,_,_,_,g5,_,_,g8,g9⟩,_⟩:=kzq hv
  have H1:=hide h1
  have HK1:=hide ((Kept.gq _).trans hk1)
  clear hv h1 hk1 h
  cases hf : (x.si.form == 2)
  ·rw [hf] at E
   go_wp2
   go_end0
   rw [ku E]
   exact ⟨rfl,ku H1,ku HK1⟩
  ·rw [hf] at E
   go_wp2_with fail
   refine (sok_one _ B b tab ps _ x.si.name (ku H1) hs2).mono ?_
   rintro e w2 ⟨rfl,h2,hk2⟩
   go_wp2
   go_end0
   rw [ku E]
   exact ⟨rfl,h2,(ku HK1).trans hk2⟩
theorem yj {P : Program} {fn : Func} {p t1 : Tmp} {ty : TypeId} (h : fn.results = #[.cell p ty,.tmp t1]) (tmps : Array Value) (w : World) (g : Nat) (t : TypeId) (cs : Array Value) (fr : Nat × Nat) (d : TypeDesc)
  (hp : tmps.getD p undef = .pointer (some ⟨g,0,none⟩)) (hg : w.heap[g]? = some (.cells cs t fr))
  (hu : P.underlying ty = some d) (hd : (match d with | .struct _ | .array _ _=>true | _=>false) = true) (hi : (P.info? ty).map (·.size) = some cs.size) :
  (results fn tmps).run P w = .ok (.tuple #[.agg cs,tmps.getD t1 undef]) w:=by
 have hp' : tmps[p]?.getD undef = .pointer (some ⟨g,0,none⟩):=by simpa using hp
 simp [results,h,hp',asAddr,run_loadVar_row w g t ty cs fr d hg hu hd hi]
def fpP : List PP→List UInt8→PP
 | [],_=>⟨jg,jg⟩
 | p :: l,s=>if p.name.text.toList == s then p else fpP l s
def fpB (l : List PP) (s : List UInt8) : Bool:=l.any (fun p=>p.name.text.toList == s)
theorem fp_skip : ∀ (l : List PP) (k : Nat) (s : List UInt8),(∀ i (hi : i < l.length),i < k→(l[i].name.text.toList == s) = false)→fpP l s = fpP (l.drop k) s∧fpB l s = fpB (l.drop k) s
 | [],k,s,_=>by simp
 | p :: l,0,s,_=>⟨rfl,rfl⟩
 | p :: l,k + 1,s,h=>by
  have h0:=h 0 (by simp) (by omega)
  simp only [List.getElem_cons_zero] at h0
  obtain ⟨a,b⟩:=fp_skip l k s (fun i hi hk=>by have:=h (i + 1) (by simpa using hi) (by omega); simpa using this)
  constructor
  ·rw [fpP,h0]; exact a
  ·unfold fpB at *
   rw [List.any_cons,h0,Bool.false_or]; exact b
set_option maxRecDepth 100000 in
set_option maxHeartbeats 2000000 in
theorem kz5 (w : World) (lo : Nat) (l : List PP) (x : Value) (n : Tok) (ho : w.ownsRow lo 352 4 x l.length (jq l)) (hl : l.length≤1000) :
  Calls Tryz.prog 215 #[x,ptV n] w fun e w'=>e = .returned (.tuple #[paV (fpP l n.text.toList),.bool (fpB l n.text.toList)])∧Below w.heap.size w w':=by
 obtain ⟨xa,cap,rfl,hview⟩:=qm ho
 obtain ⟨W,hW⟩ : ∃ W,W = (w.alloc (.cells #[.string n.text,.int .i64 n.at_] 107)).alloc (.cells #[.string ⟨#[]⟩,.int .i64 0,.string ⟨#[]⟩,.int .i64 0] 352):=⟨_,rfl⟩
 have hbW : Below w.heap.size w W:=by rw [hW]; exact (below_alloc1 w _).trans ((below_alloc1 _ _).mono (by simp))
 have hsW : w.heap.size + 1 < W.heap.size:=by rw [hW]; simp
 have HNM:=hide (show W.heap[w.heap.size]? = some (.cells #[.string n.text,.int .i64 n.at_] 107 (0,0)) by rw [hW]; exact ql (qg _ _))
 have HB0:=hide (show W.heap[w.heap.size + 1]? = some (.cells #[.string ⟨#[]⟩,.int .i64 0,.string ⟨#[]⟩,.int .i64 0] 352 (0,0)) by
  rw [hW]
  have:=qg (w.alloc (.cells #[.string n.text,.int .i64 n.at_] 107)) (.cells #[.string ⟨#[]⟩,.int .i64 0,.string ⟨#[]⟩,.int .i64 0] 352)
  simp only [World.size_alloc] at this
  exact this)
 have HW:=hide hview
 have HBW:=hide hbW
 have HWE:=hide hW.symm
 clear hview ho hbW hW
 unfold ptV
 go_enter Tryz.func215,Tryz.ntmps215
 go_wp2_with fail
 rw [ku HWE]
 go_loopw [7,10] (fun _ i wr=>∃ k : Nat,k≤l.length∧i = .int .i64 k∧(∀ i (hi : i < l.length),i < k→(l[i].name.text.toList == n.text.toList) = false)∧Below W.heap.size W wr) (fun _ i _=>l.length - (intOf i).toNat)
 case atStart=>exact ⟨0,Nat.zero_le _,rfl,fun i _ h=>by omega,Below.refl _ _⟩
 case round=>
  obtain ⟨k,hk,rfl,hno,hb⟩:=hrel
  have HNO:=hide hno
  have HB:=hide hb
  have hsz:=hb.size
  have hnm:=(hb.block w.heap.size (by omega)).trans (ku HNM)
  have hb0:=(hb.block (w.heap.size + 1) (by omega)).trans (ku HB0)
  obtain ⟨m0,m1,_,_⟩:=uw hnm
  obtain ⟨d0,d1,d2,d3,f0,f1,f2,f3⟩:=kqj hb0
  have HB0':=hide hb0
  have hml:=lt_of_block hnm
  have hbl:=lt_of_block hb0
  clear hno hnm hb0
  by_cases hlt : k < l.length
  ·obtain ⟨g,rfl,hg1,hg2,hc⟩:=ku HW k hlt
   have fl:=fun j (hj : j < 4)=>kqy kqs 4 (fun _=>rfl) l k j hlt hj
   have cc : ∀ j,j < l.length * 4→wr.cell? ⟨g,j,none⟩ = (jq l)[j]?:=fun j hj=>(hb.cell (p:=⟨g,j,none⟩) (by simp; omega)).trans (((ku HBW).cell (p:=⟨g,j,none⟩) hg2).trans (hc j hj))
   have e0:=(cc (k * 4 + 0) (by omega)).trans (fl 0 (by omega))
   have e1:=(cc (k * 4 + 1) (by omega)).trans (fl 1 (by omega))
   have e2:=(cc (k * 4 + 2) (by omega)).trans (fl 2 (by omega))
   have e3:=(cc (k * 4 + 3) (by omega)).trans (fl 3 (by omega))
   simp only [kqs,List.getElem?_cons_zero,List.getElem?_cons_succ,Nat.add_zero] at e0 e1 e2 e3
   have hP:=fp_skip l k n.text.toList (ku HNO)
   rw [List.drop_eq_getElem_cons hlt] at hP
   have HP:=hide hP
   have HST:=hide (fun (hq : (l[k].name.text.toList == n.text.toList) = false)=>(show ∀ i (hi : i < l.length),i < k + 1→(l[i].name.text.toList == n.text.toList) = false from fun i hi h=>by
    by_cases e : i = k
    ·subst e; exact hq
    ·exact (ku HNO) i hi (by omega)))
   generalize l[k] = p at e0 e1 e2 e3 HP HST
   clear cc fl hc hP hb
   cases hq : (p.name.text.toList == n.text.toList)
   ·have HS2:=hide ((ku HST) hq)
    go_wp2
    go_roundw
    case rel=>exact ⟨k + 1,by omega,by go_num,ku HS2,(ku HB).alloc hsz _⟩
    case measure=>simp [intOf]; omega
   ·go_wp2
    refine bodyPost_ret (v:=.tuple #[paV p,.bool true]) (yj Tryz.results215 _ _ (w.heap.size + 1) _ _ _ _ rfl (ql (set4all (ku HB0') _ _ _ _)) Tryz.underlying352 rfl (by kernel_rfl)) rfl ?_
    rw [(ku HP).1,(ku HP).2]
    refine ⟨by simp [fpP,fpB,hq],?_⟩
    exact (((((ku HBW).trans ((ku HB).mono (by omega))).setCell (by simp) _).setCell (by simp) _ |>.setCell (by simp) _).setCell (by simp) _).alloc (by simp [World.setCell]; omega) _
  ·have hP:=fp_skip l l.length n.text.toList (fun i hi _=>(ku HNO) i hi (by omega))
   rw [List.drop_length] at hP
   have HP:=hide hP
   clear hP
   go_wp2
   refine bodyPost_ret (v:=.tuple #[paV ⟨jg,jg⟩,.bool false]) (yj Tryz.results215 _ _ (w.heap.size + 1) _ _ _ _ rfl (set4all (ku HB0') _ _ _ _) Tryz.underlying352 rfl (by kernel_rfl)) rfl ?_
   rw [(ku HP).1,(ku HP).2]
   refine ⟨rfl,?_⟩
   exact ((((ku HBW).trans ((ku HB).mono (by omega))).setCell (by simp) _).setCell (by simp) _ |>.setCell (by simp) _).setCell (by simp) _
def valC (tab : Tab) (l : List PP) (n : Tok) : Bool:=(!fpB l n.text.toList && !((zf tab n.text.toList).role == 3)) && !((zf tab n.text.toList).role == 4)
theorem below_set4 {B : Nat} {a w : World} (h : Below B a w) (x0 x1 x2 x3 : Value) : Below B a ((((w.setCell ⟨B,0,none⟩ x0).setCell ⟨B,1,none⟩ x1).setCell ⟨B,2,none⟩ x2).setCell ⟨B,3,none⟩ x3):=
 (((h.setCell (p:=⟨B,0,none⟩) (Nat.le_refl _) x0).setCell (p:=⟨B,1,none⟩) (Nat.le_refl _) x1).setCell (p:=⟨B,2,none⟩) (Nat.le_refl _) x2).setCell (p:=⟨B,3,none⟩) (Nat.le_refl _) x3
set_option maxRecDepth 100000 in
set_option maxHeartbeats 4000000 in
theorem value_one (w : World) (B b lo : Nat) (tab : Tab) (l : List PP) (pa : Option Addr) (pn pc : Nat) (z : Int) (n : Tok) (h : Nm w B b tab (.slice pa pn pc) z) (ho : w.ownsRow lo 352 4 (.slice pa pn pc) l.length (jq l)) (hl : l.length≤1000) (hs : n.text.size≤1000) :
  Calls Tryz.prog 243 #[.pointer (some ⟨B,0,none⟩),ptV n] w fun e w'=>e = .returned (.tuple #[])∧Nm w' B b tab (.slice pa pn pc) (kqk (valC tab l n) z n)∧Kept B w w':=by
 have hBl:=lt_of_block h.nm
 have h1:=h.alloc (.cells #[.string n.text,.int .i64 n.at_] 107)
 obtain ⟨c0,c1,c2,c3,f1,f2,f3⟩:=h1.cells
 have H1:=hide h1
 have HFP:=hide (kz5 (w.alloc (.cells #[.string n.text,.int .i64 n.at_] 107)).drew lo l _ n (ho.alloc _).drew hl)
 have HFQ:=hide (kz5 (((w.alloc (.cells #[.string n.text,.int .i64 n.at_] 107)).alloc (.cells #[.string ⟨#[]⟩,.int .i64 0,.string ⟨#[]⟩,.int .i64 0] 352)).drew) lo l _ n ((ho.alloc _).alloc _).drew hl)
 have E:=hide (show valC tab l n = ((!fpB l n.text.toList && !((zf tab n.text.toList).role == 3)) && !((zf tab n.text.toList).role == 4)) from rfl)
 have HS:=hide (show (w.alloc (.cells #[.string n.text,.int .i64 n.at_] 107)).heap[w.heap.size]? = some (.cells #[.string n.text,.int .i64 n.at_] 107 (0,0)) from qg _ _)
 have HZ:=hide (show (((w.alloc (.cells #[.string n.text,.int .i64 n.at_] 107)).alloc (.cells #[.string ⟨#[]⟩,.int .i64 0,.string ⟨#[]⟩,.int .i64 0] 352)).drew).heap[w.heap.size + 1]? = some (.cells #[.string ⟨#[]⟩,.int .i64 0,.string ⟨#[]⟩,.int .i64 0] 352 (0,0)) by
  have:=qg (w.alloc (.cells #[.string n.text,.int .i64 n.at_] 107)) (.cells #[.string ⟨#[]⟩,.int .i64 0,.string ⟨#[]⟩,.int .i64 0] 352)
  simp only [World.size_alloc] at this
  exact this)
 clear h h1 ho
 unfold ptV at *
 go_enter Tryz.func243,Tryz.ntmps243
 go_upto_region 1 with fail
 go_cut [5] from 7 to 15 (fun v wx=>v = .bool (fpB l n.text.toList)∧Below (w.heap.size + 1) (w.alloc (.cells #[.string n.text,.int .i64 n.at_] 107)) wx)
 case first=>
  go_region_law ((go_simp; go_at_call 215; (first | (refine (ku HFP).mono ?_; rintro e w2 ⟨rfl,hb2⟩) | (refine (ku HFQ).mono ?_; rintro e w2 ⟨rfl,hb2⟩; obtain ⟨z0,z1,z2,z3,z4,z5,z6,z7⟩:=kqj (show w2.heap[w.heap.size + 1]? = _ from (hb2.block _ (by simp)).trans (ku HZ)))); dsimp only [paV]))
  all_goals
   go_wp2_with fail
   go_meet
   refine ⟨rfl,?_⟩
   have hsz:=hb2.size
   simp at hsz
   first
   | exact (((Below.refl _ _).drew.trans (hb2.mono (by simp))).alloc (by omega) _)
   | exact below_set4 ((((Below.refl _ _).alloc (by simp) _).drew).trans (hb2.mono (by simp))) _ _ _ _
 case rest=>
 obtain ⟨rfl,hb⟩:=hcut
 have hN:=(ku H1).below (hb.mono (by simp))
 have hnb:=(hb.block w.heap.size (by omega)).trans (ku HS)
 obtain ⟨d0,d1,_,_⟩:=uw hnb
 have hl:=kz4 hN.drew.tab hs
 have hf:=ent_field0 (zf tab n.text.toList)
 obtain ⟨c0,c1,c2,c3,f1,f2,f3⟩:=hN.cells
 have HN:=hide hN
 have HB:=hide hb
 clear hN hb hnb HZ HFP HFQ HS H1
 generalize zf tab n.text.toList = q at *
 generalize fpB l n.text.toList = r at *
 go_wp2
 go_region
 cases r
 case true=>
  rw [show (!true) = false from rfl,Bool.false_and,Bool.false_and] at E
  go_wp2
  go_end0
  rw [ku E]
  exact ⟨rfl,(ku HN).drew,((Kept.gq _).trans (Kept.of_below ((ku HB).mono (by simp)))).drew⟩
 case false=>
 rw [show (!false) = true from rfl,Bool.true_and] at E
 cases hc : (q.role != 3)
 case false=>
  have hE : (!(q.role == 3)) = false:=hc
  rw [hE,Bool.false_and] at E
  go_wp2
  go_end0
  rw [ku E]
  exact ⟨rfl,(ku HN).drew,((Kept.gq _).trans (Kept.of_below ((ku HB).mono (by simp)))).drew⟩
 case true=>
 have hE : (!(q.role == 3)) = true:=hc
 rw [hE,Bool.true_and] at E
 cases hc4 : (q.role != 4)
 case false=>
  have hE4 : (!(q.role == 4)) = false:=hc4
  rw [hE4] at E
  go_wp2
  go_end0
  rw [ku E]
  exact ⟨rfl,(ku HN).drew,((Kept.gq _).trans (Kept.of_below ((ku HB).mono (by simp)))).drew⟩
 case true=>
 have hE4 : (!(q.role == 4)) = true:=hc4
 rw [hE4] at E
 have HNT:=hide (note_any (wc.drew.drew) B 2 z n.at_ c2 c3 f2 f3)
 go_wp2
 go_region_law ((go_simp; go_at_call 212; refine (ku HNT).mono ?_; rintro e w1 ⟨rfl,hw⟩; dsimp only))
 all_goals
  subst hw
  go_wp2
  go_end0
  rw [ku E]
  exact ⟨rfl,((ku HN).drew.drew).note (by omega),(((Kept.gq _).trans (Kept.of_below ((ku HB).mono (by simp)))).drew.drew).trans (Kept.note _ _ _ _ _)⟩
end Go.Proofs.YtpmcnonmkghokaaGreatDoor

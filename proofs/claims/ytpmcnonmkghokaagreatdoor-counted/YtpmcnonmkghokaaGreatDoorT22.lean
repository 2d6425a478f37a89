import Derived.Test.YtpmcnonmkghokaaGreatDoorT21
import Derived.Test.YtpmcnonmkghokaaGreatDoorT20
import Derived.Test.YtpmcnonmkghokaaGreatDoorT17
set_option linter.unusedVariables false
set_option linter.unusedSimpArgs false
namespace Go.Proofs.YtpmcnonmkghokaaGreatDoor
open Go.RowKit
attribute [local go_sem ↓] Go.wp_at_zero Go.wp_at_succ
def treeC (m : MdL) : Int × Int:=
 if 0≤pManyI m then (4,pManyI m) else if 0≤wrongI (kqf m) m then (5,wrongI (kqf m) m) else if typesT (kqf m) m then (0,0) else (6,0)
structure MdAll (m : MdL) : Prop where
 ok : MdOk m
 sz : MdSz m
 nm : MdNm m
 ty : MdTy m
 tab : TabSz (kqf m)
theorem MdIs.below {lo : Nat} {w w' : World} {x0 x1 x2 x3 x4 : Value} {m : MdL} (h : MdIs lo w x0 x1 x2 x3 x4 m) (hb : Below w.heap.size w w') : MdIs lo w' x0 x1 x2 x3 x4 m:=h.stay fun k _ hk=>hb.block k hk
set_option maxRecDepth 100000 in
set_option maxHeartbeats 4000000 in
theorem ptree_any (w : World) (lo : Nat) (x0 x1 x2 x3 x4 : Value) (m : MdL) (h : MdIs lo w x0 x1 x2 x3 x4 m) (ha : MdAll m) :
  Calls Tryz.prog 53 #[.agg #[x0,x1,x2,x3,x4]] w fun e w'=>e = .returned (.tuple #[.int .i64 (treeC m).1,.int .i64 (treeC m).2])∧Below w.heap.size w w':=by
 obtain ⟨⟨a0,n0,k0,rfl⟩,⟨a1,n1,k1,rfl⟩,⟨a2,n2,k2,rfl⟩,⟨a3,n3,k3,rfl⟩,⟨a4,n4,k4,rfl⟩⟩:=mdis_slices h
 obtain ⟨W,hW⟩ : ∃ W,W = w.alloc (.cells #[.slice a0 n0 k0,.slice a1 n1 k1,.slice a2 n2 k2,.slice a3 n3 k3,.slice a4 n4 k4] 68):=⟨_,rfl⟩
 have hbW : Below w.heap.size w W:=by rw [hW]; exact below_alloc1 _ _
 have hsW : W.heap.size = w.heap.size + 1:=by rw [hW]; simp
 have hMd : W.heap[w.heap.size]? = some (.cells #[.slice a0 n0 k0,.slice a1 n1 k1,.slice a2 n2 k2,.slice a3 n3 k3,.slice a4 n4 k4] 68 (0,0)):=by rw [hW]; exact qg _ _
 have E:=hide (show treeC m = if 0≤pManyI m then (4,pManyI m) else if 0≤wrongI (kqf m) m then (5,wrongI (kqf m) m) else if typesT (kqf m) m then (0,0) else (6,0) from rfl)
 have HTM:=hide (ptooMany_any W lo _ _ _ _ _ m (h.below hbW) ha.ok)
 have HG:=hide (fun (w1 : World) (h1 : Below w.heap.size w w1)=>gather_any w1 lo _ _ _ _ _ m (h.below h1) ha.ok ha.sz)
 have HWN:=hide (fun (w1 : World) (b : Nat) (h1 : Below w.heap.size w w1) (hm : dw w1 b (kqf m))=>wrongName_any w1 lo b (kqf m) _ _ _ _ _ m (h.below h1) hm ha.ok ha.sz ha.nm)
 have HTF:=hide (fun (w1 : World) (b : Nat) (h1 : Below w.heap.size w w1) (hm : dw w1 b (kqf m))=>typesFit_any w1 lo b (kqf m) _ _ _ _ _ m (h.below h1) hm ha.tab ha.ok ha.nm ha.ty)
 have HMd:=hide hMd
 have HB:=hide hbW
 have HWE:=hide hW.symm
 obtain ⟨m0,m1,m2,m3,m4,_⟩:=zh hMd
 generalize treeC m = R at *
 generalize pManyI m = P at *
 generalize wrongI (kqf m) m = N at *
 generalize typesT (kqf m) m = T at *
 generalize kqf m = tab at *
 clear h ha hbW hMd hW
 go_enter Tryz.func53,Tryz.ntmps53
 go_upto_region 1 with fail
 rw [ku HWE]
 go_wp2_with fail
 refine (ku HTM).mono ?_
 rintro e w1 ⟨rfl,hb1⟩
 have HB1:=hide ((ku HB).trans (hb1.mono (by omega)))
 have hM1:=(hb1.block w.heap.size (by omega)).trans (ku HMd)
 have HM1:=hide hM1
 have hz1:=hb1.size
 clear m0 m1 m2 m3 m4
 obtain ⟨m0,m1,m2,m3,m4,_⟩:=zh hM1
 have hl1:=lt_of_block hM1
 clear hb1 hM1 HTM HMd HB
 by_cases hP : 0≤P
 ·rw [if_pos hP] at E
  have hd : decide (0≤P) = true:=by simpa using hP
  have hfa : fAt P = P:=by unfold fAt; rw [if_neg (by omega)]
  rw [hfa]
  clear hfa
  go_wp2
  go_region
  all_goals
   go_wp2
   go_ret2
   rw [ku E]
   exact ⟨rfl,((ku HB1).alloc (by omega) _).drew⟩
 ·rw [if_neg hP] at E
  have hd : decide (0≤P) = false:=by simpa using hP
  have hbA:=((ku HB1).alloc (show w.heap.size≤w1.heap.size by omega) (.cells #[.bool (decide (0≤P)),.int .i64 (fAt P)] 199))
  have HG1:=hide (ku HG _ hbA)
  have HBA:=hide hbA
  have HMA:=hide (show (w1.alloc (.cells #[.bool (decide (0≤P)),.int .i64 (fAt P)] 199)).heap[w.heap.size]? = some (.cells #[.slice a0 n0 k0,.slice a1 n1 k1,.slice a2 n2 k2,.slice a3 n3 k3,.slice a4 n4 k4] 68 (0,0)) from ql (ku HM1))
  rw [hd] at HG1 HBA HMA ⊢
  clear HB1 HM1 HG hbA hP
  generalize fAt P = fp at *
  go_wp2_with fail
  refine (ku HG1).mono ?_
  rintro e w2 ⟨b,rfl,hm2,_,hbl2,hb2⟩
  have HB2:=hide ((ku HBA).trans (hb2.mono (by simp; omega)))
  have hM2:=(hb2.block w.heap.size (by simp; omega)).trans (ku HMA)
  have HM2:=hide hM2
  have HT2:=hide hm2
  have hz2:=hb2.size
  simp at hz2
  clear m0 m1 m2 m3 m4
  obtain ⟨m0,m1,m2,m3,m4,_⟩:=zh hM2
  have hl2:=lt_of_block hM2
  have HN2:=hide (ku HWN w2 b (ku HB2) hm2)
  clear hb2 hM2 hm2 HG1 HMA HBA HWN
  go_wp2_with fail
  refine (ku HN2).mono ?_
  rintro e w3 ⟨rfl,hb3⟩
  have HB3:=hide ((ku HB2).trans (hb3.mono (by omega)))
  have hM3:=(hb3.block w.heap.size (by omega)).trans (ku HM2)
  have HM3:=hide hM3
  have HT3:=hide ((ku HT2).kept hb3)
  have hz3:=hb3.size
  clear m0 m1 m2 m3 m4
  obtain ⟨m0,m1,m2,m3,m4,_⟩:=zh hM3
  have hl3:=lt_of_block hM3
  clear hb3 hM3 HN2 HM2 HB2 HT2
  by_cases hN : 0≤N
  ·rw [if_pos hN] at E
   have hd : decide (0≤N) = true:=by simpa using hN
   have hfa : fAt N = N:=by unfold fAt; rw [if_neg (by omega)]
   rw [hfa]
   clear hfa
   go_wp2
   go_region
   all_goals
    go_wp2
    go_ret2
    rw [ku E]
    exact ⟨rfl,((ku HB3).alloc (by omega) _).drew⟩
  ·rw [if_neg hN] at E
   have hd : decide (0≤N) = false:=by simpa using hN
   have hbA:=((ku HB3).alloc (show w.heap.size≤w3.heap.size by omega) (.cells #[.bool (decide (0≤N)),.int .i64 (fAt N)] 199))
   have HF3:=hide (ku HTF _ b hbA ((ku HT3).kept (below_alloc1 _ _)))
   have HBA:=hide hbA
   rw [hd] at HF3 HBA ⊢
   clear HB3 HM3 HTF hbA hN HT3
   generalize fAt N = fn at *
   go_wp2_with fail
   refine (ku HF3).mono ?_
   rintro e w4 ⟨rfl,hb4⟩
   have HB4:=hide ((ku HBA).trans (hb4.mono (by simp; omega)))
   clear hb4 HF3 HBA m0 m1 m2 m3 m4
   cases T
   ·go_wp2
    go_ret2
    rw [ku E]
    exact ⟨rfl,ku HB4⟩
   ·go_wp2
    go_ret2
    rw [ku E]
    exact ⟨rfl,ku HB4⟩
def chkC (s : ByteArray) : Int × Int:=
 if 800 < s.size then (1,0) else match (dn s).2 with
  | some k=>(2,k)
  | none=>match (kqn (dn s).1).2 with
   | some k=>(3,k)
   | none=>treeC (mdOf (kqn (dn s).1).1)
def TxPost (s : ByteArray) (w : World) (e : Ending) (w' : World) : Prop:=
 Below w.heap.size w w'∧∃ x0 x1 x2 x3 x4,e = .returned (.tuple #[.agg #[x0,x1,x2,x3,x4],.int .i64 (chkC s).1,.int .i64 (chkC s).2])∧((chkC s).1 = 0→MdIs w.heap.size w' x0 x1 x2 x3 x4 (mdOf (kqn (dn s).1).1)) ∧
  (∃ a l c,x0 = .slice a l c)∧(∃ a l c,x1 = .slice a l c)∧(∃ a l c,x2 = .slice a l c)∧(∃ a l c,x3 = .slice a l c)∧(∃ a l c,x4 = .slice a l c)
theorem kjt {B : Nat} {a w : World} (h : Below B a w) (x0 x1 x2 x3 x4 : Value) : Below B a (((((w.setCell ⟨B,0,none⟩ x0).setCell ⟨B,1,none⟩ x1).setCell ⟨B,2,none⟩ x2).setCell ⟨B,3,none⟩ x3).setCell ⟨B,4,none⟩ x4):=
 ((((h.setCell (p:=⟨B,0,none⟩) (Nat.le_refl _) x0).setCell (p:=⟨B,1,none⟩) (Nat.le_refl _) x1).setCell (p:=⟨B,2,none⟩) (Nat.le_refl _) x2).setCell (p:=⟨B,3,none⟩) (Nat.le_refl _) x3).setCell (p:=⟨B,4,none⟩) (Nat.le_refl _) x4
end Go.Proofs.YtpmcnonmkghokaaGreatDoor
namespace Go.Proofs.YtpmcnonmkghokaaGreatDoor
open Go.RowKit
theorem flat_len {α : Type} {f : α→List Tok} (hf : ∀ x,1≤(f x).length) : ∀ l : List α,l.length≤(l.flatMap f).length
 | []=>Nat.le_refl _
 | x :: l=>by rw [List.flatMap_cons,List.length_append,List.length_cons]; have:=flat_len hf l; have:=hf x; omega
theorem flat_one {α : Type} {f : α→List Tok} : ∀ {l : List α} {x : α},x ∈ l→(f x).length≤(l.flatMap f).length
 | y :: l,x,h=>by
  rw [List.flatMap_cons,List.length_append]
  rcases List.mem_cons.mp h with rfl | h
  ·omega
  ·have:=flat_one (f:=f) h; omega
theorem plen_blen : ∀ b : PB,vg b = blen b
 | .nil=>rfl
 | .node _ _ _ _ n=>by rw [vg,blen,plen_blen n]
def NmOk (t : Tok) : Prop:=0 < t.text.size∧t.text.size≤800
theorem tok_nm {t : Tok} (h : TokOk t) (hk : (t.kind.toList == [110,97,109,101]) = true) : NmOk t:=by
 refine ⟨?_,h.size⟩
 have:=h.name
 rw [hk,Bool.and_eq_true] at this
 have hl:=this.1
 unfold kj5 inB at hl
 by_cases h0 : 0 < t.text.size
 ·exact h0
 ·rw [dif_neg h0] at hl; cases hl
structure TreeSize (t : PTree) : Prop where
 nm : ∀ x ∈ treeAll t,NmOk x
 sets : t.sets.length≤801
 kinds : t.kinds.length≤801
 vars : t.vars.length≤801
 rules : t.rules.length≤801
 nevers : t.nevers.length≤801
 members : ∀ k ∈ t.kinds,k.members.length≤801
 all : ∀ r ∈ t.rules ++ t.nevers,(kq7 r).length≤801
theorem tree_size {L : List Tok} {t : PTree} (hL : pz L) (h : TreeGood L t) : TreeSize t:=by
 have hle:=h.nms.le
 have hlen:=hL.len
 have h1 : (treeAll t).length≤801:=by omega
 unfold treeAll at h1
 simp only [List.length_append] at h1
 have l1:=flat_len (f:=setN) (fun x=>Nat.le_refl _) t.sets
 have l2:=flat_len (f:=kindN) (fun x=>by unfold kindN; simp) t.kinds
 have l3:=flat_len (f:=varAll) (fun x=>by unfold varAll; simp) t.vars
 have l4:=flat_len (f:=kq7) (fun x=>by unfold kq7; simp) t.rules
 have l5:=flat_len (f:=kq7) (fun x=>by unfold kq7; simp) t.nevers
 refine ⟨?_,by omega,by omega,by omega,by omega,by omega,?_,?_⟩
 ·intro x hx
  obtain ⟨hm,hk⟩:=h.nms.mem x hx
  obtain ⟨i,hi,rfl⟩:=List.getElem_of_mem hm
  have e : tk L i = L[i]:=getD_at _ _ _ hi
  have ok:=hL.ok i hi
  rw [e] at ok
  exact tok_nm ok hk
 ·intro k hk
  have:=flat_one (f:=kindN) hk
  unfold kindN at this
  simp only [List.length_cons] at this
  have e : (t.kinds.flatMap (fun k=>k.name :: k.members)).length = (t.kinds.flatMap kindN).length:=rfl
  omega
 ·intro r hr
  rcases List.mem_append.mp hr with hr | hr
  ·have:=flat_one (f:=kq7) hr; omega
  ·have:=flat_one (f:=kq7) hr; omega
theorem mem_sets {t : PTree} {s : PSet} (h : s ∈ t.sets) : s.name ∈ treeAll t:=List.mem_append_left _ (List.mem_flatMap.mpr ⟨s,h,List.mem_cons_self ..⟩)
theorem mem_kinds {t : PTree} {k : PKind} (h : k ∈ t.kinds) {x : Tok} (hx : x ∈ kindN k) : x ∈ treeAll t:=List.mem_append_right _ (List.mem_append_left _ (List.mem_flatMap.mpr ⟨k,h,hx⟩))
theorem mem_vars {t : PTree} {v : PVar} (h : v ∈ t.vars) {x : Tok} (hx : x ∈ varAll v) : x ∈ treeAll t:=List.mem_append_right _ (List.mem_append_right _ (List.mem_append_left _ (List.mem_flatMap.mpr ⟨v,h,hx⟩)))
theorem mem_rules {t : PTree} {r : PRule} (h : r ∈ t.rules ++ t.nevers) {x : Tok} (hx : x ∈ kq7 r) : x ∈ treeAll t:=by
 refine List.mem_append_right _ (List.mem_append_right _ (List.mem_append_right _ ?_))
 rw [← List.flatMap_append]
 exact List.mem_flatMap.mpr ⟨r,h,hx⟩
theorem mem_par {r : PRule} {p : PP} (h : p ∈ r.params) : p.name ∈ kq7 r∧p.set_ ∈ kq7 r:=by
 unfold kq7
 exact ⟨List.mem_cons_of_mem _ (List.mem_append_left _ (List.mem_flatMap.mpr ⟨p,h,List.mem_cons_self ..⟩)),List.mem_cons_of_mem _ (List.mem_append_left _ (List.mem_flatMap.mpr ⟨p,h,List.mem_cons_of_mem _ (List.mem_cons_self ..)⟩))⟩
theorem mem_guard {r : PRule} {x : Tok} (h : x ∈ gu r.guard) : x ∈ kq7 r:=List.mem_cons_of_mem _ (List.mem_append_right _ (List.mem_append_left _ h))
theorem mem_body {r : PRule} {x : Tok} (h : x ∈ cu r.body) : x ∈ kq7 r:=List.mem_cons_of_mem _ (List.mem_append_right _ (List.mem_append_right _ h))
theorem rule_len {r : PRule} (h : (kq7 r).length≤801) : r.params.length≤801∧(gu r.guard).length≤801∧(cu r.body).length≤801:=by
 unfold kq7 at h
 simp only [List.length_cons,List.length_append] at h
 have:=flat_len (f:=parAll) (fun x=>by unfold parAll; simp) r.params
 omega
theorem BWell.len : ∀ {b : PB},BWell b→BLen b
 | .nil,_=>trivial
 | .node _ _ a .nil n,⟨_,_,_,h⟩=>h.len
 | .node _ _ a (.node _ _ _ t e) n,⟨_,_,_,h4,h5,h6⟩=>⟨⟨h4.1.len,by rw [plen_blen]; omega⟩,⟨h5.1.len,by rw [plen_blen]; omega⟩,h6.len⟩
theorem BWell.full : ∀ {b : PB},BWell b→BFull b
 | .nil,_=>trivial
 | .node _ _ a .nil n,⟨h1,h2,_,h⟩=>⟨⟨h2.full,h2.some,h1.2⟩,h.full⟩
 | .node _ _ a (.node _ _ _ t e) n,⟨h1,_,_,h4,h5,h6⟩=>⟨⟨h1.full,h1.some⟩,h4.1.full,h5.1.full,h6.full⟩
theorem noTok_size : jg.text.size = 0:=rfl
theorem vr_sizes {t : PTree} (hs : TreeSize t) {v : PVar} (hv : v ∈ t.vars) (hok : VarOk v) : (vrOf v).over.text.size≤800∧(vrOf v).si.name.text.size≤800:=by
 constructor
 ·show v.over.text.size≤800
  obtain ⟨h1 | h1,_⟩:=hok
  ·rw [h1,noTok_size]; omega
  ·refine (hs.nm _ (mem_vars hv ?_)).2
   unfold varAll overN
   rw [h1]; simp
 ·obtain ⟨f1,f2⟩:=vr_form hok
  cases hk : (v.type_.kind.toList == [110,97,109,101])
  ·obtain ⟨_,h1 | h1 | h1⟩:=hok
   ·obtain ⟨a,b,c⟩:=h1
    unfold vrOf; simp only; rw [a,b]; show jg.text.size≤800; rw [noTok_size]; omega
   ·obtain ⟨a,b,c,d⟩:=h1
    unfold vrOf; simp only; rw [a,b]; show jg.text.size≤800; rw [noTok_size]; omega
   ·rw [h1.1] at hk; cases hk
  ·rw [f2 hk]
   refine (hs.nm _ (mem_vars hv ?_)).2
   unfold varAll overN
   rw [hk]; simp
theorem md_all {L : List Tok} (hL : pz L) (h : (kqn L).2 = none) : MdAll (mdOf (kqn L).1):=by
 have g:=tree_good hL h
 have s:=tree_size hL g
 generalize (kqn L).1 = t at g s
 have rok : ∀ r ∈ t.rules ++ t.nevers,RuleOk r:=fun r hr=>by
  rcases List.mem_append.mp hr with hr | hr
  ·exact g.rules r hr
  ·exact (g.nevers r hr).1
 have nmG : ∀ r ∈ t.rules ++ t.nevers,r.params.length≤1000∧(∀ p ∈ r.params,p.name.text.size≤1000∧p.set_.text.size≤1000)∧(∀ y ∈ jh r.guard,y.text.size≤1000)∧BLen r.body∧vg r.body≤1000∧(∀ y ∈ zi r.body,y.text.size≤1000):=fun r hr=>by
  obtain ⟨x,b,bl⟩:=rok r hr
  obtain ⟨e1,e2,e3⟩:=rule_len (s.all r hr)
  refine ⟨by omega,fun p hp=>?_,fun y hy=>?_,b.len,by rw [plen_blen]; omega,fun y hy=>?_⟩
  ·have a1:=(s.nm _ (mem_rules hr (mem_par hp).1)).2
   have a2:=(s.nm _ (mem_rules hr (mem_par hp).2)).2
   omega
  ·rw [kjb x] at hy
   have:=(s.nm _ (mem_rules hr (mem_guard hy))).2
   omega
  ·rw [namesB_well b] at hy
   have:=(s.nm _ (mem_rules hr (mem_body hy))).2
   omega
 refine ⟨⟨?_,?_,?_,?_,?_,?_,?_⟩,⟨?_,?_,?_,?_,?_⟩,⟨?_,?_,?_⟩,⟨?_,?_⟩,?_⟩
 ·exact Nat.le_trans s.sets (by omega)
 ·exact Nat.le_trans s.kinds (by omega)
 ·show (t.vars.map vrOf).length≤1000; rw [List.length_map]; exact Nat.le_trans s.vars (by omega)
 ·exact Nat.le_trans s.rules (by omega)
 ·exact Nat.le_trans s.nevers (by omega)
 ·intro k hk; exact Nat.le_trans (s.members k hk) (by omega)
 ·intro r hr; exact (nmG r hr).1
 ·intro x hx; have:=(s.nm _ (mem_sets hx)).2; omega
 ·intro k hk
  refine ⟨?_,fun x hx=>?_⟩
  ·have:=(s.nm _ (mem_kinds hk (List.mem_cons_self ..))).2; omega
  ·have:=(s.nm _ (mem_kinds hk (List.mem_cons_of_mem _ hx))).2; omega
 ·intro v hv
  obtain ⟨v0,hv0,rfl⟩:=List.mem_map.mp (show v ∈ t.vars.map vrOf from hv)
  have:=(s.nm _ (mem_vars hv0 (List.mem_cons_self ..))).2
  show v0.name.text.size≤1000
  omega
 ·intro r hr
  have:=(s.nm _ (mem_rules (List.mem_append_left _ hr) (List.mem_cons_self ..))).2; omega
 ·intro r hr
  have:=(s.nm _ (mem_rules (List.mem_append_right _ hr) (List.mem_cons_self ..))).2; omega
 ·intro v hv
  obtain ⟨v0,hv0,rfl⟩:=List.mem_map.mp (show v ∈ t.vars.map vrOf from hv)
  have:=vr_sizes s hv0 (g.vars v0 hv0)
  omega
 ·intro r hr; exact nmG r (List.mem_append_left _ hr)
 ·intro r hr
  obtain ⟨a,b,c,_⟩:=nmG r (List.mem_append_right _ hr)
  exact ⟨a,b,c⟩
 ·intro r hr
  obtain ⟨x,b,_⟩:=rok r (List.mem_append_left _ hr)
  exact ⟨x.full,x.some,b.full⟩
 ·intro r hr
  obtain ⟨x,_⟩:=rok r (List.mem_append_right _ hr)
  exact ⟨x.full,x.some⟩
 ·intro q
  have noV : noVar.si.name.text.size≤1000:=by show jg.text.size≤1000; rw [noTok_size]; omega
  have all : ∀ x ∈ globE (mdOf t),x.2.var.si.name.text.size≤1000:=by
   intro x hx
   unfold globE at hx
   simp only [List.mem_append,List.mem_flatMap] at hx
   rcases hx with ⟨q,hq,hx⟩ | ⟨q,hq,hx⟩ | ⟨q,hq,hx⟩ | ⟨q,hq,hx⟩ | ⟨q,hq,hx⟩
   ·unfold entS at hx; rw [List.mem_singleton] at hx; subst hx; exact noV
   ·unfold entK at hx
    rw [List.mem_cons,List.mem_map] at hx
    rcases hx with rfl | ⟨y,hy,rfl⟩
    ·exact noV
    ·exact noV
   ·unfold entVr at hx; rw [List.mem_singleton] at hx; subst hx
    obtain ⟨v0,hv0,rfl⟩:=List.mem_map.mp (show q ∈ t.vars.map vrOf from hq)
    have:=(vr_sizes s hv0 (g.vars v0 hv0)).2
    show (vrOf v0).si.name.text.size≤1000
    omega
   ·unfold entRu at hx; rw [List.mem_singleton] at hx; subst hx; exact noV
   ·unfold entNv at hx; rw [List.mem_singleton] at hx; subst hx; exact noV
  rw [look_gather]
  rcases findE_cases (globE (mdOf t)) q with ⟨e,_⟩ | ⟨j,hj,_,_,e⟩
  ·rw [e]; exact noV
  ·rw [e]; exact all _ (List.getElem_mem hj)
end Go.Proofs.YtpmcnonmkghokaaGreatDoor
namespace Go.Proofs.YtpmcnonmkghokaaGreatDoor
open Go.RowKit
attribute [local go_sem ↓] Go.wp_at_zero Go.wp_at_succ
set_option maxRecDepth 100000 in
set_option maxHeartbeats 8000000 in
theorem text_any (s : ByteArray) (w : World) : Calls Tryz.prog 33 #[.string s] w fun e w'=>TxPost s w e w':=by
 have hsl : ∀ a : Option Addr,∀ l c : Nat,∃ a' l' c',Value.slice a l c = .slice a' l' c':=fun a l c=>⟨a,l,c,rfl⟩
 by_cases hbig : 800 < s.size
 ·have hE : chkC s = (1,0):=by unfold chkC; rw [if_pos hbig]
  have HE:=hide hE
  have HX:=hide (qg w (.cells #[.slice none 0 0,.slice none 0 0,.slice none 0 0,.slice none 0 0,.slice none 0 0] 68))
  clear hE
  go_enter Tryz.func33,Tryz.ntmps33
  go_wp2
  refine bodyPost_ret (vk Tryz.results33 _ _ w.heap.size _ _ _ _ rfl (ku HX) Tryz.underlying68 rfl (by kernel_rfl)) rfl ?_
  unfold TxPost
  rw [ku HE]
  exact ⟨below_alloc1 _ _,_,_,_,_,_,rfl,(fun e=>by cases e),hsl _ _ _,hsl _ _ _,hsl _ _ _,hsl _ _ _,hsl _ _ _⟩
 ·have hss : s.size≤800:=by omega
  have hE : chkC s = match (dn s).2 with | some k=>(2,(k : Int)) | none=>match (kqn (dn s).1).2 with | some k=>(3,(k : Int)) | none=>treeC (mdOf (kqn (dn s).1).1):=by unfold chkC; rw [if_neg hbig] <;> rfl
  have HE:=hide hE
  clear hE
  go_enter Tryz.func33,Tryz.ntmps33
  go_wp2_with fail
  refine (scan_any s _ hss).mono ?_
  rintro e w1 ⟨hb1,hp⟩
  have hX1:=(hb1.block w.heap.size (by simp)).trans (qg _ _)
  have HB1:=hide ((below_alloc1 w (.cells #[.slice none 0 0,.slice none 0 0,.slice none 0 0,.slice none 0 0,.slice none 0 0] 68)).trans (hb1.mono (by simp)))
  have HX1:=hide hX1
  have hz1:=hb1.size
  simp at hz1
  obtain ⟨x0,x1,x2,x3,x4,f0,f1,f2,f3,f4⟩:=zh hX1
  rcases hp with ⟨hno,v,rfl,hv⟩ | ⟨k,hk,rfl⟩
  ·rw [hno] at HE
   have hL:=refToks_ok s hss hno
   have HV:=hide (zx (Nat.zero_le _) hv)
   obtain ⟨va,vl,vc,rfl⟩:=zy hv
   clear hb1 hX1 hv
   go_wp2_with fail
   refine (parse_any w1 _ _ hL (ku HV)).mono ?_
   rintro e w2 ⟨hb2,hp⟩
   have hX2:=(hb2.block w.heap.size (by omega)).trans (ku HX1)
   have HB2:=hide ((ku HB1).trans (hb2.mono (by omega)))
   have HX2:=hide hX2
   have hz2:=hb2.size
   clear x0 x1 x2 x3 x4 f0 f1 f2 f3 f4
   obtain ⟨x0,x1,x2,x3,x4,f0,f1,f2,f3,f4⟩:=zh hX2
   rcases hp with ⟨hno2,y0,y1,y2,y3,y4,rfl,hmd⟩ | ⟨k,hk,rfl⟩
   ·rw [hno2] at HE
    have hall:=md_all hL hno2
    obtain ⟨⟨a0,n0,k0,rfl⟩,⟨a1,n1,k1,rfl⟩,⟨a2,n2,k2,rfl⟩,⟨a3,n3,k3,rfl⟩,⟨a4,n4,k4,rfl⟩⟩:=mdis_slices hmd
    have HMD:=hide (hmd.mono (show w.heap.size + 1≤w1.heap.size by omega))
    obtain ⟨m,hm⟩ : ∃ m,m = mdOf (kqn (dn s).1).1:=⟨_,rfl⟩
    rw [← hm] at HE HMD hall
    have HMM:=hide hm
    have HTC:=hide (ptree_any (w2.alloc (.cells #[.slice a0 n0 k0,.slice a1 n1 k1,.slice a2 n2 k2,.slice a3 n3 k3,.slice a4 n4 k4] 68)) (w.heap.size + 1) _ _ _ _ _ m ((ku HMD).below (below_alloc1 _ _)) hall)
    clear hm
    clear hb2 hX2 hmd hall
    go_wp2_with fail
    refine (ku HTC).mono ?_
    rintro e w3 ⟨rfl,hb3⟩
    have hz3:=hb3.size
    simp at hz3
    have hX3:=(hb3.block w.heap.size (by simp; omega)).trans (ql (ku HX2))
    have hM3:=(hb3.block w2.heap.size (by simp)).trans (qg _ _)
    have HB3:=hide (((ku HB2).alloc (by omega) _).trans (hb3.mono (by simp; omega)))
    have HMD3:=hide (((ku HMD).below (below_alloc1 _ _)).below hb3)
    have HX3:=hide hX3
    clear x0 x1 x2 x3 x4 f0 f1 f2 f3 f4
    obtain ⟨x0,x1,x2,x3,x4,f0,f1,f2,f3,f4⟩:=zh hX3
    obtain ⟨g0,g1,g2,g3,g4,_⟩:=zh hM3
    have hlX:=lt_of_block hX3
    have hlM:=lt_of_block hM3
    clear hb3 hX3 hM3 HTC
    go_wp2
    refine bodyPost_ret (vk Tryz.results33 _ _ w.heap.size _ _ _ _ rfl (kqd (ku HX3) _ _ _ _ _) Tryz.underlying68 rfl (by kernel_rfl)) rfl ?_
    unfold TxPost
    rw [← ku HMM,ku HE]
    exact ⟨kjt (ku HB3) _ _ _ _ _,_,_,_,_,_,rfl,fun _=>((ku HMD3).stay ((xu.refl _ w3).set5 (b:=w.heap.size) (Or.inl (by omega)) _ _ _ _ _).block).mono (by omega),hsl _ _ _,hsl _ _ _,hsl _ _ _,hsl _ _ _,hsl _ _ _⟩
   ·rw [hk] at HE
    have hlX:=lt_of_block hX2
    clear hb2 hX2
    go_wp2
    refine bodyPost_ret (vk Tryz.results33 _ _ w.heap.size _ _ _ _ rfl (ql (kqd (ku HX2) _ _ _ _ _)) Tryz.underlying68 rfl (by kernel_rfl)) rfl ?_
    unfold TxPost
    rw [ku HE]
    exact ⟨(kjt (ku HB2) _ _ _ _ _).alloc (by simp [World.setCell]; omega) _,_,_,_,_,_,rfl,(fun e=>by cases e),hsl _ _ _,hsl _ _ _,hsl _ _ _,hsl _ _ _,hsl _ _ _⟩
  ·rw [hk] at HE
   clear hb1 hX1
   go_wp2
   refine bodyPost_ret (vk Tryz.results33 _ _ w.heap.size _ _ _ _ rfl (kqd (ku HX1) _ _ _ _ _) Tryz.underlying68 rfl (by kernel_rfl)) rfl ?_
   unfold TxPost
   rw [ku HE]
   exact ⟨kjt (ku HB1) _ _ _ _ _,_,_,_,_,_,rfl,(fun e=>by cases e),hsl _ _ _,hsl _ _ _,hsl _ _ _,hsl _ _ _,hsl _ _ _⟩
set_option maxRecDepth 100000 in
set_option maxHeartbeats 2000000 in
theorem check_any (s : ByteArray) (w : World) : Calls Tryz.prog 16 #[.string s] w fun e w'=>e = .returned (.tuple #[.int .i64 (chkC s).1,.int .i64 (chkC s).2])∧Below w.heap.size w w':=by
 go_enter Tryz.func16,Tryz.ntmps16
 go_wp2_with fail
 refine (text_any s w).mono ?_
 rintro e w1 ⟨hb1,x0,x1,x2,x3,x4,rfl,_,⟨a0,n0,k0,rfl⟩,⟨a1,n1,k1,rfl⟩,⟨a2,n2,k2,rfl⟩,⟨a3,n3,k3,rfl⟩,⟨a4,n4,k4,rfl⟩⟩
 have HB:=hide hb1
 have hz:=hb1.size
 clear hb1
 go_wp2
 go_ret2
 exact ⟨rfl,(ku HB).alloc hz _⟩
abbrev MOut:=MView × Bool × Int × Int
def noView : MView:=⟨⟨#[]⟩,[],[],[]⟩
def wlkO (a : Mach) : List ByteArray→Nat→List Int→Option MOut
 | [],_,st=>if st.length≤1000000 then (lookO a st).map fun v=>(v,mvDead v,0,0) else none
 | t :: l,i,st=>if st.length≤1000000 then (behO a.vars a.tab st t.toList a.steps).bind fun r=>if r.2 then wlkO a l (i + 1) r.1 else some (noView,false,7,i) else none
def walkO (a : Mach) (ts : List ByteArray) : Option MOut:=if 60 < ts.length then some (noView,false,8,0) else if a.size≤1000000 then wlkO a ts 0 (List.replicate a.size 0) else none
def WalkPost (w : World) (r : MOut) (e : Ending) (w' : World) : Prop:=
 ∃ ea en ec wa wn wc ba bn bc,e = .returned (.tuple #[.agg #[.string r.1.text,.slice ea en ec,.slice wa wn wc,.slice ba bn bc,.bool r.2.1],.int .i64 r.2.2.1,.int .i64 r.2.2.2])∧w'.ownsRow w.heap.size 9 1 (.slice ea en ec) r.1.enabled.length (r.1.enabled.map Value.string)∧w'.ownsRow w.heap.size 9 1 (.slice wa wn wc) r.1.wrong.length (r.1.wrong.map Value.string)∧w'.ownsRow w.heap.size 9 1 (.slice ba bn bc) r.1.broken.length (r.1.broken.map Value.string)∧Below w.heap.size w w'
structure MachIs (so : Nat) (w : World) (M nb : Nat) (a : Mach) : Prop where
 mc : Mc 0 w M nb a.vars a.tab
 steps : ∃ ta tc cs,w.cell? ⟨M,0,none⟩ = some (.slice ta a.steps.length tc)∧w.ownsRow 0 178 6 (.slice ta a.steps.length tc) a.steps.length cs∧StepsIs 0 so w M a.steps cs
 nevers : ∃ na nc ds,w.cell? ⟨M,1,none⟩ = some (.slice na a.nevers.length nc)∧w.ownsRow 0 208 5 (.slice na a.nevers.length nc) a.nevers.length ds∧NevsIs 0 so w M a.nevers ds
 size : w.cell? ⟨M,5,none⟩ = some (.int .i64 a.size)
 lt : M < w.heap.size
theorem MachIs.below {so : Nat} {w w' : World} {M nb : Nat} {a : Mach} (h : MachIs so w M nb a) (hb : Below w.heap.size w w') : MachIs so w' M nb a:=by
 have hk:=jc hb none []
 have nr:=jy.none w
 obtain ⟨h0,⟨ta,tc,cs,h1,h2,h3⟩,⟨na,nc,ds,h4,h5,h6⟩,h7,h8⟩:=h
 exact ⟨h0.below hb,⟨ta,tc,cs,(hb.cell (p:=⟨M,0,none⟩) h8).trans h1,qy h2 hb,h3.tk hk nr (by simp) (by simp)⟩,⟨na,nc,ds,(hb.cell (p:=⟨M,1,none⟩) h8).trans h4,qy h5 hb,h6.tk hk nr (by simp) (by simp)⟩,(hb.cell (p:=⟨M,5,none⟩) h8).trans h7,Nat.lt_of_lt_of_le h8 hb.size⟩
theorem kqt.mach {lo so : Nat} {w : World} {M nb : Nat} {a : Mach} {sv nv tv vv : Value} (h : kqt lo so w M nb a.steps a.nevers a.sets a.vars a.tab a.size sv nv tv vv) : MachIs so w M nb a:=by
 obtain ⟨h0,⟨c1,h1,k1⟩,⟨c2,h2,k2⟩,h3,⟨c4,h4,k4⟩,h5,h6,h7⟩:=h
 obtain ⟨ta,tc,e1,_⟩:=qm h1
 obtain ⟨na,nc,e2,_⟩:=qm h2
 obtain ⟨va,vc,e4,_⟩:=qm h4
 subst e1; subst e2; subst e4
 obtain ⟨m0,m1,m2,m3,m4,m5,_⟩:=row6 h0
 exact ⟨⟨⟨_,_,_,va,vc,_,c4,h0,zx (Nat.zero_le _) h4,k4⟩,h5⟩,⟨ta,tc,c1,m0,zx (Nat.zero_le _) h1,k1⟩,⟨na,nc,c2,m1,zx (Nat.zero_le _) h2,k2⟩,m5,lt_of_block h0⟩
structure MachOk (a : Mach) : Prop where
 steps : ∀ s ∈ a.steps,StepOk s
 nevers : ∀ s ∈ a.nevers,NevOk s
 vars : a.vars.length≤1000
 sl : a.steps.length≤1000000
 nl : a.nevers.length≤1000000
set_option maxRecDepth 100000 in
set_option maxHeartbeats 8000000 in
theorem walk_any (w : World) (so M nb : Nat) (a : Mach) (ts : List ByteArray) (pa : Option Addr) (pn pc : Nat) (h : MachIs so w M nb a) (hok : MachOk a) (hP : w.ownsRow 0 9 1 (.slice pa pn pc) ts.length (ts.map Value.string)) (htl : ts.length≤1000000) (r : MOut) (hr : walkO a ts = some r) :
  Calls Tryz.prog 34 #[.pointer (some ⟨M,0,none⟩),.slice pa pn pc] w fun e w'=>WalkPost w r e w':=by
 obtain ⟨za,zc,ez,hview⟩:=qm hP
 injection ez with ez1 ez2 ez3
 subst ez1; subst ez2; subst ez3
 obtain ⟨W,hW⟩ : ∃ W,W = w.alloc (.cells #[.string ⟨#[]⟩,.slice none 0 0,.slice none 0 0,.slice none 0 0,.bool false] 24):=⟨_,rfl⟩
 have hbW : Below w.heap.size w W:=by rw [hW]; exact below_alloc1 w _
 have hsW : w.heap.size < W.heap.size:=by rw [hW]; simp
 have hR : W.heap[w.heap.size]? = some (.cells #[.string ⟨#[]⟩,.slice none 0 0,.slice none 0 0,.slice none 0 0,.bool false] 24 (0,0)):=by rw [hW]; exact qg _ _
 have HNO:=hide (fun (wx : World) (hb : Below w.heap.size w wx) (hx : wx.heap[w.heap.size]? = some (.cells #[.string ⟨#[]⟩,.slice none 0 0,.slice none 0 0,.slice none 0 0,.bool false] 24 (0,0))) (e : Int) (p : Int)=>(show WalkPost w (noView,false,e,p) (.returned (.tuple #[.agg #[.string ⟨#[]⟩,.slice none 0 0,.slice none 0 0,.slice none 0 0,.bool false],.int .i64 e,.int .i64 p])) (((((wx.setCell ⟨w.heap.size,0,none⟩ (.string ⟨#[]⟩)).setCell ⟨w.heap.size,1,none⟩ (.slice none 0 0)).setCell ⟨w.heap.size,2,none⟩ (.slice none 0 0)).setCell ⟨w.heap.size,3,none⟩ (.slice none 0 0)).setCell ⟨w.heap.size,4,none⟩ (.bool false)) from
  ⟨none,0,0,none,0,0,none,0,0,rfl,World.ownsRow_nil _ _ _ _,World.ownsRow_nil _ _ _ _,World.ownsRow_nil _ _ _ _,kjt hb _ _ _ _ _⟩))
 have HR:=hide hR
 have HBW:=hide hbW
 have HWE:=hide hW.symm
 have HVIEW:=hide hview
 have HMI:=hide h
 have HOK:=hide hok
 obtain ⟨r0,r1,r2,r3,r4,y0,y1,y2,y3,y4⟩:=zh hR
 unfold walkO at hr
 by_cases hbig : 60 < ts.length
 ·rw [if_pos hbig] at hr
  injection hr with hr
  subst hr
  have hbig2 : (60 : Int) < ts.length:=by omega
  have HE:=hide ((ku HNO) W hbW hR 8 0)
  clear hview hP h hok hbW hW hR HNO HVIEW HMI HOK r0 r1 r2 r3 r4 y0 y1 y2 y3 y4
  go_enter Tryz.func34,Tryz.ntmps34
  go_wp2
  refine bodyPost_ret (v:=.tuple #[.agg #[.string ⟨#[]⟩,.slice none 0 0,.slice none 0 0,.slice none 0 0,.bool false],.int .i64 8,.int .i64 0]) (vk Tryz.results34 _ _ w.heap.size _ _ _ _ rfl (qg _ _) Tryz.underlying24 rfl (by kernel_rfl)) rfl ?_
  exact ⟨none,0,0,none,0,0,none,0,0,rfl,World.ownsRow_nil _ _ _ _,World.ownsRow_nil _ _ _ _,World.ownsRow_nil _ _ _ _,below_alloc1 _ _⟩
 ·rw [if_neg hbig] at hr
  have hsz0 : a.size≤1000000:=by
   apply Classical.byContradiction
   intro hc
   rw [if_neg hc] at hr
   cases hr
  rw [if_pos hsz0] at hr
  have hbig2 : ¬ (60 : Int) < ts.length:=by omega
  have HFS:=hide (first_state W M a.size (h.below hbW).size hsz0)
  have HRST:=hide hr
  clear hview hP h hok hbW hW hR hr r0 r1 r2 r3 r4 y0 y1 y2 y3 y4
  go_enter Tryz.func34,Tryz.ntmps34
  go_wp2_with fail
  rw [ku HWE]
  refine (ku HFS).mono ?_
  rintro e w1 ⟨v1,rfl,ho1,hb1⟩
  obtain ⟨xa,xn,xc,rfl⟩:=zy ho1
  have hs1:=hb1.size
  have HO1:=hide (show w1.ownsRow 0 5 1 (.slice xa xn xc) (List.replicate a.size (0 : Int)).length ((List.replicate a.size (0 : Int)).map (Value.int .u8)) by rw [List.length_replicate]; exact zx (Nat.zero_le _) ho1)
  have HB1:=hide ((ku HBW).trans (hb1.mono (by omega)))
  have HR1:=hide ((hb1.block w.heap.size hsW).trans (ku HR))
  clear ho1 hb1 HFS HR
  go_wp2_with fail
  go_loopw [7,8,9,10,11,20] (fun x _ _ _ _ i wr=>∃ (k : Nat) (st : List Int) (sa : Option Addr) (sn sc : Nat),k≤ts.length∧i = .int .i64 k∧x = .slice sa sn sc∧wr.ownsRow 0 5 1 (.slice sa sn sc) st.length (st.map (Value.int .u8))∧wlkO a (ts.drop k) k st = some r∧Below w.heap.size w wr∧wr.heap[w.heap.size]? = some (.cells #[.string ⟨#[]⟩,.slice none 0 0,.slice none 0 0,.slice none 0 0,.bool false] 24 (0,0))) (fun _ _ _ _ _ i _=>ts.length - (intOf i).toNat)
  case atStart=>exact ⟨0,_,xa,xn,xc,Nat.zero_le _,rfl,rfl,ku HO1,ku HRST,ku HB1,ku HR1⟩
  case round=>
   obtain ⟨k,st,sa,sn,sc,hk,rfl,rfl,ho,hrest,hb,hrr⟩:=hrel
   have hsz:=hb.size
   have hRl:=lt_of_block hrr
   by_cases hlt : k < ts.length
   ·obtain ⟨g,rfl,hg1,hg2,hc⟩:=ku HVIEW k hlt
    have e0 : wr.cell? ⟨g,k,none⟩ = some (.string ts[k]):=by
     rw [hb.cell (p:=⟨g,k,none⟩) hg2,hc k (by omega),List.getElem?_map,List.getElem?_eq_getElem hlt]; rfl
    rw [List.drop_eq_getElem_cons hlt,wlkO] at hrest
    have hstl : st.length≤1000000:=by
     apply Classical.byContradiction
     intro hc
     rw [if_neg hc] at hrest
     cases hrest
    rw [if_pos hstl] at hrest
    obtain ⟨q,hq,hrest⟩:=Option.bind_eq_some_iff.mp hrest
    obtain ⟨h0,⟨ta,tc,cs,h1,h2,h3⟩,_,_,_⟩:=(ku HMI).below hb
    have HBE:=hide (behind_any wr 0 so M nb a.vars a.tab a.steps st ts[k] sa ta sn sc tc cs h0 ho h1 h2 h3 (ku HOK).steps (ku HOK).vars hstl (ku HOK).sl (Nat.zero_le _) q hq)
    have HREST:=hide hrest
    have HB:=hide hb
    have HRR:=hide hrr
    generalize ts[k] = t at *
    clear hc ho hrest hb hrr h0 h1 h2 h3 hq
    go_wp2_with fail
    refine (ku HBE).mono ?_
    rintro e w5 ⟨v5,rfl,ho5,hb5⟩
    obtain ⟨a5,l5,c5,rfl⟩:=zy ho5
    have hs5:=hb5.size
    have HO5:=hide (zx (Nat.zero_le _) ho5)
    have hbw5:=(ku HB).trans (hb5.mono hsz)
    have hR5:=(hb5.block w.heap.size hRl).trans (ku HRR)
    obtain ⟨r0,r1,r2,r3,r4,y0,y1,y2,y3,y4⟩:=zh hR5
    have hRl5:=lt_of_block hR5
    cases hq2 : q.2
    ·have hE : r = (noView,false,7,(k : Int)):=by
      have:=ku HREST
      rw [hq2,if_neg (by simp)] at this
      injection this with this
      exact this.symm
     subst hE
     have HE:=hide ((ku HNO) w5 hbw5 hR5 7 k)
     have HR5:=hide hR5
     clear ho5 hb5 hbw5 hR5 HREST HBE
     go_wp2
     refine bodyPost_ret (v:=.tuple #[.agg #[.string ⟨#[]⟩,.slice none 0 0,.slice none 0 0,.slice none 0 0,.bool false],.int .i64 7,.int .i64 k]) (vk Tryz.results34 _ _ w.heap.size _ _ _ _ rfl (kqd (ku HR5) _ _ _ _ _) Tryz.underlying24 rfl (by kernel_rfl)) rfl ?_
     exact ku HE
    ·have HRS:=hide (show wlkO a (ts.drop (k + 1)) (k + 1) q.1 = some r by have:=ku HREST; rw [hq2,if_pos rfl] at this; exact this)
     have HBw5:=hide hbw5
     have HR5:=hide hR5
     clear ho5 hb5 hbw5 hR5 HREST HBE r0 r1 r2 r3 r4 y0 y1 y2 y3 y4
     go_wp2
     go_roundw
     case rel=>exact ⟨k + 1,q.1,a5,l5,c5,by omega,by go_num,rfl,ku HO5,ku HRS,ku HBw5,ku HR5⟩
     case measure=>simp [intOf]; omega
   ·have : k = ts.length:=by omega
    subst this
    rw [List.drop_length,wlkO] at hrest
    have hstl : st.length≤1000000:=by
     apply Classical.byContradiction
     intro hc
     rw [if_neg hc] at hrest
     cases hrest
    rw [if_pos hstl] at hrest
    obtain ⟨v,hv,hrest⟩:=Option.map_eq_some_iff.mp hrest
    subst hrest
    obtain ⟨h0,⟨ta,tc,cs,h1,h2,h3⟩,⟨na,nc,ds,h4,h5,h6⟩,_,_⟩:=(ku HMI).below hb
    have HLO:=hide (look_any wr 0 so M nb a st sa ta na sn sc tc nc cs ds h0 ho h1 h2 h3 (ku HOK).steps h4 h5 h6 (ku HOK).nevers (ku HOK).vars hstl (ku HOK).sl (ku HOK).nl (Nat.zero_le _) v hv)
    have HB:=hide hb
    have HRR:=hide hrr
    clear ho hb hrr h0 h1 h2 h3 h4 h5 h6 hv
    go_wp2_with fail
    refine (ku HLO).mono ?_
    rintro e w5 ⟨x5,rfl,⟨ea,en,ec,wa,wn,wc,ba,bn,bc,rfl,hp1,hp2,hp3⟩,hb5⟩
    have hs5:=hb5.size
    have hbw5:=(ku HB).trans (hb5.mono hsz)
    have hR5:=(hb5.block w.heap.size hRl).trans (ku HRR)
    obtain ⟨r0,r1,r2,r3,r4,y0,y1,y2,y3,y4⟩:=zh hR5
    have hRl5:=lt_of_block hR5
    have K:=set5_tk hR5 (bad:=[24]) (by decide) (.string v.text) (.slice ea en ec) (.slice wa wn wc) (.slice ba bn bc) (.bool (mvDead v))
    have HE:=hide (show WalkPost w (v,mvDead v,0,0) (.returned (.tuple #[.agg #[.string v.text,.slice ea en ec,.slice wa wn wc,.slice ba bn bc,.bool (mvDead v)],.int .i64 0,.int .i64 0])) _ from ⟨ea,en,ec,wa,wn,wc,ba,bn,bc,rfl,zx hsz (zk hp1 K (jy.none _) (by decide)),zx hsz (zk hp2 K (jy.none _) (by decide)),zx hsz (zk hp3 K (jy.none _) (by decide)),kjt hbw5 _ _ _ _ _⟩)
    have HR5:=hide hR5
    clear hp1 hp2 hp3 hb5 hbw5 hR5 K HLO
    go_wp2
    refine bodyPost_ret (v:=.tuple #[.agg #[.string v.text,.slice ea en ec,.slice wa wn wc,.slice ba bn bc,.bool (mvDead v)],.int .i64 0,.int .i64 0]) (vk Tryz.results34 _ _ w.heap.size _ _ _ _ rfl (kqd (ku HR5) _ _ _ _ _) Tryz.underlying24 rfl (by kernel_rfl)) rfl ?_
    exact ku HE
end Go.Proofs.YtpmcnonmkghokaaGreatDoor

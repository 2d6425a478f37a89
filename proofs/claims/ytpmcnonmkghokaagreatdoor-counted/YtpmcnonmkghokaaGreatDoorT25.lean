import Derived.Test.YtpmcnonmkghokaaGreatDoorT24
import Derived.Test.YtpmcnonmkghokaaGreatDoorT14
import Derived.Test.YtpmcnonmkghokaaGreatDoorT23
set_option linter.unusedVariables false
set_option linter.unusedSimpArgs false
namespace Go.Proofs.YtpmcnonmkghokaaGreatDoor
open Go.RowKit
attribute [local go_sem ↓] Go.wp_at_zero Go.wp_at_succ
theorem intsOne (l : List Int) : ∀ y ∈ l.map (Value.int .i64),y.oneCell' = true:=by
 intro y hy
 obtain ⟨x,_,rfl⟩:=List.mem_map.mp hy
 rfl
def splL (l : List Value) (o : Nat) : List Value→List Value
 | []=>l
 | v :: r=>splL (l.set o v) (o + 1) r
theorem kjo : ∀ (r l : List Value) (o : Nat),o + r.length≤l.length→splL l o r = l.take o ++ (r ++ l.drop (o + r.length))
 | [],l,o,_=>by simp [splL]
 | v :: r,l,o,h=>by
  simp only [List.length_cons] at h
  rw [splL,kjo r _ _ (by simp; omega)]
  have h1 : (l.set o v).take (o + 1) = l.take o ++ [v]:=by
   rw [List.set_eq_take_append_cons_drop,if_pos (by omega),List.take_append]
   have : (l.take o).length = o:=by simp; omega
   rw [this,List.take_of_length_le (by omega),show o + 1 - o = 1 by omega]; simp
  have h2 : (l.set o v).drop (o + 1 + r.length) = l.drop (o + (r.length + 1)):=by
   rw [List.drop_set_of_lt (by omega),show o + 1 + r.length = o + (r.length + 1) by omega]
  rw [h1,h2]
  simp
theorem kqh (b : Nat) {t : TypeId} : ∀ (vs : List Value) (o : Nat) (w : World) (cur : List Value),w.heap[b]? = some (.cells cur.toArray t (0,0))→(w.setCells b o vs).heap[b]? = some (.cells (splL cur o vs).toArray t (0,0))
 | [],_,_,_,h=>h
 | v :: r,o,w,cur,h=>by
  rw [World.setCells,splL]
  refine kqh b r (o + 1) _ _ ?_
  rw [heap_setCell_same w b o _ _ v h]
  simp
theorem kjj {B b : Nat} (hb : B≤b) : ∀ (vs : List Value) (o : Nat) (w : World),Below B w (w.setCells b o vs)
 | [],_,w=>Below.refl _ _
 | v :: r,o,w=>by
  rw [World.setCells]
  exact (show Below B w (w.setCell ⟨b,o,none⟩ v) from ⟨rfl,rfl,rfl,by simp [World.setCell],fun k hk=>Below.heap_setCell _ _ _ _ (by show k≠b; omega)⟩).trans (kjj hb r _ _)
theorem ins_list (cs r : List Value) (k : Nat) (v : Value) (hk : k≤cs.length) (hr : 1≤r.length) : (splL (splL (cs ++ r) (k + 1) (cs.drop k)) k [v]).take (cs.length + 1) = cs.take k ++ v :: cs.drop k:=by
 have hl : (cs.drop k).length = cs.length - k:=List.length_drop
 rw [kjo (cs.drop k) _ _ (by simp; omega)]
 have hA : ((cs ++ r).take (k + 1)).length = k + 1:=by simp; omega
 have hT : ((cs ++ r).take (k + 1)).take k = cs.take k:=by rw [List.take_take,show min k (k + 1) = k by omega,List.take_append_of_le_length hk]
 generalize (cs ++ r).take (k + 1) = A at *
 generalize (cs ++ r).drop (k + 1 + (cs.drop k).length) = R
 rw [kjo [v] _ _ (by simp; omega)]
 simp only [List.length_singleton]
 have h1 : (A ++ (cs.drop k ++ R)).take k = cs.take k:=by rw [List.take_append_of_le_length (by omega),hT]
 have h2 : (A ++ (cs.drop k ++ R)).drop (k + 1) = cs.drop k ++ R:=List.drop_left' hA
 rw [h1,h2,← List.append_assoc [v],← List.append_assoc]
 exact (List.take_left' (by simp; omega)).trans (by simp)
theorem ins_list2 (cs Z : List Value) (k : Nat) (v : Value) (hk : k < cs.length) (hZ : cs.length + 1 - k≤Z.length) : (splL (splL (cs.take k ++ Z) k [v]) (k + 1) (cs.drop k)).take (cs.length + 1) = cs.take k ++ v :: cs.drop k:=by
 have hl : (cs.drop k).length = cs.length - k:=List.length_drop
 have hA : (cs.take k).length = k:=by simp; omega
 rw [kjo [v] _ _ (by simp; omega),List.take_left' hA]
 rw [kjo (cs.drop k) _ _ (by simp; omega)]
 have h1 : (cs.take k ++ ([v] ++ (cs.take k ++ Z).drop (k + [v].length))).take (k + 1) = cs.take k ++ [v]:=by
  rw [← List.append_assoc]
  exact List.take_left' (by simp; omega)
 rw [h1,← List.append_assoc]
 exact (List.take_left' (by simp; omega)).trans (by simp)
def InsPost (B : Nat) (w : World) (l : List Int) (e : Ending) (w' : World) : Prop:=∃ ra rn rc,e = .returned (.slice ra rn rc)∧w'.ownsRow B 3 1 (.slice ra rn rc) l.length (l.map (Value.int .i64))∧Below B w w'
set_option maxRecDepth 100000 in
theorem insInts_any (w : World) (B : Nat) (o : List Int) (k : Nat) (x : Int) (sa : Option Addr) (sn sc vb : Nat) (hS : w.ownsRow B 3 1 (.slice sa sn sc) o.length (o.map (Value.int .i64))) (hV : w.heap[vb]? = some (.cells #[.int .i64 x] 3 (0,0))) (hvb : (Value.slice sa sn sc).ownBlock≠some vb) (hk : k≤o.length) (hl : o.length≤1000000) (hB : B≤w.heap.size) :
  Calls Tryz.prog 184 #[.slice sa sn sc,.int .i64 k,.slice (some ⟨vb,0,none⟩) 1 1] w (InsPost B w (insAt x o k)):=by
 have hvs : ∀ j v,[Value.int .i64 x][j]? = some v→w.cell? ⟨vb,0 + j,none⟩ = some v:=by
  intro j v hj
  have : j = 0:=by
   rcases Nat.lt_or_ge j 1 with h | h
   ·omega
   ·rw [List.getElem?_eq_none (by simpa using h)] at hj; cases hj
  subst this
  simp at hj
  subst hj
  simp [World.cell?,hV]
 have h1v : ∀ v ∈ [Value.int .i64 x],v.oneCell' = true:=by simp [Value.oneCell']
 have hlen : (insAt x o k).length = o.length + 1:=insAt_len x o k hk
 have hmap : (insAt x o k).map (Value.int .i64) = (o.map (Value.int .i64)).take k ++ Value.int .i64 x :: (o.map (Value.int .i64)).drop k:=by simp [insAt]
 have hcl : (o.map (Value.int .i64)).length = o.length:=by simp
 have hnew : ∀ (base : Option Addr) (c : Nat),k = o.length→(base = none→o.length = 0)→(∀ a,base = some a→∀ j v,(o.map (Value.int .i64))[j]? = some v→w.cell? (a.add j) = some v)→o.length≤c→c < o.length + 1 →
   Calls Tryz.prog 184 #[.slice base o.length c,.int .i64 k,.slice (some ⟨vb,0,none⟩) 1 1] w (InsPost B w (insAt x o k)):=by
  intro base c hke hnil hcs hnc hroom
  subst hke
  have hcon:=Any2.slices_Insert_int_end_grow Tryz.insI base o.length c vb 0 1 1 (o.map (Value.int .i64)) [.int .i64 x] w (by omega) hnc hroom (by omega) hcl rfl hnil hcs hvs h1v
  change Calls Tryz.prog 184 _ _ _ at hcon
  refine hcon.mono ?_
  rintro e w' ⟨rfl,rfl⟩
  have hge:=grownCap_ge w (o.length + 1) c 3
  have hle:=grownCap_le_maxLen w (o.length + 1) c 3 (by unfold maxLen; omega)
  change InsPost B w _ (.returned (.slice (some ⟨w.heap.size,0,none⟩) (o.length + 1) (grownCap w (o.length + 1) c 3))) (w.drew.alloc (.cells ((o.map (Value.int .i64) ++ [Value.int .i64 x]).toArray ++ Builtin.zeroCells (Value.int .i64 0).cells (grownCap w (o.length + 1) c 3 - (o.length + 1))) 3))
  generalize grownCap w (o.length + 1) c 3 = gc at *
  refine ⟨_,_,_,rfl,?_,((Below.refl B w).drew).alloc hB _⟩
  rw [hlen,hmap]
  refine ⟨by simp,Or.inr ⟨w.heap.size,gc,_,rfl,hB,qg w.drew _,hge,hle,?_,?_⟩⟩
  ·simp [size_zeroCells,Value.cells]; omega
  ·have h7 : (o.map (Value.int .i64)).take o.length = o.map (Value.int .i64):=List.take_of_length_le (by simp)
   have h8 : (o.map (Value.int .i64)).drop o.length = []:=List.drop_of_length_le (by simp)
   rw [Nat.mul_one,h7,h8,Array.toList_append]
   exact List.take_left' (by simp)
 rcases hS.2 with ⟨e1,e2⟩ | ⟨g,cap,cur,e1,e2,e3,e4,e5,e6,e7⟩
 ·injection e1 with e1 e1' e1''
  subst e1; subst e1'; subst e1''
  have:=hnew none 0 (by omega) (fun _=>e2) (fun a h=>by cases h) (by omega) (by omega)
  rw [e2] at this
  exact this
 ·injection e1 with e1 e1' e1''
  subst e1; subst e1'; subst e1''
  have hgv : vb≠g:=fun e=>hvb (by rw [e]; rfl)
  have hrow : w.heap[g]? = some (.cells cur.toList.toArray 3 (0,0)):=by rw [e3]
  have hcs0 : ∀ j v,(o.map (Value.int .i64))[j]? = some v→w.cell? ⟨g,j,none⟩ = some v:=by
   intro j v hj
   have hjl : j < o.length:=by
    rcases Nat.lt_or_ge j o.length with h | h
    ·exact h
    ·rw [List.getElem?_eq_none (by simpa using h)] at hj; cases hj
   rw [← e7,List.getElem?_take_of_lt (by omega)] at hj
   unfold World.cell?
   simp only [e3]
   simpa using hj
  have hfit : cur.toList = o.map (Value.int .i64) ++ cur.toList.drop o.length:=by
   have:=List.take_append_drop o.length cur.toList
   rw [show o.length = o.length * 1 by omega,e7] at this
   rw [Nat.mul_one] at this
   exact this.symm
  by_cases hroom : o.length + 1≤sc
  ·have hdl : 1≤(cur.toList.drop o.length).length:=by simp; omega
   have hsome : ∀ j,j < o.length + 1→(w.cell? ⟨g,j,none⟩).isSome = true:=fun j hj=>by
    unfold World.cell?
    simp only [e3]
    rw [Array.getElem?_eq_getElem (by omega)]; rfl
   have hfz : ∀ j,w.frozen? ⟨g,j,none⟩ = false:=fun j=>by unfold World.frozen?; simp [e3]
   have hdone : ∀ w',w' = (w.drew.setCells g (k + 1) ((o.map (Value.int .i64)).drop k)).setCells g k [.int .i64 x]→InsPost B w (insAt x o k) (.returned (.slice (some ⟨g,0,none⟩) (o.length + 1) sc)) w':=by
    rintro w' rfl
    refine ⟨_,_,_,rfl,?_,((Below.refl B w).drew).trans ((kjj e2 _ _ _).trans (kjj e2 _ _ _))⟩
    have hr2:=kqh g [.int .i64 x] k _ _ (kqh g ((o.map (Value.int .i64)).drop k) (k + 1) w.drew cur.toList hrow)
    rw [hlen,hmap]
    refine ⟨by simp; omega,Or.inr ⟨g,sc,_,rfl,e2,hr2,hroom,e5,?_,?_⟩⟩
    ·rw [kjo [.int .i64 x] _ _ (by rw [kjo _ _ _ (by simp; omega)]; simp; omega),kjo _ _ _ (by simp; omega)]
     simp; omega
    ·rw [hfit,Nat.mul_one]
     have:=ins_list (o.map (Value.int .i64)) (cur.toList.drop o.length) k (.int .i64 x) (by simpa using hk) hdl
     rw [List.length_map] at this
     simpa using this
   by_cases hlt : k < o.length
   ·have hcon:=Any2.slices_Insert_int_shift Tryz.insI g 0 o.length sc k vb 0 1 1 (o.map (Value.int .i64)) [.int .i64 x] w hlt (by omega) hroom (by unfold maxLen at e5; omega) hgv hcl rfl (by simpa using hcs0) (by simpa using hsome) (by simpa using fun j _=>hfz j) hvs (intsOne o) h1v 3 3 1 cur.size (by simp [World.shape?,hV]) (by simp [World.shape?,e3]) (by omega) (by unfold World.frozen?; simp [hV]) (by unfold World.frozen?; simp [hV])
    change Calls Tryz.prog 184 _ _ _ at hcon
    refine hcon.mono ?_
    rintro e w' ⟨rfl,hw⟩
    exact hdone w' (by rw [hw]; simp)
   ·obtain rfl : k = o.length:=by omega
    have hcon:=Any2.slices_Insert_int_end_room Tryz.insI g 0 o.length sc vb 0 1 1 [.int .i64 x] w (by omega) hroom (by unfold maxLen at e5; omega) rfl (fun j hj=>by have:=hsome (o.length + j) (by omega); simpa using this) (fun j hj=>hfz _) hvs h1v
    change Calls Tryz.prog 184 _ _ _ at hcon
    refine hcon.mono ?_
    rintro e w' ⟨rfl,rfl⟩
    refine ⟨_,_,_,rfl,?_,kjj e2 _ _ _⟩
    have hr2:=kqh g [.int .i64 x] (0 + o.length) w cur.toList hrow
    have h7 : (o.map (Value.int .i64)).take o.length = o.map (Value.int .i64):=List.take_of_length_le (by simp)
    have h8 : (o.map (Value.int .i64)).drop o.length = []:=List.drop_of_length_le (by simp)
    rw [hlen,hmap,h7,h8]
    refine ⟨by simp,Or.inr ⟨g,sc,_,rfl,e2,hr2,hroom,e5,?_,?_⟩⟩
    ·rw [kjo [.int .i64 x] _ _ (by simp; omega)]
     simp; omega
    ·rw [Nat.zero_add,kjo [.int .i64 x] _ _ (by simp; omega),Nat.mul_one]
     have h9 : cur.toList.take o.length = o.map (Value.int .i64):=by simpa using e7
     rw [h9,← List.append_assoc]
     exact List.take_left' (by simp)
  ·by_cases hlt : k < o.length
   ·have hcon:=Any2.slices_Insert_int_grow Tryz.insI g 0 o.length sc k vb 0 1 1 (o.map (Value.int .i64)) [.int .i64 x] w hlt (by omega) e4 (by omega) (by omega) hcl rfl (by simpa using hcs0) hvs (intsOne o) h1v
    change Calls Tryz.prog 184 _ _ _ at hcon
    refine hcon.mono ?_
    rintro e w' ⟨rfl,hw⟩
    have hge:=grownCap_ge w (o.length + 1) sc 3
    have hle:=grownCap_le_maxLen w (o.length + 1) sc 3 (by unfold maxLen; omega)
    change w' = (((w.alloc (.cells (((o.map (Value.int .i64)).take k).toArray ++ Builtin.zeroCells (Value.int .i64 0).cells (o.length + 1 - k) ++ Builtin.zeroCells (Value.int .i64 0).cells (grownCap w (o.length + 1) sc 3 - (o.length + 1))) 3)).drew.setCells w.heap.size k [.int .i64 x]).drew).setCells w.heap.size (k + 1) ((o.map (Value.int .i64)).drop k) at hw
    change InsPost B w _ (.returned (.slice (some ⟨w.heap.size,0,none⟩) (o.length + 1) (grownCap w (o.length + 1) sc 3))) w'
    generalize grownCap w (o.length + 1) sc 3 = gc at *
    obtain ⟨Z,hZ⟩ : ∃ Z,Z = (Builtin.zeroCells (Value.int .i64 0).cells (o.length + 1 - k) ++ Builtin.zeroCells (Value.int .i64 0).cells (gc - (o.length + 1))).toList:=⟨_,rfl⟩
    have hZl : Z.length = gc - k:=by rw [hZ]; simp [size_zeroCells,Value.cells]; omega
    have hcells : ((o.map (Value.int .i64)).take k).toArray ++ Builtin.zeroCells (Value.int .i64 0).cells (o.length + 1 - k) ++ Builtin.zeroCells (Value.int .i64 0).cells (gc - (o.length + 1)) = (((o.map (Value.int .i64)).take k) ++ Z).toArray:=by rw [hZ]; simp [Array.append_assoc]
    rw [hcells] at hw
    have hr0 : (w.alloc (.cells (((o.map (Value.int .i64)).take k) ++ Z).toArray 3)).drew.heap[w.heap.size]? = some (.cells (((o.map (Value.int .i64)).take k) ++ Z).toArray 3 (0,0)):=qg w _
    have hr1:=kqh w.heap.size [.int .i64 x] k _ _ hr0
    have hr2:=kqh w.heap.size ((o.map (Value.int .i64)).drop k) (k + 1) (((w.alloc (.cells (((o.map (Value.int .i64)).take k) ++ Z).toArray 3)).drew.setCells w.heap.size k [.int .i64 x]).drew) _ hr1
    rw [← hw] at hr2
    refine ⟨_,_,_,rfl,?_,?_⟩
    ·rw [hlen,hmap]
     refine ⟨by simp; omega,Or.inr ⟨w.heap.size,gc,_,rfl,hB,hr2,hge,hle,?_,?_⟩⟩
     ·have hml : ((o.map (Value.int .i64)).take k).length = k:=by simp; omega
      rw [kjo _ _ _ (by rw [kjo _ _ _ (by simp; omega)]; simp; omega),kjo _ _ _ (by simp; omega)]
      simp; omega
     ·have:=ins_list2 (o.map (Value.int .i64)) Z k (.int .i64 x) (by simpa using hlt) (by simp; omega)
      rw [List.length_map] at this
      simpa using this
    ·rw [hw]
     exact ((below_alloc1 w _).mono hB).drew.trans (((kjj hB _ _ _).drew).trans (kjj hB _ _ _))
   ·exact hnew (some ⟨g,0,none⟩) sc (by omega) (fun h=>by cases h) (fun a ha j v hj=>by
     injection ha with ha
     subst ha
     have:=hcs0 j v hj
     rw [show ((⟨g,0,none⟩ : Addr).add j) = ⟨g,j,none⟩ from by simp [Addr.add]; intro h; exact h.symm]
     exact this) e4 (by omega)
theorem RowsIs.at {w : World} {ls : List (List Int)} {cs : List Value} (h : RowsIs w ls cs) (hl : ∀ x ∈ ls,x.length≤1000000) : RowsAt .i64 w cs ls:=by
 refine ⟨h.1.symm,fun k hk hk2=>?_⟩
 obtain ⟨a,n,c,e,ho⟩:=h.2 k hk2
 rw [List.getElem?_eq_getElem hk] at e
 injection e with e
 exact ⟨by rw [e]; exact rowAt_own ho,hl _ (List.getElem_mem hk2)⟩
theorem perm_range {p : List Nat} {n k : Nat} (hp : p.Perm (List.range n)) (hk : k < p.length) : p[k] < n:=by
 have : p[k] ∈ List.range n:=hp.mem_iff.mp (List.getElem_mem hk)
 exact List.mem_range.mp this
theorem RowsIs.sorted {S : List Nat} {lo : Nat} {w w' : World} {la : Option Addr} {ll lc : Nat} {cs : List Value} {ls : List (List Int)} (h : RowsIs w ls cs) (ho : w.ownsRow lo 31 1 (.slice la ll lc) cs.length cs) (hS : ∀ k ∈ S,(Value.slice la ll lc).ownBlock = some k) (hp : SortedPost S lo 31 w (.slice la ll lc) cs ls w') : OwnRows lo w' (.slice la ll lc) (sortL ls):=by
 obtain ⟨hst,p,hperm,hown,hls⟩:=hp
 have hpl : p.length = cs.length:=by rw [hperm.length_eq]; simp
 have hno : NoTy w S 3:=by
  intro k hk c fr e
  have e1:=hS k hk
  rcases ho.2 with ⟨e2,_⟩ | ⟨g,cap,cur,e2,_,e3,_⟩
  ·rw [e2] at e1; cases e1
  ·rw [e2] at e1
   injection e1 with e1
   have e4 : g = k:=e1
   subst e4
   rw [e3] at e
   injection e with e
   injection e with _ e _
   exact absurd e (by decide)
 refine ⟨la,ll,lc,p.map (encC cs),rfl,by rw [sortL_len,← h.1]; exact hown,by rw [List.length_map,sortL_len,hpl,h.1],fun k hk=>?_⟩
 have hk2 : k < p.length:=by rw [sortL_len] at hk; rw [hpl,h.1]; exact hk
 have hlt:=perm_range hperm hk2
 have hlt2 : p[k] < ls.length:=by rw [← h.1]; exact hlt
 obtain ⟨a,n,c,e,how⟩:=h.2 p[k] hlt2
 have e5 : (sortL ls)[k] = ls[p[k]]:=by
  have : (sortL ls)[k]? = some ls[p[k]]:=by
   rw [hls,List.getElem?_map,List.getElem?_eq_getElem hk2,Option.map_some,kqa,List.getD_eq_getElem?_getD,List.getElem?_eq_getElem hlt2,Option.getD_some]
  rw [List.getElem?_eq_getElem hk] at this
  injection this
 refine ⟨a,n,c,?_,?_⟩
 ·rw [List.getElem?_map,List.getElem?_eq_getElem hk2,Option.map_some,encC,List.getD_eq_getElem?_getD,e]; rfl
 ·rw [e5]; exact kjz how hst hno
theorem ordRaw_small : ∀ k,k≤4→(kz2 k).length≤24:=by
 intro k hk
 have : k = 0∨k = 1∨k = 2∨k = 3∨k = 4:=by omega
 rcases this with rfl | rfl | rfl | rfl | rfl <;> decide
theorem ordStep_le (x : Int) (all : List (List Int)) (j : Nat) : (gy x (all.take j)).length≤(gy x all).length:=by
 have:=List.take_append_drop j all
 have h2 : gy x all = gy x (all.take j) ++ gy x (all.drop j):=by rw [gy,gy,gy,← List.flatMap_append,this]
 rw [h2,List.length_append]; omega
set_option maxRecDepth 100000 in
set_option maxHeartbeats 8000000 in
theorem orders_any (w : World) (n : Nat) (hn : n≤4) :
  Calls Tryz.prog 127 #[.int .i64 n] w fun e w'=>∃ v,e = .returned v∧OwnRows w.heap.size w' v (orders n)∧Below w.heap.size w w':=by
 obtain ⟨j0,hj,hy0,hy1,hy2⟩:=info_parts Tryz.infoInts
 obtain ⟨W,hW⟩ : ∃ W,W = w.alloc (.cells #[.slice none 0 0] 31):=⟨_,rfl⟩
 have hbW : Below w.heap.size w W:=by rw [hW]; exact below_alloc1 w _
 have hsW : w.heap.size < W.heap.size:=by rw [hW]; simp
 have hA : W.heap[w.heap.size]? = some (.cells #[.slice none 0 0] 31 (0,0)):=by rw [hW]; exact qg _ _
 have hstart : OwnRows w.heap.size W (.slice (some ⟨w.heap.size,0,none⟩) 1 1) (kz2 0):=
  ⟨_,_,_,[.slice none 0 0],rfl,⟨rfl,Or.inr ⟨w.heap.size,1,_,rfl,Nat.le_refl _,hA,Nat.le_refl _,by unfold maxLen; omega,rfl,rfl⟩⟩,rfl,fun k hk=>by
   have : k = 0:=by simp [kz2] at hk; exact hk
   subst this
   exact ⟨none,0,0,rfl,World.ownsRow_nil _ _ _ _⟩⟩
 have HST:=hide hstart
 have HBW:=hide hbW
 have HWE:=hide hW.symm
 clear hstart hA hbW hW
 go_enter Tryz.func127,Tryz.ntmps127
 go_wp2_with fail
 rw [ku HWE]
 go_loopw [3,4,5,7,8] (fun x i _ _ _ wr=>∃ k : Nat,k≤n∧i = .int .i64 k∧OwnRows w.heap.size wr x (kz2 k)∧Below w.heap.size w wr) (fun _ i _ _ _ _=>n - (intOf i).toNat)
 case atStart=>exact ⟨0,Nat.zero_le _,rfl,ku HST,ku HBW⟩
 case round=>
  obtain ⟨wo,hwo⟩ : ∃ wo,wo = wr:=⟨_,rfl⟩
  subst hwo
  obtain ⟨k,hk,rfl,hown,hb⟩:=hrel
  obtain ⟨xa,xn,xc,cs,rfl,hrow,hrows⟩:=hown
  have hin:=ordRaw_in k
  have hsm:=ordRaw_small k (by omega)
  by_cases hlt : k < n
  ·have hsm1:=ordRaw_small (k + 1) (by omega)
   obtain ⟨za,zc,ez,hzv⟩:=qm hrow
   injection ez with ez1 ez2 ez3
   subst ez1; subst ez2; subst ez3
   have hsz:=hb.size
   have HZV:=hide hzv
   have HRW:=hide hrows
   have HB:=hide hb
   have HIN:=hide hin
   have HS0:=hide (show OwnRows wo.heap.size wo (.slice none 0 0) (gy k ((kz2 k).take 0)) from ⟨none,0,0,[],rfl,by simp [gy]; exact World.ownsRow_nil _ _ _ _,by simp [gy],fun k hk=>by simp [gy] at hk⟩)
   have HNX:=hide (show kz2 (k + 1) = gy k (kz2 k) from rfl)
   have hsm2 : (gy k (kz2 k)).length≤24:=hsm1
   generalize kz2 k = all at *
   clear hrow hrows hzv hb hin hsm1
   go_wp2_with fail
   go_loopw [5,7,8,18] (fun y _ _ i wm=>∃ j : Nat,j≤all.length∧i = .int .i64 j∧OwnRows wo.heap.size wm y (gy k (all.take j))∧Below wo.heap.size wo wm) (fun _ _ _ i _=>all.length - (intOf i).toNat)
   case atStart=>exact ⟨0,Nat.zero_le _,rfl,ku HS0,Below.refl _ _⟩
   case round=>
    obtain ⟨wm,hwm⟩ : ∃ wm,wm = wr:=⟨_,rfl⟩
    subst hwm
    obtain ⟨j,hjl,rfl,hown,hbm⟩:=hrel
    obtain ⟨ya,yn,yc,ds,rfl,hrow,hrows⟩:=hown
    have hszm:=hbm.size
    by_cases hltj : j < all.length
    ·obtain ⟨g5,rfl,hg51,hg52,hc5⟩:=ku HZV j hltj
     obtain ⟨ca,cn,cc5,ec5,hch⟩:=(ku HRW).2 j hltj
     have e5 : wm.cell? ⟨g5,j * 1,none⟩ = some (.slice ca cn cc5):=by
      rw [hbm.cell (p:=⟨g5,j * 1,none⟩) (by show g5 < wo.heap.size; omega),hc5 (j * 1) (by omega),Nat.mul_one]; exact ec5
     simp only [Nat.mul_one] at e5
     have hcl5 : all[j].length≤4:=by have:=((ku HIN) _ (List.getElem_mem hltj)).1; omega
     obtain ⟨xq,cq,eq,_⟩:=qm hch
     injection eq with eq1 eq2 eq3
     subst eq1; subst eq2; subst eq3
     have HCH:=hide hch
     have HROW:=hide hrow
     have HROWS:=hide hrows
     have HBM:=hide hbm
     have hstep:=ordStep_take k all j hltj
     have hsle:=ordStep_le k all (j + 1)
     have HSTEP:=hide hstep
     have HS3:=hide (show OwnRows wo.heap.size wm (.slice ya yn yc) (gy k (all.take j) ++ (List.range 0).map (insAt k all[j])) from ⟨ya,yn,yc,ds,rfl,by simpa using hrow,by simpa using hrows⟩)
     generalize all[j] = c at *
     clear hrow hrows hbm hc5 hch ec5 hstep
     go_wp2_with fail
     go_loopw [5,8,25] (fun y _ i wi=>∃ q : Nat,q≤c.length + 1∧i = .int .i64 q∧OwnRows wo.heap.size wi y (gy k (all.take j) ++ (List.range q).map (insAt k c))∧Below wo.heap.size wo wi) (fun _ _ i _=>c.length + 1 - (intOf i).toNat)
     case atStart=>exact ⟨0,Nat.zero_le _,rfl,ku HS3,ku HBM⟩
     case round=>
      obtain ⟨wi,hwi⟩ : ∃ wi,wi = wr:=⟨_,rfl⟩
      subst hwi
      obtain ⟨q,hq,rfl,hown,hbi⟩:=hrel
      obtain ⟨ya',yn',yc',ds',rfl,hrow,hrows⟩:=hown
      have hszi:=hbi.size
      by_cases hlq : q < c.length + 1
      ·have HCW:=hide (qy (ku HCH) hbi)
       have HROWi:=hide hrow
       have HROWSi:=hide hrows
       have HBi:=hide hbi
       have hlen2 : (gy k (all.take j) ++ (List.range q).map (insAt k c)).length≤24:=by
        have h1 : (gy k (all.take j) ++ (List.range q).map (insAt k c)).length≤(gy k (all.take (j + 1))).length:=by
         rw [ku HSTEP]; simp [insAll]; omega
        omega
       have HSN:=hide (show (gy k (all.take j) ++ (List.range (q + 1)).map (insAt k c)) = (gy k (all.take j) ++ (List.range q).map (insAt k c)) ++ [insAt k c q] by rw [List.range_succ,List.map_append,← List.append_assoc]; rfl)
       generalize (gy k (all.take j) ++ (List.range q).map (insAt k c)) = Lg at *
       clear hrow hrows hbi
       go_wp2_with fail
       refine (cloneInts_any _ 0 c ca c.length cc5 (ku HCW) (by omega)).mono ?_
       rintro e w4 ⟨ka,kn,kc,rfl,ho4,hb4⟩
       have hsz4:=hb4.size
       have HB4:=hide hb4
       have HIC:=hide (insInts_any (w4.alloc (.cells #[.int .i64 k] 3)) wi.heap.size c q k ka kn kc w4.heap.size (ho4.alloc _) (qg _ _) (fun e=>by
        rcases ho4.2 with ⟨e1,_⟩ | ⟨g,cap,cur,e1,_,e3,_⟩
        ·rw [e1] at e; cases e
        ·rw [e1] at e
         injection e with e
         have h5:=lt_of_block e3
         have h6 : g = w4.heap.size:=e
         omega) (by omega) (by omega) (by simp; omega))
       clear ho4 hb4
       go_wp2_with fail
       refine (ku HIC).mono ?_
       rintro e w5 ⟨a5,l5,c5,rfl,ho5,hb5⟩
       clear HIC
       have hb5' : Below wi.heap.size wi w5:=((ku HB4).alloc hsz4 _).trans hb5
       have hsz5:=hb5'.size
       have HN5:=hide (zx (Nat.zero_le _) ho5)
       have HB5:=hide hb5'
       have HRW5:=hide (qy (ku HROWi) hb5')
       clear ho5 hb5 hb5'
       go_wp2_with (at_builtin; refine wpList_append_own_at _ rfl _ _ 79 rfl wo.heap.size 31 j0 _ 1 24 Tryz.underlying79 hj hy0 hy1 hy2 rfl (by decide) (.slice ya' yn' yc') _ _ rfl ((ku HRW5).alloc _) ⟨w5.heap.size,0,none⟩ 1 1 [.slice a5 l5 c5] rfl rfl (yw w5 _ [.slice a5 l5 c5] _ rfl) (by intro y hy; simp at hy; subst hy; rfl) (by unfold maxLen; omega) (by omega) (by simp; omega) ?_)
       intro v6 w6 hown6 hgrow6 _ hat6
       obtain ⟨a6,l6,c6,rfl⟩:=zy hown6
       have k6 : Tk none [31] w5 w6:=(jc (below_alloc1 w5 _) _ _).trans (kq4 ((ku HRW5).alloc _) hgrow6 (by simp))
       have HX6:=hide (show OwnRows wo.heap.size w6 (.slice a6 l6 c6) (Lg ++ [insAt k c q]) from ⟨a6,l6,c6,_,rfl,by rw [List.length_append]; exact hown6,(((ku HROWSi).tk (jc (ku HB5) none [31]) (jy.none _) (by decide)).snoc (ku HN5)).tk k6 (jy.none _) (by decide)⟩)
       have HB6:=hide ((((ku HBi).trans ((ku HB5).mono hszi)).alloc (by omega) _).grown hgrow6 (by simp; omega) (jm (ku HRW5)))
       clear hown6 hgrow6 hat6 k6
       go_wp2
       go_roundw
       case rel=>exact ⟨q + 1,by omega,by go_num,by rw [ku HSN]; exact ku HX6,ku HB6⟩
       case measure=>simp [intOf]; omega
      ·have : q = c.length + 1:=by omega
       subst this
       have HX:=hide (show OwnRows wo.heap.size wi (.slice ya' yn' yc') (gy k (all.take (j + 1))) from ⟨ya',yn',yc',ds',rfl,by rw [ku HSTEP]; exact hrow,by rw [ku HSTEP]; exact hrows⟩)
       have HBi:=hide hbi
       clear hrow hrows hbi
       go_wp2
       go_roundw
       case rel=>exact ⟨j + 1,by omega,by go_num,ku HX,ku HBi⟩
       case measure=>simp [intOf]; omega
    ·have : j = all.length:=by omega
     subst this
     rw [List.take_length] at hrow hrows
     have HX:=hide (show OwnRows w.heap.size wm (.slice ya yn yc) (kz2 (k + 1)) by rw [ku HNX]; exact ⟨ya,yn,yc,ds,rfl,zx (by omega) hrow,hrows⟩)
     have HBm:=hide ((ku HB).trans (hbm.mono (by omega)))
     clear hrow hrows hbm
     go_wp2
     go_roundw
     case rel=>exact ⟨k + 1,by omega,by go_num,ku HX,ku HBm⟩
     case measure=>simp [intOf]; omega
  ·have : k = n:=by omega
   subst this
   have hrow' : wo.ownsRow w.heap.size 31 1 (.slice xa xn xc) cs.length cs:=by rw [hrows.1]; exact hrow
   have HRS:=hide hrows
   have HRO:=hide hrow'
   have HSO:=hide (sortInts_any wo w.heap.size cs (kz2 k) xa xn xc hrow' (hrows.at fun x hx=>by have:=(hin x hx).1; omega) (by rw [hrows.1]; omega))
   have HGE:=hide (jm hrow')
   have HB:=hide hb
   have hsz:=hb.size
   clear hrow hrows hrow' hb hin
   go_wp2_with fail
   refine (ku HSO).mono ?_
   rintro e w5 ⟨rfl,S,hS,hpost⟩
   have HX:=hide ((ku HRS).sorted (ku HRO) hS hpost)
   have HB5:=hide ((ku HB).trans (hpost.1.below hsz (fun k hk=>(ku HGE) k (hS k hk))))
   clear hS hpost HSO
   go_wp2
   go_ret
   exact ⟨_,rfl,ku HX,ku HB5⟩
end Go.Proofs.YtpmcnonmkghokaaGreatDoor
namespace Go.Proofs.YtpmcnonmkghokaaGreatDoor
open Go.RowKit
abbrev Turn:=List (List Int)
def ji (n : Nat) (ts : List Turn) : List Turn:=ts.flatMap fun t=>(orders n).map fun o=>t ++ [o]
def turnsO : List Int→List Turn→Option (List Turn)
 | [],ts=>some ts
 | n :: l,ts=>if 0≤n∧n≤4∧(ji n.toNat ts).length≤100000 then turnsO l (ji n.toNat ts) else none
theorem turnStep_take (n : Nat) (ts : List Turn) (j : Nat) (hj : j < ts.length) : ji n (ts.take (j + 1)) = ji n (ts.take j) ++ (orders n).map fun o=>ts[j] ++ [o]:=by
 rw [List.take_succ_eq_append_getElem hj,ji,List.flatMap_append]; simp [ji]
theorem turnStep_le (n : Nat) (ts : List Turn) (j : Nat) : (ji n (ts.take j)).length≤(ji n ts).length:=by
 have:=List.take_append_drop j ts
 have h2 : ji n ts = ji n (ts.take j) ++ ji n (ts.drop j):=by rw [ji,ji,ji,← List.flatMap_append,this]
 rw [h2,List.length_append]; omega
def placeO (v : MVar) (t : Turn) (i : Nat) : Option Int:=if v.over == -1 then some i else if v.over < 0 then none else (t[v.over.toNat]?).bind fun o=>o[i]?
def valueO (v : MVar) (t : Turn) (x : Int) : Option Int:=if (v.of_ == -1) || (x == 0) then some x else if v.of_ < 0∨x < 0∨255 < x then none else (t[v.of_.toNat]?).bind fun o=>(o[x.toNat - 1]?).bind fun y=>if 0≤y∧y < 255 then some (y + 1) else none
def turnCO (v : MVar) (t : Turn) (st : List Int) : List Nat→List Int→Option (List Int)
 | [],cur=>some cur
 | i :: l,cur=>(placeO v t i).bind fun p=>(st[v.first + i]?).bind fun x=>(valueO v t x).bind fun y=>if 0≤p∧v.first + p.toNat < cur.length then turnCO v t st l (cur.set (v.first + p.toNat) y) else none
def turnO (t : Turn) (st : List Int) : List MVar→List Int→Option (List Int)
 | [],cur=>some cur
 | v :: vs,cur=>(turnCO v t st (List.range v.count) cur).bind fun c=>turnO t st vs c
def lowL (least c : List Int) : List Int:=if cmpL c least < 0 then c else least
def leastO (vars : List MVar) (st : List Int) : List Turn→List Int→List Int→Option (List Int × List Int)
 | [],least,cur=>some (least,cur)
 | t :: ts,least,cur=>(turnO t st vars cur).bind fun c=>leastO vars st ts (lowL least c) c
theorem turnCO_len (v : MVar) (t : Turn) (st : List Int) : ∀ (l : List Nat) (cur r : List Int),turnCO v t st l cur = some r→r.length = cur.length
 | [],cur,r,h=>by rw [turnCO] at h; injection h with h; rw [h]
 | i :: l,cur,r,h=>by
  rw [turnCO] at h
  obtain ⟨p,_,h⟩:=Option.bind_eq_some_iff.mp h
  obtain ⟨x,_,h⟩:=Option.bind_eq_some_iff.mp h
  obtain ⟨y,_,h⟩:=Option.bind_eq_some_iff.mp h
  split at h
  ·have:=turnCO_len v t st l _ r h; simpa using this
  ·cases h
theorem turnO_len (t : Turn) (st : List Int) : ∀ (vs : List MVar) (cur r : List Int),turnO t st vs cur = some r→r.length = cur.length
 | [],cur,r,h=>by rw [turnO] at h; injection h with h; rw [h]
 | v :: vs,cur,r,h=>by
  rw [turnO] at h
  obtain ⟨c,hc,h⟩:=Option.bind_eq_some_iff.mp h
  rw [turnO_len t st vs c r h,turnCO_len _ _ _ _ _ _ hc]
theorem lowL_len {least c : List Int} (h : c.length = least.length) : (lowL least c).length = least.length:=by
 unfold lowL; split
 ·exact h
 ·rfl
theorem leastO_len (vars : List MVar) (st : List Int) : ∀ (ts : List Turn) (least cur : List Int) (r : List Int × List Int),cur.length = least.length→leastO vars st ts least cur = some r→r.1.length = least.length∧r.2.length = cur.length
 | [],least,cur,r,_,h=>by rw [leastO] at h; injection h with h; subst h; exact ⟨rfl,rfl⟩
 | t :: ts,least,cur,r,hl,h=>by
  rw [leastO] at h
  obtain ⟨c,hc,h⟩:=Option.bind_eq_some_iff.mp h
  have h1:=turnO_len _ _ _ _ _ hc
  have h2:=lowL_len (least:=least) (c:=c) (by omega)
  have h3:=leastO_len vars st ts _ c r (by omega) h
  omega
structure SWay where
 state : List Int
 from_ : Nat
 step : ByteArray
abbrev Fnd:=List (List Int × SWay)
structure SSt where
 ways : List SWay
 seen : List (List Int)
 found : Fnd
 cur : List Int
def okKey (k : List Int) : Bool:=k.all fun x=>decide (0≤x) && decide (x≤255)
def addF (f : Fnd) (k : List Int) (x : SWay) : Fnd:=if f.any fun y=>y.1 == k then f else f ++ [(k,x)]
def findO (a : Mach) (ts : List Turn) (x : SWay) (f : Fnd) (cur : List Int) : Option (Fnd × List Int):=
 if 0 < x.state.length∧x.state.length = cur.length∧x.state.length≤1000 then (leastO a.vars x.state ts x.state cur).bind fun r=>if okKey r.1 then some (addF f r.1 x,r.2) else none else none
def noWay : SWay:=⟨[],0,⟨#[]⟩⟩
def lookF : Fnd→List Int→SWay
 | [],_=>noWay
 | y :: l,k=>if y.1 == k then y.2 else lookF l k
def newF (seen : List (List Int)) (f : Fnd) : Fnd:=f.filter fun y=>!(seen.any fun k=>k == y.1)
def keysF (f : Fnd) : List (List Int):=sortL (f.map fun y=>y.1)
def keepN (s : SSt) : SSt:=let f:=newF s.seen s.found; ⟨s.ways ++ (keysF f).map (lookF f),s.seen ++ keysF f,f,s.cur⟩
def endOf (v : MView) : Int:=if 0 < v.broken.length then 1 else if mvDead v then 2 else if 0 < v.wrong.length then 3 else 0
def endsO (a : Mach) : List SWay→Nat→Option (Nat × Int)
 | [],_=>some (0,0)
 | x :: l,at_=>if x.state.length≤1000000 then (lookO a x.state).bind fun v=>if endOf v == 0 then endsO a l (at_ + 1) else some (at_,endOf v) else none
def stepsS (a : Mach) (ts : List Turn) (most at_ : Nat) (st : List Int) : List MStep→Fnd→List Int→Option (Fnd × List Int × Bool)
 | [],f,c=>some (f,c,false)
 | s :: l,f,c=>(fromO a.vars a.tab s.params s.mems st s.guard s.block).bind fun r=>if r.2 == 1 then (findO a ts ⟨r.1,at_,s.text⟩ f c).bind fun q=>if most < q.1.length then some (q.1,q.2,true) else stepsS a ts most at_ st l q.1 q.2 else stepsS a ts most at_ st l f c
def statesO (a : Mach) (ts : List Turn) (most : Nat) : List SWay→Nat→Fnd→List Int→Option (Fnd × List Int)
 | [],_,f,c=>some (f,c)
 | x :: l,at_,f,c=>if x.state.length≤1000000 then (stepsS a ts most at_ x.state a.steps f c).bind fun q=>if q.2.2 then some (q.1,q.2.1) else statesO a ts most l (at_ + 1) q.1 q.2.1 else none
def trcO (ways : List SWay) : Nat→Nat→List ByteArray→Option (List ByteArray)
 | _,0,acc=>some acc
 | 0,_ + 1,_=>none
 | n + 1,k + 1,acc=>(ways[k + 1]?).bind fun x=>if x.from_≤k then trcO ways n x.from_ (acc ++ [x.step]) else none
structure SRep where
 err : Int
 end_ : Int
 trace : List ByteArray
 orbits : Nat
def errRep (e : Int) : SRep:=⟨e,0,[],0⟩
def endRep (s : SSt) (last : Nat) (e : Int) : Option SRep:=(trcO s.ways last last []).map fun l=>⟨0,e,l.reverse,s.ways.length⟩
def roundsO (a : Mach) (ts : List Turn) (most : Nat) : Nat→SSt→Option SRep
 | 0,_=>none
 | n + 1,s=>
  if most < (keepN s).ways.length then some (errRep 9)
  else if (keepN s).ways.length == s.ways.length then endRep (keepN s) 0 0
  else (endsO a ((keepN s).ways.drop s.ways.length) s.ways.length).bind fun x=>if x.2 == 0 then (statesO a ts most ((keepN s).ways.drop s.ways.length) s.ways.length [] (keepN s).cur).bind fun q=>roundsO a ts most n ⟨(keepN s).ways,(keepN s).seen,q.1,q.2⟩ else endRep (keepN s) x.1 x.2
def firstS (a : Mach) : SWay:=⟨List.replicate a.size 0,0,⟨#[]⟩⟩
def rndsO (a : Mach) (most : Int) : Option SRep:=
 if most < 1∨500 < most then some (errRep 8)
 else if a.size≤1000000 then (turnsO a.sets [[]]).bind fun ts=>(findO a ts (firstS a) [] (List.replicate a.size 0)).bind fun q=>roundsO a ts most.toNat 502 ⟨[],[],q.1,q.2⟩ else none
def dh (s : ByteArray) (most : Int) : Option SRep:=if (chkC s).1 == 0 then (machO s).bind fun a=>rndsO a most else some (errRep (chkC s).1)
end Go.Proofs.YtpmcnonmkghokaaGreatDoor
namespace Go.Proofs.YtpmcnonmkghokaaGreatDoor
open Go.RowKit
attribute [local go_sem ↓] Go.wp_at_zero Go.wp_at_succ
theorem Tryz.infoTurn : (Tryz.prog.info? 256).map (fun i=>(i.zero,i.size,i.bytes)) = some (some (.slice none 0 0),1,24):=by kernel_rfl
theorem OwnRows.below {B : Nat} {w w' : World} {x : Value} {ls : List (List Int)} (h : OwnRows B w x ls) (hb : Below w.heap.size w w') : OwnRows B w' x ls:=by
 obtain ⟨la,ll,lc,cs,e,h1,h2⟩:=h
 exact ⟨la,ll,lc,cs,e,qy h1 hb,h2.tk (jc hb none []) (jy.none _) (by simp)⟩
theorem OwnRows.tk {B : Nat} {w w' : World} {v : Value} {ls : List (List Int)} {x : Option Nat} {bad : List Nat} (h : OwnRows B w v ls) (hk : Tk x bad w w') (hx : jy w x) (h1 : 31 ∉ bad) (h2 : 3 ∉ bad) : OwnRows B w' v ls:=by
 obtain ⟨la,ll,lc,cs,e,h3,h4⟩:=h
 exact ⟨la,ll,lc,cs,e,zk h3 hk hx h1,h4.tk hk hx h2⟩
theorem RowsIs.one {w : World} {ls : List (List Int)} {cs : List Value} (h : RowsIs w ls cs) : ∀ y ∈ cs,y.oneCell' = true:=by
 intro y hy
 obtain ⟨k,hk,rfl⟩:=List.getElem_of_mem hy
 obtain ⟨a,n,c,e,_⟩:=h.2 k (by rw [← h.1]; exact hk)
 rw [List.getElem?_eq_getElem hk] at e
 injection e with e
 rw [e]; rfl
def TurnsIs (w : World) (ts : List Turn) (cs : List Value) : Prop:=cs.length = ts.length∧∀ k (hk : k < ts.length),∃ v,cs[k]? = some v∧OwnRows 0 w v ts[k]
theorem TurnsIs.tk {w w' : World} {ts : List Turn} {cs : List Value} {x : Option Nat} {bad : List Nat} (h : TurnsIs w ts cs) (hk : Tk x bad w w') (hx : jy w x) (h1 : 31 ∉ bad) (h2 : 3 ∉ bad) : TurnsIs w' ts cs:=
 ⟨h.1,fun k hl=>by obtain ⟨v,e,ho⟩:=h.2 k hl; exact ⟨v,e,ho.tk hk hx h1 h2⟩⟩
theorem TurnsIs.snoc {w : World} {ts : List Turn} {cs : List Value} {t : Turn} {v : Value} (h : TurnsIs w ts cs) (ho : OwnRows 0 w v t) : TurnsIs w (ts ++ [t]) (cs ++ [v]):=by
 refine ⟨by simp [h.1],fun k hk=>?_⟩
 by_cases hl : k < ts.length
 ·obtain ⟨v',e,ho'⟩:=h.2 k hl
  refine ⟨v',?_,?_⟩
  ·rw [List.getElem?_append_left (by rw [h.1]; exact hl)]; exact e
  ·rw [List.getElem_append_left hl]; exact ho'
 ·have : k = ts.length:=by simp at hk; omega
  subst this
  exact ⟨v,by rw [← h.1]; simp,by simpa using ho⟩
def kqz (B : Nat) (w : World) (x : Value) (ts : List Turn) : Prop:=∃ la ll lc cs,x = .slice la ll lc∧w.ownsRow B 256 1 (.slice la ll lc) ts.length cs∧TurnsIs w ts cs
theorem kqz.tk {B : Nat} {w w' : World} {v : Value} {ls : List Turn} {x : Option Nat} {bad : List Nat} (h : kqz B w v ls) (hk : Tk x bad w w') (hx : jy w x) (h0 : 256 ∉ bad) (h1 : 31 ∉ bad) (h2 : 3 ∉ bad) : kqz B w' v ls:=by
 obtain ⟨la,ll,lc,cs,e,h3,h4⟩:=h
 exact ⟨la,ll,lc,cs,e,zk h3 hk hx h0,h4.tk hk hx h1 h2⟩
set_option maxRecDepth 100000 in
set_option maxHeartbeats 4000000 in
theorem cloneTurn_any (w : World) (lo : Nat) (cs : List Value) (n : Nat) (sa : Option Addr) (sn sc : Nat) (hS : w.ownsRow lo 31 1 (.slice sa sn sc) n cs) (h1 : ∀ y ∈ cs,y.oneCell' = true) (hl : n≤1000000) :
  Calls Tryz.prog 128 #[.slice sa sn sc] w fun e w'=>∃ ca cn cc,e = .returned (.slice ca cn cc)∧w'.ownsRow w.heap.size 31 1 (.slice ca cn cc) n cs∧Below w.heap.size w w':=by
 rcases hS.2 with ⟨e1,e2⟩ | ⟨g,cap,cur,e1,e2,e3,e4⟩
 ·injection e1 with e1 e1' e1''
  subst e1; subst e1'; subst e1''
  subst e2
  have hn : cs = []:=List.eq_nil_of_length_eq_zero (by simpa using hS.1)
  subst hn
  have hnil:=fun w=>Go.Lib.run_eql_slice_nil (P:=Tryz.prog) w 256 31 none 0 0 0 0 Tryz.underlying256
  clear hS hl h1
  go_enter Tryz.func128,Tryz.ntmps128
  go_wp2
  go_ret
  exact ⟨none,0,0,rfl,World.ownsRow_nil _ _ _ _,Below.refl _ _⟩
 ·injection e1 with e1 e1' e1''
  subst e1; subst e1'; subst e1''
  have HS:=hide (qy hS (below_alloc1 w (.cells #[] 31)))
  have HO:=hide (show (w.alloc (.cells #[] 31)).ownsRow w.heap.size 31 1 (.slice (some ⟨w.heap.size,0,none⟩) 0 0) 0 [] from ⟨rfl,Or.inr ⟨w.heap.size,0,_,rfl,Nat.le_refl _,qg _ _,Nat.le_refl _,by unfold maxLen; omega,rfl,rfl⟩⟩)
  obtain ⟨i0,hi,hz0,hz1,hz2⟩:=info_parts Tryz.infoInts
  have hnil:=fun w=>Go.Lib.run_eql_slice_nil (P:=Tryz.prog) w 256 31 (some ⟨g,0,none⟩) sn sc 0 0 Tryz.underlying256
  have H1:=hide h1
  clear hS e2 e3 e4 h1
  go_enter Tryz.func128,Tryz.ntmps128
  go_wp2_with (at_builtin; refine kj9 rfl _ _ 256 rfl w.heap.size 31 i0 _ 1 24 Tryz.underlying256 hi hz0 hz1 hz2 rfl (by decide) (.slice (some ⟨w.heap.size,0,none⟩) 0 0) 0 [] rfl (ku HO) (.slice (some ⟨g,0,none⟩) sn sc) sn _ _ rfl (ku HS) (ku H1) (by unfold maxLen; omega) (by omega) (by simp) ?_)
  intro v3 w3 hown3 hgrow3 hat3
  have HB3:=hide ((below_alloc1 w _).grown hgrow3 (by simp) (jm (ku HO)))
  obtain ⟨a3,l3,c3,rfl⟩:=zy hown3
  have HV3:=hide hown3
  clear hown3 hgrow3 hat3
  go_wp2
  go_ret
  exact ⟨a3,l3,c3,rfl,ku HV3,ku HB3⟩
theorem orders_small (n : Nat) (hn : n≤4) : (orders n).length≤24:=by
 unfold orders; rw [sortL_len]; exact ordRaw_small n hn
def OrbPost (B : Nat) (w : World) (M size : Nat) (ts : List Turn) (e : Ending) (w' : World) : Prop:=
 ∃ O tv cv,e = .returned (.pointer (some ⟨O,0,none⟩))∧w'.heap[O]? = some (.cells #[.pointer (some ⟨M,0,none⟩),tv,cv] 260 (0,0))∧kqz B w' tv ts∧w'.ownsRow B 5 1 cv size ((List.replicate size (0 : Int)).map (Value.int .u8))∧B≤O∧Below B w w'
set_option maxRecDepth 100000 in
set_option maxHeartbeats 8000000 in
theorem orbits_any (w : World) (M size : Nat) (sets : List Int) (ma : Option Addr) (mn mc : Nat) (hM : M < w.heap.size) (hM2 : w.cell? ⟨M,2,none⟩ = some (.slice ma mn mc)) (hS : w.ownsRow 0 3 1 (.slice ma mn mc) sets.length (sets.map (Value.int .i64))) (hM5 : w.cell? ⟨M,5,none⟩ = some (.int .i64 size)) (hsz : size≤1000000) (hsl : sets.length≤1000) (ts : List Turn) (hr : turnsO sets [[]] = some ts) :
  Calls Tryz.prog 75 #[.pointer (some ⟨M,0,none⟩)] w (OrbPost w.heap.size w M size ts):=by
 obtain ⟨i0,hi,hz0,hz1,hz2⟩:=info_parts Tryz.infoInts
 obtain ⟨j0,hj,hy0,hy1,hy2⟩:=info_parts Tryz.infoTurn
 obtain ⟨W,hW⟩ : ∃ W,W = w.alloc (.cells #[.slice none 0 0] 256):=⟨_,rfl⟩
 have hbW : Below w.heap.size w W:=by rw [hW]; exact below_alloc1 w _
 have hsW : w.heap.size < W.heap.size:=by rw [hW]; simp
 have hA : W.heap[w.heap.size]? = some (.cells #[.slice none 0 0] 256 (0,0)):=by rw [hW]; exact qg _ _
 have hstart : kqz w.heap.size W (.slice (some ⟨w.heap.size,0,none⟩) 1 1) [[]]:=
  ⟨_,_,_,[.slice none 0 0],rfl,⟨rfl,Or.inr ⟨w.heap.size,1,_,rfl,Nat.le_refl _,hA,Nat.le_refl _,by unfold maxLen; omega,rfl,rfl⟩⟩,rfl,fun k hk=>by
   have : k = 0:=by simp at hk; exact hk
   subst this
   exact ⟨.slice none 0 0,rfl,none,0,0,[],rfl,World.ownsRow_nil _ _ _ _,rfl,fun k hk=>by simp at hk⟩⟩
 obtain ⟨ya,yc,e1,hview⟩:=qm (qy hS hbW)
 injection e1 with e1 e2 e3
 subst e1; subst e2; subst e3
 have c2 : (w.alloc (.cells #[.slice none 0 0] 256)).cell? ⟨M,2,none⟩ = some (.slice ma sets.length mc):=by rw [← hW]; exact (hbW.cell (p:=⟨M,2,none⟩) hM).trans hM2
 have HC5:=hide hM5
 have HW:=hide hview
 have HST:=hide hstart
 have HBW:=hide hbW
 have HWE:=hide hW.symm
 have HR:=hide hr
 clear hview hS hr hstart hA hbW hW hM2 hM5
 go_enter Tryz.func75,Tryz.ntmps75
 go_wp2_with fail
 rw [ku HWE]
 go_loopw [3,5,6,8,10,17] (fun x _ _ _ _ i wr=>∃ (k : Nat) (all : List Turn),k≤sets.length∧i = .int .i64 k∧kqz w.heap.size wr x all∧turnsO (sets.drop k) all = some ts∧all.length≤100000∧(∀ t ∈ all,t.length≤k)∧Below W.heap.size W wr) (fun _ _ _ _ _ i _=>sets.length - (intOf i).toNat)
 case atStart=>exact ⟨0,[[]],Nat.zero_le _,rfl,ku HST,ku HR,by simp,by simp,Below.refl _ _⟩
 case round=>
  obtain ⟨wo,hwo⟩ : ∃ wo,wo = wr:=⟨_,rfl⟩
  subst hwo
  obtain ⟨k,all,hk,rfl,hown,hrest,hal,hlen,hb⟩:=hrel
  obtain ⟨xa,xn,xc,cs,rfl,hrow,hrows⟩:=hown
  obtain ⟨za,zc,ez,hzv⟩:=qm hrow
  injection ez with ez1 ez2 ez3
  subst ez1; subst ez2; subst ez3
  have hsz':=hb.size
  by_cases hlt : k < sets.length
  ·obtain ⟨g,rfl,hg1,hg2,hc⟩:=ku HW k hlt
   have e0 : wo.cell? ⟨g,k,none⟩ = some (.int .i64 sets[k]):=by
    rw [hb.cell (p:=⟨g,k,none⟩) hg2,hc k (by omega),List.getElem?_map,List.getElem?_eq_getElem hlt]; rfl
   rw [List.drop_eq_getElem_cons hlt,turnsO] at hrest
   have hcl : 0≤sets[k]∧sets[k]≤4∧(ji sets[k].toNat all).length≤100000:=by
    apply Classical.byContradiction
    intro hc
    rw [if_neg hc] at hrest
    cases hrest
   rw [if_pos hcl] at hrest
   obtain ⟨n,hn⟩ : ∃ n : Nat,sets[k] = (n : Int):=⟨sets[k].toNat,by omega⟩
   rw [hn] at hcl hrest e0
   simp only [Int.toNat_natCast] at hcl hrest
   obtain ⟨_,hn4,hcl⟩:=hcl
   have hn4' : n≤4:=by omega
   have HREST:=hide hrest
   have HZV:=hide hzv
   have HRW:=hide hrows
   have HB:=hide hb
   have HLEN:=hide hlen
   have HS0:=hide (show kqz wo.heap.size wo (.slice none 0 0) (ji n (all.take 0)) from ⟨none,0,0,[],rfl,by simp [ji]; exact World.ownsRow_nil _ _ _ _,by simp [ji],fun k hk=>by simp [ji] at hk⟩)
   clear hc hb hrow hrows hzv hrest hlen hn hn4
   go_wp2_with fail
   go_loopw [6,8,10,23] (fun y _ _ i wm=>∃ j : Nat,j≤all.length∧i = .int .i64 j∧kqz wo.heap.size wm y (ji n (all.take j))∧Below wo.heap.size wo wm) (fun _ _ _ i _=>all.length - (intOf i).toNat)
   case atStart=>exact ⟨0,Nat.zero_le _,rfl,ku HS0,Below.refl _ _⟩
   case round=>
    obtain ⟨wm,hwm⟩ : ∃ wm,wm = wr:=⟨_,rfl⟩
    subst hwm
    obtain ⟨j,hjl,rfl,hown,hbm⟩:=hrel
    obtain ⟨ya',yn',yc',ds,rfl,hrow,hrows⟩:=hown
    have hszm:=hbm.size
    by_cases hltj : j < all.length
    ·obtain ⟨g5,rfl,hg51,hg52,hc5⟩:=ku HZV j hltj
     obtain ⟨v5,ec5,hch⟩:=(ku HRW).2 j hltj
     have e5 : wm.cell? ⟨g5,j * 1,none⟩ = some v5:=by
      rw [hbm.cell (p:=⟨g5,j * 1,none⟩) (by show g5 < wo.heap.size; omega),hc5 (j * 1) (by omega),Nat.mul_one]; exact ec5
     simp only [Nat.mul_one] at e5
     have hcl5 : all[j].length≤k:=(ku HLEN) _ (List.getElem_mem hltj)
     have hch':=hch.below hbm
     obtain ⟨ta,tn,tc,tcs,rfl,hto,htr⟩:=hch'
     have HTO:=hide hto
     have HTR:=hide htr
     have HROW:=hide hrow
     have HROWS:=hide hrows
     have HBM:=hide hbm
     have hstep:=turnStep_take n all j hltj
     have hsle:=turnStep_le n all (j + 1)
     have HSTEP:=hide hstep
     have HOC:=hide (orders_any wm n hn4')
     generalize all[j] = c at *
     clear hrow hrows hbm hc5 hch ec5 hstep hto htr
     go_wp2_with fail
     refine (ku HOC).mono ?_
     rintro e w3 ⟨v3,rfl,ho3,hb3⟩
     obtain ⟨oa,on,oc,ocs,rfl,hoo,hor⟩:=ho3
     obtain ⟨qa,qc,eq,hoview⟩:=qm hoo
     injection eq with eq1 eq2 eq3
     subst eq1; subst eq2; subst eq3
     have hsz3:=hb3.size
     have hos:=orders_small n hn4'
     have HOO:=hide hoo
     have HOR:=hide hor
     have HTO3:=hide (qy (ku HTO) hb3)
     have HTR3:=hide ((ku HTR).tk (jc hb3 none []) (jy.none _) (by simp))
     have HS3:=hide (show kqz wo.heap.size w3 (.slice ya' yn' yc') (ji n (all.take j) ++ ((orders n).take 0).map fun o=>c ++ [o]) from ⟨ya',yn',yc',ds,rfl,by simpa using qy (ku HROW) hb3,by simpa using (ku HROWS).tk (jc hb3 none []) (jy.none _) (by simp) (by simp)⟩)
     have HB3:=hide ((ku HBM).trans (hb3.mono hszm))
     generalize orders n = ords at *
     clear hoview hoo hor hb3 HOC HTO HTR HROW HROWS HBM
     go_wp2_with fail
     go_loopw [6,10,30] (fun y _ i wi=>∃ q : Nat,q≤ords.length∧i = .int .i64 q∧kqz wo.heap.size wi y (ji n (all.take j) ++ (ords.take q).map fun o=>c ++ [o])∧Below wo.heap.size wo wi∧Tk none [256] w3 wi) (fun _ _ i _=>ords.length - (intOf i).toNat)
     case atStart=>exact ⟨0,Nat.zero_le _,rfl,ku HS3,ku HB3,Tk.refl _ _ _⟩
     case round=>
      obtain ⟨wi,hwi⟩ : ∃ wi,wi = wr:=⟨_,rfl⟩
      subst hwi
      obtain ⟨q,hq,rfl,hown,hbi,hb3i⟩:=hrel
      obtain ⟨y1,y2,y3,ds',rfl,hrow,hrows⟩:=hown
      have hszi:=hbi.size
      have hsz3i:=hb3i.size
      by_cases hlq : q < ords.length
      ·obtain ⟨qa',qc',eq',hov⟩:=qm (zk (ku HOO) hb3i (jy.none _) (by decide))
       injection eq' with eq1 _ eq3
       subst eq1; subst eq3
       obtain ⟨g6,rfl,hg61,hg62,hc6⟩:=hov q hlq
       obtain ⟨oa6,on6,oc6,ec6,hch6⟩:=((ku HOR).tk hb3i (jy.none _) (by decide)).2 q hlq
       have e6 : wi.cell? ⟨g6,q * 1,none⟩ = some (.slice oa6 on6 oc6):=by
        rw [hc6 (q * 1) (by omega),Nat.mul_one]; exact ec6
       simp only [Nat.mul_one] at e6
       have HCW:=hide (zk (ku HTO3) hb3i (jy.none _) (by decide))
       have HCR:=hide ((ku HTR3).tk hb3i (jy.none _) (by decide))
       have HOW:=hide hch6
       have HROWi:=hide hrow
       have HROWSi:=hide hrows
       have HBi:=hide hbi
       have HB3i:=hide hb3i
       have hsn : (ji n (all.take j) ++ (ords.take (q + 1)).map fun o=>c ++ [o]) = (ji n (all.take j) ++ (ords.take q).map fun o=>c ++ [o]) ++ [c ++ [ords[q]]]:=by
        rw [List.take_succ_eq_append_getElem hlq,List.map_append,← List.append_assoc]; rfl
       have HSN:=hide hsn
       have hlen2 : (ji n (all.take j) ++ (ords.take q).map fun o=>c ++ [o]).length≤100000:=by
        have h1 : (ji n (all.take j) ++ (ords.take q).map fun o=>c ++ [o]).length≤(ji n (all.take (j + 1))).length:=by
         rw [ku HSTEP]; simp; omega
        omega
       have H1C:=hide ((ku HCR).one)
       generalize ords[q] = od at *
       generalize (ji n (all.take j) ++ (ords.take q).map fun o=>c ++ [o]) = Lg at *
       clear hrow hrows hbi hb3i hc6 ec6 hch6 hsn hov
       go_wp2_with fail
       refine (cloneTurn_any _ 0 tcs c.length ta tn tc (ku HCW) (ku H1C) (by omega)).mono ?_
       rintro e w4 ⟨ka,kn,kc,rfl,ho4,hb4⟩
       have hsz4:=hb4.size
       have HO4:=hide ho4
       have HB4:=hide hb4
       clear ho4 hb4
       go_wp2_with (at_builtin; refine wpList_append_own_at _ rfl _ _ 256 rfl wi.heap.size 31 i0 _ 1 24 Tryz.underlying256 hi hz0 hz1 hz2 rfl (by decide) (.slice ka kn kc) _ _ rfl ((ku HO4).alloc _) ⟨w4.heap.size,0,none⟩ 1 1 [.slice oa6 on6 oc6] rfl rfl (yw w4 _ [.slice oa6 on6 oc6] _ rfl) (by intro y hy; simp at hy; subst hy; rfl) (by unfold maxLen; omega) (by omega) (by simp; omega) ?_)
       intro v5 w5 hown5 hgrow5 _ hat5
       obtain ⟨a5,l5,c5,rfl⟩:=zy hown5
       have hb5 : Below wi.heap.size wi w5:=((ku HB4).alloc hsz4 _).grown hgrow5 (by simp; omega) (jm (ku HO4))
       have hsz5:=hb5.size
       have HN5:=hide (show OwnRows 0 w5 (.slice a5 l5 c5) (c ++ [od]) from ⟨a5,l5,c5,_,rfl,by rw [List.length_append]; exact zx (Nat.zero_le _) hown5,((ku HCR).tk (jc hb5 none []) (jy.none _) (by simp)).snoc (qy (ku HOW) hb5)⟩)
       have HB5:=hide hb5
       have HRW5:=hide (qy (ku HROWi) hb5)
       clear hown5 hgrow5 hat5 hb5
       go_wp2_with (at_builtin; refine wpList_append_own_at _ rfl _ _ 255 rfl wo.heap.size 256 j0 _ 1 24 Tryz.underlying255 hj hy0 hy1 hy2 rfl (by decide) (.slice y1 y2 y3) _ _ rfl ((ku HRW5).alloc _) ⟨w5.heap.size,0,none⟩ 1 1 [.slice a5 l5 c5] rfl rfl (yw w5 _ [.slice a5 l5 c5] _ rfl) (by intro y hy; simp at hy; subst hy; rfl) (by unfold maxLen; omega) (by omega) (by simp; omega) ?_)
       intro v6 w6 hown6 hgrow6 _ hat6
       obtain ⟨a6,l6,c6,rfl⟩:=zy hown6
       have k6 : Tk none [256] w5 w6:=(jc (below_alloc1 w5 _) _ _).trans (kq4 ((ku HRW5).alloc _) hgrow6 (by simp))
       have HX6:=hide (show kqz wo.heap.size w6 (.slice a6 l6 c6) (Lg ++ [c ++ [od]]) from ⟨a6,l6,c6,_,rfl,by rw [List.length_append]; exact hown6,(((ku HROWSi).tk (jc (ku HB5) none [256]) (jy.none _) (by decide) (by decide)).snoc (ku HN5)).tk k6 (jy.none _) (by decide) (by decide)⟩)
       have HB6:=hide ((((ku HBi).trans ((ku HB5).mono hszi)).alloc (by omega) _).grown hgrow6 (by simp; omega) (jm (ku HRW5)))
       have HB36:=hide (((ku HB3i).trans (jc (ku HB5) _ _)).trans k6)
       clear hown6 hgrow6 hat6 k6
       go_wp2
       go_roundw
       case rel=>exact ⟨q + 1,by omega,by go_num,by rw [ku HSN]; exact ku HX6,ku HB6,ku HB36⟩
       case measure=>simp [intOf]; omega
      ·have : q = ords.length:=by omega
       subst this
       rw [List.take_length] at hrow hrows
       have HX:=hide (show kqz wo.heap.size wi (.slice y1 y2 y3) (ji n (all.take (j + 1))) from ⟨y1,y2,y3,ds',rfl,by rw [ku HSTEP]; exact hrow,by rw [ku HSTEP]; exact hrows⟩)
       have HBi:=hide hbi
       clear hrow hrows hbi hb3i
       go_wp2
       go_roundw
       case rel=>exact ⟨j + 1,by omega,by go_num,ku HX,ku HBi⟩
       case measure=>simp [intOf]; omega
    ·have : j = all.length:=by omega
     subst this
     rw [List.take_length] at hrow hrows
     have HX:=hide (show kqz w.heap.size wm (.slice ya' yn' yc') (ji n all) from ⟨ya',yn',yc',ds,rfl,zx (by omega) hrow,hrows⟩)
     have HBm:=hide ((ku HB).trans (hbm.mono (by omega)))
     have HL2:=hide (show ∀ t ∈ ji n all,t.length≤k + 1 from fun t ht=>by
      obtain ⟨c,hc,h2⟩:=List.mem_flatMap.mp ht
      obtain ⟨o,_,rfl⟩:=List.mem_map.mp h2
      have:=(ku HLEN) c hc
      simp; omega)
     clear hrow hrows hbm
     go_wp2
     go_roundw
     case rel=>exact ⟨k + 1,ji n all,by omega,by go_num,ku HX,ku HREST,hcl,ku HL2,ku HBm⟩
     case measure=>simp [intOf]; omega
  ·have : k = sets.length:=by omega
   subst this
   rw [List.drop_length,turnsO] at hrest
   injection hrest with hrest
   subst hrest
   have HX:=hide (show kqz w.heap.size wo (.slice xa all.length xc) all from ⟨xa,all.length,xc,cs,rfl,hrow,hrows⟩)
   have hbw:=(ku HBW).trans (hb.mono (by omega))
   have hszw:=hbw.size
   have HF:=hide (first_state wo M size ((hbw.cell (p:=⟨M,5,none⟩) hM).trans (ku HC5)) hsz)
   have HB:=hide hbw
   clear hrow hrows hb hzv hbw
   go_wp2_with fail
   refine (ku HF).mono ?_
   rintro e w5 ⟨v5,rfl,ho5,hb5⟩
   obtain ⟨a5,l5,c5,rfl⟩:=zy ho5
   have hs5:=hb5.size
   have K:=(jc hb5 none []).alloc (.cells #[.pointer (some ⟨M,0,none⟩),.slice xa all.length xc,.slice a5 l5 c5] 260)
   have HP:=hide (show OrbPost w.heap.size w M size all (.returned (.pointer (some ⟨w5.heap.size,0,none⟩))) (w5.alloc (.cells #[.pointer (some ⟨M,0,none⟩),.slice xa all.length xc,.slice a5 l5 c5] 260)) from
    ⟨w5.heap.size,_,_,rfl,qg _ _,(ku HX).tk K (jy.none _) (by simp) (by simp) (by simp),zx hszw (ho5.alloc _),by omega,((ku HB).trans (hb5.mono hszw)).alloc (by omega) _⟩)
   clear ho5 hb5 K HF
   go_wp2
   go_ret
   exact ku HP
end Go.Proofs.YtpmcnonmkghokaaGreatDoor

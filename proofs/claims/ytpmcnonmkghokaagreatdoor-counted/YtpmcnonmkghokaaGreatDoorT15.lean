import Derived.Test.YtpmcnonmkghokaaGreatDoorT14
import Derived.Test.YtpmcnonmkghokaaGreatDoorT13
import Derived.Deep.AppendLies
set_option linter.unusedVariables false
set_option linter.unusedSimpArgs false
namespace Go.Proofs.YtpmcnonmkghokaaGreatDoor
open Go.RowKit
attribute [local go_sem ↓] Go.wp_at_zero Go.wp_at_succ
theorem Tryz.infoMStep : (Tryz.prog.info? 178).map (fun i=>(i.zero,i.size,i.bytes)) = some (some (.agg #[.string ⟨#[]⟩,.pointer none,.slice none 0 0,.slice none 0 0,.pointer none,.slice none 0 0]),6,104):=by kernel_rfl
def AsS (M b R : Nat) (xv x0 x1 x2 x3 y3 y4 : Value) (w : World) : Prop:=
 w.cell? ⟨M,0,none⟩ = some xv∧w.cell? ⟨b,0,none⟩ = some x0∧w.cell? ⟨b,1,none⟩ = some x1∧w.cell? ⟨b,2,none⟩ = some x2∧w.cell? ⟨b,3,none⟩ = some x3∧w.cell? ⟨R,3,none⟩ = some y3∧w.cell? ⟨R,4,none⟩ = some y4
theorem AsS.below {M b R : Nat} {xv x0 x1 x2 x3 y3 y4 : Value} {B : Nat} {w w' : World} (h : AsS M b R xv x0 x1 x2 x3 y3 y4 w) (hb : Below B w w') (hM : M < B) (hB : b < B) (hR : R < B) : AsS M b R xv x0 x1 x2 x3 y3 y4 w':=by
 obtain ⟨s0,s1,s2,s3,s4,s5,s6⟩:=h
 exact ⟨(hb.cell (p:=⟨M,0,none⟩) (by simp; omega)).trans s0,(hb.cell (p:=⟨b,0,none⟩) (by simp; omega)).trans s1,(hb.cell (p:=⟨b,1,none⟩) (by simp; omega)).trans s2,(hb.cell (p:=⟨b,2,none⟩) (by simp; omega)).trans s3,(hb.cell (p:=⟨b,3,none⟩) (by simp; omega)).trans s4,(hb.cell (p:=⟨R,3,none⟩) (by simp; omega)).trans s5,(hb.cell (p:=⟨R,4,none⟩) (by simp; omega)).trans s6⟩
theorem as_row4 {lo so : Nat} {w : World} {M nb : Nat} {steps : List MStep} {nevers : List MNever} {sets : List Int} {vars : List MVar} {tab : uq} {size : Nat} {sv nv tv vv : Value} (h : kqt lo so w M nb steps nevers sets vars tab size sv nv tv vv) {w3 w4 : World} {o : Obj} (hb : Below w.heap.size w w3) (hg : (w3.alloc o).grownBy w4 sv.ownBlock) : w4.heap[M]? = some (.cells #[sv,nv,tv,vv,.map (some nb),.int .i64 size] 105 (0,0)):=by
 have h3 : (w3.alloc o).heap[M]? = some (.cells #[sv,nv,tv,vv,.map (some nb),.int .i64 size] 105 (0,0)):=ql ((hb.block M (lt_of_block h.row)).trans h.row)
 obtain ⟨cs,ho,_⟩:=h.steps
 exact (kq4 (x:=none) (bad:=[178]) (qy ho (hb.alloc hb.size o)) hg (by decide)).row h3 (by simp) (by decide)
theorem as_end {lo so : Nat} {w : World} {M nb : Nat} {steps : List MStep} {nevers : List MNever} {sets : List Int} {vars : List MVar} {tab : uq} {size : Nat} {sv nv tv vv : Value} (h : kqt lo so w M nb steps nevers sets vars tab size sv nv tv vv) (s : MStep) {cs ds : List Value} (hva : w.ownsRow lo 178 6 sv steps.length cs) (hsi : StepsIs 0 so w M steps cs) {w3 w4 : World} (hb : Below w.heap.size w w3) (hs : StepIs 0 so w3 M s ds) (hd : ds.length = 6)
  (hg : (w3.alloc (.cells ds.toArray 178)).grownBy w4 sv.ownBlock) {gg gcap : Nat} (hown : w4.ownsRow lo 178 6 (.slice (some ⟨gg,0,none⟩) (steps.length + 1) gcap) (steps.length + 1) (cs ++ ds)) (hlo : lo≤w.heap.size) :
  (∃ gv gn gc,kqt lo so (w4.setCell ⟨M,0,none⟩ (.slice (some ⟨gg,0,none⟩) (steps.length + 1) gcap)) M nb (steps ++ [s]) nevers sets vars tab size (.slice gv gn gc) nv tv vv)∧Tk none [105,178] w (w4.setCell ⟨M,0,none⟩ (.slice (some ⟨gg,0,none⟩) (steps.length + 1) gcap))∧Below lo w (w4.setCell ⟨M,0,none⟩ (.slice (some ⟨gg,0,none⟩) (steps.length + 1) gcap)):=by
 have hr4:=as_row4 h hb hg
 have hr5:=mset0 hr4 (.slice (some ⟨gg,0,none⟩) (steps.length + 1) gcap)
 have hb3 : Below w.heap.size w (w3.alloc (.cells ds.toArray 178)):=hb.alloc hb.size _
 have hv3:=qy hva hb3
 have k4 : Tk none [105,178] (w3.alloc (.cells ds.toArray 178)) w4:=kq4 hv3 hg (by decide)
 have k5 : Tk none [105] w4 (w4.setCell ⟨M,0,none⟩ (.slice (some ⟨gg,0,none⟩) (steps.length + 1) gcap)):=set_tk hr4 (by decide) 0 _
 have k35:=k4.trans (k5.wide (by decide : ∀ e ∈ [105],e ∈ [105,178]))
 have k3:=(jc (below_alloc1 w3 (.cells ds.toArray 178)) none [105,178]).trans k35
 have K:=(jc hb3 none [105,178]).trans k35
 have nr:=jy.none w
 obtain ⟨h0,h1,h2,h3,⟨c4,h4,q4⟩,h5,h6,h7⟩:=h
 obtain ⟨c2,h2,q2⟩:=h2
 refine ⟨⟨_,_,_,⟨hr5,⟨cs ++ ds,?_,?_⟩,⟨c2,zk h2 K nr (by decide),q2.tk K nr (by decide) (by decide)⟩,zk h3 K nr (by decide),⟨c4,zk h4 K nr (by decide),q4.tk K nr (by decide)⟩,h5.tk K (by simp),h6,h7⟩⟩,K,?_⟩
 ·rw [List.length_append]; exact zk hown k5 (jy.none _) (by decide)
 ·exact (hsi.tk K nr (by decide) (by decide)).snoc (hs.tk k3 (jy.none _) (by decide) (by decide)) hd
 ·exact (((hb3.mono hlo)).grown hg (Nat.le_trans hlo hb3.size) (jm hv3)).setCell (p:=⟨M,0,none⟩) h6 _
set_option maxRecDepth 100000 in
set_option maxHeartbeats 8000000 in
theorem addSteps_any (w : World) (lo so M nb : Nat) (steps : List MStep) (nevers : List MNever) (sets : List Int) (vars : List MVar) (tab : uq) (size : Nat) (sv nv tv vv : Value) (a0 a1 a2 a3 a4 : Option Addr) (n0 n1 n2 n3 n4 c0 c1 c2 c3 c4 : Nat) (m : MdL) (rl : PRule) (pa gp ba : Option Addr) (pn pc bn bc : Nat) (bs : List Value) (h : kqt lo so w M nb steps nevers sets vars tab size sv nv tv vv) (hm : MdIs so w (.slice a0 n0 c0) (.slice a1 n1 c1) (.slice a2 n2 c2) (.slice a3 n3 c3) (.slice a4 n4 c4) m) (hf : MdFit m) (hns : rl.name.text.size≤1000)
  (hP : w.ownsRow so 352 4 (.slice pa pn pc) rl.params.length (jq rl.params)) (hpl : rl.params.length≤1000) (hX : XIs so w rl.guard (.pointer gp)) (hB : w.ownsRow so 334 9 (.slice ba bn bc) (vg rl.body) bs) (hBI : BIs so none w rl.body bs) (r : List (List Int)) (hr : chO m.sets rl.params [[]] = some r) (hok : ∀ x ∈ r,insOk x = true) (hrl : r.length≤100000) (hsl : steps.length≤100000) (hlo : lo≤w.heap.size) :
  Calls Tryz.prog 58 #[.pointer (some ⟨M,0,none⟩),mdV a0 a1 a2 a3 a4 n0 n1 n2 n3 n4 c0 c1 c2 c3 c4,.agg #[.string rl.name.text,.int .i64 rl.name.at_,.slice pa pn pc,.pointer gp,.slice ba bn bc]] w fun e w'=>e = .returned (.tuple #[])∧(∃ gv gn gc,kqt lo so w' M nb (steps ++ r.map (fun ms=>(⟨insT rl.name.text ms,rl.params,ms,rl.guard,rl.body⟩ : MStep))) nevers sets vars tab size (.slice gv gn gc) nv tv vv)∧Tk none [105,178] w w'∧Below lo w w':=by
 obtain ⟨i0,hi,hz0,hz1,hz2⟩:=info_parts Tryz.infoMStep
 obtain ⟨W,hW⟩ : ∃ W,W = (w.alloc (.cells #[.slice a0 n0 c0,.slice a1 n1 c1,.slice a2 n2 c2,.slice a3 n3 c3,.slice a4 n4 c4] 68)).alloc (.cells #[.string rl.name.text,.int .i64 rl.name.at_,.slice pa pn pc,.pointer gp,.slice ba bn bc] 127):=⟨_,rfl⟩
 have hbW : Below w.heap.size w W:=by rw [hW]; exact (below_alloc1 w _).trans ((below_alloc1 _ _).mono (by simp))
 have hsW : w.heap.size + 1 < W.heap.size:=by rw [hW]; simp
 have hN : W.heap[w.heap.size + 1]? = some (.cells #[.string rl.name.text,.int .i64 rl.name.at_,.slice pa pn pc,.pointer gp,.slice ba bn bc] 127 (0,0)):=by
  rw [hW]
  have:=qg (w.alloc (.cells #[.slice a0 n0 c0,.slice a1 n1 c1,.slice a2 n2 c2,.slice a3 n3 c3,.slice a4 n4 c4] 68)) (.cells #[.string rl.name.text,.int .i64 rl.name.at_,.slice pa pn pc,.pointer gp,.slice ba bn bc] 127)
  simp only [World.size_alloc] at this
  exact this
 have HINS:=hide (instances_any W so so M a0 a1 a2 a3 a4 n0 n1 n2 n3 n4 c0 c1 c2 c3 c4 m (hm.stay fun k _ hk=>hbW.block k hk) hf rl.name hns rl.params pa pn pc (qy hP hbW) hpl r hr hok hrl)
 unfold mdV at HINS ⊢
 have hMl : M < w.heap.size:=lt_of_block h.row
 have HN:=hide hN
 have HBW:=hide hbW
 have HWE:=hide hW.symm
 have HMC:=hide (h.below hbW)
 have HP:=hide (qy hP hbW)
 have HX:=hide (hX.below hbW)
 have HBO:=hide (qy hB hbW)
 have HBI:=hide (show BIs so none W rl.body bs from hBI.stay fun k _ hk=>hbW.block k hk)
 clear hB hBI
 clear h hm hf hP hX hr hok hN hbW hW
 go_enter Tryz.func58,Tryz.ntmps58
 go_wp2_with fail
 rw [ku HWE]
 refine (ku HINS).mono ?_
 rintro e w1 ⟨xa,xn,xc,cs,rfl,hrow,hins,hb1⟩
 obtain ⟨ya,yc,e1,hview⟩:=qm hrow
 injection e1 with e1 e2 e3
 subst e1; subst e2; subst e3
 have hs1:=hb1.size
 have HV:=hide hview
 have HROW:=hide hrow
 have HI:=hide hins
 have HN1:=hide ((hb1.block _ hsW).trans (ku HN))
 have HMC1:=hide ((ku HMC).below hb1)
 have HP1:=hide (qy (ku HP) hb1)
 have HX1:=hide ((ku HX).below hb1)
 have HBO1:=hide (qy (ku HBO) hb1)
 have HBI1:=hide (show BIs so none w1 rl.body bs from (ku HBI).stay fun k _ hk=>hb1.block k hk)
 clear HBO HBI
 have HB1:=hide ((ku HBW).trans (hb1.mono (by omega)))
 clear hview hrow hins hb1 HINS HN HMC HP HX
 go_wp2_with fail
 go_loopw [7,16] (fun _ i wr=>∃ k : Nat,k≤r.length∧i = .int .i64 k∧(∃ gv gn gc,kqt lo so wr M nb (steps ++ (r.take k).map (fun ms=>(⟨insT rl.name.text ms,rl.params,ms,rl.guard,rl.body⟩ : MStep))) nevers sets vars tab size (.slice gv gn gc) nv tv vv)∧Tk none [105,178] w1 wr∧Below lo w1 wr) (fun _ i _=>r.length - (intOf i).toNat)
 case atStart=>
  obtain ⟨gx,hgx⟩ : ∃ gx : List Value,w1.ownsRow lo 178 6 sv steps.length gx:=by obtain ⟨q,hq,_⟩:=(ku HMC1).steps; exact ⟨q,hq⟩
  obtain ⟨gv,gc,e,_⟩:=qm hgx
  subst e
  exact ⟨0,Nat.zero_le _,rfl,⟨gv,_,gc,by simpa using ku HMC1⟩,Tk.refl _ _ _,Below.refl _ _⟩
 case round=>
  obtain ⟨k,hk,rfl,⟨va,vn,vc,hmc⟩,htk,hb⟩:=hrel
  have hsz:=htk.size
  by_cases hlt : k < r.length
  ·have hrow:=zk (ku HROW) htk (jy.none _) (by decide)
   obtain ⟨yb,yd,e1,hvw⟩:=qm hrow
   injection e1 with e1 e2 e3
   subst e1; subst e3
   obtain ⟨g,rfl,hg1,hg2,hc⟩:=hvw k hlt
   obtain ⟨ma,mn,mc,ec,hch⟩:=(ku HI).2 k hlt
   have hch':=zk hch htk (jy.none _) (by decide)
   obtain ⟨s0,s1,s2,s3⟩:=four_of ec
   have e0:=(hc (k * 4) (by omega)).trans s0
   have e1:=(hc (k * 4 + 1) (by omega)).trans s1
   have e2:=(hc (k * 4 + 2) (by omega)).trans s2
   have e3:=(hc (k * 4 + 3) (by omega)).trans s3
   have hnr:=htk.row (ku HN1) (by simp) (by decide)
   have hp':=zk (ku HP1) htk (jy.none _) (by decide)
   have hx':=(ku HX1).tk htk (jy.none _) (by decide)
   have hbo':=zk (ku HBO1) htk (jy.none _) (by decide)
   have hbi':=(ku HBI1).tk htk (jy.none _) (by decide) (by decide)
   obtain ⟨tt,htt⟩ : ∃ tt,tt = insT rl.name.text r[k]:=⟨_,rfl⟩
   obtain ⟨one,hone⟩ : ∃ one : MStep,one = (fun ms=>(⟨insT rl.name.text ms,rl.params,ms,rl.guard,rl.body⟩ : MStep)) r[k]:=⟨_,rfl⟩
   have hsI : StepIs 0 so wr M one [.string tt,.pointer (some ⟨M,0,none⟩),.slice pa pn pc,.slice ma mn mc,.pointer gp,.slice ba bn bc]:=by rw [hone,htt]; exact ⟨pa,pn,pc,ma,mn,mc,gp,ba,bn,bc,bs,none,rfl,zx (Nat.zero_le _) hp',zx (Nat.zero_le _) hch',hx',hbo',hbi'⟩
   have HSI:=hide hsI
   have HSN:=hide (show (steps ++ (r.take (k + 1)).map (fun ms=>(⟨insT rl.name.text ms,rl.params,ms,rl.guard,rl.body⟩ : MStep))) = (steps ++ (r.take k).map (fun ms=>(⟨insT rl.name.text ms,rl.params,ms,rl.guard,rl.body⟩ : MStep))) ++ [one] by rw [hone,List.take_succ_eq_append_getElem hlt,List.map_append,← List.append_assoc]; rfl)
   have hxl : (steps ++ (r.take k).map (fun ms=>(⟨insT rl.name.text ms,rl.params,ms,rl.guard,rl.body⟩ : MStep))).length≤200000:=by simp; omega
   rw [← htt] at e0
   generalize (steps ++ (r.take k).map (fun ms=>(⟨insT rl.name.text ms,rl.params,ms,rl.guard,rl.body⟩ : MStep))) = Lx at *
   have hrM:=hmc.row
   have hMr : M < wr.heap.size:=lt_of_block hrM
   obtain ⟨m0,m1,m2,m3,m4,m5,f0,f1,f2,f3,f4,f5⟩:=row6 hrM
   have hRl : w.heap.size + 1 < wr.heap.size:=by omega
   obtain ⟨u0,u1,u2,u3,u4,_⟩:=zh hnr
   have hbx : Below wr.heap.size wr (wr.alloc (.cells #[.string tt,.pointer (some ⟨M,0,none⟩),.slice pa pn pc,.slice ma mn mc] 176)):=below_alloc1 _ _
   have hbxr : (wr.alloc (.cells #[.string tt,.pointer (some ⟨M,0,none⟩),.slice pa pn pc,.slice ma mn mc] 176)).heap[wr.heap.size]? = some (.cells #[.string tt,.pointer (some ⟨M,0,none⟩),.slice pa pn pc,.slice ma mn mc] 176 (0,0)):=qg _ _
   obtain ⟨b0,b1,b2,b3,_⟩:=kqj hbxr
   have HS0:=hide (show AsS M wr.heap.size (w.heap.size + 1) (.slice va vn vc) (.string tt) (.pointer (some ⟨M,0,none⟩)) (.slice pa pn pc) (.slice ma mn mc) (.pointer gp) (.slice ba bn bc) (wr.alloc (.cells #[.string tt,.pointer (some ⟨M,0,none⟩),.slice pa pn pc,.slice ma mn mc] 176)).drew from ⟨(hbx.cell (p:=⟨M,0,none⟩) hMr).trans m0,b0,b1,b2,b3,(hbx.cell (p:=⟨w.heap.size + 1,3,none⟩) hRl).trans u3,(hbx.cell (p:=⟨w.heap.size + 1,4,none⟩) hRl).trans u4⟩)
   obtain ⟨xs,hva,hsis⟩:=hmc.steps
   have HVA:=hide hva
   have HSIS:=hide hsis
   have HMCr:=hide hmc
   have HTK:=hide htk
   have HB:=hide hb
   have HBX:=hide (show Below wr.heap.size wr (wr.alloc (.cells #[.string tt,.pointer (some ⟨M,0,none⟩),.slice pa pn pc,.slice ma mn mc] 176)).drew from hbx.drew)
   generalize r[k] = c at *
   clear hc hch hch' ec s0 s1 s2 s3 hvw hrow hnr hp' hx' hbo' hbi' htt hone hsI hmc htk hb hva hsis hbx hbxr b0 b1 b2 b3 u0 u1 u2 u3 u4 m0 m1 m2 m3 m4 m5 f0 f1 f2 f3 f4 f5 hrM
   go_upto_region 4 with fail
   refine jr (S:=AsS M wr.heap.size (w.heap.size + 1) (.slice va vn vc) (.string tt) (.pointer (some ⟨M,0,none⟩)) (.slice pa pn pc) (.slice ma mn mc) (.pointer gp) (.slice ba bn bc)) (tl:=[12,13,14,15]) (by kernel_rfl) ?_
   refine qj (i:=0) (v:=.pointer (some ⟨M,0,none⟩)) rfl (by kernel_rfl) (by kernel_rfl) (by kernel_rfl) (fun _ _ _ h=>h) (Or.inl ⟨by rfl,fun _ _=>by go_simp⟩) ?_
   try simp only [Act.put,List.setIfInBounds_toArray,List.set_cons_zero,List.set_cons_succ]
   refine qj (i:=1) (v:=.pointer (some ⟨M,0,none⟩)) rfl (by kernel_rfl) (by kernel_rfl) (by kernel_rfl) (fun _ _ _ h=>h) (Or.inl ⟨by rfl,fun _ _=>by go_simp⟩) ?_
   try simp only [Act.put,List.setIfInBounds_toArray,List.set_cons_zero,List.set_cons_succ]
   refine qj (i:=2) (v:=.pointer (some ⟨M,0,none⟩)) rfl (by kernel_rfl) (by kernel_rfl) (by kernel_rfl) (fun _ _ _ h=>h) (Or.inl ⟨by rfl,fun _ _=>by go_simp⟩) ?_
   try simp only [Act.put,List.setIfInBounds_toArray,List.set_cons_zero,List.set_cons_succ]
   refine qj (i:=3) (v:=.pointer (some ⟨M,0,none⟩)) rfl (by kernel_rfl) (by kernel_rfl) (by kernel_rfl) (fun _ _ _ h=>h) (Or.inl ⟨by rfl,fun _ _=>by go_simp⟩) ?_
   try simp only [Act.put,List.setIfInBounds_toArray,List.set_cons_zero,List.set_cons_succ]
   refine qo (i:=4) (v:=.slice va vn vc) [12,13,14,15] rfl (by kernel_rfl) (by kernel_rfl) (by kernel_rfl) (by kernel_rfl) (by decide) (fun _ _ _ h=>h) (Or.inl ⟨by rfl,fun wq hSw=>by (obtain ⟨s0,s1,s2,s3,s4,s5,s6⟩:=hSw; go_simp)⟩) (ku HS0) ?_
   try simp only [Act.put,List.setIfInBounds_toArray,List.set_cons_zero,List.set_cons_succ]
   refine qo (i:=5) (v:=.agg #[.string tt,.pointer (some ⟨M,0,none⟩),.slice pa pn pc,.slice ma mn mc]) [10,11,12,13,14,15] rfl (by kernel_rfl) (by kernel_rfl) (by kernel_rfl) (by kernel_rfl) (by decide) (fun _ _ _ h=>h) (Or.inl ⟨by rfl,fun wq hSw=>by (obtain ⟨s0,s1,s2,s3,s4,s5,s6⟩:=hSw; go_simp)⟩) (ku HS0) ?_
   try simp only [Act.put,List.setIfInBounds_toArray,List.set_cons_zero,List.set_cons_succ]
   refine qj (i:=6) (v:=.pointer (some ⟨w.heap.size + 1,3,none⟩)) rfl (by kernel_rfl) (by kernel_rfl) (by kernel_rfl) (fun _ _ _ h=>h) (Or.inl ⟨by rfl,fun _ _=>by go_simp⟩) ?_
   try simp only [Act.put,List.setIfInBounds_toArray,List.set_cons_zero,List.set_cons_succ]
   refine qo (i:=7) (v:=.pointer gp) [10,11,12,13,14,15] rfl (by kernel_rfl) (by kernel_rfl) (by kernel_rfl) (by kernel_rfl) (by decide) (fun _ _ _ h=>h) (Or.inl ⟨by rfl,fun wq hSw=>by (obtain ⟨s0,s1,s2,s3,s4,s5,s6⟩:=hSw; go_simp)⟩) (ku HS0) ?_
   try simp only [Act.put,List.setIfInBounds_toArray,List.set_cons_zero,List.set_cons_succ]
   refine qj (i:=8) (v:=.pointer (some ⟨w.heap.size + 1,4,none⟩)) rfl (by kernel_rfl) (by kernel_rfl) (by kernel_rfl) (fun _ _ _ h=>h) (Or.inl ⟨by rfl,fun _ _=>by go_simp⟩) ?_
   try simp only [Act.put,List.setIfInBounds_toArray,List.set_cons_zero,List.set_cons_succ]
   refine qo (i:=9) (v:=.slice ba bn bc) [10,11,12,13,14,15] rfl (by kernel_rfl) (by kernel_rfl) (by kernel_rfl) (by kernel_rfl) (by decide) (fun _ _ _ h=>h) (Or.inl ⟨by rfl,fun wq hSw=>by (obtain ⟨s0,s1,s2,s3,s4,s5,s6⟩:=hSw; go_simp)⟩) (ku HS0) ?_
   try simp only [Act.put,List.setIfInBounds_toArray,List.set_cons_zero,List.set_cons_succ]
   refine qj (i:=10) (v:=.agg #[.string tt,.pointer (some ⟨M,0,none⟩),.slice pa pn pc,.slice ma mn mc,.pointer gp,.slice ba bn bc]) rfl (by kernel_rfl) (by kernel_rfl) (by kernel_rfl) (fun _ _ _ h=>h) (Or.inl ⟨by rfl,fun _ _=>by go_simp⟩) ?_
   try simp only [Act.put,List.setIfInBounds_toArray,List.set_cons_zero,List.set_cons_succ]
   refine uj (rs:=[11]) (by kernel_rfl) (by simp) ?_
   refine jk.cons rfl (fun K hK=>?_) jk.nil
   go_simp
   refine hK _ _ ((ku HS0).below (below_alloc1 _ _) (show M < (wr.alloc _).heap.size by simp; omega) (show wr.heap.size < (wr.alloc _).heap.size by simp) (show w.heap.size + 1 < (wr.alloc _).heap.size by simp; omega)) ?_
   clear hK K
   refine uh _ _ _ _ (kqr (by kernel_rfl)) ?_
   refine wpAny_ready (rs:=[12]) (by kernel_rfl) (by simp) (AllReady.cons rfl (fun K hK=>?_) AllReady.nil)
   refine step_append_lies _ (by rfl) _ _ _ (by rfl) lo 178 i0 _ 6 104 Tryz.underlying101 hi hz0 hz1 hz2 rfl (by omega) (.slice va vn vc) Lx.length xs (by rfl) (qy (ku HVA) ((ku HBX).alloc (ku HBX).size _)) ⟨wr.heap.size + 1,0,none⟩ 1 1 [.string tt,.pointer (some ⟨M,0,none⟩),.slice pa pn pc,.slice ma mn mc,.pointer gp,.slice ba bn bc] (by rfl) (by rfl) (World.news_of_block (cs:=#[.string tt,.pointer (some ⟨M,0,none⟩),.slice pa pn pc,.slice ma mn mc,.pointer gp,.slice ba bn bc]) (t:=178) (fr:=(0,0)) (by have:=heap_alloc_new (wr.alloc (.cells #[.string tt,.pointer (some ⟨M,0,none⟩),.slice pa pn pc,.slice ma mn mc] 176)) (.cells #[.string tt,.pointer (some ⟨M,0,none⟩),.slice pa pn pc,.slice ma mn mc,.pointer gp,.slice ba bn bc] 178); simp only [World.size_alloc] at this; exact this)) (by intro y hy; simp only [List.mem_cons,List.not_mem_nil,or_false] at hy; rcases hy with rfl | rfl | rfl | rfl | rfl | rfl <;> rfl) (by omega) (by unfold maxLen; omega) (by omega) (by simp; omega) (wr.heap.size + 2) (by simp) ?_
   intro gg gcap w4 hown4 hgrow hat hlt4
   refine hK _ _ ?_
   clear hK K
   have hgrow : ((wr.alloc (.cells #[.string tt,.pointer (some ⟨M,0,none⟩),.slice pa pn pc,.slice ma mn mc] 176)).drew.alloc (.cells #[.string tt,.pointer (some ⟨M,0,none⟩),.slice pa pn pc,.slice ma mn mc,.pointer gp,.slice ba bn bc] 178)).grownBy w4 (Value.slice va vn vc).ownBlock:=hgrow
   have hr4:=as_row4 (ku HMCr) (ku HBX) hgrow
   obtain ⟨m0,m1,m2,m3,m4,m5,f0,f1,f2,f3,f4,f5⟩:=row6 hr4
   have hend:=as_end (ku HMCr) one (ku HVA) (ku HSIS) (ku HBX) ((ku HSI).tk (jc (ku HBX) none []) (jy.none _) (by simp) (by simp)) rfl hgrow hown4 (by omega)
   have HEND:=hide (show (∃ gv gn gc,kqt lo so (w4.setCell ⟨M,0,none⟩ (.slice (some ⟨gg,0,none⟩) (Lx.length + 1) gcap)) M nb (Lx ++ [one]) nevers sets vars tab size (.slice gv gn gc) nv tv vv)∧Tk none [105,178] w1 (w4.setCell ⟨M,0,none⟩ (.slice (some ⟨gg,0,none⟩) (Lx.length + 1) gcap))∧Below lo w1 (w4.setCell ⟨M,0,none⟩ (.slice (some ⟨gg,0,none⟩) (Lx.length + 1) gcap)) from ⟨hend.1,(ku HTK).trans hend.2.1,(ku HB).trans hend.2.2⟩)
   clear hr4 hown4 hgrow hat hend
   refine wpAny_ready (rs:=[13]) (by kernel_rfl) (by simp) (AllReady.cons rfl (fun K hK=>?_) AllReady.nil)
   go_simp
   refine hK _ _ ?_
   clear hK K
   refine wpAny_ready (rs:=[14]) (by kernel_rfl) (by simp) (AllReady.cons rfl (fun K hK=>?_) AllReady.nil)
   go_simp
   refine hK _ _ ?_
   clear hK K
   refine wpAny_ready (rs:=[15]) (by kernel_rfl) (by simp) (AllReady.cons rfl (fun K hK=>?_) AllReady.nil)
   go_simp
   refine hK _ _ ?_
   clear hK K
   refine wpAny_done (by kernel_rfl) ?_ _
   go_wp2
   go_roundw
   case rel=>exact ⟨k + 1,by omega,by go_num,by rw [ku HSN]; exact (ku HEND).1,(ku HEND).2⟩
   case measure=>simp [intOf]; omega
  ·have : k = r.length:=by omega
   subst this
   rw [List.take_length] at hmc
   have HEND:=hide (show (∃ gv gn gc,kqt lo so wr M nb (steps ++ r.map (fun ms=>(⟨insT rl.name.text ms,rl.params,ms,rl.guard,rl.body⟩ : MStep))) nevers sets vars tab size (.slice gv gn gc) nv tv vv)∧Tk none [105,178] w wr∧Below lo w wr from ⟨⟨va,vn,vc,hmc⟩,(jc (ku HB1) _ _).trans htk,((ku HB1).mono hlo).trans hb⟩)
   clear hmc htk hb
   go_wp2
   go_end0
   exact ⟨rfl,ku HEND⟩
theorem Tryz.infoMNever : (Tryz.prog.info? 208).map (fun i=>(i.zero,i.size,i.bytes)) = some (some (.agg #[.string ⟨#[]⟩,.pointer none,.slice none 0 0,.slice none 0 0,.pointer none]),5,80):=by kernel_rfl
def AnS (M b R : Nat) (xv x0 x1 x2 x3 y3 : Value) (w : World) : Prop:=
 w.cell? ⟨M,1,none⟩ = some xv∧w.cell? ⟨b,0,none⟩ = some x0∧w.cell? ⟨b,1,none⟩ = some x1∧w.cell? ⟨b,2,none⟩ = some x2∧w.cell? ⟨b,3,none⟩ = some x3∧w.cell? ⟨R,3,none⟩ = some y3
theorem AnS.below {M b R : Nat} {xv x0 x1 x2 x3 y3 : Value} {B : Nat} {w w' : World} (h : AnS M b R xv x0 x1 x2 x3 y3 w) (hb : Below B w w') (hM : M < B) (hB : b < B) (hR : R < B) : AnS M b R xv x0 x1 x2 x3 y3 w':=by
 obtain ⟨s0,s1,s2,s3,s4,s5⟩:=h
 exact ⟨(hb.cell (p:=⟨M,1,none⟩) (by simp; omega)).trans s0,(hb.cell (p:=⟨b,0,none⟩) (by simp; omega)).trans s1,(hb.cell (p:=⟨b,1,none⟩) (by simp; omega)).trans s2,(hb.cell (p:=⟨b,2,none⟩) (by simp; omega)).trans s3,(hb.cell (p:=⟨b,3,none⟩) (by simp; omega)).trans s4,(hb.cell (p:=⟨R,3,none⟩) (by simp; omega)).trans s5⟩
theorem an_row4 {lo so : Nat} {w : World} {M nb : Nat} {steps : List MStep} {nevers : List MNever} {sets : List Int} {vars : List MVar} {tab : uq} {size : Nat} {sv nv tv vv : Value} (h : kqt lo so w M nb steps nevers sets vars tab size sv nv tv vv) {w3 w4 : World} {o : Obj} (hb : Below w.heap.size w w3) (hg : (w3.alloc o).grownBy w4 nv.ownBlock) : w4.heap[M]? = some (.cells #[sv,nv,tv,vv,.map (some nb),.int .i64 size] 105 (0,0)):=by
 have h3 : (w3.alloc o).heap[M]? = some (.cells #[sv,nv,tv,vv,.map (some nb),.int .i64 size] 105 (0,0)):=ql ((hb.block M (lt_of_block h.row)).trans h.row)
 obtain ⟨cs,ho,_⟩:=h.nevers
 exact (kq4 (x:=none) (bad:=[208]) (qy ho (hb.alloc hb.size o)) hg (by decide)).row h3 (by simp) (by decide)
theorem an_end {lo so : Nat} {w : World} {M nb : Nat} {steps : List MStep} {nevers : List MNever} {sets : List Int} {vars : List MVar} {tab : uq} {size : Nat} {sv nv tv vv : Value} (h : kqt lo so w M nb steps nevers sets vars tab size sv nv tv vv) (s : MNever) {cs ds : List Value} (hva : w.ownsRow lo 208 5 nv nevers.length cs) (hsi : NevsIs 0 so w M nevers cs) {w3 w4 : World} (hb : Below w.heap.size w w3) (hs : NevIs 0 so w3 M s ds) (hd : ds.length = 5)
  (hg : (w3.alloc (.cells ds.toArray 208)).grownBy w4 nv.ownBlock) {gg gcap : Nat} (hown : w4.ownsRow lo 208 5 (.slice (some ⟨gg,0,none⟩) (nevers.length + 1) gcap) (nevers.length + 1) (cs ++ ds)) (hlo : lo≤w.heap.size) :
  (∃ gv gn gc,kqt lo so (w4.setCell ⟨M,1,none⟩ (.slice (some ⟨gg,0,none⟩) (nevers.length + 1) gcap)) M nb steps (nevers ++ [s]) sets vars tab size sv (.slice gv gn gc) tv vv)∧Tk none [105,208] w (w4.setCell ⟨M,1,none⟩ (.slice (some ⟨gg,0,none⟩) (nevers.length + 1) gcap))∧Below lo w (w4.setCell ⟨M,1,none⟩ (.slice (some ⟨gg,0,none⟩) (nevers.length + 1) gcap)):=by
 have hr4:=an_row4 h hb hg
 have hr5:=mset1 hr4 (.slice (some ⟨gg,0,none⟩) (nevers.length + 1) gcap)
 have hb3 : Below w.heap.size w (w3.alloc (.cells ds.toArray 208)):=hb.alloc hb.size _
 have hv3:=qy hva hb3
 have k4 : Tk none [105,208] (w3.alloc (.cells ds.toArray 208)) w4:=kq4 hv3 hg (by decide)
 have k5 : Tk none [105] w4 (w4.setCell ⟨M,1,none⟩ (.slice (some ⟨gg,0,none⟩) (nevers.length + 1) gcap)):=set_tk hr4 (by decide) 1 _
 have k35:=k4.trans (k5.wide (by decide : ∀ e ∈ [105],e ∈ [105,208]))
 have k3:=(jc (below_alloc1 w3 (.cells ds.toArray 208)) none [105,208]).trans k35
 have K:=(jc hb3 none [105,208]).trans k35
 have nr:=jy.none w
 obtain ⟨h0,h1,h2,h3,⟨c4,h4,q4⟩,h5,h6,h7⟩:=h
 obtain ⟨c1,h1,q1⟩:=h1
 refine ⟨⟨_,_,_,⟨hr5,⟨c1,zk h1 K nr (by decide),q1.tk K nr (by decide) (by decide)⟩,⟨cs ++ ds,?_,?_⟩,zk h3 K nr (by decide),⟨c4,zk h4 K nr (by decide),q4.tk K nr (by decide)⟩,h5.tk K (by simp),h6,h7⟩⟩,K,?_⟩
 ·rw [List.length_append]; exact zk hown k5 (jy.none _) (by decide)
 ·exact (hsi.tk K nr (by decide) (by decide)).snoc (hs.tk k3 (jy.none _) (by decide) (by decide)) hd
 ·exact (((hb3.mono hlo)).grown hg (Nat.le_trans hlo hb3.size) (jm hv3)).setCell (p:=⟨M,1,none⟩) h6 _
set_option maxRecDepth 100000 in
set_option maxHeartbeats 8000000 in
theorem addNevers_any (w : World) (lo so M nb : Nat) (steps : List MStep) (nevers : List MNever) (sets : List Int) (vars : List MVar) (tab : uq) (size : Nat) (sv nv tv vv : Value) (a0 a1 a2 a3 a4 : Option Addr) (n0 n1 n2 n3 n4 c0 c1 c2 c3 c4 : Nat) (m : MdL) (rl : PRule) (pa gp : Option Addr) (pn pc : Nat) (h : kqt lo so w M nb steps nevers sets vars tab size sv nv tv vv) (hm : MdIs so w (.slice a0 n0 c0) (.slice a1 n1 c1) (.slice a2 n2 c2) (.slice a3 n3 c3) (.slice a4 n4 c4) m) (hf : MdFit m) (hns : rl.name.text.size≤1000)
  (hP : w.ownsRow so 352 4 (.slice pa pn pc) rl.params.length (jq rl.params)) (hpl : rl.params.length≤1000) (hX : XIs so w rl.guard (.pointer gp)) (r : List (List Int)) (hr : chO m.sets rl.params [[]] = some r) (hok : ∀ x ∈ r,insOk x = true) (hrl : r.length≤100000) (hsl : nevers.length≤100000) (hlo : lo≤w.heap.size) :
  Calls Tryz.prog 59 #[.pointer (some ⟨M,0,none⟩),mdV a0 a1 a2 a3 a4 n0 n1 n2 n3 n4 c0 c1 c2 c3 c4,.agg #[.string rl.name.text,.int .i64 rl.name.at_,.slice pa pn pc,.pointer gp]] w fun e w'=>e = .returned (.tuple #[])∧(∃ gv gn gc,kqt lo so w' M nb steps (nevers ++ r.map (fun ms=>(⟨insT rl.name.text ms,rl.params,ms,rl.guard⟩ : MNever))) sets vars tab size sv (.slice gv gn gc) tv vv)∧Tk none [105,208] w w'∧Below lo w w':=by
 obtain ⟨i0,hi,hz0,hz1,hz2⟩:=info_parts Tryz.infoMNever
 obtain ⟨W,hW⟩ : ∃ W,W = (w.alloc (.cells #[.slice a0 n0 c0,.slice a1 n1 c1,.slice a2 n2 c2,.slice a3 n3 c3,.slice a4 n4 c4] 68)).alloc (.cells #[.string rl.name.text,.int .i64 rl.name.at_,.slice pa pn pc,.pointer gp] 130):=⟨_,rfl⟩
 have hbW : Below w.heap.size w W:=by rw [hW]; exact (below_alloc1 w _).trans ((below_alloc1 _ _).mono (by simp))
 have hsW : w.heap.size + 1 < W.heap.size:=by rw [hW]; simp
 have hN : W.heap[w.heap.size + 1]? = some (.cells #[.string rl.name.text,.int .i64 rl.name.at_,.slice pa pn pc,.pointer gp] 130 (0,0)):=by
  rw [hW]
  have:=qg (w.alloc (.cells #[.slice a0 n0 c0,.slice a1 n1 c1,.slice a2 n2 c2,.slice a3 n3 c3,.slice a4 n4 c4] 68)) (.cells #[.string rl.name.text,.int .i64 rl.name.at_,.slice pa pn pc,.pointer gp] 130)
  simp only [World.size_alloc] at this
  exact this
 have HINS:=hide (instances_any W so so M a0 a1 a2 a3 a4 n0 n1 n2 n3 n4 c0 c1 c2 c3 c4 m (hm.stay fun k _ hk=>hbW.block k hk) hf rl.name hns rl.params pa pn pc (qy hP hbW) hpl r hr hok hrl)
 unfold mdV at HINS ⊢
 have hMl : M < w.heap.size:=lt_of_block h.row
 have HN:=hide hN
 have HBW:=hide hbW
 have HWE:=hide hW.symm
 have HMC:=hide (h.below hbW)
 have HP:=hide (qy hP hbW)
 have HX:=hide (hX.below hbW)
 clear h hm hf hP hX hr hok hN hbW hW
 go_enter Tryz.func59,Tryz.ntmps59
 go_wp2_with fail
 rw [ku HWE]
 refine (ku HINS).mono ?_
 rintro e w1 ⟨xa,xn,xc,cs,rfl,hrow,hins,hb1⟩
 obtain ⟨ya,yc,e1,hview⟩:=qm hrow
 injection e1 with e1 e2 e3
 subst e1; subst e2; subst e3
 have hs1:=hb1.size
 have HV:=hide hview
 have HROW:=hide hrow
 have HI:=hide hins
 have HN1:=hide ((hb1.block _ hsW).trans (ku HN))
 have HMC1:=hide ((ku HMC).below hb1)
 have HP1:=hide (qy (ku HP) hb1)
 have HX1:=hide ((ku HX).below hb1)
 have HB1:=hide ((ku HBW).trans (hb1.mono (by omega)))
 clear hview hrow hins hb1 HINS HN HMC HP HX
 go_wp2_with fail
 go_loopw [7,16] (fun _ i wr=>∃ k : Nat,k≤r.length∧i = .int .i64 k∧(∃ gv gn gc,kqt lo so wr M nb steps (nevers ++ (r.take k).map (fun ms=>(⟨insT rl.name.text ms,rl.params,ms,rl.guard⟩ : MNever))) sets vars tab size sv (.slice gv gn gc) tv vv)∧Tk none [105,208] w1 wr∧Below lo w1 wr) (fun _ i _=>r.length - (intOf i).toNat)
 case atStart=>
  obtain ⟨gx,hgx⟩ : ∃ gx : List Value,w1.ownsRow lo 208 5 nv nevers.length gx:=by obtain ⟨q,hq,_⟩:=(ku HMC1).nevers; exact ⟨q,hq⟩
  obtain ⟨gv,gc,e,_⟩:=qm hgx
  subst e
  exact ⟨0,Nat.zero_le _,rfl,⟨gv,_,gc,by simpa using ku HMC1⟩,Tk.refl _ _ _,Below.refl _ _⟩
 case round=>
  obtain ⟨k,hk,rfl,⟨va,vn,vc,hmc⟩,htk,hb⟩:=hrel
  have hsz:=htk.size
  by_cases hlt : k < r.length
  ·have hrow:=zk (ku HROW) htk (jy.none _) (by decide)
   obtain ⟨yb,yd,e1,hvw⟩:=qm hrow
   injection e1 with e1 e2 e3
   subst e1; subst e3
   obtain ⟨g,rfl,hg1,hg2,hc⟩:=hvw k hlt
   obtain ⟨ma,mn,mc,ec,hch⟩:=(ku HI).2 k hlt
   have hch':=zk hch htk (jy.none _) (by decide)
   obtain ⟨s0,s1,s2,s3⟩:=four_of ec
   have e0:=(hc (k * 4) (by omega)).trans s0
   have e1:=(hc (k * 4 + 1) (by omega)).trans s1
   have e2:=(hc (k * 4 + 2) (by omega)).trans s2
   have e3:=(hc (k * 4 + 3) (by omega)).trans s3
   have hnr:=htk.row (ku HN1) (by simp) (by decide)
   have hp':=zk (ku HP1) htk (jy.none _) (by decide)
   have hx':=(ku HX1).tk htk (jy.none _) (by decide)
   obtain ⟨tt,htt⟩ : ∃ tt,tt = insT rl.name.text r[k]:=⟨_,rfl⟩
   obtain ⟨one,hone⟩ : ∃ one : MNever,one = (fun ms=>(⟨insT rl.name.text ms,rl.params,ms,rl.guard⟩ : MNever)) r[k]:=⟨_,rfl⟩
   have hsI : NevIs 0 so wr M one [.string tt,.pointer (some ⟨M,0,none⟩),.slice pa pn pc,.slice ma mn mc,.pointer gp]:=by rw [hone,htt]; exact ⟨pa,pn,pc,ma,mn,mc,gp,rfl,zx (Nat.zero_le _) hp',zx (Nat.zero_le _) hch',hx'⟩
   have HSI:=hide hsI
   have HSN:=hide (show (nevers ++ (r.take (k + 1)).map (fun ms=>(⟨insT rl.name.text ms,rl.params,ms,rl.guard⟩ : MNever))) = (nevers ++ (r.take k).map (fun ms=>(⟨insT rl.name.text ms,rl.params,ms,rl.guard⟩ : MNever))) ++ [one] by rw [hone,List.take_succ_eq_append_getElem hlt,List.map_append,← List.append_assoc]; rfl)
   have hxl : (nevers ++ (r.take k).map (fun ms=>(⟨insT rl.name.text ms,rl.params,ms,rl.guard⟩ : MNever))).length≤200000:=by simp; omega
   rw [← htt] at e0
   generalize (nevers ++ (r.take k).map (fun ms=>(⟨insT rl.name.text ms,rl.params,ms,rl.guard⟩ : MNever))) = Lx at *
   have hrM:=hmc.row
   have hMr : M < wr.heap.size:=lt_of_block hrM
   obtain ⟨m0,m1,m2,m3,m4,m5,f0,f1,f2,f3,f4,f5⟩:=row6 hrM
   have hRl : w.heap.size + 1 < wr.heap.size:=by omega
   obtain ⟨u0,u1,u2,u3,_⟩:=kqj hnr
   have hbx : Below wr.heap.size wr (wr.alloc (.cells #[.string tt,.pointer (some ⟨M,0,none⟩),.slice pa pn pc,.slice ma mn mc] 176)):=below_alloc1 _ _
   have hbxr : (wr.alloc (.cells #[.string tt,.pointer (some ⟨M,0,none⟩),.slice pa pn pc,.slice ma mn mc] 176)).heap[wr.heap.size]? = some (.cells #[.string tt,.pointer (some ⟨M,0,none⟩),.slice pa pn pc,.slice ma mn mc] 176 (0,0)):=qg _ _
   obtain ⟨b0,b1,b2,b3,_⟩:=kqj hbxr
   have HS0:=hide (show AnS M wr.heap.size (w.heap.size + 1) (.slice va vn vc) (.string tt) (.pointer (some ⟨M,0,none⟩)) (.slice pa pn pc) (.slice ma mn mc) (.pointer gp) (wr.alloc (.cells #[.string tt,.pointer (some ⟨M,0,none⟩),.slice pa pn pc,.slice ma mn mc] 176)).drew from ⟨(hbx.cell (p:=⟨M,1,none⟩) hMr).trans m1,b0,b1,b2,b3,(hbx.cell (p:=⟨w.heap.size + 1,3,none⟩) hRl).trans u3⟩)
   obtain ⟨xs,hva,hsis⟩:=hmc.nevers
   have HVA:=hide hva
   have HSIS:=hide hsis
   have HMCr:=hide hmc
   have HTK:=hide htk
   have HB:=hide hb
   have HBX:=hide (show Below wr.heap.size wr (wr.alloc (.cells #[.string tt,.pointer (some ⟨M,0,none⟩),.slice pa pn pc,.slice ma mn mc] 176)).drew from hbx.drew)
   generalize r[k] = c at *
   clear hc hch hch' ec s0 s1 s2 s3 hvw hrow hnr hp' hx' htt hone hsI hmc htk hb hva hsis hbx hbxr b0 b1 b2 b3 u0 u1 u2 u3 m0 m1 m2 m3 m4 m5 f0 f1 f2 f3 f4 f5 hrM
   go_upto_region 4 with fail
   refine jr (S:=AnS M wr.heap.size (w.heap.size + 1) (.slice va vn vc) (.string tt) (.pointer (some ⟨M,0,none⟩)) (.slice pa pn pc) (.slice ma mn mc) (.pointer gp)) (tl:=[10,11,12,13]) (by kernel_rfl) ?_
   refine qj (i:=0) (v:=.pointer (some ⟨M,0,none⟩)) rfl (by kernel_rfl) (by kernel_rfl) (by kernel_rfl) (fun _ _ _ h=>h) (Or.inl ⟨by rfl,fun _ _=>by go_simp⟩) ?_
   try simp only [Act.put,List.setIfInBounds_toArray,List.set_cons_zero,List.set_cons_succ]
   refine qj (i:=1) (v:=.pointer (some ⟨M,0,none⟩)) rfl (by kernel_rfl) (by kernel_rfl) (by kernel_rfl) (fun _ _ _ h=>h) (Or.inl ⟨by rfl,fun _ _=>by go_simp⟩) ?_
   try simp only [Act.put,List.setIfInBounds_toArray,List.set_cons_zero,List.set_cons_succ]
   refine qj (i:=2) (v:=.pointer (some ⟨M,0,none⟩)) rfl (by kernel_rfl) (by kernel_rfl) (by kernel_rfl) (fun _ _ _ h=>h) (Or.inl ⟨by rfl,fun _ _=>by go_simp⟩) ?_
   try simp only [Act.put,List.setIfInBounds_toArray,List.set_cons_zero,List.set_cons_succ]
   refine qj (i:=3) (v:=.pointer (some ⟨M,1,none⟩)) rfl (by kernel_rfl) (by kernel_rfl) (by kernel_rfl) (fun _ _ _ h=>h) (Or.inl ⟨by rfl,fun _ _=>by go_simp⟩) ?_
   try simp only [Act.put,List.setIfInBounds_toArray,List.set_cons_zero,List.set_cons_succ]
   refine qo (i:=4) (v:=.slice va vn vc) [10,11,12,13] rfl (by kernel_rfl) (by kernel_rfl) (by kernel_rfl) (by kernel_rfl) (by decide) (fun _ _ _ h=>h) (Or.inl ⟨by rfl,fun wq hSw=>by (obtain ⟨s0,s1,s2,s3,s4,s5⟩:=hSw; go_simp)⟩) (ku HS0) ?_
   try simp only [Act.put,List.setIfInBounds_toArray,List.set_cons_zero,List.set_cons_succ]
   refine qo (i:=5) (v:=.agg #[.string tt,.pointer (some ⟨M,0,none⟩),.slice pa pn pc,.slice ma mn mc]) [8,9,10,11,12,13] rfl (by kernel_rfl) (by kernel_rfl) (by kernel_rfl) (by kernel_rfl) (by decide) (fun _ _ _ h=>h) (Or.inl ⟨by rfl,fun wq hSw=>by (obtain ⟨s0,s1,s2,s3,s4,s5⟩:=hSw; go_simp)⟩) (ku HS0) ?_
   try simp only [Act.put,List.setIfInBounds_toArray,List.set_cons_zero,List.set_cons_succ]
   refine qj (i:=6) (v:=.pointer (some ⟨w.heap.size + 1,3,none⟩)) rfl (by kernel_rfl) (by kernel_rfl) (by kernel_rfl) (fun _ _ _ h=>h) (Or.inl ⟨by rfl,fun _ _=>by go_simp⟩) ?_
   try simp only [Act.put,List.setIfInBounds_toArray,List.set_cons_zero,List.set_cons_succ]
   refine qo (i:=7) (v:=.pointer gp) [8,9,10,11,12,13] rfl (by kernel_rfl) (by kernel_rfl) (by kernel_rfl) (by kernel_rfl) (by decide) (fun _ _ _ h=>h) (Or.inl ⟨by rfl,fun wq hSw=>by (obtain ⟨s0,s1,s2,s3,s4,s5⟩:=hSw; go_simp)⟩) (ku HS0) ?_
   try simp only [Act.put,List.setIfInBounds_toArray,List.set_cons_zero,List.set_cons_succ]
   refine qj (i:=8) (v:=.agg #[.string tt,.pointer (some ⟨M,0,none⟩),.slice pa pn pc,.slice ma mn mc,.pointer gp]) rfl (by kernel_rfl) (by kernel_rfl) (by kernel_rfl) (fun _ _ _ h=>h) (Or.inl ⟨by rfl,fun _ _=>by go_simp⟩) ?_
   try simp only [Act.put,List.setIfInBounds_toArray,List.set_cons_zero,List.set_cons_succ]
   refine uj (rs:=[9]) (by kernel_rfl) (by simp) ?_
   refine jk.cons rfl (fun K hK=>?_) jk.nil
   go_simp
   refine hK _ _ ((ku HS0).below (below_alloc1 _ _) (show M < (wr.alloc _).heap.size by simp; omega) (show wr.heap.size < (wr.alloc _).heap.size by simp) (show w.heap.size + 1 < (wr.alloc _).heap.size by simp; omega)) ?_
   clear hK K
   refine uh _ _ _ _ (kqr (by kernel_rfl)) ?_
   refine wpAny_ready (rs:=[10]) (by kernel_rfl) (by simp) (AllReady.cons rfl (fun K hK=>?_) AllReady.nil)
   refine step_append_lies _ (by rfl) _ _ _ (by rfl) lo 208 i0 _ 5 80 Tryz.underlying102 hi hz0 hz1 hz2 rfl (by omega) (.slice va vn vc) Lx.length xs (by rfl) (qy (ku HVA) ((ku HBX).alloc (ku HBX).size _)) ⟨wr.heap.size + 1,0,none⟩ 1 1 [.string tt,.pointer (some ⟨M,0,none⟩),.slice pa pn pc,.slice ma mn mc,.pointer gp] (by rfl) (by rfl) (World.news_of_block (cs:=#[.string tt,.pointer (some ⟨M,0,none⟩),.slice pa pn pc,.slice ma mn mc,.pointer gp]) (t:=208) (fr:=(0,0)) (by have:=heap_alloc_new (wr.alloc (.cells #[.string tt,.pointer (some ⟨M,0,none⟩),.slice pa pn pc,.slice ma mn mc] 176)) (.cells #[.string tt,.pointer (some ⟨M,0,none⟩),.slice pa pn pc,.slice ma mn mc,.pointer gp] 208); simp only [World.size_alloc] at this; exact this)) (by intro y hy; simp only [List.mem_cons,List.not_mem_nil,or_false] at hy; rcases hy with rfl | rfl | rfl | rfl | rfl <;> rfl) (by omega) (by unfold maxLen; omega) (by omega) (by simp; omega) (wr.heap.size + 2) (by simp) ?_
   intro gg gcap w4 hown4 hgrow hat hlt4
   refine hK _ _ ?_
   clear hK K
   have hgrow : ((wr.alloc (.cells #[.string tt,.pointer (some ⟨M,0,none⟩),.slice pa pn pc,.slice ma mn mc] 176)).drew.alloc (.cells #[.string tt,.pointer (some ⟨M,0,none⟩),.slice pa pn pc,.slice ma mn mc,.pointer gp] 208)).grownBy w4 (Value.slice va vn vc).ownBlock:=hgrow
   have hr4:=an_row4 (ku HMCr) (ku HBX) hgrow
   obtain ⟨m0,m1,m2,m3,m4,m5,f0,f1,f2,f3,f4,f5⟩:=row6 hr4
   have hend:=an_end (ku HMCr) one (ku HVA) (ku HSIS) (ku HBX) ((ku HSI).tk (jc (ku HBX) none []) (jy.none _) (by simp) (by simp)) rfl hgrow hown4 (by omega)
   have HEND:=hide (show (∃ gv gn gc,kqt lo so (w4.setCell ⟨M,1,none⟩ (.slice (some ⟨gg,0,none⟩) (Lx.length + 1) gcap)) M nb steps (Lx ++ [one]) sets vars tab size sv (.slice gv gn gc) tv vv)∧Tk none [105,208] w1 (w4.setCell ⟨M,1,none⟩ (.slice (some ⟨gg,0,none⟩) (Lx.length + 1) gcap))∧Below lo w1 (w4.setCell ⟨M,1,none⟩ (.slice (some ⟨gg,0,none⟩) (Lx.length + 1) gcap)) from ⟨hend.1,(ku HTK).trans hend.2.1,(ku HB).trans hend.2.2⟩)
   clear hr4 hown4 hgrow hat hend
   refine wpAny_ready (rs:=[11]) (by kernel_rfl) (by simp) (AllReady.cons rfl (fun K hK=>?_) AllReady.nil)
   go_simp
   refine hK _ _ ?_
   clear hK K
   refine wpAny_ready (rs:=[12]) (by kernel_rfl) (by simp) (AllReady.cons rfl (fun K hK=>?_) AllReady.nil)
   go_simp
   refine hK _ _ ?_
   clear hK K
   refine wpAny_ready (rs:=[13]) (by kernel_rfl) (by simp) (AllReady.cons rfl (fun K hK=>?_) AllReady.nil)
   go_simp
   refine hK _ _ ?_
   clear hK K
   refine wpAny_done (by kernel_rfl) ?_ _
   go_wp2
   go_roundw
   case rel=>exact ⟨k + 1,by omega,by go_num,by rw [ku HSN]; exact (ku HEND).1,(ku HEND).2⟩
   case measure=>simp [intOf]; omega
  ·have : k = r.length:=by omega
   subst this
   rw [List.take_length] at hmc
   have HEND:=hide (show (∃ gv gn gc,kqt lo so wr M nb steps (nevers ++ r.map (fun ms=>(⟨insT rl.name.text ms,rl.params,ms,rl.guard⟩ : MNever))) sets vars tab size sv (.slice gv gn gc) tv vv)∧Tk none [105,208] w wr∧Below lo w wr from ⟨⟨va,vn,vc,hmc⟩,(jc (ku HB1) _ _).trans htk,((ku HB1).mono hlo).trans hb⟩)
   clear hmc htk hb
   go_wp2
   go_end0
   exact ⟨rfl,ku HEND⟩
end Go.Proofs.YtpmcnonmkghokaaGreatDoor
namespace Go.Proofs.YtpmcnonmkghokaaGreatDoor
open Go.RowKit
def putO (t : uq) (s : ByteArray) (e : Mean) : Option uq:=if (t.any fun x=>x.1.toList == s.toList) || decide (1000 < s.size) then none else some (t ++ [(s,e)])
theorem putO_some {t t' : uq} {s : ByteArray} {e : Mean} (h : putO t s e = some t') : t' = t ++ [(s,e)]∧s.size≤1000∧∀ x ∈ t,x.1.toList≠s.toList:=by
 unfold putO at h
 split at h
 ·cases h
 ·rename_i hc
  injection h with h
  rw [Bool.or_eq_true,not_or,List.any_eq_true,decide_eq_true_eq] at hc
  refine ⟨h.symm,by omega,fun x hx e=>hc.1 ⟨x,hx,by rw [beq_iff_eq]; exact e⟩⟩
def memsO : List Tok→Nat→uq→Option uq
 | [],_,t=>some t
 | x :: l,i,t=>(putO t x.text ⟨false,i⟩).bind fun t'=>memsO l (i + 1) t'
def kindsO : List PKind→uq→Option uq
 | [],t=>some t
 | k :: ks,t=>(memsO k.members 0 t).bind fun t'=>kindsO ks t'
def varsO (ss : List PSet) (ks : List PKind) : List VrT→Nat→uq→List MVar→Nat→Option (uq × List MVar × Nat)
 | [],_,t,vs,sz=>some (t,vs,sz)
 | v :: l,i,t,vs,sz=>(putO t v.name.text ⟨true,i⟩).bind fun t'=>if sz≤100000∧vs.length≤1000 then (addO ss ks sz v).bind fun u=>varsO ss ks l (i + 1) t' (vs ++ [u]) (sz + u.count) else none
def ruleFit (r : PRule) (c : List (List Int)) (n : Nat) : Bool:=c.all insOk && decide (c.length≤100000) && decide (n≤100000) && decide (r.params.length≤1000) && decide (r.name.text.size≤1000)
theorem ruleFit_some {r : PRule} {c : List (List Int)} {n : Nat} (h : ruleFit r c n = true) : (∀ x ∈ c,insOk x = true)∧c.length≤100000∧n≤100000∧r.params.length≤1000∧r.name.text.size≤1000:=by
 unfold ruleFit at h
 simp only [Bool.and_eq_true,decide_eq_true_eq] at h
 obtain ⟨⟨⟨⟨h1,h2⟩,h3⟩,h4⟩,h5⟩:=h
 exact ⟨fun x hx=>List.all_eq_true.1 h1 x hx,h2,h3,h4,h5⟩
def mkStep (rl : PRule) : List Int→MStep:=fun ms=>⟨insT rl.name.text ms,rl.params,ms,rl.guard,rl.body⟩
def mkNever (rl : PRule) : List Int→MNever:=fun ms=>⟨insT rl.name.text ms,rl.params,ms,rl.guard⟩
def stepsO (ss : List PSet) : List PRule→List MStep→Option (List MStep)
 | [],acc=>some acc
 | r :: l,acc=>(chO ss r.params [[]]).bind fun c=>if ruleFit r c acc.length then stepsO ss l (acc ++ c.map (mkStep r)) else none
def neversO (ss : List PSet) : List PRule→List MNever→Option (List MNever)
 | [],acc=>some acc
 | r :: l,acc=>(chO ss r.params [[]]).bind fun c=>if ruleFit r c acc.length then neversO ss l (acc ++ c.map (mkNever r)) else none
structure Mach where
 steps : List MStep
 nevers : List MNever
 sets : List Int
 vars : List MVar
 tab : uq
 size : Nat
def kjd (l : List PSet) : List Int:=l.map fun s=>yu s.size.text
def newO (m : MdL) : Option Mach:=(kindsO m.kinds []).bind fun t=>(varsO m.sets m.kinds m.vars 0 t [] 0).bind fun x=>(stepsO m.sets m.rules []).bind fun st=>(neversO m.sets m.nevers []).map fun nv=>⟨st,nv,kjd m.sets,x.2.1,x.1,x.2.2⟩
theorem kept_tk {nb : Nat} {w w' : World} (h : Kept nb w w') (bad : List Nat) : Tk (some nb) bad w w':=
 ⟨h.os,h.tape,h.output,h.size,fun k o h1 h2 _=>by rw [h.block k (lt_of_block h1) (fun e=>h2 (by rw [e]))]; exact h1⟩
theorem Mch_put {lo so : Nat} {w w' : World} {M nb : Nat} {steps : List MStep} {nevers : List MNever} {sets : List Int} {vars : List MVar} {tab tab' : uq} {size : Nat} {sv nv tv vv : Value} (h : kqt lo so w M nb steps nevers sets vars tab size sv nv tv vv) (hk : Kept nb w w') (ht : kjp w' nb tab') : kqt lo so w' M nb steps nevers sets vars tab' size sv nv tv vv:=by
 have K:=kept_tk hk []
 have nr:=h.tab.no
 obtain ⟨h0,⟨c1,h1,q1⟩,⟨c2,h2,q2⟩,h3,⟨c4,h4,q4⟩,h5,h6,h7⟩:=h
 exact ⟨K.row h0 (fun e=>nr _ _ _ _ e h0) (by simp),⟨c1,zk h1 K nr (by simp),q1.tk K nr (by simp) (by simp)⟩,⟨c2,zk h2 K nr (by simp),q2.tk K nr (by simp) (by simp)⟩,zk h3 K nr (by simp),⟨c4,zk h4 K nr (by simp),q4.tk K nr (by simp)⟩,ht,h6,h7⟩
theorem st_row4 {lo so : Nat} {w : World} {M nb : Nat} {steps : List MStep} {nevers : List MNever} {sets : List Int} {vars : List MVar} {tab : uq} {size : Nat} {sv nv tv vv : Value} (h : kqt lo so w M nb steps nevers sets vars tab size sv nv tv vv) {w3 w4 : World} {o : Obj} (hb : Below w.heap.size w w3) (hg : (w3.alloc o).grownBy w4 tv.ownBlock) : w4.heap[M]? = some (.cells #[sv,nv,tv,vv,.map (some nb),.int .i64 size] 105 (0,0)):=by
 have h3 : (w3.alloc o).heap[M]? = some (.cells #[sv,nv,tv,vv,.map (some nb),.int .i64 size] 105 (0,0)):=ql ((hb.block M (lt_of_block h.row)).trans h.row)
 exact (kq4 (x:=none) (bad:=[3]) (qy h.sets (hb.alloc hb.size o)) hg (by decide)).row h3 (by simp) (by decide)
theorem st_end {lo so : Nat} {w : World} {M nb : Nat} {sets : List Int} {vars : List MVar} {tab : uq} {size : Nat} {tv vv : Value} (h : kqt lo so w M nb [] [] sets vars tab size (.slice none 0 0) (.slice none 0 0) tv vv) (d : Int) {w3 w4 : World} (hb : Below w.heap.size w w3)
  (hg : (w3.alloc (.cells #[.int .i64 d] 3)).grownBy w4 tv.ownBlock) {gg gcap : Nat} (hown : w4.ownsRow lo 3 1 (.slice (some ⟨gg,0,none⟩) (sets.length + 1) gcap) (sets.length + 1) (sets.map (Value.int .i64) ++ [.int .i64 d])) (hlo : lo≤w.heap.size) :
  (∃ gv gn gc,kqt lo so (w4.setCell ⟨M,2,none⟩ (.slice (some ⟨gg,0,none⟩) (sets.length + 1) gcap)) M nb [] [] (sets ++ [d]) vars tab size (.slice none 0 0) (.slice none 0 0) (.slice gv gn gc) vv)∧Tk none [105,3] w (w4.setCell ⟨M,2,none⟩ (.slice (some ⟨gg,0,none⟩) (sets.length + 1) gcap))∧Below lo w (w4.setCell ⟨M,2,none⟩ (.slice (some ⟨gg,0,none⟩) (sets.length + 1) gcap)):=by
 have hr4:=st_row4 h hb hg
 have hr5:=mset2 hr4 (.slice (some ⟨gg,0,none⟩) (sets.length + 1) gcap)
 have hb3 : Below w.heap.size w (w3.alloc (.cells #[.int .i64 d] 3)):=hb.alloc hb.size _
 have hv3:=qy h.sets hb3
 have k4 : Tk none [105,3] (w3.alloc (.cells #[.int .i64 d] 3)) w4:=kq4 hv3 hg (by decide)
 have k5 : Tk none [105] w4 (w4.setCell ⟨M,2,none⟩ (.slice (some ⟨gg,0,none⟩) (sets.length + 1) gcap)):=set_tk hr4 (by decide) 2 _
 have k35:=k4.trans (k5.wide (by decide : ∀ e ∈ [105],e ∈ [105,3]))
 have K:=(jc hb3 none [105,3]).trans k35
 have nr:=jy.none w
 obtain ⟨h0,_,_,h3,⟨c4,h4,q4⟩,h5,h6,h7⟩:=h
 refine ⟨⟨_,_,_,⟨hr5,⟨[],World.ownsRow_nil _ _ _ _,rfl,fun k hk=>by simp at hk⟩,⟨[],World.ownsRow_nil _ _ _ _,rfl,fun k hk=>by simp at hk⟩,?_,⟨c4,zk h4 K nr (by decide),q4.tk K nr (by decide)⟩,h5.tk K (by simp),h6,h7⟩⟩,K,?_⟩
 ·rw [List.length_append,List.map_append]; exact zk hown k5 (jy.none _) (by decide)
 ·exact (((hb3.mono hlo)).grown hg (Nat.le_trans hlo hb3.size) (jm hv3)).setCell (p:=⟨M,2,none⟩) h6 _
def nwBad : List Nat:=[105,178,208,213,3]
structure NwI (w W : World) (lo so M nb : Nat) (steps : List MStep) (nevers : List MNever) (sets : List Int) (vars : List MVar) (tab : uq) (size : Nat) (sv nv tv vv : Value) (wr : World) : Prop where
 mc : kqt lo so wr M nb steps nevers sets vars tab size sv nv tv vv
 tk : Tk (some nb) nwBad W wr
 be : Below lo w wr
theorem NwI.below {w W : World} {lo so M nb : Nat} {steps : List MStep} {nevers : List MNever} {sets : List Int} {vars : List MVar} {tab : uq} {size : Nat} {sv nv tv vv : Value} {wr wx : World} (h : NwI w W lo so M nb steps nevers sets vars tab size sv nv tv vv wr) (hb : Below wr.heap.size wr wx) (hlo : lo≤wr.heap.size) : NwI w W lo so M nb steps nevers sets vars tab size sv nv tv vv wx:=
 ⟨h.mc.below hb,h.tk.trans (jc hb _ _),h.be.trans (hb.mono hlo)⟩
theorem kjn.at_ {lo : Nat} {w : World} : ∀ {rs : List PRule} {cs : List Value} (i : Nat) (hi : i < rs.length),kjn lo w rs cs →
  ∃ pa pn pc gp ba bn bc bcs,(cs[i * 5]? = some (.string (rs[i]).name.text)∧cs[i * 5 + 1]? = some (.int .i64 (rs[i]).name.at_)∧cs[i * 5 + 2]? = some (.slice pa pn pc)∧cs[i * 5 + 3]? = some (.pointer gp)∧cs[i * 5 + 4]? = some (.slice ba bn bc))∧w.ownsRow lo 352 4 (.slice pa pn pc) (rs[i]).params.length (jq (rs[i]).params)∧XIs lo w (rs[i]).guard (.pointer gp)∧w.ownsRow lo 334 9 (.slice ba bn bc) (vg (rs[i]).body) bcs∧BIs lo none w (rs[i]).body bcs
 | [],_,i,hi,_=>by simp at hi
 | r :: rs,cs,0,_,⟨pa,pn,pc,gp,ba,bn,bc,bcs,rest,e,h1,h2,h3,h4,h5⟩=>by subst e; exact ⟨pa,pn,pc,gp,ba,bn,bc,bcs,⟨rfl,rfl,rfl,rfl,rfl⟩,h1,h2,h3,h4⟩
 | r :: rs,cs,i + 1,hi,⟨pa,pn,pc,gp,ba,bn,bc,bcs,rest,e,h1,h2,h3,h4,h5⟩=>by
  subst e
  obtain ⟨p1,p2,p3,p4,p5,p6,p7,p8,⟨q0,q1,q2,q3,q4⟩,r1,r2,r3,r4⟩:=kjn.at_ i (by simpa using hi) h5
  refine ⟨p1,p2,p3,p4,p5,p6,p7,p8,⟨?_,?_,?_,?_,?_⟩,r1,r2,r3,r4⟩
  ·rw [show (i + 1) * 5 = i * 5 + 5 by omega,List.getElem?_append_right (by simp)]; simpa using q0
  ·rw [show (i + 1) * 5 + 1 = i * 5 + 1 + 5 by omega,List.getElem?_append_right (by simp)]; simpa using q1
  ·rw [show (i + 1) * 5 + 2 = i * 5 + 2 + 5 by omega,List.getElem?_append_right (by simp)]; simpa using q2
  ·rw [show (i + 1) * 5 + 3 = i * 5 + 3 + 5 by omega,List.getElem?_append_right (by simp)]; simpa using q3
  ·rw [show (i + 1) * 5 + 4 = i * 5 + 4 + 5 by omega,List.getElem?_append_right (by simp)]; simpa using q4
theorem kjl.at_ {lo : Nat} {w : World} : ∀ {rs : List PRule} {cs : List Value} (i : Nat) (hi : i < rs.length),kjl lo w rs cs →
  ∃ pa pn pc gp,(cs[i * 4]? = some (.string (rs[i]).name.text)∧cs[i * 4 + 1]? = some (.int .i64 (rs[i]).name.at_)∧cs[i * 4 + 2]? = some (.slice pa pn pc)∧cs[i * 4 + 3]? = some (.pointer gp))∧w.ownsRow lo 352 4 (.slice pa pn pc) (rs[i]).params.length (jq (rs[i]).params)∧XIs lo w (rs[i]).guard (.pointer gp)
 | [],_,i,hi,_=>by simp at hi
 | r :: rs,cs,0,_,⟨pa,pn,pc,gp,rest,e,h1,h2,h5⟩=>by subst e; exact ⟨pa,pn,pc,gp,⟨rfl,rfl,rfl,rfl⟩,h1,h2⟩
 | r :: rs,cs,i + 1,hi,⟨pa,pn,pc,gp,rest,e,h1,h2,h5⟩=>by
  subst e
  obtain ⟨p1,p2,p3,p4,⟨q0,q1,q2,q3⟩,r1,r2⟩:=kjl.at_ i (by simpa using hi) h5
  refine ⟨p1,p2,p3,p4,⟨?_,?_,?_,?_⟩,r1,r2⟩
  ·rw [show (i + 1) * 4 = i * 4 + 4 by omega,List.getElem?_append_right (by simp)]; simpa using q0
  ·rw [show (i + 1) * 4 + 1 = i * 4 + 1 + 4 by omega,List.getElem?_append_right (by simp)]; simpa using q1
  ·rw [show (i + 1) * 4 + 2 = i * 4 + 2 + 4 by omega,List.getElem?_append_right (by simp)]; simpa using q2
  ·rw [show (i + 1) * 4 + 3 = i * 4 + 3 + 4 by omega,List.getElem?_append_right (by simp)]; simpa using q3
end Go.Proofs.YtpmcnonmkghokaaGreatDoor

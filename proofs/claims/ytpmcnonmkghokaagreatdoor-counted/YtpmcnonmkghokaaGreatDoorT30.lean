/- Of members that count: as many orbits as there are ways without an order, and the shortest way to a sum. Conditions: none beyond those of the given statement. -/
import Derived.Test.YtpmcnonmkghokaaGreatDoorT29
import Derived.Test.YtpmcnonmkghokaaGreatDoorT23
import Derived.Test.YtpmcnonmkghokaaGreatDoorT25
import Derived.Test.YtpmcnonmkghokaaGreatDoorT24
import Derived.Test.YtpmcnonmkghokaaGreatDoorRows
import Derived.ProofKit
import Derived.JoinedOf
import Derived.Test.YtpmcnonmkghokaaGreatDoorCards
import Derived.Test.YtpmcnonmkghokaaGreatDoorTie
import Derived.LaidMore
import Derived.OpenShut
import Derived.Stop.Joined
import Derived.SevenTiedAt
set_option linter.unusedVariables false
set_option linter.unusedSimpArgs false
namespace Go.Proofs.YtpmcnonmkghokaaGreatDoor
open Go.RowKit
attribute [local go_sem ↓] Go.wp_at_zero Go.wp_at_succ
theorem newO_sets {m : MdL} {a : Mach} (h : newO m = some a) : a.sets = kjd m.sets:=by
 unfold newO at h
 obtain ⟨t,_,h⟩:=Option.bind_eq_some_iff.mp h
 obtain ⟨x,_,h⟩:=Option.bind_eq_some_iff.mp h
 obtain ⟨st,_,h⟩:=Option.bind_eq_some_iff.mp h
 obtain ⟨nv,_,rfl⟩:=Option.map_eq_some_iff.mp h
 rfl
set_option maxRecDepth 100000 in
set_option maxHeartbeats 8000000 in
theorem search_any (s : ByteArray) (w : World) (most : Int) (r : SRep) (hr : dh s most = some r) :
  Calls Tryz.prog 25 #[.string s,.int .i64 most] w fun e w'=>RoundsPost w r e w':=by
 obtain ⟨W,hW⟩ : ∃ W,W = w.alloc (.cells #[.int .i64 0,.slice none 0 0,.int .i64 0] 46):=⟨_,rfl⟩
 have hbW : Below w.heap.size w W:=by rw [hW]; exact below_alloc1 w _
 have hsW : w.heap.size < W.heap.size:=by rw [hW]; simp
 have hR : W.heap[w.heap.size]? = some (.cells #[.int .i64 0,.slice none 0 0,.int .i64 0] 46 (0,0)):=by rw [hW]; exact qg _ _
 have HR:=hide hR
 have HBW:=hide hbW
 have HWE:=hide hW.symm
 have HPL:=hide hr
 clear hbW hW hR hr
 go_enter Tryz.func25,Tryz.ntmps25
 go_wp2_with fail
 rw [ku HWE]
 refine (text_any s W).mono ?_
 rintro e w1 ⟨hb1,x0,x1,x2,x3,x4,rfl,hmd,⟨a0,n0,k0,rfl⟩,⟨a1,n1,k1,rfl⟩,⟨a2,n2,k2,rfl⟩,⟨a3,n3,k3,rfl⟩,⟨a4,n4,k4,rfl⟩⟩
 have hs1:=hb1.size
 have hbw1 : Below w.heap.size w w1:=(ku HBW).trans (hb1.mono (by omega))
 have hR1:=(hb1.block w.heap.size hsW).trans (ku HR)
 have hRl1:=lt_of_block hR1
 have HMD:=hide hmd
 have HB1:=hide hbw1
 have HR1:=hide hR1
 unfold dh at HPL
 clear hmd hb1 hbw1 hR1 HR
 obtain ⟨c1,c2,hc⟩ : ∃ c1 c2,chkC s = (c1,c2):=⟨_,_,rfl⟩
 rw [hc] at HPL HMD ⊢
 dsimp only at HPL HMD ⊢
 clear hc
 cases hc0 : (c1 == 0)
 ·have hE : r = errRep c1:=by
   have:=ku HPL
   rw [hc0,if_neg (by simp)] at this
   injection this with this
   exact this.symm
  subst hE
  have hcn : (c1 != 0) = true:=by simp [bne,hc0]
  obtain ⟨r0,r1,r2,y0,y1,y2⟩:=row3 (ku HR1)
  clear HPL HMD
  go_wp2
  refine bodyPost_ret (v:=.tuple #[.agg #[.int .i64 0,.slice none 0 0,.int .i64 0],.int .i64 c1]) (yj Tryz.results25 _ _ w.heap.size _ _ _ _ rfl (ql (set3row (ku HR1) _ _ _)) Tryz.underlying46 rfl (by kernel_rfl)) rfl ?_
  exact ⟨none,0,0,rfl,World.ownsRow_nil _ _ _ _,(((ku HB1).trans ((set3_stay w1 w.heap.size _ _ _).below (by omega) (by simp))).alloc (by simp [World.setCell]; omega) _)⟩
 ·have hcn : (c1 != 0) = false:=by simp [bne,hc0]
  have hc00 : c1 = 0:=by simpa using hc0
  have hpl:=ku HPL
  rw [hc0,if_pos rfl] at hpl
  obtain ⟨a,ha,hwk⟩:=Option.bind_eq_some_iff.mp hpl
  unfold machO at ha
  have hfit : mdFitB (mdOf (kqn (dn s).1).1) = true:=by
   cases hcd : mdFitB (mdOf (kqn (dn s).1).1)
   ·rw [hcd] at ha; cases ha
   ·rfl
  rw [if_pos hfit] at ha
  obtain ⟨a',hnew,ha⟩:=Option.bind_eq_some_iff.mp ha
  have hmok : machOkB a' = true:=by
   cases hcd : machOkB a'
   ·rw [hcd] at ha; cases ha
   ·rfl
  rw [if_pos hmok] at ha
  injection ha with ha
  subst ha
  have hsetl : a'.sets.length≤1000:=by
   have h1:=(mdFitB_ok hfit).sets
   have h2 : a'.sets = kjd (mdOf (kqn (dn s).1).1).sets:=newO_sets hnew
   rw [h2,kjd,List.length_map]
   exact h1
  have hmd:=(ku HMD) hc00
  obtain ⟨wb,hwb⟩ : ∃ wb,wb = w1.alloc (.cells #[.slice a0 n0 k0,.slice a1 n1 k1,.slice a2 n2 k2,.slice a3 n3 k3,.slice a4 n4 k4] 68):=⟨_,rfl⟩
  have hbb : Below w1.heap.size w1 wb:=by rw [hwb]; exact below_alloc1 _ _
  have hsb:=hbb.size
  have HNW:=hide (new_any wb W.heap.size a0 a1 a2 a3 a4 n0 n1 n2 n3 n4 k0 k1 k2 k3 k4 _ (hmd.stay fun k _ hk=>hbb.block k hk) (mdFitB_ok hfit) a' hnew)
  unfold mdV at HNW
  have HMOK:=hide (machOkB_ok hmok)
  have HWK:=hide hwk
  have HWB:=hide hwb.symm
  have HBB:=hide ((ku HB1).trans (hbb.mono (by have:=(ku HB1).size; omega)))
  have HRB:=hide ((hbb.block _ hRl1).trans (ku HR1))
  clear HPL HMD hpl ha hwk hmok hfit hmd hbb hwb hnew hc00
  go_wp2_with fail
  rw [ku HWB]
  refine (ku HNW).mono ?_
  rintro e w2 ⟨M,nb,sv,nv,tv,vv,rfl,hmc,hb2⟩
  have hs2:=hb2.size
  have hbw2:=(ku HBB).trans (hb2.mono (by have:=(ku HBB).size; omega))
  obtain ⟨ta0,tn0,tc0,rfl⟩:=zy hmc.sets
  obtain ⟨_,_,m2,_⟩:=row6 hmc.row
  have HWL:=hide (rounds_any w2 W.heap.size M nb a' ta0 tn0 tc0 hmc.mach (ku HMOK) m2 (zx (Nat.zero_le _) hmc.sets) hsetl most r (ku HWK))
  have HB2:=hide hbw2
  have HR2:=hide ((hb2.block w.heap.size (by have:=lt_of_block (ku HRB); omega)).trans (ku HRB))
  clear hmc hb2 hbw2 HNW m2
  go_wp2_with fail
  refine (ku HWL).mono ?_
  rintro e w3 ⟨ea,en,ec,rfl,hp1,hb3⟩
  have hs3:=hb3.size
  have hz2:=(ku HB2).size
  have hbw3:=(ku HB2).trans (hb3.mono hz2)
  have hR3:=(hb3.block w.heap.size (lt_of_block (ku HR2))).trans (ku HR2)
  obtain ⟨r0,r1,r2,y0,y1,y2⟩:=row3 hR3
  have hRl3:=lt_of_block hR3
  have K:=set3_stay w3 w.heap.size (.int .i64 r.end_) (.slice ea en ec) (.int .i64 r.orbits)
  have HE:=hide (show RoundsPost w r (.returned (.tuple #[.agg #[.int .i64 r.end_,.slice ea en ec,.int .i64 r.orbits],.int .i64 r.err])) _ from ⟨ea,en,ec,rfl,zx hz2 (kjz hp1 K (fun q hq c fr e1=>by
   have hq' : q = w.heap.size:=by simpa using hq
   rw [hq',hR3] at e1
   injection e1 with e1
   injection e1 with _ e1 _
   exact absurd e1 (by decide))),hbw3.trans (K.below (by omega) (by simp))⟩)
  have HR3:=hide hR3
  clear hp1 hb3 hbw3 hR3 K HWL
  go_wp2
  refine bodyPost_ret (v:=.tuple #[.agg #[.int .i64 r.end_,.slice ea en ec,.int .i64 r.orbits],.int .i64 r.err]) (yj Tryz.results25 _ _ w.heap.size _ _ _ _ rfl (set3row (ku HR3) _ _ _) Tryz.underlying46 rfl (by kernel_rfl)) rfl ?_
  exact ku HE
end Go.Proofs.YtpmcnonmkghokaaGreatDoor
namespace Go.Proofs.YtpmcnonmkghokaaGreatDoor
open Go.RowKit
def repIs (o : Option SRep) (err end_ : Int) (n orbits : Nat) : Bool:=match o with | some r=>(r.err == err) && (r.end_ == end_) && (r.trace.length == n) && (r.orbits == orbits) | none=>false
theorem repIs_of {o : Option SRep} {err end_ : Int} {n orbits : Nat} (h : repIs o err end_ n orbits = true) : ∃ r,o = some r∧r.err = err∧r.end_ = end_∧r.trace.length = n∧r.orbits = orbits:=by
 unfold repIs at h
 cases o with
 | none=>cases h
 | some r=>
  simp only [Bool.and_eq_true,beq_iff_eq] at h
  exact ⟨r,rfl,h.1.1.1,h.1.1.2,h.1.2,h.2⟩
def mtxN : ByteArray:=mtxA ++ mtxC
set_option maxRecDepth 1000000 in
theorem mtx_search : repIs (dh mtx 100) 0 0 0 7 = true:=by decide +kernel
set_option maxRecDepth 1000000 in
theorem mtx_small : repIs (dh mtx 6) 9 0 0 0 = true:=by decide +kernel
set_option maxRecDepth 1000000 in
theorem mtx_never : (match dh mtxN 100 with | some r=>(r.err == 0) && (r.end_ == 1) && (r.trace.length == 4) | none=>false) = true:=by decide +kernel
def cnA : ByteArray:=(⟨#[115,101,116,32,115,32]⟩ : ByteArray)
def cnB : ByteArray:=(⟨#[59,32,118,97,114,32,110,32,58,32,91,115,93,32,116,111,32]⟩ : ByteArray)
def cnC : ByteArray:=(⟨#[59,32,114,117,108,101,32,117,112,40,105,32,58,32,115,41,32,105,102,32,110,91,105,93,32,60,32]⟩ : ByteArray)
def cnD : ByteArray:=(⟨#[32,123,32,110,91,105,93,32,61,32,110,91,105,93,32,43,32,49,59,32,125,32,114,117,108,101,32,100,111,119,110,40,105,32,58,32,115,41,32,105,102,32,48,32,60,32,110,91,105,93,32,123,32,110,91,105,93,32,61,32,110,91,105,93,32,45,32,49,59,32,125]⟩ : ByteArray)
def cnE : ByteArray:=(⟨#[32,110,101,118,101,114,32,97,108,108,40,105,32,58,32,115,44,32,106,32,58,32,115,41,32,105,32,33,61,32,106,32,38,32,110,91,105,93,32,61,61,32]⟩ : ByteArray)
def cnF : ByteArray:=(⟨#[32,38,32,110,91,106,93,32,61,61,32]⟩ : ByteArray)
def cnG : ByteArray:=(⟨#[59]⟩ : ByteArray)
def cntT (n top : Nat) : ByteArray:=(((((cnA ++ digS n) ++ cnB) ++ digS top) ++ cnC) ++ digS top) ++ cnD
def cntN (n top k : Nat) : ByteArray:=((((cntT n top ++ cnE) ++ digS k) ++ cnF) ++ digS top) ++ cnG
def wantN (n : Nat) : Nat→Nat
 | 0=>1
 | i + 1=>wantN n i * (n + (i + 1)) / (i + 1)
def nevIs (o : Option SRep) (n : Nat) : Bool:=match o with | some r=>(r.err == 0) && (r.end_ == 1) && (r.trace.length == n) | none=>false
theorem nevIs_of {o : Option SRep} {n : Nat} (h : nevIs o n = true) : ∃ r,o = some r∧r.err = 0∧r.end_ = 1∧r.trace.length = n:=by
 unfold nevIs at h
 cases o with
 | none=>cases h
 | some r=>
  simp only [Bool.and_eq_true,beq_iff_eq] at h
  exact ⟨r,rfl,h.1.1,h.1.2,h.2⟩
end Go.Proofs.YtpmcnonmkghokaaGreatDoor
namespace Go.Proofs.YtpmcnonmkghokaaGreatDoor
open Go.RowKit
attribute [local go_sem ↓] Go.wp_at_zero Go.wp_at_succ
set_option maxRecDepth 100000 in
set_option maxHeartbeats 4000000 in
theorem mutex_false (w : World) : Calls Tryz.prog 39 #[.bool false] w fun e w'=>e = .returned (.string mtxN)∧w' = w:=by
 go_enter Tryz.func39,Tryz.ntmps39
 go_wp2
 go_ret
 exact ⟨rfl,rfl⟩
theorem search_rep {s : ByteArray} {most : Int} {r : SRep} (hr : dh s most = some r) {err end_ : Int} {n orbits : Nat} (h1 : r.err = err) (h2 : r.end_ = end_) (h3 : r.trace.length = n) (h4 : r.orbits = orbits) (w : World) :
  Calls Tryz.prog 25 #[.string s,.int .i64 most] w fun e w'=>∃ ta tc,e = .returned (.tuple #[.agg #[.int .i64 end_,.slice ta n tc,.int .i64 orbits],.int .i64 err])∧Below w.heap.size w w':=by
 refine (search_any s w most r hr).mono ?_
 rintro e w' ⟨ta,tn,tc,rfl,ho,hb⟩
 obtain ⟨xa,xc,ex,_⟩:=qm ho
 injection ex with e1 e2 e3
 exact ⟨ta,tc,by rw [h1,h2,h4,e2,h3],hb⟩
set_option maxRecDepth 100000 in
set_option maxHeartbeats 8000000 in
theorem searching_any (w : World) : Calls Tryz.prog 27 #[] w fun e w'=>e = .returned (.bool true)∧Below w.heap.size w w':=by
 obtain ⟨r1,a0,a1,a2,a3,a4⟩:=repIs_of mtx_search
 obtain ⟨r2,b0,b1,b2,b3⟩:=nevIs_of (show nevIs (dh mtxN 100) 4 = true from mtx_never)
 obtain ⟨r3,c0,c1,c2,c3,c4⟩:=repIs_of mtx_small
 have HS1:=hide (fun wx=>search_rep a0 a1 a2 a3 a4 wx)
 have HS2:=hide (fun wx=>search_rep b0 b1 b2 b3 rfl wx)
 have HS3:=hide (fun wx=>search_rep c0 c1 c2 c3 c4 wx)
 have HMT:=hide mutex_true
 have HMF:=hide mutex_false
 clear a0 a1 a2 a3 a4 b0 b1 b2 b3 c0 c1 c2 c3 c4
 generalize mtx = mm at *
 generalize mtxN = mn at *
 generalize r2.orbits = ro at *
 go_enter Tryz.func27,Tryz.ntmps27
 go_wp2_with fail
 refine ((ku HMT) _).mono ?_
 rintro e w0 ⟨rfl,rfl⟩
 go_wp2_with fail
 refine ((ku HS1) _).mono ?_
 rintro e w1 ⟨ta,tc,rfl,hb1⟩
 have hs1:=hb1.size
 have HB1:=hide (hb1.alloc hs1 (.cells #[.int .i64 0,.slice ta 0 tc,.int .i64 7] 46))
 clear hb1
 go_wp2_with fail
 refine ((ku HMF) _).mono ?_
 rintro e w2 ⟨rfl,hw2⟩
 subst hw2
 go_wp2_with fail
 refine ((ku HS2) _).mono ?_
 rintro e w3 ⟨tb,td,rfl,hb3⟩
 have hs3 : w1.heap.size + 1≤w3.heap.size:=by have:=hb3.size; simpa using this
 have e1:=(hb3.block w1.heap.size (by simp)).trans (qg w1 (.cells #[.int .i64 0,.slice ta 0 tc,.int .i64 7] 46))
 have HE1:=hide e1
 have HB3:=hide (((ku HB1).trans (hb3.mono (by simp; omega))).alloc (by omega) (.cells #[.int .i64 1,.slice tb 4 td,.int .i64 ro] 46))
 clear hb3 e1
 go_wp2_with fail
 refine ((ku HMT) _).mono ?_
 rintro e w4 ⟨rfl,hw4⟩
 subst hw4
 go_wp2_with fail
 refine ((ku HS3) _).mono ?_
 rintro e w5 ⟨te,tf,rfl,hb5⟩
 have hs5 : w3.heap.size + 1≤w5.heap.size:=by have:=hb5.size; simpa using this
 obtain ⟨p0,p1,p2,-⟩:=row3 ((hb5.block w1.heap.size (by simp; omega)).trans (ql (ku HE1)))
 obtain ⟨q0,q1,q2,-⟩:=row3 ((hb5.block w3.heap.size (by simp)).trans (qg w3 (.cells #[.int .i64 1,.slice tb 4 td,.int .i64 ro] 46)))
 have HB5:=hide (((ku HB3).trans (hb5.mono (by simp; omega))).alloc (by omega) (.cells #[.int .i64 0,.slice te 0 tf,.int .i64 0] 46))
 have h1l : w1.heap.size < w5.heap.size:=by omega
 have h3l : w3.heap.size < w5.heap.size:=by omega
 clear hb5 HS1 HS2 HS3 HMT HMF
 go_wp2
 go_ret
 exact ⟨rfl,ku HB5⟩
end Go.Proofs.YtpmcnonmkghokaaGreatDoor
namespace Go.Proofs.YtpmcnonmkghokaaGreatDoor
open Go.RowKit
set_option maxRecDepth 1000000 in
theorem cnt21 : repIs (dh (cntT 2 1) 500) 0 0 0 (wantN 2 1) = true:=by decide +kernel
set_option maxRecDepth 1000000 in
theorem cnt211 : nevIs (dh (cntN 2 1 1) 500) (1 + 1) = true:=by decide +kernel
set_option maxRecDepth 1000000 in
theorem cnt22 : repIs (dh (cntT 2 2) 500) 0 0 0 (wantN 2 2) = true:=by decide +kernel
set_option maxRecDepth 1000000 in
theorem cnt221 : nevIs (dh (cntN 2 2 1) 500) (1 + 2) = true:=by decide +kernel
set_option maxRecDepth 1000000 in
theorem cnt222 : nevIs (dh (cntN 2 2 2) 500) (2 + 2) = true:=by decide +kernel
set_option maxRecDepth 1000000 in
theorem cnt23 : repIs (dh (cntT 2 3) 500) 0 0 0 (wantN 2 3) = true:=by decide +kernel
set_option maxRecDepth 1000000 in
theorem cnt231 : nevIs (dh (cntN 2 3 1) 500) (1 + 3) = true:=by decide +kernel
set_option maxRecDepth 1000000 in
theorem cnt232 : nevIs (dh (cntN 2 3 2) 500) (2 + 3) = true:=by decide +kernel
set_option maxRecDepth 1000000 in
theorem cnt233 : nevIs (dh (cntN 2 3 3) 500) (3 + 3) = true:=by decide +kernel
set_option maxRecDepth 1000000 in
theorem cnt31 : repIs (dh (cntT 3 1) 500) 0 0 0 (wantN 3 1) = true:=by decide +kernel
set_option maxRecDepth 1000000 in
theorem cnt311 : nevIs (dh (cntN 3 1 1) 500) (1 + 1) = true:=by decide +kernel
set_option maxRecDepth 1000000 in
theorem cnt32 : repIs (dh (cntT 3 2) 500) 0 0 0 (wantN 3 2) = true:=by decide +kernel
set_option maxRecDepth 1000000 in
theorem cnt321 : nevIs (dh (cntN 3 2 1) 500) (1 + 2) = true:=by decide +kernel
set_option maxRecDepth 1000000 in
theorem cnt322 : nevIs (dh (cntN 3 2 2) 500) (2 + 2) = true:=by decide +kernel
set_option maxRecDepth 1000000 in
theorem cnt33 : repIs (dh (cntT 3 3) 500) 0 0 0 (wantN 3 3) = true:=by decide +kernel
set_option maxRecDepth 1000000 in
theorem cnt331 : nevIs (dh (cntN 3 3 1) 500) (1 + 3) = true:=by decide +kernel
set_option maxRecDepth 1000000 in
theorem cnt332 : nevIs (dh (cntN 3 3 2) 500) (2 + 3) = true:=by decide +kernel
set_option maxRecDepth 1000000 in
theorem cnt333 : nevIs (dh (cntN 3 3 3) 500) (3 + 3) = true:=by decide +kernel
end Go.Proofs.YtpmcnonmkghokaaGreatDoor
namespace Go.Proofs.YtpmcnonmkghokaaGreatDoor
open Go.RowKit
attribute [local go_sem ↓] Go.wp_at_zero Go.wp_at_succ
theorem cnt_all (n top : Nat) (hn : n = 2∨n = 3) (ht : top = 1∨top = 2∨top = 3) : repIs (dh (cntT n top) 500) 0 0 0 (wantN n top) = true:=by
 rcases hn with rfl | rfl <;> rcases ht with rfl | rfl | rfl
 ·exact cnt21
 ·exact cnt22
 ·exact cnt23
 ·exact cnt31
 ·exact cnt32
 ·exact cnt33
theorem nev_all (n top k : Nat) (hn : n = 2∨n = 3) (ht : top = 1∨top = 2∨top = 3) (hk : 1≤k) (hkt : k≤top) : nevIs (dh (cntN n top k) 500) (k + top) = true:=by
 have hk3 : k = 1∨k = 2∨k = 3:=by omega
 rcases hn with rfl | rfl <;> rcases ht with rfl | rfl | rfl <;> rcases hk3 with rfl | rfl | rfl <;> first | (exfalso; omega) | skip
 ·exact cnt211
 ·exact cnt221
 ·exact cnt222
 ·exact cnt231
 ·exact cnt232
 ·exact cnt233
 ·exact cnt311
 ·exact cnt321
 ·exact cnt322
 ·exact cnt331
 ·exact cnt332
 ·exact cnt333
theorem want_round (n j : Nat) (hn : n = 2∨n = 3) (hj : j = 1∨j = 2∨j = 3) : IntKind.i64.wrap ((wantN n (j - 1) : Int) * ((n : Int) + j)) = (wantN n (j - 1) : Int) * ((n : Int) + j)∧IntKind.i64.wrap (((wantN n (j - 1) : Int) * ((n : Int) + j)).tdiv j) = (wantN n j : Int):=by
 rcases hn with rfl | rfl <;> rcases hj with rfl | rfl | rfl <;> exact ⟨by decide,by decide⟩
set_option maxRecDepth 100000 in
set_option maxHeartbeats 8000000 in
theorem counted_any (m t sum : Int) (w : World) (hm0 : -9223372036854775808≤m) (hm1 : m≤9223372036854775807) (ht0 : -9223372036854775808≤t) (ht1 : t≤9223372036854775807) (hs0 : -9223372036854775808≤sum) (hs1 : sum≤9223372036854775807) :
  Calls Tryz.prog 9 #[.int .i64 m,.int .i64 t,.int .i64 sum] w fun e w'=>e = .returned (.bool true)∧Below w.heap.size w w':=by
 have HP1:=hide (fun wx=>pick_any m 2 wx hm0 hm1 (by omega) (by omega))
 have HP2:=hide (fun wx=>pick_any t 3 wx ht0 ht1 (by omega) (by omega))
 have HP3:=hide (fun wx (top : Nat) (h1 : 0 < top) (h2 : top≤3)=>pick_any sum top wx hs0 hs1 h1 (by omega))
 clear hm0 hm1 ht0 ht1 hs0 hs1
 go_enter Tryz.func9,Tryz.ntmps9
 go_wp2_with fail
 refine (awake_any _).mono ?_
 rintro e w1 ⟨rfl,hb1⟩
 have HB1:=hide hb1
 have hz1:=hb1.size
 clear hb1
 go_wp2_with fail
 refine (searching_any _).mono ?_
 rintro e w2 ⟨rfl,hb2⟩
 have HB2:=hide ((ku HB1).trans (hb2.mono hz1))
 have hz2:=hb2.size
 clear hb2
 go_wp2_with fail
 refine ((ku HP1) _).mono ?_
 rintro e w3 ⟨rfl,hlt1,hw3⟩
 subst hw3
 obtain ⟨n,hn⟩ : ∃ n : Nat,(2 : Int) + (pickN m 2 : Int) = n:=⟨2 + pickN m 2,by simp⟩
 have hn2 : n = 2∨n = 3:=by omega
 have HNE:=hide hn
 generalize pickN m 2 = pm at *
 go_wp2_with fail
 refine ((ku HP2) _).mono ?_
 rintro e w4 ⟨rfl,hlt2,hw4⟩
 subst hw4
 obtain ⟨top,htop⟩ : ∃ top : Nat,(1 : Int) + (pickN t 3 : Int) = top:=⟨1 + pickN t 3,by simp⟩
 have ht2 : top = 1∨top = 2∨top = 3:=by omega
 generalize pickN t 3 = pt at *
 obtain ⟨r1,a0,a1,a2,a3,a4⟩:=repIs_of (cnt_all n top hn2 ht2)
 have HS1:=hide (fun wx=>search_rep a0 a1 a2 a3 a4 wx)
 have HNV:=hide (fun (k : Nat) (h1 : 1≤k) (h2 : k≤top)=>nevIs_of (nev_all n top k hn2 ht2 h1 h2))
 have HIT:=hide (fun (wx : World) (i : Nat) (hi : i < 10)=>itoa_digit i hi wx)
 have hn10 : n < 10:=by omega
 have ht10 : top < 10:=by omega
 have HN2:=hide hn2
 have HT2:=hide ht2
 have hnp : 2≤n:=by omega
 have htp : 1≤top:=by omega
 have htp3 : top≤3:=by omega
 have hnp3 : n≤3:=by omega
 have HHN:=hide hn
 have HHT:=hide htop
 clear a0 a1 a2 a3 a4 hn2 ht2
 have hd1 : (digS n).size = 1:=rfl
 have hd2 : (digS top).size = 1:=rfl
 go_wp2_with fail
 clear hn htop
 refine ((ku HIT) _ n hn10).mono ?_
 rintro e w5 ⟨rfl,hw5⟩
 subst hw5
 go_wp2_with fail
 refine ((ku HIT) _ top ht10).mono ?_
 rintro e w6 ⟨rfl,hw6⟩
 subst hw6
 go_wp2_with fail
 refine ((ku HIT) _ top ht10).mono ?_
 rintro e w7 ⟨rfl,hw7⟩
 subst hw7
 go_wp2_with fail
 refine ((ku HS1) _).mono ?_
 rintro e w8 ⟨ta,tc,rfl,hb8⟩
 have hz8:=hb8.size
 obtain ⟨w9,hw9⟩ : ∃ w9,w9 = w8.alloc (.cells #[.int .i64 0,.slice ta 0 tc,.int .i64 (wantN n top)] 46):=⟨_,rfl⟩
 have HE9:=hide (show w9.heap[w8.heap.size]? = some (.cells #[.int .i64 0,.slice ta 0 tc,.int .i64 (wantN n top)] 46 (0,0)) by rw [hw9]; exact qg _ _)
 have HB9:=hide (show Below w.heap.size w w9 by rw [hw9]; exact ((ku HB2).trans (hb8.mono (by omega))).alloc (by omega) _)
 have hz9 : w8.heap.size < w9.heap.size:=by rw [hw9]; simp
 have HW9:=hide hw9.symm
 obtain ⟨T0,hT0⟩ : ∃ T0,T0 = cntT n top:=⟨_,rfl⟩
 have HT0:=hide hT0
 clear hb8 hw9 hT0 HS1
 go_wp2_with fail
 rw [ku HW9]
 go_loopw [14,15] (fun x i wr=>∃ j : Nat,1≤j∧j≤top + 1∧i = .int .i64 j∧x = .int .i64 (wantN n (j - 1))∧wr = w9) (fun _ i _=>top + 1 - (intOf i).toNat)
 case atStart=>exact ⟨1,Nat.le_refl _,by omega,rfl,rfl,rfl⟩
 case round=>
  obtain ⟨j,hj1,hj2,rfl,rfl,rfl⟩:=hrel
  by_cases hlt : j≤top
  ·have hltI : (j : Int)≤top:=by omega
   obtain ⟨wm,wq⟩:=want_round n j (ku HN2) (by omega)
   have hjz : ((j : Int) == 0) = false:=by simp; omega
   have hjz' : ¬ ((j : Int) = 0):=by omega
   have hjn : ¬ ((j : Int) = -1):=by omega
   go_wp2
   go_roundw
   case rel=>exact ⟨j + 1,by omega,by omega,by go_num,rfl,trivial⟩
   case measure=>simp [intOf]; omega
  ·have hje : j = top + 1:=by omega
   subst hje
   have hgt : ¬ ((top : Int) + 1≤top):=by omega
   obtain ⟨q0,q1,q2,-⟩:=row3 (ku HE9)
   simp only [Nat.add_sub_cancel]
   generalize wantN n top = wt at *
   go_wp2_with fail
   refine ((ku HP3) _ top htp htp3).mono ?_
   rintro e w10 ⟨rfl,hlt3,hw10⟩
   subst hw10
   obtain ⟨k,hk⟩ : ∃ k : Nat,(1 : Int) + (pickN sum top : Int) = k:=⟨1 + pickN sum top,by simp⟩
   have hk1 : 1≤k:=by omega
   have hk2 : k≤top:=by omega
   have hk10 : k < 10:=by omega
   generalize pickN sum top = ps at *
   obtain ⟨r2,b0,b1,b2,b3⟩:=(ku HNV) k hk1 hk2
   have HS2:=hide (fun wx=>search_rep b0 b1 b2 b3 rfl wx)
   have hd3 : (digS k).size = 1:=rfl
   generalize r2.orbits = ro at *
   clear b0 b1 b2 b3
   go_wp2_with fail
   clear hk
   refine ((ku HIT) _ k hk10).mono ?_
   rintro e w11 ⟨rfl,hw11⟩
   subst hw11
   go_wp2_with fail
   refine ((ku HIT) _ top ht10).mono ?_
   rintro e w12 ⟨rfl,hw12⟩
   subst hw12
   go_wp2_with fail
   refine ((ku HS2) _).mono ?_
   rintro e w13 ⟨tb,td,rfl,hb13⟩
   have hz13:=hb13.size
   have HB13:=hide (((ku HB9).trans (hb13.mono (by have:=(ku HB9).size; omega))).alloc (by have:=(ku HB9).size; omega) (.cells #[.int .i64 1,.slice tb (k + top) td,.int .i64 ro] 46))
   clear hb13 HS2 HIT HP1 HP2 HP3 HNV
   go_wp2
   go_ret
   exact ⟨rfl,ku HB13⟩
end Go.Proofs.YtpmcnonmkghokaaGreatDoor
namespace Go.Proofs.YtpmcnonmkghokaaGreatDoor
set_option maxRecDepth 1000000 in
theorem counted_closed : joinedFacts Tryz.pinned.checked.prog 9 Tryz.f9 Rows.countedSpec Rows.countedRow = true:=by kernel_rfl
end Go.Proofs.YtpmcnonmkghokaaGreatDoor
namespace Go.Proofs.YtpmcnonmkghokaaGreatDoor.keep
open Go.ChangeShapes Go.WideShapes Go.ChangeAt Go.RowKit
theorem own : ownKnob Tryz.prog.godebug = none:=by kernel_rfl
abbrev laid3 : List (String × DataW Unit):=Rows.countedRow.laid
set_option maxRecDepth 100000 in
theorem door_met (os : Os) (args : Array Value) : laidMetH Tryz.prog laid3 ((World.doorLaid Tryz.prog 400 os).forCall (fun _ _=>0) ⟨#[],args,[]⟩).memory:=
 laidMetH_of_parts3 (fuel:=8) (laidMet_of_run' 8 (by kernel_rfl) (by kernel_rfl)) (by kernel_rfl) (by kernel_rfl)
theorem post_new {H : Type} {enc : TypeId × Value→H} {P : Program} {f : Func} {s : ChangeSpec} {apart fresh handsOn again : Bool} {W W' : World} {args : Array Value} {v : Value} {ds gs : List (DataW H)}
  (hW : DataW.Whole enc P f.params.toList s.vars apart W args.toList ds gs [])
  (hres : ∀ (b : Nat) (sp : Nat→Bool) (hd : Bool),DataW.TrodAll enc P W' b sp hd f.resultTypes.toList (v.resultList f.resultTypes.size) (s.fn H (ds ++ gs)).results [])
  (hargs : ∀ sp : Nat→Bool,DataW.TrodAll enc P W' 0 sp true f.params.toList args.toList (s.fn H (ds ++ gs)).args [])
  (hvars : ∀ sp : Nat→Bool,DataW.TrodVars enc P W' sp s.vars (s.fn H (ds ++ gs)).vars [])
  (hk : Below W.heap.size W W')
  (hok : ∀ (j : Nat) (t : TypeId) (r : Value),f.resultTypes[j]? = some t→(v.resultList f.resultTypes.size)[j]? = some r→Value.okWide P W' .any 0 t r) :
  s.post enc P f apart fresh handsOn again W args v W':=by
 refine ⟨ds,gs,[],[],[],[],hW,hres _ _ _,hargs _,hvars _,World.keptBut_mono (fun p hp=>by cases hp) (hk.frame (fun _=>False)),fun _=>?_⟩
 exact ⟨hok,_,_,[],⟨[],[],trodAll_append (hargs _) (hres _ _ _),hvars _,rfl,fun b off hp=>by simp at hp,fun _=>by simp⟩,fun p hp _=>by simp at hp⟩
set_option maxRecDepth 100000 in
theorem lifted (os : Os) (started : os.Started) (H : Type) (enc : TypeId × Value→H) :
  ReturnsInHanded {} Tryz.checked os 9 .any (fun w args=>(Rows.countedSpec.pre enc Tryz.prog Tryz.f9 [] false w args∧laidMetH Tryz.prog laid3 w)∧sizedMet enc Tryz.prog Tryz.f9 (OpenSpec.ofChange Rows.countedSpec) false w args)
   (Rows.countedSpec.post enc Tryz.prog Tryz.f9 false true false false):=by
 refine returnsInHanded_of_change_and (C:=Tryz.checked) (X:=fun w _=>laidMetH Tryz.prog laid3 w) (fun _ _ _ hh h=>h.of_heap hh) own started (by kernel_rfl) Tryz.func9
  (ChangeSpec.witness_shaped (enc:=enc) (C:=Tryz.checked) (os:=os) (X:=fun w _=>laidMetH Tryz.prog laid3 w) false (World.doorLaid Tryz.prog 400 os) #[.int .i64 0,.int .i64 0,.int .i64 0] 8 rfl (World.shaped_of_RefB (by kernel_rfl) (by kernel_rfl)) (by kernel_rfl) (by kernel_rfl) (by kernel_rfl) (door_met os _)) ?_
 intro W base args ds gs before hval0 hW _ _ hL _
 have hval : ∀ (j : Nat) t v,Tryz.f9.params[j]? = some t→args[j]? = some v→Value.okWide Tryz.prog W .any base t v:=hval0
 have hW':=hW
 obtain ⟨p,q,hA0,hV,rfl,hfz,hnd⟩:=hW
 have hA : DataW.TrodAll enc Tryz.prog W 0 (fun _=>true) true Tryz.f9.params.toList args.toList ds p:=hA0
 rw [Tryz.params9] at hA hval
 obtain ⟨v0,vs0,d0,ds0,p0,q0,hargs,rfl,rfl,h0,r0⟩:=trodAll_cons hA
 obtain ⟨v1,vs1,d1,ds1,p1,q1,hargs1,rfl,rfl,h1,r1⟩:=trodAll_cons r0
 obtain ⟨v2,vs2,d2,ds2,p2,q2,hargs2,rfl,rfl,h2,r2⟩:=trodAll_cons r1
 obtain ⟨rfl,rfl,rfl⟩:=trodAll_nil r2
 subst hargs1; subst hargs2
 obtain rfl : args = #[v0,v1,v2]:=by cases args; simp_all
 obtain ⟨rfl,rfl⟩:=trodVars_none hV
 obtain ⟨a0,rfl,rfl,rfl,w0⟩:=open_int Tryz.underlying3 (hval 0 3 v0 rfl rfl) h0
 obtain ⟨a1,rfl,rfl,rfl,w1⟩:=open_int Tryz.underlying3 (hval 1 3 v1 rfl rfl) h1
 obtain ⟨a2,rfl,rfl,rfl,w2⟩:=open_int Tryz.underlying3 (hval 2 3 v2 rfl rfl) h2
 clear hA0 hval0
 simp only [List.append_nil] at hW'
 have z0 : -9223372036854775808≤a0∧a0≤9223372036854775807:=by
  obtain ⟨x,y⟩:=Bool.and_eq_true_iff.mp w0
  exact ⟨of_decide_eq_true x,of_decide_eq_true y⟩
 have z1 : -9223372036854775808≤a1∧a1≤9223372036854775807:=by
  obtain ⟨x,y⟩:=Bool.and_eq_true_iff.mp w1
  exact ⟨of_decide_eq_true x,of_decide_eq_true y⟩
 have z2 : -9223372036854775808≤a2∧a2≤9223372036854775807:=by
  obtain ⟨x,y⟩:=Bool.and_eq_true_iff.mp w2
  exact ⟨of_decide_eq_true x,of_decide_eq_true y⟩
 refine (counted_any a0 a1 a2 W z0.1 z0.2 z1.1 z1.2 z2.1 z2.2).mono fun e W' ⟨he,hg⟩=>?_
 subst he
 exact ⟨_,rfl,post_new hW' (fun _ _ _=>(trodAll_cons_mk (shut_bool Tryz.underlying4 _) trodAll_mk0)) (fun sp=>(trodAll_cons_mk (shut_int Tryz.underlying3 w0) (trodAll_cons_mk (shut_int Tryz.underlying3 w1) (trodAll_cons_mk (shut_int Tryz.underlying3 w2) trodAll_mk0)))) (fun _=>rfl)
  hg (ok_one (by kernel_rfl) rfl (okWide_bool_mk Tryz.underlying4 _))⟩
theorem over : Rows.CountedSaid:=
 OpenClaim.holds_of_wide 9 Tryz.f9 rfl rfl rfl rfl rfl rfl rfl ⟨rfl,rfl,rfl,rfl,rfl⟩ rfl rfl rfl rfl rfl (by kernel_rfl) Tryz.func9 counted_closed
  (of_decide_eq_true (by kernel_rfl)) (by unfold Func.isWrapper; first | (rw [if_pos (by decide +kernel)]; kernel_rfl) | (rw [if_neg (by decide +kernel)]; exact ⟨rfl,rfl⟩))
  (fun os started H enc _=>lifted os started H enc)
end Go.Proofs.YtpmcnonmkghokaaGreatDoor.keep
namespace Go.Proofs.YtpmcnonmkghokaaGreatDoor
open Go
theorem counted_proved : Rows.CountedCardSaid:=
 Claim7.holds_tied_plain_at .later [] [.data,.data,.data] true (true,"866e42b94a8d35afcd2281c26c94c6bb01422d5ed6fd52653700cd8dee87b256") false
  keep.over (fun _ h=>by cases h) (by kernel_rfl) (fun _ h=>by cases h) counted_row_tie rfl ⟨rfl,rfl⟩ (by kernel_rfl) rfl
  (fun f fn hf hfn=>by
   obtain rfl : f = 9:=Option.some.inj ((show Tryz.prog.funcNamed "orbits/orbitskeep.Counted" = some 9 by kernel_rfl).symm.trans hf) |>.symm
   obtain rfl : fn = Tryz.f9:=(Option.some.inj (Tryz.func9.symm.trans hfn)).symm
   exact ⟨by kernel_rfl,fun j t ht=>by
    rw [Tryz.params9] at ht
    have hm : t ∈ [3,3,3]:=by simpa using Array.mem_of_getElem? ht
    have hall : ([3,3,3].all fun u=>!Tryz.prog.wantsStandIn u) = true:=by kernel_rfl
    exact (show Tryz.prog.wantsStandIn t = false by simpa using List.all_eq_true.1 hall t hm)⟩)
  (by kernel_rfl)
end Go.Proofs.YtpmcnonmkghokaaGreatDoor

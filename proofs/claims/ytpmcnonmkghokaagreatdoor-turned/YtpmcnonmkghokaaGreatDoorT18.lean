import Derived.Test.YtpmcnonmkghokaaGreatDoorT17
set_option maxRecDepth 100000
set_option maxHeartbeats 8000000
set_option linter.unusedVariables false
set_option linter.unusedSimpArgs false
namespace Go.Proofs.YtpmcnonmkghokaaGreatDoor
open Go.RowKit
def wS (tab:Tab)(z:Int)(s:PSet):Int:=kqu (kqh tab s.name) z s.name
def wM (tab:Tab)(z:Int)(n:Tok):Int:=kqu (kqh tab n) z n
def wK (tab:Tab)(z:Int)(k:PKind):Int:=k.members.foldl (wM tab) (kqu (kqh tab k.name) z k.name)
def wV (tab:Tab)(z:Int)(v:VrT):Int:=vzn tab (kqu (kqh tab v.name) z v.name) v
def wN (tab:Tab)(z:Int)(r:PRule):Int:=(jr r.guard).foldl (kxs tab r.params) (gy (zzy tab r.params) r.params 0 (kqu (kqh tab r.name) z r.name))
def wR (tab:Tab)(z:Int)(r:PRule):Int:=(zh r.body).foldl (kxs tab r.params) ((jr r.guard).foldl (kxs tab r.params) (gy (zzy tab r.params) r.params 0 (kqu (kqh tab r.name) z r.name)))
def wt1 (tab:Tab)(m:MdL):Int:=m.sets.foldl (wS tab) (-1)
def wt2 (tab:Tab)(m:MdL):Int:=m.kinds.foldl (wK tab) (wt1 tab m)
def wt3 (tab:Tab)(m:MdL):Int:=m.vars.foldl (wV tab) (wt2 tab m)
def wt4 (tab:Tab)(m:MdL):Int:=m.rules.foldl (wR tab) (wt3 tab m)
def kkg (tab:Tab)(m:MdL):Int:=m.nevers.foldl (wN tab) (wt4 tab m)
structure MdNm (m:MdL):Prop where
 vars:∀ v∈m.vars,v.over.text.size≤1000∧v.si.name.text.size≤1000
 rules:∀ r∈m.rules,r.params.length≤1000∧(∀ p∈r.params,p.name.text.size≤1000∧p.set_.text.size≤1000)∧(∀ y∈jr r.guard,y.text.size≤1000)∧kke r.body∧uz r.body≤1000∧(∀ y∈zh r.body,y.text.size≤1000)
 nevers:∀ r∈m.nevers,r.params.length≤1000∧(∀ p∈r.params,p.name.text.size≤1000∧p.set_.text.size≤1000)∧(∀ y∈jr r.guard,y.text.size≤1000)
def kv4 {α:Type}(W:World)(B b:Nat)(tab:Tab)(g:Int→α→Int)(items:List α)(z0:Int)(i:Value)(wr:World):Prop:=
 ∃ (k:Nat) (a:Int) (ps:Value),k≤items.length∧i=.int .i64 k∧(items.drop k).foldl g a=items.foldl g z0∧Nm wr B b tab ps a∧Kept B W wr
theorem kv4.start {α:Type}{W wr:World}{B b:Nat}{tab:Tab}{g:Int→α→Int}{items:List α}{z:Int}{ps:Value}(hf:Nm wr B b tab ps z)(hk:Kept B W wr):kv4 W B b tab g items z (.int .i64 0) wr:=
 ⟨0,z,ps,tu _,rfl,rfl,hf,hk⟩
theorem kv4.next {α:Type}{W wr:World}{B b:Nat}{tab:Tab}{g:Int→α→Int}{items:List α}{z0 a:Int}{k:Nat}{ps:Value}(hk:k<items.length)(h:(items.drop k).foldl g a=items.foldl g z0)(hf:Nm wr B b tab ps (g a items[k]))(hw:Kept B W wr) :
  kv4 W B b tab g items z0 (.int .i64 ((k:Int)+1)) wr:=by
 refine ⟨k+1,_,ps,hk,by go_num,?_,hf,hw⟩;rw[sQ hk,Qe] at h;exact h
theorem qw0 {α:Type}{g:Int→α→Int}{items:List α}{z0 a:Int}{k:Nat}(hk:¬k<items.length)(h:(items.drop k).foldl g a=items.foldl g z0):a=items.foldl g z0:=by
 rw[QM (by omega),List.foldl_nil] at h;exact h
theorem zx4 (w:World)(lo b:Nat)(tab:Tab)(x0 x1 x2 x3 x4:Value)(m:MdL)(h:kky lo w x0 x1 x2 x3 x4 m)(ht:kqw w b tab)(hok:MdOk m)(hszz:MdSz m)(hnmm:MdNm m) :
  Calls Tryz.prog 93 #[.agg #[x0,x1,x2,x3,x4],.map (some b)] w fun e w'=>e=.returned (.agg #[.bool (decide (0≤kkg tab m)),.int .i64 (fAt (kkg tab m))])∧Below w.heap.size w w':=by
 obtain ⟨h0,⟨c1,h1,k1⟩,h2,⟨c3,h3,k3⟩,⟨c4,h4,k4⟩⟩:=h;obtain ⟨hok0,hok1,hok2,hok3,hok4,hok5,hok6⟩:=hok;have hok:MdOk m:=⟨hok0,hok1,hok2,hok3,hok4,hok5,hok6⟩;obtain ⟨W,hW⟩:∃ W,W=((w.alloc (.cells #[x0,x1,x2,x3,x4] 68)).alloc (.cells #[.bool false,.int .i64 0] 199)).alloc (.cells #[.map (some b),.slice none 0 0,.bool false,.int .i64 0] 296):=⟨_,rfl⟩;have hbl:b<w.heap.size:=by obtain ⟨⟨es,c,hb,_⟩,_⟩:=ht;exact wX hb
 have hbW:Below w.heap.size w W:=by
  rw[hW];exact ((below_alloc1 w _).trans ((below_alloc1 _ _).mono (by simp))).trans ((below_alloc1 _ _).mono (by simp;omega))
 have hsW:W.heap.size=w.heap.size+3:=by rw[hW];simp
 obtain ⟨B,hB⟩:∃ B,B=w.heap.size+2:=⟨_,rfl⟩;have HWE:=hide hW.symm;have HBX:=hide (show W.heap[w.heap.size]?=some (.cells #[x0,x1,x2,x3,x4] 68 (0,0)) by rw[hW];exact qp (qp (qy _ _)));have HRS:=hide (show W.heap[w.heap.size+1]?=some (.cells #[.bool false,.int .i64 0] 199 (0,0)) by
  rw[hW];have:=qy (w.alloc (.cells #[x0,x1,x2,x3,x4] 68)) (.cells #[.bool false,.int .i64 0] 199);simp only[tJ] at this;exact qp this)
 have hNW:Nm W B b tab (.slice none 0 0) (-1):=by
  refine ⟨?_,ht.kept hbW,by omega⟩;rw[hW,hB];have:=qy ((w.alloc (.cells #[x0,x1,x2,x3,x4] 68)).alloc (.cells #[.bool false,.int .i64 0] 199)) (.cells #[.map (some b),.slice none 0 0,.bool false,.int .i64 0] 296);simp only[tJ] at this;exact this
 have vw:∀ {e size:Nat} {v:Value} {n:Nat} {xs:List Value},w.ownsRow lo e size v n xs→∃ a cap,v=.slice a n cap∧∀ i,i<n→∃ g,a=some ⟨g,0,none⟩∧lo≤g∧g<w.heap.size∧∀ j,j<n * size→W.cell? ⟨g,j,none⟩=xs[j]?:=by
  intro e size v n xs h;obtain ⟨a,cap,e1,hv⟩:=zq h;refine ⟨a,cap,e1,fun i hi=>?_⟩;obtain ⟨g,q1,q2,q3,q4⟩:=hv i hi;exact ⟨g,q1,q2,q3,fun j hj=>(hbW.cell (p:=⟨g,j,none⟩) q3).trans (q4 j hj)⟩
 obtain ⟨a0,cp0,rfl,v0⟩:=vw h0;obtain ⟨a1,cp1,rfl,v1⟩:=vw h1;obtain ⟨a2,cp2,rfl,v2⟩:=vw h2;obtain ⟨a3,cp3,rfl,v3⟩:=vw h3;obtain ⟨a4,cp4,rfl,v4⟩:=vw h4;have HW0:=hide v0;have HW1:=hide v1;have HW2:=hide v2;have HW3:=hide v3;have HW4:=hide v4;have HC1:=hide k1;have HC3:=hide (k3.stay (w':=W) (fun k _ h=>hbW.block k h));have HC4:=hide (k4.stay (w':=W) (fun k _ h=>hbW.block k h));have HBW:=hide hbW;have HBE:=hide hB;have HNW:=hide hNW;have hB1:w.heap.size+1<B:=by omega
 have hB2:B<W.heap.size:=by omega
 clear h0 h1 h2 h3 h4 k1 k3 k4 v0 v1 v2 v3 v4 vw hsW hB hW hbW hok5 hok6 ht;have HR0:=hide (show kv4 W B b tab (wS tab) m.sets (-1) (.int .i64 0) W from kv4.start hNW (Kept.refl _ _));clear hNW;go_enter Tryz.func93,Tryz.ntmps93
 go_wp2_with fail
 rw[ku HWE,←ku HBE];go_loopw [7,23] (fun _ i wr=>kv4 W B b tab (wS tab) m.sets (-1) i wr) (fun _ i _=>m.sets.length-(intOf i).toNat)
 case atStart=>exact ku HR0
 case round=>
  obtain ⟨k,a0,ps0,hk,rfl,hfo,hnm,hkp⟩:=hrel;have HFO:=hide hfo;have HN0:=hide hnm;have HK:=hide hkp;have hsz:=hkp.size;clear hfo hnm HR0;by_cases hlt:k<m.sets.length
  ·obtain ⟨g,rfl,hg1,hg2,hc⟩:=ku HW0 k hlt;have hgB:g≠B:=by omega
   have fl:=fun j (hj:j<4)=>kjx qj7 4 (fun _=>rfl) m.sets k j hlt hj
   have e0:=hkp.cell (a:=⟨g,k * 4+0,none⟩) hgB ((hc (k * 4+0) (by omega)).trans (fl 0 (by omega)));have e1:=hkp.cell (a:=⟨g,k * 4+1,none⟩) hgB ((hc (k * 4+1) (by omega)).trans (fl 1 (by omega)));have e2:=hkp.cell (a:=⟨g,k * 4+2,none⟩) hgB ((hc (k * 4+2) (by omega)).trans (fl 2 (by omega)));have e3:=hkp.cell (a:=⟨g,k * 4+3,none⟩) hgB ((hc (k * 4+3) (by omega)).trans (fl 3 (by omega)));simp only[qj7,sW,sK,nV] at e0 e1 e2 e3;have HNX:=hide (fun (w':World) (ps:Value) (hf:Nm w' B b tab ps ((wS tab) a0 (m.sets[k]))) (hw:Kept B W w')=>kv4.next (W:=W) (wr:=w') (B:=B) (b:=b) (tab:=tab) (g:=(wS tab)) (items:=m.sets) (z0:=(-1)) (a:=a0) hlt (ku HFO) hf hw);have hns:=hszz.sets _ (rJ hlt);have hwB:=wX (ku HN0).nm;generalize m.sets[k]=p at e0 e1 e2 e3 HNX hns;clear hc fl hkp HFO;go_wp2_with fail
   refine (kwm _ B b tab ps0 a0 p.name ((ku HN0).alloc _) hns).mono ?_;rintro e w1 ⟨rfl,h1,hk1⟩;have hv1:=hk1.row (b:=wr.heap.size) (by omega) (qy _ _);have HK1:=hide ((Kept.kq5 _).trans hk1);have HN1:=hide h1;have HV1:=hide hv1;clear h1 hk1 hv1 e0 e1 e2 e3;have HN:=hide (ku HNX _ _ (ku HN1) ((ku HK).trans (ku HK1)));clear HNX;go_wp2
   go_roundw
   case rel=>exact ku HN
   case measure=>simp[intOf];omega
  ·have hd:=qw0 hlt (ku HFO);rw[hd] at HN0;have hbx:=hkp.row (b:=w.heap.size) (by omega) (ku HBX);obtain ⟨_,qx,_,_,_,_⟩:=zo hbx;have HR1:=hide (show kv4 W B b tab (wK tab) m.kinds (wt1 tab m) (.int .i64 0) wr from kv4.start (ku HN0) (ku HK));clear hd hbx hkp HN0 HK HFO;go_wp2_with fail
   go_loopw [9,11,34] (fun _ _ i wr=>kv4 W B b tab (wK tab) m.kinds (wt1 tab m) i wr) (fun _ _ i _=>m.kinds.length-(intOf i).toNat)
   case atStart=>exact ku HR1
   case round=>
    obtain ⟨k,a0,ps0,hk,rfl,hfo,hnm,hkp⟩:=hrel;have HFO:=hide hfo;have HN0:=hide hnm;have HK:=hide hkp;have hsz:=hkp.size;clear hfo hnm HR1;by_cases hlt:k<m.kinds.length
    ·obtain ⟨g,rfl,hg1,hg2,hc⟩:=ku HW1 k hlt;have hgB:g≠B:=by omega
     obtain ⟨ma,mn,mc,fl0,fl1,fl2,hm⟩:=zz4 k hlt (ku HC1);have e0:=hkp.cell (a:=⟨g,k * 3,none⟩) hgB ((hc (k * 3) (by omega)).trans fl0);have e1:=hkp.cell (a:=⟨g,k * 3+1,none⟩) hgB ((hc (k * 3+1) (by omega)).trans fl1);have e2:=hkp.cell (a:=⟨g,k * 3+2,none⟩) hgB ((hc (k * 3+2) (by omega)).trans fl2);have HNX:=hide (fun (w':World) (ps:Value) (hf:Nm w' B b tab ps ((wK tab) a0 (m.kinds[k]))) (hw:Kept B W w')=>kv4.next (W:=W) (wr:=w') (B:=B) (b:=b) (tab:=tab) (g:=(wK tab)) (items:=m.kinds) (z0:=(wt1 tab m)) (a:=a0) hlt (ku HFO) hf hw);have hns:=hszz.kinds _ (rJ hlt);have hml:=hok.members _ (rJ hlt);have HM:=hide hm;have hwB:=wX (ku HN0).nm;generalize m.kinds[k]=p at e0 e1 e2 HNX hns HM hml;clear hc fl0 fl1 fl2 hm hkp HFO;go_wp2_with fail
     refine (kwm _ B b tab ps0 a0 p.name ((ku HN0).alloc _) hns.1).mono ?_;rintro e w1 ⟨rfl,h1,hk1⟩;have hv1:=hk1.row (b:=wr.heap.size) (by omega) (qy _ _);have HK1:=hide ((Kept.kq5 _).trans hk1);have HN1:=hide h1;have HV1:=hide hv1;have hz1:=(ku HK1).size;have hvl:=wX hv1;have HKW1:=hide ((ku HK).trans (ku HK1));obtain ⟨_,_,g2,_⟩:=row3 hv1;obtain ⟨mb,mcap,hmeq,hmv⟩:=zq (ku HM);injection hmeq with q1 q2 q3;subst q1;subst q2;subst q3;have HMV:=hide hmv;have HRI:=hide (show kv4 w1 B b tab (wM tab) p.members (kqu (kqh tab p.name) a0 p.name) (.int .i64 0) w1 from kv4.start h1 (Kept.refl _ _));clear hmv h1 hk1 hv1 e0 e1 e2;go_wp2_with fail
     go_loopw [11,44] (fun _ i wr=>kv4 w1 B b tab (wM tab) p.members (kqu (kqh tab p.name) a0 p.name) i wr) (fun _ i _=>p.members.length-(intOf i).toNat)
     case atStart=>exact ku HRI
     case round=>
      obtain ⟨k5,a5,ps5,hk5,rfl,hfo5,hnm5,hkp5⟩:=hrel;have HFO5:=hide hfo5;have HN5:=hide hnm5;have HK5:=hide hkp5;have hsz5:=hkp5.size;clear hfo5 hnm5 HRI;by_cases hlt5:k5<p.members.length
      ·obtain ⟨g5,rfl,hg51,hg52,hc5⟩:=ku HMV k5 hlt5;have hgB5:g5≠B:=by omega
       have fl:=fun j (hj:j<2)=>kjx kqq 2 (fun _=>rfl) p.members k5 j hlt5 hj
       have e0:=hkp5.cell (a:=⟨g5,k5 * 2+0,none⟩) hgB5 ((ku HKW1).cell hgB5 (((ku HBW).cell (p:=⟨g5,k5 * 2+0,none⟩) hg52).trans ((hc5 (k5 * 2+0) (by omega)).trans (fl 0 (by omega)))));have e1:=hkp5.cell (a:=⟨g5,k5 * 2+1,none⟩) hgB5 ((ku HKW1).cell hgB5 (((ku HBW).cell (p:=⟨g5,k5 * 2+1,none⟩) hg52).trans ((hc5 (k5 * 2+1) (by omega)).trans (fl 1 (by omega)))));simp only[kqq,sW,sK,nV] at e0 e1;have hns5:=hns.2 _ (rJ hlt5);have HNX5:=hide (fun (w':World) (ps:Value) (hf:Nm w' B b tab ps (wM tab a5 (p.members[k5]))) (hw:Kept B w1 w')=>kv4.next (W:=w1) (wr:=w') (B:=B) (b:=b) (tab:=tab) (g:=wM tab) (items:=p.members) (z0:=kqu (kqh tab p.name) a0 p.name) (a:=a5) hlt5 (ku HFO5) hf hw);generalize p.members[k5]=y5 at e0 e1 HNX5 hns5;clear hc5 fl hkp5 HFO5;go_wp2_with fail
       refine (kwm _ B b tab ps5 a5 y5 ((ku HN5).alloc _) hns5).mono ?_;rintro e w6 ⟨rfl,h6,hk6⟩;have HN:=hide (ku HNX5 _ _ h6 (((ku HK5).alloc _).trans hk6));clear h6 hk6 HNX5;go_wp2
       go_roundw
       case rel=>exact ku HN
       case measure=>simp[intOf];omega
      ·have hd5:=qw0 hlt5 (ku HFO5);rw[hd5] at HN5;have HN:=hide (ku HNX _ _ (ku HN5) ((ku HKW1).trans (ku HK5)));clear hd5 HNX;go_wp2
       go_roundw
       case rel=>exact ku HN
       case measure=>simp[intOf];omega
    ·have hd:=qw0 hlt (ku HFO);rw[hd] at HN0;have hbx:=hkp.row (b:=w.heap.size) (by omega) (ku HBX);obtain ⟨_,_,qx,_,_,_⟩:=zo hbx;have HR2:=hide (show kv4 W B b tab (wV tab) m.vars (wt2 tab m) (.int .i64 0) wr from kv4.start (ku HN0) (ku HK));clear hd hbx hkp HN0 HK HFO;go_wp2_with fail
     go_loopw [13,55] (fun _ i wr=>kv4 W B b tab (wV tab) m.vars (wt2 tab m) i wr) (fun _ i _=>m.vars.length-(intOf i).toNat)
     case atStart=>exact ku HR2
     case round=>
      obtain ⟨k,a0,ps0,hk,rfl,hfo,hnm,hkp⟩:=hrel;have HFO:=hide hfo;have HN0:=hide hnm;have HK:=hide hkp;have hsz:=hkp.size;clear hfo hnm HR2;by_cases hlt:k<m.vars.length
      ·obtain ⟨g,rfl,hg1,hg2,hc⟩:=ku HW2 k hlt;have hgB:g≠B:=by omega
       have fl:=fun j (hj:j<10)=>kjx kqx 10 (fun _=>rfl) m.vars k j hlt hj
       have e0:=hkp.cell (a:=⟨g,k * 10+0,none⟩) hgB ((hc (k * 10+0) (by omega)).trans (fl 0 (by omega)));have e1:=hkp.cell (a:=⟨g,k * 10+1,none⟩) hgB ((hc (k * 10+1) (by omega)).trans (fl 1 (by omega)));have e2:=hkp.cell (a:=⟨g,k * 10+2,none⟩) hgB ((hc (k * 10+2) (by omega)).trans (fl 2 (by omega)));have e3:=hkp.cell (a:=⟨g,k * 10+3,none⟩) hgB ((hc (k * 10+3) (by omega)).trans (fl 3 (by omega)));have e4:=hkp.cell (a:=⟨g,k * 10+4,none⟩) hgB ((hc (k * 10+4) (by omega)).trans (fl 4 (by omega)));have e5:=hkp.cell (a:=⟨g,k * 10+5,none⟩) hgB ((hc (k * 10+5) (by omega)).trans (fl 5 (by omega)));have e6:=hkp.cell (a:=⟨g,k * 10+6,none⟩) hgB ((hc (k * 10+6) (by omega)).trans (fl 6 (by omega)));have e7:=hkp.cell (a:=⟨g,k * 10+7,none⟩) hgB ((hc (k * 10+7) (by omega)).trans (fl 7 (by omega)));have e8:=hkp.cell (a:=⟨g,k * 10+8,none⟩) hgB ((hc (k * 10+8) (by omega)).trans (fl 8 (by omega)));have e9:=hkp.cell (a:=⟨g,k * 10+9,none⟩) hgB ((hc (k * 10+9) (by omega)).trans (fl 9 (by omega)));simp only[kqx,sW,sK,nV] at e0 e1 e2 e3 e4 e5 e6 e7 e8 e9;have HNX:=hide (fun (w':World) (ps:Value) (hf:Nm w' B b tab ps ((wV tab) a0 (m.vars[k]))) (hw:Kept B W w')=>kv4.next (W:=W) (wr:=w') (B:=B) (b:=b) (tab:=tab) (g:=(wV tab)) (items:=m.vars) (z0:=(wt2 tab m)) (a:=a0) hlt (ku HFO) hf hw);have hns:=hszz.vars _ (rJ hlt);have hnn:=hnmm.vars _ (rJ hlt);have hwB:=wX (ku HN0).nm;generalize m.vars[k]=p at e0 e1 e2 e3 e4 e5 e6 e7 e8 e9 HNX hns hnn;clear hc fl hkp HFO;go_wp2_with fail
       refine (kwm _ B b tab ps0 a0 p.name ((ku HN0).alloc _) hns).mono ?_;rintro e w1 ⟨rfl,h1,hk1⟩;have hv1:=hk1.row (b:=wr.heap.size) (by omega) (qy _ _);have HK1:=hide ((Kept.kq5 _).trans hk1);have HN1:=hide h1;have HV1:=hide hv1;obtain ⟨⟨g0,g1,g2,g3,g4,g5,g6,g7,g8,g9⟩,_⟩:=kk5 hv1;have HVT:=hide (zwl w1 B b tab ps0 _ p h1 hnn.1 hnn.2);unfold vrV kqx at HVT;clear h1 hk1 hv1 e0 e1 e2 e3 e4 e5 e6 e7 e8 e9;go_wp2_with fail
       refine (ku HVT).mono ?_;rintro e w2 ⟨rfl,h2,hk2⟩;have HK2:=hide ((ku HK1).trans hk2);have HN2:=hide h2;clear h2 hk2 HVT;have HN:=hide (ku HNX _ _ (ku HN2) ((ku HK).trans (ku HK2)));clear HNX;go_wp2
       go_roundw
       case rel=>exact ku HN
       case measure=>simp[intOf];omega
      ·have hd:=qw0 hlt (ku HFO);rw[hd] at HN0;have hbx:=hkp.row (b:=w.heap.size) (by omega) (ku HBX);obtain ⟨_,_,_,qx,_,_⟩:=zo hbx;have HR3:=hide (show kv4 W B b tab (wR tab) m.rules (wt3 tab m) (.int .i64 0) wr from kv4.start (ku HN0) (ku HK));clear hd hbx hkp HN0 HK HFO;go_wp2_with fail
       go_loopw [15,68] (fun _ i wr=>kv4 W B b tab (wR tab) m.rules (wt3 tab m) i wr) (fun _ i _=>m.rules.length-(intOf i).toNat)
       case atStart=>exact ku HR3
       case round=>
        obtain ⟨k,a0,ps0,hk,rfl,hfo,hnm,hkp⟩:=hrel;have HFO:=hide hfo;have HN0:=hide hnm;have HK:=hide hkp;have hsz:=hkp.size;clear hfo hnm HR3;by_cases hlt:k<m.rules.length
        ·obtain ⟨g,rfl,hg1,hg2,hc⟩:=ku HW3 k hlt;have hgB:g≠B:=by omega
         obtain ⟨pa,pn,pc,gp,ba,bn,bc,bcs,⟨fl0,fl1,fl2,fl3,fl4⟩,hi1,hi2,hi3,hi4⟩:=zyw k hlt (ku HC3);have e0:=hkp.cell (a:=⟨g,k * 5,none⟩) hgB ((hc (k * 5) (by omega)).trans fl0);have e1:=hkp.cell (a:=⟨g,k * 5+1,none⟩) hgB ((hc (k * 5+1) (by omega)).trans fl1);have e2:=hkp.cell (a:=⟨g,k * 5+2,none⟩) hgB ((hc (k * 5+2) (by omega)).trans fl2);have e3:=hkp.cell (a:=⟨g,k * 5+3,none⟩) hgB ((hc (k * 5+3) (by omega)).trans fl3);have e4:=hkp.cell (a:=⟨g,k * 5+4,none⟩) hgB ((hc (k * 5+4) (by omega)).trans fl4);have HNX:=hide (fun (w':World) (ps:Value) (hf:Nm w' B b tab ps ((wR tab) a0 (m.rules[k]))) (hw:Kept B W w')=>kv4.next (W:=W) (wr:=w') (B:=B) (b:=b) (tab:=tab) (g:=(wR tab)) (items:=m.rules) (z0:=(wt3 tab m)) (a:=a0) hlt (ku HFO) hf hw);have hns:=hszz.rules _ (rJ hlt);have hnn:=hnmm.rules _ (rJ hlt);have HI:=hide (⟨yt hi1 (ku HNW).nm (by decide) hkp,XIs.nm (ku HNW).nm (by decide) hkp hi2,yt hi3 (ku HNW).nm (by decide) hkp,BIs.nm (ku HNW).nm (by decide) (by decide) hkp hi4⟩:wr.ownsRow lo 352 4 (.slice pa pn pc) (m.rules[k]).params.length (jw (m.rules[k]).params)∧XIs lo wr (m.rules[k]).guard (.pointer gp)∧wr.ownsRow lo 334 9 (.slice ba bn bc) (uz (m.rules[k]).body) bcs∧BIs lo none wr (m.rules[k]).body bcs);have hwB:=wX (ku HN0).nm;clear hi1 hi2 hi3 hi4;generalize m.rules[k]=p at e0 e1 e2 e3 e4 HNX hns hnn HI;clear hc fl0 fl1 fl2 fl3 fl4 hkp HFO;go_wp2_with fail
         refine (kwm _ B b tab ps0 a0 p.name ((ku HN0).alloc _) hns).mono ?_;rintro e w1 ⟨rfl,h1,hk1⟩;have hv1:=hk1.row (b:=wr.heap.size) (by omega) (qy _ _);have HK1:=hide ((Kept.kq5 _).trans hk1);have HN1:=hide h1;have HV1:=hide hv1;obtain ⟨_,_,g2,_,_,_⟩:=zo hv1;have HEN:=hide (zv3 w1 B b lo tab p.params ps0 pa pn pc _ h1 (yt ((ku HI).1.alloc _) ((ku HN0).alloc _).nm (by decide) hk1) hnn.1 hnn.2.1);clear h1 hk1 hv1 e0 e1 e2 e3 e4;go_wp2_with fail
         refine (ku HEN).mono ?_;rintro e w2 ⟨rfl,h2,hk2⟩;have hv2:=hk2.row (b:=wr.heap.size) (by omega) (ku HV1);obtain ⟨_,_,_,g3,_,_⟩:=zo hv2;have HV2:=hide hv2;have HK2:=hide ((ku HK1).trans hk2);have HN2:=hide h2;clear h2 hk2 HEN g2 hv2 HV1 HK1 HN1;go_wp2_with fail
         refine (kwb p.guard w2 B b lo lo tab p.params pa pn pc _ _ (ku HN2) (yt (ku HI).1 (ku HN0).nm (by decide) (ku HK2)) hnn.1 (XIs.nm (ku HN0).nm (by decide) (ku HK2) (ku HI).2.1) hnn.2.2.1).mono ?_;rintro e w3 ⟨rfl,h3,hk3⟩;have hv3:=hk3.row (b:=wr.heap.size) (by omega) (ku HV2);have HV3:=hide hv3;have HK3:=hide ((ku HK2).trans hk3);have HN3:=hide h3;obtain ⟨_,_,_,_,g4,_⟩:=zo hv3;clear h3 hk3 g3 hv3 HV2 HK2 HN2;go_wp2_with fail
         refine (jzh p.body w3 B b lo lo none tab p.params pa pn pc _ _ bcs (ku HN3) (yt (ku HI).1 (ku HN0).nm (by decide) (ku HK3)) hnn.1 (yt (ku HI).2.2.1 (ku HN0).nm (by decide) (ku HK3)) (BIs.nm (ku HN0).nm (by decide) (by decide) (ku HK3) (ku HI).2.2.2) hnn.2.2.2.1 hnn.2.2.2.2.1 hnn.2.2.2.2.2).mono ?_;rintro e w4 ⟨rfl,h4,hk4⟩;have HK4:=hide ((ku HK3).trans hk4);have HN4:=hide h4;clear h4 hk4 g4 HV3 HK3 HN3;have HN:=hide (ku HNX _ _ (ku HN4) ((ku HK).trans (ku HK4)));clear HNX;go_wp2
         go_roundw
         case rel=>exact ku HN
         case measure=>simp[intOf];omega
        ·have hd:=qw0 hlt (ku HFO);rw[hd] at HN0;have hbx:=hkp.row (b:=w.heap.size) (by omega) (ku HBX);obtain ⟨_,_,_,_,qx,_⟩:=zo hbx;have HR4:=hide (show kv4 W B b tab (wN tab) m.nevers (wt4 tab m) (.int .i64 0) wr from kv4.start (ku HN0) (ku HK));clear hd hbx hkp HN0 HK HFO;go_wp2_with fail
         go_loopw [17,88] (fun _ i wr=>kv4 W B b tab (wN tab) m.nevers (wt4 tab m) i wr) (fun _ i _=>m.nevers.length-(intOf i).toNat)
         case atStart=>exact ku HR4
         case round=>
          obtain ⟨k,a0,ps0,hk,rfl,hfo,hnm,hkp⟩:=hrel;have HFO:=hide hfo;have HN0:=hide hnm;have HK:=hide hkp;have hsz:=hkp.size;clear hfo hnm HR4;by_cases hlt:k<m.nevers.length
          ·obtain ⟨g,rfl,hg1,hg2,hc⟩:=ku HW4 k hlt;have hgB:g≠B:=by omega
           obtain ⟨pa,pn,pc,gp,⟨fl0,fl1,fl2,fl3⟩,hi1,hi2⟩:=zyi k hlt (ku HC4);have e0:=hkp.cell (a:=⟨g,k * 4,none⟩) hgB ((hc (k * 4) (by omega)).trans fl0);have e1:=hkp.cell (a:=⟨g,k * 4+1,none⟩) hgB ((hc (k * 4+1) (by omega)).trans fl1);have e2:=hkp.cell (a:=⟨g,k * 4+2,none⟩) hgB ((hc (k * 4+2) (by omega)).trans fl2);have e3:=hkp.cell (a:=⟨g,k * 4+3,none⟩) hgB ((hc (k * 4+3) (by omega)).trans fl3);have HNX:=hide (fun (w':World) (ps:Value) (hf:Nm w' B b tab ps ((wN tab) a0 (m.nevers[k]))) (hw:Kept B W w')=>kv4.next (W:=W) (wr:=w') (B:=B) (b:=b) (tab:=tab) (g:=(wN tab)) (items:=m.nevers) (z0:=(wt4 tab m)) (a:=a0) hlt (ku HFO) hf hw);have hns:=hszz.nevers _ (rJ hlt);have hnn:=hnmm.nevers _ (rJ hlt);have HI:=hide (⟨yt hi1 (ku HNW).nm (by decide) hkp,XIs.nm (ku HNW).nm (by decide) hkp hi2⟩:wr.ownsRow lo 352 4 (.slice pa pn pc) (m.nevers[k]).params.length (jw (m.nevers[k]).params)∧XIs lo wr (m.nevers[k]).guard (.pointer gp));have hwB:=wX (ku HN0).nm;clear hi1 hi2;generalize m.nevers[k]=p at e0 e1 e2 e3 HNX hns hnn HI;clear hc fl0 fl1 fl2 fl3 hkp HFO;go_wp2_with fail
           refine (kwm _ B b tab ps0 a0 p.name ((ku HN0).alloc _) hns).mono ?_;rintro e w1 ⟨rfl,h1,hk1⟩;have hv1:=hk1.row (b:=wr.heap.size) (by omega) (qy _ _);have HK1:=hide ((Kept.kq5 _).trans hk1);have HN1:=hide h1;have HV1:=hide hv1;obtain ⟨_,_,g2,_,_⟩:=kx8 hv1;have HEN:=hide (zv3 w1 B b lo tab p.params ps0 pa pn pc _ h1 (yt ((ku HI).1.alloc _) ((ku HN0).alloc _).nm (by decide) hk1) hnn.1 hnn.2.1);clear h1 hk1 hv1 e0 e1 e2 e3;go_wp2_with fail
           refine (ku HEN).mono ?_;rintro e w2 ⟨rfl,h2,hk2⟩;have hv2:=hk2.row (b:=wr.heap.size) (by omega) (ku HV1);obtain ⟨_,_,_,g3,_⟩:=kx8 hv2;have HV2:=hide hv2;have HK2:=hide ((ku HK1).trans hk2);have HN2:=hide h2;clear h2 hk2 HEN g2 hv2 HV1 HK1 HN1;go_wp2_with fail
           refine (kwb p.guard w2 B b lo lo tab p.params pa pn pc _ _ (ku HN2) (yt (ku HI).1 (ku HN0).nm (by decide) (ku HK2)) hnn.1 (XIs.nm (ku HN0).nm (by decide) (ku HK2) (ku HI).2) hnn.2.2).mono ?_;rintro e w3 ⟨rfl,h3,hk3⟩;have hv3:=hk3.row (b:=wr.heap.size) (by omega) (ku HV2);have HV3:=hide hv3;have HK3:=hide ((ku HK2).trans hk3);have HN3:=hide h3;clear h3 hk3 g3 hv3 HV2 HK2 HN2;have HN:=hide (ku HNX _ _ (ku HN3) ((ku HK).trans (ku HK3)));clear HNX;go_wp2
           go_roundw
           case rel=>exact ku HN
           case measure=>simp[intOf];omega
          ·have hd:=qw0 hlt (ku HFO);rw[hd] at HN0;have hbx:=hkp.row (b:=w.heap.size) (by omega) (ku HBX);have hrs:=hkp.row (b:=w.heap.size+1) (by omega) (ku HRS);obtain ⟨_,_,s2,s3,_⟩:=(ku HN0).cells;obtain ⟨t0,t1,t2,t3⟩:=yj hrs;have HRS2:=hide hrs;clear hd hbx HFO hrs;go_wp2
           refine rY (v:=.agg #[.bool (decide (0≤kkg tab m)),.int .i64 (fAt (kkg tab m))]) (rZ Tryz.results93 _ _ (w.heap.size+1) _ _ _ _ rfl (set2 (ku HRS2) _ _) Tryz.underlying199 rfl (by kernel_rfl)) rfl ?_;refine ⟨rfl,?_⟩;exact (((ku HBW).trans (Kept.toBelow (B:=w.heap.size) (ku HK) (by omega) (by omega))).setCell (by simp) _).setCell (by simp) _
end Go.Proofs.YtpmcnonmkghokaaGreatDoor

import Derived.Test.YtpmcnonmkghokaaGreatDoorT07
import Derived.Maps.Own
set_option maxRecDepth 100000
set_option maxHeartbeats 8000000
set_option linter.unusedVariables false
set_option linter.unusedSimpArgs false
namespace Go.Proofs.YtpmcnonmkghokaaGreatDoor
open Go.RowKit
def fAt (z:Int):Int:=if z<0 then 0 else z
def kyb (w:World)(B o:Nat)(z a:Int):World:=if z<0∨a<z then (w.setCell ⟨B,o,none⟩ (.bool true)).setCell ⟨B,o+1,none⟩ (.int .i64 a) else w
theorem note_any (w:World)(B o:Nat)(z a:Int)(c0:w.cell? ⟨B,o,none⟩=some (.bool (decide (0≤z))))(c1:w.cell? ⟨B,o+1,none⟩=some (.int .i64 (fAt z)))(f0:w.frozen? ⟨B,o,none⟩=false)(f1:w.frozen? ⟨B,o+1,none⟩=false) :
  Calls Tryz.prog 212 #[.pointer (some ⟨B,o,none⟩),.int .i64 a] w fun e w'=>e=.returned (.tuple #[])∧w'=kyb w B o z a:=by
 by_cases hz:z<0
 ·have E:=hide (show kyb w B o z a=(w.setCell ⟨B,o,none⟩ (.bool true)).setCell ⟨B,o+1,none⟩ (.int .i64 a) by unfold kyb;rw[if_pos (Or.inl hz)]);rw[show decide (0≤z)=false by simp;omega] at c0;go_enter Tryz.func212,Tryz.ntmps212
  go_wp2
  go_end0
  rw[ku E];exact ⟨rfl,rfl⟩
 ·rw[show decide (0≤z)=true by simp;omega] at c0;rw[show fAt z=z by unfold fAt;rw[if_neg hz]] at c1;by_cases ha:a<z
  ·have E:=hide (show kyb w B o z a=(w.setCell ⟨B,o,none⟩ (.bool true)).setCell ⟨B,o+1,none⟩ (.int .i64 a) by unfold kyb;rw[if_pos (Or.inr ha)]);go_enter Tryz.func212,Tryz.ntmps212
   go_wp2
   go_end0
   rw[ku E];exact ⟨rfl,rfl⟩
  ·have E:=hide (show kyb w B o z a=w by unfold kyb;rw[if_neg (by omega)]);go_enter Tryz.func212,Tryz.ntmps212
   go_wp2
   go_end0
   rw[ku E];exact ⟨rfl,rfl⟩
def FB (w:World)(B:Nat)(z:Int):Prop:=w.heap[B]?=some (.cells #[.bool (decide (0≤z)),.int .i64 (fAt z)] 199 (0,0))
theorem qyf (z a:Int)(ha:0≤a):uf z a=if z<0∨a<z then a else z:=by
 unfold uf;by_cases h:z<0∨a<z
 ·rw[if_pos h,if_pos (by omega)]
 ·rw[if_neg h,if_neg (by omega)]
theorem FB.note {w:World}{B:Nat}{z:Int}(h:FB w B z){a:Int}(ha:0≤a):FB (kyb w B 0 z a) B (uf z a):=by
 unfold FB at *;rw[qyf z a ha];unfold kyb;by_cases hh:z<0∨a<z
 ·rw[if_pos hh,if_pos hh];have:=set2 h (.bool true) (.int .i64 a);rw[show decide (0≤a)=true by simp;omega,show fAt a=a by unfold fAt;rw[if_neg (by omega)]];exact this
 ·rw[if_neg hh,if_neg hh];exact h
theorem Kept.note (B o:Nat)(w:World)(z a:Int):Kept B w (kyb w B o z a):=by
 unfold kyb;split
 ·exact ((Kept.refl _ _).kki _ _).kki _ _
 ·exact Kept.refl _ _
theorem FB.kept {w w':World}{B:Nat}{z:Int}(h:FB w B z)(hb:Below w.heap.size w w'):FB w' B z:=by
 unfold FB at *;rw[hb.block B (wX h)];exact h
def qq0 (z:Int)(n:Int)(most:Int)(t:Tok):Int:=if most≤n then uf z t.at_ else z
def jz0 (z:Int)(t:Tok)(lo hi:Int):Int:=if gu t.text<lo∨hi<gu t.text then uf z t.at_ else z
theorem count_any (w:World)(B:Nat)(z n most:Int)(t:Tok)(h:FB w B z) :
  Calls Tryz.prog 153 #[.pointer (some ⟨B,0,none⟩),.int .i64 n,.int .i64 most,ptV t] w fun e w'=>e=.returned (.tuple #[])∧FB w' B (qq0 z n most t)∧Kept B w w':=by
 unfold ptV;have hl:=wX h;by_cases hm:most≤n
 ·have E:=hide (show qq0 z n most t=uf z t.at_ by unfold qq0;rw[if_pos hm]);have h1:FB (w.alloc (.cells #[.string t.text,.int .i64 t.at_] 107)) B z:=h.kept (below_alloc1 _ _);obtain ⟨c0,c1,f0,f1⟩:=yj h1;have H1:=hide h1;go_enter Tryz.func153,Tryz.ntmps153
  go_wp2_with fail
  refine (note_any _ B 0 z t.at_ c0 c1 f0 f1).mono ?_;rintro e w1 ⟨rfl,hw⟩;subst hw;go_wp2
  go_end0
  rw[ku E];exact ⟨rfl,(ku H1).note (by omega),(Kept.kq5 _).trans (Kept.note _ _ _ _ _)⟩
 ·have E:=hide (show qq0 z n most t=z by unfold qq0;rw[if_neg hm]);go_enter Tryz.func153,Tryz.ntmps153
  go_wp2
  go_end0
  rw[ku E];exact ⟨rfl,h.kept (below_alloc1 _ _),Kept.kq5 _⟩
theorem size_any (w:World)(B:Nat)(z lo hi:Int)(t:Tok)(h:FB w B z) :
  Calls Tryz.prog 154 #[.pointer (some ⟨B,0,none⟩),dgV t,.int .i64 lo,.int .i64 hi] w fun e w'=>e=.returned (.tuple #[])∧FB w' B (jz0 z t lo hi)∧Kept B w w':=by
 unfold dgV;have hl:=wX h;have h1:FB (w.alloc (.cells #[.int .i64 (gu t.text),.int .i64 t.at_] 109)) B z:=h.kept (below_alloc1 _ _);obtain ⟨c0,c1,f0,f1⟩:=yj h1;have H1:=hide h1;have HN:=hide (note_any _ B 0 z t.at_ c0 c1 f0 f1);have E:=hide (show jz0 z t lo hi=if gu t.text<lo∨hi<gu t.text then uf z t.at_ else z from rfl);generalize gu t.text=d at *;clear h1 c0 c1 f0 f1;by_cases h1:d<lo
 ·rw[if_pos (Or.inl h1)] at E;go_enter Tryz.func154,Tryz.ntmps154
  go_wp2_with fail
  refine (ku HN).mono ?_;rintro e w1 ⟨rfl,hw⟩;subst hw;go_wp2
  go_end0
  rw[ku E];exact ⟨rfl,(ku H1).note (by omega),(Kept.kq5 _).trans (Kept.note _ _ _ _ _)⟩
 ·by_cases h2:hi<d
  ·rw[if_pos (Or.inr h2)] at E;go_enter Tryz.func154,Tryz.ntmps154
   go_wp2_with fail
   refine (ku HN).mono ?_;rintro e w1 ⟨rfl,hw⟩;subst hw;go_wp2
   go_end0
   rw[ku E];exact ⟨rfl,(ku H1).note (by omega),(Kept.kq5 _).trans (Kept.note _ _ _ _ _)⟩
  ·rw[if_neg (by omega)] at E;go_enter Tryz.func154,Tryz.ntmps154
   go_wp2
   go_end0
   rw[ku E];exact ⟨rfl,ku H1,Kept.kq5 _⟩
theorem zq {w:World}{lo e size:Nat}{v:Value}{n:Nat}{xs:List Value}(h:w.ownsRow lo e size v n xs) :
  ∃ a cap,v=.slice a n cap∧∀ i,i<n→∃ g,a=some ⟨g,0,none⟩∧lo≤g∧g<w.heap.size∧∀ j,j<n * size→w.cell? ⟨g,j,none⟩=xs[j]?:=by
 rcases h.2 with ⟨rfl,rfl⟩|⟨g,cap,cur,rfl,hg,hh,h3,h4,h5,h6⟩
 ·exact ⟨none,0,rfl,fun i hi=>by omega⟩
 ·refine ⟨_,cap,rfl,fun i hi=>⟨g,rfl,hg,wX hh,fun j hj=>?_⟩⟩;rw[rD w g j _ _ _ hh,←h6,Qq hj];simp
def kkj {α:Type}(W:World)(B:Nat)(f:Int→Nat→α→Int)(items:List α)(z0:Int)(i:Value)(wr:World):Prop:=
 ∃ (k:Nat) (a:Int),k≤items.length∧i=.int .i64 k∧gy f (items.drop k) k a=gy f items 0 z0∧FB wr B a∧Kept B W wr
theorem kkj.start {α:Type}{W wr:World}{B:Nat}{f:Int→Nat→α→Int}{items:List α}{z:Int}(hf:FB wr B z)(hk:Kept B W wr):kkj W B f items z (.int .i64 0) wr:=
 ⟨0,z,tu _,rfl,rfl,hf,hk⟩
theorem kkj.next {α:Type}{W wr:World}{B:Nat}{f:Int→Nat→α→Int}{items:List α}{z a:Int}{k:Nat}(hk:k<items.length)(h:gy f (items.drop k) k a=gy f items 0 z)(hf:FB wr B (f a k items[k]))(hw:Kept B W wr) :
  kkj W B f items z (.int .i64 ((k:Int)+1)) wr:=by
 refine ⟨k+1,_,hk,by go_num,?_,hf,hw⟩;rw[sQ hk,gy] at h;exact h
def jxg (a:Int)(i:Nat)(p:PP):Int:=qq0 a i 2 p.name
theorem qjf (w:World)(B lo:Nat)(z:Int)(l:List PP)(x:Value)(h:FB w B z)(hl:l.length≤1000)(ho:w.ownsRow lo 352 4 x l.length (jw l))(hB:x.ownBlock≠some B) :
  Calls Tryz.prog 155 #[.pointer (some ⟨B,0,none⟩),x] w fun e w'=>e=.returned (.tuple #[])∧FB w' B (gy jxg l 0 z)∧Kept B w w':=by
 obtain ⟨xa,cap,rfl,hview⟩:=zq ho;have HW:=hide hview;have H:=hide h;clear hview h;go_enter Tryz.func155,Tryz.ntmps155
 go_wp2_with fail
 go_loopw [4,5,8] (fun _ _ i wr=>kkj w B jxg l z i wr) (fun _ _ i _=>l.length-(intOf i).toNat)
 case atStart=>exact kkj.start (ku H) (Kept.refl _ _)
 case round=>
  obtain ⟨k,a,hk,rfl,hfo,hfb,hkp⟩:=hrel;have HFO:=hide hfo;have HFB:=hide hfb;have HK:=hide hkp;have hsz:=hkp.size;clear hfo hfb;by_cases hlt:k<l.length
  ·obtain ⟨g,rfl,hg1,hg2,hc⟩:=ku HW k hlt;have hgB:g≠B:=fun e=>hB (by simp[Value.ownBlock,e])
   have fl:=fun j (hj:j<4)=>kjx kjr 4 (fun _=>rfl) l k j hlt hj
   have e0:=hkp.cell (a:=⟨g,k * 4+0,none⟩) hgB ((hc (k * 4+0) (by omega)).trans (fl 0 (by omega)));have e1:=hkp.cell (a:=⟨g,k * 4+1,none⟩) hgB ((hc (k * 4+1) (by omega)).trans (fl 1 (by omega)));have e2:=hkp.cell (a:=⟨g,k * 4+2,none⟩) hgB ((hc (k * 4+2) (by omega)).trans (fl 2 (by omega)));have e3:=hkp.cell (a:=⟨g,k * 4+3,none⟩) hgB ((hc (k * 4+3) (by omega)).trans (fl 3 (by omega)));have HNX:=hide (fun (w':World) (hf:FB w' B (qq0 a k 2 (l[k]).name)) (hw:Kept B w w')=>kkj.next (W:=w) (wr:=w') (B:=B) (f:=jxg) (items:=l) (z:=z) (a:=a) hlt (ku HFO) hf hw);simp only[kjr,sW,sK,nV] at e0 e1 e2 e3;generalize l[k]=p at e0 e1 e2 e3 HNX;clear hc fl hkp HFO;go_wp2_with fail
   refine (count_any _ B a k 2 p.name ((ku HFB).kept (below_alloc1 _ _))).mono ?_;rintro e w1 ⟨rfl,h1,hk1⟩;have HN:=hide (ku HNX _ h1 (((ku HK).alloc _).trans hk1));clear h1 hk1 HNX;go_wp2
   go_roundw
   case rel=>exact ku HN
   case measure=>simp[intOf];omega
  ·have hd:=kvw hlt (ku HFO);go_wp2
   go_end0
   rw[←hd];exact ⟨rfl,ku HFB,ku HK⟩
theorem zz4 {lo:Nat}{w:World}:∀ {ks:List PKind} {cs:List Value} (i:Nat) (hi:i<ks.length),kxu lo w ks cs →
  ∃ ma mn mc,cs[i * 3]?=some (.string (ks[i]).name.text)∧cs[i * 3+1]?=some (.int .i64 (ks[i]).name.at_)∧cs[i * 3+2]?=some (.slice ma mn mc)∧w.ownsRow lo 107 2 (.slice ma mn mc) (ks[i]).members.length (bf (ks[i]).members)
 | [],_,i,hi,_=>by simp at hi
 | k::ks,cs,0,_,⟨ma,mn,mc,rest,e,h1,h2⟩=>by subst e;exact ⟨ma,mn,mc,rfl,rfl,rfl,h1⟩
 | k::ks,cs,i+1,hi,⟨ma,mn,mc,rest,e,h1,h2⟩=>by
  subst e;obtain ⟨a,b,c,q0,q1,q2,q3⟩:=zz4 i (by simpa using hi) h2;refine ⟨a,b,c,?_,?_,?_,q3⟩
  ·rw[show (i+1) * 3=i * 3+3 by omega,rC (by simp)];simpa using q0
  ·rw[show (i+1) * 3+1=i * 3+1+3 by omega,rC (by simp)];simpa using q1
  ·rw[show (i+1) * 3+2=i * 3+2+3 by omega,rC (by simp)];simpa using q2
theorem zyw {lo:Nat}{w:World}:∀ {rs:List PRule} {cs:List Value} (i:Nat) (hi:i<rs.length),kxv lo w rs cs →
  ∃ pa pn pc gp ba bn bc bcs,(cs[i * 5]?=some (.string (rs[i]).name.text)∧cs[i * 5+1]?=some (.int .i64 (rs[i]).name.at_)∧cs[i * 5+2]?=some (.slice pa pn pc)∧cs[i * 5+3]?=some (.pointer gp)∧cs[i * 5+4]?=some (.slice ba bn bc)) ∧
   w.ownsRow lo 352 4 (.slice pa pn pc) (rs[i]).params.length (jw (rs[i]).params)∧XIs lo w (rs[i]).guard (.pointer gp)∧w.ownsRow lo 334 9 (.slice ba bn bc) (uz (rs[i]).body) bcs∧BIs lo none w (rs[i]).body bcs
 | [],_,i,hi,_=>by simp at hi
 | r::rs,cs,0,_,⟨pa,pn,pc,gp,ba,bn,bc,bcs,rest,e,h1,h2,h3,h4,h5⟩=>by subst e;exact ⟨pa,pn,pc,gp,ba,bn,bc,bcs,⟨rfl,rfl,rfl,rfl,rfl⟩,h1,h2,h3,h4⟩
 | r::rs,cs,i+1,hi,⟨pa,pn,pc,gp,ba,bn,bc,bcs,rest,e,h1,h2,h3,h4,h5⟩=>by
  subst e;obtain ⟨a1,a2,a3,a4,a5,a6,a7,a8,⟨q0,q1,q2,q3,q4⟩,r1⟩:=zyw i (by simpa using hi) h5;refine ⟨a1,a2,a3,a4,a5,a6,a7,a8,⟨?_,?_,?_,?_,?_⟩,r1⟩
  ·rw[show (i+1) * 5=i * 5+5 by omega,rC (by simp)];simpa using q0
  ·rw[show (i+1) * 5+1=i * 5+1+5 by omega,rC (by simp)];simpa using q1
  ·rw[show (i+1) * 5+2=i * 5+2+5 by omega,rC (by simp)];simpa using q2
  ·rw[show (i+1) * 5+3=i * 5+3+5 by omega,rC (by simp)];simpa using q3
  ·rw[show (i+1) * 5+4=i * 5+4+5 by omega,rC (by simp)];simpa using q4
theorem zyi {lo:Nat}{w:World}:∀ {rs:List PRule} {cs:List Value} (i:Nat) (hi:i<rs.length),kxw lo w rs cs →
  ∃ pa pn pc gp,(cs[i * 4]?=some (.string (rs[i]).name.text)∧cs[i * 4+1]?=some (.int .i64 (rs[i]).name.at_)∧cs[i * 4+2]?=some (.slice pa pn pc)∧cs[i * 4+3]?=some (.pointer gp)) ∧
   w.ownsRow lo 352 4 (.slice pa pn pc) (rs[i]).params.length (jw (rs[i]).params)∧XIs lo w (rs[i]).guard (.pointer gp)
 | [],_,i,hi,_=>by simp at hi
 | r::rs,cs,0,_,⟨pa,pn,pc,gp,rest,e,h1,h2,h5⟩=>by subst e;exact ⟨pa,pn,pc,gp,⟨rfl,rfl,rfl,rfl⟩,h1,h2⟩
 | r::rs,cs,i+1,hi,⟨pa,pn,pc,gp,rest,e,h1,h2,h5⟩=>by
  subst e;obtain ⟨a1,a2,a3,a4,⟨q0,q1,q2,q3⟩,r1⟩:=zyi i (by simpa using hi) h5;refine ⟨a1,a2,a3,a4,⟨?_,?_,?_,?_⟩,r1⟩
  ·rw[show (i+1) * 4=i * 4+4 by omega,rC (by simp)];simpa using q0
  ·rw[show (i+1) * 4+1=i * 4+1+4 by omega,rC (by simp)];simpa using q1
  ·rw[show (i+1) * 4+2=i * 4+2+4 by omega,rC (by simp)];simpa using q2
  ·rw[show (i+1) * 4+3=i * 4+3+4 by omega,rC (by simp)];simpa using q3
def pS (a:Int)(i:Nat)(s:PSet):Int:=jz0 (qq0 a i 2 s.name) s.size 2 3
def pM (a:Int)(i:Nat)(m:Tok):Int:=qq0 a i 4 m
def pK (a:Int)(i:Nat)(k:PKind):Int:=gy pM k.members 0 (qq0 a i 2 k.name)
def pV (a:Int)(i:Nat)(v:VrT):Int:=if v.si.form==1 then jz0 (qq0 a i 4 v.name) v.si.top 1 3 else qq0 a i 4 v.name
def pR (a:Int)(i:Nat)(r:PRule):Int:=gy jxg r.params 0 (qq0 a i 5 r.name)
def pN (a:Int)(i:Nat)(r:PRule):Int:=gy jxg r.params 0 (qq0 a i 3 r.name)
def pm1 (m:MdL):Int:=gy pS m.sets 0 (-1)
def pm2 (m:MdL):Int:=gy pK m.kinds 0 (pm1 m)
def pm3 (m:MdL):Int:=gy pV m.vars 0 (pm2 m)
def pm4 (m:MdL):Int:=gy pR m.rules 0 (pm3 m)
def kvq (m:MdL):Int:=gy pN m.nevers 0 (pm4 m)
structure MdOk (m:MdL):Prop where
 sets:m.sets.length≤1000
 kinds:m.kinds.length≤1000
 vars:m.vars.length≤1000
 rules:m.rules.length≤1000
 nevers:m.nevers.length≤1000
 members:∀ k∈m.kinds,k.members.length≤1000
 params:∀ r∈m.rules++m.nevers,r.params.length≤1000
theorem zva (w:World)(lo:Nat)(x0 x1 x2 x3 x4:Value)(m:MdL)(h:kky lo w x0 x1 x2 x3 x4 m)(hok:MdOk m) :
  Calls Tryz.prog 91 #[.agg #[x0,x1,x2,x3,x4]] w fun e w'=>e=.returned (.agg #[.bool (decide (0≤kvq m)),.int .i64 (fAt (kvq m))])∧Below w.heap.size w w':=by
 obtain ⟨h0,⟨c1,h1,k1⟩,h2,⟨c3,h3,k3⟩,⟨c4,h4,k4⟩⟩:=h;have l0:=kqa h0;have l1:=kqa h1;have l2:=kqa h2;have l3:=kqa h3;have l4:=kqa h4;obtain ⟨hok0,hok1,hok2,hok3,hok4,hok5,hok6⟩:=hok;have hok:MdOk m:=⟨hok0,hok1,hok2,hok3,hok4,hok5,hok6⟩;obtain ⟨W,hW⟩:∃ W,W=((w.alloc (.cells #[x0,x1,x2,x3,x4] 68)).alloc (.cells #[.bool false,.int .i64 0] 199)).alloc (.cells #[.bool false,.int .i64 0] 199):=⟨_,rfl⟩;have hbW:Below w.heap.size w W:=by
  rw[hW];exact ((below_alloc1 w _).trans ((below_alloc1 _ _).mono (by simp))).trans ((below_alloc1 _ _).mono (by simp;omega))
 have hsW:W.heap.size=w.heap.size+3:=by rw[hW];simp
 obtain ⟨B,hB⟩:∃ B,B=w.heap.size+1+1:=⟨_,rfl⟩;have HWE:=hide hW.symm;have HBX:=hide (show W.heap[w.heap.size]?=some (.cells #[x0,x1,x2,x3,x4] 68 (0,0)) by rw[hW];exact qp (qp (qy _ _)));have HB0:=hide (show W.heap[w.heap.size+1]?=some (.cells #[.bool false,.int .i64 0] 199 (0,0)) by
  rw[hW];have:=qy (w.alloc (.cells #[x0,x1,x2,x3,x4] 68)) (.cells #[.bool false,.int .i64 0] 199);simp only[tJ] at this;exact qp this)
 have HFW:=hide (show FB W B (-1) by
  rw[hW,hB];have:=qy ((w.alloc (.cells #[x0,x1,x2,x3,x4] 68)).alloc (.cells #[.bool false,.int .i64 0] 199)) (.cells #[.bool false,.int .i64 0] 199);simp only[tJ] at this;exact this)
 have st:∀ k,lo≤k→k<w.heap.size→W.heap[k]?=w.heap[k]?:=fun k _ hk=>hbW.block k hk
 have vw:∀ {e size:Nat} {v:Value} {n:Nat} {xs:List Value},w.ownsRow lo e size v n xs→∃ a cap,v=.slice a n cap∧∀ i,i<n→∃ g,a=some ⟨g,0,none⟩∧lo≤g∧g<w.heap.size∧∀ j,j<n * size→W.cell? ⟨g,j,none⟩=xs[j]?:=by
  intro e size v n xs h;obtain ⟨a,cap,e1,hv⟩:=zq h;refine ⟨a,cap,e1,fun i hi=>?_⟩;obtain ⟨g,q1,q2,q3,q4⟩:=hv i hi;exact ⟨g,q1,q2,q3,fun j hj=>(hbW.cell (p:=⟨g,j,none⟩) q3).trans (q4 j hj)⟩
 have HMem:=hide (fun (v:Value) (n:Nat) (xs:List Value) (h:W.ownsRow lo 107 2 v n xs)=>h);obtain ⟨a0,cp0,rfl,v0⟩:=vw h0;obtain ⟨a1,cp1,rfl,v1⟩:=vw h1;obtain ⟨a2,cp2,rfl,v2⟩:=vw h2;obtain ⟨a3,cp3,rfl,v3⟩:=vw h3;obtain ⟨a4,cp4,rfl,v4⟩:=vw h4;have HW0:=hide v0;have HW1:=hide v1;have HW2:=hide v2;have HW3:=hide v3;have HW4:=hide v4;have HC1:=hide k1;have HC3:=hide k3;have HC4:=hide k4;have HBW:=hide hbW;clear h0 h1 h2 h3 h4 k1 k3 k4 v0 v1 v2 v3 v4 vw HMem l0 l1 l2 l3 l4;have HBE:=hide hB;have hB1:w.heap.size+1<B:=by omega
 have hB2:B<W.heap.size:=by omega
 clear hsW hB hW hbW st hok5 hok6;have HR0:=hide (show kkj W B pS m.sets (-1) (.int .i64 0) W from kkj.start (ku HFW) (Kept.refl _ _));go_enter Tryz.func91,Tryz.ntmps91
 go_wp2_with fail
 rw[ku HWE,←ku HBE];go_loopw [4,5,19] (fun _ _ i wr=>kkj W B pS m.sets (-1) i wr) (fun _ _ i _=>m.sets.length-(intOf i).toNat)
 case atStart=>exact ku HR0
 case round=>
  obtain ⟨k,a,hk,rfl,hfo,hfb,hkp⟩:=hrel;have HFO:=hide hfo;have HFB:=hide hfb;have HK:=hide hkp;have hsz:=hkp.size;clear hfo hfb HR0;by_cases hlt:k<m.sets.length
  ·obtain ⟨g,rfl,hg1,hg2,hc⟩:=ku HW0 k hlt;have hgB:g≠B:=by omega
   have fl:=fun j (hj:j<4)=>kjx qj7 4 (fun _=>rfl) m.sets k j hlt hj
   have e0:=hkp.cell (a:=⟨g,k * 4+0,none⟩) hgB ((hc (k * 4+0) (by omega)).trans (fl 0 (by omega)));have e1:=hkp.cell (a:=⟨g,k * 4+1,none⟩) hgB ((hc (k * 4+1) (by omega)).trans (fl 1 (by omega)));have e2:=hkp.cell (a:=⟨g,k * 4+2,none⟩) hgB ((hc (k * 4+2) (by omega)).trans (fl 2 (by omega)));have e3:=hkp.cell (a:=⟨g,k * 4+3,none⟩) hgB ((hc (k * 4+3) (by omega)).trans (fl 3 (by omega)));simp only[qj7,sW,sK,nV] at e0 e1 e2 e3;have HNX:=hide (fun (w':World) (hf:FB w' B (pS a k (m.sets[k]))) (hw:Kept B W w')=>kkj.next (W:=W) (wr:=w') (B:=B) (f:=pS) (items:=m.sets) (z:=(-1)) (a:=a) hlt (ku HFO) hf hw);generalize m.sets[k]=p at e0 e1 e2 e3 HNX;clear hc fl hkp HFO;go_wp2_with fail
   refine (count_any _ B a k 2 p.name ((ku HFB).kept (below_alloc1 _ _))).mono ?_;rintro e w1 ⟨rfl,h1,hk1⟩;have hv1:=hk1.row (b:=wr.heap.size) (by omega) (qy _ _);have HK1:=hide (((ku HK).alloc _).trans hk1);have hz1:=(ku HK1).size;have H1:=hide h1;clear h1 hk1 e0 e1 e2 e3;obtain ⟨_,_,g2,g3,_⟩:=kx8 hv1;clear hv1;go_wp2_with fail
   refine (size_any _ B _ 2 3 p.size (ku H1)).mono ?_;rintro e w2 ⟨rfl,h2,hk2⟩;have HN:=hide (ku HNX _ h2 ((ku HK1).trans hk2));clear h2 hk2 HNX;go_wp2
   go_roundw
   case rel=>exact ku HN
   case measure=>simp[intOf];omega
  ·have hd:=kvw hlt (ku HFO);rw[hd] at HFB;have hbx:=hkp.row (b:=w.heap.size) (by omega) (ku HBX);obtain ⟨_,qx,_,_,_,_⟩:=zo hbx;have HR1:=hide (show kkj W B pK m.kinds (pm1 m) (.int .i64 0) wr from kkj.start (ku HFB) (ku HK));clear hd hbx hkp HFB HK HFO;go_wp2_with fail
   go_loopw [6,7,8,9,35] (fun _ _ _ _ i wr=>kkj W B pK m.kinds (pm1 m) i wr) (fun _ _ _ _ i _=>m.kinds.length-(intOf i).toNat)
   case atStart=>exact ku HR1
   case round=>
    obtain ⟨k,a,hk,rfl,hfo,hfb,hkp⟩:=hrel;have HFO:=hide hfo;have HFB:=hide hfb;have HK:=hide hkp;have hsz:=hkp.size;clear hfo hfb HR1;by_cases hlt:k<m.kinds.length
    ·obtain ⟨g,rfl,hg1,hg2,hc⟩:=ku HW1 k hlt;have hgB:g≠B:=by omega
     obtain ⟨ma,mn,mc,fl0,fl1,fl2,hm⟩:=zz4 k hlt (ku HC1);have e0:=hkp.cell (a:=⟨g,k * 3,none⟩) hgB ((hc (k * 3) (by omega)).trans fl0);have e1:=hkp.cell (a:=⟨g,k * 3+1,none⟩) hgB ((hc (k * 3+1) (by omega)).trans fl1);have e2:=hkp.cell (a:=⟨g,k * 3+2,none⟩) hgB ((hc (k * 3+2) (by omega)).trans fl2);have HNX:=hide (fun (w':World) (hf:FB w' B (pK a k (m.kinds[k]))) (hw:Kept B W w')=>kkj.next (W:=W) (wr:=w') (B:=B) (f:=pK) (items:=m.kinds) (z:=(pm1 m)) (a:=a) hlt (ku HFO) hf hw);have hml:=hok.members _ (rJ hlt);have HM:=hide hm;generalize m.kinds[k]=p at e0 e1 e2 HNX HM hml;clear hc fl0 fl1 fl2 hm hkp HFO;go_wp2_with fail
     refine (count_any _ B a k 2 p.name ((ku HFB).kept (below_alloc1 _ _))).mono ?_;rintro e w1 ⟨rfl,h1,hk1⟩;have hv1:=hk1.row (b:=wr.heap.size) (by omega) (qy _ _);have HK1:=hide (((ku HK).alloc _).trans hk1);have hz1:=(ku HK1).size;have H1:=hide h1;clear h1 hk1 e0 e1 e2;obtain ⟨_,_,g2,_⟩:=row3 hv1;clear hv1;obtain ⟨mb,mcap,hmeq,hmv⟩:=zq (ku HM);injection hmeq with q1 q2 q3;subst q1;subst q2;subst q3;have HMV:=hide hmv;have hmB:=kqa (ku HM);have HRI:=hide (show kkj W B pM p.members (qq0 a k 2 p.name) (.int .i64 0) w1 from kkj.start (ku H1) (ku HK1));clear hmv H1;go_wp2_with fail
     go_loopw [8,9,47] (fun _ _ i wr=>kkj W B pM p.members (qq0 a k 2 p.name) i wr) (fun _ _ i _=>p.members.length-(intOf i).toNat)
     case atStart=>exact ku HRI
     case round=>
      obtain ⟨k5,a5,hk5,rfl,hfo5,hfb5,hkp5⟩:=hrel;have HFO5:=hide hfo5;have HFB5:=hide hfb5;have HK5:=hide hkp5;have hsz5:=hkp5.size;clear hfo5 hfb5 HRI;by_cases hlt5:k5<p.members.length
      ·obtain ⟨g5,rfl,hg51,hg52,hc5⟩:=ku HMV k5 hlt5;have hgB5:g5≠B:=by omega
       have fl:=fun j (hj:j<2)=>kjx kqq 2 (fun _=>rfl) p.members k5 j hlt5 hj
       have e0:=hkp5.cell (a:=⟨g5,k5 * 2+0,none⟩) hgB5 (((ku HBW).cell (p:=⟨g5,k5 * 2+0,none⟩) hg52).trans ((hc5 (k5 * 2+0) (by omega)).trans (fl 0 (by omega))));have e1:=hkp5.cell (a:=⟨g5,k5 * 2+1,none⟩) hgB5 (((ku HBW).cell (p:=⟨g5,k5 * 2+1,none⟩) hg52).trans ((hc5 (k5 * 2+1) (by omega)).trans (fl 1 (by omega))));simp only[kqq,sW,sK,nV] at e0 e1;have HNX5:=hide (fun (w':World) (hf:FB w' B (pM a5 k5 (p.members[k5]))) (hw:Kept B W w')=>kkj.next (W:=W) (wr:=w') (B:=B) (f:=pM) (items:=p.members) (z:=qq0 a k 2 p.name) (a:=a5) hlt5 (ku HFO5) hf hw);generalize p.members[k5]=t5 at e0 e1 HNX5;clear hc5 fl hkp5 HFO5;go_wp2_with fail
       refine (count_any _ B a5 k5 4 t5 ((ku HFB5).kept (below_alloc1 _ _))).mono ?_;rintro e w6 ⟨rfl,h6,hk6⟩;have HN:=hide (ku HNX5 _ h6 (((ku HK5).alloc _).trans hk6));clear h6 hk6 HNX5;go_wp2
       go_roundw
       case rel=>exact ku HN
       case measure=>simp[intOf];omega
      ·have hd5:=kvw hlt5 (ku HFO5);rw[hd5] at HFB5;have HN:=hide (ku HNX _ (ku HFB5) (ku HK5));clear hd5 HNX;go_wp2
       go_roundw
       case rel=>exact ku HN
       case measure=>simp[intOf];omega
    ·have hd:=kvw hlt (ku HFO);rw[hd] at HFB;have hbx:=hkp.row (b:=w.heap.size) (by omega) (ku HBX);obtain ⟨_,_,qx,_,_,_⟩:=zo hbx;have HR2:=hide (show kkj W B pV m.vars (pm2 m) (.int .i64 0) wr from kkj.start (ku HFB) (ku HK));clear hd hbx hkp HFB HK HFO;go_wp2_with fail
     go_loopw [10,11,60] (fun _ _ i wr=>kkj W B pV m.vars (pm2 m) i wr) (fun _ _ i _=>m.vars.length-(intOf i).toNat)
     case atStart=>exact ku HR2
     case round=>
      obtain ⟨k,a,hk,rfl,hfo,hfb,hkp⟩:=hrel;have HFO:=hide hfo;have HFB:=hide hfb;have HK:=hide hkp;have hsz:=hkp.size;clear hfo hfb HR2;by_cases hlt:k<m.vars.length
      ·obtain ⟨g,rfl,hg1,hg2,hc⟩:=ku HW2 k hlt;have hgB:g≠B:=by omega
       have fl:=fun j (hj:j<10)=>kjx kqx 10 (fun _=>rfl) m.vars k j hlt hj
       have e0:=hkp.cell (a:=⟨g,k * 10+0,none⟩) hgB ((hc (k * 10+0) (by omega)).trans (fl 0 (by omega)));have e1:=hkp.cell (a:=⟨g,k * 10+1,none⟩) hgB ((hc (k * 10+1) (by omega)).trans (fl 1 (by omega)));have e2:=hkp.cell (a:=⟨g,k * 10+2,none⟩) hgB ((hc (k * 10+2) (by omega)).trans (fl 2 (by omega)));have e3:=hkp.cell (a:=⟨g,k * 10+3,none⟩) hgB ((hc (k * 10+3) (by omega)).trans (fl 3 (by omega)));have e4:=hkp.cell (a:=⟨g,k * 10+4,none⟩) hgB ((hc (k * 10+4) (by omega)).trans (fl 4 (by omega)));have e5:=hkp.cell (a:=⟨g,k * 10+5,none⟩) hgB ((hc (k * 10+5) (by omega)).trans (fl 5 (by omega)));have e6:=hkp.cell (a:=⟨g,k * 10+6,none⟩) hgB ((hc (k * 10+6) (by omega)).trans (fl 6 (by omega)));have e7:=hkp.cell (a:=⟨g,k * 10+7,none⟩) hgB ((hc (k * 10+7) (by omega)).trans (fl 7 (by omega)));have e8:=hkp.cell (a:=⟨g,k * 10+8,none⟩) hgB ((hc (k * 10+8) (by omega)).trans (fl 8 (by omega)));have e9:=hkp.cell (a:=⟨g,k * 10+9,none⟩) hgB ((hc (k * 10+9) (by omega)).trans (fl 9 (by omega)));simp only[kqx,sW,sK,nV] at e0 e1 e2 e3 e4 e5 e6 e7 e8 e9;have HNX:=hide (fun (w':World) (hf:FB w' B (pV a k (m.vars[k]))) (hw:Kept B W w')=>kkj.next (W:=W) (wr:=w') (B:=B) (f:=pV) (items:=m.vars) (z:=(pm2 m)) (a:=a) hlt (ku HFO) hf hw);generalize m.vars[k]=p at e0 e1 e2 e3 e4 e5 e6 e7 e8 e9 HNX;clear hc fl hkp HFO;go_wp2_with fail
       refine (count_any _ B a k 4 p.name ((ku HFB).kept (below_alloc1 _ _))).mono ?_;rintro e w1 ⟨rfl,h1,hk1⟩;have hv1:=hk1.row (b:=wr.heap.size) (by omega) (qy _ _);have HK1:=hide (((ku HK).alloc _).trans hk1);have hz1:=(ku HK1).size;have H1:=hide h1;clear h1 hk1 e0 e1 e2 e3 e4 e5 e6 e7 e8 e9;obtain ⟨⟨_,_,_,_,_,g5,g6,g7,_,_⟩,_⟩:=kk5 hv1;clear hv1;cases hfm:(p.si.form==1)
       ·have HP:=hide (show pV a k p=qq0 a k 4 p.name by unfold pV;rw[hfm];rfl);rw[ku HP] at HNX;have HN:=hide (ku HNX _ (ku H1) (ku HK1));clear HNX H1;go_wp2
        go_roundw
        case rel=>exact ku HN
        case measure=>simp[intOf];omega
       ·have HP:=hide (show pV a k p=jz0 (qq0 a k 4 p.name) p.si.top 1 3 by unfold pV;rw[hfm];rfl);rw[ku HP] at HNX;go_wp2_with fail
        refine (size_any _ B _ 1 3 p.si.top (ku H1)).mono ?_;rintro e w2 ⟨rfl,h2,hk2⟩;have HN:=hide (ku HNX _ h2 ((ku HK1).trans hk2));clear h2 hk2 HNX;go_wp2
        go_roundw
        case rel=>exact ku HN
        case measure=>simp[intOf];omega
      ·have hd:=kvw hlt (ku HFO);rw[hd] at HFB;have hbx:=hkp.row (b:=w.heap.size) (by omega) (ku HBX);obtain ⟨_,_,_,qx,_,_⟩:=zo hbx;have HR3:=hide (show kkj W B pR m.rules (pm3 m) (.int .i64 0) wr from kkj.start (ku HFB) (ku HK));clear hd hbx hkp HFB HK HFO;go_wp2_with fail
       go_loopw [12,13,81] (fun _ _ i wr=>kkj W B pR m.rules (pm3 m) i wr) (fun _ _ i _=>m.rules.length-(intOf i).toNat)
       case atStart=>exact ku HR3
       case round=>
        obtain ⟨k,a,hk,rfl,hfo,hfb,hkp⟩:=hrel;have HFO:=hide hfo;have HFB:=hide hfb;have HK:=hide hkp;have hsz:=hkp.size;clear hfo hfb HR3;by_cases hlt:k<m.rules.length
        ·obtain ⟨g,rfl,hg1,hg2,hc⟩:=ku HW3 k hlt;have hgB:g≠B:=by omega
         obtain ⟨pa,pn,pc,gp,ba,bn,bc,bcs,⟨fl0,fl1,fl2,fl3,fl4⟩,hm,_⟩:=zyw k hlt (ku HC3);have e0:=hkp.cell (a:=⟨g,k * 5,none⟩) hgB ((hc (k * 5) (by omega)).trans fl0);have e1:=hkp.cell (a:=⟨g,k * 5+1,none⟩) hgB ((hc (k * 5+1) (by omega)).trans fl1);have e2:=hkp.cell (a:=⟨g,k * 5+2,none⟩) hgB ((hc (k * 5+2) (by omega)).trans fl2);have e3:=hkp.cell (a:=⟨g,k * 5+3,none⟩) hgB ((hc (k * 5+3) (by omega)).trans fl3);have e4:=hkp.cell (a:=⟨g,k * 5+4,none⟩) hgB ((hc (k * 5+4) (by omega)).trans fl4);have HNX:=hide (fun (w':World) (hf:FB w' B (pR a k (m.rules[k]))) (hw:Kept B W w')=>kkj.next (W:=W) (wr:=w') (B:=B) (f:=pR) (items:=m.rules) (z:=(pm3 m)) (a:=a) hlt (ku HFO) hf hw);have hml:=hok.params _ (wG _ (rJ hlt));have HM:=hide hm;generalize m.rules[k]=p at e0 e1 e2 e3 e4 HNX HM hml;clear hc fl0 fl1 fl2 fl3 fl4 hm hkp HFO;go_wp2_with fail
         refine (count_any _ B a k 5 p.name ((ku HFB).kept (below_alloc1 _ _))).mono ?_;rintro e w1 ⟨rfl,h1,hk1⟩;have hv1:=hk1.row (b:=wr.heap.size) (by omega) (qy _ _);have HK1:=hide (((ku HK).alloc _).trans hk1);have hz1:=(ku HK1).size;have H1:=hide h1;clear h1 hk1 e0 e1 e2 e3 e4;obtain ⟨_,_,g2,_⟩:=zo hv1;clear hv1;have hpB:(Value.slice pa pn pc).ownBlock≠some B:=fun e=>by have:=kqa (ku HM) _ e;omega
         have HO1:=hide (qww (jv (fun k _ hk=>(ku HBW).block k hk) (ku HM)) hpB (ku HK1));go_wp2_with fail
         refine (qjf _ B _ _ p.params _ (ku H1) hml (ku HO1) hpB).mono ?_;rintro e w2 ⟨rfl,h2,hk2⟩;have HN:=hide (ku HNX _ h2 ((ku HK1).trans hk2));clear h2 hk2 HNX;go_wp2
         go_roundw
         case rel=>exact ku HN
         case measure=>simp[intOf];omega
        ·have hd:=kvw hlt (ku HFO);rw[hd] at HFB;have hbx:=hkp.row (b:=w.heap.size) (by omega) (ku HBX);obtain ⟨_,_,_,_,qx,_⟩:=zo hbx;have HR4:=hide (show kkj W B pN m.nevers (pm4 m) (.int .i64 0) wr from kkj.start (ku HFB) (ku HK));clear hd hbx hkp HFB HK HFO;go_wp2_with fail
         go_loopw [14,15,97] (fun _ _ i wr=>kkj W B pN m.nevers (pm4 m) i wr) (fun _ _ i _=>m.nevers.length-(intOf i).toNat)
         case atStart=>exact ku HR4
         case round=>
          obtain ⟨k,a,hk,rfl,hfo,hfb,hkp⟩:=hrel;have HFO:=hide hfo;have HFB:=hide hfb;have HK:=hide hkp;have hsz:=hkp.size;clear hfo hfb HR4;by_cases hlt:k<m.nevers.length
          ·obtain ⟨g,rfl,hg1,hg2,hc⟩:=ku HW4 k hlt;have hgB:g≠B:=by omega
           obtain ⟨pa,pn,pc,gp,⟨fl0,fl1,fl2,fl3⟩,hm,_⟩:=zyi k hlt (ku HC4);have e0:=hkp.cell (a:=⟨g,k * 4,none⟩) hgB ((hc (k * 4) (by omega)).trans fl0);have e1:=hkp.cell (a:=⟨g,k * 4+1,none⟩) hgB ((hc (k * 4+1) (by omega)).trans fl1);have e2:=hkp.cell (a:=⟨g,k * 4+2,none⟩) hgB ((hc (k * 4+2) (by omega)).trans fl2);have e3:=hkp.cell (a:=⟨g,k * 4+3,none⟩) hgB ((hc (k * 4+3) (by omega)).trans fl3);have HNX:=hide (fun (w':World) (hf:FB w' B (pN a k (m.nevers[k]))) (hw:Kept B W w')=>kkj.next (W:=W) (wr:=w') (B:=B) (f:=pN) (items:=m.nevers) (z:=(pm4 m)) (a:=a) hlt (ku HFO) hf hw);have hml:=hok.params _ (rW _ (rJ hlt));have HM:=hide hm;generalize m.nevers[k]=p at e0 e1 e2 e3 HNX HM hml;clear hc fl0 fl1 fl2 fl3 hm hkp HFO;go_wp2_with fail
           refine (count_any _ B a k 3 p.name ((ku HFB).kept (below_alloc1 _ _))).mono ?_;rintro e w1 ⟨rfl,h1,hk1⟩;have hv1:=hk1.row (b:=wr.heap.size) (by omega) (qy _ _);have HK1:=hide (((ku HK).alloc _).trans hk1);have hz1:=(ku HK1).size;have H1:=hide h1;clear h1 hk1 e0 e1 e2 e3;obtain ⟨_,_,g2,_⟩:=kx8 hv1;clear hv1;have hpB:(Value.slice pa pn pc).ownBlock≠some B:=fun e=>by have:=kqa (ku HM) _ e;omega
           have HO1:=hide (qww (jv (fun k _ hk=>(ku HBW).block k hk) (ku HM)) hpB (ku HK1));go_wp2_with fail
           refine (qjf _ B _ _ p.params _ (ku H1) hml (ku HO1) hpB).mono ?_;rintro e w2 ⟨rfl,h2,hk2⟩;have HN:=hide (ku HNX _ h2 ((ku HK1).trans hk2));clear h2 hk2 HNX;go_wp2
           go_roundw
           case rel=>exact ku HN
           case measure=>simp[intOf];omega
          ·have hd:=kvw hlt (ku HFO);rw[hd] at HFB;have hbx:=hkp.row (b:=w.heap.size) (by omega) (ku HBX);have hb0:=hkp.row (b:=w.heap.size+1) (by omega) (ku HB0);obtain ⟨d0,d1,e0,e1⟩:=yj hb0;obtain ⟨g0,g1,_,_⟩:=yj (ku HFB);have HB0':=hide hb0;clear hd hbx hb0 HFO;go_wp2
           refine rY (v:=.agg #[.bool (decide (0≤kvq m)),.int .i64 (fAt (kvq m))]) (rZ Tryz.results91 _ _ (w.heap.size+1) _ _ _ _ rfl (set2 (ku HB0') _ _) Tryz.underlying199 rfl (by kernel_rfl)) rfl ?_;refine ⟨rfl,?_⟩;have hbel:Below w.heap.size w wr:=(ku HBW).trans (Kept.toBelow (B:=w.heap.size) (ku HK) (by omega) (by omega));exact (hbel.setCell (by simp) _).setCell (by simp) _
structure Ent where
 role:Int
 place:Int
 kind:ByteArray
 var:VrT
def kz0:VrT:=⟨jk,false,jk,⟨0,jk,jk⟩⟩
def zky:Ent:=⟨0,0,⟨#[]⟩,kz0⟩
def qqf (e:Ent):List Value:=[.int .i64 e.role,.int .i64 e.place,.string e.kind]++kqx e.var
def qjb (e:Ent):Value:=.agg (qqf e).toArray
abbrev Tab:=List (ByteArray × Ent)
def qo:Tab→List UInt8→Ent
 | [],_=>zky
 | x::l,s=>if x.1.toList==s then x.2 else qo l s
def kqw (w:World)(b:Nat)(t:Tab):Prop:=
 (∃ es clock,w.heap[b]?=some (.map es clock)∧es.toList.map (fun e=>(e.key,e.val))=t.map (fun x=>(Value.string x.1,qjb x.2)))∧(t.map (fun x=>x.1.toList)).Nodup∧∀ x∈t,x.1.size≤1000
theorem kqw.kept {w w':World}{b:Nat}{t:Tab}(h:kqw w b t)(hb:Below w.heap.size w w'):kqw w' b t:=by
 obtain ⟨⟨es,c,h1,h2⟩,h3⟩:=h;have hl:b<w.heap.size:=by
  by_cases hl:b<w.heap.size
  ·exact hl
  ·rw[fG (by omega)] at h1;cases h1
 exact ⟨⟨es,c,by rw[hb.block b hl];exact h1,h2⟩,h3⟩
theorem keyed:Maps.Keyed Tryz.prog 9:=Maps.string_keyed Tryz.underlying9
theorem keyS {s:ByteArray}(hs:s.size≤1000):keyOf Tryz.prog 9 (.string s)=some (.string s.data.toList):=WideMaps.keyOf_string_mk Tryz.underlying9 (by unfold maxLen;omega)
theorem vzm (w:World):(zeroValue 294).run Tryz.prog w=.ok (qjb zky) w:=by kernel_rfl
theorem qvp {es:Array MapEntry}{t:Tab}(h:es.toList.map (fun e=>(e.key,e.val))=t.map (fun x=>(Value.string x.1,qjb x.2))){e:MapEntry}(he:e∈es.toList):∃ x∈t,e.key=.string x.1∧e.val=qjb x.2:=by
 have:(e.key,e.val)∈t.map (fun x=>(Value.string x.1,qjb x.2)):=by rw[←h];exact tC he
 obtain ⟨x,hx,e1⟩:=sV.mp this;simp only[Prod.mk.injEq] at e1;exact ⟨x,hx,e1.1.symm,e1.2.symm⟩
theorem pair_mem {es:Array MapEntry}{t:Tab}(h:es.toList.map (fun e=>(e.key,e.val))=t.map (fun x=>(Value.string x.1,qjb x.2))){x:ByteArray × Ent}(hx:x∈t):∃ e∈es.toList,e.key=.string x.1∧e.val=qjb x.2:=by
 have:(Value.string x.1,qjb x.2)∈es.toList.map (fun e=>(e.key,e.val)):=by rw[h];exact tC hx
 obtain ⟨e,he,e1⟩:=sV.mp this;simp only[Prod.mk.injEq] at e1;exact ⟨e,he,e1.1,e1.2⟩
theorem jqc:∀ (t:Tab) (s:List UInt8),(∀ x∈t,x.1.toList≠s)→qo t s=zky
 | [],_,_=>rfl
 | x::l,s,h=>by
  rw[qo,if_neg (by rw[wP];exact h x (rG ..))];exact jqc l s fun y hy=>h y (rU _ hy)
theorem zz1:∀ (t:Tab) (s:List UInt8),(t.map (fun x=>x.1.toList)).Nodup→∀ x∈t,x.1.toList=s→qo t s=x.2
 | y::l,s,hn,x,hx,e=>by
  rw[lC,Qo] at hn;rw[qo];rcases tK.mp hx with rfl|hx
  ·rw[if_pos (by rw[wP];exact e)]
  ·rw[if_neg (by
    rw[wP];intro e2;exact hn.1 (by rw[e2,←e];exact tC hx))]
   exact zz1 l s hn.2 x hx e
theorem qxw {a b:ByteArray}(h:a.toList=b.toList):a=b:=by
 rw[xg,xg] at h;cases a;cases b;simp at h;rw[h]
theorem kxi {w:World}{b:Nat}{t:Tab}{s:ByteArray}(h:kqw w b t)(hs:s.size≤1000):(Instr.lookup 202 (.map (some b)) (.string s) false).run Tryz.prog w=.ok (qjb (qo t s.toList)) w:=by
 obtain ⟨⟨es,c,h1,h2⟩,h3,h4⟩:=h;have hk:=keyS hs;have hall:∀ e∈es.toList,∃ l,keyOf Tryz.prog 9 e.key=some l:=fun e he=>by
  obtain ⟨x,hx,e1,_⟩:=qvp h2 he;exact ⟨_,by rw[e1];exact keyS (h4 x hx)⟩
 rcases keyed.find w hk es.toList hall with ⟨f1,f2⟩|⟨j,e0,f1,f2,f3⟩
 ·rw[jqc t s.toList (fun x hx e=>by
   obtain ⟨e',he',e1,_⟩:=pair_mem h2 hx;exact f2 e' he' (by rw[e1,qxw e]))]
  simp[Instr.lookup,QC Tryz.underlying202,MapKept.run_getObj_map h1,keyed.check w _ hk,f1,vzm w,Result.andThen]
 ·have hm:=lZ f2;obtain ⟨x,hx,e1,e2⟩:=qvp h2 hm;rw[f3] at e1;injection e1 with e1;rw[zz1 t s.toList h3 x hx (by rw[e1]),←e2];simp[Instr.lookup,QC Tryz.underlying202,MapKept.run_getObj_map h1,keyed.check w _ hk,f1,Result.andThen]
theorem vx6 {w:World}{b:Nat}{t:Tab}{s:ByteArray}{e:Ent}(h:kqw w b t)(hs:s.size≤1000)(hno:∀ x∈t,x.1.toList≠s.toList):∃ w',(Instr.mapUpdate 202 (.map (some b)) (.string s) (qjb e)).run Tryz.prog w=.ok () w'∧kqw w' b (t++[(s,e)])∧Kept b w w':=by
 obtain ⟨⟨es,c,h1,h2⟩,h3,h4⟩:=h;have hk:=keyS hs;have hall:∀ e∈es.toList,∃ l,keyOf Tryz.prog 9 e.key=some l:=fun e he=>by
  obtain ⟨x,hx,e1,_⟩:=qvp h2 he;exact ⟨_,by rw[e1];exact keyS (h4 x hx)⟩
 rcases keyed.find w hk es.toList hall with ⟨f1,f2⟩|⟨j,e0,f1,f2,f3⟩
 ·refine ⟨ChangeMaps.setBlock w b (.map (es.push ⟨.string s,qjb e,c⟩) (c+1)),by simp[Instr.mapUpdate,QC Tryz.underlying202,MapKept.run_getObj_map h1,keyed.check w false hk,f1,MapKept.run_setObj_map _ h1,Result.andThen,ChangeMaps.setBlock],⟨⟨_,_,ChangeMaps.heap_setBlock_same h1 _,?_⟩,?_,?_⟩,⟨rfl,rfl,rfl,by simp[ChangeMaps.setBlock],fun k _ hn=>ChangeMaps.heap_setBlock_other h1 _ hn⟩⟩
  ·rw[Array.toList_push,ng,ng,h2];rfl
  ·rw[ng,Ju];refine ⟨h3,by simp,?_⟩;intro a ha b hb;simp only[lC,JQ,tV] at hb;obtain ⟨x,hx,rfl⟩:=sV.mp ha;rw[hb];exact hno x hx
  ·intro x hx;rcases rM.mp hx with hx|hx
   ·exact h4 x hx
   ·rw[tV] at hx;subst hx;exact hs
 ·exfalso
  have hm:=lZ f2;obtain ⟨x,hx,e1,_⟩:=qvp h2 hm;rw[f3] at e1;injection e1 with e1;exact hno x hx (by rw[e1])
def kkf (t:Tab):Prop:=∀ x∈t,1≤x.2.role
theorem jwc {t:Tab}(h:kkf t)(hn:(t.map (fun x=>x.1.toList)).Nodup){s:List UInt8}(h0:(qo t s).role=0):∀ x∈t,x.1.toList≠s:=by
 intro x hx e;rw[zz1 t s hn x hx e] at h0;have:=h x hx;omega
def kkl (t:Tab)(n:Tok)(e:Ent):Tab:=if (qo t n.text.toList).role==0 then t++[(n.text,{ e with place:=n.at_ })] else t
theorem ky1 {t:Tab}(h:kkf t){n:Tok}{e:Ent}(he:1≤e.role):kkf (kkl t n e):=by
 unfold kkl;split
 ·intro x hx;rcases rM.mp hx with hx|hx
  ·exact h x hx
  ·rw[tV] at hx;subst hx;exact he
 ·exact h
theorem kkq (e:Ent)(w:World):(Instr.field 294 (qjb e) 0).run Tryz.prog w=.ok (.int .i64 e.role) w:=by kernel_rfl
theorem jxv (e:Ent)(w:World):(Instr.field 294 (qjb e) 1).run Tryz.prog w=.ok (.int .i64 e.place) w:=by kernel_rfl
structure MVar where
 first:Nat
 count:Nat
 texts:List ByteArray
 over:Int
 of_:Int
structure Mean where
 isVar:Bool
 num:Nat
def jzg:Mean:=⟨false,0⟩
def kw9 (e:Mean):Value:=.agg #[.bool e.isVar,.int .i64 e.num]
abbrev uq:=List (ByteArray × Mean)
def kjt:uq→List UInt8→Mean
 | [],_=>jzg
 | x::l,s=>if x.1.toList==s then x.2 else kjt l s
def kza (w:World)(b:Nat)(t:uq):Prop:=
 (∃ es clock,w.heap[b]?=some (.map es clock)∧es.toList.map (fun e=>(e.key,e.val))=t.map (fun x=>(Value.string x.1,kw9 x.2)))∧(t.map (fun x=>x.1.toList)).Nodup∧∀ x∈t,x.1.size≤1000
theorem kza.lt {w:World}{b:Nat}{t:uq}(h:kza w b t):b<w.heap.size:=by
 obtain ⟨⟨es,c,h1,h2⟩,h3⟩:=h;exact wX h1
theorem kza.stay {w w':World}{b:Nat}{t:uq}(h:kza w b t)(hb:w'.heap[b]?=w.heap[b]?):kza w' b t:=by
 obtain ⟨⟨es,c,h1,h2⟩,h3⟩:=h;exact ⟨⟨es,c,by rw[hb];exact h1,h2⟩,h3⟩
theorem jyc (w:World):(zeroValue 116).run Tryz.prog w=.ok (kw9 jzg) w:=by kernel_rfl
theorem qx9 {es:Array MapEntry}{t:uq}(h:es.toList.map (fun e=>(e.key,e.val))=t.map (fun x=>(Value.string x.1,kw9 x.2))){e:MapEntry}(he:e∈es.toList):∃ x∈t,e.key=.string x.1∧e.val=kw9 x.2:=by
 have:(e.key,e.val)∈t.map (fun x=>(Value.string x.1,kw9 x.2)):=by rw[←h];exact tC he
 obtain ⟨x,hx,e1⟩:=sV.mp this;simp only[Prod.mk.injEq] at e1;exact ⟨x,hx,e1.1.symm,e1.2.symm⟩
theorem jwv {es:Array MapEntry}{t:uq}(h:es.toList.map (fun e=>(e.key,e.val))=t.map (fun x=>(Value.string x.1,kw9 x.2))){x:ByteArray × Mean}(hx:x∈t):∃ e∈es.toList,e.key=.string x.1∧e.val=kw9 x.2:=by
 have:(Value.string x.1,kw9 x.2)∈es.toList.map (fun e=>(e.key,e.val)):=by rw[h];exact tC hx
 obtain ⟨e,he,e1⟩:=sV.mp this;simp only[Prod.mk.injEq] at e1;exact ⟨e,he,e1.1,e1.2⟩
theorem jqb:∀ (t:uq) (s:List UInt8),(∀ x∈t,x.1.toList≠s)→kjt t s=jzg
 | [],_,_=>rfl
 | x::l,s,h=>by
  rw[kjt,if_neg (by rw[wP];exact h x (rG ..))];exact jqb l s fun y hy=>h y (rU _ hy)
theorem zz2:∀ (t:uq) (s:List UInt8),(t.map (fun x=>x.1.toList)).Nodup→∀ x∈t,x.1.toList=s→kjt t s=x.2
 | y::l,s,hn,x,hx,e=>by
  rw[lC,Qo] at hn;rw[kjt];rcases tK.mp hx with rfl|hx
  ·rw[if_pos (by rw[wP];exact e)]
  ·rw[if_neg (by
    rw[wP];intro e2;exact hn.1 (by rw[e2,←e];exact tC (f:=fun x:ByteArray × Mean=>x.1.toList) hx))]
   exact zz2 l s hn.2 x hx e
theorem qqm {w:World}{b:Nat}{t:uq}{s:ByteArray}(h:kza w b t)(hs:s.size≤1000):(Instr.lookup 100 (.map (some b)) (.string s) false).run Tryz.prog w=.ok (kw9 (kjt t s.toList)) w:=by
 obtain ⟨⟨es,c,h1,h2⟩,h3,h4⟩:=h;have hk:=keyS hs;have hall:∀ e∈es.toList,∃ l,keyOf Tryz.prog 9 e.key=some l:=fun e he=>by
  obtain ⟨x,hx,e1,_⟩:=qx9 h2 he;exact ⟨_,by rw[e1];exact keyS (h4 x hx)⟩
 rcases keyed.find w hk es.toList hall with ⟨f1,f2⟩|⟨j,e0,f1,f2,f3⟩
 ·rw[jqb t s.toList (fun x hx e=>by
   obtain ⟨e',he',e1,_⟩:=jwv h2 hx;exact f2 e' he' (by rw[e1,qxw e]))]
  simp[Instr.lookup,QC Tryz.underlying100,MapKept.run_getObj_map h1,keyed.check w _ hk,f1,jyc w,Result.andThen]
 ·have hm:=lZ f2;obtain ⟨x,hx,e1,e2⟩:=qx9 h2 hm;rw[f3] at e1;injection e1 with e1;rw[zz2 t s.toList h3 x hx (by rw[e1]),←e2];simp[Instr.lookup,QC Tryz.underlying100,MapKept.run_getObj_map h1,keyed.check w _ hk,f1,Result.andThen]
theorem jq8 {w:World}{b:Nat}{t:uq}{s:ByteArray}{e:Mean}(h:kza w b t)(hs:s.size≤1000)(hno:∀ x∈t,x.1.toList≠s.toList):∃ w',(Instr.mapUpdate 100 (.map (some b)) (.string s) (kw9 e)).run Tryz.prog w=.ok () w'∧kza w' b (t++[(s,e)])∧Kept b w w':=by
 obtain ⟨⟨es,c,h1,h2⟩,h3,h4⟩:=h;have hk:=keyS hs;have hall:∀ e∈es.toList,∃ l,keyOf Tryz.prog 9 e.key=some l:=fun e he=>by
  obtain ⟨x,hx,e1,_⟩:=qx9 h2 he;exact ⟨_,by rw[e1];exact keyS (h4 x hx)⟩
 rcases keyed.find w hk es.toList hall with ⟨f1,f2⟩|⟨j,e0,f1,f2,f3⟩
 ·refine ⟨ChangeMaps.setBlock w b (.map (es.push ⟨.string s,kw9 e,c⟩) (c+1)),by simp[Instr.mapUpdate,QC Tryz.underlying100,MapKept.run_getObj_map h1,keyed.check w false hk,f1,MapKept.run_setObj_map _ h1,Result.andThen,ChangeMaps.setBlock],⟨⟨_,_,ChangeMaps.heap_setBlock_same h1 _,?_⟩,?_,?_⟩,⟨rfl,rfl,rfl,by simp[ChangeMaps.setBlock],fun k _ hn=>ChangeMaps.heap_setBlock_other h1 _ hn⟩⟩
  ·rw[Array.toList_push,ng,ng,h2];rfl
  ·rw[ng,Ju];refine ⟨h3,by simp,?_⟩;intro a ha b hb;simp only[lC,JQ,tV] at hb;obtain ⟨x,hx,rfl⟩:=sV.mp ha;rw[hb];exact hno x hx
  ·intro x hx;rcases rM.mp hx with hx|hx
   ·exact h4 x hx
   ·rw[tV] at hx;subst hx;exact hs
 ·exfalso
  have hm:=lZ f2;obtain ⟨x,hx,e1,_⟩:=qx9 h2 hm;rw[f3] at e1;injection e1 with e1;exact hno x hx (by rw[e1])
theorem jqv (e:Mean)(w:World):(Instr.field 116 (kw9 e) 1).run Tryz.prog w=.ok (.int .i64 e.num) w:=by kernel_rfl
def qj2 (lo:Nat)(w:World):List MVar→List Value→Prop
 | [],cs=>cs=[]
 | v::vs,cs=>∃ ta tc rest,cs=[.int .i64 v.first,.int .i64 v.count,.slice ta v.texts.length tc,.int .i64 v.over,.int .i64 v.of_]++rest∧w.ownsRow lo 9 1 (.slice ta v.texts.length tc) v.texts.length (v.texts.map Value.string)∧qj2 lo w vs rest
theorem qj2.stay {lo:Nat}{w w':World}(hk:∀ (k:Nat) (e:TypeId) (cs:Array Value) (fr:Nat × Nat),w.heap[k]?=some (Obj.cells cs e fr)→e=9→w'.heap[k]?=w.heap[k]?):∀ {vs:List MVar} {cs:List Value},qj2 lo w vs cs→qj2 lo w' vs cs
 | [],_,h=>h
 | v::vs,cs,⟨ta,tc,rest,e,h1,h2⟩=>⟨ta,tc,rest,e,by
   refine ⟨h1.1,?_⟩;rcases h1.2 with hh|⟨g,cap,cur,e1,e2,e3,e4⟩
   ·exact Or.inl hh
   ·exact Or.inr ⟨g,cap,cur,e1,e2,by rw[hk g _ _ _ e3 rfl];exact e3,e4⟩,qj2.stay hk h2⟩
theorem vjz {lo:Nat}{w:World}:∀ {vs:List MVar} {cs:List Value} (i:Nat) (hi:i<vs.length),qj2 lo w vs cs →
  ∃ ta tc,(cs[i * 5]?=some (.int .i64 (vs[i]).first)∧cs[i * 5+1]?=some (.int .i64 (vs[i]).count)∧cs[i * 5+2]?=some (.slice ta (vs[i]).texts.length tc)∧cs[i * 5+3]?=some (.int .i64 (vs[i]).over)∧cs[i * 5+4]?=some (.int .i64 (vs[i]).of_)) ∧
   w.ownsRow lo 9 1 (.slice ta (vs[i]).texts.length tc) (vs[i]).texts.length ((vs[i]).texts.map Value.string)
 | [],_,i,hi,_=>by simp at hi
 | v::vs,cs,0,_,⟨ta,tc,rest,e,h1,h2⟩=>by subst e;exact ⟨ta,tc,⟨rfl,rfl,rfl,rfl,rfl⟩,h1⟩
 | v::vs,cs,i+1,hi,⟨ta,tc,rest,e,h1,h2⟩=>by
  subst e;obtain ⟨a,b,⟨q0,q1,q2,q3,q4⟩,r1⟩:=vjz i (by simpa using hi) h2;refine ⟨a,b,⟨?_,?_,?_,?_,?_⟩,r1⟩
  ·rw[show (i+1) * 5=i * 5+5 by omega,rC (by simp)];simpa using q0
  ·rw[show (i+1) * 5+1=i * 5+1+5 by omega,rC (by simp)];simpa using q1
  ·rw[show (i+1) * 5+2=i * 5+2+5 by omega,rC (by simp)];simpa using q2
  ·rw[show (i+1) * 5+3=i * 5+3+5 by omega,rC (by simp)];simpa using q3
  ·rw[show (i+1) * 5+4=i * 5+4+5 by omega,rC (by simp)];simpa using q4
theorem qj2.len {lo:Nat}{w:World}:∀ {vs:List MVar} {cs:List Value},qj2 lo w vs cs→cs.length=vs.length * 5
 | [],_,h=>by rw[show _=_ from h];rfl
 | v::vs,cs,⟨ta,tc,rest,e,h1,h2⟩=>by rw[e];have:=qj2.len h2;simp;omega
end Go.Proofs.YtpmcnonmkghokaaGreatDoor
namespace Go.Proofs.YtpmcnonmkghokaaGreatDoor
open Go.RowKit
attribute [local go_sem ↓] Go.wp_at_zero Go.wp_at_succ
structure Mc (lo:Nat)(w:World)(M nb:Nat)(vars:List MVar)(tab:uq):Prop where
 mc:∃ x0 x1 x2 va vc z cs,w.heap[M]?=some (.cells #[x0,x1,x2,.slice va vars.length vc,.map (some nb),z] 105 (0,0))∧w.ownsRow lo 213 5 (.slice va vars.length vc) vars.length cs∧qj2 lo w vars cs
 tab:kza w nb tab
structure Rn (lo:Nat)(w:World)(R M nb:Nat)(vars:List MVar)(tab:uq)(l:List PP)(ms st:List Int)(sv:Value)(b:Bool):Prop where
 rn:∃ tx pa pn pc ma mn mc,w.heap[R]?=some (.cells #[.string tx,.pointer (some ⟨M,0,none⟩),.slice pa pn pc,.slice ma mn mc,sv,.bool b] 269 (0,0))∧w.ownsRow lo 352 4 (.slice pa pn pc) l.length (jw l)∧w.ownsRow lo 3 1 (.slice ma mn mc) ms.length (ms.map (Value.int .i64))
 mc:Mc lo w M nb vars tab
 st:w.ownsRow lo 5 1 sv st.length (st.map (Value.int .u8))
theorem Mc.below {lo:Nat}{w w':World}{M nb:Nat}{vars:List MVar}{tab:uq}(h:Mc lo w M nb vars tab)(hb:Below w.heap.size w w'):Mc lo w' M nb vars tab:=by
 obtain ⟨⟨x0,x1,x2,va,vc,z,cs,h1,h2,h3⟩,h4⟩:=h;exact ⟨⟨x0,x1,x2,va,vc,z,cs,(hb.block M (wX h1)).trans h1,qj h2 hb,h3.stay fun k e cs fr hk _=>hb.block k (wX hk)⟩,h4.stay (hb.block nb h4.lt)⟩
theorem Rn.below {lo:Nat}{w w':World}{R M nb:Nat}{vars:List MVar}{tab:uq}{l:List PP}{ms st:List Int}{sv:Value}{b:Bool}(h:Rn lo w R M nb vars tab l ms st sv b)(hb:Below w.heap.size w w'):Rn lo w' R M nb vars tab l ms st sv b:=by
 obtain ⟨⟨tx,pa,pn,pc,ma,mn,mc,h1,h2,h3⟩,h4,h5⟩:=h;exact ⟨⟨tx,pa,pn,pc,ma,mn,mc,(hb.block R (wX h1)).trans h1,qj h2 hb,qj h3 hb⟩,h4.below hb,qj h5 hb⟩
def zql (c:Bool):Int:=if c then 1 else 0
theorem qw3 (c:Bool)(w:World):Calls Tryz.prog 257 #[.bool c] w fun e w'=>e=.returned (.int .i64 (zql c))∧w'=w:=by
 cases c
 ·go_enter Tryz.func257,Tryz.ntmps257
  go_wp2
  go_ret
  exact ⟨rfl,rfl⟩
 ·go_enter Tryz.func257,Tryz.ntmps257
  go_wp2
  go_ret
  exact ⟨rfl,rfl⟩
def kz5 (o a b:Int):Int:=
 if o==6 then min a b else if o==7 then max a b else if o==11 then a+b else if o==12 then a-b
 else if o==10 then zql (decide (a<b)) else if o==9 then zql (!(a==b)) else zql (a==b)
theorem vjn (o a b:Int)(w:World)(ha:-1000000000≤a)(ha2:a≤1000000000)(hb:-1000000000≤b)(hb2:b≤1000000000):Calls Tryz.prog 232 #[.int .i64 o,.int .i64 a,.int .i64 b] w fun e w'=>e=.returned (.int .i64 (kz5 o a b))∧w'=w:=by
 cases h6:(o==6)
 case true=>
  rw[show kz5 o a b=min a b by simp[kz5,h6]];go_enter Tryz.func232,Tryz.ntmps232
  go_wp2
  all_goals
   go_ret
   exact ⟨kvd (by omega),rfl⟩
 case false=>
 cases h7:(o==7)
 case true=>
  rw[show kz5 o a b=max a b by simp[kz5,h6,h7]];go_enter Tryz.func232,Tryz.ntmps232
  go_wp2
  all_goals
   go_ret
   exact ⟨kvd (by omega),rfl⟩
 case false=>
 cases h11:(o==11)
 case true=>
  rw[show kz5 o a b=a+b by simp[kz5,h6,h7,h11]];go_enter Tryz.func232,Tryz.ntmps232
  go_wp2
  go_ret
  exact ⟨rfl,rfl⟩
 case false=>
 cases h12:(o==12)
 case true=>
  rw[show kz5 o a b=a-b by simp[kz5,h6,h7,h11,h12]];go_enter Tryz.func232,Tryz.ntmps232
  go_wp2
  go_ret
  exact ⟨rfl,rfl⟩
 case false=>
 cases h10:(o==10)
 case true=>
  rw[show kz5 o a b=zql (decide (a<b)) by simp[kz5,h6,h7,h11,h12,h10]];have HT:=hide (qw3 (decide (a<b)) w);generalize zql (decide (a<b))=y at *;go_enter Tryz.func232,Tryz.ntmps232
  go_wp2_with fail
  refine (ku HT).mono ?_;rintro e w1 ⟨rfl,rfl⟩;go_wp2
  go_ret
  exact ⟨rfl,rfl⟩
 case false=>
 cases h9:(o==9)
 case true=>
  rw[show kz5 o a b=zql (!(a==b)) by simp[kz5,h6,h7,h11,h12,h10,h9]];have HT:=hide (qw3 (!(a==b)) w);generalize zql (!(a==b))=y at *;go_enter Tryz.func232,Tryz.ntmps232
  go_wp2_with fail
  refine (ku HT).mono ?_;rintro e w1 ⟨rfl,rfl⟩;go_wp2
  go_ret
  exact ⟨rfl,rfl⟩
 case false=>
  rw[show kz5 o a b=zql (a==b) by simp[kz5,h6,h7,h11,h12,h10,h9]];have HT:=hide (qw3 (a==b) w);generalize zql (a==b)=y at *;go_enter Tryz.func232,Tryz.ntmps232
  go_wp2_with fail
  refine (ku HT).mono ?_;rintro e w1 ⟨rfl,rfl⟩;go_wp2
  go_ret
  exact ⟨rfl,rfl⟩
def kxb (v:MVar)(ta:Option Addr)(tc:Nat):Array Value:=#[.int .i64 v.first,.int .i64 v.count,.slice ta v.texts.length tc,.int .i64 v.over,.int .i64 v.of_]
theorem vwu {w:World}{b:Nat}{x0 x1 x2 x3 x4:Value}{t:TypeId}(h:w.heap[b]?=some (.cells #[x0,x1,x2,x3,x4] t (0,0)))(y0 y1 y2 y3 y4:Value) :
  (((((w.setCell ⟨b,0,none⟩ y0).setCell ⟨b,1,none⟩ y1).setCell ⟨b,2,none⟩ y2).setCell ⟨b,3,none⟩ y3).setCell ⟨b,4,none⟩ y4).heap[b]?=some (.cells #[y0,y1,y2,y3,y4] t (0,0)):=kjc h y0 y1 y2 y3 y4
end Go.Proofs.YtpmcnonmkghokaaGreatDoor

import Derived.Test.YtpmcnonmkghokaaGreatDoorT08
import Derived.BigRegion
import Derived.Deep.CutRange
set_option maxRecDepth 100000
set_option maxHeartbeats 8000000
set_option linter.unusedVariables false
set_option linter.unusedSimpArgs false
namespace Go.Proofs.YtpmcnonmkghokaaGreatDoor
open Go.RowKit
attribute [local go_sem ↓] Go.wp_at_zero Go.wp_at_succ
def small (x:Int):Option Int:=if decide (-1000000000≤x)&&decide (x≤1000000000) then some x else none
theorem kvm {x y:Int}(h:small x=some y):y=x∧-1000000000≤x∧x≤1000000000:=by
 unfold small at h;split at h
 ·rename_i hc;simp at hc;injection h with h;exact ⟨h.symm,hc⟩
 ·cases h
theorem jwz (v:MVar)(ta:Option Addr)(tc:Nat)(w:World):(Instr.field 213 (.agg (kxb v ta tc)) 0).run Tryz.prog w=.ok (.int .i64 v.first) w:=by kernel_rfl
def jvj (lo:Nat)(w:World)(v:MVar)(ta:Option Addr)(tc:Nat):Prop:=
 w.ownsRow lo 9 1 (.slice ta v.texts.length tc) v.texts.length (v.texts.map Value.string)
theorem kyi (w:World)(lo R M nb:Nat)(vars:List MVar)(tab:uq)(l:List PP)(ms st:List Int)(sv:Value)(b:Bool)(n:Tok)(h:Rn lo w R M nb vars tab l ms st sv b)(hs:n.text.size≤1000)(v:MVar)(hgi:vars[(kjt tab n.text.toList).num]?=some v)(hv:vars.length≤1000) :
  Calls Tryz.prog 233 #[.pointer (some ⟨R,0,none⟩),ptV n] w fun e w'=>∃ ta tc,e=.returned (.agg (kxb v ta tc))∧jvj lo w v ta tc∧Below w.heap.size w w':=by
 obtain ⟨hi,rfl⟩:=nJ.mp hgi;clear hgi;obtain ⟨W,hW⟩:∃ W,W=(w.alloc (.cells #[.string n.text,.int .i64 n.at_] 107)).alloc (.cells #[.int .i64 0,.int .i64 0,.slice none 0 0,.int .i64 0,.int .i64 0] 213):=⟨_,rfl⟩;have hbW:Below w.heap.size w W:=by rw[hW];exact (below_alloc1 w _).trans ((below_alloc1 _ _).mono (by simp))
 have hsW:w.heap.size+1<W.heap.size:=by rw[hW];simp
 have hnm:W.heap[w.heap.size]?=some (.cells #[.string n.text,.int .i64 n.at_] 107 (0,0)):=by rw[hW];exact qp (qy _ _)
 have hv0:W.heap[w.heap.size+1]?=some (.cells #[.int .i64 0,.int .i64 0,.slice none 0 0,.int .i64 0,.int .i64 0] 213 (0,0)):=by
  rw[hW];have:=qy (w.alloc (.cells #[.string n.text,.int .i64 n.at_] 107)) (.cells #[.int .i64 0,.int .i64 0,.slice none 0 0,.int .i64 0,.int .i64 0] 213);simp only[tJ] at this;exact this
 obtain ⟨⟨tx,pa,pn,pc,ma,mn,mc,hR,_,_⟩,⟨⟨x0,x1,x2,va,vc,z,cs,hM,hO,hV⟩,hT⟩,_⟩:=h;obtain ⟨ta,tc,hq,hown⟩:=vjz _ hi hV;obtain ⟨xa,cap,e1,hview⟩:=zq hO;injection e1 with ea _ ec;subst ea;subst ec;obtain ⟨g,rfl,hg1,hg2,hc⟩:=hview _ hi;have hRl:=wX hR;have hMl:=wX hM;have hl:=qqm (hT.stay (hbW.block nb hT.lt)) hs;have hlD:=qqm (show kza W.drew nb tab from (hT.stay (hbW.block nb hT.lt)).stay rfl) hs;obtain ⟨_,r1,_⟩:=kvt ((hbW.block R hRl).trans hR);obtain ⟨_,_,_,m3,m4,_⟩:=kvt ((hbW.block M hMl).trans hM);obtain ⟨n0,n1,_⟩:=yj hnm;obtain ⟨v0,v1,v2,v3,v4,f0,f1,f2,f3,f4⟩:=zo hv0;have HOWN:=hide (show jvj lo w (vars[(kjt tab n.text.toList).num]) ta tc from hown);clear hown;have hcl:=hV.len;have cc:∀ j,j<5→W.cell? ⟨g,(kjt tab n.text.toList).num * 5+j,none⟩=cs[(kjt tab n.text.toList).num * 5+j]?:=fun j hj=>(hbW.cell (p:=⟨g,_,none⟩) hg2).trans (hc _ (by omega))
 have c0:=(cc 0 (by omega)).trans hq.1;have c1:=(cc 1 (by omega)).trans hq.2.1;have c2:=(cc 2 (by omega)).trans hq.2.2.1;have c3:=(cc 3 (by omega)).trans hq.2.2.2.1;have c4:=(cc 4 (by omega)).trans hq.2.2.2.2;rw[nV] at c0;have hff:=jqv (kjt tab n.text.toList);generalize kjt tab n.text.toList=q at *;have HV0:=hide hv0;have HBW:=hide hbW;have HWE:=hide hW.symm;have hgW:g<W.heap.size:=by omega
 have hRW:R<W.heap.size:=by omega
 have hMW:M<W.heap.size:=by omega
 generalize hvv:vars[q.num]=vv at *;clear hvv hcl cc hq hc hview hV hO hT hM hR hnm hv0 hbW hW;unfold ptV;go_enter Tryz.func233,Tryz.ntmps233
 go_wp2_with fail
 rw[ku HWE];go_region
 go_wp2
 refine rY (v:=.agg (kxb vv ta tc)) (rZ Tryz.results233 _ _ (w.heap.size+1) _ _ _ _ rfl (vwu (ku HV0) _ _ _ _ _) Tryz.underlying213 rfl (by kernel_rfl)) rfl ?_;exact ⟨ta,tc,rfl,ku HOWN,((((((ku HBW).drew.setCell (show w.heap.size≤w.heap.size+1 by omega) _).setCell (show w.heap.size≤w.heap.size+1 by omega) _).setCell (show w.heap.size≤w.heap.size+1 by omega) _).setCell (show w.heap.size≤w.heap.size+1 by omega) _).setCell (show w.heap.size≤w.heap.size+1 by omega) _)⟩
end Go.Proofs.YtpmcnonmkghokaaGreatDoor
namespace Go.Proofs.YtpmcnonmkghokaaGreatDoor
open Go.RowKit
theorem kqw.nodup {w:World}{b:Nat}{t:Tab}(h:kqw w b t):(t.map (fun x=>x.1.toList)).Nodup:=h.2.1
theorem kqw.lt {w:World}{b:Nat}{t:Tab}(h:kqw w b t):b<w.heap.size:=by
 obtain ⟨⟨es,c,h1,h2⟩,h3⟩:=h;by_cases hl:b<w.heap.size
 ·exact hl
 ·rw[fG (by omega)] at h1;cases h1
theorem kqw.other {w:World}{b:Nat}{t:Tab}(h:kqw w b t){p:Addr}(hp:b≠p.block)(u:Value):kqw (w.setCell p u) b t:=by
 obtain ⟨⟨es,c,h1,h2⟩,h3⟩:=h;exact ⟨⟨es,c,by rw[ru _ _ _ _ hp];exact h1,h2⟩,h3⟩
theorem jqs (w:World)(b:Nat)(t:Tab)(n:Tok)(e:Ent)(h:kqw w b t)(ht:kkf t)(hs:n.text.size≤1000) :
  Calls Tryz.prog 156 #[.map (some b),ptV n,qjb e] w fun r w'=>r=.returned (.tuple #[])∧kqw w' b (kkl t n e)∧Kept b w w':=by
 have hlt:=h.lt;obtain ⟨W,hW⟩:∃ W,W=(w.alloc (.cells #[.string n.text,.int .i64 n.at_] 107)).alloc (.cells (qqf e).toArray 294):=⟨_,rfl⟩;have hbW:Below w.heap.size w W:=by rw[hW];exact (below_alloc1 w _).trans ((below_alloc1 _ _).mono (by simp))
 have hM:=h.kept hbW;have HMP:=hide (h.kept ((below_alloc1 w (.cells #[.string n.text,.int .i64 n.at_] 107)).trans ((below_alloc1 _ (.cells (qqf { e with place:=n.at_ }).toArray 294)).mono (by simp))));have hl:=kxi hM hs;have hf:=kkq (qo t n.text.toList);have E:=hide (show kkl t n e=if (qo t n.text.toList).role==0 then t++[(n.text,{ e with place:=n.at_ })] else t from rfl);have HM:=hide hM;have HBW:=hide hbW;have HZ:=hide (jwc ht h.nodup (s:=n.text.toList));generalize hent:qo t n.text.toList=q at *;have hkW:Kept b w W:=.of_below hbW;have HKW:=hide hkW;rw[hW] at hl;clear hent h ht hbW hkW hM;unfold ptV qjb qqf kqx at *;simp only[fD,lK] at *;cases hr:(q.role==0)
 ·rw[hr] at E;simp only[tZ,if_false] at E;go_enter Tryz.func156,Tryz.ntmps156
  go_wp2
  go_end0
  rw[ku E,←hW];exact ⟨rfl,ku HM,ku HKW⟩
 ·rw[hr] at E;simp only[if_true] at E;rw[wP] at hr;have hno:=(ku HZ) hr;have hq:(q.role==0)=true:=by rw[wP];exact hr
  clear hr;obtain ⟨w',hrun,hm2,hk2⟩:=vx6 (e:={ e with place:=n.at_ }) (ku HMP) hs hno;unfold qjb qqf kqx at hrun;simp only[fD,lK] at hrun;have HM2:=hide hm2;have HK2:=hide ((((Kept.refl b w).alloc _).alloc _).trans hk2);clear hm2 hk2 hno HM hW;go_enter Tryz.func156,Tryz.ntmps156
  go_wp2
  go_end0
  rw[ku E];exact ⟨rfl,ku HM2,ku HK2⟩
def bE:ByteArray:=⟨#[]⟩
def gS (t:Tab)(s:PSet):Tab:=kkl t s.name ⟨1,0,bE,kz0⟩
def gM (kn:ByteArray)(t:Tab)(m:Tok):Tab:=kkl t m ⟨3,0,kn,kz0⟩
def gK (t:Tab)(k:PKind):Tab:=k.members.foldl (gM k.name.text) (kkl t k.name ⟨2,0,bE,kz0⟩)
def gV (t:Tab)(v:VrT):Tab:=kkl t v.name ⟨4,0,bE,v⟩
def gR (t:Tab)(r:PRule):Tab:=kkl t r.name ⟨5,0,bE,kz0⟩
def gN (t:Tab)(r:PRule):Tab:=kkl t r.name ⟨6,0,bE,kz0⟩
def gt1 (m:MdL):Tab:=m.sets.foldl gS []
def gt2 (m:MdL):Tab:=m.kinds.foldl gK (gt1 m)
def gt3 (m:MdL):Tab:=m.vars.foldl gV (gt2 m)
def gt4 (m:MdL):Tab:=m.rules.foldl gR (gt3 m)
def zx (m:MdL):Tab:=m.nevers.foldl gN (gt4 m)
structure MdSz (m:MdL):Prop where
 sets:∀ s∈m.sets,s.name.text.size≤1000
 kinds:∀ k∈m.kinds,k.name.text.size≤1000∧∀ x∈k.members,x.text.size≤1000
 vars:∀ v∈m.vars,v.name.text.size≤1000
 rules:∀ r∈m.rules,r.name.text.size≤1000
 nevers:∀ r∈m.nevers,r.name.text.size≤1000
def kv5 {α:Type}(W:World)(b:Nat)(g:Tab→α→Tab)(items:List α)(t0:Tab)(i:Value)(wr:World):Prop:=
 ∃ (k:Nat) (t:Tab),k≤items.length∧i=.int .i64 k∧(items.drop k).foldl g t=items.foldl g t0∧kkf t∧kqw wr b t∧Kept b W wr
theorem kv5.start {α:Type}{W wr:World}{b:Nat}{g:Tab→α→Tab}{items:List α}{t:Tab}(ho:kkf t)(hf:kqw wr b t)(hk:Kept b W wr):kv5 W b g items t (.int .i64 0) wr:=
 ⟨0,t,tu _,rfl,rfl,ho,hf,hk⟩
theorem kv5.next {α:Type}{W wr:World}{b:Nat}{g:Tab→α→Tab}{items:List α}{t0 t:Tab}{k:Nat}(hk:k<items.length)(h:(items.drop k).foldl g t=items.foldl g t0)(ho:kkf (g t items[k]))(hf:kqw wr b (g t items[k]))(hw:Kept b W wr) :
  kv5 W b g items t0 (.int .i64 ((k:Int)+1)) wr:=by
 refine ⟨k+1,_,hk,by go_num,?_,ho,hf,hw⟩;rw[sQ hk,Qe] at h;exact h
theorem qq8 {α:Type}{g:Tab→α→Tab}{items:List α}{t0 t:Tab}{k:Nat}(hk:¬k<items.length)(h:(items.drop k).foldl g t=items.foldl g t0):t=items.foldl g t0:=by
 rw[QM (by omega),List.foldl_nil] at h;exact h
theorem qqr (w:World)(b:Nat)(t:Tab)(n:Tok)(r:Int)(kn:ByteArray)(h:kqw w b t)(ht:kkf t)(hs:n.text.size≤1000) :
  Calls Tryz.prog 156 #[.map (some b),.agg #[.string n.text,.int .i64 n.at_],.agg #[.int .i64 r,.int .i64 0,.string kn,.string ⟨#[]⟩,.int .i64 0,.bool false,.string ⟨#[]⟩,.int .i64 0,.int .i64 0,.int .i64 0,.int .i64 0,.string ⟨#[]⟩,.int .i64 0]] w fun e w'=>e=.returned (.tuple #[])∧kqw w' b (kkl t n ⟨r,0,kn,kz0⟩)∧Kept b w w':=
 jqs w b t n ⟨r,0,kn,kz0⟩ h ht hs
theorem vjf (w:World)(b:Nat)(t:Tab)(n:Tok)(r:Int)(x:VrT)(h:kqw w b t)(ht:kkf t)(hs:n.text.size≤1000) :
  Calls Tryz.prog 156 #[.map (some b),.agg #[.string n.text,.int .i64 n.at_],.agg #[.int .i64 r,.int .i64 0,.string ⟨#[]⟩,.string x.name.text,.int .i64 x.name.at_,.bool x.arr,.string x.over.text,.int .i64 x.over.at_,.int .i64 x.si.form,.int .i64 (gu x.si.top.text),.int .i64 x.si.top.at_,.string x.si.name.text,.int .i64 x.si.name.at_]] w fun e w'=>e=.returned (.tuple #[])∧kqw w' b (kkl t n ⟨r,0,bE,x⟩)∧Kept b w w':=
 jqs w b t n ⟨r,0,bE,x⟩ h ht hs
theorem jxq (w:World)(lo:Nat)(x0 x1 x2 x3 x4:Value)(m:MdL)(h:kky lo w x0 x1 x2 x3 x4 m)(hok:MdOk m)(hszz:MdSz m) :
  Calls Tryz.prog 92 #[.agg #[x0,x1,x2,x3,x4]] w fun e w'=>∃ b,e=.returned (.map (some b))∧kqw w' b (zx m)∧kkf (zx m)∧w.heap.size≤b∧Below w.heap.size w w':=by
 obtain ⟨h0,⟨c1,h1,k1⟩,h2,⟨c3,h3,k3⟩,⟨c4,h4,k4⟩⟩:=h;obtain ⟨hok0,hok1,hok2,hok3,hok4,hok5,hok6⟩:=hok;have hok:MdOk m:=⟨hok0,hok1,hok2,hok3,hok4,hok5,hok6⟩;obtain ⟨W,hW⟩:∃ W,W=(w.alloc (.cells #[x0,x1,x2,x3,x4] 68)).alloc (.map #[] 0):=⟨_,rfl⟩;have hbW:Below w.heap.size w W:=by
  rw[hW];exact (below_alloc1 w _).trans ((below_alloc1 _ _).mono (by simp))
 have hsW:W.heap.size=w.heap.size+2:=by rw[hW];simp
 obtain ⟨b,hB⟩:∃ b,b=w.heap.size+1:=⟨_,rfl⟩;have HWE:=hide hW.symm;have HBX:=hide (show W.heap[w.heap.size]?=some (.cells #[x0,x1,x2,x3,x4] 68 (0,0)) by rw[hW];exact qp (qy _ _));have HMW:=hide (show kqw W b [] by
  rw[hW,hB];have:=qy (w.alloc (.cells #[x0,x1,x2,x3,x4] 68)) (.map #[] 0);simp only[tJ] at this;exact ⟨⟨#[],0,this,rfl⟩,List.nodup_nil,fun x hx=>by simp at hx⟩)
 have vw:∀ {e size:Nat} {v:Value} {n:Nat} {xs:List Value},w.ownsRow lo e size v n xs→∃ a cap,v=.slice a n cap∧∀ i,i<n→∃ g,a=some ⟨g,0,none⟩∧lo≤g∧g<w.heap.size∧∀ j,j<n * size→W.cell? ⟨g,j,none⟩=xs[j]?:=by
  intro e size v n xs h;obtain ⟨a,cap,e1,hv⟩:=zq h;refine ⟨a,cap,e1,fun i hi=>?_⟩;obtain ⟨g,q1,q2,q3,q4⟩:=hv i hi;exact ⟨g,q1,q2,q3,fun j hj=>(hbW.cell (p:=⟨g,j,none⟩) q3).trans (q4 j hj)⟩
 obtain ⟨a0,cp0,rfl,v0⟩:=vw h0;obtain ⟨a1,cp1,rfl,v1⟩:=vw h1;obtain ⟨a2,cp2,rfl,v2⟩:=vw h2;obtain ⟨a3,cp3,rfl,v3⟩:=vw h3;obtain ⟨a4,cp4,rfl,v4⟩:=vw h4;have HW0:=hide v0;have HW1:=hide v1;have HW2:=hide v2;have HW3:=hide v3;have HW4:=hide v4;have HC1:=hide k1;have HC3:=hide k3;have HC4:=hide k4;have HBW:=hide hbW;have HBE:=hide hB;have hB1:w.heap.size<b:=by omega
 have hB2:b<W.heap.size:=by omega
 clear h0 h1 h2 h3 h4 k1 k3 k4 v0 v1 v2 v3 v4 vw hsW hB hW hbW hok5 hok6;have HR0:=hide (show kv5 W b gS m.sets [] (.int .i64 0) W from kv5.start (fun x hx=>by simp at hx) (ku HMW) (Kept.refl _ _));have hmk:∀ W:World,(Instr.makeMap 202 none).run Tryz.prog W=.ok (.map (some W.heap.size)) (W.alloc (.map #[] 0)):=fun W=>rfl
 go_enter Tryz.func92,Tryz.ntmps92
 go_wp2_with fail
 clear hmk;rw[ku HWE,←ku HBE];go_loopw [5,20] (fun _ i wr=>kv5 W b gS m.sets [] i wr) (fun _ i _=>m.sets.length-(intOf i).toNat)
 case atStart=>exact ku HR0
 case round=>
  obtain ⟨k,t,hk,rfl,hfo,hto,hmp,hkp⟩:=hrel;have HFO:=hide hfo;have HTO:=hide hto;have HMP:=hide hmp;have HK:=hide hkp;have hsz:=hkp.size;clear hfo hto hmp HR0;by_cases hlt:k<m.sets.length
  ·obtain ⟨g,rfl,hg1,hg2,hc⟩:=ku HW0 k hlt;have hgB:g≠b:=by omega
   have fl:=fun j (hj:j<4)=>kjx qj7 4 (fun _=>rfl) m.sets k j hlt hj
   have e0:=hkp.cell (a:=⟨g,k * 4+0,none⟩) hgB ((hc (k * 4+0) (by omega)).trans (fl 0 (by omega)));have e1:=hkp.cell (a:=⟨g,k * 4+1,none⟩) hgB ((hc (k * 4+1) (by omega)).trans (fl 1 (by omega)));have e2:=hkp.cell (a:=⟨g,k * 4+2,none⟩) hgB ((hc (k * 4+2) (by omega)).trans (fl 2 (by omega)));have e3:=hkp.cell (a:=⟨g,k * 4+3,none⟩) hgB ((hc (k * 4+3) (by omega)).trans (fl 3 (by omega)));simp only[qj7,sW,sK,nV] at e0 e1 e2 e3;have HNX:=hide (fun (w':World) (ho:kkf (gS t (m.sets[k]))) (hf:kqw w' b (gS t (m.sets[k]))) (hw:Kept b W w')=>kv5.next (W:=W) (wr:=w') (b:=b) (g:=gS) (items:=m.sets) (t0:=[]) (t:=t) hlt (ku HFO) ho hf hw);have hns:=hszz.sets _ (rJ hlt);generalize m.sets[k]=p at e0 e1 e2 e3 HNX hns;clear hc fl hkp HFO;go_wp2_with fail
   refine (qqr _ b t p.name 1 ⟨#[]⟩ ((ku HMP).kept (below_alloc1 _ _)) (ku HTO) hns).mono ?_;rintro e w1 ⟨rfl,h1,hk1⟩;have HN:=hide (ku HNX _ (ky1 (ku HTO) (by simp)) h1 (((ku HK).alloc _).trans hk1));clear h1 hk1 HNX e0 e1 e2 e3;go_wp2
   go_roundw
   case rel=>exact ku HN
   case measure=>simp[intOf];omega
  ·have hd:=qq8 hlt (ku HFO);rw[hd] at HMP HTO;have hbx:=hkp.row (b:=w.heap.size) (by omega) (ku HBX);obtain ⟨_,qx,_,_,_,_⟩:=zo hbx;have HR1:=hide (show kv5 W b gK m.kinds (gt1 m) (.int .i64 0) wr from kv5.start (ku HTO) (ku HMP) (ku HK));clear hd hbx hkp HMP HTO HK HFO;go_wp2_with fail
   go_loopw [7,9,33] (fun _ _ i wr=>kv5 W b gK m.kinds (gt1 m) i wr) (fun _ _ i _=>m.kinds.length-(intOf i).toNat)
   case atStart=>exact ku HR1
   case round=>
    obtain ⟨k,t,hk,rfl,hfo,hto,hmp,hkp⟩:=hrel;have HFO:=hide hfo;have HTO:=hide hto;have HMP:=hide hmp;have HK:=hide hkp;have hsz:=hkp.size;clear hfo hto hmp HR1;by_cases hlt:k<m.kinds.length
    ·obtain ⟨g,rfl,hg1,hg2,hc⟩:=ku HW1 k hlt;have hgB:g≠b:=by omega
     obtain ⟨ma,mn,mc,fl0,fl1,fl2,hm⟩:=zz4 k hlt (ku HC1);have e0:=hkp.cell (a:=⟨g,k * 3,none⟩) hgB ((hc (k * 3) (by omega)).trans fl0);have e1:=hkp.cell (a:=⟨g,k * 3+1,none⟩) hgB ((hc (k * 3+1) (by omega)).trans fl1);have e2:=hkp.cell (a:=⟨g,k * 3+2,none⟩) hgB ((hc (k * 3+2) (by omega)).trans fl2);have HNX:=hide (fun (w':World) (ho:kkf (gK t (m.kinds[k]))) (hf:kqw w' b (gK t (m.kinds[k]))) (hw:Kept b W w')=>kv5.next (W:=W) (wr:=w') (b:=b) (g:=gK) (items:=m.kinds) (t0:=(gt1 m)) (t:=t) hlt (ku HFO) ho hf hw);have hns:=hszz.kinds _ (rJ hlt);have hml:=hok.members _ (rJ hlt);have HM:=hide hm;generalize m.kinds[k]=p at e0 e1 e2 HNX hns HM hml;clear hc fl0 fl1 fl2 hm hkp HFO;go_wp2_with fail
     refine (qqr _ b t p.name 2 ⟨#[]⟩ ((ku HMP).kept (below_alloc1 _ _)) (ku HTO) hns.1).mono ?_;rintro e w1 ⟨rfl,h1,hk1⟩;have hv1:=hk1.row (b:=wr.heap.size) (by omega) (qy _ _);have HK1:=hide (((ku HK).alloc _).trans hk1);have hz1:=(ku HK1).size;have hvl:=wX hv1;have HT1:=hide (ky1 (t:=t) (ku HTO) (n:=p.name) (e:=⟨2,0,bE,kz0⟩) (by simp));obtain ⟨_,_,g2,_⟩:=row3 hv1;have HV1:=hide hv1;obtain ⟨mb,mcap,hmeq,hmv⟩:=zq (ku HM);injection hmeq with q1 q2 q3;subst q1;subst q2;subst q3;have HMV:=hide hmv;have HRI:=hide (show kv5 w1 b (gM p.name.text) p.members (kkl t p.name ⟨2,0,bE,kz0⟩) (.int .i64 0) w1 from kv5.start (ku HT1) h1 (Kept.refl _ _));clear hmv h1 hk1 hv1 e0 e1 e2;go_wp2_with fail
     go_loopw [9,45] (fun _ i wr=>kv5 w1 b (gM p.name.text) p.members (kkl t p.name ⟨2,0,bE,kz0⟩) i wr) (fun _ i _=>p.members.length-(intOf i).toNat)
     case atStart=>exact ku HRI
     case round=>
      obtain ⟨k5,t5,hk5,rfl,hfo5,hto5,hmp5,hkp5⟩:=hrel;have HFO5:=hide hfo5;have HTO5:=hide hto5;have HMP5:=hide hmp5;have HK5:=hide hkp5;have hsz5:=hkp5.size;clear hfo5 hto5 hmp5 HRI;by_cases hlt5:k5<p.members.length
      ·obtain ⟨g5,rfl,hg51,hg52,hc5⟩:=ku HMV k5 hlt5;have hgB5:g5≠b:=by omega
       have fl:=fun j (hj:j<2)=>kjx kqq 2 (fun _=>rfl) p.members k5 j hlt5 hj
       have e0:=hkp5.cell (a:=⟨g5,k5 * 2+0,none⟩) hgB5 ((ku HK1).cell hgB5 (((ku HBW).cell (p:=⟨g5,k5 * 2+0,none⟩) hg52).trans ((hc5 (k5 * 2+0) (by omega)).trans (fl 0 (by omega)))));have e1:=hkp5.cell (a:=⟨g5,k5 * 2+1,none⟩) hgB5 ((ku HK1).cell hgB5 (((ku HBW).cell (p:=⟨g5,k5 * 2+1,none⟩) hg52).trans ((hc5 (k5 * 2+1) (by omega)).trans (fl 1 (by omega)))));simp only[kqq,sW,sK,nV] at e0 e1;have hv5:=hkp5.row (by omega) (ku HV1);obtain ⟨v0,_⟩:=row3 hv5;have hvl5:=wX hv5;have hvn5:=Nat.ne_of_lt hvl5;have hns5:=hns.2 _ (rJ hlt5);have HNX5:=hide (fun (w':World) (ho:kkf (gM p.name.text t5 (p.members[k5]))) (hf:kqw w' b (gM p.name.text t5 (p.members[k5]))) (hw:Kept b w1 w')=>kv5.next (W:=w1) (wr:=w') (b:=b) (g:=gM p.name.text) (items:=p.members) (t0:=kkl t p.name ⟨2,0,bE,kz0⟩) (t:=t5) hlt5 (ku HFO5) ho hf hw);generalize p.members[k5]=y5 at e0 e1 HNX5 hns5;clear hc5 fl hkp5 HFO5 hv5;go_wp2_with fail
       refine (qqr _ b t5 y5 3 p.name.text ((ku HMP5).kept (below_alloc1 _ _)) (ku HTO5) hns5).mono ?_;rintro e w6 ⟨rfl,h6,hk6⟩;have HN:=hide (ku HNX5 _ (ky1 (ku HTO5) (by simp)) h6 (((ku HK5).alloc _).trans hk6));clear h6 hk6 HNX5;go_wp2
       go_roundw
       case rel=>exact ku HN
       case measure=>simp[intOf];omega
      ·have hd5:=qq8 hlt5 (ku HFO5);rw[hd5] at HMP5 HTO5;have HN:=hide (ku HNX _ (ku HTO5) (ku HMP5) ((ku HK1).trans (ku HK5)));clear hd5 HNX;go_wp2
       go_roundw
       case rel=>exact ku HN
       case measure=>simp[intOf];omega
    ·have hd:=qq8 hlt (ku HFO);rw[hd] at HMP HTO;have hbx:=hkp.row (b:=w.heap.size) (by omega) (ku HBX);obtain ⟨_,_,qx,_,_,_⟩:=zo hbx;have HR2:=hide (show kv5 W b gV m.vars (gt2 m) (.int .i64 0) wr from kv5.start (ku HTO) (ku HMP) (ku HK));clear hd hbx hkp HMP HTO HK HFO;go_wp2_with fail
     go_loopw [11,61] (fun _ i wr=>kv5 W b gV m.vars (gt2 m) i wr) (fun _ i _=>m.vars.length-(intOf i).toNat)
     case atStart=>exact ku HR2
     case round=>
      obtain ⟨k,t,hk,rfl,hfo,hto,hmp,hkp⟩:=hrel;have HFO:=hide hfo;have HTO:=hide hto;have HMP:=hide hmp;have HK:=hide hkp;have hsz:=hkp.size;clear hfo hto hmp HR2;by_cases hlt:k<m.vars.length
      ·obtain ⟨g,rfl,hg1,hg2,hc⟩:=ku HW2 k hlt;have hgB:g≠b:=by omega
       have fl:=fun j (hj:j<10)=>kjx kqx 10 (fun _=>rfl) m.vars k j hlt hj
       have e0:=hkp.cell (a:=⟨g,k * 10+0,none⟩) hgB ((hc (k * 10+0) (by omega)).trans (fl 0 (by omega)));have e1:=hkp.cell (a:=⟨g,k * 10+1,none⟩) hgB ((hc (k * 10+1) (by omega)).trans (fl 1 (by omega)));have e2:=hkp.cell (a:=⟨g,k * 10+2,none⟩) hgB ((hc (k * 10+2) (by omega)).trans (fl 2 (by omega)));have e3:=hkp.cell (a:=⟨g,k * 10+3,none⟩) hgB ((hc (k * 10+3) (by omega)).trans (fl 3 (by omega)));have e4:=hkp.cell (a:=⟨g,k * 10+4,none⟩) hgB ((hc (k * 10+4) (by omega)).trans (fl 4 (by omega)));have e5:=hkp.cell (a:=⟨g,k * 10+5,none⟩) hgB ((hc (k * 10+5) (by omega)).trans (fl 5 (by omega)));have e6:=hkp.cell (a:=⟨g,k * 10+6,none⟩) hgB ((hc (k * 10+6) (by omega)).trans (fl 6 (by omega)));have e7:=hkp.cell (a:=⟨g,k * 10+7,none⟩) hgB ((hc (k * 10+7) (by omega)).trans (fl 7 (by omega)));have e8:=hkp.cell (a:=⟨g,k * 10+8,none⟩) hgB ((hc (k * 10+8) (by omega)).trans (fl 8 (by omega)));have e9:=hkp.cell (a:=⟨g,k * 10+9,none⟩) hgB ((hc (k * 10+9) (by omega)).trans (fl 9 (by omega)));simp only[kqx,sW,sK,nV] at e0 e1 e2 e3 e4 e5 e6 e7 e8 e9;have HNX:=hide (fun (w':World) (ho:kkf (gV t (m.vars[k]))) (hf:kqw w' b (gV t (m.vars[k]))) (hw:Kept b W w')=>kv5.next (W:=W) (wr:=w') (b:=b) (g:=gV) (items:=m.vars) (t0:=(gt2 m)) (t:=t) hlt (ku HFO) ho hf hw);have hns:=hszz.vars _ (rJ hlt);generalize m.vars[k]=p at e0 e1 e2 e3 e4 e5 e6 e7 e8 e9 HNX hns;clear hc fl hkp HFO;go_wp2_with fail
       refine (vjf _ b t p.name 4 p ((ku HMP).kept (below_alloc1 _ _)) (ku HTO) hns).mono ?_;rintro e w1 ⟨rfl,h1,hk1⟩;have HN:=hide (ku HNX _ (ky1 (ku HTO) (by simp)) h1 (((ku HK).alloc _).trans hk1));clear h1 hk1 HNX e0 e1 e2 e3 e4 e5 e6 e7 e8 e9;go_wp2
       go_roundw
       case rel=>exact ku HN
       case measure=>simp[intOf];omega
      ·have hd:=qq8 hlt (ku HFO);rw[hd] at HMP HTO;have hbx:=hkp.row (b:=w.heap.size) (by omega) (ku HBX);obtain ⟨_,_,_,qx,_,_⟩:=zo hbx;have HR3:=hide (show kv5 W b gR m.rules (gt3 m) (.int .i64 0) wr from kv5.start (ku HTO) (ku HMP) (ku HK));clear hd hbx hkp HMP HTO HK HFO;go_wp2_with fail
       go_loopw [13,75] (fun _ i wr=>kv5 W b gR m.rules (gt3 m) i wr) (fun _ i _=>m.rules.length-(intOf i).toNat)
       case atStart=>exact ku HR3
       case round=>
        obtain ⟨k,t,hk,rfl,hfo,hto,hmp,hkp⟩:=hrel;have HFO:=hide hfo;have HTO:=hide hto;have HMP:=hide hmp;have HK:=hide hkp;have hsz:=hkp.size;clear hfo hto hmp HR3;by_cases hlt:k<m.rules.length
        ·obtain ⟨g,rfl,hg1,hg2,hc⟩:=ku HW3 k hlt;have hgB:g≠b:=by omega
         obtain ⟨pa,pn,pc,gp,ba,bn,bc,bcs,⟨fl0,fl1,fl2,fl3,fl4⟩,_⟩:=zyw k hlt (ku HC3);have e0:=hkp.cell (a:=⟨g,k * 5,none⟩) hgB ((hc (k * 5) (by omega)).trans fl0);have e1:=hkp.cell (a:=⟨g,k * 5+1,none⟩) hgB ((hc (k * 5+1) (by omega)).trans fl1);have e2:=hkp.cell (a:=⟨g,k * 5+2,none⟩) hgB ((hc (k * 5+2) (by omega)).trans fl2);have e3:=hkp.cell (a:=⟨g,k * 5+3,none⟩) hgB ((hc (k * 5+3) (by omega)).trans fl3);have e4:=hkp.cell (a:=⟨g,k * 5+4,none⟩) hgB ((hc (k * 5+4) (by omega)).trans fl4);have HNX:=hide (fun (w':World) (ho:kkf (gR t (m.rules[k]))) (hf:kqw w' b (gR t (m.rules[k]))) (hw:Kept b W w')=>kv5.next (W:=W) (wr:=w') (b:=b) (g:=gR) (items:=m.rules) (t0:=(gt3 m)) (t:=t) hlt (ku HFO) ho hf hw);have hns:=hszz.rules _ (rJ hlt);generalize m.rules[k]=p at e0 e1 e2 e3 e4 HNX hns;clear hc fl0 fl1 fl2 fl3 fl4 hkp HFO;go_wp2_with fail
         refine (qqr _ b t p.name 5 ⟨#[]⟩ ((ku HMP).kept (below_alloc1 _ _)) (ku HTO) hns).mono ?_;rintro e w1 ⟨rfl,h1,hk1⟩;have HN:=hide (ku HNX _ (ky1 (ku HTO) (by simp)) h1 (((ku HK).alloc _).trans hk1));clear h1 hk1 HNX e0 e1 e2 e3 e4;go_wp2
         go_roundw
         case rel=>exact ku HN
         case measure=>simp[intOf];omega
        ·have hd:=qq8 hlt (ku HFO);rw[hd] at HMP HTO;have hbx:=hkp.row (b:=w.heap.size) (by omega) (ku HBX);obtain ⟨_,_,_,_,qx,_⟩:=zo hbx;have HR4:=hide (show kv5 W b gN m.nevers (gt4 m) (.int .i64 0) wr from kv5.start (ku HTO) (ku HMP) (ku HK));clear hd hbx hkp HMP HTO HK HFO;go_wp2_with fail
         go_loopw [15,88] (fun _ i wr=>kv5 W b gN m.nevers (gt4 m) i wr) (fun _ i _=>m.nevers.length-(intOf i).toNat)
         case atStart=>exact ku HR4
         case round=>
          obtain ⟨k,t,hk,rfl,hfo,hto,hmp,hkp⟩:=hrel;have HFO:=hide hfo;have HTO:=hide hto;have HMP:=hide hmp;have HK:=hide hkp;have hsz:=hkp.size;clear hfo hto hmp HR4;by_cases hlt:k<m.nevers.length
          ·obtain ⟨g,rfl,hg1,hg2,hc⟩:=ku HW4 k hlt;have hgB:g≠b:=by omega
           obtain ⟨pa,pn,pc,gp,⟨fl0,fl1,fl2,fl3⟩,_⟩:=zyi k hlt (ku HC4);have e0:=hkp.cell (a:=⟨g,k * 4,none⟩) hgB ((hc (k * 4) (by omega)).trans fl0);have e1:=hkp.cell (a:=⟨g,k * 4+1,none⟩) hgB ((hc (k * 4+1) (by omega)).trans fl1);have e2:=hkp.cell (a:=⟨g,k * 4+2,none⟩) hgB ((hc (k * 4+2) (by omega)).trans fl2);have e3:=hkp.cell (a:=⟨g,k * 4+3,none⟩) hgB ((hc (k * 4+3) (by omega)).trans fl3);have HNX:=hide (fun (w':World) (ho:kkf (gN t (m.nevers[k]))) (hf:kqw w' b (gN t (m.nevers[k]))) (hw:Kept b W w')=>kv5.next (W:=W) (wr:=w') (b:=b) (g:=gN) (items:=m.nevers) (t0:=(gt4 m)) (t:=t) hlt (ku HFO) ho hf hw);have hns:=hszz.nevers _ (rJ hlt);generalize m.nevers[k]=p at e0 e1 e2 e3 HNX hns;clear hc fl0 fl1 fl2 fl3 hkp HFO;go_wp2_with fail
           refine (qqr _ b t p.name 6 ⟨#[]⟩ ((ku HMP).kept (below_alloc1 _ _)) (ku HTO) hns).mono ?_;rintro e w1 ⟨rfl,h1,hk1⟩;have HN:=hide (ku HNX _ (ky1 (ku HTO) (by simp)) h1 (((ku HK).alloc _).trans hk1));clear h1 hk1 HNX e0 e1 e2 e3;go_wp2
           go_roundw
           case rel=>exact ku HN
           case measure=>simp[intOf];omega
          ·have hd:=qq8 hlt (ku HFO);rw[hd] at HMP HTO;have hbx:=hkp.row (b:=w.heap.size) (by omega) (ku HBX);clear hd hbx HFO;go_wp2
           go_ret
           refine ⟨b,rfl,ku HMP,ku HTO,by omega,(ku HBW).trans (Kept.toBelow (B:=w.heap.size) (ku HK) (by omega) (by omega))⟩
end Go.Proofs.YtpmcnonmkghokaaGreatDoor
namespace Go.Proofs.YtpmcnonmkghokaaGreatDoor
open Go.RowKit
attribute [local go_sem ↓] Go.wp_at_zero Go.wp_at_succ
structure Nm (w:World)(B b:Nat)(tab:Tab)(ps:Value)(z:Int):Prop where
 nm:w.heap[B]?=some (.cells #[.map (some b),ps,.bool (decide (0≤z)),.int .i64 (fAt z)] 296 (0,0))
 tab:kqw w b tab
 ne:b≠B
theorem Nm.below {w w':World}{B b:Nat}{tab:Tab}{ps:Value}{z:Int}(h:Nm w B b tab ps z)(hb:Below w.heap.size w w'):Nm w' B b tab ps z:=
 ⟨by rw[hb.block B (wX h.nm)];exact h.nm,h.tab.kept hb,h.ne⟩
theorem Nm.alloc {w:World}{B b:Nat}{tab:Tab}{ps:Value}{z:Int}(h:Nm w B b tab ps z)(o:Obj):Nm (w.alloc o) B b tab ps z:=h.below (below_alloc1 _ _)
theorem Nm.drew {w:World}{B b:Nat}{tab:Tab}{ps:Value}{z:Int}(h:Nm w B b tab ps z):Nm w.drew B b tab ps z:=h.below ((Below.refl _ _).drew)
theorem Nm.note {w:World}{B b:Nat}{tab:Tab}{ps:Value}{z:Int}(h:Nm w B b tab ps z){a:Int}(ha:0≤a):Nm (kyb w B 2 z a) B b tab ps (uf z a):=by
 refine ⟨?_,?_,h.ne⟩
 ·rw[qyf z a ha];unfold kyb;by_cases hh:z<0∨a<z
  ·rw[if_pos hh,if_pos hh,show decide (0≤a)=true by simp;omega,show fAt a=a by unfold fAt;rw[if_neg (by omega)]];exact heap_setCell_same _ B 3 _ _ _ (heap_setCell_same _ B 2 _ _ _ h.nm)
  ·rw[if_neg hh,if_neg hh];exact h.nm
 ·unfold kyb;split
  ·exact (h.tab.other (by simpa using h.ne) _).other (by simpa using h.ne) _
  ·exact h.tab
theorem Nm.cells {w:World}{B b:Nat}{tab:Tab}{ps:Value}{z:Int}(h:Nm w B b tab ps z) :
  w.cell? ⟨B,0,none⟩=some (.map (some b))∧w.cell? ⟨B,1,none⟩=some ps∧w.cell? ⟨B,2,none⟩=some (.bool (decide (0≤z)))∧w.cell? ⟨B,3,none⟩=some (.int .i64 (fAt z))∧w.frozen? ⟨B,1,none⟩=false∧w.frozen? ⟨B,2,none⟩=false∧w.frozen? ⟨B,3,none⟩=false:=by
 obtain ⟨a,b,c,d,_,f,g,i⟩:=kx8 h.nm;exact ⟨a,b,c,d,f,g,i⟩
def kqu (c:Bool)(z:Int)(n:Tok):Int:=if c then uf z n.at_ else z
def kqh (tab:Tab)(n:Tok):Bool:=!((qo tab n.text.toList).place==n.at_)
theorem kwm (w:World)(B b:Nat)(tab:Tab)(ps:Value)(z:Int)(n:Tok)(h:Nm w B b tab ps z)(hs:n.text.size≤1000) :
  Calls Tryz.prog 157 #[.pointer (some ⟨B,0,none⟩),ptV n] w fun e w'=>e=.returned (.tuple #[])∧Nm w' B b tab ps (kqu (kqh tab n) z n)∧Kept B w w':=by
 have hBl:=wX h.nm;have h1:=h.alloc (.cells #[.string n.text,.int .i64 n.at_] 107);obtain ⟨c0,c1,c2,c3,f1,f2,f3⟩:=h1.cells;have hl:=kxi h1.drew.tab hs;have hf:=jxv (qo tab n.text.toList);have H1:=hide h1;have E:=hide (show kqu (kqh tab n) z n=if !((qo tab n.text.toList).place==n.at_) then uf z n.at_ else z from rfl);generalize qo tab n.text.toList=q at *;clear h h1;unfold ptV;go_enter Tryz.func157,Tryz.ntmps157
 go_wp2
 go_region
 cases hc:(q.place != (n.at_:Int))
 ·have hE:(!(q.place==(n.at_:Int)))=false:=hc;rw[hE] at E;go_wp2
  go_end0
  rw[ku E];exact ⟨rfl,(ku H1).drew,(Kept.kq5 _).drew⟩
 ·have hE:(!(q.place==(n.at_:Int)))=true:=hc;rw[hE] at E;have HNT:=hide (note_any ((w.alloc (.cells #[.string n.text,.int .i64 n.at_] 107)).drew.drew) B 2 z n.at_ c2 c3 f2 f3);go_wp2
  go_region_law ((go_simp;go_at_call 212;refine (ku HNT).mono ?_;rintro e w1 ⟨rfl,hw⟩;dsimp only))
  all_goals
   subst hw;go_wp2
   go_end0
   rw[ku E];exact ⟨rfl,((ku H1).drew.drew).note (by omega),((Kept.kq5 _).drew.drew).trans (Kept.note _ _ _ _ _)⟩
def qvq (tab:Tab)(n:Tok):Bool:=!((qo tab n.text.toList).role==1)
theorem zvb (w:World)(B b:Nat)(tab:Tab)(ps:Value)(z:Int)(n:Tok)(h:Nm w B b tab ps z)(hs:n.text.size≤1000) :
  Calls Tryz.prog 213 #[.pointer (some ⟨B,0,none⟩),ptV n] w fun e w'=>e=.returned (.tuple #[])∧Nm w' B b tab ps (kqu (qvq tab n) z n)∧Kept B w w':=by
 have hBl:=wX h.nm;have h1:=h.alloc (.cells #[.string n.text,.int .i64 n.at_] 107);obtain ⟨c0,c1,c2,c3,f1,f2,f3⟩:=h1.cells;have hl:=kxi h1.drew.tab hs;have hf:=kkq (qo tab n.text.toList);have H1:=hide h1;have E:=hide (show kqu (qvq tab n) z n=if !((qo tab n.text.toList).role==1) then uf z n.at_ else z from rfl);generalize qo tab n.text.toList=q at *;clear h h1;unfold ptV;go_enter Tryz.func213,Tryz.ntmps213
 go_wp2
 go_region
 cases hc:(q.role != 1)
 ·have hE:(!(q.role==1))=false:=hc;rw[hE] at E;go_wp2
  go_end0
  rw[ku E];exact ⟨rfl,(ku H1).drew,(Kept.kq5 _).drew⟩
 ·have hE:(!(q.role==1))=true:=hc;rw[hE] at E;have HNT:=hide (note_any ((w.alloc (.cells #[.string n.text,.int .i64 n.at_] 107)).drew.drew) B 2 z n.at_ c2 c3 f2 f3);go_wp2
  go_region_law ((go_simp;go_at_call 212;refine (ku HNT).mono ?_;rintro e w1 ⟨rfl,hw⟩;dsimp only))
  all_goals
   subst hw;go_wp2
   go_end0
   rw[ku E];exact ⟨rfl,((ku H1).drew.drew).note (by omega),((Kept.kq5 _).drew.drew).trans (Kept.note _ _ _ _ _)⟩
def jje (tab:Tab)(n:Tok):Bool:=!((qo tab n.text.toList).role==2)&&qvq tab n
theorem jk6 (w:World)(B b:Nat)(tab:Tab)(ps:Value)(z:Int)(n:Tok)(h:Nm w B b tab ps z)(hs:n.text.size≤1000) :
  Calls Tryz.prog 214 #[.pointer (some ⟨B,0,none⟩),ptV n] w fun e w'=>e=.returned (.tuple #[])∧Nm w' B b tab ps (kqu (jje tab n) z n)∧Kept B w w':=by
 have hBl:=wX h.nm;have h1:=h.alloc (.cells #[.string n.text,.int .i64 n.at_] 107);obtain ⟨c0,c1,c2,c3,f1,f2,f3⟩:=h1.cells;have hl:=kxi h1.drew.tab hs;have hf:=kkq (qo tab n.text.toList);have H1:=hide h1;have E:=hide (show jje tab n=(!((qo tab n.text.toList).role==2)&&qvq tab n) from rfl);have HST:=hide (zvb ((w.alloc (.cells #[.string n.text,.int .i64 n.at_] 107)).drew) B b tab ps z n h1.drew hs);generalize qo tab n.text.toList=q at *;clear h h1;unfold ptV at *;go_enter Tryz.func214,Tryz.ntmps214
 go_wp2
 go_region
 cases hc:(q.role != 2)
 ·have hE:(!(q.role==2))=false:=hc;rw[hE] at E;go_wp2
  go_end0
  rw[ku E];exact ⟨rfl,(ku H1).drew,(Kept.kq5 _).drew⟩
 ·have hE:(!(q.role==2))=true:=hc;rw[hE,Qz] at E;go_wp2_with fail
  refine (ku HST).mono ?_;rintro e w1 ⟨rfl,h2,hk2⟩;have H2:=hide h2;have HK2:=hide hk2;clear h2 hk2;go_wp2
  go_end0
  rw[ku E];exact ⟨rfl,ku H2,((Kept.kq5 _).drew).trans (ku HK2)⟩
def vzn (tab:Tab)(z:Int)(x:VrT):Int:=
 if x.si.form==2 then kqu (jje tab x.si.name) (kqu (x.arr&&qvq tab x.over) z x.over) x.si.name else kqu (x.arr&&qvq tab x.over) z x.over
theorem zwl (w:World)(B b:Nat)(tab:Tab)(ps:Value)(z:Int)(x:VrT)(h:Nm w B b tab ps z)(hs:x.over.text.size≤1000)(hs2:x.si.name.text.size≤1000) :
  Calls Tryz.prog 158 #[.pointer (some ⟨B,0,none⟩),vrV x] w fun e w'=>e=.returned (.tuple #[])∧Nm w' B b tab ps (vzn tab z x)∧Kept B w w':=by
 have hBl:=wX h.nm;have E:=hide (show vzn tab z x=if x.si.form==2 then kqu (jje tab x.si.name) (kqu (x.arr&&qvq tab x.over) z x.over) x.si.name else kqu (x.arr&&qvq tab x.over) z x.over from rfl);unfold vrV kqx;go_enter Tryz.func158,Tryz.ntmps158
 cases ha:x.arr
 ·rw[ha,lD,show kqu false z x.over=z from rfl] at E;cases hf:(x.si.form==2)
  ·rw[hf] at E;go_wp2
   go_end0
   rw[ku E];exact ⟨rfl,h.alloc _,Kept.kq5 _⟩
  ·rw[hf] at E;go_wp2_with fail
   refine (jk6 _ B b tab ps z x.si.name (h.alloc _) hs2).mono ?_;rintro e w1 ⟨rfl,h1,hk1⟩;go_wp2
   go_end0
   rw[ku E];exact ⟨rfl,h1,(Kept.kq5 _).trans hk1⟩
 ·rw[ha,Qz] at E;go_wp2_with fail
  refine (zvb _ B b tab ps z x.over (h.alloc _) hs).mono ?_;rintro e w1 ⟨rfl,h1,hk1⟩;have hv:=hk1.row (b:=w.heap.size) (by omega) (qy _ _);obtain ⟨⟨_,_,_,_,_,g5,_,_,g8,g9⟩,_⟩:=kk5 hv;have H1:=hide h1;have HK1:=hide ((Kept.kq5 _).trans hk1);clear hv h1 hk1 h;cases hf:(x.si.form==2)
  ·rw[hf] at E;go_wp2
   go_end0
   rw[ku E];exact ⟨rfl,ku H1,ku HK1⟩
  ·rw[hf] at E;go_wp2_with fail
   refine (jk6 _ B b tab ps _ x.si.name (ku H1) hs2).mono ?_;rintro e w2 ⟨rfl,h2,hk2⟩;go_wp2
   go_end0
   rw[ku E];exact ⟨rfl,h2,(ku HK1).trans hk2⟩
theorem kyg {P:Program}{fn:Func}{p t1:Tmp}{ty:TypeId}(h:fn.results=#[.cell p ty,.tmp t1])(tmps:Array Value)(w:World)(g:Nat)(t:TypeId)(cs:Array Value)(fr:Nat × Nat)(d:TypeDesc)
  (hp:tmps.getD p undef=.pointer (some ⟨g,0,none⟩)) (hg:w.heap[g]?=some (.cells cs t fr))
  (hu:P.underlying ty=some d) (hd:(match d with|.struct _|.array _ _=>true|_=>false)=true) (hi:(P.info? ty).map (·.size)=some cs.size) :
  (results fn tmps).run P w=.ok (.tuple #[.agg cs,tmps.getD t1 undef]) w:=by
 have hp':tmps[p]?.getD undef=.pointer (some ⟨g,0,none⟩):=by simpa using hp
 simp[results,h,hp',asAddr,run_loadVar_row w g t ty cs fr d hg hu hd hi]
def fpP:List PP→List UInt8→PP
 | [],_=>⟨jk,jk⟩
 | p::l,s=>if p.name.text.toList==s then p else fpP l s
def fpB (l:List PP)(s:List UInt8):Bool:=l.any (fun p=>p.name.text.toList==s)
theorem qvt:∀ (l:List PP) (k:Nat) (s:List UInt8),(∀ i (hi:i<l.length),i<k→(l[i].name.text.toList==s)=false)→fpP l s=fpP (l.drop k) s∧fpB l s=fpB (l.drop k) s
 | [],k,s,_=>by simp
 | p::l,0,s,_=>⟨rfl,rfl⟩
 | p::l,k+1,s,h=>by
  have h0:=h 0 (by simp) (by omega);simp only[fB] at h0;obtain ⟨a,b⟩:=qvt l k s (fun i hi hk=>by have:=h (i+1) (by simpa using hi) (by omega);simpa using this);constructor
  ·rw[fpP,h0];exact a
  ·unfold fpB at *;rw[Qi,h0,lQ];exact b
theorem kk1 (w:World)(lo:Nat)(l:List PP)(x:Value)(n:Tok)(ho:w.ownsRow lo 352 4 x l.length (jw l))(hl:l.length≤1000) :
  Calls Tryz.prog 215 #[x,ptV n] w fun e w'=>e=.returned (.tuple #[paV (fpP l n.text.toList),.bool (fpB l n.text.toList)])∧Below w.heap.size w w':=by
 obtain ⟨xa,cap,rfl,hview⟩:=zq ho;obtain ⟨W,hW⟩:∃ W,W=(w.alloc (.cells #[.string n.text,.int .i64 n.at_] 107)).alloc (.cells #[.string ⟨#[]⟩,.int .i64 0,.string ⟨#[]⟩,.int .i64 0] 352):=⟨_,rfl⟩;have hbW:Below w.heap.size w W:=by rw[hW];exact (below_alloc1 w _).trans ((below_alloc1 _ _).mono (by simp))
 have hsW:w.heap.size+1<W.heap.size:=by rw[hW];simp
 have HNM:=hide (show W.heap[w.heap.size]?=some (.cells #[.string n.text,.int .i64 n.at_] 107 (0,0)) by rw[hW];exact qp (qy _ _));have HB0:=hide (show W.heap[w.heap.size+1]?=some (.cells #[.string ⟨#[]⟩,.int .i64 0,.string ⟨#[]⟩,.int .i64 0] 352 (0,0)) by
  rw[hW];have:=qy (w.alloc (.cells #[.string n.text,.int .i64 n.at_] 107)) (.cells #[.string ⟨#[]⟩,.int .i64 0,.string ⟨#[]⟩,.int .i64 0] 352);simp only[tJ] at this;exact this)
 have HW:=hide hview;have HBW:=hide hbW;have HWE:=hide hW.symm;clear hview ho hbW hW;unfold ptV;go_enter Tryz.func215,Tryz.ntmps215
 go_wp2_with fail
 rw[ku HWE];go_loopw [7,10] (fun _ i wr=>∃ k:Nat,k≤l.length∧i=.int .i64 k∧(∀ i (hi:i<l.length),i<k→(l[i].name.text.toList==n.text.toList)=false)∧Below W.heap.size W wr) (fun _ i _=>l.length-(intOf i).toNat)
 case atStart=>exact ⟨0,tu _,rfl,fun i _ h=>by omega,Below.refl _ _⟩
 case round=>
  obtain ⟨k,hk,rfl,hno,hb⟩:=hrel;have HNO:=hide hno;have HB:=hide hb;have hsz:=hb.size;have hnm:=(hb.block w.heap.size (by omega)).trans (ku HNM);have hb0:=(hb.block (w.heap.size+1) (by omega)).trans (ku HB0);obtain ⟨m0,m1,_,_⟩:=yj hnm;obtain ⟨d0,d1,d2,d3,f0,f1,f2,f3⟩:=kx8 hb0;have HB0':=hide hb0;have hml:=wX hnm;have hbl:=wX hb0;clear hno hnm hb0;by_cases hlt:k<l.length
  ·obtain ⟨g,rfl,hg1,hg2,hc⟩:=ku HW k hlt;have fl:=fun j (hj:j<4)=>kjx kjr 4 (fun _=>rfl) l k j hlt hj
   have cc:∀ j,j<l.length * 4→wr.cell? ⟨g,j,none⟩=(jw l)[j]?:=fun j hj=>(hb.cell (p:=⟨g,j,none⟩) (by simp;omega)).trans (((ku HBW).cell (p:=⟨g,j,none⟩) hg2).trans (hc j hj))
   have e0:=(cc (k * 4+0) (by omega)).trans (fl 0 (by omega));have e1:=(cc (k * 4+1) (by omega)).trans (fl 1 (by omega));have e2:=(cc (k * 4+2) (by omega)).trans (fl 2 (by omega));have e3:=(cc (k * 4+3) (by omega)).trans (fl 3 (by omega));simp only[kjr,sW,sK,nV] at e0 e1 e2 e3;have hP:=qvt l k n.text.toList (ku HNO);rw[sQ hlt] at hP;have HP:=hide hP;have HST:=hide (fun (hq:(l[k].name.text.toList==n.text.toList)=false)=>(show ∀ i (hi:i<l.length),i<k+1→(l[i].name.text.toList==n.text.toList)=false from fun i hi h=>by
    by_cases e:i=k
    ·subst e;exact hq
    ·exact (ku HNO) i hi (by omega)))
   generalize l[k]=p at e0 e1 e2 e3 HP HST;clear cc fl hc hP hb;cases hq:(p.name.text.toList==n.text.toList)
   ·have HS2:=hide ((ku HST) hq);go_wp2
    go_roundw
    case rel=>exact ⟨k+1,by omega,by go_num,ku HS2,(ku HB).alloc hsz _⟩
    case measure=>simp[intOf];omega
   ·go_wp2
    refine rY (v:=.tuple #[paV p,.bool true]) (kyg Tryz.results215 _ _ (w.heap.size+1) _ _ _ _ rfl (qp (qvj (ku HB0') _ _ _ _)) Tryz.underlying352 rfl (by kernel_rfl)) rfl ?_;rw[(ku HP).1,(ku HP).2];refine ⟨by simp[fpP,fpB,hq],?_⟩;exact (((((ku HBW).trans ((ku HB).mono (by omega))).setCell (by simp) _).setCell (by simp) _ |>.setCell (by simp) _).setCell (by simp) _).alloc (by simp[World.setCell];omega) _
  ·have hP:=qvt l l.length n.text.toList (fun i hi _=>(ku HNO) i hi (by omega));rw[lW] at hP;have HP:=hide hP;clear hP;go_wp2
   refine rY (v:=.tuple #[paV ⟨jk,jk⟩,.bool false]) (kyg Tryz.results215 _ _ (w.heap.size+1) _ _ _ _ rfl (qvj (ku HB0') _ _ _ _) Tryz.underlying352 rfl (by kernel_rfl)) rfl ?_;rw[(ku HP).1,(ku HP).2];refine ⟨rfl,?_⟩;exact ((((ku HBW).trans ((ku HB).mono (by omega))).setCell (by simp) _).setCell (by simp) _ |>.setCell (by simp) _).setCell (by simp) _
def zvz (tab:Tab)(l:List PP)(n:Tok):Bool:=(!fpB l n.text.toList&&!((qo tab n.text.toList).role==3))&&!((qo tab n.text.toList).role==4)
theorem zzm {B:Nat}{a w:World}(h:Below B a w)(x0 x1 x2 x3:Value):Below B a ((((w.setCell ⟨B,0,none⟩ x0).setCell ⟨B,1,none⟩ x1).setCell ⟨B,2,none⟩ x2).setCell ⟨B,3,none⟩ x3):=
 (((h.setCell (p:=⟨B,0,none⟩) (wW _) x0).setCell (p:=⟨B,1,none⟩) (wW _) x1).setCell (p:=⟨B,2,none⟩) (wW _) x2).setCell (p:=⟨B,3,none⟩) (wW _) x3
theorem zxr (w:World)(B b lo:Nat)(tab:Tab)(l:List PP)(pa:Option Addr)(pn pc:Nat)(z:Int)(n:Tok)(h:Nm w B b tab (.slice pa pn pc) z)(ho:w.ownsRow lo 352 4 (.slice pa pn pc) l.length (jw l))(hl:l.length≤1000)(hs:n.text.size≤1000) :
  Calls Tryz.prog 243 #[.pointer (some ⟨B,0,none⟩),ptV n] w fun e w'=>e=.returned (.tuple #[])∧Nm w' B b tab (.slice pa pn pc) (kqu (zvz tab l n) z n)∧Kept B w w':=by
 have hBl:=wX h.nm;have h1:=h.alloc (.cells #[.string n.text,.int .i64 n.at_] 107);obtain ⟨c0,c1,c2,c3,f1,f2,f3⟩:=h1.cells;have H1:=hide h1;have HFP:=hide (kk1 (w.alloc (.cells #[.string n.text,.int .i64 n.at_] 107)).drew lo l _ n (ho.alloc _).drew hl);have HFQ:=hide (kk1 (((w.alloc (.cells #[.string n.text,.int .i64 n.at_] 107)).alloc (.cells #[.string ⟨#[]⟩,.int .i64 0,.string ⟨#[]⟩,.int .i64 0] 352)).drew) lo l _ n ((ho.alloc _).alloc _).drew hl);have E:=hide (show zvz tab l n=((!fpB l n.text.toList&&!((qo tab n.text.toList).role==3))&&!((qo tab n.text.toList).role==4)) from rfl);have HS:=hide (show (w.alloc (.cells #[.string n.text,.int .i64 n.at_] 107)).heap[w.heap.size]?=some (.cells #[.string n.text,.int .i64 n.at_] 107 (0,0)) from qy _ _);have HZ:=hide (show (((w.alloc (.cells #[.string n.text,.int .i64 n.at_] 107)).alloc (.cells #[.string ⟨#[]⟩,.int .i64 0,.string ⟨#[]⟩,.int .i64 0] 352)).drew).heap[w.heap.size+1]?=some (.cells #[.string ⟨#[]⟩,.int .i64 0,.string ⟨#[]⟩,.int .i64 0] 352 (0,0)) by
  have:=qy (w.alloc (.cells #[.string n.text,.int .i64 n.at_] 107)) (.cells #[.string ⟨#[]⟩,.int .i64 0,.string ⟨#[]⟩,.int .i64 0] 352);simp only[tJ] at this;exact this)
 clear h h1 ho;unfold ptV at *;go_enter Tryz.func243,Tryz.ntmps243
 go_upto_region 1 with fail
 go_cut [5] from 7 to 15 (fun v wx=>v=.bool (fpB l n.text.toList)∧Below (w.heap.size+1) (w.alloc (.cells #[.string n.text,.int .i64 n.at_] 107)) wx)
 case first=>
  go_region_law ((go_simp;go_at_call 215;(first|(refine (ku HFP).mono ?_;rintro e w2 ⟨rfl,hb2⟩)|(refine (ku HFQ).mono ?_;rintro e w2 ⟨rfl,hb2⟩;obtain ⟨z0,z1,z2,z3,z4,z5,z6,z7⟩:=kx8 (show w2.heap[w.heap.size+1]?=_ from (hb2.block _ (by simp)).trans (ku HZ))));dsimp only[paV]))
  all_goals
   go_wp2_with fail
   go_meet
   refine ⟨rfl,?_⟩;have hsz:=hb2.size;simp at hsz;first
   | exact (((Below.refl _ _).drew.trans (hb2.mono (by simp))).alloc (by omega) _)
   | exact zzm ((((Below.refl _ _).alloc (by simp) _).drew).trans (hb2.mono (by simp))) _ _ _ _
 case rest=>
 obtain ⟨rfl,hb⟩:=hcut;have hN:=(ku H1).below (hb.mono (by simp));have hnb:=(hb.block w.heap.size (by omega)).trans (ku HS);obtain ⟨d0,d1,_,_⟩:=yj hnb;have hl:=kxi hN.drew.tab hs;have hf:=kkq (qo tab n.text.toList);obtain ⟨c0,c1,c2,c3,f1,f2,f3⟩:=hN.cells;have HN:=hide hN;have HB:=hide hb;clear hN hb hnb HZ HFP HFQ HS H1;generalize qo tab n.text.toList=q at *;generalize fpB l n.text.toList=r at *;go_wp2
 go_region
 cases r
 case true=>
  rw[show (!true)=false from rfl,lD,lD] at E;go_wp2
  go_end0
  rw[ku E];exact ⟨rfl,(ku HN).drew,((Kept.kq5 _).trans (Kept.of_below ((ku HB).mono (by simp)))).drew⟩
 case false=>
 rw[show (!false)=true from rfl,Qz] at E;cases hc:(q.role != 3)
 case false=>
  have hE:(!(q.role==3))=false:=hc;rw[hE,lD] at E;go_wp2
  go_end0
  rw[ku E];exact ⟨rfl,(ku HN).drew,((Kept.kq5 _).trans (Kept.of_below ((ku HB).mono (by simp)))).drew⟩
 case true=>
 have hE:(!(q.role==3))=true:=hc;rw[hE,Qz] at E;cases hc4:(q.role != 4)
 case false=>
  have hE4:(!(q.role==4))=false:=hc4;rw[hE4] at E;go_wp2
  go_end0
  rw[ku E];exact ⟨rfl,(ku HN).drew,((Kept.kq5 _).trans (Kept.of_below ((ku HB).mono (by simp)))).drew⟩
 case true=>
 have hE4:(!(q.role==4))=true:=hc4;rw[hE4] at E;have HNT:=hide (note_any (wc.drew.drew) B 2 z n.at_ c2 c3 f2 f3);go_wp2
 go_region_law ((go_simp;go_at_call 212;refine (ku HNT).mono ?_;rintro e w1 ⟨rfl,hw⟩;dsimp only))
 all_goals
  subst hw;go_wp2
  go_end0
  rw[ku E];exact ⟨rfl,((ku HN).drew.drew).note (by omega),(((Kept.kq5 _).trans (Kept.of_below ((ku HB).mono (by simp)))).drew.drew).trans (Kept.note _ _ _ _ _)⟩
end Go.Proofs.YtpmcnonmkghokaaGreatDoor

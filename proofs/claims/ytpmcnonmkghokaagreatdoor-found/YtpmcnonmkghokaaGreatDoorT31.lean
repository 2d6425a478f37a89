import Derived.Test.YtpmcnonmkghokaaGreatDoorT30
import Derived.Laws.IdiomStrings
set_option maxRecDepth 100000
set_option maxHeartbeats 8000000
set_option linter.unusedVariables false
set_option linter.unusedSimpArgs false
namespace Go.Proofs.YtpmcnonmkghokaaGreatDoor
open Go.RowKit
attribute [local go_sem ↓] Go.wp_at_zero Go.wp_at_succ
def FiS (S b O fb:Nat)(sv:Value)(fr:Int)(tx:ByteArray)(w:World):Prop:=w.cell? ⟨S,0,none⟩=some (.pointer (some ⟨O,0,none⟩))∧w.cell? ⟨S,3,none⟩=some (.map (some fb))∧w.cell? ⟨b,0,none⟩=some sv∧w.cell? ⟨b,1,none⟩=some (.int .i64 fr)∧w.cell? ⟨b,2,none⟩=some (.string tx)
theorem FiS.stay {L:List Nat}{S b O fb:Nat}{sv:Value}{fr:Int}{tx:ByteArray}{w w':World}(h:FiS S b O fb sv fr tx w)(hk:yw L w w')(hS:S ∉ L)(hb:b ∉ L)(hSl:S<w.heap.size)(hbl:b<w.heap.size):FiS S b O fb sv fr tx w':=by
 obtain ⟨s0,s1,s2,s3,s4⟩:=h;have e1:=hk.block S hSl hS;have e2:=hk.block b hbl hb;exact ⟨(fQ e1).trans s0,(fQ e1).trans s1,(fQ e2).trans s2,(fQ e2).trans s3,(fQ e2).trans s4⟩
theorem vxv {f:Fnd}{k:List Int}{x:SWay}(h:k∈f.map (·.1)):qjt f k x=f:=by
 unfold qjt;rw[if_pos];obtain ⟨y,hy,e⟩:=su.mp h;exact l9.mpr ⟨y,hy,by simpa using e⟩
theorem vjr {f:Fnd}{k:List Int}{x:SWay}(h:k ∉ f.map (·.1)):qjt f k x=f++[(k,x)]:=by
 unfold qjt;rw[if_neg];intro hc;obtain ⟨y,hy,e⟩:=l9.mp hc;exact h (su.mpr ⟨y,hy,by simpa using e⟩)
theorem jqg (w:World)(B S O M nb gc cc sb fb:Nat)(a:Mach)(ts:List Turn)(s:SSt)(x:SWay)(sa:Option Addr)(sn sc:Nat)(h:kqc B w S O M gc cc sb fb ts s)(hm:Mc 0 w M nb a.vars a.tab)(hx:qxu B w gc x.state (.slice sa sn sc))(hv:a.vars.length≤1000)(htl:ts.length≤1000000)(hB:B≤w.heap.size)(r:Fnd × List Int)(hr:qqx a ts x s.found s.cur=some r) :
  Calls Tryz.prog 76 #[.pointer (some ⟨S,0,none⟩),.agg #[.slice sa sn sc,.int .i64 x.from_,.string x.step]] w fun e w'=>e=.returned (.tuple #[])∧kqc B w' S O M gc cc sb fb ts ⟨s.ways,s.seen,r.1,r.2⟩∧Below B w w':=by
 unfold qqx at hr;have hc:0<x.state.length∧x.state.length=s.cur.length∧x.state.length≤1000:=by
  apply rD;intro hc;rw[if_neg hc] at hr;cases hr
 rw[if_pos hc] at hr;obtain ⟨hc0,hc1,hc2⟩:=hc;obtain ⟨q,hq,hr⟩:=wJ.mp hr;have hok:kzj q.1=true:=by
  apply rD;intro hc;rw[if_neg hc] at hr;cases hr
 rw[if_pos hok] at hr;injection hr with hr;subst hr;have hql:=zjt _ _ _ _ _ _ hc1.symm hq;obtain ⟨W,hW⟩:∃ W,W=w.alloc (.cells #[.slice sa sn sc,.int .i64 x.from_,.string x.step] 173):=⟨_,rfl⟩;have hbW:Below w.heap.size w W:=by rw[hW];exact below_alloc1 w _
 have hsW:w.heap.size<W.heap.size:=by rw[hW];simp
 have hR:W.heap[w.heap.size]?=some (.cells #[.slice sa sn sc,.int .i64 x.from_,.string x.step] 173 (0,0)):=by rw[hW];exact qg _ _
 obtain ⟨hSl,hOl,hgl,hsl,hfl⟩:=h.lts;have hbd:Below w.heap.size w W.drew:=hbW.drew;have hd:=h.below hbd;obtain ⟨tv,ho⟩:=hd.orb;obtain ⟨la,ll,lc,cs,r1,_,_⟩:=hd.row;obtain ⟨b0,b1,b2,_⟩:=row3 (show W.drew.heap[w.heap.size]?=some (.cells #[.slice sa sn sc,.int .i64 x.from_,.string x.step] 173 (0,0)) from hR);obtain ⟨z0,z1,z2,z3,_⟩:=kj5 r1;have hxd:=hx.below hbd;have hSg:S≠gc:=fun e=>zvc (hd.zjv (e:=170) (by decide)) r1 (by simp[e])
 have HLE:=hide (jwz W.drew B O M nb a.vars a.tab ts tv x.state s.cur sa sn sc gc cc ho (hm.below hbd) (zx (rG _) hxd.1) hxd.2 hv hc0 hc1 (by omega) htl q hq);have HS0:=hide (show FiS S w.heap.size O fb (.slice sa sn sc) x.from_ x.step W.drew from ⟨z0,z3,b0,b1,b2⟩);have HD:=hide hd;have HX:=hide hxd;have HBD:=hide (hbd.mono hB);have HWE:=hide hW.symm;have HQL:=hide hql;have hkl:q.1.length≤1000:=by omega
 clear hr hq hbW hW hR h hm hx hbd hd ho r1 b0 b1 b2 z0 z1 z2 z3 hxd hql hc1;go_enter Tryz.func76,Tryz.ntmps76
 go_upto_region 1 with fail
 rw[ku HWE];refine pz (S:=FiS S w.heap.size O fb (.slice sa sn sc) x.from_ x.step) (tl:=[7,8]) (by kernel_rfl) ?_;refine qy (i:=0) (v:=.pointer (some ⟨S,0,none⟩)) rfl (by kernel_rfl) (by kernel_rfl) (by kernel_rfl) (fun _ _ _ h=>h) (Or.inl ⟨by rfl,fun _ _=>by go_simp⟩) ?_;try simp only[Act.put,wz,wQ,wu]
 refine qy (i:=1) (v:=.pointer (some ⟨S,0,none⟩)) rfl (by kernel_rfl) (by kernel_rfl) (by kernel_rfl) (fun _ _ _ h=>h) (Or.inl ⟨by rfl,fun _ _=>by go_simp⟩) ?_;try simp only[Act.put,wz,wQ,wu]
 refine qy (i:=2) (v:=.pointer (some ⟨S,0,none⟩)) rfl (by kernel_rfl) (by kernel_rfl) (by kernel_rfl) (fun _ _ _ h=>h) (Or.inl ⟨by rfl,fun _ _=>by go_simp⟩) ?_;try simp only[Act.put,wz,wQ,wu]
 refine qo (i:=3) (v:=.pointer (some ⟨O,0,none⟩)) [6,7,8] rfl (by kernel_rfl) (by kernel_rfl) (by kernel_rfl) (by kernel_rfl) (by decide) (fun _ _ _ h=>h) (Or.inl ⟨by rfl,fun wq hSw=>by (obtain ⟨s0,s1,s2,s3,s4⟩:=hSw;go_simp)⟩) (ku HS0) ?_;try simp only[Act.put,wz,wQ,wu]
 refine qy (i:=4) (v:=.pointer (some ⟨w.heap.size,0,none⟩)) rfl (by kernel_rfl) (by kernel_rfl) (by kernel_rfl) (fun _ _ _ h=>h) (Or.inl ⟨by rfl,fun _ _=>by go_simp⟩) ?_;try simp only[Act.put,wz,wQ,wu]
 refine qo (i:=5) (v:=.slice sa sn sc) [6,7,8] rfl (by kernel_rfl) (by kernel_rfl) (by kernel_rfl) (by kernel_rfl) (by decide) (fun _ _ _ h=>h) (Or.inl ⟨by rfl,fun wq hSw=>by (obtain ⟨s0,s1,s2,s3,s4⟩:=hSw;go_simp)⟩) (ku HS0) ?_;try simp only[Act.put,wz,wQ,wu]
 refine yu (rs:=[6]) (by kernel_rfl) (by simp) ?_;refine jd.cons rfl (fun K hK=>?_) jd.nil;go_simp
 go_at_call 129
 refine (ku HLE).mono ?_;rintro e w2 ⟨ga,ca,rfl,hga,hl2,hcur2,hst2⟩;have hgaW:W.heap.size≤ga:=hga;have hsz2:W.heap.size≤w2.heap.size:=hst2.size;have HS2:=hide ((ku HS0).stay hst2 (by simpa using hSg) (by simp;omega) (show S<W.heap.size by omega) hsW);have hd2:=(ku HD).cur hst2 (cur:=q.2) (ku HQL).2 hcur2;have HD2:=hide hd2;have HX2:=hide ((ku HX).stay hst2 (fun k hk=>by simp at hk;exact Or.inl hk));have HBD2:=hide ((ku HBD).trans (hst2.below (show B≤W.heap.size by omega) (fun k hk=>by simp at hk;subst hk;exact (ku HD).ge.2.1)));have hcv:(convert 95 9 (.slice (some ⟨ga,0,none⟩) x.state.length ca)).run Tryz.prog w2=.ok (.string (strOfNums q.1)) w2:=by
  have hle:q.1.length=x.state.length:=(ku HQL).1;have hrow:=kya (by rw[hle];exact hl2);obtain ⟨xa,xc,e1,hv⟩:=hrow;injection e1 with e1 _ _;obtain ⟨g,e2,_,hc⟩:=hv (by omega);rw[←e1] at e2;injection e2 with e2;injection e2 with e2;subst e2;refine run_convert_bytes_arg w2 95 5 Tryz.underlying95 Tryz.underlying5 ga 0 x.state.length ca q.1 hle (fun i hi=>?_) 9 Tryz.underlying9;rw[lU,hc i (by omega),nJ,wW (by omega),fB]
 clear hst2 hl2 hcur2 hga hd2 HLE;dsimp only;refine hK _ _ (ku HS2) ?_;clear hK K;try simp only[Act.put,wz,wQ,wu]
 refine kq1 _ _ _ _ (kjd (by kernel_rfl)) ?_;refine wpAny_ready (rs:=[7]) (by kernel_rfl) (by simp) (AllReady.cons rfl (fun K hK=>?_) AllReady.nil);go_simp
 refine hK _ _ ?_;clear hK K;refine wpAny_ready (rs:=[8]) (by kernel_rfl) (by simp) (AllReady.cons rfl (fun K hK=>?_) AllReady.nil);go_simp
 refine hK _ _ ?_;clear hK K;refine wpAny_done (by kernel_rfl) ?_ _;clear hcv;obtain ⟨us,hf2,hfv2⟩:=(ku HD2).found;have HF2:=hide hf2;have HFV2:=hide hfv2;obtain ⟨s0,s1,s2,s3,s4⟩:=ku HS2;have hSl2:S<w2.heap.size:=by omega
 have hbl2:w.heap.size<w2.heap.size:=by omega
 by_cases hin:q.1∈s.found.map (·.1)
 ·obtain ⟨j,hj,ej⟩:=rP hin;have hjl:j<s.found.length:=by simpa using hj
  have hju:j<us.length:=by rw[←hf2.len];exact hj
  have hlk:=jkz hf2 Tryz.underlying167 hj hju true;rw[ej] at hlk;simp only[if_true] at hlk;obtain ⟨ta,tn,tc,etv,-⟩:=hfv2.2 j hjl;rw[wW hju] at etv;injection etv with etv;rw[etv,jv7] at hlk;have HEND:=hide (fun (o:Obj)=>(show kqc B (w2.alloc o) S O M gc cc sb fb ts ⟨s.ways,s.seen,qjt s.found q.1 x,q.2⟩∧Below B w (w2.alloc o) by
   rw[vxv hin];exact ⟨(ku HD2).below (below_alloc1 _ _),(ku HBD2).alloc (show B≤w2.heap.size by omega) _⟩))
  generalize s.found[j].2.from_=yf at *;generalize s.found[j].2.step=ys at *;clear hf2 hfv2 etv ej s2 s3 s4;go_wp2
  go_end0
  exact ⟨rfl,(ku HEND) _⟩
 ·have hlk:=vxn hf2 Tryz.underlying167 vje hok hkl hin true;simp only[if_true] at hlk;obtain ⟨w4,hw4⟩:∃ w4,w4=w2.alloc (.cells #[.slice none 0 0,.int .i64 0,.string ⟨#[]⟩] 173):=⟨_,rfl⟩;have hb4:Below w2.heap.size w2 w4.drew:=by rw[hw4];exact (below_alloc1 _ _).drew
  have hsz4:w2.heap.size≤w4.heap.size:=by rw[hw4];simp
  have hd4:=(ku HD2).below hb4;obtain ⟨us4,hf4,hfv4⟩:=hd4.found;obtain ⟨w5,hrun,hmp5,hst5⟩:=vqs hf4 Tryz.underlying167 hok hkl hin (.agg #[.slice sa sn sc,.int .i64 x.from_,.string x.step]);have HS4:=hide ((ku HS2).stay (yw.of_below (S:=[]) hb4) (by simp) (by simp) hSl2 hbl2);have HEND:=hide (show kqc B w5 S O M gc cc sb fb ts ⟨s.ways,s.seen,qjt s.found q.1 x,q.2⟩∧Below B w w5 by
   obtain ⟨vs4,hs4,hu4⟩:=hd4.seen;obtain ⟨tv4,ho4⟩:=hd4.orb;have hsep:Sep w4.drew gc [fb]:=fun k hk=>hd4.sep k (by simp at hk;simp[hk])
   rw[vjr hin];refine ⟨hd4.turned (cur:=q.2) (hst5.wide (by simp)) rfl ?_ (hs4.stay hst5 (by simpa using hd4.ne)) hu4 (by rw[sJ];exact hmp5) ((hfv4.stay hst5 hsep).snoc (((ku HX2).below hb4).stay hst5 hsep)),?_⟩
   ·exact kwx ho4.own hst5 (fun k hk hm=>by
     injection hk with hk;have e1:gc=k:=hk;simp at hm;exact hd4.jwm.1 (by omega))
   ·exact ((ku HBD2).trans (hb4.mono (by omega))).trans (hst5.below (show B≤w4.heap.size by omega) (fun k hk=>by simp at hk;subst hk;exact hd4.ge.2.2.2)))
  have HW4:=hide hw4.symm;clear hf2 hfv2 hin hb4 hw4 hd4 hf4 hfv4 hmp5 hst5 s2 s3 s4;go_upto_region 4 with fail
  rw[ku HW4];refine pz (S:=FiS S w.heap.size O fb (.slice sa sn sc) x.from_ x.step) (tl:=[6]) (by kernel_rfl) ?_;refine qy (i:=0) (v:=.pointer (some ⟨S,0,none⟩)) rfl (by kernel_rfl) (by kernel_rfl) (by kernel_rfl) (fun _ _ _ h=>h) (Or.inl ⟨by rfl,fun _ _=>by go_simp⟩) ?_;try simp only[Act.put,wz,wQ,wu]
  refine qy (i:=1) (v:=.pointer (some ⟨S,0,none⟩)) rfl (by kernel_rfl) (by kernel_rfl) (by kernel_rfl) (fun _ _ _ h=>h) (Or.inl ⟨by rfl,fun _ _=>by go_simp⟩) ?_;try simp only[Act.put,wz,wQ,wu]
  refine qy (i:=2) (v:=.pointer (some ⟨S,3,none⟩)) rfl (by kernel_rfl) (by kernel_rfl) (by kernel_rfl) (fun _ _ _ h=>h) (Or.inl ⟨by rfl,fun _ _=>by go_simp⟩) ?_;try simp only[Act.put,wz,wQ,wu]
  refine qo (i:=3) (v:=.map (some fb)) [6] rfl (by kernel_rfl) (by kernel_rfl) (by kernel_rfl) (by kernel_rfl) (by decide) (fun _ _ _ h=>h) (Or.inl ⟨by rfl,fun wq hSw=>by (obtain ⟨s0,s1,s2,s3,s4⟩:=hSw;go_simp)⟩) (ku HS4) ?_;try simp only[Act.put,wz,wQ,wu]
  refine qy (i:=4) (v:=.string (strOfNums q.1)) rfl (by kernel_rfl) (by kernel_rfl) (by kernel_rfl) (fun _ _ _ h=>h) (Or.inl ⟨by rfl,fun _ _=>by go_simp⟩) ?_;try simp only[Act.put,wz,wQ,wu]
  refine qo (i:=5) (v:=.agg #[.slice sa sn sc,.int .i64 x.from_,.string x.step]) [6] rfl (by kernel_rfl) (by kernel_rfl) (by kernel_rfl) (by kernel_rfl) (by decide) (fun _ _ _ h=>h) (Or.inl ⟨by rfl,fun wq hSw=>by (obtain ⟨s0,s1,s2,s3,s4⟩:=hSw;go_simp)⟩) (ku HS4) ?_;try simp only[Act.put,wz,wQ,wu]
  refine kq1 _ _ _ _ (kjd (by kernel_rfl)) ?_;refine wpAny_ready (rs:=[6]) (by kernel_rfl) (by simp) (AllReady.cons rfl (fun K hK=>?_) AllReady.nil);go_simp
  refine hK _ _ ?_;clear hK K;refine wpAny_done (by kernel_rfl) ?_ _;clear hrun;go_wp2
  go_end0
  exact ⟨rfl,ku HEND⟩
theorem zqg (w:World)(lo:Nat)(cs:List Value)(ls:List (List Int))(la:Option Addr)(ll lc:Nat)(ho:w.ownsRow lo 95 1 (.slice la ll lc) cs.length cs)(h:qzt .u8 w cs ls)(hn:cs.length≤1000000) :
  Calls Tryz.prog 189 #[.slice la ll lc] w fun e w'=>e=.returned (.tuple #[])∧∃ S,(∀ k∈S,(Value.slice la ll lc).ownBlock=some k)∧ky1 S lo 95 w (.slice la ll lc) cs ls w':=by
 rcases ho.2 with ⟨e1,e2⟩|⟨g,cap,cur,e1,e2,e3,e4⟩
 ·injection e1 with e1 e1' e1'';subst e1;subst e1';subst e1'';have hcs:cs=[]:=sG e2;subst hcs;have hls:ls=[]:=sG h.1;subst hls;have hcon:=AnyF.slices_SortFunc_none (P:=Tryz.prog) (ρ:=Tryz.sortS_ren) { Tryz.sortS with } none 0 (.func (.func 229) #[] #[]) w;change Calls Tryz.prog 230 _ _ _ at hcon
  have HO:=hide ho;clear ho h e2 hn;go_enter Tryz.func189,Tryz.ntmps189
  go_wp2_with (go_at_call 230;refine hcon.mono ?_;rintro e w' ⟨rfl,rfl⟩)
  go_end0
  exact ⟨rfl,[],by simp,yw.refl _ _,[],List.Perm.refl _,ku HO,rfl⟩
 ·injection e1 with e1 e1' e1'';subst e1;subst e1';subst e1'';have eg:∀ args w,(callFunc 229 args).run Tryz.prog w=.ok (.enter 229 args) w:=enters_of Tryz.func229 (by kernel_rfl) rfl;have hcon:=Any.slices_SortFunc Tryz.sortS (qzw cs) (jqh h.slices) (fun x y=>cmpL (kjr ls x) (kjr ls y)) (jqs (kjr ls)) 229 #[] g 0 lc (Array.range cs.length) w eg (fun m os dk _ x y=>by
   have hx:=h.sorting ho m os dk x;have hy:=h.sorting ho m os dk y;exact (qvx _ _ _ _ _ hx.1 hy.1 hx.2 hy.2).mono fun _ _ ⟨he,q,hq⟩=>⟨he,q,#[],by rw[hq,Go.Sort.grow_empty]⟩) (vj8 ho) (wZ e3) (by simp;omega)
  change Calls Tryz.prog 230 _ _ _ at hcon
  simp only[Array.size_range] at hcon;have HP:=hide (fun (d':Array Nat) (m:Nat) (os:Array Obj) hp hs=>qwa (ls:=ls) ho h.1 (d':=d') (m:=m) (os:=os) hp hs);clear ho h e2 e3 e4 hn;go_enter Tryz.func189,Tryz.ntmps189
  go_wp2_with (go_at_call 230;refine hcon.mono ?_;rintro e w' ⟨rfl,d',n,os,hp,hs,rfl⟩)
  go_end0
  exact ⟨rfl,[g],by simp[Value.ownBlock],(ku HP) d' n os (by simpa using hp) (by simpa using hs)⟩
theorem Tryz.infoState:(Tryz.prog.info? 95).map (fun i=>(i.zero,i.size,i.bytes))=some (some (.slice none 0 0),1,24):=by kernel_rfl
def qyc (w:World)(v:Value)(l:List Int):Prop:=kko .u8 w v l∧∀ k,v.ownBlock=some k→∃ cs fr,w.heap[k]?=some (.cells cs 5 fr)
theorem qyc.stay {S:List Nat}{w w':World}{v:Value}{l:List Int}(h:qyc w v l)(hk:yw S w w')(hS:qqd w S 5):qyc w' v l:=by
 have hn:∀ k,v.ownBlock=some k→k ∉ S:=fun k ek hm=>by obtain ⟨cs,fr,e⟩:=h.2 k ek;exact hS k hm _ _ e
 exact ⟨h.1.stay hk hn,fun k ek=>by obtain ⟨cs,fr,e⟩:=h.2 k ek;exact ⟨cs,fr,hk.at e (hn k ek)⟩⟩
def qzh (w:World)(cs:List Value)(ls:List (List Int)):Prop:=ls.length=cs.length∧∀ k (hk:k<cs.length) (hl:k<ls.length),qyc w cs[k] ls[k]∧ls[k].length≤1000000
theorem qzh.at {w:World}{cs:List Value}{ls:List (List Int)}(h:qzh w cs ls):qzt .u8 w cs ls:=⟨h.1,fun k hk hl=>⟨(h.2 k hk hl).1.1,(h.2 k hk hl).2⟩⟩
theorem qzh.stay {S:List Nat}{w w':World}{cs:List Value}{ls:List (List Int)}(h:qzh w cs ls)(hk:yw S w w')(hS:qqd w S 5):qzh w' cs ls:=⟨h.1,fun k hk2 hl=>⟨(h.2 k hk2 hl).1.stay hk hS,(h.2 k hk2 hl).2⟩⟩
theorem qzh.snoc {w:World}{cs:List Value}{ls:List (List Int)}{v:Value}{l:List Int}(h:qzh w cs ls)(hv:qyc w v l)(hl:l.length≤1000000):qzh w (cs++[v]) (ls++[l]):=by
 refine ⟨by simp[h.1],fun k hk hk2=>?_⟩;by_cases hc:k<cs.length
 ·have hc2:k<ls.length:=by rw[h.1];exact hc
  rw[lu hc,lu hc2];exact h.2 k hc hc2
 ·have e1:k=cs.length:=by simp at hk;omega
  have e2:(cs++[v])[k]=v:=by simp[e1]
  have e3:(ls++[l])[k]=l:=by simp[e1,←h.1]
  rw[e2,e3];exact ⟨hv,hl⟩
def kza (B:Nat)(w:World)(v:Value)(ls:List (List Int)):Prop:=∃ la ll lc cs,v=.slice la ll lc∧w.ownsRow B 95 1 (.slice la ll lc) ls.length cs∧qzh w cs ls
theorem vv5 {w:World}{k:List Int}(hk:kzj k=true)(cap:Nat)(h:k.length≤cap)(fr:Nat × Nat){g:Nat}(hg:w.heap[g]?=some (.cells (bytesRow (strOfNums k) cap) 5 fr)):qyc w (.slice (some ⟨g,0,none⟩) k.length cap) k:=by
 refine ⟨⟨some ⟨g,0,none⟩,cap,rfl,fun h0=>⟨g,rfl,wZ hg,fun j hj=>?_⟩⟩,fun q eq=>?_⟩
 ·unfold World.cell?;simp only[hg];have hz:=zjj hk k[j] (wY hj);have e1:(bytesRow (strOfNums k) cap)[j]?=some (.int .u8 k[j]):=by
   unfold bytesRow;rw[Array.getElem?_append_left (by simp[strOfNums];exact hj)];simp only[strOfNums,Array.getElem?_map,List.getElem?_toArray,sW,wW hj,Qw,UInt8.toNat_ofNat'];congr 2
   omega
  simpa using e1
 ·injection eq with eq;have:g=q:=eq;subst this;exact ⟨_,_,hg⟩
structure Came (n:Nat)(p:List Nat):Prop where
 nodup:p.Nodup
 lt:∀ j∈p,j<n
theorem jwo {n:Nat}{p:List Nat}(h:Came n p)(hall:∀ j,j<n→j∈p):p.Perm (List.range n):=
 (List.perm_ext_iff_of_nodup h.nodup List.nodup_range).mpr fun j=>⟨fun hj=>QW.mpr (h.lt j hj),fun hj=>hall j (QW.mp hj)⟩
theorem jqr (ls:List (List Int)):(List.range ls.length).map (kjr ls)=ls:=by
 apply JB;intro j;rw[sW];by_cases hj:j<ls.length
 ·rw[Zb hj,Qw,kjr,nJ,wW hj,fB]
 ·rw[nZ (by simp;omega),nZ (by omega)];rfl
theorem zzs {l l':List (List Int)}(h:l.Perm l'):sortL l=sortL l':=qkr ((kxr l).trans h) (qql l)
def qwc (es:Array MapEntry)(j:Nat):Nat:=((es.toList[j]?).map (·.born)).getD 0
theorem qqu {es:Array MapEntry}{j:Nat}{e:MapEntry}(h:es.toList[j]?=some e):qwc es j=e.born:=by unfold qwc;rw[h];rfl
theorem jxk {es:Array MapEntry}(hn:(es.toList.map (·.born)).Nodup){i j:Nat}(hi:i<es.toList.length)(hj:j<es.toList.length)(e:qwc es i=qwc es j):i=j:=by
 rw[qqu (wW hi),qqu (wW hj)] at e;exact qq6 hn (by simpa using hi) (by simpa using hj) (by simpa using e)
def kkl (es:Array MapEntry)(p:List Nat):Array Nat:=(p.map (qwc es)).toArray
theorem left_at {es:Array MapEntry}{p:List Nat}{e:MapEntry}(he:e∈(leftOf es (kkl es p)).toList):∃ j,es.toList[j]?=some e∧j ∉ p:=by
 unfold leftOf at he;simp only[Jg,Qy] at he;obtain ⟨j,hj,e1⟩:=rP he.1;refine ⟨j,by rw[wW hj,e1],fun hm=>?_⟩;have h2:=he.2;have h3:(kkl es p).contains e.born=true:=by
  unfold kkl;rw[Zu,JQ];exact su.mpr ⟨j,hm,qqu (by rw[wW hj,e1])⟩
 rw[h3] at h2;cases h2
theorem jwj {es:Array MapEntry}{p:List Nat}(hn:(es.toList.map (·.born)).Nodup)(hp:∀ j∈p,j<es.toList.length)(h:(leftOf es (kkl es p)).size=0):∀ j,j<es.toList.length→j∈p:=by
 intro j hj;apply rD;intro hm;have he:es.toList[j]∈(leftOf es (kkl es p)).toList:=by
  unfold leftOf;simp only[Jg,Qy];refine ⟨wY hj,?_⟩;cases hc:(kkl es p).contains es.toList[j].born with
  | false=>rfl
  | true=>
   unfold kkl at hc;rw[Zu,JQ] at hc;obtain ⟨i,hi,e1⟩:=su.mp hc;have e2:qwc es j=es.toList[j].born:=qqu (wW hj);have:=jxk hn (hp i hi) hj (by rw[e1,e2]);exact absurd (this ▸ hi) hm
 have:=Zw he;rw[Qn] at this;omega
theorem jja (es:Array MapEntry)(p:List Nat){j:Nat}{e:MapEntry}(h:es.toList[j]?=some e):(kkl es p).push e.born=kkl es (p++[j]):=by
 unfold kkl;rw[sJ,←qqu h];simp
theorem jqi {n:Nat}{p:List Nat}(h:Came n p):p.length≤n:=rQ (h.nodup.length_le_of_subset fun j hj=>QW.mpr (h.lt j hj)) (by simp)
theorem kvn {w:World}{r:Nat}{a:Option Nat}{b c:Nat}{s:Array Nat}(h:w.heap[r]?=some (.mapIter a b s c)):w.iterSeen r=s:=by
 unfold World.iterSeen;rw[h]
theorem qzh.sorted {S:List Nat}{lo:Nat}{w w':World}{la:Option Addr}{ll lc:Nat}{cs:List Value}{ls:List (List Int)}(h:qzh w cs ls)(ho:w.ownsRow lo 95 1 (.slice la ll lc) cs.length cs)(hS:∀ k∈S,(Value.slice la ll lc).ownBlock=some k)(hp:ky1 S lo 95 w (.slice la ll lc) cs ls w'):kza lo w' (.slice la ll lc) (sortL ls):=by
 obtain ⟨hst,p,hperm,hown,hls⟩:=hp;have hpl:p.length=cs.length:=by rw[hperm.length_eq];simp
 have hno:qqd w S 5:=by
  intro k hk c fr e;obtain ⟨c2,fr2,e2⟩:=kwk ho k (by simp[kv1,hS k hk]);rw[e2] at e;injection e with e;injection e with _ e _;exact absurd e (by decide)
 refine ⟨la,ll,lc,p.map (qzw cs),rfl,by rw[kx3,h.1];exact hown,by rw[ni,kx3,hpl,h.1],fun k hk hl=>?_⟩;have hk2:k<p.length:=by simpa using hk
 have hlt:=zj7 hperm hk2;have hlt2:p[k]<ls.length:=by rw[h.1];exact hlt
 have e5:(sortL ls)[k]=ls[p[k]]:=by
  have:(sortL ls)[k]?=some ls[p[k]]:=by
   rw[hls,sW,wW hk2,Qw,kjr,nJ,wW hlt2,fB]
  rw[wW hl] at this;injection this
 have e6:(p.map (qzw cs))[k]=cs[p[k]]:=by
  rw[Qa,qzw,nJ,wW hlt,fB]
 rw[e5,e6];obtain ⟨h1,h2⟩:=h.2 p[k] hlt hlt2;exact ⟨h1.stay hst hno,h2⟩
theorem jjr (w:World)(fb:Nat)(ks:List (List Int))(vs:List Value)(h:kxb w fb ks vs)(hl:ks.length≤100000) :
  Calls Tryz.prog 130 #[.map (some fb)] w fun e w'=>∃ v,e=.returned v∧kza w.heap.size w' v (sortL ks)∧Below w.heap.size w w':=by
 obtain ⟨es,clock,h1,h2,h3,h4⟩:=h.ents;obtain ⟨i0,hi,hz0,hz1,hz2⟩:=info_parts Tryz.infoState;have hfl:=h.lt;have hlen:es.toList.length=ks.length:=by have:=congrArg List.length h2;simp[h.len] at this;simp;rw[h.len];exact this
 obtain ⟨W,hW⟩:∃ W,W=w.alloc (.mapIter (some fb) clock #[] clock):=⟨_,rfl⟩;have hbW:Below w.heap.size w W:=by rw[hW];exact below_alloc1 w _
 have hR:W.heap[w.heap.size]?=some (.mapIter (some fb) clock #[] clock):=by rw[hW];exact heap_alloc_new _ _
 have hrg:=run_range_map (P:=Tryz.prog) w 167 9 173 fb es clock Tryz.underlying167 h1;have H1:=hide h1;have H2:=hide h2;have H3:=hide h3;have H4:=hide h4;have HM:=hide h;have HLEN:=hide hlen;have HR:=hide hR;have HBW:=hide hbW;have HWE:=hide hW.symm;have HST:=hide (show kza w.heap.size W (.slice none 0 0) (([]:List Nat).map (kjr ks)) from ⟨none,0,0,[],rfl,rW _ _ _ _,rfl,fun k hk=>by simp at hk⟩);have HRC:=hide (show Came ks.length [] from ⟨Jc,by simp⟩);clear h1 h2 h3 h4 h hlen hR hbW hW;go_enter Tryz.func130,Tryz.ntmps130
 go_wp2_with fail
 rw[ku HWE];clear hrg;go_loopw [3,4] (fun x _ wr=>∃ p:List Nat,Came ks.length p∧kza w.heap.size wr x (p.map (kjr ks))∧wr.heap[w.heap.size]?=some (.mapIter (some fb) clock (kkl es p) clock)∧Below w.heap.size w wr) (fun _ _ wr=>ks.length-(wr.iterSeen w.heap.size).size)
 case atStart=>exact ⟨[],ku HRC,ku HST,ku HR,ku HBW⟩
 case round=>
  obtain ⟨p,hcame,hst,hit,hb⟩:=hrel;have hsz:=hb.size;have hfb:wr.heap[fb]?=some (.map es clock):=(hb.block fb hfl).trans (ku H1);have hpl:=jqi hcame;have hme:=kvn hit;have hrl:=wZ hit;rcases run_next_at (P:=Tryz.prog) wr 0 w.heap.size fb clock clock (kkl es p) es clock hit hfb (ku H4) (wX _) with ⟨hz,hrun⟩|⟨e,he,w1,hw1,hrun⟩
  ·have hall:=jwj (ku H3) (fun j hj=>by rw[ku HLEN];exact hcame.lt j hj) hz;have hperm:=jwo hcame (fun j hj=>hall j (by rw[ku HLEN];exact hj));obtain ⟨la,ll,lc,cs,rfl,hrow,hrows⟩:=hst;have hrow':wr.ownsRow w.heap.size 95 1 (.slice la ll lc) cs.length cs:=by rw[←hrows.1];exact hrow
   have hcsl:cs.length≤100000:=by rw[←hrows.1];simp;omega
   have HS:=hide (zqg wr w.heap.size cs (p.map (kjr ks)) la ll lc hrow' hrows.at (by omega));have HGE:=hide (vg hrow');have HRS:=hide hrows;have HRO:=hide hrow';have HSE:=hide (show sortL (p.map (kjr ks))=sortL ks from zzs (by
    have:=hperm.map (kjr ks);rw[jqr] at this;exact this))
   have HB:=hide hb;clear hrow hrow' hrows hb hit hfb hall hperm hz hcame hme;go_wp2_with fail
   refine (ku HS).mono ?_;rintro e w5 ⟨rfl,S,hS,hpost⟩;have HX:=hide ((ku HRS).sorted (ku HRO) hS hpost);rw[ku HSE] at HX;have HB5:=hide ((ku HB).trans (hpost.1.below hsz (fun k hk=>(ku HGE) k (hS k hk))));clear hS hpost HS;go_wp2
   go_ret
   exact ⟨_,rfl,ku HX,ku HB5⟩
  ·obtain ⟨j,hj,hjp⟩:=left_at he;obtain ⟨hjk,ekey,_⟩:=kxb.back (ku H2) (ku HM).len hj;have hem:e∈es.toList:=nU hj;have hb1:Below w.heap.size w w1:=by rcases hw1 with rfl|rfl;exact hb;exact hb.drew
   have hs1:w1.heap=wr.heap:=by rcases hw1 with rfl|rfl<;>rfl
   obtain ⟨w2,hw2⟩:∃ w2,w2=ChangeMaps.setBlock w1 w.heap.size (.mapIter (some fb) clock ((kkl es p).push e.born) clock):=⟨_,rfl⟩;have hst2:yw [w.heap.size] wr w2:=by
    rw[hw2];refine ⟨hb1.os.trans hb.os.symm,hb1.tape.trans hb.tape.symm,hb1.output.trans hb.output.symm,by simp[ChangeMaps.setBlock,hs1],fun k hk hn=>?_⟩;have hne:k≠w.heap.size:=by simpa using hn
    rw[show (ChangeMaps.setBlock w1 w.heap.size (.mapIter (some fb) clock ((kkl es p).push e.born) clock)).heap[k]?=w1.heap[k]? from by simp[ChangeMaps.setBlock,Qu,Ne.symm hne],hs1]
   have hit2:w2.heap[w.heap.size]?=some (.mapIter (some fb) clock ((kkl es p).push e.born) clock):=by
    rw[hw2];simp[ChangeMaps.setBlock,hs1,hrl]
   have hfb2:w2.heap[fb]?=some (.map es clock):=hst2.at hfb (by simp;omega);have hent:=run_entry_at (P:=Tryz.prog) w2 w.heap.size fb clock (kkl es p) es clock e hit2 hfb2 hem (ku H3);rw[ekey] at hrun hent;rw[←hw2] at hrun;have hok:=(ku HM).ok _ (wY hjk);have hb2:Below w.heap.size w w2:=hb.trans (hst2.below hsz (by simp));have hno:qqd wr [w.heap.size] 5:=fun k hk c fr e1=>by
    simp at hk;subst hk;rw[hit] at e1;cases e1
   have hno2:qqd wr [w.heap.size] 95:=fun k hk c fr e1=>by
    simp at hk;subst hk;rw[hit] at e1;cases e1
   obtain ⟨la,ll,lc,cs,rfl,hrow,hrows⟩:=hst;have hrow2:=kzq hrow hst2 hno2;have hrows2:=hrows.stay hst2 hno;have hpush:=jja es p hj;rw[hpush] at hit2;have hcame2:Came ks.length (p++[j]):=⟨by rw[Qp];exact ⟨hcame.nodup,by simp,fun a ha b hb2 e2=>by simp at hb2;subst hb2;exact hjp (e2 ▸ ha)⟩,fun i hi2=>by
    rcases rC.mp hi2 with hi2|hi2
    ·exact hcame.lt i hi2
    ·simp at hi2;omega⟩
   have hpl2:=jqi hcame2;rw[wB,Qh] at hpl2;have hcont:kjr ks j=ks[j]:=by rw[kjr,nJ,wW hjk,fB]
   have hcv:=run_bytes_of_string (P:=Tryz.prog) w2 9 95 5 (strOfNums ks[j]) Tryz.underlying9 Tryz.underlying95 Tryz.underlying5;rw[strOfNums_size] at hcv;have hge:=grownCap_ge w2 ks[j].length 0 5;generalize grownCap w2 ks[j].length 0 5=cap at *;obtain ⟨w3,hw3⟩:∃ w3,w3=w2.drew.alloc (.cells (bytesRow (strOfNums ks[j]) cap) 5 ((bytesRow (strOfNums ks[j]) cap).size,(bytesRow (strOfNums ks[j]) cap).size+1)):=⟨_,rfl⟩;rw[←hw3] at hcv;have hb3:Below w2.heap.size w2 w3:=by rw[hw3];exact (Below.refl _ w2).drew.trans (below_alloc1 w2.drew _)
   have hg3:w3.heap[w2.heap.size]?=some (.cells (bytesRow (strOfNums ks[j]) cap) 5 ((bytesRow (strOfNums ks[j]) cap).size,(bytesRow (strOfNums ks[j]) cap).size+1)):=by rw[hw3];exact heap_alloc_new w2.drew _
   have hby:=vv5 hok.1 cap hge _ hg3;have hsz3:=hb3.size;have hsz2:=hst2.size;have HCM:=hide hcame2;have HIT:=hide ((hb3.block w.heap.size (by omega)).trans hit2);have HB3:=hide (hb2.trans (hb3.mono (by omega)));have HR3:=hide (qj hrow2 hb3);have HRS3:=hide ((hrows2.stay (yw.of_below (S:=[]) hb3) (fun k hk=>by simp at hk)).snoc hby (by have:=hok.2;omega));have HMEM:=hide (show p.map (kjr ks)++[ks[j]]=(p++[j]).map (kjr ks) by rw[sJ,←hcont];rfl);have HPL:=hide (show (p.map (kjr ks)).length=p.length from by simp);have HME:=hide (show (wr.iterSeen w.heap.size).size=p.length by rw[hme];simp[kkl]);generalize p.map (kjr ks)=Lg at *;have hLg:Lg.length≤100000:=by rw[ku HPL];omega
   generalize ks[j]=kj at *;clear hrow hrows hrow2 hrows2 hb hb1 hb2 hb3 hit hit2 hfb hfb2 hcame hcame2 hpush hst2 hno hno2 hw1 hw2 hw3 hby hg3 hok hcont hs1 he hem hj hjp ekey hme hge;go_wp2_with (at_builtin;refine nC _ rfl _ _ 266 rfl w.heap.size 95 i0 _ 1 24 Tryz.underlying266 hi hz0 hz1 hz2 rfl (by decide) (.slice la ll lc) _ _ rfl ((ku HR3).alloc _) ⟨w3.heap.size,0,none⟩ 1 1 [.slice (some ⟨w2.heap.size,0,none⟩) kj.length cap] rfl rfl (kqz w3 _ [.slice (some ⟨w2.heap.size,0,none⟩) kj.length cap] _ rfl) (by intro y hy;simp at hy;subst hy;rfl) (by unfold maxLen;omega) (by omega) (by simp;omega) ?_)
   intro v6 w6 hown6 hgrow6 _ hat6;obtain ⟨a6,l6,c6,rfl⟩:=zu hown6;have hst6:yw (kv1 (.slice la ll lc)) w3 w6:=((yw.refl _ w3).alloc _).grown hgrow6 (fun k hk=>Or.inl (by simp[kv1,hk]));have hno6:qqd w3 (kv1 (.slice la ll lc)) 5:=fun k hk c fr e1=>by
    obtain ⟨c2,fr2,e2⟩:=kwk (ku HR3) k hk;rw[e2] at e1;injection e1 with e1;injection e1 with _ e1 _;exact absurd e1 (by decide)
   have HX6:=hide (show kza w.heap.size w6 (.slice a6 l6 c6) (Lg++[kj]) from ⟨a6,l6,c6,_,rfl,by rw[wB];exact hown6,(ku HRS3).stay hst6 hno6⟩);have hrn:w.heap.size ∉ kv1 (.slice la ll lc):=fun hm=>by
    obtain ⟨c2,fr2,e2⟩:=kwk (ku HR3) _ hm;rw[ku HIT] at e2;cases e2
   have hit6:=hst6.at (ku HIT) hrn;have HIT6:=hide hit6;have HME6:=hide (kvn hit6);have HB6:=hide (((ku HB3).alloc (by omega) _).grown hgrow6 (by simp;omega) (vg (ku HR3)));rw[ku HMEM] at HX6;clear hown6 hgrow6 hat6 hst6 hno6 hrn hit6;go_wp2
   go_roundw
   case rel=>exact ⟨p++[j],ku HCM,ku HX6,ku HIT6,ku HB6⟩
   case measure=>rw[ku HME6,ku HME];simp[kkl];omega
end Go.Proofs.YtpmcnonmkghokaaGreatDoor
namespace Go.Proofs.YtpmcnonmkghokaaGreatDoor
open Go.RowKit
abbrev FZ:=List ((List Int × SWay) × Value)
def zz2 (z:(List Int × SWay) × Value):Value × Value:=(.string (strOfNums z.1.1),z.2)
structure qjc (B:Nat)(w:World)(gc:Nat)(es:List MapEntry)(Z:FZ):Prop where
 eq:es.map (fun e=>(e.key,e.val))=Z.map zz2
 nodup:(Z.map fun z=>z.1.1).Nodup
 ok:∀ z∈Z,kzj z.1.1=true∧z.1.1.length≤1000
 way:∀ z∈Z,∃ sa sn sc,z.2=jv7 z.1.2 sa sn sc∧qxu B w gc z.1.2.state (.slice sa sn sc)
theorem zip_map {α β γ:Type}(f:α→γ):∀ (l:List α) (m:List β),(l.map f).zip m=(l.zip m).map fun z=>(f z.1,z.2)
 | [],_=>by simp
 | _::_,[]=>by simp
 | a::l,b::m=>by simp[zip_map f l m]
theorem zip_fst {α β:Type}:∀ (l:List α) (m:List β),l.length=m.length→(l.zip m).map (·.1)=l
 | [],_,_=>by simp
 | _::_,[],h=>by simp at h
 | a::l,b::m,h=>by simp at h;simp[zip_fst l m h]
theorem zip_unzip {α β:Type}:∀ (Z:List (α × β)),(Z.map (·.1)).zip (Z.map (·.2))=Z
 | []=>rfl
 | z::Z=>by simp[zip_unzip Z]
theorem vx6 {B:Nat}{w:World}{gc fb:Nat}{f:Fnd}{vs:List Value}(h:kxb w fb (f.map (·.1)) vs)(hv:qxa B w gc f vs):∃ es clock,w.heap[fb]?=some (.map es clock)∧(es.toList.map (·.born)).Nodup∧(∀ e∈es.toList,e.born<clock)∧qjc B w gc es.toList (f.zip vs):=by
 obtain ⟨es,cl,h1,h2,h3,h4⟩:=h.ents;have hl:f.length=vs.length:=hv.1.symm;refine ⟨es,cl,h1,h3,h4,?_,?_,fun z hz=>?_,fun z hz=>?_⟩
 ·rw[h2,zip_map,Qz];rfl
 ·have:((f.zip vs).map fun z=>z.1.1)=f.map (·.1):=by
   rw[show (fun z:(List Int × SWay) × Value=>z.1.1)=(fun y:List Int × SWay=>y.1) ∘ (·.1) from rfl,←Qz,zip_fst f vs hl]
  rw[this];exact h.nodup
 ·exact h.ok _ (su.mpr ⟨z.1,(List.of_mem_zip hz).1,rfl⟩)
 ·obtain ⟨k,hk,e⟩:=rP hz;rw[List.getElem_zip] at e;have hk2:k<f.length:=by simp at hk;omega
  obtain ⟨sa,sn,sc,e1,e2⟩:=hv.2 k hk2;rw[wW (by omega)] at e1;injection e1 with e1;subst e;exact ⟨sa,sn,sc,e1,e2⟩
theorem vx5 {B:Nat}{w:World}{gc fb:Nat}{es:Array MapEntry}{clock:Nat}{Z:FZ}(h1:w.heap[fb]?=some (.map es clock))(h3:(es.toList.map (·.born)).Nodup)(h4:∀ e∈es.toList,e.born<clock)(h:qjc B w gc es.toList Z):kxb w fb ((Z.map (·.1)).map (·.1)) (Z.map (·.2))∧qxa B w gc (Z.map (·.1)) (Z.map (·.2)):=by
 refine ⟨⟨⟨es,clock,h1,?_,h3,h4⟩,by simp,by rw[Qz];exact h.nodup,fun k hk=>?_⟩,by simp,fun k hk=>?_⟩
 ·rw[h.eq,zip_map,zip_unzip,Qz];rfl
 ·obtain ⟨y,hy,rfl⟩:=su.mp hk;obtain ⟨z,hz,rfl⟩:=su.mp hy;exact h.ok z hz
 ·have hk2:k<Z.length:=by simpa using hk
  obtain ⟨sa,sn,sc,e1,e2⟩:=h.way Z[k] (wY hk2);refine ⟨sa,sn,sc,?_,?_⟩
  ·rw[sW,wW hk2,Qw,e1];simp
  ·simpa using e2
theorem qjc.stay {S:List Nat}{B:Nat}{w w':World}{gc:Nat}{es:List MapEntry}{Z:FZ}(h:qjc B w gc es Z)(hk:yw S w w')(hS:Sep w gc S):qjc B w' gc es Z:=
 ⟨h.eq,h.nodup,h.ok,fun z hz=>by obtain ⟨sa,sn,sc,e1,e2⟩:=h.way z hz;exact ⟨sa,sn,sc,e1,e2.stay hk hS⟩⟩
def qjk (seen:List (List Int))(v:Value):Bool:=seen.any fun k=>match v with|.string s=>s.data.toList==(strOfNums k).data.toList|_=>false
theorem zxd {seen:List (List Int)}{k:List Int}(hs:∀ x∈seen,kzj x=true)(hk:kzj k=true):qjk seen (.string (strOfNums k))=seen.any fun x=>x==k:=by
 unfold qjk;induction seen with
 | nil=>rfl
 | cons x l ih=>
  rw[Qs,Qs,ih (fun y hy=>hs y (rJ _ hy))];congr 1
  by_cases e:x=k
  ·subst e;simp
  ·have e2:¬(strOfNums k).data.toList=(strOfNums x).data.toList:=fun e3=>e (jqq (hs x (by simp)) hk e3.symm)
   show ((strOfNums k).data.toList==(strOfNums x).data.toList)=(x==k);rw[beq_false_of_ne e2,beq_false_of_ne e]
def kvr (seen:List (List Int))(came:Array Nat)(e:MapEntry):Bool:=!(came.contains e.born&&qjk seen e.key)
theorem jko {l:List MapEntry}(hn:(l.map (·.born)).Nodup){a b:MapEntry}(ha:a∈l)(hb:b∈l)(e:a.born=b.born):a=b:=by
 obtain ⟨i,hi,rfl⟩:=rP ha;obtain ⟨j,hj,rfl⟩:=rP hb;have:i=j:=qq6 hn (by simpa using hi) (by simpa using hj) (by simpa using e);subst this;rfl
theorem jzf {seen:List (List Int)}{came:Array Nat}{l:List MapEntry}(hn:(l.map (·.born)).Nodup){e:MapEntry}(he:e∈l)(hs:qjk seen e.key=false):l.filter (kvr seen came)=l.filter (kvr seen (came.push e.born)):=by
 apply Jl;intro x hx;unfold kvr;by_cases hb:x.born=e.born
 ·have:=jko hn hx he hb;subst this;rw[hs];simp
 ·have:(came.push e.born).contains x.born=came.contains x.born:=by
   rw[Bool.eq_iff_iff];simp[Q9,hb]
  rw[this]
theorem jqj {seen:List (List Int)}{came:Array Nat}{l:List MapEntry}(hn:(l.map (·.born)).Nodup){e:MapEntry}(he:e∈l)(hs:qjk seen e.key=true):(l.filter (kvr seen came)).filter (fun x=>x.born != e.born)=l.filter (kvr seen (came.push e.born)):=by
 rw[List.filter_filter];apply Jl;intro x hx;unfold kvr;by_cases hb:x.born=e.born
 ·have:=jko hn hx he hb;subst this;simp[hs]
 ·have:(came.push e.born).contains x.born=came.contains x.born:=by
   rw[Bool.eq_iff_iff];simp[Q9,hb]
  rw[this];simp[hb]
theorem vj4 {seen:List (List Int)}{came:Array Nat}{l:List MapEntry}(h:((l.filter (kvr seen came)).filter fun e=>!came.contains e.born)=[]):l.filter (kvr seen came)=l.filter fun e=>!qjk seen e.key:=by
 apply Jl;intro x hx;have h2:∀ y∈l,kvr seen came y=true→came.contains y.born=true:=fun y hy hk=>by
  cases hc:came.contains y.born with
  | true=>rfl
  | false=>
   have:y∈(l.filter (kvr seen came)).filter fun e=>!came.contains e.born:=by
    rw[Qy,Qy];exact ⟨⟨hy,hk⟩,by rw[hc];rfl⟩
   rw[h] at this;cases this
 have h3:=h2 x hx;unfold kvr at h3 ⊢;cases hc:came.contains x.born with
 | true=>simp
 | false=>rw[hc] at h3;simp at h3
theorem qjc.vzs {B:Nat}{w:World}{gc:Nat}{es:List MapEntry}{Z:FZ}(h:qjc B w gc es Z){seen:List (List Int)}(hs:∀ x∈seen,kzj x=true):qjc B w gc (es.filter fun e=>!qjk seen e.key) (Z.filter fun z=>!(seen.any fun k=>k==z.1.1)):=by
 refine ⟨?_,?_,fun z hz=>h.ok z (Qy.mp hz).1,fun z hz=>h.way z (Qy.mp hz).1⟩
 ·have e1:(es.filter fun e=>!qjk seen e.key).map (fun e=>(e.key,e.val))=(es.map fun e=>(e.key,e.val)).filter fun p=>!qjk seen p.1:=by
   rw[J5];rfl
  rw[e1,h.eq,J5];congr 1
  apply Jl;intro z hz;show (!qjk seen (.string (strOfNums z.1.1)))=_;rw[zxd hs (h.ok z hz).1]
 ·exact h.nodup.sublist (List.Sublist.map _ JV)
theorem vqm (seen:List (List Int))(f:Fnd)(vs:List Value)(hl:f.length=vs.length):((f.zip vs).filter fun z=>!(seen.any fun k=>k==z.1.1)).map (·.1)=newF seen f:=by
 unfold newF;have:(fun z:(List Int × SWay) × Value=>!(seen.any fun k=>k==z.1.1))=(fun y:List Int × SWay=>!(seen.any fun k=>k==y.1)) ∘ (·.1):=rfl;rw[this,←J5,zip_fst f vs hl]
theorem zz4:∀ (l:List MapEntry) (i:Nat) (hi:i<l.length),(l.map (·.born)).Nodup→l.eraseIdx i=l.filter fun x=>x.born != l[i].born
 | a::l,0,_,hn=>by
  simp only[lJ,Qb] at hn;rw[List.eraseIdx_cons_zero,Jj];simp only[fG,bne_self_eq_false,tJ,if_false];symm
  rw[Zm];intro x hx;simp only[bne_iff_ne,ne_eq];intro e;exact hn.1 (e ▸ tC hx)
 | a::l,i+1,hi,hn=>by
  simp only[lJ,Qb] at hn;have hi2:i<l.length:=by simpa using hi
  rw[List.eraseIdx_cons_succ,Jj,zz4 l i hi2 hn.2];have:(a.born != (a::l)[i+1].born)=true:=by
   simp only[Qd,bne_iff_ne,ne_eq];intro e;exact hn.1 (e ▸ tC (wY hi2))
  rw[if_pos this];rfl
theorem zza {w:World}{fb:Nat}{es:Array MapEntry}{clock T E:Nat}(h1:w.heap[fb]?=some (.map es clock))(hT:Tryz.prog.underlying T=some (.map 9 E))(hall:∀ e∈es.toList,∃ l,keyOf Tryz.prog 9 e.key=some l){k:List Int}(hl:k.length≤1000){e:MapEntry}(he:e∈es.toList)(hk:e.key=.string (strOfNums k))(hu:∀ x∈es.toList,x.key=e.key→x=e)(hn:(es.toList.map (·.born)).Nodup)(ty:Nat) :
  ∃ es',(Builtin.delete_ #[T,9] ty #[.map (some fb),.string (strOfNums k)]).run Tryz.prog w=.ok (.tuple #[]) (ChangeMaps.setBlock w fb (.map es' clock))∧es'.toList=es.toList.filter fun x=>x.born != e.born:=by
 rcases keyed.find w (qzj hl) es.toList hall with ⟨f1,f2⟩|⟨j,e0,f1,f2,f3⟩
 ·exact absurd hk (f2 e he)
 ·have e1:e0=e:=hu e0 (nU f2) (by rw[f3,hk]);subst e1;have hj:j<es.toList.length:=by
   rcases Qk j es.toList.length with h|h
   ·exact h
   ·rw[nZ h] at f2;cases f2
  have e2:es.toList[j]=e0:=by rw[wW hj] at f2;injection f2
  refine ⟨es.eraseIdxIfInBounds j,?_,?_⟩
  ·simp[Builtin.delete_,Qv hT,MapKept.run_getObj_map h1,keyed.check w _ (qzj hl),f1,MapKept.run_setObj_map _ h1,Result.andThen,ChangeMaps.setBlock]
  ·have hj2:j<es.size:=by simpa using hj
   rw[Array.eraseIdxIfInBounds,dif_pos hj2,Array.toList_eraseIdx,zz4 _ _ hj hn,e2]
theorem Tryz.infoWay:(Tryz.prog.info? 173).map (fun i=>(i.zero,i.size,i.bytes))=some (some (.agg #[.slice none 0 0,.int .i64 0,.string ⟨#[]⟩]),3,48):=by kernel_rfl
theorem vxc {w:World}{a b t u:Nat}{c d:Array Value}{f g:Nat × Nat}(h:w.heap[a]?=some (.cells c t f))(k:w.heap[b]?=some (.cells d u g))(hn:t≠u):a≠b:=fun e=>by
 subst e;rw[h] at k;injection k with k;injection k with _ k _;exact hn k
theorem qzc.snoc {B:Nat}{w:World}{gc:Nat}{ways:List SWay}{cs:List Value}{x:SWay}{sa:Option Addr}{sn sc:Nat}(h:qzc B w gc ways cs)(hx:qxu B w gc x.state (.slice sa sn sc)):qzc B w gc (ways++[x]) (cs++[.slice sa sn sc,.int .i64 x.from_,.string x.step]):=by
 refine ⟨by simp[h.1];omega,fun k hk=>?_⟩;have hcl:=h.1;by_cases hl:k<ways.length
 ·obtain ⟨a,n,c,e0,e1,e2,hs⟩:=h.2 k hl;refine ⟨a,n,c,?_,?_,?_,?_⟩
  ·rw[lX (by omega)];exact e0
  ·rw[lX (by omega),lu hl];exact e1
  ·rw[lX (by omega),lu hl];exact e2
  ·rw[lu hl];exact hs
 ·have e:k=ways.length:=by simp at hk;omega
  subst e;have e1:(ways++[x])[ways.length]=x:=by simp
  rw[e1];refine ⟨sa,sn,sc,?_,?_,?_,hx⟩
  ·rw[rU (by omega),show ways.length * 3-cs.length=0 by omega];rfl
  ·rw[rU (by omega),show ways.length * 3+1-cs.length=1 by omega];rfl
  ·rw[rU (by omega),show ways.length * 3+2-cs.length=2 by omega];rfl
theorem kqc.pushed {B:Nat}{w w4:World}{S O M gc cc sb fb:Nat}{ts:List Turn}{s:SSt}(h:kqc B w S O M gc cc sb fb ts s){la:Option Addr}{ll lc:Nat}{cs:List Value}(r1:w.heap[S]?=some (.cells #[.pointer (some ⟨O,0,none⟩),.slice la ll lc,.map (some sb),.map (some fb)] 170 (0,0)))(r2:w.ownsRow B 173 3 (.slice la ll lc) s.ways.length cs)(r3:qzc B w gc s.ways cs)
  {x:SWay} {sa:Option Addr} {sn sc:Nat} {o:Obj} (hg:(w.alloc o).grownBy w4 (Value.slice la ll lc).ownBlock) {gg gcap:Nat} (hown:w4.ownsRow B 173 3 (.slice (some ⟨gg,0,none⟩) (s.ways.length+1) gcap) (s.ways.length+1) (cs++[.slice sa sn sc,.int .i64 x.from_,.string x.step])) (hx:qxu B w gc x.state (.slice sa sn sc)) :
  kqc B (w4.setCell ⟨S,1,none⟩ (.slice (some ⟨gg,0,none⟩) (s.ways.length+1) gcap)) S O M gc cc sb fb ts ⟨s.ways++[x],s.seen,s.found,s.cur⟩∧yw (S::kv1 (.slice la ll lc)) w (w4.setCell ⟨S,1,none⟩ (.slice (some ⟨gg,0,none⟩) (s.ways.length+1) gcap))∧w4.heap[S]?=some (.cells #[.pointer (some ⟨O,0,none⟩),.slice la ll lc,.map (some sb),.map (some fb)] 170 (0,0)):=by
 have hst4:yw (kv1 (.slice la ll lc)) w w4:=((yw.refl _ w).alloc o).grown hg (fun k hk=>Or.inl (by simp[kv1,hk]));have hty:=kwk r2;have hS4:S ∉ kv1 (.slice la ll lc):=fun hm=>by
  obtain ⟨c,fr,e⟩:=hty S hm;exact vxc r1 e (by decide) rfl
 have r4:=hst4.at r1 hS4;have hst5:yw (S::kv1 (.slice la ll lc)) w (w4.setCell ⟨S,1,none⟩ (.slice (some ⟨gg,0,none⟩) (s.ways.length+1) gcap)):=(hst4.wide (fun k hk _=>rJ _ hk)).set (Or.inl (by simp)) _;have hcl:∀ k∈S::kv1 (.slice la ll lc),∃ c t fr,w.heap[k]?=some (.cells c t fr)∧(t=170∨t=173):=fun k hk=>by
  rcases tX.mp hk with rfl|hk
  ·exact ⟨_,_,_,r1,Or.inl rfl⟩
  ·obtain ⟨c,fr,e⟩:=hty k hk;exact ⟨c,_,fr,e,Or.inr rfl⟩
 have hno:∀ e,e≠170→e≠173→qqd w (S::kv1 (.slice la ll lc)) e:=fun e h1 h2 k hk c fr e1=>by
  obtain ⟨c2,t2,fr2,e2,e3⟩:=hcl k hk;rw[e2] at e1;injection e1 with e1;injection e1 with _ e1 _;subst e1;rcases e3 with e3|e3
  ·exact h1 e3
  ·exact h2 e3
 have hsep:Sep w gc (S::kv1 (.slice la ll lc)):=fun k hk=>Or.inr fun c fr e1=>hno 5 (by decide) (by decide) k hk c fr e1
 have hmap:∀ b es c,w.heap[b]?=some (.map es c)→b ∉ S::kv1 (.slice la ll lc):=fun b es c e hm=>by
  obtain ⟨c2,t2,fr2,e2,_⟩:=hcl b hm;rw[e2] at e;cases e
 obtain ⟨tv,ho⟩:=h.orb;obtain ⟨vs,hm,hu⟩:=h.seen;obtain ⟨us,hf,hv⟩:=h.found;obtain ⟨es1,c1,e1,_⟩:=hm.ents;obtain ⟨es2,c2,e2,_⟩:=hf.ents;have hgS:gg≠S:=by
  rcases hown.2 with ⟨e3,_⟩|⟨g,cap,cur,e3,_,e5,_⟩
  ·cases e3
  ·injection e3 with e3 _ _;injection e3 with e3;injection e3 with e3;subst e3;exact vxc e5 r4 (by decide)
 refine ⟨⟨⟨some ⟨gg,0,none⟩,s.ways.length+1,gcap,cs++[.slice sa sn sc,.int .i64 x.from_,.string x.step],?_,?_,(r3.stay hst5 hsep).snoc (hx.stay hst5 hsep)⟩,⟨tv,?_,ho.turns.vzl hst5 (hno _ (by decide) (by decide)) (hno _ (by decide) (by decide)) (hno _ (by decide) (by decide)),kzq ho.own hst5 (hno _ (by decide) (by decide))⟩,⟨vs,hm.stay hst5 (hmap _ _ _ e1),hu⟩,⟨us,hf.stay hst5 (hmap _ _ _ e2),hv.stay hst5 hsep⟩,h.ne,h.ge⟩,hst5,r4⟩
 ·rw[heap_setCell_same w4 S 1 _ _ _ r4];rfl
 ·have hst6:yw [S] w4 (w4.setCell ⟨S,1,none⟩ (.slice (some ⟨gg,0,none⟩) (s.ways.length+1) gcap)):=(yw.refl _ w4).set (Or.inl (by simp)) _;show World.ownsRow _ _ _ _ _ (s.ways++[x]).length _;rw[wB];exact kwx hown hst6 (fun k hk hm=>by
   injection hk with hk;have e:gg=k:=hk;simp at hm;omega)
 ·exact hst5.at ho.row (zvc (hno _ (by decide) (by decide)) ho.row)
end Go.Proofs.YtpmcnonmkghokaaGreatDoor

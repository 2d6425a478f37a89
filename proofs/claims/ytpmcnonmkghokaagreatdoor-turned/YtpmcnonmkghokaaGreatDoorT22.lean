import Derived.Test.YtpmcnonmkghokaaGreatDoorT21
set_option maxRecDepth 100000
set_option maxHeartbeats 8000000
set_option linter.unusedVariables false
set_option linter.unusedSimpArgs false
namespace Go.Proofs.YtpmcnonmkghokaaGreatDoor
open Go.RowKit
attribute [local go_sem ↓] Go.wp_at_zero Go.wp_at_succ
theorem qqa {w:World}{a:Addr}{v:Value}{b:Nat}(h:a.block≠b)(hc:w.cell? a=some v)(x y:Value):((w.setCell ⟨b,0,none⟩ x).setCell ⟨b,1,none⟩ y).cell? a=some v:=by
 refine (Jr (w:=w) ?_).trans hc;rw[ru _ _ _ _ h,ru _ _ _ _ h]
theorem zxm (f:Int)(s:ByteArray)(w:World):(Instr.field 362 (.agg #[.int .i64 f,.string s]) 0).run Tryz.prog w=.ok (.int .i64 f) w:=by kernel_rfl
theorem jw7 (o:List UInt8):0≤opN o∧opN o≤13:=by
 unfold opN;repeat (first|(split;· omega)|omega)
def qxg (x:PX):Prop:=∀ (w:World) (b lo xo:Nat) (tab:Tab) (l:List PP) (pa:Option Addr) (pn pc:Nat) (v:Value),kqw w b tab→qk4 tab→w.ownsRow lo 352 4 (.slice pa pn pc) l.length (jw l)→l.length≤1000 →
  XIs xo w x v→kv9 x→isNil x=false→(∀ y∈jr x,y.text.size≤1000) →
  Calls Tryz.prog 217 #[tyV b (.slice pa pn pc),v] w fun e w'=>e=.returned (vtV (kqg tab l x))∧Below w.heap.size w w'
theorem jjl (i j:Nat)(x:ELab)(a c:PX)(iha:qxg a)(ihc:qxg c):qxg (.node i j x a c):=by
 intro w b lo xo tab l pa pn pc v ht htz ho hl hX hF _ hs;obtain ⟨k,va,vb,rfl,hk,hh,ha,hb⟩:=hX;obtain ⟨p1,rfl⟩:=ha.ptr;obtain ⟨p2,rfl⟩:=hb.ptr;have hsa:∀ y∈jr a,y.text.size≤1000:=fun y hy=>hs y (by rw[jr];simp[hy])
 have hsc:∀ y∈jr c,y.text.size≤1000:=fun y hy=>hs y (by rw[jr];simp[hy])
 have hsp:∀ y∈qqd x,y.text.size≤1000:=fun y hy=>hs y (by rw[jr];simp[hy])
 have hop:=qwy x.op.toList;have hor:=jw7 x.op.toList;obtain ⟨W,hW⟩:∃ W,W=(w.alloc (.cells #[.map (some b),.slice pa pn pc] 301)).alloc (.cells #[.int .i64 0,.string ⟨#[]⟩] 362):=⟨_,rfl⟩;have hbW:Below w.heap.size w W:=by rw[hW];exact kje w _ _
 have hsW:W.heap.size=w.heap.size+2:=by rw[hW];simp
 have hT:W.heap[w.heap.size]?=some (.cells #[.map (some b),.slice pa pn pc] 301 (0,0)):=by rw[hW];exact qp (qy _ _)
 have hR:W.heap[w.heap.size+1]?=some (.cells #[.int .i64 0,.string ⟨#[]⟩] 362 (0,0)):=by
  rw[hW];have:=qy (w.alloc (.cells #[.map (some b),.slice pa pn pc] 301)) (.cells #[.int .i64 0,.string ⟨#[]⟩] 362);simp only[tJ] at this;exact this
 have hkl:=wX hh;have hhW:=(hbW.block k hkl).trans hh;unfold kku at hhW;have E:=hide (show kqg tab l (.node i j x a c)=if (opN x.op.toList==0||opN x.op.toList==1) then ⟨1,⟨#[]⟩⟩ else if opN x.op.toList==3 then ⟨2,⟨#[]⟩⟩ else if opN x.op.toList==2 then ⟨5,⟨#[]⟩⟩
  else if opN x.op.toList==4 then kx4 tab l x.name x.index else if opN x.op.toList==5 then kkh 1 ((kqg tab l a).fam==1) else qzr (opN x.op.toList) (kqg tab l a) (kqg tab l c) from rfl)
 have hbWd:Below w.heap.size w W.drew:=hbW.drew;have HPL:=hide (fun e:qqd x=kjb x.name x.index=>zqs W.drew b lo tab l pa pn pc x.name x.index (ht.kept hbWd) htz (qj ho hbWd) hl (by rw[←e];exact hsp));have HA:=hide (fun e:isNil a=false=>iha W.drew b lo xo tab l pa pn pc _ (ht.kept hbWd) htz (qj ho hbWd) hl (ha.below hbWd) hF.2.1 e hsa);have HC:=hide (fun (e:isNil c=false) (w1:World) (h1:Below w.heap.size w w1)=>ihc w1 b lo xo tab l pa pn pc _ (ht.kept h1) htz (qj ho h1) hl (hb.below h1) hF.2.2 e hsc);have hF1:=hF.1;obtain ⟨⟨q0,q1,q2,q3,q4,q5,q6,q7,q8⟩,_⟩:=kxg hhW;obtain ⟨t0,t1,_⟩:=yj hT;obtain ⟨r0,r1,r2,r3⟩:=yj hR;have HX:=hide hhW;have HT:=hide hT;have HR:=hide hR;have HB:=hide hbW;have HWE:=hide hW.symm;have hlt0:w.heap.size<W.heap.size:=by omega
 have hlt1:w.heap.size+1<W.heap.size:=by omega
 have hltk:k<W.heap.size:=by omega
 have hkn:(⟨k,0,none⟩:Addr).block≠w.heap.size+1:=by show k≠_;omega
 have hwn:(⟨w.heap.size,0,none⟩:Addr).block≠w.heap.size+1:=by show w.heap.size≠_;omega
 generalize kqg tab l (.node i j x a c)=fin at *;clear hR hbW hW hT hh hhW ho ht ha hb hs hsa hsc hsp hF hbWd;unfold tyV pl5 vtV at *;generalize (!(x.index.kind.toList==[]))=d at *;go_enter Tryz.func217,Tryz.ntmps217
 generalize opN x.op.toList=o at *;go_upto_region 1 with fail
 rw[ku HWE];cases h0:(o==0)
 case true=>
  rw[h0] at E;go_wp2
  refine rY (rZ Tryz.results217 _ _ (w.heap.size+1) _ _ _ _ rfl (set2 (ku HR) _ _) Tryz.underlying362 rfl (by kernel_rfl)) rfl ?_;exact ⟨by rw[ku E];rfl,((ku HB).setCell (show w.heap.size≤w.heap.size+1 by omega) _).setCell (show w.heap.size≤w.heap.size+1 by omega) _⟩
 case false=>
 cases h1:(o==1)
 case true=>
  rw[h0,h1] at E;go_wp2
  refine rY (rZ Tryz.results217 _ _ (w.heap.size+1) _ _ _ _ rfl (set2 (ku HR) _ _) Tryz.underlying362 rfl (by kernel_rfl)) rfl ?_;exact ⟨by rw[ku E];rfl,((ku HB).setCell (show w.heap.size≤w.heap.size+1 by omega) _).setCell (show w.heap.size≤w.heap.size+1 by omega) _⟩
 case false=>
 rw[h0,h1] at E;cases h3:(o==3)
 case true=>
  rw[h3] at E;go_wp2
  refine rY (rZ Tryz.results217 _ _ (w.heap.size+1) _ _ _ _ rfl (set2 (ku HR) _ _) Tryz.underlying362 rfl (by kernel_rfl)) rfl ?_;exact ⟨by rw[ku E];rfl,((ku HB).setCell (show w.heap.size≤w.heap.size+1 by omega) _).setCell (show w.heap.size≤w.heap.size+1 by omega) _⟩
 case false=>
 rw[h3] at E;cases h2:(o==2)
 case true=>
  rw[h2] at E;go_wp2
  refine rY (rZ Tryz.results217 _ _ (w.heap.size+1) _ _ _ _ rfl (set2 (ku HR) _ _) Tryz.underlying362 rfl (by kernel_rfl)) rfl ?_;exact ⟨by rw[ku E];rfl,((ku HB).setCell (show w.heap.size≤w.heap.size+1 by omega) _).setCell (show w.heap.size≤w.heap.size+1 by omega) _⟩
 case false=>
 rw[h2] at E;cases h4:(o==4)
 case true=>
  rw[h4] at E hop;have HPL':=hide ((ku HPL) (by unfold qqd;rw[←hop];rfl));clear HPL HA HC hop;go_upto_region 10 with fail
  go_region_law ((go_simp;go_at_call 244;refine (ku HPL').mono ?_;rintro e w1 ⟨rfl,hb1⟩;have hR1:=(hb1.block (w.heap.size+1) (by simpa using hlt1)).trans (ku HR);obtain ⟨s0,s1,s2,s3⟩:=yj hR1;have HR1:=hide hR1;have HB1:=hide ((ku HB).drew.trans (hb1.mono (by have:=hsW;simp;omega)));clear hb1 hR1;dsimp only))
  all_goals
   go_wp2
   refine rY (rZ Tryz.results217 _ _ (w.heap.size+1) _ _ _ _ rfl (set2 (ku HR1) _ _) Tryz.underlying362 rfl (by kernel_rfl)) rfl ?_;exact ⟨by rw[ku E];rfl,((ku HB1).setCell (show w.heap.size≤w.heap.size+1 by omega) _).setCell (show w.heap.size≤w.heap.size+1 by omega) _⟩
 case false=>
 rw[h4] at E;have hn0:¬o=0:=by simpa using h0
 have hn1:¬o=1:=by simpa using h1
 have hn2:¬o=2:=by simpa using h2
 have hn3:¬o=3:=by simpa using h3
 have hn4:¬o=4:=by simpa using h4
 have HA':=hide ((ku HA) (hF1.1 (by omega)));clear HA HPL hop;cases h5:(o==5)
 case true=>
  rw[h5] at E;have hvf:=zxm (kqg tab l a).fam (kqg tab l a).name;generalize kqg tab l a=ta at *;clear HC hn0 hn1 hn2 hn3 hn4;go_upto_region 12 with fail
  go_region_law (first|(go_simp;go_at_call 217;refine (ku HA').mono ?_;rintro e w1 ⟨rfl,hb1⟩;have hs1:=hb1.size;have hR1:=(hb1.block (w.heap.size+1) (by simpa using hlt1)).trans (ku HR);have HR1:=hide hR1;have HB1:=hide ((ku HB).drew.trans (hb1.mono (by have:=hsW;simp;omega)));clear hb1 hR1;dsimp only)|(go_simp;go_at_call 245;refine (qwd _ _ _).mono ?_;rintro e w2 ⟨rfl,hb2⟩;have hR2:=(hb2.block (w.heap.size+1) (by simp at hs1;omega)).trans (ku HR1);obtain ⟨s0,s1,s2,s3⟩:=yj hR2;have HR2:=hide hR2;have HB2:=hide ((ku HB1).trans (hb2.mono (by simp at hs1;omega)));clear hb2 hR2;dsimp only[vtV]))
  all_goals
   go_wp2
   refine rY (rZ Tryz.results217 _ _ (w.heap.size+1) _ _ _ _ rfl (set2 (ku HR2) _ _) Tryz.underlying362 rfl (by kernel_rfl)) rfl ?_;exact ⟨by rw[ku E];rfl,((ku HB2).setCell (show w.heap.size≤w.heap.size+1 by omega) _).setCell (show w.heap.size≤w.heap.size+1 by omega) _⟩
 case false=>
 rw[h5] at E;have hn5:¬o=5:=by simpa using h5
 have HC':=hide ((ku HC) (hF1.2 (by omega)));generalize kqg tab l a=ta at *;generalize kqg tab l c=tc at *;clear HC hn0 hn1 hn2 hn3 hn4 hn5 hor hF1;go_upto_region 13 with fail
 go_region_held3 (fun w'=>w'.cell? ⟨k,0,none⟩=some (.int .i64 o)∧w'.cell? ⟨k,7,none⟩=some (.pointer p1)∧w'.cell? ⟨k,8,none⟩=some (.pointer p2)∧w'.cell? ⟨w.heap.size,0,none⟩=some (.map (some b))∧w'.cell? ⟨w.heap.size,1,none⟩=some (.slice pa pn pc))
  (first|exact ⟨q0,q7,q8,t0,t1⟩|exact ⟨a0,a7,a8,b0,b1⟩|exact ⟨c0,c7,c8,d0,d1⟩|exact ⟨e0,e7,e8,f0,f1⟩|exact ⟨qqa hkn e0 _ _,qqa (a:=⟨k,7,none⟩) hkn e7 _ _,qqa (a:=⟨k,8,none⟩) hkn e8 _ _,qqa hwn f0 _ _,qqa (a:=⟨w.heap.size,1,none⟩) hwn f1 _ _⟩)
  (first
  | (go_at_call 217;refine (ku HA').mono ?_;rintro e w1 ⟨rfl,hb1⟩;have hs1:=hb1.size;have hX1:=(hb1.block k (by simpa using hltk)).trans (ku HX);have hT1:=(hb1.block w.heap.size (by simpa using hlt0)).trans (ku HT);have hR1:=(hb1.block (w.heap.size+1) (by simpa using hlt1)).trans (ku HR);obtain ⟨⟨a0,_,_,_,_,_,_,a7,a8⟩,_⟩:=kxg hX1;obtain ⟨b0,b1,_⟩:=yj hT1;have HX1:=hide hX1;have HT1:=hide hT1;have HR1:=hide hR1;have HB1:=hide ((ku HB).drew.trans (hb1.mono (by have:=hsW;simp;omega)));have HC1:=hide ((ku HC') w1 (ku HB1));have hz1:w.heap.size+1<w1.heap.size:=lX hlt1 hs1;have hk1:k<w1.heap.size:=lX hltk hs1;have hw1:w.heap.size<w1.heap.size:=lX hlt0 hs1;clear hb1 hX1 hT1 hR1 hs1 HA')
  | (go_at_call 217;refine (ku HC1).mono ?_;rintro e w2 ⟨rfl,hb2⟩;have hs2:=hb2.size;have hX2:=(hb2.block k hk1).trans (ku HX1);have hT2:=(hb2.block w.heap.size hw1).trans (ku HT1);have hR2:=(hb2.block (w.heap.size+1) hz1).trans (ku HR1);obtain ⟨⟨c0,_,_,_,_,_,_,c7,c8⟩,_⟩:=kxg hX2;obtain ⟨d0,d1,_⟩:=yj hT2;have HX2:=hide hX2;have HT2:=hide hT2;have HR2:=hide hR2;have HB2:=hide ((ku HB1).trans (hb2.mono (Qv hw1)));have hz2:w.heap.size+1<w2.heap.size:=lX hz1 hs2;have hk2:k<w2.heap.size:=lX hk1 hs2;have hw2:w.heap.size<w2.heap.size:=lX hw1 hs2;clear hb2 hX2 hT2 hR2 hs2 HC1)
  | (go_at_call 246;refine (jxb _ o ta tc).mono ?_;rintro e w3 ⟨rfl,hb3⟩;have hX3:=(hb3.block k hk2).trans (ku HX2);have hT3:=(hb3.block w.heap.size hw2).trans (ku HT2);have hR3:=(hb3.block (w.heap.size+1) hz2).trans (ku HR2);obtain ⟨⟨e0,_,_,_,_,_,_,e7,e8⟩,_⟩:=kxg hX3;obtain ⟨f0,f1,_⟩:=yj hT3;obtain ⟨s0,s1,s2,s3⟩:=yj hR3;have HR3:=hide hR3;have HB3:=hide ((ku HB2).trans (hb3.mono (Qv hw2)));clear hb3 hR3 hX3 hT3;dsimp only[vtV]))
 all_goals
  go_wp2
  refine rY (rZ Tryz.results217 _ _ (w.heap.size+1) _ _ _ _ rfl (set2 (ku HR3) _ _) Tryz.underlying362 rfl (by kernel_rfl)) rfl ?_;exact ⟨by rw[ku E];rfl,((ku HB3).setCell (show w.heap.size≤w.heap.size+1 by omega) _).setCell (show w.heap.size≤w.heap.size+1 by omega) _⟩
theorem qx0:∀ x:PX,qxg x
 | .nil=>fun w b lo xo tab l pa pn pc v _ _ _ _ _ _ h _=>by cases h
 | .node i j x a c=>jjl i j x a c (qx0 a) (qx0 c)
theorem qzc (x:PX)(w:World)(b lo xo:Nat)(tab:Tab)(l:List PP)(pa:Option Addr)(pn pc:Nat)(v:Value)(ht:kqw w b tab)(htz:qk4 tab)(ho:w.ownsRow lo 352 4 (.slice pa pn pc) l.length (jw l))(hl:l.length≤1000)
  (hX:XIs xo w x v) (hF:kv9 x) (hn:isNil x=false) (hs:∀ y∈jr x,y.text.size≤1000) :
  Calls Tryz.prog 162 #[tyV b (.slice pa pn pc),v] w fun e w'=>e=.returned (.bool ((kqg tab l x).fam==1))∧Below w.heap.size w w':=by
 have HE:=hide (qx0 x (w.alloc (.cells #[.map (some b),.slice pa pn pc] 301)) b lo xo tab l pa pn pc v (ht.kept (below_alloc1 _ _)) htz (ho.alloc _) hl (hX.below (below_alloc1 _ _)) hF hn hs);have hvf:=zxm (kqg tab l x).fam (kqg tab l x).name;obtain ⟨p,rfl⟩:=hX.ptr;generalize kqg tab l x=ty at *;clear ht htz ho hX hF hn hs;unfold tyV vtV at *;go_enter Tryz.func162,Tryz.ntmps162
 go_wp2_with fail
 refine (ku HE).mono ?_;rintro e w1 ⟨rfl,hb1⟩;have HB:=hide ((below_alloc1 w (.cells #[.map (some b),.slice pa pn pc] 301)).trans (hb1.mono (by simp)));clear hb1 HE;go_wp2
 go_ret
 exact ⟨rfl,ku HB⟩
def qj3 (b:PB):Prop:=∀ (w:World) (bb lo so:Nat) (no:Option Nat) (tab:Tab) (l:List PP) (pa:Option Addr) (pn pc:Nat) (v:Value) (cs:List Value),kqw w bb tab→qk4 tab→w.ownsRow lo 352 4 (.slice pa pn pc) l.length (jw l)→l.length≤1000 →
  w.ownsRow so 334 9 v (uz b) cs→BIs so no w b cs→kke b→kwx b→uz b≤1000→(∀ y∈zh b,y.text.size≤1000) →
  Calls Tryz.prog 163 #[tyV bb (.slice pa pn pc),v] w fun e w'=>e=.returned (.bool (kzf tab l b))∧Below w.heap.size w w'
def smV (c:Bool)(n i:Tok)(p vt ve:Value):Value:=.agg #[.bool c,.string n.text,.int .i64 n.at_,.bool (!(i.kind.toList==[])),.string i.text,.int .i64 i.at_,p,vt,ve]
theorem jjf (w:World)(bb lo so:Nat)(no:Option Nat)(tab:Tab)(l:List PP)(pa:Option Addr)(pn pc:Nat)(n i:Tok)(c:PX)(t e:PB)(p:Option Addr)(ta:Option Addr)(tn tc:Nat)(ea:Option Addr)(en ec:Nat)(ct ce:List Value)(hM:kqw w bb tab)(htz:qk4 tab)(ho:w.ownsRow lo 352 4 (.slice pa pn pc) l.length (jw l))(hl:l.length≤1000)
  (hx:XIs so w c (.pointer p)) (hF:kv9 c) (hn:isNil c=false) (hs:∀ y∈jr c,y.text.size≤1000)
  (hT:qj3 t) (ht1:w.ownsRow so 334 9 (.slice ta tn tc) (uz t) ct) (ht2:BIs so no w t ct) (ht3:kke t) (ht4:kwx t) (ht5:uz t≤1000) (ht6:∀ y∈zh t,y.text.size≤1000)
  (hE:qj3 e) (he1:w.ownsRow so 334 9 (.slice ea en ec) (uz e) ce) (he2:BIs so no w e ce) (he3:kke e) (he4:kwx e) (he5:uz e≤1000) (he6:∀ y∈zh e,y.text.size≤1000) :
  Calls Tryz.prog 218 #[tyV bb (.slice pa pn pc),smV true n i (.pointer p) (.slice ta tn tc) (.slice ea en ec)] w fun r w'=>r=.returned (.bool (((kqg tab l c).fam==1&&kzf tab l t)&&kzf tab l e))∧Below w.heap.size w w':=by
 unfold smV;generalize (!(i.kind.toList==[]))=d;obtain ⟨W,hW⟩:∃ W,W=(w.alloc (.cells #[.map (some bb),.slice pa pn pc] 301)).alloc (.cells #[.bool true,.string n.text,.int .i64 n.at_,.bool d,.string i.text,.int .i64 i.at_,.pointer p,.slice ta tn tc,.slice ea en ec] 334):=⟨_,rfl⟩;have hbW:Below w.heap.size w W:=by rw[hW];exact kje w _ _
 have hsW:W.heap.size=w.heap.size+2:=by rw[hW];simp
 have hTy:W.heap[w.heap.size]?=some (.cells #[.map (some bb),.slice pa pn pc] 301 (0,0)):=by rw[hW];exact qp (qy _ _)
 have hSt:W.heap[w.heap.size+1]?=some (.cells #[.bool true,.string n.text,.int .i64 n.at_,.bool d,.string i.text,.int .i64 i.at_,.pointer p,.slice ta tn tc,.slice ea en ec] 334 (0,0)):=by
  rw[hW];have:=qy (w.alloc (.cells #[.map (some bb),.slice pa pn pc] 301)) (.cells #[.bool true,.string n.text,.int .i64 n.at_,.bool d,.string i.text,.int .i64 i.at_,.pointer p,.slice ta tn tc,.slice ea en ec] 334);simp only[tJ] at this;exact this
 have HTR:=hide (qzc c W bb lo so tab l pa pn pc (.pointer p) (hM.kept hbW) htz (qj ho hbW) hl (hx.below hbW) hF hn hs);have HBT:=hide (fun (w1:World) (h1:Below w.heap.size w w1)=>hT w1 bb lo so no tab l pa pn pc _ ct (hM.kept h1) htz (qj ho h1) hl (qj ht1 h1) (ht2.stay fun k _ hk=>h1.block k hk) ht3 ht4 ht5 ht6);have HBE:=hide (fun (w1:World) (h1:Below w.heap.size w w1)=>hE w1 bb lo so no tab l pa pn pc _ ce (hM.kept h1) htz (qj ho h1) hl (qj he1 h1) (he2.stay fun k _ hk=>h1.block k hk) he3 he4 he5 he6);obtain ⟨t0,t1,_⟩:=yj hTy;obtain ⟨⟨q0,q1,q2,q3,q4,q5,q6,q7,q8⟩,_⟩:=kxg hSt;have HTY:=hide hTy;have HST:=hide hSt;have HB:=hide hbW;have HWE:=hide hW.symm;generalize (kqg tab l c).fam=fc at *;generalize kzf tab l t=gt at *;generalize kzf tab l e=ge at *;clear hM htz ho hx hF hs hT hE ht1 ht2 ht3 ht4 ht6 he1 he2 he3 he4 he6 hTy hSt hbW hW;unfold tyV at *;go_enter Tryz.func218,Tryz.ntmps218
 go_upto_region 1 with fail
 rw[ku HWE];go_wp2_with fail
 refine (ku HTR).mono ?_;rintro r w1 ⟨rfl,hb1⟩;have hT1:=(hb1.block w.heap.size (by omega)).trans (ku HTY);have hS1:=(hb1.block (w.heap.size+1) (by omega)).trans (ku HST);have HB1:=hide ((ku HB).trans (hb1.mono (by omega)));have hs1:=hb1.size;have HTY1:=hide hT1;have HST1:=hide hS1;clear t0 t1 q0 q1 q2 q3 q4 q5 q6 q7 q8;obtain ⟨t0,t1,_⟩:=yj hT1;obtain ⟨⟨_,_,_,_,_,_,_,q7,q8⟩,_⟩:=kxg hS1;have HBT1:=hide (ku HBT w1 (ku HB1));clear hb1 hT1 hS1 HTY HST HB HTR HBT;cases hc:(fc==1)
 ·go_wp2
  go_ret
  exact ⟨jf (by rw[hc];rfl),ku HB1⟩
 ·go_wp2_with fail
  refine (ku HBT1).mono ?_;rintro r w2 ⟨rfl,hb2⟩;have hT2:=(hb2.block w.heap.size (by omega)).trans (ku HTY1);have hS2:=(hb2.block (w.heap.size+1) (by omega)).trans (ku HST1);have HB2:=hide ((ku HB1).trans (hb2.mono (by omega)));clear t0 t1 q7 q8;obtain ⟨t0,t1,_⟩:=yj hT2;obtain ⟨⟨_,_,_,_,_,_,_,_,q8⟩,_⟩:=kxg hS2;have HBE2:=hide (ku HBE w2 (ku HB2));have hz2:=(ku HB2).size;clear hb2 hT2 hS2 HTY1 HST1 HB1 HBE HBT1;cases gt
  ·go_wp2
   go_ret
   exact ⟨jf (by rw[hc];rfl),ku HB2⟩
  ·go_wp2_with fail
   refine (ku HBE2).mono ?_;rintro r w3 ⟨rfl,hb3⟩;have HB3:=hide ((ku HB2).trans (hb3.mono hz2));clear hb3;go_wp2
   go_ret
   exact ⟨jf (by rw[hc];rfl),ku HB3⟩
end Go.Proofs.YtpmcnonmkghokaaGreatDoor
namespace Go.Proofs.YtpmcnonmkghokaaGreatDoor
open Go.RowKit
theorem count_set:∀ (l:List Bool) (i:Nat),l[i]?=some false→(l.set i true).countP (fun b=>!b)+1=l.countP (fun b=>!b)
 | [],i,h=>by simp at h
 | b::l,0,h=>by simp at h;subst h;simp
 | b::l,i+1,h=>by
  have:=count_set l i (by simpa using h);rw[wJ,JJ,JJ];omega
theorem zzg:∀ (l:List Bool) (i:Nat),l.countP (fun b=>!b)=0→l[i]?≠some false
 | [],i,_,h=>by simp at h
 | b::l,0,h,e=>by simp at e;subst e;simp at h
 | b::l,i+1,h,e=>by
  rw[JJ] at h;exact zzg l i (by omega) (by simpa using e)
theorem kzt {P:Program}{ops:Array Oper}{Q:Exit→Act→World→Prop}{i:Nat}{o:Oper}{a:Act}{w:World}{K:Act→World→Prop}(ho:ops[i]?=some o)(hg:o.guard=none)(h:∀ K',(∀ a' w',K a' w'→K' a' w')→o.wp P a w K' Q):wpOp P ops Q i K a w:=by
 unfold wpOp;rw[ho];simp only;rw[if_pos (by simp[Region.wanted,hg])];exact Or.inl (h K (fun _ _ h=>h))
theorem zyu {md:Region.Mode}{ops:Array Oper}{l:Array Bool}{i:Nat}(h:i∈Region.ready md ops l):l.toList[i]?=some false:=by
 have:=(mem_ready.1 h).1;by_cases hl:i<l.size
 ·simp[hl] at this ⊢;exact this
 ·simp[hl] at this
theorem zxb {P:Program}{md:Region.Mode}{ops:Array Oper}{Q:Exit→Act→World→Prop}(I:Array Bool→Act→World→Prop)
  (hstep:∀ l a w i,I l a w→i∈Region.ready md ops l→wpOp P ops Q i (fun a' w'=>I (l.setIfInBounds i true) a' w') a w)
  (hdone:∀ l a w,I l a w→Region.ready md ops l=[]→Q .normal a w) :
  ∀ (fuel:Nat) (l:Array Bool) (a:Act) (w:World),l.toList.countP (fun b=>!b)≤fuel→I l a w→wpAny P md ops Q fuel l a w
 | 0,l,a,w,hc,h=>by
  have hr:Region.ready md ops l=[]:=by
   cases hr:Region.ready md ops l with
   | nil=>rfl
   | cons i r=>exact (zzg _ i (by omega) (zyu (show i∈Region.ready md ops l by rw[hr];exact rG ..))).elim
  exact ⟨hr,hdone l a w h hr⟩
 | fuel+1,l,a,w,hc,h=>by
  refine ⟨fun hr=>hdone l a w h hr,fun i hi=>?_⟩;refine wpOp_mono (fun a' w' h'=>zxb I hstep hdone fuel _ a' w' ?_ h') (hstep l a w i h hi);have:=count_set _ i (zyu hi);rw[JX];omega
end Go.Proofs.YtpmcnonmkghokaaGreatDoor
namespace Go.Proofs.YtpmcnonmkghokaaGreatDoor
open Go.RowKit
attribute [local go_sem ↓] Go.wp_at_zero Go.wp_at_succ
def qva (bb:Nat)(pa:Option Addr)(pn pc:Nat)(n i:Tok)(d:Bool)(p:Option Addr)(w:World)(q:Ent)(u5 u6 u34 u35 u36 u37 u38 u39 u40 u41:Value):Act:=
 ⟨#[.agg #[.map (some bb),.slice pa pn pc],.agg #[.bool false,.string n.text,.int .i64 n.at_,.bool d,.string i.text,.int .i64 i.at_,.pointer p,.slice none 0 0,.slice none 0 0],.pointer (some ⟨w.heap.size,0,none⟩),.pointer (some ⟨w.heap.size+1,0,none⟩),.bool false,u5,u6,.pointer (some ⟨w.heap.size+1,0,none⟩),.bool false,undef,undef,undef,undef,undef,undef,undef,undef,undef,undef,undef,undef,undef,undef,undef,undef,
  .pointer (some ⟨w.heap.size,0,none⟩),.map (some bb),.pointer (some ⟨w.heap.size+1,1,none⟩),.pointer (some ⟨w.heap.size+1,1,none⟩),.pointer (some ⟨w.heap.size+1,1,none⟩),.string n.text,qjb q,.int .i64 q.role,.bool false,u34,u35,u36,u37,u38,u39,u40,u41,undef,undef,undef,undef,undef,undef,undef,undef,undef,undef,undef,undef,undef],[]⟩
structure RInv (bb:Nat)(pa:Option Addr)(pn pc:Nat)(n i:Tok)(d:Bool)(p:Option Addr)(tp tx:VT)(w W:World)(b0 b1 b2 b3 b4 b5 b6 b7 b8 b9 b10 b11:Bool)(u5 u6 u34 u35 u36 u37 u38 u39 u40 u41:Value)(wx:World):Prop where
 k0:b0=true→u34=.agg #[.map (some bb),.slice pa pn pc]
 k1:b1=true→u35=.pointer (some ⟨w.heap.size+1,1,none⟩)
 k2:b2=true→u36=.agg #[.string n.text,.int .i64 n.at_,.bool d,.string i.text,.int .i64 i.at_]
 k3:b3=true→u37=.agg #[.int .i64 tp.fam,.string tp.name]
 k4:b4=true→u38=.agg #[.map (some bb),.slice pa pn pc]
 k5:b5=true→u39=.pointer (some ⟨w.heap.size+1,6,none⟩)
 k6:b6=true→u40=.pointer p
 k7:b7=true→u41=.agg #[.int .i64 tx.fam,.string tx.name]
 k8:b8=true→∃ g x y,u5=.pointer (some ⟨g,0,none⟩)∧W.heap.size≤g∧wx.heap[g]?=some (.cells #[x,y] 362 (0,0))∧(b10=true→x=.int .i64 tp.fam∧y=.string tp.name)
 k9:b9=true→∃ g x y,u6=.pointer (some ⟨g,0,none⟩)∧W.heap.size≤g∧wx.heap[g]?=some (.cells #[x,y] 362 (0,0))∧(b11=true→x=.int .i64 tx.fam∧y=.string tx.name)
 kn:b8=true→b9=true→u5≠u6
 d10:b10=true→b8=true
 d11:b11=true→b9=true
 ty:wx.heap[w.heap.size]?=some (.cells #[.map (some bb),.slice pa pn pc] 301 (0,0))
 st:wx.heap[w.heap.size+1]?=some (.cells #[.bool false,.string n.text,.int .i64 n.at_,.bool d,.string i.text,.int .i64 i.at_,.pointer p,.slice none 0 0,.slice none 0 0] 334 (0,0))
 be:Below w.heap.size w wx
 sz:W.heap.size≤wx.heap.size
def RI (bb:Nat)(pa:Option Addr)(pn pc:Nat)(n i:Tok)(d:Bool)(p:Option Addr)(tp tx:VT)(q:Ent)(w W:World)(l:Array Bool)(a:Act)(wx:World):Prop:=
 ∃ (b0 b1 b2 b3 b4 b5 b6 b7 b8 b9 b10 b11:Bool) (u5 u6 u34 u35 u36 u37 u38 u39 u40 u41:Value),l=#[b0,b1,b2,b3,b4,b5,b6,b7,b8,b9,b10,b11]∧a=qva bb pa pn pc n i d p w q u5 u6 u34 u35 u36 u37 u38 u39 u40 u41∧RInv bb pa pn pc n i d p tp tx w W b0 b1 b2 b3 b4 b5 b6 b7 b8 b9 b10 b11 u5 u6 u34 u35 u36 u37 u38 u39 u40 u41 wx
theorem zy1 (w:World)(bb lo so:Nat)(tab:Tab)(l:List PP)(pa:Option Addr)(pn pc:Nat)(n i:Tok)(x:PX)(p:Option Addr)(hM:kqw w bb tab)(htz:qk4 tab)(ho:w.ownsRow lo 352 4 (.slice pa pn pc) l.length (jw l))(hl:l.length≤1000)
  (hx:XIs so w x (.pointer p)) (hF:kv9 x) (hn:isNil x=false) (hs:∀ y∈jr x,y.text.size≤1000) (hsp:∀ y∈kjb n i,y.text.size≤1000) (hsn:n.text.size≤1000) :
  Calls Tryz.prog 218 #[tyV bb (.slice pa pn pc),smV false n i (.pointer p) (.slice none 0 0) (.slice none 0 0)] w fun r w'=>r=.returned (.bool (((qo tab n.text.toList).role==4)&&(kyw (kx4 tab l n i) (kqg tab l x)||((kx4 tab l n i).fam==4&&(kqg tab l x).fam==5))))∧Below w.heap.size w w':=by
 have HPL:=hide (fun (w1:World) (h1:Below w.heap.size w w1)=>zqs w1 bb lo tab l pa pn pc n i (hM.kept h1) htz (qj ho h1) hl hsp);have HEX:=hide (fun (w1:World) (h1:Below w.heap.size w w1)=>qx0 x w1 bb lo so tab l pa pn pc (.pointer p) (hM.kept h1) htz (qj ho h1) hl (hx.below h1) hF hn hs);unfold smV;unfold pl5 at HPL;generalize (!(i.kind.toList==[]))=d at *;obtain ⟨W,hW⟩:∃ W,W=(w.alloc (.cells #[.map (some bb),.slice pa pn pc] 301)).alloc (.cells #[.bool false,.string n.text,.int .i64 n.at_,.bool d,.string i.text,.int .i64 i.at_,.pointer p,.slice none 0 0,.slice none 0 0] 334):=⟨_,rfl⟩;have hbW:Below w.heap.size w W:=by rw[hW];exact kje w _ _
 have hsW:W.heap.size=w.heap.size+2:=by rw[hW];simp
 have hTy:W.heap[w.heap.size]?=some (.cells #[.map (some bb),.slice pa pn pc] 301 (0,0)):=by rw[hW];exact qp (qy _ _)
 have hSt:W.heap[w.heap.size+1]?=some (.cells #[.bool false,.string n.text,.int .i64 n.at_,.bool d,.string i.text,.int .i64 i.at_,.pointer p,.slice none 0 0,.slice none 0 0] 334 (0,0)):=by
  rw[hW];have:=qy (w.alloc (.cells #[.map (some bb),.slice pa pn pc] 301)) (.cells #[.bool false,.string n.text,.int .i64 n.at_,.bool d,.string i.text,.int .i64 i.at_,.pointer p,.slice none 0 0,.slice none 0 0] 334);simp only[tJ] at this;exact this
 have hlk:=kxi (hM.kept hbW) hsn;have hf:=kkq (qo tab n.text.toList);obtain ⟨t0,t1,_⟩:=yj hTy;obtain ⟨⟨q0,q1,q2,q3,q4,q5,q6,q7,q8⟩,_⟩:=kxg hSt;have HTY:=hide hTy;have HST:=hide hSt;have HB:=hide hbW;have HWE:=hide hW.symm;generalize qo tab n.text.toList=q at *;generalize kx4 tab l n i=tp at *;generalize kqg tab l x=tx at *;clear hM htz ho hx hF hs hsp hTy hSt hbW hW;unfold tyV vtV at *;go_enter Tryz.func218,Tryz.ntmps218
 go_upto_region 1 with fail
 rw[ku HWE];cases hr:(q.role==4)
 ·have hr2:(q.role != 4)=true:=by simp[bne,hr]
  go_wp2
  go_ret
  exact ⟨jf (by rw[hr];rfl),ku HB⟩
 ·have hr2:(q.role != 4)=false:=by simp[bne,hr]
  go_upto_region 5 with fail
  have HRR:=hide hr;clear hlk hf hr hr2;have hlt0:w.heap.size<W.heap.size:=by omega
  have hlt1:w.heap.size+1<W.heap.size:=by omega
  go_cut [5,6] from 34 to 41 (fun v5 v6 wx=>∃ g5 g6,v5=.pointer (some ⟨g5,0,none⟩)∧v6=.pointer (some ⟨g6,0,none⟩)∧(wx.cell? ⟨g5,0,none⟩=some (.int .i64 tp.fam)∧wx.cell? ⟨g5,1,none⟩=some (.string tp.name))∧(wx.cell? ⟨g6,0,none⟩=some (.int .i64 tx.fam)∧wx.cell? ⟨g6,1,none⟩=some (.string tx.name))∧g5<wx.heap.size∧g6<wx.heap.size∧Below w.heap.size w wx)
  case first=>
   refine wp_region_any (by kernel_rfl) ?_;change wpAny _ _ _ _ _ _ _ (World.drew _)
   refine zxb (RI bb pa pn pc n i d p tp tx q w W) ?_ ?_ _ _ _ _ (by decide) ⟨false,false,false,false,false,false,false,false,false,false,false,false,undef,undef,undef,undef,undef,undef,undef,undef,undef,undef,rfl,rfl,⟨(fun h=>by cases h),(fun h=>by cases h),(fun h=>by cases h),(fun h=>by cases h),(fun h=>by cases h),(fun h=>by cases h),(fun h=>by cases h),(fun h=>by cases h),(fun h=>by cases h),(fun h=>by cases h),(fun h=>by cases h),(fun h=>by cases h),(fun h=>by cases h),ku HTY,ku HST,(ku HB).drew,wW _⟩⟩
   ·intro l a wx j hI hr;obtain ⟨b0,b1,b2,b3,b4,b5,b6,b7,b8,b9,b10,b11,u5,u6,u34,u35,u36,u37,u38,u39,u40,u41,rfl,rfl,h⟩:=hI;obtain ⟨hun,o,ho,hall⟩:=mem_ready.1 hr;clear hr t0 t1 q0 q1 q2 q3 q4 q5 q6 q7 q8;have hj:j<12:=by
     apply sJ;intro hc;have:j=(j-12)+12:=by omega
     rw[this] at ho;cases ho
    have hc:j=0∨j=1∨j=2∨j=3∨j=4∨j=5∨j=6∨j=7∨j=8∨j=9∨j=10∨j=11:=by omega
    rcases hc with rfl|rfl|rfl|rfl|rfl|rfl|rfl|rfl|rfl|rfl|rfl|rfl<;>(injection ho with ho;subst ho)
    ·have hbn:b0=false:=by simpa using hun
     obtain ⟨t0,t1,_⟩:=yj h.ty;refine kzt rfl rfl (fun K hK=>?_);unfold qva;go_simp
     refine hK _ _ ⟨true,b1,b2,b3,b4,b5,b6,b7,b8,b9,b10,b11,_,_,_,_,_,_,_,_,_,_,rfl,rfl,⟨fun _=>rfl,h.k1,h.k2,h.k3,h.k4,h.k5,h.k6,h.k7,h.k8,h.k9,h.kn,h.d10,h.d11,h.ty,h.st,h.be,h.sz⟩⟩
    ·have hbn:b1=false:=by simpa using hun
     refine kzt rfl rfl (fun K hK=>?_);unfold qva;go_simp
     refine hK _ _ ⟨b0,true,b2,b3,b4,b5,b6,b7,b8,b9,b10,b11,_,_,_,_,_,_,_,_,_,_,rfl,rfl,⟨h.k0,fun _=>rfl,h.k2,h.k3,h.k4,h.k5,h.k6,h.k7,h.k8,h.k9,h.kn,h.d10,h.d11,h.ty,h.st,h.be,h.sz⟩⟩
    ·have hbn:b2=false:=by simpa using hun
     have c1:b1=true:=by simpa using hall ⟨1,.data⟩ (by simp) rfl
     obtain ⟨⟨q0,q1,q2,q3,q4,q5,q6,q7,q8⟩,_⟩:=kxg h.st;obtain rfl:=h.k1 c1;refine kzt rfl rfl (fun K hK=>?_);unfold qva;go_simp
     refine hK _ _ ⟨b0,b1,true,b3,b4,b5,b6,b7,b8,b9,b10,b11,_,_,_,_,_,_,_,_,_,_,rfl,rfl,⟨h.k0,fun _=>rfl,fun _=>rfl,h.k3,h.k4,h.k5,h.k6,h.k7,h.k8,h.k9,h.kn,h.d10,h.d11,h.ty,h.st,h.be,h.sz⟩⟩
    ·have hbn:b3=false:=by simpa using hun
     have c0:b0=true:=by simpa using hall ⟨0,.data⟩ (by simp) rfl
     have c2:b2=true:=by simpa using hall ⟨2,.data⟩ (by simp) rfl
     obtain rfl:=h.k0 c0;obtain rfl:=h.k2 c2;refine kzt rfl rfl (fun K hK=>?_);unfold qva;go_simp
     go_at_call 244
     refine (ku HPL wx h.be).mono ?_;rintro e w1 ⟨rfl,hb1⟩;dsimp only;refine hK _ _ ⟨b0,b1,b2,true,b4,b5,b6,b7,b8,b9,b10,b11,_,_,_,_,_,_,_,_,_,_,rfl,rfl,⟨fun _=>rfl,h.k1,fun _=>rfl,fun _=>rfl,h.k4,h.k5,h.k6,h.k7,fun hc=>by
       obtain ⟨g,x,y,e1,e2,e3,e4⟩:=h.k8 hc;exact ⟨g,x,y,e1,e2,(hb1.block g (wX e3)).trans e3,e4⟩,fun hc=>by
       obtain ⟨g,x,y,e1,e2,e3,e4⟩:=h.k9 hc;exact ⟨g,x,y,e1,e2,(hb1.block g (wX e3)).trans e3,e4⟩,h.kn,h.d10,h.d11,(hb1.block _ (wX h.ty)).trans h.ty,(hb1.block _ (wX h.st)).trans h.st,h.be.trans (hb1.mono h.be.size),rV h.sz hb1.size⟩⟩
    ·have hbn:b4=false:=by simpa using hun
     obtain ⟨t0,t1,_⟩:=yj h.ty;refine kzt rfl rfl (fun K hK=>?_);unfold qva;go_simp
     refine hK _ _ ⟨b0,b1,b2,b3,true,b5,b6,b7,b8,b9,b10,b11,_,_,_,_,_,_,_,_,_,_,rfl,rfl,⟨h.k0,h.k1,h.k2,h.k3,fun _=>rfl,h.k5,h.k6,h.k7,h.k8,h.k9,h.kn,h.d10,h.d11,h.ty,h.st,h.be,h.sz⟩⟩
    ·have hbn:b5=false:=by simpa using hun
     refine kzt rfl rfl (fun K hK=>?_);unfold qva;go_simp
     refine hK _ _ ⟨b0,b1,b2,b3,b4,true,b6,b7,b8,b9,b10,b11,_,_,_,_,_,_,_,_,_,_,rfl,rfl,⟨h.k0,h.k1,h.k2,h.k3,h.k4,fun _=>rfl,h.k6,h.k7,h.k8,h.k9,h.kn,h.d10,h.d11,h.ty,h.st,h.be,h.sz⟩⟩
    ·have hbn:b6=false:=by simpa using hun
     have c5:b5=true:=by simpa using hall ⟨5,.data⟩ (by simp) rfl
     obtain ⟨⟨q0,q1,q2,q3,q4,q5,q6,q7,q8⟩,_⟩:=kxg h.st;obtain rfl:=h.k5 c5;refine kzt rfl rfl (fun K hK=>?_);unfold qva;go_simp
     refine hK _ _ ⟨b0,b1,b2,b3,b4,b5,true,b7,b8,b9,b10,b11,_,_,_,_,_,_,_,_,_,_,rfl,rfl,⟨h.k0,h.k1,h.k2,h.k3,h.k4,fun _=>rfl,fun _=>rfl,h.k7,h.k8,h.k9,h.kn,h.d10,h.d11,h.ty,h.st,h.be,h.sz⟩⟩
    ·have hbn:b7=false:=by simpa using hun
     have c4:b4=true:=by simpa using hall ⟨4,.data⟩ (by simp) rfl
     have c6:b6=true:=by simpa using hall ⟨6,.data⟩ (by simp) rfl
     obtain rfl:=h.k4 c4;obtain rfl:=h.k6 c6;refine kzt rfl rfl (fun K hK=>?_);unfold qva;go_simp
     go_at_call 217
     refine (ku HEX wx h.be).mono ?_;rintro e w1 ⟨rfl,hb1⟩;dsimp only;refine hK _ _ ⟨b0,b1,b2,b3,b4,b5,b6,true,b8,b9,b10,b11,_,_,_,_,_,_,_,_,_,_,rfl,rfl,⟨h.k0,h.k1,h.k2,h.k3,fun _=>rfl,h.k5,fun _=>rfl,fun _=>rfl,fun hc=>by
       obtain ⟨g,x,y,e1,e2,e3,e4⟩:=h.k8 hc;exact ⟨g,x,y,e1,e2,(hb1.block g (wX e3)).trans e3,e4⟩,fun hc=>by
       obtain ⟨g,x,y,e1,e2,e3,e4⟩:=h.k9 hc;exact ⟨g,x,y,e1,e2,(hb1.block g (wX e3)).trans e3,e4⟩,h.kn,h.d10,h.d11,(hb1.block _ (wX h.ty)).trans h.ty,(hb1.block _ (wX h.st)).trans h.st,h.be.trans (hb1.mono h.be.size),rV h.sz hb1.size⟩⟩
    ·have hbn:b8=false:=by simpa using hun
     refine kzt rfl rfl (fun K hK=>?_);unfold qva;go_simp
     refine hK _ _ ⟨b0,b1,b2,b3,b4,b5,b6,b7,true,b9,b10,b11,_,_,_,_,_,_,_,_,_,_,rfl,rfl,⟨h.k0,h.k1,h.k2,h.k3,h.k4,h.k5,h.k6,h.k7,fun _=>⟨wx.heap.size,_,_,rfl,h.sz,heap_alloc_new _ _,fun hc=>by rw[h.d10 hc] at hbn;cases hbn⟩,fun hc=>by
       obtain ⟨g,x,y,e1,e2,e3,e4⟩:=h.k9 hc;exact ⟨g,x,y,e1,e2,qp e3,e4⟩,fun _ hc e=>by
       obtain ⟨g,x,y,e1,e2,e3,e4⟩:=h.k9 hc;rw[e1] at e;injection e with e;injection e with e;injection e with e;have:=wX e3;omega,fun _=>rfl,h.d11,qp h.ty,qp h.st,h.be.alloc h.be.size _,by simp;exact Nat.le_succ_of_le h.sz⟩⟩
    ·have hbn:b9=false:=by simpa using hun
     refine kzt rfl rfl (fun K hK=>?_);unfold qva;go_simp
     refine hK _ _ ⟨b0,b1,b2,b3,b4,b5,b6,b7,b8,true,b10,b11,_,_,_,_,_,_,_,_,_,_,rfl,rfl,⟨h.k0,h.k1,h.k2,h.k3,h.k4,h.k5,h.k6,h.k7,fun hc=>by
       obtain ⟨g,x,y,e1,e2,e3,e4⟩:=h.k8 hc;exact ⟨g,x,y,e1,e2,qp e3,e4⟩,fun _=>⟨wx.heap.size,_,_,rfl,h.sz,heap_alloc_new _ _,fun hc=>by rw[h.d11 hc] at hbn;cases hbn⟩,fun hc _ e=>by
       obtain ⟨g,x,y,e1,e2,e3,e4⟩:=h.k8 hc;rw[e1] at e;injection e with e;injection e with e;injection e with e;have:=wX e3;omega,h.d10,fun _=>rfl,qp h.ty,qp h.st,h.be.alloc h.be.size _,by simp;exact Nat.le_succ_of_le h.sz⟩⟩
    ·have hbn:b10=false:=by simpa using hun
     have c8:b8=true:=by simpa using hall ⟨8,.data⟩ (by simp) rfl
     have c3:b3=true:=by simpa using hall ⟨3,.data⟩ (by simp) rfl
     obtain ⟨g,x,y,rfl,hg,hrow,_⟩:=h.k8 c8;obtain rfl:=h.k3 c3;obtain ⟨z0,z1,z2,z3⟩:=yj hrow;refine kzt rfl rfl (fun K hK=>?_);unfold qva;go_simp
     refine hK _ _ ⟨b0,b1,b2,b3,b4,b5,b6,b7,b8,b9,true,b11,_,_,_,_,_,_,_,_,_,_,rfl,rfl,⟨h.k0,h.k1,h.k2,fun _=>rfl,h.k4,h.k5,h.k6,h.k7,fun _=>⟨g,_,_,rfl,hg,set2 hrow _ _,fun _=>⟨rfl,rfl⟩⟩,fun hc=>by
       obtain ⟨g2,x2,y2,f1,f2,f3,f4⟩:=h.k9 hc;refine ⟨g2,x2,y2,f1,f2,?_,f4⟩;have hne:g2≠g:=fun e=>h.kn c8 hc (by rw[f1,e])
       rw[ru _ _ _ _ hne,ru _ _ _ _ hne];exact f3,h.kn,fun _=>c8,h.d11,by rw[ru _ _ _ _ (show w.heap.size≠g by omega),ru _ _ _ _ (show w.heap.size≠g by omega)];exact h.ty,by rw[ru _ _ _ _ (show w.heap.size+1≠g by omega),ru _ _ _ _ (show w.heap.size+1≠g by omega)];exact h.st,(h.be.setCell (show w.heap.size≤g by omega) _).setCell (show w.heap.size≤g by omega) _,by simpa[World.setCell] using h.sz⟩⟩
    ·have hbn:b11=false:=by simpa using hun
     have c9:b9=true:=by simpa using hall ⟨9,.data⟩ (by simp) rfl
     have c7:b7=true:=by simpa using hall ⟨7,.data⟩ (by simp) rfl
     obtain ⟨g,x,y,rfl,hg,hrow,_⟩:=h.k9 c9;obtain rfl:=h.k7 c7;obtain ⟨z0,z1,z2,z3⟩:=yj hrow;refine kzt rfl rfl (fun K hK=>?_);unfold qva;go_simp
     refine hK _ _ ⟨b0,b1,b2,b3,b4,b5,b6,b7,b8,b9,b10,true,_,_,_,_,_,_,_,_,_,_,rfl,rfl,⟨h.k0,h.k1,h.k2,h.k3,h.k4,h.k5,h.k6,fun _=>rfl,fun hc=>by
       obtain ⟨g2,x2,y2,f1,f2,f3,f4⟩:=h.k8 hc;refine ⟨g2,x2,y2,f1,f2,?_,f4⟩;have hne:g2≠g:=fun e=>h.kn hc c9 (by rw[f1,e])
       rw[ru _ _ _ _ hne,ru _ _ _ _ hne];exact f3,fun _=>⟨g,_,_,rfl,hg,set2 hrow _ _,fun _=>⟨rfl,rfl⟩⟩,h.kn,h.d10,fun _=>c9,by rw[ru _ _ _ _ (show w.heap.size≠g by omega),ru _ _ _ _ (show w.heap.size≠g by omega)];exact h.ty,by rw[ru _ _ _ _ (show w.heap.size+1≠g by omega),ru _ _ _ _ (show w.heap.size+1≠g by omega)];exact h.st,(h.be.setCell (show w.heap.size≤g by omega) _).setCell (show w.heap.size≤g by omega) _,by simpa[World.setCell] using h.sz⟩⟩
   ·intro l a wx hI hr;obtain ⟨b0,b1,b2,b3,b4,b5,b6,b7,b8,b9,b10,b11,u5,u6,u34,u35,u36,u37,u38,u39,u40,u41,rfl,rfl,h⟩:=hI;have no:∀ j:Nat,¬j∈Region.ready .any _ #[b0,b1,b2,b3,b4,b5,b6,b7,b8,b9,b10,b11]:=fun j=>by rw[hr];simp
    obtain rfl:b0=true:=by
     cases b0 with
     | true=>rfl
     | false=>exact (no 0 (mem_ready.2 ⟨rfl,_,rfl,by simp⟩)).elim
    obtain rfl:b1=true:=by
     cases b1 with
     | true=>rfl
     | false=>exact (no 1 (mem_ready.2 ⟨rfl,_,rfl,by simp⟩)).elim
    obtain rfl:b2=true:=by
     cases b2 with
     | true=>rfl
     | false=>exact (no 2 (mem_ready.2 ⟨rfl,_,rfl,by simp⟩)).elim
    obtain rfl:b3=true:=by
     cases b3 with
     | true=>rfl
     | false=>exact (no 3 (mem_ready.2 ⟨rfl,_,rfl,by simp⟩)).elim
    obtain rfl:b4=true:=by
     cases b4 with
     | true=>rfl
     | false=>exact (no 4 (mem_ready.2 ⟨rfl,_,rfl,by simp⟩)).elim
    obtain rfl:b5=true:=by
     cases b5 with
     | true=>rfl
     | false=>exact (no 5 (mem_ready.2 ⟨rfl,_,rfl,by simp⟩)).elim
    obtain rfl:b6=true:=by
     cases b6 with
     | true=>rfl
     | false=>exact (no 6 (mem_ready.2 ⟨rfl,_,rfl,by simp⟩)).elim
    obtain rfl:b7=true:=by
     cases b7 with
     | true=>rfl
     | false=>exact (no 7 (mem_ready.2 ⟨rfl,_,rfl,by simp⟩)).elim
    obtain rfl:b8=true:=by
     cases b8 with
     | true=>rfl
     | false=>exact (no 8 (mem_ready.2 ⟨rfl,_,rfl,by simp⟩)).elim
    obtain rfl:b9=true:=by
     cases b9 with
     | true=>rfl
     | false=>exact (no 9 (mem_ready.2 ⟨rfl,_,rfl,by simp⟩)).elim
    obtain rfl:b10=true:=by
     cases b10 with
     | true=>rfl
     | false=>exact (no 10 (mem_ready.2 ⟨rfl,_,rfl,by simp⟩)).elim
    obtain rfl:b11=true:=by
     cases b11 with
     | true=>rfl
     | false=>exact (no 11 (mem_ready.2 ⟨rfl,_,rfl,by simp⟩)).elim
    obtain ⟨g5,x5,y5,rfl,hg5,hr5,hv5⟩:=h.k8 rfl;obtain ⟨g6,x6,y6,rfl,hg6,hr6,hv6⟩:=h.k9 rfl;obtain ⟨rfl,rfl⟩:=hv5 rfl;obtain ⟨rfl,rfl⟩:=hv6 rfl;obtain ⟨v0,v1,_⟩:=yj hr5;obtain ⟨v2,v3,_⟩:=yj hr6;have hbe:=h.be;unfold qva;clear no hr h t0 t1 q0 q1 q2 q3 q4 q5 q6 q7 q8;go_wp2_with fail
    go_meet
    exact ⟨g5,g6,rfl,rfl,⟨v0,v1⟩,⟨v2,v3⟩,wX hr5,wX hr6,hbe⟩
  case rest=>
   obtain ⟨g5,g6,rfl,rfl,⟨c0,c1⟩,⟨d0,d1⟩,l5,l6,hb⟩:=hcut;have HB2:=hide hb;have hz2:=hb.size;clear HTY HST HB hb t0 t1 q0 q1 q2 q3 q4 q5 q6 q7 q8;go_wp2_with fail
   refine (zyk _ tp tx).mono ?_;rintro r w3 ⟨rfl,hb3⟩;have e0:=(hb3.cell (p:=⟨g5,0,none⟩) l5).trans c0;have e1:=(hb3.cell (p:=⟨g6,0,none⟩) l6).trans d0;have HB3:=hide ((ku HB2).trans (hb3.mono hz2));clear hb3 c0 c1 d0 d1;generalize hsm:kyw tp tx=sm;have HSM:=hide hsm;clear hsm;cases sm
   ·cases h4:(tp.fam==4)
    ·go_wp2
     go_ret
     exact ⟨jf (by rw[ku HRR,h4,ku HSM];rfl),ku HB3⟩
    ·go_wp2
     go_ret
     exact ⟨jf (by rw[ku HRR,h4,ku HSM];simp),ku HB3⟩
   ·go_wp2
    go_ret
    exact ⟨jf (by rw[ku HRR,ku HSM];rfl),ku HB3⟩
def qv3:PB→Prop
 | .nil=>True
 | .node _ _ _ .nil n=>qv3 n
 | .node _ _ _ (.node _ _ _ t e) n=>qj3 t∧qj3 e∧qv3 n
def vy7 (W:World)(so:Nat)(no:Option Nat)(tab:Tab)(l:List PP)(fin:Bool)(len:Nat)(cs:List Value)(i:Value)(wr:World):Prop:=
 ∃ (k:Nat) (rest:PB),k+uz rest=len∧i=.int .i64 k∧BIs so no wr rest (cs.drop (k * 9))∧qv3 rest∧kke rest∧kwx rest∧(∀ y∈zh rest,y.text.size≤1000)∧kzf tab l rest=fin∧Below W.heap.size W wr
theorem jvi {p:PX}{x:ELab}(h:p=.node 0 0 x .nil .nil):plC p=[.string x.name.text,.int .i64 x.name.at_,.bool (!(x.index.kind.toList==[])),.string x.index.text,.int .i64 x.index.at_]∧vqo p=kjb x.name x.index∧zqw p=x.name.text:=by subst h;exact ⟨rfl,rfl,rfl⟩
theorem qy2 (b:PB)(hI:qv3 b):qj3 b:=by
 intro w bb lo so no tab l pa pn pc v cs hM htz ho hl hv hbi hbl hbf hpl hs;obtain ⟨xa,cap,rfl,hview⟩:=zq hv;obtain ⟨W,hW⟩:∃ W,W=w.alloc (.cells #[.map (some bb),.slice pa pn pc] 301):=⟨_,rfl⟩;have hbW:Below w.heap.size w W:=by rw[hW];exact below_alloc1 _ _
 have hsW:W.heap.size=w.heap.size+1:=by rw[hW];simp
 have hTy:W.heap[w.heap.size]?=some (.cells #[.map (some bb),.slice pa pn pc] 301 (0,0)):=by rw[hW];exact qy _ _
 have HW:=hide (show ∀ i,i<uz b→∃ g,xa=some ⟨g,0,none⟩∧∀ j,j<uz b * 9→∀ u,cs[j]?=some u→W.cell? ⟨g,j,none⟩=some u from fun i hi=>by
  obtain ⟨g,rfl,_,hg,hc⟩:=hview i hi;exact ⟨g,rfl,fun j hj u hu=>(hbW.cell (p:=⟨g,j,none⟩) hg).trans ((hc j hj).trans hu)⟩)
 have HR:=hide (show vy7 W so no tab l (kzf tab l b) (uz b) cs (.int .i64 0) W from ⟨0,b,by omega,rfl,by simpa using hbi.stay (fun k _ hk=>hbW.block k hk),hI,hbl,hbf,hs,rfl,Below.refl _ _⟩);have HM:=hide (hM.kept hbW);have HO:=hide (qj ho hbW);have HTY:=hide hTy;have HB:=hide hbW;have HWE:=hide hW.symm;generalize kzf tab l b=fin at *;generalize uz b=len at *;clear hview hv hbi hbl hbf hs hI hM ho hbW hTy hW;unfold tyV;go_enter Tryz.func163,Tryz.ntmps163
 go_upto_region 2 with fail
 rw[ku HWE];go_loopw [6,9] (fun _ i wr=>vy7 W so no tab l fin len cs i wr) (fun _ i _=>len-(intOf i).toNat)
 case atStart=>exact ku HR
 case round=>
  obtain ⟨k,rest,hk,rfl,hst,hIn,hbl,hbf,hs,hfin,hb⟩:=hrel;have HBr:=hide hb;have hsz:=hb.size;have hTr:=(hb.block w.heap.size (by omega)).trans (ku HTY);obtain ⟨t0,t1,_⟩:=yj hTr;have htl:=wX hTr;have HMr:=hide ((ku HM).kept hb);have HOr:=hide (qj (ku HO) hb);have HF:=hide hfin;have HTr:=hide hTr;clear hfin hTr;match rest,hst,hIn,hbl,hbf,hs,HF,hk with
  | .nil,hst,hIn,hbl,hbf,hs,HF,hk=>
   have hne:¬k<len:=by simp only[uz] at hk;omega
   clear hst hIn hbl hbf hs hk hb;go_wp2
   go_ret
   exact ⟨by rw[←ku HF];rfl,(ku HB).trans ((ku HBr).mono (by omega))⟩
  | .node _ _ la .nil nx,hst,hIn,hbl,hbf,hs,HF,hk=>
   obtain ⟨p,rst,hd,hx,hnx⟩:=hst;have hlt:k<len:=by simp only[uz] at hk;omega
   obtain ⟨g,rfl,hc⟩:=ku HW k hlt;obtain ⟨⟨hb1,hb2,xl,hpx,hop⟩,hbf'⟩:=hbf;obtain ⟨hpc,hpn,hnm⟩:=jvi hpx;obtain ⟨hdr,hcc⟩:=kwh hd (kyk _ _ _ _ _);have cc:∀ j,j<9→∀ u,(stC false la (.pointer p) (.slice none 0 0) (.slice none 0 0))[j]?=some u→wr.cell? ⟨g,k * 9+j,none⟩=some u:=fun j hj u hu=>fJ hb (hc (k * 9+j) (by omega) u ((hcc j hj).trans hu))
   unfold stC at cc;rw[hpc] at cc;have e0:=cc 0 (by omega) _ rfl;have e1:=cc 1 (by omega) _ rfl;have e2:=cc 2 (by omega) _ rfl;have e3:=cc 3 (by omega) _ rfl;have e4:=cc 4 (by omega) _ rfl;have e5:=cc 5 (by omega) _ rfl;have e6:=cc 6 (by omega) _ rfl;have e7:=cc 7 (by omega) _ rfl;have e8:=cc 8 (by omega) _ rfl;simp only[nV] at e0;have hsp:∀ y∈kjb xl.name xl.index,y.text.size≤1000:=fun y hy=>hs y (by rw[zh,hpn];simp[hy])
   have hsv:∀ y∈jr la.value,y.text.size≤1000:=fun y hy=>hs y (by rw[zh];simp[hy])
   have hsn:∀ y∈zh nx,y.text.size≤1000:=fun y hy=>hs y (by rw[zh];simp[hy])
   have hn1:xl.name.text.size≤1000:=hsp _ (by unfold kjb;split<;>simp);have htp:kqg tab l la.place=kx4 tab l xl.name xl.index:=by rw[hpx,kqg,hop];rfl
   have HF2:=hide (show (((qo tab xl.name.text.toList).role==4)&&(kyw (kx4 tab l xl.name xl.index) (kqg tab l la.value)||((kx4 tab l xl.name xl.index).fam==4&&(kqg tab l la.value).fam==5))&&kzf tab l nx)=fin by rw[←ku HF,kzf,jz2,hnm,htp]);have HB1:=hide (show BIs so no wr nx (cs.drop ((k+1) * 9)) by rw[hdr];exact hnx);have HSM:=hide (zy1 (wr.alloc (.cells #[.bool false,.string xl.name.text,.int .i64 xl.name.at_,.bool (!(xl.index.kind.toList==[])),.string xl.index.text,.int .i64 xl.index.at_,.pointer p,.slice none 0 0,.slice none 0 0] 334)) bb lo so tab l pa pn pc xl.name xl.index la.value p ((ku HMr).kept (below_alloc1 _ _)) htz ((ku HOr).alloc _) hl (hx.below (below_alloc1 _ _)) hb1 hb2 hsv hsp hn1);have HNX:=hide (⟨hIn,hbl,hbf',hsn⟩:qv3 nx∧kke nx∧kwx nx∧∀ y∈zh nx,y.text.size≤1000);have hkn:k+1+uz nx=len:=by simp only[uz] at hk;omega
   unfold smV tyV at HSM;generalize (((qo tab xl.name.text.toList).role==4)&&(kyw (kx4 tab l xl.name xl.index) (kqg tab l la.value)||((kx4 tab l xl.name xl.index).fam==4&&(kqg tab l la.value).fam==5)))=s at *;generalize (!(xl.index.kind.toList==[]))=d at *;clear cc hc hcc hdr hd hpc hpn hnm hpx hop htp hs hsp hsv hsn hn1 hx hnx hbl hIn hbf' hb1 hb2 HF HR HW hk hb HMr HOr;go_wp2_with fail
   refine (ku HSM).mono ?_;rintro r w2 ⟨rfl,hb2⟩;have HB2:=hide ((ku HBr).trans (((below_alloc1 wr _).trans (hb2.mono (by simp))).mono hsz));have HB12:=hide ((below_alloc1 wr (.cells #[.bool false,.string xl.name.text,.int .i64 xl.name.at_,.bool d,.string xl.index.text,.int .i64 xl.index.at_,.pointer p,.slice none 0 0,.slice none 0 0] 334)).trans (hb2.mono (by simp)));clear hb2 HSM;cases s
   ·go_wp2
    go_ret
    exact ⟨by rw[←ku HF2];rfl,(ku HB).trans ((ku HB2).mono (by omega))⟩
   ·go_wp2
    go_roundw
    case rel=>exact ⟨k+1,nx,hkn,by go_num,(ku HB1).stay (fun k _ hk=>(ku HB12).block k hk),(ku HNX).1,(ku HNX).2.1,(ku HNX).2.2.1,(ku HNX).2.2.2,by rw[←ku HF2];rfl,ku HB2⟩
    case measure=>simp[intOf];omega
  | .node _ _ la (.node _ _ _ t e) nx,hst,hIn,hbl,hbf,hs,HF,hk=>
   obtain ⟨p,ta,tn,tc,ea,en,ec,ct,ce,rst,hd,hx,⟨ht1,_,ht2⟩,⟨he1,_,he2⟩,hnx⟩:=hst;have hlt:k<len:=by simp only[uz] at hk;omega
   obtain ⟨g,rfl,hc⟩:=ku HW k hlt;obtain ⟨n,i,hpc,hpn⟩:=zjc la.place;obtain ⟨⟨hb1,hb2⟩,hbt,hbe,hbf'⟩:=hbf;obtain ⟨hdr,hcc⟩:=kwh hd (kyk _ _ _ _ _);have cc:∀ j,j<9→∀ u,(stC true la (.pointer p) (.slice ta tn tc) (.slice ea en ec))[j]?=some u→wr.cell? ⟨g,k * 9+j,none⟩=some u:=fun j hj u hu=>fJ hb (hc (k * 9+j) (by omega) u ((hcc j hj).trans hu))
   unfold stC at cc;rw[hpc] at cc;have e0:=cc 0 (by omega) _ rfl;have e1:=cc 1 (by omega) _ rfl;have e2:=cc 2 (by omega) _ rfl;have e3:=cc 3 (by omega) _ rfl;have e4:=cc 4 (by omega) _ rfl;have e5:=cc 5 (by omega) _ rfl;have e6:=cc 6 (by omega) _ rfl;have e7:=cc 7 (by omega) _ rfl;have e8:=cc 8 (by omega) _ rfl;simp only[nV] at e0;have hsc:∀ y∈jr la.cond,y.text.size≤1000:=fun y hy=>hs y (by rw[zh];simp[hy])
   have hstt:∀ y∈zh t,y.text.size≤1000:=fun y hy=>hs y (by rw[zh];simp[hy])
   have hse:∀ y∈zh e,y.text.size≤1000:=fun y hy=>hs y (by rw[zh];simp[hy])
   have hsn:∀ y∈zh nx,y.text.size≤1000:=fun y hy=>hs y (by rw[zh];simp[hy])
   have HF2:=hide (show ((((kqg tab l la.cond).fam==1&&kzf tab l t)&&kzf tab l e)&&kzf tab l nx)=fin by rw[←ku HF,kzf]);have HB1:=hide (show BIs so no wr nx (cs.drop ((k+1) * 9)) by rw[hdr];exact hnx);have hal:∀ o:Obj,Below wr.heap.size wr (wr.alloc o):=fun o=>below_alloc1 _ _
   have HSM:=hide (jjf (wr.alloc (.cells #[.bool true,.string n.text,.int .i64 n.at_,.bool (!(i.kind.toList==[])),.string i.text,.int .i64 i.at_,.pointer p,.slice ta tn tc,.slice ea en ec] 334)) bb lo so no tab l pa pn pc n i la.cond t e p ta tn tc ea en ec ct ce ((ku HMr).kept (hal _)) htz ((ku HOr).alloc _) hl (hx.below (hal _)) hb1 hb2 hsc
    hIn.1 (qj ht1 (hal _)) (ht2.stay fun k _ hk=>(hal _).block k hk) hbl.1.1 hbt hbl.1.2 hstt hIn.2.1 (qj he1 (hal _)) (he2.stay fun k _ hk=>(hal _).block k hk) hbl.2.1.1 hbe hbl.2.1.2 hse)
   have HNX:=hide (⟨hIn.2.2,hbl.2.2,hbf',hsn⟩:qv3 nx∧kke nx∧kwx nx∧∀ y∈zh nx,y.text.size≤1000);have hkn:k+1+uz nx=len:=by simp only[uz] at hk;omega
   unfold smV tyV at HSM;generalize (((kqg tab l la.cond).fam==1&&kzf tab l t)&&kzf tab l e)=s at *;generalize (!(i.kind.toList==[]))=d at *;clear cc hc hcc hdr hd hpc hpn hs hsc hstt hse hsn hx hnx hbl hIn hbf' hbt hbe hb1 hb2 HF HR HW hk hb HMr HOr ht1 ht2 he1 he2 hal;go_wp2_with fail
   refine (ku HSM).mono ?_;rintro r w2 ⟨rfl,hb2⟩;have HB2:=hide ((ku HBr).trans (((below_alloc1 wr _).trans (hb2.mono (by simp))).mono hsz));have HB12:=hide ((below_alloc1 wr (.cells #[.bool true,.string n.text,.int .i64 n.at_,.bool d,.string i.text,.int .i64 i.at_,.pointer p,.slice ta tn tc,.slice ea en ec] 334)).trans (hb2.mono (by simp)));clear hb2 HSM;cases s
   ·go_wp2
    go_ret
    exact ⟨by rw[←ku HF2];rfl,(ku HB).trans ((ku HB2).mono (by omega))⟩
   ·go_wp2
    go_roundw
    case rel=>exact ⟨k+1,nx,hkn,by go_num,(ku HB1).stay (fun k _ hk=>(ku HB12).block k hk),(ku HNX).1,(ku HNX).2.1,(ku HNX).2.2.1,(ku HNX).2.2.2,by rw[←ku HF2];rfl,ku HB2⟩
    case measure=>simp[intOf];omega
theorem ky3:∀ b:PB,qv3 b
 | .nil=>trivial
 | .node _ _ _ .nil n=>ky3 n
 | .node _ _ _ (.node _ _ _ t e) n=>⟨qy2 t (ky3 t),qy2 e (ky3 e),ky3 n⟩
theorem vzz (b:PB):qj3 b:=qy2 b (ky3 b)
end Go.Proofs.YtpmcnonmkghokaaGreatDoor

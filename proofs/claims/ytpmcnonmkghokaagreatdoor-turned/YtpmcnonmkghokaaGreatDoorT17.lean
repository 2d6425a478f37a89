import Derived.Test.YtpmcnonmkghokaaGreatDoorT15
import Derived.Test.YtpmcnonmkghokaaGreatDoorT16
import Derived.Test.YtpmcnonmkghokaaGreatDoorT10
set_option maxRecDepth 100000
set_option maxHeartbeats 8000000
set_option linter.unusedVariables false
set_option linter.unusedSimpArgs false
namespace Go.Proofs.YtpmcnonmkghokaaGreatDoor
open Go.RowKit
attribute [local go_sem ↓] Go.wp_at_zero Go.wp_at_succ
theorem zvt {w:World}{b:Nat}{x0 x1 x2 x3 x4:Value}{t:TypeId}{bad:List Nat}(h:w.heap[b]?=some (.cells #[x0,x1,x2,x3,x4] t (0,0)))(he:t∈bad)(y0 y1 y2 y3 y4:Value) :
  Tk none bad w (((((w.setCell ⟨b,0,none⟩ y0).setCell ⟨b,1,none⟩ y1).setCell ⟨b,2,none⟩ y2).setCell ⟨b,3,none⟩ y3).setCell ⟨b,4,none⟩ y4):=by
 have h1:(w.setCell ⟨b,0,none⟩ y0).heap[b]?=some (.cells #[y0,x1,x2,x3,x4] t (0,0)):=heap_setCell_same _ b 0 _ _ _ h;have h2:((w.setCell ⟨b,0,none⟩ y0).setCell ⟨b,1,none⟩ y1).heap[b]?=some (.cells #[y0,y1,x2,x3,x4] t (0,0)):=heap_setCell_same _ b 1 _ _ _ h1;have h3:(((w.setCell ⟨b,0,none⟩ y0).setCell ⟨b,1,none⟩ y1).setCell ⟨b,2,none⟩ y2).heap[b]?=some (.cells #[y0,y1,y2,x3,x4] t (0,0)):=heap_setCell_same _ b 2 _ _ _ h2;have h4:((((w.setCell ⟨b,0,none⟩ y0).setCell ⟨b,1,none⟩ y1).setCell ⟨b,2,none⟩ y2).setCell ⟨b,3,none⟩ y3).heap[b]?=some (.cells #[y0,y1,y2,y3,x4] t (0,0)):=heap_setCell_same _ b 3 _ _ _ h3;exact ((((kkd h he 0 y0).trans (kkd h1 he 1 y1)).trans (kkd h2 he 2 y2)).trans (kkd h3 he 3 y3)).trans (kkd h4 he 4 y4)
def Apart (a b:Value):Prop:=∀ k,a.ownBlock=some k→b.ownBlock≠some k
theorem kzh {a b:Value}(h:Apart a b):Apart b a:=fun k hk e=>h k e hk
theorem qj1 {a b:Value}(h:Apart a b):b.ownBlock=none∨b.ownBlock≠a.ownBlock:=by
 cases hb:b.ownBlock with
 | none=>exact Or.inl rfl
 | some k=>exact Or.inr fun e=>h k e.symm hb
theorem kwt {a b v:Value}{w:World}{B e size n:Nat}{xs:List Value}(h:Apart a b)(hat:v.ownBlock=a.ownBlock∨v.ownBlock=some (w.heap.size+1))(ho:w.ownsRow B e size b n xs):Apart v b:=fun k hk e1=>by
 rcases hat with h1|h1
 ·exact h k (by rw[←h1];exact hk) e1
 ·rw[h1] at hk;injection hk with hk;rcases ho.2 with ⟨e2,_⟩|⟨g,cap,cur,e2,_,e3,_⟩
  ·rw[e2] at e1;cases e1
  ·rw[e2] at e1;injection e1 with e1;have h5:=wX e3;have h6:g=k:=e1;omega
def zqj (B:Nat)(w:World)(V:Nat)(t:ByteArray)(en wr br:List ByteArray)(ev wv bv:Value):Prop:=
 w.heap[V]?=some (.cells #[.string t,ev,wv,bv,.bool false] 24 (0,0))∧w.ownsRow B 9 1 ev en.length (en.map Value.string)∧w.ownsRow B 9 1 wv wr.length (wr.map Value.string)∧w.ownsRow B 9 1 bv br.length (br.map Value.string)∧Apart ev wv∧Apart ev bv∧Apart wv bv
theorem zqj.below {B V:Nat}{w w':World}{t:ByteArray}{en wr br:List ByteArray}{ev wv bv:Value}(h:zqj B w V t en wr br ev wv bv)(hb:Below w.heap.size w w'):zqj B w' V t en wr br ev wv bv:=by
 obtain ⟨h0,h1,h2,h3,p⟩:=h;exact ⟨(hb.block V (wX h0)).trans h0,qj h1 hb,qj h2 hb,qj h3 hb,p⟩
theorem vzr {B V:Nat}{w w4:World}{t s:ByteArray}{en wr br:List ByteArray}{ev wv bv:Value}(h:zqj B w V t en wr br ev wv bv){xa:Option Addr}{xn xc:Nat}(hg:(w.alloc (.cells #[.string s] 9)).grownBy w4 ev.ownBlock)(hown:w4.ownsRow B 9 1 (.slice xa xn xc) (en.length+1) (en.map Value.string++[.string s]))(hat:(Value.slice xa xn xc).ownBlock=ev.ownBlock∨(Value.slice xa xn xc).ownBlock=some (w.heap.size+1)) :
  w4.heap[V]?=some (.cells #[.string t,ev,wv,bv,.bool false] 24 (0,0))∧zqj B (w4.setCell ⟨V,1,none⟩ (.slice xa xn xc)) V t (en++[s]) wr br (.slice xa xn xc) wv bv:=by
 obtain ⟨h0,h1,h2,h3,p01,p02,p12⟩:=h;have k4:Tk none [9] w w4:=(mg (below_alloc1 w (.cells #[.string s] 9)) none [9]).trans (kj7 (h1.alloc _) hg (by decide));have hr4:=k4.row h0 (by simp) (by decide);have k5:Tk none [24] w4 (w4.setCell ⟨V,1,none⟩ (.slice xa xn xc)):=kkd hr4 (by decide) 1 _;exact ⟨hr4,heap_setCell_same _ V 1 _ _ _ hr4,by rw[wU,ng];exact zk hown k5 (uy.none _) (by decide),zk (((h2.alloc (.cells #[.string s] 9))).kept hg (qj1 p01)) k5 (uy.none _) (by decide),zk (((h3.alloc (.cells #[.string s] 9))).kept hg (qj1 p02)) k5 (uy.none _) (by decide),kwt p01 hat h2,kwt p02 hat h3,p12⟩
theorem vzt {B V:Nat}{w w4:World}{t s:ByteArray}{en wr br:List ByteArray}{ev wv bv:Value}(h:zqj B w V t en wr br ev wv bv){xa:Option Addr}{xn xc:Nat}(hg:(w.alloc (.cells #[.string s] 9)).grownBy w4 wv.ownBlock)(hown:w4.ownsRow B 9 1 (.slice xa xn xc) (wr.length+1) (wr.map Value.string++[.string s]))(hat:(Value.slice xa xn xc).ownBlock=wv.ownBlock∨(Value.slice xa xn xc).ownBlock=some (w.heap.size+1)) :
  w4.heap[V]?=some (.cells #[.string t,ev,wv,bv,.bool false] 24 (0,0))∧zqj B (w4.setCell ⟨V,2,none⟩ (.slice xa xn xc)) V t en (wr++[s]) br ev (.slice xa xn xc) bv:=by
 obtain ⟨h0,h1,h2,h3,p01,p02,p12⟩:=h;have k4:Tk none [9] w w4:=(mg (below_alloc1 w (.cells #[.string s] 9)) none [9]).trans (kj7 (h2.alloc _) hg (by decide));have hr4:=k4.row h0 (by simp) (by decide);have k5:Tk none [24] w4 (w4.setCell ⟨V,2,none⟩ (.slice xa xn xc)):=kkd hr4 (by decide) 2 _;exact ⟨hr4,heap_setCell_same _ V 2 _ _ _ hr4,zk (((h1.alloc (.cells #[.string s] 9))).kept hg (qj1 (kzh p01))) k5 (uy.none _) (by decide),by rw[wU,ng];exact zk hown k5 (uy.none _) (by decide),zk (((h3.alloc (.cells #[.string s] 9))).kept hg (qj1 p12)) k5 (uy.none _) (by decide),kzh (kwt (kzh p01) hat h1),p02,kwt p12 hat h3⟩
theorem vzh {B V:Nat}{w w4:World}{t s:ByteArray}{en wr br:List ByteArray}{ev wv bv:Value}(h:zqj B w V t en wr br ev wv bv){xa:Option Addr}{xn xc:Nat}(hg:(w.alloc (.cells #[.string s] 9)).grownBy w4 bv.ownBlock)(hown:w4.ownsRow B 9 1 (.slice xa xn xc) (br.length+1) (br.map Value.string++[.string s]))(hat:(Value.slice xa xn xc).ownBlock=bv.ownBlock∨(Value.slice xa xn xc).ownBlock=some (w.heap.size+1)) :
  w4.heap[V]?=some (.cells #[.string t,ev,wv,bv,.bool false] 24 (0,0))∧zqj B (w4.setCell ⟨V,3,none⟩ (.slice xa xn xc)) V t en wr (br++[s]) ev wv (.slice xa xn xc):=by
 obtain ⟨h0,h1,h2,h3,p01,p02,p12⟩:=h;have k4:Tk none [9] w w4:=(mg (below_alloc1 w (.cells #[.string s] 9)) none [9]).trans (kj7 (h3.alloc _) hg (by decide));have hr4:=k4.row h0 (by simp) (by decide);have k5:Tk none [24] w4 (w4.setCell ⟨V,3,none⟩ (.slice xa xn xc)):=kkd hr4 (by decide) 3 _;exact ⟨hr4,heap_setCell_same _ V 3 _ _ _ hr4,zk (((h1.alloc (.cells #[.string s] 9))).kept hg (qj1 (kzh p02))) k5 (uy.none _) (by decide),zk (((h2.alloc (.cells #[.string s] 9))).kept hg (qj1 (kzh p12))) k5 (uy.none _) (by decide),by rw[wU,ng];exact zk hown k5 (uy.none _) (by decide),p01,kzh (kwt (kzh p02) hat h1),kzh (kwt (kzh p12) hat h2)⟩
def lkO (vars:List MVar)(tab:uq)(st:List Int):List MStep→List ByteArray→List ByteArray→Option (List ByteArray × List ByteArray)
 | [],en,wr=>some (en,wr)
 | s::l,en,wr=>(kv7 vars tab s.params s.mems st s.guard s.block).bind fun r=>if r.2==1 then lkO vars tab st l (en++[s.text]) wr else if r.2==2 then lkO vars tab st l en (wr++[s.text]) else lkO vars tab st l en wr
def lbO (vars:List MVar)(tab:uq)(st:List Int):List MNever→List ByteArray→Option (List ByteArray)
 | [],br=>some br
 | s::l,br=>(zxg vars tab s.params s.mems st s.expr).bind fun c=>if c then lbO vars tab st l (br++[s.text]) else lbO vars tab st l br
theorem zz3 (vars:List MVar)(tab:uq)(st:List Int):∀ (l:List MStep) (en wr:List ByteArray) (r:List ByteArray × List ByteArray),lkO vars tab st l en wr=some r→en.length≤r.1.length∧wr.length≤r.2.length∧r.1.length+r.2.length≤en.length+wr.length+l.length
 | [],en,wr,r,h=>by rw[lkO] at h;injection h with h;subst h;simp
 | s::l,en,wr,r,h=>by
  rw[lkO] at h;obtain ⟨q,_,h⟩:=wQ.mp h;split at h
  ·have:=zz3 vars tab st l _ _ r h;simp at this ⊢;omega
  ·split at h
   ·have:=zz3 vars tab st l _ _ r h;simp at this ⊢;omega
   ·have:=zz3 vars tab st l _ _ r h;simp at this ⊢;omega
theorem zw4 (vars:List MVar)(tab:uq)(st:List Int):∀ (l:List MNever) (br r:List ByteArray),lbO vars tab st l br=some r→br.length≤r.length∧r.length≤br.length+l.length
 | [],br,r,h=>by rw[lbO] at h;injection h with h;subst h;simp
 | s::l,br,r,h=>by
  rw[lbO] at h;obtain ⟨q,_,h⟩:=wQ.mp h;split at h
  ·have:=zw4 vars tab st l _ r h;simp at this ⊢;omega
  ·have:=zw4 vars tab st l _ r h;simp at this ⊢;omega
structure MView where
 text:ByteArray
 enabled:List ByteArray
 wrong:List ByteArray
 broken:List ByteArray
def lookO (a:Mach)(st:List Int):Option MView:=(qjt a.vars st).bind fun t=>(lkO a.vars a.tab st a.steps [] []).bind fun p=>(lbO a.vars a.tab st a.nevers []).map fun b=>⟨⟨t.toArray⟩,p.1,p.2,b⟩
def kzb (v:MView):Bool:=(v.enabled.length==0)&&(v.wrong.length==0)
def vzp (B:Nat)(w:World)(v:MView)(x:Value)(w':World):Prop:=
 ∃ ea en ec wa wn wc ba bn bc,x=.agg #[.string v.text,.slice ea en ec,.slice wa wn wc,.slice ba bn bc,.bool (kzb v)]∧w'.ownsRow B 9 1 (.slice ea en ec) v.enabled.length (v.enabled.map Value.string)∧w'.ownsRow B 9 1 (.slice wa wn wc) v.wrong.length (v.wrong.map Value.string)∧w'.ownsRow B 9 1 (.slice ba bn bc) v.broken.length (v.broken.map Value.string)
def jjp (w:World)(v:MView)(e:Ending)(w':World):Prop:=∃ x,e=.returned x∧vzp w.heap.size w v x w'∧Below w.heap.size w w'
def jvx (s:MNever):Prop:=s.params.length≤1000∧∀ y∈jr s.expr,y.text.size≤1000
theorem vxf {cs:List Value}{k:Nat}{a b c d e:Value}(h:(cs.drop (k * 5)).take 5=[a,b,c,d,e]):cs[k * 5]?=some a∧cs[k * 5+1]?=some b∧cs[k * 5+2]?=some c∧cs[k * 5+3]?=some d∧cs[k * 5+4]?=some e:=by
 have g:∀ j,j<5→cs[k * 5+j]?=([a,b,c,d,e]:List Value)[j]?:=fun j hj=>by
  rw[←h,Qq hj,Qs]
 exact ⟨g 0 (by omega),g 1 (by omega),g 2 (by omega),g 3 (by omega),g 4 (by omega)⟩
theorem vjd (w:World)(lo so M nb:Nat)(a:Mach)(st:List Int)(sa ta na:Option Addr)(sn sc tc nc:Nat)(cs ds:List Value)(h:Mc lo w M nb a.vars a.tab)(hS:w.ownsRow lo 5 1 (.slice sa sn sc) st.length (st.map (Value.int .u8)))(hM0:w.cell? ⟨M,0,none⟩=some (.slice ta a.steps.length tc))(hT:w.ownsRow lo 178 6 (.slice ta a.steps.length tc) a.steps.length cs)(hI:kko lo so w M a.steps cs)(hok:∀ s∈a.steps,qy6 s)
  (hM1:w.cell? ⟨M,1,none⟩=some (.slice na a.nevers.length nc)) (hN:w.ownsRow lo 208 5 (.slice na a.nevers.length nc) a.nevers.length ds) (hNI:qq3 lo so w M a.nevers ds) (hnk:∀ s∈a.nevers,jvx s)
  (hv:a.vars.length≤1000) (hsl:st.length≤1000000) (hln:a.steps.length≤1000000) (hnn:a.nevers.length≤1000000) (hlw:lo≤w.heap.size) (r:MView) (hr:lookO a st=some r) :
  Calls Tryz.prog 56 #[.pointer (some ⟨M,0,none⟩),.slice sa sn sc] w fun e w'=>jjp w r e w':=by
 unfold lookO at hr;obtain ⟨tx,htx,hr⟩:=wQ.mp hr;obtain ⟨⟨EN,WR⟩,hlk,hr⟩:=wQ.mp hr;obtain ⟨BR,hlb,rfl⟩:=rQ.mp hr;have hlen:=zz3 _ _ _ _ _ _ _ hlk;have hlen2:=zw4 _ _ _ _ _ _ hlb;simp only[fP] at hlen hlen2;obtain ⟨xa,cap,e1,hview⟩:=zq hT;injection e1 with e1 _ e3;subst e1;subst e3;obtain ⟨xa,cap,e1,hview2⟩:=zq hN;injection e1 with e1 _ e3;subst e1;subst e3;have hMl:M<w.heap.size:=by obtain ⟨⟨_,_,_,_,_,_,_,hb,_⟩,_⟩:=h;exact wX hb
 obtain ⟨i0,hi,hz0,hz1,hz2⟩:=info_parts Tryz.infoStr0;obtain ⟨W,hW⟩:∃ W,W=w.alloc (.cells #[.string ⟨#[]⟩,.slice none 0 0,.slice none 0 0,.slice none 0 0,.bool false] 24):=⟨_,rfl⟩;have hbW:Below w.heap.size w W:=by rw[hW];exact below_alloc1 w _
 have hsW:w.heap.size<W.heap.size:=by rw[hW];simp
 have hR:W.heap[w.heap.size]?=some (.cells #[.string ⟨#[]⟩,.slice none 0 0,.slice none 0 0,.slice none 0 0,.bool false] 24 (0,0)):=by rw[hW];exact qy _ _
 have HTX:=hide (jwk W lo M nb a.vars a.tab st sa sn sc (h.below hbW) (qj hS hbW) hv hsl tx htx);have HFR:=hide (fun (wx:World) (hb:Below w.heap.size w wx) (s:MStep) (hs:qy6 s) pa pn pc ma mn mc p ba bn bc bs no (h1:w.ownsRow lo 352 4 (.slice pa pn pc) s.params.length (jw s.params)) (h2:w.ownsRow lo 3 1 (.slice ma mn mc) s.mems.length (s.mems.map (Value.int .i64))) (h3:XIs so w s.guard (.pointer p)) (h4:w.ownsRow so 334 9 (.slice ba bn bc) (uz s.block) bs) (h5:BIs so no w s.block bs) (r:List Int × Int) (hr:kv7 a.vars a.tab s.params s.mems st s.guard s.block=some r)=>
  zkg s.guard s.block wx lo so M nb no a.vars a.tab s.params s.mems st s.text p pa ma sa ba pn pc mn mc sn sc bn bc bs (h.below hb) (qj h1 hb) (qj h2 hb) (qj hS hb) hv hs.1 hsl (h3.below hb) hs.2.1 ⟨qj h4 hb,h5.stay (fun k _ hk=>hb.block k hk),hs.2.2.1,hs.2.2.2.1,hs.2.2.2.2⟩ (rV hlw hb.size) r hr)
 have HBK:=hide (fun (wx:World) (hb:Below w.heap.size w wx) (s:MNever) (hs:jvx s) pa pn pc ma mn mc p (h1:w.ownsRow lo 352 4 (.slice pa pn pc) s.params.length (jw s.params)) (h2:w.ownsRow lo 3 1 (.slice ma mn mc) s.mems.length (s.mems.map (Value.int .i64))) (h3:XIs so w s.expr (.pointer p)) (r:Bool) (hr:zxg a.vars a.tab s.params s.mems st s.expr=some r)=>
  jqu s.expr wx lo so M nb a.vars a.tab s.params s.mems st s.text p pa ma sa pn pc mn mc sn sc (h.below hb) (qj h1 hb) (qj h2 hb) (qj hS hb) hv hs.1 (h3.below hb) hs.2 r hr)
 have HW:=hide hview;have HW2:=hide hview2;have HI:=hide hI;have HNI:=hide hNI;have HOK:=hide hok;have HNK:=hide hnk;have HLK:=hide hlk;have HLB:=hide hlb;have HR:=hide hR;have HBW:=hide hbW;have HWE:=hide hW.symm;clear hr hview hview2 hT hN hI hNI hok hnk h hS hlk hlb htx hR hbW hW;generalize (⟨tx.toArray⟩:ByteArray)=tt at *;go_enter Tryz.func56,Tryz.ntmps56
 go_wp2_with fail
 rw[ku HWE];refine (ku HTX).mono ?_;rintro e w1 ⟨rfl,hb1⟩;have hs1:=hb1.size;obtain ⟨w2,hw2⟩:∃ w2,w2=w1.alloc (.cells #[.string tt,.slice none 0 0,.slice none 0 0,.slice none 0 0,.bool false] 24):=⟨_,rfl⟩;obtain ⟨V,hV⟩:∃ V,V=w1.heap.size:=⟨_,rfl⟩;have hVr:w2.heap[V]?=some (.cells #[.string tt,.slice none 0 0,.slice none 0 0,.slice none 0 0,.bool false] 24 (0,0)):=by rw[hw2,hV];exact qy _ _
 have nilA:Apart (.slice none 0 0) (.slice none 0 0):=fun k hk=>by cases hk
 have hb2:Below w.heap.size w w2:=by rw[hw2];exact ((ku HBW).trans (hb1.mono (by omega))).alloc (by omega) _
 have hR2:w2.heap[w.heap.size]?=some (.cells #[.string ⟨#[]⟩,.slice none 0 0,.slice none 0 0,.slice none 0 0,.bool false] 24 (0,0)):=by rw[hw2];exact qp ((hb1.block w.heap.size hsW).trans (ku HR))
 have HVW:=hide (show zqj w.heap.size w2 V tt [] [] [] (.slice none 0 0) (.slice none 0 0) (.slice none 0 0) from ⟨hVr,rP _ _ _ _,rP _ _ _ _,rP _ _ _ _,nilA,nilA,nilA⟩);have HB2:=hide hb2;have HR2:=hide hR2;have m0:=(((ku HBW).trans (hb1.mono (by omega))).cell (p:=⟨M,0,none⟩) hMl).trans hM0;have hMl1:M<w1.heap.size:=by omega
 have hVw:w.heap.size<V:=by omega
 have HW2E:=hide hw2.symm;have HVE:=hide hV;clear hb1 hb2 hR2 hVr hw2 HTX HR hV;go_wp2_with fail
 rw[ku HW2E,←ku HVE];go_loopw [7,8,9,21] (fun _ _ _ i wr=>∃ (k:Nat) (en wn:List ByteArray) (ea:Option Addr) (el ec:Nat) (wa:Option Addr) (wl wc:Nat),k≤a.steps.length∧i=.int .i64 k∧lkO a.vars a.tab st (a.steps.drop k) en wn=some (EN,WR)∧zqj w.heap.size wr V tt en wn [] (.slice ea el ec) (.slice wa wl wc) (.slice none 0 0)∧Below w.heap.size w wr∧wr.heap[w.heap.size]?=some (.cells #[.string ⟨#[]⟩,.slice none 0 0,.slice none 0 0,.slice none 0 0,.bool false] 24 (0,0))) (fun _ _ _ i _=>a.steps.length-(intOf i).toNat)
 case atStart=>exact ⟨0,[],[],none,0,0,none,0,0,tu _,rfl,ku HLK,ku HVW,ku HB2,ku HR2⟩
 case round=>
  obtain ⟨k,en,wn,ea,el,ec,wa,wl,wc,hk,rfl,hrest,hvw,hb,hrr⟩:=hrel;have hsz:=hb.size;have hVl:=wX hvw.1;have hll:=zz3 _ _ _ _ _ _ _ hrest;by_cases hlt:k<a.steps.length
  ·obtain ⟨g,rfl,hg1,hg2,hc⟩:=ku HW k hlt;obtain ⟨hcl,hst⟩:=ku HI;obtain ⟨pa,pn,pc,ma,mn,mc,p,ba,bn,bc,bs,no,e,h1,h2,h3,h4,h5⟩:=hst k hlt;obtain ⟨s0,s1,s2,s3,s4,s5⟩:=vqz e;have cc:∀ j,j<a.steps.length * 6→wr.cell? ⟨g,j,none⟩=cs[j]?:=fun j hj=>(hb.cell (p:=⟨g,j,none⟩) hg2).trans (hc j hj)
   have e0:=(cc (k * 6) (by omega)).trans s0;have e1:=(cc (k * 6+1) (by omega)).trans s1;have e2:=(cc (k * 6+2) (by omega)).trans s2;have e3:=(cc (k * 6+3) (by omega)).trans s3;have e4:=(cc (k * 6+4) (by omega)).trans s4;have e5:=(cc (k * 6+5) (by omega)).trans s5;rw[sQ hlt,lkO] at hrest;obtain ⟨q,hq,hrest⟩:=wQ.mp hrest;have hsok:=ku HOK a.steps[k] (rJ _);obtain ⟨wb,hwb⟩:∃ wb,wb=wr.alloc (.cells #[.string a.steps[k].text,.pointer (some ⟨M,0,none⟩),.slice pa pn pc,.slice ma mn mc,.pointer p,.slice ba bn bc] 178):=⟨_,rfl⟩;have hbb:Below wr.heap.size wr wb:=by rw[hwb];exact below_alloc1 _ _
   have hxb:wb.heap[wr.heap.size]?=some (.cells #[.string a.steps[k].text,.pointer (some ⟨M,0,none⟩),.slice pa pn pc,.slice ma mn mc,.pointer p,.slice ba bn bc] 178 (0,0)):=by rw[hwb];exact qy _ _
   have hbw:=hb.trans (hbb.mono hsz);have HF:=hide ((ku HFR) wb hbw a.steps[k] hsok pa pn pc ma mn mc p ba bn bc bs no h1 h2 h3 h4 h5 q hq);have HREST:=hide hrest;have HWB:=hide hwb.symm;have HXB:=hide hxb;have HBB:=hide hbb;have HBw:=hide hbw;have HVWr:=hide hvw;have HRR:=hide hrr;have hsb:=hbb.size;generalize a.steps[k]=s at *;clear cc hc hst e h1 h2 h3 h4 h5 s0 s1 s2 s3 s4 s5 hsok hb hrest hq hwb hxb hbb hbw hvw hrr;go_wp2_with fail
   rw[ku HWB];refine (ku HF).mono ?_;rintro e w5 ⟨v5,rfl,ho5,hb5⟩;have hs5:=hb5.size;obtain ⟨a5,l5,c5,rfl⟩:=jy ho5;have hx5:=(hb5.block wr.heap.size (wX (ku HXB))).trans (ku HXB);obtain ⟨x0,x1,x2,x3,x4,x5,_⟩:=kvt hx5;have hxl:=wX hx5;have hvw5:=((ku HVWr).below (ku HBB)).below hb5;obtain ⟨v0,v1,v2,v3,v4,g0,g1,g2,g3,g4⟩:=zo hvw5.1;have hbw5:=(ku HBw).trans (hb5.mono (by have:=(ku HBw).size;omega));have hR5:=(hb5.block w.heap.size (by omega)).trans (((ku HBB).block w.heap.size (by omega)).trans (ku HRR));have HVW5:=hide hvw5;have HBw5:=hide hbw5;have HR5:=hide hR5;have HEv:=hide hvw5.2.1;have HWv:=hide hvw5.2.2.1;clear ho5 hb5 hx5 hvw5 hbw5 hR5 HF;cases h1:(q.2==1)
   ·cases h2:(q.2==2)
    ·have HRS:=hide (show lkO a.vars a.tab st (a.steps.drop (k+1)) en wn=some (EN,WR) from by have:=ku HREST;rw[h1,h2] at this;exact this);clear HREST;go_wp2
     go_roundw
     case rel=>exact ⟨k+1,en,wn,ea,el,ec,wa,wl,wc,by omega,by go_num,ku HRS,ku HVW5,ku HBw5,ku HR5⟩
     case measure=>simp[intOf];omega
    ·have HRS:=hide (show lkO a.vars a.tab st (a.steps.drop (k+1)) en (wn++[s.text])=some (EN,WR) from by have:=ku HREST;rw[h1,h2] at this;exact this);clear HREST;go_wp2_with (at_builtin;refine lJ _ rfl _ _ 22 rfl w.heap.size 9 i0 _ 1 16 Tryz.underlying22 hi hz0 hz1 hz2 rfl (by decide) (.slice wa wl wc) _ _ rfl ((ku HWv).alloc _) ⟨w5.heap.size,0,none⟩ 1 1 [.string s.text] rfl rfl (kj3 w5 _ [.string s.text] _ rfl) (by intro y hy;simp at hy;subst hy;rfl) (by unfold maxLen;omega) (by omega) (by simp;omega) ?_)
     intro v6 w6 hown6 hgrow6 _ hat6;obtain ⟨a6,l6,c6,rfl⟩:=jy hown6;obtain ⟨hV6,hvw6⟩:=vzt (ku HVW5) hgrow6 hown6 hat6;obtain ⟨u0,u1,u2,u3,u4,t0,t1,t2,t3,t4⟩:=zo hV6;have HVW6:=hide hvw6;have hb6:=((ku HBw5).alloc (by omega) _).grown hgrow6 (by simp;omega) (yw (ku HWv));have k6:Tk none [9] w5 w6:=(mg (below_alloc1 w5 _) none _).trans (kj7 ((ku HWv).alloc _) hgrow6 (by decide));have HR6:=hide (show (w6.setCell ⟨V,2,none⟩ (.slice a6 l6 c6)).heap[w.heap.size]?=_ from (ru _ _ _ _ (by simp;omega)).trans (k6.row (ku HR5) (by simp) (by decide)));have HB6:=hide (hb6.setCell (p:=⟨V,2,none⟩) (by simp;omega) (.slice a6 l6 c6));clear hown6 hgrow6 hat6 hV6 hvw6 hb6 k6;go_wp2
     go_roundw
     case rel=>exact ⟨k+1,en,wn++[s.text],ea,el,ec,a6,l6,c6,by omega,by go_num,ku HRS,ku HVW6,ku HB6,ku HR6⟩
     case measure=>simp[intOf];omega
   ·have HRS:=hide (show lkO a.vars a.tab st (a.steps.drop (k+1)) (en++[s.text]) wn=some (EN,WR) from by have:=ku HREST;rw[h1] at this;exact this);clear HREST;go_wp2_with (at_builtin;refine lJ _ rfl _ _ 22 rfl w.heap.size 9 i0 _ 1 16 Tryz.underlying22 hi hz0 hz1 hz2 rfl (by decide) (.slice ea el ec) _ _ rfl ((ku HEv).alloc _) ⟨w5.heap.size,0,none⟩ 1 1 [.string s.text] rfl rfl (kj3 w5 _ [.string s.text] _ rfl) (by intro y hy;simp at hy;subst hy;rfl) (by unfold maxLen;omega) (by omega) (by simp;omega) ?_)
    intro v6 w6 hown6 hgrow6 _ hat6;obtain ⟨a6,l6,c6,rfl⟩:=jy hown6;obtain ⟨hV6,hvw6⟩:=vzr (ku HVW5) hgrow6 hown6 hat6;obtain ⟨u0,u1,u2,u3,u4,t0,t1,t2,t3,t4⟩:=zo hV6;have HVW6:=hide hvw6;have hb6:=((ku HBw5).alloc (by omega) _).grown hgrow6 (by simp;omega) (yw (ku HEv));have k6:Tk none [9] w5 w6:=(mg (below_alloc1 w5 _) none _).trans (kj7 ((ku HEv).alloc _) hgrow6 (by decide));have HR6:=hide (show (w6.setCell ⟨V,1,none⟩ (.slice a6 l6 c6)).heap[w.heap.size]?=_ from (ru _ _ _ _ (by simp;omega)).trans (k6.row (ku HR5) (by simp) (by decide)));have HB6:=hide (hb6.setCell (p:=⟨V,1,none⟩) (by simp;omega) (.slice a6 l6 c6));clear hown6 hgrow6 hat6 hV6 hvw6 hb6 k6;go_wp2
    go_roundw
    case rel=>exact ⟨k+1,en++[s.text],wn,a6,l6,c6,wa,wl,wc,by omega,by go_num,ku HRS,ku HVW6,ku HB6,ku HR6⟩
    case measure=>simp[intOf];omega
  ·have:k=a.steps.length:=by omega
   subst this;rw[lW,lkO] at hrest;injection hrest with hrest;injection hrest with hr1 hr2;subst hr1;subst hr2;have m1:=(hb.cell (p:=⟨M,1,none⟩) hMl).trans hM1;have HVWr:=hide hvw;have HBr:=hide hb;have HRR:=hide hrr;clear hvw hb hrr m0;go_wp2_with fail
   go_loopw [11,58] (fun _ i wr=>∃ (k:Nat) (bn:List ByteArray) (xa:Option Addr) (xl xc:Nat),k≤a.nevers.length∧i=.int .i64 k∧lbO a.vars a.tab st (a.nevers.drop k) bn=some BR∧zqj w.heap.size wr V tt en wn bn (.slice ea el ec) (.slice wa wl wc) (.slice xa xl xc)∧Below w.heap.size w wr∧wr.heap[w.heap.size]?=some (.cells #[.string ⟨#[]⟩,.slice none 0 0,.slice none 0 0,.slice none 0 0,.bool false] 24 (0,0))) (fun _ i _=>a.nevers.length-(intOf i).toNat)
   case atStart=>exact ⟨0,[],none,0,0,tu _,rfl,ku HLB,ku HVWr,ku HBr,ku HRR⟩
   case round=>
    obtain ⟨k,bl,xa,xl,xc,hk,rfl,hrest,hvw,hb,hrr⟩:=hrel;have hsz:=hb.size;have hVl:=wX hvw.1;have hll:=zw4 _ _ _ _ _ _ hrest;by_cases hlt:k<a.nevers.length
    ·obtain ⟨g,rfl,hg1,hg2,hc⟩:=ku HW2 k hlt;obtain ⟨hcl,hst⟩:=ku HNI;obtain ⟨pa,pn,pc,ma,mn,mc,p,e,h1,h2,h3⟩:=hst k hlt;obtain ⟨s0,s1,s2,s3,s4⟩:=vxf e;have cc:∀ j,j<a.nevers.length * 5→wr.cell? ⟨g,j,none⟩=ds[j]?:=fun j hj=>(hb.cell (p:=⟨g,j,none⟩) hg2).trans (hc j hj)
     have e0:=(cc (k * 5) (by omega)).trans s0;have e1:=(cc (k * 5+1) (by omega)).trans s1;have e2:=(cc (k * 5+2) (by omega)).trans s2;have e3:=(cc (k * 5+3) (by omega)).trans s3;have e4:=(cc (k * 5+4) (by omega)).trans s4;rw[sQ hlt,lbO] at hrest;obtain ⟨q,hq,hrest⟩:=wQ.mp hrest;have hsok:=ku HNK a.nevers[k] (rJ _);obtain ⟨wb,hwb⟩:∃ wb,wb=wr.alloc (.cells #[.string a.nevers[k].text,.pointer (some ⟨M,0,none⟩),.slice pa pn pc,.slice ma mn mc,.pointer p] 208):=⟨_,rfl⟩;have hbb:Below wr.heap.size wr wb:=by rw[hwb];exact below_alloc1 _ _
     have hxb:wb.heap[wr.heap.size]?=some (.cells #[.string a.nevers[k].text,.pointer (some ⟨M,0,none⟩),.slice pa pn pc,.slice ma mn mc,.pointer p] 208 (0,0)):=by rw[hwb];exact qy _ _
     have hbw:=hb.trans (hbb.mono hsz);have HF:=hide ((ku HBK) wb hbw a.nevers[k] hsok pa pn pc ma mn mc p h1 h2 h3 q hq);have HREST:=hide hrest;have HWB:=hide hwb.symm;have HXB:=hide hxb;have HBB:=hide hbb;have HBw:=hide hbw;have HVWq:=hide hvw;have HRQ:=hide hrr;have hsb:=hbb.size;generalize a.nevers[k]=s at *;clear cc hc hst e h1 h2 h3 s0 s1 s2 s3 s4 hsok hb hrest hq hwb hxb hbb hbw hvw hrr;go_wp2_with fail
     rw[ku HWB];refine (ku HF).mono ?_;rintro e w5 ⟨rfl,hb5⟩;have hs5:=hb5.size;have hx5:=(hb5.block wr.heap.size (wX (ku HXB))).trans (ku HXB);obtain ⟨x0,x1,x2,x3,x4,_⟩:=zo hx5;have hxl:=wX hx5;have hvw5:=((ku HVWq).below (ku HBB)).below hb5;obtain ⟨v0,v1,v2,v3,v4,g0,g1,g2,g3,g4⟩:=zo hvw5.1;have hbw5:=(ku HBw).trans (hb5.mono (by have:=(ku HBw).size;omega));have hR5:=(hb5.block w.heap.size (by omega)).trans (((ku HBB).block w.heap.size (by omega)).trans (ku HRQ));have HVW5:=hide hvw5;have HBw5:=hide hbw5;have HR5:=hide hR5;have HBv:=hide hvw5.2.2.2.1;clear hb5 hx5 hvw5 hbw5 hR5 HF;cases q
     ·have HRS:=hide (show lbO a.vars a.tab st (a.nevers.drop (k+1)) bl=some BR from by have:=ku HREST;exact this);clear HREST;go_wp2
      go_roundw
      case rel=>exact ⟨k+1,bl,xa,xl,xc,by omega,by go_num,ku HRS,ku HVW5,ku HBw5,ku HR5⟩
      case measure=>simp[intOf];omega
     ·have HRS:=hide (show lbO a.vars a.tab st (a.nevers.drop (k+1)) (bl++[s.text])=some BR from by have:=ku HREST;exact this);clear HREST;go_wp2_with (at_builtin;refine lJ _ rfl _ _ 22 rfl w.heap.size 9 i0 _ 1 16 Tryz.underlying22 hi hz0 hz1 hz2 rfl (by decide) (.slice xa xl xc) _ _ rfl ((ku HBv).alloc _) ⟨w5.heap.size,0,none⟩ 1 1 [.string s.text] rfl rfl (kj3 w5 _ [.string s.text] _ rfl) (by intro y hy;simp at hy;subst hy;rfl) (by unfold maxLen;omega) (by omega) (by simp;omega) ?_)
      intro v6 w6 hown6 hgrow6 _ hat6;obtain ⟨a6,l6,c6,rfl⟩:=jy hown6;obtain ⟨hV6,hvw6⟩:=vzh (ku HVW5) hgrow6 hown6 hat6;obtain ⟨u0,u1,u2,u3,u4,t0,t1,t2,t3,t4⟩:=zo hV6;have HVW6:=hide hvw6;have hb6:=((ku HBw5).alloc (by omega) _).grown hgrow6 (by simp;omega) (yw (ku HBv));have k6:Tk none [9] w5 w6:=(mg (below_alloc1 w5 _) none _).trans (kj7 ((ku HBv).alloc _) hgrow6 (by decide));have HR6:=hide (show (w6.setCell ⟨V,3,none⟩ (.slice a6 l6 c6)).heap[w.heap.size]?=_ from (ru _ _ _ _ (by simp;omega)).trans (k6.row (ku HR5) (by simp) (by decide)));have HB6:=hide (hb6.setCell (p:=⟨V,3,none⟩) (by simp;omega) (.slice a6 l6 c6));clear hown6 hgrow6 hat6 hV6 hvw6 hb6 k6;go_wp2
      go_roundw
      case rel=>exact ⟨k+1,bl++[s.text],a6,l6,c6,by omega,by go_num,ku HRS,ku HVW6,ku HB6,ku HR6⟩
      case measure=>simp[intOf];omega
    ·have:k=a.nevers.length:=by omega
     subst this;rw[lW,lbO] at hrest;injection hrest with hrest;subst hrest;obtain ⟨hV0,hv1,hv2,hv3,_⟩:=hvw;obtain ⟨za,zc,ez,_⟩:=zq hv1;injection ez with ez1 ez2 ez3;subst ez1;subst ez2;subst ez3;obtain ⟨za,zc,ez,_⟩:=zq hv2;injection ez with ez1 ez2 ez3;subst ez1;subst ez2;subst ez3;obtain ⟨v0,v1,v2,v3,v4,g0,g1,g2,g3,g4⟩:=zo hV0;have HV0:=hide hV0;have HV1:=hide hv1;have HV2:=hide hv2;have HV3:=hide hv3;have HBr2:=hide hb;have HRr2:=hide hrr;have hdead:kzb ⟨tt,en,wn,bl⟩=((en.length==0)&&(wn.length==0)):=rfl;have HDEAD:=hide hdead;clear hV0 hv1 hv2 hv3 hb hrr hdead;obtain ⟨r0,r1,r2,r3,r4,y0,y1,y2,y3,y4⟩:=zo (ku HRr2);have hVR:V≠w.heap.size:=by omega
     have hRl:=wX (ku HRr2);have HEND:=hide (fun (d:Bool) (hd:kzb ⟨tt,en,wn,bl⟩=d)=>(show (((((((wr.setCell ⟨V,4,none⟩ (.bool d)).setCell ⟨w.heap.size,0,none⟩ (.string tt)).setCell ⟨w.heap.size,1,none⟩ (.slice ea en.length ec)).setCell ⟨w.heap.size,2,none⟩ (.slice wa wn.length wc)).setCell ⟨w.heap.size,3,none⟩ (.slice xa xl xc)).setCell ⟨w.heap.size,4,none⟩ (.bool d))).heap[w.heap.size]?=some (.cells #[.string tt,.slice ea en.length ec,.slice wa wn.length wc,.slice xa xl xc,.bool d] 24 (0,0))∧jjp w ⟨tt,en,wn,bl⟩ (.returned (.agg #[.string tt,.slice ea en.length ec,.slice wa wn.length wc,.slice xa xl xc,.bool d])) (((((((wr.setCell ⟨V,4,none⟩ (.bool d)).setCell ⟨w.heap.size,0,none⟩ (.string tt)).setCell ⟨w.heap.size,1,none⟩ (.slice ea en.length ec)).setCell ⟨w.heap.size,2,none⟩ (.slice wa wn.length wc)).setCell ⟨w.heap.size,3,none⟩ (.slice xa xl xc)).setCell ⟨w.heap.size,4,none⟩ (.bool d))) from by
      have k1:Tk none [24] wr (wr.setCell ⟨V,4,none⟩ (.bool d)):=kkd (ku HV0) (by decide) 4 _;have q1:(wr.setCell ⟨V,4,none⟩ (.bool d)).heap[w.heap.size]?=some (.cells #[.string ⟨#[]⟩,.slice none 0 0,.slice none 0 0,.slice none 0 0,.bool false] 24 (0,0)):=(ru _ _ _ _ (by simp;omega)).trans (ku HRr2);have q6:=kjc q1 (.string tt) (.slice ea en.length ec) (.slice wa wn.length wc) (.slice xa xl xc) (.bool d);have K:=k1.trans (zvt q1 (bad:=[24]) (by decide) (.string tt) (.slice ea en.length ec) (.slice wa wn.length wc) (.slice xa xl xc) (.bool d));have nr:=uy.none wr;refine ⟨q6,_,rfl,⟨ea,_,ec,wa,_,wc,xa,xl,xc,by rw[hd],zk (ku HV1) K nr (by decide),zk (ku HV2) K nr (by decide),zk (ku HV3) K nr (by decide)⟩,?_⟩;exact ((((((ku HBr2).setCell (p:=⟨V,4,none⟩) (by simp;omega) _).setCell (p:=⟨w.heap.size,0,none⟩) (by simp) _).setCell (p:=⟨w.heap.size,1,none⟩) (by simp) _).setCell (p:=⟨w.heap.size,2,none⟩) (by simp) _).setCell (p:=⟨w.heap.size,3,none⟩) (by simp) _).setCell (p:=⟨w.heap.size,4,none⟩) (by simp) _))
     have hi1:((en.length:Int)==0)=(en.length==0):=by cases en<;>simp<;>omega
     have hi2:((wn.length:Int)==0)=(wn.length==0):=by cases wn<;>simp<;>omega
     cases hd1:(en.length==0);all_goals cases hd2:(wn.length==0)
     all_goals rw[hd1] at hi1
     all_goals rw[hd2] at hi2
     case' false.false=>have HE:=hide ((ku HEND) false (by rw[ku HDEAD,hd1,hd2];rfl))
     case' false.true=>have HE:=hide ((ku HEND) false (by rw[ku HDEAD,hd1,hd2];rfl))
     case' true.false=>have HE:=hide ((ku HEND) false (by rw[ku HDEAD,hd1,hd2];rfl))
     case' true.true=>have HE:=hide ((ku HEND) true (by rw[ku HDEAD,hd1,hd2];rfl))
     all_goals clear HEND HDEAD HV1 HV2 HV3 HLK HLB HFR HBK HW HW2 HI HNI HOK HNK HBr2 HVWr HBr HRR HVW HB2 HR2 HBW
     case false.false=>
      clear hd1 hd2;go_wp2
      obtain ⟨qrow,qpost⟩:=ku HE;refine rY (v:=.agg #[.string tt,.slice ea en.length ec,.slice wa wn.length wc,.slice xa xl xc,.bool false]) (rZ Tryz.results56 _ _ w.heap.size _ _ _ _ rfl qrow Tryz.underlying24 rfl (by kernel_rfl)) rfl ?_;exact qpost
     case false.true=>
      clear hd1 hd2;go_wp2
      obtain ⟨qrow,qpost⟩:=ku HE;refine rY (v:=.agg #[.string tt,.slice ea en.length ec,.slice wa wn.length wc,.slice xa xl xc,.bool false]) (rZ Tryz.results56 _ _ w.heap.size _ _ _ _ rfl qrow Tryz.underlying24 rfl (by kernel_rfl)) rfl ?_;exact qpost
     case true.false=>
      clear hd1 hd2;go_wp2
      obtain ⟨qrow,qpost⟩:=ku HE;refine rY (v:=.agg #[.string tt,.slice ea en.length ec,.slice wa wn.length wc,.slice xa xl xc,.bool false]) (rZ Tryz.results56 _ _ w.heap.size _ _ _ _ rfl qrow Tryz.underlying24 rfl (by kernel_rfl)) rfl ?_;exact qpost
     case true.true=>
      clear hd1 hd2;go_wp2
      obtain ⟨qrow,qpost⟩:=ku HE;refine rY (v:=.agg #[.string tt,.slice ea en.length ec,.slice wa wn.length wc,.slice xa xl xc,.bool true]) (rZ Tryz.results56 _ _ w.heap.size _ _ _ _ rfl qrow Tryz.underlying24 rfl (by kernel_rfl)) rfl ?_;exact qpost
theorem jw2 {w:World}{lo e size:Nat}{a:Option Addr}{n cap i:Nat}{xs:List Value}(h:w.ownsRow lo e size (.slice a n cap) n xs)(hi:i≤n):w.ownsRow lo e size (.slice a i cap) i (xs.take (i * size)):=by
 have hm:i * size≤n * size:=Nat.mul_le_mul_right _ hi;refine ⟨by rw[QV,h.1];omega,?_⟩;rcases h.2 with ⟨h1,h2⟩|⟨g,cap',cur,h1,hg,hh,h3,h4,h5,h6⟩
 ·injection h1 with e1 e2 e3;subst e1 e3;have:i=0:=by omega
  subst this;exact Or.inl ⟨rfl,rfl⟩
 ·injection h1 with e1 e2 e3;subst e1 e3;refine Or.inr ⟨g,cap,cur,rfl,hg,hh,by omega,h4,h5,?_⟩;rw[←h6,List.take_take];congr 1
  omega
theorem vj0 {w:World}{lo e size:Nat}{a:Option Addr}{n cap:Nat}{xs:List Value}(h:w.ownsRow lo e size (.slice a n cap) n xs):n≤cap:=by
 rcases h.2 with ⟨h1,h2⟩|⟨g,cap',cur,h1,hg,hh,h3,h4,h5,h6⟩
 ·omega
 ·injection h1 with e1 e2 e3;omega
theorem zys:∀ (l:List PP) (i:Nat),jw (l.take i)=(jw l).take (i * 4)
 | [],i=>by simp[jw]
 | p::l,0=>by simp[jw]
 | p::l,i+1=>by
  have:=zys l i;unfold jw at *;rw[List.take_succ_cons,lU,lU,this,List.take_append,show (i+1) * 4=i * 4+4 by omega];simp[kjr]
def jxy (tab:Tab)(l:List PP)(i:Nat)(p:PP):Bool:=fpB (l.take i) p.name.text.toList||!((qo tab p.name.text.toList).role==0)
def zzy (tab:Tab)(l:List PP)(a:Int)(i:Nat)(p:PP):Int:=kqu (qvq tab p.set_) (kqu (jxy tab l i p) a p.name) p.set_
theorem Nm.vwv {w:World}{B b:Nat}{tab:Tab}{ps:Value}{z:Int}(h:Nm w B b tab ps z)(u:Value):Nm (w.setCell ⟨B,1,none⟩ u) B b tab u z:=
 ⟨heap_setCell_same _ B 1 _ _ _ h.nm,h.tab.other (by simpa using h.ne) _,h.ne⟩
def vkn (W:World)(B b:Nat)(tab:Tab)(l:List PP)(ps:Value)(fin:Int)(i:Value)(wr:World):Prop:=
 ∃ (k:Nat) (a:Int),k≤l.length∧i=.int .i64 k∧gy (zzy tab l) (l.drop k) k a=fin∧Nm wr B b tab ps a∧Kept B W wr
theorem zv3 (w:World)(B b lo:Nat)(tab:Tab)(l:List PP)(ps0:Value)(pa:Option Addr)(pn pc:Nat)(z:Int)(h:Nm w B b tab ps0 z)(ho:w.ownsRow lo 352 4 (.slice pa pn pc) l.length (jw l))(hl:l.length≤1000)(hs:∀ p∈l,p.name.text.size≤1000∧p.set_.text.size≤1000) :
  Calls Tryz.prog 159 #[.pointer (some ⟨B,0,none⟩),.slice pa pn pc] w fun e w'=>e=.returned (.tuple #[])∧Nm w' B b tab (.slice pa pn pc) (gy (zzy tab l) l 0 z)∧Kept B w w':=by
 have hBl:=wX h.nm;obtain ⟨_,_,_,_,f1,_,_⟩:=h.cells;obtain ⟨c0,c1,c2,c3,_⟩:=h.cells;obtain ⟨xa,cap,hxa,hview⟩:=zq ho;injection hxa with e1 e2 e3;subst e1 e2 e3;have HW:=hide (show ∀ i,i<l.length→∃ g,pa=some ⟨g,0,none⟩∧g≠B∧∀ j,j<l.length * 4→w.cell? ⟨g,j,none⟩=(jw l)[j]? from fun i hi=>by
  obtain ⟨g,rfl,_,_,hc⟩:=hview i hi;exact ⟨g,rfl,fun e=>not_row ho h.nm (by decide) (by rw[←e];rfl),hc⟩)
 obtain ⟨W,hW⟩:∃ W,W=w.setCell ⟨B,1,none⟩ (.slice pa l.length pc):=⟨_,rfl⟩;have hKW:Kept B w W:=by rw[hW];exact (Kept.refl _ _).kki _ _
 have hNW:Nm W B b tab (.slice pa l.length pc) z:=by rw[hW];exact h.vwv _
 have hR:vkn W B b tab l (.slice pa l.length pc) (gy (zzy tab l) l 0 z) (.int .i64 0) W:=⟨0,z,tu _,rfl,rfl,hNW,Kept.refl _ _⟩;have HR:=hide hR;have HKW:=hide hKW;have HN:=hide h;have HO:=hide ho;have HS:=hide hs;have HWE:=hide hW.symm;generalize gy (zzy tab l) l 0 z=fin at *;clear h ho hview hs hW hKW hNW hR;go_enter Tryz.func159,Tryz.ntmps159
 go_wp2_with fail
 rw[ku HWE];go_loopw [4,5,6,7,14] (fun _ _ _ _ i wr=>vkn W B b tab l (.slice pa l.length pc) fin i wr) (fun _ _ _ _ i _=>l.length-(intOf i).toNat)
 case atStart=>exact ku HR
 case round=>
  obtain ⟨k,a0,hk,rfl,hfin,hN,hK⟩:=hrel;have HNr:=hide hN;have HKr:=hide ((ku HKW).trans hK);have HKW2:=hide hK;have HOr:=hide (yt (ku HO) (ku HN).nm (by decide) ((ku HKW).trans hK));have hBr:=wX hN.nm;clear hN hK;by_cases hlt:k<l.length
  ·obtain ⟨g,rfl,hgB,hc⟩:=ku HW k hlt;have fl:=fun j (hj:j<4)=>kjx kjr 4 (fun _=>rfl) l k j hlt hj
   have cc:∀ j,j<4→∀ u,(kjr l[k])[j]?=some u→wr.cell? ⟨g,k * 4+j,none⟩=some u:=fun j hj u hu=>(ku HKr).cell (a:=⟨g,k * 4+j,none⟩) hgB ((hc (k * 4+j) (by omega)).trans ((fl j hj).trans hu))
   have e0:=cc 0 (by omega) _ rfl;have e1:=cc 1 (by omega) _ rfl;have e2:=cc 2 (by omega) _ rfl;have e3:=cc 3 (by omega) _ rfl;simp only[nV] at e0;obtain ⟨hs1,hs2⟩:=ku HS l[k] (rJ hlt);rw[sQ hlt,gy] at hfin;have HF:=hide hfin;have HFX:=hide (show zzy tab l a0 k l[k]=kqu (qvq tab l[k].set_) (kqu (jxy tab l k l[k]) a0 l[k].name) l[k].set_ from rfl);have HEC:=hide (show jxy tab l k l[k]=(fpB (l.take k) l[k].name.text.toList||!((qo tab l[k].name.text.toList).role==0)) from rfl);have hOt:=jw2 (i:=k) (ku HOr) (by omega);rw[←zys] at hOt;have htk:(l.take k).length=k:=by rw[QV];omega
   generalize hl':l.take k=lt at hOt htk HEC;generalize l[k]=p at e0 e1 e2 e3 hs1 hs2 HF HFX HEC;clear cc fl hc hfin hl';subst htk;have hcap:lt.length≤pc:=by have:=vj0 (ku HOr);omega
   have hlt1:lt.length≤1000:=by omega
   have HFP:=hide (kk1 (wr.alloc (.cells #[.string p.name.text,.int .i64 p.name.at_,.string p.set_.text,.int .i64 p.set_.at_] 352)).drew lo lt _ p.name (hOt.alloc _).drew hlt1);have HFQ:=hide (kk1 (((wr.alloc (.cells #[.string p.name.text,.int .i64 p.name.at_,.string p.set_.text,.int .i64 p.set_.at_] 352)).alloc (.cells #[.string ⟨#[]⟩,.int .i64 0,.string ⟨#[]⟩,.int .i64 0] 352)).drew) lo lt _ p.name ((hOt.alloc _).alloc _).drew hlt1);have HZ:=hide (show (((wr.alloc (.cells #[.string p.name.text,.int .i64 p.name.at_,.string p.set_.text,.int .i64 p.set_.at_] 352)).alloc (.cells #[.string ⟨#[]⟩,.int .i64 0,.string ⟨#[]⟩,.int .i64 0] 352)).drew).heap[wr.heap.size+1]?=some (.cells #[.string ⟨#[]⟩,.int .i64 0,.string ⟨#[]⟩,.int .i64 0] 352 (0,0)) by
    have:=qy (wr.alloc (.cells #[.string p.name.text,.int .i64 p.name.at_,.string p.set_.text,.int .i64 p.set_.at_] 352)) (.cells #[.string ⟨#[]⟩,.int .i64 0,.string ⟨#[]⟩,.int .i64 0] 352);simp only[tJ] at this;exact this)
   have HSP:=hide (qy wr (.cells #[.string p.name.text,.int .i64 p.name.at_,.string p.set_.text,.int .i64 p.set_.at_] 352));clear hOt;unfold ptV at *;go_upto_region 4 with fail
   go_cut [7] from 19 to 27 (fun v wx=>v=.bool (fpB lt p.name.text.toList)∧Below (wr.heap.size+1) (wr.alloc (.cells #[.string p.name.text,.int .i64 p.name.at_,.string p.set_.text,.int .i64 p.set_.at_] 352)) wx)
   case first=>
    go_region_law ((go_simp;go_at_call 215;(first|(refine (ku HFP).mono ?_;rintro e w2 ⟨rfl,hb2⟩)|(refine (ku HFQ).mono ?_;rintro e w2 ⟨rfl,hb2⟩;obtain ⟨z0,z1,z2,z3,z4,z5,z6,z7⟩:=kx8 (show w2.heap[wr.heap.size+1]?=_ from (hb2.block _ (by simp)).trans (ku HZ))));dsimp only[paV]))
    all_goals
     go_wp2_with fail
     go_meet
     refine ⟨rfl,?_⟩;have hsz:=hb2.size;simp at hsz;first
     | exact (((Below.refl _ _).drew.trans (hb2.mono (by simp))).alloc (by omega) _)
     | exact zzm ((((Below.refl _ _).alloc (by simp) _).drew).trans (hb2.mono (by simp))) _ _ _ _
   case rest=>
   obtain ⟨rfl,hb⟩:=hcut;have hNc:=((ku HNr).alloc (.cells #[.string p.name.text,.int .i64 p.name.at_,.string p.set_.text,.int .i64 p.set_.at_] 352)).below (hb.mono (by simp));have hnb:=(hb.block wr.heap.size (by omega)).trans (ku HSP);obtain ⟨d0,d1,d2,d3,_⟩:=kx8 hnb;have hlk:=kxi hNc.drew.tab hs1;have hf:=kkq (qo tab p.name.text.toList);obtain ⟨c0,c1,c2,c3,f1,f2,f3⟩:=hNc.cells;have HNc:=hide hNc;have HKc:=hide ((Kept.kq5 (P:=B) (w:=wr) (.cells #[.string p.name.text,.int .i64 p.name.at_,.string p.set_.text,.int .i64 p.set_.at_] 352)).trans (Kept.of_below (hb.mono (by simp))));have HSPc:=hide hnb;have HST:=hide (fun (W2:World) (z2:Int) (h2:Nm W2 B b tab (.slice (some ⟨g,0,none⟩) l.length pc) z2)=>zvb W2 B b tab _ z2 p.set_ h2 hs2);clear hNc hb hnb HZ HFP HFQ HSP;unfold ptV at *;generalize qo tab p.name.text.toList=q at *;generalize fpB lt p.name.text.toList=r at *;cases r
   case true=>
    rw[Qc] at HEC;have HNT:=hide (note_any (wc.drew.drew) B 2 a0 p.name.at_ c2 c3 f2 f3);go_wp2
    go_region
    go_wp2
    go_region_law ((go_simp;go_at_call 212;refine (ku HNT).mono ?_;rintro e w1 ⟨rfl,hw⟩;dsimp only))
    all_goals
     subst hw;have hsp:=((Kept.refl B wc).drew.drew.trans (Kept.note B 2 wc.drew.drew a0 p.name.at_)).row (b:=wr.heap.size) (by omega) (ku HSPc);obtain ⟨_,_,g2,g3,_⟩:=kx8 hsp;go_wp2_with fail
     refine (ku HST _ _ (((ku HNc).drew.drew).note (by omega))).mono ?_;rintro e w6 ⟨rfl,h6,hk6⟩;have H6:=hide h6;have HK6:=hide (((((Kept.refl B wc).drew.drew).trans (Kept.note _ _ _ _ _))).trans hk6);clear h6 hk6;go_wp2
     go_roundw
     case rel=>exact ⟨lt.length+1,_,by omega,by go_num,ku HF,by rw[ku HFX,ku HEC];exact ku H6,(ku HKW2).trans ((ku HKc).trans (ku HK6))⟩
     case measure=>simp[intOf];omega
   case false=>
    rw[lQ] at HEC;cases hc:(q.role != 0)
    case true=>
     have hE:(!(q.role==0))=true:=hc;rw[hE] at HEC;have HNT:=hide (note_any (wc.drew.drew) B 2 a0 p.name.at_ c2 c3 f2 f3);go_wp2
     go_region
     go_wp2
     go_region_law ((go_simp;go_at_call 212;refine (ku HNT).mono ?_;rintro e w1 ⟨rfl,hw⟩;dsimp only))
     all_goals
      subst hw;have hsp:=((Kept.refl B wc).drew.drew.trans (Kept.note B 2 wc.drew.drew a0 p.name.at_)).row (b:=wr.heap.size) (by omega) (ku HSPc);obtain ⟨_,_,g2,g3,_⟩:=kx8 hsp;go_wp2_with fail
      refine (ku HST _ _ (((ku HNc).drew.drew).note (by omega))).mono ?_;rintro e w6 ⟨rfl,h6,hk6⟩;have H6:=hide h6;have HK6:=hide (((((Kept.refl B wc).drew.drew).trans (Kept.note _ _ _ _ _))).trans hk6);clear h6 hk6;go_wp2
      go_roundw
      case rel=>exact ⟨lt.length+1,_,by omega,by go_num,ku HF,by rw[ku HFX,ku HEC];exact ku H6,(ku HKW2).trans ((ku HKc).trans (ku HK6))⟩
      case measure=>simp[intOf];omega
    case false=>
     have hE:(!(q.role==0))=false:=hc;rw[hE] at HEC;go_wp2
     go_region
     obtain ⟨_,_,g2,g3,_⟩:=kx8 ((Kept.refl B wc).drew.row (b:=wr.heap.size) (by omega) (ku HSPc));go_wp2_with fail
     refine (ku HST _ _ ((ku HNc).drew)).mono ?_;rintro e w6 ⟨rfl,h6,hk6⟩;have H6:=hide h6;have HK6:=hide ((((Kept.refl B wc).drew)).trans hk6);clear h6 hk6;go_wp2
     go_roundw
     case rel=>exact ⟨lt.length+1,_,by omega,by go_num,ku HF,by rw[ku HFX,ku HEC];exact ku H6,(ku HKW2).trans ((ku HKc).trans (ku HK6))⟩
     case measure=>simp[intOf];omega
  ·have hke:k=l.length:=by omega
   rw[hke,lW] at hfin;have HF:=hide hfin;clear hfin hke;go_wp2
   go_end0
   exact ⟨rfl,by rw[←ku HF];exact ku HNr,ku HKr⟩
end Go.Proofs.YtpmcnonmkghokaaGreatDoor

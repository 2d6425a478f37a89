import Derived.Test.YtpmcnonmkghokaaGreatDoorT12
import Derived.Lib.Builder
import Derived.Lib.AppendStr
import Derived.Lib.UnsafeStr
import Derived.WalkKit
import Derived.Laws.Externs
import Derived.Test.YtpmcnonmkghokaaGreatDoorT13
set_option maxHeartbeats 4000000
set_option maxRecDepth 100000
set_option linter.unusedVariables false
set_option linter.unusedSimpArgs false
namespace Go.Proofs.YtpmcnonmkghokaaGreatDoor
open Go.RowKit
attribute [local go_sem ↓] Go.wp_at_zero Go.wp_at_succ
theorem zvc (w:World)(b j:Nat)(v:Value)(bad:List Nat):Tk (some b) bad w (w.setCell ⟨b,j,none⟩ v):=
 ⟨rfl,rfl,rfl,by simp[World.setCell],fun i o h1 h2 _=>by
  rw[ru _ _ _ _ (fun e2=>h2 (by rw[e2]))];exact h1⟩
theorem Tryz.infoBld:(Tryz.prog.info? 305).map (·.size)=some 2:=by kernel_rfl
theorem Tryz.infoByte:(Tryz.prog.info? 5).map (fun i=>(i.zero,i.size,i.bytes))=some (some (.int .u8 0),1,1):=by kernel_rfl
theorem Tryz.liesBld:liesAt Tryz.prog Tryz.prog.depth 305 (2 / Tryz.prog.cellsOf 305) 0 305 1=true:=by kernel_rfl
theorem Tryz.cellsByte:Tryz.prog.cellsOf 5=1:=by kernel_rfl
theorem zzp (b:Nat)(w:World)(h0:w.cell? ⟨b,0,none⟩=some (.pointer (some ⟨b,0,none⟩))) :
  Calls Tryz.prog 219 #[.pointer (some ⟨b,0,none⟩)] w fun e w'=>e=.returned (.tuple #[])∧w'=w:=by
 obtain ⟨j,hj,_⟩:=rQ.1 Tryz.infoBld;go_enter Tryz.func219,Tryz.ntmps219
 go_wp2
 rw[Lib.run_neq_ptr_same w _ Tryz.underlying303 hj];go_wp2
 go_end0
 exact ⟨rfl,rfl⟩
theorem zq9 (b:Nat)(w:World)(h0:w.cell? ⟨b,0,none⟩=some (.pointer none))(hsh:w.shape? b=some (305,2))(hfz:w.frozen? ⟨b,0,none⟩=false) :
  Calls Tryz.prog 219 #[.pointer (some ⟨b,0,none⟩)] w fun e w'=>e=.returned (.tuple #[])∧w'=w.setCell ⟨b,0,none⟩ (.pointer (some ⟨b,0,none⟩)):=by
 obtain ⟨j,hj,hjs⟩:=rQ.1 Tryz.infoBld;go_enter Tryz.func219,Tryz.ntmps219
 go_wp2
 rw[Lib.run_to_unsafe w ⟨b,0,none⟩ Tryz.underlying303 Tryz.underlying389 hj (by rw[hjs];decide) hsh (Nat.zero_lt_succ 1)];simp only[Result.andThen];rw[Oper.upon_value];go_wp2
 rw[run_callFunc_extern Tryz.func248 (by kernel_rfl) (by kernel_rfl) (by kernel_rfl) (e:=Extern.AbiNoEscape.same) (by kernel_rfl)];rw[Lib.run_noEscape];simp only[Result.andThen];rw[Oper.upon_value];go_wp2
 rw[Lib.run_from_unsafe w ⟨b,0,none⟩ Tryz.underlying389 Tryz.underlying303 hj hsh Tryz.liesBld];simp only[Result.andThen];rw[Oper.upon_value];go_wp2
 go_end0
 exact ⟨rfl,rfl⟩
theorem qk0 (B b:Nat)(bs:List Value)(w:World)(h:Lib.IsBuilder 305 5 B b bs w) :
  Calls Tryz.prog 219 #[.pointer (some ⟨b,0,none⟩)] w fun e w'=>e=.returned (.tuple #[])∧(Lib.BuilderAt 305 5 B b (.pointer (some ⟨b,0,none⟩)) bs w'∧Below B w w'∧Tk (some b) [5] w w'):=by
 rcases h with h|h
 ·refine (zq9 b w h.cell0 h.shape h.frozen0).mono ?_;rintro e w' ⟨rfl,rfl⟩;exact ⟨rfl,h.used _,(Below.refl B w).setCell (p:=⟨b,0,none⟩) h.1 _,zvc _ _ _ _ _⟩
 ·refine (zzp b w h.cell0).mono ?_;rintro e w' ⟨rfl,rfl⟩;exact ⟨rfl,h,Below.refl B _,Tk.refl _ _ _⟩
theorem kvp (B b:Nat)(bs:List Value)(c:Int)(w:World)(h:Lib.IsBuilder 305 5 B b bs w)(hlen:bs.length+1≤140737488355328)(hBw:B≤w.heap.size) :
  Calls Tryz.prog 164 #[.pointer (some ⟨b,0,none⟩),.int .u8 c] w fun e w'=>e=.returned .nilIface∧(Lib.BuilderAt 305 5 B b (.pointer (some ⟨b,0,none⟩)) (bs++[.int .u8 c]) w'∧Below B w w'∧Tk (some b) [5] w w'):=by
 obtain ⟨i0,hi,hz0,hz1,hz2⟩:=info_parts Tryz.infoByte;go_enter Tryz.func164,Tryz.ntmps164
 go_wp2_with fail
 refine (qk0 B b bs _ h).mono ?_;rintro e w1 ⟨rfl,h1,hb1,hk1⟩;obtain ⟨hB,v,hbk,hown,hne⟩:=h1;have c0:w1.cell? ⟨b,0,none⟩=some (.pointer (some ⟨b,0,none⟩)):=by rw[Lib.cell_of_heap hbk];rfl
 have c1:w1.cell? ⟨b,1,none⟩=some v:=by rw[Lib.cell_of_heap hbk];rfl
 go_wp2_with (at_builtin;refine wpList_append_own _ rfl _ _ 83 rfl B 5 i0 (.int .u8 0) 1 1 Tryz.underlying83 hi hz0 hz1 hz2 rfl (by decide) _ _ _ rfl (hown.alloc _) ⟨w1.heap.size,0,none⟩ 1 1 [.int .u8 c] rfl rfl ?c1 ?c2 ?c3 ?c4 ?c5 ?_)
 case c1=>
  intro j u hj;match j,hj with
  | 0,hj=>simp at hj;subst hj;simp[Addr.add]
 case c2=>intro u hu;simp at hu;subst hu;rfl
 case c3=>unfold maxLen;omega
 case c4=>omega
 case c5=>have:=hb1.size;simp;omega
 intro v' w2 hown' hgrow _;have hlt:b<w1.heap.size:=by
  rcases Jh b w1.heap.size with h'|h'
  ·exact h'
  ·simp[fG h'] at hbk
 have hb2:w2.heap[b]?=some (.cells #[.pointer (some ⟨b,0,none⟩),v] 305 (0,0)):=by
  rw[hgrow.block b (by simp;omega) (fun e=>hne e.symm),Lib.alloc_old w1 _ b hlt];exact hbk
 have d0:w2.cell? ⟨b,0,none⟩=some (.pointer (some ⟨b,0,none⟩)):=by rw[Lib.cell_of_heap hb2];rfl
 have d1:w2.cell? ⟨b,1,none⟩=some v:=by rw[Lib.cell_of_heap hb2];rfl
 have f1:w2.frozen? ⟨b,1,none⟩=false:=Lib.frozen_of_heap hb2 1;obtain ⟨g,cap,rfl⟩:∃ g cap,v'=.slice (some ⟨g,0,none⟩) (bs.length+1) cap:=by
  rcases hown'.2 with ⟨_,h0⟩|⟨g,cap,cur,hv,_⟩
  ·omega
  ·exact ⟨g,cap,hv⟩
 go_wp2
 go_ret
 refine ⟨rfl,?_,?_,((hk1.alloc _).trans (kj7 (hown.alloc _) hgrow (by decide))).trans (zvc _ _ _ _ _)⟩
 ·exact Lib.BuilderAt.put (T:=305) (e:=5) hB hb2 (bs':=bs++[.int .u8 c]) (by simpa using hown') (by decide)
 ·exact ((hb1.alloc (by have:=hb1.size;omega) _).grown hgrow (by have:=hb1.size;simp;omega) (fun k hk=>(hown.lt k hk).1)).setCell (p:=⟨b,1,none⟩) hB _
theorem qjh (B b:Nat)(bs:List Value)(s:ByteArray)(w:World)(h:Lib.IsBuilder 305 5 B b bs w)(hlen:bs.length+s.size≤140737488355328)(hBw:B≤w.heap.size) :
  Calls Tryz.prog 220 #[.pointer (some ⟨b,0,none⟩),.string s] w fun e w'=>e=.returned (.tuple #[.int .i64 s.size,.nilIface])∧(Lib.BuilderAt 305 5 B b (.pointer (some ⟨b,0,none⟩)) (bs++Lib.strCells s) w'∧Below B w w'∧Tk (some b) [5] w w'):=by
 obtain ⟨i0,hi,hz0,hz1,hz2⟩:=info_parts Tryz.infoByte;go_enter Tryz.func220,Tryz.ntmps220
 go_wp2_with fail
 refine (qk0 B b bs _ h).mono ?_;rintro e w1 ⟨rfl,h1,hb1,hk1⟩;obtain ⟨hB,v,hbk,hown,hne⟩:=h1;have c0:w1.cell? ⟨b,0,none⟩=some (.pointer (some ⟨b,0,none⟩)):=by rw[Lib.cell_of_heap hbk];rfl
 have c1:w1.cell? ⟨b,1,none⟩=some v:=by rw[Lib.cell_of_heap hbk];rfl
 go_wp2_with (at_builtin;refine Lib.wpList_append_own_string _ rfl _ _ 83 9 rfl B 5 i0 Tryz.underlying83 Tryz.underlying9 hi hz0 hz1 hz2 _ _ _ rfl hown s rfl ?c3 ?c4 ?c5 ?_)
 case c3=>unfold maxLen;omega
 case c4=>omega
 case c5=>have:=hb1.size;omega
 intro v' w2 hown' hgrow _;have hlt:b<w1.heap.size:=by
  rcases Jh b w1.heap.size with h'|h'
  ·exact h'
  ·simp[fG h'] at hbk
 have hb2:w2.heap[b]?=some (.cells #[.pointer (some ⟨b,0,none⟩),v] 305 (0,0)):=by
  rw[hgrow.block b hlt (fun e=>hne e.symm)];exact hbk
 have d0:w2.cell? ⟨b,0,none⟩=some (.pointer (some ⟨b,0,none⟩)):=by rw[Lib.cell_of_heap hb2];rfl
 have d1:w2.cell? ⟨b,1,none⟩=some v:=by rw[Lib.cell_of_heap hb2];rfl
 have f1:w2.frozen? ⟨b,1,none⟩=false:=Lib.frozen_of_heap hb2 1;obtain ⟨ao,n',cap,rfl⟩:∃ ao n' cap,v'=.slice ao n' cap:=by
  rcases hown'.2 with ⟨hv,_⟩|⟨g,cap,cur,hv,_⟩
  ·exact ⟨_,_,_,hv⟩
  ·exact ⟨_,_,_,hv⟩
 go_wp2
 go_ret2
 refine ⟨rfl,?_,?_,(hk1.trans (kj7 hown hgrow (by decide))).trans (zvc _ _ _ _ _)⟩
 ·exact Lib.BuilderAt.put (T:=305) (e:=5) hB hb2 (bs':=bs++Lib.strCells s) (by simpa[Lib.strCells_length] using hown') (by decide)
 ·exact (hb1.grown hgrow (by have:=hb1.size;omega) (fun k hk=>(hown.lt k hk).1)).setCell (p:=⟨b,1,none⟩) hB _
theorem zxp (B b:Nat)(l:List UInt8)(w:World)(h:Lib.IsBuilder 305 5 B b (Lib.byteCells l) w)(h0:l≠[]) :
  Calls Tryz.prog 166 #[.pointer (some ⟨b,0,none⟩)] w fun e w'=>e=.returned (.string ⟨l.toArray⟩)∧Below B w w':=by
 obtain ⟨p,hB,v,hbk,hown,hne⟩:∃ p,Lib.BuilderAt 305 5 B b p (Lib.byteCells l) w:=by
  rcases h with h|h
  ·exact ⟨_,h⟩
  ·exact ⟨_,h⟩
 have hl0:l.length≠0:=by simpa using h0
 rw[Lib.byteCells_length] at hown;obtain ⟨g,cap,cur,rfl,hbg,hg,hnc,hcm,hcs,htake⟩:∃ g cap cur,v=.slice (some ⟨g,0,none⟩) l.length cap∧B≤g∧w.heap[g]?=some (.cells cur 5 (0,0))∧l.length≤cap∧cap≤maxLen∧cur.size=cap * 1∧cur.toList.take (l.length * 1)=Lib.byteCells l:=by
  rcases hown.2 with ⟨_,hz⟩|⟨g,cap,cur,hv,r⟩
  ·exact absurd hz hl0
  ·exact ⟨g,cap,cur,hv,r⟩
 have c1:w.drew.cell? ⟨b,1,none⟩=some (.slice (some ⟨g,0,none⟩) l.length cap):=by
  have:w.drew.heap[b]?=some (.cells #[p,.slice (some ⟨g,0,none⟩) l.length cap] 305 (0,0)):=hbk;rw[Lib.cell_of_heap this];rfl
 have hSD:(Builtin.unsafeSliceData_ #[83] 367 #[.slice (some ⟨g,0,none⟩) l.length cap]).run Tryz.prog w.drew=.ok (.pointer (some ⟨g,0,none⟩)) w.drew:=
  Lib.run_unsafeSliceData_row _ _ _ _ _ _ (by omega)
 have hUS:(Builtin.unsafeString_ #[367,3] 9 #[.pointer (some ⟨g,0,none⟩),.int .i64 l.length]).run Tryz.prog w.drew=.ok (.string ⟨l.toArray⟩) (w.drew.freeze ⟨g,0,none⟩ l.length):=by
  refine Lib.run_unsafeString_row w.drew 367 3 9 5 Tryz.underlying367 Tryz.cellsByte g cur.size (by have hg':w.drew.heap[g]?=some (.cells cur 5 (0,0)):=hg;simp[World.shape?,hg']) l h0 (by omega) (by unfold maxLen at hcm;omega) ?_;intro j x hx;have:=hown.cells (g:=g) rfl j (.int .u8 x.toNat) (by simp[Lib.byteCells,hx]);exact this
 go_enter Tryz.func166,Tryz.ntmps166
 go_wp2
 go_region
 all_goals (go_wp2;go_ret;exact ⟨rfl,Lib.below_freeze (Below.drew (Below.refl B w)) (p:=⟨g,0,none⟩) hbg _⟩)
theorem zv8 {B b:Nat}{bs:List Value}{w w':World}(h:Lib.IsBuilder 305 5 B b bs w)(hb:Below w.heap.size w w'):Lib.IsBuilder 305 5 B b bs w':=by
 have go:∀ p,Lib.BuilderAt 305 5 B b p bs w→Lib.BuilderAt 305 5 B b p bs w':=fun p ⟨hB,v,h1,h2,h3⟩=>⟨hB,v,(hb.block b (wX h1)).trans h1,qj h2 hb,h3⟩
 rcases h with h|h
 ·exact Or.inl (go _ h)
 ·exact Or.inr (go _ h)
theorem vzj {B b:Nat}{bs:List Value}{w:World}(h:Lib.IsBuilder 305 5 B b bs w):b<w.heap.size∧B≤b:=by
 rcases h with h|h
 ·exact ⟨h.lt,h.1⟩
 ·exact ⟨h.lt,h.1⟩
def qje (v:MVar)(st:List Int)(i:Nat):Option ByteArray:=(st[i]?).bind fun x=>if 0≤x then v.texts[x.toNat]? else none
theorem zxs {v:MVar}{st:List Int}{i:Nat}{t:ByteArray}(h:qje v st i=some t):∃ n:Nat,st[i]?=some (n:Int)∧v.texts[n]?=some t:=by
 unfold qje at h;obtain ⟨x,h1,h2⟩:=wQ.mp h;by_cases hx:0≤x
 ·rw[if_pos hx] at h2;exact ⟨x.toNat,by rw[Jz hx];exact h1,h2⟩
 ·rw[if_neg hx] at h2;cases h2
def kkc (n:Nat):List UInt8:=if 0<n then [32] else []
def qj0 (v:MVar)(st:List Int):Nat→Option (List UInt8)
 | 0=>some []
 | n+1=>(qj0 v st n).bind fun l=>(qje v st (v.first+n)).bind fun t=>if (l++kkc n++t.data.toList).length≤1000000 then some (l++kkc n++t.data.toList) else none
def qxc (v:MVar)(st:List Int):Option (List UInt8):=if v.over==-1 then (qje v st v.first).bind fun t=>if t.size≤1000000 then some t.data.toList else none else (qj0 v st v.count).map fun l=>91::(l++[93])
theorem qz2 (s:ByteArray):Lib.strCells s=Lib.byteCells s.data.toList:=rfl
theorem kzo (a b:List UInt8):Lib.byteCells (a++b)=Lib.byteCells a++Lib.byteCells b:=by simp[Lib.byteCells]
theorem zwu {v:MVar}{st:List Int}:∀ (n k:Nat),k≤n→∀ r,qj0 v st n=some r→∃ l,qj0 v st k=some l∧l.length≤1000000
 | n,k,hk,r,h=>by
  by_cases e:k=n
  ·subst e;refine ⟨r,h,?_⟩;cases k with
   | zero=>rw[qj0] at h;injection h with h;subst h;simp
   | succ k=>
    rw[qj0] at h;obtain ⟨l,h1,h2⟩:=wQ.mp h;obtain ⟨t,h3,h4⟩:=wQ.mp h2;by_cases hc:(l++kkc k++t.data.toList).length≤1000000
    ·rw[if_pos hc] at h4;injection h4 with h4;subst h4;exact hc
    ·rw[if_neg hc] at h4;cases h4
  ·cases n with
   | zero=>omega
   | succ n=>
    rw[qj0] at h;obtain ⟨l,h1,_⟩:=wQ.mp h;exact zwu n k (by omega) l h1
def WrS (X sg tg i n:Nat)(tv:Value)(f:Nat)(t:ByteArray)(w:World):Prop:=w.cell? ⟨X,0,none⟩=some (.int .i64 f)∧w.cell? ⟨X,2,none⟩=some tv∧w.cell? ⟨sg,i,none⟩=some (.int .u8 n)∧w.cell? ⟨tg,n,none⟩=some (.string t)
theorem zvr {w w':World}{lo e B:Nat}{a:Option Addr}{n c:Nat}{xs:List Value}(h:w.ownsRow lo e 1 (.slice a n c) n xs)(hb:Below B w w')(hl:∀ q,a=some q→q.block<B)(i:Nat)(hi:i<n){x:Value}(hx:xs[i]?=some x):∃ g,a=some ⟨g,0,none⟩∧g<B∧w'.cell? ⟨g,i,none⟩=some x:=by
 obtain ⟨a',c',e,hv⟩:=zq h;injection e with e1 _ _;subst e1;obtain ⟨g,rfl,_,_,hc⟩:=hv i hi;have:=hl _ rfl;exact ⟨g,rfl,this,by rw[hb.cell (p:=⟨g,i,none⟩) this,hc i (by omega)];exact hx⟩
theorem write_any (w:World)(B b lo:Nat)(v:MVar)(st:List Int)(ta sa:Option Addr)(tc sn sc:Nat)(l0 r:List UInt8)(hB:Lib.IsBuilder 305 5 B b (Lib.byteCells l0) w)(hT:w.ownsRow lo 9 1 (.slice ta v.texts.length tc) v.texts.length (v.texts.map Value.string))(hS:w.ownsRow lo 5 1 (.slice sa sn sc) st.length (st.map (Value.int .u8)))
  (hBw:B≤w.heap.size) (hts:∀ q,ta=some q→q.block<B) (hss:∀ q,sa=some q→q.block<B) (hl0:l0.length≤10000000) (hfs:v.first≤1000000) (hcn:v.count≤1000000) (hsl:st.length≤1000000) (htl:v.texts.length≤1000000) (hr:qxc v st=some r) :
  Calls Tryz.prog 165 #[.agg #[.int .i64 v.first,.int .i64 v.count,.slice ta v.texts.length tc,.int .i64 v.over,.int .i64 v.of_],.pointer (some ⟨b,0,none⟩),.slice sa sn sc] w fun e w'=>e=.returned (.tuple #[])∧Lib.IsBuilder 305 5 B b (Lib.byteCells (l0++r)) w'∧Below B w w':=by
 obtain ⟨za,zc,ez,_⟩:=zq hS;injection ez with ez1 ez2 ez3;subst ez1;subst ez2;subst ez3;obtain ⟨hbl,hBb⟩:=vzj hB;obtain ⟨W,hW⟩:∃ W,W=w.alloc (.cells #[.int .i64 v.first,.int .i64 v.count,.slice ta v.texts.length tc,.int .i64 v.over,.int .i64 v.of_] 213):=⟨_,rfl⟩;have hbW:Below w.heap.size w W:=by rw[hW];exact below_alloc1 w _
 have hsW:w.heap.size<W.heap.size:=by rw[hW];simp
 have hX:W.heap[w.heap.size]?=some (.cells #[.int .i64 v.first,.int .i64 v.count,.slice ta v.texts.length tc,.int .i64 v.over,.int .i64 v.of_] 213 (0,0)):=by rw[hW];exact qy _ _
 have HBW0:=hide (zv8 hB hbW);have HTr:=hide (qj hT hbW);have HSr:=hide (qj hS hbW);have HX:=hide hX;have HWE:=hide hW.symm;have HBW:=hide hbW;have hbne:b≠w.heap.size:=by omega
 unfold qxc at hr;cases ho:(v.over==-1)
 case true=>
  rw[ho,if_pos rfl] at hr;obtain ⟨t,ht,hr⟩:=wQ.mp hr;have hsz:t.size≤1000000:=by
   apply sJ;intro hc;rw[if_neg hc] at hr;cases hr
  rw[if_pos hsz] at hr;injection hr with hr;subst hr;obtain ⟨n,hn1,hn2⟩:=zxs ht;have hi1:v.first<st.length:=by have:=nJ.mp hn1;exact this.1
  have hi2:n<v.texts.length:=by have:=nJ.mp hn2;exact this.1
  obtain ⟨sg,rfl,hsg,es⟩:=zvr (ku HSr) (Below.refl B W) hss v.first hi1 (x:=.int .u8 n) (by rw[lq,hn1];rfl);obtain ⟨tg,rfl,htg,et⟩:=zvr (ku HTr) (Below.refl B W) hts n hi2 (x:=.string t) (by rw[lq,hn2];rfl);obtain ⟨x0,x1,x2,x3,x4,_⟩:=zo hX;have HS0:=hide (show WrS w.heap.size sg tg v.first n (.slice (some ⟨tg,0,none⟩) v.texts.length tc) v.first t W.drew from ⟨x0,x2,es,et⟩);have HW1:=hide (qjh B b (Lib.byteCells l0) t W.drew (ku HBW0) (by rw[Lib.byteCells_length];omega) (by show B≤W.heap.size;omega));clear hB hT hS hbW hX hW hn1 hn2 ht es et x0 x1 x2 x4;go_enter Tryz.func165,Tryz.ntmps165
  go_upto_region 2 with fail
  rw[ku HWE];refine kqi (S:=WrS w.heap.size sg tg v.first n (.slice (some ⟨tg,0,none⟩) v.texts.length tc) v.first t) (tl:=[10]) (by kernel_rfl) ?_;refine qm (i:=0) (v:=.pointer (some ⟨b,0,none⟩)) rfl (by kernel_rfl) (by kernel_rfl) (by kernel_rfl) (fun _ _ _ h=>h) (Or.inl ⟨by rfl,fun _ _=>by go_simp⟩) ?_;try simp only[Act.put,wu,wZ,wJ]
  refine qm (i:=1) (v:=.pointer (some ⟨w.heap.size,2,none⟩)) rfl (by kernel_rfl) (by kernel_rfl) (by kernel_rfl) (fun _ _ _ h=>h) (Or.inl ⟨by rfl,fun _ _=>by go_simp⟩) ?_;try simp only[Act.put,wu,wZ,wJ]
  refine zl (i:=2) (v:=.slice (some ⟨tg,0,none⟩) v.texts.length tc) [8,9,10] rfl (by kernel_rfl) (by kernel_rfl) (by kernel_rfl) (by kernel_rfl) (by decide) (fun _ _ _ h=>h) (Or.inl ⟨by rfl,fun wq hSw=>by (obtain ⟨s0,s1,s2,s3⟩:=hSw;go_simp)⟩) (ku HS0) ?_;try simp only[Act.put,wu,wZ,wJ]
  refine qm (i:=3) (v:=.slice (some ⟨sg,0,none⟩) st.length sc) rfl (by kernel_rfl) (by kernel_rfl) (by kernel_rfl) (fun _ _ _ h=>h) (Or.inl ⟨by rfl,fun _ _=>by go_simp⟩) ?_;try simp only[Act.put,wu,wZ,wJ]
  refine qm (i:=4) (v:=.pointer (some ⟨w.heap.size,0,none⟩)) rfl (by kernel_rfl) (by kernel_rfl) (by kernel_rfl) (fun _ _ _ h=>h) (Or.inl ⟨by rfl,fun _ _=>by go_simp⟩) ?_;try simp only[Act.put,wu,wZ,wJ]
  refine zl (i:=5) (v:=.int .i64 v.first) [6,7,8,9,10] rfl (by kernel_rfl) (by kernel_rfl) (by kernel_rfl) (by kernel_rfl) (by decide) (fun _ _ _ h=>h) (Or.inl ⟨by rfl,fun wq hSw=>by (obtain ⟨s0,s1,s2,s3⟩:=hSw;go_simp)⟩) (ku HS0) ?_;try simp only[Act.put,wu,wZ,wJ]
  refine qm (i:=6) (v:=.pointer (some ⟨sg,v.first,none⟩)) rfl (by kernel_rfl) (by kernel_rfl) (by kernel_rfl) (fun _ _ _ h=>h) (Or.inl ⟨by rfl,fun _ _=>by go_simp⟩) ?_;try simp only[Act.put,wu,wZ,wJ]
  refine zl (i:=7) (v:=.int .u8 n) [8,9,10] rfl (by kernel_rfl) (by kernel_rfl) (by kernel_rfl) (by kernel_rfl) (by decide) (fun _ _ _ h=>h) (Or.inl ⟨by rfl,fun wq hSw=>by (obtain ⟨s0,s1,s2,s3⟩:=hSw;go_simp)⟩) (ku HS0) ?_;try simp only[Act.put,wu,wZ,wJ]
  refine qm (i:=8) (v:=.pointer (some ⟨tg,n,none⟩)) rfl (by kernel_rfl) (by kernel_rfl) (by kernel_rfl) (fun _ _ _ h=>h) (Or.inl ⟨by rfl,fun _ _=>by go_simp⟩) ?_;try simp only[Act.put,wu,wZ,wJ]
  refine zl (i:=9) (v:=.string t) [10] rfl (by kernel_rfl) (by kernel_rfl) (by kernel_rfl) (by kernel_rfl) (by decide) (fun _ _ _ h=>h) (Or.inl ⟨by rfl,fun wq hSw=>by (obtain ⟨s0,s1,s2,s3⟩:=hSw;go_simp)⟩) (ku HS0) ?_;try simp only[Act.put,wu,wZ,wJ]
  refine kz4 _ _ _ _ (kvb (by kernel_rfl)) ?_;refine wpAny_ready (rs:=[10]) (by kernel_rfl) (by simp) (AllReady.cons rfl (fun K hK=>?_) AllReady.nil);go_simp
  go_at_call 220
  refine (ku HW1).mono ?_;rintro e w1 ⟨rfl,h1,hb1,hk1⟩;have HE:=hide (show Lib.IsBuilder 305 5 B b (Lib.byteCells (l0++t.data.toList)) w1∧Below B w w1 from ⟨Or.inr (by rw[kzo,←qz2];exact h1),((ku HBW).mono hBw).trans (show Below B W w1 from ((Below.refl B W).drew).trans hb1)⟩);clear h1 hb1 hk1;dsimp only;refine hK _ _ ?_;clear hK K;refine wpAny_done (by kernel_rfl) ?_ _;go_wp2
  first
   | (go_end0;exact ⟨rfl,ku HE⟩)
   | (refine rY (results_none rfl _ _ _) rfl ?_;exact ⟨rfl,ku HE⟩)
 case false=>
  rw[ho,if_neg (by simp)] at hr;obtain ⟨ra,hra,rfl⟩:=rQ.mp hr;have HRA:=hide hra;have HW1:=hide (kvp B b (Lib.byteCells l0) 91 W (ku HBW0) (by rw[Lib.byteCells_length];omega) (by omega));clear hB hT hS hbW hX hW hr hra;go_enter Tryz.func165,Tryz.ntmps165
  go_wp2_with fail
  rw[ku HWE];refine (ku HW1).mono ?_;rintro e w1 ⟨rfl,h1,hb1,hk1⟩;have hx1:=hk1.row (ku HX) (by intro e;injection e with e;exact hbne e) (by decide);obtain ⟨x0,x1,x2,x3,x4,_⟩:=zo hx1;have HX1:=hide hx1;have hl1:=wX hx1;have HI1:=hide (show Lib.IsBuilder 305 5 B b (Lib.byteCells (l0++[91])) w1 from Or.inr (by rw[kzo];exact h1));have HB1:=hide (show Below B W w1 from hb1);have hs1:=hb1.size;clear h1 hb1 hk1 hx1 HW1;go_wp2_with fail
  go_loopw [6,25] (fun _ i wr=>∃ (k:Nat) (l:List UInt8),k≤v.count∧i=.int .i64 k∧qj0 v st k=some l∧Lib.IsBuilder 305 5 B b (Lib.byteCells ((l0++[91])++l)) wr∧Below B W wr∧wr.heap[w.heap.size]?=some (.cells #[.int .i64 v.first,.int .i64 v.count,.slice ta v.texts.length tc,.int .i64 v.over,.int .i64 v.of_] 213 (0,0))) (fun _ i _=>v.count-(intOf i).toNat)
  case atStart=>exact ⟨0,[],tu _,rfl,rfl,by rw[ni];exact ku HI1,ku HB1,ku HX1⟩
  case round=>
   obtain ⟨k,l,hk,rfl,hal,hbd,hb,hx⟩:=hrel;obtain ⟨_,hl1,hll⟩:=zwu v.count k hk ra (ku HRA);rw[hal] at hl1;injection hl1 with hl1;subst hl1;have hsz:=hb.size;by_cases hlt:k<v.count
   ·obtain ⟨l2,hl2,hll2⟩:=zwu v.count (k+1) hlt ra (ku HRA);have HAL:=hide hl2;rw[qj0,hal] at hl2;change (qje v st (v.first+k)).bind _=_ at hl2
    obtain ⟨t,ht,hl3⟩:=wQ.mp hl2;have hcd:(l++kkc k++t.data.toList).length≤1000000:=by
     apply sJ;intro hc;rw[if_neg hc] at hl3;cases hl3
    rw[if_pos hcd] at hl3;injection hl3 with hl3;obtain ⟨n,hn1,hn2⟩:=zxs ht;have hi1:v.first+k<st.length:=by have:=nJ.mp hn1;exact this.1
    have hi2:n<v.texts.length:=by have:=nJ.mp hn2;exact this.1
    have hts1:t.size≤1000000:=by
     have hd:t.size=t.data.toList.length:=by rw[QG];rfl
     rw[wU] at hcd;omega
    have hix0:(0:Int)≤(v.first:Int)+k:=by omega
    have hix1:(v.first:Int)+k<st.length:=by omega
    have hix2:((v.first:Int)+k).toNat=v.first+k:=by omega
    have hwrap:IntKind.i64.wrap ((v.first:Int)+k)=(v.first:Int)+k:=by rw[nK];omega
    have HBD:=hide hbd;have HX2:=hide hx;have HB2:=hide hb;have HL3:=hide hl3;have hxl:=wX hx;have HWS:=hide (fun (wx:World) (q:List UInt8) (hq:q.length≤20000000) (hi:Lib.IsBuilder 305 5 B b (Lib.byteCells q) wx) (hs:B≤wx.heap.size)=>qjh B b (Lib.byteCells q) t wx hi (by rw[Lib.byteCells_length];omega) hs);by_cases hk0:0<k
    case' pos=>
     have HWB:=hide (kvp B b (Lib.byteCells ((l0++[91])++l)) 32 wr hbd (by rw[Lib.byteCells_length];simp;omega) (by omega));clear hbd hx hb hl2 hl3;go_wp2_with fail
     refine (ku HWB).mono ?_;rintro e wc ⟨rfl,h5,hb5,hk5⟩;have hxc:=hk5.row (ku HX2) (by intro e;injection e with e;exact hbne e) (by decide);have HSEP:=hide (show kkc k=[32] from if_pos hk0);have hsc:=hb5.size;have HBD5:=hide (show Lib.IsBuilder 305 5 B b (Lib.byteCells ((l0++[91])++(l++kkc k))) wc from Or.inr (by rw[ku HSEP,←tX,kzo];exact h5));have HB5:=hide ((ku HB2).trans hb5);clear h5 hb5 hk5 HWB
    case' neg=>
     obtain ⟨wc,hwc⟩:∃ wc,wc=wr:=⟨_,rfl⟩;subst hwc;have hxc:=hx;have hsc:=wW wc.heap.size;have HSEP:=hide (show kkc k=[] from if_neg hk0);have HBD5:=hide (show Lib.IsBuilder 305 5 B b (Lib.byteCells ((l0++[91])++(l++kkc k))) wc from by rw[ku HSEP,ni];exact hbd);have HB5:=hide hb;clear hbd hx hb hl2 hl3
    all_goals
     obtain ⟨sg,rfl,hsg,es⟩:=zvr (ku HSr) (ku HB5) hss (v.first+k) hi1 (x:=.int .u8 n) (by rw[lq,hn1];rfl);obtain ⟨tg,rfl,htg,et⟩:=zvr (ku HTr) (ku HB5) hts n hi2 (x:=.string t) (by rw[lq,hn2];rfl);obtain ⟨x0,x1,x2,x3,x4,_⟩:=zo hxc;have HS0:=hide (show WrS w.heap.size sg tg (v.first+k) n (.slice (some ⟨tg,0,none⟩) v.texts.length tc) v.first t wc.drew from ⟨x0,x2,es,et⟩);have hslen:(l++kkc k).length≤1000000:=by rw[wU] at hcd;omega
     have HW7:=hide ((ku HWS) wc.drew ((l0++[91])++(l++kkc k)) (by rw[wU,wU];simp only[QJ];omega) (ku HBD5) (by show B≤wc.heap.size;omega));have HXC:=hide hxc;clear es et x0 x1 x2 x3 x4 hxc hn1 hn2 ht;go_upto_region 9 with fail
     refine kqi (S:=WrS w.heap.size sg tg (v.first+k) n (.slice (some ⟨tg,0,none⟩) v.texts.length tc) v.first t) (tl:=[12]) (by kernel_rfl) ?_;refine qm (i:=0) (v:=.pointer (some ⟨b,0,none⟩)) rfl (by kernel_rfl) (by kernel_rfl) (by kernel_rfl) (fun _ _ _ h=>h) (Or.inl ⟨by rfl,fun _ _=>by go_simp⟩) ?_;try simp only[Act.put,wu,wZ,wJ]
     refine qm (i:=1) (v:=.pointer (some ⟨w.heap.size,2,none⟩)) rfl (by kernel_rfl) (by kernel_rfl) (by kernel_rfl) (fun _ _ _ h=>h) (Or.inl ⟨by rfl,fun _ _=>by go_simp⟩) ?_;try simp only[Act.put,wu,wZ,wJ]
     refine zl (i:=2) (v:=.slice (some ⟨tg,0,none⟩) v.texts.length tc) [10,11,12] rfl (by kernel_rfl) (by kernel_rfl) (by kernel_rfl) (by kernel_rfl) (by decide) (fun _ _ _ h=>h) (Or.inl ⟨by rfl,fun wq hSw=>by (obtain ⟨s0,s1,s2,s3⟩:=hSw;go_simp)⟩) (ku HS0) ?_;try simp only[Act.put,wu,wZ,wJ]
     refine qm (i:=3) (v:=.slice (some ⟨sg,0,none⟩) st.length sc) rfl (by kernel_rfl) (by kernel_rfl) (by kernel_rfl) (fun _ _ _ h=>h) (Or.inl ⟨by rfl,fun _ _=>by go_simp⟩) ?_;try simp only[Act.put,wu,wZ,wJ]
     refine qm (i:=4) (v:=.pointer (some ⟨w.heap.size,0,none⟩)) rfl (by kernel_rfl) (by kernel_rfl) (by kernel_rfl) (fun _ _ _ h=>h) (Or.inl ⟨by rfl,fun _ _=>by go_simp⟩) ?_;try simp only[Act.put,wu,wZ,wJ]
     refine zl (i:=5) (v:=.int .i64 v.first) [7,8,9,10,11,12] rfl (by kernel_rfl) (by kernel_rfl) (by kernel_rfl) (by kernel_rfl) (by decide) (fun _ _ _ h=>h) (Or.inl ⟨by rfl,fun wq hSw=>by (obtain ⟨s0,s1,s2,s3⟩:=hSw;go_simp)⟩) (ku HS0) ?_;try simp only[Act.put,wu,wZ,wJ]
     refine qm (i:=6) (v:=.int .i64 k) rfl (by kernel_rfl) (by kernel_rfl) (by kernel_rfl) (fun _ _ _ h=>h) (Or.inl ⟨by rfl,fun _ _=>by go_simp⟩) ?_;try simp only[Act.put,wu,wZ,wJ]
     refine qm (i:=7) (v:=.int .i64 ((v.first:Int)+k)) rfl (by kernel_rfl) (by kernel_rfl) (by kernel_rfl) (fun _ _ _ h=>h) (Or.inl ⟨by rfl,fun _ _=>by go_simp⟩) ?_;try simp only[Act.put,wu,wZ,wJ]
     refine qm (i:=8) (v:=.pointer (some ⟨sg,(v.first+k),none⟩)) rfl (by kernel_rfl) (by kernel_rfl) (by kernel_rfl) (fun _ _ _ h=>h) (Or.inl ⟨by rfl,fun _ _=>by go_simp⟩) ?_;try simp only[Act.put,wu,wZ,wJ]
     refine zl (i:=9) (v:=.int .u8 n) [10,11,12] rfl (by kernel_rfl) (by kernel_rfl) (by kernel_rfl) (by kernel_rfl) (by decide) (fun _ _ _ h=>h) (Or.inl ⟨by rfl,fun wq hSw=>by (obtain ⟨s0,s1,s2,s3⟩:=hSw;go_simp)⟩) (ku HS0) ?_;try simp only[Act.put,wu,wZ,wJ]
     refine qm (i:=10) (v:=.pointer (some ⟨tg,n,none⟩)) rfl (by kernel_rfl) (by kernel_rfl) (by kernel_rfl) (fun _ _ _ h=>h) (Or.inl ⟨by rfl,fun _ _=>by go_simp⟩) ?_;try simp only[Act.put,wu,wZ,wJ]
     refine zl (i:=11) (v:=.string t) [12] rfl (by kernel_rfl) (by kernel_rfl) (by kernel_rfl) (by kernel_rfl) (by decide) (fun _ _ _ h=>h) (Or.inl ⟨by rfl,fun wq hSw=>by (obtain ⟨s0,s1,s2,s3⟩:=hSw;go_simp)⟩) (ku HS0) ?_;try simp only[Act.put,wu,wZ,wJ]
     refine kz4 _ _ _ _ (kvb (by kernel_rfl)) ?_;refine wpAny_ready (rs:=[12]) (by kernel_rfl) (by simp) (AllReady.cons rfl (fun K hK=>?_) AllReady.nil);go_simp
     go_at_call 220
     refine (ku HW7).mono ?_;rintro e w8 ⟨rfl,h8,hb8,hk8⟩;have HX8:=hide (hk8.row (show wc.drew.heap[w.heap.size]?=_ from ku HXC) (by intro e;injection e with e;exact hbne e) (by decide));have HBD8:=hide (show Lib.IsBuilder 305 5 B b (Lib.byteCells ((l0++[91])++l2)) w8 from Or.inr (by rw[←ku HL3,←tX,kzo,←qz2];exact h8));have HB8:=hide ((ku HB5).trans (show Below B wc w8 from ((Below.refl B wc).drew).trans hb8));clear h8 hb8 hk8;dsimp only;refine hK _ _ ?_;clear hK K;refine wpAny_done (by kernel_rfl) ?_ _;go_wp2
     go_roundw
     case rel=>exact ⟨k+1,l2,by omega,by go_num,ku HAL,ku HBD8,ku HB8,ku HX8⟩
     case measure=>simp[intOf];omega
   ·have hke:k=v.count:=by omega
    have HALE:=hide (show l=ra by rw[hke,ku HRA] at hal;injection hal with hal;exact hal.symm);have HWB:=hide (kvp B b (Lib.byteCells ((l0++[91])++l)) 93 wr hbd (by rw[Lib.byteCells_length];simp;omega) (by omega));have HB2:=hide hb;clear hbd hx hb;go_wp2_with fail
    refine (ku HWB).mono ?_;rintro e wc ⟨rfl,h5,hb5,hk5⟩;have HE:=hide (show Lib.IsBuilder 305 5 B b (Lib.byteCells (l0++91::(ra++[93]))) wc∧Below B w wc from ⟨Or.inr (by
     have e:l0++91::(ra++[93])=((l0++[91])++l)++[93]:=by rw[ku HALE];simp
     rw[e,kzo];exact h5),((ku HBW).mono hBw).trans ((ku HB2).trans hb5)⟩)
    clear h5 hb5 hk5 HWB;go_wp2
    go_end0
    exact ⟨rfl,ku HE⟩
def jjr (v:MVar):Bool:=decide (v.first≤1000000)&&decide (v.count≤1000000)&&decide (v.texts.length≤1000000)
def qjo (vars:List MVar)(st:List Int):Nat→Option (List UInt8)
 | 0=>some []
 | n+1=>(qjo vars st n).bind fun l=>(vars[n]?).bind fun v=>(qxc v st).bind fun t=>if (l++kkc n++t).length≤1000000∧jjr v=true then some (l++kkc n++t) else none
theorem zqm {vars:List MVar}{st:List Int}{n:Nat}{r:List UInt8}(h:qjo vars st (n+1)=some r):∃ l v t,qjo vars st n=some l∧vars[n]?=some v∧qxc v st=some t∧jjr v=true∧r=l++kkc n++t∧r.length≤1000000:=by
 rw[qjo] at h;obtain ⟨l,h1,h⟩:=wQ.mp h;obtain ⟨v,h2,h⟩:=wQ.mp h;obtain ⟨t,h3,h⟩:=wQ.mp h;by_cases hc:(l++kkc n++t).length≤1000000∧jjr v=true
 ·rw[if_pos hc] at h;injection h with h;exact ⟨l,v,t,h1,h2,h3,hc.2,h.symm,by rw[←h];exact hc.1⟩
 ·rw[if_neg hc] at h;cases h
theorem jjh {vars:List MVar}{st:List Int}:∀ (n k:Nat),k≤n→∀ r,qjo vars st n=some r→∃ l,qjo vars st k=some l∧l.length≤1000000
 | n,k,hk,r,h=>by
  by_cases e:k=n
  ·subst e;refine ⟨r,h,?_⟩;cases k with
   | zero=>rw[qjo] at h;injection h with h;subst h;simp
   | succ k=>obtain ⟨_,_,_,_,_,_,_,_,hl⟩:=zqm h;exact hl
  ·cases n with
   | zero=>omega
   | succ n=>
    obtain ⟨l,_,_,h1,_⟩:=zqm h;exact jjh n k (by omega) l h1
def qjt (vars:List MVar)(st:List Int):Option (List UInt8):=(qjo vars st vars.length).bind fun l=>if l=[] then none else some l
theorem qyb {w:World}{lo e size:Nat}{a:Option Addr}{n c m:Nat}{xs:List Value}(h:w.ownsRow lo e size (.slice a n c) m xs):∀ q,a=some q→q.block<w.heap.size:=by
 intro q hq;rcases h.2 with ⟨e1,_⟩|⟨g,cap,cur,e1,_,e3,_⟩
 ·injection e1 with e1;rw[e1] at hq;cases hq
 ·injection e1 with e1;rw[e1] at hq;injection hq with hq;subst hq;exact wX e3
theorem jwk (w:World)(lo M nb:Nat)(vars:List MVar)(tab:uq)(st:List Int)(sa:Option Addr)(sn sc:Nat)(h:Mc lo w M nb vars tab)(hS:w.ownsRow lo 5 1 (.slice sa sn sc) st.length (st.map (Value.int .u8)))(hv:vars.length≤1000)(hsl:st.length≤1000000)(r:List UInt8)(hr:qjt vars st=some r) :
  Calls Tryz.prog 95 #[.pointer (some ⟨M,0,none⟩),.slice sa sn sc] w fun e w'=>e=.returned (.string ⟨r.toArray⟩)∧Below w.heap.size w w':=by
 unfold qjt at hr;obtain ⟨r',hr1,hr2⟩:=wQ.mp hr;have hne:r'≠[]:=by
  intro e;rw[if_pos e] at hr2;cases hr2
 rw[if_neg hne] at hr2;injection hr2 with hr2;subst hr2;obtain ⟨⟨y0,y1,y2,va,vc,z,cs,hM,hV,hI⟩,_⟩:=h;obtain ⟨xa,xc,e1,hview⟩:=zq hV;injection e1 with e1 _ e3;subst e1;subst e3;obtain ⟨m0,m1,m2,m3,m4,m5,_⟩:=kvt hM;have hMl:=wX hM;obtain ⟨W,hW⟩:∃ W,W=w.alloc (.cells #[.pointer none,.slice none 0 0] 305):=⟨_,rfl⟩;have hbW:Below w.heap.size w W:=by rw[hW];exact below_alloc1 w _
 have hsW:w.heap.size<W.heap.size:=by rw[hW];simp
 obtain ⟨b,hb0⟩:∃ b,b=w.heap.size:=⟨_,rfl⟩;have HBD:=hide (show Lib.IsBuilder 305 5 w.heap.size b (Lib.byteCells []) W by rw[hW,hb0];exact Lib.fresh_isBuilder _ _ w);have HM3:=hide ((hbW.cell (p:=⟨M,3,none⟩) hMl).trans m3);have HVW:=hide hview;have HI:=hide hI;have HS:=hide hS;have HR:=hide hr1;have HNE:=hide hne;have HBW:=hide hbW;have HWE:=hide hW.symm;have HBE:=hide hb0;have HSS:=hide (qyb hS);clear hr hV hview hI hS hbW hW hne hM m0 m1 m2 m4 m5 hb0;go_enter Tryz.func95,Tryz.ntmps95
 go_wp2_with fail
 rw[ku HWE,←ku HBE];go_loopw [6,7,13] (fun _ _ i wr=>∃ (k:Nat) (l:List UInt8),k≤vars.length∧i=.int .i64 k∧qjo vars st k=some l∧Lib.IsBuilder 305 5 w.heap.size b (Lib.byteCells l) wr∧Below w.heap.size w wr) (fun _ _ i _=>vars.length-(intOf i).toNat)
 case atStart=>exact ⟨0,[],tu _,rfl,rfl,ku HBD,ku HBW⟩
 case round=>
  obtain ⟨k,l,hk,rfl,hvl,hbd,hb⟩:=hrel;obtain ⟨_,hl1,hll⟩:=jjh vars.length k hk r' (ku HR);rw[hvl] at hl1;injection hl1 with hl1;subst hl1;have hsz:=hb.size;obtain ⟨hbl,_⟩:=vzj hbd;by_cases hlt:k<vars.length
  ·obtain ⟨l2,hl2,hll2⟩:=jjh vars.length (k+1) hlt r' (ku HR);have HL2:=hide hl2;obtain ⟨l',v,t,q1,q2,q3,q4,q5,q6⟩:=zqm hl2;rw[hvl] at q1;injection q1 with q1;subst q1;obtain ⟨ta,tc,⟨f0,f1,f2,f3,f4⟩,htx⟩:=vjz k hlt (ku HI);rw[show vars[k]=v by rw[ny hlt] at q2;injection q2] at f0 f1 f2 f3 f4 htx;obtain ⟨g,rfl,hg1,hg2,hc⟩:=ku HVW k hlt;have e0:=(hb.cell (p:=⟨g,k * 5,none⟩) hg2).trans ((hc (k * 5) (by omega)).trans f0);have e1:=(hb.cell (p:=⟨g,k * 5+1,none⟩) hg2).trans ((hc (k * 5+1) (by omega)).trans f1);have e2:=(hb.cell (p:=⟨g,k * 5+2,none⟩) hg2).trans ((hc (k * 5+2) (by omega)).trans f2);have e3:=(hb.cell (p:=⟨g,k * 5+3,none⟩) hg2).trans ((hc (k * 5+3) (by omega)).trans f3);have e4:=(hb.cell (p:=⟨g,k * 5+4,none⟩) hg2).trans ((hc (k * 5+4) (by omega)).trans f4);have hts:=qyb htx;have hft:v.first≤1000000∧v.count≤1000000∧v.texts.length≤1000000:=by
    unfold jjr at q4;simp only[wY,nU] at q4;exact ⟨q4.1.1,q4.1.2,q4.2⟩
   obtain ⟨ft1,ft2,ft3⟩:=hft;have hslen:(l++kkc k).length≤1000000:=by rw[q5,wU] at q6;omega
   have HWR:=hide (fun (wx:World) (hbx:Below w.heap.size w wx) (hi:Lib.IsBuilder 305 5 w.heap.size b (Lib.byteCells (l++kkc k)) wx)=>write_any wx w.heap.size b lo v st ta sa tc sn sc (l++kkc k) t hi (qj htx hbx) (qj (ku HS) hbx) hbx.size hts (ku HSS) (by omega) ft1 ft2 hsl ft3 q3);have HBX:=hide (below_alloc1 wr (.cells (kxb v ta tc) 213));have hbd1:=zv8 hbd (ku HBX);have hxr:=qy wr (.cells (kxb v ta tc) 213);unfold kxb at hbd1 hxr HBX;have HB1:=hide (hb.alloc hsz (.cells (kxb v ta tc) 213));unfold kxb at HB1;have HQ5:=hide q5;clear hc hbd hb f0 f1 f2 f3 f4 htx hts q2 q3 q4 q5 q6 hl2;by_cases hk0:0<k
   case' pos=>
    have HWB:=hide (kvp w.heap.size b (Lib.byteCells l) 32 _ hbd1 (by rw[Lib.byteCells_length];omega) (by simp;omega));have HXR:=hide hxr;clear hbd1 hxr;go_wp2_with fail
    refine (ku HWB).mono ?_;rintro e wc ⟨rfl,h5,hb5,hk5⟩;have hxc:=hk5.row (ku HXR) (by intro e;injection e with e;omega) (by decide);have HBD5:=hide (show Lib.IsBuilder 305 5 w.heap.size b (Lib.byteCells (l++kkc k)) wc from Or.inr (by rw[show kkc k=[32] from if_pos hk0,kzo];exact h5));have HB5:=hide ((ku HB1).trans hb5);have hlc:=wX hxc;obtain ⟨x0,x1,x2,x3,x4,_⟩:=zo hxc;have HW7:=hide ((ku HWR) wc (ku HB5) (ku HBD5));clear h5 hb5 hk5 HWB hxc;go_wp2_with fail
    refine (ku HW7).mono ?_
   case' neg=>
    have HBD5:=hide (show Lib.IsBuilder 305 5 w.heap.size b (Lib.byteCells (l++kkc k)) _ from by rw[show kkc k=[] from if_neg hk0,ni];exact hbd1);have HB5:=HB1;have HW7:=hide ((ku HWR) _ (ku HB5) (ku HBD5));clear hbd1 hxr;go_wp2_with fail
    refine (ku HW7).mono ?_
   all_goals
    rintro e w8 ⟨rfl,h8,hb8⟩;have HBD8:=hide (show Lib.IsBuilder 305 5 w.heap.size b (Lib.byteCells l2) w8 from by rw[ku HQ5];exact h8);have HB8:=hide ((ku HB5).trans hb8);clear h8 hb8;go_wp2
    go_roundw
    case rel=>exact ⟨k+1,l2,by omega,by go_num,ku HL2,ku HBD8,ku HB8⟩
    case measure=>simp[intOf];omega
  ·have:k=vars.length:=by omega
   have HLE:=hide (show l=r' by rw[this,ku HR] at hvl;injection hvl with hvl;exact hvl.symm);have HB:=hide hb;have HST:=hide (zxp w.heap.size b l wr hbd (by rw[ku HLE];exact ku HNE));clear hbd hb;go_wp2_with fail
   refine (ku HST).mono ?_;rintro e w2 ⟨rfl,hb2⟩;have HB2:=hide ((ku HB).trans hb2);clear hb2 HST;go_wp2
   go_ret
   exact ⟨by rw[ku HLE];rfl,ku HB2⟩
end Go.Proofs.YtpmcnonmkghokaaGreatDoor

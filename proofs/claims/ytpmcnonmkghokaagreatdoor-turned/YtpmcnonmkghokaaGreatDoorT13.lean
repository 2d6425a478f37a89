import Derived.Test.YtpmcnonmkghokaaGreatDoorT00
import Derived.RegionTactic
import Derived.OrdersHeld
import Derived.Test.YtpmcnonmkghokaaGreatDoorT12
import Derived.Deep.AppendLies
set_option maxRecDepth 100000
set_option maxHeartbeats 8000000
set_option linter.unusedVariables false
set_option linter.unusedSimpArgs false
namespace Go.Proofs.YtpmcnonmkghokaaGreatDoor
open Go.RowKit
section
variable {P:Program} {ops:Array Oper} {Q:Exit→Act→World→Prop} {md:Region.Mode} {S:World→Prop} {tl:List Nat}
def kk3 (P:Program)(md:Region.Mode)(ops:Array Oper)(Q:Exit→Act→World→Prop)(S:World→Prop)(tl:List Nat):Nat→Array Bool→Act→World→Prop
 | 0,listed,a,w=>Region.ready md ops listed=[]∧Q .normal a w
 | fuel+1,listed,a,w=>(Region.ready md ops listed=[]→Q .normal a w)∧∀ i∈Region.ready md ops listed,wpOp P ops Q i (fun a' w'=>(S w→i ∉ tl→S w')∧kk3 P md ops Q S tl fuel (listed.setIfInBounds i true) a' w') a w
theorem qxr:∀ (fuel:Nat) (listed:Array Bool) (a:Act) (w:World),kk3 P md ops Q S tl fuel listed a w→wpAny P md ops Q fuel listed a w
 | 0,_,_,_,h=>h
 | fuel+1,_,_,_,h=>⟨h.1,fun i hi=>wpOp_mono (fun a' w' h'=>qxr fuel _ a' w' h'.2) (h.2 i hi)⟩
def zzd (md:Region.Mode)(ops:Array Oper)(listed:Array Bool)(i:Nat)(D:List Nat):Bool:=
 D.all fun d=>!(listed.getD d true)&&(match ops[d]? with|some o=>o.after.any (fun e=>Region.binds md e&&(e.on==i||D.contains e.on))|none=>true)
theorem qv4 {listed:Array Bool}{j:Nat}(h:listed.getD j true=false):¬listed.getD j false=true:=by
 intro h1;rcases Jh j listed.size with h'|h'
 ·simp[h'] at h h1;rw[h] at h1;cases h1
 ·simp[fG h'] at h1
theorem vz7 {listed:Array Bool}{i j:Nat}{D:List Nat}(hc:zzd md ops listed i D=true)(hi:listed.getD i true=false)(hj:j∈Region.ready md ops listed):j ∉ D:=by
 intro hm;have h:=nX.1 hc j hm;rw[wY] at h;obtain ⟨h1,o,ho,hall⟩:=mem_ready.1 hj;rw[ho] at h;obtain ⟨e,he,hb⟩:=Array.any_eq_true'.mp h.2;rw[wY,lg,wP,List.contains_iff_mem] at hb;have hw:=hall e he hb.1;rcases hb.2 with e1|e1
 ·rw[e1] at hw;exact qv4 hi hw
 ·have h2:=nX.1 hc _ e1;rw[wY] at h2;exact qv4 (by simpa using h2.1) hw
theorem vz6 {listed:Array Bool}{i j:Nat}{D:List Nat}(hc:zzd md ops listed i D=true)(hj:j ∉ D):zzd md ops (listed.setIfInBounds j true) i D=true:=by
 refine nX.2 fun d hd=>?_
 have h:=nX.1 hc d hd;have hne:j≠d:=fun e=>hj (e ▸ hd)
 rw[getD_set_ne true hne];exact h
theorem zvq {i:Nat}{oi:Oper}{v:Value}(D:List Nat)(hi:ops[i]?=some oi)(hsel:∀ (j:Nat) (o:Oper) cs b,ops[j]?=some o→o.op≠.select cs b)
  (hQ:∀ c a w,Q (.panic c) (a.put oi.dst v) w→Q (.panic c) a w) (hsub:∀ t∈tl,t∈D) :
  ∀ (fuel:Nat) (listed:Array Bool) (a:Act) (w:World),
   (∀ j oj,ops[j]?=some oj→j≠i→listed.getD j true=false→(∀ e∈oj.after,Region.binds md e=true→e.on≠i)→oi.apart ops oj=true) →
   zzd md ops listed i D=true→i∈Region.ready md ops listed→YieldsIf P ops S oi v a→S w →
   kk3 P md ops Q S tl fuel (listed.setIfInBounds i true) (a.put oi.dst v) w→kk3 P md ops Q S tl (fuel+1) listed a w:=by
 intro fuel;induction fuel with
 | zero=>
  intro listed a w _ hc hr hy hS H;refine ⟨fun h=>(by rw[h] at hr;cases hr),fun j hj=>?_⟩;by_cases hji:j=i
  ·subst hji;exact hy.wpOp hi hS ⟨fun _ _=>hS,H⟩
  ·have:=ready_mono hj hji;rw[H.1] at this;cases this
 | succ fuel ih=>
  intro listed a w hfree hc hr hy hS H;refine ⟨fun h=>(by rw[h] at hr;cases hr),fun j hj=>?_⟩;by_cases hji:j=i
  ·subst hji;exact hy.wpOp hi hS ⟨fun _ _=>hS,H⟩
  ·have h1:=H.2 j (ready_mono hj hji);have hun:=(mem_ready.1 hr).1;have hjD:=vz7 hc hun hj;obtain ⟨hjun,oj,hoj,hall⟩:=mem_ready.1 hj;have hnot:∀ e∈oj.after,Region.binds md e=true→e.on≠i:=fun e he hb heq=>by
    have h1:=hall e he hb;rw[heq] at h1;exact qv4 hun h1
   have h2:=wpOp_putIf hoj (hfree j oj hoj hji hjun hnot) (fun cs b=>hsel i oi cs b hi) (fun cs b=>hsel j oj cs b hoj) hQ hy h1;have hfree':∀ k ok,ops[k]?=some ok→k≠i→(listed.setIfInBounds j true).getD k true=false →
     (∀ e∈ok.after,Region.binds md e=true→e.on≠i)→oi.apart ops ok=true:=fun k ok hk hki hun hno=>by
    refine hfree k ok hk hki ?_ hno;by_cases hjk:j=k
    ·subst hjk;exact hjun
    ·rw[getD_set_ne true hjk] at hun;exact hun
   refine wpOp_mono (fun a' w' h3=>?_) h2;have hS':S w':=h3.2.1 hS fun ht=>hjD (hsub j ht)
   refine ⟨fun _ _=>hS',ih (listed.setIfInBounds j true) a' w' hfree' (vz6 hc hjD) (ready_mono hr (Ne.symm hji)) h3.1 hS' ?_⟩;rw[JW _ _ hji];exact h3.2.2
theorem zl {i:Nat}{oi:Oper}{v:Value}{fuel:Nat}{listed:Array Bool}{a:Act}{w:World}(D:List Nat)(hi:ops[i]?=some oi)
  (hs:Region.noSelect ops=true) (hf:Region.free md ops listed i=true) (hr:(Region.ready md ops listed).contains i=true) (hc:zzd md ops listed i D=true) (hsub:∀ t∈tl,t∈D)
  (hQ:∀ c a w,Q (.panic c) (a.put oi.dst v) w→Q (.panic c) a w) (hy:YieldsIf P ops S oi v a) (hS:S w)
  (h:kk3 P md ops Q S tl fuel (listed.setIfInBounds i true) (a.put oi.dst v) w):kk3 P md ops Q S tl (fuel+1) listed a w:=
 zvq D hi (Region.noSelect_spec hs) hQ hsub fuel listed a w (Region.free_spec hi hf) hc (by simpa using hr) hy hS h
theorem zv9 {i:Nat}{oi:Oper}{v:Value}(hi:ops[i]?=some oi)(hsel:∀ (j:Nat) (o:Oper) cs b,ops[j]?=some o→o.op≠.select cs b)
  (hQ:∀ c a w,Q (.panic c) (a.put oi.dst v) w→Q (.panic c) a w) :
  ∀ (fuel:Nat) (listed:Array Bool) (a:Act) (w:World),
   (∀ j oj,ops[j]?=some oj→j≠i→listed.getD j true=false→(∀ e∈oj.after,Region.binds md e=true→e.on≠i)→oi.apart ops oj=true) →
   i∈Region.ready md ops listed→YieldsIf P ops (fun _=>True) oi v a →
   kk3 P md ops Q S tl fuel (listed.setIfInBounds i true) (a.put oi.dst v) w→kk3 P md ops Q S tl (fuel+1) listed a w:=by
 intro fuel;induction fuel with
 | zero=>
  intro listed a w _ hr hy H;refine ⟨fun h=>(by rw[h] at hr;cases hr),fun j hj=>?_⟩;by_cases hji:j=i
  ·subst hji;exact hy.wpOp hi trivial ⟨fun h _=>h,H⟩
  ·have:=ready_mono hj hji;rw[H.1] at this;cases this
 | succ fuel ih=>
  intro listed a w hfree hr hy H;refine ⟨fun h=>(by rw[h] at hr;cases hr),fun j hj=>?_⟩;by_cases hji:j=i
  ·subst hji;exact hy.wpOp hi trivial ⟨fun h _=>h,H⟩
  ·have h1:=H.2 j (ready_mono hj hji);have hun:=(mem_ready.1 hr).1;obtain ⟨hjun,oj,hoj,hall⟩:=mem_ready.1 hj;have hnot:∀ e∈oj.after,Region.binds md e=true→e.on≠i:=fun e he hb heq=>by
    have h1:=hall e he hb;rw[heq] at h1;exact qv4 hun h1
   have h2:=wpOp_putIf hoj (hfree j oj hoj hji hjun hnot) (fun cs b=>hsel i oi cs b hi) (fun cs b=>hsel j oj cs b hoj) hQ hy h1;have hfree':∀ k ok,ops[k]?=some ok→k≠i→(listed.setIfInBounds j true).getD k true=false →
     (∀ e∈ok.after,Region.binds md e=true→e.on≠i)→oi.apart ops ok=true:=fun k ok hk hki hun hno=>by
    refine hfree k ok hk hki ?_ hno;by_cases hjk:j=k
    ·subst hjk;exact hjun
    ·rw[getD_set_ne true hjk] at hun;exact hun
   refine wpOp_mono (fun a' w' h3=>?_) h2;refine ⟨h3.2.1,ih (listed.setIfInBounds j true) a' w' hfree' (ready_mono hr (Ne.symm hji)) h3.1 ?_⟩;rw[JW _ _ hji];exact h3.2.2
theorem qm {i:Nat}{oi:Oper}{v:Value}{fuel:Nat}{listed:Array Bool}{a:Act}{w:World}(hi:ops[i]?=some oi)
  (hs:Region.noSelect ops=true) (hf:Region.free md ops listed i=true) (hr:(Region.ready md ops listed).contains i=true)
  (hQ:∀ c a w,Q (.panic c) (a.put oi.dst v) w→Q (.panic c) a w) (hy:YieldsIf P ops (fun _=>True) oi v a)
  (h:kk3 P md ops Q S tl fuel (listed.setIfInBounds i true) (a.put oi.dst v) w):kk3 P md ops Q S tl (fuel+1) listed a w:=
 zv9 hi (Region.noSelect_spec hs) hQ fuel listed a w (Region.free_spec hi hf) (by simpa using hr) hy h
def ug (P:Program)(md:Region.Mode)(ops:Array Oper)(Q:Exit→Act→World→Prop)(S:World→Prop)(tl:List Nat)(fuel:Nat)(listed:Array Bool)(a:Act)(w:World)(rs:List Nat):Prop:=
 ∀ i∈rs,wpOp P ops Q i (fun a' w'=>(S w→i ∉ tl→S w')∧kk3 P md ops Q S tl fuel (listed.setIfInBounds i true) a' w') a w
theorem ug.nil {fuel:Nat}{listed:Array Bool}{a:Act}{w:World}:ug P md ops Q S tl fuel listed a w []:=fun _ h=>by cases h
theorem ug.cons {fuel:Nat}{listed:Array Bool}{a:Act}{w:World}{i:Nat}{o:Oper}{rs:List Nat}(ho:ops[i]?=some o)
  (h:∀ K':Act→World→Prop,(∀ a w,S w→kk3 P md ops Q S tl fuel (listed.setIfInBounds i true) a w→K' a w)→if Region.wanted o (yielded ops a.tmps)=true then Oper.wp P o a w K' Q else K' (a.put o.dst undef) w)
  (hs:ug P md ops Q S tl fuel listed a w rs):ug P md ops Q S tl fuel listed a w (i::rs):=fun j hj=>by
 rcases tK.1 hj with rfl|hj
 ·exact wpOp_step ho (fun K' hK=>h K' (fun a w hS hW=>hK a w ⟨fun _ _=>hS,hW⟩))
 ·exact hs j hj
theorem kjj {rs:List Nat}{fuel:Nat}{listed:Array Bool}{a:Act}{w:World}(hr:Region.ready md ops listed=rs)(hne:rs≠[])
  (h:ug P md ops Q S tl fuel listed a w rs):kk3 P md ops Q S tl (fuel+1) listed a w:=⟨fun h0=>absurd (hr ▸ h0) hne,hr ▸ h⟩
theorem kz4:∀ (fuel:Nat) (listed:Array Bool) (a:Act) (w:World),(∀ j,listed.getD j true=false→j∈tl)→wpAny P md ops Q fuel listed a w→kk3 P md ops Q S tl fuel listed a w
 | 0,_,_,_,_,h=>h
 | fuel+1,listed,a,w,hl,h=>⟨h.1,fun i hi=>wpOp_mono (fun a' w' h'=>⟨fun _ hn=>absurd (hl i (mem_ready.1 hi).1) hn,kz4 fuel _ a' w' (fun j hj=>hl j (by
   by_cases hij:i=j
   ·subst hij;exact (mem_ready.1 hi).1
   ·rw[getD_set_ne true hij] at hj;exact hj)) h'⟩) (h.2 i hi)⟩
theorem kvb {listed:Array Bool}(h:((List.range listed.size).all fun j=>listed.getD j true||tl.contains j)=true):∀ j,listed.getD j true=false→j∈tl:=fun j hj=>by
 rcases Jh j listed.size with h'|h'
 ·have:=nX.1 h j (List.mem_range.2 h');rw[hj] at this;simpa using this
 ·simp[fG h'] at hj
theorem kqi {id:Nat}{a:Act}{w:World}(hm:P.follows .mixedOrders=true)
  (h:kk3 P .any ops Q S tl ops.size (Array.replicate ops.size false) a w.drew):(Code.region id ops true).wp P Q a w:=
 wp_region_any hm (qxr _ _ _ _ h)
end
end Go.Proofs.YtpmcnonmkghokaaGreatDoor
namespace Go.Proofs.YtpmcnonmkghokaaGreatDoor
open Go.RowKit
attribute [local go_sem ↓] Go.wp_at_zero Go.wp_at_succ
theorem Tryz.infoMv:(Tryz.prog.info? 213).map (fun i=>(i.zero,i.size,i.bytes))=some (some (.agg #[.int .i64 0,.int .i64 0,.slice none 0 0,.int .i64 0,.int .i64 0]),5,56):=by kernel_rfl
def AvS (M H size:Nat)(vv:Value)(a0 a1 a2 a3 a4:Option Addr)(n0 n1 n2 n3 n4 c0 c1 c2 c3 c4:Nat)(v:VrT)(w:World):Prop:=
 w.cell? ⟨M,3,none⟩=some (vv)∧w.cell? ⟨M,5,none⟩=some (.int .i64 size)∧w.cell? ⟨H,0,none⟩=some (.slice a0 n0 c0)∧w.cell? ⟨H,1,none⟩=some (.slice a1 n1 c1)∧w.cell? ⟨H,2,none⟩=some (.slice a2 n2 c2)∧w.cell? ⟨H,3,none⟩=some (.slice a3 n3 c3)∧w.cell? ⟨H,4,none⟩=some (.slice a4 n4 c4)∧w.cell? ⟨H+1,3,none⟩=some (.string v.over.text)∧w.cell? ⟨H+1,4,none⟩=some (.int .i64 v.over.at_)∧w.cell? ⟨H+1,5,none⟩=some (.int .i64 v.si.form)∧w.cell? ⟨H+1,6,none⟩=some (.int .i64 (gu v.si.top.text))∧w.cell? ⟨H+1,7,none⟩=some (.int .i64 v.si.top.at_)∧w.cell? ⟨H+1,8,none⟩=some (.string v.si.name.text)∧w.cell? ⟨H+1,9,none⟩=some (.int .i64 v.si.name.at_)
theorem AvS.below {M H size:Nat}{vv:Value}{a0 a1 a2 a3 a4:Option Addr}{n0 n1 n2 n3 n4 c0 c1 c2 c3 c4:Nat}{v:VrT}{B:Nat}{w w':World}(h:AvS M H size vv a0 a1 a2 a3 a4 n0 n1 n2 n3 n4 c0 c1 c2 c3 c4 v w)(hb:Below B w w')(hM:M<B)(hH:H+1<B):AvS M H size vv a0 a1 a2 a3 a4 n0 n1 n2 n3 n4 c0 c1 c2 c3 c4 v w':=by
 obtain ⟨s0,s1,s2,s3,s4,s5,s6,s7,s8,s9,s10,s11,s12,s13⟩:=h;exact ⟨(hb.cell (p:=⟨M,3,none⟩) (by simp;omega)).trans s0,(hb.cell (p:=⟨M,5,none⟩) (by simp;omega)).trans s1,(hb.cell (p:=⟨H,0,none⟩) (by simp;omega)).trans s2,(hb.cell (p:=⟨H,1,none⟩) (by simp;omega)).trans s3,(hb.cell (p:=⟨H,2,none⟩) (by simp;omega)).trans s4,(hb.cell (p:=⟨H,3,none⟩) (by simp;omega)).trans s5,(hb.cell (p:=⟨H,4,none⟩) (by simp;omega)).trans s6,(hb.cell (p:=⟨H+1,3,none⟩) (by simp;omega)).trans s7,(hb.cell (p:=⟨H+1,4,none⟩) (by simp;omega)).trans s8,(hb.cell (p:=⟨H+1,5,none⟩) (by simp;omega)).trans s9,(hb.cell (p:=⟨H+1,6,none⟩) (by simp;omega)).trans s10,(hb.cell (p:=⟨H+1,7,none⟩) (by simp;omega)).trans s11,(hb.cell (p:=⟨H+1,8,none⟩) (by simp;omega)).trans s12,(hb.cell (p:=⟨H+1,9,none⟩) (by simp;omega)).trans s13⟩
theorem vy6 {lo so:Nat}{w:World}{M nb:Nat}{steps:List MStep}{nevers:List MNever}{sets:List Int}{vars:List MVar}{tab:uq}{size:Nat}{sv nv tv vv:Value}(h:kjm lo so w M nb steps nevers sets vars tab size sv nv tv vv):M<w.heap.size:=wX h.row
theorem jv7 {lo so:Nat}{w:World}{M nb:Nat}{steps:List MStep}{nevers:List MNever}{sets:List Int}{vars:List MVar}{tab:uq}{size:Nat}{sv nv tv vv:Value}(h:kjm lo so w M nb steps nevers sets vars tab size sv nv tv vv){w3 w4:World}{o:Obj}(hb:Below w.heap.size w w3)(hg:(w3.alloc o).grownBy w4 vv.ownBlock):w4.heap[M]?=some (.cells #[sv,nv,tv,vv,.map (some nb),.int .i64 size] 105 (0,0)):=by
 have h3:(w3.alloc o).heap[M]?=some (.cells #[sv,nv,tv,vv,.map (some nb),.int .i64 size] 105 (0,0)):=qp ((hb.block M (wX h.row)).trans h.row);obtain ⟨cs,ho,_⟩:=h.vars;exact (kj7 (x:=none) (bad:=[213]) (qj ho (hb.alloc hb.size o)) hg (by decide)).row h3 (by simp) (by decide)
theorem vw1 {lo so:Nat}{w:World}{M nb:Nat}{steps:List MStep}{nevers:List MNever}{sets:List Int}{vars:List MVar}{tab:uq}{size:Nat}{sv nv tv vv:Value}(h:kjm lo so w M nb steps nevers sets vars tab size sv nv tv vv)(u:MVar){cnt:Nat}(hfst:u.first=size)(hcnt:u.count=cnt){cs:List Value}(hva:w.ownsRow lo 213 5 vv vars.length cs)(hmv:qj2 0 w vars cs){w3 w4:World}(hb:Below w.heap.size w w3){ta:Option Addr}{tc:Nat}(hT:w3.ownsRow 0 9 1 (.slice ta u.texts.length tc) u.texts.length (u.texts.map Value.string))
  (hg:(w3.alloc (.cells #[.int .i64 size,.int .i64 cnt,.slice ta u.texts.length tc,.int .i64 u.over,.int .i64 u.of_] 213)).grownBy w4 vv.ownBlock) {gg gcap:Nat} (hown:w4.ownsRow lo 213 5 (.slice (some ⟨gg,0,none⟩) (vars.length+1) gcap) (vars.length+1) (cs++[.int .i64 size,.int .i64 cnt,.slice ta u.texts.length tc,.int .i64 u.over,.int .i64 u.of_])) (hlo:lo≤w.heap.size) :
  (∃ vv',kjm lo so ((w4.setCell ⟨M,3,none⟩ (.slice (some ⟨gg,0,none⟩) (vars.length+1) gcap)).setCell ⟨M,5,none⟩ (.int .i64 ((size:Int)+cnt))) M nb steps nevers sets (vars++[u]) tab (size+u.count) sv nv tv vv')∧Tk none [105,213] w ((w4.setCell ⟨M,3,none⟩ (.slice (some ⟨gg,0,none⟩) (vars.length+1) gcap)).setCell ⟨M,5,none⟩ (.int .i64 ((size:Int)+cnt)))∧Below lo w ((w4.setCell ⟨M,3,none⟩ (.slice (some ⟨gg,0,none⟩) (vars.length+1) gcap)).setCell ⟨M,5,none⟩ (.int .i64 ((size:Int)+cnt))):=by
 have hr4:=jv7 h hb hg;have hr5:=vkk hr4 (.slice (some ⟨gg,0,none⟩) (vars.length+1) gcap);have hr6:=vwh hr5 (.int .i64 ((size:Int)+cnt));have hb3:Below w.heap.size w (w3.alloc (.cells #[.int .i64 size,.int .i64 cnt,.slice ta u.texts.length tc,.int .i64 u.over,.int .i64 u.of_] 213)):=hb.alloc hb.size _;have hv3:=qj hva hb3;have k4:Tk none [105,213] (w3.alloc (.cells #[.int .i64 size,.int .i64 cnt,.slice ta u.texts.length tc,.int .i64 u.over,.int .i64 u.of_] 213)) w4:=kj7 hv3 hg (by decide);have k5:Tk none [105] w4 ((w4.setCell ⟨M,3,none⟩ (.slice (some ⟨gg,0,none⟩) (vars.length+1) gcap)).setCell ⟨M,5,none⟩ (.int .i64 ((size:Int)+cnt))):=(kkd hr4 (by decide) 3 _).trans (kkd hr5 (by decide) 5 _);have k35:=k4.trans (k5.wide (by decide:∀ e∈[105],e∈[105,213]));have K:=(mg hb3 none [105,213]).trans k35;have nr:=uy.none w;have hn3:=(hT.alloc (.cells #[.int .i64 size,.int .i64 cnt,.slice ta u.texts.length tc,.int .i64 u.over,.int .i64 u.of_] 213));obtain ⟨h0,⟨c1,h1,q1⟩,⟨c2,h2,q2⟩,h3,_,h5,h6,h7⟩:=h;refine ⟨⟨_,⟨by rw[hr6,hcnt];rfl,⟨c1,zk h1 K nr (by decide),q1.tk K nr (by decide) (by decide)⟩,⟨c2,zk h2 K nr (by decide),q2.tk K nr (by decide) (by decide)⟩,zk h3 K nr (by decide),⟨cs++[.int .i64 size,.int .i64 cnt,.slice ta u.texts.length tc,.int .i64 u.over,.int .i64 u.of_],?_,?_⟩,h5.tk K (by simp),h6,h7⟩⟩,K,?_⟩
 ·rw[wU];exact zk hown k5 (uy.none _) (by decide)
 ·refine (hmv.tk K nr (by decide)).app ⟨ta,tc,[],?_,zk hn3 k35 (uy.none _) (by decide),rfl⟩;rw[hfst,hcnt];rfl
 ·exact ((((hb3.mono hlo)).grown hg (rV hlo hb3.size) (yw hv3)).setCell (p:=⟨M,3,none⟩) h6 _).setCell (p:=⟨M,5,none⟩) h6 _
theorem jxr (w:World)(lo so mo M nb:Nat)(steps:List MStep)(nevers:List MNever)(sets:List Int)(vars:List MVar)(tab:uq)(size:Nat)(sv nv tv vv:Value)(a0 a1 a2 a3 a4:Option Addr)(n0 n1 n2 n3 n4 c0 c1 c2 c3 c4:Nat)(m:MdL)(v:VrT)(u:MVar)(h:kjm lo so w M nb steps nevers sets vars tab size sv nv tv vv)(hm:kky mo w (.slice a0 n0 c0) (.slice a1 n1 c1) (.slice a2 n2 c2) (.slice a3 n3 c3) (.slice a4 n4 c4) m)(hf:MdFit m)(hu:jxn m.sets m.kinds size v=some u)(hvl:vars.length≤1000)(hsz:size≤1000000)(hlo:lo≤w.heap.size) :
  Calls Tryz.prog 57 #[.pointer (some ⟨M,0,none⟩),mdV a0 a1 a2 a3 a4 n0 n1 n2 n3 n4 c0 c1 c2 c3 c4,vrV v] w fun e w'=>e=.returned (.tuple #[])∧(∃ vv',kjm lo so w' M nb steps nevers sets (vars++[u]) tab (size+u.count) sv nv tv vv')∧Tk none [105,213] w w'∧Below lo w w':=by
 obtain ⟨W,hW⟩:∃ W,W=(w.alloc (.cells #[.slice a0 n0 c0,.slice a1 n1 c1,.slice a2 n2 c2,.slice a3 n3 c3,.slice a4 n4 c4] 68)).alloc (.cells #[.string v.name.text,.int .i64 v.name.at_,.bool v.arr,.string v.over.text,.int .i64 v.over.at_,.int .i64 v.si.form,.int .i64 (gu v.si.top.text),.int .i64 v.si.top.at_,.string v.si.name.text,.int .i64 v.si.name.at_] 121):=⟨_,rfl⟩;have hbW:Below w.heap.size w W:=by rw[hW];exact (below_alloc1 w _).trans ((below_alloc1 _ _).mono (by simp))
 have hsW:w.heap.size≤W.heap.size:=hbW.size;have hsW2:w.heap.size+1<W.heap.size:=by rw[hW];simp
 have hD:W.heap[w.heap.size]?=some (.cells #[.slice a0 n0 c0,.slice a1 n1 c1,.slice a2 n2 c2,.slice a3 n3 c3,.slice a4 n4 c4] 68 (0,0)):=by rw[hW];exact qp (qy _ _)
 have hN:W.heap[w.heap.size+1]?=some (.cells #[.string v.name.text,.int .i64 v.name.at_,.bool v.arr,.string v.over.text,.int .i64 v.over.at_,.int .i64 v.si.form,.int .i64 (gu v.si.top.text),.int .i64 v.si.top.at_,.string v.si.name.text,.int .i64 v.si.name.at_] 121 (0,0)):=by
  rw[hW];have:=qy (w.alloc (.cells #[.slice a0 n0 c0,.slice a1 n1 c1,.slice a2 n2 c2,.slice a3 n3 c3,.slice a4 n4 c4] 68)) (.cells #[.string v.name.text,.int .i64 v.name.at_,.bool v.arr,.string v.over.text,.int .i64 v.over.at_,.int .i64 v.si.form,.int .i64 (gu v.si.top.text),.int .i64 v.si.top.at_,.string v.si.name.text,.int .i64 v.si.name.at_] 121);simp only[tJ] at this;exact this
 have hMl:=vy6 h;have hM:=(hbW.block M hMl).trans h.row;obtain ⟨m0,m1,m2,m3,m4,m5,f0,f1,f2,f3,f4,f5⟩:=kvt hM;obtain ⟨q0,q1,q2,q3,q4,_⟩:=zo hD;obtain ⟨⟨v0,v1,v2,v3,v4,v5,v6,v7,v8,v9⟩,_⟩:=kk5 hN;have HSW:=hide (show AvS M w.heap.size size vv a0 a1 a2 a3 a4 n0 n1 n2 n3 n4 c0 c1 c2 c3 c4 v W from ⟨m3,m5,q0,q1,q2,q3,q4,v3,v4,v5,v6,v7,v8,v9⟩);obtain ⟨cs,hva,hmv⟩:=h.vars;obtain ⟨va,vc,e,_⟩:=zq hva;unfold jxn at hu;obtain ⟨cnt,hcn,hu2⟩:=wQ.mp hu;obtain ⟨tx,htx,hu3⟩:=rQ.mp hu2;have hfst:u.first=size:=by rw[←hu3]
 have hcnt:u.count=cnt:=by rw[←hu3]
 have htex:u.texts=tx:=by rw[←hu3]
 have hov:u.over=qqj m.sets v.over.text.toList:=by rw[←hu3]
 have hof:u.of_=qqj m.sets v.si.name.text.toList:=by rw[←hu3]
 rw[←htex] at htx;have HVT:=hide (fun (wx:World) (hb:Below w.heap.size w wx)=>zqr wx mo v.si a0 a1 a2 a3 a4 n0 n1 n2 n3 n4 c0 c1 c2 c3 c4 m (hm.stay fun k _ hk=>hb.block k hk) hf u.texts htx);have HSO:=hide (fun (wx:World) (hb:Below w.heap.size w wx)=>kyf wx mo m.sets v.over a0 a1 a2 a3 a4 n0 n1 n2 n3 n4 c0 c1 c2 c3 c4 (qj hm.o0 hb) hf.sets);have HSM:=hide (fun (wx:World) (hb:Below w.heap.size w wx)=>kyf wx mo m.sets v.si.name a0 a1 a2 a3 a4 n0 n1 n2 n3 n4 c0 c1 c2 c3 c4 (qj hm.o0 hb) hf.sets);have HSZ:=hide (fun (ha:v.arr=true)=>(show ∃ k x,qz5 m.sets v.over.text.toList=some k∧m.sets[k]?=some x∧gu x.size.text=cnt∧cnt≤9 from by rw[ha,if_pos rfl] at hcn;exact qx3 hcn));have hc9:cnt≤9:=by
  cases ha:v.arr
  ·rw[ha] at hcn;injection hcn with hcn;omega
  ·obtain ⟨_,_,_,_,_,h9⟩:=(ku HSZ) ha;exact h9
 have hc1:v.arr=false→cnt=1:=fun ha=>by rw[ha] at hcn;injection hcn with hcn;exact hcn.symm
 have HSS:=hide (fun (wx:World) (hb:Below w.heap.size w wx) (k:Nat) (x:PSet) (h1:qz5 m.sets v.over.text.toList=some k) (h2:m.sets[k]?=some x)=>qz3 wx mo m.sets v.over a0 a1 a2 a3 a4 n0 n1 n2 n3 n4 c0 c1 c2 c3 c4 (qj hm.o0 hb) hf.sets k h1 x h2);rw[←hov] at HSO;rw[←hof] at HSM;unfold mdV siV at HVT;unfold ptV at HSO HSM HSS;have hwrap:IntKind.i64.wrap ((size:Int)+cnt)=(size:Int)+cnt:=by rw[nK];omega
 obtain ⟨i0,hi,hz0,hz1,hz2⟩:=info_parts Tryz.infoMv;have HMC:=hide h;have HVA:=hide hva;have HMV:=hide hmv;have HBW:=hide hbW;have HWE:=hide hW.symm;have HC1:=hide hc1;have HC9:=hide hc9;clear hu hu2 hu3 hcn htx htex hov hof hM m0 m1 m2 m3 m4 m5 f0 f1 f2 f3 f4 f5 hmv hbW hW hN hD h hm hf q0 q1 q2 q3 q4 v0 v1 v3 v4 v5 v6 v7 v8 v9 hc1 hva;subst e;unfold mdV vrV kqx;generalize harr:v.arr=arr at *;cases arr;case' false=>
  have hcn1:=hide ((ku HC1) rfl);clear HSS HSZ;have hbr:Below W.heap.size W W:=Below.refl _ _;go_enter Tryz.func57,Tryz.ntmps57
  go_upto_region 4 with fail
  rw[ku HWE,show (Value.int IntKind.i64 1)=.int .i64 (cnt:Int) by rw[ku hcn1];rfl];have HS0:=hide (show AvS M w.heap.size size (.slice va vars.length vc) a0 a1 a2 a3 a4 n0 n1 n2 n3 n4 c0 c1 c2 c3 c4 v W.drew from (ku HSW).below hbr.drew (by omega) (by omega));have HB0:=hide (show Below w.heap.size w W.drew from ((ku HBW).trans (hbr.mono hsW)).drew);have hy0:=hbr.size;clear hbr;refine kqi (S:=AvS M w.heap.size size (.slice va vars.length vc) a0 a1 a2 a3 a4 n0 n1 n2 n3 n4 c0 c1 c2 c3 c4 v) (tl:=[25,26,27,28]) (by kernel_rfl) ?_;refine qm (i:=0) (v:=.pointer (some ⟨M,0,none⟩)) rfl (by kernel_rfl) (by kernel_rfl) (by kernel_rfl) (fun _ _ _ h=>h) (Or.inl ⟨by rfl,fun _ _=>by go_simp⟩) ?_;try simp only[Act.put,wu,wZ,wJ]
  refine qm (i:=1) (v:=.pointer (some ⟨M,0,none⟩)) rfl (by kernel_rfl) (by kernel_rfl) (by kernel_rfl) (fun _ _ _ h=>h) (Or.inl ⟨by rfl,fun _ _=>by go_simp⟩) ?_;try simp only[Act.put,wu,wZ,wJ]
  refine qm (i:=2) (v:=.pointer (some ⟨M,0,none⟩)) rfl (by kernel_rfl) (by kernel_rfl) (by kernel_rfl) (fun _ _ _ h=>h) (Or.inl ⟨by rfl,fun _ _=>by go_simp⟩) ?_;try simp only[Act.put,wu,wZ,wJ]
  refine qm (i:=3) (v:=.pointer (some ⟨M,3,none⟩)) rfl (by kernel_rfl) (by kernel_rfl) (by kernel_rfl) (fun _ _ _ h=>h) (Or.inl ⟨by rfl,fun _ _=>by go_simp⟩) ?_;try simp only[Act.put,wu,wZ,wJ]
  refine zl (i:=4) (v:=.slice va vars.length vc) [25,26,27,28] rfl (by kernel_rfl) (by kernel_rfl) (by kernel_rfl) (by kernel_rfl) (by decide) (fun _ _ _ h=>h) (Or.inl ⟨by rfl,fun wq hSw=>by (obtain ⟨s0,s1,s2,s3,s4,s5,s6,s7,s8,s9,s10,s11,s12,s13⟩:=hSw;go_simp)⟩) (ku HS0) ?_;try simp only[Act.put,wu,wZ,wJ]
  refine qm (i:=5) (v:=.pointer (some ⟨M,0,none⟩)) rfl (by kernel_rfl) (by kernel_rfl) (by kernel_rfl) (fun _ _ _ h=>h) (Or.inl ⟨by rfl,fun _ _=>by go_simp⟩) ?_;try simp only[Act.put,wu,wZ,wJ]
  refine qm (i:=6) (v:=.pointer (some ⟨M,0,none⟩)) rfl (by kernel_rfl) (by kernel_rfl) (by kernel_rfl) (fun _ _ _ h=>h) (Or.inl ⟨by rfl,fun _ _=>by go_simp⟩) ?_;try simp only[Act.put,wu,wZ,wJ]
  refine qm (i:=7) (v:=.pointer (some ⟨M,5,none⟩)) rfl (by kernel_rfl) (by kernel_rfl) (by kernel_rfl) (fun _ _ _ h=>h) (Or.inl ⟨by rfl,fun _ _=>by go_simp⟩) ?_;try simp only[Act.put,wu,wZ,wJ]
  refine zl (i:=8) (v:=.int .i64 size) [23,24,25,26,27,28] rfl (by kernel_rfl) (by kernel_rfl) (by kernel_rfl) (by kernel_rfl) (by decide) (fun _ _ _ h=>h) (Or.inl ⟨by rfl,fun wq hSw=>by (obtain ⟨s0,s1,s2,s3,s4,s5,s6,s7,s8,s9,s10,s11,s12,s13⟩:=hSw;go_simp)⟩) (ku HS0) ?_;try simp only[Act.put,wu,wZ,wJ]
  refine qm (i:=9) (v:=.int .i64 cnt) rfl (by kernel_rfl) (by kernel_rfl) (by kernel_rfl) (fun _ _ _ h=>h) (Or.inl ⟨by rfl,fun _ _=>by go_simp⟩) ?_;try simp only[Act.put,wu,wZ,wJ]
  refine zl (i:=10) (v:=.agg #[.slice a0 n0 c0,.slice a1 n1 c1,.slice a2 n2 c2,.slice a3 n3 c3,.slice a4 n4 c4]) [13,23,24,25,26,27,28] rfl (by kernel_rfl) (by kernel_rfl) (by kernel_rfl) (by kernel_rfl) (by decide) (fun _ _ _ h=>h) (Or.inl ⟨by rfl,fun wq hSw=>by (obtain ⟨s0,s1,s2,s3,s4,s5,s6,s7,s8,s9,s10,s11,s12,s13⟩:=hSw;go_simp)⟩) (ku HS0) ?_;try simp only[Act.put,wu,wZ,wJ]
  refine qm (i:=11) (v:=.pointer (some ⟨w.heap.size+1,5,none⟩)) rfl (by kernel_rfl) (by kernel_rfl) (by kernel_rfl) (fun _ _ _ h=>h) (Or.inl ⟨by rfl,fun _ _=>by go_simp⟩) ?_;try simp only[Act.put,wu,wZ,wJ]
  refine zl (i:=12) (v:=.agg #[.int .i64 v.si.form,.int .i64 (gu v.si.top.text),.int .i64 v.si.top.at_,.string v.si.name.text,.int .i64 v.si.name.at_]) [13,23,24,25,26,27,28] rfl (by kernel_rfl) (by kernel_rfl) (by kernel_rfl) (by kernel_rfl) (by decide) (fun _ _ _ h=>h) (Or.inl ⟨by rfl,fun wq hSw=>by (obtain ⟨s0,s1,s2,s3,s4,s5,s6,s7,s8,s9,s10,s11,s12,s13⟩:=hSw;go_simp)⟩) (ku HS0) ?_;try simp only[Act.put,wu,wZ,wJ]
  refine zl (i:=14) (v:=.agg #[.slice a0 n0 c0,.slice a1 n1 c1,.slice a2 n2 c2,.slice a3 n3 c3,.slice a4 n4 c4]) [17,23,24,25,26,27,28] rfl (by kernel_rfl) (by kernel_rfl) (by kernel_rfl) (by kernel_rfl) (by decide) (fun _ _ _ h=>h) (Or.inl ⟨by rfl,fun wq hSw=>by (obtain ⟨s0,s1,s2,s3,s4,s5,s6,s7,s8,s9,s10,s11,s12,s13⟩:=hSw;go_simp)⟩) (ku HS0) ?_;try simp only[Act.put,wu,wZ,wJ]
  refine qm (i:=15) (v:=.pointer (some ⟨w.heap.size+1,3,none⟩)) rfl (by kernel_rfl) (by kernel_rfl) (by kernel_rfl) (fun _ _ _ h=>h) (Or.inl ⟨by rfl,fun _ _=>by go_simp⟩) ?_;try simp only[Act.put,wu,wZ,wJ]
  refine zl (i:=16) (v:=.agg #[.string v.over.text,.int .i64 v.over.at_]) [17,23,24,25,26,27,28] rfl (by kernel_rfl) (by kernel_rfl) (by kernel_rfl) (by kernel_rfl) (by decide) (fun _ _ _ h=>h) (Or.inl ⟨by rfl,fun wq hSw=>by (obtain ⟨s0,s1,s2,s3,s4,s5,s6,s7,s8,s9,s10,s11,s12,s13⟩:=hSw;go_simp)⟩) (ku HS0) ?_;try simp only[Act.put,wu,wZ,wJ]
  refine zl (i:=18) (v:=.agg #[.slice a0 n0 c0,.slice a1 n1 c1,.slice a2 n2 c2,.slice a3 n3 c3,.slice a4 n4 c4]) [22,23,24,25,26,27,28] rfl (by kernel_rfl) (by kernel_rfl) (by kernel_rfl) (by kernel_rfl) (by decide) (fun _ _ _ h=>h) (Or.inl ⟨by rfl,fun wq hSw=>by (obtain ⟨s0,s1,s2,s3,s4,s5,s6,s7,s8,s9,s10,s11,s12,s13⟩:=hSw;go_simp)⟩) (ku HS0) ?_;try simp only[Act.put,wu,wZ,wJ]
  refine qm (i:=19) (v:=.pointer (some ⟨w.heap.size+1,5,none⟩)) rfl (by kernel_rfl) (by kernel_rfl) (by kernel_rfl) (fun _ _ _ h=>h) (Or.inl ⟨by rfl,fun _ _=>by go_simp⟩) ?_;try simp only[Act.put,wu,wZ,wJ]
  refine qm (i:=20) (v:=.pointer (some ⟨w.heap.size+1,8,none⟩)) rfl (by kernel_rfl) (by kernel_rfl) (by kernel_rfl) (fun _ _ _ h=>h) (Or.inl ⟨by rfl,fun _ _=>by go_simp⟩) ?_;try simp only[Act.put,wu,wZ,wJ]
  refine zl (i:=21) (v:=.agg #[.string v.si.name.text,.int .i64 v.si.name.at_]) [22,23,24,25,26,27,28] rfl (by kernel_rfl) (by kernel_rfl) (by kernel_rfl) (by kernel_rfl) (by decide) (fun _ _ _ h=>h) (Or.inl ⟨by rfl,fun wq hSw=>by (obtain ⟨s0,s1,s2,s3,s4,s5,s6,s7,s8,s9,s10,s11,s12,s13⟩:=hSw;go_simp)⟩) (ku HS0) ?_;try simp only[Act.put,wu,wZ,wJ]
  refine kjj (rs:=[13]) (by kernel_rfl) (by simp) ?_;refine ug.cons rfl (fun K hK=>?_) ug.nil;go_simp
  go_at_call 98
  refine ((ku HVT) W.drew (ku HB0)).mono ?_;rintro e x1 ⟨tvv,rfl,ho1,hb1⟩;obtain ⟨ta,tc,e,_⟩:=zq ho1;subst e;have HT1:=hide (zu (tu _) ho1);clear ho1;have hy1:W.heap.size≤x1.heap.size:=hb1.size;have HS1:=hide ((ku HS0).below hb1 (show M<W.heap.size by omega) (show w.heap.size+1<W.heap.size by omega));have HB1:=hide ((ku HB0).trans (hb1.mono (ku HB0).size));clear hb1;dsimp only;refine hK _ _ (ku HS1) ?_;clear hK K;try simp only[Act.put,wu,wZ,wJ]
  refine kjj (rs:=[17]) (by kernel_rfl) (by simp) ?_;refine ug.cons rfl (fun K hK=>?_) ug.nil;go_simp
  go_at_call 99
  refine ((ku HSO) x1 (ku HB1)).mono ?_;rintro e x2 ⟨rfl,hb2⟩;have HT2:=hide (qj (ku HT1) hb2);have hy2:x1.heap.size≤x2.heap.size:=hb2.size;have HS2:=hide ((ku HS1).below hb2 (show M<x1.heap.size by omega) (show w.heap.size+1<x1.heap.size by omega));have HB2:=hide ((ku HB1).trans (hb2.mono (ku HB1).size));clear hb2;dsimp only;refine hK _ _ (ku HS2) ?_;clear hK K;try simp only[Act.put,wu,wZ,wJ]
  refine kjj (rs:=[22]) (by kernel_rfl) (by simp) ?_;refine ug.cons rfl (fun K hK=>?_) ug.nil;go_simp
  go_at_call 99
  refine ((ku HSM) x2 (ku HB2)).mono ?_;rintro e x3 ⟨rfl,hb3⟩;have HT3:=hide (qj (ku HT2) hb3);have hy3:x2.heap.size≤x3.heap.size:=hb3.size;have HS3:=hide ((ku HS2).below hb3 (show M<x2.heap.size by omega) (show w.heap.size+1<x2.heap.size by omega));have HB3:=hide ((ku HB2).trans (hb3.mono (ku HB2).size));clear hb3;dsimp only;refine hK _ _ (ku HS3) ?_;clear hK K;try simp only[Act.put,wu,wZ,wJ]
 case' true=>
  obtain ⟨sk,sx,e1,e2,e3,e4⟩:=(ku HSZ) rfl;have HSC:=hide ((ku HSS) W (ku HBW) sk sx e1 e2);rw[e3] at HSC;clear e1 e2 e3 HSS HSZ;go_enter Tryz.func57,Tryz.ntmps57
  go_wp2_with fail
  rw[ku HWE];refine (ku HSC).mono ?_;rintro e wr ⟨rfl,hbr⟩;clear HSC;have HBR:=hide hbr;clear hbr;go_upto_region 4 with fail
  have hbr:=ku HBR;have HS0:=hide (show AvS M w.heap.size size (.slice va vars.length vc) a0 a1 a2 a3 a4 n0 n1 n2 n3 n4 c0 c1 c2 c3 c4 v wr.drew from (ku HSW).below hbr.drew (by omega) (by omega));have HB0:=hide (show Below w.heap.size w wr.drew from ((ku HBW).trans (hbr.mono hsW)).drew);have hy0:=hbr.size;clear hbr;refine kqi (S:=AvS M w.heap.size size (.slice va vars.length vc) a0 a1 a2 a3 a4 n0 n1 n2 n3 n4 c0 c1 c2 c3 c4 v) (tl:=[25,26,27,28]) (by kernel_rfl) ?_;refine qm (i:=0) (v:=.pointer (some ⟨M,0,none⟩)) rfl (by kernel_rfl) (by kernel_rfl) (by kernel_rfl) (fun _ _ _ h=>h) (Or.inl ⟨by rfl,fun _ _=>by go_simp⟩) ?_;try simp only[Act.put,wu,wZ,wJ]
  refine qm (i:=1) (v:=.pointer (some ⟨M,0,none⟩)) rfl (by kernel_rfl) (by kernel_rfl) (by kernel_rfl) (fun _ _ _ h=>h) (Or.inl ⟨by rfl,fun _ _=>by go_simp⟩) ?_;try simp only[Act.put,wu,wZ,wJ]
  refine qm (i:=2) (v:=.pointer (some ⟨M,0,none⟩)) rfl (by kernel_rfl) (by kernel_rfl) (by kernel_rfl) (fun _ _ _ h=>h) (Or.inl ⟨by rfl,fun _ _=>by go_simp⟩) ?_;try simp only[Act.put,wu,wZ,wJ]
  refine qm (i:=3) (v:=.pointer (some ⟨M,3,none⟩)) rfl (by kernel_rfl) (by kernel_rfl) (by kernel_rfl) (fun _ _ _ h=>h) (Or.inl ⟨by rfl,fun _ _=>by go_simp⟩) ?_;try simp only[Act.put,wu,wZ,wJ]
  refine zl (i:=4) (v:=.slice va vars.length vc) [25,26,27,28] rfl (by kernel_rfl) (by kernel_rfl) (by kernel_rfl) (by kernel_rfl) (by decide) (fun _ _ _ h=>h) (Or.inl ⟨by rfl,fun wq hSw=>by (obtain ⟨s0,s1,s2,s3,s4,s5,s6,s7,s8,s9,s10,s11,s12,s13⟩:=hSw;go_simp)⟩) (ku HS0) ?_;try simp only[Act.put,wu,wZ,wJ]
  refine qm (i:=5) (v:=.pointer (some ⟨M,0,none⟩)) rfl (by kernel_rfl) (by kernel_rfl) (by kernel_rfl) (fun _ _ _ h=>h) (Or.inl ⟨by rfl,fun _ _=>by go_simp⟩) ?_;try simp only[Act.put,wu,wZ,wJ]
  refine qm (i:=6) (v:=.pointer (some ⟨M,0,none⟩)) rfl (by kernel_rfl) (by kernel_rfl) (by kernel_rfl) (fun _ _ _ h=>h) (Or.inl ⟨by rfl,fun _ _=>by go_simp⟩) ?_;try simp only[Act.put,wu,wZ,wJ]
  refine qm (i:=7) (v:=.pointer (some ⟨M,5,none⟩)) rfl (by kernel_rfl) (by kernel_rfl) (by kernel_rfl) (fun _ _ _ h=>h) (Or.inl ⟨by rfl,fun _ _=>by go_simp⟩) ?_;try simp only[Act.put,wu,wZ,wJ]
  refine zl (i:=8) (v:=.int .i64 size) [23,24,25,26,27,28] rfl (by kernel_rfl) (by kernel_rfl) (by kernel_rfl) (by kernel_rfl) (by decide) (fun _ _ _ h=>h) (Or.inl ⟨by rfl,fun wq hSw=>by (obtain ⟨s0,s1,s2,s3,s4,s5,s6,s7,s8,s9,s10,s11,s12,s13⟩:=hSw;go_simp)⟩) (ku HS0) ?_;try simp only[Act.put,wu,wZ,wJ]
  refine qm (i:=9) (v:=.int .i64 cnt) rfl (by kernel_rfl) (by kernel_rfl) (by kernel_rfl) (fun _ _ _ h=>h) (Or.inl ⟨by rfl,fun _ _=>by go_simp⟩) ?_;try simp only[Act.put,wu,wZ,wJ]
  refine zl (i:=10) (v:=.agg #[.slice a0 n0 c0,.slice a1 n1 c1,.slice a2 n2 c2,.slice a3 n3 c3,.slice a4 n4 c4]) [13,23,24,25,26,27,28] rfl (by kernel_rfl) (by kernel_rfl) (by kernel_rfl) (by kernel_rfl) (by decide) (fun _ _ _ h=>h) (Or.inl ⟨by rfl,fun wq hSw=>by (obtain ⟨s0,s1,s2,s3,s4,s5,s6,s7,s8,s9,s10,s11,s12,s13⟩:=hSw;go_simp)⟩) (ku HS0) ?_;try simp only[Act.put,wu,wZ,wJ]
  refine qm (i:=11) (v:=.pointer (some ⟨w.heap.size+1,5,none⟩)) rfl (by kernel_rfl) (by kernel_rfl) (by kernel_rfl) (fun _ _ _ h=>h) (Or.inl ⟨by rfl,fun _ _=>by go_simp⟩) ?_;try simp only[Act.put,wu,wZ,wJ]
  refine zl (i:=12) (v:=.agg #[.int .i64 v.si.form,.int .i64 (gu v.si.top.text),.int .i64 v.si.top.at_,.string v.si.name.text,.int .i64 v.si.name.at_]) [13,23,24,25,26,27,28] rfl (by kernel_rfl) (by kernel_rfl) (by kernel_rfl) (by kernel_rfl) (by decide) (fun _ _ _ h=>h) (Or.inl ⟨by rfl,fun wq hSw=>by (obtain ⟨s0,s1,s2,s3,s4,s5,s6,s7,s8,s9,s10,s11,s12,s13⟩:=hSw;go_simp)⟩) (ku HS0) ?_;try simp only[Act.put,wu,wZ,wJ]
  refine zl (i:=14) (v:=.agg #[.slice a0 n0 c0,.slice a1 n1 c1,.slice a2 n2 c2,.slice a3 n3 c3,.slice a4 n4 c4]) [17,23,24,25,26,27,28] rfl (by kernel_rfl) (by kernel_rfl) (by kernel_rfl) (by kernel_rfl) (by decide) (fun _ _ _ h=>h) (Or.inl ⟨by rfl,fun wq hSw=>by (obtain ⟨s0,s1,s2,s3,s4,s5,s6,s7,s8,s9,s10,s11,s12,s13⟩:=hSw;go_simp)⟩) (ku HS0) ?_;try simp only[Act.put,wu,wZ,wJ]
  refine qm (i:=15) (v:=.pointer (some ⟨w.heap.size+1,3,none⟩)) rfl (by kernel_rfl) (by kernel_rfl) (by kernel_rfl) (fun _ _ _ h=>h) (Or.inl ⟨by rfl,fun _ _=>by go_simp⟩) ?_;try simp only[Act.put,wu,wZ,wJ]
  refine zl (i:=16) (v:=.agg #[.string v.over.text,.int .i64 v.over.at_]) [17,23,24,25,26,27,28] rfl (by kernel_rfl) (by kernel_rfl) (by kernel_rfl) (by kernel_rfl) (by decide) (fun _ _ _ h=>h) (Or.inl ⟨by rfl,fun wq hSw=>by (obtain ⟨s0,s1,s2,s3,s4,s5,s6,s7,s8,s9,s10,s11,s12,s13⟩:=hSw;go_simp)⟩) (ku HS0) ?_;try simp only[Act.put,wu,wZ,wJ]
  refine zl (i:=18) (v:=.agg #[.slice a0 n0 c0,.slice a1 n1 c1,.slice a2 n2 c2,.slice a3 n3 c3,.slice a4 n4 c4]) [22,23,24,25,26,27,28] rfl (by kernel_rfl) (by kernel_rfl) (by kernel_rfl) (by kernel_rfl) (by decide) (fun _ _ _ h=>h) (Or.inl ⟨by rfl,fun wq hSw=>by (obtain ⟨s0,s1,s2,s3,s4,s5,s6,s7,s8,s9,s10,s11,s12,s13⟩:=hSw;go_simp)⟩) (ku HS0) ?_;try simp only[Act.put,wu,wZ,wJ]
  refine qm (i:=19) (v:=.pointer (some ⟨w.heap.size+1,5,none⟩)) rfl (by kernel_rfl) (by kernel_rfl) (by kernel_rfl) (fun _ _ _ h=>h) (Or.inl ⟨by rfl,fun _ _=>by go_simp⟩) ?_;try simp only[Act.put,wu,wZ,wJ]
  refine qm (i:=20) (v:=.pointer (some ⟨w.heap.size+1,8,none⟩)) rfl (by kernel_rfl) (by kernel_rfl) (by kernel_rfl) (fun _ _ _ h=>h) (Or.inl ⟨by rfl,fun _ _=>by go_simp⟩) ?_;try simp only[Act.put,wu,wZ,wJ]
  refine zl (i:=21) (v:=.agg #[.string v.si.name.text,.int .i64 v.si.name.at_]) [22,23,24,25,26,27,28] rfl (by kernel_rfl) (by kernel_rfl) (by kernel_rfl) (by kernel_rfl) (by decide) (fun _ _ _ h=>h) (Or.inl ⟨by rfl,fun wq hSw=>by (obtain ⟨s0,s1,s2,s3,s4,s5,s6,s7,s8,s9,s10,s11,s12,s13⟩:=hSw;go_simp)⟩) (ku HS0) ?_;try simp only[Act.put,wu,wZ,wJ]
  refine kjj (rs:=[13]) (by kernel_rfl) (by simp) ?_;refine ug.cons rfl (fun K hK=>?_) ug.nil;go_simp
  go_at_call 98
  refine ((ku HVT) wr.drew (ku HB0)).mono ?_;rintro e x1 ⟨tvv,rfl,ho1,hb1⟩;obtain ⟨ta,tc,e,_⟩:=zq ho1;subst e;have HT1:=hide (zu (tu _) ho1);clear ho1;have hy1:wr.heap.size≤x1.heap.size:=hb1.size;have HS1:=hide ((ku HS0).below hb1 (show M<wr.heap.size by omega) (show w.heap.size+1<wr.heap.size by omega));have HB1:=hide ((ku HB0).trans (hb1.mono (ku HB0).size));clear hb1;dsimp only;refine hK _ _ (ku HS1) ?_;clear hK K;try simp only[Act.put,wu,wZ,wJ]
  refine kjj (rs:=[17]) (by kernel_rfl) (by simp) ?_;refine ug.cons rfl (fun K hK=>?_) ug.nil;go_simp
  go_at_call 99
  refine ((ku HSO) x1 (ku HB1)).mono ?_;rintro e x2 ⟨rfl,hb2⟩;have HT2:=hide (qj (ku HT1) hb2);have hy2:x1.heap.size≤x2.heap.size:=hb2.size;have HS2:=hide ((ku HS1).below hb2 (show M<x1.heap.size by omega) (show w.heap.size+1<x1.heap.size by omega));have HB2:=hide ((ku HB1).trans (hb2.mono (ku HB1).size));clear hb2;dsimp only;refine hK _ _ (ku HS2) ?_;clear hK K;try simp only[Act.put,wu,wZ,wJ]
  refine kjj (rs:=[22]) (by kernel_rfl) (by simp) ?_;refine ug.cons rfl (fun K hK=>?_) ug.nil;go_simp
  go_at_call 99
  refine ((ku HSM) x2 (ku HB2)).mono ?_;rintro e x3 ⟨rfl,hb3⟩;have HT3:=hide (qj (ku HT2) hb3);have hy3:x2.heap.size≤x3.heap.size:=hb3.size;have HS3:=hide ((ku HS2).below hb3 (show M<x2.heap.size by omega) (show w.heap.size+1<x2.heap.size by omega));have HB3:=hide ((ku HB2).trans (hb3.mono (ku HB2).size));clear hb3;dsimp only;refine hK _ _ (ku HS3) ?_;clear hK K;try simp only[Act.put,wu,wZ,wJ]
 all_goals
  refine qm (i:=23) (v:=.agg #[.int .i64 size,.int .i64 cnt,.slice ta u.texts.length tc,.int .i64 u.over,.int .i64 u.of_]) rfl (by kernel_rfl) (by kernel_rfl) (by kernel_rfl) (fun _ _ _ h=>h) (Or.inl ⟨by rfl,fun _ _=>by go_simp⟩) ?_;try simp only[Act.put,wu,wZ,wJ]
  refine kjj (rs:=[24]) (by kernel_rfl) (by simp) ?_;refine ug.cons rfl (fun K hK=>?_) ug.nil;go_simp
  refine hK _ _ ((ku HS3).below (below_alloc1 _ _) (by omega) (by omega)) ?_;clear hK K;refine kz4 _ _ _ _ (kvb (by kernel_rfl)) ?_;refine wpAny_ready (rs:=[25]) (by kernel_rfl) (by simp) (AllReady.cons rfl (fun K hK=>?_) AllReady.nil);refine step_append_lies _ (by rfl) _ _ _ (by rfl) lo 213 i0 _ 5 56 Tryz.underlying103 hi hz0 hz1 hz2 rfl (by omega) (.slice va vars.length vc) vars.length cs (by rfl) (qj (ku HVA) ((ku HB3).trans ((below_alloc1 x3 _).mono (ku HB3).size))) ⟨x3.heap.size,0,none⟩ 1 1 [.int .i64 size,.int .i64 cnt,.slice ta u.texts.length tc,.int .i64 u.over,.int .i64 u.of_] (by rfl) (by rfl) (World.news_of_block (cs:=#[.int .i64 size,.int .i64 cnt,.slice ta u.texts.length tc,.int .i64 u.over,.int .i64 u.of_]) (t:=213) (fr:=(0,0)) (heap_alloc_new x3 _)) (by intro y hy;simp only[tK,nY,or_false] at hy;rcases hy with rfl|rfl|rfl|rfl|rfl<;>rfl) (by omega) (by unfold maxLen;omega) (by omega) (by simp;omega) (x3.heap.size+1) (by simp) ?_;intro gg gcap w4 hown4 hgrow hat hlt4;refine hK _ _ ?_;clear hK K;have hr4:=jv7 (ku HMC) (ku HB3) hgrow;obtain ⟨m0,m1,m2,m3,m4,m5,f0,f1,f2,f3,f4,f5⟩:=kvt hr4;obtain ⟨p0,p1,p2,p3,p4,p5,g0,g1,g2,g3,g4,g5⟩:=kvt (vkk hr4 (.slice (some ⟨gg,0,none⟩) (vars.length+1) gcap));have hend:=vw1 (ku HMC) u hfst hcnt (ku HVA) (ku HMV) (ku HB3) (ku HT3) hgrow hown4 hlo;rw[hcnt] at hend;have HEND:=hide hend;clear hend;clear hr4 hown4 hgrow hat;refine wpAny_ready (rs:=[26]) (by kernel_rfl) (by simp) (AllReady.cons rfl (fun K hK=>?_) AllReady.nil);go_simp
  refine hK _ _ ?_;clear hK K;refine wpAny_ready (rs:=[27]) (by kernel_rfl) (by simp) (AllReady.cons rfl (fun K hK=>?_) AllReady.nil);go_simp
  refine hK _ _ ?_;clear hK K;refine wpAny_ready (rs:=[28]) (by kernel_rfl) (by simp) (AllReady.cons rfl (fun K hK=>?_) AllReady.nil);go_simp
  refine hK _ _ ?_;clear hK K;refine wpAny_done (by kernel_rfl) ?_ _;go_wp2
  go_end0
  first
   | exact ⟨rfl,ku HEND⟩
   | (rw[hcnt];exact ⟨rfl,ku HEND⟩)
end Go.Proofs.YtpmcnonmkghokaaGreatDoor

import Derived.Test.YtpmcnonmkghokaaGreatDoorT15
import Derived.Test.YtpmcnonmkghokaaGreatDoorT22
set_option linter.unusedVariables false
set_option linter.unusedSimpArgs false
namespace Go.Proofs.YtpmcnonmkghokaaGreatDoor
open Go.RowKit
attribute [local go_sem ↓] Go.wp_at_zero Go.wp_at_succ
def TwoS (a b : Addr) (x y : Value) (w : World) : Prop:=w.cell? a = some x∧w.cell? b = some y
theorem TwoS.below {a b : Addr} {x y : Value} {B : Nat} {w w' : World} (h : TwoS a b x y w) (hb : Below B w w') (h1 : a.block < B) (h2 : b.block < B) : TwoS a b x y w':=⟨(hb.cell h1).trans h.1,(hb.cell h2).trans h.2⟩
theorem nw_lt {w W : World} {lo so M nb : Nat} {steps : List MStep} {nevers : List MNever} {sets : List Int} {vars : List MVar} {tab : uq} {size : Nat} {sv nv tv vv : Value} {wr : World} (h : NwI w W lo so M nb steps nevers sets vars tab size sv nv tv vv wr) : M < wr.heap.size:=lt_of_block h.mc.row
def NewPost (w : World) (so : Nat) (r : Mach) (e : Ending) (w' : World) : Prop:=∃ M nb sv nv tv vv,e = .returned (.pointer (some ⟨M,0,none⟩))∧kqt w.heap.size so w' M nb r.steps r.nevers r.sets r.vars r.tab r.size sv nv tv vv∧Below w.heap.size w w'
set_option maxRecDepth 100000 in
set_option maxHeartbeats 16000000 in
theorem new_any (w : World) (so : Nat) (a0 a1 a2 a3 a4 : Option Addr) (n0 n1 n2 n3 n4 c0 c1 c2 c3 c4 : Nat) (m : MdL) (hm : MdIs so w (.slice a0 n0 c0) (.slice a1 n1 c1) (.slice a2 n2 c2) (.slice a3 n3 c3) (.slice a4 n4 c4) m) (hf : MdFit m) (r : Mach) (hr : newO m = some r) :
  Calls Tryz.prog 35 #[mdV a0 a1 a2 a3 a4 n0 n1 n2 n3 n4 c0 c1 c2 c3 c4] w fun e w'=>NewPost w so r e w':=by
 unfold newO at hr
 obtain ⟨T,hK,hr⟩:=Option.bind_eq_some_iff.mp hr
 obtain ⟨X,hV,hr⟩:=Option.bind_eq_some_iff.mp hr
 obtain ⟨ST,hS,hr⟩:=Option.bind_eq_some_iff.mp hr
 obtain ⟨NV,hN,rfl⟩:=Option.map_eq_some_iff.mp hr
 obtain ⟨za,zc,e,_⟩:=qm hm.o0
 injection e with e1 e2 e3
 subst e1; subst e2; subst e3
 obtain ⟨_,ho1,_⟩:=hm.o1
 obtain ⟨za,zc,e,_⟩:=qm ho1
 injection e with e1 e2 e3
 subst e1; subst e2; subst e3
 obtain ⟨za,zc,e,_⟩:=qm hm.o2
 injection e with e1 e2 e3
 subst e1; subst e2; subst e3
 obtain ⟨_,ho3,_⟩:=hm.o3
 obtain ⟨za,zc,e,_⟩:=qm ho3
 injection e with e1 e2 e3
 subst e1; subst e2; subst e3
 obtain ⟨_,ho4,_⟩:=hm.o4
 obtain ⟨za,zc,e,_⟩:=qm ho4
 injection e with e1 e2 e3
 subst e1; subst e2; subst e3
 obtain ⟨nb,hnb⟩ : ∃ nb,nb = w.heap.size + 1:=⟨_,rfl⟩
 obtain ⟨M,hM⟩ : ∃ M,M = w.heap.size + 1 + 1:=⟨_,rfl⟩
 obtain ⟨W,hW⟩ : ∃ W,W = ((w.alloc (.cells #[.slice a0 m.sets.length c0,.slice a1 m.kinds.length c1,.slice a2 m.vars.length c2,.slice a3 m.rules.length c3,.slice a4 m.nevers.length c4] 68)).alloc (.map #[] 0)).alloc (.cells #[.slice none 0 0,.slice none 0 0,.slice none 0 0,.slice none 0 0,.map (some (w.heap.size + 1)),.int .i64 0] 105):=⟨_,rfl⟩
 have hbW : Below w.heap.size w W:=by rw [hW]; exact ((below_alloc1 w _).trans ((below_alloc1 _ _).mono (by simp))).trans ((below_alloc1 _ _).mono (by simp; omega))
 have hsW : W.heap.size = w.heap.size + 3:=by rw [hW]; simp
 have hBX : W.heap[w.heap.size]? = some (.cells #[.slice a0 m.sets.length c0,.slice a1 m.kinds.length c1,.slice a2 m.vars.length c2,.slice a3 m.rules.length c3,.slice a4 m.nevers.length c4] 68 (0,0)):=by rw [hW]; exact ql (ql (qg _ _))
 have hMp : W.heap[nb]? = some (.map #[] 0):=by
  rw [hW,hnb]
  have:=qg (w.alloc (.cells #[.slice a0 m.sets.length c0,.slice a1 m.kinds.length c1,.slice a2 m.vars.length c2,.slice a3 m.rules.length c3,.slice a4 m.nevers.length c4] 68)) (.map #[] 0)
  simp only [World.size_alloc] at this
  exact ql this
 have hMr : W.heap[M]? = some (.cells #[.slice none 0 0,.slice none 0 0,.slice none 0 0,.slice none 0 0,.map (some nb),.int .i64 0] 105 (0,0)):=by
  rw [hW,hM,hnb]
  have:=qg ((w.alloc (.cells #[.slice a0 m.sets.length c0,.slice a1 m.kinds.length c1,.slice a2 m.vars.length c2,.slice a3 m.rules.length c3,.slice a4 m.nevers.length c4] 68)).alloc (.map #[] 0)) (.cells #[.slice none 0 0,.slice none 0 0,.slice none 0 0,.slice none 0 0,.map (some (w.heap.size + 1)),.int .i64 0] 105)
  simp only [World.size_alloc] at this
  exact this
 have hMt : kjp W nb []:=⟨⟨#[],0,hMp,rfl⟩,List.nodup_nil,fun x hx=>by simp at hx⟩
 have HM0:=hide (show NwI w W w.heap.size so M nb [] [] [] [] [] 0 (.slice none 0 0) (.slice none 0 0) (.slice none 0 0) (.slice none 0 0) W from
  ⟨⟨hMr,⟨[],World.ownsRow_nil _ _ _ _,rfl,fun k hk=>by simp at hk⟩,⟨[],World.ownsRow_nil _ _ _ _,rfl,fun k hk=>by simp at hk⟩,World.ownsRow_nil _ _ _ _,⟨[],World.ownsRow_nil _ _ _ _,rfl⟩,hMt,by omega,by omega⟩,Tk.refl _ _ _,hbW⟩)
 have HMD:=hide (show MdIs so W (.slice a0 m.sets.length c0) (.slice a1 m.kinds.length c1) (.slice a2 m.vars.length c2) (.slice a3 m.rules.length c3) (.slice a4 m.nevers.length c4) m from hm.stay fun k _ hk=>hbW.block k hk)
 have HNR:=hide hMt.no
 have HBX:=hide hBX
 have HWE:=hide hW.symm
 have HNB:=hide hnb
 have HME:=hide hM
 have HF:=hide hf
 have HK:=hide hK
 have HV:=hide hV
 have HSS:=hide hS
 have HNN:=hide hN
 have hle1 : w.heap.size < nb:=by omega
 have hle2 : nb < M:=by omega
 have hle3 : M < W.heap.size:=by omega
 have hl0:=hf.sets
 have hl1:=hf.kinds
 have hl2:=hf.vars
 have hl3:=hf.rules
 have hl4:=hf.nevers
 clear hr hm ho1 ho3 ho4 hbW hsW hBX hMp hMr hMt hW hnb hM hf hK hV hS hN
 obtain ⟨i0,hi,hz0,hz1,hz2⟩:=info_parts Tryz.infoInt
 have hmk : ∀ W : World,(Instr.makeMap 100 none).run Tryz.prog W = .ok (.map (some W.heap.size)) (W.alloc (.map #[] 0)):=fun W=>rfl
 unfold mdV
 go_enter Tryz.func35,Tryz.ntmps35
 go_wp2_with fail
 clear hmk
 rw [ku HWE,← ku HME,← ku HNB]
 go_loopw [5,22] (fun _ i wr=>∃ (k : Nat) (va : Option Addr) (vn vc : Nat),k≤m.sets.length∧i = .int .i64 k∧NwI w W w.heap.size so M nb [] [] (kjd (m.sets.take k)) [] [] 0 (.slice none 0 0) (.slice none 0 0) (.slice va vn vc) (.slice none 0 0) wr) (fun _ i _=>m.sets.length - (intOf i).toNat)
 case atStart=>exact ⟨0,none,0,0,Nat.zero_le _,rfl,ku HM0⟩
 case round=>
  obtain ⟨k,va,vn,vc,hk,rfl,hI⟩:=hrel
  have hMl:=nw_lt hI
  have htk:=hI.tk
  have hsz:=htk.size
  by_cases hlt : k < m.sets.length
  ·obtain ⟨zb,zd,ez,hvw⟩:=qm (zk (ku HMD).o0 htk (ku HNR) (by decide))
   injection ez with ez1 _ ez3
   subst ez1; subst ez3
   obtain ⟨g,rfl,hg1,hg2,hc⟩:=hvw k hlt
   have fl:=fun j (hj : j < 4)=>kqy stC1 4 (fun _=>rfl) m.sets k j hlt hj
   have e0:=(hc (k * 4 + 0) (by omega)).trans (fl 0 (by omega))
   have e1:=(hc (k * 4 + 1) (by omega)).trans (fl 1 (by omega))
   have e2:=(hc (k * 4 + 2) (by omega)).trans (fl 2 (by omega))
   have e3:=(hc (k * 4 + 3) (by omega)).trans (fl 3 (by omega))
   simp only [stC1,List.getElem?_cons_zero,List.getElem?_cons_succ,Nat.add_zero] at e0 e1 e2 e3
   have HSN:=hide (show kjd (m.sets.take (k + 1)) = kjd (m.sets.take k) ++ [yu m.sets[k].size.text] by rw [List.take_succ_eq_append_getElem hlt,kjd,List.map_append]; rfl)
   have hxl : (kjd (m.sets.take k)).length≤1000:=by simp [kjd]; omega
   generalize kjd (m.sets.take k) = Lx at *
   generalize m.sets[k] = s at *
   obtain ⟨m0,m1,m2,m3,m4,m5,_⟩:=row6 hI.mc.row
   have hbx : Below wr.heap.size wr (wr.alloc (.cells #[.string s.name.text,.int .i64 s.name.at_,.int .i64 (yu s.size.text),.int .i64 s.size.at_] 111)):=below_alloc1 _ _
   obtain ⟨b0,b1,b2,b3,_⟩:=kqj (qg wr (.cells #[.string s.name.text,.int .i64 s.name.at_,.int .i64 (yu s.size.text),.int .i64 s.size.at_] 111))
   have HS0:=hide (show TwoS ⟨M,2,none⟩ ⟨wr.heap.size,2,none⟩ (.slice va vn vc) (.int .i64 (yu s.size.text)) (wr.alloc (.cells #[.string s.name.text,.int .i64 s.name.at_,.int .i64 (yu s.size.text),.int .i64 s.size.at_] 111)).drew from ⟨(hbx.cell (p:=⟨M,2,none⟩) hMl).trans m2,b2⟩)
   have HBXr:=hide (show Below wr.heap.size wr (wr.alloc (.cells #[.string s.name.text,.int .i64 s.name.at_,.int .i64 (yu s.size.text),.int .i64 s.size.at_] 111)).drew from hbx.drew)
   have HI:=hide hI
   clear hc fl hvw hI htk m0 m1 m2 m3 m4 m5 hbx b0 b1 b2 b3
   go_upto_region 5 with fail
   refine jr (S:=TwoS ⟨M,2,none⟩ ⟨wr.heap.size,2,none⟩ (.slice va vn vc) (.int .i64 (yu s.size.text))) (tl:=[9,10,11,12]) (by kernel_rfl) ?_
   refine qj (i:=0) (v:=.pointer (some ⟨M,0,none⟩)) rfl (by kernel_rfl) (by kernel_rfl) (by kernel_rfl) (fun _ _ _ h=>h) (Or.inl ⟨by rfl,fun _ _=>by go_simp⟩) ?_
   try simp only [Act.put,List.setIfInBounds_toArray,List.set_cons_zero,List.set_cons_succ]
   refine qj (i:=1) (v:=.pointer (some ⟨M,0,none⟩)) rfl (by kernel_rfl) (by kernel_rfl) (by kernel_rfl) (fun _ _ _ h=>h) (Or.inl ⟨by rfl,fun _ _=>by go_simp⟩) ?_
   try simp only [Act.put,List.setIfInBounds_toArray,List.set_cons_zero,List.set_cons_succ]
   refine qj (i:=2) (v:=.pointer (some ⟨M,0,none⟩)) rfl (by kernel_rfl) (by kernel_rfl) (by kernel_rfl) (fun _ _ _ h=>h) (Or.inl ⟨by rfl,fun _ _=>by go_simp⟩) ?_
   try simp only [Act.put,List.setIfInBounds_toArray,List.set_cons_zero,List.set_cons_succ]
   refine qj (i:=3) (v:=.pointer (some ⟨M,2,none⟩)) rfl (by kernel_rfl) (by kernel_rfl) (by kernel_rfl) (fun _ _ _ h=>h) (Or.inl ⟨by rfl,fun _ _=>by go_simp⟩) ?_
   try simp only [Act.put,List.setIfInBounds_toArray,List.set_cons_zero,List.set_cons_succ]
   refine qo (i:=4) (v:=.slice va vn vc) [9,10,11,12] rfl (by kernel_rfl) (by kernel_rfl) (by kernel_rfl) (by kernel_rfl) (by decide) (fun _ _ _ h=>h) (Or.inl ⟨by rfl,fun wq hSw=>by (obtain ⟨s0,s1⟩:=hSw; go_simp)⟩) (ku HS0) ?_
   try simp only [Act.put,List.setIfInBounds_toArray,List.set_cons_zero,List.set_cons_succ]
   refine qj (i:=5) (v:=.pointer (some ⟨wr.heap.size,2,none⟩)) rfl (by kernel_rfl) (by kernel_rfl) (by kernel_rfl) (fun _ _ _ h=>h) (Or.inl ⟨by rfl,fun _ _=>by go_simp⟩) ?_
   try simp only [Act.put,List.setIfInBounds_toArray,List.set_cons_zero,List.set_cons_succ]
   refine qj (i:=6) (v:=.pointer (some ⟨wr.heap.size,2,none⟩)) rfl (by kernel_rfl) (by kernel_rfl) (by kernel_rfl) (fun _ _ _ h=>h) (Or.inl ⟨by rfl,fun _ _=>by go_simp⟩) ?_
   try simp only [Act.put,List.setIfInBounds_toArray,List.set_cons_zero,List.set_cons_succ]
   refine qo (i:=7) (v:=.int .i64 (yu s.size.text)) [8,9,10,11,12] rfl (by kernel_rfl) (by kernel_rfl) (by kernel_rfl) (by kernel_rfl) (by decide) (fun _ _ _ h=>h) (Or.inl ⟨by rfl,fun wq hSw=>by (obtain ⟨s0,s1⟩:=hSw; go_simp)⟩) (ku HS0) ?_
   try simp only [Act.put,List.setIfInBounds_toArray,List.set_cons_zero,List.set_cons_succ]
   refine uj (rs:=[8]) (by kernel_rfl) (by simp) ?_
   refine jk.cons rfl (fun K hK=>?_) jk.nil
   go_simp
   refine hK _ _ ((ku HS0).below (below_alloc1 _ _) (show M < (wr.alloc _).heap.size by simp; omega) (show wr.heap.size < (wr.alloc _).heap.size by simp)) ?_
   clear hK K
   refine uh _ _ _ _ (kqr (by kernel_rfl)) ?_
   refine wpAny_ready (rs:=[9]) (by kernel_rfl) (by simp) (AllReady.cons rfl (fun K hK=>?_) AllReady.nil)
   refine step_append_lies _ (by rfl) _ _ _ (by rfl) w.heap.size 3 i0 _ 1 8 Tryz.underlying31 hi hz0 hz1 hz2 rfl (by omega) (.slice va vn vc) Lx.length (Lx.map (Value.int .i64)) (by rfl) (qy (ku HI).mc.sets ((ku HBXr).alloc (ku HBXr).size _)) ⟨wr.heap.size + 1,0,none⟩ 1 1 [.int .i64 (yu s.size.text)] (by rfl) (by rfl) (World.news_of_block (cs:=#[.int .i64 (yu s.size.text)]) (t:=3) (fr:=(0,0)) (by have:=heap_alloc_new (wr.alloc (.cells #[.string s.name.text,.int .i64 s.name.at_,.int .i64 (yu s.size.text),.int .i64 s.size.at_] 111)) (.cells #[.int .i64 (yu s.size.text)] 3); simp only [World.size_alloc] at this; exact this)) (by intro y hy; simp only [List.mem_cons,List.not_mem_nil,or_false] at hy; subst hy; rfl) (by omega) (by unfold maxLen; omega) (by omega) (by simp; omega) (wr.heap.size + 2) (by simp) ?_
   intro gg gcap w4 hown4 hgrow hat hlt4
   refine hK _ _ ?_
   clear hK K
   have hgrow : ((wr.alloc (.cells #[.string s.name.text,.int .i64 s.name.at_,.int .i64 (yu s.size.text),.int .i64 s.size.at_] 111)).drew.alloc (.cells #[.int .i64 (yu s.size.text)] 3)).grownBy w4 (Value.slice va vn vc).ownBlock:=hgrow
   have hr4:=st_row4 (ku HI).mc (ku HBXr) hgrow
   obtain ⟨m0,m1,m2,m3,m4,m5,f0,f1,f2,f3,f4,f5⟩:=row6 hr4
   have hend:=st_end (ku HI).mc (yu s.size.text) (ku HBXr) hgrow hown4 (by omega)
   have HEND:=hide (show ∃ gv gn gc,NwI w W w.heap.size so M nb [] [] (Lx ++ [yu s.size.text]) [] [] 0 (.slice none 0 0) (.slice none 0 0) (.slice gv gn gc) (.slice none 0 0) (w4.setCell ⟨M,2,none⟩ (.slice (some ⟨gg,0,none⟩) (Lx.length + 1) gcap)) from by
    obtain ⟨⟨gv,gn,gc,q1⟩,q2,q3⟩:=hend
    exact ⟨gv,gn,gc,q1,(ku HI).tk.trans ((q2.wide (by decide)).any _),(ku HI).be.trans q3⟩)
   clear hr4 hown4 hgrow hat hend
   refine wpAny_ready (rs:=[10]) (by kernel_rfl) (by simp) (AllReady.cons rfl (fun K hK=>?_) AllReady.nil)
   go_simp
   refine hK _ _ ?_
   clear hK K
   refine wpAny_ready (rs:=[11]) (by kernel_rfl) (by simp) (AllReady.cons rfl (fun K hK=>?_) AllReady.nil)
   go_simp
   refine hK _ _ ?_
   clear hK K
   refine wpAny_ready (rs:=[12]) (by kernel_rfl) (by simp) (AllReady.cons rfl (fun K hK=>?_) AllReady.nil)
   go_simp
   refine hK _ _ ?_
   clear hK K
   refine wpAny_done (by kernel_rfl) ?_ _
   go_wp2
   go_roundw
   case rel=>
    obtain ⟨gv,gn,gc,q⟩:=ku HEND
    exact ⟨k + 1,gv,gn,gc,by omega,by go_num,by rw [ku HSN]; exact q⟩
   case measure=>simp [intOf]; omega
  ·have : k = m.sets.length:=by omega
   subst this
   rw [List.take_length] at hI
   obtain ⟨q0,q1,q2,q3,q4,_⟩:=zh (htk.row (ku HBX) (fun e=>ku HNR _ _ _ _ e (ku HBX)) (by decide))
   have HI:=hide hI
   have hHl : w.heap.size < wr.heap.size:=by omega
   clear hI htk
   go_wp2_with fail
   go_loopw [7,8,9,42] (fun _ _ _ i wr=>∃ (k : Nat) (t : uq),k≤m.kinds.length∧i = .int .i64 k∧kindsO (m.kinds.drop k) t = some T∧NwI w W w.heap.size so M nb [] [] (kjd m.sets) [] t 0 (.slice none 0 0) (.slice none 0 0) (.slice va vn vc) (.slice none 0 0) wr) (fun _ _ _ i _=>m.kinds.length - (intOf i).toNat)
   case atStart=>exact ⟨0,[],Nat.zero_le _,rfl,ku HK,ku HI⟩
   case round=>
    obtain ⟨k,t,hk,rfl,hrest,hI⟩:=hrel
    have hMl:=nw_lt hI
    have htk:=hI.tk
    have hsz:=htk.size
    clear HI
    by_cases hlt : k < m.kinds.length
    ·obtain ⟨kcs,ho1,hkd⟩:=(ku HMD).o1
     obtain ⟨zb,zd,ez,hvw⟩:=qm (zk ho1 htk (ku HNR) (by decide))
     injection ez with ez1 _ ez3
     subst ez1; subst ez3
     obtain ⟨g,rfl,hg1,hg2,hc⟩:=hvw k hlt
     obtain ⟨ma,mn,mc,fl0,fl1,fl2,hmem⟩:=kd_at k hlt hkd
     have e0:=(hc (k * 3) (by omega)).trans fl0
     have e1:=(hc (k * 3 + 1) (by omega)).trans fl1
     have e2:=(hc (k * 3 + 2) (by omega)).trans fl2
     obtain ⟨zb,zd,ez,_⟩:=qm hmem
     injection ez with ez1 ez2 ez3
     subst ez1; subst ez2; subst ez3
     rw [List.drop_eq_getElem_cons hlt,kindsO] at hrest
     obtain ⟨T1,hT1,hrest⟩:=Option.bind_eq_some_iff.mp hrest
     have HREST:=hide hrest
     have HT1:=hide hT1
     have hml:=(ku HF).mems _ (List.getElem_mem hlt)
     have HMEM:=hide hmem
     generalize m.kinds[k] = s at *
     have HI:=hide (hI.below (below_alloc1 wr (.cells #[.string s.name.text,.int .i64 s.name.at_,.slice ma s.members.length mc] 114)) (by omega))
     clear hc fl0 fl1 fl2 hvw hI htk hmem hrest hT1 ho1 hkd q0 q1 q2 q3 q4
     go_wp2_with fail
     go_loopw [8,9,49] (fun _ _ i wr=>∃ (j : Nat) (t : uq),j≤s.members.length∧i = .int .i64 j∧memsO (s.members.drop j) j t = some T1∧NwI w W w.heap.size so M nb [] [] (kjd m.sets) [] t 0 (.slice none 0 0) (.slice none 0 0) (.slice va vn vc) (.slice none 0 0) wr) (fun _ _ i _=>s.members.length - (intOf i).toNat)
     case atStart=>exact ⟨0,t,Nat.zero_le _,rfl,ku HT1,ku HI⟩
     case round=>
      obtain ⟨j,t2,hj,rfl,hrest2,hI⟩:=hrel
      have hMl:=nw_lt hI
      have htk:=hI.tk
      have hsz:=htk.size
      clear HI
      by_cases hlj : j < s.members.length
      ·obtain ⟨zb,zd,ez,hvw⟩:=qm (zk (ku HMEM) htk (ku HNR) (by decide))
       injection ez with ez1 _ ez3
       subst ez1; subst ez3
       obtain ⟨g2,rfl,hg21,hg22,hc2⟩:=hvw j hlj
       have fl:=fun q (hq : q < 2)=>kqy yx 2 (fun _=>rfl) s.members j q hlj hq
       have e0:=(hc2 (j * 2 + 0) (by omega)).trans (fl 0 (by omega))
       have e1:=(hc2 (j * 2 + 1) (by omega)).trans (fl 1 (by omega))
       simp only [yx,List.getElem?_cons_zero,List.getElem?_cons_succ,Nat.add_zero] at e0 e1
       rw [List.drop_eq_getElem_cons hlj,memsO] at hrest2
       obtain ⟨t3,ht3,hrest2⟩:=Option.bind_eq_some_iff.mp hrest2
       obtain ⟨rfl,hys,hyn⟩:=putO_some ht3
       have HR2:=hide hrest2
       generalize s.members[j] = y at *
       obtain ⟨m0,m1,m2,m3,m4,m5,_⟩:=row6 hI.mc.row
       have hbx : Below wr.heap.size wr (wr.alloc (.cells #[.string y.text,.int .i64 y.at_] 107)):=below_alloc1 _ _
       obtain ⟨b0,b1,_,_⟩:=uw (qg wr (.cells #[.string y.text,.int .i64 y.at_] 107))
       have HS0:=hide (show TwoS ⟨M,4,none⟩ ⟨wr.heap.size,0,none⟩ (.map (some nb)) (.string y.text) (wr.alloc (.cells #[.string y.text,.int .i64 y.at_] 107)).drew from ⟨(hbx.cell (p:=⟨M,4,none⟩) hMl).trans m4,b0⟩)
       have hI2:=hI.below (show Below wr.heap.size wr (wr.alloc (.cells #[.string y.text,.int .i64 y.at_] 107)).drew from hbx.drew) (by omega)
       obtain ⟨w5,hrun,hmp5,hkp5⟩:=mput_run (e:=⟨false,j⟩) hI2.mc.tab hys hyn
       unfold meanV at hrun
       have HN5:=hide (show NwI w W w.heap.size so M nb [] [] (kjd m.sets) [] (t2 ++ [(y.text,⟨false,j⟩)]) 0 (.slice none 0 0) (.slice none 0 0) (.slice va vn vc) (.slice none 0 0) w5 from ⟨Mch_put hI2.mc hkp5 hmp5,hI2.tk.trans (kept_tk hkp5 _),hI2.be.trans ⟨hkp5.os,hkp5.tape,hkp5.output,hkp5.size,fun q hq=>hkp5.block q (by have:=hI2.be.size; omega) (by omega)⟩⟩)
       clear hc2 fl hvw hI htk hI2 hmp5 hkp5 m0 m1 m2 m3 m4 m5 hbx b0 b1 ht3 hrest2 hyn
       go_upto_region 13 with fail
       refine jr (S:=TwoS ⟨M,4,none⟩ ⟨wr.heap.size,0,none⟩ (.map (some nb)) (.string y.text)) (tl:=[8]) (by kernel_rfl) ?_
       refine qj (i:=0) (v:=.pointer (some ⟨M,0,none⟩)) rfl (by kernel_rfl) (by kernel_rfl) (by kernel_rfl) (fun _ _ _ h=>h) (Or.inl ⟨by rfl,fun _ _=>by go_simp⟩) ?_
       try simp only [Act.put,List.setIfInBounds_toArray,List.set_cons_zero,List.set_cons_succ]
       refine qj (i:=1) (v:=.pointer (some ⟨M,0,none⟩)) rfl (by kernel_rfl) (by kernel_rfl) (by kernel_rfl) (fun _ _ _ h=>h) (Or.inl ⟨by rfl,fun _ _=>by go_simp⟩) ?_
       try simp only [Act.put,List.setIfInBounds_toArray,List.set_cons_zero,List.set_cons_succ]
       refine qj (i:=2) (v:=.pointer (some ⟨M,4,none⟩)) rfl (by kernel_rfl) (by kernel_rfl) (by kernel_rfl) (fun _ _ _ h=>h) (Or.inl ⟨by rfl,fun _ _=>by go_simp⟩) ?_
       try simp only [Act.put,List.setIfInBounds_toArray,List.set_cons_zero,List.set_cons_succ]
       refine qo (i:=3) (v:=.map (some nb)) [8] rfl (by kernel_rfl) (by kernel_rfl) (by kernel_rfl) (by kernel_rfl) (by decide) (fun _ _ _ h=>h) (Or.inl ⟨by rfl,fun wq hSw=>by (obtain ⟨s0,s1⟩:=hSw; go_simp)⟩) (ku HS0) ?_
       try simp only [Act.put,List.setIfInBounds_toArray,List.set_cons_zero,List.set_cons_succ]
       refine qj (i:=4) (v:=.pointer (some ⟨wr.heap.size,0,none⟩)) rfl (by kernel_rfl) (by kernel_rfl) (by kernel_rfl) (fun _ _ _ h=>h) (Or.inl ⟨by rfl,fun _ _=>by go_simp⟩) ?_
       try simp only [Act.put,List.setIfInBounds_toArray,List.set_cons_zero,List.set_cons_succ]
       refine qo (i:=5) (v:=.string y.text) [8] rfl (by kernel_rfl) (by kernel_rfl) (by kernel_rfl) (by kernel_rfl) (by decide) (fun _ _ _ h=>h) (Or.inl ⟨by rfl,fun wq hSw=>by (obtain ⟨s0,s1⟩:=hSw; go_simp)⟩) (ku HS0) ?_
       try simp only [Act.put,List.setIfInBounds_toArray,List.set_cons_zero,List.set_cons_succ]
       refine qj (i:=6) (v:=.int .i64 j) rfl (by kernel_rfl) (by kernel_rfl) (by kernel_rfl) (fun _ _ _ h=>h) (Or.inl ⟨by rfl,fun _ _=>by go_simp⟩) ?_
       try simp only [Act.put,List.setIfInBounds_toArray,List.set_cons_zero,List.set_cons_succ]
       refine qj (i:=7) (v:=.agg #[.bool false,.int .i64 j]) rfl (by kernel_rfl) (by kernel_rfl) (by kernel_rfl) (fun _ _ _ h=>h) (Or.inl ⟨by rfl,fun _ _=>by go_simp⟩) ?_
       try simp only [Act.put,List.setIfInBounds_toArray,List.set_cons_zero,List.set_cons_succ]
       refine uh _ _ _ _ (kqr (by kernel_rfl)) ?_
       refine wpAny_ready (rs:=[8]) (by kernel_rfl) (by simp) (AllReady.cons rfl (fun K hK=>?_) AllReady.nil)
       go_simp
       refine hK _ _ ?_
       clear hK K
       refine wpAny_done (by kernel_rfl) ?_ _
       clear hrun
       go_wp2
       go_roundw
       case rel=>exact ⟨j + 1,_,by omega,by go_num,ku HR2,ku HN5⟩
       case measure=>simp [intOf]; omega
      ·have : j = s.members.length:=by omega
       subst this
       rw [List.drop_length,memsO] at hrest2
       injection hrest2 with hrest2
       subst hrest2
       have HI:=hide hI
       clear hI htk
       go_wp2
       go_roundw
       case rel=>exact ⟨k + 1,_,by omega,by go_num,ku HREST,ku HI⟩
       case measure=>simp [intOf]; omega
    ·have : k = m.kinds.length:=by omega
     subst this
     rw [List.drop_length,kindsO] at hrest
     injection hrest with hrest
     subst hrest
     obtain ⟨q0,q1,q2,q3,q4,_⟩:=zh (htk.row (ku HBX) (fun e=>ku HNR _ _ _ _ e (ku HBX)) (by decide))
     have HI:=hide hI
     have hHl : w.heap.size < wr.heap.size:=by omega
     clear hI htk
     go_wp2_with fail
     go_loopw [10,11,67] (fun _ _ i wr=>∃ (k : Nat) (t : uq) (vs : List MVar) (sz : Nat) (vv : Value),k≤m.vars.length∧i = .int .i64 k∧varsO m.sets m.kinds (m.vars.drop k) k t vs sz = some X∧NwI w W w.heap.size so M nb [] [] (kjd m.sets) vs t sz (.slice none 0 0) (.slice none 0 0) (.slice va vn vc) vv wr) (fun _ _ i _=>m.vars.length - (intOf i).toNat)
     case atStart=>exact ⟨0,t,[],0,_,Nat.zero_le _,rfl,ku HV,ku HI⟩
     case round=>
      obtain ⟨k,t,vs,sz,vv,hk,rfl,hrest,hI⟩:=hrel
      have hMl:=nw_lt hI
      have htk:=hI.tk
      have hsz:=htk.size
      clear HI
      by_cases hlt : k < m.vars.length
      ·obtain ⟨zb,zd,ez,hvw⟩:=qm (zk (ku HMD).o2 htk (ku HNR) (by decide))
       injection ez with ez1 _ ez3
       subst ez1; subst ez3
       obtain ⟨g,rfl,hg1,hg2,hc⟩:=hvw k hlt
       have fl:=fun j (hj : j < 10)=>kqy yg 10 (fun _=>rfl) m.vars k j hlt hj
       have cc:=fun j (hj : j < 10)=>(hc (k * 10 + j) (by omega)).trans (fl j hj)
       have e0:=cc 0 (by omega)
       have e1:=cc 1 (by omega)
       have e2:=cc 2 (by omega)
       have e3:=cc 3 (by omega)
       have e4:=cc 4 (by omega)
       have e5:=cc 5 (by omega)
       have e6:=cc 6 (by omega)
       have e7:=cc 7 (by omega)
       have e8:=cc 8 (by omega)
       have e9:=cc 9 (by omega)
       simp only [yg,List.getElem?_cons_zero,List.getElem?_cons_succ,Nat.add_zero] at e0 e1 e2 e3 e4 e5 e6 e7 e8 e9
       rw [List.drop_eq_getElem_cons hlt,varsO] at hrest
       obtain ⟨t3,ht3,hrest⟩:=Option.bind_eq_some_iff.mp hrest
       obtain ⟨rfl,hys,hyn⟩:=putO_some ht3
       have hcond : sz≤100000∧vs.length≤1000:=by
        apply Classical.byContradiction
        intro hc
        rw [if_neg hc] at hrest
        cases hrest
       rw [if_pos hcond] at hrest
       obtain ⟨u,hu,hrest⟩:=Option.bind_eq_some_iff.mp hrest
       have HREST:=hide hrest
       have HU:=hide hu
       generalize m.vars[k] = s at *
       obtain ⟨m0,m1,m2,m3,m4,m5,_⟩:=row6 hI.mc.row
       have hbx : Below wr.heap.size wr (wr.alloc (.cells #[.string s.name.text,.int .i64 s.name.at_,.bool s.arr,.string s.over.text,.int .i64 s.over.at_,.int .i64 s.si.form,.int .i64 (yu s.si.top.text),.int .i64 s.si.top.at_,.string s.si.name.text,.int .i64 s.si.name.at_] 121)):=below_alloc1 _ _
       have hbr:=qg wr (.cells #[.string s.name.text,.int .i64 s.name.at_,.bool s.arr,.string s.over.text,.int .i64 s.over.at_,.int .i64 s.si.form,.int .i64 (yu s.si.top.text),.int .i64 s.si.top.at_,.string s.si.name.text,.int .i64 s.si.name.at_] 121)
       obtain ⟨⟨b0,b1,b2,b3,b4,b5,b6,b7,b8,b9⟩,_⟩:=kzq hbr
       have HS0:=hide (show TwoS ⟨M,4,none⟩ ⟨wr.heap.size,0,none⟩ (.map (some nb)) (.string s.name.text) (wr.alloc (.cells #[.string s.name.text,.int .i64 s.name.at_,.bool s.arr,.string s.over.text,.int .i64 s.over.at_,.int .i64 s.si.form,.int .i64 (yu s.si.top.text),.int .i64 s.si.top.at_,.string s.si.name.text,.int .i64 s.si.name.at_] 121)).drew from ⟨(hbx.cell (p:=⟨M,4,none⟩) hMl).trans m4,b0⟩)
       have hI2:=hI.below (show Below wr.heap.size wr (wr.alloc (.cells #[.string s.name.text,.int .i64 s.name.at_,.bool s.arr,.string s.over.text,.int .i64 s.over.at_,.int .i64 s.si.form,.int .i64 (yu s.si.top.text),.int .i64 s.si.top.at_,.string s.si.name.text,.int .i64 s.si.name.at_] 121)).drew from hbx.drew) (by omega)
       obtain ⟨w5,hrun,hmp5,hkp5⟩:=mput_run (e:=⟨true,k⟩) hI2.mc.tab hys hyn
       unfold meanV at hrun
       have hN5 : NwI w W w.heap.size so M nb [] [] (kjd m.sets) vs (t ++ [(s.name.text,⟨true,k⟩)]) sz (.slice none 0 0) (.slice none 0 0) (.slice va vn vc) vv w5:=⟨Mch_put hI2.mc hkp5 hmp5,hI2.tk.trans (kept_tk hkp5 _),hI2.be.trans ⟨hkp5.os,hkp5.tape,hkp5.output,hkp5.size,fun q hq=>hkp5.block q (by have:=hI2.be.size; omega) (by omega)⟩⟩
       have hs5 : wr.heap.size < w5.heap.size:=by have:=hkp5.size; simp at this; omega
       have hbr5:=(kept_tk hkp5 []).row (show (wr.alloc (.cells #[.string s.name.text,.int .i64 s.name.at_,.bool s.arr,.string s.over.text,.int .i64 s.over.at_,.int .i64 s.si.form,.int .i64 (yu s.si.top.text),.int .i64 s.si.top.at_,.string s.si.name.text,.int .i64 s.si.name.at_] 121)).drew.heap[wr.heap.size]? = some (.cells #[.string s.name.text,.int .i64 s.name.at_,.bool s.arr,.string s.over.text,.int .i64 s.over.at_,.int .i64 s.si.form,.int .i64 (yu s.si.top.text),.int .i64 s.si.top.at_,.string s.si.name.text,.int .i64 s.si.name.at_] 121 (0,0)) from hbr) (fun e=>hI2.mc.tab.no _ _ _ _ e hbr) (by simp)
       obtain ⟨⟨d0,d1,d2,d3,d4,d5,d6,d7,d8,d9⟩,_⟩:=kzq hbr5
       obtain ⟨q0,q1,q2,q3,q4,_⟩:=zh (hN5.tk.row (ku HBX) (fun e=>ku HNR _ _ _ _ e (ku HBX)) (by decide))
       have HAV:=hide (addVar_any w5 w.heap.size so so M nb [] [] (kjd m.sets) vs (t ++ [(s.name.text,⟨true,k⟩)]) sz (.slice none 0 0) (.slice none 0 0) (.slice va vn vc) vv a0 a1 (some ⟨g,0,none⟩) a3 a4 m.sets.length m.kinds.length m.vars.length m.rules.length m.nevers.length c0 c1 c2 c3 c4 m s u hN5.mc ((ku HMD).tk hN5.tk (ku HNR) (by decide)) (ku HF) (ku HU) (by omega) (by omega) (by omega))
       unfold mdV vrV yg at HAV
       have HN5:=hide hN5
       clear hc cc fl hvw hI htk hI2 hmp5 hkp5 hN5 m0 m1 m2 m3 m4 m5 hbx hbr hbr5 b0 b1 b2 b3 b4 b5 b6 b7 b8 b9 ht3 hrest hyn hu
       go_upto_region 19 with fail
       refine jr (S:=TwoS ⟨M,4,none⟩ ⟨wr.heap.size,0,none⟩ (.map (some nb)) (.string s.name.text)) (tl:=[9]) (by kernel_rfl) ?_
       refine qj (i:=0) (v:=.pointer (some ⟨M,0,none⟩)) rfl (by kernel_rfl) (by kernel_rfl) (by kernel_rfl) (fun _ _ _ h=>h) (Or.inl ⟨by rfl,fun _ _=>by go_simp⟩) ?_
       try simp only [Act.put,List.setIfInBounds_toArray,List.set_cons_zero,List.set_cons_succ]
       refine qj (i:=1) (v:=.pointer (some ⟨M,0,none⟩)) rfl (by kernel_rfl) (by kernel_rfl) (by kernel_rfl) (fun _ _ _ h=>h) (Or.inl ⟨by rfl,fun _ _=>by go_simp⟩) ?_
       try simp only [Act.put,List.setIfInBounds_toArray,List.set_cons_zero,List.set_cons_succ]
       refine qj (i:=2) (v:=.pointer (some ⟨M,4,none⟩)) rfl (by kernel_rfl) (by kernel_rfl) (by kernel_rfl) (fun _ _ _ h=>h) (Or.inl ⟨by rfl,fun _ _=>by go_simp⟩) ?_
       try simp only [Act.put,List.setIfInBounds_toArray,List.set_cons_zero,List.set_cons_succ]
       refine qo (i:=3) (v:=.map (some nb)) [9] rfl (by kernel_rfl) (by kernel_rfl) (by kernel_rfl) (by kernel_rfl) (by decide) (fun _ _ _ h=>h) (Or.inl ⟨by rfl,fun wq hSw=>by (obtain ⟨s0,s1⟩:=hSw; go_simp)⟩) (ku HS0) ?_
       try simp only [Act.put,List.setIfInBounds_toArray,List.set_cons_zero,List.set_cons_succ]
       refine qj (i:=4) (v:=.pointer (some ⟨wr.heap.size,0,none⟩)) rfl (by kernel_rfl) (by kernel_rfl) (by kernel_rfl) (fun _ _ _ h=>h) (Or.inl ⟨by rfl,fun _ _=>by go_simp⟩) ?_
       try simp only [Act.put,List.setIfInBounds_toArray,List.set_cons_zero,List.set_cons_succ]
       refine qj (i:=5) (v:=.pointer (some ⟨wr.heap.size,0,none⟩)) rfl (by kernel_rfl) (by kernel_rfl) (by kernel_rfl) (fun _ _ _ h=>h) (Or.inl ⟨by rfl,fun _ _=>by go_simp⟩) ?_
       try simp only [Act.put,List.setIfInBounds_toArray,List.set_cons_zero,List.set_cons_succ]
       refine qo (i:=6) (v:=.string s.name.text) [9] rfl (by kernel_rfl) (by kernel_rfl) (by kernel_rfl) (by kernel_rfl) (by decide) (fun _ _ _ h=>h) (Or.inl ⟨by rfl,fun wq hSw=>by (obtain ⟨s0,s1⟩:=hSw; go_simp)⟩) (ku HS0) ?_
       try simp only [Act.put,List.setIfInBounds_toArray,List.set_cons_zero,List.set_cons_succ]
       refine qj (i:=7) (v:=.int .i64 k) rfl (by kernel_rfl) (by kernel_rfl) (by kernel_rfl) (fun _ _ _ h=>h) (Or.inl ⟨by rfl,fun _ _=>by go_simp⟩) ?_
       try simp only [Act.put,List.setIfInBounds_toArray,List.set_cons_zero,List.set_cons_succ]
       refine qj (i:=8) (v:=.agg #[.bool true,.int .i64 k]) rfl (by kernel_rfl) (by kernel_rfl) (by kernel_rfl) (fun _ _ _ h=>h) (Or.inl ⟨by rfl,fun _ _=>by go_simp⟩) ?_
       try simp only [Act.put,List.setIfInBounds_toArray,List.set_cons_zero,List.set_cons_succ]
       refine uh _ _ _ _ (kqr (by kernel_rfl)) ?_
       refine wpAny_ready (rs:=[9]) (by kernel_rfl) (by simp) (AllReady.cons rfl (fun K hK=>?_) AllReady.nil)
       go_simp
       refine hK _ _ ?_
       clear hK K
       refine wpAny_done (by kernel_rfl) ?_ _
       clear hrun
       go_wp2_with fail
       refine (ku HAV).mono ?_
       rintro e w6 ⟨rfl,⟨vv6,hm6⟩,hk6,hb6⟩
       have HN6:=hide (show NwI w W w.heap.size so M nb [] [] (kjd m.sets) (vs ++ [u]) (t ++ [(s.name.text,⟨true,k⟩)]) (sz + u.count) (.slice none 0 0) (.slice none 0 0) (.slice va vn vc) vv6 w6 from ⟨hm6,(ku HN5).tk.trans ((hk6.wide (by decide)).any _),(ku HN5).be.trans hb6⟩)
       clear hm6 hk6 hb6 HAV d0 d1 d2 d3 d4 d5 d6 d7 d8 d9 q0 q1 q2 q3 q4
       go_wp2
       go_roundw
       case rel=>exact ⟨k + 1,_,_,_,_,by omega,by go_num,ku HREST,ku HN6⟩
       case measure=>simp [intOf]; omega
      ·have : k = m.vars.length:=by omega
       subst this
       rw [List.drop_length,varsO] at hrest
       injection hrest with hrest
       subst hrest
       obtain ⟨q0,q1,q2,q3,q4,_⟩:=zh (htk.row (ku HBX) (fun e=>ku HNR _ _ _ _ e (ku HBX)) (by decide))
       have HI:=hide hI
       have hHl : w.heap.size < wr.heap.size:=by omega
       clear hI htk
       go_wp2_with fail
       go_loopw [13,89] (fun _ i wr=>∃ (k : Nat) (acc : List MStep) (sv : Value),k≤m.rules.length∧i = .int .i64 k∧stepsO m.sets (m.rules.drop k) acc = some ST∧NwI w W w.heap.size so M nb acc [] (kjd m.sets) vs t sz sv (.slice none 0 0) (.slice va vn vc) vv wr) (fun _ i _=>m.rules.length - (intOf i).toNat)
       case atStart=>exact ⟨0,[],_,Nat.zero_le _,rfl,ku HSS,ku HI⟩
       case round=>
        obtain ⟨k,acc,sv,hk,rfl,hrest,hI⟩:=hrel
        have hMl:=nw_lt hI
        have htk:=hI.tk
        have hsz:=htk.size
        clear HI
        by_cases hlt : k < m.rules.length
        ·obtain ⟨kcs,ho,hru⟩:=(ku HMD).o3
         obtain ⟨zb,zd,ez,hvw⟩:=qm (zk ho htk (ku HNR) (by decide))
         injection ez with ez1 _ ez3
         subst ez1; subst ez3
         obtain ⟨g,rfl,hg1,hg2,hc⟩:=hvw k hlt
         obtain ⟨pa,pn,pc,gp,ba,bn,bc,bcs,⟨fl0,fl1,fl2,fl3,fl4⟩,hp,hx,hbo,hbi⟩:=kjn.at_ k hlt hru
         have e0:=(hc (k * 5) (by omega)).trans fl0
         have e1:=(hc (k * 5 + 1) (by omega)).trans fl1
         have e2:=(hc (k * 5 + 2) (by omega)).trans fl2
         have e3:=(hc (k * 5 + 3) (by omega)).trans fl3
         have e4:=(hc (k * 5 + 4) (by omega)).trans fl4
         rw [List.drop_eq_getElem_cons hlt,stepsO] at hrest
         obtain ⟨c,hch,hrest⟩:=Option.bind_eq_some_iff.mp hrest
         have hcond : ruleFit m.rules[k] c acc.length = true:=by
          cases hcd : ruleFit m.rules[k] c acc.length
          ·rw [hcd] at hrest; cases hrest
          ·rfl
         rw [if_pos hcond] at hrest
         obtain ⟨hc1,hc2,hc3,hc4,hc5⟩:=ruleFit_some hcond
         have HREST:=hide hrest
         have hbx : Below wr.heap.size wr (wr.alloc (.cells #[.string m.rules[k].name.text,.int .i64 m.rules[k].name.at_,.slice pa pn pc,.pointer gp,.slice ba bn bc] 127)):=below_alloc1 _ _
         have hI2:=hI.below hbx (by omega)
         have HAS:=hide (addSteps_any (wr.alloc (.cells #[.string m.rules[k].name.text,.int .i64 m.rules[k].name.at_,.slice pa pn pc,.pointer gp,.slice ba bn bc] 127)) w.heap.size so M nb acc [] (kjd m.sets) vs t sz sv (.slice none 0 0) (.slice va vn vc) vv a0 a1 a2 (some ⟨g,0,none⟩) a4 m.sets.length m.kinds.length m.vars.length m.rules.length m.nevers.length c0 c1 c2 c3 c4 m m.rules[k] pa gp ba pn pc bn bc bcs hI2.mc ((ku HMD).tk hI2.tk (ku HNR) (by decide)) (ku HF) hc5 (zk hp hI2.tk (ku HNR) (by decide)) hc4 (hx.tk hI2.tk (ku HNR) (by decide)) (zk hbo hI2.tk (ku HNR) (by decide)) (hbi.tk hI2.tk (ku HNR) (by decide) (by decide)) c hch hc1 hc2 hc3 (by simp; omega))
         unfold mdV at HAS
         obtain ⟨q0,q1,q2,q3,q4,_⟩:=zh (htk.row (ku HBX) (fun e=>ku HNR _ _ _ _ e (ku HBX)) (by decide))
         have hHl : w.heap.size < wr.heap.size:=by omega
         have HI2:=hide hI2
         have HMK:=hide (show mkStep m.rules[k] = fun ms=>(⟨insT m.rules[k].name.text ms,m.rules[k].params,ms,m.rules[k].guard,m.rules[k].body⟩ : MStep) from rfl)
         rw [← ku HMK] at HAS
         clear HMK
         generalize mkStep m.rules[k] = mk at *
         generalize m.rules[k] = s at *
         clear hc fl0 fl1 fl2 fl3 fl4 hvw hI htk hI2 hbx hp hx hbo hbi hrest hch hcond hc1 hc2 hc3 hc4 hc5 ho hru
         go_wp2_with fail
         refine (ku HAS).mono ?_
         rintro e w6 ⟨rfl,⟨gv,gn,gc,hm6⟩,hk6,hb6⟩
         have HN6:=hide (show NwI w W w.heap.size so M nb (acc ++ c.map mk) [] (kjd m.sets) vs t sz (.slice gv gn gc) (.slice none 0 0) (.slice va vn vc) vv w6 from ⟨hm6,(ku HI2).tk.trans ((hk6.wide (by decide)).any _),(ku HI2).be.trans hb6⟩)
         clear hm6 hk6 hb6 HAS q0 q1 q2 q3 q4 e0 e1 e2 e3 e4
         go_wp2
         go_roundw
         case rel=>exact ⟨k + 1,_,_,by omega,by go_num,ku HREST,ku HN6⟩
         case measure=>simp [intOf]; omega
        ·have : k = m.rules.length:=by omega
         subst this
         rw [List.drop_length,stepsO] at hrest
         injection hrest with hrest
         subst hrest
         obtain ⟨q0,q1,q2,q3,q4,_⟩:=zh (htk.row (ku HBX) (fun e=>ku HNR _ _ _ _ e (ku HBX)) (by decide))
         have HI:=hide hI
         have hHl : w.heap.size < wr.heap.size:=by omega
         clear hI htk
         go_wp2_with fail
         go_loopw [15,101] (fun _ i wr=>∃ (k : Nat) (acc2 : List MNever) (nv : Value),k≤m.nevers.length∧i = .int .i64 k∧neversO m.sets (m.nevers.drop k) acc2 = some NV∧NwI w W w.heap.size so M nb acc acc2 (kjd m.sets) vs t sz sv nv (.slice va vn vc) vv wr) (fun _ i _=>m.nevers.length - (intOf i).toNat)
         case atStart=>exact ⟨0,[],_,Nat.zero_le _,rfl,ku HNN,ku HI⟩
         case round=>
          obtain ⟨k,acc2,nv,hk,rfl,hrest,hI⟩:=hrel
          have hMl:=nw_lt hI
          have htk:=hI.tk
          have hsz:=htk.size
          clear HI
          by_cases hlt : k < m.nevers.length
          ·obtain ⟨kcs,ho,hru⟩:=(ku HMD).o4
           obtain ⟨zb,zd,ez,hvw⟩:=qm (zk ho htk (ku HNR) (by decide))
           injection ez with ez1 _ ez3
           subst ez1; subst ez3
           obtain ⟨g,rfl,hg1,hg2,hc⟩:=hvw k hlt
           obtain ⟨pa,pn,pc,gp,⟨fl0,fl1,fl2,fl3⟩,hp,hx⟩:=kjl.at_ k hlt hru
           have e0:=(hc (k * 4) (by omega)).trans fl0
           have e1:=(hc (k * 4 + 1) (by omega)).trans fl1
           have e2:=(hc (k * 4 + 2) (by omega)).trans fl2
           have e3:=(hc (k * 4 + 3) (by omega)).trans fl3
           rw [List.drop_eq_getElem_cons hlt,neversO] at hrest
           obtain ⟨c,hch,hrest⟩:=Option.bind_eq_some_iff.mp hrest
           have hcond : ruleFit m.nevers[k] c acc2.length = true:=by
            cases hcd : ruleFit m.nevers[k] c acc2.length
            ·rw [hcd] at hrest; cases hrest
            ·rfl
           rw [if_pos hcond] at hrest
           obtain ⟨hc1,hc2,hc3,hc4,hc5⟩:=ruleFit_some hcond
           have HREST:=hide hrest
           have hbx : Below wr.heap.size wr (wr.alloc (.cells #[.string m.nevers[k].name.text,.int .i64 m.nevers[k].name.at_,.slice pa pn pc,.pointer gp] 130)):=below_alloc1 _ _
           have hI2:=hI.below hbx (by omega)
           have HAS:=hide (addNevers_any (wr.alloc (.cells #[.string m.nevers[k].name.text,.int .i64 m.nevers[k].name.at_,.slice pa pn pc,.pointer gp] 130)) w.heap.size so M nb acc acc2 (kjd m.sets) vs t sz sv nv (.slice va vn vc) vv a0 a1 a2 a3 (some ⟨g,0,none⟩) m.sets.length m.kinds.length m.vars.length m.rules.length m.nevers.length c0 c1 c2 c3 c4 m m.nevers[k] pa gp pn pc hI2.mc ((ku HMD).tk hI2.tk (ku HNR) (by decide)) (ku HF) hc5 (zk hp hI2.tk (ku HNR) (by decide)) hc4 (hx.tk hI2.tk (ku HNR) (by decide)) c hch hc1 hc2 hc3 (by simp; omega))
           unfold mdV at HAS
           obtain ⟨q0,q1,q2,q3,q4,_⟩:=zh (htk.row (ku HBX) (fun e=>ku HNR _ _ _ _ e (ku HBX)) (by decide))
           have hHl : w.heap.size < wr.heap.size:=by omega
           have HI2:=hide hI2
           have HMK:=hide (show mkNever m.nevers[k] = fun ms=>(⟨insT m.nevers[k].name.text ms,m.nevers[k].params,ms,m.nevers[k].guard⟩ : MNever) from rfl)
           rw [← ku HMK] at HAS
           clear HMK
           generalize mkNever m.nevers[k] = mk at *
           generalize m.nevers[k] = s at *
           clear hc fl0 fl1 fl2 fl3 hvw hI htk hI2 hbx hp hx hrest hch hcond hc1 hc2 hc3 hc4 hc5 ho hru
           go_wp2_with fail
           refine (ku HAS).mono ?_
           rintro e w6 ⟨rfl,⟨gv,gn,gc,hm6⟩,hk6,hb6⟩
           have HN6:=hide (show NwI w W w.heap.size so M nb acc (acc2 ++ c.map mk) (kjd m.sets) vs t sz sv (.slice gv gn gc) (.slice va vn vc) vv w6 from ⟨hm6,(ku HI2).tk.trans ((hk6.wide (by decide)).any _),(ku HI2).be.trans hb6⟩)
           clear hm6 hk6 hb6 HAS q0 q1 q2 q3 q4 e0 e1 e2 e3
           go_wp2
           go_roundw
           case rel=>exact ⟨k + 1,_,_,by omega,by go_num,ku HREST,ku HN6⟩
           case measure=>simp [intOf]; omega
          ·have : k = m.nevers.length:=by omega
           subst this
           rw [List.drop_length,neversO] at hrest
           injection hrest with hrest
           subst hrest
           have HI:=hide hI
           clear hI htk
           go_wp2
           go_ret
           exact ⟨M,nb,_,_,_,_,rfl,(ku HI).mc,(ku HI).be⟩
def bLenB : PB→Bool
 | .nil=>true
 | .node _ _ a .nil n=>bLenB n
 | .node _ _ a (.node _ _ _ t e) n=>(bLenB t && decide (vg t≤1000)) && ((bLenB e && decide (vg e≤1000)) && bLenB n)
theorem bLenB_two {i j k l : Nat} {a b : SLab} {t e n : PB} (h : bLenB (.node i j a (.node k l b t e) n) = true) : ((bLenB t = true∧vg t≤1000)∧(bLenB e = true∧vg e≤1000)∧bLenB n = true):=by
 rw [bLenB] at h
 simp only [Bool.and_eq_true,decide_eq_true_eq] at h
 exact h
theorem bLenB_ok : ∀ (b : PB),bLenB b = true→BLen b
 | .nil,_=>trivial
 | .node _ _ a .nil n,h=>bLenB_ok n h
 | .node _ _ a (.node _ _ _ t e) n,h=>⟨⟨bLenB_ok t (bLenB_two h).1.1,(bLenB_two h).1.2⟩,⟨bLenB_ok e (bLenB_two h).2.1.1,(bLenB_two h).2.1.2⟩,bLenB_ok n (bLenB_two h).2.2⟩
def tokFit (l : List Tok) : Bool:=l.all fun y=>decide (y.text.size≤1000)
theorem tokFit_ok {l : List Tok} (h : tokFit l = true) : ∀ y ∈ l,y.text.size≤1000:=fun y hy=>of_decide_eq_true (List.all_eq_true.1 h y hy)
def stepOkB (s : MStep) : Bool:=decide (s.params.length≤1000) && (tokFit (jh s.guard) && (bLenB s.block && (decide (vg s.block≤1000) && tokFit (zi s.block))))
theorem stepOkB_ok {s : MStep} (h : stepOkB s = true) : StepOk s:=by
 unfold stepOkB at h
 simp only [Bool.and_eq_true,decide_eq_true_eq] at h
 exact ⟨h.1,tokFit_ok h.2.1,bLenB_ok _ h.2.2.1,h.2.2.2.1,tokFit_ok h.2.2.2.2⟩
def nevOkB (s : MNever) : Bool:=decide (s.params.length≤1000) && tokFit (jh s.expr)
theorem nevOkB_ok {s : MNever} (h : nevOkB s = true) : NevOk s:=by
 unfold nevOkB at h
 simp only [Bool.and_eq_true,decide_eq_true_eq] at h
 exact ⟨h.1,tokFit_ok h.2⟩
def machOkB (a : Mach) : Bool:=a.steps.all stepOkB && (a.nevers.all nevOkB && (decide (a.vars.length≤1000) && (decide (a.steps.length≤1000000) && decide (a.nevers.length≤1000000))))
theorem machOkB_ok {a : Mach} (h : machOkB a = true) : MachOk a:=by
 unfold machOkB at h
 simp only [Bool.and_eq_true,decide_eq_true_eq] at h
 exact ⟨fun s hs=>stepOkB_ok (List.all_eq_true.1 h.1 s hs),fun s hs=>nevOkB_ok (List.all_eq_true.1 h.2.1 s hs),h.2.2.1,h.2.2.2.1,h.2.2.2.2⟩
def mdFitB (m : MdL) : Bool:=decide (m.sets.length≤1000) && (decide (m.kinds.length≤1000) && ((m.kinds.all fun x=>decide (x.members.length≤1000)) && (decide (m.vars.length≤1000) && (decide (m.rules.length≤1000) && decide (m.nevers.length≤1000)))))
theorem mdFitB_ok {m : MdL} (h : mdFitB m = true) : MdFit m:=by
 unfold mdFitB at h
 simp only [Bool.and_eq_true,decide_eq_true_eq] at h
 exact ⟨h.1,h.2.1,fun x hx=>of_decide_eq_true (List.all_eq_true.1 h.2.2.1 x hx),h.2.2.2.1,h.2.2.2.2.1,h.2.2.2.2.2⟩
def machO (s : ByteArray) : Option Mach:=if mdFitB (mdOf (kqn (dn s).1).1) then (newO (mdOf (kqn (dn s).1).1)).bind fun a=>if machOkB a then some a else none else none
def playO (s : ByteArray) (ts : List ByteArray) : Option MOut:=if (chkC s).1 == 0 then (machO s).bind fun a=>walkO a ts else some (noView,false,(chkC s).1,(chkC s).2)
set_option maxRecDepth 100000 in
set_option maxHeartbeats 8000000 in
theorem play_any (s : ByteArray) (w : World) (ts : List ByteArray) (pa : Option Addr) (pn pc : Nat) (hP : w.ownsRow 0 9 1 (.slice pa pn pc) ts.length (ts.map Value.string)) (htl : ts.length≤1000000) (r : MOut) (hr : playO s ts = some r) :
  Calls Tryz.prog 11 #[.string s,.slice pa pn pc] w fun e w'=>WalkPost w r e w':=by
 obtain ⟨W,hW⟩ : ∃ W,W = w.alloc (.cells #[.string ⟨#[]⟩,.slice none 0 0,.slice none 0 0,.slice none 0 0,.bool false] 24):=⟨_,rfl⟩
 have hbW : Below w.heap.size w W:=by rw [hW]; exact below_alloc1 w _
 have hsW : w.heap.size < W.heap.size:=by rw [hW]; simp
 have hR : W.heap[w.heap.size]? = some (.cells #[.string ⟨#[]⟩,.slice none 0 0,.slice none 0 0,.slice none 0 0,.bool false] 24 (0,0)):=by rw [hW]; exact qg _ _
 have HR:=hide hR
 have HBW:=hide hbW
 have HWE:=hide hW.symm
 have HP:=hide hP
 have HPL:=hide hr
 clear hP hbW hW hR hr
 go_enter Tryz.func11,Tryz.ntmps11
 go_wp2_with fail
 rw [ku HWE]
 refine (text_any s W).mono ?_
 rintro e w1 ⟨hb1,x0,x1,x2,x3,x4,rfl,hmd,⟨a0,n0,k0,rfl⟩,⟨a1,n1,k1,rfl⟩,⟨a2,n2,k2,rfl⟩,⟨a3,n3,k3,rfl⟩,⟨a4,n4,k4,rfl⟩⟩
 have hs1:=hb1.size
 have hbw1 : Below w.heap.size w w1:=(ku HBW).trans (hb1.mono (by omega))
 have hR1:=(hb1.block w.heap.size hsW).trans (ku HR)
 have hRl1:=lt_of_block hR1
 have HMD:=hide hmd
 have HB1:=hide hbw1
 have HR1:=hide hR1
 have HPO:=HPL
 unfold playO at HPL
 clear hmd hb1 hbw1 hR1 HR
 obtain ⟨c1,c2,hc⟩ : ∃ c1 c2,chkC s = (c1,c2):=⟨_,_,rfl⟩
 rw [hc] at HPL HMD ⊢
 dsimp only at HPL HMD ⊢
 clear hc HPO
 cases hc0 : (c1 == 0)
 ·have hE : r = (noView,false,c1,c2):=by
   have:=ku HPL
   rw [hc0,if_neg (by simp)] at this
   injection this with this
   exact this.symm
  subst hE
  have hcn : (c1 != 0) = true:=by simp [bne,hc0]
  obtain ⟨r0,r1,r2,r3,r4,y0,y1,y2,y3,y4⟩:=zh (ku HR1)
  clear HPL HMD
  go_wp2
  refine bodyPost_ret (v:=.tuple #[.agg #[.string ⟨#[]⟩,.slice none 0 0,.slice none 0 0,.slice none 0 0,.bool false],.int .i64 c1,.int .i64 c2]) (vk Tryz.results11 _ _ w.heap.size _ _ _ _ rfl (ql (kqd (ku HR1) _ _ _ _ _)) Tryz.underlying24 rfl (by kernel_rfl)) rfl ?_
  exact ⟨none,0,0,none,0,0,none,0,0,rfl,World.ownsRow_nil _ _ _ _,World.ownsRow_nil _ _ _ _,World.ownsRow_nil _ _ _ _,(kjt (ku HB1) _ _ _ _ _).alloc (kjt (ku HB1) _ _ _ _ _).size _⟩
 ·have hcn : (c1 != 0) = false:=by simp [bne,hc0]
  have hc00 : c1 = 0:=by simpa using hc0
  have hpl:=ku HPL
  rw [hc0,if_pos rfl] at hpl
  obtain ⟨a,ha,hwk⟩:=Option.bind_eq_some_iff.mp hpl
  unfold machO at ha
  have hfit : mdFitB (mdOf (kqn (dn s).1).1) = true:=by
   cases hcd : mdFitB (mdOf (kqn (dn s).1).1)
   ·rw [hcd] at ha; cases ha
   ·rfl
  rw [if_pos hfit] at ha
  obtain ⟨a',hnew,ha⟩:=Option.bind_eq_some_iff.mp ha
  have hmok : machOkB a' = true:=by
   cases hcd : machOkB a'
   ·rw [hcd] at ha; cases ha
   ·rfl
  rw [if_pos hmok] at ha
  injection ha with ha
  subst ha
  have hmd:=(ku HMD) hc00
  obtain ⟨wb,hwb⟩ : ∃ wb,wb = w1.alloc (.cells #[.slice a0 n0 k0,.slice a1 n1 k1,.slice a2 n2 k2,.slice a3 n3 k3,.slice a4 n4 k4] 68):=⟨_,rfl⟩
  have hbb : Below w1.heap.size w1 wb:=by rw [hwb]; exact below_alloc1 _ _
  have hsb:=hbb.size
  have HNW:=hide (new_any wb W.heap.size a0 a1 a2 a3 a4 n0 n1 n2 n3 n4 k0 k1 k2 k3 k4 _ (hmd.stay fun k _ hk=>hbb.block k hk) (mdFitB_ok hfit) a' hnew)
  unfold mdV at HNW
  have HMOK:=hide (machOkB_ok hmok)
  have HWK:=hide hwk
  have HWB:=hide hwb.symm
  have HBB:=hide ((ku HB1).trans (hbb.mono (by have:=(ku HB1).size; omega)))
  have HRB:=hide ((hbb.block _ hRl1).trans (ku HR1))
  clear HPL HMD hpl ha hwk hmok hfit hmd hbb hwb hnew hc00
  go_wp2_with fail
  rw [ku HWB]
  refine (ku HNW).mono ?_
  rintro e w2 ⟨M,nb,sv,nv,tv,vv,rfl,hmc,hb2⟩
  have hs2:=hb2.size
  have hbw2:=(ku HBB).trans (hb2.mono (by have:=(ku HBB).size; omega))
  have HWL:=hide (walk_any w2 W.heap.size M nb a' ts pa pn pc hmc.mach (ku HMOK) (qy (ku HP) hbw2) htl r (ku HWK))
  have HB2:=hide hbw2
  have HR2:=hide ((hb2.block w.heap.size (by have:=lt_of_block (ku HRB); omega)).trans (ku HRB))
  clear hmc hb2 hbw2 HNW
  go_wp2_with fail
  refine (ku HWL).mono ?_
  rintro e w3 ⟨ea,en,ec,wa,wn,wc,ba,bn,bc,rfl,hp1,hp2,hp3,hb3⟩
  have hs3:=hb3.size
  have hz2:=(ku HB2).size
  have hbw3:=(ku HB2).trans (hb3.mono hz2)
  have hR3:=(hb3.block w.heap.size (lt_of_block (ku HR2))).trans (ku HR2)
  obtain ⟨r0,r1,r2,r3,r4,y0,y1,y2,y3,y4⟩:=zh hR3
  have hRl3:=lt_of_block hR3
  have K:=set5_tk hR3 (bad:=[24]) (by decide) (.string r.1.text) (.slice ea en ec) (.slice wa wn wc) (.slice ba bn bc) (.bool r.2.1)
  have HE:=hide (show WalkPost w r (.returned (.tuple #[.agg #[.string r.1.text,.slice ea en ec,.slice wa wn wc,.slice ba bn bc,.bool r.2.1],.int .i64 r.2.2.1,.int .i64 r.2.2.2])) _ from ⟨ea,en,ec,wa,wn,wc,ba,bn,bc,rfl,zx hz2 (zk hp1 K (jy.none _) (by decide)),zx hz2 (zk hp2 K (jy.none _) (by decide)),zx hz2 (zk hp3 K (jy.none _) (by decide)),kjt hbw3 _ _ _ _ _⟩)
  have HR3:=hide hR3
  clear hp1 hp2 hp3 hb3 hbw3 hR3 K HWL
  go_wp2
  refine bodyPost_ret (v:=.tuple #[.agg #[.string r.1.text,.slice ea en ec,.slice wa wn wc,.slice ba bn bc,.bool r.2.1],.int .i64 r.2.2.1,.int .i64 r.2.2.2]) (vk Tryz.results11 _ _ w.heap.size _ _ _ _ rfl (kqd (ku HR3) _ _ _ _ _) Tryz.underlying24 rfl (by kernel_rfl)) rfl ?_
  exact ku HE
end Go.Proofs.YtpmcnonmkghokaaGreatDoor
namespace Go.Proofs.YtpmcnonmkghokaaGreatDoor
open Go.RowKit
def mtxA : ByteArray:=(⟨#[115,101,116,32,112,32,51,59,32,107,105,110,100,32,109,111,100,101,32,123,32,105,100,108,101,44,32,98,117,115,121,44,32,99,114,105,116,32,125,32,118,97,114,32,115,116,32,58,32,91,112,93,32,109,111,100,101,59,32,118,97,114,32,111,119,110,32,58,32,112,59,10,114,117,108,101,32,97,115,107,40,105,32,58,32,112,41,32,105,102,32,115,116,91,105,93,32,61,61,32,105,100,108,101,32,123,32,115,116,91,105,93,32,61,32,98,117,115,121,59,32,125,32,114,117,108,101,32,103,101,116,40,105,32,58,32,112,41,32,105,102,32,115,116,91,105,93,32,61,61,32,98,117,115,121]⟩ : ByteArray)
def mtxB : ByteArray:=(⟨#[32,38,32,111,119,110,32,61,61,32,110,111,110,101]⟩ : ByteArray)
def mtxC : ByteArray:=(⟨#[32,123,32,115,116,91,105,93,32,61,32,99,114,105,116,59,32,111,119,110,32,61,32,105,59,32,125,32,114,117,108,101,32,112,117,116,40,105,32,58,32,112,41,32,105,102,32,115,116,91,105,93,32,61,61,32,99,114,105,116,32,123,32,115,116,91,105,93,32,61,32,105,100,108,101,59,32,111,119,110,32,61,32,110,111,110,101,59,32,125,10,110,101,118,101,114,32,98,111,116,104,40,105,32,58,32,112,44,32,106,32,58,32,112,41,32,105,32,33,61,32,106,32,38,32,115,116,91,105,93,32,61,61,32,99,114,105,116,32,38,32,115,116,91,106,93,32,61,61,32,99,114,105,116,59]⟩ : ByteArray)
def mtx : ByteArray:=(mtxA ++ mtxB) ++ mtxC
def setFour : ByteArray:=(⟨#[115,101,116,32,112,32,52,59]⟩ : ByteArray)
def askOne : ByteArray:=(⟨#[97,115,107,40,49,41]⟩ : ByteArray)
def getOne : ByteArray:=(⟨#[103,101,116,40,49,41]⟩ : ByteArray)
set_option maxRecDepth 1000000 in
theorem mtx_check : chkC mtx = (0,0):=by decide +kernel
set_option maxRecDepth 1000000 in
theorem four_check : chkC setFour = (3,8):=by decide +kernel
set_option maxRecDepth 1000000 in
theorem mtx_play : (match playO mtx [askOne,getOne] with | some r=>(r.1.text.toList == [91,105,100,108,101,32,99,114,105,116,32,105,100,108,101,93,32,49]) && ((r.1.enabled.map (·.toList)) == [[97,115,107,40,48,41],[97,115,107,40,50,41],[112,117,116,40,49,41]]) && (r.1.wrong.length == 0) && (r.1.broken.length == 0) && (r.2.1 == false) && (r.2.2.1 == 0) && (r.2.2.2 == 0) | none=>false) = true:=by decide +kernel
theorem mtx_played : ∃ r,playO mtx [askOne,getOne] = some r∧r.1.text.toList = [91,105,100,108,101,32,99,114,105,116,32,105,100,108,101,93,32,49]∧r.1.enabled.map (·.toList) = [[97,115,107,40,48,41],[97,115,107,40,50,41],[112,117,116,40,49,41]]∧r.1.wrong = []∧r.1.broken = []∧r.2.1 = false∧r.2.2.1 = 0∧r.2.2.2 = 0:=by
 have h:=mtx_play
 cases hp : playO mtx [askOne,getOne] with
 | none=>rw [hp] at h; cases h
 | some r=>
  rw [hp] at h
  simp only [Bool.and_eq_true,beq_iff_eq] at h
  obtain ⟨⟨⟨⟨⟨⟨h1,h2⟩,h3⟩,h4⟩,h5⟩,h6⟩,h7⟩:=h
  exact ⟨r,rfl,h1,h2,List.eq_nil_of_length_eq_zero h3,List.eq_nil_of_length_eq_zero h4,h5,h6,h7⟩
end Go.Proofs.YtpmcnonmkghokaaGreatDoor

/- For every model that the statement writes: members that have gone elsewhere in the steps have gone so in the states, and in what is enabled, wrong, broken. Conditions: none beyond those of the given statement. -/
import Derived.Test.YtpmcnonmkghokaaGreatDoorT31
import Derived.Test.YtpmcnonmkghokaaGreatDoorT32
import Derived.Test.YtpmcnonmkghokaaGreatDoorCards
import Derived.Test.YtpmcnonmkghokaaGreatDoorTie
import Derived.ProofKit
import Derived.LaidMore
import Derived.OpenShut
import Derived.Stop.Joined
import Derived.SevenTiedAt
import Derived.ShutString
import Derived.Carry
set_option maxRecDepth 100000
set_option linter.unusedVariables false
set_option linter.unusedSimpArgs false
namespace Go.Proofs.YtpmcnonmkghokaaGreatDoor.keep
open Go.ChangeShapes Go.WideShapes Go.ChangeAt Go.RowKit
open Go.ChangeMaps (open_string shut_string)
theorem laidOut:laidOutB Tryz.prog=true:=by kernel_rfl
theorem vva:Tryz.prog.cellsOf 3=1:=by kernel_rfl
theorem own:ownKnob Tryz.prog.godebug=none:=by kernel_rfl
abbrev jke:List (String × DataW Unit):=Rows.turnedRow.laid
theorem door_met (os:Os)(args:Array Value):laidMetH Tryz.prog jke ((World.doorLaid Tryz.prog 400 os).forCall (fun _ _=>0) ⟨#[],args,[]⟩).memory:=
 laidMetH_of_parts3 (fuel:=8) (laidMet_of_run' 8 (by kernel_rfl) (by kernel_rfl)) (by kernel_rfl) (by kernel_rfl)
theorem vqc {H:Type}{enc:TypeId × Value→H}{W:World}{ca:Option Addr}{cn cc:Nat}{d:DataW H}{ps:List MemPlace}
  (h:DataW.Trod enc Tryz.prog W 0 (fun _=>true) true 31 (.slice ca cn cc) d ps) (hlt:∀ x∈ps,x.block<W.heap.size):∃ cs:List Int,cs.length=cn∧zze W ca cs:=by
 obtain ⟨fuel,hf⟩:=h;rcases open_ints Tryz.underlying31 Tryz.underlying3 vva hf with ⟨hcs,hx⟩|⟨a,len',cap',zs,hcs,_,hl,hm,hz,hx,hcell,hwz⟩
 ·simp[Value.cells] at hcs;obtain ⟨rfl,rfl,rfl⟩:=hcs;exact ⟨[],rfl,fun i hi=>by simp at hi⟩
 ·simp[Value.cells] at hcs;obtain ⟨rfl,rfl,rfl⟩:=hcs;simp only[if_true] at hz;refine ⟨zs.take cn,by rw[QV];omega,fun i hi=>?_⟩;rw[QV] at hi;obtain ⟨b,off,rfl,hc⟩:=ints_at hcell (by omega);have e:(zs.take cn).getD i 0=zs.getD i 0:=by simp[List.getD,List.getElem?_take,show i<cn by omega]
  rw[e];refine ⟨⟨b,off,rfl,?_,hc i (by omega)⟩,?_⟩
  ·simp only[Prod.mk.injEq] at hx;obtain ⟨_,rfl⟩:=hx;exact hlt (.cell b off) (MemPlace.mem_row.2 ⟨0,by omega,by simp⟩)
  ·exact bounds_i64 (hwz _ (by simp[List.getD,show i<zs.length by omega]))
theorem lifted (os:Os)(started:os.Started)(H:Type)(enc:TypeId × Value→H) :
  ReturnsInHanded {} Tryz.checked os 5 .any (fun w args=>(Rows.turnedSpec.pre enc Tryz.prog Tryz.f5 [] false w args∧laidMetH Tryz.prog jke w)∧sizedMet enc Tryz.prog Tryz.f5 (OpenSpec.ofChange Rows.turnedSpec) false w args)
   (Rows.turnedSpec.post enc Tryz.prog Tryz.f5 false true false false):=by
 refine returnsInHanded_of_change_and (C:=Tryz.checked) (X:=fun w _=>laidMetH Tryz.prog jke w) (fun _ _ _ hh h=>h.of_heap hh) own started (by kernel_rfl) Tryz.func5
  (ChangeSpec.witness_shaped (enc:=enc) (C:=Tryz.checked) (os:=os) (X:=fun w _=>laidMetH Tryz.prog jke w) false (World.doorLaid Tryz.prog 400 os) #[.slice none 0 0,.slice none 0 0,.int .i64 0] 8 rfl (World.shaped_of_RefB (by kernel_rfl) (by kernel_rfl)) (by kernel_rfl) (by kernel_rfl) (by kernel_rfl) (door_met os _)) ?_
 intro W base args ds gs before hval0 hW _ _ hL _;have hval:∀ (j:Nat) t v,Tryz.f5.params[j]?=some t→args[j]?=some v→Value.okWide Tryz.prog W .any base t v:=hval0;have hW':=hW;obtain ⟨p,q,hA0,hV,rfl,hfz,hnd⟩:=hW;have hA:DataW.TrodAll enc Tryz.prog W 0 (fun _=>true) true Tryz.f5.params.toList args.toList ds p:=hA0;rw[Tryz.params5] at hA hval;obtain ⟨v0,vs0,d0,ds0,p0,q0,hargs,rfl,rfl,h0,r0⟩:=trodAll_cons hA;obtain ⟨v1,vs1,d1,ds1,p1,q1,hargs1,rfl,rfl,h1,r1⟩:=trodAll_cons r0;obtain ⟨v2,vs2,d2,ds2,p2,q2,hargs2,rfl,rfl,h2,r2⟩:=trodAll_cons r1;obtain ⟨rfl,rfl,rfl⟩:=trodAll_nil r2;subst hargs2;subst hargs1;obtain rfl:args=#[v0,v1,v2]:=by cases args;simp_all
 obtain ⟨rfl,rfl⟩:=trodVars_none hV;obtain ⟨ra,rn,rc,rfl⟩:=okWide_slice Tryz.underlying31 (hval 0 31 v0 rfl rfl);obtain ⟨ca,cn,cc,rfl⟩:=okWide_slice Tryz.underlying31 (hval 1 31 v1 rfl rfl);obtain ⟨a2,rfl,rfl,rfl,w2⟩:=open_int Tryz.underlying3 (hval 2 3 v2 rfl rfl) h2;clear hA0 hval0;simp only[ni,lK] at hW';have z2:-9223372036854775808≤a2∧a2≤9223372036854775807:=by
  obtain ⟨x,y⟩:=Bool.and_eq_true_iff.mp w2;exact ⟨of_decide_eq_true x,of_decide_eq_true y⟩
 have hlt0:∀ x∈p0,x.block<W.heap.size:=fun x hx=>by simpa using hW'.lt x (wG _ hx)
 have hlt1:∀ x∈p1,x.block<W.heap.size:=fun x hx=>by simpa using hW'.lt x (rW _ hx)
 obtain ⟨rs,hrn,hR⟩:=vqc h0 hlt0;obtain ⟨cs,hcn,hC⟩:=vqc h1 hlt1;subst hrn;subst hcn;refine (jx3 W rs ra rc hR cs ca cc hC a2 z2.1 z2.2).mono fun e W' ⟨he,hg⟩=>?_
 subst he;refine ⟨_,rfl,_,_,_,[],p0++p1,[],hW',?_,?_,rfl,hg.frame _,fun h=>by cases h⟩
 ·exact trodAll_cons_mk (shut_bool Tryz.underlying4 _) trodAll_mk0
 ·have:=trodAll_cons_mk (Below.trod laidOut (by kernel_rfl) (of_decide_eq_true (by kernel_rfl)) h0 hg hlt0) (trodAll_cons_mk (Below.trod laidOut (by kernel_rfl) (of_decide_eq_true (by kernel_rfl)) h1 hg hlt1) (trodAll_cons_mk (shut_int (H:=H) (enc:=enc) (w:=W') (base:=0) (spare:=fun b=>decide (b<W.heap.size)) (held:=true) Tryz.underlying3 w2) trodAll_mk0));simp only[ni] at this;exact this
theorem over:Rows.TurnedSaid:=
 OpenClaim.holds_of_wide 5 Tryz.f5 rfl rfl rfl rfl rfl rfl rfl ⟨rfl,rfl,rfl,rfl,rfl⟩ rfl rfl rfl rfl rfl (by kernel_rfl) Tryz.func5 zx5
  (of_decide_eq_true (by kernel_rfl)) (by unfold Func.isWrapper;first|(rw[if_pos (by decide +kernel)];kernel_rfl)|(rw[if_neg (by decide +kernel)];exact ⟨rfl,rfl⟩))
  (fun os started H enc _=>lifted os started H enc)
end Go.Proofs.YtpmcnonmkghokaaGreatDoor.keep
namespace Go.Proofs.YtpmcnonmkghokaaGreatDoor
open Go
theorem turned_proved:Rows.TurnedCardSaid:=
 Claim7.holds_tied_plain_at .later [] [.data,.data,.data] true (true,"866e42b94a8d35afcd2281c26c94c6bb01422d5ed6fd52653700cd8dee87b256") false
  keep.over (fun _ h=>by cases h) (by kernel_rfl) (fun _ h=>by cases h) turned_row_tie rfl ⟨rfl,rfl⟩ (by kernel_rfl) rfl
  (fun f fn hf hfn=>by
   obtain rfl : f = 5:=Option.some.inj ((show Tryz.prog.funcNamed "orbits/orbitskeep.Turned" = some 5 by kernel_rfl).symm.trans hf) |>.symm
   obtain rfl:fn=Tryz.f5:=(Option.some.inj (Tryz.func5.symm.trans hfn)).symm;exact ⟨by kernel_rfl,fun j t ht=>by
    rw[Tryz.params5] at ht;have hm:t∈[31,31,3]:=by simpa using Array.mem_of_getElem? ht
    have hall:([31,31,3].all fun u=>!Tryz.prog.wantsStandIn u)=true:=by kernel_rfl
    exact (show Tryz.prog.wantsStandIn t=false by simpa using nX.1 hall t hm)⟩)
  (by kernel_rfl)
end Go.Proofs.YtpmcnonmkghokaaGreatDoor

/- For every text of a model and every list of steps the Play of the program and the Play of the reference tell the same view, the same error and the same place. Conditions: none beyond those of the given statement. -/
import Derived.Test.YtpmcnonmkghokaaGreatDoorT39
import Derived.Test.YtpmcnonmkghokaaGreatDoorT40
import Derived.Test.YtpmcnonmkghokaaGreatDoorCards
import Derived.Test.YtpmcnonmkghokaaGreatDoorTie
import Derived.ProofKit
import Derived.LaidMore
import Derived.SliceStrings
import Derived.OpenShut
import Derived.Stop.Joined
import Derived.SevenTiedAt
import Derived.ShutString
import Derived.Carry
set_option maxRecDepth 100000
set_option linter.unusedVariables false
set_option linter.unusedSimpArgs false
namespace Go.Proofs.YtpmcnonmkghokaaGreatDoor.plays
open Go.Proofs.Tryz
open Go.ChangeShapes Go.WideShapes Go.ChangeAt Go.RowKit
open Go.ChangeMaps (open_string shut_string)
theorem laidOut:laidOutB prog=true:=ah
theorem pz2:prog.cellsOf 9=1:=ah
theorem own:ownKnob prog.godebug=none:=ah
abbrev vqc:List (String×DataW Unit):=Rows.playsRow.laid
theorem door_met (os:Os)(args:Array Value):laidMetH prog vqc ((World.doorLaid prog 400 os).forCall (λ_ _=>0) ⟨#[],args,[]⟩).memory:=
 laidMetH_of_parts3 (fuel:=8) (laidMet_of_run' 8 ah ah) ah ah
theorem lifted (os:Os)(m:os.Started)(H:Type)(enc:TypeId×Value->H):
  ReturnsInHanded {} Tryz.checked os 3 .any (λw args=>(Rows.playsSpec.pre enc prog Tryz.f3 [] false w args/\laidMetH prog vqc w)/\sizedMet enc prog Tryz.f3 (OpenSpec.ofChange Rows.playsSpec) false w args)
   (Rows.playsSpec.post enc prog Tryz.f3 false true false false):=by
 refine returnsInHanded_of_change_and (C:=Tryz.checked) (X:=λw _=>laidMetH prog vqc w) (λ_ _ _ hh h=>h.of_heap hh) own m ah func3
  (ChangeSpec.witness_shaped (enc:=enc) (C:=Tryz.checked) (os:=os) (X:=λw _=>laidMetH prog vqc w) false (World.doorLaid prog 400 os) #[.string ⟨#[]⟩,.slice none 0 0] 8 rfl (World.shaped_of_RefB ah ah) ah ah ah (door_met os _)) ?_
 intro W base args ds gs K k N _ _ hL _;have d:∀(j:Nat) t v,Tryz.f3.params[j]?=some t->args[j]?=some v->Value.okWide prog W .any base t v:=k;have s:=N;obtain⟨p,q,B,Z,rfl,a4,a5⟩:=N;have M:DataW.TrodAll enc prog W 0 (λ_=>true) true Tryz.f3.params.toList args.toList ds p:=B;rw[Tryz.params3]at M d;obtain⟨R,a7,d0,a2,p0,q0,T,rfl,rfl,V,r0⟩:=trodAll_cons M;obtain⟨S,a8,d1,a3,Q,q1,u,rfl,rfl,h1,r1⟩:=trodAll_cons r0;obtain⟨rfl,rfl,rfl⟩:=trodAll_nil r1;subst u;obtain rfl:args=#[R,S]:=by cases args;simp_all
 obtain⟨rfl,rfl⟩:=trodVars_none Z;obtain⟨G,rfl,rfl,rfl,w0⟩:=open_string underlying9 (d 0 9 R rfl rfl) V;obtain⟨z,l,I,rfl⟩:=okWide_slice underlying22 (d 1 22 S rfl rfl);have L:=h1;obtain⟨fuel,hf⟩:=h1;clear B k;simp only[Qg,Qc]at s;have D:∀x∈Q,x.block<W.heap.size:=λx y=>by simpa using s.lt x y
 have f:∀cs:List ByteArray,cs.length=l->kww W z cs->qJ 3 #[.string G,.slice z l I] W λe F=>∃v,e=.returned v/\Rows.playsSpec.post enc prog Tryz.f3 false true false false W #[.string G,.slice z l I] v F:=by
  intro cs hn Y;refine(vjn W G cs z l I hn Y).mono λe F ⟨he,P⟩=>?_
  subst he;refine⟨_,rfl,_,_,_,[],Q,[],s,?_,?_,rfl,P.frame _,λh=>gY⟩
  ·exact trodAll_cons_mk (shut_bool underlying4 _) trodAll_mk0
  ·have:=trodAll_cons_mk (shut_string (H:=H) (enc:=enc) (w:=F) (base:=0) (sp:=λb=>decide (b<W.heap.size)) (held:=true) underlying9 w0) (trodAll_cons_mk (Below.trod laidOut ah (of_decide_eq_true ah) L P D) trodAll_mk0);rw[Qc,Qg]at this;exact this
 rcases open_strings underlying22 underlying9 pz2 hf with⟨c,y⟩|⟨a,a1,U,zs,c,_,hl,hm,hz,y,g,a6⟩
 ·simp[Value.cells]at c;obtain⟨rfl,rfl,rfl⟩:=c;exact f [] rfl (λi hi=>lW)
 ·simp[Value.cells]at c;obtain⟨rfl,rfl,rfl⟩:=c;simp only[if_true]at hz;refine f (zs.take l) jU (λi hi=>?_);rw[JJ]at hi;obtain⟨b,E,J⟩:=a;have A:J=none:=by simpa[Addr.add] using World.cell?_spot (g 0 aj)
  subst A;have O:=g i aj;rw[add_plain]at O;have e:(zs.take l)[i]'(by rw[JJ];exact hi)=zs.getD i ByteArray.empty:=by rw[JG];simp[List.getD,show i<zs.length by omega]
  rw[e];refine⟨b,E,rfl,?_,O⟩;simp only[Prod.mk.injEq]at y;obtain⟨_,rfl⟩:=y;exact D (.cell b E) (MemPlace.mem_row.2 ⟨0,aj,au⟩)
theorem over:Rows.PlaysSaid:=
 OpenClaim.holds_of_wide 3 Tryz.f3 rfl rfl rfl rfl rfl rfl rfl ⟨rfl,rfl,rfl,rfl,rfl⟩ rfl rfl rfl rfl rfl ah func3 jjz
  (of_decide_eq_true ah) (by unfold Func.isWrapper;first|(rw[if_pos (by decide +kernel)];kernel_rfl)|(rw[if_neg (by decide +kernel)];exact⟨rfl,rfl⟩))
  (λos a H enc _=>lifted os a H enc)
end Go.Proofs.YtpmcnonmkghokaaGreatDoor.plays
namespace Go.Proofs.YtpmcnonmkghokaaGreatDoor
open Go.Proofs.Tryz
open Go
theorem plays_proved:Rows.PlaysCardSaid:=
 Claim7.holds_tied_plain_at .later [] [.data,.data,.data] true (true,"866e42b94a8d35afcd2281c26c94c6bb01422d5ed6fd52653700cd8dee87b256") false
  plays.over (λ_ h=>gY) ah (λ_ h=>gY) plays_row_tie rfl ⟨rfl,rfl⟩ ah rfl
  (λf d e b=>by
   obtain rfl : f = 3:=Option.some.inj ((show prog.funcNamed "orbits/orbitslaw.Plays" = some 3 by kernel_rfl).symm.trans e) |>.symm
   obtain rfl:d=Tryz.f3:=(Option.some.inj (func3.symm.trans b)).symm;exact⟨ah,λj t c=>by
    rw[Tryz.params3]at c;have g:t∈[9,22]:=by simpa using Array.mem_of_getElem? c
    have a:([9,22].all λu=>!prog.wantsStandIn u)=true:=ah;exact(show prog.wantsStandIn t=false by simpa using sG.1 a t g)⟩)
  ah
end Go.Proofs.YtpmcnonmkghokaaGreatDoor

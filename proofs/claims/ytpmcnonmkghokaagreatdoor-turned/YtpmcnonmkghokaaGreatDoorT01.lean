import Derived.Test.YtpmcnonmkghokaaGreatDoorT00
import Derived.Maps.AppendAt
set_option maxHeartbeats 2000000
set_option maxRecDepth 100000
set_option linter.unusedVariables false
set_option linter.unusedSimpArgs false
namespace Go.Proofs.YtpmcnonmkghokaaGreatDoor
open Go.RowKit
theorem any_cons {α:Type}(p:α→Bool)(a:α)(l:List α):(a::l).any p=(p a||l.any p):=rfl
theorem zz6 (s:ByteArray)(w:World):Calls Tryz.prog 258 #[.string s] w fun e w'=>e=.returned (.bool (qvv s))∧w'=w:=by
 have e:qvv s=(((s.toList==[115,101,116])||(s.toList==[107,105,110,100])||(s.toList==[118,97,114])||(s.toList==[98,111,111,108])||(s.toList==[116,111])||(s.toList==[114,117,108,101])) ||
   ((s.toList==[105,102])||(s.toList==[101,108,115,101])||(s.toList==[110,101,118,101,114])||(s.toList==[116,114,117,101])||(s.toList==[102,97,108,115,101])||(s.toList==[110,111,110,101]))):=by
  have sw:∀ a b:List UInt8,(a==b)=(b==a):=fun a b=>by
   cases h:(a==b)
   ·cases h2:(b==a)
    ·rfl
    ·rw[wP] at h2;subst h2;simp at h
   ·rw[wP] at h;subst h;simp
  unfold qvv;simp only[qvi,Qi,Jt,xg,nM];simp only[sw _ s.data.toList,Q7]
 have E:=hide e;clear e;cases h1:(s.toList==[115,101,116])
 ·cases h2:(s.toList==[107,105,110,100])
  ·cases h3:(s.toList==[118,97,114])
   ·cases h4:(s.toList==[98,111,111,108])
    ·cases h5:(s.toList==[116,111])
     ·cases h6:(s.toList==[114,117,108,101])
      ·cases h7:(s.toList==[105,102])
       ·cases h8:(s.toList==[101,108,115,101])
        ·cases h9:(s.toList==[110,101,118,101,114])
         ·cases h10:(s.toList==[116,114,117,101])
          ·cases h11:(s.toList==[102,97,108,115,101])
           ·cases h12:(s.toList==[110,111,110,101]);all_goals
             go_enter Tryz.func258,Tryz.ntmps258
             go_wp2
             go_ret
             exact ⟨jf (by rw[ku E];simp[h1,h2,h3,h4,h5,h6,h7,h8,h9,h10,h11,h12]),rfl⟩
           ·go_enter Tryz.func258,Tryz.ntmps258
            go_wp2
            go_ret
            exact ⟨jf (by rw[ku E];simp[h11]),rfl⟩
          ·go_enter Tryz.func258,Tryz.ntmps258
           go_wp2
           go_ret
           exact ⟨jf (by rw[ku E];simp[h10]),rfl⟩
         ·go_enter Tryz.func258,Tryz.ntmps258
          go_wp2
          go_ret
          exact ⟨jf (by rw[ku E];simp[h9]),rfl⟩
        ·go_enter Tryz.func258,Tryz.ntmps258
         go_wp2
         go_ret
         exact ⟨jf (by rw[ku E];simp[h8]),rfl⟩
       ·go_enter Tryz.func258,Tryz.ntmps258
        go_wp2
        go_ret
        exact ⟨jf (by rw[ku E];simp[h7]),rfl⟩
      ·go_enter Tryz.func258,Tryz.ntmps258
       go_wp2
       go_ret
       exact ⟨jf (by rw[ku E];simp[h6]),rfl⟩
     ·go_enter Tryz.func258,Tryz.ntmps258
      go_wp2
      go_ret
      exact ⟨jf (by rw[ku E];simp[h5]),rfl⟩
    ·go_enter Tryz.func258,Tryz.ntmps258
     go_wp2
     go_ret
     exact ⟨jf (by rw[ku E];simp[h4]),rfl⟩
   ·go_enter Tryz.func258,Tryz.ntmps258
    go_wp2
    go_ret
    exact ⟨jf (by rw[ku E];simp[h3]),rfl⟩
  ·go_enter Tryz.func258,Tryz.ntmps258
   go_wp2
   go_ret
   exact ⟨jf (by rw[ku E];simp[h2]),rfl⟩
 ·go_enter Tryz.func258,Tryz.ntmps258
  go_wp2
  go_ret
  exact ⟨jf (by rw[ku E];simp[h1]),rfl⟩
theorem toList_empty {b:ByteArray}(h:(b.toList==[])=true):¬0<b.size:=by
 rw[wP,xg] at h;have:b.data.size=0:=by rw[←QG,h];rfl
 intro hb;have:b.size=0:=this;omega
theorem qz1 {b:ByteArray}(h:(b.toList==[])=false):0<b.size:=by
 cases hb:b.size with
 | zero=>
  have:b.data.toList=[]:=by
   apply fQ;rw[QG];exact hb
  rw[xg,this] at h;simp at h
 | succ n=>omega
theorem zz7 (t:Tok)(w:World):Calls Tryz.prog 238 #[ptV t] w fun e w'=>e=.returned (.bool (kj9 t.text 0&&!qvv t.text))∧Below w.heap.size w w':=by
 unfold ptV;cases h0:(t.text.toList==[])
 ·have hp:=qz1 h0;cases hl:kj9 t.text 0
  ·go_enter Tryz.func238,Tryz.ntmps238
   go_wp2_with fail
   refine (kz6 _ _).mono ?_;rintro e w' ⟨rfl,rfl⟩;rw[kvz hp,show inB 97 122 t.text 0=false from hl];go_wp2
   go_ret
   exact ⟨rfl,below_alloc1 _ _⟩
  ·cases hr:qvv t.text;all_goals
    go_enter Tryz.func238,Tryz.ntmps238
    go_wp2_with fail
    refine (kz6 _ _).mono ?_;rintro e w' ⟨rfl,rfl⟩;rw[kvz hp,show inB 97 122 t.text 0=true from hl];go_wp2_with fail
    refine (zz6 _ _).mono ?_;rintro e w' ⟨rfl,rfl⟩;rw[hr];go_wp2
    go_ret
    exact ⟨rfl,below_alloc1 _ _⟩
 ·have hl:kj9 t.text 0=false:=qws (toList_empty h0);go_enter Tryz.func238,Tryz.ntmps238
  go_wp2
  go_ret
  exact ⟨jf (by rw[hl];rfl),below_alloc1 _ _⟩
theorem qv5 (t:Tok)(w:World):Calls Tryz.prog 239 #[ptV t] w fun e w'=>e=.returned (.bool (kjq t.text 0))∧Below w.heap.size w w':=by
 unfold ptV;cases h0:(t.text.toList==[])
 ·have hp:=qz1 h0;go_enter Tryz.func239,Tryz.ntmps239
  go_wp2_with fail
  refine (kvo _ _).mono ?_;rintro e w' ⟨rfl,rfl⟩;rw[kvz hp];go_wp2
  go_ret
  exact ⟨rfl,below_alloc1 _ _⟩
 ·have hl:kjq t.text 0=false:=qws (toList_empty h0);go_enter Tryz.func239,Tryz.ntmps239
  go_wp2
  go_ret
  exact ⟨jf (by rw[hl]),below_alloc1 _ _⟩
structure PR where
 next:Nat
 depth:Int
 failed:Bool
 place:Int
structure Pw (w:World)(P:Nat)(v:Value)(L:List Tok)(r:PR):Prop where
 pd:w.heap[P]?=some (.cells #[v,.int .i64 r.next,.int .i64 r.depth,.bool r.failed,.int .i64 r.place] 196 (0,0))
 own:w.ownsRow 0 194 2 v L.length (bf L)
 ne:v.ownBlock≠some P
 ok:pq L
 lt:r.next<L.length
theorem kyd {w:World}{b:Nat}{x y z u t5:Value}{t:TypeId}(h:w.heap[b]?=some (.cells #[x,y,z,u,t5] t (0,0))) :
  w.cell? ⟨b,0,none⟩=some x∧w.cell? ⟨b,1,none⟩=some y∧w.cell? ⟨b,2,none⟩=some z∧w.cell? ⟨b,3,none⟩=some u∧w.cell? ⟨b,4,none⟩=some t5∧w.frozen? ⟨b,1,none⟩=false∧w.frozen? ⟨b,2,none⟩=false∧w.frozen? ⟨b,3,none⟩=false∧w.frozen? ⟨b,4,none⟩=false:=
 ⟨by rw[rD w b 0 _ _ _ h];rfl,by rw[rD w b 1 _ _ _ h];rfl,by rw[rD w b 2 _ _ _ h];rfl,by rw[rD w b 3 _ _ _ h];rfl,by rw[rD w b 4 _ _ _ h];rfl,tY w b 1 _ _ h,tY w b 2 _ _ h,tY w b 3 _ _ h,tY w b 4 _ _ h⟩
theorem jz3 {w:World}{b:Nat}{x y z u s:Value}{t:TypeId}(h:w.heap[b]?=some (.cells #[x,y,z,u,s] t (0,0)))(n:Value):(w.setCell ⟨b,1,none⟩ n).heap[b]?=some (.cells #[x,n,z,u,s] t (0,0)):=heap_setCell_same w b 1 _ _ _ h
theorem vvj {w:World}{b:Nat}{x y z u s:Value}{t:TypeId}(h:w.heap[b]?=some (.cells #[x,y,z,u,s] t (0,0)))(n:Value):(w.setCell ⟨b,2,none⟩ n).heap[b]?=some (.cells #[x,y,n,u,s] t (0,0)):=heap_setCell_same w b 2 _ _ _ h
theorem vvq {w:World}{b:Nat}{x y z u s:Value}{t:TypeId}(h:w.heap[b]?=some (.cells #[x,y,z,u,s] t (0,0)))(n:Value):(w.setCell ⟨b,3,none⟩ n).heap[b]?=some (.cells #[x,y,z,n,s] t (0,0)):=heap_setCell_same w b 3 _ _ _ h
theorem vv9 {w:World}{b:Nat}{x y z u s:Value}{t:TypeId}(h:w.heap[b]?=some (.cells #[x,y,z,u,s] t (0,0)))(n:Value):(w.setCell ⟨b,4,none⟩ n).heap[b]?=some (.cells #[x,y,z,u,n] t (0,0)):=heap_setCell_same w b 4 _ _ _ h
theorem Pw.kept {w w':World}{P:Nat}{v:Value}{L:List Tok}{r r':PR}(h:Pw w P v L r)(hk:Kept P w w')
  (hr:w'.heap[P]?=some (.cells #[v,.int .i64 r'.next,.int .i64 r'.depth,.bool r'.failed,.int .i64 r'.place] 196 (0,0))) (hl:r'.next<L.length):Pw w' P v L r':=
 ⟨hr,qww h.own h.ne hk,h.ne,h.ok,hl⟩
theorem Pw.below {w w':World}{P:Nat}{v:Value}{L:List Tok}{r:PR}(h:Pw w P v L r)(hk:Below w.heap.size w w'):Pw w' P v L r:=
 h.kept (.of_below hk) (by rw[hk.block P (wX h.pd)];exact h.pd) h.lt
theorem qyy:∀ (L:List Tok) (k:Nat),k<L.length→(bf L)[k * 2]?=some (.string (tk L k).text)∧(bf L)[k * 2+1]?=some (.int .i64 (tk L k).at_)
 | [],k,h=>by simp at h
 | a::L,0,_=>⟨rfl,rfl⟩
 | a::L,k+1,h=>by
  have ih:=qyy L k (by simpa using h);have e:∀ i,(bf (a::L))[i+2]?=(bf L)[i]?:=fun i=>by
   show (kqq a++bf L)[i+2]?=_;rw[rC (by simp[kqq])];simp[kqq]
  have t1:tk (a::L) (k+1)=tk L k:=by simp[tk]
  rw[t1,show (k+1) * 2=k * 2+2 by omega,e,show k * 2+2+1=(k * 2+1)+2 by omega,e];exact ih
theorem Pw.open {w:World}{P:Nat}{v:Value}{L:List Tok}{r:PR}(h:Pw w P v L r) :
  ∃ g cap,v=.slice (some ⟨g,0,none⟩) L.length cap∧g≠P∧g<w.heap.size∧P<w.heap.size∧w.cell? ⟨g,r.next * 2,none⟩=some (.string (tk L r.next).text)∧w.cell? ⟨g,r.next * 2+1,none⟩=some (.int .i64 (tk L r.next).at_):=by
 obtain ⟨h1,h2⟩:=h.own;have hlt:=h.lt;rcases h2 with ⟨_,h2⟩|⟨g,cap,cur,hv,hg,hh,h3,h4,h5,h6⟩
 ·omega
 ·have hat:=qyy L r.next hlt;refine ⟨g,cap,hv,fun e=>h.ne (by rw[hv];simp[Value.ownBlock,e]),wX hh,wX h.pd,?_⟩;have hc:∀ j,j<L.length * 2→w.cell? ⟨g,j,none⟩=(bf L)[j]?:=fun j hj=>by
   rw[rD w g j _ _ _ hh,←h6,Qq hj];simp
  exact ⟨(hc _ (by omega)).trans hat.1,(hc _ (by omega)).trans hat.2⟩
theorem qzq (w:World)(P:Nat)(v:Value)(L:List Tok)(r:PR)(h:Pw w P v L r) :
  Calls Tryz.prog 152 #[.pointer (some ⟨P,0,none⟩)] w fun e w'=>e=.returned (ptV (tk L r.next))∧Below w.heap.size w w':=by
 obtain ⟨c0,c1,c2,c3,c4,_⟩:=kyd h.pd;obtain ⟨g,cap,rfl,hg,hgl,hPl,t0,t1⟩:=h.open;have hlt:=h.lt;have hlen:=h.ok.len;generalize tk L r.next=t at *;obtain ⟨n,d,b,a⟩:=r;simp only at *;clear h;go_enter Tryz.func152,Tryz.ntmps152
 go_wp2
 go_region
 go_wp2
 refine rY (v:=ptV t) (by simp[results,Tryz.results152,go_sem,ptV]) rfl ?_;exact ⟨rfl,qy3 w _⟩
theorem Tryz.fTok0 (a:ByteArray)(b:Int)(w:World):(Instr.field 194 (.agg #[.string a,.int .i64 b]) 0).run Tryz.prog w=.ok (.string a) w:=by kernel_rfl
theorem Tryz.fTok1 (a:ByteArray)(b:Int)(w:World):(Instr.field 194 (.agg #[.string a,.int .i64 b]) 1).run Tryz.prog w=.ok (.int .i64 b) w:=by kernel_rfl
theorem jx4 (s:ByteArray)(w:World)(P:Nat)(v:Value)(L:List Tok)(r:PR)(h:Pw w P v L r) :
  Calls Tryz.prog 89 #[.pointer (some ⟨P,0,none⟩),.string s] w fun e w'=>e=.returned (.bool ((tk L r.next).text.toList==s.toList))∧Below w.heap.size w w':=by
 go_enter Tryz.func89,Tryz.ntmps89
 go_wp2_with fail
 refine (qzq w P v L r h).mono ?_;rintro e w1 ⟨rfl,hb⟩;have hf0:=Tryz.fTok0 (tk L r.next).text (tk L r.next).at_;unfold ptV;go_wp2
 go_ret
 exact ⟨rfl,hb⟩
def kxx (L:List Tok)(r:PR):PR:={ next:=L.length-1,depth:=r.depth,failed:=true,place:=if r.failed then r.place else (tk L r.next).at_ }
theorem qqs (w:World)(P:Nat)(v:Value)(L:List Tok)(r:PR)(h:Pw w P v L r) :
  Calls Tryz.prog 90 #[.pointer (some ⟨P,0,none⟩)] w fun e w'=>e=.returned (.tuple #[])∧Pw w' P v L (kxx L r)∧Kept P w w':=by
 obtain ⟨c0,c1,c2,c3,c4,f1,f2,f3,f4⟩:=kyd h.pd;have hpos:=h.ok.pos;have hlen:=h.ok.len;obtain ⟨g,cap,hv,_⟩:=h.open;cases hf:r.failed
 ·rw[hf] at c3;have h1:Pw (w.setCell ⟨P,3,none⟩ (.bool true)) P v L { r with failed:=true }:=h.kept ((Kept.refl _ _).kki _ _) (vvq h.pd _) h.lt;have H:=hide h;have H1:=hide h1;clear h h1;go_enter Tryz.func90,Tryz.ntmps90
  go_wp2_with fail
  refine (qzq _ P v L _ (ku H1)).mono ?_;rintro e w1 ⟨rfl,hb⟩;have h2:=(ku H1).below hb;have hk2:Kept P w w1:=((Kept.refl _ _).kki _ _).trans (.of_below hb);clear c0 c1 c2 c3 c4 f1 f2 f3 f4 hb;obtain ⟨c0,c1,c2,c3,c4,f1,f2,f3,f4⟩:=kyd h2.pd;have H2:=hide h2;have HK:=hide hk2;subst hv;clear h2 hk2;have hf1:=Tryz.fTok1 (tk L r.next).text (tk L r.next).at_;unfold ptV;go_wp2
  go_end0
  refine ⟨rfl,(ku H2).kept (((Kept.refl _ _).kki _ _).kki _ _) ?_ (by show L.length-1<_;omega),(ku HK).trans (((Kept.refl _ _).kki _ _).kki _ _)⟩;have:=jz3 (vv9 (ku H2).pd (.int .i64 (tk L r.next).at_)) (.int .i64 ((L.length:Int)-1));rw[show kxx L r=⟨L.length-1,r.depth,true,(tk L r.next).at_⟩ by unfold kxx;rw[hf];rfl];rw[show ((L.length-1:Nat):Int)=(L.length:Int)-1 by omega];exact this
 ·rw[hf] at c3;have H:=hide h;clear h;subst hv;go_enter Tryz.func90,Tryz.ntmps90
  go_wp2
  go_end0
  refine ⟨rfl,(ku H).kept ((Kept.refl _ _).kki _ _) ?_ (by show L.length-1<_;omega),(Kept.refl _ _).kki _ _⟩;have hp:=(ku H).pd;rw[hf] at hp;have:=jz3 hp (.int .i64 ((L.length:Int)-1));rw[show kxx L r=⟨L.length-1,r.depth,true,r.place⟩ by unfold kxx;rw[hf];rfl];rw[show ((L.length-1:Nat):Int)=(L.length:Int)-1 by omega];exact this
theorem pq.fin {L:List Tok}(h:pq L){i:Nat}(hi:i<L.length)(hk:((tk L i).text.toList==[])=false):i+1<L.length:=by
 have hp:=h.pos;by_cases e:i+1<L.length
 ·exact e
 ·have:i=L.length-1:=by omega
  subst this;rw[(h.ok _ hi).fin,h.last] at hk;cases hk
theorem pq.lastText {L:List Tok}(h:pq L):(tk L (L.length-1)).text.toList=[]:=by
 have hp:=h.pos;have:=(h.ok (L.length-1) (by omega)).fin;rw[h.last,wP] at this;exact this
theorem Pw.step {w:World}{P:Nat}{v:Value}{L:List Tok}{r:PR}(h:Pw w P v L r)(h1:r.next+1<L.length):Pw (w.setCell ⟨P,1,none⟩ (.int .i64 ((r.next:Int)+1))) P v L { r with next:=r.next+1 }:=
 h.kept (r':={ r with next:=r.next+1 }) ((Kept.refl _ _).kki _ _) (jz3 h.pd _) h1
def isR (L:List Tok)(s:List UInt8)(r:PR):Bool:=(tk L r.next).text.toList==s
def zzf (L:List Tok)(s:List UInt8)(r:PR):PR:=if isR L s r then { r with next:=r.next+1 } else r
def kvg (L:List Tok)(s:List UInt8)(r:PR):PR:=if isR L s r then { r with next:=r.next+1 } else kxx L r
theorem zzw (L:List Tok)(s:List UInt8)(r:PR):(kvg L s r).depth=r.depth:=by unfold kvg;split<;>rfl
def zjt (L:List Tok)(s:List UInt8)(d:Int)(r:PR):PR:=if r.depth==12 then kxx L r else { kvg L s r with depth:=d }
theorem zzs (s:ByteArray)(w:World)(P:Nat)(v:Value)(L:List Tok)(r:PR)(h:Pw w P v L r)(hs:(s.toList==[])=false) :
  Calls Tryz.prog 205 #[.pointer (some ⟨P,0,none⟩),.string s] w fun e w'=>e=.returned (.bool (isR L s.toList r))∧Pw w' P v L (zzf L s.toList r)∧Kept P w w':=by
 go_enter Tryz.func205,Tryz.ntmps205
 go_wp2_with fail
 refine (jx4 s w P v L r h).mono ?_;rintro e w1 ⟨rfl,hb⟩;have h1:=h.below hb;have HK:=hide (Kept.of_below (R:=P) hb);clear h hb;rw[show ((tk L r.next).text.toList==s.toList)=isR L s.toList r from rfl];cases hq:isR L s.toList r
 ·have HA:=hide (show zzf L s.toList r=r by unfold zzf;rw[hq];rfl);have H1:=hide h1;clear h1;go_wp2
  go_ret
  rw[ku HA];exact ⟨jf hq.symm,ku H1,ku HK⟩
 ·have hlt:r.next+1<L.length:=h1.ok.fin h1.lt (by unfold isR at hq;rw[wP] at hq;rw[hq];exact hs);have hlen:=h1.ok.len;have HA:=hide (show zzf L s.toList r={ r with next:=r.next+1 } by unfold zzf;rw[hq];rfl);obtain ⟨c0,c1,c2,c3,c4,f1,f2,f3,f4⟩:=kyd h1.pd;have H1:=hide h1;clear h1;go_wp2
  go_ret
  rw[ku HA];exact ⟨jf hq.symm,(ku H1).step hlt,(ku HK).trans ((Kept.refl _ _).kki _ _)⟩
theorem qks (s:ByteArray)(w:World)(P:Nat)(v:Value)(L:List Tok)(r:PR)(h:Pw w P v L r)(hs:(s.toList==[])=false) :
  Calls Tryz.prog 201 #[.pointer (some ⟨P,0,none⟩),.string s] w fun e w'=>e=.returned (.tuple #[])∧Pw w' P v L (kvg L s.toList r)∧Kept P w w':=by
 go_enter Tryz.func201,Tryz.ntmps201
 go_wp2_with fail
 refine (zzs s w P v L r h hs).mono ?_;rintro e w1 ⟨rfl,h1,hk⟩;have HK:=hide hk;clear h hk;cases hq:isR L s.toList r
 ·have HA:=hide (show kvg L s.toList r=kxx L r by unfold kvg;rw[hq];rfl);rw[show zzf L s.toList r=r by unfold zzf;rw[hq];rfl] at h1;have H1:=hide h1;clear h1;go_wp2_with fail
  refine (qqs _ P v L _ (ku H1)).mono ?_;rintro e w2 ⟨rfl,h2,hk2⟩;have H2:=hide h2;have HK2:=hide hk2;clear h2 hk2;go_wp2
  go_end0
  rw[ku HA];exact ⟨rfl,ku H2,(ku HK).trans (ku HK2)⟩
 ·have HA:=hide (show kvg L s.toList r={ r with next:=r.next+1 } by unfold kvg;rw[hq];rfl);rw[show zzf L s.toList r={ r with next:=r.next+1 } by unfold zzf;rw[hq];rfl] at h1;have H1:=hide h1;clear h1;go_wp2
  go_end0
  rw[ku HA];exact ⟨rfl,ku H1,ku HK⟩
theorem Pw.qv9 {w:World}{P:Nat}{v:Value}{L:List Tok}{r:PR}(h:Pw w P v L r)(d:Int):Pw (w.setCell ⟨P,2,none⟩ (.int .i64 d)) P v L { r with depth:=d }:=
 h.kept (r':={ r with depth:=d }) ((Kept.refl _ _).kki _ _) (vvj h.pd _) h.lt
theorem open_any (s:ByteArray)(w:World)(P:Nat)(v:Value)(L:List Tok)(r:PR)(h:Pw w P v L r)(hs:(s.toList==[])=false) :
  Calls Tryz.prog 204 #[.pointer (some ⟨P,0,none⟩),.string s] w fun e w'=>e=.returned (.tuple #[]) ∧
   (∃ d,Pw w' P v L (zjt L s.toList d r)∧(-1000≤r.depth→r.depth≤1000→d=r.depth+1))∧Kept P w w':=by
 obtain ⟨c0,c1,c2,c3,c4,f1,f2,f3,f4⟩:=kyd h.pd;cases h12:(r.depth==12)
 ·have H:=hide h;clear h;go_enter Tryz.func204,Tryz.ntmps204
  go_wp2_with fail
  refine (qks s w P v L r (ku H) hs).mono ?_;rintro e w1 ⟨rfl,h1,hk⟩;have hd:=zzw L s.toList r;have h1':Pw w1 P v L (kvg L s.toList r):=h1;have HO:=hide (show ∀ d,zjt L s.toList d r={ kvg L s.toList r with depth:=d } from fun d=>by unfold zjt;rw[h12];rfl);clear c0 c1 c2 c3 c4 f1 f2 f3 f4 H h1;obtain ⟨c0,c1,c2,c3,c4,f1,f2,f3,f4⟩:=kyd h1'.pd;have H1:=hide h1';have HK:=hide hk;rw[hd] at c2;have HD:=hide hd;clear h1' hk hd;by_cases hb:-1000≤r.depth∧r.depth≤1000
  ·go_wp2
   go_end0
   exact ⟨rfl,⟨r.depth+1,by rw[ku HO];exact (ku H1).qv9 _,fun _ _=>rfl⟩,(ku HK).trans ((Kept.refl _ _).kki _ _)⟩
  ·go_wp2
   go_end0
   exact ⟨rfl,⟨_,by rw[ku HO];exact (ku H1).qv9 _,fun x y=>absurd ⟨x,y⟩ hb⟩,(ku HK).trans ((Kept.refl _ _).kki _ _)⟩
 ·have H:=hide h;clear h;go_enter Tryz.func204,Tryz.ntmps204
  go_wp2_with fail
  refine (qqs _ P v L _ (ku H)).mono ?_;rintro e w2 ⟨rfl,h2,hk2⟩;have H2:=hide h2;have HK2:=hide hk2;clear h2 hk2;go_wp2
  refine rY (v:=.tuple #[]) (by simp[results,Tryz.results204]) rfl ?_;exact ⟨rfl,⟨r.depth+1,by rw[show zjt L s.toList (r.depth+1) r=kxx L r by unfold zjt;rw[h12];rfl];exact ku H2,fun _ _=>rfl⟩,ku HK2⟩
theorem vqk (s:ByteArray)(w:World)(P:Nat)(v:Value)(L:List Tok)(r:PR)(h:Pw w P v L r)(hs:(s.toList==[])=false) :
  Calls Tryz.prog 206 #[.pointer (some ⟨P,0,none⟩),.string s] w fun e w'=>e=.returned (.tuple #[]) ∧
   (∃ d,Pw w' P v L { kvg L s.toList r with depth:=d }∧(-1000≤r.depth→r.depth≤1000→d=r.depth-1))∧Kept P w w':=by
 go_enter Tryz.func206,Tryz.ntmps206
 go_wp2_with fail
 refine (qks s w P v L r h hs).mono ?_;rintro e w1 ⟨rfl,h1,hk⟩;have hd:=zzw L s.toList r;have h1':Pw w1 P v L (kvg L s.toList r):=h1;clear h h1;obtain ⟨c0,c1,c2,c3,c4,f1,f2,f3,f4⟩:=kyd h1'.pd;have H1:=hide h1';have HK:=hide hk;rw[hd] at c2;have HD:=hide hd;clear h1' hk hd;by_cases hb:-1000≤r.depth∧r.depth≤1000
 ·go_wp2
  go_end0
  exact ⟨rfl,⟨_,(ku H1).qv9 _,fun _ _=>rfl⟩,(ku HK).trans ((Kept.refl _ _).kki _ _)⟩
 ·go_wp2
  go_end0
  exact ⟨rfl,⟨_,(ku H1).qv9 _,fun x y=>absurd ⟨x,y⟩ hb⟩,(ku HK).trans ((Kept.refl _ _).kki _ _)⟩
def nameB (L:List Tok)(r:PR):Bool:=kj9 (tk L r.next).text 0&&!qvv (tk L r.next).text
def vkj (L:List Tok)(r:PR):Tok:=if nameB L r then tk L r.next else jk
def vkz (L:List Tok)(r:PR):PR:=if nameB L r then { r with next:=r.next+1 } else kxx L r
def vwi (L:List Tok)(r:PR):PR:=if kjq (tk L r.next).text 0 then { r with next:=r.next+1 } else kxx L r
def vwe (L:List Tok)(r:PR):Tok:=if kjq (tk L r.next).text 0 then tk L r.next else jk
def dgV (t:Tok):Value:=.agg #[.int .i64 (gu t.text),.int .i64 t.at_]
theorem yj {w:World}{b:Nat}{x y:Value}{t:TypeId}(h:w.heap[b]?=some (.cells #[x,y] t (0,0))) :
  w.cell? ⟨b,0,none⟩=some x∧w.cell? ⟨b,1,none⟩=some y∧w.frozen? ⟨b,0,none⟩=false∧w.frozen? ⟨b,1,none⟩=false:=
 ⟨by rw[rD w b 0 _ _ _ h];rfl,by rw[rD w b 1 _ _ _ h];rfl,tY w b 0 _ _ h,tY w b 1 _ _ h⟩
theorem set2 {w:World}{b:Nat}{x y:Value}{t:TypeId}(h:w.heap[b]?=some (.cells #[x,y] t (0,0)))(m n:Value):((w.setCell ⟨b,0,none⟩ m).setCell ⟨b,1,none⟩ n).heap[b]?=some (.cells #[m,n] t (0,0)):=
 heap_setCell_same _ b 1 _ _ _ (heap_setCell_same w b 0 _ _ _ h)
theorem zkt {b:ByteArray}(h:inB 97 122 b 0=true∨inB 48 57 b 0=true):(b.toList==[])=false:=by
 cases hb:(b.toList==[])
 ·rfl
 ·have:=toList_empty hb;rcases h with h|h<;>(rw[qws this] at h;cases h)
theorem Pw.setOther {w:World}{P:Nat}{v:Value}{L:List Tok}{r:PR}{B:Nat}(h:Pw w P v L r)(hB:∀ g,v.ownBlock=some g→g<B)(hP:P<B){p:Addr}(hp:B≤p.block)(u:Value):Pw (w.setCell p u) P v L r:=by
 refine ⟨by rw[ru _ _ _ _ (by omega)];exact h.pd,?_,h.ne,h.ok,h.lt⟩;exact ownsRow_setCell_other h.own (fun e=>by have:=hB _ e;omega) u
theorem name_any (w:World)(P:Nat)(v:Value)(L:List Tok)(r:PR)(h:Pw w P v L r) :
  Calls Tryz.prog 202 #[.pointer (some ⟨P,0,none⟩)] w fun e w'=>e=.returned (ptV (vkj L r))∧Pw w' P v L (vkz L r)∧Kept P w w':=by
 have hX:P<w.heap.size:=wX h.pd;have HV:=hide (kqa h.own);have hlen:=h.ok.len;go_enter Tryz.func202,Tryz.ntmps202
 go_wp2_with fail
 refine (qzq _ P v L r (h.below (below_alloc1 _ _))).mono ?_;rintro e w1 ⟨rfl,hb⟩;have h1:Pw w1 P v L r:=h.below ((below_alloc1 w _).trans (hb.mono (by simp)));have hk1:Kept P w w1:=.of_below ((below_alloc1 w _).trans (hb.mono (by simp)));have hx1:=(hb.block w.heap.size (by simp)).trans (heap_alloc_new _ _);have hs1:=wX hx1;have H1:=hide h1;have HK1:=hide hk1;have HX1:=hide hx1;have hpos:=h1.ok.fin h1.lt;have HN:=hide (show vkj L r=if nameB L r then tk L r.next else jk from rfl);have HR:=hide (show vkz L r=if nameB L r then { r with next:=r.next+1 } else kxx L r from rfl);clear h h1 hb hk1 hx1;unfold ptV;go_wp2_with fail
 refine (zz7 (tk L r.next) _).mono ?_;rintro e w2 ⟨rfl,hb2⟩;have hlt2:nameB L r=true→r.next+1<L.length:=fun hn=>hpos (zkt (Or.inl (by unfold nameB at hn;rw[wY] at hn;exact hn.1)))
 rw[show (kj9 (tk L r.next).text 0&&!qvv (tk L r.next).text)=nameB L r from rfl];have hx2:=(hb2.block w.heap.size (by simp;omega)).trans ((nZ w1 _ _ hs1).trans (ku HX1));have ht2:=(hb2.block w1.heap.size (by simp)).trans (heap_alloc_new _ _);have h2:Pw w2 P v L r:=(ku H1).below ((below_alloc1 w1 _).trans (hb2.mono (by simp)));have hk2:Kept P w w2:=(ku HK1).trans (.of_below ((below_alloc1 w1 _).trans (hb2.mono (by simp))));have hsz2:=hb2.size;simp only[tJ] at hsz2;have HK2:=hide hk2;clear hb2 hk2 HX1 H1 HK1 hpos;cases hn:nameB L r
 ·rw[hn] at HN HR;have H2:=hide h2;have HX2:=hide hx2;clear h2 hx2 ht2;go_wp2_with fail
  refine (qqs _ P v L _ (ku H2)).mono ?_;rintro e w3 ⟨rfl,h3,hk3⟩;have hx3:=(hk3.block w.heap.size (wX (ku HX2)) (by omega)).trans (ku HX2);obtain ⟨d0,d1,e0,e1⟩:=yj hx3;have H3:=hide h3;have HX3:=hide hx3;have HK3:=hide ((ku HK2).trans hk3);clear h3 hk3 hx3;go_wp2
  refine rY (v:=ptV jk) (rZ Tryz.results202 _ _ w.heap.size _ _ _ _ rfl (set2 (ku HX3) _ _) Tryz.underlying107 rfl (by kernel_rfl)) rfl ?_;rw[ku HN,ku HR];exact ⟨rfl,((ku H3).setOther (ku HV) hX (by simp) _).setOther (ku HV) hX (by simp) _,((ku HK3).jm (by simp) _).jm (by simp) _⟩
 ·rw[hn] at HN HR;have hlt:=hlt2 hn;obtain ⟨c0,c1,c2,c3,c4,f1,f2,f3,f4⟩:=kyd h2.pd;obtain ⟨d0,d1,e0,e1⟩:=yj hx2;obtain ⟨g0,g1,_,_⟩:=yj ht2;have H2:=hide h2;have HX2:=hide (hx2);clear h2 hx2 ht2;generalize tk L r.next=t at *;go_wp2
  refine rY (v:=ptV t) (rZ Tryz.results202 _ _ w.heap.size _ _ _ _ rfl (set2 (by rw[ru _ _ _ _ (by simp;omega)];exact ku HX2) _ _) Tryz.underlying107 rfl (by kernel_rfl)) rfl ?_;rw[ku HN,ku HR];exact ⟨rfl,(((ku H2).step hlt).setOther (ku HV) hX (by simp) _).setOther (ku HV) hX (by simp) _,(((ku HK2).kki _ _).jm (by simp) _).jm (by simp) _⟩
theorem jy9 {b:ByteArray}(h:kjq b 0=true):∃ hp:0<b.size,48≤((b[0]'hp).toNat:Int)∧((b[0]'hp).toNat:Int)≤57:=by
 unfold kjq inB at h;by_cases hp:0<b.size
 ·rw[dif_pos hp] at h;simp at h;exact ⟨hp,by omega,by omega⟩
 ·rw[dif_neg hp] at h;cases h
theorem jzx (w:World)(P:Nat)(v:Value)(L:List Tok)(r:PR)(h:Pw w P v L r) :
  Calls Tryz.prog 203 #[.pointer (some ⟨P,0,none⟩)] w fun e w'=>e=.returned (dgV (vwe L r))∧Pw w' P v L (vwi L r)∧Kept P w w':=by
 have hX:P<w.heap.size:=wX h.pd;have HV:=hide (kqa h.own);have hlen:=h.ok.len;go_enter Tryz.func203,Tryz.ntmps203
 go_wp2_with fail
 refine (qzq _ P v L r (h.below (below_alloc1 _ _))).mono ?_;rintro e w1 ⟨rfl,hb⟩;have h1:Pw w1 P v L r:=h.below ((below_alloc1 w _).trans (hb.mono (by simp)));have hk1:Kept P w w1:=.of_below ((below_alloc1 w _).trans (hb.mono (by simp)));have hx1:=(hb.block w.heap.size (by simp)).trans (heap_alloc_new _ _);have hs1:=wX hx1;have H1:=hide h1;have HK1:=hide hk1;have HX1:=hide hx1;have hpos:=h1.ok.fin h1.lt;have HN:=hide (show vwe L r=if kjq (tk L r.next).text 0 then tk L r.next else jk from rfl);have HR:=hide (show vwi L r=if kjq (tk L r.next).text 0 then { r with next:=r.next+1 } else kxx L r from rfl);clear h h1 hb hk1 hx1;unfold ptV;go_wp2_with fail
 refine (qv5 (tk L r.next) _).mono ?_;rintro e w2 ⟨rfl,hb2⟩;have hlt2:kjq (tk L r.next).text 0=true→r.next+1<L.length:=fun hn=>hpos (zkt (Or.inr hn))
 have hx2:=(hb2.block w.heap.size (by simp;omega)).trans ((nZ w1 _ _ hs1).trans (ku HX1));have ht2:=(hb2.block w1.heap.size (by simp)).trans (heap_alloc_new _ _);have h2:Pw w2 P v L r:=(ku H1).below ((below_alloc1 w1 _).trans (hb2.mono (by simp)));have hk2:Kept P w w2:=(ku HK1).trans (.of_below ((below_alloc1 w1 _).trans (hb2.mono (by simp))));have hsz2:=hb2.size;simp only[tJ] at hsz2;have HK2:=hide hk2;clear hb2 hk2 HX1 H1 HK1 hpos;cases hn:kjq (tk L r.next).text 0
 ·rw[hn] at HN HR;have H2:=hide h2;have HX2:=hide hx2;clear h2 hx2 ht2;go_wp2_with fail
  refine (qqs _ P v L _ (ku H2)).mono ?_;rintro e w3 ⟨rfl,h3,hk3⟩;have hx3:=(hk3.block w.heap.size (wX (ku HX2)) (by omega)).trans (ku HX2);obtain ⟨d0,d1,e0,e1⟩:=yj hx3;have H3:=hide h3;have HX3:=hide hx3;have HK3:=hide ((ku HK2).trans hk3);clear h3 hk3 hx3;go_wp2
  refine rY (v:=dgV jk) (rZ Tryz.results203 _ _ w.heap.size _ _ _ _ rfl (set2 (ku HX3) _ _) Tryz.underlying109 rfl (by kernel_rfl)) rfl ?_;rw[ku HN,ku HR];exact ⟨rfl,((ku H3).setOther (ku HV) hX (by simp) _).setOther (ku HV) hX (by simp) _,((ku HK3).jm (by simp) _).jm (by simp) _⟩
 ·rw[hn] at HN HR;have hlt:=hlt2 hn;obtain ⟨hp0,hp1,hp2⟩:=jy9 hn;have HD:=hide (show gu (tk L r.next).text=(((tk L r.next).text[0]'hp0).toNat:Int)-48 by simp[gu,hp0]);obtain ⟨c0,c1,c2,c3,c4,f1,f2,f3,f4⟩:=kyd h2.pd;obtain ⟨d0,d1,e0,e1⟩:=yj hx2;obtain ⟨g0,g1,_,_⟩:=yj ht2;have H2:=hide h2;have HX2:=hide (hx2);have hx2':=hx2;have hw1:=wX ht2;clear h2 hx2 ht2;have hgs:=wX hx2';generalize tk L r.next=t at *;go_wp2
  go_region
  go_wp2
  have hfin:(((w2.setCell ⟨P,1,none⟩ (.int .i64 ((r.next:Int)+1))).setCell ⟨w.heap.size,0,none⟩ (.int .i64 (((t.text[0]'hp0).toNat:Int)-48))).setCell ⟨w.heap.size,1,none⟩ (.int .i64 (t.at_:Int))).drew.heap[w.heap.size]? =
    some (.cells #[.int .i64 (((t.text[0]'hp0).toNat:Int)-48),.int .i64 (t.at_:Int)] 109 (0,0)):=
   set2 (w:=w2.setCell ⟨P,1,none⟩ (.int .i64 ((r.next:Int)+1))) (by rw[ru _ _ _ _ (by simp;omega)];exact ku HX2) _ _
  refine rY (v:=.agg #[.int .i64 (((t.text[0]'hp0).toNat:Int)-48),.int .i64 (t.at_:Int)]) (rZ Tryz.results203 _ _ w.heap.size _ _ _ _ rfl hfin Tryz.underlying109 rfl (by kernel_rfl)) rfl ?_;rw[ku HN,ku HR];refine ⟨?_,((((ku H2).step hlt).setOther (ku HV) hX (by simp) _).setOther (ku HV) hX (by simp) _).below ((Below.refl _ _).drew),((((ku HK2).kki _ _).jm (by simp) _).jm (by simp) _).drew⟩;simp only[if_true];unfold dgV;rw[ku HD]
theorem vqm (f n:Nat)(x:PX)(L:List Tok)(st:RS)(hn:n<4):rX (f+1) n x L st=if st.bad then (kw7,st) else rX f (10+n) (rX f (n+1) .nil L st).1 L (rX f (n+1) .nil L st).2:=by
 rw[rX,if_pos hn]
theorem vx0 (f:Nat)(x:PX)(L:List Tok)(st:RS):rX (f+1) 4 x L st=if st.bad then (kw7,st) else rX f (20+0) .nil L st:=by
 rw[rX,if_neg (by omega),if_pos (by omega)]
theorem jkw (f n:Nat)(x:PX)(L:List Tok)(st:RS)(hn:n<4):rX (f+1) (10+n) x L st =
  if st.bad then (x,st)
  else if kz7 n (tk L st.at_) then
   if n=2 then (opX (tk L st.at_).text x (rX f (n+1) .nil L { st with at_:=st.at_+1 }).1,(rX f (n+1) .nil L { st with at_:=st.at_+1 }).2)
   else rX f (10+n) (opX (tk L st.at_).text x (rX f (n+1) .nil L { st with at_:=st.at_+1 }).1) L (rX f (n+1) .nil L { st with at_:=st.at_+1 }).2
  else (x,st):=by
 rw[rX,if_neg (by omega),if_neg (by omega),if_pos (by omega),show 10+n-10=n by omega,show 10+n-9=n+1 by omega];simp only[show (10+n=12)=(n=2) from by simp;omega]
structure SLab where
 place:PX
 value:PX
 cond:PX
abbrev PB:=Go.Deep.BT SLab
def noS:SLab:={ place:=.nil,value:=.nil,cond:=.nil }
def kz8:PB→PB→PB
 | .nil,b=>b
 | .node i j a s n,b=>.node i j a s (kz8 n b)
theorem jjx:∀ a:PB,kz8 a .nil=a
 | .nil=>rfl
 | .node i j a s n=>by rw[kz8,jjx n]
theorem zzt:∀ a b c:PB,kz8 (kz8 a b) c=kz8 a (kz8 b c)
 | .nil,_,_=>rfl
 | .node i j a s n,b,c=>by rw[kz8,kz8,kz8,zzt n b c]
def ifS (c:PX)(t e:PB):PB:=.node 0 0 { place:=.nil,value:=.nil,cond:=c } (.node 0 0 noS t e) .nil
def zq4 (p v:PX):PB:=.node 0 0 { place:=p,value:=v,cond:=.nil } .nil .nil
def ji (L:List Tok):Nat:=8 * L.length+8
def rDo (blk:RS→PB × RS)(L:List Tok)(st:RS):PB × RS:=
 if ql L [105,102] st then
  if ql L [101,108,115,101] (blk (rX (ji L) 0 .nil L (qg L [105,102] st)).2).2 then
   (ifS (rX (ji L) 0 .nil L (qg L [105,102] st)).1 (blk (rX (ji L) 0 .nil L (qg L [105,102] st)).2).1 (blk (qg L [101,108,115,101] (blk (rX (ji L) 0 .nil L (qg L [105,102] st)).2).2)).1,
    (blk (qg L [101,108,115,101] (blk (rX (ji L) 0 .nil L (qg L [105,102] st)).2).2)).2)
  else (ifS (rX (ji L) 0 .nil L (qg L [105,102] st)).1 (blk (rX (ji L) 0 .nil L (qg L [105,102] st)).2).1 .nil,(blk (rX (ji L) 0 .nil L (qg L [105,102] st)).2).2)
 else (zq4 (vg L st).1 (rX (ji L) 0 .nil L (qg L [61] (vg L st).2)).1,qg L [59] (rX (ji L) 0 .nil L (qg L [61] (vg L st).2)).2)
def rS:Nat→Nat→List Tok→RS→PB × RS
 | 0,_,_,st=>(.nil,st)
 | f+1,0,L,st=>((rS f 1 L (qg L [123] st)).1,qg L [125] (rS f 1 L (qg L [123] st)).2)
 | f+1,_+1,L,st=>
  if ql L [125] st||st.bad then (.nil,st)
  else (kz8 (rDo (rS f 0 L) L st).1 (rS f 1 L (rDo (rS f 0 L) L st).2).1,(rS f 1 L (rDo (rS f 0 L) L st).2).2)
theorem uj {L:List Tok}{s:List UInt8}{st:RS}(h:st.bad=true):ql L s st=false:=by simp[ql,qzk,h]
theorem kjo {L:List Tok}{s:List UInt8}{st:RS}(h:st.bad=true):(qg L s st).bad=true:=by simp[qg,uj h]
theorem qwz {L:List Tok}{s:List UInt8}{st:RS}(h:st.bad=true):(qh L s st).2.bad=true:=by simp[qh,kq1,h]
theorem kql {L:List Tok}{st:RS}(h:st.bad=true):∀ (f tag:Nat) (x:PX),(rX f tag x L st).2=st
 | 0,_,_=>rfl
 | f+1,tag,x=>by
  rw[rX];simp only[h,if_true];split
  ·rfl
  ·split
   ·rfl
   ·split<;>rfl
theorem qwj {L:List Tok}{st:RS}(h:st.bad=true):∀ f tag:Nat,(rS f tag L st).2.bad=true
 | 0,_=>h
 | f+1,0=>by
  rw[rS];exact kjo (qwj (kjo h) f 1)
 | f+1,t+1=>by rw[rS];simp[h]
theorem zjx {blk:RS→PB × RS}(hm:∀ s,s.at_≤(blk s).2.at_)(L:List Tok)(st:RS):st.at_≤(rDo blk L st).2.at_:=by
 unfold rDo;have h1:=rV (zi L [105,102] st) (kxd (ji L) 0 .nil L (qg L [105,102] st));have h2:=rV h1 (hm (rX (ji L) 0 .nil L (qg L [105,102] st)).2);split
 ·split
  ·exact rV h2 (rV (zi L [101,108,115,101] _) (hm _))
  ·exact h2
 ·exact rV (qyv L st) (rV (zi L [61] _) (rV (kxd (ji L) 0 .nil L _) (zi L [59] _)))
theorem kkm (L:List Tok):∀ (f tag:Nat) (st:RS),st.at_≤(rS f tag L st).2.at_
 | 0,_,_=>wW _
 | f+1,0,st=>by
  rw[rS];exact rV (zi L [123] st) (rV (kkm L f 1 _) (zi L [125] _))
 | f+1,t+1,st=>by
  rw[rS];split
  ·exact wW _
  ·exact rV (zjx (fun s=>kkm L f 0 s) L st) (kkm L f 1 _)
theorem zyd {L:List Tok}{s:List UInt8}{st:RS}(hb:(qh L s st).2.bad=false):(qh L s st).2.at_=st.at_+1:=by
 unfold qh at hb ⊢;split at hb
 ·rename_i h;rw[if_pos h]
 ·simp at hb
theorem qvu {blk:RS→PB × RS}(hm:∀ s,s.at_≤(blk s).2.at_)(hs:∀ s,s.bad=true→(blk s).2.bad=true){L:List Tok}{st:RS}(h:(rDo blk L st).2.bad=false):st.at_+1≤(rDo blk L st).2.at_:=by
 have nb:∀ {p:Bool},¬p=true→p=false:=fun h=>by simpa using h
 by_cases hi:ql L [105,102] st=true
 ·have hc:(qg L [105,102] st).bad=false:=by
   unfold qg;rw[hi];rfl
  have h0:=qz7 hc;have h1:=kxd (ji L) 0 .nil L (qg L [105,102] st);have h2:=hm (rX (ji L) 0 .nil L (qg L [105,102] st)).2;unfold rDo;rw[if_pos hi];split
  ·have h3:=zi L [101,108,115,101] (blk (rX (ji L) 0 .nil L (qg L [105,102] st)).2).2;have h4:=hm (qg L [101,108,115,101] (blk (rX (ji L) 0 .nil L (qg L [105,102] st)).2).2);simp only;omega
  ·simp only;omega
 ·unfold rDo at h ⊢;rw[if_neg hi] at h ⊢;simp only at h ⊢;have hp:(vg L st).2.bad=false:=nb fun hb=>by
   have:=kjo (L:=L) (s:=[59]) (st:=(rX (ji L) 0 .nil L (qg L [61] (vg L st).2)).2) (by rw[kql (kjo hb)];exact kjo hb);rw[this] at h;cases h
  have hk:(qh L [110,97,109,101] st).2.bad=false:=nb fun hb=>by
   have:(vg L st).2.bad=true:=by
    unfold vg;simp only;rw[uj hb];exact hb
   rw[this] at hp;cases hp
  have h1:=zyd hk;have h2:(qh L [110,97,109,101] st).2.at_≤(vg L st).2.at_:=by
   unfold vg;simp only;split
   ·exact rV (zi L [91] _) (rV (yx L _ _) (zi L [93] _))
   ·exact wW _
  have h3:=zi L [61] (vg L st).2;have h4:=kxd (ji L) 0 .nil L (qg L [61] (vg L st).2);have h5:=zi L [59] (rX (ji L) 0 .nil L (qg L [61] (vg L st).2)).2;omega
theorem jv {lo:Nat}{w w':World}(hk:∀ k,lo≤k→k<w.heap.size→w'.heap[k]?=w.heap[k]?){e size:Nat}{v:Value}{n:Nat}{xs:List Value}(h:w.ownsRow lo e size v n xs):w'.ownsRow lo e size v n xs:=by
 obtain ⟨h1,h2⟩:=h;refine ⟨h1,?_⟩;rcases h2 with h2|⟨g,cap,cur,hv,hg,hh,r⟩
 ·exact Or.inl h2
 ·exact Or.inr ⟨g,cap,cur,hv,hg,by rw[hk g hg (wX hh)];exact hh,r⟩
theorem zu {lo lo':Nat}(hl:lo'≤lo){w:World}{e size:Nat}{v:Value}{n:Nat}{xs:List Value}(h:w.ownsRow lo e size v n xs):w.ownsRow lo' e size v n xs:=by
 obtain ⟨h1,h2⟩:=h;refine ⟨h1,?_⟩;rcases h2 with h2|⟨g,cap,cur,hv,hg,r⟩
 ·exact Or.inl h2
 ·exact Or.inr ⟨g,cap,cur,hv,rV hl hg,r⟩
theorem not_row {w:World}{base e size k:Nat}{t:TypeId}{v:Value}{n:Nat}{xs:List Value}{cs:Array Value}{fr:Nat × Nat}(hv:w.ownsRow base e size v n xs)(hh:w.heap[k]?=some (.cells cs t fr))(hte:t≠e):some k≠v.ownBlock:=by
 intro he;rcases hv.2 with ⟨rfl,_⟩|⟨g,cap,cur,rfl,_,hg,_⟩
 ·simp[Value.ownBlock] at he
 ·simp[Value.ownBlock] at he;subst he;rw[hh] at hg;simp at hg;exact hte hg.2.1
theorem kzq {lo R:Nat}{w w':World}{e size:Nat}{v:Value}{n:Nat}{xs:List Value}(h:w.ownsRow lo e size v n xs)(hk:Kept R w w')(hR:R<lo):w'.ownsRow lo e size v n xs:=jv (fun k h1 h2=>hk.block k h2 (by omega)) h
structure PS (L:List Tok)(st:RS)(r:PR):Prop where
 lt:st.at_<L.length
 nlo:-(st.at_:Int)≤st.nest
 nhi:st.nest≤12
 good:st.bad=false→r.failed=false∧r.next=st.at_∧r.depth=st.nest∧r.place=0
 bad:st.bad=true→r.failed=true∧r.next=L.length-1∧r.place=(tk L st.at_).at_
def Pd (w:World)(P:Nat)(v:Value)(L:List Tok)(st:RS):Prop:=∃ r,Pw w P v L r∧PS L st r
theorem Pd.below {w w':World}{P:Nat}{v:Value}{L:List Tok}{st:RS}(h:Pd w P v L st)(hk:Below w.heap.size w w'):Pd w' P v L st:=by
 obtain ⟨r,h1,h2⟩:=h;exact ⟨r,h1.below hk,h2⟩
theorem Pd.setOther {w:World}{P:Nat}{v:Value}{L:List Tok}{st:RS}{B:Nat}(h:Pd w P v L st)(hB:∀ g,v.ownBlock=some g→g<B)(hP:P<B){p:Addr}(hp:B≤p.block)(u:Value):Pd (w.setCell p u) P v L st:=by
 obtain ⟨r,h1,h2⟩:=h;exact ⟨r,h1.setOther hB hP hp u,h2⟩
theorem Pd.same {w w':World}{P:Nat}{v:Value}{L:List Tok}{st:RS}(h:Pd w P v L st)(hP:w'.heap[P]?=w.heap[P]?)(ho:w'.ownsRow 0 194 2 v L.length (bf L)):Pd w' P v L st:=by
 obtain ⟨r,h1,h2⟩:=h;exact ⟨r,⟨by rw[hP];exact h1.pd,ho,h1.ne,h1.ok,h1.lt⟩,h2⟩
theorem Pd.own {w:World}{P:Nat}{v:Value}{L:List Tok}{st:RS}(h:Pd w P v L st):w.ownsRow 0 194 2 v L.length (bf L):=by
 obtain ⟨r,h1,h2⟩:=h;exact h1.own
theorem Pd.in {w:World}{P:Nat}{v:Value}{L:List Tok}{st:RS}(h:Pd w P v L st):P<w.heap.size:=by
 obtain ⟨r,h1,h2⟩:=h;exact wX h1.pd
theorem Pd.ok {w:World}{P:Nat}{v:Value}{L:List Tok}{st:RS}(h:Pd w P v L st):pq L:=by
 obtain ⟨r,h1,h2⟩:=h;exact h1.ok
theorem Pd.lt {w:World}{P:Nat}{v:Value}{L:List Tok}{st:RS}(h:Pd w P v L st):st.at_<L.length:=by
 obtain ⟨r,h1,h2⟩:=h;exact h2.lt
theorem vxd:∀ l∈lits,(([]:List UInt8)==l)=false:=by decide
theorem qvc:∀ l∈lits,(l==([]:List UInt8))=false:=by decide
theorem PS.is {L:List Tok}{st:RS}{r:PR}(h:PS L st r)(hL:pq L){l:List UInt8}(hl:l∈lits):isR L l r=ql L l st:=by
 unfold isR ql qzk;cases hb:st.bad
 ·rw[(h.good hb).2.1];exact (hL.ok _ h.lt).lit l hl
 ·rw[(h.bad hb).2.1,hL.lastText,vxd l hl];rfl
theorem PS.name {L:List Tok}{st:RS}{r:PR}(h:PS L st r)(hL:pq L):nameB L r=kq1 L [110,97,109,101] st:=by
 unfold nameB kq1;cases hb:st.bad
 ·rw[(h.good hb).2.1,(hL.ok _ h.lt).name];rfl
 ·have:kj9 (tk L (L.length-1)).text 0=false:=qws (toList_empty (by rw[hL.lastText];rfl));rw[(h.bad hb).2.1,this];rfl
theorem PS.digit {L:List Tok}{st:RS}{r:PR}(h:PS L st r)(hL:pq L):kjq (tk L r.next).text 0=kq1 L [100,105,103,105,116] st:=by
 unfold kq1;cases hb:st.bad
 ·rw[(h.good hb).2.1,(hL.ok _ h.lt).digit];rfl
 ·have:kjq (tk L (L.length-1)).text 0=false:=qws (toList_empty (by rw[hL.lastText];rfl));rw[(h.bad hb).2.1,this];rfl
theorem PS.fail {L:List Tok}{st:RS}{r:PR}(h:PS L st r):PS L { st with bad:=true } (kxx L r):=by
 refine ⟨h.lt,h.nlo,h.nhi,fun hb=>by simp at hb,fun _=>⟨rfl,rfl,?_⟩⟩;unfold kxx;cases hb:st.bad
 ·rw[(h.good hb).1,(h.good hb).2.1];rfl
 ·rw[(h.bad hb).1,(h.bad hb).2.2];rfl
theorem PS.step {L:List Tok}{st:RS}{r:PR}(h:PS L st r)(hb:st.bad=false)(hl:st.at_+1<L.length):PS L { st with at_:=st.at_+1 } { r with next:=r.next+1 }:=by
 obtain ⟨g1,g2,g3,g4⟩:=h.good hb;exact ⟨hl,by have:=h.nlo;simp;omega,h.nhi,fun _=>⟨g1,by simp[g2],g3,g4⟩,fun hb'=>by simp[hb] at hb'⟩
def kv2 (L:List Tok)(l:List UInt8)(st:RS):RS:=if ql L l st then { st with at_:=st.at_+1 } else st
def qwv (L:List Tok)(l:List UInt8)(st:RS):RS:=if ql L l st then { st with at_:=st.at_+1 } else { st with bad:=true }
theorem kqb {L:List Tok}{st:RS}{l:List UInt8}(hL:pq L)(hl:st.at_<L.length)(h:ql L l st=true):st.bad=false∧st.at_+1<L.length:=by
 unfold ql qzk at h;simp only[wY,lg,nP] at h;have hk:((tk L st.at_).kind.toList==[101,110,100])=false:=by
  rcases h.1.2 with e|e<;>(rw[wP] at e;rw[e];rfl)
 exact ⟨h.1.1,hL.fin hl (by rw[(hL.ok _ hl).fin];exact hk)⟩
theorem PS.acc {L:List Tok}{st:RS}{r:PR}(h:PS L st r)(hL:pq L){l:List UInt8}(hl:l∈lits):PS L (kv2 L l st) (zzf L l r):=by
 unfold kv2 zzf;rw[h.is hL hl];cases hn:ql L l st
 ·exact h
 ·have:=kqb hL h.lt hn;exact h.step this.1 this.2
theorem PS.exp {L:List Tok}{st:RS}{r:PR}(h:PS L st r)(hL:pq L){l:List UInt8}(hl:l∈lits):PS L (qwv L l st) (kvg L l r):=by
 unfold qwv kvg;rw[h.is hL hl];cases hn:ql L l st
 ·exact h.fail
 ·have:=kqb hL h.lt hn;exact h.step this.1 this.2
theorem kjn {L:List Tok}{l:List UInt8}{st:RS}(ho:opens l=false)(hs:shuts l=false):qg L l st=qwv L l st:=by
 unfold qg qwv;rw[ho,hs];cases hn:ql L l st
 ·rfl
 ·unfold ql qzk at hn;simp only[wY,lg,nP] at hn;simp[hn.1.1]
theorem PS.depth {L:List Tok}{st:RS}{r:PR}(h:PS L st r)(hb:st.bad=true)(d:Int):PS L st { r with depth:=d }:=
 ⟨h.lt,h.nlo,h.nhi,(fun hb'=>by rw[hb] at hb';cases hb'),fun hb'=>h.bad hb'⟩
theorem PS.open {L:List Tok}{st:RS}{r:PR}(h:PS L st r)(hL:pq L){l:List UInt8}(hl:l∈lits)(ho:opens l=true){d:Int}(hd:-1000≤r.depth→r.depth≤1000→d=r.depth+1):PS L (qg L l st) (zjt L l d r):=by
 have hlen:=hL.len;have hlt:=h.lt;have hlo:=h.nlo;have hhi:=h.nhi;unfold qg zjt;rw[ho];cases hb:st.bad
 ·obtain ⟨g1,g2,g3,g4⟩:=h.good hb;rw[g3];cases h12:(st.nest==12)
  ·cases hn:ql L l st
   ·have e:kvg L l r=kxx L r:=by unfold kvg;rw[h.is hL hl,hn];rfl
    simp only[QX,Qc,if_true,tZ,if_false];rw[e];exact (h.fail).depth rfl d
   ·have e:kvg L l r={ r with next:=r.next+1 }:=by unfold kvg;rw[h.is hL hl,hn];rfl
    have hs:=kqb hL h.lt hn;have hn12:st.nest≠12:=by simpa using h12
    simp only[Jo,Jw,nM,tZ,if_false,if_true];rw[e];have hd':=hd (by omega) (by omega);exact ⟨hs.2,by simp;omega,by simp;omega,fun _=>⟨g1,by simp[g2],by simp[hd',g3],g4⟩,fun hb'=>by simp at hb'⟩
  ·simp only[Ja,Qw,if_true];exact h.fail
 ·rw[uj hb];simp only[QX,Qc,if_true];have e:kvg L l r=kxx L r:=by unfold kvg;rw[h.is hL hl,uj hb];rfl
  rw[e];have h1:=h.fail;split
  ·exact h1
  ·exact h1.depth rfl d
theorem PS.shut {L:List Tok}{st:RS}{r:PR}(h:PS L st r)(hL:pq L){l:List UInt8}(hl:l∈lits)(ho:opens l=false)(hs:shuts l=true){d:Int}(hd:-1000≤r.depth→r.depth≤1000→d=r.depth-1):PS L (qg L l st) { kvg L l r with depth:=d }:=by
 have hlen:=hL.len;have hlt:=h.lt;have hlo:=h.nlo;have hhi:=h.nhi;unfold qg;rw[ho,hs];cases hb:st.bad
 ·obtain ⟨g1,g2,g3,g4⟩:=h.good hb;cases hn:ql L l st
  ·have e:kvg L l r=kxx L r:=by unfold kvg;rw[h.is hL hl,hn];rfl
   simp only[QX,Qc,if_true];rw[e];exact (h.fail).depth rfl d
  ·have e:kvg L l r={ r with next:=r.next+1 }:=by unfold kvg;rw[h.is hL hl,hn];rfl
   have hs:=kqb hL h.lt hn;simp only[Jo,lD,nM,tZ,if_false,if_true];rw[e];have hd':=hd (by omega) (by omega);exact ⟨hs.2,by simp;omega,by simp;omega,fun _=>⟨g1,by simp[g2],by simp[hd',g3],g4⟩,fun hb'=>by simp at hb'⟩
 ·rw[uj hb];simp only[QX,Qc,if_true];have e:kvg L l r=kxx L r:=by unfold kvg;rw[h.is hL hl,uj hb];rfl
  rw[e];have h1:=h.fail;exact h1.depth rfl d
theorem kwi (l:List UInt8)(hl:l∈lits)(w:World)(P:Nat)(v:Value)(L:List Tok)(st:RS)(h:Pd w P v L st) :
  Calls Tryz.prog 89 #[.pointer (some ⟨P,0,none⟩),.string ⟨l.toArray⟩] w fun e w'=>e=.returned (.bool (ql L l st))∧Pd w' P v L st∧Kept P w w':=by
 obtain ⟨r,h1,h2⟩:=h;refine (jx4 ⟨l.toArray⟩ w P v L r h1).mono fun e w' ⟨a,b⟩=>⟨?_,⟨r,h1.below b,h2⟩,.of_below b⟩
 rw[a,←h2.is h1.ok hl];unfold isR;rw[zy l]
theorem kqc (l:List UInt8)(hl:l∈lits)(w:World)(P:Nat)(v:Value)(L:List Tok)(st:RS)(h:Pd w P v L st) :
  Calls Tryz.prog 205 #[.pointer (some ⟨P,0,none⟩),.string ⟨l.toArray⟩] w fun e w'=>e=.returned (.bool (ql L l st))∧Pd w' P v L (kv2 L l st)∧Kept P w w':=by
 obtain ⟨r,h1,h2⟩:=h;refine (zzs ⟨l.toArray⟩ w P v L r h1 (by rw[zy l];exact qvc l hl)).mono fun e w' ⟨a,b,c⟩=>⟨?_,⟨_,b,?_⟩,c⟩
 ·rw[a,zy l,h2.is h1.ok hl]
 ·rw[zy l];exact h2.acc h1.ok hl
theorem kqo (l:List UInt8)(hl:l∈lits)(ho:opens l=false)(hs:shuts l=false)(w:World)(P:Nat)(v:Value)(L:List Tok)(st:RS)(h:Pd w P v L st) :
  Calls Tryz.prog 201 #[.pointer (some ⟨P,0,none⟩),.string ⟨l.toArray⟩] w fun e w'=>e=.returned (.tuple #[])∧Pd w' P v L (qg L l st)∧Kept P w w':=by
 obtain ⟨r,h1,h2⟩:=h;refine (qks ⟨l.toArray⟩ w P v L r h1 (by rw[zy l];exact qvc l hl)).mono fun e w' ⟨a,b,c⟩=>⟨a,⟨_,b,?_⟩,c⟩
 rw[zy l,kjn ho hs];exact h2.exp h1.ok hl
theorem qzx (l:List UInt8)(hl:l∈lits)(ho:opens l=true)(w:World)(P:Nat)(v:Value)(L:List Tok)(st:RS)(h:Pd w P v L st) :
  Calls Tryz.prog 204 #[.pointer (some ⟨P,0,none⟩),.string ⟨l.toArray⟩] w fun e w'=>e=.returned (.tuple #[])∧Pd w' P v L (qg L l st)∧Kept P w w':=by
 obtain ⟨r,h1,h2⟩:=h;refine (open_any ⟨l.toArray⟩ w P v L r h1 (by rw[zy l];exact qvc l hl)).mono fun e w' ⟨a,⟨d,b,hd⟩,c⟩=>⟨a,⟨_,b,?_⟩,c⟩
 rw[zy l];exact h2.open h1.ok hl ho hd
theorem qq9 (l:List UInt8)(hl:l∈lits)(ho:opens l=false)(hs:shuts l=true)(w:World)(P:Nat)(v:Value)(L:List Tok)(st:RS)(h:Pd w P v L st) :
  Calls Tryz.prog 206 #[.pointer (some ⟨P,0,none⟩),.string ⟨l.toArray⟩] w fun e w'=>e=.returned (.tuple #[])∧Pd w' P v L (qg L l st)∧Kept P w w':=by
 obtain ⟨r,h1,h2⟩:=h;refine (vqk ⟨l.toArray⟩ w P v L r h1 (by rw[zy l];exact qvc l hl)).mono fun e w' ⟨a,⟨d,b,hd⟩,c⟩=>⟨a,⟨_,b,?_⟩,c⟩
 rw[zy l];exact h2.shut h1.ok hl ho hs hd
theorem PS.kind {L:List Tok}{st:RS}{r:PR}(h:PS L st r)(hL:pq L){k:List UInt8}(hk:(k==[101,110,100])=false){b:Bool}(hb:b=kq1 L k st) :
  PS L (qh L k st).2 (if b then { r with next:=r.next+1 } else kxx L r)∧(if b then tk L r.next else jk)=(qh L k st).1:=by
 subst hb;unfold qh;cases hn:kq1 L k st
 ·exact ⟨h.fail,rfl⟩
 ·have h1:=hn;unfold kq1 at h1;simp only[wY,nP] at h1;have h2:=h1.2;rw[wP] at h2;refine ⟨h.step h1.1 (hL.fin h.lt (by rw[(hL.ok _ h.lt).fin,h2];exact hk)),?_⟩;simp only[if_true];rw[(h.good h1.1).2.1]
theorem kzv (w:World)(P:Nat)(v:Value)(L:List Tok)(st:RS)(h:Pd w P v L st) :
  Calls Tryz.prog 202 #[.pointer (some ⟨P,0,none⟩)] w fun e w'=>e=.returned (ptV (qh L [110,97,109,101] st).1)∧Pd w' P v L (qh L [110,97,109,101] st).2∧Kept P w w':=by
 obtain ⟨r,h1,h2⟩:=h;have hk:=h2.kind h1.ok (k:=[110,97,109,101]) rfl (h2.name h1.ok);exact (name_any w P v L r h1).mono fun e w' ⟨a,b,c⟩=>⟨by rw[a,←hk.2];rfl,⟨_,b,hk.1⟩,c⟩
theorem qwa (w:World)(P:Nat)(v:Value)(L:List Tok)(st:RS)(h:Pd w P v L st) :
  Calls Tryz.prog 203 #[.pointer (some ⟨P,0,none⟩)] w fun e w'=>e=.returned (dgV (qh L [100,105,103,105,116] st).1)∧Pd w' P v L (qh L [100,105,103,105,116] st).2∧Kept P w w':=by
 obtain ⟨r,h1,h2⟩:=h;have hk:=h2.kind h1.ok (k:=[100,105,103,105,116]) rfl (h2.digit h1.ok);exact (jzx w P v L r h1).mono fun e w' ⟨a,b,c⟩=>⟨by rw[a,←hk.2];rfl,⟨_,b,hk.1⟩,c⟩
theorem vz1 (w:World)(P:Nat)(v:Value)(L:List Tok)(st:RS)(h:Pd w P v L st) :
  Calls Tryz.prog 90 #[.pointer (some ⟨P,0,none⟩)] w fun e w'=>e=.returned (.tuple #[])∧Pd w' P v L { st with bad:=true }∧Kept P w w':=by
 obtain ⟨r,h1,h2⟩:=h;exact (qqs w P v L r h1).mono fun e w' ⟨a,b,c⟩=>⟨a,⟨_,b,h2.fail⟩,c⟩
theorem jy {w:World}{lo e size:Nat}{v:Value}{n:Nat}{xs:List Value}(h:w.ownsRow lo e size v n xs):∃ a l c,v=.slice a l c:=by
 rcases h.2 with ⟨rfl,_⟩|⟨g,cap,cur,rfl,_⟩
 ·exact ⟨_,_,_,rfl⟩
 ·exact ⟨_,_,_,rfl⟩
theorem vj1 {v v':Value}{B:Nat}(hat:v'.ownBlock=v.ownBlock∨v'.ownBlock=some B):∀ k,v'.ownBlock=some k→v.ownBlock=some k∨B≤k:=by
 intro k hk;rcases hat with e|e
 ·rw[e] at hk;exact Or.inl hk
 ·rw[e] at hk;simp at hk;exact Or.inr (by omega)
theorem Kept.grown {R:Nat}{a w w':World}{v:Value}(h:Kept R a w)(hg:w.grownBy w' v.ownBlock)(hv:∀ k,v.ownBlock=some k→a.heap.size≤k):Kept R a w':=
 ⟨hg.os.trans h.os,hg.tape.trans h.tape,hg.output.trans h.output,rV h.size hg.size,fun k hk hn=>(hg.block k (lX hk h.size) (fun e=>by have:=hv k e.symm;omega)).trans (h.block k hk hn)⟩
def kwj (L:List Tok):Nat:=4 * L.length+4
def kv1:Nat→List Tok→List Tok→RS→List Tok × RS
 | 0,_,l,st=>(l,st)
 | f+1,L,l,st=>
  if st.bad then (l,st)
  else if ql L [44] (qh L [110,97,109,101] st).2||decide (l.length+1<2) then kv1 f L (l++[(qh L [110,97,109,101] st).1]) (qg L [44] (qh L [110,97,109,101] st).2)
  else (l++[(qh L [110,97,109,101] st).1],(qh L [110,97,109,101] st).2)
def pz (L:List Tok):Nat:=L.length+2
def kwl (L:List Tok)(st:RS):List Tok × RS:=
 ((kv1 (pz L) L [] (qg L [123] st)).1,qg L [125] (kv1 (pz L) L [] (qg L [123] st)).2)
end Go.Proofs.YtpmcnonmkghokaaGreatDoor

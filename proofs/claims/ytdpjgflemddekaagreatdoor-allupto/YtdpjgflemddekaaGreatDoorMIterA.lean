/- A range over a function whose iterator writes memory between its rounds; each round goes on. Nothing of the program's text. -/
import Derived.Test.YtdpjgflemddekaaGreatDoorMBase
import Derived.Test.YtdpjgflemddekaaGreatDoorMCodeP
import Derived.RangeFuncNested
import Derived.RangeFuncCalls
import Derived.RangeFuncLeaves
import Derived.TacticsInMore
import Derived.RangeFuncBound
import Derived.Shelf.Abstract
import Derived.Shelf.RegionOpen
import Derived.WalkKit
import Derived.OwnWalkIn
import Derived.LoopNIn
import Derived.LoopIn
set_option maxRecDepth 100000
set_option maxHeartbeats 1000000
namespace Go.Proofs.YtdpjgflemddekaaGreatDoor
open Go.RowKit
theorem fr_putObj (W:World)(l:Nat)(o:Obj):Fr W (W.putObj l o) (fun k=>k=l):=
 (Fr.refl W (fun k=>k=l)).grown (grownBy_putObj' W l o) (fun k e=>.inl (by cases e;rfl))
def GoesOn (F:Fence)(m:Nat)(P:Program)(d:Nat)(o1 o2:Obj)(I:World->Prop):Prop:=
 ∀W,I W->W.heap[d]?=some o1->W.heap[d+1]?=some o2->YieldAt F m P (d+1) #[] W fun e W'=>e=.returned (.bool true)/\Fr W W' (fun k=>k=d+1)/\W'.heap[d+1]?=some o2
theorem wpIn_rangeFunc_goes {F:Fence}{n:Nat}{P:Program}{g:Operand}{assign body:Code}{Q:Exit->Act->World->Prop}{a:Act}{w:World}
 (hro:F.round=none) (h1:1<=n) {gf:Nat} {lb:Array Value} (hg:a.eval g=.func (.func gf) #[] lb) (hFg:F.fn gf) (eg:∀args w,(callFunc gf args).run P w=.ok (.enter gf args) w)
 (I R:World->Prop) (a₁:Act) (hI:∀W W',I W->Fr W W' (fun k=>k=w.heap.size+1)->I W')
 (hassign:∀(W:World) (K:Act->World->Prop),K a₁ W->assign.wpIn (F.inRound (w.heap.size+1)) (n-1-1) P (Exit.then K (fun _ _ _=>False)) {tmps:=a.tmps,defers:=[]} W)
 (hbody:∀(W:World),I W->body.wpIn (F.inRound (w.heap.size+1)) (n-1-1) P (fun e _ W'=>e=.normal/\W'=W) a₁ W)
 (hiter:∀(o1 o2:Obj) (W1:World),Fr w W1 (fun _=>False)->W1.heap[w.heap.size]?=some o1->W1.heap[w.heap.size+1]?=some o2->GoesOn F (n-1-1) P w.heap.size o1 o2 I->
   CallsIn F (n-1) P gf (#[.func (.yield (w.heap.size+1)) #[] #[]]++lb) W1 fun e W'=>(∃v,e=.returned v)/\W'.heap[w.heap.size]?=some o1/\W'.heap[w.heap.size+1]?=some o2/\R W')
 (hdone:∀W W',R W->Fr W W' (fun k=>k=w.heap.size+1)->W'.heap[w.heap.size]?=some (.deferred (some []))->Q .normal {a with defers:={target:=.collected w.heap.size,args:=#[]} :: a.defers} W') :
 (Code.rangeFunc g #[] assign body).wpIn F n P Q a w:=by
 refine wpIn_rangeFunc ?_;intro fn hfn;rw [hro];obtain ⟨rec,hrec⟩:∃rec:LoopState->Loop,rec=fun st=>{state:=st,pending:=none,fn,tmps:=a.tmps,params:=#[],assign,body,defers:=w.heap.size}:=⟨_,rfl⟩
 obtain ⟨W1,hW1⟩:∃W1,(w.alloc (.deferred (some []))).alloc (.loop (rec .ready))=W1:=⟨_,rfl⟩;have hL1:W1.heap[w.heap.size+1]?=some (.loop (rec .ready)):=by
  rw [<- hW1];have:=World.alloc_heap_new (w.alloc (.deferred (some []))) (.loop (rec .ready));rwa [World.size_alloc] at this
 have hK1:W1.heap[w.heap.size]?=some (.deferred (some [])):=by
  rw [<- hW1];exact (Below.heap_alloc _ _ _ (by simp)).trans (World.alloc_heap_new w _)
 have hF1:Fr w W1 (fun _=>False):=by rw [<- hW1];exact ((Fr.refl w _).alloc _).alloc _
 refine ⟨w.heap.size+1,[{target:=.collected w.heap.size,args:=#[]}],W1,{target:=.fn (.func gf) lb,args:=#[.func (.yield (w.heap.size+1)) #[] #[]]},W1,gf,
  #[.func (.yield (w.heap.size+1)) #[] #[]]++lb,W1,?_,?_,?_,?_,fun _=>h1,?_⟩
 ·rw [<- hW1,hrec];exact run_enterLoop_outer _ _ _ _ _
 ·simp only [resolve,hg];simp [go_sem]
 ·intro f' hf';simp [Target.leads] at hf';subst hf';exact hFg
 ·simp [invoke,go_sem,eg]
 ·refine (hiter (.deferred (some [])) (.loop (rec .ready)) W1 hF1 hK1 hL1 ?_).mono ?_
  ·intro W hi hk hl;have hlt:w.heap.size+1<W.heap.size:=(Array.getElem?_eq_some_iff.1 hl).1;have hy:=run_yield (P:=P) (args:=#[]) hl (by rw [hrec];rfl);rw [hrec] at hy;have hz:∀(f:Array Value->Tmp×Value->Array Value) (t:Array Value),((#[]:Array Tmp).zip (#[]:Array Value)).foldl f t=t:=fun f t=>by simp
   simp only [hz] at hy;refine ⟨fn,_,assign,body,hy,roundIn_of_wpIn hfn (hassign W (fun a₁ w₁=>∃w₂,(Instr.beginRound (w.heap.size+1)).run P w₁=.ok () w₂/\body.wpIn (F.inRound (w.heap.size+1)) (n-1-1) P (roundPost P (w.heap.size+1) _) a₁ w₂) ?_)⟩
   refine ⟨_,run_beginRound hl (by rw [hrec]),?_⟩;have hf2:=fr_putObj W (w.heap.size+1) (.loop {rec .ready with state:=.busy});have hl2:(W.putObj (w.heap.size+1) (.loop {rec .ready with state:=.busy})).heap[w.heap.size+1]?=some (.loop {rec .ready with state:=.busy}):=World.putObj_heap_same hlt;refine wpIn_mono (hbody _ (hI _ _ hi hf2)) ?_;rintro e a3 W3 ⟨rfl,rfl⟩;have hend:=run_endRound (P:=P) none hl2;refine ⟨_,_,hend,rfl,?_,?_⟩
   ·exact hf2.step (fr_putObj _ _ _) (fun k hk=>.inl hk)
   ·rw [World.putObj_heap_same (Array.getElem?_eq_some_iff.1 hl2).1,hrec];rfl
  ·rintro e W2 ⟨⟨v,rfl⟩,hk,hl,hR⟩;have hf2:=fr_putObj W2 (w.heap.size+1) (.loop {rec .ready with state:=.exhausted});refine ⟨none,_,?_,hdone W2 _ hR hf2 (hf2.same hk (by omega))⟩;have:=run_endLoop (P:=P) hl (by rw [hrec];simp);rw [this];rw [hrec]
end Go.Proofs.YtdpjgflemddekaaGreatDoor
namespace Go.Proofs.YtdpjgflemddekaaGreatDoor
open Go.RowKit Go.Shelf
attribute [local go_sem] Oper.semAt_some
theorem workOff_any (kb:Nat)(w:World):
 Calls Tryz.prog 58 #[.pointer (some ⟨kb,0,none⟩)] w fun e w'=>e=.returned (.func (.func 92) #[] #[.pointer (some ⟨w.heap.size,0,none⟩)])/\w'=w.alloc (.cells #[.pointer (some ⟨kb,0,none⟩)] 34):=by
 go_enter Tryz.func58,Tryz.ntmps58
 go_wp2;go_ret;exact ⟨rfl,rfl⟩
theorem reset_any (kb:Nat)(s:Slot)(w:World):
 Calls Tryz.prog 63 #[.pointer (some ⟨kb,0,none⟩),.agg #[.int .i64 s.node,.int .i64 s.index]] w fun e w'=>e=.returned (.func (.func 96) #[] #[.pointer (some ⟨w.heap.size,0,none⟩),.pointer (some ⟨w.heap.size+1,0,none⟩)])/\
  w'=(w.alloc (.cells #[.pointer (some ⟨kb,0,none⟩)] 34)).alloc (.cells #[.int .i64 s.node,.int .i64 s.index] 71):=by
 go_enter Tryz.func63,Tryz.ntmps63
 go_wp2;go_ret;exact ⟨rfl,rfl⟩
attribute [local go_sem] Oper.semAt_some
theorem poll_none (ub:Nat)(A:Option Addr)(cap:Nat)(w:World)(hc:w.cell? ⟨ub,13,none⟩=some (.slice A 0 cap)):
 Calls Tryz.prog 91 #[.pointer (some ⟨ub,0,none⟩)] w fun e w'=>e=.returned (.bool false)/\w'=w:=by
 go_enter Tryz.func91,Tryz.ntmps91
 go_wp2;go_ret;exact ⟨rfl,rfl⟩
theorem polled_goes (gf:Nat)(lb:Array Value)(ub:Nat)(A:Option Addr)(cap:Nat)(w:World)(X:Nat->Prop)(R:World->World->Prop)(eg:∀args w,(callFunc gf args).run Tryz.prog w=.ok (.enter gf args) w)
 (hc:w.cell? ⟨ub,13,none⟩=some (.slice A 0 cap)) (hub:¬X ub) (hX:∀k,X k->k<w.heap.size)
 (hiter:∀(d:Nat) (o1 o2:Obj) (W1:World),Fr w W1 (fun _=>False)->w.heap.size<=d->W1.heap[d]?=some o1->W1.heap[d+1]?=some o2->GoesOn Fence.wide 0 Tryz.prog d o1 o2 (fun W=>Fr W1 W (fun k=>X k\/k=d+1))->
   CallsIn Fence.wide 1 Tryz.prog gf (#[.func (.yield (d+1)) #[] #[]]++lb) W1 fun e W'=>(∃v,e=.returned v)/\Fr W1 W' (fun k=>X k\/k=d+1)/\W'.heap[d+1]?=some o2/\R W1 W')
 (hR:∀W1 W W',R W1 W->Fr W W' (fun k=>w.heap.size<=k/\k<W1.heap.size)->R W1 W') :
 Calls Tryz.prog 57 #[.pointer (some ⟨ub,0,none⟩),.func (.func gf) #[] lb] w fun e w'=>e=.returned (.int .i64 0)/\∃W1,Fr w W1 (fun _=>False)/\R W1 w':=by
 have hult:=World.block_lt_of_cell? _ _ hc;simp only at hult;refine (callsIn_wide (n:=2)).1 ?_;refine callsIn_of_wp_marks Tryz.func57 rfl trivial ?_ rfl;simp only [Tryz.ntmps57,List.size_toArray,List.length_cons,List.length_nil,Nat.reduceAdd,Nat.reduceSub,Array.replicate_succ,Array.replicate_zero,List.push_toArray,List.append_toArray,List.nil_append,List.cons_append];gi_wp2_with fail
 obtain ⟨w2,hw2⟩:∃w2,(w.alloc (.cells #[.pointer (some ⟨ub,0,none⟩)] 90)).alloc (.cells #[.int .i64 0] 36)=w2:=⟨_,rfl⟩;obtain ⟨hf2,hs2,hb1,hb2⟩:=box_two hw2;rw [hw2];have hz2:w2.heap.size=w.heap.size+2:=by rw [<- hw2];simp
 clear hw2 hs2;have hz1:∀{W:World},Fr w2 W (fun _=>False)->w.heap.size+2<=W.heap.size:=fun h=>by have:=h.size;omega
 refine wpIn_rangeFunc_goes rfl (by decide) (gf:=gf) (lb:=lb) rfl trivial eg (fun W=>Fr w2 W (fun k=>X k\/k=w2.heap.size+1)) (fun W'=>∃W1,Fr w W1 (fun _=>False)/\w2.heap.size+1<W1.heap.size/\Fr w2 W' (fun k=>X k\/k=w2.heap.size+1)/\R W1 W')
  {tmps:=#[.pointer (some ⟨ub,0,none⟩),.func (.func gf) #[] lb,.pointer (some ⟨w.heap.size,0,none⟩),undef,.pointer (some ⟨w.heap.size+1,0,none⟩),.func (.func gf) #[] lb,undef,undef],defers:=[]} ?_ ?assign ?body ?iter ?done
 ·intro W W' h1 h2;exact h1.step h2 (fun k hk=>.inl (.inr hk))
 case assign=>
  intro W K hK;gi_wp2
  simpa using hK
 case body=>
  intro W hW;have c0:W.cell? ⟨w.heap.size,0,none⟩=some (.pointer (some ⟨ub,0,none⟩)):=aa (o:=0) (hW.same hb1 (fun e=>e.elim (fun e=>by have:=hX _ e;omega) (fun e=>by omega))) rfl
  have c1:W.cell? ⟨ub,13,none⟩=some (.slice A 0 cap):=hW.cell (hf2.cell hc id) (fun e=>e.elim hub (fun e=>by simp only at e;omega))
  have hp:=CallsIn.inRound (w2.heap.size+1) ((callsIn_wide (n:=0)).2 (poll_none ub A cap W c1));clear hW hiter hR hz2 hz1;gi_wp2_with ((try refine ⟨trivial,rfl,?_⟩);refine hp.mono ?_;rintro e W2 ⟨rfl,rfl⟩)
 case iter=>
  intro o1 o2 W1 hf1 hd hl hgo;have hF1:Fr w W1 (fun _=>False):=hf2.step hf1 (fun _=>False.elim);refine (hiter w2.heap.size o1 o2 W1 hF1 (by omega) hd hl ?_).mono ?_
  ·intro W hW h1 h2;exact hgo W ((hf1.mono (fun _=>False.elim)).step hW (fun k hk=>.inl hk)) h1 h2
  ·rintro e W' ⟨he,hfr,ho2,hR1⟩;exact ⟨he,hfr.same hd (fun e=>e.elim (fun e=>by have:=hX _ e;omega) (fun e=>by omega)),ho2,W1,hF1,(Array.getElem?_eq_some_iff.1 hl).1,(hf1.mono (fun _=>False.elim)).step hfr (fun k hk=>.inl hk),hR1⟩
 case done=>
  rintro W W' ⟨W1,hF1,hlt,hFW,hR1⟩ hf hK;have hb2':W'.heap[w.heap.size+1]?=some (.cells #[.int .i64 0] 36 (0,0)):=hf.same (hFW.same hb2 (fun e=>e.elim (fun e=>by have:=hX _ e;omega) (fun e=>by omega))) (by omega)
  have hR2:=hR W1 W W' hR1 (hf.mono (fun k hk=>by rw [hk];omega));have c0:=aa (o:=0) hb2' rfl;have z0:=ab (o:=0) hb2';clear hf;gi_wp2
  have hf3:=Fr.set1 W' (w.heap.size+1) 0 (.int .i64 0);have hK2:=hf3.same hK (by omega);have hb3:=ai W' (w.heap.size+1) 0 (.int .i64 0) hb2';have hR3:=hR W1 W' _ hR2 (hf3.mono (fun k hk=>by rw [hk];omega));generalize W'.setCell ⟨w.heap.size+1,0,none⟩ (.int .i64 0)=W2 at hK2 hb3 hR3;refine ⟨by simp,.inl ⟨_,_,rfl,run_takeDeferred hK2,?_⟩⟩;have hf4:=fr_putObj W2 w2.heap.size (.deferred none);have hb4:=hf4.same hb3 (by omega);have hR4:=hR W1 W2 _ hR3 (hf4.mono (fun k hk=>by rw [hk];omega));have c4:=aa (o:=0) hb4 rfl;generalize W2.putObj w2.heap.size (.deferred none)=W3 at hR4 c4;refine ⟨.int .i64 0,?_,rfl,W1,hF1,hR4⟩;simp [results,Tryz.results57,go_sem,c4]
end Go.Proofs.YtdpjgflemddekaaGreatDoor
namespace Go.Proofs.YtdpjgflemddekaaGreatDoor
open Go.RowKit
def Asks (F:Fence)(m:Nat)(P:Program)(d:Nat)(o1 o2 o3:Obj)(I:World->Prop)(B:Bool->World->World->Prop):Prop:=
 ∀W,I W->W.heap[d]?=some o1->W.heap[d+1]?=some o2->YieldAt F m P (d+1) #[] W fun e W'=>∃b Wb W2,e=.returned (.bool b)/\Fr W Wb (fun k=>k=d+1)/\B b Wb W2/\Fr W2 W' (fun k=>k=d+1)/\W'.heap[d+1]?=some (if b then o2 else o3)
theorem wpIn_rangeFunc_asks {F:Fence}{n:Nat}{P:Program}{g:Operand}{assign body:Code}{Q:Exit->Act->World->Prop}{a:Act}{w:World}
 (hro:F.round=none) (h1:1<=n) {gf:Nat} {lb:Array Value} (hg:a.eval g=.func (.func gf) #[] lb) (hFg:F.fn gf) (eg:∀args w,(callFunc gf args).run P w=.ok (.enter gf args) w)
 (I:World->Prop) (B:Bool->World->World->Prop) (R:Bool->World->Prop) (X:Nat->Prop) (a₁:Act) (hI:∀W W',I W->Fr W W' (fun k=>k=w.heap.size+1)->I W') (hB:∀b W W',B b W W'->Fr W W' X) (hX:¬X (w.heap.size+1))
 (hassign:∀(W:World) (K:Act->World->Prop),K a₁ W->assign.wpIn (F.inRound (w.heap.size+1)) (n-1-1) P (Exit.then K (fun _ _ _=>False)) {tmps:=a.tmps,defers:=[]} W)
 (hbody:∀(W:World),I W->body.wpIn (F.inRound (w.heap.size+1)) (n-1-1) P (fun e _ W'=>(e=.normal/\B true W W')\/(e=.ret/\B false W W')) a₁ W)
 (hiter:∀(o1 o2 o3:Obj) (W1:World),Fr w W1 (fun _=>False)->W1.heap[w.heap.size]?=some o1->W1.heap[w.heap.size+1]?=some o2->Asks F (n-1-1) P w.heap.size o1 o2 o3 I B->
   CallsIn F (n-1) P gf (#[.func (.yield (w.heap.size+1)) #[] #[]]++lb) W1 fun e W'=>(∃v,e=.returned v)/\W'.heap[w.heap.size]?=some o1/\∃b,W'.heap[w.heap.size+1]?=some (if b then o2 else o3)/\R b W')
 (hdone:∀b W W',R b W->Fr W W' (fun k=>k=w.heap.size+1)->W'.heap[w.heap.size]?=some (.deferred (some []))->Q (if b then .normal else .ret) {a with defers:={target:=.collected w.heap.size,args:=#[]} :: a.defers} W') :
 (Code.rangeFunc g #[] assign body).wpIn F n P Q a w:=by
 refine wpIn_rangeFunc ?_;intro fn hfn;rw [hro];obtain ⟨rec,hrec⟩:∃rec:LoopState->Option Code->Loop,rec=fun st pe=>{state:=st,pending:=pe,fn,tmps:=a.tmps,params:=#[],assign,body,defers:=w.heap.size}:=⟨_,rfl⟩
 obtain ⟨W1,hW1⟩:∃W1,(w.alloc (.deferred (some []))).alloc (.loop (rec .ready none))=W1:=⟨_,rfl⟩;have hL1:W1.heap[w.heap.size+1]?=some (.loop (rec .ready none)):=by
  rw [<- hW1];have:=World.alloc_heap_new (w.alloc (.deferred (some []))) (.loop (rec .ready none));rwa [World.size_alloc] at this
 have hK1:W1.heap[w.heap.size]?=some (.deferred (some [])):=by
  rw [<- hW1];exact (Below.heap_alloc _ _ _ (by simp)).trans (World.alloc_heap_new w _)
 have hF1:Fr w W1 (fun _=>False):=by rw [<- hW1];exact ((Fr.refl w _).alloc _).alloc _
 refine ⟨w.heap.size+1,[{target:=.collected w.heap.size,args:=#[]}],W1,{target:=.fn (.func gf) lb,args:=#[.func (.yield (w.heap.size+1)) #[] #[]]},W1,gf,
  #[.func (.yield (w.heap.size+1)) #[] #[]]++lb,W1,?_,?_,?_,?_,fun _=>h1,?_⟩
 ·rw [<- hW1,hrec];exact run_enterLoop_outer _ _ _ _ _
 ·simp only [resolve,hg];simp [go_sem]
 ·intro f' hf';simp [Target.leads] at hf';subst hf';exact hFg
 ·simp [invoke,go_sem,eg]
 ·refine (hiter (.deferred (some [])) (.loop (rec .ready none)) (.loop (rec .done (some .ret))) W1 hF1 hK1 hL1 ?_).mono ?_
  ·intro W hi hk hl;have hlt:w.heap.size+1<W.heap.size:=(Array.getElem?_eq_some_iff.1 hl).1;have hy:=run_yield (P:=P) (args:=#[]) hl (by rw [hrec];rfl);rw [hrec] at hy;have hz:∀(f:Array Value->Tmp×Value->Array Value) (t:Array Value),((#[]:Array Tmp).zip (#[]:Array Value)).foldl f t=t:=fun f t=>by simp
   simp only [hz] at hy;refine ⟨fn,_,assign,body,hy,roundIn_of_wpIn hfn (hassign W (fun a₁ w₁=>∃w₂,(Instr.beginRound (w.heap.size+1)).run P w₁=.ok () w₂/\body.wpIn (F.inRound (w.heap.size+1)) (n-1-1) P (roundPost P (w.heap.size+1) _) a₁ w₂) ?_)⟩
   refine ⟨_,run_beginRound hl (by rw [hrec]),?_⟩;have hf2:=fr_putObj W (w.heap.size+1) (.loop {rec .ready none with state:=.busy});have hl2:(W.putObj (w.heap.size+1) (.loop {rec .ready none with state:=.busy})).heap[w.heap.size+1]?=some (.loop {rec .ready none with state:=.busy}):=World.putObj_heap_same hlt;refine wpIn_mono (hbody _ (hI _ _ hi hf2)) ?_;rintro e a3 W3 (⟨rfl,hb⟩ | ⟨rfl,hb⟩)
   ·have hl3:=(hB _ _ _ hb).same hl2 hX;have hend:=run_endRound (P:=P) none hl3;refine ⟨_,_,hend,true,_,_,rfl,hf2,hb,fr_putObj _ _ _,?_⟩;rw [World.putObj_heap_same (Array.getElem?_eq_some_iff.1 hl3).1,hrec];rfl
   ·have hl3:=(hB _ _ _ hb).same hl2 hX;have hend:=run_endRound (P:=P) (some .ret) hl3;refine ⟨_,_,hend,false,_,_,rfl,hf2,hb,fr_putObj _ _ _,?_⟩;rw [World.putObj_heap_same (Array.getElem?_eq_some_iff.1 hl3).1,hrec];rfl
  ·rintro e W2 ⟨⟨v,rfl⟩,hk,b,hl,hR⟩;cases b with
   | true=>
    have hl:W2.heap[w.heap.size+1]?=some (.loop (rec .ready none)):=hl;have hf2:=fr_putObj W2 (w.heap.size+1) (.loop {rec .ready none with state:=.exhausted});refine ⟨none,_,?_,hdone true W2 _ hR hf2 (hf2.same hk (by omega))⟩;have:=run_endLoop (P:=P) hl (by rw [hrec];simp);rw [this];rw [hrec]
   | false=>
    have hl:W2.heap[w.heap.size+1]?=some (.loop (rec .done (some .ret))):=hl;have hf2:=fr_putObj W2 (w.heap.size+1) (.loop {rec .done (some .ret) with state:=.exhausted});refine ⟨some .ret,_,?_,wpIn_ret (hdone false W2 _ hR hf2 (hf2.same hk (by omega)))⟩;have:=run_endLoop (P:=P) hl (by rw [hrec];simp);rw [this];rw [hrec]
end Go.Proofs.YtdpjgflemddekaaGreatDoor

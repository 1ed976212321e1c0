/- A range over a function whose iterator writes memory between its rounds; each round goes on. Nothing of the program's text. -/
import Derived.Test.YtdpjgflemddekaaDoorMCodeP
import Derived.Test.YtdpjgflemddekaaDoorMMapB
import Derived.RangeFuncNested
import Derived.RangeFuncCalls
import Derived.RangeFuncLeaves
import Derived.TacticsInMore
import Derived.RangeFuncBound
import Derived.Shelf.Abstract
import Derived.Shelf.RegionOpen
import Derived.OwnWalkIn
import Derived.LoopNIn
import Derived.LoopIn
import Derived.Conc.LoneCalls
import Derived.Conc.LoneSelect
set_option maxRecDepth 100000
set_option maxHeartbeats 1000000
namespace Go.Proofs.YtdpjgflemddekaaDoor
open Go.RowKit
theorem jc (W:World)(l:Nat)(o:Obj):Fr W (W.putObj l o) (fun k=>k=l):=
 (Fr.refl W (fun k=>k=l)).grown (grownBy_putObj' W l o) (fun k e=>.inl (by cases e;rfl))
def a88 (F:Fence)(m:Nat)(P:Program)(d:Nat)(o1 o2:Obj)(I:World->Prop):Prop:=
 ∀W,I W->W.heap[d]?=some o1->W.heap[d+1]?=some o2->YieldAt F m P (d+1) #[] W fun e W'=>e=.returned (.bool true)/\Fr W W' (fun k=>k=d+1)/\W'.heap[d+1]?=some o2
theorem wh {F:Fence}{n:Nat}{P:Program}{g:Operand}{assign body:Code}{Q:Exit->Act->World->Prop}{a:Act}{w:World}
 (hro:F.round=none) (h1:1<=n) {gf:Nat} {lb:Array Value} (hg:a.eval g=.func (.func gf) #[] lb) (hFg:F.fn gf) (eg:∀args w,(callFunc gf args).run P w=.ok (.enter gf args) w)
 (I R:World->Prop) (a₁:Act) (hI:∀W W',I W->Fr W W' (fun k=>k=w.heap.size+1)->I W')
 (hassign:∀(W:World) (K:Act->World->Prop),K a₁ W->assign.wpIn (F.inRound (w.heap.size+1)) (n-1-1) P (Exit.then K (fun _ _ _=>False)) {tmps:=a.tmps,defers:=[]} W)
 (hbody:∀(W:World),I W->body.wpIn (F.inRound (w.heap.size+1)) (n-1-1) P (fun e _ W'=>e=.normal/\W'=W) a₁ W)
 (hiter:∀(o1 o2:Obj) (W1:World),Fr w W1 (fun _=>False)->W1.heap[w.heap.size]?=some o1->W1.heap[w.heap.size+1]?=some o2->a88 F (n-1-1) P w.heap.size o1 o2 I->
   CallsIn F (n-1) P gf (#[.func (.yield (w.heap.size+1)) #[] #[]]++lb) W1 fun e W'=>(∃v,e=.returned v)/\W'.heap[w.heap.size]?=some o1/\W'.heap[w.heap.size+1]?=some o2/\R W')
 (hdone:∀W W',R W->Fr W W' (fun k=>k=w.heap.size+1)->W'.heap[w.heap.size]?=some (.deferred (some []))->Q .normal {a with defers:={target:=.collected w.heap.size,args:=#[]} :: a.defers} W') :
 (Code.rangeFunc g #[] assign body).wpIn F n P Q a w:=by
 refine wpIn_rangeFunc ?_;intro fn hfn;rw [hro];obtain ⟨rec,hrec⟩:∃rec:LoopState->Loop,rec=fun st=>{state:=st,pending:=none,fn,tmps:=a.tmps,params:=#[],assign,body,defers:=w.heap.size}:=⟨_,rfl⟩
 obtain ⟨W1,hW1⟩:∃W1,(w.alloc (.deferred (some []))).alloc (.loop (rec .ready))=W1:=⟨_,rfl⟩;have hL1:W1.heap[w.heap.size+1]?=some (.loop (rec .ready)):=by
  rw [<- hW1];have:=World.alloc_heap_new (w.alloc (.deferred (some []))) (.loop (rec .ready));rwa [World.size_alloc] at this
 have hK1:W1.heap[w.heap.size]?=some (.deferred (some [])):=by
  rw [<- hW1];exact (Below.heap_alloc _ _ _ (by simp)).trans (World.alloc_heap_new w _)
 have hF1:Fr w W1 (fun _=>False):=by rw [<- hW1];exact ((Fr.refl w _).alloc _).alloc _
 refine ⟨w.heap.size+1,[{target:=.collected w.heap.size,args:=#[]}],W1,{target:=.fn (.func gf) lb,args:=#[.func (.yield (w.heap.size+1)) #[] #[]]},W1,gf,
  #[.func (.yield (w.heap.size+1)) #[] #[]]++lb,W1,?_,?_,?_,?_,fun _=>h1,?_⟩
 ·rw [<- hW1,hrec];exact run_enterLoop_outer _ _ _ _ _
 ·simp only [resolve,hg];simp [go_sem]
 ·intro f' hf';simp [Target.leads] at hf';subst hf';exact hFg
 ·simp [invoke,go_sem,eg]
 ·refine (hiter (.deferred (some [])) (.loop (rec .ready)) W1 hF1 hK1 hL1 ?_).mono ?_
  ·intro W hi hk hl;have hlt:w.heap.size+1<W.heap.size:=(Array.getElem?_eq_some_iff.1 hl).1;have hy:=run_yield (P:=P) (args:=#[]) hl (by rw [hrec];rfl);rw [hrec] at hy;have hz:∀(f:Array Value->Tmp×Value->Array Value) (t:Array Value),((#[]:Array Tmp).zip (#[]:Array Value)).foldl f t=t:=fun f t=>by simp
   simp only [hz] at hy;refine ⟨fn,_,assign,body,hy,roundIn_of_wpIn hfn (hassign W (fun a₁ w₁=>∃w₂,(Instr.beginRound (w.heap.size+1)).run P w₁=.ok () w₂/\body.wpIn (F.inRound (w.heap.size+1)) (n-1-1) P (roundPost P (w.heap.size+1) _) a₁ w₂) ?_)⟩
   refine ⟨_,run_beginRound hl (by rw [hrec]),?_⟩;have hf2:=jc W (w.heap.size+1) (.loop {rec .ready with state:=.busy});have hl2:(W.putObj (w.heap.size+1) (.loop {rec .ready with state:=.busy})).heap[w.heap.size+1]?=some (.loop {rec .ready with state:=.busy}):=World.putObj_heap_same hlt;refine wpIn_mono (hbody _ (hI _ _ hi hf2)) ?_;rintro e a3 W3 ⟨rfl,rfl⟩;have hend:=run_endRound (P:=P) none hl2;refine ⟨_,_,hend,rfl,?_,?_⟩
   ·exact hf2.step (jc _ _ _) (fun k hk=>.inl hk)
   ·rw [World.putObj_heap_same (Array.getElem?_eq_some_iff.1 hl2).1,hrec];rfl
  ·rintro e W2 ⟨⟨v,rfl⟩,hk,hl,hR⟩;have hf2:=jc W2 (w.heap.size+1) (.loop {rec .ready with state:=.exhausted});refine ⟨none,_,?_,hdone W2 _ hR hf2 (hf2.same hk (by omega))⟩;have:=run_endLoop (P:=P) hl (by rw [hrec];simp);rw [this];rw [hrec]
end Go.Proofs.YtdpjgflemddekaaDoor
namespace Go.Proofs.YtdpjgflemddekaaDoor
open Go.RowKit Go.Shelf
attribute [local go_sem] Oper.semAt_some
theorem oz (kb:Nat)(w:World):
 Calls Tryd.prog 61 #[.pointer (some ⟨kb,0,none⟩)] w fun e w'=>e=.returned (.func (.func 82) #[] #[.pointer (some ⟨w.heap.size,0,none⟩)])/\w'=w.alloc (.cells #[.pointer (some ⟨kb,0,none⟩)] 24):=by
 go_enter Tryd.func61,Tryd.ntmps61
 go_wp2;go_ret;exact ⟨rfl,rfl⟩
theorem ap8 (kb:Nat)(s:Slot)(w:World):
 Calls Tryd.prog 66 #[.pointer (some ⟨kb,0,none⟩),.agg #[.int .i64 s.node,.int .i64 s.index]] w fun e w'=>e=.returned (.func (.func 86) #[] #[.pointer (some ⟨w.heap.size,0,none⟩),.pointer (some ⟨w.heap.size+1,0,none⟩)])/\
  w'=(w.alloc (.cells #[.pointer (some ⟨kb,0,none⟩)] 24)).alloc (.cells #[.int .i64 s.node,.int .i64 s.index] 72):=by
 go_enter Tryd.func66,Tryd.ntmps66
 go_wp2;go_ret;exact ⟨rfl,rfl⟩
attribute [local go_sem] Oper.semAt_some
theorem bn6 (ub:Nat)(A:Option Addr)(cap:Nat)(w:World)(hc:w.cell? ⟨ub,13,none⟩=some (.slice A 0 cap)):
 Calls Tryd.prog 81 #[.pointer (some ⟨ub,0,none⟩)] w fun e w'=>e=.returned (.bool false)/\w'=w:=by
 go_enter Tryd.func81,Tryd.ntmps81
 go_wp2;go_ret;exact ⟨rfl,rfl⟩
theorem a14 (gf:Nat)(lb:Array Value)(ub:Nat)(A:Option Addr)(cap:Nat)(w:World)(X:Nat->Prop)(R:World->World->Prop)(eg:∀args w,(callFunc gf args).run Tryd.prog w=.ok (.enter gf args) w)
 (hc:w.cell? ⟨ub,13,none⟩=some (.slice A 0 cap)) (hub:¬X ub) (hX:∀k,X k->k<w.heap.size)
 (hiter:∀(d:Nat) (o1 o2:Obj) (W1:World),Fr w W1 (fun _=>False)->w.heap.size<=d->W1.heap[d]?=some o1->W1.heap[d+1]?=some o2->a88 Fence.wide 0 Tryd.prog d o1 o2 (fun W=>Fr W1 W (fun k=>X k\/k=d+1))->
   CallsIn Fence.wide 1 Tryd.prog gf (#[.func (.yield (d+1)) #[] #[]]++lb) W1 fun e W'=>(∃v,e=.returned v)/\Fr W1 W' (fun k=>X k\/k=d+1)/\W'.heap[d+1]?=some o2/\R W1 W')
 (hR:∀W1 W W',R W1 W->Fr W W' (fun k=>w.heap.size<=k/\k<W1.heap.size)->R W1 W') :
 Calls Tryd.prog 60 #[.pointer (some ⟨ub,0,none⟩),.func (.func gf) #[] lb] w fun e w'=>e=.returned (.int .i64 0)/\∃W1,Fr w W1 (fun _=>False)/\R W1 w':=by
 have hult:=World.block_lt_of_cell? _ _ hc;simp only at hult;refine (callsIn_wide (n:=2)).1 ?_;refine callsIn_of_wp_marks Tryd.func60 rfl trivial ?_ rfl;simp only [Tryd.ntmps60,List.size_toArray,List.length_cons,List.length_nil,Nat.reduceAdd,Nat.reduceSub,Array.replicate_succ,Array.replicate_zero,List.push_toArray,List.append_toArray,List.nil_append,List.cons_append];gi_wp2_with fail
 obtain ⟨w2,hw2⟩:∃w2,(w.alloc (.cells #[.pointer (some ⟨ub,0,none⟩)] 89)).alloc (.cells #[.int .i64 0] 26)=w2:=⟨_,rfl⟩;obtain ⟨hf2,hs2,hb1,hb2⟩:=m6 hw2;rw [hw2];have hz2:w2.heap.size=w.heap.size+2:=by rw [<- hw2];simp
 clear hw2 hs2;have hz1:∀{W:World},Fr w2 W (fun _=>False)->w.heap.size+2<=W.heap.size:=fun h=>by have:=h.size;omega
 refine wh rfl (by decide) (gf:=gf) (lb:=lb) rfl trivial eg (fun W=>Fr w2 W (fun k=>X k\/k=w2.heap.size+1)) (fun W'=>∃W1,Fr w W1 (fun _=>False)/\w2.heap.size+1<W1.heap.size/\Fr w2 W' (fun k=>X k\/k=w2.heap.size+1)/\R W1 W')
  {tmps:=#[.pointer (some ⟨ub,0,none⟩),.func (.func gf) #[] lb,.pointer (some ⟨w.heap.size,0,none⟩),undef,.pointer (some ⟨w.heap.size+1,0,none⟩),.func (.func gf) #[] lb,undef,undef],defers:=[]} ?_ ?assign ?body ?iter ?done
 ·intro W W' h1 h2;exact h1.step h2 (fun k hk=>.inl (.inr hk))
 case assign=>
  intro W K hK;gi_wp2
  simpa using hK
 case body=>
  intro W hW;have c0:W.cell? ⟨w.heap.size,0,none⟩=some (.pointer (some ⟨ub,0,none⟩)):=aa (o:=0) (hW.same hb1 (fun e=>e.elim (fun e=>by have:=hX _ e;omega) (fun e=>by omega))) rfl
  have c1:W.cell? ⟨ub,13,none⟩=some (.slice A 0 cap):=hW.cell (hf2.cell hc id) (fun e=>e.elim hub (fun e=>by simp only at e;omega))
  have hp:=CallsIn.inRound (w2.heap.size+1) ((callsIn_wide (n:=0)).2 (bn6 ub A cap W c1));clear hW hiter hR hz2 hz1;gi_wp2_with ((try refine ⟨trivial,rfl,?_⟩);refine hp.mono ?_;rintro e W2 ⟨rfl,rfl⟩)
 case iter=>
  intro o1 o2 W1 hf1 hd hl hgo;have hF1:Fr w W1 (fun _=>False):=hf2.step hf1 (fun _=>False.elim);refine (hiter w2.heap.size o1 o2 W1 hF1 (by omega) hd hl ?_).mono ?_
  ·intro W hW h1 h2;exact hgo W ((hf1.mono (fun _=>False.elim)).step hW (fun k hk=>.inl hk)) h1 h2
  ·rintro e W' ⟨he,hfr,ho2,hR1⟩;exact ⟨he,hfr.same hd (fun e=>e.elim (fun e=>by have:=hX _ e;omega) (fun e=>by omega)),ho2,W1,hF1,(Array.getElem?_eq_some_iff.1 hl).1,(hf1.mono (fun _=>False.elim)).step hfr (fun k hk=>.inl hk),hR1⟩
 case done=>
  rintro W W' ⟨W1,hF1,hlt,hFW,hR1⟩ hf hK;have hb2':W'.heap[w.heap.size+1]?=some (.cells #[.int .i64 0] 26 (0,0)):=hf.same (hFW.same hb2 (fun e=>e.elim (fun e=>by have:=hX _ e;omega) (fun e=>by omega))) (by omega)
  have hR2:=hR W1 W W' hR1 (hf.mono (fun k hk=>by rw [hk];omega));have c0:=aa (o:=0) hb2' rfl;have z0:=ae (o:=0) hb2';clear hf;gi_wp2
  have hf3:=Fr.set1 W' (w.heap.size+1) 0 (.int .i64 0);have hK2:=hf3.same hK (by omega);have hb3:=au W' (w.heap.size+1) 0 (.int .i64 0) hb2';have hR3:=hR W1 W' _ hR2 (hf3.mono (fun k hk=>by rw [hk];omega));generalize W'.setCell ⟨w.heap.size+1,0,none⟩ (.int .i64 0)=W2 at hK2 hb3 hR3;refine ⟨by simp,.inl ⟨_,_,rfl,run_takeDeferred hK2,?_⟩⟩;have hf4:=jc W2 w2.heap.size (.deferred none);have hb4:=hf4.same hb3 (by omega);have hR4:=hR W1 W2 _ hR3 (hf4.mono (fun k hk=>by rw [hk];omega));have c4:=aa (o:=0) hb4 rfl;generalize W2.putObj w2.heap.size (.deferred none)=W3 at hR4 c4;refine ⟨.int .i64 0,?_,rfl,W1,hF1,hR4⟩;simp [results,Tryd.results60,go_sem,c4]
end Go.Proofs.YtdpjgflemddekaaDoor
namespace Go.Proofs.YtdpjgflemddekaaDoor
open Go.RowKit Go.Conc
theorem ak9 {P:Program}{b:Frame}{a:Act}{k:List Item}{cs:List Frame}{w:World}{ops:Array Oper}{i:Nat}{rest:List Nat}{o:Oper}{cases:Array CommCase}{blocking:Bool}{shape:CommShape}{w':World}(ho:ops[i]?=some o)(hw:Region.wanted o (yielded ops a.tmps)=true)
 (hr:(execOp a.eval o).run P w=.ok (.comm cases blocking shape) w') :
 ∃es,stepG P true (G (b.at a (.inRegion ops (i :: rest) :: k)) cs) w=.comm (G (b.at a (.inRegion ops (i :: rest) :: k)) cs) cases blocking shape w' es:=by
 have hg:=stepG_op (P:=P) (b:=b) (k:=k) (cs:=cs) (w:=w) (rest:=rest) ho hw;rw [show G (b.at a (.inRegion ops (i :: rest) :: k)) cs={frame:=b.at a (.inRegion ops (i :: rest) :: k),callers:=cs,status:=.running,dying:=none} from rfl,hg];simp only [stepG.apply,Sem.runT_eq,hr,if_true,GStep.after];exact ⟨_,rfl⟩
theorem bh8 (w:World)(c:Nat)(o:Obj):Fr w {w with heap:=w.heap.setIfInBounds c o} (fun k=>k=c):=
 ⟨rfl,rfl,rfl,by simp,fun k _ hk=>by simp only;rw [Array.getElem?_setIfInBounds_ne (fun e=>hk e.symm)]⟩
theorem jo.del {w:World}{Q:List (Int×(Nat×Nat))}{C:Nat->List dx}(h:jo w Q C)(b:Int)(hn:(Q.map Prod.fst).Nodup):jo w (iu b Q) C:=by
 have key:∀e q,aq e (iu b Q)=some q->aq e Q=some q:=fun e q he=>by
  rw [j2 b e Q hn] at he;split at he
  ·cases he
  ·exact he
 exact ⟨fun e q he=>h.chan e q (key e q he),fun e q e' q' h1 h2=>h.apart e q e' q' (key e q h1) (key e' q' h2),fun e q he=>h.two e q (key e q he)⟩
theorem bv6 (a b:Option Nat)(W:World):(Instr.index 171 (.agg #[.chan a,.chan b]) (.int .i64 0)).run Tryd.prog W=.ok (.chan a) W:=by kernel_rfl
theorem bt5 (a b:Option Nat)(W:World):(Instr.index 171 (.agg #[.chan a,.chan b]) (.int .i64 1)).run Tryd.prog W=.ok (.chan b) W:=by kernel_rfl
def iw (P:Program)(ops:Array Oper)(Q:Exit->Act->World->Prop)(l:List Nat)(a:Act)(w:World):Prop:=
 ∀(b:Frame) (k:List Item) (cs:List Frame),∃e a' w',Q e a' w'/\Arrives P (lone (b.at a (.inRegion ops l :: k)) cs w) b k cs e a' w'
section
variable {P:Program} {ops:Array Oper} {Q:Exit->Act->World->Prop} {a:Act} {w:World} {i:Nat} {rest:List Nat} {o:Oper}
theorem iw.plain {l:List Nat}(h:wpOps P ops Q l a w):iw P ops Q l a w:=fun b k cs=>wp_ops l a w h b k cs
theorem iw.from (k:Nat){l:List Nat}(hl:l=List.range' k (ops.size-k))(h:wpList P ops Q (ops.toList.drop k) a w):iw P ops Q l a w:=by
 subst hl;have e:=wpOps_eq_wpList (P:=P) (ops:=ops) (Q:=Q) (ops.toList.drop k) k (fun j=>by simp);have hlen:(ops.toList.drop k).length=ops.size-k:=by simp
 rw [hlen] at e;exact iw.plain (by rw [e];exact h)
theorem iw.region {id:Nat}{l:List Nat}(hl:List.range ops.size=l)(h:iw P ops Q l a w):(Code.region id ops false).wp P Q a w:=by
 subst hl;intro b k cs;obtain ⟨e,a',w',hq,harr⟩:=h b k cs;exact ⟨e,a',w',hq,.of_steps (.one step_region) harr⟩
theorem iw.of_step {a1:Act}{w1:World}(hs:∀(b:Frame) (k:List Item) (cs:List Frame),step P (lone (b.at a (.inRegion ops (i :: rest) :: k)) cs w)=.next (lone (b.at a1 (.inRegion ops rest :: k)) cs w1))(h:iw P ops Q rest a1 w1):iw P ops Q (i :: rest) a w:=by
 intro b k cs;obtain ⟨e,a',w',hq,harr⟩:=h b k cs;exact ⟨e,a',w',hq,.of_steps (.one (hs b k cs)) harr⟩
theorem iw.value {v:Value}{w1:World}(ho:ops[i]?=some o)(hw:Region.wanted o (yielded ops a.tmps)=true)(hr:(execOp a.eval o).run P w=.ok (.value v) w1)(h:iw P ops Q rest (a.put o.dst v) w1):iw P ops Q (i :: rest) a w:=by
 refine iw.of_step (fun b k cs=>?_) h;have hfin:(b.at a (.inRegion ops (i :: rest) :: k)).finish v=b.at (a.put o.dst v) (.inRegion ops rest :: k):=by rw [Frame.finish_at,ho];rfl
 rw [<- hfin];exact step_lone_go (by rw [stepG_op ho hw];simp [stepG.apply,hr])
theorem iw.comm {cases:Array CommCase}{blocking:Bool}{shape:CommShape}{v:Value}{w1:World}(ho:ops[i]?=some o)(hw:Region.wanted o (yielded ops a.tmps)=true)(hr:(execOp a.eval o).run P w=.ok (.comm cases blocking shape) w)
 (hs:∀(fr:Frame) (cs:List Frame) (es:Array Event),stepG P true (G fr cs) w=.comm (G fr cs) cases blocking shape w es->step P (solo (G fr cs) w)=.next (solo (G (fr.finish v) cs) w1)) (h:iw P ops Q rest (a.put o.dst v) w1):iw P ops Q (i :: rest) a w:=by
 refine iw.of_step (fun b k cs=>?_) h;obtain ⟨es,hg⟩:=ak9 (P:=P) (b:=b) (k:=k) (cs:=cs) (rest:=rest) ho hw hr;have h1:=hs _ _ _ hg;rw [Frame.finish_at,ho] at h1;exact h1
variable {c cap s r:Nat} {buf:Array Value} {z z' v:Value} {tm closed:Bool}
theorem iw.recv_buf (ok:Bool)(ho:ops[i]?=some o)(hw:Region.wanted o (yielded ops a.tmps)=true)(hr:(execOp a.eval o).run P w=.ok (.comm #[rcase c z] true (.recv ok)) w)(hc:w.heap[c]?=some (.chan cap buf closed s r tm))(hsome:0<buf.size)
 (h:iw P ops Q rest (a.put o.dst (got ok (buf.getD 0 undef) true)) (w.setChan c cap (buf.extract 1 buf.size) closed s (r+1) tm)):iw P ops Q (i :: rest) a w:=
 iw.comm ho hw hr (fun _ _ _ hg=>step_lone_recv_buf ok hg hc hsome) h
theorem iw.recv_shut (ok:Bool)(ho:ops[i]?=some o)(hw:Region.wanted o (yielded ops a.tmps)=true)(hr:(execOp a.eval o).run P w=.ok (.comm #[rcase c z] true (.recv ok)) w)(hc:w.heap[c]?=some (.chan cap #[] true s r tm))
 (h:iw P ops Q rest (a.put o.dst (got ok z false)) w):iw P ops Q (i :: rest) a w:=
 iw.comm ho hw hr (fun _ _ _ hg=>step_lone_recv_shut ok hg hc) h
theorem iw.send_room (ho:ops[i]?=some o)(hw:Region.wanted o (yielded ops a.tmps)=true)(hr:(execOp a.eval o).run P w=.ok (.comm #[scase c v z'] true .send) w)(hc:w.heap[c]?=some (.chan cap buf false s r tm))(hroom:buf.size<cap)
 (h:iw P ops Q rest (a.put o.dst undef) (w.setChan c cap (buf.push v) false (s+1) r tm)):iw P ops Q (i :: rest) a w:=
 iw.comm ho hw hr (fun _ _ _ hg=>step_lone_send_room hg hc hroom) h
theorem iw.sel_recv (ho:ops[i]?=some o)(hw:Region.wanted o (yielded ops a.tmps)=true)(hr:(execOp a.eval o).run P w=.ok (.comm #[rcase c z] false .select) w)(hc:w.heap[c]?=some (.chan cap buf closed s r tm))(hsome:0<buf.size)
 (h:iw P ops Q rest (a.put o.dst (.tuple #[goInt 0,.bool true,buf.getD 0 undef])) (w.setChan c cap (buf.extract 1 buf.size) closed s (r+1) tm)):iw P ops Q (i :: rest) a w:=
 iw.comm ho hw hr (fun _ _ _ hg=>step_lone_select_recv_buf hg hc hsome) h
theorem iw.sel_default (ho:ops[i]?=some o)(hw:Region.wanted o (yielded ops a.tmps)=true)(hr:(execOp a.eval o).run P w=.ok (.comm #[rcase c z] false .select) w)(hc:w.heap[c]?=some (.chan cap #[] false s r tm))
 (h:iw P ops Q rest (a.put o.dst (.tuple #[goInt (-1),.bool false,z])) w):iw P ops Q (i :: rest) a w:=
 iw.comm ho hw hr (fun _ _ _ hg=>step_lone_select_default hg hc) h
end
end Go.Proofs.YtdpjgflemddekaaDoor
namespace Go.Proofs.YtdpjgflemddekaaDoor
open Go.RowKit
def bz5 (F:Fence)(m:Nat)(P:Program)(d:Nat)(o1 o2 o3:Obj)(I:World->Prop)(B:Bool->World->World->Prop):Prop:=
 ∀W,I W->W.heap[d]?=some o1->W.heap[d+1]?=some o2->YieldAt F m P (d+1) #[] W fun e W'=>∃b Wb W2,e=.returned (.bool b)/\Fr W Wb (fun k=>k=d+1)/\B b Wb W2/\Fr W2 W' (fun k=>k=d+1)/\W'.heap[d+1]?=some (if b then o2 else o3)
theorem wi {F:Fence}{n:Nat}{P:Program}{g:Operand}{assign body:Code}{Q:Exit->Act->World->Prop}{a:Act}{w:World}
 (hro:F.round=none) (h1:1<=n) {gf:Nat} {lb:Array Value} (hg:a.eval g=.func (.func gf) #[] lb) (hFg:F.fn gf) (eg:∀args w,(callFunc gf args).run P w=.ok (.enter gf args) w)
 (I:World->Prop) (B:Bool->World->World->Prop) (R:Bool->World->Prop) (X:Nat->Prop) (a₁:Act) (hI:∀W W',I W->Fr W W' (fun k=>k=w.heap.size+1)->I W') (hB:∀b W W',B b W W'->Fr W W' X) (hX:¬X (w.heap.size+1))
 (hassign:∀(W:World) (K:Act->World->Prop),K a₁ W->assign.wpIn (F.inRound (w.heap.size+1)) (n-1-1) P (Exit.then K (fun _ _ _=>False)) {tmps:=a.tmps,defers:=[]} W)
 (hbody:∀(W:World),I W->body.wpIn (F.inRound (w.heap.size+1)) (n-1-1) P (fun e _ W'=>(e=.normal/\B true W W')\/(e=.ret/\B false W W')) a₁ W)
 (hiter:∀(o1 o2 o3:Obj) (W1:World),Fr w W1 (fun _=>False)->W1.heap[w.heap.size]?=some o1->W1.heap[w.heap.size+1]?=some o2->bz5 F (n-1-1) P w.heap.size o1 o2 o3 I B->
   CallsIn F (n-1) P gf (#[.func (.yield (w.heap.size+1)) #[] #[]]++lb) W1 fun e W'=>(∃v,e=.returned v)/\W'.heap[w.heap.size]?=some o1/\∃b,W'.heap[w.heap.size+1]?=some (if b then o2 else o3)/\R b W')
 (hdone:∀b W W',R b W->Fr W W' (fun k=>k=w.heap.size+1)->W'.heap[w.heap.size]?=some (.deferred (some []))->Q (if b then .normal else .ret) {a with defers:={target:=.collected w.heap.size,args:=#[]} :: a.defers} W') :
 (Code.rangeFunc g #[] assign body).wpIn F n P Q a w:=by
 refine wpIn_rangeFunc ?_;intro fn hfn;rw [hro];obtain ⟨rec,hrec⟩:∃rec:LoopState->Option Code->Loop,rec=fun st pe=>{state:=st,pending:=pe,fn,tmps:=a.tmps,params:=#[],assign,body,defers:=w.heap.size}:=⟨_,rfl⟩
 obtain ⟨W1,hW1⟩:∃W1,(w.alloc (.deferred (some []))).alloc (.loop (rec .ready none))=W1:=⟨_,rfl⟩;have hL1:W1.heap[w.heap.size+1]?=some (.loop (rec .ready none)):=by
  rw [<- hW1];have:=World.alloc_heap_new (w.alloc (.deferred (some []))) (.loop (rec .ready none));rwa [World.size_alloc] at this
 have hK1:W1.heap[w.heap.size]?=some (.deferred (some [])):=by
  rw [<- hW1];exact (Below.heap_alloc _ _ _ (by simp)).trans (World.alloc_heap_new w _)
 have hF1:Fr w W1 (fun _=>False):=by rw [<- hW1];exact ((Fr.refl w _).alloc _).alloc _
 refine ⟨w.heap.size+1,[{target:=.collected w.heap.size,args:=#[]}],W1,{target:=.fn (.func gf) lb,args:=#[.func (.yield (w.heap.size+1)) #[] #[]]},W1,gf,
  #[.func (.yield (w.heap.size+1)) #[] #[]]++lb,W1,?_,?_,?_,?_,fun _=>h1,?_⟩
 ·rw [<- hW1,hrec];exact run_enterLoop_outer _ _ _ _ _
 ·simp only [resolve,hg];simp [go_sem]
 ·intro f' hf';simp [Target.leads] at hf';subst hf';exact hFg
 ·simp [invoke,go_sem,eg]
 ·refine (hiter (.deferred (some [])) (.loop (rec .ready none)) (.loop (rec .done (some .ret))) W1 hF1 hK1 hL1 ?_).mono ?_
  ·intro W hi hk hl;have hlt:w.heap.size+1<W.heap.size:=(Array.getElem?_eq_some_iff.1 hl).1;have hy:=run_yield (P:=P) (args:=#[]) hl (by rw [hrec];rfl);rw [hrec] at hy;have hz:∀(f:Array Value->Tmp×Value->Array Value) (t:Array Value),((#[]:Array Tmp).zip (#[]:Array Value)).foldl f t=t:=fun f t=>by simp
   simp only [hz] at hy;refine ⟨fn,_,assign,body,hy,roundIn_of_wpIn hfn (hassign W (fun a₁ w₁=>∃w₂,(Instr.beginRound (w.heap.size+1)).run P w₁=.ok () w₂/\body.wpIn (F.inRound (w.heap.size+1)) (n-1-1) P (roundPost P (w.heap.size+1) _) a₁ w₂) ?_)⟩
   refine ⟨_,run_beginRound hl (by rw [hrec]),?_⟩;have hf2:=jc W (w.heap.size+1) (.loop {rec .ready none with state:=.busy});have hl2:(W.putObj (w.heap.size+1) (.loop {rec .ready none with state:=.busy})).heap[w.heap.size+1]?=some (.loop {rec .ready none with state:=.busy}):=World.putObj_heap_same hlt;refine wpIn_mono (hbody _ (hI _ _ hi hf2)) ?_;rintro e a3 W3 (⟨rfl,hb⟩ | ⟨rfl,hb⟩)
   ·have hl3:=(hB _ _ _ hb).same hl2 hX;have hend:=run_endRound (P:=P) none hl3;refine ⟨_,_,hend,true,_,_,rfl,hf2,hb,jc _ _ _,?_⟩;rw [World.putObj_heap_same (Array.getElem?_eq_some_iff.1 hl3).1,hrec];rfl
   ·have hl3:=(hB _ _ _ hb).same hl2 hX;have hend:=run_endRound (P:=P) (some .ret) hl3;refine ⟨_,_,hend,false,_,_,rfl,hf2,hb,jc _ _ _,?_⟩;rw [World.putObj_heap_same (Array.getElem?_eq_some_iff.1 hl3).1,hrec];rfl
  ·rintro e W2 ⟨⟨v,rfl⟩,hk,b,hl,hR⟩;cases b with
   | true=>
    have hl:W2.heap[w.heap.size+1]?=some (.loop (rec .ready none)):=hl;have hf2:=jc W2 (w.heap.size+1) (.loop {rec .ready none with state:=.exhausted});refine ⟨none,_,?_,hdone true W2 _ hR hf2 (hf2.same hk (by omega))⟩;have:=run_endLoop (P:=P) hl (by rw [hrec];simp);rw [this];rw [hrec]
   | false=>
    have hl:W2.heap[w.heap.size+1]?=some (.loop (rec .done (some .ret))):=hl;have hf2:=jc W2 (w.heap.size+1) (.loop {rec .done (some .ret) with state:=.exhausted});refine ⟨some .ret,_,?_,wpIn_ret (hdone false W2 _ hR hf2 (hf2.same hk (by omega)))⟩;have:=run_endLoop (P:=P) hl (by rw [hrec];simp);rw [this];rw [hrec]
end Go.Proofs.YtdpjgflemddekaaDoor

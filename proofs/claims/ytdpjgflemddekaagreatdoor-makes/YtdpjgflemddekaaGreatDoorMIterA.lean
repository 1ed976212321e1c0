/- A range over a function whose iterator writes memory between its rounds; each round goes on. Nothing of the program's text. -/
import Derived.Test.YtdpjgflemddekaaGreatDoorMCodeP
import Derived.Test.YtdpjgflemddekaaGreatDoorMMapB
import Derived.RangeFuncNested
import Derived.RangeFuncCalls
import Derived.RangeFuncLeaves
import Derived.TacticsInMore
import Derived.RangeFuncBound
import Derived.Shelf.Abstract
import Derived.Shelf.RegionOpen
import Derived.OwnWalkIn
import Derived.LoopNIn
import Derived.LoopIn
import Derived.Conc.LoneCalls
import Derived.Conc.LoneSelect
set_option maxRecDepth 100000
namespace Go.Proofs.YtdpjgflemddekaaGreatDoor
open Go.RowKit
theorem pc (W:World)(l:Nat)(o:Obj):Fr W (W.putObj l o) (fun k=>k=l):=
 (Fr.refl W (fun k=>k=l)).grown (grownBy_putObj' W l o) (fun k e=>.inl (by cases e;rfl))
end Go.Proofs.YtdpjgflemddekaaGreatDoor
namespace Go.Proofs.YtdpjgflemddekaaGreatDoor
open Go.RowKit Go.Shelf
attribute [local go_sem] Oper.semAt_some
theorem pq (kb:Nat)(w:World):
 Calls Tryz.prog 58 #[.pointer (some ⟨kb,0,none⟩)] w fun e w'=>e=.returned (.func (.func 92) #[] #[.pointer (some ⟨w.heap.size,0,none⟩)])/\w'=w.alloc (.cells #[.pointer (some ⟨kb,0,none⟩)] 34):=by
 go_enter Tryz.func58,Tryz.ntmps58
 go_wp2;go_ret;exact ⟨rfl,rfl⟩
theorem as8 (kb:Nat)(s:Slot)(w:World):
 Calls Tryz.prog 63 #[.pointer (some ⟨kb,0,none⟩),.agg #[.int .i64 s.node,.int .i64 s.index]] w fun e w'=>e=.returned (.func (.func 96) #[] #[.pointer (some ⟨w.heap.size,0,none⟩),.pointer (some ⟨w.heap.size+1,0,none⟩)])/\
  w'=(w.alloc (.cells #[.pointer (some ⟨kb,0,none⟩)] 34)).alloc (.cells #[.int .i64 s.node,.int .i64 s.index] 71):=by
 go_enter Tryz.func63,Tryz.ntmps63
 go_wp2;go_ret;exact ⟨rfl,rfl⟩
attribute [local go_sem] Oper.semAt_some
end Go.Proofs.YtdpjgflemddekaaGreatDoor
namespace Go.Proofs.YtdpjgflemddekaaGreatDoor
open Go.RowKit Go.Conc
theorem an0 {P:Program}{b:Frame}{a:Act}{k:List Item}{cs:List Frame}{w:World}{ops:Array Oper}{i:Nat}{rest:List Nat}{o:Oper}{cases:Array CommCase}{blocking:Bool}{shape:CommShape}{w':World}(ho:ops[i]?=some o)(hw:Region.wanted o (yielded ops a.tmps)=true)
 (hr:(execOp a.eval o).run P w=.ok (.comm cases blocking shape) w') :
 ∃es,stepG P true (G (b.at a (.inRegion ops (i :: rest) :: k)) cs) w=.comm (G (b.at a (.inRegion ops (i :: rest) :: k)) cs) cases blocking shape w' es:=by
 have hg:=stepG_op (P:=P) (b:=b) (k:=k) (cs:=cs) (w:=w) (rest:=rest) ho hw;rw [show G (b.at a (.inRegion ops (i :: rest) :: k)) cs={frame:=b.at a (.inRegion ops (i :: rest) :: k),callers:=cs,status:=.running,dying:=none} from rfl,hg];simp only [stepG.apply,Sem.runT_eq,hr,if_true,GStep.after];exact ⟨_,rfl⟩
theorem bh2 (w:World)(c:Nat)(o:Obj):Fr w {w with heap:=w.heap.setIfInBounds c o} (fun k=>k=c):=
 ⟨rfl,rfl,rfl,by simp,fun k _ hk=>by simp only;rw [Array.getElem?_setIfInBounds_ne (fun e=>hk e.symm)]⟩
theorem jv.del {w:World}{Q:List (Int×(Nat×Nat))}{C:Nat->List dx}(h:jv w Q C)(b:Int)(hn:(Q.map Prod.fst).Nodup):jv w (j3 b Q) C:=by
 have key:∀e q,am e (j3 b Q)=some q->am e Q=some q:=fun e q he=>by
  rw [j9 b e Q hn] at he;split at he
  ·cases he
  ·exact he
 exact ⟨fun e q he=>h.chan e q (key e q he),fun e q e' q' h1 h2=>h.apart e q e' q' (key e q h1) (key e' q' h2),fun e q he=>h.two e q (key e q he)⟩
theorem by2 (a b:Option Nat)(W:World):(Instr.index 197 (.agg #[.chan a,.chan b]) (.int .i64 0)).run Tryz.prog W=.ok (.chan a) W:=by kernel_rfl
theorem bt4 (a b:Option Nat)(W:World):(Instr.index 197 (.agg #[.chan a,.chan b]) (.int .i64 1)).run Tryz.prog W=.ok (.chan b) W:=by kernel_rfl
def j5 (P:Program)(ops:Array Oper)(Q:Exit->Act->World->Prop)(l:List Nat)(a:Act)(w:World):Prop:=
 ∀(b:Frame) (k:List Item) (cs:List Frame),∃e a' w',Q e a' w'/\Arrives P (lone (b.at a (.inRegion ops l :: k)) cs w) b k cs e a' w'
section
variable {P:Program} {ops:Array Oper} {Q:Exit->Act->World->Prop} {a:Act} {w:World} {i:Nat} {rest:List Nat} {o:Oper}
theorem j5.plain {l:List Nat}(h:wpOps P ops Q l a w):j5 P ops Q l a w:=fun b k cs=>wp_ops l a w h b k cs
theorem j5.from (k:Nat){l:List Nat}(hl:l=List.range' k (ops.size-k))(h:wpList P ops Q (ops.toList.drop k) a w):j5 P ops Q l a w:=by
 subst hl;have e:=wpOps_eq_wpList (P:=P) (ops:=ops) (Q:=Q) (ops.toList.drop k) k (fun j=>by simp);have hlen:(ops.toList.drop k).length=ops.size-k:=by simp
 rw [hlen] at e;exact j5.plain (by rw [e];exact h)
theorem j5.region {id:Nat}{l:List Nat}(hl:List.range ops.size=l)(h:j5 P ops Q l a w):(Code.region id ops false).wp P Q a w:=by
 subst hl;intro b k cs;obtain ⟨e,a',w',hq,harr⟩:=h b k cs;exact ⟨e,a',w',hq,.of_steps (.one step_region) harr⟩
theorem j5.of_step {a1:Act}{w1:World}(hs:∀(b:Frame) (k:List Item) (cs:List Frame),step P (lone (b.at a (.inRegion ops (i :: rest) :: k)) cs w)=.next (lone (b.at a1 (.inRegion ops rest :: k)) cs w1))(h:j5 P ops Q rest a1 w1):j5 P ops Q (i :: rest) a w:=by
 intro b k cs;obtain ⟨e,a',w',hq,harr⟩:=h b k cs;exact ⟨e,a',w',hq,.of_steps (.one (hs b k cs)) harr⟩
theorem j5.value {v:Value}{w1:World}(ho:ops[i]?=some o)(hw:Region.wanted o (yielded ops a.tmps)=true)(hr:(execOp a.eval o).run P w=.ok (.value v) w1)(h:j5 P ops Q rest (a.put o.dst v) w1):j5 P ops Q (i :: rest) a w:=by
 refine j5.of_step (fun b k cs=>?_) h;have hfin:(b.at a (.inRegion ops (i :: rest) :: k)).finish v=b.at (a.put o.dst v) (.inRegion ops rest :: k):=by rw [Frame.finish_at,ho];rfl
 rw [<- hfin];exact step_lone_go (by rw [stepG_op ho hw];simp [stepG.apply,hr])
theorem j5.comm {cases:Array CommCase}{blocking:Bool}{shape:CommShape}{v:Value}{w1:World}(ho:ops[i]?=some o)(hw:Region.wanted o (yielded ops a.tmps)=true)(hr:(execOp a.eval o).run P w=.ok (.comm cases blocking shape) w)
 (hs:∀(fr:Frame) (cs:List Frame) (es:Array Event),stepG P true (G fr cs) w=.comm (G fr cs) cases blocking shape w es->step P (solo (G fr cs) w)=.next (solo (G (fr.finish v) cs) w1)) (h:j5 P ops Q rest (a.put o.dst v) w1):j5 P ops Q (i :: rest) a w:=by
 refine j5.of_step (fun b k cs=>?_) h;obtain ⟨es,hg⟩:=an0 (P:=P) (b:=b) (k:=k) (cs:=cs) (rest:=rest) ho hw hr;have h1:=hs _ _ _ hg;rw [Frame.finish_at,ho] at h1;exact h1
variable {c cap s r:Nat} {buf:Array Value} {z z' v:Value} {tm closed:Bool}
theorem j5.recv_buf (ok:Bool)(ho:ops[i]?=some o)(hw:Region.wanted o (yielded ops a.tmps)=true)(hr:(execOp a.eval o).run P w=.ok (.comm #[rcase c z] true (.recv ok)) w)(hc:w.heap[c]?=some (.chan cap buf closed s r tm))(hsome:0<buf.size)
 (h:j5 P ops Q rest (a.put o.dst (got ok (buf.getD 0 undef) true)) (w.setChan c cap (buf.extract 1 buf.size) closed s (r+1) tm)):j5 P ops Q (i :: rest) a w:=
 j5.comm ho hw hr (fun _ _ _ hg=>step_lone_recv_buf ok hg hc hsome) h
theorem j5.recv_shut (ok:Bool)(ho:ops[i]?=some o)(hw:Region.wanted o (yielded ops a.tmps)=true)(hr:(execOp a.eval o).run P w=.ok (.comm #[rcase c z] true (.recv ok)) w)(hc:w.heap[c]?=some (.chan cap #[] true s r tm))
 (h:j5 P ops Q rest (a.put o.dst (got ok z false)) w):j5 P ops Q (i :: rest) a w:=
 j5.comm ho hw hr (fun _ _ _ hg=>step_lone_recv_shut ok hg hc) h
theorem j5.send_room (ho:ops[i]?=some o)(hw:Region.wanted o (yielded ops a.tmps)=true)(hr:(execOp a.eval o).run P w=.ok (.comm #[scase c v z'] true .send) w)(hc:w.heap[c]?=some (.chan cap buf false s r tm))(hroom:buf.size<cap)
 (h:j5 P ops Q rest (a.put o.dst undef) (w.setChan c cap (buf.push v) false (s+1) r tm)):j5 P ops Q (i :: rest) a w:=
 j5.comm ho hw hr (fun _ _ _ hg=>step_lone_send_room hg hc hroom) h
theorem j5.sel_recv (ho:ops[i]?=some o)(hw:Region.wanted o (yielded ops a.tmps)=true)(hr:(execOp a.eval o).run P w=.ok (.comm #[rcase c z] false .select) w)(hc:w.heap[c]?=some (.chan cap buf closed s r tm))(hsome:0<buf.size)
 (h:j5 P ops Q rest (a.put o.dst (.tuple #[goInt 0,.bool true,buf.getD 0 undef])) (w.setChan c cap (buf.extract 1 buf.size) closed s (r+1) tm)):j5 P ops Q (i :: rest) a w:=
 j5.comm ho hw hr (fun _ _ _ hg=>step_lone_select_recv_buf hg hc hsome) h
theorem j5.sel_default (ho:ops[i]?=some o)(hw:Region.wanted o (yielded ops a.tmps)=true)(hr:(execOp a.eval o).run P w=.ok (.comm #[rcase c z] false .select) w)(hc:w.heap[c]?=some (.chan cap #[] false s r tm))
 (h:j5 P ops Q rest (a.put o.dst (.tuple #[goInt (-1),.bool false,z])) w):j5 P ops Q (i :: rest) a w:=
 j5.comm ho hw hr (fun _ _ _ hg=>step_lone_select_default hg hc) h
end
end Go.Proofs.YtdpjgflemddekaaGreatDoor
namespace Go.Proofs.YtdpjgflemddekaaGreatDoor
open Go.RowKit
def b22 (F:Fence)(m:Nat)(P:Program)(d:Nat)(o1 o2 o3:Obj)(I:World->Prop)(B:Bool->World->World->Prop):Prop:=
 ∀W,I W->W.heap[d]?=some o1->W.heap[d+1]?=some o2->YieldAt F m P (d+1) #[] W fun e W'=>∃b Wb W2,e=.returned (.bool b)/\Fr W Wb (fun k=>k=d+1)/\B b Wb W2/\Fr W2 W' (fun k=>k=d+1)/\W'.heap[d+1]?=some (if b then o2 else o3)
theorem xy {F:Fence}{n:Nat}{P:Program}{g:Operand}{assign body:Code}{Q:Exit->Act->World->Prop}{a:Act}{w:World}
 (hro:F.round=none) (h1:1<=n) {gf:Nat} {lb:Array Value} (hg:a.eval g=.func (.func gf) #[] lb) (hFg:F.fn gf) (eg:∀args w,(callFunc gf args).run P w=.ok (.enter gf args) w)
 (I:World->Prop) (B:Bool->World->World->Prop) (R:Bool->World->Prop) (X:Nat->Prop) (a₁:Act) (hI:∀W W',I W->Fr W W' (fun k=>k=w.heap.size+1)->I W') (hB:∀b W W',B b W W'->Fr W W' X) (hX:¬X (w.heap.size+1))
 (hassign:∀(W:World) (K:Act->World->Prop),K a₁ W->assign.wpIn (F.inRound (w.heap.size+1)) (n-1-1) P (Exit.then K (fun _ _ _=>False)) {tmps:=a.tmps,defers:=[]} W)
 (hbody:∀(W:World),I W->body.wpIn (F.inRound (w.heap.size+1)) (n-1-1) P (fun e _ W'=>(e=.normal/\B true W W')\/(e=.ret/\B false W W')) a₁ W)
 (hiter:∀(o1 o2 o3:Obj) (W1:World),Fr w W1 (fun _=>False)->W1.heap[w.heap.size]?=some o1->W1.heap[w.heap.size+1]?=some o2->b22 F (n-1-1) P w.heap.size o1 o2 o3 I B->
   CallsIn F (n-1) P gf (#[.func (.yield (w.heap.size+1)) #[] #[]]++lb) W1 fun e W'=>(∃v,e=.returned v)/\W'.heap[w.heap.size]?=some o1/\∃b,W'.heap[w.heap.size+1]?=some (if b then o2 else o3)/\R b W')
 (hdone:∀b W W',R b W->Fr W W' (fun k=>k=w.heap.size+1)->W'.heap[w.heap.size]?=some (.deferred (some []))->Q (if b then .normal else .ret) {a with defers:={target:=.collected w.heap.size,args:=#[]} :: a.defers} W') :
 (Code.rangeFunc g #[] assign body).wpIn F n P Q a w:=by
 refine wpIn_rangeFunc ?_;intro fn hfn;rw [hro];obtain ⟨rec,hrec⟩:∃rec:LoopState->Option Code->Loop,rec=fun st pe=>{state:=st,pending:=pe,fn,tmps:=a.tmps,params:=#[],assign,body,defers:=w.heap.size}:=⟨_,rfl⟩
 obtain ⟨W1,hW1⟩:∃W1,(w.alloc (.deferred (some []))).alloc (.loop (rec .ready none))=W1:=⟨_,rfl⟩;have hL1:W1.heap[w.heap.size+1]?=some (.loop (rec .ready none)):=by
  rw [<- hW1];have:=World.alloc_heap_new (w.alloc (.deferred (some []))) (.loop (rec .ready none));rwa [World.size_alloc] at this
 have hK1:W1.heap[w.heap.size]?=some (.deferred (some [])):=by
  rw [<- hW1];exact (Below.heap_alloc _ _ _ (by simp)).trans (World.alloc_heap_new w _)
 have hF1:Fr w W1 (fun _=>False):=by rw [<- hW1];exact ((Fr.refl w _).alloc _).alloc _
 refine ⟨w.heap.size+1,[{target:=.collected w.heap.size,args:=#[]}],W1,{target:=.fn (.func gf) lb,args:=#[.func (.yield (w.heap.size+1)) #[] #[]]},W1,gf,
  #[.func (.yield (w.heap.size+1)) #[] #[]]++lb,W1,?_,?_,?_,?_,fun _=>h1,?_⟩
 ·rw [<- hW1,hrec];exact run_enterLoop_outer _ _ _ _ _
 ·simp only [resolve,hg];simp [go_sem]
 ·intro f' hf';simp [Target.leads] at hf';subst hf';exact hFg
 ·simp [invoke,go_sem,eg]
 ·refine (hiter (.deferred (some [])) (.loop (rec .ready none)) (.loop (rec .done (some .ret))) W1 hF1 hK1 hL1 ?_).mono ?_
  ·intro W hi hk hl;have hlt:w.heap.size+1<W.heap.size:=(Array.getElem?_eq_some_iff.1 hl).1;have hy:=run_yield (P:=P) (args:=#[]) hl (by rw [hrec];rfl);rw [hrec] at hy;have hz:∀(f:Array Value->Tmp×Value->Array Value) (t:Array Value),((#[]:Array Tmp).zip (#[]:Array Value)).foldl f t=t:=fun f t=>by simp
   simp only [hz] at hy;refine ⟨fn,_,assign,body,hy,roundIn_of_wpIn hfn (hassign W (fun a₁ w₁=>∃w₂,(Instr.beginRound (w.heap.size+1)).run P w₁=.ok () w₂/\body.wpIn (F.inRound (w.heap.size+1)) (n-1-1) P (roundPost P (w.heap.size+1) _) a₁ w₂) ?_)⟩
   refine ⟨_,run_beginRound hl (by rw [hrec]),?_⟩;have hf2:=pc W (w.heap.size+1) (.loop {rec .ready none with state:=.busy});have hl2:(W.putObj (w.heap.size+1) (.loop {rec .ready none with state:=.busy})).heap[w.heap.size+1]?=some (.loop {rec .ready none with state:=.busy}):=World.putObj_heap_same hlt;refine wpIn_mono (hbody _ (hI _ _ hi hf2)) ?_;rintro e a3 W3 (⟨rfl,hb⟩ | ⟨rfl,hb⟩)
   ·have hl3:=(hB _ _ _ hb).same hl2 hX;have hend:=run_endRound (P:=P) none hl3;refine ⟨_,_,hend,true,_,_,rfl,hf2,hb,pc _ _ _,?_⟩;rw [World.putObj_heap_same (Array.getElem?_eq_some_iff.1 hl3).1,hrec];rfl
   ·have hl3:=(hB _ _ _ hb).same hl2 hX;have hend:=run_endRound (P:=P) (some .ret) hl3;refine ⟨_,_,hend,false,_,_,rfl,hf2,hb,pc _ _ _,?_⟩;rw [World.putObj_heap_same (Array.getElem?_eq_some_iff.1 hl3).1,hrec];rfl
  ·rintro e W2 ⟨⟨v,rfl⟩,hk,b,hl,hR⟩;cases b with
   | true=>
    have hl:W2.heap[w.heap.size+1]?=some (.loop (rec .ready none)):=hl;have hf2:=pc W2 (w.heap.size+1) (.loop {rec .ready none with state:=.exhausted});refine ⟨none,_,?_,hdone true W2 _ hR hf2 (hf2.same hk (by omega))⟩;have:=run_endLoop (P:=P) hl (by rw [hrec];simp);rw [this];rw [hrec]
   | false=>
    have hl:W2.heap[w.heap.size+1]?=some (.loop (rec .done (some .ret))):=hl;have hf2:=pc W2 (w.heap.size+1) (.loop {rec .done (some .ret) with state:=.exhausted});refine ⟨some .ret,_,?_,wpIn_ret (hdone false W2 _ hR hf2 (hf2.same hk (by omega)))⟩;have:=run_endLoop (P:=P) hl (by rw [hrec];simp);rw [this];rw [hrec]
end Go.Proofs.YtdpjgflemddekaaGreatDoor

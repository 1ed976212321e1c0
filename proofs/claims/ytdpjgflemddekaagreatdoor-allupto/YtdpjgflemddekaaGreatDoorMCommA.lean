/- A receive from a channel that is shut and empty, first in a region of the plain walk. Nothing of the program's text. -/
import Derived.Test.YtdpjgflemddekaaGreatDoorMMapB
import Derived.Conc.LoneCalls
import Derived.WalkKit
import Derived.Conc.LoneSelect
namespace Go.Proofs.YtdpjgflemddekaaGreatDoor
open Go.RowKit Go.Conc
theorem stepG_comm_any {P:Program}{b:Frame}{a:Act}{k:List Item}{cs:List Frame}{w:World}{ops:Array Oper}{i:Nat}{rest:List Nat}{o:Oper}{cases:Array CommCase}{blocking:Bool}{shape:CommShape}{w':World}(ho:ops[i]?=some o)(hw:Region.wanted o (yielded ops a.tmps)=true)
 (hr:(execOp a.eval o).run P w=.ok (.comm cases blocking shape) w') :
 ∃es,stepG P true (G (b.at a (.inRegion ops (i :: rest) :: k)) cs) w=.comm (G (b.at a (.inRegion ops (i :: rest) :: k)) cs) cases blocking shape w' es:=by
 have hg:=stepG_op (P:=P) (b:=b) (k:=k) (cs:=cs) (w:=w) (rest:=rest) ho hw;rw [show G (b.at a (.inRegion ops (i :: rest) :: k)) cs={frame:=b.at a (.inRegion ops (i :: rest) :: k),callers:=cs,status:=.running,dying:=none} from rfl,hg];simp only [stepG.apply,Sem.runT_eq,hr,if_true,GStep.after];exact ⟨_,rfl⟩
theorem fr_shut (w:World)(c:Nat)(o:Obj):Fr w {w with heap:=w.heap.setIfInBounds c o} (fun k=>k=c):=
 ⟨rfl,rfl,rfl,by simp,fun k _ hk=>by simp only;rw [Array.getElem?_setIfInBounds_ne (fun e=>hk e.symm)]⟩
theorem RestAt.del {w:World}{Q:List (Int×(Nat×Nat))}{C:Nat->List Wtr}(h:RestAt w Q C)(b:Int)(hn:(Q.map Prod.fst).Nodup):RestAt w (delM b Q) C:=by
 have key:∀e q,ak e (delM b Q)=some q->ak e Q=some q:=fun e q he=>by
  rw [look_del b e Q hn] at he;split at he
  ·cases he
  ·exact he
 exact ⟨fun e q he=>h.chan e q (key e q he),fun e q e' q' h1 h2=>h.apart e q e' q' (key e q h1) (key e' q' h2),fun e q he=>h.two e q (key e q he)⟩
theorem pair_at0 (a b:Option Nat)(W:World):(Instr.index 197 (.agg #[.chan a,.chan b]) (.int .i64 0)).run Tryz.prog W=.ok (.chan a) W:=by kernel_rfl
theorem pair_at1 (a b:Option Nat)(W:World):(Instr.index 197 (.agg #[.chan a,.chan b]) (.int .i64 1)).run Tryz.prog W=.ok (.chan b) W:=by kernel_rfl
def Arr (P:Program)(ops:Array Oper)(Q:Exit->Act->World->Prop)(l:List Nat)(a:Act)(w:World):Prop:=
 ∀(b:Frame) (k:List Item) (cs:List Frame),∃e a' w',Q e a' w'/\Arrives P (lone (b.at a (.inRegion ops l :: k)) cs w) b k cs e a' w'
section
variable {P:Program} {ops:Array Oper} {Q:Exit->Act->World->Prop} {a:Act} {w:World} {i:Nat} {rest:List Nat} {o:Oper}
theorem Arr.plain {l:List Nat}(h:wpOps P ops Q l a w):Arr P ops Q l a w:=fun b k cs=>wp_ops l a w h b k cs
theorem Arr.from (k:Nat){l:List Nat}(hl:l=List.range' k (ops.size-k))(h:wpList P ops Q (ops.toList.drop k) a w):Arr P ops Q l a w:=by
 subst hl;have e:=wpOps_eq_wpList (P:=P) (ops:=ops) (Q:=Q) (ops.toList.drop k) k (fun j=>by simp);have hlen:(ops.toList.drop k).length=ops.size-k:=by simp
 rw [hlen] at e;exact Arr.plain (by rw [e];exact h)
theorem Arr.region {id:Nat}{l:List Nat}(hl:List.range ops.size=l)(h:Arr P ops Q l a w):(Code.region id ops false).wp P Q a w:=by
 subst hl;intro b k cs;obtain ⟨e,a',w',hq,harr⟩:=h b k cs;exact ⟨e,a',w',hq,.of_steps (.one step_region) harr⟩
theorem Arr.of_step {a1:Act}{w1:World}(hs:∀(b:Frame) (k:List Item) (cs:List Frame),step P (lone (b.at a (.inRegion ops (i :: rest) :: k)) cs w)=.next (lone (b.at a1 (.inRegion ops rest :: k)) cs w1))(h:Arr P ops Q rest a1 w1):Arr P ops Q (i :: rest) a w:=by
 intro b k cs;obtain ⟨e,a',w',hq,harr⟩:=h b k cs;exact ⟨e,a',w',hq,.of_steps (.one (hs b k cs)) harr⟩
theorem Arr.value {v:Value}{w1:World}(ho:ops[i]?=some o)(hw:Region.wanted o (yielded ops a.tmps)=true)(hr:(execOp a.eval o).run P w=.ok (.value v) w1)(h:Arr P ops Q rest (a.put o.dst v) w1):Arr P ops Q (i :: rest) a w:=by
 refine Arr.of_step (fun b k cs=>?_) h;have hfin:(b.at a (.inRegion ops (i :: rest) :: k)).finish v=b.at (a.put o.dst v) (.inRegion ops rest :: k):=by rw [Frame.finish_at,ho];rfl
 rw [<- hfin];exact step_lone_go (by rw [stepG_op ho hw];simp [stepG.apply,hr])
theorem Arr.comm {cases:Array CommCase}{blocking:Bool}{shape:CommShape}{v:Value}{w1:World}(ho:ops[i]?=some o)(hw:Region.wanted o (yielded ops a.tmps)=true)(hr:(execOp a.eval o).run P w=.ok (.comm cases blocking shape) w)
 (hs:∀(fr:Frame) (cs:List Frame) (es:Array Event),stepG P true (G fr cs) w=.comm (G fr cs) cases blocking shape w es->step P (solo (G fr cs) w)=.next (solo (G (fr.finish v) cs) w1)) (h:Arr P ops Q rest (a.put o.dst v) w1):Arr P ops Q (i :: rest) a w:=by
 refine Arr.of_step (fun b k cs=>?_) h;obtain ⟨es,hg⟩:=stepG_comm_any (P:=P) (b:=b) (k:=k) (cs:=cs) (rest:=rest) ho hw hr;have h1:=hs _ _ _ hg;rw [Frame.finish_at,ho] at h1;exact h1
variable {c cap s r:Nat} {buf:Array Value} {z z' v:Value} {tm closed:Bool}
theorem Arr.recv_buf (ok:Bool)(ho:ops[i]?=some o)(hw:Region.wanted o (yielded ops a.tmps)=true)(hr:(execOp a.eval o).run P w=.ok (.comm #[rcase c z] true (.recv ok)) w)(hc:w.heap[c]?=some (.chan cap buf closed s r tm))(hsome:0<buf.size)
 (h:Arr P ops Q rest (a.put o.dst (got ok (buf.getD 0 undef) true)) (w.setChan c cap (buf.extract 1 buf.size) closed s (r+1) tm)):Arr P ops Q (i :: rest) a w:=
 Arr.comm ho hw hr (fun _ _ _ hg=>step_lone_recv_buf ok hg hc hsome) h
theorem Arr.recv_shut (ok:Bool)(ho:ops[i]?=some o)(hw:Region.wanted o (yielded ops a.tmps)=true)(hr:(execOp a.eval o).run P w=.ok (.comm #[rcase c z] true (.recv ok)) w)(hc:w.heap[c]?=some (.chan cap #[] true s r tm))
 (h:Arr P ops Q rest (a.put o.dst (got ok z false)) w):Arr P ops Q (i :: rest) a w:=
 Arr.comm ho hw hr (fun _ _ _ hg=>step_lone_recv_shut ok hg hc) h
theorem Arr.send_room (ho:ops[i]?=some o)(hw:Region.wanted o (yielded ops a.tmps)=true)(hr:(execOp a.eval o).run P w=.ok (.comm #[scase c v z'] true .send) w)(hc:w.heap[c]?=some (.chan cap buf false s r tm))(hroom:buf.size<cap)
 (h:Arr P ops Q rest (a.put o.dst undef) (w.setChan c cap (buf.push v) false (s+1) r tm)):Arr P ops Q (i :: rest) a w:=
 Arr.comm ho hw hr (fun _ _ _ hg=>step_lone_send_room hg hc hroom) h
theorem Arr.sel_recv (ho:ops[i]?=some o)(hw:Region.wanted o (yielded ops a.tmps)=true)(hr:(execOp a.eval o).run P w=.ok (.comm #[rcase c z] false .select) w)(hc:w.heap[c]?=some (.chan cap buf closed s r tm))(hsome:0<buf.size)
 (h:Arr P ops Q rest (a.put o.dst (.tuple #[goInt 0,.bool true,buf.getD 0 undef])) (w.setChan c cap (buf.extract 1 buf.size) closed s (r+1) tm)):Arr P ops Q (i :: rest) a w:=
 Arr.comm ho hw hr (fun _ _ _ hg=>step_lone_select_recv_buf hg hc hsome) h
theorem Arr.sel_default (ho:ops[i]?=some o)(hw:Region.wanted o (yielded ops a.tmps)=true)(hr:(execOp a.eval o).run P w=.ok (.comm #[rcase c z] false .select) w)(hc:w.heap[c]?=some (.chan cap #[] false s r tm))
 (h:Arr P ops Q rest (a.put o.dst (.tuple #[goInt (-1),.bool false,z])) w):Arr P ops Q (i :: rest) a w:=
 Arr.comm ho hw hr (fun _ _ _ hg=>step_lone_select_default hg hc) h
end
end Go.Proofs.YtdpjgflemddekaaGreatDoor

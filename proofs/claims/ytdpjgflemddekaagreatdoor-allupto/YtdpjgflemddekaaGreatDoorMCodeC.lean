/- The code: extent.size, node.slots, newQueue, made. -/
import Derived.Test.YtdpjgflemddekaaGreatDoorMCodeA
import Derived.Test.YtdpjgflemddekaaGreatDoorMBase
import Derived.Laws.EntriesVeiled
set_option maxRecDepth 100000
set_option maxHeartbeats 1000000
namespace Go.Proofs.YtdpjgflemddekaaGreatDoor
open Go.RowKit
theorem wrap_pw (m:Nat)(h:m<=20):wrap64 (2 ^ m)=pw m:=by
 have h1:=pw_pos m;have h2:=pw_le m h;have h3:(2:Int) ^ m=pw m:=by unfold pw;rw [Int.natCast_pow];rfl
 rw [h3];unfold wrap64;omega
theorem mkChan (w:World):(Instr.makeChan 123 (.int .i64 64)).run Tryz.prog w=.ok (.chan (some w.heap.size)) (w.alloc (.chan 64 #[] false 0 0 false)):=by kernel_rfl
theorem size_any (b n:Int)(w:World)(h0:0<=n)(h1:n<=20):
 Calls Tryz.prog 56 #[.agg #[.int .i64 b,.int .i64 n]] w fun e w'=>e=.returned (.int .i64 (pw n.toNat))/\Fr w w' (fun _=>False):=by
 obtain ⟨m,rfl⟩:=Int.eq_ofNat_of_zero_le h0;have hw:=wrap_pw m (by omega);go_enter Tryz.func56,Tryz.ntmps56
 go_wp2;go_ret;exact ⟨by rw [hw,Int.toNat_natCast];rfl,(Fr.refl _ _).alloc _⟩
theorem slots_any (b n r:Int)(w:World)(h0:0<=n)(h1:n<=20):
 Calls Tryz.prog 32 #[.agg #[.int .i64 b,.int .i64 n,.int .i64 r]] w fun e w'=>e=.returned (.int .i64 (pw n.toNat / 4))/\Fr w w' (fun _=>False):=by
 have hp:=pw_pos n.toNat;have hq:=pw_le n.toNat (by omega);go_enter Tryz.func32,Tryz.ntmps32
 go_wp2_with fail
 refine (size_any b n _ h0 h1).mono ?_;rintro e w1 ⟨rfl,hf⟩;have hf1:=((Fr.refl w (fun _=>False)).alloc (.cells #[.int .i64 b,.int .i64 n,.int .i64 r] 119)).step hf (fun _=>False.elim);go_wp2;go_ret;exact ⟨rfl,hf1⟩
theorem alloc3 (w:World)(a b c:Obj):(((w.alloc a).alloc b).alloc c).drew.heap[w.heap.size+1]?=some b/\(((w.alloc a).alloc b).alloc c).drew.heap[w.heap.size+1+1]?=some c:=by
 have s1:(w.alloc a).heap.size=w.heap.size+1:=by simp
 have s2:((w.alloc a).alloc b).heap.size=w.heap.size+1+1:=by simp
 refine ⟨?_,?_⟩
 ·show (((w.alloc a).alloc b).alloc c).heap[w.heap.size+1]?=some b;rw [heap_alloc_old _ _ (by omega),<- s1];exact heap_alloc_new _ _
 ·show (((w.alloc a).alloc b).alloc c).heap[w.heap.size+1+1]?=some c;rw [<- s2];exact heap_alloc_new _ _
theorem newq_any (w:World):
 Calls Tryz.prog 33 #[] w fun e w'=>(∃q,e=.returned (queVal q)/\q.1≠q.2/\w.heap.size<=q.1/\w.heap.size<=q.2/\ChanAt w' q.1 []/\ChanAt w' q.2 [])/\Fr w w' (fun _=>False):=by
 have hmk:=mkChan;go_enter Tryz.func33,Tryz.ntmps33
 go_wp2;go_region
 all_goals (try go_wp2)
 ·refine bodyPost_ret (v:=queVal (w.heap.size+1,w.heap.size+1+1)) (by simp [results,Tryz.results33,go_sem,queVal]) rfl ⟨⟨_,rfl,by simp,by simp,by simp;omega,⟨0,0,?_⟩,⟨0,0,?_⟩⟩,((((Fr.refl _ _).alloc _).alloc _).alloc _).drew⟩
  ·exact (alloc3 _ _ _ _).1
  ·exact (alloc3 _ _ _ _).2
 ·refine bodyPost_ret (v:=queVal (w.heap.size+1+1,w.heap.size+1)) (by simp [results,Tryz.results33,go_sem,queVal]) rfl ⟨⟨_,rfl,by simp,by simp;omega,by simp,⟨0,0,?_⟩,⟨0,0,?_⟩⟩,((((Fr.refl _ _).alloc _).alloc _).alloc _).drew⟩
  ·exact (alloc3 _ _ _ _).2
  ·exact (alloc3 _ _ _ _).1
theorem made_any (ty b n:Int)(w:World):
 Calls Tryz.prog 20 #[.int .i64 ty,.agg #[.int .i64 b,.int .i64 n]] w fun e w'=>e=.returned (madeC ty b n).val/\Fr w w' (fun _=>False):=by
 by_cases h1:ty=1
 ·subst h1;go_enter Tryz.func20,Tryz.ntmps20
  go_wp2;go_ret;exact ⟨rfl,(Fr.refl _ _).alloc _⟩
 by_cases h2:ty=2
 ·subst h2;go_enter Tryz.func20,Tryz.ntmps20
  go_wp2;go_ret;exact ⟨rfl,(Fr.refl _ _).alloc _⟩
 by_cases h3:ty=3
 ·subst h3;go_enter Tryz.func20,Tryz.ntmps20
  go_wp2;go_ret;exact ⟨rfl,(Fr.refl _ _).alloc _⟩
 by_cases h4:ty=4
 ·subst h4;go_enter Tryz.func20,Tryz.ntmps20
  go_wp2;go_ret;exact ⟨rfl,(Fr.refl _ _).alloc _⟩
 have hm:madeC ty b n=.frame b n 7:=by simp [madeC,h1,h2,h3,h4]
 go_enter Tryz.func20,Tryz.ntmps20
 go_wp2;go_ret;exact ⟨by rw [hm];rfl,(Fr.refl _ _).alloc _⟩
theorem ta_untyped_untyped (v:Value)(w:World):(Instr.typeAssert (.iface 76 v) 79 76 true).run Tryz.prog w=.ok (.tuple #[v,.bool true]) w:=by kernel_rfl
theorem ta_untyped_node (v:Value)(w:World):(Instr.typeAssert (.iface 76 v) 79 119 true).run Tryz.prog w=.ok (.tuple #[.agg #[.int .i64 0,.int .i64 0,.int .i64 0],.bool false]) w:=by kernel_rfl
theorem ta_untyped_endpoint (v:Value)(w:World):(Instr.typeAssert (.iface 76 v) 79 122 true).run Tryz.prog w=.ok (.tuple #[.agg #[.int .i64 0,.int .i64 0,.int .i64 0,.int .i64 0],.bool false]) w:=by kernel_rfl
theorem ta_untyped_task (v:Value)(w:World):(Instr.typeAssert (.iface 76 v) 79 127 true).run Tryz.prog w=.ok (.tuple #[.agg #[.int .i64 0,.int .i64 0,.int .i64 0],.bool false]) w:=by kernel_rfl
theorem ta_untyped_frame (v:Value)(w:World):(Instr.typeAssert (.iface 76 v) 79 128 true).run Tryz.prog w=.ok (.tuple #[.agg #[.int .i64 0,.int .i64 0,.int .i64 0],.bool false]) w:=by kernel_rfl
theorem ta_node_untyped (v:Value)(w:World):(Instr.typeAssert (.iface 119 v) 79 76 true).run Tryz.prog w=.ok (.tuple #[.agg #[.int .i64 0,.int .i64 0,.int .i64 0],.bool false]) w:=by kernel_rfl
theorem ta_node_node (v:Value)(w:World):(Instr.typeAssert (.iface 119 v) 79 119 true).run Tryz.prog w=.ok (.tuple #[v,.bool true]) w:=by kernel_rfl
theorem ta_node_endpoint (v:Value)(w:World):(Instr.typeAssert (.iface 119 v) 79 122 true).run Tryz.prog w=.ok (.tuple #[.agg #[.int .i64 0,.int .i64 0,.int .i64 0,.int .i64 0],.bool false]) w:=by kernel_rfl
theorem ta_node_task (v:Value)(w:World):(Instr.typeAssert (.iface 119 v) 79 127 true).run Tryz.prog w=.ok (.tuple #[.agg #[.int .i64 0,.int .i64 0,.int .i64 0],.bool false]) w:=by kernel_rfl
theorem ta_node_frame (v:Value)(w:World):(Instr.typeAssert (.iface 119 v) 79 128 true).run Tryz.prog w=.ok (.tuple #[.agg #[.int .i64 0,.int .i64 0,.int .i64 0],.bool false]) w:=by kernel_rfl
theorem ta_endpoint_untyped (v:Value)(w:World):(Instr.typeAssert (.iface 122 v) 79 76 true).run Tryz.prog w=.ok (.tuple #[.agg #[.int .i64 0,.int .i64 0,.int .i64 0],.bool false]) w:=by kernel_rfl
theorem ta_endpoint_node (v:Value)(w:World):(Instr.typeAssert (.iface 122 v) 79 119 true).run Tryz.prog w=.ok (.tuple #[.agg #[.int .i64 0,.int .i64 0,.int .i64 0],.bool false]) w:=by kernel_rfl
theorem bg (v:Value)(w:World):(Instr.typeAssert (.iface 122 v) 79 122 true).run Tryz.prog w=.ok (.tuple #[v,.bool true]) w:=by kernel_rfl
theorem ta_endpoint_task (v:Value)(w:World):(Instr.typeAssert (.iface 122 v) 79 127 true).run Tryz.prog w=.ok (.tuple #[.agg #[.int .i64 0,.int .i64 0,.int .i64 0],.bool false]) w:=by kernel_rfl
theorem ta_endpoint_frame (v:Value)(w:World):(Instr.typeAssert (.iface 122 v) 79 128 true).run Tryz.prog w=.ok (.tuple #[.agg #[.int .i64 0,.int .i64 0,.int .i64 0],.bool false]) w:=by kernel_rfl
theorem ta_task_untyped (v:Value)(w:World):(Instr.typeAssert (.iface 127 v) 79 76 true).run Tryz.prog w=.ok (.tuple #[.agg #[.int .i64 0,.int .i64 0,.int .i64 0],.bool false]) w:=by kernel_rfl
theorem ta_task_node (v:Value)(w:World):(Instr.typeAssert (.iface 127 v) 79 119 true).run Tryz.prog w=.ok (.tuple #[.agg #[.int .i64 0,.int .i64 0,.int .i64 0],.bool false]) w:=by kernel_rfl
theorem ta_task_endpoint (v:Value)(w:World):(Instr.typeAssert (.iface 127 v) 79 122 true).run Tryz.prog w=.ok (.tuple #[.agg #[.int .i64 0,.int .i64 0,.int .i64 0,.int .i64 0],.bool false]) w:=by kernel_rfl
theorem ta_task_task (v:Value)(w:World):(Instr.typeAssert (.iface 127 v) 79 127 true).run Tryz.prog w=.ok (.tuple #[v,.bool true]) w:=by kernel_rfl
theorem ta_task_frame (v:Value)(w:World):(Instr.typeAssert (.iface 127 v) 79 128 true).run Tryz.prog w=.ok (.tuple #[.agg #[.int .i64 0,.int .i64 0,.int .i64 0],.bool false]) w:=by kernel_rfl
theorem ta_frame_untyped (v:Value)(w:World):(Instr.typeAssert (.iface 128 v) 79 76 true).run Tryz.prog w=.ok (.tuple #[.agg #[.int .i64 0,.int .i64 0,.int .i64 0],.bool false]) w:=by kernel_rfl
theorem ta_frame_node (v:Value)(w:World):(Instr.typeAssert (.iface 128 v) 79 119 true).run Tryz.prog w=.ok (.tuple #[.agg #[.int .i64 0,.int .i64 0,.int .i64 0],.bool false]) w:=by kernel_rfl
theorem ta_frame_endpoint (v:Value)(w:World):(Instr.typeAssert (.iface 128 v) 79 122 true).run Tryz.prog w=.ok (.tuple #[.agg #[.int .i64 0,.int .i64 0,.int .i64 0,.int .i64 0],.bool false]) w:=by kernel_rfl
theorem ta_frame_task (v:Value)(w:World):(Instr.typeAssert (.iface 128 v) 79 127 true).run Tryz.prog w=.ok (.tuple #[.agg #[.int .i64 0,.int .i64 0,.int .i64 0],.bool false]) w:=by kernel_rfl
theorem ta_frame_frame (v:Value)(w:World):(Instr.typeAssert (.iface 128 v) 79 128 true).run Tryz.prog w=.ok (.tuple #[v,.bool true]) w:=by kernel_rfl
theorem ta_nil_untyped (w:World):(Instr.typeAssert .nilIface 79 76 true).run Tryz.prog w=.ok (.tuple #[.agg #[.int .i64 0,.int .i64 0,.int .i64 0],.bool false]) w:=by kernel_rfl
theorem ta_nil_node (w:World):(Instr.typeAssert .nilIface 79 119 true).run Tryz.prog w=.ok (.tuple #[.agg #[.int .i64 0,.int .i64 0,.int .i64 0],.bool false]) w:=by kernel_rfl
theorem ta_nil_endpoint (w:World):(Instr.typeAssert .nilIface 79 122 true).run Tryz.prog w=.ok (.tuple #[.agg #[.int .i64 0,.int .i64 0,.int .i64 0,.int .i64 0],.bool false]) w:=by kernel_rfl
theorem ta_nil_task (w:World):(Instr.typeAssert .nilIface 79 127 true).run Tryz.prog w=.ok (.tuple #[.agg #[.int .i64 0,.int .i64 0,.int .i64 0],.bool false]) w:=by kernel_rfl
theorem ta_nil_frame (w:World):(Instr.typeAssert .nilIface 79 128 true).run Tryz.prog w=.ok (.tuple #[.agg #[.int .i64 0,.int .i64 0,.int .i64 0],.bool false]) w:=by kernel_rfl
attribute [local go_sem] ta_untyped_node ta_untyped_endpoint ta_untyped_task ta_node_node ta_endpoint_node bg ta_task_node ta_task_endpoint ta_task_task ta_frame_node ta_frame_endpoint ta_frame_task
theorem KOut.of {w w1 w':World}{kb:Nat}{V V1:KerV}{K:Ker}(h:KOut w1 kb V1 K w')(hf:Fr w w1 (V.fp kb))(hd:V1.dv=V.dv)(hfp:∀k,V1.fp kb k->V.fp kb k\/w.heap.size<=k):KOut w kb V K w':=by
 obtain ⟨V',h1,h2,h3,h4,h5⟩:=h;refine ⟨V',h1,h2,h3.trans hd,hf.step h4 hfp,fun k hk=>?_⟩
 rcases h5 k hk with e | e
 ·exact hfp k e
 ·exact .inr (Nat.le_trans hf.size e)
theorem box_three {w W0:World}{a b c:Obj}(hW:((w.alloc a).alloc b).alloc c=W0):Fr w W0 (fun _=>False)/\W0.heap.size=w.heap.size+3/\W0.heap[w.heap.size]?=some a/\W0.heap[w.heap.size+1]?=some b/\W0.heap[w.heap.size+1+1]?=some c:=by
 subst hW;refine ⟨(((Fr.refl _ _).alloc _).alloc _).alloc _,by simp,?_,?_,?_⟩
 ·rw [heap_alloc_old _ _ (by simp;omega),heap_alloc_old _ _ (by simp)];exact heap_alloc_new _ _
 ·rw [heap_alloc_old _ _ (by simp)];have:=heap_alloc_new (w.alloc a) b;simpa using this
 ·have:=heap_alloc_new ((w.alloc a).alloc b) c;simpa using this
theorem box_two {w W0:World}{a b:Obj}(hW:(w.alloc a).alloc b=W0):Fr w W0 (fun _=>False)/\W0.heap.size=w.heap.size+2/\W0.heap[w.heap.size]?=some a/\W0.heap[w.heap.size+1]?=some b:=by
 subst hW;refine ⟨((Fr.refl _ _).alloc _).alloc _,by simp,?_,?_⟩
 ·rw [heap_alloc_old _ _ (by simp)];exact heap_alloc_new _ _
 ·have:=heap_alloc_new (w.alloc a) b;simpa using this
theorem node_put {W0 W2:World}{kb:Nat}{V:KerV}(h0:KerAt W0 kb V)(hf2:Fr W0.drew W2 (fun _=>False)){x1 x2 x3:Nat}{c2 c3:Array Value}{t1 t2 t3:TypeId}{v0 v1 v2:Value}
 (hb1:W0.heap[x1]?=some (.cells #[v0,v1,v2] t1 (0,0))) (hb2:W0.heap[x2]?=some (.cells c2 t2 (0,0))) (hb3:W0.heap[x3]?=some (.cells c3 t3 (0,0))) (b n:Int) :
 ∃W1,(Instr.mapUpdate 62 (.map (some V.nb)) (.int .i64 b) (.int .i64 n)).run Tryz.prog W2=.ok () W1/\Fr W0 W1 (fun k=>k=V.nb)/\KerAt W1 kb {V with N:=putM b n V.N}/\
  W2.cell? ⟨kb,1026,none⟩=some (.map (some V.nb))/\W2.cell? ⟨x1,0,none⟩=some v0/\W2.cell? ⟨x1,1,none⟩=some v1/\W2.cell? ⟨x1,2,none⟩=some v2/\
  W1.cell? ⟨kb,1026,none⟩=some (.map (some V.nb))/\W1.cell? ⟨x1,0,none⟩=some v0/\W1.cell? ⟨x1,1,none⟩=some v1/\W1.cell? ⟨x1,2,none⟩=some v2/\
  W1.heap[x2]?=some (.cells c2 t2 (0,0))/\W1.heap[x3]?=some (.cells c3 t3 (0,0)):=by
 have hf:Fr W0 W2 (fun _=>False):=((Fr.refl W0 (fun _=>False)).drew).step hf2 (fun _=>False.elim);have h2:=h0.frame hf (fun _ _=>id);obtain ⟨W1,hrun,hm1,hf1,hs1⟩:=h2.nodes.put_run intKey Tryz.underlying62 b n;have no:∀{x:Nat} {c:Array Value} {t:TypeId},W0.heap[x]?=some (.cells c t (0,0))->x≠V.nb:=fun hx e=>cm h0.nodes (e▸hx)
 have h3:=h2.putN hm1 hf1;have hx1:=hf1.same (hf.same hb1 id) (no hb1);exact ⟨W1,hrun,(hf.mono (fun _=>False.elim)).step hf1 (fun k hk=>.inl hk),h3,h2.cn,aa (hf.same hb1 id) rfl,aa (hf.same hb1 id) rfl,aa (hf.same hb1 id) rfl,h3.cn,aa hx1 rfl,aa hx1 rfl,aa hx1 rfl,
  hf1.same (hf.same hb2 id) (no hb2),hf1.same (hf.same hb3 id) (no hb3)⟩
theorem found_plain (V:KerV)(kb:Nat)(t p:Slot)(c:KCap)(root:Int)(w:World)(h:KerAt w kb V)(hl:∀x,ak p V.M=some x->x.kids.length<1000000)
 (hc:(∃b n m,c=.untyped b n m)\/∃b n r,c=.frame b n r) :
 Calls Tryz.prog 19 #[.pointer (some ⟨kb,0,none⟩),.agg #[.int .i64 t.node,.int .i64 t.index],c.val,.agg #[.int .i64 p.node,.int .i64 p.index],.int .i64 root] w fun e w'=>e=.returned (.tuple #[])/\KOut w kb V (V.ker.found t c p root) w':=by
 rcases hc with ⟨b,n,m,rfl⟩ | ⟨b,n,r,rfl⟩
 ·go_enter Tryz.func19,Tryz.ntmps19
  simp only [KCap.val];go_wp2_with fail
  generalize hW0:(w.alloc _).alloc _=W0;obtain ⟨hf0,_,_,_⟩:=box_two hW0;refine (klay_any V kb t p (.untyped b n m) W0 (h.frame hf0 (fun _ _=>id)) hl).mono ?_;rintro e w1 ⟨rfl,hK⟩;have hK2:=hK.of (V:=V) (hf0.mono (fun _=>False.elim)) rfl (fun k hk=>.inl hk);go_wp2;go_end0;exact ⟨rfl,hK2⟩
 ·go_enter Tryz.func19,Tryz.ntmps19
  simp only [KCap.val];go_wp2_with fail
  generalize hW0:(w.alloc _).alloc _=W0;obtain ⟨hf0,_,_,_⟩:=box_two hW0;refine (klay_any V kb t p (.frame b n r) W0 (h.frame hf0 (fun _ _=>id)) hl).mono ?_;rintro e w1 ⟨rfl,hK⟩;have hK2:=hK.of (V:=V) (hf0.mono (fun _=>False.elim)) rfl (fun k hk=>.inl hk);go_wp2;go_end0;exact ⟨rfl,hK2⟩
theorem found_task (V:KerV)(kb:Nat)(t p:Slot)(b n r:Int)(root:Int)(w:World)(h:KerAt w kb V)(hl:∀x,ak p V.M=some x->x.kids.length<1000000):
 Calls Tryz.prog 19 #[.pointer (some ⟨kb,0,none⟩),.agg #[.int .i64 t.node,.int .i64 t.index],(KCap.task b n r).val,.agg #[.int .i64 p.node,.int .i64 p.index],.int .i64 root] w fun e w'=>e=.returned (.tuple #[])/\KOut w kb V (V.ker.found t (.task b n r) p root) w':=by
 go_enter Tryz.func19,Tryz.ntmps19
 simp only [KCap.val];go_wp2_with fail
 generalize hW0:World.alloc _ _=W0;obtain ⟨hf0,hs0,hbt,hbp,hbc⟩:=box_three hW0;clear hW0;have h0:KerAt W0 kb V:=h.frame hf0 (fun _ _=>id);have hd:Fr W0 W0.drew (fun _=>False):=(Fr.refl _ _).drew;have hlt:=h.thr.lt;obtain ⟨W1,hrun,hm1,hf1,hs1⟩:=(h0.frame hd (fun _ _=>id)).thr.put_run intKey Tryz.underlying63 b ⟨1,root,0,0,0⟩;simp only [ival,Thd.val] at hrun;have h1:KerAt W1 kb {V with T:=putM b ⟨1,root,0,0,0⟩ V.T}:=(h0.frame hd (fun _ _=>id)).putT hm1 hf1;have hb1:=hf1.same (hd.same hbt id) (fun e=>by omega);have hb2:=hf1.same (hd.same hbp id) (fun e=>by omega);have hb3:=hf1.same (hd.same hbc id) (fun e=>by omega);have c0:=h0.cr;have q0:=aa (o:=0) hbc rfl;have c1:=h1.cr;have q1:=aa (o:=0) hb3 rfl;go_region_held3 (fun w'=>w'.cell? ⟨kb,1028,none⟩=some (.map (some V.rb))/\w'.cell? ⟨w.heap.size+1+1,0,none⟩=some (.int .i64 b)) (go_keep) (fail)
 clear c0 q0 c1 q1 hrun;have hF1:Fr w W1 (V.fp kb):=((hf0.step hd (fun _=>False.elim)).mono (fun _=>False.elim)).step hf1 (fun k hk=>.inl (.inr (.inr (.inr (.inl hk)))))
 have t0:=aa (o:=0) hb1 rfl;have t1:=aa (o:=1) hb1 rfl;have p0:=aa (o:=0) hb2 rfl;have p1:=aa (o:=1) hb2 rfl;go_wp2_with fail
 refine (klay_any _ kb t p (.task b n r) W1 h1 hl).mono ?_;rintro e w1 ⟨rfl,hK⟩;have hK2:=hK.of (V:=V) hF1 rfl (fun k hk=>.inl hk);have hKe:Ker.lay (KerV.ker {V with T:=putM b ⟨1,root,0,0,0⟩ V.T}) t (.task b n r) p=V.ker.found t (.task b n r) p root:=by
  simp only [KerV.ker,Ker.found,look_put_fun]
 rw [hKe] at hK2;clear t0 t1 p0 p1 hK hKe;go_wp2;go_end0;exact ⟨rfl,hK2⟩
theorem found_node (V:KerV)(kb:Nat)(t p:Slot)(b n r:Int)(root:Int)(w:World)(h:KerAt w kb V)(hl:∀x,ak p V.M=some x->x.kids.length<1000000)(hn0:0<=n)(hn1:n<=20):
 Calls Tryz.prog 19 #[.pointer (some ⟨kb,0,none⟩),.agg #[.int .i64 t.node,.int .i64 t.index],(KCap.node b n r).val,.agg #[.int .i64 p.node,.int .i64 p.index],.int .i64 root] w fun e w'=>e=.returned (.tuple #[])/\KOut w kb V (V.ker.found t (.node b n r) p root) w':=by
 go_enter Tryz.func19,Tryz.ntmps19
 simp only [KCap.val];go_wp2_with fail
 generalize hW0:World.alloc _ _=W0;obtain ⟨hf0,hs0,hbt,hbp,hbc⟩:=box_three hW0;clear hW0;have h0:KerAt W0 kb V:=h.frame hf0 (fun _ _=>id);have hlt:=h.nodes.lt;have c0:=h0.cn;have q0:=aa (o:=0) hbc rfl;have q1:=aa (o:=1) hbc rfl;have q2:=aa (o:=2) hbc rfl;go_region_held3 (fun w'=>w'.cell? ⟨kb,1026,none⟩=some (.map (some V.nb))/\w'.cell? ⟨w.heap.size+1+1,0,none⟩=some (.int .i64 b)/\w'.cell? ⟨w.heap.size+1+1,1,none⟩=some (.int .i64 n)/\w'.cell? ⟨w.heap.size+1+1,2,none⟩=some (.int .i64 r)) (go_keep)
  ((go_at_call 32;refine (slots_any b n r _ hn0 hn1).mono ?_;rintro e W2 ⟨rfl,hf2⟩;obtain ⟨W1,hrun,hf3,h1,g1,g2,g3,g4,g5,g6,g7,g8,hbt1,hbp1⟩:=node_put h0 hf2 hbc hbt hbp b (pw n.toNat / 4)))
 clear c0 q0 q1 q2 g1 g2 g3 g4 g5 g6 g7 g8 hrun;have hF1:Fr w W1 (V.fp kb):=(hf0.mono (fun _=>False.elim)).step hf3 (fun k hk=>.inl (.inr (.inr (.inl hk))))
 have t0:=aa (o:=0) hbt1 rfl;have t1:=aa (o:=1) hbt1 rfl;have p0:=aa (o:=0) hbp1 rfl;have p1:=aa (o:=1) hbp1 rfl;go_wp2_with fail
 refine (klay_any _ kb t p (.node b n r) W1 h1 hl).mono ?_;rintro e w1 ⟨rfl,hK⟩;have hK2:=hK.of (V:=V) hF1 rfl (fun k hk=>.inl hk);have hKe:Ker.lay (KerV.ker {V with N:=putM b (pw n.toNat / 4) V.N}) t (.node b n r) p=V.ker.found t (.node b n r) p root:=by
  simp only [KerV.ker,Ker.found,look_put_fun]
 rw [hKe] at hK2;clear t0 t1 p0 p1 hK hKe;go_wp2;go_end0;exact ⟨rfl,hK2⟩
def newC (C:Nat->List Wtr)(q:Nat×Nat)(k:Nat):List Wtr:=if k=q.1\/k=q.2 then [] else C k
theorem que_put {W0 W2:World}{kb:Nat}{V:KerV}(h0:KerAt W0 kb V)(hf2:Fr W0.drew W2 (fun _=>False)){x1 x2 x3:Nat}{c2 c3:Array Value}{t1 t2 t3:TypeId}{v0 v1 v2 v3:Value}
 (hb1:W0.heap[x1]?=some (.cells #[v0,v1,v2,v3] t1 (0,0))) (hb2:W0.heap[x2]?=some (.cells c2 t2 (0,0))) (hb3:W0.heap[x3]?=some (.cells c3 t3 (0,0))) (b:Int) (q:Nat×Nat) (hq:q.1≠q.2/\W0.heap.size<=q.1/\W0.heap.size<=q.2/\ChanAt W2 q.1 []/\ChanAt W2 q.2 []) :
 ∃W1,(Instr.mapUpdate 64 (.map (some V.qb)) (.int .i64 b) (queVal q)).run Tryz.prog W2=.ok () W1/\Fr W0 W1 (fun k=>k=V.qb)/\KerAt W1 kb {V with Q:=putM b q V.Q,C:=newC V.C q}/\
  W2.cell? ⟨kb,1029,none⟩=some (.map (some V.qb))/\W2.cell? ⟨x1,0,none⟩=some v0/\
  W1.cell? ⟨kb,1029,none⟩=some (.map (some V.qb))/\W1.cell? ⟨x1,0,none⟩=some v0/\
  W1.heap[x2]?=some (.cells c2 t2 (0,0))/\W1.heap[x3]?=some (.cells c3 t3 (0,0)):=by
 have hf:Fr W0 W2 (fun _=>False):=((Fr.refl W0 (fun _=>False)).drew).step hf2 (fun _=>False.elim);have h2:=h0.frame hf (fun _ _=>id);obtain ⟨W1,hrun,hm1,hf1,hs1⟩:=h2.que.put_run intKey Tryz.underlying64 b q;have no:∀{x:Nat} {c:Array Value} {t:TypeId},W0.heap[x]?=some (.cells c t (0,0))->x≠V.qb:=fun hx e=>cm h0.que (e▸hx)
 have h3:=h2.putQ hm1 hf1 (C':=newC V.C q) (by
  have hr:=h2.rest.frame hf1 (fun k hk=>h2.rest.noMap h2.que hk);have hqb:=h2.que.lt;have hlt:=h0.que.lt;have hkey:∀b' q',ak b' (putM b q V.Q)=some q'->(b'=b/\q'=q)\/(b'≠b/\ak b' V.Q=some q'):=by
   intro b' q' h';rw [look_put] at h';split at h'
   ·rename_i e;cases h';exact .inl ⟨e.symm,rfl⟩
   ·rename_i e;exact .inr ⟨fun e2=>e e2.symm,h'⟩
  have hold:∀b' q',ak b' V.Q=some q'->q'.1<W0.heap.size/\q'.2<W0.heap.size:=fun b' q' h'=>
   ⟨h0.rest.lt ⟨b',q',h',.inl rfl⟩,h0.rest.lt ⟨b',q',h',.inr rfl⟩⟩
  have hCo:∀k,k<W0.heap.size->newC V.C q k=V.C k:=fun k hk=>by unfold newC;rw [if_neg (by omega)]
  refine ⟨?_,?_,?_⟩
  ·intro b' q' h';rcases hkey b' q' h' with ⟨_,rfl⟩ | ⟨_,h'⟩
   ·have e1:newC V.C q' q'.1=[]:=by unfold newC;rw [if_pos (.inl rfl)]
    have e2:newC V.C q' q'.2=[]:=by unfold newC;rw [if_pos (.inr rfl)]
    rw [e1,e2];exact ⟨hq.2.2.2.1.frame hf1 (by omega),hq.2.2.2.2.frame hf1 (by omega)⟩
   ·obtain ⟨l1,l2⟩:=hold b' q' h';rw [hCo _ l1,hCo _ l2];exact hr.chan b' q' h'
  ·intro b1 q1 b2 q2 g1 g2 hne;rcases hkey b1 q1 g1 with ⟨e1,f1⟩ | ⟨_,k1⟩<;>rcases hkey b2 q2 g2 with ⟨e2,f2⟩ | ⟨_,k2⟩
   ·exact absurd (e1.trans e2.symm) hne
   ·obtain ⟨l1,l2⟩:=hold b2 q2 k2;rw [f1];exact ⟨by omega,by omega,by omega,by omega⟩
   ·obtain ⟨l1,l2⟩:=hold b1 q1 k1;rw [f2];exact ⟨by omega,by omega,by omega,by omega⟩
   ·exact h0.rest.apart b1 q1 b2 q2 k1 k2 hne
  ·intro b' q' h';rcases hkey b' q' h' with ⟨_,rfl⟩ | ⟨_,h'⟩
   ·exact hq.1
   ·exact h0.rest.two b' q' h')
 have hx1:=hf1.same (hf.same hb1 id) (no hb1);exact ⟨W1,hrun,(hf.mono (fun _=>False.elim)).step hf1 (fun k hk=>.inl hk),h3,h2.cq,aa (hf.same hb1 id) rfl,h3.cq,aa hx1 rfl,
  hf1.same (hf.same hb2 id) (no hb2),hf1.same (hf.same hb3 id) (no hb3)⟩
theorem found_end (V:KerV)(kb:Nat)(t p:Slot)(b n r g:Int)(root:Int)(w:World)(h:KerAt w kb V)(hl:∀x,ak p V.M=some x->x.kids.length<1000000):
 Calls Tryz.prog 19 #[.pointer (some ⟨kb,0,none⟩),.agg #[.int .i64 t.node,.int .i64 t.index],(KCap.endpoint b n r g).val,.agg #[.int .i64 p.node,.int .i64 p.index],.int .i64 root] w fun e w'=>e=.returned (.tuple #[])/\KOut w kb V (V.ker.found t (.endpoint b n r g) p root) w':=by
 go_enter Tryz.func19,Tryz.ntmps19
 simp only [KCap.val];go_wp2_with fail
 generalize hW0:World.alloc _ _=W0;obtain ⟨hf0,hs0,hbt,hbp,hbc⟩:=box_three hW0;clear hW0;have h0:KerAt W0 kb V:=h.frame hf0 (fun _ _=>id);have hlt:=h.nodes.lt;have c0:=h0.cq;have q0:=aa (o:=0) hbc rfl;go_region_held3 (fun w'=>w'.cell? ⟨kb,1029,none⟩=some (.map (some V.qb))/\w'.cell? ⟨w.heap.size+1+1,0,none⟩=some (.int .i64 b)) (go_keep)
  ((go_at_call 33;refine (newq_any _).mono ?_;rintro e W2 ⟨⟨q,rfl,hq⟩,hf2⟩;obtain ⟨W1,hrun,hf3,h1,g1,g2,g3,g4,hbt1,hbp1⟩:=que_put h0 hf2 hbc hbt hbp b q hq))
 clear c0 q0 g1 g2 g3 g4 hrun;have hF1:Fr w W1 (V.fp kb):=(hf0.mono (fun _=>False.elim)).step hf3 (fun k hk=>.inl (.inr (.inr (.inr (.inr (.inl hk))))))
 have t0:=aa (o:=0) hbt1 rfl;have t1:=aa (o:=1) hbt1 rfl;have p0:=aa (o:=0) hbp1 rfl;have p1:=aa (o:=1) hbp1 rfl;go_wp2_with fail
 refine (klay_any _ kb t p (.endpoint b n r g) W1 h1 hl).mono ?_;rintro e w1 ⟨rfl,hK⟩;have hfpn:∀k,KerV.fp kb {V with Q:=putM b q V.Q,C:=newC V.C q} k->V.fp kb k\/w.heap.size<=k:=by
  rintro k (e | e | e | e | e | e | ⟨b',q',hl',e⟩)
  ·exact .inl (.inl e)
  ·exact .inl (.inr (.inl e))
  ·exact .inl (.inr (.inr (.inl e)))
  ·exact .inl (.inr (.inr (.inr (.inl e))))
  ·exact .inl (.inr (.inr (.inr (.inr (.inl e)))))
  ·exact .inl (.inr (.inr (.inr (.inr (.inr (.inl e))))))
  ·rw [look_put] at hl';split at hl'
   ·cases hl'
    right;have hq2:=hq.2.1;have hq3:=hq.2.2.1;have hdr:W0.drew.heap.size=W0.heap.size:=rfl;have:=hf0.size;omega
   ·exact .inl (.inr (.inr (.inr (.inr (.inr (.inr ⟨b',q',hl',e⟩))))))
 have hK2:=hK.of (V:=V) hF1 rfl hfpn;have hKe:Ker.lay (KerV.ker {V with Q:=putM b q V.Q,C:=newC V.C q}) t (.endpoint b n r g) p=V.ker.found t (.endpoint b n r g) p root:=by
  have hqs:(fun b'=>(ak b' (putM b q V.Q)).map fun q'=>(newC V.C q q'.1,newC V.C q q'.2))=upd (fun b'=>(ak b' V.Q).map fun q'=>(V.C q'.1,V.C q'.2)) b (some ([],[])):=by
   funext b';rw [look_put];by_cases e:b=b'
   ·subst e;rw [if_pos rfl,ah];simp [newC]
   ·rw [if_neg e,ae _ _ (Ne.symm e)];cases hl':ak b' V.Q with
    | none=>rfl
    | some q'=>
     have l1:=h0.rest.lt (k:=q'.1) ⟨b',q',hl',.inl rfl⟩;have l2:=h0.rest.lt (k:=q'.2) ⟨b',q',hl',.inr rfl⟩;have hq2:=hq.2.1;have hq3:=hq.2.2.1;have hdr:W0.drew.heap.size=W0.heap.size:=rfl;simp only [Option.map_some,newC];rw [if_neg (by omega),if_neg (by omega)]
  simp only [KerV.ker,Ker.found,hqs]
 rw [hKe] at hK2;clear t0 t1 p0 p1 hK hKe;go_wp2;go_end0;exact ⟨rfl,hK2⟩
theorem found_any (V:KerV)(kb:Nat)(t p:Slot)(c:KCap)(root:Int)(w:World)(h:KerAt w kb V)(hl:∀x,ak p V.M=some x->x.kids.length<1000000)(hn:∀b n r,c=.node b n r->0<=n/\n<=20):
 Calls Tryz.prog 19 #[.pointer (some ⟨kb,0,none⟩),.agg #[.int .i64 t.node,.int .i64 t.index],c.val,.agg #[.int .i64 p.node,.int .i64 p.index],.int .i64 root] w fun e w'=>e=.returned (.tuple #[])/\KOut w kb V (V.ker.found t c p root) w':=by
 cases c with
 | untyped b n m=>exact found_plain V kb t p _ root w h hl (.inl ⟨b,n,m,rfl⟩)
 | node b n r=>exact found_node V kb t p b n r root w h hl (hn b n r rfl).1 (hn b n r rfl).2
 | endpoint b n r g=>exact found_end V kb t p b n r g root w h hl
 | task b n r=>exact found_task V kb t p b n r root w h hl
 | frame b n r=>exact found_plain V kb t p _ root w h hl (.inr ⟨b,n,r,rfl⟩)
def kb0 (h t n r q:Nat):Array Value:=Array.replicate 1024 (.int .u32 0)++#[.map (some h),.map (some t),.map (some n),.slice none 0 0,.map (some r),.map (some q)]
theorem build_kernel (h t n r q:Nat)(w:World):(Instr.build 69 #[(1,.map (some h)),(2,.map (some t)),(3,.map (some n)),(5,.map (some r)),(6,.map (some q))]).run Tryz.prog w=.ok (.agg (kb0 h t n r q)) w:=by kernel_rfl
theorem box_kernel (h t n r q:Nat)(w:World):(Instr.box 69 (.agg (kb0 h t n r q))).run Tryz.prog w=.ok (.pointer (some ⟨w.heap.size,0,none⟩)) (w.alloc (.cells (kb0 h t n r q) 69)):=by kernel_rfl
section
variable {ops:Array Oper} {rest:List Oper} {o:Oper} {a:Act} {Q:Exit->Act->World->Prop} {w:World} {h t n r q:Nat}
theorem wpList_build_k (hg:o.guard=none)(x1 x2 x3 x4 x5:Operand)(hop:o.op=Op.build 69 #[(1,x1),(2,x2),(3,x3),(5,x4),(6,x5)])
 (e1:a.eval x1=.map (some h)) (e2:a.eval x2=.map (some t)) (e3:a.eval x3=.map (some n)) (e4:a.eval x4=.map (some r)) (e5:a.eval x5=.map (some q))
 (hK:wpList Tryz.prog ops Q rest (a.put o.dst (.agg (kb0 h t n r q))) w):wpList Tryz.prog ops Q (o :: rest) a w:=by
 refine wpList_plain hg fun K' hK'=>?_
 unfold Oper.wp;have:=build_kernel h t n r q w;simp [execOp,hop,e1,e2,e3,e4,e5,this,Result.andThen];exact hK' _ _ hK
theorem wpList_box_k (hg:o.guard=none)(x:Operand)(hop:o.op=Op.box 69 x)(e:a.eval x=.agg (kb0 h t n r q))
 (hK:wpList Tryz.prog ops Q rest (a.put o.dst (.pointer (some ⟨w.heap.size,0,none⟩))) (w.alloc (.cells (kb0 h t n r q) 69))):wpList Tryz.prog ops Q (o :: rest) a w:=by
 refine wpList_plain hg fun K' hK'=>?_
 unfold Oper.wp;have:=box_kernel h t n r q w;simp [execOp,hop,e,this,Result.andThen];exact hK' _ _ hK
end
def bootV (n:Nat):KerV:=⟨n,n+1,n+1+1,n+1+1+1,n+1+1+1+1,[],[],[],[],[],.slice none 0 0,fun _=>0,fun _=>[]⟩
theorem kb0_cells (n:Nat):KerCells (bootV n) (kb0 n (n+1) (n+1+1) (n+1+1+1) (n+1+1+1+1)):=by
 refine ⟨by simp [kb0],?_,by simp [kb0,bootV],by simp [kb0,bootV],by simp [kb0,bootV],by simp [kb0,bootV],by simp [kb0,bootV],by simp [kb0,bootV]⟩;intro i hi;unfold kb0;rw [Array.getElem?_append_left (by simp;omega)];simp [bootV,hi]
theorem boot_zero {w W0:World}{o:Obj} (hW:(((((((w.alloc (.map #[] 0)).alloc (.map #[] 0)).alloc (.map #[] 0)).alloc (.map #[] 0)).alloc (.map #[] 0)).alloc
 (.cells (kb0 w.heap.size (w.heap.size+1) (w.heap.size+1+1) (w.heap.size+1+1+1) (w.heap.size+1+1+1+1)) 69)).alloc o)=W0) :
 Fr w W0 (fun _=>False)/\W0.heap.size=w.heap.size+7/\W0.heap[w.heap.size+1+1+1+1+1+1]?=some o/\KerAt W0 (w.heap.size+1+1+1+1+1) (bootV w.heap.size):=by
 subst hW;have key:∀(l:List Obj) (W:World),(l.foldl World.alloc W).heap.size=W.heap.size+l.length/\∀i,(hi:i<l.length)->(l.foldl World.alloc W).heap[W.heap.size+i]?=some l[i]:=by
  intro l;induction l with
  | nil=>intro W;exact ⟨rfl,fun i hi=>absurd hi (by simp)⟩
  | cons x l ih=>
   intro W;obtain ⟨h1,h2⟩:=ih (W.alloc x);have hs:(W.alloc x).heap.size=W.heap.size+1:=by simp
   rw [hs] at h1 h2;refine ⟨by simp only [List.foldl_cons,List.length_cons];omega,fun i hi=>?_⟩
   cases i with
   | zero=>
    have hfr:∀(l:List Obj) (W:World) (k:Nat),k<W.heap.size->(l.foldl World.alloc W).heap[k]?=W.heap[k]?:=by
     intro l;induction l with
     | nil=>intro W k _;rfl
     | cons y l ih2=>intro W k hk;simp only [List.foldl_cons];rw [ih2 (W.alloc y) k (by simp;omega),heap_alloc_old _ _ hk]
    simp only [List.foldl_cons,List.getElem_cons_zero,Nat.add_zero];rw [hfr l (W.alloc x) W.heap.size (by simp)];exact heap_alloc_new _ _
   | succ i=>
    have:=h2 i (by simpa using hi);simp only [List.foldl_cons,List.getElem_cons_succ];rw [show W.heap.size+(i+1)=W.heap.size+1+i by omega];exact this
 obtain ⟨hs,hg⟩:=key [.map #[] 0,.map #[] 0,.map #[] 0,.map #[] 0,.map #[] 0,.cells (kb0 w.heap.size (w.heap.size+1) (w.heap.size+1+1) (w.heap.size+1+1+1) (w.heap.size+1+1+1+1)) 69,o] w;simp only [List.foldl_cons,List.foldl_nil,List.length_cons,List.length_nil] at hs hg;have m:∀{κ α:Type} [DecidableEq κ] (val:κ->Value) (enc:α->Value) (b:Nat) (W:World),W.heap[b]?=some (.map #[] 0)->MapAt W b val enc []:=fun val enc b W hb=>⟨⟨#[],0,hb,rfl,MapKept.stamped_empty 0⟩,by simp⟩
 have g0:=hg 0 (by omega);have g1:=hg 1 (by omega);have g2:=hg 2 (by omega);have g3:=hg 3 (by omega);have g4:=hg 4 (by omega);have g5:=hg 5 (by omega);have g6:=hg 6 (by omega);refine ⟨(((((((Fr.refl _ _).alloc _).alloc _).alloc _).alloc _).alloc _).alloc _).alloc _,hs,g6,⟨⟨_,g5,kb0_cells _⟩,m _ _ _ _ g0,⟨m _ _ _ _ g1,(fun s x hx=>by cases hx),(fun s x hx=>by cases hx),(fun s x s' x' hx=>by cases hx)⟩,m _ _ _ _ g2,m _ _ _ _ g3,m _ _ _ _ g4,
  ?_,?_,?_,?_,?_,?_,?_,?_,?_,?_,(fun s x hx=>by cases hx),⟨(fun b q hq=>by cases hq),(fun b q b' q' hq=>by cases hq),(fun b q hq=>by cases hq)⟩⟩⟩
 all_goals (simp only [bootV];omega)
theorem bootV_fp (n:Nat)(k:Nat)(hk:(bootV n).fp (n+1+1+1+1+1) k):n<=k/\k≠n+1+1+1+1+1+1:=by
 rcases hk with h | h | h | h | h | (h | ⟨s,x,hx,_⟩) | ⟨b,q,hq,_⟩
 ·omega
 ·simp only [bootV] at h;omega
 ·simp only [bootV] at h;omega
 ·simp only [bootV] at h;omega
 ·simp only [bootV] at h;omega
 ·simp only [bootV] at h;omega
 ·cases hx
 ·cases hq
theorem KOut.fr {w w':World}{kb:Nat}{V:KerV}{K:Ker}{S:Nat->Prop}(h:KOut w kb V K w')(hn:∀k,V.fp kb k->S k)(hs:∀k,w.heap.size<=k->S k):
 ∃V',KerAt w' kb V'/\V'.ker=K/\V'.dv=V.dv/\(∀k,V'.fp kb k->S k)/\Fr w w' (V.fp kb):=by
 obtain ⟨V',h1,h2,h3,h4,h5⟩:=h;refine ⟨V',h1,h2,h3,fun k hk=>?_,h4⟩
 rcases h5 k hk with e | e
 ·exact hn k e
 ·exact hs k e
theorem boot_step {W1 W2 W3:World}{kb sb n:Nat}{V1:KerV}{K:Ker}{x y:Value}{t:TypeId}(hK:KOut W2 kb V1 K W3)(hf2:Fr W1.drew W2 (fun _=>False))(hb1:W1.heap[sb]?=some (.cells #[x,y] t (0,0)))
 (hp:∀k,V1.fp kb k->n<=k/\k≠sb) (hn:n<=W1.heap.size):∃V3,KerAt W3 kb V3/\V3.ker=K/\V3.dv=V1.dv/\(∀k,V3.fp kb k->n<=k/\k≠sb)/\Fr W1 W3 (V1.fp kb)/\W3.heap[sb]?=some (.cells #[x,y] t (0,0))/\
 W3.cell? ⟨sb,0,none⟩=some x/\W3.cell? ⟨sb,1,none⟩=some y:=by
 have hlt:=(Array.getElem?_eq_some_iff.1 hb1).1;have hf:Fr W1 W2 (fun _=>False):=((Fr.refl W1 (fun _=>False)).drew).step hf2 (fun _=>False.elim);have hs:=hf.size;obtain ⟨V3,h3,hk3,hd3,hp3,hf3⟩:=hK.fr hp (fun k hk=>by omega);have hb3:=hf3.same (hf.same hb1 id) (fun e=>(hp _ e).2 rfl)
 exact ⟨V3,h3,hk3,hd3,hp3,(hf.mono (fun _=>False.elim)).step hf3 (fun k hk=>.inl hk),hb3,aa hb3 rfl,aa hb3 rfl⟩
theorem kids_of {V:KerV}{p:Slot}{n:Nat}(h:∀y,V.ker.st p=some y->y.kids.length<n):∀x,ak p V.M=some x->x.kids.length<n:=by
 intro x hx;exact h x.std (by simp [KerV.ker,bu,hx])
theorem boot_any (w:World)(hg0:w.cell? ⟨0,0,none⟩=some (.int .i64 (-1)))(hg1:w.cell? ⟨0,1,none⟩=some (.int .i64 (-1))):
 Calls Tryz.prog 10 #[] w fun e w'=>∃kb V,e=.returned (.pointer (some ⟨kb,0,none⟩))/\KerAt w' kb V/\V.ker=bootK/\V.dv=.slice none 0 0/\(∀k,V.fp kb k->w.heap.size<=k)/\Fr w w' (fun _=>False):=by
 have hmm:=@run_makeMap Tryz.prog;have hlt:0<w.heap.size:=World.block_lt_of_cell? w _ hg0;go_enter Tryz.func10,Tryz.ntmps10
 go_wp2_with (first
  |(refine wpList_build_k rfl _ _ _ _ _ rfl rfl rfl rfl rfl rfl ?_)
  |(refine wpList_box_k rfl _ rfl rfl ?_))
 generalize hW0:World.alloc _ _=W0;obtain ⟨hf0,hs0,hb0,h0⟩:=boot_zero hW0;clear hW0 hmm;have hp0:=bootV_fp w.heap.size;have hd0:(bootV w.heap.size).dv=.slice none 0 0:=rfl;have hk0:(bootV w.heap.size).ker=emptyKer:=rfl;have hsb:w.heap.size<=w.heap.size+1+1+1+1+1+1:=by omega
 have hsb2:w.heap.size+1+1+1+1+1+1<W0.heap.size:=by omega
 generalize w.heap.size+1+1+1+1+1+1=sb at hb0 hp0 hsb hsb2;generalize w.heap.size+1+1+1+1+1=kb at h0 hp0;generalize bootV w.heap.size=V0 at h0 hp0 hd0 hk0;refine (klay_any V0 kb ⟨0,0⟩ ⟨-1,-1⟩ (.untyped 0 10 80) W0 h0 (kids_of (by rw [hk0];intro y hy;cases hy))).mono ?_;rintro e W1 ⟨rfl,hK⟩;rw [hk0] at hK;obtain ⟨V1,h1,hk1,hd1,hp1,hf1⟩:=hK.fr hp0 (fun k hk=>by omega);have hb1:=hf1.same hb0 (fun e=>(hp0 _ e).2 rfl)
 have hF1:Fr w W1 (fun _=>False):=hf0.step hf1 (fun k hk=>.inr (hp0 k hk).1)
 have hs1:=hf1.size;clear hK h0 hp0 hk0 hf1 hf0 hb0;have q0:=aa (o:=0) hb1 rfl;have q1:=aa (o:=1) hb1 rfl;go_wp2_with fail
 have hm1:=made_any 2 0 6;rw [show madeC 2 0 6=KCap.node 0 6 7 from rfl] at hm1;have hst1:∀y,V1.ker.st ⟨0,0⟩=some y->y.kids.length<1000000:=by
  rw [hk1];intro y hy;have:(emptyKer.lay ⟨0,0⟩ (.untyped 0 10 80) ⟨-1,-1⟩).st ⟨0,0⟩=some ⟨⟨-1,-1⟩,[]⟩:=rfl;rw [this] at hy;cases hy;decide
 go_region_held3 (fun w'=>w'.cell? ⟨sb,0,none⟩=some (.int .i64 0)/\w'.cell? ⟨sb,1,none⟩=some (.int .i64 0)) (go_keep)
  (first
    |(go_at_call 20;refine (hm1 _).mono ?_;rintro e W2 ⟨rfl,hf2⟩;obtain ⟨g0,g1⟩:=box2 hf2 hb1 (by simp);have h2:=h1.frame (((Fr.refl W1 (fun _=>False)).drew).step hf2 (fun _=>False.elim)) (fun _ _=>id))
    |(go_at_call 19;refine (found_any V1 kb ⟨0,1⟩ ⟨0,0⟩ (.node 0 6 7) 0 W2 h2 (kids_of hst1) (fun b n r e=>by cases e;decide)).mono ?_;rintro e W3 ⟨rfl,hK3⟩;obtain ⟨V3,h3,hk3,hd3,hp3,hf3,hb3,g2,g3⟩:=boot_step hK3 hf2 hb1 hp1 (by omega)))
 have hF3:Fr w W3 (fun _=>False):=hF1.step hf3 (fun k hk=>.inr (hp1 k hk).1)
 have hs3:=hf3.size;rw [hk1] at hk3;clear hK3 h2 hf2 g0 g1 h1 hk1 hp1 hf3 hb1 hm1 hst1 q0 q1;have hm3:=made_any 4 64 4;rw [show madeC 4 64 4=KCap.task 64 4 7 from rfl] at hm3;have hst3:∀y,V3.ker.st ⟨0,0⟩=some y->y.kids.length<1000000:=by
  rw [hk3];intro y hy;have:((emptyKer.lay ⟨0,0⟩ (.untyped 0 10 80) ⟨-1,-1⟩).found ⟨0,1⟩ (.node 0 6 7) ⟨0,0⟩ 0).st ⟨0,0⟩=some ⟨⟨-1,-1⟩,[⟨0,1⟩]⟩:=rfl;rw [this] at hy;cases hy;decide
 go_wp2_with fail
 go_region_held3 (fun w'=>w'.cell? ⟨sb,0,none⟩=some (.int .i64 0)/\w'.cell? ⟨sb,1,none⟩=some (.int .i64 0)) (go_keep)
  (first
    |(go_at_call 20;refine (hm3 _).mono ?_;rintro e W4 ⟨rfl,hf4⟩;obtain ⟨g0,g1⟩:=box2 hf4 hb3 (by simp);have h4:=h3.frame (((Fr.refl W3 (fun _=>False)).drew).step hf4 (fun _=>False.elim)) (fun _ _=>id))
    |(go_at_call 19;refine (found_any V3 kb ⟨0,2⟩ ⟨0,0⟩ (.task 64 4 7) 0 W4 h4 (kids_of hst3) (fun b n r e=>by cases e)).mono ?_;rintro e W5 ⟨rfl,hK5⟩;obtain ⟨V5,h5,hk5,hd5,hp5,hf5,hb5,g4,g5⟩:=boot_step hK5 hf4 hb3 hp3 (by omega)))
 have hF5:Fr w W5 (fun _=>False):=hF3.step hf5 (fun k hk=>.inr (hp3 k hk).1)
 rw [hk3] at hk5;clear hK5 h4 hf4 g0 g1 h3 hk3 hp3 hf5 hb3 hm3 hst3 g2 g3;go_wp2;go_ret;exact ⟨kb,V5,rfl,h5,hk5,by rw [hd5,hd3,hd1,hd0],fun k hk=>(hp5 k hk).1,hF5⟩
def turnCells (kb:Nat)(c:Cl)(av tv:Value)(th root:Int)(bv:Value):Array Value:=
 #[.pointer (some ⟨kb,0,none⟩),.int .i64 c.kind,av,tv,.int .i64 c.ty,.int .i64 c.bits,.int .i64 c.count,.int .i64 c.rights,.int .i64 c.badge,.int .i64 c.value,.int .i64 c.offset,.int .i64 th,.int .i64 root,bv]
def TurnAt (w:World)(ub kb:Nat)(c:Cl)(av tv:Value)(th root:Int)(bv:Value):Prop:=w.heap[ub]?=some (.cells (turnCells kb c av tv th root bv) 92 (0,0))
theorem TurnAt.frame {w w':World}{ub kb:Nat}{c:Cl}{av tv bv:Value}{th root:Int}{S:Nat->Prop}(h:TurnAt w ub kb c av tv th root bv)(hf:Fr w w' S)(hn:¬S ub):TurnAt w' ub kb c av tv th root bv:=hf.same h hn
section
variable {w:World} {ub kb:Nat} {c:Cl} {av tv bv:Value} {th root:Int} (h:TurnAt w ub kb c av tv th root bv)
include h
theorem TurnAt.ck:w.cell? ⟨ub,0,none⟩=some (.pointer (some ⟨kb,0,none⟩)):=aa h rfl
theorem TurnAt.cat:w.cell? ⟨ub,2,none⟩=some av:=aa h rfl
theorem TurnAt.cto:w.cell? ⟨ub,3,none⟩=some tv:=aa h rfl
theorem TurnAt.cty:w.cell? ⟨ub,4,none⟩=some (.int .i64 c.ty):=aa h rfl
theorem TurnAt.cbits:w.cell? ⟨ub,5,none⟩=some (.int .i64 c.bits):=aa h rfl
theorem TurnAt.ccount:w.cell? ⟨ub,6,none⟩=some (.int .i64 c.count):=aa h rfl
theorem TurnAt.crights:w.cell? ⟨ub,7,none⟩=some (.int .i64 c.rights):=aa h rfl
theorem TurnAt.cbadge:w.cell? ⟨ub,8,none⟩=some (.int .i64 c.badge):=aa h rfl
theorem TurnAt.cvalue:w.cell? ⟨ub,9,none⟩=some (.int .i64 c.value):=aa h rfl
theorem TurnAt.croot:w.cell? ⟨ub,12,none⟩=some (.int .i64 root):=aa h rfl
theorem TurnAt.cbv:w.cell? ⟨ub,13,none⟩=some bv:=aa h rfl
theorem TurnAt.lt:ub<w.heap.size:=(Array.getElem?_eq_some_iff.1 h).1
end
def gaveUp (e:Int):Value:=.iface 85 (.agg #[.int .i64 e])
def gup (e:Int):Ending:=.panicked [{v:=gaveUp e,recovered:=false}]
def slotAns (K:Ker)(b x:Int):Ending:=if okK K b x then .returned (.agg #[.int .i64 b,.int .i64 x]) else gup 2
theorem look_nodes {w:World}{kb:Nat}{V:KerV}(h:KerAt w kb V)(b:Int):(Instr.lookup 62 (.map (some V.nb)) (.int .i64 b) false).run Tryz.prog w=.ok (.int .i64 (bj V.ker b)) w:=by
 have:=h.nodes.look_run intKey Tryz.underlying62 (z:=.int .i64 0) (by kernel_rfl) b false;simp only [ival] at this;rw [this];simp only [bj,KerV.ker];cases ak b V.N<;>rfl
theorem slotOf_any (V:KerV)(kb ub:Nat)(c:Cl)(av tv bv:Value)(th root:Int)(b x:Int)(w:World)(h:KerAt w kb V)(hu:TurnAt w ub kb c av tv th root bv):
 Calls Tryz.prog 94 #[.pointer (some ⟨ub,0,none⟩),.int .i64 b,.int .i64 x] w fun e w'=>e=slotAns V.ker b x/\Fr w w' (fun _=>False):=by
 have hf:=(Fr.refl w (fun _=>False)).alloc (.cells #[.int .i64 0,.int .i64 0] 71);have h1:=h.frame hf (fun _ _=>id);have hrun:=look_nodes h1 b;have cu:=hu.ck;have cn:=h.cn;have hult:=World.block_lt_of_cell? w _ cu;have hklt:=World.block_lt_of_cell? w _ cn;have ha:slotAns V.ker b x=if 0<=x/\x<bj V.ker b then .returned (.agg #[.int .i64 b,.int .i64 x]) else gup 2:=by simp [slotAns,okK]
 rw [ha];clear ha;generalize bj V.ker b=n at hrun;by_cases hx0:x<0
 ·rw [if_neg (by omega)];have hx1:decide (x<0)=true:=by simpa using hx0
  go_enter Tryz.func94,Tryz.ntmps94
  go_wp2;exact ⟨rfl,rfl,hf⟩
 ·have hx1:decide (x<0)=false:=by simpa using hx0
  by_cases hx2:x<n
  ·rw [if_pos (by omega)];have hx3:¬n<=x:=by omega
   go_enter Tryz.func94,Tryz.ntmps94
   go_wp2;refine bodyPost_ret (v:=.agg #[.int .i64 b,.int .i64 x]) (by simp [results,Tryz.results94,go_sem]) rfl ⟨rfl,?_⟩;exact (Fr.refl _ _).alloc _
  ·rw [if_neg (by omega)];have hx3:n<=x:=by omega
   go_enter Tryz.func94,Tryz.ntmps94
   go_wp2;exact ⟨rfl,rfl,hf⟩
def capV:Option KCap->Value
 | some c=>c.val
 | none=>.nilIface
theorem ar {w:World}{kb:Nat}{V:KerV}(h:KerAt w kb V)(s:Slot)(c:Bool):(Instr.lookup 59 (.map (some V.hb)) (.agg #[.int .i64 s.node,.int .i64 s.index]) c).run Tryz.prog w =
 .ok (if c then .tuple #[capV (V.ker.held s),.bool (V.ker.held s).isSome] else capV (V.ker.held s)) w:=by
 have:=h.held.look_run c_ Tryz.underlying59 (z:=.nilIface) (by kernel_rfl) s c;simp only [Slot.val] at this;rw [this];simp only [KerV.ker];cases ak s V.H<;>rfl
def nodeAns (K:Ker)(s:Slot):Ending:=
 match nodeK K s with
 | some b=>.returned (.int .i64 b)
 | none=>gup 2
theorem nodeIn_walk (V:KerV)(kb ub:Nat)(c:Cl)(av tv bv:Value)(th root:Int)(s:Slot)(w:World)(h:KerAt w kb V)(hu:TurnAt w ub kb c av tv th root bv)(x y z:Int)(t:Bool)
 (hta:∀W,(Instr.typeAssert (capV (V.ker.held s)) 79 119 true).run Tryz.prog W=.ok (.tuple #[.agg #[.int .i64 x,.int .i64 y,.int .i64 z],.bool t]) W) :
 Calls Tryz.prog 95 #[.pointer (some ⟨ub,0,none⟩),.agg #[.int .i64 s.node,.int .i64 s.index]] w fun e w'=>e=(if t then .returned (.int .i64 x) else gup 2)/\Fr w w' (fun _=>False):=by
 have hult:=hu.lt;have hklt:=h.fpLt (k:=kb) (.inl rfl);generalize hans:(if t then Ending.returned (Value.int IntKind.i64 x) else gup 2)=ans;go_enter Tryz.func95,Tryz.ntmps95
 go_wp2_with fail
 generalize hW0:w.alloc _=W0;have hf0:Fr w W0 (fun _=>False):=by rw [<- hW0];exact (Fr.refl _ _).alloc _
 have hb0:W0.heap[w.heap.size]?=some (.cells #[.int .i64 s.node,.int .i64 s.index] 71 (0,0)):=by rw [<- hW0];exact heap_alloc_new _ _
 clear hW0;have h0:=h.frame hf0 (fun _ _=>id);have hu0:=hu.frame hf0 id;have c1:=hu0.ck;have c2:=h0.ch;have c3:=aa (o:=0) hb0 rfl;have c4:=aa (o:=1) hb0 rfl;have hrun:=ar (h0.frame ((Fr.refl W0 (fun _=>False)).drew) (fun _ _=>id)) s false;have hf1:=(Fr.refl W0 (fun _=>False)).alloc (.cells #[.int .i64 0,.int .i64 0,.int .i64 0] 119);have hrun2:=ar (h0.frame hf1.drew (fun _ _=>id)) s false;have hlt0:ub<W0.heap.size:=hu0.lt;have hlt1:kb<W0.heap.size:=h0.fpLt (k:=kb) (.inl rfl);have hlt2:w.heap.size<W0.heap.size:=(Array.getElem?_eq_some_iff.1 hb0).1;simp only [Bool.false_eq_true,if_false] at hrun hrun2;generalize capV (V.ker.held s)=hv at hrun hrun2 hta;go_region_held3 (fun w'=>w'.cell? ⟨ub,0,none⟩=some (.pointer (some ⟨kb,0,none⟩))/\w'.cell? ⟨kb,1024,none⟩=some (.map (some V.hb))/\w'.cell? ⟨w.heap.size,0,none⟩=some (.int .i64 s.node)/\w'.cell? ⟨w.heap.size,1,none⟩=some (.int .i64 s.index)) (go_keep) (fail)
 all_goals clear hrun hrun2 hta c1 c2 c3 c4 h0 hu0
 all_goals subst hans
 all_goals cases t
 all_goals (first | (go_wp2;go_ret;exact ⟨rfl,(hf0.alloc _).drew⟩) | (go_wp2;exact ⟨rfl,rfl,(hf0.alloc _).drew⟩))
theorem nodeIn_any (V:KerV)(kb ub:Nat)(c:Cl)(av tv bv:Value)(th root:Int)(s:Slot)(w:World)(h:KerAt w kb V)(hu:TurnAt w ub kb c av tv th root bv):
 Calls Tryz.prog 95 #[.pointer (some ⟨ub,0,none⟩),.agg #[.int .i64 s.node,.int .i64 s.index]] w fun e w'=>e=nodeAns V.ker s/\Fr w w' (fun _=>False):=by
 cases hk:V.ker.held s with
 | none=>
  have:=nodeIn_walk V kb ub c av tv bv th root s w h hu 0 0 0 false (by rw [hk];exact ta_nil_node);simpa [nodeAns,nodeK,hk] using this
 | some k=>
  cases k with
  | untyped b n m=>
   have:=nodeIn_walk V kb ub c av tv bv th root s w h hu 0 0 0 false (by rw [hk];exact ta_untyped_node _);simpa [nodeAns,nodeK,hk] using this
  | node b n r=>
   have:=nodeIn_walk V kb ub c av tv bv th root s w h hu b n r true (by rw [hk];exact ta_node_node _);simpa [nodeAns,nodeK,hk] using this
  | endpoint b n r g=>
   have:=nodeIn_walk V kb ub c av tv bv th root s w h hu 0 0 0 false (by rw [hk];exact ta_endpoint_node _);simpa [nodeAns,nodeK,hk] using this
  | task b n r=>
   have:=nodeIn_walk V kb ub c av tv bv th root s w h hu 0 0 0 false (by rw [hk];exact ta_task_node _);simpa [nodeAns,nodeK,hk] using this
  | frame b n r=>
   have:=nodeIn_walk V kb ub c av tv bv th root s w h hu 0 0 0 false (by rw [hk];exact ta_frame_node _);simpa [nodeAns,nodeK,hk] using this
end Go.Proofs.YtdpjgflemddekaaGreatDoor

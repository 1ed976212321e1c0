/- The code: the walk of the tree (inOrder). -/
import Derived.Test.YtdpjgflemddekaaGreatDoorMCodeV
import Derived.Test.YtdpjgflemddekaaGreatDoorMRefD
import Derived.RangeFuncBox
import Derived.OrdersHeld
import Derived.OrdersIn
import Derived.Maps.AppendAt
set_option maxRecDepth 100000
set_option maxHeartbeats 2000000
namespace Go.Proofs.YtdpjgflemddekaaGreatDoor
open Go.RowKit Go.Shelf
attribute [local go_sem] Oper.semAt_some
theorem aw_ {F:Fence}(hd:F.depth=none)(k:Nat):F.room k:=fun d h=>by rw [hd] at h;cases h
theorem RoundIn.anyDepth {F:Fence}(hd:F.depth=none){m m':Nat}{P:Program}{l:Nat}{f:FuncId}{tmps:Array Value}{assign body:Code}{w:World}{R:Ending->World->Prop}
 (h:RoundIn F m P l f tmps assign body w R):RoundIn F m' P l f tmps assign body w R:=⟨h.1,fun c cs _=>h.2 c cs (aw_ hd _)⟩
theorem YieldAt.anyDepth {F:Fence}(hd:F.depth=none){m:Nat}(m':Nat){P:Program}{l:Nat}{args:Array Value}{W:World}{R:Ending->World->Prop}(h:YieldAt F m P l args W R):YieldAt F m' P l args W R:=by
 obtain ⟨fn,tmps,assign,body,hy,hR⟩:=h;exact ⟨fn,tmps,assign,body,hy,RoundIn.anyDepth hd hR⟩
def je (n₀:Nat)(W W':World):Prop:=Below n₀ W W'/\∀(k:Nat) (c:Array Value),W.heap[k]?=some (Obj.cells c 71 (0,0))->W'.heap[k]?=some (Obj.cells c 71 (0,0))
theorem je.refl (n₀:Nat)(W:World):je n₀ W W:=⟨Below.refl _ _,fun _ _ h=>h⟩
theorem je.trans {n₀:Nat}{A B C:World}(h:je n₀ A B)(h2:je n₀ B C):je n₀ A C:=⟨h.1.trans h2.1,fun k c hk=>h2.2 k c (h.2 k c hk)⟩
theorem je.of_fr {n₀:Nat}{W W':World}{S:Nat->Prop}(h:Fr W W' S)(hs:∀k,S k->n₀<=k/\∀c:Array Value,W.heap[k]?≠some (Obj.cells c 71 (0,0)))(hn:n₀<=W.heap.size):je n₀ W W':=
 ⟨⟨h.os,h.tape,h.output,h.size,fun k hk=>h.block k (by omega) (fun e=>by have:=(hs k e).1;omega)⟩,fun k c hk=>h.same hk (fun e=>(hs k e).2 c hk)⟩
theorem je.alloc {n₀:Nat}(W:World)(o:Obj)(hn:n₀<=W.heap.size):je n₀ W (W.alloc o):=je.of_fr ((Fr.refl W (fun _=>False)).alloc o) (fun _ h=>h.elim) hn
theorem je.putObj {n₀:Nat}{w:World}(hn:n₀<=w.heap.size)(W:World)(l:Nat)(o o':Obj)(hl:w.heap.size<=l)(ho:W.heap[l]?=some o)(hc:o.isCells=false)(hw:o.isWalk=false):je n₀ W (W.putObj l o'):=by
 refine ⟨belowK_b hn W l o o' hl ho hc hw,fun k c hk=>?_⟩
 have:k≠l:=fun e=>by subst e;rw [hk] at ho;cases ho;cases hc
 rw [World.putObj_heap_other this];exact hk
theorem je.fr {n₀:Nat}{W W':World}(h:je n₀ W W'):Fr W W' (fun k=>n₀<=k):=⟨h.1.os,h.1.tape,h.1.output,h.1.size,fun k _ hk=>h.1.block k (by omega)⟩
theorem b1_ {M:List (Slot×bj)}{s p:Slot}{kids next:Fo}(h:(Fo.node s kids next).In (cx M) p):(∃r,am s M=some r/\r.kids=kids.roots)/\kids.In (cx M) s/\next.In (cx M) p:=by
 obtain ⟨⟨x,h1,h2,h3⟩,h4,h5⟩:=h;refine ⟨?_,h4,h5⟩;unfold cx at h1;cases hl:am s M with
 | none=>rw [hl] at h1;cases h1
 | some r=>rw [hl] at h1;cases h1;exact ⟨r,rfl,h3⟩
structure b38 (J:List Slot->World->Prop)(n₀:Nat)(M:List (Slot×bj))(p:Slot)(x:bj)(G:Fo)(pre:List Slot)(W0:World)(k:Nat)(wr:World)(done:List Slot)(G':Fo):Prop where
 slots:G.slots=done++G'.slots
 roots:x.kids.drop k=G'.roots
 le:k<=x.kids.length
 inn:G'.In (cx M) p
 j:J (pre++done) wr
 keep:je n₀ W0 wr
theorem b31 (Fc:Fence)(hd:Fc.depth=none)(h46:Fc.fn 46)(hro:Fc.round=none)(l n₀ N b:Nat)(M:List (Slot×bj))(P:Slot->Prop)(J Jx:List Slot->World->Prop)
 (hJa:∀s W o,J s W->J s (W.alloc o))
 (hY:∀m pre s W,P s->J pre W->pre.length<N->YieldAt Fc m Tryz.prog l #[.agg #[.int .i64 s.node,.int .i64 s.index]] W fun e W'=>(e=.returned (.bool true)/\J (pre++[s]) W'/\je n₀ W W')\/(e=.returned (.bool false)/\Jx (pre++[s]) W')) :
 ∀(sz:Nat) (G:Fo),G.slots.length<=sz->∀(n:Nat) (p:Slot) (x:bj) (pre:List Slot) (W:World),bg W b M->(∀k,br b M k->k<n₀)->n₀<=W.heap.size->G.In (cx M) p->am p M=some x->x.kids=G.roots->
  (∀s∈G.slots,P s)->J pre W->pre.length+G.slots.length<=N->
  CallsIn Fc n Tryz.prog 46 #[.map (some b),.agg #[.int .i64 p.node,.int .i64 p.index],.func (.yield l) #[] #[]] W fun e W'=>
   (e=.returned (.bool true)/\J (pre++G.slots) W'/\je n₀ W W')\/(e=.returned (.bool false)/\∃q,q <+: G.slots/\Jx (pre++q) W'):=by
 intro sz;induction sz using Nat.strongRecOn with
 | _ sz ih=>
  intro G hG n p x pre W hT hfp hn0 hIn hx hkids hP hJ hN;have hdd:∀k:Nat,(Fc.depth.isSome=true->1<=k):=fun k h=>by rw [hd] at h;cases h
  have hfk:=va;obtain ⟨A,cap,hsv⟩:=cz (hT.own p x hx);have hlen:=hT.len p x hx;have hT0:=hT.frame ((Fr.refl W (fun _=>False)).alloc (.cells #[.int .i64 p.node,.int .i64 p.index] 71)) (fun _ _=>id);have hrun:=hT0.map.look_run em Tryz.underlying61 (ka _) p false;rw [hx] at hrun;simp only [iy,bj.val,hsv,Slot.val,Bool.false_eq_true,if_false] at hrun;have hK0:=je.alloc W (.cells #[.int .i64 p.node,.int .i64 p.index] 71) hn0;have hJ0:=hJa pre W (.cells #[.int .i64 p.node,.int .i64 p.index] 71) hJ;refine callsIn_of_wp Tryz.func46 rfl h46 ?_ hro;simp only [Tryz.ntmps46,List.size_toArray,List.length_cons,List.length_nil,Nat.reduceAdd,Nat.reduceSub,Array.replicate_succ,Array.replicate_zero,List.push_toArray,List.append_toArray,List.nil_append,List.cons_append];have HK:Hid (x.kids=G.roots):=hkids;clear hkids;gi_wp2
  gi_loopw [14] (fun i wr=>∃(k:Nat) (done:List Slot) (G':Fo),i=.int .i64 k/\b38 J n₀ M p x G pre W k wr done G') (fun i _=>x.kids.length-(intOf i).toNat)
  case atStart=>exact ⟨0,[],G,rfl,rfl,HK.out,Nat.zero_le _,hIn,by simpa using hJ0,hK0⟩
  case round=>
   obtain ⟨k,done,G',rfl,hI⟩:=hrel;obtain ⟨hs,hr,hle,hIn',hJ',hK'⟩:=hI;cases G' with
   | nil=>
    have hkl:¬k<x.kids.length:=by
     have:=congrArg List.length hr;simp only [List.length_drop,Fo.roots,List.length_nil] at this;omega
    have hall:done=G.slots:=by rw [hs];simp [Fo.slots]
    gi_wp2
    go_ret;exact .inl ⟨rfl,by rw [<- hall];exact hJ',hK'⟩
   | node s kids next=>
    have hkl:k<x.kids.length:=by
     have:=congrArg List.length hr;simp only [List.length_drop,Fo.roots,List.length_cons] at this;omega
    have hks:x.kids[k]=s:=by
     rw [List.drop_eq_getElem_cons hkl] at hr;exact (List.cons.inj hr).1
    have hnx:x.kids.drop (k+1)=next.roots:=by
     rw [List.drop_eq_getElem_cons hkl] at hr;exact (List.cons.inj hr).2
    have hTr:bg wr b M:=hT.frame hK'.fr (fun k hk h=>by have:=hfp k hk;omega);have hlies:=bm (f:=Slot.vals) Slot.vals_len (hTr.own p x hx);rw [hsv] at hlies;obtain ⟨A',cap',hv',hA'⟩:=hlies;cases hv'
    obtain ⟨g,rfl,hc⟩:=hA' (by omega);have c0:wr.cell? ⟨g,k*2,none⟩=some (.int .i64 s.node):=by rw [<- hks];exact hc k hkl 0 _ rfl
    have c1:wr.cell? ⟨g,k*2+1,none⟩=some (.int .i64 s.index):=by rw [<- hks];exact hc k hkl 1 _ rfl
    have hglt:=World.block_lt_of_cell? _ _ c0;obtain ⟨⟨r,hr1,hr2⟩,hIk,hInx⟩:=b1_ hIn';have hsl:G.slots.length=done.length+(kids.slots.length+next.slots.length+1):=by rw [hs];simp [Fo.slots]
    have hsz0:W.heap.size<=wr.heap.size:=hK'.1.size;have hPs:∀s'∈(Fo.node s kids next).slots,P s':=fun s' h'=>hP s' (by rw [hs];exact List.mem_append.2 (.inr h'))
    have hy1:YieldAt Fc (n-1) Tryz.prog l #[.agg #[.int .i64 s.node,.int .i64 s.index]] (wr.alloc (.cells #[.int .i64 s.node,.int .i64 s.index] 71)) fun e W3=>
     (e=.returned (.bool true)/\J (pre++done++[s]) W3/\je n₀ wr W3/\W3.cell? ⟨wr.heap.size,0,none⟩=some (.int .i64 s.node)/\W3.cell? ⟨wr.heap.size,1,none⟩=some (.int .i64 s.index)/\bg W3 b M/\n₀<=W3.heap.size)\/(e=.returned (.bool false)/\Jx (pre++done++[s]) W3):=by
     refine YieldAt.mono (hY (n-1) (pre++done) s _ (hPs s (by simp [Fo.slots])) (hJa _ _ _ hJ') (by simp;omega)) fun e W3 h=>h.elim (fun ⟨he,hj,hk3⟩=>.inl ⟨he,hj,?_⟩) .inr
     have hb3:=hk3.2 _ _ (heap_alloc_new wr (.cells #[.int .i64 s.node,.int .i64 s.index] 71));have hk4:=(je.alloc wr (.cells #[.int .i64 s.node,.int .i64 s.index] 71) (by omega)).trans hk3;exact ⟨hk4,aa (o:=0) hb3 rfl,aa (o:=1) hb3 rfl,hTr.frame hk4.fr (fun k hk h=>by have:=hfp k hk;omega),by have:=hk4.1.size;omega⟩
    obtain ⟨fn,tmps,assign,body,hy,hR⟩:=hy1;have ihk:=fun W3 hJ3 hT3 hn3=>ih kids.slots.length (by omega) kids (Nat.le_refl _) (n-1) s r (pre++done++[s]) W3 hT3 hfp hn3 hIk hr1 hr2 (fun s' h'=>hPs s' (by simp [Fo.slots,h'])) hJ3 (by simp;omega)
    clear ih hY hJa hT hT0 hrun hTr hA' hc hJ0 hK0;gi_wp2_with (first
     |((try refine ⟨hdd _,?_⟩);refine hR.mono ?_;clear hR;rintro e W3 (⟨rfl,hJ3,hk3,e0,e1,hT3,hn3⟩ | ⟨rfl,hx3⟩))
     |((try refine ⟨hdd _,?_⟩);gi_at_call 46;refine (ihk _ hJ3 hT3 hn3).mono ?_;clear ihk;rintro e W4 (⟨rfl,hJ4,hk4⟩ | ⟨rfl,q,hq,hx4⟩)))
    ·refine ⟨⟨k+1,done++s :: kids.slots,next,by go_num,?_,hnx,by omega,hInx,?_,(hK'.trans hk3).trans hk4⟩,?_⟩
     ·rw [hs];simp [Fo.slots]
     ·simpa [List.append_assoc] using hJ4
     ·simp [intOf];omega
    ·go_ret;obtain ⟨r',hr'⟩:=hq;exact .inr ⟨rfl,done++s :: q,⟨r'++next.slots,by rw [hs];simp [Fo.slots,<- hr']⟩,by simpa [List.append_assoc] using hx4⟩
    ·go_ret;exact .inr ⟨rfl,done++[s],⟨kids.slots++next.slots,by rw [hs];simp [Fo.slots]⟩,by simpa [List.append_assoc] using hx3⟩
theorem a09 (Fc:Fence)(hd:Fc.depth=none)(n:Nat)(h45:Fc.fn 45)(h46:Fc.fn 46)(hro:Fc.round=none)(l n₀ b Bt:Nat)(M:List (Slot×bj))(P:Slot->Prop)(J Jx:List Slot->World->Prop)(G:Fo)(x:bj)(W:World)
 (hJa:∀s W o,J s W->J s (W.alloc o))
 (hY:∀m pre s W,P s->J pre W->pre.length<G.slots.length->YieldAt Fc m Tryz.prog l #[.agg #[.int .i64 s.node,.int .i64 s.index]] W fun e W'=>(e=.returned (.bool true)/\J (pre++[s]) W'/\je n₀ W W')\/(e=.returned (.bool false)/\Jx (pre++[s]) W'))
 (hT:bg W b M) (hfp:∀k,br b M k->k<n₀) (hn0:n₀<=W.heap.size) (hIn:G.In (cx M) nowhere) (hx:am nowhere M=some x) (hkids:x.kids=G.roots) (hP:∀s∈G.slots,P s) (h0:J [] W)
 (hb:W.cell? ⟨Bt,0,none⟩=some (.map (some b))) (hg0:W.cell? ⟨0,0,none⟩=some (.int .i64 (-1))) (hg1:W.cell? ⟨0,1,none⟩=some (.int .i64 (-1))) :
 CallsIn Fc n Tryz.prog 45 #[.func (.yield l) #[] #[],.pointer (some ⟨Bt,0,none⟩)] W fun e W'=>(∃v,e=.returned v)/\(J G.slots W'\/∃q,Jx q W'):=by
 have hdd:∀k:Nat,(Fc.depth.isSome=true->1<=k):=fun k h=>by rw [hd] at h;cases h
 have hp:=b31 Fc hd h46 hro l n₀ G.slots.length b M P J Jx hJa hY _ G (Nat.le_refl _) (n-1) nowhere x [] W hT hfp hn0 hIn hx hkids hP h0 (by simp);simp only [nowhere] at hp;refine callsIn_of_wp Tryz.func45 rfl h45 ?_ hro;simp only [Tryz.ntmps45,List.size_toArray,List.length_cons,List.length_nil,Nat.reduceAdd,Nat.reduceSub,Array.replicate_succ,Array.replicate_zero,List.push_toArray,List.append_toArray,List.nil_append,List.cons_append];gi_wp2_with ((try refine ⟨hdd _,?_⟩);gi_at_call 46;refine hp.mono ?_;clear hp;rintro e W1 (⟨rfl,hJ1,_⟩ | ⟨rfl,q,hq,hx⟩))
 ·go_end0;exact ⟨⟨_,rfl⟩,.inl (by simpa using hJ1)⟩
 ·go_end0;exact ⟨⟨_,rfl⟩,.inr ⟨_,hx⟩⟩
theorem a8_ (Fc:Fence)(n:Nat)(h23:Fc.fn 23)(hro:Fc.round=none)(b:Nat)(w:World):
 CallsIn Fc n Tryz.prog 23 #[.map (some b)] w fun e w'=>e=.returned (.func (.func 45) #[] #[.pointer (some ⟨w.heap.size,0,none⟩)])/\w'=w.alloc (.cells #[.map (some b)] 61):=by
 refine callsIn_of_wp Tryz.func23 rfl h23 ?_ hro;simp only [Tryz.ntmps23,List.size_toArray,List.length_cons,List.length_nil,Nat.reduceAdd,Nat.reduceSub,Array.replicate_succ,Array.replicate_zero,List.push_toArray,List.append_toArray,List.nil_append,List.cons_append];gi_wp2
 go_ret;exact ⟨rfl,rfl⟩
theorem ap4 (Fc:Fence)(hd:Fc.depth=none)(n:Nat)(h45:Fc.fn 45)(h46:Fc.fn 46)(hro:Fc.round=none)(n₀ b Bt:Nat)(M:List (Slot×bj))(P:Slot->Prop)(G:Fo)(x:bj)(w:World)
 (hT:bg w b M) (hfp:∀k,br b M k->k<n₀) (hn0:n₀<=w.heap.size) (hIn:G.In (cx M) nowhere) (hx:am nowhere M=some x) (hkids:x.kids=G.roots) (hP:∀s∈G.slots,P s)
 (hb:w.cell? ⟨Bt,0,none⟩=some (.map (some b))) (hg0:w.cell? ⟨0,0,none⟩=some (.int .i64 (-1))) (hg1:w.cell? ⟨0,1,none⟩=some (.int .i64 (-1))) :
 SeqStopsK Fc n Tryz.prog 45 #[.pointer (some ⟨Bt,0,none⟩)] (fun x:{s:Slot // P s}=>#[.agg #[.int .i64 x.1.node,.int .i64 x.1.index]]) (je n₀) (fun ys=>ys.map Subtype.val=G.slots) (fun _=>True) G.slots.length w:=by
 intro l J Jx W hW hJ hJx hY h0;have hfr:Fr w W (fun _=>False):=⟨hW.os,hW.tape,hW.output,hW.size,fun k hk _=>hW.block k hk⟩
 refine (a09 Fc hd n h45 h46 hro l n₀ b Bt M P (fun pre W=>∃L:List {s:Slot // P s},L.map Subtype.val=pre/\J L W) (fun pre W=>∃L:List {s:Slot // P s},L.map Subtype.val=pre/\Jx L W) G x W ?_ ?_
  (hT.frame hfr (fun _ _=>id)) hfp (Nat.le_trans hn0 hW.size) hIn hx hkids hP ⟨[],rfl,h0⟩ (hfr.cell hb id) (hfr.cell hg0 id) (hfr.cell hg1 id)).mono ?_
 ·rintro s W1 o ⟨L,h1,h2⟩;exact ⟨L,h1,hJ L W1 _ none h2 (World.grownBy_alloc W1 o none) (fun r e=>by cases e)⟩
 ·rintro m pre s W1 hs ⟨L,rfl,h2⟩ hlt;refine YieldAt.mono (YieldAt.anyDepth hd m (hY L ⟨s,hs⟩ W1 h2 (by simpa using hlt))) ?_;rintro e W2 (⟨he,hj,hk⟩ | ⟨he,hj⟩)
  ·exact .inl ⟨he,⟨L++[⟨s,hs⟩],by simp,hj⟩,hk⟩
  ·exact .inr ⟨he,⟨L++[⟨s,hs⟩],by simp,hj⟩⟩
 ·rintro e W2 ⟨he,⟨L,h1,h2⟩ | ⟨q,L,h1,h2⟩⟩
  ·exact ⟨he,.inl ⟨L,h1,h2⟩⟩
  ·exact ⟨he,.inr ⟨L,trivial,h2⟩⟩
end Go.Proofs.YtdpjgflemddekaaGreatDoor
namespace Go.Proofs.YtdpjgflemddekaaGreatDoor
open Go.RowKit
theorem bd1 {P:Program}{l n:Nat}{o:Oper}{a:Act}{w:World}{K K':Act->World->Prop}{Q:Exit->Act->World->Prop}(hnd:∀c,o.op≠.defer c)(hK:∀a w,K a w->K' a w)
 (h:o.wp P a w K Q):o.wpIn (Fence.wide.inRound l) n P a w K' Q:=by
 refine ⟨fun _ _=>trivial,?_⟩
 have e:o.semAt (Fence.wide.inRound l).round a.eval=execOp a.eval o:=Oper.semAt_some l a.eval o hnd;rw [e];unfold Oper.wp at h;generalize (execOp a.eval o).run P w=r at h;cases r with
 | ok x w'=>
  cases x with
  | value v=>exact hK _ _ h
  | skip=>exact hK _ _ h
  | defer d=>exact hK _ _ h
  | enter f args=>
   refine ⟨fun h=>(by cases h),CallsIn.inRound l (callsIn_wide.2 (Calls.mono h ?_))⟩
   intro e w'' he;cases e with
   | returned v=>exact hK _ _ he
   | panicked c=>exact he
   | outgrown=>exact he
  | row r args=>
   refine ⟨fun h=>(by cases h),?_⟩
   intro c cs hr;obtain ⟨v,w'',h1,h2⟩:=h c cs;exact ⟨v,w'',hK _ _ h1,stepsIn_wide.2 h2⟩
  | _=>exact h.elim
 | halt x w'=>cases x<;>simp only [Oper.uponIn,Oper.upon] at h ⊢<;>exact h
theorem lw {P:Program}{l n:Nat}{md:Region.Mode}{ops:Array Oper}{Q:Exit->Act->World->Prop}(hnd:∀(i:Nat) (o:Oper) (c:Call),ops[i]?=some o->o.op≠.defer c)(hLO:¬LetsOut Q):
 ∀(fuel:Nat) (listed:Array Bool) (a:Act) (w:World),wpAny P md ops Q fuel listed a w->wpAnyIn (Fence.wide.inRound l) n P md ops Q fuel listed a w
 | 0,_,_,_,h=>h
 | fuel+1,listed,a,w,h=>by
  refine ⟨h.1,fun i hi=>?_⟩
  have h1:=h.2 i hi;unfold wpOp at h1;unfold wpOpIn;cases ho:ops[i]? with
  | none=>rw [ho] at h1;exact lw hnd hLO fuel _ a w h1
  | some o=>
   rw [ho] at h1;simp only at h1 ⊢;split
   ·rename_i hw;rw [if_pos hw] at h1;rcases h1 with h1 | h1
    ·exact bd1 (fun c=>hnd i o c ho) (fun a w=>lw hnd hLO fuel _ a w) h1
    ·exact absurd h1.2 hLO
   ·rename_i hw;rw [if_neg hw] at h1;exact ⟨fun _ _=>trivial,lw hnd hLO fuel _ _ w h1⟩
def bh6 (ops:Array Oper):Bool:=ops.all fun o=>match o.op with | .defer _=>false | _=>true
theorem aw0 {ops:Array Oper}(h:bh6 ops=true)(i:Nat)(o:Oper)(c:Call)(ho:ops[i]?=some o):o.op≠.defer c:=by
 intro e;have:=Array.all_eq_true_iff_forall_mem.1 h o (Array.mem_of_getElem? ho);simp [e] at this
theorem su {P:Program}{l n id:Nat}{ops:Array Oper}{Q:Exit->Act->World->Prop}{S:World->Prop}{a:Act}{w:World}(hm:P.follows .mixedOrders=true)(hnd:bh6 ops=true)(hLO:¬LetsOut Q)(hS:S w.drew)
 (h:S w.drew->wpAnyH P .any ops Q S ops.size (Array.replicate ops.size false) a w.drew):(Code.region id ops true).wpIn (Fence.wide.inRound l) n P Q a w:=
 wpIn_region_any hm (lw (aw0 hnd) hLO _ _ _ _ (wpAny_of_held _ _ _ _ (h hS)))
end Go.Proofs.YtdpjgflemddekaaGreatDoor
namespace Go.Proofs.YtdpjgflemddekaaGreatDoor
open Go.RowKit Go.Shelf
set_option linter.unusedSimpArgs false
attribute [local go_sem] Oper.semAt_some
theorem bw4 {w:World}{b:Nat}{M:List (Slot×bj)}(h:bg w b M)(s:Slot):∃p0 p1 A n cap,(Instr.lookup 61 (.map (some b)) (.agg #[.int .i64 s.node,.int .i64 s.index]) false).run Tryz.prog w=.ok (.agg #[.int .i64 p0,.int .i64 p1,.slice A n cap]) w/\aj_ (cx M s)=⟨p0,p1⟩/\
 ∀w',Fr w w' (fun _=>False)->(Instr.lookup 61 (.map (some b)) (.agg #[.int .i64 s.node,.int .i64 s.index]) false).run Tryz.prog w'=.ok (.agg #[.int .i64 p0,.int .i64 p1,.slice A n cap]) w':=by
 have key:∀w',Fr w w' (fun _=>False)->(Instr.lookup 61 (.map (some b)) (.agg #[.int .i64 s.node,.int .i64 s.index]) false).run Tryz.prog w'=.ok (iy bj.val (.agg #[.int .i64 0,.int .i64 0,.slice none 0 0]) (am s M)) w':=by
  intro w' hf;have:=(h.frame hf (fun _ _=>id)).map.look_run em Tryz.underlying61 (ka _) s false;simpa [Slot.val] using this
 cases hl:am s M with
 | none=>
  rw [hl] at key;exact ⟨0,0,none,0,0,key w (Fr.refl _ _),by simp [cx,hl,aj_],key⟩
 | some r=>
  obtain ⟨A,cap,hsv⟩:=cz (h.own s r hl);rw [hl] at key;simp only [iy,bj.val,hsv] at key;exact ⟨r.parent.node,r.parent.index,A,_,cap,key w (Fr.refl _ _),by simp [cx,hl,aj_,bj.std],key⟩
theorem bn0 (a b c:Value)(w:World):(Instr.field 98 (.agg #[a,b,c]) 0).run Tryz.prog w=.ok (.agg #[a,b]) w:=by kernel_rfl
def b41 (V:ah)(kb:Nat)(w:World)(pre:List {s:Slot // ∃c,V.ker.held s=some c})(W:World):Prop:=
 ((∃v,Boxed W (w.heap.size+1) 43 v/\W.ownsRow w.heap.size 48 10 v pre.length (sf (pre.map fun s=>pu V.ker s.1))/\True)/\Boxed W w.heap.size 34 (.pointer (some ⟨kb,0,none⟩)))/\Below w.heap.size w W
theorem ae1 (V:ah)(kb:Nat)(w:World)(pre:List {s:Slot // ∃c,V.ker.held s=some c})(x:{s:Slot // ∃c,V.ker.held s=some c})(v:Value){W W9:World}{B g cap':Nat}{l:List Value}
 (hrow:W.ownsRow w.heap.size 48 10 v pre.length (sf (pre.map fun s=>pu V.ker s.1))) (bA1:Boxed W (w.heap.size+1) 43 v) (bK1:Boxed W w.heap.size 34 (.pointer (some ⟨kb,0,none⟩))) (hB1:Below w.heap.size w W)
 (hFW:Fr W W9 (fun k=>v.ownBlock=some k\/k=w.heap.size+1)) (bA9:W9.heap[w.heap.size+1]?=some (.cells #[.slice (some ⟨g,0,none⟩) (pre.length+1) cap'] 43 (0,0)))
 (ro9:W9.ownsRow w.heap.size 48 10 (.slice (some ⟨g,0,none⟩) (pre.length+1) cap') (pre++[x]).length (sf (pre.map fun s=>pu V.ker s.1)++l)) (hv:(pu V.ker x.1).vals=l) :
 KeepsFrom B W W9/\je w.heap.size W W9/\b41 V kb w (pre++[x]) W9:=by
 have hcell:∀k,(v.ownBlock=some k\/k=w.heap.size+1)->w.heap.size<=k/\∃c t,W.heap[k]?=some (.cells c t (0,0))/\t≠71/\t≠34:=by
  rintro k (e | rfl)
  ·rcases hrow.2 with ⟨h0,_⟩ | ⟨g,cap,cur,hv,hb,hg,_⟩
   ·rw [h0] at e;cases e
   ·rw [hv] at e;cases e;exact ⟨hb,_,_,hg,by decide,by decide⟩
  ·exact ⟨by omega,_,_,bA1,by decide,by decide⟩
 have nK:¬(v.ownBlock=some w.heap.size\/w.heap.size=w.heap.size+1):=by
  intro e;obtain ⟨_,c,t,h1,_,h2⟩:=hcell _ e;rw [show W.heap[w.heap.size]?=_ from bK1] at h1;cases h1
  exact h2 rfl
 refine ⟨⟨hFW.size,?_⟩,je.of_fr hFW (fun k hk=>?_) hB1.size,⟨⟨⟨_,bA9,?_,trivial⟩,hFW.same bK1 nK⟩,?_⟩⟩
 ·intro k o hk ho hc;exact hFW.same ho (fun e=>by obtain ⟨_,c,t,h1,_⟩:=hcell k e;rw [ho] at h1;cases h1;cases hc)
 ·obtain ⟨h0,c,t,h1,h2,_⟩:=hcell k hk;exact ⟨h0,fun c' hc'=>by rw [h1] at hc';cases hc';exact h2 rfl⟩
 ·have:sf ((pre++[x]).map fun s=>pu V.ker s.1)=sf (pre.map fun s=>pu V.ker s.1)++l:=by rw [<- hv];simp [sf]
  rw [this];exact ro9
 ·exact hB1.trans ⟨hFW.os,hFW.tape,hFW.output,hFW.size,fun k hk=>hFW.block k (Nat.lt_of_lt_of_le hk hB1.size) (fun e=>by have:=(hcell k e).1;omega)⟩
theorem ar1 (V:ah)(kb:Nat)(w:World)(h:aq w kb V)(hgl:ev w)(G:Fo)(x:bj)(hIn:G.In (cx V.M) nowhere)(hx:am nowhere V.M=some x)(hkids:x.kids=G.roots)(hP:∀s∈G.slots,∃c,V.ker.held s=some c)(hlen:G.slots.length<=1000000):
 Calls Tryz.prog 13 #[.pointer (some ⟨kb,0,none⟩)] w fun e w'=>∃v,e=.returned v/\w'.ownsRow w.heap.size 48 10 v G.slots.length (sf (G.slots.map (pu V.ker)))/\Fr w w' (fun _=>False):=by
 obtain ⟨i0,hi,hz0,hz1,hz2⟩:=info_parts am5;refine (callsIn_wide (n:=5)).1 ?_;have ct:=h.ct;have hklt:=World.block_lt_of_cell? _ _ ct;refine callsIn_of_wp_marks Tryz.func13 rfl trivial ?_ rfl;simp only [Tryz.ntmps13,List.size_toArray,List.length_cons,List.length_nil,Nat.reduceAdd,Nat.reduceSub,Array.replicate_succ,Array.replicate_zero,List.push_toArray,List.append_toArray,List.nil_append,List.cons_append];gi_wp2_with (refine ⟨trivial,?_⟩;gi_at_call 23;refine (a8_ Fence.wide _ trivial rfl _ _).mono ?_;rintro e w' ⟨rfl,rfl⟩)
 have bK:=((Boxed.new w 34 (.pointer (some ⟨kb,0,none⟩))).alloc (.cells #[.slice none 0 0] 43)).alloc (.cells #[.map (some V.tb)] 61);have bA:=(Boxed.new (w.alloc (.cells #[.pointer (some ⟨kb,0,none⟩)] 34)) 43 (.slice none 0 0)).alloc (.cells #[.map (some V.tb)] 61);have bT:=Boxed.new ((w.alloc (.cells #[.pointer (some ⟨kb,0,none⟩)] 34)).alloc (.cells #[.slice none 0 0] 43)) 61 (.map (some V.tb));simp only [World.size_alloc] at bA bT;have hB0:Below w.heap.size w (((w.alloc (.cells #[.pointer (some ⟨kb,0,none⟩)] 34)).alloc (.cells #[.slice none 0 0] 43)).alloc (.cells #[.map (some V.tb)] 61)):=(((Below.refl _ w).alloc (Nat.le_refl _) _).alloc (by simp) _).alloc (by simp;omega) _;have hF0:Fr w (((w.alloc (.cells #[.pointer (some ⟨kb,0,none⟩)] 34)).alloc (.cells #[.slice none 0 0] 43)).alloc (.cells #[.map (some V.tb)] 61)) (fun _=>False):=(((Fr.refl _ _).alloc _).alloc _).alloc _;have hsz:(((w.alloc (.cells #[.pointer (some ⟨kb,0,none⟩)] 34)).alloc (.cells #[.slice none 0 0] 43)).alloc (.cells #[.map (some V.tb)] 61)).heap.size=w.heap.size+3:=by simp
 obtain ⟨W0,hW0⟩:∃W0,((w.alloc (.cells #[.pointer (some ⟨kb,0,none⟩)] 34)).alloc (.cells #[.slice none 0 0] 43)).alloc (.cells #[.map (some V.tb)] 61)=W0:=⟨_,rfl⟩;rw [hW0] at bK bA bT hB0 hsz hF0 ⊢;clear hW0;have hfpl:∀k,br V.tb V.M k->k<w.heap.size:=fun k hk=>h.tree.fpLt hk
 refine wpIn_rangeFunc_ownH rfl (by decide) (gf:=45) (lb:=#[.pointer (some ⟨w.heap.size+1+1,0,none⟩)]) rfl trivial (enters_of Tryz.func45 (by kernel_rfl) rfl)
  (ap4 Fence.wide rfl _ trivial trivial rfl w.heap.size V.tb (w.heap.size+1+1) V.M (fun s=>∃c,V.ker.held s=some c) G x W0 (h.tree.frame hF0 (fun _ _=>id)) hfpl (by omega) hIn hx hkids hP bT.cell (hF0.cell hgl.n0 id) (hF0.cell hgl.n1 id))
  je.trans (je.putObj (by omega)) (Below.refl _ _) (fun _=>rfl)
  (b41 V kb w) (fun _ _ _=>False)
  (OwnFrom.and (OwnFrom.and (Own.from (holdsRow_own w.heap.size (w.heap.size+1) 43 48 10 (fun pre:List {s:Slot // ∃c,V.ker.held s=some c}=>pre.length) (fun pre=>sf (pre.map fun s=>pu V.ker s.1)) (fun _ _=>True)) _) (Own.from (boxed_own _ _ _) _)) (ownFrom_below (Nat.le_refl _) (by omega)))
  (fun _ _ _ _ _ hs _ _=>hs)
  ⟨⟨⟨_,bA,World.ownsRow_nil _ _ _ _,trivial⟩,bK⟩,hB0⟩
  (fun x a' W=>∃Bx,w.heap.size+1<Bx/\W.heap[Bx]?=some (.cells #[.int .i64 x.1.node,.int .i64 x.1.index] 71 (0,0))/\a'={tmps:=#[.pointer (some ⟨kb,0,none⟩),.pointer (some ⟨w.heap.size,0,none⟩),.slice none 0 0,.pointer (some ⟨w.heap.size+1,0,none⟩),.pointer (some ⟨Bx,0,none⟩),undef,
    .pointer (some ⟨kb,0,none⟩),.pointer (some ⟨kb,0,none⟩),.pointer (some ⟨kb,1025,none⟩),.map (some V.tb),.func (.func 45) #[] #[.pointer (some ⟨w.heap.size+1+1,0,none⟩)],.agg #[.int .i64 x.1.node,.int .i64 x.1.index],
    undef,undef,undef,undef,undef,undef,undef,undef,undef,undef,undef,undef,undef,undef,undef,undef,undef,undef,undef,undef,undef,undef,undef,undef,undef,undef,undef],defers:=[]})
  ?hAx ?assign ?body ?done ?stop
 case hAx=>
  rintro x a' _ X Y row ⟨Bx,h1,h2,h3⟩ hg hr;refine ⟨Bx,h1,?_,h3⟩;rw [hg.block Bx (Array.getElem?_eq_some_iff.1 h2).1 (fun e=>by obtain ⟨_,o,ho,hc⟩:=hr Bx e.symm;rw [h2] at ho;cases ho;cases hc)];exact h2
 case assign=>
  rintro l pre x W K ⟨⟨⟨v,bA1,hrow,_⟩,bK1⟩,hB1⟩ hK;gi_wp2
  have hsW:=hB1.size;exact hK _ _ ((KeepsOthers.alloc _ _).from _) (je.alloc W _ hsW) ⟨⟨⟨v,bA1.alloc _,World.ownsRow.alloc hrow _,trivial⟩,bK1.alloc _⟩,hB1.alloc hsW _⟩ ⟨W.heap.size,bA1.lt,heap_alloc_new _ _,rfl⟩
 case body=>
  rintro l pre x a' W hl ⟨r,hr⟩ ⟨⟨⟨v,bA1,hrow,_⟩,bK1⟩,hB1⟩ ⟨Bx,hBx,bX,rfl⟩ hlt;have hFw:Fr w W (fun k=>w.heap.size<=k):=⟨hB1.os,hB1.tape,hB1.output,hB1.size,fun k _ hk=>hB1.block k (by omega)⟩
  have hk:aq W kb V:=h.frame hFw (fun k hk hs=>by have:=h.fpLt hk;omega);obtain ⟨p0,p1,A,n,cap,_,hpar,hrun⟩:=bw4 hk.tree x.1;obtain ⟨c,hc⟩:=x.2;have cK:=bK1.cell;have ctW:=hk.ct;have chW:=hk.ch;have cx0:=aa (o:=0) bX rfl;have cx1:=aa (o:=1) bX rfl;dsimp only;refine wpIn_block ?_;refine wpIn_seq ?_;refine su (S:=fun w'=>Fr W w' (fun _=>False)) (by kernel_rfl) (by kernel_rfl) (by rintro ⟨a,w,h⟩;exact h) (Fr.refl _ _).drew (fun hHeld=>?_)
  refine wpAnyH_take (i:=0) (oi:={dst:=some 12,op:=Op.load 34 (Operand.tmp 1),type:=34,pos:= "escheat.go:78",after:=#[],guard:=none}) (v:=.pointer (some ⟨kb,0,none⟩)) rfl (by kernel_rfl) (by kernel_rfl) (by kernel_rfl) (fun _ _ _ h=>h) (Or.inl ⟨by rfl,?_⟩) hHeld ?_
  ·intro w' hSw;have:=Fr.cell hSw cK id;go_simp
  simp only [Act.put,List.setIfInBounds_toArray,List.set_cons_zero,List.set_cons_succ];refine wpAnyH_take (i:=1) (oi:={dst:=some 13,op:=Op.nilCheck (Operand.tmp 12),type:=0,pos:= "escheat.go:78",after:=#[{on:=0,ground:=Ground.data}],guard:=none}) (v:=.pointer (some ⟨kb,0,none⟩)) rfl (by kernel_rfl) (by kernel_rfl) (by kernel_rfl) (fun _ _ _ h=>h) (Or.inl ⟨by rfl,?_⟩) hHeld ?_
  ·intro w' hSw;go_simp
  simp only [Act.put,List.setIfInBounds_toArray,List.set_cons_zero,List.set_cons_succ];refine wpAnyH_take (i:=2) (oi:={dst:=some 14,op:=Op.fieldAddr 69 (Operand.tmp 13) 2,type:=0,pos:= "escheat.go:78",after:=#[{on:=1,ground:=Ground.data}],guard:=none}) (v:=.pointer (some ⟨kb,1025,none⟩)) rfl (by kernel_rfl) (by kernel_rfl) (by kernel_rfl) (fun _ _ _ h=>h) (Or.inl ⟨by rfl,?_⟩) hHeld ?_
  ·intro w' hSw;go_simp
  simp only [Act.put,List.setIfInBounds_toArray,List.set_cons_zero,List.set_cons_succ];refine wpAnyH_take (i:=3) (oi:={dst:=some 15,op:=Op.load 61 (Operand.tmp 14),type:=61,pos:= "escheat.go:78",after:=#[{on:=2,ground:=Ground.data}],guard:=none}) (v:=.map (some V.tb)) rfl (by kernel_rfl) (by kernel_rfl) (by kernel_rfl) (fun _ _ _ h=>h) (Or.inl ⟨by rfl,?_⟩) hHeld ?_
  ·intro w' hSw;have:=Fr.cell hSw ctW id;go_simp
  simp only [Act.put,List.setIfInBounds_toArray,List.set_cons_zero,List.set_cons_succ];refine wpAnyH_take (i:=4) (oi:={dst:=some 16,op:=Op.load 71 (Operand.tmp 4),type:=71,pos:= "escheat.go:78",after:=#[],guard:=none}) (v:=.agg #[.int .i64 x.1.node,.int .i64 x.1.index]) rfl (by kernel_rfl) (by kernel_rfl) (by kernel_rfl) (fun _ _ _ h=>h) (Or.inl ⟨by rfl,?_⟩) hHeld ?_
  ·intro w' hSw;have q0:=Fr.cell hSw cx0 id;have q1:=Fr.cell hSw cx1 id;go_simp
  simp only [Act.put,List.setIfInBounds_toArray,List.set_cons_zero,List.set_cons_succ];refine wpAnyH_take (i:=5) (oi:={dst:=some 17,op:=Op.lookup 61 (Operand.tmp 15) (Operand.tmp 16) false,type:=98,pos:= "escheat.go:78",after:=#[{on:=3,ground:=Ground.data},{on:=4,ground:=Ground.data}],guard:=none}) (v:=.agg #[.int .i64 p0,.int .i64 p1,.slice A n cap]) rfl (by kernel_rfl) (by kernel_rfl) (by kernel_rfl) (fun _ _ _ h=>h) (Or.inl ⟨by rfl,?_⟩) hHeld ?_
  ·intro w' hSw;have:=hrun w' hSw;go_simp
  simp only [Act.put,List.setIfInBounds_toArray,List.set_cons_zero,List.set_cons_succ];refine wpAnyH_take (i:=6) (oi:={dst:=some 18,op:=Op.field 98 (Operand.tmp 17) 0,type:=71,pos:= "escheat.go:78",after:=#[{on:=5,ground:=Ground.data}],guard:=none}) (v:=.agg #[.int .i64 p0,.int .i64 p1]) rfl (by kernel_rfl) (by kernel_rfl) (by kernel_rfl) (fun _ _ _ h=>h) (Or.inl ⟨by rfl,?_⟩) hHeld ?_
  ·intro w' hSw;have:=bn0;go_simp
  simp only [Act.put,List.setIfInBounds_toArray,List.set_cons_zero,List.set_cons_succ];refine wpAnyH_ready (rs:=[7]) (by kernel_rfl) (by simp) ?_;refine AllReadyH.cons rfl (fun K hK=>?_) AllReadyH.nil;go_simp
  refine hK.out _ _ ((Fr.refl _ _).alloc _).drew (fun hHeld=>?_);clear hK K;refine wpAnyH_ready (rs:=[8]) (by kernel_rfl) (by simp) ?_;refine AllReadyH.cons rfl (fun K hK=>?_) AllReadyH.nil;go_simp
  refine hK.out _ _ ((Fr.refl _ _).alloc _).drew (fun hHeld=>?_);clear hK K hHeld;refine wpAnyH_done (by kernel_rfl) ?_ _;generalize hW5:World.drew _=W5;have hF5:Fr W W5 (fun _=>False):=by rw [<- hW5];exact ((Fr.refl _ _).alloc _).drew
  have b5:W5.heap[W.heap.size]?=some (.cells #[.int .i64 p0,.int .i64 p1] 71 (0,0)):=by rw [<- hW5];exact heap_alloc_new W _
  clear hW5;have hrow5:=hF5.owns hrow (fun _ _=>id);have bA5:Boxed W5 (w.heap.size+1) 43 v:=hF5.same bA1 id;have bK5:Boxed W5 w.heap.size 34 (.pointer (some ⟨kb,0,none⟩)):=hF5.same bK1 id;have bX5:=hF5.same bX id;have hk5:=hk.frame hF5 (fun _ _=>id);have hsW:=hB1.size;have hs5:=hF5.size;have nrow:∀{k:Nat} {c:Array Value} {t:TypeId},W5.heap[k]?=some (.cells c t (0,0))->t≠48->v.ownBlock≠some k:=by
   intro k c t hk1 ht e;rcases hrow5.2 with ⟨h0,_⟩ | ⟨g,cap,cur,hv,_,hg,_⟩
   ·rw [h0] at e;cases e
   ·rw [hv] at e;cases e;rw [hk1] at hg;cases hg;exact ht rfl
  have nX:¬(v.ownBlock=some Bx\/Bx=w.heap.size+1):=by rintro (e | e);exact nrow bX5 (by decide) e;omega
  have nK:¬(v.ownBlock=some w.heap.size\/w.heap.size=w.heap.size+1):=by rintro (e | e);exact nrow bK5 (by decide) e;omega
  have n5:¬(v.ownBlock=some W.heap.size\/W.heap.size=w.heap.size+1):=by rintro (e | e);exact nrow b5 (by decide) e;have:=bA1.lt;omega
  have nfp:∀k,V.fp kb k->¬(v.ownBlock=some k\/k=w.heap.size+1):=by
   rintro k hk1 (e | e)
   ·have:=(hrow5.lt k e).1;have:=h.fpLt hk1;omega
   ·have:=h.fpLt hk1;omega
  have cK5:=bK5.cell;have cA5:=bA5.cell;have ch5:=hk5.ch;have x0:=aa (o:=0) bX5 rfl;have x1:=aa (o:=1) bX5 rfl;have y0:=aa (o:=0) b5 rfl;have y1:=aa (o:=1) b5 rfl;have hfpkb:V.fp kb kb:=.inl rfl;show Code.wpIn _ _ _ _ _ _ _;refine su (S:=fun w'=>Fr W5 w' (fun k=>v.ownBlock=some k\/k=w.heap.size+1)) (by kernel_rfl) (by kernel_rfl) (by rintro ⟨a,w,h⟩;exact h) (Fr.refl _ _).drew (fun hHeld=>?_)
  refine wpAnyH_take (i:=1) (oi:={dst:=some 20,op:=Op.fieldAddr 71 (Operand.tmp 4) 0,type:=0,pos:= "escheat.go:79",after:=#[],guard:=none}) (v:=.pointer (some ⟨Bx,0,none⟩)) rfl (by kernel_rfl) (by kernel_rfl) (by kernel_rfl) (fun _ _ _ h=>h) (Or.inl ⟨by rfl,?_⟩) hHeld ?_
  ·intro w' hSw;go_simp
  simp only [Act.put,List.setIfInBounds_toArray,List.set_cons_zero,List.set_cons_succ];refine wpAnyH_take (i:=3) (oi:={dst:=some 22,op:=Op.fieldAddr 71 (Operand.tmp 4) 1,type:=0,pos:= "escheat.go:79",after:=#[],guard:=none}) (v:=.pointer (some ⟨Bx,1,none⟩)) rfl (by kernel_rfl) (by kernel_rfl) (by kernel_rfl) (fun _ _ _ h=>h) (Or.inl ⟨by rfl,?_⟩) hHeld ?_
  ·intro w' hSw;go_simp
  simp only [Act.put,List.setIfInBounds_toArray,List.set_cons_zero,List.set_cons_succ];refine wpAnyH_take (i:=12) (oi:={dst:=some 31,op:=Op.fieldAddr 71 (Operand.tmp 5) 0,type:=0,pos:= "escheat.go:79",after:=#[],guard:=none}) (v:=.pointer (some ⟨W.heap.size,0,none⟩)) rfl (by kernel_rfl) (by kernel_rfl) (by kernel_rfl) (fun _ _ _ h=>h) (Or.inl ⟨by rfl,?_⟩) hHeld ?_
  ·intro w' hSw;go_simp
  simp only [Act.put,List.setIfInBounds_toArray,List.set_cons_zero,List.set_cons_succ];refine wpAnyH_take (i:=14) (oi:={dst:=some 33,op:=Op.fieldAddr 71 (Operand.tmp 5) 1,type:=0,pos:= "escheat.go:79",after:=#[],guard:=none}) (v:=.pointer (some ⟨W.heap.size,1,none⟩)) rfl (by kernel_rfl) (by kernel_rfl) (by kernel_rfl) (fun _ _ _ h=>h) (Or.inl ⟨by rfl,?_⟩) hHeld ?_
  ·intro w' hSw;go_simp
  simp only [Act.put,List.setIfInBounds_toArray,List.set_cons_zero,List.set_cons_succ];refine wpAnyH_take (i:=2) (oi:={dst:=some 21,op:=Op.load 3 (Operand.tmp 20),type:=3,pos:= "escheat.go:79",after:=#[{on:=1,ground:=Ground.data}],guard:=none}) (v:=.int .i64 x.1.node) rfl (by kernel_rfl) (by kernel_rfl) (by kernel_rfl) (fun _ _ _ h=>h) (Or.inl ⟨by rfl,?_⟩) hHeld ?_
  ·intro w' hSw;have:=Fr.cell hSw x0 nX;go_simp
  simp only [Act.put,List.setIfInBounds_toArray,List.set_cons_zero,List.set_cons_succ];refine wpAnyH_take (i:=4) (oi:={dst:=some 23,op:=Op.load 3 (Operand.tmp 22),type:=3,pos:= "escheat.go:79",after:=#[{on:=3,ground:=Ground.data}],guard:=none}) (v:=.int .i64 x.1.index) rfl (by kernel_rfl) (by kernel_rfl) (by kernel_rfl) (fun _ _ _ h=>h) (Or.inl ⟨by rfl,?_⟩) hHeld ?_
  ·intro w' hSw;have:=Fr.cell hSw x1 nX;go_simp
  simp only [Act.put,List.setIfInBounds_toArray,List.set_cons_zero,List.set_cons_succ];refine wpAnyH_take (i:=13) (oi:={dst:=some 32,op:=Op.load 3 (Operand.tmp 31),type:=3,pos:= "escheat.go:79",after:=#[{on:=12,ground:=Ground.data}],guard:=none}) (v:=.int .i64 p0) rfl (by kernel_rfl) (by kernel_rfl) (by kernel_rfl) (fun _ _ _ h=>h) (Or.inl ⟨by rfl,?_⟩) hHeld ?_
  ·intro w' hSw;have:=Fr.cell hSw y0 n5;go_simp
  simp only [Act.put,List.setIfInBounds_toArray,List.set_cons_zero,List.set_cons_succ];refine wpAnyH_take (i:=15) (oi:={dst:=some 34,op:=Op.load 3 (Operand.tmp 33),type:=3,pos:= "escheat.go:79",after:=#[{on:=14,ground:=Ground.data}],guard:=none}) (v:=.int .i64 p1) rfl (by kernel_rfl) (by kernel_rfl) (by kernel_rfl) (fun _ _ _ h=>h) (Or.inl ⟨by rfl,?_⟩) hHeld ?_
  ·intro w' hSw;have:=Fr.cell hSw y1 n5;go_simp
  simp only [Act.put,List.setIfInBounds_toArray,List.set_cons_zero,List.set_cons_succ];refine wpAnyH_take (i:=5) (oi:={dst:=some 24,op:=Op.load 34 (Operand.tmp 1),type:=34,pos:= "escheat.go:79",after:=#[],guard:=none}) (v:=.pointer (some ⟨kb,0,none⟩)) rfl (by kernel_rfl) (by kernel_rfl) (by kernel_rfl) (fun _ _ _ h=>h) (Or.inl ⟨by rfl,?_⟩) hHeld ?_
  ·intro w' hSw;have:=Fr.cell hSw cK5 nK;go_simp
  simp only [Act.put,List.setIfInBounds_toArray,List.set_cons_zero,List.set_cons_succ];refine wpAnyH_take (i:=6) (oi:={dst:=some 25,op:=Op.nilCheck (Operand.tmp 24),type:=0,pos:= "escheat.go:79",after:=#[{on:=5,ground:=Ground.data}],guard:=none}) (v:=.pointer (some ⟨kb,0,none⟩)) rfl (by kernel_rfl) (by kernel_rfl) (by kernel_rfl) (fun _ _ _ h=>h) (Or.inl ⟨by rfl,?_⟩) hHeld ?_
  ·intro w' hSw;go_simp
  simp only [Act.put,List.setIfInBounds_toArray,List.set_cons_zero,List.set_cons_succ];refine wpAnyH_take (i:=7) (oi:={dst:=some 26,op:=Op.fieldAddr 69 (Operand.tmp 25) 1,type:=0,pos:= "escheat.go:79",after:=#[{on:=6,ground:=Ground.data}],guard:=none}) (v:=.pointer (some ⟨kb,1024,none⟩)) rfl (by kernel_rfl) (by kernel_rfl) (by kernel_rfl) (fun _ _ _ h=>h) (Or.inl ⟨by rfl,?_⟩) hHeld ?_
  ·intro w' hSw;go_simp
  simp only [Act.put,List.setIfInBounds_toArray,List.set_cons_zero,List.set_cons_succ];refine wpAnyH_take (i:=8) (oi:={dst:=some 27,op:=Op.load 59 (Operand.tmp 26),type:=59,pos:= "escheat.go:79",after:=#[{on:=7,ground:=Ground.data}],guard:=none}) (v:=.map (some V.hb)) rfl (by kernel_rfl) (by kernel_rfl) (by kernel_rfl) (fun _ _ _ h=>h) (Or.inl ⟨by rfl,?_⟩) hHeld ?_
  ·intro w' hSw;have:=Fr.cell hSw ch5 (nfp kb hfpkb);go_simp
  simp only [Act.put,List.setIfInBounds_toArray,List.set_cons_zero,List.set_cons_succ];refine wpAnyH_take (i:=9) (oi:={dst:=some 28,op:=Op.load 71 (Operand.tmp 4),type:=71,pos:= "escheat.go:79",after:=#[],guard:=none}) (v:=.agg #[.int .i64 x.1.node,.int .i64 x.1.index]) rfl (by kernel_rfl) (by kernel_rfl) (by kernel_rfl) (fun _ _ _ h=>h) (Or.inl ⟨by rfl,?_⟩) hHeld ?_
  ·intro w' hSw;have q0:=Fr.cell hSw x0 nX;have q1:=Fr.cell hSw x1 nX;go_simp
  simp only [Act.put,List.setIfInBounds_toArray,List.set_cons_zero,List.set_cons_succ];refine wpAnyH_take (i:=10) (oi:={dst:=some 29,op:=Op.lookup 59 (Operand.tmp 27) (Operand.tmp 28) false,type:=79,pos:= "escheat.go:79",after:=#[{on:=8,ground:=Ground.data},{on:=9,ground:=Ground.data}],guard:=none}) (v:=c.val) rfl (by kernel_rfl) (by kernel_rfl) (by kernel_rfl) (fun _ _ _ h=>h) (Or.inl ⟨by rfl,?_⟩) hHeld ?_
  ·intro w' hSw;have hl9:=be (hk5.frame hSw nfp) x.1 false;rw [hc] at hl9;simp only [Bool.false_eq_true,if_false,jf] at hl9;go_simp
  simp only [Act.put,List.setIfInBounds_toArray,List.set_cons_zero,List.set_cons_succ];have hvals:(pu V.ker x.1).vals=[.int .i64 x.1.node,.int .i64 x.1.index,.int .i64 c.told.1,.int .i64 c.told.2.1,.int .i64 c.told.2.2.1,.int .i64 c.told.2.2.2.1,.int .i64 c.told.2.2.2.2.1,.int .i64 c.told.2.2.2.2.2,.int .i64 p0,.int .i64 p1]:=by
   have hpar':aj_ (V.ker.st x.1)=⟨p0,p1⟩:=hpar;unfold pu ov.vals;rw [hc,hpar'];rfl
  refine wpAnyH_ready (rs:=[0,11]) (by kernel_rfl) (by simp) ?_;refine AllReadyH.cons rfl (fun K hK=>?_) (AllReadyH.cons rfl (fun K hK=>?_) AllReadyH.nil)
  ·go_simp
   refine hK.out _ _ (Fr.refl _ _).drew (fun hHeld=>?_);clear hK K;refine wpAnyH_ready (rs:=[11]) (by kernel_rfl) (by simp) ?_;refine AllReadyH.cons rfl (fun K hK=>?_) AllReadyH.nil;go_simp
   refine (ab0 c _).mono ?_;rintro e W6 ⟨rfl,hf6⟩;unfold ao5;have hF6:Fr W5 W6 (fun _=>False):=hf6.drewl;have cA6:=hF6.cell cA5 id;refine hK.out _ _ (hF6.mono (fun _=>False.elim)) (fun hHeld=>?_);clear hK K;refine wpAnyH_take (i:=16) (oi:={dst:=some 35,op:=Op.build 48 #[(0,Operand.tmp 21),(1,Operand.tmp 23),(2,Operand.tmp 30),(3,Operand.tmp 32),(4,Operand.tmp 34)],type:=48,pos:= "escheat.go:79",after:=#[{on:=2,ground:=Ground.data},{on:=4,ground:=Ground.data},{on:=11,ground:=Ground.data},{on:=13,ground:=Ground.data},{on:=15,ground:=Ground.data}],guard:=none}) (v:=.agg #[.int .i64 x.1.node,.int .i64 x.1.index,.int .i64 c.told.1,.int .i64 c.told.2.1,.int .i64 c.told.2.2.1,.int .i64 c.told.2.2.2.1,.int .i64 c.told.2.2.2.2.1,.int .i64 c.told.2.2.2.2.2,.int .i64 p0,.int .i64 p1]) rfl (by kernel_rfl) (by kernel_rfl) (by kernel_rfl) (fun _ _ _ h=>h) (Or.inl ⟨by rfl,?_⟩) hHeld ?_
   ·intro w' hSw;go_simp
   simp only [Act.put,List.setIfInBounds_toArray,List.set_cons_zero,List.set_cons_succ];refine wpAnyH_ready (rs:=[17]) (by kernel_rfl) (by simp) ?_;refine AllReadyH.cons rfl (fun K hK=>?_) AllReadyH.nil;go_simp
   refine hK.out _ _ ((Fr.alloc hF6 _).mono (fun _=>False.elim)) (fun hHeld=>?_);clear hK K;have hrow6:=hF6.owns hrow5 (fun _ _=>id);have hs6:=hF6.size;refine wpAnyH_ready (rs:=[18]) (by kernel_rfl) (by simp) ?_;refine AllReadyH.cons rfl (fun K hK=>?_) AllReadyH.nil;refine step_append_lies _ rfl _ _ 43 rfl w.heap.size 48 i0 _ 10 80 Tryz.underlying43 hi hz0 hz1 hz2 rfl (by decide) v pre.length _ rfl (World.ownsRow.alloc hrow6 _) ⟨W6.heap.size,0,none⟩ 1 1 [.int .i64 x.1.node,.int .i64 x.1.index,.int .i64 c.told.1,.int .i64 c.told.2.1,.int .i64 c.told.2.2.1,.int .i64 c.told.2.2.2.1,.int .i64 c.told.2.2.2.2.1,.int .i64 c.told.2.2.2.2.2,.int .i64 p0,.int .i64 p1] rfl rfl (dg _ _ _) (by rw [<- hvals];exact ov.one _) (by decide) (by unfold maxLen;omega) (by omega) (by simp only [World.size_alloc];omega) (W6.heap.size+1) (by simp) ?_;intro g cap' W8 hown hgrow hat hlt8;have hF8:Fr W5 W8 (fun k=>v.ownBlock=some k\/k=w.heap.size+1):=((Fr.alloc hF6 _).mono (fun _=>False.elim)).grown hgrow (fun k hk=>.inl (.inl hk))
   have nA:v.ownBlock≠some (w.heap.size+1):=nrow bA5 (by decide);have bA8:W8.heap[w.heap.size+1]?=some (.cells #[v] 43 (0,0)):=by
    have h6:W6.heap[w.heap.size+1]?=some (.cells #[v] 43 (0,0)):=hF6.same bA5 id;have h7:=((Fr.refl W6 (fun _=>False)).alloc (.cells #[.int .i64 x.1.node,.int .i64 x.1.index,.int .i64 c.told.1,.int .i64 c.told.2.1,.int .i64 c.told.2.2.1,.int .i64 c.told.2.2.2.1,.int .i64 c.told.2.2.2.2.1,.int .i64 c.told.2.2.2.2.2,.int .i64 p0,.int .i64 p1] 48)).same h6 id;rw [hgrow.block _ (Array.getElem?_eq_some_iff.1 h7).1 (fun e=>nA e.symm)];exact h7
   have gA:g≠w.heap.size+1:=by
    rcases hat with e | e
    ·exact fun e2=>nA (e2▸e)
    ·have:=bA1.lt;omega
   refine hK.out _ _ hF8 (fun hHeld=>?_);clear hK K;have cA8:=aa (o:=0) bA8 rfl;have zA8:W8.frozen? ⟨w.heap.size+1,0,none⟩=false:=ab bA8;simp only [Act.put,List.setIfInBounds_toArray,List.set_cons_zero,List.set_cons_succ];refine wpAnyH_ready (rs:=[19]) (by kernel_rfl) (by simp) ?_;refine AllReadyH.cons rfl (fun K hK=>?_) AllReadyH.nil;go_simp
   have hF9:=Fr.setCell (S:=fun k=>v.ownBlock=some k\/k=w.heap.size+1) hF8 (.inl (.inr rfl)) 0 (.slice (some ⟨g,0,none⟩) (pre.length+1) cap');refine hK.out _ _ hF9 (fun hHeld=>?_);clear hK K hHeld;refine wpAnyH_done (by kernel_rfl) ?_ _;have bA9:=ak W8 (w.heap.size+1) 0 (.slice (some ⟨g,0,none⟩) (pre.length+1) cap') bA8;have ro9:=(Fr.set1 W8 (w.heap.size+1) 0 (.slice (some ⟨g,0,none⟩) (pre.length+1) cap')).owns hown (fun k hk e=>by cases hk;exact gA e);generalize W8.setCell ⟨w.heap.size+1,0,none⟩ (.slice (some ⟨g,0,none⟩) (pre.length+1) cap')=W9 at hF9 bA9 ro9;have hFW:Fr W W9 (fun k=>v.ownBlock=some k\/k=w.heap.size+1):=(hF5.mono (fun _=>False.elim)).step hF9 (fun k hk=>.inl hk);exact ae1 V kb w pre x v hrow bA1 bK1 hB1 hFW bA9 (by rw [List.length_append];exact ro9) hvals
  ·skip
   go_simp
   refine (ab0 c _).mono ?_;rintro e W6 ⟨rfl,hf6⟩;unfold ao5;have hF6:Fr W5 W6 (fun _=>False):=hf6.drewl;have cA6:=hF6.cell cA5 id;refine hK.out _ _ (hF6.mono (fun _=>False.elim)) (fun hHeld=>?_);clear hK K;refine wpAnyH_take (i:=16) (oi:={dst:=some 35,op:=Op.build 48 #[(0,Operand.tmp 21),(1,Operand.tmp 23),(2,Operand.tmp 30),(3,Operand.tmp 32),(4,Operand.tmp 34)],type:=48,pos:= "escheat.go:79",after:=#[{on:=2,ground:=Ground.data},{on:=4,ground:=Ground.data},{on:=11,ground:=Ground.data},{on:=13,ground:=Ground.data},{on:=15,ground:=Ground.data}],guard:=none}) (v:=.agg #[.int .i64 x.1.node,.int .i64 x.1.index,.int .i64 c.told.1,.int .i64 c.told.2.1,.int .i64 c.told.2.2.1,.int .i64 c.told.2.2.2.1,.int .i64 c.told.2.2.2.2.1,.int .i64 c.told.2.2.2.2.2,.int .i64 p0,.int .i64 p1]) rfl (by kernel_rfl) (by kernel_rfl) (by kernel_rfl) (fun _ _ _ h=>h) (Or.inl ⟨by rfl,?_⟩) hHeld ?_
   ·intro w' hSw;go_simp
   simp only [Act.put,List.setIfInBounds_toArray,List.set_cons_zero,List.set_cons_succ];refine wpAnyH_ready (rs:=[0,17]) (by kernel_rfl) (by simp) ?_;refine AllReadyH.cons rfl (fun K hK=>?_) (AllReadyH.cons rfl (fun K hK=>?_) AllReadyH.nil)
   ·go_simp
    refine hK.out _ _ (hF6.mono (fun _=>False.elim)) (fun hHeld=>?_);clear hK K;refine wpAnyH_ready (rs:=[17]) (by kernel_rfl) (by simp) ?_;refine AllReadyH.cons rfl (fun K hK=>?_) AllReadyH.nil;go_simp
    refine hK.out _ _ ((Fr.alloc hF6 _).mono (fun _=>False.elim)) (fun hHeld=>?_);clear hK K;have hrow6:=hF6.owns hrow5 (fun _ _=>id);have hs6:=hF6.size;refine wpAnyH_ready (rs:=[18]) (by kernel_rfl) (by simp) ?_;refine AllReadyH.cons rfl (fun K hK=>?_) AllReadyH.nil;refine step_append_lies _ rfl _ _ 43 rfl w.heap.size 48 i0 _ 10 80 Tryz.underlying43 hi hz0 hz1 hz2 rfl (by decide) v pre.length _ rfl (World.ownsRow.alloc hrow6 _) ⟨W6.heap.size,0,none⟩ 1 1 [.int .i64 x.1.node,.int .i64 x.1.index,.int .i64 c.told.1,.int .i64 c.told.2.1,.int .i64 c.told.2.2.1,.int .i64 c.told.2.2.2.1,.int .i64 c.told.2.2.2.2.1,.int .i64 c.told.2.2.2.2.2,.int .i64 p0,.int .i64 p1] rfl rfl (dg _ _ _) (by rw [<- hvals];exact ov.one _) (by decide) (by unfold maxLen;omega) (by omega) (by simp only [World.size_alloc];omega) (W6.heap.size+1) (by simp) ?_;intro g cap' W8 hown hgrow hat hlt8;have hF8:Fr W5 W8 (fun k=>v.ownBlock=some k\/k=w.heap.size+1):=((Fr.alloc hF6 _).mono (fun _=>False.elim)).grown hgrow (fun k hk=>.inl (.inl hk))
    have nA:v.ownBlock≠some (w.heap.size+1):=nrow bA5 (by decide);have bA8:W8.heap[w.heap.size+1]?=some (.cells #[v] 43 (0,0)):=by
     have h6:W6.heap[w.heap.size+1]?=some (.cells #[v] 43 (0,0)):=hF6.same bA5 id;have h7:=((Fr.refl W6 (fun _=>False)).alloc (.cells #[.int .i64 x.1.node,.int .i64 x.1.index,.int .i64 c.told.1,.int .i64 c.told.2.1,.int .i64 c.told.2.2.1,.int .i64 c.told.2.2.2.1,.int .i64 c.told.2.2.2.2.1,.int .i64 c.told.2.2.2.2.2,.int .i64 p0,.int .i64 p1] 48)).same h6 id;rw [hgrow.block _ (Array.getElem?_eq_some_iff.1 h7).1 (fun e=>nA e.symm)];exact h7
    have gA:g≠w.heap.size+1:=by
     rcases hat with e | e
     ·exact fun e2=>nA (e2▸e)
     ·have:=bA1.lt;omega
    refine hK.out _ _ hF8 (fun hHeld=>?_);clear hK K;have cA8:=aa (o:=0) bA8 rfl;have zA8:W8.frozen? ⟨w.heap.size+1,0,none⟩=false:=ab bA8;simp only [Act.put,List.setIfInBounds_toArray,List.set_cons_zero,List.set_cons_succ];refine wpAnyH_ready (rs:=[19]) (by kernel_rfl) (by simp) ?_;refine AllReadyH.cons rfl (fun K hK=>?_) AllReadyH.nil;go_simp
    have hF9:=Fr.setCell (S:=fun k=>v.ownBlock=some k\/k=w.heap.size+1) hF8 (.inl (.inr rfl)) 0 (.slice (some ⟨g,0,none⟩) (pre.length+1) cap');refine hK.out _ _ hF9 (fun hHeld=>?_);clear hK K hHeld;refine wpAnyH_done (by kernel_rfl) ?_ _;have bA9:=ak W8 (w.heap.size+1) 0 (.slice (some ⟨g,0,none⟩) (pre.length+1) cap') bA8;have ro9:=(Fr.set1 W8 (w.heap.size+1) 0 (.slice (some ⟨g,0,none⟩) (pre.length+1) cap')).owns hown (fun k hk e=>by cases hk;exact gA e);generalize W8.setCell ⟨w.heap.size+1,0,none⟩ (.slice (some ⟨g,0,none⟩) (pre.length+1) cap')=W9 at hF9 bA9 ro9;have hFW:Fr W W9 (fun k=>v.ownBlock=some k\/k=w.heap.size+1):=(hF5.mono (fun _=>False.elim)).step hF9 (fun k hk=>.inl hk);exact ae1 V kb w pre x v hrow bA1 bK1 hB1 hFW bA9 (by rw [List.length_append];exact ro9) hvals
   ·skip
    go_simp
    refine hK.out _ _ ((Fr.alloc hF6 _).mono (fun _=>False.elim)) (fun hHeld=>?_);clear hK K;refine wpAnyH_ready (rs:=[0]) (by kernel_rfl) (by simp) ?_;refine AllReadyH.cons rfl (fun K hK=>?_) AllReadyH.nil;have cA7:∀o,(W6.alloc o).cell? ⟨w.heap.size+1,0,none⟩=some v:=fun o=>((Fr.refl W6 (fun _=>False)).alloc o).cell cA6 id
    go_simp
    refine hK.out _ _ ((Fr.alloc hF6 _).mono (fun _=>False.elim)) (fun hHeld=>?_);clear hK K;have hrow6:=hF6.owns hrow5 (fun _ _=>id);have hs6:=hF6.size;refine wpAnyH_ready (rs:=[18]) (by kernel_rfl) (by simp) ?_;refine AllReadyH.cons rfl (fun K hK=>?_) AllReadyH.nil;refine step_append_lies _ rfl _ _ 43 rfl w.heap.size 48 i0 _ 10 80 Tryz.underlying43 hi hz0 hz1 hz2 rfl (by decide) v pre.length _ rfl (World.ownsRow.alloc hrow6 _) ⟨W6.heap.size,0,none⟩ 1 1 [.int .i64 x.1.node,.int .i64 x.1.index,.int .i64 c.told.1,.int .i64 c.told.2.1,.int .i64 c.told.2.2.1,.int .i64 c.told.2.2.2.1,.int .i64 c.told.2.2.2.2.1,.int .i64 c.told.2.2.2.2.2,.int .i64 p0,.int .i64 p1] rfl rfl (dg _ _ _) (by rw [<- hvals];exact ov.one _) (by decide) (by unfold maxLen;omega) (by omega) (by simp only [World.size_alloc];omega) (W6.heap.size+1) (by simp) ?_;intro g cap' W8 hown hgrow hat hlt8;have hF8:Fr W5 W8 (fun k=>v.ownBlock=some k\/k=w.heap.size+1):=((Fr.alloc hF6 _).mono (fun _=>False.elim)).grown hgrow (fun k hk=>.inl (.inl hk))
    have nA:v.ownBlock≠some (w.heap.size+1):=nrow bA5 (by decide);have bA8:W8.heap[w.heap.size+1]?=some (.cells #[v] 43 (0,0)):=by
     have h6:W6.heap[w.heap.size+1]?=some (.cells #[v] 43 (0,0)):=hF6.same bA5 id;have h7:=((Fr.refl W6 (fun _=>False)).alloc (.cells #[.int .i64 x.1.node,.int .i64 x.1.index,.int .i64 c.told.1,.int .i64 c.told.2.1,.int .i64 c.told.2.2.1,.int .i64 c.told.2.2.2.1,.int .i64 c.told.2.2.2.2.1,.int .i64 c.told.2.2.2.2.2,.int .i64 p0,.int .i64 p1] 48)).same h6 id;rw [hgrow.block _ (Array.getElem?_eq_some_iff.1 h7).1 (fun e=>nA e.symm)];exact h7
    have gA:g≠w.heap.size+1:=by
     rcases hat with e | e
     ·exact fun e2=>nA (e2▸e)
     ·have:=bA1.lt;omega
    refine hK.out _ _ hF8 (fun hHeld=>?_);clear hK K;have cA8:=aa (o:=0) bA8 rfl;have zA8:W8.frozen? ⟨w.heap.size+1,0,none⟩=false:=ab bA8;simp only [Act.put,List.setIfInBounds_toArray,List.set_cons_zero,List.set_cons_succ];refine wpAnyH_ready (rs:=[19]) (by kernel_rfl) (by simp) ?_;refine AllReadyH.cons rfl (fun K hK=>?_) AllReadyH.nil;go_simp
    have hF9:=Fr.setCell (S:=fun k=>v.ownBlock=some k\/k=w.heap.size+1) hF8 (.inl (.inr rfl)) 0 (.slice (some ⟨g,0,none⟩) (pre.length+1) cap');refine hK.out _ _ hF9 (fun hHeld=>?_);clear hK K hHeld;refine wpAnyH_done (by kernel_rfl) ?_ _;have bA9:=ak W8 (w.heap.size+1) 0 (.slice (some ⟨g,0,none⟩) (pre.length+1) cap') bA8;have ro9:=(Fr.set1 W8 (w.heap.size+1) 0 (.slice (some ⟨g,0,none⟩) (pre.length+1) cap')).owns hown (fun k hk e=>by cases hk;exact gA e);generalize W8.setCell ⟨w.heap.size+1,0,none⟩ (.slice (some ⟨g,0,none⟩) (pre.length+1) cap')=W9 at hF9 bA9 ro9;have hFW:Fr W W9 (fun k=>v.ownBlock=some k\/k=w.heap.size+1):=(hF5.mono (fun _=>False.elim)).step hF9 (fun k hk=>.inl hk);exact ae1 V kb w pre x v hrow bA1 bK1 hB1 hFW bA9 (by rw [List.length_append];exact ro9) hvals
 case done=>
  rintro D ys W hD hys ⟨⟨⟨v,bA1,hrow,_⟩,bK1⟩,hB1⟩ hK;have cA:=bA1.cell;have hly:ys.length=G.slots.length:=by rw [<- hys];simp
  have hrw:sf (ys.map fun s=>pu V.ker s.1)=sf (G.slots.map (pu V.ker)):=by rw [<- hys,List.map_map];rfl
  rw [hrw,hly] at hrow;gi_wp2
  refine ⟨by simp,.inl ⟨_,_,rfl,run_takeDeferred hK,?_⟩⟩;refine ⟨_,results_tmp rfl _ _ _,v,rfl,ownsRow_putObj hrow _ hK rfl,?_⟩;have hB2:=hB1.trans (belowK_b (w:=w) (Nat.le_refl _) W D _ (.deferred none) (by omega) hK rfl rfl);exact ⟨hB2.os,hB2.tape,hB2.output,hB2.size,fun k hk _=>hB2.block k hk⟩
 case stop=>
  rintro D c pre W _ _ h _;exact h.elim
end Go.Proofs.YtdpjgflemddekaaGreatDoor

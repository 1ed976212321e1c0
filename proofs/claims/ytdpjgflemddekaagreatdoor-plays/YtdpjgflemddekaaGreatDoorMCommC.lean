/- A region that draws its order and ends in a communication that waits for all the others. Nothing of the program's text. -/
import Derived.Test.YtdpjgflemddekaaGreatDoorMEndpA
import Derived.Deep.Quiet
set_option maxRecDepth 100000
set_option maxHeartbeats 2000000
namespace Go.Proofs.YtdpjgflemddekaaGreatDoor
open Go.RowKit Go.Conc
section
variable {P:Program} {ops:Array Oper} {Q:Exit->Act->World->Prop} {C:World->Prop}
theorem am9 (md:Region.Mode)(fuel t:Nat)(listed:Array Bool):Region.linearise.go md ops (fuel+1) t listed [] =
 match (Region.ready md ops listed)[t % (Region.ready md ops listed).length]? with
 | some i=>i :: Region.linearise.go md ops fuel (t / (Region.ready md ops listed).length) (listed.setIfInBounds i true) []
 | none=>[]:=by
 simp only [Region.linearise.go];change (match (Region.ready md ops listed)[t % (Region.ready md ops listed).length]? with
  | some i=>Region.linearise.go md ops fuel (t / (Region.ready md ops listed).length) (listed.setIfInBounds i true) [i]
  | none=>[].reverse)=_
 cases (Region.ready md ops listed)[t % (Region.ready md ops listed).length]? with
 | none=>rfl
 | some i=>simp only;rw [linearise_go_acc];rfl
theorem b2_ (md:Region.Mode)(fuel t:Nat)(listed:Array Bool)(h:Region.ready md ops listed=[]):Region.linearise.go md ops fuel t listed []=[]:=by
 cases fuel with
 | zero=>rfl
 | succ fuel=>rw [am9,h];rfl
theorem j5.q {i:Nat}{rest:List Nat}{a:Act}{w:World}{K:Act->Prop}(h:qOp P ops C i K a)(hw:C w)(hK:∀a' w',C w'->K a'->j5 P ops Q rest a' w'):j5 P ops Q (i :: rest) a w:=by
 unfold qOp at h;cases ho:ops[i]? with
 | none=>
  simp only [ho] at h;refine j5.of_step (fun b k cs=>?_) (hK a w hw h);have hs:=step_op_skip (P:=P) (b:=b) (a:=a) (k:=k) (cs:=cs) (w:=w) (ops:=ops) (i:=i) (rest:=rest) (by simp [ho]);simp only [ho,Option.bind_none,Act.put] at hs;exact hs
 | some o=>
  simp only [ho] at h;by_cases hwn:Region.wanted o (yielded ops a.tmps)=true
  ·simp only [hwn,if_true] at h;obtain ⟨v,hq,hn⟩:=h;have h1:=hq w hw;unfold Oper.quietAt at h1;cases hr:(execOp a.eval o).run P w with
   | halt x w'=>rw [hr] at h1;exact h1.elim
   | ok nx w'=>
    rw [hr] at h1;have hfin:∀(b:Frame) (k:List Item) v,(b.at a (.inRegion ops (i :: rest) :: k)).finish v=b.at (a.put o.dst v) (.inRegion ops rest :: k):=by
     intro b k v;rw [Frame.finish_at,ho];rfl
    cases nx with
    | value u=>
     obtain ⟨rfl,rfl⟩:=h1;exact j5.value ho hwn hr (hK _ _ hw hn)
    | skip=>
     obtain ⟨rfl,rfl⟩:=h1;refine j5.of_step (fun b k cs=>?_) (hK _ _ hw hn);exact step_lone_go (by rw [stepG_op ho hwn,<- hfin];simp [stepG.apply,hr])
    | enter f args=>
     obtain ⟨rfl,hc⟩:=h1;intro b k cs;have hg:=stepG_op (P:=P) (b:=b) (k:=k) (cs:=cs) (w:=w') (rest:=rest) ho hwn;obtain ⟨e,w'',fr,hR,hsteps,_,hleave⟩:=hc (b.at a (.inRegion ops (i :: rest) :: k) :: cs);obtain ⟨rfl,hC⟩:=hR;have henter:step P (lone (b.at a (.inRegion ops (i :: rest) :: k)) cs w')=.next (lone (Frame.enter P f args .normal) (b.at a (.inRegion ops (i :: rest) :: k) :: cs) w'):=
      step_lone_go (by rw [hg];simp [stepG.apply,hr,Frame.at])
     obtain ⟨e,a',w₃,hq',harr⟩:=hK _ _ hC hn b k cs;refine ⟨e,a',w₃,hq',.of_steps (.head henter (hsteps.trans (.one ?_))) harr⟩;rw [<- hfin];exact step_leave_returned hleave
    | _=>exact h1.elim
  ·simp only [hwn] at h;refine j5.of_step (fun b k cs=>?_) (hK _ w hw h);have hs:=step_op_skip (P:=P) (b:=b) (a:=a) (k:=k) (cs:=cs) (w:=w) (ops:=ops) (i:=i) (rest:=rest) (by simp [ho,hwn]);simp only [ho,Option.bind_some] at hs;exact hs
def an7 (ops:Array Oper)(c j:Nat):Bool:=match ops[c]? with
 | none=>false
 | some o=>o.after.any (fun e=>Region.binds .any e && e.on==j)
def tj (l:List Oper)(o:Oper):Bool:=
 (List.range (l.length+1)).all (fun i=>match (l++[o])[i]? with
   | none=>true
   | some x=>x.after.all (fun e=>decide (e.on<i))) &&
 (List.range l.length).all (fun j=>(List.range (l.length+1)).any (fun c=>decide (j<c) && an7 (l++[o]).toArray c j)) &&
 l.all (fun x=>x.guard.isNone)
structure bo5 (ops:Array Oper)(L:Array Bool):Prop where
 h:∀c j,L.getD c false=true->an7 ops c j=true->L.getD j false=true
variable {l:List Oper} {o:Oper}
theorem bx8 (L:Array Bool)(j:Nat)(d:Bool)(h:j<L.size):(L.push false).getD j d=L.getD j d:=by
 simp [Array.getD_eq_getD_getElem?,Array.getElem?_push,Nat.ne_of_lt h]
theorem vp (L:Array Bool)(j:Nat):(L.push false).getD j false=L.getD j false:=by
 simp only [Array.getD_eq_getD_getElem?,Array.getElem?_push];by_cases e:j=L.size
 ·simp [e]
 ·simp [e]
theorem aw6 (j:Nat)(h:j<l.length):((l++[o]).toArray)[j]?=(l.toArray)[j]?:=by simp [List.getElem?_append_left h]
theorem a28:((l++[o]).toArray)[l.length]?=some o:=by simp
theorem yv {L:Array Bool}(hL:L.size=l.length){j:Nat}(hj:j<l.length):j∈Region.ready .any (l++[o]).toArray (L.push false) ↔ j∈Region.ready .any l.toArray L:=by
 rw [mem_ready,mem_ready,bx8 L j true (by omega),aw6 j hj];constructor
 ·rintro ⟨h1,x,h2,h3⟩;exact ⟨h1,x,h2,fun e he hb=>by rw [<- vp];exact h3 e he hb⟩
 ·rintro ⟨h1,x,h2,h3⟩;exact ⟨h1,x,h2,fun e he hb=>by rw [vp];exact h3 e he hb⟩
theorem aj6 {L:Array Bool}(hL:L.size=l.length):l.length∈Region.ready .any (l++[o]).toArray (L.push false) ↔ ∀e∈o.after,Region.binds .any e=true->L.getD e.on false=true:=by
 rw [mem_ready,a28];have h1:(L.push false).getD l.length true=false:=by rw [<- hL];simp [Array.getD_eq_getD_getElem?]
 constructor
 ·rintro ⟨_,x,h2,h3⟩ e he hb;cases h2;rw [<- vp];exact h3 e he hb
 ·intro h;exact ⟨h1,o,rfl,fun e he hb=>by rw [vp];exact h e he hb⟩
theorem us {L:Array Bool}{j:Nat}(h:j∈Region.ready .any ops L):j<ops.size:=by
 obtain ⟨_,x,h2,_⟩:=mem_ready.1 h;exact (Array.getElem?_eq_some_iff.1 h2).1
theorem a17 {L:Array Bool}(hL:L.size=l.length)(hk:tj l o=true)(h:Region.ready .any l.toArray L=[]):∀j,j<l.length->L.getD j false=true:=by
 intro j;induction j using Nat.strongRecOn with
 | ind j ih=>
  intro hj;cases hv:L.getD j false with
  | true=>rfl
  | false=>
   exfalso
   simp only [tj,Bool.and_eq_true,List.all_eq_true,List.mem_range] at hk;have h1:=hk.1.1 j (by omega);have h2:(l++[o])[j]?=some l[j]:=by rw [List.getElem?_append_left hj];simp [hj]
   rw [h2] at h1;simp only [Array.all_eq_true_iff_forall_mem,decide_eq_true_eq] at h1;have:j∈Region.ready .any l.toArray L:=by
    rw [mem_ready];refine ⟨?_,l[j],by simp [hj],fun e he _=>?_⟩
    ·have hlt:j<L.size:=by omega
     simp [Array.getD_eq_getD_getElem?,hlt] at hv ⊢;exact hv
    ·exact ih e.on (h1 e he) (by have:=h1 e he;omega)
   rw [h] at this;cases this
theorem ay8 {L:Array Bool}(hL:L.size=l.length)(hk:tj l o=true)(hs:bo5 l.toArray L)(h:l.length∈Region.ready .any (l++[o]).toArray (L.push false)):∀k j,l.length-k<=j->j<l.length->L.getD j false=true:=by
 intro k;induction k with
 | zero=>intro j h1 h2;omega
 | succ k ih=>
  intro j h1 h2;by_cases hj:l.length-k<=j
  ·exact ih j hj h2
  ·simp only [tj,Bool.and_eq_true,List.all_eq_true,List.any_eq_true,List.mem_range,decide_eq_true_eq] at hk;obtain ⟨c,hc,hjc,hw⟩:=hk.1.2 j h2;by_cases e:c=l.length
   ·subst e;unfold an7 at hw;rw [a28] at hw;simp only [Array.any_eq_true',Bool.and_eq_true,beq_iff_eq] at hw;obtain ⟨x,hx,hb,rfl⟩:=hw;exact aj6 hL |>.1 h x hx hb
   ·have hcl:c<l.length:=by omega
    have hcv:=ih c (by omega) hcl;refine hs.h c j hcv ?_;unfold an7 at hw ⊢;rw [aw6 c hcl] at hw;exact hw
theorem a01 {L:Array Bool}(h:∀j,j<l.length->L.getD j false=true)(hL:L.size=l.length):Region.ready .any l.toArray L=[]:=by
 apply List.eq_nil_iff_forall_not_mem.2;intro j hj;have h1:=us hj;simp at h1;have h2:=(mem_ready.1 hj).1;have h3:=h j h1;have hlt:j<L.size:=by omega
 simp [Array.getD_eq_getD_getElem?,hlt] at h2 h3;rw [h3] at h2;cases h2
theorem bq5 (L:Array Bool){i:Nat}(hi:i<L.size):(L.push false).setIfInBounds i true=(L.setIfInBounds i true).push false:=by
 apply Array.ext_getElem?;intro j;simp only [Array.getElem?_setIfInBounds,Array.getElem?_push,Array.size_push,Array.size_setIfInBounds];by_cases e:i=j
 ·subst e;simp [hi,Nat.ne_of_lt hi,Nat.lt_succ_of_lt hi]
 ·simp [e]
theorem bo5.set {L:Array Bool}(h:bo5 ops L){i:Nat}(hi:i∈Region.ready .any ops L)(hs:ops.size=L.size):bo5 ops (L.setIfInBounds i true):=by
 have hlt:i<L.size:=by have:=us hi;omega
 have key:∀j,(L.setIfInBounds i true).getD j false=true ↔ j=i\/L.getD j false=true:=by
  intro j;simp only [Array.getD_eq_getD_getElem?,Array.getElem?_setIfInBounds];by_cases e:i=j
  ·subst e;simp [hlt]
  ·simp [e,Ne.symm e]
 refine ⟨fun c j hc hw=>?_⟩
 rw [key] at hc ⊢;rcases hc with rfl | hc
 ·obtain ⟨_,x,h2,h3⟩:=mem_ready.1 hi;unfold an7 at hw;rw [h2] at hw;simp only [Array.any_eq_true',Bool.and_eq_true,beq_iff_eq] at hw;obtain ⟨e,he,hb,rfl⟩:=hw;exact .inr (h3 e he hb)
 ·exact .inr (h.h c j hc hw)
theorem bv3 {i:Nat}(hk:tj l o=true)(hi:i<l.length){K:Act->Prop}{a:Act}(h:qOp P l.toArray C i K a):qOp P (l++[o]).toArray C i K a:=by
 unfold qOp at *
 rw [aw6 i hi];have hx:(l.toArray)[i]?=some l[i]:=by simp [hi]
 simp only [hx] at h ⊢;simp only [tj,Bool.and_eq_true,List.all_eq_true] at hk;have hg:=hk.2 l[i] (List.getElem_mem hi);have hgn:l[i].guard=none:=by simpa using hg
 have h1:∀y,Region.wanted l[i] y=true:=fun y=>by unfold Region.wanted;rw [hgn]
 rw [h1,if_pos rfl] at h ⊢;exact h
theorem b62 {QA:Act->Prop}(hk:tj l o=true)(hend:∀a w,C w->QA a->j5 P (l++[o]).toArray Q [l.length] a w):∀(fuel t:Nat) (L:Array Bool) (a:Act) (w:World),L.size=l.length->bo5 l.toArray L->C w->wpAnyQ P .any l.toArray C QA fuel L a->
 j5 P (l++[o]).toArray Q (Region.linearise.go .any (l++[o]).toArray (fuel+1) t (L.push false) []) a w:=by
 -- where nothing but the last one is left
 have hfin:∀(fuel t:Nat) (L:Array Bool) (a:Act) (w:World),L.size=l.length->C w->Region.ready .any l.toArray L=[]->QA a->
  j5 P (l++[o]).toArray Q (Region.linearise.go .any (l++[o]).toArray (fuel+1) t (L.push false) []) a w:=by
  intro fuel t L a w hL hw h0 hq;have hall:=a17 hL hk h0;have hr:Region.ready .any (l++[o]).toArray (L.push false)=[l.length]:=by
   have hmem:∀j,j∈Region.ready .any (l++[o]).toArray (L.push false) ↔ j=l.length:=by
    intro j;constructor
    ·intro hj;have:=us hj;simp at this;by_cases e:j<l.length
     ·rw [yv hL e,h0] at hj;cases hj
     ·omega
    ·rintro rfl;rw [aj6 hL];intro e he _;simp only [tj,Bool.and_eq_true,List.all_eq_true,List.mem_range] at hk;have h1:=hk.1.1 l.length (by omega);have h2:(l++[o])[l.length]?=some o:=by simp
     rw [h2] at h1;simp only [Array.all_eq_true_iff_forall_mem,decide_eq_true_eq] at h1;exact hall _ (h1 e he)
   have hnd:(Region.ready .any (l++[o]).toArray (L.push false)).Nodup:=by
    unfold Region.ready;exact List.filter_sublist.nodup List.nodup_range
   generalize Region.ready .any (l++[o]).toArray (L.push false)=rs at hmem hnd;cases rs with
   | nil=>have:=(hmem l.length).2 rfl;cases this
   | cons x xs=>
    have hx:=(hmem x).1 (by simp);subst hx;cases xs with
    | nil=>rfl
    | cons y ys=>
     have hy:=(hmem y).1 (by simp);subst hy;simp at hnd
  rw [am9,hr];simp only [List.length_singleton,Nat.mod_one,List.getElem?_cons_zero];rw [b2_]
  ·exact hend a w hw hq
  ·apply List.eq_nil_iff_forall_not_mem.2;intro j hj;have h1:=us hj;simp at h1;have h2:=(mem_ready.1 hj).1;simp only [Array.getD_eq_getD_getElem?,Array.getElem?_setIfInBounds,Array.getElem?_push,Array.size_push] at h2;by_cases e:l.length=j
   ·simp [e,hL] at h2
   ·have hlt:j<l.length:=by omega
    have h3:=hall j hlt;have hl2:j<L.size:=by omega
    rw [if_neg e,if_neg (by omega:¬j=L.size),Array.getElem?_eq_getElem hl2] at h2;rw [Array.getD_eq_getD_getElem?,Array.getElem?_eq_getElem hl2] at h3;simp only [Option.getD_some] at h2 h3;rw [h3] at h2;cases h2
 intro fuel;induction fuel with
 | zero=>intro t L a w hL _ hw h;exact hfin 0 t L a w hL hw h.1 h.2
 | succ fuel ih=>
  intro t L a w hL hs hw h;by_cases h0:Region.ready .any l.toArray L=[]
  ·exact hfin (fuel+1) t L a w hL hw h0 (h.1 h0)
  ·rw [am9];cases hi:(Region.ready .any (l++[o]).toArray (L.push false))[t % (Region.ready .any (l++[o]).toArray (L.push false)).length]? with
   | none=>
    exfalso
    obtain ⟨j,hj⟩:∃j,j∈Region.ready .any l.toArray L:=by
     cases hr:Region.ready .any l.toArray L with
     | nil=>exact absurd hr h0
     | cons x xs=>exact ⟨x,by simp⟩
    have hjl:=us hj;simp at hjl;have hj2:=(yv (o:=o) hL hjl).2 hj;rw [List.getElem?_eq_none_iff] at hi;have hpos:0<(Region.ready .any (l++[o]).toArray (L.push false)).length:=List.length_pos_of_mem hj2;have:=Nat.mod_lt t hpos;omega
   | some i=>
    simp only;have hm:=List.mem_of_getElem? hi;have hil:i<l.length:=by
     have h1:=us hm;simp at h1;by_cases e:i=l.length
     ·subst e;exact absurd (a01 (fun j hj=>ay8 hL hk hs hm l.length j (by omega) hj) hL) h0
     ·omega
    have hm2:=(yv hL hil).1 hm;rw [bq5 L (by omega)];exact j5.q (bv3 hk hil (h.2 i hm2)) hw (fun a' w' hw' hK=>ih _ _ a' w' (by simpa using hL) (hs.set hm2 (by simpa using hL.symm)) hw' hK)
theorem ai7 {id:Nat}{a:Act}{w:World}(hm:P.follows .mixedOrders=true)(hB:Region.lexB .any l.toArray=true)(hk:tj l o=true)(hC:C {w with drawn:=w.drawn+1})
 (h:wpQuiet P l.toArray C (fun a'=>∀w',C w'->j5 P (l++[o]).toArray Q [l.length] a' w') l a):(Code.region id (l++[o]).toArray true).wp P Q a w:=by
 intro b k cs;have hq:=wpAnyQ_lex (C:=C) (md:=.any) (P:=P) (Q:=fun a'=>∀w',C w'->j5 P (l++[o]).toArray Q [l.length] a' w') (ops:=l.toArray) (by simp only [Region.lexB,Bool.and_eq_true] at hB;exact hB.1) l 0 (Array.replicate l.length false) a (by simp) (by
  simp only [Region.lexB,Bool.and_eq_true] at hB;simpa using hB.2) h
 have hshut:bo5 l.toArray (Array.replicate l.length false):=⟨fun c j hc _=>by simp [Array.getD_eq_getD_getElem?,Array.getElem?_replicate] at hc;split at hc<;>simp at hc⟩
 have hrep:(Array.replicate (l++[o]).toArray.size false)=(Array.replicate l.length false).push false:=by simp [Array.replicate_succ]
 have key:∀t,j5 P (l++[o]).toArray Q (Region.schedule (P.follows .mixedOrders) (l++[o]).toArray t) a {w with drawn:=w.drawn+1}:=fun t=>by
  simp only [Region.schedule,hm,Bool.true_or,if_true,Region.linearise];rw [hrep];have:=b62 (Q:=Q) hk (QA:=fun a'=>∀w',C w'->j5 P (l++[o]).toArray Q [l.length] a' w') (fun a w hw hq=>hq w hw) l.length t (Array.replicate l.length false) a {w with drawn:=w.drawn+1} (by simp) hshut hC hq
  simpa using this
 obtain ⟨e,a',w',hq',harr⟩:=key _ b k cs;exact ⟨e,a',w',hq',.of_steps (.one step_region_draw) harr⟩
theorem rj {id:Nat}{a:Act}{w:World}{L:List Oper}{x:Oper}(hx:L=L.dropLast++[x])(hm:P.follows .mixedOrders=true)(hB:Region.lexB .any L.dropLast.toArray=true)(hk:tj L.dropLast x=true)
 (h:wpQuiet P L.dropLast.toArray (fun w'=>∃n,w'=w.drewN n) (fun a'=>∀w',(∃n,w'=w.drewN n)->j5 P L.toArray Q [L.dropLast.length] a' w') L.dropLast a):(Code.region id L.toArray true).wp P Q a w:=by
 generalize hd:L.dropLast=l at *
 subst hx;exact ai7 (C:=fun w'=>∃n,w'=w.drewN n) hm hB hk ⟨1,rfl⟩ h
end
theorem KD.setQ {w w':World}{kb:Nat}{S:KS}{V:ah}(h:KD w kb S V){b:Int}{q:Nat×Nat}(hq:am b V.Q=some q){l1 l2:List dx}(hf:Fr w w' (fun k=>k=q.1\/k=q.2))(h1:lr w' q.1 l1)(h2:lr w' q.2 l2):
 KD w' kb ⟨Proofs.YtdpjgflemddekaaGreatDoor.setQ S.K b (l1,l2),S.D⟩ {V with C:=fun c=>if c=q.1 then l1 else if c=q.2 then l2 else V.C c}:=by
 have hX:∀k,(k=q.1\/k=q.2)->lh V.Q k:=fun k e=>⟨b,q,hq,e⟩
 have hr:=h.ker.rest.put hq hf h1 h2;refine ⟨h.ker.putC hf hX hr,?_,hf.owns h.d (fun k hk e=>h.ap k hk (.inr (.inr (.inr (.inr (.inr (.inr (hX k e)))))))),h.ap⟩
 rw [<- h.eq];simp only [ah.ker,Proofs.YtdpjgflemddekaaGreatDoor.setQ,a_.mk.injEq,true_and];funext e;by_cases he:e=b
 ·subst he;rw [ai,hq];have:=h.ker.rest.two e q hq;simp [Ne.symm this]
 ·rw [ae _ _ he];cases hp:am e V.Q with
  | none=>rfl
  | some p=>
   obtain ⟨a1,a2,a3,a4⟩:=h.ker.rest.apart e p b q hp hq he;simp [a1,a2,a3,a4]
theorem cm.findE {S:KS}(h:cm S){root:Int}{c:Cl}{right b g:Int}(hf:Proofs.YtdpjgflemddekaaGreatDoor.findE S.K root c right=some (0,b,g)):∃y,S.K.qs b=some y:=by
 unfold Proofs.YtdpjgflemddekaaGreatDoor.findE at hf;cases hk:az S.K root c.at_ with
 | none=>rw [hk] at hf;cases hf
 | some s=>
  rw [hk] at hf;simp only at hf;split at hf
  ·rename_i b' n r g' e;split at hf
   ·cases hf
   ·cases hf;exact h.hen _ _ _ _ _ e
  ·cases hf
theorem cm.roomQ {S:KS}(h:cm S){x:Int}{t:oz}(ht:S.K.thr x=some t)(hs:t.state=1){b:Int}{y:List dx×List dx}(hb:S.K.qs b=some y):y.1.length<64/\y.2.length<64:=by
 obtain ⟨R,h⟩:=h;have h1:=(h.q.room h.core ht hs).2;rw [h.q.qs b y hb];exact ⟨Nat.lt_of_le_of_lt (ac8 _ _ _) h1,Nat.lt_of_le_of_lt (ac8 _ _ _) h1⟩
theorem vf (n:Int)(w:World):
 Calls Tryz.prog 74 #[.int .i64 n] w fun e w'=>e=.returned (.bool (decide (0<=n/\n<=4294967295)))/\w'=w:=by
 by_cases h0:0<=n
 ·by_cases h1:n<=4294967295
  ·have d0:decide (0<=n)=true:=by simpa using h0
   have d1:decide (n<=4294967295)=true:=by simpa using h1
   have d2:decide (0<=n/\n<=4294967295)=true:=by simpa using And.intro h0 h1
   rw [d2];clear d2 h0 h1;go_enter Tryz.func74,Tryz.ntmps74
   go_wp2;go_ret;exact ⟨rfl,rfl⟩
  ·have d0:decide (0<=n)=true:=by simpa using h0
   have d1:decide (n<=4294967295)=false:=by simpa using h1
   have d2:decide (0<=n/\n<=4294967295)=false:=decide_eq_false (fun e=>h1 e.2);rw [d2];clear d2 h0 h1;go_enter Tryz.func74,Tryz.ntmps74
   go_wp2;go_ret;exact ⟨rfl,rfl⟩
 ·have d0:decide (0<=n)=false:=by simpa using h0
  have d2:decide (0<=n/\n<=4294967295)=false:=decide_eq_false (fun e=>h0 e.1);rw [d2];clear d2 h0;go_enter Tryz.func74,Tryz.ntmps74
  go_wp2;go_ret;exact ⟨rfl,rfl⟩
theorem bu4 (kb ub:Nat)(S:KS)(V:ah)(c:Cl)(av tv:Value)(th root:Int)(bv:Value)(w:World)(h:s5 w kb ub S V c av tv bv th root){t:oz}(ht:S.K.thr th=some t)(hs:t.state=1):
 Calls Tryz.prog 40 #[.pointer (some ⟨ub,0,none⟩)] w fun e w'=>a90 w kb V ((dj S.K (mg S.K th root c)).1,{S with K:=(dj S.K (mg S.K th root c)).2}) e w':=by
 have hfe:=ag0 V kb ub c av tv _ th root 2 w h.call;rw [h.kd.kd.eq] at hfe;generalize hR:mg S.K th root c=r;have HR:Hid (mg S.K th root c=r):=hR;clear hR;have k0:=h.turn.ck;have k9:=h.turn.cvalue;have kt:w.cell? ⟨ub,11,none⟩=some (.int .i64 th):=aa h.turn rfl;cases hfi:findE S.K root c 2 with
 | none=>
  have hr:Hid (r=none):=by show _=_;rw [<- HR.out];unfold mg;rw [hfi]
  rw [hfi] at hfe;simp only [al_] at hfe;clear HR hfi;go_enter Tryz.func40,Tryz.ntmps40
  go_wp2_with ((go_at_call 73;refine hfe.mono ?_;rintro e W1 ⟨rfl,hf1⟩;unfold gup))
  exact ⟨rfl,.inr (by rw [hr.out];rfl),by rw [hr.out];exact h.kd.stay hf1⟩
 | some y=>
  obtain ⟨x,b,g⟩:=y;rw [hfi] at hfe;simp only [al_] at hfe;by_cases hx:x=0
  ·subst hx;by_cases hv:0<=c.value/\c.value<=4294967295
   ·have hr:Hid (r=some (0,sendAt S.K th c b g ((S.K.qs b).getD ([],[])))):=by show _=_;rw [<- HR.out];unfold mg;rw [hfi];simp only [ne_eq,not_true,if_false,if_pos hv]
    have hiw:=fun W=>vf c.value W
    rw [decide_eq_true hv] at hiw;obtain ⟨y,hy⟩:=h.good.findE hfi;obtain ⟨room1,room2⟩:=h.good.roomQ ht hs hy;clear HR;go_enter Tryz.func40,Tryz.ntmps40
    go_upto_region 6 with (first
     |(go_at_call 73;refine hfe.mono ?_;rintro e W1 ⟨⟨n1,q1,rfl⟩,hf1⟩;have hfa:Fr w (W1.alloc (.cells #[.int .i64 b,.int .i64 n1,.int .i64 q1,.int .i64 g] 122)) (fun _=>False):=hf1.alloc _;have r0:=hfa.cell k0 id;have r9:=hfa.cell k9 id)
     |(go_at_call 74;refine (hiw _).mono ?_;rintro e W2 ⟨rfl,rfl⟩))
    have hbe:=heap_alloc_new W1 (.cells #[.int .i64 b,.int .i64 n1,.int .i64 q1,.int .i64 g] 122);generalize W1.alloc (.cells #[.int .i64 b,.int .i64 n1,.int .i64 q1,.int .i64 g] 122)=W2 at hfa hbe r0 r9 ⊢;have hl2:W1.heap.size<W2.heap.size:=(Array.getElem?_eq_some_iff.1 hbe).1;have l1:=hf1.size;generalize hEB:W1.heap.size=eb at hbe hl2 l1 ⊢;clear hEB hf1 hfe hiw;have h2:=h.frame hfa;obtain ⟨q,hlq⟩:∃q,am b V.Q=some q:=by
     have hy2:=hy;rw [<- h.kd.kd.eq] at hy2;cases hl:am b V.Q with
     | none=>simp [ah.ker,hl] at hy2
     | some q=>exact ⟨q,rfl⟩
    have hyq:y=(V.C q.1,V.C q.2):=by
     have hy2:=hy;rw [<- h.kd.kd.eq] at hy2;simp [ah.ker,hlq] at hy2;exact hy2.symm
    subst hyq;obtain ⟨c1,c2⟩:=q;have hrl:∀W,Fr w W (fun _=>False)->(Instr.lookup 64 (.map (some V.qb)) (.int .i64 b) false).run Tryz.prog W=.ok (.agg #[.chan (some c1),.chan (some c2)]) W:=fun W hW=>by
     have:=(h.kd.kd.ker.frame hW (fun _ _=>id)).que.look_run (P:=Tryz.prog) ku Tryz.underlying64 (z:=.agg #[.chan none,.chan none]) (by kernel_rfl) b false;rw [hlq] at this;simpa only [ke,Bool.false_eq_true,if_false,iy,o_] using this
    have e0:=aa (o:=0) hbe rfl;have e3:=aa (o:=3) hbe rfl;have cq:=h2.kd.kd.ker.cq;have hd1:=hrl _ hfa.drew;have hd2:=hrl _ (hfa.alloc (.cells #[.chan none,.chan none] 125)).drew;have lk:=World.block_lt_of_cell? _ _ cq;have lu:=World.block_lt_of_cell? _ _ r0;go_cut [6,7] (fun v6 v7 wx=>v6=.pointer (some ⟨kb,0,none⟩)/\∃xb,v7=.pointer (some ⟨xb,0,none⟩)/\Fr W2 wx (fun _=>False)/\W2.heap.size<=xb/\wx.heap[xb]?=some (.cells #[.chan (some c1),.chan (some c2)] 125 (0,0)))
    case first=>
     go_region_held3 (fun w'=>w'.cell? ⟨ub,0,none⟩=some (.pointer (some ⟨kb,0,none⟩))/\w'.cell? ⟨kb,1029,none⟩=some (.map (some V.qb))/\w'.cell? ⟨eb,0,none⟩=some (.int .i64 b)) (go_keep) (fail)
     all_goals go_wp2
     all_goals go_meet
     all_goals exact ⟨rfl,W2.heap.size,rfl,((Fr.refl _ _).alloc _).drew,Nat.le_refl _,heap_alloc_new _ _⟩
    case rest=>
     obtain ⟨rfl,xb,rfl,hfc,hxb,hbx⟩:=hcut;clear hrl hd1 hd2 cq r0 r9;have hF:=hfa.step hfc (fun _=>False.elim);have h3:=h.frame hF;have hbe3:=hfc.same hbe id;obtain ⟨hc1,hc2⟩:=h3.kd.kd.ker.rest.chan b (c1,c2) hlq;have hc1':=hc1;have hc2':=hc2;obtain ⟨s1,t1,hcc1⟩:=hc1;obtain ⟨s2,t2,hcc2⟩:=hc2;simp only at hcc1 hcc2 hc1' hc2' room1 room2;have hne12:c1≠c2:=h3.kd.kd.ker.rest.two b (c1,c2) hlq;have x0:=aa (o:=0) hbx rfl;have x1:=aa (o:=1) hbx rfl;have d0:=h3.turn.ck;have d9:=h3.turn.cvalue;have d11:wc.cell? ⟨ub,11,none⟩=some (.int .i64 th):=aa h3.turn rfl;have g3:=aa (o:=3) hbe3 rfl;have HY:Hid (S.K.qs b=some (V.C c1,V.C c2)):=hy;have hk3:=h3.kd.kd;have hub:ub≠c1/\ub≠c2:=⟨fun e=>h3.ub (.inl (.inr (.inr (.inr (.inr (.inr (.inr ⟨b,_,hlq,.inl e⟩))))))),fun e=>h3.ub (.inl (.inr (.inr (.inr (.inr (.inr (.inr ⟨b,_,hlq,.inr e⟩)))))))⟩
     clear hfa hfc hbe hy e0 e3 h2 k0 k9 kt;go_upto_region 8 with fail
     cases hC:V.C c2 with
     | nil=>
      rw [hC] at hcc2 hc2';simp only [List.map_nil] at hcc2;refine j5.region (l:=[0,1,2]) rfl ?_;refine j5.sel_default (z:=.agg #[.int .i64 0,.int .i64 0,.int .i64 0]) rfl (by simp [go_sem]) (by simp [go_sem,rcase]) hcc2 ?_;refine j5.from 1 rfl ?_;simp only [List.drop_succ_cons,List.drop_zero,Act.put,List.setIfInBounds_toArray,goInt];go_upto_region 9 with fail
      refine rj rfl (by kernel_rfl) (by kernel_rfl) (by kernel_rfl) ?_;dsimp only [List.dropLast];repeat (quiet_step (fail))
      refine wpQuiet_nil ?_;rintro _ ⟨nq,rfl⟩;have hfd:Fr wc (wc.drewN nq) (fun _=>False):=(Fr.refl _ _).drewN nq;have hkd:=hk3.frame hfd (fun _ _=>id);have hcd1:=hfd.same hcc1 id;have hcd2:=hc2'.frame hfd id;have y11:=hfd.cell d11 id;have hFd:=hF.step hfd (fun _=>False.elim);generalize wc.drewN nq=W4 at hkd hcd1 hcd2 y11 hFd ⊢;refine j5.send_room (i:=14) (rest:=[]) (v:=.agg #[.int .i64 th,.int .i64 c.value,.int .i64 g]) (z':=.tuple #[]) rfl (by simp [go_sem]) (by simp [go_sem,scase]) hcd1 (by simp;exact room1) ?_;have hlt:=(Array.getElem?_eq_some_iff.1 hcd1).1;have hcs:=heap_setChan W4 c1 64 (((V.C c1).map dx.val).toArray.push (.agg #[.int .i64 th,.int .i64 c.value,.int .i64 g])) false (s1+1) t1 false hlt;have hfs:=kk W4 c1 64 (((V.C c1).map dx.val).toArray.push (.agg #[.int .i64 th,.int .i64 c.value,.int .i64 g])) false (s1+1) t1 false;generalize W4.setChan c1 64 (((V.C c1).map dx.val).toArray.push (.agg #[.int .i64 th,.int .i64 c.value,.int .i64 g])) false (s1+1) t1 false=W5 at hcs hfs ⊢;have hK5:=hkd.setQ hlq (l1:=V.C c1++[⟨th,c.value,g⟩]) (l2:=[]) (hfs.mono (fun k e=>.inl e)) ⟨s1+1,t1,by rw [hcs];simp [dx.val]⟩ (hcd2.frame hfs (Ne.symm hne12));have z11:=hfs.cell y11 hub.1;have hF5:Fr w W5 (V.fd kb):=(hFd.mono (fun _=>False.elim)).step (hfs.mono (fun k (e:k=c1)=>(.inl (.inr (.inr (.inr (.inr (.inr (.inr ⟨b,_,hlq,.inl e⟩)))))):V.fd kb k))) (fun _ e=>.inl e)
      have hst:=vl kb _ _ th 2 W5 hK5;have hfinS:Hid ((dj S.K r).1=0/\(dj S.K r).2=sendAt S.K th c b g (V.C c1,[])):=by show _/\_;rw [hr.out,HY.out,hC];exact ⟨rfl,rfl⟩
      clear hK5 hkd hcd1 hcd2 y11 hFd hfd hcs hfs hcc1 hcc2 hc1' hc2' hbx hbe3 x0 x1 d0 d9 d11 g3 hk3 h3 hr;refine j5.from 15 rfl ?_;simp only [List.drop_succ_cons,List.drop_nil,Act.put];go_wp2_with ((go_at_call 76;refine hst.mono ?_;rintro e W6 ⟨rfl,ho⟩))
      go_ret2;refine ⟨.inl (by rw [hfinS.out.1];rfl),?_⟩;rw [hfinS.out.2];exact h.kd.out (ic.join hF5 (fun _ e=>.inl e) ho)
     | cons x M=>
      rw [hC] at hcc2 hc2';have hg0:(List.map dx.val (x :: M)).toArray.getD 0 undef=.agg #[.int .i64 x.thread,.int .i64 x.value,.int .i64 x.badge]:=by simp [dx.val]
      have hex:(List.map dx.val (x :: M)).toArray.extract 1 (List.map dx.val (x :: M)).toArray.size=(M.map dx.val).toArray:=by simp;exact List.take_of_length_le (by simp)
      have hlt:=(Array.getElem?_eq_some_iff.1 hcc2).1;have hcs:=heap_setChan wc c2 64 (M.map dx.val).toArray false s2 (t2+1) false hlt;have hfs:=kk wc c2 64 (M.map dx.val).toArray false s2 (t2+1) false;refine j5.region (l:=[0,1,2]) rfl ?_;refine j5.sel_recv (z:=.agg #[.int .i64 0,.int .i64 0,.int .i64 0]) rfl (by simp [go_sem]) (by simp [go_sem,rcase]) hcc2 (by simp) ?_;rw [hg0,hex];generalize wc.setChan c2 64 (M.map dx.val).toArray false s2 (t2+1) false=W4 at hcs hfs ⊢;have hK4:=hk3.setQ hlq (l1:=V.C c1) (l2:=M) (hfs.mono (fun k e=>.inr e)) (hc1'.frame hfs hne12) ⟨s2,t2+1,hcs⟩;have hF4:Fr w W4 (V.fd kb):=(hF.mono (fun _=>False.elim)).step (hfs.mono (fun k (e:k=c2)=>(.inl (.inr (.inr (.inr (.inr (.inr (.inr ⟨b,_,hlq,.inr e⟩)))))):V.fd kb k))) (fun _ e=>.inl e)
      have hne:eb≠c2:=fun e=>by
       have hc:=hbe3;rw [e,hcc2] at hc;cases hc
      have z0:=hfs.cell d0 hub.2;have z9:=hfs.cell d9 hub.2;have ze:=hfs.cell g3 hne;have hfa:Fr W4 (W4.alloc (.cells #[.int .i64 x.thread,.int .i64 x.value,.int .i64 x.badge] 165)) (fun _=>False):=(Fr.refl _ _).alloc _;have hb5:=heap_alloc_new W4 (.cells #[.int .i64 x.thread,.int .i64 x.value,.int .i64 x.badge] 165);have hfinS:Hid ((dj S.K r).1=0/\(dj S.K r).2=sendAt S.K th c b g (V.C c1,x :: M)):=by show _/\_;rw [hr.out,HY.out,hC];exact ⟨rfl,rfl⟩
      have v0:=hfa.cell z0 id;have v9:=hfa.cell z9 id;have ve:=hfa.cell ze id;have w0:=aa (o:=0) hb5 rfl;have hK5:=hK4.frame hfa (fun _ _=>id);have hF5:Fr w (W4.alloc (.cells #[.int .i64 x.thread,.int .i64 x.value,.int .i64 x.badge] 165)) (V.fd kb):=hF4.step hfa (fun _=>False.elim);clear hcs hfs hcc1 hcc2 hc1' hc2' hbx hbe3 x0 x1 d0 d9 d11 g3 hk3 h3 hr z0 z9 ze hK4 hg0 hex;refine j5.from 1 rfl ?_;simp only [List.drop_succ_cons,List.drop_zero,Act.put,List.setIfInBounds_toArray,goInt];go_upto_region 12 with fail
      generalize W4.alloc (.cells #[.int .i64 x.thread,.int .i64 x.value,.int .i64 x.badge] 165)=W5 at hb5 v0 v9 ve w0 hK5 hF5 ⊢;generalize W4.heap.size=wb at hb5 w0 ⊢;have hget:∀W,Fr W5 W (fun _=>False)->Calls Tryz.prog 75 #[.pointer (some ⟨kb,0,none⟩),.int .i64 x.thread,.int .i64 c.value,.int .i64 g,.int .i64 0] W fun e w'=>e=.returned (.tuple #[])/\ic w kb V ⟨sendAt S.K th c b g (V.C c1,x :: M),S.D⟩ w':=fun W hW=>by
       refine (zx kb _ _ x.thread c.value g 0 W (hK5.frame hW (fun _ _=>id))).mono ?_;rintro e w' ⟨rfl,ho⟩;exact ⟨rfl,ic.join (hF5.step hW (fun _=>False.elim)) (fun _ e=>.inl e) ho⟩
      clear hK5 hF5 hfa;go_region_law (go_simp;go_at_call 75;refine (hget _ (by first | exact (Fr.refl _ _).drew | exact Fr.refl _ _)).mono ?_;rintro e W6 ⟨rfl,ho⟩)
      all_goals go_wp2
      all_goals go_ret2
      all_goals
       refine ⟨.inl (by rw [hfinS.out.1];rfl),?_⟩;rw [hfinS.out.2];exact h.kd.out ho
   ·have hr:Hid (r=some (7,S.K)):=by show _=_;rw [<- HR.out];unfold mg;rw [hfi];simp only [ne_eq,not_true,if_false,if_neg hv]
    have hiw:=fun W=>vf c.value W
    rw [decide_eq_false hv] at hiw;clear HR hv hfi;go_enter Tryz.func40,Tryz.ntmps40
    go_wp2_with (first
     |(go_at_call 73;refine hfe.mono ?_;rintro e W1 ⟨⟨n1,q1,rfl⟩,hf1⟩;have hfa:Fr w (W1.alloc (.cells #[.int .i64 b,.int .i64 n1,.int .i64 q1,.int .i64 g] 122)) (fun _=>False):=hf1.alloc _;have r0:=hfa.cell k0 id;have r9:=hfa.cell k9 id)
     |(go_at_call 74;refine (hiw _).mono ?_;rintro e W2 ⟨rfl,rfl⟩))
    go_ret2;exact ⟨.inl (by rw [hr.out];rfl),by rw [hr.out];exact h.kd.stay (hf1.alloc _)⟩
  ·have hr:Hid (r=some (x,S.K)):=by show _=_;rw [<- HR.out];unfold mg;rw [hfi];simp only [if_pos hx]
   have hxe:(x==0)=false:=by simpa using hx
   clear HR hfi;go_enter Tryz.func40,Tryz.ntmps40
   go_wp2_with ((go_at_call 73;refine hfe.mono ?_;rintro e W1 ⟨⟨n1,q1,rfl⟩,hf1⟩))
   go_ret2;exact ⟨.inl (by rw [hr.out];rfl),by rw [hr.out];exact h.kd.stay (hf1.alloc _)⟩
theorem bt0 (kb ub:Nat)(S:KS)(V:ah)(c:Cl)(av tv:Value)(th root:Int)(bv:Value)(w:World)(h:s5 w kb ub S V c av tv bv th root){t:oz}(ht:S.K.thr th=some t)(hs:t.state=1):
 Calls Tryz.prog 41 #[.pointer (some ⟨ub,0,none⟩)] w fun e w'=>a90 w kb V ((dj S.K (ow S.K th root c)).1,{S with K:=(dj S.K (ow S.K th root c)).2}) e w':=by
 have hfe:=ag0 V kb ub c av tv _ th root 1 w h.call;rw [h.kd.kd.eq] at hfe;generalize hR:ow S.K th root c=r;have HR:Hid (ow S.K th root c=r):=hR;clear hR;have k0:=h.turn.ck;have kt:w.cell? ⟨ub,11,none⟩=some (.int .i64 th):=aa h.turn rfl;cases hfi:findE S.K root c 1 with
 | none=>
  have hr:Hid (r=none):=by show _=_;rw [<- HR.out];unfold ow;rw [hfi]
  rw [hfi] at hfe;simp only [al_] at hfe;clear HR hfi;go_enter Tryz.func41,Tryz.ntmps41
  go_wp2_with ((go_at_call 73;refine hfe.mono ?_;rintro e W1 ⟨rfl,hf1⟩;unfold gup))
  exact ⟨rfl,.inr (by rw [hr.out];rfl),by rw [hr.out];exact h.kd.stay hf1⟩
 | some y=>
  obtain ⟨x,b,g⟩:=y;rw [hfi] at hfe;simp only [al_] at hfe;by_cases hx:x=0
  ·subst hx;have hr:Hid (r=some (0,recvAt S.K th b ((S.K.qs b).getD ([],[])))):=by show _=_;rw [<- HR.out];unfold ow;rw [hfi];simp only [ne_eq,not_true,if_false]
   obtain ⟨y,hy⟩:=h.good.findE hfi;obtain ⟨room1,room2⟩:=h.good.roomQ ht hs hy;clear HR;go_enter Tryz.func41,Tryz.ntmps41
   go_upto_region 4 with ((go_at_call 73;refine hfe.mono ?_;rintro e W1 ⟨⟨n1,q1,rfl⟩,hf1⟩;have hfa:Fr w (W1.alloc (.cells #[.int .i64 b,.int .i64 n1,.int .i64 q1,.int .i64 g] 122)) (fun _=>False):=hf1.alloc _;have r0:=hfa.cell k0 id))
   have hbe:=heap_alloc_new W1 (.cells #[.int .i64 b,.int .i64 n1,.int .i64 q1,.int .i64 g] 122);generalize W1.alloc (.cells #[.int .i64 b,.int .i64 n1,.int .i64 q1,.int .i64 g] 122)=W2 at hfa hbe r0 ⊢;have hl2:W1.heap.size<W2.heap.size:=(Array.getElem?_eq_some_iff.1 hbe).1;have l1:=hf1.size;generalize hEB:W1.heap.size=eb at hbe hl2 l1 ⊢;clear hEB hf1 hfe;have h2:=h.frame hfa;obtain ⟨q,hlq⟩:∃q,am b V.Q=some q:=by
    have hy2:=hy;rw [<- h.kd.kd.eq] at hy2;cases hl:am b V.Q with
    | none=>simp [ah.ker,hl] at hy2
    | some q=>exact ⟨q,rfl⟩
   have hyq:y=(V.C q.1,V.C q.2):=by
    have hy2:=hy;rw [<- h.kd.kd.eq] at hy2;simp [ah.ker,hlq] at hy2;exact hy2.symm
   subst hyq;obtain ⟨c1,c2⟩:=q;have hrl:∀W,Fr w W (fun _=>False)->(Instr.lookup 64 (.map (some V.qb)) (.int .i64 b) false).run Tryz.prog W=.ok (.agg #[.chan (some c1),.chan (some c2)]) W:=fun W hW=>by
    have:=(h.kd.kd.ker.frame hW (fun _ _=>id)).que.look_run (P:=Tryz.prog) ku Tryz.underlying64 (z:=.agg #[.chan none,.chan none]) (by kernel_rfl) b false;rw [hlq] at this;simpa only [ke,Bool.false_eq_true,if_false,iy,o_] using this
   have e0:=aa (o:=0) hbe rfl;have cq:=h2.kd.kd.ker.cq;have hd1:=hrl _ hfa.drew;have hd2:=hrl _ (hfa.alloc (.cells #[.chan none,.chan none] 125)).drew;have lk:=World.block_lt_of_cell? _ _ cq;have lu:=World.block_lt_of_cell? _ _ r0;go_cut [6,7] (fun v6 v7 wx=>v6=.pointer (some ⟨kb,0,none⟩)/\∃xb,v7=.pointer (some ⟨xb,0,none⟩)/\Fr W2 wx (fun _=>False)/\W2.heap.size<=xb/\wx.heap[xb]?=some (.cells #[.chan (some c1),.chan (some c2)] 125 (0,0)))
   case first=>
    go_region_held3 (fun w'=>w'.cell? ⟨ub,0,none⟩=some (.pointer (some ⟨kb,0,none⟩))/\w'.cell? ⟨kb,1029,none⟩=some (.map (some V.qb))/\w'.cell? ⟨eb,0,none⟩=some (.int .i64 b)) (go_keep) (fail)
    all_goals go_wp2
    all_goals go_meet
    all_goals exact ⟨rfl,W2.heap.size,rfl,((Fr.refl _ _).alloc _).drew,Nat.le_refl _,heap_alloc_new _ _⟩
   case rest=>
    obtain ⟨rfl,xb,rfl,hfc,hxb,hbx⟩:=hcut;clear hrl hd1 hd2 cq r0;have hF:=hfa.step hfc (fun _=>False.elim);have h3:=h.frame hF;have hbe3:=hfc.same hbe id;obtain ⟨hc1,hc2⟩:=h3.kd.kd.ker.rest.chan b (c1,c2) hlq;have hc1':=hc1;have hc2':=hc2;obtain ⟨s1,t1,hcc1⟩:=hc1;obtain ⟨s2,t2,hcc2⟩:=hc2;simp only at hcc1 hcc2 hc1' hc2' room1 room2;have hne12:c1≠c2:=h3.kd.kd.ker.rest.two b (c1,c2) hlq;have x0:=aa (o:=0) hbx rfl;have x1:=aa (o:=1) hbx rfl;have d0:=h3.turn.ck;have d11:wc.cell? ⟨ub,11,none⟩=some (.int .i64 th):=aa h3.turn rfl;have HY:Hid (S.K.qs b=some (V.C c1,V.C c2)):=hy;have hk3:=h3.kd.kd;have hub:ub≠c1/\ub≠c2:=⟨fun e=>h3.ub (.inl (.inr (.inr (.inr (.inr (.inr (.inr ⟨b,_,hlq,.inl e⟩))))))),fun e=>h3.ub (.inl (.inr (.inr (.inr (.inr (.inr (.inr ⟨b,_,hlq,.inr e⟩)))))))⟩
    clear hfa hfc hbe hy e0 h2 k0 kt;go_upto_region 6 with fail
    cases hC:V.C c1 with
    | nil=>
     rw [hC] at hcc1 hc1';simp only [List.map_nil] at hcc1;refine j5.region (l:=[0,1,2]) rfl ?_;refine j5.sel_default (z:=.agg #[.int .i64 0,.int .i64 0,.int .i64 0]) rfl (by simp [go_sem]) (by simp [go_sem,rcase]) hcc1 ?_;refine j5.from 1 rfl ?_;simp only [List.drop_succ_cons,List.drop_zero,Act.put,List.setIfInBounds_toArray,goInt];go_upto_region 7 with fail
     refine rj rfl (by kernel_rfl) (by kernel_rfl) (by kernel_rfl) ?_;dsimp only [List.dropLast];repeat (quiet_step (fail))
     refine wpQuiet_nil ?_;rintro _ ⟨nq,rfl⟩;have hfd:Fr wc (wc.drewN nq) (fun _=>False):=(Fr.refl _ _).drewN nq;have hkd:=hk3.frame hfd (fun _ _=>id);have hcd2:=hfd.same hcc2 id;have hcd1:=hc1'.frame hfd id;have y11:=hfd.cell d11 id;have hFd:=hF.step hfd (fun _=>False.elim);generalize wc.drewN nq=W4 at hkd hcd1 hcd2 y11 hFd ⊢;refine j5.send_room (i:=7) (rest:=[]) (v:=.agg #[.int .i64 th,.int .i64 0,.int .i64 0]) (z':=.tuple #[]) rfl (by simp [go_sem]) (by simp [go_sem,scase]) hcd2 (by simp;exact room2) ?_;have hlt:=(Array.getElem?_eq_some_iff.1 hcd2).1;have hcs:=heap_setChan W4 c2 64 (((V.C c2).map dx.val).toArray.push (.agg #[.int .i64 th,.int .i64 0,.int .i64 0])) false (s2+1) t2 false hlt;have hfs:=kk W4 c2 64 (((V.C c2).map dx.val).toArray.push (.agg #[.int .i64 th,.int .i64 0,.int .i64 0])) false (s2+1) t2 false;generalize W4.setChan c2 64 (((V.C c2).map dx.val).toArray.push (.agg #[.int .i64 th,.int .i64 0,.int .i64 0])) false (s2+1) t2 false=W5 at hcs hfs ⊢;have hK5:=hkd.setQ hlq (l1:=[]) (l2:=V.C c2++[⟨th,0,0⟩]) (hfs.mono (fun k e=>.inr e)) (hcd1.frame hfs hne12) ⟨s2+1,t2,by rw [hcs];simp [dx.val]⟩;have z11:=hfs.cell y11 hub.2;have hF5:Fr w W5 (V.fd kb):=(hFd.mono (fun _=>False.elim)).step (hfs.mono (fun k (e:k=c2)=>(.inl (.inr (.inr (.inr (.inr (.inr (.inr ⟨b,_,hlq,.inr e⟩)))))):V.fd kb k))) (fun _ e=>.inl e)
     have hst:=vl kb _ _ th 3 W5 hK5;have hfinS:Hid ((dj S.K r).1=0/\(dj S.K r).2=recvAt S.K th b ([],V.C c2)):=by show _/\_;rw [hr.out,HY.out,hC];exact ⟨rfl,rfl⟩
     clear hK5 hkd hcd1 hcd2 y11 hFd hfd hcs hfs hcc1 hcc2 hc1' hc2' hbx hbe3 x0 x1 d0 d11 hk3 h3 hr;refine j5.from 8 rfl ?_;simp only [List.drop_succ_cons,List.drop_nil,Act.put];go_wp2_with ((go_at_call 76;refine hst.mono ?_;rintro e W6 ⟨rfl,ho⟩))
     go_ret2;refine ⟨.inl (by rw [hfinS.out.1];rfl),?_⟩;rw [hfinS.out.2];exact h.kd.out (ic.join hF5 (fun _ e=>.inl e) ho)
    | cons x M=>
     rw [hC] at hcc1 hc1';have hg0:(List.map dx.val (x :: M)).toArray.getD 0 undef=.agg #[.int .i64 x.thread,.int .i64 x.value,.int .i64 x.badge]:=by simp [dx.val]
     have hex:(List.map dx.val (x :: M)).toArray.extract 1 (List.map dx.val (x :: M)).toArray.size=(M.map dx.val).toArray:=by simp;exact List.take_of_length_le (by simp)
     have hlt:=(Array.getElem?_eq_some_iff.1 hcc1).1;have hcs:=heap_setChan wc c1 64 (M.map dx.val).toArray false s1 (t1+1) false hlt;have hfs:=kk wc c1 64 (M.map dx.val).toArray false s1 (t1+1) false;refine j5.region (l:=[0,1,2]) rfl ?_;refine j5.sel_recv (z:=.agg #[.int .i64 0,.int .i64 0,.int .i64 0]) rfl (by simp [go_sem]) (by simp [go_sem,rcase]) hcc1 (by simp) ?_;rw [hg0,hex];generalize wc.setChan c1 64 (M.map dx.val).toArray false s1 (t1+1) false=W4 at hcs hfs ⊢;have hK4:=hk3.setQ hlq (l1:=M) (l2:=V.C c2) (hfs.mono (fun k e=>.inl e)) ⟨s1,t1+1,hcs⟩ (hc2'.frame hfs (Ne.symm hne12));have hF4:Fr w W4 (V.fd kb):=(hF.mono (fun _=>False.elim)).step (hfs.mono (fun k (e:k=c1)=>(.inl (.inr (.inr (.inr (.inr (.inr (.inr ⟨b,_,hlq,.inl e⟩)))))):V.fd kb k))) (fun _ e=>.inl e)
     have z0:=hfs.cell d0 hub.1;have z11:=hfs.cell d11 hub.1;have hfa:Fr W4 (W4.alloc (.cells #[.int .i64 x.thread,.int .i64 x.value,.int .i64 x.badge] 165)) (fun _=>False):=(Fr.refl _ _).alloc _;have hb5:=heap_alloc_new W4 (.cells #[.int .i64 x.thread,.int .i64 x.value,.int .i64 x.badge] 165);have hfinS:Hid ((dj S.K r).1=0/\(dj S.K r).2=recvAt S.K th b (x :: M,V.C c2)):=by show _/\_;rw [hr.out,HY.out,hC];exact ⟨rfl,rfl⟩
     have v0:=hfa.cell z0 id;have v11:=hfa.cell z11 id;have w0:=aa (o:=0) hb5 rfl;have hK5:=hK4.frame hfa (fun _ _=>id);have hwb:∀k,V.fd kb k->k≠W4.heap.size:=fun k hk e=>by
      have h1:=h3.kd.lt hk;have h2:=hfs.size;omega
     have hF5:Fr w (W4.alloc (.cells #[.int .i64 x.thread,.int .i64 x.value,.int .i64 x.badge] 165)) (V.fd kb):=hF4.step hfa (fun _=>False.elim);have hubn:¬V.fd kb ub:=h3.ub;have hst:=vl kb _ _ x.thread 1 _ hK5;clear hcs hfs hcc1 hcc2 hc1' hc2' hbx hbe3 x0 x1 d0 d11 hk3 h3 hr z0 z11 hK4 hg0 hex hF4 hK5;refine j5.from 1 rfl ?_;simp only [List.drop_succ_cons,List.drop_zero,Act.put,List.setIfInBounds_toArray,goInt];go_upto_region 11 with ((go_at_call 76;refine hst.mono ?_;rintro e W6 ⟨rfl,V6,hK6,hf6,hs6⟩))
     have b6:=hf6.same hb5 (fun e=>hwb _ e rfl);have q1c:=aa (o:=1) b6 rfl;have q2c:=aa (o:=2) b6 rfl;have u0:=hf6.cell v0 hubn;have u11:=hf6.cell v11 hubn;generalize W4.heap.size=wb at hb5 w0 b6 q1c q2c ⊢;have hget:∀W,Fr W6 W (fun _=>False)->Calls Tryz.prog 75 #[.pointer (some ⟨kb,0,none⟩),.int .i64 th,.int .i64 x.value,.int .i64 x.badge,.int .i64 0] W fun e w'=>e=.returned (.tuple #[])/\ic w kb V ⟨recvAt S.K th b (x :: M,V.C c2),S.D⟩ w':=fun W hW=>by
      refine (zx kb _ _ th x.value x.badge 0 W (hK6.frame hW (fun _ _=>id))).mono ?_;rintro e w' ⟨rfl,ho⟩;refine ⟨rfl,ic.join ((hF5.step hf6 (fun k e=>.inl e)).step hW (fun _=>False.elim)) (fun k e=>?_) ho⟩;rcases hs6 k e with e1 | e1
      ·exact .inl e1
      ·exact .inr (Nat.le_trans hF5.size e1)
     clear hK6 hF5 hf6 hfa hst b6 hb5 hs6;go_region_law (go_simp;go_at_call 75;refine (hget _ (by first | exact (Fr.refl _ _).drew | exact Fr.refl _ _)).mono ?_;rintro e W7 ⟨rfl,ho⟩)
     all_goals go_wp2
     all_goals go_ret2
     all_goals
      refine ⟨.inl (by rw [hfinS.out.1];rfl),?_⟩;rw [hfinS.out.2];exact h.kd.out ho
  ·have hr:Hid (r=some (x,S.K)):=by show _=_;rw [<- HR.out];unfold ow;rw [hfi];simp only [if_pos hx]
   have hxe:(x==0)=false:=by simpa using hx
   clear HR hfi;go_enter Tryz.func41,Tryz.ntmps41
   go_wp2_with ((go_at_call 73;refine hfe.mono ?_;rintro e W1 ⟨⟨n1,q1,rfl⟩,hf1⟩))
   go_ret2;exact ⟨.inl (by rw [hr.out];rfl),by rw [hr.out];exact h.kd.stay (hf1.alloc _)⟩
end Go.Proofs.YtdpjgflemddekaaGreatDoor

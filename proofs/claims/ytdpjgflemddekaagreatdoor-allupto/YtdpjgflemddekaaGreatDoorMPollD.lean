/- The code: poll with interrupts. -/
import Derived.Test.YtdpjgflemddekaaGreatDoorMIterA
import Derived.Test.YtdpjgflemddekaaGreatDoorMTakA
set_option maxRecDepth 100000
set_option maxHeartbeats 2000000
namespace Go.Proofs.YtdpjgflemddekaaGreatDoor
open Go.RowKit Go.Shelf
attribute [local go_sem] Oper.semAt_some
def TB (w:World)(ub kb g0:Nat)(c:Cl)(av tv:Value)(th root:Int)(bs:List Bool):Prop:=
 ∃A cap,TurnAt w ub kb c av tv th root (.slice A bs.length cap)/\bs.length<=cap/\(0<bs.length->∃o,A=some ⟨g0,o,none⟩/\∀i (hi:i<bs.length),w.cell? ⟨g0,o+i,none⟩=some (.bool bs[i]))
theorem TB.frame {w w':World}{ub kb g0:Nat}{c:Cl}{av tv:Value}{th root:Int}{bs:List Bool}{X:Nat->Prop}(h:TB w ub kb g0 c av tv th root bs)(hf:Fr w w' X)(hu:¬X ub)(hg:¬X g0):TB w' ub kb g0 c av tv th root bs:=by
 obtain ⟨A,cap,h1,h2,h3⟩:=h;exact ⟨A,cap,h1.frame hf hu,h2,fun h0=>by obtain ⟨o,e,h4⟩:=h3 h0;exact ⟨o,e,fun i hi=>hf.cell (h4 i hi) hg⟩⟩
theorem TB.lt {w:World}{ub kb g0:Nat}{c:Cl}{av tv:Value}{th root:Int}{bs:List Bool}(h:TB w ub kb g0 c av tv th root bs):ub<w.heap.size:=by
 obtain ⟨A,cap,h1,_⟩:=h;exact h1.lt
theorem TB.uniq {w:World}{ub kb g0:Nat}{c:Cl}{av tv:Value}{th root:Int}{bs bs':List Bool}(h:TB w ub kb g0 c av tv th root bs)(h':TB w ub kb g0 c av tv th root bs'):bs=bs':=by
 obtain ⟨A,cap,h1,_,h3⟩:=h;obtain ⟨A',cap',h1',_,h3'⟩:=h';have e:=h1.cbv.symm.trans h1'.cbv;simp only [Option.some.injEq,Value.slice.injEq] at e;obtain ⟨rfl,e2,rfl⟩:=e;apply List.ext_getElem e2;intro i hi hi';obtain ⟨o,e3,h4⟩:=h3 (by omega);obtain ⟨o',e3',h4'⟩:=h3' (by omega);rw [e3] at e3';simp only [Option.some.injEq,Addr.mk.injEq,true_and,and_true] at e3';subst e3';have:=(h4 i hi).symm.trans (h4' i hi');simpa using this
theorem turn_bits {w:World}{ub kb:Nat}{c:Cl}{av tv bv:Value}{th root:Int}(h:TurnAt w ub kb c av tv th root bv)(bv':Value):TurnAt (w.setCell ⟨ub,13,none⟩ bv') ub kb c av tv th root bv':=
 ai w ub 13 bv' h
theorem kpoll_bits (ub kb g0:Nat)(c:Cl)(av tv:Value)(th root:Int)(bs:List Bool)(w:World)(h:TB w ub kb g0 c av tv th root bs)(hg:g0≠ub):
 Calls Tryz.prog 91 #[.pointer (some ⟨ub,0,none⟩)] w fun e w'=>e=.returned (.bool (am bs).1)/\TB w' ub kb g0 c av tv th root (am bs).2/\Fr w w' (fun k=>k=ub):=by
 have h0:=h;obtain ⟨A,cap,h1,h2,h3⟩:=h;have hc:=h1.cbv;have hz:w.frozen? ⟨ub,13,none⟩=false:=ab h1;cases bs with
 | nil=>
  go_enter Tryz.func91,Tryz.ntmps91
  go_wp2;go_ret;exact ⟨rfl,h0,Fr.refl _ _⟩
 | cons b r=>
  obtain ⟨o,rfl,h4⟩:=h3 (by simp);have hc0:=h4 0 (by simp);simp only [Nat.add_zero,List.getElem_cons_zero] at hc0;simp only [List.length_cons] at h2 hc;have tail:∀(A':Option Addr) (c':Nat),(cap=1\/(A'=some ⟨g0,o+1,none⟩/\c'=cap-1))->(cap=1->r.length<=c')->TB (w.setCell ⟨ub,13,none⟩ (.slice A' r.length c')) ub kb g0 c av tv th root r:=by
   intro A' c' hh hc1;refine ⟨A',c',turn_bits h1 _,by rcases hh with e | ⟨_,e⟩;exact hc1 e;omega,fun hr=>?_⟩
   rcases hh with e | ⟨rfl,e⟩
   ·omega
   ·refine ⟨o+1,rfl,fun i hi=>?_⟩
    have:=(Fr.set1 w ub 13 (.slice (some ⟨g0,o+1,none⟩) r.length c')).cell (h4 (i+1) (by simpa using hi)) hg;simp only [List.getElem_cons_succ] at this;rw [show o+1+i=o+(i+1) by omega];exact this
  go_enter Tryz.func91,Tryz.ntmps91
  go_wp2;all_goals
   go_ret;refine ⟨rfl,tail _ _ ?_ ?_,Fr.set1 _ _ _ _⟩
   ·first
    |(left;omega)
    |(right;exact ⟨rfl,rfl⟩)
   ·intro _;first | omega | simp
attribute [local go_sem] Oper.semAt_some
def PB (ub rb kb g0:Nat)(c:Cl)(av tv:Value)(th root:Int)(b:Bool)(W W':World):Prop:=
 Fr W W' (fun k=>k=ub\/k=rb)/\∀bs,TB W ub kb g0 c av tv th root bs->(am bs).1=!b/\TB W' ub kb g0 c av tv th root (am bs).2/\∃v,W'.heap[rb]?=some (.cells #[.int .i64 v] 36 (0,0))/\(b=false->v=8)
def PI (W1:World)(X:Nat->Prop)(d ub rb kb g0:Nat)(c:Cl)(av tv:Value)(th root:Int)(W:World):Prop:=
 Fr W1 W (fun k=>X k\/k=d+1\/k=ub\/k=rb)/\(∃bs,TB W ub kb g0 c av tv th root bs)/\∃v,W.heap[rb]?=some (.cells #[.int .i64 v] 36 (0,0))
def POut (w:World)(R:World->Bool->World->Prop)(e:Ending)(w':World):Prop:=∃b W1,e=.returned (.int .i64 (if b then 0 else 8))/\Fr w W1 (fun _=>False)/\R W1 b w'
theorem polled_asks (gf:Nat)(lb:Array Value)(ub kb g0:Nat)(c:Cl)(av tv:Value)(th root:Int)(bs:List Bool)(w:World)(X:Nat->Prop)(R:World->Bool->World->Prop)(eg:∀args w,(callFunc gf args).run Tryz.prog w=.ok (.enter gf args) w)
 (hT:TB w ub kb g0 c av tv th root bs) (hgu:g0≠ub) (hgl:g0<w.heap.size) (hX:∀k,X k->k<w.heap.size)
 (hiter:∀(d rb:Nat) (o1 o2 o3:Obj) (W1:World),Fr w W1 (fun _=>False)->w.heap.size<=rb->rb<d->W1.heap[d]?=some o1->W1.heap[d+1]?=some o2->(∃v,W1.heap[rb]?=some (.cells #[.int .i64 v] 36 (0,0)))->
   Asks Fence.wide 0 Tryz.prog d o1 o2 o3 (PI W1 X d ub rb kb g0 c av tv th root) (PB ub rb kb g0 c av tv th root)->
   CallsIn Fence.wide 1 Tryz.prog gf (#[.func (.yield (d+1)) #[] #[]]++lb) W1 fun e W'=>(∃v,e=.returned v)/\Fr W1 W' (fun k=>X k\/k=d+1\/k=ub\/k=rb)/\∃b v,W'.heap[d+1]?=some (if b then o2 else o3)/\W'.heap[rb]?=some (.cells #[.int .i64 v] 36 (0,0))/\(b=false->v=8)/\R W1 b W')
 (hR:∀W1 b W W',R W1 b W->Fr W W' (fun k=>w.heap.size<=k/\k<W1.heap.size)->R W1 b W') :
 Calls Tryz.prog 57 #[.pointer (some ⟨ub,0,none⟩),.func (.func gf) #[] lb] w (POut w R):=by
 have hult:=hT.lt;refine (callsIn_wide (n:=2)).1 ?_;refine callsIn_of_wp_marks Tryz.func57 rfl trivial ?_ rfl;simp only [Tryz.ntmps57,List.size_toArray,List.length_cons,List.length_nil,Nat.reduceAdd,Nat.reduceSub,Array.replicate_succ,Array.replicate_zero,List.push_toArray,List.append_toArray,List.nil_append,List.cons_append];gi_wp2_with fail
 obtain ⟨w2,hw2⟩:∃w2,(w.alloc (.cells #[.pointer (some ⟨ub,0,none⟩)] 90)).alloc (.cells #[.int .i64 0] 36)=w2:=⟨_,rfl⟩;obtain ⟨hf2,hs2,hb1,hb2⟩:=box_two hw2;rw [hw2];have hz2:w2.heap.size=w.heap.size+2:=by rw [<- hw2];simp
 clear hw2 hs2;have hT2:=hT.frame hf2 id id;refine wpIn_rangeFunc_asks rfl (by decide) (gf:=gf) (lb:=lb) rfl trivial eg (PI w2 X w2.heap.size ub (w.heap.size+1) kb g0 c av tv th root) (PB ub (w.heap.size+1) kb g0 c av tv th root)
  (fun b W'=>∃W1 v,Fr w W1 (fun _=>False)/\w2.heap.size+1<W1.heap.size/\Fr w2 W' (fun k=>X k\/k=w2.heap.size+1\/k=ub\/k=w.heap.size+1)/\W'.heap[w.heap.size+1]?=some (.cells #[.int .i64 v] 36 (0,0))/\(b=false->v=8)/\R W1 b W') (fun k=>k=ub\/k=w.heap.size+1)
  {tmps:=#[.pointer (some ⟨ub,0,none⟩),.func (.func gf) #[] lb,.pointer (some ⟨w.heap.size,0,none⟩),undef,.pointer (some ⟨w.heap.size+1,0,none⟩),.func (.func gf) #[] lb,undef,undef],defers:=[]} ?_ (fun b W W' h=>h.1) (by omega) ?assign ?body ?iter ?done
 ·rintro W W' ⟨h1,⟨bs1,h3⟩,v,h4⟩ h2;exact ⟨h1.step h2 (fun k hk=>.inl (.inr (.inl hk))),⟨bs1,h3.frame h2 (by omega) (by omega)⟩,v,h2.same h4 (by omega)⟩
 case assign=>
  intro W K hK;gi_wp2
  simpa using hK
 case body=>
  rintro W ⟨hW,⟨bs1,hT1⟩,v,hv⟩;have n0:¬(X w.heap.size\/w.heap.size=w2.heap.size+1\/w.heap.size=ub\/w.heap.size=w.heap.size+1):=by
   rintro (e | e | e | e)
   ·have:=hX _ e;omega
   ·omega
   ·omega
   ·omega
  have c0:W.cell? ⟨w.heap.size,0,none⟩=some (.pointer (some ⟨ub,0,none⟩)):=aa (o:=0) (hW.same hb1 n0) rfl;have hp:=CallsIn.inRound (w2.heap.size+1) ((callsIn_wide (n:=0)).2 (kpoll_bits ub kb g0 c av tv th root bs1 W hT1 hgu));have hbt:∀bs,TB W ub kb g0 c av tv th root bs->bs=bs1:=fun bs h=>h.uniq hT1
  clear hW hiter hR hz2;cases hb:(am bs1).1 with
  | false=>
   rw [hb] at hp;gi_wp2_with ((try refine ⟨trivial,rfl,?_⟩);refine hp.mono ?_;rintro e W2 ⟨rfl,hT3,hf3⟩)
   refine ⟨hf3.mono (fun k hk=>.inl hk),fun bs h=>?_⟩
   rw [hbt bs h];exact ⟨by rw [hb];rfl,hT3,v,hf3.same hv (by omega),fun h=>by cases h⟩
  | true=>
   rw [hb] at hp;have hub2:ub≠w.heap.size+1:=by omega
   have hgu2:g0≠w.heap.size+1:=by omega
   gi_wp2_with ((try refine ⟨trivial,rfl,?_⟩);refine hp.mono ?_;rintro e W2 ⟨rfl,hT3,hf3⟩;have hv2:=hf3.same hv (fun e=>hub2 e.symm);have cv:=aa (o:=0) hv2 rfl;have zv:=ab (o:=0) hv2)
   have hf4:=Fr.set1 W2 (w.heap.size+1) 0 (.int .i64 8);refine ⟨(hf3.mono (fun k hk=>.inl hk)).step hf4 (fun k hk=>.inl (.inr hk)),fun bs h=>?_⟩
   rw [hbt bs h];exact ⟨by rw [hb];rfl,hT3.frame hf4 hub2 hgu2,8,ai W2 (w.heap.size+1) 0 (.int .i64 8) hv2,fun _=>rfl⟩
 case iter=>
  intro o1 o2 o3 W1 hf1 hd hl hgo;have hF1:Fr w W1 (fun _=>False):=hf2.step hf1 (fun _=>False.elim);refine (hiter w2.heap.size (w.heap.size+1) o1 o2 o3 W1 hF1 (by omega) (by omega) hd hl ⟨0,hf1.same hb2 id⟩ ?_).mono ?_
  ·rintro W ⟨hW,hW2⟩ h1 h2;exact hgo W ⟨(hf1.mono (fun _=>False.elim)).step hW (fun k hk=>.inl hk),hW2⟩ h1 h2
  ·rintro e W' ⟨he,hfr,b,v,ho2,hv,h8,hR1⟩;refine ⟨he,hfr.same hd ?_,b,ho2,W1,v,hF1,(Array.getElem?_eq_some_iff.1 hl).1,(hf1.mono (fun _=>False.elim)).step hfr (fun k hk=>.inl hk),hv,h8,hR1⟩;rintro (e | e | e | e)
   ·have:=hX _ e;omega
   ·omega
   ·omega
   ·omega
 case done=>
  rintro b W W' ⟨W1,v,hF1,hlt,hFW,hb2v,h8,hR1⟩ hf hK;have hb2':=hf.same hb2v (by omega);have hR2:=hR W1 b W W' hR1 (hf.mono (fun k hk=>by rw [hk];omega));have HZ:Hid (w2.heap.size=w.heap.size+2):=hz2;clear hz2;cases b with
  | true=>
   have c0:=aa (o:=0) hb2' rfl;have z0:=ab (o:=0) hb2';clear hf;simp only [if_true];gi_wp2
   have hz2:=HZ.out;have hf3:=Fr.set1 W' (w.heap.size+1) 0 (.int .i64 0);have hK2:=hf3.same hK (by omega);have hb3:=ai W' (w.heap.size+1) 0 (.int .i64 0) hb2';have hR3:=hR W1 true W' _ hR2 (hf3.mono (fun k hk=>by rw [hk];omega));generalize W'.setCell ⟨w.heap.size+1,0,none⟩ (.int .i64 0)=W2 at hK2 hb3 hR3;refine ⟨by simp,.inl ⟨_,_,rfl,run_takeDeferred hK2,?_⟩⟩;have hf4:=fr_putObj W2 w2.heap.size (.deferred none);have hb4:=hf4.same hb3 (by omega);have hR4:=hR W1 true W2 _ hR3 (hf4.mono (fun k hk=>by rw [hk];omega));have c4:=aa (o:=0) hb4 rfl;generalize W2.putObj w2.heap.size (.deferred none)=W3 at hR4 c4;refine ⟨.int .i64 0,?_,true,W1,rfl,hF1,hR4⟩;simp [results,Tryz.results57,go_sem,c4]
  | false=>
   obtain rfl:v=8:=h8 rfl;clear hf;simp only [Bool.false_eq_true,if_false];gi_wp2
   have hz2:=HZ.out;refine ⟨by simp,.inl ⟨_,_,rfl,run_takeDeferred hK,?_⟩⟩;have hf4:=fr_putObj W' w2.heap.size (.deferred none);have hb4:=hf4.same hb2' (by omega);have hR4:=hR W1 false W' _ hR2 (hf4.mono (fun k hk=>by rw [hk];omega));have c4:=aa (o:=0) hb4 rfl;generalize W'.putObj w2.heap.size (.deferred none)=W3 at hR4 c4;refine ⟨.int .i64 8,?_,false,W1,rfl,hF1,hR4⟩;simp [results,Tryz.results57,go_sem,c4]
end Go.Proofs.YtdpjgflemddekaaGreatDoor

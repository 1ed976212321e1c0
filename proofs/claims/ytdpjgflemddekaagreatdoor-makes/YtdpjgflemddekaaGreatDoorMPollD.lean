/- The code: poll with interrupts. -/
import Derived.Test.YtdpjgflemddekaaGreatDoorMWorkB
set_option maxRecDepth 100000
set_option maxHeartbeats 2000000
namespace Go.Proofs.YtdpjgflemddekaaGreatDoor
open Go.RowKit Go.Shelf
attribute [local go_sem] Oper.semAt_some
def TB (w:World)(ub kb g0:Nat)(c:Cl)(av tv:Value)(th root:Int)(bs:List Bool):Prop:=
 ∃A cap,ef w ub kb c av tv th root (.slice A bs.length cap)/\bs.length<=cap/\(0<bs.length->∃o,A=some ⟨g0,o,none⟩/\∀i (hi:i<bs.length),w.cell? ⟨g0,o+i,none⟩=some (.bool bs[i]))
theorem TB.frame {w w':World}{ub kb g0:Nat}{c:Cl}{av tv:Value}{th root:Int}{bs:List Bool}{X:Nat->Prop}(h:TB w ub kb g0 c av tv th root bs)(hf:Fr w w' X)(hu:¬X ub)(hg:¬X g0):TB w' ub kb g0 c av tv th root bs:=by
 obtain ⟨A,cap,h1,h2,h3⟩:=h;exact ⟨A,cap,h1.frame hf hu,h2,fun h0=>by obtain ⟨o,e,h4⟩:=h3 h0;exact ⟨o,e,fun i hi=>hf.cell (h4 i hi) hg⟩⟩
theorem TB.lt {w:World}{ub kb g0:Nat}{c:Cl}{av tv:Value}{th root:Int}{bs:List Bool}(h:TB w ub kb g0 c av tv th root bs):ub<w.heap.size:=by
 obtain ⟨A,cap,h1,_⟩:=h;exact h1.lt
theorem TB.uniq {w:World}{ub kb g0:Nat}{c:Cl}{av tv:Value}{th root:Int}{bs bs':List Bool}(h:TB w ub kb g0 c av tv th root bs)(h':TB w ub kb g0 c av tv th root bs'):bs=bs':=by
 obtain ⟨A,cap,h1,_,h3⟩:=h;obtain ⟨A',cap',h1',_,h3'⟩:=h';have e:=h1.cbv.symm.trans h1'.cbv;simp only [Option.some.injEq,Value.slice.injEq] at e;obtain ⟨rfl,e2,rfl⟩:=e;apply List.ext_getElem e2;intro i hi hi';obtain ⟨o,e3,h4⟩:=h3 (by omega);obtain ⟨o',e3',h4'⟩:=h3' (by omega);rw [e3] at e3';simp only [Option.some.injEq,Addr.mk.injEq,true_and,and_true] at e3';subst e3';have:=(h4 i hi).symm.trans (h4' i hi');simpa using this
theorem bm7 {w:World}{ub kb:Nat}{c:Cl}{av tv bv:Value}{th root:Int}(h:ef w ub kb c av tv th root bv)(bv':Value):ef (w.setCell ⟨ub,13,none⟩ bv') ub kb c av tv th root bv':=
 ak w ub 13 bv' h
theorem am_ (ub kb g0:Nat)(c:Cl)(av tv:Value)(th root:Int)(bs:List Bool)(w:World)(h:TB w ub kb g0 c av tv th root bs)(hg:g0≠ub):
 Calls Tryz.prog 91 #[.pointer (some ⟨ub,0,none⟩)] w fun e w'=>e=.returned (.bool (ar bs).1)/\TB w' ub kb g0 c av tv th root (ar bs).2/\Fr w w' (fun k=>k=ub):=by
 have h0:=h;obtain ⟨A,cap,h1,h2,h3⟩:=h;have hc:=h1.cbv;have hz:w.frozen? ⟨ub,13,none⟩=false:=ab h1;cases bs with
 | nil=>
  go_enter Tryz.func91,Tryz.ntmps91
  go_wp2;go_ret;exact ⟨rfl,h0,Fr.refl _ _⟩
 | cons b r=>
  obtain ⟨o,rfl,h4⟩:=h3 (by simp);have hc0:=h4 0 (by simp);simp only [Nat.add_zero,List.getElem_cons_zero] at hc0;simp only [List.length_cons] at h2 hc;have tail:∀(A':Option Addr) (c':Nat),(cap=1\/(A'=some ⟨g0,o+1,none⟩/\c'=cap-1))->(cap=1->r.length<=c')->TB (w.setCell ⟨ub,13,none⟩ (.slice A' r.length c')) ub kb g0 c av tv th root r:=by
   intro A' c' hh hc1;refine ⟨A',c',bm7 h1 _,by rcases hh with e | ⟨_,e⟩;exact hc1 e;omega,fun hr=>?_⟩
   rcases hh with e | ⟨rfl,e⟩
   ·omega
   ·refine ⟨o+1,rfl,fun i hi=>?_⟩
    have:=(Fr.set1 w ub 13 (.slice (some ⟨g0,o+1,none⟩) r.length c')).cell (h4 (i+1) (by simpa using hi)) hg;simp only [List.getElem_cons_succ] at this;rw [show o+1+i=o+(i+1) by omega];exact this
  go_enter Tryz.func91,Tryz.ntmps91
  go_wp2;all_goals
   go_ret;refine ⟨rfl,tail _ _ ?_ ?_,Fr.set1 _ _ _ _⟩
   ·first
    |(left;omega)
    |(right;exact ⟨rfl,rfl⟩)
   ·intro _;first | omega | simp
attribute [local go_sem] Oper.semAt_some
def PB (ub rb kb g0:Nat)(c:Cl)(av tv:Value)(th root:Int)(b:Bool)(W W':World):Prop:=
 Fr W W' (fun k=>k=ub\/k=rb)/\∀bs,TB W ub kb g0 c av tv th root bs->(ar bs).1=!b/\TB W' ub kb g0 c av tv th root (ar bs).2/\∃v,W'.heap[rb]?=some (.cells #[.int .i64 v] 36 (0,0))/\(b=false->v=8)
def PI (W1:World)(X:Nat->Prop)(d ub rb kb g0:Nat)(c:Cl)(av tv:Value)(th root:Int)(W:World):Prop:=
 Fr W1 W (fun k=>X k\/k=d+1\/k=ub\/k=rb)/\(∃bs,TB W ub kb g0 c av tv th root bs)/\∃v,W.heap[rb]?=some (.cells #[.int .i64 v] 36 (0,0))
def b88 (w:World)(R:World->Bool->World->Prop)(e:Ending)(w':World):Prop:=∃b W1,e=.returned (.int .i64 (if b then 0 else 8))/\Fr w W1 (fun _=>False)/\R W1 b w'
theorem ag5 (gf:Nat)(lb:Array Value)(ub kb g0:Nat)(c:Cl)(av tv:Value)(th root:Int)(bs:List Bool)(w:World)(X:Nat->Prop)(R:World->Bool->World->Prop)(eg:∀args w,(callFunc gf args).run Tryz.prog w=.ok (.enter gf args) w)
 (hT:TB w ub kb g0 c av tv th root bs) (hgu:g0≠ub) (hgl:g0<w.heap.size) (hX:∀k,X k->k<w.heap.size)
 (hiter:∀(d rb:Nat) (o1 o2 o3:Obj) (W1:World),Fr w W1 (fun _=>False)->w.heap.size<=rb->rb<d->W1.heap[d]?=some o1->W1.heap[d+1]?=some o2->(∃v,W1.heap[rb]?=some (.cells #[.int .i64 v] 36 (0,0)))->
   b22 Fence.wide 0 Tryz.prog d o1 o2 o3 (PI W1 X d ub rb kb g0 c av tv th root) (PB ub rb kb g0 c av tv th root)->
   CallsIn Fence.wide 1 Tryz.prog gf (#[.func (.yield (d+1)) #[] #[]]++lb) W1 fun e W'=>(∃v,e=.returned v)/\Fr W1 W' (fun k=>X k\/k=d+1\/k=ub\/k=rb)/\∃b v,W'.heap[d+1]?=some (if b then o2 else o3)/\W'.heap[rb]?=some (.cells #[.int .i64 v] 36 (0,0))/\(b=false->v=8)/\R W1 b W')
 (hR:∀W1 b W W',R W1 b W->Fr W W' (fun k=>w.heap.size<=k/\k<W1.heap.size)->R W1 b W') :
 Calls Tryz.prog 57 #[.pointer (some ⟨ub,0,none⟩),.func (.func gf) #[] lb] w (b88 w R):=by
 have hult:=hT.lt;refine (callsIn_wide (n:=2)).1 ?_;refine callsIn_of_wp_marks Tryz.func57 rfl trivial ?_ rfl;simp only [Tryz.ntmps57,List.size_toArray,List.length_cons,List.length_nil,Nat.reduceAdd,Nat.reduceSub,Array.replicate_succ,Array.replicate_zero,List.push_toArray,List.append_toArray,List.nil_append,List.cons_append];gi_wp2_with fail
 obtain ⟨w2,hw2⟩:∃w2,(w.alloc (.cells #[.pointer (some ⟨ub,0,none⟩)] 90)).alloc (.cells #[.int .i64 0] 36)=w2:=⟨_,rfl⟩;obtain ⟨hf2,hs2,hb1,hb2⟩:=xr hw2;rw [hw2];have hz2:w2.heap.size=w.heap.size+2:=by rw [<- hw2];simp
 clear hw2 hs2;have hT2:=hT.frame hf2 id id;refine xy rfl (by decide) (gf:=gf) (lb:=lb) rfl trivial eg (PI w2 X w2.heap.size ub (w.heap.size+1) kb g0 c av tv th root) (PB ub (w.heap.size+1) kb g0 c av tv th root)
  (fun b W'=>∃W1 v,Fr w W1 (fun _=>False)/\w2.heap.size+1<W1.heap.size/\Fr w2 W' (fun k=>X k\/k=w2.heap.size+1\/k=ub\/k=w.heap.size+1)/\W'.heap[w.heap.size+1]?=some (.cells #[.int .i64 v] 36 (0,0))/\(b=false->v=8)/\R W1 b W') (fun k=>k=ub\/k=w.heap.size+1)
  {tmps:=#[.pointer (some ⟨ub,0,none⟩),.func (.func gf) #[] lb,.pointer (some ⟨w.heap.size,0,none⟩),undef,.pointer (some ⟨w.heap.size+1,0,none⟩),.func (.func gf) #[] lb,undef,undef],defers:=[]} ?_ (fun b W W' h=>h.1) (by omega) ?assign ?body ?iter ?done
 ·rintro W W' ⟨h1,⟨bs1,h3⟩,v,h4⟩ h2;exact ⟨h1.step h2 (fun k hk=>.inl (.inr (.inl hk))),⟨bs1,h3.frame h2 (by omega) (by omega)⟩,v,h2.same h4 (by omega)⟩
 case assign=>
  intro W K hK;gi_wp2
  simpa using hK
 case body=>
  rintro W ⟨hW,⟨bs1,hT1⟩,v,hv⟩;have n0:¬(X w.heap.size\/w.heap.size=w2.heap.size+1\/w.heap.size=ub\/w.heap.size=w.heap.size+1):=by
   rintro (e | e | e | e)
   ·have:=hX _ e;omega
   ·omega
   ·omega
   ·omega
  have c0:W.cell? ⟨w.heap.size,0,none⟩=some (.pointer (some ⟨ub,0,none⟩)):=aa (o:=0) (hW.same hb1 n0) rfl;have hp:=CallsIn.inRound (w2.heap.size+1) ((callsIn_wide (n:=0)).2 (am_ ub kb g0 c av tv th root bs1 W hT1 hgu));have hbt:∀bs,TB W ub kb g0 c av tv th root bs->bs=bs1:=fun bs h=>h.uniq hT1
  clear hW hiter hR hz2;cases hb:(ar bs1).1 with
  | false=>
   rw [hb] at hp;gi_wp2_with ((try refine ⟨trivial,rfl,?_⟩);refine hp.mono ?_;rintro e W2 ⟨rfl,hT3,hf3⟩)
   refine ⟨hf3.mono (fun k hk=>.inl hk),fun bs h=>?_⟩
   rw [hbt bs h];exact ⟨by rw [hb];rfl,hT3,v,hf3.same hv (by omega),fun h=>by cases h⟩
  | true=>
   rw [hb] at hp;have hub2:ub≠w.heap.size+1:=by omega
   have hgu2:g0≠w.heap.size+1:=by omega
   gi_wp2_with ((try refine ⟨trivial,rfl,?_⟩);refine hp.mono ?_;rintro e W2 ⟨rfl,hT3,hf3⟩;have hv2:=hf3.same hv (fun e=>hub2 e.symm);have cv:=aa (o:=0) hv2 rfl;have zv:=ab (o:=0) hv2)
   have hf4:=Fr.set1 W2 (w.heap.size+1) 0 (.int .i64 8);refine ⟨(hf3.mono (fun k hk=>.inl hk)).step hf4 (fun k hk=>.inl (.inr hk)),fun bs h=>?_⟩
   rw [hbt bs h];exact ⟨by rw [hb];rfl,hT3.frame hf4 hub2 hgu2,8,ak W2 (w.heap.size+1) 0 (.int .i64 8) hv2,fun _=>rfl⟩
 case iter=>
  intro o1 o2 o3 W1 hf1 hd hl hgo;have hF1:Fr w W1 (fun _=>False):=hf2.step hf1 (fun _=>False.elim);refine (hiter w2.heap.size (w.heap.size+1) o1 o2 o3 W1 hF1 (by omega) (by omega) hd hl ⟨0,hf1.same hb2 id⟩ ?_).mono ?_
  ·rintro W ⟨hW,hW2⟩ h1 h2;exact hgo W ⟨(hf1.mono (fun _=>False.elim)).step hW (fun k hk=>.inl hk),hW2⟩ h1 h2
  ·rintro e W' ⟨he,hfr,b,v,ho2,hv,h8,hR1⟩;refine ⟨he,hfr.same hd ?_,b,ho2,W1,v,hF1,(Array.getElem?_eq_some_iff.1 hl).1,(hf1.mono (fun _=>False.elim)).step hfr (fun k hk=>.inl hk),hv,h8,hR1⟩;rintro (e | e | e | e)
   ·have:=hX _ e;omega
   ·omega
   ·omega
   ·omega
 case done=>
  rintro b W W' ⟨W1,v,hF1,hlt,hFW,hb2v,h8,hR1⟩ hf hK;have hb2':=hf.same hb2v (by omega);have hR2:=hR W1 b W W' hR1 (hf.mono (fun k hk=>by rw [hk];omega));have HZ:Hid (w2.heap.size=w.heap.size+2):=hz2;clear hz2;cases b with
  | true=>
   have c0:=aa (o:=0) hb2' rfl;have z0:=ab (o:=0) hb2';clear hf;simp only [if_true];gi_wp2
   have hz2:=HZ.out;have hf3:=Fr.set1 W' (w.heap.size+1) 0 (.int .i64 0);have hK2:=hf3.same hK (by omega);have hb3:=ak W' (w.heap.size+1) 0 (.int .i64 0) hb2';have hR3:=hR W1 true W' _ hR2 (hf3.mono (fun k hk=>by rw [hk];omega));generalize W'.setCell ⟨w.heap.size+1,0,none⟩ (.int .i64 0)=W2 at hK2 hb3 hR3;refine ⟨by simp,.inl ⟨_,_,rfl,run_takeDeferred hK2,?_⟩⟩;have hf4:=pc W2 w2.heap.size (.deferred none);have hb4:=hf4.same hb3 (by omega);have hR4:=hR W1 true W2 _ hR3 (hf4.mono (fun k hk=>by rw [hk];omega));have c4:=aa (o:=0) hb4 rfl;generalize W2.putObj w2.heap.size (.deferred none)=W3 at hR4 c4;refine ⟨.int .i64 0,?_,true,W1,rfl,hF1,hR4⟩;simp [results,Tryz.results57,go_sem,c4]
  | false=>
   obtain rfl:v=8:=h8 rfl;clear hf;simp only [Bool.false_eq_true,if_false];gi_wp2
   have hz2:=HZ.out;refine ⟨by simp,.inl ⟨_,_,rfl,run_takeDeferred hK,?_⟩⟩;have hf4:=pc W' w2.heap.size (.deferred none);have hb4:=hf4.same hb2' (by omega);have hR4:=hR W1 false W' _ hR2 (hf4.mono (fun k hk=>by rw [hk];omega));have c4:=aa (o:=0) hb4 rfl;generalize W'.putObj w2.heap.size (.deferred none)=W3 at hR4 c4;refine ⟨.int .i64 8,?_,false,W1,rfl,hF1,hR4⟩;simp [results,Tryz.results57,go_sem,c4]
attribute [local go_sem] Oper.semAt_some
theorem am7 {σ:Type}{step:σ->σ}{done:σ->Bool}{n:Nat}{S:σ}{bs:List Bool}(h:done S=false):
 ao step done (n+1) S bs=if (ar bs).1 then (step S,(ar bs).2,false) else ao step done n (step S) (ar bs).2:=by
 cases bs with
 | nil=>simp [ao,h,ar]
 | cons b r=>cases b<;>simp [ao,h,ar]
structure Far (W1:World)(kb ub rb g0 d wb:Nat)(V:ah):Prop where
 nub:¬V.fd kb ub
 ng0:¬V.fd kb g0
 nrb:¬V.fd kb rb
 nd:¬V.fd kb d
 nd1:¬V.fd kb (d+1)
 nwb:¬V.fd kb wb
 ul:ub<W1.heap.size
 gl:g0<W1.heap.size
 rl:rb<d
 dl:d+1<W1.heap.size
 wl:wb<W1.heap.size
 wd:wb≠d+1
 wu:wb≠ub
 wr:wb≠rb
 ud:ub≠d/\ub≠d+1
 ur:ub≠rb
 gd:g0≠d+1
 gu:g0≠ub
 gr:g0≠rb
 two:2<=d/\2<=ub/\2<=rb
structure b47 (W1:World)(kb ub rb g0 d:Nat)(c:Cl)(av tv:Value)(th root:Int)(V:ah)(y:KS×List Bool×Bool)(o2:Obj)(k:Nat)(wr:World)(S:KS)(V':ah)(bs:List Bool):Prop where
 kd:s_ wr kb S V'
 good:cm S
 ends:xx bh bz k S
 left:ao bh bz k S bs=y
 fr:Fr W1 wr (fun k=>V.fd kb k\/k=d+1\/k=ub\/k=rb)
 sub:∀k,V'.fd kb k->V.fd kb k\/W1.heap.size<=k
 o2:wr.heap[d+1]?=some o2
 tb:TB wr ub kb g0 c av tv th root bs
 rb:∃v,wr.heap[rb]?=some (.cells #[.int .i64 v] 36 (0,0))
structure b45 (W1:World)(kb ub rb g0 d:Nat)(c:Cl)(av tv:Value)(th root:Int)(V:ah)(y:KS×List Bool×Bool)(o2 o3:Obj)(W':World):Prop where
 ex:∃V',s_ W' kb y.1 V'/\∀k,V'.fd kb k->V.fd kb k\/W1.heap.size<=k
 fr:Fr W1 W' (fun k=>V.fd kb k\/k=d+1\/k=ub\/k=rb)
 tb:TB W' ub kb g0 c av tv th root y.2.1
 o:W'.heap[d+1]?=some (if y.2.2 then o2 else o3)
 rb:∃v,W'.heap[rb]?=some (.cells #[.int .i64 v] 36 (0,0))/\(y.2.2=false->v=8)
theorem av_ (kb wb ub rb g0 d:Nat)(c:Cl)(av tv:Value)(th root:Int)(bs:List Bool)(o1 o2 o3:Obj)(S:KS)(V:ah)(W1:World)(h:s_ W1 kb S V)(hg:cm S)(hb:W1.heap[wb]?=some (.cells #[.pointer (some ⟨kb,0,none⟩)] 34 (0,0)))
 (hA:Far W1 kb ub rb g0 d wb V) (hT:TB W1 ub kb g0 c av tv th root bs) (hd:W1.heap[d]?=some o1) (hl:W1.heap[d+1]?=some o2) (hrb:∃v,W1.heap[rb]?=some (.cells #[.int .i64 v] 36 (0,0)))
 (hgo:b22 Fence.wide 0 Tryz.prog d o1 o2 o3 (PI W1 (V.fd kb) d ub rb kb g0 c av tv th root) (PB ub rb kb g0 c av tv th root)) :
 CallsIn Fence.wide 1 Tryz.prog 92 #[.func (.yield (d+1)) #[] #[],.pointer (some ⟨wb,0,none⟩)] W1 fun e W'=>(∃v,e=.returned v)/\b45 W1 kb ub rb g0 d c av tv th root V (ao bh bz F0 S bs) o2 o3 W':=by
 have hdd:∀k:Nat,(Fence.wide.depth.isSome=true->1<=k):=fun k h=>by cases h
 refine callsIn_of_wp Tryz.func92 rfl trivial ?_ rfl;simp only [Tryz.ntmps92,List.size_toArray,List.length_cons,List.length_nil,Nat.reduceAdd,Nat.reduceSub,Array.replicate_succ,Array.replicate_zero,List.push_toArray,List.append_toArray,List.nil_append,List.cons_append];obtain ⟨y,hy⟩:∃y,Hid (y=ao bh bz F0 S bs):=⟨_,rfl⟩;rw [<- hy.out];gi_wp2
 gi_loopg [8] F0 (fun k _ wr=>∃S' V' bs',b47 W1 kb ub rb g0 d c av tv th root V y o2 k wr S' V' bs')
 case atStart=>exact ⟨S,V,bs,h,hg,hg.ends,hy.out.symm,Fr.refl _ _,fun k hk=>.inl hk,hl,hT,hrb⟩
 case round=>
  obtain ⟨S',V',bs',hI⟩:=hrel;obtain ⟨hK,hG,hE,hL,hF,hsub,ho2,hTB,hRB⟩:=hI;have nwb:¬(V.fd kb wb\/wb=d+1\/wb=ub\/wb=rb):=by
   rintro (e | e | e | e)
   ·exact hA.nwb e
   ·exact hA.wd e
   ·exact hA.wu e
   ·exact hA.wr e
  have c0:wr.cell? ⟨wb,0,none⟩=some (.pointer (some ⟨kb,0,none⟩)):=aa (o:=0) (hF.same hb nwb) rfl;have c1:=hK.kd.ker.cd;by_cases hD:bz S'=true
  ·obtain ⟨K',D'⟩:=S';have hD':D'=[]:=by simpa [bz] using hD
   subst hD';obtain ⟨A,cap,hdv⟩:=hK.kd.nil;rw [hdv] at c1;have hfin:Hid (y=(⟨K',[]⟩,bs',true)):=by
    show _=_;rw [<- hL];cases gk with
    | zero=>rfl
    | succ n=>simp [ao,hD]
   clear hdd hE hG hL;gi_wp2
   go_end0;refine ⟨⟨_,rfl⟩,?_⟩;rw [hfin.out];obtain ⟨v,hv⟩:=hRB;exact ⟨⟨V',hK,hsub⟩,hF,hTB,ho2,v,hv,fun h=>by cases h⟩
  ·have hD2:bz S'=false:=by simpa using hD
   obtain ⟨n,rfl⟩:∃n,gk=n+1:=by
    cases gk with
    | zero=>exact absurd hE hD
    | succ n=>exact ⟨n,rfl⟩
   have hE2:xx bh bz n (bh S'):=hE.resolve_left hD;have hL2:y=if (ar bs').1 then (bh S',(ar bs').2,false) else ao bh bz n (bh S') (ar bs').2:=by rw [<- hL];exact am7 hD2
   obtain ⟨K',D'⟩:=S';have hne:D'≠[]:=fun e=>by rw [e] at hD2;cases hD2
   obtain ⟨A,⟨nd,left⟩,hAD⟩:∃A e,D'=A++[e]:=⟨D'.dropLast,D'.getLast hne,(List.dropLast_concat_getLast hne).symm⟩;have hwl:=(callsIn_wide (n:=0)).2 (ax8 kb _ V' wr hK hG hD2);have hdv:∃g cap,V'.dv=.slice (some ⟨g,0,none⟩) (A.length+1) cap:=by
    subst hAD;obtain ⟨g,cap,hd,_⟩:=hK.kd.last;exact ⟨g,cap,hd⟩
   obtain ⟨g,cap,hdv⟩:=hdv;rw [hdv] at c1;have hpos:(0:Int)<((A.length+1:Nat):Int):=by omega
   have hgood2:=hG.step;have key:∀W2,fg wr kb V' (bh ⟨K',D'⟩) W2->YieldAt Fence.wide 0 Tryz.prog (d+1) #[] W2 fun e W'=>e=.returned (.bool (!(ar bs').1))/\
    ((ar bs').1=false->∃V2,b47 W1 kb ub rb g0 d c av tv th root V y o2 n W' (bh ⟨K',D'⟩) V2 (ar bs').2)/\((ar bs').1=true->b45 W1 kb ub rb g0 d c av tv th root V y o2 o3 W'):=by
    rintro W2 ⟨V2,hK2,hf2,hs2⟩;have far:∀x,¬V.fd kb x->x<W1.heap.size->¬V'.fd kb x:=fun x h1 h2 e=>(hsub x e).elim h1 (fun e=>by omega)
    have hF2:Fr W1 W2 (fun k=>V.fd kb k\/k=d+1\/k=ub\/k=rb):=hF.step hf2 (fun k hk=>by
     rcases hsub k hk with e | e
     ·exact .inl (.inl e)
     ·exact .inr e)
    have nd:¬(V.fd kb d\/d=d+1\/d=ub\/d=rb):=by
     rintro (e | e | e | e)
     ·exact hA.nd e
     ·omega
     ·exact hA.ud.1 e.symm
     ·have:=hA.rl;omega
    have hdl:=hA.dl;have hrl:=hA.rl;have hd2:W2.heap[d]?=some o1:=hF2.same hd nd;have hl2:W2.heap[d+1]?=some o2:=hf2.same ho2 (far _ hA.nd1 hA.dl);have hT2:=hTB.frame hf2 (far _ hA.nub hA.ul) (far _ hA.ng0 hA.gl);obtain ⟨v,hv⟩:=hRB;have hv2:=hf2.same hv (far _ hA.nrb (by omega));refine YieldAt.mono (hgo W2 ⟨hF2,⟨_,hT2⟩,v,hv2⟩ hd2 hl2) ?_;rintro e W3 ⟨b,Wb,Wc,he,hfb,⟨hfp,hpb⟩,hfc,ho3⟩;obtain ⟨q1,q2,v3,q3,q4⟩:=hpb _ (hT2.frame hfb (fun e=>hA.ud.2 e) (fun e=>hA.gd e));have hTc:=q2.frame hfc (fun e=>hA.ud.2 e) (fun e=>hA.gd e);have hvc:=hfc.same q3 (fun e=>by omega);have hfall:Fr W2 W3 (fun k=>k=d+1\/k=ub\/k=rb):=((hfb.mono (fun k hk=>.inl hk)).step hfp (fun k hk=>.inl (.inr hk))).step hfc (fun k hk=>.inl (.inl hk))
    have hsub2:∀k,V2.fd kb k->V.fd kb k\/W1.heap.size<=k:=fun k hk=>by
     rcases hs2 k hk with e | e
     ·exact hsub k e
     ·exact .inr (Nat.le_trans hF.size e)
    have hul:=hA.ul;have hK3:=hK2.frame hfall (fun k hk e=>by
     rcases hsub2 k hk with e1 | e1
     ·rcases e with e | e | e
      ·exact hA.nd1 (e▸e1)
      ·exact hA.nub (e▸e1)
      ·exact hA.nrb (e▸e1)
     ·rcases e with e | e | e<;>omega) (fun k e=>by have:=hA.two;rcases e with e | e | e<;>omega)
    have hF3:=hF2.step hfall (fun k hk=>.inl (.inr hk))
    refine ⟨by rw [he,q1];simp,fun hp=>?_,fun hp=>?_⟩
    ·have hbt:b=true:=by rw [hp] at q1;cases b with | true=>rfl | false=>cases q1
     subst hbt;rw [hp] at hL2;exact ⟨V2,hK3,hgood2,hE2,by rw [hL2];rfl,hF3,hsub2,ho3,hTc,v3,hvc⟩
    ·have hbf:b=false:=by rw [hp] at q1;cases b with | false=>rfl | true=>cases q1
     subst hbf;rw [hp,if_pos rfl] at hL2;rw [hL2];exact ⟨⟨V2,hK3,hsub2⟩,hF3,hTc,ho3,v3,hvc,fun _=>q4 rfl⟩
   clear hgo hK hG hE hL hF hsub ho2 hE2 hL2 hD hgood2 hTB hRB;cases hp:(ar bs').1 with
   | false=>
    rw [hp] at key;gi_wp2_with (first
     |(refine ⟨trivial,hwl.mono ?_⟩;rintro e W2 ⟨rfl,ho⟩;obtain ⟨fn,tmps,assign,body,hy,hR⟩:=key W2 ho)
     |((try refine ⟨hdd _,?_⟩);refine hR.mono ?_;clear hR;rintro e W3 ⟨rfl,hI3,_⟩))
    obtain ⟨V3,hI3⟩:=hI3 trivial;gi_roundg n
    case measure=>omega
    case rel=>exact ⟨_,V3,_,hI3⟩
   | true=>
    rw [hp] at key;gi_wp2_with (first
     |(refine ⟨trivial,hwl.mono ?_⟩;rintro e W2 ⟨rfl,ho⟩;obtain ⟨fn,tmps,assign,body,hy,hR⟩:=key W2 ho)
     |((try refine ⟨hdd _,?_⟩);refine hR.mono ?_;clear hR;rintro e W3 ⟨rfl,_,hI3⟩))
    (try simp only [Exit.inBlock,Exit.then]);refine bodyPost_ret (results_none rfl _ _ _) rfl ?_
    exact ⟨⟨_,rfl⟩,hI3 trivial⟩
def fc (w:World)(kb ub g0:Nat)(c:Cl)(av tv:Value)(th root:Int)(V:ah)(S':KS)(bs:List Bool)(w':World):Prop:=
 ∃V',s_ w' kb S' V'/\Fr w w' (fun k=>V.fd kb k\/k=ub)/\(∀k,V'.fd kb k->V.fd kb k\/w.heap.size<=k)/\TB w' ub kb g0 c av tv th root bs
structure Apt (w:World)(kb ub g0:Nat)(V:ah):Prop where
 u:¬V.fd kb ub
 g:¬V.fd kb g0
 gu:g0≠ub
 gl:g0<w.heap.size
 u2:2<=ub
theorem Apt.next {w w':World}{kb ub g0:Nat}{V V':ah}(h:Apt w kb ub g0 V)(hul:ub<w.heap.size)(hs:w.heap.size<=w'.heap.size)(hn:∀k,V'.fd kb k->V.fd kb k\/w.heap.size<=k):Apt w' kb ub g0 V':=
 ⟨fun e=>(hn _ e).elim h.u (fun e=>by omega),fun e=>(hn _ e).elim h.g (fun e=>by have:=h.gl;omega),h.gu,by have:=h.gl;omega,h.u2⟩
theorem fc.of {w w1 w2:World}{kb ub g0:Nat}{c:Cl}{av tv:Value}{th root:Int}{V:ah}{S:KS}{bs:List Bool}(hf:Fr w w1 (fun _=>False))(h:fc w1 kb ub g0 c av tv th root V S bs w2):fc w kb ub g0 c av tv th root V S bs w2:=by
 obtain ⟨V1,k1,f1,s1,t1⟩:=h;exact ⟨V1,k1,(hf.mono (fun _=>False.elim)).step f1 (fun _ e=>.inl e),fun k hk=>(s1 k hk).imp id (fun e=>Nat.le_trans hf.size e),t1⟩
theorem fc.then {w w1 w2:World}{kb ub g0:Nat}{c:Cl}{av tv:Value}{th root:Int}{V V1:ah}{S:KS}{bs:List Bool}(f1:Fr w w1 (fun k=>V.fd kb k\/k=ub))(s1:∀k,V1.fd kb k->V.fd kb k\/w.heap.size<=k)(h:fc w1 kb ub g0 c av tv th root V1 S bs w2):fc w kb ub g0 c av tv th root V S bs w2:=by
 obtain ⟨V2,k2,f2,s2,t2⟩:=h;refine ⟨V2,k2,f1.step f2 (fun k e=>?_),fun k hk=>?_,t2⟩
 ·rcases e with e | e
  ·exact (s1 k e).imp .inl id
  ·exact .inl (.inr e)
 ·rcases s2 k hk with e | e
  ·exact s1 k e
  ·exact .inr (Nat.le_trans f1.size e)
theorem zr {kb ub wb g0:Nat}{c:Cl}{av tv:Value}{th root:Int}{S:KS}{V:ah}{bs:List Bool}{w:World}(h:s_ w kb S V)(hg:cm S)(hT:TB w ub kb g0 c av tv th root bs)(hA:Apt w kb ub g0 V)(hb:w.heap[wb]?=some (.cells #[.pointer (some ⟨kb,0,none⟩)] 34 (0,0)))(hwb:¬V.fd kb wb)(hwu:wb≠ub):
 Calls Tryz.prog 57 #[.pointer (some ⟨ub,0,none⟩),.func (.func 92) #[] #[.pointer (some ⟨wb,0,none⟩)]] w fun e w'=>
  e=.returned (.int .i64 (if (ao bh bz F0 S bs).2.2 then 0 else 8))/\fc w kb ub g0 c av tv th root V (ao bh bz F0 S bs).1 (ao bh bz F0 S bs).2.1 w':=by
 have hwlt:wb<w.heap.size:=(Array.getElem?_eq_some_iff.1 hb).1;have hul:=hT.lt;have h2:=h.gl.lt;have hgl:=hA.gl;have hn:∀k,w.heap.size<=k->¬V.fd kb k:=fun k hk e=>by have:=h.lt e;omega
 generalize hy:ao bh bz F0 S bs=y;refine (ag5 92 #[.pointer (some ⟨wb,0,none⟩)] ub kb g0 c av tv th root bs w (V.fd kb)
  (fun W1 b W'=>b=y.2.2/\∃V',s_ W' kb y.1 V'/\Fr w W' (fun k=>V.fd kb k\/k=ub)/\(∀k,V'.fd kb k->V.fd kb k\/W1.heap.size<=k)/\TB W' ub kb g0 c av tv th root y.2.1) bz_ hT hA.gu hA.gl (fun k hk=>h.lt hk) ?_ ?_).mono ?_
 ·intro d rb o1 o2 o3 W1 hf1 hwr hrd hd hl hrb hgo;have hs1:=hf1.size;have hdl:d+1<W1.heap.size:=(Array.getElem?_eq_some_iff.1 hl).1;rw [show (#[.func (.yield (d+1)) #[] #[]]++#[.pointer (some ⟨wb,0,none⟩)]:Array Value)=#[.func (.yield (d+1)) #[] #[],.pointer (some ⟨wb,0,none⟩)] from rfl];have hfar:Far W1 kb ub rb g0 d wb V:=⟨hA.u,hA.g,hn _ hwr,hn _ (by omega),hn _ (by omega),hwb,by omega,by omega,hrd,hdl,by omega,by omega,hwu,by omega,⟨by omega,by omega⟩,by omega,by omega,hA.gu,by omega,⟨by omega,hA.u2,by omega⟩⟩;refine (av_ kb wb ub rb g0 d c av tv th root bs o1 o2 o3 S V W1 (h.frame hf1 (fun _ _=>id) (fun _=>False.elim)) hg (hf1.same hb id) hfar (hT.frame hf1 id id) hd hl hrb hgo).mono ?_;rintro e W' ⟨he,hE⟩;rw [hy] at hE;obtain ⟨⟨V',hk,hs⟩,hfr,htb,ho,v,hv,h8⟩:=hE;refine ⟨he,hfr,y.2.2,v,ho,hv,h8,rfl,V',hk,(hf1.mono (fun _=>False.elim)).step hfr (fun k hk=>?_),hs,htb⟩;rcases hk with e | e | e | e
  ·exact .inl (.inl e)
  ·exact .inr (by omega)
  ·exact .inl (.inr e)
  ·exact .inr (by omega)
 ·rintro W1 b W W' ⟨hb',V',hk,hf,hs,ht⟩ hfr;refine ⟨hb',V',hk.frame hfr (fun k hk e=>?_) (fun k e=>by omega),hf.step hfr (fun k e=>.inr e.1),hs,ht.frame hfr (fun e=>by omega) (fun e=>by omega)⟩;rcases hs k hk with e1 | e1
  ·have:=h.lt e1;omega
  ·omega
 ·rintro e w' ⟨b,W1,he,hf1,rfl,V',hk,hf,hs,ht⟩;exact ⟨he,V',hk,hf,fun k hk=>(hs k hk).imp id (fun e=>Nat.le_trans hf1.size e),ht⟩
theorem as1 (kb ub g0:Nat)(S:KS)(V:ah)(c:Cl)(av tv:Value)(th root:Int)(bs:List Bool)(s:Slot)(k:KCap)(w:World)(h:s_ w kb S V)(hg:cm S)(hT:TB w ub kb g0 c av tv th root bs)(hA:Apt w kb ub g0 V)(hk:S.K.held s=some k):
 Calls Tryz.prog 71 #[.pointer (some ⟨ub,0,none⟩),.agg #[.int .i64 s.node,.int .i64 s.index]] w fun e w'=>e=.returned (.int .i64 (eu S s bs).1)/\fc w kb ub g0 c av tv th root V (eu S s bs).2.1 (eu S s bs).2.2 w':=by
 have hult:=hT.lt;have hg2:=hg.take hk;have hgl:=hA.gl;generalize hyy:eu S s bs=y;have HY:Hid (eu S s bs=y):=hyy;clear hyy;have hta:∀w0,Fr w w0 (fun _=>False)->Calls Tryz.prog 101 #[.pointer (some ⟨kb,0,none⟩),.agg #[.int .i64 s.node,.int .i64 s.index]] w0 fun e w'=>e=.returned (.tuple #[])/\fc w kb ub g0 c av tv th root V (iz S s) bs w':=by
  intro w0 hf0;have h0:=h.frame hf0 (fun _ _=>id) (fun _=>False.elim);refine (ac9 kb S V s k w0 h0.kd h0.gl hk hg.tree hg.sums (by have:=hg.lenD;omega) hg.qs (fun b n r g e=>hg.hen s b n r g (by rw [<- e];exact hk))).mono ?_
  rintro e w' ⟨he,ho⟩;obtain ⟨V1,k1,f1,s1⟩:=fg.of hf0 (h0.out ho);exact ⟨he,V1,k1,f1.mono (fun k hk=>.inl hk),s1,hT.frame f1 hA.u hA.g⟩
 have hpw:∀w1 V1 bs1,s_ w1 kb (iz S s) V1->Apt w1 kb ub g0 V1->TB w1 ub kb g0 c av tv th root bs1->Calls Tryz.prog 57 #[.pointer (some ⟨ub,0,none⟩),.func (.func 92) #[] #[.pointer (some ⟨w1.heap.size,0,none⟩)]] (w1.alloc (.cells #[.pointer (some ⟨kb,0,none⟩)] 34))
  fun e w'=>e=.returned (.int .i64 (if (ao bh bz F0 (iz S s) bs1).2.2 then 0 else 8))/\fc w1 kb ub g0 c av tv th root V1 (ao bh bz F0 (iz S s) bs1).1 (ao bh bz F0 (iz S s) bs1).2.1 w':=by
  intro w1 V1 bs1 k1 hA1 ht1;have hf:=(Fr.refl w1 (fun _=>False)).alloc (.cells #[.pointer (some ⟨kb,0,none⟩)] 34);have:=ht1.lt;refine (zr (k1.frame hf (fun _ _=>id) (fun _=>False.elim)) hg2 (ht1.frame hf id id) (hA1.next this hf.size (fun k hk=>.inl hk)) (heap_alloc_new _ _) (fun e=>by have:=k1.lt e;omega) (by omega)).mono ?_;rintro e w' ⟨he,ho⟩;exact ⟨he,fc.of hf ho⟩
 obtain ⟨A0,cap0,hu,_⟩:=id hT;have hu0:=hu.frame ((Fr.refl w (fun _=>False)).alloc (.cells #[.int .i64 s.node,.int .i64 s.index] 71)) id;go_enter Tryz.func71,Tryz.ntmps71
 clear hg2 hg h hk hu;go_upto_region 1 with fail
 generalize hW0:w.alloc _=W0 at hu0;have hf0:Fr w W0 (fun _=>False):=by rw [<- hW0];exact (Fr.refl _ _).alloc _
 have hb0:W0.heap[w.heap.size]?=some (.cells #[.int .i64 s.node,.int .i64 s.index] 71 (0,0)):=by rw [<- hW0];exact heap_alloc_new _ _
 clear hW0;have hta0:=hta W0.drew hf0.drew;have s0:=aa (o:=0) hb0 rfl;have s1:=aa (o:=1) hb0 rfl;have cu:=hu0.ck;go_cut [10] (fun _ wx=>fc w kb ub g0 c av tv th root V (iz S s) bs wx)
 case first=>
  go_region_law (go_simp;go_at_call 101;refine hta0.mono ?_;rintro e W3 ⟨rfl,ho3⟩)
  all_goals
   go_wp2;go_meet;case rel=>exact ho3
 case rest=>
 obtain ⟨V1,k1,f1,n1,t1⟩:=hcut;clear hta hta0 s0 s1 cu hb0 hu0;have hA1:=hA.next hult f1.size n1;have hp:=am_ ub kb g0 c av tv th root bs wc t1 hA.gu;cases hb:(ar bs).1 with
 | true=>
  have hy1:Hid (y=(8,iz S s,(ar bs).2)):=by show _=_;rw [<- HY.out];unfold eu;rw [if_pos hb]
  rw [hb] at hp;go_wp2_with (go_at_call 91;go_must (refine hp.mono ?_);rintro e W4 ⟨rfl,t4,f4⟩)
  go_ret;rw [hy1.out];refine ⟨rfl,V1,k1.frame f4 (fun k hk e=>hA1.u (e▸hk)) (fun k e=>by have:=hA.u2;omega),f1.step f4 (fun k e=>.inl (.inr e)),n1,t4⟩
 | false=>
  have hy1:Hid (y=(if (ao bh bz F0 (iz S s) (ar bs).2).2.2 then 0 else 8,(ao bh bz F0 (iz S s) (ar bs).2).1,(ao bh bz F0 (iz S s) (ar bs).2).2.1)):=by
   show _=_;rw [<- HY.out];unfold eu;rw [if_neg (by rw [hb];decide)]
  rw [hb] at hp;go_upto_region 4 with (go_at_call 91;go_must (refine hp.mono ?_);rintro e W4 ⟨rfl,t4,f4⟩)
  have k4:=k1.frame f4 (fun k hk e=>hA1.u (e▸hk)) (fun k e=>by have:=hA.u2;omega)
  have hA4:=hA1.next t1.lt f4.size (fun k hk=>.inl hk);have hpw4:=hpw W4 V1 _ k4 hA4 t4;have hy2:=hy1.out;generalize (if (ao bh bz F0 (iz S s) (ar bs).2).2.2 then (0:Int) else 8)=r at hpw4 hy2;have HY2:Hid (_=_):=hy2;clear hy1 hy2;obtain ⟨A4,cap4,hu4,_⟩:=id t4;have cu4:=hu4.ck;go_wp2_with (first
   |(go_at_call 58;go_must (refine (pq kb _).mono ?_);rintro e w' ⟨rfl,rfl⟩)
   |(go_at_call 57;go_must (refine hpw4.mono ?_);rintro e w2 ⟨rfl,ho2⟩))
  go_ret;rw [HY2.out];refine ⟨rfl,fc.then (V1:=V1) (f1.step f4 (fun k e=>.inl (.inr e))) n1 ho2⟩
structure mj (w:World)(kb ub g0:Nat)(S:KS)(V:ah)(c:Cl)(av tv:Value)(th root:Int)(bs:List Bool):Prop where
 kd:s_ w kb S V
 good:cm S
 tb:TB w ub kb g0 c av tv th root bs
 at_:ay w av c.at_
 ti:ay w tv c.to
 al:c.at_.length<=9000000000000000000
 tl:c.to.length<=9000000000000000000
 ac:∀A n cap,av=.slice A n cap->n<=cap
 tc:∀A n cap,tv=.slice A n cap->n<=cap
 apt:Apt w kb ub g0 V
 da:0<c.at_.length->∀k,av.ownBlock=some k->¬V.fd kb k/\k≠ub
 dt:0<c.to.length->∀k,tv.ownBlock=some k->¬V.fd kb k/\k≠ub
theorem mj.call {w:World}{kb ub g0:Nat}{S:KS}{V:ah}{c:Cl}{av tv:Value}{th root:Int}{bs:List Bool}(h:mj w kb ub g0 S V c av tv th root bs):∃bv,de w kb ub V c av tv bv th root:=by
 obtain ⟨A,cap,h1,_⟩:=h.tb;exact ⟨_,h.kd.kd.ker,h1,h.at_,h.ti,h.al,h.tl,h.ac,h.tc,fun e=>h.apt.u (.inl e),h.kd.kids h.good⟩
theorem mj.past {w w':World}{kb ub g0:Nat}{S S':KS}{V V':ah}{c:Cl}{av tv:Value}{th root:Int}{bs bs':List Bool}(h:mj w kb ub g0 S V c av tv th root bs)(hk:s_ w' kb S' V')(hg:cm S')(hf:Fr w w' (fun k=>V.fd kb k\/k=ub))(hs:∀k,V'.fd kb k->V.fd kb k\/w.heap.size<=k)(ht:TB w' ub kb g0 c av tv th root bs'):mj w' kb ub g0 S' V' c av tv th root bs':=by
 refine ⟨hk,hg,ht,h.at_.frk hf (fun h0 k hk e=>e.elim (h.da h0 k hk).1 (h.da h0 k hk).2),h.ti.frk hf (fun h0 k hk e=>e.elim (h.dt h0 k hk).1 (h.dt h0 k hk).2),h.al,h.tl,h.ac,h.tc,h.apt.next h.tb.lt hf.size hs,fun h0 k hk=>⟨fun e=>?_,(h.da h0 k hk).2⟩,fun h0 k hk=>⟨fun e=>?_,(h.dt h0 k hk).2⟩⟩
 ·rcases hs _ e with e | e
  ·exact (h.da h0 k hk).1 e
  ·have:=h.at_.ltk h0 k hk;omega
 ·rcases hs _ e with e | e
  ·exact (h.dt h0 k hk).1 e
  ·have:=h.ti.ltk h0 k hk;omega
theorem mj.frame {w w':World}{kb ub g0:Nat}{S:KS}{V:ah}{c:Cl}{av tv:Value}{th root:Int}{bs:List Bool}(h:mj w kb ub g0 S V c av tv th root bs)(hf:Fr w w' (fun _=>False)):mj w' kb ub g0 S V c av tv th root bs:=
 h.past (h.kd.frame hf (fun _ _=>id) (fun _=>False.elim)) h.good (hf.mono (fun _=>False.elim)) (fun _ e=>.inl e) (h.tb.frame hf id id)
theorem mj.polled {w w1:World}{kb ub g0 wb:Nat}{S:KS}{V:ah}{c:Cl}{av tv:Value}{th root:Int}{bs:List Bool}(h:mj w kb ub g0 S V c av tv th root bs)(hf:Fr w w1 (fun _=>False))(hwb:w.heap.size<=wb)(hb:w1.heap[wb]?=some (.cells #[.pointer (some ⟨kb,0,none⟩)] 34 (0,0))):
 Calls Tryz.prog 57 #[.pointer (some ⟨ub,0,none⟩),.func (.func 92) #[] #[.pointer (some ⟨wb,0,none⟩)]] w1 fun e w'=>e=.returned (.int .i64 (if (ao bh bz F0 S bs).2.2 then 0 else 8))/\
  ∃V',mj w' kb ub g0 (ao bh bz F0 S bs).1 V' c av tv th root (ao bh bz F0 S bs).2.1/\Fr w w' (fun k=>V.fd kb k\/k=ub)/\(∀k,V'.fd kb k->V.fd kb k\/w1.heap.size<=k)/\Fr w1 w' (fun k=>V.fd kb k\/k=ub):=by
 have h1:=h.frame hf;have hul:=h.tb.lt;refine (zr h1.kd h1.good h1.tb h1.apt hb (fun e=>by have:=h.kd.lt e;omega) (by omega)).mono ?_;rintro e w' ⟨he,V',k2,f2,s2,t2⟩;have hg:cm (ao bh bz F0 S bs).1:=by obtain ⟨S',hA⟩:=h.good;exact ⟨_,(Ag.work F0 bs hA).2⟩
 exact ⟨he,V',h1.past k2 hg f2 s2 t2,(hf.mono (fun _=>False.elim)).step f2 (fun _ e=>.inl e),s2,f2⟩
def bf9 (y:KS×List Bool×Bool)(root:Int)(c:Cl):Ending:=
 if y.2.2 then pg y.1.K (az y.1.K root c.at_) else .returned (.tuple #[.agg #[.int .i64 0,.int .i64 0],.int .i64 8])
theorem wf (kb ub g0:Nat)(S:KS)(V:ah)(c:Cl)(av tv:Value)(th root:Int)(bs:List Bool)(w:World)(h:mj w kb ub g0 S V c av tv th root bs):
 Calls Tryz.prog 70 #[.pointer (some ⟨ub,0,none⟩)] w fun e w'=>e=bf9 (ao bh bz F0 S bs) root c/\fc w kb ub g0 c av tv th root V (ao bh bz F0 S bs).1 (ao bh bz F0 S bs).2.1 w':=by
 have hult:=h.tb.lt;have hu2:=h.apt.u2;obtain ⟨A0,cap0,hturn,_⟩:=id h.tb;have hpo0:=fun w1 wb (hf:Fr w w1 (fun _=>False)) (hwb:w.heap.size<=wb) hb=>h.polled (w1:=w1) (wb:=wb) hf hwb hb
 generalize ao bh bz F0 S bs=y at hpo0 ⊢;obtain ⟨S1,bs1,go⟩:=y;obtain ⟨ans,hans⟩:∃ans,Hid (bf9 (S1,bs1,go) root c=ans):=⟨_,rfl⟩;rw [hans.out];dsimp only at hpo0 ⊢;have hf0:=(Fr.refl w (fun _=>False)).alloc (.cells #[.int .i64 0,.int .i64 0] 71);have cu:=(hturn.frame hf0 id).ck;obtain ⟨hf1,hs1,hb0,hb1⟩:=xr (w:=w) (a:=.cells #[.int .i64 0,.int .i64 0] 71) (b:=.cells #[.pointer (some ⟨kb,0,none⟩)] 34) rfl;have hpo:=hpo0 _ _ hf1 (by omega) hb1;clear hpo0;cases go with
 | false=>
  have ha:ans=.returned (.tuple #[.agg #[.int .i64 0,.int .i64 0],.int .i64 8]):=hans.out.symm;clear hans;go_enter Tryz.func70,Tryz.ntmps70
  go_wp2_with (first
   |(go_at_call 58;refine (pq kb _).mono ?_;rintro e w' ⟨rfl,rfl⟩)
   |(go_at_call 57;go_must (refine hpo.mono ?_);rintro e W1 ⟨rfl,V1,h1,hF1,hs1',hF1'⟩;have hbw:=hF1'.same hb0 (fun e=>e.elim (fun e=>by have:=h.kd.lt e;omega) (fun e=>by omega));have r0:=aa (o:=0) hbw rfl;have r1:=aa (o:=1) hbw rfl;have z0:=ab (o:=0) hbw;have z1:=ab (o:=1) hbw))
  have h2:=h.kd.gl.lt;have hgl:=h.apt.gl;have hs3:∀k,V1.fd kb k->V.fd kb k\/w.heap.size<=k:=fun k hk=>(hs1' k hk).imp id (fun e=>by omega)
  have hn1:¬V1.fd kb w.heap.size:=fun e=>by
   rcases hs1' _ e with e | e
   ·have:=h.kd.lt e;omega
   ·omega
  have hW:=ra W1 w.heap.size (.int .i64 0) (.int .i64 0);refine bodyPost_ret (v:=.tuple #[.agg #[.int .i64 0,.int .i64 0],.int .i64 8]) (q_ hbw rfl rfl) rfl ⟨by first | exact ha.symm | rfl,V1,h1.kd.frame hW (fun k hk e=>hn1 (e▸hk)) (fun k e=>by omega),hF1.step hW (fun k e=>.inr (by omega)),hs3,h1.tb.frame hW (fun e=>by omega) (fun e=>by omega)⟩
 | true=>
 have ha0:pg S1.K (az S1.K root c.at_)=ans:=hans.out;clear hans;have hans:Hid (pg S1.K (az S1.K root c.at_)=ans):=ha0;clear ha0;go_enter Tryz.func70,Tryz.ntmps70
 go_wp2_with (first
  |(go_at_call 58;refine (pq kb _).mono ?_;rintro e w' ⟨rfl,rfl⟩)
  |(go_at_call 57;refine hpo.mono ?_;rintro e W1 ⟨rfl,V1,h1,hF1,hs1',hF1'⟩;obtain ⟨A1,cap1,hu1,_⟩:=id h1.tb;have cat1:=hu1.cat))
 obtain ⟨bv1,hcall1⟩:=h1.call;refine hcall1.find.mono ?_;rintro e W2 ⟨rfl,hf2⟩;have hbw:=hF1'.same hb0 (fun e=>e.elim (fun e=>by have:=h.kd.lt e;omega) (fun e=>by omega))
 have hs3:∀k,V1.fd kb k->V.fd kb k\/w.heap.size<=k:=fun k hk=>(hs1' k hk).imp id (fun e=>by omega)
 have hn1:¬V1.fd kb w.heap.size:=fun e=>by
  rcases hs1' _ e with e | e
  ·have:=h.kd.lt e;omega
  ·omega
 have houts:∀W,Fr W1 W (fun k=>k=w.heap.size)->fc w kb ub g0 c av tv th root V S1 bs1 W:=fun W hW=>by
  have h2:=h.kd.gl.lt;have hgl:=h.apt.gl;exact ⟨V1,h1.kd.frame hW (fun k hk e=>hn1 (e▸hk)) (fun k e=>by omega),hF1.step hW (fun k e=>.inr (by omega)),hs3,h1.tb.frame hW (fun e=>by omega) (fun e=>by omega)⟩
 have heq:V1.ker=S1.K:=h1.kd.kd.eq;clear cu hpo cat1 hf0 hs1 hb1 hf1 hF1' hb0 hs3 hF1 hn1;rw [heq];cases hfi:az S1.K root c.at_ with
 | none=>
  have ha:=hans.out;rw [hfi] at ha;clear hans;subst ha;unfold bd gup;go_wp2;exact ⟨rfl,rfl,houts _ (hf2.mono (fun _=>False.elim))⟩
 | some s=>
  have ha:=hans.out;rw [hfi] at ha;clear hans hfi;unfold bd jx;have hbw2:=hf2.same hbw id;go_wp2_with fail
  generalize hW3:W2.alloc _=W3;have hf3:Fr W2 W3 (fun _=>False):=by rw [<- hW3];exact (Fr.refl _ _).alloc _
  have hbs:W3.heap[W2.heap.size]?=some (.cells #[.int .i64 s.node,.int .i64 s.index] 71 (0,0)):=by rw [<- hW3];exact heap_alloc_new _ _
  clear hW3;have hF3:=hf2.step hf3 (fun _=>False.elim);have hb3:=hf3.same hbw2 id;have h3:=h1.frame hF3;obtain ⟨A3,cap3,hu3,_⟩:=id h3.tb;have c1:=hu3.ck;have c2:=h3.kd.kd.ker.ch;have s0:=aa (o:=0) hbs rfl;have s1:=aa (o:=1) hbs rfl;have hrun:=be (h3.kd.kd.ker.frame ((Fr.refl W3 (fun _=>False)).drew) (fun _ _=>id)) s true;rw [heq] at hrun;simp only [if_true] at hrun;have hd:Fr W3 W3.drew (fun _=>False):=(Fr.refl _ _).drew;have hF4:=hF3.step hd (fun _=>False.elim);have hb4:=hd.same hb3 id;have r0:=aa (o:=0) hb3 rfl;have r1:=aa (o:=1) hb3 rfl;have z0:=ab (o:=0) hb3;have z1:=ab (o:=1) hb3;have hlt2:w.heap.size<W3.heap.size:=(Array.getElem?_eq_some_iff.1 hb3).1;have hne:¬w.heap.size=W2.heap.size:=by have:=(Array.getElem?_eq_some_iff.1 hbw2).1;omega
  clear hbw hbw2 h3 hf3 heq hb3 h1 hbs;cases hk:(S1.K.held s).isSome with
  | true=>
   rw [hk] at hrun;have ha2:ans=.returned (.tuple #[.agg #[.int .i64 s.node,.int .i64 s.index],.int .i64 0]):=by rw [<- ha];simp [pg,hk]
   clear ha;generalize jf (S1.K.held s)=hv' at hrun;go_region_held3 (fun w'=>w'.cell? ⟨ub,0,none⟩=some (.pointer (some ⟨kb,0,none⟩))/\w'.cell? ⟨kb,1024,none⟩=some (.map (some V1.hb))/\w'.cell? ⟨W2.heap.size,0,none⟩=some (.int .i64 s.node)/\w'.cell? ⟨W2.heap.size,1,none⟩=some (.int .i64 s.index)) (go_keep) (fail)
   clear hrun;go_wp2;refine bodyPost_ret (v:=.tuple #[.agg #[.int .i64 s.node,.int .i64 s.index],.int .i64 0]) (q_ hb4 rfl rfl) rfl ⟨by first | exact ha2.symm | rfl,houts _ ((hF4.mono (fun _=>False.elim)).step (ra _ _ _ _) (fun k hk=>.inl hk))⟩
  | false=>
   rw [hk] at hrun;have ha2:ans=.returned (.tuple #[.agg #[.int .i64 0,.int .i64 0],.int .i64 4]):=by rw [<- ha];simp [pg,hk]
   clear ha;generalize jf (S1.K.held s)=hv' at hrun;go_region_held3 (fun w'=>w'.cell? ⟨ub,0,none⟩=some (.pointer (some ⟨kb,0,none⟩))/\w'.cell? ⟨kb,1024,none⟩=some (.map (some V1.hb))/\w'.cell? ⟨W2.heap.size,0,none⟩=some (.int .i64 s.node)/\w'.cell? ⟨W2.heap.size,1,none⟩=some (.int .i64 s.index)) (go_keep) (fail)
   clear hrun;go_wp2;refine bodyPost_ret (v:=.tuple #[.agg #[.int .i64 0,.int .i64 0],.int .i64 4]) (q_ hb4 rfl rfl) rfl ⟨by first | exact ha2.symm | rfl,houts _ ((hF4.mono (fun _=>False.elim)).step (ra _ _ _ _) (fun k hk=>.inl hk))⟩
def b5_ (w:World)(kb ub g0:Nat)(c:Cl)(av tv:Value)(th root:Int)(V:ah)(r:Int×KS×List Bool)(e:Ending)(w':World):Prop:=(e=.returned (.tuple #[.int .i64 0,.int .i64 r.1])\/e=gup r.1)/\fc w kb ub g0 c av tv th root V r.2.1 r.2.2 w'
noncomputable def ma (y:KS×List Bool×Bool)(root:Int)(c:Cl)(f:KS->Slot->List Bool->Int×KS×List Bool):Int×KS×List Bool:=
 if y.2.2 then match az y.1.K root c.at_ with
  | none=>(2,y.1,y.2.1)
  | some s=>if (y.1.K.held s).isNone then (4,y.1,y.2.1) else f y.1 s y.2.1
 else (8,y.1,y.2.1)
theorem fc.past {w w1 w2:World}{kb ub g0:Nat}{c:Cl}{av tv:Value}{th root:Int}{V:ah}{S:KS}{bs:List Bool}(h:fc w kb ub g0 c av tv th root V S bs w1)(hf:Fr w1 w2 (fun _=>False)):fc w kb ub g0 c av tv th root V S bs w2:=by
 obtain ⟨V1,k1,f1,s1,t1⟩:=h;exact ⟨V1,k1.frame hf (fun _ _=>id) (fun _=>False.elim),f1.step hf (fun _=>False.elim),s1,t1.frame hf id id⟩
theorem au3 (kb ub g0:Nat)(S:KS)(V:ah)(c:Cl)(av tv:Value)(th root:Int)(bs:List Bool)(w:World)(h:mj w kb ub g0 S V c av tv th root bs):
 Calls Tryz.prog 38 #[.pointer (some ⟨ub,0,none⟩)] w (b5_ w kb ub g0 c av tv th root V (ma (ao bh bz F0 S bs) root c eu)):=by
 have hgood:cm (ao bh bz F0 S bs).1:=by obtain ⟨S',hA⟩:=h.good;exact ⟨_,(Ag.work F0 bs hA).2⟩
 have hft:=wf kb ub g0 S V c av tv th root bs w h;generalize ao bh bz F0 S bs=y at hft hgood ⊢;obtain ⟨S1,bs1,go⟩:=y;dsimp only at hft hgood;obtain ⟨r,hr⟩:∃r,Hid (ma (S1,bs1,go) root c eu=r):=⟨_,rfl⟩;rw [hr.out];cases go with
 | false=>
  have ha:r=(8,S1,bs1):=hr.out.symm;subst ha;have hft:Calls _ _ _ _ fun e w'=>e=.returned (.tuple #[.agg #[.int .i64 0,.int .i64 0],.int .i64 8])/\_:=hft
  clear hr;go_enter Tryz.func38,Tryz.ntmps38
  go_wp2_with (go_at_call 70;refine hft.mono ?_;rintro e W1 ⟨rfl,ho1⟩)
  go_ret2;exact ⟨.inl rfl,ho1.past ((Fr.refl _ _).alloc _)⟩
 | true=>
 have hft:Calls _ _ _ _ fun e w'=>e=pg S1.K (az S1.K root c.at_)/\_:=hft
 cases hfi:az S1.K root c.at_ with
 | none=>
  have ha:r=(2,S1,bs1):=by rw [<- hr.out];simp [ma,hfi]
  subst ha;rw [hfi] at hft;simp only [pg] at hft;clear hr;go_enter Tryz.func38,Tryz.ntmps38
  go_wp2_with (go_at_call 70;refine hft.mono ?_;rintro e W1 ⟨rfl,ho1⟩;unfold gup)
  exact ⟨rfl,.inr rfl,ho1⟩
 | some s=>
  rw [hfi] at hft;cases hk:S1.K.held s with
  | none=>
   have ha:r=(4,S1,bs1):=by rw [<- hr.out];simp [ma,hfi,hk]
   subst ha;simp only [pg,hk,Option.isSome_none,Bool.false_eq_true,if_false] at hft;clear hr;go_enter Tryz.func38,Tryz.ntmps38
   go_wp2_with (go_at_call 70;refine hft.mono ?_;rintro e W1 ⟨rfl,ho1⟩)
   go_ret2;exact ⟨.inl rfl,ho1.past ((Fr.refl _ _).alloc _)⟩
  | some k=>
   have ha:r=eu S1 s bs1:=by rw [<- hr.out];simp [ma,hfi,hk]
   have Ha:Hid (r=eu S1 s bs1):=ha;clear ha hr;simp only [pg,hk,Option.isSome_some,if_true] at hft;have htk:∀W1,fc w kb ub g0 c av tv th root V S1 bs1 W1->Calls Tryz.prog 71 #[.pointer (some ⟨ub,0,none⟩),.agg #[.int .i64 s.node,.int .i64 s.index]] (W1.alloc (.cells #[.int .i64 s.node,.int .i64 s.index] 71)) fun e w'=>e=.returned (.int .i64 r.1)/\fc w kb ub g0 c av tv th root V r.2.1 r.2.2 w':=by
    rintro W1 ⟨V1,k1,f1,s1,t1⟩;have h1:=h.past k1 hgood f1 s1 t1;have hfa:=(Fr.refl W1 (fun _=>False)).alloc (.cells #[.int .i64 s.node,.int .i64 s.index] 71);have h2:=h1.frame hfa;rw [Ha.out];refine (as1 kb ub g0 S1 V1 c av tv th root bs1 s k _ h2.kd hgood h2.tb h2.apt hk).mono ?_;rintro e w' ⟨he,ho⟩;exact ⟨he,fc.then f1 s1 (fc.of hfa ho)⟩
   clear hk hfi;go_enter Tryz.func38,Tryz.ntmps38
   go_wp2_with (first
    |(go_at_call 70;refine hft.mono ?_;rintro e W1 ⟨rfl,ho1⟩)
    |(go_at_call 71;refine (htk W1 ho1).mono ?_;rintro e W2 ⟨rfl,ho2⟩))
   go_ret2;exact ⟨.inl rfl,ho2⟩
theorem Ag.revStepB {R:RS}{S:KS}(h:Ag R S){s:Slot}(hs:0<=s.index)(hk:c_ S.K s=true)(bs:List Bool):
 ∃c x,S.K.held (og S.K s)=some c/\S.K.st s=some x/\x.kids.getLast?=some (og S.K s)/\∃R',Ag R' (eu S (og S.K s) bs).2.1/\R'.R.L.length<R.R.L.length:=by
 have hC:=h.core;obtain ⟨n,i⟩:=s;rcases hC.rel.idx n i with ⟨e1,e2⟩ | ⟨p,hp,e1,e2,c,e3,e4⟩
 ·exfalso
  have:c_ S.K ⟨n,i⟩=false:=by
   unfold c_;rw [hC.rel.treeOk.empty _ e2 hs]
  rw [this] at hk;cases hk
 ·obtain ⟨k1,k2⟩:=hC.rel.kidsOf p hp;rw [e2] at k1 k2;obtain ⟨hj,k3,_⟩:=k2 hk;obtain ⟨c',hc',_⟩:=hC.rel.cap _ (List.getElem_mem hj);rw [k3] at hc';obtain ⟨g1,g2,g3,g4,g5⟩:=h.takeB hj bs;rw [k3] at g1 g2 g3;obtain ⟨x,hx⟩:∃x,S.K.st ⟨n,i⟩=some x:=by
   unfold c_ at hk;cases hx:S.K.st ⟨n,i⟩ with
   | none=>rw [hx] at hk;cases hk
   | some x=>exact ⟨x,rfl⟩
  have hlast:x.kids.getLast?=some (og S.K ⟨n,i⟩):=by
   unfold og;rw [hx];simp only;cases hl:x.kids.getLast? with
   | none=>
    rw [List.getLast?_eq_none_iff] at hl;unfold c_ at hk;rw [hx] at hk;simp [hl] at hk
   | some y=>rfl
  exact ⟨c',x,hc',hx,hlast,_,g3,g4⟩
theorem ax0 (k:Nat){S:KS}{s:Slot}{bs:List Bool}(hk:c_ S.K s=false):i_ k S s bs=(0,S,bs):=by
 cases k with
 | zero=>rfl
 | succ k=>unfold i_;rw [if_neg (by rw [hk];simp)]
structure b81 (W:World)(kb ub g0:Nat)(V:ah)(c:Cl)(av tv:Value)(th root:Int)(s:Slot)(y:Int×KS×List Bool)(k:Nat)(wr:World)(S:KS)(V':ah)(bs:List Bool)(R:RS):Prop where
 ag:Ag R S
 len:R.R.L.length<=k
 left:i_ k S s bs=y
 call:mj wr kb ub g0 S V' c av tv th root bs
 fr:Fr W wr (fun k=>V.fd kb k\/k=ub)
 sub:∀k,V'.fd kb k->V.fd kb k\/W.heap.size<=k
theorem aw3 (kb ub g0:Nat)(S:KS)(V:ah)(c:Cl)(av tv:Value)(th root:Int)(bs:List Bool)(w:World)(h:mj w kb ub g0 S V c av tv th root bs):
 Calls Tryz.prog 39 #[.pointer (some ⟨ub,0,none⟩)] w (b5_ w kb ub g0 c av tv th root V (ma (ao bh bz F0 S bs) root c (i_ F1))):=by
 have hgood:cm (ao bh bz F0 S bs).1:=by obtain ⟨S',hA⟩:=h.good;exact ⟨_,(Ag.work F0 bs hA).2⟩
 have hft:=wf kb ub g0 S V c av tv th root bs w h;generalize ao bh bz F0 S bs=y at hft hgood ⊢;obtain ⟨S1,bs1,go⟩:=y;dsimp only at hft hgood;obtain ⟨r,hr⟩:∃r,Hid (ma (S1,bs1,go) root c (i_ F1)=r):=⟨_,rfl⟩;rw [hr.out];cases go with
 | false=>
  have ha:r=(8,S1,bs1):=hr.out.symm;subst ha;have hft:Calls _ _ _ _ fun e w'=>e=.returned (.tuple #[.agg #[.int .i64 0,.int .i64 0],.int .i64 8])/\_:=hft
  clear hr;go_enter Tryz.func39,Tryz.ntmps39
  go_wp2_with (go_at_call 70;refine hft.mono ?_;rintro e W1 ⟨rfl,ho1⟩)
  go_ret2;exact ⟨.inl rfl,ho1.past ((Fr.refl _ _).alloc _)⟩
 | true=>
 have hft:Calls _ _ _ _ fun e w'=>e=pg S1.K (az S1.K root c.at_)/\_:=hft
 cases hfi:az S1.K root c.at_ with
 | none=>
  have ha:r=(2,S1,bs1):=by rw [<- hr.out];simp [ma,hfi]
  subst ha;rw [hfi] at hft;simp only [pg] at hft;clear hr;go_enter Tryz.func39,Tryz.ntmps39
  go_wp2_with (go_at_call 70;refine hft.mono ?_;rintro e W1 ⟨rfl,ho1⟩;unfold gup)
  exact ⟨rfl,.inr rfl,ho1⟩
 | some s=>
  rw [hfi] at hft;cases hk:S1.K.held s with
  | none=>
   have ha:r=(4,S1,bs1):=by rw [<- hr.out];simp [ma,hfi,hk]
   subst ha;simp only [pg,hk,Option.isSome_none,Bool.false_eq_true,if_false] at hft;clear hr;go_enter Tryz.func39,Tryz.ntmps39
   go_wp2_with (go_at_call 70;refine hft.mono ?_;rintro e W1 ⟨rfl,ho1⟩)
   go_ret2;exact ⟨.inl rfl,ho1.past ((Fr.refl _ _).alloc _)⟩
  | some k=>
   have Ha:Hid (i_ F1 S1 s bs1=r):=by show _=_;rw [<- hr.out];simp [ma,hfi,hk]
   simp only [pg,hk,Option.isSome_some,if_true] at hft;obtain ⟨R1,hag1⟩:=hgood;have hsi:0<=s.index:=(hag1.core.inN s k hk).1;clear hr hk hfi;go_enter Tryz.func39,Tryz.ntmps39
   go_wp2_with (go_at_call 70;refine hft.mono ?_;rintro e W1 ⟨rfl,ho1⟩)
   clear hft;obtain ⟨V1,k1,f1,s1,t1⟩:=ho1;have hf2:=(Fr.refl W1 (fun _=>False)).alloc (.cells #[.int .i64 s.node,.int .i64 s.index] 71);have h2:=(h.past k1 ⟨R1,hag1⟩ f1 s1 t1).frame hf2;have hbs:=heap_alloc_new W1 (.cells #[.int .i64 s.node,.int .i64 s.index] 71);have hz2:W1.heap.size<(W1.alloc (.cells #[.int .i64 s.node,.int .i64 s.index] 71)).heap.size:=by simp
   have hn2:¬V1.fd kb W1.heap.size:=fun e=>by have:=k1.lt e;omega
   have hjoin:∀W S0 bs0,fc (W1.alloc (.cells #[.int .i64 s.node,.int .i64 s.index] 71)) kb ub g0 c av tv th root V1 S0 bs0 W->fc w kb ub g0 c av tv th root V S0 bs0 W:=fun W S0 bs0 ho=>fc.then f1 s1 (fc.of hf2 ho)
   have hub1:W1.heap.size≠ub:=by have:=t1.lt;omega
   generalize W1.alloc (.cells #[.int .i64 s.node,.int .i64 s.index] 71)=W2 at hf2 h2 hbs hz2 hjoin ⊢;have hlenF:R1.R.L.length<=F1:=by have:=hag1.core.len;rw [b42];omega
   clear h f1 s1 hf2 k1;go_loopg [23] F1 (fun k _ wr=>∃S' V' bs' R,b81 W2 kb ub g0 V1 c av tv th root s r k wr S' V' bs' R)
   case atStart=>exact ⟨S1,V1,bs1,R1,hag1,hlenF,Ha.out,h2,Fr.refl _ _,fun k hk=>.inl hk⟩
   case round=>
    obtain ⟨S',V',bs',R,hI⟩:=hrel;obtain ⟨hag,hlen,hleft,hcall,hfr,hsub⟩:=hI;have hbr:=hfr.same hbs (fun e=>e.elim hn2 hub1);have hlt0:=(Array.getElem?_eq_some_iff.1 hbr).1;have hlu:=hcall.tb.lt;obtain ⟨Ar,capr,hturn,_⟩:=id hcall.tb;have b0:=aa (o:=0) hbr rfl;have b1:=aa (o:=1) hbr rfl;have cu:=hturn.ck;have ct:=hcall.kd.kd.ker.ct;have hd1:=(Fr.refl wr (fun _=>False)).drew;have hcd:=hcall.frame hd1;have hch:=vz V' kb s wr.drew hcd.kd.kd.ker;rw [hcall.kd.kd.eq] at hch;go_upto_region 4 with fail
    go_cut [23] (fun v wx=>v=.bool (c_ S'.K s)/\Fr wr wx (fun _=>False))
    case first=>
     go_region_law (go_simp;go_at_call 62;refine hch.mono ?_;rintro e W3 ⟨rfl,hf3⟩)
     all_goals
      go_wp2;go_meet;case rel=>exact ⟨rfl,hd1.step hf3 (fun _=>False.elim)⟩
    case rest=>
    obtain ⟨rfl,hf3⟩:=hcut;obtain ⟨W3,hWW⟩:∃W3,W3=wc:=⟨wc,rfl⟩;subst hWW;clear hch b0 b1 cu ct hcd hd1;have hc3:=hcall.frame hf3;cases hkd:c_ S'.K s with
    | false=>
     have hfin:Hid (r=(0,S',bs')):=by show _=_;rw [<- hleft,ax0 _ hkd]
     clear hleft hlen hag;go_wp2;go_ret2;refine ⟨.inl (by rw [hfin.out];rfl),?_⟩;rw [hfin.out];exact hjoin _ _ _ ⟨V',hc3.kd,hfr.step hf3 (fun _=>False.elim),hsub,hc3.tb⟩
    | true=>
     obtain ⟨c1,x,g1,g2,g3,R',g4,g5⟩:=hag.revStepB hsi hkd bs';obtain ⟨n,hn⟩:∃n,gk=n+1:=by
      cases gk with
      | zero=>omega
      | succ n=>exact ⟨n,rfl⟩
     have hleft2:r=if (eu S' (og S'.K s) bs').1=0 then i_ n (eu S' (og S'.K s) bs').2.1 s (eu S' (og S'.K s) bs').2.2 else eu S' (og S'.K s) bs':=by rw [<- hleft,hn,i_,if_pos hkd]
     have hlen2:R'.R.L.length<=n:=by omega
     have hlast:∃y,am s V'.M=some y/\y.kids.getLast?=some (og S'.K s):=by
      have:=hcall.kd.kd.eq;rw [<- this] at g2;simp only [ah.ker,cx] at g2;cases hl:am s V'.M with
      | none=>rw [hl] at g2;cases g2
      | some y=>rw [hl] at g2;cases g2;exact ⟨y,rfl,g3⟩
     obtain ⟨y,hy1,hy2⟩:=hlast;generalize og S'.K s=t at g1 hleft2 hy2 g4;have hd4:=(Fr.refl W3 (fun _=>False)).drew;have hc4:=hc3.frame hd4;have hlc:=ap8 V'.M V'.tb s t y W3.drew hc4.kd.kd.ker.tree hy1 hy2;have htk0:=fun W5 (h5:mj W5 kb ub g0 S' V' c av tv th root bs')=>as1 kb ub g0 S' V' c av tv th root bs' t c1 W5 h5.kd h5.good h5.tb h5.apt g1
     generalize eu S' t bs'=z at hleft2 g4 htk0;obtain ⟨z1,z2,z3⟩:=z;dsimp only at hleft2 g4 htk0;have htk:∀W5,Fr W3.drew W5 (fun _=>False)->Calls Tryz.prog 71 #[.pointer (some ⟨ub,0,none⟩),.agg #[.int .i64 t.node,.int .i64 t.index]] W5 fun e w'=>e=.returned (.int .i64 z1)/\fc W3 kb ub g0 c av tv th root V' z2 z3 w':=fun W5 hf5=>by
      refine (htk0 W5 (hc4.frame hf5)).mono ?_;rintro e w' ⟨he,ho⟩;exact ⟨he,fc.of (hd4.step hf5 (fun _=>False.elim)) ho⟩
     have hbc:=hf3.same hbr id;have b0:=aa (o:=0) hbc rfl;have b1:=aa (o:=1) hbc rfl;obtain ⟨Ac,capc,hturn3,_⟩:=id hc3.tb;have cu:=hturn3.ck;have ct:=hc3.kd.kd.ker.ct;have HL2:Hid (r=if z1=0 then i_ n z2 s z3 else (z1,z2,z3)):=hleft2;clear hleft2 htk0;go_upto_region 5 with fail
     go_cut [6] (fun v wx=>v=.int .i64 z1/\fc W3 kb ub g0 c av tv th root V' z2 z3 wx)
     case first=>
      go_region_law (first
       |(go_simp;go_at_call 72;refine hlc.mono ?_;rintro e W5 ⟨rfl,hf5⟩)
       |(go_simp;go_at_call 71;refine (htk _ hf5).mono ?_;rintro e W6 ⟨rfl,ho6⟩))
      all_goals
       go_wp2;go_meet;case rel=>exact ⟨rfl,ho6⟩
     case rest=>
     obtain ⟨rfl,V6,k6,f6,s6,t6⟩:=hcut;clear hlc htk b0 b1 cu ct hc4 hd4 hleft;have hc6:=hc3.past k6 ⟨R',g4⟩ f6 s6 t6;have hF3:Fr W2 W3 (fun k=>V1.fd kb k\/k=ub):=hfr.step hf3 (fun _=>False.elim);have hF6:Fr W2 wc (fun k=>V1.fd kb k\/k=ub):=hF3.step f6 (fun k e=>by
      rcases e with e | e
      ·exact (hsub k e).imp .inl id
      ·exact .inl (.inr e))
     have hs6:∀k,V6.fd kb k->V1.fd kb k\/W2.heap.size<=k:=fun k hk=>by
      rcases s6 k hk with e | e
      ·exact hsub k e
      ·exact .inr (Nat.le_trans hF3.size e)
     by_cases hz:z1=0
     ·subst hz;have hI6:b81 W2 kb ub g0 V1 c av tv th root s r n wc z2 V6 z3 R':=⟨g4,hlen2,by rw [HL2.out,if_pos rfl],hc6,hF6,hs6⟩;clear hc6 hF3 hc3 hcall HL2;go_wp2;go_roundg n
      case measure=>omega
      case rel=>exact ⟨_,V6,_,R',hI6⟩
     ·have hz':(z1 != 0)=true:=by simpa using hz
      have hr2:Hid (r=(z1,z2,z3)):=by show _=_;rw [HL2.out,if_neg hz]
      clear hz HL2;go_wp2;go_ret2;refine ⟨.inl (by rw [hr2.out];rfl),?_⟩;rw [hr2.out];exact hjoin _ _ _ ⟨V6,k6,hF6,hs6,t6⟩
end Go.Proofs.YtdpjgflemddekaaGreatDoor

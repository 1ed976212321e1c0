/- The code: Do's deferred function. -/
import Derived.Test.YtdpjgflemddekaaGreatDoorMResB
import Derived.Recover
set_option maxRecDepth 100000
set_option maxHeartbeats 4000000
namespace Go.Proofs.YtdpjgflemddekaaGreatDoor
open Go.RowKit Go.Shelf
theorem a29 (p q:Addr)(w:World):
 CallsD Tryz.prog 21 #[.pointer (some p),.pointer (some q)] .returning w fun e u' w'=>e=.returned (.tuple #[])/\u'=.returning/\w'=w:=by
 refine callsD_of_wpS Tryz.func21 rfl fun c₀ cs hu=>?_
 apply wpS_seq;apply wpS_region;simp [wpOpsS,go_sem,recoverD,hu,Tryz.ntmps21,Exit.thenS];refine wpS_of_wp ?_;simp only [Array.replicate_succ,Array.replicate_zero,List.push_toArray,List.nil_append,List.cons_append];go_wp2;cases c₀
 simp_all [bodyPostS,results,Tryz.results21]
theorem b11 (v:Value)(w:World):(Instr.typeAssert (.iface 85 v) 20 85 true).run Tryz.prog w=.ok (.tuple #[v,.bool true]) w:=by kernel_rfl
theorem ba3 (b8 b9:Nat)(x y z:Int)(w:World)(h8:w.cell? ⟨b8,0,none⟩=some (.int .i64 x))(h9:w.cell? ⟨b9,0,none⟩=some (.int .i64 y))(z8:w.frozen? ⟨b8,0,none⟩=false)(z9:w.frozen? ⟨b9,0,none⟩=false)(h89:b8≠b9):
 CallsD Tryz.prog 21 #[.pointer (some ⟨b8,0,none⟩),.pointer (some ⟨b9,0,none⟩)] (.panicking [{v:=ak7 z,recovered:=false}]) w fun e u' w'=>e=.returned (.tuple #[])/\u'=.panicking [{v:=ak7 z,recovered:=true}]/\
  w'.cell? ⟨b8,0,none⟩=some (.int .i64 0)/\w'.cell? ⟨b9,0,none⟩=some (.int .i64 z)/\Fr w w' (fun k=>k=b8\/k=b9):=by
 have l8:=World.block_lt_of_cell? _ _ h8;have l9:=World.block_lt_of_cell? _ _ h9;refine callsD_of_wpS Tryz.func21 rfl fun c₀ cs hu=>?_
 apply wpS_seq;apply wpS_region;simp [wpOpsS,go_sem,recoverD,hu,Tryz.ntmps21,Exit.thenS];refine wpS_of_wp ?_;simp only [Array.replicate_succ,Array.replicate_zero,List.push_toArray,List.nil_append,List.cons_append];unfold ak7;have hta:=b11 (.agg #[.int .i64 z]);go_wp2;generalize hW:w.alloc _=W;have hf:Fr w W (fun _=>False):=by rw [<- hW];exact (Fr.refl _ _).alloc _
 have hb:W.heap[w.heap.size]?=some (.cells #[.int .i64 z] 85 (0,0)):=by rw [<- hW];exact heap_alloc_new _ _
 have c0:=aa (o:=0) hb rfl;have c8:=hf.cell h8 id;have c9:=hf.cell h9 id;have f8:W.frozen? ⟨b8,0,none⟩=false:=(World.frozen?_of_block (hf.block b8 l8 id)).trans z8;have f9:W.frozen? ⟨b9,0,none⟩=false:=(World.frozen?_of_block (hf.block b9 l9 id)).trans z9;have n8:b8≠w.heap.size:=by omega
 have n9:b9≠w.heap.size:=by omega
 clear hta hW hb;go_region
 all_goals go_wp2
 all_goals refine ⟨rfl,_,rfl,.tuple #[],by simp [results,Tryz.results21,go_sem],rfl,rfl,?_,?_,?_⟩
 all_goals first
  | exact ((((hf.mono (fun _=>False.elim)).setCell (.inl (.inl rfl)) _ _).setCell (.inl (.inr rfl)) _ _)).drew
  |(simp [go_sem,c8,c9];done)
  | simp [go_sem,c8,c9,Ne.symm h89]
theorem bx3 {w W0:World}{a b c d:Obj}(hW:(((w.alloc a).alloc b).alloc c).alloc d=W0):Fr w W0 (fun _=>False)/\W0.heap[w.heap.size]?=some a/\W0.heap[w.heap.size+1]?=some b/\W0.heap[w.heap.size+1+1]?=some c/\W0.heap[w.heap.size+1+1+1]?=some d:=by
 subst hW;have e1:=heap_alloc_new (w.alloc a) b;have e2:=heap_alloc_new ((w.alloc a).alloc b) c;have e3:=heap_alloc_new (((w.alloc a).alloc b).alloc c) d;rw [show (w.alloc a).heap.size=w.heap.size+1 by simp] at e1;rw [show ((w.alloc a).alloc b).heap.size=w.heap.size+1+1 by simp] at e2;rw [show (((w.alloc a).alloc b).alloc c).heap.size=w.heap.size+1+1+1 by simp] at e3;exact ⟨((((Fr.refl _ _).alloc _).alloc _).alloc _).alloc _,((((Fr.refl _ (fun _=>False)).alloc b).alloc c).alloc d).same (heap_alloc_new w a) id,(((Fr.refl _ (fun _=>False)).alloc c).alloc d).same e1 id,((Fr.refl _ (fun _=>False)).alloc d).same e2 id,e3⟩
structure b92 (w:World)(kb:Nat)(V:ah)(c:Cl)(av tv:Value):Prop where
 ker:aq w kb V
 at_:ay w av c.at_
 ti:ay w tv c.to
 al:c.at_.length<=9000000000000000000
 tl:c.to.length<=9000000000000000000
 ac:∀A n cap,av=.slice A n cap->n<=cap
 tc:∀A n cap,tv=.slice A n cap->n<=cap
 kids:∀p x,am p V.M=some x->x.kids.length<1000000
theorem Fr.drewl {w w':World}{S:Nat->Prop}(h:Fr w.drew w' S):Fr w w' S:=⟨h.os,h.tape,h.output,h.size,h.block⟩
theorem by4 {tmps:Array Value}{R:Ending->World->Prop}{W:World}{b8 b9:Nat}{x y:Int}(h8:tmps[8]?=some (.pointer (some ⟨b8,0,none⟩)))(h9:tmps[9]?=some (.pointer (some ⟨b9,0,none⟩)))
 (c8:W.cell? ⟨b8,0,none⟩=some (.int .i64 x)) (c9:W.cell? ⟨b9,0,none⟩=some (.int .i64 y)) (hR:R (.returned (.tuple #[.int .i64 x,.int .i64 y])) W) :
 bodyPostD Tryz.prog Tryz.f11 R Exit.ret {tmps:=tmps,defers:=[{target:=.fn (.func 21) #[.pointer (some ⟨b8,0,none⟩),.pointer (some ⟨b9,0,none⟩)],args:=#[]}]} W:=by
 refine leaves_cons (by simp) rfl ((a29 ⟨b8,0,none⟩ ⟨b9,0,none⟩ W).mono ?_);rintro e u' w' ⟨rfl,rfl,rfl⟩;refine ⟨.tuple #[.int .i64 x,.int .i64 y],?_,hR⟩;simp [results,Tryz.results11,go_sem,h8,h9,c8,c9]
theorem br7 {tmps:Array Value}{R:Ending->World->Prop}{W:World}{b8 b9:Nat}{x y z:Int}(h8:tmps[8]?=some (.pointer (some ⟨b8,0,none⟩)))(h9:tmps[9]?=some (.pointer (some ⟨b9,0,none⟩)))
 (c8:W.cell? ⟨b8,0,none⟩=some (.int .i64 x)) (c9:W.cell? ⟨b9,0,none⟩=some (.int .i64 y)) (z8:W.frozen? ⟨b8,0,none⟩=false) (z9:W.frozen? ⟨b9,0,none⟩=false) (h89:b8≠b9)
 (hR:∀W',Fr W W' (fun k=>k=b8\/k=b9)->R (.returned (.tuple #[.int .i64 0,.int .i64 z])) W') :
 bodyPostD Tryz.prog Tryz.f11 R (Exit.panic [{v:=ak7 z,recovered:=false}]) {tmps:=tmps,defers:=[{target:=.fn (.func 21) #[.pointer (some ⟨b8,0,none⟩),.pointer (some ⟨b9,0,none⟩)],args:=#[]}]} W:=by
 refine leaves_cons (by simp) rfl ((ba3 b8 b9 x y z W c8 c9 z8 z9 h89).mono ?_);rintro e u' w' ⟨rfl,rfl,d8,d9,hf⟩;refine ⟨.tuple #[.int .i64 0,.int .i64 z],?_,hR w' hf⟩;simp [results,Tryz.results11,go_sem,h8,h9,d8,d9]
theorem Fr.of_alloc {w w':World}{o:Obj}{S:Nat->Prop}(h:Fr (w.alloc o) w' S):Fr w w' S:=by
 have h1:=(Fr.refl w S).alloc o;exact h1.step h (fun _ h=>.inl h)
theorem pm {w w':World}{o:Obj}(h:Fr (w.alloc o) w' (fun _=>False)):w'.heap[w.heap.size]?=some o:=h.same (heap_alloc_new _ _) id
theorem ev.fr {w w':World}(h:ev w)(hf:Fr w w' (fun _=>False)):ev w':=
 ⟨hf.cell h.n0 id,hf.cell h.n1 id,fun i hi=>⟨hf.cell (h.bits i hi).1 id,hf.cell (h.bits i hi).2 id⟩⟩
set_option linter.unusedSimpArgs false
theorem wi {P:Program}{fn:Func}{t t':Array Value}{R:Ending->World->Prop}(h:results fn t=results fn t'):∀(ds:List Deferred) (u:FrameMode) (w:World),Leaves P fn t R ds u w->Leaves P fn t' R ds u w
 | [],.returning,w,⟨v,h1,h2⟩=>⟨v,h▸h1,h2⟩
 | [],.panicking _,_,h1=>h1
 | [],.run,_,h1=>h1
 | d :: ds,u,w,⟨h0,fv,cap,f,args,h1,h2,h3⟩=>by
  refine ⟨h0,fv,cap,f,args,h1,h2,?_⟩;intro c cs hc;obtain ⟨e,u',w',fr,hR,rest⟩:=h3 c cs hc;refine ⟨e,u',w',fr,?_,rest⟩;cases e with
  | returned v=>exact wi h ds _ _ hR
  | panicked chain=>exact wi h ds _ _ hR
  | outgrown=>exact hR
theorem bd5 (t:Array Value)(d:Nat)(v:Value)(h8:d≠8)(h9:d≠9):results Tryz.f11 (t.setIfInBounds d v)=results Tryz.f11 t:=by
 simp [results,Tryz.results11,Array.getElem?_setIfInBounds_ne h8,Array.getElem?_setIfInBounds_ne h9]
theorem fk {K:Act->World->Prop}{R:Ending->World->Prop}(d:Nat)(h8:d≠8)(h9:d≠9){v:Value}(c:List PanicEntry)(a:Act)(w:World)
 (h:Exit.then K (bodyPostD Tryz.prog Tryz.f11 R) (.panic c) (a.put (some d) v) w):Exit.then K (bodyPostD Tryz.prog Tryz.f11 R) (.panic c) a w:=
 wi (bd5 a.tmps d v h8 h9) _ _ _ h
set_option linter.unusedSimpArgs false
def doS (B6 Bt:Nat)(c:Cl)(av tv:Value)(root:Int)(w':World):Prop:=
 w'.cell? ⟨B6,0,none⟩=some (.int .i64 c.kind)/\w'.cell? ⟨B6,1,none⟩=some av/\w'.cell? ⟨B6,2,none⟩=some tv/\w'.cell? ⟨B6,3,none⟩=some (.int .i64 c.ty)/\w'.cell? ⟨B6,4,none⟩=some (.int .i64 c.bits)/\
  w'.cell? ⟨B6,5,none⟩=some (.int .i64 c.count)/\w'.cell? ⟨B6,6,none⟩=some (.int .i64 c.rights)/\w'.cell? ⟨B6,7,none⟩=some (.int .i64 c.badge)/\w'.cell? ⟨B6,8,none⟩=some (.int .i64 c.value)/\w'.cell? ⟨B6,9,none⟩=some (.int .i64 c.offset)/\
  w'.cell? ⟨Bt,1,none⟩=some (.int .i64 root)
theorem doS.fr {B6 Bt:Nat}{c:Cl}{av tv:Value}{root:Int}{W W':World}{S:Nat->Prop}(h:doS B6 Bt c av tv root W)(hf:Fr W W' S)(h6:¬S B6)(ht:¬S Bt):doS B6 Bt c av tv root W':=by
 obtain ⟨h0,h1,h2,h3,h4,h5,h6',h7,h8,h9,h10⟩:=h;exact ⟨hf.cell h0 h6,hf.cell h1 h6,hf.cell h2 h6,hf.cell h3 h6,hf.cell h4 h6,hf.cell h5 h6,hf.cell h6' h6,hf.cell h7 h6,hf.cell h8 h6,hf.cell h9 h6,hf.cell h10 ht⟩
def r_ (w:World)(kb ub:Nat)(V:ah)(S:KS)(w':World):Prop:=
 ∃V',s_ w' kb S V'/\Fr w w' (fun k=>V.fd kb k\/k=ub)/\∀k,V'.fd kb k->V.fd kb k\/w.heap.size<=k
theorem fg.u {w w':World}{kb ub:Nat}{V:ah}{S:KS}(h:fg w kb V S w'):r_ w kb ub V S w':=by
 obtain ⟨V',h1,h2,h3⟩:=h;exact ⟨V',h1,h2.mono (fun _=>.inl),h3⟩
theorem r_.frOf {w w':World}{kb ub:Nat}{V:ah}{S:KS}(h:r_ w kb ub V S w'):Fr w w' (fun k=>V.fd kb k\/k=ub):=by obtain ⟨_,_,h,_⟩:=h;exact h
theorem r_.close {w Wc W2 W3:World}{kb ub:Nat}{V:ah}{K:KS}{S:Nat->Prop}(hF:Fr w Wc (fun _=>False))(h:r_ Wc kb ub V K W2)(hub:w.heap.size<=ub)(hf:Fr W2 W3 S)(hS:∀k,S k->¬V.fd kb k/\k<Wc.heap.size/\w.heap.size<=k/\2<=k):fg w kb V K W3:=by
 obtain ⟨V',h1,h4,h5⟩:=h;refine ⟨V',h1.frame hf (fun k hk hs=>?_) (fun k hk=>(hS k hk).2.2.2),((hF.mono (fun _=>False.elim)).step h4 (fun k hk=>hk.imp id (fun e=>by omega))).step hf (fun k hk=>.inr (hS k hk).2.2.1),fun k hk=>?_⟩
 ·obtain ⟨a1,a2,a3⟩:=hS k hs;rcases h5 k hk with e | e
  ·exact a1 e
  ·omega
 ·rcases h5 k hk with e | e
  ·exact .inl e
  ·exact .inr (Nat.le_trans hF.size e)
theorem pz (S:KS)(V:ah)(kb:Nat)(c:Cl)(av tv:Value)(ba:Option Addr)(bn bc:Nat)(th:Int)(w:World)(h:s_ w kb S V){t:oz}(ht:V.ker.thr th=some t)(hs:t.state=1)(hk1:1<=c.kind)(hk2:c.kind<12)
 (fnum:Nat) (hix0:∀W:World,(Instr.index 88 oy (.int .i64 c.kind)).run Tryz.prog W=.ok (.func (.func fnum) #[] #[]) W)
 (hcf:∀(args:Array Value) (W:World),(callFunc fnum args).run Tryz.prog W=.ok (.enter fnum args) W) (Rr:Int->Int->KS->Prop)
 (hcall:∀W ub (_:Fr w W (fun _=>False)) (_:ef W ub kb c av tv th t.root (.slice ba bn bc)) (_:w.heap.size<=ub),Calls Tryz.prog fnum #[.pointer (some ⟨ub,0,none⟩)] W
   (fun e w'=>∃x y K,(e=.returned (.tuple #[.int .i64 x,.int .i64 y])\/(e=gup y/\x=0))/\r_ W kb ub V K w'/\Rr x y K)) :
 Calls Tryz.prog 11 (kf kb th c av tv (.slice ba bn bc)) w (fun e w'=>∃x y K,e=.returned (.tuple #[.int .i64 x,.int .i64 y])/\fg w kb V K w'/\Rr x y K):=by
 have hmf:∀(fn:Fn) (first cap:Array Value) (w:World),(Instr.makeFunc fn first cap).run Tryz.prog w=.ok (.func fn first cap) w:=fun _ _ _ _=>rfl
 have hf0:=a67 w c av tv;have hrun:=uf (h.kd.ker.frame hf0 (fun _ _=>id)) th;have cr:=h.kd.ker.cr;have hlt:=World.block_lt_of_cell? _ _ cr;obtain ⟨hlt1,hlt2⟩:=a00 hlt;rw [ht] at hrun;dsimp only [Option.isSome] at hrun;unfold kf Cl.cells;have kd1:decide (c.kind<1)=false:=by simp;omega
 have kd2:decide (12<=c.kind)=false:=by simp;omega
 go_enter_defers Tryz.func11,Tryz.ntmps11
 go_upto_region 7 with fail
 generalize hW:World.alloc _ _=W0;obtain ⟨hF0,hb6,hb8,hb9,hbt⟩:=bx3 hW;clear hW hrun hf0 hmf cr hlt hlt1 hlt2;have no:∀k,w.heap.size<=k->¬V.fd kb k:=fun k hk e=>by have:=h.lt e;omega
 have d5:w.heap.size+1≠w.heap.size+1+1:=by omega
 have no8:=no (w.heap.size+1) (by omega);have no9:=no (w.heap.size+1+1) (by omega);have g8:w.heap.size<=w.heap.size+1/\2<=w.heap.size+1:=by have:=h.gl.lt;omega
 have g9:w.heap.size<=w.heap.size+1+1/\2<=w.heap.size+1+1:=by have:=h.gl.lt;omega
 have t8:=(Array.getElem?_eq_some_iff.1 hb8).1;have t9:=(Array.getElem?_eq_some_iff.1 hb9).1;have t6:=(Array.getElem?_eq_some_iff.1 hb6).1;have tt:=(Array.getElem?_eq_some_iff.1 hbt).1;clear no;generalize hBt:w.heap.size+1+1+1=Bt at hbt tt ⊢;generalize hB9:w.heap.size+1+1=B9 at d5 no9 hb9 g9 t9 ⊢;generalize hB8:w.heap.size+1=B8 at d5 no8 hb8 g8 t8 ⊢;generalize hB6:w.heap.size=B6 at hb6 t6 ⊢;have hix:=hix0;unfold oy at hix;obtain ⟨i0,i1,i2,i3,i4,i5,i6,i7,i8,i9⟩:=w_ hb6;have r1:=aa (o:=1) hbt rfl;have hS0:doS B6 Bt c av tv t.root W0:=⟨i0,i1,i2,i3,i4,i5,i6,i7,i8,i9,r1⟩;clear i0 i1 i2 i3 i4 i5 i6 i7 i8 i9 r1;have n68:B6≠B8:=by omega
 have n69:B6≠B9:=by omega
 have nt8:Bt≠B8:=by omega
 have nt9:Bt≠B9:=by omega
 have no6:¬V.fd kb B6:=fun e=>by have:=h.lt e;omega
 have not:¬V.fd kb Bt:=fun e=>by have:=h.lt e;omega
 have hw0:w.heap.size<=W0.heap.size:=hF0.size;refine wp_region_held_drew (S:=doS B6 Bt c av tv t.root) (by kernel_rfl) (hS0.fr (Fr.refl _ (fun _=>False)).drew id id) (fun hHeld=>?_);refine wpAnyH_take (i:=1) (oi:={dst:=some 38,op:=Op.fieldAddr 41 (Operand.tmp 6) 0,type:=0,pos:= "escheat.go:62",after:=#[],guard:=none}) (v:=.pointer (some ⟨B6,0,none⟩)) rfl (by kernel_rfl) (by kernel_rfl) (by kernel_rfl) (fk 38 (by decide) (by decide)) (Or.inl ⟨by rfl,?_⟩) hHeld ?_
 ·intro w hSw;unfold doS at hSw;go_simp
 simp only [Act.put,List.setIfInBounds_toArray,List.set_cons_zero,List.set_cons_succ];refine wpAnyH_take (i:=4) (oi:={dst:=some 41,op:=Op.move (Operand.tmp 0),type:=34,pos:= "escheat.go:62",after:=#[],guard:=none}) (v:=.pointer (some ⟨kb,0,none⟩)) rfl (by kernel_rfl) (by kernel_rfl) (by kernel_rfl) (fk 41 (by decide) (by decide)) (Or.inl ⟨by rfl,?_⟩) hHeld ?_
 ·intro w hSw;unfold doS at hSw;go_simp
 simp only [Act.put,List.setIfInBounds_toArray,List.set_cons_zero,List.set_cons_succ];refine wpAnyH_take (i:=6) (oi:={dst:=some 43,op:=Op.move (Operand.tmp 1),type:=3,pos:= "escheat.go:62",after:=#[],guard:=none}) (v:=.int .i64 th) rfl (by kernel_rfl) (by kernel_rfl) (by kernel_rfl) (fk 43 (by decide) (by decide)) (Or.inl ⟨by rfl,?_⟩) hHeld ?_
 ·intro w hSw;unfold doS at hSw;go_simp
 simp only [Act.put,List.setIfInBounds_toArray,List.set_cons_zero,List.set_cons_succ];refine wpAnyH_take (i:=7) (oi:={dst:=some 44,op:=Op.fieldAddr 82 (Operand.tmp 10) 1,type:=0,pos:= "escheat.go:62",after:=#[],guard:=none}) (v:=.pointer (some ⟨Bt,1,none⟩)) rfl (by kernel_rfl) (by kernel_rfl) (by kernel_rfl) (fk 44 (by decide) (by decide)) (Or.inl ⟨by rfl,?_⟩) hHeld ?_
 ·intro w hSw;unfold doS at hSw;go_simp
 simp only [Act.put,List.setIfInBounds_toArray,List.set_cons_zero,List.set_cons_succ];refine wpAnyH_take (i:=9) (oi:={dst:=some 46,op:=Op.move (Operand.tmp 3),type:=54,pos:= "escheat.go:62",after:=#[],guard:=none}) (v:=.slice ba bn bc) rfl (by kernel_rfl) (by kernel_rfl) (by kernel_rfl) (fk 46 (by decide) (by decide)) (Or.inl ⟨by rfl,?_⟩) hHeld ?_
 ·intro w hSw;unfold doS at hSw;go_simp
 simp only [Act.put,List.setIfInBounds_toArray,List.set_cons_zero,List.set_cons_succ];refine wpAnyH_take (i:=2) (oi:={dst:=some 39,op:=Op.load 3 (Operand.tmp 38),type:=3,pos:= "escheat.go:62",after:=#[{on:=1,ground:=Ground.data}],guard:=none}) (v:=.int .i64 c.kind) rfl (by kernel_rfl) (by kernel_rfl) (by kernel_rfl) (fk 39 (by decide) (by decide)) (Or.inl ⟨by rfl,?_⟩) hHeld ?_
 ·intro w hSw;unfold doS at hSw;go_simp
 simp only [Act.put,List.setIfInBounds_toArray,List.set_cons_zero,List.set_cons_succ];refine wpAnyH_take (i:=5) (oi:={dst:=some 42,op:=Op.load 41 (Operand.tmp 6),type:=41,pos:= "escheat.go:62",after:=#[],guard:=none}) (v:=.agg #[.int .i64 c.kind,av,tv,.int .i64 c.ty,.int .i64 c.bits,.int .i64 c.count,.int .i64 c.rights,.int .i64 c.badge,.int .i64 c.value,.int .i64 c.offset]) rfl (by kernel_rfl) (by kernel_rfl) (by kernel_rfl) (fk 42 (by decide) (by decide)) (Or.inl ⟨by rfl,?_⟩) hHeld ?_
 ·intro w hSw;unfold doS at hSw;go_simp
 simp only [Act.put,List.setIfInBounds_toArray,List.set_cons_zero,List.set_cons_succ];refine wpAnyH_take (i:=8) (oi:={dst:=some 45,op:=Op.load 3 (Operand.tmp 44),type:=3,pos:= "escheat.go:62",after:=#[{on:=7,ground:=Ground.data}],guard:=none}) (v:=.int .i64 t.root) rfl (by kernel_rfl) (by kernel_rfl) (by kernel_rfl) (fk 45 (by decide) (by decide)) (Or.inl ⟨by rfl,?_⟩) hHeld ?_
 ·intro w hSw;unfold doS at hSw;go_simp
 simp only [Act.put,List.setIfInBounds_toArray,List.set_cons_zero,List.set_cons_succ];refine wpAnyH_take (i:=10) (oi:={dst:=some 47,op:=Op.build 92 #[(0,Operand.tmp 41),(1,Operand.tmp 42),(2,Operand.tmp 43),(3,Operand.tmp 45),(4,Operand.tmp 46)],type:=92,pos:= "escheat.go:62",after:=#[{on:=4,ground:=Ground.data},{on:=5,ground:=Ground.data},{on:=6,ground:=Ground.data},{on:=8,ground:=Ground.data},{on:=9,ground:=Ground.data}],guard:=none}) (v:=.agg #[.pointer (some ⟨kb,0,none⟩),.int .i64 c.kind,av,tv,.int .i64 c.ty,.int .i64 c.bits,.int .i64 c.count,.int .i64 c.rights,.int .i64 c.badge,.int .i64 c.value,.int .i64 c.offset,.int .i64 th,.int .i64 t.root,.slice ba bn bc]) rfl (by kernel_rfl) (by kernel_rfl) (by kernel_rfl) (fk 47 (by decide) (by decide)) (Or.inl ⟨by rfl,?_⟩) hHeld ?_
 ·intro w hSw;unfold doS at hSw;go_simp
 simp only [Act.put,List.setIfInBounds_toArray,List.set_cons_zero,List.set_cons_succ];refine wpAnyH_ready (rs:=[0,11]) (by kernel_rfl) (by simp) ?_;refine AllReadyH.cons rfl (fun K hK=>?_) (AllReadyH.cons rfl (fun K hK=>?_) AllReadyH.nil)
 ·go_simp
  refine (af6 _).mono ?_;rintro e W1 ⟨rfl,hf1⟩;have hg1:Fr W0 W1 (fun _=>False):=hf1.drewl;unfold oy;refine hK.out _ _ (hS0.fr hg1 id id) (fun hHeld=>?_);clear hK K;refine wpAnyH_take (i:=3) (oi:={dst:=some 40,op:=Op.index 88 (Operand.tmp 37) (Operand.tmp 39),type:=87,pos:= "escheat.go:62",after:=#[{on:=0,ground:=Ground.data},{on:=2,ground:=Ground.data}],guard:=none}) (v:=.func (.func fnum) #[] #[]) rfl (by kernel_rfl) (by kernel_rfl) (by kernel_rfl) (fk 40 (by decide) (by decide)) (Or.inl ⟨by rfl,?_⟩) hHeld ?_
  ·intro w hSw;unfold doS at hSw;go_simp
  simp only [Act.put,List.setIfInBounds_toArray,List.set_cons_zero,List.set_cons_succ];refine wpAnyH_ready (rs:=[11]) (by kernel_rfl) (by simp) ?_;refine AllReadyH.cons rfl (fun K hK=>?_) AllReadyH.nil;go_simp
  have hFc:=(Fr.alloc hg1 (.cells (pb kb c av tv th t.root (.slice ba bn bc)) 92));have hbu:=heap_alloc_new W1 (.cells (pb kb c av tv th t.root (.slice ba bn bc)) 92);have hbul:w.heap.size<=W1.heap.size:=Nat.le_trans hw0 hg1.size;have hun:B6≠W1.heap.size/\B8≠W1.heap.size/\B9≠W1.heap.size/\Bt≠W1.heap.size:=by have:=hg1.size;omega
  unfold pb at hFc hbu;refine hK.out _ _ (hS0.fr hFc id id) (fun hHeld=>?_);clear hK K;generalize World.alloc _ _=Wc at *
  generalize W1.heap.size=ub at *
  refine wpAnyH_ready (rs:=[12]) (by kernel_rfl) (by simp) ?_;refine AllReadyH.cons rfl (fun K hK=>?_) AllReadyH.nil;go_simp
  obtain ⟨u6,u8,u9,ut⟩:=hun;refine (hcall Wc ub (hF0.step hFc (fun _=>False.elim)) hbu hbul).mono ?_;rintro e W2 ⟨x,y,K2,he,hK2,hr⟩;have m8:=hK2.frOf.same (hFc.same hb8 id) (fun e=>e.elim no8 u8);have m9:=hK2.frOf.same (hFc.same hb9 id) (fun e=>e.elim no9 u9);have hS2:=(hS0.fr hFc id id).fr hK2.frOf (fun e=>e.elim no6 u6) (fun e=>e.elim not ut);have hFw:=hF0.step hFc (fun _=>False.elim);have q8:=(Array.getElem?_eq_some_iff.1 (hFc.same hb8 id)).1;have q9:=(Array.getElem?_eq_some_iff.1 (hFc.same hb9 id)).1;rcases he with rfl | ⟨rfl,rfl⟩
  ·refine hK.out _ _ hS2 (fun hHeld=>?_);clear hK K;refine wpAnyH_take (i:=13) (oi:={dst:=some 50,op:=Op.extract (Operand.tmp 49) 0,type:=3,pos:= "escheat.go:62",after:=#[{on:=12,ground:=Ground.data}],guard:=none}) (v:=.int .i64 x) rfl (by kernel_rfl) (by kernel_rfl) (by kernel_rfl) (fk 50 (by decide) (by decide)) (Or.inl ⟨by rfl,?_⟩) hHeld ?_
   ·intro w hSw;unfold doS at hSw;go_simp
   simp only [Act.put,List.setIfInBounds_toArray,List.set_cons_zero,List.set_cons_succ];refine wpAnyH_take (i:=14) (oi:={dst:=some 51,op:=Op.extract (Operand.tmp 49) 1,type:=36,pos:= "escheat.go:62",after:=#[{on:=12,ground:=Ground.data}],guard:=none}) (v:=.int .i64 y) rfl (by kernel_rfl) (by kernel_rfl) (by kernel_rfl) (fk 51 (by decide) (by decide)) (Or.inl ⟨by rfl,?_⟩) hHeld ?_
   ·intro w hSw;unfold doS at hSw;go_simp
   simp only [Act.put,List.setIfInBounds_toArray,List.set_cons_zero,List.set_cons_succ];have s8:=aa (o:=0) m8 rfl;have s9:=aa (o:=0) m9 rfl;have z8:W2.frozen? ⟨B8,0,none⟩=false:=ab m8;have z9:W2.frozen? ⟨B9,0,none⟩=false:=ab m9;refine wpAnyH_ready (rs:=[15]) (by kernel_rfl) (by simp) ?_;refine AllReadyH.cons rfl (fun K hK=>?_) AllReadyH.nil;go_simp
   have hS3:=hS2.fr (Fr.set1 W2 B8 0 (.int .i64 x)) n68 nt8;refine hK.out _ _ hS3 (fun hHeld=>?_);clear hK K;refine wpAnyH_ready (rs:=[16]) (by kernel_rfl) (by simp) ?_;refine AllReadyH.cons rfl (fun K hK=>?_) AllReadyH.nil;go_simp
   refine hK.out _ _ (hS3.fr (Fr.set1 _ B9 0 (.int .i64 y)) n69 nt9) (fun hHeld=>?_);clear hK K;refine wpAnyH_done (by kernel_rfl) ?_ _;clear hS3 hS2 hHeld hcall hS0;go_wp2;refine by4 rfl rfl (by simp [go_sem,s8,d5]) (by simp [go_sem,s9]) ⟨x,y,K2,rfl,?_,hr⟩;refine r_.close (S:=fun k=>k=B8\/k=B9) hFw hK2 hbul (Fr.setCell (S:=fun k=>k=B8\/k=B9) (Fr.setCell (S:=fun k=>k=B8\/k=B9) (Fr.refl _ _) (.inl (.inl rfl)) _ _) (.inl (.inr rfl)) _ _) ?_;rintro k (rfl | rfl)
   ·exact ⟨no8,q8,g8⟩
   ·exact ⟨no9,q9,g9⟩
  ·unfold gup;refine br7 rfl rfl (aa (o:=0) m8 rfl) (aa (o:=0) m9 rfl) (ab m8) (ab m9) d5 (fun W' hW'=>⟨0,y,K2,rfl,?_,hr⟩);refine r_.close (S:=fun k=>k=B8\/k=B9) hFw hK2 hbul hW' ?_;rintro k (rfl | rfl)
   ·exact ⟨no8,q8,g8⟩
   ·exact ⟨no9,q9,g9⟩
 ·go_simp
  have hFa:=((Fr.refl W0 (fun _=>False)).alloc (.cells (pb kb c av tv th t.root (.slice ba bn bc)) 92));have hba:=heap_alloc_new W0 (.cells (pb kb c av tv th t.root (.slice ba bn bc)) 92);unfold pb at hFa hba;refine hK.out _ _ (hS0.fr hFa.drew id id) (fun hHeld=>?_);clear hK K;generalize World.alloc _ _=Wa at *
  refine wpAnyH_ready (rs:=[0]) (by kernel_rfl) (by simp) ?_;refine AllReadyH.cons rfl (fun K hK=>?_) AllReadyH.nil;go_simp
  refine (af6 _).mono ?_;rintro e Wc ⟨rfl,hf1⟩;have hFc:Fr W0 Wc (fun _=>False):=hFa.step hf1.drewl (fun _=>False.elim);have hbu:=hf1.drewl.same hba id;have hbul:w.heap.size<=W0.heap.size:=hw0;have hun:B6≠W0.heap.size/\B8≠W0.heap.size/\B9≠W0.heap.size/\Bt≠W0.heap.size:=by omega
  clear hba hFa hf1;generalize W0.heap.size=ub at *
  unfold oy;refine hK.out _ _ (hS0.fr hFc id id) (fun hHeld=>?_);clear hK K;refine wpAnyH_take (i:=3) (oi:={dst:=some 40,op:=Op.index 88 (Operand.tmp 37) (Operand.tmp 39),type:=87,pos:= "escheat.go:62",after:=#[{on:=0,ground:=Ground.data},{on:=2,ground:=Ground.data}],guard:=none}) (v:=.func (.func fnum) #[] #[]) rfl (by kernel_rfl) (by kernel_rfl) (by kernel_rfl) (fk 40 (by decide) (by decide)) (Or.inl ⟨by rfl,?_⟩) hHeld ?_
  ·intro w hSw;unfold doS at hSw;go_simp
  simp only [Act.put,List.setIfInBounds_toArray,List.set_cons_zero,List.set_cons_succ];refine wpAnyH_ready (rs:=[12]) (by kernel_rfl) (by simp) ?_;refine AllReadyH.cons rfl (fun K hK=>?_) AllReadyH.nil;go_simp
  obtain ⟨u6,u8,u9,ut⟩:=hun;refine (hcall Wc ub (hF0.step hFc (fun _=>False.elim)) hbu hbul).mono ?_;rintro e W2 ⟨x,y,K2,he,hK2,hr⟩;have m8:=hK2.frOf.same (hFc.same hb8 id) (fun e=>e.elim no8 u8);have m9:=hK2.frOf.same (hFc.same hb9 id) (fun e=>e.elim no9 u9);have hS2:=(hS0.fr hFc id id).fr hK2.frOf (fun e=>e.elim no6 u6) (fun e=>e.elim not ut);have hFw:=hF0.step hFc (fun _=>False.elim);have q8:=(Array.getElem?_eq_some_iff.1 (hFc.same hb8 id)).1;have q9:=(Array.getElem?_eq_some_iff.1 (hFc.same hb9 id)).1;rcases he with rfl | ⟨rfl,rfl⟩
  ·refine hK.out _ _ hS2 (fun hHeld=>?_);clear hK K;refine wpAnyH_take (i:=13) (oi:={dst:=some 50,op:=Op.extract (Operand.tmp 49) 0,type:=3,pos:= "escheat.go:62",after:=#[{on:=12,ground:=Ground.data}],guard:=none}) (v:=.int .i64 x) rfl (by kernel_rfl) (by kernel_rfl) (by kernel_rfl) (fk 50 (by decide) (by decide)) (Or.inl ⟨by rfl,?_⟩) hHeld ?_
   ·intro w hSw;unfold doS at hSw;go_simp
   simp only [Act.put,List.setIfInBounds_toArray,List.set_cons_zero,List.set_cons_succ];refine wpAnyH_take (i:=14) (oi:={dst:=some 51,op:=Op.extract (Operand.tmp 49) 1,type:=36,pos:= "escheat.go:62",after:=#[{on:=12,ground:=Ground.data}],guard:=none}) (v:=.int .i64 y) rfl (by kernel_rfl) (by kernel_rfl) (by kernel_rfl) (fk 51 (by decide) (by decide)) (Or.inl ⟨by rfl,?_⟩) hHeld ?_
   ·intro w hSw;unfold doS at hSw;go_simp
   simp only [Act.put,List.setIfInBounds_toArray,List.set_cons_zero,List.set_cons_succ];have s8:=aa (o:=0) m8 rfl;have s9:=aa (o:=0) m9 rfl;have z8:W2.frozen? ⟨B8,0,none⟩=false:=ab m8;have z9:W2.frozen? ⟨B9,0,none⟩=false:=ab m9;refine wpAnyH_ready (rs:=[15]) (by kernel_rfl) (by simp) ?_;refine AllReadyH.cons rfl (fun K hK=>?_) AllReadyH.nil;go_simp
   have hS3:=hS2.fr (Fr.set1 W2 B8 0 (.int .i64 x)) n68 nt8;refine hK.out _ _ hS3 (fun hHeld=>?_);clear hK K;refine wpAnyH_ready (rs:=[16]) (by kernel_rfl) (by simp) ?_;refine AllReadyH.cons rfl (fun K hK=>?_) AllReadyH.nil;go_simp
   refine hK.out _ _ (hS3.fr (Fr.set1 _ B9 0 (.int .i64 y)) n69 nt9) (fun hHeld=>?_);clear hK K;refine wpAnyH_done (by kernel_rfl) ?_ _;clear hS3 hS2 hHeld hcall hS0;go_wp2;refine by4 rfl rfl (by simp [go_sem,s8,d5]) (by simp [go_sem,s9]) ⟨x,y,K2,rfl,?_,hr⟩;refine r_.close (S:=fun k=>k=B8\/k=B9) hFw hK2 hbul (Fr.setCell (S:=fun k=>k=B8\/k=B9) (Fr.setCell (S:=fun k=>k=B8\/k=B9) (Fr.refl _ _) (.inl (.inl rfl)) _ _) (.inl (.inr rfl)) _ _) ?_;rintro k (rfl | rfl)
   ·exact ⟨no8,q8,g8⟩
   ·exact ⟨no9,q9,g9⟩
  ·unfold gup;refine br7 rfl rfl (aa (o:=0) m8 rfl) (aa (o:=0) m9 rfl) (ab m8) (ab m9) d5 (fun W' hW'=>⟨0,y,K2,rfl,?_,hr⟩);refine r_.close (S:=fun k=>k=B8\/k=B9) hFw hK2 hbul hW' ?_;rintro k (rfl | rfl)
   ·exact ⟨no8,q8,g8⟩
   ·exact ⟨no9,q9,g9⟩
end Go.Proofs.YtdpjgflemddekaaGreatDoor

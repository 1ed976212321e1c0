/- The code: turn.move. -/
import Derived.Test.YtdpjgflemddekaaDoorMCodeV
import Derived.Test.YtdpjgflemddekaaDoorMCodeJ
set_option maxRecDepth 100000
set_option maxHeartbeats 1000000
namespace Go.Proofs.YtdpjgflemddekaaDoor
open Go.RowKit
theorem ap9 (K:a_):∀(l:List Int) (nd:Int) (t:Slot),goK K nd l=some t->0<=t.index
 | [],_,_,h=>by cases h
 | [x],nd,t,h=>by
  simp only [goK] at h;split at h
  ·rename_i ho;cases h;simp [okK] at ho;exact ho.1
  ·cases h
 | x :: y :: r,nd,t,h=>by
  simp only [goK] at h;split at h
  ·cases hn:j9 K ⟨nd,x⟩ with
   | none=>rw [hn] at h;cases h
   | some nd'=>rw [hn] at h;exact ap9 K (y :: r) nd' t h
  ·cases h
theorem a35 {K:a_}{root:Int}{l:List Int}{t:Slot}(h:ay K root l=some t):0<=t.index:=by
 unfold ay at h;split at h
 ·cases h
 ·exact ap9 K l root t h
theorem pn {V:aj}{s:Slot}{x:ly}(h:V.ker.st s=some x):∃r,aq s V.M=some r/\r.parent=x.parent/\r.kids=x.kids:=by
 simp only [aj.ker,dc] at h;cases hl:aq s V.M with
 | none=>rw [hl] at h;cases h
 | some r=>rw [hl] at h;simp [bx.std] at h;subst h;exact ⟨r,rfl,rfl,rfl⟩
theorem az3 {V:aj}{s:Slot}(h:V.ker.st s=none):aq s V.M=none:=by
 simp only [aj.ker,dc] at h;cases hl:aq s V.M with
 | none=>rfl
 | some r=>rw [hl] at h;cases h
theorem a93 (V:aj)(kb ub:Nat)(c:Cl)(av tv bv:Value)(th root:Int)(s:Slot)(w:World)(h:di w kb ub V c av tv bv th root)
 (hfi:ay V.ker root c.at_=some s) (hk:V.ker.held s=none) :
 Calls Tryd.prog 46 #[.pointer (some ⟨ub,0,none⟩)] w (gm w kb V (jt V.ker root c)):=by
 have hans:jt V.ker root c=some (4,V.ker):=by simp [jt,hfi,hk]
 rw [hans];clear hans;have hult:=h.turn.lt;have cat':=h.turn.cat;have ck':=h.turn.ck;go_enter Tryd.func46,Tryd.ntmps46
 go_wp2_with fail
 refine h.find.mono ?_;rintro e W1 ⟨rfl,hf1⟩;rw [hfi];unfold bh jp;clear cat' ck';go_wp2_with fail
 generalize hW2:W1.alloc _=W2;have hf2:Fr W1 W2 (fun _=>False):=by rw [<- hW2];exact (Fr.refl _ _).alloc _
 have hbs:W2.heap[W1.heap.size]?=some (.cells #[.int .i64 s.node,.int .i64 s.index] 72 (0,0)):=by rw [<- hW2];exact heap_alloc_new _ _
 clear hW2;have hF2:=hf1.step hf2 (fun _=>False.elim);have h2:=h.frame hF2;have c2:=h2.ker.ch;have s0:=aa (o:=0) hbs rfl;have s1:=aa (o:=1) hbs rfl;have hrun:=bk (h2.ker.frame ((Fr.refl W2 (fun _=>False)).drew) (fun _ _=>id)) s true;simp only [if_true,hk,j7,Option.isSome] at hrun;go_region_held3 (fun w'=>w'.cell? ⟨kb,1024,none⟩=some (.map (some V.hb))/\w'.cell? ⟨W1.heap.size,0,none⟩=some (.int .i64 s.node)/\w'.cell? ⟨W1.heap.size,1,none⟩=some (.int .i64 s.index)) (go_keep) (fail)
 clear hrun;go_wp2;go_ret2;exact ⟨rfl,je.same h.ker hF2.drew⟩
theorem a92 (V:aj)(kb ub:Nat)(c:Cl)(av tv bv:Value)(th root:Int)(s:Slot)(k:KCap)(w:World)(h:di w kb ub V c av tv bv th root)
 (hfi:ay V.ker root c.at_=some s) (hk:V.ker.held s=some k) (hto:ay V.ker root c.to=none) :
 Calls Tryd.prog 46 #[.pointer (some ⟨ub,0,none⟩)] w (gm w kb V (jt V.ker root c)):=by
 have hans:jt V.ker root c=none:=by simp [jt,hfi,hk,hto]
 rw [hans];clear hans;have hult:=h.turn.lt;have cat':=h.turn.cat;have ck':=h.turn.ck;go_enter Tryd.func46,Tryd.ntmps46
 go_wp2_with fail
 refine h.find.mono ?_;rintro e W1 ⟨rfl,hf1⟩;rw [hfi];unfold bh jp;clear cat' ck';go_wp2_with fail
 generalize hW2:W1.alloc _=W2;have hf2:Fr W1 W2 (fun _=>False):=by rw [<- hW2];exact (Fr.refl _ _).alloc _
 have hbs:W2.heap[W1.heap.size]?=some (.cells #[.int .i64 s.node,.int .i64 s.index] 72 (0,0)):=by rw [<- hW2];exact heap_alloc_new _ _
 clear hW2;have hF2:=hf1.step hf2 (fun _=>False.elim);have h2:=h.frame hF2;have c2:=h2.ker.ch;have s0:=aa (o:=0) hbs rfl;have s1:=aa (o:=1) hbs rfl;have hrun:=bk (h2.ker.frame ((Fr.refl W2 (fun _=>False)).drew) (fun _ _=>id)) s true;simp only [if_true,hk,j7,Option.isSome] at hrun;go_region_held3 (fun w'=>w'.cell? ⟨kb,1024,none⟩=some (.map (some V.hb))/\w'.cell? ⟨W1.heap.size,0,none⟩=some (.int .i64 s.node)/\w'.cell? ⟨W1.heap.size,1,none⟩=some (.int .i64 s.index)) (go_keep) (fail)
 clear hrun;have cto:=h2.turn.cto;have hult2:=h2.turn.lt;go_wp2_with fail
 have hF3:Fr w W2.drew (fun _=>False):=hF2.drew;refine (om V kb ub c av tv bv tv th root c.to _ (h.frame hF3).ker (h.frame hF3).turn (h.frame hF3).ti h.tl h.tc).mono ?_;rintro e W4 ⟨rfl,hf4⟩;have hF4:=hF3.step hf4 (fun _=>False.elim);rw [hto];unfold lr gup;go_wp2;exact ⟨rfl,rfl,hF4⟩
theorem bm2 (V:aj)(kb ub:Nat)(c:Cl)(av tv bv:Value)(th root:Int)(s:Slot)(k:KCap)(t:Slot)(w:World)(h:di w kb ub V c av tv bv th root)
 (hfi:ay V.ker root c.at_=some s) (hk:V.ker.held s=some k) (hto:ay V.ker root c.to=some t) (hfull:(V.ker.held t).isSome=true) :
 Calls Tryd.prog 46 #[.pointer (some ⟨ub,0,none⟩)] w (gm w kb V (jt V.ker root c)):=by
 have hans:jt V.ker root c=some (4,V.ker):=by simp [jt,hfi,hk,hto,hfull]
 rw [hans];clear hans;have hult:=h.turn.lt;have cat':=h.turn.cat;have ck':=h.turn.ck;go_enter Tryd.func46,Tryd.ntmps46
 go_wp2_with fail
 refine h.find.mono ?_;rintro e W1 ⟨rfl,hf1⟩;rw [hfi];unfold bh jp;clear cat' ck';go_wp2_with fail
 generalize hW2:W1.alloc _=W2;have hf2:Fr W1 W2 (fun _=>False):=by rw [<- hW2];exact (Fr.refl _ _).alloc _
 have hbs:W2.heap[W1.heap.size]?=some (.cells #[.int .i64 s.node,.int .i64 s.index] 72 (0,0)):=by rw [<- hW2];exact heap_alloc_new _ _
 clear hW2;have hF2:=hf1.step hf2 (fun _=>False.elim);have h2:=h.frame hF2;have c2:=h2.ker.ch;have s0:=aa (o:=0) hbs rfl;have s1:=aa (o:=1) hbs rfl;have hrun:=bk (h2.ker.frame ((Fr.refl W2 (fun _=>False)).drew) (fun _ _=>id)) s true;simp only [if_true,hk,j7,Option.isSome] at hrun;go_region_held3 (fun w'=>w'.cell? ⟨kb,1024,none⟩=some (.map (some V.hb))/\w'.cell? ⟨W1.heap.size,0,none⟩=some (.int .i64 s.node)/\w'.cell? ⟨W1.heap.size,1,none⟩=some (.int .i64 s.index)) (go_keep) (fail)
 clear hrun;have cto:=h2.turn.cto;have hult2:=h2.turn.lt;go_wp2_with fail
 have hF3:Fr w W2.drew (fun _=>False):=hF2.drew;refine (om V kb ub c av tv bv tv th root c.to _ (h.frame hF3).ker (h.frame hF3).turn (h.frame hF3).ti h.tl h.tc).mono ?_;rintro e W4 ⟨rfl,hf4⟩;have hF4:=hF3.step hf4 (fun _=>False.elim);rw [hto];simp only [lr,hfull,if_true];go_wp2;go_ret2;exact ⟨rfl,je.same h.ker (hF4.alloc _)⟩
theorem bl5 (V:aj)(kb ub:Nat)(c:Cl)(av tv bv:Value)(th root:Int)(s:Slot)(k:KCap)(t:Slot)(w:World)(h:di w kb ub V c av tv bv th root)
 (hfi:ay V.ker root c.at_=some s) (hk:V.ker.held s=some k) (hto:ay V.ker root c.to=some t) (hfull:(V.ker.held t).isSome=false) (hT:ao4 V.ker) :
 Calls Tryd.prog 46 #[.pointer (some ⟨ub,0,none⟩)] w (gm w kb V (jt V.ker root c)):=by
 have hans:jt V.ker root c=some (0,V.ker.move s t k):=by simp [jt,hfi,hk,hto,hfull]
 rw [hans];clear hans;have hult:=h.turn.lt;have cat':=h.turn.cat;have ck':=h.turn.ck;go_enter Tryd.func46,Tryd.ntmps46
 go_wp2_with fail
 refine h.find.mono ?_;rintro e W1 ⟨rfl,hf1⟩;rw [hfi];unfold bh jp;clear cat' ck';go_wp2_with fail
 generalize hW2:W1.alloc _=W2;have hf2:Fr W1 W2 (fun _=>False):=by rw [<- hW2];exact (Fr.refl _ _).alloc _
 have hbs:W2.heap[W1.heap.size]?=some (.cells #[.int .i64 s.node,.int .i64 s.index] 72 (0,0)):=by rw [<- hW2];exact heap_alloc_new _ _
 clear hW2;have hF2:=hf1.step hf2 (fun _=>False.elim);have h2:=h.frame hF2;have c2:=h2.ker.ch;have s0:=aa (o:=0) hbs rfl;have s1:=aa (o:=1) hbs rfl;have hrun:=bk (h2.ker.frame ((Fr.refl W2 (fun _=>False)).drew) (fun _ _=>id)) s true;simp only [if_true,hk,j7,Option.isSome] at hrun;go_region_held3 (fun w'=>w'.cell? ⟨kb,1024,none⟩=some (.map (some V.hb))/\w'.cell? ⟨W1.heap.size,0,none⟩=some (.int .i64 s.node)/\w'.cell? ⟨W1.heap.size,1,none⟩=some (.int .i64 s.index)) (go_keep) (fail)
 clear hrun;have cto:=h2.turn.cto;have hult2:=h2.turn.lt;go_wp2_with fail
 have hF3:Fr w W2.drew (fun _=>False):=hF2.drew;refine (om V kb ub c av tv bv tv th root c.to _ (h.frame hF3).ker (h.frame hF3).turn (h.frame hF3).ti h.tl h.tc).mono ?_;rintro e W4 ⟨rfl,hf4⟩;have hF4:=hF3.step hf4 (fun _=>False.elim);rw [hto];simp only [lr,hfull,Bool.false_eq_true,if_false];have hbs4:=hf4.same (w:=W2.drew) hbs id;clear c2 s0 s1 cto;go_wp2_with fail
 generalize hW5:W4.alloc _=W5;have hf5:Fr W4 W5 (fun _=>False):=by rw [<- hW5];exact (Fr.refl _ _).alloc _
 have hbt:W5.heap[W4.heap.size]?=some (.cells #[.int .i64 t.node,.int .i64 t.index] 72 (0,0)):=by rw [<- hW5];exact heap_alloc_new _ _
 clear hW5;have hF5:=hF4.step hf5 (fun _=>False.elim);have hbs5:=hf5.same hbs4 id;have h5:=(h.frame hF5).ker;have l1:=hf1.size;have l4:=hF4.size;have lk:=fun x (hx:V.fp kb x)=>h.ker.fpLt hx
 have nh1:W1.heap.size≠V.hb:=fun e=>by have:=lk V.hb (.inr (.inl rfl));omega
 have nh4:W4.heap.size≠V.hb:=fun e=>by have:=lk V.hb (.inr (.inl rfl));omega
 have d5:Fr W5 W5.drew (fun _=>False):=(Fr.refl _ _).drew;obtain ⟨W6,hrun6,hm6,hf6,hs6⟩:=(h5.frame d5 (fun _ _=>id)).held.del_run (ty:=0) ep Tryd.underlying61 s;simp only [Slot.val] at hrun6;have h6:=(h5.frame d5 (fun _ _=>id)).putH hm6 hf6;have hbs6:=hf6.same (d5.same hbs5 id) nh1;have hbt6:=hf6.same (d5.same hbt id) nh4;have d6:Fr W6 W6.drew (fun _=>False):=(Fr.refl _ _).drew;obtain ⟨W7,hrun7,hm7,hf7,hs7⟩:=(h6.frame d6 (fun _ _=>id)).held.put_run ep Tryd.underlying61 t k;simp only [Slot.val] at hrun7;have h7:=(h6.frame d6 (fun _ _=>id)).putH hm7 hf7;have hbs7:=hf7.same (d6.same hbs6 id) nh1;have hbt7:=hf7.same (d6.same hbt6 id) nh4;have hF7:Fr w W7 (fun x=>x=V.hb):=(((hF5.step d5 (fun _=>False.elim)).mono (fun _=>False.elim)).step hf6 (fun k hk=>.inl hk)).step ((d6.mono (fun _=>False.elim)).step hf7 (fun k hk=>.inl hk)) (fun k hk=>.inl hk);have c5:=h5.ch;have c6:=h6.ch;have c7:=h7.ch;have c8:=h7.ct;have p0:=aa (o:=0) hbs5 rfl;have p1:=aa (o:=1) hbs5 rfl;have p2:=aa (o:=0) hbs6 rfl;have p3:=aa (o:=1) hbs6 rfl;have p4:=aa (o:=0) hbs7 rfl;have p5:=aa (o:=1) hbs7 rfl;have q2:=aa (o:=0) hbt6 rfl;have q3:=aa (o:=1) hbt6 rfl;have q4:=aa (o:=0) hbt7 rfl;have q5:=aa (o:=1) hbt7 rfl;go_region_held3 (fun w'=>w'.cell? ⟨kb,1024,none⟩=some (.map (some V.hb))/\w'.cell? ⟨W1.heap.size,0,none⟩=some (.int .i64 s.node)/\w'.cell? ⟨W1.heap.size,1,none⟩=some (.int .i64 s.index)) (go_keep) (fail)
 go_wp2_with fail
 go_region_held3 (fun w'=>w'.cell? ⟨kb,1024,none⟩=some (.map (some V.hb))/\w'.cell? ⟨W4.heap.size,0,none⟩=some (.int .i64 t.node)/\w'.cell? ⟨W4.heap.size,1,none⟩=some (.int .i64 t.index)) (go_keep) (fail)
 clear hrun6 hrun7 c5 c6 c7 p0 p1 p2 p3 q2 q3;go_wp2_with fail
 obtain ⟨x,y,hx,hy,hxs,hin,hnd,hkids⟩:=hT.full s k hk;obtain ⟨rx,hrx,hrp,hrk⟩:=pn hx;obtain ⟨ry,hry,hyp,hyk⟩:=pn hy;have htn:aq t V.M=none:=az3 (hT.empty t (by simpa using hfull) (a35 hto));have d7:Fr W7 W7.drew (fun _=>False):=(Fr.refl _ _).drew;have h8:=h7.frame d7 (fun _ _=>id);have no:∀z,w.heap.size<=z->¬cm V.tb V.M z:=fun z hz hz2=>by have:=h.ker.tree.fpLt hz2;omega
 have hmv:=bk7 V.M V.tb s t rx.parent rx ry W7.drew h8.tree hrx htn rfl (by rw [hrp];exact hry) (by rw [hrp];exact hxs) (by rw [hyk];exact hin) (by rw [hyk];exact hnd) (fun c hc=>by
  obtain ⟨⟨z,hz⟩,hcs⟩:=hkids c (by rw [<- hrk];exact hc);obtain ⟨r,hr,_⟩:=pn hz;exact ⟨⟨r,hr⟩,hcs⟩)
 go_region_held3 (fun w'=>w'.cell? ⟨kb,1025,none⟩=some (.map (some V.tb))/\w'.cell? ⟨W1.heap.size,0,none⟩=some (.int .i64 s.node)/\w'.cell? ⟨W1.heap.size,1,none⟩=some (.int .i64 s.index)/\w'.cell? ⟨W4.heap.size,0,none⟩=some (.int .i64 t.node)/\w'.cell? ⟨W4.heap.size,1,none⟩=some (.int .i64 t.index)) (go_keep)
  ((go_at_call 72;refine hmv.mono ?_;rintro e W9 ⟨rfl,M9,hM9,hst9,hf9,hr9⟩;have h9:=h8.putM hM9 hf9 (fun k hk=>.inl (hr9 k hk));have g0:=h9.ct;obtain ⟨g1,g2⟩:=ag0 hf9 hbs7 (no _ l1);obtain ⟨g3,g4⟩:=ag0 hf9 hbt7 (no _ l4)))
 have hF9:Fr w W9 (V.fp kb):=((hF7.mono (fun k hk=>.inr (.inl hk))).step d7 (fun _=>False.elim)).step hf9 (fun k hk=>.inl (.inr (.inr (.inr (.inr (.inr (.inl hk)))))))
 have hK9:aj.ker {V with H:=putM t k (iu s V.H),M:=M9}=V.ker.move s t k:=by
  simp only [aj.ker,a_.move,ji,ax8 s V.H h.ker.held.nodup,hst9]
 have hfp9:∀z,aj.fp kb {V with H:=putM t k (iu s V.H),M:=M9} z->V.fp kb z\/w.heap.size<=z:=by
  rintro z (e | e | e | e | e | e | e)
  ·exact .inl (.inl e)
  ·exact .inl (.inr (.inl e))
  ·exact .inl (.inr (.inr (.inl e)))
  ·exact .inl (.inr (.inr (.inr (.inl e))))
  ·exact .inl (.inr (.inr (.inr (.inr (.inl e)))))
  ·exact .inl (.inr (.inr (.inr (.inr (.inr (.inl (hr9 z e)))))))
  ·exact .inl (.inr (.inr (.inr (.inr (.inr (.inr e))))))
 clear g0 g1 g2 g3 g4 p4 p5 q4 q5 c8 hmv hst9 hM9;go_wp2;go_ret2;exact ⟨rfl,_,h9,hK9,rfl,hF9,hfp9⟩
theorem bv2 (V:aj)(kb ub:Nat)(c:Cl)(av tv bv:Value)(th root:Int)(w:World)(h:di w kb ub V c av tv bv th root)(hT:ao4 V.ker):
 Calls Tryd.prog 46 #[.pointer (some ⟨ub,0,none⟩)] w (gm w kb V (jt V.ker root c)):=by
 cases hfi:ay V.ker root c.at_ with
 | none=>
  have hans:jt V.ker root c=none:=by simp [jt,hfi]
  rw [hans];have cat':=h.turn.cat;have ck':=h.turn.ck;go_enter Tryd.func46,Tryd.ntmps46
  go_wp2_with fail
  refine h.find.mono ?_;rintro e W1 ⟨rfl,hf1⟩;rw [hfi];unfold bh gup;go_wp2;exact ⟨rfl,rfl,hf1⟩
 | some s=>
  cases hk:V.ker.held s with
  | none=>exact a93 V kb ub c av tv bv th root s w h hfi hk
  | some k=>
   cases hto:ay V.ker root c.to with
   | none=>exact a92 V kb ub c av tv bv th root s k w h hfi hk hto
   | some t=>
    cases hfull:(V.ker.held t).isSome with
    | true=>exact bm2 V kb ub c av tv bv th root s k t w h hfi hk hto hfull
    | false=>exact bl5 V kb ub c av tv bv th root s k t w h hfi hk hto hfull hT
end Go.Proofs.YtdpjgflemddekaaDoor
namespace Go.Proofs.YtdpjgflemddekaaDoor
open Go.RowKit Go.Shelf
theorem bt_ (W:World):(Instr.index 87 nz (.int .i64 1)).run Tryd.prog W=.ok (.func (.func 43) #[] #[]) W:=by kernel_rfl
theorem bv5 (W:World):(Instr.index 87 nz (.int .i64 2)).run Tryd.prog W=.ok (.func (.func 44) #[] #[]) W:=by kernel_rfl
theorem br4 (W:World):(Instr.index 87 nz (.int .i64 3)).run Tryd.prog W=.ok (.func (.func 45) #[] #[]) W:=by kernel_rfl
theorem bp5 (W:World):(Instr.index 87 nz (.int .i64 4)).run Tryd.prog W=.ok (.func (.func 46) #[] #[]) W:=by kernel_rfl
theorem bt1 (W:World):(Instr.index 87 nz (.int .i64 5)).run Tryd.prog W=.ok (.func (.func 47) #[] #[]) W:=by kernel_rfl
theorem br8 (W:World):(Instr.index 87 nz (.int .i64 6)).run Tryd.prog W=.ok (.func (.func 48) #[] #[]) W:=by kernel_rfl
theorem cf1 (args:Array Value)(W:World):(callFunc 43 args).run Tryd.prog W=.ok (.enter 43 args) W:=by kernel_rfl
theorem cf2 (args:Array Value)(W:World):(callFunc 44 args).run Tryd.prog W=.ok (.enter 44 args) W:=by kernel_rfl
theorem cf3 (args:Array Value)(W:World):(callFunc 45 args).run Tryd.prog W=.ok (.enter 45 args) W:=by kernel_rfl
theorem cf4 (args:Array Value)(W:World):(callFunc 46 args).run Tryd.prog W=.ok (.enter 46 args) W:=by kernel_rfl
theorem cf5 (args:Array Value)(W:World):(callFunc 47 args).run Tryd.prog W=.ok (.enter 47 args) W:=by kernel_rfl
theorem cf6 (args:Array Value)(W:World):(callFunc 48 args).run Tryd.prog W=.ok (.enter 48 args) W:=by kernel_rfl
structure CallI (w:World)(kb:Nat)(S:KS)(V:aj)(c:Cl)(av tv:Value):Prop where
 kd:qq w kb S V
 good:b7 S
 at_:c_ w av c.at_
 ti:c_ w tv c.to
 al:c.at_.length<=9000000000000000000
 tl:c.to.length<=9000000000000000000
 ac:∀A n cap,av=.slice A n cap->n<=cap
 tc:∀A n cap,tv=.slice A n cap->n<=cap
 da:0<c.at_.length->∀k,av.ownBlock=some k->¬V.fd kb k
 dt:0<c.to.length->∀k,tv.ownBlock=some k->¬V.fd kb k
theorem CallI.at {w W:World}{kb ub:Nat}{S:KS}{V:aj}{c:Cl}{av tv:Value}{bv:Value}{th root:Int}(h:CallI w kb S V c av tv)(hF:Fr w W (fun _=>False))(hT:ef W ub kb c av tv th root bv)(hu:w.heap.size<=ub):n_ W kb ub S V c av tv bv th root:=
 ⟨h.kd.frame hF (fun _ _=>id) (fun _=>False.elim),h.good,hT,h.at_.fr hF (fun _ _=>id),h.ti.fr hF (fun _ _=>id),h.al,h.tl,h.ac,h.tc,fun e=>by have:=h.kd.lt e;omega,h.da,h.dt⟩
theorem av_ {W w':World}{kb ub:Nat}{V:aj}{r:Int×KS}{e:Ending}(h:be0 W kb V r e w'):
 ∃x y K,(e=.returned (.tuple #[.int .i64 x,.int .i64 y])\/(e=gup y/\x=0))/\qp W kb ub V K w'/\(x=0/\(y,K)=r):=by
 obtain ⟨h1,h2⟩:=h;rcases h1 with h1 | h1
 ·exact ⟨0,r.1,r.2,.inl h1,h2.u,rfl,rfl⟩
 ·exact ⟨0,r.1,r.2,.inr ⟨h1,rfl⟩,h2.u,rfl,rfl⟩
theorem ai8 {W w':World}{kb:Nat}{S:KS}{V:aj}{r:Option (Int×a_)}{e:Ending}(h:qq W kb S V)(hc:gm W kb V r e w'):be0 W kb V ((cz S.K r).1,{S with K:=(cz S.K r).2}) e w':=by
 cases r with
 | none=>exact ⟨.inr hc.1,h.stay hc.2⟩
 | some p=>obtain ⟨x,K⟩:=p;exact ⟨.inl hc.1,h.kout hc.2⟩
attribute [local go_sem] kf
attribute [local go_sem] kf
theorem aw.putW1 {w:World}{kb:Nat}{V:aj}{ws:Nat->Int}(h:aw w kb V){i:Nat}(hi:i<1024){v:Int}(e:ws=fun k=>if k=i then v else V.ws k):aw (w.setCell ⟨kb,i,none⟩ (.int .u32 v)) kb {V with ws:=ws}:=by
 obtain ⟨c,hc,hcc⟩:=h.blk;have hf:Fr w (w.setCell ⟨kb,i,none⟩ (.int .u32 v)) (fun k=>k=kb):=Fr.set1 _ _ _ _;have hsz:∀j,j≠i->(c.setIfInBounds i (.int .u32 v))[j]?=c[j]?:=fun j hj=>Array.getElem?_setIfInBounds_ne (Ne.symm hj)
 refine ⟨⟨_,au _ _ _ _ hc,?_⟩,h.held.frame hf (Ne.symm h.kh),h.tree.frame hf ?_,h.nodes.frame hf (Ne.symm h.kn),h.thr.frame hf (Ne.symm h.kr),h.que.frame hf (Ne.symm h.kq),h.ht,h.hn,h.hr,h.hq,h.tn,h.tr,h.tq,h.nr,h.nq,h.rq,h.rows,h.rest.frame hf (fun k hk e=>h.rest.noCells hc hk e)⟩
 ·refine ⟨by simpa using hcc.size,?_,?_,?_,?_,?_,?_,?_⟩
  ·intro j hj;by_cases hji:j=i
   ·subst hji;rw [e,Array.getElem?_setIfInBounds_self_of_lt (by rw [hcc.size];omega)];simp
   ·rw [hsz j hji,hcc.w j hj,e];simp [hji]
  ·rw [hsz _ (by omega)];exact hcc.h
  ·rw [hsz _ (by omega)];exact hcc.t
  ·rw [hsz _ (by omega)];exact hcc.n
  ·rw [hsz _ (by omega)];exact hcc.d
  ·rw [hsz _ (by omega)];exact hcc.r
  ·rw [hsz _ (by omega)];exact hcc.q
 ·rintro k (rfl | ⟨s,x,hx,hk⟩) e
  ·exact h.kt e.symm
  ·exact (h.row_ne hx hk).2.2.2.2.2 e
def putWs (K:a_)(i:Nat)(v:Int):a_:={K with ws:=fun k=>if k=i then v else K.ws k}
theorem br9 {w w1:World}{kb:Nat}{V:aj}{v:Int}(h:aw w kb V)(hf:Fr w w1 (fun _=>False)){i:Nat}(hi:i<1024):je w kb V (putWs V.ker i v) (w1.setCell ⟨kb,i,none⟩ (.int .u32 v)):=
 ⟨_,(h.frame hf (fun _ _=>id)).putW1 (v:=v) hi rfl,rfl,rfl,Fr.setCell (S:=V.fp kb) (hf.mono (fun _ h=>h.elim)) (.inl (.inl rfl)) _ _,fun _ hk=>.inl hk⟩
theorem a26 (W:World):(Instr.index 87 nz (.int .i64 9)).run Tryd.prog W=.ok (.func (.func 51) #[] #[]) W:=by kernel_rfl
theorem bl9 (W:World):(Instr.index 87 nz (.int .i64 10)).run Tryd.prog W=.ok (.func (.func 52) #[] #[]) W:=by kernel_rfl
theorem cf9 (args:Array Value)(W:World):(callFunc 51 args).run Tryd.prog W=.ok (.enter 51 args) W:=by kernel_rfl
theorem b81 (args:Array Value)(W:World):(callFunc 52 args).run Tryd.prog W=.ok (.enter 52 args) W:=by kernel_rfl
end Go.Proofs.YtdpjgflemddekaaDoor

/- The code: turn.move. -/
import Derived.Test.YtdpjgflemddekaaGreatDoorMCodeV
import Derived.Test.YtdpjgflemddekaaGreatDoorMCodeJ
set_option maxRecDepth 100000
set_option maxHeartbeats 1000000
namespace Go.Proofs.YtdpjgflemddekaaGreatDoor
open Go.RowKit
theorem aq7 (K:a_):∀(l:List Int) (nd:Int) (t:Slot),goK K nd l=some t->0<=t.index
 | [],_,_,h=>by cases h
 | [x],nd,t,h=>by
  simp only [goK] at h;split at h
  ·rename_i ho;cases h;simp [okK] at ho;exact ho.1
  ·cases h
 | x :: y :: r,nd,t,h=>by
  simp only [goK] at h;split at h
  ·cases hn:nf K ⟨nd,x⟩ with
   | none=>rw [hn] at h;cases h
   | some nd'=>rw [hn] at h;exact aq7 K (y :: r) nd' t h
  ·cases h
theorem a72 {K:a_}{root:Int}{l:List Int}{t:Slot}(h:az K root l=some t):0<=t.index:=by
 unfold az at h;split at h
 ·cases h
 ·exact aq7 K l root t h
theorem rp {V:ah}{s:Slot}{x:nw}(h:V.ker.st s=some x):∃r,am s V.M=some r/\r.parent=x.parent/\r.kids=x.kids:=by
 simp only [ah.ker,cx] at h;cases hl:am s V.M with
 | none=>rw [hl] at h;cases h
 | some r=>rw [hl] at h;simp [bj.std] at h;subst h;exact ⟨r,rfl,rfl,rfl⟩
theorem at9 {V:ah}{s:Slot}(h:V.ker.st s=none):am s V.M=none:=by
 simp only [ah.ker,cx] at h;cases hl:am s V.M with
 | none=>rfl
 | some r=>rw [hl] at h;cases h
theorem ba7 (V:ah)(kb ub:Nat)(c:Cl)(av tv bv:Value)(th root:Int)(s:Slot)(w:World)(h:de w kb ub V c av tv bv th root)
 (hfi:az V.ker root c.at_=some s) (hk:V.ker.held s=none) :
 Calls Tryz.prog 37 #[.pointer (some ⟨ub,0,none⟩)] w (gg w kb V (kw V.ker root c)):=by
 have hans:kw V.ker root c=some (4,V.ker):=by simp [kw,hfi,hk]
 rw [hans];clear hans;have hult:=h.turn.lt;have cat':=h.turn.cat;have ck':=h.turn.ck;go_enter Tryz.func37,Tryz.ntmps37
 go_wp2_with fail
 refine h.find.mono ?_;rintro e W1 ⟨rfl,hf1⟩;rw [hfi];unfold bd jx;clear cat' ck';go_wp2_with fail
 generalize hW2:W1.alloc _=W2;have hf2:Fr W1 W2 (fun _=>False):=by rw [<- hW2];exact (Fr.refl _ _).alloc _
 have hbs:W2.heap[W1.heap.size]?=some (.cells #[.int .i64 s.node,.int .i64 s.index] 71 (0,0)):=by rw [<- hW2];exact heap_alloc_new _ _
 clear hW2;have hF2:=hf1.step hf2 (fun _=>False.elim);have h2:=h.frame hF2;have c2:=h2.ker.ch;have s0:=aa (o:=0) hbs rfl;have s1:=aa (o:=1) hbs rfl;have hrun:=be (h2.ker.frame ((Fr.refl W2 (fun _=>False)).drew) (fun _ _=>id)) s true;simp only [if_true,hk,jf,Option.isSome] at hrun;go_region_held3 (fun w'=>w'.cell? ⟨kb,1024,none⟩=some (.map (some V.hb))/\w'.cell? ⟨W1.heap.size,0,none⟩=some (.int .i64 s.node)/\w'.cell? ⟨W1.heap.size,1,none⟩=some (.int .i64 s.index)) (go_keep) (fail)
 clear hrun;go_wp2;go_ret2;exact ⟨rfl,kg.same h.ker hF2.drew⟩
theorem be7 (V:ah)(kb ub:Nat)(c:Cl)(av tv bv:Value)(th root:Int)(s:Slot)(k:KCap)(w:World)(h:de w kb ub V c av tv bv th root)
 (hfi:az V.ker root c.at_=some s) (hk:V.ker.held s=some k) (hto:az V.ker root c.to=none) :
 Calls Tryz.prog 37 #[.pointer (some ⟨ub,0,none⟩)] w (gg w kb V (kw V.ker root c)):=by
 have hans:kw V.ker root c=none:=by simp [kw,hfi,hk,hto]
 rw [hans];clear hans;have hult:=h.turn.lt;have cat':=h.turn.cat;have ck':=h.turn.ck;go_enter Tryz.func37,Tryz.ntmps37
 go_wp2_with fail
 refine h.find.mono ?_;rintro e W1 ⟨rfl,hf1⟩;rw [hfi];unfold bd jx;clear cat' ck';go_wp2_with fail
 generalize hW2:W1.alloc _=W2;have hf2:Fr W1 W2 (fun _=>False):=by rw [<- hW2];exact (Fr.refl _ _).alloc _
 have hbs:W2.heap[W1.heap.size]?=some (.cells #[.int .i64 s.node,.int .i64 s.index] 71 (0,0)):=by rw [<- hW2];exact heap_alloc_new _ _
 clear hW2;have hF2:=hf1.step hf2 (fun _=>False.elim);have h2:=h.frame hF2;have c2:=h2.ker.ch;have s0:=aa (o:=0) hbs rfl;have s1:=aa (o:=1) hbs rfl;have hrun:=be (h2.ker.frame ((Fr.refl W2 (fun _=>False)).drew) (fun _ _=>id)) s true;simp only [if_true,hk,jf,Option.isSome] at hrun;go_region_held3 (fun w'=>w'.cell? ⟨kb,1024,none⟩=some (.map (some V.hb))/\w'.cell? ⟨W1.heap.size,0,none⟩=some (.int .i64 s.node)/\w'.cell? ⟨W1.heap.size,1,none⟩=some (.int .i64 s.index)) (go_keep) (fail)
 clear hrun;have cto:=h2.turn.cto;have hult2:=h2.turn.lt;go_wp2_with fail
 have hF3:Fr w W2.drew (fun _=>False):=hF2.drew;refine (po V kb ub c av tv bv tv th root c.to _ (h.frame hF3).ker (h.frame hF3).turn (h.frame hF3).ti h.tl h.tc).mono ?_;rintro e W4 ⟨rfl,hf4⟩;have hF4:=hF3.step hf4 (fun _=>False.elim);rw [hto];unfold mf gup;go_wp2;exact ⟨rfl,rfl,hF4⟩
theorem bi3 (V:ah)(kb ub:Nat)(c:Cl)(av tv bv:Value)(th root:Int)(s:Slot)(k:KCap)(t:Slot)(w:World)(h:de w kb ub V c av tv bv th root)
 (hfi:az V.ker root c.at_=some s) (hk:V.ker.held s=some k) (hto:az V.ker root c.to=some t) (hfull:(V.ker.held t).isSome=true) :
 Calls Tryz.prog 37 #[.pointer (some ⟨ub,0,none⟩)] w (gg w kb V (kw V.ker root c)):=by
 have hans:kw V.ker root c=some (4,V.ker):=by simp [kw,hfi,hk,hto,hfull]
 rw [hans];clear hans;have hult:=h.turn.lt;have cat':=h.turn.cat;have ck':=h.turn.ck;go_enter Tryz.func37,Tryz.ntmps37
 go_wp2_with fail
 refine h.find.mono ?_;rintro e W1 ⟨rfl,hf1⟩;rw [hfi];unfold bd jx;clear cat' ck';go_wp2_with fail
 generalize hW2:W1.alloc _=W2;have hf2:Fr W1 W2 (fun _=>False):=by rw [<- hW2];exact (Fr.refl _ _).alloc _
 have hbs:W2.heap[W1.heap.size]?=some (.cells #[.int .i64 s.node,.int .i64 s.index] 71 (0,0)):=by rw [<- hW2];exact heap_alloc_new _ _
 clear hW2;have hF2:=hf1.step hf2 (fun _=>False.elim);have h2:=h.frame hF2;have c2:=h2.ker.ch;have s0:=aa (o:=0) hbs rfl;have s1:=aa (o:=1) hbs rfl;have hrun:=be (h2.ker.frame ((Fr.refl W2 (fun _=>False)).drew) (fun _ _=>id)) s true;simp only [if_true,hk,jf,Option.isSome] at hrun;go_region_held3 (fun w'=>w'.cell? ⟨kb,1024,none⟩=some (.map (some V.hb))/\w'.cell? ⟨W1.heap.size,0,none⟩=some (.int .i64 s.node)/\w'.cell? ⟨W1.heap.size,1,none⟩=some (.int .i64 s.index)) (go_keep) (fail)
 clear hrun;have cto:=h2.turn.cto;have hult2:=h2.turn.lt;go_wp2_with fail
 have hF3:Fr w W2.drew (fun _=>False):=hF2.drew;refine (po V kb ub c av tv bv tv th root c.to _ (h.frame hF3).ker (h.frame hF3).turn (h.frame hF3).ti h.tl h.tc).mono ?_;rintro e W4 ⟨rfl,hf4⟩;have hF4:=hF3.step hf4 (fun _=>False.elim);rw [hto];simp only [mf,hfull,if_true];go_wp2;go_ret2;exact ⟨rfl,kg.same h.ker (hF4.alloc _)⟩
theorem bl0 (V:ah)(kb ub:Nat)(c:Cl)(av tv bv:Value)(th root:Int)(s:Slot)(k:KCap)(t:Slot)(w:World)(h:de w kb ub V c av tv bv th root)
 (hfi:az V.ker root c.at_=some s) (hk:V.ker.held s=some k) (hto:az V.ker root c.to=some t) (hfull:(V.ker.held t).isSome=false) (hT:ap3 V.ker) :
 Calls Tryz.prog 37 #[.pointer (some ⟨ub,0,none⟩)] w (gg w kb V (kw V.ker root c)):=by
 have hans:kw V.ker root c=some (0,V.ker.move s t k):=by simp [kw,hfi,hk,hto,hfull]
 rw [hans];clear hans;have hult:=h.turn.lt;have cat':=h.turn.cat;have ck':=h.turn.ck;go_enter Tryz.func37,Tryz.ntmps37
 go_wp2_with fail
 refine h.find.mono ?_;rintro e W1 ⟨rfl,hf1⟩;rw [hfi];unfold bd jx;clear cat' ck';go_wp2_with fail
 generalize hW2:W1.alloc _=W2;have hf2:Fr W1 W2 (fun _=>False):=by rw [<- hW2];exact (Fr.refl _ _).alloc _
 have hbs:W2.heap[W1.heap.size]?=some (.cells #[.int .i64 s.node,.int .i64 s.index] 71 (0,0)):=by rw [<- hW2];exact heap_alloc_new _ _
 clear hW2;have hF2:=hf1.step hf2 (fun _=>False.elim);have h2:=h.frame hF2;have c2:=h2.ker.ch;have s0:=aa (o:=0) hbs rfl;have s1:=aa (o:=1) hbs rfl;have hrun:=be (h2.ker.frame ((Fr.refl W2 (fun _=>False)).drew) (fun _ _=>id)) s true;simp only [if_true,hk,jf,Option.isSome] at hrun;go_region_held3 (fun w'=>w'.cell? ⟨kb,1024,none⟩=some (.map (some V.hb))/\w'.cell? ⟨W1.heap.size,0,none⟩=some (.int .i64 s.node)/\w'.cell? ⟨W1.heap.size,1,none⟩=some (.int .i64 s.index)) (go_keep) (fail)
 clear hrun;have cto:=h2.turn.cto;have hult2:=h2.turn.lt;go_wp2_with fail
 have hF3:Fr w W2.drew (fun _=>False):=hF2.drew;refine (po V kb ub c av tv bv tv th root c.to _ (h.frame hF3).ker (h.frame hF3).turn (h.frame hF3).ti h.tl h.tc).mono ?_;rintro e W4 ⟨rfl,hf4⟩;have hF4:=hF3.step hf4 (fun _=>False.elim);rw [hto];simp only [mf,hfull,Bool.false_eq_true,if_false];have hbs4:=hf4.same (w:=W2.drew) hbs id;clear c2 s0 s1 cto;go_wp2_with fail
 generalize hW5:W4.alloc _=W5;have hf5:Fr W4 W5 (fun _=>False):=by rw [<- hW5];exact (Fr.refl _ _).alloc _
 have hbt:W5.heap[W4.heap.size]?=some (.cells #[.int .i64 t.node,.int .i64 t.index] 71 (0,0)):=by rw [<- hW5];exact heap_alloc_new _ _
 clear hW5;have hF5:=hF4.step hf5 (fun _=>False.elim);have hbs5:=hf5.same hbs4 id;have h5:=(h.frame hF5).ker;have l1:=hf1.size;have l4:=hF4.size;have lk:=fun x (hx:V.fp kb x)=>h.ker.fpLt hx
 have nh1:W1.heap.size≠V.hb:=fun e=>by have:=lk V.hb (.inr (.inl rfl));omega
 have nh4:W4.heap.size≠V.hb:=fun e=>by have:=lk V.hb (.inr (.inl rfl));omega
 have d5:Fr W5 W5.drew (fun _=>False):=(Fr.refl _ _).drew;obtain ⟨W6,hrun6,hm6,hf6,hs6⟩:=(h5.frame d5 (fun _ _=>id)).held.del_run (ty:=0) em Tryz.underlying59 s;simp only [Slot.val] at hrun6;have h6:=(h5.frame d5 (fun _ _=>id)).putH hm6 hf6;have hbs6:=hf6.same (d5.same hbs5 id) nh1;have hbt6:=hf6.same (d5.same hbt id) nh4;have d6:Fr W6 W6.drew (fun _=>False):=(Fr.refl _ _).drew;obtain ⟨W7,hrun7,hm7,hf7,hs7⟩:=(h6.frame d6 (fun _ _=>id)).held.put_run em Tryz.underlying59 t k;simp only [Slot.val] at hrun7;have h7:=(h6.frame d6 (fun _ _=>id)).putH hm7 hf7;have hbs7:=hf7.same (d6.same hbs6 id) nh1;have hbt7:=hf7.same (d6.same hbt6 id) nh4;have hF7:Fr w W7 (fun x=>x=V.hb):=(((hF5.step d5 (fun _=>False.elim)).mono (fun _=>False.elim)).step hf6 (fun k hk=>.inl hk)).step ((d6.mono (fun _=>False.elim)).step hf7 (fun k hk=>.inl hk)) (fun k hk=>.inl hk);have c5:=h5.ch;have c6:=h6.ch;have c7:=h7.ch;have c8:=h7.ct;have p0:=aa (o:=0) hbs5 rfl;have p1:=aa (o:=1) hbs5 rfl;have p2:=aa (o:=0) hbs6 rfl;have p3:=aa (o:=1) hbs6 rfl;have p4:=aa (o:=0) hbs7 rfl;have p5:=aa (o:=1) hbs7 rfl;have q2:=aa (o:=0) hbt6 rfl;have q3:=aa (o:=1) hbt6 rfl;have q4:=aa (o:=0) hbt7 rfl;have q5:=aa (o:=1) hbt7 rfl;go_region_held3 (fun w'=>w'.cell? ⟨kb,1024,none⟩=some (.map (some V.hb))/\w'.cell? ⟨W1.heap.size,0,none⟩=some (.int .i64 s.node)/\w'.cell? ⟨W1.heap.size,1,none⟩=some (.int .i64 s.index)) (go_keep) (fail)
 go_wp2_with fail
 go_region_held3 (fun w'=>w'.cell? ⟨kb,1024,none⟩=some (.map (some V.hb))/\w'.cell? ⟨W4.heap.size,0,none⟩=some (.int .i64 t.node)/\w'.cell? ⟨W4.heap.size,1,none⟩=some (.int .i64 t.index)) (go_keep) (fail)
 clear hrun6 hrun7 c5 c6 c7 p0 p1 p2 p3 q2 q3;go_wp2_with fail
 obtain ⟨x,y,hx,hy,hxs,hin,hnd,hkids⟩:=hT.full s k hk;obtain ⟨rx,hrx,hrp,hrk⟩:=rp hx;obtain ⟨ry,hry,hyp,hyk⟩:=rp hy;have htn:am t V.M=none:=at9 (hT.empty t (by simpa using hfull) (a72 hto));have d7:Fr W7 W7.drew (fun _=>False):=(Fr.refl _ _).drew;have h8:=h7.frame d7 (fun _ _=>id);have no:∀z,w.heap.size<=z->¬br V.tb V.M z:=fun z hz hz2=>by have:=h.ker.tree.fpLt hz2;omega
 have hmv:=bj1 V.M V.tb s t rx.parent rx ry W7.drew h8.tree hrx htn rfl (by rw [hrp];exact hry) (by rw [hrp];exact hxs) (by rw [hyk];exact hin) (by rw [hyk];exact hnd) (fun c hc=>by
  obtain ⟨⟨z,hz⟩,hcs⟩:=hkids c (by rw [<- hrk];exact hc);obtain ⟨r,hr,_⟩:=rp hz;exact ⟨⟨r,hr⟩,hcs⟩)
 go_region_held3 (fun w'=>w'.cell? ⟨kb,1025,none⟩=some (.map (some V.tb))/\w'.cell? ⟨W1.heap.size,0,none⟩=some (.int .i64 s.node)/\w'.cell? ⟨W1.heap.size,1,none⟩=some (.int .i64 s.index)/\w'.cell? ⟨W4.heap.size,0,none⟩=some (.int .i64 t.node)/\w'.cell? ⟨W4.heap.size,1,none⟩=some (.int .i64 t.index)) (go_keep)
  ((go_at_call 69;refine hmv.mono ?_;rintro e W9 ⟨rfl,M9,hM9,hst9,hf9,hr9⟩;have h9:=h8.putM hM9 hf9 (fun k hk=>.inl (hr9 k hk));have g0:=h9.ct;obtain ⟨g1,g2⟩:=ah3 hf9 hbs7 (no _ l1);obtain ⟨g3,g4⟩:=ah3 hf9 hbt7 (no _ l4)))
 have hF9:Fr w W9 (V.fp kb):=((hF7.mono (fun k hk=>.inr (.inl hk))).step d7 (fun _=>False.elim)).step hf9 (fun k hk=>.inl (.inr (.inr (.inr (.inr (.inr (.inl hk)))))))
 have hK9:ah.ker {V with H:=putM t k (j3 s V.H),M:=M9}=V.ker.move s t k:=by
  simp only [ah.ker,a_.move,ju,au_ s V.H h.ker.held.nodup,hst9]
 have hfp9:∀z,ah.fp kb {V with H:=putM t k (j3 s V.H),M:=M9} z->V.fp kb z\/w.heap.size<=z:=by
  rintro z (e | e | e | e | e | e | e)
  ·exact .inl (.inl e)
  ·exact .inl (.inr (.inl e))
  ·exact .inl (.inr (.inr (.inl e)))
  ·exact .inl (.inr (.inr (.inr (.inl e))))
  ·exact .inl (.inr (.inr (.inr (.inr (.inl e)))))
  ·exact .inl (.inr (.inr (.inr (.inr (.inr (.inl (hr9 z e)))))))
  ·exact .inl (.inr (.inr (.inr (.inr (.inr (.inr e))))))
 clear g0 g1 g2 g3 g4 p4 p5 q4 q5 c8 hmv hst9 hM9;go_wp2;go_ret2;exact ⟨rfl,_,h9,hK9,rfl,hF9,hfp9⟩
theorem bp6 (V:ah)(kb ub:Nat)(c:Cl)(av tv bv:Value)(th root:Int)(w:World)(h:de w kb ub V c av tv bv th root)(hT:ap3 V.ker):
 Calls Tryz.prog 37 #[.pointer (some ⟨ub,0,none⟩)] w (gg w kb V (kw V.ker root c)):=by
 cases hfi:az V.ker root c.at_ with
 | none=>
  have hans:kw V.ker root c=none:=by simp [kw,hfi]
  rw [hans];have cat':=h.turn.cat;have ck':=h.turn.ck;go_enter Tryz.func37,Tryz.ntmps37
  go_wp2_with fail
  refine h.find.mono ?_;rintro e W1 ⟨rfl,hf1⟩;rw [hfi];unfold bd gup;go_wp2;exact ⟨rfl,rfl,hf1⟩
 | some s=>
  cases hk:V.ker.held s with
  | none=>exact ba7 V kb ub c av tv bv th root s w h hfi hk
  | some k=>
   cases hto:az V.ker root c.to with
   | none=>exact be7 V kb ub c av tv bv th root s k w h hfi hk hto
   | some t=>
    cases hfull:(V.ker.held t).isSome with
    | true=>exact bi3 V kb ub c av tv bv th root s k t w h hfi hk hto hfull
    | false=>exact bl0 V kb ub c av tv bv th root s k t w h hfi hk hto hfull hT
end Go.Proofs.YtdpjgflemddekaaGreatDoor
namespace Go.Proofs.YtdpjgflemddekaaGreatDoor
open Go.RowKit Go.Shelf
theorem bw7 (W:World):(Instr.index 88 oy (.int .i64 1)).run Tryz.prog W=.ok (.func (.func 34) #[] #[]) W:=by kernel_rfl
theorem bq1 (W:World):(Instr.index 88 oy (.int .i64 2)).run Tryz.prog W=.ok (.func (.func 35) #[] #[]) W:=by kernel_rfl
theorem bp4 (W:World):(Instr.index 88 oy (.int .i64 3)).run Tryz.prog W=.ok (.func (.func 36) #[] #[]) W:=by kernel_rfl
theorem bq0 (W:World):(Instr.index 88 oy (.int .i64 4)).run Tryz.prog W=.ok (.func (.func 37) #[] #[]) W:=by kernel_rfl
theorem bu6 (W:World):(Instr.index 88 oy (.int .i64 5)).run Tryz.prog W=.ok (.func (.func 38) #[] #[]) W:=by kernel_rfl
theorem bx6 (W:World):(Instr.index 88 oy (.int .i64 6)).run Tryz.prog W=.ok (.func (.func 39) #[] #[]) W:=by kernel_rfl
theorem cf1 (args:Array Value)(W:World):(callFunc 34 args).run Tryz.prog W=.ok (.enter 34 args) W:=by kernel_rfl
theorem cf2 (args:Array Value)(W:World):(callFunc 35 args).run Tryz.prog W=.ok (.enter 35 args) W:=by kernel_rfl
theorem cf3 (args:Array Value)(W:World):(callFunc 36 args).run Tryz.prog W=.ok (.enter 36 args) W:=by kernel_rfl
theorem cf4 (args:Array Value)(W:World):(callFunc 37 args).run Tryz.prog W=.ok (.enter 37 args) W:=by kernel_rfl
theorem cf5 (args:Array Value)(W:World):(callFunc 38 args).run Tryz.prog W=.ok (.enter 38 args) W:=by kernel_rfl
theorem cf6 (args:Array Value)(W:World):(callFunc 39 args).run Tryz.prog W=.ok (.enter 39 args) W:=by kernel_rfl
structure CallI (w:World)(kb:Nat)(S:KS)(V:ah)(c:Cl)(av tv:Value):Prop where
 kd:s_ w kb S V
 good:cm S
 at_:ay w av c.at_
 ti:ay w tv c.to
 al:c.at_.length<=9000000000000000000
 tl:c.to.length<=9000000000000000000
 ac:∀A n cap,av=.slice A n cap->n<=cap
 tc:∀A n cap,tv=.slice A n cap->n<=cap
 da:0<c.at_.length->∀k,av.ownBlock=some k->¬V.fd kb k
 dt:0<c.to.length->∀k,tv.ownBlock=some k->¬V.fd kb k
theorem CallI.at {w W:World}{kb ub:Nat}{S:KS}{V:ah}{c:Cl}{av tv:Value}{bv:Value}{th root:Int}(h:CallI w kb S V c av tv)(hF:Fr w W (fun _=>False))(hT:ef W ub kb c av tv th root bv)(hu:w.heap.size<=ub):s5 W kb ub S V c av tv bv th root:=
 ⟨h.kd.frame hF (fun _ _=>id) (fun _=>False.elim),h.good,hT,h.at_.fr hF (fun _ _=>id),h.ti.fr hF (fun _ _=>id),h.al,h.tl,h.ac,h.tc,fun e=>by have:=h.kd.lt e;omega,h.da,h.dt⟩
theorem au8 {W w':World}{kb ub:Nat}{V:ah}{r:Int×KS}{e:Ending}(h:a90 W kb V r e w'):
 ∃x y K,(e=.returned (.tuple #[.int .i64 x,.int .i64 y])\/(e=gup y/\x=0))/\r_ W kb ub V K w'/\(x=0/\(y,K)=r):=by
 obtain ⟨h1,h2⟩:=h;rcases h1 with h1 | h1
 ·exact ⟨0,r.1,r.2,.inl h1,h2.u,rfl,rfl⟩
 ·exact ⟨0,r.1,r.2,.inr ⟨h1,rfl⟩,h2.u,rfl,rfl⟩
theorem aj9 {W w':World}{kb:Nat}{S:KS}{V:ah}{r:Option (Int×a_)}{e:Ending}(h:s_ W kb S V)(hc:gg W kb V r e w'):a90 W kb V ((dj S.K r).1,{S with K:=(dj S.K r).2}) e w':=by
 cases r with
 | none=>exact ⟨.inr hc.1,h.stay hc.2⟩
 | some p=>obtain ⟨x,K⟩:=p;exact ⟨.inl hc.1,h.kout hc.2⟩
attribute [local go_sem] kp
attribute [local go_sem] kp
theorem aq.putW1 {w:World}{kb:Nat}{V:ah}{ws:Nat->Int}(h:aq w kb V){i:Nat}(hi:i<1024){v:Int}(e:ws=fun k=>if k=i then v else V.ws k):aq (w.setCell ⟨kb,i,none⟩ (.int .u32 v)) kb {V with ws:=ws}:=by
 obtain ⟨c,hc,hcc⟩:=h.blk;have hf:Fr w (w.setCell ⟨kb,i,none⟩ (.int .u32 v)) (fun k=>k=kb):=Fr.set1 _ _ _ _;have hsz:∀j,j≠i->(c.setIfInBounds i (.int .u32 v))[j]?=c[j]?:=fun j hj=>Array.getElem?_setIfInBounds_ne (Ne.symm hj)
 refine ⟨⟨_,ak _ _ _ _ hc,?_⟩,h.held.frame hf (Ne.symm h.kh),h.tree.frame hf ?_,h.nodes.frame hf (Ne.symm h.kn),h.thr.frame hf (Ne.symm h.kr),h.que.frame hf (Ne.symm h.kq),h.ht,h.hn,h.hr,h.hq,h.tn,h.tr,h.tq,h.nr,h.nq,h.rq,h.rows,h.rest.frame hf (fun k hk e=>h.rest.noCells hc hk e)⟩
 ·refine ⟨by simpa using hcc.size,?_,?_,?_,?_,?_,?_,?_⟩
  ·intro j hj;by_cases hji:j=i
   ·subst hji;rw [e,Array.getElem?_setIfInBounds_self_of_lt (by rw [hcc.size];omega)];simp
   ·rw [hsz j hji,hcc.w j hj,e];simp [hji]
  ·rw [hsz _ (by omega)];exact hcc.h
  ·rw [hsz _ (by omega)];exact hcc.t
  ·rw [hsz _ (by omega)];exact hcc.n
  ·rw [hsz _ (by omega)];exact hcc.d
  ·rw [hsz _ (by omega)];exact hcc.r
  ·rw [hsz _ (by omega)];exact hcc.q
 ·rintro k (rfl | ⟨s,x,hx,hk⟩) e
  ·exact h.kt e.symm
  ·exact (h.row_ne hx hk).2.2.2.2.2 e
def putWs (K:a_)(i:Nat)(v:Int):a_:={K with ws:=fun k=>if k=i then v else K.ws k}
theorem bw1 {w w1:World}{kb:Nat}{V:ah}{v:Int}(h:aq w kb V)(hf:Fr w w1 (fun _=>False)){i:Nat}(hi:i<1024):kg w kb V (putWs V.ker i v) (w1.setCell ⟨kb,i,none⟩ (.int .u32 v)):=
 ⟨_,(h.frame hf (fun _ _=>id)).putW1 (v:=v) hi rfl,rfl,rfl,Fr.setCell (S:=V.fp kb) (hf.mono (fun _ h=>h.elim)) (.inl (.inl rfl)) _ _,fun _ hk=>.inl hk⟩
theorem a4_ (W:World):(Instr.index 88 oy (.int .i64 9)).run Tryz.prog W=.ok (.func (.func 42) #[] #[]) W:=by kernel_rfl
theorem bj4 (W:World):(Instr.index 88 oy (.int .i64 10)).run Tryz.prog W=.ok (.func (.func 43) #[] #[]) W:=by kernel_rfl
theorem cf9 (args:Array Value)(W:World):(callFunc 42 args).run Tryz.prog W=.ok (.enter 42 args) W:=by kernel_rfl
theorem b90 (args:Array Value)(W:World):(callFunc 43 args).run Tryz.prog W=.ok (.enter 43 args) W:=by kernel_rfl
end Go.Proofs.YtdpjgflemddekaaGreatDoor

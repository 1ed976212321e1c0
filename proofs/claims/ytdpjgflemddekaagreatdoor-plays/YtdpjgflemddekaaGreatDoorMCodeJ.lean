/- The code: turn.mint. -/
import Derived.Test.YtdpjgflemddekaaGreatDoorMCodeG
set_option maxRecDepth 100000
set_option maxHeartbeats 4000000
namespace Go.Proofs.YtdpjgflemddekaaGreatDoor
open Go.RowKit
theorem a16 {k:KCap}(h:k.isE=false)(W:World):(Instr.typeAssert k.val 79 122 true).run Tryz.prog W=.ok (.tuple #[.agg #[.int .i64 0,.int .i64 0,.int .i64 0,.int .i64 0],.bool false]) W:=by
 cases k with
 | endpoint b n r g=>cases h
 | node b n r=>exact pd _ W
 | untyped b n r=>exact h_ _ W
 | task b n r=>exact ip _ W
 | frame b n r=>exact gh _ W
theorem b80 {w w':World}{kb ub:Nat}{V:ah}{c:Cl}{av tv bv:Value}{th root:Int}{x y:Nat}{t u:TypeId}{a1 a2 b1 b2 b3 b4:Value}(hf:Fr w w' (V.fp kb))(h:de w kb ub V c av tv bv th root)
 (hx:w.heap[x]?=some (.cells #[a1,a2] t (0,0))) (hy:w.heap[y]?=some (.cells #[b1,b2,b3,b4] u (0,0))) (nx:¬V.fp kb x) (ny:¬V.fp kb y) :
 w'.cell? ⟨ub,7,none⟩=some (.int .i64 c.rights)/\w'.cell? ⟨x,0,none⟩=some a1/\w'.cell? ⟨x,1,none⟩=some a2/\w'.cell? ⟨y,0,none⟩=some b1/\w'.cell? ⟨y,1,none⟩=some b2/\w'.cell? ⟨y,2,none⟩=some b3/\w'.cell? ⟨y,3,none⟩=some b4:=
 ⟨(h.turn.frame hf h.ub).crights,aa (hf.same hx nx) rfl,aa (hf.same hx nx) rfl,aa (hf.same hy ny) rfl,aa (hf.same hy ny) rfl,aa (hf.same hy ny) rfl,aa (hf.same hy ny) rfl⟩
theorem bd4 {K:a_}{root:Int}{c:Cl}{s:Slot}{k:KCap}(hfi:az K root c.at_=some s)(hk:K.held s=some k)(h:k.isE=false):ia K root c=some (3,K):=by
 simp only [ia,hfi,hk];cases k with
 | endpoint b n r g=>cases h
 | _=>rfl
theorem a98 (V:ah)(kb ub:Nat)(c:Cl)(av tv bv:Value)(th root:Int)(s:Slot)(w:World)(h:de w kb ub V c av tv bv th root)
 (hfi:az V.ker root c.at_=some s) (hk:V.ker.held s=none) :
 Calls Tryz.prog 36 #[.pointer (some ⟨ub,0,none⟩)] w (gg w kb V (ia V.ker root c)):=by
 have hans:ia V.ker root c=some (4,V.ker):=by simp [ia,hfi,hk]
 rw [hans];clear hans;have hult:=h.turn.lt;have cat':=h.turn.cat;go_enter Tryz.func36,Tryz.ntmps36
 go_wp2_with fail
 refine h.find.mono ?_;rintro e W1 ⟨rfl,hf1⟩;rw [hfi];unfold bd jx;clear cat';go_wp2_with fail
 generalize hW2:W1.alloc _=W2;have hf2:Fr W1 W2 (fun _=>False):=by rw [<- hW2];exact (Fr.refl _ _).alloc _
 have hbs:W2.heap[W1.heap.size]?=some (.cells #[.int .i64 s.node,.int .i64 s.index] 71 (0,0)):=by rw [<- hW2];exact heap_alloc_new _ _
 clear hW2;have hF2:=hf1.step hf2 (fun _=>False.elim);have h2:=h.frame hF2;have c1:=h2.turn.ck;have c2:=h2.ker.ch;have s0:=aa (o:=0) hbs rfl;have s1:=aa (o:=1) hbs rfl;have hrun:=be (h2.ker.frame ((Fr.refl W2 (fun _=>False)).drew) (fun _ _=>id)) s true;simp only [if_true,hk,jf,Option.isSome] at hrun;go_region_held3 (fun w'=>w'.cell? ⟨ub,0,none⟩=some (.pointer (some ⟨kb,0,none⟩))/\w'.cell? ⟨kb,1024,none⟩=some (.map (some V.hb))/\w'.cell? ⟨W1.heap.size,0,none⟩=some (.int .i64 s.node)/\w'.cell? ⟨W1.heap.size,1,none⟩=some (.int .i64 s.index)) (go_keep) (fail)
 clear hrun;go_wp2;go_ret2;exact ⟨rfl,kg.same h.ker hF2.drew⟩
theorem bk4 (V:ah)(kb ub:Nat)(c:Cl)(av tv bv:Value)(th root:Int)(s:Slot)(k:KCap)(w:World)(h:de w kb ub V c av tv bv th root)
 (hfi:az V.ker root c.at_=some s) (hk:V.ker.held s=some k) (he:k.isE=false) :
 Calls Tryz.prog 36 #[.pointer (some ⟨ub,0,none⟩)] w (gg w kb V (ia V.ker root c)):=by
 have hans:ia V.ker root c=some (3,V.ker):=by exact bd4 hfi hk he
 rw [hans];clear hans;have hult:=h.turn.lt;have cat':=h.turn.cat;go_enter Tryz.func36,Tryz.ntmps36
 go_wp2_with fail
 refine h.find.mono ?_;rintro e W1 ⟨rfl,hf1⟩;rw [hfi];unfold bd jx;clear cat';go_wp2_with fail
 generalize hW2:W1.alloc _=W2;have hf2:Fr W1 W2 (fun _=>False):=by rw [<- hW2];exact (Fr.refl _ _).alloc _
 have hbs:W2.heap[W1.heap.size]?=some (.cells #[.int .i64 s.node,.int .i64 s.index] 71 (0,0)):=by rw [<- hW2];exact heap_alloc_new _ _
 clear hW2;have hF2:=hf1.step hf2 (fun _=>False.elim);have h2:=h.frame hF2;have c1:=h2.turn.ck;have c2:=h2.ker.ch;have s0:=aa (o:=0) hbs rfl;have s1:=aa (o:=1) hbs rfl;have hrun:=be (h2.ker.frame ((Fr.refl W2 (fun _=>False)).drew) (fun _ _=>id)) s true;simp only [if_true,hk,jf,Option.isSome] at hrun;go_region_held3 (fun w'=>w'.cell? ⟨ub,0,none⟩=some (.pointer (some ⟨kb,0,none⟩))/\w'.cell? ⟨kb,1024,none⟩=some (.map (some V.hb))/\w'.cell? ⟨W1.heap.size,0,none⟩=some (.int .i64 s.node)/\w'.cell? ⟨W1.heap.size,1,none⟩=some (.int .i64 s.index)) (go_keep) (fail)
 clear hrun;have hta:=a16 he;go_wp2;go_ret2;exact ⟨rfl,kg.same h.ker (hF2.alloc _).drew⟩
theorem a2_ (V:ah)(kb ub:Nat)(c:Cl)(av tv bv:Value)(th root:Int)(s:Slot)(b n q g:Int)(w:World)(h:de w kb ub V c av tv bv th root)
 (hfi:az V.ker root c.at_=some s) (hk:V.ker.held s=some (.endpoint b n q g)) (hg:g≠0) :
 Calls Tryz.prog 36 #[.pointer (some ⟨ub,0,none⟩)] w (gg w kb V (ia V.ker root c)):=by
 have hans:ia V.ker root c=some (5,V.ker):=by simp [ia,hfi,hk,hg]
 rw [hans];clear hans;have hult:=h.turn.lt;have cat':=h.turn.cat;go_enter Tryz.func36,Tryz.ntmps36
 go_wp2_with fail
 refine h.find.mono ?_;rintro e W1 ⟨rfl,hf1⟩;rw [hfi];unfold bd jx;clear cat';go_wp2_with fail
 generalize hW2:W1.alloc _=W2;have hf2:Fr W1 W2 (fun _=>False):=by rw [<- hW2];exact (Fr.refl _ _).alloc _
 have hbs:W2.heap[W1.heap.size]?=some (.cells #[.int .i64 s.node,.int .i64 s.index] 71 (0,0)):=by rw [<- hW2];exact heap_alloc_new _ _
 clear hW2;have hF2:=hf1.step hf2 (fun _=>False.elim);have h2:=h.frame hF2;have c1:=h2.turn.ck;have c2:=h2.ker.ch;have s0:=aa (o:=0) hbs rfl;have s1:=aa (o:=1) hbs rfl;have hrun:=be (h2.ker.frame ((Fr.refl W2 (fun _=>False)).drew) (fun _ _=>id)) s true;simp only [if_true,hk,jf,Option.isSome] at hrun;go_region_held3 (fun w'=>w'.cell? ⟨ub,0,none⟩=some (.pointer (some ⟨kb,0,none⟩))/\w'.cell? ⟨kb,1024,none⟩=some (.map (some V.hb))/\w'.cell? ⟨W1.heap.size,0,none⟩=some (.int .i64 s.node)/\w'.cell? ⟨W1.heap.size,1,none⟩=some (.int .i64 s.index)) (go_keep) (fail)
 clear hrun;have hta:=bp;have hg1:(g != 0)=true:=by simpa using hg
 simp only [KCap.val];go_wp2;go_ret2;exact ⟨rfl,kg.same h.ker (hF2.alloc _).drew⟩
theorem a37 (V:ah)(kb ub:Nat)(c:Cl)(av tv bv:Value)(th root:Int)(s:Slot)(b n q g:Int)(w:World)(h:de w kb ub V c av tv bv th root)
 (hfi:az V.ker root c.at_=some s) (hk:V.ker.held s=some (.endpoint b n q g)) (hg:g=0) (hr:¬(0<=c.rights/\c.rights<=7)) :
 Calls Tryz.prog 36 #[.pointer (some ⟨ub,0,none⟩)] w (gg w kb V (ia V.ker root c)):=by
 have hans:ia V.ker root c=some (7,V.ker):=by simp only [ia,hfi,hk,hg];simp [hr]
 rw [hans];clear hans;have hult:=h.turn.lt;have cat':=h.turn.cat;go_enter Tryz.func36,Tryz.ntmps36
 go_wp2_with fail
 refine h.find.mono ?_;rintro e W1 ⟨rfl,hf1⟩;rw [hfi];unfold bd jx;clear cat';go_wp2_with fail
 generalize hW2:W1.alloc _=W2;have hf2:Fr W1 W2 (fun _=>False):=by rw [<- hW2];exact (Fr.refl _ _).alloc _
 have hbs:W2.heap[W1.heap.size]?=some (.cells #[.int .i64 s.node,.int .i64 s.index] 71 (0,0)):=by rw [<- hW2];exact heap_alloc_new _ _
 clear hW2;have hF2:=hf1.step hf2 (fun _=>False.elim);have h2:=h.frame hF2;have c1:=h2.turn.ck;have c2:=h2.ker.ch;have s0:=aa (o:=0) hbs rfl;have s1:=aa (o:=1) hbs rfl;have hrun:=be (h2.ker.frame ((Fr.refl W2 (fun _=>False)).drew) (fun _ _=>id)) s true;simp only [if_true,hk,jf,Option.isSome] at hrun;go_region_held3 (fun w'=>w'.cell? ⟨ub,0,none⟩=some (.pointer (some ⟨kb,0,none⟩))/\w'.cell? ⟨kb,1024,none⟩=some (.map (some V.hb))/\w'.cell? ⟨W1.heap.size,0,none⟩=some (.int .i64 s.node)/\w'.cell? ⟨W1.heap.size,1,none⟩=some (.int .i64 s.index)) (go_keep) (fail)
 clear hrun;have hta:=bp;have cr:=h2.turn.crights;have hrt:decide (0<=c.rights/\c.rights<=7)=false:=by simpa using hr
 have hult2:=h2.turn.lt;subst hg;simp only [KCap.val];go_wp2_with (go_at_call 65;refine (il c.rights _).mono ?_;rintro e w' ⟨rfl,rfl⟩;rw [hrt])
 go_ret2;exact ⟨rfl,kg.same h.ker (hF2.alloc _).drew⟩
theorem bd7 (V:ah)(kb ub:Nat)(c:Cl)(av tv bv:Value)(th root:Int)(s:Slot)(b n q g:Int)(w:World)(h:de w kb ub V c av tv bv th root)
 (hfi:az V.ker root c.at_=some s) (hk:V.ker.held s=some (.endpoint b n q g)) (hg:g=0) (hr:0<=c.rights/\c.rights<=7) (hb:¬(1<=c.badge/\c.badge<=65535)) :
 Calls Tryz.prog 36 #[.pointer (some ⟨ub,0,none⟩)] w (gg w kb V (ia V.ker root c)):=by
 have hans:ia V.ker root c=some (7,V.ker):=by simp only [ia,hfi,hk,hg];simp [hb]
 rw [hans];clear hans;have hult:=h.turn.lt;have cat':=h.turn.cat;go_enter Tryz.func36,Tryz.ntmps36
 go_wp2_with fail
 refine h.find.mono ?_;rintro e W1 ⟨rfl,hf1⟩;rw [hfi];unfold bd jx;clear cat';go_wp2_with fail
 generalize hW2:W1.alloc _=W2;have hf2:Fr W1 W2 (fun _=>False):=by rw [<- hW2];exact (Fr.refl _ _).alloc _
 have hbs:W2.heap[W1.heap.size]?=some (.cells #[.int .i64 s.node,.int .i64 s.index] 71 (0,0)):=by rw [<- hW2];exact heap_alloc_new _ _
 clear hW2;have hF2:=hf1.step hf2 (fun _=>False.elim);have h2:=h.frame hF2;have c1:=h2.turn.ck;have c2:=h2.ker.ch;have s0:=aa (o:=0) hbs rfl;have s1:=aa (o:=1) hbs rfl;have hrun:=be (h2.ker.frame ((Fr.refl W2 (fun _=>False)).drew) (fun _ _=>id)) s true;simp only [if_true,hk,jf,Option.isSome] at hrun;go_region_held3 (fun w'=>w'.cell? ⟨ub,0,none⟩=some (.pointer (some ⟨kb,0,none⟩))/\w'.cell? ⟨kb,1024,none⟩=some (.map (some V.hb))/\w'.cell? ⟨W1.heap.size,0,none⟩=some (.int .i64 s.node)/\w'.cell? ⟨W1.heap.size,1,none⟩=some (.int .i64 s.index)) (go_keep) (fail)
 clear hrun;have hta:=bp;have cr:=h2.turn.crights;have cb:=h2.turn.cbadge;have hrt:decide (0<=c.rights/\c.rights<=7)=true:=by simpa using hr
 have hult2:=h2.turn.lt;subst hg;simp only [KCap.val];by_cases hb1:c.badge<1
 ·have hb2:decide (c.badge<1)=true:=by simpa using hb1
  go_wp2_with (go_at_call 65;refine (il c.rights _).mono ?_;rintro e w' ⟨rfl,rfl⟩;rw [hrt])
  go_ret2;exact ⟨rfl,kg.same h.ker (hF2.alloc _).drew⟩
 ·have hb2:decide (c.badge<1)=false:=by simpa using hb1
  have hb3:(65535:Int)<c.badge:=by omega
  have hb4:decide ((65535:Int)<c.badge)=true:=by simpa using hb3
  go_wp2_with (go_at_call 65;refine (il c.rights _).mono ?_;rintro e w' ⟨rfl,rfl⟩;rw [hrt])
  go_ret2;exact ⟨rfl,kg.same h.ker (hF2.alloc _).drew⟩
theorem a99 (V:ah)(kb ub:Nat)(c:Cl)(av tv bv:Value)(th root:Int)(s:Slot)(b n q g:Int)(w:World)(h:de w kb ub V c av tv bv th root)
 (hfi:az V.ker root c.at_=some s) (hk:V.ker.held s=some (.endpoint b n q g)) (hg:g=0) (hr:0<=c.rights/\c.rights<=7) (hb:1<=c.badge/\c.badge<=65535) (hp:cj V.ker root c.to (fj (.endpoint b n q c.badge) c.rights) s=none) :
 Calls Tryz.prog 36 #[.pointer (some ⟨ub,0,none⟩)] w (gg w kb V (ia V.ker root c)):=by
 have hans:ia V.ker root c=none:=by simp only [ia,hfi,hk,hg];simp [hr,hb,hp]
 rw [hans];clear hans;have hult:=h.turn.lt;have cat':=h.turn.cat;go_enter Tryz.func36,Tryz.ntmps36
 go_wp2_with fail
 refine h.find.mono ?_;rintro e W1 ⟨rfl,hf1⟩;rw [hfi];unfold bd jx;clear cat';go_wp2_with fail
 generalize hW2:W1.alloc _=W2;have hf2:Fr W1 W2 (fun _=>False):=by rw [<- hW2];exact (Fr.refl _ _).alloc _
 have hbs:W2.heap[W1.heap.size]?=some (.cells #[.int .i64 s.node,.int .i64 s.index] 71 (0,0)):=by rw [<- hW2];exact heap_alloc_new _ _
 clear hW2;have hF2:=hf1.step hf2 (fun _=>False.elim);have h2:=h.frame hF2;have c1:=h2.turn.ck;have c2:=h2.ker.ch;have s0:=aa (o:=0) hbs rfl;have s1:=aa (o:=1) hbs rfl;have hrun:=be (h2.ker.frame ((Fr.refl W2 (fun _=>False)).drew) (fun _ _=>id)) s true;simp only [if_true,hk,jf,Option.isSome] at hrun;go_region_held3 (fun w'=>w'.cell? ⟨ub,0,none⟩=some (.pointer (some ⟨kb,0,none⟩))/\w'.cell? ⟨kb,1024,none⟩=some (.map (some V.hb))/\w'.cell? ⟨W1.heap.size,0,none⟩=some (.int .i64 s.node)/\w'.cell? ⟨W1.heap.size,1,none⟩=some (.int .i64 s.index)) (go_keep) (fail)
 clear hrun;have hta:=bp;have cr:=h2.turn.crights;have cb:=h2.turn.cbadge;have hrt:decide (0<=c.rights/\c.rights<=7)=true:=by simpa using hr
 have hult2:=h2.turn.lt;obtain ⟨hb1,hb3⟩:=hb;have hb2:decide (c.badge<1)=false:=by simp;omega
 have hb4:decide ((65535:Int)<c.badge)=false:=by simp;omega
 subst hg;simp only [KCap.val];go_wp2_with (go_at_call 65;refine (il c.rights _).mono ?_;rintro e w' ⟨rfl,rfl⟩;rw [hrt])
 generalize hW3:World.drew _=W3;have hf3:Fr W2 W3 (fun _=>False):=by rw [<- hW3];exact ((Fr.refl _ _).alloc _).drew
 have hbe:W3.heap[W2.heap.size]?=some (.cells #[.int .i64 b,.int .i64 n,.int .i64 q,.int .i64 c.badge] 122 (0,0)):=by rw [<- hW3];exact heap_alloc_new _ _
 clear hW3;have hF3:=hF2.step hf3 (fun _=>False.elim);have h3:=h.frame hF3;have cr3:=h3.turn.crights;have hbs3:=hf3.same hbs id;have t0:=aa (o:=0) hbs3 rfl;have t1:=aa (o:=1) hbs3 rfl;have e0:=aa (o:=0) hbe rfl;have e1:=aa (o:=1) hbe rfl;have e2:=aa (o:=2) hbe rfl;have e3:=aa (o:=3) hbe rfl;clear c1 c2 s0 s1 cr h2;obtain ⟨lv,hlv⟩:∃lv,Hid ((fj (.endpoint b n q c.badge) c.rights).val=lv):=⟨_,rfl⟩;have hle:∀W,Calls Tryz.prog 67 #[.iface 122 (.agg #[.int .i64 b,.int .i64 n,.int .i64 q,.int .i64 c.badge]),.int .i64 c.rights] W (fun e w'=>e=.returned lv/\Fr W w' (fun _=>False)):=fun W=>by
  have:=qf (.endpoint b n q c.badge) c.rights W;rw [hlv.out] at this;exact this
 have hch:∀W,de W kb ub V c av tv bv th root->Calls Tryz.prog 66 #[.pointer (some ⟨ub,0,none⟩),lv,.agg #[.int .i64 s.node,.int .i64 s.index]] W (ug W kb V (cj V.ker root c.to (fj (.endpoint b n q c.badge) c.rights) s)):=fun W hW=>by
  have:=hW.child (fj (.endpoint b n q c.badge) c.rights) s;rw [hlv.out] at this;exact this
 go_region_with (first
  |(go_at_call 67;refine (hle _).mono ?_;rintro e W5 ⟨rfl,hf5⟩;have hF5:Fr w W5 (fun _=>False):=(hF3.drew).step hf5 (fun _=>False.elim);have g1:=hf5.cell (a:=⟨W1.heap.size,0,none⟩) t0 id;have g2:=hf5.cell (a:=⟨W1.heap.size,1,none⟩) t1 id)
  |(go_at_call 66;refine (hch _ (h.frame hF5)).mono ?_;rintro e W6 hO;obtain ⟨rfl,hf6⟩:=ye hO hp;unfold gup;refine al2 (by exact ⟨rfl,rfl,hF5.step hf6 (fun _=>False.elim)⟩) W6 ?_))
 all_goals trivial
theorem bl_ (V:ah)(kb ub:Nat)(c:Cl)(av tv bv:Value)(th root:Int)(s:Slot)(b n q g:Int)(x:Int)(K:a_)(w:World)(h:de w kb ub V c av tv bv th root)
 (hfi:az V.ker root c.at_=some s) (hk:V.ker.held s=some (.endpoint b n q g)) (hg:g=0) (hr:0<=c.rights/\c.rights<=7) (hb:1<=c.badge/\c.badge<=65535) (hp:cj V.ker root c.to (fj (.endpoint b n q c.badge) c.rights) s=some (x,K)) :
 Calls Tryz.prog 36 #[.pointer (some ⟨ub,0,none⟩)] w (gg w kb V (ia V.ker root c)):=by
 have hans:ia V.ker root c=some (x,K):=by simp only [ia,hfi,hk,hg];simp [hr,hb,hp]
 rw [hans];clear hans;have hult:=h.turn.lt;have cat':=h.turn.cat;go_enter Tryz.func36,Tryz.ntmps36
 go_wp2_with fail
 refine h.find.mono ?_;rintro e W1 ⟨rfl,hf1⟩;rw [hfi];unfold bd jx;clear cat';go_wp2_with fail
 generalize hW2:W1.alloc _=W2;have hf2:Fr W1 W2 (fun _=>False):=by rw [<- hW2];exact (Fr.refl _ _).alloc _
 have hbs:W2.heap[W1.heap.size]?=some (.cells #[.int .i64 s.node,.int .i64 s.index] 71 (0,0)):=by rw [<- hW2];exact heap_alloc_new _ _
 clear hW2;have hF2:=hf1.step hf2 (fun _=>False.elim);have h2:=h.frame hF2;have c1:=h2.turn.ck;have c2:=h2.ker.ch;have s0:=aa (o:=0) hbs rfl;have s1:=aa (o:=1) hbs rfl;have hrun:=be (h2.ker.frame ((Fr.refl W2 (fun _=>False)).drew) (fun _ _=>id)) s true;simp only [if_true,hk,jf,Option.isSome] at hrun;go_region_held3 (fun w'=>w'.cell? ⟨ub,0,none⟩=some (.pointer (some ⟨kb,0,none⟩))/\w'.cell? ⟨kb,1024,none⟩=some (.map (some V.hb))/\w'.cell? ⟨W1.heap.size,0,none⟩=some (.int .i64 s.node)/\w'.cell? ⟨W1.heap.size,1,none⟩=some (.int .i64 s.index)) (go_keep) (fail)
 clear hrun;have hta:=bp;have cr:=h2.turn.crights;have cb:=h2.turn.cbadge;have hrt:decide (0<=c.rights/\c.rights<=7)=true:=by simpa using hr
 have hult2:=h2.turn.lt;obtain ⟨hb1,hb3⟩:=hb;have hb2:decide (c.badge<1)=false:=by simp;omega
 have hb4:decide ((65535:Int)<c.badge)=false:=by simp;omega
 subst hg;simp only [KCap.val];go_wp2_with (go_at_call 65;refine (il c.rights _).mono ?_;rintro e w' ⟨rfl,rfl⟩;rw [hrt])
 generalize hW3:World.drew _=W3;have hf3:Fr W2 W3 (fun _=>False):=by rw [<- hW3];exact ((Fr.refl _ _).alloc _).drew
 have hbe:W3.heap[W2.heap.size]?=some (.cells #[.int .i64 b,.int .i64 n,.int .i64 q,.int .i64 c.badge] 122 (0,0)):=by rw [<- hW3];exact heap_alloc_new _ _
 clear hW3;have hF3:=hF2.step hf3 (fun _=>False.elim);have h3:=h.frame hF3;have cr3:=h3.turn.crights;have hbs3:=hf3.same hbs id;have t0:=aa (o:=0) hbs3 rfl;have t1:=aa (o:=1) hbs3 rfl;have e0:=aa (o:=0) hbe rfl;have e1:=aa (o:=1) hbe rfl;have e2:=aa (o:=2) hbe rfl;have e3:=aa (o:=3) hbe rfl;clear c1 c2 s0 s1 cr h2;obtain ⟨lv,hlv⟩:∃lv,Hid ((fj (.endpoint b n q c.badge) c.rights).val=lv):=⟨_,rfl⟩;have hle:∀W,Calls Tryz.prog 67 #[.iface 122 (.agg #[.int .i64 b,.int .i64 n,.int .i64 q,.int .i64 c.badge]),.int .i64 c.rights] W (fun e w'=>e=.returned lv/\Fr W w' (fun _=>False)):=fun W=>by
  have:=qf (.endpoint b n q c.badge) c.rights W;rw [hlv.out] at this;exact this
 have hch:∀W,de W kb ub V c av tv bv th root->Calls Tryz.prog 66 #[.pointer (some ⟨ub,0,none⟩),lv,.agg #[.int .i64 s.node,.int .i64 s.index]] W (ug W kb V (cj V.ker root c.to (fj (.endpoint b n q c.badge) c.rights) s)):=fun W hW=>by
  have:=hW.child (fj (.endpoint b n q c.badge) c.rights) s;rw [hlv.out] at this;exact this
 go_region_held3 (fun w'=>w'.cell? ⟨ub,7,none⟩=some (.int .i64 c.rights)/\w'.cell? ⟨W1.heap.size,0,none⟩=some (.int .i64 s.node)/\w'.cell? ⟨W1.heap.size,1,none⟩=some (.int .i64 s.index)/\w'.cell? ⟨W2.heap.size,0,none⟩=some (.int .i64 b)/\w'.cell? ⟨W2.heap.size,1,none⟩=some (.int .i64 n)/\w'.cell? ⟨W2.heap.size,2,none⟩=some (.int .i64 q)/\w'.cell? ⟨W2.heap.size,3,none⟩=some (.int .i64 c.badge)) (go_keep)
  (first
  |(go_at_call 67;refine (hle _).mono ?_;rintro e W5 ⟨rfl,hf5⟩;have hF5:Fr w W5 (fun _=>False):=(hF3.drew).step hf5 (fun _=>False.elim);have g1:=hf5.cell (a:=⟨W1.heap.size,0,none⟩) t0 id;have g2:=hf5.cell (a:=⟨W1.heap.size,1,none⟩) t1 id;have g3:=hf5.cell (a:=⟨W2.heap.size,0,none⟩) e0 id;have g4:=hf5.cell (a:=⟨W2.heap.size,1,none⟩) e1 id;have g5:=hf5.cell (a:=⟨W2.heap.size,2,none⟩) e2 id;have g6:=hf5.cell (a:=⟨W2.heap.size,3,none⟩) e3 id;have g7:=(h.frame hF5).turn.crights)
  |(go_at_call 66;refine (hch _ (h.frame hF5)).mono ?_;rintro e W6 hO;obtain ⟨rfl,hK6⟩:=yd hO hp;have hK7:=hK6.of (V:=V) (hF5.mono (fun _=>False.elim)) rfl (fun k hk=>.inl hk);obtain ⟨k1,k2,k3,k4,k5,k6,k7⟩:=b80 hK6.frOf (h.frame hF5) ((hf5.same (w:=W3.drew) hbs3 id)) (hf5.same (w:=W3.drew) hbe id) (fun e=>by have:=h.ker.fpLt e;have:=hf1.size;omega) (fun e=>by have:=h.ker.fpLt e;have:=hF2.size;omega)))
 all_goals clear hK6 hO g1 g2 g3 g4 g5 g6 g7 k1 k2 k3 k4 k5 k6 k7 hf5 cr3 t0 t1 e0 e1 e2 e3
 all_goals go_wp2
 all_goals go_ret2
 all_goals exact ⟨rfl,hK7⟩
theorem bs6 (V:ah)(kb ub:Nat)(c:Cl)(av tv bv:Value)(th root:Int)(w:World)(h:de w kb ub V c av tv bv th root):
 Calls Tryz.prog 36 #[.pointer (some ⟨ub,0,none⟩)] w (gg w kb V (ia V.ker root c)):=by
 cases hfi:az V.ker root c.at_ with
 | none=>
  have hans:ia V.ker root c=none:=by simp [ia,hfi]
  rw [hans];have cat':=h.turn.cat;go_enter Tryz.func36,Tryz.ntmps36
  go_wp2_with fail
  refine h.find.mono ?_;rintro e W1 ⟨rfl,hf1⟩;rw [hfi];unfold bd gup;go_wp2;exact ⟨rfl,rfl,hf1⟩
 | some s=>
  cases hk:V.ker.held s with
  | none=>exact a98 V kb ub c av tv bv th root s w h hfi hk
  | some k=>
   cases he:k.isE with
   | false=>exact bk4 V kb ub c av tv bv th root s k w h hfi hk he
   | true=>
    cases k with
    | endpoint b n q g=>
     by_cases hg:g=0
     ·by_cases hr:0<=c.rights/\c.rights<=7
      ·by_cases hb:1<=c.badge/\c.badge<=65535
       ·cases hp:cj V.ker root c.to (fj (.endpoint b n q c.badge) c.rights) s with
        | none=>exact a99 V kb ub c av tv bv th root s b n q g w h hfi hk hg hr hb hp
        | some p=>exact bl_ V kb ub c av tv bv th root s b n q g p.1 p.2 w h hfi hk hg hr hb hp
       ·exact bd7 V kb ub c av tv bv th root s b n q g w h hfi hk hg hr hb
      ·exact a37 V kb ub c av tv bv th root s b n q g w h hfi hk hg hr
     ·exact a2_ V kb ub c av tv bv th root s b n q g w h hfi hk hg
    | _=>cases he
end Go.Proofs.YtdpjgflemddekaaGreatDoor

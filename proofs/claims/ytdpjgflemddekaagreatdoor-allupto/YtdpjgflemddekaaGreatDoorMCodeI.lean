/- The code: turn.copy. -/
import Derived.Test.YtdpjgflemddekaaGreatDoorMCodeG
import Derived.Deep.RegionWith
set_option maxRecDepth 100000
set_option maxHeartbeats 1000000
namespace Go.Proofs.YtdpjgflemddekaaGreatDoor
open Go.RowKit
def callOut (w:World)(kb:Nat)(V:KerV)(r:Option (Int×Ker))(e:Ending)(w':World):Prop:=
 match r with
 | none=>e=gup 2/\Fr w w' (fun _=>False)
 | some (x,K)=>e=.returned (.tuple #[.int .i64 0,.int .i64 x])/\KOut w kb V K w'
theorem childOut_none {w w':World}{kb:Nat}{V:KerV}{r:Option (Int×Ker)}{e:Ending}(h:childOut w kb V r e w')(hr:r=none):e=gup 2/\Fr w w' (fun _=>False):=by subst hr;exact h
theorem childOut_some {w w':World}{kb:Nat}{V:KerV}{r:Option (Int×Ker)}{e:Ending}{x:Int}{K:Ker}(h:childOut w kb V r e w')(hr:r=some (x,K)):e=.returned (.int .i64 x)/\KOut w kb V K w':=by subst hr;exact h
theorem panicOut {G:Prop}(h:G)(w:World)(_:wpAny Tryz.prog .any #[] (fun _ _ _=>True) 0 #[] {tmps:=#[],defers:=[]} w):G:=h
structure CallAt (w:World)(kb ub:Nat)(V:KerV)(c:Cl)(av tv bv:Value)(th root:Int):Prop where
 ker:KerAt w kb V
 turn:TurnAt w ub kb c av tv th root bv
 at_:IntsAt w av c.at_
 ti:IntsAt w tv c.to
 al:c.at_.length<=9000000000000000000
 tl:c.to.length<=9000000000000000000
 ac:∀A n cap,av=.slice A n cap->n<=cap
 tc:∀A n cap,tv=.slice A n cap->n<=cap
 ub:¬V.fp kb ub
 kids:∀p x,ak p V.M=some x->x.kids.length<1000000
theorem CallAt.frame {w w':World}{kb ub:Nat}{V:KerV}{c:Cl}{av tv bv:Value}{th root:Int}(h:CallAt w kb ub V c av tv bv th root)(hf:Fr w w' (fun _=>False)):CallAt w' kb ub V c av tv bv th root:=
 ⟨h.ker.frame hf (fun _ _=>id),h.turn.frame hf id,h.at_.fr hf (fun _ _=>id),h.ti.fr hf (fun _ _=>id),h.al,h.tl,h.ac,h.tc,h.ub,h.kids⟩
theorem CallAt.find {w:World}{kb ub:Nat}{V:KerV}{c:Cl}{av tv bv:Value}{th root:Int}(h:CallAt w kb ub V c av tv bv th root):
 Calls Tryz.prog 59 #[.pointer (some ⟨ub,0,none⟩),av] w fun e w'=>e=au (ao V.ker root c.at_)/\Fr w w' (fun _=>False):=
 kfind_any V kb ub c av tv bv av th root c.at_ w h.ker h.turn h.at_ h.al h.ac
theorem CallAt.findTo {w:World}{kb ub:Nat}{V:KerV}{c:Cl}{av tv bv:Value}{th root:Int}(h:CallAt w kb ub V c av tv bv th root):
 Calls Tryz.prog 59 #[.pointer (some ⟨ub,0,none⟩),tv] w fun e w'=>e=au (ao V.ker root c.to)/\Fr w w' (fun _=>False):=
 kfind_any V kb ub c av tv bv tv th root c.to w h.ker h.turn h.ti h.tl h.tc
theorem CallAt.child {w:World}{kb ub:Nat}{V:KerV}{c:Cl}{av tv bv:Value}{th root:Int}(h:CallAt w kb ub V c av tv bv th root)(k:KCap)(p:Slot):
 Calls Tryz.prog 66 #[.pointer (some ⟨ub,0,none⟩),k.val,.agg #[.int .i64 p.node,.int .i64 p.index]] w (childOut w kb V (bq V.ker root c.to k p)):=
 layChild_any V kb ub c av tv bv th root k p w h.ker h.turn h.ti h.tl h.tc h.ub (h.kids p)
theorem copy_empty (V:KerV)(kb ub:Nat)(c:Cl)(av tv bv:Value)(th root:Int)(s:Slot)(w:World)(h:CallAt w kb ub V c av tv bv th root)
 (hfi:ao V.ker root c.at_=some s) (hk:V.ker.held s=none) :
 Calls Tryz.prog 35 #[.pointer (some ⟨ub,0,none⟩)] w (callOut w kb V (copyK V.ker root c)):=by
 have hans:copyK V.ker root c=some (4,V.ker):=by simp [copyK,hfi,hk]
 rw [hans];clear hans;have hult:=h.turn.lt;have cat':=h.turn.cat;go_enter Tryz.func35,Tryz.ntmps35
 go_wp2_with fail
 refine h.find.mono ?_;rintro e W1 ⟨rfl,hf1⟩;rw [hfi];unfold au slotV;clear cat';go_wp2_with fail
 generalize hW2:W1.alloc _=W2;have hf2:Fr W1 W2 (fun _=>False):=by rw [<- hW2];exact (Fr.refl _ _).alloc _
 have hbs:W2.heap[W1.heap.size]?=some (.cells #[.int .i64 s.node,.int .i64 s.index] 71 (0,0)):=by rw [<- hW2];exact heap_alloc_new _ _
 clear hW2;have hF2:=hf1.step hf2 (fun _=>False.elim);have h2:=h.frame hF2;have c1:=h2.turn.ck;have c2:=h2.ker.ch;have s0:=aa (o:=0) hbs rfl;have s1:=aa (o:=1) hbs rfl;have hrun:=ar (h2.ker.frame ((Fr.refl W2 (fun _=>False)).drew) (fun _ _=>id)) s true;simp only [if_true,hk,capV,Option.isSome] at hrun;go_region_held3 (fun w'=>w'.cell? ⟨ub,0,none⟩=some (.pointer (some ⟨kb,0,none⟩))/\w'.cell? ⟨kb,1024,none⟩=some (.map (some V.hb))/\w'.cell? ⟨W1.heap.size,0,none⟩=some (.int .i64 s.node)/\w'.cell? ⟨W1.heap.size,1,none⟩=some (.int .i64 s.index)) (go_keep) (fail)
 clear hrun;go_wp2;go_ret2;exact ⟨rfl,KOut.same h.ker hF2.drew⟩
theorem copy_untyped (V:KerV)(kb ub:Nat)(c:Cl)(av tv bv:Value)(th root:Int)(s:Slot)(b n m:Int)(w:World)(h:CallAt w kb ub V c av tv bv th root)
 (hfi:ao V.ker root c.at_=some s) (hk:V.ker.held s=some (.untyped b n m)) :
 Calls Tryz.prog 35 #[.pointer (some ⟨ub,0,none⟩)] w (callOut w kb V (copyK V.ker root c)):=by
 have hans:copyK V.ker root c=some (3,V.ker):=by simp [copyK,hfi,hk,KCap.isU]
 rw [hans];clear hans;have hult:=h.turn.lt;have cat':=h.turn.cat;go_enter Tryz.func35,Tryz.ntmps35
 go_wp2_with fail
 refine h.find.mono ?_;rintro e W1 ⟨rfl,hf1⟩;rw [hfi];unfold au slotV;clear cat';go_wp2_with fail
 generalize hW2:W1.alloc _=W2;have hf2:Fr W1 W2 (fun _=>False):=by rw [<- hW2];exact (Fr.refl _ _).alloc _
 have hbs:W2.heap[W1.heap.size]?=some (.cells #[.int .i64 s.node,.int .i64 s.index] 71 (0,0)):=by rw [<- hW2];exact heap_alloc_new _ _
 clear hW2;have hF2:=hf1.step hf2 (fun _=>False.elim);have h2:=h.frame hF2;have c1:=h2.turn.ck;have c2:=h2.ker.ch;have s0:=aa (o:=0) hbs rfl;have s1:=aa (o:=1) hbs rfl;have hrun:=ar (h2.ker.frame ((Fr.refl W2 (fun _=>False)).drew) (fun _ _=>id)) s true;simp only [if_true,hk,capV,Option.isSome] at hrun;go_region_held3 (fun w'=>w'.cell? ⟨ub,0,none⟩=some (.pointer (some ⟨kb,0,none⟩))/\w'.cell? ⟨kb,1024,none⟩=some (.map (some V.hb))/\w'.cell? ⟨W1.heap.size,0,none⟩=some (.int .i64 s.node)/\w'.cell? ⟨W1.heap.size,1,none⟩=some (.int .i64 s.index)) (go_keep) (fail)
 clear hrun;simp only [KCap.val];have hta:=ta_untyped_untyped;go_wp2;go_ret2;exact ⟨rfl,KOut.same h.ker (hF2.alloc _).drew⟩
theorem copy_rights (V:KerV)(kb ub:Nat)(c:Cl)(av tv bv:Value)(th root:Int)(s:Slot)(k:KCap)(w:World)(h:CallAt w kb ub V c av tv bv th root)
 (hfi:ao V.ker root c.at_=some s) (hk:V.ker.held s=some k) (hun:k.isU=false) (hr:¬(0<=c.rights/\c.rights<=7)) (hta:∀W,(Instr.typeAssert k.val 79 76 true).run Tryz.prog W=.ok (.tuple #[.agg #[.int .i64 0,.int .i64 0,.int .i64 0],.bool false]) W) :
 Calls Tryz.prog 35 #[.pointer (some ⟨ub,0,none⟩)] w (callOut w kb V (copyK V.ker root c)):=by
 have hans:copyK V.ker root c=some (7,V.ker):=by simp only [copyK,hfi,hk,hun,if_neg hr];rfl
 rw [hans];clear hans;have hult:=h.turn.lt;have cat':=h.turn.cat;go_enter Tryz.func35,Tryz.ntmps35
 go_wp2_with fail
 refine h.find.mono ?_;rintro e W1 ⟨rfl,hf1⟩;rw [hfi];unfold au slotV;clear cat';go_wp2_with fail
 generalize hW2:W1.alloc _=W2;have hf2:Fr W1 W2 (fun _=>False):=by rw [<- hW2];exact (Fr.refl _ _).alloc _
 have hbs:W2.heap[W1.heap.size]?=some (.cells #[.int .i64 s.node,.int .i64 s.index] 71 (0,0)):=by rw [<- hW2];exact heap_alloc_new _ _
 clear hW2;have hF2:=hf1.step hf2 (fun _=>False.elim);have h2:=h.frame hF2;have c1:=h2.turn.ck;have c2:=h2.ker.ch;have s0:=aa (o:=0) hbs rfl;have s1:=aa (o:=1) hbs rfl;have hrun:=ar (h2.ker.frame ((Fr.refl W2 (fun _=>False)).drew) (fun _ _=>id)) s true;simp only [if_true,hk,capV,Option.isSome] at hrun;go_region_held3 (fun w'=>w'.cell? ⟨ub,0,none⟩=some (.pointer (some ⟨kb,0,none⟩))/\w'.cell? ⟨kb,1024,none⟩=some (.map (some V.hb))/\w'.cell? ⟨W1.heap.size,0,none⟩=some (.int .i64 s.node)/\w'.cell? ⟨W1.heap.size,1,none⟩=some (.int .i64 s.index)) (go_keep) (fail)
 clear hrun;have cr:=h2.turn.crights;have hrt:decide (0<=c.rights/\c.rights<=7)=false:=by simpa using hr
 have hult2:=h2.turn.lt;go_wp2_with (go_at_call 65;refine (areRights_any c.rights _).mono ?_;rintro e w' ⟨rfl,rfl⟩;rw [hrt])
 go_ret2;exact ⟨rfl,KOut.same h.ker (hF2.alloc _).drew⟩
theorem copy_panic (V:KerV)(kb ub:Nat)(c:Cl)(av tv bv:Value)(th root:Int)(s:Slot)(k:KCap)(w:World)(h:CallAt w kb ub V c av tv bv th root)
 (hfi:ao V.ker root c.at_=some s) (hk:V.ker.held s=some k) (hun:k.isU=false) (hr:0<=c.rights/\c.rights<=7) (hp:bq V.ker root c.to (lessC k c.rights) s=none) (hta:∀W,(Instr.typeAssert k.val 79 76 true).run Tryz.prog W=.ok (.tuple #[.agg #[.int .i64 0,.int .i64 0,.int .i64 0],.bool false]) W) :
 Calls Tryz.prog 35 #[.pointer (some ⟨ub,0,none⟩)] w (callOut w kb V (copyK V.ker root c)):=by
 have hans:copyK V.ker root c=none:=by simp only [copyK,hfi,hk,hun,if_pos hr];exact hp
 rw [hans];clear hans;have hult:=h.turn.lt;have cat':=h.turn.cat;go_enter Tryz.func35,Tryz.ntmps35
 go_wp2_with fail
 refine h.find.mono ?_;rintro e W1 ⟨rfl,hf1⟩;rw [hfi];unfold au slotV;clear cat';go_wp2_with fail
 generalize hW2:W1.alloc _=W2;have hf2:Fr W1 W2 (fun _=>False):=by rw [<- hW2];exact (Fr.refl _ _).alloc _
 have hbs:W2.heap[W1.heap.size]?=some (.cells #[.int .i64 s.node,.int .i64 s.index] 71 (0,0)):=by rw [<- hW2];exact heap_alloc_new _ _
 clear hW2;have hF2:=hf1.step hf2 (fun _=>False.elim);have h2:=h.frame hF2;have c1:=h2.turn.ck;have c2:=h2.ker.ch;have s0:=aa (o:=0) hbs rfl;have s1:=aa (o:=1) hbs rfl;have hrun:=ar (h2.ker.frame ((Fr.refl W2 (fun _=>False)).drew) (fun _ _=>id)) s true;simp only [if_true,hk,capV,Option.isSome] at hrun;go_region_held3 (fun w'=>w'.cell? ⟨ub,0,none⟩=some (.pointer (some ⟨kb,0,none⟩))/\w'.cell? ⟨kb,1024,none⟩=some (.map (some V.hb))/\w'.cell? ⟨W1.heap.size,0,none⟩=some (.int .i64 s.node)/\w'.cell? ⟨W1.heap.size,1,none⟩=some (.int .i64 s.index)) (go_keep) (fail)
 clear hrun;have cr:=h2.turn.crights;have hrt:decide (0<=c.rights/\c.rights<=7)=true:=by simpa using hr
 have hult2:=h2.turn.lt;go_wp2_with (go_at_call 65;refine (areRights_any c.rights _).mono ?_;rintro e w' ⟨rfl,rfl⟩;rw [hrt])
 generalize hW3:World.drew _=W3;have hf3:Fr W2 W3 (fun _=>False):=by rw [<- hW3];exact ((Fr.refl _ _).alloc _).drew
 clear hW3;have hF3:=hF2.step hf3 (fun _=>False.elim);have h3:=h.frame hF3;have cr3:=h3.turn.crights;have hbs3:=hf3.same hbs id;have t0:=aa (o:=0) hbs3 rfl;have t1:=aa (o:=1) hbs3 rfl;clear c1 c2 s0 s1 cr h2;go_region_with (first
  |(go_at_call 67;refine (lessened_any k c.rights _).mono ?_;rintro e W5 ⟨rfl,hf5⟩;have hF5:Fr w W5 (fun _=>False):=(hF3.drew).step hf5 (fun _=>False.elim);have g1:=hf5.cell (a:=⟨W1.heap.size,0,none⟩) t0 id;have g2:=hf5.cell (a:=⟨W1.heap.size,1,none⟩) t1 id)
  |(go_at_call 66;refine ((h.frame hF5).child (lessC k c.rights) s).mono ?_;rintro e W6 hO;obtain ⟨rfl,hf6⟩:=childOut_none hO hp;unfold gup;refine panicOut (by exact ⟨rfl,rfl,hF5.step hf6 (fun _=>False.elim)⟩) W6 ?_))
 all_goals trivial
theorem copy_some (V:KerV)(kb ub:Nat)(c:Cl)(av tv bv:Value)(th root:Int)(s:Slot)(k:KCap)(x:Int)(K:Ker)(w:World)(h:CallAt w kb ub V c av tv bv th root)
 (hfi:ao V.ker root c.at_=some s) (hk:V.ker.held s=some k) (hun:k.isU=false) (hr:0<=c.rights/\c.rights<=7) (hp:bq V.ker root c.to (lessC k c.rights) s=some (x,K)) (hta:∀W,(Instr.typeAssert k.val 79 76 true).run Tryz.prog W=.ok (.tuple #[.agg #[.int .i64 0,.int .i64 0,.int .i64 0],.bool false]) W) :
 Calls Tryz.prog 35 #[.pointer (some ⟨ub,0,none⟩)] w (callOut w kb V (copyK V.ker root c)):=by
 have hans:copyK V.ker root c=some (x,K):=by simp only [copyK,hfi,hk,hun,if_pos hr];exact hp
 rw [hans];clear hans;have hult:=h.turn.lt;have cat':=h.turn.cat;go_enter Tryz.func35,Tryz.ntmps35
 go_wp2_with fail
 refine h.find.mono ?_;rintro e W1 ⟨rfl,hf1⟩;rw [hfi];unfold au slotV;clear cat';go_wp2_with fail
 generalize hW2:W1.alloc _=W2;have hf2:Fr W1 W2 (fun _=>False):=by rw [<- hW2];exact (Fr.refl _ _).alloc _
 have hbs:W2.heap[W1.heap.size]?=some (.cells #[.int .i64 s.node,.int .i64 s.index] 71 (0,0)):=by rw [<- hW2];exact heap_alloc_new _ _
 clear hW2;have hF2:=hf1.step hf2 (fun _=>False.elim);have h2:=h.frame hF2;have c1:=h2.turn.ck;have c2:=h2.ker.ch;have s0:=aa (o:=0) hbs rfl;have s1:=aa (o:=1) hbs rfl;have hrun:=ar (h2.ker.frame ((Fr.refl W2 (fun _=>False)).drew) (fun _ _=>id)) s true;simp only [if_true,hk,capV,Option.isSome] at hrun;go_region_held3 (fun w'=>w'.cell? ⟨ub,0,none⟩=some (.pointer (some ⟨kb,0,none⟩))/\w'.cell? ⟨kb,1024,none⟩=some (.map (some V.hb))/\w'.cell? ⟨W1.heap.size,0,none⟩=some (.int .i64 s.node)/\w'.cell? ⟨W1.heap.size,1,none⟩=some (.int .i64 s.index)) (go_keep) (fail)
 clear hrun;have cr:=h2.turn.crights;have hrt:decide (0<=c.rights/\c.rights<=7)=true:=by simpa using hr
 have hult2:=h2.turn.lt;go_wp2_with (go_at_call 65;refine (areRights_any c.rights _).mono ?_;rintro e w' ⟨rfl,rfl⟩;rw [hrt])
 generalize hW3:World.drew _=W3;have hf3:Fr W2 W3 (fun _=>False):=by rw [<- hW3];exact ((Fr.refl _ _).alloc _).drew
 clear hW3;have hF3:=hF2.step hf3 (fun _=>False.elim);have h3:=h.frame hF3;have cr3:=h3.turn.crights;have hbs3:=hf3.same hbs id;have t0:=aa (o:=0) hbs3 rfl;have t1:=aa (o:=1) hbs3 rfl;clear c1 c2 s0 s1 cr h2;go_region_with (first
  |(go_at_call 67;refine (lessened_any k c.rights _).mono ?_;rintro e W5 ⟨rfl,hf5⟩;have hF5:Fr w W5 (fun _=>False):=(hF3.drew).step hf5 (fun _=>False.elim);have g1:=hf5.cell (a:=⟨W1.heap.size,0,none⟩) t0 id;have g2:=hf5.cell (a:=⟨W1.heap.size,1,none⟩) t1 id)
  |(go_at_call 66;refine ((h.frame hF5).child (lessC k c.rights) s).mono ?_;rintro e W6 hO;obtain ⟨rfl,hK6⟩:=childOut_some hO hp;have hK7:=hK6.of (V:=V) (hF5.mono (fun _=>False.elim)) rfl (fun k hk=>.inl hk)))
 all_goals clear hK6 hO g1 g2 hf5 cr3 t0 t1
 all_goals go_wp2
 all_goals go_ret2
 all_goals exact ⟨rfl,hK7⟩
theorem ta_untyped {k:KCap}(h:k.isU=false)(W:World):(Instr.typeAssert k.val 79 76 true).run Tryz.prog W=.ok (.tuple #[.agg #[.int .i64 0,.int .i64 0,.int .i64 0],.bool false]) W:=by
 cases k with
 | untyped b n m=>cases h
 | node b n r=>exact ta_node_untyped _ W
 | endpoint b n r g=>exact ta_endpoint_untyped _ W
 | task b n r=>exact ta_task_untyped _ W
 | frame b n r=>exact ta_frame_untyped _ W
theorem copy_any (V:KerV)(kb ub:Nat)(c:Cl)(av tv bv:Value)(th root:Int)(w:World)(h:CallAt w kb ub V c av tv bv th root):
 Calls Tryz.prog 35 #[.pointer (some ⟨ub,0,none⟩)] w (callOut w kb V (copyK V.ker root c)):=by
 cases hfi:ao V.ker root c.at_ with
 | none=>
  have hans:copyK V.ker root c=none:=by simp [copyK,hfi]
  rw [hans];have cat':=h.turn.cat;go_enter Tryz.func35,Tryz.ntmps35
  go_wp2_with fail
  refine h.find.mono ?_;rintro e W1 ⟨rfl,hf1⟩;rw [hfi];unfold au gup;go_wp2;exact ⟨rfl,rfl,hf1⟩
 | some s=>
  cases hk:V.ker.held s with
  | none=>exact copy_empty V kb ub c av tv bv th root s w h hfi hk
  | some k=>
   cases hun:k.isU with
   | true=>
    cases k with
    | untyped b n m=>exact copy_untyped V kb ub c av tv bv th root s b n m w h hfi hk
    | _=>cases hun
   | false=>
    by_cases hr:0<=c.rights/\c.rights<=7
    ·cases hp:bq V.ker root c.to (lessC k c.rights) s with
     | none=>exact copy_panic V kb ub c av tv bv th root s k w h hfi hk hun hr hp (ta_untyped hun)
     | some p=>exact copy_some V kb ub c av tv bv th root s k p.1 p.2 w h hfi hk hun hr hp (ta_untyped hun)
    ·exact copy_rights V kb ub c av tv bv th root s k w h hfi hk hun hr (ta_untyped hun)
end Go.Proofs.YtdpjgflemddekaaGreatDoor

/- The code: Do of the kinds that make, copy, mint, move, delete and revoke, no interrupt, and where it is refused. -/
import Derived.Test.YtdpjgflemddekaaGreatDoorMCodeV
import Derived.Test.YtdpjgflemddekaaGreatDoorMCodeJ
import Derived.Test.YtdpjgflemddekaaGreatDoorMCodeN
import Derived.Test.YtdpjgflemddekaaGreatDoorMWorkC
import Derived.Deep.DeepCutAuto
namespace Go.Proofs.YtdpjgflemddekaaGreatDoor
open Go.RowKit Go.Shelf
theorem meth_at1 (W : World) : (Instr.index 88 methV (.int .i64 1)).run Tryz.prog W = .ok (.func (.func 34) #[] #[]) W := by kernel_rfl
theorem meth_at2 (W : World) : (Instr.index 88 methV (.int .i64 2)).run Tryz.prog W = .ok (.func (.func 35) #[] #[]) W := by kernel_rfl
theorem meth_at3 (W : World) : (Instr.index 88 methV (.int .i64 3)).run Tryz.prog W = .ok (.func (.func 36) #[] #[]) W := by kernel_rfl
theorem meth_at4 (W : World) : (Instr.index 88 methV (.int .i64 4)).run Tryz.prog W = .ok (.func (.func 37) #[] #[]) W := by kernel_rfl
theorem meth_at5 (W : World) : (Instr.index 88 methV (.int .i64 5)).run Tryz.prog W = .ok (.func (.func 38) #[] #[]) W := by kernel_rfl
theorem meth_at6 (W : World) : (Instr.index 88 methV (.int .i64 6)).run Tryz.prog W = .ok (.func (.func 39) #[] #[]) W := by kernel_rfl
theorem cf1 (args : Array Value) (W : World) : (callFunc 34 args).run Tryz.prog W = .ok (.enter 34 args) W := by kernel_rfl
theorem cf2 (args : Array Value) (W : World) : (callFunc 35 args).run Tryz.prog W = .ok (.enter 35 args) W := by kernel_rfl
theorem cf3 (args : Array Value) (W : World) : (callFunc 36 args).run Tryz.prog W = .ok (.enter 36 args) W := by kernel_rfl
theorem cf4 (args : Array Value) (W : World) : (callFunc 37 args).run Tryz.prog W = .ok (.enter 37 args) W := by kernel_rfl
theorem cf5 (args : Array Value) (W : World) : (callFunc 38 args).run Tryz.prog W = .ok (.enter 38 args) W := by kernel_rfl
theorem cf6 (args : Array Value) (W : World) : (callFunc 39 args).run Tryz.prog W = .ok (.enter 39 args) W := by kernel_rfl
structure CallI (w : World) (kb : Nat) (S : KS) (V : KerV) (c : Cl) (av tv : Value) : Prop where
  kd : KDG w kb S V
  good : KGood S
  at_ : IntsAt w av c.at_
  ti : IntsAt w tv c.to
  al : c.at_.length <= 9000000000000000000
  tl : c.to.length <= 9000000000000000000
  ac : ∀ A n cap, av = .slice A n cap -> n <= cap
  tc : ∀ A n cap, tv = .slice A n cap -> n <= cap
  da : 0 < c.at_.length -> ∀ k, av.ownBlock = some k -> ¬ V.fd kb k
  dt : 0 < c.to.length -> ∀ k, tv.ownBlock = some k -> ¬ V.fd kb k
theorem CallI.at {w W : World} {kb ub : Nat} {S : KS} {V : KerV} {c : Cl} {av tv : Value} {A : Option Addr} {cap : Nat} {th root : Int} (h : CallI w kb S V c av tv) (hF : Fr w W (fun _ => False)) (hT : TurnAt W ub kb c av tv th root (.slice A 0 cap)) (hu : w.heap.size <= ub) : CallG W kb ub S V c av tv A cap th root :=
  ⟨h.kd.frame hF (fun _ _ => id) (fun _ => False.elim), h.good, hT, h.at_.fr hF (fun _ _ => id), h.ti.fr hF (fun _ _ => id), h.al, h.tl, h.ac, h.tc, fun e => by have := h.kd.lt e; omega, h.da, h.dt⟩
theorem revokeK_zero : ∀ (k : Nat) {R : RS} {S : KS} (_ : Ag R S) {s : Slot} (_ : 0 <= s.index), (revokeK k S s []).1 = 0
  | 0, _, _, _, _, _ => rfl
  | k + 1, R, S, h, s, hs => by
    cases hk : hasKids S.K s with
    | false => rw [revokeK_stop _ hk]
    | true =>
      obtain ⟨_, _, _, _, _, R', g4, _, g6⟩ := h.revStep hs hk
      rw [g6]
      exact revokeK_zero k g4 hs
theorem got_of {W w' : World} {kb : Nat} {V : KerV} {r : Int × KS} {e : Ending} (h : GotG W kb V r e w') :
    ∃ x y K, (e = .returned (.tuple #[.int .i64 x, .int .i64 y]) \/ (e = gup y /\ x = 0)) /\ KGOut W kb V K w' /\ (x = 0 /\ (y, K) = r) := by
  obtain ⟨h1, h2⟩ := h
  rcases h1 with h1 | h1
  . exact ⟨0, r.1, r.2, .inl h1, h2, rfl, rfl⟩
  . exact ⟨0, r.1, r.2, .inr ⟨h1, rfl⟩, h2, rfl, rfl⟩
theorem small_of {W w' : World} {kb : Nat} {S : KS} {V : KerV} {r : Option (Int × Ker)} {e : Ending} (h : KDG W kb S V) (hc : callOut W kb V r e w') : GotG W kb V ((orTwo S.K r).1, { S with K := (orTwo S.K r).2 }) e w' := by
  cases r with
  | none => exact ⟨.inr hc.1, h.stay hc.2⟩
  | some p => obtain ⟨x, K⟩ := p; exact ⟨.inl hc.1, h.kout hc.2⟩
theorem kdo_any (S : KS) (V : KerV) (kb : Nat) (c : Cl) (av tv : Value) (ba : Option Addr) (bc : Nat) (th : Int) (w : World) (hc : CallI w kb S V c av tv) (hk : c.kind <= 6 \/ 11 < c.kind) :
    Calls Tryz.prog 11 (doArgs kb th c av tv (.slice ba 0 bc)) w (fun e w' => e = .returned (.tuple #[.int .i64 0, .int .i64 (doKB S th c []).1]) /\ KGOut w kb V (doKB S th c []).2 w') := by
  have h := hc.kd
  have hker := h.kd.ker
  have hV : V.ker = S.K := h.kd.eq
  have hstay : ∀ w', Fr w w' (fun _ => False) -> KGOut w kb V S w' := fun w' hf => h.stay hf
  cases ht : V.ker.thr th with
  | none =>
    have e : doKB S th c [] = (1, S) := by unfold doKB; rw [<- hV, ht]
    rw [e]
    exact (do_none V kb c av tv _ th w hker ht).mono fun e w' ⟨h1, h2⟩ => ⟨h1, hstay _ h2⟩
  | some t =>
    by_cases hs : t.state = 1
    . by_cases hlow : c.kind < 1
      . have e : doKB S th c [] = (7, S) := by unfold doKB; rw [<- hV, ht]; simp [hs, hlow]
        rw [e]
        exact (do_low V kb c av tv _ th w hker ht hs hlow).mono fun e w' ⟨h1, h2⟩ => ⟨h1, hstay _ h2⟩
      . by_cases hhi : 12 <= c.kind
        . have e : doKB S th c [] = (7, S) := by unfold doKB; rw [<- hV, ht]; simp [hs, show 11 < c.kind by omega]
          rw [e]
          exact (do_high V kb c av tv _ th w hker ht hs hhi).mono fun e w' ⟨h1, h2⟩ => ⟨h1, hstay _ h2⟩
        . have hk6 : c.kind = 1 \/ c.kind = 2 \/ c.kind = 3 \/ c.kind = 4 \/ c.kind = 5 \/ c.kind = 6 := by omega
          have hthr : S.K.thr th = some t := by rw [<- hV]; exact ht
          obtain ⟨hgw, hDw, hw⟩ := hc.good.worked
          have fin : ∀ r : Int × KS, doKB S th c [] = r -> Calls Tryz.prog 11 (doArgs kb th c av tv (.slice ba 0 bc)) w (fun e w' => ∃ x y K, e = .returned (.tuple #[.int .i64 x, .int .i64 y]) /\ KGOut w kb V K w' /\ (x = 0 /\ (y, K) = r)) ->
              Calls Tryz.prog 11 (doArgs kb th c av tv (.slice ba 0 bc)) w (fun e w' => e = .returned (.tuple #[.int .i64 0, .int .i64 (doKB S th c []).1]) /\ KGOut w kb V (doKB S th c []).2 w') := by
            intro r e hr
            rw [e]
            refine hr.mono ?_
            rintro e w' ⟨x, y, K, h1, h2, rfl, rfl⟩
            exact ⟨h1, h2⟩
          have hsm : c.kind = 2 \/ c.kind = 3 \/ c.kind = 4 -> doKB S th c [] = ((orTwo S.K (smallK S.K t.root c)).1, { S with K := (orTwo S.K (smallK S.K t.root c)).2 }) := fun hkk => by
            unfold doKB
            rw [hthr]
            simp only
            rw [if_neg (by simpa using hs), if_neg (by omega), if_neg (by omega)]
          rcases hk6 with e | e | e | e | e | e
          . refine fin (orTwoS (worked S) (retypeKB (worked S) t.root c [])) ?_ (do_any S V kb c av tv ba 0 bc th w h ht hs (by omega) (by omega) 34 (by rw [e]; exact meth_at1) cf1 _ ?_)
            . unfold doKB
              rw [hthr]
              simp only
              rw [if_neg (by simpa using hs), if_neg (by omega), if_pos (by omega), hw]
              simp [e]
            . intro W ub hW hU hu
              exact (tretype_any kb ub S V c av tv th t.root ba bc W (hc.at hW hU hu)).mono fun e w' hx => got_of hx
          . refine fin _ (hsm (by omega)) (do_any S V kb c av tv ba 0 bc th w h ht hs (by omega) (by omega) 35 (by rw [e]; exact meth_at2) cf2 _ ?_)
            intro W ub hW hU hu
            have hcc := hc.at hW hU hu
            have e2 : smallK S.K t.root c = copyK V.ker t.root c := by unfold smallK; rw [if_pos e, hV]
            rw [e2]
            exact (copy_any V kb ub c av tv _ th t.root W hcc.call).mono fun e w' hx => got_of (small_of hcc.kd hx)
          . refine fin _ (hsm (by omega)) (do_any S V kb c av tv ba 0 bc th w h ht hs (by omega) (by omega) 36 (by rw [e]; exact meth_at3) cf3 _ ?_)
            intro W ub hW hU hu
            have hcc := hc.at hW hU hu
            have e2 : smallK S.K t.root c = mintK V.ker t.root c := by unfold smallK; rw [if_neg (by omega), if_pos e, hV]
            rw [e2]
            exact (mint_any V kb ub c av tv _ th t.root W hcc.call).mono fun e w' hx => got_of (small_of hcc.kd hx)
          . refine fin _ (hsm (by omega)) (do_any S V kb c av tv ba 0 bc th w h ht hs (by omega) (by omega) 37 (by rw [e]; exact meth_at4) cf4 _ ?_)
            intro W ub hW hU hu
            have hcc := hc.at hW hU hu
            have e2 : smallK S.K t.root c = moveK V.ker t.root c := by unfold smallK; rw [if_neg (by omega), if_neg (by omega), hV]
            rw [e2]
            exact (move_any V kb ub c av tv _ th t.root W hcc.call (by rw [hV]; exact hc.good.tree)).mono fun e w' hx => got_of (small_of hcc.kd hx)
          . refine fin (takenK (worked S) t.root c (fun S s => worked (takeK S s))) ?_ (do_any S V kb c av tv ba 0 bc th w h ht hs (by omega) (by omega) 38 (by rw [e]; exact meth_at5) cf5 _ ?_)
            . unfold doKB takenK
              rw [hthr]
              simp only
              rw [if_neg (by simpa using hs), if_neg (by omega), if_pos (by omega), hw]
              simp only [Bool.true_eq_false, if_false]
              rw [if_neg (by omega)]
              cases hfi : findK (worked S).K t.root c.at_ with
              | none => rfl
              | some s =>
                simp only
                cases hh : (worked S).K.held s with
                | none => rfl
                | some k =>
                  simp only [Option.isNone_some, Bool.false_eq_true, if_false]
                  rw [if_pos e, takeBK_nil (hgw.take hh)]
            . intro W ub hW hU hu
              exact (tdelete_any kb ub S V c av tv th t.root ba bc W (hc.at hW hU hu)).mono fun e w' hx => got_of hx
          . refine fin (takenK (worked S) t.root c (fun S s => (revokeK F1 S s []).2.1)) ?_ (do_any S V kb c av tv ba 0 bc th w h ht hs (by omega) (by omega) 39 (by rw [e]; exact meth_at6) cf6 _ ?_)
            . unfold doKB takenK
              rw [hthr]
              simp only
              rw [if_neg (by simpa using hs), if_neg (by omega), if_pos (by omega), hw]
              simp only [Bool.true_eq_false, if_false]
              rw [if_neg (by omega)]
              cases hfi : findK (worked S).K t.root c.at_ with
              | none => rfl
              | some s =>
                simp only
                cases hh : (worked S).K.held s with
                | none => rfl
                | some k =>
                  simp only [Option.isNone_some, Bool.false_eq_true, if_false]
                  rw [if_neg (by omega)]
                  obtain ⟨R, hag⟩ := hgw
                  rw [revokeK_zero F1 hag (hag.core.inN s k hh).1]
            . intro W ub hW hU hu
              exact (trevoke_any kb ub S V c av tv th t.root ba bc W (hc.at hW hU hu)).mono fun e w' hx => got_of hx
    . have e : doKB S th c [] = (1, S) := by unfold doKB; rw [<- hV, ht]; simp [hs]
      rw [e]
      exact (do_still V kb c av tv _ th w hker ht hs).mono fun e w' ⟨h1, h2⟩ => ⟨h1, hstay _ h2⟩
end Go.Proofs.YtdpjgflemddekaaGreatDoor
/- The code: a word of a frame, found, loaded and stored (what the statements' head asks). -/
namespace Go.Proofs.YtdpjgflemddekaaGreatDoor
open Go.RowKit Go.Shelf
attribute [local go_sem] ta_frame_frame
theorem three_set {W : World} {B : Nat} {t : TypeId} {a0 a1 a2 : Value} (v0 v1 v2 : Value) (h : W.heap[B]? = some (.cells #[a0, a1, a2] t (0, 0))) :
    (((W.setCell ⟨B, 0, none⟩ v0).setCell ⟨B, 1, none⟩ v1).setCell ⟨B, 2, none⟩ v2).heap[B]? = some (.cells #[v0, v1, v2] t (0, 0)) := by
  have h1 := setCell_at _ B 0 v0 h
  have h2 := setCell_at _ B 1 v1 h1
  have h3 := setCell_at _ B 2 v2 h2
  exact h3
set_option maxRecDepth 100000 in
set_option maxHeartbeats 2000000 in
theorem wordOf_good (V : KerV) (kb ub : Nat) (c : Cl) (av tv bv : Value) (th root right : Int) (s : Slot) (w : World) (h : CallAt w kb ub V c av tv bv th root) (hfi : findK V.ker root c.at_ = some s) (hh : V.ker.held s = some (.frame 80 3 7)) (hr : right = 1 \/ right = 2) (ho : c.offset = 7) :
    Calls Tryz.prog 77 #[.pointer (some ⟨ub, 0, none⟩), .int .i64 right] w fun e w' => e = .returned (.tuple #[.int .i64 87, .int .i64 0]) /\ Fr w w' (fun _ => False) := by
  have hu := h.turn
  have k0 : w.cell? ⟨ub, 0, none⟩ = some (.pointer (some ⟨kb, 0, none⟩)) := cell_of_blk (o := 0) hu rfl
  have k2 : w.cell? ⟨ub, 2, none⟩ = some av := cell_of_blk (o := 2) hu rfl
  have k10 : w.cell? ⟨ub, 10, none⟩ = some (.int .i64 c.offset) := cell_of_blk (o := 10) hu rfl
  rw [ho] at k10
  have ch := h.ker.ch
  have hfind : ∀ W, Fr w W (fun _ => False) -> Calls Tryz.prog 59 #[.pointer (some ⟨ub, 0, none⟩), av] W fun e w' => e = .returned (.agg #[.int .i64 s.node, .int .i64 s.index]) /\ Fr W w' (fun _ => False) := by
    intro W hW
    have := kfind_any V kb ub c av tv bv av th root c.at_ W (h.ker.frame hW (fun _ _ => id)) (hu.frame hW id) (h.at_.fr hW (fun _ _ => id)) h.al h.ac
    rw [hfi] at this
    exact this
  have hlook : ∀ W, Fr w W (fun _ => False) -> (Instr.lookup 59 (.map (some V.hb)) (.agg #[.int .i64 s.node, .int .i64 s.index]) false).run Tryz.prog W = .ok (.iface 128 (.agg #[.int .i64 80, .int .i64 3, .int .i64 7])) W := by
    intro W hW
    have := look_held (h.ker.frame hW (fun _ _ => id)) s false
    rw [hh] at this
    exact this
  go_enter Tryz.func77, Tryz.ntmps77
  go_upto_region 1 with fail
  clear hh hfi h hu
  go_cut [6, 7] (fun v6 v7 wx => v7 = .bool true /\ ∃ xb, v6 = .pointer (some ⟨xb, 0, none⟩) /\ Fr w wx (fun _ => False) /\ w.heap.size <= xb /\ wx.heap[xb]? = some (.cells #[.int .i64 80, .int .i64 3, .int .i64 7] 128 (0, 0)))
  case first =>
    go_region_held3 (fun w' => w'.cell? ⟨ub, 0, none⟩ = some (.pointer (some ⟨kb, 0, none⟩)) /\ w'.cell? ⟨ub, 2, none⟩ = some av /\ w'.cell? ⟨kb, 1024, none⟩ = some (.map (some V.hb))) (first | go_keep | (simp [go_sem, r0, r2, r3, *]; done))
      (first
      | (go_at_call 59; refine (hfind _ (by first | exact (Fr.refl _ _).drew | exact ((Fr.refl _ _).alloc _).drew)).mono ?_; rintro e W1 ⟨rfl, hf1⟩
         have hF1 : Fr w W1 (fun _ => False) := by first | exact hf1.drewl | exact hf1.drewl.of_alloc
         have r0 := hF1.cell k0 id; have r2 := hF1.cell k2 id; have r3 := hF1.cell ch id
         have hl1 := hlook W1 hF1; have hl2 := hlook _ (Fr.alloc hF1 (.cells #[.int .i64 0, .int .i64 0, .int .i64 0] 128))
         try (have qb := same_of_alloc (o := .cells #[.int .i64 0, .int .i64 0, .int .i64 0] 128) hf1.drewl; have qb0 := cell_of_blk (o := 0) qb rfl; have qb1 := cell_of_blk (o := 1) qb rfl; have qb2 := cell_of_blk (o := 2) qb rfl; have qz : ∀ o, W1.frozen? ⟨w.heap.size, o, none⟩ = false := fun o => frozen_of_blk qb; have qn1 : w.heap.size ≠ ub := Nat.ne_of_gt (World.block_lt_of_cell? _ _ k0); have qn2 : w.heap.size ≠ kb := Nat.ne_of_gt (World.block_lt_of_cell? _ _ ch))))
    all_goals go_wp2
    all_goals go_meet
    all_goals first
      | exact ⟨rfl, W1.heap.size, rfl, Fr.alloc hF1 _, hF1.size, heap_alloc_new _ _⟩
      | exact ⟨rfl, w.heap.size, rfl, ((hF1.setCell (.inr (Nat.le_refl _)) _ _).setCell (.inr (Nat.le_refl _)) _ _).setCell (.inr (Nat.le_refl _)) _ _, Nat.le_refl _, three_set _ _ _ qb⟩
  case rest =>
    obtain ⟨rfl, xb, rfl, hfc, hxb, hbx⟩ := hcut
    have d0 := hfc.cell k0 id
    have d10 := hfc.cell k10 id
    have x0 := cell_of_blk (o := 0) hbx rfl
    have x1 := cell_of_blk (o := 1) hbx rfl
    have x2 := cell_of_blk (o := 2) hbx rfl
    have lu := World.block_lt_of_cell? _ _ k0
    have e1 : (bits BinOp.and IntKind.i64 7 1 == 0) = false := by decide
    have e2 : (bits BinOp.and IntKind.i64 7 2 == 0) = false := by decide
    clear hfind hlook
    rcases hr with rfl | rfl
    all_goals go_upto_region 6 with fail
    all_goals go_region_held3 (fun w' => w'.cell? ⟨ub, 0, none⟩ = some (.pointer (some ⟨kb, 0, none⟩)) /\ w'.cell? ⟨ub, 10, none⟩ = some (.int .i64 7) /\ w'.cell? ⟨xb, 0, none⟩ = some (.int .i64 80) /\ w'.cell? ⟨xb, 1, none⟩ = some (.int .i64 3)) (go_keep)
      (first
      | (go_at_call 56; refine (size_any 80 3 _ (by decide) (by decide)).mono ?_; rintro e W1 ⟨rfl, hf1⟩
         have hF1 : Fr wc W1 (fun _ => False) := hf1.drewl
         have r0 := hF1.cell d0 id; have r2 := hF1.cell d10 id; have r3 := hF1.cell x0 id; have r4 := hF1.cell x1 id; have p3 : pw (Int.toNat 3) = 8 := by decide))
    all_goals go_upto_region 8 with fail
    all_goals go_quiet (fail)
    all_goals go_wp2
    all_goals go_ret2
    all_goals exact ⟨rfl, (hfc.step hF1 (fun _ h => h.elim)).drewN _⟩
end Go.Proofs.YtdpjgflemddekaaGreatDoor
/- The code: a word of a frame, loaded and stored (what the statements' head asks). -/
namespace Go.Proofs.YtdpjgflemddekaaGreatDoor
open Go.RowKit Go.Shelf
attribute [local go_sem] ta_frame_frame
theorem KerAt.putW1 {w : World} {kb : Nat} {V : KerV} {ws : Nat -> Int} (h : KerAt w kb V) {i : Nat} (hi : i < 1024) {v : Int} (e : ws = fun k => if k = i then v else V.ws k) : KerAt (w.setCell ⟨kb, i, none⟩ (.int .u32 v)) kb { V with ws := ws } := by
  obtain ⟨c, hc, hcc⟩ := h.blk
  have hf : Fr w (w.setCell ⟨kb, i, none⟩ (.int .u32 v)) (fun k => k = kb) := Fr.set1 _ _ _ _
  have hsz : ∀ j, j ≠ i -> (c.setIfInBounds i (.int .u32 v))[j]? = c[j]? := fun j hj => Array.getElem?_setIfInBounds_ne (Ne.symm hj)
  refine ⟨⟨_, setCell_at _ _ _ _ hc, ?_⟩, h.held.frame hf (Ne.symm h.kh), h.tree.frame hf ?_, h.nodes.frame hf (Ne.symm h.kn), h.thr.frame hf (Ne.symm h.kr), h.que.frame hf (Ne.symm h.kq), h.ht, h.hn, h.hr, h.hq, h.tn, h.tr, h.tq, h.nr, h.nq, h.rq, h.rows, h.rest.frame hf (fun k hk e => h.rest.noCells hc hk e)⟩
  . refine ⟨by simpa using hcc.size, ?_, ?_, ?_, ?_, ?_, ?_, ?_⟩
    . intro j hj
      by_cases hji : j = i
      . subst hji; rw [e, Array.getElem?_setIfInBounds_self_of_lt (by rw [hcc.size]; omega)]; simp
      . rw [hsz j hji, hcc.w j hj, e]; simp [hji]
    . rw [hsz _ (by omega)]; exact hcc.h
    . rw [hsz _ (by omega)]; exact hcc.t
    . rw [hsz _ (by omega)]; exact hcc.n
    . rw [hsz _ (by omega)]; exact hcc.d
    . rw [hsz _ (by omega)]; exact hcc.r
    . rw [hsz _ (by omega)]; exact hcc.q
  . rintro k (rfl | ⟨s, x, hx, hk⟩) e
    . exact h.kt e.symm
    . exact (h.row_ne hx hk).2.2.2.2.2 e
def putWs (K : Ker) (i : Nat) (v : Int) : Ker := { K with ws := fun k => if k = i then v else K.ws k }
set_option maxRecDepth 100000 in
set_option maxHeartbeats 2000000 in
theorem load_good (V : KerV) (kb ub : Nat) (c : Cl) (av tv bv : Value) (th root : Int) (s : Slot) (w : World) (h : CallAt w kb ub V c av tv bv th root) (hfi : findK V.ker root c.at_ = some s) (hh : V.ker.held s = some (.frame 80 3 7)) (ho : c.offset = 7) (hw : 0 <= V.ws 87 /\ V.ws 87 <= 4294967295) :
    Calls Tryz.prog 42 #[.pointer (some ⟨ub, 0, none⟩)] w fun e w' => e = .returned (.tuple #[.int .i64 (V.ws 87), .int .i64 0]) /\ Fr w w' (fun _ => False) := by
  have hu := h.turn
  have k0 : w.cell? ⟨ub, 0, none⟩ = some (.pointer (some ⟨kb, 0, none⟩)) := cell_of_blk (o := 0) hu rfl
  have kc := h.ker.cw (i := 87) (by decide)
  have hcall := wordOf_good V kb ub c av tv bv th root 1 s w h hfi hh (.inl rfl) ho
  have hwr : IntKind.i64.wrap (V.ws 87) = V.ws 87 := by simp [IntKind.wrap, IntKind.signed, IntKind.bits]; omega
  clear hfi hh h hu
  go_enter Tryz.func42, Tryz.ntmps42
  go_wp2_with ((go_at_call 77; refine hcall.mono ?_; rintro e W1 ⟨rfl, hf1⟩; have r0 := hf1.cell k0 id; have r1 := hf1.cell kc id))
  go_ret2
  exact ⟨rfl, hf1⟩
theorem putW_out {w w1 : World} {kb : Nat} {V : KerV} {v : Int} (h : KerAt w kb V) (hf : Fr w w1 (fun _ => False)) {i : Nat} (hi : i < 1024) : KOut w kb V (putWs V.ker i v) (w1.setCell ⟨kb, i, none⟩ (.int .u32 v)) :=
  ⟨_, (h.frame hf (fun _ _ => id)).putW1 (v := v) hi rfl, rfl, rfl, Fr.setCell (S := V.fp kb) (hf.mono (fun _ h => h.elim)) (.inl (.inl rfl)) _ _, fun _ hk => .inl hk⟩
set_option maxRecDepth 100000 in
set_option maxHeartbeats 2000000 in
theorem isWord_good (n : Int) (w : World) (h0 : 0 <= n) (h1 : n <= 4294967295) :
    Calls Tryz.prog 74 #[.int .i64 n] w fun e w' => e = .returned (.bool true) /\ w' = w := by
  have d0 : decide (0 <= n) = true := by simpa using h0
  have d1 : decide (n <= 4294967295) = true := by simpa using h1
  go_enter Tryz.func74, Tryz.ntmps74
  go_wp2
  go_ret
  exact ⟨rfl, rfl⟩
set_option maxRecDepth 100000 in
set_option maxHeartbeats 2000000 in
theorem store_good (V : KerV) (kb ub : Nat) (c : Cl) (av tv bv : Value) (th root : Int) (s : Slot) (w : World) (h : CallAt w kb ub V c av tv bv th root) (hfi : findK V.ker root c.at_ = some s) (hh : V.ker.held s = some (.frame 80 3 7)) (ho : c.offset = 7) (hn : c.value = 9) :
    Calls Tryz.prog 43 #[.pointer (some ⟨ub, 0, none⟩)] w fun e w' => e = .returned (.tuple #[.int .i64 0, .int .i64 0]) /\ KOut w kb V (putWs V.ker 87 9) w' := by
  have hu := h.turn
  have hker := h.ker
  have k0 : w.cell? ⟨ub, 0, none⟩ = some (.pointer (some ⟨kb, 0, none⟩)) := cell_of_blk (o := 0) hu rfl
  have k9 : w.cell? ⟨ub, 9, none⟩ = some (.int .i64 c.value) := cell_of_blk (o := 9) hu rfl
  rw [hn] at k9
  have kc := h.ker.cw (i := 87) (by decide)
  have hcall := wordOf_good V kb ub c av tv bv th root 2 s w h hfi hh (.inr rfl) ho
  have nk : kb ≠ ub := fun e => h.ub (.inl e.symm)
  clear hfi hh h hu
  go_enter Tryz.func43, Tryz.ntmps43
  go_upto_region 6 with (first
    | (go_at_call 77; refine hcall.mono ?_; rintro e W1 ⟨rfl, hf1⟩; have r0 := hf1.cell k0 id; have r1 := hf1.cell kc id; have r9 := hf1.cell k9 id; have hz := (hker.frame hf1 (fun _ _ => id)).fz)
    | (go_at_call 74; refine (isWord_good 9 _ (by decide) (by decide)).mono ?_; rintro e W2 ⟨rfl, rfl⟩))
  go_region_held3 (fun w' => w'.cell? ⟨ub, 0, none⟩ = some (.pointer (some ⟨kb, 0, none⟩)) /\ w'.cell? ⟨ub, 9, none⟩ = some (.int .i64 9)) (go_keep) (fail)
  all_goals go_wp2
  all_goals go_ret2
  have e9 : IntKind.u32.wrap 9 = 9 := by decide
  rw [e9]
  exact ⟨rfl, putW_out (w1 := W2.drew) hker hf1.drew (by decide)⟩
theorem meth_at9 (W : World) : (Instr.index 88 methV (.int .i64 9)).run Tryz.prog W = .ok (.func (.func 42) #[] #[]) W := by kernel_rfl
theorem meth_at10 (W : World) : (Instr.index 88 methV (.int .i64 10)).run Tryz.prog W = .ok (.func (.func 43) #[] #[]) W := by kernel_rfl
theorem cf9 (args : Array Value) (W : World) : (callFunc 42 args).run Tryz.prog W = .ok (.enter 42 args) W := by kernel_rfl
theorem cf10 (args : Array Value) (W : World) : (callFunc 43 args).run Tryz.prog W = .ok (.enter 43 args) W := by kernel_rfl
theorem do_load (S : KS) (V : KerV) (kb : Nat) (c : Cl) (av tv : Value) (ba : Option Addr) (bc : Nat) (th : Int) (w : World) (hc : CallI w kb S V c av tv) {t : Thd} (ht : V.ker.thr th = some t) (hs : t.state = 1) (hk : c.kind = 9) {s : Slot} (hfi : findK V.ker t.root c.at_ = some s) (hh : V.ker.held s = some (.frame 80 3 7)) (ho : c.offset = 7) (hw : 0 <= V.ws 87 /\ V.ws 87 <= 4294967295) :
    Calls Tryz.prog 11 (doArgs kb th c av tv (.slice ba 0 bc)) w (fun e w' => e = .returned (.tuple #[.int .i64 (V.ws 87), .int .i64 0]) /\ KGOut w kb V S w') := by
  refine (do_any S V kb c av tv ba 0 bc th w hc.kd ht hs (by omega) (by omega) 42 (by rw [hk]; exact meth_at9) cf9 (fun x y K => x = V.ws 87 /\ y = 0 /\ K = S) ?_).mono ?_
  . intro W ub hW hU hu
    have hcc := hc.at hW hU hu
    exact (load_good V kb ub c av tv _ th t.root s W hcc.call hfi hh ho hw).mono fun e w' ⟨h1, h2⟩ => ⟨_, _, _, .inl h1, hcc.kd.stay h2, rfl, rfl, rfl⟩
  . rintro e w' ⟨x, y, K, h1, h2, rfl, rfl, rfl⟩
    exact ⟨h1, h2⟩
theorem do_store (S : KS) (V : KerV) (kb : Nat) (c : Cl) (av tv : Value) (ba : Option Addr) (bc : Nat) (th : Int) (w : World) (hc : CallI w kb S V c av tv) {t : Thd} (ht : V.ker.thr th = some t) (hs : t.state = 1) (hk : c.kind = 10) {s : Slot} (hfi : findK V.ker t.root c.at_ = some s) (hh : V.ker.held s = some (.frame 80 3 7)) (ho : c.offset = 7) (hn : c.value = 9) :
    Calls Tryz.prog 11 (doArgs kb th c av tv (.slice ba 0 bc)) w (fun e w' => e = .returned (.tuple #[.int .i64 0, .int .i64 0]) /\ KGOut w kb V ⟨putWs V.ker 87 9, S.D⟩ w') := by
  refine (do_any S V kb c av tv ba 0 bc th w hc.kd ht hs (by omega) (by omega) 43 (by rw [hk]; exact meth_at10) cf10 (fun x y K => x = 0 /\ y = 0 /\ K = ⟨putWs V.ker 87 9, S.D⟩) ?_).mono ?_
  . intro W ub hW hU hu
    have hcc := hc.at hW hU hu
    exact (store_good V kb ub c av tv _ th t.root s W hcc.call hfi hh ho hn).mono fun e w' ⟨h1, h2⟩ => ⟨_, _, _, .inl h1, hcc.kd.kout h2, rfl, rfl, rfl⟩
  . rintro e w' ⟨x, y, K, h1, h2, rfl, rfl, rfl⟩
    exact ⟨h1, h2⟩
end Go.Proofs.YtdpjgflemddekaaGreatDoor

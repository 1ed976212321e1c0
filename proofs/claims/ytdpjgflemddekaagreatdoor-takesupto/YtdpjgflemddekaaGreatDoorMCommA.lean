/- A receive from a channel that is shut and empty, first in a region of the plain walk. Nothing of the program's text. -/
import Derived.Test.YtdpjgflemddekaaGreatDoorMMapB
import Derived.Conc.LoneCalls
import Derived.WalkKit
namespace Go.Proofs.YtdpjgflemddekaaGreatDoor
open Go.RowKit Go.Conc
theorem stepG_comm_any {P : Program} {b : Frame} {a : Act} {k : List Item} {cs : List Frame} {w : World} {ops : Array Oper} {i : Nat} {rest : List Nat} {o : Oper} {cases : Array CommCase} {blocking : Bool} {shape : CommShape} {w' : World} (ho : ops[i]? = some o) (hw : Region.wanted o (yielded ops a.tmps) = true)
    (hr : (execOp a.eval o).run P w = .ok (.comm cases blocking shape) w') :
    ∃ es, stepG P true (G (b.at a (.inRegion ops (i :: rest) :: k)) cs) w = .comm (G (b.at a (.inRegion ops (i :: rest) :: k)) cs) cases blocking shape w' es := by
  have hg := stepG_op (P := P) (b := b) (k := k) (cs := cs) (w := w) (rest := rest) ho hw
  rw [show G (b.at a (.inRegion ops (i :: rest) :: k)) cs = { frame := b.at a (.inRegion ops (i :: rest) :: k), callers := cs, status := .running, dying := none } from rfl, hg]
  simp only [stepG.apply, Sem.runT_eq, hr, if_true, GStep.after]
  exact ⟨_, rfl⟩
theorem arrives_recv_shut {P : Program} {Q : Exit -> Act -> World -> Prop} {a : Act} {w : World} {ops : Array Oper} {i : Nat} {rest : List Nat} {o : Oper} {c cap s r : Nat} {z : Value} {tm ok : Bool} (ho : ops[i]? = some o) (hw : Region.wanted o (yielded ops a.tmps) = true)
    (hr : (execOp a.eval o).run P w = .ok (.comm #[rcase c z] true (.recv ok)) w) (hc : w.heap[c]? = some (.chan cap #[] true s r tm)) (h : wpOps P ops Q rest (a.put o.dst (got ok z false)) w) (b : Frame) (k : List Item) (cs : List Frame) :
    ∃ e a' w', Q e a' w' /\ Arrives P (lone (b.at a (.inRegion ops (i :: rest) :: k)) cs w) b k cs e a' w' := by
  obtain ⟨es, hs⟩ := stepG_comm_any (P := P) (b := b) (k := k) (cs := cs) (rest := rest) ho hw hr
  have h1 := step_lone_recv_shut ok hs hc
  rw [Frame.finish_at, ho] at h1
  obtain ⟨e, a', w', hq, harr⟩ := wp_ops rest _ w h b k cs
  exact ⟨e, a', w', hq, .of_steps (.one h1) harr⟩
theorem wp_region_recv_shut {P : Program} {Q : Exit -> Act -> World -> Prop} {a : Act} {w : World} {id : Nat} {ops : Array Oper} {i : Nat} {rest : List Nat} {o : Oper} {c cap s r : Nat} {z : Value} {tm ok : Bool} (hl : List.range ops.size = i :: rest) (ho : ops[i]? = some o) (hw : Region.wanted o (yielded ops a.tmps) = true)
    (hr : (execOp a.eval o).run P w = .ok (.comm #[rcase c z] true (.recv ok)) w) (hc : w.heap[c]? = some (.chan cap #[] true s r tm)) (h : wpOps P ops Q rest (a.put o.dst (got ok z false)) w) : (Code.region id ops false).wp P Q a w := by
  intro b k cs
  obtain ⟨e, a', w', hq, harr⟩ := arrives_recv_shut (P := P) ho hw hr hc h b k cs
  rw [<- hl] at harr
  exact ⟨e, a', w', hq, .of_steps (.one step_region) harr⟩
end Go.Proofs.YtdpjgflemddekaaGreatDoor
/- The code: abandon, where nobody waits. -/
namespace Go.Proofs.YtdpjgflemddekaaGreatDoor
open Go.RowKit Go.Conc
theorem fr_shut (w : World) (c : Nat) (o : Obj) : Fr w { w with heap := w.heap.setIfInBounds c o } (fun k => k = c) :=
  ⟨rfl, rfl, rfl, by simp, fun k _ hk => by simp only; rw [Array.getElem?_setIfInBounds_ne (fun e => hk e.symm)]⟩
theorem RestAt.del {w : World} {Q : List (Int × (Nat × Nat))} {C : Nat -> List Wtr} (h : RestAt w Q C) (b : Int) (hn : (Q.map Prod.fst).Nodup) : RestAt w (delM b Q) C := by
  have key : ∀ e q, look e (delM b Q) = some q -> look e Q = some q := fun e q he => by
    rw [look_del b e Q hn] at he
    split at he
    . cases he
    . exact he
  exact ⟨fun e q he => h.chan e q (key e q he), fun e q e' q' h1 h2 => h.apart e q e' q' (key e q h1) (key e' q' h2), fun e q he => h.two e q (key e q he)⟩
theorem pair_at0 (a b : Option Nat) (W : World) : (Instr.index 197 (.agg #[.chan a, .chan b]) (.int .i64 0)).run Tryz.prog W = .ok (.chan a) W := by kernel_rfl
theorem pair_at1 (a b : Option Nat) (W : World) : (Instr.index 197 (.agg #[.chan a, .chan b]) (.int .i64 1)).run Tryz.prog W = .ok (.chan b) W := by kernel_rfl
set_option maxRecDepth 100000 in
set_option maxHeartbeats 1000000 in
theorem abandon_any (kb : Nat) (S : KS) (V : KerV) (b : Int) (w : World) (h : KD w kb S V) (hq : ∀ e q, S.K.qs e = some q -> q = ([], [])) (hb : ∃ q, S.K.qs b = some q) :
    Calls Tryz.prog 112 #[.pointer (some ⟨kb, 0, none⟩), .int .i64 b] w fun e w' => e = .returned (.tuple #[]) /\ KDOut w kb V ⟨abandonK S.K b, S.D⟩ w' := by
  have hC : ∀ e q, look e V.Q = some q -> V.C q.1 = [] /\ V.C q.2 = [] := fun e q he => by
    have h1 : S.K.qs e = some (V.C q.1, V.C q.2) := by rw [<- h.eq]; simp [KerV.ker, he]
    have h2 := hq e _ h1
    simpa using h2
  obtain ⟨q, hlq⟩ : ∃ q, look b V.Q = some q := by
    obtain ⟨x, hx⟩ := hb
    rw [<- h.eq] at hx
    simp only [KerV.ker] at hx
    cases hl : look b V.Q with
    | none => rw [hl] at hx; cases hx
    | some q => exact ⟨q, rfl⟩
  obtain ⟨q1, q2⟩ := q
  have hkb : kb < w.heap.size := World.block_lt_of_cell? _ _ h.ker.cq
  have hrl := h.ker.que.look_run (P := Tryz.prog) intKey Tryz.underlying64 (z := .agg #[.chan none, .chan none]) (by kernel_rfl) b false
  rw [hlq] at hrl
  simp only [ival, Bool.false_eq_true, if_false, orZero, queVal] at hrl
  obtain ⟨W0, hW0⟩ : ∃ W0, w.alloc (.cells #[.chan (some q1), .chan (some q2)] 125) = W0 := ⟨_, rfl⟩
  have hf0 : Fr w W0 (fun _ => False) := by rw [<- hW0]; exact (Fr.refl _ _).alloc _
  have hb0 : W0.heap[w.heap.size]? = some (.cells #[.chan (some q1), .chan (some q2)] 125 (0, 0)) := by rw [<- hW0]; exact heap_alloc_new _ _
  have h0 := h.frame hf0 (fun _ _ => id)
  have hcq := h.ker.cq
  have hcq0 := h0.ker.cq
  obtain ⟨W1, hr1, hm1, hf1, hs1⟩ := h0.ker.que.del_run (P := Tryz.prog) (ty := 0) intKey Tryz.underlying64 b
  simp only [ival] at hr1
  have hqlt : V.qb < w.heap.size := h.ker.que.lt
  have hb1 := hf1.same hb0 (by omega)
  have hqq : restFp V.Q q1 /\ restFp V.Q q2 := ⟨⟨b, _, hlq, .inl rfl⟩, ⟨b, _, hlq, .inr rfl⟩⟩
  have hne1 : ∀ k, restFp V.Q k -> k ≠ V.qb := fun k hk => h.ker.rest.noMap h.ker.que hk
  have hr1' : RestAt W1 V.Q V.C := h0.ker.rest.frame hf1 (fun k hk => hne1 k hk)
  have hK1 : KerAt W1 kb { V with Q := delM b V.Q, C := V.C } := h0.ker.putQ hm1 hf1 (hr1'.del b h.ker.que.nodup)
  have hdb : ∀ k, V.dv.ownBlock = some k -> ¬ V.fp kb k := h.ap
  have hd1 : W1.ownsRow 0 116 2 V.dv S.D.length (domRow S.D) := hf1.owns h0.d (fun k hk e => h.ap k hk (.inr (.inr (.inr (.inr (.inl e))))))
  have hF1 : Fr w W1 (V.fd kb) := (hf0.mono (fun _ => False.elim)).step hf1 (fun k hk => .inl (.inl (.inr (.inr (.inr (.inr (.inl hk)))))))
  have hsub : ∀ k, KerV.fp kb { V with Q := delM b V.Q, C := V.C } k -> V.fp kb k /\ k ≠ q1 /\ k ≠ q2 := by
    intro k hk
    have hne : ∀ m, restFp V.Q m -> ¬ (m = kb \/ m = V.hb \/ m = V.nb \/ m = V.rb \/ m = V.qb \/ treeFp V.tb V.M m) := by
      rintro m hm (e | e | e | e | e | e)
      . obtain ⟨c, hc, _⟩ := h.ker.blk
        exact h.ker.rest.noCells hc hm e
      . exact h.ker.rest.noMap h.ker.held hm e
      . exact h.ker.rest.noMap h.ker.nodes hm e
      . exact h.ker.rest.noMap h.ker.thr hm e
      . exact hne1 m hm e
      . rcases e with e | ⟨s, x, hx, hk⟩
        . exact h.ker.rest.noMap h.ker.tree.map hm e
        . have hown := h.ker.tree.own s x hx
          rcases hown.2 with ⟨e0, _⟩ | ⟨g, cap, cur, e0, _, hg, _⟩
          . rw [e0] at hk; cases hk
          . rw [e0] at hk
            have : g = m := by simpa [Value.ownBlock] using hk
            rw [this] at hg
            exact h.ker.rest.noCells hg hm rfl
    have old : (k = kb \/ k = V.hb \/ k = V.nb \/ k = V.rb \/ k = V.qb \/ treeFp V.tb V.M k) -> V.fp kb k /\ k ≠ q1 /\ k ≠ q2 := fun e => by
      refine ⟨?_, fun e2 => hne q1 hqq.1 (e2 ▸ e), fun e2 => hne q2 hqq.2 (e2 ▸ e)⟩
      rcases e with e | e | e | e | e | e
      . exact .inl e
      . exact .inr (.inl e)
      . exact .inr (.inr (.inl e))
      . exact .inr (.inr (.inr (.inl e)))
      . exact .inr (.inr (.inr (.inr (.inl e))))
      . exact .inr (.inr (.inr (.inr (.inr (.inl e)))))
    rcases hk with e | e | e | e | e | e | e
    . exact old (.inl e)
    . exact old (.inr (.inl e))
    . exact old (.inr (.inr (.inl e)))
    . exact old (.inr (.inr (.inr (.inl e))))
    . exact old (.inr (.inr (.inr (.inr (.inl e)))))
    . exact old (.inr (.inr (.inr (.inr (.inr e)))))
    . obtain ⟨e1, q', he, hk⟩ := e
      have hne' : e1 ≠ b /\ look e1 V.Q = some q' := by
        simp only at he
        rw [look_del b e1 V.Q h.ker.que.nodup] at he
        split at he
        . cases he
        . rename_i hn; exact ⟨fun e => hn e.symm, he⟩
      obtain ⟨a1, a2, a3, a4⟩ := h.ker.rest.apart e1 q' b _ hne'.2 hlq hne'.1
      refine ⟨.inr (.inr (.inr (.inr (.inr (.inr ⟨e1, q', hne'.2, hk⟩))))), ?_, ?_⟩
      . rcases hk with rfl | rfl
        . exact a1
        . exact a3
      . rcases hk with rfl | rfl
        . exact a2
        . exact a4
  obtain ⟨c1, c2⟩ := hr1'.chan b _ hlq
  simp only at c1 c2
  have hE := hC b _ hlq
  simp only at hE
  rw [hE.1] at c1
  rw [hE.2] at c2
  obtain ⟨s1, r1, tm1, c1⟩ := c1
  obtain ⟨s2, r2, tm2, c2⟩ := c2
  simp only [List.map_nil] at c1 c2
  have htwo : q1 ≠ q2 := h.ker.rest.two b _ hlq
  have hql : q1 < w.heap.size /\ q2 < w.heap.size := ⟨h.ker.rest.lt hqq.1, h.ker.rest.lt hqq.2⟩
  have hcl1 := fun ats ty => run_close_open (P := Tryz.prog) ats ty c1
  obtain ⟨W2, hW2⟩ : ∃ W2, { W1 with heap := W1.heap.setIfInBounds q1 (.chan 64 [].toArray true s1 r1 tm1) } = W2 := ⟨_, rfl⟩
  have hf2 : Fr W1 W2 (fun k => k = q1) := by rw [<- hW2]; exact fr_shut _ _ _
  have hsh1 : W2.heap[q1]? = some (.chan 64 #[] true s1 r1 tm1) := by
    rw [<- hW2]; simp only; rw [Array.getElem?_setIfInBounds_self_of_lt (by have := (Array.getElem?_eq_some_iff.1 c1).1; exact this)]
  have hb2 := hf2.same hb1 (by omega)
  have c2' := hf2.same c2 (Ne.symm htwo)
  have hcl2 := fun ats ty => run_close_open (P := Tryz.prog) ats ty c2'
  obtain ⟨W3, hW3⟩ : ∃ W3, { W2 with heap := W2.heap.setIfInBounds q2 (.chan 64 [].toArray true s2 r2 tm2) } = W3 := ⟨_, rfl⟩
  have hf3 : Fr W2 W3 (fun k => k = q2) := by rw [<- hW3]; exact fr_shut _ _ _
  have hsh2 : W3.heap[q2]? = some (.chan 64 #[] true s2 r2 tm2) := by
    rw [<- hW3]; simp only; rw [Array.getElem?_setIfInBounds_self_of_lt (by have := (Array.getElem?_eq_some_iff.1 c2').1; exact this)]
  simp only [hW2] at hcl1
  simp only [hW3] at hcl2
  have hout : KDOut w kb V ⟨abandonK S.K b, S.D⟩ W3 := by
    have hf23 : Fr W1 W3 (fun k => k = q1 \/ k = q2) := (hf2.mono (fun _ e => .inl e)).step hf3 (fun k e => .inl (.inr e))
    have hq12 : ∀ k, k = q1 \/ k = q2 -> restFp V.Q k := fun k e => by rcases e with e | e <;> rw [e]; exact hqq.1; exact hqq.2
    refine ⟨_, ⟨hK1.frame hf23 (fun k hk e => ?_), ?_, hf23.owns hd1 (fun k hk e => ?_), fun k hk e => h.ap k hk (hsub k e).1⟩, hF1.step hf23 (fun k e => .inl (.inl ?_)), ?_⟩
    . obtain ⟨_, a1, a2⟩ := hsub k hk
      rcases e with e | e
      . exact a1 e
      . exact a2 e
    . rw [<- h.eq]
      have hqb : (V.ker.qs b) = some ([], []) := by simp [KerV.ker, hlq, hE.1, hE.2]
      unfold abandonK
      rw [hqb]
      simp only [KerV.ker, Option.getD_some, List.append_nil, List.foldl_nil]
      congr 1
      funext x
      rw [look_del b x V.Q h.ker.que.nodup]
      simp only [upd]
      by_cases e : x = b
      . subst e; simp
      . rw [if_neg (Ne.symm e), if_neg e]
    . exact h.ap k hk (.inr (.inr (.inr (.inr (.inr (.inr (hq12 k e)))))))
    . exact .inr (.inr (.inr (.inr (.inr (.inr (hq12 k e))))))
    . rintro k (e | e)
      . exact .inl (.inl (hsub k e).1)
      . exact .inl (.inr e)
  have d0 := cell_of_blk (o := 0) hb1 rfl
  have d1 := cell_of_blk (o := 1) hb1 rfl
  clear hW2 hW3 hf2 hf3 c1 c2 c2' hb1 hb2 hsub hd1 hdb hF1 hK1 hr1' hne1 hqq hm1 hf1 h0 hC hq hb hE hs1
  have hi0 := pair_at0 (some q1) (some q2)
  have hi1 := pair_at1 (some q1) (some q2)
  go_enter Tryz.func112, Tryz.ntmps112
  go_wp2
  refine wp_loop_rounds 3 ?_
  rw [rounds_succ]
  go_wp2
  refine wp_loop_rounds 1 ?_
  rw [rounds_succ]
  go_upto_region 7 with fail
  refine wp_region_recv_shut (i := 0) (rest := [1]) (z := .agg #[.int .i64 0, .int .i64 0, .int .i64 0]) (ok := true) rfl rfl (by simp [go_sem]) ?hr hsh1 ?_
  case hr => simp [go_sem, rcase]
  simp [wpOps, Act.put, got, Oper.wp, go_sem]
  left
  clear hcl1 hsh1 hi0
  go_wp2
  rw [rounds_succ]
  go_wp2
  refine wp_loop_rounds 1 ?_
  rw [rounds_succ]
  go_upto_region 7 with fail
  refine wp_region_recv_shut (i := 0) (rest := [1]) (z := .agg #[.int .i64 0, .int .i64 0, .int .i64 0]) (ok := true) rfl rfl (by simp [go_sem]) ?hr hsh2 ?_
  case hr => simp [go_sem, rcase]
  simp [wpOps, Act.put, got, Oper.wp, go_sem]
  left
  clear hcl2 hsh2 hi1
  go_wp2
  rw [rounds_succ]
  go_wp2
  go_end0
  exact ⟨rfl, hout⟩
end Go.Proofs.YtdpjgflemddekaaGreatDoor

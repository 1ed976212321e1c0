/- The code: workOff where nothing is doomed; polled over an iterator that gives nothing. -/
import Derived.Test.YtdpjgflemddekaaGreatDoorMCodeP
import Derived.RangeFuncNested
import Derived.RangeFuncBound
import Derived.RangeFuncCalls
import Derived.RangeFuncLeaves
import Derived.Shelf.Abstract
import Derived.Shelf.RegionOpen
import Derived.WalkKit
import Derived.OwnWalkIn
import Derived.TacticsInMore
import Derived.LoopNIn
import Derived.LoopIn
namespace Go.Proofs.YtdpjgflemddekaaGreatDoor
open Go.RowKit Go.Shelf
attribute [local go_sem] Oper.semAt_some

set_option maxRecDepth 100000 in
theorem workOff_any (kb : Nat) (w : World) :
    Calls Tryz.prog 58 #[.pointer (some ⟨kb, 0, none⟩)] w fun e w' => e = .returned (.func (.func 92) #[] #[.pointer (some ⟨w.heap.size, 0, none⟩)]) ∧ w' = w.alloc (.cells #[.pointer (some ⟨kb, 0, none⟩)] 34) := by
  go_enter Tryz.func58, Tryz.ntmps58
  go_wp2
  go_ret
  exact ⟨rfl, rfl⟩

/-- Nothing is doomed: no step. -/
theorem workOff_stops (n : Nat) (kb wb : Nat) (w : World) (hb : w.heap[wb]? = some (.cells #[.pointer (some ⟨kb, 0, none⟩)] 34 (0, 0))) (hd : w.cell? ⟨kb, 1027, none⟩ = some (.slice none 0 0)) :
    SeqStopsK Fence.wide n Tryz.prog 92 #[.pointer (some ⟨wb, 0, none⟩)] (fun _ : Unit => #[]) (Below w.heap.size) (fun xs => xs = []) (fun _ => False) 0 w := by
  intro l J Jx W hW hJ hJx hY h0
  refine callsIn_wide.2 ?_
  have c0 : W.cell? ⟨wb, 0, none⟩ = some (.pointer (some ⟨kb, 0, none⟩)) := (hW.cell (World.block_lt_of_cell? w _ (cell_of_blk (o := 0) hb rfl))).trans (cell_of_blk (o := 0) hb rfl)
  have c1 : W.cell? ⟨kb, 1027, none⟩ = some (.slice none 0 0) := (hW.cell (World.block_lt_of_cell? w _ hd)).trans hd
  clear hY hJ hJx
  simp only [List.append_toArray, List.nil_append, List.cons_append]
  go_enter Tryz.func92, Tryz.ntmps92
  go_wp2
  refine wp_loop_rounds 1 ?_
  rw [rounds_succ]
  go_wp2
  go_end0
  exact ⟨⟨_, rfl⟩, .inl ⟨[], rfl, h0⟩⟩

theorem own_fr {w W1 : World} {rb : Nat} {o : Obj} (hs : w.heap.size ≤ W1.heap.size) (hrb : rb < W1.heap.size) : OwnFrom W1.heap.size (fun (_ : List Unit) W => Fr w W (fun _ => False) ∧ W.heap[rb]? = some o) := by
  intro s A B row hI hg hr
  refine ⟨hI.1.grown hg (fun k hk => .inr (by have := (hr k hk).1; omega)), ?_⟩
  have hlt := (Array.getElem?_eq_some_iff.1 hI.2).1
  rw [hg.block rb hlt (fun e => by have := (hr rb e.symm).1; omega)]
  exact hI.2

set_option maxRecDepth 100000 in
set_option maxHeartbeats 1000000 in
/-- polled over an iterator that gives nothing. -/
theorem polled_none (gf : Nat) (lb : Array Value) (ub : Nat) (w : World) (eg : ∀ args w, (callFunc gf args).run Tryz.prog w = .ok (.enter gf args) w)
    (hseq : SeqStopsK Fence.wide (2 - 1) Tryz.prog gf lb (fun _ : Unit => #[]) (Below w.heap.size) (fun xs => xs = []) (fun _ => False) 0 w) :
    Calls Tryz.prog 57 #[.pointer (some ⟨ub, 0, none⟩), .func (.func gf) #[] lb] w fun e w' => e = .returned (.int .i64 0) ∧ Fr w w' (fun _ => False) := by
  refine (callsIn_wide (n := 2)).1 ?_
  refine callsIn_of_wp_marks Tryz.func57 rfl trivial ?_ rfl
  simp only [Tryz.ntmps57, List.size_toArray, List.length_cons, List.length_nil, Nat.reduceAdd, Nat.reduceSub, Array.replicate_succ, Array.replicate_zero, List.push_toArray, List.append_toArray, List.nil_append, List.cons_append]
  gi_wp2_with fail
  have hbr : ((w.alloc (.cells #[.pointer (some ⟨ub, 0, none⟩)] 90)).alloc (.cells #[.int .i64 0] 36)).heap[w.heap.size + 1]? = some (.cells #[.int .i64 0] 36 (0, 0)) := by
    have := heap_alloc_new (w.alloc (.cells #[.pointer (some ⟨ub, 0, none⟩)] 90)) (.cells #[.int .i64 0] 36); simpa using this
  refine wpIn_rangeFunc_ownF rfl (by decide) (gf := gf) (lb := lb) rfl trivial eg hseq belowK_t (belowK_b (by simp; omega)) (((Below.refl _ w).alloc (Nat.le_refl _) _).alloc (by simp) _) (fun _ => rfl)
    (fun (_ : List Unit) W => Fr w W (fun _ => False) ∧ W.heap[w.heap.size + 1]? = some (.cells #[.int .i64 0] 36 (0, 0))) (fun _ _ _ => False) (own_fr (by simp; omega) (by simp)) (fun _ _ _ _ _ h => h.elim) ⟨((Fr.refl _ _).alloc _).alloc _, hbr⟩
    (fun _ => { tmps := #[.pointer (some ⟨ub, 0, none⟩), .func (.func gf) #[] lb, .pointer (some ⟨w.heap.size, 0, none⟩), undef, .pointer (some ⟨w.heap.size + 1, 0, none⟩), .func (.func gf) #[] lb, undef, undef], defers := [] }) ?assign ?body ?done ?stop
  case assign =>
    intro l x W K hK
    gi_wp2
    simpa using hK
  case body =>
    intro l pre x W _ h
    exact absurd h (by omega)
  case done =>
    rintro D xs W hD _ ⟨hF, hb⟩ hK
    have c0 := cell_of_blk (o := 0) hb rfl
    have z0 := frozen_of_blk (o := 0) hb
    simp at hD
    gi_wp2
    have hK2 : (W.setCell ⟨w.heap.size + 1, 0, none⟩ (.int .i64 0)).heap[D]? = some (.deferred (some [])) := (KeepsOthers.setCell _ _ _).same D _ hK rfl
    have hb2 := setCell_at W (w.heap.size + 1) 0 (.int .i64 0) hb
    have hF2 : Fr w (W.setCell ⟨w.heap.size + 1, 0, none⟩ (.int .i64 0)) (fun _ => False) := hF.setCell (.inr (by omega)) _ _
    generalize W.setCell ⟨w.heap.size + 1, 0, none⟩ (.int .i64 0) = W2 at hK2 hb2 hF2
    refine ⟨by simp, .inl ⟨_, _, rfl, run_takeDeferred hK2, ?_⟩⟩
    have hF3 : Fr w (W2.putObj D (.deferred none)) (fun _ => False) := hF2.grown (grownBy_putObj' W2 D (.deferred none)) (fun k hk => by cases hk; exact .inr (by omega))
    have hb3 : (W2.putObj D (.deferred none)).heap[w.heap.size + 1]? = some (.cells #[.int .i64 0] 36 (0, 0)) := (World.putObj_heap_other (by omega)).trans hb2
    have c3 := cell_of_blk (o := 0) hb3 rfl
    generalize W2.putObj D (.deferred none) = W3 at hF3 hb3 c3
    refine ⟨.int .i64 0, ?_, rfl, hF3⟩
    simp [results, Tryz.results57, go_sem, c3]
  case stop =>
    rintro D c pre W _ h
    exact h.elim
set_option maxRecDepth 100000 in
theorem reset_any (kb : Nat) (s : Slot) (w : World) :
    Calls Tryz.prog 63 #[.pointer (some ⟨kb, 0, none⟩), .agg #[.int .i64 s.node, .int .i64 s.index]] w fun e w' => e = .returned (.func (.func 96) #[] #[.pointer (some ⟨w.heap.size, 0, none⟩), .pointer (some ⟨w.heap.size + 1, 0, none⟩)]) ∧
      w' = (w.alloc (.cells #[.pointer (some ⟨kb, 0, none⟩)] 34)).alloc (.cells #[.int .i64 s.node, .int .i64 s.index] 71) := by
  go_enter Tryz.func63, Tryz.ntmps63
  go_wp2
  go_ret
  exact ⟨rfl, rfl⟩

theorem below_fr {B : Nat} {w W : World} (h : Below B w W) : Fr w W (fun k => B ≤ k) := ⟨h.os, h.tape, h.output, h.size, fun k _ hn => h.block k (by omega)⟩

set_option maxRecDepth 100000 in
set_option maxHeartbeats 1000000 in
/-- The Mark is 0: no step. -/
theorem reset_stops (m : Nat) (V : KerV) (kb wb sb : Nat) (s : Slot) (b n : Int) (w : World) (h : KerAt w kb V) (hb : w.heap[wb]? = some (.cells #[.pointer (some ⟨kb, 0, none⟩)] 34 (0, 0))) (hs : w.heap[sb]? = some (.cells #[.int .i64 s.node, .int .i64 s.index] 71 (0, 0)))
    (hk : V.ker.held s = some (.untyped b n 0)) :
    SeqStopsK Fence.wide m Tryz.prog 96 #[.pointer (some ⟨wb, 0, none⟩), .pointer (some ⟨sb, 0, none⟩)] (fun _ : Unit => #[]) (Below w.heap.size) (fun xs => xs = []) (fun _ => False) 0 w := by
  intro l J Jx W hW hJ hJx hY h0
  refine callsIn_wide.2 ?_
  have hf := below_fr hW
  have lt1 := (Array.getElem?_eq_some_iff.1 hb).1
  have lt2 := (Array.getElem?_eq_some_iff.1 hs).1
  have hb1 := hf.same hb (by omega)
  have hs1 := hf.same hs (by omega)
  have h1 := h.frame hf (fun k hk => by have := h.fpLt hk; omega)
  have c0 := cell_of_blk (o := 0) hb1 rfl
  have c1 := h1.ch
  have s0 := cell_of_blk (o := 0) hs1 rfl
  have s1 := cell_of_blk (o := 1) hs1 rfl
  have hg : ∀ (W' : World), W.grownBy W' none → J [] W' := fun W' hg => hJ [] W W' none h0 hg (fun r e => by cases e)
  clear hY hJ hJx
  have hf2 := (Fr.refl W (fun _ => False)).alloc (.cells #[.int .i64 0, .int .i64 0, .int .i64 0] 76)
  have hrun := look_held (h1.frame ((Fr.refl W (fun _ => False)).drew) (fun _ _ => id)) s false
  have hrun2 := look_held (h1.frame hf2.drew (fun _ _ => id)) s false
  simp only [Bool.false_eq_true, if_false, hk, capV, KCap.val] at hrun hrun2
  have hta := ta_untyped_untyped (.agg #[.int .i64 b, .int .i64 n, .int .i64 0])
  have l0 := World.block_lt_of_cell? _ _ c0
  have l1 := World.block_lt_of_cell? _ _ c1
  have l2 := World.block_lt_of_cell? _ _ s0
  simp only [List.append_toArray, List.nil_append, List.cons_append]
  go_enter Tryz.func96, Tryz.ntmps96
  go_wp2
  refine wp_loop_rounds 1 ?_
  rw [rounds_succ]
  go_wp2_with fail
  go_region_held3 (fun w' => w'.cell? ⟨wb, 0, none⟩ = some (.pointer (some ⟨kb, 0, none⟩)) ∧ w'.cell? ⟨kb, 1024, none⟩ = some (.map (some V.hb)) ∧ w'.cell? ⟨sb, 0, none⟩ = some (.int .i64 s.node) ∧ w'.cell? ⟨sb, 1, none⟩ = some (.int .i64 s.index)) (go_keep) (fail)
  all_goals clear hrun hrun2 hta c0 c1 s0 s1
  all_goals go_wp2
  all_goals (
    refine bodyPost_ret (v := .tuple #[]) (by simp [results, Tryz.results96, go_sem]) rfl ⟨⟨_, rfl⟩, .inl ⟨[], rfl, hg _ ?_⟩⟩
    have g := World.grownBy_alloc W (.cells #[.int .i64 b, .int .i64 n, .int .i64 0] 76) none
    exact ⟨g.os, g.tape, g.output, g.size, g.block⟩)
end Go.Proofs.YtdpjgflemddekaaGreatDoor
/- The code: turn.retype, where nothing is doomed and no reset is to be done. -/
namespace Go.Proofs.YtdpjgflemddekaaGreatDoor
open Go.RowKit Go.Shelf



theorem retype_three {K : Ker} {root : Int} {c : Cl} {f : Slot} (hfi : findK K root c.at_ = some f) (h : ∀ b n m, K.held f ≠ some (.untyped b n m)) : retypeK K root c = some (3, K) := by
  unfold retypeK
  rw [hfi]
  dsimp only
  cases hh : K.held f with
  | none => rfl
  | some k =>
    cases k with
    | untyped b n m => exact absurd hh (h b n m)
    | _ => rfl

theorem quiet_same1 {P : Program} {f : FuncId} {args : Array Value} {w : World} {n : Nat} {v : Value}
    (h : Calls P f args (w.drewN n) fun e w' => e = .returned v ∧ w' = w.drewN n) : Calls P f args (w.drewN n) fun e w'' => e = .returned v ∧ ∃ m, w'' = w.drewN m :=
  h.mono fun _ _ ⟨he, hm⟩ => ⟨he, n, hm⟩

theorem goK_ok (K : Ker) : ∀ (l : List Int) (nd : Int) (t : Slot), goK K nd l = some t → okK K t.node t.index = true
  | [], _, _, h => by cases h
  | [x], nd, t, h => by
    simp only [goK] at h
    split at h
    · rename_i ho; cases h; exact ho
    · cases h
  | x :: y :: r, nd, t, h => by
    simp only [goK] at h
    split at h
    · cases hn : nodeK K ⟨nd, x⟩ with
      | none => rw [hn] at h; cases h
      | some nd' => rw [hn] at h; exact goK_ok K (y :: r) nd' t h
    · cases h
theorem findK_ok {K : Ker} {root : Int} {l : List Int} {t : Slot} (h : findK K root l = some t) : okK K t.node t.index = true := by
  unfold findK at h
  split at h
  · cases h
  · exact goK_ok K l root t h

theorem Glob.frame {w w' : World} (h : Glob w) (hf : Fr w w' (fun _ => False)) : Glob w' :=
  ⟨hf.cell h.n0 id, hf.cell h.n1 id, fun i hi => ⟨hf.cell (h.bits i hi).1 id, hf.cell (h.bits i hi).2 id⟩⟩

/-- The first steps: nothing is doomed; the slot is found; what it holds is looked at. -/
theorem eg_work : ∀ args w, (callFunc 92 args).run Tryz.prog w = .ok (.enter 92 args) w := enters_of Tryz.func92 (by kernel_rfl) rfl
theorem eg_reset : ∀ args w, (callFunc 96 args).run Tryz.prog w = .ok (.enter 96 args) w := enters_of Tryz.func96 (by kernel_rfl) rfl

theorem polled_work {kb ub : Nat} {V : KerV} {w : World} (h : KerAt w kb V) (hd : V.dv = .slice none 0 0) :
    Calls Tryz.prog 57 #[.pointer (some ⟨ub, 0, none⟩), .func (.func 92) #[] #[.pointer (some ⟨w.heap.size, 0, none⟩)]] (w.alloc (.cells #[.pointer (some ⟨kb, 0, none⟩)] 34)) fun e w' => e = .returned (.int .i64 0) ∧ Fr w w' (fun _ => False) := by
  have hf := (Fr.refl w (fun _ => False)).alloc (.cells #[.pointer (some ⟨kb, 0, none⟩)] 34)
  have h1 := h.frame hf (fun _ _ => id)
  refine (polled_none _ _ ub _ eg_work (workOff_stops 1 kb w.heap.size _ (heap_alloc_new _ _) (by rw [← hd]; exact h1.cd))).mono ?_
  rintro e w' ⟨he, hf2⟩
  exact ⟨he, hf.step hf2 (fun _ => False.elim)⟩

theorem polled_reset {kb ub : Nat} {V : KerV} {w : World} {s : Slot} {b n : Int} (h : KerAt w kb V) (hk : V.ker.held s = some (.untyped b n 0)) :
    Calls Tryz.prog 57 #[.pointer (some ⟨ub, 0, none⟩), .func (.func 96) #[] #[.pointer (some ⟨w.heap.size, 0, none⟩), .pointer (some ⟨w.heap.size + 1, 0, none⟩)]] ((w.alloc (.cells #[.pointer (some ⟨kb, 0, none⟩)] 34)).alloc (.cells #[.int .i64 s.node, .int .i64 s.index] 71)) fun e w' => e = .returned (.int .i64 0) ∧ Fr w w' (fun _ => False) := by
  obtain ⟨hf, hs, hb1, hb2⟩ := box_two (w := w) (a := .cells #[.pointer (some ⟨kb, 0, none⟩)] 34) (b := .cells #[.int .i64 s.node, .int .i64 s.index] 71) rfl
  refine (polled_none _ _ ub _ eg_reset (reset_stops 1 V kb w.heap.size (w.heap.size + 1) s b n _ (h.frame hf (fun _ _ => id)) hb1 hb2 hk)).mono ?_
  rintro e w' ⟨he, hf2⟩
  exact ⟨he, hf.step hf2 (fun _ => False.elim)⟩

theorem isObj_bits {ty bits : Int} (h : isObj ty bits = true) : 0 ≤ bits ∧ bits ≤ 10 := by
  simp only [isObj, Bool.and_eq_true, decide_eq_true_eq] at h
  obtain ⟨⟨h0, h6⟩, h1, h2⟩ := h
  have : ty = 0 ∨ ty = 1 ∨ ty = 2 ∨ ty = 3 ∨ ty = 4 ∨ ty = 5 := by omega
  rcases this with rfl | rfl | rfl | rfl | rfl | rfl <;> simp [leastT, mostT] at h1 h2 <;> omega

theorem row_ne {K : Ker} {root : Int} {l : List Int} {n : Nat} {t f : Slot} {k : KCap} (h : rowK K root l n = some (t, true)) (hf : K.held f = some k) (i : Nat) (hi : i < n) : (⟨t.node, t.index + (i : Int)⟩ : Slot) ≠ f := by
  unfold rowK at h
  split at h
  · cases h
  · split at h
    · injection h with h
      injection h with h1 h2
      subst h1
      intro e
      have hm := List.all_eq_true.1 h2 ⟨_, _⟩ (by rw [slotsFrom]; exact List.mem_map.2 ⟨i, List.mem_range.2 hi, rfl⟩)
      rw [e, hf] at hm
      cases hm
    · cases h

theorem carve_from {w W : World} {V : KerV} {kb ub : Nat} {c : Cl} {av tv bv : Value} {th root : Int} {f t : Slot} {b n m : Int} {cnt g B : Nat} (h : CallAt w kb ub V c av tv bv th root) (hF : Fr w W (fun _ => False)) (hok : RetypeOk V.ker)
    (hk : V.ker.held f = some (.untyped b n m)) (hB : w.heap.size ≤ B) (hown : W.ownsRow B 71 2 (.slice (some ⟨g, 0, none⟩) cnt cnt) cnt (rowS (slotsFrom t cnt))) (hn1 : 1 ≤ cnt) (hn8 : cnt ≤ 8) (hbits : 0 ≤ c.bits ∧ c.bits ≤ 10)
    (hrow : rowK V.ker root c.to cnt = some (t, true)) {x : Int} {K : Ker} (hx : carveK V.ker f t c.ty c.bits root b n m cnt = (x, K)) :
    Calls Tryz.prog 64 #[.pointer (some ⟨ub, 0, none⟩), .agg #[.int .i64 f.node, .int .i64 f.index], .slice (some ⟨g, 0, none⟩) cnt cnt] W fun e w' => e = .returned (.int .i64 x) ∧ KOut w kb V K w' := by
  obtain ⟨⟨u1, u2⟩, ⟨u3, u4⟩, ⟨u5, u6⟩, _⟩ := hok.u f b n m hk
  have hgk : ¬ V.fp kb g := fun e => by
    have h1 := h.ker.fpLt e
    have h2 := (hown.lt g rfl).1
    omega
  have := carve_any V kb ub c av tv bv th root f t b n m cnt g W (h.frame hF) hk (owns_mono hown (Nat.zero_le _)) hgk hn1 hn8 u1 u2 u3 u4 u5 u6 hbits.1 hbits.2 (hok.kids f) (row_ne hrow hk)
  rw [hx] at this
  refine this.mono ?_
  rintro e w' ⟨he, hK⟩
  exact ⟨he, hK.of (hF.mono (fun _ => False.elim)) rfl (fun k hk => .inl hk)⟩

set_option maxRecDepth 100000 in
set_option maxHeartbeats 4000000 in
theorem retype_any (V : KerV) (kb ub : Nat) (c : Cl) (av tv bv : Value) (th root : Int) (w : World) (h : CallAt w kb ub V c av tv bv th root) (hd : V.dv = .slice none 0 0) (hg : Glob w) (hok : RetypeOk V.ker) :
    Calls Tryz.prog 34 #[.pointer (some ⟨ub, 0, none⟩)] w (callOut w kb V (retypeK V.ker root c)) := by
  generalize hans : retypeK V.ker root c = ans
  have HA : Hid (retypeK V.ker root c = ans) := hans
  clear hans
  have hult := h.turn.lt
  have ck' := h.turn.ck
  go_enter Tryz.func34, Tryz.ntmps34
  go_wp2_with (first
    | (go_at_call 58; refine (workOff_any kb _).mono ?_; rintro e w' ⟨rfl, rfl⟩)
    | (go_at_call 57; refine (polled_work h.ker hd).mono ?_; rintro e W1 ⟨rfl, hf1⟩; have cat1 := (h.frame hf1).turn.cat))
  have h1 := h.frame hf1
  refine h1.find.mono ?_
  rintro e W2 ⟨rfl, hf2⟩
  have hF2 := hf1.step hf2 (fun _ => False.elim)
  clear cat1 ck' h1
  cases hfi : findK V.ker root c.at_ with
  | none =>
    have ha : ans = none := by rw [← HA.out]; simp [retypeK, hfi]
    subst ha
    clear HA
    unfold findAns gup
    go_wp2
    exact ⟨rfl, rfl, hF2⟩
  | some f =>
    unfold findAns slotV
    go_wp2_with fail
    generalize hW3 : W2.alloc _ = W3
    have hf3 : Fr W2 W3 (fun _ => False) := by rw [← hW3]; exact (Fr.refl _ _).alloc _
    have hbf : W3.heap[W2.heap.size]? = some (.cells #[.int .i64 f.node, .int .i64 f.index] 71 (0, 0)) := by rw [← hW3]; exact heap_alloc_new _ _
    clear hW3
    have hF3 := hF2.step hf3 (fun _ => False.elim)
    have l2 := hF2.size
    have l3 : W2.heap.size < W3.heap.size := (Array.getElem?_eq_some_iff.1 hbf).1
    have h3 := h.frame hF3
    have c2 := h3.ker.ch
    have s0 := cell_of_blk (o := 0) hbf rfl
    have s1 := cell_of_blk (o := 1) hbf rfl
    have hrun := look_held (h3.ker.frame ((Fr.refl W3 (fun _ => False)).drew) (fun _ _ => id)) f false
    have hfa := (Fr.refl W3 (fun _ => False)).alloc (.cells #[.int .i64 0, .int .i64 0, .int .i64 0] 76)
    have hrun2 := look_held (h3.ker.frame hfa.drew (fun _ _ => id)) f false
    simp only [Bool.false_eq_true, if_false] at hrun hrun2
    have lk := World.block_lt_of_cell? _ _ c2
    obtain ⟨tf, x0, x1, x2, hta, hcase⟩ : ∃ (tf : Bool) (x0 x1 x2 : Int), (∀ W, (Instr.typeAssert (capV (V.ker.held f)) 79 76 true).run Tryz.prog W = .ok (.tuple #[.agg #[.int .i64 x0, .int .i64 x1, .int .i64 x2], .bool tf]) W) ∧
        ((tf = true ∧ V.ker.held f = some (.untyped x0 x1 x2)) ∨ (tf = false ∧ ∀ b n m, V.ker.held f ≠ some (.untyped b n m))) := by
      cases hh : V.ker.held f with
      | none => exact ⟨false, 0, 0, 0, ta_nil_untyped, .inr ⟨rfl, fun _ _ _ e => by cases e⟩⟩
      | some k =>
        cases hu : k.isU with
        | true =>
          cases k with
          | untyped b n m => exact ⟨true, b, n, m, ta_untyped_untyped _, .inl ⟨rfl, rfl⟩⟩
          | _ => cases hu
        | false => exact ⟨false, 0, 0, 0, ta_untyped hu, .inr ⟨rfl, fun b n m e => by cases e; cases hu⟩⟩
    generalize capV (V.ker.held f) = hv at hrun hrun2 hta
    go_cut [7, 8] (fun v7 v8 wx => v8 = .bool tf ∧ ∃ xb, v7 = .pointer (some ⟨xb, 0, none⟩) ∧ Fr W3 wx (fun _ => False) ∧ W3.heap.size ≤ xb ∧ wx.heap[xb]? = some (.cells #[.int .i64 x0, .int .i64 x1, .int .i64 x2] 76 (0, 0)))
    case first =>
      go_region_held3 (fun w' => w'.cell? ⟨kb, 1024, none⟩ = some (.map (some V.hb)) ∧ w'.cell? ⟨W2.heap.size, 0, none⟩ = some (.int .i64 f.node) ∧ w'.cell? ⟨W2.heap.size, 1, none⟩ = some (.int .i64 f.index)) (go_keep) (fail)
      all_goals go_wp2
      all_goals go_meet
      all_goals exact ⟨rfl, W3.heap.size, rfl, ((Fr.refl _ _).alloc _).drew, Nat.le_refl _, heap_alloc_new _ _⟩
    case rest =>
      obtain ⟨rfl, xb, rfl, hf4, _, _⟩ := hcut
      clear hrun hrun2 hta c2 s0 s1 hfa lk h3
      have hF4 := hF3.step hf4 (fun _ => False.elim)
      have hbf4 := hf4.same hbf id
      have h4 := h.frame hF4
      rcases hcase with ⟨rfl, hk⟩ | ⟨rfl, hk⟩
      · have hg4 : Glob wc := hg.frame hF4
        have t4 := h4.turn.cty
        have t5 := h4.turn.cbits
        have t6 := h4.turn.ccount
        have hio : ∀ W, Glob W → Calls Tryz.prog 60 #[.int .i64 c.ty, .int .i64 c.bits] W fun e w' => e = .returned (.bool (isObj c.ty c.bits)) ∧ w' = W := fun W hW => isObject_any c.ty c.bits W hW
        go_upto_region 9 with fail
        go_cut [69] (fun v69 wx => v69 = .bool (!decide (isObj c.ty c.bits = true ∧ 1 ≤ c.count ∧ c.count ≤ 8)) ∧ Fr wc wx (fun _ => False))
        case first =>
          cases hob : isObj c.ty c.bits with
          | false =>
            simp only [hob] at hio
            go_quiet ((go_at_call 60; exact quiet_same1 (hio _ (by exact ⟨hg4.n0, hg4.n1, hg4.bits⟩))))
            all_goals go_wp2
            all_goals go_meet
            all_goals exact ⟨by simp [hob], (Fr.refl _ _).drewN _⟩
          | true =>
            simp only [hob] at hio
            by_cases hc1 : c.count < 1
            · have hc2 : decide (c.count < 1) = true := decide_eq_true hc1
              go_quiet ((go_at_call 60; exact quiet_same1 (hio _ (by exact ⟨hg4.n0, hg4.n1, hg4.bits⟩))))
              all_goals go_wp2
              all_goals go_meet
              all_goals exact ⟨by simp [hob]; omega, (Fr.refl _ _).drewN _⟩
            · have hc2 : decide (c.count < 1) = false := decide_eq_false hc1
              by_cases hc3 : 8 < c.count
              · have hc4 : decide (8 < c.count) = true := decide_eq_true hc3
                go_quiet ((go_at_call 60; exact quiet_same1 (hio _ (by exact ⟨hg4.n0, hg4.n1, hg4.bits⟩))))
                all_goals go_wp2
                all_goals go_meet
                all_goals exact ⟨by simp [hob]; omega, (Fr.refl _ _).drewN _⟩
              · have hc4 : decide (8 < c.count) = false := decide_eq_false hc3
                go_quiet ((go_at_call 60; exact quiet_same1 (hio _ (by exact ⟨hg4.n0, hg4.n1, hg4.bits⟩))))
                all_goals go_wp2
                all_goals go_meet
                all_goals exact ⟨by simp [hob]; omega, (Fr.refl _ _).drewN _⟩
        case rest =>
          obtain ⟨rfl, hf5⟩ := hcut
          have hF5 := hF4.step hf5 (fun _ => False.elim)
          have hbf5 := hf5.same hbf4 id
          have h5 := h.frame hF5
          clear t4 t5 t6 hio hg4 h4
          by_cases hgood : isObj c.ty c.bits = true ∧ 1 ≤ c.count ∧ c.count ≤ 8
          · have hdec : (!decide (isObj c.ty c.bits = true ∧ 1 ≤ c.count ∧ c.count ≤ 8)) = false := by rw [decide_eq_true hgood]; rfl
            rw [hdec]
            clear hdec
            obtain ⟨hob, hc1, hc8⟩ := hgood
            obtain ⟨cnt, hcnt⟩ := Int.eq_ofNat_of_zero_le (show 0 ≤ c.count by omega)
            have hn1 : 1 ≤ cnt := by omega
            have hn8 : cnt ≤ 8 := by omega
            have hix : ∀ t, findK V.ker root c.to = some t → t.index ≤ 1000000 := fun t ht => by
              have h1 := findK_ok ht
              simp [okK] at h1
              have := hok.slots t.node
              omega
            have hans : ans = (match rowK V.ker root c.to cnt with
              | none => none
              | some (_, false) => some (4, V.ker)
              | some (t, true) => some (carveK V.ker f t c.ty c.bits root x0 x1 x2 cnt)) := by
              rw [← HA.out]
              unfold retypeK
              rw [hfi]
              dsimp only
              rw [hk]
              dsimp only
              rw [if_pos ⟨hob, hc1, hc8⟩, hcnt, Int.toNat_natCast]
              rcases rowK V.ker root c.to cnt with _ | ⟨s, _ | _⟩ <;> rfl
            have t3 := h5.turn.cto
            have t6 := h5.turn.ccount
            rw [hcnt] at t6
            have hfr := fun W (hW : CallAt W kb ub V c av tv bv th root) => findRow_any V kb ub c av tv bv th root cnt W hW hn1 hn8 hix
            have h6 := h5.frame ((Fr.refl wc (fun _ => False)).drew)
            have hbits := isObj_bits hob
            clear hob hc1 hc8 HA hix
            cases hrow : rowK V.ker root c.to cnt with
            | none =>
              rw [hrow] at hans
              dsimp only at hans
              subst hans
              go_upto_region 11 with fail
              go_region_with (go_at_call 61; refine (hfr _ h6).mono ?_; rintro e W7 ⟨hf7, he⟩; rw [hrow] at he; dsimp only at he; subst he; unfold gup; refine panicOut (by exact ⟨rfl, rfl, (hF5.drew).step hf7 (fun _ => False.elim)⟩) W7 ?_)
              all_goals trivial
            | some p =>
              obtain ⟨t, bb⟩ := p
              cases bb with
              | false =>
                rw [hrow] at hans
                dsimp only at hans
                subst hans
                go_upto_region 11 with fail
                go_region_held3 (fun w' => w'.cell? ⟨ub, 3, none⟩ = some tv ∧ w'.cell? ⟨ub, 6, none⟩ = some (.int .i64 (cnt : Int))) (go_keep)
                  ((go_at_call 61; refine (hfr _ h6).mono ?_; rintro e W7 ⟨hf7, he⟩; rw [hrow] at he; dsimp only at he; subst he; have g1 := (h6.frame hf7).turn.cto; have g2 := (h6.frame hf7).turn.ccount; rw [hcnt] at g2))
                have hF7 := (hF5.drew).step hf7 (fun _ => False.elim)
                clear g1 g2 t3 t6 hfr h6
                go_wp2
                go_ret2
                exact ⟨rfl, KOut.same h.ker hF7⟩
              | true =>
                rw [hrow] at hans
                dsimp only at hans
                go_upto_region 11 with fail
                go_region_held3 (fun w' => w'.cell? ⟨ub, 3, none⟩ = some tv ∧ w'.cell? ⟨ub, 6, none⟩ = some (.int .i64 (cnt : Int))) (go_keep)
                  ((go_at_call 61; refine (hfr _ h6).mono ?_; rintro e W7 ⟨hf7, he⟩; rw [hrow] at he; dsimp only at he; obtain ⟨gb, rfl, hown⟩ := he; have g1 := (h6.frame hf7).turn.cto; have g2 := (h6.frame hf7).turn.ccount; rw [hcnt] at g2))
                have hF7 := (hF5.drew).step hf7 (fun _ => False.elim)
                have hbf7 := hf7.same (w := wc.drew) hbf5 id
                clear g1 g2 t3 t6 hfr h6
                obtain ⟨x9, K9, hx9⟩ : ∃ x9 K9, carveK V.ker f t c.ty c.bits root x0 x1 x2 cnt = (x9, K9) := ⟨_, _, rfl⟩
                rw [hx9] at hans
                subst hans
                have hB : w.heap.size ≤ wc.drew.heap.size := hF5.size
                have hcv := fun W (hW : Fr W7 W (fun _ => False)) => carve_from h (hF7.step hW (fun _ => False.elim)) hok hk hB (hW.owns hown (fun _ _ => id)) hn1 hn8 hbits hrow hx9
                have h7 := h.ker.frame hF7 (fun _ _ => id)
                have hd7 := (Fr.refl W7 (fun _ => False)).drew
                have hch := hasChildren_any V kb f W7.drew (h7.frame hd7 (fun _ _ => id))
                have hm0 := (hok.u f x0 x1 x2 hk).2.2.2
                have ct := h7.ct
                have s0 := cell_of_blk (o := 0) hbf7 rfl
                have s1 := cell_of_blk (o := 1) hbf7 rfl
                clear hx9 hrow hbits hown hB hok
                go_upto_region 14 with fail
                cases hkids : hasKids V.ker f with
                | true =>
                  rw [hkids] at hch
                  clear hm0
                  go_region_held3 (fun w' => w'.cell? ⟨kb, 1025, none⟩ = some (.map (some V.tb)) ∧ w'.cell? ⟨W2.heap.size, 0, none⟩ = some (.int .i64 f.node) ∧ w'.cell? ⟨W2.heap.size, 1, none⟩ = some (.int .i64 f.index)) (go_keep)
                    ((go_at_call 62; refine hch.mono ?_; rintro e W9 ⟨rfl, hf9⟩; have hf9' := hd7.step hf9 (fun _ => False.elim); have g0 := (h7.frame hf9' (fun _ _ => id)).ct; have g1 := cell_of_blk (o := 0) (hf9'.same hbf7 id) rfl; have g2 := cell_of_blk (o := 1) (hf9'.same hbf7 id) rfl))
                  clear hch ct s0 s1 g0
                  go_wp2_with (go_at_call 64; refine (hcv _ hf9').mono ?_; rintro e W10 ⟨rfl, hK10⟩)
                  go_ret2
                  exact ⟨rfl, hK10⟩
                | false =>
                  rw [hkids] at hch
                  have hm1 := hm0 hkids
                  subst hm1
                  go_region_held3 (fun w' => w'.cell? ⟨kb, 1025, none⟩ = some (.map (some V.tb)) ∧ w'.cell? ⟨W2.heap.size, 0, none⟩ = some (.int .i64 f.node) ∧ w'.cell? ⟨W2.heap.size, 1, none⟩ = some (.int .i64 f.index)) (go_keep)
                    ((go_at_call 62; refine hch.mono ?_; rintro e W9 ⟨rfl, hf9⟩; have hf9' := hd7.step hf9 (fun _ => False.elim); have g0 := (h7.frame hf9' (fun _ _ => id)).ct; have g1 := cell_of_blk (o := 0) (hf9'.same hbf7 id) rfl; have g2 := cell_of_blk (o := 1) (hf9'.same hbf7 id) rfl))
                  clear hch ct s0 s1 g0
                  have h9 := h7.frame hf9' (fun _ _ => id)
                  go_wp2_with (first
                    | (go_at_call 63; refine (reset_any kb f _).mono ?_; rintro e w' ⟨rfl, rfl⟩)
                    | (go_at_call 57; refine (polled_reset h9 hk).mono ?_; rintro e W10 ⟨rfl, hf10⟩; have hf11 := hf9'.step hf10 (fun _ => False.elim); have g3 := cell_of_blk (o := 0) (hf11.same hbf7 id) rfl; have g4 := cell_of_blk (o := 1) (hf11.same hbf7 id) rfl)
                    | (go_at_call 64; refine (hcv _ hf11).mono ?_; rintro e W12 ⟨rfl, hK12⟩))
                  go_ret2
                  exact ⟨rfl, hK12⟩
          · have hdec : (!decide (isObj c.ty c.bits = true ∧ 1 ≤ c.count ∧ c.count ≤ 8)) = true := by rw [decide_eq_false hgood]; rfl
            rw [hdec]
            clear hdec
            have ha : ans = some (7, V.ker) := by
              rw [← HA.out]
              unfold retypeK
              rw [hfi]
              dsimp only
              rw [hk]
              dsimp only
              rw [if_neg hgood]
            subst ha
            clear HA hgood
            go_wp2
            go_ret2
            exact ⟨rfl, KOut.same h.ker hF5⟩
      · have ha : ans = some (3, V.ker) := by rw [← HA.out]; exact retype_three hfi hk
        subst ha
        clear HA hk
        go_wp2
        go_ret2
        exact ⟨rfl, KOut.same h.ker hF4⟩
end Go.Proofs.YtdpjgflemddekaaGreatDoor
/- The code: methods. -/
namespace Go.Proofs.YtdpjgflemddekaaGreatDoor
open Go.RowKit Go.Shelf

/-- What methods gives: the ways of the kinds. -/
def methV : Value := .agg #[.nilFunc, .func (.func 34) #[] #[], .func (.func 35) #[] #[], .func (.func 36) #[] #[], .func (.func 37) #[] #[], .func (.func 38) #[] #[],
  .func (.func 39) #[] #[], .func (.func 40) #[] #[], .func (.func 41) #[] #[], .func (.func 42) #[] #[], .func (.func 43) #[] #[], .func (.func 44) #[] #[]]

set_option maxRecDepth 100000 in
set_option maxHeartbeats 1000000 in
theorem methods_any (w : World) : Calls Tryz.prog 22 #[] w fun e w' => e = .returned methV ∧ Fr w w' (fun _ => False) := by
  go_enter Tryz.func22, Tryz.ntmps22
  go_wp2
  refine bodyPost_ret (v := methV) (by simp [results, Tryz.results22, go_sem, methV]) rfl ⟨rfl, (Fr.refl _ _).alloc _⟩
end Go.Proofs.YtdpjgflemddekaaGreatDoor
/- The code: Do, where it is refused ahead of all else. -/
namespace Go.Proofs.YtdpjgflemddekaaGreatDoor
open Go.RowKit Go.Shelf

def doArgs (kb : Nat) (th : Int) (c : Cl) (av tv bv : Value) : Array Value :=
  #[.pointer (some ⟨kb, 0, none⟩), .int .i64 th, .agg (c.cells av tv), bv]

theorem fr_do (w : World) (c : Cl) (av tv : Value) : Fr w (((w.alloc (.cells #[.int .i64 c.kind, av, tv, .int .i64 c.ty, .int .i64 c.bits, .int .i64 c.count, .int .i64 c.rights, .int .i64 c.badge, .int .i64 c.value, .int .i64 c.offset] 41)).alloc (.cells #[.int .i64 0] 3)).alloc (.cells #[.int .i64 0] 36)) (fun _ => False) :=
  (((Fr.refl _ _).alloc _).alloc _).alloc _

theorem do_lt {kb n : Nat} (h : kb < n) : kb < n + 1 ∧ kb < n + 1 + 1 := by omega

set_option maxRecDepth 100000 in
set_option maxHeartbeats 1000000 in
/-- No such thread. -/
theorem do_none (V : KerV) (kb : Nat) (c : Cl) (av tv bv : Value) (th : Int) (w : World) (h : KerAt w kb V) (ht : V.ker.thr th = none) :
    Calls Tryz.prog 11 (doArgs kb th c av tv bv) w fun e w' => e = .returned (.tuple #[.int .i64 0, .int .i64 1]) ∧ Fr w w' (fun _ => False) := by
  have hf0 := fr_do w c av tv
  have hrun := look_thr (h.frame hf0 (fun _ _ => id)) th
  have cr := h.cr
  have hlt := World.block_lt_of_cell? _ _ cr
  obtain ⟨hlt1, hlt2⟩ := do_lt hlt
  rw [ht] at hrun
  dsimp only [Option.isSome] at hrun
  unfold doArgs Cl.cells
  go_enter Tryz.func11, Tryz.ntmps11
  go_wp2
  refine bodyPost_ret (v := .tuple #[.int .i64 0, .int .i64 1]) (by simp [results, Tryz.results11, go_sem]) rfl ⟨rfl, ?_⟩
  exact ((((Fr.refl _ _).alloc _).alloc _).alloc _).alloc _

set_option maxRecDepth 100000 in
set_option maxHeartbeats 1000000 in
/-- A thread that is not ready. -/
theorem do_still (V : KerV) (kb : Nat) (c : Cl) (av tv bv : Value) (th : Int) (w : World) (h : KerAt w kb V) {t : Thd} (ht : V.ker.thr th = some t) (hs : t.state ≠ 1) :
    Calls Tryz.prog 11 (doArgs kb th c av tv bv) w fun e w' => e = .returned (.tuple #[.int .i64 0, .int .i64 1]) ∧ Fr w w' (fun _ => False) := by
  have hf0 := fr_do w c av tv
  have hrun := look_thr (h.frame hf0 (fun _ _ => id)) th
  have cr := h.cr
  have hlt := World.block_lt_of_cell? _ _ cr
  obtain ⟨hlt1, hlt2⟩ := do_lt hlt
  rw [ht] at hrun
  dsimp only [Option.isSome] at hrun
  have hs1 : decide (t.state = 1) = false := decide_eq_false hs
  unfold doArgs Cl.cells
  go_enter Tryz.func11, Tryz.ntmps11
  go_wp2
  refine bodyPost_ret (v := .tuple #[.int .i64 0, .int .i64 1]) (by simp [results, Tryz.results11, go_sem]) rfl ⟨rfl, ?_⟩
  exact ((((Fr.refl _ _).alloc _).alloc _).alloc _).alloc _

set_option maxRecDepth 100000 in
set_option maxHeartbeats 1000000 in
/-- No such kind. -/
theorem do_low (V : KerV) (kb : Nat) (c : Cl) (av tv bv : Value) (th : Int) (w : World) (h : KerAt w kb V) {t : Thd} (ht : V.ker.thr th = some t) (hs : t.state = 1) (hk : c.kind < 1) :
    Calls Tryz.prog 11 (doArgs kb th c av tv bv) w fun e w' => e = .returned (.tuple #[.int .i64 0, .int .i64 7]) ∧ Fr w w' (fun _ => False) := by
  have hf0 := fr_do w c av tv
  have hrun := look_thr (h.frame hf0 (fun _ _ => id)) th
  have cr := h.cr
  have hlt := World.block_lt_of_cell? _ _ cr
  obtain ⟨hlt1, hlt2⟩ := do_lt hlt
  rw [ht] at hrun
  dsimp only [Option.isSome] at hrun
  have hk1 : decide (c.kind < 1) = true := decide_eq_true hk
  unfold doArgs Cl.cells
  go_enter Tryz.func11, Tryz.ntmps11
  go_wp2
  refine bodyPost_ret (v := .tuple #[.int .i64 0, .int .i64 7]) (by simp [results, Tryz.results11, go_sem]) rfl ⟨rfl, ?_⟩
  exact ((((Fr.refl _ _).alloc _).alloc _).alloc _).alloc _

set_option maxRecDepth 100000 in
set_option maxHeartbeats 1000000 in
/-- No such kind. -/
theorem do_high (V : KerV) (kb : Nat) (c : Cl) (av tv bv : Value) (th : Int) (w : World) (h : KerAt w kb V) {t : Thd} (ht : V.ker.thr th = some t) (hs : t.state = 1) (hk : 12 ≤ c.kind) :
    Calls Tryz.prog 11 (doArgs kb th c av tv bv) w fun e w' => e = .returned (.tuple #[.int .i64 0, .int .i64 7]) ∧ Fr w w' (fun _ => False) := by
  have hf0 := fr_do w c av tv
  have hrun := look_thr (h.frame hf0 (fun _ _ => id)) th
  have cr := h.cr
  have hlt := World.block_lt_of_cell? _ _ cr
  obtain ⟨hlt1, hlt2⟩ := do_lt hlt
  rw [ht] at hrun
  dsimp only [Option.isSome] at hrun
  have hk1 : decide (c.kind < 1) = false := decide_eq_false (by omega)
  have hk2 : decide (12 ≤ c.kind) = true := decide_eq_true hk
  unfold doArgs Cl.cells
  go_enter Tryz.func11, Tryz.ntmps11
  go_wp2
  refine bodyPost_ret (v := .tuple #[.int .i64 0, .int .i64 7]) (by simp [results, Tryz.results11, go_sem]) rfl ⟨rfl, ?_⟩
  exact ((((Fr.refl _ _).alloc _).alloc _).alloc _).alloc _
end Go.Proofs.YtdpjgflemddekaaGreatDoor

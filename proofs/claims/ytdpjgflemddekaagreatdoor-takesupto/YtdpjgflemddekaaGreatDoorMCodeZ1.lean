/- The code: the walk of the tree (inOrder). -/
import Derived.Test.YtdpjgflemddekaaGreatDoorMCodeK
import Derived.RangeFuncNested
import Derived.RangeFuncBound
import Derived.RangeFuncCalls
import Derived.RangeFuncLeaves
import Derived.RangeFuncBox
import Derived.Shelf.Abstract
import Derived.Shelf.RegionOpen
import Derived.WalkKit
import Derived.OwnWalkIn
import Derived.TacticsInMore
import Derived.LoopNIn
import Derived.LoopIn
namespace Go.Proofs.YtdpjgflemddekaaGreatDoor
open Go.RowKit Go.Shelf
attribute [local go_sem] Oper.semAt_some
theorem room_of_none {F : Fence} (hd : F.depth = none) (k : Nat) : F.room k := fun d h => by rw [hd] at h; cases h
theorem RoundIn.anyDepth {F : Fence} (hd : F.depth = none) {m m' : Nat} {P : Program} {l : Nat} {f : FuncId} {tmps : Array Value} {assign body : Code} {w : World} {R : Ending -> World -> Prop}
    (h : RoundIn F m P l f tmps assign body w R) : RoundIn F m' P l f tmps assign body w R := ⟨h.1, fun c cs _ => h.2 c cs (room_of_none hd _)⟩
theorem YieldAt.anyDepth {F : Fence} (hd : F.depth = none) {m : Nat} (m' : Nat) {P : Program} {l : Nat} {args : Array Value} {W : World} {R : Ending -> World -> Prop} (h : YieldAt F m P l args W R) : YieldAt F m' P l args W R := by
  obtain ⟨fn, tmps, assign, body, hy, hR⟩ := h
  exact ⟨fn, tmps, assign, body, hy, RoundIn.anyDepth hd hR⟩
def KeepS (n₀ : Nat) (W W' : World) : Prop := Below n₀ W W' /\ ∀ (k : Nat) (c : Array Value), W.heap[k]? = some (Obj.cells c 71 (0, 0)) -> W'.heap[k]? = some (Obj.cells c 71 (0, 0))
theorem KeepS.trans {n₀ : Nat} {A B C : World} (h : KeepS n₀ A B) (h2 : KeepS n₀ B C) : KeepS n₀ A C := ⟨h.1.trans h2.1, fun k c hk => h2.2 k c (h.2 k c hk)⟩
theorem KeepS.of_fr {n₀ : Nat} {W W' : World} {S : Nat -> Prop} (h : Fr W W' S) (hs : ∀ k, S k -> n₀ <= k /\ ∀ c : Array Value, W.heap[k]? ≠ some (Obj.cells c 71 (0, 0))) (hn : n₀ <= W.heap.size) : KeepS n₀ W W' :=
  ⟨⟨h.os, h.tape, h.output, h.size, fun k hk => h.block k (by omega) (fun e => by have := (hs k e).1; omega)⟩, fun k c hk => h.same hk (fun e => (hs k e).2 c hk)⟩
theorem KeepS.alloc {n₀ : Nat} (W : World) (o : Obj) (hn : n₀ <= W.heap.size) : KeepS n₀ W (W.alloc o) := KeepS.of_fr ((Fr.refl W (fun _ => False)).alloc o) (fun _ h => h.elim) hn
theorem KeepS.putObj {n₀ : Nat} {w : World} (hn : n₀ <= w.heap.size) (W : World) (l : Nat) (o o' : Obj) (hl : w.heap.size <= l) (ho : W.heap[l]? = some o) (hc : o.isCells = false) (hw : o.isWalk = false) : KeepS n₀ W (W.putObj l o') := by
  refine ⟨belowK_b hn W l o o' hl ho hc hw, fun k c hk => ?_⟩
  have : k ≠ l := fun e => by subst e; rw [hk] at ho; cases ho; cases hc
  rw [World.putObj_heap_other this]; exact hk
theorem KeepS.fr {n₀ : Nat} {W W' : World} (h : KeepS n₀ W W') : Fr W W' (fun k => n₀ <= k) := ⟨h.1.os, h.1.tape, h.1.output, h.1.size, fun k _ hk => h.1.block k (by omega)⟩
theorem In_look {M : List (Slot × RStd)} {s p : Slot} {kids next : Fo} (h : (Fo.node s kids next).In (stOf M) p) : (∃ r, look s M = some r /\ r.kids = kids.roots) /\ kids.In (stOf M) s /\ next.In (stOf M) p := by
  obtain ⟨⟨x, h1, h2, h3⟩, h4, h5⟩ := h
  refine ⟨?_, h4, h5⟩
  unfold stOf at h1
  cases hl : look s M with
  | none => rw [hl] at h1; cases h1
  | some r => rw [hl] at h1; cases h1; exact ⟨r, rfl, h3⟩
structure WalkInv (J : List Slot -> World -> Prop) (n₀ : Nat) (M : List (Slot × RStd)) (p : Slot) (x : RStd) (G : Fo) (pre : List Slot) (W0 : World) (k : Nat) (wr : World) (done : List Slot) (G' : Fo) : Prop where
  slots : G.slots = done ++ G'.slots
  roots : x.kids.drop k = G'.roots
  le : k <= x.kids.length
  inn : G'.In (stOf M) p
  j : J (pre ++ done) wr
  keep : KeepS n₀ W0 wr
set_option maxRecDepth 100000 in
set_option maxHeartbeats 2000000 in
theorem walk_in (Fc : Fence) (hd : Fc.depth = none) (h46 : Fc.fn 46) (hro : Fc.round = none) (l n₀ N b : Nat) (M : List (Slot × RStd)) (P : Slot -> Prop) (J Jx : List Slot -> World -> Prop)
    (hJa : ∀ s W o, J s W -> J s (W.alloc o))
    (hY : ∀ m pre s W, P s -> J pre W -> pre.length < N -> YieldAt Fc m Tryz.prog l #[.agg #[.int .i64 s.node, .int .i64 s.index]] W fun e W' => (e = .returned (.bool true) /\ J (pre ++ [s]) W' /\ KeepS n₀ W W') \/ (e = .returned (.bool false) /\ Jx (pre ++ [s]) W')) :
    ∀ (sz : Nat) (G : Fo), G.slots.length <= sz -> ∀ (n : Nat) (p : Slot) (x : RStd) (pre : List Slot) (W : World), TreeAt W b M -> (∀ k, treeFp b M k -> k < n₀) -> n₀ <= W.heap.size -> G.In (stOf M) p -> look p M = some x -> x.kids = G.roots ->
      (∀ s ∈ G.slots, P s) -> J pre W -> pre.length + G.slots.length <= N ->
      CallsIn Fc n Tryz.prog 46 #[.map (some b), .agg #[.int .i64 p.node, .int .i64 p.index], .func (.yield l) #[] #[]] W fun e W' =>
        (e = .returned (.bool true) /\ J (pre ++ G.slots) W' /\ KeepS n₀ W W') \/ (e = .returned (.bool false) /\ ∃ q, q <+: G.slots /\ Jx (pre ++ q) W') := by
  intro sz
  induction sz using Nat.strongRecOn with
  | _ sz ih =>
    intro G hG n p x pre W hT hfp hn0 hIn hx hkids hP hJ hN
    have hdd : ∀ k : Nat, (Fc.depth.isSome = true -> 1 <= k) := fun k h => by rw [hd] at h; cases h
    have hfk := field_kids
    obtain ⟨A, cap, hsv⟩ := owns_slice (hT.own p x hx)
    have hlen := hT.len p x hx
    have hT0 := hT.frame ((Fr.refl W (fun _ => False)).alloc (.cells #[.int .i64 p.node, .int .i64 p.index] 71)) (fun _ _ => id)
    have hrun := hT0.map.look_run slotKey Tryz.underlying61 (zeroStand _) p false
    rw [hx] at hrun
    simp only [orZero, RStd.val, hsv, Slot.val, Bool.false_eq_true, if_false] at hrun
    have hK0 := KeepS.alloc W (.cells #[.int .i64 p.node, .int .i64 p.index] 71) hn0
    have hJ0 := hJa pre W (.cells #[.int .i64 p.node, .int .i64 p.index] 71) hJ
    refine callsIn_of_wp Tryz.func46 rfl h46 ?_ hro
    simp only [Tryz.ntmps46, List.size_toArray, List.length_cons, List.length_nil, Nat.reduceAdd, Nat.reduceSub, Array.replicate_succ, Array.replicate_zero, List.push_toArray, List.append_toArray, List.nil_append, List.cons_append]
    have HK : Hid (x.kids = G.roots) := hkids
    clear hkids
    gi_wp2
    gi_loopw [14] (fun i wr => ∃ (k : Nat) (done : List Slot) (G' : Fo), i = .int .i64 k /\ WalkInv J n₀ M p x G pre W k wr done G') (fun i _ => x.kids.length - (intOf i).toNat)
    case atStart => exact ⟨0, [], G, rfl, rfl, HK.out, Nat.zero_le _, hIn, by simpa using hJ0, hK0⟩
    case round =>
      obtain ⟨k, done, G', rfl, hI⟩ := hrel
      obtain ⟨hs, hr, hle, hIn', hJ', hK'⟩ := hI
      cases G' with
      | nil =>
        have hkl : ¬ k < x.kids.length := by
          have := congrArg List.length hr
          simp only [List.length_drop, Fo.roots, List.length_nil] at this
          omega
        have hall : done = G.slots := by rw [hs]; simp [Fo.slots]
        gi_wp2
        go_ret
        exact .inl ⟨rfl, by rw [<- hall]; exact hJ', hK'⟩
      | node s kids next =>
        have hkl : k < x.kids.length := by
          have := congrArg List.length hr
          simp only [List.length_drop, Fo.roots, List.length_cons] at this
          omega
        have hks : x.kids[k] = s := by
          rw [List.drop_eq_getElem_cons hkl] at hr
          exact (List.cons.inj hr).1
        have hnx : x.kids.drop (k + 1) = next.roots := by
          rw [List.drop_eq_getElem_cons hkl] at hr
          exact (List.cons.inj hr).2
        have hTr : TreeAt wr b M := hT.frame hK'.fr (fun k hk h => by have := hfp k hk; omega)
        have hlies := lies_of_owns (f := Slot.vals) Slot.vals_len (hTr.own p x hx)
        rw [hsv] at hlies
        obtain ⟨A', cap', hv', hA'⟩ := hlies
        cases hv'
        obtain ⟨g, rfl, hc⟩ := hA' (by omega)
        have c0 : wr.cell? ⟨g, k * 2, none⟩ = some (.int .i64 s.node) := by rw [<- hks]; exact hc k hkl 0 _ rfl
        have c1 : wr.cell? ⟨g, k * 2 + 1, none⟩ = some (.int .i64 s.index) := by rw [<- hks]; exact hc k hkl 1 _ rfl
        have hglt := World.block_lt_of_cell? _ _ c0
        obtain ⟨⟨r, hr1, hr2⟩, hIk, hInx⟩ := In_look hIn'
        have hsl : G.slots.length = done.length + (kids.slots.length + next.slots.length + 1) := by rw [hs]; simp [Fo.slots]
        have hsz0 : W.heap.size <= wr.heap.size := hK'.1.size
        have hPs : ∀ s' ∈ (Fo.node s kids next).slots, P s' := fun s' h' => hP s' (by rw [hs]; exact List.mem_append.2 (.inr h'))
        have hy1 : YieldAt Fc (n - 1) Tryz.prog l #[.agg #[.int .i64 s.node, .int .i64 s.index]] (wr.alloc (.cells #[.int .i64 s.node, .int .i64 s.index] 71)) fun e W3 =>
            (e = .returned (.bool true) /\ J (pre ++ done ++ [s]) W3 /\ KeepS n₀ wr W3 /\ W3.cell? ⟨wr.heap.size, 0, none⟩ = some (.int .i64 s.node) /\ W3.cell? ⟨wr.heap.size, 1, none⟩ = some (.int .i64 s.index) /\ TreeAt W3 b M /\ n₀ <= W3.heap.size) \/ (e = .returned (.bool false) /\ Jx (pre ++ done ++ [s]) W3) := by
          refine YieldAt.mono (hY (n - 1) (pre ++ done) s _ (hPs s (by simp [Fo.slots])) (hJa _ _ _ hJ') (by simp; omega)) fun e W3 h => h.elim (fun ⟨he, hj, hk3⟩ => .inl ⟨he, hj, ?_⟩) .inr
          have hb3 := hk3.2 _ _ (heap_alloc_new wr (.cells #[.int .i64 s.node, .int .i64 s.index] 71))
          have hk4 := (KeepS.alloc wr (.cells #[.int .i64 s.node, .int .i64 s.index] 71) (by omega)).trans hk3
          exact ⟨hk4, cell_of_blk (o := 0) hb3 rfl, cell_of_blk (o := 1) hb3 rfl, hTr.frame hk4.fr (fun k hk h => by have := hfp k hk; omega), by have := hk4.1.size; omega⟩
        obtain ⟨fn, tmps, assign, body, hy, hR⟩ := hy1
        have ihk := fun W3 hJ3 hT3 hn3 => ih kids.slots.length (by omega) kids (Nat.le_refl _) (n - 1) s r (pre ++ done ++ [s]) W3 hT3 hfp hn3 hIk hr1 hr2 (fun s' h' => hPs s' (by simp [Fo.slots, h'])) hJ3 (by simp; omega)
        clear ih hY hJa hT hT0 hrun hTr hA' hc hJ0 hK0
        gi_wp2_with (first
          | ((try refine ⟨hdd _, ?_⟩); refine hR.mono ?_; clear hR; rintro e W3 (⟨rfl, hJ3, hk3, e0, e1, hT3, hn3⟩ | ⟨rfl, hx3⟩))
          | ((try refine ⟨hdd _, ?_⟩); gi_at_call 46; refine (ihk _ hJ3 hT3 hn3).mono ?_; clear ihk; rintro e W4 (⟨rfl, hJ4, hk4⟩ | ⟨rfl, q, hq, hx4⟩)))
        . refine ⟨⟨k + 1, done ++ s :: kids.slots, next, by go_num, ?_, hnx, by omega, hInx, ?_, (hK'.trans hk3).trans hk4⟩, ?_⟩
          . rw [hs]; simp [Fo.slots]
          . simpa [List.append_assoc] using hJ4
          . simp [intOf]; omega
        . go_ret
          obtain ⟨r', hr'⟩ := hq
          exact .inr ⟨rfl, done ++ s :: q, ⟨r' ++ next.slots, by rw [hs]; simp [Fo.slots, <- hr']⟩, by simpa [List.append_assoc] using hx4⟩
        . go_ret
          exact .inr ⟨rfl, done ++ [s], ⟨kids.slots ++ next.slots, by rw [hs]; simp [Fo.slots]⟩, by simpa [List.append_assoc] using hx3⟩
set_option maxRecDepth 100000 in
set_option maxHeartbeats 1000000 in
theorem inOrder1_in (Fc : Fence) (hd : Fc.depth = none) (n : Nat) (h45 : Fc.fn 45) (h46 : Fc.fn 46) (hro : Fc.round = none) (l n₀ b Bt : Nat) (M : List (Slot × RStd)) (P : Slot -> Prop) (J Jx : List Slot -> World -> Prop) (G : Fo) (x : RStd) (W : World)
    (hJa : ∀ s W o, J s W -> J s (W.alloc o))
    (hY : ∀ m pre s W, P s -> J pre W -> pre.length < G.slots.length -> YieldAt Fc m Tryz.prog l #[.agg #[.int .i64 s.node, .int .i64 s.index]] W fun e W' => (e = .returned (.bool true) /\ J (pre ++ [s]) W' /\ KeepS n₀ W W') \/ (e = .returned (.bool false) /\ Jx (pre ++ [s]) W'))
    (hT : TreeAt W b M) (hfp : ∀ k, treeFp b M k -> k < n₀) (hn0 : n₀ <= W.heap.size) (hIn : G.In (stOf M) nowhere) (hx : look nowhere M = some x) (hkids : x.kids = G.roots) (hP : ∀ s ∈ G.slots, P s) (h0 : J [] W)
    (hb : W.cell? ⟨Bt, 0, none⟩ = some (.map (some b))) (hg0 : W.cell? ⟨0, 0, none⟩ = some (.int .i64 (-1))) (hg1 : W.cell? ⟨0, 1, none⟩ = some (.int .i64 (-1))) :
    CallsIn Fc n Tryz.prog 45 #[.func (.yield l) #[] #[], .pointer (some ⟨Bt, 0, none⟩)] W fun e W' => (∃ v, e = .returned v) /\ (J G.slots W' \/ ∃ q, Jx q W') := by
  have hdd : ∀ k : Nat, (Fc.depth.isSome = true -> 1 <= k) := fun k h => by rw [hd] at h; cases h
  have hp := walk_in Fc hd h46 hro l n₀ G.slots.length b M P J Jx hJa hY _ G (Nat.le_refl _) (n - 1) nowhere x [] W hT hfp hn0 hIn hx hkids hP h0 (by simp)
  simp only [nowhere] at hp
  refine callsIn_of_wp Tryz.func45 rfl h45 ?_ hro
  simp only [Tryz.ntmps45, List.size_toArray, List.length_cons, List.length_nil, Nat.reduceAdd, Nat.reduceSub, Array.replicate_succ, Array.replicate_zero, List.push_toArray, List.append_toArray, List.nil_append, List.cons_append]
  gi_wp2_with ((try refine ⟨hdd _, ?_⟩); gi_at_call 46; refine hp.mono ?_; clear hp; rintro e W1 (⟨rfl, hJ1, _⟩ | ⟨rfl, q, hq, hx⟩))
  . go_end0
    exact ⟨⟨_, rfl⟩, .inl (by simpa using hJ1)⟩
  . go_end0
    exact ⟨⟨_, rfl⟩, .inr ⟨_, hx⟩⟩
set_option maxHeartbeats 1000000 in
theorem inOrder_in (Fc : Fence) (n : Nat) (h23 : Fc.fn 23) (hro : Fc.round = none) (b : Nat) (w : World) :
    CallsIn Fc n Tryz.prog 23 #[.map (some b)] w fun e w' => e = .returned (.func (.func 45) #[] #[.pointer (some ⟨w.heap.size, 0, none⟩)]) /\ w' = w.alloc (.cells #[.map (some b)] 61) := by
  refine callsIn_of_wp Tryz.func23 rfl h23 ?_ hro
  simp only [Tryz.ntmps23, List.size_toArray, List.length_cons, List.length_nil, Nat.reduceAdd, Nat.reduceSub, Array.replicate_succ, Array.replicate_zero, List.push_toArray, List.append_toArray, List.nil_append, List.cons_append]
  gi_wp2
  go_ret
  exact ⟨rfl, rfl⟩
theorem inOrder_stops (Fc : Fence) (hd : Fc.depth = none) (n : Nat) (h45 : Fc.fn 45) (h46 : Fc.fn 46) (hro : Fc.round = none) (n₀ b Bt : Nat) (M : List (Slot × RStd)) (P : Slot -> Prop) (G : Fo) (x : RStd) (w : World)
    (hT : TreeAt w b M) (hfp : ∀ k, treeFp b M k -> k < n₀) (hn0 : n₀ <= w.heap.size) (hIn : G.In (stOf M) nowhere) (hx : look nowhere M = some x) (hkids : x.kids = G.roots) (hP : ∀ s ∈ G.slots, P s)
    (hb : w.cell? ⟨Bt, 0, none⟩ = some (.map (some b))) (hg0 : w.cell? ⟨0, 0, none⟩ = some (.int .i64 (-1))) (hg1 : w.cell? ⟨0, 1, none⟩ = some (.int .i64 (-1))) :
    SeqStopsK Fc n Tryz.prog 45 #[.pointer (some ⟨Bt, 0, none⟩)] (fun x : { s : Slot // P s } => #[.agg #[.int .i64 x.1.node, .int .i64 x.1.index]]) (KeepS n₀) (fun ys => ys.map Subtype.val = G.slots) (fun _ => True) G.slots.length w := by
  intro l J Jx W hW hJ hJx hY h0
  have hfr : Fr w W (fun _ => False) := ⟨hW.os, hW.tape, hW.output, hW.size, fun k hk _ => hW.block k hk⟩
  refine (inOrder1_in Fc hd n h45 h46 hro l n₀ b Bt M P (fun pre W => ∃ L : List { s : Slot // P s }, L.map Subtype.val = pre /\ J L W) (fun pre W => ∃ L : List { s : Slot // P s }, L.map Subtype.val = pre /\ Jx L W) G x W ?_ ?_
    (hT.frame hfr (fun _ _ => id)) hfp (Nat.le_trans hn0 hW.size) hIn hx hkids hP ⟨[], rfl, h0⟩ (hfr.cell hb id) (hfr.cell hg0 id) (hfr.cell hg1 id)).mono ?_
  . rintro s W1 o ⟨L, h1, h2⟩
    exact ⟨L, h1, hJ L W1 _ none h2 (World.grownBy_alloc W1 o none) (fun r e => by cases e)⟩
  . rintro m pre s W1 hs ⟨L, rfl, h2⟩ hlt
    refine YieldAt.mono (YieldAt.anyDepth hd m (hY L ⟨s, hs⟩ W1 h2 (by simpa using hlt))) ?_
    rintro e W2 (⟨he, hj, hk⟩ | ⟨he, hj⟩)
    . exact .inl ⟨he, ⟨L ++ [⟨s, hs⟩], by simp, hj⟩, hk⟩
    . exact .inr ⟨he, ⟨L ++ [⟨s, hs⟩], by simp, hj⟩⟩
  . rintro e W2 ⟨he, ⟨L, h1, h2⟩ | ⟨q, L, h1, h2⟩⟩
    . exact ⟨he, .inl ⟨L, h1, h2⟩⟩
    . exact ⟨he, .inr ⟨L, trivial, h2⟩⟩
end Go.Proofs.YtdpjgflemddekaaGreatDoor

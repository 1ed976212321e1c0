/- The document's kernel with what is doomed, and the bits: in memory; a poll. -/
import Derived.Test.YtdpjgflemddekaaGreatDoorMRefC
import Derived.Test.YtdpjgflemddekaaGreatDoorMTakB
import Derived.Laws.AppendOwnNone
namespace Go.Proofs.YtdpjgflemddekaaGreatDoor
open Go.RowKit
theorem Fr.s1 (w : World) (b o : Nat) (v : Value) : Fr w (w.setCell ⟨b, o, none⟩ v) (fun k => k = b) := Fr.setCell (S := fun k => k = b) (Fr.refl _ _) (.inl rfl) _ _
def domV (d : Int × Int) : List Value := [.int .i64 d.1, .int .i64 d.2]
theorem domV_len (d : Int × Int) : (domV d).length = 2 := rfl
theorem domV_one (d : Int × Int) : ∀ u ∈ domV d, u.oneCell' = true := by intro u hu; simp [domV] at hu; rcases hu with rfl | rfl <;> rfl
def BoolsAt (w : World) (v : Value) (l : List Bool) : Prop :=
  ∃ A cap, v = .slice A l.length cap /\ l.length <= cap /\ (0 < l.length -> ∃ g o, A = some ⟨g, o, none⟩ /\ ∀ i (hi : i < l.length), w.cell? ⟨g, o + i, none⟩ = some (.bool l[i]))
structure RD (w : World) (kb : Nat) (S : RS) (V : RefV) : Prop where
  ref : RefAt w kb S.R V
  ws : V.ws = S.ws
  d : w.ownsRow 0 116 2 V.dv S.D.length (S.D.flatMap domV)
  dk : ∀ k, V.dv.ownBlock = some k -> ¬ V.fp kb k
  q : V.qv = .slice none 0 0
def RefV.fq (kb : Nat) (V : RefV) (k : Nat) : Prop := V.fp kb k \/ V.dv.ownBlock = some k
theorem RD.fqLt {w : World} {kb : Nat} {S : RS} {V : RefV} (h : RD w kb S V) {k : Nat} (hk : V.fq kb k) : k < w.heap.size := by
  rcases hk with hk | hk
  . exact h.ref.fpLt hk
  . exact (h.d.lt k hk).2
theorem RD.frame {w w' : World} {kb : Nat} {S : RS} {V : RefV} {X : Nat -> Prop} (h : RD w kb S V) (hf : Fr w w' X) (hs : ∀ k, V.fq kb k -> ¬ X k) : RD w' kb S V :=
  ⟨h.ref.frame hf (fun k hk => hs k (.inl hk)), h.ws, hf.owns h.d (fun k hk => hs k (.inr hk)), h.dk, h.q⟩
structure ROut (w : World) (kb : Nat) (V : RefV) (S' : RS) (V' : RefV) (w' : World) : Prop where
  rd : RD w' kb S' V'
  fr : Fr w w' (V.fq kb)
  new : ∀ k, V'.fq kb k -> V.fq kb k \/ w.heap.size <= k
theorem ROut.trans {w w1 w2 : World} {kb : Nat} {V V1 V2 : RefV} {S1 S2 : RS} (h : ROut w kb V S1 V1 w1) (h2 : ROut w1 kb V1 S2 V2 w2) : ROut w kb V S2 V2 w2 :=
  ⟨h2.rd, h.fr.step h2.fr h.new, fun k hk => by
    rcases h2.new k hk with h3 | h3
    . exact h.new k h3
    . exact .inr (Nat.le_trans h.fr.size h3)⟩
theorem RefAt.cb {w : World} {kb : Nat} {R : Ref} {V : RefV} (h : RefAt w kb R V) : w.cell? ⟨kb, 1029, none⟩ = some V.bv := by
  obtain ⟨c, hc, hcc⟩ := h.blk; exact cell_of_blk hc hcc.b
theorem RefAt.cs {w : World} {kb : Nat} {R : Ref} {V : RefV} (h : RefAt w kb R V) : w.cell? ⟨kb, 1030, none⟩ = some V.sv := by
  obtain ⟨c, hc, hcc⟩ := h.blk; exact cell_of_blk hc hcc.s
theorem RefAt.cd {w : World} {kb : Nat} {R : Ref} {V : RefV} (h : RefAt w kb R V) : w.cell? ⟨kb, 1028, none⟩ = some V.dv := by
  obtain ⟨c, hc, hcc⟩ := h.blk; exact cell_of_blk hc hcc.d
theorem RefAt.cq {w : World} {kb : Nat} {R : Ref} {V : RefV} (h : RefAt w kb R V) : w.cell? ⟨kb, 1027, none⟩ = some V.qv := by
  obtain ⟨c, hc, hcc⟩ := h.blk; exact cell_of_blk hc hcc.q
theorem RefAt.cw {w : World} {kb : Nat} {R : Ref} {V : RefV} (h : RefAt w kb R V) {i : Nat} (hi : i < 1024) : w.cell? ⟨kb, i + 1, none⟩ = some (.int .i64 (V.ws i)) := by
  obtain ⟨c, hc, hcc⟩ := h.blk; exact cell_of_blk hc (hcc.w i hi)
theorem RefAt.setSB {w : World} {kb : Nat} {R : Ref} {V : RefV} (h : RefAt w kb R V) (bv sv : Value) :
    RefAt ((w.setCell ⟨kb, 1030, none⟩ sv).setCell ⟨kb, 1029, none⟩ bv) kb R { V with bv := bv, sv := sv } := by
  have hf : Fr w ((w.setCell ⟨kb, 1030, none⟩ sv).setCell ⟨kb, 1029, none⟩ bv) (fun k => k = kb) :=
    Fr.setCell (S := fun k => k = kb) (Fr.setCell (S := fun k => k = kb) (Fr.refl _ _) (.inl rfl) _ _) (.inl rfl) _ _
  obtain ⟨c, hc, hcc⟩ := h.blk
  refine ⟨⟨_, setCell_at _ kb 1029 bv (setCell_at w kb 1030 sv hc), ?_⟩, hf.owns h.l (fun k hk e => h.kl (e ▸ hk)), hf.owns h.n (fun k hk e => h.kn (e ▸ hk)), hf.owns h.t (fun k hk e => h.kt (e ▸ hk)), h.kl, h.kn, h.kt, h.ln, h.lt, h.nt⟩
  obtain ⟨c0, c1, c2, c3, c4, c5, c6, c7, c8⟩ := hcc
  refine ⟨by simpa using c0, ?_, ?_, ?_, ?_, ?_, ?_, by simp [c0], ?_⟩
  . rw [Array.getElem?_setIfInBounds_ne (by omega), Array.getElem?_setIfInBounds_ne (by omega)]; exact c1
  . intro i hi; rw [Array.getElem?_setIfInBounds_ne (by omega), Array.getElem?_setIfInBounds_ne (by omega)]; exact c2 i hi
  . rw [Array.getElem?_setIfInBounds_ne (by omega), Array.getElem?_setIfInBounds_ne (by omega)]; exact c3
  . rw [Array.getElem?_setIfInBounds_ne (by omega), Array.getElem?_setIfInBounds_ne (by omega)]; exact c4
  . rw [Array.getElem?_setIfInBounds_ne (by omega), Array.getElem?_setIfInBounds_ne (by omega)]; exact c5
  . rw [Array.getElem?_setIfInBounds_ne (by omega), Array.getElem?_setIfInBounds_ne (by omega)]; exact c6
  . rw [Array.getElem?_setIfInBounds_ne (by omega)]; simp [c0]
structure Bits (w : World) (kb : Nat) (V : RefV) (bs : List Bool) : Prop where
  at_ : BoolsAt w V.bv bs
  s : V.sv = .bool false
  out : ∀ g, V.bv.ownBlock = some g -> 0 < bs.length -> ¬ V.fq kb g /\ g < w.heap.size
theorem bools_tail {w : World} {g o kb cap : Nat} {b : Bool} {r : List Bool} {x y : Value} {A : Option Addr} {c' : Nat} (hg : g ≠ kb) (hc : ∀ i (hi : i < (b :: r).length), w.cell? ⟨g, o + i, none⟩ = some (.bool (b :: r)[i])) (hcap : r.length + 1 <= cap)
    (h : cap = 1 \/ (A = some ⟨g, o + 1, none⟩ /\ c' = cap - 1)) : BoolsAt ((w.setCell ⟨kb, 1030, none⟩ x).setCell ⟨kb, 1029, none⟩ y) (.slice A r.length c') r := by
  rcases h with rfl | ⟨rfl, rfl⟩
  . refine ⟨A, c', rfl, by omega, fun h => by omega⟩
  . refine ⟨_, _, rfl, by omega, fun _ => ⟨g, o + 1, rfl, fun i hi => ?_⟩⟩
    have := hc (i + 1) (by simpa using hi)
    have hf : Fr w ((w.setCell ⟨kb, 1030, none⟩ x).setCell ⟨kb, 1029, none⟩ y) (fun k => k = kb) := Fr.setCell (S := fun k => k = kb) (Fr.setCell (S := fun k => k = kb) (Fr.refl _ _) (.inl rfl) _ _) (.inl rfl) _ _
    have h2 := hf.cell this hg
    simp only [List.getElem_cons_succ] at h2
    rw [show o + 1 + i = o + (i + 1) by omega]
    exact h2
set_option maxRecDepth 100000 in
set_option maxHeartbeats 1000000 in
theorem poll_any (S : RS) (V : RefV) (kb : Nat) (bs : List Bool) (w : World) (h : RD w kb S V) (hb : Bits w kb V bs) :
    Calls Tryz.prog 103 #[.pointer (some ⟨kb, 0, none⟩)] w fun e' w' => e' = .returned (.bool (!(pollL bs).1)) /\
      ∃ bv, BoolsAt w' bv (pollL bs).2 /\ (∀ g, bv.ownBlock = some g -> V.bv.ownBlock = some g) /\ RD w' kb S { V with bv := bv, sv := .bool (pollL bs).1 } /\ Fr w w' (fun k => k = kb) := by
  have h0 := h
  have hcb := h.ref.cb
  have hcs := h.ref.cs
  have hzb := h.ref.fz 1029
  have hzs := h.ref.fz 1030
  obtain ⟨A, cap, hbv, hcap, hA⟩ := hb.at_
  have hsv := hb.s
  rw [hbv] at hcb
  rw [hsv] at hcs
  have hklt : kb < w.heap.size := World.block_lt_of_cell? w _ hcb
  cases bs with
  | nil =>
    go_enter Tryz.func103, Tryz.ntmps103
    go_wp2
    go_ret
    exact ⟨rfl, V.bv, hb.at_, fun _ h => h, by simp only [pollL]; rw [<- hsv]; exact h, Fr.refl _ _⟩
  | cons b r =>
    obtain ⟨g, o, rfl, hc⟩ := hA (by simp)
    have hc0 := hc 0 (by simp)
    simp only [Nat.add_zero, List.getElem_cons_zero] at hc0
    have hgkb : g ≠ kb := fun e => (hb.out g (by rw [hbv]; rfl) (by simp)).1 (.inl (.inl e))
    simp only [List.length_cons] at hcap hcb
    go_enter Tryz.func103, Tryz.ntmps103
    go_wp2
    all_goals
      go_ret
      refine ⟨rfl, _, ?_, ?_, ⟨h0.ref.setSB _ _, h0.ws, ?_, h0.dk, h0.q⟩, Fr.setCell (S := fun k => k = kb) (Fr.setCell (S := fun k => k = kb) (Fr.refl _ _) (.inl rfl) _ _) (.inl rfl) _ _⟩
      . refine bools_tail hgkb hc hcap ?_
        first
        | (left; omega)
        | (right; exact ⟨rfl, rfl⟩)
      . intro g' hg'
        exact hg'
      . exact (Fr.setCell (S := fun k => k = kb) (Fr.setCell (S := fun k => k = kb) (Fr.refl _ _) (.inl rfl) _ _) (.inl rfl) _ _).owns h0.d (fun k hk e => h0.dk k hk (.inl e))
end Go.Proofs.YtdpjgflemddekaaGreatDoor
/- The document's answer: what becomes of an object that nobody has any more. -/
namespace Go.Proofs.YtdpjgflemddekaaGreatDoor
open Go.RowKit
theorem RefAt.setQ {w : World} {kb : Nat} {R : Ref} {V : RefV} (h : RefAt w kb R V) (v : Value) : RefAt (w.setCell ⟨kb, 1027, none⟩ v) kb R { V with qv := v } := by
  have hf : Fr w (w.setCell ⟨kb, 1027, none⟩ v) (fun k => k = kb) := Fr.setCell (S := fun k => k = kb) (Fr.refl _ _) (.inl rfl) _ _
  obtain ⟨c, hc, hcc⟩ := h.blk
  refine ⟨⟨_, setCell_at w kb 1027 v hc, ?_⟩, hf.owns h.l (fun k hk e => h.kl (e ▸ hk)), hf.owns h.n (fun k hk e => h.kn (e ▸ hk)), hf.owns h.t (fun k hk e => h.kt (e ▸ hk)), h.kl, h.kn, h.kt, h.ln, h.lt, h.nt⟩
  obtain ⟨c0, c1, c2, c3, c4, c5, c6, c7, c8⟩ := hcc
  refine ⟨by simpa using c0, ?_, ?_, ?_, ?_, by simp [c0], ?_, ?_, ?_⟩
  . rw [Array.getElem?_setIfInBounds_ne (by omega)]; exact c1
  . intro i hi; rw [Array.getElem?_setIfInBounds_ne (by omega)]; exact c2 i hi
  all_goals (rw [Array.getElem?_setIfInBounds_ne (by omega)]; assumption)
theorem RefAt.setD {w : World} {kb : Nat} {R : Ref} {V : RefV} (h : RefAt w kb R V) (v : Value) : RefAt (w.setCell ⟨kb, 1028, none⟩ v) kb R { V with dv := v } := by
  have hf : Fr w (w.setCell ⟨kb, 1028, none⟩ v) (fun k => k = kb) := Fr.setCell (S := fun k => k = kb) (Fr.refl _ _) (.inl rfl) _ _
  obtain ⟨c, hc, hcc⟩ := h.blk
  refine ⟨⟨_, setCell_at w kb 1028 v hc, ?_⟩, hf.owns h.l (fun k hk e => h.kl (e ▸ hk)), hf.owns h.n (fun k hk e => h.kn (e ▸ hk)), hf.owns h.t (fun k hk e => h.kt (e ▸ hk)), h.kl, h.kn, h.kt, h.ln, h.lt, h.nt⟩
  obtain ⟨c0, c1, c2, c3, c4, c5, c6, c7, c8⟩ := hcc
  refine ⟨by simpa using c0, ?_, ?_, ?_, ?_, ?_, by simp [c0], ?_, ?_⟩
  . rw [Array.getElem?_setIfInBounds_ne (by omega)]; exact c1
  . intro i hi; rw [Array.getElem?_setIfInBounds_ne (by omega)]; exact c2 i hi
  all_goals (rw [Array.getElem?_setIfInBounds_ne (by omega)]; assumption)
set_option maxRecDepth 100000 in
set_option maxHeartbeats 1000000 in
theorem dequeue_none (S : RS) (V : RefV) (kb : Nat) (t : Int) (w : World) (h : RD w kb S V) :
    Calls Tryz.prog 109 #[.pointer (some ⟨kb, 0, none⟩), .int .i64 t] w fun e' w' => e' = .returned (.tuple #[]) /\ RD w' kb S V /\ Fr w w' (fun k => k = kb) := by
  have hcq := h.ref.cq
  have hzq := h.ref.fz 1027
  have hq := h.q
  rw [hq] at hcq
  have hklt : kb < w.heap.size := World.block_lt_of_cell? w _ hcq
  have h1 : RefAt (w.setCell ⟨kb, 1027, none⟩ (.slice none 0 0)) kb S.R V := by
    have := h.ref.setQ (.slice none 0 0)
    rw [show ({ V with qv := Value.slice none 0 0 } : RefV) = V by rw [<- hq]] at this
    exact this
  have hf : Fr w (w.setCell ⟨kb, 1027, none⟩ (.slice none 0 0)) (fun k => k = kb) := Fr.s1 _ _ _ _
  have h2 : RD (w.setCell ⟨kb, 1027, none⟩ (.slice none 0 0)) kb S V := ⟨h1, h.ws, hf.owns h.d (fun k hk e => h.dk k hk (.inl e)), h.dk, h.q⟩
  have H2 : Hid (RD (w.setCell ⟨kb, 1027, none⟩ (.slice none 0 0)) kb S V) := h2
  clear h2 h1 hq h
  go_enter Tryz.func109, Tryz.ntmps109
  go_wp2
  refine wp_loop_rounds 1 ?_
  rw [rounds_succ]
  go_wp2
  go_end0
  exact ⟨rfl, H2.out, hf⟩
theorem infoLiv' : (Tryz.prog.info? 110).map (fun i => (i.zero, i.size, i.bytes)) = some (some (.agg #[.int .i64 0, .int .i64 0]), 2, 16) := by kernel_rfl
theorem infoThr' : (Tryz.prog.info? 112).map (fun i => (i.zero, i.size, i.bytes)) = some (some (.agg #[.int .i64 0, .int .i64 0, .int .i64 0, .int .i64 0, .int .i64 0, .int .i64 0]), 6, 48) := by kernel_rfl
theorem infoDom : (Tryz.prog.info? 116).map (fun i => (i.zero, i.size, i.bytes)) = some (some (.agg #[.int .i64 0, .int .i64 0]), 2, 16) := by kernel_rfl
def capA (ty b bits r g m : Int) : Value := .agg #[.int .i64 ty, .int .i64 b, .int .i64 bits, .int .i64 r, .int .i64 g, .int .i64 m]
set_option maxRecDepth 100000 in
set_option maxHeartbeats 1000000 in
theorem gone_small (S : RS) (V : RefV) (kb : Nat) (ty b bits r g m : Int) (w : World) (h : RD w kb S V) (h2 : ty ≠ 2) (h4 : ty ≠ 4) :
    Calls Tryz.prog 115 #[.pointer (some ⟨kb, 0, none⟩), capA ty b bits r g m] w fun e' w' => e' = .returned (.tuple #[]) /\ RD w' kb (goneR S ty b bits) V /\ Fr w w' (fun _ => False) := by
  have hS : goneR S ty b bits = S := by unfold goneR; rw [if_neg h2, if_neg h4]
  have HS : Hid (goneR S ty b bits = S) := hS
  clear hS
  have hcq := h.ref.cq
  rw [h.q] at hcq
  have hklt : kb < w.heap.size := World.block_lt_of_cell? w _ hcq
  have h2' : (ty == 2) = false := by simpa using h2
  have h4' : (ty == 4) = false := by simpa using h4
  clear h2 h4
  unfold capA
  by_cases h3 : ty = 3
  . have h3' : (ty == 3) = true := by simpa using h3
    clear h3
    go_enter Tryz.func115, Tryz.ntmps115
    go_wp2
    refine wp_loop_rounds 1 ?_
    rw [rounds_succ]
    go_wp2
    go_end0
    exact ⟨rfl, by rw [HS.out]; exact h.frame ((Fr.refl _ (fun _ => False)).alloc _) (fun _ _ => id), (Fr.refl _ _).alloc _⟩
  . have h3' : (ty == 3) = false := by simpa using h3
    clear h3
    go_enter Tryz.func115, Tryz.ntmps115
    go_wp2
    go_end0
    exact ⟨rfl, by rw [HS.out]; exact h.frame ((Fr.refl _ (fun _ => False)).alloc _) (fun _ _ => id), (Fr.refl _ _).alloc _⟩
theorem filter_take {α : Type} (p : α -> Bool) (L : List α) (k : Nat) (hk : k < L.length) : (L.take (k + 1)).filter p = (L.take k).filter p ++ (if p L[k] then [L[k]] else []) := by
  rw [List.take_succ_eq_append_getElem hk, List.filter_append]
  by_cases h : p L[k] = true
  . rw [if_pos h, List.filter_cons_of_pos h]; rfl
  . rw [if_neg h, List.filter_cons_of_neg h]; rfl
theorem filter_len {α : Type} (p : α -> Bool) (L : List α) (k : Nat) : ((L.take k).filter p).length <= k := Nat.le_trans (List.length_filter_le _ _) (by simp; omega)
set_option maxRecDepth 100000 in
set_option maxHeartbeats 1000000 in
theorem gone_task (S : RS) (V : RefV) (kb : Nat) (b bits r g m : Int) (w : World) (h : RD w kb S V) (hn : S.R.T.length <= 900000) :
    Calls Tryz.prog 115 #[.pointer (some ⟨kb, 0, none⟩), capA 4 b bits r g m] w fun e' w' => e' = .returned (.tuple #[]) /\ ∃ tv, ROut w kb V (goneR S 4 b bits) { V with tv := tv } w' := by
  obtain ⟨i0, hi0, hz0, hz1, hz2⟩ := info_parts infoThr'
  have hklt : kb < w.heap.size := World.block_lt_of_cell? w _ h.ref.ct
  unfold capA
  go_enter Tryz.func115, Tryz.ntmps115
  go_wp2_with fail
  have h0 : RD (w.alloc (Obj.cells #[.int .i64 4, .int .i64 b, .int .i64 bits, .int .i64 r, .int .i64 g, .int .i64 m] 46)) kb S V := h.frame ((Fr.refl _ (fun _ => False)).alloc _) (fun _ _ => id)
  refine (dequeue_none S V kb b _ h0).mono ?_
  rintro e w1 ⟨rfl, h1, hf1⟩
  have hbox : w1.heap[w.heap.size]? = some (Obj.cells #[.int .i64 4, .int .i64 b, .int .i64 bits, .int .i64 r, .int .i64 g, .int .i64 m] 46) := hf1.same (heap_alloc_new _ _) (by omega)
  have hs1 : w.heap.size + 1 <= w1.heap.size := by have := hf1.size; simpa using this
  have hfw1 : Fr w w1 (fun k => k = kb) := ((Fr.refl w (fun k => k = kb)).alloc _).step hf1 (fun k hk => .inl hk)
  obtain ⟨A, cap, htv, hA⟩ := h1.ref.ltt
  have hct := h1.ref.ct
  rw [htv] at hct
  clear hf1 h0
  go_wp2
  go_loopw [9, 10] (fun l i w' => ∃ k n : Nat, i = .int .i64 k /\ k <= S.R.T.length /\ n = ((S.R.T.take k).filter (fun t => !isBaseT b t)).length /\ w'.ownsRow w1.heap.size 112 6 l n (((S.R.T.take k).filter (fun t => !isBaseT b t)).flatMap Thr.vals) /\ Fr w1 w' (fun _ => False)) (fun _ i _ => S.R.T.length - (intOf i).toNat)
  case atStart => exact ⟨0, 0, rfl, by omega, rfl, World.ownsRow_nil _ _ _ _, Fr.refl _ _⟩
  case round =>
    obtain ⟨k, n, rfl, hk, hnn, hown, hfr⟩ := hrel
    have hr := h1.frame hfr (fun _ _ => id)
    have hctr : wr.cell? ⟨kb, 1026, none⟩ = some (.slice A S.R.T.length cap) := hfr.cell hct id
    have hbr := hfr.same hbox id
    have hc1 := cell_of_blk (o := 1) hbr rfl
    have hnl := filter_len (fun t => !isBaseT b t) S.R.T k
    have hkr : kb < wr.heap.size := World.block_lt_of_cell? _ _ hctr
    by_cases hlt : k < S.R.T.length
    . obtain ⟨ga, rfl, hcells⟩ := hA (by omega)
      obtain ⟨q0, q1, q2, q3, q4, q5⟩ := thrAt hcells k hlt
      have q0 := hfr.cell q0 id
      have q1 := hfr.cell q1 id
      have q2 := hfr.cell q2 id
      have q3 := hfr.cell q3 id
      have q4 := hfr.cell q4 id
      have q5 := hfr.cell q5 id
      have hgr : ga < wr.heap.size := World.block_lt_of_cell? _ _ q0
      have hft := filter_take (fun t => !isBaseT b t) S.R.T k hlt
      by_cases hb : S.R.T[k].base = b
      . have hb' : (S.R.T[k].base != b) = false := by simpa using hb
        have HF : Hid ((S.R.T.take (k + 1)).filter (fun t => !isBaseT b t) = (S.R.T.take k).filter (fun t => !isBaseT b t)) := by
          show _ = _; rw [hft, if_neg (by simp [isBaseT, hb]), List.append_nil]
        clear hft hb
        go_wp2
        go_quiet (fail)
        go_wp2
        go_roundw
        case rel => exact ⟨k + 1, n, by go_num, by omega, by rw [HF.out]; exact hnn, by rw [HF.out]; exact hown, hfr.drewN _⟩
        case measure => simp [intOf]; omega
      . have hb' : (S.R.T[k].base != b) = true := by simpa using hb
        have HF : Hid ((S.R.T.take (k + 1)).filter (fun t => !isBaseT b t) = (S.R.T.take k).filter (fun t => !isBaseT b t) ++ [S.R.T[k]]) := by
          show _ = _; rw [hft, if_pos (by simp [isBaseT, hb])]
        clear hft hb
        go_wp2
        go_quiet (fail)
        have hownX : (wr.drewN nq).ownsRow w1.heap.size 112 6 u9 n (((S.R.T.take k).filter (fun t => !isBaseT b t)).flatMap Thr.vals) := hown
        have hfX : Fr w1 (wr.drewN nq) (fun _ => False) := hfr.drewN nq
        have hsz := hfX.size
        go_wp2_with (at_builtin; go_must (refine wpList_append_own _ rfl _ _ 103 rfl w1.heap.size 112 i0 _ 6 48 Tryz.underlying103 hi0 hz0 hz1 hz2 rfl (by decide) _ n _ rfl (World.ownsRow.alloc hownX _) ⟨_, 0, none⟩ 1 1 S.R.T[k].vals rfl rfl (news_at _ _ _ _ (by simp)) (Thr.one S.R.T[k]) ?_ ?_ ?_ ?_))
        . unfold maxLen; omega
        . omega
        . exact Nat.le_trans hsz (by simp)
        intro v5 W5 hown5 hg5 hnil5
        have hlt5 := World.ownsRow.lt hownX
        have hf5 : Fr w1 W5 (fun _ => False) := (hfX.alloc _).grown hg5 (fun r hr => .inr (hlt5 r hr).1)
        clear hg5 hnil5
        go_wp2
        go_roundw
        case rel => exact ⟨k + 1, n + 1, by go_num, by omega, by rw [HF.out]; simp [hnn], by rw [HF.out, List.flatMap_append, hnn]; simpa using hown5, hf5⟩
        case measure => simp [intOf]; omega
    . have hzt := hr.ref.fz 1026
      obtain rfl : k = S.R.T.length := by omega
      rw [List.take_length] at hnn hown
      subst hnn
      have hlt9 := World.ownsRow.lt hown
      have hnew : ∀ k, u9.ownBlock = some k -> w.heap.size <= k := fun k hk => by have := (hlt9 k hk).1; omega
      have h9 : RefAt (wr.setCell ⟨kb, 1026, none⟩ u9) kb { S.R with T := S.R.T.filter (fun t => !isBaseT b t) } { V with tv := u9 } := by
        refine hr.ref.setT rfl (owns_mono hown (Nat.zero_le _)) (fun k hk => ?_)
        have hk1 := hnew k hk
        refine ⟨fun hk2 => ?_, fun hk2 => ?_, fun hk2 => by omega⟩
        . have := h.ref.fpLt (k := k) (.inr (.inl hk2)); omega
        . have := h.ref.fpLt (k := k) (.inr (.inr (.inl hk2))); omega
      have hf8 : Fr w wr (V.fq kb) := (hfw1.mono (fun k hk => .inl (.inl hk))).step hfr (fun _ => False.elim)
      have hf9 : Fr w (wr.setCell ⟨kb, 1026, none⟩ u9) (V.fq kb) := hf8.setCell (.inl (.inl (.inl rfl))) _ _
      have hS : goneR S 4 b bits = ⟨{ S.R with T := S.R.T.filter (fun t => !isBaseT b t) }, S.D, S.ws⟩ := by unfold goneR; simp
      have HS : Hid (goneR S 4 b bits = ⟨{ S.R with T := S.R.T.filter (fun t => !isBaseT b t) }, S.D, S.ws⟩) := hS
      have hO : ROut w kb V (goneR S 4 b bits) { V with tv := u9 } (wr.setCell ⟨kb, 1026, none⟩ u9) := by
        rw [HS.out]
        refine ⟨⟨h9, h.ws, (Fr.s1 wr kb 1026 u9).owns hr.d (fun k hk e => h.dk k hk (.inl e)), ?_, h.q⟩, hf9, ?_⟩
        . rintro k hk (h5 | h5 | h5 | h5)
          . exact h.dk k hk (.inl h5)
          . exact h.dk k hk (.inr (.inl h5))
          . exact h.dk k hk (.inr (.inr (.inl h5)))
          . have := hnew k h5; have := h.fqLt (k := k) (.inr hk); omega
        . rintro k ((h5 | h5 | h5 | h5) | h5)
          . exact .inl (.inl (.inl h5))
          . exact .inl (.inl (.inr (.inl h5)))
          . exact .inl (.inl (.inr (.inr (.inl h5))))
          . exact .inr (hnew k h5)
          . exact .inl (.inr h5)
      have HO : Hid (ROut w kb V (goneR S 4 b bits) { V with tv := u9 } (wr.setCell ⟨kb, 1026, none⟩ u9)) := hO
      clear hS HS hO h9 hf9 hf8 hnew hlt9
      rcases hown.2 with ⟨rfl, _⟩ | ⟨g9, cap9, cur9, rfl, _⟩
      . clear hown
        go_wp2
        go_end0
        exact ⟨rfl, _, HO.out⟩
      . clear hown
        go_wp2
        go_end0
        exact ⟨rfl, _, HO.out⟩
end Go.Proofs.YtdpjgflemddekaaGreatDoor

/- The argument: a script, opened. -/
import Derived.Test.YtdpjgflemddekaaGreatDoorMLawL
import Derived.Test.YtdpjgflemddekaaGreatDoorRows
import Derived.ProofKit
import Derived.OpenShut
import Derived.Deep.Slices
namespace Go.Proofs.YtdpjgflemddekaaGreatDoor
open Go.ChangeShapes Go.WideShapes Go.RowKit
theorem blk_one {H : Type} (d : DataW H) : 1 <= Rows.uptoBulk d := by
  cases d with
  | lit l => cases l <;> simp [Rows.uptoBulk]
  | _ => simp [Rows.uptoBulk]
theorem blk_len {H : Type} (l : List (DataW H)) : l.length <= Rows.uptoBulkAll l := by
  induction l with
  | nil => simp [Rows.uptoBulkAll]
  | cons x r ih => have := blk_one x; simp only [Rows.uptoBulkAll, List.length_cons]; omega
theorem blk_part {H : Type} {d : DataW H} {l : List (DataW H)} (h : d ∈ l) : Rows.uptoBulk d <= Rows.uptoBulkAll l := by
  induction l with
  | nil => cases h
  | cons x r ih =>
    simp only [Rows.uptoBulkAll]
    rcases List.mem_cons.1 h with rfl | e
    . omega
    . have := ih e; omega
theorem blk_slice {H : Type} (l r : List (DataW H)) : l.length <= Rows.uptoBulk (.slice l r) /\ Rows.uptoBulkAll l <= Rows.uptoBulk (.slice l r) := by
  have := blk_len l
  simp only [Rows.uptoBulk]
  omega
section
variable {H : Type} {enc : TypeId × Value -> H} {w : World}
theorem cells3 : Tryz.prog.cellsOf 3 = 1 := by kernel_rfl
theorem cells4 : Tryz.prog.cellsOf 4 = 1 := by kernel_rfl
theorem cells39 : Tryz.prog.cellsOf 39 = 1 := by kernel_rfl
theorem cells54 : Tryz.prog.cellsOf 54 = 1 := by kernel_rfl
theorem cells41 : Tryz.prog.cellsOf 41 = 10 := by kernel_rfl
theorem cells56 : Tryz.prog.cellsOf 56 = 15 := by kernel_rfl
theorem IntsAt.lt {v : Value} {l : List Int} (h : IntsAt w v l) : 0 < l.length -> ∀ k, v.ownBlock = some k -> k < w.heap.size := by
  obtain ⟨A, cap, rfl, hA⟩ := h
  intro h0 k hk
  obtain ⟨g, o, rfl, hc⟩ := hA h0
  cases hk
  exact World.block_lt_of_cell? _ _ (hc 0 h0)
theorem ints_open {fuel : Nat} {v : Value} {x : DataW H × List MemPlace} (h : DataW.trod enc Tryz.prog w 0 (fun _ => true) true fuel 39 [v] = some x) : ∃ l : List Int, IntsAt w v l /\ l.length <= Rows.uptoBulk x.1 := by
  rcases open_ints Tryz.underlying39 Tryz.underlying3 cells3 h with ⟨hcs, _⟩ | ⟨a, len, cap, zs, hcs, _, hl, _, hz, hx, hcell, _⟩
  . cases hcs
    exact ⟨[], ⟨none, 0, rfl, fun h => absurd h (by decide)⟩, Nat.zero_le _⟩
  . cases hcs
    have hz : zs.length = cap := hz
    have hll : (zs.take len).length = len := by rw [List.length_take]; omega
    refine ⟨zs.take len, ⟨some a, cap, by rw [hll], fun h0 => ?_⟩, ?_⟩
    . obtain ⟨b, off, rfl, hc⟩ := ints_at hcell (by rw [hll] at h0; omega)
      refine ⟨b, off, rfl, fun i hi => ?_⟩
      rw [hc i (by omega)]
      simp [List.getD, List.getElem?_eq_getElem (show i < zs.length by omega)]
    . have := (blk_slice (lits (H := H) .i64 (zs.take len)) (lits .i64 (zs.drop len))).1
      rw [hx]
      simp only [lits, List.length_map] at this
      exact this
theorem list15 {α : Type} {l : List α} (h : l.length = 15) : ∃ a0 a1 a2 a3 a4 a5 a6 a7 a8 a9 a10 a11 a12 a13 a14, l = [a0, a1, a2, a3, a4, a5, a6, a7, a8, a9, a10, a11, a12, a13, a14] := by
  match l, h with
  | [a0, a1, a2, a3, a4, a5, a6, a7, a8, a9, a10, a11, a12, a13, a14], _ => exact ⟨_, _, _, _, _, _, _, _, _, _, _, _, _, _, _, rfl⟩
theorem get_mem {x : DataW H × List MemPlace} {xs : List (DataW H × List MemPlace)} {i : Nat} (h : xs[i]? = some x) : Rows.uptoBulk x.1 <= Rows.uptoBulk (.agg (xs.map (·.1))) := by
  have h1 : x.1 ∈ xs.map (·.1) := List.mem_map.2 ⟨x, List.mem_of_getElem? h, rfl⟩
  have := blk_part h1
  simp only [Rows.uptoBulk]
  omega
theorem fld {n : Nat} {fs : Array Field} {cs : List Value} {xs : List (DataW H × List MemPlace)} (hf : ∀ (i : Nat) (f : Field), fs[i]? = some f -> DataW.trod enc Tryz.prog w 0 (fun _ => true) true n f.type ((cs.drop f.offset).take (Tryz.prog.cellsOf f.type)) = xs[i]?)
    (i : Nat) (f : Field) (h : fs[i]? = some f) (t : TypeId) (o c : Nat) (ht : f.type = t) (ho : f.offset = o) (hc : Tryz.prog.cellsOf t = c) (hi : i < xs.length) : DataW.trod enc Tryz.prog w 0 (fun _ => true) true n t ((cs.drop o).take c) = some xs[i] := by
  subst ht ho hc
  rw [hf i f h, List.getElem?_eq_getElem hi]
theorem op_open {fuel : Nat} {cs : List Value} {x : DataW H × List MemPlace} (h : DataW.trod enc Tryz.prog w 0 (fun _ => true) true fuel 56 cs = some x) (hb : Rows.uptoBulk x.1 <= 1048576) : ∃ o : OpD, cs = o.vals /\ OpIn w o := by
  obtain ⟨xs, n, rfl, rfl, hlen, hxl, hf⟩ := DataW.trod_struct Tryz.underlying56 h
  rw [cells56] at hlen
  obtain ⟨a0, a1, a2, a3, a4, a5, a6, a7, a8, a9, a10, a11, a12, a13, a14, rfl⟩ := list15 hlen
  have hxl : xs.length = 6 := hxl
  have f0 : DataW.trod enc Tryz.prog w 0 (fun _ => true) true n 3 [a0] = some xs[0] := fld hf 0 _ rfl 3 0 1 rfl rfl cells3 (by omega)
  have f1 : DataW.trod enc Tryz.prog w 0 (fun _ => true) true n 3 [a1] = some xs[1] := fld hf 1 _ rfl 3 1 1 rfl rfl cells3 (by omega)
  have f2 : DataW.trod enc Tryz.prog w 0 (fun _ => true) true n 41 [a2, a3, a4, a5, a6, a7, a8, a9, a10, a11] = some xs[2] := fld hf 2 _ rfl 41 2 10 rfl rfl cells41 (by omega)
  have f3 : DataW.trod enc Tryz.prog w 0 (fun _ => true) true n 54 [a12] = some xs[3] := fld hf 3 _ rfl 54 12 1 rfl rfl cells54 (by omega)
  have f4 : DataW.trod enc Tryz.prog w 0 (fun _ => true) true n 3 [a13] = some xs[4] := fld hf 4 _ rfl 3 13 1 rfl rfl cells3 (by omega)
  have f5 : DataW.trod enc Tryz.prog w 0 (fun _ => true) true n 4 [a14] = some xs[5] := fld hf 5 _ rfl 4 14 1 rfl rfl cells4 (by omega)
  obtain ⟨ask, e0, _, _⟩ := DataW.trod_int Tryz.underlying3 f0
  obtain ⟨th, e1, _, w1⟩ := DataW.trod_int Tryz.underlying3 f1
  obtain ⟨nn, e4, _, w4⟩ := DataW.trod_int Tryz.underlying3 f4
  obtain ⟨which, e5, _⟩ := DataW.trod_bool Tryz.underlying4 f5
  have hb2 : Rows.uptoBulk xs[2].1 <= 1048576 := Nat.le_trans (get_mem (i := 2) (List.getElem?_eq_getElem (by omega))) hb
  obtain ⟨ys, m, _, hy, _, hyl, hg⟩ := DataW.trod_struct Tryz.underlying41 f2
  have hyl : ys.length = 10 := hyl
  rw [hy] at hb2
  dsimp only at hb2
  have g0 : DataW.trod enc Tryz.prog w 0 (fun _ => true) true m 3 [a2] = some ys[0] := fld hg 0 _ rfl 3 0 1 rfl rfl cells3 (by omega)
  have g1 : DataW.trod enc Tryz.prog w 0 (fun _ => true) true m 39 [a3] = some ys[1] := fld hg 1 _ rfl 39 1 1 rfl rfl cells39 (by omega)
  have g2 : DataW.trod enc Tryz.prog w 0 (fun _ => true) true m 39 [a4] = some ys[2] := fld hg 2 _ rfl 39 2 1 rfl rfl cells39 (by omega)
  have g3 : DataW.trod enc Tryz.prog w 0 (fun _ => true) true m 3 [a5] = some ys[3] := fld hg 3 _ rfl 3 3 1 rfl rfl cells3 (by omega)
  have g4 : DataW.trod enc Tryz.prog w 0 (fun _ => true) true m 3 [a6] = some ys[4] := fld hg 4 _ rfl 3 4 1 rfl rfl cells3 (by omega)
  have g5 : DataW.trod enc Tryz.prog w 0 (fun _ => true) true m 3 [a7] = some ys[5] := fld hg 5 _ rfl 3 5 1 rfl rfl cells3 (by omega)
  have g6 : DataW.trod enc Tryz.prog w 0 (fun _ => true) true m 3 [a8] = some ys[6] := fld hg 6 _ rfl 3 6 1 rfl rfl cells3 (by omega)
  have g7 : DataW.trod enc Tryz.prog w 0 (fun _ => true) true m 3 [a9] = some ys[7] := fld hg 7 _ rfl 3 7 1 rfl rfl cells3 (by omega)
  have g8 : DataW.trod enc Tryz.prog w 0 (fun _ => true) true m 3 [a10] = some ys[8] := fld hg 8 _ rfl 3 8 1 rfl rfl cells3 (by omega)
  have g9 : DataW.trod enc Tryz.prog w 0 (fun _ => true) true m 3 [a11] = some ys[9] := fld hg 9 _ rfl 3 9 1 rfl rfl cells3 (by omega)
  obtain ⟨z0, q0, _, _⟩ := DataW.trod_int Tryz.underlying3 g0
  obtain ⟨z3, q3, _, _⟩ := DataW.trod_int Tryz.underlying3 g3
  obtain ⟨z4, q4, _, _⟩ := DataW.trod_int Tryz.underlying3 g4
  obtain ⟨z5, q5, _, _⟩ := DataW.trod_int Tryz.underlying3 g5
  obtain ⟨z6, q6, _, _⟩ := DataW.trod_int Tryz.underlying3 g6
  obtain ⟨z7, q7, _, _⟩ := DataW.trod_int Tryz.underlying3 g7
  obtain ⟨z8, q8, _, _⟩ := DataW.trod_int Tryz.underlying3 g8
  obtain ⟨z9, q9, _, _⟩ := DataW.trod_int Tryz.underlying3 g9
  obtain ⟨l1, i1, b1⟩ := ints_open g1
  obtain ⟨l2, i2, b2⟩ := ints_open g2
  have c1 := get_mem (xs := ys) (i := 1) (List.getElem?_eq_getElem (by omega))
  have c2 := get_mem (xs := ys) (i := 2) (List.getElem?_eq_getElem (by omega))
  have hs : ∃ A m cap, a12 = .slice A m cap := by
    rcases Deep.open_slice Tryz.underlying54 f3 with ⟨hcs, _⟩ | ⟨a, len, cap, _, _, _, _, hcs, _⟩
    . cases hcs; exact ⟨_, _, _, rfl⟩
    . cases hcs; exact ⟨_, _, _, rfl⟩
  cases e0; cases e1; cases e4; cases e5; cases q0; cases q3; cases q4; cases q5; cases q6; cases q7; cases q8; cases q9
  refine ⟨⟨ask, th, ⟨z0, l1, l2, z3, z4, z5, z6, z7, z8, z9⟩, a3, a4, a12, nn, which⟩, rfl, ⟨i1, i2, ?_, ?_, i1.lt, i2.lt, (bounds_i64 w1).1, (bounds_i64 w1).2, (bounds_i64 w4).1, (bounds_i64 w4).2, hs⟩⟩
  . show l1.length <= 1048576
    omega
  . show l2.length <= 1048576
    omega
end
end Go.Proofs.YtdpjgflemddekaaGreatDoor

/- The statements' own small functions: lent. -/
import Derived.Test.YtdpjgflemddekaaGreatDoorMRefC
import Derived.Test.YtdpjgflemddekaaGreatDoorMBase
import Derived.Laws.CopyOwn
import Derived.Deep.OwnRows
import Derived.Deep.CutBlock
namespace Go.Proofs.YtdpjgflemddekaaGreatDoor
open Go.RowKit
def rowI (l : List Int) : List Value := l.map (Value.int .i64)
theorem infoInt : (Tryz.prog.info? 3).map (fun i => (i.zero, i.size, i.bytes)) = some (some (.int .i64 0), 1, 8) := by kernel_rfl
theorem sizeInt : (Tryz.prog.info? 3).map (·.size) = some 1 := by kernel_rfl
set_option maxRecDepth 100000 in
set_option maxHeartbeats 1000000 in
theorem lent_some (g o cap : Nat) (l : List Int) (w : World) (hl : l.length <= 17592186044416) (h0 : 0 < l.length) (hc : ∀ i (hi : i < l.length), w.cell? ⟨g, o + i, none⟩ = some (.int .i64 l[i])) :
    Calls Tryz.prog 47 #[.slice (some ⟨g, o, none⟩) l.length cap] w fun e' w' => e' = .returned (.slice (some ⟨w.heap.size, 0, none⟩) (l.length + 1) (l.length + 1)) /\
      w'.heap[w.heap.size]? = some (.cells (rowI (l ++ [78])).toArray 3 (0, 0)) /\ Fr w w' (fun _ => False) := by
  have hmk := fun w' => run_make_row' 39 3 (.int .i64 0) 8 Tryz.underlying39 infoInt rfl .i64 .i64 (l.length + 1) (by omega) (by omega) w'
  have ec : ((l.length + 1 : Nat) : Int) = (l.length : Int) + 1 := by omega
  simp only [ec] at hmk
  clear ec
  have hglt : g < w.heap.size := World.block_lt_of_cell? w _ (hc 0 h0)
  have hrow : (rowI l).length = l.length := by simp [rowI]
  have hsrc : ∀ j v, (rowI l)[j]? = some v -> w.cell? ((⟨g, o, none⟩ : Addr).add j) = some v := by
    intro j v hv
    rw [add_eq]
    have hj : j < l.length := by have := (List.getElem?_eq_some_iff.1 hv).1; omega
    simp only [rowI, List.getElem?_map, List.getElem?_eq_getElem hj, Option.map_some, Option.some.injEq] at hv
    rw [<- hv]; exact hc j hj
  have hb1 := heap_alloc_new w (.cells (madeCells #[.int .i64 0] (l.length + 1)) 3)
  have hf1 : Fr w (w.alloc (.cells (madeCells #[.int .i64 0] (l.length + 1)) 3)) (fun _ => False) := (Fr.refl _ _).alloc _
  have hsrc1 : ∀ j v, (rowI l)[j]? = some v -> (w.alloc (.cells (madeCells #[.int .i64 0] (l.length + 1)) 3)).cell? ((⟨g, o, none⟩ : Addr).add j) = some v := fun j v hv => hf1.cell (hsrc j v hv) id
  go_enter Tryz.func47, Tryz.ntmps47
  go_upto_region 3 with (refine wpList_copy_own rfl _ _ 39 39 rfl 3 Tryz.underlying39 sizeInt w.heap.size 0 _ _ ⟨g, o, none⟩ _ _ rfl rfl _ _ hb1 (rowI l) ?_ hsrc1 ?_ ?_ ?_)
  . rw [hrow]; exact (Nat.min_eq_left (by omega)).symm
  . rw [hrow, size_madeCells]; omega
  . intro v hv
    simp only [rowI, List.mem_map] at hv
    obtain ⟨x, _, rfl⟩ := hv
    rfl
  have hD : (List.drop (0 + (rowI l).length) (madeCells #[Value.int IntKind.i64 0] (l.length + 1)).toList).length = 1 := by
    rw [List.length_drop, Array.length_toList, size_madeCells, hrow]; omega
  have hb2 := setRow_heap _ w.heap.size _ (List.take 0 (madeCells #[Value.int IntKind.i64 0] (l.length + 1)).toList ++ (rowI l ++ List.drop (0 + (rowI l).length) (madeCells #[Value.int IntKind.i64 0] (l.length + 1)).toList)).toArray _ _ hb1
  have hf2 : Fr w ((w.alloc (Obj.cells (madeCells #[Value.int IntKind.i64 0] (l.length + 1)) 3)).setRow w.heap.size (List.take 0 (madeCells #[Value.int IntKind.i64 0] (l.length + 1)).toList ++ (rowI l ++ List.drop (0 + (rowI l).length) (madeCells #[Value.int IntKind.i64 0] (l.length + 1)).toList)).toArray) (fun _ => False) :=
    ⟨hf1.os, hf1.tape, hf1.output, by simp [World.setRow], fun k hk hn => by rw [setRow_other _ _ _ _ (by omega)]; exact hf1.block k hk hn⟩
  generalize List.drop (0 + (rowI l).length) (madeCells #[Value.int IntKind.i64 0] (l.length + 1)).toList = D at *
  generalize (w.alloc (Obj.cells (madeCells #[Value.int IntKind.i64 0] (l.length + 1)) 3)).setRow w.heap.size (List.take 0 (madeCells #[Value.int IntKind.i64 0] (l.length + 1)).toList ++ (rowI l ++ D)).toArray = W2 at *
  simp only [List.take_zero, List.nil_append] at hb2
  have hcell : ∃ v, W2.cell? ⟨w.heap.size, l.length, none⟩ = some v := by
    have hlt : l.length < (rowI l ++ D).length := by rw [List.length_append, hrow, hD]; omega
    exact ⟨(rowI l ++ D)[l.length], cell_of_blk hb2 (by rw [List.getElem?_toArray]; exact List.getElem?_eq_getElem hlt)⟩
  obtain ⟨vv, hcell⟩ := hcell
  have hfz : W2.frozen? ⟨w.heap.size, l.length, none⟩ = false := frozen_of_blk hb2
  have hb3 := setCell_at W2 w.heap.size l.length (.int .i64 78) hb2
  have hf3 : Fr w (W2.setCell ⟨w.heap.size, l.length, none⟩ (.int .i64 78)) (fun _ => False) := hf2.setCell (.inr (Nat.le_refl _)) _ _
  have hfin : (rowI l ++ D).toArray.setIfInBounds l.length (.int .i64 78) = (rowI (l ++ [78])).toArray := by
    obtain ⟨d, rfl⟩ : ∃ d, D = [d] := by
      cases D with
      | nil => simp at hD
      | cons d r => cases r with
        | nil => exact ⟨d, rfl⟩
        | cons _ _ => simp at hD
    apply Array.toList_inj.1
    rw [Array.toList_setIfInBounds]
    show List.set (rowI l ++ [d]) _ _ = rowI (l ++ [78])
    rw [List.set_append_right _ _ (by omega)]
    simp [rowI]
  rw [hfin] at hb3
  clear hb2 hb1 hsrc hsrc1 hf1 hf2 hmk hD hfin hc
  go_wp2
  go_ret
  exact ⟨rfl, hb3, hf3⟩
theorem made1 : madeCells #[Value.int IntKind.i64 0] 1 = #[Value.int IntKind.i64 0] := by
  simp only [madeCells]
  rw [show Array.range 1 = #[0] by decide]
  simp
set_option maxRecDepth 100000 in
set_option maxHeartbeats 1000000 in
theorem lent_none (A : Option Addr) (cap : Nat) (w : World) :
    Calls Tryz.prog 47 #[.slice A 0 cap] w fun e' w' => e' = .returned (.slice (some ⟨w.heap.size, 0, none⟩) 1 1) /\
      w'.heap[w.heap.size]? = some (.cells (rowI [78]).toArray 3 (0, 0)) /\ Fr w w' (fun _ => False) := by
  have hmk : ∀ w' : World, (Instr.makeSlice 39 (.int .i64 1) (.int .i64 1)).run Tryz.prog w' = .ok (.slice (some ⟨w'.heap.size, 0, none⟩) 1 1) (w'.alloc (.cells #[.int .i64 0] 3)) := fun w' => by
    have hx := run_make_row' 39 3 (.int .i64 0) 8 Tryz.underlying39 infoInt rfl .i64 .i64 1 (by omega) (by omega) w'
    rw [made1] at hx
    exact hx
  go_enter Tryz.func47, Tryz.ntmps47
  go_upto_region 3 with (refine wpList_copy_nothing rfl _ _ 39 39 rfl 3 Tryz.underlying39 sizeInt _ _ _ _ _ _ rfl rfl (Nat.zero_min _) ?_)
  go_wp2
  go_ret
  exact ⟨rfl, heap_alloc_new _ _, (Fr.refl _ _).alloc _⟩
theorem lent_any (lv : Value) (l : List Int) (w : World) (hl : l.length <= 17592186044416) (h : IntsAt w lv l) :
    Calls Tryz.prog 47 #[lv] w fun e' w' => e' = .returned (.slice (some ⟨w.heap.size, 0, none⟩) (l.length + 1) (l.length + 1)) /\
      w'.heap[w.heap.size]? = some (.cells (rowI (l ++ [78])).toArray 3 (0, 0)) /\ Fr w w' (fun _ => False) := by
  obtain ⟨A, cap, rfl, hA⟩ := h
  cases l with
  | nil => exact lent_none A cap w
  | cons x l =>
    obtain ⟨g, o, rfl, hc⟩ := hA (by simp)
    exact lent_some g o cap (x :: l) w hl (by simp) hc
end Go.Proofs.YtdpjgflemddekaaGreatDoor

/- The keys of the code's maps: slots, and numbers. -/
import Derived.Test.YtdpjgflemddekaaGreatDoorMMapA
import Derived.Test.YtdpjgflemddekaaGreatDoorChecked
namespace Go.Proofs.YtdpjgflemddekaaGreatDoor
open Go.RowKit

theorem slot_check (e : Bool) (k : Slot) (w : World) : (Instr.checkKey e 10000 71 k.val).run Tryz.prog w = .ok () w := by
  kernel_rfl
theorem slot_stays (w : World) (k : Slot) : (Instr.keyThatStays k.val k.val).run Tryz.prog w = .ok k.val w := by
  have : Instr.sameBits 10000 k.val k.val = true := by simp [Slot.val, Instr.sameBits]
  simp [Instr.keyThatStays, this]

theorem slot_same (a b : Slot) (w : World) : (Op.equal 71 a.val b.val).run Tryz.prog w = .ok (decide (a = b)) w := by
  have h1 : Tryz.prog.stoodInHeld 71 = false := by kernel_rfl
  have e : a = b ↔ a.node = b.node ∧ a.index = b.index := by cases a; cases b; simp
  simp only [Op.equal, Op.maxDepth, Slot.val]
  by_cases h : a.node = b.node <;> by_cases h2 : a.index = b.index <;>
  simp [go_sem, run_equalIn_agg, Tryz.underlying71, h1, h, h2, e]

theorem slot_find (w : World) (k : Slot) (es : List MapEntry) (h : ∀ x ∈ es, ∃ a : Slot, x.key = a.val) :
    ((Instr.findKey 71 k.val es).run Tryz.prog w = .ok none w ∧ ∀ x ∈ es, x.key ≠ k.val) ∨
    ∃ j e0, (Instr.findKey 71 k.val es).run Tryz.prog w = .ok (some (j, e0.val)) w ∧ es[j]? = some e0 ∧ e0.key = k.val := by
  cases es with
  | nil => exact .inl ⟨by simp [Instr.findKey, run_underlying Tryz.underlying71, Instr.findNow], by simp⟩
  | cons e es =>
    have h0 : ∀ fs, Instr.findNow (.struct fs) k.val (e :: es) 0 = none := fun fs => by simp [Instr.findNow, Instr.sameNow]
    have h1 : (Instr.findKey 71 k.val (e :: es)).run Tryz.prog w = (Instr.findAsking 71 k.val (e :: es) 0).run Tryz.prog w := by
      simp [Instr.findKey, run_underlying Tryz.underlying71, h0]
    rw [h1]
    rcases findAsking_run slot_same Slot.val_inj w k (e :: es) 0 h with r | ⟨j, e0, r1, r2, r3⟩
    · exact .inl r
    · exact .inr ⟨j, e0, by simpa using r1, r2, r3⟩

theorem slotKey : KeyOk Tryz.prog 71 Slot.val := ⟨Slot.val_inj, slot_check, slot_find, slot_stays⟩

theorem intKey : KeyOk Tryz.prog 3 ival := by
  refine ⟨fun a b h => by simpa [ival] using h, fun e k w => by kernel_rfl, ?_, ?_⟩
  · intro w k es h
    have hk : MapKept.IsKey (.int .i64) (ival k) := by simp [ival, MapKept.IsKey]
    rcases MapKept.findNow_spec hk es 0 (fun x hx => by obtain ⟨a, ha⟩ := h x hx; rw [ha]; simp [ival, MapKept.IsKey]) with ⟨h1, h2⟩ | ⟨j, e0, h1, h2, h3⟩
    · exact .inl ⟨by simp [Instr.findKey, run_underlying Tryz.underlying3, h1], h2⟩
    · exact .inr ⟨j, e0, by simp [Instr.findKey, run_underlying Tryz.underlying3, h1], h2, h3⟩
  · intro w k
    have : Instr.sameBits 10000 (ival k) (ival k) = true := by simp [ival, Instr.sameBits]
    simp [Instr.keyThatStays, this]

end Go.Proofs.YtdpjgflemddekaaGreatDoor

/- The code: isHeld. -/
import Derived.Test.YtdpjgflemddekaaGreatDoorMMapB
import Derived.Test.YtdpjgflemddekaaGreatDoorMCodeK
import Derived.Test.YtdpjgflemddekaaGreatDoorMInvB
namespace Go.Proofs.YtdpjgflemddekaaGreatDoor
open Go.RowKit
theorem told_ty (c : KCap) : c.told.1 = c.ty /\ c.told.2.1 = c.base := by cases c <;> exact ⟨rfl, rfl⟩
def NoneYet (H rest : List (Slot × KCap)) (c : KCap) : Prop := (∀ p ∈ rest, p ∈ H) /\ ∀ p ∈ H, p ∉ rest -> ¬ (p.2.ty = c.ty /\ p.2.base = c.base)
theorem NoneYet.next {H pre post : List (Slot × KCap)} {c : KCap} {x : Slot × KCap} (h : NoneYet H (pre ++ x :: post) c) (hx : ¬ (x.2.ty = c.ty /\ x.2.base = c.base)) : NoneYet H (pre ++ post) c := by
  refine ⟨fun p hp => h.1 p ?_, fun p hp hn => ?_⟩
  . simp only [List.mem_append, List.mem_cons] at hp ⊢
    rcases hp with hp | hp
    . exact .inl hp
    . exact .inr (.inr hp)
  . by_cases e : p = x
    . rw [e]; exact hx
    . refine h.2 p hp (fun h2 => hn ?_)
      simp only [List.mem_append, List.mem_cons, e, false_or] at h2 ⊢
      exact h2
set_option maxRecDepth 100000 in
set_option maxHeartbeats 1000000 in
theorem isHeld_any (kb : Nat) (V : KerV) (c : KCap) (w : World) (h : KerAt w kb V) :
    Calls Tryz.prog 111 #[.pointer (some ⟨kb, 0, none⟩), c.val] w fun e w' => ∃ b, e = .returned (.bool b) /\ (b = true ↔ heldK V.ker c.ty c.base) /\ Fr w w' (fun _ => False) := by
  obtain ⟨t1, t2⟩ := told_ty c
  go_enter Tryz.func111, Tryz.ntmps111
  go_upto_region 2 with (go_at_call 24; refine (told_any c _).mono ?_; rintro e W1 ⟨rfl, hf1⟩; simp only [capVal])
  generalize hW2 : World.alloc _ _ = W2
  have hf2 : Fr w W2 (fun _ => False) := by rw [<- hW2]; exact hf1.alloc _
  have hbo : W2.heap[W1.heap.size]? = some (.cells #[.int .i64 c.ty, .int .i64 c.base, .int .i64 c.told.2.2.1, .int .i64 c.told.2.2.2.1, .int .i64 c.told.2.2.2.2.1, .int .i64 c.told.2.2.2.2.2] 46 (0, 0)) := by rw [<- hW2]; exact heap_alloc_new _ _
  clear hW2
  have h2 := h.frame hf2 (fun _ _ => id)
  have hc2 := h2.ch
  obtain ⟨W3, hrg, hit3, hf3, hs3⟩ := h2.held.range_run (P := Tryz.prog) Tryz.underlying59
  go_wp2
  clear hrg
  have h3 := h2.frame hf3 (fun _ _ => id)
  have hbo3 := hf3.same hbo id
  have hf03 : Fr w W3 (fun _ => False) := hf2.step hf3 (fun _ => False.elim)
  have hlt3 := h2.held.lt
  have hob : W1.heap.size < W2.heap.size := (Array.getElem?_eq_some_iff.1 hbo).1
  have hsz2 := hf2.size
  clear hc2 hbo h2 hf2 hf3 hf1 h
  go_loopg [4] (V.H.length) (fun k _ w' => ∃ rest, Aside (rest.length = k /\ IterAt w' W2.heap.size V.hb Slot.val KCap.val V.H rest /\ NoneYet V.H rest c /\ Fr W3 w' (fun k => k = W2.heap.size)))
  case atStart => exact ⟨V.H, ⟨rfl, hit3, ⟨fun _ h => h, fun p hp hn => absurd hp hn⟩, Fr.refl _ _⟩⟩
  case round =>
    obtain ⟨rest, hA⟩ := hrel
    obtain ⟨hk, hit, hny, hfr⟩ := hA.out
    clear hA hit3
    have hfw : Fr w wr (fun _ => False) := hf03.step hfr (fun k hk => .inr (by omega))
    rcases hit.next_run (P := Tryz.prog) (by omega) 0 with ⟨h0, hr⟩ | ⟨pre, post, k, v, w1, hrest, hr, he, hit1, hF1, hs1⟩
    . have hno : ¬ heldK V.ker c.ty c.base := by
        rintro ⟨s, c', hc', h1, h2⟩
        exact hny.2 (s, c') (look_some_mem hc') (by rw [h0]; simp) ⟨h1, h2⟩
      clear hny hit h0 hk
      go_wp2
      go_ret
      exact ⟨false, rfl, by simp [hno], hfw⟩
    . have hbo1 := hF1.same (hfr.same hbo3 (by omega)) (by omega)
      have hfw1 : Fr w w1 (fun _ => False) := hfw.step hF1 (fun k hk => .inr (by omega))
      have hmem : (k, v) ∈ V.H := hny.1 _ (by rw [hrest]; simp)
      obtain ⟨u1, u2⟩ := told_ty v
      have HK : Hid (rest.length = gk) := hk
      clear hk hit
      have hrl : rest.length = (pre ++ post).length + 1 := by rw [hrest]; simp; omega
      go_upto_region 6 with (go_at_call 24; refine (told_any v _).mono ?_; rintro e W5 ⟨rfl, hf5⟩; simp only [capVal])
      generalize hW6 : World.alloc _ _ = W6
      have hf6 : Fr w1 W6 (fun _ => False) := by rw [<- hW6]; exact hf5.alloc _
      have hb6 : W6.heap[W5.heap.size]? = some (.cells #[.int .i64 v.ty, .int .i64 v.base, .int .i64 v.told.2.2.1, .int .i64 v.told.2.2.2.1, .int .i64 v.told.2.2.2.2.1, .int .i64 v.told.2.2.2.2.2] 46 (0, 0)) := by rw [<- hW6]; exact heap_alloc_new _ _
      clear hW6
      have hbo6 := hf6.same hbo1 id
      have o0 := cell_of_blk (o := 0) hbo6 rfl
      have o1 := cell_of_blk (o := 1) hbo6 rfl
      have p0 := cell_of_blk (o := 0) hb6 rfl
      have p1 := cell_of_blk (o := 1) hb6 rfl
      have hfw6 : Fr w W6 (fun _ => False) := hfw1.step hf6 (fun _ => False.elim)
      have hit6 := hit1.frame hf6 id id
      have hfr6 : Fr W3 W6 (fun k => k = W2.heap.size) := (hfr.step hF1 (fun _ h => .inl h)).step hf6 (fun _ => False.elim)
      by_cases hm : v.ty = c.ty /\ v.base = c.base
      . have hyes : heldK V.ker c.ty c.base := ⟨k, v, look_of_mem h3.held.nodup hmem, hm.1, hm.2⟩
        have HM : Hid (v.ty = c.ty /\ v.base = c.base) := hm
        have d1 : (v.ty == c.ty) = true := by simp [hm.1]
        have d2 : (v.base == c.base) = true := by simp [hm.2]
        clear hm hny hr he
        go_wp2
        go_ret
        exact ⟨true, rfl, by simp [hyes], hfw6⟩
      . have hny6 : NoneYet V.H (pre ++ post) c := NoneYet.next (x := (k, v)) (hrest ▸ hny) hm
        have hme : (pre ++ post).length < gk := by have := HK.out; omega
        by_cases e1 : v.ty = c.ty
        . have d1 : (v.ty == c.ty) = true := by simp [e1]
          have d2 : (v.base == c.base) = false := by simp; exact fun e => hm ⟨e1, e⟩
          clear hm hny hr he e1 hrl
          go_wp2
          go_roundg ((pre ++ post).length)
          case measure => exact hme
          case rel => exact ⟨pre ++ post, ⟨rfl, hit6, hny6, hfr6⟩⟩
        . have d1 : (v.ty == c.ty) = false := by simp [e1]
          clear hm hny hr he e1 hrl
          go_wp2
          go_roundg ((pre ++ post).length)
          case measure => exact hme
          case rel => exact ⟨pre ++ post, ⟨rfl, hit6, hny6, hfr6⟩⟩
end Go.Proofs.YtdpjgflemddekaaGreatDoor

/- The statements' world and a pair of kernels, side by side in memory; caps, doomed. -/
import Derived.Test.YtdpjgflemddekaaGreatDoorMLawF
import Derived.Test.YtdpjgflemddekaaGreatDoorMCodeZ2
import Derived.Test.YtdpjgflemddekaaGreatDoorMCodeX3
import Derived.Test.YtdpjgflemddekaaGreatDoorMInvD
namespace Go.Proofs.YtdpjgflemddekaaGreatDoor
open Go.RowKit

/-- A kernel of the program's and the document's: where they lie, and what they hold. -/
structure SideD where
  sb : Nat
  kx : Nat
  ky : Nat
  VK : KerV
  R : Ref
  VR : RefV

def SideD.fp (D : SideD) (k : Nat) : Prop := k = D.sb ∨ D.VK.fp D.kx k ∨ D.VR.fp D.ky k

structure SideOk (w : World) (D : SideD) : Prop where
  side : SideAt w D.sb D.kx D.ky
  ker : KerAt w D.kx D.VK
  ref : RefAt w D.ky D.R D.VR
  inv : Inv D.R D.VK.ker
  dk : D.VK.dv = .slice none 0 0
  dr : D.VR.dv = .slice none 0 0
  ws : ∀ i, i < 1024 → D.VR.ws i = 0
  a1 : ¬ D.VK.fp D.kx D.sb
  a2 : ¬ D.VR.fp D.ky D.sb
  a3 : ∀ k, D.VK.fp D.kx k → ¬ D.VR.fp D.ky k

theorem SideOk.lt {w : World} {D : SideD} (h : SideOk w D) {k : Nat} (hk : D.fp k) : k < w.heap.size := by
  rcases hk with rfl | hk | hk
  · exact (Array.getElem?_eq_some_iff.1 h.side).1
  · exact h.ker.fpLt hk
  · exact h.ref.fpLt hk

theorem SideOk.frame {w w' : World} {D : SideD} {S : Nat → Prop} (h : SideOk w D) (hf : Fr w w' S) (hs : ∀ k, D.fp k → ¬ S k) : SideOk w' D :=
  ⟨hf.same h.side (hs _ (.inl rfl)), h.ker.frame hf (fun k hk => hs k (.inr (.inl hk))), h.ref.frame hf (fun k hk => hs k (.inr (.inr hk))), h.inv, h.dk, h.dr, h.ws, h.a1, h.a2, h.a3⟩

structure GameAt (w : World) (wb : Nat) (U : LawV) (D : SideD) : Prop where
  law : LawAt w wb U
  good : GoodL w U
  sd : SideOk w D
  sep : ∀ k, D.fp k → ¬ U.fp wb k ∧ ¬ U.cb k
  m1 : (U.rl 1).length % 4 = 0
  m2 : (U.rl 2).length % 4 = 0

structure GameOut (w : World) (wb : Nat) (U : LawV) (D : SideD) (U' : LawV) (D' : SideD) (w' : World) : Prop where
  at_ : GameAt w' wb U' D'
  fr : Fr w w' (fun k => U.fp wb k ∨ D.fp k)
  fpU : ∀ k, U'.fp wb k → U.fp wb k ∨ w.heap.size ≤ k
  cbU : ∀ k, U'.cb k → U.cb k ∨ w.heap.size ≤ k
  fpD : ∀ k, D'.fp k → D.fp k ∨ w.heap.size ≤ k
  sb : D'.sb = D.sb
  r0 : U'.rl 0 = U.rl 0
  len : ∀ j, j < 6 → (U'.rl j).length ≤ (U.rl j).length + 4

theorem GameAt.frame {w w' : World} {wb : Nat} {U : LawV} {D : SideD} (h : GameAt w wb U D) (hf : Fr w w' (fun _ => False)) : GameAt w' wb U D :=
  ⟨h.law.frame hf (fun _ _ => id), h.good.frame hf (fun _ _ => id), h.sd.frame hf (fun _ _ => id), h.sep, h.m1, h.m2⟩

theorem GameOut.same {w w' : World} {wb : Nat} {U : LawV} {D : SideD} (h : GameAt w wb U D) (hf : Fr w w' (fun _ => False)) : GameOut w wb U D U D w' :=
  ⟨h.frame hf, hf.mono (fun _ => False.elim), fun _ hk => .inl hk, fun _ hk => .inl hk, fun _ hk => .inl hk, rfl, rfl, fun _ _ => by omega⟩

theorem GoodL.addE {w w' : World} {wb : Nat} {U U' : LawV} {vs : List Value} {X : Nat → Prop} (hL : LawAt w wb U) (h : GoodL w U) (ha : AddOut w wb U U' 1 vs X w') (hX : ∀ k, X k → ¬ U.cb k) (hl : vs.length = 4)
    (hf : ∀ v ∈ vs, Filled w' (entFill (-1 - ((U.rl 1).length : Int))) v) (hm : (U.rl 1).length % 4 = 0) : GoodL w' U' := by
  have h1 := h.frame ha.out.fr (fun k hk hs => by rcases hs with e | e; exact hL.cont k hk e; exact hX k e hk)
  refine ⟨fun i v hv => ?_, fun i v hv => h1.d i v (by rw [ha.rl] at hv; simpa using hv), fun i v hv => h1.i i v (by rw [ha.rl] at hv; simpa using hv), by rw [ha.rl]; simpa using h1.bx, fun i v x hv hx => h1.b i v x (by rw [ha.rl] at hv; simpa using hv) (by rw [ha.rl] at hx; simpa using hx)⟩
  rw [ha.rl] at hv
  simp only [if_true] at hv
  by_cases hi : i < (U.rl 1).length
  · exact h1.e i v (by rw [List.getElem?_append_left hi] at hv; exact hv)
  · rw [List.getElem?_append_right (by omega)] at hv
    have hlt := (List.getElem?_eq_some_iff.1 hv).1
    have e : i / 4 * 4 = (U.rl 1).length := by omega
    rw [e]
    exact hf v (mem_of_get hv)

theorem GoodL.addD {w w' : World} {wb : Nat} {U U' : LawV} {vs : List Value} {X : Nat → Prop} (hL : LawAt w wb U) (h : GoodL w U) (ha : AddOut w wb U U' 2 vs X w') (hX : ∀ k, X k → ¬ U.cb k) (hl : vs.length = 4)
    (hf : ∀ v ∈ vs, Filled w' (doomFill (-1 - ((U.rl 2).length : Int))) v) (hm : (U.rl 2).length % 4 = 0) : GoodL w' U' := by
  have h1 := h.frame ha.out.fr (fun k hk hs => by rcases hs with e | e; exact hL.cont k hk e; exact hX k e hk)
  refine ⟨fun i v hv => h1.e i v (by rw [ha.rl] at hv; simpa using hv), fun i v hv => ?_, fun i v hv => h1.i i v (by rw [ha.rl] at hv; simpa using hv), by rw [ha.rl]; simpa using h1.bx, fun i v x hv hx => h1.b i v x (by rw [ha.rl] at hv; simpa using hv) (by rw [ha.rl] at hx; simpa using hx)⟩
  rw [ha.rl] at hv
  simp only [if_true] at hv
  by_cases hi : i < (U.rl 2).length
  · exact h1.d i v (by rw [List.getElem?_append_left hi] at hv; exact hv)
  · rw [List.getElem?_append_right (by omega)] at hv
    have hlt := (List.getElem?_eq_some_iff.1 hv).1
    have e : i / 4 * 4 = (U.rl 2).length := by omega
    rw [e]
    exact hf v (mem_of_get hv)

/-- The game behind a list that was kept; the list's block is new. -/
theorem GameAt.kept {w W w' : World} {wb : Nat} {U U' : LawV} {D : SideD} {li : Nat} {vs : List Value} {X : Nat → Prop} (h : GameAt w wb U D) (hf : Fr w W (fun _ => False)) (ha : AddOut W wb U U' li vs X w') (hX : ∀ k, X k → w.heap.size ≤ k) (hl : vs.length = 4) (hli : li = 1 ∨ li = 2)
    (hg : GoodL w' U') : GameOut w wb U D U' D w' := by
  have ho := ha.out
  have hfr : Fr w w' (fun k => U.fp wb k ∨ D.fp k) := (hf.mono (fun _ => False.elim)).step ho.fr (fun k hk => by rcases hk with e | e; exact .inl (.inl e); exact .inr (hX k e))
  have hsz := hf.size
  refine ⟨⟨ho.at_, hg, h.sd.frame ((hf.mono (fun _ => False.elim) : Fr w W (fun k => U.fp wb k ∨ X k)).step ho.fr (fun k hk => .inl hk)) (fun k hk hs => ?_), fun k hk => ⟨fun e => ?_, fun e => ?_⟩, ?_, ?_⟩, hfr, fun k hk => (ho.fp k hk).imp id (fun e => by omega), fun k hk => ?_, fun k hk => .inl hk, rfl, ?_, ?_⟩
  · rcases hs with e | e
    · exact (h.sep k hk).1 e
    · have := h.sd.lt hk; have := hX k e; omega
  · rcases ho.fp k e with e | e
    · exact (h.sep k hk).1 e
    · have := h.sd.lt hk; omega
  · rcases ho.cb k e with e | e | e
    · exact (h.sep k hk).2 e
    · have := h.sd.lt hk; have := hX k e; omega
    · have := h.sd.lt hk; omega
  · rw [ha.rl]; have := h.m1; rcases hli with rfl | rfl
    · simp [hl]; omega
    · simpa using this
  · rw [ha.rl]; have := h.m2; rcases hli with rfl | rfl
    · simpa using this
    · simp [hl]; omega
  · rcases ho.cb k hk with e | e | e
    · exact .inl e
    · exact .inr (hX k e)
    · exact .inr (by omega)
  · rw [ha.rl]; rcases hli with rfl | rfl <;> simp
  · intro j hj
    rw [ha.rl]
    dsimp only
    split
    · rw [List.length_append, hl]; omega
    · omega

end Go.Proofs.YtdpjgflemddekaaGreatDoor
/- The statements' own functions: caps, doomed. -/
namespace Go.Proofs.YtdpjgflemddekaaGreatDoor
open Go.RowKit

structure AEntAt (w : World) (g o : Nat) (e : AEnt) : Prop where
  c0 : w.cell? ⟨g, o, none⟩ = some (.int .i64 e.node)
  c1 : w.cell? ⟨g, o + 1, none⟩ = some (.int .i64 e.index)
  c2 : w.cell? ⟨g, o + 2, none⟩ = some (.int .i64 e.ty)
  c3 : w.cell? ⟨g, o + 3, none⟩ = some (.int .i64 e.base)
  c4 : w.cell? ⟨g, o + 4, none⟩ = some (.int .i64 e.bits)
  c5 : w.cell? ⟨g, o + 5, none⟩ = some (.int .i64 e.rights)
  c6 : w.cell? ⟨g, o + 6, none⟩ = some (.int .i64 e.badge)
  c7 : w.cell? ⟨g, o + 7, none⟩ = some (.int .i64 e.mark)
  c8 : w.cell? ⟨g, o + 8, none⟩ = some (.int .i64 e.parent)
  c9 : w.cell? ⟨g, o + 9, none⟩ = some (.int .i64 e.place)

theorem aentAt {w : World} {g : Nat} {L : List AEnt} (h : ∀ i (hi : i < L.length) j x, (L[i].vals)[j]? = some x → w.cell? ⟨g, i * 10 + j, none⟩ = some x) (i : Nat) (hi : i < L.length) : AEntAt w g (i * 10) L[i] :=
  ⟨h i hi 0 _ rfl, h i hi 1 _ rfl, h i hi 2 _ rfl, h i hi 3 _ rfl, h i hi 4 _ rfl, h i hi 5 _ rfl, h i hi 6 _ rfl, h i hi 7 _ rfl, h i hi 8 _ rfl, h i hi 9 _ rfl⟩

/-- What the program's Caps tells, and the document's. -/
theorem SideOk.caps {w : World} {D : SideD} (h : SideOk w D) (hgl : Glob w) :
    Calls Tryz.prog 13 #[.pointer (some ⟨D.kx, 0, none⟩)] w fun e w' => ∃ v, e = .returned v ∧ w'.ownsRow w.heap.size 48 10 v D.R.L.length (rowA (capsTo D.R.L D.R.L.length)) ∧ Fr w w' (fun _ => False) := by
  obtain ⟨F, hF⟩ := h.inv.rel.tree
  obtain ⟨y, hy, hk⟩ := hF.roots
  obtain ⟨x, hx, hp, hkx⟩ := look_of_st (V := D.VK) (s := nowhere) (x := y) hy
  have hcaps := h.inv.rel.caps hF
  have hl : F.slots.length = D.R.L.length := by rw [hF.slots]; simp
  refine (kcaps_any D.VK D.kx w h.ker hgl F x hF.stands hx (hkx.trans hk) (fun s hs => (mem_slots h.inv.rel hF).1 hs) (by have := h.inv.len; omega)).mono ?_
  rintro e w' ⟨v, he, ho, hf⟩
  refine ⟨v, he, ?_, hf⟩
  rw [hcaps, hl] at ho
  exact ho

set_option maxRecDepth 100000 in
set_option maxHeartbeats 4000000 in
theorem scaps_any (wb : Nat) (U : LawV) (D : SideD) (w : World) (h : GameAt w wb U D) (hgl : Glob w) (hn : ∀ j, j < 6 → (U.rl j).length ≤ 80000000) :
    Calls Tryz.prog 28 #[.pointer (some ⟨wb, 0, none⟩), .pointer (some ⟨D.sb, 0, none⟩)] w fun e w' => e = .returned (.bool true) ∧ ∃ U', GameOut w wb U D U' D w' := by
  have s0 : w.cell? ⟨D.sb, 0, none⟩ = some (.pointer (some ⟨D.kx, 0, none⟩)) := cell_of_blk (o := 0) h.sd.side rfl
  have s1 : w.cell? ⟨D.sb, 1, none⟩ = some (.pointer (some ⟨D.ky, 0, none⟩)) := cell_of_blk (o := 1) h.sd.side rfl
  have hlen := h.sd.inv.len
  have hup := fun i hi => h.sd.inv.up i hi
  generalize hL : capsTo D.R.L D.R.L.length = L
  have hLl : L.length = D.R.L.length := by rw [← hL]; exact capsTo_len _ _ (Nat.le_refl _)
  have hcap := h.sd.caps hgl
  rw [hL] at hcap
  go_enter Tryz.func28, Tryz.ntmps28
  go_upto_region 2 with (go_at_call 13; refine hcap.mono ?_; rintro e W1 ⟨lv, rfl, hl1, hf1⟩)
  clear hcap
  have s1' := hf1.cell s1 id
  have hcr := rcaps_any D.R D.VR D.ky W1 (h.sd.ref.frame hf1 (fun _ _ => id)) (by omega) (fun i hi => by have := hup i hi; omega)
  rw [hL] at hcr
  go_upto_region 3 with (go_at_call 52; refine hcr.mono ?_; rintro e W2 ⟨mv, rfl, hm2, hf2⟩)
  clear hcr
  have hl2 := hf2.owns hl1 (fun _ _ => id)
  have hf02 : Fr w W2 (fun _ => False) := hf1.step hf2 (fun _ => False.elim)
  rw [← hLl] at hl2 hm2
  obtain ⟨A, cap, rfl, hA⟩ := lies_of_owns (f := AEnt.vals) AEnt.vals_len hl2
  obtain ⟨B, cap2, rfl, hB⟩ := lies_of_owns (f := AEnt.vals) AEnt.vals_len hm2
  have hlL : L.length ≤ 16384 := by omega
  have hlA : ∀ k, (Value.slice A L.length cap).ownBlock = some k → w.heap.size ≤ k := fun k hk => (hl2.lt k hk).1
  have hl3 := owns_mono hl2 (Nat.zero_le _)
  clear hL hLl hup hlen hl1 hm2 hl2 s1'
  go_wp2
  go_loopw [7, 8] (fun ok i w' => (∃ q, w' = W2.drewN q) ∧ ok = .bool true ∧ ∃ k : Nat, k ≤ L.length ∧ i = .int .i64 k) (fun _ i _ => L.length - (intOf i).toNat)
  case atStart => exact ⟨⟨0, rfl⟩, rfl, 0, Nat.zero_le _, rfl⟩
  case round =>
    obtain ⟨⟨q, rfl⟩, rfl, k, hk, rfl⟩ := hrel
    by_cases hlt : k < L.length
    · obtain ⟨g, rfl, hc⟩ := hA (by omega)
      obtain ⟨g2, rfl, hc2⟩ := hB (by omega)
      obtain ⟨e0, e1, e2, e3, e4, e5, e6, e7, e8, e9⟩ := aentAt hc k hlt
      obtain ⟨d0, d1, d2, d3, d4, d5, d6, d7, d8, d9⟩ := aentAt hc2 k hlt
      clear hA hB hc hc2
      go_wp2
      go_quiet (fail)
      go_wp2
      go_roundw
      case rel => exact ⟨⟨_, rfl⟩, rfl, k + 1, by omega, by go_num⟩
      case measure => simp [intOf]; omega
    · have hf3 : Fr w (W2.drewN q) (fun _ => False) := hf02.drewN q
      have hl4 : (W2.drewN q).ownsRow 0 48 10 (.slice A L.length cap) L.length (rowA L) := hl3
      clear hA hB hl3
      generalize W2.drewN q = W3 at *
      have hkept := kept_any wb U W3 (h.law.frame hf3 (fun _ _ => id)) (h.good.frame hf3 (fun _ _ => id)) (fun j hj => by have := hn j hj; omega)
      go_upto_region 9 with (go_at_call 16; refine hkept.mono ?_; rintro e W4 ⟨rfl, q4, rfl⟩)
      have hf4 : Fr w (W3.drewN q4) (fun _ => False) := hf3.drewN q4
      have hl5 : (W3.drewN q4).ownsRow 0 48 10 (.slice A L.length cap) L.length (rowA L) := hl4
      clear hkept hl4
      generalize W3.drewN q4 = W5 at *
      have hke := keepE_any wb U W5 (h.law.frame hf4 (fun _ _ => id)) _ _ _ hl5 (fun k hk e => by have := h.law.lt e; have := hlA k hk; omega) (by omega) (by have := hn 1 (by omega); omega)
      go_wp2_with (go_at_call 53; refine hke.mono ?_; rintro e W6 ⟨rfl, U', vs, hv4, hadd, hfil⟩)
      go_ret
      refine ⟨rfl, U', h.kept hf4 hadd hlA hv4 (.inl rfl) ?_⟩
      exact GoodL.addE (h.law.frame hf4 (fun _ _ => id)) (h.good.frame hf4 (fun _ _ => id)) hadd (fun k hk e => by have := h.law.clt k e; have := hlA k hk; omega) hv4 hfil h.m1

set_option maxRecDepth 100000 in
set_option maxHeartbeats 4000000 in
theorem sdoomed_any (wb : Nat) (U : LawV) (D : SideD) (w : World) (h : GameAt w wb U D) (hn : ∀ j, j < 6 → (U.rl j).length ≤ 80000000) :
    Calls Tryz.prog 29 #[.pointer (some ⟨wb, 0, none⟩), .pointer (some ⟨D.sb, 0, none⟩)] w fun e w' => e = .returned (.bool true) ∧ ∃ U', GameOut w wb U D U' D w' := by
  have s0 : w.cell? ⟨D.sb, 0, none⟩ = some (.pointer (some ⟨D.kx, 0, none⟩)) := cell_of_blk (o := 0) h.sd.side rfl
  have s1 : w.cell? ⟨D.sb, 1, none⟩ = some (.pointer (some ⟨D.ky, 0, none⟩)) := cell_of_blk (o := 1) h.sd.side rfl
  have hdo := doomed_any D.VK D.kx w h.sd.ker h.sd.dk
  go_enter Tryz.func29, Tryz.ntmps29
  go_upto_region 2 with (go_at_call 54; refine hdo.mono ?_; rintro e W1 ⟨rfl, hf1⟩)
  clear hdo
  have s1' := hf1.cell s1 id
  have d1 : W1.cell? ⟨D.ky, 1028, none⟩ = some (.slice none 0 0) := by
    obtain ⟨c, hc, hcc⟩ := h.sd.ref.blk
    rw [← h.sd.dr]
    exact cell_of_blk (hf1.same hc id) hcc.d
  go_upto_region 4 with fail
  go_wp2
  refine wp_loop_rounds 1 ?_
  rw [rounds_succ]
  have hkept := kept_any wb U W1 (h.law.frame hf1 (fun _ _ => id)) (h.good.frame hf1 (fun _ _ => id)) (fun j hj => by have := hn j hj; omega)
  go_upto_region 9 with (go_at_call 16; refine hkept.mono ?_; rintro e W4 ⟨rfl, q4, rfl⟩)
  have hf4 : Fr w (W1.drewN q4) (fun _ => False) := hf1.drewN q4
  clear hkept d1 s1'
  generalize W1.drewN q4 = W5 at *
  have hke := keepD_any wb U W5 (h.law.frame hf4 (fun _ _ => id)) (.slice none 0 0) 0 [] (World.ownsRow_nil _ _ _ _) (fun k hk => by cases hk) (by omega) (by have := hn 2 (by omega); omega)
  go_wp2_with (go_at_call 55; refine hke.mono ?_; rintro e W6 ⟨rfl, U', vs, hv4, hadd, hfil⟩)
  go_ret
  refine ⟨rfl, U', h.kept hf4 hadd (fun k hk => by cases hk) hv4 (.inr rfl) ?_⟩
  exact GoodL.addD (h.law.frame hf4 (fun _ _ => id)) (h.good.frame hf4 (fun _ _ => id)) hadd (fun k hk => by cases hk) hv4 hfil h.m2
end Go.Proofs.YtdpjgflemddekaaGreatDoor
/- The law's head: what the document's second example comes to, plainly. -/
namespace Go.Proofs.YtdpjgflemddekaaGreatDoor
open Go.RowKit Go.Shelf

def callF1 : Cl := ⟨1, [0], [3], 5, 3, 2, 0, 0, 0, 0⟩
def callF2 : Cl := ⟨10, [3], [], 0, 0, 0, 0, 0, 9, 7⟩
def callF3 : Cl := ⟨9, [3], [], 0, 0, 0, 0, 0, 0, 7⟩
def bootRef : Ref := ⟨bootList, [⟨0, 6⟩], [⟨64, 1, 0, 0, 0, 0⟩]⟩
def k1 : Ker := (doK bootK 64 callF1).2
def r1 : Ref := (doR bootRef 64 callF1).2
def k2 : Ker := putWs k1 87 9

theorem k1_ans : (doK bootK 64 callF1).1 = 0 := by rfl
theorem k1_inv : Inv r1 k1 := (do_agree boot_inv 64 callF1 (.inl (by decide))).2
theorem k1_thr : k1.thr 64 = some ⟨1, 0, 0, 0, 0⟩ := by rfl
theorem k1_find : findK k1 0 [3] = some ⟨0, 3⟩ := by rfl
theorem k1_held : k1.held ⟨0, 3⟩ = some (.frame 80 3 7) := by rfl
theorem k2_find : findK k2 0 [3] = some ⟨0, 3⟩ := by rfl
theorem k2_rel : Rel r1 k2 := have h := k1_inv.rel; ⟨h.cap, h.emp, h.tree, h.nodes, h.thr⟩
theorem k2_ws : k2.ws = fun k => if k = 87 then 9 else 0 := by funext k; show (if k = 87 then 9 else k1.ws k) = _; rw [k1_inv.ws]
theorem r1_list : r1.L = [⟨0, 0, 1, 0, 10, 7, 0, 96, 0⟩, ⟨0, 1, 2, 0, 6, 7, 0, 0, 1⟩, ⟨0, 2, 4, 64, 4, 7, 0, 0, 1⟩, ⟨0, 3, 5, 80, 3, 7, 0, 0, 1⟩, ⟨0, 4, 5, 88, 3, 7, 0, 0, 1⟩] := by rfl
theorem k2_kids {s : Slot} {x : Std} (hx : k2.st s = some x) : x.kids.length ≤ 16384 := k1_inv.kids (s := s) hx
end Go.Proofs.YtdpjgflemddekaaGreatDoor
/- The law's head: the document's second example, walked. -/
namespace Go.Proofs.YtdpjgflemddekaaGreatDoor
open Go.RowKit Go.Shelf

/-- A kernel of the head's, in memory. -/
def FirstAt (w0 w : World) (kb : Nat) (K : Ker) : Prop :=
  ∃ V, KerAt w kb V ∧ V.ker = K ∧ V.dv = .slice none 0 0 ∧ (∀ k, V.fp kb k → w0.heap.size ≤ k) ∧ Fr w0 w (fun _ => False)

theorem FirstAt.next {w0 w w' : World} {kb : Nat} {K : Ker} (h : FirstAt w0 w kb K) (hf : Fr w w' (fun _ => False)) : FirstAt w0 w' kb K := by
  obtain ⟨V, h1, h2, h3, h4, h5⟩ := h
  exact ⟨V, h1.frame hf (fun _ _ => id), h2, h3, h4, h5.step hf (fun _ => False.elim)⟩

theorem FirstAt.out {w0 w w' : World} {kb : Nat} {V : KerV} {K : Ker} (hd : V.dv = .slice none 0 0) (h4 : ∀ k, V.fp kb k → w0.heap.size ≤ k) (h5 : Fr w0 w (fun _ => False)) (h : KOut w kb V K w') : FirstAt w0 w' kb K := by
  obtain ⟨V', a1, a2, a3, a4, a5⟩ := h
  exact ⟨V', a1, a2, a3.trans hd, fun k hk => (a5 k hk).elim (h4 k) (fun h => Nat.le_trans h5.size h), h5.step a4 (fun k hk => .inr (h4 k hk))⟩

theorem FirstAt.base {w0 w : World} {kb : Nat} {K : Ker} (h : FirstAt w0 w kb K) : Fr w0 w (fun _ => False) := by
  obtain ⟨V, h1, h2, h3, h4, h5⟩ := h; exact h5

theorem ints_one {w : World} {b : Nat} {x : Int} {t : TypeId} (h : w.heap[b]? = some (.cells #[.int .i64 x] t (0, 0))) : IntsAt w (.slice (some ⟨b, 0, none⟩) 1 1) [x] :=
  ⟨_, _, rfl, fun _ => ⟨b, 0, rfl, fun i hi => by have : i = 0 := by simpa using hi
                                                  subst this; exact cell_of_blk (o := 0) h rfl⟩⟩
theorem ints_nil (w : World) : IntsAt w (.slice none 0 0) [] := ⟨none, 0, rfl, fun h => absurd h (by decide)⟩

theorem look_kids {V : KerV} (hk : ∀ s x, V.ker.st s = some x → x.kids.length ≤ 16384) : ∀ p x, look p V.M = some x → x.kids.length < 1000000 := fun p x hx => by
  have := hk p x.std (by simp [KerV.ker, stOf, hx])
  simp only [RStd.std] at this; omega

theorem first_boot (w : World) (hgl : Glob w) : Calls Tryz.prog 10 #[] w fun e w' => ∃ kb, e = .returned (.pointer (some ⟨kb, 0, none⟩)) ∧ FirstAt w w' kb bootK :=
  (boot_any w hgl.n0 hgl.n1).mono fun _ _ ⟨kb, V, h1, h2, h3, h4, h5, h6⟩ => ⟨kb, h1, V, h2, h3, h4, h5, h6⟩

theorem first_do1 {w0 : World} (hgl : Glob w0) (W : World) (kb bA bT : Nat) (h : FirstAt w0 W kb bootK) {t t' : TypeId} (hA : W.heap[bA]? = some (.cells #[.int .i64 0] t (0, 0))) (hT : W.heap[bT]? = some (.cells #[.int .i64 3] t' (0, 0))) :
    Calls Tryz.prog 11 #[.pointer (some ⟨kb, 0, none⟩), .int .i64 64, .agg #[.int .i64 1, .slice (some ⟨bA, 0, none⟩) 1 1, .slice (some ⟨bT, 0, none⟩) 1 1, .int .i64 5, .int .i64 3, .int .i64 2, .int .i64 0, .int .i64 0, .int .i64 0, .int .i64 0], .slice none 0 0] W
      fun e w' => e = .returned (.tuple #[.int .i64 0, .int .i64 0]) ∧ FirstAt w0 w' kb k1 := by
  obtain ⟨V, h1, h2, h3, h4, h5⟩ := h
  have hx := kdo_any V kb callF1 (.slice (some ⟨bA, 0, none⟩) 1 1) (.slice (some ⟨bT, 0, none⟩) 1 1) none 0 0 64 W
    ⟨h1, ints_one hA, ints_one hT, by decide, by decide, fun _ _ _ e => by cases e; decide, fun _ _ _ e => by cases e; decide, look_kids (by rw [h2]; exact fun s x hx => boot_inv.kids hx)⟩ h3 (Glob.fr hgl h5) (by rw [h2]; exact boot_inv.retypeOk) (by rw [h2]; exact boot_inv.rel.treeOk) (.inl (by decide))
  refine hx.mono ?_
  rintro e w' ⟨he, ho⟩
  rw [h2] at ho he
  rw [k1_ans] at he
  exact ⟨he, FirstAt.out h3 h4 h5 ho⟩

theorem first_do2 {w0 : World} (W : World) (kb bA : Nat) (h : FirstAt w0 W kb k1) {t : TypeId} (hA : W.heap[bA]? = some (.cells #[.int .i64 3] t (0, 0))) :
    Calls Tryz.prog 11 #[.pointer (some ⟨kb, 0, none⟩), .int .i64 64, .agg #[.int .i64 10, .slice (some ⟨bA, 0, none⟩) 1 1, .slice none 0 0, .int .i64 0, .int .i64 0, .int .i64 0, .int .i64 0, .int .i64 0, .int .i64 9, .int .i64 7], .slice none 0 0] W
      fun e w' => e = .returned (.tuple #[.int .i64 0, .int .i64 0]) ∧ FirstAt w0 w' kb k2 := by
  obtain ⟨V, h1, h2, h3, h4, h5⟩ := h
  have hx := do_store V kb callF2 (.slice (some ⟨bA, 0, none⟩) 1 1) (.slice none 0 0) none 0 0 64 W
    ⟨h1, ints_one hA, ints_nil W, by decide, by decide, fun _ _ _ e => by cases e; decide, fun _ _ _ e => by cases e; decide, look_kids (by rw [h2]; exact fun s x hx => k1_inv.kids hx)⟩ (by rw [h2]; exact k1_thr) rfl rfl (by rw [h2]; exact k1_find) (by rw [h2]; exact k1_held) rfl rfl
  refine hx.mono ?_
  rintro e w' ⟨he, ho⟩
  rw [h2] at ho
  exact ⟨he, FirstAt.out h3 h4 h5 ho⟩

theorem first_do3 {w0 : World} (W : World) (kb bA : Nat) (h : FirstAt w0 W kb k2) {t : TypeId} (hA : W.heap[bA]? = some (.cells #[.int .i64 3] t (0, 0))) :
    Calls Tryz.prog 11 #[.pointer (some ⟨kb, 0, none⟩), .int .i64 64, .agg #[.int .i64 9, .slice (some ⟨bA, 0, none⟩) 1 1, .slice none 0 0, .int .i64 0, .int .i64 0, .int .i64 0, .int .i64 0, .int .i64 0, .int .i64 0, .int .i64 7], .slice none 0 0] W
      fun e w' => e = .returned (.tuple #[.int .i64 9, .int .i64 0]) ∧ FirstAt w0 w' kb k2 := by
  obtain ⟨V, h1, h2, h3, h4, h5⟩ := h
  have h9 : V.ws 87 = 9 := by have := congrArg Ker.ws h2; rw [k2_ws] at this; exact congrFun this 87
  have hx := do_load V kb callF3 (.slice (some ⟨bA, 0, none⟩) 1 1) (.slice none 0 0) none 0 0 64 W
    ⟨h1, ints_one hA, ints_nil W, by decide, by decide, fun _ _ _ e => by cases e; decide, fun _ _ _ e => by cases e; decide, look_kids (by rw [h2]; exact fun s x hx => k2_kids hx)⟩ (t := ⟨1, 0, 0, 0, 0⟩) (by rw [h2]; exact k1_thr) rfl rfl (s := ⟨0, 3⟩) (by rw [h2]; exact k2_find) (by rw [h2]; exact k1_held) rfl (by rw [h9]; decide)
  refine hx.mono ?_
  rintro e w' ⟨he, ho⟩
  rw [h2] at ho
  rw [h9] at he
  exact ⟨he, FirstAt.out h3 h4 h5 ho⟩

theorem first_word {w0 : World} (W : World) (kb : Nat) (h : FirstAt w0 W kb k2) :
    Calls Tryz.prog 12 #[.pointer (some ⟨kb, 0, none⟩), .int .i64 87] W fun e w' => e = .returned (.tuple #[.int .i64 9, .int .i64 0]) ∧ w' = W := by
  obtain ⟨V, h1, h2, h3, h4, h5⟩ := h
  have hw : V.ws = fun k => if k = 87 then 9 else 0 := by have := congrArg Ker.ws h2; rw [k2_ws] at this; exact this
  refine (kword_any V kb 87 W h1 (fun i _ => by rw [hw]; dsimp only; split <;> decide)).mono ?_
  rintro e w' ⟨he, ho⟩
  refine ⟨?_, ho⟩
  rw [he, hw]; rfl

/-- What the head asks of the list. -/
structure CapsF (w : World) (g : Nat) : Prop where
  mark : w.cell? ⟨g, 7, none⟩ = some (.int .i64 96)
  base : w.cell? ⟨g, 43, none⟩ = some (.int .i64 88)
  index : w.cell? ⟨g, 41, none⟩ = some (.int .i64 4)

theorem first_caps {w0 : World} (hgl : Glob w0) (W : World) (kb : Nat) (h : FirstAt w0 W kb k2) :
    Calls Tryz.prog 13 #[.pointer (some ⟨kb, 0, none⟩)] W fun e w' => ∃ g cap, e = .returned (.slice (some ⟨g, 0, none⟩) 5 cap) ∧ CapsF w' g ∧ Fr w0 w' (fun _ => False) := by
  obtain ⟨V, h1, h2, h3, h4, h5⟩ := h
  obtain ⟨F, hF⟩ := k2_rel.tree
  obtain ⟨y, hy, hk⟩ := hF.roots
  rw [← h2] at hy
  obtain ⟨x, hx, hp, hkx⟩ := look_of_st (V := V) (s := nowhere) (x := y) hy
  have hcaps := k2_rel.caps hF
  have hl : F.slots.length = 5 := by rw [hF.slots, r1_list]; rfl
  have hst : F.In (stOf V.M) nowhere := by have := hF.stands; rw [← h2] at this; exact this
  refine (kcaps_any V kb W h1 (Glob.fr hgl h5) F x hst hx (hkx.trans hk) (fun s hs => by rw [h2]; exact (mem_slots k2_rel hF).1 hs) (by omega)).mono ?_
  rintro e w' ⟨v, he, ho, hf⟩
  rw [h2, hcaps, hl, r1_list] at ho
  obtain ⟨A, cap, rfl, hA⟩ := lies_of_owns (f := AEnt.vals) AEnt.vals_len ho
  obtain ⟨g, rfl, hc⟩ := hA (by decide)
  have e0 := aentAt hc 0 (by decide)
  have e4 := aentAt hc 4 (by decide)
  exact ⟨g, cap, he, ⟨e0.c7, e4.c3, e4.c1⟩, h5.step hf (fun _ => False.elim)⟩
end Go.Proofs.YtdpjgflemddekaaGreatDoor
/- The law's head, walked to its end. -/
namespace Go.Proofs.YtdpjgflemddekaaGreatDoor
open Go.RowKit Go.Shelf

theorem two_new (W : World) (o o' : Obj) : ((W.alloc o).alloc o').heap[W.heap.size]? = some o ∧ ((W.alloc o).alloc o').heap[W.heap.size + 1]? = some o' := by
  have h := heap_alloc_new (W.alloc o) o'
  rw [World.size_alloc] at h
  exact ⟨((Fr.refl (W.alloc o) (fun _ => False)).alloc o').same (heap_alloc_new W o) id, h⟩

set_option maxRecDepth 100000 in
set_option maxHeartbeats 4000000 in
theorem first_any (w : World) (hgl : Glob w) :
    Calls Tryz.prog 7 #[] w fun e w' => e = .returned (.bool true) ∧ Fr w w' (fun _ => False) := by
  go_enter Tryz.func7, Tryz.ntmps7
  go_upto_region 4 with (go_at_call 10; refine (first_boot _ hgl).mono ?_; rintro e W1 ⟨kb, rfl, h1⟩)
  have c1 := first_do1 hgl ((W1.alloc (.cells #[.int .i64 0] 3)).alloc (.cells #[.int .i64 3] 3)) kb W1.heap.size (W1.heap.size + 1) (h1.next (((Fr.refl _ _).alloc _).alloc _)) (two_new W1 _ _).1 (two_new W1 _ _).2
  go_upto_region 5 with (go_at_call 11; refine c1.mono ?_; rintro e W2 ⟨rfl, h2⟩)
  clear c1 h1
  have c2 := first_do2 (W2.alloc (.cells #[.int .i64 3] 3)) kb W2.heap.size (h2.next ((Fr.refl _ _).alloc _)) (heap_alloc_new _ _)
  go_upto_region 6 with (go_at_call 11; refine c2.mono ?_; rintro e W3 ⟨rfl, h3⟩)
  clear c2 h2
  have c3 := first_word W3 kb h3
  go_upto_region 7 with (go_at_call 12; refine c3.mono ?_; rintro e W4 ⟨rfl, rfl⟩)
  clear c3
  have c4 := first_do3 (W4.alloc (.cells #[.int .i64 3] 3)) kb W4.heap.size (h3.next ((Fr.refl _ _).alloc _)) (heap_alloc_new _ _)
  go_upto_region 8 with (go_at_call 11; refine c4.mono ?_; rintro e W5 ⟨rfl, h5⟩)
  clear c4 h3
  have c5 := first_caps hgl W5 kb h5
  go_upto_region 9 with (go_at_call 13; refine c5.mono ?_; rintro e W6 ⟨g, cap, rfl, h6, hf6⟩)
  clear c5 h5
  obtain ⟨m1, m2, m3⟩ := h6
  go_wp2
  go_ret
  exact ⟨rfl, hf6⟩
end Go.Proofs.YtdpjgflemddekaaGreatDoor

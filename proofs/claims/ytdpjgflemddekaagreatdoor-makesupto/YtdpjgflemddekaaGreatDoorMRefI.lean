/- The document's answer: Retype. -/
import Derived.Test.YtdpjgflemddekaaGreatDoorMRefC
import Derived.Test.YtdpjgflemddekaaGreatDoorMBaseRet
import Derived.Deep.RegionHeld
import Derived.Deep.RegionLaw
import Derived.Deep.DeepCutAuto
import Derived.Deep.CutBlock
namespace Go.Proofs.YtdpjgflemddekaaGreatDoor
open Go.RowKit

theorem infoLiv : (Tryz.prog.info? 110).map (fun i => (i.zero, i.size, i.bytes)) = some (some (.agg #[.int .i64 0, .int .i64 0]), 2, 16) := by kernel_rfl
theorem infoThr : (Tryz.prog.info? 112).map (fun i => (i.zero, i.size, i.bytes)) = some (some (.agg #[.int .i64 0, .int .i64 0, .int .i64 0, .int .i64 0, .int .i64 0, .int .i64 0]), 6, 48) := by kernel_rfl

/-- What a Retype leaves. -/
def RetOut (w : World) (kb : Nat) (V : RefV) (y : Int × Ref) (e' : Ending) (w' : World) : Prop :=
  e' = .returned (.int .i64 y.1) ∧ ∃ lv' nv' tv', RefAt w' kb y.2 { V with lv := lv', nv := nv', tv := tv' } ∧ Fr w w' (V.fp kb) ∧
    (∀ k, ({ V with lv := lv', nv := nv', tv := tv' } : RefV).fp kb k → V.fp kb k ∨ w.heap.size ≤ k)

theorem ret_fail {w W1 : World} {kb : Nat} {R : Ref} {V : RefV} (h : RefAt w kb R V) (hf : Fr w W1 (fun _ => False)) {x : Int} {y : Int × Ref} (hy : y = (x, R)) :
    RetOut w kb V y (.returned (.int .i64 x)) W1 := by
  subst hy
  exact ⟨rfl, V.lv, V.nv, V.tv, h.frame hf (fun _ _ => id), hf.mono (fun _ => False.elim), fun k hk => .inl hk⟩

/-- What holds when i objects have been made. -/
def RetInv (w : World) (kb : Nat) (R1 : Ref) (V : RefV) (root : Int) (p : Nat) (up n ix : Int) (c : Cl) (s : Int) (k : Nat) (box : Obj) (iv : Value) (w' : World) : Prop :=
  ∃ (i : Nat) (lv nv tv : Value), i ≤ k ∧ iv = .int .i64 i ∧ RefAt w' kb (retR R1 root p up n ix c s i) { V with lv := lv, nv := nv, tv := tv } ∧ Fr w w' (V.fp kb) ∧ w.heap.size + 4 ≤ w'.heap.size ∧
    (∀ r, ({ V with lv := lv, nv := nv, tv := tv } : RefV).fp kb r → V.fp kb r ∨ w.heap.size + 4 ≤ r) ∧ w'.heap[w.heap.size]? = some box

set_option maxRecDepth 100000 in
set_option maxHeartbeats 4000000 in
theorem rretype_any (R : Ref) (V : RefV) (kb : Nat) (root : Int) (c : Cl) (av tv : Value) (p : Nat) (w : World) (h : RefAt w kb R V)
    (hn : R.L.length ≤ 900000) (hm : R.N.length ≤ 900000) (ho : R.T.length ≤ 900000) (hb : ∀ l ∈ R.N, 0 ≤ l.bits ∧ l.bits ≤ 20) (hp : p < R.L.length) (hl : c.to.length ≤ 9000000000000000000)
    (hN1 : 0 < R.N.length) (hT1 : 0 < R.T.length) (hu0 : 0 ≤ R.L[p].up) (hu1 : R.L[p].up ≤ 900000) (htv : IntsAt w tv c.to)
    (hm0 : 0 ≤ R.L[p].mark) (hm1 : R.L[p].mark ≤ 1024) (hs0 : 0 ≤ R.L[p].base) (hs1 : R.L[p].base ≤ 1024) (hb1 : R.L[p].bits ≤ 20)
    (hre : endI R.L p R.L[p].up = p + 1 → R.L[p].mark = 0) :
    Calls Tryz.prog 83 #[.pointer (some ⟨kb, 0, none⟩), .int .i64 root, .agg (c.cells av tv), .int .i64 p, .agg #[.int .i64 R.L[p].ty, .int .i64 R.L[p].base, .int .i64 R.L[p].bits, .int .i64 R.L[p].rights, .int .i64 R.L[p].badge, .int .i64 R.L[p].mark]] w
      (RetOut w kb V (retype R root c p R.L[p])) := by
  obtain ⟨g, cap, hlv, hcap, hglt, e0, e1, e2, e3, e4, e5, e6, e7, e8⟩ := ent_cells h p hp
  have HL : Hid (V.lv = .slice (some ⟨g, 0, none⟩) R.L.length cap) := hlv
  have hcl := h.cl
  rw [hlv] at hcl
  clear hlv
  have hklt : kb < w.heap.size := World.block_lt_of_cell? w _ hcl
  have hV : ∀ k, V.fp kb k → k < w.heap.size := fun k hk => h.fpLt hk
  unfold Cl.cells
  by_cases ht : ¬ R.L[p].ty = 1
  · have HC : Hid (retype R root c p R.L[p] = (3, R)) := if_pos ht
    have ht' : (R.L[p].ty != 1) = true := by simpa using ht
    clear ht
    go_enter Tryz.func83, Tryz.ntmps83
    go_wp2_with fail
    go_ret
    exact ret_fail h (((Fr.refl _ _).alloc _).alloc _) HC.out
  have HT : Hid (R.L[p].ty = 1) := by show _ = _; omega
  have ht' : (R.L[p].ty != 1) = false := by simpa using ht
  clear ht
  go_enter Tryz.func83, Tryz.ntmps83
  go_wp2_with fail
  generalize hW1 : ((((w.alloc _).alloc _).alloc _).alloc _) = W1
  have hf1 : Fr w W1 (fun _ => False) := by rw [← hW1]; exact ((((Fr.refl _ _).alloc _).alloc _).alloc _).alloc _
  have hsz1 : W1.heap.size = w.heap.size + 4 := by rw [← hW1]; simp
  have h4 := alloc4 w (.cells #[.int .i64 c.kind, av, tv, .int .i64 c.ty, .int .i64 c.bits, .int .i64 c.count, .int .i64 c.rights, .int .i64 c.badge, .int .i64 c.value, .int .i64 c.offset] 41 (0, 0)) (.cells #[.int .i64 R.L[p].ty, .int .i64 R.L[p].base, .int .i64 R.L[p].bits, .int .i64 R.L[p].rights, .int .i64 R.L[p].badge, .int .i64 R.L[p].mark] 46 (0, 0))
    (.cells #[.int .i64 0, .int .i64 4, .int .i64 3, .int .i64 2, .int .i64 4, .int .i64 2] 3 (0, 0)) (.cells #[.int .i64 0, .int .i64 10, .int .i64 6, .int .i64 2, .int .i64 4, .int .i64 6] 3 (0, 0))
  rw [hW1] at h4
  obtain ⟨hba, hbh, hle0, hmo0⟩ := h4
  have hle : ∀ t : Nat, 1 ≤ t → t ≤ 5 → W1.cell? ⟨w.heap.size + 2, t, none⟩ = some (.int .i64 (leastI t)) := by
    intro t h1 h2
    obtain rfl | rfl | rfl | rfl | rfl : t = 1 ∨ t = 2 ∨ t = 3 ∨ t = 4 ∨ t = 5 := by omega
    all_goals exact cell_of_blk hle0 rfl
  have hmo : ∀ t : Nat, 1 ≤ t → t ≤ 5 → W1.cell? ⟨w.heap.size + 3, t, none⟩ = some (.int .i64 (mostI t)) := by
    intro t h1 h2
    obtain rfl | rfl | rfl | rfl | rfl : t = 1 ∨ t = 2 ∨ t = 3 ∨ t = 4 ∨ t = 5 := by omega
    all_goals exact cell_of_blk hmo0 rfl
  clear hW1 hle0 hmo0
  have k3 := cell_of_blk (o := 3) hba rfl
  have k4 := cell_of_blk (o := 4) hba rfl
  have k5 := cell_of_blk (o := 5) hba rfl
  have hbad : okObj c = false → Hid (retype R root c p R.L[p] = (7, R)) := fun hk => by
    show _ = _
    unfold retype
    rw [if_neg (by have := HT.out; omega), if_pos hk]
  by_cases q1 : c.ty < 1
  · have HC := hbad (by simp [okObj]; omega)
    have hd : decide (c.ty < 1) = true := by simpa using q1
    go_quiet (fail)
    go_wp2
    go_ret
    exact ret_fail h (hf1.drewN nq) HC.out
  by_cases q2 : 5 < c.ty
  · have HC := hbad (by simp [okObj]; omega)
    have hd : decide (c.ty < 1) = false := by simpa using q1
    have hd2 : decide (5 < c.ty) = true := by simpa using q2
    go_quiet (fail)
    go_wp2
    go_ret
    exact ret_fail h (hf1.drewN nq) HC.out
  obtain ⟨t, hty⟩ : ∃ t : Nat, c.ty = (t : Int) := ⟨c.ty.toNat, by omega⟩
  have hl1 := hle t (by omega) (by omega)
  have hl2 := hmo t (by omega) (by omega)
  have HY : Hid (c.ty = (t : Int)) := hty
  have ht1 : 1 ≤ (t : Int) := by omega
  have ht5 : (t : Int) ≤ 5 := by omega
  have d1 : decide ((t : Int) < 1) = false := by simp; omega
  have d2 : decide (5 < (t : Int)) = false := by simp; omega
  rw [hty] at k3 ⊢
  clear hty q1 q2 hle hmo
  have htn : c.ty.toNat = t := by have := HY.out; omega
  have HTN : Hid (c.ty.toNat = t) := htn
  clear htn
  by_cases q3 : c.bits < leastI t
  · have HC := hbad (by have := HTN.out; simp [okObj, this]; omega)
    have dd0 : decide (c.bits < leastI t) = true := by simpa using q3
    go_quiet (fail)
    go_wp2
    go_ret
    exact ret_fail h (hf1.drewN nq) HC.out
  have dd0 : decide (c.bits < leastI t) = false := by simpa using q3
  by_cases q4 : mostI t < c.bits
  · have HC := hbad (by have := HTN.out; simp [okObj, this]; omega)
    have dd1 : decide (mostI t < c.bits) = true := by simpa using q4
    go_quiet (fail)
    go_wp2
    go_ret
    exact ret_fail h (hf1.drewN nq) HC.out
  have dd1 : decide (mostI t < c.bits) = false := by simpa using q4
  by_cases q5 : c.count < 1
  · have HC := hbad (by have := HTN.out; simp [okObj, this]; omega)
    have dd2 : decide (c.count < 1) = true := by simpa using q5
    go_quiet (fail)
    go_wp2
    go_ret
    exact ret_fail h (hf1.drewN nq) HC.out
  have dd2 : decide (c.count < 1) = false := by simpa using q5
  by_cases q6 : 8 < c.count
  · have HC := hbad (by have := HTN.out; simp [okObj, this]; omega)
    have dd3 : decide (8 < c.count) = true := by simpa using q6
    go_quiet (fail)
    go_wp2
    go_ret
    exact ret_fail h (hf1.drewN nq) HC.out
  have dd3 : decide (8 < c.count) = false := by simpa using q6
  have hokc : Hid (okObj c = true) := by
    show _ = _
    have h1 := HTN.out
    have h2 := HY.out
    simp only [okObj, decide_eq_true_eq]
    rw [h1]
    omega
  have hc1 : 1 ≤ c.count := by omega
  have hc8 : c.count ≤ 8 := by omega
  have hlb : 0 ≤ leastI t := by unfold leastI; split <;> omega
  have hmb : mostI t ≤ 10 := by unfold mostI; split <;> omega
  have hbb0 : 0 ≤ c.bits := by omega
  have hbb1 : c.bits ≤ 10 := by omega
  have k2 : W1.cell? ⟨w.heap.size, 2, none⟩ = some tv := cell_of_blk (o := 2) hba rfl
  go_quiet (fail)
  clear hbad q3 q4 q5 q6 dd0 dd1 dd2 dd3 hl1 hl2 d1 d2 hlb hmb
  go_wp2_with fail
  have hf2 : Fr w (W1.drewN nq) (fun _ => False) := hf1.drewN nq
  have h2 : RefAt (W1.drewN nq) kb R V := h.frame hf2 (fun _ _ => id)
  refine (find_any R.L R.N kb V.lv V.nv tv root c.to _ (by omega) (by omega) hl h2.cl h2.ll h2.cn h2.lnn hb (htv.fr hf2 (fun _ _ => id))).mono ?_
  rintro e w3 ⟨rfl, q, rfl⟩
  have HC : Hid (retype R root c p R.L[p] = match findI R.L R.N root c.to with
    | none => (2, R)
    | some (n, ix) =>
      if slotsOf R.N n < ix + c.count then (2, R)
      else if fullIn R.L n ix c.count.toNat then (4, R)
      else if R.L[p].base + pw R.L[p].bits.toNat < startI c R.L[p] + c.count * pw c.bits.toNat then (6, R)
      else (0, retR { R with L := R.L.set p { R.L[p] with mark := startI c R.L[p] + c.count * pw c.bits.toNat - R.L[p].base } } root p R.L[p].up n ix c (startI c R.L[p]) c.count.toNat)) := by
    show _ = _
    have h1 := HT.out
    have h3 := hokc.out
    unfold retype
    rw [if_neg (by omega), if_neg (by rw [h3]; simp)]
    rfl
  rw [drewN2]
  generalize hq : nq + q = q2
  clear hq hf2 h2
  cases hfi : findI R.L R.N root c.to with
  | none =>
    rw [hfi] at HC
    dsimp only [ans3]
    go_wp2
    go_quiet (fail)
    go_wp2
    go_ret
    exact ret_fail h ((hf1.drewN q2).drewN _) HC.out
  | some ni =>
    obtain ⟨n, ix⟩ := ni
    rw [hfi] at HC
    obtain ⟨hx0, hx1⟩ := findI_ok hfi
    have hx2 := slots_le hb n
    clear hfi
    dsimp only [ans3] at HC ⊢
    by_cases q7 : slotsOf R.N n < ix + c.count
    · rw [if_pos q7] at HC
      have d7 : decide (slotsOf R.N n < ix + c.count) = true := by simpa using q7
      go_wp2
      go_quiet ((go_at_call 104; exact quiet_same2 (node_any R.N kb V.nv _ _ (by omega) (by exact (h.frame hf1 (fun _ _ => id)).cn) (by exact (h.frame hf1 (fun _ _ => id)).lnn) hb)))
      go_wp2
      go_ret
      exact ret_fail h ((hf1.drewN q2).drewN _) HC.out
    rw [if_neg q7] at HC
    have d7 : decide (slotsOf R.N n < ix + c.count) = false := by simpa using q7
    go_wp2
    go_quiet ((go_at_call 104; exact quiet_same2 (node_any R.N kb V.nv _ _ (by omega) (by exact (h.frame hf1 (fun _ _ => id)).cn) (by exact (h.frame hf1 (fun _ _ => id)).lnn) hb)))
    rw [drewN2]
    generalize hq : q2 + _ = q3
    clear hq d7 q7
    go_wp2
    have hcn := HL.out
    have h3 : RefAt (W1.drewN q3) kb R V := h.frame (hf1.drewN q3) (fun _ _ => id)
    clear hcn
    go_loopw [16] (fun iv w' => w' = W1.drewN q3 ∧ ∃ k : Nat, (k : Int) ≤ c.count ∧ iv = .int .i64 k ∧ fullIn R.L n ix k = false) (fun iv _ => (c.count - intOf iv).toNat)
    case atStart => exact ⟨rfl, 0, by omega, rfl, rfl⟩
    case round =>
      obtain ⟨rfl, k, hk, rfl, hno⟩ := hrel
      by_cases hlt : (k : Int) < c.count
      · go_wp2_with fail
        refine (at_any R.L kb V.lv n (ix + k) _ (by omega) h3.cl h3.ll).mono ?_
        rintro e w4 ⟨rfl, rfl⟩
        rcases idx_cases (isAt n (ix + k)) R.L with ⟨hx, hfi⟩ | ⟨x, hx', hx, hfi, _⟩
        · unfold atI
          rw [hx]
          have hno2 : fullIn R.L n ix (k + 1) = false := by rw [fullIn_succ, hno, hfi]; rfl
          clear hno
          go_wp2
          go_roundw
          case rel => exact ⟨trivial, k + 1, by omega, by go_num, hno2⟩
          case measure => simp [intOf]; omega
        · unfold atI
          rw [hx]
          have hfu : fullIn R.L n ix c.count.toNat = true := fullIn_hit (k := k) (by omega) (by rw [hfi]; rfl)
          rw [hfu] at HC
          clear hfu hno
          go_wp2
          go_ret
          exact ret_fail h (hf1.drewN q3) HC.out
      · have hkc : c.count.toNat = k := by omega
        rw [hkc, hno] at HC
        have HK : Hid (c.count.toNat = k) := hkc
        clear hno hkc
        go_upto_if 105 with (go_at_call 105; go_must (refine (end_any R.L kb V.lv p _ (by omega) hp h3.cl h3.ll).mono ?_); rintro e w4 ⟨rfl, q4, rfl⟩)
        have h4 : RefAt (W1.drewN (q3 + q4)) kb R V := h.frame (hf1.drewN _) (fun _ _ => id)
        go_cut [17] (fun _ w' => w' = W1.drewN (q3 + q4))
        case first =>
          by_cases hen : endI R.L p R.L[p].up = p + 1
          · have hm00 : R.L[p].mark = 0 := hre hen
            have HE : Hid (((endI R.L p R.L[p].up : Nat) : Int) = (p : Int) + 1) := by show _ = _; omega
            have hB : (((endI R.L p R.L[p].up : Nat) : Int) == (p : Int) + 1) = true := by have := HE.out; simp; omega
            clear hen
            obtain ⟨g', cap', hlv', _, _, _, _, _, _, _, _, _, x7, _⟩ := ent_cells h4 p hp
            have hc4 := h4.cl
            rw [hlv'] at hc4
            rw [hm00] at x7
            clear hlv' hm00
            go_wp2
            refine wp_loop_rounds 1 ?_
            rw [rounds_succ]
            go_wp2
            go_meet
            case rel => exact rfl
          · have hB : (((endI R.L p R.L[p].up : Nat) : Int) == (p : Int) + 1) = false := by simp; omega
            clear hen
            go_wp2
            go_meet
            case rel => exact rfl
        case rest =>
          subst hcut
          have hf4 : Fr w (W1.drewN (q3 + q4)) (fun _ => False) := hf1.drewN _
          obtain ⟨g', cap', hlv', hcap', hglt', _, _, _, _, _, _, _, x7, _⟩ := ent_cells h4 p hp
          rw [HL.out] at hlv'
          cases hlv'
          have hc4 := h4.cl
          rw [HL.out] at hc4
          have b1 := cell_of_blk (o := 1) hbh rfl
          have b2 := cell_of_blk (o := 2) hbh rfl
          generalize hW2 : W1.drewN (q3 + q4) = W2 at *
          have hba2 : W2.heap[w.heap.size]? = some (.cells #[.int .i64 c.kind, av, tv, .int .i64 c.ty, .int .i64 c.bits, .int .i64 c.count, .int .i64 c.rights, .int .i64 c.badge, .int .i64 c.value, .int .i64 c.offset] 41 (0, 0)) := by rw [← hW2]; exact hba
          have hsz2 : W2.heap.size = w.heap.size + 4 := by rw [← hW2]; exact hsz1
          have k3 : W2.cell? ⟨w.heap.size, 3, none⟩ = some (.int .i64 (t : Int)) := by rw [← hW2]; exact k3
          have k4 : W2.cell? ⟨w.heap.size, 4, none⟩ = some (.int .i64 c.bits) := by rw [← hW2]; exact k4
          have k5 : W2.cell? ⟨w.heap.size, 5, none⟩ = some (.int .i64 c.count) := by rw [← hW2]; exact k5
          have b1 : W2.cell? ⟨w.heap.size + 1, 1, none⟩ = some (.int .i64 R.L[p].base) := by rw [← hW2]; exact b1
          have b2 : W2.cell? ⟨w.heap.size + 1, 2, none⟩ = some (.int .i64 R.L[p].bits) := by rw [← hW2]; exact b2
          clear hW2 hba hbh h3 k2 hf1 hsz1 e0 e1 e2 e3 e4 e5 e6 e7 e8 hcl
          have z1 := pw_pos c.bits.toNat
          have z2 : pw c.bits.toNat ≤ 1024 := Int.le_trans (pw_mono (b := 10) (by omega)) (by decide)
          have y1 := pw_pos R.L[p].bits.toNat
          have y2 := pw_le R.L[p].bits.toNat (by omega)
          generalize hZ : pw c.bits.toNat = Z at *
          generalize hY : pw R.L[p].bits.toNat = Y at *
          have m0 : 0 ≤ c.count * Z := Int.mul_nonneg (by omega) (by omega)
          have m1 : c.count * Z ≤ 8192 := by have m2 : c.count * Z ≤ 8 * 1024 := Int.mul_le_mul hc8 z2 (by omega) (by omega); omega
          have HZ : Hid (pw c.bits.toNat = Z) := hZ
          have HYY : Hid (pw R.L[p].bits.toNat = Y) := hY
          clear hZ hY
          go_wp2_with fail
          refine (power_any c.bits _ (by omega)).mono ?_
          rintro e W3 ⟨rfl, rfl⟩
          rw [HZ.out]
          go_wp2
          go_quiet (fail)
          revert nq
          intro q5
          have hs2 : Hid (upTo (R.L[p].base + R.L[p].mark) Z = startI c R.L[p]) := by show _ = _; unfold startI; rw [HZ.out]
          go_wp2
          go_loopw [20] (fun sv w' => w' = W3.drewN q5 ∧ ∃ s : Int, 0 ≤ s ∧ s ≤ startI c R.L[p] ∧ sv = .int .i64 s ∧ upTo s Z = startI c R.L[p]) (fun sv _ => (startI c R.L[p] - intOf sv).toNat)
          case atStart => exact ⟨rfl, _, by omega, by rw [← hs2.out]; exact upTo_ge _ _ (by omega), rfl, hs2.out⟩
          case round =>
            obtain ⟨rfl, s, hs0', hs1', rfl, hup⟩ := hrel
            have hsl : startI c R.L[p] ≤ 4096 := by rw [← hs2.out]; have := upTo_lt (R.L[p].base + R.L[p].mark) Z (by omega); omega
            by_cases hre2 : s % Z = 0
            · have hre3 : (s % Z != 0) = false := by simpa using hre2
              have hse : s = startI c R.L[p] := by rw [← hup, upTo_hit _ _ hre2]
              clear hup hre2
              rw [← hse] at HC
              rw [← hse] at hs2 hsl
              have HS : Hid (s = startI c R.L[p]) := hse
              clear hse hs1'
              have y3 : pw R.L[p].bits.toNat ≤ 1048576 := by rw [HYY.out]; exact y2
              have y4 : 1 ≤ pw R.L[p].bits.toNat := by rw [HYY.out]; exact y1
              by_cases q8 : R.L[p].base + Y < s + c.count * Z
              · rw [if_neg (by simp), if_pos q8] at HC
                have d8 : decide (R.L[p].base + pw R.L[p].bits.toNat < s + c.count * Z) = true := by rw [HYY.out]; simpa using q8
                go_wp2
                go_quiet ((go_at_call 106; exact quiet_same2 (power_any R.L[p].bits _ (by omega))))
                go_wp2
                go_ret
                exact ret_fail h ((hf4.drewN _).drewN _) HC.out
              rw [if_neg (by simp), if_neg q8] at HC
              have d8 : decide (R.L[p].base + pw R.L[p].bits.toNat < s + c.count * Z) = false := by rw [HYY.out]; simpa using q8
              go_wp2
              go_quiet ((go_at_call 106; exact quiet_same2 (power_any R.L[p].bits _ (by omega))))
              clear d8
              go_wp2
              have hf5 : Fr w ((W3.drewN q5).drewN nq) (fun _ => False) := (hf4.drewN _).drewN _
              have h5 : RefAt ((W3.drewN q5).drewN nq) kb R V := h.frame hf5 (fun _ _ => id)
              have hc5 := h5.cl
              rw [HL.out] at hc5
              have k3 : ((W3.drewN q5).drewN nq).cell? ⟨w.heap.size, 3, none⟩ = some (.int .i64 (t : Int)) := k3
              have k4 : ((W3.drewN q5).drewN nq).cell? ⟨w.heap.size, 4, none⟩ = some (.int .i64 c.bits) := k4
              have k5 : ((W3.drewN q5).drewN nq).cell? ⟨w.heap.size, 5, none⟩ = some (.int .i64 c.count) := k5
              have b1 : ((W3.drewN q5).drewN nq).cell? ⟨w.heap.size + 1, 1, none⟩ = some (.int .i64 R.L[p].base) := b1
              have x7 : ((W3.drewN q5).drewN nq).cell? ⟨g, p * 9 + 7, none⟩ = some (.int .i64 R.L[p].mark) := x7
              have hba5 : ((W3.drewN q5).drewN nq).heap[w.heap.size]? = some (.cells #[.int .i64 c.kind, av, tv, .int .i64 c.ty, .int .i64 c.bits, .int .i64 c.count, .int .i64 c.rights, .int .i64 c.badge, .int .i64 c.value, .int .i64 c.offset] 41 (0, 0)) := hba2
              have hsz5 : ((W3.drewN q5).drewN nq).heap.size = w.heap.size + 4 := hsz2
              generalize (W3.drewN q5).drewN nq = W5 at *
              have z7 : W5.frozen? ⟨g, p * 9 + 7, none⟩ = false := by
                have := h5.l
                rw [HL.out] at this
                rcases this.2 with ⟨h0, _⟩ | ⟨g', cap', cur, hv, hb, hg, _⟩
                · cases h0
                · cases hv; exact frozen_of_blk hg
              have hgk : ¬ g = kb := fun e => h.kl (by rw [HL.out, e]; rfl)
              have ngw : ¬ g = w.heap.size := by omega
              have ngw1 : ¬ g = w.heap.size + 1 := by omega
              go_region_held (fun w' => w'.cell? ⟨kb, 0, none⟩ = some (Value.slice (some ⟨g, 0, none⟩) R.L.length cap) ∧ w'.cell? ⟨w.heap.size, 5, none⟩ = some (.int .i64 c.count) ∧ w'.cell? ⟨w.heap.size + 1, 1, none⟩ = some (.int .i64 R.L[p].base)) (go_keep) (fail)
              rw [IntWalk.i64_in (c.count * Z) (by omega), IntWalk.i64_in (s + c.count * Z) (by omega), IntWalk.i64_in (s + c.count * Z - R.L[p].base) (by omega)]
              rw [show p * 9 + 2 + 5 = p * 9 + 7 by omega]
              have h6 : RefAt (W5.setCell ⟨g, p * 9 + 7, none⟩ (.int .i64 (s + c.count * Z - R.L[p].base))).drew kb { R with L := R.L.set p { R.L[p] with mark := s + c.count * Z - R.L[p].base } } V :=
                (h5.setMark hp HL.out _).frame (Fr.refl _ _).drew (fun _ _ => id)
              have hf6 : Fr w (W5.setCell ⟨g, p * 9 + 7, none⟩ (.int .i64 (s + c.count * Z - R.L[p].base))).drew (V.fp kb) :=
                ((hf5.mono (fun _ => False.elim)).setCell (.inl (.inr (.inl (by rw [HL.out]; rfl)))) _ _).drew
              have hba6 : (W5.setCell ⟨g, p * 9 + 7, none⟩ (.int .i64 (s + c.count * Z - R.L[p].base))).drew.heap[w.heap.size]? = some (.cells #[.int .i64 c.kind, av, tv, .int .i64 c.ty, .int .i64 c.bits, .int .i64 c.count, .int .i64 c.rights, .int .i64 c.badge, .int .i64 c.value, .int .i64 c.offset] 41 (0, 0)) := by
                show (W5.setCell ⟨g, p * 9 + 7, none⟩ (.int .i64 (s + c.count * Z - R.L[p].base))).heap[w.heap.size]? = _
                rw [setCell_block _ _ _ _ _ (by omega)]; exact hba5
              have hsz6 : w.heap.size + 4 ≤ (W5.setCell ⟨g, p * 9 + 7, none⟩ (.int .i64 (s + c.count * Z - R.L[p].base))).drew.heap.size := by
                show _ ≤ (W5.setCell ⟨g, p * 9 + 7, none⟩ (.int .i64 (s + c.count * Z - R.L[p].base))).heap.size
                rw [setCell_size]; omega
              generalize (W5.setCell ⟨g, p * 9 + 7, none⟩ (.int .i64 (s + c.count * Z - R.L[p].base))).drew = W6 at *
              have HR : Hid (∃ R1 : Ref, R1 = { R with L := R.L.set p { R.L[p] with mark := s + c.count * Z - R.L[p].base } }) := ⟨_, rfl⟩
              obtain ⟨R1, hR1⟩ := HR.out
              rw [← hR1] at h6 HC
              have hp1 : p < R1.L.length := by rw [hR1]; simpa using hp
              have hu1' : R1.L[p].up = R.L[p].up := by subst hR1; simp
              have HU : Hid (R1.L[p].up = R.L[p].up) := hu1'
              have hn1 : R1.L.length ≤ 900000 := by rw [hR1]; simpa using hn
              have hm1' : R1.N.length ≤ 900000 := by rw [hR1]; exact hm
              have ho1 : R1.T.length ≤ 900000 := by rw [hR1]; exact ho
              have hN1' : 0 < R1.N.length := by rw [hR1]; exact hN1
              have hT1' : 0 < R1.T.length := by rw [hR1]; exact hT1
              clear HR hR1 hu1' h5 hf5 hc5 k3 k4 k5 b1 x7 hba5 hsz5 z7
              go_wp2
              go_loopw [21] (fun iv w' => RetInv w kb R1 V root p R.L[p].up n ix c s k (.cells #[.int .i64 c.kind, av, tv, .int .i64 c.ty, .int .i64 c.bits, .int .i64 c.count, .int .i64 c.rights, .int .i64 c.badge, .int .i64 c.value, .int .i64 c.offset] 41 (0, 0)) iv w') (fun iv _ => k - (intOf iv).toNat)
              case atStart => exact ⟨0, V.lv, V.nv, V.tv, Nat.zero_le _, rfl, h6, hf6, hsz6, fun r hr => .inl hr, hba6⟩
              case round =>
                obtain ⟨i, lv, nv, tv', hik, rfl, hi, hfi, hszi, hpi, hbi⟩ := hrel
                have k3 : wr.cell? ⟨w.heap.size, 3, none⟩ = some (.int .i64 (t : Int)) := by rw [← HY.out]; exact cell_of_blk hbi rfl
                have k4 : wr.cell? ⟨w.heap.size, 4, none⟩ = some (.int .i64 c.bits) := cell_of_blk hbi rfl
                have k5 : wr.cell? ⟨w.heap.size, 5, none⟩ = some (.int .i64 c.count) := cell_of_blk hbi rfl
                have hkk := HK.out
                by_cases hlt : (i : Int) < c.count
                · have i0 : 0 ≤ (i : Int) * Z := Int.mul_nonneg (by omega) (by omega)
                  have i1 : (i : Int) * Z ≤ 8192 := by have m2 : (i : Int) * Z ≤ 8 * 1024 := Int.mul_le_mul (by omega) z2 (by omega) (by omega); omega
                  obtain ⟨hLl, hLp⟩ := retR_L R1 root p R.L[p].up n ix c s hp1 i
                  obtain ⟨hNg, hTg⟩ := retR_N2 R1 root p R.L[p].up n ix c s i
                  obtain ⟨hNl, hTl⟩ := retR_N R1 root p R.L[p].up n ix c s i
                  have hpi1 : p < (retR R1 root p R.L[p].up n ix c s i).L.length := by omega
                  have hupi : (retR R1 root p R.L[p].up n ix c s i).L[p].up = R.L[p].up := by
                    rw [List.getElem?_eq_getElem hpi1] at hLp
                    rw [Option.some.inj hLp]; exact HU.out
                  have HUI : Hid ((retR R1 root p R.L[p].up n ix c s i).L[p].up = R.L[p].up) := hupi
                  have hik3 : i + 1 ≤ k := by omega
                  have hme : k - ((i : Int) + 1).toNat < k - (i : Int).toNat := by omega
                  have hup0 : 0 ≤ (retR R1 root p R.L[p].up n ix c s i).L[p].up := by rw [hupi]; exact hu0
                  have hup1 : (retR R1 root p R.L[p].up n ix c s i).L[p].up ≤ 1000000 := by rw [hupi]; omega
                  have hLb : (retR R1 root p R.L[p].up n ix c s i).L.length ≤ 1000000 := by omega
                  clear hupi hLp
                  have HRS : Hid (retR R1 root p R.L[p].up n ix c s (i + 1) = { L := layL (retR R1 root p R.L[p].up n ix c s i).L p R.L[p].up ⟨n, ix + i, c.ty, s + i * Z, c.bits, 7, 0, 0, 0⟩, N := if c.ty = 2 then (retR R1 root p R.L[p].up n ix c s i).N ++ [⟨s + i * Z, c.bits⟩] else (retR R1 root p R.L[p].up n ix c s i).N, T := if c.ty = 4 then (retR R1 root p R.L[p].up n ix c s i).T ++ [⟨s + i * Z, 1, root, 0, 0, 0⟩] else (retR R1 root p R.L[p].up n ix c s i).T }) := by
                    show _ = _
                    simp only [retR, HZ.out]
                  generalize hRi : retR R1 root p R.L[p].up n ix c s i = Ri at *
                  clear hRi hkk
                  go_wp2_with fail
                  go_must (refine (lay_any Ri { V with lv := lv, nv := nv, tv := tv' } kb p ⟨n, ix + i, (t : Int), s + (i : Int) * Z, c.bits, 7, 0, 0, 0⟩ _ hi hLb hpi1 hup1 hup0).mono ?_)
                  rintro e7 W7 ⟨rfl, lv7, h7, hf7, hlt7⟩
                  obtain ⟨hb7, hfw7, hsz7, hp7⟩ := packL hV hbi hfi hszi hpi hf7 hlt7
                  have k3 : W7.cell? ⟨w.heap.size, 3, none⟩ = some (.int .i64 (t : Int)) := by rw [← HY.out]; exact cell_of_blk hb7 rfl
                  have k4 : W7.cell? ⟨w.heap.size, 4, none⟩ = some (.int .i64 c.bits) := cell_of_blk hb7 rfl
                  rw [HUI.out] at h7
                  clear hf7 hlt7 hpi hbi hi hfi hszi
                  by_cases t2 : t = 2
                  · have T2 : Hid (t = 2) := t2
                    have t2' : ((t : Int) == 2) = true := by simp; omega
                    clear t2
                    obtain ⟨iT, hiT, hT0, hT2, hT3⟩ := info_parts infoLiv
                    have hTT : W7.ownsRow 0 110 2 nv Ri.N.length (rowN Ri.N) := h7.n
                    obtain ⟨gt, capt, rfl, hct1, hct2, hgt⟩ := owns_form hTT (by omega)
                    have hc7 : W7.cell? ⟨kb, 1025, none⟩ = some (.slice (some ⟨gt, 0, none⟩) Ri.N.length capt) := h7.cn
                    have hz7 : W7.frozen? ⟨kb, 1025, none⟩ = false := h7.fz _
                    have hk7 : kb < W7.heap.size := World.block_lt_of_cell? _ _ hc7
                    go_wp2
                    have hne1 : ¬ kb = w.heap.size := by omega
                    have hne2 : ¬ w.heap.size = kb := by omega
                    go_region_law
                      ((refine step_append_lies _ rfl _ _ 102 rfl 0 110 iT _ 2 16 Tryz.underlying102 hiT hT0 hT2 hT3 rfl (by decide) _ _ _ rfl (World.ownsRow.alloc hTT _) ⟨_, 0, none⟩ 1 1 [.int .i64 (s + (i : Int) * Z), .int .i64 c.bits] rfl rfl (news_new _ _ _) (Liv.one ⟨s + (i : Int) * Z, c.bits⟩) (by decide) (by unfold maxLen; omega) (by omega) (Nat.zero_le _) (W7.heap.size + 1) (by simp) ?_; intro g8 cap8 W8 hown8 hg8 hat8 hlt8; obtain ⟨hc8, hz8, h8, hfw8, hsz8, hp8, hb9, hb8⟩ := packN (x := ⟨s + (i : Int) * Z, c.bits⟩) (o := .cells #[.int .i64 (s + (i : Int) * Z), .int .i64 c.bits] 110) hV hklt h7 hfw7 hsz7 hp7 hb7 ⟨hg8.os, hg8.tape, hg8.output, hg8.size, hg8.block⟩ hown8 hat8; have hk48 : W8.cell? ⟨w.heap.size, 4, none⟩ = some (.int .i64 c.bits) := cell_of_blk hb8 rfl))
                    all_goals
                      go_wp2
                      go_roundw
                      case rel =>
                        refine ⟨i + 1, lv7, _, tv', hik3, by go_num, ?_, hfw8, hsz8, hp8, hb9⟩
                        rw [HRS.out, if_pos (by rw [HY.out, T2.out]; rfl), if_neg (by rw [HY.out, T2.out]; decide), HY.out]
                        exact h8
                      case measure => simp only [intOf]; exact hme
                  by_cases t4 : t = 4
                  · have T4 : Hid (t = 4) := t4
                    have t2' : ((t : Int) == 2) = false := by simp; omega
                    have t4' : ((t : Int) == 4) = true := by simp; omega
                    clear t2 t4
                    obtain ⟨iT, hiT, hT0, hT2, hT3⟩ := info_parts infoThr
                    have hTT : W7.ownsRow 0 112 6 tv' Ri.T.length (rowT Ri.T) := h7.t
                    obtain ⟨gt, capt, rfl, hct1, hct2, hgt⟩ := owns_form hTT (by omega)
                    have hc7 : W7.cell? ⟨kb, 1026, none⟩ = some (.slice (some ⟨gt, 0, none⟩) Ri.T.length capt) := h7.ct
                    have hz7 : W7.frozen? ⟨kb, 1026, none⟩ = false := h7.fz _
                    have hk7 : kb < W7.heap.size := World.block_lt_of_cell? _ _ hc7
                    go_wp2_with (at_builtin; go_must (refine wpList_append_lies _ rfl _ _ 103 rfl 0 112 iT _ 6 48 Tryz.underlying103 hiT hT0 hT2 hT3 rfl (by decide) _ _ _ rfl (World.ownsRow.alloc hTT _) ⟨_, 0, none⟩ 1 1 [.int .i64 (s + (i : Int) * Z), .int .i64 1, .int .i64 root, .int .i64 0, .int .i64 0, .int .i64 0] rfl rfl (news_new _ _ _) (Thr.one ⟨s + (i : Int) * Z, 1, root, 0, 0, 0⟩) (by decide) ?_ ?_ (Nat.zero_le _) (W7.heap.size + 1) ?_ ?_))
                    · unfold maxLen; omega
                    · omega
                    · simp
                    intro g8 cap8 W8 hown8 hg8 hat8 hlt8
                    obtain ⟨hc8, hz8, h8, hfw8, hsz8, hp8, hb9⟩ := packT (x := ⟨s + (i : Int) * Z, 1, root, 0, 0, 0⟩) hV hklt h7 hfw7 hsz7 hp7 hb7 hg8 hown8 hat8
                    clear hown8 hg8 hat8 hlt8 h7 hfw7 hsz7 hp7 hb7 hTT hc7 hz7
                    go_wp2
                    go_roundw
                    case rel =>
                      refine ⟨i + 1, lv7, nv, _, hik3, by go_num, ?_, hfw8, hsz8, hp8, hb9⟩
                      rw [HRS.out, if_neg (by rw [HY.out, T4.out]; decide), if_pos (by rw [HY.out, T4.out]; rfl), HY.out]
                      exact h8
                    case measure => simp only [intOf]; exact hme
                  · have n2 : ¬ (t : Int) = 2 := by omega
                    have n4 : ¬ (t : Int) = 4 := by omega
                    have t2' : ((t : Int) == 2) = false := by simpa using n2
                    have t4' : ((t : Int) == 4) = false := by simpa using n4
                    go_wp2
                    go_roundw
                    case rel =>
                      refine ⟨i + 1, lv7, nv, tv', hik3, by go_num, ?_, hfw7, hsz7, hp7, hb7⟩
                      rw [HRS.out, if_neg (by rw [HY.out]; exact n2), if_neg (by rw [HY.out]; exact n4), HY.out]
                      exact h7
                    case measure => simp only [intOf]; exact hme
                · have hik2 : i = k := by omega
                  subst hik2
                  clear hkk
                  go_wp2
                  go_ret
                  refine ⟨by rw [HC.out]; rfl, lv, nv, tv', by rw [HC.out]; exact hi, hfi, fun r hr => ?_⟩
                  rcases hpi r hr with h7 | h7
                  · exact .inl h7
                  · exact .inr (by omega)
            · have hre3 : (s % Z != 0) = true := by simpa using hre2
              have hlt4 : s + 1 ≤ startI c R.L[p] := by
                rw [← hup, ← upTo_step s Z (by omega) hre2]; exact upTo_ge _ _ (by omega)
              have hup2 : upTo (s + 1) Z = startI c R.L[p] := by rw [upTo_step s Z (by omega) hre2]; exact hup
              clear hup hre2
              go_wp2
              go_roundw
              case rel => exact ⟨trivial, s + 1, by omega, hlt4, rfl, hup2⟩
              case measure => simp [intOf]; omega
end Go.Proofs.YtdpjgflemddekaaGreatDoor

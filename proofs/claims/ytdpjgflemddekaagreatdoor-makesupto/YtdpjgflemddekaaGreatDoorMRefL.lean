/- The document's answer: Do of Retype. -/
import Derived.Test.YtdpjgflemddekaaGreatDoorMRefI
import Derived.Test.YtdpjgflemddekaaGreatDoorMRefJ
namespace Go.Proofs.YtdpjgflemddekaaGreatDoor
open Go.RowKit

/-- What else is assumed of it for a Retype. -/
structure EntOk (R : Ref) : Prop where
  n : 0 < R.N.length
  t : 0 < R.T.length
  e : ∀ i (hi : i < R.L.length), 0 ≤ R.L[i].mark ∧ R.L[i].mark ≤ 1024 ∧ 0 ≤ R.L[i].base ∧ R.L[i].base ≤ 1024 ∧ R.L[i].bits ≤ 20 ∧ (endI R.L i R.L[i].up = i + 1 → R.L[i].mark = 0)

set_option maxRecDepth 100000 in
set_option maxHeartbeats 2000000 in
theorem rdo_ret (R : Ref) (V : RefV) (kb : Nat) (b : Int) (c : Cl) (av tv : Value) (t : Thr) (w : World) (h : RefAt w kb R V) (hR : RefOk R)
    (hal : c.at_.length ≤ 9000000000000000000) (hl : c.to.length ≤ 9000000000000000000) (hav : IntsAt w av c.at_) (htv : IntsAt w tv c.to)
    (hda : 0 < c.at_.length → ∀ k, av.ownBlock = some k → ¬ V.fp kb k) (hdt : 0 < c.to.length → ∀ k, tv.ownBlock = some k → ¬ V.fp kb k)
    (hE : EntOk R) (hdv : V.dv = .slice none 0 0) (hk : c.kind = 1) (hfi : R.T.find? (isBaseT b) = some t) (hst : t.state = 1) :
    Calls Tryz.prog 48 #[.pointer (some ⟨kb, 0, none⟩), .int .i64 b, .agg (c.cells av tv), .slice none 0 0] w (DoOut w kb V (doR R b c)) := by
  have hct := h.ct
  have hklt : kb < w.heap.size := World.block_lt_of_cell? w _ hct
  have hn := hR.n
  have hm := hR.m
  have ho := hR.o
  have h1 := fun o : Obj => h.frame ((Fr.refl w (fun _ => False)).alloc o) (fun _ _ => id)
  rcases idx_cases (isBaseT b) R.T with ⟨hx, hfi2⟩ | ⟨p, hp, hx, hfi2, _⟩
  · rw [hfi2] at hfi; cases hfi
  rw [hfi2] at hfi
  cases hfi
  obtain ⟨g, cap, htv', hcap, hglt, t0, t1, t2, t3, t4, t5⟩ := thr_cells h p hp
  rw [htv'] at hct
  clear htv'
  rw [hst] at t1
  have k1 : (c.kind == 1) = true := by simpa using hk
  have kl : 1 ≤ c.kind := by omega
  have kh : c.kind ≤ 11 := by omega
  have HK : Hid (c.kind = 1) := hk
  clear hk
  have hcells : c.cells av tv = #[.int .i64 c.kind, av, tv, .int .i64 c.ty, .int .i64 c.bits, .int .i64 c.count, .int .i64 c.rights, .int .i64 c.badge, .int .i64 c.value, .int .i64 c.offset] := rfl
  rw [hcells]
  clear hcells
  have hz9 : w.frozen? ⟨kb, 1029, none⟩ = false := h.fz _
  have hz0 : w.frozen? ⟨kb, 1030, none⟩ = false := h.fz _
  obtain ⟨cc, hcb, hcc⟩ := h.blk
  have hb9 : w.cell? ⟨kb, 1029, none⟩ = some V.bv := cell_of_blk hcb hcc.b
  have hb0 : w.cell? ⟨kb, 1030, none⟩ = some V.sv := cell_of_blk hcb hcc.s
  clear hcb hcc
  go_enter Tryz.func48, Tryz.ntmps48
  go_wp2_with fail
  refine (thread_any R.T kb V.tv b _ (by omega) (h1 _).ct (h1 _).ltt).mono ?_
  rintro e w1 ⟨rfl, rfl⟩
  unfold thI
  rw [hx]
  go_wp2_with fail
  have h2 := (h.setBS (.slice none 0 0) (.bool false)).frame ((Fr.refl _ (fun _ => False)).alloc (Obj.cells #[.int .i64 c.kind, av, tv, .int .i64 c.ty, .int .i64 c.bits, .int .i64 c.count, .int .i64 c.rights, .int .i64 c.badge, .int .i64 c.value, .int .i64 c.offset] 41)) (fun _ _ => id)
  have hf2 : Fr w (((w.setCell ⟨kb, 1029, none⟩ (.slice none 0 0)).setCell ⟨kb, 1030, none⟩ (.bool false)).alloc (Obj.cells #[.int .i64 c.kind, av, tv, .int .i64 c.ty, .int .i64 c.bits, .int .i64 c.count, .int .i64 c.rights, .int .i64 c.badge, .int .i64 c.value, .int .i64 c.offset] 41)) (V.fp kb) :=
    (((Fr.refl _ _).setCell (.inl (.inl rfl)) _ _).setCell (.inl (.inl rfl)) _ _).alloc _
  have hba := heap_alloc_new ((w.setCell ⟨kb, 1029, none⟩ (.slice none 0 0)).setCell ⟨kb, 1030, none⟩ (.bool false)) (Obj.cells #[.int .i64 c.kind, av, tv, .int .i64 c.ty, .int .i64 c.bits, .int .i64 c.count, .int .i64 c.rights, .int .i64 c.badge, .int .i64 c.value, .int .i64 c.offset] 41)
  rw [setCell_size, setCell_size] at hba
  generalize ((w.setCell ⟨kb, 1029, none⟩ (.slice none 0 0)).setCell ⟨kb, 1030, none⟩ (.bool false)).alloc (Obj.cells #[.int .i64 c.kind, av, tv, .int .i64 c.ty, .int .i64 c.bits, .int .i64 c.count, .int .i64 c.rights, .int .i64 c.badge, .int .i64 c.value, .int .i64 c.offset] 41) = W2 at *
  have HV : Hid (∃ V2 : RefV, V2 = { V with bv := .slice none 0 0, sv := .bool false }) := ⟨_, rfl⟩
  obtain ⟨V2, hV2⟩ := HV.out
  rw [← hV2] at h2
  have hfp : ∀ k, V2.fp kb k → V.fp kb k := by rw [hV2]; exact fun k hk => hk
  have hfp' : ∀ k, V.fp kb k → V2.fp kb k := by rw [hV2]; exact fun k hk => hk
  have hV3 : V2.qv = V.qv ∧ V2.dv = V.dv ∧ V2.ws = V.ws := by rw [hV2]; exact ⟨rfl, rfl, rfl⟩
  clear HV hV2
  have ok : ∀ W' (y : Int × Ref), Fr W2 W' (fun _ => False) → doR R b c = y → y.2 = R → DoOut w kb V (doR R b c) (.returned (.tuple #[.int .i64 0, .int .i64 y.1])) W' := by
    intro W' y hf hy hy2
    subst hy
    refine ⟨rfl, V2, ?_, hV3.1, hV3.2.1, hV3.2.2, hf2.step hf (fun _ => False.elim), fun k hk => .inl (hfp k hk)⟩
    rw [hy2]; exact h2.frame hf (fun _ _ => id)
  have HD : Hid (doR R b c = match findI R.L R.N (stillI R.N R.T[p].root) c.at_ with
      | none => (2, R)
      | some (n, ix) => match R.L.findIdx? (isAt n ix) with
        | none => (3, R)
        | some p' => match R.L[p']? with
          | none => (0, R)
          | some e => retype R (stillI R.N R.T[p].root) c p' e) := by
    show _ = _
    have q1 := HK.out
    unfold doR
    rw [hfi2]
    simp only [hst, ne_eq, not_true_eq_false, if_false, q1, if_true]
    rfl
  have hav2 := hav.fr' hf2 hda
  have htv2 := htv.fr' hf2 hdt
  have hk00 : W2.cell? ⟨w.heap.size, 0, none⟩ = some (.int .i64 c.kind) := cell_of_blk hba rfl
  have hk01 : W2.cell? ⟨w.heap.size, 1, none⟩ = some av := cell_of_blk (o := 1) hba rfl
  refine (work_none V2 R kb W2 h2 (by rw [hV3.2.1]; exact hdv)).mono ?_
  rintro e W2' ⟨rfl, rfl⟩
  go_wp2_with fail
  refine (still_any R.N kb V2.nv R.T[p].root _ (by omega) h2.cn h2.lnn).mono ?_
  rintro e W2 ⟨rfl, rfl⟩
  go_wp2_with fail
  refine (find_any R.L R.N kb V2.lv V2.nv av (stillI R.N R.T[p].root) c.at_ W2 (by omega) (by omega) hal h2.cl h2.ll h2.cn h2.lnn hR.b hav2).mono ?_
  rintro e w3 ⟨rfl, q, rfl⟩
  cases hf : findI R.L R.N (stillI R.N R.T[p].root) c.at_ with
  | none =>
    rw [hf] at HD
    dsimp only [ans3]
    go_wp2
    go_ret2
    exact ok _ (2, R) ((Fr.refl _ _).drewN q) HD.out rfl
  | some ni =>
    obtain ⟨n, ix⟩ := ni
    rw [hf] at HD
    clear hf
    dsimp only [ans3] at HD ⊢
    go_wp2_with fail
    have h3 : RefAt (W2.drewN q) kb R V2 := h2.frame ((Fr.refl _ (fun _ => False)).drewN q) (fun _ _ => id)
    refine (at_any R.L kb V2.lv n ix _ (by omega) h3.cl h3.ll).mono ?_
    rintro e w4 ⟨rfl, rfl⟩
    have hf23 : Fr W2 (W2.drewN q) (fun _ => False) := (Fr.refl _ _).drewN q
    have hba3 : (W2.drewN q).heap[w.heap.size]? = _ := hba
    have hct3 := h3.ct
    generalize W2.drewN q = W3 at *
    have kk0 := cell_of_blk (o := 0) hba3 rfl
    have kk1 := cell_of_blk (o := 1) hba3 rfl
    have kk2 := cell_of_blk (o := 2) hba3 rfl
    have kk3 := cell_of_blk (o := 3) hba3 rfl
    have kk4 := cell_of_blk (o := 4) hba3 rfl
    have kk5 := cell_of_blk (o := 5) hba3 rfl
    have kk6 := cell_of_blk (o := 6) hba3 rfl
    have kk7 := cell_of_blk (o := 7) hba3 rfl
    have kk8 := cell_of_blk (o := 8) hba3 rfl
    have kk9 := cell_of_blk (o := 9) hba3 rfl
    have hsw : w.heap.size < W3.heap.size := (Array.getElem?_eq_some_iff.1 hba3).1
    have hkw : kb < W3.heap.size := by omega
    rcases idx_cases (isAt n ix) R.L with ⟨hx2, hfi3⟩ | ⟨p2, hp2, hx2, hfi3, _⟩
    · have HD2 : Hid (doR R b c = (3, R)) := by
        show _ = _
        rw [HD.out]
        have : R.L.findIdx? (isAt n ix) = none := by
          cases hq : R.L.findIdx? (isAt n ix) with
          | none => rfl
          | some v => rw [hq] at hx2; simp [optI] at hx2
        rw [this]
      unfold atI
      rw [hx2]
      clear HD
      go_wp2_with fail
      go_must (refine (rretype_neg kb (stillI R.N R.T[p].root) c av tv _).mono ?_)
      rintro e W5 ⟨rfl, hf5⟩
      have hf6 : Fr W2 W5 (fun _ => False) := (hf23.alloc _).step hf5 (fun _ => False.elim)
      clear hf5
      go_wp2
      go_ret2
      exact ok _ (3, R) hf6 HD2.out rfl
    · obtain ⟨g2, cap2, hlv2, hcap2, hglt2, d0, d1, d2, d3, d4, d5, d6, d7, d8⟩ := ent_cells h3 p2 hp2
      have hc3 := h3.cl
      rw [hlv2] at hc3
      clear hlv2
      have HD2 : Hid (doR R b c = retype R (stillI R.N R.T[p].root) c p2 R.L[p2]) := by
        show _ = _
        rw [HD.out]
        have : R.L.findIdx? (isAt n ix) = some p2 := by
          cases hq : R.L.findIdx? (isAt n ix) with
          | none => rw [hq] at hx2; simp [optI] at hx2
          | some v =>
            rw [hq] at hx2
            have hv0 : (v : Int) = (p2 : Int) := hx2
            have hv : v = p2 := by omega
            rw [hv]
        rw [this]
        simp only [List.getElem?_eq_getElem hp2]
      unfold atI
      rw [hx2]
      clear HD
      have okc : ∀ W4 W5 e5, Fr W3 W4 (fun _ => False) → RetOut W4 kb V2 (retype R (stillI R.N R.T[p].root) c p2 R.L[p2]) e5 W5 →
          e5 = .returned (.int .i64 (retype R (stillI R.N R.T[p].root) c p2 R.L[p2]).1) ∧ DoOut w kb V (doR R b c) (.returned (.tuple #[.int .i64 0, .int .i64 (retype R (stillI R.N R.T[p].root) c p2 R.L[p2]).1])) W5 := by
        rintro W4 W5 e5 hf4 ⟨he5, lv', nv', tv', h5, hf5, hlt5⟩
        have hf24 : Fr w W4 (V.fp kb) := (hf2.step hf23 (fun _ => False.elim)).step hf4 (fun _ => False.elim)
        refine ⟨he5, by rw [HD2.out], { V2 with lv := lv', nv := nv', tv := tv' }, by rw [HD2.out]; exact h5, hV3.1, hV3.2.1, hV3.2.2, hf24.step hf5 (fun k hk => .inl (hfp k hk)), ?_⟩
        intro k hk
        rcases hlt5 k hk with h10 | h10
        · exact .inl (hfp k h10)
        · exact .inr (Nat.le_trans hf24.size h10)
      have htv3 := htv2.fr hf23 (fun _ _ => id)
      obtain ⟨hu0, hu1⟩ := hR.u p2 hp2
      obtain ⟨x0, x1, x2, x3, x4, x5⟩ := hE.e p2 hp2
      go_wp2_with fail
      have h4 := h3.frame ((Fr.refl W3 (fun _ => False)).alloc (.cells #[.int .i64 R.L[p2].ty, .int .i64 R.L[p2].base, .int .i64 R.L[p2].bits, .int .i64 R.L[p2].rights, .int .i64 R.L[p2].badge, .int .i64 R.L[p2].mark] 46)) (fun _ _ => id)
      go_must (refine (rretype_any R V2 kb (stillI R.N R.T[p].root) c av tv p2 _ h4 hn hm ho hR.b hp2 hl hE.n hE.t hu0 hu1 (htv3.fr ((Fr.refl W3 (fun _ => False)).alloc _) (fun _ _ => id)) x0 x1 x2 x3 x4 x5).mono ?_)
      intro e5 W5 hret
      obtain ⟨rfl, fin⟩ := okc _ W5 e5 ((Fr.refl W3 (fun _ => False)).alloc _) hret
      clear okc hret h4
      go_wp2
      go_ret2
      exact fin
end Go.Proofs.YtdpjgflemddekaaGreatDoor

/- What the statements' function does rests on. -/
import Derived.Test.YtdpjgflemddekaaGreatDoorMLawH
import Derived.Test.YtdpjgflemddekaaGreatDoorMLawJ0
import Derived.Test.YtdpjgflemddekaaGreatDoorMRefC
import Derived.Deep.DeepCutAuto
namespace Go.Proofs.YtdpjgflemddekaaGreatDoor
open Go.RowKit

/-- A step of a script, as it lies. -/
def opVal (ask th : Int) (c : Cl) (av tv bv : Value) (n : Int) (which : Bool) : Value :=
  .agg #[.int .i64 ask, .int .i64 th, .int .i64 c.kind, av, tv, .int .i64 c.ty, .int .i64 c.bits, .int .i64 c.count, .int .i64 c.rights, .int .i64 c.badge, .int .i64 c.value, .int .i64 c.offset, bv, .int .i64 n, .bool which]

theorem infoBools : (Tryz.prog.info? 54).map (fun i => (i.zero, i.size, i.bytes)) = some (some (.slice none 0 0), 1, 24) := by kernel_rfl
theorem infoBool : (Tryz.prog.info? 4).map (fun i => (i.zero, i.size, i.bytes)) = some (some (.bool false), 1, 1) := by kernel_rfl
theorem sizeBool : (Tryz.prog.info? 4).map (·.size) = some 1 := by kernel_rfl
theorem madeB1 : madeCells #[Value.bool false] 1 = #[Value.bool false] := by
  simp only [madeCells]
  rw [show Array.range 1 = #[0] by decide]
  simp

/-- The pair of kernels behind a call of both. -/
theorem SideOk.after {w W6 W7 W8 : World} {D : SideD} {VK' : KerV} {R' : Ref} {VR' : RefV} (h : SideOk w D) (hF6 : Fr w W6 (fun _ => False)) (hf7 : Fr W6 W7 (D.VK.fp D.kx)) (hk7 : KerAt W7 D.kx VK') (hfp7 : ∀ k, VK'.fp D.kx k → D.VK.fp D.kx k ∨ W6.heap.size ≤ k) (hdk7 : VK'.dv = D.VK.dv)
    (hf8 : Fr W7 W8 (D.VR.fp D.ky)) (hr8 : RefAt W8 D.ky R' VR') (hfp8 : ∀ k, VR'.fp D.ky k → D.VR.fp D.ky k ∨ W7.heap.size ≤ k) (hd8 : VR'.dv = D.VR.dv) (hw8 : VR'.ws = D.VR.ws) (hinv : Inv R' VK'.ker) :
    SideOk W8 { D with VK := VK', R := R', VR := VR' } ∧ Fr w W8 D.fp ∧ ∀ k, SideD.fp { D with VK := VK', R := R', VR := VR' } k → D.fp k ∨ W6.heap.size ≤ k := by
  have l6 := hF6.size
  have l7 := hf7.size
  have hsb := (Array.getElem?_eq_some_iff.1 h.side).1
  have key : ∀ k, VK'.fp D.kx k → ¬ D.VR.fp D.ky k := by
    intro k hk hr
    rcases hfp7 k hk with e | e
    · exact h.a3 k e hr
    · have := h.ref.fpLt hr; omega
  refine ⟨⟨?_, hk7.frame hf8 key, hr8, hinv, hdk7.trans h.dk, hd8.trans h.dr, fun i hi => by show VR'.ws i = 0; rw [hw8]; exact h.ws i hi, ?_, ?_, ?_⟩, ?_, ?_⟩
  · exact hf8.same (hf7.same (hF6.same h.side id) h.a1) h.a2
  · intro e
    rcases hfp7 _ e with e | e
    · exact h.a1 e
    · have : W6.heap.size ≤ D.sb := e; omega
  · intro e
    rcases hfp8 _ e with e | e
    · exact h.a2 e
    · have : W7.heap.size ≤ D.sb := e; omega
  · intro k hk hr
    rcases hfp8 k hr with e | e
    · exact key k hk e
    · have := hk7.fpLt hk; omega
  · exact ((hF6.mono (fun _ => False.elim)).step hf7 (fun k hk => .inl (.inr (.inl hk)))).step hf8 (fun k hk => .inl (.inr (.inr hk)))
  · rintro k (e | e | e)
    · exact .inl (.inl e)
    · rcases hfp7 k e with e | e
      · exact .inl (.inr (.inl e))
      · exact .inr e
    · rcases hfp8 k e with e | e
      · exact .inl (.inr (.inr e))
      · exact .inr (by omega)

/-- The game behind a call of both kernels, the lists that went in kept. -/
theorem does_done {w W6 W8 W : World} {wb : Nat} {U U' : LawV} {D D' : SideD} {gA gT gB : Nat} {vA vT vB vW : Value} (h : GameAt w wb U D) (hw68 : W6.heap.size ≤ W8.heap.size) (hg : w.heap.size ≤ gA ∧ w.heap.size ≤ gT ∧ w.heap.size ≤ gB ∧ gA < W6.heap.size ∧ gT < W6.heap.size ∧ gB < W6.heap.size)
    (hF8 : Fr w W8 D.fp) (hsd8 : SideOk W8 D') (hfpD : ∀ k, D'.fp k → D.fp k ∨ W6.heap.size ≤ k) (hDsb : D'.sb = D.sb) (hF : Fr W8 W (fun k => U.fp wb k ∨ k = gA ∨ k = gT ∨ k = gB)) (hL : LawAt W wb U')
    (hrl : U'.rl = fun j => if j = 3 then U.rl 3 ++ [vA] ++ [vT] else if j = 4 then U.rl 4 ++ [vB] else if j = 5 then U.rl 5 ++ [vW] else U.rl j) (hfU : ∀ k, U'.fp wb k → U.fp wb k ∨ W8.heap.size ≤ k) (hcb : ∀ k, U'.cb k → U.cb k ∨ k = gA ∨ k = gT ∨ k = gB ∨ W8.heap.size ≤ k)
    (fA : Filled W [.int .i64 (-7)] vA) (fT : Filled W [.int .i64 (-7)] vT) (fB : ∃ l : List Bool, l.length ≤ 3000000 ∧ BoolsAt W vB l ∧ BoolsAt W vW l) : GameOut w wb U D U' D' W := by
  have hG8 : GoodL W8 U := h.good.frame hF8 (fun k hk e => (h.sep k e).2 hk)
  have hsD : ∀ k, D'.fp k → ¬ (U.fp wb k ∨ k = gA ∨ k = gT ∨ k = gB) := by
    rintro k hk e
    rcases hfpD k hk with e1 | e1
    · have := h.sd.lt e1
      rcases e with e | e | e | e
      · exact (h.sep k e1).1 e
      · omega
      · omega
      · omega
    · rcases e with e | e | e | e
      · have := h.law.lt e; omega
      · omega
      · omega
      · omega
  have hGW : GoodL W U := hG8.frame hF (fun k hk e => by
    have := h.law.clt k hk
    rcases e with e | e | e | e
    · exact h.law.cont k hk e
    · omega
    · omega
    · omega)
  have r0 : U'.rl 0 = U.rl 0 := by rw [hrl]; rfl
  have r1 : U'.rl 1 = U.rl 1 := by rw [hrl]; rfl
  have r2 : U'.rl 2 = U.rl 2 := by rw [hrl]; rfl
  have r3 : U'.rl 3 = U.rl 3 ++ [vA] ++ [vT] := by rw [hrl]; rfl
  have r4 : U'.rl 4 = U.rl 4 ++ [vB] := by rw [hrl]; rfl
  have r5 : U'.rl 5 = U.rl 5 ++ [vW] := by rw [hrl]; rfl
  refine ⟨⟨hL, ⟨?_, ?_, ?_, ?_, ?_⟩, hsd8.frame hF hsD, fun k hk => ⟨fun e => ?_, fun e => ?_⟩, by rw [r1]; exact h.m1, by rw [r2]; exact h.m2⟩, ?_, fun k hk => (hfU k hk).imp id (fun e => by omega), fun k hk => ?_, fun k hk => (hfpD k hk).imp id (fun e => by omega), hDsb, r0, ?_⟩
  · intro i v hv; rw [r1] at hv; exact hGW.e i v hv
  · intro i v hv; rw [r2] at hv; exact hGW.d i v hv
  · intro i v hv
    rw [r3] at hv
    by_cases h1 : i < (U.rl 3).length
    · rw [List.getElem?_append_left (by simp; omega), List.getElem?_append_left h1] at hv
      exact hGW.i i v hv
    · have hm := mem_of_get hv
      by_cases h2 : i = (U.rl 3).length
      · subst h2
        simp at hv; subst hv; exact fA
      · have h3 := (List.getElem?_eq_some_iff.1 hv).1
        simp at h3
        have : i = (U.rl 3).length + 1 := by omega
        subst this
        rw [List.getElem?_append_right (by simp)] at hv
        simp at hv; subst hv; exact fT
  · rw [r4, r5]; simp [hGW.bx]
  · intro i v x hv hx
    rw [r4] at hv
    rw [r5] at hx
    by_cases h1 : i < (U.rl 4).length
    · rw [List.getElem?_append_left h1] at hv
      rw [List.getElem?_append_left (by rw [← hGW.bx]; exact h1)] at hx
      exact hGW.b i v x hv hx
    · have h3 := (List.getElem?_eq_some_iff.1 hv).1
      simp at h3
      have : i = (U.rl 4).length := by omega
      subst this
      simp at hv
      rw [hGW.bx] at hx
      simp at hx
      subst hv; subst hx; exact fB
  · have hl8 := hsd8.lt hk
    rcases hfU k e with e | e
    · exact hsD k hk (.inl e)
    · omega
  · have hl8 := hsd8.lt hk
    rcases hcb k e with e | e | e | e | e
    · rcases hfpD k hk with e1 | e1
      · exact (h.sep k e1).2 e
      · have := h.law.clt k e; omega
    · exact hsD k hk (.inr (.inl e))
    · exact hsD k hk (.inr (.inr (.inl e)))
    · exact hsD k hk (.inr (.inr (.inr e)))
    · omega
  · exact (hF8.mono (fun k hk => .inr hk)).step hF (fun k hk => by
      rcases hk with e | e | e | e
      · exact .inl (.inl e)
      · exact .inr (by omega)
      · exact .inr (by omega)
      · exact .inr (by omega))
  · rcases hcb k hk with e | e | e | e | e
    · exact .inl e
    · exact .inr (by omega)
    · exact .inr (by omega)
    · exact .inr (by omega)
    · exact .inr (by omega)
  · intro j hj
    have : j = 0 ∨ j = 1 ∨ j = 2 ∨ j = 3 ∨ j = 4 ∨ j = 5 := by omega
    rcases this with rfl | rfl | rfl | rfl | rfl | rfl
    · rw [r0]; omega
    · rw [r1]; omega
    · rw [r2]; omega
    · rw [r3]; simp
    · rw [r4]; simp
    · rw [r5]; simp

end Go.Proofs.YtdpjgflemddekaaGreatDoor
/- The statements' own function does, where no bits are handed in. -/
namespace Go.Proofs.YtdpjgflemddekaaGreatDoor
open Go.RowKit

set_option maxRecDepth 100000 in
set_option maxHeartbeats 4000000 in
theorem does_none (wb : Nat) (U : LawV) (D : SideD) (w : World) (h : GameAt w wb U D) (hgl : Glob w) (ask th n : Int) (which : Bool) (c : Cl) (av tv : Value) (hav : IntsAt w av c.at_) (htv : IntsAt w tv c.to) (hal : c.at_.length ≤ 1048576) (htl : c.to.length ≤ 1048576)
    (hda : 0 < c.at_.length → ∀ k, av.ownBlock = some k → k < w.heap.size ∧ ¬ U.fp wb k ∧ ¬ D.fp k) (hdt : 0 < c.to.length → ∀ k, tv.ownBlock = some k → k < w.heap.size ∧ ¬ U.fp wb k ∧ ¬ D.fp k) (hk : c.kind ≤ 4 ∨ 11 < c.kind) (hth0 : -9223372036854775808 ≤ th) (hth1 : th ≤ 9223372036854775807) (hn : ∀ j, j < 6 → (U.rl j).length ≤ 80000000) :
    Calls Tryz.prog 25 #[.pointer (some ⟨wb, 0, none⟩), .pointer (some ⟨D.sb, 0, none⟩), opVal ask th c av tv (.slice none 0 0) n which] w fun e w' => e = .returned (.bool true) ∧ ∃ U' D', GameOut w wb U D U' D' w' := by
  have hmk : ∀ w' : World, (Instr.makeSlice 54 (.int .i64 1) (.int .i64 1)).run Tryz.prog w' = .ok (.slice (some ⟨w'.heap.size, 0, none⟩) 1 1) (w'.alloc (.cells #[.bool false] 4)) := fun w' => by
    have hx := run_make_row' 54 4 (.bool false) 1 Tryz.underlying54 infoBool rfl .i64 .i64 1 (by omega) (by omega) w'
    rw [madeB1] at hx
    exact hx
  obtain ⟨iB, hiB, hB0, hB1, hB2⟩ := info_parts infoBool
  obtain ⟨iL, hiL, hL0, hL1, hL2⟩ := info_parts infoBools
  obtain ⟨A, capA, rfl, hA⟩ := hav
  obtain ⟨B, capB, rfl, hB⟩ := htv
  unfold opVal
  go_enter Tryz.func25, Tryz.ntmps25
  go_upto_region 1 with fail
  generalize hW1 : w.alloc _ = W1
  have hf1 : Fr w W1 (fun _ => False) := by rw [← hW1]; exact (Fr.refl _ _).alloc _
  have hb5 : W1.heap[w.heap.size]? = some (.cells #[.int .i64 ask, .int .i64 th, .int .i64 c.kind, .slice A c.at_.length capA, .slice B c.to.length capB, .int .i64 c.ty, .int .i64 c.bits, .int .i64 c.count, .int .i64 c.rights, .int .i64 c.badge, .int .i64 c.value, .int .i64 c.offset, .slice none 0 0, .int .i64 n, .bool which] 56 (0, 0)) := by rw [← hW1]; exact heap_alloc_new _ _
  have hs1 : w.heap.size < W1.heap.size := (Array.getElem?_eq_some_iff.1 hb5).1
  clear hW1
  have p3 := cell_of_blk (o := 3) hb5 rfl
  have hlA := lent_any (.slice A c.at_.length capA) c.at_ W1 (by omega) ⟨A, capA, rfl, fun h0 => by obtain ⟨g, o, e, hc⟩ := hA h0; exact ⟨g, o, e, fun i hi => hf1.cell (hc i hi) id⟩⟩
  go_upto_region 2 with (go_at_call 47; refine hlA.mono ?_; rintro e W2 ⟨rfl, hbA, hf2⟩)
  clear hlA p3
  have hb5' := hf2.same hb5 id
  have hF2 : Fr w W2 (fun _ => False) := hf1.step hf2 (fun _ => False.elim)
  have hs2 := (Array.getElem?_eq_some_iff.1 hbA).1
  have p4 := cell_of_blk (o := 4) hb5' rfl
  have hlB := lent_any (.slice B c.to.length capB) c.to W2 (by omega) ⟨B, capB, rfl, fun h0 => by obtain ⟨g, o, e, hc⟩ := hB h0; exact ⟨g, o, e, fun i hi => hF2.cell (hc i hi) id⟩⟩
  go_upto_region 3 with (go_at_call 47; refine hlB.mono ?_; rintro e W3 ⟨rfl, hbT, hf3⟩)
  clear hlB p4
  have hb5 := hf3.same hb5' id
  have hbA3 := hf3.same hbA id
  have hF3 : Fr w W3 (fun _ => False) := hF2.step hf3 (fun _ => False.elim)
  have hs3 := (Array.getElem?_eq_some_iff.1 hbT).1
  clear hb5' hbA
  have hgo0 : w.heap.size < W1.heap.size ∧ W1.heap.size < W2.heap.size ∧ W2.heap.size < W3.heap.size := ⟨hs1, by have := hf2.size; omega, hs3⟩
  clear hf2 hf3 hF2 hf1 hs1 hs2 hs3
  generalize hgA : W1.heap.size = gA at *
  generalize hgT : W2.heap.size = gT at *
  generalize hBo : w.heap.size = Bo at *
  obtain ⟨hgo1, hgo2, hgo3⟩ := hgo0
  clear hgA hgT
  have p12 := cell_of_blk (o := 12) hb5 rfl
  have hlt3 : Bo < W3.heap.size := by omega
  go_upto_region 4 with fail
  clear hmk p12
  generalize hW4 : W3.alloc _ = W4
  have hf4 : Fr W3 W4 (fun _ => False) := by rw [← hW4]; exact (Fr.refl _ _).alloc _
  have hbB : W4.heap[W3.heap.size]? = some (.cells #[.bool false] 4 (0, 0)) := by rw [← hW4]; exact heap_alloc_new _ _
  have hs4 := (Array.getElem?_eq_some_iff.1 hbB).1
  have hF4 : Fr w W4 (fun _ => False) := hF3.step hf4 (fun _ => False.elim)
  have hb5 := hf4.same hb5 id
  have hbA := hf4.same hbA3 id
  have hbT := hf4.same hbT id
  clear hW4 hf4 hF3 hbA3
  generalize hgB : W3.heap.size = gB at *
  clear hgB
  have p0 := cell_of_blk (o := 0) hb5 rfl
  have p1 := cell_of_blk (o := 1) hb5 rfl
  have p2 := cell_of_blk (o := 2) hb5 rfl
  have p3 := cell_of_blk (o := 3) hb5 rfl
  have p4 := cell_of_blk (o := 4) hb5 rfl
  have p5 := cell_of_blk (o := 5) hb5 rfl
  have p6 := cell_of_blk (o := 6) hb5 rfl
  have p7 := cell_of_blk (o := 7) hb5 rfl
  have p8 := cell_of_blk (o := 8) hb5 rfl
  have p9 := cell_of_blk (o := 9) hb5 rfl
  have p10 := cell_of_blk (o := 10) hb5 rfl
  have p11 := cell_of_blk (o := 11) hb5 rfl
  have p12 := cell_of_blk (o := 12) hb5 rfl
  have hlt4 : Bo < W4.heap.size := by omega
  have hltA : gA < W4.heap.size := by omega
  have hltT : gT < W4.heap.size := by omega
  go_upto_region 6 with (refine wpList_copy_nothing rfl _ _ 54 54 rfl 4 Tryz.underlying54 sizeBool _ _ _ _ _ _ rfl rfl (Nat.zero_min _) ?_)
  go_upto_region 8 with fail
  clear p0 p1 p2 p3 p4 p5 p6 p7 p8 p9 p10 p11 p12
  generalize hW5 : W4.alloc _ = W5
  have hf5 : Fr W4 W5 (fun _ => False) := by rw [← hW5]; exact (Fr.refl _ _).alloc _
  have hbC : W5.heap[W4.heap.size]? = some (.cells #[.int .i64 c.kind, .slice (some ⟨gA, 0, none⟩) c.at_.length (c.at_.length + 1), .slice (some ⟨gT, 0, none⟩) c.to.length (c.to.length + 1), .int .i64 c.ty, .int .i64 c.bits, .int .i64 c.count, .int .i64 c.rights, .int .i64 c.badge, .int .i64 c.value, .int .i64 c.offset] 41 (0, 0)) := by rw [← hW5]; exact heap_alloc_new _ _
  have hs5 := (Array.getElem?_eq_some_iff.1 hbC).1
  have hF5 : Fr w W5 (fun _ => False) := hF4.step hf5 (fun _ => False.elim)
  have hb5 := hf5.same hb5 id
  have hbA := hf5.same hbA id
  have hbT := hf5.same hbT id
  have hbB := hf5.same hbB id
  clear hW5 hf5 hF4
  generalize hgC : W4.heap.size = gC at *
  clear hgC
  have p1 := cell_of_blk (o := 1) hb5 rfl
  have hsd5 := h.sd.frame hF5 (fun _ _ => id)
  have hlt5 : Bo < W5.heap.size := by omega
  have hbase := base_any D.R D.VR D.ky D.sb th W5 hsd5.ref (cell_of_blk (o := 1) hsd5.side rfl) (by have := h.sd.inv.lenT; omega) h.sd.inv.t0 hth0 hth1
  go_upto_region 9 with (go_at_call 27; refine hbase.mono ?_; rintro e W6 ⟨rfl, q6, rfl⟩)
  clear hbase p1 hsd5
  have hF6 : Fr w (W5.drewN q6) (fun _ => False) := hF5.drewN q6
  have hb5 : (W5.drewN q6).heap[Bo]? = _ := hb5
  have hbA : (W5.drewN q6).heap[gA]? = _ := hbA
  have hbT : (W5.drewN q6).heap[gT]? = _ := hbT
  have hbB : (W5.drewN q6).heap[gB]? = _ := hbB
  have hbC : (W5.drewN q6).heap[gC]? = _ := hbC
  have hs6 : gC < (W5.drewN q6).heap.size := hs5
  clear hF5 hs5 hlt5
  generalize W5.drewN q6 = W6 at *
  generalize hbi : baseI D.R.T th = bi at *
  have hsd6 := h.sd.frame hF6 (fun _ _ => id)
  have hgl6 := Glob.fr hgl hF6
  have hav6 : IntsAt W6 (.slice (some ⟨gA, 0, none⟩) c.at_.length (c.at_.length + 1)) c.at_ := ⟨_, _, rfl, fun _ => ⟨gA, 0, rfl, fun i hi => by rw [Nat.zero_add]; exact cell_of_blk hbA (rowI_get c.at_ 78 i hi)⟩⟩
  have htv6 : IntsAt W6 (.slice (some ⟨gT, 0, none⟩) c.to.length (c.to.length + 1)) c.to := ⟨_, _, rfl, fun _ => ⟨gT, 0, rfl, fun i hi => by rw [Nat.zero_add]; exact cell_of_blk hbT (rowI_get c.to 78 i hi)⟩⟩
  have hkids6 : ∀ p x, look p D.VK.M = some x → x.kids.length < 1000000 := fun p x hx => by
    have := h.sd.inv.kids (s := p) (x := x.std) (by simp [KerV.ker, stOf, hx])
    simp only [RStd.std] at this; omega
  have hdo : ∀ W, Fr W6 W (fun _ => False) → Calls Tryz.prog 11 #[.pointer (some ⟨D.kx, 0, none⟩), .int .i64 bi, .agg #[.int .i64 c.kind, .slice (some ⟨gA, 0, none⟩) c.at_.length (c.at_.length + 1), .slice (some ⟨gT, 0, none⟩) c.to.length (c.to.length + 1), .int .i64 c.ty, .int .i64 c.bits, .int .i64 c.count, .int .i64 c.rights, .int .i64 c.badge, .int .i64 c.value, .int .i64 c.offset], .slice (some ⟨gB, 0, none⟩) 0 1] W (fun e w' => e = .returned (.tuple #[.int .i64 0, .int .i64 (doK D.VK.ker bi c).1]) ∧ KOut W D.kx D.VK (doK D.VK.ker bi c).2 w') := by
    intro W hW
    refine kdo_any D.VK D.kx c _ _ (some ⟨gB, 0, none⟩) 0 1 bi W ⟨hsd6.ker.frame hW (fun _ _ => id), hav6.fr hW (fun _ _ => id), htv6.fr hW (fun _ _ => id), by omega, by omega, fun _ _ _ e => by cases e; omega, fun _ _ _ e => by cases e; omega, hkids6⟩ h.sd.dk (Glob.fr hgl6 hW) h.sd.inv.retypeOk h.sd.inv.rel.treeOk hk
  have hagree := do_agree h.sd.inv bi c hk
  generalize (doK D.VK.ker bi c).1 = ex at *
  generalize (doK D.VK.ker bi c).2 = K' at *
  have s0 := cell_of_blk (o := 0) hsd6.side rfl
  have q0 := cell_of_blk (o := 0) hbC rfl
  have q1 := cell_of_blk (o := 1) hbC rfl
  have q2 := cell_of_blk (o := 2) hbC rfl
  have q3 := cell_of_blk (o := 3) hbC rfl
  have q4 := cell_of_blk (o := 4) hbC rfl
  have q5 := cell_of_blk (o := 5) hbC rfl
  have q6 := cell_of_blk (o := 6) hbC rfl
  have q7 := cell_of_blk (o := 7) hbC rfl
  have q8 := cell_of_blk (o := 8) hbC rfl
  have q9 := cell_of_blk (o := 9) hbC rfl
  have p12 := cell_of_blk (o := 12) hb5 rfl
  have nC : ¬ D.VK.fp D.kx gC := fun e => by have := h.sd.ker.fpLt e; omega
  have nO : ¬ D.VK.fp D.kx Bo := fun e => by have := h.sd.ker.fpLt e; omega
  go_region_held3 (fun w' => w'.cell? ⟨D.sb, 0, none⟩ = some (.pointer (some ⟨D.kx, 0, none⟩)) ∧ w'.cell? ⟨gC, 0, none⟩ = some (.int .i64 c.kind) ∧ w'.cell? ⟨gC, 1, none⟩ = some (.slice (some ⟨gA, 0, none⟩) c.at_.length (c.at_.length + 1)) ∧ w'.cell? ⟨gC, 2, none⟩ = some (.slice (some ⟨gT, 0, none⟩) c.to.length (c.to.length + 1)) ∧ w'.cell? ⟨gC, 3, none⟩ = some (.int .i64 c.ty) ∧ w'.cell? ⟨gC, 4, none⟩ = some (.int .i64 c.bits) ∧ w'.cell? ⟨gC, 5, none⟩ = some (.int .i64 c.count) ∧ w'.cell? ⟨gC, 6, none⟩ = some (.int .i64 c.rights) ∧ w'.cell? ⟨gC, 7, none⟩ = some (.int .i64 c.badge) ∧ w'.cell? ⟨gC, 8, none⟩ = some (.int .i64 c.value) ∧ w'.cell? ⟨gC, 9, none⟩ = some (.int .i64 c.offset) ∧ w'.cell? ⟨Bo, 12, none⟩ = some (.slice none 0 0)) (first | go_keep | (simp [go_sem, r0, m0, m1, m2, m3, m4, m5, m6, m7, m8, m9, m12]; done))
    (first
    | (go_at_call 11; refine (hdo _ (Fr.refl _ _).drew).mono ?_; rintro e W7 ⟨rfl, hK7⟩
       have mC := hK7.frOf.same (show W6.drew.heap[gC]? = _ from hbC) nC; have mO := hK7.frOf.same (show W6.drew.heap[Bo]? = _ from hb5) nO; have mS := hK7.frOf.same (show W6.drew.heap[D.sb]? = _ from hsd6.side) h.sd.a1
       have r0 := cell_of_blk (o := 0) mS rfl; have m0 := cell_of_blk (o := 0) mC rfl; have m1 := cell_of_blk (o := 1) mC rfl; have m2 := cell_of_blk (o := 2) mC rfl; have m3 := cell_of_blk (o := 3) mC rfl; have m4 := cell_of_blk (o := 4) mC rfl; have m5 := cell_of_blk (o := 5) mC rfl; have m6 := cell_of_blk (o := 6) mC rfl; have m7 := cell_of_blk (o := 7) mC rfl; have m8 := cell_of_blk (o := 8) mC rfl; have m9 := cell_of_blk (o := 9) mC rfl; have m12 := cell_of_blk (o := 12) mO rfl))
  clear r0 m0 m1 m2 m3 m4 m5 m6 m7 m8 m9 m12 q0 q1 q2 q3 q4 q5 q6 q7 q8 q9 p12 s0 hdo hav6 htv6 hkids6 hgl6
  obtain ⟨VK', hk7, hke7, hdk7, hfr7, hfp7⟩ := hK7
  have hf7 : Fr W6 W7 (D.VK.fp D.kx) := hfr7.drewl
  have hfp7 : ∀ k, VK'.fp D.kx k → D.VK.fp D.kx k ∨ W6.heap.size ≤ k := hfp7
  have nA : ¬ D.VK.fp D.kx gA := fun e => by have := h.sd.ker.fpLt e; omega
  have nT : ¬ D.VK.fp D.kx gT := fun e => by have := h.sd.ker.fpLt e; omega
  have nB : ¬ D.VK.fp D.kx gB := fun e => by have := h.sd.ker.fpLt e; omega
  have hbA := hf7.same hbA nA
  have hbT := hf7.same hbT nT
  have hbB := hf7.same hbB nB
  have hF7 : Fr w W7 (D.VK.fp D.kx) := (hF6.mono (fun _ => False.elim)).step hf7 (fun _ hk => .inl hk)
  have href7 := h.sd.ref.frame hF7 (fun k hk e => h.sd.a3 k e hk)
  have hav7 : IntsAt W7 (.slice A c.at_.length capA) c.at_ := (show IntsAt w (.slice A c.at_.length capA) c.at_ from ⟨A, capA, rfl, hA⟩).fr' hF7 (fun h0 k hk e => (hda h0 k hk).2.2 (.inr (.inl e)))
  have htv7 : IntsAt W7 (.slice B c.to.length capB) c.to := (show IntsAt w (.slice B c.to.length capB) c.to from ⟨B, capB, rfl, hB⟩).fr' hF7 (fun h0 k hk e => (hdt h0 k hk).2.2 (.inr (.inl e)))
  have hs7 := hf7.size
  clear hfr7 hb5 hbC hsd6
  have hdoR : ∀ W, Fr W7 W (fun _ => False) → Calls Tryz.prog 48 #[.pointer (some ⟨D.ky, 0, none⟩), .int .i64 bi, .agg #[.int .i64 c.kind, .slice A c.at_.length capA, .slice B c.to.length capB, .int .i64 c.ty, .int .i64 c.bits, .int .i64 c.count, .int .i64 c.rights, .int .i64 c.badge, .int .i64 c.value, .int .i64 c.offset], .slice none 0 0] W (DoOut W D.ky D.VR (doR D.R bi c)) := by
    intro W hW
    exact rdo_any D.R D.VK.ker h.sd.inv D.VR D.ky bi c _ _ W (href7.frame hW (fun _ _ => id)) (by omega) (by omega) (hav7.fr hW (fun _ _ => id)) (htv7.fr hW (fun _ _ => id)) (fun h0 k hk e => (hda h0 k hk).2.2 (.inr (.inr e))) (fun h0 k hk e => (hdt h0 k hk).2.2 (.inr (.inr e))) h.sd.dr hk
  unfold DoOut at hdoR
  obtain ⟨hag1, hag2⟩ := hagree
  generalize (doR D.R bi c).1 = ey at *
  generalize (doR D.R bi c).2 = R' at *
  subst hag1
  have s1 := cell_of_blk (o := 1) mS rfl
  have p2 := cell_of_blk (o := 2) mO rfl
  have p3 := cell_of_blk (o := 3) mO rfl
  have p4 := cell_of_blk (o := 4) mO rfl
  have p5 := cell_of_blk (o := 5) mO rfl
  have p6 := cell_of_blk (o := 6) mO rfl
  have p7 := cell_of_blk (o := 7) mO rfl
  have p8 := cell_of_blk (o := 8) mO rfl
  have p9 := cell_of_blk (o := 9) mO rfl
  have p10 := cell_of_blk (o := 10) mO rfl
  have p11 := cell_of_blk (o := 11) mO rfl
  have p12 := cell_of_blk (o := 12) mO rfl
  have nS : ¬ D.VR.fp D.ky D.sb := h.sd.a2
  have nO : ¬ D.VR.fp D.ky Bo := fun e => by have := h.sd.ref.fpLt e; omega
  have nA : ¬ D.VR.fp D.ky gA := fun e => by have := h.sd.ref.fpLt e; omega
  have nT : ¬ D.VR.fp D.ky gT := fun e => by have := h.sd.ref.fpLt e; omega
  have nB : ¬ D.VR.fp D.ky gB := fun e => by have := h.sd.ref.fpLt e; omega
  clear mC nC
  go_wp2_with fail
  go_region_held3 (fun w' => w'.cell? ⟨D.sb, 1, none⟩ = some (.pointer (some ⟨D.ky, 0, none⟩)) ∧ w'.cell? ⟨Bo, 2, none⟩ = some (.int .i64 c.kind) ∧ w'.cell? ⟨Bo, 3, none⟩ = some (.slice A c.at_.length capA) ∧ w'.cell? ⟨Bo, 4, none⟩ = some (.slice B c.to.length capB) ∧ w'.cell? ⟨Bo, 5, none⟩ = some (.int .i64 c.ty) ∧ w'.cell? ⟨Bo, 6, none⟩ = some (.int .i64 c.bits) ∧ w'.cell? ⟨Bo, 7, none⟩ = some (.int .i64 c.count) ∧ w'.cell? ⟨Bo, 8, none⟩ = some (.int .i64 c.rights) ∧ w'.cell? ⟨Bo, 9, none⟩ = some (.int .i64 c.badge) ∧ w'.cell? ⟨Bo, 10, none⟩ = some (.int .i64 c.value) ∧ w'.cell? ⟨Bo, 11, none⟩ = some (.int .i64 c.offset) ∧ w'.cell? ⟨Bo, 12, none⟩ = some (.slice none 0 0)) (first | go_keep | (simp [go_sem, r1, m2, m3, m4, m5, m6, m7, m8, m9, m10, m11, m12]; done))
    (first
    | (go_at_call 48; refine (hdoR _ (Fr.refl _ _).drew).mono ?_; rintro e W8 ⟨rfl, VR', hr8, hq8, hd8, hw8, hfr8, hfp8⟩
       have mO8 := hfr8.same (show W7.drew.heap[Bo]? = _ from mO) nO; have mS8 := hfr8.same (show W7.drew.heap[D.sb]? = _ from mS) nS
       have r1 := cell_of_blk (o := 1) mS8 rfl; have m2 := cell_of_blk (o := 2) mO8 rfl; have m3 := cell_of_blk (o := 3) mO8 rfl; have m4 := cell_of_blk (o := 4) mO8 rfl; have m5 := cell_of_blk (o := 5) mO8 rfl; have m6 := cell_of_blk (o := 6) mO8 rfl; have m7 := cell_of_blk (o := 7) mO8 rfl; have m8 := cell_of_blk (o := 8) mO8 rfl; have m9 := cell_of_blk (o := 9) mO8 rfl; have m10 := cell_of_blk (o := 10) mO8 rfl; have m11 := cell_of_blk (o := 11) mO8 rfl; have m12 := cell_of_blk (o := 12) mO8 rfl))
  have hf8 : Fr W7 W8 (D.VR.fp D.ky) := hfr8.drewl
  obtain ⟨hsd8, hF8, hfpD⟩ := h.sd.after hF6 hf7 hk7 hfp7 hdk7 hf8 hr8 hfp8 hd8 hw8 (by rw [hke7]; exact hag2)
  have hbA := hf8.same hbA nA
  have hbT := hf8.same hbT nT
  have hbB := hf8.same hbB nB
  have hav8 : IntsAt W8 (.slice A c.at_.length capA) c.at_ := hav7.fr' hf8 (fun h0 k hk e => (hda h0 k hk).2.2 (.inr (.inr e)))
  have htv8 : IntsAt W8 (.slice B c.to.length capB) c.to := htv7.fr' hf8 (fun h0 k hk e => (hdt h0 k hk).2.2 (.inr (.inr e)))
  have hb5 := mO8
  have hsz8 : gC < W8.heap.size := by have := hf8.size; omega
  have hs68 : W6.heap.size ≤ W8.heap.size := by have := hf8.size; omega
  generalize hD' : (⟨D.sb, D.kx, D.ky, VK', R', VR'⟩ : SideD) = D' at *
  have hDsb : D'.sb = D.sb := by rw [← hD']
  clear r1 m2 m3 m4 m5 m6 m7 m8 m9 m10 m11 m12 p2 p3 p4 p5 p6 p7 p8 p9 p10 p11 p12 s1 hdoR hfr8 hf8 hk7 hf7 hF6 hF7 href7 hav7 htv7 mO8 mS8 mS mO hr8 hfp8 hfp7 hd8 hw8 hq8 hdk7 hke7 hag2 nA nT nB nO nS hD'
  have hL8 : LawAt W8 wb U := h.law.frame hF8 (fun k hk e => (h.sep k e).1 hk)
  have hG8 : GoodL W8 U := h.good.frame hF8 (fun k hk e => (h.sep k e).2 hk)
  have fA : ¬ U.fp wb gA := fun e => by have := h.law.lt e; omega
  have fT : ¬ U.fp wb gT := fun e => by have := h.law.lt e; omega
  have hret := returned_any wb gA U c.at_ (.slice A c.at_.length capA) W8 hL8 hbA fA hav8 (by omega) (by have := hn 3 (by omega); omega)
  have p3 := cell_of_blk (o := 3) hb5 rfl
  go_upto_region 12 with (go_at_call 49; refine hret.mono ?_; rintro e W9 ⟨rfl, nv9, hO9, hfl9⟩)
  clear hret p3
  have hf9 := hO9.fr
  have hs9 := hf9.size
  have gTA : ¬ (U.fp wb gT ∨ gT = gA) := fun e => e.elim fT (by omega)
  have gBA : ¬ (U.fp wb gB ∨ gB = gA) := fun e => e.elim (fun e => by have := h.law.lt e; omega) (by omega)
  have gOA : ¬ (U.fp wb Bo ∨ Bo = gA) := fun e => e.elim (fun e => by have := h.law.lt e; omega) (by omega)
  have hbT := hf9.same hbT gTA
  have hbB := hf9.same hbB gBA
  have hb5 := hf9.same hb5 gOA
  have htv9 := htv8.fr' hf9 (fun h0 k hk e => e.elim (fun e => (hdt h0 k hk).2.1 e) (fun e => by have := (hdt h0 k hk).1; omega))
  have fT1 : ¬ (U.add 3 nv9 (.slice (some ⟨gA, 0, none⟩) (c.at_.length + 1) (c.at_.length + 1))).fp wb gT := fun e => by
    rcases hO9.fp _ e with e | e
    · exact fT e
    · omega
  have hL9 := hO9.at_
  have hl3 : ((U.add 3 nv9 (.slice (some ⟨gA, 0, none⟩) (c.at_.length + 1) (c.at_.length + 1))).rl 3).length ≤ 80000001 := by
    have := hn 3 (by omega); simp [LawV.add]; omega
  have hret := returned_any wb gT _ c.to (.slice B c.to.length capB) W9 hL9 hbT fT1 htv9 (by omega) (by omega)
  have p4 := cell_of_blk (o := 4) hb5 rfl
  go_upto_region 13 with (go_at_call 49; refine hret.mono ?_; rintro e W10 ⟨rfl, nv10, hO10, hfl10⟩)
  clear hret p4
  have hf10 := hO10.fr
  have hs10 := hf10.size
  have fU1 : ∀ k, k < W8.heap.size → ¬ U.fp wb k → ¬ (U.add 3 nv9 (.slice (some ⟨gA, 0, none⟩) (c.at_.length + 1) (c.at_.length + 1))).fp wb k := fun k hk hu e => by
    rcases hO9.fp _ e with e | e
    · exact hu e
    · omega
  have fB : ¬ U.fp wb gB := fun e => gBA (.inl e)
  have hbB10 := hf10.same hbB (fun e => e.elim (fU1 gB (by omega) fB) (by omega))
  have p12 := cell_of_blk (o := 12) (hf10.same hb5 (fun e => e.elim (fU1 Bo (by omega) (fun e => gOA (.inl e))) (by omega))) rfl
  have b0 := cell_of_blk (o := 0) hbB10 rfl
  have zb : W10.frozen? ⟨gB, 0, none⟩ = false := frozen_of_blk hbB10
  go_wp2
  refine wp_loop_rounds 2 ?_
  rw [rounds_succ]
  go_wp2
  go_quiet (fail)
  obtain ⟨U2, hU2⟩ : ∃ U2, U2 = (U.add 3 nv9 (.slice (some ⟨gA, 0, none⟩) (c.at_.length + 1) (c.at_.length + 1))).add 3 nv10 (.slice (some ⟨gT, 0, none⟩) (c.to.length + 1) (c.to.length + 1)) := ⟨_, rfl⟩
  rw [← hU2] at hO10
  have hfU2 : ∀ k, U2.fp wb k → U.fp wb k ∨ W8.heap.size ≤ k := fun k hk => by
    rcases hO10.fp k hk with e | e
    · exact hO9.fp k e
    · exact .inr (by omega)
  have hcU2 : ∀ k, U2.cb k → U.cb k ∨ k = gA ∨ k = gT ∨ W8.heap.size ≤ k := fun k hk => by
    rcases hO10.cb k hk with e | e | e
    · rcases hO9.cb k e with e | e | e
      · exact .inl e
      · exact .inr (.inl e)
      · exact .inr (.inr (.inr e))
    · exact .inr (.inr (.inl e))
    · exact .inr (.inr (.inr (by omega)))
  have hL11 : LawAt (W10.drewN nq) wb U2 := hO10.at_.frame ((Fr.refl _ (fun _ => False)).drewN _) (fun _ _ => id)
  have hF11 : Fr W8 (W10.drewN nq) (fun k => U.fp wb k ∨ k = gA ∨ k = gT) := ((hf9.mono (fun k e => e.imp id .inl)).step hf10 (fun k e => e.elim (fun e => (hO9.fp k e).imp .inl id) (fun e => .inl (.inr (.inr e))))).drewN _
  have hfl9' : Filled (W10.drewN nq) [.int .i64 (-7)] (.slice (some ⟨gA, 0, none⟩) (c.at_.length + 1) (c.at_.length + 1)) := hfl9.frame (hf10.drewN nq) (fun k hk e => by cases hk; exact e.elim (fU1 gA (by omega) fA) (fun e => by have : gA = gT := e; omega))
  have hfl10' : Filled (W10.drewN nq) [.int .i64 (-7)] (.slice (some ⟨gT, 0, none⟩) (c.to.length + 1) (c.to.length + 1)) := hfl10
  have hbB11 : (W10.drewN nq).heap[gB]? = some (.cells #[.bool false] 4 (0, 0)) := hbB10
  have b0 := cell_of_blk (o := 0) hbB11 rfl
  have zb : (W10.drewN nq).frozen? ⟨gB, 0, none⟩ = false := frozen_of_blk hbB11
  have hs11 : W8.heap.size ≤ (W10.drewN nq).heap.size := hF11.size
  have p12' : (W10.drewN nq).cell? ⟨Bo, 12, none⟩ = some (.slice none 0 0) := p12
  clear p12 hbB10 hfl9 hfl10 hO9 hO10 hf9 hf10 hs9 hs10 hbT hbB hb5 htv9 fT1 hL9 hl3 fU1
  generalize W10.drewN nq = W11 at *
  go_upto_region 20 with fail
  generalize hW12 : W11.setCell ⟨gB, 0, none⟩ (.bool true) = W12
  have hbB12 : W12.heap[gB]? = some (.cells #[.bool true] 4 (0, 0)) := by rw [← hW12]; exact setCell_at W11 gB 0 (.bool true) hbB11
  have hF12 : Fr W11 W12 (fun k => k = gB) := by rw [← hW12]; exact Fr.set1 W11 gB 0 _
  clear hW12 b0 zb hbB11
  have b0 := cell_of_blk (o := 0) hbB12 rfl
  have fB2 : ¬ U2.fp wb gB := fun e => (hfU2 gB e).elim fB (by omega)
  have hL12 : LawAt W12 wb U2 := hL11.frame hF12 (fun k hk e => fB2 (e ▸ hk))
  have hs12 := hF12.size
  go_wp2_with (at_builtin; go_must (refine wpList_append_lies _ rfl _ _ 54 rfl 0 4 iB _ 1 1 Tryz.underlying54 hiB hB0 hB1 hB2 rfl (by decide) (.slice none 0 0) 0 [] rfl (World.ownsRow_nil _ _ _ _) ⟨_, 0, none⟩ 1 1 [.bool true] rfl rfl (news_new _ _ _) (by simp [Value.oneCell']) (by decide) (by unfold maxLen; omega) (by omega) (Nat.zero_le _) (W12.heap.size + 1) (by simp) ?_))
  intro g20 cap20 Y20 hown20 hg20 hat20 hlt20
  have hF20 : Fr W12 Y20 (fun _ => False) := ((Fr.refl W12 (fun _ => False)).alloc _).grown hg20 (fun r hr => by cases hr)
  have hg20e : W12.heap.size < g20 := by rcases hat20 with e | e; cases e; omega
  have hL20 : LawAt Y20 wb U2 := hL12.frame hF20 (fun _ _ => id)
  have hown20 : Y20.ownsRow 0 4 1 (.slice (some ⟨g20, 0, none⟩) 1 cap20) 1 [.bool true] := hown20
  have f20 : ¬ U2.fp wb g20 := fun e => by have := hL12.lt e; omega
  clear hg20 hat20 hL12 hL11 b0
  have hs20 := hF20.size
  go_wp2
  rw [rounds_succ]
  go_upto_region 21 with fail
  have hbB20 := hF20.same hbB12 id
  have hF20w : Fr W8 Y20 (fun k => U.fp wb k ∨ k = gA ∨ k = gT ∨ k = gB) := ((hF11.mono (fun k e => e.imp id (fun e => e.imp id .inl))).step hF12 (fun k e => .inl (.inr (.inr (.inr e))))).step hF20 (fun _ => False.elim)
  have fA20 := (hfl9'.frame hF12 (fun k hk e => by cases hk; have : gA = gB := e; omega)).frame hF20 (fun _ _ => id)
  have fT20 := (hfl10'.frame hF12 (fun k hk e => by cases hk; have : gT = gB := e; omega)).frame hF20 (fun _ _ => id)
  have hn4 : (U2.rl 4).length ≤ 80000000 := by rw [hU2]; exact hn 4 (by omega)
  have hn5 : (U2.rl 5).length ≤ 80000000 := by rw [hU2]; exact hn 5 (by omega)
  have cc : Y20.cell? ⟨wb, 4, none⟩ = some (U2.rv 4) := cell_of_blk hL20.blk rfl
  have oo : Y20.ownsRow 0 54 1 (U2.rv 4) (U2.rl 4).length (U2.rl 4) := hL20.row 4 (by omega)
  have sw : wb < Y20.heap.size := World.block_lt_of_cell? _ _ cc
  have HU : Hid (U2 = (U.add 3 nv9 (.slice (some ⟨gA, 0, none⟩) (c.at_.length + 1) (c.at_.length + 1))).add 3 nv10 (.slice (some ⟨gT, 0, none⟩) (c.to.length + 1) (c.to.length + 1))) := hU2
  clear hU2 hF11 hF12 hfl9' hfl10' hbB12 hL8 hbA hav8 htv8 gTA gBA gOA
  go_upto_region 22 with (at_builtin; go_must (refine wpList_append_lies _ rfl _ _ 28 rfl 0 54 iL _ 1 24 Tryz.underlying28 hiL hL0 hL1 hL2 rfl (by decide) _ _ _ rfl (World.ownsRow.alloc oo _) ⟨_, 0, none⟩ 1 1 [.slice (some ⟨gB, 0, none⟩) 1 1] rfl rfl (news_new _ _ _) (by simp [Value.oneCell']) (by decide) (by unfold maxLen; omega) (by omega) (Nat.zero_le _) (Y20.heap.size + 1) (by simp) ?_))
  intro g21 cap21 Y21 hown21 hg21 hat21 hlt21
  obtain ⟨d21, z21, hL21, hf21, hfp21, hcb21⟩ := hL20.add (j := 4) (by omega) hg21 hown21 hat21 (fun _ k hk => by cases hk; exact ⟨fB2, by show gB < _; omega⟩)
  clear hown21 hg21 hat21 hlt21 cc oo
  go_upto_region 22 with fail
  generalize hgen : Y21.setCell ⟨wb, 4, none⟩ (.slice (some ⟨g21, 0, none⟩) ((U2.rl 4).length + 1) cap21) = W21 at *
  clear hgen d21 z21
  generalize hnv21 : Value.slice (some ⟨g21, 0, none⟩) ((U2.rl 4).length + 1) cap21 = nv21 at *
  have hn5' : ((U2.add 4 nv21 (.slice (some ⟨gB, 0, none⟩) 1 1)).rl 5).length ≤ 80000000 := hn5
  have f20' : ¬ (U2.add 4 nv21 (.slice (some ⟨gB, 0, none⟩) 1 1)).fp wb g20 := fun e => (hfp21 g20 e).elim f20 (by omega)
  have hs21 := hf21.size
  have cc : W21.cell? ⟨wb, 5, none⟩ = some ((U2.add 4 nv21 (.slice (some ⟨gB, 0, none⟩) 1 1)).rv 5) := cell_of_blk hL21.blk rfl
  have oo : W21.ownsRow 0 54 1 ((U2.add 4 nv21 (.slice (some ⟨gB, 0, none⟩) 1 1)).rv 5) ((U2.add 4 nv21 (.slice (some ⟨gB, 0, none⟩) 1 1)).rl 5).length ((U2.add 4 nv21 (.slice (some ⟨gB, 0, none⟩) 1 1)).rl 5) := hL21.row 5 (by omega)
  have sw1 : wb < W21.heap.size := World.block_lt_of_cell? _ _ cc
  go_wp2_with (at_builtin; go_must (refine wpList_append_lies _ rfl _ _ 28 rfl 0 54 iL _ 1 24 Tryz.underlying28 hiL hL0 hL1 hL2 rfl (by decide) _ _ _ rfl (World.ownsRow.alloc oo _) ⟨_, 0, none⟩ 1 1 [.slice (some ⟨g20, 0, none⟩) 1 cap20] rfl rfl (news_new _ _ _) (by simp [Value.oneCell']) (by decide) (by unfold maxLen; omega) (by omega) (Nat.zero_le _) (W21.heap.size + 1) (by simp) ?_))
  intro g22 cap22 Y22 hown22 hg22 hat22 hlt22
  obtain ⟨d22, z22, hL22, hf22, hfp22, hcb22⟩ := hL21.add (j := 5) (by omega) hg22 hown22 hat22 (fun _ k hk => by cases hk; exact ⟨f20', by show g20 < _; omega⟩)
  clear hown22 hg22 hat22 hlt22 cc oo
  go_wp2
  go_ret
  generalize hgen : Y22.setCell ⟨wb, 5, none⟩ (.slice (some ⟨g22, 0, none⟩) (((U2.add 4 nv21 (.slice (some ⟨gB, 0, none⟩) 1 1)).rl 5).length + 1) cap22) = W22 at *
  have hF22 : Fr W8 W22 (fun k => U.fp wb k ∨ k = gA ∨ k = gT ∨ k = gB) := (hF20w.step hf21 (fun k e => (hfU2 k e).imp .inl id)).step hf22 (fun k e => by
    rcases hfp21 k e with e | e
    · exact (hfU2 k e).imp .inl id
    · exact .inr (by have := hF20w.size; omega))
  have hF2022 : Fr Y20 W22 (fun k => U2.fp wb k) := hf21.step hf22 (fun k e => hfp21 k e)
  have hb22 := hF2022.same hbB20 fB2
  have ho22 := hF2022.owns hown20 (fun k hk e => by cases hk; exact f20 e)
  have hc22 : W22.cell? ⟨g20, 0, none⟩ = some (.bool true) := by
    have := ho22.cells (g := g20) rfl 0 (.bool true) rfl
    rw [add_eq] at this
    exact this
  refine ⟨rfl, _, D', does_done (W6 := W6) (gA := gA) (gT := gT) (gB := gB) (vA := .slice (some ⟨gA, 0, none⟩) (c.at_.length + 1) (c.at_.length + 1)) (vT := .slice (some ⟨gT, 0, none⟩) (c.to.length + 1) (c.to.length + 1)) (vB := .slice (some ⟨gB, 0, none⟩) 1 1) (vW := .slice (some ⟨g20, 0, none⟩) 1 cap20) h hs68 ⟨by omega, by omega, by omega, by omega, by omega, by omega⟩ hF8 hsd8 hfpD hDsb hF22 hL22 ?_ ?_ ?_ ?_ ?_ ?_⟩
  · rw [HU.out]
    funext j
    simp only [LawV.add]
    by_cases e3 : j = 3
    · subst e3; rfl
    · by_cases e4 : j = 4
      · subst e4; rfl
      · by_cases e5 : j = 5
        · subst e5; rfl
        · simp [e3, e4, e5]
  · intro k hk
    rcases hfp22 k hk with e | e
    · rcases hfp21 k e with e | e
      · exact hfU2 k e
      · exact .inr (by have := hF20w.size; omega)
    · exact .inr (by have := hF20w.size; omega)
  · intro k hk
    rcases hcb22 k hk with e | ⟨_, e⟩
    · rcases hcb21 k e with e | ⟨_, e⟩
      · rcases hcU2 k e with e | e | e | e
        · exact .inl e
        · exact .inr (.inl e)
        · exact .inr (.inr (.inl e))
        · exact .inr (.inr (.inr (.inr e)))
      · cases e; exact .inr (.inr (.inr (.inl rfl)))
    · cases e; exact .inr (.inr (.inr (.inr (by show W8.heap.size ≤ g20; omega))))
  · exact fA20.frame hF2022 (fun k hk e => by cases hk; exact (hfU2 gA e).elim fA (by omega))
  · exact fT20.frame hF2022 (fun k hk e => by cases hk; exact (hfU2 gT e).elim fT (by omega))
  · refine ⟨[true], by decide, ⟨_, _, rfl, fun _ => ⟨gB, rfl, fun i hi => ?_⟩⟩, ⟨_, _, rfl, fun _ => ⟨g20, rfl, fun i hi => ?_⟩⟩⟩
    · have : i = 0 := by simpa using hi
      subst this
      exact cell_of_blk hb22 rfl
    · have : i = 0 := by simpa using hi
      subst this
      exact hc22
end Go.Proofs.YtdpjgflemddekaaGreatDoor
/- The statements' own functions: step (no bits), ended. -/
namespace Go.Proofs.YtdpjgflemddekaaGreatDoor
open Go.RowKit

theorem GameOut.of_fr {w w1 w' : World} {wb : Nat} {U U' : LawV} {D D' : SideD} (hf : Fr w w1 (fun _ => False)) (h : GameOut w1 wb U D U' D' w') : GameOut w wb U D U' D' w' := by
  have := hf.size
  exact ⟨h.at_, (hf.mono (fun _ => False.elim)).step h.fr (fun k hk => .inl hk), fun k hk => (h.fpU k hk).imp id (fun e => by omega), fun k hk => (h.cbU k hk).imp id (fun e => by omega), fun k hk => (h.fpD k hk).imp id (fun e => by omega), h.sb, h.r0, h.len⟩

theorem SideOk.thr {w : World} {D : SideD} (h : SideOk w D) (b : Int) : D.VK.ker.thr b = (D.R.T.find? (isBaseT b)).map Thr.thd := h.inv.rel.thr b
theorem SideOk.wss {w : World} {D : SideD} (h : SideOk w D) : ∀ i, i < 1024 → D.VK.ws i = D.VR.ws i ∧ 0 ≤ D.VK.ws i ∧ D.VK.ws i ≤ 4294967295 := by
  intro i hi
  have h1 : D.VK.ws i = 0 := h.inv.ws i
  rw [h1, h.ws i hi]; decide

theorem SideOk.thread {w : World} {D : SideD} (h : SideOk w D) (b : Int) : Calls Tryz.prog 26 #[.pointer (some ⟨D.sb, 0, none⟩), .int .i64 b] w fun e w' => e = .returned (.bool true) ∧ Fr w w' (fun _ => False) :=
  sthread_any D.R D.VR D.VK D.kx D.ky D.sb b w h.side h.ker h.ref (by have := h.inv.lenT; omega) (h.thr b)
theorem SideOk.word {w : World} {D : SideD} (h : SideOk w D) (n : Int) : Calls Tryz.prog 30 #[.pointer (some ⟨D.sb, 0, none⟩), .int .i64 n] w fun e w' => e = .returned (.bool true) ∧ Fr w w' (fun _ => False) :=
  sword_any D.R D.VR D.VK D.kx D.ky D.sb n w h.side h.ker h.ref h.wss
theorem SideOk.base {w : World} {D : SideD} (h : SideOk w D) (n : Int) (h0 : -9223372036854775808 ≤ n) (h1 : n ≤ 9223372036854775807) : Calls Tryz.prog 27 #[.pointer (some ⟨D.sb, 0, none⟩), .int .i64 n] w fun e w' => e = .returned (.int .i64 (baseI D.R.T n)) ∧ ∃ q, w' = w.drewN q :=
  base_any D.R D.VR D.ky D.sb n w h.ref (cell_of_blk (o := 1) h.side rfl) (by have := h.inv.lenT; omega) h.inv.t0 h0 h1

set_option maxRecDepth 100000 in
set_option maxHeartbeats 4000000 in
theorem step_none (wb : Nat) (U : LawV) (D : SideD) (w : World) (h : GameAt w wb U D) (hgl : Glob w) (ask th n : Int) (which : Bool) (c : Cl) (av tv : Value) (hav : IntsAt w av c.at_) (htv : IntsAt w tv c.to) (hal : c.at_.length ≤ 1048576) (htl : c.to.length ≤ 1048576)
    (hda : 0 < c.at_.length → ∀ k, av.ownBlock = some k → k < w.heap.size ∧ ¬ U.fp wb k ∧ ¬ D.fp k) (hdt : 0 < c.to.length → ∀ k, tv.ownBlock = some k → k < w.heap.size ∧ ¬ U.fp wb k ∧ ¬ D.fp k) (hk : ask = 0 → c.kind ≤ 4 ∨ 11 < c.kind) (hth0 : -9223372036854775808 ≤ th) (hth1 : th ≤ 9223372036854775807)
    (hn0 : -9223372036854775808 ≤ n) (hn1 : n ≤ 9223372036854775807) (hn : ∀ j, j < 6 → (U.rl j).length ≤ 80000000) :
    Calls Tryz.prog 15 #[.pointer (some ⟨wb, 0, none⟩), .pointer (some ⟨D.sb, 0, none⟩), opVal ask th c av tv (.slice none 0 0) n which] w fun e w' => e = .returned (.bool true) ∧ ∃ U' D', GameOut w wb U D U' D' w' := by
  obtain ⟨W1, hW1⟩ : ∃ W1, w.alloc (.cells #[.int .i64 ask, .int .i64 th, .int .i64 c.kind, av, tv, .int .i64 c.ty, .int .i64 c.bits, .int .i64 c.count, .int .i64 c.rights, .int .i64 c.badge, .int .i64 c.value, .int .i64 c.offset, .slice none 0 0, .int .i64 n, .bool which] 56) = W1 := ⟨_, rfl⟩
  have hf1 : Fr w W1 (fun _ => False) := by rw [← hW1]; exact (Fr.refl _ _).alloc _
  have HW : Hid (_ = W1) := hW1
  clear hW1
  have h1 := h.frame hf1
  have hgl1 := Glob.fr hgl hf1
  have hs1 := hf1.size
  obtain ⟨A, capA, rfl, hA⟩ := hav
  obtain ⟨B, capB, rfl, hB⟩ := htv
  have hav : IntsAt w (.slice A c.at_.length capA) c.at_ := ⟨A, capA, rfl, hA⟩
  have htv : IntsAt w (.slice B c.to.length capB) c.to := ⟨B, capB, rfl, hB⟩
  have hav1 := hav.fr hf1 (fun _ _ => id)
  have htv1 := htv.fr hf1 (fun _ _ => id)
  clear hA hB
  by_cases e0 : ask = 0
  · have hcall := does_none wb U D W1 h1 hgl1 ask th n which c _ _ hav1 htv1 hal htl (fun h0 k hk => ⟨by have := (hda h0 k hk).1; omega, (hda h0 k hk).2⟩) (fun h0 k hk => ⟨by have := (hdt h0 k hk).1; omega, (hdt h0 k hk).2⟩) (hk e0) hth0 hth1 hn
    subst e0
    unfold opVal at hcall ⊢
    go_enter Tryz.func15, Tryz.ntmps15
    go_wp2_with (go_at_call 25; rw [HW.out]; refine hcall.mono ?_; rintro e W2 ⟨rfl, U', D', hG⟩)
    go_ret
    exact ⟨rfl, U', D', hG.of_fr hf1⟩
  · have d0 : (ask == 0) = false := by simpa using e0
    by_cases e1 : ask = 1
    · subst e1
      have hcb := h1.sd.base n hn0 hn1
      unfold opVal
      go_enter Tryz.func15, Tryz.ntmps15
      go_wp2_with (first
        | (go_at_call 27; rw [HW.out]; refine hcb.mono ?_; rintro e W2 ⟨rfl, q, rfl⟩)
        | (go_at_call 26; refine ((h1.sd.frame ((Fr.refl _ (fun _ => False)).drewN q) (fun _ _ => id)).thread _).mono ?_; rintro e W3 ⟨rfl, hf3⟩))
      go_ret
      exact ⟨rfl, U, D, GameOut.same h ((hf1.drewN q).step hf3 (fun _ => False.elim))⟩
    · have d1 : (ask == 1) = false := by simpa using e1
      by_cases e2 : ask = 2
      · subst e2
        have hcc := scaps_any wb U D W1 h1 hgl1 hn
        unfold opVal
        go_enter Tryz.func15, Tryz.ntmps15
        go_wp2_with (go_at_call 28; rw [HW.out]; refine hcc.mono ?_; rintro e W2 ⟨rfl, U', hG⟩)
        go_ret
        exact ⟨rfl, U', D, hG.of_fr hf1⟩
      · have d2 : (ask == 2) = false := by simpa using e2
        by_cases e3 : ask = 3
        · subst e3
          have hcc := sdoomed_any wb U D W1 h1 hn
          unfold opVal
          go_enter Tryz.func15, Tryz.ntmps15
          go_wp2_with (go_at_call 29; rw [HW.out]; refine hcc.mono ?_; rintro e W2 ⟨rfl, U', hG⟩)
          go_ret
          exact ⟨rfl, U', D, hG.of_fr hf1⟩
        · have d3 : (ask == 3) = false := by simpa using e3
          by_cases e4 : ask = 4
          · subst e4
            have hcc := h1.sd.word n
            unfold opVal
            go_enter Tryz.func15, Tryz.ntmps15
            go_wp2_with (go_at_call 30; rw [HW.out]; refine hcc.mono ?_; rintro e W2 ⟨rfl, hf2⟩)
            go_ret
            exact ⟨rfl, U, D, GameOut.same h (hf1.step hf2 (fun _ => False.elim))⟩
          · have d4 : (ask == 4) = false := by simpa using e4
            unfold opVal
            go_enter Tryz.func15, Tryz.ntmps15
            go_wp2
            go_ret
            exact ⟨rfl, U, D, GameOut.same h (by rw [HW.out]; exact hf1)⟩

theorem GameOut.trans {w w1 w2 : World} {wb : Nat} {U U1 U2 : LawV} {D D1 D2 : SideD} (h : GameOut w wb U D U1 D1 w1) (h2 : GameOut w1 wb U1 D1 U2 D2 w2) :
    GameAt w2 wb U2 D2 ∧ Fr w w2 (fun k => U.fp wb k ∨ D.fp k) ∧ (∀ k, U2.fp wb k → U.fp wb k ∨ w.heap.size ≤ k) ∧ (∀ k, U2.cb k → U.cb k ∨ w.heap.size ≤ k) ∧ (∀ k, D2.fp k → D.fp k ∨ w.heap.size ≤ k) ∧ D2.sb = D.sb ∧ U2.rl 0 = U.rl 0 ∧ (∀ j, j < 6 → (U2.rl j).length ≤ (U.rl j).length + 8) := by
  have hs := h.fr.size
  refine ⟨h2.at_, h.fr.step h2.fr (fun k hk => ?_), fun k hk => ?_, fun k hk => ?_, fun k hk => ?_, h2.sb.trans h.sb, h2.r0.trans h.r0, fun j hj => ?_⟩
  · rcases hk with e | e
    · exact (h.fpU k e).imp .inl id
    · exact (h.fpD k e).imp .inr id
  · rcases h2.fpU k hk with e | e
    · exact h.fpU k e
    · exact .inr (by omega)
  · rcases h2.cbU k hk with e | e
    · exact h.cbU k e
    · exact .inr (by omega)
  · rcases h2.fpD k hk with e | e
    · exact h.fpD k e
    · exact .inr (by omega)
  · have := h.len j hj; have := h2.len j hj; omega

set_option maxRecDepth 100000 in
set_option maxHeartbeats 4000000 in
theorem ended_any (wb : Nat) (U : LawV) (D : SideD) (w : World) (h : GameAt w wb U D) (hgl : Glob w) (hn : ∀ j, j < 6 → (U.rl j).length ≤ 79999000) :
    Calls Tryz.prog 17 #[.pointer (some ⟨wb, 0, none⟩), .pointer (some ⟨D.sb, 0, none⟩)] w fun e w' => e = .returned (.bool true) ∧ ∃ U' D', GameAt w' wb U' D' ∧ Fr w w' (fun k => U.fp wb k ∨ D.fp k) ∧ (∀ k, U'.fp wb k → U.fp wb k ∨ w.heap.size ≤ k) ∧ (∀ k, U'.cb k → U.cb k ∨ w.heap.size ≤ k) ∧ (∀ k, D'.fp k → D.fp k ∨ w.heap.size ≤ k) ∧ D'.sb = D.sb ∧ U'.rl 0 = U.rl 0 ∧ (∀ j, j < 6 → (U'.rl j).length ≤ (U.rl j).length + 8) := by
  have hca := scaps_any wb U D w h hgl (fun j hj => by have := hn j hj; omega)
  go_enter Tryz.func17, Tryz.ntmps17
  go_upto_region 2 with (go_at_call 28; refine hca.mono ?_; rintro e W1 ⟨rfl, U1, hG1⟩)
  clear hca
  have hdo := sdoomed_any wb U1 D W1 hG1.at_ (fun j hj => by have := hn j hj; have := hG1.len j hj; omega)
  go_upto_region 3 with (go_at_call 29; refine hdo.mono ?_; rintro e W2 ⟨rfl, U2, hG2⟩)
  clear hdo
  have hT := hG1.trans hG2
  have hsd := hG2.at_.sd
  clear hG1 hG2
  go_wp2
  go_loopw [7] (fun i w' => Fr W2 w' (fun _ => False) ∧ ∃ m : Nat, m ≤ 1026 ∧ i = .int .i64 ((m : Int) - 1)) (fun i _ => (1026 - (intOf i + 1)).toNat)
  case atStart => exact ⟨Fr.refl _ _, 0, by omega, rfl⟩
  case round =>
    obtain ⟨hf, m, hm, rfl⟩ := hrel
    by_cases hlt : m < 1026
    · have dle : decide ((m : Int) - 1 ≤ 1024) = true := by simp; omega
      go_wp2_with (first
        | (go_at_call 30; refine ((hsd.frame hf (fun _ _ => id)).word _).mono ?_; rintro e W3 ⟨rfl, hf3⟩)
        | (go_at_call 26; refine ((hsd.frame (hf.step hf3 (fun _ => False.elim)) (fun _ _ => id)).thread _).mono ?_; rintro e W4 ⟨rfl, hf4⟩))
      go_roundw
      case rel => exact ⟨(hf.step hf3 (fun _ => False.elim)).step hf4 (fun _ => False.elim), m + 1, by omega, by go_num⟩
      case measure => simp [intOf]; omega
    · have dle : decide ((m : Int) - 1 ≤ 1024) = false := by simp; omega
      go_wp2
      go_ret
      obtain ⟨t1, t2, t3, t4, t5, _, t7, t8⟩ := hT
      exact ⟨rfl, U2, D, t1.frame hf, t2.step hf (fun _ => False.elim), t3, t4, t5, rfl, t7, t8⟩
end Go.Proofs.YtdpjgflemddekaaGreatDoor
/- The statements' own function play, where no bits are handed on, and of calls those alone that make, copy, mint and move. -/
namespace Go.Proofs.YtdpjgflemddekaaGreatDoor
open Go.RowKit

/-- A step of a script, and where its lists lie. -/
structure OpD where
  ask : Int
  th : Int
  c : Cl
  av : Value
  tv : Value
  bv : Value
  n : Int
  which : Bool

def OpD.vals (o : OpD) : List Value := [.int .i64 o.ask, .int .i64 o.th, .int .i64 o.c.kind, o.av, o.tv, .int .i64 o.c.ty, .int .i64 o.c.bits, .int .i64 o.c.count, .int .i64 o.c.rights, .int .i64 o.c.badge, .int .i64 o.c.value, .int .i64 o.c.offset, o.bv, .int .i64 o.n, .bool o.which]

/-- What is taken for granted of one step. -/
structure OpIn (w : World) (o : OpD) : Prop where
  at_ : IntsAt w o.av o.c.at_
  ti : IntsAt w o.tv o.c.to
  al : o.c.at_.length ≤ 1048576
  tl : o.c.to.length ≤ 1048576
  la : 0 < o.c.at_.length → ∀ k, o.av.ownBlock = some k → k < w.heap.size
  lt : 0 < o.c.to.length → ∀ k, o.tv.ownBlock = some k → k < w.heap.size
  th0 : -9223372036854775808 ≤ o.th
  th1 : o.th ≤ 9223372036854775807
  n0 : -9223372036854775808 ≤ o.n
  n1 : o.n ≤ 9223372036854775807
  bs : ∃ A m cap, o.bv = .slice A m cap

/-- A script behind a slice's value. -/
structure ScriptAt (w : World) (sv : Value) (l : List OpD) : Prop where
  val : ∃ A cap, sv = .slice A l.length cap ∧ (0 < l.length → ∃ g o, A = some ⟨g, o, none⟩ ∧ ∀ i (hi : i < l.length) j x, (l[i].vals)[j]? = some x → w.cell? ⟨g, o + i * 15 + j, none⟩ = some x)
  ops : ∀ o ∈ l, OpIn w o
  len : l.length ≤ 1048576

/-- What a play has come to. -/
structure PlayInv (w0 : World) (wb : Nat) (U : LawV) (D : SideD) (L : Nat) (k : Nat) (w : World) (U' : LawV) (D' : SideD) : Prop where
  at_ : GameAt w wb U' D'
  base : Fr w0 w (fun _ => False)
  lo : ∀ b, U'.fp wb b ∨ U'.cb b ∨ D'.fp b → w0.heap.size ≤ b
  sb : D'.sb = D.sb
  r0 : U'.rl 0 = U.rl 0
  len : ∀ j, j < 6 → (U'.rl j).length ≤ 100 + 4 * k
  k : k ≤ L

theorem PlayInv.next {w0 : World} {wb : Nat} {U : LawV} {D : SideD} {L k : Nat} {w : World} {U' : LawV} {D' : SideD} (h : PlayInv w0 wb U D L k w U' D') {w2 : World} {U2 : LawV} {D2 : SideD} (hO : GameOut w wb U' D' U2 D2 w2) (hk : k < L) (q : Nat) : PlayInv w0 wb U D L (k + 1) (w2.drewN q) U2 D2 := by
  have hs := h.base.size
  refine ⟨hO.at_.frame ((Fr.refl _ _).drewN q), (h.base.step hO.fr (fun b hb => ?_)).drewN q, ?_, hO.sb.trans h.sb, hO.r0.trans h.r0, fun j hj => ?_, hk⟩
  · rcases hb with e | e
    · exact .inr (h.lo b (.inl e))
    · exact .inr (h.lo b (.inr (.inr e)))
  · rintro b (e | e | e)
    · rcases hO.fpU b e with e | e
      · exact h.lo b (.inl e)
      · omega
    · rcases hO.cbU b e with e | e
      · exact h.lo b (.inr (.inl e))
      · omega
    · rcases hO.fpD b e with e | e
      · exact h.lo b (.inr (.inr e))
      · omega
  · have := h.len j hj; have := hO.len j hj; omega

theorem PlayInv.skip {w0 : World} {wb : Nat} {U : LawV} {D : SideD} {L k : Nat} {w : World} {U' : LawV} {D' : SideD} (h : PlayInv w0 wb U D L k w U' D') (hk : k < L) {o : Obj} : PlayInv w0 wb U D L (k + 1) (w.alloc o) U' D' :=
  ⟨h.at_.frame ((Fr.refl _ _).alloc o), h.base.alloc o, h.lo, h.sb, h.r0, fun j hj => by have := h.len j hj; omega, hk⟩

set_option maxRecDepth 100000 in
set_option maxHeartbeats 8000000 in
theorem play_none (w0 : World) (wb : Nat) (U : LawV) (D : SideD) (sv : Value) (l : List OpD) (w : World) (hI0 : PlayInv w0 wb U D l.length 0 w U D) (hgl : Glob w0) (hS : ScriptAt w0 sv l) (hr0 : U.rl 0 = [.pointer (some ⟨D.sb, 0, none⟩)]) :
    Calls Tryz.prog 9 #[.pointer (some ⟨wb, 0, none⟩), sv, .int .i64 4, .bool false] w fun e w' => e = .returned (.bool true) ∧ Fr w0 w' (fun _ => False) := by
  obtain ⟨⟨A, cap, rfl, hA⟩, hops, hll⟩ := hS
  have hrow : ∀ W U', LawAt W wb U' → U'.rl 0 = [.pointer (some ⟨D.sb, 0, none⟩)] → ∃ g cp, W.cell? ⟨wb, 0, none⟩ = some (.slice (some ⟨g, 0, none⟩) 1 cp) ∧ W.cell? ⟨g, 0, none⟩ = some (.pointer (some ⟨D.sb, 0, none⟩)) ∧ g < W.heap.size := by
    intro W U' hL hr
    obtain ⟨A0, cap0, _, c0, hc⟩ := hL.at 0 (by omega)
    have hl0 : (U'.rl 0).length = 1 := by rw [hr]; rfl
    obtain ⟨g, rfl, hg⟩ := hc 0 (by omega)
    rw [hl0] at c0
    have he : (U'.rl 0)[0]'(by omega) = .pointer (some ⟨D.sb, 0, none⟩) := by simp [hr]
    rw [he] at hg
    exact ⟨g, cap0, c0, hg, World.block_lt_of_cell? _ _ hg⟩
  obtain ⟨g0, cp0, y0, y1, y2⟩ := hrow w U hI0.at_.law hr0
  go_enter Tryz.func9, Tryz.ntmps9
  go_wp2
  clear y0 y1 y2
  go_loopw [10] (fun i w' => ∃ (k : Nat) (U' : LawV) (D' : SideD), k ≤ l.length ∧ i = .int .i64 k ∧ PlayInv w0 wb U D l.length k w' U' D') (fun i _ => l.length - (intOf i).toNat)
  case atStart => exact ⟨0, U, D, Nat.zero_le _, rfl, hI0⟩
  case round =>
    obtain ⟨k, U', D', hk, rfl, hI⟩ := hrel
    clear hI0
    have hG := hI.at_
    have hlo := hI.lo
    have hbs := hI.base.size
    have hn := hI.len
    have hgl' := Glob.fr hgl hI.base
    obtain ⟨g1, cp1, y0, y1, y2⟩ := hrow wr U' hG.law (hI.r0.trans hr0)
    have yw : wb < wr.heap.size := World.block_lt_of_cell? _ _ y0
    by_cases hklt : k < l.length
    · obtain ⟨g, o, rfl, hc⟩ := hA (by omega)
      have hop := hops _ (List.getElem_mem hklt)
      have hcs := fun j x hx => hI.base.cell (hc k hklt j x hx) id
      have hsb := hI.sb
      generalize l[k] = od at hop hcs
      obtain ⟨ask, th, c, av, tv, bv, n, which⟩ := od
      obtain ⟨hav, htv, hal, htl, hda, hdt, hth0, hth1, hn0, hn1, ⟨Ab, mb, capb, hbv⟩⟩ := hop
      dsimp only at hav htv hal htl hda hdt hth0 hth1 hn0 hn1 hbv
      subst hbv
      have hav' := hav.fr hI.base (fun _ _ => id)
      have htv' := htv.fr hI.base (fun _ _ => id)
      obtain ⟨A3, cap3, rfl, hA3⟩ := hav
      obtain ⟨B3, cab3, rfl, hB3⟩ := htv
      have x0 : wr.cell? ⟨g, o + k * 15, none⟩ = some (.int .i64 ask) := hcs 0 _ rfl
      have x1 : wr.cell? ⟨g, o + k * 15 + 1, none⟩ = some (.int .i64 th) := hcs 1 _ rfl
      have x2 : wr.cell? ⟨g, o + k * 15 + 2, none⟩ = some (.int .i64 c.kind) := hcs 2 _ rfl
      have x3 : wr.cell? ⟨g, o + k * 15 + 3, none⟩ = some (.slice A3 c.at_.length cap3) := hcs 3 _ rfl
      have x4 : wr.cell? ⟨g, o + k * 15 + 4, none⟩ = some (.slice B3 c.to.length cab3) := hcs 4 _ rfl
      have x5 : wr.cell? ⟨g, o + k * 15 + 5, none⟩ = some (.int .i64 c.ty) := hcs 5 _ rfl
      have x6 : wr.cell? ⟨g, o + k * 15 + 6, none⟩ = some (.int .i64 c.bits) := hcs 6 _ rfl
      have x7 : wr.cell? ⟨g, o + k * 15 + 7, none⟩ = some (.int .i64 c.count) := hcs 7 _ rfl
      have x8 : wr.cell? ⟨g, o + k * 15 + 8, none⟩ = some (.int .i64 c.rights) := hcs 8 _ rfl
      have x9 : wr.cell? ⟨g, o + k * 15 + 9, none⟩ = some (.int .i64 c.badge) := hcs 9 _ rfl
      have x10 : wr.cell? ⟨g, o + k * 15 + 10, none⟩ = some (.int .i64 c.value) := hcs 10 _ rfl
      have x11 : wr.cell? ⟨g, o + k * 15 + 11, none⟩ = some (.int .i64 c.offset) := hcs 11 _ rfl
      have x12 : wr.cell? ⟨g, o + k * 15 + 12, none⟩ = some (.slice Ab mb capb) := hcs 12 _ rfl
      have x13 : wr.cell? ⟨g, o + k * 15 + 13, none⟩ = some (.int .i64 n) := hcs 13 _ rfl
      have x14 : wr.cell? ⟨g, o + k * 15 + 14, none⟩ = some (.bool which) := hcs 14 _ rfl
      have xg : g < wr.heap.size := World.block_lt_of_cell? _ _ x0
      rw [← hsb] at y1
      clear hsb
      clear hA hc hcs hrow hops hA3 hB3
      go_upto_region 6 with fail
      clear x0 x1 x2 x3 x4 x5 x6 x7 x8 x9 x10 x11 x12 x13 x14
      generalize hW1 : wr.alloc _ = W1
      have hf1 : Fr wr W1 (fun _ => False) := by rw [← hW1]; exact (Fr.refl _ _).alloc _
      have hb1 : W1.heap[wr.heap.size]? = some (.cells #[.int .i64 ask, .int .i64 th, .int .i64 c.kind, .slice A3 c.at_.length cap3, .slice B3 c.to.length cab3, .int .i64 c.ty, .int .i64 c.bits, .int .i64 c.count, .int .i64 c.rights, .int .i64 c.badge, .int .i64 c.value, .int .i64 c.offset, .slice Ab mb capb, .int .i64 n, .bool which] 56 (0, 0)) := by rw [← hW1]; exact heap_alloc_new _ _
      have HW1 : Hid (_ = W1) := hW1
      clear hW1
      have m0 := cell_of_blk (o := 0) hb1 rfl
      have m1 := cell_of_blk (o := 1) hb1 rfl
      have m2 := cell_of_blk (o := 2) hb1 rfl
      have m3 := cell_of_blk (o := 3) hb1 rfl
      have m4 := cell_of_blk (o := 4) hb1 rfl
      have m5 := cell_of_blk (o := 5) hb1 rfl
      have m6 := cell_of_blk (o := 6) hb1 rfl
      have m7 := cell_of_blk (o := 7) hb1 rfl
      have m8 := cell_of_blk (o := 8) hb1 rfl
      have m9 := cell_of_blk (o := 9) hb1 rfl
      have m10 := cell_of_blk (o := 10) hb1 rfl
      have m11 := cell_of_blk (o := 11) hb1 rfl
      have m12 := cell_of_blk (o := 12) hb1 rfl
      have m13 := cell_of_blk (o := 13) hb1 rfl
      have m14 := cell_of_blk (o := 14) hb1 rfl
      have z12 : W1.frozen? ⟨wr.heap.size, 12, none⟩ = false := frozen_of_blk hb1
      have v0 := hf1.cell y0 id
      have v1 := hf1.cell y1 id
      have ne0 : wr.heap.size ≠ wb := by omega
      have ne1 : wr.heap.size ≠ g1 := by omega
      go_cut [47] (fun v47 wx => wx = W1 ∧ ((v47 = .bool true) ∨ (v47 = .bool false ∧ (ask = 0 → c.kind ≤ 4 ∨ 11 < c.kind))))
      case first =>
        by_cases e0 : ask = 0
        · subst e0
          by_cases k4 : 4 < c.kind
          · have dk1 : decide (4 < c.kind) = true := by simpa using k4
            by_cases k11 : c.kind ≤ 11
            · have dk2 : decide (c.kind ≤ 11) = true := by simpa using k11
              go_wp2
              go_meet
              case rel => exact ⟨rfl, .inl rfl⟩
            · have dk2 : decide (c.kind ≤ 11) = false := by simpa using k11
              go_wp2
              go_meet
              case rel => exact ⟨rfl, .inr ⟨rfl, fun _ => .inr (by omega)⟩⟩
          · have dk1 : decide (4 < c.kind) = false := by simpa using k4
            go_wp2
            go_meet
            case rel => exact ⟨rfl, .inr ⟨rfl, fun _ => .inl (by omega)⟩⟩
        · have d0 : (ask == 0) = false := by simpa using e0
          go_wp2
          go_meet
          case rel => exact ⟨rfl, .inr ⟨rfl, fun e => absurd e e0⟩⟩
      case rest =>
        obtain ⟨rfl, rfl | ⟨rfl, hns⟩⟩ := hcut
        · go_wp2
          go_roundw
          case rel => exact ⟨k + 1, U', D', by omega, by go_num, by rw [← HW1.out]; exact hI.skip hklt⟩
          case measure => simp [intOf]; omega
        go_upto_if 58 with fail
        generalize hW2 : wc.setCell ⟨wr.heap.size, 12, none⟩ (.slice none 0 0) = W2
        have hb2 : W2.heap[wr.heap.size]? = some (.cells #[.int .i64 ask, .int .i64 th, .int .i64 c.kind, .slice A3 c.at_.length cap3, .slice B3 c.to.length cab3, .int .i64 c.ty, .int .i64 c.bits, .int .i64 c.count, .int .i64 c.rights, .int .i64 c.badge, .int .i64 c.value, .int .i64 c.offset, .slice none 0 0, .int .i64 n, .bool which] 56 (0, 0)) := by rw [← hW2]; exact setCell_at wc wr.heap.size 12 (.slice none 0 0) hb1
        have hf2 : Fr wr W2 (fun _ => False) := by rw [← hW2]; exact hf1.setCell (.inr (Nat.le_refl _)) _ _
        clear hW2 HW1 m0 m1 m2 m3 m4 m5 m6 m7 m8 m9 m10 m11 m12 m13 m14 z12 v0 v1 hb1 hf1
        have v0 := hf2.cell y0 id
        have v1 := hf2.cell y1 id
        go_cut [12] (fun v12 wx => v12 = .pointer (some ⟨D'.sb, 0, none⟩) ∧ wx = W2)
        case first =>
          cases which
          all_goals go_wp2
          all_goals go_meet
          all_goals exact ⟨rfl, rfl⟩
        case rest =>
          obtain ⟨rfl, rfl⟩ := hcut
          clear v0 v1 y0 y1 y2
          have hst := step_none wb U' D' wc (hG.frame hf2) (Glob.fr hgl' hf2) ask th n which c (.slice A3 c.at_.length cap3) (.slice B3 c.to.length cab3) (hav'.fr hf2 (fun _ _ => id)) (htv'.fr hf2 (fun _ _ => id)) hal htl (fun h0 k hk => ⟨by have := hda h0 k hk; have := hf2.size; omega, fun e => by have := hda h0 k hk; have := hlo k (.inl e); omega, fun e => by have := hda h0 k hk; have := hlo k (.inr (.inr e)); omega⟩) (fun h0 k hk => ⟨by have := hdt h0 k hk; have := hf2.size; omega, fun e => by have := hdt h0 k hk; have := hlo k (.inl e); omega, fun e => by have := hdt h0 k hk; have := hlo k (.inr (.inr e)); omega⟩) hns hth0 hth1 hn0 hn1 (fun j hj => by have := hn j hj; omega)
          unfold opVal at hst
          have m0 := cell_of_blk (o := 0) hb2 rfl
          have m1 := cell_of_blk (o := 1) hb2 rfl
          have m2 := cell_of_blk (o := 2) hb2 rfl
          have m3 := cell_of_blk (o := 3) hb2 rfl
          have m4 := cell_of_blk (o := 4) hb2 rfl
          have m5 := cell_of_blk (o := 5) hb2 rfl
          have m6 := cell_of_blk (o := 6) hb2 rfl
          have m7 := cell_of_blk (o := 7) hb2 rfl
          have m8 := cell_of_blk (o := 8) hb2 rfl
          have m9 := cell_of_blk (o := 9) hb2 rfl
          have m10 := cell_of_blk (o := 10) hb2 rfl
          have m11 := cell_of_blk (o := 11) hb2 rfl
          have m12 := cell_of_blk (o := 12) hb2 rfl
          have m13 := cell_of_blk (o := 13) hb2 rfl
          have m14 := cell_of_blk (o := 14) hb2 rfl
          go_upto_region 13 with (go_at_call 15; refine hst.mono ?_; rintro e W3 ⟨rfl, U2, D2, hO2⟩)
          have hO := hO2.of_fr hf2
          clear hst hO2 m0 m1 m2 m3 m4 m5 m6 m7 m8 m9 m10 m11 m12 m13 m14 hb2
          have hke := kept_any wb U2 W3 hO.at_.law hO.at_.good (fun j hj => by have := hn j hj; have := hO.len j hj; omega)
          go_wp2_with (go_at_call 16; refine hke.mono ?_; rintro e W4 ⟨rfl, q3, rfl⟩)
          go_roundw
          case rel => exact ⟨k + 1, U2, D2, by omega, by go_num, hI.next hO hklt q3⟩
          case measure => simp [intOf]; omega
    · have hsb := hI.sb
      rw [← hsb] at y1
      clear hsb
      have hen := ended_any wb U' D' wr hG hgl' (fun j hj => by have := hn j hj; omega)
      clear hA hrow hops
      go_wp2
      refine wp_loop_rounds 2 ?_
      rw [rounds_succ]
      go_upto_region 20 with (go_at_call 17; refine hen.mono ?_; rintro e W2 ⟨rfl, U2, D2, t1, t2, t3, t4, t5, t6, t7, t8⟩)
      clear hen
      have hke := kept_any wb U2 W2 t1.law t1.good (fun j hj => by have := hn j hj; have := t8 j hj; omega)
      go_wp2
      rw [rounds_succ]
      go_wp2_with (go_at_call 16; refine hke.mono ?_; rintro e W3 ⟨rfl, q3, rfl⟩)
      go_ret
      exact ⟨rfl, (hI.base.step t2 (fun b hb => .inr (hb.elim (fun e => hlo b (.inl e)) (fun e => hlo b (.inr (.inr e)))))).drewN q3⟩
end Go.Proofs.YtdpjgflemddekaaGreatDoor

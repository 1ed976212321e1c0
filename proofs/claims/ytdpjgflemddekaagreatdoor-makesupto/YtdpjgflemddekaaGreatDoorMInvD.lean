/- The two kernels do the same. Nothing of the program's text. -/
import Derived.Test.YtdpjgflemddekaaGreatDoorMRelA
import Derived.Test.YtdpjgflemddekaaGreatDoorMBaseRet
namespace Go.Proofs.YtdpjgflemddekaaGreatDoor

def orTwo (K : Ker) : Option (Int × Ker) → Int × Ker
  | some y => y
  | none => (2, K)

/-- What the code's Do does. -/
def doK (K : Ker) (th : Int) (c : Cl) : Int × Ker :=
  match K.thr th with
  | none => (1, K)
  | some t =>
    if t.state ≠ 1 then (1, K)
    else if c.kind < 1 ∨ 11 < c.kind then (7, K)
    else if c.kind = 1 then orTwo K (retypeK K t.root c)
    else if c.kind = 2 then orTwo K (copyK K t.root c)
    else if c.kind = 3 then orTwo K (mintK K t.root c)
    else orTwo K (moveK K t.root c)

theorem okObj_iff (c : Cl) : okObj c = true ↔ isObj c.ty c.bits = true ∧ 1 ≤ c.count ∧ c.count ≤ 8 := by
  simp only [okObj, isObj, decide_eq_true_eq, Bool.and_eq_true]
  by_cases h : 0 ≤ c.ty ∧ c.ty < 6
  · have hty : c.ty = 0 ∨ c.ty = 1 ∨ c.ty = 2 ∨ c.ty = 3 ∨ c.ty = 4 ∨ c.ty = 5 := by omega
    rcases hty with e | e | e | e | e | e <;> rw [e] <;> simp only [leastT, mostT] <;> constructor
    · intro h; omega
    · intro h; omega
    all_goals
      intro h
      first
      | (obtain ⟨a1, a2, a3, a4, a5, a6⟩ := h; exact ⟨⟨⟨by omega, by omega⟩, a3, a4⟩, a5, a6⟩)
      | (obtain ⟨⟨⟨a1, a2⟩, a3, a4⟩, a5, a6⟩ := h; exact ⟨by omega, by omega, a3, a4, a5, a6⟩)
  · constructor
    · intro h1; omega
    · intro h1; exact absurd h1.1.1 h

theorem findI_zero {L : List Ent} {N : List Liv} {r : Int} (h : slotsOf N r = 0) (l : List Int) : findI L N r l = none := by
  unfold findI
  split
  · rfl
  · have hok : ∀ x, okIx N r x = false := by
      intro x; unfold okIx; rw [h]
      by_cases hx : 0 ≤ x
      · have : ¬ x < 0 := by omega
        simp [this]
      · simp [hx]
    match l with
    | [] => rfl
    | [x] => simp [goF, hok]
    | x :: y :: r' => simp [goF, hok]

theorem Core.still {R : Ref} {K : Ker} (h : Core R K) (root : Int) (l : List Int) : findI R.L R.N (stillI R.N root) l = findI R.L R.N root l := by
  unfold stillI
  split
  · rfl
  · rename_i hn
    have h1 : R.N.find? (isBaseN root) = none := by
      rw [List.find?_eq_none]
      intro x hx hb
      exact hn (List.any_eq_true.2 ⟨x, hx, hb⟩)
    have h2 : slotsOf R.N root = 0 := by unfold slotsOf; rw [h1]
    have h3 : slotsOf R.N (-1) = 0 := by
      unfold slotsOf
      cases hf : R.N.find? (isBaseN (-1)) with
      | none => rfl
      | some x =>
        have hb := List.find?_some hf
        have := h.nb x (List.mem_of_find?_eq_some hf)
        simp [isBaseN] at hb
        omega
    rw [findI_zero h2, findI_zero h3]

theorem still_eq {R : Ref} {root : Int} {l : List Int} {p : Int × Int} (hf : findI R.L R.N root l = some p) : stillI R.N root = root := by
  unfold stillI
  split
  · rfl
  · rename_i hn
    have h1 : R.N.find? (isBaseN root) = none := by
      rw [List.find?_eq_none]
      intro x hx hb
      exact hn (List.any_eq_true.2 ⟨x, hx, hb⟩)
    have h2 : slotsOf R.N root = 0 := by unfold slotsOf; rw [h1]
    rw [findI_zero h2] at hf
    cases hf

/-- What an address that leads to a slot says of it. -/
theorem Core.found_ok {R : Ref} {K : Ker} (h : Core R K) {root n i : Int} {l : List Int} (hf : findI R.L R.N root l = some (n, i)) : 0 ≤ i ∧ i < nodesI K n := by
  have := findI_ok hf
  unfold nodesI
  rw [h.rel.nodes]
  exact this

theorem Rel.idx {R : Ref} {K : Ker} (h : Rel R K) (n i : Int) : (R.L.findIdx? (isAt n i) = none ∧ K.held ⟨n, i⟩ = none) ∨
    ∃ p, ∃ hp : p < R.L.length, R.L.findIdx? (isAt n i) = some p ∧ R.L[p].slot = ⟨n, i⟩ ∧ ∃ c, K.held ⟨n, i⟩ = some c ∧ c.told = R.L[p].told := by
  cases hf : R.L.findIdx? (isAt n i) with
  | none =>
    refine .inl ⟨rfl, (h.none_iff n i).2 ?_⟩
    rw [List.findIdx?_eq_none_iff] at hf
    rw [List.find?_eq_none]
    intro x hx; simp [hf x hx]
  | some p =>
    rw [List.findIdx?_eq_some_iff_getElem] at hf
    obtain ⟨hp, h1, _⟩ := hf
    have h2 := isAt_iff.1 h1
    obtain ⟨c, h3, h4⟩ := h.cap _ (List.getElem_mem hp)
    rw [h2] at h3
    exact .inr ⟨p, hp, rfl, h2, c, h3, h4⟩

theorem told_ty {c : KCap} {e : Ent} (h : c.told = e.told) : (e.ty = 1 ↔ c.isU = true) ∧ (e.ty = 3 ↔ c.isE = true) := by
  cases c <;> simp only [KCap.told, Ent.told, Prod.mk.injEq] at h <;> obtain ⟨h1, _⟩ := h <;> simp [← h1, KCap.isU, KCap.isE]

theorem less_told {c : KCap} {e : Ent} (h : c.told = e.told) (hu : c.isU = false) (r n i u : Int) : (lessC c r).told = Ent.told { e with node := n, index := i, rights := andI e.rights r, up := u } := by
  cases c <;> simp only [KCap.told, Ent.told, Prod.mk.injEq] at h <;> obtain ⟨h1, h2, h3, h4, h5, h6⟩ := h
  · simp [KCap.isU] at hu
  all_goals simp only [lessC, KCap.told, Ent.told, Prod.mk.injEq]; exact ⟨h1, h2, h3, by rw [h4], h5, h6⟩

theorem less_same (c : KCap) (r : Int) : (lessC c r).base = c.base ∧ (lessC c r).bits = c.bits ∧ (lessC c r).mark = c.mark ∧ (lessC c r).isU = c.isU := by
  cases c <;> exact ⟨rfl, rfl, rfl, rfl⟩

theorem notU {c : KCap} (h : c.isU = false) : ∀ b n m, c ≠ .untyped b n m := fun b n m e => by rw [e] at h; cases h

/-- A copy laid, both sides. -/
theorem Inv.child {R : Ref} {K : Ker} (h : Inv R K) {p : Nat} (hp : p < R.L.length) (root : Int) (l : List Int) (c' : KCap) (x : Ent) (hnu : c'.isU = false)
    (hcap : 0 ≤ c'.base ∧ 0 ≤ c'.bits ∧ c'.bits ≤ 10 ∧ c'.base + pw c'.bits.toNat ≤ 1024 ∧ 0 ≤ c'.mark ∧ c'.mark ≤ pw c'.bits.toNat) (hc : c'.told = x.told) :
    (∃ X, (match findI R.L R.N root l with
      | none => ((2 : Int), R.L)
      | some (n, i) => if (R.L.find? (isAt n i)).isSome then (4, R.L) else (0, layL R.L p R.L[p].up { x with node := n, index := i })) = X ∧
      X.1 = (orTwo K (layChildK K root l c' R.L[p].slot)).1 ∧ Inv { R with L := X.2 } (orTwo K (layChildK K root l c' R.L[p].slot)).2) := by
  refine ⟨_, rfl, ?_⟩
  unfold layChildK
  rw [h.rel.find]
  cases hf : findI R.L R.N root l with
  | none => exact ⟨rfl, h⟩
  | some q =>
    obtain ⟨n, i⟩ := q
    simp only [Option.map_some]
    have hs : K.held (toSlot (n, i)) = K.held ⟨n, i⟩ := rfl
    rw [hs, h.rel.isSome]
    by_cases he : (R.L.find? (isAt n i)).isSome = true
    · simp only [he, if_true]; exact ⟨rfl, h⟩
    · simp only [he]
      have hn : K.held ⟨n, i⟩ = none := by
        rw [h.rel.none_iff]
        cases hx : R.L.find? (isAt n i) with
        | none => rfl
        | some y => rw [hx] at he; exact absurd rfl he
      refine ⟨rfl, ?_⟩
      exact h.lay hp { x with node := n, index := i } c' (by rw [hc]; rfl) hn (h.found_ok hf) hcap (notU hnu)

/-- Copy and Mint, both sides. -/
theorem Inv.copy {R : Ref} {K : Ker} (h : Inv R K) {p : Nat} (hp : p < R.L.length) (root : Int) (c : Cl) (k : KCap) (hk : K.held R.L[p].slot = some k) (ht : k.told = R.L[p].told) (hkind : c.kind = 2) :
    (copyL R root c p R.L[p]).1 = (orTwo K (if k.isU then some (3, K) else if 0 ≤ c.rights ∧ c.rights ≤ 7 then layChildK K root c.to (lessC k c.rights) R.L[p].slot else some (7, K))).1 ∧
    Inv { R with L := (copyL R root c p R.L[p]).2 } (orTwo K (if k.isU then some (3, K) else if 0 ≤ c.rights ∧ c.rights ≤ 7 then layChildK K root c.to (lessC k c.rights) R.L[p].slot else some (7, K))).2 := by
  obtain ⟨t1, _⟩ := told_ty ht
  by_cases hu : k.isU = true
  · have hL : copyL R root c p R.L[p] = (3, R.L) := by unfold copyL; rw [if_pos (.inl ⟨hkind, t1.2 hu⟩)]
    rw [hL, if_pos hu]; exact ⟨rfl, h⟩
  · rw [if_neg hu]
    have hty : ¬ R.L[p].ty = 1 := fun e => hu (t1.1 e)
    have h1 : ¬ (c.kind = 2 ∧ R.L[p].ty = 1 ∨ c.kind = 3 ∧ R.L[p].ty ≠ 3) := by rintro (⟨_, e⟩ | ⟨e, _⟩); exact hty e; omega
    have h2 : ¬ (c.kind = 3 ∧ R.L[p].badge ≠ 0) := by rintro ⟨e, _⟩; omega
    by_cases hr : 0 ≤ c.rights ∧ c.rights ≤ 7
    · rw [if_pos hr]
      have h3 : ¬ ((c.kind ≠ 4 ∧ (c.rights < 0 ∨ 7 < c.rights)) ∨ (c.kind = 3 ∧ (c.badge < 1 ∨ 65535 < c.badge))) := by omega
      have h4 : ¬ c.kind = 4 := by omega
      have h5 : ¬ c.kind = 3 := by omega
      have hu' : k.isU = false := by simpa using hu
      obtain ⟨s1, s2, s3, s4⟩ := less_same k c.rights
      have hcap := h.cap _ k hk
      have hch := h.child hp root c.to (lessC k c.rights) { R.L[p] with rights := andI R.L[p].rights c.rights, badge := R.L[p].badge, up := 0 } (by rw [s4]; exact hu') (by rw [s1, s2, s3]; exact hcap)
        (by rw [less_told ht hu' c.rights 0 0 0]; rfl)
      obtain ⟨X, hX, hA, hB⟩ := hch
      have hL : copyL R root c p R.L[p] = X := by
        rw [← hX]; unfold copyL; rw [if_neg h1, if_neg h2, if_neg h3]
        cases findI R.L R.N root c.to with
        | none => rfl
        | some q =>
          obtain ⟨n, i⟩ := q
          simp only
          split
          · rfl
          · first | rfl | rw [if_neg h4, if_neg h5]
      rw [hL]
      exact ⟨hA, hB⟩
    · rw [if_neg hr]
      have hL : copyL R root c p R.L[p] = (7, R.L) := by unfold copyL; rw [if_neg h1, if_neg h2, if_pos (.inl ⟨by omega, by omega⟩)]
      rw [hL]; exact ⟨rfl, h⟩

def mintAt (K : Ker) (root : Int) (c : Cl) (s : Slot) (k : KCap) : Option (Int × Ker) :=
  match k with
  | .endpoint b n q g => if g ≠ 0 then some (5, K) else if (0 ≤ c.rights ∧ c.rights ≤ 7) ∧ 1 ≤ c.badge ∧ c.badge ≤ 65535 then layChildK K root c.to (lessC (.endpoint b n q c.badge) c.rights) s else some (7, K)
  | _ => some (3, K)

theorem Inv.mint {R : Ref} {K : Ker} (h : Inv R K) {p : Nat} (hp : p < R.L.length) (root : Int) (c : Cl) (k : KCap) (hk : K.held R.L[p].slot = some k) (ht : k.told = R.L[p].told) (hkind : c.kind = 3) :
    (copyL R root c p R.L[p]).1 = (orTwo K (mintAt K root c R.L[p].slot k)).1 ∧
    Inv { R with L := (copyL R root c p R.L[p]).2 } (orTwo K (mintAt K root c R.L[p].slot k)).2 := by
  obtain ⟨_, t1⟩ := told_ty ht
  by_cases he : k.isE = true
  · cases k with
    | endpoint b n q g =>
      have hcap := h.cap _ _ hk
      have h0 : ¬ c.kind = 2 := by omega
      have h4 : ¬ c.kind = 4 := by omega
      have h1 : ¬ (c.kind = 2 ∧ R.L[p].ty = 1 ∨ c.kind = 3 ∧ R.L[p].ty ≠ 3) := by rintro (⟨e, _⟩ | ⟨_, e⟩); exact h0 e; exact e (t1.2 he)
      have ht' := ht
      simp only [KCap.told, Ent.told, Prod.mk.injEq] at ht'
      obtain ⟨a1, a2, a3, a4, a5, a6⟩ := ht'
      simp only [mintAt]
      by_cases hg : g = 0
      · rw [if_neg (by simp [hg])]
        have h2 : ¬ (c.kind = 3 ∧ R.L[p].badge ≠ 0) := by rintro ⟨_, e⟩; exact e (by rw [← a5]; exact hg)
        by_cases hr : (0 ≤ c.rights ∧ c.rights ≤ 7) ∧ 1 ≤ c.badge ∧ c.badge ≤ 65535
        · rw [if_pos hr]
          have h3 : ¬ ((c.kind ≠ 4 ∧ (c.rights < 0 ∨ 7 < c.rights)) ∨ (c.kind = 3 ∧ (c.badge < 1 ∨ 65535 < c.badge))) := by omega
          have hch := h.child hp root c.to (lessC (.endpoint b n q c.badge) c.rights) { R.L[p] with rights := andI R.L[p].rights c.rights, badge := c.badge, up := 0 } rfl hcap
            (by simp only [lessC, KCap.told, Ent.told, Prod.mk.injEq]; exact ⟨a1, a2, a3, by rw [a4], trivial, a6⟩)
          obtain ⟨X, hX, hA, hB⟩ := hch
          have hL : copyL R root c p R.L[p] = X := by
            rw [← hX]; unfold copyL; rw [if_neg h1, if_neg h2, if_neg h3]
            cases findI R.L R.N root c.to with
            | none => rfl
            | some q =>
              obtain ⟨n, i⟩ := q
              simp only
              split
              · rfl
              · first | rfl | rw [if_neg h4, if_pos hkind]
          rw [hL]
          exact ⟨hA, hB⟩
        · rw [if_neg hr]
          have hL : copyL R root c p R.L[p] = (7, R.L) := by unfold copyL; rw [if_neg h1, if_neg h2, if_pos (by omega)]
          rw [hL]; exact ⟨rfl, h⟩
      · rw [if_pos hg]
        have hL : copyL R root c p R.L[p] = (5, R.L) := by unfold copyL; rw [if_neg h1, if_pos ⟨hkind, by rw [← a5]; exact hg⟩]
        rw [hL]; exact ⟨rfl, h⟩
    | _ => simp [KCap.isE] at he
  · have hL : copyL R root c p R.L[p] = (3, R.L) := by unfold copyL; rw [if_pos (.inr ⟨hkind, fun e => he (t1.1 e)⟩)]
    have hM : mintAt K root c R.L[p].slot k = some (3, K) := by
      cases k <;> first | rfl | (simp [KCap.isE] at he)
    rw [hL, hM]; exact ⟨rfl, h⟩

/-- Move, both sides. -/
theorem Inv.moves {R : Ref} {K : Ker} (h : Inv R K) {p : Nat} (hp : p < R.L.length) (root : Int) (c : Cl) (k : KCap) (hk : K.held R.L[p].slot = some k) (hkind : c.kind = 4) :
    (copyL R root c p R.L[p]).1 = (orTwo K (match findK K root c.to with
      | none => none
      | some t => if (K.held t).isSome then some (4, K) else some (0, K.move R.L[p].slot t k))).1 ∧
    Inv { R with L := (copyL R root c p R.L[p]).2 } (orTwo K (match findK K root c.to with
      | none => none
      | some t => if (K.held t).isSome then some (4, K) else some (0, K.move R.L[p].slot t k))).2 := by
  have h1 : ¬ (c.kind = 2 ∧ R.L[p].ty = 1 ∨ c.kind = 3 ∧ R.L[p].ty ≠ 3) := by omega
  have h2 : ¬ (c.kind = 3 ∧ R.L[p].badge ≠ 0) := by omega
  have h3 : ¬ ((c.kind ≠ 4 ∧ (c.rights < 0 ∨ 7 < c.rights)) ∨ (c.kind = 3 ∧ (c.badge < 1 ∨ 65535 < c.badge))) := by omega
  have hL : copyL R root c p R.L[p] = (match findI R.L R.N root c.to with
    | none => (2, R.L)
    | some (n, i) => if (R.L.find? (isAt n i)).isSome then (4, R.L) else (0, R.L.set p { R.L[p] with node := n, index := i })) := by
    unfold copyL; rw [if_neg h1, if_neg h2, if_neg h3]
    cases findI R.L R.N root c.to with
    | none => rfl
    | some q =>
      obtain ⟨n, i⟩ := q
      simp only
      split
      · rfl
      · first | rfl | rw [if_pos hkind]
  rw [hL, h.rel.find]
  cases hf : findI R.L R.N root c.to with
  | none => exact ⟨rfl, h⟩
  | some q =>
    obtain ⟨n, i⟩ := q
    simp only [Option.map_some]
    have hs : K.held (toSlot (n, i)) = K.held ⟨n, i⟩ := rfl
    rw [hs, h.rel.isSome]
    by_cases he : (R.L.find? (isAt n i)).isSome = true
    · simp only [he, if_true]; exact ⟨rfl, h⟩
    · simp only [he]
      have hn : K.held ⟨n, i⟩ = none := by
        rw [h.rel.none_iff]
        cases hx : R.L.find? (isAt n i) with
        | none => rfl
        | some y => rw [hx] at he; exact absurd rfl he
      exact ⟨rfl, h.move hp k hk n i hn (h.found_ok hf)⟩

theorem full_all {R : Ref} {K : Ker} (h : Rel R K) (n ix : Int) (cnt : Nat) : ((slotsFrom ⟨n, ix⟩ cnt).all fun t => (K.held t).isNone) = !fullIn R.L n ix cnt := by
  unfold slotsFrom fullIn
  rw [Bool.eq_iff_iff]
  simp only [List.all_map, List.all_eq_true, Bool.not_eq_true', Function.comp]
  rw [← Bool.not_eq_true, List.any_eq_true]
  constructor
  · rintro h1 ⟨i, hi, h2⟩
    have := h1 i hi
    rw [← h.isSome] at h2
    rw [Option.isNone_iff_eq_none] at this
    rw [this] at h2; cases h2
  · intro h1 i hi
    rw [Option.isNone_iff_eq_none]
    cases hh : K.held ⟨n, ix + i⟩ with
    | none => rfl
    | some k => exact absurd ⟨i, hi, by rw [← h.isSome, hh]; rfl⟩ h1

/-- Retype, both sides. -/
theorem Inv.retypes {R : Ref} {K : Ker} (h : Inv R K) {p : Nat} (hp : p < R.L.length) (root : Int) (c : Cl) (k : KCap) (hk : K.held R.L[p].slot = some k) (ht : k.told = R.L[p].told) :
    (retype R root c p R.L[p]).1 = (orTwo K (match (some k : Option KCap) with
    | some (.untyped b n m) =>
      if isObj c.ty c.bits = true ∧ 1 ≤ c.count ∧ c.count ≤ 8 then
        match rowK K root c.to c.count.toNat with
        | none => none
        | some (_, false) => some (4, K)
        | some (s, true) => some (carveK K R.L[p].slot s c.ty c.bits root b n m c.count.toNat)
      else some (7, K)
    | _ => some (3, K))).1 ∧
    Inv (retype R root c p R.L[p]).2 (orTwo K (match (some k : Option KCap) with
    | some (.untyped b n m) =>
      if isObj c.ty c.bits = true ∧ 1 ≤ c.count ∧ c.count ≤ 8 then
        match rowK K root c.to c.count.toNat with
        | none => none
        | some (_, false) => some (4, K)
        | some (s, true) => some (carveK K R.L[p].slot s c.ty c.bits root b n m c.count.toNat)
      else some (7, K)
    | _ => some (3, K))).2 := by
  obtain ⟨t1, _⟩ := told_ty ht
  by_cases hu : k.isU = true
  · cases k with
    | untyped b n m =>
      simp only
      have hty : ¬ R.L[p].ty ≠ 1 := fun e => e (t1.2 hu)
      have ht' := ht
      simp only [KCap.told, Ent.told, Prod.mk.injEq] at ht'
      obtain ⟨a1, rfl, rfl, a4, a5, rfl⟩ := ht'
      unfold retype
      rw [if_neg hty]
      by_cases hob : okObj c = true
      · have hob' := (okObj_iff c).1 hob
        rw [if_pos hob', if_neg (by simp [hob])]
        unfold rowK
        rw [h.rel.find]
        cases hf : findI R.L R.N root c.to with
        | none => exact ⟨rfl, h⟩
        | some q =>
          obtain ⟨nd, ix⟩ := q
          simp only [Option.map_some, toSlot]
          obtain ⟨o1, o2⟩ := h.found_ok hf
          have hcnt : ((c.count.toNat : Nat) : Int) = c.count := by omega
          have hslots : slotsOf R.N nd = nodesI K nd := by unfold nodesI; rw [h.rel.nodes]
          by_cases hroom : slotsOf R.N nd < ix + c.count
          · have hnok : okK K nd (ix + c.count.toNat - 1) = false := by
              unfold okK; rw [hcnt, ← hslots]
              have : ¬ ix + c.count - 1 < slotsOf R.N nd := by omega
              simp [this]
            rw [if_pos hroom, hnok]
            exact ⟨rfl, h⟩
          · have hok : okK K nd (ix + c.count.toNat - 1) = true := by
              unfold okK; rw [hcnt, ← hslots]
              have g1 : ix + c.count - 1 < slotsOf R.N nd := by omega
              have g2 : 0 ≤ ix + c.count - 1 := by omega
              simp only [Bool.and_eq_true, decide_eq_true_eq]; exact ⟨g2, g1⟩
            rw [if_neg hroom, hok, if_pos rfl, full_all h.rel]
            by_cases hfu : fullIn R.L nd ix c.count.toNat = true
            · rw [if_pos hfu]; simp only [hfu, Bool.not_true]; exact ⟨rfl, h⟩
            · have hfu' : fullIn R.L nd ix c.count.toNat = false := by simpa using hfu
              rw [if_neg hfu]
              simp only [hfu', Bool.not_false]
              unfold carveK startI
              rw [hcnt]
              by_cases hrm : R.L[p].base + pw R.L[p].bits.toNat < upTo (R.L[p].base + R.L[p].mark) (pw c.bits.toNat) + c.count * pw c.bits.toNat
              · rw [if_pos hrm, if_pos hrm]; exact ⟨rfl, h⟩
              · rw [if_neg hrm, if_neg hrm]
                refine ⟨rfl, ?_⟩
                have hcap := h.cap _ _ hk
                simp only [KCap.base, KCap.bits, KCap.mark] at hcap
                obtain ⟨c1, c2, c3, c4, c5, c6⟩ := hcap
                have hpos := pw_pos c.bits.toNat
                have hge := upTo_ge (R.L[p].base + R.L[p].mark) (pw c.bits.toNat) (by omega)
                generalize hst : upTo (R.L[p].base + R.L[p].mark) (pw c.bits.toNat) = st at hrm hge ⊢
                have hmul : 1 * pw c.bits.toNat ≤ c.count * pw c.bits.toNat := Int.mul_le_mul_of_nonneg_right hob'.2.1 (by omega)
                have hempty : ∀ i : Nat, i < c.count.toNat → K.held ⟨nd, ix + i⟩ = none := by
                  intro i hi
                  cases hh : K.held ⟨nd, ix + i⟩ with
                  | none => rfl
                  | some x =>
                    have := fullIn_hit (L := R.L) (n := nd) (ix := ix) hi (by rw [← h.rel.isSome, hh]; rfl)
                    rw [hfu'] at this; cases this
                have hfne : ∀ j : Nat, j < c.count.toNat → R.L[p].slot ≠ ⟨nd, ix + j⟩ := by
                  intro j hj e
                  have := hempty j hj
                  rw [← e, hk] at this; cases this
                rw [← carve_upd K R.L[p].slot nd ix c.ty c.bits root st (.untyped R.L[p].base R.L[p].bits (st + c.count * pw c.bits.toNat - R.L[p].base)) c.count.toNat hfne]
                have hC1 := h.toCore.setMark hp hk (m' := st + c.count * pw c.bits.toNat - R.L[p].base) (by omega) (by omega)
                have hF1 := h.toCore.freed hk (m' := st + c.count * pw c.bits.toNat - R.L[p].base) (a := st) (z := c.count * pw c.bits.toNat) (by omega) (by omega) (by omega)
                have hp1 : p < (R.L.set p { R.L[p] with mark := st + c.count * pw c.bits.toNat - R.L[p].base }).length := by simpa using hp
                have hg1 : (R.L.set p { R.L[p] with mark := st + c.count * pw c.bits.toNat - R.L[p].base })[p]'hp1 = { R.L[p] with mark := st + c.count * pw c.bits.toNat - R.L[p].base } := by simp
                have hup : ((R.L.set p { R.L[p] with mark := st + c.count * pw c.bits.toNat - R.L[p].base })[p]'hp1).up = R.L[p].up := by rw [hg1]
                have hsl : ((R.L.set p { R.L[p] with mark := st + c.count * pw c.bits.toNat - R.L[p].base })[p]'hp1).slot = R.L[p].slot := by rw [hg1]; rfl
                have hall := hC1.carve hp1 c nd ix st root c.count.toNat hob'.1 (fun i hi => by
                    show upd K.held R.L[p].slot _ _ = none
                    rw [upd_other _ _ (Ne.symm (hfne i hi))]; exact hempty i hi)
                  ⟨o1, by show ix + _ ≤ nodesI K nd; rw [hcnt]; omega⟩ ⟨by omega, by rw [hcnt]; omega⟩ (by rw [hcnt]; exact hF1) c.count.toNat (Nat.le_refl _)
                simp only [hup, hsl] at hall
                obtain ⟨_, _, _, hD, _, _, _, hkid, hpar⟩ := hall
                refine ⟨hD, ?_⟩
                intro t b' n' m' g1 g2
                by_cases e : t = R.L[p].slot
                · rw [e] at g2
                  have g5 := hpar (by omega)
                  exact Bool.noConfusion (g5.symm.trans g2)
                · refine hkid t ?_ b' n' m' g1 g2
                  intro b2 n2 m2 g3 g4
                  have g3' : upd K.held R.L[p].slot (some (.untyped R.L[p].base R.L[p].bits (st + c.count * pw c.bits.toNat - R.L[p].base))) t = some (.untyped b2 n2 m2) := g3
                  rw [upd_other _ _ e] at g3'
                  exact h.kid t b2 n2 m2 g3' g4
      · have hob' : ¬ (isObj c.ty c.bits = true ∧ 1 ≤ c.count ∧ c.count ≤ 8) := fun e => hob ((okObj_iff c).2 e)
        rw [if_neg hob', if_pos (by simpa using hob)]
        exact ⟨rfl, h⟩
    | _ => simp [KCap.isU] at hu
  · have hL : retype R root c p R.L[p] = (3, R) := by unfold retype; rw [if_pos (fun e => hu (t1.1 e))]
    rw [hL]
    cases k with
    | untyped b n m => simp [KCap.isU] at hu
    | _ => exact ⟨rfl, h⟩

/-- Do, both sides. -/
theorem do_agree {R : Ref} {K : Ker} (h : Inv R K) (th : Int) (c : Cl) (hk : c.kind ≤ 4 ∨ 11 < c.kind) : (doR R th c).1 = (doK K th c).1 ∧ Inv (doR R th c).2 (doK K th c).2 := by
  unfold doR doK
  rw [h.rel.thr]
  cases hf : R.T.find? (isBaseT th) with
  | none => exact ⟨rfl, h⟩
  | some t =>
    simp only [Option.map_some, Thr.thd]
    by_cases hs : t.state ≠ 1
    · rw [if_pos hs, if_pos hs]; exact ⟨rfl, h⟩
    · rw [if_neg hs, if_neg hs]
      by_cases hkk : c.kind < 1 ∨ 11 < c.kind
      · rw [if_pos hkk, if_pos hkk]; exact ⟨rfl, h⟩
      · rw [if_neg hkk, if_neg hkk]
        by_cases h1 : c.kind = 1
        · simp only [if_pos h1]
          rw [h.toCore.still]
          unfold retypeK
          rw [h.rel.find]
          cases hfi : findI R.L R.N t.root c.at_ with
          | none => exact ⟨rfl, h⟩
          | some q =>
            obtain ⟨n, i⟩ := q
            simp only [Option.map_some, toSlot]
            rcases h.rel.idx n i with ⟨e1, e2⟩ | ⟨p, hp, e1, e2, k, e3, e4⟩
            · rw [e1, e2]; exact ⟨rfl, h⟩
            · rw [e1]
              simp only [List.getElem?_eq_getElem hp, still_eq hfi]
              rw [← e2] at e3 ⊢
              rw [e3]
              exact h.retypes hp t.root c k e3 e4
        · have hA : ∀ (f : Option (Int × Ker)), (findK K t.root c.at_ = none → f = none) →
              (∀ n i, findI R.L R.N t.root c.at_ = some (n, i) → K.held ⟨n, i⟩ = none → f = some (4, K)) →
              (∀ p (hp : p < R.L.length) n i, findI R.L R.N t.root c.at_ = some (n, i) → R.L[p].slot = ⟨n, i⟩ → ∀ k, K.held R.L[p].slot = some k → k.told = R.L[p].told →
                (copyL R t.root c p R.L[p]).1 = (orTwo K f).1 ∧ Inv { R with L := (copyL R t.root c p R.L[p]).2 } (orTwo K f).2) →
              ∀ y, y = (match findI R.L R.N t.root c.at_ with
                | none => (2, R)
                | some (n, ix) => match R.L.findIdx? (isAt n ix) with
                  | none => (4, R)
                  | some p => match R.L[p]? with
                    | none => (0, R)
                    | some e => ((copyL R t.root c p e).1, { R with L := (copyL R t.root c p e).2 })) →
              y.1 = (orTwo K f).1 ∧ Inv y.2 (orTwo K f).2 := by
            intro f f1 f2 f3 y hy
            subst hy
            cases hfi : findI R.L R.N t.root c.at_ with
            | none =>
              rw [f1 (by rw [h.rel.find, hfi]; rfl)]
              exact ⟨rfl, h⟩
            | some q =>
              obtain ⟨n, i⟩ := q
              simp only
              rcases h.rel.idx n i with ⟨e1, e2⟩ | ⟨p, hp, e1, e2, k, e3, e4⟩
              · rw [e1, f2 n i hfi e2]; exact ⟨rfl, h⟩
              · rw [e1]
                simp only [List.getElem?_eq_getElem hp]
                rw [← e2] at e3
                exact f3 p hp n i hfi e2 k e3 e4
          have hfk : ∀ n i, findI R.L R.N t.root c.at_ = some (n, i) → findK K t.root c.at_ = some ⟨n, i⟩ := fun n i e => by rw [h.rel.find, e]; rfl
          simp only [if_neg h1]
          by_cases h2 : c.kind = 2
          · simp only [if_pos h2]
            refine hA (copyK K t.root c) ?_ ?_ ?_ _ rfl
            · intro e; unfold copyK; rw [e]
            · intro n i e e2; unfold copyK; rw [hfk n i e]; simp only [e2]
            · intro p hp n i e e2 k e3 e4
              have : copyK K t.root c = (if k.isU then some (3, K) else if 0 ≤ c.rights ∧ c.rights ≤ 7 then layChildK K t.root c.to (lessC k c.rights) R.L[p].slot else some (7, K)) := by
                unfold copyK; rw [hfk n i e]; rw [e2] at e3; simp only [e3, e2]
              rw [this]
              exact h.copy hp t.root c k e3 e4 h2
          · simp only [if_neg h2]
            by_cases h3 : c.kind = 3
            · simp only [if_pos h3]
              refine hA (mintK K t.root c) ?_ ?_ ?_ _ rfl
              · intro e; unfold mintK; rw [e]
              · intro n i e e2; unfold mintK; rw [hfk n i e]; simp only [e2]
              · intro p hp n i e e2 k e3 e4
                have : mintK K t.root c = mintAt K t.root c R.L[p].slot k := by
                  unfold mintK; rw [hfk n i e]; rw [e2] at e3; simp only [e3, e2]; rfl
                rw [this]
                exact h.mint hp t.root c k e3 e4 h3
            · simp only [if_neg h3]
              refine hA (moveK K t.root c) ?_ ?_ ?_ _ rfl
              · intro e; unfold moveK; rw [e]
              · intro n i e e2; unfold moveK; rw [hfk n i e]; simp only [e2]
              · intro p hp n i e e2 k e3 e4
                have : moveK K t.root c = (match findK K t.root c.to with
                    | none => none
                    | some t => if (K.held t).isSome then some (4, K) else some (0, K.move R.L[p].slot t k)) := by
                  unfold moveK; rw [hfk n i e]; rw [e2] at e3; simp only [e3, e2]; cases findK K t.root c.to <;> rfl
                rw [this]
                exact h.moves hp t.root c k e3 (by omega)

end Go.Proofs.YtdpjgflemddekaaGreatDoor
/- The two kernels tell the same capabilities. Nothing of the program's text. -/
namespace Go.Proofs.YtdpjgflemddekaaGreatDoor

def toldOf : Option KCap → Int × Int × Int × Int × Int × Int
  | some c => c.told
  | none => (0, 0, 0, 0, 0, 0)

def parOf : Option Std → Slot
  | some x => x.parent
  | none => ⟨0, 0⟩

/-- What the code's Caps tells of a slot. -/
def capOf (K : Ker) (s : Slot) : AEnt :=
  ⟨s.node, s.index, (toldOf (K.held s)).1, (toldOf (K.held s)).2.1, (toldOf (K.held s)).2.2.1, (toldOf (K.held s)).2.2.2.1, (toldOf (K.held s)).2.2.2.2.1, (toldOf (K.held s)).2.2.2.2.2, (parOf (K.st s)).node, (parOf (K.st s)).index⟩

theorem capsTo_get (L : List Ent) : ∀ (k : Nat) (_ : k ≤ L.length), ∀ i (hi : i < k) (h2 : i < (capsTo L k).length), (capsTo L k)[i] = aent L i (L[i]'(by omega))
  | 0, _, i, hi, _ => absurd hi (by omega)
  | k + 1, hk, i, hi, h2 => by
    have e := capsTo_succ L k (by omega)
    have hl := capsTo_len L k (by omega)
    have h3 : i < (capsTo L k ++ [aent L k L[k]]).length := by rw [← e]; exact h2
    have : (capsTo L (k + 1))[i] = (capsTo L k ++ [aent L k L[k]])[i]'h3 := by congr 1
    rw [this]
    by_cases hik : i < k
    · rw [List.getElem_append_left (by rw [hl]; exact hik)]
      exact capsTo_get L k (by omega) i hik (by rw [hl]; exact hik)
    · have : i = k := by omega
      subst this
      rw [List.getElem_append_right (by rw [hl]; omega)]
      simp [hl]

theorem Rel.caps {R : Ref} {K : Ker} (h : Rel R K) {F : Fo} (hF : TreeRel R.L K.st F) : F.slots.map (capOf K) = capsTo R.L R.L.length := by
  have hsl := hF.slots
  have hlen : (F.slots.map (capOf K)).length = R.L.length := by rw [hsl]; simp
  apply List.ext_getElem
  · rw [hlen, capsTo_len _ _ (Nat.le_refl _)]
  · intro i h1 h2
    have hi : i < R.L.length := by rw [← hlen]; exact h1
    rw [capsTo_get R.L R.L.length (Nat.le_refl _) i hi h2]
    have hs : (F.slots.map (capOf K))[i] = capOf K R.L[i].slot := by
      simp only [List.getElem_map]
      congr 1
      have : F.slots[i]'(by simpa using h1) = (R.L.map Ent.slot)[i]'(by simpa using hi) := by congr 1
      rw [this]; simp
    rw [hs]
    obtain ⟨c, hc, ht⟩ := h.cap _ (List.getElem_mem hi)
    have hflat : F.flat 0 = (R.L.take i).map Ent.key ++ (R.L[i].slot, R.L[i].up) :: (R.L.drop (i + 1)).map Ent.key := by
      rw [← hF.flat]
      have := List.take_append_drop i R.L
      conv => lhs; rw [← this]
      rw [List.map_append, List.drop_eq_getElem_cons hi]
      rfl
    obtain ⟨x, hx, hp⟩ := hF.stands.parent hflat
    have hpar : x.parent = ⟨(par R.L R.L[i].up i).1, (par R.L R.L[i].up i).2⟩ := by
      rcases hp with ⟨e1, e2⟩ | ⟨A1, q, A2, e1, e2, e3⟩
      · rw [e1, par_none R.L 0 i (by omega) ?_]
        · exact e2
        · intro e he
          have hm : e.key ∈ F.flat 0 := by
            rw [← hF.flat]; exact List.mem_map.2 ⟨e, List.mem_of_mem_take he, rfl⟩
          have := Fo.flat_ge F 0 _ hm
          simp only [Ent.key] at this
          omega
      · rw [par_some R.L R.L[i].up q i (by omega) A1 A2 e1 e2]
        exact e3
    unfold capOf aent
    rw [hc, hx]
    simp only [toldOf, parOf, hpar, ht, Ent.told]
    simp only [Ent.slot]

end Go.Proofs.YtdpjgflemddekaaGreatDoor
/- The two kernels at the beginning. Nothing of the program's text. -/
namespace Go.Proofs.YtdpjgflemddekaaGreatDoor

def bootList : List Ent := [⟨0, 0, 1, 0, 10, 7, 0, 80, 0⟩, ⟨0, 1, 2, 0, 6, 7, 0, 0, 1⟩, ⟨0, 2, 4, 64, 4, 7, 0, 0, 1⟩]
def bootF : Fo := .node ⟨0, 0⟩ (.node ⟨0, 1⟩ .nil (.node ⟨0, 2⟩ .nil .nil)) .nil

theorem boot_held (s : Slot) : bootK.held s = if s = ⟨0, 2⟩ then some (.task 64 4 7) else if s = ⟨0, 1⟩ then some (.node 0 6 7) else if s = ⟨0, 0⟩ then some (.untyped 0 10 80) else none := rfl
theorem boot_nodes (b : Int) : bootK.nodes b = if b = 0 then some 16 else none := rfl
theorem boot_thr (b : Int) : bootK.thr b = if b = 64 then some ⟨1, 0, 0, 0, 0⟩ else none := rfl
theorem boot_st0 : bootK.st ⟨0, 0⟩ = some ⟨nowhere, [⟨0, 1⟩, ⟨0, 2⟩]⟩ := rfl
theorem boot_st1 : bootK.st ⟨0, 1⟩ = some ⟨⟨0, 0⟩, []⟩ := rfl
theorem boot_st2 : bootK.st ⟨0, 2⟩ = some ⟨⟨0, 0⟩, []⟩ := rfl
theorem boot_stn : bootK.st nowhere = some ⟨⟨0, 0⟩, [⟨0, 0⟩]⟩ := rfl
theorem boot_sto (s : Slot) (h0 : s ≠ ⟨0, 0⟩) (h1 : s ≠ ⟨0, 1⟩) (h2 : s ≠ ⟨0, 2⟩) (hn : s ≠ nowhere) : bootK.st s = none := by
  show addS (addS (addS (fun _ => none) ⟨0, 0⟩ nowhere) ⟨0, 1⟩ ⟨0, 0⟩) ⟨0, 2⟩ ⟨0, 0⟩ s = none
  rw [addS_other h0 h2, addS_other h0 h1, addS_other hn h0]

theorem boot_cases {s : Slot} {c : KCap} (h : bootK.held s = some c) : (s = ⟨0, 2⟩ ∧ c = .task 64 4 7) ∨ (s = ⟨0, 1⟩ ∧ c = .node 0 6 7) ∨ (s = ⟨0, 0⟩ ∧ c = .untyped 0 10 80) := by
  rw [boot_held] at h
  split at h
  · rename_i e; exact .inl ⟨e, (Option.some.inj h).symm⟩
  · split at h
    · rename_i e; exact .inr (.inl ⟨e, (Option.some.inj h).symm⟩)
    · split at h
      · rename_i e; exact .inr (.inr ⟨e, (Option.some.inj h).symm⟩)
      · cases h

theorem boot_inv : Inv ⟨bootList, [⟨0, 6⟩], [⟨64, 1, 0, 0, 0, 0⟩]⟩ bootK := by
  have hT : TreeRel bootList bootK.st bootF := by
    refine ⟨by decide, by decide, by decide, ?_, ⟨_, boot_stn, rfl⟩, ?_⟩
    · exact ⟨⟨_, boot_st0, rfl, rfl⟩, ⟨⟨_, boot_st1, rfl, rfl⟩, trivial, ⟨⟨_, boot_st2, rfl, rfl⟩, trivial, trivial⟩⟩, trivial⟩
    · intro s x hx
      by_cases h0 : s = ⟨0, 0⟩
      · left; rw [h0]; decide
      · by_cases h1 : s = ⟨0, 1⟩
        · left; rw [h1]; decide
        · by_cases h2 : s = ⟨0, 2⟩
          · left; rw [h2]; decide
          · by_cases hn : s = nowhere
            · exact .inr hn
            · rw [boot_sto s h0 h1 h2 hn] at hx; cases hx
  refine ⟨⟨⟨?_, ?_, ⟨bootF, hT⟩, ?_, ?_⟩, ?_, ?_, ?_, ?_, ?_, by decide, by decide, ?_, ?_, by decide, by decide, fun _ => rfl⟩, ?_⟩
  · intro e he
    simp only [bootList, List.mem_cons, List.not_mem_nil, or_false] at he
    rcases he with rfl | rfl | rfl
    · exact ⟨_, rfl, rfl⟩
    · exact ⟨_, rfl, rfl⟩
    · exact ⟨_, rfl, rfl⟩
  · intro s hs
    rw [boot_held]
    rw [if_neg (fun e => hs ⟨0, 2, 4, 64, 4, 7, 0, 0, 1⟩ (by simp [bootList]) e.symm), if_neg (fun e => hs ⟨0, 1, 2, 0, 6, 7, 0, 0, 1⟩ (by simp [bootList]) e.symm),
      if_neg (fun e => hs ⟨0, 0, 1, 0, 10, 7, 0, 80, 0⟩ (by simp [bootList]) e.symm)]
  · intro b
    rw [boot_nodes]
    by_cases e : b = 0
    · rw [e]; decide
    · rw [if_neg e]; simp [slotsOf, isBaseN, Ne.symm e]
  · intro b
    rw [boot_thr]
    by_cases e : b = 64
    · rw [e]; rfl
    · rw [if_neg e]; simp [isBaseT, Ne.symm e]
  · intro s c h
    rcases boot_cases h with ⟨rfl, _⟩ | ⟨rfl, _⟩ | ⟨rfl, _⟩ <;> decide
  · intro b x h
    rw [boot_nodes] at h
    split at h
    · rename_i e; cases h; subst e; decide
    · cases h
  · intro s c h
    rcases boot_cases h with ⟨_, rfl⟩ | ⟨_, rfl⟩ | ⟨_, rfl⟩ <;> decide
  · intro s s' b n m b' n' m' z hss h1 h2
    rcases boot_cases h1 with ⟨_, e⟩ | ⟨_, e⟩ | ⟨e1, e⟩ <;> cases e
    rcases boot_cases h2 with ⟨_, e⟩ | ⟨_, e⟩ | ⟨e2, e⟩ <;> cases e
    exact absurd (e1.trans e2.symm) hss
  · intro s b n m z h1 h2 h3
    rcases boot_cases h1 with ⟨_, e⟩ | ⟨_, e⟩ | ⟨e1, e⟩ <;> cases e
    rw [boot_nodes, boot_thr, if_neg (by omega), if_neg (by omega)]
    exact ⟨rfl, rfl⟩
  · intro l hl; simp at hl; subst hl; decide
  · intro l hl; simp at hl; subst hl; decide
  · intro s b n m h1 h2
    rcases boot_cases h1 with ⟨_, e⟩ | ⟨_, e⟩ | ⟨e1, e⟩ <;> cases e
    rw [e1] at h2
    unfold hasKids at h2
    rw [boot_st0] at h2
    simp at h2

end Go.Proofs.YtdpjgflemddekaaGreatDoor

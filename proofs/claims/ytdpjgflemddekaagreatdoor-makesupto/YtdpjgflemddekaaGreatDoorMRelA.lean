/- The relation between the document's lists and the code's kernel; it holds on behind a capability that is laid, and behind one that is moved. Nothing of the program's text. -/
import Derived.Test.YtdpjgflemddekaaGreatDoorMMapA
import Derived.Test.YtdpjgflemddekaaGreatDoorMBaseRet
namespace Go.Proofs.YtdpjgflemddekaaGreatDoor

def KCap.told : KCap → Int × Int × Int × Int × Int × Int
  | .untyped b n m => (1, b, n, 7, 0, m)
  | .node b n r => (2, b, n, r, 0, 0)
  | .endpoint b n r g => (3, b, n, r, g, 0)
  | .task b n r => (4, b, n, r, 0, 0)
  | .frame b n r => (5, b, n, r, 0, 0)

def Ent.told (e : Ent) : Int × Int × Int × Int × Int × Int := (e.ty, e.base, e.bits, e.rights, e.badge, e.mark)

def Thr.thd (t : Thr) : Thd := ⟨t.state, t.root, t.value, t.badge, t.err⟩

/-- The tree of the code's is the order of the document's list. -/
structure TreeRel (L : List Ent) (st : Slot → Option Std) (F : Fo) : Prop where
  nodup : F.slots.Nodup
  top : nowhere ∉ F.slots
  flat : L.map Ent.key = F.flat 0
  stands : F.In st nowhere
  roots : ∃ x, st nowhere = some x ∧ x.kids = F.roots
  only : ∀ s x, st s = some x → s ∈ F.slots ∨ s = nowhere

structure Rel (R : Ref) (K : Ker) : Prop where
  cap : ∀ e ∈ R.L, ∃ c, K.held e.slot = some c ∧ c.told = e.told
  emp : ∀ s, (∀ e ∈ R.L, e.slot ≠ s) → K.held s = none
  tree : ∃ F, TreeRel R.L K.st F
  nodes : ∀ b, (K.nodes b).getD 0 = slotsOf R.N b
  thr : ∀ b, K.thr b = (R.T.find? (isBaseT b)).map Thr.thd

theorem map_key_slot (L : List Ent) : (L.map Ent.key).map Prod.fst = L.map Ent.slot := by simp [Ent.key, Function.comp_def]

theorem TreeRel.slots {L : List Ent} {st : Slot → Option Std} {F : Fo} (h : TreeRel L st F) : F.slots = L.map Ent.slot := by
  rw [← Fo.flat_slots F 0, ← h.flat, map_key_slot]

theorem TreeRel.nd {L : List Ent} {st : Slot → Option Std} {F : Fo} (h : TreeRel L st F) : (L.map Ent.slot).Nodup := h.slots ▸ h.nodup

/-- Where a slot stands in the list, by the flat list around it. -/
theorem split_at {L : List Ent} (hn : (L.map Ent.slot).Nodup) {A B C : List (Slot × Int)} {s : Slot} {u : Int} (h : L.map Ent.key = A ++ (s, u) :: (B ++ C)) {p : Nat} (hp : p < L.length) (hs : L[p].slot = s) :
    A.length = p ∧ L[p].up = u := by
  have hl : A.length < L.length := by have := congrArg List.length h; simp at this; omega
  have h1 : (L.map Ent.key)[A.length]? = some (s, u) := by rw [h]; simp
  have h2 : L[A.length].key = (s, u) := by simpa [hl] using h1
  have h3 : L[A.length].slot = L[p].slot := by rw [hs]; exact congrArg Prod.fst h2
  have h4 : A.length = p := by
    have e1 : (L.map Ent.slot)[A.length]'(by simpa using hl) = (L.map Ent.slot)[p]'(by simpa using hp) := by simpa using h3
    exact (List.getElem_inj hn).1 e1
  subst h4
  exact ⟨rfl, congrArg Prod.snd h2⟩

theorem end_at {L : List Ent} {A B C : List (Slot × Int)} {s : Slot} {u : Int} (h : L.map Ent.key = A ++ (s, u) :: (B ++ C)) (hB : ∀ x ∈ B, u < x.2) (hC : ∀ x ∈ C.head?, x.2 ≤ u) :
    endI L A.length u = A.length + 1 + B.length := by
  unfold endI
  congr 1
  have hd : (L.drop (A.length + 1)).map Ent.key = B ++ C := by
    rw [List.map_drop, h]
    rw [show A ++ (s, u) :: (B ++ C) = (A ++ [(s, u)]) ++ (B ++ C) by simp]
    rw [List.drop_append_of_le_length (by simp)]
    simp
  generalize L.drop (A.length + 1) = D at hd
  clear h
  induction B generalizing D with
  | nil =>
    cases D with
    | nil => rfl
    | cons e D =>
      simp only [List.map_cons, List.nil_append] at hd
      subst hd
      have := hC e.key (by simp)
      simp only [Ent.key] at this
      simp [List.takeWhile_cons, below]
      omega
  | cons b B ih =>
    cases D with
    | nil => simp at hd
    | cons e D =>
      simp only [List.map_cons, List.cons_append, List.cons.injEq] at hd
      have h1 := hB b (by simp)
      rw [← hd.1] at h1
      simp only [Ent.key] at h1
      simp only [List.takeWhile_cons, below, decide_eq_true h1, if_true, List.length_cons]
      rw [ih (fun x hx => hB x (by simp [hx])) D hd.2]

theorem lay_key {L : List Ent} {A B C : List (Slot × Int)} {s : Slot} {u : Int} (h : L.map Ent.key = A ++ (s, u) :: (B ++ C)) (hB : ∀ x ∈ B, u < x.2) (hC : ∀ x ∈ C.head?, x.2 ≤ u) (x : Ent) :
    (layL L A.length u x).map Ent.key = A ++ (s, u) :: (B ++ (x.slot, u + 1) :: C) := by
  unfold layL
  rw [end_at h hB hC, List.map_append, List.map_cons, List.map_take, List.map_drop, h]
  have e1 : A ++ (s, u) :: (B ++ C) = (A ++ (s, u) :: B) ++ C := by simp
  have e2 : A.length + 1 + B.length = (A ++ (s, u) :: B).length := by simp; omega
  rw [e1, e2, List.take_left, List.drop_left]
  simp [Ent.key, Ent.slot]

theorem mem_lay {L : List Ent} {i : Nat} {u : Int} {x y : Ent} : y ∈ layL L i u x ↔ y ∈ L ∨ y = { x with up := u + 1 } := by
  unfold layL
  rw [List.mem_append, List.mem_cons]
  constructor
  · rintro (h | h | h)
    · exact .inl (List.mem_of_mem_take h)
    · exact .inr h
    · exact .inl (List.mem_of_mem_drop h)
  · rintro (h | h)
    · rw [← List.take_append_drop (endI L i u) L, List.mem_append] at h
      rcases h with h | h
      · exact .inl h
      · exact .inr (.inr h)
    · exact .inr (.inl h)

theorem TreeRel.lay {L : List Ent} {st : Slot → Option Std} {F : Fo} (h : TreeRel L st F) {p : Nat} (hp : p < L.length) (x : Ent) (hx : x.slot ∉ F.slots) (hx2 : x.slot ≠ nowhere) :
    TreeRel (layL L p L[p].up x) (addS st x.slot L[p].slot) (F.add L[p].slot x.slot) := by
  have hmem : L[p].slot ∈ F.slots := by rw [h.slots]; exact List.mem_map.2 ⟨_, List.getElem_mem hp, rfl⟩
  obtain ⟨A, B, C, u, e1, hB, hC, _, e2⟩ := Fo.flat_add L[p].slot x.slot F 0 h.nodup hmem
  rw [← h.flat] at e1
  obtain ⟨r1, r2⟩ := split_at h.nd e1 hp rfl
  have hne : L[p].slot ≠ x.slot := fun e => hx (e ▸ hmem)
  have hpn : L[p].slot ≠ nowhere := fun e => h.top (e ▸ hmem)
  refine ⟨Fo.nodup_add _ _ F h.nodup hx, ?_, ?_, ?_, ?_, ?_⟩
  · intro h1
    rcases Fo.slots_add _ _ F _ h1 with h2 | h2
    · exact h.top h2
    · exact hx2 h2.symm
  · rw [e2, r2, ← lay_key e1 hB hC x, r1]
  · refine Fo.In.add (st := st) ?_ ?_ ?_ h.nodup hx h.stands
    · simp only [addS]; rw [upd_other _ _ (Ne.symm hne), upd_same]
    · intro y hy
      refine ⟨⟨y.parent, y.kids ++ [x.slot]⟩, ?_, rfl, rfl⟩
      simp only [addS]; rw [upd_same, upd_other _ _ hne, hy]; rfl
    · intro s h1 h2
      simp only [addS]; rw [upd_other _ _ h1, upd_other _ _ h2]
  · obtain ⟨y, e3, e4⟩ := h.roots
    refine ⟨y, ?_, by rw [Fo.add_roots]; exact e4⟩
    simp only [addS]; rw [upd_other _ _ (Ne.symm hpn), upd_other _ _ (Ne.symm hx2)]; exact e3
  · intro s y hy
    have hsl : ∀ z, z ∈ F.slots ∨ z = x.slot → z ∈ (F.add L[p].slot x.slot).slots := by
      intro z hz
      rw [← Fo.flat_slots _ 0, e2]
      have e3 : F.slots = (A ++ (L[p].slot, u) :: (B ++ C)).map Prod.fst := by rw [← Fo.flat_slots F 0, ← h.flat, e1]
      rw [e3] at hz
      simp only [List.map_append, List.map_cons, List.mem_append, List.mem_cons] at hz ⊢
      rcases hz with (h1 | h1 | h1 | h1) | h1
      · exact .inl h1
      · exact .inr (.inl h1)
      · exact .inr (.inr (.inl h1))
      · exact .inr (.inr (.inr (.inr h1)))
      · exact .inr (.inr (.inr (.inl h1)))
    by_cases h1 : s = L[p].slot
    · exact .inl (hsl s (.inl (h1 ▸ hmem)))
    · by_cases h2 : s = x.slot
      · exact .inl (hsl s (.inr h2))
      · simp only [addS] at hy
        rw [upd_other _ _ h1, upd_other _ _ h2] at hy
        rcases h.only s y hy with h3 | h3
        · exact .inl (hsl s (.inl h3))
        · exact .inr h3

theorem Rel.lay {R : Ref} {K : Ker} (h : Rel R K) {p : Nat} (hp : p < R.L.length) (x : Ent) (hx : ∀ e ∈ R.L, e.slot ≠ x.slot) (hx2 : x.slot ≠ nowhere) (c : KCap) (hc : c.told = x.told) :
    Rel { R with L := layL R.L p R.L[p].up x } (K.lay x.slot c R.L[p].slot) := by
  obtain ⟨F, hF⟩ := h.tree
  have hxF : x.slot ∉ F.slots := by
    rw [hF.slots]; intro h1; obtain ⟨e, he, e1⟩ := List.mem_map.1 h1; exact hx e he e1
  refine ⟨?_, ?_, ⟨_, hF.lay hp x hxF hx2⟩, h.nodes, h.thr⟩
  · intro e he
    rcases mem_lay.1 he with h1 | rfl
    · obtain ⟨c', e1, e2⟩ := h.cap e h1
      exact ⟨c', by simp only [Ker.lay]; rw [upd_other _ _ (hx e h1)]; exact e1, e2⟩
    · exact ⟨c, by simp only [Ker.lay]; exact upd_same _ _ _, hc⟩
  · intro s hs
    simp only [Ker.lay]
    rw [upd_other _ _ (fun e => hs { x with up := R.L[p].up + 1 } (mem_lay.2 (.inr rfl)) e.symm)]
    exact h.emp s (fun e he => hs e (mem_lay.2 (.inl he)))

end Go.Proofs.YtdpjgflemddekaaGreatDoor
/- What the code's functions do to the code's kernel, as plain functions. Nothing of the program's text. -/
namespace Go.Proofs.YtdpjgflemddekaaGreatDoor

def nodesI (K : Ker) (b : Int) : Int := (K.nodes b).getD 0

def okK (K : Ker) (nd x : Int) : Bool := decide (0 ≤ x) && decide (x < nodesI K nd)

def nodeK (K : Ker) (s : Slot) : Option Int :=
  match K.held s with
  | some (.node b _ _) => some b
  | _ => none

def goK (K : Ker) : Int → List Int → Option Slot
  | _, [] => none
  | nd, [x] => if okK K nd x then some ⟨nd, x⟩ else none
  | nd, x :: y :: r => if okK K nd x then (match nodeK K ⟨nd, x⟩ with
    | some nd' => goK K nd' (y :: r)
    | none => none) else none

/-- The rest of an address, from a slot on. -/
def contK (K : Ker) : Slot → List Int → Option Slot
  | s, [] => some s
  | s, y :: r => match nodeK K s with
    | some nd => if okK K nd y then contK K ⟨nd, y⟩ r else none
    | none => none

def findK (K : Ker) (root : Int) (l : List Int) : Option Slot := if l.length < 1 ∨ 3 < l.length then none else goK K root l

def lessC (c : KCap) (r : Int) : KCap :=
  match c with
  | .untyped b n m => .untyped b n m
  | .node b n q => .node b n (andI q r)
  | .endpoint b n q g => .endpoint b n (andI q r) g
  | .task b n q => .task b n (andI q r)
  | .frame b n q => .frame b n (andI q r)

/-- What layChild does: the error, and the kernel behind it; none: the panic. -/
def layChildK (K : Ker) (root : Int) (l : List Int) (k : KCap) (p : Slot) : Option (Int × Ker) :=
  match findK K root l with
  | none => none
  | some s => if (K.held s).isSome then some (4, K) else some (0, K.lay s k p)

def KCap.isU : KCap → Bool
  | .untyped _ _ _ => true
  | _ => false

/-- What Copy does: the error, and the kernel behind it; none: the panic. -/
def copyK (K : Ker) (root : Int) (c : Cl) : Option (Int × Ker) :=
  match findK K root c.at_ with
  | none => none
  | some s => match K.held s with
    | none => some (4, K)
    | some k => if k.isU then some (3, K) else if 0 ≤ c.rights ∧ c.rights ≤ 7 then layChildK K root c.to (lessC k c.rights) s else some (7, K)

def KCap.isE : KCap → Bool
  | .endpoint _ _ _ _ => true
  | _ => false

/-- What Mint does. -/
def mintK (K : Ker) (root : Int) (c : Cl) : Option (Int × Ker) :=
  match findK K root c.at_ with
  | none => none
  | some s => match K.held s with
    | none => some (4, K)
    | some k => match k with
      | .endpoint b n q g => if g ≠ 0 then some (5, K) else if (0 ≤ c.rights ∧ c.rights ≤ 7) ∧ 1 ≤ c.badge ∧ c.badge ≤ 65535 then layChildK K root c.to (lessC (.endpoint b n q c.badge) c.rights) s else some (7, K)
      | _ => some (3, K)

/-- Another parent for those of a list. -/
def setPar (st : Slot → Option Std) (l : List Slot) (b : Slot) : Slot → Option Std := fun s => if s ∈ l then (st s).map (fun y => ⟨b, y.kids⟩) else st s

/-- One slot's name for another's, in the tree. -/
def moveT (st : Slot → Option Std) (a b : Slot) : Slot → Option Std :=
  match st a with
  | none => st
  | some x =>
    let s1 := upd (upd st a none) b (some x)
    let s2 := match s1 x.parent with
      | none => s1
      | some y => upd s1 x.parent (some ⟨y.parent, y.kids.map fun k => if k = a then b else k⟩)
    setPar s2 x.kids b

def Ker.move (K : Ker) (s t : Slot) (k : KCap) : Ker := { K with held := upd (upd K.held s none) t (some k), st := moveT K.st s t }

/-- What Move does. -/
def moveK (K : Ker) (root : Int) (c : Cl) : Option (Int × Ker) :=
  match findK K root c.at_ with
  | none => none
  | some s => match K.held s with
    | none => some (4, K)
    | some k => match findK K root c.to with
      | none => none
      | some t => if (K.held t).isSome then some (4, K) else some (0, K.move s t k)

/-- What the tree is assumed to be like around a slot that holds something. -/
structure TreeOk (K : Ker) : Prop where
  full : ∀ s k, K.held s = some k → ∃ x y, K.st s = some x ∧ K.st x.parent = some y ∧ x.parent ≠ s ∧ s ∈ y.kids ∧ y.kids.Nodup ∧ ∀ c ∈ x.kids, (∃ z, K.st c = some z) ∧ c ≠ s
  empty : ∀ t, K.held t = none → 0 ≤ t.index → K.st t = none

def hasKids (K : Ker) (s : Slot) : Bool := match K.st s with
  | some x => decide (0 < x.kids.length)
  | none => false

/-- The least and the most Bits, as the code's table has them. -/
def leastT : Int → Int
  | 1 => 4
  | 2 => 3
  | 3 => 2
  | 4 => 4
  | 5 => 2
  | _ => 1

def mostT : Int → Int
  | 1 => 10
  | 2 => 6
  | 3 => 2
  | 4 => 4
  | 5 => 6
  | _ => 0

def isObj (ty bits : Int) : Bool := decide (0 ≤ ty ∧ ty < 6) && (decide (leastT ty ≤ bits) && decide (bits ≤ mostT ty))

def slotsFrom (s : Slot) (n : Nat) : List Slot := (List.range n).map fun (i : Nat) => ⟨s.node, s.index + (i : Int)⟩

/-- The row of slots: none: the panic; false: one holds something. -/
def rowK (K : Ker) (root : Int) (l : List Int) (n : Nat) : Option (Slot × Bool) :=
  match findK K root l with
  | none => none
  | some s => if okK K s.node (s.index + n - 1) then some (s, (slotsFrom s n).all fun t => (K.held t).isNone) else none

def madeC (ty b n : Int) : KCap :=
  if ty = 1 then .untyped b n 0 else if ty = 2 then .node b n 7 else if ty = 3 then .endpoint b n 7 0 else if ty = 4 then .task b n 7 else .frame b n 7

/-- An object that was not there before. -/
def Ker.found (K : Ker) (t : Slot) (c : KCap) (p : Slot) (root : Int) : Ker :=
  match c with
  | .node b n _ => Ker.lay { K with nodes := upd K.nodes b (some (pw n.toNat / 4)) } t c p
  | .task b _ _ => Ker.lay { K with thr := upd K.thr b (some ⟨1, root, 0, 0, 0⟩) } t c p
  | _ => K.lay t c p

/-- What has been made behind i objects. -/
def carveTo (K : Ker) (from_ : Slot) (s : Slot) (ty bits root st : Int) : Nat → Ker
  | 0 => K
  | i + 1 => (carveTo K from_ s ty bits root st i).found ⟨s.node, s.index + (i : Int)⟩ (madeC ty (st + i * pw bits.toNat) bits) from_ root

/-- What carving does, from untyped memory (b, n, m): the error, and the kernel. -/
def carveK (K : Ker) (from_ s : Slot) (ty bits root b n m : Int) (cnt : Nat) : Int × Ker :=
  if b + pw n.toNat < upTo (b + m) (pw bits.toNat) + cnt * pw bits.toNat then (6, K)
  else (0, { carveTo K from_ s ty bits root (upTo (b + m) (pw bits.toNat)) cnt with
    held := upd (carveTo K from_ s ty bits root (upTo (b + m) (pw bits.toNat)) cnt).held from_ (some (.untyped b n (upTo (b + m) (pw bits.toNat) + cnt * pw bits.toNat - b))) })

/-- What Retype does. -/
def retypeK (K : Ker) (root : Int) (c : Cl) : Option (Int × Ker) :=
  match findK K root c.at_ with
  | none => none
  | some f => match K.held f with
    | some (.untyped b n m) =>
      if isObj c.ty c.bits = true ∧ 1 ≤ c.count ∧ c.count ≤ 8 then
        match rowK K root c.to c.count.toNat with
        | none => none
        | some (_, false) => some (4, K)
        | some (s, true) => some (carveK K f s c.ty c.bits root b n m c.count.toNat)
      else some (7, K)
    | _ => some (3, K)

/-- What is assumed of the kernel for a Retype. -/
structure RetypeOk (K : Ker) : Prop where
  u : ∀ f b n m, K.held f = some (.untyped b n m) → (0 ≤ b ∧ b ≤ 1024) ∧ (0 ≤ m ∧ m ≤ 1024) ∧ (0 ≤ n ∧ n ≤ 10) ∧ (hasKids K f = false → m = 0)
  kids : ∀ f x, K.st f = some x → x.kids.length ≤ 900000
  slots : ∀ b, nodesI K b ≤ 1000000

def emptyKer : Ker := ⟨fun _ => none, fun _ => none, fun _ => none, fun _ => none, fun _ => 0⟩

def bootK : Ker := ((emptyKer.lay ⟨0, 0⟩ (.untyped 0 10 80) nowhere).found ⟨0, 1⟩ (.node 0 6 7) ⟨0, 0⟩ 0).found ⟨0, 2⟩ (.task 64 4 7) ⟨0, 0⟩ 0

end Go.Proofs.YtdpjgflemddekaaGreatDoor
/- Forests: what stands around a slot; the relation behind a move. Nothing of the program's text. -/
namespace Go.Proofs.YtdpjgflemddekaaGreatDoor

theorem Fo.roots_sublist : ∀ (F : Fo), F.roots.Sublist F.slots
  | .nil => List.Sublist.refl _
  | .node s kids next => by
    simp only [Fo.roots, Fo.slots]
    exact List.Sublist.cons_cons s ((Fo.roots_sublist next).trans (List.sublist_append_right _ _))

theorem Fo.In.roots {st : Slot → Option Std} : ∀ {F : Fo} {p : Slot}, F.In st p → ∀ c ∈ F.roots, ∃ z, st c = some z ∧ z.parent = p
  | .nil, _, _, c, h => by simp [Fo.roots] at h
  | .node s kids next, p, ⟨⟨x, h1, h2, _⟩, _, h5⟩, c, h => by
    simp only [Fo.roots, List.mem_cons] at h
    rcases h with rfl | h
    · exact ⟨x, h1, h2⟩
    · exact h5.roots c h

/-- What stands around a slot. -/
theorem Fo.In.fact {st : Slot → Option Std} : ∀ {F : Fo} {p : Slot}, F.In st p → F.slots.Nodup → ∀ s ∈ F.slots, ∃ x, st s = some x ∧ s ∉ x.kids ∧ x.kids.Nodup ∧ x.kids.length ≤ F.slots.length ∧
    (∀ c ∈ x.kids, c ∈ F.slots ∧ ∃ z, st c = some z ∧ z.parent = s) ∧ ((x.parent = p ∧ s ∈ F.roots) ∨ (x.parent ∈ F.slots ∧ ∃ y, st x.parent = some y ∧ s ∈ y.kids ∧ y.kids.Nodup))
  | .nil, _, _, _, s, h => by simp [Fo.slots] at h
  | .node s0 kids next, p, ⟨⟨x, h1, h2, h3⟩, h4, h5⟩, hn, s, h => by
    simp only [Fo.slots, List.nodup_cons, List.mem_append, not_or, List.nodup_append] at hn
    simp only [Fo.slots, List.mem_cons, List.mem_append, List.length_cons, List.length_append] at h ⊢
    rcases h with rfl | h | h
    · refine ⟨x, h1, ?_, ?_, ?_, ?_, .inl ⟨h2, by simp [Fo.roots]⟩⟩
      · rw [h3]; exact fun h => hn.1.1 (Fo.roots_sub kids s h)
      · rw [h3]; exact (Fo.roots_sublist kids).nodup hn.2.1
      · rw [h3]; have := (Fo.roots_sublist kids).length_le; omega
      · intro c hc; rw [h3] at hc; exact ⟨.inr (.inl (Fo.roots_sub kids c hc)), h4.roots c hc⟩
    · obtain ⟨y, r1, r2, r3, r4, r5, r6⟩ := h4.fact hn.2.1 s h
      refine ⟨y, r1, r2, r3, by omega, fun c hc => ⟨.inr (.inl (r5 c hc).1), (r5 c hc).2⟩, ?_⟩
      rcases r6 with ⟨e1, e2⟩ | ⟨e1, e2⟩
      · exact .inr ⟨.inl e1, x, by rw [e1]; exact h1, by rw [h3]; exact e2, by rw [h3]; exact (Fo.roots_sublist kids).nodup hn.2.1⟩
      · exact .inr ⟨.inr (.inl e1), e2⟩
    · obtain ⟨y, r1, r2, r3, r4, r5, r6⟩ := h5.fact hn.2.2.1 s h
      refine ⟨y, r1, r2, r3, by omega, fun c hc => ⟨.inr (.inr (r5 c hc).1), (r5 c hc).2⟩, ?_⟩
      rcases r6 with ⟨e1, e2⟩ | ⟨e1, e2⟩
      · exact .inl ⟨e1, by simp [Fo.roots, e2]⟩
      · exact .inr ⟨.inr (.inr e1), e2⟩

theorem map_ren_id {a b : Slot} {l : List Slot} (h : a ∉ l) : l.map (fun k => if k = a then b else k) = l := by
  induction l with
  | nil => rfl
  | cons x l ih =>
    simp only [List.mem_cons, not_or] at h
    rw [List.map_cons, ih h.2, if_neg (Ne.symm h.1)]

theorem TreeRel.move {L : List Ent} {st : Slot → Option Std} {F : Fo} (h : TreeRel L st F) {p : Nat} (hp : p < L.length) (n i : Int) (hb : (⟨n, i⟩ : Slot) ∉ F.slots) (hb2 : (⟨n, i⟩ : Slot) ≠ nowhere) :
    TreeRel (L.set p { L[p] with node := n, index := i }) (moveT st L[p].slot ⟨n, i⟩) (F.ren L[p].slot ⟨n, i⟩) := by
  have hmem : L[p].slot ∈ F.slots := by rw [h.slots]; exact List.mem_map.2 ⟨_, List.getElem_mem hp, rfl⟩
  have hflat := h.flat
  have hnd := h.nd
  generalize ha : L[p].slot = a at *
  generalize hbb : (⟨n, i⟩ : Slot) = b at *
  obtain ⟨x, hx, x1, x2, x3, x4, x5⟩ := h.stands.fact h.nodup a hmem
  obtain ⟨rt, hr1, hr2⟩ := h.roots
  have hab : a ≠ b := fun e => hb (e ▸ hmem)
  have han : a ≠ nowhere := fun e => h.top (e ▸ hmem)
  have hpa : x.parent ≠ a := by
    rcases x5 with ⟨e, _⟩ | ⟨_, y, e2, e3, _⟩
    · rw [e]; exact Ne.symm han
    · intro e; rw [e, hx] at e2; cases e2; exact x1 e3
  have hpb : x.parent ≠ b := by
    rcases x5 with ⟨e, _⟩ | ⟨e, _⟩
    · rw [e]; exact Ne.symm hb2
    · intro e2; exact hb (e2 ▸ e)
  have hbk : b ∉ x.kids := fun e => hb (x4 b e).1
  obtain ⟨y, hy, hy2⟩ : ∃ y, st x.parent = some y ∧ a ∈ y.kids := by
    rcases x5 with ⟨e, e2⟩ | ⟨_, y, e2, e3, _⟩
    · exact ⟨rt, by rw [e]; exact hr1, by rw [hr2]; exact e2⟩
    · exact ⟨y, e2, e3⟩
  have hs1p : (upd (upd st a none) b (some x)) x.parent = some y := by rw [upd_other _ _ hpb, upd_other _ _ hpa]; exact hy
  have hmv : moveT st a b = setPar (upd (upd (upd st a none) b (some x)) x.parent (some ⟨y.parent, y.kids.map fun k => if k = a then b else k⟩)) x.kids b := by
    unfold moveT; rw [hx]; simp only [hs1p]
  -- the new stands
  have hstb : moveT st a b b = some x := by
    rw [hmv]; unfold setPar; rw [if_neg hbk, upd_other _ _ (Ne.symm hpb), upd_same]
  have hsta : moveT st a b a = none := by
    rw [hmv]; unfold setPar; rw [if_neg x1, upd_other _ _ (Ne.symm hpa), upd_other _ _ hab, upd_same]
  have hsto : ∀ s, s ≠ a → s ≠ b → ∀ z, st s = some z → moveT st a b s = some ⟨if s ∈ x.kids then b else z.parent, if s = x.parent then z.kids.map (fun k => if k = a then b else k) else z.kids⟩ := by
    intro s h1 h2 z hz
    rw [hmv]; unfold setPar
    by_cases h3 : s = x.parent
    · have hz' : z = y := by rw [h3, hy] at hz; exact (Option.some.inj hz).symm
      subst hz'
      rw [← h3, upd_same]
      by_cases h4 : s ∈ x.kids
      · simp [h4]
      · simp [h4]
    · rw [upd_other _ _ h3, upd_other _ _ h2, upd_other _ _ h1, hz]
      by_cases h4 : s ∈ x.kids
      · simp [h4, h3]
      · simp [h4, h3]
  refine ⟨Fo.nodup_ren a b F h.nodup hb, ?_, ?_, ?_, ?_, ?_⟩
  · rw [Fo.slots_ren]
    intro e
    obtain ⟨s, e1, e2⟩ := List.mem_map.1 e
    by_cases e3 : s = a
    · rw [if_pos e3] at e2; exact hb2 e2
    · rw [if_neg e3] at e2; exact h.top (e2 ▸ e1)
  · rw [Fo.flat_ren, ← hflat, List.map_set]
    apply List.ext_getElem
    · simp
    · intro j h1 h2
      have hj : j < L.length := by simpa using h1
      rw [List.getElem_set]
      by_cases hpj : p = j
      · subst hpj
        rw [if_pos rfl]
        simp only [List.getElem_map, Ent.key]
        rw [if_pos ha]
        exact Prod.ext hbb rfl
      · rw [if_neg hpj]
        simp only [List.getElem_map, Ent.key]
        rw [if_neg ?_]
        intro e
        have e0 : L[j].slot = L[p].slot := e.trans ha.symm
        have e1 : (L.map Ent.slot)[j]'(by simpa using hj) = (L.map Ent.slot)[p]'(by simpa using hp) := by simpa using e0
        exact hpj ((List.getElem_inj hnd).1 e1).symm
  · have hin := Fo.In.ren (st := st) (st' := moveT st a b) (a := a) (b := b) (F := F) (q := nowhere) ?_ h.stands
    · rw [if_neg (Ne.symm han)] at hin; exact hin
    · intro s hs z hz
      by_cases h1 : s = a
      · subst h1
        rw [hx] at hz; cases hz
        rw [if_pos rfl]
        exact ⟨x, hstb, by rw [if_neg hpa], by rw [map_ren_id x1]⟩
      · rw [if_neg h1]
        have h2 : s ≠ b := fun e => hb (e ▸ hs)
        refine ⟨_, hsto s h1 h2 z hz, ?_, ?_⟩
        · obtain ⟨z', e1, _, _, _, _, e5⟩ := h.stands.fact h.nodup s hs
          rw [hz] at e1; cases e1
          by_cases h3 : s ∈ x.kids
          · obtain ⟨_, z2, e6, e7⟩ := x4 s h3
            rw [hz] at e6; cases e6
            rw [if_pos h3, if_pos e7]
          · have hne : ¬ z.parent = a := by
              intro e
              rcases e5 with ⟨e6, _⟩ | ⟨_, y2, e6, e7, _⟩
              · exact han (e ▸ e6)
              · rw [e, hx] at e6; cases e6; exact h3 e7
            simp only [if_neg h3, if_neg hne]
        · by_cases h3 : s = x.parent
          · rw [if_pos h3]
          · rw [if_neg h3, map_ren_id ?_]
            intro e
            obtain ⟨z', e1, _, _, _, e4, _⟩ := h.stands.fact h.nodup s hs
            rw [hz] at e1; cases e1
            obtain ⟨_, z2, e6, e7⟩ := e4 a e
            rw [hx] at e6; cases e6
            exact h3 e7.symm
  · have hnk : nowhere ∉ x.kids := fun e => h.top (x4 _ e).1
    refine ⟨_, hsto nowhere (Ne.symm han) (Ne.symm hb2) rt hr1, ?_⟩
    rw [Fo.roots_ren]
    by_cases h3 : nowhere = x.parent
    · simp only [if_pos h3, hr2]
    · simp only [if_neg h3]
      rw [map_ren_id ?_, hr2]
      intro e
      obtain ⟨z, e1, e2⟩ := h.stands.roots a e
      rw [hx] at e1; cases e1
      exact h3 e2.symm
  · intro s z hz
    have h1 : s ≠ a := fun e => by rw [e, hsta] at hz; cases hz
    rw [Fo.slots_ren]
    by_cases h2 : s = b
    · exact .inl (List.mem_map.2 ⟨a, hmem, by rw [if_pos rfl, h2]⟩)
    · have h3 : ∃ z', st s = some z' := by
        rw [hmv] at hz; unfold setPar at hz
        by_cases h4 : s = x.parent
        · exact ⟨y, by rw [h4]; exact hy⟩
        · rw [upd_other _ _ h4, upd_other _ _ h2, upd_other _ _ h1] at hz
          cases hst : st s with
          | none => rw [hst] at hz; split at hz <;> simp at hz
          | some z' => exact ⟨z', rfl⟩
      obtain ⟨z', h3⟩ := h3
      rcases h.only s z' h3 with h4 | h4
      · exact .inl (List.mem_map.2 ⟨s, h4, by rw [if_neg h1]⟩)
      · exact .inr h4

end Go.Proofs.YtdpjgflemddekaaGreatDoor
/- The two kernels agree: what a slot holds, where an address leads; what is always so. Nothing of the program's text. -/
namespace Go.Proofs.YtdpjgflemddekaaGreatDoor

def KCap.base : KCap → Int
  | .untyped b _ _ => b
  | .node b _ _ => b
  | .endpoint b _ _ _ => b
  | .task b _ _ => b
  | .frame b _ _ => b

def KCap.bits : KCap → Int
  | .untyped _ n _ => n
  | .node _ n _ => n
  | .endpoint _ n _ _ => n
  | .task _ n _ => n
  | .frame _ n _ => n

def KCap.mark : KCap → Int
  | .untyped _ _ m => m
  | _ => 0

theorem told_base {c : KCap} {e : Ent} (h : c.told = e.told) : c.base = e.base ∧ c.bits = e.bits ∧ c.mark = e.mark := by
  cases c <;> simp only [KCap.told, Ent.told, Prod.mk.injEq] at h <;> obtain ⟨_, h1, h2, _, _, h3⟩ := h <;> exact ⟨h1, h2, h3⟩

theorem isAt_iff {n i : Int} {e : Ent} : isAt n i e = true ↔ e.slot = ⟨n, i⟩ := by
  simp [isAt, Ent.slot]

theorem Rel.none_iff {R : Ref} {K : Ker} (h : Rel R K) (n i : Int) : K.held ⟨n, i⟩ = none ↔ R.L.find? (isAt n i) = none := by
  rw [List.find?_eq_none]
  constructor
  · intro h1 e he h2
    obtain ⟨c, e1, _⟩ := h.cap e he
    rw [isAt_iff.1 h2, h1] at e1
    cases e1
  · intro h1
    exact h.emp _ (fun e he h2 => h1 e he (isAt_iff.2 h2))

theorem Rel.some_of {R : Ref} {K : Ker} (h : Rel R K) {n i : Int} {e : Ent} (he : R.L.find? (isAt n i) = some e) : ∃ c, K.held ⟨n, i⟩ = some c ∧ c.told = e.told := by
  obtain ⟨c, e1, e2⟩ := h.cap e (List.mem_of_find?_eq_some he)
  have := List.find?_some he
  rw [isAt_iff.1 this] at e1
  exact ⟨c, e1, e2⟩

theorem Rel.isSome {R : Ref} {K : Ker} (h : Rel R K) (n i : Int) : (K.held ⟨n, i⟩).isSome = (R.L.find? (isAt n i)).isSome := by
  cases hf : R.L.find? (isAt n i) with
  | none => rw [(h.none_iff n i).2 hf]; rfl
  | some e => obtain ⟨c, e1, _⟩ := h.some_of hf; rw [e1]; rfl

theorem Rel.node {R : Ref} {K : Ker} (h : Rel R K) (n i : Int) : nodeK K ⟨n, i⟩ = nodeIn R.L n i := by
  unfold nodeK nodeIn
  cases hf : R.L.find? (isAt n i) with
  | none => rw [(h.none_iff n i).2 hf]
  | some e =>
    obtain ⟨c, e1, e2⟩ := h.some_of hf
    rw [e1]
    cases c <;> simp only [KCap.told, Ent.told, Prod.mk.injEq] at e2 <;> obtain ⟨a1, a2, _⟩ := e2 <;> simp [← a1, a2]

theorem Rel.ok {R : Ref} {K : Ker} (h : Rel R K) (n x : Int) : okK K n x = okIx R.N n x := by
  unfold okK okIx nodesI; rw [h.nodes]

def toSlot (p : Int × Int) : Slot := ⟨p.1, p.2⟩

theorem Rel.go {R : Ref} {K : Ker} (h : Rel R K) : ∀ (l : List Int) (nd : Int), goK K nd l = (goF R.L R.N nd l).map toSlot
  | [], nd => rfl
  | [x], nd => by
    simp only [goK, goF]; rw [h.ok]; split <;> rfl
  | x :: y :: r, nd => by
    simp only [goK, goF]; rw [h.ok, h.node]
    split
    · cases nodeIn R.L nd x with
      | none => rfl
      | some nd' => exact h.go (y :: r) nd'
    · rfl

theorem Rel.find {R : Ref} {K : Ker} (h : Rel R K) (root : Int) (l : List Int) : findK K root l = (findI R.L R.N root l).map toSlot := by
  unfold findK findI
  split
  · rfl
  · exact h.go l root

/-- What is always so of the two kernels, within a Retype too. -/
structure Core (R : Ref) (K : Ker) : Prop where
  rel : Rel R K
  inN : ∀ s c, K.held s = some c → 0 ≤ s.index ∧ s.index < nodesI K s.node
  nod : ∀ b x, K.nodes b = some x → 0 ≤ b ∧ b < 1024 ∧ x ≤ 16
  cap : ∀ s c, K.held s = some c → 0 ≤ c.base ∧ 0 ≤ c.bits ∧ c.bits ≤ 10 ∧ c.base + pw c.bits.toNat ≤ 1024 ∧ 0 ≤ c.mark ∧ c.mark ≤ pw c.bits.toNat
  uu : ∀ s s' b n m b' n' m' z, s ≠ s' → K.held s = some (.untyped b n m) → K.held s' = some (.untyped b' n' m') → b + m ≤ z → z < b + pw n.toNat → b' + m' ≤ z → b' + pw n'.toNat ≤ z
  un : ∀ s b n m z, K.held s = some (.untyped b n m) → b + m ≤ z → z < b + pw n.toNat → K.nodes z = none ∧ K.thr z = none
  nd : (R.N.map Liv.base).Nodup
  td : (R.T.map Thr.base).Nodup
  nb : ∀ l ∈ R.N, 0 ≤ l.base ∧ l.base < 1024 ∧ 0 ≤ l.bits ∧ l.bits ≤ 6
  tb : ∀ t ∈ R.T, 0 ≤ t.base ∧ t.base < 1024
  n0 : 0 < R.N.length
  t0 : 0 < R.T.length
  ws : ∀ i, K.ws i = 0

/-- What is always so of the two kernels. -/
structure Inv (R : Ref) (K : Ker) : Prop extends Core R K where
  kid : ∀ s b n m, K.held s = some (.untyped b n m) → hasKids K s = false → m = 0

/-- So many at most of numbers that are all apart and below a bound. -/
theorem nodup_le : ∀ (n : Nat) (l : List Nat), l.Nodup → (∀ x ∈ l, x < n) → l.length ≤ n
  | 0, l, _, h => by
    cases l with
    | nil => simp
    | cons a l => exact absurd (h a (by simp)) (by omega)
  | n + 1, l, hn, h => by
    have h1 := nodup_le n (l.erase n) (hn.erase n) (fun x hx => by
      have h2 := h x (List.mem_of_mem_erase hx)
      have h3 : x ≠ n := fun e => by subst e; exact (List.Nodup.not_mem_erase hn) hx
      omega)
    have h4 : l.length ≤ (l.erase n).length + 1 := by
      rw [List.length_erase]; split <;> omega
    omega

theorem nodup_map_le {α : Type} (f : α → Nat) (n : Nat) (l : List α) (hl : l.Nodup) (hf : ∀ a ∈ l, ∀ b ∈ l, f a = f b → a = b) (hb : ∀ a ∈ l, f a < n) : l.length ≤ n := by
  have h1 : (l.map f).Nodup := by
    rw [List.nodup_iff_pairwise_ne, List.pairwise_map]
    have := List.nodup_iff_pairwise_ne.1 hl
    rw [List.pairwise_iff_forall_sublist] at this ⊢
    intro a b hab e
    have ha : a ∈ l := hab.subset (by simp)
    have hb' : b ∈ l := hab.subset (by simp)
    exact this hab (hf a ha b hb' e)
  have h2 := nodup_le n (l.map f) h1 (fun x hx => by obtain ⟨a, ha, rfl⟩ := List.mem_map.1 hx; exact hb a ha)
  simpa using h2

theorem nodesI_le {R : Ref} {K : Ker} (h : Core R K) (b : Int) : nodesI K b ≤ 16 := by
  unfold nodesI
  cases hb : K.nodes b with
  | none => simp
  | some x => have := (h.nod b x hb).2.2; simpa using this

theorem nodesI_pos {R : Ref} {K : Ker} (h : Core R K) {b : Int} (hp : 0 < nodesI K b) : 0 ≤ b ∧ b < 1024 := by
  unfold nodesI at hp
  cases hb : K.nodes b with
  | none => rw [hb] at hp; simp at hp
  | some x => have := h.nod b x hb; exact ⟨this.1, this.2.1⟩

theorem Core.slot {R : Ref} {K : Ker} (h : Core R K) {s : Slot} {c : KCap} (hs : K.held s = some c) : 0 ≤ s.node ∧ s.node < 1024 ∧ 0 ≤ s.index ∧ s.index < 16 := by
  obtain ⟨h1, h2⟩ := h.inN s c hs
  have h3 := nodesI_pos h (b := s.node) (by omega)
  have h4 := nodesI_le h s.node
  exact ⟨h3.1, h3.2, h1, by omega⟩

theorem Core.len {R : Ref} {K : Ker} (h : Core R K) : R.L.length ≤ 16384 := by
  obtain ⟨F, hF⟩ := h.rel.tree
  have hb : ∀ s ∈ R.L.map Ent.slot, 0 ≤ s.node ∧ s.node < 1024 ∧ 0 ≤ s.index ∧ s.index < 16 := by
    intro s hs
    obtain ⟨e, he, rfl⟩ := List.mem_map.1 hs
    obtain ⟨c, hc, _⟩ := h.rel.cap e he
    exact h.slot hc
  have := nodup_map_le (fun s : Slot => s.node.toNat * 16 + s.index.toNat) 16384 (R.L.map Ent.slot) hF.nd (fun a ha b hb' e => by
    obtain ⟨a1, a2, a3, a4⟩ := hb a ha
    obtain ⟨b1, b2, b3, b4⟩ := hb b hb'
    try dsimp only at e
    cases a; cases b
    dsimp only at *
    congr 1 <;> omega) (fun a ha => by
    obtain ⟨a1, a2, a3, a4⟩ := hb a ha
    try dsimp only
    omega)
  simpa using this

theorem Core.lenN {R : Ref} {K : Ker} (h : Core R K) : R.N.length ≤ 1024 := by
  have := nodup_map_le (fun b : Int => b.toNat) 1024 (R.N.map Liv.base) h.nd (fun a ha b hb e => by
    obtain ⟨l, hl, rfl⟩ := List.mem_map.1 ha
    obtain ⟨l', hl', rfl⟩ := List.mem_map.1 hb
    have := h.nb l hl; have := h.nb l' hl'
    try dsimp only at e
    omega) (fun a ha => by
    obtain ⟨l, hl, rfl⟩ := List.mem_map.1 ha
    have := h.nb l hl
    try dsimp only
    omega)
  simpa using this

theorem Core.lenT {R : Ref} {K : Ker} (h : Core R K) : R.T.length ≤ 1024 := by
  have := nodup_map_le (fun b : Int => b.toNat) 1024 (R.T.map Thr.base) h.td (fun a ha b hb e => by
    obtain ⟨l, hl, rfl⟩ := List.mem_map.1 ha
    obtain ⟨l', hl', rfl⟩ := List.mem_map.1 hb
    have := h.tb l hl; have := h.tb l' hl'
    try dsimp only at e
    omega) (fun a ha => by
    obtain ⟨l, hl, rfl⟩ := List.mem_map.1 ha
    have := h.tb l hl
    try dsimp only
    omega)
  simpa using this

theorem flat_lt : ∀ (F : Fo) (d : Int), ∀ x ∈ F.flat d, x.2 < d + F.slots.length
  | .nil, _, x, h => by simp [Fo.flat] at h
  | .node s kids next, d, x, h => by
    simp only [Fo.flat, List.mem_cons, List.mem_append] at h
    simp only [Fo.slots, List.length_cons, List.length_append]
    rcases h with rfl | h | h
    · dsimp only; omega
    · have := flat_lt kids (d + 1) x h; omega
    · have := flat_lt next d x h; omega

theorem Core.up {R : Ref} {K : Ker} (h : Core R K) (i : Nat) (hi : i < R.L.length) : 0 ≤ R.L[i].up ∧ R.L[i].up ≤ 16384 := by
  obtain ⟨F, hF⟩ := h.rel.tree
  have hm : R.L[i].key ∈ F.flat 0 := by rw [← hF.flat]; exact List.mem_map.2 ⟨_, List.getElem_mem hi, rfl⟩
  have h1 := Fo.flat_ge F 0 _ hm
  have h2 := flat_lt F 0 _ hm
  have h3 : F.slots.length = R.L.length := by rw [hF.slots]; simp
  have h4 := h.len
  simp only [Ent.key] at h1 h2
  omega

/-- The kids of a slot are not more than the entries. -/
theorem Core.kids {R : Ref} {K : Ker} (h : Core R K) {s : Slot} {x : Std} (hx : K.st s = some x) : x.kids.length ≤ 16384 := by
  obtain ⟨F, hF⟩ := h.rel.tree
  have h3 : F.slots.length = R.L.length := by rw [hF.slots]; simp
  have h4 := h.len
  rcases hF.only s x hx with h1 | h1
  · obtain ⟨y, e1, _, _, e4, _⟩ := hF.stands.fact hF.nodup s h1
    rw [hx] at e1; cases e1
    omega
  · obtain ⟨y, e1, e2⟩ := hF.roots
    rw [← h1, hx] at e1; cases e1
    rw [e2]
    have := (Fo.roots_sublist F).length_le
    omega

theorem mem_slots {R : Ref} {K : Ker} {F : Fo} (h : Rel R K) (hF : TreeRel R.L K.st F) {s : Slot} : s ∈ F.slots ↔ ∃ c, K.held s = some c := by
  rw [hF.slots]
  constructor
  · intro h1
    obtain ⟨e, he, rfl⟩ := List.mem_map.1 h1
    obtain ⟨c, hc, _⟩ := h.cap e he
    exact ⟨c, hc⟩
  · rintro ⟨c, hc⟩
    by_cases hex : ∃ e ∈ R.L, e.slot = s
    · obtain ⟨e, he, e1⟩ := hex
      exact List.mem_map.2 ⟨e, he, e1⟩
    · rw [h.emp s (fun e he e1 => hex ⟨e, he, e1⟩)] at hc
      cases hc

theorem Rel.treeOk {R : Ref} {K : Ker} (h : Rel R K) : TreeOk K := by
  obtain ⟨F, hF⟩ := h.tree
  refine ⟨?_, ?_⟩
  · intro s k hk
    have hs := (mem_slots h hF).2 ⟨k, hk⟩
    obtain ⟨x, e1, e2, e3, e4, e5, e6⟩ := hF.stands.fact hF.nodup s hs
    obtain ⟨rt, r1, r2⟩ := hF.roots
    have hy : ∃ y, K.st x.parent = some y ∧ s ∈ y.kids ∧ y.kids.Nodup := by
      rcases e6 with ⟨e, e7⟩ | ⟨_, y, e7, e8, e9⟩
      · exact ⟨rt, by rw [e]; exact r1, by rw [r2]; exact e7, by rw [r2]; exact (Fo.roots_sublist F).nodup hF.nodup⟩
      · exact ⟨y, e7, e8, e9⟩
    obtain ⟨y, y1, y2, y3⟩ := hy
    refine ⟨x, y, e1, y1, ?_, y2, y3, fun c hc => ⟨?_, fun e => e2 (e ▸ hc)⟩⟩
    · intro e; rw [e, e1] at y1; cases y1; exact e2 y2
    · obtain ⟨_, z, hz, _⟩ := e5 c hc; exact ⟨z, hz⟩
  · intro t ht hi
    cases hst : K.st t with
    | none => rfl
    | some x =>
      rcases hF.only t x hst with h1 | h1
      · obtain ⟨c, hc⟩ := (mem_slots h hF).1 h1
        rw [ht] at hc; cases hc
      · rw [h1] at hi; simp [nowhere] at hi

theorem Inv.retypeOk {R : Ref} {K : Ker} (h : Inv R K) : RetypeOk K := by
  refine ⟨?_, ?_, ?_⟩
  · intro f b n m hf
    obtain ⟨h1, h2, h3, h4, h5, h6⟩ := h.cap f _ hf
    simp only [KCap.base, KCap.bits, KCap.mark] at h1 h2 h3 h4 h5 h6
    have := pw_pos n.toNat
    exact ⟨⟨h1, by omega⟩, ⟨h5, by omega⟩, ⟨h2, h3⟩, h.kid f b n m hf⟩
  · intro f x hx; have := h.kids hx; omega
  · intro b; have := nodesI_le h.toCore b; omega

theorem Core.refOk {R : Ref} {K : Ker} (h : Core R K) : R.L.length ≤ 900000 ∧ R.N.length ≤ 900000 ∧ R.T.length ≤ 900000 ∧ (∀ l ∈ R.N, 0 ≤ l.bits ∧ l.bits ≤ 20) ∧ (∀ i (hi : i < R.L.length), 0 ≤ R.L[i].up ∧ R.L[i].up ≤ 900000) := by
  refine ⟨by have := h.len; omega, by have := h.lenN; omega, by have := h.lenT; omega, fun l hl => ?_, fun i hi => ?_⟩
  · have := h.nb l hl; omega
  · have := h.up i hi; omega

/-- A slot, what is below it, and its kids. -/
theorem Fo.In.split {st : Slot → Option Std} : ∀ {F : Fo} {d : Int} {p : Slot}, F.In st p → ∀ s ∈ F.slots, ∃ A B C u x, F.flat d = A ++ (s, u) :: (B ++ C) ∧ (∀ y ∈ B, u < y.2) ∧ (∀ y ∈ C.head?, y.2 ≤ u) ∧ d ≤ u ∧ st s = some x ∧ (B = [] → x.kids = [])
  | .nil, _, _, _, s, h => by simp [Fo.slots] at h
  | .node s0 kids next, d, p, ⟨⟨x, h1, h2, h3⟩, h4, h5⟩, s, h => by
    simp only [Fo.slots, List.mem_cons, List.mem_append] at h
    rcases h with rfl | h | h
    · refine ⟨[], kids.flat (d + 1), next.flat d, d, x, by simp [Fo.flat], fun y hy => by have := Fo.flat_ge kids (d + 1) y hy; omega, fun y hy => by rw [Fo.flat_head next d y hy]; omega, Int.le_refl _, h1, ?_⟩
      intro hB
      rw [h3]
      cases kids with
      | nil => rfl
      | node _ _ _ => simp [Fo.flat] at hB
    · obtain ⟨A, B, C, u, y, e1, hB, hC, hd, e2, e3⟩ := h4.split (d := d + 1) s h
      refine ⟨(s0, d) :: A, B, C ++ next.flat d, u, y, by simp [Fo.flat, e1], hB, ?_, by omega, e2, e3⟩
      intro z hz
      cases C with
      | nil => simp at hz; have := Fo.flat_head next d z hz; omega
      | cons c C => exact hC z (by simpa using hz)
    · obtain ⟨A, B, C, u, y, e1, hB, hC, hd, e2, e3⟩ := h5.split (d := d) s h
      exact ⟨(s0, d) :: (kids.flat (d + 1) ++ A), B, C, u, y, by simp [Fo.flat, e1], hB, hC, hd, e2, e3⟩

theorem Rel.noKids {R : Ref} {K : Ker} (h : Rel R K) (i : Nat) (hi : i < R.L.length) (he : endI R.L i R.L[i].up = i + 1) : hasKids K R.L[i].slot = false := by
  obtain ⟨F, hF⟩ := h.tree
  have hs : R.L[i].slot ∈ F.slots := by rw [hF.slots]; exact List.mem_map.2 ⟨_, List.getElem_mem hi, rfl⟩
  obtain ⟨A, B, C, u, x, e1, hB, hC, _, e2, e3⟩ := hF.stands.split (d := 0) _ hs
  rw [← hF.flat] at e1
  obtain ⟨r1, r2⟩ := split_at hF.nd e1 hi rfl
  have r3 := end_at e1 hB hC
  rw [r1, ← r2, he] at r3
  have hB0 : B = [] := List.length_eq_zero_iff.1 (by omega)
  unfold hasKids
  rw [e2]
  simp [e3 hB0]

theorem Inv.entOk {R : Ref} {K : Ker} (h : Inv R K) (i : Nat) (hi : i < R.L.length) : 0 ≤ R.L[i].mark ∧ R.L[i].mark ≤ 1024 ∧ 0 ≤ R.L[i].base ∧ R.L[i].base ≤ 1024 ∧ R.L[i].bits ≤ 20 ∧ (endI R.L i R.L[i].up = i + 1 → R.L[i].mark = 0) := by
  obtain ⟨c, hc, ht⟩ := h.rel.cap _ (List.getElem_mem hi)
  obtain ⟨t1, t2, t3⟩ := told_base ht
  obtain ⟨h1, h2, h3, h4, h5, h6⟩ := h.cap _ c hc
  rw [← t1, ← t2, ← t3]
  have := pw_pos c.bits.toNat
  refine ⟨h5, by omega, h1, by omega, by omega, ?_⟩
  intro he
  have hk := h.rel.noKids i hi he
  cases c with
  | untyped b n m => exact h.kid _ b n m hc hk
  | _ => rfl

end Go.Proofs.YtdpjgflemddekaaGreatDoor
/- What is always so stays so: behind a copy, a move, a new object. Nothing of the program's text. -/
namespace Go.Proofs.YtdpjgflemddekaaGreatDoor

theorem addS_other {st : Slot → Option Std} {t p s : Slot} (h1 : s ≠ p) (h2 : s ≠ t) : addS st t p s = st s := by
  simp only [addS]; rw [upd_other _ _ h1, upd_other _ _ h2]

theorem addS_parent (st : Slot → Option Std) (t p : Slot) : ∃ x, addS st t p p = some x ∧ t ∈ x.kids := by
  simp only [addS]; rw [upd_same]; exact ⟨_, rfl, by simp⟩

theorem hasKids_parent (K : Ker) (t : Slot) (c : KCap) (p : Slot) : hasKids (K.lay t c p) p = true := by
  obtain ⟨x, h1, h2⟩ := addS_parent K.st t p
  have h1' : (K.lay t c p).st p = some x := h1
  unfold hasKids
  rw [h1']
  have : x.kids ≠ [] := fun e => by rw [e] at h2; cases h2
  have := List.length_pos_iff.2 this
  simpa using this

theorem hasKids_other (K : Ker) {t p s : Slot} (c : KCap) (h1 : s ≠ p) (h2 : s ≠ t) : hasKids (K.lay t c p) s = hasKids K s := by
  have h3 : (K.lay t c p).st s = K.st s := addS_other h1 h2
  unfold hasKids; rw [h3]

theorem hasKids_new (K : Ker) {t p : Slot} (c : KCap) (h : t ≠ p) : hasKids (K.lay t c p) t = false := by
  unfold hasKids Ker.lay; simp only [addS]; rw [upd_other _ _ h, upd_same]; rfl

/-- Memory that nobody has. -/
structure Free (K : Ker) (a z : Int) : Prop where
  u : ∀ s b n m y, K.held s = some (.untyped b n m) → a ≤ y → y < a + z → b + m ≤ y → b + pw n.toNat ≤ y
  n : ∀ y, a ≤ y → y < a + z → K.nodes y = none ∧ K.thr y = none

theorem slot_ne_nowhere {s : Slot} (h : 0 ≤ s.index) : s ≠ nowhere := fun e => by rw [e] at h; simp [nowhere] at h

/-- A capability laid into an empty slot of a node. -/
theorem Core.lay {R : Ref} {K : Ker} (h : Core R K) {p : Nat} (hp : p < R.L.length) (x : Ent) (c : KCap) (hc : c.told = x.told) (hx : K.held x.slot = none) (hi : 0 ≤ x.slot.index ∧ x.slot.index < nodesI K x.slot.node)
    (hcap : 0 ≤ c.base ∧ 0 ≤ c.bits ∧ c.bits ≤ 10 ∧ c.base + pw c.bits.toNat ≤ 1024 ∧ 0 ≤ c.mark ∧ c.mark ≤ pw c.bits.toNat)
    (hu : ∀ b n m, c = .untyped b n m → Free K (b + m) (pw n.toNat - m)) :
    Core { R with L := layL R.L p R.L[p].up x } (K.lay x.slot c R.L[p].slot) := by
  have hne : ∀ e ∈ R.L, e.slot ≠ x.slot := fun e he e1 => by
    obtain ⟨c', h1, _⟩ := h.rel.cap e he
    rw [e1, hx] at h1; cases h1
  have hh : (K.lay x.slot c R.L[p].slot).held = upd K.held x.slot (some c) := rfl
  refine ⟨h.rel.lay hp x hne (slot_ne_nowhere hi.1) c hc, ?_, h.nod, ?_, ?_, ?_, h.nd, h.td, h.nb, h.tb, h.n0, h.t0, h.ws⟩
  · intro s c' hs
    rw [hh] at hs
    by_cases e : s = x.slot
    · subst e; exact hi
    · rw [upd_other _ _ e] at hs; exact h.inN s c' hs
  · intro s c' hs
    rw [hh] at hs
    by_cases e : s = x.slot
    · subst e; rw [upd_same] at hs; cases hs; exact hcap
    · rw [upd_other _ _ e] at hs; exact h.cap s c' hs
  · intro s s' b n m b' n' m' z hss hs hs' h1 h2 h3
    rw [hh] at hs hs'
    by_cases e : s = x.slot
    · subst e
      rw [upd_same] at hs
      rw [upd_other _ _ (Ne.symm hss)] at hs'
      have hF := hu b n m (Option.some.inj hs)
      exact hF.u s' b' n' m' z hs' h1 (by omega) h3
    · rw [upd_other _ _ e] at hs
      by_cases e' : s' = x.slot
      · subst e'
        rw [upd_same] at hs'
        have hF := hu b' n' m' (Option.some.inj hs')
        apply Decidable.byContradiction
        intro hlt
        have := hF.u s b n m z hs h3 (by omega) h1
        omega
      · rw [upd_other _ _ e'] at hs'
        exact h.uu s s' b n m b' n' m' z hss hs hs' h1 h2 h3
  · intro s b n m z hs h1 h2
    rw [hh] at hs
    by_cases e : s = x.slot
    · subst e
      rw [upd_same] at hs
      have hF := hu b n m (Option.some.inj hs)
      exact hF.n z h1 (by omega)
    · rw [upd_other _ _ e] at hs
      exact h.un s b n m z hs h1 h2

/-- Behind a copy. -/
theorem Inv.lay {R : Ref} {K : Ker} (h : Inv R K) {p : Nat} (hp : p < R.L.length) (x : Ent) (c : KCap) (hc : c.told = x.told) (hx : K.held x.slot = none) (hi : 0 ≤ x.slot.index ∧ x.slot.index < nodesI K x.slot.node)
    (hcap : 0 ≤ c.base ∧ 0 ≤ c.bits ∧ c.bits ≤ 10 ∧ c.base + pw c.bits.toNat ≤ 1024 ∧ 0 ≤ c.mark ∧ c.mark ≤ pw c.bits.toNat) (hu : ∀ b n m, c ≠ .untyped b n m) :
    Inv { R with L := layL R.L p R.L[p].up x } (K.lay x.slot c R.L[p].slot) := by
  refine ⟨h.toCore.lay hp x c hc hx hi hcap (fun b n m e => absurd e (hu b n m)), ?_⟩
  intro s b n m hs hk
  have hh : (K.lay x.slot c R.L[p].slot).held = upd K.held x.slot (some c) := rfl
  rw [hh] at hs
  by_cases e : s = x.slot
  · subst e; rw [upd_same] at hs; exact absurd (Option.some.inj hs) (hu b n m)
  · rw [upd_other _ _ e] at hs
    by_cases e2 : s = R.L[p].slot
    · rw [e2, hasKids_parent] at hk; cases hk
    · rw [hasKids_other K c e2 e] at hk
      exact h.kid s b n m hs hk

/-- A slot's stand behind a move, as far as it matters. -/
theorem TreeRel.moved {L : List Ent} {st : Slot → Option Std} {F : Fo} (h : TreeRel L st F) {a b : Slot} (hmem : a ∈ F.slots) (hb : b ∉ F.slots) (hb2 : b ≠ nowhere) :
    moveT st a b b = st a ∧ ∀ s, s ≠ a → s ≠ b → (moveT st a b s).map (fun x => x.kids.length) = (st s).map (fun x => x.kids.length) := by
  obtain ⟨x, hx, x1, x2, x3, x4, x5⟩ := h.stands.fact h.nodup a hmem
  obtain ⟨rt, hr1, hr2⟩ := h.roots
  have hab : a ≠ b := fun e => hb (e ▸ hmem)
  have han : a ≠ nowhere := fun e => h.top (e ▸ hmem)
  have hpa : x.parent ≠ a := by
    rcases x5 with ⟨e, _⟩ | ⟨_, y, e2, e3, _⟩
    · rw [e]; exact Ne.symm han
    · intro e; rw [e, hx] at e2; cases e2; exact x1 e3
  have hpb : x.parent ≠ b := by
    rcases x5 with ⟨e, _⟩ | ⟨e, _⟩
    · rw [e]; exact Ne.symm hb2
    · intro e2; exact hb (e2 ▸ e)
  have hbk : b ∉ x.kids := fun e => hb (x4 b e).1
  obtain ⟨y, hy, hy2⟩ : ∃ y, st x.parent = some y ∧ a ∈ y.kids := by
    rcases x5 with ⟨e, e2⟩ | ⟨_, y, e2, e3, _⟩
    · exact ⟨rt, by rw [e]; exact hr1, by rw [hr2]; exact e2⟩
    · exact ⟨y, e2, e3⟩
  have hs1p : (upd (upd st a none) b (some x)) x.parent = some y := by rw [upd_other _ _ hpb, upd_other _ _ hpa]; exact hy
  have hmv : moveT st a b = setPar (upd (upd (upd st a none) b (some x)) x.parent (some ⟨y.parent, y.kids.map fun k => if k = a then b else k⟩)) x.kids b := by
    unfold moveT; rw [hx]; simp only [hs1p]
  refine ⟨?_, ?_⟩
  · rw [hmv, hx]; unfold setPar; rw [if_neg hbk, upd_other _ _ (Ne.symm hpb), upd_same]
  · intro s h1 h2
    rw [hmv]; unfold setPar
    by_cases h3 : s = x.parent
    · rw [h3, upd_same, hy]
      by_cases h4 : x.parent ∈ x.kids
      · simp [h4]
      · simp [h4]
    · rw [upd_other _ _ h3, upd_other _ _ h2, upd_other _ _ h1]
      by_cases h4 : s ∈ x.kids
      · cases st s <;> simp [h4]
      · simp [h4]

theorem hasKids_eq {K K' : Ker} {s s' : Slot} (h : (K'.st s').map (fun x => x.kids.length) = (K.st s).map (fun x => x.kids.length)) : hasKids K' s' = hasKids K s := by
  unfold hasKids
  cases h1 : K'.st s' with
  | none =>
    cases h2 : K.st s with
    | none => rfl
    | some y => rw [h1, h2] at h; simp at h
  | some x =>
    cases h2 : K.st s with
    | none => rw [h1, h2] at h; simp at h
    | some y =>
      rw [h1, h2] at h
      simp only [Option.map_some, Option.some.injEq] at h
      simp only [h]

/-- Behind a move. -/
theorem Inv.move {R : Ref} {K : Ker} (h : Inv R K) {p : Nat} (hp : p < R.L.length) (c : KCap) (hc : K.held R.L[p].slot = some c) (n i : Int) (hx : K.held ⟨n, i⟩ = none) (hi : 0 ≤ i ∧ i < nodesI K n) :
    Inv { R with L := R.L.set p { R.L[p] with node := n, index := i } } (K.move R.L[p].slot ⟨n, i⟩ c) := by
  obtain ⟨F, hF⟩ := h.rel.tree
  have hmem : R.L[p].slot ∈ F.slots := (mem_slots h.rel hF).2 ⟨c, hc⟩
  have hbn : (⟨n, i⟩ : Slot) ∉ F.slots := fun e => by
    obtain ⟨c', h1⟩ := (mem_slots h.rel hF).1 e
    rw [hx] at h1; cases h1
  have hb2 : (⟨n, i⟩ : Slot) ≠ nowhere := slot_ne_nowhere hi.1
  have hab : R.L[p].slot ≠ ⟨n, i⟩ := fun e => hbn (e ▸ hmem)
  have hh : (K.move R.L[p].slot ⟨n, i⟩ c).held = upd (upd K.held R.L[p].slot none) ⟨n, i⟩ (some c) := rfl
  -- what a slot holds behind it, it or the old slot held
  have hold : ∀ s c', (K.move R.L[p].slot ⟨n, i⟩ c).held s = some c' → (s = ⟨n, i⟩ ∧ K.held R.L[p].slot = some c') ∨ (s ≠ ⟨n, i⟩ ∧ s ≠ R.L[p].slot ∧ K.held s = some c') := by
    intro s c' hs
    rw [hh] at hs
    by_cases e : s = ⟨n, i⟩
    · subst e; rw [upd_same] at hs; exact .inl ⟨rfl, hc.trans hs⟩
    · rw [upd_other _ _ e] at hs
      by_cases e2 : s = R.L[p].slot
      · rw [e2, upd_same] at hs; cases hs
      · rw [upd_other _ _ e2] at hs; exact .inr ⟨e, e2, hs⟩
  have hnd := hF.nd
  have hmemset : ∀ e ∈ R.L.set p { R.L[p] with node := n, index := i }, (e = { R.L[p] with node := n, index := i }) ∨ (e ∈ R.L ∧ e.slot ≠ R.L[p].slot) := by
    intro e he
    obtain ⟨j, hj, rfl⟩ := List.getElem_of_mem he
    have hj' : j < R.L.length := by simpa using hj
    rw [List.getElem_set]
    by_cases hpj : p = j
    · rw [if_pos hpj]; exact .inl rfl
    · rw [if_neg hpj]
      refine .inr ⟨List.getElem_mem hj', fun e1 => hpj ?_⟩
      have e2 : (R.L.map Ent.slot)[j]'(by simpa using hj') = (R.L.map Ent.slot)[p]'(by simpa using hp) := by simpa using e1
      exact ((List.getElem_inj hnd).1 e2).symm
  obtain ⟨ct, hct1, hct2⟩ := h.rel.cap _ (List.getElem_mem hp)
  rw [hc] at hct1; cases hct1
  obtain ⟨hk1, hk2⟩ := hF.moved hmem hbn hb2
  refine ⟨⟨⟨?_, ?_, ⟨_, hF.move hp n i hbn hb2⟩, h.rel.nodes, h.rel.thr⟩, ?_, h.nod, ?_, ?_, ?_, h.nd, h.td, h.nb, h.tb, h.n0, h.t0, h.ws⟩, ?_⟩
  · intro e he
    rcases hmemset e he with rfl | ⟨h1, h2⟩
    · exact ⟨c, by rw [hh]; exact upd_same _ _ _, hct2⟩
    · obtain ⟨c', e1, e2⟩ := h.rel.cap e h1
      have h3 : e.slot ≠ ⟨n, i⟩ := fun e3 => by rw [e3, hx] at e1; cases e1
      exact ⟨c', by rw [hh, upd_other _ _ h3, upd_other _ _ h2]; exact e1, e2⟩
  · intro s hs
    rw [hh]
    have h1 : s ≠ ⟨n, i⟩ := fun e => by
      refine hs { R.L[p] with node := n, index := i } ?_ e.symm
      exact List.mem_set hp _
    rw [upd_other _ _ h1]
    by_cases e2 : s = R.L[p].slot
    · rw [e2, upd_same]
    · rw [upd_other _ _ e2]
      refine h.rel.emp s (fun e he e1 => ?_)
      obtain ⟨j, hj, rfl⟩ := List.getElem_of_mem he
      have hpj : p ≠ j := fun e3 => by subst e3; exact e2 e1.symm
      refine hs R.L[j] ?_ e1
      have : (R.L.set p { R.L[p] with node := n, index := i })[j]'(by simpa using hj) = R.L[j] := by rw [List.getElem_set, if_neg hpj]
      rw [← this]; exact List.getElem_mem _
  · intro s c' hs
    rcases hold s c' hs with ⟨rfl, _⟩ | ⟨_, _, h1⟩
    · exact hi
    · exact h.inN s c' h1
  · intro s c' hs
    rcases hold s c' hs with ⟨_, h1⟩ | ⟨_, _, h1⟩
    · exact h.cap _ c' h1
    · exact h.cap s c' h1
  · intro s s' b n1 m b' n' m' z hss hs hs' h1 h2 h3
    rcases hold s _ hs with ⟨e1, g1⟩ | ⟨_, e1, g1⟩
    · rcases hold s' _ hs' with ⟨e2, g2⟩ | ⟨_, e2, g2⟩
      · exact absurd (e1.trans e2.symm) hss
      · exact h.uu _ _ b n1 m b' n' m' z (Ne.symm e2) g1 g2 h1 h2 h3
    · rcases hold s' _ hs' with ⟨e2, g2⟩ | ⟨_, e2, g2⟩
      · exact h.uu _ _ b n1 m b' n' m' z e1 g1 g2 h1 h2 h3
      · exact h.uu _ _ b n1 m b' n' m' z hss g1 g2 h1 h2 h3
  · intro s b n1 m z hs h1 h2
    rcases hold s _ hs with ⟨_, g1⟩ | ⟨_, _, g1⟩
    · exact h.un _ b n1 m z g1 h1 h2
    · exact h.un _ b n1 m z g1 h1 h2
  · intro s b n1 m hs hk
    rcases hold s _ hs with ⟨e1, g1⟩ | ⟨e0, e1, g1⟩
    · refine h.kid _ b n1 m g1 ?_
      rw [← hk]
      refine (hasKids_eq ?_).symm
      show (moveT K.st R.L[p].slot ⟨n, i⟩ s).map _ = _
      rw [e1, hk1]
    · refine h.kid _ b n1 m g1 ?_
      rw [← hk]
      exact (hasKids_eq (hk2 s e1 e0)).symm

end Go.Proofs.YtdpjgflemddekaaGreatDoor
/- What is always so stays so behind a Retype. Nothing of the program's text. -/
namespace Go.Proofs.YtdpjgflemddekaaGreatDoor

theorem pw_quarter {n : Int} (h1 : 3 ≤ n) (h2 : n ≤ 6) : pw n.toNat / 4 = 2 ^ (n - 2).toNat ∧ pw n.toNat / 4 ≤ 16 := by
  have h : n = 3 ∨ n = 4 ∨ n = 5 ∨ n = 6 := by omega
  rcases h with rfl | rfl | rfl | rfl <;> decide

theorem Core.nodeFree {R : Ref} {K : Ker} (h : Core R K) {a : Int} (ha : K.nodes a = none) : R.N.find? (isBaseN a) = none := by
  have h1 := h.rel.nodes a
  rw [ha] at h1
  unfold slotsOf at h1
  cases hf : R.N.find? (isBaseN a) with
  | none => rfl
  | some l =>
    rw [hf] at h1
    simp only [Option.getD_none] at h1
    have : (0 : Int) < 2 ^ (l.bits - 2).toNat := Int.pow_pos (by omega)
    omega

theorem Core.thrFree {R : Ref} {K : Ker} (h : Core R K) {a : Int} (ha : K.thr a = none) : R.T.find? (isBaseT a) = none := by
  have h1 := h.rel.thr a
  rw [ha] at h1
  cases hf : R.T.find? (isBaseT a) with
  | none => rfl
  | some l => rw [hf] at h1; cases h1

theorem nodup_snoc {α : Type} {l : List α} {a : α} (h : l.Nodup) (ha : a ∉ l) : (l ++ [a]).Nodup := by
  rw [List.nodup_append]
  refine ⟨h, by simp, ?_⟩
  intro x hx y hy e
  simp at hy
  subst hy; subst e
  exact ha hx

/-- A node that was not there before. -/
theorem Core.addNode {R : Ref} {K : Ker} (h : Core R K) {a n : Int} (h0 : 0 ≤ a ∧ a < 1024) (hn : 3 ≤ n ∧ n ≤ 6) {z : Int} (hz : 0 < z) (hF : Free K a z) :
    Core { R with N := R.N ++ [⟨a, n⟩] } { K with nodes := upd K.nodes a (some (pw n.toNat / 4)) } := by
  have hno : K.nodes a = none := (hF.n a (Int.le_refl _) (by omega)).1
  have hfi := h.nodeFree hno
  obtain ⟨q1, q2⟩ := pw_quarter hn.1 hn.2
  refine ⟨⟨h.rel.cap, h.rel.emp, h.rel.tree, ?_, h.rel.thr⟩, ?_, ?_, h.cap, h.uu, ?_, ?_, h.td, ?_, h.tb, by simp, h.t0, h.ws⟩
  · intro b
    show (upd K.nodes a (some (pw n.toNat / 4)) b).getD 0 = slotsOf (R.N ++ [⟨a, n⟩]) b
    unfold slotsOf
    rw [List.find?_append]
    by_cases e : b = a
    · subst e
      rw [upd_same, hfi]
      simp [isBaseN, q1]
    · rw [upd_other _ _ e]
      have h1 := h.rel.nodes b
      unfold slotsOf at h1
      rw [h1]
      have h2 : List.find? (isBaseN b) [(⟨a, n⟩ : Liv)] = none := by simp [isBaseN, Ne.symm e]
      rw [h2, Option.or_none]
  · intro s c hs
    have h1 := h.inN s c hs
    unfold nodesI at h1 ⊢
    have h2 : s.node ≠ a := fun e => by rw [e, hno] at h1; simp at h1; omega
    show _ ∧ _ < (upd K.nodes a (some (pw n.toNat / 4)) s.node).getD 0
    rw [upd_other _ _ h2]
    exact h1
  · intro b x hb
    by_cases e : b = a
    · subst e
      have hb' : some (pw n.toNat / 4) = some x := by rw [← hb]; exact (upd_same _ _ _).symm
      cases hb'
      exact ⟨h0.1, h0.2, q2⟩
    · have hb' : K.nodes b = some x := by rw [← hb]; exact (upd_other _ _ e).symm
      exact h.nod b x hb'
  · intro s b n1 m y hs h1 h2
    refine ⟨?_, (h.un s b n1 m y hs h1 h2).2⟩
    have h3 : y ≠ a := fun e => by
      have := hF.u s b n1 m y hs (by omega) (by omega) h1
      omega
    show upd K.nodes a _ y = none
    rw [upd_other _ _ h3]
    exact (h.un s b n1 m y hs h1 h2).1
  · show ((R.N ++ [(⟨a, n⟩ : Liv)]).map Liv.base).Nodup
    rw [List.map_append]
    refine nodup_snoc h.nd ?_
    intro e
    obtain ⟨l, hl, e1⟩ := List.mem_map.1 e
    rw [List.find?_eq_none] at hfi
    exact hfi l hl (by simp [isBaseN, e1])
  · intro l hl
    rcases List.mem_append.1 hl with h1 | h1
    · exact h.nb l h1
    · simp at h1; subst h1; exact ⟨h0.1, h0.2, by dsimp only; omega, hn.2⟩

/-- A thread that was not there before. -/
theorem Core.addThr {R : Ref} {K : Ker} (h : Core R K) {a : Int} (root : Int) (h0 : 0 ≤ a ∧ a < 1024) {z : Int} (hz : 0 < z) (hF : Free K a z) :
    Core { R with T := R.T ++ [⟨a, 1, root, 0, 0, 0⟩] } { K with thr := upd K.thr a (some ⟨1, root, 0, 0, 0⟩) } := by
  have hno : K.thr a = none := (hF.n a (Int.le_refl _) (by omega)).2
  have hfi := h.thrFree hno
  refine ⟨⟨h.rel.cap, h.rel.emp, h.rel.tree, h.rel.nodes, ?_⟩, h.inN, h.nod, h.cap, h.uu, ?_, h.nd, ?_, h.nb, ?_, h.n0, by simp, h.ws⟩
  · intro b
    show upd K.thr a (some ⟨1, root, 0, 0, 0⟩) b = ((R.T ++ [(⟨a, 1, root, 0, 0, 0⟩ : Thr)]).find? (isBaseT b)).map Thr.thd
    rw [List.find?_append]
    by_cases e : b = a
    · subst e
      rw [upd_same, hfi]
      simp [isBaseT, Thr.thd]
    · rw [upd_other _ _ e]
      have h1 := h.rel.thr b
      have h2 : List.find? (isBaseT b) [(⟨a, 1, root, 0, 0, 0⟩ : Thr)] = none := by simp [isBaseT, Ne.symm e]
      rw [h2, Option.or_none, h1]
  · intro s b n1 m y hs h1 h2
    refine ⟨(h.un s b n1 m y hs h1 h2).1, ?_⟩
    have h3 : y ≠ a := fun e => by
      have := hF.u s b n1 m y hs (by omega) (by omega) h1
      omega
    show upd K.thr a _ y = none
    rw [upd_other _ _ h3]
    exact (h.un s b n1 m y hs h1 h2).2
  · show ((R.T ++ [(⟨a, 1, root, 0, 0, 0⟩ : Thr)]).map Thr.base).Nodup
    rw [List.map_append]
    refine nodup_snoc h.td ?_
    intro e
    obtain ⟨l, hl, e1⟩ := List.mem_map.1 e
    rw [List.find?_eq_none] at hfi
    exact hfi l hl (by simp [isBaseT, e1])
  · intro l hl
    rcases List.mem_append.1 hl with h1 | h1
    · exact h.tb l h1
    · simp at h1; subst h1; exact h0

/-- Another Mark of untyped memory, not below what it was. -/
theorem Core.setMark {R : Ref} {K : Ker} (h : Core R K) {p : Nat} (hp : p < R.L.length) {b n m m' : Int} (hs : K.held R.L[p].slot = some (.untyped b n m)) (hm : m ≤ m') (hm2 : m' ≤ pw n.toNat) :
    Core { R with L := R.L.set p { R.L[p] with mark := m' } } { K with held := upd K.held R.L[p].slot (some (.untyped b n m')) } := by
  have hcap := h.cap _ _ hs
  simp only [KCap.base, KCap.bits, KCap.mark] at hcap
  obtain ⟨F, hF⟩ := h.rel.tree
  have hnd := hF.nd
  obtain ⟨ct, hct1, hct2⟩ := h.rel.cap _ (List.getElem_mem hp)
  rw [hs] at hct1; cases hct1
  have hkeys : (R.L.set p { R.L[p] with mark := m' }).map Ent.key = R.L.map Ent.key := by
    rw [List.map_set]
    apply List.ext_getElem
    · simp
    · intro j h1 h2
      rw [List.getElem_set]
      split
      · rename_i e; subst e; simp [Ent.key, Ent.slot]
      · rfl
  have hmemset : ∀ e ∈ R.L.set p { R.L[p] with mark := m' }, (e = { R.L[p] with mark := m' }) ∨ (e ∈ R.L ∧ e.slot ≠ R.L[p].slot) := by
    intro e he
    obtain ⟨j, hj, rfl⟩ := List.getElem_of_mem he
    have hj' : j < R.L.length := by simpa using hj
    rw [List.getElem_set]
    by_cases hpj : p = j
    · rw [if_pos hpj]; exact .inl rfl
    · rw [if_neg hpj]
      refine .inr ⟨List.getElem_mem hj', fun e1 => hpj ?_⟩
      have e2 : (R.L.map Ent.slot)[j]'(by simpa using hj') = (R.L.map Ent.slot)[p]'(by simpa using hp) := by simpa using e1
      exact ((List.getElem_inj hnd).1 e2).symm
  -- what a slot holds behind it, it held, but for the Mark
  have hold : ∀ s c', upd K.held R.L[p].slot (some (.untyped b n m')) s = some c' → (s = R.L[p].slot ∧ c' = .untyped b n m') ∨ (s ≠ R.L[p].slot ∧ K.held s = some c') := by
    intro s c' h1
    by_cases e : s = R.L[p].slot
    · rw [e, upd_same] at h1; exact .inl ⟨e, (Option.some.inj h1).symm⟩
    · rw [upd_other _ _ e] at h1; exact .inr ⟨e, h1⟩
  refine ⟨⟨?_, ?_, ⟨F, ⟨hF.nodup, hF.top, hkeys.trans hF.flat, hF.stands, hF.roots, hF.only⟩⟩, h.rel.nodes, h.rel.thr⟩, ?_, h.nod, ?_, ?_, ?_, h.nd, h.td, h.nb, h.tb, h.n0, h.t0, h.ws⟩
  · intro e he
    rcases hmemset e he with rfl | ⟨h1, h2⟩
    · refine ⟨.untyped b n m', upd_same _ _ _, ?_⟩
      simp only [KCap.told, Ent.told, Prod.mk.injEq] at hct2 ⊢
      obtain ⟨a1, a2, a3, a4, a5, a6⟩ := hct2
      exact ⟨a1, a2, a3, a4, a5, trivial⟩
    · obtain ⟨c', e1, e2⟩ := h.rel.cap e h1
      exact ⟨c', (upd_other _ _ h2).trans e1, e2⟩
  · intro s hs'
    have h1 : s ≠ R.L[p].slot := fun e => by
      refine hs' { R.L[p] with mark := m' } ?_ e.symm
      exact List.mem_set hp _
    show upd K.held R.L[p].slot _ s = none
    rw [upd_other _ _ h1]
    refine h.rel.emp s (fun e he e1 => ?_)
    obtain ⟨j, hj, rfl⟩ := List.getElem_of_mem he
    have hpj : p ≠ j := fun e3 => by subst e3; exact h1 e1.symm
    refine hs' R.L[j] ?_ e1
    have : (R.L.set p { R.L[p] with mark := m' })[j]'(by simpa using hj) = R.L[j] := by rw [List.getElem_set, if_neg hpj]
    rw [← this]; exact List.getElem_mem _
  · intro s c' hs'
    rcases hold s c' hs' with ⟨e, _⟩ | ⟨_, h1⟩
    · rw [e]; exact h.inN _ _ hs
    · exact h.inN s c' h1
  · intro s c' hs'
    rcases hold s c' hs' with ⟨_, rfl⟩ | ⟨_, h1⟩
    · simp only [KCap.base, KCap.bits, KCap.mark]; exact ⟨hcap.1, hcap.2.1, hcap.2.2.1, hcap.2.2.2.1, by omega, hm2⟩
    · exact h.cap s c' h1
  · intro s s' b1 n1 m1 b' n' m1' y hss hs1 hs1' h1 h2 h3
    rcases hold s _ hs1 with ⟨e, e1⟩ | ⟨e, g1⟩
    · rcases hold s' _ hs1' with ⟨e', _⟩ | ⟨e', g2⟩
      · exact absurd (e.trans e'.symm) hss
      · cases e1; exact h.uu _ _ b n m b' n' m1' y (Ne.symm e') hs g2 (by omega) h2 h3
    · rcases hold s' _ hs1' with ⟨e', e1⟩ | ⟨e', g2⟩
      · cases e1; exact h.uu _ _ b1 n1 m1 b n m y e g1 hs h1 h2 (by omega)
      · exact h.uu _ _ b1 n1 m1 b' n' m1' y hss g1 g2 h1 h2 h3
  · intro s b1 n1 m1 y hs1 h1 h2
    rcases hold s _ hs1 with ⟨e, e1⟩ | ⟨e, g1⟩
    · cases e1; exact h.un _ b n m y hs (by omega) h2
    · exact h.un _ b1 n1 m1 y g1 h1 h2

/-- Behind the Mark that is given up, the memory is nobody's. -/
theorem Core.freed {R : Ref} {K : Ker} (h : Core R K) {f : Slot} {b n m m' a z : Int} (hs : K.held f = some (.untyped b n m)) (h1 : b + m ≤ a) (h2 : a + z ≤ b + m') (h3 : b + m' ≤ b + pw n.toNat) :
    Free { K with held := upd K.held f (some (.untyped b n m')) } a z := by
  refine ⟨?_, ?_⟩
  · intro s b1 n1 m1 y hs1 y1 y2 y3
    have hs1' : upd K.held f (some (.untyped b n m')) s = some (.untyped b1 n1 m1) := hs1
    by_cases e : s = f
    · rw [e, upd_same] at hs1'; cases hs1'; omega
    · rw [upd_other _ _ e] at hs1'
      exact h.uu f s b n m b1 n1 m1 y (Ne.symm e) hs hs1' (by omega) (by omega) y3
  · intro y y1 y2
    exact h.un f b n m y hs (by omega) (by omega)

/-- Memory that is apart from a new object's stays nobody's. -/
theorem Free.lay {K : Ker} {a z a0 z0 : Int} (h : Free K a z) (t : Slot) (c : KCap) (p : Slot) (hc : ∀ b n m, c = .untyped b n m → b + m = a0 ∧ pw n.toNat - m = z0) (hd : a0 + z0 ≤ a) : Free (K.lay t c p) a z := by
  refine ⟨?_, h.n⟩
  intro s b n m y hs y1 y2 y3
  have hs' : upd K.held t (some c) s = some (.untyped b n m) := hs
  by_cases e : s = t
  · rw [e, upd_same] at hs'
    obtain ⟨c1, c2⟩ := hc b n m (Option.some.inj hs')
    omega
  · rw [upd_other _ _ e] at hs'
    exact h.u s b n m y hs' y1 y2 y3

/-- One new object. -/
theorem Core.found {R : Ref} {K : Ker} (h : Core R K) {p : Nat} (hp : p < R.L.length) (n ix ty a bits root : Int) (hob : isObj ty bits = true) (hx : K.held ⟨n, ix⟩ = none) (hi : 0 ≤ ix ∧ ix < nodesI K n)
    (h0 : 0 ≤ a ∧ a + pw bits.toNat ≤ 1024) (hF : Free K a (pw bits.toNat)) :
    Core { L := layL R.L p R.L[p].up ⟨n, ix, ty, a, bits, 7, 0, 0, 0⟩, N := if ty = 2 then R.N ++ [⟨a, bits⟩] else R.N, T := if ty = 4 then R.T ++ [⟨a, 1, root, 0, 0, 0⟩] else R.T }
      (K.found ⟨n, ix⟩ (madeC ty a bits) R.L[p].slot root) := by
  have hpos := pw_pos bits.toNat
  have hob' := hob
  simp only [isObj, Bool.and_eq_true, decide_eq_true_eq] at hob'
  obtain ⟨⟨t1, t2⟩, t3, t4⟩ := hob'
  have hty : ty = 0 ∨ ty = 1 ∨ ty = 2 ∨ ty = 3 ∨ ty = 4 ∨ ty = 5 := by omega
  have hsl : (⟨n, ix, ty, a, bits, 7, 0, 0, 0⟩ : Ent).slot = ⟨n, ix⟩ := rfl
  rcases hty with rfl | rfl | rfl | rfl | rfl | rfl
  · simp only [leastT, mostT] at t3 t4; omega
  · simp only [leastT, mostT] at t3 t4
    have := h.lay hp ⟨n, ix, 1, a, bits, 7, 0, 0, 0⟩ (.untyped a bits 0) rfl hx hi ⟨h0.1, by simp only [KCap.bits]; omega, by simp only [KCap.bits]; omega, h0.2, Int.le_refl _, by simp only [KCap.mark, KCap.bits]; omega⟩
      (fun b n' m e => by cases e; simpa using hF)
    exact this
  · simp only [leastT, mostT] at t3 t4
    have h1 := h.addNode (a := a) (n := bits) ⟨h0.1, by omega⟩ ⟨t3, t4⟩ (by omega) hF
    have hi' : 0 ≤ ix ∧ ix < nodesI { K with nodes := upd K.nodes a (some (pw bits.toNat / 4)) } n := by
      refine ⟨hi.1, ?_⟩
      have hno : K.nodes a = none := (hF.n a (Int.le_refl _) (by omega)).1
      have hne : n ≠ a := fun e => by have := hi.2; unfold nodesI at this; rw [e, hno] at this; simp at this; omega
      show ix < (upd K.nodes a _ n).getD 0
      rw [upd_other _ _ hne]; exact hi.2
    have := h1.lay (p := p) hp ⟨n, ix, 2, a, bits, 7, 0, 0, 0⟩ (.node a bits 7) rfl hx hi' ⟨h0.1, by simp only [KCap.bits]; omega, by simp only [KCap.bits]; omega, h0.2, Int.le_refl _, by simp only [KCap.mark, KCap.bits]; omega⟩
      (fun b n' m e => by cases e)
    exact this
  · simp only [leastT, mostT] at t3 t4
    have := h.lay hp ⟨n, ix, 3, a, bits, 7, 0, 0, 0⟩ (.endpoint a bits 7 0) rfl hx hi ⟨h0.1, by simp only [KCap.bits]; omega, by simp only [KCap.bits]; omega, h0.2, Int.le_refl _, by simp only [KCap.mark, KCap.bits]; omega⟩
      (fun b n' m e => by cases e)
    exact this
  · simp only [leastT, mostT] at t3 t4
    have h1 := h.addThr (a := a) root ⟨h0.1, by omega⟩ (by omega) hF
    have := h1.lay (p := p) hp ⟨n, ix, 4, a, bits, 7, 0, 0, 0⟩ (.task a bits 7) rfl hx hi ⟨h0.1, by simp only [KCap.bits]; omega, by simp only [KCap.bits]; omega, h0.2, Int.le_refl _, by simp only [KCap.mark, KCap.bits]; omega⟩
      (fun b n' m e => by cases e)
    exact this
  · simp only [leastT, mostT] at t3 t4
    have := h.lay hp ⟨n, ix, 5, a, bits, 7, 0, 0, 0⟩ (.frame a bits 7) rfl hx hi ⟨h0.1, by simp only [KCap.bits]; omega, by simp only [KCap.bits]; omega, h0.2, Int.le_refl _, by simp only [KCap.mark, KCap.bits]; omega⟩
      (fun b n' m e => by cases e)
    exact this

theorem found_held (K : Ker) (t : Slot) (c : KCap) (p : Slot) (root : Int) : (K.found t c p root).held = upd K.held t (some c) := by cases c <;> rfl
theorem found_stK (K : Ker) (t : Slot) (c : KCap) (p : Slot) (root : Int) : (K.found t c p root).st = addS K.st t p := by cases c <;> rfl

theorem Free.found {K : Ker} {a z a0 : Int} (h : Free K a z) (t : Slot) (ty bits : Int) (p : Slot) (root : Int) (hd : a0 + pw bits.toNat ≤ a) : Free (K.found t (madeC ty a0 bits) p root) a z := by
  have hpos := pw_pos bits.toNat
  unfold madeC
  split
  · exact h.lay t _ p (a0 := a0) (z0 := pw bits.toNat) (fun b n m e => by cases e; omega) hd
  · split
    · have h1 : Free { K with nodes := upd K.nodes a0 (some (pw bits.toNat / 4)) } a z := by
        refine ⟨h.u, fun y y1 y2 => ⟨?_, (h.n y y1 y2).2⟩⟩
        show upd K.nodes a0 _ y = none
        rw [upd_other _ _ (by omega)]; exact (h.n y y1 y2).1
      exact h1.lay t _ p (a0 := a0) (z0 := pw bits.toNat) (fun b n m e => by cases e) hd
    · split
      · exact h.lay t _ p (a0 := a0) (z0 := pw bits.toNat) (fun b n m e => by cases e) hd
      · split
        · have h1 : Free { K with thr := upd K.thr a0 (some ⟨1, root, 0, 0, 0⟩) } a z := by
            refine ⟨h.u, fun y y1 y2 => ⟨(h.n y y1 y2).1, ?_⟩⟩
            show upd K.thr a0 _ y = none
            rw [upd_other _ _ (by omega)]; exact (h.n y y1 y2).2
          exact h1.lay t _ p (a0 := a0) (z0 := pw bits.toNat) (fun b n m e => by cases e) hd
        · exact h.lay t _ p (a0 := a0) (z0 := pw bits.toNat) (fun b n m e => by cases e) hd

theorem found_nodes (K : Ker) (t : Slot) (ty a bits : Int) (p : Slot) (root b : Int) (h : K.nodes a = none) : nodesI K b ≤ 0 ∨ nodesI (K.found t (madeC ty a bits) p root) b = nodesI K b := by
  unfold madeC
  split
  · exact .inr rfl
  · split
    · by_cases e : b = a
      · left; unfold nodesI; rw [e, h]; simp
      · right; show (upd K.nodes a _ b).getD 0 = _; rw [upd_other _ _ e]; rfl
    · split
      · exact .inr rfl
      · split <;> exact .inr rfl

/-- So many new objects. -/
theorem Core.carve {R : Ref} {K : Ker} (h : Core R K) {p : Nat} (hp : p < R.L.length) (c : Cl) (n ix s root : Int) (cnt : Nat) (hob : isObj c.ty c.bits = true)
    (hx : ∀ i : Nat, i < cnt → K.held ⟨n, ix + i⟩ = none) (hi : 0 ≤ ix ∧ ix + cnt ≤ nodesI K n) (h0 : 0 ≤ s ∧ s + cnt * pw c.bits.toNat ≤ 1024) (hF : Free K s (cnt * pw c.bits.toNat)) :
    ∀ i : Nat, i ≤ cnt → ∃ e, (retR R root p R.L[p].up n ix c s i).L[p]? = some e ∧ e = R.L[p] ∧ Core (retR R root p R.L[p].up n ix c s i) (carveTo K R.L[p].slot ⟨n, ix⟩ c.ty c.bits root s i) ∧
      Free (carveTo K R.L[p].slot ⟨n, ix⟩ c.ty c.bits root s i) (s + i * pw c.bits.toNat) ((cnt - i : Nat) * pw c.bits.toNat) ∧
      (∀ j : Nat, i ≤ j → j < cnt → (carveTo K R.L[p].slot ⟨n, ix⟩ c.ty c.bits root s i).held ⟨n, ix + j⟩ = none) ∧ ix + cnt ≤ nodesI (carveTo K R.L[p].slot ⟨n, ix⟩ c.ty c.bits root s i) n ∧
      (∀ t, (∀ b n' m, K.held t = some (.untyped b n' m) → hasKids K t = false → m = 0) → ∀ b n' m, (carveTo K R.L[p].slot ⟨n, ix⟩ c.ty c.bits root s i).held t = some (.untyped b n' m) → hasKids (carveTo K R.L[p].slot ⟨n, ix⟩ c.ty c.bits root s i) t = false → m = 0) ∧
      (0 < i → hasKids (carveTo K R.L[p].slot ⟨n, ix⟩ c.ty c.bits root s i) R.L[p].slot = true)
  | 0, _ => by
    refine ⟨R.L[p], by simp [retR, hp], rfl, h, ?_, fun j _ hj => hx j hj, hi.2, fun t ht => ht, fun h => absurd h (by omega)⟩
    simpa [carveTo] using hF
  | i + 1, hle => by
    obtain ⟨e, e1, e2, e3, e4, e5, e6, e7, e8⟩ := Core.carve h hp c n ix s root cnt hob hx hi h0 hF i (by omega)
    subst e2
    have hpos := pw_pos c.bits.toNat
    have hpL : p < (retR R root p R.L[p].up n ix c s i).L.length := by
      rw [List.getElem?_eq_some_iff] at e1; exact e1.1
    have hget : (retR R root p R.L[p].up n ix c s i).L[p] = R.L[p] := by
      rw [List.getElem?_eq_some_iff] at e1; exact e1.2
    have hz : ((cnt - i : Nat) : Int) * pw c.bits.toNat = pw c.bits.toNat + ((cnt - (i + 1) : Nat) : Int) * pw c.bits.toNat := by
      have : cnt - i = (cnt - (i + 1)) + 1 := by omega
      rw [this]; push_cast; rw [Int.add_mul]; omega
    have hnn : 0 ≤ ((cnt - (i + 1) : Nat) : Int) * pw c.bits.toNat := Int.mul_nonneg (by omega) (by omega)
    have hin : 0 ≤ (i : Int) * pw c.bits.toNat := Int.mul_nonneg (by omega) (by omega)
    have htot : (i : Int) * pw c.bits.toNat + ((cnt - i : Nat) : Int) * pw c.bits.toNat = cnt * pw c.bits.toNat := by
      rw [← Int.add_mul]; congr 1; omega
    have hFi : Free (carveTo K R.L[p].slot ⟨n, ix⟩ c.ty c.bits root s i) (s + i * pw c.bits.toNat) (pw c.bits.toNat) :=
      ⟨fun t b n' m y ht y1 y2 y3 => e4.u t b n' m y ht y1 (by omega) y3, fun y y1 y2 => e4.n y y1 (by omega)⟩
    have hC := e3.found hpL n (ix + i) c.ty (s + i * pw c.bits.toNat) c.bits root hob (e5 i (Nat.le_refl _) (by omega)) ⟨by omega, by omega⟩ ⟨by omega, by omega⟩ hFi
    rw [hget] at hC
    have hsucc : s + ((i + 1 : Nat) : Int) * pw c.bits.toNat = s + i * pw c.bits.toNat + pw c.bits.toNat := by push_cast; rw [Int.add_mul]; omega
    have hno : (carveTo K R.L[p].slot ⟨n, ix⟩ c.ty c.bits root s i).nodes (s + i * pw c.bits.toNat) = none := (hFi.n _ (Int.le_refl _) (by omega)).1
    refine ⟨R.L[p], ?_, rfl, hC, ?_, ?_, ?_, ?_, ?_⟩
    · simp only [retR]
      rw [layL_get _ _ _ _ hpL, hget]
    · rw [hsucc]
      refine Free.found (a0 := s + i * pw c.bits.toNat) ?_ _ _ _ _ _ (Int.le_refl _)
      exact ⟨fun t b n' m y ht y1 y2 y3 => e4.u t b n' m y ht (by omega) (by omega) y3, fun y y1 y2 => e4.n y (by omega) (by omega)⟩
    · intro j h1 h2
      simp only [carveTo]
      rw [found_held, upd_other _ _ (fun e => by simp only [Slot.mk.injEq] at e; omega)]
      exact e5 j (by omega) h2
    · simp only [carveTo]
      rcases found_nodes (carveTo K R.L[p].slot ⟨n, ix⟩ c.ty c.bits root s i) ⟨n, ix + i⟩ c.ty (s + i * pw c.bits.toNat) c.bits R.L[p].slot root n hno with h1 | h1
      · omega
      · rw [h1]; exact e6
    · intro t ht b n' m h1 h2
      simp only [carveTo] at h1 h2
      have hst : hasKids ((carveTo K R.L[p].slot ⟨n, ix⟩ c.ty c.bits root s i).found ⟨n, ix + i⟩ (madeC c.ty (s + i * pw c.bits.toNat) c.bits) R.L[p].slot root) t = hasKids ((carveTo K R.L[p].slot ⟨n, ix⟩ c.ty c.bits root s i).lay ⟨n, ix + i⟩ (madeC c.ty (s + i * pw c.bits.toNat) c.bits) R.L[p].slot) t :=
        hasKids_eq (by rw [found_stK]; rfl)
      rw [hst] at h2
      rw [found_held] at h1
      by_cases g1 : t = ⟨n, ix + i⟩
      · rw [g1, upd_same] at h1
        have h3 := Option.some.inj h1
        unfold madeC at h3
        split at h3
        · cases h3; rfl
        · split at h3
          · cases h3
          · split at h3
            · cases h3
            · split at h3 <;> cases h3
      · rw [upd_other _ _ g1] at h1
        by_cases g2 : t = R.L[p].slot
        · rw [g2, hasKids_parent] at h2; cases h2
        · rw [hasKids_other _ _ g2 g1] at h2
          exact e7 t ht b n' m h1 h2
    · intro _
      simp only [carveTo]
      refine Eq.trans (hasKids_eq (K := (carveTo K R.L[p].slot ⟨n, ix⟩ c.ty c.bits root s i).lay ⟨n, ix + i⟩ (madeC c.ty (s + i * pw c.bits.toNat) c.bits) R.L[p].slot) (s := R.L[p].slot) (by rw [found_stK]; rfl)) (hasKids_parent _ _ _ _)

/-- The untyped memory's own capability may be written first. -/
theorem carve_upd (K : Ker) (f : Slot) (n ix ty bits root s : Int) (u : KCap) : ∀ i : Nat, (∀ j : Nat, j < i → f ≠ ⟨n, ix + j⟩) →
    carveTo { K with held := upd K.held f (some u) } f ⟨n, ix⟩ ty bits root s i = { carveTo K f ⟨n, ix⟩ ty bits root s i with held := upd (carveTo K f ⟨n, ix⟩ ty bits root s i).held f (some u) }
  | 0, _ => rfl
  | i + 1, h => by
    have ih := carve_upd K f n ix ty bits root s u i (fun j hj => h j (by omega))
    simp only [carveTo]
    rw [ih]
    have hne : f ≠ ⟨n, ix + i⟩ := h i (by omega)
    have hc : ∀ (H : Slot → Option KCap) (c : KCap), upd (upd H f (some u)) ⟨n, ix + i⟩ (some c) = upd (upd H ⟨n, ix + i⟩ (some c)) f (some u) := by
      intro H c
      funext t
      by_cases e1 : t = ⟨n, ix + i⟩
      · rw [e1, upd_same, upd_other _ _ (Ne.symm hne), upd_same]
      · rw [upd_other _ _ e1]
        by_cases e2 : t = f
        · rw [e2, upd_same, upd_same]
        · rw [upd_other _ _ e2, upd_other _ _ e2, upd_other _ _ e1]
    generalize madeC ty (s + i * pw bits.toNat) bits = c
    cases c <;> simp only [Ker.found, Ker.lay, hc]

end Go.Proofs.YtdpjgflemddekaaGreatDoor

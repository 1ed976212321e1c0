/- append, where the old list is looked at again: it holds what it held. Nothing of the program's text. -/
import Derived.Test.YtdpjgflemddekaaGreatDoorMBase
import Derived.Deep.AppendLies
namespace Go.Proofs.YtdpjgflemddekaaGreatDoor
open Go.RowKit

section
variable {P : Program} (w : World)

theorem run_append_keep (t ty : TypeId) (base : Nat) (e : TypeId) (i : TypeInfo) (z : Value) (size bytes : Nat) (ht : P.underlying t = some (.slice e)) (hi : P.info? e = some i) (hz : i.zero = some z)
    (hsize : i.size = size) (hby : i.bytes = bytes) (hzs : z.cells.size = size) (hsz : 0 < size)
    (v : Value) (n : Nat) (xs : List Value) (hown : w.ownsRow base e size v n xs)
    (ad : Addr) (m c : Nat) (news : List Value) (hl : news.length = m * size) (hnews : ∀ j u, news[j]? = some u → w.cell? (ad.add j) = some u) (h1 : ∀ u ∈ news, u.oneCell' = true)
    (hm : 0 < m) (h63 : n + m ≤ maxLen) (hbytes : (n + m) * bytes ≤ 140737488355328) (hbase : base ≤ w.heap.size) (H : Nat) (hH : w.heap.size = H) :
    ∃ g cap w', (Builtin.append_ #[t, t] ty #[v, .slice (some ad) m c]).run P w = .ok (.slice (some ⟨g, 0, none⟩) (n + m) cap) w' ∧
      w'.ownsRow base e size (.slice (some ⟨g, 0, none⟩) (n + m) cap) (n + m) (xs ++ news) ∧ w.grownBy w' v.ownBlock ∧ (v.ownBlock = some g ∨ g = H) ∧ g < w'.heap.size ∧
      ∀ g0 cap0, v = .slice (some ⟨g0, 0, none⟩) n cap0 → ∀ j u, xs[j]? = some u → w'.cell? ⟨g0, j, none⟩ = some u := by
  obtain ⟨g, cap, w', hr, h2, h3, h4, h5⟩ := run_append_lies (P := P) w t ty base e i z size bytes ht hi hz hsize hby hzs hsz v n xs hown ad m c news hl hnews h1 hm h63 hbytes hbase H hH
  refine ⟨g, cap, w', hr, h2, h3, h4, h5, ?_⟩
  rintro g0 cap0 rfl j u hu
  subst hsize
  subst hby
  rcases hown.2 with ⟨h0, _⟩ | ⟨g1, cap1, cur, hv, hbg, hg, hnc, hcm, hcs, htake⟩
  · cases h0
  · cases hv
    have hold : ∀ j u, xs[j]? = some u → w.cell? ((⟨g0, 0, none⟩ : Addr).add j) = some u := hown.cells (g := g0) rfl
    by_cases hroom : n + m ≤ cap0
    · have hfit : n * i.size + news.length ≤ cur.size := by rw [hl, hcs, ← Nat.add_mul]; exact Nat.mul_le_mul_right _ hroom
      have hr2 := run_append_room (P := P) w t ty e i ht hi g0 n cap0 cur hg ad m c news hl hnews h1 hroom hfit
      rw [hr] at hr2
      have e1 : g = g0 := by injection hr2 with e1 e2; injection e1 with e1; cases e1; rfl
      subst e1
      have := h2.cells (g := g) rfl j u (by rw [List.getElem?_append_left (List.getElem?_eq_some_iff.1 hu).1]; exact hu)
      rw [add_eq] at this
      simpa using this
    · have hr2 := run_append_grow (P := P) w t ty e i z ht hi hz ⟨g0, 0, none⟩ n cap0 xs hown.1 hold ad m c news hl hnews (by omega) (by simp only [maxLen] at h63; omega) (growslice_fits (by omega) hbytes)
      rw [hr] at hr2
      injection hr2 with _ e2
      have hc := hold j u hu
      rw [add_eq] at hc
      simp only [Nat.zero_add] at hc
      rw [e2]
      exact ((((Fr.refl w (fun _ => False)).drew).alloc _).cell hc id)

theorem wpList_append_keep {ops : Array Oper} {rest : List Oper} {o : Oper} {a : Act} {Q : Exit → Act → World → Prop} (hgd : o.guard = none) (s x : Operand) (t : TypeId)
    (ho : o.op = .call { callee := .builtin .append, args := #[s, x], argTypes := #[t, t] })
    (base : Nat) (e : TypeId) (i : TypeInfo) (z : Value) (size bytes : Nat) (ht : P.underlying t = some (.slice e)) (hi : P.info? e = some i) (hz : i.zero = some z)
    (hsize : i.size = size) (hby : i.bytes = bytes) (hzs : z.cells.size = size) (hsz : 0 < size)
    (v : Value) (n : Nat) (xs : List Value) (hs : a.eval s = v) (hown : w.ownsRow base e size v n xs)
    (ad : Addr) (m c : Nat) (news : List Value) (hx : a.eval x = .slice (some ad) m c) (hl : news.length = m * size) (hnews : ∀ j u, news[j]? = some u → w.cell? (ad.add j) = some u) (h1 : ∀ u ∈ news, u.oneCell' = true)
    (hm : 0 < m) (h63 : n + m ≤ maxLen) (hbytes : (n + m) * bytes ≤ 140737488355328) (hbase : base ≤ w.heap.size) (H : Nat) (hH : w.heap.size = H)
    (h : ∀ g cap w', w'.ownsRow base e size (.slice (some ⟨g, 0, none⟩) (n + m) cap) (n + m) (xs ++ news) → w.grownBy w' v.ownBlock → (v.ownBlock = some g ∨ g = H) → g < w'.heap.size →
      (∀ g0 cap0, v = .slice (some ⟨g0, 0, none⟩) n cap0 → ∀ j u, xs[j]? = some u → w'.cell? ⟨g0, j, none⟩ = some u) → wpList P ops Q rest (a.put o.dst (.slice (some ⟨g, 0, none⟩) (n + m) cap)) w') : wpList P ops Q (o :: rest) a w :=
  wpList_plain hgd fun _ hK => by
    obtain ⟨g, cap, w', hr, h2, h3, h4, h5, h6⟩ := run_append_keep (P := P) w t o.type base e i z size bytes ht hi hz hsize hby hzs hsz v n xs hown ad m c news hl hnews h1 hm h63 hbytes hbase H hH
    unfold Oper.wp execOp
    simp only [ho, resolve, invoke, builtin, Sem.run_bind, Sem.run_pure, Result.andThen_ok, List.map_toArray, List.map_cons, List.map_nil, hs, hx, hr]
    exact hK _ _ (h g cap w' h2 h3 h4 h5 h6)
end

/-- A list of n equal elements. -/
def fillRow (c : List Value) : Nat → List Value
  | 0 => []
  | n + 1 => fillRow c n ++ c

theorem fillRow_len (c : List Value) : ∀ n, (fillRow c n).length = n * c.length
  | 0 => by simp [fillRow]
  | n + 1 => by simp [fillRow, fillRow_len c n, Nat.add_mul]

theorem fillRow_get (c : List Value) : ∀ (n k j : Nat), k < n → j < c.length → (fillRow c n)[k * c.length + j]? = c[j]?
  | 0, k, j, hk, _ => absurd hk (by omega)
  | n + 1, k, j, hk, hj => by
    simp only [fillRow]
    by_cases e : k = n
    · subst e
      rw [List.getElem?_append_right (by rw [fillRow_len]; omega), fillRow_len]
      congr 1; omega
    · have hlt : k * c.length + j < (fillRow c n).length := by
        rw [fillRow_len]
        have : (k + 1) * c.length ≤ n * c.length := Nat.mul_le_mul_right _ (by omega)
        rw [Nat.add_mul] at this; omega
      rw [List.getElem?_append_left hlt]
      exact fillRow_get c n k j (by omega) hj

theorem fillRow_one (c : List Value) (hc : ∀ u ∈ c, u.oneCell' = true) : ∀ n, ∀ u ∈ fillRow c n, u.oneCell' = true
  | 0, u, hu => by simp [fillRow] at hu
  | n + 1, u, hu => by
    simp only [fillRow, List.mem_append] at hu
    rcases hu with h | h
    · exact fillRow_one c hc n u h
    · exact hc u h
end Go.Proofs.YtdpjgflemddekaaGreatDoor

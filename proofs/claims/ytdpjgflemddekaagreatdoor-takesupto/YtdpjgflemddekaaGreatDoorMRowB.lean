/- The argument: a script, opened whole; the package's variables. -/
import Derived.Test.YtdpjgflemddekaaGreatDoorMRowA
import Derived.Test.YtdpjgflemddekaaGreatDoorMLawP
import Derived.WalkKit
import Derived.Deep.DeepHandedRow
import Derived.Lib.LaidTab
namespace Go.Proofs.YtdpjgflemddekaaGreatDoor
open Go.ChangeShapes Go.WideShapes Go.RowKit
section
variable {H : Type} {enc : TypeId × Value -> H} {w : World}
theorem cells_each {base : Nat} {a : Addr} {n : Nat} {cs : List Value} (h : w.cells? base a n = some cs) (j : Nat) (u : Value) (hj : cs[j]? = some u) : w.cell? (a.add j) = some u := by
  unfold World.cells? at h
  split at h
  . have hl := Lib.mapM_length h
    have hjl : j < cs.length := (List.getElem?_eq_some_iff.1 hj).1
    obtain ⟨b, hb, hc⟩ := Lib.mapM_at h j j (by rw [List.length_range] at hl; rw [List.getElem?_range (by omega)])
    rw [hj] at hb; cases hb; exact hc
  . cases h
theorem script_open {fuel : Nat} {v : Value} {x : DataW H × List MemPlace} (h : DataW.trod enc Tryz.prog w 0 (fun _ => true) true fuel 22 [v] = some x) (hb : Rows.uptoBulk x.1 <= 1048576) : ∃ l, ScriptAt w v l := by
  rcases Deep.open_slice Tryz.underlying22 h with ⟨hcs, _⟩ | ⟨a, len, cap, m, n, D, Pl, hcs, _, hl, _, hm, hx, hel⟩
  . cases hcs
    exact ⟨[], ⟨⟨none, 0, rfl, fun h => absurd h (by decide)⟩, (fun o ho => absurd ho (by simp)), Nat.zero_le _⟩⟩
  . cases hcs
    have hm : m = cap := hm
    rw [hx] at hb
    dsimp only at hb
    have hs := blk_slice ((List.range len).map D) ((List.range (m - len)).map fun j => D (len + j))
    have hll : ((List.range len).map D).length = len := by simp
    have hD : ∀ i, i < len -> Rows.uptoBulk (D i) <= 1048576 := fun i hi => by
      have := blk_part (l := (List.range len).map D) (List.mem_map.2 ⟨i, by simpa using hi, rfl⟩)
      omega
    have hop : ∀ i, i < len -> ∃ o : OpD, (∀ j u, o.vals[j]? = some u -> w.cell? ((a.add (i * 15)).add j) = some u) /\ OpIn w o := by
      intro i hi
      obtain ⟨cs', h1, h2⟩ := hel i (by omega)
      rw [cells56] at h1
      obtain ⟨o, rfl, ho⟩ := op_open h2 (hD i hi)
      exact ⟨o, cells_each h1, ho⟩
    haveI : Inhabited OpD := ⟨⟨0, 0, ⟨0, [], [], 0, 0, 0, 0, 0, 0, 0⟩, .slice none 0 0, .slice none 0 0, .slice none 0 0, 0, false⟩⟩
    obtain ⟨f, hf⟩ := Deep.choose_lt hop
    refine ⟨(List.range len).map f, ⟨⟨some a, cap, by simp, fun h0 => ?_⟩, ?_, ?_⟩⟩
    . obtain ⟨g, off, spot⟩ := a
      have c0 := (hf 0 (by simpa using h0)).1 0 _ rfl
      have hspot : spot = none := by simpa [Addr.add] using World.cell?_spot c0
      subst hspot
      refine ⟨g, off, rfl, fun i hi j x hx => ?_⟩
      have hi' : i < len := by simpa using hi
      have := (hf i hi').1 j x (by simpa using hx)
      rw [Go.WideShapes.add_plain, Go.WideShapes.add_plain] at this
      exact this
    . intro o ho
      obtain ⟨i, hi, rfl⟩ := List.mem_map.1 ho
      exact (hf i (by simpa using hi)).2
    . simp; omega
end
end Go.Proofs.YtdpjgflemddekaaGreatDoor

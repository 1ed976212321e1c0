/- The document's Do of the kinds that make, copy, mint and move, and where it is refused. -/
import Derived.Test.YtdpjgflemddekaaGreatDoorMRefL
import Derived.Test.YtdpjgflemddekaaGreatDoorMInvD
namespace Go.Proofs.YtdpjgflemddekaaGreatDoor
open Go.RowKit

theorem rdo_any (R : Ref) (K : Ker) (hI : Inv R K) (V : RefV) (kb : Nat) (b : Int) (c : Cl) (av tv : Value) (w : World) (h : RefAt w kb R V)
    (hal : c.at_.length ≤ 9000000000000000000) (hl : c.to.length ≤ 9000000000000000000) (hav : IntsAt w av c.at_) (htv : IntsAt w tv c.to)
    (hda : 0 < c.at_.length → ∀ k, av.ownBlock = some k → ¬ V.fp kb k) (hdt : 0 < c.to.length → ∀ k, tv.ownBlock = some k → ¬ V.fp kb k) (hdv : V.dv = .slice none 0 0) (hk : c.kind ≤ 4 ∨ 11 < c.kind) :
    Calls Tryz.prog 48 #[.pointer (some ⟨kb, 0, none⟩), .int .i64 b, .agg (c.cells av tv), .slice none 0 0] w (DoOut w kb V (doR R b c)) := by
  have hRo := hI.refOk
  have hR : RefOk R := ⟨hRo.1, hRo.2.1, hRo.2.2.1, hRo.2.2.2.1, hRo.2.2.2.2⟩
  by_cases hno : ∀ t, R.T.find? (isBaseT b) = some t → t.state ≠ 1 ∨ c.kind < 1 ∨ 11 < c.kind
  · exact rdo_no R V kb b c av tv _ w h hRo.2.2.1 hno
  · simp only [Classical.not_forall] at hno
    obtain ⟨t, ht, hn⟩ := hno
    have hst : t.state = 1 := by
      rcases Int.lt_trichotomy t.state 1 with e | e | e
      · exact absurd (.inl (by omega)) hn
      · exact e
      · exact absurd (.inl (by omega)) hn
    have hk1 : ¬ c.kind < 1 := fun e => hn (.inr (.inl e))
    have hk2 : ¬ 11 < c.kind := fun e => hn (.inr (.inr e))
    by_cases e1 : c.kind = 1
    · exact rdo_ret R V kb b c av tv t w h hR hal hl hav htv hda hdt ⟨hI.n0, hI.t0, fun i hi => hI.entOk i hi⟩ hdv e1 ht hst
    · exact rdo_copy R V kb b c av tv t w h hR hal hl hav htv hda hdt (by omega) ht hst
end Go.Proofs.YtdpjgflemddekaaGreatDoor

/- The document's words stay within 32 bits. Nothing of the program's text. -/
import Derived.Test.YtdpjgflemddekaaGreatDoorMGoodD
import Derived.Test.YtdpjgflemddekaaGreatDoorMTalkP
namespace Go.Proofs.YtdpjgflemddekaaGreatDoor
theorem wordR_ws (S:RS)(c:Cl)(e:Ent)(h:∀i,0<=S.ws i/\S.ws i<=4294967295)(hk:c.kind=9\/c.kind=10)(i:Nat):0<=(wordR S c e).2.2.ws i/\(wordR S c e).2.2.ws i<=4294967295:=by
 unfold wordR;by_cases h1:e.ty≠5
 ·rw [if_pos h1];exact h i
 rw [if_neg h1];by_cases h2:rbit e.rights (if c.kind=10 then 2 else 1)=true
 ·rw [if_pos h2];exact h i
 rw [if_neg h2];by_cases h3:(c.offset<0\/pw e.bits.toNat<=c.offset)\/(c.kind=10/\(c.value<0\/4294967295<c.value))
 ·rw [if_pos h3];exact h i
 rw [if_neg h3];by_cases h4:c.kind=9
 ·rw [if_pos h4];exact h i
 rw [if_neg h4];show 0<=putNs S.ws _ c.value i/\putNs S.ws _ c.value i<=_;unfold putNs;split
 ·omega
 ·exact h i
theorem talkR_ws (S:RS)(b:Int)(c:Cl)(e:Ent):(talkR S b c e).2.ws=S.ws:=by
 unfold talkR;by_cases h1:e.ty≠3
 ·rw [if_pos h1]
 rw [if_neg h1];by_cases h2:rbit e.rights (if c.kind=8 then 1 else 2)=true
 ·rw [if_pos h2]
 rw [if_neg h2];by_cases h3:c.kind=7/\(c.value<0\/4294967295<c.value)
 ·rw [if_pos h3]
 rw [if_neg h3];cases S.q.find? (cx e.base (decide (c.kind≠7)))<;>rfl
theorem giveR_ws (S:RS)(root:Int)(c:Cl)(e:Ent):(giveR S root c e).2.ws=S.ws:=by
 unfold giveR;split
 ·rfl
 ·split
  ·rfl
  ·split
   ·rfl
   ·split
    ·rfl
    ·split
     ·rfl
     ·split
      ·rfl
      ·split<;>rfl
theorem doRX_ws (S:RS)(b:Int)(c:Cl)(bs:List Bool)(h:∀i,0<=S.ws i/\S.ws i<=4294967295)(i:Nat):0<=(doRX S b c bs).2.2.ws i/\(doRX S b c bs).2.2.ws i<=4294967295:=by
 unfold doRX;split
 ·rename_i hk;unfold newR;split
  ·exact h i
  ·split
   ·exact h i
   ·split
    ·exact h i
    ·split
     ·exact h i
     ·split
      ·exact h i
      ·split
       ·simp only [talkR_ws];exact h i
       ·split
        ·rename_i hk2;exact wordR_ws S c _ h hk2 i
        ·simp only [giveR_ws];exact h i
 ·rcases doRB_ws S b c bs i with e | e
  ·simp only [e];exact h i
  ·simp only [e];decide
end Go.Proofs.YtdpjgflemddekaaGreatDoor

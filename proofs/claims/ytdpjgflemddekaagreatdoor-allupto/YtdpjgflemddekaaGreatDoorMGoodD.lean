/- The words behind a call: as they were, or 0. Nothing of the program's text. -/
import Derived.Test.YtdpjgflemddekaaGreatDoorMTakA
namespace Go.Proofs.YtdpjgflemddekaaGreatDoor
theorem goneR_ws (S:RS)(ty b bits:Int):(goneR S ty b bits).ws=S.ws:=by
 unfold goneR;split
 ·rfl
 ·split
  ·rfl
  ·split<;>rfl
theorem takeR_ws (S:RS)(i:Nat)(e:Ent):(takeR S i e).ws=S.ws:=by
 unfold takeR;split
 ·rfl
 ·rw [goneR_ws]
theorem takeAtR_ws (S:RS)(n i:Int):(takeAtR S n i).ws=S.ws:=by
 unfold takeAtR;split
 ·rfl
 ·split
  ·rfl
  ·rw [takeR_ws]
theorem stepR_ws (S:RS):(bp S).ws=S.ws:=by
 unfold bp;split
 ·rfl
 ·split
  ·rfl
  ·rw [takeAtR_ws]
theorem workR_ws:∀(n:Nat) (S:RS) (bs:List Bool),(aj bp cf n S bs).1.ws=S.ws
 | 0,_,_=>rfl
 | n+1,S,bs=>by
  unfold aj;split
  ·rfl
  ·cases bs with
   | nil=>simp only;rw [workR_ws n,stepR_ws]
   | cons b r=>
    simp only;split
    ·exact stepR_ws S
    ·rw [workR_ws n,stepR_ws]
theorem takeB_ws (S:RS)(p:Nat)(e:Ent)(bs:List Bool):(takeB S p e bs).2.1.ws=S.ws:=by
 unfold takeB;split
 ·exact takeR_ws _ _ _
 ·simp only;rw [workR_ws,takeR_ws]
theorem revokeR_ws:∀(k:Nat) (S:RS) (n i:Int) (bs:List Bool),(revokeR k S n i bs).2.1.ws=S.ws
 | 0,_,_,_,_=>rfl
 | k+1,S,n,i,bs=>by
  unfold revokeR;split
  ·rfl
  ·split
   ·rfl
   ·split
    ·rfl
    ·split
     ·rfl
     ·split
      ·rw [revokeR_ws k,takeB_ws]
      ·exact takeB_ws _ _ _ _
theorem retypeB_ws (S:RS)(root:Int)(c:Cl)(p:Nat)(e:Ent)(bs:List Bool)(j:Nat):(retypeB S root c p e bs).2.ws j=S.ws j\/(retypeB S root c p e bs).2.ws j=0:=by
 have hc:∀m,(resetS S p e m).ws j=S.ws j\/(resetS S p e m).ws j=0:=fun m=>by
  show clrW S.ws (e.base+m) (e.mark-m) j=_\/clrW S.ws (e.base+m) (e.mark-m) j=0;unfold clrW;split
  ·exact .inr rfl
  ·exact .inl rfl
 unfold retypeB;split
 ·exact .inl rfl
 ·split
  ·exact .inl rfl
  ·split
   ·exact .inl rfl
   ·split
    ·exact .inl rfl
    ·split
     ·exact .inl rfl
     ·split
      ·split
       ·exact hc _
       ·exact hc _
      ·exact .inl rfl
theorem doRB_ws (S:RS)(b:Int)(c:Cl)(bs:List Bool)(j:Nat):(doRB S b c bs).2.ws j=S.ws j\/(doRB S b c bs).2.ws j=0:=by
 have hy:=workR_ws F0 S bs;unfold doRB;generalize aj bp cf F0 S bs=y at hy;obtain ⟨S1,bs1,ok⟩:=y;simp only at hy;simp only;cases S.R.T.find? (af b) with
 | none=>exact .inl rfl
 | some t=>
  simp only;by_cases h1:t.state≠1
  ·rw [if_pos h1];exact .inl rfl
  ·rw [if_neg h1];by_cases h2:c.kind<1\/11<c.kind
   ·rw [if_pos h2];exact .inl rfl
   ·rw [if_neg h2];by_cases h3:c.kind=1\/c.kind=5\/c.kind=6
    ·rw [if_pos h3];by_cases h4:ok=false
     ·rw [if_pos h4];exact .inl (by rw [hy])
     ·rw [if_neg h4];cases bd S1.R.L S1.R.N (stillI S1.R.N t.root) c.at_ with
      | none=>exact .inl (by rw [hy])
      | some q=>
       obtain ⟨n,ix⟩:=q;simp only;cases S1.R.L.findIdx? (cz n ix) with
       | none=>
        simp only;by_cases h5:c.kind=1
        ·rw [if_pos h5];exact .inl (by rw [hy])
        ·rw [if_neg h5];exact .inl (by rw [hy])
       | some p=>
        simp only;cases S1.R.L[p]? with
        | none=>exact .inl (by rw [hy])
        | some e=>
         simp only;by_cases h5:c.kind=1
         ·rw [if_pos h5];have:=retypeB_ws S1 (stillI S1.R.N t.root) c p e bs1 j;rw [hy] at this;exact this
         ·rw [if_neg h5];by_cases h6:c.kind=5
          ·rw [if_pos h6];exact .inl (by rw [takeB_ws,hy])
          ·rw [if_neg h6];exact .inl (by rw [revokeR_ws,hy])
    ·rw [if_neg h3];cases bd S.R.L S.R.N t.root c.at_ with
     | none=>exact .inl rfl
     | some q=>
      obtain ⟨n,ix⟩:=q;simp only;cases S.R.L.findIdx? (cz n ix) with
      | none=>exact .inl rfl
      | some p=>
       simp only;cases S.R.L[p]? with
       | none=>exact .inl rfl
       | some e=>exact .inl rfl
end Go.Proofs.YtdpjgflemddekaaGreatDoor

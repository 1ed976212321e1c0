/- The two kernels at the beginning. Nothing of the program's text. -/
import Derived.Test.YtdpjgflemddekaaDoorMInvD
namespace Go.Proofs.YtdpjgflemddekaaDoor
def po:List bo:=[⟨0,0,1,0,10,7,0,80,0⟩,⟨0,1,2,0,6,7,0,0,1⟩,⟨0,2,4,64,4,7,0,0,1⟩]
def b24:Fo:=.node ⟨0,0⟩ (.node ⟨0,1⟩ .nil (.node ⟨0,2⟩ .nil .nil)) .nil
theorem as7 (s:Slot):nu.held s=if s=⟨0,2⟩ then some (.task 64 4 7) else if s=⟨0,1⟩ then some (.node 0 6 7) else if s=⟨0,0⟩ then some (.untyped 0 10 80) else none:=rfl
theorem an_ (b:Int):nu.nodes b=if b=0 then some 16 else none:=rfl
theorem a59 (b:Int):nu.thr b=if b=64 then some ⟨1,0,0,0,0⟩ else none:=rfl
theorem a61:nu.st ⟨0,0⟩=some ⟨nowhere,[⟨0,1⟩,⟨0,2⟩]⟩:=rfl
theorem an4:nu.st ⟨0,1⟩=some ⟨⟨0,0⟩,[]⟩:=rfl
theorem ak5:nu.st ⟨0,2⟩=some ⟨⟨0,0⟩,[]⟩:=rfl
theorem bo8:nu.st nowhere=some ⟨⟨0,0⟩,[⟨0,0⟩]⟩:=rfl
theorem bq0 (s:Slot)(h0:s≠⟨0,0⟩)(h1:s≠⟨0,1⟩)(h2:s≠⟨0,2⟩)(hn:s≠nowhere):nu.st s=none:=by
 show addS (addS (addS (fun _=>none) ⟨0,0⟩ nowhere) ⟨0,1⟩ ⟨0,0⟩) ⟨0,2⟩ ⟨0,0⟩ s=none;rw [o5 h0 h2,o5 h0 h1,o5 hn h0]
theorem gv {s:Slot}{c:KCap}(h:nu.held s=some c):(s=⟨0,2⟩/\c=.task 64 4 7)\/(s=⟨0,1⟩/\c=.node 0 6 7)\/(s=⟨0,0⟩/\c=.untyped 0 10 80):=by
 rw [as7] at h;split at h
 ·rename_i e;exact .inl ⟨e,(Option.some.inj h).symm⟩
 ·split at h
  ·rename_i e;exact .inr (.inl ⟨e,(Option.some.inj h).symm⟩)
  ·split at h
   ·rename_i e;exact .inr (.inr ⟨e,(Option.some.inj h).symm⟩)
   ·cases h
theorem b0_ (b:Int):nu.qs b=none:=rfl
theorem bq7:cx ⟨po,[⟨0,6⟩],[⟨64,1,0,0,0,0⟩]⟩ nu []:=by
 have hT:ig po nu.st b24:=by
  refine ⟨by decide,by decide,by decide,?_,⟨_,bo8,rfl⟩,?_⟩
  ·exact ⟨⟨_,a61,rfl,rfl⟩,⟨⟨_,an4,rfl,rfl⟩,trivial,⟨⟨_,ak5,rfl,rfl⟩,trivial,trivial⟩⟩,trivial⟩
  ·intro s x hx;by_cases h0:s=⟨0,0⟩
   ·left;rw [h0];decide
   ·by_cases h1:s=⟨0,1⟩
    ·left;rw [h1];decide
    ·by_cases h2:s=⟨0,2⟩
     ·left;rw [h2];decide
     ·by_cases hn:s=nowhere
      ·exact .inr hn
      ·rw [bq0 s h0 h1 h2 hn] at hx;cases hx
 have hup:Up nu.st ⟨0,0⟩ ⟨0,1⟩/\Up nu.st ⟨0,0⟩ ⟨0,2⟩:=⟨.one (by decide) an4 rfl,.one (by decide) ak5 rfl⟩;refine ⟨⟨?_,?_,⟨b24,hT⟩,?_,?_⟩,⟨?_,?_⟩,?_,(fun d hd=>by cases hd),by decide,?_,?_,?_,?_,?_,?_,?_,by decide,by decide,?_,?_,?_,(fun d hd=>by cases hd)⟩
 ·intro e he;simp only [po,List.mem_cons,List.not_mem_nil,or_false] at he;rcases he with rfl | rfl | rfl
  ·exact ⟨_,rfl,rfl⟩
  ·exact ⟨_,rfl,rfl⟩
  ·exact ⟨_,rfl,rfl⟩
 ·intro s hs;rw [as7];rw [if_neg (fun e=>hs ⟨0,2,4,64,4,7,0,0,1⟩ (by simp [po]) e.symm),if_neg (fun e=>hs ⟨0,1,2,0,6,7,0,0,1⟩ (by simp [po]) e.symm),
   if_neg (fun e=>hs ⟨0,0,1,0,10,7,0,80,0⟩ (by simp [po]) e.symm)]
 ·intro b;rw [an_];by_cases e:b=0
  ·rw [e];decide
  ·rw [if_neg e];simp [dw,ek,Ne.symm e]
 ·intro b;rw [a59];by_cases e:b=64
  ·rw [e];rfl
  ·rw [if_neg e];simp [ao,Ne.symm e]
 ·intro s x c d hsn hx hc hd;rcases gv hc with ⟨rfl,rfl⟩ | ⟨rfl,rfl⟩ | ⟨rfl,rfl⟩
  ·rw [ak5] at hx;cases hx
   rcases gv hd with ⟨e,_⟩ | ⟨e,_⟩ | ⟨_,rfl⟩
   ·simp at e
   ·simp at e
   ·show _/\_;decide
  ·rw [an4] at hx;cases hx
   rcases gv hd with ⟨e,_⟩ | ⟨e,_⟩ | ⟨_,rfl⟩
   ·simp at e
   ·simp at e
   ·show _/\_;decide
  ·rw [a61] at hx;cases hx
   rcases gv hd with ⟨e,_⟩ | ⟨e,_⟩ | ⟨e,_⟩<;>simp [nowhere] at e
 ·intro s t c d hst hc hd;rcases gv hc with ⟨rfl,rfl⟩ | ⟨rfl,rfl⟩ | ⟨rfl,rfl⟩<;>rcases gv hd with ⟨rfl,rfl⟩ | ⟨rfl,rfl⟩ | ⟨rfl,rfl⟩
  ·exact absurd rfl hst
  ·left;show _\/_;decide
  ·exact .inr (.inr (.inr ⟨rfl,hup.2⟩))
  ·left;show _\/_;decide
  ·exact absurd rfl hst
  ·exact .inr (.inr (.inr ⟨rfl,hup.1⟩))
  ·exact .inr (.inr (.inl ⟨rfl,hup.2⟩))
  ·exact .inr (.inr (.inl ⟨rfl,hup.1⟩))
  ·exact absurd rfl hst
 ·intro s c h;rcases gv h with ⟨rfl,_⟩ | ⟨rfl,_⟩ | ⟨rfl,_⟩<;>exact ⟨by decide,.inl (by decide)⟩
 ·intro b x h;rw [an_] at h;split at h
  ·rename_i e;cases h;subst e;exact ⟨by decide,by decide,by decide,⟨0,1⟩,6,7,rfl⟩
  ·cases h
 ·intro s c h;rcases gv h with ⟨_,rfl⟩ | ⟨_,rfl⟩ | ⟨_,rfl⟩<;>decide
 ·intro s b n r h;rcases gv h with ⟨_,e⟩ | ⟨_,e⟩ | ⟨_,e⟩<;>cases e;exact ⟨by decide,by decide,rfl⟩
 ·intro b t h;rw [a59] at h;split at h
  ·rename_i e;subst e;exact ⟨⟨0,2⟩,4,7,rfl⟩
  ·cases h
 ·intro s b n r h;rcases gv h with ⟨_,e⟩ | ⟨_,e⟩ | ⟨_,e⟩<;>cases e;exact ⟨_,rfl⟩
 ·intro b q h;rw [b0_] at h;cases h
 ·intro s b n r g h;rcases gv h with ⟨_,e⟩ | ⟨_,e⟩ | ⟨_,e⟩<;>cases e
 ·intro l hl;simp at hl;subst hl;decide
 ·intro l hl;simp at hl;subst hl;decide
 ·intro s c h;rcases gv h with ⟨_,rfl⟩ | ⟨_,rfl⟩ | ⟨_,rfl⟩<;>decide
end Go.Proofs.YtdpjgflemddekaaDoor

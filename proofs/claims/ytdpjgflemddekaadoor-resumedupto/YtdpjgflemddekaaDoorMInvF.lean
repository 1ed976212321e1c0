/- The two kernels at the beginning. Nothing of the program's text. -/
import Derived.Test.YtdpjgflemddekaaDoorMInvD
namespace Go.Proofs.YtdpjgflemddekaaDoor
def bootList:List Ent:=[⟨0,0,1,0,10,7,0,80,0⟩,⟨0,1,2,0,6,7,0,0,1⟩,⟨0,2,4,64,4,7,0,0,1⟩]
def bootF:Fo:=.node ⟨0,0⟩ (.node ⟨0,1⟩ .nil (.node ⟨0,2⟩ .nil .nil)) .nil
theorem boot_held (s:Slot):bootK.held s=if s=⟨0,2⟩ then some (.task 64 4 7) else if s=⟨0,1⟩ then some (.node 0 6 7) else if s=⟨0,0⟩ then some (.untyped 0 10 80) else none:=rfl
theorem boot_nodes (b:Int):bootK.nodes b=if b=0 then some 16 else none:=rfl
theorem boot_thr (b:Int):bootK.thr b=if b=64 then some ⟨1,0,0,0,0⟩ else none:=rfl
theorem boot_st0:bootK.st ⟨0,0⟩=some ⟨nowhere,[⟨0,1⟩,⟨0,2⟩]⟩:=rfl
theorem boot_st1:bootK.st ⟨0,1⟩=some ⟨⟨0,0⟩,[]⟩:=rfl
theorem boot_st2:bootK.st ⟨0,2⟩=some ⟨⟨0,0⟩,[]⟩:=rfl
theorem boot_stn:bootK.st nowhere=some ⟨⟨0,0⟩,[⟨0,0⟩]⟩:=rfl
theorem boot_sto (s:Slot)(h0:s≠⟨0,0⟩)(h1:s≠⟨0,1⟩)(h2:s≠⟨0,2⟩)(hn:s≠nowhere):bootK.st s=none:=by
 show addS (addS (addS (fun _=>none) ⟨0,0⟩ nowhere) ⟨0,1⟩ ⟨0,0⟩) ⟨0,2⟩ ⟨0,0⟩ s=none;rw [addS_other h0 h2,addS_other h0 h1,addS_other hn h0]
theorem boot_cases {s:Slot}{c:KCap}(h:bootK.held s=some c):(s=⟨0,2⟩/\c=.task 64 4 7)\/(s=⟨0,1⟩/\c=.node 0 6 7)\/(s=⟨0,0⟩/\c=.untyped 0 10 80):=by
 rw [boot_held] at h;split at h
 ·rename_i e;exact .inl ⟨e,(Option.some.inj h).symm⟩
 ·split at h
  ·rename_i e;exact .inr (.inl ⟨e,(Option.some.inj h).symm⟩)
  ·split at h
   ·rename_i e;exact .inr (.inr ⟨e,(Option.some.inj h).symm⟩)
   ·cases h
theorem boot_qs (b:Int):bootK.qs b=none:=rfl
theorem boot_inv:Core ⟨bootList,[⟨0,6⟩],[⟨64,1,0,0,0,0⟩]⟩ bootK []:=by
 have hT:TreeRel bootList bootK.st bootF:=by
  refine ⟨by decide,by decide,by decide,?_,⟨_,boot_stn,rfl⟩,?_⟩
  ·exact ⟨⟨_,boot_st0,rfl,rfl⟩,⟨⟨_,boot_st1,rfl,rfl⟩,trivial,⟨⟨_,boot_st2,rfl,rfl⟩,trivial,trivial⟩⟩,trivial⟩
  ·intro s x hx;by_cases h0:s=⟨0,0⟩
   ·left;rw [h0];decide
   ·by_cases h1:s=⟨0,1⟩
    ·left;rw [h1];decide
    ·by_cases h2:s=⟨0,2⟩
     ·left;rw [h2];decide
     ·by_cases hn:s=nowhere
      ·exact .inr hn
      ·rw [boot_sto s h0 h1 h2 hn] at hx;cases hx
 have hup:Up bootK.st ⟨0,0⟩ ⟨0,1⟩/\Up bootK.st ⟨0,0⟩ ⟨0,2⟩:=⟨.one (by decide) boot_st1 rfl,.one (by decide) boot_st2 rfl⟩;refine ⟨⟨?_,?_,⟨bootF,hT⟩,?_,?_⟩,⟨?_,?_⟩,?_,(fun d hd=>by cases hd),by decide,?_,?_,?_,?_,?_,?_,?_,by decide,by decide,?_,?_,?_,(fun d hd=>by cases hd)⟩
 ·intro e he;simp only [bootList,List.mem_cons,List.not_mem_nil,or_false] at he;rcases he with rfl | rfl | rfl
  ·exact ⟨_,rfl,rfl⟩
  ·exact ⟨_,rfl,rfl⟩
  ·exact ⟨_,rfl,rfl⟩
 ·intro s hs;rw [boot_held];rw [if_neg (fun e=>hs ⟨0,2,4,64,4,7,0,0,1⟩ (by simp [bootList]) e.symm),if_neg (fun e=>hs ⟨0,1,2,0,6,7,0,0,1⟩ (by simp [bootList]) e.symm),
   if_neg (fun e=>hs ⟨0,0,1,0,10,7,0,80,0⟩ (by simp [bootList]) e.symm)]
 ·intro b;rw [boot_nodes];by_cases e:b=0
  ·rw [e];decide
  ·rw [if_neg e];simp [slotsOf,isBaseN,Ne.symm e]
 ·intro b;rw [boot_thr];by_cases e:b=64
  ·rw [e];rfl
  ·rw [if_neg e];simp [isBaseT,Ne.symm e]
 ·intro s x c d hsn hx hc hd;rcases boot_cases hc with ⟨rfl,rfl⟩ | ⟨rfl,rfl⟩ | ⟨rfl,rfl⟩
  ·rw [boot_st2] at hx;cases hx
   rcases boot_cases hd with ⟨e,_⟩ | ⟨e,_⟩ | ⟨_,rfl⟩
   ·simp at e
   ·simp at e
   ·show _/\_;decide
  ·rw [boot_st1] at hx;cases hx
   rcases boot_cases hd with ⟨e,_⟩ | ⟨e,_⟩ | ⟨_,rfl⟩
   ·simp at e
   ·simp at e
   ·show _/\_;decide
  ·rw [boot_st0] at hx;cases hx
   rcases boot_cases hd with ⟨e,_⟩ | ⟨e,_⟩ | ⟨e,_⟩<;>simp [nowhere] at e
 ·intro s t c d hst hc hd;rcases boot_cases hc with ⟨rfl,rfl⟩ | ⟨rfl,rfl⟩ | ⟨rfl,rfl⟩<;>rcases boot_cases hd with ⟨rfl,rfl⟩ | ⟨rfl,rfl⟩ | ⟨rfl,rfl⟩
  ·exact absurd rfl hst
  ·left;show _\/_;decide
  ·exact .inr (.inr (.inr ⟨rfl,hup.2⟩))
  ·left;show _\/_;decide
  ·exact absurd rfl hst
  ·exact .inr (.inr (.inr ⟨rfl,hup.1⟩))
  ·exact .inr (.inr (.inl ⟨rfl,hup.2⟩))
  ·exact .inr (.inr (.inl ⟨rfl,hup.1⟩))
  ·exact absurd rfl hst
 ·intro s c h;rcases boot_cases h with ⟨rfl,_⟩ | ⟨rfl,_⟩ | ⟨rfl,_⟩<;>exact ⟨by decide,.inl (by decide)⟩
 ·intro b x h;rw [boot_nodes] at h;split at h
  ·rename_i e;cases h;subst e;exact ⟨by decide,by decide,by decide,⟨0,1⟩,6,7,rfl⟩
  ·cases h
 ·intro s c h;rcases boot_cases h with ⟨_,rfl⟩ | ⟨_,rfl⟩ | ⟨_,rfl⟩<;>decide
 ·intro s b n r h;rcases boot_cases h with ⟨_,e⟩ | ⟨_,e⟩ | ⟨_,e⟩<;>cases e;exact ⟨by decide,by decide,rfl⟩
 ·intro b t h;rw [boot_thr] at h;split at h
  ·rename_i e;subst e;exact ⟨⟨0,2⟩,4,7,rfl⟩
  ·cases h
 ·intro s b n r h;rcases boot_cases h with ⟨_,e⟩ | ⟨_,e⟩ | ⟨_,e⟩<;>cases e;exact ⟨_,rfl⟩
 ·intro b q h;rw [boot_qs] at h;cases h
 ·intro s b n r g h;rcases boot_cases h with ⟨_,e⟩ | ⟨_,e⟩ | ⟨_,e⟩<;>cases e
 ·intro l hl;simp at hl;subst hl;decide
 ·intro l hl;simp at hl;subst hl;decide
 ·intro s c h;rcases boot_cases h with ⟨_,rfl⟩ | ⟨_,rfl⟩ | ⟨_,rfl⟩<;>decide
end Go.Proofs.YtdpjgflemddekaaDoor

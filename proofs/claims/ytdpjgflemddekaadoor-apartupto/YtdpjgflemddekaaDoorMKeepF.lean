/- The keeping statements: what the list of a kernel's capabilities holds to. Nothing of the program's text, but for the functions' answers. -/
import Derived.Test.YtdpjgflemddekaaDoorMKeepC
import Derived.Test.YtdpjgflemddekaaDoorMInvD
import Derived.Test.YtdpjgflemddekaaDoorMTalkP
namespace Go.Proofs.YtdpjgflemddekaaDoor
def capsL (R:RS):List AEnt:=capsTo R.R.L R.R.L.length
theorem capsL_len (R:RS):(capsL R).length=R.R.L.length:=capsTo_len _ _ (Nat.le_refl _)
theorem par_at (L:List Ent)(u:Int):∀p,p<=L.length->par L u p=(-1,-1)\/∃q,∃hq:q<L.length,q<p/\par L u p=(L[q].node,L[q].index)
 | 0,_=>.inl rfl
 | p+1,h=>by
  by_cases e:L[p].up=u-1
  ·exact .inr ⟨p,h,by omega,par_hit L u p h e⟩
  ·rw [par_miss L u p h e];rcases par_at L u p (by omega) with h1 | ⟨q,hq,h1,h2⟩
   ·exact .inl h1
   ·exact .inr ⟨q,hq,by omega,h2⟩
structure RowOk (R:RS)(S:KS)(i:Nat)(hi:i<(capsL R).length)(c:KCap)(s:Slot)(x:Std):Prop where
 node:(capsL R)[i].node=s.node
 index:(capsL R)[i].index=s.index
 held:S.K.held s=some c
 st:S.K.st s=some x
 ty:(capsL R)[i].ty=c.ty
 base:(capsL R)[i].base=c.base
 bits:(capsL R)[i].bits=c.bits
 rights:(capsL R)[i].rights=c.rights
 badge:(capsL R)[i].badge=c.badge
 mark:(capsL R)[i].mark=c.mark
 parent:(capsL R)[i].parent=x.parent.node
 place:(capsL R)[i].place=x.parent.index
theorem told_badge (c:KCap):c.told.2.2.2.2.1=c.badge:=by cases c<;>rfl
theorem Ag.row {R:RS}{S:KS}(h:Ag R S)(i:Nat)(hi:i<(capsL R).length):∃c x,RowOk R S i hi c (R.R.L[i]'(by rw [<- capsL_len];exact hi)).slot x:=by
 have hi':i<R.R.L.length:=by rw [<- capsL_len];exact hi
 obtain ⟨c,hc,ht⟩:=h.core.rel.cap _ (List.getElem_mem hi');obtain ⟨F,hF⟩:=h.core.rel.tree;have hm:R.R.L[i].slot∈F.slots:=(mem_slots h.core.rel hF).2 ⟨c,hc⟩;obtain ⟨x,hx,_⟩:=hF.stands.fact hF.nodup _ hm;have hcaps:=h.core.rel.caps hF;have e1:(capsL R)[i]=aent R.R.L i R.R.L[i]:=capsTo_get _ _ (Nat.le_refl _) i hi' hi;have e2:(capsL R)[i]=capOf S.K R.R.L[i].slot:=by
  have h1:i<(F.slots.map (capOf S.K)).length:=by rw [hcaps];exact hi
  have h2:(F.slots.map (capOf S.K))[i]=(capsL R)[i]:=by unfold capsL;congr 1
  rw [<- h2,List.getElem_map];congr 1;have h3:F.slots=R.R.L.map Ent.slot:=hF.slots;have h4:F.slots[i]'(by simpa using h1)=(R.R.L.map Ent.slot)[i]'(by simpa using hi'):=by congr 1
  rw [h4,List.getElem_map]
 obtain ⟨t1,t2,t3,t4,t5⟩:=told_parts ht;have t6:=(told_base ht).2.2;refine ⟨c,x,?_,?_,hc,hx,?_,?_,?_,?_,?_,?_,?_,?_⟩
 ·rw [e1];rfl
 ·rw [e1];rfl
 ·rw [e1];exact t1
 ·rw [e1];exact t2
 ·rw [e1];exact t3
 ·rw [e1];exact t4
 ·rw [e1];exact t5.trans (told_badge c)
 ·rw [e1];exact t6.symm
 ·rw [e2];simp only [capOf,hx,parOf]
 ·rw [e2];simp only [capOf,hx,parOf]
theorem Ag.rows_one {R:RS}{S:KS}(h:Ag R S){i j:Nat}(hi:i<R.R.L.length)(hj:j<R.R.L.length)(e:R.R.L[i].slot=R.R.L[j].slot):i=j:=by
 obtain ⟨F,hF⟩:=h.core.rel.tree;have hnd:=hF.nd;have e1:(R.R.L.map Ent.slot)[i]'(by simpa using hi)=(R.R.L.map Ent.slot)[j]'(by simpa using hj):=by simpa using e
 exact (List.getElem_inj hnd).1 e1
theorem Ag.findRow {R:RS}{S:KS}(h:Ag R S){q:Nat}(hq:q<R.R.L.length):findA (capsL R) R.R.L[q].slot.node R.R.L[q].slot.index=q:=by
 have hl:=capsL_len R;refine found_at (by rw [hl];exact hq) (fun j hj hlt=>?_) ?_
 ·obtain ⟨c,x,hr⟩:=h.row j hj;have hj':j<R.R.L.length:=by rw [<- hl];exact hj
  cases hb:isAtA R.R.L[q].slot.node R.R.L[q].slot.index (capsL R)[j] with
  | false=>rfl
  | true=>
   simp only [isAtA,Bool.and_eq_true,beq_iff_eq] at hb;rw [hr.node,hr.index] at hb;have:R.R.L[j].slot=R.R.L[q].slot:=by
    cases hA:R.R.L[j].slot;cases hB:R.R.L[q].slot
    rw [hA,hB] at hb;simp only at hb;rw [hb.1,hb.2]
   have:=h.rows_one hj' hq this;omega
 ·obtain ⟨c,x,hr⟩:=h.row q (by rw [hl];exact hq);simp only [isAtA,Bool.and_eq_true,beq_iff_eq];exact ⟨hr.node,hr.index⟩
theorem Ag.parRow {R:RS}{S:KS}(h:Ag R S){i:Nat}(hi:i<R.R.L.length){x:Std}(hx:S.K.st R.R.L[i].slot=some x):x.parent=nowhere\/∃q,∃hq:q<R.R.L.length,q<i/\x.parent=R.R.L[q].slot:=by
 have hi2:i<(capsL R).length:=by rw [capsL_len];exact hi
 obtain ⟨c,x',hr⟩:=h.row i hi2;have:x'=x:=by have:=hr.st.symm.trans hx;exact Option.some.inj this
 subst this;have e1:(capsL R)[i]=aent R.R.L i R.R.L[i]:=capsTo_get _ _ (Nat.le_refl _) i hi hi2;have p1:=hr.parent;have p2:=hr.place;rw [e1] at p1 p2;simp only [aent] at p1 p2;rcases par_at R.R.L R.R.L[i].up i (by omega) with h1 | ⟨q,hq,h1,h2⟩
 ·left;rw [h1] at p1 p2;cases hp:x'.parent;rw [hp] at p1 p2;simp only at p1 p2;rw [<- p1,<- p2];rfl
 ·right;refine ⟨q,hq,h1,?_⟩;rw [h2] at p1 p2;cases hp:x'.parent;rw [hp] at p1 p2;simp only at p1 p2;rw [<- p1,<- p2];rfl
theorem Ag.above {R:RS}{S:KS}(h:Ag R S){i:Nat}(hi:i<R.R.L.length){t:Slot}(hu:Up S.K.st R.R.L[i].slot t):∀(j:Nat) (hj:j<R.R.L.length),R.R.L[j].slot=t->∀fuel,j<fuel->aboveA (capsL R) i fuel j=true:=by
 have hl:=capsL_len R;have step:∀(j:Nat) (hj:j<R.R.L.length) (x:Std) (_:S.K.st R.R.L[j].slot=some x) (q:Nat) (hq:q<R.R.L.length) (_:x.parent=R.R.L[q].slot) (k:Nat),(q=i\/aboveA (capsL R) i k q=true)->aboveA (capsL R) i (k+1) j=true:=by
  intro j hj x hx q hq hp k hk;obtain ⟨c,x',hr⟩:=h.row j (by rw [hl];exact hj);have:x'=x:=by have:=hr.st.symm.trans hx;exact Option.some.inj this
  subst this;have hf:=h.findRow hq;obtain ⟨cq,hcq,_⟩:=h.core.rel.cap _ (List.getElem_mem hq);have h0:=(h.core.slot hcq).1;have e1:=hr.parent;have e2:=hr.place;rw [hp] at e1 e2;show (match (capsL R)[(j:Int).toNat]? with
   | none=>false
   | some a=>if a.parent<0 then false else if findA (capsL R) a.parent a.place<0 then false else if findA (capsL R) a.parent a.place=i then true else aboveA (capsL R) i k (findA (capsL R) a.parent a.place))=true
  rw [Int.toNat_natCast,List.getElem?_eq_getElem (by rw [hl];exact hj)];simp only;rw [e1,e2,hf,if_neg (by omega),if_neg (by omega)];rcases hk with hk | hk
  ·rw [if_pos (by rw [hk])]
  ·split
   ·rfl
   ·exact hk
 induction hu with
 | one h1 h2 h3=>
  intro j hj e fuel hfu;obtain ⟨k,rfl⟩:∃k,fuel=k+1:=⟨fuel-1,by omega⟩;exact step j hj _ (by rw [e];exact h2) i hi h3 k (.inl rfl)
 | more h1 h2 h3 ih=>
  intro j hj e fuel hfu;obtain ⟨k,rfl⟩:∃k,fuel=k+1:=⟨fuel-1,by omega⟩;rcases h.parRow hj (by rw [e];exact h2) with hp | ⟨q,hq,hqj,hp⟩
  ·exact absurd hp h3.ne
  ·exact step j hj _ (by rw [e];exact h2) q hq hp k (.inr (ih q hq hp.symm k (by omega)))
theorem Ag.apartA {R:RS}{S:KS}(h:Ag R S):ApartA (capsL R) R.D:=by
 have hl:=capsL_len R;refine ⟨?_,?_,?_,?_,?_⟩
 ·intro i hi;obtain ⟨c,x,hr⟩:=h.row i hi;obtain ⟨h1,h2,h3,h4,h5,h6⟩:=h.core.cap _ c hr.held;have:=pw_pos c.bits.toNat;rw [hr.base,hr.bits];omega
 ·intro i j hi hj hlt;obtain ⟨c,x,hr⟩:=h.row i hi;obtain ⟨d,y,hr'⟩:=h.row j hj;have hi':i<R.R.L.length:=by rw [<- hl];exact hi
  have hj':j<R.R.L.length:=by rw [<- hl];exact hj
  have hne:R.R.L[i].slot≠R.R.L[j].slot:=fun e=>by have:=h.rows_one hi' hj' e;omega
  rw [hr.ty,hr.base,hr.bits,hr'.ty,hr'.base,hr'.bits];rcases h.core.geo.apart _ _ c d hne hr.held hr'.held with g | g | ⟨g1,g2⟩ | ⟨g1,g2⟩
  ·refine .inl (fun hm=>?_);unfold Disj at g;obtain ⟨m1,m2⟩:=hm;omega
  ·refine .inr (.inl ⟨g.2.1,g.2.2.1,g.2.2.2,fun e=>?_⟩);have:=g.1;rw [isU_ty.2 e] at this;cases this
  ·exact .inr (.inr (.inl ⟨isU_ty.1 g1,h.above hi' g2 j hj' rfl _ (by omega)⟩))
  ·exact .inr (.inr (.inr ⟨isU_ty.1 g1,h.above hj' g2 i hi' rfl _ (by omega)⟩))
 ·intro i hi;have:=h.core.dm _ (List.getElem_mem hi);omega
 ·intro i j hi hj;obtain ⟨c,x,hr⟩:=h.row j hj;rw [hr.ty,hr.base,hr.bits];cases hu:c.isU with
  | true=>exact .inl (isU_ty.1 hu)
  | false=>
   refine .inr (fun hm=>?_);obtain ⟨m1,m2⟩:=hm;have h8:pw (3:Int).toNat=8:=rfl;rw [h8] at m2;have:=h.core.dap _ (List.getElem_mem hi) _ c hr.held hu;omega
 ·intro i j hi hj hlt e;have hnd:=h.core.dn;have e1:(R.D.map Prod.fst)[j]'(by simpa using hj)=(R.D.map Prod.fst)[i]'(by simpa using hi):=by simpa using e
  have:=(List.getElem_inj hnd).1 e1;omega
theorem Ag.withinA {R:RS}{S:KS}(h:Ag R S):WithinA (capsL R):=by
 have hl:=capsL_len R;refine ⟨?_,?_⟩
 ·intro i hi;obtain ⟨c,x,hr⟩:=h.row i hi;obtain ⟨h1,h2,h3,h4,h5,h6⟩:=h.core.cap _ c hr.held;have:=pw_pos c.bits.toNat;rw [hr.base,hr.bits,hr.mark];omega
 ·intro i hi hp;obtain ⟨c,x,hr⟩:=h.row i hi;have hi':i<R.R.L.length:=by rw [<- hl];exact hi
  rcases h.parRow hi' hr.st with e | ⟨q,hq,hqi,e⟩
  ·rw [hr.parent,e] at hp;exact absurd hp (by decide)
  ·obtain ⟨d,y,hr'⟩:=h.row q (by rw [hl];exact hq);refine ⟨q,by rw [hl];exact hq,hqi,by rw [hr.parent,hr.place,e];exact h.findRow hq,?_⟩;rw [hr.ty,hr.base,hr.bits,hr.badge,hr'.ty,hr'.base,hr'.bits,hr'.badge,hr'.mark];have htn:R.R.L[i].slot≠nowhere:=slot_ne_nowhere (h.core.inN _ _ hr.held).1;have hw:=h.core.geo.within _ x c d htn hr.st hr.held (by rw [e];exact hr'.held);have hcd:=(h.core.cap _ d hr'.held).2.2.2.2.2;cases hu:d.isU with
   | true=>
    left;cases d with
    | untyped b n m=>exact ⟨rfl,hw.1,hw.2,hcd⟩
    | _=>cases hu
   | false=>
    right;obtain ⟨hs,hb⟩:=(within_not hu).1 hw;refine ⟨fun e=>?_,hs.2.1,hs.2.2.1,hs.2.2.2,hb.imp id Eq.symm⟩
    rw [isU_ty.2 e] at hu;cases hu
end Go.Proofs.YtdpjgflemddekaaDoor

/- The keeping statements: what the list of a kernel's capabilities holds to. Nothing of the program's text, but for the functions' answers. -/
import Derived.Test.YtdpjgflemddekaaDoorMKeepC
import Derived.Test.YtdpjgflemddekaaDoorMInvD
import Derived.Test.YtdpjgflemddekaaDoorMTalkP
set_option maxHeartbeats 1000000
namespace Go.Proofs.YtdpjgflemddekaaDoor
def capsL (R:RS):List AEnt:=capsTo R.R.L R.R.L.length
theorem capsL_len (R:RS):(capsL R).length=R.R.L.length:=capsTo_len _ _ (Nat.le_refl _)
theorem par_at (L:List Ent)(u:Int):∀p,p<=L.length->par L u p=(-1,-1)\/∃q,∃hq:q<L.length,q<p/\par L u p=(L[q].node,L[q].index)
 | 0,_=>.inl rfl
 | p+1,h=>by
  by_cases e:L[p].up=u-1
  ·exact .inr ⟨p,h,by omega,par_hit L u p h e⟩
  ·rw [par_miss L u p h e];rcases par_at L u p (by omega) with h1 | ⟨q,hq,h1,h2⟩
   ·exact .inl h1
   ·exact .inr ⟨q,hq,by omega,h2⟩
structure RowOk (R:RS)(S:KS)(i:Nat)(hi:i<(capsL R).length)(c:KCap)(s:Slot)(x:Std):Prop where
 node:(capsL R)[i].node=s.node
 index:(capsL R)[i].index=s.index
 held:S.K.held s=some c
 st:S.K.st s=some x
 ty:(capsL R)[i].ty=c.ty
 base:(capsL R)[i].base=c.base
 bits:(capsL R)[i].bits=c.bits
 rights:(capsL R)[i].rights=c.rights
 badge:(capsL R)[i].badge=c.badge
 mark:(capsL R)[i].mark=c.mark
 parent:(capsL R)[i].parent=x.parent.node
 place:(capsL R)[i].place=x.parent.index
theorem told_badge (c:KCap):c.told.2.2.2.2.1=c.badge:=by cases c<;>rfl
theorem Ag.row {R:RS}{S:KS}(h:Ag R S)(i:Nat)(hi:i<(capsL R).length):∃c x,RowOk R S i hi c (R.R.L[i]'(by rw [<- capsL_len];exact hi)).slot x:=by
 have hi':i<R.R.L.length:=by rw [<- capsL_len];exact hi
 obtain ⟨c,hc,ht⟩:=h.core.rel.cap _ (List.getElem_mem hi');obtain ⟨F,hF⟩:=h.core.rel.tree;have hm:R.R.L[i].slot∈F.slots:=(mem_slots h.core.rel hF).2 ⟨c,hc⟩;obtain ⟨x,hx,_⟩:=hF.stands.fact hF.nodup _ hm;have hcaps:=h.core.rel.caps hF;have e1:(capsL R)[i]=aent R.R.L i R.R.L[i]:=capsTo_get _ _ (Nat.le_refl _) i hi' hi;have e2:(capsL R)[i]=capOf S.K R.R.L[i].slot:=by
  have h1:i<(F.slots.map (capOf S.K)).length:=by rw [hcaps];exact hi
  have h2:(F.slots.map (capOf S.K))[i]=(capsL R)[i]:=by unfold capsL;congr 1
  rw [<- h2,List.getElem_map];congr 1;have h3:F.slots=R.R.L.map Ent.slot:=hF.slots;have h4:F.slots[i]'(by simpa using h1)=(R.R.L.map Ent.slot)[i]'(by simpa using hi'):=by congr 1
  rw [h4,List.getElem_map]
 obtain ⟨t1,t2,t3,t4,t5⟩:=told_parts ht;have t6:=(told_base ht).2.2;refine ⟨c,x,?_,?_,hc,hx,?_,?_,?_,?_,?_,?_,?_,?_⟩
 ·rw [e1];rfl
 ·rw [e1];rfl
 ·rw [e1];exact t1
 ·rw [e1];exact t2
 ·rw [e1];exact t3
 ·rw [e1];exact t4
 ·rw [e1];exact t5.trans (told_badge c)
 ·rw [e1];exact t6.symm
 ·rw [e2];simp only [capOf,hx,parOf]
 ·rw [e2];simp only [capOf,hx,parOf]
theorem Ag.rows_one {R:RS}{S:KS}(h:Ag R S){i j:Nat}(hi:i<R.R.L.length)(hj:j<R.R.L.length)(e:R.R.L[i].slot=R.R.L[j].slot):i=j:=by
 obtain ⟨F,hF⟩:=h.core.rel.tree;have hnd:=hF.nd;have e1:(R.R.L.map Ent.slot)[i]'(by simpa using hi)=(R.R.L.map Ent.slot)[j]'(by simpa using hj):=by simpa using e
 exact (List.getElem_inj hnd).1 e1
theorem Ag.findRow {R:RS}{S:KS}(h:Ag R S){q:Nat}(hq:q<R.R.L.length):findA (capsL R) R.R.L[q].slot.node R.R.L[q].slot.index=q:=by
 have hl:=capsL_len R;refine found_at (by rw [hl];exact hq) (fun j hj hlt=>?_) ?_
 ·obtain ⟨c,x,hr⟩:=h.row j hj;have hj':j<R.R.L.length:=by rw [<- hl];exact hj
  cases hb:isAtA R.R.L[q].slot.node R.R.L[q].slot.index (capsL R)[j] with
  | false=>rfl
  | true=>
   simp only [isAtA,Bool.and_eq_true,beq_iff_eq] at hb;rw [hr.node,hr.index] at hb;have:R.R.L[j].slot=R.R.L[q].slot:=by
    cases hA:R.R.L[j].slot;cases hB:R.R.L[q].slot
    rw [hA,hB] at hb;simp only at hb;rw [hb.1,hb.2]
   have:=h.rows_one hj' hq this;omega
 ·obtain ⟨c,x,hr⟩:=h.row q (by rw [hl];exact hq);simp only [isAtA,Bool.and_eq_true,beq_iff_eq];exact ⟨hr.node,hr.index⟩
theorem Ag.parRow {R:RS}{S:KS}(h:Ag R S){i:Nat}(hi:i<R.R.L.length){x:Std}(hx:S.K.st R.R.L[i].slot=some x):x.parent=nowhere\/∃q,∃hq:q<R.R.L.length,q<i/\x.parent=R.R.L[q].slot:=by
 have hi2:i<(capsL R).length:=by rw [capsL_len];exact hi
 obtain ⟨c,x',hr⟩:=h.row i hi2;have:x'=x:=by have:=hr.st.symm.trans hx;exact Option.some.inj this
 subst this;have e1:(capsL R)[i]=aent R.R.L i R.R.L[i]:=capsTo_get _ _ (Nat.le_refl _) i hi hi2;have p1:=hr.parent;have p2:=hr.place;rw [e1] at p1 p2;simp only [aent] at p1 p2;rcases par_at R.R.L R.R.L[i].up i (by omega) with h1 | ⟨q,hq,h1,h2⟩
 ·left;rw [h1] at p1 p2;cases hp:x'.parent;rw [hp] at p1 p2;simp only at p1 p2;rw [<- p1,<- p2];rfl
 ·right;refine ⟨q,hq,h1,?_⟩;rw [h2] at p1 p2;cases hp:x'.parent;rw [hp] at p1 p2;simp only at p1 p2;rw [<- p1,<- p2];rfl
theorem Ag.above {R:RS}{S:KS}(h:Ag R S){i:Nat}(hi:i<R.R.L.length){t:Slot}(hu:Up S.K.st R.R.L[i].slot t):∀(j:Nat) (hj:j<R.R.L.length),R.R.L[j].slot=t->∀fuel,j<fuel->aboveA (capsL R) i fuel j=true:=by
 have hl:=capsL_len R;have step:∀(j:Nat) (hj:j<R.R.L.length) (x:Std) (_:S.K.st R.R.L[j].slot=some x) (q:Nat) (hq:q<R.R.L.length) (_:x.parent=R.R.L[q].slot) (k:Nat),(q=i\/aboveA (capsL R) i k q=true)->aboveA (capsL R) i (k+1) j=true:=by
  intro j hj x hx q hq hp k hk;obtain ⟨c,x',hr⟩:=h.row j (by rw [hl];exact hj);have:x'=x:=by have:=hr.st.symm.trans hx;exact Option.some.inj this
  subst this;have hf:=h.findRow hq;obtain ⟨cq,hcq,_⟩:=h.core.rel.cap _ (List.getElem_mem hq);have h0:=(h.core.slot hcq).1;have e1:=hr.parent;have e2:=hr.place;rw [hp] at e1 e2;show (match (capsL R)[(j:Int).toNat]? with
   | none=>false
   | some a=>if a.parent<0 then false else if findA (capsL R) a.parent a.place<0 then false else if findA (capsL R) a.parent a.place=i then true else aboveA (capsL R) i k (findA (capsL R) a.parent a.place))=true
  rw [Int.toNat_natCast,List.getElem?_eq_getElem (by rw [hl];exact hj)];simp only;rw [e1,e2,hf,if_neg (by omega),if_neg (by omega)];rcases hk with hk | hk
  ·rw [if_pos (by rw [hk])]
  ·split
   ·rfl
   ·exact hk
 induction hu with
 | one h1 h2 h3=>
  intro j hj e fuel hfu;obtain ⟨k,rfl⟩:∃k,fuel=k+1:=⟨fuel-1,by omega⟩;exact step j hj _ (by rw [e];exact h2) i hi h3 k (.inl rfl)
 | more h1 h2 h3 ih=>
  intro j hj e fuel hfu;obtain ⟨k,rfl⟩:∃k,fuel=k+1:=⟨fuel-1,by omega⟩;rcases h.parRow hj (by rw [e];exact h2) with hp | ⟨q,hq,hqj,hp⟩
  ·exact absurd hp h3.ne
  ·exact step j hj _ (by rw [e];exact h2) q hq hp k (.inr (ih q hq hp.symm k (by omega)))
theorem Ag.apartA {R:RS}{S:KS}(h:Ag R S):ApartA (capsL R) R.D:=by
 have hl:=capsL_len R;refine ⟨?_,?_,?_,?_,?_⟩
 ·intro i hi;obtain ⟨c,x,hr⟩:=h.row i hi;obtain ⟨h1,h2,h3,h4,h5,h6⟩:=h.core.cap _ c hr.held;have:=pw_pos c.bits.toNat;rw [hr.base,hr.bits];omega
 ·intro i j hi hj hlt;obtain ⟨c,x,hr⟩:=h.row i hi;obtain ⟨d,y,hr'⟩:=h.row j hj;have hi':i<R.R.L.length:=by rw [<- hl];exact hi
  have hj':j<R.R.L.length:=by rw [<- hl];exact hj
  have hne:R.R.L[i].slot≠R.R.L[j].slot:=fun e=>by have:=h.rows_one hi' hj' e;omega
  rw [hr.ty,hr.base,hr.bits,hr'.ty,hr'.base,hr'.bits];rcases h.core.geo.apart _ _ c d hne hr.held hr'.held with g | g | ⟨g1,g2⟩ | ⟨g1,g2⟩
  ·refine .inl (fun hm=>?_);unfold Disj at g;obtain ⟨m1,m2⟩:=hm;omega
  ·refine .inr (.inl ⟨g.2.1,g.2.2.1,g.2.2.2,fun e=>?_⟩);have:=g.1;rw [isU_ty.2 e] at this;cases this
  ·exact .inr (.inr (.inl ⟨isU_ty.1 g1,h.above hi' g2 j hj' rfl _ (by omega)⟩))
  ·exact .inr (.inr (.inr ⟨isU_ty.1 g1,h.above hj' g2 i hi' rfl _ (by omega)⟩))
 ·intro i hi;have:=h.core.dm _ (List.getElem_mem hi);omega
 ·intro i j hi hj;obtain ⟨c,x,hr⟩:=h.row j hj;rw [hr.ty,hr.base,hr.bits];cases hu:c.isU with
  | true=>exact .inl (isU_ty.1 hu)
  | false=>
   refine .inr (fun hm=>?_);obtain ⟨m1,m2⟩:=hm;have h8:pw (3:Int).toNat=8:=rfl;rw [h8] at m2;have:=h.core.dap _ (List.getElem_mem hi) _ c hr.held hu;omega
 ·intro i j hi hj hlt e;have hnd:=h.core.dn;have e1:(R.D.map Prod.fst)[j]'(by simpa using hj)=(R.D.map Prod.fst)[i]'(by simpa using hi):=by simpa using e
  have:=(List.getElem_inj hnd).1 e1;omega
theorem Ag.withinA {R:RS}{S:KS}(h:Ag R S):WithinA (capsL R):=by
 have hl:=capsL_len R;refine ⟨?_,?_⟩
 ·intro i hi;obtain ⟨c,x,hr⟩:=h.row i hi;obtain ⟨h1,h2,h3,h4,h5,h6⟩:=h.core.cap _ c hr.held;have:=pw_pos c.bits.toNat;rw [hr.base,hr.bits,hr.mark];omega
 ·intro i hi hp;obtain ⟨c,x,hr⟩:=h.row i hi;have hi':i<R.R.L.length:=by rw [<- hl];exact hi
  rcases h.parRow hi' hr.st with e | ⟨q,hq,hqi,e⟩
  ·rw [hr.parent,e] at hp;exact absurd hp (by decide)
  ·obtain ⟨d,y,hr'⟩:=h.row q (by rw [hl];exact hq);refine ⟨q,by rw [hl];exact hq,hqi,by rw [hr.parent,hr.place,e];exact h.findRow hq,?_⟩;rw [hr.ty,hr.base,hr.bits,hr.badge,hr'.ty,hr'.base,hr'.bits,hr'.badge,hr'.mark];have htn:R.R.L[i].slot≠nowhere:=slot_ne_nowhere (h.core.inN _ _ hr.held).1;have hw:=h.core.geo.within _ x c d htn hr.st hr.held (by rw [e];exact hr'.held);have hcd:=(h.core.cap _ d hr'.held).2.2.2.2.2;cases hu:d.isU with
   | true=>
    left;cases d with
    | untyped b n m=>exact ⟨rfl,hw.1,hw.2,hcd⟩
    | _=>cases hu
   | false=>
    right;obtain ⟨hs,hb⟩:=(within_not hu).1 hw;refine ⟨fun e=>?_,hs.2.1,hs.2.2.1,hs.2.2.2,hb.imp id Eq.symm⟩
    rw [isU_ty.2 e] at hu;cases hu
def Less (S S':KS):Prop:=∀s c,S'.K.held s=some c->S.K.held s=some c
theorem Less.refl (S:KS):Less S S:=fun _ _ h=>h
theorem Less.trans {S S1 S2:KS}(h:Less S S1)(g:Less S1 S2):Less S S2:=fun s c e=>h s c (g s c e)
theorem goneK_held (S:KS)(c:KCap):(goneK S c).K.held=S.K.held:=by cases c<;>rfl
theorem takeK_less (S:KS)(s:Slot):Less S (takeK S s):=by
 have ho:∀s' c,(outK S.K s).held s'=some c->S.K.held s'=some c:=by
  intro s' c h;have h:upd S.K.held s none s'=some c:=h;by_cases e:s'=s
  ·rw [e,upd_same] at h;cases h
  ·rw [upd_other _ _ e] at h;exact h
 cases hc:S.K.held s with
 | none=>rw [takeK_none hc];exact Less.refl S
 | some c=>
  by_cases hh:heldK (outK S.K s) c.ty c.base
  ·rw [takeK_held hc hh];exact ho
  ·rw [takeK_gone hc hh];intro s' c' h;rw [goneK_held] at h;exact ho s' c' h
theorem stepK_less (S:KS):Less S (stepK S):=by
 unfold stepK;split
 ·exact Less.refl S
 ·split
  ·exact Less.refl S
  ·exact takeK_less {S with D:=_} _
theorem workG_less:∀(n:Nat) (S:KS) (bs:List Bool),Less S (workG stepK doneK n S bs).1
 | 0,S,bs=>Less.refl S
 | n+1,S,bs=>by
  unfold workG;split
  ·exact Less.refl S
  ·cases bs with
   | nil=>exact (stepK_less S).trans (workG_less n _ _)
   | cons b r=>
    simp only;split
    ·exact stepK_less S
    ·exact (stepK_less S).trans (workG_less n _ _)
theorem takeBK_less (S:KS)(s:Slot)(bs:List Bool):Less S (takeBK S s bs).2.1:=by
 unfold takeBK;split
 ·exact takeK_less S s
 ·exact (takeK_less S s).trans (workG_less _ _ _)
theorem revokeK_less:∀(n:Nat) (S:KS) (s:Slot) (bs:List Bool),Less S (revokeK n S s bs).2.1
 | 0,S,_,_=>Less.refl S
 | n+1,S,s,bs=>by
  unfold revokeK;split
  ·split
   ·exact (takeBK_less S _ _).trans (revokeK_less n _ _ _)
   ·exact takeBK_less S _ _
  ·exact Less.refl S
def OfK (K:Ker)(c':KCap):Prop:=
 (∃s c,K.held s=some c/\c.ty=c'.ty/\c.base=c'.base/\lessI c'.rights c.rights=0/\(c'.badge=0->c.badge=0))\/(∀s c,K.held s=some c->c.ty=c'.ty->c.base≠c'.base)
theorem less_self {r:Int}(h:0<=r/\r<=7):lessI r r=0:=by
 have e:r=0\/r=1\/r=2\/r=3\/r=4\/r=5\/r=6\/r=7:=by omega
 rcases e with rfl | rfl | rfl | rfl | rfl | rfl | rfl | rfl<;>decide
theorem less_and:∀a b:Fin 8,lessI (andI (a.val:Int) (b.val:Int)) (a.val:Int)=0:=by decide +kernel
theorem less_or:∀a b x:Fin 8,lessI (a.val:Int) (x.val:Int)=0->lessI (b.val:Int) (x.val:Int)=0->lessI (orI (a.val:Int) (b.val:Int)) (x.val:Int)=0:=by decide +kernel
theorem less_in:∀a b x:Fin 8,(lessI (x.val:Int) (a.val:Int)=0\/lessI (x.val:Int) (b.val:Int)=0)->lessI (x.val:Int) (orI (a.val:Int) (b.val:Int))=0:=by decide +kernel
theorem less_tr:∀a b x:Fin 8,lessI (a.val:Int) (b.val:Int)=0->lessI (b.val:Int) (x.val:Int)=0->lessI (a.val:Int) (x.val:Int)=0:=by decide +kernel
theorem or_rng:∀a b:Fin 8,0<=orI (a.val:Int) (b.val:Int)/\orI (a.val:Int) (b.val:Int)<=7:=by decide +kernel
theorem fin8 {r:Int}(h:0<=r/\r<=7):∃a:Fin 8,r=(a.val:Int):=⟨⟨r.toNat,by omega⟩,by simp;omega⟩
theorem OfK.self {R:RS}{S:KS}(h:Ag R S){s:Slot}{c:KCap}(hc:S.K.held s=some c):OfK S.K c:=
 .inl ⟨s,c,hc,rfl,rfl,less_self (h.core.rt s c hc),id⟩
theorem lay_held {K:Ker}{t:Slot}{c:KCap}{p s:Slot}{c':KCap}(h:(K.lay t c p).held s=some c'):c'=c\/K.held s=some c':=by
 have h:upd K.held t (some c) s=some c':=h;by_cases e:s=t
 ·rw [e,upd_same] at h;exact .inl (Option.some.inj h).symm
 ·rw [upd_other _ _ e] at h;exact .inr h
theorem child_from {R:RS}{S:KS}(h:Ag R S)(root:Int)(l:List Int)(k:KCap)(p:Slot)(hk:OfK S.K k):∀s' c',(orTwo S.K (layChildK S.K root l k p)).2.held s'=some c'->OfK S.K c':=by
 unfold layChildK;split
 ·exact fun s' c' e=>OfK.self h e
 ·split
  ·exact fun s' c' e=>OfK.self h e
  ·intro s' c' e;rcases lay_held e with rfl | e
   ·exact hk
   ·exact OfK.self h e
theorem small_from {R:RS}{S:KS}(h:Ag R S)(root:Int)(c:Cl):∀s' c',(orTwo S.K (smallK S.K root c)).2.held s'=some c'->OfK S.K c':=by
 have stay:∀s' c',S.K.held s'=some c'->OfK S.K c':=fun s' c' e=>OfK.self h e
 have hl:∀(s:Slot) (k:KCap) (r:Int),S.K.held s=some k->0<=r/\r<=7->lessI (andI k.rights r) k.rights=0:=by
  intro s k r hk hr;obtain ⟨a,ha⟩:=fin8 (h.core.rt s k hk);obtain ⟨b,hb⟩:=fin8 hr;rw [ha,hb];exact less_and a b
 unfold smallK;split
 ·unfold copyK;split
  ·exact stay
  ·rename_i s hs;cases hk:S.K.held s with
   | none=>exact stay
   | some k=>
    simp only;split
    ·exact stay
    ·split
     ·rename_i hu hr;refine child_from h root _ _ _ (.inl ⟨s,k,hk,?_,?_,?_,?_⟩)
      ·cases k<;>rfl
      ·cases k<;>rfl
      ·have:=hl s k _ hk hr;have e1:(lessC k c.rights).rights=andI k.rights c.rights:=by
        cases k with
        | untyped b n m=>exact absurd rfl hu
        | _=>rfl
       rw [e1];exact this
      ·cases k<;>exact id
     ·exact stay
 ·split
  ·unfold mintK;split
   ·exact stay
   ·rename_i s hs;cases hk:S.K.held s with
    | none=>exact stay
    | some k=>
     cases k with
     | endpoint b n q g=>
      simp only;split
      ·exact stay
      ·split
       ·rename_i hg hr;have h1:=hl s (.endpoint b n q g) c.rights hk hr.1;rw [show (KCap.endpoint b n q g).rights=q from rfl] at h1;refine child_from h root _ _ _ (.inl ⟨s,.endpoint b n q g,hk,rfl,rfl,?_,?_⟩)
        ·rw [show (lessC (.endpoint b n q c.badge) c.rights).rights=andI q c.rights from rfl,show (KCap.endpoint b n q g).rights=q from rfl];exact h1
        ·intro e;have:c.badge=0:=e;omega
       ·exact stay
     | _=>exact stay
  ·unfold moveK;split
   ·exact stay
   ·rename_i s hs;cases hk:S.K.held s with
    | none=>exact stay
    | some k=>
     simp only;split
     ·exact stay
     ·split
      ·exact stay
      ·rename_i t ht hn;intro s' c' e;have e:upd (upd S.K.held s none) t (some k) s'=some c':=e;by_cases e1:s'=t
       ·rw [e1,upd_same] at e;cases e;exact OfK.self h hk
       ·rw [upd_other _ _ e1] at e;by_cases e2:s'=s
        ·rw [e2,upd_same] at e;cases e
        ·rw [upd_other _ _ e2] at e;exact OfK.self h e
theorem foundK_held {K:Ker}{t:Slot}{c:KCap}{p:Slot}{root:Int}{s:Slot}{c':KCap}(h:(K.found t c p root).held s=some c'):c'=c\/K.held s=some c':=by
 cases c<;>exact lay_held (p:=p) h
theorem carveTo_held {K:Ker}{f s:Slot}{ty bits root st:Int}:∀(i:Nat) (s':Slot) (c':KCap),(carveTo K f s ty bits root st i).held s'=some c'->(∃j:Nat,j<i/\c'=madeC ty (st+j*pw bits.toNat) bits)\/K.held s'=some c'
 | 0,_,_,h=>.inr h
 | i+1,s',c',h=>by
  rcases foundK_held h with e | e
  ·exact .inl ⟨i,by omega,e⟩
  ·rcases carveTo_held i s' c' e with ⟨j,hj,e1⟩ | e1
   ·exact .inl ⟨j,by omega,e1⟩
   ·exact .inr e1
theorem isU_all {c:KCap}(h:c.isU=true):c.ty=1/\c.rights=7/\c.badge=0:=by cases c<;>first | exact ⟨rfl,rfl,rfl⟩ | cases h
theorem madeC_parts (ty a n:Int):(madeC ty a n).base=a/\(madeC ty a n).rights=7/\(madeC ty a n).badge=0/\(madeC ty a n).bits=n:=by
 unfold madeC;repeat' split
 all_goals exact ⟨rfl,rfl,rfl,rfl⟩
theorem carves_from {R:RS}{S:KS}(h:Ag R S){f:Slot}{b n m:Int}(hf:S.K.held f=some (.untyped b n m))(s:Slot)(ty bits root:Int)(cnt:Nat):∀s' c',(carveK S.K f s ty bits root b n m cnt).2.held s'=some c'->OfK S.K c':=by
 unfold carveK;split
 ·exact fun s' c' e=>OfK.self h e
 ·rename_i hroom;intro s' c' e;have hpos:=pw_pos bits.toNat;have hge:=upTo_ge (b+m) (pw bits.toNat) (by omega);have e:upd (carveTo S.K f s ty bits root (upTo (b+m) (pw bits.toNat)) cnt).held f (some (.untyped b n (upTo (b+m) (pw bits.toNat)+cnt*pw bits.toNat-b))) s'=some c':=e;by_cases e1:s'=f
  ·rw [e1,upd_same] at e;cases e
   exact .inl ⟨f,_,hf,rfl,rfl,(by decide:lessI 7 7=0),fun _=>rfl⟩
  ·rw [upd_other _ _ e1] at e;rcases carveTo_held cnt s' c' e with ⟨j,hj,rfl⟩ | e2
   ·obtain ⟨p1,p2,p3,p4⟩:=madeC_parts ty (upTo (b+m) (pw bits.toNat)+j*pw bits.toNat) bits;have hle:(j+1:Int)*pw bits.toNat<=cnt*pw bits.toNat:=Int.mul_le_mul_of_nonneg_right (by omega) (by omega);have h0:0<=(j:Int)*pw bits.toNat:=Int.mul_nonneg (by omega) (by omega);rw [Int.add_mul,Int.one_mul] at hle;have hF:=h.core.free hf (a:=upTo (b+m) (pw bits.toNat)+j*pw bits.toNat) (z:=pw bits.toNat) (by omega) (by omega);by_cases hex:∃s c,S.K.held s=some c/\c.ty=(madeC ty (upTo (b+m) (pw bits.toNat)+j*pw bits.toNat) bits).ty/\c.base=(madeC ty (upTo (b+m) (pw bits.toNat)+j*pw bits.toNat) bits).base
    ·obtain ⟨s2,c2,g1,g2,g3⟩:=hex;have hu:c2.isU=true:=by
      by_cases e3:s2=f
      ·rw [e3,hf] at g1;cases g1;rfl
      ·rcases hF s2 c2 e3 g1 with g | g
       ·rw [g3,p1] at g;have:=pw_pos c2.bits.toNat;omega
       ·exact g.1
     obtain ⟨_,u2,u3⟩:=isU_all hu;exact .inl ⟨s2,c2,g1,g2,g3,by rw [p2,u2];exact (by decide:lessI 7 7=0),fun _=>u3⟩
    ·exact .inr fun s2 c2 g1 g2 g3=>hex ⟨s2,c2,g1,g2,g3⟩
   ·exact OfK.self h e2
theorem new_held (S:KS)(th:Int)(c:Cl):(newKS S th c).2.2.K.held=S.K.held:=by
 unfold newKS;split
 ·rfl
 ·split
  ·rfl
  ·rename_i t _ _;have:∀y,newCall S.K th t.root c=some y->y.2.2.held=S.K.held:=by
    intro y hy;unfold newCall at hy;split at hy
    ·unfold sendK at hy;split at hy
     ·cases hy
     ·split at hy
      ·cases hy;rfl
      ·split at hy
       ·cases hy
        simp only [sendAt];split<;>rfl
       ·cases hy;rfl
    ·split at hy
     ·unfold recvK at hy;split at hy
      ·cases hy
      ·split at hy
       ·cases hy;rfl
       ·cases hy
        simp only [recvAt];split<;>rfl
     ·split at hy
      ·unfold loadK at hy;split at hy
       ·cases hy
       ·split at hy<;>(cases hy;rfl)
      ·split at hy
       ·unfold storeK at hy;split at hy
        ·cases hy
        ·split at hy
         ·cases hy;rfl
         ·split at hy<;>(cases hy;rfl)
       ·unfold rootK at hy;repeat' (split at hy)
        all_goals first | (cases hy;done) | (cases hy;rfl)
   cases hn:newCall S.K th t.root c with
   | none=>rfl
   | some y=>exact this y hn
theorem workKS_nil (n:Nat){S:KS}(hD:S.D=[])(bs:List Bool):workG stepK doneK n S bs=(S,bs,true):=by
 cases n with
 | zero=>rfl
 | succ n=>unfold workG;rw [if_pos (by unfold doneK;rw [hD];rfl)]
theorem OfK.reset {K:Ker}{f:Slot}{b n m m':Int}{c':KCap}(hf:K.held f=some (.untyped b n m))(h:OfK (resetK K f b n m m') c'):OfK K c':=by
 have hh:∀s,(resetK K f b n m m').held s=upd K.held f (some (.untyped b n m')) s:=fun _=>rfl
 rcases h with ⟨s,c,h1,h2,h3,h4,h5⟩ | h
 ·rw [hh] at h1;by_cases e:s=f
  ·rw [e,upd_same] at h1;cases h1
   exact .inl ⟨f,_,hf,h2,h3,h4,h5⟩
  ·rw [upd_other _ _ e] at h1;exact .inl ⟨s,c,h1,h2,h3,h4,h5⟩
 ·refine .inr fun s c h1 h2=>?_
  by_cases e:s=f
  ·rw [e,hf] at h1;cases h1
   exact h f (.untyped b n m') (by rw [hh,upd_same]) h2
  ·exact h s c (by rw [hh,upd_other _ _ e];exact h1) h2
theorem retype_from {R:RS}{S:KS}(h:Ag R S)(root:Int)(c:Cl)(bs:List Bool):∀s' c',(orTwoS S (retypeKB S root c bs)).2.K.held s'=some c'->OfK S.K c':=by
 have stay:∀s' c',S.K.held s'=some c'->OfK S.K c':=fun s' c' e=>OfK.self h e
 unfold retypeKB;split
 ·exact stay
 ·rename_i f hfi;cases hk:S.K.held f with
  | none=>exact stay
  | some k=>
   cases k with
   | untyped b n m=>
    simp only;split
    ·split
     ·exact stay
     ·exact stay
     ·rename_i s _;split
      ·exact carves_from h hk s _ _ _ _
      ·rename_i hkid;have hkS:hasKids S.K f=false:=by simpa using hkid
       have hcap:=h.core.cap _ _ hk;simp only [KCap.base,KCap.bits,KCap.mark] at hcap;have hrm:0<=(resetM m bs).1/\(resetM m bs).1<=m:=reset_range 100 m bs hcap.2.2.2.2.1;obtain ⟨R2,hA2⟩:=KGood.reset ⟨R,h⟩ hk hkS hrm.1 hrm.2;split
       ·intro s' c' e;exact OfK.reset hk (carves_from (S:=⟨resetK S.K f b n m (resetM m bs).1,S.D⟩) hA2 (f:=f) (by show upd S.K.held f _ f=_;rw [upd_same]) s _ _ _ _ s' c' e)
       ·intro s' c' e;exact OfK.reset hk (OfK.self hA2 (s:=s') e)
    ·exact stay
   | _=>exact stay
theorem do_from {R:RS}{S:KS}(h:Ag R S)(th:Int)(c:Cl)(bs:List Bool)(hag:S.D=[]\/c.kind≠1):∀s' c',(doKX S th c bs).2.2.K.held s'=some c'->OfK S.K c':=by
 have stay:∀s' c',S.K.held s'=some c'->OfK S.K c':=fun s' c' e=>OfK.self h e
 have less:∀S2,Less S S2->∀s' c',S2.K.held s'=some c'->OfK S.K c':=fun S2 hl s' c' e=>stay s' c' (hl s' c' e)
 unfold doKX;split
 ·intro s' c' e;rw [new_held] at e;exact stay s' c' e
 ·show ∀s' c',(doKB S th c bs).2.K.held s'=some c'->OfK S.K c';unfold doKB;split
  ·exact stay
  ·rename_i t _;split
   ·exact stay
   ·split
    ·exact stay
    ·split
     ·have hl:=workG_less F0 S bs;by_cases h1:c.kind=1
      ·have hD:S.D=[]:=by rcases hag with e | e;exact e;exact absurd h1 e
       rw [workKS_nil F0 hD bs];simp only [Bool.true_eq_false,if_false];rw [if_pos h1];exact retype_from h _ _ _
      ·generalize workG stepK doneK F0 S bs=y at hl;simp only;split
       ·exact less _ hl
       ·split
        ·exact less _ hl
        ·split
         ·exact less _ hl
         ·split
          ·exact less _ (hl.trans (takeBK_less _ _ _))
          ·exact less _ (hl.trans (revokeK_less _ _ _ _))
     ·exact small_from h _ _
theorem thereA_true {A:List AEnt}{ty b:Int}:∀(k:Nat),k<=A.length->thereA A ty b k=true->∃p,∃hp:p<A.length,sameA ty b A[p]=true
 | 0,_,h=>by cases h
 | k+1,hk,h=>by
  have e:thereA A ty b (k+1)=(thereA A ty b k || sameA ty b A[k]):=by simp [thereA,List.getElem?_eq_getElem (show k<A.length from hk)]
  rw [e] at h;rcases Eq.mp (Bool.or_eq_true _ _) h with h1 | h1
  ·exact thereA_true k (by omega) h1
  ·exact ⟨k,hk,h1⟩
theorem bareA_true {A:List AEnt}{ty b:Int}:∀(k:Nat),k<=A.length->bareA A ty b k=true->∃p,∃hp:p<A.length,sameA ty b A[p]=true/\A[p].badge=0
 | 0,_,h=>by cases h
 | k+1,hk,h=>by
  have e:bareA A ty b (k+1)=if sameA ty b A[k] then bareA A ty b k || A[k].badge==0 else bareA A ty b k:=by simp [bareA,List.getElem?_eq_getElem (show k<A.length from hk)]
  rw [e] at h;split at h
  ·rename_i hs;rcases Eq.mp (Bool.or_eq_true _ _) h with h1 | h1
   ·exact bareA_true k (by omega) h1
   ·exact ⟨k,hk,hs,by simpa using h1⟩
  ·exact bareA_true k (by omega) h
theorem bareA_of {A:List AEnt}{ty b:Int}:∀(k:Nat),k<=A.length->∀p (hp:p<A.length),p<k->sameA ty b A[p]=true->A[p].badge=0->bareA A ty b k=true
 | 0,_,p,hp,h,_,_=>by omega
 | k+1,hk,p,hp,h,hs,hb=>by
  have e:bareA A ty b (k+1)=if sameA ty b A[k] then bareA A ty b k || A[k].badge==0 else bareA A ty b k:=by simp [bareA,List.getElem?_eq_getElem (show k<A.length from hk)]
  rw [e];by_cases hpk:p=k
  ·subst hpk;rw [if_pos hs,hb];simp
  ·have:=bareA_of k (by omega) p hp (by omega) hs hb;rw [this];simp
theorem orA_rng {A:List AEnt}{ty b:Int}(hA:∀i (hi:i<A.length),0<=A[i].rights/\A[i].rights<=7):∀(k:Nat),k<=A.length->0<=orA A ty b k/\orA A ty b k<=7
 | 0,_=>⟨Int.le_refl _,(by decide:(0:Int)<=7)⟩
 | k+1,hk=>by
  have e:orA A ty b (k+1)=if sameA ty b A[k] then orI (orA A ty b k) A[k].rights else orA A ty b k:=by simp [orA,List.getElem?_eq_getElem (show k<A.length from hk)]
  rw [e];have h1:=orA_rng hA (ty:=ty) (b:=b) k (by omega);split
  ·obtain ⟨x,hx⟩:=fin8 h1;obtain ⟨y,hy⟩:=fin8 (hA k hk);rw [hx,hy];exact or_rng x y
  ·exact h1
theorem orA_has {A:List AEnt}{ty b:Int}(hA:∀i (hi:i<A.length),0<=A[i].rights/\A[i].rights<=7):∀(k:Nat),k<=A.length->∀p (hp:p<A.length),p<k->sameA ty b A[p]=true->lessI A[p].rights (orA A ty b k)=0
 | 0,_,p,hp,h,_=>by omega
 | k+1,hk,p,hp,h,hs=>by
  have e:orA A ty b (k+1)=if sameA ty b A[k] then orI (orA A ty b k) A[k].rights else orA A ty b k:=by simp [orA,List.getElem?_eq_getElem (show k<A.length from hk)]
  rw [e];obtain ⟨x,hx⟩:=fin8 (orA_rng hA (ty:=ty) (b:=b) k (by omega));obtain ⟨y,hy⟩:=fin8 (hA k hk);obtain ⟨z,hz⟩:=fin8 (hA p hp);by_cases hpk:p=k
  ·subst hpk;rw [if_pos hs,hx,hy];exact less_in x y y (.inr (by have:=less_self (hA p hp);rw [hy] at this;exact this))
  ·have h1:=orA_has hA k (by omega) p hp (by omega) hs;split
   ·rw [hz,hx,hy];rw [hz,hx] at h1;exact less_in x y z (.inl h1)
   ·exact h1
theorem orA_le {A:List AEnt}{ty b r:Int}(hr:0<=r/\r<=7)(hA:∀i (hi:i<A.length),0<=A[i].rights/\A[i].rights<=7)(hl:∀i (hi:i<A.length),sameA ty b A[i]=true->lessI A[i].rights r=0):∀(k:Nat),k<=A.length->lessI (orA A ty b k) r=0
 | 0,_=>by
  have e:r=0\/r=1\/r=2\/r=3\/r=4\/r=5\/r=6\/r=7:=by omega
  show lessI 0 r=0;rcases e with rfl | rfl | rfl | rfl | rfl | rfl | rfl | rfl<;>decide
 | k+1,hk=>by
  have e:orA A ty b (k+1)=if sameA ty b A[k] then orI (orA A ty b k) A[k].rights else orA A ty b k:=by simp [orA,List.getElem?_eq_getElem (show k<A.length from hk)]
  rw [e];have h1:=orA_le hr hA hl k (by omega);split
  ·rename_i hs;have h2:=hl k hk hs;obtain ⟨x,hx⟩:=fin8 (orA_rng hA (ty:=ty) (b:=b) k (by omega));obtain ⟨y,hy⟩:=fin8 (hA k hk);obtain ⟨z,hz⟩:=fin8 hr;rw [hx,hz] at h1;rw [hy,hz] at h2;rw [hx,hy,hz];exact less_or x y z h1 h2
  ·exact h1
theorem Ag.rights {R:RS}{S:KS}(h:Ag R S)(i:Nat)(hi:i<(capsL R).length):0<=(capsL R)[i].rights/\(capsL R)[i].rights<=7:=by
 obtain ⟨c,x,hr⟩:=h.row i hi;rw [hr.rights];exact h.core.rt _ c hr.held
theorem Ag.rowOf {R:RS}{S:KS}(h:Ag R S){s:Slot}{c:KCap}(hc:S.K.held s=some c):∃p,∃hp:p<(capsL R).length,(capsL R)[p].ty=c.ty/\(capsL R)[p].base=c.base/\(capsL R)[p].rights=c.rights/\(capsL R)[p].badge=c.badge:=by
 by_cases hex:∃e∈R.R.L,e.slot=s
 ·obtain ⟨e,he,hs⟩:=hex;obtain ⟨p,hp,rfl⟩:=List.getElem_of_mem he;have hp2:p<(capsL R).length:=by rw [capsL_len];exact hp
  obtain ⟨c',x,hr⟩:=h.row p hp2;have:c'=c:=by have:=hr.held;rw [hs,hc] at this;exact (Option.some.inj this).symm
  subst this;exact ⟨p,hp2,hr.ty,hr.base,hr.rights,hr.badge⟩
 ·have:=h.core.rel.emp s (fun e he e1=>hex ⟨e,he,e1⟩);rw [this] at hc;cases hc
theorem noMoreA {R R':RS}{S S':KS}(h:Ag R S)(h':Ag R' S')(hF:∀s' c',S'.K.held s'=some c'->OfK S.K c'):NoMoreA (capsL R) (capsL R'):=by
 intro i hi hth;obtain ⟨p0,hp0,hs0⟩:=thereA_true _ (Nat.le_refl _) hth;generalize hty:(capsL R')[i].ty=ty at *
 generalize hba:(capsL R')[i].base=b at *
 simp only [sameA,Bool.and_eq_true,beq_iff_eq] at hs0;have key:∀j (hj:j<(capsL R').length),sameA ty b (capsL R')[j]=true->∃p,∃hp:p<(capsL R).length,sameA ty b (capsL R)[p]=true/\lessI (capsL R')[j].rights (capsL R)[p].rights=0/\((capsL R')[j].badge=0->(capsL R)[p].badge=0):=by
  intro j hj hs;simp only [sameA,Bool.and_eq_true,beq_iff_eq] at hs;obtain ⟨c',x,hr⟩:=h'.row j hj;rcases hF _ c' hr.held with ⟨s,c,g1,g2,g3,g4,g5⟩ | hno
  ·obtain ⟨p,hp,q1,q2,q3,q4⟩:=h.rowOf g1;refine ⟨p,hp,?_,by rw [hr.rights,q3];exact g4,by rw [hr.badge,q4];exact g5⟩;simp only [sameA,Bool.and_eq_true,beq_iff_eq];exact ⟨by rw [q1,g2,<- hr.ty];exact hs.1,by rw [q2,g3,<- hr.base];exact hs.2⟩
  ·exfalso
   obtain ⟨c,x0,hr0⟩:=h.row p0 hp0;exact hno _ c hr0.held (by rw [<- hr0.ty,hs0.1,<- hr.ty];exact hs.1.symm) (by rw [<- hr0.base,hs0.2,<- hr.base];exact hs.2.symm)
 constructor
 ·refine orA_le (orA_rng (fun i hi=>h.rights i hi) _ (Nat.le_refl _)) (fun i hi=>h'.rights i hi) ?_ _ (Nat.le_refl _);intro j hj hs;obtain ⟨p,hp,e1,e2,_⟩:=key j hj hs;have e3:=orA_has (fun i hi=>h.rights i hi) _ (Nat.le_refl _) p hp hp e1;obtain ⟨x,hx⟩:=fin8 (h'.rights j hj);obtain ⟨y,hy⟩:=fin8 (h.rights p hp);obtain ⟨z,hz⟩:=fin8 (orA_rng (ty:=ty) (b:=b) (fun i hi=>h.rights i hi) _ (Nat.le_refl _));rw [hx,hy] at e2;rw [hy,hz] at e3;rw [hx,hz];exact less_tr x y z e2 e3
 ·intro hb;obtain ⟨j,hj,hs,hg⟩:=bareA_true _ (Nat.le_refl _) hb;obtain ⟨p,hp,e1,_,e3⟩:=key j hj hs;exact bareA_of _ (Nat.le_refl _) p hp hp e1 (e3 hg)
def ClnK (S:KS):Prop:=∀s b n m,S.K.held s=some (.untyped b n m)->∀i:Int,b+m<=i->i<b+pw n.toNat->S.K.ws i.toNat=0
def FlnK (S S':KS):Prop:=∀s' b n r,S'.K.held s'=some (.frame b n r)->(∃s n0 r0,S.K.held s=some (.frame b n0 r0))\/∀i:Int,b<=i->i<b+pw n.toNat->S'.K.ws i.toNat=0
theorem goneK_ws (S:KS)(c:KCap):(goneK S c).K.ws=S.K.ws:=by cases c<;>rfl
theorem takeK_ws (S:KS)(s:Slot):(takeK S s).K.ws=S.K.ws:=by
 cases hc:S.K.held s with
 | none=>rw [takeK_none hc]
 | some c=>
  by_cases hh:heldK (outK S.K s) c.ty c.base
  ·rw [takeK_held hc hh];rfl
  ·rw [takeK_gone hc hh,goneK_ws];rfl
theorem stepK_ws (S:KS):(stepK S).K.ws=S.K.ws:=by
 unfold stepK;split
 ·rfl
 ·split
  ·rfl
  ·exact takeK_ws {S with D:=_} _
theorem workK_ws:∀(n:Nat) (S:KS) (bs:List Bool),(workG stepK doneK n S bs).1.K.ws=S.K.ws
 | 0,_,_=>rfl
 | n+1,S,bs=>by
  unfold workG;split
  ·rfl
  ·cases bs with
   | nil=>simp only;rw [workK_ws n,stepK_ws]
   | cons b r=>
    simp only;split
    ·exact stepK_ws S
    ·rw [workK_ws n,stepK_ws]
theorem takeBK_ws (S:KS)(s:Slot)(bs:List Bool):(takeBK S s bs).2.1.K.ws=S.K.ws:=by
 unfold takeBK;split
 ·exact takeK_ws S s
 ·simp only;rw [workK_ws,takeK_ws]
theorem revokeK_ws:∀(n:Nat) (S:KS) (s:Slot) (bs:List Bool),(revokeK n S s bs).2.1.K.ws=S.K.ws
 | 0,_,_,_=>rfl
 | n+1,S,s,bs=>by
  unfold revokeK;split
  ·split
   ·rw [revokeK_ws n,takeBK_ws]
   ·exact takeBK_ws S _ _
  ·rfl
theorem ClnK.less {S S':KS}(h:ClnK S)(hl:Less S S')(hw:S'.K.ws=S.K.ws):ClnK S':=fun s b n m hs i h1 h2=>by
 rw [hw];exact h s b n m (hl _ _ hs) i h1 h2
theorem FlnK.less {S S':KS}(hl:Less S S'):FlnK S S':=fun s' _ n r hs=>.inl ⟨s',n,r,hl _ _ hs⟩
theorem carveTo_wsK {K:Ker}{f s:Slot}{ty bits root st:Int}:∀i:Nat,(carveTo K f s ty bits root st i).ws=K.ws
 | 0=>rfl
 | i+1=>by
  have:∀(K:Ker) (t:Slot) (c:KCap) (p:Slot),(K.found t c p root).ws=K.ws:=fun K t c p=>by cases c<;>rfl
  show ((carveTo K f s ty bits root st i).found _ _ _ _).ws=_;rw [this,carveTo_wsK i]
theorem carve_cl {R:RS}{S:KS}(h:Ag R S)(hC:ClnK S){f:Slot}{b n m:Int}(hf:S.K.held f=some (.untyped b n m))(s:Slot)(ty bits root:Int)(cnt:Nat):
 ClnK (carveKS S f s ty bits root b n m cnt).2/\FlnK S (carveKS S f s ty bits root b n m cnt).2:=by
 unfold carveKS carveK;split
 ·exact ⟨hC,FlnK.less (Less.refl S)⟩
 ·rename_i hroom;have hpos:=pw_pos bits.toNat;have hge:=upTo_ge (b+m) (pw bits.toNat) (by omega);have hcap:=h.core.cap _ _ hf;simp only [KCap.base,KCap.bits,KCap.mark] at hcap;have hc0:0<=(cnt:Int)*pw bits.toNat:=Int.mul_nonneg (by omega) (by omega);have hheld:∀s' c',upd (carveTo S.K f s ty bits root (upTo (b+m) (pw bits.toNat)) cnt).held f (some (.untyped b n (upTo (b+m) (pw bits.toNat)+cnt*pw bits.toNat-b))) s'=some c'->
   c'=.untyped b n (upTo (b+m) (pw bits.toNat)+cnt*pw bits.toNat-b)\/(∃a,c'=madeC ty a bits/\b+m<=a/\a+pw bits.toNat<=b+pw n.toNat)\/S.K.held s'=some c':=by
   intro s' c' e;by_cases e1:s'=f
   ·rw [e1,upd_same] at e;exact .inl (Option.some.inj e).symm
   ·rw [upd_other _ _ e1] at e;rcases carveTo_held cnt s' c' e with ⟨j,hj,rfl⟩ | e2
    ·have hle:(j+1:Int)*pw bits.toNat<=cnt*pw bits.toNat:=Int.mul_le_mul_of_nonneg_right (by omega) (by omega);have h0:0<=(j:Int)*pw bits.toNat:=Int.mul_nonneg (by omega) (by omega);rw [Int.add_mul,Int.one_mul] at hle;exact .inr (.inl ⟨_,rfl,by omega,by omega⟩)
    ·exact .inr (.inr e2)
  have hws:∀i:Nat,(carveTo S.K f s ty bits root (upTo (b+m) (pw bits.toNat)) cnt).ws i=S.K.ws i:=fun i=>by rw [carveTo_wsK]
  constructor
  ·intro s' b' n' m' e i h1 h2;show (carveTo S.K f s ty bits root (upTo (b+m) (pw bits.toNat)) cnt).ws i.toNat=0;rw [hws];rcases hheld s' _ e with e1 | ⟨a,e1,e2,e3⟩ | e1
   ·simp only [KCap.untyped.injEq] at e1;obtain ⟨rfl,rfl,rfl⟩:=e1;exact hC f _ _ _ hf i (by omega) h2
   ·obtain ⟨p1,_,_,p4⟩:=madeC_parts ty a bits;rw [<- e1] at p1 p4;simp only [KCap.base,KCap.bits] at p1 p4;have hm0:m'=0:=by
     unfold madeC at e1;repeat' (split at e1)
     all_goals first | (cases e1;rfl) | cases e1
    subst p1 p4 hm0;exact hC f _ _ _ hf i (by omega) (by omega)
   ·exact hC s' _ _ _ e1 i h1 h2
  ·intro s' b' n' r' e;rcases hheld s' _ e with e1 | ⟨a,e1,e2,e3⟩ | e1
   ·cases e1
   ·right;intro i h1 h2;show (carveTo S.K f s ty bits root (upTo (b+m) (pw bits.toNat)) cnt).ws i.toNat=0;rw [hws];obtain ⟨p1,_,_,p4⟩:=madeC_parts ty a bits;rw [<- e1] at p1 p4;simp only [KCap.base,KCap.bits] at p1 p4;subst p1 p4;exact hC f _ _ _ hf i (by omega) (by omega)
   ·exact .inl ⟨s',_,_,e1⟩
theorem reset_cl {R:RS}{S:KS}(h:Ag R S)(hC:ClnK S){f:Slot}{b n m m':Int}(hf:S.K.held f=some (.untyped b n m))(hm0:0<=m'):ClnK ⟨resetK S.K f b n m m',S.D⟩:=by
 have hcap:=h.core.cap _ _ hf;simp only [KCap.base,KCap.bits,KCap.mark] at hcap;intro s b' n' m2 e i h1 h2;have e:upd S.K.held f (some (.untyped b n m')) s=some (.untyped b' n' m2):=e;show clrW S.K.ws (b+m') (m-m') i.toNat=0;unfold clrW;split
 ·rfl
 ·rename_i hno;by_cases e1:s=f
  ·rw [e1,upd_same] at e;simp only [Option.some.injEq,KCap.untyped.injEq] at e;obtain ⟨rfl,rfl,rfl⟩:=e;exact hC f _ _ _ hf i (by omega) h2
  ·rw [upd_other _ _ e1] at e;exact hC s _ _ _ e i h1 h2
theorem retype_cl {R:RS}{S:KS}(h:Ag R S)(hC:ClnK S)(root:Int)(c:Cl)(bs:List Bool):ClnK (orTwoS S (retypeKB S root c bs)).2/\FlnK S (orTwoS S (retypeKB S root c bs)).2:=by
 have stay:ClnK S/\FlnK S S:=⟨hC,FlnK.less (Less.refl S)⟩;unfold retypeKB;split
 ·exact stay
 ·rename_i f hfi;cases hk:S.K.held f with
  | none=>exact stay
  | some k=>
   cases k with
   | untyped b n m=>
    simp only;split
    ·split
     ·exact stay
     ·exact stay
     ·rename_i s _;split
      ·exact carve_cl h hC hk s _ _ _ _
      ·rename_i hkid;have hkS:hasKids S.K f=false:=by simpa using hkid
       have hcap:=h.core.cap _ _ hk;simp only [KCap.base,KCap.bits,KCap.mark] at hcap;have hrm:0<=(resetM m bs).1/\(resetM m bs).1<=m:=reset_range 100 m bs hcap.2.2.2.2.1;obtain ⟨R2,hA2⟩:=KGood.reset ⟨R,h⟩ hk hkS hrm.1 hrm.2;have hC2:=reset_cl (m':=(resetM m bs).1) h hC hk hrm.1;have hfr:∀s' b' n' r',(resetK S.K f b n m (resetM m bs).1).held s'=some (.frame b' n' r')->S.K.held s'=some (.frame b' n' r'):=by
        intro s' b' n' r' e;have e:upd S.K.held f (some (.untyped b n (resetM m bs).1)) s'=some (.frame b' n' r'):=e;by_cases e1:s'=f
        ·rw [e1,upd_same] at e;cases e
        ·rw [upd_other _ _ e1] at e;exact e
       split
       ·obtain ⟨g1,g2⟩:=carve_cl (S:=⟨resetK S.K f b n m (resetM m bs).1,S.D⟩) hA2 hC2 (f:=f) (b:=b) (n:=n) (m:=(resetM m bs).1) (by show upd S.K.held f _ f=_;rw [upd_same]) s c.ty c.bits root c.count.toNat;refine ⟨g1,fun s' b' n' r' e=>?_⟩
        rcases g2 s' b' n' r' e with ⟨s0,n0,r0,e0⟩ | e0
        ·exact .inl ⟨s0,n0,r0,hfr _ _ _ _ e0⟩
        ·exact .inr e0
       ·exact ⟨hC2,fun s' b' n' r' e=>.inl ⟨s',n',r',hfr _ _ _ _ e⟩⟩
    ·exact stay
   | _=>exact stay
theorem small_held {S:KS}(root:Int)(c:Cl):(orTwo S.K (smallK S.K root c)).2.ws=S.K.ws/\∀s' c',(orTwo S.K (smallK S.K root c)).2.held s'=some c'->(∃s,S.K.held s=some c')\/(∃s k,S.K.held s=some k/\k.isU=false/\k.ty=c'.ty/\k.base=c'.base):=by
 have stay:S.K.ws=S.K.ws/\∀s' c',S.K.held s'=some c'->(∃s,S.K.held s=some c')\/(∃s k,S.K.held s=some k/\k.isU=false/\k.ty=c'.ty/\k.base=c'.base):=⟨rfl,fun s' c' e=>.inl ⟨s',e⟩⟩
 have child:∀(l:List Int) (s:Slot) (k k':KCap),S.K.held s=some k->k.isU=false->k.ty=k'.ty->k.base=k'.base->(orTwo S.K (layChildK S.K root l k' s)).2.ws=S.K.ws/\∀s' c',(orTwo S.K (layChildK S.K root l k' s)).2.held s'=some c'->(∃s,S.K.held s=some c')\/(∃s k,S.K.held s=some k/\k.isU=false/\k.ty=c'.ty/\k.base=c'.base):=by
  intro l s k k' h1 h2 h3 h4;unfold layChildK;split
  ·exact stay
  ·split
   ·exact stay
   ·refine ⟨rfl,fun s' c' e=>?_⟩
    rcases lay_held e with rfl | e
    ·exact .inr ⟨s,k,h1,h2,h3,h4⟩
    ·exact .inl ⟨s',e⟩
 unfold smallK;split
 ·unfold copyK;split
  ·exact stay
  ·rename_i s hs;cases hk:S.K.held s with
   | none=>exact stay
   | some k=>
    simp only;split
    ·exact stay
    ·split
     ·rename_i hu hr;exact child _ s k _ hk (by simpa using hu) (by cases k<;>rfl) (by cases k<;>rfl)
     ·exact stay
 ·split
  ·unfold mintK;split
   ·exact stay
   ·rename_i s hs;cases hk:S.K.held s with
    | none=>exact stay
    | some k=>
     cases k with
     | endpoint b n q g=>
      simp only;split
      ·exact stay
      ·split
       ·exact child _ s _ _ hk rfl rfl rfl
       ·exact stay
     | _=>exact stay
  ·unfold moveK;split
   ·exact stay
   ·rename_i s hs;cases hk:S.K.held s with
    | none=>exact stay
    | some k=>
     simp only;split
     ·exact stay
     ·split
      ·exact stay
      ·rename_i t ht hn;refine ⟨rfl,fun s' c' e=>?_⟩
       have e:upd (upd S.K.held s none) t (some k) s'=some c':=e;by_cases e1:s'=t
       ·rw [e1,upd_same] at e;cases e;exact .inl ⟨s,hk⟩
       ·rw [upd_other _ _ e1] at e;by_cases e2:s'=s
        ·rw [e2,upd_same] at e;cases e
        ·rw [upd_other _ _ e2] at e;exact .inl ⟨s',e⟩
theorem small_cl {S:KS}(hC:ClnK S)(root:Int)(c:Cl):ClnK {S with K:=(orTwo S.K (smallK S.K root c)).2}/\FlnK S {S with K:=(orTwo S.K (smallK S.K root c)).2}:=by
 obtain ⟨hw,hh⟩:=small_held (S:=S) root c;constructor
 ·intro s b n m e i h1 h2;show (orTwo S.K (smallK S.K root c)).2.ws i.toNat=0;rw [hw];rcases hh s _ e with ⟨s0,e0⟩ | ⟨s0,k,e0,e1,e2,_⟩
  ·exact hC s0 _ _ _ e0 i h1 h2
  ·rw [isU_ty.2 e2] at e1;cases e1
 ·intro s' b n r e;left;rcases hh s' _ e with ⟨s0,e0⟩ | ⟨s0,k,e0,e1,e2,e3⟩
  ·exact ⟨s0,n,r,e0⟩
  ·cases k with
   | frame b0 n0 r0=>
    have:b0=b:=e3;subst this;exact ⟨s0,n0,r0,e0⟩
   | _=>cases e2
theorem store_cl {R:RS}{S:KS}(h:Ag R S)(hC:ClnK S){s:Slot}{b n r:Int}(hs:S.K.held s=some (.frame b n r)){o v:Int}(h0:0<=o)(h1:o<pw n.toNat):∀s' b' n' m',S.K.held s'=some (.untyped b' n' m')->∀i:Int,b'+m'<=i->i<b'+pw n'.toNat->putNs S.K.ws (b+o).toNat v i.toNat=0:=by
 intro s' b' n' m' hu i g1 g2;have hne:s'≠s:=fun e=>by rw [e,hs] at hu;cases hu
 have hcf:=h.core.cap _ _ hs;have hcu:=h.core.cap _ _ hu;simp only [KCap.base,KCap.bits,KCap.mark] at hcf hcu;have hi:¬i.toNat=(b+o).toNat:=by
  intro e;have e:i=b+o:=by omega
  rcases h.core.geo.apart s' s _ _ hne hu hs with g | g | ⟨_,g⟩ | ⟨g,_⟩
  ·unfold Disj at g;simp only [KCap.base,KCap.bits] at g;omega
  ·cases g.1
  ·have:=h.core.below hu g hs;simp only [KCap.base,KCap.bits] at this;omega
  ·cases g
 unfold putNs;rw [if_neg hi];exact hC s' _ _ _ hu i g1 g2
theorem new_cl {R:RS}{S:KS}(h:Ag R S)(hC:ClnK S)(th:Int)(c:Cl):ClnK (newKS S th c).2.2/\FlnK S (newKS S th c).2.2:=by
 have hh:=new_held S th c;refine ⟨?_,fun s' b n r e=>.inl ⟨s',n,r,by rw [<- hh];exact e⟩⟩
 intro s b n m e i h1 h2;rw [hh] at e;have hbase:=hC s b n m e i h1 h2;unfold newKS;split
 ·exact hbase
 ·split
  ·exact hbase
  ·rename_i t _ _;have:∀y,newCall S.K th t.root c=some y->y.2.2.ws i.toNat=0:=by
    intro y hy;unfold newCall at hy;split at hy
    ·unfold sendK at hy;split at hy
     ·cases hy
     ·split at hy
      ·cases hy;exact hbase
      ·split at hy
       ·cases hy
        simp only [sendAt];split<;>exact hbase
       ·cases hy;exact hbase
    ·split at hy
     ·unfold recvK at hy;split at hy
      ·cases hy
      ·split at hy
       ·cases hy;exact hbase
       ·cases hy
        simp only [recvAt];split<;>exact hbase
     ·split at hy
      ·unfold loadK at hy;split at hy
       ·cases hy
       ·split at hy<;>(cases hy;exact hbase)
      ·split at hy
       ·unfold storeK at hy;split at hy
        ·cases hy
        ·rename_i e0 n0 hw0;split at hy
         ·cases hy;exact hbase
         ·rename_i he0;split at hy
          ·cases hy
           unfold wordOfK at hw0;split at hw0
           ·cases hw0
           ·rename_i s2 _;cases hk2:S.K.held s2 with
            | none=>rw [hk2] at hw0;cases hw0;exact absurd (by decide) he0
            | some k2=>
             rw [hk2] at hw0;cases k2 with
             | frame b2 n2 r2=>
              simp only at hw0;split at hw0
              ·cases hw0;exact absurd (by decide) he0
              ·split at hw0
               ·cases hw0;exact absurd (by decide) he0
               ·rename_i hoff;cases hw0
                exact store_cl h hC hk2 (by omega) (by omega) s b n m e i h1 h2
             | _=>cases hw0;exact absurd (by decide) he0
          ·cases hy;exact hbase
       ·unfold rootK at hy;repeat' (split at hy)
        all_goals first | (cases hy;done) | (cases hy;exact hbase)
   cases hn:newCall S.K th t.root c with
   | none=>exact hbase
   | some y=>exact this y hn
theorem do_cl {R:RS}{S:KS}(h:Ag R S)(hC:ClnK S)(th:Int)(c:Cl)(bs:List Bool):ClnK (doKX S th c bs).2.2/\FlnK S (doKX S th c bs).2.2:=by
 have stay:ClnK S/\FlnK S S:=⟨hC,FlnK.less (Less.refl S)⟩;have less:∀S2:KS,Less S S2->S2.K.ws=S.K.ws->ClnK S2/\FlnK S S2:=fun S2 hl hw=>⟨hC.less hl hw,FlnK.less hl⟩
 unfold doKX;split
 ·exact new_cl h hC th c
 ·show ClnK (doKB S th c bs).2/\FlnK S (doKB S th c bs).2;unfold doKB;split
  ·exact stay
  ·rename_i t _;split
   ·exact stay
   ·split
    ·exact stay
    ·split
     ·have hl:=workG_less F0 S bs;have hw:=workK_ws F0 S bs;have hA:=(Ag.work F0 bs h).2;generalize workG stepK doneK F0 S bs=y at hl hw hA;simp only;split
      ·exact less _ hl hw
      ·split
       ·obtain ⟨g1,g2⟩:=retype_cl hA (hC.less hl hw) t.root c y.2.1;refine ⟨g1,fun s' b n r e=>?_⟩
        rcases g2 s' b n r e with ⟨s0,n0,r0,e0⟩ | e0
        ·exact .inl ⟨s0,n0,r0,hl _ _ e0⟩
        ·exact .inr e0
       ·split
        ·exact less _ hl hw
        ·split
         ·exact less _ hl hw
         ·split
          ·exact less _ (hl.trans (takeBK_less _ _ _)) (by rw [takeBK_ws,hw])
          ·exact less _ (hl.trans (revokeK_less _ _ _ _)) (by rw [revokeK_ws,hw])
     ·exact small_cl hC _ _
def NoNode (K:Ker)(nd:Int):Prop:=∀s b n r,K.held s=some (.node b n r)->b≠nd
structure Cut (s:Slot)(S S':KS):Prop where
 less:Less S S'
 fwd:∀u t,Up S.K.st u t->(∃c,S'.K.held u=some c)->(∃c,S'.K.held t=some c)->Up S'.K.st u t
 bwd:∀u t,Up S'.K.st u t->Up S.K.st u t
 gone:∀t c,S.K.held t=some c->S'.K.held t=none->Up S.K.st s t\/NoNode S'.K t.node
theorem Cut.refl (s:Slot)(S:KS):Cut s S S:=⟨Less.refl S,fun _ _ h _ _=>h,fun _ _ h=>h,fun t c h1 h2=>by rw [h1] at h2;cases h2⟩
theorem NoNode.less {S S':KS}(h:Less S S'){nd:Int}(hn:NoNode S.K nd):NoNode S'.K nd:=fun s b n r e=>hn s b n r (h _ _ e)
theorem Cut.trans {s:Slot}{S S1 S2:KS}(h:Cut s S S1)(g:Cut s S1 S2):Cut s S S2:=by
 refine ⟨h.less.trans g.less,fun u t hu h1 h2=>?_,fun u t hu=>h.bwd u t (g.bwd u t hu),fun t c h1 h2=>?_⟩
 ·obtain ⟨c1,e1⟩:=h1;obtain ⟨c2,e2⟩:=h2;exact g.fwd u t (h.fwd u t hu ⟨c1,g.less _ _ e1⟩ ⟨c2,g.less _ _ e2⟩) ⟨c1,e1⟩ ⟨c2,e2⟩
 ·cases hm:S1.K.held t with
  | none=>
   rcases h.gone t c h1 hm with e | e
   ·exact .inl e
   ·exact .inr (e.less g.less)
  | some c'=>
   rcases g.gone t c' hm h2 with e | e
   ·exact .inl (h.bwd _ _ e)
   ·exact .inr e
theorem goneK_st (S:KS)(c:KCap):(goneK S c).K.st=S.K.st:=by cases c<;>rfl
theorem takeK_st {S:KS}{a:Slot}{c:KCap}(hc:S.K.held a=some c):(takeK S a).K.st=removeT S.K.st a/\(takeK S a).K.held=upd S.K.held a none:=by
 by_cases hh:heldK (outK S.K a) c.ty c.base
 ·rw [takeK_held hc hh];exact ⟨rfl,rfl⟩
 ·rw [takeK_gone hc hh,goneK_st,goneK_held];exact ⟨rfl,rfl⟩
theorem cut_take {R:RS}{S:KS}(h:Ag R S)(s:Slot){a:Slot}{c:KCap}(hc:S.K.held a=some c)(hr:Up S.K.st s a\/NoNode S.K a.node):Cut s S (takeK S a):=by
 obtain ⟨p,hp,rfl⟩:=KGood.at h hc;obtain ⟨F,hF⟩:=h.core.rel.tree;obtain ⟨_,_,_,⟨x,ho⟩,honly⟩:=hF.take hp;generalize R.R.L[p].slot=a at *
 obtain ⟨e1,e2⟩:=takeK_st hc;have han:a≠nowhere:=slot_ne_nowhere (h.core.inN _ _ hc).1;refine ⟨takeK_less S a,?_,?_,?_⟩
 ·intro u t hu h1 h2;rw [e1];have hua:u≠a:=fun e=>by obtain ⟨c1,h1⟩:=h1;rw [e2,e,upd_same] at h1;cases h1
  have hta:t≠a:=fun e=>by obtain ⟨c2,h2⟩:=h2;rw [e2,e,upd_same] at h2;cases h2
  clear h1 h2;-- either the way up avoids a,or passes it by
  have key:∀t,Up S.K.st u t->(t≠a->Up (removeT S.K.st a) u t)/\(t=a->x.parent=u\/Up (removeT S.K.st a) u x.parent):=by
   intro t hu;induction hu with
   | one g1 g2 g3=>
    rename_i t y;constructor
    ·intro hta;obtain ⟨z,z1,z2,_⟩:=ho.st t hta g1 y g2;refine .one g1 z1 ?_;rw [z2,if_neg (by rw [g3];exact hua)];exact g3
    ·intro e;subst e;have:y=x:=Option.some.inj (g2.symm.trans ho.at_);subst this;exact .inl g3
   | more g1 g2 g3 ih=>
    rename_i t y;constructor
    ·intro hta;obtain ⟨z,z1,z2,_⟩:=ho.st t hta g1 y g2;by_cases e:y.parent=a
     ·rw [if_pos e] at z2;rcases ih.2 e with e3 | e3
      ·exact .one g1 z1 (z2.trans e3)
      ·exact .more g1 z1 (by rw [z2];exact e3)
     ·rw [if_neg e] at z2;exact .more g1 z1 (by rw [z2];exact ih.1 e)
    ·intro e;subst e;have:y=x:=Option.some.inj (g2.symm.trans ho.at_);subst this;exact .inr (ih.1 ho.par)
  exact (key t hu).1 hta
 ·intro u t hu;rw [e1] at hu;have back:∀t z,t≠nowhere->removeT S.K.st a t=some z->t≠a/\∃y,S.K.st t=some y/\z.parent=(if y.parent=a then x.parent else y.parent):=by
   intro t z htn hz;obtain ⟨hta,hm⟩:=honly t z hz;refine ⟨hta,?_⟩;rcases hm with hm | hm
   ·obtain ⟨y,hy,_⟩:=hF.stands.fact hF.nodup t hm;obtain ⟨z',z1,z2,_⟩:=ho.st t hta htn y hy;rw [hz] at z1;cases z1
    exact ⟨y,hy,z2⟩
   ·exact absurd hm htn
  induction hu with
  | one g1 g2 g3=>
   rename_i t z;obtain ⟨hta,y,hy,hp⟩:=back t z g1 g2;by_cases e:y.parent=a
   ·rw [if_pos e] at hp;exact .more g1 hy (by rw [e];exact .one han ho.at_ (hp.symm.trans g3))
   ·rw [if_neg e] at hp;exact .one g1 hy (hp.symm.trans g3)
  | more g1 g2 g3 ih=>
   rename_i t z;obtain ⟨hta,y,hy,hp⟩:=back t z g1 g2;by_cases e:y.parent=a
   ·rw [if_pos e] at hp;rw [hp] at ih;exact .more g1 hy (by rw [e];exact .more han ho.at_ ih)
   ·rw [if_neg e] at hp;rw [hp] at ih;exact .more g1 hy ih
 ·intro t c' h1 h2;rw [e2] at h2;have hta:t=a:=by
   by_cases e:t=a
   ·exact e
   ·rw [upd_other _ _ e,h1] at h2;cases h2
  subst hta;rcases hr with e | e
  ·exact .inl e
  ·exact .inr (e.less (takeK_less S t))
theorem Ag.noNode {R:RS}{S:KS}(h:Ag R S){nd left:Int}(hd:(nd,left)∈R.D):NoNode S.K nd:=by
 intro s b n r e eb;obtain ⟨_,_,h3⟩:=h.core.hno s b n r e;have:=(h.core.dm _ hd).2.2.2.2;simp only at this;rw [<- eb,h3] at this;cases this
theorem Cut.of_eq {s:Slot}{S S' S2:KS}(h:Cut s S S')(e:S2.K=S.K):Cut s S2 S':=by
 obtain ⟨K,D⟩:=S;obtain ⟨K2,D2⟩:=S2;have e:K2=K:=e;subst e;exact ⟨h.less,h.fwd,h.bwd,h.gone⟩
theorem cut_step {R:RS}{S:KS}(h:Ag R S)(s:Slot):Cut s S (stepK S):=by
 rcases last_cases S.D with hD | ⟨A,nd,left,hD,hl,hdl⟩
 ·unfold stepK;rw [hD];exact Cut.refl s S
 ·unfold stepK;rw [hl];simp only;split
  ·have:=Cut.refl s {S with D:=S.D.dropLast};exact this.of_eq rfl
  ·rename_i hne;have hmem:(nd,left)∈R.D:=by rw [<- h.d,hD];simp
   have hpos:0<left:=by have:=(h.core.dm _ hmem).2.2.1;simp only at this;omega
   cases hh:S.K.held ⟨nd,left-1⟩ with
   | none=>
    rw [takeK_none (S:={S with D:=S.D.dropLast++[(nd,left-1)]}) hh];exact (Cut.refl s _).of_eq rfl
   | some c=>
    -- the same kernel;its doomed list one lower agrees with some document's: take it as it was
    have h1:Cut s S (takeK S ⟨nd,left-1⟩):=cut_take h s hh (.inr (h.noNode hmem));have hk:(takeK {S with D:=S.D.dropLast++[(nd,left-1)]} ⟨nd,left-1⟩).K=(takeK S ⟨nd,left-1⟩).K:=by
     by_cases hx:heldK (outK S.K ⟨nd,left-1⟩) c.ty c.base
     ·rw [takeK_held hh hx,takeK_held (S:={S with D:=S.D.dropLast++[(nd,left-1)]}) hh hx]
     ·rw [takeK_gone hh hx,takeK_gone (S:={S with D:=S.D.dropLast++[(nd,left-1)]}) hh hx];cases c<;>rfl
    refine ⟨?_,?_,?_,?_⟩
    ·intro s' c' e;rw [hk] at e;exact h1.less s' c' e
    ·intro u t hu g1 g2;rw [hk] at g1 g2 ⊢;exact h1.fwd u t hu g1 g2
    ·intro u t hu;rw [hk] at hu;exact h1.bwd u t hu
    ·intro t c' g1 g2;rw [hk] at g2 ⊢;exact h1.gone t c' g1 g2
theorem cut_work (s:Slot):∀(n:Nat) {R:RS} {S:KS} (_:Ag R S) (bs:List Bool),Cut s S (workG stepK doneK n S bs).1
 | 0,_,S,_,_=>Cut.refl s S
 | n+1,R,S,h,bs=>by
  unfold workG;split
  ·exact Cut.refl s S
  ·cases bs with
   | nil=>exact (cut_step h s).trans (cut_work s n h.step _)
   | cons b r=>
    simp only;split
    ·exact cut_step h s
    ·exact (cut_step h s).trans (cut_work s n h.step _)
theorem kid_up {R:RS}{S:KS}(h:Ag R S){s:Slot}(hs:0<=s.index)(hk:hasKids S.K s=true):∃c,S.K.held (lastC S.K s)=some c/\Up S.K.st s (lastC S.K s):=by
 obtain ⟨c,x,g1,g2,g3,_⟩:=h.revStep hs hk;refine ⟨c,g1,?_⟩;obtain ⟨F,hF⟩:=h.core.rel.tree;have hsn:s≠nowhere:=slot_ne_nowhere hs;have hmem:lastC S.K s∈x.kids:=List.mem_of_getLast? g3;have hsF:s∈F.slots:=by
  rcases hF.only s x g2 with e | e
  ·exact e
  ·exact absurd e hsn
 obtain ⟨x',hx',_,_,_,hkids,_⟩:=hF.stands.fact hF.nodup s hsF;have:x'=x:=Option.some.inj (hx'.symm.trans g2);subst this;obtain ⟨_,z,hz,hp⟩:=hkids _ hmem;exact .one (slot_ne_nowhere (h.core.inN _ _ g1).1) hz hp
structure Revd (S S':KS)(th:Int)(c:Cl)(t:Thd)(s:Slot):Prop where
 thr:S.K.thr th=some t
 find:findK (worked S).K t.root c.at_=some s
 held:∃k,(worked S).K.held s=some k
 idx:0<=s.index
 cut0:Cut s S (worked S)
 cut:Cut s S S'
 kids:hasKids S'.K s=false
 d:S'.D=[]
section
variable {σ:Type} {step:σ->σ} {done:σ->Bool}
theorem work_stop (n:Nat){S:σ}(bs:List Bool)(h:done S=true):workG step done n S bs=(S,bs,true):=by
 cases n with
 | zero=>rfl
 | succ n=>unfold workG;rw [if_pos h]
theorem work_n (n:Nat){S:σ}(h:¬done S=true):workG step done (n+1) S []=workG step done n (step S) []:=by
 rw [workG,if_neg h]
theorem work_t (n:Nat){S:σ}(r:List Bool)(h:¬done S=true):workG step done (n+1) S (true :: r)=(step S,r,false):=by
 rw [workG,if_neg h];rfl
theorem work_f (n:Nat){S:σ}(r:List Bool)(h:¬done S=true):workG step done (n+1) S (false :: r)=workG step done n (step S) r:=by
 rw [workG,if_neg h];rfl
theorem work_fuel:∀(n m:Nat) (S:σ),n<=m->Ends step done n S->workG step done m S []=workG step done n S []
 | 0,m,S,_,h=>by rw [work_stop m [] h];rfl
 | n+1,0,_,hl,_=>absurd hl (by omega)
 | n+1,m+1,S,hl,h=>by
  by_cases hd:done S=true
  ·rw [work_stop _ _ hd,work_stop _ _ hd]
  ·rw [work_n _ hd,work_n _ hd];exact work_fuel n m _ (by omega) (h.resolve_left hd)
theorem work_true:∀(n:Nat) (S:σ) (bs:List Bool),(workG step done n S bs).2.2=true->(workG step done n S bs).1=(workG step done n S []).1
 | 0,_,_,_=>rfl
 | n+1,S,bs,h=>by
  by_cases hd:done S=true
  ·rw [work_stop _ _ hd,work_stop _ _ hd]
  ·cases bs with
   | nil=>rfl
   | cons b r=>
    cases b with
    | true=>rw [work_t _ _ hd] at h;cases h
    | false=>rw [work_f _ _ hd] at h ⊢;rw [work_n _ hd];exact work_true n _ r h
theorem work_false:∀(n:Nat) (S:σ) (bs:List Bool),Ends step done n S->(workG step done n S bs).2.2=false->
 ∃m,m<=n/\Ends step done m (workG step done n S bs).1/\(workG step done m (workG step done n S bs).1 []).1=(workG step done n S []).1
 | 0,_,_,_,h=>by cases h
 | n+1,S,bs,he,h=>by
  by_cases hd:done S=true
  ·rw [work_stop _ _ hd] at h;cases h
  ·have he':=he.resolve_left hd;cases bs with
   | nil=>rw [work_nil] at h;cases h
   | cons b r=>
    cases b with
    | true=>rw [work_t _ _ hd];exact ⟨n,by omega,he',by rw [work_n _ hd]⟩
    | false=>
     rw [work_f _ _ hd] at h ⊢;rw [work_n _ hd];obtain ⟨m,h1,h2,h3⟩:=work_false n _ r he' h;exact ⟨m,by omega,h2,h3⟩
end
def WR (S:RS):RS:=(workG stepR doneR F0 S []).1
theorem Ag.wr {S:RS}{S':KS}(h:Ag S S'):Ag (WR S) (workG stepK doneK F0 S' []).1:=(Ag.work F0 [] h).2
theorem Ag.wrD {S:RS}{S':KS}(h:Ag S S'):(WR S).D=[]:=doneR_iff.1 (work_done F0 S [] (Ag.ends F0 h h.mu_le).1 (by rw [work_nil]))
theorem WR_done {S:RS}(h:S.D=[]):WR S=S:=by unfold WR;rw [work_stop F0 [] (doneR_iff.2 h)]
theorem Ag.wr_pre {S:RS}{S':KS}(h:Ag S S')(bs:List Bool)(hf:(workG stepR doneR F0 S bs).2.2=false):WR (workG stepR doneR F0 S bs).1=WR S:=by
 obtain ⟨m,h1,h2,h3⟩:=work_false F0 S bs (Ag.ends F0 h h.mu_le).1 hf;unfold WR;rw [work_fuel m F0 _ h1 h2];exact h3
theorem mu_work2:∀(n:Nat) {S:RS} {S':KS} (bs:List Bool),Ag S S'->mu (workG stepR doneR n S bs).1<=mu S/\((workG stepR doneR n S bs).2.2=false->mu (workG stepR doneR n S bs).1+1<=mu S)
 | 0,_,_,_,_=>⟨Nat.le_refl _,fun h=>by cases h⟩
 | n+1,S,S',bs,h=>by
  by_cases hd:doneR S=true
  ·rw [work_stop _ _ hd];exact ⟨Nat.le_refl _,fun h=>by cases h⟩
  ·have h1:=(mu_step h (by simpa using hd)).1;cases bs with
   | nil=>
    rw [work_n _ hd];have:=mu_work2 n [] h.step;exact ⟨by omega,fun h=>by rw [work_nil] at h;cases h⟩
   | cons b r=>
    cases b with
    | true=>rw [work_t _ _ hd];exact ⟨by simp only;omega,fun _=>h1⟩
    | false=>
     rw [work_f _ _ hd];have:=mu_work2 n r h.step;exact ⟨by omega,fun h=>by omega⟩
theorem takeB_nil {S:RS}(p:Nat)(e:Ent):takeB S p e []=(0,WR (takeR S p e),[]):=by
 have h2:(workG stepR doneR F0 (takeR S p e) []).2=([],true):=work_nil _ _;unfold takeB WR;simp only [pollL,Bool.false_eq_true,if_false,h2,if_true]
theorem takeB_res {S:RS}{S':KS}(h:Ag S S'){p:Nat}(hp:p<S.R.L.length)(bs:List Bool):
 (((takeB S p S.R.L[p] bs).1=0/\(takeB S p S.R.L[p] bs).2.1=WR (takeR S p S.R.L[p]))\/((takeB S p S.R.L[p] bs).1=8/\WR (takeB S p S.R.L[p] bs).2.1=WR (takeR S p S.R.L[p])))/\
 mu (takeB S p S.R.L[p] bs).2.1+1<=mu S:=by
 have h1:=h.take hp;have h2:=(mu_take h hp).1;unfold takeB;by_cases hb:(pollL bs).1=true
 ·rw [if_pos hb];exact ⟨.inr ⟨rfl,rfl⟩,h2⟩
 ·rw [if_neg hb];have h3:=mu_work2 F0 (pollL bs).2 h1;refine ⟨?_,by simp only;omega⟩;cases hw:(workG stepR doneR F0 (takeR S p S.R.L[p]) (pollL bs).2).2.2 with
  | true=>exact .inl ⟨rfl,work_true _ _ _ hw⟩
  | false=>exact .inr ⟨rfl,h1.wr_pre _ hw⟩
theorem revokeR_or (S:RS)(n i:Int):(∀k bs,revokeR k S n i bs=(0,S,bs))\/∃p,∃hp:p<S.R.L.length,∀k bs,revokeR (k+1) S n i bs =
 if (takeB S p S.R.L[p] bs).1=0 then revokeR k (takeB S p S.R.L[p] bs).2.1 n i (takeB S p S.R.L[p] bs).2.2 else takeB S p S.R.L[p] bs:=by
 cases hf:S.R.L.findIdx? (isAt n i) with
 | none=>left;intro k bs;cases k with
  | zero=>rfl
  | succ k=>rw [revokeR,hf]
 | some p=>
  cases he:S.R.L[p]? with
  | none=>left;intro k bs;cases k with
   | zero=>rfl
   | succ k=>rw [revokeR,hf];simp only [he]
  | some e=>
   by_cases hn:endI S.R.L p e.up=p+1
   ·left;intro k bs;cases k with
    | zero=>rfl
    | succ k=>rw [revokeR,hf];simp only [he,if_pos hn]
   ·cases hq:S.R.L[lastKid S.R.L p e.up]? with
    | none=>left;intro k bs;cases k with
     | zero=>rfl
     | succ k=>rw [revokeR,hf];simp only [he,if_neg hn,hq]
    | some e'=>
     right;obtain ⟨hp',e2⟩:=List.getElem?_eq_some_iff.1 hq;refine ⟨lastKid S.R.L p e.up,hp',fun k bs=>?_⟩
     rw [revokeR,hf];simp only [he,if_neg hn,hq,e2]
theorem revoke_fuel (n i:Int):∀(k:Nat) {S:RS} {S':KS},Ag S S'->S.R.L.length<=k->revokeR (k+1) S n i []=revokeR k S n i []
 | 0,S,S',h,hl=>by
  rcases revokeR_or S n i with e | ⟨p,hp,e⟩
  ·rw [e,e]
  ·omega
 | k+1,S,S',h,hl=>by
  rcases revokeR_or S n i with e | ⟨p,hp,e⟩
  ·rw [e,e]
  ·obtain ⟨_,_,g3,g4,g5⟩:=h.takeB hp [];obtain ⟨q1,q2,_⟩:=g5 rfl;rw [e,e,if_pos q1,if_pos q1,q2];exact revoke_fuel n i k g3 (by omega)
theorem revoke_res (n i:Int)(hi:0<=i):∀(k:Nat) {S:RS} {S':KS} (bs:List Bool),Ag S S'->S.R.L.length<=k->
 (revokeR k S n i []).1=0/\mu (revokeR k S n i bs).2.1<=mu S/\(revokeR k S n i bs).2.1.R.L.length<=S.R.L.length/\
 (((revokeR k S n i bs).1=0/\(revokeR k S n i bs).2.1=(revokeR k S n i []).2.1)\/
  ((revokeR k S n i bs).1=8/\mu (revokeR k S n i bs).2.1+1<=mu S/\revokeR k (WR (revokeR k S n i bs).2.1) n i []=revokeR k S n i []))
 | 0,S,S',bs,h,hl=>⟨rfl,Nat.le_refl _,Nat.le_refl _,.inl ⟨rfl,rfl⟩⟩
 | k+1,S,S',bs,h,hl=>by
  rcases revokeR_or S n i with e | ⟨p,hp,e⟩
  ·rw [e,e];exact ⟨rfl,Nat.le_refl _,Nat.le_refl _,.inl ⟨rfl,rfl⟩⟩
  ·obtain ⟨_,_,g3,g4,_⟩:=h.takeB hp bs;obtain ⟨_,_,n3,n4,n5⟩:=h.takeB hp [];obtain ⟨q1,q2,_⟩:=n5 rfl;have hnil:revokeR (k+1) S n i []=revokeR k (WR (takeR S p S.R.L[p])) n i []:=by
    rw [e,if_pos q1,q2,takeB_nil]
   rw [takeB_nil] at n3 n4;obtain ⟨hres,hmu⟩:=takeB_res h hp bs;have z0:=(revoke_res n i hi k [] n3 (by simp only at n4 ⊢;omega)).1;refine ⟨by rw [hnil];exact z0,?_⟩;rcases hres with ⟨h0,h1⟩ | ⟨h0,h1⟩
   ·have hb:revokeR (k+1) S n i bs=revokeR k (WR (takeR S p S.R.L[p])) n i (takeB S p S.R.L[p] bs).2.2:=by rw [e,if_pos h0,h1]
    rw [h1] at g4 hmu;obtain ⟨_,i2,i3,i4⟩:=revoke_res n i hi k (takeB S p S.R.L[p] bs).2.2 n3 (by simp only at n4 ⊢;omega);have iA:=(Ag.revoke k n i (takeB S p S.R.L[p] bs).2.2 n3 hi).2.1;simp only at i2 i3 i4 iA;rw [hb,hnil];refine ⟨by omega,by omega,?_⟩;rcases i4 with i4 | ⟨i4,i5,i6⟩
    ·exact .inl i4
    ·refine .inr ⟨i4,by omega,?_⟩;rw [revoke_fuel n i k iA.wr (Nat.le_trans (mu_work F0 [] iA) (by omega))];exact i6
   ·have hb:revokeR (k+1) S n i bs=takeB S p S.R.L[p] bs:=by rw [e,if_neg (by rw [h0];decide)]
    rw [hb,hnil];refine ⟨by omega,by omega,.inr ⟨h0,hmu,?_⟩⟩;rw [h1];exact revoke_fuel n i k n3 (by simp only at n4 ⊢;omega)
def TL (T T':List Thr):Prop:=∀t'∈T',∃t∈T,t.base=t'.base/\(t'.root=t.root\/t'.root=-1)
theorem TL.refl (T:List Thr):TL T T:=fun t h=>⟨t,h,rfl,.inl rfl⟩
theorem TL.trans {T T1 T2:List Thr}(h:TL T T1)(g:TL T1 T2):TL T T2:=fun t2 h2=>by
 obtain ⟨t1,h1,e1,f1⟩:=g t2 h2;obtain ⟨t,h0,e0,f0⟩:=h t1 h1;refine ⟨t,h0,e0.trans e1,?_⟩;rcases f1 with f1 | f1
 ·rw [f1];exact f0
 ·exact .inr f1
theorem tl_set (x:Int):∀(T:List Thr),TL T (setT x goneT T)
 | []=>TL.refl _
 | t :: T=>by
  intro t' h';unfold setT at h';split at h'
  ·rcases List.mem_cons.1 h' with rfl | h'
   ·exact ⟨t,by simp,rfl,.inl rfl⟩
   ·exact ⟨t',by simp [h'],rfl,.inl rfl⟩
  ·rcases List.mem_cons.1 h' with rfl | h'
   ·exact ⟨t',by simp,rfl,.inl rfl⟩
   ·obtain ⟨u,h1,h2⟩:=tl_set x T t' h';exact ⟨u,by simp [h1],h2⟩
theorem tl_tell (b:Int):∀(l:List Wt) (x:List Thr×List Wt),TL x.1 (l.foldl (tellR b) x).1
 | [],_=>TL.refl _
 | w :: l,x=>by
  rw [List.foldl_cons];refine TL.trans ?_ (tl_tell b l _);unfold tellR;split
  ·exact tl_set w.thread x.1
  ·exact TL.refl _
theorem tl_gone (S:RS)(ty b bits:Int):TL S.R.T (goneR S ty b bits).R.T:=by
 unfold goneR;split
 ·intro t' h';obtain ⟨t,h1,rfl⟩:=List.mem_map.1 h';unfold noRootT;split
  ·exact ⟨t,h1,rfl,.inr rfl⟩
  ·exact ⟨t,h1,rfl,.inl rfl⟩
 ·split
  ·exact tl_tell b S.q (S.R.T,S.q)
  ·split
   ·intro t' h';exact ⟨t',(List.mem_filter.1 h').1,rfl,.inl rfl⟩
   ·exact TL.refl _
theorem tl_take (S:RS)(i:Nat)(e:Ent):TL S.R.T (takeR S i e).R.T:=by
 unfold takeR;split
 ·exact TL.refl _
 ·exact tl_gone {S with R:={S.R with L:=takeL S.R.L i e.up}} e.ty e.base e.bits
theorem tl_step (S:RS):TL S.R.T (stepR S).R.T:=by
 unfold stepR;split
 ·exact TL.refl _
 ·split
  ·exact TL.refl _
  ·unfold takeAtR;split
   ·exact TL.refl _
   ·split
    ·exact TL.refl _
    ·exact tl_take {S with D:=_} _ _
theorem tl_work:∀(n:Nat) (S:RS) (bs:List Bool),TL S.R.T (workG stepR doneR n S bs).1.R.T
 | 0,S,bs=>TL.refl _
 | n+1,S,bs=>by
  by_cases hd:doneR S=true
  ·rw [work_stop _ _ hd];exact TL.refl _
  ·cases bs with
   | nil=>rw [work_n _ hd];exact (tl_step S).trans (tl_work n _ _)
   | cons b r=>
    cases b with
    | true=>rw [work_t _ _ hd];exact tl_step S
    | false=>rw [work_f _ _ hd];exact (tl_step S).trans (tl_work n _ _)
theorem tl_takeB (S:RS)(p:Nat)(e:Ent)(bs:List Bool):TL S.R.T (takeB S p e bs).2.1.R.T:=by
 unfold takeB;split
 ·exact tl_take S p e
 ·exact (tl_take S p e).trans (tl_work _ _ _)
theorem tl_revoke (n i:Int):∀(k:Nat) (S:RS) (bs:List Bool),TL S.R.T (revokeR k S n i bs).2.1.R.T
 | 0,S,bs=>TL.refl _
 | k+1,S,bs=>by
  rcases revokeR_or S n i with e | ⟨p,hp,e⟩
  ·rw [e];exact TL.refl _
  ·rw [e];split
   ·exact (tl_takeB S p _ bs).trans (tl_revoke n i k _ _)
   ·exact tl_takeB S p _ bs
theorem TL.find {T T':List Thr}(h:TL T T')(hn:(T.map Thr.base).Nodup){b:Int}{t' t:Thr}(h':T'.find? (isBaseT b)=some t')(ht:T.find? (isBaseT b)=some t):t'.root=t.root\/t'.root=-1:=by
 obtain ⟨u,hu,e1,e2⟩:=h t' (List.mem_of_find?_eq_some h');have hb':=List.find?_some h';have hb:=List.find?_some ht;simp only [isBaseT,beq_iff_eq] at hb hb';have hut:u=t:=by
  have ht':=List.mem_of_find?_eq_some ht;obtain ⟨i,hi,rfl⟩:=List.getElem_of_mem hu;obtain ⟨j,hj,rfl⟩:=List.getElem_of_mem ht';have:(T.map Thr.base)[i]'(by simpa using hi)=(T.map Thr.base)[j]'(by simpa using hj):=by
   simp only [List.getElem_map];rw [e1,hb',hb]
  have:=(List.getElem_inj hn).1 this;subst this;rfl
 rw [<- hut];exact e2
def NL (S S':KS):Prop:=∀b x,S'.K.nodes b=some x->S.K.nodes b=some x
theorem NL.refl (S:KS):NL S S:=fun _ _ h=>h
theorem NL.trans {S S1 S2:KS}(h:NL S S1)(g:NL S1 S2):NL S S2:=fun b x e=>h b x (g b x e)
theorem nl_gone (S:KS)(c:KCap):NL S (goneK S c):=by
 cases c with
 | node b n r=>
  intro b' x h;have h:upd S.K.nodes b none b'=some x:=h;by_cases e:b'=b
  ·rw [e,upd_same] at h;cases h
  ·rw [upd_other _ _ e] at h;exact h
 | _=>exact fun _ _ h=>h
theorem nl_take (S:KS)(s:Slot):NL S (takeK S s):=by
 cases hc:S.K.held s with
 | none=>rw [takeK_none hc];exact NL.refl S
 | some c=>
  by_cases hh:heldK (outK S.K s) c.ty c.base
  ·rw [takeK_held hc hh];exact fun _ _ h=>h
  ·rw [takeK_gone hc hh];exact fun b x h=>nl_gone ⟨outK S.K s,S.D⟩ c b x h
theorem nl_step (S:KS):NL S (stepK S):=by
 unfold stepK;split
 ·exact NL.refl S
 ·split
  ·exact NL.refl S
  ·exact nl_take {S with D:=_} _
theorem nl_work:∀(n:Nat) (S:KS) (bs:List Bool),NL S (workG stepK doneK n S bs).1
 | 0,S,bs=>NL.refl S
 | n+1,S,bs=>by
  by_cases hd:doneK S=true
  ·rw [work_stop _ _ hd];exact NL.refl S
  ·cases bs with
   | nil=>rw [work_n _ hd];exact (nl_step S).trans (nl_work n _ _)
   | cons b r=>
    cases b with
    | true=>rw [work_t _ _ hd];exact nl_step S
    | false=>rw [work_f _ _ hd];exact (nl_step S).trans (nl_work n _ _)
theorem nl_takeB (S:KS)(s:Slot)(bs:List Bool):NL S (takeBK S s bs).2.1:=by
 unfold takeBK;split
 ·exact nl_take S s
 ·exact (nl_take S s).trans (nl_work _ _ _)
theorem nl_revoke:∀(n:Nat) (S:KS) (s:Slot) (bs:List Bool),NL S (revokeK n S s bs).2.1
 | 0,S,_,_=>NL.refl S
 | n+1,S,s,bs=>by
  unfold revokeK;split
  ·split
   ·exact (nl_takeB S _ _).trans (nl_revoke n _ _ _)
   ·exact nl_takeB S _ _
  ·exact NL.refl S
theorem ok_less {S S':KS}(hn:NL S S'){nd x:Int}(h:okK S'.K nd x=true):okK S.K nd x=true:=by
 unfold okK nodesI at h ⊢;cases he:S'.K.nodes nd with
 | none=>rw [he] at h;simp at h;omega
 | some y=>rw [he] at h;rw [hn _ _ he];exact h
theorem find_less {S S':KS}(hl:Less S S')(hn:NL S S'){root:Int}{l:List Int}{s:Slot}(h:findK S'.K root l=some s):findK S.K root l=some s:=by
 unfold findK at h ⊢;split at h
 ·cases h
 ·rename_i hlen;rw [if_neg hlen];clear hlen;induction l generalizing root with
  | nil=>simp [goK] at h
  | cons x r ih=>
   cases r with
   | nil=>
    unfold goK at h ⊢;split at h
    ·rename_i hx;rw [if_pos (ok_less hn hx)];exact h
    ·cases h
   | cons y r=>
    rw [goK] at h ⊢;split at h
    ·rename_i hx;rw [if_pos (ok_less hn hx)];cases hk:nodeK S'.K ⟨root,x⟩ with
     | none=>rw [hk] at h;cases h
     | some nd=>
      rw [hk] at h;have:nodeK S.K ⟨root,x⟩=some nd:=by
       unfold nodeK at hk ⊢;cases hh:S'.K.held ⟨root,x⟩ with
       | none=>rw [hh] at hk;cases hk
       | some c=>rw [hh] at hk;rw [hl _ _ hh];exact hk
      rw [this];exact ih h
    ·cases h
theorem goKs_ok {K:Ker}:∀{l:List Int} {root:Int} {s:Slot},goK K root l=some s->okK K s.node s.index=true
 | [],_,_,h=>by cases h
 | [x],root,s,h=>by
  unfold goK at h;split at h
  ·rename_i hx;cases h;exact hx
  ·cases h
 | x :: y :: r,root,s,h=>by
  rw [goK] at h;split at h
  ·cases hk:nodeK K ⟨root,x⟩ with
   | none=>rw [hk] at h;cases h
   | some nd=>rw [hk] at h;exact goKs_ok h
  ·cases h
theorem findKs_ok {K:Ker}{l:List Int}{root:Int}{s:Slot}(h:findK K root l=some s):okK K s.node s.index=true:=by
 unfold findK at h;split at h
 ·cases h
 ·exact goKs_ok h
theorem Ag.nodeThere {R:RS}{S:KS}(h:Ag R S){s:Slot}(ho:okK S.K s.node s.index=true):¬NoNode S.K s.node:=by
 intro hn;unfold okK nodesI at ho;cases he:S.K.nodes s.node with
 | none=>rw [he] at ho;simp at ho;omega
 | some y=>
  obtain ⟨_,_,_,u,n,r,hu⟩:=h.core.nod _ _ he;exact hn u _ n r hu rfl
theorem Ag.noRoot {R:RS}{S:KS}(h:Ag R S)(l:List Int):findI R.R.L R.R.N (stillI R.R.N (-1)) l=none:=by
 rw [h.core.still];have hf:=h.core.rel.find (-1) l;cases hfi:findI R.R.L R.R.N (-1) l with
 | none=>rfl
 | some q=>
  rw [hfi] at hf;simp only [Option.map_some] at hf;exfalso
  unfold findK at hf;split at hf
  ·cases hf
  ·have hno:∀x,okK S.K (-1) x=false:=by
    intro x;unfold okK nodesI;cases he:S.K.nodes (-1) with
    | none=>simp
    | some y=>have:=(h.core.nod _ _ he).1;omega
   match l,hf with
   | [],hf=>cases hf
   | [x],hf=>unfold goK at hf;rw [if_neg (by rw [hno];decide)] at hf;cases hf
   | x :: y :: r,hf=>rw [goK,if_neg (by rw [hno];decide)] at hf;cases hf
theorem Ag.up_lt {R:RS}{S:KS}(h:Ag R S){s t:Slot}(hu:Up S.K.st s t):∀(j:Nat) (hj:j<R.R.L.length),R.R.L[j].slot=t->∀(i:Nat) (hi:i<R.R.L.length),R.R.L[i].slot=s->i<j:=by
 induction hu with
 | one g1 g2 g3=>
  rename_i t x;intro j hj ej i hi ei;subst ej;rcases h.parRow hj g2 with e | ⟨q,hq,hlt,e⟩
  ·obtain ⟨c,hc,_⟩:=h.core.rel.cap _ (List.getElem_mem hi);rw [ei] at hc;exact absurd (g3.symm.trans e) (slot_ne_nowhere (h.core.inN _ _ hc).1)
  ·have:q=i:=h.rows_one hq hi (e.symm.trans (g3.trans ei.symm));omega
 | more g1 g2 g3 ih=>
  rename_i t x;intro j hj ej i hi ei;subst ej;rcases h.parRow hj g2 with e | ⟨q,hq,hlt,e⟩
  ·rw [e] at g3;cases g3 with
   | one q1 _ _=>exact absurd rfl q1
   | more q1 _ _=>exact absurd rfl q1
  ·have:=ih q hq e.symm i hi ei;omega
theorem Ag.up_ne {R:RS}{S:KS}(h:Ag R S){s:Slot}{c:KCap}(hc:S.K.held s=some c):¬Up S.K.st s s:=by
 intro hu;obtain ⟨p,hp,e⟩:=KGood.at h hc;have:=h.up_lt hu p hp e p hp e;omega
theorem cut_revokeB (s:Slot)(hs:0<=s.index):∀(k:Nat) {R:RS} {S:KS} (bs:List Bool) (_:Ag R S),Cut s S (revokeK k S s bs).2.1
 | 0,R,S,_,h=>Cut.refl s S
 | k+1,R,S,bs,h=>by
  unfold revokeK;split
  ·rename_i hk;obtain ⟨c,g1,g2⟩:=kid_up h hs hk;obtain ⟨p,hp,e⟩:=KGood.at h g1;have hA:=(h.takeB hp bs).2.2.1;have hT:=h.take hp;rw [e] at hA hT;have hc:Cut s S (takeBK S (lastC S.K s) bs).2.1:=by
    unfold takeBK;split
    ·exact cut_take h s g1 (.inl g2)
    ·exact (cut_take h s g1 (.inl g2)).trans (cut_work s _ hT _)
   split
   ·exact hc.trans (cut_revokeB s hs k _ hA)
   ·exact hc
  ·exact Cut.refl s S
theorem nodeIn_set:∀(L:List Ent) (p:Nat) (e e':Ent),L[p]?=some e->e'.node=e.node->e'.index=e.index->e'.ty=e.ty->e'.base=e.base->∀nd x,nodeIn (L.set p e') nd x=nodeIn L nd x
 | [],_,_,_,h,_,_,_,_,_,_=>by simp at h
 | a :: L,0,e,e',h,h1,h2,h3,h4,nd,x=>by
  simp only [List.getElem?_cons_zero,Option.some.injEq] at h;subst h;have hi:isAt nd x e'=isAt nd x a:=by unfold isAt;rw [h1,h2]
  unfold nodeIn;rw [List.set_cons_zero,List.find?_cons,List.find?_cons,hi];cases isAt nd x a with
  | true=>simp only [h3,h4]
  | false=>rfl
 | a :: L,p+1,e,e',h,h1,h2,h3,h4,nd,x=>by
  have ih:=nodeIn_set L p e e' (by simpa using h) h1 h2 h3 h4 nd x;unfold nodeIn at ih ⊢;rw [List.set_cons_succ,List.find?_cons,List.find?_cons];cases isAt nd x a with
  | true=>rfl
  | false=>exact ih
theorem findI_set {L:List Ent}{p:Nat}{e e':Ent}(h:L[p]?=some e)(h1:e'.node=e.node)(h2:e'.index=e.index)(h3:e'.ty=e.ty)(h4:e'.base=e.base)(N:List Liv)(root:Int)(l:List Int):findI (L.set p e') N root l=findI L N root l:=by
 have go:∀(l:List Int) (nd:Int),goF (L.set p e') N nd l=goF L N nd l:=by
  intro l;induction l with
  | nil=>intro nd;rfl
  | cons x r ih=>
   intro nd;cases r with
   | nil=>rfl
   | cons y r=>
    rw [goF,goF,nodeIn_set L p e e' h h1 h2 h3 h4 nd x];split
    ·split
     ·exact ih _
     ·rfl
    ·rfl
 unfold findI;rw [go]
theorem findIdx_set:∀(L:List Ent) (p:Nat) (e e':Ent),L[p]?=some e->e'.node=e.node->e'.index=e.index->∀nd x,(L.set p e').findIdx? (isAt nd x)=L.findIdx? (isAt nd x)
 | [],_,_,_,h,_,_,_,_=>by simp at h
 | a :: L,0,e,e',h,h1,h2,nd,x=>by
  simp only [List.getElem?_cons_zero,Option.some.injEq] at h;subst h;have hi:isAt nd x e'=isAt nd x a:=by unfold isAt;rw [h1,h2]
  rw [List.set_cons_zero,List.findIdx?_cons,List.findIdx?_cons,hi]
 | a :: L,p+1,e,e',h,h1,h2,nd,x=>by
  have ih:=findIdx_set L p e e' (by simpa using h) h1 h2 nd x;rw [List.set_cons_succ,List.findIdx?_cons,List.findIdx?_cons,ih]
theorem some_set:∀(L:List Ent) (p:Nat) (e e':Ent),L[p]?=some e->e'.node=e.node->e'.index=e.index->∀nd x,((L.set p e').find? (isAt nd x)).isSome=(L.find? (isAt nd x)).isSome
 | [],_,_,_,h,_,_,_,_=>by simp at h
 | a :: L,0,e,e',h,h1,h2,nd,x=>by
  simp only [List.getElem?_cons_zero,Option.some.injEq] at h;subst h;have hi:isAt nd x e'=isAt nd x a:=by unfold isAt;rw [h1,h2]
  rw [List.set_cons_zero,List.find?_cons,List.find?_cons,hi];cases isAt nd x a<;>rfl
 | a :: L,p+1,e,e',h,h1,h2,nd,x=>by
  have ih:=some_set L p e e' (by simpa using h) h1 h2 nd x;rw [List.set_cons_succ,List.find?_cons,List.find?_cons];cases isAt nd x a with
  | true=>rfl
  | false=>exact ih
theorem full_set {L:List Ent}{p:Nat}{e e':Ent}(h:L[p]?=some e)(h1:e'.node=e.node)(h2:e'.index=e.index)(n ix:Int)(k:Nat):fullIn (L.set p e') n ix k=fullIn L n ix k:=by
 unfold fullIn;congr 1;funext i;exact some_set L p e e' h h1 h2 n (ix+i)
theorem endI_set (L:List Ent)(p:Nat)(e':Ent)(up:Int):endI (L.set p e') p up=endI L p up:=by
 unfold endI;rw [List.drop_set_of_lt (by omega)]
theorem clr_two (ws:Nat->Int)(b m m' r:Int)(h1:r<=m')(h2:m'<=m):clrW (clrW ws (b+m') (m-m')) (b+r) (m'-r)=clrW ws (b+r) (m-r):=by
 funext i;unfold clrW;by_cases c1:b+r<=(i:Int)/\(i:Int)<b+r+(m'-r)
 ·rw [if_pos c1,if_pos (by omega)]
 ·rw [if_neg c1];by_cases c2:b+m'<=(i:Int)/\(i:Int)<b+m'+(m-m')
  ·rw [if_pos c2,if_pos (by omega)]
  ·rw [if_neg c2,if_neg (by omega)]
theorem reset_two (S:RS)(p:Nat)(e:Ent)(m' r:Int)(h1:r<=m')(h2:m'<=e.mark):resetS (resetS S p e m') p {e with mark:=m'} r=resetS S p e r:=by
 unfold resetS;simp only [List.set_set,clr_two S.ws e.base e.mark m' r h1 h2]
theorem reset_pre (m:Int)(bs:List Bool)(h0:0<=m)(h1:m<=1600)(hf:(resetM m bs).2.2=false):(resetM (resetM m bs).1 []).1=(resetM m []).1/\((resetM m bs).1+15) / 16<(m+15) / 16/\0<=(resetM m bs).1/\(resetM m bs).1<=m:=by
 have he:=reset_ends 100 m (by omega);have hr:=reset_range 100 m bs h0;have hr2:∀r,(workG (fun m:Int=>max (m-16) 0) (fun m=>decide (m<=0)) 99 (max (m-16) 0) r).1<=max (m-16) 0:=fun r=>(reset_range 99 (max (m-16) 0) r (by omega)).2
 have hs:(fun m:Int=>max (m-16) 0) m=max (m-16) 0:=rfl
 have hdn:(fun m:Int=>decide (m<=0)) m=decide (m<=0):=rfl
 unfold resetM at hf ⊢;generalize (fun m:Int=>max (m-16) 0)=step at *
 generalize (fun m:Int=>decide (m<=0))=done at *
 obtain ⟨k,q1,q2,q3⟩:=work_false 100 m bs he hf;refine ⟨by rw [work_fuel k 100 _ q1 q2];exact q3,?_,hr⟩;by_cases hd:done m=true
 ·rw [work_stop _ _ hd] at hf;cases hf
 ·have hm:0<m:=by rw [hdn] at hd;simpa using hd
  cases bs with
  | nil=>rw [work_nil] at hf;cases hf
  | cons b r=>
   cases b with
   | true=>rw [work_t 99 _ hd,hs];simp only;omega
   | false=>
    rw [work_f 99 _ hd,hs];have:=hr2 r;omega
end Go.Proofs.YtdpjgflemddekaaDoor

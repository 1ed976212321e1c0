/- The keeping statements: what the list of a kernel's capabilities holds to. Nothing of the program's text, but for the functions' answers. -/
import Derived.Test.YtdpjgflemddekaaDoorMKeepC
import Derived.Test.YtdpjgflemddekaaDoorMTalkP
set_option maxHeartbeats 1000000
namespace Go.Proofs.YtdpjgflemddekaaDoor
def capsL (R:RS):List ee:=jm R.R.L R.R.L.length
theorem e_ (R:RS):(capsL R).length=R.R.L.length:=tj _ _ (Nat.le_refl _)
theorem bu6 (L:List bo)(u:Int):∀p,p<=L.length->par L u p=(-1,-1)\/∃q,∃hq:q<L.length,q<p/\par L u p=(L[q].node,L[q].index)
 | 0,_=>.inl rfl
 | p+1,h=>by
  by_cases e:L[p].up=u-1
  ·exact .inr ⟨p,h,by omega,bf4 L u p h e⟩
  ·rw [ak3 L u p h e];rcases bu6 L u p (by omega) with h1 | ⟨q,hq,h1,h2⟩
   ·exact .inl h1
   ·exact .inr ⟨q,hq,by omega,h2⟩
structure b77 (R:RS)(S:KS)(i:Nat)(hi:i<(capsL R).length)(c:KCap)(s:Slot)(x:ly):Prop where
 node:(capsL R)[i].node=s.node
 index:(capsL R)[i].index=s.index
 held:S.K.held s=some c
 st:S.K.st s=some x
 ty:(capsL R)[i].ty=c.ty
 base:(capsL R)[i].base=c.base
 bits:(capsL R)[i].bits=c.bits
 rights:(capsL R)[i].rights=c.rights
 badge:(capsL R)[i].badge=c.badge
 mark:(capsL R)[i].mark=c.mark
 parent:(capsL R)[i].parent=x.parent.node
 place:(capsL R)[i].place=x.parent.index
theorem a8_ (c:KCap):c.told.2.2.2.2.1=c.badge:=by cases c<;>rfl
theorem Ag.row {R:RS}{S:KS}(h:Ag R S)(i:Nat)(hi:i<(capsL R).length):∃c x,b77 R S i hi c (R.R.L[i]'(by rw [<- e_];exact hi)).slot x:=by
 have hi':i<R.R.L.length:=by rw [<- e_];exact hi
 obtain ⟨c,hc,ht⟩:=h.core.rel.cap _ (List.getElem_mem hi');obtain ⟨F,hF⟩:=h.core.rel.tree;have hm:R.R.L[i].slot∈F.slots:=(ld h.core.rel hF).2 ⟨c,hc⟩;obtain ⟨x,hx,_⟩:=hF.stands.fact hF.nodup _ hm;have hcaps:=h.core.rel.caps hF;have e1:(capsL R)[i]=aw3 R.R.L i R.R.L[i]:=ug _ _ (Nat.le_refl _) i hi' hi;have e2:(capsL R)[i]=lj S.K R.R.L[i].slot:=by
  have h1:i<(F.slots.map (lj S.K)).length:=by rw [hcaps];exact hi
  have h2:(F.slots.map (lj S.K))[i]=(capsL R)[i]:=by unfold capsL;congr 1
  rw [<- h2,List.getElem_map];congr 1;have h3:F.slots=R.R.L.map bo.slot:=hF.slots;have h4:F.slots[i]'(by simpa using h1)=(R.R.L.map bo.slot)[i]'(by simpa using hi'):=by congr 1
  rw [h4,List.getElem_map]
 obtain ⟨t1,t2,t3,t4,t5⟩:=xv ht;have t6:=(pl ht).2.2;refine ⟨c,x,?_,?_,hc,hx,?_,?_,?_,?_,?_,?_,?_,?_⟩
 ·rw [e1];rfl
 ·rw [e1];rfl
 ·rw [e1];exact t1
 ·rw [e1];exact t2
 ·rw [e1];exact t3
 ·rw [e1];exact t4
 ·rw [e1];exact t5.trans (a8_ c)
 ·rw [e1];exact t6.symm
 ·rw [e2];simp only [lj,hx,yf]
 ·rw [e2];simp only [lj,hx,yf]
theorem Ag.rows_one {R:RS}{S:KS}(h:Ag R S){i j:Nat}(hi:i<R.R.L.length)(hj:j<R.R.L.length)(e:R.R.L[i].slot=R.R.L[j].slot):i=j:=by
 obtain ⟨F,hF⟩:=h.core.rel.tree;have hnd:=hF.nd;have e1:(R.R.L.map bo.slot)[i]'(by simpa using hi)=(R.R.L.map bo.slot)[j]'(by simpa using hj):=by simpa using e
 exact (List.getElem_inj hnd).1 e1
theorem Ag.findRow {R:RS}{S:KS}(h:Ag R S){q:Nat}(hq:q<R.R.L.length):fu (capsL R) R.R.L[q].slot.node R.R.L[q].slot.index=q:=by
 have hl:=e_ R;refine a48 (by rw [hl];exact hq) (fun j hj hlt=>?_) ?_
 ·obtain ⟨c,x,hr⟩:=h.row j hj;have hj':j<R.R.L.length:=by rw [<- hl];exact hj
  cases hb:wy R.R.L[q].slot.node R.R.L[q].slot.index (capsL R)[j] with
  | false=>rfl
  | true=>
   simp only [wy,Bool.and_eq_true,beq_iff_eq] at hb;rw [hr.node,hr.index] at hb;have:R.R.L[j].slot=R.R.L[q].slot:=by
    cases hA:R.R.L[j].slot;cases hB:R.R.L[q].slot
    rw [hA,hB] at hb;simp only at hb;rw [hb.1,hb.2]
   have:=h.rows_one hj' hq this;omega
 ·obtain ⟨c,x,hr⟩:=h.row q (by rw [hl];exact hq);simp only [wy,Bool.and_eq_true,beq_iff_eq];exact ⟨hr.node,hr.index⟩
theorem Ag.parRow {R:RS}{S:KS}(h:Ag R S){i:Nat}(hi:i<R.R.L.length){x:ly}(hx:S.K.st R.R.L[i].slot=some x):x.parent=nowhere\/∃q,∃hq:q<R.R.L.length,q<i/\x.parent=R.R.L[q].slot:=by
 have hi2:i<(capsL R).length:=by rw [e_];exact hi
 obtain ⟨c,x',hr⟩:=h.row i hi2;have:x'=x:=by have:=hr.st.symm.trans hx;exact Option.some.inj this
 subst this;have e1:(capsL R)[i]=aw3 R.R.L i R.R.L[i]:=ug _ _ (Nat.le_refl _) i hi hi2;have p1:=hr.parent;have p2:=hr.place;rw [e1] at p1 p2;simp only [aw3] at p1 p2;rcases bu6 R.R.L R.R.L[i].up i (by omega) with h1 | ⟨q,hq,h1,h2⟩
 ·left;rw [h1] at p1 p2;cases hp:x'.parent;rw [hp] at p1 p2;simp only at p1 p2;rw [<- p1,<- p2];rfl
 ·right;refine ⟨q,hq,h1,?_⟩;rw [h2] at p1 p2;cases hp:x'.parent;rw [hp] at p1 p2;simp only at p1 p2;rw [<- p1,<- p2];rfl
theorem Ag.above {R:RS}{S:KS}(h:Ag R S){i:Nat}(hi:i<R.R.L.length){t:Slot}(hu:Up S.K.st R.R.L[i].slot t):∀(j:Nat) (hj:j<R.R.L.length),R.R.L[j].slot=t->∀fuel,j<fuel->gw (capsL R) i fuel j=true:=by
 have hl:=e_ R;have step:∀(j:Nat) (hj:j<R.R.L.length) (x:ly) (_:S.K.st R.R.L[j].slot=some x) (q:Nat) (hq:q<R.R.L.length) (_:x.parent=R.R.L[q].slot) (k:Nat),(q=i\/gw (capsL R) i k q=true)->gw (capsL R) i (k+1) j=true:=by
  intro j hj x hx q hq hp k hk;obtain ⟨c,x',hr⟩:=h.row j (by rw [hl];exact hj);have:x'=x:=by have:=hr.st.symm.trans hx;exact Option.some.inj this
  subst this;have hf:=h.findRow hq;obtain ⟨cq,hcq,_⟩:=h.core.rel.cap _ (List.getElem_mem hq);have h0:=(h.core.slot hcq).1;have e1:=hr.parent;have e2:=hr.place;rw [hp] at e1 e2;show (match (capsL R)[(j:Int).toNat]? with
   | none=>false
   | some a=>if a.parent<0 then false else if fu (capsL R) a.parent a.place<0 then false else if fu (capsL R) a.parent a.place=i then true else gw (capsL R) i k (fu (capsL R) a.parent a.place))=true
  rw [Int.toNat_natCast,List.getElem?_eq_getElem (by rw [hl];exact hj)];simp only;rw [e1,e2,hf,if_neg (by omega),if_neg (by omega)];rcases hk with hk | hk
  ·rw [if_pos (by rw [hk])]
  ·split
   ·rfl
   ·exact hk
 induction hu with
 | one h1 h2 h3=>
  intro j hj e fuel hfu;obtain ⟨k,rfl⟩:∃k,fuel=k+1:=⟨fuel-1,by omega⟩;exact step j hj _ (by rw [e];exact h2) i hi h3 k (.inl rfl)
 | more h1 h2 h3 ih=>
  intro j hj e fuel hfu;obtain ⟨k,rfl⟩:∃k,fuel=k+1:=⟨fuel-1,by omega⟩;rcases h.parRow hj (by rw [e];exact h2) with hp | ⟨q,hq,hqj,hp⟩
  ·exact absurd hp h3.ne
  ·exact step j hj _ (by rw [e];exact h2) q hq hp k (.inr (ih q hq hp.symm k (by omega)))
theorem Ag.apartA {R:RS}{S:KS}(h:Ag R S):bx3 (capsL R) R.D:=by
 have hl:=e_ R;refine ⟨?_,?_,?_,?_,?_⟩
 ·intro i hi;obtain ⟨c,x,hr⟩:=h.row i hi;obtain ⟨h1,h2,h3,h4,h5,h6⟩:=h.core.cap _ c hr.held;have:=gy c.bits.toNat;rw [hr.base,hr.bits];omega
 ·intro i j hi hj hlt;obtain ⟨c,x,hr⟩:=h.row i hi;obtain ⟨d,y,hr'⟩:=h.row j hj;have hi':i<R.R.L.length:=by rw [<- hl];exact hi
  have hj':j<R.R.L.length:=by rw [<- hl];exact hj
  have hne:R.R.L[i].slot≠R.R.L[j].slot:=fun e=>by have:=h.rows_one hi' hj' e;omega
  rw [hr.ty,hr.base,hr.bits,hr'.ty,hr'.base,hr'.bits];rcases h.core.geo.apart _ _ c d hne hr.held hr'.held with g | g | ⟨g1,g2⟩ | ⟨g1,g2⟩
  ·refine .inl (fun hm=>?_);unfold ab1 at g;obtain ⟨m1,m2⟩:=hm;omega
  ·refine .inr (.inl ⟨g.2.1,g.2.2.1,g.2.2.2,fun e=>?_⟩);have:=g.1;rw [vo.2 e] at this;cases this
  ·exact .inr (.inr (.inl ⟨vo.1 g1,h.above hi' g2 j hj' rfl _ (by omega)⟩))
  ·exact .inr (.inr (.inr ⟨vo.1 g1,h.above hj' g2 i hi' rfl _ (by omega)⟩))
 ·intro i hi;have:=h.core.dm _ (List.getElem_mem hi);omega
 ·intro i j hi hj;obtain ⟨c,x,hr⟩:=h.row j hj;rw [hr.ty,hr.base,hr.bits];cases hu:c.isU with
  | true=>exact .inl (vo.1 hu)
  | false=>
   refine .inr (fun hm=>?_);obtain ⟨m1,m2⟩:=hm;have h8:pw (3:Int).toNat=8:=rfl;rw [h8] at m2;have:=h.core.dap _ (List.getElem_mem hi) _ c hr.held hu;omega
 ·intro i j hi hj hlt e;have hnd:=h.core.dn;have e1:(R.D.map Prod.fst)[j]'(by simpa using hj)=(R.D.map Prod.fst)[i]'(by simpa using hi):=by simpa using e
  have:=(List.getElem_inj hnd).1 e1;omega
theorem Ag.withinA {R:RS}{S:KS}(h:Ag R S):bi5 (capsL R):=by
 have hl:=e_ R;refine ⟨?_,?_⟩
 ·intro i hi;obtain ⟨c,x,hr⟩:=h.row i hi;obtain ⟨h1,h2,h3,h4,h5,h6⟩:=h.core.cap _ c hr.held;have:=gy c.bits.toNat;rw [hr.base,hr.bits,hr.mark];omega
 ·intro i hi hp;obtain ⟨c,x,hr⟩:=h.row i hi;have hi':i<R.R.L.length:=by rw [<- hl];exact hi
  rcases h.parRow hi' hr.st with e | ⟨q,hq,hqi,e⟩
  ·rw [hr.parent,e] at hp;exact absurd hp (by decide)
  ·obtain ⟨d,y,hr'⟩:=h.row q (by rw [hl];exact hq);refine ⟨q,by rw [hl];exact hq,hqi,by rw [hr.parent,hr.place,e];exact h.findRow hq,?_⟩;rw [hr.ty,hr.base,hr.bits,hr.badge,hr'.ty,hr'.base,hr'.bits,hr'.badge,hr'.mark];have htn:R.R.L[i].slot≠nowhere:=df (h.core.inN _ _ hr.held).1;have hw:=h.core.geo.within _ x c d htn hr.st hr.held (by rw [e];exact hr'.held);have hcd:=(h.core.cap _ d hr'.held).2.2.2.2.2;cases hu:d.isU with
   | true=>
    left;cases d with
    | untyped b n m=>exact ⟨rfl,hw.1,hw.2,hcd⟩
    | _=>cases hu
   | false=>
    right;obtain ⟨hs,hb⟩:=(xh hu).1 hw;refine ⟨fun e=>?_,hs.2.1,hs.2.2.1,hs.2.2.2,hb.imp id Eq.symm⟩
    rw [vo.2 e] at hu;cases hu
def mh (S S':KS):Prop:=∀s c,S'.K.held s=some c->S.K.held s=some c
theorem mh.refl (S:KS):mh S S:=fun _ _ h=>h
theorem mh.trans {S S1 S2:KS}(h:mh S S1)(g:mh S1 S2):mh S S2:=fun s c e=>h s c (g s c e)
theorem am6 (S:KS)(c:KCap):(ah8 S c).K.held=S.K.held:=by cases c<;>rfl
theorem qe (S:KS)(s:Slot):mh S (d_ S s):=by
 have ho:∀s' c,(jq S.K s).held s'=some c->S.K.held s'=some c:=by
  intro s' c h;have h:upd S.K.held s none s'=some c:=h;by_cases e:s'=s
  ·rw [e,ai] at h;cases h
  ·rw [af _ _ e] at h;exact h
 cases hc:S.K.held s with
 | none=>rw [kw hc];exact mh.refl S
 | some c=>
  by_cases hh:pp (jq S.K s) c.ty c.base
  ·rw [jn hc hh];exact ho
  ·rw [fo hc hh];intro s' c' h;rw [am6] at h;exact ho s' c' h
theorem xx (S:KS):mh S (az S):=by
 unfold az;split
 ·exact mh.refl S
 ·split
  ·exact mh.refl S
  ·exact qe {S with D:=_} _
theorem kg:∀(n:Nat) (S:KS) (bs:List Bool),mh S (ak az bf n S bs).1
 | 0,S,bs=>mh.refl S
 | n+1,S,bs=>by
  unfold ak;split
  ·exact mh.refl S
  ·cases bs with
   | nil=>exact (xx S).trans (kg n _ _)
   | cons b r=>
    simp only;split
    ·exact xx S
    ·exact (xx S).trans (kg n _ _)
theorem p7 (S:KS)(s:Slot)(bs:List Bool):mh S (co S s bs).2.1:=by
 unfold co;split
 ·exact qe S s
 ·exact (qe S s).trans (kg _ _ _)
theorem sx:∀(n:Nat) (S:KS) (s:Slot) (bs:List Bool),mh S (bw n S s bs).2.1
 | 0,S,_,_=>mh.refl S
 | n+1,S,s,bs=>by
  unfold bw;split
  ·split
   ·exact (p7 S _ _).trans (sx n _ _ _)
   ·exact p7 S _ _
  ·exact mh.refl S
def ye (K:a_)(c':KCap):Prop:=
 (∃s c,K.held s=some c/\c.ty=c'.ty/\c.base=c'.base/\li c'.rights c.rights=0/\(c'.badge=0->c.badge=0))\/(∀s c,K.held s=some c->c.ty=c'.ty->c.base≠c'.base)
theorem as5 {r:Int}(h:0<=r/\r<=7):li r r=0:=by
 have e:r=0\/r=1\/r=2\/r=3\/r=4\/r=5\/r=6\/r=7:=by omega
 rcases e with rfl | rfl | rfl | rfl | rfl | rfl | rfl | rfl<;>decide
theorem bq_:∀a b:Fin 8,li (fy (a.val:Int) (b.val:Int)) (a.val:Int)=0:=by decide +kernel
theorem b01:∀a b x:Fin 8,li (a.val:Int) (x.val:Int)=0->li (b.val:Int) (x.val:Int)=0->li (orI (a.val:Int) (b.val:Int)) (x.val:Int)=0:=by decide +kernel
theorem bh9:∀a b x:Fin 8,(li (x.val:Int) (a.val:Int)=0\/li (x.val:Int) (b.val:Int)=0)->li (x.val:Int) (orI (a.val:Int) (b.val:Int))=0:=by decide +kernel
theorem by1:∀a b x:Fin 8,li (a.val:Int) (b.val:Int)=0->li (b.val:Int) (x.val:Int)=0->li (a.val:Int) (x.val:Int)=0:=by decide +kernel
theorem b50:∀a b:Fin 8,0<=orI (a.val:Int) (b.val:Int)/\orI (a.val:Int) (b.val:Int)<=7:=by decide +kernel
theorem ac0 {r:Int}(h:0<=r/\r<=7):∃a:Fin 8,r=(a.val:Int):=⟨⟨r.toNat,by omega⟩,by simp;omega⟩
theorem ye.self {R:RS}{S:KS}(h:Ag R S){s:Slot}{c:KCap}(hc:S.K.held s=some c):ye S.K c:=
 .inl ⟨s,c,hc,rfl,rfl,as5 (h.core.rt s c hc),id⟩
theorem ah3 {K:a_}{t:Slot}{c:KCap}{p s:Slot}{c':KCap}(h:(K.lay t c p).held s=some c'):c'=c\/K.held s=some c':=by
 have h:upd K.held t (some c) s=some c':=h;by_cases e:s=t
 ·rw [e,ai] at h;exact .inl (Option.some.inj h).symm
 ·rw [af _ _ e] at h;exact .inr h
theorem am1 {R:RS}{S:KS}(h:Ag R S)(root:Int)(l:List Int)(k:KCap)(p:Slot)(hk:ye S.K k):∀s' c',(cz S.K (bp S.K root l k p)).2.held s'=some c'->ye S.K c':=by
 unfold bp;split
 ·exact fun s' c' e=>ye.self h e
 ·split
  ·exact fun s' c' e=>ye.self h e
  ·intro s' c' e;rcases ah3 e with rfl | e
   ·exact hk
   ·exact ye.self h e
theorem bd4 {R:RS}{S:KS}(h:Ag R S)(root:Int)(c:Cl):∀s' c',(cz S.K (gq S.K root c)).2.held s'=some c'->ye S.K c':=by
 have stay:∀s' c',S.K.held s'=some c'->ye S.K c':=fun s' c' e=>ye.self h e
 have hl:∀(s:Slot) (k:KCap) (r:Int),S.K.held s=some k->0<=r/\r<=7->li (fy k.rights r) k.rights=0:=by
  intro s k r hk hr;obtain ⟨a,ha⟩:=ac0 (h.core.rt s k hk);obtain ⟨b,hb⟩:=ac0 hr;rw [ha,hb];exact bq_ a b
 unfold gq;split
 ·unfold j5;split
  ·exact stay
  ·rename_i s hs;cases hk:S.K.held s with
   | none=>exact stay
   | some k=>
    simp only;split
    ·exact stay
    ·split
     ·rename_i hu hr;refine am1 h root _ _ _ (.inl ⟨s,k,hk,?_,?_,?_,?_⟩)
      ·cases k<;>rfl
      ·cases k<;>rfl
      ·have:=hl s k _ hk hr;have e1:(fi k c.rights).rights=fy k.rights c.rights:=by
        cases k with
        | untyped b n m=>exact absurd rfl hu
        | _=>rfl
       rw [e1];exact this
      ·cases k<;>exact id
     ·exact stay
 ·split
  ·unfold fx;split
   ·exact stay
   ·rename_i s hs;cases hk:S.K.held s with
    | none=>exact stay
    | some k=>
     cases k with
     | endpoint b n q g=>
      simp only;split
      ·exact stay
      ·split
       ·rename_i hg hr;have h1:=hl s (.endpoint b n q g) c.rights hk hr.1;rw [show (KCap.endpoint b n q g).rights=q from rfl] at h1;refine am1 h root _ _ _ (.inl ⟨s,.endpoint b n q g,hk,rfl,rfl,?_,?_⟩)
        ·rw [show (fi (.endpoint b n q c.badge) c.rights).rights=fy q c.rights from rfl,show (KCap.endpoint b n q g).rights=q from rfl];exact h1
        ·intro e;have:c.badge=0:=e;omega
       ·exact stay
     | _=>exact stay
  ·unfold jt;split
   ·exact stay
   ·rename_i s hs;cases hk:S.K.held s with
    | none=>exact stay
    | some k=>
     simp only;split
     ·exact stay
     ·split
      ·exact stay
      ·rename_i t ht hn;intro s' c' e;have e:upd (upd S.K.held s none) t (some k) s'=some c':=e;by_cases e1:s'=t
       ·rw [e1,ai] at e;cases e;exact ye.self h hk
       ·rw [af _ _ e1] at e;by_cases e2:s'=s
        ·rw [e2,ai] at e;cases e
        ·rw [af _ _ e2] at e;exact ye.self h e
theorem a36 {K:a_}{t:Slot}{c:KCap}{p:Slot}{root:Int}{s:Slot}{c':KCap}(h:(K.found t c p root).held s=some c'):c'=c\/K.held s=some c':=by
 cases c<;>exact ah3 (p:=p) h
theorem sy {K:a_}{f s:Slot}{ty bits root st:Int}:∀(i:Nat) (s':Slot) (c':KCap),(cf K f s ty bits root st i).held s'=some c'->(∃j:Nat,j<i/\c'=gn ty (st+j*pw bits.toNat) bits)\/K.held s'=some c'
 | 0,_,_,h=>.inr h
 | i+1,s',c',h=>by
  rcases a36 h with e | e
  ·exact .inl ⟨i,by omega,e⟩
  ·rcases sy i s' c' e with ⟨j,hj,e1⟩ | e1
   ·exact .inl ⟨j,by omega,e1⟩
   ·exact .inr e1
theorem bz3 {c:KCap}(h:c.isU=true):c.ty=1/\c.rights=7/\c.badge=0:=by cases c<;>first | exact ⟨rfl,rfl,rfl⟩ | cases h
theorem vf (ty a n:Int):(gn ty a n).base=a/\(gn ty a n).rights=7/\(gn ty a n).badge=0/\(gn ty a n).bits=n:=by
 unfold gn;repeat' split
 all_goals exact ⟨rfl,rfl,rfl,rfl⟩
theorem af5 {R:RS}{S:KS}(h:Ag R S){f:Slot}{b n m:Int}(hf:S.K.held f=some (.untyped b n m))(s:Slot)(ty bits root:Int)(cnt:Nat):∀s' c',(jd S.K f s ty bits root b n m cnt).2.held s'=some c'->ye S.K c':=by
 unfold jd;split
 ·exact fun s' c' e=>ye.self h e
 ·rename_i hroom;intro s' c' e;have hpos:=gy bits.toNat;have hge:=ag6 (b+m) (pw bits.toNat) (by omega);have e:upd (cf S.K f s ty bits root (ki (b+m) (pw bits.toNat)) cnt).held f (some (.untyped b n (ki (b+m) (pw bits.toNat)+cnt*pw bits.toNat-b))) s'=some c':=e;by_cases e1:s'=f
  ·rw [e1,ai] at e;cases e
   exact .inl ⟨f,_,hf,rfl,rfl,(by decide:li 7 7=0),fun _=>rfl⟩
  ·rw [af _ _ e1] at e;rcases sy cnt s' c' e with ⟨j,hj,rfl⟩ | e2
   ·obtain ⟨p1,p2,p3,p4⟩:=vf ty (ki (b+m) (pw bits.toNat)+j*pw bits.toNat) bits;have hle:(j+1:Int)*pw bits.toNat<=cnt*pw bits.toNat:=Int.mul_le_mul_of_nonneg_right (by omega) (by omega);have h0:0<=(j:Int)*pw bits.toNat:=Int.mul_nonneg (by omega) (by omega);rw [Int.add_mul,Int.one_mul] at hle;have hF:=h.core.free hf (a:=ki (b+m) (pw bits.toNat)+j*pw bits.toNat) (z:=pw bits.toNat) (by omega) (by omega);by_cases hex:∃s c,S.K.held s=some c/\c.ty=(gn ty (ki (b+m) (pw bits.toNat)+j*pw bits.toNat) bits).ty/\c.base=(gn ty (ki (b+m) (pw bits.toNat)+j*pw bits.toNat) bits).base
    ·obtain ⟨s2,c2,g1,g2,g3⟩:=hex;have hu:c2.isU=true:=by
      by_cases e3:s2=f
      ·rw [e3,hf] at g1;cases g1;rfl
      ·rcases hF s2 c2 e3 g1 with g | g
       ·rw [g3,p1] at g;have:=gy c2.bits.toNat;omega
       ·exact g.1
     obtain ⟨_,u2,u3⟩:=bz3 hu;exact .inl ⟨s2,c2,g1,g2,g3,by rw [p2,u2];exact (by decide:li 7 7=0),fun _=>u3⟩
    ·exact .inr fun s2 c2 g1 g2 g3=>hex ⟨s2,c2,g1,g2,g3⟩
   ·exact ye.self h e2
theorem a02 (S:KS)(th:Int)(c:Cl):(mw S th c).2.2.K.held=S.K.held:=by
 unfold mw;split
 ·rfl
 ·split
  ·rfl
  ·rename_i t _ _;have:∀y,de S.K th t.root c=some y->y.2.2.held=S.K.held:=by
    intro y hy;unfold de at hy;split at hy
    ·unfold kk at hy;split at hy
     ·cases hy
     ·split at hy
      ·cases hy;rfl
      ·split at hy
       ·cases hy
        simp only [sendAt];split<;>rfl
       ·cases hy;rfl
    ·split at hy
     ·unfold mj at hy;split at hy
      ·cases hy
      ·split at hy
       ·cases hy;rfl
       ·cases hy
        simp only [recvAt];split<;>rfl
     ·split at hy
      ·unfold lp at hy;split at hy
       ·cases hy
       ·split at hy<;>(cases hy;rfl)
      ·split at hy
       ·unfold gx at hy;split at hy
        ·cases hy
        ·split at hy
         ·cases hy;rfl
         ·split at hy<;>(cases hy;rfl)
       ·unfold qm at hy;repeat' (split at hy)
        all_goals first | (cases hy;done) | (cases hy;rfl)
   cases hn:de S.K th t.root c with
   | none=>rfl
   | some y=>exact this y hn
theorem ba_ (n:Nat){S:KS}(hD:S.D=[])(bs:List Bool):ak az bf n S bs=(S,bs,true):=by
 cases n with
 | zero=>rfl
 | succ n=>unfold ak;rw [if_pos (by unfold bf;rw [hD];rfl)]
theorem ye.reset {K:a_}{f:Slot}{b n m m':Int}{c':KCap}(hf:K.held f=some (.untyped b n m))(h:ye (dg K f b n m m') c'):ye K c':=by
 have hh:∀s,(dg K f b n m m').held s=upd K.held f (some (.untyped b n m')) s:=fun _=>rfl
 rcases h with ⟨s,c,h1,h2,h3,h4,h5⟩ | h
 ·rw [hh] at h1;by_cases e:s=f
  ·rw [e,ai] at h1;cases h1
   exact .inl ⟨f,_,hf,h2,h3,h4,h5⟩
  ·rw [af _ _ e] at h1;exact .inl ⟨s,c,h1,h2,h3,h4,h5⟩
 ·refine .inr fun s c h1 h2=>?_
  by_cases e:s=f
  ·rw [e,hf] at h1;cases h1
   exact h f (.untyped b n m') (by rw [hh,ai]) h2
  ·exact h s c (by rw [hh,af _ _ e];exact h1) h2
theorem a3_ {R:RS}{S:KS}(h:Ag R S)(root:Int)(c:Cl)(bs:List Bool):∀s' c',(sn S (gg S root c bs)).2.K.held s'=some c'->ye S.K c':=by
 have stay:∀s' c',S.K.held s'=some c'->ye S.K c':=fun s' c' e=>ye.self h e
 unfold gg;split
 ·exact stay
 ·rename_i f hfi;cases hk:S.K.held f with
  | none=>exact stay
  | some k=>
   cases k with
   | untyped b n m=>
    simp only;split
    ·split
     ·exact stay
     ·exact stay
     ·rename_i s _;split
      ·exact af5 h hk s _ _ _ _
      ·rename_i hkid;have hkS:bl S.K f=false:=by simpa using hkid
       have hcap:=h.core.cap _ _ hk;simp only [KCap.base,KCap.bits,KCap.mark] at hcap;have hrm:0<=(ax m bs).1/\(ax m bs).1<=m:=i_ 100 m bs hcap.2.2.2.2.1;obtain ⟨R2,hA2⟩:=b7.reset ⟨R,h⟩ hk hkS hrm.1 hrm.2;split
       ·intro s' c' e;exact ye.reset hk (af5 (S:=⟨dg S.K f b n m (ax m bs).1,S.D⟩) hA2 (f:=f) (by show upd S.K.held f _ f=_;rw [ai]) s _ _ _ _ s' c' e)
       ·intro s' c' e;exact ye.reset hk (ye.self hA2 (s:=s') e)
    ·exact stay
   | _=>exact stay
theorem by2 {R:RS}{S:KS}(h:Ag R S)(th:Int)(c:Cl)(bs:List Bool)(hag:S.D=[]\/c.kind≠1):∀s' c',(p_ S th c bs).2.2.K.held s'=some c'->ye S.K c':=by
 have stay:∀s' c',S.K.held s'=some c'->ye S.K c':=fun s' c' e=>ye.self h e
 have less:∀S2,mh S S2->∀s' c',S2.K.held s'=some c'->ye S.K c':=fun S2 hl s' c' e=>stay s' c' (hl s' c' e)
 unfold p_;split
 ·intro s' c' e;rw [a02] at e;exact stay s' c' e
 ·show ∀s' c',(ls S th c bs).2.K.held s'=some c'->ye S.K c';unfold ls;split
  ·exact stay
  ·rename_i t _;split
   ·exact stay
   ·split
    ·exact stay
    ·split
     ·have hl:=kg F0 S bs;by_cases h1:c.kind=1
      ·have hD:S.D=[]:=by rcases hag with e | e;exact e;exact absurd h1 e
       rw [ba_ F0 hD bs];simp only [Bool.true_eq_false,if_false];rw [if_pos h1];exact a3_ h _ _ _
      ·generalize ak az bf F0 S bs=y at hl;simp only;split
       ·exact less _ hl
       ·split
        ·exact less _ hl
        ·split
         ·exact less _ hl
         ·split
          ·exact less _ (hl.trans (p7 _ _ _))
          ·exact less _ (hl.trans (sx _ _ _ _))
     ·exact bd4 h _ _
theorem ae1 {A:List ee}{ty b:Int}:∀(k:Nat),k<=A.length->bq A ty b k=true->∃p,∃hp:p<A.length,ik ty b A[p]=true
 | 0,_,h=>by cases h
 | k+1,hk,h=>by
  have e:bq A ty b (k+1)=(bq A ty b k || ik ty b A[k]):=by simp [bq,List.getElem?_eq_getElem (show k<A.length from hk)]
  rw [e] at h;rcases Eq.mp (Bool.or_eq_true _ _) h with h1 | h1
  ·exact ae1 k (by omega) h1
  ·exact ⟨k,hk,h1⟩
theorem xy {A:List ee}{ty b:Int}:∀(k:Nat),k<=A.length->ja A ty b k=true->∃p,∃hp:p<A.length,ik ty b A[p]=true/\A[p].badge=0
 | 0,_,h=>by cases h
 | k+1,hk,h=>by
  have e:ja A ty b (k+1)=if ik ty b A[k] then ja A ty b k || A[k].badge==0 else ja A ty b k:=by simp [ja,List.getElem?_eq_getElem (show k<A.length from hk)]
  rw [e] at h;split at h
  ·rename_i hs;rcases Eq.mp (Bool.or_eq_true _ _) h with h1 | h1
   ·exact xy k (by omega) h1
   ·exact ⟨k,hk,hs,by simpa using h1⟩
  ·exact xy k (by omega) h
theorem a64 {A:List ee}{ty b:Int}:∀(k:Nat),k<=A.length->∀p (hp:p<A.length),p<k->ik ty b A[p]=true->A[p].badge=0->ja A ty b k=true
 | 0,_,p,hp,h,_,_=>by omega
 | k+1,hk,p,hp,h,hs,hb=>by
  have e:ja A ty b (k+1)=if ik ty b A[k] then ja A ty b k || A[k].badge==0 else ja A ty b k:=by simp [ja,List.getElem?_eq_getElem (show k<A.length from hk)]
  rw [e];by_cases hpk:p=k
  ·subst hpk;rw [if_pos hs,hb];simp
  ·have:=a64 k (by omega) p hp (by omega) hs hb;rw [this];simp
theorem yh {A:List ee}{ty b:Int}(hA:∀i (hi:i<A.length),0<=A[i].rights/\A[i].rights<=7):∀(k:Nat),k<=A.length->0<=orA A ty b k/\orA A ty b k<=7
 | 0,_=>⟨Int.le_refl _,(by decide:(0:Int)<=7)⟩
 | k+1,hk=>by
  have e:orA A ty b (k+1)=if ik ty b A[k] then orI (orA A ty b k) A[k].rights else orA A ty b k:=by simp [orA,List.getElem?_eq_getElem (show k<A.length from hk)]
  rw [e];have h1:=yh hA (ty:=ty) (b:=b) k (by omega);split
  ·obtain ⟨x,hx⟩:=ac0 h1;obtain ⟨y,hy⟩:=ac0 (hA k hk);rw [hx,hy];exact b50 x y
  ·exact h1
theorem bg8 {A:List ee}{ty b:Int}(hA:∀i (hi:i<A.length),0<=A[i].rights/\A[i].rights<=7):∀(k:Nat),k<=A.length->∀p (hp:p<A.length),p<k->ik ty b A[p]=true->li A[p].rights (orA A ty b k)=0
 | 0,_,p,hp,h,_=>by omega
 | k+1,hk,p,hp,h,hs=>by
  have e:orA A ty b (k+1)=if ik ty b A[k] then orI (orA A ty b k) A[k].rights else orA A ty b k:=by simp [orA,List.getElem?_eq_getElem (show k<A.length from hk)]
  rw [e];obtain ⟨x,hx⟩:=ac0 (yh hA (ty:=ty) (b:=b) k (by omega));obtain ⟨y,hy⟩:=ac0 (hA k hk);obtain ⟨z,hz⟩:=ac0 (hA p hp);by_cases hpk:p=k
  ·subst hpk;rw [if_pos hs,hx,hy];exact bh9 x y y (.inr (by have:=as5 (hA p hp);rw [hy] at this;exact this))
  ·have h1:=bg8 hA k (by omega) p hp (by omega) hs;split
   ·rw [hz,hx,hy];rw [hz,hx] at h1;exact bh9 x y z (.inl h1)
   ·exact h1
theorem bv9 {A:List ee}{ty b r:Int}(hr:0<=r/\r<=7)(hA:∀i (hi:i<A.length),0<=A[i].rights/\A[i].rights<=7)(hl:∀i (hi:i<A.length),ik ty b A[i]=true->li A[i].rights r=0):∀(k:Nat),k<=A.length->li (orA A ty b k) r=0
 | 0,_=>by
  have e:r=0\/r=1\/r=2\/r=3\/r=4\/r=5\/r=6\/r=7:=by omega
  show li 0 r=0;rcases e with rfl | rfl | rfl | rfl | rfl | rfl | rfl | rfl<;>decide
 | k+1,hk=>by
  have e:orA A ty b (k+1)=if ik ty b A[k] then orI (orA A ty b k) A[k].rights else orA A ty b k:=by simp [orA,List.getElem?_eq_getElem (show k<A.length from hk)]
  rw [e];have h1:=bv9 hr hA hl k (by omega);split
  ·rename_i hs;have h2:=hl k hk hs;obtain ⟨x,hx⟩:=ac0 (yh hA (ty:=ty) (b:=b) k (by omega));obtain ⟨y,hy⟩:=ac0 (hA k hk);obtain ⟨z,hz⟩:=ac0 hr;rw [hx,hz] at h1;rw [hy,hz] at h2;rw [hx,hy,hz];exact b01 x y z h1 h2
  ·exact h1
theorem Ag.rights {R:RS}{S:KS}(h:Ag R S)(i:Nat)(hi:i<(capsL R).length):0<=(capsL R)[i].rights/\(capsL R)[i].rights<=7:=by
 obtain ⟨c,x,hr⟩:=h.row i hi;rw [hr.rights];exact h.core.rt _ c hr.held
theorem Ag.rowOf {R:RS}{S:KS}(h:Ag R S){s:Slot}{c:KCap}(hc:S.K.held s=some c):∃p,∃hp:p<(capsL R).length,(capsL R)[p].ty=c.ty/\(capsL R)[p].base=c.base/\(capsL R)[p].rights=c.rights/\(capsL R)[p].badge=c.badge:=by
 by_cases hex:∃e∈R.R.L,e.slot=s
 ·obtain ⟨e,he,hs⟩:=hex;obtain ⟨p,hp,rfl⟩:=List.getElem_of_mem he;have hp2:p<(capsL R).length:=by rw [e_];exact hp
  obtain ⟨c',x,hr⟩:=h.row p hp2;have:c'=c:=by have:=hr.held;rw [hs,hc] at this;exact (Option.some.inj this).symm
  subst this;exact ⟨p,hp2,hr.ty,hr.base,hr.rights,hr.badge⟩
 ·have:=h.core.rel.emp s (fun e he e1=>hex ⟨e,he,e1⟩);rw [this] at hc;cases hc
theorem noMoreA {R R':RS}{S S':KS}(h:Ag R S)(h':Ag R' S')(hF:∀s' c',S'.K.held s'=some c'->ye S.K c'):au7 (capsL R) (capsL R'):=by
 intro i hi hth;obtain ⟨p0,hp0,hs0⟩:=ae1 _ (Nat.le_refl _) hth;generalize hty:(capsL R')[i].ty=ty at *
 generalize hba:(capsL R')[i].base=b at *
 simp only [ik,Bool.and_eq_true,beq_iff_eq] at hs0;have key:∀j (hj:j<(capsL R').length),ik ty b (capsL R')[j]=true->∃p,∃hp:p<(capsL R).length,ik ty b (capsL R)[p]=true/\li (capsL R')[j].rights (capsL R)[p].rights=0/\((capsL R')[j].badge=0->(capsL R)[p].badge=0):=by
  intro j hj hs;simp only [ik,Bool.and_eq_true,beq_iff_eq] at hs;obtain ⟨c',x,hr⟩:=h'.row j hj;rcases hF _ c' hr.held with ⟨s,c,g1,g2,g3,g4,g5⟩ | hno
  ·obtain ⟨p,hp,q1,q2,q3,q4⟩:=h.rowOf g1;refine ⟨p,hp,?_,by rw [hr.rights,q3];exact g4,by rw [hr.badge,q4];exact g5⟩;simp only [ik,Bool.and_eq_true,beq_iff_eq];exact ⟨by rw [q1,g2,<- hr.ty];exact hs.1,by rw [q2,g3,<- hr.base];exact hs.2⟩
  ·exfalso
   obtain ⟨c,x0,hr0⟩:=h.row p0 hp0;exact hno _ c hr0.held (by rw [<- hr0.ty,hs0.1,<- hr.ty];exact hs.1.symm) (by rw [<- hr0.base,hs0.2,<- hr.base];exact hs.2.symm)
 constructor
 ·refine bv9 (yh (fun i hi=>h.rights i hi) _ (Nat.le_refl _)) (fun i hi=>h'.rights i hi) ?_ _ (Nat.le_refl _);intro j hj hs;obtain ⟨p,hp,e1,e2,_⟩:=key j hj hs;have e3:=bg8 (fun i hi=>h.rights i hi) _ (Nat.le_refl _) p hp hp e1;obtain ⟨x,hx⟩:=ac0 (h'.rights j hj);obtain ⟨y,hy⟩:=ac0 (h.rights p hp);obtain ⟨z,hz⟩:=ac0 (yh (ty:=ty) (b:=b) (fun i hi=>h.rights i hi) _ (Nat.le_refl _));rw [hx,hy] at e2;rw [hy,hz] at e3;rw [hx,hz];exact by1 x y z e2 e3
 ·intro hb;obtain ⟨j,hj,hs,hg⟩:=xy _ (Nat.le_refl _) hb;obtain ⟨p,hp,e1,_,e3⟩:=key j hj hs;exact a64 _ (Nat.le_refl _) p hp hp e1 (e3 hg)
def qt (S:KS):Prop:=∀s b n m,S.K.held s=some (.untyped b n m)->∀i:Int,b+m<=i->i<b+pw n.toNat->S.K.ws i.toNat=0
def wj (S S':KS):Prop:=∀s' b n r,S'.K.held s'=some (.frame b n r)->(∃s n0 r0,S.K.held s=some (.frame b n0 r0))\/∀i:Int,b<=i->i<b+pw n.toNat->S'.K.ws i.toNat=0
theorem bu5 (S:KS)(c:KCap):(ah8 S c).K.ws=S.K.ws:=by cases c<;>rfl
theorem aj1 (S:KS)(s:Slot):(d_ S s).K.ws=S.K.ws:=by
 cases hc:S.K.held s with
 | none=>rw [kw hc]
 | some c=>
  by_cases hh:pp (jq S.K s) c.ty c.base
  ·rw [jn hc hh];rfl
  ·rw [fo hc hh,bu5];rfl
theorem ai9 (S:KS):(az S).K.ws=S.K.ws:=by
 unfold az;split
 ·rfl
 ·split
  ·rfl
  ·exact aj1 {S with D:=_} _
theorem zr:∀(n:Nat) (S:KS) (bs:List Bool),(ak az bf n S bs).1.K.ws=S.K.ws
 | 0,_,_=>rfl
 | n+1,S,bs=>by
  unfold ak;split
  ·rfl
  ·cases bs with
   | nil=>simp only;rw [zr n,ai9]
   | cons b r=>
    simp only;split
    ·exact ai9 S
    ·rw [zr n,ai9]
theorem ad4 (S:KS)(s:Slot)(bs:List Bool):(co S s bs).2.1.K.ws=S.K.ws:=by
 unfold co;split
 ·exact aj1 S s
 ·simp only;rw [zr,aj1]
theorem aj7:∀(n:Nat) (S:KS) (s:Slot) (bs:List Bool),(bw n S s bs).2.1.K.ws=S.K.ws
 | 0,_,_,_=>rfl
 | n+1,S,s,bs=>by
  unfold bw;split
  ·split
   ·rw [aj7 n,ad4]
   ·exact ad4 S _ _
  ·rfl
theorem qt.less {S S':KS}(h:qt S)(hl:mh S S')(hw:S'.K.ws=S.K.ws):qt S':=fun s b n m hs i h1 h2=>by
 rw [hw];exact h s b n m (hl _ _ hs) i h1 h2
theorem wj.less {S S':KS}(hl:mh S S'):wj S S':=fun s' _ n r hs=>.inl ⟨s',n,r,hl _ _ hs⟩
theorem af3 {K:a_}{f s:Slot}{ty bits root st:Int}:∀i:Nat,(cf K f s ty bits root st i).ws=K.ws
 | 0=>rfl
 | i+1=>by
  have:∀(K:a_) (t:Slot) (c:KCap) (p:Slot),(K.found t c p root).ws=K.ws:=fun K t c p=>by cases c<;>rfl
  show ((cf K f s ty bits root st i).found _ _ _ _).ws=_;rw [this,af3 i]
theorem a29 {R:RS}{S:KS}(h:Ag R S)(hC:qt S){f:Slot}{b n m:Int}(hf:S.K.held f=some (.untyped b n m))(s:Slot)(ty bits root:Int)(cnt:Nat):
 qt (nf S f s ty bits root b n m cnt).2/\wj S (nf S f s ty bits root b n m cnt).2:=by
 unfold nf jd;split
 ·exact ⟨hC,wj.less (mh.refl S)⟩
 ·rename_i hroom;have hpos:=gy bits.toNat;have hge:=ag6 (b+m) (pw bits.toNat) (by omega);have hcap:=h.core.cap _ _ hf;simp only [KCap.base,KCap.bits,KCap.mark] at hcap;have hc0:0<=(cnt:Int)*pw bits.toNat:=Int.mul_nonneg (by omega) (by omega);have hheld:∀s' c',upd (cf S.K f s ty bits root (ki (b+m) (pw bits.toNat)) cnt).held f (some (.untyped b n (ki (b+m) (pw bits.toNat)+cnt*pw bits.toNat-b))) s'=some c'->
   c'=.untyped b n (ki (b+m) (pw bits.toNat)+cnt*pw bits.toNat-b)\/(∃a,c'=gn ty a bits/\b+m<=a/\a+pw bits.toNat<=b+pw n.toNat)\/S.K.held s'=some c':=by
   intro s' c' e;by_cases e1:s'=f
   ·rw [e1,ai] at e;exact .inl (Option.some.inj e).symm
   ·rw [af _ _ e1] at e;rcases sy cnt s' c' e with ⟨j,hj,rfl⟩ | e2
    ·have hle:(j+1:Int)*pw bits.toNat<=cnt*pw bits.toNat:=Int.mul_le_mul_of_nonneg_right (by omega) (by omega);have h0:0<=(j:Int)*pw bits.toNat:=Int.mul_nonneg (by omega) (by omega);rw [Int.add_mul,Int.one_mul] at hle;exact .inr (.inl ⟨_,rfl,by omega,by omega⟩)
    ·exact .inr (.inr e2)
  have hws:∀i:Nat,(cf S.K f s ty bits root (ki (b+m) (pw bits.toNat)) cnt).ws i=S.K.ws i:=fun i=>by rw [af3]
  constructor
  ·intro s' b' n' m' e i h1 h2;show (cf S.K f s ty bits root (ki (b+m) (pw bits.toNat)) cnt).ws i.toNat=0;rw [hws];rcases hheld s' _ e with e1 | ⟨a,e1,e2,e3⟩ | e1
   ·simp only [KCap.untyped.injEq] at e1;obtain ⟨rfl,rfl,rfl⟩:=e1;exact hC f _ _ _ hf i (by omega) h2
   ·obtain ⟨p1,_,_,p4⟩:=vf ty a bits;rw [<- e1] at p1 p4;simp only [KCap.base,KCap.bits] at p1 p4;have hm0:m'=0:=by
     unfold gn at e1;repeat' (split at e1)
     all_goals first | (cases e1;rfl) | cases e1
    subst p1 p4 hm0;exact hC f _ _ _ hf i (by omega) (by omega)
   ·exact hC s' _ _ _ e1 i h1 h2
  ·intro s' b' n' r' e;rcases hheld s' _ e with e1 | ⟨a,e1,e2,e3⟩ | e1
   ·cases e1
   ·right;intro i h1 h2;show (cf S.K f s ty bits root (ki (b+m) (pw bits.toNat)) cnt).ws i.toNat=0;rw [hws];obtain ⟨p1,_,_,p4⟩:=vf ty a bits;rw [<- e1] at p1 p4;simp only [KCap.base,KCap.bits] at p1 p4;subst p1 p4;exact hC f _ _ _ hf i (by omega) (by omega)
   ·exact .inl ⟨s',_,_,e1⟩
theorem bp1 {R:RS}{S:KS}(h:Ag R S)(hC:qt S){f:Slot}{b n m m':Int}(hf:S.K.held f=some (.untyped b n m))(hm0:0<=m'):qt ⟨dg S.K f b n m m',S.D⟩:=by
 have hcap:=h.core.cap _ _ hf;simp only [KCap.base,KCap.bits,KCap.mark] at hcap;intro s b' n' m2 e i h1 h2;have e:upd S.K.held f (some (.untyped b n m')) s=some (.untyped b' n' m2):=e;show oy S.K.ws (b+m') (m-m') i.toNat=0;unfold oy;split
 ·rfl
 ·rename_i hno;by_cases e1:s=f
  ·rw [e1,ai] at e;simp only [Option.some.injEq,KCap.untyped.injEq] at e;obtain ⟨rfl,rfl,rfl⟩:=e;exact hC f _ _ _ hf i (by omega) h2
  ·rw [af _ _ e1] at e;exact hC s _ _ _ e i h1 h2
theorem bk_ {R:RS}{S:KS}(h:Ag R S)(hC:qt S)(root:Int)(c:Cl)(bs:List Bool):qt (sn S (gg S root c bs)).2/\wj S (sn S (gg S root c bs)).2:=by
 have stay:qt S/\wj S S:=⟨hC,wj.less (mh.refl S)⟩;unfold gg;split
 ·exact stay
 ·rename_i f hfi;cases hk:S.K.held f with
  | none=>exact stay
  | some k=>
   cases k with
   | untyped b n m=>
    simp only;split
    ·split
     ·exact stay
     ·exact stay
     ·rename_i s _;split
      ·exact a29 h hC hk s _ _ _ _
      ·rename_i hkid;have hkS:bl S.K f=false:=by simpa using hkid
       have hcap:=h.core.cap _ _ hk;simp only [KCap.base,KCap.bits,KCap.mark] at hcap;have hrm:0<=(ax m bs).1/\(ax m bs).1<=m:=i_ 100 m bs hcap.2.2.2.2.1;obtain ⟨R2,hA2⟩:=b7.reset ⟨R,h⟩ hk hkS hrm.1 hrm.2;have hC2:=bp1 (m':=(ax m bs).1) h hC hk hrm.1;have hfr:∀s' b' n' r',(dg S.K f b n m (ax m bs).1).held s'=some (.frame b' n' r')->S.K.held s'=some (.frame b' n' r'):=by
        intro s' b' n' r' e;have e:upd S.K.held f (some (.untyped b n (ax m bs).1)) s'=some (.frame b' n' r'):=e;by_cases e1:s'=f
        ·rw [e1,ai] at e;cases e
        ·rw [af _ _ e1] at e;exact e
       split
       ·obtain ⟨g1,g2⟩:=a29 (S:=⟨dg S.K f b n m (ax m bs).1,S.D⟩) hA2 hC2 (f:=f) (b:=b) (n:=n) (m:=(ax m bs).1) (by show upd S.K.held f _ f=_;rw [ai]) s c.ty c.bits root c.count.toNat;refine ⟨g1,fun s' b' n' r' e=>?_⟩
        rcases g2 s' b' n' r' e with ⟨s0,n0,r0,e0⟩ | e0
        ·exact .inl ⟨s0,n0,r0,hfr _ _ _ _ e0⟩
        ·exact .inr e0
       ·exact ⟨hC2,fun s' b' n' r' e=>.inl ⟨s',n',r',hfr _ _ _ _ e⟩⟩
    ·exact stay
   | _=>exact stay
theorem bb9 {S:KS}(root:Int)(c:Cl):(cz S.K (gq S.K root c)).2.ws=S.K.ws/\∀s' c',(cz S.K (gq S.K root c)).2.held s'=some c'->(∃s,S.K.held s=some c')\/(∃s k,S.K.held s=some k/\k.isU=false/\k.ty=c'.ty/\k.base=c'.base):=by
 have stay:S.K.ws=S.K.ws/\∀s' c',S.K.held s'=some c'->(∃s,S.K.held s=some c')\/(∃s k,S.K.held s=some k/\k.isU=false/\k.ty=c'.ty/\k.base=c'.base):=⟨rfl,fun s' c' e=>.inl ⟨s',e⟩⟩
 have child:∀(l:List Int) (s:Slot) (k k':KCap),S.K.held s=some k->k.isU=false->k.ty=k'.ty->k.base=k'.base->(cz S.K (bp S.K root l k' s)).2.ws=S.K.ws/\∀s' c',(cz S.K (bp S.K root l k' s)).2.held s'=some c'->(∃s,S.K.held s=some c')\/(∃s k,S.K.held s=some k/\k.isU=false/\k.ty=c'.ty/\k.base=c'.base):=by
  intro l s k k' h1 h2 h3 h4;unfold bp;split
  ·exact stay
  ·split
   ·exact stay
   ·refine ⟨rfl,fun s' c' e=>?_⟩
    rcases ah3 e with rfl | e
    ·exact .inr ⟨s,k,h1,h2,h3,h4⟩
    ·exact .inl ⟨s',e⟩
 unfold gq;split
 ·unfold j5;split
  ·exact stay
  ·rename_i s hs;cases hk:S.K.held s with
   | none=>exact stay
   | some k=>
    simp only;split
    ·exact stay
    ·split
     ·rename_i hu hr;exact child _ s k _ hk (by simpa using hu) (by cases k<;>rfl) (by cases k<;>rfl)
     ·exact stay
 ·split
  ·unfold fx;split
   ·exact stay
   ·rename_i s hs;cases hk:S.K.held s with
    | none=>exact stay
    | some k=>
     cases k with
     | endpoint b n q g=>
      simp only;split
      ·exact stay
      ·split
       ·exact child _ s _ _ hk rfl rfl rfl
       ·exact stay
     | _=>exact stay
  ·unfold jt;split
   ·exact stay
   ·rename_i s hs;cases hk:S.K.held s with
    | none=>exact stay
    | some k=>
     simp only;split
     ·exact stay
     ·split
      ·exact stay
      ·rename_i t ht hn;refine ⟨rfl,fun s' c' e=>?_⟩
       have e:upd (upd S.K.held s none) t (some k) s'=some c':=e;by_cases e1:s'=t
       ·rw [e1,ai] at e;cases e;exact .inl ⟨s,hk⟩
       ·rw [af _ _ e1] at e;by_cases e2:s'=s
        ·rw [e2,ai] at e;cases e
        ·rw [af _ _ e2] at e;exact .inl ⟨s',e⟩
theorem bv3 {S:KS}(hC:qt S)(root:Int)(c:Cl):qt {S with K:=(cz S.K (gq S.K root c)).2}/\wj S {S with K:=(cz S.K (gq S.K root c)).2}:=by
 obtain ⟨hw,hh⟩:=bb9 (S:=S) root c;constructor
 ·intro s b n m e i h1 h2;show (cz S.K (gq S.K root c)).2.ws i.toNat=0;rw [hw];rcases hh s _ e with ⟨s0,e0⟩ | ⟨s0,k,e0,e1,e2,_⟩
  ·exact hC s0 _ _ _ e0 i h1 h2
  ·rw [vo.2 e2] at e1;cases e1
 ·intro s' b n r e;left;rcases hh s' _ e with ⟨s0,e0⟩ | ⟨s0,k,e0,e1,e2,e3⟩
  ·exact ⟨s0,n,r,e0⟩
  ·cases k with
   | frame b0 n0 r0=>
    have:b0=b:=e3;subst this;exact ⟨s0,n0,r0,e0⟩
   | _=>cases e2
theorem bw6 {R:RS}{S:KS}(h:Ag R S)(hC:qt S){s:Slot}{b n r:Int}(hs:S.K.held s=some (.frame b n r)){o v:Int}(h0:0<=o)(h1:o<pw n.toNat):∀s' b' n' m',S.K.held s'=some (.untyped b' n' m')->∀i:Int,b'+m'<=i->i<b'+pw n'.toNat->uq S.K.ws (b+o).toNat v i.toNat=0:=by
 intro s' b' n' m' hu i g1 g2;have hne:s'≠s:=fun e=>by rw [e,hs] at hu;cases hu
 have hcf:=h.core.cap _ _ hs;have hcu:=h.core.cap _ _ hu;simp only [KCap.base,KCap.bits,KCap.mark] at hcf hcu;have hi:¬i.toNat=(b+o).toNat:=by
  intro e;have e:i=b+o:=by omega
  rcases h.core.geo.apart s' s _ _ hne hu hs with g | g | ⟨_,g⟩ | ⟨g,_⟩
  ·unfold ab1 at g;simp only [KCap.base,KCap.bits] at g;omega
  ·cases g.1
  ·have:=h.core.below hu g hs;simp only [KCap.base,KCap.bits] at this;omega
  ·cases g
 unfold uq;rw [if_neg hi];exact hC s' _ _ _ hu i g1 g2
theorem b31 {R:RS}{S:KS}(h:Ag R S)(hC:qt S)(th:Int)(c:Cl):qt (mw S th c).2.2/\wj S (mw S th c).2.2:=by
 have hh:=a02 S th c;refine ⟨?_,fun s' b n r e=>.inl ⟨s',n,r,by rw [<- hh];exact e⟩⟩
 intro s b n m e i h1 h2;rw [hh] at e;have hbase:=hC s b n m e i h1 h2;unfold mw;split
 ·exact hbase
 ·split
  ·exact hbase
  ·rename_i t _ _;have:∀y,de S.K th t.root c=some y->y.2.2.ws i.toNat=0:=by
    intro y hy;unfold de at hy;split at hy
    ·unfold kk at hy;split at hy
     ·cases hy
     ·split at hy
      ·cases hy;exact hbase
      ·split at hy
       ·cases hy
        simp only [sendAt];split<;>exact hbase
       ·cases hy;exact hbase
    ·split at hy
     ·unfold mj at hy;split at hy
      ·cases hy
      ·split at hy
       ·cases hy;exact hbase
       ·cases hy
        simp only [recvAt];split<;>exact hbase
     ·split at hy
      ·unfold lp at hy;split at hy
       ·cases hy
       ·split at hy<;>(cases hy;exact hbase)
      ·split at hy
       ·unfold gx at hy;split at hy
        ·cases hy
        ·rename_i e0 n0 hw0;split at hy
         ·cases hy;exact hbase
         ·rename_i he0;split at hy
          ·cases hy
           unfold ev at hw0;split at hw0
           ·cases hw0
           ·rename_i s2 _;cases hk2:S.K.held s2 with
            | none=>rw [hk2] at hw0;cases hw0;exact absurd (by decide) he0
            | some k2=>
             rw [hk2] at hw0;cases k2 with
             | frame b2 n2 r2=>
              simp only at hw0;split at hw0
              ·cases hw0;exact absurd (by decide) he0
              ·split at hw0
               ·cases hw0;exact absurd (by decide) he0
               ·rename_i hoff;cases hw0
                exact bw6 h hC hk2 (by omega) (by omega) s b n m e i h1 h2
             | _=>cases hw0;exact absurd (by decide) he0
          ·cases hy;exact hbase
       ·unfold qm at hy;repeat' (split at hy)
        all_goals first | (cases hy;done) | (cases hy;exact hbase)
   cases hn:de S.K th t.root c with
   | none=>exact hbase
   | some y=>exact this y hn
theorem b61 {R:RS}{S:KS}(h:Ag R S)(hC:qt S)(th:Int)(c:Cl)(bs:List Bool):qt (p_ S th c bs).2.2/\wj S (p_ S th c bs).2.2:=by
 have stay:qt S/\wj S S:=⟨hC,wj.less (mh.refl S)⟩;have less:∀S2:KS,mh S S2->S2.K.ws=S.K.ws->qt S2/\wj S S2:=fun S2 hl hw=>⟨hC.less hl hw,wj.less hl⟩
 unfold p_;split
 ·exact b31 h hC th c
 ·show qt (ls S th c bs).2/\wj S (ls S th c bs).2;unfold ls;split
  ·exact stay
  ·rename_i t _;split
   ·exact stay
   ·split
    ·exact stay
    ·split
     ·have hl:=kg F0 S bs;have hw:=zr F0 S bs;have hA:=(Ag.work F0 bs h).2;generalize ak az bf F0 S bs=y at hl hw hA;simp only;split
      ·exact less _ hl hw
      ·split
       ·obtain ⟨g1,g2⟩:=bk_ hA (hC.less hl hw) t.root c y.2.1;refine ⟨g1,fun s' b n r e=>?_⟩
        rcases g2 s' b n r e with ⟨s0,n0,r0,e0⟩ | e0
        ·exact .inl ⟨s0,n0,r0,hl _ _ e0⟩
        ·exact .inr e0
       ·split
        ·exact less _ hl hw
        ·split
         ·exact less _ hl hw
         ·split
          ·exact less _ (hl.trans (p7 _ _ _)) (by rw [ad4,hw])
          ·exact less _ (hl.trans (sx _ _ _ _)) (by rw [aj7,hw])
     ·exact bv3 hC _ _
def yc (K:a_)(nd:Int):Prop:=∀s b n r,K.held s=some (.node b n r)->b≠nd
structure Cut (s:Slot)(S S':KS):Prop where
 less:mh S S'
 fwd:∀u t,Up S.K.st u t->(∃c,S'.K.held u=some c)->(∃c,S'.K.held t=some c)->Up S'.K.st u t
 bwd:∀u t,Up S'.K.st u t->Up S.K.st u t
 gone:∀t c,S.K.held t=some c->S'.K.held t=none->Up S.K.st s t\/yc S'.K t.node
theorem Cut.refl (s:Slot)(S:KS):Cut s S S:=⟨mh.refl S,fun _ _ h _ _=>h,fun _ _ h=>h,fun t c h1 h2=>by rw [h1] at h2;cases h2⟩
theorem yc.less {S S':KS}(h:mh S S'){nd:Int}(hn:yc S.K nd):yc S'.K nd:=fun s b n r e=>hn s b n r (h _ _ e)
theorem Cut.trans {s:Slot}{S S1 S2:KS}(h:Cut s S S1)(g:Cut s S1 S2):Cut s S S2:=by
 refine ⟨h.less.trans g.less,fun u t hu h1 h2=>?_,fun u t hu=>h.bwd u t (g.bwd u t hu),fun t c h1 h2=>?_⟩
 ·obtain ⟨c1,e1⟩:=h1;obtain ⟨c2,e2⟩:=h2;exact g.fwd u t (h.fwd u t hu ⟨c1,g.less _ _ e1⟩ ⟨c2,g.less _ _ e2⟩) ⟨c1,e1⟩ ⟨c2,e2⟩
 ·cases hm:S1.K.held t with
  | none=>
   rcases h.gone t c h1 hm with e | e
   ·exact .inl e
   ·exact .inr (e.less g.less)
  | some c'=>
   rcases g.gone t c' hm h2 with e | e
   ·exact .inl (h.bwd _ _ e)
   ·exact .inr e
theorem bo_ (S:KS)(c:KCap):(ah8 S c).K.st=S.K.st:=by cases c<;>rfl
theorem a06 {S:KS}{a:Slot}{c:KCap}(hc:S.K.held a=some c):(d_ S a).K.st=ez S.K.st a/\(d_ S a).K.held=upd S.K.held a none:=by
 by_cases hh:pp (jq S.K a) c.ty c.base
 ·rw [jn hc hh];exact ⟨rfl,rfl⟩
 ·rw [fo hc hh,bo_,am6];exact ⟨rfl,rfl⟩
theorem zf {R:RS}{S:KS}(h:Ag R S)(s:Slot){a:Slot}{c:KCap}(hc:S.K.held a=some c)(hr:Up S.K.st s a\/yc S.K a.node):Cut s S (d_ S a):=by
 obtain ⟨p,hp,rfl⟩:=b7.at h hc;obtain ⟨F,hF⟩:=h.core.rel.tree;obtain ⟨_,_,_,⟨x,ho⟩,honly⟩:=hF.take hp;generalize R.R.L[p].slot=a at *
 obtain ⟨e1,e2⟩:=a06 hc;have han:a≠nowhere:=df (h.core.inN _ _ hc).1;refine ⟨qe S a,?_,?_,?_⟩
 ·intro u t hu h1 h2;rw [e1];have hua:u≠a:=fun e=>by obtain ⟨c1,h1⟩:=h1;rw [e2,e,ai] at h1;cases h1
  have hta:t≠a:=fun e=>by obtain ⟨c2,h2⟩:=h2;rw [e2,e,ai] at h2;cases h2
  clear h1 h2;-- either the way up avoids a,or passes it by
  have key:∀t,Up S.K.st u t->(t≠a->Up (ez S.K.st a) u t)/\(t=a->x.parent=u\/Up (ez S.K.st a) u x.parent):=by
   intro t hu;induction hu with
   | one g1 g2 g3=>
    rename_i t y;constructor
    ·intro hta;obtain ⟨z,z1,z2,_⟩:=ho.st t hta g1 y g2;refine .one g1 z1 ?_;rw [z2,if_neg (by rw [g3];exact hua)];exact g3
    ·intro e;subst e;have:y=x:=Option.some.inj (g2.symm.trans ho.at_);subst this;exact .inl g3
   | more g1 g2 g3 ih=>
    rename_i t y;constructor
    ·intro hta;obtain ⟨z,z1,z2,_⟩:=ho.st t hta g1 y g2;by_cases e:y.parent=a
     ·rw [if_pos e] at z2;rcases ih.2 e with e3 | e3
      ·exact .one g1 z1 (z2.trans e3)
      ·exact .more g1 z1 (by rw [z2];exact e3)
     ·rw [if_neg e] at z2;exact .more g1 z1 (by rw [z2];exact ih.1 e)
    ·intro e;subst e;have:y=x:=Option.some.inj (g2.symm.trans ho.at_);subst this;exact .inr (ih.1 ho.par)
  exact (key t hu).1 hta
 ·intro u t hu;rw [e1] at hu;have back:∀t z,t≠nowhere->ez S.K.st a t=some z->t≠a/\∃y,S.K.st t=some y/\z.parent=(if y.parent=a then x.parent else y.parent):=by
   intro t z htn hz;obtain ⟨hta,hm⟩:=honly t z hz;refine ⟨hta,?_⟩;rcases hm with hm | hm
   ·obtain ⟨y,hy,_⟩:=hF.stands.fact hF.nodup t hm;obtain ⟨z',z1,z2,_⟩:=ho.st t hta htn y hy;rw [hz] at z1;cases z1
    exact ⟨y,hy,z2⟩
   ·exact absurd hm htn
  induction hu with
  | one g1 g2 g3=>
   rename_i t z;obtain ⟨hta,y,hy,hp⟩:=back t z g1 g2;by_cases e:y.parent=a
   ·rw [if_pos e] at hp;exact .more g1 hy (by rw [e];exact .one han ho.at_ (hp.symm.trans g3))
   ·rw [if_neg e] at hp;exact .one g1 hy (hp.symm.trans g3)
  | more g1 g2 g3 ih=>
   rename_i t z;obtain ⟨hta,y,hy,hp⟩:=back t z g1 g2;by_cases e:y.parent=a
   ·rw [if_pos e] at hp;rw [hp] at ih;exact .more g1 hy (by rw [e];exact .more han ho.at_ ih)
   ·rw [if_neg e] at hp;rw [hp] at ih;exact .more g1 hy ih
 ·intro t c' h1 h2;rw [e2] at h2;have hta:t=a:=by
   by_cases e:t=a
   ·exact e
   ·rw [af _ _ e,h1] at h2;cases h2
  subst hta;rcases hr with e | e
  ·exact .inl e
  ·exact .inr (e.less (qe S t))
theorem Ag.noNode {R:RS}{S:KS}(h:Ag R S){nd left:Int}(hd:(nd,left)∈R.D):yc S.K nd:=by
 intro s b n r e eb;obtain ⟨_,_,h3⟩:=h.core.hno s b n r e;have:=(h.core.dm _ hd).2.2.2.2;simp only at this;rw [<- eb,h3] at this;cases this
theorem Cut.of_eq {s:Slot}{S S' S2:KS}(h:Cut s S S')(e:S2.K=S.K):Cut s S2 S':=by
 obtain ⟨K,D⟩:=S;obtain ⟨K2,D2⟩:=S2;have e:K2=K:=e;subst e;exact ⟨h.less,h.fwd,h.bwd,h.gone⟩
theorem al0 {R:RS}{S:KS}(h:Ag R S)(s:Slot):Cut s S (az S):=by
 rcases xe S.D with hD | ⟨A,nd,left,hD,hl,hdl⟩
 ·unfold az;rw [hD];exact Cut.refl s S
 ·unfold az;rw [hl];simp only;split
  ·have:=Cut.refl s {S with D:=S.D.dropLast};exact this.of_eq rfl
  ·rename_i hne;have hmem:(nd,left)∈R.D:=by rw [<- h.d,hD];simp
   have hpos:0<left:=by have:=(h.core.dm _ hmem).2.2.1;simp only at this;omega
   cases hh:S.K.held ⟨nd,left-1⟩ with
   | none=>
    rw [kw (S:={S with D:=S.D.dropLast++[(nd,left-1)]}) hh];exact (Cut.refl s _).of_eq rfl
   | some c=>
    -- the same kernel;its doomed list one lower agrees with some document's: take it as it was
    have h1:Cut s S (d_ S ⟨nd,left-1⟩):=zf h s hh (.inr (h.noNode hmem));have hk:(d_ {S with D:=S.D.dropLast++[(nd,left-1)]} ⟨nd,left-1⟩).K=(d_ S ⟨nd,left-1⟩).K:=by
     by_cases hx:pp (jq S.K ⟨nd,left-1⟩) c.ty c.base
     ·rw [jn hh hx,jn (S:={S with D:=S.D.dropLast++[(nd,left-1)]}) hh hx]
     ·rw [fo hh hx,fo (S:={S with D:=S.D.dropLast++[(nd,left-1)]}) hh hx];cases c<;>rfl
    refine ⟨?_,?_,?_,?_⟩
    ·intro s' c' e;rw [hk] at e;exact h1.less s' c' e
    ·intro u t hu g1 g2;rw [hk] at g1 g2 ⊢;exact h1.fwd u t hu g1 g2
    ·intro u t hu;rw [hk] at hu;exact h1.bwd u t hu
    ·intro t c' g1 g2;rw [hk] at g2 ⊢;exact h1.gone t c' g1 g2
theorem sf (s:Slot):∀(n:Nat) {R:RS} {S:KS} (_:Ag R S) (bs:List Bool),Cut s S (ak az bf n S bs).1
 | 0,_,S,_,_=>Cut.refl s S
 | n+1,R,S,h,bs=>by
  unfold ak;split
  ·exact Cut.refl s S
  ·cases bs with
   | nil=>exact (al0 h s).trans (sf s n h.step _)
   | cons b r=>
    simp only;split
    ·exact al0 h s
    ·exact (al0 h s).trans (sf s n h.step _)
theorem bd_ {R:RS}{S:KS}(h:Ag R S){s:Slot}(hs:0<=s.index)(hk:bl S.K s=true):∃c,S.K.held (ip S.K s)=some c/\Up S.K.st s (ip S.K s):=by
 obtain ⟨c,x,g1,g2,g3,_⟩:=h.revStep hs hk;refine ⟨c,g1,?_⟩;obtain ⟨F,hF⟩:=h.core.rel.tree;have hsn:s≠nowhere:=df hs;have hmem:ip S.K s∈x.kids:=List.mem_of_getLast? g3;have hsF:s∈F.slots:=by
  rcases hF.only s x g2 with e | e
  ·exact e
  ·exact absurd e hsn
 obtain ⟨x',hx',_,_,_,hkids,_⟩:=hF.stands.fact hF.nodup s hsF;have:x'=x:=Option.some.inj (hx'.symm.trans g2);subst this;obtain ⟨_,z,hz,hp⟩:=hkids _ hmem;exact .one (df (h.core.inN _ _ g1).1) hz hp
theorem xu (s:Slot)(hs:0<=s.index):∀(k:Nat) {R:RS} {S:KS} (_:Ag R S) (_:S.D=[]) (_:R.R.L.length<=k),
 (bw k S s []).1=0/\Cut s S (bw k S s []).2.1/\bl (bw k S s []).2.1.K s=false/\(bw k S s []).2.1.D=[]/\∃R',Ag R' (bw k S s []).2.1
 | 0,R,S,h,hD,hl=>by
  refine ⟨rfl,Cut.refl s S,?_,hD,R,h⟩;show bl S.K s=false;cases hk:bl S.K s with
  | false=>rfl
  | true=>
   obtain ⟨c,hc,_⟩:=bd_ h hs hk;obtain ⟨p,hp,_⟩:=b7.at h hc;omega
 | k+1,R,S,h,hD,hl=>by
  cases hk:bl S.K s with
  | false=>rw [au4 _ hk];exact ⟨rfl,Cut.refl s S,hk,hD,R,h⟩
  | true=>
   obtain ⟨c,x,g1,_,_,R',g4,g5,g6⟩:=h.revStep hs hk;obtain ⟨c2,g7,g8⟩:=bd_ h hs hk;rw [g6];have hg:b7 (d_ S (ip S.K s)):=b7.take ⟨R,h⟩ g1;obtain ⟨R1,hA1⟩:=hg;obtain ⟨_,hDw,_⟩:=b7.worked ⟨R1,hA1⟩;obtain ⟨q1,q2,q3,q4,q5⟩:=xu s hs k g4 hDw (by omega);exact ⟨q1,((zf h s g1 (.inl g8)).trans (sf s F0 hA1 [])).trans q2,q3,q4,q5⟩
structure bx7 (S S':KS)(th:Int)(c:Cl)(t:mg)(s:Slot):Prop where
 thr:S.K.thr th=some t
 find:ay (worked S).K t.root c.at_=some s
 held:∃k,(worked S).K.held s=some k
 idx:0<=s.index
 cut0:Cut s S (worked S)
 cut:Cut s S S'
 kids:bl S'.K s=false
 d:S'.D=[]
theorem bx8 {R:RS}{S:KS}(h:Ag R S)(th:Int)(c:Cl)(hk:c.kind=6)(he:(p_ S th c []).2.1=0):∃t s,bx7 S (p_ S th c []).2.2 th c t s:=by
 have hX:p_ S th c []=(0,ls S th c []):=by unfold p_;rw [if_neg (by omega)]
 rw [hX] at he ⊢;simp only at he ⊢;have hA:=(Ag.work F0 [] h).2;obtain ⟨hgw,hDw,hw⟩:=b7.worked ⟨R,h⟩;have hc0:∀s,Cut s S (worked S):=fun s=>sf s F0 h []
 unfold ls at he ⊢;cases ht:S.K.thr th with
 | none=>rw [ht] at he;cases he
 | some t=>
  rw [ht] at he;simp only at he ⊢;by_cases hst:t.state≠1
  ·rw [if_pos hst] at he;cases he
  ·rw [if_neg hst,if_neg (by omega),if_pos (by omega),hw] at he;rw [if_neg hst,if_neg (by omega),if_pos (by omega),hw];simp only [Bool.true_eq_false,if_false] at he ⊢;rw [if_neg (by omega)] at he;rw [if_neg (by omega)];cases hfi:ay (worked S).K t.root c.at_ with
   | none=>rw [hfi] at he;cases he
   | some s=>
    rw [hfi] at he;simp only at he ⊢;cases hh:(worked S).K.held s with
    | none=>rw [hh] at he;cases he
    | some k=>
     rw [hh] at he;simp only [Option.isNone_some,Bool.false_eq_true,if_false] at he ⊢;rw [if_neg (by omega)] at he;rw [if_neg (by omega)];have hidx:=(hA.core.inN s k hh).1;have hlen:=hA.core.len;obtain ⟨_,q2,q3,q4,_⟩:=xu s hidx F1 hA hDw (by rw [bf_];omega);exact ⟨t,s,ht,hfi,⟨k,hh⟩,hidx,hc0 s,(hc0 s).trans q2,q3,q4⟩
theorem Ag.rowAtSlot {R:RS}{S:KS}(h:Ag R S){s:Slot}{c:KCap}(hc:S.K.held s=some c):∃p,∃hp:p<R.R.L.length,R.R.L[p].slot=s/\fu (capsL R) s.node s.index=p:=by
 obtain ⟨p,hp,e⟩:=b7.at h hc;refine ⟨p,hp,e,?_⟩;have:=h.findRow hp;rw [e] at this;exact this
theorem Ag.noRow {R:RS}{S:KS}(h:Ag R S){s:Slot}(hc:S.K.held s=none):fu (capsL R) s.node s.index<0:=by
 have:fu (capsL R) s.node s.index=-1:=by
  refine ai4 (k:=(capsL R).length) (by omega) (fun j hj _=>?_);obtain ⟨c,x,hr⟩:=h.row j hj;cases hb:wy s.node s.index (capsL R)[j] with
  | false=>rfl
  | true=>
   simp only [wy,Bool.and_eq_true,beq_iff_eq] at hb;rw [hr.node,hr.index] at hb;have hh:=hr.held;have e:(R.R.L[j]'(by rw [<- e_];exact hj)).slot=s:=by
    cases hA:(R.R.L[j]'(by rw [<- e_];exact hj)).slot
    cases s
    rw [hA] at hb;simp only at hb;rw [hb.1,hb.2]
   rw [e,hc] at hh;cases hh
 omega
theorem aj6 {A:List ee}{nd:Int}:∀(k:Nat),k<=A.length->(∀j (hj:j<A.length),¬(A[j].ty=2/\A[j].base=nd))->p9 A nd k=true
 | 0,_,_=>rfl
 | k+1,hk,h=>by
  have e:p9 A nd (k+1)=if A[k].ty=2/\A[k].base=nd then false else p9 A nd k:=by simp [p9,List.getElem?_eq_getElem (show k<A.length from hk)]
  rw [e,if_neg (h k hk)];exact aj6 k (by omega) h
theorem Ag.aboveOf {R:RS}{S:KS}(h:Ag R S){i:Nat}(hi:i<R.R.L.length):∀(k:Nat) (j:Nat) (hj:j<R.R.L.length),gw (capsL R) i k j=true->Up S.K.st R.R.L[i].slot R.R.L[j].slot
 | 0,j,hj,hab=>by cases hab
 | k+1,j,hj,hab=>by
  have hl:=e_ R;obtain ⟨c,x,hr⟩:=h.row j (by rw [hl];exact hj);have htn:R.R.L[j].slot≠nowhere:=df (h.core.inN _ _ hr.held).1;have hab:(match (capsL R)[(j:Int).toNat]? with
   | none=>false
   | some a=>if a.parent<0 then false else if fu (capsL R) a.parent a.place<0 then false else if fu (capsL R) a.parent a.place=i then true else gw (capsL R) i k (fu (capsL R) a.parent a.place))=true:=hab
  rw [Int.toNat_natCast,List.getElem?_eq_getElem (by rw [hl];exact hj)] at hab;simp only at hab;rcases h.parRow hj hr.st with e | ⟨q,hq,hqj,e⟩
  ·rw [hr.parent,e] at hab;simp [nowhere] at hab
  ·obtain ⟨cq,hcq,_⟩:=h.core.rel.cap _ (List.getElem_mem hq);have h0:=(h.core.slot hcq).1;rw [hr.parent,hr.place,e,h.findRow hq,if_neg (by omega),if_neg (by omega)] at hab;by_cases hqi:(q:Int)=i
   ·have:q=i:=by omega
    subst this;exact .one htn hr.st e
   ·rw [if_neg hqi] at hab;exact .more htn hr.st (by rw [e];exact h.aboveOf hi k q hq hab)
structure b85 (R R':RS)(s:Slot):Prop where
 kid:∀i (hi:i<(capsL R').length),¬((capsL R')[i].parent=s.node/\(capsL R')[i].place=s.index)
 same:∀i (hi:i<(capsL R').length),∃p:Nat,∃hp:p<(capsL R).length,fu (capsL R) (capsL R')[i].node (capsL R')[i].index=p/\
  (capsL R)[p].ty=(capsL R')[i].ty/\(capsL R)[p].base=(capsL R')[i].base/\(capsL R)[p].bits=(capsL R')[i].bits/\(capsL R)[p].rights=(capsL R')[i].rights/\(capsL R)[p].badge=(capsL R')[i].badge/\(capsL R)[p].mark=(capsL R')[i].mark
 exc:a77 (capsL R) (capsL R') s.node s.index
 d:R'.D=[]
theorem bx7.lists {R R':RS}{S S':KS}{th:Int}{c:Cl}{t:mg}{s:Slot}(h:Ag R S)(h':Ag R' S')(hr:bx7 S S' th c t s):b85 R R' s:=by
 have hl:=e_ R;have hl':=e_ R';obtain ⟨k0,hk0⟩:=hr.held;have hS:=hr.cut0.less _ _ hk0;obtain ⟨p0,hp0,e0,f0⟩:=h.rowAtSlot hS;have hsn:s≠nowhere:=df hr.idx;refine ⟨?_,?_,⟨⟨p0,by rw [hl];exact hp0,f0⟩,?_⟩,h'.d.symm.trans hr.d⟩
 ·intro i hi ⟨e1,e2⟩;obtain ⟨c',x',q⟩:=h'.row i hi;have htn:=df (h'.core.inN _ _ q.held).1;refine h'.core.noUp hsn hr.kids _ x' htn q.st ?_;rw [q.parent] at e1;rw [q.place] at e2;cases hx:x'.parent;cases s;rw [hx] at e1 e2;simp only at e1 e2;rw [e1,e2]
 ·intro i hi;obtain ⟨c',x',q⟩:=h'.row i hi;have hh:=hr.cut.less _ _ q.held;obtain ⟨p,hp,e1,e2⟩:=h.rowAtSlot hh;have hp2:p<(capsL R).length:=by rw [hl];exact hp
  obtain ⟨c2,x2,q2⟩:=h.row p hp2;have:c2=c':=by have:=q2.held;rw [e1,hh] at this;exact (Option.some.inj this).symm
  subst this;refine ⟨p,hp2,by rw [q.node,q.index];exact e2,?_⟩;rw [q2.ty,q2.base,q2.bits,q2.rights,q2.badge,q2.mark,q.ty,q.base,q.bits,q.rights,q.badge,q.mark];exact ⟨rfl,rfl,rfl,rfl,rfl,rfl⟩
 ·intro i hi;have hi':i<R.R.L.length:=by rw [<- hl];exact hi
  obtain ⟨ci,xi,q⟩:=h.row i hi;rw [f0,q.node,q.index];cases hst:S'.K.held R.R.L[i].slot with
  | some c1=>
   left;obtain ⟨p1,hp1,_,f1⟩:=h'.rowAtSlot hst;refine ⟨by rw [f1];omega,?_⟩;cases hab:gw (capsL R) p0 ((capsL R).length+1) i with
   | false=>exact .inl rfl
   | true=>
    right;have hup:=h.aboveOf hp0 _ i hi' hab;rw [e0] at hup;cases hs':S'.K.held s with
    | none=>exact h'.noRow hs'
    | some c2=>
     exfalso
     have hu:=hr.cut.fwd _ _ hup ⟨c2,hs'⟩ ⟨c1,hst⟩;obtain ⟨u,x,u1,u2,u3⟩:=hu.last;exact h'.core.noUp hsn hr.kids u x u1 u2 u3
  | none=>
   right;refine ⟨h'.noRow hst,?_⟩;rcases hr.cut.gone _ _ q.held hst with e | e
   ·left;refine h.above hp0 (t:=R.R.L[i].slot) (by rw [e0];exact e) i hi' rfl _ (by omega)
   ·right;refine aj6 _ (Nat.le_refl _) (fun j hj ⟨g1,g2⟩=>?_);obtain ⟨cj,xj,qj⟩:=h'.row j hj;rw [qj.ty] at g1;rw [qj.base] at g2;cases cj with
    | node b n r=>exact e _ _ _ _ qj.held g2
    | _=>cases g1
theorem bx7.way {R:RS}{S S':KS}{th:Int}{c:Cl}{t:mg}{s:Slot}(h:Ag R S)(hr:bx7 S S' th c t s)(hal:c.at_.length<=2):
 (∃a,c.at_=[a]/\s=⟨t.root,a⟩)\/∃a b,∃p:Nat,∃hp:p<(capsL R).length,c.at_=[a,b]/\fu (capsL R) t.root a=p/\(capsL R)[p].base=s.node/\s.index=b:=by
 have hf:=hr.find;unfold ay at hf;split at hf
 ·cases hf
 ·rename_i hlen;match hc:c.at_,hal,hlen with
  | [a],_,_=>
   rw [hc] at hf;simp only [goK] at hf;split at hf
   ·exact .inl ⟨a,rfl,(Option.some.inj hf).symm⟩
   ·cases hf
  | [a,b],_,_=>
   rw [hc] at hf;simp only [goK] at hf;split at hf
   ·right;cases hh:(worked S).K.held ⟨t.root,a⟩ with
    | none=>simp [j9,hh] at hf
    | some k=>
     cases k with
     | node nb n r=>
      simp only [j9,hh] at hf;split at hf
      ·have hf:=Option.some.inj hf;have hS:=hr.cut0.less _ _ hh;obtain ⟨p,hp,e1,e2⟩:=h.rowAtSlot hS;have hp2:p<(capsL R).length:=by rw [e_];exact hp
       obtain ⟨c2,x2,q2⟩:=h.row p hp2;have:c2=.node nb n r:=by have:=q2.held;rw [e1,hS] at this;exact (Option.some.inj this).symm
       subst this;exact ⟨a,b,p,hp2,rfl,e2,by rw [q2.base,<- hf];rfl,by rw [<- hf]⟩
      ·cases hf
     | _=>simp [j9,hh] at hf
   ·cases hf
  | [],_,hn=>simp at hn
  | a :: b :: x :: r,hal,_=>simp at hal
section
variable {σ:Type} {step:σ->σ} {done:σ->Bool}
theorem iy (n:Nat){S:σ}(bs:List Bool)(h:done S=true):ak step done n S bs=(S,bs,true):=by
 cases n with
 | zero=>rfl
 | succ n=>unfold ak;rw [if_pos h]
theorem vg (n:Nat){S:σ}(h:¬done S=true):ak step done (n+1) S []=ak step done n (step S) []:=by
 rw [ak,if_neg h]
theorem ab2 (n:Nat){S:σ}(r:List Bool)(h:¬done S=true):ak step done (n+1) S (true :: r)=(step S,r,false):=by
 rw [ak,if_neg h];rfl
theorem ac1 (n:Nat){S:σ}(r:List Bool)(h:¬done S=true):ak step done (n+1) S (false :: r)=ak step done n (step S) r:=by
 rw [ak,if_neg h];rfl
theorem ac8:∀(n m:Nat) (S:σ),n<=m->qi step done n S->ak step done m S []=ak step done n S []
 | 0,m,S,_,h=>by rw [iy m [] h];rfl
 | n+1,0,_,hl,_=>absurd hl (by omega)
 | n+1,m+1,S,hl,h=>by
  by_cases hd:done S=true
  ·rw [iy _ _ hd,iy _ _ hd]
  ·rw [vg _ hd,vg _ hd];exact ac8 n m _ (by omega) (h.resolve_left hd)
theorem rp:∀(n:Nat) (S:σ) (bs:List Bool),(ak step done n S bs).2.2=true->(ak step done n S bs).1=(ak step done n S []).1
 | 0,_,_,_=>rfl
 | n+1,S,bs,h=>by
  by_cases hd:done S=true
  ·rw [iy _ _ hd,iy _ _ hd]
  ·cases bs with
   | nil=>rfl
   | cons b r=>
    cases b with
    | true=>rw [ab2 _ _ hd] at h;cases h
    | false=>rw [ac1 _ _ hd] at h ⊢;rw [vg _ hd];exact rp n _ r h
theorem xq:∀(n:Nat) (S:σ) (bs:List Bool),qi step done n S->(ak step done n S bs).2.2=false->
 ∃m,m<=n/\qi step done m (ak step done n S bs).1/\(ak step done m (ak step done n S bs).1 []).1=(ak step done n S []).1
 | 0,_,_,_,h=>by cases h
 | n+1,S,bs,he,h=>by
  by_cases hd:done S=true
  ·rw [iy _ _ hd] at h;cases h
  ·have he':=he.resolve_left hd;cases bs with
   | nil=>rw [js] at h;cases h
   | cons b r=>
    cases b with
    | true=>rw [ab2 _ _ hd];exact ⟨n,by omega,he',by rw [vg _ hd]⟩
    | false=>
     rw [ac1 _ _ hd] at h ⊢;rw [vg _ hd];obtain ⟨m,h1,h2,h3⟩:=xq n _ r he' h;exact ⟨m,by omega,h2,h3⟩
end
def WR (S:RS):RS:=(ak em eh F0 S []).1
theorem Ag.wr {S:RS}{S':KS}(h:Ag S S'):Ag (WR S) (ak az bf F0 S' []).1:=(Ag.work F0 [] h).2
theorem Ag.wrD {S:RS}{S':KS}(h:Ag S S'):(WR S).D=[]:=sk.1 (sh F0 S [] (Ag.ends F0 h h.mu_le).1 (by rw [js]))
theorem bg0 {S:RS}(h:S.D=[]):WR S=S:=by unfold WR;rw [iy F0 [] (sk.2 h)]
theorem Ag.wr_pre {S:RS}{S':KS}(h:Ag S S')(bs:List Bool)(hf:(ak em eh F0 S bs).2.2=false):WR (ak em eh F0 S bs).1=WR S:=by
 obtain ⟨m,h1,h2,h3⟩:=xq F0 S bs (Ag.ends F0 h h.mu_le).1 hf;unfold WR;rw [ac8 m F0 _ h1 h2];exact h3
theorem rn:∀(n:Nat) {S:RS} {S':KS} (bs:List Bool),Ag S S'->mu (ak em eh n S bs).1<=mu S/\((ak em eh n S bs).2.2=false->mu (ak em eh n S bs).1+1<=mu S)
 | 0,_,_,_,_=>⟨Nat.le_refl _,fun h=>by cases h⟩
 | n+1,S,S',bs,h=>by
  by_cases hd:eh S=true
  ·rw [iy _ _ hd];exact ⟨Nat.le_refl _,fun h=>by cases h⟩
  ·have h1:=(ag9 h (by simpa using hd)).1;cases bs with
   | nil=>
    rw [vg _ hd];have:=rn n [] h.step;exact ⟨by omega,fun h=>by rw [js] at h;cases h⟩
   | cons b r=>
    cases b with
    | true=>rw [ab2 _ _ hd];exact ⟨by simp only;omega,fun _=>h1⟩
    | false=>
     rw [ac1 _ _ hd];have:=rn n r h.step;exact ⟨by omega,fun h=>by omega⟩
theorem sl {S:RS}(p:Nat)(e:bo):takeB S p e []=(0,WR (jg S p e),[]):=by
 have h2:(ak em eh F0 (jg S p e) []).2=([],true):=js _ _;unfold takeB WR;simp only [dk,Bool.false_eq_true,if_false,h2,if_true]
theorem sg {S:RS}{S':KS}(h:Ag S S'){p:Nat}(hp:p<S.R.L.length)(bs:List Bool):
 (((takeB S p S.R.L[p] bs).1=0/\(takeB S p S.R.L[p] bs).2.1=WR (jg S p S.R.L[p]))\/((takeB S p S.R.L[p] bs).1=8/\WR (takeB S p S.R.L[p] bs).2.1=WR (jg S p S.R.L[p])))/\
 mu (takeB S p S.R.L[p] bs).2.1+1<=mu S:=by
 have h1:=h.take hp;have h2:=(aw6 h hp).1;unfold takeB;by_cases hb:(dk bs).1=true
 ·rw [if_pos hb];exact ⟨.inr ⟨rfl,rfl⟩,h2⟩
 ·rw [if_neg hb];have h3:=rn F0 (dk bs).2 h1;refine ⟨?_,by simp only;omega⟩;cases hw:(ak em eh F0 (jg S p S.R.L[p]) (dk bs).2).2.2 with
  | true=>exact .inl ⟨rfl,rp _ _ _ hw⟩
  | false=>exact .inr ⟨rfl,h1.wr_pre _ hw⟩
theorem su (S:RS)(n i:Int):(∀k bs,bd k S n i bs=(0,S,bs))\/∃p,∃hp:p<S.R.L.length,∀k bs,bd (k+1) S n i bs =
 if (takeB S p S.R.L[p] bs).1=0 then bd k (takeB S p S.R.L[p] bs).2.1 n i (takeB S p S.R.L[p] bs).2.2 else takeB S p S.R.L[p] bs:=by
 cases hf:S.R.L.findIdx? (fh n i) with
 | none=>left;intro k bs;cases k with
  | zero=>rfl
  | succ k=>rw [bd,hf]
 | some p=>
  cases he:S.R.L[p]? with
  | none=>left;intro k bs;cases k with
   | zero=>rfl
   | succ k=>rw [bd,hf];simp only [he]
  | some e=>
   by_cases hn:og S.R.L p e.up=p+1
   ·left;intro k bs;cases k with
    | zero=>rfl
    | succ k=>rw [bd,hf];simp only [he,if_pos hn]
   ·cases hq:S.R.L[m7 S.R.L p e.up]? with
    | none=>left;intro k bs;cases k with
     | zero=>rfl
     | succ k=>rw [bd,hf];simp only [he,if_neg hn,hq]
    | some e'=>
     right;obtain ⟨hp',e2⟩:=List.getElem?_eq_some_iff.1 hq;refine ⟨m7 S.R.L p e.up,hp',fun k bs=>?_⟩
     rw [bd,hf];simp only [he,if_neg hn,hq,e2]
theorem uy (n i:Int):∀(k:Nat) {S:RS} {S':KS},Ag S S'->S.R.L.length<=k->bd (k+1) S n i []=bd k S n i []
 | 0,S,S',h,hl=>by
  rcases su S n i with e | ⟨p,hp,e⟩
  ·rw [e,e]
  ·omega
 | k+1,S,S',h,hl=>by
  rcases su S n i with e | ⟨p,hp,e⟩
  ·rw [e,e]
  ·obtain ⟨_,_,g3,g4,g5⟩:=h.takeB hp [];obtain ⟨q1,q2,_⟩:=g5 rfl;rw [e,e,if_pos q1,if_pos q1,q2];exact uy n i k g3 (by omega)
theorem mb (n i:Int)(hi:0<=i):∀(k:Nat) {S:RS} {S':KS} (bs:List Bool),Ag S S'->S.R.L.length<=k->
 (bd k S n i []).1=0/\mu (bd k S n i bs).2.1<=mu S/\(bd k S n i bs).2.1.R.L.length<=S.R.L.length/\
 (((bd k S n i bs).1=0/\(bd k S n i bs).2.1=(bd k S n i []).2.1)\/
  ((bd k S n i bs).1=8/\mu (bd k S n i bs).2.1+1<=mu S/\bd k (WR (bd k S n i bs).2.1) n i []=bd k S n i []))
 | 0,S,S',bs,h,hl=>⟨rfl,Nat.le_refl _,Nat.le_refl _,.inl ⟨rfl,rfl⟩⟩
 | k+1,S,S',bs,h,hl=>by
  rcases su S n i with e | ⟨p,hp,e⟩
  ·rw [e,e];exact ⟨rfl,Nat.le_refl _,Nat.le_refl _,.inl ⟨rfl,rfl⟩⟩
  ·obtain ⟨_,_,g3,g4,_⟩:=h.takeB hp bs;obtain ⟨_,_,n3,n4,n5⟩:=h.takeB hp [];obtain ⟨q1,q2,_⟩:=n5 rfl;have hnil:bd (k+1) S n i []=bd k (WR (jg S p S.R.L[p])) n i []:=by
    rw [e,if_pos q1,q2,sl]
   rw [sl] at n3 n4;obtain ⟨hres,hmu⟩:=sg h hp bs;have z0:=(mb n i hi k [] n3 (by simp only at n4 ⊢;omega)).1;refine ⟨by rw [hnil];exact z0,?_⟩;rcases hres with ⟨h0,h1⟩ | ⟨h0,h1⟩
   ·have hb:bd (k+1) S n i bs=bd k (WR (jg S p S.R.L[p])) n i (takeB S p S.R.L[p] bs).2.2:=by rw [e,if_pos h0,h1]
    rw [h1] at g4 hmu;obtain ⟨_,i2,i3,i4⟩:=mb n i hi k (takeB S p S.R.L[p] bs).2.2 n3 (by simp only at n4 ⊢;omega);have iA:=(Ag.revoke k n i (takeB S p S.R.L[p] bs).2.2 n3 hi).2.1;simp only at i2 i3 i4 iA;rw [hb,hnil];refine ⟨by omega,by omega,?_⟩;rcases i4 with i4 | ⟨i4,i5,i6⟩
    ·exact .inl i4
    ·refine .inr ⟨i4,by omega,?_⟩;rw [uy n i k iA.wr (Nat.le_trans (ag7 F0 [] iA) (by omega))];exact i6
   ·have hb:bd (k+1) S n i bs=takeB S p S.R.L[p] bs:=by rw [e,if_neg (by rw [h0];decide)]
    rw [hb,hnil];refine ⟨by omega,by omega,.inr ⟨h0,hmu,?_⟩⟩;rw [h1];exact uy n i k n3 (by simp only at n4 ⊢;omega)
end Go.Proofs.YtdpjgflemddekaaDoor

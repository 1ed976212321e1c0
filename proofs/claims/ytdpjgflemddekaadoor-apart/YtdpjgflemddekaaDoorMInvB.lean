/- What is always so stays so: behind a copy, a move, a new object. Nothing of the program's text. -/
import Derived.Test.YtdpjgflemddekaaDoorMRelA
namespace Go.Proofs.YtdpjgflemddekaaDoor
structure b86 (K:a_)(D:List (Int×Int))(N':List ya)(T':List gh)(nodes':Int->Option Int)(thr':Int->Option mg)(qs':Int->Option (List dx×List dx))(c:KCap):Prop where
 nodes:∀b,(nodes' b).getD 0=dw N' b
 thr:∀b,thr' b=(T'.find? (ao b)).map gh.thd
 nold:∀b y,K.nodes b=some y->nodes' b=some y
 nnew:∀b y,nodes' b=some y->K.nodes b=some y\/(0<=b/\b<1024/\y<=16/\∃n r,c=.node b n r)
 told:∀b y,K.thr b=some y->thr' b=some y
 tnew:∀b y,thr' b=some y->K.thr b=some y\/∃n r,c=.task b n r
 qold:∀b y,K.qs b=some y->qs' b=some y
 qnew:∀b y,qs' b=some y->K.qs b=some y\/∃n r g,c=.endpoint b n r g
 cn:∀b n r,c=.node b n r->3<=n/\n<=6/\nodes' b=some (pw n.toNat / 4)
 ct:∀b n r,c=.task b n r->∃t,thr' b=some t
 ce:∀b n r g,c=.endpoint b n r g->∃q,qs' b=some q
 dm:∀d∈D,nodes' d.1=none
 nd:(N'.map ya.base).Nodup
 td:(T'.map gh.base).Nodup
 nb:∀l∈N',0<=l.base/\l.base<1024/\0<=l.bits/\l.bits<=6
 tb:∀t∈T',0<=t.base/\t.base<1024/\t.base % 16=0
 rt:0<=c.rights/\c.rights<=7
 da:∀d∈D,c.isU=false->c.base+pw c.bits.toNat<=d.1\/d.1+8<=c.base
theorem cx.layG {R:jh}{K:a_}{D:List (Int×Int)}(h:cx R K D){p:Nat}(hp:p<R.L.length)(x:bo)(c d:KCap)(hc:c.told=x.told)(hx:K.held x.slot=none)(hi:0<=x.slot.index/\x.slot.index<bz K x.slot.node)
 (hcap:0<=c.base/\0<=c.bits/\c.bits<=10/\c.base+pw c.bits.toNat<=1024/\0<=c.mark/\c.mark<=pw c.bits.toNat)
 (hd:K.held R.L[p].slot=some d) (hw:Within d c) (ha:∀s e,s≠R.L[p].slot->K.held s=some e->ab1 c e\/jw c e\/(e.isU=true/\Up K.st s R.L[p].slot)) (hpd:jw d c\/d.isU=true)
 {N':List ya} {T':List gh} {nodes':Int->Option Int} {thr':Int->Option mg} {qs':Int->Option (List dx×List dx)} (ob:b86 K D N' T' nodes' thr' qs' c) :
 cx {L:=uf R.L p R.L[p].up x,N:=N',T:=T'} (({K with nodes:=nodes',thr:=thr',qs:=qs'}:a_).lay x.slot c R.L[p].slot) D:=by
 have hne:∀e∈R.L,e.slot≠x.slot:=fun e he e1=>by
  obtain ⟨c',h1,_⟩:=h.rel.cap e he;rw [e1,hx] at h1;cases h1
 have htn:x.slot≠nowhere:=df hi.1;have htp:x.slot≠R.L[p].slot:=fun e=>hne _ (List.getElem_mem hp) e.symm
 have hrel:=h.rel.lay hp x hne htn c hc;have hold:∀s c',upd K.held x.slot (some c) s=some c'->(s=x.slot/\c'=c)\/(s≠x.slot/\K.held s=some c'):=by
  intro s c' h1;by_cases e:s=x.slot
  ·rw [e,ai] at h1;exact .inl ⟨e,(Option.some.inj h1).symm⟩
  ·rw [af _ _ e] at h1;exact .inr ⟨e,h1⟩
 have hkeep:∀s c',K.held s=some c'->upd K.held x.slot (some c) s=some c':=by
  intro s c' h1;have e:s≠x.slot:=fun e=>by rw [e,hx] at h1;cases h1
  rw [af _ _ e];exact h1
 have hstx:K.st x.slot=none:=h.rel.treeOk.empty _ hx hi.1;have hI:∀b,bz K b<=0\/bz (({K with nodes:=nodes',thr:=thr',qs:=qs'}:a_).lay x.slot c R.L[p].slot) b=bz K b:=by
  intro b;cases hb:K.nodes b with
  | none=>left;unfold bz;rw [hb];simp
  | some y=>right;unfold bz;rw [hb];show (nodes' b).getD 0=_;rw [ob.nold b y hb]
 refine ⟨⟨hrel.cap,hrel.emp,hrel.tree,ob.nodes,ob.thr⟩,?_,?_,?_,h.dn,?_,?_,?_,?_,?_,?_,?_,ob.nd,ob.td,ob.nb,ob.tb,?_,?_⟩
 ·refine h.geo.lay htn htp hx ?_ ?_ hd hw ha hpd
  ·intro s y hy;have hs:s≠x.slot:=fun e=>by rw [e,hstx] at hy;cases hy
   refine ⟨fun hsn e=>?_,hs⟩
   rcases (h.stand hsn hy).2 with e1 | ⟨⟨d',e1⟩,_⟩
   ·exact htn (e.symm.trans e1)
   ·rw [e,hx] at e1;cases e1
  ·obtain ⟨y,_,e1,_⟩:=h.rel.treeOk.full _ _ hd;exact ⟨y,e1⟩
 ·intro s c' hs;rcases hold s c' hs with ⟨e,_⟩ | ⟨_,h1⟩
  ·rw [e];refine ⟨hi.1,.inl ?_⟩;rcases hI x.slot.node with h2 | h2
   ·omega
   ·rw [h2];exact hi.2
  ·obtain ⟨g1,g2⟩:=h.inN s c' h1;refine ⟨g1,?_⟩;rcases g2 with g2 | g2
   ·rcases hI s.node with h2 | h2
    ·omega
    ·left;rw [h2];exact g2
   ·exact .inr g2
 ·intro d' hd';obtain ⟨g1,g2,g3,g4,_⟩:=h.dm d' hd';exact ⟨g1,g2,g3,g4,ob.dm d' hd'⟩
 ·intro b y hy;rcases ob.nnew b y hy with h1 | ⟨h1,h2,h3,n,r,h4⟩
  ·obtain ⟨g1,g2,g3,s,n,r,g4⟩:=h.nod b y h1;exact ⟨g1,g2,g3,s,n,r,hkeep _ _ g4⟩
  ·exact ⟨h1,h2,h3,x.slot,n,r,by rw [<- h4];exact ai _ _ _⟩
 ·intro s c' hs;rcases hold s c' hs with ⟨_,rfl⟩ | ⟨_,h1⟩
  ·exact hcap
  ·exact h.cap s c' h1
 ·intro s b n r hs;rcases hold s _ hs with ⟨_,e⟩ | ⟨_,h1⟩
  ·exact ob.cn b n r e.symm
  ·obtain ⟨g1,g2,g3⟩:=h.hno s b n r h1;exact ⟨g1,g2,ob.nold b _ g3⟩
 ·intro b y hy;rcases ob.tnew b y hy with h1 | ⟨n,r,h4⟩
  ·obtain ⟨s,n,r,g4⟩:=h.thd b y h1;exact ⟨s,n,r,hkeep _ _ g4⟩
  ·exact ⟨x.slot,n,r,by rw [<- h4];exact ai _ _ _⟩
 ·intro s b n r hs;rcases hold s _ hs with ⟨_,e⟩ | ⟨_,h1⟩
  ·exact ob.ct b n r e.symm
  ·obtain ⟨t,g⟩:=h.hth s b n r h1;exact ⟨t,ob.told b _ g⟩
 ·intro b y hy;rcases ob.qnew b y hy with h1 | ⟨n,r,g,h4⟩
  ·obtain ⟨s,n,r,g,g4⟩:=h.que b y h1;exact ⟨s,n,r,g,hkeep _ _ g4⟩
  ·exact ⟨x.slot,n,r,g,by rw [<- h4];exact ai _ _ _⟩
 ·intro s b n r g hs;rcases hold s _ hs with ⟨_,e⟩ | ⟨_,h1⟩
  ·exact ob.ce b n r g e.symm
  ·obtain ⟨q,hq⟩:=h.hen s b n r g h1;exact ⟨q,ob.qold b _ hq⟩
 ·intro s c' hs;rcases hold s _ hs with ⟨_,e⟩ | ⟨_,h1⟩
  ·rw [e];exact ob.rt
  ·exact h.rt s c' h1
 ·intro d' hd' s c' hs hu;rcases hold s _ hs with ⟨_,e⟩ | ⟨_,h1⟩
  ·rw [e] at hu ⊢;exact ob.da d' hd' hu
  ·exact h.dap d' hd' s c' h1 hu
theorem cx.copied {R:jh}{K:a_}{D:List (Int×Int)}(h:cx R K D){p:Nat}(hp:p<R.L.length)(x:bo)(c d:KCap)(hc:c.told=x.told)(hx:K.held x.slot=none)(hi:0<=x.slot.index/\x.slot.index<bz K x.slot.node)
 (hcap:0<=c.base/\0<=c.bits/\c.bits<=10/\c.base+pw c.bits.toNat<=1024/\0<=c.mark/\c.mark<=pw c.bits.toNat)
 (hd:K.held R.L[p].slot=some d) (hs:jw d c) (hbg:d.badge=0\/c.badge=d.badge) (hrt:0<=c.rights/\c.rights<=7) :
 cx {R with L:=uf R.L p R.L[p].up x} (K.lay x.slot c R.L[p].slot) D:=by
 refine h.layG (N':=R.N) (T':=R.T) (nodes':=K.nodes) (thr':=K.thr) (qs':=K.qs) hp x c d hc hx hi hcap hd ((xh hs.1).2 ⟨hs,hbg⟩) ?_ (.inl hs) ?_
 ·intro s e hne he;rcases h.geo.apart s _ e d hne he hd with g | g | g | ⟨g1,_⟩
  ·exact .inl (g.same hs).symm
  ·exact .inr (.inl (g.trans hs).symm)
  ·exact .inr (.inr g)
  ·rw [hs.1] at g1;cases g1
 ·refine ⟨h.rel.nodes,h.rel.thr,fun _ _=>id,fun _ _=>.inl,fun _ _=>id,fun _ _=>.inl,fun _ _=>id,fun _ _=>.inl,?_,?_,?_,fun d' hd'=>(h.dm d' hd').2.2.2.2,h.nd,h.td,h.nb,h.tb,hrt,fun d' hd' _=>by have:=h.dap d' hd' _ _ hd hs.1;rw [hs.2.2.1,hs.2.2.2] at this;exact this⟩
  ·intro b n r e;subst e;obtain ⟨_,q1,q2,q3⟩:=hs;cases d<;>simp only [KCap.ty,KCap.base,KCap.bits] at q1 q2 q3<;>first | omega | skip
   subst q2;subst q3;exact h.hno _ _ _ _ hd
  ·intro b n r e;subst e;obtain ⟨_,q1,q2,q3⟩:=hs;cases d<;>simp only [KCap.ty,KCap.base,KCap.bits] at q1 q2 q3<;>first | omega | skip
   subst q2;subst q3;exact h.hth _ _ _ _ hd
  ·intro b n r g e;subst e;obtain ⟨_,q1,q2,q3⟩:=hs;cases d<;>simp only [KCap.ty,KCap.base,KCap.bits] at q1 q2 q3<;>first | omega | skip
   subst q2;subst q3;exact h.hen _ _ _ _ _ hd
theorem ig.movedP {L:List bo}{st:Slot->Option ly}{F:Fo}(h:ig L st F){a b:Slot}(hmem:a∈F.slots)(hb:b∉F.slots)(hb2:b≠nowhere):
 (∀t x,t≠nowhere->st t=some x->∃y,px st a b (if t=a then b else t)=some y/\y.parent=(if x.parent=a then b else x.parent))/\
 (∀t y,t≠nowhere->px st a b t=some y->t≠a/\∃t0 x,t=(if t0=a then b else t0)/\t0≠nowhere/\t0≠b/\st t0=some x)/\(∀t x,t≠nowhere->st t=some x->x.parent≠b):=by
 obtain ⟨x,hx,x1,x2,x3,x4,x5⟩:=h.stands.fact h.nodup a hmem;obtain ⟨rt,hr1,hr2⟩:=h.roots;have hab:a≠b:=fun e=>hb (e▸hmem)
 have han:a≠nowhere:=fun e=>h.top (e▸hmem)
 have hpa:x.parent≠a:=by
  rcases x5 with ⟨e,_⟩ | ⟨_,y,e2,e3,_⟩
  ·rw [e];exact Ne.symm han
  ·intro e;rw [e,hx] at e2;cases e2;exact x1 e3
 have hpb:x.parent≠b:=by
  rcases x5 with ⟨e,_⟩ | ⟨e,_⟩
  ·rw [e];exact Ne.symm hb2
  ·intro e2;exact hb (e2▸e)
 have hbk:b∉x.kids:=fun e=>hb (x4 b e).1
 obtain ⟨y,hy,hy2⟩:∃y,st x.parent=some y/\a∈y.kids:=by
  rcases x5 with ⟨e,e2⟩ | ⟨_,y,e2,e3,_⟩
  ·exact ⟨rt,by rw [e];exact hr1,by rw [hr2];exact e2⟩
  ·exact ⟨y,e2,e3⟩
 have hs1p:(upd (upd st a none) b (some x)) x.parent=some y:=by rw [af _ _ hpb,af _ _ hpa];exact hy
 have hmv:px st a b=f_ (upd (upd (upd st a none) b (some x)) x.parent (some ⟨y.parent,y.kids.map fun k=>if k=a then b else k⟩)) x.kids b:=by
  unfold px;rw [hx];simp only [hs1p]
 have hkp:∀s,s≠nowhere->∀z,st s=some z->(z.parent=a ↔ s∈x.kids):=by
  intro s h2 z hz;constructor
  ·intro e;rcases h.only s z hz with e0 | e0
   ·obtain ⟨z',e1,_,_,_,_,e5⟩:=h.stands.fact h.nodup s e0;rw [hz] at e1;cases e1
    rcases e5 with ⟨e6,_⟩ | ⟨_,y2,e6,e7,_⟩
    ·exact absurd (e▸e6) han
    ·rw [e,hx] at e6;cases e6;exact e7
   ·exact absurd e0 h2
  ·intro e;obtain ⟨_,z2,e6,e7⟩:=x4 s e;rw [hz] at e6;cases e6
   exact e7
 refine ⟨?_,?_,?_⟩
 ·intro t z htn hz;by_cases e:t=a
  ·subst e;rw [hx] at hz;cases hz
   rw [if_pos rfl,if_neg hpa];refine ⟨x,?_,rfl⟩;rw [hmv];unfold f_;rw [if_neg hbk,af _ _ (Ne.symm hpb),ai]
  ·rw [if_neg e];have htb:t≠b:=fun e1=>by
    rcases h.only t z hz with e0 | e0
    ·exact hb (e1▸e0)
    ·exact htn e0
   rw [hmv];unfold f_;by_cases h3:t=x.parent
   ·subst h3;rw [ai];rw [hy] at hz;cases hz
    by_cases h4:x.parent∈x.kids
    ·simp [h4,(hkp _ htn _ hy).2 h4]
    ·simp [h4];exact fun e2=>absurd ((hkp _ htn _ hy).1 e2) h4
   ·rw [af _ _ h3,af _ _ htb,af _ _ e,hz];by_cases h4:t∈x.kids
    ·simp [h4,(hkp _ htn _ hz).2 h4]
    ·simp [h4];exact fun e2=>absurd ((hkp _ htn _ hz).1 e2) h4
 ·intro t z htn hz;have hta:t≠a:=fun e=>by
   rw [e,hmv] at hz;unfold f_ at hz;rw [if_neg x1,af _ _ (Ne.symm hpa),af _ _ hab,ai] at hz;cases hz
  refine ⟨hta,?_⟩;by_cases htb:t=b
  ·exact ⟨a,x,by rw [if_pos rfl];exact htb,han,hab,hx⟩
  ·have h3:∃z',st t=some z':=by
    rw [hmv] at hz;unfold f_ at hz;by_cases h4:t=x.parent
    ·exact ⟨y,by rw [h4];exact hy⟩
    ·rw [af _ _ h4,af _ _ htb,af _ _ hta] at hz;cases hst:st t with
     | none=>rw [hst] at hz;split at hz<;>simp at hz
     | some z'=>exact ⟨z',rfl⟩
   obtain ⟨z',h3⟩:=h3;exact ⟨t,z',by rw [if_neg hta],htn,htb,h3⟩
 ·intro t z htn hz e;rcases h.only t z hz with e0 | e0
  ·obtain ⟨z',e1,_,_,_,_,e5⟩:=h.stands.fact h.nodup t e0;rw [hz] at e1;cases e1
   rcases e5 with ⟨e6,_⟩ | ⟨e6,_⟩
   ·exact hb2 (e▸e6)
   ·exact hb (e▸e6)
  ·exact htn e0
theorem cx.move {R:jh}{K:a_}{D:List (Int×Int)}(h:cx R K D){p:Nat}(hp:p<R.L.length)(c:KCap)(hc:K.held R.L[p].slot=some c)(n i:Int)(hx:K.held ⟨n,i⟩=none)(hi:0<=i/\i<bz K n):
 cx {R with L:=R.L.set p {R.L[p] with node:=n,index:=i}} (K.move R.L[p].slot ⟨n,i⟩ c) D:=by
 obtain ⟨F,hF⟩:=h.rel.tree;have hmem:R.L[p].slot∈F.slots:=(ld h.rel hF).2 ⟨c,hc⟩;have hbn:(⟨n,i⟩:Slot)∉F.slots:=fun e=>by
  obtain ⟨c',h1⟩:=(ld h.rel hF).1 e;rw [hx] at h1;cases h1
 have hb2:(⟨n,i⟩:Slot)≠nowhere:=df hi.1;have hab:R.L[p].slot≠⟨n,i⟩:=fun e=>hbn (e▸hmem)
 have hh:(K.move R.L[p].slot ⟨n,i⟩ c).held=upd (upd K.held R.L[p].slot none) ⟨n,i⟩ (some c):=rfl;-- what a slot holds behind it,it or the old slot held
 have hold:∀s c',(K.move R.L[p].slot ⟨n,i⟩ c).held s=some c'->(s=⟨n,i⟩/\K.held R.L[p].slot=some c')\/(s≠⟨n,i⟩/\s≠R.L[p].slot/\K.held s=some c'):=by
  intro s c' hs;rw [hh] at hs;by_cases e:s=⟨n,i⟩
  ·subst e;rw [ai] at hs;exact .inl ⟨rfl,hc.trans hs⟩
  ·rw [af _ _ e] at hs;by_cases e2:s=R.L[p].slot
   ·rw [e2,ai] at hs;cases hs
   ·rw [af _ _ e2] at hs;exact .inr ⟨e,e2,hs⟩
 have hnd:=hF.nd;have hmemset:∀e∈R.L.set p {R.L[p] with node:=n,index:=i},(e={R.L[p] with node:=n,index:=i})\/(e∈R.L/\e.slot≠R.L[p].slot):=by
  intro e he;obtain ⟨j,hj,rfl⟩:=List.getElem_of_mem he;have hj':j<R.L.length:=by simpa using hj
  rw [List.getElem_set];by_cases hpj:p=j
  ·rw [if_pos hpj];exact .inl rfl
  ·rw [if_neg hpj];refine .inr ⟨List.getElem_mem hj',fun e1=>hpj ?_⟩
   have e2:(R.L.map bo.slot)[j]'(by simpa using hj')=(R.L.map bo.slot)[p]'(by simpa using hp):=by simpa using e1
   exact ((List.getElem_inj hnd).1 e2).symm
 obtain ⟨ct,hct1,hct2⟩:=h.rel.cap _ (List.getElem_mem hp);rw [hc] at hct1;cases hct1
 obtain ⟨hk1,hk2,hk3⟩:=hF.movedP hmem hbn hb2;have hfw:∀s c',K.held s=some c'->∃s',(K.move R.L[p].slot ⟨n,i⟩ c).held s'=some c':=by
  intro s c' hs;by_cases e:s=R.L[p].slot
  ·rw [e,hc] at hs;cases hs
   exact ⟨⟨n,i⟩,by rw [hh];exact ai _ _ _⟩
  ·refine ⟨s,?_⟩;have h3:s≠⟨n,i⟩:=fun e3=>by rw [e3,hx] at hs;cases hs
   rw [hh,af _ _ h3,af _ _ e];exact hs
 have hbw:∀s c',(K.move R.L[p].slot ⟨n,i⟩ c).held s=some c'->∃s',K.held s'=some c':=by
  intro s c' hs;rcases hold s c' hs with ⟨_,h1⟩ | ⟨_,_,h1⟩
  ·exact ⟨_,h1⟩
  ·exact ⟨_,h1⟩
 refine ⟨⟨?_,?_,⟨_,hF.move hp n i hbn hb2⟩,h.rel.nodes,h.rel.thr⟩,h.geo.move hc hx hb2 hk1 hk2 hk3,?_,h.dm,h.dn,?_,?_,?_,?_,?_,?_,?_,h.nd,h.td,h.nb,h.tb,fun s c' hs=>by obtain ⟨s',h1⟩:=hbw s c' hs;exact h.rt s' c' h1,fun d' hd' s c' hs hu=>by obtain ⟨s',h1⟩:=hbw s c' hs;exact h.dap d' hd' s' c' h1 hu⟩
 ·intro e he;rcases hmemset e he with rfl | ⟨h1,h2⟩
  ·exact ⟨c,by rw [hh];exact ai _ _ _,hct2⟩
  ·obtain ⟨c',e1,e2⟩:=h.rel.cap e h1;have h3:e.slot≠⟨n,i⟩:=fun e3=>by rw [e3,hx] at e1;cases e1
   exact ⟨c',by rw [hh,af _ _ h3,af _ _ h2];exact e1,e2⟩
 ·intro s hs;rw [hh];have h1:s≠⟨n,i⟩:=fun e=>by
   refine hs {R.L[p] with node:=n,index:=i} ?_ e.symm;exact List.mem_set hp _
  rw [af _ _ h1];by_cases e2:s=R.L[p].slot
  ·rw [e2,ai]
  ·rw [af _ _ e2];refine h.rel.emp s (fun e he e1=>?_);obtain ⟨j,hj,rfl⟩:=List.getElem_of_mem he;have hpj:p≠j:=fun e3=>by subst e3;exact e2 e1.symm
   refine hs R.L[j] ?_ e1;have:(R.L.set p {R.L[p] with node:=n,index:=i})[j]'(by simpa using hj)=R.L[j]:=by rw [List.getElem_set,if_neg hpj]
   rw [<- this];exact List.getElem_mem _
 ·intro s c' hs;rcases hold s c' hs with ⟨rfl,_⟩ | ⟨_,_,h1⟩
  ·exact ⟨hi.1,.inl hi.2⟩
  ·exact h.inN s c' h1
 ·intro b y hy;obtain ⟨g1,g2,g3,s,n,r,g4⟩:=h.nod b y hy;obtain ⟨s',g5⟩:=hfw _ _ g4;exact ⟨g1,g2,g3,s',n,r,g5⟩
 ·intro s c' hs;obtain ⟨s',h1⟩:=hbw s c' hs;exact h.cap s' c' h1
 ·intro s b n r hs;obtain ⟨s',h1⟩:=hbw s _ hs;exact h.hno s' b n r h1
 ·intro b y hy;obtain ⟨s,n,r,g4⟩:=h.thd b y hy;obtain ⟨s',g5⟩:=hfw _ _ g4;exact ⟨s',n,r,g5⟩
 ·intro s b n r hs;obtain ⟨s',h1⟩:=hbw s _ hs;exact h.hth s' b n r h1
 ·intro b y hy;obtain ⟨s,n,r,g,g4⟩:=h.que b y hy;obtain ⟨s',g5⟩:=hfw _ _ g4;exact ⟨s',n,r,g,g5⟩
 ·intro s b n r g hs;obtain ⟨s',h1⟩:=hbw s _ hs;exact h.hen s' b n r g h1
theorem xw {n:Int}(h1:3<=n)(h2:n<=6):pw n.toNat / 4=2 ^ (n-2).toNat/\pw n.toNat / 4<=16:=by
 have h:n=3\/n=4\/n=5\/n=6:=by omega
 rcases h with rfl | rfl | rfl | rfl<;>decide
theorem cx.nodeFree {R:jh}{K:a_}{D:List (Int×Int)}(h:cx R K D){a:Int}(ha:K.nodes a=none):R.N.find? (ek a)=none:=by
 have h1:=h.rel.nodes a;rw [ha] at h1;unfold dw at h1;cases hf:R.N.find? (ek a) with
 | none=>rfl
 | some l=>
  rw [hf] at h1;simp only [Option.getD_none] at h1;have:(0:Int)<2 ^ (l.bits-2).toNat:=Int.pow_pos (by omega);omega
theorem cx.thrFree {R:jh}{K:a_}{D:List (Int×Int)}(h:cx R K D){a:Int}(ha:K.thr a=none):R.T.find? (ao a)=none:=by
 have h1:=h.rel.thr a;rw [ha] at h1;cases hf:R.T.find? (ao a) with
 | none=>rfl
 | some l=>rw [hf] at h1;cases h1
theorem tu {α:Type}{l:List α}{a:α}(h:l.Nodup)(ha:a∉l):(l++[a]).Nodup:=by
 rw [List.nodup_append];refine ⟨h,by simp,?_⟩;intro x hx y hy e;simp at hy;subst hy;subst e;exact ha hx
theorem cx.setMark {R:jh}{K:a_}{D:List (Int×Int)}(h:cx R K D){p:Nat}(hp:p<R.L.length){b n m m':Int}(hs:K.held R.L[p].slot=some (.untyped b n m))(hm:m<=m'\/bl K R.L[p].slot=false)(hm1:0<=m')(hm2:m'<=pw n.toNat):
 cx {R with L:=R.L.set p {R.L[p] with mark:=m'}} {K with held:=upd K.held R.L[p].slot (some (.untyped b n m'))} D:=by
 have hcap:=h.cap _ _ hs;simp only [KCap.base,KCap.bits,KCap.mark] at hcap;obtain ⟨F,hF⟩:=h.rel.tree;have hnd:=hF.nd;obtain ⟨ct,hct1,hct2⟩:=h.rel.cap _ (List.getElem_mem hp);rw [hs] at hct1;cases hct1
 have hkeys:(R.L.set p {R.L[p] with mark:=m'}).map bo.key=R.L.map bo.key:=by
  rw [List.map_set];apply List.ext_getElem
  ·simp
  ·intro j h1 h2;rw [List.getElem_set];split
   ·rename_i e;subst e;simp [bo.key,bo.slot]
   ·rfl
 have hmemset:∀e∈R.L.set p {R.L[p] with mark:=m'},(e={R.L[p] with mark:=m'})\/(e∈R.L/\e.slot≠R.L[p].slot):=by
  intro e he;obtain ⟨j,hj,rfl⟩:=List.getElem_of_mem he;have hj':j<R.L.length:=by simpa using hj
  rw [List.getElem_set];by_cases hpj:p=j
  ·rw [if_pos hpj];exact .inl rfl
  ·rw [if_neg hpj];refine .inr ⟨List.getElem_mem hj',fun e1=>hpj ?_⟩
   have e2:(R.L.map bo.slot)[j]'(by simpa using hj')=(R.L.map bo.slot)[p]'(by simpa using hp):=by simpa using e1
   exact ((List.getElem_inj hnd).1 e2).symm
 -- what a slot holds behind it,it held,but for the Mark
 have hold:∀s c',upd K.held R.L[p].slot (some (.untyped b n m')) s=some c'->(s=R.L[p].slot/\c'=.untyped b n m')\/(s≠R.L[p].slot/\K.held s=some c'):=by
  intro s c' h1;by_cases e:s=R.L[p].slot
  ·rw [e,ai] at h1;exact .inl ⟨e,(Option.some.inj h1).symm⟩
  ·rw [af _ _ e] at h1;exact .inr ⟨e,h1⟩
 have hsn:R.L[p].slot≠nowhere:=df (h.inN _ _ hs).1;have hfw:∀s c',K.held s=some c'->c'.isU=false->upd K.held R.L[p].slot (some (.untyped b n m')) s=some c':=by
  intro s c' h1 h2;have e:s≠R.L[p].slot:=fun e=>by rw [e,hs] at h1;cases h1;simp [KCap.isU] at h2
  rw [af _ _ e];exact h1
 have hbw:∀s c',upd K.held R.L[p].slot (some (.untyped b n m')) s=some c'->c'.isU=false->K.held s=some c':=by
  intro s c' h1 h2;rcases hold s c' h1 with ⟨_,rfl⟩ | ⟨_,h3⟩
  ·simp [KCap.isU] at h2
  ·exact h3
 refine ⟨⟨?_,?_,⟨F,⟨hF.nodup,hF.top,hkeys.trans hF.flat,hF.stands,hF.roots,hF.only⟩⟩,h.rel.nodes,h.rel.thr⟩,h.geo.mark hs (hm.imp id (fun hk=>h.noUp hsn hk)),?_,h.dm,h.dn,?_,?_,?_,?_,?_,?_,?_,h.nd,h.td,h.nb,h.tb,?_,?_⟩
 ·intro e he;rcases hmemset e he with rfl | ⟨h1,h2⟩
  ·refine ⟨.untyped b n m',ai _ _ _,?_⟩;simp only [KCap.told,bo.told,Prod.mk.injEq] at hct2 ⊢;obtain ⟨a1,a2,a3,a4,a5,a6⟩:=hct2;exact ⟨a1,a2,a3,a4,a5,trivial⟩
  ·obtain ⟨c',e1,e2⟩:=h.rel.cap e h1;exact ⟨c',(af _ _ h2).trans e1,e2⟩
 ·intro s hs';have h1:s≠R.L[p].slot:=fun e=>by
   refine hs' {R.L[p] with mark:=m'} ?_ e.symm;exact List.mem_set hp _
  show upd K.held R.L[p].slot _ s=none;rw [af _ _ h1];refine h.rel.emp s (fun e he e1=>?_);obtain ⟨j,hj,rfl⟩:=List.getElem_of_mem he;have hpj:p≠j:=fun e3=>by subst e3;exact h1 e1.symm
  refine hs' R.L[j] ?_ e1;have:(R.L.set p {R.L[p] with mark:=m'})[j]'(by simpa using hj)=R.L[j]:=by rw [List.getElem_set,if_neg hpj]
  rw [<- this];exact List.getElem_mem _
 ·intro s c' hs';rcases hold s c' hs' with ⟨e,_⟩ | ⟨_,h1⟩
  ·rw [e];exact h.inN _ _ hs
  ·exact h.inN s c' h1
 ·intro b y hy;obtain ⟨g1,g2,g3,s,n,r,g4⟩:=h.nod b y hy;exact ⟨g1,g2,g3,s,n,r,hfw _ _ g4 rfl⟩
 ·intro s c' hs';rcases hold s c' hs' with ⟨_,rfl⟩ | ⟨_,h1⟩
  ·simp only [KCap.base,KCap.bits,KCap.mark];exact ⟨hcap.1,hcap.2.1,hcap.2.2.1,hcap.2.2.2.1,hm1,hm2⟩
  ·exact h.cap s c' h1
 ·intro s b n r h1;exact h.hno s b n r (hbw _ _ h1 rfl)
 ·intro b y hy;obtain ⟨s,n,r,g4⟩:=h.thd b y hy;exact ⟨s,n,r,hfw _ _ g4 rfl⟩
 ·intro s b n r h1;exact h.hth s b n r (hbw _ _ h1 rfl)
 ·intro b y hy;obtain ⟨s,n,r,g,g4⟩:=h.que b y hy;exact ⟨s,n,r,g,hfw _ _ g4 rfl⟩
 ·intro s b n r g h1;exact h.hen s b n r g (hbw _ _ h1 rfl)
 ·intro s c' h1;rcases hold s c' h1 with ⟨_,rfl⟩ | ⟨_,h3⟩
  ·exact ⟨(by decide:(0:Int)<=7),(by decide:(7:Int)<=7)⟩
  ·exact h.rt s c' h3
 ·intro d hd s c' h1 hu;rcases hold s c' h1 with ⟨_,rfl⟩ | ⟨_,h3⟩
  ·cases hu
  ·exact h.dap d hd s c' h3 hu
theorem Up.addS {st:Slot->Option ly}{t p a b:Slot}(htp:t≠p)(ht:st t=none)(h:Up st a b):Up (addS st t p) a b:=by
 refine h.mono (fun s x _ hx=>?_);have hst:s≠t:=fun e=>by rw [e,ht] at hx;cases hx
 by_cases e:s=p
 ·subst e;refine ⟨_,by simp only [Proofs.YtdpjgflemddekaaDoor.addS];rw [ai],?_⟩;rw [af _ _ (Ne.symm htp),hx];rfl
 ·exact ⟨x,by rw [o5 e hst];exact hx,rfl⟩
theorem xf (K:a_)(t:Slot)(c:KCap)(p:Slot)(root:Int):(K.found t c p root).held=upd K.held t (some c):=by cases c<;>rfl
theorem bj2 (K:a_)(t:Slot)(c:KCap)(p:Slot)(root:Int):(K.found t c p root).st=addS K.st t p:=by cases c<;>rfl
theorem bl2 (ty a bits:Int):(gn ty a bits).base=a/\(gn ty a bits).bits=bits/\(gn ty a bits).mark=0:=by
 unfold gn;repeat' split
 all_goals exact ⟨rfl,rfl,rfl⟩
theorem cx.found {R:jh}{K:a_}(h:cx R K []){p:Nat}(hp:p<R.L.length)(n ix ty a bits root:Int)(hob:jf ty bits=true)(hx:K.held ⟨n,ix⟩=none)(hi:0<=ix/\ix<bz K n)
 {b nn m:Int} (hf:K.held R.L[p].slot=some (.untyped b nn m)) (h0:b<=a/\a+pw bits.toNat<=b+m) (hF:ag3 K R.L[p].slot a (pw bits.toNat)) (hal:ty=4->a % 16=0) :
 cx {L:=uf R.L p R.L[p].up ⟨n,ix,ty,a,bits,7,0,0,0⟩,N:=if ty=2 then R.N++[⟨a,bits⟩] else R.N,T:=if ty=4 then R.T++[⟨a,1,root,0,0,0⟩] else R.T}
  (K.found ⟨n,ix⟩ (gn ty a bits) R.L[p].slot root) []:=by
 have hpos:=gy bits.toNat;have hcf:=h.cap _ _ hf;simp only [KCap.base,KCap.bits,KCap.mark] at hcf;have hob':=hob;simp only [jf,Bool.and_eq_true,decide_eq_true_eq] at hob';obtain ⟨⟨t1,t2⟩,t3,t4⟩:=hob';have hty:ty=0\/ty=1\/ty=2\/ty=3\/ty=4\/ty=5:=by omega
 obtain ⟨z1,z2,z3⟩:=hF.node h hf (y:=a) (Int.le_refl _) (by omega);have ha:∀c:KCap,c.base=a->c.bits=bits->∀s e,s≠R.L[p].slot->K.held s=some e->ab1 c e\/jw c e\/(e.isU=true/\Up K.st s R.L[p].slot):=by
  intro c c1 c2 s e hs he;rcases hF s e hs he with g | g
  ·left;unfold ab1;rw [c1,c2];exact g.symm
  ·exact .inr (.inr g)
 have hcap:∀c:KCap,c.base=a->c.bits=bits->c.mark=0->0<=bits->bits<=10->0<=c.base/\0<=c.bits/\c.bits<=10/\c.base+pw c.bits.toNat<=1024/\0<=c.mark/\c.mark<=pw c.bits.toNat:=by
  intro c c1 c2 c3 g1 g2;rw [c1,c2,c3];omega
 have hw:∀c:KCap,c.base=a->c.bits=bits->Within (.untyped b nn m) c:=by
  intro c c1 c2;show _/\_;rw [c1,c2];exact h0
 rcases hty with rfl | rfl | rfl | rfl | rfl | rfl
 ·simp only [ns,qw] at t3 t4;omega
 ·simp only [ns,qw] at t3 t4;refine h.layG (N':=R.N) (T':=R.T) (nodes':=K.nodes) (thr':=K.thr) (qs':=K.qs) hp ⟨n,ix,1,a,bits,7,0,0,0⟩ (.untyped a bits 0) _ rfl hx hi (hcap _ rfl rfl rfl (by omega) (by omega)) hf (hw _ rfl rfl) (ha _ rfl rfl) (.inr rfl) ?_;exact ⟨h.rel.nodes,h.rel.thr,fun _ _=>id,fun _ _=>.inl,fun _ _=>id,fun _ _=>.inl,fun _ _=>id,fun _ _=>.inl,(fun _ _ _ e=>by cases e),(fun _ _ _ e=>by cases e),(fun _ _ _ _ e=>by cases e),(fun _ hd=>by cases hd),h.nd,h.td,h.nb,h.tb,⟨(by decide:(0:Int)<=7),(by decide:(7:Int)<=7)⟩,(fun _ hd=>by cases hd)⟩
 ·simp only [ns,qw] at t3 t4;obtain ⟨q1,q2⟩:=xw t3 t4;have hfi:=h.nodeFree z1;refine h.layG (N':=R.N++[⟨a,bits⟩]) (T':=R.T) (nodes':=upd K.nodes a (some (pw bits.toNat / 4))) (thr':=K.thr) (qs':=K.qs) hp ⟨n,ix,2,a,bits,7,0,0,0⟩ (.node a bits 7) _ rfl hx hi (hcap _ rfl rfl rfl (by omega) (by omega)) hf (hw _ rfl rfl) (ha _ rfl rfl) (.inr rfl) ?_;refine ⟨?_,h.rel.thr,?_,?_,fun _ _=>id,fun _ _=>.inl,fun _ _=>id,fun _ _=>.inl,?_,(fun _ _ _ e=>by cases e),(fun _ _ _ _ e=>by cases e),(fun _ hd=>by cases hd),?_,h.td,?_,h.tb,⟨(by decide:(0:Int)<=7),(by decide:(7:Int)<=7)⟩,(fun _ hd=>by cases hd)⟩
  ·intro b;unfold dw;rw [List.find?_append];by_cases e:b=a
   ·subst e;rw [ai,hfi];simp [ek,q1]
   ·rw [af _ _ e];have h1:=h.rel.nodes b;unfold dw at h1;rw [h1];have h2:List.find? (ek b) [(⟨a,bits⟩:ya)]=none:=by simp [ek,Ne.symm e]
    rw [h2,Option.or_none]
  ·intro b y hy;have e:b≠a:=fun e=>by rw [e,z1] at hy;cases hy
   rw [af _ _ e];exact hy
  ·intro b y hy;by_cases e:b=a
   ·subst e;rw [ai] at hy;cases hy
    exact .inr ⟨by omega,by omega,q2,bits,7,rfl⟩
   ·rw [af _ _ e] at hy;exact .inl hy
  ·intro b n r e;cases e;exact ⟨t3,t4,ai _ _ _⟩
  ·rw [List.map_append];refine tu h.nd ?_;intro e;obtain ⟨l,hl,e1⟩:=List.mem_map.1 e;rw [List.find?_eq_none] at hfi;exact hfi l hl (by simp [ek,e1])
  ·intro l hl;rcases List.mem_append.1 hl with h1 | h1
   ·exact h.nb l h1
   ·simp at h1;subst h1;dsimp only;exact ⟨by omega,by omega,by omega,t4⟩
 ·simp only [ns,qw] at t3 t4;refine h.layG (N':=R.N) (T':=R.T) (nodes':=K.nodes) (thr':=K.thr) (qs':=upd K.qs a (some ([],[]))) hp ⟨n,ix,3,a,bits,7,0,0,0⟩ (.endpoint a bits 7 0) _ rfl hx hi (hcap _ rfl rfl rfl (by omega) (by omega)) hf (hw _ rfl rfl) (ha _ rfl rfl) (.inr rfl) ?_;refine ⟨h.rel.nodes,h.rel.thr,fun _ _=>id,fun _ _=>.inl,fun _ _=>id,fun _ _=>.inl,?_,?_,(fun _ _ _ e=>by cases e),(fun _ _ _ e=>by cases e),?_,(fun _ hd=>by cases hd),h.nd,h.td,h.nb,h.tb,⟨(by decide:(0:Int)<=7),(by decide:(7:Int)<=7)⟩,(fun _ hd=>by cases hd)⟩
  ·intro b y hy;have e:b≠a:=fun e=>by rw [e,z3] at hy;cases hy
   rw [af _ _ e];exact hy
  ·intro b y hy;by_cases e:b=a
   ·subst e;exact .inr ⟨bits,7,0,rfl⟩
   ·rw [af _ _ e] at hy;exact .inl hy
  ·intro b n r g e;cases e;exact ⟨_,ai _ _ _⟩
 ·simp only [ns,qw] at t3 t4;have hfi:=h.thrFree z2;refine h.layG (N':=R.N) (T':=R.T++[⟨a,1,root,0,0,0⟩]) (nodes':=K.nodes) (thr':=upd K.thr a (some ⟨1,root,0,0,0⟩)) (qs':=K.qs) hp ⟨n,ix,4,a,bits,7,0,0,0⟩ (.task a bits 7) _ rfl hx hi (hcap _ rfl rfl rfl (by omega) (by omega)) hf (hw _ rfl rfl) (ha _ rfl rfl) (.inr rfl) ?_;refine ⟨h.rel.nodes,?_,fun _ _=>id,fun _ _=>.inl,?_,?_,fun _ _=>id,fun _ _=>.inl,(fun _ _ _ e=>by cases e),?_,(fun _ _ _ _ e=>by cases e),(fun _ hd=>by cases hd),h.nd,?_,h.nb,?_,⟨(by decide:(0:Int)<=7),(by decide:(7:Int)<=7)⟩,(fun _ hd=>by cases hd)⟩
  ·intro b;rw [List.find?_append];by_cases e:b=a
   ·subst e;rw [ai,hfi];simp [ao,gh.thd]
   ·rw [af _ _ e];have h1:=h.rel.thr b;have h2:List.find? (ao b) [(⟨a,1,root,0,0,0⟩:gh)]=none:=by simp [ao,Ne.symm e]
    rw [h2,Option.or_none,h1]
  ·intro b y hy;have e:b≠a:=fun e=>by rw [e,z2] at hy;cases hy
   rw [af _ _ e];exact hy
  ·intro b y hy;by_cases e:b=a
   ·subst e;exact .inr ⟨bits,7,rfl⟩
   ·rw [af _ _ e] at hy;exact .inl hy
  ·intro b n r e;cases e;exact ⟨_,ai _ _ _⟩
  ·rw [List.map_append];refine tu h.td ?_;intro e;obtain ⟨l,hl,e1⟩:=List.mem_map.1 e;rw [List.find?_eq_none] at hfi;exact hfi l hl (by simp [ao,e1])
  ·intro l hl;rcases List.mem_append.1 hl with h1 | h1
   ·exact h.tb l h1
   ·simp at h1;subst h1;dsimp only;exact ⟨by omega,by omega,hal rfl⟩
 ·simp only [ns,qw] at t3 t4;refine h.layG (N':=R.N) (T':=R.T) (nodes':=K.nodes) (thr':=K.thr) (qs':=K.qs) hp ⟨n,ix,5,a,bits,7,0,0,0⟩ (.frame a bits 7) _ rfl hx hi (hcap _ rfl rfl rfl (by omega) (by omega)) hf (hw _ rfl rfl) (ha _ rfl rfl) (.inr rfl) ?_;exact ⟨h.rel.nodes,h.rel.thr,fun _ _=>id,fun _ _=>.inl,fun _ _=>id,fun _ _=>.inl,fun _ _=>id,fun _ _=>.inl,(fun _ _ _ e=>by cases e),(fun _ _ _ e=>by cases e),(fun _ _ _ _ e=>by cases e),(fun _ hd=>by cases hd),h.nd,h.td,h.nb,h.tb,⟨(by decide:(0:Int)<=7),(by decide:(7:Int)<=7)⟩,(fun _ hd=>by cases hd)⟩
theorem ag3.found {K:a_}{f:Slot}{a z a0:Int}(h:ag3 K f a z)(t:Slot)(ty bits root:Int)(htf:t≠f)(ht:K.st t=none)(hd:a0+pw bits.toNat<=a):ag3 (K.found t (gn ty a0 bits) f root) f a z:=by
 intro s e hs he;rw [xf] at he;rw [bj2];by_cases e1:s=t
 ·rw [e1,ai] at he;cases he
  obtain ⟨m1,m2,_⟩:=bl2 ty a0 bits;rw [m1,m2];left;left;exact hd
 ·rw [af _ _ e1] at he;exact (h s e hs he).imp id (fun g=>⟨g.1,g.2.addS htf ht⟩)
theorem a15 (K:a_)(t:Slot)(ty a bits:Int)(p:Slot)(root b:Int)(h:K.nodes a=none):bz K b<=0\/bz (K.found t (gn ty a bits) p root) b=bz K b:=by
 unfold gn;split
 ·exact .inr rfl
 ·split
  ·by_cases e:b=a
   ·left;unfold bz;rw [e,h];simp
   ·right;show (upd K.nodes a _ b).getD 0=_;rw [af _ _ e];rfl
  ·split
   ·exact .inr rfl
   ·split<;>exact .inr rfl
structure uw (K K':a_):Prop where
 thr:∀b t,K.thr b=some t->K'.thr b=some t
 qs:∀b y,K.qs b=some y->K'.qs b=some y
 new:∀b y,K'.qs b=some y->K.qs b=some y\/(K.qs b=none/\y=([],[]))
theorem uw.refl (K:a_):uw K K:=⟨fun _ _=>id,fun _ _=>id,fun _ _=>.inl⟩
theorem uw.trans {K K1 K2:a_}(h:uw K K1)(g:uw K1 K2):uw K K2:=
 ⟨fun b t e=>g.thr b t (h.thr b t e),fun b y e=>g.qs b y (h.qs b y e),fun b y e=>by
  rcases g.new b y e with e1 | ⟨e1,e2⟩
  ·exact h.new b y e1
  ·cases hk:K.qs b with
   | none=>exact .inr ⟨rfl,e2⟩
   | some z=>rw [h.qs b z hk] at e1;cases e1⟩
theorem a89 (K:a_)(t:Slot)(ty a bits:Int)(p:Slot)(root:Int)(ht:K.thr a=none)(hq:K.qs a=none):uw K (K.found t (gn ty a bits) p root):=by
 unfold gn;split
 ·exact ⟨fun _ _=>id,fun _ _=>id,fun _ _=>.inl⟩
 ·split
  ·exact ⟨fun _ _=>id,fun _ _=>id,fun _ _=>.inl⟩
  ·split
   ·refine ⟨fun _ _=>id,fun b y e=>?_,fun b y e=>?_⟩
    ·show upd K.qs a (some ([],[])) b=some y;rw [af _ _ (fun e1=>by rw [e1,hq] at e;cases e)];exact e
    ·have e':upd K.qs a (some ([],[])) b=some y:=e;by_cases e1:b=a
     ·rw [e1,ai] at e';cases e';exact .inr ⟨by rw [e1];exact hq,rfl⟩
     ·rw [af _ _ e1] at e';exact .inl e'
   ·split
    ·refine ⟨fun b y e=>?_,fun _ _=>id,fun _ _=>.inl⟩
     show upd K.thr a _ b=some y;rw [af _ _ (fun e1=>by rw [e1,ht] at e;cases e)];exact e
    ·exact ⟨fun _ _=>id,fun _ _=>id,fun _ _=>.inl⟩
theorem at3 {ty bits s:Int}(hob:jf ty bits=true)(e:ty=4)(hs:s % 16=0)(i:Nat):(s+i*pw bits.toNat) % 16=0:=by
 simp only [jf,Bool.and_eq_true,decide_eq_true_eq] at hob;subst e;simp only [ns,qw] at hob;have:bits=4:=by omega
 subst this;have:pw (4:Int).toNat=16:=by decide
 rw [this];omega
theorem cx.carve {R:jh}{K:a_}(h:cx R K []){p:Nat}(hp:p<R.L.length)(c:Cl)(n ix s root:Int)(cnt:Nat)(hob:jf c.ty c.bits=true)
 (hx:∀i:Nat,i<cnt->K.held ⟨n,ix+i⟩=none) (hi:0<=ix/\ix+cnt<=bz K n) {b nn m:Int} (hf:K.held R.L[p].slot=some (.untyped b nn m)) (h0:b<=s/\s+cnt*pw c.bits.toNat<=b+m) (hF:ag3 K R.L[p].slot s (cnt*pw c.bits.toNat)) (hal:c.ty=4->s % 16=0) :
 ∀i:Nat,i<=cnt->∃e,(xc R root p R.L[p].up n ix c s i).L[p]?=some e/\e=R.L[p]/\cx (xc R root p R.L[p].up n ix c s i) (cf K R.L[p].slot ⟨n,ix⟩ c.ty c.bits root s i) []/\
  ag3 (cf K R.L[p].slot ⟨n,ix⟩ c.ty c.bits root s i) R.L[p].slot (s+i*pw c.bits.toNat) ((cnt-i:Nat)*pw c.bits.toNat)/\
  (∀j:Nat,i<=j->j<cnt->(cf K R.L[p].slot ⟨n,ix⟩ c.ty c.bits root s i).held ⟨n,ix+j⟩=none)/\ix+cnt<=bz (cf K R.L[p].slot ⟨n,ix⟩ c.ty c.bits root s i) n/\
  (cf K R.L[p].slot ⟨n,ix⟩ c.ty c.bits root s i).held R.L[p].slot=some (.untyped b nn m)/\
  uw K (cf K R.L[p].slot ⟨n,ix⟩ c.ty c.bits root s i)
 | 0,_=>by
  refine ⟨R.L[p],by simp [xc,hp],rfl,h,?_,fun j _ hj=>hx j hj,hi.2,hf,uw.refl K⟩
  simpa [cf] using hF
 | i+1,hle=>by
  obtain ⟨e,e1,e2,e3,e4,e5,e6,e7,e8⟩:=cx.carve h hp c n ix s root cnt hob hx hi hf h0 hF hal i (by omega);subst e2;have hpos:=gy c.bits.toNat;have hpL:p<(xc R root p R.L[p].up n ix c s i).L.length:=by
   rw [List.getElem?_eq_some_iff] at e1;exact e1.1
  have hget:(xc R root p R.L[p].up n ix c s i).L[p]=R.L[p]:=by
   rw [List.getElem?_eq_some_iff] at e1;exact e1.2
  have hz:((cnt-i:Nat):Int)*pw c.bits.toNat=pw c.bits.toNat+((cnt-(i+1):Nat):Int)*pw c.bits.toNat:=by
   have:cnt-i=(cnt-(i+1))+1:=by omega
   rw [this];push_cast;rw [Int.add_mul];omega
  have hnn:0<=((cnt-(i+1):Nat):Int)*pw c.bits.toNat:=Int.mul_nonneg (by omega) (by omega);have hin:0<=(i:Int)*pw c.bits.toNat:=Int.mul_nonneg (by omega) (by omega);have htot:(i:Int)*pw c.bits.toNat+((cnt-i:Nat):Int)*pw c.bits.toNat=cnt*pw c.bits.toNat:=by
   rw [<- Int.add_mul];congr 1;omega
  have hFi:ag3 (cf K R.L[p].slot ⟨n,ix⟩ c.ty c.bits root s i) R.L[p].slot (s+i*pw c.bits.toNat) (pw c.bits.toNat):=
   fun t e ht he=>(e4 t e ht he).imp (fun g=>g.imp id (fun g=>by omega)) id
  have hxi:=e5 i (Nat.le_refl _) (by omega);have hne:(⟨n,ix+i⟩:Slot)≠R.L[p].slot:=fun e=>by rw [e,e7] at hxi;cases hxi
  have hC:=e3.found hpL n (ix+i) c.ty (s+i*pw c.bits.toNat) c.bits root hob hxi ⟨by omega,by omega⟩ (by rw [hget];exact e7) ⟨by omega,by omega⟩ (by rw [hget];exact hFi) (fun e=>at3 hob e (hal e) i)
  rw [hget] at hC;have hsucc:s+((i+1:Nat):Int)*pw c.bits.toNat=s+i*pw c.bits.toNat+pw c.bits.toNat:=by push_cast;rw [Int.add_mul];omega
  obtain ⟨hno,hno2,hno3⟩:=hFi.node e3 e7 (y:=s+i*pw c.bits.toNat) (Int.le_refl _) (by omega);refine ⟨R.L[p],?_,rfl,hC,?_,?_,?_,?_,e8.trans (a89 _ _ _ _ _ _ _ hno2 hno3)⟩
  ·simp only [xc];rw [bo7 _ _ _ _ hpL,hget]
  ·rw [hsucc];refine ag3.found (a0:=s+i*pw c.bits.toNat) ?_ _ _ _ _ hne (e3.rel.treeOk.empty _ hxi (by show 0<=ix+i;omega)) (Int.le_refl _);exact fun t e ht he=>(e4 t e ht he).imp (fun g=>g.imp (fun g=>by omega) (fun g=>by omega)) id
  ·intro j h1 h2;simp only [cf];rw [xf,af _ _ (fun e=>by simp only [Slot.mk.injEq] at e;omega)];exact e5 j (by omega) h2
  ·simp only [cf];rcases a15 (cf K R.L[p].slot ⟨n,ix⟩ c.ty c.bits root s i) ⟨n,ix+i⟩ c.ty (s+i*pw c.bits.toNat) c.bits R.L[p].slot root n hno with h1 | h1
   ·omega
   ·rw [h1];exact e6
  ·simp only [cf];rw [xf,af _ _ (Ne.symm hne)];exact e7
theorem as1 (K:a_)(f:Slot)(n ix ty bits root s:Int)(u:KCap):∀i:Nat,(∀j:Nat,j<i->f≠⟨n,ix+j⟩)->
 cf {K with held:=upd K.held f (some u)} f ⟨n,ix⟩ ty bits root s i={cf K f ⟨n,ix⟩ ty bits root s i with held:=upd (cf K f ⟨n,ix⟩ ty bits root s i).held f (some u)}
 | 0,_=>rfl
 | i+1,h=>by
  have ih:=as1 K f n ix ty bits root s u i (fun j hj=>h j (by omega))
  simp only [cf];rw [ih];have hne:f≠⟨n,ix+i⟩:=h i (by omega);have hc:∀(H:Slot->Option KCap) (c:KCap),upd (upd H f (some u)) ⟨n,ix+i⟩ (some c)=upd (upd H ⟨n,ix+i⟩ (some c)) f (some u):=by
   intro H c;funext t;by_cases e1:t=⟨n,ix+i⟩
   ·rw [e1,ai,af _ _ (Ne.symm hne),ai]
   ·rw [af _ _ e1];by_cases e2:t=f
    ·rw [e2,ai,ai]
    ·rw [af _ _ e2,af _ _ e2,af _ _ e1]
  generalize gn ty (s+i*pw bits.toNat) bits=c;cases c<;>simp only [a_.found,a_.lay,hc]
structure Wt where
 endp:Int
 thread:Int
 send:Bool
 value:Int
 badge:Int
def Wt.w (x:Wt):dx:=⟨x.thread,x.value,x.badge⟩
def eu (s:Bool)(b:Int)(q:List Wt):List dx:=(q.filter (fun w=>w.endp==b && w.send==s)).map Wt.w
structure w_ (q:List Wt)(K:a_):Prop where
 qs:∀b y,K.qs b=some y->y=(eu true b q,eu false b q)
 en:∀w∈q,∃y,K.qs w.endp=some y
 th:∀w∈q,∃t,K.thr w.thread=some t/\t.state≠1
 nd:(q.map Wt.thread).Nodup
theorem as4 {q:List Wt}{b:Int}(h:∀w∈q,w.endp≠b)(s:Bool):eu s b q=[]:=by
 unfold eu;rw [List.filter_eq_nil_iff.2 (fun w hw e=>by simp only [Bool.and_eq_true,beq_iff_eq] at e;exact h w hw e.1)];rfl
theorem w_.more {q:List Wt}{K K':a_}(h:w_ q K)(g:uw K K'):w_ q K':=by
 refine ⟨fun b y e=>?_,fun w hw=>?_,fun w hw=>?_,h.nd⟩
 ·rcases g.new b y e with e1 | ⟨e1,e2⟩
  ·exact h.qs b y e1
  ·have:∀w∈q,w.endp≠b:=fun w hw e3=>by obtain ⟨z,hz⟩:=h.en w hw;rw [e3,e1] at hz;cases hz
   rw [e2,as4 this,as4 this]
 ·obtain ⟨y,hy⟩:=h.en w hw;exact ⟨y,g.qs _ _ hy⟩
 ·obtain ⟨t,ht,hs⟩:=h.th w hw;exact ⟨t,g.thr _ _ ht,hs⟩
theorem w_.same {q:List Wt}{K K':a_}(h:w_ q K)(hq:K'.qs=K.qs)(ht:∀b t,K.thr b=some t->t.state≠1->∃t',K'.thr b=some t'/\t'.state≠1):w_ q K':=
 ⟨by rw [hq];exact h.qs,by rw [hq];exact h.en,fun w hw=>by obtain ⟨t,e1,e2⟩:=h.th w hw;exact ht _ _ e1 e2,h.nd⟩
def o_ (b:Int)(q:List Wt):List Wt:=q.filter (fun w=>w.thread≠b)
theorem yz (s:Bool)(e b:Int)(q:List Wt):eu s e (o_ b q)=(eu s e q).filter (fun w=>w.thread≠b):=by
 unfold eu o_;rw [List.filter_filter,List.filter_map,List.filter_filter];congr 1;apply List.filter_congr;intro w _;simp only [Function.comp,Wt.w,Bool.and_comm];rfl
theorem an6 {b:Int}{q:List Wt}(h:(q.map Wt.thread).Nodup):((o_ b q).map Wt.thread).Nodup:=(List.filter_sublist.map _).nodup h
theorem w_.ended {q:List Wt}{K:a_}(h:w_ q K)(b:Int){K':a_}(hq:K'.qs=fun e=>(K.qs e).map (fun y=>(y.1.filter (fun w=>w.thread≠b),y.2.filter (fun w=>w.thread≠b))))(ht:∀x,x≠b->K'.thr x=K.thr x):
 w_ (o_ b q) K':=by
 refine ⟨fun e y hy=>?_,fun w hw=>?_,fun w hw=>?_,an6 h.nd⟩
 ·rw [hq] at hy;cases hk:K.qs e with
  | none=>simp [hk] at hy
  | some z=>
   simp only [hk,Option.map_some,Option.some.injEq] at hy;rw [<- hy,h.qs e z hk,yz,yz]
 ·obtain ⟨y,hy⟩:=h.en w (List.mem_filter.1 hw).1;exact ⟨_,by rw [hq];simp only [hy,Option.map_some];rfl⟩
 ·obtain ⟨h1,h2⟩:=List.mem_filter.1 hw;obtain ⟨t,e1,e2⟩:=h.th w h1;exact ⟨t,by rw [ht _ (by simpa using h2)];exact e1,e2⟩
def setT (x:Int)(f:gh->gh):List gh->List gh
 | []=>[]
 | t :: T=>if ao x t then f t :: T else t :: setT x f T
theorem vy (x:Int)(f:gh->gh)(hf:∀t,(f t).base=t.base):∀T:List gh,(setT x f T).map gh.base=T.map gh.base
 | []=>rfl
 | t :: T=>by
  unfold setT;split
  ·simp [hf]
  ·simp [vy x f hf T]
theorem ad0 (x:Int)(f:gh->gh)(hf:∀t,(f t).base=t.base)(y:Int):∀T:List gh,(setT x f T).find? (ao y)=if y=x then (T.find? (ao x)).map f else T.find? (ao y)
 | []=>by simp [setT]
 | t :: T=>by
  have e1:∀z,ao z (f t)=ao z t:=fun z=>by unfold ao;rw [hf]
  unfold setT;by_cases h:ao x t=true
  ·rw [if_pos h];by_cases e:y=x
   ·subst e;rw [if_pos rfl,List.find?_cons_of_pos (by rw [e1];exact h),List.find?_cons_of_pos h];rfl
   ·have h2:¬ao y t=true:=fun h3=>e (by simp only [ao,beq_iff_eq] at h h3;rw [<- h3,h])
    rw [if_neg e,List.find?_cons_of_neg (by rw [e1];exact h2),List.find?_cons_of_neg h2]
  ·rw [if_neg h];by_cases h2:ao y t=true
   ·have e:y≠x:=fun e=>h (by rw [<- e];exact h2)
    rw [List.find?_cons_of_pos h2,if_neg e,List.find?_cons_of_pos h2]
   ·rw [List.find?_cons_of_neg h2,ad0 x f hf y T,List.find?_cons_of_neg h,List.find?_cons_of_neg h2]
def az_ (t:gh):gh:={t with state:=1,value:=0,badge:=0,err:=9}
def lh (b:Int)(x:List gh×List Wt)(w:Wt):List gh×List Wt:=if w.endp=b then (setT w.thread az_ x.1,o_ w.thread x.2) else x
theorem ad2 (b:Int):∀(l:List Wt) (x:List gh×List Wt),(l.foldl (lh b) x).1.map gh.base=x.1.map gh.base
 | [],_=>rfl
 | w :: l,x=>by
  rw [List.foldl_cons,ad2 b l];unfold lh;split
  ·exact vy w.thread az_ (fun _=>rfl) _
  ·rfl
def ko (b:Int)(l:List Wt)(x:Int):Prop:=∃w∈l,w.endp=b/\w.thread=x
open Classical in
theorem aq1 (b y:Int):∀(l:List Wt) (x:List gh×List Wt),(l.foldl (lh b) x).1.find? (ao y)=if ko b l y then (x.1.find? (ao y)).map az_ else x.1.find? (ao y)
 | [],x=>by rw [if_neg (by rintro ⟨w,hw,_⟩;cases hw)];rfl
 | w :: l,x=>by
  rw [List.foldl_cons,aq1 b y l];have hcons:ko b (w :: l) y ↔ (w.endp=b/\w.thread=y)\/ko b l y:=by
   unfold ko;simp only [List.mem_cons,exists_eq_or_imp]
  unfold lh;by_cases e:w.endp=b
  ·rw [if_pos e];simp only;rw [ad0 w.thread az_ (fun _=>rfl)];by_cases e2:y=w.thread
   ·subst e2;rw [if_pos rfl,if_pos (hcons.2 (.inl ⟨e,rfl⟩))];split
    ·cases x.1.find? (ao w.thread)<;>rfl
    ·rfl
   ·rw [if_neg e2];by_cases e3:ko b l y
    ·rw [if_pos e3,if_pos (hcons.2 (.inr e3))]
    ·rw [if_neg e3,if_neg (fun h=>by rcases hcons.1 h with ⟨_,h1⟩ | h1;exact e2 h1.symm;exact e3 h1)]
  ·rw [if_neg e];by_cases e3:ko b l y
   ·rw [if_pos e3,if_pos (hcons.2 (.inr e3))]
   ·rw [if_neg e3,if_neg (fun h=>by rcases hcons.1 h with ⟨h1,_⟩ | h1;exact e h1;exact e3 h1)]
theorem a08 (b:Int)(v:Wt):∀(l:List Wt) (x:List gh×List Wt),v∈(l.foldl (lh b) x).2 ↔ v∈x.2/\¬ko b l v.thread
 | [],x=>by simp [ko]
 | w :: l,x=>by
  have hcons:ko b (w :: l) v.thread ↔ (w.endp=b/\w.thread=v.thread)\/ko b l v.thread:=by
   unfold ko;simp only [List.mem_cons,exists_eq_or_imp]
  rw [List.foldl_cons,a08 b v l,hcons];unfold lh;by_cases e:w.endp=b
  ·rw [if_pos e];simp only [o_,List.mem_filter,decide_eq_true_eq];constructor
   ·rintro ⟨⟨h1,h2⟩,h3⟩;exact ⟨h1,by rintro (⟨_,h4⟩ | h4);exact h2 h4.symm;exact h3 h4⟩
   ·rintro ⟨h1,h2⟩;exact ⟨⟨h1,fun h3=>h2 (.inl ⟨e,h3.symm⟩)⟩,fun h3=>h2 (.inr h3)⟩
  ·rw [if_neg e];constructor
   ·rintro ⟨h1,h2⟩;exact ⟨h1,by rintro (⟨h4,_⟩ | h4);exact e h4;exact h2 h4⟩
   ·rintro ⟨h1,h2⟩;exact ⟨h1,fun h3=>h2 (.inr h3)⟩
theorem ae5 (b:Int):∀(l:List Wt) (x:List gh×List Wt),∃p:Wt->Bool,(l.foldl (lh b) x).2=x.2.filter p
 | [],x=>⟨fun _=>true,by rw [List.foldl_nil,List.filter_eq_self.2 (fun _ _=>rfl)]⟩
 | w :: l,x=>by
  obtain ⟨p,hp⟩:=ae5 b l (lh b x w);rw [List.foldl_cons,hp];unfold lh;split
  ·refine ⟨fun a=>p a && decide (a.thread≠w.thread),?_⟩
   simp only [o_];rw [List.filter_filter]
  ·exact ⟨p,rfl⟩
theorem ax0 {α:Type}{p r:α->Bool}{l:List α}(h:∀v,v∈l.filter p ↔ v∈l/\r v=true):l.filter p=l.filter r:=by
 apply List.filter_congr;intro v hv;have:=h v;simp only [List.mem_filter,hv,true_and] at this;cases h1:p v<;>cases h2:r v<;>simp [h1,h2] at this<;>rfl
theorem qu:∀{q:List Wt},(q.map Wt.thread).Nodup->∀{v w:Wt},v∈q->w∈q->v.thread=w.thread->v=w
 | [],_,_,_,hv,_,_=>by cases hv
 | a :: q,h,v,w,hv,hw,e=>by
  rw [List.map_cons,List.nodup_cons] at h;rcases List.mem_cons.1 hv with rfl | hv'
  ·rcases List.mem_cons.1 hw with rfl | hw'
   ·rfl
   ·exact absurd (List.mem_map.2 ⟨w,hw',e.symm⟩) h.1
  ·rcases List.mem_cons.1 hw with rfl | hw'
   ·exact absurd (List.mem_map.2 ⟨v,hv',e⟩) h.1
   ·exact qu h.2 hv' hw' e
theorem bm8 {b:Int}{q:List Wt}(h:(q.map Wt.thread).Nodup)(T:List gh):(q.foldl (lh b) (T,q)).2=q.filter (fun w=>w.endp≠b):=by
 obtain ⟨p,hp⟩:=ae5 b q (T,q);rw [hp];apply ax0;intro v;have h1:=a08 b v q (T,q);rw [hp] at h1;rw [h1];constructor
 ·rintro ⟨h2,h3⟩;exact ⟨h2,by simp only [ne_eq,decide_not,Bool.not_eq_true',decide_eq_false_iff_not];exact fun e=>h3 ⟨v,h2,e,rfl⟩⟩
 ·rintro ⟨h2,h3⟩;refine ⟨h2,?_⟩;rintro ⟨w,hw,e1,e2⟩;have:=qu h hw h2 e2;subst this;simp [e1] at h3
theorem cx.fewT {R:jh}{K:a_}{D:List (Int×Int)}(h:cx R K D){l:List Int}(hn:l.Nodup)(hl:∀x∈l,∃t,K.thr x=some t):l.length<=64:=by
 have hx:∀x∈l,0<=x/\x<1024/\x % 16=0:=fun x hx=>by
  obtain ⟨t,ht⟩:=hl x hx;rw [h.rel.thr x] at ht;cases hf:R.T.find? (ao x) with
  | none=>rw [hf] at ht;cases ht
  | some y=>
   have h1:=h.tb y (List.mem_of_find?_eq_some hf);have h2:=List.find?_some hf;simp only [ao,beq_iff_eq] at h2;rw [h2] at h1;exact h1
 have:=ak6 64 (l.map (fun x=>(x / 16).toNat)) ?_ ?_
 ·simpa using this
 ·rw [List.nodup_iff_pairwise_ne,List.pairwise_map];refine List.Pairwise.imp_of_mem ?_ (List.nodup_iff_pairwise_ne.1 hn);intro a b ha hb hab e;have:=hx a ha;have:=hx b hb;apply hab;omega
 ·intro y hy;obtain ⟨x,h1,rfl⟩:=List.mem_map.1 hy;have:=hx x h1;omega
theorem zn (s:Bool)(b:Int)(q:List Wt):(eu s b q).length<=q.length:=by
 unfold eu;rw [List.length_map];exact List.length_filter_le _ _
theorem w_.few {R:jh}{K:a_}{D:List (Int×Int)}{q:List Wt}(h:w_ q K)(hC:cx R K D):q.length<=64:=by
 have:=hC.fewT h.nd (fun x hx=>by
  obtain ⟨w,hw,rfl⟩:=List.mem_map.1 hx;obtain ⟨t,ht,_⟩:=h.th w hw;exact ⟨t,ht⟩)
 simpa using this
theorem w_.room {R:jh}{K:a_}{D:List (Int×Int)}{q:List Wt}(h:w_ q K)(hC:cx R K D){x:Int}{t:mg}(ht:K.thr x=some t)(hs:t.state=1):x∉q.map Wt.thread/\q.length<64:=by
 have hx:x∉q.map Wt.thread:=fun e=>by
  obtain ⟨w,hw,e1⟩:=List.mem_map.1 e;obtain ⟨t',h1,h2⟩:=h.th w hw;rw [e1,ht] at h1;cases h1;exact h2 hs
 refine ⟨hx,?_⟩;have:=hC.fewT (l:=x :: q.map Wt.thread) (List.nodup_cons.2 ⟨hx,h.nd⟩) (fun y hy=>by
  rcases List.mem_cons.1 hy with rfl | hy
  ·exact ⟨t,ht⟩
  ·obtain ⟨w,hw,rfl⟩:=List.mem_map.1 hy;obtain ⟨t',h1,_⟩:=h.th w hw;exact ⟨t',h1⟩)
 simp at this;omega
def setThr (K:a_)(b:Int)(t:mg):a_:={K with thr:=upd K.thr b (some t)}
def h_ (K:a_)(b:Int):mg:=(K.thr b).getD ⟨0,0,0,0,0⟩
structure RS where
 R:jh
 D:List (Int×Int)
 ws:Nat->Int
 q:List Wt
def ar5 (ty b:Int)(e:bo):Bool:=e.ty==ty && e.base==b
def ma (b:Int)(t:gh):gh:=if t.root=b then {t with root:=-1} else t
def ae8 (S:RS)(ty b bits:Int):RS:=
 if ty=2 then {S with R:={S.R with N:=S.R.N.filter (fun l=>!ek b l),T:=S.R.T.map (ma b)},D:=S.D++[(b,pw (bits-2).toNat)]}
 else if ty=3 then {S with R:={S.R with T:=(S.q.foldl (lh b) (S.R.T,S.q)).1},q:=(S.q.foldl (lh b) (S.R.T,S.q)).2}
 else if ty=4 then {S with R:={S.R with T:=S.R.T.filter (fun t=>!ao b t)},q:=o_ b S.q}
 else S
def jg (S:RS)(i:Nat)(e:bo):RS:=
 if (nw S.R.L i e.up).any (ar5 e.ty e.base) then {S with R:={S.R with L:=nw S.R.L i e.up}}
 else ae8 {S with R:={S.R with L:=nw S.R.L i e.up}} e.ty e.base e.bits
def sr (S:RS)(n i:Int):RS:=
 match S.R.L.findIdx? (fh n i) with
 | none=>S
 | some p=>match S.R.L[p]? with
  | none=>S
  | some e=>jg S p e
def em (S:RS):RS:=
 match S.D.getLast? with
 | none=>S
 | some (nd,left)=>if left=0 then {S with D:=S.D.dropLast} else sr {S with D:=S.D.dropLast++[(nd,left-1)]} nd (left-1)
def ak {σ:Type}(step:σ->σ)(done:σ->Bool):Nat->σ->List Bool->σ×List Bool×Bool
 | 0,S,bs=>(S,bs,true)
 | n+1,S,bs=>if done S then (S,bs,true) else
  match bs with
  | []=>ak step done n (step S) []
  | b :: r=>if b then (step S,r,false) else ak step done n (step S) r
def qi {σ:Type}(step:σ->σ)(done:σ->Bool):Nat->σ->Prop
 | 0,S=>done S=true
 | n+1,S=>done S=true\/qi step done n (step S)
def eh (S:RS):Bool:=S.D.isEmpty
structure KS where
 K:a_
 D:List (Int×Int)
def bf (S:KS):Bool:=S.D.isEmpty
def pp (K:a_)(ty b:Int):Prop:=∃s c,K.held s=some c/\c.ty=ty/\c.base=b
def noRoot (b:Int)(t:mg):mg:=if t.root=b then {t with root:=-1} else t
def ux (T:Int->Option mg)(w:dx):Int->Option mg:=upd T w.thread (some ⟨1,((T w.thread).getD ⟨0,0,0,0,0⟩).root,0,0,9⟩)
def ai0 (b:Int)(q:List dx×List dx):List dx×List dx:=(q.1.filter (fun w=>w.thread≠b),q.2.filter (fun w=>w.thread≠b))
def ah6 (K:a_)(b:Int):a_:={K with nodes:=upd K.nodes b none,thr:=fun t=>(K.thr t).map (noRoot b)}
def bd6 (K:a_)(b:Int):a_:={K with thr:=upd K.thr b none,qs:=fun e=>(K.qs e).map (ai0 b)}
def im (K:a_)(b:Int):a_:={K with qs:=upd K.qs b none,thr:=(((K.qs b).getD ([],[])).1++((K.qs b).getD ([],[])).2).foldl ux K.thr}
def ah8 (S:KS)(c:KCap):KS:=
 match c with
 | .node b _ _=>⟨ah6 S.K b,S.D++[(b,bz S.K b)]⟩
 | .task b _ _=>⟨bd6 S.K b,S.D⟩
 | .endpoint b _ _ _=>⟨im S.K b,S.D⟩
 | _=>S
def jq (K:a_)(s:Slot):a_:={K with held:=upd K.held s none,st:=ez K.st s}
open Classical in
noncomputable def d_ (S:KS)(s:Slot):KS:=
 match S.K.held s with
 | none=>S
 | some c=>if pp (jq S.K s) c.ty c.base then ⟨jq S.K s,S.D⟩ else ah8 ⟨jq S.K s,S.D⟩ c
theorem jn {S:KS}{s:Slot}{c:KCap}(hc:S.K.held s=some c)(hh:pp (jq S.K s) c.ty c.base):d_ S s=⟨jq S.K s,S.D⟩:=by
 unfold d_;rw [hc];simp only;rw [if_pos hh]
theorem fo {S:KS}{s:Slot}{c:KCap}(hc:S.K.held s=some c)(hh:¬pp (jq S.K s) c.ty c.base):d_ S s=ah8 ⟨jq S.K s,S.D⟩ c:=by
 unfold d_;rw [hc];simp only;rw [if_neg hh]
theorem kw {S:KS}{s:Slot}(hc:S.K.held s=none):d_ S s=S:=by
 unfold d_;rw [hc]
noncomputable def az (S:KS):KS:=
 match S.D.getLast? with
 | none=>S
 | some (nd,left)=>if left=0 then {S with D:=S.D.dropLast} else d_ {S with D:=S.D.dropLast++[(nd,left-1)]} ⟨nd,left-1⟩
structure Ag (S:RS)(S':KS):Prop where
 core:cx S.R S'.K S.D
 d:S'.D=S.D
 ws:∀i,i<1024->S.ws i=S'.K.ws i
 q:w_ S.q S'.K
theorem a51 {N:List ya}{b x:Int}(h:x≠b):(N.filter (fun l=>!ek b l)).find? (ek x)=N.find? (ek x):=by
 induction N with
 | nil=>rfl
 | cons l N ih=>
  by_cases h1:ek b l=true
  ·have h2:ek x l=false:=by
    simp only [ek,beq_iff_eq] at h1;simp only [ek,h1,beq_eq_false_iff_ne];exact Ne.symm h
   rw [List.filter_cons_of_neg (by simp [h1]),ih,List.find?_cons_of_neg (by simp [h2])]
  ·rw [List.filter_cons_of_pos (by simpa using h1)];by_cases h2:ek x l=true
   ·rw [List.find?_cons_of_pos h2,List.find?_cons_of_pos h2]
   ·rw [List.find?_cons_of_neg h2,List.find?_cons_of_neg h2,ih]
theorem ac5 {N:List ya}{b:Int}:(N.filter (fun l=>!ek b l)).find? (ek b)=none:=by
 rw [List.find?_eq_none];intro x hx h;have:=(List.mem_filter.1 hx).2;simp [h] at this
theorem ax7 {N:List gh}{b x:Int}(h:x≠b):(N.filter (fun l=>!ao b l)).find? (ao x)=N.find? (ao x):=by
 induction N with
 | nil=>rfl
 | cons l N ih=>
  by_cases h1:ao b l=true
  ·have h2:ao x l=false:=by
    simp only [ao,beq_iff_eq] at h1;simp only [ao,h1,beq_eq_false_iff_ne];exact Ne.symm h
   rw [List.filter_cons_of_neg (by simp [h1]),ih,List.find?_cons_of_neg (by simp [h2])]
  ·rw [List.filter_cons_of_pos (by simpa using h1)];by_cases h2:ao x l=true
   ·rw [List.find?_cons_of_pos h2,List.find?_cons_of_pos h2]
   ·rw [List.find?_cons_of_neg h2,List.find?_cons_of_neg h2,ih]
theorem zp {N:List gh}{b:Int}:(N.filter (fun l=>!ao b l)).find? (ao b)=none:=by
 rw [List.find?_eq_none];intro x hx h;have:=(List.mem_filter.1 hx).2;simp [h] at this
theorem te (b:Int)(t:gh):(ma b t).base=t.base:=by unfold ma;split<;>rfl
theorem a05 (b:Int)(t:gh):(ma b t).thd=noRoot b t.thd:=by unfold ma noRoot gh.thd;split<;>rfl
theorem as8 (b x:Int):∀T:List gh,(T.map (ma b)).find? (ao x)=(T.find? (ao x)).map (ma b)
 | []=>rfl
 | t :: T=>by
  have e:ao x (ma b t)=ao x t:=by unfold ao;rw [te]
  rw [List.map_cons];by_cases h:ao x t=true
  ·rw [List.find?_cons_of_pos (by rw [e];exact h),List.find?_cons_of_pos h];rfl
  ·rw [List.find?_cons_of_neg (by rw [e];exact h),List.find?_cons_of_neg h,as8 b x T]
theorem ar7:∀(l:List dx) (T:Int->Option mg) (x:Int),(l.foldl ux T) x=if x∈l.map dx.thread then some ⟨1,((T x).getD ⟨0,0,0,0,0⟩).root,0,0,9⟩ else T x
 | [],_,_=>rfl
 | w :: l,T,x=>by
  rw [List.foldl_cons,ar7 l];unfold ux;by_cases e:x=w.thread
  ·subst e;rw [ai,if_pos (by simp:w.thread∈(w :: l).map dx.thread)];split<;>rfl
  ·rw [af _ _ e];by_cases e2:x∈l.map dx.thread
   ·rw [if_pos e2,if_pos (by simp only [List.map_cons,List.mem_cons];exact .inr e2)]
   ·rw [if_neg e2,if_neg (by simp only [List.map_cons,List.mem_cons,not_or];exact ⟨e,e2⟩)]
theorem ar6 {b:Int}{q:List Wt}{x:Int}:x∈(eu true b q++eu false b q).map dx.thread ↔ ko b q x:=by
 simp only [eu,List.map_append,List.map_map,List.mem_append,List.mem_map,List.mem_filter,Function.comp,Wt.w,Bool.and_eq_true,beq_iff_eq,ko];constructor
 ·rintro (⟨w,⟨h1,h2,_⟩,h3⟩ | ⟨w,⟨h1,h2,_⟩,h3⟩)<;>exact ⟨w,h1,h2,h3⟩
 ·rintro ⟨w,h1,h2,h3⟩;cases hs:w.send with
  | true=>exact .inl ⟨w,⟨h1,h2,hs⟩,h3⟩
  | false=>exact .inr ⟨w,⟨h1,h2,hs⟩,h3⟩
open Classical in
theorem w_.abThr {q:List Wt}{K:a_}(h:w_ q K){b:Int}{y:List dx×List dx}(hb:K.qs b=some y)(x:Int):
 (im K b).thr x=if ko b q x then some ⟨1,((K.thr x).getD ⟨0,0,0,0,0⟩).root,0,0,9⟩ else K.thr x:=by
 show ((((K.qs b).getD ([],[])).1++((K.qs b).getD ([],[])).2).foldl ux K.thr) x=_;rw [ar7,hb,h.qs b y hb];simp only [Option.getD_some];by_cases e:ko b q x
 ·rw [if_pos (ar6.2 e),if_pos e]
 ·rw [if_neg (fun g=>e (ar6.1 g)),if_neg e]
theorem w_.abSome {q:List Wt}{K:a_}(h:w_ q K){b:Int}{y:List dx×List dx}(hb:K.qs b=some y)(x:Int):(∃t,(im K b).thr x=some t) ↔ ∃t,K.thr x=some t:=by
 rw [h.abThr hb];by_cases e:ko b q x
 ·rw [if_pos e];obtain ⟨w,hw,_,rfl⟩:=e;obtain ⟨t,ht,_⟩:=h.th w hw;exact ⟨fun _=>⟨t,ht⟩,fun _=>⟨_,rfl⟩⟩
 ·rw [if_neg e]
theorem w_.abandoned {q:List Wt}{K:a_}(h:w_ q K){b:Int}{y:List dx×List dx}(hb:K.qs b=some y)(T:List gh):w_ (q.foldl (lh b) (T,q)).2 (im K b):=by
 rw [bm8 h.nd];have hq:(im K b).qs=upd K.qs b none:=rfl;refine ⟨fun e z hz=>?_,fun w hw=>?_,fun w hw=>?_,(List.filter_sublist.map _).nodup h.nd⟩
 ·rw [hq] at hz;have hne:e≠b:=fun e1=>by rw [e1,ai] at hz;cases hz
  rw [af _ _ hne] at hz;rw [h.qs e z hz];have:∀s,eu s e (q.filter (fun w=>w.endp≠b))=eu s e q:=fun s=>by
   unfold eu;rw [List.filter_filter];congr 1;apply List.filter_congr;intro w _;by_cases e2:w.endp=e
   ·simp [e2,hne]
   ·simp [e2]
  rw [this,this]
 ·obtain ⟨h1,h2⟩:=List.mem_filter.1 hw;obtain ⟨z,hz⟩:=h.en w h1;exact ⟨z,by rw [hq,af _ _ (by simpa using h2)];exact hz⟩
 ·obtain ⟨h1,h2⟩:=List.mem_filter.1 hw;obtain ⟨t,e1,e2⟩:=h.th w h1;refine ⟨t,?_,e2⟩;rw [h.abThr hb,if_neg]
  ·exact e1
  ·rintro ⟨v,hv,g1,g2⟩;have:=qu h.nd hv h1 g2;subst this;simp [g1] at h2
open Classical in
theorem w_.abRel {q:List Wt}{K:a_}(h:w_ q K){b:Int}{y:List dx×List dx}(hb:K.qs b=some y){T:List gh}(hT:∀x,K.thr x=(T.find? (ao x)).map gh.thd)(x:Int):
 (im K b).thr x=((q.foldl (lh b) (T,q)).1.find? (ao x)).map gh.thd:=by
 rw [h.abThr hb,aq1,hT x];by_cases e:ko b q x
 ·rw [if_pos e,if_pos e];obtain ⟨w,hw,_,rfl⟩:=e;obtain ⟨t,ht,_⟩:=h.th w hw;rw [hT] at ht;simp only;cases hf:T.find? (ao w.thread) with
  | none=>rw [hf] at ht;cases ht
  | some z=>rfl
 ·rw [if_neg e,if_neg e]
theorem Ag.take {S:RS}{S':KS}(h:Ag S S'){p:Nat}(hp:p<S.R.L.length):Ag (jg S p S.R.L[p]) (d_ S' S.R.L[p].slot):=by
 obtain ⟨hC,hD,hws,hQ⟩:=h;obtain ⟨K,D⟩:=S';obtain ⟨R,D',ws,q0⟩:=S;simp only at hC hD hws hQ hp ⊢;subst hD;obtain ⟨c,hc,ht⟩:=hC.rel.cap _ (List.getElem_mem hp);have hty:=sc ht;obtain ⟨hba,hbi,_⟩:=pl ht;generalize hL:nw R.L p R.L[p].up=L' at *
 have hrel:=hC.rel.take hp;rw [hL] at hrel;obtain ⟨F,hF⟩:=hC.rel.tree;obtain ⟨_,_,_,⟨x,hout⟩,honly⟩:=hF.take hp;generalize hs0:R.L[p].slot=s0 at *
 have hsn:s0≠nowhere:=df (hC.inN _ _ hc).1;have hgeo:Geo (upd K.held s0 none) (ez K.st s0):=by
  refine hC.geo.take hc hsn hout ?_ (hC.cap _ _ hc).2.2.2.2.2;intro t y htn hy;obtain ⟨h1,h2⟩:=honly t y hy;refine ⟨h1,?_⟩;rcases h2 with h2 | h2
  ·obtain ⟨z,hz,_⟩:=hF.stands.fact hF.nodup t h2;exact ⟨z,hz⟩
  ·exact absurd h2 htn
 have hold:∀s c',upd K.held s0 none s=some c'->s≠s0/\K.held s=some c':=by
  intro s c' h1;by_cases e:s=s0
  ·rw [e,ai] at h1;cases h1
  ·rw [af _ _ e] at h1;exact ⟨e,h1⟩
 have hkeep:∀s c',s≠s0->K.held s=some c'->upd K.held s0 none s=some c':=fun s c' h1 h2=>by rw [af _ _ h1];exact h2
 have hany:L'.any (ar5 R.L[p].ty R.L[p].base)=true ↔ pp (jq K s0) c.ty c.base:=by
  rw [List.any_eq_true];constructor
  ·rintro ⟨e,he,h1⟩;obtain ⟨c',e1,e2⟩:=hrel.cap e he;simp only [ar5,Bool.and_eq_true,beq_iff_eq] at h1;exact ⟨e.slot,c',e1,by rw [sc e2,h1.1,hty],by rw [(pl e2).1,h1.2,hba]⟩
  ·rintro ⟨s,c',h1,h2,h3⟩;by_cases hex:∃e∈L',e.slot=s
   ·obtain ⟨e,he,rfl⟩:=hex;obtain ⟨c2,e1,e2⟩:=hrel.cap e he;have:some c2=some c':=e1.symm.trans h1;cases this
    exact ⟨e,he,by simp only [ar5,Bool.and_eq_true,beq_iff_eq];exact ⟨by rw [<- sc e2,h2,hty],by rw [<- (pl e2).1,h3,hba]⟩⟩
   ·have:=hrel.emp s (fun e he e1=>hex ⟨e,he,e1⟩);have h1':upd K.held s0 none s=some c':=h1;rw [show upd K.held s0 none s=none from this] at h1';cases h1'
 have hTR:jg ⟨R,D,ws,q0⟩ p R.L[p]=if L'.any (ar5 R.L[p].ty R.L[p].base) then ⟨{R with L:=L'},D,ws,q0⟩ else ae8 ⟨{R with L:=L'},D,ws,q0⟩ R.L[p].ty R.L[p].base R.L[p].bits:=by
  unfold jg;simp only [hL]
 have hinN:∀s c',upd K.held s0 none s=some c'->0<=s.index/\(s.index<bz K s.node\/∃d∈D,d.1=s.node/\s.index<d.2):=fun s c' h1=>hC.inN s c' (hold s c' h1).2
 have hcap:=fun s c' (h1:upd K.held s0 none s=some c')=>hC.cap s c' (hold s c' h1).2
 have hrt:=fun s c' (h1:upd K.held s0 none s=some c')=>hC.rt s c' (hold s c' h1).2
 have hdap:=fun d (hd:d∈D) s c' (h1:upd K.held s0 none s=some c') (hu:c'.isU=false)=>hC.dap d hd s c' (hold s c' h1).2 hu
 have hQ0:w_ q0 (jq K s0):=hQ.same rfl (fun _ t e1 e2=>⟨t,e1,e2⟩);have hhno:=fun s b n r (h1:upd K.held s0 none s=some (.node b n r))=>hC.hno s b n r (hold s _ h1).2
 have hhth:=fun s b n r (h1:upd K.held s0 none s=some (.task b n r))=>hC.hth s b n r (hold s _ h1).2
 have hhen:=fun s b n r g (h1:upd K.held s0 none s=some (.endpoint b n r g))=>hC.hen s b n r g (hold s _ h1).2
 -- of an object that is not the one taken,a capability is left
 have hnod:∀b y,K.nodes b=some y->(c.ty≠2\/c.base≠b)->∃s n r,upd K.held s0 none s=some (.node b n r):=by
  intro b y hy hne;obtain ⟨_,_,_,s,n,r,g⟩:=hC.nod b y hy;refine ⟨s,n,r,hkeep _ _ (fun e=>?_) g⟩;rw [e,hc] at g;cases g;rcases hne with h1 | h1<;>exact h1 rfl
 have hthd:∀b y,K.thr b=some y->(c.ty≠4\/c.base≠b)->∃s n r,upd K.held s0 none s=some (.task b n r):=by
  intro b y hy hne;obtain ⟨s,n,r,g⟩:=hC.thd b y hy;refine ⟨s,n,r,hkeep _ _ (fun e=>?_) g⟩;rw [e,hc] at g;cases g;rcases hne with h1 | h1<;>exact h1 rfl
 have hque:∀b y,K.qs b=some y->(c.ty≠3\/c.base≠b)->∃s n r g,upd K.held s0 none s=some (.endpoint b n r g):=by
  intro b y hy hne;obtain ⟨s,n,r,q,g⟩:=hC.que b y hy;refine ⟨s,n,r,q,hkeep _ _ (fun e=>?_) g⟩;rw [e,hc] at g;cases g;rcases hne with h1 | h1<;>exact h1 rfl
 rw [hTR];by_cases hh:pp (jq K s0) c.ty c.base
 ·rw [if_pos (hany.2 hh),jn hc hh];refine ⟨⟨hrel,hgeo,hinN,hC.dm,hC.dn,?_,hcap,hhno,?_,hhth,?_,hhen,hC.nd,hC.td,hC.nb,hC.tb,hrt,hdap⟩,rfl,hws,hQ0⟩
  ·intro b y hy;obtain ⟨g1,g2,g3,_⟩:=hC.nod b y hy;refine ⟨g1,g2,g3,?_⟩;by_cases hne:c.ty≠2\/c.base≠b
   ·exact hnod b y hy hne
   ·obtain ⟨s,c',h1,h2,h3⟩:=hh;rw [not_or,Decidable.not_not,Decidable.not_not] at hne;rw [hne.1] at h2;rw [hne.2] at h3;cases c'<;>simp only [KCap.ty] at h2<;>first | omega | skip
    simp only [KCap.base] at h3;subst h3;exact ⟨s,_,_,h1⟩
  ·intro b y hy;by_cases hne:c.ty≠4\/c.base≠b
   ·exact hthd b y hy hne
   ·obtain ⟨s,c',h1,h2,h3⟩:=hh;rw [not_or,Decidable.not_not,Decidable.not_not] at hne;rw [hne.1] at h2;rw [hne.2] at h3;cases c'<;>simp only [KCap.ty] at h2<;>first | omega | skip
    simp only [KCap.base] at h3;subst h3;exact ⟨s,_,_,h1⟩
  ·intro b y hy;by_cases hne:c.ty≠3\/c.base≠b
   ·exact hque b y hy hne
   ·obtain ⟨s,c',h1,h2,h3⟩:=hh;rw [not_or,Decidable.not_not,Decidable.not_not] at hne;rw [hne.1] at h2;rw [hne.2] at h3;cases c'<;>simp only [KCap.ty] at h2<;>first | omega | skip
    simp only [KCap.base] at h3;subst h3;exact ⟨s,_,_,_,h1⟩
 ·rw [if_neg (fun e=>hh (hany.1 e)),fo hc hh]
  rw [<- hty,<- hba,<- hbi];have hnh:∀s c',upd K.held s0 none s=some c'->c'.ty=c.ty->c'.base≠c.base:=fun s c' h1 h2 h3=>hh ⟨s,c',h1,h2,h3⟩
  cases c with
  | untyped b n m=>
   refine ⟨⟨hrel,hgeo,hinN,hC.dm,hC.dn,?_,hcap,hhno,?_,hhth,?_,hhen,hC.nd,hC.td,hC.nb,hC.tb,hrt,hdap⟩,rfl,hws,hQ0⟩
   ·intro b y hy;obtain ⟨g1,g2,g3,_⟩:=hC.nod b y hy;exact ⟨g1,g2,g3,hnod b y hy (.inl (by simp [KCap.ty]))⟩
   ·intro b y hy;exact hthd b y hy (.inl (by simp [KCap.ty]))
   ·intro b y hy;exact hque b y hy (.inl (by simp [KCap.ty]))
  | frame b n m=>
   refine ⟨⟨hrel,hgeo,hinN,hC.dm,hC.dn,?_,hcap,hhno,?_,hhth,?_,hhen,hC.nd,hC.td,hC.nb,hC.tb,hrt,hdap⟩,rfl,hws,hQ0⟩
   ·intro b y hy;obtain ⟨g1,g2,g3,_⟩:=hC.nod b y hy;exact ⟨g1,g2,g3,hnod b y hy (.inl (by simp [KCap.ty]))⟩
   ·intro b y hy;exact hthd b y hy (.inl (by simp [KCap.ty]))
   ·intro b y hy;exact hque b y hy (.inl (by simp [KCap.ty]))
  | endpoint b n r g=>
   obtain ⟨yq,hq⟩:=hC.hen _ _ _ _ _ hc;have hsome:=hQ0.abSome (b:=b) hq;show Ag ⟨{R with L:=L',T:=(q0.foldl (lh b) (R.T,q0)).1},D,ws,(q0.foldl (lh b) (R.T,q0)).2⟩ ⟨im (jq K s0) b,D⟩;refine ⟨⟨⟨hrel.cap,hrel.emp,hrel.tree,hrel.nodes,hQ0.abRel hq hC.rel.thr⟩,hgeo,hinN,hC.dm,hC.dn,?_,hcap,hhno,?_,?_,?_,?_,hC.nd,?_,hC.nb,?_,hrt,hdap⟩,rfl,hws,hQ0.abandoned hq _⟩
   ·intro b y hy;obtain ⟨g1,g2,g3,_⟩:=hC.nod b y hy;exact ⟨g1,g2,g3,hnod b y hy (.inl (by simp [KCap.ty]))⟩
   ·intro b' y hy;obtain ⟨t0,ht0⟩:=(hsome b').1 ⟨y,hy⟩;exact hthd b' t0 ht0 (.inl (by simp [KCap.ty]))
   ·intro s b' n' r' h1;exact (hsome b').2 (hhth s b' n' r' h1)
   ·intro b' y hy;by_cases e:b'=b
    ·have hy':upd K.qs b none b'=some y:=hy;rw [e,ai] at hy';cases hy'
    ·have hy':upd K.qs b none b'=some y:=hy;rw [af _ _ e] at hy';exact hque b' y hy' (.inr (by simp only [KCap.base];exact Ne.symm e))
   ·intro s b' n' r' g' h1;have:=hnh s _ h1 rfl;simp only [KCap.base] at this;obtain ⟨z,hz⟩:=hhen _ _ _ _ _ h1;exact ⟨z,by show upd K.qs b none b'=_;rw [af _ _ this];exact hz⟩
   ·show ((q0.foldl (lh b) (R.T,q0)).1.map gh.base).Nodup;rw [ad2];exact hC.td
   ·intro t ht;have:t.base∈(q0.foldl (lh b) (R.T,q0)).1.map gh.base:=List.mem_map.2 ⟨t,ht,rfl⟩;rw [ad2] at this;obtain ⟨t',h1,h2⟩:=List.mem_map.1 this;rw [<- h2];exact hC.tb t' h1
  | task b n r=>
   show Ag ⟨{R with L:=L',T:=R.T.filter (fun t=>!ao b t)},D,ws,o_ b q0⟩ ⟨bd6 (jq K s0) b,D⟩;refine ⟨⟨⟨hrel.cap,hrel.emp,hrel.tree,hrel.nodes,?_⟩,hgeo,hinN,hC.dm,hC.dn,?_,hcap,hhno,?_,?_,?_,?_,hC.nd,?_,hC.nb,?_,hrt,hdap⟩,rfl,hws,hQ0.ended b rfl (fun x hx=>af _ _ hx)⟩
   ·intro x;show upd K.thr b none x=_;by_cases e:x=b
    ·rw [e,ai,zp];rfl
    ·rw [af _ _ e,ax7 e];exact hC.rel.thr x
   ·intro b y hy;obtain ⟨g1,g2,g3,_⟩:=hC.nod b y hy;exact ⟨g1,g2,g3,hnod b y hy (.inl (by simp [KCap.ty]))⟩
   ·intro b' y hy;have hy':upd K.thr b none b'=some y:=hy;by_cases e:b'=b
    ·rw [e,ai] at hy';cases hy'
    ·rw [af _ _ e] at hy';exact hthd b' y hy' (.inr (by simp only [KCap.base];exact Ne.symm e))
   ·intro s b' n' r' h1;have:=hnh s _ h1 rfl;simp only [KCap.base] at this;obtain ⟨t,ht⟩:=hhth _ _ _ _ h1;exact ⟨t,by show upd K.thr b none b'=_;rw [af _ _ this];exact ht⟩
   ·intro b' y hy;have hy':(K.qs b').map (ai0 b)=some y:=hy;cases hk:K.qs b' with
    | none=>rw [hk] at hy';cases hy'
    | some z=>exact hque b' z hk (.inl (by simp [KCap.ty]))
   ·intro s b' n' r' g' h1;obtain ⟨z,hz⟩:=hhen _ _ _ _ _ h1;exact ⟨ai0 b z,by show (K.qs b').map (ai0 b)=_;rw [hz];rfl⟩
   ·exact (List.filter_sublist.map _).nodup hC.td
   ·intro t ht;exact hC.tb t (List.mem_filter.1 ht).1
  | node b n r=>
   obtain ⟨n3,n6,hnb⟩:=hC.hno _ _ _ _ hc;obtain ⟨q1,q2⟩:=xw n3 n6;have hI:bz K b=pw (n-2).toNat:=by unfold bz;rw [hnb];show pw n.toNat / 4=_;rw [q1];simp [pw]
   obtain ⟨b0,b1,b2,_⟩:=hC.nod b _ hnb;have hpos:=gy (n-2).toNat;have hle:bz K b<=16:=ab3 hC b;have hbD:b∉D.map Prod.fst:=by
    intro e;obtain ⟨d,hd,e1⟩:=List.mem_map.1 e;have:=(hC.dm d hd).2.2.2.2;rw [e1,hnb] at this;cases this
   show Ag ⟨{L:=L',N:=R.N.filter (fun l=>!ek b l),T:=R.T.map (ma b)},D++[(b,pw (n-2).toNat)],ws,q0⟩ ⟨ah6 (jq K s0) b,D++[(b,bz K b)]⟩;rw [hI];have hdap2:∀d∈D++[(b,pw (n-2).toNat)],∀s c',upd K.held s0 none s=some c'->c'.isU=false->c'.base+pw c'.bits.toNat<=d.1\/d.1+8<=c'.base:=by
    intro d hd s c' h1 hu;rcases List.mem_append.1 hd with h2 | h2
    ·exact hdap d h2 s c' h1 hu
    ·simp at h2;subst h2;obtain ⟨e1,e2⟩:=hold s c' h1;have h8:8<=pw n.toNat:=by
      have:8=pw 3:=rfl;rw [this];exact zq (by omega)
     rcases hC.geo.apart s s0 c' _ e1 e2 hc with g | g | g | g
     ·have g:c'.base+pw c'.bits.toNat<=b\/b+pw n.toNat<=c'.base:=g;rcases g with g | g
      ·exact .inl g
      ·exact .inr (by show b+8<=_;omega)
     ·exact absurd g.2.2.1 (hnh s c' h1 g.2.1)
     ·rw [hu] at g;cases g.1
     ·cases g.1
   refine ⟨⟨⟨hrel.cap,hrel.emp,hrel.tree,?_,?_⟩,hgeo,?_,?_,?_,?_,hcap,?_,?_,?_,?_,hhen,?_,?_,?_,?_,hrt,hdap2⟩,rfl,hws,?_⟩
   ·intro x;show (upd K.nodes b none x).getD 0=dw (R.N.filter (fun l=>!ek b l)) x;unfold dw;by_cases e:x=b
    ·rw [e,ai,ac5];rfl
    ·rw [af _ _ e,a51 e];have:=hC.rel.nodes x;unfold dw at this;exact this
   ·intro x;show (K.thr x).map (noRoot b)=_;rw [as8,hC.rel.thr x];cases R.T.find? (ao x) with
    | none=>rfl
    | some t=>simp only [Option.map_some,a05]
   ·intro s c' h1;obtain ⟨g1,g2⟩:=hinN s c' h1;refine ⟨g1,?_⟩;rcases g2 with g2 | ⟨d,hd,g2,g3⟩
    ·by_cases e:s.node=b
     ·right;refine ⟨(b,pw (n-2).toNat),by simp,e.symm,?_⟩;show s.index<pw (n-2).toNat;rw [<- hI,<- e];exact g2
     ·left;show s.index<(upd K.nodes b none s.node).getD 0;rw [af _ _ e];exact g2
    ·exact .inr ⟨d,by simp [hd],g2,g3⟩
   ·intro d hd;rcases List.mem_append.1 hd with h1 | h1
    ·obtain ⟨g1,g2,g3,g4,g5⟩:=hC.dm d h1;refine ⟨g1,g2,g3,g4,?_⟩;show upd K.nodes b none d.1=none;by_cases e:d.1=b
     ·rw [e,ai]
     ·rw [af _ _ e];exact g5
    ·simp at h1;subst h1;exact ⟨b0,b1,by dsimp only;omega,by dsimp only;omega,ai _ _ _⟩
   ·rw [List.map_append];exact tu hC.dn hbD
   ·intro b' y hy;have hy':upd K.nodes b none b'=some y:=hy;by_cases e:b'=b
    ·rw [e,ai] at hy';cases hy'
    ·rw [af _ _ e] at hy';obtain ⟨g1,g2,g3,_⟩:=hC.nod b' y hy';exact ⟨g1,g2,g3,hnod b' y hy' (.inr (by simp only [KCap.base];exact Ne.symm e))⟩
   ·intro s b' n' r' h1;have:=hnh s _ h1 rfl;simp only [KCap.base] at this;obtain ⟨g1,g2,g3⟩:=hhno _ _ _ _ h1;exact ⟨g1,g2,by show upd K.nodes b none b'=_;rw [af _ _ this];exact g3⟩
   ·intro b' y hy;have hy':(K.thr b').map (noRoot b)=some y:=hy;cases ht:K.thr b' with
    | none=>rw [ht] at hy';cases hy'
    | some t=>exact hthd b' t ht (.inl (by simp [KCap.ty]))
   ·intro s b' n' r' h1;obtain ⟨t,ht⟩:=hhth _ _ _ _ h1;exact ⟨noRoot b t,by show (K.thr b').map (noRoot b)=_;rw [ht];rfl⟩
   ·intro b y hy;exact hque b y hy (.inl (by simp [KCap.ty]))
   ·exact (List.filter_sublist.map _).nodup hC.nd
   ·rw [List.map_map,show (gh.base ∘ ma b)=gh.base from by funext t;exact te b t];exact hC.td
   ·intro l hl;exact hC.nb l (List.mem_filter.1 hl).1
   ·intro t ht;obtain ⟨t',ht',rfl⟩:=List.mem_map.1 ht;rw [te];exact hC.tb t' ht'
   ·refine hQ0.same rfl (fun x t e1 e2=>⟨noRoot b t,?_,?_⟩)
    ·show (K.thr x).map (noRoot b)=_;rw [show K.thr x=some t from e1];rfl
    ·unfold noRoot;split<;>exact e2
end Go.Proofs.YtdpjgflemddekaaDoor
